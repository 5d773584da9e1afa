import PyProof.Rows.All
import Wide.All
import OpenK.AllK
import Wide.FinOn
import PyProof.EqAt
import PyProof.EqKinds
import PyProof.TupleCall
import KE.KDictSum
import PyProof.SliceStr2
import PyProof.NeKinds
import PyProof.StrWalks
import PyProof.ConsumeWalk
import KE.KSortTup
import PyProof.StationsW
import OpenK.KOwn
import PyProof.RulesAs
import PyProof.NsDelKeeps
import PyProof.InstStoreFacts
import OpenK.KCls
import PyProof.ExcArgs
import PyProof.ExcAttrAll.ValueError
import KE.KIsAll
import PyProof.Rows.SetFrom
import PyProof.Rows.SortStr
import PyProof.SumAny
import PyProof.EnumMake
import KE.KRevIter
import PyProof.MeetsStr
import PyProof.ListRange
import PyProof.Rows.Range3
import KE.KDictList
import PyProof.PureStr
import PyProof.WalkInts
import PyProof.ConsumeS
import PyProof.ZipIter
import PyProof.AttrMissHeap
import KE.KDictOf
import PyProof.DictItems
import KE.KItemsList
import KE.KEqDict
import PyProof.DictValues
import PyProof.DictWalks
import PyProof.Rows.StrNews
import PySem.Challenge.RW_creasecourt_k46_barred_refused
open Array renaming mk->U1,getElem?_eq_some_iff->VA,getD->WI,getElem?_toList->WZ,length_toList->Xp,getElem?_eq_none->X5,toList_inj->Y3,replicate->Zh,getElem?_setIfInBounds->Zi,getElem?_eq_getElem->ZH,append_assoc->a0J,toList->a2g,map->a3q
open Bool renaming and_eq_true->Ts,false_eq_true->TQ,false_ne_true->UN,or_eq_true->Wb,and_eq_true_iff->Wr,not_eq_true'->WS,eq_iff_iff->Xo,or_true->Xy,not_true->XU,not_false->ZG,or_false->ZW,and_true->a2f
open Classical renaming choose->Wi,choose_spec->WM
open False renaming elim->UC
open ForInStep renaming yield->Wv
open Int renaming emod_lt_of_pos->UY,emod_nonneg->Vc,toNat_natCast->XS,mul_le_mul->a2e
open List renaming length_map->Tt,getElem?_eq_some_iff->Tw,set_cons_zero->Tx,set_cons_succ->TC,size_toArray->TU,map_cons->T4,getElem?_eq_getElem->T8,prefix_refl->T9,length_append->Ua,mem_cons->Ug,replicate->Uh,length_cons->Um,mem_cons_of_mem->Uo,cons_append->Ur,nil_append->Ut,getElem?_map->Uu,mem_cons_self->Uy,getElem?_append_left->Uz,all_cons->UA,range->UB,getElem?_set_self->UD,mem_of_getElem?->UG,map_append->UH,zipWith_cons_cons->UJ,map_map->UK,find?_cons->UM,mem_singleton->UW,mem_map->UZ,getElem?_eq_none_iff->U0,mem_append_right->U4,length_filter_le->U5,mem_append->U7,getD->Vb,getElem?_set_ne->Vh,pairwise_iff_getElem->Vi,mem_range->Vn,length->Vu,all_eq_true->Vv,getElem?_append_right->VB,length_set->VG,replicate_succ->VI,filterMap_cons->VJ,filter_append->VP,length_replicate->VQ,any_cons->VU,length_take->V2,getElem?_replicate->V3,zip_cons_cons->V8,flatten_cons->Wg,mem_of_find?_eq_some->Wz,getElem_of_mem->WA,mem_filter->WE,mem_filterMap->WK,take_append_drop->W0,take_length->W3,not_mem_nil->W4,lookup_cons->W5,lookup->Xf,nodup_cons->Xj,length_nil->Xk,append_nil->Xl,map_congr_left->Xw,length_pos_iff->Xx,take_succ->XC,find?_eq_none->XD,contains_cons->XE,reverse_cons->XR,length_drop->XZ,filter_cons->X0,range_succ_eq_map->X7,map_nil->X8,set_append_right->Yh,length_singleton->Yi,getElem?_eq_none->Yj,range'->Yq,forall_mem_cons->Yr,zip_nil_right->YH,nodup_append->YM,length_range->YN,getElem?_set->YO,find?_append->YQ,any_map->YR,getElem_mem->Y9,range_succ->Zj,of_mem_zip->Zk,length_zip->Zl,foldl_cons->Zm,idxOf_lt_length_of_mem->Zx,drop_eq_getElem_cons->ZP,length_eq_zero_iff->Z0,zipWith->Z5,take_of_length_le->Z6,all_map->Z7,mem_iff_getElem?->a0p,getElem?_zipWith->a0q,dropLast_eq_take->a0r,mem_append_left->a0y,flatMap_append->a0G,foldl->a0Y,pairwise_map->a1s,map_inj_left->a1t,append_assoc->a1u,range'_succ->a1C,ext_getElem->a1D,range_zero->a1M,find?_some->a1N,filter_nil->a1O,tail_drop->a1S,drop_zero->a1T,map_id'->a2u,tail->a3F
open List.Pairwise renaming nil->ZE,map->a2J,imp->a2K
open List.cons renaming injEq->a0z
open Nat renaming le_refl->TK,ne_of_lt->TV,lt_of_lt_of_le->T6,zero_le->UP,le_trans->UU,ne_of_gt->Vq,lt_irrefl->VO,le_succ->Ws,lt_succ_self->Wx,lt_or_ge->Wy,lt_trichotomy->WW,lt_trans->WX,succ_le_succ->Xc,not_lt_zero->Xv,le_of_lt->XA,not_lt->XI,le_of_eq->Ye,succ_pos->YZ,succ_mul->Y0,lt_succ_of_lt->Y1,le_succ_of_le->Y2,min_eq_left->Zv,mul_le_mul->ZO,exists_eq_add_of_le->Z4,le_of_lt_succ->a1B,le_of_not_lt->a1L,lt_succ_iff->a1R,sub_zero->a2G,add_zero->a2H,add_comm->a2I,log2_lt->a3l,mod_lt->a3E
open Ne renaming symm->Va
open Option renaming bind_eq_some_iff->Tj,map_eq_some_iff->Tq,bind_some->T3,map_some->Ui,isSome_iff_exists->Uv,isSome_map->XH,getD_none->a0X,none->a2d
open Option.some renaming inj->Uc,injEq->a3D
open Or renaming inr->a0x,inl->a1A
open Prod renaming ext->VT,ext_iff->Z3
open Prod.mk renaming inj->Yd
open PyProof.Rows renaming seqObj->Vs,callWith_type1->VE,callWith_builtin1->VR,IntsAre->Wh,IsTup->Wq,envOfC->WU,AllBare->X9,sortedAll_old->YG,sortedAll_at->YK,subscriptTail->Y5,listUpdate_at->Y6,lt_int->Zt,seqEpoch_at->ZT,entry_list_sort->ZZ,sortedHeap->a0d,slot_list_sort->a0e,args_list_sort->a0i,Subscript_->a0k,subscriptTail_builtinR->a1c,args_cons->a2B,list_sort_plain->a2T,get?_update_seq->a2V,wpAny_notIn_heap->a2W,sorted_ints->a2X,pow_int_small->a2Y,pow_int->a2Z,oneLt_int->a3a,mul_int->a3b,mirror_perm->a3c,floordiv_int->a3d,entry_proto_collect'->a3e,entry_list_iadd'->a3f,call_len_slot->a3g,bubble_perm->a3h,bubble->a3i,assign_Tuple_tuple->a3j,assign_Tuple->a3k,tail_any->a3u
open PyProof.Rows.Boot renaming dict->WV,isinstance->XY,sorted->Yc,tuple->Yg,list->Yn,int->Yp,sum->a1k,str->a1l,len->a1m,bool->a1n,any->a1o,all->a1p,ValueError->a1q
open PySem renaming wpAny_bind->Tp,Shared->Tv,wpAny_pure->TF,Expr->TJ,sizeLine->TL,wpAny->TY,model->T7,Program->Ub,sizeLine_eq->Ud,Around->Ue,starEach->Ul,World->Up,wpAny_mono->Us,mainGlobals->Ux,Heap->UE,wpAny_loadPart_at->UI,wpAny_holding->UQ,compareOp->UX,mem_of_lookup->U2,DictEntry->Vf,Pos->Vk,bootBuiltins->Vl,cLine->Vm,Params->Vo,wpAny_newObj_type->Vp,FuncData->Vt,wpAny_Call_Name_kw->Vx,excClassObj->Vy,wpAny_truthy_bool->VC,sysModules->VL,assignEach->VM,rawInt->VW,backTo->VX,treeTable->VY,codeAny_builtin->VZ,wpAny_field->V0,NameKind->V1,typeLookup->V4,Scope->V5,wpAny_isSubtype_exc->V6,wpAny_call_entry->V9,sliceBounds->Wc,wpAny_setField_rec->We,wpAny_passesOwn->Wl,binaryOp->Wm,plainId_quiet->Wn,behindInMarks->Wo,wpAny_pyIter_list->Wu,wpAny_setField->WB,call_meets->WC,Keyword->WG,attributeBase->WN,wpAny_execs_nil->WO,wpAny_pyIter_tuple->WT,wpAny_dictEntries->W6,foldedSetIterable->W7,compEnvC->W8,Paired->Xb,wpAny_notOrdered_dict->Xh,CmpOp->Xm,wpAny_execs_cons->Xq,swapsWith->Xr,codeAny_call_builtin->Xz,pyNext->XF,codeAny_mono->XN,codeAny->XQ,getattributeRaised->XX,Env->X2,intKind->X6,wpAny_standAt->Yb,tupleKind->Yk,checkBuiltinCall->Yl,SetTable->Ym,wpAny_typeOf->Ys,wpAny_pyNext_list_item->Yt,wpAny_isOneOf_itemiter->Yu,wpAny_call->Yv,OsState->Yx,wpAny_dictEpoch->Yy,letOwnedTupleGo->Yz,wpAny_pyNext_list_end->YA,keywordEach->YI,firstArgMember->YJ,wpAny_newList->Y4,assign->Zc,slot_list_getitem->Zo,getAttr?->Zp,callerA->Zq,bindArgs->Zr,atKey->Zs,OwnTail->Zu,Model->Zw,BindsTo->Zz,setFlight->ZI,noteFrame->ZJ,PassesOwn->ZN,subscripted->ZS,wpAny_updateSeq->ZY,valueAt->Z1,getItem->Z2,wpAny_rule->Z9,wpAny_newTuple->a0a,wpAny_load->a0b,wpAny_Expr_any->a0c,setField->a0f,pyIter->a0g,backToKw->a0h,Result->a0l,Operator->a0o,evalArgs_none->a0u,wpAny_getItem_list_slice->a0C,swappedStores->a0D,ExceptHandler->a0I,wpAny_pyNext_tuple_item->a0K,wpAny_callSpecial?_slot->a0L,wpAny_Call_method0_late->a0M,slicePick->a0N,onTheHeap->a0O,bindL->a0Q,bindC->a0R,wpAny_pyNext_tuple_end->a1a,wpAny_Assign_Subscript->a1b,seqIndex_neg->a1d,isTrue->a1h,wpAny_isOneOf_keyiter->a1v,builtinLookup_eq_fast->a1w,unbindBehindTheSuite->a1H,seqIndex_of->a1I,IntMulOk->a1P,GenState->a1Q,wpAny_Name->a1U,typeIs_int->a1V,sub_AttributeError->a1W,sliceRange->a1X,isInstance->a1Y,getAttrBy?->a1Z,closureFor->a2a,builtinsNs->a2b,wpAny_pyIter_slot->a2h,wpAny_pyIter_enum->a2i,wpAny_assign_Name->a2j,wpAny_Return_some->a2k,wpAny_Assign_Name->a2l,relabel->a2m,leaving->a2n,call_sum_walkAnyS->a2o,wpAny_pyIter_zip->a2v,wpAny_isInstance->a2w,lastMarks->a2x,kt_code_dict_new->a2y,cellsFrom->a2A,Tok->a2C,Sem->a2D,call->a2E,wpAny_specialOf->a2P,wpAny_loadPart'->a2Q,typeNameOfWhole->a2R,typeLookup_type->a2S,importedModules->a2U,wpAny_tryCatch->a3r,wpAny_fieldsOf->a3s,typeOf->a3t,refuseLoop_ref->a3v,recursionLimit->a3w,newExc->a3x,isSubtype_stop->a3B,callType_codes->a3C
open PySem.Around renaming under_plainId->Vr,under->ZX
open PySem.Builtin renaming sorted->a0t
open PySem.Builtin.Dict renaming updateFrom->Wt,showsAll->WH,selfAndRest->YT,addKeywords->YU,pairItems->Zb,pendingCount->a3n,noArgs->a3o,dictSlotNone->a3p
open PySem.Builtin.Dict_items renaming ownsTuple->WD,ownedTupleIsFree->XJ,ownedTupleFields->XM,pairFromOwner->XT,newIterator->a1F,dictOf->a1G
open PySem.Builtin.Int renaming intBits->Uq,intTooBig->WL
open PySem.Builtin.List renaming listTooLong->Wj,listExtendWith->YF,listSameRef->YS
open PySem.Builtin.ObjectAttr renaming storeInDict->X3,newKeyGuard->a1E
open PySem.Builtin.Range renaming rangeSize->a2O
open PySem.Builtin.Str renaming occurrences->Vd
open PySem.Builtin.Tuple renaming tupleHashOf->a2M,tupleCompareSizes->a2N
open PySem.Calls renaming callWith_builtin->X4,spliced_cons->YE,spliced_nil->YL,Name_function_global->Zy,call_function_entry->ZF,evalArgs_plain->a0s
open PySem.Challenge renaming rw_creasecourt_k46_barred_refused->Tz,pw_creasecourt_k46_barred_refused->UT
open PySem.Code renaming isFrame->Z8,quiet_builtin->a0Z,frames->a2L
open PySem.Data renaming fields->TR,dict->Uj,cls->U8,cell->Za,seq->a0B
open PySem.EntryCells renaming newEntry->ZR
open PySem.F renaming excBase_ValueError->VN,store_ValueError->XG,attrBase_ValueError->Y8,slot_dict_items->ZA,plainAttrs_list->ZC,entry_bexc_ga->ZV
open PySem.Heap renaming get?_push_of_some->Tu,lt_size->TB,get?_push_size->TZ,get?_update_other->UL,get?_update_self->U6,size_push->WQ,SameBut->WR,get?_none_of_le->Xg,ExtBut->Zg,get?_update_ne->a0H
open PySem.Heap.DictOfH renaming new->a3m
open PySem.Heap.IsSliceOf renaming new->Zn
open PySem.Heap.IsTuple renaming push->W2
open PySem.Heap.SameBut renaming update->X1,refl->ZQ
open PySem.NameKind renaming free->VH,cell->VS
open PySem.Obj renaming mapSeq->Ve,data_mapFields->Wa,isFreed_of_fields->Wf,mapFields->Xe,cls_mapFields->YY
open PySem.Paired renaming length->ZD,snoc->a2c
open PySem.PassesOwn renaming never->a0w
open PySem.SeqAt renaming ne_of_list_tuple->Vz,EqAt->YC
open PySem.SeqAt.EqAt renaming int_int->ZU
open PySem.SetTable renaming below->Xi,slot->a1i,has->a1x
open PySem.SetTable.below renaming go->Xa
open PySem.SetTable.layClean renaming free->YB
open PySem.SetTable.probe renaming go->W9
open PySem.Str renaming ofString->TN
open PySem.Value renaming type->Tn,builtin->TH,ref->TM,int->TX,bool->T5,none->Uw,str->YV,float->a2q,bytes->a2r
open PySem.W renaming Frag->To,behindTheImports->Uk,keepIn->UO,nsIn->UR,fnOf->US,findIn->U3,boot_drawn->Vg,looks_findIn->VD,kia_one->VF,mg_of->V7,Looks->Ww,boot_heap->WY,codeIn->Xs,specialIn->XB,topFrame->XW,excIn->Yo,callWith_K->Yw,methodObj->YD,kitOne->Zd,InstAt->Zf,hashAt->ZK,boot_toks->ZL,cellsFrom_some->ZM,tail_of_in->a0m,isNs_of_in->a0n,kitx_list->a0v,plainGet->a0F,kas_tail3->a0P,takesIn->a0S,instObj->a0T,findObj->a0U,findCls->a0V,OpenLaw->a0W,segRun->a1e,kas_rev->a1f,kas_descPart->a1g,notCls->a1j,mroIn->a1y,WalkO->a1z,piecesOf->a1J,isFn->a1K,kas_place->a2z,kas_sort->a3y,kas_desc->a3z,kHook->a3A
open PySem.W.KasFin renaming intro->a2t
open PySem.W.KasT renaming ret->a0A
open PySem.W.Looks renaming here->Vj
open PySem.W.OpenLaw renaming row->U9
open PySem.W.OpenRow renaming toRowW->a1r
open PySem.W.RowW renaming records->a2s
open PySem.W.WData renaming int->Xd,weightAll->Xu,layable->Y7,weight->Ze,layableAll->a2F
open PySem.W.WShape renaming has->a2p
open PySem.Walks renaming tuple->a0j,list->a0E
open Sum renaming inr->YW,inl->YX
open True renaming intro->WJ
local macro_rules|`(tactic| omega) => `(tactic| lia)
set_option compiler.extract_closed false
set_option Elab.async false
set_option linter.all false
set_option maxRecDepth 100000
set_option linter.all false
namespace L2
open PySem PySem.Spec PyProof.Rows
noncomputable abbrev aX:=Sum Int Str
noncomputable def uA:aX->Value->Bool
 | .inl k,v=>Value.isInt k v
 | .inr x,v=>Value.isStrOf x v
noncomputable def z8 (w:Up):aX->Int
 | .inl k=>hashInt k
 | .inr x=>hashStr w x
theorem iO:∀ {k:aX}{v:Value},uA k v=true->(∃ i t,k=YX i/\v=TX i t)\/(∃ x t,k=YW x/\v=YV x t)
 | .inl i,v,h=>by
  obtain ⟨t,e⟩:=Value.isInt_shape (k:=i) (v:=v) h
  exact .inl ⟨i,t,rfl,e⟩
 | .inr x,v,h=>by
  obtain ⟨t,e⟩:=Value.isStrOf_shape (x:=x) (v:=v) h
  exact .inr ⟨x,t,rfl,e⟩
theorem Fz (a b:Int):decide ((YX a:aX)=YX b)=(a == b):=by
 by_cases e:a=b
 ·subst e;simp
 ·have h:¬ (YX a:aX)=YX b:=fun q=>e (Sum.inl.inj q)
  rw [decide_eq_false h]
  exact (beq_eq_false_iff_ne.mpr e).symm
theorem FA (a b:Str):decide ((YW a:aX)=YW b)=decide (a=b):=by
 by_cases e:a=b
 ·subst e;simp
 ·have h:¬ (YW a:aX)=YW b:=fun q=>e (Sum.inr.inj q)
  rw [decide_eq_false h,decide_eq_false e]
theorem FC (a:Int)(b:Str):decide ((YX a:aX)=YW b)=false:=decide_eq_false (fun q=>nomatch q)
theorem FD (a:Str)(b:Int):decide ((YW a:aX)=YX b)=false:=decide_eq_false (fun q=>nomatch q)
noncomputable def kT (prog:Ub)(w:Up):PySem.KeyKind prog w aX where
 is:=uA
 hash:=z8 w
 inj:=fun v a b ha hb=>by
  rcases iO ha with ⟨i,t,rfl,rfl⟩|⟨x,t,rfl,rfl⟩
  ·rcases iO hb with ⟨j,u,rfl,e⟩|⟨y,u,rfl,e⟩
   ·injection e with e1 _;rw [e1]
   ·exact nomatch e
  ·rcases iO hb with ⟨j,u,rfl,e⟩|⟨y,u,rfl,e⟩
   ·exact nomatch e
   ·injection e with e1 _;rw [e1]
 byValue:=fun k v h=>by
  rcases iO h with ⟨i,t,rfl,rfl⟩|⟨x,t,rfl,rfl⟩<;>rfl
 pyHash:=fun hv h=>by
  rcases iO hv with ⟨i,t,rfl,rfl⟩|⟨x,t,rfl,rfl⟩
  ·exact wpAny_pyHash_int h
  ·exact wpAny_pyHash_str h
 eqBool:=fun hu hv h=>by
  rcases iO hu with ⟨i,t,rfl,rfl⟩|⟨x,t,rfl,rfl⟩
  ·rcases iO hv with ⟨j,u,rfl,rfl⟩|⟨y,u,rfl,rfl⟩
   ·rw [Fz] at h;exact wpAny_eqBool_int h
   ·rw [FC] at h;exact SeqAt.EqAt.int_str i t y u _ _ _ _ h
  ·rcases iO hv with ⟨j,u,rfl,rfl⟩|⟨y,u,rfl,rfl⟩
   ·rw [FD] at h;exact SeqAt.EqAt.str_int x t j u _ _ _ _ h
   ·rw [FA] at h;exact wpAny_eqBool_str h
 «strs»:=fun k x t v h=>by
  rcases iO h with ⟨i,u,rfl,e⟩|⟨y,u,rfl,e⟩
  ·exact nomatch e
  ·injection e with e1 _
   subst e1
   cases v<;>rfl
end L2
namespace L2
open PySem PySem.Spec PyProof.Rows
inductive V where
 | non|bl (b:Bool)|int (i:Int)|str (x:Str)|byt (b:Array UInt8)|flt (b:UInt64)|ref (a:Addr)|ty (n:String)
 deriving DecidableEq
noncomputable def RelV:V->Value->Prop
 | .non,u=>u=Uw
 | .bl b,u=>u=T5 b
 | .int i,u=>∃ t,u=TX i t
 | .str x,u=>∃ t,u=YV x t
 | .byt b,u=>∃ t,u=a2r b t
 | .flt b,u=>∃ t,u=a2q b t
 | .ref a,u=>u=TM a
 | .ty n,u=>u=Tn n
noncomputable abbrev Vals:List V->List Value->Prop:=Xb RelV
theorem Vals.length {xs:List V}{us:List Value}(r:Vals xs us):xs.length=us.length:=ZD r
theorem Vals.get:∀ {xs:List V}{us:List Value}{i:Nat}{x:V},Vals xs us->xs[i]? = some x->∃ u,us[i]? = some u/\RelV x u
 | _,_,_,_,.nil,e=>by simp at e
 | _,_,0,_,.cons r _,e=>by simp at e;subst e;exact ⟨_,rfl,r⟩
 | _,_,i+1,x,.cons _ t,e=>by
  obtain ⟨u,h1,h2⟩:=Vals.get (i:=i) (x:=x) t (by simpa using e)
  exact ⟨u,by simpa using h1,h2⟩
theorem Vals.set {x:V}{u:Value}(r:RelV x u):∀ {xs:List V}{us:List Value}(i:Nat),Vals xs us->Vals (xs.set i x) (us.set i u)
 | _,_,_,.nil=>.nil
 | _,_,0,.cons _ t=>.cons r t
 | _,_,i+1,.cons q t=>.cons q (Vals.set r i t)
theorem Vals.append:∀ {xs ys:List V}{us ws:List Value},Vals xs us->Vals ys ws->Vals (xs++ys) (us++ws)
 | _,_,_,_,.nil,s=>s
 | _,_,_,_,.cons r t,s=>.cons r (Vals.append t s)
theorem Vals.take:∀ {xs:List V}{us:List Value}(n:Nat),Vals xs us->Vals (xs.take n) (us.take n)
 | _,_,0,_=>.nil
 | _,_,_+1,.nil=>.nil
 | _,_,n+1,.cons r t=>.cons r (Vals.take n t)
theorem Vals.drop:∀ {xs:List V}{us:List Value}(n:Nat),Vals xs us->Vals (xs.drop n) (us.drop n)
 | _,_,0,r=>r
 | _,_,_+1,.nil=>.nil
 | _,_,n+1,.cons _ t=>Vals.drop n t
noncomputable def RelO:Option V->Option Value->Prop
 | some v,some u=>RelV v u
 | none,none=>True
 | _,_=>False
noncomputable def KV {κ:Type}:List (κ×V)->List (κ×Value)->Prop:=Xb fun (p:κ×V)(q:κ×Value)=>p.1=q.1/\RelV p.2 q.2
noncomputable def kV:aX->V
 | .inl i=>.int i
 | .inr x=>.str x
inductive HO where
 | lst (xs:List V)
 | tup (xs:List V)
 | dK (kvs:List (aX×V))|dT (kvs:List (List aX×V))
 | set (S:Int->Bool)(n:Nat)
 | ins (C dx:Addr)(fs:List (Str×V))
 | own (x:Addr)
 | xd (fs:List (Str×V))
 | met (f x:Addr)
 | rng (lo hi:Int)
 | frz (o:Obj)(u:HO)
 | tbl (ps:Array Value)
 | ext (φ:UE->Prop)
noncomputable abbrev Hp:=Addr->Option HO
noncomputable def aH (H:Hp)(a:Addr)(o:HO):Hp:=fun b=>if b=a then some o else H b
theorem bU {H:Hp}{a:Addr}{o:HO}:aH H a o a=some o:=by unfold aH;rw [if_pos rfl]
theorem aW {H:Hp}{a b:Addr}{o:HO}(h:b≠a):aH H a o b=H b:=by unfold aH;rw [if_neg h]
theorem d9 {H:Hp}{a b:Addr}{o:HO}(h:H a=some o)(h':H b=none):a≠b:=by
 intro e;subst e;rw [h] at h';cases h'
section
variable (P:Ub)(w:Up)
noncomputable def TupN (h:UE)(a:Addr)(xs:Array Value):Prop:=∃ o,h.get? a=some o/\o.cls=.type "tuple"/\∃ n,o.data=.seq xs n/\o.dict=none
theorem TupN.tup {h:UE}{a:Addr}{xs:Array Value}(x:TupN h a xs):Wq h a xs:=let ⟨o,e,c,n,d,_⟩:=x;⟨o,e,c,n,d⟩
theorem TupN.new (h:UE)(items:Array Value):TupN (h.push { cls:=.type "tuple",data:=.seq items }) h.objs.size items:=⟨_,TZ _ rfl,rfl,_,rfl,rfl⟩
noncomputable def ObjOk (H:Hp)(h:UE)(a:Addr):HO->Prop
 | .lst xs=>xs.length<=TL/\∃ (its:List Value)(n:Nat),Vals xs its/\h.get? a=some { cls:=.type "list",data:=.seq its.toArray n }
 | .tup xs=>xs.length<=TL/\∃ its:List Value,Vals xs its/\TupN h a its.toArray
 | .dK kvs=>kvs.length<=TL/\(a == VL)=false/\∃ vs,KV kvs vs/\h.DictOf (kT P w) a vs
 | .dT kvs=>kvs.length<=TL/\(a == VL)=false/\∃ xs:List (List aX×Addr×Value),
   Xb (fun (p:List aX×V)(q:List aX×Addr×Value)=>p.1=q.1/\H q.2.1=some (.tup (p.1.map kV))/\RelV p.2 q.2.2) kvs xs /\
   ∃ o es ep,h.get? a=some o/\o.ExactDict/\o.data=.dict es ep/\es.toList=xs.map (entryOfKey (Yk (kT P w)))/\(xs.map (·.1)).Nodup
 | .set S n=>h.SetOf (X6 P w) a S n
 | .ins C dx fs=>H dx=some (.own a)/\fs.length<=1000/\dx≠a/\h.get? a=some (a0T C dx) /\
   ∃ mA,h.Ns1 dx mA/\(∀ f,RelO (fs.lookup f) (mA f))/\PySem.Within mA (fs.map (·.1))
 | .own _=>∃ o,h.get? a=some o
 | .xd fs=>∃ mA,h.Ns1 a mA/\∀ f,RelO (fs.lookup f) (mA f)
 | .rng lo hi=>∃ t u v,h.get? a=some { cls:=.type "range",data:=.fields #[.int lo t,.int hi u,.int 1 v] }
 | .frz o u=>h.get? a=some o/\ObjOk H h a u
 | .tbl ps=>h.get? a=some { cls:=.none,data:=.fields ps }
 | .met f x=>h.get? a=some (YD (.ref f) (.ref x))
 | .ext φ=>φ h/\(∃ o,h.get? a=some o)/\∀ h1 h2:UE,φ h1->(∀ o,h1.get? a=some o->h2.get? a=some o)->φ h2
noncomputable def HOk (H:Hp)(h:UE):Prop:=∀ a o,H a=some o->ObjOk P w H h a o
end
section
variable {P:Ub}{w:Up}{H H':Hp}{h h':UE}{a:Addr}{o:HO}
theorem ObjOk.lt (x:ObjOk P w H h a o):a<h.objs.size:=by
 cases o with
 | lst xs=>obtain ⟨_,_,_,_,e⟩:=x;exact TB e
 | tup xs=>obtain ⟨_,_,_,p⟩:=x;exact p.tup.lt
 | dK kvs=>obtain ⟨_,_,_,_,o,_,_,e,_⟩:=x;exact TB e
 | dT kvs=>obtain ⟨_,_,_,_,o,_,_,e,_⟩:=x;exact TB e
 | set S n=>obtain ⟨o,_,_,_,e,_⟩:=x;exact TB e
 | ins C dx fs=>obtain ⟨_,_,_,e,_⟩:=x;exact TB e
 | own y=>obtain ⟨_,e⟩:=x;exact TB e
 | xd fs=>obtain ⟨_,⟨_,_,_,e,_⟩,_⟩:=x;exact TB e
 | rng lo hi=>obtain ⟨_,_,_,e⟩:=x;exact TB e
 | frz ob u=>obtain ⟨e,_⟩:=x;exact TB e
 | tbl ps=>exact TB (show h.get? a=some _ from x)
 | met f y=>exact TB (show h.get? a=some _ from x)
 | ext φ=>obtain ⟨_,⟨_,e⟩,_⟩:=x;exact TB e
theorem Xb.mapP {α β:Type}{F G:α->β->Prop}:∀ {l₁:List α}{l₂:List β},Xb F l₁ l₂->(∀ a b,F a b->G a b)->Xb G l₁ l₂
 | _,_,.nil,_=>.nil
 | _,_,.cons r t,f=>.cons (f _ _ r) (Xb.mapP t f)
theorem ObjOk.stay (x:ObjOk P w H h a o)(k:∀ b u,(b=a\/H b=some (.own a))->h.get? b=some u->h'.get? b=some u)
  (ho:∀ b,H b=some (.own a)->H' b=some (.own a))(ht:∀ b xs,H b=some (.tup xs)->H' b=some (.tup xs)):ObjOk P w H' h' a o:=by
 induction o with
 | lst xs=>obtain ⟨z,its,n,r,e⟩:=x;exact ⟨z,its,n,r,k _ _ (.inl rfl) e⟩
 | tup xs=>obtain ⟨z,its,r,ob,e,c⟩:=x;exact ⟨z,its,r,ob,k _ _ (.inl rfl) e,c⟩
 | dK kvs=>obtain ⟨z,y,vs,r,ob,es,ep,e,c⟩:=x;exact ⟨z,y,vs,r,ob,es,ep,k _ _ (.inl rfl) e,c⟩
 | dT kvs=>
  obtain ⟨z,y,xs,r,ob,es,ep,e,c⟩:=x
  exact ⟨z,y,xs,Xb.mapP r fun p q z=>⟨z.1,ht _ _ z.2.1,z.2.2⟩,ob,es,ep,k _ _ (.inl rfl) e,c⟩
 | set S n=>obtain ⟨ob,es,ep,t,e,c⟩:=x;exact ⟨ob,es,ep,t,k _ _ (.inl rfl) e,c⟩
 | ins C dx fs=>
  obtain ⟨d,z,ne,e,mA,⟨od,es,ep,e2,c⟩,r⟩:=x
  exact ⟨ho _ d,z,ne,k _ _ (.inl rfl) e,mA,⟨od,es,ep,k _ _ (.inr d) e2,c⟩,r⟩
 | own y=>obtain ⟨ob,e⟩:=x;exact ⟨ob,k _ _ (.inl rfl) e⟩
 | xd fs=>obtain ⟨mA,⟨od,es,ep,e,c⟩,r⟩:=x;exact ⟨mA,⟨od,es,ep,k _ _ (.inl rfl) e,c⟩,r⟩
 | rng lo hi=>obtain ⟨t,u,v,e⟩:=x;exact ⟨t,u,v,k _ _ (.inl rfl) e⟩
 | frz ob u ih=>obtain ⟨e,q⟩:=x;exact ⟨k _ _ (.inl rfl) e,ih q⟩
 | tbl ps=>
  have e:h.get? a=some { cls:=.none,data:=.fields ps }:=x
  show h'.get? a=some { cls:=.none,data:=.fields ps }
  exact k a _ (.inl rfl) e
 | met f y=>
  have e:h.get? a=some (YD (.ref f) (.ref y)):=x
  show h'.get? a=some (YD (.ref f) (.ref y))
  exact k a _ (.inl rfl) e
 | ext φ=>obtain ⟨p,⟨o,e⟩,st⟩:=x;exact ⟨st _ _ p fun o q=>k _ _ (.inl rfl) q,⟨o,k _ _ (.inl rfl) e⟩,st⟩
theorem HOk.lt (x:HOk P w H h)(e:H a=some o):a<h.objs.size:=(x a o e).lt
theorem HOk.fresh (x:HOk P w H h)(e:h.objs.size<=a):H a=none:=by
 cases q:H a with
 | none=>rfl
 | some u=>exact absurd (T6 (x.lt q) e) (VO _)
theorem HOk.kept (x:HOk P w H h)(k:∀ b u,h.get? b=some u->h'.get? b=some u):HOk P w H h':=fun a o e=>
 (x a o e).stay (fun b u _ q=>k b u q) (fun _ q=>q) fun _ _ q=>q
theorem HOk.laid (x:HOk P w H h)(k:∀ b u,h.get? b=some u->h'.get? b=some u)(hp:h.objs.size<=a)(new:ObjOk P w (aH H a o) h' a o):HOk P w (aH H a o) h':=fun b u e=>by
 have hn:=x.fresh hp
 by_cases hb:b=a
 ·subst hb;rw [bU] at e;cases e;exact new
 ·rw [aW hb] at e
  exact (x b u e).stay (fun c v _ q=>k c v q) (fun c q=>by rw [aW (d9 q hn)];exact q) fun c xs q=>by rw [aW (d9 q hn)];exact q
end
noncomputable def Rd (H:Hp)(a:Addr)(u:HO):Prop:=H a=some u\/∃ o,H a=some (.frz o u)
theorem Rd.of {H:Hp}{a:Addr}{u:HO}(h:H a=some u):Rd H a u:=.inl h
theorem Rd.ok {P:Ub}{w:Up}{H:Hp}{h:UE}{a:Addr}{u:HO}(r:Rd H a u)(x:HOk P w H h):ObjOk P w H h a u:=by
 rcases r with r|⟨o,r⟩
 ·exact x a u r
 ·obtain ⟨_,q⟩:=x a _ r
  exact q
noncomputable def oK:Option HO->Prop
 | some (.lst _)=>True
 | some (.dK _)=>True
 | some (.dT _)=>True
 | some (.set _ _)=>True
 | some (.ins _ _ _)=>True
 | some (.ext _)=>True
 | _=>False
section
variable {P:Ub}{w:Up}{H:Hp}{h h':UE}{x e:Addr}{o':HO}
theorem HOk.write (ok:HOk P w H h)(mu:oK (H x))(he:e=x\/H e=some (.own x))(k:∀ b u,b≠e->h.get? b=some u->h'.get? b=some u)(heo:∃ u,h'.get? e=some u)
  (new:ObjOk P w (aH H x o') h' x o'):HOk P w (aH H x o') h':=fun b u q=>by
 have nown:∀ c y,H c=some (.own y)->c≠x:=fun c y r z=>by subst z;rw [r] at mu;exact mu
 have ntup:∀ c xs,H c=some (.tup xs)->c≠x:=fun c xs r z=>by subst z;rw [r] at mu;exact mu
 by_cases hb:b=x
 ·subst hb;rw [bU] at q;cases q;exact new
 ·rw [aW hb] at q
  by_cases hbe:b=e
  ·have q':H b=some (.own x):=by
    rcases he with z|z
    ·exact absurd (hbe.trans z) hb
    ·rw [hbe];exact z
   rw [q] at q';cases q'
   obtain ⟨v,hv⟩:=heo
   exact ⟨v,by rw [hbe];exact hv⟩
  ·refine (ok b u q).stay (fun c v hc r=>k c v ?_ r) (fun c r=>by rw [aW (nown c b r)];exact r) fun c xs r=>by rw [aW (ntup c xs r)];exact r
   rcases hc with rfl|hc
   ·exact hbe
   ·rintro rfl
    rcases he with z|z
    ·exact nown c b hc z
    ·rw [hc] at z;cases z;exact hb rfl
end
structure Un (fs ex:List Addr)(H H':Hp)(h h':UE):Prop where
 keep:∀ b o,h.get? b=some o->H b=none->b∉fs->b∉ex->h'.get? b=some o
 slot:∀ b o,h.get? b=some o->H b=none->b∈fs->b∉ex->∃ sl,h'.get? b=some { o with slots:=sl }
 free:∀ b o,h.get? b=some o->H b=none->b∉ex->H' b=none
 there:∀ b o,h.get? b=some o->b∉ex->∃ o',h'.get? b=some o'
 tups:∀ b xs,H b=some (.tup xs)->H' b=some (.tup xs)
 frzs:∀ b o u,H b=some (.frz o u)->H' b=some (.frz o u)
 tbls:∀ b ps,H b=some (.tbl ps)->∃ more,H' b=some (.tbl (ps++more))
section
variable {fs fs' ex ex':List Addr}{H H1 H2:Hp}{h h1 h2 h':UE}{a x e:Addr}{o:HO}
theorem Un.any (u:Un fs ex H H1 h h1){b:Addr}{ob:Obj}(q:h.get? b=some ob)(n:H b=none)(hx:b∉ex):∃ sl,h1.get? b=some { ob with slots:=sl }:=by
 by_cases hb:b∈fs
 ·exact u.slot b ob q n hb hx
 ·exact ⟨ob.slots,u.keep b ob q n hb hx⟩
theorem Un.trans (a:Un fs ex H H1 h h1)(b:Un fs ex H1 H2 h1 h2):Un fs ex H H2 h h2 where
 keep:=fun c ob q n hc hx=>b.keep c ob (a.keep c ob q n hc hx) (a.free c ob q n hx) hc hx
 slot:=fun c ob q n hc hx=>by
  obtain ⟨sl,e1⟩:=a.slot c ob q n hc hx
  obtain ⟨sl',e2⟩:=b.slot c _ e1 (a.free c ob q n hx) hc hx
  exact ⟨sl',e2⟩
 free:=fun c ob q n hx=>by
  obtain ⟨o',e1⟩:=a.there c ob q hx
  exact b.free c o' e1 (a.free c ob q n hx) hx
 there:=fun c ob q hx=>by
  obtain ⟨o',e1⟩:=a.there c ob q hx
  exact b.there c o' e1 hx
 tups:=fun c xs q=>b.tups c xs (a.tups c xs q)
 frzs:=fun c ob xs q=>b.frzs c ob xs (a.frzs c ob xs q)
 tbls:=fun c ps q=>by
  obtain ⟨m1,e1⟩:=a.tbls c ps q
  obtain ⟨m2,e2⟩:=b.tbls c _ e1
  exact ⟨m1++m2,by rw [e2,a0J]⟩
theorem Un.kept (k:∀ b u,h.get? b=some u->h'.get? b=some u):Un fs ex H H h h':=
 ⟨fun b ob q _ _ _=>k b ob q,fun b ob q _ _ _=>⟨ob.slots,k b ob q⟩,fun _ _ _ n _=>n,fun b ob q _=>⟨ob,k b ob q⟩,fun _ _ q=>q,fun _ _ _ q=>q,fun _ ps q=>⟨#[],by rw [q];simp⟩⟩
theorem Un.refl:Un fs ex H H h h:=Un.kept fun _ _ q=>q
theorem Un.laid (k:∀ b u,h.get? b=some u->h'.get? b=some u)(hp:h.objs.size<=a)(hn:H a=none):Un fs ex H (aH H a o) h h' where
 keep:=fun b u q _ _ _=>k b u q
 slot:=fun b u q _ _ _=>⟨u.slots,k b u q⟩
 free:=fun b u q n _=>by rw [aW (TV (T6 (TB q) hp))];exact n
 there:=fun b u q _=>⟨u,k b u q⟩
 tups:=fun b xs q=>by rw [aW (d9 q hn)];exact q
 frzs:=fun b u xs q=>by rw [aW (d9 q hn)];exact q
 tbls:=fun b ps q=>⟨#[],by rw [aW (d9 q hn),q];simp⟩
theorem Un.write (mu:oK (H x))(he:e=x\/H e=some (.own x))(k:∀ b u,b≠e->h.get? b=some u->h'.get? b=some u)(heo:∃ u,h'.get? e=some u):Un fs ex H (aH H x o) h h':=by
 have hx:∀ b,H b=none->b≠x:=fun b n z=>by subst z;rw [n] at mu;exact mu
 have hb:∀ b,H b=none->b≠e:=fun b n z=>by
  subst z
  rcases he with r|r
  ·exact hx b n r
  ·rw [n] at r;cases r
 have hm:∀ b u,H b=some u->¬ oK (some u)->b≠x:=fun b u q nm z=>by subst z;rw [q] at mu;exact nm mu
 refine ⟨fun b u q n _ _=>k b u (hb b n) q,fun b u q n _ _=>⟨u.slots,k b u (hb b n) q⟩,fun b u q n _=>by rw [aW (hx b n)];exact n,fun b u q _=>?_,
  fun b xs q=>by rw [aW (hm b _ q fun z=>z)];exact q,fun b u xs q=>by rw [aW (hm b _ q fun z=>z)];exact q,fun b ps q=>⟨#[],by rw [aW (hm b _ q fun z=>z),q];simp⟩⟩
 by_cases hbe:b=e
 ·subst hbe;exact heo
 ·exact ⟨u,k b u hbe q⟩
theorem Un.mono (u:Un fs ex H H1 h h1)(hs:∀ b∈fs,b∈fs')(hx:∀ b∈ex,b∈ex'):Un fs' ex' H H1 h h1:=
 ⟨fun b ob q n hb he=>u.keep b ob q n (fun z=>hb (hs b z)) fun z=>he (hx b z),fun _ _ q n _ he=>u.any q n fun z=>he (hx _ z),fun b ob q n he=>u.free b ob q n fun z=>he (hx b z),fun b ob q he=>u.there b ob q fun z=>he (hx b z),u.tups,u.frzs,u.tbls⟩
end
noncomputable def qQ (h:UE)(H:Hp):List Addr:=(UB h.objs.size).filter fun a=>(H a).isSome
noncomputable def iP (h:UE)(H:Hp):UE:=PySem.W.hideAll h (qQ h H)
theorem FE (h:UE)(H:Hp):(iP h H).objs.size=h.objs.size:=PySem.W.hideAll_size _ _
theorem FF {h:UE}{H:Hp}{b:Addr}{o:Obj}(e:h.get? b=some o)(n:H b=none):(iP h H).get? b=some o:=
 PySem.W.hideAll_get _ e fun hm=>by
  have q:(H b).isSome=true:=(WE.mp hm).2
  rw [n] at q;simp at q
theorem FG {h:UE}{H:Hp}{b:Addr}{o:Obj}(e:(iP h H).get? b=some o):h.get? b=some o/\H b=none:=by
 have e':h.get? b=some o:=PySem.W.of_hideAll (qQ h H) e
 refine ⟨e',?_⟩
 cases q:H b with
 | none=>rfl
 | some x=>
  have hm:b∈qQ h H:=WE.mpr ⟨Vn.mpr (TB e'),by simp [q]⟩
  have z:(iP h H).get? b=none:=PySem.W.hideAll_none (qQ h H) hm
  rw [z] at e;cases e
noncomputable def qR (g h:UE)(L:Addr):List (Addr×Obj):=(UB h.objs.size).filterMap fun a=>if a=L\/(g.get? a).isSome=true then none else (h.get? a).map fun o=>(a,o)
theorem uB {g h:UE}{L a:Addr}{o:Obj}(h1:a≠L)(h2:g.get? a=none)(h3:h.get? a=some o):(a,o)∈qR g h L:=
 WK.mpr ⟨a,Vn.mpr (TB h3),by simp [h1,h2,h3]⟩
theorem FH {g h:UE}{L:Addr}{p:Addr×Obj}(hp:p∈qR g h L):p.1≠L/\g.get? p.1=none/\h.get? p.1=some p.2:=by
 obtain ⟨b,_,e⟩:=WK.mp hp
 split at e
 ·cases e
 ·rename_i hn
  cases q:h.get? b with
  | none=>rw [q] at e;simp at e
  | some u=>
   rw [q] at e
   simp only [Ui,a3D] at e
   subst e
   refine ⟨fun z=>hn (.inl z),?_,q⟩
   show g.get? b=none
   cases r:g.get? b with
   | none=>rfl
   | some v=>exact (hn (.inr (by simp [r]))).elim
noncomputable def rest (g h:UE)(L d:Addr):List (Addr×Obj):=(qR g h L).filter fun p=>decide (p.1≠d)
theorem FI {g h:UE}{L:Addr}:News g L h (qR g h L):=fun p hp=>let ⟨a,b,c⟩:=FH hp;⟨c,a,b⟩
end L2
namespace L2
open PySem PySem.Spec PyProof.Rows
structure Mod (K:To)(mg:Str->Option Value)(base:UE):Prop where
 kin:K.In base
 glob:base.Ns Ux mg
 blt:∃ mb,base.Ns a2b mb/\∀ x:Str,x ≠ "__name__"->mb x=Vl x
 nolimit:base.NoLimit
structure Cx where
 prog:Ub
 w:Up
 K:To
 mg:Str->Option Value
 base:UE
 A:Ue
 N:List Str
 s₀:Tv
 H₀:Hp
 env:X2
 outer:List X2
 stack:List X2
 ex:List Addr
 fn:Str->Bool
 calm:Bool
 pn:List (Addr×Obj)
 xe:Value->Tv->Prop
noncomputable def cY (l:List X2):List Addr:=l.filterMap (·.frame)
noncomputable abbrev Cx.fs (X:Cx):List Addr:=cY X.outer
noncomputable def oM (sc:V5)(x:Str):Prop:=sc.names.lookup x=some .local\/sc.names.lookup x=some .cell\/sc.names.lookup x=some .free
noncomputable def Loc (sc:V5)(x:Str):Prop:=sc.names.lookup x=some .local\/sc.names.lookup x=some .cell
noncomputable def FJ (env:X2)(h:UE)(m:Str->Option Value)(x:Str)(u:Value):Prop:=
 (env.kindOf x=some .local/\m x=some u)\/((env.kindOf x=some .cell\/env.kindOf x=some .free)/\∃ c,env.cells.lookup x=some c/\h.IsCell c (some u))
structure Cx.Ok (X:Cx):Prop where
 mod:Mod X.K X.mg X.base
 kind:X.env.scope.kind=.function
 glob:X.env.globals=Ux
 blt:X.env.builtins=a2b
 above:X.s₀.heap.objs.size<=X.env.locals
 inj:∀ x y c,X.env.cells.lookup x=some c->X.env.cells.lookup y=some c->x=y
 has:∀ x,(X.env.kindOf x=some .cell\/X.env.kindOf x=some .free)->∃ c,X.env.cells.lookup x=some c
 cab:∀ x c,X.fn x=true->X.env.cells.lookup x=some c->X.s₀.heap.objs.size<=c
 hd:X.calm=true->X.A.handled=none
 frames:X.A.frames=some X.stack
 stk:X.stack=X.outer\/(X.stack=X.env::X.outer/\X.env.frame=some X.env.locals)
 exf:∀ b∈X.ex,b≠X.env.locals/\∀ x c,X.env.cells.lookup x=some c->c≠b
 bs:∀ b o,X.base.get? b=some o->X.s₀.heap.get? b=some o/\X.H₀ b=none
 bsz:X.base.objs.size<=X.s₀.heap.objs.size
 noex:∀ b o,X.base.get? b=some o->b∉X.ex
 exfs:∀ b∈X.ex,b∉X.fs
 funs:X.s₀.heap.FunFrames X.base X.outer
 frf:∀ b∈X.fs,X.H₀ b=none
structure Inv (X:Cx)(a3G:List (Addr×Obj))(σ:List (Option V))(H:Hp)(s:Tv):Prop where
 ok:X.Ok
 os:s.os=X.s₀.os
 bare:X9 s.gens
 base:Un X.fs X.ex X.H₀ H X.s₀.heap s.heap
 loc:∃ m,s.heap.Ns X.env.locals m/\∀ (i:Nat)(x:Str)(v:V),X.N[i]? = some x->σ[i]? = some (some v)->oM X.env.scope x->∃ u,RelV v u/\FJ X.env s.heap m x u
 cell:∀ x c,X.env.cells.lookup x=some c->∃ v,s.heap.IsCell c v
 free:H X.env.locals=none
 freeC:∀ x c,X.env.cells.lookup x=some c->H c=none
 pin:∀ p∈X.pn++a3G,s.heap.get? p.1=some p.2/\H p.1=none/\p.1≠X.env.locals/\p.1∉X.fs/\∀ v,p.2.data≠.cell v
 hok:HOk X.prog X.w H s.heap
 len:σ.length=X.N.length
section
variable {X:Cx}{a3G:List (Addr×Obj)}{σ:List (Option V)}{H H':Hp}{s:Tv}{h':UE}
theorem Cx.Ok.nofr (ok:X.Ok){b:Addr}{o:Obj}(e:X.base.get? b=some o):b∉X.fs:=fun hb=>by
 have:=(ok.funs.mem hb).1
 rw [e] at this;cases this
theorem Inv.bs (I:Inv X a3G σ H s):∀ b o,X.base.get? b=some o->s.heap.get? b=some o/\H b=none:=fun b o e=>
 ⟨I.base.keep b o (I.ok.bs b o e).1 (I.ok.bs b o e).2 (I.ok.nofr e) (I.ok.noex b o e),I.base.free b o (I.ok.bs b o e).1 (I.ok.bs b o e).2 (I.ok.noex b o e)⟩
theorem Inv.bk (I:Inv X a3G σ H s):∀ b o,X.base.get? b=some o->s.heap.get? b=some o:=fun b o e=>(I.bs b o e).1
theorem Inv.mod (I:Inv X a3G σ H s):Mod X.K X.mg X.base:=I.ok.mod
theorem Inv.kIn (I:Inv X a3G σ H s):X.K.In s.heap:=I.ok.mod.kin.keeps I.bk
theorem Inv.nolimit (I:Inv X a3G σ H s):s.heap.NoLimit:=I.ok.mod.nolimit.keeps I.bk
theorem Inv.fr (I:Inv X a3G σ H s):∃ m,Fr X.base X.env.locals s.heap m:=
 let ⟨m,hn,_⟩:=I.loc
 ⟨m,hn,I.bk,UU I.ok.bsz I.ok.above⟩
theorem Inv.lt (I:Inv X a3G σ H s):X.env.locals<s.heap.objs.size:=let ⟨_,hn,_⟩:=I.loc;hn.lt
theorem Inv.sz (I:Inv X a3G σ H s):X.s₀.heap.objs.size<=s.heap.objs.size:=UU I.ok.above (XA I.lt)
theorem Inv.nofs (I:Inv X a3G σ H s){a:Addr}(h:s.heap.objs.size<=a):a∉X.fs:=fun hb=>by
 obtain ⟨_,o,ho,_⟩:=I.ok.funs.mem hb
 exact absurd (T6 (TB ho) (UU I.sz h)) (VO _)
theorem Inv.cne (I:Inv X a3G σ H s):∀ x c,X.env.cells.lookup x=some c->c≠X.env.locals:=fun x c e z=>by
 obtain ⟨v,o,ho,hd⟩:=I.cell x c e
 obtain ⟨m,⟨o',es,ep,ho',hd',_⟩,_⟩:=I.loc
 rw [z,ho'] at ho;cases ho;rw [hd'] at hd;cases hd
theorem Inv.funs (I:Inv X a3G σ H s):s.heap.FunFrames X.base X.outer:=by
 have all:∀ (l:List X2),(∀ b∈cY l,b∈X.fs)->X.s₀.heap.FunFrames X.base l->s.heap.FunFrames X.base l:=by
  intro l
  induction l with
  | nil=>intro _ _;trivial
  | cons env r ih=>
   intro hs hl
   obtain ⟨hk,⟨L,o,hf,hn,ho,hd⟩,hr⟩:=hl
   have hL:L∈X.fs:=hs L (by unfold cY;rw [VJ,hf];exact Uy)
   obtain ⟨sl,e⟩:=I.base.slot L o ho (I.ok.frf L hL) hL fun z=>I.ok.exfs L z hL
   exact ⟨hk,⟨L,_,hf,hn,e,hd⟩,ih (fun b hb=>hs b (by unfold cY;rw [VJ,hf];exact Uo _ hb)) hr⟩
 exact all X.outer (fun _ hb=>hb) I.ok.funs
theorem Inv.stack (I:Inv X a3G σ H s):s.heap.FunFrames X.base X.stack:=by
 rcases I.ok.stk with e|⟨e,hf⟩
 ·rw [e];exact I.funs
 ·rw [e]
  obtain ⟨m,hn,_⟩:=I.loc
  refine .cons (by rw [I.ok.kind];decide) hf hn ?_ I.funs
  exact Xg (UU I.ok.bsz I.ok.above)
theorem Inv.stkSub (I:Inv X a3G σ H s):∀ b∈cY X.stack,b∈X.env.locals::X.fs:=fun b hb=>by
 rcases I.ok.stk with e|⟨e,hf⟩
 ·rw [e] at hb;exact Uo _ hb
 ·rw [e] at hb
  unfold cY at hb
  rw [VJ,hf] at hb
  exact hb
theorem Inv.stkFree (I:Inv X a3G σ H s):∀ b∈cY X.stack,H b=none:=fun b hb=>by
 rcases Ug.mp (I.stkSub b hb) with e|hb
 ·rw [e];exact I.free
 ·obtain ⟨_,o,ho,_⟩:=I.ok.funs.mem hb
  exact I.base.free b o ho (I.ok.frf b hb) fun z=>I.ok.exfs b z hb
theorem Inv.step {g':Array a1Q}{t':Nat}{d':Drawn}{ch:List Addr}(I:Inv X a3G σ H s)
  (hch:∀ b∈ch,(b∈X.ex\/X.s₀.heap.objs.size<=b)/\b≠X.env.locals/\(∀ x c,X.env.cells.lookup x=some c->c≠b)/\∀ p∈X.pn++a3G,p.1≠b)
  (keep:∀ b o,b≠X.env.locals->b∉X.fs->b∉ch->s.heap.get? b=some o->H b=none->h'.get? b=some o)
  (slot:∀ b o,b≠X.env.locals->b∈X.fs->b∉ch->s.heap.get? b=some o->H b=none->∃ sl,h'.get? b=some { o with slots:=sl })(free:∀ b o,b∉ch->s.heap.get? b=some o->H b=none->H' b=none)
  (there:∀ b o,b∉ch->s.heap.get? b=some o->∃ o',h'.get? b=some o')
  (tups:∀ b xs,H b=some (.tup xs)->H' b=some (.tup xs))(frzs:∀ b o u,H b=some (.frz o u)->H' b=some (.frz o u))(tbls:∀ b ps,H b=some (.tbl ps)->∃ more,H' b=some (.tbl (ps++more)))
  (ns:∀ m,s.heap.Ns X.env.locals m->h'.Ns X.env.locals m)(hok:HOk X.prog X.w H' h')(hg:X9 g') :
  Inv X a3G σ H' { s with heap:=h',gens:=g',drawn:=d',toks:=t' }:=by
 have neL:∀ b o,X.s₀.heap.get? b=some o->b≠X.env.locals:=fun b o e=>TV (T6 (TB e) I.ok.above)
 have neC:∀ b o,X.s₀.heap.get? b=some o->b∉X.ex->b∉ch:=fun b o e hx hb=>by
  rcases (hch b hb).1 with z|z
  ·exact hx z
  ·exact absurd (T6 (TB e) z) (VO _)
 have cellK:∀ x c,X.env.cells.lookup x=some c->∀ v,s.heap.IsCell c v->h'.IsCell c v:=fun x c e v ⟨o,ho,hd⟩=>by
  have nch:c∉ch:=fun z=>(hch c z).2.2.1 x c e rfl
  by_cases hc:c∈X.fs
  ·obtain ⟨sl,q⟩:=slot c o (I.cne x c e) hc nch ho (I.freeC x c e)
   exact ⟨_,q,hd⟩
  ·exact ⟨o,keep c o (I.cne x c e) hc nch ho (I.freeC x c e),hd⟩
 refine ⟨I.ok,I.os,hg,⟨fun b o e n hb hx=>?_,fun b o e n hb hx=>?_,fun b o e n hx=>?_,fun b o e hx=>?_,fun b xs e=>tups b xs (I.base.tups b xs e),fun b o xs e=>frzs b o xs (I.base.frzs b o xs e),fun b ps e=>?_⟩,?_,fun x c e=>?_,?_,fun x c e=>?_,fun p hp=>?_,hok,I.len⟩
 ·exact keep b o (neL b o e) hb (neC b o e hx) (I.base.keep b o e n hb hx) (I.base.free b o e n hx)
 ·obtain ⟨sl,e1⟩:=I.base.slot b o e n hb hx
  obtain ⟨sl',e2⟩:=slot b _ (neL b o e) hb (neC b o e hx) e1 (I.base.free b o e n hx)
  exact ⟨sl',e2⟩
 ·obtain ⟨o',e1⟩:=I.base.there b o e hx
  exact free b o' (neC b o e hx) e1 (I.base.free b o e n hx)
 ·obtain ⟨o',e1⟩:=I.base.there b o e hx
  exact there b o' (neC b o e hx) e1
 ·obtain ⟨m1,e1⟩:=I.base.tbls b ps e
  obtain ⟨m2,e2⟩:=tbls b _ e1
  exact ⟨m1++m2,by rw [e2,a0J]⟩
 ·obtain ⟨m,hn,hl⟩:=I.loc
  refine ⟨m,ns m hn,fun i x v e1 e2 e3=>?_⟩
  obtain ⟨u,r,l⟩:=hl i x v e1 e2 e3
  refine ⟨u,r,?_⟩
  rcases l with l|⟨k,c,e,z⟩
  ·exact .inl l
  ·exact .inr ⟨k,c,e,cellK x c e _ z⟩
 ·obtain ⟨v,z⟩:=I.cell x c e
  exact ⟨v,cellK x c e v z⟩
 ·obtain ⟨m,⟨o,_,_,ho,_⟩,_⟩:=I.loc
  exact free _ o (fun z=>(hch _ z).2.1 rfl) ho I.free
 ·obtain ⟨v,o,ho,hd⟩:=I.cell x c e
  exact free c o (fun z=>(hch c z).2.2.1 x c e rfl) ho (I.freeC x c e)
 ·obtain ⟨e,n,ne,nf,d⟩:=I.pin p hp
  have nch:p.1∉ch:=fun z=>(hch p.1 z).2.2.2 p hp rfl
  exact ⟨keep p.1 p.2 ne nf nch e n,free p.1 p.2 nch e n,ne,nf,d⟩
theorem Inv.un {t':Nat}(I:Inv X a3G σ H s)(u:Un X.fs [] H H' s.heap h')(hok:HOk X.prog X.w H' h'):Inv X a3G σ H' { s with heap:=h',toks:=t' }:=by
 obtain ⟨m,⟨o,es,ep,ho,r⟩,_⟩:=id I.loc
 obtain ⟨sl,hL⟩:=u.any ho I.free (by simp)
 exact I.step (g':=s.gens) (d':=s.drawn) (ch:=[]) (fun _ z=>nomatch z) (fun b o _ hb _ e n=>u.keep b o e n hb (by simp)) (fun b o _ hb _ e n=>u.slot b o e n hb (by simp)) (fun b o _ e n=>u.free b o e n (by simp)) (fun b o _ e=>u.there b o e (by simp)) u.tups u.frzs u.tbls (fun m' hm=>by
  obtain ⟨o',es',ep',ho',r'⟩:=hm
  rw [ho] at ho';cases ho'
  exact ⟨_,es',ep',hL,r'⟩) hok I.bare
theorem Inv.call {g':Array a1Q}{t':Nat}{d':Drawn}{ch:List Addr}(I:Inv X a3G σ H s)(u:Un (cY X.stack) ch H H' s.heap h')(hok:HOk X.prog X.w H' h')(hg:X9 g')
  (hch:∀ b∈ch,(b∈X.ex\/X.s₀.heap.objs.size<=b)/\b≠X.env.locals/\(∀ x c,X.env.cells.lookup x=some c->c≠b)/\∀ p∈X.pn++a3G,p.1≠b) :
  Inv X a3G σ H' { s with heap:=h',gens:=g',drawn:=d',toks:=t' }:=by
 obtain ⟨m,⟨o,es,ep,ho,r⟩,_⟩:=id I.loc
 obtain ⟨sl,hL⟩:=u.any ho I.free fun z=>(hch _ z).2.1 rfl
 exact I.step (ch:=ch) hch (fun b o hL hb hc e n=>u.keep b o e n (fun z=>(Ug.mp (I.stkSub b z)).elim hL hb) hc) (fun b o _ _ hc e n=>u.any e n hc) (fun b o hc e n=>u.free b o e n hc) (fun b o hc e=>u.there b o e hc) u.tups u.frzs u.tbls (fun m' hm=>by
  obtain ⟨o',es',ep',ho',r'⟩:=hm
  rw [ho] at ho';cases ho'
  exact ⟨_,es',ep',hL,r'⟩) hok hg
theorem Inv.turned {t':Nat}{it:Addr}(I:Inv X a3G σ H s)(k:∀ b o,b≠it->s.heap.get? b=some o->h'.get? b=some o)(hn:H it=none)(hL:it≠X.env.locals)
  (h1:it∈X.ex\/X.s₀.heap.objs.size<=it)(h2:∀ x c,X.env.cells.lookup x=some c->c≠it)(h3:∀ p∈X.pn++a3G,p.1≠it):Inv X a3G σ H { s with heap:=h',toks:=t' }:=by
 have nit:∀ b u,H b=some u->b≠it:=fun b u e z=>by rw [z,hn] at e;cases e
 refine I.step (g':=s.gens) (d':=s.drawn) (ch:=[it]) (fun b hb=>?_) (fun b o _ _ hc e _=>k b o (fun z=>hc (by simp [z])) e) (fun b o _ _ hc e _=>⟨o.slots,k b o (fun z=>hc (by simp [z])) e⟩) (fun _ _ _ _ n=>n)
  (fun b o hc e=>⟨o,k b o (fun z=>hc (by simp [z])) e⟩) (fun _ _ e=>e) (fun _ _ _ e=>e) (fun b ps e=>⟨#[],by rw [e];simp⟩) (fun m hm=>?_) (fun b u e=>?_) I.bare
 ·have e:b=it:=by simpa using hb
  subst e
  exact ⟨h1,hL,h2,h3⟩
 ·obtain ⟨o,es,ep,ho,r⟩:=hm
  exact ⟨o,es,ep,k _ o (Va hL) ho,r⟩
 ·refine (I.hok b u e).stay (fun c v hc q=>k c v ?_ q) (fun _ q=>q) fun _ _ q=>q
  rcases hc with z|z
  ·rw [z];exact nit b u e
  ·exact nit c _ z
theorem Inv.tok (I:Inv X a3G σ H s)(t:Nat):Inv X a3G σ H { s with toks:=t }:=I.un (h':=s.heap) (t':=t) Un.refl I.hok
theorem Inv.kept {t':Nat}(I:Inv X a3G σ H s)(k:∀ b u,s.heap.get? b=some u->h'.get? b=some u):Inv X a3G σ H { s with heap:=h',toks:=t' }:=I.un (Un.kept k) (I.hok.kept k)
theorem Inv.laid {a:Addr}{o:HO}{t':Nat}(I:Inv X a3G σ H s)(k:∀ b u,s.heap.get? b=some u->h'.get? b=some u)(hp:s.heap.objs.size<=a)(new:ObjOk X.prog X.w (aH H a o) h' a o) :
  Inv X a3G σ (aH H a o) { s with heap:=h',toks:=t' }:=I.un (Un.laid k hp (I.hok.fresh hp)) (I.hok.laid k hp new)
theorem Inv.write {x e:Addr}{o:HO}{t':Nat}(I:Inv X a3G σ H s)(mu:oK (H x))(he:e=x\/H e=some (.own x))(k:∀ b u,b≠e->s.heap.get? b=some u->h'.get? b=some u)(heo:∃ u,h'.get? e=some u)
  (new:ObjOk X.prog X.w (aH H x o) h' x o):Inv X a3G σ (aH H x o) { s with heap:=h',toks:=t' }:=I.un (Un.write mu he k heo) (I.hok.write mu he k heo new)
theorem Inv.pins_of {pins':List (Addr×Obj)}(I:Inv X a3G σ H s)(h:∀ p∈pins',s.heap.get? p.1=some p.2/\H p.1=none/\p.1≠X.env.locals/\p.1∉X.fs/\∀ v,p.2.data≠.cell v):Inv X pins' σ H s:=
 ⟨I.ok,I.os,I.bare,I.base,I.loc,I.cell,I.free,I.freeC,fun p hp=>(U7.mp hp).elim (fun z=>I.pin p (a0y _ z)) (h p),I.hok,I.len⟩
theorem uC {N:List Str}(hN:N.Nodup){i j:Nat}{x:Str}(a:N[i]? = some x)(b:N[j]? = some x):i=j:=by
 obtain ⟨h1,e1⟩:=Tw.mp a
 obtain ⟨h2,e2⟩:=Tw.mp b
 exact (List.getElem_inj hN).mp (e1.trans e2.symm)
theorem qS {M:Zw}{A:Ue}{E:Value->Tv->Prop}{i:Nat}{x:Str}{v:V}{u:Value}{Q:Unit->Tv->Prop}(I:Inv X a3G σ H s)(hN:X.N.Nodup)(hi:X.N[i]? = some x)(hx:Loc X.env.scope x)(r:RelV v u)
  (h:∀ s',Inv X a3G (σ.set i (some v)) H s'->(∃ a,WR a s.heap s'.heap/\(a=X.env.locals\/X.env.cells.lookup x=some a))->Q () s')(hf:X.fn x=true\/X.env.scope.names.lookup x=some .local:=by first|exact .inl rfl|exact .inr rfl|assumption):TY M A (storeName X.env x u) Q E s:=by
 obtain ⟨m,hn,hl⟩:=id I.loc
 have hcls:(X.env.scope.kind == .class||(X.env.scope.kind == .module&&X.env.locals != X.env.globals))=false:=by rw [I.ok.kind];rfl
 have hiσ:i<σ.length:=by rw [I.len];exact (Tw.mp hi).1
 have cne:=I.cne
 have tracked:∀ {a:Addr}{h':UE},(∃ o,s.heap.get? a=some o/\H a=none)->WR a s.heap h'->HOk X.prog X.w H h':=fun {a h'} ha hs b ob e=>by
  obtain ⟨_,_,hfree⟩:=ha
  refine (I.hok b ob e).stay (fun c w' hc q=>(hs.2 c ?_).trans q) (fun _ q=>q) fun _ _ q=>q
  rintro rfl
  rcases hc with rfl|hc
  ·rw [hfree] at e;cases e
  ·rw [hfree] at hc;cases hc
 rcases hx with hk|hk
 ·refine wpAny_storeName_local hk hn (fun h' hn' hs=>?_) hcls
  obtain ⟨oL,_,_,hoL,_⟩:=id hn
  refine h _ ⟨I.ok,I.os,I.bare,⟨fun b o e n hb hx=>?_,fun b o e n hb hx=>?_,I.base.free,fun b o e hx=>?_,I.base.tups,I.base.frzs,I.base.tbls⟩,⟨_,hn',fun j y v' e1 e2 e3=>?_⟩,fun y c e=>?_,I.free,I.freeC,fun p hp=>?_,tracked ⟨oL,hoL,I.free⟩ hs,by simpa using I.len⟩ ⟨_,hs,.inl rfl⟩
  ·exact (hs.2 b (TV (T6 (TB e) I.ok.above))).trans (I.base.keep b o e n hb hx)
  ·obtain ⟨sl,e1⟩:=I.base.slot b o e n hb hx
   exact ⟨sl,(hs.2 b (TV (T6 (TB e) I.ok.above))).trans e1⟩
  ·obtain ⟨o',e1⟩:=I.base.there b o e hx
   exact ⟨o',(hs.2 b (TV (T6 (TB e) I.ok.above))).trans e1⟩
  ·by_cases hj:j=i
   ·subst hj
    rw [hi] at e1;cases e1
    rw [UD hiσ] at e2
    cases e2
    exact ⟨u,r,.inl ⟨hk,by simp⟩⟩
   ·rw [Vh (Va hj)] at e2
    obtain ⟨u',r',q⟩:=hl j y v' e1 e2 e3
    refine ⟨u',r',?_⟩
    rcases q with ⟨k,e⟩|⟨k,c,e,z⟩
    ·refine .inl ⟨k,?_⟩
     have:y≠x:=fun e=>hj (uC hN e1 (e ▸ hi))
     simp [this,e]
    ·exact .inr ⟨k,c,e,z.sameBut hs (cne y c e)⟩
  ·obtain ⟨w',z⟩:=I.cell y c e
   exact ⟨w',z.sameBut hs (cne y c e)⟩
  ·obtain ⟨e,n,ne,nf,d⟩:=I.pin p hp
   exact ⟨(hs.2 p.1 ne).trans e,n,ne,nf,d⟩
 ·have hfn:X.fn x=true:=by
   rcases hf with z|z
   ·exact z
   ·rw [z] at hk;cases hk
  obtain ⟨c,hc⟩:=I.ok.has x (.inl hk)
  obtain ⟨w',z⟩:=I.cell x c hc
  refine wpAny_storeName_cell I.ok.kind hk hc z (fun h' hc' hs=>?_)
  obtain ⟨oc,hoc,hocd⟩:=id z
  refine h { s with heap:=h' } ⟨I.ok,I.os,I.bare,⟨fun b o e n hb hx=>?_,fun b o e n hb hx=>?_,I.base.free,fun b o e hx=>?_,I.base.tups,I.base.frzs,I.base.tbls⟩,⟨m,hn.sameBut hs (Va (cne x c hc)),fun j y v' e1 e2 e3=>?_⟩,fun y c' e=>?_,I.free,I.freeC,fun p hp=>?_,tracked ⟨oc,hoc,I.freeC x c hc⟩ hs,by simpa using I.len⟩ ⟨c,hs,.inr hc⟩
  ·exact (hs.2 b (TV (T6 (TB e) (I.ok.cab x c hfn hc)))).trans (I.base.keep b o e n hb hx)
  ·obtain ⟨sl,e1⟩:=I.base.slot b o e n hb hx
   exact ⟨sl,(hs.2 b (TV (T6 (TB e) (I.ok.cab x c hfn hc)))).trans e1⟩
  ·obtain ⟨o',e1⟩:=I.base.there b o e hx
   exact ⟨o',(hs.2 b (TV (T6 (TB e) (I.ok.cab x c hfn hc)))).trans e1⟩
  ·by_cases hj:j=i
   ·subst hj
    rw [hi] at e1;cases e1
    rw [UD hiσ] at e2
    cases e2
    exact ⟨u,r,.inr ⟨.inl hk,c,hc,hc'⟩⟩
   ·rw [Vh (Va hj)] at e2
    obtain ⟨u',r',q⟩:=hl j y v' e1 e2 e3
    refine ⟨u',r',?_⟩
    rcases q with q|⟨k,c',e,z'⟩
    ·exact .inl q
    ·refine .inr ⟨k,c',e,z'.sameBut hs ?_⟩
     rintro rfl
     exact hj (uC hN e1 (I.ok.inj _ _ _ e hc ▸ hi))
  ·by_cases hcc:c'=c
   ·subst hcc;exact ⟨_,hc'⟩
   ·obtain ⟨w2,z2⟩:=I.cell y c' e
    exact ⟨w2,z2.sameBut hs hcc⟩
  ·obtain ⟨e,n,ne,nf,d⟩:=I.pin p hp
   refine ⟨(hs.2 p.1 ?_).trans e,n,ne,nf,d⟩
   intro q
   rw [q,hoc] at e
   have q':oc=p.2:=Uc e
   exact d w' (by rw [<- q'];exact hocd)
theorem z9 {M:Zw}{A:Ue}{E:Value->Tv->Prop}{i:Nat}{x:Str}{v:V}{u:Value}{Q:Unit->Tv->Prop}(I:Inv X a3G σ H s)(hN:X.N.Nodup)(hi:X.N[i]? = some x)(hx:Loc X.env.scope x)(r:RelV v u)
  (h:∀ s',Inv X a3G (σ.set i (some v)) H s'->Q () s')(hf:X.fn x=true\/X.env.scope.names.lookup x=some .local:=by first|exact .inl rfl|exact .inr rfl|assumption):TY M A (storeName X.env x u) Q E s:=
 qS I hN hi hx r (fun s' I' _=>h s' I') hf
theorem Inv.call' {s':Tv}{ch:List Addr}(I:Inv X a3G σ H s)(ho:s'.os=s.os)(u:Un (cY X.stack) ch H H' s.heap s'.heap)(hok:HOk X.prog X.w H' s'.heap)(hg:X9 s'.gens)
  (hch:∀ b∈ch,(b∈X.ex\/X.s₀.heap.objs.size<=b)/\b≠X.env.locals/\(∀ x c,X.env.cells.lookup x=some c->c≠b)/\∀ p∈X.pn++a3G,p.1≠b):Inv X a3G σ H' s':=by
 obtain ⟨h',g',d',t',o'⟩:=s'
 have e:o'=s.os:=ho
 subst e
 exact I.call (g':=g') (t':=t') (d':=d') u hok hg hch
end
noncomputable abbrev XK:=Value->Option Addr->Hp->Prop
noncomputable abbrev St:=List (Option V)
noncomputable abbrev VK:=V->Hp->Prop
noncomputable abbrev TE:=St->Hp->VK->Prop
noncomputable abbrev TT:=St->Hp->(Bool->Hp->Prop)->Prop
noncomputable abbrev TA:=St->Hp->(List V->Hp->Prop)->Prop
structure Ends where
 nx:St->Hp->Prop
 rt:VK
 bk:St->Hp->Prop:=fun _ _=>False
 ct:St->Hp->Prop:=fun _ _=>False
noncomputable abbrev TS:=Ends->St->Hp->Prop
noncomputable def EP (X:Cx)(a3G:List (Addr×Obj))(σ:St)(Q:VK)(u:Value)(s':Tv):Prop:=∃ v H',Inv X a3G σ H' s'/\RelV v u/\Q v H'
noncomputable def TP (X:Cx)(a3G:List (Addr×Obj))(σ:St)(Q:Bool->Hp->Prop)(b:Bool)(s':Tv):Prop:=∃ H',Inv X a3G σ H' s'/\Q b H'
noncomputable def AP (X:Cx)(a3G:List (Addr×Obj))(σ:St)(Q:List V->Hp->Prop)(us:List Value)(s':Tv):Prop:=∃ vs H',Inv X a3G σ H' s'/\Vals vs us/\Q vs H'
noncomputable def SP (X:Cx)(a3G:List (Addr×Obj))(D:Ends)(f:Flow)(s':Tv):Prop:=
 match f with
 | .next=>∃ σ' H',Inv X a3G σ' H' s'/\D.nx σ' H'
 | .brk=>∃ σ' H',Inv X a3G σ' H' s'/\D.bk σ' H'
 | .cont=>∃ σ' H',Inv X a3G σ' H' s'/\D.ct σ' H'
 | .ret u=>∃ v σ' H',Inv X a3G σ' H' s'/\RelV v u/\D.rt v H'
noncomputable def PE (X:Cx)(e:TJ)(t:TE):Prop:=
 ∀ (a3G:List (Addr×Obj))(s:Tv)(σ:St)(H:Hp)(Q:VK),Inv X a3G σ H s->t σ H Q->TY (T7 X.prog X.w) X.A (eval e X.env) (EP X a3G σ Q) X.xe s
noncomputable def PT (X:Cx)(e:TJ)(t:TT):Prop:=
 ∀ (a3G:List (Addr×Obj))(s:Tv)(σ:St)(H:Hp)(Q:Bool->Hp->Prop),Inv X a3G σ H s->t σ H Q->TY (T7 X.prog X.w) X.A (a1h e X.env (eval e X.env)) (TP X a3G σ Q) X.xe s
noncomputable def PW (X:Cx)(e:TJ)(t:TT):Prop:=
 ∀ (whole:a2D Value)(a3G:List (Addr×Obj))(s:Tv)(σ:St)(H:Hp)(Q:Bool->Hp->Prop),Inv X a3G σ H s->t σ H Q->TY (T7 X.prog X.w) X.A (a1h e X.env whole) (TP X a3G σ Q) X.xe s
theorem PW.pt {X:Cx}{e:TJ}{t:TT}(h:PW X e t):PT X e t:=h _
noncomputable def PA (X:Cx)(es:List TJ)(t:TA):Prop:=
 ∀ (pos:Vk)(a3G:List (Addr×Obj))(s:Tv)(σ:St)(H:Hp)(Q:List V->Hp->Prop),Inv X a3G σ H s->t σ H Q->TY (T7 X.prog X.w) X.A (spliced (VX pos (Ul es X.env))) (AP X a3G σ Q) X.xe s
noncomputable def PS (X:Cx)(st:Stmt)(t:TS):Prop:=
 ∀ (a3G:List (Addr×Obj))(s:Tv)(σ:St)(H:Hp)(D:Ends),Inv X a3G σ H s->t D σ H->TY (T7 X.prog X.w) X.A (exec st X.env) (SP X a3G D) X.xe s
noncomputable def PSs (X:Cx)(st:List Stmt)(t:TS):Prop:=
 ∀ (a3G:List (Addr×Obj))(s:Tv)(σ:St)(H:Hp)(D:Ends),Inv X a3G σ H s->t D σ H->TY (T7 X.prog X.w) X.A (execs st X.env) (SP X a3G D) X.xe s
theorem aO {α:Type}{t:a2D α}{Q Q':α->Tv->Prop}{M:Zw}{A:Ue}{E:Value->Tv->Prop}{s:Tv}(h:TY M A t Q E s)(hQ:∀ a s,Q a s->Q' a s):TY M A t Q' E s:=Us h hQ fun _ _ x=>x
end L2
namespace L2
open PySem PySem.Spec PyProof.Rows
section
variable {X:Cx}
noncomputable def oN (i:Nat):TE:=fun σ H Q=>∃ v,σ[i]? = some (some v)/\Q v H
noncomputable def tC (v:V):TE:=fun _ H Q=>Q v H
theorem qT {i:Nat}{x:Str}{pos:Vk}(hN:X.N[i]? = some x)(hv:oM X.env.scope x)(hd:(x == ("__debug__":Str))=false:=by decide) (hcd:(x == ("__classdict__":Str))=false:=by decide):PE X (.Name x pos) (oN i):=by
 intro a3G s σ H Q I h
 obtain ⟨v,e,h⟩:=h
 obtain ⟨m,hn,hl⟩:=I.loc
 obtain ⟨u,r,l⟩:=hl i x v hN e hv
 have fin:EP X a3G σ Q u s:=⟨v,H,I,r,h⟩
 rcases l with ⟨hk,hm⟩|⟨hk,c,hc,hcell⟩
 ·exact a1U (wpAny_loadName_local I.ok.kind hk hn hm fin) hd
 ·rcases hk with hk|hk
  ·exact a1U (wpAny_loadName_cell I.ok.kind hk hc hcell fin) hd
  ·exact a1U (wpAny_loadName_free I.ok.kind hk hc hcell fin hcd) hd
theorem FK {i j pos}:PE X (.Constant (.int i) j pos) (tC (.int i)):=fun _ _ _ H _ I h=>wpAny_Constant_int ⟨.int i,H,I.tok _,⟨_,rfl⟩,h⟩
theorem FL {b j pos}:PE X (.Constant (.bool b) j pos) (tC (.bl b)):=fun _ _ _ H _ I h=>Constant_bool ⟨.bl b,H,I,rfl,h⟩
theorem FN {j pos}:PE X (.Constant .none j pos) (tC .non):=fun _ _ _ H _ I h=>Constant_none ⟨.non,H,I,rfl,h⟩
theorem Aa {x j pos}:PE X (.Constant (.str x) j pos) (tC (.str x)):=fun _ _ _ H _ I h=>Calls.Constant_str ⟨.str x,H,I.tok _,⟨_,rfl⟩,h⟩
noncomputable def Gl (X:Cx)(x:Str):Prop:=X.env.kindOf x=some .globalImplicit
theorem iQ {E:Value->Tv->Prop}{a3G:List (Addr×Obj)}{s:Tv}{σ:St}{H:Hp}{x:Str}{u:Value}{pos:Vk}{Q:Value->Tv->Prop}(I:Inv X a3G σ H s)(hg:Gl X x)(hm:X.mg x=some u)(h:Q u s)
  (hd:(x == ("__debug__":Str))=false:=by decide):TY (T7 X.prog X.w) X.A (eval (.Name x pos) X.env) Q E s:=
 Zy I.ok.kind hg (Calls.loadGlobal_global (by rw [I.ok.glob];exact I.mod.glob.keeps I.bk) hm h) hd
theorem gJ {E:Value->Tv->Prop}{a3G:List (Addr×Obj)}{s:Tv}{σ:St}{H:Hp}{x:Str}{u:Value}{pos:Vk}{Q:Value->Tv->Prop}(I:Inv X a3G σ H s)(hg:Gl X x)(hm:X.mg x=none)(hv:Vl x=some u)(h:Q u s)
  (hn:x ≠ "__name__":=by decide) (hd:(x == ("__debug__":Str))=false:=by decide):TY (T7 X.prog X.w) X.A (eval (.Name x pos) X.env) Q E s:=by
 obtain ⟨mb,h1,h2⟩:=I.mod.blt
 exact Zy I.ok.kind hg (Calls.loadGlobal_builtin (by rw [I.ok.glob];exact I.mod.glob.keeps I.bk) hm (by rw [I.ok.blt];exact h1.keeps I.bk) ((h2 x hn).trans hv) h) hd
theorem FP {x:Str}{v:V}{u:Value}{pos:Vk}(hg:Gl X x)(hm:X.mg x=some u)(r:RelV v u)(hd:(x == ("__debug__":Str))=false:=by decide):PE X (.Name x pos) (tC v):=
 fun _ _ _ H _ I h=>iQ I hg hm ⟨v,H,I,r,h⟩ hd
theorem FQ {x:Str}{v:V}{u:Value}{pos:Vk}(hg:Gl X x)(hm:X.mg x=none)(hv:Vl x=some u)(r:RelV v u)(hn:x ≠ "__name__":=by decide) (hd:(x == ("__debug__":Str))=false:=by decide):PE X (.Name x pos) (tC v):=
 fun _ _ _ H _ I h=>gJ I hg hm hv ⟨v,H,I,r,h⟩ hn hd
variable {a b:TJ}{ta tb:TE}{pos:Vk}
variable {tA tB':TT}{rest:List TJ}
noncomputable def FR (t u:TT):TT:=fun σ H Q=>t σ H fun c H1=>if c=true then u σ H1 Q else Q false H1
noncomputable def FT (t u:TT):TT:=fun σ H Q=>t σ H fun c H1=>if c=true then Q true H1 else u σ H1 Q
noncomputable def FU (t:TT):TT:=fun σ H Q=>t σ H fun c H1=>Q (!c) H1
theorem FV (ha:PT X a tA):PW X (.BoolOp .And [a] pos) tA:=by
 intro wh a3G s σ H Q I h
 refine isTrue_and (aO (ha a3G s σ H Q I h) fun c s1 e=>?_)
 cases c with
 | true=>exact isTrue_and_nil e
 | false=>exact e
theorem FW (ha:PT X a tA):PW X (.BoolOp .Or [a] pos) tA:=by
 intro wh a3G s σ H Q I h
 refine isTrue_or (aO (ha a3G s σ H Q I h) fun c s1 e=>?_)
 cases c with
 | false=>exact isTrue_or_nil e
 | true=>exact e
theorem FX (ha:PT X a tA)(hb:PW X (.BoolOp .And (b::rest) pos) tB'):PW X (.BoolOp .And (a::b::rest) pos) (FR tA tB'):=by
 intro wh a3G s σ H Q I h
 refine isTrue_and (aO (ha a3G s σ H _ I h) fun c s1 ⟨H1,I1,q1⟩=>?_)
 cases c with
 | true=>exact hb wh a3G s1 σ H1 Q I1 q1
 | false=>exact ⟨H1,I1,q1⟩
theorem FY (ha:PT X a tA)(hb:PW X (.BoolOp .Or (b::rest) pos) tB'):PW X (.BoolOp .Or (a::b::rest) pos) (FT tA tB'):=by
 intro wh a3G s σ H Q I h
 refine isTrue_or (aO (ha a3G s σ H _ I h) fun c s1 ⟨H1,I1,q1⟩=>?_)
 cases c with
 | true=>exact ⟨H1,I1,q1⟩
 | false=>exact hb wh a3G s1 σ H1 Q I1 q1
theorem FZ (ha:PT X a tA):PT X (.UnaryOp .Not a pos) (FU tA):=by
 intro a3G s σ H Q I h
 exact isTrue_not (ha a3G s σ H (fun c H1=>Q (!c) H1) I h)
noncomputable def F0 (ta tb:TE):TE:=fun σ H Q=>ta σ H fun x H1=>∃ c,x=.bl c/\if c=true then tb σ H1 Q else Q (.bl false) H1
noncomputable def F1 (ta tb:TE):TE:=fun σ H Q=>ta σ H fun x H1=>∃ c,x=.bl c/\if c=true then Q (.bl true) H1 else tb σ H1 Q
noncomputable def F2 (ta:TE):TE:=fun σ H Q=>ta σ H fun x H1=>∃ c,x=.bl c/\Q (.bl (!c)) H1
theorem F3 {op} {t:TE}(h:PE X a t):PE X (.BoolOp op [a] pos) t:=fun a3G s σ H Q I hw=>BoolOp_one (h a3G s σ H Q I hw)
theorem F5 (ha:PE X a ta)(hb:PE X (.BoolOp .And (b::rest) pos) tb):PE X (.BoolOp .And (a::b::rest) pos) (F0 ta tb):=by
 intro a3G s σ H Q I h
 refine BoolOp_and (aO (ha a3G s σ H _ I h) fun v s1 ⟨x,H1,I1,r1,q1⟩=>?_)
 obtain ⟨c,rfl,q1⟩:=q1
 cases r1
 refine VC ?_
 cases c with
 | true=>exact hb a3G s1 σ H1 Q I1 q1
 | false=>exact ⟨.bl false,H1,I1,rfl,q1⟩
theorem F6 (ha:PE X a ta)(hb:PE X (.BoolOp .Or (b::rest) pos) tb):PE X (.BoolOp .Or (a::b::rest) pos) (F1 ta tb):=by
 intro a3G s σ H Q I h
 refine BoolOp_or (aO (ha a3G s σ H _ I h) fun v s1 ⟨x,H1,I1,r1,q1⟩=>?_)
 obtain ⟨c,rfl,q1⟩:=q1
 cases r1
 refine VC ?_
 cases c with
 | false=>exact hb a3G s1 σ H1 Q I1 q1
 | true=>exact ⟨.bl true,H1,I1,rfl,q1⟩
theorem F7 (ha:PE X a ta):PE X (.UnaryOp .Not a pos) (F2 ta):=by
 intro a3G s σ H Q I h
 refine UnaryOp_ (aO (ha a3G s σ H _ I h) fun v s1 ⟨x,H1,I1,r1,q1⟩=>?_)
 obtain ⟨c,rfl,q1⟩:=q1
 cases r1
 exact not_of (VC ⟨.bl (!c),H1,I1,rfl,q1⟩)
noncomputable def F8 (t:TT)(ta tb:TE):TE:=fun σ H Q=>t σ H fun c H1=>if c=true then ta σ H1 Q else tb σ H1 Q
theorem F9 {c:TJ}(hc:PT X c tA)(ha:PE X a ta)(hb:PE X b tb):PE X (.IfExp c a b pos) (F8 tA ta tb):=by
 intro a3G s σ H Q I h
 refine wpAny_IfExp (aO (hc a3G s σ H _ I h) fun d s1 ⟨H1,I1,q1⟩=>?_)
 cases d with
 | true=>exact ha a3G s1 σ H1 Q I1 q1
 | false=>exact hb a3G s1 σ H1 Q I1 q1
end
end L2
namespace L2
open PySem PySem.Spec PyProof.Rows
noncomputable def SqL (K:To)(H:Hp)(a:Addr)(xs:List V):Prop:=
 Rd H a (.lst xs) \/
  ∃ (o:Obj)(its:Array Value)(n:Nat),K.lookup a=some o/\o.cls=.type "list"/\o.dict=none/\o.data=.seq its n/\its.size<=TL/\Vals xs its.toList
noncomputable def SqT (K:To)(H:Hp)(a:Addr)(xs:List V):Prop:=
 Rd H a (.tup xs) \/
  ∃ (o:Obj)(its:Array Value)(n:Nat),K.lookup a=some o/\o.cls=.type "tuple"/\o.dict=none/\o.data=.seq its n/\its.size<=TL/\Vals xs its.toList
noncomputable def Ga:Value->Option V
 | .none=>some .non
 | .bool b=>some (.bl b)
 | .int i _=>some (.int i)
 | .str x _=>some (.str x)
 | .bytes b _=>some (.byt b)
 | .float b _=>some (.flt b)
 | .ref a=>some (.ref a)
 | .type n=>some (.ty n)
 | _=>none
theorem RelV.abs {x:V}{u:Value}(r:RelV x u):Ga u=some x:=by
 cases x with
 | non=>cases r;rfl
 | bl _=>cases r;rfl
 | int _=>obtain ⟨t,rfl⟩:=r;rfl
 | str _=>obtain ⟨t,rfl⟩:=r;rfl
 | byt _=>obtain ⟨t,rfl⟩:=r;rfl
 | flt _=>obtain ⟨t,rfl⟩:=r;rfl
 | ref _=>cases r;rfl
 | ty _=>cases r;rfl
theorem RelV.inj {x y:V}{u:Value}(r:RelV x u)(q:RelV y u):x=y:=Uc (r.abs.symm.trans q.abs)
theorem Vals.inj:∀ {xs ys:List V}{us:List Value},Vals xs us->Vals ys us->xs=ys
 | _,_,_,.nil,.nil=>rfl
 | _,_,_,.cons r t,.cons r' t'=>by rw [r.inj r',Vals.inj t t']
section
variable {X:Cx}{a3G:List (Addr×Obj)}{σ:St}{H:Hp}{s:Tv}{a:Addr}{xs ys:List V}
theorem SqL.of {K:To}(h:H a=some (.lst xs)):SqL K H a xs:=.inl (.inl h)
theorem SqT.of {K:To}(h:H a=some (.tup xs)):SqT K H a xs:=.inl (.inl h)
theorem Inv.list (I:Inv X a3G σ H s)(h:SqL X.K H a xs):∃ its:List Value,Vals xs its/\PlainL s.heap a its.toArray/\xs.length<=TL:=by
 rcases h with h|⟨o,its,n,hk,hc,hd,hs,hz,r⟩
 ·obtain ⟨z,its,n,r,e⟩:=h.ok I.hok
  exact ⟨its,r,⟨_,n,e,rfl,rfl,rfl⟩,z⟩
 ·refine ⟨its.toList,r,⟨o,n,I.kIn a o hk,hc,hd,by simpa using hs⟩,?_⟩
  have e:=r.length
  simp only [Xp] at e
  omega
theorem Inv.tuple (I:Inv X a3G σ H s)(h:SqT X.K H a xs):∃ its:List Value,Vals xs its/\Wq s.heap a its.toArray/\xs.length<=TL:=by
 rcases h with h|⟨o,its,n,hk,hc,hd,hs,hz,r⟩
 ·obtain ⟨z,its,r,p⟩:=h.ok I.hok
  exact ⟨its,r,p.tup,z⟩
 ·refine ⟨its.toList,r,⟨o,I.kIn a o hk,hc,n,by simpa using hs⟩,?_⟩
  have e:=r.length
  simp only [Xp] at e
  omega
theorem Inv.tupN (I:Inv X a3G σ H s)(h:SqT X.K H a xs):∃ its:List Value,Vals xs its/\TupN s.heap a its.toArray:=by
 rcases h with h|⟨o,its,n,hk,hc,hd,hs,hz,r⟩
 ·obtain ⟨z,its,r,p⟩:=h.ok I.hok
  exact ⟨its,r,p⟩
 ·exact ⟨its.toList,r,o,I.kIn a o hk,hc,n,by simpa using hs,hd⟩
theorem Inv.list_inj (I:Inv X a3G σ H s)(h:SqL X.K H a xs)(h':SqL X.K H a ys):xs=ys:=by
 obtain ⟨its,r,⟨o,n,e,_,_,d⟩,_⟩:=I.list h
 obtain ⟨its',r',⟨o',n',e',_,_,d'⟩,_⟩:=I.list h'
 rw [e] at e';cases e'
 rw [d] at d'
 injection d' with d1 _
 have:its=its':=by simpa using congrArg a2g d1
 subst this
 exact r.inj r'
theorem Inv.tuple_inj (I:Inv X a3G σ H s)(h:SqT X.K H a xs)(h':SqT X.K H a ys):xs=ys:=by
 obtain ⟨its,r,⟨o,e,_,n,d⟩,_⟩:=I.tuple h
 obtain ⟨its',r',⟨o',e',_,n',d'⟩,_⟩:=I.tuple h'
 rw [e] at e';cases e'
 rw [d] at d'
 injection d' with d1 _
 have:its=its':=by simpa using congrArg a2g d1
 subst this
 exact r.inj r'
end
noncomputable abbrev Cx.wish (X:Cx)(E:Value->Tv->Prop):Cx:={ X with xe:=E }
noncomputable abbrev Cx.nox (X:Cx):Cx:=X.wish fun _ _=>False
theorem Cx.Ok.wish {X:Cx}(ok:X.Ok)(E:Value->Tv->Prop):(X.wish E).Ok:=
 ⟨ok.mod,ok.kind,ok.glob,ok.blt,ok.above,ok.inj,ok.has,ok.cab,ok.hd,ok.frames,ok.stk,ok.exf,ok.bs,ok.bsz,ok.noex,ok.exfs,ok.funs,ok.frf⟩
theorem Cx.Ok.unwish {X:Cx}{E:Value->Tv->Prop}(ok:(X.wish E).Ok):X.Ok:=
 ⟨ok.mod,ok.kind,ok.glob,ok.blt,ok.above,ok.inj,ok.has,ok.cab,ok.hd,ok.frames,ok.stk,ok.exf,ok.bs,ok.bsz,ok.noex,ok.exfs,ok.funs,ok.frf⟩
section
variable {X:Cx}{a3G:List (Addr×Obj)}{σ:St}{H:Hp}{s:Tv}{E:Value->Tv->Prop}
theorem Inv.wish (I:Inv X a3G σ H s)(E:Value->Tv->Prop):Inv (X.wish E) a3G σ H s:=⟨I.ok.wish E,I.os,I.bare,I.base,I.loc,I.cell,I.free,I.freeC,I.pin,I.hok,I.len⟩
theorem Inv.unwish (I:Inv (X.wish E) a3G σ H s):Inv X a3G σ H s:=⟨I.ok.unwish,I.os,I.bare,I.base,I.loc,I.cell,I.free,I.freeC,I.pin,I.hok,I.len⟩
theorem SP.unwish {D:Ends}{f:Flow}{s':Tv}(h:SP (X.wish E) a3G D f s'):SP X a3G D f s':=by
 cases f with
 | next=>obtain ⟨σ',H',I,q⟩:=h;exact ⟨σ',H',I.unwish,q⟩
 | brk=>obtain ⟨σ',H',I,q⟩:=h;exact ⟨σ',H',I.unwish,q⟩
 | cont=>obtain ⟨σ',H',I,q⟩:=h;exact ⟨σ',H',I.unwish,q⟩
 | ret u=>obtain ⟨v,σ',H',I,r,q⟩:=h;exact ⟨v,σ',H',I.unwish,r,q⟩
theorem PE.nox {e:TJ}{t:TE}(h:PE X.nox e t):PE X e t:=fun a3G s σ H Q I hw=>
 Us (h a3G s σ H Q (I.wish _) hw) (fun _ _ ⟨v,H',I',r,q⟩=>⟨v,H',I'.unwish,r,q⟩) fun _ _ z=>UC z
theorem PT.nox {e:TJ}{t:TT}(h:PT X.nox e t):PT X e t:=fun a3G s σ H Q I hw=>
 Us (h a3G s σ H Q (I.wish _) hw) (fun _ _ ⟨H',I',q⟩=>⟨H',I'.unwish,q⟩) fun _ _ z=>UC z
theorem PSs.nox {st:List Stmt}{t:TS}(h:PSs X.nox st t):PSs X st t:=fun a3G s σ H D I hw=>
 Us (h a3G s σ H D (I.wish _) hw) (fun _ _ q=>q.unwish) fun _ _ z=>UC z
end
section
variable {X:Cx}{st:Stmt}{rest:List Stmt}{t u:TS}{e:TJ}{te:TE}{pos:Vk}
noncomputable def Ab:TS:=fun D σ H=>D.nx σ H
noncomputable def Gb (t u:TS):TS:=fun D σ H=>t { D with nx:=u D } σ H
theorem Gd:PSs X [] Ab:=fun _ _ σ H _ I h=>WO ⟨σ,H,I,h⟩
theorem Ge (h1:PS X st t)(h2:PSs X rest u):PSs X (st::rest) (Gb t u):=by
 intro a3G s σ H D I h
 refine Xq (aO (h1 a3G s σ H { D with nx:=u D } I h) fun f s1 q=>?_)
 cases f with
 | next=>
  obtain ⟨σ',H',I',q⟩:=q
  exact h2 a3G s1 σ' H' D I' q
 | ret v=>exact q
 | brk=>exact q
 | cont=>exact q
theorem Gf (h1:PS X st t):PSs X [st] t:=by
 intro a3G s σ H D I h
 refine Xq (aO (h1 a3G s σ H D I h) fun f s1 q=>?_)
 cases f with
 | next=>exact WO q
 | ret v=>exact q
 | brk=>exact q
 | cont=>exact q
theorem Gg:PS X (.Pass pos) Ab:=fun _ _ σ H _ I h=>wpAny_Pass ⟨σ,H,I,h⟩
theorem Inv.quiet {a3G:List (Addr×Obj)}{σ:St}{H:Hp}{s:Tv}(I:Inv X a3G σ H s):interactive X.env=false:=by simp [interactive,I.ok.kind]
noncomputable def Gh (te:TE):TS:=fun D σ H=>te σ H fun _ H1=>D.nx σ H1
theorem Gi (he:PE X e te)(hs:Xr e none pos.line X.env=pure false:=by rfl):PS X (.Expr e pos) (Gh te):=by
 intro a3G s σ H D I h
 exact a0c (aO (he a3G s σ H _ I h) fun v s1 ⟨x,H1,I1,r1,q1⟩=>⟨σ,H1,I1,q1⟩) I.quiet hs
noncomputable def Gj (te:TE):TS:=fun D σ H=>te σ H D.rt
theorem Gk (he:PE X e te):PS X (.Return (some e) pos) (Gj te):=by
 intro a3G s σ H D I h
 exact a2k (aO (he a3G s σ H _ I h) fun v s1 ⟨x,H1,I1,r1,q1⟩=>⟨x,σ,H1,I1,r1,q1⟩)
noncomputable def Gm:TS:=fun D _ H=>D.rt .non H
theorem Gn:PS X (.Return none pos) Gm:=fun _ _ σ H _ I h=>wpAny_Return_none ⟨.non,σ,H,I,rfl,h⟩
noncomputable def Gp (c:TT)(t u:TS):TS:=fun D σ H=>c σ H fun b H1=>if b=true then t D σ H1 else u D σ H1
theorem Gq {c:TJ}{a b:List Stmt}{tc:TT}(hc:PT X c tc)(ha:PSs X a t)(hb:PSs X b u):PS X (.If c a b pos) (Gp tc t u):=by
 intro a3G s σ H D I h
 refine wpAny_If (aO (hc a3G s σ H _ I h) fun d s1 ⟨H1,I1,q1⟩=>?_)
 cases d with
 | true=>exact ha a3G s1 σ H1 D I1 q1
 | false=>exact hb a3G s1 σ H1 D I1 q1
end
noncomputable abbrev TG:=V->St->Hp->(St->Hp->Prop)->Prop
noncomputable abbrev mG:=List V->St->Hp->(St->Hp->Prop)->Prop
noncomputable def PG (X:Cx)(target:TJ)(t:TG):Prop:=
 ∀ (a3G:List (Addr×Obj))(s:Tv)(σ:St)(H:Hp)(v:V)(u:Value)(Q:St->Hp->Prop),Inv X a3G σ H s->RelV v u->t v σ H Q->
  TY (T7 X.prog X.w) X.A (Zc target X.env u) (fun _ s'=>∃ σ' H',Inv X a3G σ' H' s'/\Q σ' H') X.xe s
noncomputable def oO (X:Cx)(ts:List TJ)(t:mG):Prop:=
 ∀ (a3G:List (Addr×Obj))(s:Tv)(σ:St)(H:Hp)(vs:List V)(us:List Value)(Q:St->Hp->Prop),Inv X a3G σ H s->Vals vs us->t vs σ H Q->
  TY (T7 X.prog X.w) X.A (assignInOrder ((VM ts X.env).map (·.2)) us) (fun _ s'=>∃ σ' H',Inv X a3G σ' H' s'/\Q σ' H') X.xe s
noncomputable abbrev Ac:=V->V->V->Hp->(Hp->Prop)->Prop
noncomputable def Gr (X:Cx)(t:Ac):Prop:=
 ∀ (a3G:List (Addr×Obj))(s:Tv)(σ:St)(H:Hp)(o i v:V)(ov iv u:Value)(Q:Hp->Prop),Inv X a3G σ H s->RelV o ov->RelV i iv->RelV v u->t o i v H Q->
  TY (T7 X.prog X.w) X.A (setItem ov iv u) (fun _ s'=>∃ H',Inv X a3G σ H' s'/\Q H') X.xe s
section
variable {X:Cx}{pos:Vk}
noncomputable def uD (i:Nat):TG:=fun v σ H Q=>Q (σ.set i (some v)) H
theorem Ad {i:Nat}{x:Str}(hN:X.N.Nodup)(hi:X.N[i]? = some x)(hx:Loc X.env.scope x)(hf:X.fn x=true\/X.env.scope.names.lookup x=some .local:=by first|exact .inl rfl|exact .inr rfl|assumption):PG X (.Name x pos) (uD i):=by
 intro a3G s σ H v u Q I r h
 exact a2j (z9 I hN hi hx r (fun s' I'=>⟨_,H,I',h⟩) hf)
noncomputable def Ae:mG:=fun vs σ H Q=>vs=[]/\Q σ H
noncomputable def Af (t:TG)(u:mG):mG:=fun vs σ H Q=>∃ v r,vs=v::r/\t v σ H fun σ' H'=>u r σ' H' Q
theorem Gs:oO X [] Ae:=by
 intro a3G s σ H vs us Q I r h
 obtain ⟨e,h⟩:=h
 subst e
 cases r
 exact assignInOrder_nil ⟨σ,H,I,h⟩
theorem Gu {e:TJ}{es:List TJ}{t:TG}{u:mG}(h1:PG X e t)(h2:oO X es u)
  (hs:(VM (e::es) X.env).map (·.2)=Zc e X.env::(VM es X.env).map (·.2):=by rfl):oO X (e::es) (Af t u):=by
 intro a3G s σ H vs us Q I r h
 obtain ⟨v,vr,e1,h⟩:=h
 subst e1
 cases r with
 | cons r rr=>
  rw [hs]
  refine assignInOrder_cons (aO (h1 a3G s σ H _ _ _ I r h) fun _ s1 ⟨σ1,H1,I1,q1⟩=>?_)
  exact h2 a3G s1 σ1 H1 _ _ Q I1 rr q1
noncomputable def Ag (te:TE)(g:TG):TS:=fun D σ H=>te σ H fun x H1=>g x σ H1 D.nx
theorem Gv {tg e:TJ}{te:TE}{g:TG}(he:PE X e te)(hg:PG X tg g)(hs:swapsWithSole [tg] e pos.line X.env=pure false:=by rfl)(hw:a0D [tg] e X.env=pure none:=by rfl)
  (h1:(VM [tg] X.env).map (·.2)=[Zc tg X.env]:=by rfl):PS X (.Assign [tg] e pos) (Ag te g):=by
 intro a3G s σ H D I h
 refine wpAny_Assign_stores (aO (he a3G s σ H _ I h) fun v s1 ⟨x,H1,I1,r1,q1⟩=>?_) hs hw
 rw [h1]
 exact aO (hg a3G s1 σ H1 x v _ I1 r1 q1) fun _ s2 q=>q
theorem Gw {i:Nat}{x:Str}{e:TJ}{te:TE}{pos':Vk}(hN:X.N.Nodup)(hi:X.N[i]? = some x)(hx:Loc X.env.scope x)(he:PE X e te)(hs:Xr e (some (.Name x pos')) pos.line X.env=pure false:=by rfl)(hf:X.fn x=true\/X.env.scope.names.lookup x=some .local:=by first|exact .inl rfl|exact .inr rfl|assumption) :
  PS X (.Assign [.Name x pos'] e pos) (Ag te (uD i)):=by
 intro a3G s σ H D I h
 refine a2l (aO (he a3G s σ H _ I h) fun v s1 ⟨y,H1,I1,r1,q1⟩=>?_) hs
 exact z9 I1 hN hi hx r1 (fun s2 I2=>⟨_,H1,I2,q1⟩) hf
end
section
variable {X:Cx}{pos:Vk}
noncomputable def Gx (c:TT)(tb:TS):TS:=fun D σ H=>∃ W:Nat->St->Hp->Prop,(∃ m,W m σ H)/\∀ m σ H,W m σ H->
 c σ H fun b H1=>if b=true then ∃ N:St->Hp->Prop,(∀ σ' H',N σ' H'->∃ m',m'<m/\W m' σ' H')/\tb { D with nx:=N,ct:=N,bk:=D.nx } σ H1 else D.nx σ H1
theorem Gy {c:TJ}{body:List Stmt}{tc:TT}{tb:TS}(hp:ZN (T7 X.prog X.w) X.A X.env X.xe)(hc:PT X c tc)(hb:PSs X body tb):PS X (.While c body [] pos) (Gx tc tb):=by
 intro a3G s σ H D I h
 obtain ⟨W,⟨m0,w0⟩,turn⟩:=h
 refine wpAny_While (codeAny_whileLoop (fun n s'=>∃ σ' H',Inv X a3G σ' H' s'/\W n σ' H') ?_ m0 ⟨σ,H,I,w0⟩)
 rintro n s1 ⟨σ1,H1,I1,w1⟩
 refine Wl hp (aO (hc a3G s1 σ1 H1 _ I1 (turn n σ1 H1 w1)) fun b s2 ⟨H2,I2,q2⟩=>?_)
 cases b with
 | true=>
  obtain ⟨N,hN,q2⟩:=q2
  rw [if_pos rfl]
  refine Wl hp (aO (hb a3G s2 σ1 H2 _ I2 q2) fun f s3 q3=>?_)
  cases f with
  | next=>
   obtain ⟨σ3,H3,I3,n3⟩:=q3
   obtain ⟨m',hm,w3⟩:=hN σ3 H3 n3
   exact ⟨m',hm,σ3,H3,I3,w3⟩
  | cont=>
   obtain ⟨σ3,H3,I3,n3⟩:=q3
   obtain ⟨m',hm,w3⟩:=hN σ3 H3 n3
   exact ⟨m',hm,σ3,H3,I3,w3⟩
  | brk=>exact q3
  | ret v=>exact q3
 | false=>
  rw [if_neg UN]
  exact WO ⟨σ1,H2,I2,q2⟩
end
structure It where
 go:Nat->Hp->Prop
 yld:Nat->Hp->V->Hp->Prop
 stop:Nat->Hp->Prop
noncomputable def eT (X:Cx)(a3G:List (Addr×Obj))(H:Hp)(b:Addr):Prop:=
 H b=none/\b≠X.env.locals/\b∉X.fs/\(b∈X.ex\/X.s₀.heap.objs.size<=b)/\(∀ x c,X.env.cells.lookup x=some c->c≠b)/\∀ p∈X.pn++a3G,p.1≠b
theorem Inv.fpOk {X:Cx}{a3G:List (Addr×Obj)}{σ:St}{H H':Hp}{s:Tv}{b:Addr}(I:Inv X a3G σ H s)(hb:s.heap.objs.size<=b)(hn:H' b=none):eT X a3G H' b:=by
 refine ⟨hn,Vq (T6 I.lt hb),I.nofs hb,.inr (UU I.sz hb),fun x c e z=>?_,fun p hp z=>?_⟩
 ·obtain ⟨v,q⟩:=I.cell x c e
  exact absurd (T6 q.lt (by rw [z];exact hb)) (VO _)
 ·exact absurd (T6 (TB (I.pin p hp).1) (by rw [z];exact hb)) (VO _)
structure Turn (P:Ub)(w:Up)(K:To)(tg:TJ)(J:It)(fp:List Addr)(it:Addr)(tn:Nat->UE->Prop):Prop where
 mem:it∈fp
 obj:∀ i h,tn i h->∀ b∈fp,∃ o,h.get? b=some o/\∀ v,o.data≠.cell v
 keep:∀ i h h',tn i h->(∀ b∈fp,∀ o,h.get? b=some o->h'.get? b=some o)->tn i h'
 item:∀ (X:Cx),X.prog=P->X.w=w->X.K=K->X.calm=true->∀ (i:Nat)(a3G:List (Addr×Obj))(s:Tv)(σ:St)(H:Hp)(E:Value->Tv->Prop),Inv X a3G σ H s->(∀ b∈fp,eT X a3G H b)->tn i s.heap->J.go i H->
  TY (T7 P w) X.A (XF (.ref it)) (fun r s1=>∃ u,r=some u /\
   TY (T7 P w) X.A (Yz tg (.ref it) u) (fun _ s2=>∃ x H',Inv X a3G σ H' s2/\RelV x u/\J.yld i H x H'/\tn (i+1) s2.heap/\∀ b∈fp,H' b=none) E s1) E s
 done:∀ (X:Cx),X.prog=P->X.w=w->X.K=K->X.calm=true->∀ (i:Nat)(a3G:List (Addr×Obj))(s:Tv)(σ:St)(H:Hp)(E:Value->Tv->Prop),Inv X a3G σ H s->(∀ b∈fp,eT X a3G H b)->tn i s.heap->J.stop i H->
  TY (T7 P w) X.A (XF (.ref it)) (fun r s1=>r=none/\Inv X a3G σ H s1) E s
 self:∀ (A:Ue)(i:Nat)(s:Tv)(Q:Value->Tv->Prop)(E:Value->Tv->Prop),tn i s.heap->Q (.ref it) s->TY (T7 P w) A (a0g (.ref it)) Q E s
noncomputable abbrev TI:=St->Hp->(It->Hp->Prop)->Prop
noncomputable def qU (X:Cx)(a3G:List (Addr×Obj))(σ:St)(tg:TJ)(R:It->Hp->Prop)(itv:Value)(s2:Tv):Prop:=
 ∃ (it:Addr)(fp:List Addr)(tn:Nat->UE->Prop)(J:It)(H':Hp),itv=.ref it/\Inv X a3G σ H' s2/\Turn X.prog X.w X.K tg J fp it tn/\tn 0 s2.heap/\(∀ b∈fp,eT X a3G H' b)/\R J H'
noncomputable def PI (X:Cx)(tg iter:TJ)(wi:TI):Prop:=
 ∀ (a3G:List (Addr×Obj))(s:Tv)(σ:St)(H:Hp)(R:It->Hp->Prop),Inv X a3G σ H s->wi σ H R->
  TY (T7 X.prog X.w) X.A (eval iter X.env) (fun v s1=>TY (T7 X.prog X.w) X.A (a0g v) (qU X a3G σ tg R) X.xe s1) X.xe s
theorem uE {M:Zw}{A:Ue}{E:Value->Tv->Prop}{s:Tv}{tg:TJ}{it:Addr}{u:Value}{o:Obj}{n:String}{vs:Array Value}{Q:Unit->Tv->Prop}(ho:s.heap.get? it=some o)(hc:o.cls=.type n)(hd:o.data=.fields vs)
  (hn:["enumerate","zip","dict_itemiterator","dict_reverseitemiterator","odict_iterator","itertools.zip_longest","itertools.pairwise"].contains n=false) (hQ:Q () s):TY M A (Yz tg (.ref it) u) Q E s:=by
 unfold Yz
 cases tg<;>first
  | exact TF hQ
  | (cases u<;>first
    | exact TF hQ
    | (refine Tp (a0b ho ?_)
       rw [hc,hd]
       show TY M A (if (["enumerate","zip","dict_itemiterator","dict_reverseitemiterator","odict_iterator","itertools.zip_longest","itertools.pairwise"].contains n&&vs[0]? == some (VW _))=true then _ else _) Q E s
       rw [if_neg (by intro h;rw [hn,Bool.false_and] at h;cases h)]
       exact TF hQ))
noncomputable def uF (K:To)(a:Addr):It:=
 ⟨fun i H=>∃ xs x,SqL K H a xs/\xs[i]? = some x,fun i H x H'=>H'=H/\∀ xs,SqL K H a xs->xs[i]? = some x,fun i H=>∃ xs,SqL K H a xs/\xs.length<=i⟩
noncomputable def uG (K:To)(a:Addr):It:=
 ⟨fun i H=>∃ xs x,SqT K H a xs/\xs[i]? = some x,fun i H x H'=>H'=H/\∀ xs,SqT K H a xs->xs[i]? = some x,fun i H=>∃ xs,SqT K H a xs/\xs.length<=i⟩
noncomputable def oP (lo:Int)(n:Nat):It:=⟨fun i _=>i<n,fun i H x H'=>H'=H/\x=.int (lo+i),fun i _=>n<=i⟩
theorem Gz {P:Ub}{w:Up}{K:To}{tg:TJ}(a it:Addr):Turn P w K tg (uF K a) [it] it (fun i h=>h.IsListIter it a i) where
 mem:=by simp
 obj:=fun i h st b hb=>by
  have e:b=it:=by simpa using hb
  subst e
  obtain ⟨o,e,c,d⟩:=st
  exact ⟨o,e,fun v z=>by rw [d] at z;cases z⟩
 keep:=fun i h h' st k=>st.at fun o e=>k it (by simp) o e
 item:=by
  intro X hP hw hK hc i a3G s σ H E I hf st hg
  subst hP hw hK
  obtain ⟨xs,x,hq,hx⟩:=hg
  obtain ⟨its,rv,p,hz⟩:=I.list hq
  obtain ⟨u,hu,ru⟩:=rv.get hx
  obtain ⟨f0,f1,f2,f3,f4,f5⟩:=hf it (by simp)
  refine Yt st p.isList (x:=u) (by simpa using hu) fun h' st' sb=>?_
  have I1:Inv X a3G σ H { s with heap:=h' }:=I.turned (t':=s.toks) (fun b o hb e=>(sb.2 b hb).trans e) f0 f1 f3 f4 f5
  obtain ⟨o,e,c,d⟩:=id st'
  exact ⟨u,rfl,uE (s:={ s with heap:=h' }) e c d (by decide) ⟨x,H,I1,ru,⟨rfl,fun ys hy=>by rw [I.list_inj hy hq];exact hx⟩,st',fun b hb=>(hf b hb).1⟩⟩
 done:=by
  intro X hP hw hK hc i a3G s σ H E I hf st hg
  subst hP hw hK
  obtain ⟨xs,hq,hx⟩:=hg
  obtain ⟨its,rv,p,hz⟩:=I.list hq
  obtain ⟨f0,f1,f2,f3,f4,f5⟩:=hf it (by simp)
  have hl:=rv.length
  exact YA (I.ok.hd hc) st p.isList (by simp;omega) fun h' eb=>⟨rfl,I.turned (t':=s.toks) (fun b o hb e=>eb b o hb e) f0 f1 f3 f4 f5⟩
 self:=fun _ _ _ _ _ st h=>wpAny_pyIter_listiter st h
theorem GA {P:Ub}{w:Up}{K:To}{tg:TJ}(a it:Addr):Turn P w K tg (uG K a) [it] it (fun i h=>h.IsTupleIter it a i) where
 mem:=by simp
 obj:=fun i h st b hb=>by
  have e:b=it:=by simpa using hb
  subst e
  obtain ⟨o,e,c,d⟩:=st
  exact ⟨o,e,fun v z=>by rw [d] at z;cases z⟩
 keep:=fun i h h' st k=>st.at fun o e=>k it (by simp) o e
 item:=by
  intro X hP hw hK hc i a3G s σ H E I hf st hg
  subst hP hw hK
  obtain ⟨xs,x,hq,hx⟩:=hg
  obtain ⟨its,rv,p,hz⟩:=I.tuple hq
  obtain ⟨u,hu,ru⟩:=rv.get hx
  obtain ⟨f0,f1,f2,f3,f4,f5⟩:=hf it (by simp)
  refine a0K st (show s.heap.IsTuple a its.toArray from p) (x:=u) (by simpa using hu) fun h' st' sb=>?_
  have I1:Inv X a3G σ H { s with heap:=h' }:=I.turned (t':=s.toks) (fun b o hb e=>(sb.2 b hb).trans e) f0 f1 f3 f4 f5
  obtain ⟨o,e,c,d⟩:=id st'
  exact ⟨u,rfl,uE (s:={ s with heap:=h' }) e c d (by decide) ⟨x,H,I1,ru,⟨rfl,fun ys hy=>by rw [I.tuple_inj hy hq];exact hx⟩,st',fun b hb=>(hf b hb).1⟩⟩
 done:=by
  intro X hP hw hK hc i a3G s σ H E I hf st hg
  subst hP hw hK
  obtain ⟨xs,hq,hx⟩:=hg
  obtain ⟨its,rv,p,hz⟩:=I.tuple hq
  obtain ⟨f0,f1,f2,f3,f4,f5⟩:=hf it (by simp)
  have hl:=rv.length
  exact a1a (I.ok.hd hc) st (show s.heap.IsTuple a its.toArray from p) (by simp;omega) fun h' eb=>⟨rfl,I.turned (t':=s.toks) (fun b o hb e=>eb b o hb e) f0 f1 f3 f4 f5⟩
 self:=fun _ _ _ _ _ st h=>wpAny_pyIter_tupleiter st h
theorem GB {P:Ub}{w:Up}{K:To}{tg:TJ}(it:Addr)(lo:Int)(n:Nat):Turn P w K tg (oP lo n) [it] it (fun i h=>IsRangeIter h it (lo+(i:Nat) * 1) ((n:Int) - (i:Nat)) 1) where
 mem:=by simp
 obj:=fun i h st b hb=>by
  have e:b=it:=by simpa using hb
  subst e
  exact ⟨_,st,fun v z=>by
   have z':TR _=Za v:=z
   cases z'⟩
 keep:=fun i h h' st k=>k it (by simp) _ st
 item:=by
  intro X hP hw hK hc i a3G s σ H E I hf st hg
  subst hP hw hK
  obtain ⟨f0,f1,f2,f3,f4,f5⟩:=hf it (by simp)
  have W:=Walks.range (prog:=X.prog) (w:=X.w) (I.ok.hd hc) it lo 1 n
  refine W.item i s _ _ hg st fun v h' tk hv st' kk=>?_
  obtain ⟨t,rfl⟩:=hv
  have I1:Inv X a3G σ H { s with heap:=h',toks:=tk }:=I.turned (fun b o hb e=>kk b o (by simpa using hb) e) f0 f1 f3 f4 f5
  refine ⟨_,rfl,uE (s:={ s with heap:=h',toks:=tk }) (n:="range_iterator") st' rfl rfl (by decide) ⟨.int (lo+i),H,I1,⟨t,?_⟩,⟨rfl,rfl⟩,st',fun b hb=>(hf b hb).1⟩⟩
  rw [Int.mul_one]
 done:=by
  intro X hP hw hK hc i a3G s σ H E I hf st hg
  subst hP hw hK
  obtain ⟨f0,f1,f2,f3,f4,f5⟩:=hf it (by simp)
  exact wpAny_pyNext_range_end (I.ok.hd hc) st (by have:n<=i:=hg;omega) fun h' eb=>⟨rfl,I.turned (t':=s.toks) (fun b o hb e=>eb b o hb e) f0 f1 f3 f4 f5⟩
 self:=fun _ _ _ _ _ st h=>wpAny_pyIter_rangeiter st h
end L2
namespace L2
open PySem PySem.Spec PyProof.Rows
section
variable {X:Cx}{tg:TJ}
theorem Ah {a3G:List (Addr×Obj)}{σ:St}{H:Hp}{s:Tv}{R:It->Hp->Prop}{E:Value->Tv->Prop}{lo hi:Int}{t u v:a2C}{tk:Nat}(I:Inv X a3G σ H s)(h1:-(2 ^ 62)<=lo)(h2:lo<2 ^ 62)(h3:-(2 ^ 62)<=hi)(h4:hi<2 ^ 62)
  (q:R (oP lo (hi - lo).toNat) H):TY (T7 X.prog X.w) X.A (a0g (.ref s.heap.objs.size)) (qU X a3G σ tg R) E { s with heap:=s.heap.push { cls:=.type "range",data:=.fields #[.int lo t,.int hi u,.int 1 v] },toks:=tk }:=by
 refine wpAny_pyIter_range (IsRange.new ..) (small_one h1 h2 h3 h4) ?_
 have I1:Inv X a3G σ H { s with heap:=s.heap.push { cls:=.type "range",data:=.fields #[.int lo t,.int hi u,.int 1 v] },toks:=tk }:=I.kept fun b o e=>Tu _ e
 refine ⟨(s.heap.push { cls:=.type "range",data:=.fields #[.int lo t,.int hi u,.int 1 v] }).objs.size,[(s.heap.push { cls:=.type "range",data:=.fields #[.int lo t,.int hi u,.int 1 v] }).objs.size],_,_,H,rfl,
  I1.kept (t':=tk) fun b o e=>Tu _ e,GB _ lo (hi - lo).toNat,?_,fun b hb=>?_,q⟩
 ·have e1:lo+((0:Nat):Int) * 1=lo:=by simp
  have e2:(((hi - lo).toNat:Nat):Int) - ((0:Nat):Int)=a2O lo hi 1:=by rw [rangeSize_one];split<;>omega
  show IsRangeIter _ _ (lo+((0:Nat):Int) * 1) ((((hi - lo).toNat:Nat):Int) - ((0:Nat):Int)) 1
  rw [e1,e2]
  exact TZ _ rfl
 ·have e:b=(s.heap.push { cls:=.type "range",data:=.fields #[.int lo t,.int hi u,.int 1 v] }).objs.size:=by simpa using hb
  subst e
  exact I1.fpOk (TK _) (I1.hok.fresh (TK _))
noncomputable def GC (ta:TA):TI:=fun σ H R=>ta σ H fun vs H1=>∃ j:Int,vs=[.int j]/\-(2 ^ 62)<=j/\j<2 ^ 62/\R (oP 0 j.toNat) H1
noncomputable def GD (ta:TA):TI:=fun σ H R=>ta σ H fun vs H1=>∃ i j:Int,vs=[.int i,.int j]/\(-(2 ^ 62)<=i/\i<2 ^ 62/\-(2 ^ 62)<=j/\j<2 ^ 62)/\R (oP i (j - i).toNat) H1
theorem GF {a:TJ}{ta:TA}{p pos:Vk}(hg:Gl X "range") (hm:X.mg "range" = none) (ha:PA X [a] ta)(hs:Ul [a] X.env=[(false,eval a X.env)]:=by rfl):PI X tg (.Call (.Name "range" p) [a] [] pos) (GC ta):=by
 intro a3G s σ H R I h
 refine Call_ (gJ I hg hm boot_range (VE (aO (ha pos a3G s σ H _ I h) fun us s1 ⟨vs,H1,I1,r1,q1⟩=>?_) hs rfl))
 obtain ⟨j,e,q1,q2,q⟩:=q1
 subst e
 cases r1 with
 | cons r rr=>
  cases rr
  obtain ⟨t,rfl⟩:=r
  exact call_range_1 (Ah I1 (by omega) (by omega) q1 q2 (by simpa using q))
theorem GG {a b:TJ}{ta:TA}{p pos:Vk}(hg:Gl X "range") (hm:X.mg "range" = none) (ha:PA X [a,b] ta)(hs:Ul [a,b] X.env=[(false,eval a X.env),(false,eval b X.env)]:=by rfl)(hs2:Ul [b] X.env=[(false,eval b X.env)]:=by rfl) :
  PI X tg (.Call (.Name "range" p) [a,b] [] pos) (GD ta):=by
 intro a3G s σ H R I h
 refine Call_ (gJ I hg hm boot_range (VE (aO (ha pos a3G s σ H _ I h) fun us s1 ⟨vs,H1,I1,r1,q1⟩=>?_) (by rw [hs,hs2]) (by rw [hs2];rfl)))
 obtain ⟨i,j,e,⟨q1,q2,q3,q4⟩,q⟩:=q1
 subst e
 cases r1 with
 | cons r rr=>
  cases rr with
  | cons r' rr=>
   cases rr
   obtain ⟨t,rfl⟩:=r
   obtain ⟨t',rfl⟩:=r'
   exact call_range_2 (Ah I1 q1 q2 q3 q4 q)
noncomputable def GH (wi:TI)(g:TG)(tb:TS):TS:=fun D σ H=>wi σ H fun J H1=>∃ W:Nat->Nat->St->Hp->Prop,(∃ m,W 0 m σ H1)/\∀ i m σ H,W i m σ H->
 (J.stop i H/\D.nx σ H)\/(J.go i H/\∃ N:St->Hp->Prop,(∀ σ' H',N σ' H'->∃ m',m'<m/\W (i+1) m' σ' H')/\∀ x H',J.yld i H x H'->g x σ H' fun σ2 H2=>tb { D with nx:=N,ct:=N,bk:=D.nx } σ2 H2)
noncomputable def oQ (fp:List Addr)(h:UE):List (Addr×Obj):=fp.filterMap fun b=>(h.get? b).map fun o=>(b,o)
theorem qV {fp:List Addr}{h:UE}{b:Addr}{o:Obj}(hb:b∈fp)(e:h.get? b=some o):(b,o)∈oQ fp h:=WK.mpr ⟨b,hb,by rw [e];rfl⟩
theorem GI {fp:List Addr}{h:UE}{p:Addr×Obj}(hp:p∈oQ fp h):p.1∈fp/\h.get? p.1=some p.2:=by
 obtain ⟨b,hb,e⟩:=WK.mp hp
 cases q:h.get? b with
 | none=>rw [q] at e;cases e
 | some o=>
  rw [q] at e
  have e':(b,o)=p:=Uc e
  subst e'
  exact ⟨hb,q⟩
theorem Inv.pinned {a3G:List (Addr×Obj)}{σ:St}{H:Hp}{s:Tv}{fp:List Addr}(I:Inv X a3G σ H s)(hf:∀ b∈fp,eT X a3G H b)(ho:∀ b∈fp,∃ o,s.heap.get? b=some o/\∀ v,o.data≠.cell v):Inv X (a3G++oQ fp s.heap) σ H s:=
 I.pins_of fun p hp=>(U7.mp hp).elim (fun z=>I.pin p (U4 _ z)) fun z=>by
  obtain ⟨hb,e⟩:=GI z
  obtain ⟨f0,f1,f2,_⟩:=hf p.1 hb
  obtain ⟨o,e',d⟩:=ho p.1 hb
  rw [e] at e';cases e'
  exact ⟨e,f0,f1,f2,d⟩
theorem Inv.unpinned {a3G pl:List (Addr×Obj)}{σ:St}{H:Hp}{s:Tv}(I:Inv X (a3G++pl) σ H s):Inv X a3G σ H s:=I.pins_of fun p hp=>I.pin p (U4 _ (a0y _ hp))
theorem GJ {iter:TJ}{body:List Stmt}{wi:TI}{g:TG}{tb:TS}{pos:Vk}(hp:ZN (T7 X.prog X.w) X.A X.env X.xe)(hc:X.calm=true)(hi:PI X tg iter wi)(hg:PG X tg g)(hb:PSs X body tb)
  (hs:∀ x,W7 iter X.env x=pure x:=by intro _;rfl):PS X (.For tg iter body [] pos) (GH wi g tb):=by
 intro a3G s σ H D I h
 refine wpAny_For (aO (hi a3G s σ H _ I h) fun v s1 h1=>aO h1 fun itv s2 h2=>?_) hs
 obtain ⟨it,fp,tn,J,H2,e,I2,T,st2,f2,W,⟨m0,w0⟩,turn⟩:=h2
 subst e
  -- what stays true of the iterator's objects through the loop
 have stat:∀ {H':Hp},(∀ b∈fp,H' b=none)->∀ b∈fp,eT X a3G H' b:=fun hn b hb=>⟨hn b hb,(f2 b hb).2⟩
 refine codeAny_forLoop_any (fun n s'=>∃ i σ' H',Inv X a3G σ' H' s'/\tn i s'.heap/\(∀ b∈fp,H' b=none)/\W i n σ' H') ?_ m0 ⟨0,σ,H2,I2,st2,fun b hb=>(f2 b hb).1,w0⟩
 rintro n s3 ⟨i,σ3,H3,I3,st3,fr3,w3⟩
 rcases turn i n σ3 H3 w3 with ⟨stop,qn⟩|⟨go,N,hN,step⟩
 ·refine Wl hp (aO (T.done X rfl rfl rfl hc i a3G s3 σ3 H3 X.xe I3 (stat fr3) st3 stop) fun r s4 ⟨hr,I4⟩=>?_)
  subst hr
  exact WO ⟨σ3,H3,I4,qn⟩
 ·refine Wl hp (aO (T.item X rfl rfl rfl hc i a3G s3 σ3 H3 X.xe I3 (stat fr3) st3 go) fun r s4 ⟨u,hr,h4⟩=>?_)
  subst hr
  refine Wl hp (aO h4 fun _ s5 ⟨x,H5,I5,r5,y5,st5,fr5⟩=>?_)
  have I5':=I5.pinned (stat fr5) (T.obj _ _ st5)
  refine Wl hp (aO (hg _ s5 σ3 H5 x u _ I5' r5 (step x H5 y5)) fun _ s6 ⟨σ6,H6,I6,q6⟩=>?_)
  refine Wl hp (aO (hb _ s6 σ6 H6 _ I6 q6) fun f s7 q7=>?_)
  have again:∀ {σ7:St}{H7:Hp},Inv X (a3G++oQ fp s5.heap) σ7 H7 s7->N σ7 H7->∃ m,m<n/\∃ i σ' H',Inv X a3G σ' H' s7/\tn i s7.heap/\(∀ b∈fp,H' b=none)/\W i m σ' H':=fun {σ7 H7} I7 n7=>by
   obtain ⟨m',hm,w7⟩:=hN σ7 H7 n7
   refine ⟨m',hm,i+1,σ7,H7,I7.unpinned,T.keep _ _ _ st5 fun b hb o e=>(I7.pin (b,o) (U4 _ (U4 _ (qV hb e)))).1,fun b hb=>?_,w7⟩
   obtain ⟨o,e,d⟩:=T.obj _ _ st5 b hb
   exact (I7.pin (b,o) (U4 _ (U4 _ (qV hb e)))).2.1
  cases f with
  | next=>obtain ⟨σ7,H7,I7,n7⟩:=q7;exact again I7 n7
  | cont=>obtain ⟨σ7,H7,I7,n7⟩:=q7;exact again I7 n7
  | brk=>obtain ⟨σ7,H7,I7,q7⟩:=q7;exact ⟨σ7,H7,I7.unpinned,q7⟩
  | ret v=>obtain ⟨x7,σ7,H7,I7,r7,q7⟩:=q7;exact ⟨x7,σ7,H7,I7.unpinned,r7,q7⟩
end
end L2
namespace L2
open PySem PySem.Spec PyProof.Rows
noncomputable abbrev R2:=V->V->Hp->VK->Prop
noncomputable def OpR (X:Cx)(f:Value->Value->a2D Value)(r:R2):Prop:=
 ∀ (a3G:List (Addr×Obj))(s:Tv)(σ:St)(H:Hp)(x y:V)(v u:Value)(Q:VK),Inv X a3G σ H s->RelV x v->RelV y u->r x y H Q->
  TY (T7 X.prog X.w) X.A (f v u) (EP X a3G σ Q) X.xe s
noncomputable def uH (X:Cx)(f:Value->a2D Value)(r:V->Hp->VK->Prop):Prop:=
 ∀ (a3G:List (Addr×Obj))(s:Tv)(σ:St)(H:Hp)(x:V)(v:Value)(Q:VK),Inv X a3G σ H s->RelV x v->r x H Q->
  TY (T7 X.prog X.w) X.A (f v) (EP X a3G σ Q) X.xe s
noncomputable def CallR (X:Cx)(f:Value)(r:List V->Hp->VK->Prop):Prop:=
 ∀ (a3G:List (Addr×Obj))(s:Tv)(σ:St)(H:Hp)(xs:List V)(us:List Value)(Q:VK),Inv X a3G σ H s->Vals xs us->r xs H Q->
  TY (T7 X.prog X.w) X.A (call f us) (EP X a3G σ Q) X.xe s
noncomputable def GK (X:Cx)(r:V->Hp->(Bool->Hp->Prop)->Prop):Prop:=
 ∀ (a3G:List (Addr×Obj))(s:Tv)(σ:St)(H:Hp)(x:V)(v:Value)(Q:Bool->Hp->Prop),Inv X a3G σ H s->RelV x v->r x H Q->
  TY (T7 X.prog X.w) X.A (truthy v) (TP X a3G σ Q) X.xe s
noncomputable def oR (r:R2)(ta tb:TE):TE:=fun σ H Q=>ta σ H fun x H1=>tb σ H1 fun y H2=>r x y H2 Q
noncomputable def GL (r:V->Hp->VK->Prop)(ta:TE):TE:=fun σ H Q=>ta σ H fun x H1=>r x H1 Q
noncomputable def rI (C:Int->Int->Prop)(g:Int->Int->V):R2:=fun x y H Q=>∃ i j,x=.int i/\y=.int j/\C i j/\Q (g i j) H
noncomputable def fF (g:Int->Int->V):R2:=fun x y H Q=>∃ i j,x=.int i/\y=.int j/\Q (g i j) H
noncomputable def rU (g:Int->V):V->Hp->VK->Prop:=fun x H Q=>∃ i,x=.int i/\Q (g i) H
section
variable {X:Cx}{a b c:TJ}{ta tb tc:TE}{pos:Vk}
theorem uI (ha:PE X a ta)(hb:PE X b tb){a3G:List (Addr×Obj)}{s:Tv}{σ:St}{H:Hp}{R:V->V->Hp->Prop}(I:Inv X a3G σ H s)
  (h:ta σ H fun x H1=>tb σ H1 fun y H2=>R x y H2){Q:Value->Tv->Prop}{f:Value->Value->a2D Value}
  (hf:∀ v u s2 x y H2,Inv X a3G σ H2 s2->RelV x v->RelV y u->R x y H2->TY (T7 X.prog X.w) X.A (f v u) Q X.xe s2) :
  TY (T7 X.prog X.w) X.A (eval a X.env) (fun v s₁=>TY (T7 X.prog X.w) X.A (eval b X.env) (fun u s₂=>TY (T7 X.prog X.w) X.A (f v u) Q X.xe s₂) X.xe s₁) X.xe s:=by
 refine aO (ha a3G s σ H _ I h) fun v s1 ⟨x,H1,I1,r1,q1⟩=>?_
 refine aO (hb a3G s1 σ H1 _ I1 q1) fun u s2 ⟨y,H2,I2,r2,q2⟩=>?_
 exact hf v u s2 x y H2 I2 r1 r2 q2
theorem GN {op:a0o}{r:R2}(ho:OpR X (Wm op) r)(ha:PE X a ta)(hb:PE X b tb):PE X (.BinOp a op b pos) (oR r ta tb):=by
 intro a3G s σ H Q I h
 exact wpAny_BinOp (uI ha hb I h fun v u s2 x y H2 I2 rx ry q=>ho a3G s2 σ H2 x y v u Q I2 rx ry q)
theorem GO {op:UnaryOp}{r:V->Hp->VK->Prop}(ho:uH X (unaryOp op) r)(ha:PE X a ta):PE X (.UnaryOp op a pos) (GL r ta):=by
 intro a3G s σ H Q I h
 exact UnaryOp_ (aO (ha a3G s σ H _ I h) fun v s1 ⟨x,H1,I1,r1,q1⟩=>ho a3G s1 σ H1 x v Q I1 r1 q1)
theorem qW {f:Value->Value->a2D Value}{C:Int->Int->Prop}{g:Int->Int->Int}
  (rule:∀ (i j:Int)(t u:a2C)(s:Tv)(Q:Value->Tv->Prop)(E:Value->Tv->Prop),C i j->Q (.int (g i j) s.toks) { s with toks:=s.toks+1 }->TY (T7 X.prog X.w) X.A (f (.int i t) (.int j u)) Q E s) :
  OpR X f (rI C fun i j=>.int (g i j)):=by
 intro a3G s σ H x y v u Q I rx ry h
 obtain ⟨i,j,rfl,rfl,hc,q⟩:=h
 obtain ⟨t,rfl⟩:=rx
 obtain ⟨t',rfl⟩:=ry
 exact rule i j t t' s _ _ hc ⟨.int (g i j),H,I.tok _,⟨_,rfl⟩,q⟩
theorem Ai {f:Value->Value->a2D Value}{g:Int->Int->Int}
  (rule:∀ (i j:Int)(t u:a2C)(s:Tv)(Q:Value->Tv->Prop)(E:Value->Tv->Prop),Q (.int (g i j) s.toks) { s with toks:=s.toks+1 }->TY (T7 X.prog X.w) X.A (f (.int i t) (.int j u)) Q E s) :
  OpR X f (fF fun i j=>.int (g i j)):=by
 intro a3G s σ H x y v u Q I rx ry h
 obtain ⟨i,j,rfl,rfl,q⟩:=h
 obtain ⟨t,rfl⟩:=rx
 obtain ⟨t',rfl⟩:=ry
 exact rule i j t t' s _ _ ⟨.int (g i j),H,I.tok _,⟨_,rfl⟩,q⟩
theorem qX {f:Value->Value->a2D Value}{g:Int->Int->Bool}
  (rule:∀ (i j:Int)(t u:a2C)(s:Tv)(Q:Value->Tv->Prop)(E:Value->Tv->Prop),Q (.bool (g i j)) s->TY (T7 X.prog X.w) X.A (f (.int i t) (.int j u)) Q E s) :
  OpR X f (fF fun i j=>.bl (g i j)):=by
 intro a3G s σ H x y v u Q I rx ry h
 obtain ⟨i,j,rfl,rfl,q⟩:=h
 obtain ⟨t,rfl⟩:=rx
 obtain ⟨t',rfl⟩:=ry
 exact rule i j t t' s _ _ ⟨.bl (g i j),H,I,rfl,q⟩
noncomputable def GP (i j:Int):Prop:=0<=j/\j<=1000000/\i.natAbs<2 ^ 64
noncomputable def CMul (i j:Int):Prop:=(-(2 ^ 64)<i/\i<2 ^ 64)\/(-(2 ^ 64)<j/\j<2 ^ 64)
theorem CMul.ok {i j:Int}(h:CMul i j):a1P i j:=by
 rcases h with ⟨h1,h2⟩|⟨h1,h2⟩
 ·exact .of_left (intBits_le_64 h1 h2)
 ·exact .of_right (intBits_le_64 h1 h2)
theorem op_add:OpR X (Wm .Add) (fF fun i j=>.int (i+j)):=Ai fun _ _ _ _ _ _ _ q=>add_int q
theorem GQ:OpR X (Wm .Sub) (fF fun i j=>.int (i - j)):=Ai fun _ _ _ _ _ _ _ q=>sub_int q
theorem GR:OpR X (Wm .Mod) (rI (fun _ j=>0<j) fun i j=>.int (i % j)):=qW fun i j _ _ _ _ _ hc q=>by
 have h1:(0:Int)<j:=hc
 exact mod_int' (by omega) (by rw [Int.fmod_eq_emod_of_nonneg i (by omega)];exact q)
theorem jK {f:Value->a2D Value}{g:Int->Int}
  (rule:∀ (i:Int)(t:a2C)(s:Tv)(Q:Value->Tv->Prop)(E:Value->Tv->Prop),Q (.int (g i) s.toks) { s with toks:=s.toks+1 }->TY (T7 X.prog X.w) X.A (f (.int i t)) Q E s) :
  uH X f (rU fun i=>.int (g i)):=by
 intro a3G s σ H x v Q I rx h
 obtain ⟨i,rfl,q⟩:=h
 obtain ⟨t,rfl⟩:=rx
 exact rule i t s _ _ ⟨.int (g i),H,I.tok _,⟨_,rfl⟩,q⟩
theorem GS:uH X (unaryOp .USub) (rU fun i=>.int (-i)):=jK fun _ _ _ _ _ q=>neg_int q
end
section
variable {X:Cx}{a b c:TJ}{ta tb tc:TE}{pos:Vk}
theorem kU {a3G:List (Addr×Obj)}{σ:St}{H:Hp}{s:Tv}{Q:VK}{k k':Bool}(I:Inv X a3G σ H s)(q:Q (.bl k) H)(e:k=k'):EP X a3G σ Q (.bool k') s:=by
 subst e
 exact ⟨.bl k,H,I,rfl,q⟩
theorem uJ:OpR X (UX .Lt) (fF fun i j=>.bl (decide (i<j))):=qX fun _ _ _ _ _ _ _ q=>lt_int q
theorem uK:OpR X (UX .LtE) (fF fun i j=>.bl (decide (i<=j))):=qX fun _ _ _ _ _ _ _ q=>le_int q
theorem uL:OpR X (UX .Gt) (fF fun i j=>.bl (decide (j<i))):=qX fun _ _ _ _ _ _ _ q=>gt_int q
theorem uM:OpR X (UX .GtE) (fF fun i j=>.bl (decide (j<=i))):=qX fun _ _ _ _ _ _ _ q=>ge_int q
theorem Aj:OpR X (UX .In) (fun x y H Q=>∃ i j,x=.str i/\y=.str j/\Q (.bl (!(Vd j i 0 j.length 1).isEmpty)) H):=by
 intro a3G s σ H x y v u Q I rx ry h
 obtain ⟨i,j,rfl,rfl,q⟩:=h
 obtain ⟨t,rfl⟩:=rx
 obtain ⟨t',rfl⟩:=ry
 exact in_str (kU I q rfl)
theorem Ak:OpR X (UX .Is) (fun x y H Q=>y=.non/\Q (.bl (decide (x=.non))) H):=by
 intro a3G s σ H x y v u Q I rx ry h
 obtain ⟨rfl,q⟩:=h
 cases ry
 refine is_none_gen (kU I q ?_)
 cases x<;>first
  | (cases rx;rfl)
  | (obtain ⟨t,rfl⟩:=rx;rfl)
theorem Al:OpR X (UX .IsNot) (fun x y H Q=>y=.non/\Q (.bl (!decide (x=.non))) H):=by
 intro a3G s σ H x y v u Q I rx ry h
 obtain ⟨rfl,q⟩:=h
 cases ry
 refine isnot_none_gen (kU I q ?_)
 cases x<;>first
  | (cases rx;rfl)
  | (obtain ⟨t,rfl⟩:=rx;rfl)
theorem OpR.or {f:Value->Value->a2D Value}{r r':R2}(h:OpR X f r)(h':OpR X f r'):OpR X f (fun x y H Q=>r x y H Q\/r' x y H Q):=by
 intro a3G s σ H x y v u Q I rx ry q
 rcases q with q|q
 ·exact h a3G s σ H x y v u Q I rx ry q
 ·exact h' a3G s σ H x y v u Q I rx ry q
theorem dG (b:TJ){op:Xm}(h:op≠.In:=by decide)(h2:op≠.NotIn:=by decide):Wo op b=false:=by
 have e1:(op == CmpOp.In)=false:=by cases op<;>first|rfl|exact absurd rfl h
 have e2:(op == CmpOp.NotIn)=false:=by cases op<;>first|rfl|exact absurd rfl h2
 cases b<;>simp [Wo,e1,e2]
theorem GU {op:Xm}{r:R2}(ho:OpR X (UX op) r)(ha:PE X a ta)(hb:PE X b tb)(hm:Wo op b=false):PE X (.Compare a [op] [b] pos) (oR r ta tb):=by
 intro a3G s σ H Q I h
 exact wpAny_Compare1 (uI ha hb I h fun v u s2 x y H2 I2 rx ry q=>ho a3G s2 σ H2 x y v u Q I2 rx ry q) hm
noncomputable def Am (t:TE):TT:=fun σ H Q=>t σ H fun x H'=>∃ k,x=.bl k/\Q k H'
theorem GV {op:Xm}{r:R2}(ho:OpR X (UX op) r)(ha:PE X a ta)(hb:PE X b tb)(hm:Wo op b=false):PT X (.Compare a [op] [b] pos) (Am (oR r ta tb)):=by
 intro a3G s σ H Q I h
 refine wpAny_isTrue_Compare1 (aO (ha a3G s σ H _ I h) fun v s1 ⟨x,H1,I1,r1,q1⟩=>aO (hb a3G s1 σ H1 _ I1 q1) fun u s2 ⟨y,H2,I2,r2,q2⟩=>
  aO (ho a3G s2 σ H2 x y v u _ I2 r1 r2 q2) fun c s3 ⟨z,H3,I3,r3,k,e,q3⟩=>?_) hm
 subst e
 cases r3
 exact VC ⟨H3,I3,q3⟩
noncomputable def uN (r r':R2)(ta tb tc:TE):TE:=fun σ H Q=>ta σ H fun x H1=>tb σ H1 fun y H2=>r x y H2 fun z H3=>∃ k,z=.bl k /\
 (if k=true then tc σ H3 fun w' H4=>r' y w' H4 Q else Q (.bl false) H3)
theorem GW {op op':Xm}{r r':R2}(ho:OpR X (UX op) r)(ho':OpR X (UX op') r')(ha:PE X a ta)(hb:PE X b tb)(hc:PE X c tc)
  (hm:a2x [op,op'] [b,c]=false:=by with_unfolding_all rfl):PE X (.Compare a [op,op'] [b,c] pos) (uN r r' ta tb tc):=by
 intro a3G s σ H Q I h
 refine Compare_chain (aO (ha a3G s σ H _ I h) fun v s1 ⟨x,H1,I1,r1,q1⟩=>chain_link (aO (hb a3G s1 σ H1 _ I1 q1) fun u s2 ⟨y,H2,I2,r2,q2⟩=>
  aO (ho a3G s2 σ H2 x y v u _ I2 r1 r2 q2) fun d s3 ⟨z,H3,I3,r3,k,e,q3⟩=>?_)) hm
 subst e
 cases r3
 refine VC ?_
 cases k with
 | false=>exact ite_ff ⟨.bl false,H3,I3,rfl,q3⟩
 | true=>exact ite_tt (chain_last (aO (hc a3G s3 σ H3 _ I3 q3) fun w' s4 ⟨z',H4,I4,r4,q4⟩=>ho' a3G s4 σ H4 y z' u w' Q I4 r2 r4 q4))
theorem GX {op op':Xm}{r r':R2}(ho:OpR X (UX op) r)(ho':OpR X (UX op') r')(ha:PE X a ta)(hb:PE X b tb)(hc:PE X c tc)
  (hm:a2x [op,op'] [b,c]=false:=by with_unfolding_all rfl):PT X (.Compare a [op,op'] [b,c] pos) (Am (uN r r' ta tb tc)):=by
 intro a3G s σ H Q I h
 refine isTrue_chain (aO (ha a3G s σ H _ I h) fun v s1 ⟨x,H1,I1,r1,q1⟩=>test_link (aO (hb a3G s1 σ H1 _ I1 q1) fun u s2 ⟨y,H2,I2,r2,q2⟩=>
  aO (ho a3G s2 σ H2 x y v u _ I2 r1 r2 q2) fun d s3 ⟨z,H3,I3,r3,k,e,q3⟩=>?_)) hm
 subst e
 cases r3
 refine VC ?_
 cases k with
 | false=>
  obtain ⟨k',e',q'⟩:=q3
  cases e'
  exact ite_ff ⟨H3,I3,q'⟩
 | true=>
  refine ite_tt (test_last (aO (hc a3G s3 σ H3 _ I3 q3) fun w' s4 ⟨z',H4,I4,r4,q4⟩=>aO (ho' a3G s4 σ H4 y z' u w' _ I4 r2 r4 q4) fun d' s5 ⟨z2,H5,I5,r5,k2,e2,q5⟩=>?_))
  subst e2
  cases r5
  exact VC ⟨H5,I5,q5⟩
noncomputable def uO (K:To)(x:V)(H:Hp)(k:Bool):Prop:=
 match x with
 | .non=>k=false
 | .bl b=>k=b
 | .int i=>k=(i != 0)
 | .str y=>y.length<=TL/\k=((y.length:Int) != 0)
 | .byt y=>y.size<=TL/\k=((y.size:Int) != 0)
 | .ref p=>(∃ xs,SqL K H p xs/\k = !xs.isEmpty)\/(∃ xs,SqT K H p xs/\k = !xs.isEmpty)\/∃ kvs,H p=some (.dK kvs)/\k = !kvs.isEmpty
 | _=>False
theorem GY {κ:Type}{kvs:List (κ×V)}{vs:List (κ×Value)}(r:KV kvs vs):(!vs.isEmpty) = !kvs.isEmpty:=by
 cases r<;>rfl
theorem An {xs:List V}{its:List Value}(r:Vals xs its):(!its.toArray.isEmpty) = !xs.isEmpty:=by
 cases r<;>simp
theorem jL:(TL:Nat)<2 ^ 63:=by rw [Ud];decide
theorem GZ:GK X (fun x H Q=>∃ k,uO X.K x H k/\Q k H):=by
 intro a3G s σ H x v Q I rx h
 obtain ⟨k,e,q⟩:=h
 have hl:=jL
 have hs:TL=16777216:=Ud
 cases x with
 | non=>
  cases rx
  have e':k=false:=e
  subst e'
  exact truthy_none ⟨H,I,q⟩
 | bl b=>
  cases rx
  have e':k=b:=e
  subst e'
  exact VC ⟨H,I,q⟩
 | int i=>
  obtain ⟨t,rfl⟩:=rx
  have e':k=(i != 0):=e
  subst e'
  exact PySem.P.truthy_int ⟨H,I,q⟩
 | str y=>
  obtain ⟨t,rfl⟩:=rx
  obtain ⟨hy,e'⟩:y.length<=TL/\k=((y.length:Int) != 0):=e
  subst e'
  exact PySem.P.truthy_str (by omega) ⟨H,I.tok _,q⟩
 | byt y=>
  obtain ⟨t,rfl⟩:=rx
  obtain ⟨hy,e'⟩:y.size<=TL/\k=((y.size:Int) != 0):=e
  subst e'
  exact PySem.W.truthy_bytes (by omega) ⟨H,I.tok _,q⟩
 | ref p=>
  cases rx
  have e':(∃ xs,SqL X.K H p xs/\k = !xs.isEmpty)\/(∃ xs,SqT X.K H p xs/\k = !xs.isEmpty)\/∃ kvs,H p=some (.dK kvs)/\k = !kvs.isEmpty:=e
  rcases e' with ⟨xs,hx,e'⟩|⟨xs,hx,e'⟩|⟨kvs,hx,e'⟩
  ·subst e'
   obtain ⟨its,r,pl,hz⟩:=I.list hx
   have hlen:=r.length
   exact wpAny_truthy_list pl.isList (by simp only [TU];omega) ⟨H,I.tok _,by rw [An r];exact q⟩
  ·subst e'
   obtain ⟨its,r,pl,hz⟩:=I.tuple hx
   have hlen:=r.length
   exact truthy_tuple pl (by simp only [TU];omega) ⟨H,I.tok _,by rw [An r];exact q⟩
  ·subst e'
   obtain ⟨hz,hS,vs,r,m⟩:kvs.length<=TL/\(p == VL)=false/\∃ vs,KV kvs vs/\s.heap.DictOf (kT X.prog X.w) p vs:=I.hok p _ hx
   have hlen:kvs.length=vs.length:=ZD r
   exact wpAny_truthy_dict hS m (by omega) ⟨H,I.tok _,by rw [GY r];exact q⟩
 | _=>exact (show False from e).elim
theorem G0 (ha:PE X a ta)(he:∀ whole,a1h a X.env whole=(do let v <- whole;standAt a.pos;holding [v] (truthy v))) :
  PT X a (fun σ H Q=>ta σ H fun x H'=>∃ k,uO X.K x H' k/\Q k H'):=by
 intro a3G s σ H Q I h
 exact isTrue_plain (aO (ha a3G s σ H _ I h) fun v s1 ⟨x,H1,I1,r1,q1⟩=>GZ a3G s1 σ H1 x v Q I1 r1 q1) (he _)
theorem op_add_str:OpR X (Wm .Add) (fun x y H Q=>∃ i j,x=.str i/\y=.str j/\i.length+j.length<=TL/\Q (.str (i++j)) H):=by
 intro a3G s σ H x y v u Q I rx ry h
 obtain ⟨i,j,rfl,rfl,hz,q⟩:=h
 obtain ⟨t,rfl⟩:=rx
 obtain ⟨t',rfl⟩:=ry
 exact add_str (fun t' tk=>⟨.str (i++j),H,I.tok _,⟨_,rfl⟩,q⟩) hz
theorem eG {x:V}{us:List Value}(r:Vals [x] us):∃ u,us=[u]/\RelV x u:=by
 cases r with
 | cons r1 r2=>cases r2;exact ⟨_,rfl,r1⟩
theorem G1 {x y:V}{us:List Value}(r:Vals [x,y] us):∃ u w',us=[u,w']/\RelV x u/\RelV y w':=by
 cases r with
 | cons r1 r2=>
  cases r2 with
  | cons r3 r4=>cases r4;exact ⟨_,_,rfl,r1,r3⟩
theorem G6:CallR X (.type "int") (fun xs H Q=>(∃ i,xs=[.int i]/\Q (.int i) H)\/∃ k,xs=[.bl k]/\Q (.int (if k then 1 else 0)) H):=by
 intro a3G s σ H xs us Q I r h
 rcases h with ⟨i,rfl,q⟩|⟨k,rfl,q⟩
 ·obtain ⟨u,rfl,t,rfl⟩:=eG r
  exact call_int_int ⟨.int i,H,I,⟨_,rfl⟩,q⟩
 ·obtain ⟨u,rfl,r1⟩:=eG r
  cases r1
  exact call_int_bool ⟨.int (if k then 1 else 0),H,I.tok _,⟨_,rfl⟩,q⟩
end
end L2
namespace L2
open PySem PySem.Spec PyProof.Rows
structure ObjM (h:UE)(x dx C:Addr)(mA:Str->Option Value):Prop where
 obj:h.get? x=some (a0T C dx)
 ns:h.Ns1 dx mA
 ne:dx≠x
section
variable {prog:Ub}{w:Up}{A:Ue}{E:Value->Tv->Prop}{s:Tv}{K:To}{x dx C f:Addr}{mA:Str->Option Value}{name:Str}{v:Value}
end
theorem RelO.some_of {v:V}{o:Option Value}(r:RelO (some v) o):∃ u,o=some u/\RelV v u:=by
 cases o with
 | none=>exact (show False from r).elim
 | some u=>exact ⟨u,rfl,r⟩
theorem G7 {v:V}{u:Value}(r:RelV v u):PySem.W.handedIn u=true:=by
 cases v with
 | non=>cases (show u=Uw from r);rfl
 | bl b=>cases (show u=T5 b from r);rfl
 | int i=>obtain ⟨t,e⟩:=(show ∃ t,u=TX i t from r);cases e;rfl
 | str x=>obtain ⟨t,e⟩:=(show ∃ t,u=YV x t from r);cases e;rfl
 | byt b=>obtain ⟨t,e⟩:=(show ∃ t,u=a2r b t from r);cases e;rfl
 | flt b=>obtain ⟨t,e⟩:=(show ∃ t,u=a2q b t from r);cases e;rfl
 | ref a=>cases (show u=TM a from r);rfl
 | ty n=>cases (show u=Tn n from r);rfl
section
variable {P:Ub}{w:Up}{H H':Hp}{h h':UE}{a C dx:Addr}{fs fs':List (Str×V)}
end
structure Cls (K:To)(C:Addr):Prop where
 pg:a0F K C Str.empty=true
 hd:PySem.W.hasDictIn K C=true
 po:PySem.W.plainOver K C=true
 sa:U3 K (.ref C) "__setattr__" = some (some (.builtin "object.__setattr__"))
theorem Cls.get {K:To}{C:Addr}(c:Cls K C)(f:Str):a0F K C f=true:=c.pg
structure Con (K:To)(C:Addr)(f:Str)(v:V)(u:Value):Prop where
 at_:U3 K (.ref C) f=some (some u)
 rel:RelV v u
 get:XB K u "__get__" = some none
 cp:PySem.W.copiedNames.contains f=false
structure Meth (K:To)(C:Addr)(m:Str)(f:Addr):Prop where
 at_:U3 K (.ref C) m=some (some (.ref f))
 fn:a1K K (.ref f)=true
 kp:UO K (.ref f)=true
section
variable {X:Cx}{a3G:List (Addr×Obj)}{σ:St}{H:Hp}{s:Tv}{a C dx:Addr}{fs:List (Str×V)}{f:Str}{v:V}{A:Ue}{E:Value->Tv->Prop}
theorem G8 {prog:Ub}{w:Up}{env:X2}{e:TJ}{f:Str}{pos:Vk}{s:Tv}{Q:Value->Tv->Prop}(hb:WN e f env (eval e env)=eval e env)
  (h:TY (T7 prog w) A (eval e env) (fun o s₁=>TY (T7 prog w) A (getAttr o f true) Q E s₁) E s):TY (T7 prog w) A (eval (.Attribute e f pos) env) Q E s:=
 Attribute_any_ h (by rw [arm_eval_Attribute,hb])
end
section
variable {X:Cx}{o e value:TJ}{f:Str}{pos pos' tpos:Vk}{ta tv:TE}
end
section
variable {X:Cx}{a3G:List (Addr×Obj)}{σ:St}{H:Hp}{s:Tv}{A:Ue}{E:Value->Tv->Prop}{Q:Value->Tv->Prop}{c:Value}{b:Bool}
inductive TyOf (K:To)(H:Hp):V->Value->Prop where
 | non:TyOf K H .non (.type "NoneType")
 | bl (x:Bool):TyOf K H (.bl x) (.type "bool")
 | int (i:Int):TyOf K H (.int i) (.type "int")
 | str (x:Str):TyOf K H (.str x) (.type "str")
 | flt (x:UInt64):TyOf K H (.flt x) (.type "float")
 | lst {a:Addr}{xs:List V}(e:H a=some (.lst xs)):TyOf K H (.ref a) (.type "list")
 | frz {a:Addr}{o:Obj}{xs:List V}(e:H a=some (.frz o (.lst xs))):TyOf K H (.ref a) (.type "list")
 | tup {a:Addr}{xs:List V}(e:H a=some (.tup xs)):TyOf K H (.ref a) (.type "tuple")
 | dK {a:Addr}{kvs:List (aX×V)}(e:H a=some (.dK kvs)):TyOf K H (.ref a) (.type "dict")
 | dT {a:Addr}{kvs:List (List aX×V)}(e:H a=some (.dT kvs)):TyOf K H (.ref a) (.type "dict")
 | ins {a C dx:Addr}{fs:List (Str×V)}(e:H a=some (.ins C dx fs))(cl:Cls K C)(ha:U3 K (.ref C) "__class__" = some (some (.builtin "object.__class__")))
   (hn:XB K (.builtin "object.__class__") "__get__" = some (some (.builtin "getset_descriptor.__get__"))) (htk:a0S K (.builtin "object.__class__")=some true)
   (hm:a1y K C (.type "object")=some true):TyOf K H (.ref a) (.ref C)
end
end L2
namespace L2
open PySem PySem.Spec PyProof.Rows
structure Room (k:Nat)(A:Ue):Prop where
 hd:A.handled=none
 dp:A.depth+3 * k+5<a3w
 un:A.units+16 * k+200<Vm
theorem Room.deeper {k:Nat}{A:Ue}(r:Room (k+1) A)(env:X2):Room k (A.deeper env):=
 ⟨r.hd,by have:=r.dp;show A.depth+1+3 * k+5<_;omega,by have:=r.un;show A.units+3+16 * k+200<_;omega⟩
theorem G9 {A:Ue}{C:Addr}{us:List Value}{kw:List (Str×Value)}:(A.under (.builtin "type.__call__" ⟨.ref C::us,kw⟩)).depth=A.depth+1:=by
 first|rfl|simp [ZX,Code.weight,Code.isCreation,Code.isGuard,Code.isCaller,a2L,Z8,guardIds]
theorem Ha {A:Ue}{C:Addr}{us:List Value}{kw:List (Str×Value)}:(A.under (.builtin "type.__call__" ⟨.ref C::us,kw⟩)).units=A.units+1:=by
 first|rfl|simp [ZX,Code.cUnits,a2L,Z8]
theorem Room.make {k:Nat}{A:Ue}(r:Room (k+1) A)(C:Addr)(us:List Value)(kw:List (Str×Value)):Room k (A.under (.builtin "type.__call__" ⟨.ref C::us,kw⟩)):=
 ⟨r.hd,by have:=r.dp;rw [G9];omega,by have:=r.un;rw [Ha];omega⟩
theorem Room.depth {k:Nat}{A:Ue}(r:Room k A):A.depth<a3w:=by have:=r.dp;omega
theorem Room.units {k:Nat}{A:Ue}(r:Room k A):A.units+64<Vm:=by have:=r.un;omega
noncomputable def Ao:TA:=fun _ H Q=>Q [] H
noncomputable def Hb (ta:TE)(tr:TA):TA:=fun σ H Q=>ta σ H fun x H1=>tr σ H1 fun xs H2=>Q (x::xs) H2
section
variable {X:Cx}{e:TJ}{es:List TJ}{te:TE}{t:TA}{pos:Vk}
theorem Ap:PA X [] Ao:=fun _ _ _ _ H Q I h=>YL ⟨[],H,I,.nil,h⟩
theorem uP (ha:PE X e te)(hr:PA X es t)(hs:Ul (e::es) X.env=(false,eval e X.env)::Ul es X.env:=by rfl):PA X (e::es) (Hb te t):=by
 intro pos a3G s σ H Q I h
 rw [hs]
 show TY _ _ (spliced ((false,eval e X.env)::VX pos (Ul es X.env))) _ _ s
 refine YE (aO (ha a3G s σ H _ I h) fun u s1 ⟨x,H1,I1,r1,q1⟩=>?_)
 exact aO (hr pos a3G s1 σ H1 _ I1 q1) fun us s2 ⟨xs,H2,I2,r2,q2⟩=>⟨x::xs,H2,I2,.cons r1 r2,q2⟩
noncomputable def Hc (t:TA):TE:=fun σ H Q=>t σ H fun xs H1=>xs.length<=TL/\∀ p,H1 p=none->Q (.ref p) (aH H1 p (.tup xs))
noncomputable def Hd (t:TA):TE:=fun σ H Q=>t σ H fun xs H1=>xs.length<=TL/\∀ p,H1 p=none->Q (.ref p) (aH H1 p (.lst xs))
theorem He {x1} (h:PA X es t):PE X (.Tuple es x1 pos) (Hc t):=by
 intro a3G s σ H Q I hq
 refine wpAny_Tuple_spliced (aO (h pos a3G s σ H _ I hq) fun us s1 ⟨xs,H1,I1,r,z,q⟩=>⟨by rw [<- r.length];exact z,?_⟩)
 have hf:H1 s1.heap.objs.size=none:=I1.hok.fresh (TK _)
 refine ⟨.ref s1.heap.objs.size,aH H1 s1.heap.objs.size (.tup xs),I1.laid (t':=s1.toks) (fun b u e=>Tu _ e) (TK _) ?_,rfl,q _ hf⟩
 exact ⟨z,us,r,⟨_,TZ _ rfl,rfl,_,rfl,rfl⟩⟩
theorem Hf (h:PA X es t):PE X (.List es pos) (Hd t):=by
 intro a3G s σ H Q I hq
 refine wpAny_List_spliced (aO (h pos a3G s σ H _ I hq) fun us s1 ⟨xs,H1,I1,r,z,q⟩=>⟨by rw [<- r.length];exact z,?_⟩)
 have hf:H1 s1.heap.objs.size=none:=I1.hok.fresh (TK _)
 refine ⟨.ref s1.heap.objs.size,aH H1 s1.heap.objs.size (.lst xs),I1.laid (t':=s1.toks) (fun b u e=>Tu _ e) (TK _) ?_,rfl,q _ hf⟩
 exact ⟨z,us,0,r,TZ _ rfl⟩
end
noncomputable abbrev Sp:=List V->Hp->VK->XK->Prop
noncomputable abbrev fG:=List X2->Hp->Tv->XK->Value->Tv->Prop
structure Env0 (P:Ub)(w:Up)(K:To)(mg:Str->Option Value)(base:UE)(A:Ue)(outer:List X2)(s:Tv)(H:Hp):Prop where
 frames:A.frames=some outer
 mod:Mod K mg base
 bs:∀ b o,base.get? b=some o->s.heap.get? b=some o/\H b=none
 bsz:base.objs.size<=s.heap.objs.size
 funs:s.heap.FunFrames base outer
 frf:∀ b∈cY outer,H b=none
 hok:HOk P w H s.heap
 bare:X9 s.gens
noncomputable def CE (outer:List X2)(P:Ub)(w:Up)(H:Hp)(s:Tv)(Q:VK)(u:Value)(s':Tv):Prop:=
 ∃ v H',s'.os=s.os/\X9 s'.gens/\Un (cY outer) [] H H' s.heap s'.heap/\HOk P w H' s'.heap/\RelV v u/\Q v H'
noncomputable def CR (CX:fG)(outer:List X2)(P:Ub)(w:Up)(H:Hp)(s:Tv)(Q:VK)(E:XK)(r:a0l)(s':Tv):Prop:=
 match r with
 | .ok (.ret u)=>CE outer P w H s Q u s'
 | .ok _=>False
 | .error e=>CX outer H s E e s'
structure FnOk (P:Ub)(w:Up)(K:To)(mg:Str->Option Value)(base:UE)(CX:fG)(k:Nat)(f:Addr)(fd:Vt)(ps:List Str)(sp:Sp):Prop where
 len:∀ vs H Q E,sp vs H Q E->vs.length=ps.length
 run:∀ (A:Ue)(outer:List X2)(s:Tv)(H:Hp)(args:Args)(us:List Value)(vs:List V)(Q:VK)(E:XK),Room k A->Env0 P w K mg base A outer s H->Zz s fd args (ps.zip us)->Vals vs us->sp vs H Q E->
  XQ (T7 P w) A (.call (.ref f) args) (CR CX outer P w H s Q E) s
theorem Env0.make {P:Ub}{w:Up}{K:To}{mg:Str->Option Value}{base:UE}{A:Ue}{outer:List X2}{s:Tv}{H:Hp}(e:Env0 P w K mg base A outer s H)(C:Addr)(us:List Value)(kw:List (Str×Value)) :
  Env0 P w K mg base (A.under (.builtin "type.__call__" ⟨.ref C::us,kw⟩)) outer s H:=⟨by first|exact e.frames|(simpa [ZX,Code.envs,Z8,pushEnvs] using e.frames),e.mod,e.bs,e.bsz,e.funs,e.frf,e.hok,e.bare⟩
section
variable {X:Cx}{a3G:List (Addr×Obj)}{σ:St}{H:Hp}{s s':Tv}
theorem Inv.env0 (I:Inv X a3G σ H s):Env0 X.prog X.w X.K X.mg X.base X.A X.stack s H:=
 ⟨I.ok.frames,I.ok.mod,I.bs,UU I.ok.bsz I.sz,I.stack,I.stkFree,I.hok,I.bare⟩
theorem Inv.after {Q:VK}{u:Value}(I:Inv X a3G σ H s)(h:CE X.stack X.prog X.w H s Q u s'):EP X a3G σ Q u s':=by
 obtain ⟨v,H',os,bare,un,hok,r,q⟩:=h
 obtain ⟨hh,g,d,t,os'⟩:=s'
 obtain rfl:os'=s.os:=os
 exact ⟨v,H',I.call (h':=hh) (g':=g) (d':=d) (t':=t) (ch:=[]) un hok bare (fun b z=>absurd z (by simp)),r,q⟩
end
noncomputable def uQ (sp:Sp)(dvs:List V)(E:XK)(t:TA):TE:=fun σ H Q=>t σ H fun vs H1=>sp (vs++dvs) H1 Q E
noncomputable def Binds (K:To)(fd:Vt)(ps:List Str)(ds:List Value):Prop:=
 ∀ (s:Tv)(us:List Value),K.In s.heap->(us++ds).length=ps.length->Zz s fd ⟨us,[]⟩ (ps.zip (us++ds))
theorem Binds.all {K:To}{fd:Vt}{ps:List Str}(h:∀ us:List Value,us.length=ps.length->Zr fd ⟨us,[]⟩=pure (ps.zip us)):Binds K fd ps []:=fun s us _ hl=>by
 rw [Xl] at hl ⊢
 exact .of_eq (h us hl)
noncomputable def qY (CX:fG)(X:Cx)(E:XK):Prop:=∀ (a3G:List (Addr×Obj))(σ:St)(H:Hp)(s:Tv)(e:Value)(s':Tv),Inv X a3G σ H s->CX X.stack H s E e s'->X.xe e s'
section
variable {X:Cx}{CX:fG}{k:Nat}{f C:Addr}{fd:Vt}{ps:List Str}{sp:Sp}{dvs:List V}{ds:List Value}{E:XK}{x m:Str}{p pos apos:Vk}{e o:TJ}{es:List TJ}{ta:TE}{t:TA}
theorem Aq {a3G:List (Addr×Obj)}{σ:St}{H:Hp}{s:Tv}{Q:VK}{us:List Value}{vs:List V}(F:FnOk X.prog X.w X.K X.mg X.base CX k f fd ps sp)(hr:Room k X.A)(hb:Binds X.K fd ps ds)(hd:Vals dvs ds)(hx:qY CX X E)
  (I:Inv X a3G σ H s)(r:Vals vs us)(h:sp (vs++dvs) H Q E):TY (T7 X.prog X.w) X.A (call (.ref f) us) (EP X a3G σ Q) X.xe s:=by
 have r2:Vals (vs++dvs) (us++ds):=r.append hd
 have hl:(us++ds).length=ps.length:=by rw [<- r2.length];exact F.len _ _ _ _ h
 refine Yv (XN (F.run X.A X.stack s H ⟨us,[]⟩ (us++ds) (vs++dvs) Q E hr I.env0 (hb s us I.kIn hl) r2 h) fun r s' hq=>?_)
 cases r with
 | error e=>exact hx a3G σ H s e s' I hq
 | ok fl=>
  cases fl with
  | ret u=>exact I.after hq
  | next=>exact UC hq
  | brk=>exact UC hq
  | cont=>exact UC hq
theorem Hg (F:FnOk X.prog X.w X.K X.mg X.base CX k f fd ps sp)(hr:Room k X.A)(hg:Gl X x)(hm:X.mg x=some (.ref f))(hk:UO X.K (.ref f)=true)(hb:Binds X.K fd ps ds)(hd:Vals dvs ds)(hx:qY CX X E)
  (ha:PA X (e::es) t)(hdb:(x == ("__debug__":Str))=false:=by decide) (he:Ul (e::es) X.env=(false,eval e X.env)::Ul es X.env:=by rfl)(hpl:(VX pos (Ul es X.env)).any (·.1)=false:=by rfl) :
  PE X (.Call (.Name x p) (e::es) [] pos) (uQ sp dvs E t):=by
 intro a3G s σ H Q I h
 refine Vx (iQ I hg hm ?_ hdb)
 refine Yw (h₀:=X.base) I.ok.mod.kin hk (aO (ha pos a3G s σ H _ I h) fun us s1 ⟨vs,H1,I1,r,q⟩=>⟨I1.kIn,?_⟩) he hpl
 exact Aq F hr hb hd hx I1 r q
theorem Hh (F:FnOk X.prog X.w X.K X.mg X.base CX k f fd ps sp)(hr:Room k X.A)(hg:Gl X x)(hm:X.mg x=some (.ref f))(hk:UO X.K (.ref f)=true)(hb:Binds X.K fd ps ds)(hd:Vals dvs ds)(hx:qY CX X E)
  (hdb:(x == ("__debug__":Str))=false:=by decide):PE X (.Call (.Name x p) [] [] pos) (uQ sp dvs E Ao):=by
 intro a3G s σ H Q I h
 refine Vx (iQ I hg hm ?_ hdb)
 exact PySem.W.callWith_K0 I.kIn hk (Aq (us:=[]) F hr hb hd hx I .nil h)
structure Mk (K:To)(C f:Addr):Prop where
 makes:PySem.W.makesIn K C=true
 init:U3 K (.ref C) "__init__" = some (some (.ref f))
 fn:a1K K (.ref f)=true
 kp:UO K (.ref C)=true
end
section
variable {X:Cx}{CX:fG}{k:Nat}{f C:Addr}{fd:Vt}{ps ks:List Str}{sp:Sp}{E:XK}{x m:Str}{p pos apos kpos:Vk}{e o:TJ}{es:List TJ}{kws:List WG}{te ta:TE}{t tk:TA}{nm:Option Str}
structure KBinds (K:To)(fd:Vt)(ps ks:List Str)(g:List Value->List Value->List Value)(gV:List V->List V->List V):Prop where
 to:∀ (s:Tv)(us ws:List Value),K.In s.heap->(g us ws).length=ps.length->Zz s fd ⟨us,ks.zip ws⟩ (ps.zip (g us ws))
 rel:∀ {vs:List V}{us:List Value}{zs:List V}{ws:List Value},Vals vs us->Vals zs ws->Vals (gV vs zs) (g us ws)
variable {g:List Value->List Value->List Value}{gV:List V->List V->List V}
end
structure FnScope (N P:List Str)(sc:V5):Prop where
 kind:sc.kind=.function
 co:sc.isCoroutine=false
 gen:sc.isGenerator=false
 nd:N.Nodup
 pre:N.take P.length=P
 par:∀ x∈P,sc.names.lookup x=some .local\/sc.names.lookup x=some .cell
 nofree:∀ y∈sc.names,y.2≠.free
theorem Ar {kindOf:Str->Option V1}{x:Str}:∀ {binds:List (Str×Value)}{m:Str->Option Value},(∀ v,(x,v)∉binds)->a0Q kindOf binds m x=m x
 | [],_,_=>rfl
 | (n,v)::r,m,h=>by
  unfold a0Q
  rw [Ar fun w hw=>h w (Uo _ hw)]
  split
  ·have:x≠n:=by rintro rfl;exact h v Uy
   simp [this]
  ·rfl
theorem Au {kindOf:Str->Option V1}{x:Str}:∀ {binds:List (Str×Value)}{m:Str->Option Value},(∀ v,(x,v)∉binds)->a0R kindOf binds m x=m x
 | [],_,_=>rfl
 | (n,v)::r,m,h=>by
  unfold a0R
  rw [Au fun w hw=>h w (Uo _ hw)]
  split
  ·rfl
  ·have:x≠n:=by rintro rfl;exact h v Uy
   simp [this]
theorem Av {kindOf:Str->Option V1}{x:Str}{v:Value}:∀ {P:List Str}{vs:List Value}{i:Nat}{m:Str->Option Value},P.Nodup->P[i]? = some x->vs[i]? = some v->kindOf x=some .local->
  a0Q kindOf (P.zip vs) m x=some v
 | [],_,_,_,_,h,_,_=>by simp at h
 | _::_,[],_,_,_,_,h,_=>by simp at h
 | p::P,w::vs,0,m,nd,h1,h2,hk=>by
  simp at h1 h2;subst h1;subst h2
  show a0Q kindOf ((p,w)::P.zip vs) m p=_
  unfold a0Q
  rw [Ar fun v hv=>(Xj.mp nd).1 (Zk hv).1,if_pos hk]
  simp
 | p::P,w::vs,i+1,m,nd,h1,h2,hk=>by
  show a0Q kindOf ((p,w)::P.zip vs) m x=_
  unfold a0Q
  exact Av (i:=i) (Xj.mp nd).2 (by simpa using h1) (by simpa using h2) hk
theorem Aw {kindOf:Str->Option V1}{x:Str}{v:Value}:∀ {P:List Str}{vs:List Value}{i:Nat}{m:Str->Option Value},P.Nodup->P[i]? = some x->vs[i]? = some v->kindOf x≠some .local->
  a0R kindOf (P.zip vs) m x=some v
 | [],_,_,_,_,h,_,_=>by simp at h
 | _::_,[],_,_,_,_,h,_=>by simp at h
 | p::P,w::vs,0,m,nd,h1,h2,hk=>by
  simp at h1 h2;subst h1;subst h2
  show a0R kindOf ((p,w)::P.zip vs) m p=_
  unfold a0R
  rw [Au fun v hv=>(Xj.mp nd).1 (Zk hv).1,if_neg hk]
  simp
 | p::P,w::vs,i+1,m,nd,h1,h2,hk=>by
  show a0R kindOf ((p,w)::P.zip vs) m x=_
  unfold a0R
  exact Aw (i:=i) (Xj.mp nd).2 (by simpa using h1) (by simpa using h2) hk
noncomputable def start (N:List Str)(vs:List V):St:=vs.map some++Uh (N.length - vs.length) none
noncomputable def dH (CX:fG)(P:Ub)(w:Up)(K:To)(mg:Str->Option Value)(base:UE)(N:List Str)(qual:Str)(scope:V5)(f:Addr)(cd:Value)(A:Ue)(outer:List X2)(s:Tv)(H:Hp)(E:XK):Cx where
 prog:=P
 w:=w
 K:=K
 mg:=mg
 base:=base
 A:=A.deeper (envOfC qual scope s.heap.objs.size f cd)
 N:=N
 s₀:=s
 H₀:=H
 env:=envOfC qual scope s.heap.objs.size f cd
 outer:=outer
 stack:=envOfC qual scope s.heap.objs.size f cd::outer
 ex:=[]
 calm:=true
 fn:=fun _=>true
 pn:=[]
 xe:=fun e s'=>TY (T7 P w) (A.deeper (envOfC qual scope s.heap.objs.size f cd)) (a2n (envOfC qual scope s.heap.objs.size f cd) e) (fun _ s''=>CX outer H s E e s'') (fun e' s''=>CX outer H s E e' s'') s'
theorem Ax {sc:V5}{n:Nat}{x:Str}(h:sc.names.lookup x=some .cell):∃ c,(a2A n sc.names []).lookup x=some c:=by
 have q:=ZM sc.names n [] (.inl h)
 exact Uv.mp q
theorem Hi {CX:fG}{P:Ub}{w:Up}{K:To}{mg:Str->Option Value}{base:UE}{N ps:List Str}{qual:Str}{scope:V5}{f:Addr}{cd:Value}{A:Ue}{outer:List X2}{s s1:Tv}{H:Hp}{E:XK}{us:List Value}{vs:List V}
  (S:FnScope N ps scope)(hd:A.handled=none)(e0:Env0 P w K mg base A outer s H)(hl:vs.length=ps.length)(r:Vals vs us)
  (x:InCallC s s.heap.objs.size (a0Q (envOfC qual scope s.heap.objs.size f cd).kindOf (ps.zip us) fun _=>none) (a2A (s.heap.objs.size+1) scope.names []) (a0R (envOfC qual scope s.heap.objs.size f cd).kindOf (ps.zip us) fun _=>none) s1) :
  Inv (dH CX P w K mg base N qual scope f cd A outer s H E) [] (start N vs) H s1:=by
 have hpl:ps.length<=N.length:=by have:=congrArg Vu S.pre;rw [V2] at this;omega
 obtain ⟨h1,tk,rfl,hk⟩:=x.done
 have noA:∀ b:Addr,b∉(dH CX P w K mg base N qual scope f cd A outer s H E).ex:=fun b z=>absurd (show b∈([]:List Addr) from z) (by simp)
 refine ⟨⟨e0.mod,S.kind,rfl,rfl,TK _,fun y z c h1 h2=>?_,fun y hy=>?_,fun y c _ h=>?_,fun _=>hd,Around.frames_deeper e0.frames,.inr ⟨rfl,rfl⟩,fun b z=>absurd z (noA b),e0.bs,e0.bsz,fun b _ _=>noA b,fun b z=>absurd z (noA b),e0.funs,e0.frf⟩,
  rfl,e0.bare,Un.kept hk,⟨_,x.toInCall.ns,fun i y v h1 h2 h3=>?_⟩,fun y c h=>⟨_,x.cell y c h⟩,e0.hok.fresh (TK _),fun y c h=>?_,fun p hp=>absurd (show p∈([]:List (Addr×Obj)) from hp) (by simp),e0.hok.kept hk,?_⟩
 ·exact name_of_addr x.apart (U2 h1) (U2 h2)
 ·have hy:scope.names.lookup y=some .cell\/scope.names.lookup y=some .free:=hy
  rcases hy with hy|hy
  ·exact Ax hy
  ·exact absurd rfl (S.nofree _ (U2 hy))
 ·exact XA (x.above y c (U2 h))
 ·have hi:i<vs.length:=by
   unfold start at h2
   by_cases hi:i<vs.length
   ·exact hi
   ·rw [VB (by simpa using hi)] at h2
    rw [V3] at h2
    split at h2<;>cases h2
  have ha:vs[i]? = some v:=by
   unfold start at h2
   rw [Uz (by simpa using hi),Uu] at h2
   cases e:vs[i]? with
   | none=>rw [e] at h2;cases h2
   | some a=>rw [e] at h2;cases h2;rfl
  obtain ⟨u,hu,rv⟩:=r.get ha
  have hp:ps[i]? = some y:=by
   rw [<- S.pre,List.getElem?_take_of_lt (by omega)];exact h1
  have ndP:ps.Nodup:=by rw [<- S.pre];exact S.nd.sublist (List.take_sublist _ _)
  refine ⟨u,rv,?_⟩
  rcases S.par y (UG hp) with k|k
  ·exact .inl ⟨k,Av ndP hp hu k⟩
  ·obtain ⟨c,e⟩:=Ax (n:=s.heap.objs.size+1) k
   refine .inr ⟨.inl k,c,e,?_⟩
   have q:=x.cell y c e
   rw [Aw ndP hp hu (by show scope.names.lookup y≠_;rw [k];decide)] at q
   exact q
 ·exact e0.hok.fresh (XA (x.above y c (U2 h)))
 ·unfold start
  show _=N.length
  rw [Ua,Tt,VQ]
  omega
theorem uR {CX:fG}{P:Ub}{w:Up}{K:To}{mg:Str->Option Value}{base:UE}{k:Nat}{f:Addr}{name qual:Str}{params:Arguments}{body:List Stmt}{scope:V5}{dV kV doc pm cdv ct oc:Value}{an od:Option Addr}
  {osl:Array (Option Value)}{N ps:List Str}{sp:Sp}(lk:K.lookup f=some ⟨oc,od,.func (US name qual params body scope dV kV doc pm an cdv ct),osl⟩)(hcd:Xs K cdv qual=true)(S:FnScope N ps scope)
  (len:∀ vs H Q E,sp vs H Q E->vs.length=ps.length)
  (hbody:∀ (A:Ue)(outer:List X2)(s:Tv)(H:Hp)(vs:List V)(Q:VK)(E:XK),Room k (A.deeper (envOfC qual scope s.heap.objs.size f cdv))->sp vs H Q E->
   ∃ t,PSs (dH CX P w K mg base N qual scope f cdv A outer s H E) body t/\t { nx:=fun _ H'=>Q .non H',rt:=Q } (start N vs) H) :
  FnOk P w K mg base CX (k+1) f (US name qual params body scope dV kV doc pm an cdv ct) ps sp:=by
 refine ⟨len,fun A outer s H args us vs Q E hr e0 hb r hsp=>?_⟩
 have hl:=len _ _ _ _ hsp
 have KX:K.In s.heap:=e0.mod.kin.keeps fun b o e=>(e0.bs b o e).1
 have lim:s.heap.NoLimit:=e0.mod.nolimit.keeps fun b o e=>(e0.bs b o e).1
 have hkind:∀ y∈ps.zip us,scope.names.lookup y.1=some .local\/(scope.names.lookup y.1=some .cell/\((a2A (s.heap.objs.size+1) scope.names []).lookup y.1).isSome=true):=fun ⟨n,v⟩ hy=>by
  rcases S.par n (Zk hy).1 with q|q
  ·exact .inl q
  ·exact .inr ⟨q,ZM _ _ _ (.inl q)⟩
 refine codeAny_call_function hr.depth (KX _ _ lk) rfl S.co S.gen rfl (PySem.W.codeRec_of KX hcd) (hb _ _ _ _ ?_)
 refine wpAny_newFunctionEnv_cells S.kind hkind fun env he s1 x=>?_
 subst he
 refine ⟨lim.keeps x.toInCall.keep,codeAny_func ?_⟩
 obtain ⟨t,ht,hq⟩:=hbody A outer s H vs Q E (hr.deeper _) hsp
 have I:Inv (dH CX P w K mg base N qual scope f cdv A outer s H E) [] (start N vs) H s1:=Hi S hr.hd e0 hl r x
 refine Us (ht [] s1 (start N vs) H _ I hq) (fun fl s' hs=>?_) fun e s' hs=>hs
 have fin:∀ {σ':St}{H':Hp}{v:V}{u:Value},Inv (dH CX P w K mg base N qual scope f cdv A outer s H E) [] σ' H' s'->RelV v u->Q v H'->CE outer P w H s Q u s':=
  fun {σ' H' v u} J rv q=>⟨v,H',J.os,J.bare,J.base,J.hok,rv,q⟩
 cases fl with
 | ret u=>
  obtain ⟨v,σ',H',J,rv,q⟩:=hs
  exact fin J rv q
 | next=>
  obtain ⟨σ',H',J,q⟩:=hs
  exact fin (v:=V.non) (u:=Uw) J rfl q
 | brk=>
  obtain ⟨_,_,_,q⟩:=hs
  exact UC q
 | cont=>
  obtain ⟨_,_,_,q⟩:=hs
  exact UC q
end L2
namespace L2
open PySem PySem.Spec PyProof.Rows
section
variable {X:Cx}{x:Str}{p pos:Vk}{e:TJ}{es:List TJ}{t:TA}{id T:String}{r:List V->Hp->VK->Prop}
noncomputable def uS (r:List V->Hp->VK->Prop)(t:TA):TE:=fun σ H Q=>t σ H fun vs H1=>r vs H1 Q
theorem Hj (hc:CallR X (.builtin id) r)(hg:Gl X x)(hm:X.mg x=none)(hv:Vl x=some (.builtin id))(ha:PA X (e::es) t)(hn:x ≠ "__name__":=by decide) (hdb:(x == ("__debug__":Str))=false:=by decide)
  (he:Ul (e::es) X.env=(false,eval e X.env)::Ul es X.env:=by rfl)(hpl:(VX pos (Ul es X.env)).any (·.1)=false:=by rfl):PE X (.Call (.Name x p) (e::es) [] pos) (uS r t):=by
 intro a3G s σ H Q I h
 refine Vx (gJ I hg hm hv ?_ hn hdb)
 exact VR (aO (ha pos a3G s σ H _ I h) fun us s1 ⟨vs,H1,I1,r1,q1⟩=>hc a3G s1 σ H1 vs us Q I1 r1 q1) he hpl
theorem Hk (hc:CallR X (.type T) r)(hg:Gl X x)(hm:X.mg x=none)(hv:Vl x=some (.type T))(ha:PA X (e::es) t)(hn:x ≠ "__name__":=by decide) (hdb:(x == ("__debug__":Str))=false:=by decide)
  (he:Ul (e::es) X.env=(false,eval e X.env)::Ul es X.env:=by rfl)(hpl:(VX pos (Ul es X.env)).any (·.1)=false:=by rfl):PE X (.Call (.Name x p) (e::es) [] pos) (uS r t):=by
 intro a3G s σ H Q I h
 refine Vx (gJ I hg hm hv ?_ hn hdb)
 exact VE (aO (ha pos a3G s σ H _ I h) fun us s1 ⟨vs,H1,I1,r1,q1⟩=>hc a3G s1 σ H1 vs us Q I1 r1 q1) he hpl
end
end L2
namespace L2
open PySem PySem.Spec PyProof.Rows
section
variable {κ:Type} [DecidableEq κ]
noncomputable def eA (kvs:List (κ×V))(k:κ):Option V:=(kvs.find? fun kv=>decide (kv.1=k)).map (·.2)
noncomputable def qZ (kvs:List (κ×V))(k:κ)(v:V):List (κ×V):=
 if (kvs.any fun kv=>decide (kv.1=k))=true then kvs.map (fun kv=>if kv.1=k then (kv.1,v) else kv) else kvs++[(k,v)]
noncomputable def Ay (kvs:List (κ×V))(k:κ):List (κ×V):=kvs.filter fun kv=>decide (kv.1≠k)
theorem Az {p:κ×V}{r:List (κ×V)}{k:κ}(e:p.1=k):eA (p::r) k=some p.2:=by simp [eA,UM,e]
theorem AA {p:κ×V}{r:List (κ×V)}{k:κ}(e:¬ p.1=k):eA (p::r) k=eA r k:=by simp [eA,UM,e]
theorem RelO.isSome_eq {o:Option V}{u:Option Value}(r:RelO o u):o.isSome=u.isSome:=by
 cases o with
 | none=>cases u with
  | none=>rfl
  | some _=>exact (show False from r).elim
 | some _=>cases u with
  | none=>exact (show False from r).elim
  | some _=>rfl
theorem RelO.getD {o:Option V}{u:Option Value}{d:V}{d':Value}(r:RelO o u)(rd:RelV d d'):RelV (o.getD d) (u.getD d'):=by
 cases o with
 | none=>cases u with
  | none=>exact rd
  | some _=>exact (show False from r).elim
 | some _=>cases u with
  | none=>exact (show False from r).elim
  | some _=>exact r
theorem KV.val {kvs:List (κ×V)}{vs:List (κ×Value)}(r:KV kvs vs)(k:κ):RelO (eA kvs k) (Z1 vs k):=by
 unfold KV at r
 induction r with
 | nil=>exact WJ
 | @cons p q ps qs h t ih=>
  obtain ⟨h1,h2⟩:=h
  by_cases e:p.1=k
  ·have e':q.1=k:=h1.symm.trans e
   have b:Z1 (q::qs) k=some q.2:=by simp [Z1,UM,e']
   rw [Az e,b];exact h2
  ·have e':¬ q.1=k:=fun z=>e (h1.trans z)
   have b:Z1 (q::qs) k=Z1 qs k:=by simp [Z1,UM,e']
   rw [AA e,b];exact ih
theorem KV.any {kvs:List (κ×V)}{vs:List (κ×Value)}(r:KV kvs vs)(k:κ):(kvs.any fun kv=>decide (kv.1=k))=vs.any fun kv=>decide (kv.1=k):=by
 unfold KV at r
 induction r with
 | nil=>rfl
 | cons h t ih=>rw [VU,VU,ih,h.1]
theorem KV.drop {kvs:List (κ×V)}{vs:List (κ×Value)}(r:KV kvs vs)(k:κ):KV (Ay kvs k) (without vs k):=by
 unfold KV at r ⊢
 unfold Ay without
 induction r with
 | nil=>exact .nil
 | @cons p q ps qs h t ih=>
  obtain ⟨h1,h2⟩:=h
  rw [X0,X0]
  by_cases e:p.1=k
  ·have a:¬ decide (p.1≠k)=true:=by simp [e]
   have b:¬ decide (q.1≠k)=true:=by simp [h1.symm.trans e]
   rw [if_neg a,if_neg b];exact ih
  ·have e':¬ q.1=k:=fun z=>e (h1.trans z)
   have a:decide (p.1≠k)=true:=by simp [e]
   have b:decide (q.1≠k)=true:=by simp [e']
   rw [if_pos a,if_pos b];exact .cons ⟨h1,h2⟩ ih
theorem KV.keys {kvs:List (κ×V)}{vs:List (κ×Value)}(r:KV kvs vs):kvs.map (·.1)=vs.map (·.1):=by
 unfold KV at r
 induction r with
 | nil=>rfl
 | cons h t ih=>rw [T4,T4,ih,h.1]
theorem KV.length {kvs:List (κ×V)}{vs:List (κ×Value)}(r:KV kvs vs):kvs.length=vs.length:=ZD r
end
noncomputable abbrev KT (H:Hp):List (List aX×V)->List (List aX×Addr×Value)->Prop:=Xb fun p q=>p.1=q.1/\H q.2.1=some (.tup (p.1.map kV))/\RelV p.2 q.2.2
theorem KT.val {H:Hp}{kvs:List (List aX×V)}{xs:List (List aX×Addr×Value)}(r:KT H kvs xs)(k:List aX):RelO (eA kvs k) ((Zs xs k).map (·.2)):=by
 induction r with
 | nil=>exact WJ
 | @cons p q ps qs h t ih=>
  obtain ⟨h1,_,h2⟩:=h
  by_cases e:p.1=k
  ·have e':q.1=k:=h1.symm.trans e
   have b:Zs (q::qs) k=some q.2:=by simp [Zs,UM,e']
   rw [Az e,b];exact h2
  ·have e':¬ q.1=k:=fun z=>e (h1.trans z)
   have b:Zs (q::qs) k=Zs qs k:=by simp [Zs,UM,e']
   rw [AA e,b];exact ih
theorem KT.keeps {H H':Hp}{kvs:List (List aX×V)}{xs:List (List aX×Addr×Value)}(r:KT H kvs xs)(ht:∀ b ys,H b=some (.tup ys)->H' b=some (.tup ys)):KT H' kvs xs:=
 Xb.mapP r fun _ _ z=>⟨z.1,ht _ _ z.2.1,z.2.2⟩
section
variable {P:Ub}{w:Up}{H:Hp}{h:UE}{a:Addr}
end
noncomputable def DGet (H:Hp)(a:Addr)(y:V)(r:Option V):Prop:=
 (∃ kvs k,Rd H a (.dK kvs)/\y=kV k/\r=eA kvs k)\/∃ kvs k b,Rd H a (.dT kvs)/\y=.ref b/\H b=some (.tup (k.map kV))/\r=eA kvs k
noncomputable def DPut (H:Hp)(a:Addr)(y v:V)(H':Hp):Prop:=
 (∃ kvs k,H a=some (.dK kvs)/\y=kV k/\kvs.length<TL/\H'=aH H a (.dK (qZ kvs k v))) \/
 ∃ kvs k b,H a=some (.dT kvs)/\y=.ref b/\H b=some (.tup (k.map kV))/\kvs.length<TL/\H'=aH H a (.dT (qZ kvs k v))
theorem DGet.k {H:Hp}{a:Addr}{kvs:List (aX×V)}{k:aX}(e:H a=some (.dK kvs)):DGet H a (kV k) (eA kvs k):=.inl ⟨kvs,k,.inl e,rfl,rfl⟩
theorem DGet.t {H:Hp}{a b:Addr}{kvs:List (List aX×V)}{k:List aX}(e:H a=some (.dT kvs))(eb:H b=some (.tup (k.map kV))):DGet H a (.ref b) (eA kvs k):=.inr ⟨kvs,k,b,.inl e,rfl,eb,rfl⟩
theorem DPut.k {H:Hp}{a:Addr}{kvs:List (aX×V)}{k:aX}{v:V}(e:H a=some (.dK kvs))(hl:kvs.length<TL):DPut H a (kV k) v (aH H a (.dK (qZ kvs k v))):=.inl ⟨kvs,k,e,rfl,hl,rfl⟩
theorem DPut.t {H:Hp}{a b:Addr}{kvs:List (List aX×V)}{k:List aX}{v:V}(e:H a=some (.dT kvs))(eb:H b=some (.tup (k.map kV)))(hl:kvs.length<TL) :
  DPut H a (.ref b) v (aH H a (.dT (qZ kvs k v))):=.inr ⟨kvs,k,b,e,rfl,eb,hl,rfl⟩
section
variable {X:Cx}{a3G:List (Addr×Obj)}{σ:St}{H:Hp}{s:Tv}{a:Addr}{y v:V}{u r:Value}{o:Option V}{A:Ue}{E:Value->Tv->Prop}
theorem Inv.big (I:Inv X a3G σ H s):VL<s.heap.objs.size:=by
 have h:Ux<s.heap.objs.size:=(I.mod.glob.keeps I.bk).lt
 exact WX (by decide) h
theorem AB {h':UE}{t':Nat}{ob:HO}(I:Inv X a3G σ H s)(mu:oK (H a))(hs:WR a s.heap h')(he:∃ q,h'.get? a=some q)(new:ObjOk X.prog X.w (aH H a ob) h' a ob) :
  Inv X a3G σ (aH H a ob) { s with heap:=h',toks:=t' }:=
 I.write (x:=a) (e:=a) mu (.inl rfl) (fun b q hb z=>(hs.2 b hb).trans z) he new
end
section
variable {X:Cx}{a3G:List (Addr×Obj)}{σ:St}{H:Hp}{s:Tv}{a:Addr}{kvs:List (aX×V)}{k:aX}{u:Value}{A:Ue}{E:Value->Tv->Prop}
end
noncomputable def AD (i:TJ):Prop:=∀ ov iv,ZS i false ov iv=operate [ov,iv] (Z2 ov iv)
theorem Hl {prog:Ub}{w:Up}{A:Ue}{E:Value->Tv->Prop}{s:Tv}{env:X2}{value slice:TJ}{pos:Vk}{T id:String}{Q:Value->Tv->Prop}
  (hl:V4 (.type T) "__getitem__" = pure (some (.builtin id))) (hs:AD slice)
  (h:TY (T7 prog w) A (eval value env) (fun o s₁=>TY (T7 prog w) A (eval slice env) (fun i s₂=>s₂.TypeIs o T/\TY (T7 prog w) A (Z2 o i) Q E s₂) E s₁) E s) :
  TY (T7 prog w) A (eval (.Subscript value slice pos) env) Q E s:=by
 refine a0k (Us h (fun o s₁ h₁=>Us h₁ (fun i s₂ h₂=>?_) fun _ _ x=>x) fun _ _ x=>x)
 obtain ⟨hT,h₂⟩:=h₂
 unfold Y5
 refine Tp ?_
 rw [getitemInPython_of_ne hT.not_modules]
 refine Tp (a2P hT hl ?_)
 have fin:TY (T7 prog w) A (ZS slice false o i) (fun r s₃=>TY (T7 prog w) A (letTemporaryGo value o r >>= fun _=>pure r) Q E s₃) E s₂:=by
  rw [hs o i]
  exact wpAny_operating (Us h₂ (fun r s₃ h₃=>Tp (wpAny_letTemporaryGo (TF h₃))) fun _ _ x=>x)
 first
  | exact TF (Tp fin)
  | exact Tp (TF (Tp fin))
  | exact Tp fin
section
variable {X:Cx}{o i e value:TJ}{pos pos' tpos:Vk}{td ty tv:TE}
end
section
variable {X:Cx}{pos:Vk}
end
noncomputable def AE:List (TE×TE)->St->Hp->(List (V×V)->Hp->Prop)->Prop
 | [],_,H,Q=>Q [] H
 | (tk,tv)::r,σ,H,Q=>tk σ H fun x H1=>tv σ H1 fun y H2=>AE r σ H2 fun ps H3=>Q ((x,y)::ps) H3
noncomputable abbrev VV:List (V×V)->List (Value×Value)->Prop:=Xb fun p q=>RelV p.1 q.1/\RelV p.2 q.2
noncomputable def Hn (X:Cx)(pos:Vk)(keys:List (Option TJ))(values:List TJ)(trs:List (TE×TE)):Prop:=
 ∀ (a3G:List (Addr×Obj))(s:Tv)(σ:St)(H:Hp)(Q:List (V×V)->Hp->Prop),Inv X a3G σ H s->AE trs σ H Q->
  TY (T7 X.prog X.w) X.A (evalPairs (pairTrees keys values X.env pos)) (fun vs s'=>∃ ps H',Inv X a3G σ H' s'/\VV ps vs/\Q ps H') X.xe s
structure M1 (X:Cx)(o:TJ)(m:Str)(apos:Vk)(e:TJ)(cpos:Vk):Prop where
 base:WN o m X.env (eval o X.env)=eval o X.env
 few:((VX cpos (Ul [e] X.env)).all (fun x=>!x.1)&&(a0h cpos (YI [] X.env)).all (fun x=>x.1.isSome)
  && decide (([e]:List TJ).length+([]:List WG).length+(if ([]:List WG).isEmpty then 0 else 1)<30))=true
 line:(apos.endLine == cpos.line)=true
 trees:VX cpos (Ul [e] X.env)=[(false,eval e X.env)]
structure M2 (X:Cx)(o:TJ)(m:Str)(apos:Vk)(e f:TJ)(cpos:Vk):Prop where
 base:WN o m X.env (eval o X.env)=eval o X.env
 few:((VX cpos (Ul [e,f] X.env)).all (fun x=>!x.1)&&(a0h cpos (YI [] X.env)).all (fun x=>x.1.isSome)
  && decide (([e,f]:List TJ).length+([]:List WG).length+(if ([]:List WG).isEmpty then 0 else 1)<30))=true
 line:(apos.endLine == cpos.line)=true
 trees:VX cpos (Ul [e,f] X.env)=[(false,eval e X.env),(false,eval f X.env)]
noncomputable def IsD (H:Hp)(a:Addr):Prop:=(∃ kvs,Rd H a (.dK kvs))\/∃ kvs,Rd H a (.dT kvs)
section
variable {X:Cx}{a3G:List (Addr×Obj)}{σ:St}{H:Hp}{s:Tv}{a:Addr}{y d:V}{u r:Value}{o:Option V}{A:Ue}{E:Value->Tv->Prop}
end
section
variable {X:Cx}{o e f:TJ}{apos cpos:Vk}{td ty tx:TE}
end
section
variable {X:Cx}{a3G:List (Addr×Obj)}{σ:St}{H:Hp}{s:Tv}{a:Addr}{kvs:List (aX×V)}{A:Ue}{E:Value->Tv->Prop}
end
section
variable {X:Cx}{a3G:List (Addr×Obj)}{σ:St}{H:Hp}{s:Tv}{a:Addr}{y:V}{u:Value}{A:Ue}{E:Value->Tv->Prop}
end
end L2
namespace HT
open PySem PyProof.Rows
noncomputable def lexLt:List Int->List Int->Bool
 | [],[]=>false
 | [],_::_=>true
 | _::_,[]=>false
 | x::xs,y::ys=>if x=y then lexLt xs ys else decide (x<y)
theorem lexLt_cons (x y:Int)(xs ys:List Int):lexLt (x::xs) (y::ys)=if x=y then lexLt xs ys else decide (x<y):=rfl
theorem Ho:lexLt [] []=false:=rfl
theorem Hq (y:Int)(ys:List Int):lexLt [] (y::ys)=true:=rfl
theorem Hr (x:Int)(xs:List Int):lexLt (x::xs) []=false:=rfl
theorem Hs (A:Ue)(s:Tv)(a:Int)(t:a2C)(c:Int)(u:a2C):∃ e,YC A s (.int a t) (.int c u) e/\(e=true↔a=c):=
 ⟨(a == c),ZU a t c u,by simp⟩
theorem Ht (A:Ue)(s:Tv)(a:Int)(t:a2C)(c:Int)(u:a2C)(prog:Ub)(w:Up)(E:Value->Tv->Prop)(Q:Value->Tv->Prop)(h:Q (.bool (decide (a<c))) s) :
  TY (T7 prog w) A (richCompare .Lt (.int a t) (.int c u)) Q E s:=
 (Zt h:TY (T7 prog w) A (UX .Lt (.int a t) (.int c u)) Q E s)
section
open PySem.SeqAt
open PySem.AutoSeq1 (wpAny_loadPart')
open PySem.MeetsSeq PySem.MeetsSeq2 PySem.MeetsSeq3
theorem Hu (l b:Addr)(items items2:Array Value)(n n2:Nat)(dd dd2:Option Addr)(sl sl2:Array (Option Value))(ns ms:List Int)(hi:Wh items.toList ns)(hj:Wh items2.toList ms) :
  Meets (Builtin.«tuple.__lt__» ⟨[.ref l,.ref b],[]⟩)
   (fun _ R s=>s.heap.get? l=some { cls:=.type "tuple",dict:=dd,data:=.seq items n,slots:=sl }/\s.heap.get? b=some { cls:=.type "tuple",dict:=dd2,data:=.seq items2 n2,slots:=sl2 } /\
    R (.ok (.ret (.bool (lexLt ns ms)))) s):=
 .of_wp fun prog w A R s h=>by
  obtain ⟨hp,g,d,tk,os⟩:=s;obtain ⟨hl,hb,h⟩:=h
  have f2:=AutoSeq1.sub_tuple_tuple
  have z1:items.size=ns.length:=by rw [<- hi.length];simp
  have z2:items2.size=ms.length:=by rw [<- hj.length];simp
  wp_walk using a2Q hl,a2Q hb,wpAny_forIn_list _ (fun rest b s'=>b.1=none/\s'=⟨hp,g,d,tk,os⟩/\∃ (vs ws:List Value)(ns' ms':List Int),rest=vs.zip ws /\
   Wh vs ns'/\Wh ws ms'/\ns'.length+items2.size=ms'.length+items.size/\R (.ok (.ret (.bool (lexLt ns' ms')))) ⟨hp,g,d,tk,os⟩) _
  case turn=>
   rintro ⟨y,x⟩ rest b s' ⟨hb',rfl,vs,ws,ns',ms',hz,hvi,hwi,hlen,hR⟩
   cases hvi with
   | nil=>rw [List.zip_nil_left] at hz;cases hz
   | cons a t hvi'=>
    cases hwi with
    | nil=>rw [YH] at hz;cases hz
    | cons c u hwi'=>
     rw [V8] at hz
     injection hz with hyx hrest
     injection hyx with hy hx
     subst hy hx
     rw [lexLt_cons] at hR
     simp only [Um] at hlen
     obtain ⟨e,he,hiff⟩:=Hs A.in1 ⟨hp,g,d,tk,os⟩ a t c u
     refine Tp (he prog w _ _ ?_)
     cases e with
     | true=>
      rw [if_pos (hiff.mp rfl)] at hR
      wp_walk
      exact ⟨rfl,rfl,_,_,_,_,hrest,hvi',hwi',by omega,hR⟩
     | false=>
      rw [if_neg (fun q=>absurd (hiff.mpr q) UN)] at hR
      have hri:=Ht A.in1 ⟨hp,g,d,tk,os⟩ a t c u prog w
      wp_walk using hri
      exact ⟨_,rfl,by simpa using hR⟩
  case fin=>
   rintro ⟨b1,b2⟩ s' ⟨hb',rfl,vs,ws,ns',ms',hz,hvi,hwi,hlen,hR⟩
   simp only at hb'
   subst hb'
   have hv:lexLt ns' ms'=decide (items.size<items2.size):=by
    cases hvi with
    | nil=>
     cases hwi with
     | nil=>
      simp only [Xk] at hlen
      rw [Ho]
      exact (decide_eq_false (by omega)).symm
     | cons c u hw=>
      simp only [Xk,Um] at hlen
      rw [Hq]
      exact (decide_eq_true (by omega)).symm
    | cons a t hv=>
     cases hwi with
     | nil=>
      simp only [Xk,Um] at hlen
      rw [Hr]
      exact (decide_eq_false (by omega)).symm
     | cons c u hw=>
      rw [V8] at hz
      cases hz
   rw [hv] at hR
   wp_walk
   exact ⟨_,rfl,by simpa [a2N] using hR⟩
  case h=>
   exact ⟨rfl,rfl,items.toList,items2.toList,ns,ms,rfl,hi,hj,by omega,h⟩
end
section
variable {prog:Ub}{w:Up}{A:Ue}{E:Value->Tv->Prop}{s:Tv}
theorem lt_tupInts {l b:Addr}{items items2:Array Value}{ns ms:List Int}{Q:Value->Tv->Prop}(hl:Wq s.heap l items)(hb:Wq s.heap b items2)(hi:Wh items.toList ns)(hj:Wh items2.toList ms)
  (hu:A.units<Vm)(h:Q (.bool (lexLt ns ms)) s):TY (T7 prog w) A (UX .Lt (.ref l) (.ref b)) Q E s:=by
 obtain ⟨⟨cls,dd,data,sl⟩,ho,hc,n,hd⟩:=id hl
 obtain ⟨⟨cls2,dd2,data2,sl2⟩,ho2,hc2,n2,hd2⟩:=id hb
 simp only at hc hd hc2 hd2
 subst hc hd hc2 hd2
 exact richCompare_meets_room (op:=.Lt) ⟨_,ho,rfl⟩ ⟨_,ho2,rfl⟩ PySem.F.slot_tuple_lt PySem.F.entry_tuple_lt (PySem.F.args_tuple_lt_2 _ _) (Hu l b items items2 n n2 dd dd2 sl sl2 ns ms hi hj)
  ⟨ho,ho2,show T5 (lexLt ns ms)≠Value.notImplemented/\Q (.bool (lexLt ns ms)) s from ⟨(fun x=>nomatch x),h⟩⟩ hu
noncomputable def sIx (n d:Nat):Option Int->Nat
 | none=>d
 | some v=>if v<0 then (v+(n:Int)).toNat else min v.toNat n
theorem sIx_none (n d:Nat):sIx n d none=d:=rfl
theorem sIx_nat (n d k:Nat):sIx n d (some (k:Int))=min k n:=by
 show (if (k:Int)<0 then ((k:Int)+(n:Int)).toNat else min (k:Int).toNat n)=min k n
 rw [if_neg (by omega),XS]
end
end HT
namespace L2
open PySem PySem.Spec PyProof.Rows
noncomputable abbrev TO:=St->Hp->(Option Int->Hp->Prop)->Prop
noncomputable def PO (X:Cx)(e:Option TJ)(t:TO):Prop:=
 ∀ (a3G:List (Addr×Obj))(s:Tv)(σ:St)(H:Hp)(Q:Option Int->Hp->Prop),Inv X a3G σ H s->t σ H Q->
  TY (T7 X.prog X.w) X.A (evalPart e X.env) (fun u s'=>∃ o H',Inv X a3G σ H' s'/\IsPart u o/\Q o H') X.xe s
noncomputable def Hv:TO:=fun _ H Q=>Q none H
noncomputable def Hw (t:TE):TO:=fun σ H Q=>t σ H fun x H1=>∃ i,x=.int i/\Q (some i) H1
theorem AF {ns:List Int}:∀ {us:List Value},Vals (ns.map V.int) us->Wh us ns:=by
 induction ns with
 | nil=>intro us r;rw [X8] at r;cases r;exact .nil
 | cons n ns ih=>
  intro us r
  rw [T4] at r
  cases r with
  | cons r1 r2=>
   obtain ⟨t,e⟩:=r1
   subst e
   exact .cons n t (ih r2)
section
variable {X:Cx}{e:TJ}{te:TE}{lo hi:Option TJ}{tl th:TO}{pos p2:Vk}
theorem Hx:PO X none Hv:=by
 intro a3G s σ H Q I h
 rw [evalPart_none]
 exact TF ⟨none,H,I,.none,h⟩
theorem Hy (h:PE X e te):PO X (some e) (Hw te):=by
 intro a3G s σ H Q I hw
 rw [evalPart_some]
 refine aO (h a3G s σ H _ I hw) fun u s1 ⟨x,H1,I1,r1,q1⟩=>?_
 obtain ⟨i,rfl,q⟩:=q1
 obtain ⟨t,rfl⟩:=r1
 exact ⟨some i,H1,I1,.int i t,q⟩
noncomputable def SlR (X:Cx)(r:V->Option Int->Option Int->Hp->VK->Prop):Prop:=
 ∀ (a3G:List (Addr×Obj))(s:Tv)(σ:St)(H:Hp)(x:V)(v vl vu:Value)(lo hi:Option Int)(sl:Addr)(Q:VK),Inv X a3G σ H s->RelV x v->s.heap.IsSliceOf sl vl vu .none->IsPart vl lo->IsPart vu hi->r x lo hi H Q->
  ∃ T id,V4 (.type T) "__getitem__" = pure (some (.builtin id))/\s.TypeIs v T/\TY (T7 X.prog X.w) X.A (Z2 v (.ref sl)) (EP X a3G σ Q) X.xe s
theorem SlR.or {r r':V->Option Int->Option Int->Hp->VK->Prop}(h:SlR X r)(h':SlR X r'):SlR X (fun x lo hi H Q=>r x lo hi H Q\/r' x lo hi H Q):=by
 intro a3G s σ H x v vl vu lo hi sl Q I rx hs pl pu q
 rcases q with q|q
 ·exact h a3G s σ H x v vl vu lo hi sl Q I rx hs pl pu q
 ·exact h' a3G s σ H x v vl vu lo hi sl Q I rx hs pl pu q
noncomputable def Hz (r:V->Option Int->Option Int->Hp->VK->Prop)(te:TE)(tl th:TO):TE:=fun σ H Q=>te σ H fun x H1=>tl σ H1 fun l H2=>th σ H2 fun u H3=>r x l u H3 Q
theorem HA {r:V->Option Int->Option Int->Hp->VK->Prop}(hr:SlR X r)(he:PE X e te)(hl:PO X lo tl)(hu:PO X hi th):PE X (.Subscript e (.Slice lo hi none p2) pos) (Hz r te tl th):=by
 intro a3G s σ H Q I h
 refine a0k (aO (he a3G s σ H _ I h) fun v s1 ⟨x,H1,I1,r1,q1⟩=>?_)
 refine wpAny_Slice (aO (hl a3G s1 σ H1 _ I1 q1) fun vl s2 ⟨l,H2,I2,pl,q2⟩=>aO (hu a3G s2 σ H2 _ I2 q2) fun vu s3 ⟨u,H3,I3,pu,q3⟩=>?_)
 rw [evalPart_none]
 refine TF ?_
 have I4:Inv X a3G σ H3 { s3 with heap:=s3.heap.push { cls:=.type "slice",data:=.fields #[vl,vu,.none] } }:=I3.kept (t':=s3.toks) fun b ob q=>Tu _ q
 obtain ⟨T,id,hT,ht,hg⟩:=hr a3G { s3 with heap:=s3.heap.push { cls:=.type "slice",data:=.fields #[vl,vu,.none] } } σ H3 x v vl vu l u s3.heap.objs.size Q I4 r1 (Zn ..) pl pu q3
 show TY (T7 X.prog X.w) X.A (Y5 e (.Slice lo hi none p2) v (.ref s3.heap.objs.size)) (EP X a3G σ Q) X.xe { s3 with heap:=s3.heap.push { cls:=.type "slice",data:=.fields #[vl,vu,.none] } }
 exact a3u (ops:=[.ref s3.heap.objs.size,v]) ht hT hg (by with_unfolding_all rfl)
noncomputable def jM (xs:List V)(lo hi:Option Int):List V:=(xs.drop (HT.sIx xs.length 0 lo)).take (HT.sIx xs.length xs.length hi - HT.sIx xs.length 0 lo)
theorem HB (xs:List V)(lo hi:Option Int):(jM xs lo hi).length<=xs.length:=by
 unfold jM
 rw [V2,XZ]
 omega
end
end L2
namespace L2
open PySem PySem.Spec PyProof.Rows
noncomputable def iR (n:Nat)(i:Int):Option Nat:=if 0<=i then (if i<n then some i.toNat else none) else if -(n:Int)<=i then some (i+n).toNat else none
noncomputable def atI {α:Type}(xs:List α)(i:Int):Option α:=(iR xs.length i).bind fun j=>xs[j]?
theorem AG {n:Nat}{i:Int}{j:Nat}(h:iR n i=some j):seqIndex? i n=some j/\j<n/\-(n:Int)<=i/\i<n:=by
 unfold iR at h
 by_cases h0:0<=i
 ·rw [if_pos h0] at h
  by_cases h1:i<n
  ·rw [if_pos h1] at h
   have e:i.toNat=j:=Uc h
   exact ⟨by rw [a1I h0 h1,e],by omega,by omega,h1⟩
  ·rw [if_neg h1] at h;cases h
 ·rw [if_neg h0] at h
  by_cases h1:-(n:Int)<=i
  ·rw [if_pos h1] at h
   have e:(i+n).toNat=j:=Uc h
   exact ⟨by rw [a1d (by omega) h1,e],by omega,h1,by omega⟩
  ·rw [if_neg h1] at h;cases h
theorem uT {α:Type}{xs:List α}{i:Int}{v:α}(h:atI xs i=some v):∃ j,seqIndex? i xs.length=some j/\xs[j]? = some v/\j<xs.length/\-(xs.length:Int)<=i/\i<xs.length:=by
 unfold atI at h
 cases e:iR xs.length i with
 | none=>rw [e] at h;cases h
 | some j=>
  rw [e] at h
  obtain ⟨h1,h2,h3,h4⟩:=AG e
  exact ⟨j,h1,h,h2,h3,h4⟩
noncomputable def uU (b:TJ):Prop:=∀ o i,ZS b false o i=operate [o,i] (Z2 o i)
noncomputable def IxR (X:Cx)(r:R2):Prop:=
 ∀ (value slice:TJ)(a3G:List (Addr×Obj))(s:Tv)(σ:St)(H:Hp)(x y:V)(v u:Value)(Q:VK),Inv X a3G σ H s->RelV x v->RelV y u->r x y H Q->
  ZS slice false v u=operate [v,u] (Z2 v u)->TY (T7 X.prog X.w) X.A (Y5 value slice v u) (EP X a3G σ Q) X.xe s
noncomputable def MtR (X:Cx)(id:String)(r:V->List V->Hp->VK->Prop):Prop:=
 ∀ (a3G:List (Addr×Obj))(s:Tv)(σ:St)(H:Hp)(x:V)(xs:List V)(v:Value)(us:List Value)(Q:VK),Inv X a3G σ H s->RelV x v->Vals xs us->r x xs H Q->
  TY (T7 X.prog X.w) X.A (call (.builtin id) (v::us)) (EP X a3G σ Q) X.xe s
section
variable {X:Cx}{a b:TJ}{ta tb:TE}{pos:Vk}
theorem IxR.or {r r':R2}(h:IxR X r)(h':IxR X r'):IxR X (fun x y H Q=>r x y H Q\/r' x y H Q):=by
 intro value slice a3G s σ H x y v u Q I rx ry q hs
 rcases q with q|q
 ·exact h value slice a3G s σ H x y v u Q I rx ry q hs
 ·exact h' value slice a3G s σ H x y v u Q I rx ry q hs
theorem MtR.or {id:String}{r r':V->List V->Hp->VK->Prop}(h:MtR X id r)(h':MtR X id r'):MtR X id (fun x xs H Q=>r x xs H Q\/r' x xs H Q):=by
 intro a3G s σ H x xs v us Q I rx rs q
 rcases q with q|q
 ·exact h a3G s σ H x xs v us Q I rx rs q
 ·exact h' a3G s σ H x xs v us Q I rx rs q
theorem HC {r:R2}(hr:IxR X r)(ha:PE X a ta)(hb:PE X b tb)(hs:uU b):PE X (.Subscript a b pos) (oR r ta tb):=by
 intro a3G s σ H Q I h
 exact a0k (uI ha hb I h fun v u s2 x y H2 I2 rx ry q=>hr a b a3G s2 σ H2 x y v u Q I2 rx ry q (hs _ _))
noncomputable def AH (K:To):R2:=fun x y H Q=>∃ p xs i v,x=.ref p/\y=.int i/\SqL K H p xs/\atI xs i=some v/\Q v H
noncomputable def AI (K:To):R2:=fun x y H Q=>∃ p xs i v,x=.ref p/\y=.int i/\SqT K H p xs/\atI xs i=some v/\Q v H
noncomputable def AJ:R2:=fun x y H Q=>∃ z i c,x=.str z/\y=.int i/\z.length<=TL/\atI z.cps.toList i=some c/\Q (.str ⟨#[c]⟩) H
theorem ix_list:IxR X (AH X.K):=by
 intro value slice a3G s σ H x y v u Q I rx ry h hs
 obtain ⟨p,xs,i,z,rfl,rfl,hq,he,q⟩:=h
 cases rx
 obtain ⟨t,rfl⟩:=ry
 obtain ⟨its,r,pl,hz⟩:=I.list hq
 obtain ⟨j,h1,h2,h3,h4,h5⟩:=uT he
 obtain ⟨w,ew,rw'⟩:=r.get h2
 have hl:=r.length
 have hn:=jL
 have fin:EP X a3G σ Q w s:=⟨z,H,I,rw',q⟩
 by_cases h0:0<=i
 ·have hj:i.toNat=j:=by
   rw [a1I h0 h5] at h1
   exact Uc h1
  exact item_listR pl.isList h0 (by omega) (by rw [hj];simpa using ew) fin hs
 ·have hj:(i+(its.toArray.size:Int)).toNat=j:=by
   rw [a1d (by omega) h4] at h1
   rw [TU,<- hl]
   exact Uc h1
  exact a1c (x:=w) pl.isList.typeIs Zo.lookup
   (wpAny_getItem_list_neg (Q:=fun r s'=>r=w/\EP X a3G σ Q r s') pl.isList (by omega) (by rw [TU]<;>omega) (by omega) (by rw [hj];simpa using ew) ⟨rfl,fin⟩) hs
theorem ix_tup:IxR X (AI X.K):=by
 intro value slice a3G s σ H x y v u Q I rx ry h hs
 obtain ⟨p,xs,i,z,rfl,rfl,hq,he,q⟩:=h
 cases rx
 obtain ⟨t,rfl⟩:=ry
 obtain ⟨its,r,pl,hz⟩:=I.tuple hq
 obtain ⟨j,h1,h2,h3,h4,h5⟩:=uT he
 obtain ⟨w,ew,rw'⟩:=r.get h2
 have hl:=r.length
 have hn:=jL
 have fin:EP X a3G σ Q w s:=⟨z,H,I,rw',q⟩
 exact a1c (x:=w) pl.typeIs slot_tuple_getitem.lookup
  (getItem_tuple (j:=j) (Q:=fun r s'=>r=w/\EP X a3G σ Q r s') pl (by omega) (by omega) (by rw [TU,<- hl];exact h1) (by simpa using ew) ⟨rfl,fin⟩) hs
theorem HD:IxR X AJ:=by
 intro value slice a3G s σ H x y v u Q I rx ry h hs
 obtain ⟨z,i,c,rfl,rfl,hz,he,q⟩:=h
 obtain ⟨t,rfl⟩:=rx
 obtain ⟨t',rfl⟩:=ry
 obtain ⟨j,h1,h2,h3,h4,h5⟩:=uT he
 have hl:z.cps.toList.length=z.length:=by simp [Str.length]
 rw [hl] at h1 h4 h5
 have hn:=jL
 exact a3u (typeIs_str s z t) slot_str_getitem.lookup (getItem_str (c:=c) (by
  have e1:decide (i < -(2 ^ 63:Int))=false:=decide_eq_false (by omega)
  have e2:decide (i >= 2 ^ 63)=false:=decide_eq_false (by omega)
  rw [e1,e2,ZW]) (by rw [h1];simpa using h2) ⟨.str ⟨#[c]⟩,H,I.tok _,⟨_,rfl⟩,q⟩) hs
noncomputable def AK (K:To):R2:=fun x y H Q=>AH K x y H Q\/AI K x y H Q\/AJ x y H Q
theorem HE:IxR X (AK X.K):=ix_list.or (ix_tup.or HD)
theorem HF (its:List Value)(n j:Nat)(u:Value):Ve (·.setIfInBounds j u) { cls:=.type "list",data:=.seq its.toArray n } = { cls:=.type "list",data:=.seq (its.set j u).toArray n }:=by
 simp [Ve]
theorem Inv.lst {a3G:List (Addr×Obj)}{σ:St}{H:Hp}{s:Tv}{p:Addr}{xs:List V}(I:Inv X a3G σ H s)(h:H p=some (.lst xs)) :
  ∃ (its:List Value)(n:Nat),Vals xs its/\s.heap.get? p=some { cls:=.type "list",data:=.seq its.toArray n }/\xs.length<=TL:=by
 obtain ⟨z,its,n,r,e⟩:=I.hok p _ h
 exact ⟨its,n,r,e,z⟩
theorem Inv.lstUpd {a3G:List (Addr×Obj)}{σ:St}{H:Hp}{s:Tv}{p:Addr}{xs ys:List V}{its its':List Value}{n n':Nat}{f:Obj->Obj}(I:Inv X a3G σ H s)(h:H p=some (.lst xs))
  (ho:s.heap.get? p=some { cls:=.type "list",data:=.seq its.toArray n }) (hf:f { cls:=.type "list",data:=.seq its.toArray n } = { cls:=.type "list",data:=.seq its'.toArray n' }) (r:Vals ys its')(hz:ys.length<=TL)(t:Nat) :
  Inv X a3G σ (aH H p (.lst ys)) { s with heap:=s.heap.update p f,toks:=t }:=by
 have e:(s.heap.update p f).get? p=some { cls:=.type "list",data:=.seq its'.toArray n' }:=by
  rw [U6 f ho (by rw [hf]<;>rfl),hf]
 refine I.write (x:=p) (e:=p) (by rw [h];trivial) (.inl rfl) (fun b u hb q=>(UL _ _ (Va hb)).trans q) ⟨_,e⟩ ?_
 exact ⟨hz,its',n',r,e⟩
noncomputable def AL:V->V->V->Hp->(Hp->Prop)->Prop:=fun o i v H Q=>∃ p xs k j,o=.ref p/\i=.int k/\H p=some (.lst xs)/\iR xs.length k=some j/\Q (aH H p (.lst (xs.set j v)))
theorem HG:Gr X AL:=by
 intro a3G s σ H o i v ov iv u Q I ro ri rv h
 obtain ⟨p,xs,k,j,rfl,rfl,hp,hj,q⟩:=h
 cases ro
 obtain ⟨t,rfl⟩:=ri
 obtain ⟨its,n,r,ho,hz⟩:=I.lst hp
 obtain ⟨h1,h2,h3,h4⟩:=AG hj
 have hl:=r.length
 have hn:=jL
 have I':Inv X a3G σ (aH H p (.lst (xs.set j v))) { s with heap:=s.heap.update p (Ve (·.setIfInBounds j u)) }:=
  I.lstUpd hp ho (HF its n j u) (r.set rv j) (by rw [VG];exact hz) s.toks
 by_cases h0:0<=k
 ·have hk:k.toNat=j:=by
   rw [a1I h0 h4] at h1
   exact Uc h1
  exact PySem.W.ki_setAt ho h0 (by omega) (by rw [TU,<- hl];exact h4) (by rw [hk];exact ⟨_,I',q⟩)
 ·have hk:(k+(its.toArray.size:Int)).toNat=j:=by
   rw [a1d (by omega) h3] at h1
   rw [TU,<- hl]
   exact Uc h1
  exact PySem.W.ki_setBack ho (by omega) (by rw [TU,<- hl];exact h3) (by omega) (by rw [hk];exact ⟨_,I',q⟩)
theorem HH (lo hi:Option Int)(n:Nat):(Wc lo hi none n).1=((HT.sIx n 0 lo:Nat):Int)/\(Wc lo hi none n).2.1=((HT.sIx n n hi:Nat):Int)/\(Wc lo hi none n).2.2=1:=by
 refine ⟨?_,?_,rfl⟩
 ·cases lo with
  | none=>simp [Wc,HT.sIx]
  | some i=>
   simp only [Wc,HT.sIx,a0X,show (1:Int)>0 by decide,if_true]
   by_cases h:i<0
   ·simp only [h,if_true]<;>omega
   ·simp only [h,if_false]<;>omega
 ·cases hi with
  | none=>simp [Wc,HT.sIx]
  | some i=>
   simp only [Wc,HT.sIx,a0X,show (1:Int)>0 by decide,if_true]
   by_cases h:i<0
   ·simp only [h,if_true]<;>omega
   ·simp only [h,if_false]<;>omega
theorem HI (its:List Value)(lo hi:Option Int):a0N its.toArray lo hi none=((its.drop (HT.sIx its.length 0 lo)).take (HT.sIx its.length its.length hi - HT.sIx its.length 0 lo)).toArray:=by
 obtain ⟨h1,h2,h3⟩:=HH lo hi its.toArray.size
 unfold a0N
 rw [h1,h2,h3]
 simp only [sliceRange_one,pick_run,TU]<;>rfl
noncomputable def uV (K:To):V->Option Int->Option Int->Hp->VK->Prop:=fun x lo hi H Q=>∃ a xs,x=.ref a/\SqL K H a xs/\∀ p,H p=none->Q (.ref p) (aH H p (.lst (jM xs lo hi)))
theorem HJ:SlR X (uV X.K):=by
 intro a3G s σ H x v vl vu lo hi sl Q I rx hs pl pu h
 obtain ⟨a,xs,rfl,hx,q⟩:=h
 cases rx
 obtain ⟨its,r,ht,hz⟩:=I.list hx
 have hlen:=r.length
 refine ⟨"list",_,Zo.lookup,ht.isList.typeIs,?_⟩
 refine a0C ht.isList hs pl pu .none (by simp) ?_ (by rw [TU]<;>omega)
 rw [HI,<- hlen]
 refine ⟨.ref s.heap.objs.size,_,I.laid (t':=s.toks) (o:=.lst (jM xs lo hi)) (fun b ob q=>Tu _ q) (TK _) ?_,rfl,q _ (I.hok.fresh (TK _))⟩
 exact ⟨UU (HB xs lo hi) hz,_,0,(r.drop (HT.sIx xs.length 0 lo)).take (HT.sIx xs.length xs.length hi - HT.sIx xs.length 0 lo),TZ _ rfl⟩
theorem AM:OpR X (UX .NotIn) (fun x y H Q=>∃ i j,x=.str i/\y=.str j/\Q (.bl (!(!(Vd j i 0 j.length 1).isEmpty))) H):=by
 intro a3G s σ H x y v u Q I rx ry h
 obtain ⟨i,j,rfl,rfl,q⟩:=h
 obtain ⟨t,rfl⟩:=rx
 obtain ⟨t',rfl⟩:=ry
 exact notIn_str ⟨.bl _,H,I,rfl,q⟩
theorem call_len_seq:CallR X (.builtin "len") (fun xs H Q=>∃ p ys,xs=[.ref p]/\(SqL X.K H p ys\/SqT X.K H p ys)/\Q (.int ys.length) H):=by
 intro a3G s σ H xs us Q I r h
 obtain ⟨p,ys,rfl,hq,q⟩:=h
 obtain ⟨u,rfl,rx⟩:=eG r
 cases rx
 have hn:=jL
 rcases hq with hq|hq
 ·obtain ⟨its,r',pl,hz⟩:=I.list hq
  have hlen:=r'.length
  exact Calls.call_len_list pl.isList (by simp only [TU]<;>omega) ⟨.int ys.length,H,I.tok _,⟨s.toks+1,by rw [TU,hlen]⟩,q⟩
 ·obtain ⟨its,r',pl,hz⟩:=I.tuple hq
  have hlen:=r'.length
  exact len_tuple pl (by simp only [TU]<;>omega) ⟨.int ys.length,H,I.tok _,⟨s.toks+1,by rw [TU,hlen]⟩,q⟩
theorem HK:CallR X (.builtin "len") (fun xs H Q=>∃ z,xs=[.str z]/\z.length<=TL/\Q (.int z.length) H):=by
 intro a3G s σ H xs us Q I r h
 obtain ⟨z,rfl,hz,q⟩:=h
 obtain ⟨u,rfl,t,rfl⟩:=eG r
 have hn:=jL
 exact len_str (by omega) ⟨.int z.length,H,I.tok _,⟨_,rfl⟩,q⟩
theorem CallR.or {f:Value}{r r':List V->Hp->VK->Prop}(h:CallR X f r)(h':CallR X f r'):CallR X f (fun xs H Q=>r xs H Q\/r' xs H Q):=by
 intro a3G s σ H xs us Q I rs q
 rcases q with q|q
 ·exact h a3G s σ H xs us Q I rs q
 ·exact h' a3G s σ H xs us Q I rs q
theorem call_list_of:CallR X (.type "list") (fun xs H Q=>∃ p ys,xs=[.ref p]/\(SqL X.K H p ys\/SqT X.K H p ys)/\∀ l,H l=none->Q (.ref l) (aH H l (.lst ys))):=by
 intro a3G s σ H xs us Q I r h
 obtain ⟨p,ys,rfl,hq,q⟩:=h
 obtain ⟨u,rfl,rx⟩:=eG r
 cases rx
 have fin:∀ (its:List Value),Vals ys its->ys.length<=TL->∀ (h':UE)(c':Nat),(∀ b o',s.heap.get? b=some o'->h'.get? b=some o')->
   h'.get? s.heap.objs.size=some { cls:=.type "list",dict:=none,data:=.seq its.toArray c',slots:=#[] }->EP X a3G σ Q (.ref s.heap.objs.size) { s with heap:=h' }:=fun its r' hz h' c' kp e=>
  ⟨.ref s.heap.objs.size,_,I.laid (t':=s.toks) kp (TK _) (show ObjOk X.prog X.w _ h' _ (.lst ys) from ⟨hz,its,c',r',e⟩),rfl,q _ (I.hok.fresh (TK _))⟩
 rcases hq with hq|hq
 ·obtain ⟨its,r',pl,hz⟩:=I.list hq
  have hlen:=r'.length
  obtain ⟨o,ho,hc,n,hd⟩:=pl.isList
  exact call_list_seq p (.inl rfl) ho hc hd (fun h' c' kp e=>fin its r' hz h' c' kp e) (by simp only [TU]<;>omega)
 ·obtain ⟨its,r',pl,hz⟩:=I.tuple hq
  have hlen:=r'.length
  obtain ⟨o,ho,hc,n,hd⟩:=pl
  exact call_list_seq p (.inr rfl) ho hc hd (fun h' c' kp e=>fin its r' hz h' c' kp e) (by simp only [TU]<;>omega)
theorem HL:CallR X (.type "tuple") (fun xs H Q=>∃ p ys,xs=[.ref p]/\((SqL X.K H p ys/\∀ l,H l=none->Q (.ref l) (aH H l (.tup ys)))\/(SqT X.K H p ys/\Q (.ref p) H))):=by
 intro a3G s σ H xs us Q I r h
 obtain ⟨p,ys,rfl,h⟩:=h
 obtain ⟨u,rfl,rx⟩:=eG r
 cases rx
 rcases h with ⟨hq,q⟩|⟨hq,q⟩
 ·obtain ⟨its,r',pl,hz⟩:=I.list hq
  have hlen:=r'.length
  refine call_tuple_list pl.isList (fun h' kp=>?_) (by simp only [TU]<;>omega)
  have I1:Inv X a3G σ H { s with heap:=h' }:=I.kept (t':=s.toks) kp
  have I2:Inv X a3G σ (aH H h'.objs.size (.tup ys)) { s with heap:=h'.push { cls:=.type "tuple",data:=.seq its.toArray } }:=
   I1.laid (t':=s.toks) (fun b o e=>Tu _ e) (TK _) (show ObjOk X.prog X.w _ _ _ (.tup ys) from ⟨hz,its,r',TupN.new _ _⟩)
  exact ⟨.ref h'.objs.size,_,I2,rfl,q _ (I1.hok.fresh (TK _))⟩
 ·obtain ⟨its,r',pl,hz⟩:=I.tuple hq
  exact call_tuple_same pl ⟨.ref p,H,I,rfl,q⟩
noncomputable def q0 (K:To)(T:String)(x:V)(H:Hp):Prop:=match x with
 | .str _=>T = "str"
 | .int _=>T = "int"
 | .ref p=>(T = "list"/\∃ xs,SqL K H p xs)\/(T = "tuple"/\∃ o,K.lookup p=some o/\o.cls=.type "tuple"/\o.dict=none) \/
   (T = "dict"/\((∃ kvs,H p=some (.dK kvs))\/∃ kvs,H p=some (.dT kvs)))\/(T = "set"/\∃ S n,H p=some (.set S n))
 | _=>False
theorem AN {a3G:List (Addr×Obj)}{σ:St}{H:Hp}{s:Tv}{T:String}{x:V}{v:Value}(I:Inv X a3G σ H s)(r:RelV x v)(ty:q0 X.K T x H) :
  s.TypeIs v T/\∀ a,v=.ref a->∃ ob,s.heap.get? a=some ob/\ob.dict=none:=by
 cases x with
 | str z=>
  obtain ⟨t,rfl⟩:=r
  cases (show T = "str" from ty)
  exact ⟨typeIs_str s z t,fun _ e=>nomatch e⟩
 | int i=>
  obtain ⟨t,rfl⟩:=r
  cases (show T = "int" from ty)
  exact ⟨a1V s i t,fun _ e=>nomatch e⟩
 | ref p=>
  cases r
  rcases ty with ⟨rfl,xs,hq⟩|⟨rfl,o,hk,hc,hd⟩|⟨rfl,hk⟩|⟨rfl,S,n,hk⟩
  ·obtain ⟨its,_,pl,_⟩:=I.list hq
   refine ⟨pl.isList.typeIs,fun a e=>?_⟩
   cases e
   obtain ⟨o,n,e,c,hd,_⟩:=pl
   exact ⟨o,e,hd⟩
  ·refine ⟨⟨o,I.kIn p o hk,hc⟩,fun a e=>?_⟩
   cases e
   exact ⟨o,I.kIn _ o hk,hd⟩
  ·have z:∃ o,s.heap.get? p=some o/\o.ExactDict:=by
    rcases hk with ⟨kvs,hk⟩|⟨kvs,hk⟩
    ·obtain ⟨_,_,_,_,o,_,_,e,ex,_⟩:=I.hok p _ hk
     exact ⟨o,e,ex⟩
    ·obtain ⟨_,_,_,_,o,_,_,e,ex,_⟩:=I.hok p _ hk
     exact ⟨o,e,ex⟩
   obtain ⟨o,e,ex⟩:=z
   refine ⟨⟨o,e,ex.1⟩,fun a e2=>?_⟩
   cases e2
   exact ⟨o,e,ex.2.1⟩
  ·obtain ⟨o,_,_,_,e,ex,_⟩:=I.hok p _ hk
   refine ⟨⟨o,e,ex.1⟩,fun a e2=>?_⟩
   cases e2
   exact ⟨o,e,ex.2.1⟩
 | _=>exact UC ty
noncomputable def AO (K:To)(T:String)(r:V->List V->Hp->VK->Prop)(to:TE):TE:=fun σ H Q=>to σ H fun x H1=>q0 K T x H1/\r x [] H1 Q
noncomputable def AQ (K:To)(T:String)(r:V->List V->Hp->VK->Prop)(to:TE)(t:TA):TE:=fun σ H Q=>to σ H fun x H1=>q0 K T x H1/\t σ H1 fun xs H2=>r x xs H2 Q
variable {o e:TJ}{es:List TJ}{to:TE}{t:TA}{name:Str}{apos cpos:Vk}{T id:String}{r:V->List V->Hp->VK->Prop}
theorem HM (pa:PlainAttrs T)(slot:Slot T name id)(hty:a3t (.builtin id)=pure (.type "method_descriptor")) (hm:MtR X id r)(ho:PE X o to)
  (hbase:WN o name X.env (eval o X.env)=eval o X.env:=by rfl)(hline:(apos.endLine == cpos.line)=true:=by rfl):PE X (.Call (.Attribute o name apos) [] [] cpos) (AO X.K T r to):=by
 intro a3G s σ H Q I h
 refine a0M hbase hline (aO (ho a3G s σ H _ I h) fun v s1 ⟨x,H1,I1,r1,ty,q1⟩=>?_)
 obtain ⟨h1,h2⟩:=AN I1 r1 ty
 exact ⟨T,id,pa,slot,hty,h1,h2,X4 rfl (a0u (hm a3G s1 σ H1 x [] v [] Q I1 r1 .nil q1))⟩
theorem HN (pa:PlainAttrs T)(slot:Slot T name id)(hty:a3t (.builtin id)=pure (.type "method_descriptor")) (hm:MtR X id r)(ho:PE X o to)(ha:PA X (e::es) t)
  (hbase:WN o name X.env (eval o X.env)=eval o X.env:=by rfl)
  (hfew:((VX cpos (Ul (e::es) X.env)).all (fun x=>!x.1)&&(a0h cpos (YI [] X.env)).all (fun x=>x.1.isSome)
   && decide ((e::es).length+([]:List WG).length+(if ([]:List WG).isEmpty then 0 else 1)<30))=true:=by rfl)
  (hline:(apos.endLine == cpos.line)=true:=by rfl)(hs:Ul (e::es) X.env=(false,eval e X.env)::Ul es X.env:=by rfl)(hplain:(VX cpos (Ul es X.env)).any (·.1)=false:=by rfl) :
  PE X (.Call (.Attribute o name apos) (e::es) [] cpos) (AQ X.K T r to t):=by
 intro a3G s σ H Q I h
 refine wpAny_Call_method_late hbase hfew hline rfl (aO (ho a3G s σ H _ I h) fun v s1 ⟨x,H1,I1,r1,ty,q1⟩=>?_)
 obtain ⟨h1,h2⟩:=AN I1 r1 ty
 refine ⟨T,id,pa,slot,hty,h1,h2,?_⟩
 have hA:=ha cpos a3G s1 σ H1 _ I1 q1
 rw [hs] at hA ⊢
 refine X4 (by show (false||(VX cpos (Ul es X.env)).any (·.1))=false;rw [hplain]<;>rfl) (a0s ?_)
 exact aO hA fun us s2 ⟨vs,H2,I2,r2,q2⟩=>hm a3G s2 σ H2 x vs v us Q I2 r1 r2 q2
end
end L2
namespace L2
open PySem PySem.Spec PyProof.Rows
noncomputable def jN (X:Cx)(id:String)(r:V->List V->Hp->VK->Prop):Prop:=
 ∀ (a3G:List (Addr×Obj))(s:Tv)(σ:St)(H:Hp)(x:V)(xs:List V)(v:Value)(us:List Value)(Q:VK),Inv X a3G σ H s->RelV x v->Vals xs us->r x xs H Q->
  TY (T7 X.prog X.w) X.A (call (.builtin id) (v::us)) (EP X a3G σ Q) X.xe s
theorem Vals.one:∀ {x:V}{us:List Value},Vals [x] us->∃ u,us=[u]/\RelV x u
 | _,_,.cons r .nil=>⟨_,rfl,r⟩
theorem Vals.zero:∀ {us:List Value},Vals [] us->us=[]
 | _,.nil=>rfl
theorem Vals.dropLast {xs:List V}{us:List Value}(h:Vals xs us):Vals xs.dropLast us.dropLast:=by
 induction h with
 | nil=>exact .nil
 | cons r t ih=>
  cases t with
  | nil=>exact .nil
  | cons q t'=>exact .cons r ih
theorem Vals.reverse {xs:List V}{us:List Value}(h:Vals xs us):Vals xs.reverse us.reverse:=by
 induction h with
 | nil=>exact .nil
 | cons r t ih=>rw [XR,XR];exact Vals.append ih (.cons r .nil)
theorem Vals.rep {xs:List V}{us:List Value}(h:Vals xs us):∀ k:Nat,Vals (Uh k xs).flatten (Uh k us).flatten
 | 0=>.nil
 | k+1=>by
  rw [VI,VI,Wg,Wg]
  exact Vals.append h (Vals.rep h k)
theorem HP {α:Type}(l:List α):l.eraseIdx (l.length - 1)=l.dropLast:=by
 induction l with
 | nil=>rfl
 | cons a r ih=>
  cases r with
  | nil=>rfl
  | cons b r=>
   have e:(a::b::r).length - 1=((b::r).length - 1)+1:=by
    have h1:(a::b::r).length=r.length+2:=rfl
    have h2:(b::r).length=r.length+1:=rfl
    omega
   rw [e,List.eraseIdx_cons_succ,ih]
   all_goals rfl
theorem AR (its:List Value):∀ (k:Nat)(acc:List Value),
  a0Y (fun x1 x2=>x1++x2) acc.toArray (Uh k its.toArray)=(acc++(Uh k its).flatten).toArray
 | 0,acc=>by simp
 | k+1,acc=>by
  have e:acc.toArray++its.toArray=(acc++its).toArray:=by simp
  have e2:(acc++its)++(Uh k its).flatten=acc++(Uh (k+1) its).flatten:=by
   rw [VI,Wg,a1u]
  rw [<- e2,<- AR its k (acc++its),<- e,VI,Zm]
section
variable {X:Cx}{a3G:List (Addr×Obj)}{σ:St}{H:Hp}{s:Tv}{l b:Addr}{xs ys zs:List V}
theorem Inv.lset {its its':List Value}{n:Nat}{f:Array Value->Array Value}{t':Nat}(I:Inv X a3G σ H s)(hH:H l=some (.lst xs))
  (e:s.heap.get? l=some { cls:=.type "list",data:=.seq its.toArray n }) (hf:f its.toArray=its'.toArray)(hv:Vals ys its')(hz:ys.length<=TL) :
  Inv X a3G σ (aH H l (.lst ys)) { s with heap:=s.heap.update l (Ve f),toks:=t' }:=by
 have q:=PySem.IsL.update e f
 rw [hf] at q
 refine I.write (x:=l) (e:=l) (by rw [hH];exact trivial) (.inl rfl) (fun b' u hb hu=>(UL s.heap (Ve f) (Va hb)).trans hu) ⟨_,q⟩ ?_
 exact ⟨hz,its',_,hv,q⟩
theorem Inv.lnew {its:List Value}{t':Nat}(I:Inv X a3G σ H s)(hv:Vals ys its)(hz:ys.length<=TL) :
  Inv X a3G σ (aH H s.heap.objs.size (.lst ys)) { s with heap:=s.heap.push { cls:=.type "list",data:=.seq its.toArray },toks:=t' }:=
 I.laid (fun _ _ q=>Tu _ q) (TK _) ⟨hz,its,0,hv,TZ _ rfl⟩
theorem Inv.fresh (I:Inv X a3G σ H s):H s.heap.objs.size=none:=I.hok.fresh (TK _)
theorem Inv.lstM (I:Inv X a3G σ H s)(hH:H l=some (.lst xs)):xs.length<=TL/\∃ (its:List Value)(n:Nat),Vals xs its/\xs.length=its.length/\s.heap.get? l=some { cls:=.type "list",data:=.seq its.toArray n }:=by
 obtain ⟨z,its,n,r,e⟩:=I.hok l _ hH
 exact ⟨z,its,n,r,r.length,e⟩
theorem AS {n:Nat}(h:n<=TL):Wj n=false:=by
 unfold Wj
 exact decide_eq_false (by omega)
end
section
variable {X:Cx}
noncomputable def AU:V->List V->Hp->VK->Prop:=fun x vs H Q=>∃ l xs y,x=.ref l/\vs=[y]/\H l=some (.lst xs)/\xs.length<TL/\Q .non (aH H l (.lst (xs++[y])))
theorem AV:jN X "list.append" AU:=by
 intro a3G s σ H x vs v us Q I rx rv h
 obtain ⟨l,xs,y,rfl,rfl,hH,hz,q⟩:=h
 cases rx
 obtain ⟨u,rfl,ru⟩:=rv.one
 obtain ⟨z,its,n,r,hl,e⟩:=I.lstM hH
 refine WC F.slot_list_append ⟨_,e,rfl⟩ F.entry_list_append (F.args_list_append_2 _ _) (PySem.list_append l its.toArray n u (by rw [TU];omega)) ⟨e,?_⟩
 refine ⟨.non,_,I.lset (its':=its++[u]) hH e (by simp) (r.append (.cons ru .nil)) ?_,rfl,q⟩
 rw [Ua,Yi]
 omega
noncomputable def AW:V->List V->Hp->VK->Prop:=fun x vs H Q=>∃ l b xs zs,x=.ref l/\vs=[.ref b]/\H l=some (.lst xs)/\H b=some (.lst zs)/\xs.length+zs.length<=TL/\Q .non (aH H l (.lst (xs++zs)))
theorem HQ:jN X "list.extend" AW:=by
 intro a3G s σ H x vs v us Q I rx rv h
 obtain ⟨l,b,xs,zs,rfl,rfl,hH,hB,hz,q⟩:=h
 cases rx
 obtain ⟨u,rfl,ru⟩:=rv.one
 cases ru
 obtain ⟨z,its,n,r,hl,e⟩:=I.lstM hH
 obtain ⟨z2,its2,n2,r2,hl2,e2⟩:=I.lstM hB
 have hsz:its.toArray.size+its2.toArray.size<=TL:=by rw [TU,TU];omega
 have hlong:¬ (!its.toArray.isEmpty&&Wj (its.toArray.size+its2.toArray.size))=true:=by
  rw [AS hsz,Bool.and_false]
  exact UN
 refine WC F.slot_list_extend ⟨_,e,rfl⟩ F.entry_list_extend (F.args_list_extend_2 _ _)
  (AutoSeq1.list_extend_list_list_0 l its.toArray n b its2.toArray n2 hlong (by rw [TU];omega) (by omega)) ⟨e,e2,?_⟩
 refine ⟨.non,_,I.lset (its':=its++its2) hH e (by simp) (r.append r2) ?_,rfl,q⟩
 rw [Ua]
 omega
noncomputable def AX:V->List V->Hp->VK->Prop:=fun x vs H Q=>∃ l xs y,x=.ref l/\vs=[]/\H l=some (.lst xs)/\xs[xs.length - 1]? = some y/\Q y (aH H l (.lst xs.dropLast))
theorem HR:jN X "list.pop" AX:=by
 intro a3G s σ H x vs v us Q I rx rv h
 obtain ⟨l,xs,y,rfl,rfl,hH,hy,q⟩:=h
 cases rx
 have hus:=rv.zero
 subst hus
 obtain ⟨z,its,n,r,hl,e⟩:=I.lstM hH
 obtain ⟨u,hu,ru⟩:=r.get hy
 have hy':its.toArray[its.toArray.size - 1]? = some u:=by
  show its.toArray[its.length - 1]? = some u
  rw [<- WZ,<- hl]
  exact hu
 refine WC F.slot_list_pop ⟨_,e,rfl⟩ F.entry_list_pop (F.args_list_pop_1 _) (MeetsSeq.list_pop_last l its.toArray n u hy' (by rw [TU];omega)) ⟨e,?_⟩
 refine ⟨y,_,I.lset (its':=its.dropLast) hH e ?_ r.dropLast ?_,ru,q⟩
 ·show its.toArray.eraseIdxIfInBounds (its.toArray.size - 1)=its.dropLast.toArray
  rw [TU,List.eraseIdxIfInBounds_toArray,HP]
 ·rw [List.length_dropLast]
  omega
noncomputable def AY:V->List V->Hp->VK->Prop:=fun x vs H Q=>∃ l xs,x=.ref l/\vs=[]/\H l=some (.lst xs)/\Q .non (aH H l (.lst xs.reverse))
theorem HS:jN X "list.reverse" AY:=by
 intro a3G s σ H x vs v us Q I rx rv h
 obtain ⟨l,xs,rfl,rfl,hH,q⟩:=h
 cases rx
 have hus:=rv.zero
 subst hus
 obtain ⟨z,its,n,r,hl,e⟩:=I.lstM hH
 refine WC F.slot_list_reverse ⟨_,e,rfl⟩ F.entry_list_reverse (F.args_list_reverse_1 _) (AutoSeq1.list_reverse_list_0 l its.toArray n (by rw [TU];omega)) ⟨e,?_⟩
 refine ⟨.non,_,I.lset (its':=its.reverse) hH e (by simp) r.reverse ?_,rfl,q⟩
 rw [List.length_reverse]
 omega
noncomputable def AZ:V->List V->Hp->VK->Prop:=fun x vs H Q=>∃ l xs,x=.ref l/\vs=[]/\H l=some (.lst xs)/\Q .non (aH H l (.lst []))
theorem HU:jN X "list.clear" AZ:=by
 intro a3G s σ H x vs v us Q I rx rv h
 obtain ⟨l,xs,rfl,rfl,hH,q⟩:=h
 cases rx
 have hus:=rv.zero
 subst hus
 obtain ⟨z,its,n,r,hl,e⟩:=I.lstM hH
 refine WC F.slot_list_clear ⟨_,e,rfl⟩ F.entry_list_clear (F.args_list_clear_1 _) (AutoSeq1.list_clear_list_0 l its.toArray n (by rw [TU];omega)) ⟨e,?_⟩
 exact ⟨.non,_,I.lset (its':=[]) (ys:=[]) hH e rfl .nil (UP _),rfl,q⟩
noncomputable def A1:R2:=fun x y H Q=>∃ l b xs zs,x=.ref l/\y=.ref b/\H l=some (.lst xs)/\H b=some (.lst zs)/\xs.length+zs.length<=TL/\∀ p,H p=none->Q (.ref p) (aH H p (.lst (xs++zs)))
theorem HV:OpR X (Wm .Add) A1:=by
 intro a3G s σ H x y v u Q I rx ry h
 obtain ⟨l,b,xs,zs,rfl,rfl,hH,hB,hz,q⟩:=h
 cases rx
 cases ry
 obtain ⟨z,its,n,r,hl,e⟩:=I.lstM hH
 obtain ⟨z2,its2,n2,r2,hl2,e2⟩:=I.lstM hB
 refine PySem.P.add_list e e2 ?_ (by rw [TU,TU];omega)
 have ea:its.toArray++its2.toArray=(its++its2).toArray:=by simp
 rw [ea]
 exact ⟨.ref _,_,I.lnew (t':=s.toks) (r.append r2) (by rw [Ua];omega),rfl,q _ I.fresh⟩
noncomputable def A2:R2:=fun x y H Q=>∃ l k xs,x=.ref l/\y=.int k/\H l=some (.lst xs)/\-(2 ^ 63)<=k/\k<2 ^ 63/\xs.length * k.toNat<=TL /\
 ∀ p,H p=none->Q (.ref p) (aH H p (.lst (Uh k.toNat xs).flatten))
theorem HW {α:Type}(xs:List α)(k:Nat):(Uh k xs).flatten.length=k * xs.length:=by
 induction k with
 | zero=>simp
 | succ k ih=>rw [VI,Wg,Ua,ih,Y0,a2I]
theorem HX:OpR X (Wm .Mult) A2:=by
 intro a3G s σ H x y v u Q I rx ry h
 obtain ⟨l,k,xs,rfl,rfl,hH,h1,h2,hz,q⟩:=h
 cases rx
 obtain ⟨t,rfl⟩:=ry
 obtain ⟨z,its,n,r,hl,e⟩:=I.lstM hH
 have hlen:its.toArray.size * k.toNat<=TL:=by rw [TU,<- hl];exact hz
 have hcap:¬ its.toArray.size * k.toNat>(2 ^ 63 - 1) / 8:=by
  have:(TL:Nat)<=(2 ^ 63 - 1) / 8:=by decide
  omega
 have hfit:¬ (!Builtin.List.listFitsIndex k)=true:=by
  rw [fitsIndex_both h1 h2]
  exact UN
 have hlong:¬ Wj (its.toArray.size * k.toNat)=true:=by
  rw [AS hlen]
  exact UN
 have hnew:a0Y (fun x1 x2=>x1++x2) #[] (Uh (if its.toArray.isEmpty=true then 0 else k.toNat) its.toArray)=(Uh k.toNat its).flatten.toArray:=by
  have f0:∀ m:Nat,a0Y (fun x1 x2=>x1++x2) #[] (Uh m its.toArray)=(Uh m its).flatten.toArray:=fun m=>by
   have:=AR its m []
   rw [Ut] at this
   exact this
  rw [f0]
  cases its with
  | nil=>simp
  | cons a r'=>rw [if_neg (by simp)]
 refine wpAny_binaryOp_repeat_ref (T:="list") (U:="int") (by decide) ⟨_,e,rfl⟩ (fun s'=>a1V s' k t) noFill_list_mul F.fills_int_mul F.slot_int_rmul repeat_list F.slot_int_index.lookup
  (WC F.slot_int_rmul (a1V s k t) F.entry_int_rmul (F.args_int_rmul_2 _ _) (int___rmul___int_list k t l its.toArray n)
   ⟨e,rfl,⟨_,e,rfl⟩,WC F.slot_list_mul ⟨_,e,rfl⟩ F.entry_list_mul (F.args_list_mul_2 _ _) (AutoListH.list___mul___list_int_3 l its.toArray n k t hfit hcap hlong) ⟨e,?_⟩⟩)
 rw [hnew]
 exact ⟨.ref _,_,I.lnew (t':=s.toks) (r.rep k.toNat) (by rw [HW,Nat.mul_comm];exact hz),rfl,q _ I.fresh⟩
end
section
variable {prog:Ub}{w:Up}{A:Ue}{E:Value->Tv->Prop}{s:Tv}
end
section
variable {X:Cx}
end
end L2
namespace Att
open PySem PySem.W PySem.Calls PyProof.Rows
theorem HY {P:Vo}{h:UE}:∀ (ns:List Int)(vs:List Value),WellAll P h vs (ns.map Xd)->Wh vs ns:=by
 intro ns
 induction ns with
 | nil=>
  intro vs w
  rw [X8] at w
  cases w
  exact .nil
 | cons n ns ih=>
  intro vs w
  rw [T4] at w
  cases w with
  | cons a b=>
   cases a
   exact .cons _ _ (ih _ b)
theorem script_of {l:OpenLaw}{n:Nat}(hn:l.most=some n){P:Vo}{h:UE}{args:List WData}{vals:List Value}
  (hpre:l.row.toRowW.claim.pre args=true)(hwl:WellAll P h vals args) :
  ∃ a vs ns,vals=[TM a]/\args=[WData.list (ns.map Xd)]/\h.get? a=some { cls:=.type "list",data:=.seq vs.toArray }/\Wh vs ns/\ns.length<=n:=by
 have hsh:WShape.hasAll [] args [.list .int]=true:=(pre_splitW hpre).1
 have hc:l.pre.holds [] { args:=args } = true:=(pre_splitW hpre).2
 obtain ⟨d,r,rfl,h1,h2⟩:=hasAllW_cons hsh
 obtain rfl:=hasAllW_nil h2
 obtain ⟨xs,rfl,h3⟩:=hasW_list h1
 obtain ⟨ns,rfl⟩:=items_int h3
 have hlen:ns.length<=n:=by
  unfold OpenLaw.pre at hc
  have h4:(WTm.not (.lt (.lit (.int (n:Int))) (.len (.arg 0)))).holds [] { args:=[.list (ns.map .int)] } = true:=by
   have h4:=(holds_andW hc).1
   rw [hn] at h4
   exact h4
  have h5:=condW_of h4 (w_not (w_lt w_lit (w_len_list (w_arg rfl))))
  rw [Tt] at h5
  refine a1L fun q=>?_
  have q':(n:Int)<((ns.length:Nat):Int):=by omega
  first
   | (rw [decide_eq_true q'] at h5;exact absurd h5 (by decide))
   | (simp at h5;omega)
 cases hwl with
 | cons w1 w2=>
  cases w2
  cases w1 with
  | list ho hall=>exact ⟨_,_,ns,rfl,rfl,ho,HY ns _ hall,hlen⟩
theorem post_true (l:OpenLaw)(args:List WData):l.row.toRowW.claim.post args (.bool true) args=true:=
 postW_of (r:=l.row.toRowW) (X:=(true == true))
  (show a2p [] (.bool true) .bool=true by first|rfl|decide|simp [a2p,WShape.arms,WShape.armsAll])
  (show (WTm.eq .res (.lit (.bool true))).value [] { args:=args,res:=some (.bool true),after:=args } = some (.bool (true == true)) from w_eq_bool (w_res rfl) w_lit) rfl
section
variable {prog:Ub}{w:Up}{A:Ue}{E:Value->Tv->Prop}{s:Tv}{K:Frag}
end
end Att
namespace L2
open PySem PySem.Spec PyProof.Rows
theorem uW:∀ {vs:List Value}{ns:List Int},Wh vs ns->Vals (ns.map V.int) vs
 | _,_,.nil=>.nil
 | _,_,.cons n t h=>.cons ⟨t,rfl⟩ (uW h)
noncomputable def A3 (H:Hp):Prop:=∀ b,H b=none\/∃ o xs,H b=some (.frz o (.lst xs))
theorem law_call {P:Ub}{w:Up}{K:To}{mg mb:Str->Option Value}{CX:fG}{k:Nat}{fa a:Addr}{fd:Vt}{x:Str}{sp:Sp}{s₁:Tv}{vs:List Value}{ns:List Int}
  (KX:K.In s₁.heap)(hns:s₁.heap.Ns Ux mg)(hb:s₁.heap.Ns a2b mb)(hbb:∀ x:Str,x ≠ "__name__"->mb x=Vl x) (hlim:s₁.heap.NoLimit)(hg:s₁.gens = #[])
  (ha:s₁.heap.get? a=some { cls:=.type "list",data:=.seq vs.toArray }) (hi:Wh vs ns)(hl:ns.length<=TL)(hr:Room k Zq)
  (F:∀ base:UE,K.In base->base.Ns Ux mg->FnOk P w K mg base CX k fa fd [x] sp)(hbind:∀ (s:Tv)(u:Value),Zz s fd ⟨[u],[]⟩ [(x,u)])
  (hsp:∀ H:Hp,A3 H->SqL K H a (ns.map V.int)->sp [.ref a] H (fun v _=>v=.bl true) fun _ _ _=>False)
  (hCX:∀ H e s',CX [] H s₁ (fun _ _ _=>False) e s'->False) :
  XQ (T7 P w) Zq (.call (.ref fa) ⟨[.ref a],[]⟩) (fun r s'=>r=.ok (.ret (.bool true))/\OldK s₁.heap s'.heap/\s'.os=s₁.os/\X9 s'.gens) s₁:=by
 have rv:=uW hi
 have lenV:=hi.length
  -- from an abstract heap in which nothing but the script may be tracked
 have core:∀ H:Hp,A3 H->SqL K H a (ns.map V.int)->HOk P w H s₁.heap->(∀ b,H b≠none->b=a)->(H a≠none->K.lookup a=none)->
   XQ (T7 P w) Zq (.call (.ref fa) ⟨[.ref a],[]⟩) (fun r s'=>r=.ok (.ret (.bool true))/\OldK s₁.heap s'.heap/\s'.os=s₁.os/\X9 s'.gens) s₁:=by
  intro H hO hS hok hA hK
  have lJ:∀ {b:Addr}{o:Obj},s₁.heap.get? b=some o->H b=none->(iP s₁.heap H).get? b=some o:=fun e n=>FF e n
  have noA:∀ {b:Addr}{o:Obj}{es:Array Vf}{ep:Nat},s₁.heap.get? b=some o->o.data=.dict es ep->H b=none:=fun {b o es ep} e d=>by
   cases q:H b with
   | none=>rfl
   | some u=>
    have e':b=a:=hA b (by rw [q];simp)
    subst e'
    rw [ha] at e;cases e
    have d':a0B vs.toArray _=Uj es ep:=d
    cases d'
  have nsK:∀ {b:Addr}{m:Str->Option Value},s₁.heap.Ns b m->(iP s₁.heap H).Ns b m:=fun {b m} ⟨o,es,ep,e,d,r⟩=>⟨o,es,ep,lJ e (noA e d),d,r⟩
  have hKb:K.In (iP s₁.heap H):=fun b o e=>lJ (KX b o e) (by
   cases q:H b with
   | none=>rfl
   | some u=>
    have e':b=a:=hA b (by rw [q];simp)
    subst e'
    rw [hK (by rw [q];simp)] at e;cases e)
  have hM:Mod K mg (iP s₁.heap H):=⟨hKb,nsK hns,⟨mb,nsK hb,hbb⟩,let ⟨mc,h1,h2⟩:=hlim;⟨mc,nsK h1,h2⟩⟩
  have e0:Env0 P w K mg (iP s₁.heap H) Zq [] s₁ H:=⟨rfl,hM,fun b o e=>FG e,Ye (FE _ _),trivial,fun b hb=>absurd (show b∈([]:List Addr) from hb) (by simp),hok,.of_eq hg⟩
  refine XN ((F _ hKb (nsK hns)).run Zq [] s₁ H ⟨[.ref a],[]⟩ [.ref a] [.ref a] _ _ hr e0 (hbind s₁ (.ref a)) (.cons rfl .nil) (hsp H hO hS)) fun r s' h=>?_
  cases r with
  | error e=>exact (hCX H e s' h).elim
  | ok fl=>
   cases fl with
   | next=>exact UC h
   | brk=>exact UC h
   | cont=>exact UC h
   | ret u=>
    obtain ⟨v,H',os,bare,un,hok',r',q⟩:=h
    have q':v=.bl true:=q
    subst q'
    obtain rfl:u=T5 true:=r'
    refine ⟨rfl,OldK.of_keep fun b o e=>?_,os,bare⟩
    cases q:H b with
    | none=>exact un.keep b o e q (by intro z;exact absurd (show b∈([]:List Addr) from z) (by simp)) (by simp)
    | some u=>
     rcases hO b with z|⟨ob,xs,z⟩
     ·rw [q] at z;cases z
     ·have z2:=un.frzs b ob _ z
      obtain ⟨e1,_⟩:=hok b _ z
      obtain ⟨e2,_⟩:=hok' b _ z2
      rw [e] at e1;cases e1
      exact e2
 cases hk:K.lookup a with
 | some o=>
    -- the script is one of the module's own objects
  have e:=KX a o hk
  rw [ha] at e
  cases e
  refine core (fun _=>none) (fun _=>.inl rfl) (.inr ⟨_,vs.toArray,_,hk,rfl,rfl,rfl,by rw [TU,lenV];exact hl,by simpa using rv⟩) (fun b u z=>by have z':(none:Option HO)=some u:=z;cases z') (fun b z=>absurd rfl z) fun z=>absurd rfl z
 | none=>
  refine core (fun b=>if b=a then some (.frz { cls:=.type "list",data:=.seq vs.toArray } (.lst (ns.map V.int))) else none) (fun b=>?_) (.inl (.inr ⟨{ cls:=.type "list",data:=.seq vs.toArray },if_pos rfl⟩)) (fun b u z=>?_) (fun b z=>?_) fun _=>hk
  ·by_cases hb:b=a
   ·exact .inr ⟨_,_,if_pos hb⟩
   ·exact .inl (if_neg hb)
  ·by_cases hb:b=a
   ·have z':=(if_pos hb).symm.trans z
    cases z'
    subst hb
    exact ⟨ha,by rw [Tt];exact hl,vs,_,rv,ha⟩
   ·have z':=(if_neg hb).symm.trans z
    cases z'
  ·by_cases hb:b=a
   ·exact hb
   ·exact absurd (if_neg hb) z
end L2
namespace L2
open PySem PySem.Spec PyProof.Rows
end L2
namespace L2
open PySem PySem.Spec PyProof.Rows
noncomputable def dO (s:Stmt):Arguments:=match s with
 | .FunctionDef _ a _ _ _ _ _ _ _ _=>a
 | _=>{ posonlyargs:=[],args:=[],vararg:=none,kwonlyargs:=[],kw_defaults:=[],kwarg:=none,defaults:=[] }
noncomputable def bT (s:Stmt):List Stmt:=match s with
 | .FunctionDef _ _ b _ _ _ _ _ _ _=>b
 | _=>[]
noncomputable def bF (s:Stmt):V5:=match s with
 | .FunctionDef _ _ _ _ _ _ sc _ _ _=>sc
 | _=>{ kind:=.function,names:=[],isGenerator:=false,isCoroutine:=false }
noncomputable abbrev dY:fG:=fun _ _ _ _ _ _=>False
noncomputable abbrev E0:XK:=fun _ _ _=>False
theorem A4 {X:Cx}:qY dY X E0:=fun _ _ _ _ _ _ _ h=>h.elim
structure Fun (K:To)(x qual:Str)(st:Stmt)(f:Addr)(fd:Vt):Prop where
 ex:∃ (oc:Value)(od:Option Addr)(kV doc pm:Value)(an:Option Addr)(cdv ct:Value)(osl:Array (Option Value)),
  fd=US x qual (dO st) (bT st) (bF st) .none kV doc pm an cdv ct/\K.lookup f=some ⟨oc,od,.func fd,osl⟩/\Xs K cdv qual=true
 kp:UO K (.ref f)=true
section
variable {P:Ub}{w:Up}{K:To}{mg:Str->Option Value}{base:UE}
theorem Fun.ok {x qual:Str}{st:Stmt}{f:Addr}{fd:Vt}{N ps:List Str}{k:Nat}{sp:Sp}(F:Fun K x qual st f fd)(S:FnScope N ps (bF st))(len:∀ vs H Q E,sp vs H Q E->vs.length=ps.length)
  (hbody:∀ (cdv:Value)(A:Ue)(outer:List X2)(s:Tv)(H:Hp)(vs:List V)(Q:VK)(E:XK),Room k (A.deeper (envOfC qual (bF st) s.heap.objs.size f cdv))->sp vs H Q E->
   ∃ t,PSs (dH dY P w K mg base N qual (bF st) f cdv A outer s H E).nox (bT st) t/\t { nx:=fun _ H'=>Q .non H',rt:=Q } (start N vs) H):FnOk P w K mg base dY (k+1) f fd ps sp:=by
 obtain ⟨oc,od,kV,doc,pm,an,cdv,ct,osl,rfl,lk,hcd⟩:=F.ex
 refine uR lk hcd S len fun A outer s H vs Q E hr hsp=>?_
 obtain ⟨t,h,q⟩:=hbody cdv A outer s H vs Q E hr hsp
 exact ⟨t,h.nox,q⟩
theorem Fun.binds {x qual:Str}{st:Stmt}{f:Addr}{fd:Vt}{ps:List Str}(F:Fun K x qual st f fd)
  (h:∀ (kV doc pm:Value)(an:Option Addr)(cdv ct:Value)(us:List Value),us.length=ps.length->Zr (US x qual (dO st) (bT st) (bF st) .none kV doc pm an cdv ct) ⟨us,[]⟩=pure (ps.zip us)):Binds K fd ps []:=by
 obtain ⟨oc,od,kV,doc,pm,an,cdv,ct,osl,rfl,lk,hcd⟩:=F.ex
 exact .all (h kV doc pm an cdv ct)
theorem A5 {x qual:Str}{st:Stmt}{f:Addr}{oc:Value}{od an:Option Addr}{osl:Array (Option Value)}{kV doc pm cdv ct:Value}(l:K.lookup f=some ⟨oc,od,.func (US x qual (dO st) (bT st) (bF st) .none kV doc pm an cdv ct),osl⟩)
  (c:Xs K cdv qual=true)(k:UO K (.ref f)=true):Fun K x qual st f (US x qual (dO st) (bT st) (bF st) .none kV doc pm an cdv ct):=⟨⟨oc,od,kV,doc,pm,an,cdv,ct,osl,rfl,l,c⟩,k⟩
end
theorem HZ {A:Ue}{k:Nat}(hr:Room k A):A.units+1<Vm:=Nat.lt_of_le_of_lt (Nat.add_le_add_left (by decide:1<=64) _) hr.units
section
variable {X:Cx}
end
theorem jO {A B:Prop}(h:B):if false=true then A else B:=by
 rw [if_neg UN]
 exact h
theorem jP {A B:Prop}(h:A):if true=true then A else B:=by
 rw [if_pos rfl]
 exact h
noncomputable def Same (H H':Hp):Prop:=∀ b o,H b=some o->H' b=some o
theorem Same.trans {H H1 H2:Hp}(a:Same H H1)(b:Same H1 H2):Same H H2:=fun c o h=>b c o (a c o h)
theorem Same.free {H H':Hp}(e:Same H H'){l:Addr}(h:H' l=a2d):H l=a2d:=by
 cases q:H l with
 | none=>rfl
 | some o=>
  rw [e l o q] at h
  cases h
theorem Same.seq {K:To}{H H':Hp}{a:Addr}{xs:List V}(e:Same H H')(h:SqL K H a xs):SqL K H' a xs:=by
 rcases h with (h|⟨o,h⟩)|h
 ·exact .inl (.inl (e _ _ h))
 ·exact .inl (.inr ⟨o,e _ _ h⟩)
 ·exact .inr h
section
variable {κ:Type} [DecidableEq κ]
end
end L2
namespace L3
open PySem PySem.W
theorem left_cut {p q:Ub}{loose:List Str}{Xt:Tv → Bool}{α:Type}{Yf:Tv → α}{Ya:Up → α}{N:Nat}{g0:Bool}{hA hB hC:Vo → UE}{kA kB kC m₀:Nat}{ann:Option Value}{nA n0 n1 n2 n3:Nat}{env:X2}{qp pA pA' pB pC:Vk}{i1 i2:Nat}
  (open_:∀ w:Up,(fencedOpening VY p w N).map (fun s=>(s.heap,s.gens,s.drawn,s.toks))=some (WY w.params,U1 [],Vg,ZL))
  (size:∀ w:Up,((WY w.params).isNs Ux,(WY w.params).objs.size,(WY w.params).nsMap Ux "__annotations__")=(true,m₀,ann))
  (pre:∀ (w:Up)(os:Yx),topGo VY p w m₀ ann nA ⟨WY w.params,U1 [],Vg,ZL,os⟩ (topStub p)=some (⟨hA w.params,U1 [],Vg,kA,os⟩,⟨denote VY (.body (Uk p) env),.body (Uk p) env,pA,[XW qp]⟩))
  (blk:∀ (w:Up)(os:Yx),a1e VY p w m₀ ann 1 n0 ⟨hA w.params,U1 [],Vg,kA,os⟩ (blockOf (Uk p) env (.body (Uk p) env) pA [XW qp])=some (.next,⟨hA w.params,U1 [],Vg,kA,os⟩,.body (Uk p) env,pA'))
  (s1:∀ (w:Up)(os:Yx),a1e VY p w m₀ ann 1 n1 ⟨hA w.params,U1 [],Vg,kA,os⟩ (a1J ((Uk p).take i1) env (.body (Uk p) env) pA' [XW qp])=some (.next,⟨hB w.params,U1 [],Vg,kB,os⟩,.body (Uk p) env,pB))
  (s2:∀ (w:Up)(os:Yx),a1e VY p w m₀ ann 1 n2 ⟨hB w.params,U1 [],Vg,kB,os⟩ (a1J (((Uk p).drop i1).take i2) env (.body (Uk p) env) pB [XW qp])=some (.next,⟨hC w.params,U1 [],Vg,kC,os⟩,.body (Uk p) env,pC))
  (fin:∀ (w:Up)(os:Yx),((topRun VY p w m₀ ann n3 ⟨hC w.params,U1 [],Vg,kC,os⟩ (restOf (((Uk p).drop i1).drop i2) env (.body (Uk p) env) pC [XW qp])).bind fun s₁=>match staticsOk (a2U p.main.body) (WY w.params) s₁.heap&&namesBound p s₁.heap&&gensDone s₁&&laidKept (WY w.params) s₁.heap with
   | true=>some s₁
   | false=>none).map (fun s=>(openSeen q loose (a2U p.main.body) Xt g0 s,Yf s))=some (openGood q loose,Ya w))
  (le:Nat.ble (nA+(n0+(n1+(n2+n3)))) N=true):LeftO p q loose Xt Yf Ya N g0:=fun w=>by
 obtain ⟨⟨h,gs,d,k,os⟩,e,e'⟩:=Tq.mp (open_ w)
 obtain ⟨rfl,rfl,rfl,rfl⟩:h=WY w.params ∧ gs=U1 [] ∧ d=Vg ∧ k=ZL:=by simpa using e'
 obtain ⟨z1,z2,z3⟩:_ ∧ _ ∧ _:=by simpa only [Prod.mk.injEq] using size w
 obtain ⟨s,hs,hv⟩:=Tq.mp (fin w os)
 obtain ⟨s₁,h1,h2⟩:=Tj.mp hs
 have r2:=piece_app (s2 w os) h1
 rw [W0] at r2
 have r1:=piece_app (s1 w os) r2
 rw [W0] at r1
 have r0:=go_top (pre w os) (piece_block (blk w os) r1)
 have r:=topRun_mono (N - (nA+(n0+(n1+(n2+n3))))) _ _ _ _ r0
 rw [show nA+(n0+(n1+(n2+n3)))+(N - (nA+(n0+(n1+(n2+n3)))))=N by have:=Nat.le_of_ble_eq_true le;omega] at r
 have t:topFrom VY p w N ⟨WY w.params,U1 [],Vg,ZL,os⟩=some s:=by
  unfold topFrom
  dsimp only
  rw [z1,z2,z3,r]
  exact h2
 unfold openEnds
 rw [e]
 show (topFrom VY p w N _).map _=_
 rw [t]
 exact congrArg some hv
end L3
namespace Lw
open PySem L2
noncomputable def aL (i:Nat):Stmt:=UT.main.body.getD i (.Pass ⟨0,0,0,0⟩)
noncomputable def Vw:Ub:={ UT with main:={ UT.main with body:=aL 1::aL 2::aL 3::aL 4::aL 5::aL 6::aL 7::aL 8::aL 9::aL 10::aL 11::aL 12::aL 13::aL 14::aL 16::aL 17::aL 18::aL 19::aL 20::aL 21::aL 22::aL 23::aL 24::aL 25::aL 26::aL 27::aL 28::aL 30::aL 31::aL 32::aL 33::aL 34::aL 35::aL 37::aL 39::aL 40::aL 41::aL 42::aL 44::aL 45::aL 46::aL 47::aL 48::aL 50::aL 52::aL 53::aL 54::aL 55::aL 56::aL 57::aL 58::aL 59::aL 60::aL 61::aL 62::aL 63::aL 64::aL 65::aL 66::[] } }
noncomputable abbrev vS (x:String)(n:Nat):Value:=YV (TN x) n
noncomputable abbrev vI (i:Int):Value:=TX i 0
noncomputable abbrev vR (a:Addr):Value:=TM a
noncomputable abbrev vN:Value:=Uw
noncomputable abbrev cO (fs:Array Value):Obj:={ cls:=Tn "code",data:=TR fs }
noncomputable abbrev kO (x y:String)(a b c:Nat)(l n i j k:Int)(r:Addr)(q:Int)(vs:Array Value)(t l2:Int)(e:Nat):Obj:={ cls:=Tn "code",data:=TR (#[vS x a,vS x b,vS y c,vI l,vI n,vI i,vI j,vI k,vR r,T5 true,vI q]++vs++#[vI t,vI l2,vS y e]) }
noncomputable abbrev tO (fs:Array Value):Obj:={ cls:=Tn "tuple",data:=a0B fs }
noncomputable abbrev fO (x:Str)(n:Nat)(m:Value)(c:Addr):Obj:=⟨Tn "function",none,.func (US x x (dO (aL n)) (bT (aL n)) (bF (aL n)) Uw Uw Uw m none (TM c) Uw),#[]⟩
noncomputable abbrev eO (P:Vo)(x:String)(n:Nat)(v:Value):Vf:={ hash:=PyData.keyHash P (TN x),key:=YV (TN x) n,val:=v }
noncomputable abbrev eR (P:Vo)(x:String)(n:Nat)(a:Addr):Vf:=eO P x n (vR a)
noncomputable abbrev kA (p:Addr×Obj)(R:To):To:=p::R
noncomputable abbrev vM (n:Nat):Value:=[vS "creasecourt.places" 442,vS "creasecourt.sheets" 563,vS "creasecourt.wedges" 605,vS "creasecourt.corners" 613,vS "creasecourt.layings" 643,vS "creasecourt.laid" 686,vS "law_creasecourt_k46_barred_refused" 702].getD n vN
noncomputable abbrev kF (x:String)(r a:Nat)(l n:Int)(t i:Nat)(m:Value)(R:To):To:=(r+5,kO x "/claim/cut.py" a (a+1) (a+2) l n 0 0 3 r 181 #[vR (r+1),vN,vR (r+2),vR (r+3),vR (r+4)] t l (t+1))::(r+6,fO x i m (r+5))::R
noncomputable abbrev kG (x:String)(r a:Nat)(l n:Int)(t i:Nat)(m:Value)(R:To):To:=(r+3,kO x "/claim/cut.py" a (a+1) (a+2) l n 0 0 3 r 181 #[vR (r+1),vN,vN,vN,vR (r+2)] t l (t+1))::(r+4,fO x i m (r+3))::R
noncomputable def bR (i j:Nat):Stmt:=match aL i with|.ClassDef _ _ _ b _ _ _ _ _ _ _=>b.getD j (.Pass ⟨0,0,0,0⟩)|_=>.Pass ⟨0,0,0,0⟩
noncomputable def Kx:Vo → To:=fun P=>kA (3,{ cls:=Tn "dict",data:=Uj #[eO P "__name__" 165 (vS "law_creasecourt_k46_barred_refused" 702),eO P "__doc__" 166 vN,eO P "__package__" 167 vN,eO P "__loader__" 168 (TH "__main__.__loader__#opaque"),eO P "__spec__" 169 vN,eR P "__annotations__" 170 6,eR P "__builtins__" 171 4,eO P "__file__" 173 (vS "/claim/cut.py" 172),eO P "__cached__" 174 vN,eR P "CreaseError" 206 24,eR P "NoSize" 222 37,eR P "NoMark" 238 49,eR P "NoText" 254 61,eR P "NoRound" 270 73,eR P "NoOrder" 286 85,eR P "TooMany" 302 97,eR P "NoFold" 318 109,eR P "NoRow" 334 121,eR P "NoName" 350 133,eR P "Taken" 366 145,eR P "NoEdge" 391 164,eR P "Twice" 416 183,eR P "Barred" 441 202,eR P "EIGHT_EDGES" 466 213,eR P "FOUR_EDGES" 479 218,eR P "is_whole" 486 225,eR P "is_corner" 493 232,eR P "is_edge" 500 239,eR P "is_quarter" 507 246,eR P "line_of" 514 253,eR P "beside" 523 260,eR P "edges_of" 529 265,eR P "moved_by" 535 270,eR P "edges_round" 542 277,eR P "number_by" 550 284,eR P "mirrored" 562 291,eR P "is_within" 573 298,eR P "places_within" 579 303,eR P "quarters_in" 585 308,eR P "corners_in" 591 313,eR P "neighbours_in" 597 318,eR P "marks_in" 604 325,eR P "is_good" 612 330,eR P "creases_at" 620 335,eR P "gaps_at" 626 340,eR P "barred" 634 347,eR P "check_corners" 642 354,eR P "STILL" 651 355,eR P "laying_by" 660 362,eR P "mirror_in" 667 369,eR P "led" 677 376,eR P "then" 685 383,eR P "laid" 701 390,eR P "_law_cell" 712 397,eR P "_law_inner" 723 404,eR P "_law_line" 732 411,eR P "_law_beside" 741 418,eR P "_law_quarters" 752 425,eR P "_law_led" 766 432,eR P "_law_over" 782 439,eR P "_law_value" 790 446,eR P "_law_grown" 806 453,eR P "_law_by_lines" 818 460,eR P "_law_creased" 824 465,eR P "_law_sheet" 839 472,eR P "_law_others" 847 479,eR P "_law_refused" 856 486,eR P "law" 867 493] 68 }) <|
 kA (2,{ cls:=vN,data:=Uj #[] }) <|
 kA (22,tO #[]) <|
 kA (23,{ cls:=Tn "dict",data:=Uj #[eO P "__module__" 196 (vS "creasecourt.errors" 187),eO P "__firstlineno__" 200 (TX 2 199),eR P "__static_attributes__" 201 22,eR P "__weakref__" 203 25,eO P "__doc__" 204 vN] 3 }) <|
 kA (24,{ cls:=Tn "type",data:=U8 { name:=TN "CreaseError",bases:=[Tn "ValueError"],mro:=[vR 24,Tn "ValueError",Tn "Exception",Tn "BaseException",Tn "object"],ns:=23,qualname:=TN "CreaseError",subclasses:=[vR 37,vR 49,vR 61,vR 73,vR 85,vR 97,vR 109,vR 121,vR 133,vR 145,vR 164,vR 183,vR 202] },slots:=#[some (vR 15),none,some (vS "CreaseError" 189),some (vS "CreaseError" 197),some (TH "ValueError.__new__"),some (T5 true)] }) <|
 kA (25,{ cls:=Tn "getset_descriptor",data:=TR #[vS "__weakref__" 202,vR 24,TH "ExceptionGroup.__weakref__",vN] }) <|
 kA (35,tO #[]) <|
 kA (36,{ cls:=Tn "dict",data:=Uj #[eO P "__module__" 214 (vS "creasecourt.errors" 187),eO P "__firstlineno__" 218 (TX 4 217),eR P "__static_attributes__" 219 35,eO P "__doc__" 220 vN] 2 }) <|
 kA (37,{ cls:=Tn "type",data:=U8 { name:=TN "NoSize",bases:=[vR 24],mro:=[vR 37,vR 24,Tn "ValueError",Tn "Exception",Tn "BaseException",Tn "object"],ns:=36,qualname:=TN "NoSize" },slots:=#[some (vR 28),none,some (vS "NoSize" 207),some (vS "NoSize" 215),some (TH "ValueError.__new__"),some (T5 true)] }) <|
 kA (47,tO #[]) <|
 kA (48,{ cls:=Tn "dict",data:=Uj #[eO P "__module__" 230 (vS "creasecourt.errors" 187),eO P "__firstlineno__" 234 (TX 6 233),eR P "__static_attributes__" 235 47,eO P "__doc__" 236 vN] 2 }) <|
 kA (49,{ cls:=Tn "type",data:=U8 { name:=TN "NoMark",bases:=[vR 24],mro:=[vR 49,vR 24,Tn "ValueError",Tn "Exception",Tn "BaseException",Tn "object"],ns:=48,qualname:=TN "NoMark" },slots:=#[some (vR 40),none,some (vS "NoMark" 223),some (vS "NoMark" 231),some (TH "ValueError.__new__"),some (T5 true)] }) <|
 kA (59,tO #[]) <|
 kA (60,{ cls:=Tn "dict",data:=Uj #[eO P "__module__" 246 (vS "creasecourt.errors" 187),eO P "__firstlineno__" 250 (TX 8 249),eR P "__static_attributes__" 251 59,eO P "__doc__" 252 vN] 2 }) <|
 kA (61,{ cls:=Tn "type",data:=U8 { name:=TN "NoText",bases:=[vR 24],mro:=[vR 61,vR 24,Tn "ValueError",Tn "Exception",Tn "BaseException",Tn "object"],ns:=60,qualname:=TN "NoText" },slots:=#[some (vR 52),none,some (vS "NoText" 239),some (vS "NoText" 247),some (TH "ValueError.__new__"),some (T5 true)] }) <|
 kA (71,tO #[]) <|
 kA (72,{ cls:=Tn "dict",data:=Uj #[eO P "__module__" 262 (vS "creasecourt.errors" 187),eO P "__firstlineno__" 266 (TX 10 265),eR P "__static_attributes__" 267 71,eO P "__doc__" 268 vN] 2 }) <|
 kA (73,{ cls:=Tn "type",data:=U8 { name:=TN "NoRound",bases:=[vR 24],mro:=[vR 73,vR 24,Tn "ValueError",Tn "Exception",Tn "BaseException",Tn "object"],ns:=72,qualname:=TN "NoRound" },slots:=#[some (vR 64),none,some (vS "NoRound" 255),some (vS "NoRound" 263),some (TH "ValueError.__new__"),some (T5 true)] }) <|
 kA (83,tO #[]) <|
 kA (84,{ cls:=Tn "dict",data:=Uj #[eO P "__module__" 278 (vS "creasecourt.errors" 187),eO P "__firstlineno__" 282 (TX 12 281),eR P "__static_attributes__" 283 83,eO P "__doc__" 284 vN] 2 }) <|
 kA (85,{ cls:=Tn "type",data:=U8 { name:=TN "NoOrder",bases:=[vR 24],mro:=[vR 85,vR 24,Tn "ValueError",Tn "Exception",Tn "BaseException",Tn "object"],ns:=84,qualname:=TN "NoOrder" },slots:=#[some (vR 76),none,some (vS "NoOrder" 271),some (vS "NoOrder" 279),some (TH "ValueError.__new__"),some (T5 true)] }) <|
 kA (95,tO #[]) <|
 kA (96,{ cls:=Tn "dict",data:=Uj #[eO P "__module__" 294 (vS "creasecourt.errors" 187),eO P "__firstlineno__" 298 (TX 14 297),eR P "__static_attributes__" 299 95,eO P "__doc__" 300 vN] 2 }) <|
 kA (97,{ cls:=Tn "type",data:=U8 { name:=TN "TooMany",bases:=[vR 24],mro:=[vR 97,vR 24,Tn "ValueError",Tn "Exception",Tn "BaseException",Tn "object"],ns:=96,qualname:=TN "TooMany" },slots:=#[some (vR 88),none,some (vS "TooMany" 287),some (vS "TooMany" 295),some (TH "ValueError.__new__"),some (T5 true)] }) <|
 kA (107,tO #[]) <|
 kA (108,{ cls:=Tn "dict",data:=Uj #[eO P "__module__" 310 (vS "creasecourt.errors" 187),eO P "__firstlineno__" 314 (TX 16 313),eR P "__static_attributes__" 315 107,eO P "__doc__" 316 vN] 2 }) <|
 kA (109,{ cls:=Tn "type",data:=U8 { name:=TN "NoFold",bases:=[vR 24],mro:=[vR 109,vR 24,Tn "ValueError",Tn "Exception",Tn "BaseException",Tn "object"],ns:=108,qualname:=TN "NoFold" },slots:=#[some (vR 100),none,some (vS "NoFold" 303),some (vS "NoFold" 311),some (TH "ValueError.__new__"),some (T5 true)] }) <|
 kA (119,tO #[]) <|
 kA (120,{ cls:=Tn "dict",data:=Uj #[eO P "__module__" 326 (vS "creasecourt.errors" 187),eO P "__firstlineno__" 330 (TX 18 329),eR P "__static_attributes__" 331 119,eO P "__doc__" 332 vN] 2 }) <|
 kA (121,{ cls:=Tn "type",data:=U8 { name:=TN "NoRow",bases:=[vR 24],mro:=[vR 121,vR 24,Tn "ValueError",Tn "Exception",Tn "BaseException",Tn "object"],ns:=120,qualname:=TN "NoRow" },slots:=#[some (vR 112),none,some (vS "NoRow" 319),some (vS "NoRow" 327),some (TH "ValueError.__new__"),some (T5 true)] }) <|
 kA (131,tO #[]) <|
 kA (132,{ cls:=Tn "dict",data:=Uj #[eO P "__module__" 342 (vS "creasecourt.errors" 187),eO P "__firstlineno__" 346 (TX 20 345),eR P "__static_attributes__" 347 131,eO P "__doc__" 348 vN] 2 }) <|
 kA (133,{ cls:=Tn "type",data:=U8 { name:=TN "NoName",bases:=[vR 24],mro:=[vR 133,vR 24,Tn "ValueError",Tn "Exception",Tn "BaseException",Tn "object"],ns:=132,qualname:=TN "NoName" },slots:=#[some (vR 124),none,some (vS "NoName" 335),some (vS "NoName" 343),some (TH "ValueError.__new__"),some (T5 true)] }) <|
 kA (143,tO #[]) <|
 kA (144,{ cls:=Tn "dict",data:=Uj #[eO P "__module__" 358 (vS "creasecourt.errors" 187),eO P "__firstlineno__" 362 (TX 22 361),eR P "__static_attributes__" 363 143,eO P "__doc__" 364 vN] 2 }) <|
 kA (145,{ cls:=Tn "type",data:=U8 { name:=TN "Taken",bases:=[vR 24],mro:=[vR 145,vR 24,Tn "ValueError",Tn "Exception",Tn "BaseException",Tn "object"],ns:=144,qualname:=TN "Taken" },slots:=#[some (vR 136),none,some (vS "Taken" 351),some (vS "Taken" 359),some (TH "ValueError.__new__"),some (T5 true)] }) <|
 kA (160,cO #[vS "__init__" 379,vS "NoEdge.__init__" 380,vS "/claim/cut.py" 381,vI 26,vI 2,vI 0,vI 0,vI 3,vR 155,T5 true,vI 181,vR 156,vN,vR 157,vR 158,vR 159,vI 384,vI 26,vS "/claim/cut.py" 385]) <|
 kA (161,⟨Tn "function",none,.func (US "__init__" "NoEdge.__init__" (dO (bR 12 0)) (bT (bR 12 0)) (bF (bR 12 0)) vN vN vN (vS "creasecourt.errors" 187) (none) (vR 160) vN),#[]⟩) <|
 kA (162,tO #[vS "edge" 387]) <|
 kA (163,{ cls:=Tn "dict",data:=Uj #[eO P "__module__" 374 (vS "creasecourt.errors" 187),eO P "__firstlineno__" 378 (TX 24 377),eR P "__init__" 386 161,eR P "__static_attributes__" 388 162,eO P "__doc__" 389 vN] 2 }) <|
 kA (164,{ cls:=Tn "type",data:=U8 { name:=TN "NoEdge",bases:=[vR 24],mro:=[vR 164,vR 24,Tn "ValueError",Tn "Exception",Tn "BaseException",Tn "object"],ns:=163,qualname:=TN "NoEdge" },slots:=#[some (vR 148),none,some (vS "NoEdge" 367),some (vS "NoEdge" 375),some (TH "ValueError.__new__"),some (T5 true)] }) <|
 kA (179,cO #[vS "__init__" 404,vS "Twice.__init__" 405,vS "/claim/cut.py" 406,vI 31,vI 2,vI 0,vI 0,vI 3,vR 174,T5 true,vI 181,vR 175,vN,vR 176,vR 177,vR 178,vI 409,vI 31,vS "/claim/cut.py" 410]) <|
 kA (180,⟨Tn "function",none,.func (US "__init__" "Twice.__init__" (dO (bR 13 0)) (bT (bR 13 0)) (bF (bR 13 0)) vN vN vN (vS "creasecourt.errors" 187) (none) (vR 179) vN),#[]⟩) <|
 kA (181,tO #[vS "edge" 412]) <|
 kA (182,{ cls:=Tn "dict",data:=Uj #[eO P "__module__" 399 (vS "creasecourt.errors" 187),eO P "__firstlineno__" 403 (TX 29 402),eR P "__init__" 411 180,eR P "__static_attributes__" 413 181,eO P "__doc__" 414 vN] 2 }) <|
 kA (183,{ cls:=Tn "type",data:=U8 { name:=TN "Twice",bases:=[vR 24],mro:=[vR 183,vR 24,Tn "ValueError",Tn "Exception",Tn "BaseException",Tn "object"],ns:=182,qualname:=TN "Twice" },slots:=#[some (vR 167),none,some (vS "Twice" 392),some (vS "Twice" 400),some (TH "ValueError.__new__"),some (T5 true)] }) <|
 kA (198,cO #[vS "__init__" 429,vS "Barred.__init__" 430,vS "/claim/cut.py" 431,vI 36,vI 2,vI 0,vI 0,vI 3,vR 193,T5 true,vI 181,vR 194,vN,vR 195,vR 196,vR 197,vI 434,vI 36,vS "/claim/cut.py" 435]) <|
 kA (199,⟨Tn "function",none,.func (US "__init__" "Barred.__init__" (dO (bR 14 0)) (bT (bR 14 0)) (bF (bR 14 0)) vN vN vN (vS "creasecourt.errors" 187) (none) (vR 198) vN),#[]⟩) <|
 kA (200,tO #[vS "corner" 437]) <|
 kA (201,{ cls:=Tn "dict",data:=Uj #[eO P "__module__" 424 (vS "creasecourt.errors" 187),eO P "__firstlineno__" 428 (TX 34 427),eR P "__init__" 436 199,eR P "__static_attributes__" 438 200,eO P "__doc__" 439 vN] 2 }) <|
 kA (202,{ cls:=Tn "type",data:=U8 { name:=TN "Barred",bases:=[vR 24],mro:=[vR 202,vR 24,Tn "ValueError",Tn "Exception",Tn "BaseException",Tn "object"],ns:=201,qualname:=TN "Barred" },slots:=#[some (vR 186),none,some (vS "Barred" 417),some (vS "Barred" 425),some (TH "ValueError.__new__"),some (T5 true)] }) <|
 kA (205,tO #[TX 2 444,TX 0 445]) <|
 kA (206,tO #[TX 1 446,TX 1 447]) <|
 kA (207,tO #[TX 0 448,TX 2 449]) <|
 kA (208,tO #[TX (-1) 451,TX 1 452]) <|
 kA (209,tO #[TX (-2) 454,TX 0 455]) <|
 kA (210,tO #[TX (-1) 457,TX (-1) 459]) <|
 kA (211,tO #[TX 0 460,TX (-2) 462]) <|
 kA (212,tO #[TX 1 463,TX (-1) 465]) <|
 kA (213,tO #[vR 205,vR 206,vR 207,vR 208,vR 209,vR 210,vR 211,vR 212]) <|
 kA (214,tO #[TX 1 467,TX 1 468]) <|
 kA (215,tO #[TX (-1) 470,TX 1 471]) <|
 kA (216,tO #[TX (-1) 473,TX (-1) 475]) <|
 kA (217,tO #[TX 1 476,TX (-1) 478]) <|
 kA (218,tO #[vR 214,vR 215,vR 216,vR 217]) <|
 kF "is_whole" 219 480 42 1 484 18 (vM 0) <|
 kF "is_corner" 226 487 44 1 491 19 (vM 0) <|
 kF "is_edge" 233 494 46 1 498 20 (vM 0) <|
 kF "is_quarter" 240 501 50 1 505 21 (vM 0) <|
 kF "line_of" 247 508 54 1 512 22 (vM 0) <|
 kF "beside" 254 515 58 1 521 23 (vM 0) <|
 kG "edges_of" 261 524 62 1 527 24 (vM 0) <|
 kG "moved_by" 266 530 64 2 533 25 (vM 0) <|
 kF "edges_round" 271 536 66 1 540 26 (vM 0) <|
 kF "number_by" 278 543 68 2 548 27 (vM 0) <|
 kF "mirrored" 285 551 76 2 560 28 (vM 0) <|
 kF "is_within" 292 565 89 3 571 30 (vM 1) <|
 kG "places_within" 299 574 91 2 577 31 (vM 1) <|
 kG "quarters_in" 304 580 96 2 583 32 (vM 1) <|
 kG "corners_in" 309 586 98 2 589 33 (vM 1) <|
 kG "neighbours_in" 314 592 100 3 595 34 (vM 1) <|
 kF "marks_in" 319 598 102 1 602 35 (vM 1) <|
 kG "is_good" 326 607 105 1 610 37 (vM 2) <|
 kG "creases_at" 331 615 112 2 618 39 (vM 3) <|
 kG "gaps_at" 336 621 115 2 624 40 (vM 3) <|
 kF "barred" 341 627 122 1 632 41 (vM 3) <|
 kF "check_corners" 348 635 127 1 640 42 (vM 3) <|
 kA (355,tO #[TX 1 645,TX 0 646,TX 0 647,TX 1 648,TX 0 649,TX 0 650]) <|
 kF "laying_by" 356 652 133 3 658 45 (vM 4) <|
 kF "mirror_in" 363 661 135 1 665 46 (vM 4) <|
 kF "led" 370 668 137 2 675 47 (vM 4) <|
 kF "then" 377 678 141 2 683 48 (vM 4) <|
 kF "laid" 384 688 144 1 699 50 (vM 5) <|
 kF "_law_cell" 391 704 158 2 710 52 (vM 6) <|
 kF "_law_inner" 398 713 165 2 721 53 (vM 6) <|
 kF "_law_line" 405 724 172 1 730 54 (vM 6) <|
 kF "_law_beside" 412 733 181 1 739 55 (vM 6) <|
 kF "_law_quarters" 419 742 188 2 750 56 (vM 6) <|
 kF "_law_led" 426 753 195 2 764 57 (vM 6) <|
 kF "_law_over" 433 767 198 2 780 58 (vM 6) <|
 kF "_law_value" 440 783 208 2 788 59 (vM 6) <|
 kF "_law_grown" 447 791 210 3 804 60 (vM 6) <|
 kF "_law_by_lines" 454 807 223 2 816 61 (vM 6) <|
 kG "_law_creased" 461 819 230 4 822 62 (vM 6) <|
 kF "_law_sheet" 466 825 253 3 837 63 (vM 6) <|
 kF "_law_others" 473 840 261 1 845 64 (vM 6) <|
 kF "_law_refused" 480 848 266 1 854 65 (vM 6) <|
 kF "law" 487 857 277 1 865 66 (vM 6) <| []
noncomputable def As:List Addr:=[3,2,22,23,24,25,35,36,37,47,48,49,59,60,61,71,72,73,83,84,85,95,96,97,107,108,109,119,120,121,131,132,133,143,144,145,160,161,162,163,164,179,180,181,182,183,198,199,200,201,202,205,206,207,208,209,210,211,212,213,214,215,216,217,218,224,225,231,232,238,239,245,246,252,253,259,260,264,265,269,270,276,277,283,284,290,291,297,298,302,303,307,308,312,313,317,318,324,325,329,330,334,335,339,340,346,347,353,354,355,361,362,368,369,375,376,382,383,389,390,396,397,403,404,410,411,417,418,424,425,431,432,438,439,445,446,452,453,459,460,464,465,471,472,478,479,485,486,492,493]
theorem oS:∀ P,As=(Kx P).map (·.1):=fun _=>by kernel_rfl
open PySem.W in
noncomputable def lA (P:Vo):List Obj:=((boot_o_0 P)::(boot_o_1 P)::(boot_o_2 P)::(boot_o_3 P)::(boot_o_4 P)::(boot_o_5 P)::(boot_o_6 P)::(boot_o_7 P)::(boot_o_8 P)::(boot_o_9 P)::(boot_o_10 P)::(tO #[])::({ cls:=vN,data:=TR #[] })::(cO #[vS "<module>" 182,vS "<module>" 183,vS "/claim/cut.py" 184,vI 1,vI 0,vI 0,vI 0,vI 0,vR 11,T5 false,vI 181,vR 12,vN,vN,vN,vN,vI 185,vI 1,vS "/claim/cut.py" 186])::({ cls:=Tn "frame",slots:=#[some (vR 13),some (vR 3),some (vR 3),none,some (vS "__main__" 164),none,some (vR 0)] })::[])
open PySem.W in
noncomputable def lB (P:Vo):List Obj:=(((lA P).set 3 ({ cls:=Tn "dict",data:=Uj #[eO P "__name__" 165 (vS "creasecourt.errors" 187),eO P "__doc__" 166 vN,eO P "__package__" 167 vN,eO P "__loader__" 168 (TH "__main__.__loader__#opaque"),eO P "__spec__" 169 vN,eR P "__annotations__" 170 6,eR P "__builtins__" 171 4,eO P "__file__" 173 (vS "/claim/cut.py" 172),eO P "__cached__" 174 vN,eR P "CreaseError" 206 24,eR P "NoSize" 222 37,eR P "NoMark" 238 49,eR P "NoText" 254 61,eR P "NoRound" 270 73,eR P "NoOrder" 286 85,eR P "TooMany" 302 97] 16 })).set 12 ({ cls:=vN,data:=TR #[vI 2,vI 0,vR 20,vI 4,vI 0,vR 33,vI 6,vI 0,vR 45,vI 8,vI 0,vR 57,vI 10,vI 0,vR 69,vI 12,vI 0,vR 81,vI 14,vI 0,vR 93] }))++((tO #[Tn "ValueError"])::({ cls:=Tn "builtin_function_or_method",data:=TR #[TH "type.__prepare__",Tn "type"] })::({ cls:=Tn "dict",data:=Uj #[eO P "__module__" 196 (vS "creasecourt.errors" 187),eO P "__qualname__" 198 (vS "CreaseError" 197),eO P "__firstlineno__" 200 (TX 2 199),eR P "__static_attributes__" 201 22] 4 })::(tO #[])::({ cls:=vN,data:=TR #[] })::(cO #[vS "CreaseError" 191,vS "CreaseError" 192,vS "/claim/cut.py" 193,vI 2,vI 0,vI 0,vI 0,vI 0,vR 18,T5 false,vI 181,vR 19,vN,vN,vN,vN,vI 194,vI 2,vS "/claim/cut.py" 195])::({ cls:=Tn "frame",slots:=#[some (vR 20),some (vR 3),some (vR 17),none,some (vS "creasecourt.errors" 187),none,some (vR 0)] })::(tO #[])::({ cls:=Tn "dict",data:=Uj #[eO P "__module__" 196 (vS "creasecourt.errors" 187),eO P "__firstlineno__" 200 (TX 2 199),eR P "__static_attributes__" 201 22,eR P "__weakref__" 203 25,eO P "__doc__" 204 vN] 3 })::({ cls:=Tn "type",data:=U8 { name:=TN "CreaseError",bases:=[Tn "ValueError"],mro:=[vR 24,Tn "ValueError",Tn "Exception",Tn "BaseException",Tn "object"],ns:=23,qualname:=TN "CreaseError",subclasses:=[vR 37,vR 49,vR 61,vR 73,vR 85,vR 97] },slots:=#[some (vR 15),none,some (vS "CreaseError" 189),some (vS "CreaseError" 197),some (TH "ValueError.__new__"),some (T5 true)] })::({ cls:=Tn "getset_descriptor",data:=TR #[vS "__weakref__" 202,vR 24,TH "ExceptionGroup.__weakref__",vN] })::({ cls:=Tn "super",data:=TR #[vR 24,vR 24,vR 24] })::({ cls:=Tn "builtin_function_or_method",data:=TR #[TH "object.__init_subclass__",vR 24] })::(tO #[vR 24])::({ cls:=Tn "builtin_function_or_method",data:=TR #[TH "type.__prepare__",Tn "type"] })::({ cls:=Tn "dict",data:=Uj #[eO P "__module__" 214 (vS "creasecourt.errors" 187),eO P "__qualname__" 216 (vS "NoSize" 215),eO P "__firstlineno__" 218 (TX 4 217),eR P "__static_attributes__" 219 35] 4 })::(tO #[])::({ cls:=vN,data:=TR #[] })::(cO #[vS "NoSize" 209,vS "NoSize" 210,vS "/claim/cut.py" 211,vI 4,vI 0,vI 0,vI 0,vI 0,vR 31,T5 false,vI 181,vR 32,vN,vN,vN,vN,vI 212,vI 4,vS "/claim/cut.py" 213])::({ cls:=Tn "frame",slots:=#[some (vR 33),some (vR 3),some (vR 30),none,some (vS "creasecourt.errors" 187),none,some (vR 0)] })::(tO #[])::({ cls:=Tn "dict",data:=Uj #[eO P "__module__" 214 (vS "creasecourt.errors" 187),eO P "__firstlineno__" 218 (TX 4 217),eR P "__static_attributes__" 219 35,eO P "__doc__" 220 vN] 2 })::({ cls:=Tn "type",data:=U8 { name:=TN "NoSize",bases:=[vR 24],mro:=[vR 37,vR 24,Tn "ValueError",Tn "Exception",Tn "BaseException",Tn "object"],ns:=36,qualname:=TN "NoSize" },slots:=#[some (vR 28),none,some (vS "NoSize" 207),some (vS "NoSize" 215),some (TH "ValueError.__new__"),some (T5 true)] })::({ cls:=Tn "super",data:=TR #[vR 37,vR 37,vR 37] })::({ cls:=Tn "builtin_function_or_method",data:=TR #[TH "object.__init_subclass__",vR 37] })::(tO #[vR 24])::({ cls:=Tn "builtin_function_or_method",data:=TR #[TH "type.__prepare__",Tn "type"] })::({ cls:=Tn "dict",data:=Uj #[eO P "__module__" 230 (vS "creasecourt.errors" 187),eO P "__qualname__" 232 (vS "NoMark" 231),eO P "__firstlineno__" 234 (TX 6 233),eR P "__static_attributes__" 235 47] 4 })::(tO #[])::({ cls:=vN,data:=TR #[] })::(cO #[vS "NoMark" 225,vS "NoMark" 226,vS "/claim/cut.py" 227,vI 6,vI 0,vI 0,vI 0,vI 0,vR 43,T5 false,vI 181,vR 44,vN,vN,vN,vN,vI 228,vI 6,vS "/claim/cut.py" 229])::({ cls:=Tn "frame",slots:=#[some (vR 45),some (vR 3),some (vR 42),none,some (vS "creasecourt.errors" 187),none,some (vR 0)] })::(tO #[])::({ cls:=Tn "dict",data:=Uj #[eO P "__module__" 230 (vS "creasecourt.errors" 187),eO P "__firstlineno__" 234 (TX 6 233),eR P "__static_attributes__" 235 47,eO P "__doc__" 236 vN] 2 })::({ cls:=Tn "type",data:=U8 { name:=TN "NoMark",bases:=[vR 24],mro:=[vR 49,vR 24,Tn "ValueError",Tn "Exception",Tn "BaseException",Tn "object"],ns:=48,qualname:=TN "NoMark" },slots:=#[some (vR 40),none,some (vS "NoMark" 223),some (vS "NoMark" 231),some (TH "ValueError.__new__"),some (T5 true)] })::({ cls:=Tn "super",data:=TR #[vR 49,vR 49,vR 49] })::({ cls:=Tn "builtin_function_or_method",data:=TR #[TH "object.__init_subclass__",vR 49] })::(tO #[vR 24])::({ cls:=Tn "builtin_function_or_method",data:=TR #[TH "type.__prepare__",Tn "type"] })::({ cls:=Tn "dict",data:=Uj #[eO P "__module__" 246 (vS "creasecourt.errors" 187),eO P "__qualname__" 248 (vS "NoText" 247),eO P "__firstlineno__" 250 (TX 8 249),eR P "__static_attributes__" 251 59] 4 })::(tO #[])::({ cls:=vN,data:=TR #[] })::(cO #[vS "NoText" 241,vS "NoText" 242,vS "/claim/cut.py" 243,vI 8,vI 0,vI 0,vI 0,vI 0,vR 55,T5 false,vI 181,vR 56,vN,vN,vN,vN,vI 244,vI 8,vS "/claim/cut.py" 245])::({ cls:=Tn "frame",slots:=#[some (vR 57),some (vR 3),some (vR 54),none,some (vS "creasecourt.errors" 187),none,some (vR 0)] })::(tO #[])::({ cls:=Tn "dict",data:=Uj #[eO P "__module__" 246 (vS "creasecourt.errors" 187),eO P "__firstlineno__" 250 (TX 8 249),eR P "__static_attributes__" 251 59,eO P "__doc__" 252 vN] 2 })::({ cls:=Tn "type",data:=U8 { name:=TN "NoText",bases:=[vR 24],mro:=[vR 61,vR 24,Tn "ValueError",Tn "Exception",Tn "BaseException",Tn "object"],ns:=60,qualname:=TN "NoText" },slots:=#[some (vR 52),none,some (vS "NoText" 239),some (vS "NoText" 247),some (TH "ValueError.__new__"),some (T5 true)] })::({ cls:=Tn "super",data:=TR #[vR 61,vR 61,vR 61] })::({ cls:=Tn "builtin_function_or_method",data:=TR #[TH "object.__init_subclass__",vR 61] })::(tO #[vR 24])::({ cls:=Tn "builtin_function_or_method",data:=TR #[TH "type.__prepare__",Tn "type"] })::({ cls:=Tn "dict",data:=Uj #[eO P "__module__" 262 (vS "creasecourt.errors" 187),eO P "__qualname__" 264 (vS "NoRound" 263),eO P "__firstlineno__" 266 (TX 10 265),eR P "__static_attributes__" 267 71] 4 })::(tO #[])::({ cls:=vN,data:=TR #[] })::(cO #[vS "NoRound" 257,vS "NoRound" 258,vS "/claim/cut.py" 259,vI 10,vI 0,vI 0,vI 0,vI 0,vR 67,T5 false,vI 181,vR 68,vN,vN,vN,vN,vI 260,vI 10,vS "/claim/cut.py" 261])::({ cls:=Tn "frame",slots:=#[some (vR 69),some (vR 3),some (vR 66),none,some (vS "creasecourt.errors" 187),none,some (vR 0)] })::(tO #[])::({ cls:=Tn "dict",data:=Uj #[eO P "__module__" 262 (vS "creasecourt.errors" 187),eO P "__firstlineno__" 266 (TX 10 265),eR P "__static_attributes__" 267 71,eO P "__doc__" 268 vN] 2 })::({ cls:=Tn "type",data:=U8 { name:=TN "NoRound",bases:=[vR 24],mro:=[vR 73,vR 24,Tn "ValueError",Tn "Exception",Tn "BaseException",Tn "object"],ns:=72,qualname:=TN "NoRound" },slots:=#[some (vR 64),none,some (vS "NoRound" 255),some (vS "NoRound" 263),some (TH "ValueError.__new__"),some (T5 true)] })::({ cls:=Tn "super",data:=TR #[vR 73,vR 73,vR 73] })::({ cls:=Tn "builtin_function_or_method",data:=TR #[TH "object.__init_subclass__",vR 73] })::(tO #[vR 24])::({ cls:=Tn "builtin_function_or_method",data:=TR #[TH "type.__prepare__",Tn "type"] })::({ cls:=Tn "dict",data:=Uj #[eO P "__module__" 278 (vS "creasecourt.errors" 187),eO P "__qualname__" 280 (vS "NoOrder" 279),eO P "__firstlineno__" 282 (TX 12 281),eR P "__static_attributes__" 283 83] 4 })::(tO #[])::({ cls:=vN,data:=TR #[] })::(cO #[vS "NoOrder" 273,vS "NoOrder" 274,vS "/claim/cut.py" 275,vI 12,vI 0,vI 0,vI 0,vI 0,vR 79,T5 false,vI 181,vR 80,vN,vN,vN,vN,vI 276,vI 12,vS "/claim/cut.py" 277])::({ cls:=Tn "frame",slots:=#[some (vR 81),some (vR 3),some (vR 78),none,some (vS "creasecourt.errors" 187),none,some (vR 0)] })::(tO #[])::({ cls:=Tn "dict",data:=Uj #[eO P "__module__" 278 (vS "creasecourt.errors" 187),eO P "__firstlineno__" 282 (TX 12 281),eR P "__static_attributes__" 283 83,eO P "__doc__" 284 vN] 2 })::({ cls:=Tn "type",data:=U8 { name:=TN "NoOrder",bases:=[vR 24],mro:=[vR 85,vR 24,Tn "ValueError",Tn "Exception",Tn "BaseException",Tn "object"],ns:=84,qualname:=TN "NoOrder" },slots:=#[some (vR 76),none,some (vS "NoOrder" 271),some (vS "NoOrder" 279),some (TH "ValueError.__new__"),some (T5 true)] })::({ cls:=Tn "super",data:=TR #[vR 85,vR 85,vR 85] })::({ cls:=Tn "builtin_function_or_method",data:=TR #[TH "object.__init_subclass__",vR 85] })::(tO #[vR 24])::({ cls:=Tn "builtin_function_or_method",data:=TR #[TH "type.__prepare__",Tn "type"] })::({ cls:=Tn "dict",data:=Uj #[eO P "__module__" 294 (vS "creasecourt.errors" 187),eO P "__qualname__" 296 (vS "TooMany" 295),eO P "__firstlineno__" 298 (TX 14 297),eR P "__static_attributes__" 299 95] 4 })::(tO #[])::({ cls:=vN,data:=TR #[] })::(cO #[vS "TooMany" 289,vS "TooMany" 290,vS "/claim/cut.py" 291,vI 14,vI 0,vI 0,vI 0,vI 0,vR 91,T5 false,vI 181,vR 92,vN,vN,vN,vN,vI 292,vI 14,vS "/claim/cut.py" 293])::({ cls:=Tn "frame",slots:=#[some (vR 93),some (vR 3),some (vR 90),none,some (vS "creasecourt.errors" 187),none,some (vR 0)] })::(tO #[])::({ cls:=Tn "dict",data:=Uj #[eO P "__module__" 294 (vS "creasecourt.errors" 187),eO P "__firstlineno__" 298 (TX 14 297),eR P "__static_attributes__" 299 95,eO P "__doc__" 300 vN] 2 })::({ cls:=Tn "type",data:=U8 { name:=TN "TooMany",bases:=[vR 24],mro:=[vR 97,vR 24,Tn "ValueError",Tn "Exception",Tn "BaseException",Tn "object"],ns:=96,qualname:=TN "TooMany" },slots:=#[some (vR 88),none,some (vS "TooMany" 287),some (vS "TooMany" 295),some (TH "ValueError.__new__"),some (T5 true)] })::({ cls:=Tn "super",data:=TR #[vR 97,vR 97,vR 97] })::({ cls:=Tn "builtin_function_or_method",data:=TR #[TH "object.__init_subclass__",vR 97] })::[])
open PySem.W in
noncomputable def lC (P:Vo):List Obj:=((((lB P).set 3 ({ cls:=Tn "dict",data:=Uj #[eO P "__name__" 165 (vS "creasecourt.errors" 187),eO P "__doc__" 166 vN,eO P "__package__" 167 vN,eO P "__loader__" 168 (TH "__main__.__loader__#opaque"),eO P "__spec__" 169 vN,eR P "__annotations__" 170 6,eR P "__builtins__" 171 4,eO P "__file__" 173 (vS "/claim/cut.py" 172),eO P "__cached__" 174 vN,eR P "CreaseError" 206 24,eR P "NoSize" 222 37,eR P "NoMark" 238 49,eR P "NoText" 254 61,eR P "NoRound" 270 73,eR P "NoOrder" 286 85,eR P "TooMany" 302 97,eR P "NoFold" 318 109,eR P "NoRow" 334 121,eR P "NoName" 350 133,eR P "Taken" 366 145,eR P "NoEdge" 391 164,eR P "Twice" 416 183,eR P "Barred" 441 202] 23 })).set 12 ({ cls:=vN,data:=TR #[vI 2,vI 0,vR 20,vI 4,vI 0,vR 33,vI 6,vI 0,vR 45,vI 8,vI 0,vR 57,vI 10,vI 0,vR 69,vI 12,vI 0,vR 81,vI 14,vI 0,vR 93,vI 16,vI 0,vR 105,vI 18,vI 0,vR 117,vI 20,vI 0,vR 129,vI 22,vI 0,vR 141,vI 24,vI 0,vR 153,vI 29,vI 0,vR 172,vI 34,vI 0,vR 191] })).set 24 ({ cls:=Tn "type",data:=U8 { name:=TN "CreaseError",bases:=[Tn "ValueError"],mro:=[vR 24,Tn "ValueError",Tn "Exception",Tn "BaseException",Tn "object"],ns:=23,qualname:=TN "CreaseError",subclasses:=[vR 37,vR 49,vR 61,vR 73,vR 85,vR 97,vR 109,vR 121,vR 133,vR 145,vR 164,vR 183,vR 202] },slots:=#[some (vR 15),none,some (vS "CreaseError" 189),some (vS "CreaseError" 197),some (TH "ValueError.__new__"),some (T5 true)] }))++((tO #[vR 24])::({ cls:=Tn "builtin_function_or_method",data:=TR #[TH "type.__prepare__",Tn "type"] })::({ cls:=Tn "dict",data:=Uj #[eO P "__module__" 310 (vS "creasecourt.errors" 187),eO P "__qualname__" 312 (vS "NoFold" 311),eO P "__firstlineno__" 314 (TX 16 313),eR P "__static_attributes__" 315 107] 4 })::(tO #[])::({ cls:=vN,data:=TR #[] })::(cO #[vS "NoFold" 305,vS "NoFold" 306,vS "/claim/cut.py" 307,vI 16,vI 0,vI 0,vI 0,vI 0,vR 103,T5 false,vI 181,vR 104,vN,vN,vN,vN,vI 308,vI 16,vS "/claim/cut.py" 309])::({ cls:=Tn "frame",slots:=#[some (vR 105),some (vR 3),some (vR 102),none,some (vS "creasecourt.errors" 187),none,some (vR 0)] })::(tO #[])::({ cls:=Tn "dict",data:=Uj #[eO P "__module__" 310 (vS "creasecourt.errors" 187),eO P "__firstlineno__" 314 (TX 16 313),eR P "__static_attributes__" 315 107,eO P "__doc__" 316 vN] 2 })::({ cls:=Tn "type",data:=U8 { name:=TN "NoFold",bases:=[vR 24],mro:=[vR 109,vR 24,Tn "ValueError",Tn "Exception",Tn "BaseException",Tn "object"],ns:=108,qualname:=TN "NoFold" },slots:=#[some (vR 100),none,some (vS "NoFold" 303),some (vS "NoFold" 311),some (TH "ValueError.__new__"),some (T5 true)] })::({ cls:=Tn "super",data:=TR #[vR 109,vR 109,vR 109] })::({ cls:=Tn "builtin_function_or_method",data:=TR #[TH "object.__init_subclass__",vR 109] })::(tO #[vR 24])::({ cls:=Tn "builtin_function_or_method",data:=TR #[TH "type.__prepare__",Tn "type"] })::({ cls:=Tn "dict",data:=Uj #[eO P "__module__" 326 (vS "creasecourt.errors" 187),eO P "__qualname__" 328 (vS "NoRow" 327),eO P "__firstlineno__" 330 (TX 18 329),eR P "__static_attributes__" 331 119] 4 })::(tO #[])::({ cls:=vN,data:=TR #[] })::(cO #[vS "NoRow" 321,vS "NoRow" 322,vS "/claim/cut.py" 323,vI 18,vI 0,vI 0,vI 0,vI 0,vR 115,T5 false,vI 181,vR 116,vN,vN,vN,vN,vI 324,vI 18,vS "/claim/cut.py" 325])::({ cls:=Tn "frame",slots:=#[some (vR 117),some (vR 3),some (vR 114),none,some (vS "creasecourt.errors" 187),none,some (vR 0)] })::(tO #[])::({ cls:=Tn "dict",data:=Uj #[eO P "__module__" 326 (vS "creasecourt.errors" 187),eO P "__firstlineno__" 330 (TX 18 329),eR P "__static_attributes__" 331 119,eO P "__doc__" 332 vN] 2 })::({ cls:=Tn "type",data:=U8 { name:=TN "NoRow",bases:=[vR 24],mro:=[vR 121,vR 24,Tn "ValueError",Tn "Exception",Tn "BaseException",Tn "object"],ns:=120,qualname:=TN "NoRow" },slots:=#[some (vR 112),none,some (vS "NoRow" 319),some (vS "NoRow" 327),some (TH "ValueError.__new__"),some (T5 true)] })::({ cls:=Tn "super",data:=TR #[vR 121,vR 121,vR 121] })::({ cls:=Tn "builtin_function_or_method",data:=TR #[TH "object.__init_subclass__",vR 121] })::(tO #[vR 24])::({ cls:=Tn "builtin_function_or_method",data:=TR #[TH "type.__prepare__",Tn "type"] })::({ cls:=Tn "dict",data:=Uj #[eO P "__module__" 342 (vS "creasecourt.errors" 187),eO P "__qualname__" 344 (vS "NoName" 343),eO P "__firstlineno__" 346 (TX 20 345),eR P "__static_attributes__" 347 131] 4 })::(tO #[])::({ cls:=vN,data:=TR #[] })::(cO #[vS "NoName" 337,vS "NoName" 338,vS "/claim/cut.py" 339,vI 20,vI 0,vI 0,vI 0,vI 0,vR 127,T5 false,vI 181,vR 128,vN,vN,vN,vN,vI 340,vI 20,vS "/claim/cut.py" 341])::({ cls:=Tn "frame",slots:=#[some (vR 129),some (vR 3),some (vR 126),none,some (vS "creasecourt.errors" 187),none,some (vR 0)] })::(tO #[])::({ cls:=Tn "dict",data:=Uj #[eO P "__module__" 342 (vS "creasecourt.errors" 187),eO P "__firstlineno__" 346 (TX 20 345),eR P "__static_attributes__" 347 131,eO P "__doc__" 348 vN] 2 })::({ cls:=Tn "type",data:=U8 { name:=TN "NoName",bases:=[vR 24],mro:=[vR 133,vR 24,Tn "ValueError",Tn "Exception",Tn "BaseException",Tn "object"],ns:=132,qualname:=TN "NoName" },slots:=#[some (vR 124),none,some (vS "NoName" 335),some (vS "NoName" 343),some (TH "ValueError.__new__"),some (T5 true)] })::({ cls:=Tn "super",data:=TR #[vR 133,vR 133,vR 133] })::({ cls:=Tn "builtin_function_or_method",data:=TR #[TH "object.__init_subclass__",vR 133] })::(tO #[vR 24])::({ cls:=Tn "builtin_function_or_method",data:=TR #[TH "type.__prepare__",Tn "type"] })::({ cls:=Tn "dict",data:=Uj #[eO P "__module__" 358 (vS "creasecourt.errors" 187),eO P "__qualname__" 360 (vS "Taken" 359),eO P "__firstlineno__" 362 (TX 22 361),eR P "__static_attributes__" 363 143] 4 })::(tO #[])::({ cls:=vN,data:=TR #[] })::(cO #[vS "Taken" 353,vS "Taken" 354,vS "/claim/cut.py" 355,vI 22,vI 0,vI 0,vI 0,vI 0,vR 139,T5 false,vI 181,vR 140,vN,vN,vN,vN,vI 356,vI 22,vS "/claim/cut.py" 357])::({ cls:=Tn "frame",slots:=#[some (vR 141),some (vR 3),some (vR 138),none,some (vS "creasecourt.errors" 187),none,some (vR 0)] })::(tO #[])::({ cls:=Tn "dict",data:=Uj #[eO P "__module__" 358 (vS "creasecourt.errors" 187),eO P "__firstlineno__" 362 (TX 22 361),eR P "__static_attributes__" 363 143,eO P "__doc__" 364 vN] 2 })::({ cls:=Tn "type",data:=U8 { name:=TN "Taken",bases:=[vR 24],mro:=[vR 145,vR 24,Tn "ValueError",Tn "Exception",Tn "BaseException",Tn "object"],ns:=144,qualname:=TN "Taken" },slots:=#[some (vR 136),none,some (vS "Taken" 351),some (vS "Taken" 359),some (TH "ValueError.__new__"),some (T5 true)] })::({ cls:=Tn "super",data:=TR #[vR 145,vR 145,vR 145] })::({ cls:=Tn "builtin_function_or_method",data:=TR #[TH "object.__init_subclass__",vR 145] })::(tO #[vR 24])::({ cls:=Tn "builtin_function_or_method",data:=TR #[TH "type.__prepare__",Tn "type"] })::({ cls:=Tn "dict",data:=Uj #[eO P "__module__" 374 (vS "creasecourt.errors" 187),eO P "__qualname__" 376 (vS "NoEdge" 375),eO P "__firstlineno__" 378 (TX 24 377),eR P "__init__" 386 161,eR P "__static_attributes__" 388 162] 5 })::(tO #[])::({ cls:=vN,data:=TR #[vI 26,vI 4,vR 160] })::(cO #[vS "NoEdge" 369,vS "NoEdge" 370,vS "/claim/cut.py" 371,vI 24,vI 0,vI 0,vI 0,vI 0,vR 151,T5 false,vI 181,vR 152,vN,vN,vN,vN,vI 372,vI 24,vS "/claim/cut.py" 373])::({ cls:=Tn "frame",slots:=#[some (vR 153),some (vR 3),some (vR 150),none,some (vS "creasecourt.errors" 187),none,some (vR 0)] })::(tO #[])::({ cls:=vN,data:=TR #[] })::(tO #[vS "self" 382,vS "edge" 383])::(tO #[])::(⟨vN,none,.func ({ US "__init__" "NoEdge.__init__" (dO (bR 12 0)) (bT (bR 12 0)) (bF (bR 12 0)) vN vN vN vN (none) vN vN with globals:=0 }),#[]⟩)::(cO #[vS "__init__" 379,vS "NoEdge.__init__" 380,vS "/claim/cut.py" 381,vI 26,vI 2,vI 0,vI 0,vI 3,vR 155,T5 true,vI 181,vR 156,vN,vR 157,vR 158,vR 159,vI 384,vI 26,vS "/claim/cut.py" 385])::(⟨Tn "function",none,.func (US "__init__" "NoEdge.__init__" (dO (bR 12 0)) (bT (bR 12 0)) (bF (bR 12 0)) vN vN vN (vS "creasecourt.errors" 187) (none) (vR 160) vN),#[]⟩)::(tO #[vS "edge" 387])::({ cls:=Tn "dict",data:=Uj #[eO P "__module__" 374 (vS "creasecourt.errors" 187),eO P "__firstlineno__" 378 (TX 24 377),eR P "__init__" 386 161,eR P "__static_attributes__" 388 162,eO P "__doc__" 389 vN] 2 })::({ cls:=Tn "type",data:=U8 { name:=TN "NoEdge",bases:=[vR 24],mro:=[vR 164,vR 24,Tn "ValueError",Tn "Exception",Tn "BaseException",Tn "object"],ns:=163,qualname:=TN "NoEdge" },slots:=#[some (vR 148),none,some (vS "NoEdge" 367),some (vS "NoEdge" 375),some (TH "ValueError.__new__"),some (T5 true)] })::({ cls:=Tn "super",data:=TR #[vR 164,vR 164,vR 164] })::({ cls:=Tn "builtin_function_or_method",data:=TR #[TH "object.__init_subclass__",vR 164] })::(tO #[vR 24])::({ cls:=Tn "builtin_function_or_method",data:=TR #[TH "type.__prepare__",Tn "type"] })::({ cls:=Tn "dict",data:=Uj #[eO P "__module__" 399 (vS "creasecourt.errors" 187),eO P "__qualname__" 401 (vS "Twice" 400),eO P "__firstlineno__" 403 (TX 29 402),eR P "__init__" 411 180,eR P "__static_attributes__" 413 181] 5 })::(tO #[])::({ cls:=vN,data:=TR #[vI 31,vI 4,vR 179] })::(cO #[vS "Twice" 394,vS "Twice" 395,vS "/claim/cut.py" 396,vI 29,vI 0,vI 0,vI 0,vI 0,vR 170,T5 false,vI 181,vR 171,vN,vN,vN,vN,vI 397,vI 29,vS "/claim/cut.py" 398])::({ cls:=Tn "frame",slots:=#[some (vR 172),some (vR 3),some (vR 169),none,some (vS "creasecourt.errors" 187),none,some (vR 0)] })::(tO #[])::({ cls:=vN,data:=TR #[] })::(tO #[vS "self" 407,vS "edge" 408])::(tO #[])::(⟨vN,none,.func ({ US "__init__" "Twice.__init__" (dO (bR 13 0)) (bT (bR 13 0)) (bF (bR 13 0)) vN vN vN vN (none) vN vN with globals:=0 }),#[]⟩)::(cO #[vS "__init__" 404,vS "Twice.__init__" 405,vS "/claim/cut.py" 406,vI 31,vI 2,vI 0,vI 0,vI 3,vR 174,T5 true,vI 181,vR 175,vN,vR 176,vR 177,vR 178,vI 409,vI 31,vS "/claim/cut.py" 410])::(⟨Tn "function",none,.func (US "__init__" "Twice.__init__" (dO (bR 13 0)) (bT (bR 13 0)) (bF (bR 13 0)) vN vN vN (vS "creasecourt.errors" 187) (none) (vR 179) vN),#[]⟩)::(tO #[vS "edge" 412])::({ cls:=Tn "dict",data:=Uj #[eO P "__module__" 399 (vS "creasecourt.errors" 187),eO P "__firstlineno__" 403 (TX 29 402),eR P "__init__" 411 180,eR P "__static_attributes__" 413 181,eO P "__doc__" 414 vN] 2 })::({ cls:=Tn "type",data:=U8 { name:=TN "Twice",bases:=[vR 24],mro:=[vR 183,vR 24,Tn "ValueError",Tn "Exception",Tn "BaseException",Tn "object"],ns:=182,qualname:=TN "Twice" },slots:=#[some (vR 167),none,some (vS "Twice" 392),some (vS "Twice" 400),some (TH "ValueError.__new__"),some (T5 true)] })::({ cls:=Tn "super",data:=TR #[vR 183,vR 183,vR 183] })::({ cls:=Tn "builtin_function_or_method",data:=TR #[TH "object.__init_subclass__",vR 183] })::(tO #[vR 24])::({ cls:=Tn "builtin_function_or_method",data:=TR #[TH "type.__prepare__",Tn "type"] })::({ cls:=Tn "dict",data:=Uj #[eO P "__module__" 424 (vS "creasecourt.errors" 187),eO P "__qualname__" 426 (vS "Barred" 425),eO P "__firstlineno__" 428 (TX 34 427),eR P "__init__" 436 199,eR P "__static_attributes__" 438 200] 5 })::(tO #[])::({ cls:=vN,data:=TR #[vI 36,vI 4,vR 198] })::(cO #[vS "Barred" 419,vS "Barred" 420,vS "/claim/cut.py" 421,vI 34,vI 0,vI 0,vI 0,vI 0,vR 189,T5 false,vI 181,vR 190,vN,vN,vN,vN,vI 422,vI 34,vS "/claim/cut.py" 423])::({ cls:=Tn "frame",slots:=#[some (vR 191),some (vR 3),some (vR 188),none,some (vS "creasecourt.errors" 187),none,some (vR 0)] })::(tO #[])::({ cls:=vN,data:=TR #[] })::(tO #[vS "self" 432,vS "corner" 433])::(tO #[])::(⟨vN,none,.func ({ US "__init__" "Barred.__init__" (dO (bR 14 0)) (bT (bR 14 0)) (bF (bR 14 0)) vN vN vN vN (none) vN vN with globals:=0 }),#[]⟩)::(cO #[vS "__init__" 429,vS "Barred.__init__" 430,vS "/claim/cut.py" 431,vI 36,vI 2,vI 0,vI 0,vI 3,vR 193,T5 true,vI 181,vR 194,vN,vR 195,vR 196,vR 197,vI 434,vI 36,vS "/claim/cut.py" 435])::(⟨Tn "function",none,.func (US "__init__" "Barred.__init__" (dO (bR 14 0)) (bT (bR 14 0)) (bF (bR 14 0)) vN vN vN (vS "creasecourt.errors" 187) (none) (vR 198) vN),#[]⟩)::(tO #[vS "corner" 437])::({ cls:=Tn "dict",data:=Uj #[eO P "__module__" 424 (vS "creasecourt.errors" 187),eO P "__firstlineno__" 428 (TX 34 427),eR P "__init__" 436 199,eR P "__static_attributes__" 438 200,eO P "__doc__" 439 vN] 2 })::({ cls:=Tn "type",data:=U8 { name:=TN "Barred",bases:=[vR 24],mro:=[vR 202,vR 24,Tn "ValueError",Tn "Exception",Tn "BaseException",Tn "object"],ns:=201,qualname:=TN "Barred" },slots:=#[some (vR 186),none,some (vS "Barred" 417),some (vS "Barred" 425),some (TH "ValueError.__new__"),some (T5 true)] })::({ cls:=Tn "super",data:=TR #[vR 202,vR 202,vR 202] })::({ cls:=Tn "builtin_function_or_method",data:=TR #[TH "object.__init_subclass__",vR 202] })::[])
noncomputable def vE:X2:={ scope:=UT.main.scope,locals:=mainNs,globals:=mainNs,cells:=[],code:=TM 13,frame:=some 14 }
open PySem.W PyProof.Rows in
set_option maxRecDepth 100000 in
set_option maxHeartbeats 0 in
theorem Ia (w:Up)(os:Yx):topGo VY (U9 Tz).prog w 11 (some (TM 6)) 12 ⟨WY w.params,U1 [],Vg,ZL,os⟩ (topStub (U9 Tz).prog)=some (⟨⟨U1 (lA w.params),{}⟩,U1 [],Vg,187,os⟩,⟨denote VY (.body (Uk (U9 Tz).prog) vE),(.body (Uk (U9 Tz).prog) vE),⟨0,0,0,0⟩,[XW ⟨0,0,0,0⟩]⟩):=by kernel_rfl
open PySem.W PyProof.Rows in
set_option maxRecDepth 100000 in
set_option maxHeartbeats 0 in
theorem Ib (w:Up)(os:Yx):a1e VY (U9 Tz).prog w 11 (some (TM 6)) 1 1 ⟨⟨U1 (lA w.params),{}⟩,U1 [],Vg,187,os⟩ (blockOf (Uk (U9 Tz).prog) vE (.body (Uk (U9 Tz).prog) vE) ⟨0,0,0,0⟩ [XW ⟨0,0,0,0⟩])=some (.next,⟨⟨U1 (lA w.params),{}⟩,U1 [],Vg,187,os⟩,(.body (Uk (U9 Tz).prog) vE),⟨0,0,0,0⟩):=by kernel_rfl
open PySem.W PyProof.Rows in
set_option maxRecDepth 100000 in
set_option maxHeartbeats 0 in
theorem Ic (w:Up)(os:Yx):a1e VY (U9 Tz).prog w 11 (some (TM 6)) 1 1474 ⟨⟨U1 (lA w.params),{}⟩,U1 [],Vg,187,os⟩ (a1J ((Uk (U9 Tz).prog).take 8) vE (.body (Uk (U9 Tz).prog) vE) ⟨0,0,0,0⟩ [XW ⟨0,0,0,0⟩])=some (.next,⟨⟨U1 (lB w.params),{}⟩,U1 [],Vg,303,os⟩,(.body (Uk (U9 Tz).prog) vE),⟨14,0,15,8⟩):=by kernel_rfl
open PySem.W PyProof.Rows in
set_option maxRecDepth 100000 in
set_option maxHeartbeats 0 in
theorem Ie (w:Up)(os:Yx):a1e VY (U9 Tz).prog w 11 (some (TM 6)) 1 1588 ⟨⟨U1 (lB w.params),{}⟩,U1 [],Vg,303,os⟩ (a1J (((Uk (U9 Tz).prog).drop 8).take 7) vE (.body (Uk (U9 Tz).prog) vE) ⟨14,0,15,8⟩ [XW ⟨0,0,0,0⟩])=some (.next,⟨⟨U1 (lC w.params),{}⟩,U1 [],Vg,442,os⟩,(.body (Uk (U9 Tz).prog) vE),⟨34,0,38,28⟩):=by kernel_rfl
open PySem.W PyProof.Rows in
set_option maxRecDepth 100000 in
set_option maxHeartbeats 0 in
theorem run:LeftO (U9 Tz).prog Vw [] (fun s=>xlAt Vw [] s&&recOk (a2s (a1r (U9 Tz))) s) (Hook.obs (a3A Kx As oS)) (Hook.val (a3A Kx As oS)) 9186:=
 L3.left_cut (hA:=fun P=>⟨U1 (lA P),{}⟩) (hB:=fun P=>⟨U1 (lB P),{}⟩) (hC:=fun P=>⟨U1 (lC P),{}⟩) (n3:=1671) (i1:=8) (i2:=7) (env:=vE) (boot_open (by kernel_rfl) (by kernel_rfl) (fun _=>by kernel_rfl)) (fun w=>by kernel_rfl) Ia Ib Ic Ie (fun w os=>by kernel_rfl) (by kernel_rfl)
end Lw
set_option maxHeartbeats 4000000
namespace L3
open PySem
open PySem.SetTable (Probe Met Slot bits runEnd leap turns insertAt sizeAbove)
namespace Tb
noncomputable def kW (m:Nat)(p:Probe):Probe:=
 if p.more>0 then { p with j:=p.j+1,more:=p.more - 1 } else
 { p with j:=(leap m p.i p.perturb).1,more:=runEnd m (leap m p.i p.perturb).1 - (leap m p.i p.perturb).1,i:=(leap m p.i p.perturb).1,perturb:=(leap m p.i p.perturb).2 }
noncomputable def Ig (m:Nat)(b:Nat):Probe:={ j:=b % (m+1),more:=runEnd m (b % (m+1)) - b % (m+1),i:=b % (m+1),perturb:=b,dummy:=none }
noncomputable def bW (m b:Nat):Nat->Probe
 | 0=>Ig m b
 | k+1=>kW m (bW m b k)
noncomputable def lp (m b:Nat):Nat->Nat×Nat
 | 0=>(b % (m+1),b)
 | n+1=>leap m (lp m b n).1 (lp m b n).2
noncomputable def hd (m i q:Nat):Probe:={ j:=i,more:=runEnd m i - i,i:=i,perturb:=q,dummy:=none }
theorem oU {m b k i q:Nat}(h:bW m b k=hd m i q):∀ r,r<=runEnd m i - i->bW m b (k+r) = { j:=i+r,more:=runEnd m i - i - r,i:=i,perturb:=q,dummy:=none }
 | 0,_=>by rw [a2H,h];rfl
 | r+1,hr=>by
  have e:=oU h r (by omega)
  show kW m (bW m b (k+r))=_
  rw [e]
  unfold kW
  rw [if_pos (show runEnd m i - i - r>0 by omega)]
  show Probe.mk (i+r+1) (runEnd m i - i - r - 1) i q none=_
  rw [Nat.add_assoc,Nat.sub_sub]
theorem Ih {m b k i q:Nat}(h:bW m b k=hd m i q):bW m b (k+(runEnd m i - i)+1)=hd m (leap m i q).1 (leap m i q).2:=by
 have e:=oU h (runEnd m i - i) (TK _)
 show kW m (bW m b (k+(runEnd m i - i)))=_
 rw [e]
 unfold kW
 rw [if_neg (show ¬ (runEnd m i - i - (runEnd m i - i)>0) by omega)]
 rfl
noncomputable def nx (m i:Nat):Nat:=(i * 5+1) % (m+1)
noncomputable def A6 (m:Nat):Nat->Nat->Nat
 | 0,i=>i
 | n+1,i=>A6 m n (nx m i)
noncomputable def iS (m:Nat):Nat->Nat->Nat->Nat
 | 0,_,acc=>acc
 | f+1,i,acc=>iS m f (nx m i) (acc ||| (1 <<< i))
noncomputable def A7 (m:Nat):Bool:=iS m (m+1) 0 0 == 2 ^ (m+1) - 1&&A6 m (m+1) 0 == 0
theorem Ii (m b:Nat):∀ n,(lp m b n).1<=m
 | 0=>a1B (a3E _ (YZ _))
 | n+1=>a1B (a3E _ (YZ _))
noncomputable def uX (m:Nat)(S:List Nat)(b j:Nat):Prop:=∃ k,(bW m b k).j=j/\∀ k',k'<k->(bW m b k').j∈S
theorem uY {xs:Array Nat}{j:Nat}(hr:∀ a b,a<b->b<xs.size->xs.getD a 0<xs.getD b 0):∀ (f lo hi:Nat),hi - lo<=f->lo<=hi->hi<=xs.size->(∀ i,i<lo->xs.getD i 0<j)->(∀ i,hi<=i->i<xs.size->j<=xs.getD i 0)->
  Xa xs j f lo hi<=xs.size/\(∀ i,i<Xa xs j f lo hi->xs.getD i 0<j)/\∀ i,Xa xs j f lo hi<=i->i<xs.size->j<=xs.getD i 0
 | 0,lo,hi,hf,h1,h2,a,b=>by
  have e:lo=hi:=by omega
  show lo<=xs.size/\(∀ i,i<lo->_)/\∀ i,lo<=i->_
  exact ⟨by omega,a,by rw [e];exact b⟩
 | f+1,lo,hi,hf,h1,h2,a,b=>by
  unfold Xa
  by_cases q:lo<hi
  ·rw [if_pos q]
   dsimp only
   have hm:(lo+hi) / 2<xs.size:=by omega
   have e:xs.getD ((lo+hi) / 2) j=xs.getD ((lo+hi) / 2) 0:=by simp [WI,hm]
   rw [e]
   by_cases c:xs.getD ((lo+hi) / 2) 0<j
   ·rw [if_pos c]
    refine uY hr f _ _ (by omega) (by omega) h2 (fun i hi'=>?_) b
    rcases Wy i ((lo+hi) / 2) with z|z
    ·exact WX (hr _ _ z hm) c
    ·have:i=(lo+hi) / 2:=by omega
     rw [this];exact c
   ·rw [if_neg c]
    refine uY hr f _ _ (by omega) (by omega) (by omega) a fun i hi' hs=>?_
    rcases Wy ((lo+hi) / 2) i with z|z
    ·have:=hr _ _ z hs;omega
    ·have:i=(lo+hi) / 2:=by omega
     rw [this];omega
  ·rw [if_neg q]
   exact ⟨by omega,a,fun i h hs=>b i (by omega) hs⟩
theorem A8 {xs:Array Nat}(h:xs.toList.Pairwise (·<·)):∀ a b,a<b->b<xs.size->xs.getD a 0<xs.getD b 0:=fun a b hab hb=>by
 have:=Vi.mp h a b (by simpa using WX hab hb) (by simpa using hb) hab
 simpa [WI,hb,WX hab hb] using this
theorem Ij {xs:Array Nat}(h:xs.toList.Pairwise (·<·))(j:Nat):Xi xs j<=xs.size/\(∀ i,i<Xi xs j->xs.getD i 0<j)/\∀ i,Xi xs j<=i->i<xs.size->j<=xs.getD i 0:=
 uY (A8 h) _ _ _ (by omega) (by omega) (TK _) (fun i z=>absurd z (Xv _)) fun i z z2=>by omega
noncomputable abbrev mH:=Nat×Int×Value
structure Ok (t:Ym)(R:List mH):Prop where
 place:t.place.toList=R.map (·.1)
 dum:t.dummies = #[]
 rise:(R.map (·.1)).Pairwise (·<·)
 le:∀ r∈R,r.1<=t.mask
 cov:A7 t.mask=true
 odd:t.mask % 2=1
 room:R.length<=t.mask
 road:∀ r∈R,uX t.mask (R.map (·.1)) (bits r.2.1) r.1
section
variable {t:Ym}{R:List mH}
theorem Ok.size (o:Ok t R):t.place.size=R.length:=by
 have:=congrArg Vu o.place
 simpa using this
theorem Ok.uniq (o:Ok t R){r r':mH}(h:r∈R)(h':r'∈R)(e:r.1=r'.1):r=r':=by
 have p:=a1s.mp o.rise
 obtain ⟨i,hi,e1⟩:=WA h
 obtain ⟨k,hk,e2⟩:=WA h'
 rcases WW i k with z|z|z
 ·have:=Vi.mp p i k hi hk z
  rw [e1,e2] at this;omega
 ·subst z;rw [<- e1,<- e2]
 ·have:=Vi.mp p k i hk hi z
  rw [e1,e2] at this;omega
theorem Ok.getD (o:Ok t R){i:Nat}(hi:i<R.length):t.place.getD i 0=(R[i]).1:=by
 have h:t.place.toList[i]? = (R.map (·.1))[i]?:=by rw [o.place]
 have hs:i<t.place.size:=by rw [o.size];exact hi
 simp [hi,hs] at h
 simp [WI,hs,h]
theorem Ok.sorted (o:Ok t R):t.place.toList.Pairwise (·<·):=by rw [o.place];exact o.rise
theorem Ik (j:Nat):a1x #[] j=false:=by
 unfold a1x
 simp
theorem Ok.live (o:Ok t R){j:Nat}(h:j∈R.map (·.1)):∃ i r,t.slot j=.live i/\R[i]? = some r/\r.1=j:=by
 obtain ⟨r,hr,e⟩:=UZ.mp h
 obtain ⟨i,hi,ei⟩:=WA hr
 have b:=Ij o.sorted j
 have hp:t.place.getD i 0=j:=by rw [o.getD hi,ei];exact e
 have hs:i<t.place.size:=by rw [o.size];exact hi
 have e2:Xi t.place j=i:=by
  rcases WW (Xi t.place j) i with z|z|z
  ·have h1:=b.2.2 _ (TK _) (by omega)
   have h2:=A8 o.sorted _ _ z hs
   omega
  ·exact z
  ·have:=b.2.1 i z;omega
 refine ⟨i,r,?_,by rw [<- ei];exact T8 hi,e⟩
 unfold a1i
 dsimp only
 rw [e2,if_pos]
 have:t.place[i]? = some j:=by
  rw [ZH hs]
  simpa [WI,hs] using hp
 rw [this]
 exact beq_self_eq_true _
theorem Ok.empty (o:Ok t R){j:Nat}(h:j∉R.map (·.1)):t.slot j=.empty:=by
 unfold a1i
 dsimp only
 rw [if_neg,o.dum,Ik]
 ·rfl
 ·intro q
  rw [beq_iff_eq] at q
  apply h
  rw [<- o.place]
  exact Array.mem_toList_iff.mpr (Array.mem_of_getElem? q)
theorem A9 (m b:Nat):∀ k,(bW m b k).dummy=none
 | 0=>rfl
 | k+1=>by
  show (kW m (bW m b k)).dummy=none
  unfold kW
  split<;>exact A9 m b k
theorem Ok.go (o:Ok t R)(ZK:Nat->Int)(hh:∀ i r,R[i]? = some r->ZK i=r.2.1){h:Int}{K:Nat}(hK:(bW t.mask (bits h) K).j∉R.map (·.1))(hT:∀ k',k'<K->(bW t.mask (bits h) k').j∈R.map (·.1)) :
  ∀ (f k:Nat),k<=K->K<k+f->
   (W9 t ZK h f (bW t.mask (bits h) k)=some (.empty (bW t.mask (bits h) K).j none)/\∀ k' r,k<=k'->k'<K->r∈R->r.1=(bW t.mask (bits h) k').j->r.2.1≠h) \/
   ∃ k' i r,k<=k'/\k'<K/\R[i]? = some r/\r.1=(bW t.mask (bits h) k').j/\r.2.1=h/\W9 t ZK h f (bW t.mask (bits h) k)=some (.candidate (bW t.mask (bits h) k').j i (bW t.mask (bits h) (k'+1))) /\
    ∀ k'' r',k<=k''->k''<k'->r'∈R->r'.1=(bW t.mask (bits h) k'').j->r'.2.1≠h
 | 0,k,h1,h2=>by omega
 | f+1,k,h1,h2=>by
  rcases Wy k K with z|z
  ·obtain ⟨i,r,e,er,ej⟩:=o.live (hT k z)
   have eg:W9 t ZK h (f+1) (bW t.mask (bits h) k)=if ZK i == h then some (.candidate (bW t.mask (bits h) k).j i (bW t.mask (bits h) (k+1))) else W9 t ZK h f (bW t.mask (bits h) (k+1)):=by
    show (match t.slot (bW t.mask (bits h) k).j with|.empty=>_|.dummy=>_|.live i=>_)=_
    rw [e]
    rfl
   rw [eg,hh i r er]
   have hrm:r∈R:=UG er
   by_cases q:r.2.1=h
   ·refine .inr ⟨k,i,r,TK _,z,er,ej,q,?_,fun k'' r' a b=>by omega⟩
    rw [q,if_pos (beq_self_eq_true _)]
   ·rw [if_neg (by simpa using q)]
    have here:∀ r',r'∈R->r'.1=(bW t.mask (bits h) k).j->r'.2.1≠h:=fun r' hr' e'=>by
     rw [o.uniq hr' hrm (e'.trans ej.symm)];exact q
    rcases Ok.go o ZK hh hK hT f (k+1) z (by omega) with ⟨a,b⟩|⟨k',i',r',a1,a2,a3,a4,a5,a6,a7⟩
    ·refine .inl ⟨a,fun k' r' c1 c2 hr' e'=>?_⟩
     rcases Wy k k' with y|y
     ·exact b k' r' y c2 hr' e'
     ·have:k'=k:=by omega
      subst this;exact here r' hr' e'
    ·refine .inr ⟨k',i',r',by omega,a2,a3,a4,a5,a6,fun k'' r'' c1 c2 hr' e'=>?_⟩
     rcases Wy k k'' with y|y
     ·exact a7 k'' r'' y c2 hr' e'
     ·have:k''=k:=by omega
      subst this;exact here r'' hr' e'
  ·have:k=K:=by omega
   subst this
   refine .inl ⟨?_,fun k' r a b=>by omega⟩
   show (match t.slot (bW t.mask (bits h) k).j with|.empty=>_|.dummy=>_|.live i=>_)=_
   rw [o.empty hK]
   show some (Met.empty _ (bW t.mask (bits h) k).dummy)=_
   rw [A9]
end
noncomputable def lv (m:Nat)(ow:Array (Option Nat)):List (Nat×Nat):=(UB (m+1)).filterMap fun j=>(ow.getD j none).map (j,·)
theorem mem_lv {m:Nat}{ow:Array (Option Nat)}{j i:Nat}:(j,i)∈lv m ow↔j<=m/\ow.getD j none=some i:=by
 unfold lv
 rw [WK]
 constructor
 ·rintro ⟨a,ha,e⟩
  rw [Tq] at e
  obtain ⟨b,e1,e2⟩:=e
  cases e2
  exact ⟨by simpa [a1R] using ha,e1⟩
 ·rintro ⟨h1,h2⟩
  exact ⟨j,by simpa [a1R] using h1,by rw [h2];rfl⟩
structure Ow (m:Nat)(ds:List Int)(ow:Array (Option Nat)):Prop where
 size:ow.size=m+1
 lt:∀ j i,ow.getD j none=some i->i<ds.length
 all:∀ i,i<ds.length->∃ j,ow.getD j none=some i
 inj:∀ j j' i,ow.getD j none=some i->ow.getD j' none=some i->j=j'
 road:∀ j i,ow.getD j none=some i->uX m ((lv m ow).map (·.1)) (bits (ds.getD i 0)) j
section
variable {m:Nat}{ds:List Int}{ow:Array (Option Nat)}
theorem Ow.le (o:Ow m ds ow){j i:Nat}(h:ow.getD j none=some i):j<=m:=by
 rcases Wy j ow.size with z|z
 ·rw [o.size] at z;omega
 ·simp [WI,XI.mpr z] at h
theorem Ow.taken (o:Ow m ds ow){j:Nat}(hj:j<=m):j∈(lv m ow).map (·.1)↔(ow.getD j (some 0)).isNone=false:=by
 have hs:j<ow.size:=by rw [o.size];omega
 have e:ow.getD j (some 0)=ow.getD j none:=by simp [WI,hs]
 rw [e]
 constructor
 ·intro q
  obtain ⟨⟨a,i⟩,q2,rfl⟩:=UZ.mp q
  rw [(mem_lv.mp q2).2];rfl
 ·intro q
  cases z:ow.getD j none with
  | none=>rw [z] at q;cases q
  | some i=>exact UZ.mpr ⟨(j,i),mem_lv.mpr ⟨hj,z⟩,rfl⟩
theorem Ow.free (o:Ow m ds ow){b:Nat}:∀ (f n k0:Nat),bW m b k0=hd m (lp m b n).1 (lp m b n).2->(∀ k',k'<k0->(bW m b k').j∈(lv m ow).map (·.1))->(∃ N,n<=N/\N<n+f/\(lp m b N).1∉(lv m ow).map (·.1))->
  ∃ j,YB m ow f (lp m b n).1 (lp m b n).2=some j/\j<=m/\j∉(lv m ow).map (·.1)/\uX m ((lv m ow).map (·.1)) b j
 | 0,n,k0,_,_,⟨N,h1,h2,_⟩=>by omega
 | f+1,n,k0,hk,ht,⟨N,h1,h2,hN⟩=>by
  have hi:=Ii m b n
  have hre:runEnd m (lp m b n).1<=m:=by unfold runEnd;split<;>omega
  have hri:(lp m b n).1<=runEnd m (lp m b n).1:=by unfold runEnd;split<;>omega
  unfold YB
  cases z:(UB (runEnd m (lp m b n).1+1 - (lp m b n).1)).find? fun k=>(ow.getD ((lp m b n).1+k) (some 0)).isNone with
  | some r=>
   rw [List.find?_range_eq_some] at z
   obtain ⟨z1,z2,z3⟩:=z
   rw [Vn] at z2
   refine ⟨(lp m b n).1+r,rfl,by omega,fun q=>?_,k0+r,by rw [oU hk r (by omega)],fun k' hk'=>?_⟩
   ·rw [o.taken (by omega)] at q
    rw [q] at z1;cases z1
   ·rcases Wy k' k0 with y|y
    ·exact ht k' y
    ·obtain ⟨d,rfl⟩:=Z4 y
     rw [oU hk d (by omega)]
     show (lp m b n).1+d∈_
     rw [o.taken (by omega)]
     have:=z3 d (by omega)
     simpa using this
  | none=>
   rw [List.find?_range_eq_none] at z
   have tk:∀ r,r<runEnd m (lp m b n).1+1 - (lp m b n).1->(lp m b n).1+r∈(lv m ow).map (·.1):=fun r hr=>by
    rw [o.taken (by omega)]
    have:=z r hr
    simpa using this
   have ne:N≠n:=fun e=>hN (by rw [e];exact tk 0 (by omega))
   refine Ow.free o f (n+1) _ (Ih hk) (fun k' hk'=>?_) ⟨N,by omega,by omega,hN⟩
   rcases Wy k' k0 with y|y
   ·exact ht k' y
   ·obtain ⟨d,rfl⟩:=Z4 y
    rw [oU hk d (by omega)]
    exact tk d (by omega)
end
theorem Ow.nil (m:Nat):Ow m [] (Zh (m+1) none):=by
 have e:∀ j,(Zh (m+1) (none:Option Nat)).getD j none=none:=fun j=>by
  simp [WI]
 have no:∀ {P:Prop}(j i:Nat),(Zh (m+1) (none:Option Nat)).getD j none=some i->P:=fun j i h=>by
  rw [e] at h;exact nomatch h
 exact ⟨by simp,fun j i h=>no j i h,fun i h=>absurd h (Xv _),fun j j' i h _=>no j i h,fun j i h=>no j i h⟩
end Tb
end L3
namespace L3
open PySem
open PySem.SetTable (Probe Met Slot bits runEnd leap turns insertAt sizeAbove)
namespace Tb
section
variable {prog:Ub}{w:Up}{K:Type} [DecidableEq K] {knd:KeyKind prog w K}{A:Ue}{E:Value->Tv->Prop}{s:Tv}
theorem fits_of {t:Ym}{R:List mH}{es:Array (Int×Value)}(o:Ok t R)(he:es.toList=R.map (·.2)):t.fits es.size=true:=by
 have h1:es.size=R.length:=by simpa using congrArg Vu he
 have h2:=o.room
 unfold SetTable.fits SetTable.fill
 rw [o.size,h1,o.dum]
 simp;exact h2
end
section
variable {prog:Ub}{w:Up}{A:Ue}{E:Value->Tv->Prop}{s:Tv}
noncomputable abbrev El:=List Int×Addr
noncomputable def hashT (k:List Int):Int:=reduceHash (a2M (k.map hashInt))
noncomputable def Il (p:El):Int×Value:=(hashT p.1,TM p.2)
noncomputable def Msk (m:Nat):Prop:=m=7\/m=31\/m=127\/m=511
theorem Msk.cov {m:Nat}(h:Msk m):A7 m=true:=by
 rcases h with rfl|rfl|rfl|rfl<;>decide +kernel
theorem Msk.odd {m:Nat}(h:Msk m):m % 2=1:=by
 rcases h with rfl|rfl|rfl|rfl<;>rfl
noncomputable def uZ (w:Up):Bool:=w.params.followText "set-order"
noncomputable def Ba (led:Bool)(L:List El)(o:Obj):Prop:=∃ es ep t R,o.ExactSet/\o.data=.set es ep t/\es.toList=R.map (·.2)/\Ok t R/\es.toList.Perm (L.map Il)/\(L.map (·.1)).Nodup/\Msk t.mask/\L.length * 5<t.mask * 3/\t.plain=true/\t.led=led
noncomputable def SObj (L:List El)(o:Obj):Prop:=∃ led,Ba led L o
noncomputable def Ac (prog:Ub)(w:Up)(h:UE)(a:Addr)(L:List El):Prop:=∃ o,h.get? a=some o/\Ba (!uZ w) L o/\∀ p∈L,IsTupleKey (X6 prog w) h p.1 p.2
end
end Tb
end L3
namespace L3
open PySem
namespace Tb
noncomputable def Im (w:Up)(t:Ym):Nat->Nat
 | 0=>0
 | i+1=>if uZ w then 0 else t.place.getD i 0+1
section
variable {prog:Ub}{w:Up}{A:Ue}{E:Value->Tv->Prop}{s:Tv}
noncomputable def SIt (w:Up)(h:UE)(I a:Addr)(t:Ym)(i n ep:Nat):Prop:=∃ o,h.get? I=some o/\o.cls=.type "set_iterator"/\o.data=.fields #[VW (Im w t i),VW i,.ref a,VW n,VW ep]
theorem SIt.ty {I a:Addr}{t:Ym}{i n ep:Nat}(x:SIt w s.heap I a t i n ep):s.TypeIs (.ref I) "set_iterator":=let ⟨o,ho,hc,_⟩:=x;⟨o,ho,hc⟩
structure SAt (w:Up)(h:UE)(a:Addr)(es:Array (Int×Value))(ep:Nat)(t:Ym)(R:List mH):Prop where
 at_:∃ o,h.get? a=some o/\o.cls=.type "set"/\o.data=.set es ep t
 he:es.toList=R.map (·.2)
 ok:Ok t R
 pl:t.plain=true
 led:t.led = !uZ w
theorem SAt.ty {a:Addr}{es:Array (Int×Value)}{ep:Nat}{t:Ym}{R:List mH}(x:SAt w s.heap a es ep t R):s.TypeIs (.ref a) "set":=let ⟨o,ho,hc,_⟩:=x.at_;⟨o,ho,hc⟩
end
end Tb
end L3
namespace L3
open PySem L2
inductive D where
 | non|bl (b:Bool)|int (i:Int)|str (x:Str)|tup (xs:List D)|rol (xs:List D)|loc (a:Nat)|ty (n:String)
 deriving Inhabited
inductive C where
 | lst (xs:List D)
 | dK (kvs:List (aX×D))
 | st (ks:List (List Int))
 | dT (kvs:List (List Int×D))
 | exc (x:Str)(ns:List Str)(ds:List D)
 deriving Inhabited
noncomputable abbrev Hm:=List C
noncomputable abbrev aG:=List (Option D)
noncomputable abbrev ME:=aG->Hm->Option (D×Hm)
noncomputable abbrev MT:=aG->Hm->Option (Bool×Hm)
noncomputable abbrev MA:=aG->Hm->Option (List D×Hm)
inductive Fl where
 | nx|rt (d:D)|bk|ct
noncomputable abbrev MS:=aG->Hm->Option (Fl×aG×Hm)
noncomputable abbrev MF:=List D->Hm->Option (D×Hm)
noncomputable def RoL (K:To)(H:Hp)(p:Addr)(xs:List V):Prop:=
 (∃ o,H p=some (.frz o (.lst xs))) \/
  ∃ (o:Obj)(its:Array Value)(n:Nat),K.lookup p=some o/\o.cls=.type "list"/\o.dict=none/\o.data=.seq its n/\its.size<=TL/\Vals xs its.toList
theorem RoL.sq {K:To}{H:Hp}{p:Addr}{xs:List V}(h:RoL K H p xs):SqL K H p xs:=by
 rcases h with ⟨o,h⟩|h
 ·exact .inl (.inr ⟨o,h⟩)
 ·exact .inr h
mutual
inductive IsD (K:To)(π:Nat->Addr)(n:Nat)(H:Hp):V->D->Prop where
 | non:IsD K π n H .non .non
 | bl (b:Bool):IsD K π n H (.bl b) (.bl b)
 | int (i:Int):IsD K π n H (.int i) (.int i)
 | str (x:Str):IsD K π n H (.str x) (.str x)
 | tup {p:Addr}{vs:List V}{ds:List D}(h:SqT K H p vs)(t:IsDs K π n H vs ds):IsD K π n H (.ref p) (.tup ds)
 | rol {p:Addr}{vs:List V}{ds:List D}(h:RoL K H p vs)(t:IsDs K π n H vs ds):IsD K π n H (.ref p) (.rol ds)
 | loc {a:Nat}(h:a<n):IsD K π n H (.ref (π a)) (.loc a)
 | ty (x:String):IsD K π n H (.ty x) (.ty x)
inductive IsDs (K:To)(π:Nat->Addr)(n:Nat)(H:Hp):List V->List D->Prop where
 | nil:IsDs K π n H [] []
 | cons {v:V}{d:D}{vs:List V}{ds:List D}(h:IsD K π n H v d)(t:IsDs K π n H vs ds):IsDs K π n H (v::vs) (d::ds)
end
structure Ext (π:Nat->Addr)(n:Nat)(H:Hp)(π':Nat->Addr)(n':Nat)(H':Hp):Prop where
 le:n<=n'
 pi:∀ a,a<n->π' a=π a
 tup:∀ p vs,H p=some (.tup vs)->H' p=some (.tup vs)
 frz:∀ p o u,H p=some (.frz o u)->H' p=some (.frz o u)
structure Ext0 (π:Nat->Addr)(n:Nat)(H:Hp)(π':Nat->Addr)(n':Nat)(H':Hp):Prop where
 le:n<=n'
 pi:∀ a,a<n->π' a=π a
 tup:∀ p vs,H p=some (.tup vs)->H' p=some (.tup vs)
 frz:∀ p o u,(∀ φ,u≠HO.ext φ)->H p=some (.frz o u)->H' p=some (.frz o u)
section
variable {K:To}{π π' π2:Nat->Addr}{n n' n2:Nat}{H H' H2:Hp}
theorem Ext.weak (e:Ext π n H π' n' H'):Ext0 π n H π' n' H':=⟨e.le,e.pi,e.tup,fun p o u _ h=>e.frz p o u h⟩
theorem Ext.refl:Ext π n H π n H:=⟨TK _,fun _ _=>rfl,fun _ _ h=>h,fun _ _ _ h=>h⟩
theorem Ext.trans (a:Ext π n H π' n' H')(b:Ext π' n' H' π2 n2 H2):Ext π n H π2 n2 H2:=
 ⟨UU a.le b.le,fun i h=>(b.pi i (T6 h a.le)).trans (a.pi i h),fun p vs h=>b.tup p vs (a.tup p vs h),fun p o u h=>b.frz p o u (a.frz p o u h)⟩
theorem Ext0.sqT (e:Ext0 π n H π' n' H'){p:Addr}{vs:List V}(h:SqT K H p vs):SqT K H' p vs:=by
 rcases h with h|h
 ·rcases h with h|⟨o,h⟩
  ·exact .inl (.inl (e.tup _ _ h))
  ·exact .inl (.inr ⟨o,e.frz _ _ _ (fun _ z=>nomatch z) h⟩)
 ·exact .inr h
theorem Ext.sqT (e:Ext π n H π' n' H'){p:Addr}{vs:List V}(h:SqT K H p vs):SqT K H' p vs:=e.weak.sqT h
theorem Ext0.roL (e:Ext0 π n H π' n' H'){p:Addr}{vs:List V}(h:RoL K H p vs):RoL K H' p vs:=by
 rcases h with ⟨o,h⟩|h
 ·exact .inl ⟨o,e.frz _ _ _ (fun _ z=>nomatch z) h⟩
 ·exact .inr h
theorem Ext.roL (e:Ext π n H π' n' H'){p:Addr}{vs:List V}(h:RoL K H p vs):RoL K H' p vs:=e.weak.roL h
mutual
theorem IsD.mono0 {v:V}{d:D}(e:Ext0 π n H π' n' H'):IsD K π n H v d->IsD K π' n' H' v d
 | .non=>.non
 | .bl b=>.bl b
 | .int i=>.int i
 | .str x=>.str x
 | .ty x=>.ty x
 | .tup h t=>.tup (e.sqT h) (IsDs.mono0 e t)
 | .rol h t=>.rol (e.roL h) (IsDs.mono0 e t)
 | .loc h=>by
  rw [<- e.pi _ h]
  exact .loc (T6 h e.le)
theorem IsDs.mono0 {vs:List V}{ds:List D}(e:Ext0 π n H π' n' H'):IsDs K π n H vs ds->IsDs K π' n' H' vs ds
 | .nil=>.nil
 | .cons h t=>.cons (IsD.mono0 e h) (IsDs.mono0 e t)
end
theorem IsD.mono {v:V}{d:D}(e:Ext π n H π' n' H')(h:IsD K π n H v d):IsD K π' n' H' v d:=h.mono0 e.weak
theorem IsDs.mono {vs:List V}{ds:List D}(e:Ext π n H π' n' H')(h:IsDs K π n H vs ds):IsDs K π' n' H' vs ds:=h.mono0 e.weak
theorem IsDs.length {vs:List V}{ds:List D}(h:IsDs K π n H vs ds):vs.length=ds.length:=by
 induction ds generalizing vs with
 | nil=>cases h;rfl
 | cons d ds ih=>
  cases h with
  | cons h t=>rw [Um,Um,ih t]
theorem IsDs.get {vs:List V}{ds:List D}(h:IsDs K π n H vs ds){i:Nat}{d:D}(e:ds[i]? = some d):∃ v,vs[i]? = some v/\IsD K π n H v d:=by
 induction ds generalizing vs i with
 | nil=>simp at e
 | cons d' ds ih=>
  cases h with
  | cons h t=>
   cases i with
   | zero=>
    simp at e
    subst e
    exact ⟨_,rfl,h⟩
   | succ i=>
    obtain ⟨v,h1,h2⟩:=ih t (by simpa using e)
    exact ⟨v,by simpa using h1,h2⟩
theorem IsDs.append {vs ws:List V}{ds es:List D}(h:IsDs K π n H vs ds)(h2:IsDs K π n H ws es):IsDs K π n H (vs++ws) (ds++es):=by
 induction ds generalizing vs with
 | nil=>cases h;exact h2
 | cons d ds ih=>
  cases h with
  | cons h t=>exact .cons h (ih t)
theorem IsDs.drop {vs:List V}{ds:List D}(h:IsDs K π n H vs ds)(k:Nat):IsDs K π n H (vs.drop k) (ds.drop k):=by
 induction ds generalizing vs k with
 | nil=>cases h;simpa using IsDs.nil
 | cons d ds ih=>
  cases h with
  | cons h t=>
   cases k with
   | zero=>exact .cons h t
   | succ k=>exact ih t k
theorem IsDs.take {vs:List V}{ds:List D}(h:IsDs K π n H vs ds)(k:Nat):IsDs K π n H (vs.take k) (ds.take k):=by
 induction ds generalizing vs k with
 | nil=>cases h;simpa using IsDs.nil
 | cons d ds ih=>
  cases h with
  | cons h t=>
   cases k with
   | zero=>exact .nil
   | succ k=>exact .cons h (ih t k)
theorem IsDs.atI {vs:List V}{ds:List D}(h:IsDs K π n H vs ds){i:Int}{d:D}(e:L2.atI ds i=some d):∃ v,L2.atI vs i=some v/\IsD K π n H v d:=by
 unfold L2.atI at e ⊢
 rw [h.length]
 cases q:iR ds.length i with
 | none=>rw [q] at e;cases e
 | some j=>
  rw [q] at e
  exact h.get e
end
noncomputable def q8 (p:Addr)(L:List Tb.El):HO:=.ext fun h=>∃ o,h.get? p=some o/\Tb.SObj L o
noncomputable def Bb (p:List Int×Addr×V)(w:Value):Vf:=⟨Tb.hashT p.1,.ref p.2.1,w⟩
noncomputable def a9 (a:Addr)(ps:List (List Int×Addr×V)):HO:=.ext fun h=>∃ ws:List Value,Vals (ps.map (·.2.2)) ws/\(a == VL)=false/\ps.length<=TL /\
 ∃ o es ep,h.get? a=some o/\o.ExactDict/\o.data=.dict es ep/\es.toList=Z5 Bb ps ws/\(ps.map (·.1)).Nodup
noncomputable def ExcIs (K:To)(π:Nat->Addr)(n:Nat)(H:Hp)(ob:Obj)(x:Str)(ns:List Str)(ds:List D):Prop:=
 UR K Ux x=some (some ob.cls)/\(∃ vs,ob.data=.fields vs) /\
  (ns=[]/\ds=[]/\ob.dict=none\/∃ dx od vs,ob.dict=some dx/\H dx=some (.frz od (.xd vs))/\vs.map (·.1)=ns/\IsDs K π n H (vs.map (·.2)) ds)
theorem ExcIs.mono0 {K:To}{π π':Nat->Addr}{n n':Nat}{H H':Hp}{ob:Obj}{x:Str}{ns:List Str}{ds:List D}(e:Ext0 π n H π' n' H')(h:ExcIs K π n H ob x ns ds):ExcIs K π' n' H' ob x ns ds:=by
 obtain ⟨h1,h2,h3⟩:=h
 refine ⟨h1,h2,?_⟩
 rcases h3 with h3|⟨dx,od,vs,g1,g2,g3,g4⟩
 ·exact .inl h3
 ·exact .inr ⟨dx,od,vs,g1,e.frz _ _ _ (fun _ z=>nomatch z) g2,g3,g4.mono0 e⟩
theorem ExcIs.mono {K:To}{π π':Nat->Addr}{n n':Nat}{H H':Hp}{ob:Obj}{x:Str}{ns:List Str}{ds:List D}(e:Ext π n H π' n' H')(h:ExcIs K π n H ob x ns ds):ExcIs K π' n' H' ob x ns ds:=h.mono0 e.weak
structure Rp (K:To)(π:Nat->Addr)(H:Hp)(μ:Hm):Prop where
 inj:∀ a b,a<μ.length->b<μ.length->π a=π b->a=b
 has:∀ a,a<μ.length->(H (π a)).isSome=true
 lst:∀ a xs,μ[a]? = some (.lst xs)->∃ vs,H (π a)=some (.lst vs)/\IsDs K π μ.length H vs xs
 dK:∀ a kvs,μ[a]? = some (.dK kvs)->∃ vs,H (π a)=some (.dK vs)/\vs.map (·.1)=kvs.map (·.1)/\IsDs K π μ.length H (vs.map (·.2)) (kvs.map (·.2))
 st:∀ a ks,μ[a]? = some (.st ks)->∃ L:List Tb.El,H (π a)=some (q8 (π a) L)/\L.map (·.1)=ks/\IsDs K π μ.length H (L.map fun p=>V.ref p.2) (ks.map fun k=>D.tup (k.map D.int))
 dT:∀ a kvs,μ[a]? = some (.dT kvs)->∃ ps:List (List Int×Addr×V),H (π a)=some (a9 (π a) ps)/\ps.map (·.1)=kvs.map (·.1)/\IsDs K π μ.length H (ps.map fun p=>V.ref p.2.1) (kvs.map fun k=>D.tup (k.1.map D.int))/\IsDs K π μ.length H (ps.map (·.2.2)) (kvs.map (·.2))
 exc:∀ a x ns ds,μ[a]? = some (.exc x ns ds)->∃ (ob:Obj)(φ:UE->Prop),H (π a)=some (.frz ob (.ext φ))/\ExcIs K π μ.length H ob x ns ds
structure En (K:To)(π:Nat->Addr)(n:Nat)(H:Hp)(σ:St)(ρ:aG):Prop where
 len:σ.length=ρ.length
 get:∀ (i:Nat)(d:D),ρ[i]? = some (some d)->∃ v,σ[i]? = some (some v)/\IsD K π n H v d
section
variable {K:To}{π π' π2:Nat->Addr}{n n' n2:Nat}{H H' H2:Hp}{μ μ':Hm}{σ:St}{ρ:aG}
theorem En.mono (E:En K π n H σ ρ)(e:Ext π n H π' n' H'):En K π' n' H' σ ρ:=
 ⟨E.len,fun i d h=>let ⟨v,h1,h2⟩:=E.get i d h;⟨v,h1,h2.mono e⟩⟩
theorem En.set (E:En K π n H σ ρ){v:V}{d:D}(h:IsD K π n H v d)(i:Nat):En K π n H (σ.set i (some v)) (ρ.set i (some d)):=by
 refine ⟨by rw [VG,VG];exact E.len,fun j d' e=>?_⟩
 rw [YO] at e ⊢
 by_cases hij:i=j
 ·subst hij
  rw [if_pos rfl] at e ⊢
  rw [E.len]
  by_cases hl:i<ρ.length
  ·rw [if_pos hl] at e ⊢
   cases e
   exact ⟨v,rfl,h⟩
  ·rw [if_neg hl] at e
   cases e
 ·rw [if_neg hij] at e ⊢
  exact E.get j d' e
theorem Rp.ne {p:Addr}(R:Rp K π H μ)(h:H p=none){a:Nat}(ha:a<μ.length):π a≠p:=fun e=>by
 have:=R.has a ha
 rw [e,h] at this
 cases this
theorem Rp.fresh {p:Addr}{o:HO}(R:Rp K π H μ)(h:H p=none):Ext π μ.length H π μ.length (aH H p o)/\Rp K π (aH H p o) μ:=by
 have keep:∀ b u,H b=some u->aH H p o b=some u:=fun b u e=>by
  rw [aW (d9 e h)]
  exact e
 have e:Ext π μ.length H π μ.length (aH H p o):=⟨TK _,fun _ _=>rfl,fun q vs e=>keep q _ e,fun q o u e=>keep q _ e⟩
 refine ⟨e,R.inj,fun a ha=>?_,fun a xs ha=>?_,fun a kvs ha=>?_,fun a ks ha=>?_
  ,fun a kvs ha=>?_
  ,fun a x ns ds ha=>?_
  ⟩
 ·rw [aW (R.ne h ha)]
  exact R.has a ha
 ·obtain ⟨vs,h1,h2⟩:=R.lst a xs ha
  exact ⟨vs,keep _ _ h1,h2.mono e⟩
 ·obtain ⟨vs,h1,h2,h3⟩:=R.dK a kvs ha
  exact ⟨vs,keep _ _ h1,h2,h3.mono e⟩
 ·obtain ⟨vs,h1,h2,h3⟩:=R.st a ks ha
  exact ⟨vs,keep _ _ h1,h2,h3.mono e⟩
 ·obtain ⟨vs,h1,h2,h3,h4⟩:=R.dT a kvs ha
  exact ⟨vs,keep _ _ h1,h2,h3.mono e,h4.mono e⟩
 ·obtain ⟨ob,φ,h1,h2⟩:=R.exc a x ns ds ha
  exact ⟨ob,φ,keep _ _ h1,h2.mono e⟩
noncomputable def q9 (K:To)(π:Nat->Addr)(n:Nat)(H:Hp)(p:Addr):C->HO->Prop
 | .lst xs,.lst vs=>IsDs K π n H vs xs
 | .dK kvs,.dK vs=>vs.map (·.1)=kvs.map (·.1)/\IsDs K π n H (vs.map (·.2)) (kvs.map (·.2))
 | .st ks,o=>∃ L:List Tb.El,o=q8 p L/\L.map (·.1)=ks/\IsDs K π n H (L.map fun p=>V.ref p.2) (ks.map fun k=>D.tup (k.map D.int))
 | .dT kvs,o=>∃ ps:List (List Int×Addr×V),o=a9 p ps/\ps.map (·.1)=kvs.map (·.1)/\IsDs K π n H (ps.map fun p=>V.ref p.2.1) (kvs.map fun k=>D.tup (k.1.map D.int))/\IsDs K π n H (ps.map (·.2.2)) (kvs.map (·.2))
 | .exc x ns ds,o=>∃ (ob:Obj)(φ:UE->Prop),o=.frz ob (.ext φ)/\ExcIs K π n H ob x ns ds
 | _,_=>False
noncomputable def fV (π:Nat->Addr)(n:Nat)(p:Addr):Nat->Addr:=fun a=>if a=n then p else π a
theorem Rp.alloc {p:Addr}{c:C}{o:HO}(R:Rp K π H μ)(h:H p=none)(hc:q9 K π μ.length H p c o) :
  Ext π μ.length H (fV π μ.length p) (μ++[c]).length (aH H p o)/\Rp K (fV π μ.length p) (aH H p o) (μ++[c])/\fV π μ.length p μ.length=p:=by
 have hl:(μ++[c]).length=μ.length+1:=by simp
 have keep:∀ b u,H b=some u->aH H p o b=some u:=fun b u e=>by
  rw [aW (d9 e h)]
  exact e
 have pn:fV π μ.length p μ.length=p:=if_pos rfl
 have po:∀ a,a<μ.length->fV π μ.length p a=π a:=fun a ha=>if_neg (TV ha)
 have e:Ext π μ.length H (fV π μ.length p) (μ++[c]).length (aH H p o):=⟨by rw [hl];exact Ws _,po,fun q vs e=>keep q _ e,fun q o u e=>keep q _ e⟩
 have split:∀ a,a<(μ++[c]).length->a<μ.length\/a=μ.length:=fun a ha=>by rw [hl] at ha;omega
 have get:∀ a,a<μ.length->(μ++[c])[a]? = μ[a]?:=fun a ha=>Uz ha
 have getn:(μ++[c])[μ.length]? = some c:=by simp
 refine ⟨e,⟨fun a b ha hb q=>?_,fun a ha=>?_,fun a xs ha=>?_,fun a kvs ha=>?_,fun a ks ha=>?_
  ,fun a kvs ha=>?_
  ,fun a x ns ds ha=>?_
  ⟩,pn⟩
 ·rcases split a ha with ha|rfl<;>rcases split b hb with hb|rfl
  ·rw [po a ha,po b hb] at q
   exact R.inj a b ha hb q
  ·rw [po a ha,pn] at q
   exact absurd q (R.ne h ha)
  ·rw [pn,po b hb] at q
   exact absurd q.symm (R.ne h hb)
  ·rfl
 ·rcases split a ha with ha|rfl
  ·rw [po a ha,aW (R.ne h ha)]
   exact R.has a ha
  ·rw [pn,bU]
   rfl
 ·have hlt:a<(μ++[c]).length:=(Tw.mp ha).1
  rcases split a hlt with h1|rfl
  ·rw [get a h1] at ha
   obtain ⟨vs,h2,h3⟩:=R.lst a xs ha
   rw [po a h1]
   exact ⟨vs,keep _ _ h2,h3.mono e⟩
  ·rw [getn] at ha
   cases ha
   cases o with
   | lst vs=>
    rw [pn]
    exact ⟨vs,bU,IsDs.mono e hc⟩
   | _=>exact UC hc
 ·have hlt:a<(μ++[c]).length:=(Tw.mp ha).1
  rcases split a hlt with h1|rfl
  ·rw [get a h1] at ha
   obtain ⟨vs,h2,h3,h4⟩:=R.dK a kvs ha
   rw [po a h1]
   exact ⟨vs,keep _ _ h2,h3,h4.mono e⟩
  ·rw [getn] at ha
   cases ha
   cases o with
   | dK vs=>
    rw [pn]
    exact ⟨vs,bU,hc.1,IsDs.mono e hc.2⟩
   | _=>exact UC hc
 ·have hlt:a<(μ++[c]).length:=(Tw.mp ha).1
  rcases split a hlt with h1|rfl
  ·rw [get a h1] at ha
   obtain ⟨vs,h2,h3,h4⟩:=R.st a ks ha
   rw [po a h1]
   exact ⟨vs,keep _ _ h2,h3,h4.mono e⟩
  ·rw [getn] at ha
   cases ha
   obtain ⟨L,rfl,h3,h4⟩:=hc
   rw [pn]
   exact ⟨L,bU,h3,h4.mono e⟩
 ·have hlt:a<(μ++[c]).length:=(Tw.mp ha).1
  rcases split a hlt with h1|rfl
  ·rw [get a h1] at ha
   obtain ⟨vs,h2,h3,h4,h5⟩:=R.dT a kvs ha
   rw [po a h1]
   exact ⟨vs,keep _ _ h2,h3,h4.mono e,h5.mono e⟩
  ·rw [getn] at ha
   cases ha
   obtain ⟨L,rfl,h3,h4,h5⟩:=hc
   rw [pn]
   exact ⟨L,bU,h3,h4.mono e,h5.mono e⟩
 ·have hlt:a<(μ++[c]).length:=(Tw.mp ha).1
  rcases split a hlt with h1|rfl
  ·rw [get a h1] at ha
   obtain ⟨ob,φ,h2,h3⟩:=R.exc a x ns ds ha
   rw [po a h1]
   exact ⟨ob,φ,keep _ _ h2,h3.mono e⟩
  ·rw [getn] at ha
   cases ha
   obtain ⟨ob,φ,rfl,h3⟩:=hc
   rw [pn]
   exact ⟨ob,φ,bU,h3.mono e⟩
theorem Rp.put0 {a:Nat}{c:C}{o u:HO}(R:Rp K π H μ)(ha:a<μ.length)(ho:H (π a)=some u)(hu:(∃ vs,u=.lst vs)\/(∃ vs,u=.dK vs)\/(∃ φ,u=.ext φ)\/∃ ob φ,u=.frz ob (.ext φ))(hc:q9 K π μ.length H (π a) c o) :
  Ext0 π μ.length H π (μ.set a c).length (aH H (π a) o)/\Rp K π (aH H (π a) o) (μ.set a c):=by
 have hl:(μ.set a c).length=μ.length:=VG ..
 have e:Ext0 π μ.length H π (μ.set a c).length (aH H (π a) o):=by
  refine ⟨Ye hl.symm,fun _ _=>rfl,fun q vs z=>?_,fun q o' u' nx z=>?_⟩
  ·rw [aW]
   ·exact z
   ·intro e
    subst e
    rw [ho] at z
    rcases hu with ⟨w,rfl⟩|⟨w,rfl⟩|⟨w,rfl⟩|⟨ob,w,rfl⟩<;>cases z
  ·rw [aW]
   ·exact z
   ·intro e
    subst e
    rw [ho] at z
    rcases hu with ⟨w,rfl⟩|⟨w,rfl⟩|⟨w,rfl⟩|⟨ob,w,rfl⟩<;>cases z
    exact nx _ rfl
 have other:∀ b,b<μ.length->b≠a->aH H (π a) o (π b)=H (π b):=fun b hb hne=>aW fun q=>hne (R.inj b a hb ha q)
 refine ⟨e,⟨fun b b' hb hb'=>R.inj b b' (hl ▸ hb) (hl ▸ hb'),fun b hb=>?_,fun b xs hb=>?_,fun b kvs hb=>?_,fun b ks hb=>?_
  ,fun b kvs hb=>?_
  ,fun b x ns ds hb=>?_
  ⟩⟩
 ·by_cases h:b=a
  ·subst h
   rw [bU]
   rfl
  ·rw [other b (hl ▸ hb) h]
   exact R.has b (hl ▸ hb)
 ·have hlt:b<μ.length:=hl ▸ (Tw.mp hb).1
  by_cases h:b=a
  ·subst h
   rw [UD hlt] at hb
   cases hb
   cases o with
   | lst vs=>exact ⟨vs,bU,IsDs.mono0 e hc⟩
   | _=>exact UC hc
  ·rw [Vh (Va h)] at hb
   obtain ⟨vs,h2,h3⟩:=R.lst b xs hb
   exact ⟨vs,by rw [other b hlt h];exact h2,h3.mono0 e⟩
 ·have hlt:b<μ.length:=hl ▸ (Tw.mp hb).1
  by_cases h:b=a
  ·subst h
   rw [UD hlt] at hb
   cases hb
   cases o with
   | dK vs=>exact ⟨vs,bU,hc.1,IsDs.mono0 e hc.2⟩
   | _=>exact UC hc
  ·rw [Vh (Va h)] at hb
   obtain ⟨vs,h2,h3,h4⟩:=R.dK b kvs hb
   exact ⟨vs,by rw [other b hlt h];exact h2,h3,h4.mono0 e⟩
 ·have hlt:b<μ.length:=hl ▸ (Tw.mp hb).1
  by_cases h:b=a
  ·subst h
   rw [UD hlt] at hb
   cases hb
   obtain ⟨L,rfl,h3,h4⟩:=hc
   exact ⟨L,bU,h3,h4.mono0 e⟩
  ·rw [Vh (Va h)] at hb
   obtain ⟨vs,h2,h3,h4⟩:=R.st b ks hb
   exact ⟨vs,by rw [other b hlt h];exact h2,h3,h4.mono0 e⟩
 ·have hlt:b<μ.length:=hl ▸ (Tw.mp hb).1
  by_cases h:b=a
  ·subst h
   rw [UD hlt] at hb
   cases hb
   obtain ⟨L,rfl,h3,h4,h5⟩:=hc
   exact ⟨L,bU,h3,h4.mono0 e,h5.mono0 e⟩
  ·rw [Vh (Va h)] at hb
   obtain ⟨vs,h2,h3,h4,h5⟩:=R.dT b kvs hb
   exact ⟨vs,by rw [other b hlt h];exact h2,h3,h4.mono0 e,h5.mono0 e⟩
 ·have hlt:b<μ.length:=hl ▸ (Tw.mp hb).1
  by_cases h:b=a
  ·subst h
   rw [UD hlt] at hb
   cases hb
   obtain ⟨ob,φ,rfl,h3⟩:=hc
   exact ⟨ob,φ,bU,h3.mono0 e⟩
  ·rw [Vh (Va h)] at hb
   obtain ⟨ob,φ,h2,h3⟩:=R.exc b x ns ds hb
   exact ⟨ob,φ,by rw [other b hlt h];exact h2,h3.mono0 e⟩
theorem Rp.put {a:Nat}{c:C}{o u:HO}(R:Rp K π H μ)(ha:a<μ.length)(ho:H (π a)=some u)(hu:(∃ vs,u=.lst vs)\/(∃ vs,u=.dK vs)\/∃ φ,u=.ext φ)(hc:q9 K π μ.length H (π a) c o) :
  Ext π μ.length H π (μ.set a c).length (aH H (π a) o)/\Rp K π (aH H (π a) o) (μ.set a c):=by
 have hl:(μ.set a c).length=μ.length:=VG ..
 have e:Ext π μ.length H π (μ.set a c).length (aH H (π a) o):=by
  refine ⟨Ye hl.symm,fun _ _=>rfl,fun q vs z=>?_,fun q o' u' z=>?_⟩
  ·rw [aW]
   ·exact z
   ·intro e
    subst e
    rw [ho] at z
    rcases hu with ⟨w,rfl⟩|⟨w,rfl⟩|⟨w,rfl⟩<;>cases z
  ·rw [aW]
   ·exact z
   ·intro e
    subst e
    rw [ho] at z
    rcases hu with ⟨w,rfl⟩|⟨w,rfl⟩|⟨w,rfl⟩<;>cases z
 exact ⟨e,(R.put0 ha ho (hu.imp_right fun h=>h.imp_right .inl) hc).2⟩
end
noncomputable def KC (K:To)(Q:VK)(π:Nat->Addr)(n:Nat)(H:Hp)(d:D)(μ':Hm):Prop:=
 ∀ π' v H',Ext π n H π' μ'.length H'->Rp K π' H' μ'->IsD K π' μ'.length H' v d->Q v H'
theorem KC.after {K:To}{Q:VK}{π π1:Nat->Addr}{n n1:Nat}{H H1:Hp}{d:D}{μ':Hm}(k:KC K Q π n H d μ')(e:Ext π n H π1 n1 H1):KC K Q π1 n1 H1 d μ':=
 fun π' v H' e' R i=>k π' v H' (e.trans e') R i
noncomputable def tM (K:To)(m:ME):TE:=fun σ H Q=>∃ π ρ μ d μ',Rp K π H μ/\En K π μ.length H σ ρ/\m ρ μ=some (d,μ')/\KC K Q π μ.length H d μ'
noncomputable def cT (K:To)(m:MT):TT:=fun σ H Q=>∃ π ρ μ b μ',Rp K π H μ/\En K π μ.length H σ ρ/\m ρ μ=some (b,μ')/\∀ π' H',Ext π μ.length H π' μ'.length H'->Rp K π' H' μ'->Q b H'
noncomputable def eU (K:To)(m:MA):TA:=fun σ H Q=>∃ π ρ μ ds μ',Rp K π H μ/\En K π μ.length H σ ρ/\m ρ μ=some (ds,μ')/\∀ π' vs H',Ext π μ.length H π' μ'.length H'->Rp K π' H' μ'->IsDs K π' μ'.length H' vs ds->Q vs H'
noncomputable def kX (K:To)(E:Ends)(π:Nat->Addr)(n:Nat)(H:Hp)(fl:Fl)(ρ':aG)(μ':Hm):Prop:=
 match fl with
 | .nx=>∀ π' σ' H',Ext π n H π' μ'.length H'->Rp K π' H' μ'->En K π' μ'.length H' σ' ρ'->E.nx σ' H'
 | .bk=>∀ π' σ' H',Ext π n H π' μ'.length H'->Rp K π' H' μ'->En K π' μ'.length H' σ' ρ'->E.bk σ' H'
 | .ct=>∀ π' σ' H',Ext π n H π' μ'.length H'->Rp K π' H' μ'->En K π' μ'.length H' σ' ρ'->E.ct σ' H'
 | .rt d=>KC K E.rt π n H d μ'
noncomputable def cZ (K:To)(m:MS):TS:=fun E σ H=>∃ π ρ μ fl ρ' μ',Rp K π H μ/\En K π μ.length H σ ρ/\m ρ μ=some (fl,ρ',μ')/\kX K E π μ.length H fl ρ' μ'
noncomputable def gM (K:To)(k:Nat)(f:MF):Sp:=fun vs H Q _=>vs.length=k/\∃ π ds μ d μ',Rp K π H μ/\IsDs K π μ.length H vs ds/\f ds μ=some (d,μ')/\KC K Q π μ.length H d μ'
section
variable {X:Cx}{e a b c:TJ}{t:TE}{m ma mb mc:ME}{pos:Vk}
theorem cK (h:PE X e t)(hw:∀ σ H Q,tM X.K m σ H Q->t σ H Q):PE X e (tM X.K m):=fun a3G s σ H Q I q=>h a3G s σ H Q I (hw σ H Q q)
theorem rA {t:TT}{m:MT}(h:PT X e t)(hw:∀ σ H Q,cT X.K m σ H Q->t σ H Q):PT X e (cT X.K m):=fun a3G s σ H Q I q=>h a3G s σ H Q I (hw σ H Q q)
theorem Bc {t:TT}{m:MT}(h:PW X e t)(hw:∀ σ H Q,cT X.K m σ H Q->t σ H Q):PW X e (cT X.K m):=fun wh a3G s σ H Q I q=>h wh a3G s σ H Q I (hw σ H Q q)
theorem Bd {es:List TJ}{t:TA}{m:MA}(h:PA X es t)(hw:∀ σ H Q,eU X.K m σ H Q->t σ H Q):PA X es (eU X.K m):=fun p a3G s σ H Q I q=>h p a3G s σ H Q I (hw σ H Q q)
theorem gN {st:Stmt}{t:TS}{m:MS}(h:PS X st t)(hw:∀ E σ H,cZ X.K m E σ H->t E σ H):PS X st (cZ X.K m):=fun a3G s σ H E I q=>h a3G s σ H E I (hw E σ H q)
theorem Be {st:List Stmt}{t:TS}{m:MS}(h:PSs X st t)(hw:∀ E σ H,cZ X.K m E σ H->t E σ H):PSs X st (cZ X.K m):=fun a3G s σ H E I q=>h a3G s σ H E I (hw E σ H q)
noncomputable def aA (i:Nat):ME:=fun ρ μ=>match ρ[i]? with|some (some d)=>some (d,μ)|_=>none
noncomputable def mC (d:D):ME:=fun _ μ=>some (d,μ)
theorem Io {i:Nat}{ρ:aG}{μ μ':Hm}{d:D}(h:aA i ρ μ=some (d,μ')):ρ[i]? = some (some d)/\μ'=μ:=by
 unfold aA at h
 split at h
 ·rename_i d' e
  cases h
  exact ⟨e,rfl⟩
 ·cases h
theorem Ip {x:Str}(i:Nat)(h:PE X (.Name x pos) (oN i)):PE X (.Name x pos) (tM X.K (aA i)):=cK h (by
 rintro σ H Q ⟨π,ρ,μ,d,μ',R,E,hm,k⟩
 obtain ⟨h1,rfl⟩:=Io hm
 obtain ⟨v,h2,h3⟩:=E.get i d h1
 exact ⟨v,h2,k π v H .refl R h3⟩)
theorem mI {v:V}{d:D}(h:PE X e (tC v))(hd:∀ π n H,IsD X.K π n H v d):PE X e (tM X.K (mC d)):=cK h (by
 rintro σ H Q ⟨π,ρ,μ,d',μ',R,E,hm,k⟩
 cases hm
 exact k π v H .refl R (hd _ _ _))
theorem Iq {i:Int}{j:Nat}:PE X (.Constant (.int i) j pos) (tM X.K (mC (.int i))):=mI FK fun _ _ _=>.int i
theorem Ir {i:Bool}{j:Nat}:PE X (.Constant (.bool i) j pos) (tM X.K (mC (.bl i))):=mI FL fun _ _ _=>.bl i
theorem Iu {i:Str}{j:Nat}:PE X (.Constant (.str i) j pos) (tM X.K (mC (.str i))):=mI Aa fun _ _ _=>.str i
theorem Iv {j:Nat}:PE X (.Constant .none j pos) (tM X.K (mC .non)):=mI FN fun _ _ _=>.non
noncomputable def aB (f:D->D->Hm->Option (D×Hm))(a b:ME):ME:=fun ρ μ=>(a ρ μ).bind fun p=>(b ρ p.2).bind fun q=>f p.1 q.1 q.2
noncomputable def cG (K:To)(f:D->D->Hm->Option (D×Hm))(r:R2):Prop:=
 ∀ π H μ x y d μ' vx vy Q,Rp K π H μ->IsD K π μ.length H vx x->IsD K π μ.length H vy y->f x y μ=some (d,μ')->KC K Q π μ.length H d μ'->r vx vy H Q
theorem oV {f:D->D->Hm->Option (D×Hm)}{r:R2}{K:To}(hf:cG K f r):∀ σ H Q,tM K (aB f ma mb) σ H Q->oR r (tM K ma) (tM K mb) σ H Q:=by
 rintro σ H Q ⟨π,ρ,μ,d,μ',R,E,hm,k⟩
 obtain ⟨⟨x,μ1⟩,h1,hm⟩:=Tj.mp hm
 obtain ⟨⟨y,μ2⟩,h2,hm⟩:=Tj.mp hm
 exact ⟨π,ρ,μ,x,μ1,R,E,h1,fun π1 v1 H1 e1 R1 i1=>⟨π1,ρ,μ1,y,μ2,R1,E.mono e1,h2,fun π2 v2 H2 e2 R2 i2=>hf π2 H2 μ2 x y d μ' v1 v2 Q R2 (i1.mono e2) i2 hm (k.after (e1.trans e2))⟩⟩
theorem Iw {op:a0o}{r:R2}{f:D->D->Hm->Option (D×Hm)}(ho:OpR X (Wm op) r)(hf:cG X.K f r)(ha:PE X a (tM X.K ma))(hb:PE X b (tM X.K mb)):PE X (.BinOp a op b pos) (tM X.K (aB f ma mb)):=
 cK (GN ho ha hb) (oV hf)
theorem eH {op:Xm}{r:R2}{f:D->D->Hm->Option (D×Hm)}(ho:OpR X (UX op) r)(hf:cG X.K f r)(ha:PE X a (tM X.K ma))(hb:PE X b (tM X.K mb))(hm:Wo op b=false):PE X (.Compare a [op] [b] pos) (tM X.K (aB f ma mb)):=
 cK (GU ho ha hb hm) (oV hf)
noncomputable def aP (m:ME):MT:=fun ρ μ=>(m ρ μ).bind fun p=>match p.1 with|.bl b=>some (b,p.2)|_=>none
theorem Bf {K:To}:∀ σ H Q,cT K (aP m) σ H Q->tM K m σ H fun x H'=>∃ k,x=.bl k/\Q k H':=by
 rintro σ H Q ⟨π,ρ,μ,b,μ',R,E,hm,k⟩
 obtain ⟨⟨x,μ1⟩,h1,hm⟩:=Tj.mp hm
 cases x with
 | bl c=>
  cases hm
  refine ⟨π,ρ,μ,_,_,R,E,h1,fun π' v H' e' R' i'=>?_⟩
  cases i'
  exact ⟨_,rfl,k π' H' e' R'⟩
 | _=>cases hm
theorem eI {op:Xm}{r:R2}{f:D->D->Hm->Option (D×Hm)}(ho:OpR X (UX op) r)(hf:cG X.K f r)(ha:PE X a (tM X.K ma))(hb:PE X b (tM X.K mb))(hm:Wo op b=false):PT X (.Compare a [op] [b] pos) (cT X.K (aP (aB f ma mb))):=
 rA (GV ho ha hb hm) fun σ H Q h=>oV hf σ H _ (Bf σ H Q h)
end
end L3
namespace L3
open PySem L2
section
variable {X:Cx}{e a b c:TJ}{m ma mb mc:ME}{pos:Vk}{mt mu:MT}{rest:List TJ}
noncomputable def gO (a b:MT):MT:=fun ρ μ=>(a ρ μ).bind fun p=>match p.1 with|true=>b ρ p.2|false=>some (false,p.2)
noncomputable def gP (a b:MT):MT:=fun ρ μ=>(a ρ μ).bind fun p=>match p.1 with|true=>some (true,p.2)|false=>b ρ p.2
noncomputable def jQ (a:MT):MT:=fun ρ μ=>(a ρ μ).map fun p=>(!p.1,p.2)
theorem Iy (ha:PT X a (cT X.K mt)):PW X (.BoolOp .And [a] pos) (cT X.K mt):=FV ha
theorem Iz (ha:PT X a (cT X.K mt)):PW X (.BoolOp .Or [a] pos) (cT X.K mt):=FW ha
theorem IA (ha:PT X a (cT X.K mt))(hb:PW X (.BoolOp .And (b::rest) pos) (cT X.K mu)):PW X (.BoolOp .And (a::b::rest) pos) (cT X.K (gO mt mu)):=Bc (FX ha hb) (by
 rintro σ H Q ⟨π,ρ,μ,d,μ',R,E,hm,k⟩
 obtain ⟨⟨x,μ1⟩,h1,hm⟩:=Tj.mp hm
 refine ⟨π,ρ,μ,x,μ1,R,E,h1,fun π1 H1 e1 R1=>?_⟩
 cases x with
 | true=>
  refine jP ?_
  exact ⟨π1,ρ,μ1,d,μ',R1,E.mono e1,hm,fun π2 H2 e2 R2=>k π2 H2 (e1.trans e2) R2⟩
 | false=>
  refine jO ?_
  cases hm
  exact k π1 H1 e1 R1)
theorem IB (ha:PT X a (cT X.K mt))(hb:PW X (.BoolOp .Or (b::rest) pos) (cT X.K mu)):PW X (.BoolOp .Or (a::b::rest) pos) (cT X.K (gP mt mu)):=Bc (FY ha hb) (by
 rintro σ H Q ⟨π,ρ,μ,d,μ',R,E,hm,k⟩
 obtain ⟨⟨x,μ1⟩,h1,hm⟩:=Tj.mp hm
 refine ⟨π,ρ,μ,x,μ1,R,E,h1,fun π1 H1 e1 R1=>?_⟩
 cases x with
 | true=>
  refine jP ?_
  cases hm
  exact k π1 H1 e1 R1
 | false=>
  refine jO ?_
  exact ⟨π1,ρ,μ1,d,μ',R1,E.mono e1,hm,fun π2 H2 e2 R2=>k π2 H2 (e1.trans e2) R2⟩)
theorem IC (ha:PT X a (cT X.K mt)):PT X (.UnaryOp .Not a pos) (cT X.K (jQ mt)):=rA (FZ ha) (by
 rintro σ H Q ⟨π,ρ,μ,d,μ',R,E,hm,k⟩
 obtain ⟨⟨x,μ1⟩,h1,hm⟩:=Tq.mp hm
 cases hm
 exact ⟨π,ρ,μ,x,μ1,R,E,h1,fun π1 H1 e1 R1=>k π1 H1 e1 R1⟩)
noncomputable def gQ (a b:ME):ME:=fun ρ μ=>(a ρ μ).bind fun p=>match p.1 with|.bl true=>b ρ p.2|.bl false=>some (.bl false,p.2)|_=>none
noncomputable def u3 (a b:ME):ME:=fun ρ μ=>(a ρ μ).bind fun p=>match p.1 with|.bl true=>some (.bl true,p.2)|.bl false=>b ρ p.2|_=>none
noncomputable def mJ (a:ME):ME:=fun ρ μ=>(a ρ μ).bind fun p=>match p.1 with|.bl b=>some (.bl (!b),p.2)|_=>none
theorem ID {op:BoolOp}(h:PE X a (tM X.K m)):PE X (.BoolOp op [a] pos) (tM X.K m):=F3 h
theorem IE (ha:PE X a (tM X.K ma))(hb:PE X (.BoolOp .And (b::rest) pos) (tM X.K mb)):PE X (.BoolOp .And (a::b::rest) pos) (tM X.K (gQ ma mb)):=cK (F5 ha hb) (by
 rintro σ H Q ⟨π,ρ,μ,d,μ',R,E,hm,k⟩
 obtain ⟨⟨x,μ1⟩,h1,hm⟩:=Tj.mp hm
 cases x with
 | bl c=>
  refine ⟨π,ρ,μ,.bl c,μ1,R,E,h1,fun π1 v1 H1 e1 R1 i1=>?_⟩
  cases i1
  refine ⟨c,rfl,?_⟩
  cases c with
  | true=>
   refine jP ?_
   exact ⟨π1,ρ,μ1,d,μ',R1,E.mono e1,hm,k.after e1⟩
  | false=>
   refine jO ?_
   cases hm
   exact k π1 _ H1 e1 R1 (.bl false)
 | _=>cases hm)
theorem IF (ha:PE X a (tM X.K ma))(hb:PE X (.BoolOp .Or (b::rest) pos) (tM X.K mb)):PE X (.BoolOp .Or (a::b::rest) pos) (tM X.K (u3 ma mb)):=cK (F6 ha hb) (by
 rintro σ H Q ⟨π,ρ,μ,d,μ',R,E,hm,k⟩
 obtain ⟨⟨x,μ1⟩,h1,hm⟩:=Tj.mp hm
 cases x with
 | bl c=>
  refine ⟨π,ρ,μ,.bl c,μ1,R,E,h1,fun π1 v1 H1 e1 R1 i1=>?_⟩
  cases i1
  refine ⟨c,rfl,?_⟩
  cases c with
  | true=>
   refine jP ?_
   cases hm
   exact k π1 _ H1 e1 R1 (.bl true)
  | false=>
   refine jO ?_
   exact ⟨π1,ρ,μ1,d,μ',R1,E.mono e1,hm,k.after e1⟩
 | _=>cases hm)
theorem IG (ha:PE X a (tM X.K ma)):PE X (.UnaryOp .Not a pos) (tM X.K (mJ ma)):=cK (F7 ha) (by
 rintro σ H Q ⟨π,ρ,μ,d,μ',R,E,hm,k⟩
 obtain ⟨⟨x,μ1⟩,h1,hm⟩:=Tj.mp hm
 cases x with
 | bl c=>
  cases hm
  refine ⟨π,ρ,μ,_,_,R,E,h1,fun π1 v1 H1 e1 R1 i1=>?_⟩
  cases i1
  exact ⟨_,rfl,k π1 _ H1 e1 R1 (.bl _)⟩
 | _=>cases hm)
noncomputable def gR (t:MT)(a b:ME):ME:=fun ρ μ=>(t ρ μ).bind fun p=>match p.1 with|true=>a ρ p.2|false=>b ρ p.2
theorem IH (hc:PT X c (cT X.K mt))(ha:PE X a (tM X.K ma))(hb:PE X b (tM X.K mb)):PE X (.IfExp c a b pos) (tM X.K (gR mt ma mb)):=cK (F9 hc ha hb) (by
 rintro σ H Q ⟨π,ρ,μ,d,μ',R,E,hm,k⟩
 obtain ⟨⟨x,μ1⟩,h1,hm⟩:=Tj.mp hm
 refine ⟨π,ρ,μ,x,μ1,R,E,h1,fun π1 H1 e1 R1=>?_⟩
 cases x with
 | true=>
  refine jP ?_
  exact ⟨π1,ρ,μ1,d,μ',R1,E.mono e1,hm,k.after e1⟩
 | false=>
  refine jO ?_
  exact ⟨π1,ρ,μ1,d,μ',R1,E.mono e1,hm,k.after e1⟩)
noncomputable def aD:MA:=fun _ μ=>some ([],μ)
noncomputable def aC (a:ME)(r:MA):MA:=fun ρ μ=>(a ρ μ).bind fun p=>(r ρ p.2).bind fun q=>some (p.1::q.1,q.2)
variable {es:List TJ}{ms:MA}
theorem II:PA X [] (eU X.K aD):=Bd Ap (by
 rintro σ H Q ⟨π,ρ,μ,d,μ',R,E,hm,k⟩
 cases hm
 exact k π [] H .refl R .nil)
theorem IJ (ha:PE X e (tM X.K m))(hr:PA X es (eU X.K ms))(hs:Ul (e::es) X.env=(false,eval e X.env)::Ul es X.env:=by rfl):PA X (e::es) (eU X.K (aC m ms)):=Bd (uP ha hr hs) (by
 rintro σ H Q ⟨π,ρ,μ,d,μ',R,E,hm,k⟩
 obtain ⟨⟨x,μ1⟩,h1,hm⟩:=Tj.mp hm
 obtain ⟨⟨xs,μ2⟩,h2,hm⟩:=Tj.mp hm
 cases hm
 exact ⟨π,ρ,μ,x,μ1,R,E,h1,fun π1 v1 H1 e1 R1 i1=>⟨π1,ρ,μ1,xs,μ2,R1,E.mono e1,h2,fun π2 vs H2 e2 R2 i2=>k π2 _ H2 (e1.trans e2) R2 (.cons (i1.mono e2) i2)⟩⟩)
noncomputable def bH (ms:MA):ME:=fun ρ μ=>(ms ρ μ).bind fun p=>if p.1.length<=TL then some (.tup p.1,p.2) else none
noncomputable def bV (ms:MA):ME:=fun ρ μ=>(ms ρ μ).bind fun p=>if p.1.length<=TL then some (.loc p.2.length,p.2++[.lst p.1]) else none
theorem IK {x1:Nat}(h:PA X es (eU X.K ms)):PE X (.Tuple es x1 pos) (tM X.K (bH ms)):=cK (He h) (by
 rintro σ H Q ⟨π,ρ,μ,d,μ',R,E,hm,k⟩
 obtain ⟨⟨xs,μ1⟩,h1,hm⟩:=Tj.mp hm
 split at hm
 ·rename_i hl
  cases hm
  refine ⟨π,ρ,μ,_,_,R,E,h1,fun π1 vs H1 e1 R1 i1=>⟨by rw [i1.length];exact hl,fun p hp=>?_⟩⟩
  obtain ⟨e2,R2⟩:=R1.fresh (o:=.tup vs) hp
  exact k π1 _ _ (e1.trans e2) R2 (.tup (.of bU) (i1.mono e2))
 ·cases hm)
theorem IL (h:PA X es (eU X.K ms)):PE X (.List es pos) (tM X.K (bV ms)):=cK (Hf h) (by
 rintro σ H Q ⟨π,ρ,μ,d,μ',R,E,hm,k⟩
 obtain ⟨⟨xs,μ1⟩,h1,hm⟩:=Tj.mp hm
 split at hm
 ·rename_i hl
  cases hm
  refine ⟨π,ρ,μ,xs,μ1,R,E,h1,fun π1 vs H1 e1 R1 i1=>⟨by rw [i1.length];exact hl,fun p hp=>?_⟩⟩
  obtain ⟨e2,R2,q⟩:=R1.alloc (c:=.lst xs) (o:=.lst vs) hp i1
  have i2:IsD X.K (fV π1 μ1.length p) (μ1++[C.lst xs]).length (aH H1 p (.lst vs)) (.ref p) (.loc μ1.length):=by
   have:=IsD.loc (K:=X.K) (π:=fV π1 μ1.length p) (n:=(μ1++[C.lst xs]).length) (H:=aH H1 p (.lst vs)) (a:=μ1.length) (by simp)
   rw [q] at this
   exact this
  exact k _ _ _ (e1.trans e2) R2 i2
 ·cases hm)
noncomputable def aK (f:MF)(ms:MA):ME:=fun ρ μ=>(ms ρ μ).bind fun p=>f p.1 p.2
theorem IM {K:To}{f:MF}{n:Nat}{E:XK}(hn:∀ ρ μ ds μ',ms ρ μ=some (ds,μ')->ds.length=n):∀ σ H Q,tM K (aK f ms) σ H Q->uQ (gM K n f) [] E (eU K ms) σ H Q:=by
 rintro σ H Q ⟨π,ρ,μ,d,μ',R,E,hm,k⟩
 obtain ⟨⟨xs,μ1⟩,h1,hm⟩:=Tj.mp hm
 refine ⟨π,ρ,μ,xs,μ1,R,E,h1,fun π1 vs H1 e1 R1 i1=>?_⟩
 show gM K n f (vs++[]) H1 Q _
 rw [Xl]
 exact ⟨by rw [i1.length];exact hn ρ μ xs μ1 h1,π1,xs,μ1,d,μ',R1,i1,hm,k.after e1⟩
theorem IP:∀ ρ μ ds μ',aD ρ μ=some (ds,μ')->ds.length=0:=by
 intro ρ μ ds μ' h
 cases h
 rfl
theorem IQ {n:Nat}(h:∀ ρ μ ds μ',ms ρ μ=some (ds,μ')->ds.length=n):∀ ρ μ ds μ',aC m ms ρ μ=some (ds,μ')->ds.length=n+1:=by
 intro ρ μ ds μ' hm
 obtain ⟨⟨x,μ1⟩,h1,hm⟩:=Tj.mp hm
 obtain ⟨⟨xs,μ2⟩,h2,hm⟩:=Tj.mp hm
 cases hm
 rw [Um,h ρ μ1 xs _ h2]
theorem IS {k:Nat}{f:Addr}{fd:Vt}{ps:List Str}{fm:MF}{x:Str}{p:Vk}{n:Nat}(F:FnOk X.prog X.w X.K X.mg X.base dY k f fd ps (gM X.K n fm))(hr:Room k X.A)(hg:Gl X x)(hm:X.mg x=some (.ref f))
  (hk:UO X.K (.ref f)=true)(hb:Binds X.K fd ps [])(ha:PA X (e::es) (eU X.K ms))(hn:∀ ρ μ ds μ',ms ρ μ=some (ds,μ')->ds.length=n)(hdb:(x == ("__debug__":Str))=false:=by decide)
  (he:Ul (e::es) X.env=(false,eval e X.env)::Ul es X.env:=by rfl)(hpl:(VX pos (Ul es X.env)).any (·.1)=false:=by rfl) :
  PE X (.Call (.Name x p) (e::es) [] pos) (tM X.K (aK fm ms)):=
 cK (Hg F hr hg hm hk hb .nil (E:=E0) A4 ha hdb he hpl) (IM hn)
noncomputable def dP (K:To)(f:MF)(r:List V->Hp->VK->Prop):Prop:=
 ∀ π H μ xs d μ' vs Q,Rp K π H μ->IsDs K π μ.length H vs xs->f xs μ=some (d,μ')->KC K Q π μ.length H d μ'->r vs H Q
theorem Bg {K:To}{f:MF}{r:List V->Hp->VK->Prop}(hf:dP K f r):∀ σ H Q,tM K (aK f ms) σ H Q->uS r (eU K ms) σ H Q:=by
 rintro σ H Q ⟨π,ρ,μ,d,μ',R,E,hm,k⟩
 obtain ⟨⟨xs,μ1⟩,h1,hm⟩:=Tj.mp hm
 exact ⟨π,ρ,μ,xs,μ1,R,E,h1,fun π1 vs H1 e1 R1 i1=>hf π1 H1 μ1 xs d μ' vs Q R1 i1 hm (k.after e1)⟩
theorem IT {f:MF}{r:List V->Hp->VK->Prop}{id:String}{x:Str}{p:Vk}(hc:CallR X (.builtin id) r)(hf:dP X.K f r)(hg:Gl X x)(hm:X.mg x=none)(hv:Vl x=some (.builtin id))(ha:PA X (e::es) (eU X.K ms))
  (hn:x ≠ "__name__":=by decide) (hdb:(x == ("__debug__":Str))=false:=by decide)
  (he:Ul (e::es) X.env=(false,eval e X.env)::Ul es X.env:=by rfl)(hpl:(VX pos (Ul es X.env)).any (·.1)=false:=by rfl):PE X (.Call (.Name x p) (e::es) [] pos) (tM X.K (aK f ms)):=
 cK (Hj hc hg hm hv ha hn hdb he hpl) (Bg hf)
theorem IU {f:MF}{r:List V->Hp->VK->Prop}{T:String}{x:Str}{p:Vk}(hc:CallR X (.type T) r)(hf:dP X.K f r)(hg:Gl X x)(hm:X.mg x=none)(hv:Vl x=some (.type T))(ha:PA X (e::es) (eU X.K ms))
  (hn:x ≠ "__name__":=by decide) (hdb:(x == ("__debug__":Str))=false:=by decide)
  (he:Ul (e::es) X.env=(false,eval e X.env)::Ul es X.env:=by rfl)(hpl:(VX pos (Ul es X.env)).any (·.1)=false:=by rfl):PE X (.Call (.Name x p) (e::es) [] pos) (tM X.K (aK f ms)):=
 cK (Hk hc hg hm hv ha hn hdb he hpl) (Bg hf)
noncomputable def bA (μ:Hm):D->Option (List D)
 | .tup xs=>some xs
 | .rol xs=>some xs
 | .loc a=>match μ[a]? with|some (.lst xs)=>some xs|_=>none
 | _=>none
noncomputable def eV:D->D->Hm->Option (D×Hm)
 | .str z,.int i,μ=>if z.length<=TL then (atI z.cps.toList i).map fun c=>(.str ⟨#[c]⟩,μ) else none
 | x,.int i,μ=>(bA μ x).bind fun xs=>(atI xs i).map fun d=>(d,μ)
 | _,_,_=>none
theorem IV {K:To}:cG K eV (AK K):=by
 intro π H μ x y d μ' vx vy Q R ix iy hm k
 cases iy with
 | int i=>
  cases ix with
  | str z=>
   simp only [eV] at hm
   split at hm
   ·rename_i hl
    obtain ⟨c,h1,h2⟩:=Tq.mp hm
    cases h2
    exact .inr (.inr ⟨z,i,c,rfl,rfl,hl,h1,k π _ H .refl R (.str _)⟩)
   ·cases hm
  | tup h t=>
   simp only [eV,bA,T3] at hm
   obtain ⟨d',h1,h2⟩:=Tq.mp hm
   cases h2
   obtain ⟨v,h3,h4⟩:=t.atI h1
   exact .inr (.inl ⟨_,_,i,v,rfl,rfl,h,h3,k π _ H .refl R h4⟩)
  | rol h t=>
   simp only [eV,bA,T3] at hm
   obtain ⟨d',h1,h2⟩:=Tq.mp hm
   cases h2
   obtain ⟨v,h3,h4⟩:=t.atI h1
   exact .inl ⟨_,_,i,v,rfl,rfl,h.sq,h3,k π _ H .refl R h4⟩
  | @loc a ha=>
   simp only [eV,bA] at hm
   split at hm
   ·rename_i xs hx
    simp only [T3] at hm
    obtain ⟨d',h1,h2⟩:=Tq.mp hm
    cases h2
    obtain ⟨vs,h5,h6⟩:=R.lst a xs hx
    obtain ⟨v,h3,h4⟩:=h6.atI h1
    exact .inl ⟨_,_,i,v,rfl,rfl,.of h5,h3,k π _ H .refl R h4⟩
   ·cases hm
  | _=>simp [eV,bA] at hm
 | _=>cases ix<;>simp [eV] at hm
theorem IW (ha:PE X a (tM X.K ma))(hb:PE X b (tM X.K mb))(hs:uU b):PE X (.Subscript a b pos) (tM X.K (aB eV ma mb)):=cK (HC HE ha hb hs) (oV IV)
noncomputable def hX (xs:List D)(lo hi:Option Int):List D:=(xs.drop (HT.sIx xs.length 0 lo)).take (HT.sIx xs.length xs.length hi - HT.sIx xs.length 0 lo)
noncomputable abbrev MO:=aG->Hm->Option (Option Int×Hm)
noncomputable def iT:MO:=fun _ μ=>some (none,μ)
noncomputable def hZ (m:ME):MO:=fun ρ μ=>(m ρ μ).bind fun p=>match p.1 with|.int i=>some (some i,p.2)|_=>none
noncomputable def oW (K:To)(m:MO):TO:=fun σ H Q=>∃ π ρ μ o μ',Rp K π H μ/\En K π μ.length H σ ρ/\m ρ μ=some (o,μ')/\∀ π' H',Ext π μ.length H π' μ'.length H'->Rp K π' H' μ'->Q o H'
theorem IX:PO X none (oW X.K iT):=fun a3G s σ H Q I q=>Hx a3G s σ H Q I (by
 obtain ⟨π,ρ,μ,o,μ',R,E,hm,k⟩:=q
 cases hm
 exact k π H .refl R)
theorem IY (h:PE X e (tM X.K m)):PO X (some e) (oW X.K (hZ m)):=fun a3G s σ H Q I q=>Hy h a3G s σ H Q I (by
 obtain ⟨π,ρ,μ,o,μ',R,E,hm,k⟩:=q
 obtain ⟨⟨x,μ1⟩,h1,hm⟩:=Tj.mp hm
 cases x with
 | int i=>
  cases hm
  refine ⟨π,ρ,μ,_,_,R,E,h1,fun π1 v1 H1 e1 R1 i1=>?_⟩
  cases i1
  exact ⟨_,rfl,k π1 H1 e1 R1⟩
 | _=>cases hm)
noncomputable abbrev Bh (K:To):V->Option Int->Option Int->Hp->VK->Prop:=uV K
theorem IZ {X:Cx}:SlR X (Bh X.K):=HJ
theorem Bi {K:To}{x:V}{lo hi:Option Int}{H:Hp}{Q:VK}(h:uV K x lo hi H Q):Bh K x lo hi H Q:=h
noncomputable def kY (a:ME)(lo hi:MO):ME:=fun ρ μ=>(a ρ μ).bind fun p=>(lo ρ p.2).bind fun q=>(hi ρ q.2).bind fun r=>
 match p.1 with
 | .tup _=>none
 | x=>(bA r.2 x).bind fun xs=>some (.loc r.2.length,r.2++[.lst (hX xs q.1 r.1)])
theorem Bj {K:To}{π:Nat->Addr}{n:Nat}{H:Hp}{vs:List V}{ds:List D}(h:IsDs K π n H vs ds)(lo hi:Option Int):IsDs K π n H (jM vs lo hi) (hX ds lo hi):=by
 unfold jM hX
 rw [h.length]
 exact (h.drop _).take _
theorem fW {K:To}{π:Nat->Addr}{μ:Hm}{p:Addr}{c:C}{H:Hp}:IsD K (fV π μ.length p) (μ++[c]).length H (.ref p) (.loc μ.length):=by
 have:=IsD.loc (K:=K) (π:=fV π μ.length p) (n:=(μ++[c]).length) (H:=H) (a:=μ.length) (by simp)
 rw [show fV π μ.length p μ.length=p from if_pos rfl] at this
 exact this
theorem Ja {lo hi:Option TJ}{ml mh:MO}{p2:Vk}(ha:PE X a (tM X.K ma))(hl:PO X lo (oW X.K ml))(hu:PO X hi (oW X.K mh)):PE X (.Subscript a (.Slice lo hi none p2) pos) (tM X.K (kY ma ml mh)):=cK (HA IZ ha hl hu) (by
 rintro σ H Q ⟨π,ρ,μ,d,μ',R,E,hm,k⟩
 obtain ⟨⟨x,μ1⟩,h1,hm⟩:=Tj.mp hm
 obtain ⟨⟨l,μ2⟩,h2,hm⟩:=Tj.mp hm
 obtain ⟨⟨u,μ3⟩,h3,hm⟩:=Tj.mp hm
 refine ⟨π,ρ,μ,x,μ1,R,E,h1,fun π1 v1 H1 e1 R1 i1=>⟨π1,ρ,μ1,l,μ2,R1,E.mono e1,h2,fun π2 H2 e2 R2=>⟨π2,ρ,μ2,u,μ3,R2,(E.mono e1).mono e2,h3,fun π3 H3 e3 R3=>?_⟩⟩⟩
 have i3:=(i1.mono e2).mono e3
 cases i3 with
 | rol h t=>
  simp only [bA,T3] at hm
  cases hm
  refine Bi ⟨_,_,rfl,h.sq,fun p hp=>?_⟩
  obtain ⟨e4,R4,q⟩:=R3.alloc (c:=.lst (hX _ l u)) (o:=.lst (jM _ l u)) hp (Bj t l u)
  exact k _ _ _ (((e1.trans e2).trans e3).trans e4) R4 fW
 | @loc i hi'=>
  simp only [bA] at hm
  split at hm
  ·rename_i xs hx
   simp only [T3] at hm
   cases hm
   obtain ⟨vs,h5,h6⟩:=R3.lst i xs hx
   refine Bi ⟨_,_,rfl,.of h5,fun p hp=>?_⟩
   obtain ⟨e4,R4,q⟩:=R3.alloc (c:=.lst (hX xs l u)) (o:=.lst (jM vs l u)) hp (Bj h6 l u)
   exact k _ _ _ (((e1.trans e2).trans e3).trans e4) R4 fW
  ·cases hm
 | tup h t=>simp at hm
 | _=>simp [bA] at hm)
end
section
variable {X:Cx}{e a b c:TJ}{m:ME}{pos:Vk}{mt:MT}{st:Stmt}{rest body orelse:List Stmt}{ms mr mu:MS}
noncomputable def bD:MS:=fun ρ μ=>some (.nx,ρ,μ)
noncomputable def aJ (a b:MS):MS:=fun ρ μ=>(a ρ μ).bind fun p=>match p.1 with|.nx=>b p.2.1 p.2.2|_=>some p
noncomputable def aQ (m:ME):MS:=fun ρ μ=>(m ρ μ).map fun p=>(.rt p.1,ρ,p.2)
noncomputable def c9 (m:ME):MS:=fun ρ μ=>(m ρ μ).map fun p=>(.nx,ρ,p.2)
noncomputable def bB (t:MT)(a b:MS):MS:=fun ρ μ=>(t ρ μ).bind fun p=>match p.1 with|true=>a ρ p.2|false=>b ρ p.2
noncomputable def aS (i:Nat)(m:ME):MS:=fun ρ μ=>(m ρ μ).map fun p=>(.nx,ρ.set i (some p.1),p.2)
theorem Jb:PSs X [] (cZ X.K bD):=Be Gd (by
 rintro E σ H ⟨π,ρ,μ,fl,ρ',μ',R,EN,hm,k⟩
 cases hm
 exact k π σ H .refl R EN)
theorem Jc (h1:PS X st (cZ X.K ms))(h2:PSs X rest (cZ X.K mr)):PSs X (st::rest) (cZ X.K (aJ ms mr)):=Be (Ge h1 h2) (by
 rintro E σ H ⟨π,ρ,μ,fl,ρ',μ',R,EN,hm,k⟩
 obtain ⟨⟨f1,ρ1,μ1⟩,h1,hm⟩:=Tj.mp hm
 refine ⟨π,ρ,μ,f1,ρ1,μ1,R,EN,h1,?_⟩
 cases f1 with
 | nx=>
  intro π1 σ1 H1 e1 R1 E1
  refine ⟨π1,ρ1,μ1,fl,ρ',μ',R1,E1,hm,?_⟩
  cases fl with
  | nx=>exact fun π2 σ2 H2 e2 R2 E2=>k π2 σ2 H2 (e1.trans e2) R2 E2
  | bk=>exact fun π2 σ2 H2 e2 R2 E2=>k π2 σ2 H2 (e1.trans e2) R2 E2
  | ct=>exact fun π2 σ2 H2 e2 R2 E2=>k π2 σ2 H2 (e1.trans e2) R2 E2
  | rt d=>exact KC.after k e1
 | rt d=>cases hm;exact k
 | bk=>cases hm;exact k
 | ct=>cases hm;exact k)
theorem Jd (h1:PS X st (cZ X.K ms)):PSs X [st] (cZ X.K ms):=Gf h1
theorem Je:PS X (.Pass pos) (cZ X.K bD):=gN Gg (by
 rintro E σ H ⟨π,ρ,μ,fl,ρ',μ',R,EN,hm,k⟩
 cases hm
 exact k π σ H .refl R EN)
theorem Jf (he:PE X e (tM X.K m)):PS X (.Return (some e) pos) (cZ X.K (aQ m)):=gN (Gk he) (by
 rintro E σ H ⟨π,ρ,μ,fl,ρ',μ',R,EN,hm,k⟩
 obtain ⟨⟨x,μ1⟩,h1,hm⟩:=Tq.mp hm
 cases hm
 exact ⟨π,ρ,μ,x,μ1,R,EN,h1,k⟩)
theorem Jg (he:PE X e (tM X.K m))(hs:Xr e none pos.line X.env=pure false:=by rfl):PS X (.Expr e pos) (cZ X.K (c9 m)):=gN (Gi he hs) (by
 rintro E σ H ⟨π,ρ,μ,fl,ρ',μ',R,EN,hm,k⟩
 obtain ⟨⟨x,μ1⟩,h1,hm⟩:=Tq.mp hm
 cases hm
 exact ⟨π,ρ,μ,x,μ1,R,EN,h1,fun π1 v1 H1 e1 R1 i1=>k π1 σ H1 e1 R1 (EN.mono e1)⟩)
theorem Jh (hc:PT X c (cT X.K mt))(ha:PSs X body (cZ X.K ms))(hb:PSs X orelse (cZ X.K mu)):PS X (.If c body orelse pos) (cZ X.K (bB mt ms mu)):=gN (Gq hc ha hb) (by
 rintro E σ H ⟨π,ρ,μ,fl,ρ',μ',R,EN,hm,k⟩
 obtain ⟨⟨x,μ1⟩,h1,hm⟩:=Tj.mp hm
 refine ⟨π,ρ,μ,x,μ1,R,EN,h1,fun π1 H1 e1 R1=>?_⟩
 have k':kX X.K E π1 μ1.length H1 fl ρ' μ':=by
  cases fl with
  | nx=>exact fun π2 σ2 H2 e2 R2 E2=>k π2 σ2 H2 (e1.trans e2) R2 E2
  | bk=>exact fun π2 σ2 H2 e2 R2 E2=>k π2 σ2 H2 (e1.trans e2) R2 E2
  | ct=>exact fun π2 σ2 H2 e2 R2 E2=>k π2 σ2 H2 (e1.trans e2) R2 E2
  | rt d=>exact KC.after k e1
 cases x with
 | true=>
  refine jP ?_
  exact ⟨π1,ρ,μ1,fl,ρ',μ',R1,EN.mono e1,hm,k'⟩
 | false=>
  refine jO ?_
  exact ⟨π1,ρ,μ1,fl,ρ',μ',R1,EN.mono e1,hm,k'⟩)
theorem Bk {i:Nat}{x:Str}{pos':Vk}(hN:X.N.Nodup)(hi:X.N[i]? = some x)(hx:Loc X.env.scope x)(he:PE X e (tM X.K m))(hs:Xr e (some (.Name x pos')) pos.line X.env=pure false:=by rfl)
  (hf:X.fn x=true\/X.env.scope.names.lookup x=some .local:=by first|exact .inl rfl|exact .inr rfl|assumption):PS X (.Assign [.Name x pos'] e pos) (cZ X.K (aS i m)):=gN (Gw hN hi hx he hs hf) (by
 rintro E σ H ⟨π,ρ,μ,fl,ρ',μ',R,EN,hm,k⟩
 obtain ⟨⟨x,μ1⟩,h1,hm⟩:=Tq.mp hm
 cases hm
 exact ⟨π,ρ,μ,x,μ1,R,EN,h1,fun π1 v1 H1 e1 R1 i1=>k π1 _ H1 e1 R1 ((EN.mono e1).set i1 i)⟩)
end
noncomputable def oX (n:Nat)(ds:List D):aG:=ds.map some++Uh (n - ds.length) none
noncomputable def u6 (n:Nat)(m:MS):MF:=fun ds μ=>(m (oX n ds) μ).bind fun p=>match p.1 with|.rt d=>some (d,p.2.2)|.nx=>some (.non,p.2.2)|_=>none
theorem Bl {K:To}{π:Nat->Addr}{n:Nat}{H:Hp}{N:List Str}{vs:List V}{ds:List D}(h:IsDs K π n H vs ds)(hl:vs.length<=N.length):En K π n H (L2.start N vs) (oX N.length ds):=by
 have hlen:=h.length
 refine ⟨by simp [L2.start,oX,hlen],fun i d e=>?_⟩
 unfold oX at e
 unfold L2.start
 by_cases hi:i<ds.length
 ·rw [Uz (by simpa using hi),Uu] at e
  obtain ⟨d',h1,h2⟩:=Tq.mp e
  cases h2
  obtain ⟨v,h3,h4⟩:=h.get h1
  exact ⟨v,by rw [Uz (by rw [Tt,hlen];exact hi),Uu,h3];rfl,h4⟩
 ·rw [VB (by simpa using XI.mp hi)] at e
  have:=V3 (n:=N.length - ds.length) (a:=(none:Option D)) (i:=i - (ds.map some).length)
  rw [this] at e
  split at e<;>simp at e
section
variable {P:Ub}{w:Up}{K:To}{mg:Str->Option Value}{base:UE}
theorem Ji {x qual:Str}{st:Stmt}{f:Addr}{fd:Vt}{N ps:List Str}{k:Nat}{m:MS}(F:Fun K x qual st f fd)(S:FnScope N ps (bF st))(hps:ps.length<=N.length)
  (hbody:∀ (cdv:Value)(A:Ue)(outer:List X2)(s:Tv)(H:Hp)(E:XK),Room k (A.deeper (WU qual (bF st) s.heap.objs.size f cdv))->
   PSs (dH dY P w K mg base N qual (bF st) f cdv A outer s H E).nox (bT st) (cZ K m)):FnOk P w K mg base dY (k+1) f fd ps (gM K ps.length (u6 N.length m)):=by
 refine F.ok S (fun vs H Q E h=>h.1) fun cdv A outer s H vs Q E hr h=>⟨_,hbody cdv A outer s H E hr,?_⟩
 obtain ⟨hv,π,ds,μ,d,μ',R,i,hm,kc⟩:=h
 obtain ⟨⟨fl,ρ',μ1⟩,h1,hm⟩:=Tj.mp hm
 refine ⟨π,_,μ,fl,ρ',μ1,R,Bl i (by rw [hv];exact hps),h1,?_⟩
 cases fl with
 | rt d'=>cases hm;exact kc
 | nx=>cases hm;exact fun π1 σ1 H1 e1 R1 E1=>kc π1 .non H1 e1 R1 .non
 | bk=>cases hm
 | ct=>cases hm
end
end L3
namespace L3
open PySem L2
open SeqAt (EqAt RcAt RcNeAt)
inductive KD where
 | non|bl (b:Bool)|int (i:Int)|str (x:Str)|tup (n:Nat)|lst (n:Nat)
inductive IsK (s:Tv):Value->KD->Prop where
 | non:IsK s .none .non
 | bl (b:Bool):IsK s (.bool b) (.bl b)
 | int (i:Int)(t:a2C):IsK s (.int i t) (.int i)
 | str (x:Str)(t:a2C):IsK s (.str x t) (.str x)
 | tup {l:Addr}{its:List Value}(h:s.heap.IsTuple l its.toArray):IsK s (.ref l) (.tup its.length)
 | lst {l:Addr}{its:List Value}(h:s.heap.IsList l its.toArray):IsK s (.ref l) (.lst its.length)
noncomputable def mK (e:Nat->Bool):KD->KD->Bool
 | .non,.non=>true
 | .bl a,.bl b=>a == b
 | .bl a,.int b=>(if a then 1 else 0) == b
 | .int a,.bl b=>a == (if b then 1 else 0)
 | .int a,.int b=>a == b
 | .str a,.str b=>a == b
 | .tup n,.tup k=>(UB (min n k)).all e&&n == k
 | .lst n,.lst k=>(UB (min n k)).all e&&n == k
 | _,_=>false
noncomputable def rB (A:Ue)(s:Tv)(u v:Value)(e:Nat->Bool):Prop:=
 (∀ l b items items2,u=.ref l->v=.ref b->s.heap.IsTuple l items->s.heap.IsTuple b items2->∀ j (h1:j<items.size)(h2:j<items2.size),EqAt A.in1 s items[j] items2[j] (e j)) /\
 (∀ l b items items2,u=.ref l->v=.ref b->s.heap.IsList l items->s.heap.IsList b items2->∀ j (h1:j<items.size)(h2:j<items2.size),EqAt A.in1 s items[j] items2[j] (e j))
section
variable {A:Ue}{s:Tv}{u v:Value}{k k':KD}{e:Nat->Bool}
theorem Bm {n k:Nat}(e:Nat->Bool)(h:n=k):((UB (min n k)).all e&&n == k)=(UB n).all e:=by
 subst h
 simp
theorem Bn {n k:Nat}(e:Nat->Bool)(h:n≠k):((UB (min n k)).all e&&n == k)=false:=by
 simp [h]
theorem u7 (h:IsK s u k)(h':IsK s v k')(hu:A.units<Vm)(he:rB A s u v e):RcAt A s u v (mK e k k'):=by
 cases h with
 | non=>
  cases h' with
  | non=>exact RcAt.none_none
  | bl b=>exact RcAt.none_bool b
  | int i t=>exact RcAt.none_int i t
  | str x t=>exact RcAt.none_str x t
  | tup h=>exact RcAt.none_tuple h hu
  | lst h=>exact RcAt.none_list h hu
 | bl a=>
  cases h' with
  | non=>exact RcAt.bool_none a
  | bl b=>exact RcAt.bool_bool a b
  | int i t=>exact RcAt.bool_int a i t
  | str x t=>exact RcAt.bool_str a x t
  | tup h=>exact RcAt.bool_tuple a h hu
  | lst h=>exact RcAt.bool_list a h hu
 | int a ta=>
  cases h' with
  | non=>exact RcAt.int_none a ta
  | bl b=>exact RcAt.int_bool a ta b
  | int i t=>exact RcAt.int_int a ta i t
  | str x t=>exact RcAt.int_str a ta x t
  | tup h=>exact RcAt.int_tuple a ta h hu
  | lst h=>exact RcAt.int_list a ta h hu
 | str a ta=>
  cases h' with
  | non=>exact RcAt.str_none a ta
  | bl b=>exact RcAt.str_bool a ta b
  | int i t=>exact RcAt.str_int a ta i t
  | str x t=>exact RcAt.str_str a ta x t
  | tup h=>exact RcAt.str_tuple a ta h hu
  | lst h=>exact RcAt.str_list a ta h hu
 | tup g=>
  cases h' with
  | non=>exact RcAt.tuple_none g hu
  | bl b=>exact RcAt.tuple_bool b g hu
  | int i t=>exact RcAt.tuple_int i t g hu
  | str x t=>exact RcAt.tuple_str x t g hu
  | tup h=>
   have:=RcAt.tuples (e:=e) g h hu (he.1 _ _ _ _ rfl rfl g h)
   simpa [mK] using this
  | lst h=>exact RcAt.tuple_list g h hu
 | lst g=>
  cases h' with
  | non=>exact RcAt.list_none g hu
  | bl b=>exact RcAt.list_bool b g hu
  | int i t=>exact RcAt.list_int i t g hu
  | str x t=>exact RcAt.list_str x t g hu
  | tup h=>exact RcAt.list_tuple g h hu
  | @lst b its2 h=>
   rename_i l its
   by_cases hl:its.length=its2.length
   ·have:=RcAt.lists (e:=e) g h (by simpa using hl) hu (he.2 _ _ _ _ rfl rfl g h)
    show RcAt A s _ _ ((UB (min its.length its2.length)).all e&&its.length == its2.length)
    rw [Bm e hl]
    simpa using this
   ·have:=RcAt.lists_lengths g h (by simpa using hl) hu
    show RcAt A s _ _ ((UB (min its.length its2.length)).all e&&its.length == its2.length)
    rw [Bn e hl]
    exact this
theorem Jj (h:IsK s u k)(h':IsK s v k')(hu:A.units<Vm)(he:rB A s u v e):RcNeAt A s u v (!mK e k k'):=by
 cases h with
 | non=>
  cases h' with
  | non=>exact RcNeAt.none_none
  | bl b=>exact RcNeAt.none_bool b
  | int i t=>exact RcNeAt.none_int i t
  | str x t=>exact RcNeAt.none_str x t
  | tup h=>exact RcNeAt.none_tuple h hu
  | lst h=>exact RcNeAt.none_list h hu
 | bl a=>
  cases h' with
  | non=>exact RcNeAt.bool_none a
  | bl b=>exact RcNeAt.bool_bool a b
  | int i t=>exact RcNeAt.bool_int a i t
  | str x t=>exact RcNeAt.bool_str a x t
  | tup h=>exact RcNeAt.bool_tuple a h hu
  | lst h=>exact RcNeAt.bool_list a h hu
 | int a ta=>
  cases h' with
  | non=>exact RcNeAt.int_none a ta
  | bl b=>exact RcNeAt.int_bool a ta b
  | int i t=>exact RcNeAt.int_int a ta i t
  | str x t=>exact RcNeAt.int_str a ta x t
  | tup h=>exact RcNeAt.int_tuple a ta h hu
  | lst h=>exact RcNeAt.int_list a ta h hu
 | str a ta=>
  cases h' with
  | non=>exact RcNeAt.str_none a ta
  | bl b=>exact RcNeAt.str_bool a ta b
  | int i t=>exact RcNeAt.str_int a ta i t
  | str x t=>exact RcNeAt.str_str a ta x t
  | tup h=>exact RcNeAt.str_tuple a ta h hu
  | lst h=>exact RcNeAt.str_list a ta h hu
 | tup g=>
  cases h' with
  | non=>exact RcNeAt.tuple_none g hu
  | bl b=>exact RcNeAt.tuple_bool b g hu
  | int i t=>exact RcNeAt.tuple_int i t g hu
  | str x t=>exact RcNeAt.tuple_str x t g hu
  | tup h=>
   have:=RcNeAt.tuples (e:=e) g h hu (he.1 _ _ _ _ rfl rfl g h)
   simpa [mK] using this
  | lst h=>exact RcNeAt.tuple_list g h hu
 | lst g=>
  cases h' with
  | non=>exact RcNeAt.list_none g hu
  | bl b=>exact RcNeAt.list_bool b g hu
  | int i t=>exact RcNeAt.list_int i t g hu
  | str x t=>exact RcNeAt.list_str x t g hu
  | tup h=>exact RcNeAt.list_tuple g h hu
  | @lst b its2 h=>
   rename_i l its
   by_cases hl:its.length=its2.length
   ·have:=RcNeAt.lists (e:=e) g h (by simpa using hl) hu (he.2 _ _ _ _ rfl rfl g h)
    show RcNeAt A s _ _ (!((UB (min its.length its2.length)).all e&&its.length == its2.length))
    rw [Bm e hl]
    simpa using this
   ·have:=RcNeAt.lists_lengths g h (by simpa using hl) hu
    show RcNeAt A s _ _ (!((UB (min its.length its2.length)).all e&&its.length == its2.length))
    rw [Bn e hl]
    exact this
theorem Jk (h:IsK s u k)(h':IsK s v k')(hu:A.units<Vm)(he:rB A s u v e)(hne:∀ l b,u=.ref l->v=.ref b->l≠b):EqAt A s u v (mK e k k'):=by
 cases h with
 | non=>
  cases h' with
  | non=>exact EqAt.same _
  | bl b=>exact EqAt.none_bool b
  | int i t=>exact EqAt.none_int i t
  | str x t=>exact EqAt.none_str x t
  | tup h=>exact EqAt.none_tuple h hu
  | lst h=>exact EqAt.none_list h hu
 | bl a=>
  cases h' with
  | non=>exact EqAt.bool_none a
  | bl b=>exact EqAt.bool_bool a b
  | int i t=>exact EqAt.bool_int a i t
  | str x t=>exact EqAt.bool_str a x t
  | tup h=>exact EqAt.bool_tuple a h hu
  | lst h=>exact EqAt.bool_list a h hu
 | int a ta=>
  cases h' with
  | non=>exact EqAt.int_none a ta
  | bl b=>exact EqAt.int_bool a ta b
  | int i t=>exact EqAt.int_int a ta i t
  | str x t=>exact EqAt.int_str a ta x t
  | tup h=>exact EqAt.int_tuple a ta h hu
  | lst h=>exact EqAt.int_list a ta h hu
 | str a ta=>
  cases h' with
  | non=>exact EqAt.str_none a ta
  | bl b=>exact EqAt.str_bool a ta b
  | int i t=>exact EqAt.str_int a ta i t
  | str x t=>exact EqAt.str_str a ta x t
  | tup h=>exact EqAt.str_tuple a ta h hu
  | lst h=>exact EqAt.str_list a ta h hu
 | @tup l its g=>
  cases h' with
  | non=>exact EqAt.tuple_none g hu
  | bl b=>exact EqAt.tuple_bool b g hu
  | int i t=>exact EqAt.tuple_int i t g hu
  | str x t=>exact EqAt.tuple_str x t g hu
  | @tup b its2 h=>exact EqAt.of_refs (hne l b rfl rfl) (u7 (k:=.tup its.length) (k':=.tup its2.length) (.tup g) (.tup h) hu he)
  | lst h=>exact EqAt.tuple_list g h hu
 | @lst l its g=>
  cases h' with
  | non=>exact EqAt.list_none g hu
  | bl b=>exact EqAt.list_bool b g hu
  | int i t=>exact EqAt.list_int i t g hu
  | str x t=>exact EqAt.list_str x t g hu
  | tup h=>exact EqAt.list_tuple g h hu
  | @lst b its2 h=>exact EqAt.of_refs (hne l b rfl rfl) (u7 (k:=.lst its.length) (k':=.lst its2.length) (.lst g) (.lst h) hu he)
end
inductive KdD where
 | non|bl (b:Bool)|int (i:Int)|str (x:Str)|tup (xs:List D)|lst (xs:List D)
noncomputable def eN (μ:Hm):D->Option KdD
 | .non=>some .non
 | .bl b=>some (.bl b)
 | .int i=>some (.int i)
 | .str x=>some (.str x)
 | .tup xs=>some (.tup xs)
 | .rol xs=>some (.lst xs)
 | .loc a=>match μ[a]? with|some (.lst xs)=>some (.lst xs)|_=>none
 | .ty _=>none
noncomputable def fX (f:D->D->Option Bool):List D->List D->Option Bool
 | x::xs,y::ys=>(f x y).bind fun b=>(fX f xs ys).map fun c=>b&&c
 | [],[]=>some true
 | _,_=>some false
noncomputable def iA (f:D->D->Option Bool):KdD->KdD->Option Bool
 | .non,.non=>some true
 | .bl a,.bl b=>some (a == b)
 | .bl a,.int b=>some ((if a then 1 else 0) == b)
 | .int a,.bl b=>some (a == (if b then 1 else 0))
 | .int a,.int b=>some (a == b)
 | .str a,.str b=>some (a == b)
 | .tup xs,.tup ys=>fX f xs ys
 | .lst xs,.lst ys=>fX f xs ys
 | _,_=>some false
noncomputable def cA:Nat->Hm->D->D->Option Bool
 | 0,_,_,_=>none
 | n+1,μ,x,y=>(eN μ x).bind fun a=>(eN μ y).bind fun b=>iA (cA n μ) a b
noncomputable def u9:KdD->KD
 | .non=>.non|.bl b=>.bl b|.int i=>.int i|.str x=>.str x|.tup xs=>.tup xs.length|.lst xs=>.lst xs.length
noncomputable def mL:KdD->List D
 | .tup xs=>xs|.lst xs=>xs|_=>[]
section
variable {X:Cx}{a3G:List (Addr×Obj)}{σ:St}{H:Hp}{s:Tv}{π:Nat->Addr}{μ:Hm}
inductive KdAt (X:Cx)(π:Nat->Addr)(n:Nat)(H:Hp)(s:Tv)(u:Value):KdD->Prop where
 | non (h:u=.none):KdAt X π n H s u .non
 | bl (b:Bool)(h:u=.bool b):KdAt X π n H s u (.bl b)
 | int (i:Int)(t:a2C)(h:u=.int i t):KdAt X π n H s u (.int i)
 | str (x:Str)(t:a2C)(h:u=.str x t):KdAt X π n H s u (.str x)
 | tup {xs:List D}(p:Addr)(vs:List V)(its:List Value)(h:u=.ref p)(q:SqT X.K H p vs)(i:IsDs X.K π n H vs xs)(r:Vals vs its)(t:s.heap.IsTuple p its.toArray):KdAt X π n H s u (.tup xs)
 | lst {xs:List D}(p:Addr)(vs:List V)(its:List Value)(h:u=.ref p)(q:SqL X.K H p vs)(i:IsDs X.K π n H vs xs)(r:Vals vs its)(t:s.heap.IsList p its.toArray):KdAt X π n H s u (.lst xs)
theorem mM (I:Inv X a3G σ H s)(R:Rp X.K π H μ){v:V}{d:D}{u:Value}(h:IsD X.K π μ.length H v d)(r:RelV v u){k:KdD}(e:eN μ d=some k):KdAt X π μ.length H s u k:=by
 cases h with
 | non=>cases e;exact .non r
 | bl b=>cases e;exact .bl b r
 | int i=>cases e;obtain ⟨t,q⟩:=r;exact .int i t q
 | str x=>cases e;obtain ⟨t,q⟩:=r;exact .str x t q
 | ty x=>cases e
 | tup q t=>
  cases e
  obtain ⟨its,r',p,_⟩:=I.tuple q
  exact .tup _ _ its r q t r' p
 | rol q t=>
  cases e
  obtain ⟨its,r',p,_⟩:=I.list q.sq
  exact .lst _ _ its r q.sq t r' p.isList
 | @loc a ha=>
  simp only [eN] at e
  split at e
  ·rename_i xs hx
   cases e
   obtain ⟨vs,h1,h2⟩:=R.lst a xs hx
   have q:SqL X.K H (π a) vs:=.of h1
   obtain ⟨its,r',p,_⟩:=I.list q
   exact .lst _ _ its r q h2 r' p.isList
  ·cases e
theorem KdAt.isK {u:Value}{k:KdD}{n:Nat}(h:KdAt X π n H s u k):IsK s u (u9 k):=by
 cases h with
 | non h=>subst h;exact .non
 | bl b h=>subst h;exact .bl b
 | int i t h=>subst h;exact .int i t
 | str x t h=>subst h;exact .str x t
 | tup p vs its h q i r t=>
  subst h
  have:its.length=_:=r.length.symm.trans i.length
  show IsK s (.ref p) (.tup _)
  rw [<- this]
  exact .tup t
 | lst p vs its h q i r t=>
  subst h
  have:its.length=_:=r.length.symm.trans i.length
  show IsK s (.ref p) (.lst _)
  rw [<- this]
  exact .lst t
noncomputable def fY (f:D->D->Option Bool)(xs ys:List D)(j:Nat):Bool:=match xs[j]?,ys[j]? with
 | some x,some y=>(f x y).getD false
 | _,_=>false
theorem vB {f:D->D->Option Bool}:∀ {xs ys:List D}{b:Bool},fX f xs ys=some b->b=((UB (min xs.length ys.length)).all (fY f xs ys)&&xs.length == ys.length)/\∀ (j:Nat) x y,xs[j]? = some x->ys[j]? = some y->f x y=some (fY f xs ys j)
 | [],[],b,h=>by
  cases h
  exact ⟨rfl,fun j x y e=>by simp at e⟩
 | x::xs,[],b,h=>by
  cases h
  exact ⟨by simp,fun j x y _ e=>by simp at e⟩
 | [],y::ys,b,h=>by
  cases h
  exact ⟨by simp,fun j x y e=>by simp at e⟩
 | x::xs,y::ys,b,h=>by
  simp only [fX] at h
  obtain ⟨c,h1,h2⟩:=Tj.mp h
  obtain ⟨d,h3,h4⟩:=Tq.mp h2
  obtain ⟨i1,i2⟩:=vB h3
  have h0:fY f (x::xs) (y::ys) 0=c:=by simp [fY,h1]
  have hs:∀ j,fY f (x::xs) (y::ys) (j+1)=fY f xs ys j:=fun j=>by simp [fY]
  refine ⟨?_,fun j x' y' e1 e2=>?_⟩
  ·subst h4
   rw [i1]
   simp only [Um,Nat.add_min_add_right]
   rw [X7,UA,Z7,h0]
   have:(fY f (x::xs) (y::ys) ∘ Nat.succ)=fY f xs ys:=funext fun j=>hs j
   rw [this]
   simp [Bool.and_assoc]
  ·cases j with
   | zero=>
    simp at e1 e2
    subst e1;subst e2
    rw [h0,h1]
   | succ j=>
    rw [hs j]
    exact i2 j x' y' (by simpa using e1) (by simpa using e2)
theorem Bo {f:D->D->Option Bool}{k k':KdD}{b:Bool}(h:iA f k k'=some b):b=mK (fY f (mL k) (mL k')) (u9 k) (u9 k'):=by
 cases k<;>cases k'<;>simp only [iA] at h<;>first
  | (have h':=Uc h;subst h';rfl)
  | (obtain ⟨h1,_⟩:=vB h;rw [h1];rfl)
theorem Jl (I:Inv X a3G σ H s)(R:Rp X.K π H μ):∀ (n:Nat){v:V}{u:Value}{x y:D}{b:Bool},RelV v u->IsD X.K π μ.length H v x->IsD X.K π μ.length H v y->cA n μ x y=some b->b=true:=by
 intro n
 induction n with
 | zero=>intro v u x y b _ _ _ h;cases h
 | succ n ih=>
  intro v u x y b r hx hy h
  obtain ⟨k,h1,h⟩:=Tj.mp h
  obtain ⟨k',h2,h⟩:=Tj.mp h
  have a1:=mM I R hx r h1
  have a2:=mM I R hy r h2
  have lists:∀ {vs:List V}{xs ys:List D}{c:Bool},(∀ v∈vs,∃ u,RelV v u)->IsDs X.K π μ.length H vs xs->IsDs X.K π μ.length H vs ys->fX (cA n μ) xs ys=some c->c=true:=by
   intro vs
   induction vs with
   | nil=>intro xs ys c _ i1 i2 h;cases i1;cases i2;cases h;rfl
   | cons w vs ihv=>
    intro xs ys c hr i1 i2 h
    cases i1 with
    | cons p1 t1=>
     cases i2 with
     | cons p2 t2=>
      simp only [fX] at h
      obtain ⟨c1,h1,h3⟩:=Tj.mp h
      obtain ⟨c2,h4,h5⟩:=Tq.mp h3
      obtain ⟨u',ru⟩:=hr w (Uy ..)
      have e1:=ih ru p1 p2 h1
      have e2:=ihv (fun v hv=>hr v (Uo _ hv)) t1 t2 h4
      subst e1;subst e2
      exact h5.symm
  cases a1 with
  | non e1=>
   subst e1
   cases a2 with
   | non _=>simp only [iA] at h;exact (Uc h).symm
   | bl _ e=>cases e
   | int _ _ e=>cases e
   | str _ _ e=>cases e
   | tup _ _ _ e=>cases e
   | lst _ _ _ e=>cases e
  | bl c e1=>
   subst e1
   cases a2 with
   | non e=>cases e
   | bl _ e=>cases e;simp only [iA,beq_self_eq_true] at h;exact (Uc h).symm
   | int _ _ e=>cases e
   | str _ _ e=>cases e
   | tup _ _ _ e=>cases e
   | lst _ _ _ e=>cases e
  | int c t e1=>
   subst e1
   cases a2 with
   | non e=>cases e
   | bl _ e=>cases e
   | int _ _ e=>cases e;simp only [iA,beq_self_eq_true] at h;exact (Uc h).symm
   | str _ _ e=>cases e
   | tup _ _ _ e=>cases e
   | lst _ _ _ e=>cases e
  | str c t e1=>
   subst e1
   cases a2 with
   | non e=>cases e
   | bl _ e=>cases e
   | int _ _ e=>cases e
   | str _ _ e=>cases e;simp only [iA,beq_self_eq_true] at h;exact (Uc h).symm
   | tup _ _ _ e=>cases e
   | lst _ _ _ e=>cases e
  | tup p vs its e1 q i rv t=>
   have z:KdAt X π μ.length H s (.ref p) _:=e1 ▸ KdAt.tup p vs its e1 q i rv t
   rw [e1] at a2
   cases a2 with
   | non e=>cases e
   | bl _ e=>cases e
   | int _ _ e=>cases e
   | str _ _ e=>cases e
   | tup p2 vs2 its2 e2 q2 i2 rv2 t2=>
    cases e2
    have:=I.tuple_inj q q2
    subst this
    exact lists (fun v hv=>by
     obtain ⟨j,hj,rfl⟩:=WA hv
     obtain ⟨u',_,ru⟩:=rv.get (T8 hj)
     exact ⟨u',ru⟩) i i2 h
   | lst p2 vs2 its2 e2 q2 i2 rv2 t2=>
    cases e2
    exact absurd rfl (Vz t2 t)
  | lst p vs its e1 q i rv t=>
   rw [e1] at a2
   cases a2 with
   | non e=>cases e
   | bl _ e=>cases e
   | int _ _ e=>cases e
   | str _ _ e=>cases e
   | tup p2 vs2 its2 e2 q2 i2 rv2 t2=>
    cases e2
    exact absurd rfl (Vz t t2)
   | lst p2 vs2 its2 e2 q2 i2 rv2 t2=>
    cases e2
    have:=I.list_inj q q2
    subst this
    exact lists (fun v hv=>by
     obtain ⟨j,hj,rfl⟩:=WA hv
     obtain ⟨u',_,ru⟩:=rv.get (T8 hj)
     exact ⟨u',ru⟩) i i2 h
theorem kZ (A:Ue):A.in1.units=A.units+1:=rfl
theorem Bp (I:Inv X a3G σ H s){A:Ue}{n:Nat}(ih:∀ {A:Ue}{v v':V}{u u':Value}{x y:D}{b:Bool},A.units+n<Vm->RelV v u->RelV v' u'->IsD X.K π μ.length H v x->IsD X.K π μ.length H v' y->cA n μ x y=some b->EqAt A s u u' b)
  (hu:A.units+(n+1)<Vm){u u':Value}{k k':KdD}{b:Bool}(a1:KdAt X π μ.length H s u k)(a2:KdAt X π μ.length H s u' k')(h:iA (cA n μ) k k'=some b):rB A s u u' (fY (cA n μ) (mL k) (mL k')):=by
 have core:∀ {vs vs':List V}{its its':List Value}{xs ys:List D}{c:Bool},Vals vs its->Vals vs' its'->IsDs X.K π μ.length H vs xs->IsDs X.K π μ.length H vs' ys->fX (cA n μ) xs ys=some c->
   ∀ j (h1:j<its.length)(h2:j<its'.length),EqAt A.in1 s its[j] its'[j] (fY (cA n μ) xs ys j):=by
  intro vs vs' its its' xs ys c r r' i i' e j h1 h2
  have l1:=r.length
  have l2:=r'.length
  have l3:=i.length
  have l4:=i'.length
  have hx:xs[j]? = some (xs[j]'(by omega)):=T8 _
  have hy:ys[j]? = some (ys[j]'(by omega)):=T8 _
  obtain ⟨v,v1,v2⟩:=i.get hx
  obtain ⟨v',v1',v2'⟩:=i'.get hy
  obtain ⟨w,w1,w2⟩:=r.get v1
  obtain ⟨w',w1',w2'⟩:=r'.get v1'
  rw [T8 h1] at w1
  rw [T8 h2] at w1'
  cases w1
  cases w1'
  exact ih (by rw [kZ];omega) w2 w2' v2 v2' ((vB e).2 j _ _ hx hy)
 constructor
 ·intro l b' items items2 e1 e2 t1 t2 j h1 h2
  subst e1;subst e2
  cases a1 with
  | tup p vs its e q i r t=>
   cases e
   cases a2 with
   | tup p2 vs2 its2 e' q2 i2 r2 t'=>
    cases e'
    have z1:items=its.toArray:=by
     obtain ⟨o,g1,g2,n1,g3⟩:=t1
     obtain ⟨o',g1',g2',n1',g3'⟩:=t
     rw [g1] at g1';cases g1'
     rw [g3] at g3'
     injection g3'
    have z2:items2=its2.toArray:=by
     obtain ⟨o,g1,g2,n1,g3⟩:=t2
     obtain ⟨o',g1',g2',n1',g3'⟩:=t'
     rw [g1] at g1';cases g1'
     rw [g3] at g3'
     injection g3'
    subst z1;subst z2
    have:=core r r2 i i2 h j (by simpa using h1) (by simpa using h2)
    simpa [mL] using this
   | lst p2 vs2 its2 e' q2 i2 r2 t'=>
    cases e'
    exact absurd rfl (Vz t' t2)
   | non e'=>cases e'
   | bl _ e'=>cases e'
   | int _ _ e'=>cases e'
   | str _ _ e'=>cases e'
  | lst p vs its e q i r t=>
   cases e
   exact absurd rfl (Vz t t1)
  | non e=>cases e
  | bl _ e=>cases e
  | int _ _ e=>cases e
  | str _ _ e=>cases e
 ·intro l b' items items2 e1 e2 t1 t2 j h1 h2
  subst e1;subst e2
  cases a1 with
  | lst p vs its e q i r t=>
   cases e
   cases a2 with
   | lst p2 vs2 its2 e' q2 i2 r2 t'=>
    cases e'
    have z1:items=its.toArray:=by
     obtain ⟨o,g1,g2,n1,g3⟩:=t1
     obtain ⟨o',g1',g2',n1',g3'⟩:=t
     rw [g1] at g1';cases g1'
     rw [g3] at g3'
     injection g3'
    have z2:items2=its2.toArray:=by
     obtain ⟨o,g1,g2,n1,g3⟩:=t2
     obtain ⟨o',g1',g2',n1',g3'⟩:=t'
     rw [g1] at g1';cases g1'
     rw [g3] at g3'
     injection g3'
    subst z1;subst z2
    have:=core r r2 i i2 h j (by simpa using h1) (by simpa using h2)
    simpa [mL] using this
   | tup p2 vs2 its2 e' q2 i2 r2 t'=>
    cases e'
    exact absurd rfl (Vz t2 t')
   | non e'=>cases e'
   | bl _ e'=>cases e'
   | int _ _ e'=>cases e'
   | str _ _ e'=>cases e'
  | tup p vs its e q i r t=>
   cases e
   exact absurd rfl (Vz t1 t)
  | non e=>cases e
  | bl _ e=>cases e
  | int _ _ e=>cases e
  | str _ _ e=>cases e
theorem vC (I:Inv X a3G σ H s)(R:Rp X.K π H μ):∀ (n:Nat){A:Ue}{v v':V}{u u':Value}{x y:D}{b:Bool},A.units+n<Vm->RelV v u->RelV v' u'->IsD X.K π μ.length H v x->IsD X.K π μ.length H v' y->cA n μ x y=some b->EqAt A s u u' b:=by
 intro n
 induction n with
 | zero=>intro A v v' u u' x y b _ _ _ _ _ h;cases h
 | succ n ih=>
  intro A v v' u u' x y b hu r r' hx hy h
  have h0:=h
  obtain ⟨k,h1,h⟩:=Tj.mp h
  obtain ⟨k',h2,h⟩:=Tj.mp h
  have a1:=mM I R hx r h1
  have a2:=mM I R hy r' h2
  by_cases hs:u=u'
  ·subst hs
   have:v=v':=r.inj r'
   subst this
   have:=Jl I R (n+1) r hx hy h0
   subst this
   exact EqAt.same _
  ·have he:=Bp I ih hu a1 a2 h
   rw [Bo h]
   exact Jk a1.isK a2.isK (by omega) he fun l b' e1 e2 z=>hs (by rw [e1,e2,z])
theorem Bq (I:Inv X a3G σ H s)(R:Rp X.K π H μ)(n:Nat){A:Ue}{v v':V}{u u':Value}{x y:D}{b:Bool}(hu:A.units+n<Vm)(r:RelV v u)(r':RelV v' u')(hx:IsD X.K π μ.length H v x)(hy:IsD X.K π μ.length H v' y)(h:cA n μ x y=some b) :
  RcAt A s u u' b/\RcNeAt A s u u' (!b):=by
 cases n with
 | zero=>cases h
 | succ n=>
  obtain ⟨k,h1,h⟩:=Tj.mp h
  obtain ⟨k',h2,h⟩:=Tj.mp h
  have a1:=mM I R hx r h1
  have a2:=mM I R hy r' h2
  have he:=Bp I (A:=A) (vC I R n) hu a1 a2 h
  rw [Bo h]
  exact ⟨u7 a1.isK a2.isK (by omega) he,Jj a1.isK a2.isK (by omega) he⟩
end
end L3
namespace L3
open PySem L2
open SeqAt (EqAt RcAt RcNeAt)
section
variable {K:To}
noncomputable def iU (g:Int->Int->Option Int):D->D->Hm->Option (D×Hm)
 | .int i,.int j,μ=>(g i j).map fun z=>(.int z,μ)
 | _,_,_=>none
theorem Br {g:Int->Int->Option Int}{x y d:D}{μ μ':Hm}(h:iU g x y μ=some (d,μ')):∃ i j z,x=.int i/\y=.int j/\g i j=some z/\d=.int z/\μ'=μ:=by
 unfold iU at h
 split at h
 ·rename_i i j
  obtain ⟨z,h1,h2⟩:=Tq.mp h
  cases h2
  exact ⟨i,j,z,rfl,rfl,h1,rfl,rfl⟩
 ·cases h
theorem rC {Cc:Int->Int->Prop}{g:Int->Int->Option Int}{g':Int->Int->Int}(hg:∀ i j z,g i j=some z->Cc i j/\z=g' i j):cG K (iU g) (rI Cc fun i j=>.int (g' i j)):=by
 intro π H μ x y d μ' vx vy Q R ix iy hm k
 obtain ⟨i,j,z,rfl,rfl,h1,rfl,rfl⟩:=Br hm
 cases ix
 cases iy
 obtain ⟨c,rfl⟩:=hg i j z h1
 exact ⟨i,j,rfl,rfl,c,k π _ H .refl R (.int _)⟩
theorem Jm {g':Int->Int->Int}:cG K (iU fun i j=>some (g' i j)) (fF fun i j=>.int (g' i j)):=by
 intro π H μ x y d μ' vx vy Q R ix iy hm k
 obtain ⟨i,j,z,rfl,rfl,h1,rfl,rfl⟩:=Br hm
 cases ix
 cases iy
 cases h1
 exact ⟨i,j,rfl,rfl,k π _ H .refl R (.int _)⟩
noncomputable def cD:=iU fun i j=>some (i - j)
noncomputable def Bs:=iU fun i j=>if ((-(2 ^ 64)<i/\i<2 ^ 64)\/(-(2 ^ 64)<j/\j<2 ^ 64))\/(i.natAbs<2 ^ 4000/\j.natAbs<2 ^ 4000)\/Uq i+Uq j<=134217728 then some (i * j) else none
noncomputable def bC:D->D->Hm->Option (D×Hm)
 | .loc a,.int k,μ=>match μ[a]? with
  | some (.lst xs)=>if -(2 ^ 63)<=k/\k<2 ^ 63/\xs.length * k.toNat<=TL then some (.loc μ.length,μ++[.lst (Uh k.toNat xs).flatten]) else none
  | _=>none
 | x,y,μ=>Bs x y μ
noncomputable def eB:=iU fun i j=>if 0<j/\j<2 ^ 4000 then some (i / j) else none
noncomputable def aT:=iU fun i j=>if 0<j then some (i % j) else none
noncomputable def vD:=iU fun i j=>if (0<=j/\j<=1000000/\i.natAbs<2 ^ 64)\/(0<=j/\j<=100/\i.natAbs<2 ^ 4000) then some (i ^ j.toNat) else none
noncomputable def CMulB (i j:Int):Prop:=CMul i j\/(i.natAbs<2 ^ 4000/\j.natAbs<2 ^ 4000)\/Uq i+Uq j<=134217728
noncomputable def Bt (i j:Int):Prop:=0<j/\j<2 ^ 4000
noncomputable def Bu (i j:Int):Prop:=GP i j\/(0<=j/\j<=100/\i.natAbs<2 ^ 4000)
theorem vF {i:Int}(h:i.natAbs<2 ^ 4000):Uq i<=4000:=by
 unfold Uq
 split
 ·exact UP _
 ·rename_i hz
  have h0:i.natAbs≠0:=by
   intro z
   exact hz (by simpa using z)
  have:=(a3l h0).mpr h
  omega
theorem CMulB.ok {i j:Int}(h:CMulB i j):a1P i j:=by
 rcases h with h|⟨h1,h2⟩|h
 ·exact h.ok
 rotate_left
 ·have hl:WL (Uq i+Uq j)=false:=by
   unfold WL
   rw [decide_eq_false]
   have:bitsLine=134217728:=by decide
   omega
  unfold a1P
  rw [hl]
  simp
 ·have b1:=vF h1
  have b2:=vF h2
  have hl:WL (Uq i+Uq j)=false:=by
   unfold WL
   rw [decide_eq_false]
   have:(8000:Int)<=bitsLine:=by decide
   omega
  unfold a1P
  rw [hl]
  simp
section
variable {X:Cx}
theorem op_mulB:OpR X (Wm .Mult) (rI CMulB fun i j=>.int (i * j)):=qW fun _ _ _ _ _ _ _ hc q=>a3b q hc.ok
theorem Jn:OpR X (Wm .FloorDiv) (rI Bt fun i j=>.int (i / j)):=qW fun i j _ _ _ _ _ hc q=>by
 have h1:(0:Int)<j:=hc.1
 have h2:j<2 ^ 4000:=hc.2
 have h0:j.natAbs≠0:=by omega
 have h3:j.natAbs<2 ^ 4000:=by
  have:((2 ^ 4000:Nat):Int)=2 ^ 4000:=by decide
  omega
 have h4:=(a3l h0).mpr h3
 exact a3d (by omega) (by rw [Int.fdiv_eq_ediv_of_nonneg i (by omega)];exact q) (.inl (PyProof.noPylong_of_log2 (by omega)))
theorem Jo:OpR X (Wm .Pow) (rI Bu fun i j=>.int (i ^ j.toNat)):=qW fun i j _ _ _ _ _ hc q=>by
 rcases hc with hc|⟨h1,h2,h3⟩
 ·exact a2Y hc.1 hc.2.1 hc.2.2 q
 ·have b:=vF h3
  refine a2Z h1 ?_ q
  have:(Uq i:Int) * j<=4000 * 100:=a2e (by omega) h2 h1 (by omega)
  omega
end
theorem rD {c:Prop} [Decidable c] {a z:Int}(h:(if c then some a else none)=some z):c/\z=a:=by
 split at h
 ·cases h;exact ⟨by assumption,rfl⟩
 ·cases h
theorem Jp:cG K cD (fF fun i j=>.int (i - j)):=Jm
theorem Jq:cG K Bs (rI CMulB fun i j=>.int (i * j)):=rC fun i j z h=>by
 have:=rD h
 exact this
theorem Bv {π:Nat->Addr}{n:Nat}{H:Hp}{vs:List V}{ds:List D}(h:IsDs K π n H vs ds):∀ k:Nat,IsDs K π n H (Uh k vs).flatten (Uh k ds).flatten
 | 0=>.nil
 | k+1=>by
  rw [VI,VI,Wg,Wg]
  exact h.append (Bv h k)
theorem Jr:cG K bC (fun x y H Q=>rI CMulB (fun i j=>.int (i * j)) x y H Q\/A2 x y H Q):=by
 intro π H μ x y d μ' vx vy Q R ix iy hm k
 unfold bC at hm
 split at hm
 ·rename_i a kk
  split at hm
  ·rename_i xs hx
   split at hm
   ·rename_i hb
    cases hm
    cases ix
    cases iy
    obtain ⟨ws,h1,h2⟩:=R.lst a xs hx
    refine .inr ⟨_,kk,ws,rfl,rfl,h1,hb.1,hb.2.1,by rw [h2.length];exact hb.2.2,fun p hp=>?_⟩
    obtain ⟨e2,R2,_⟩:=R.alloc (c:=.lst (Uh kk.toNat xs).flatten) (o:=.lst (Uh kk.toNat ws).flatten) hp (Bv h2 _)
    exact k _ _ _ e2 R2 fW
   ·cases hm
  ·cases hm
 ·exact .inl (Jq π H μ _ _ d μ' vx vy Q R ix iy hm k)
theorem Js:cG K eB (rI Bt fun i j=>.int (i / j)):=rC fun i j z h=>by
 have:=rD h
 exact this
theorem Jt:cG K aT (rI (fun _ j=>0<j) fun i j=>.int (i % j)):=rC fun _ _ _ h=>rD h
theorem Ju:cG K vD (rI Bu fun i j=>.int (i ^ j.toNat)):=rC fun i j z h=>by
 have:=rD h
 exact this
noncomputable def Bw:D->Option D
 | .int i=>some (.int (-i))
 | _=>none
noncomputable def bE:D->D->Hm->Option (D×Hm)
 | .int i,.int j,μ=>some (.int (i+j),μ)
 | .str x,.str y,μ=>if x.length+y.length<=TL then some (.str (x++y),μ) else none
 | .loc a,.loc b,μ=>match μ[a]?,μ[b]? with
  | some (.lst xs),some (.lst ys)=>if xs.length+ys.length<=TL then some (.loc μ.length,μ++[.lst (xs++ys)]) else none
  | _,_=>none
 | _,_,_=>none
noncomputable def vG (K:To):R2:=fun x y H Q=>fF (fun i j=>.int (i+j)) x y H Q\/(∃ i j,x=.str i/\y=.str j/\i.length+j.length<=TL/\Q (.str (i++j)) H)\/A1 x y H Q
theorem Jv {X:Cx}:OpR X (Wm .Add) (vG X.K):=op_add.or (op_add_str.or HV)
noncomputable abbrev vH (K:To):R2:=vG K
theorem Jw {X:Cx}:OpR X (Wm .Add) (vH X.K):=Jv
theorem vJ {K:To}{x y:V}{H:Hp}{Q:VK}(h:vG K x y H Q):vH K x y H Q:=h
theorem Jx:cG K bE (vH K):=by
 intro π H μ x y d μ' vx vy Q R ix iy hm k
 unfold bE at hm
 split at hm
 ·cases hm
  cases ix
  cases iy
  exact vJ (.inl ⟨_,_,rfl,rfl,k π _ H .refl R (.int _)⟩)
 ·split at hm
  ·rename_i hl
   cases hm
   cases ix
   cases iy
   exact vJ (.inr (.inl ⟨_,_,rfl,rfl,hl,k π _ H .refl R (.str _)⟩))
  ·cases hm
 ·split at hm
  ·rename_i xs ys ha hb
   split at hm
   ·rename_i hl
    cases hm
    cases ix
    cases iy
    obtain ⟨vs,h1,h2⟩:=R.lst _ xs ha
    obtain ⟨ws,h3,h4⟩:=R.lst _ ys hb
    refine vJ (.inr (.inr ⟨_,_,vs,ws,rfl,rfl,by first|exact h1|exact .inl (.inl h1),h3,by rw [h2.length,h4.length];exact hl,fun p hp=>?_⟩))
    obtain ⟨e2,R2,q⟩:=R.alloc (c:=.lst (xs++ys)) (o:=.lst (vs++ws)) hp (h2.append h4)
    exact k _ _ _ e2 R2 fW
   ·cases hm
  ·cases hm
 ·cases hm
noncomputable def eW (p:Int->Int->Bool):D->D->Hm->Option (D×Hm)
 | .int i,.int j,μ=>some (.bl (p i j),μ)
 | _,_,_=>none
theorem fZ {p:Int->Int->Bool}:cG K (eW p) (fF fun i j=>.bl (p i j)):=by
 intro π H μ x y d μ' vx vy Q R ix iy hm k
 unfold eW at hm
 split at hm
 ·cases hm
  cases ix
  cases iy
  exact ⟨_,_,rfl,rfl,k π _ H .refl R (.bl _)⟩
 ·cases hm
noncomputable def gT:=eW fun i j=>decide (i<j)
noncomputable def vK:=eW fun i j=>decide (i<=j)
noncomputable def mO:=eW fun i j=>decide (j<i)
noncomputable def oY:=eW fun i j=>decide (j<=i)
noncomputable def vL (K:To)(ne:Bool):R2:=fun x y H Q=>∃ π μ dx dy b,Rp K π H μ/\IsD K π μ.length H x dx/\IsD K π μ.length H y dy/\cA 8 μ dx dy=some b/\Q (.bl (if ne then !b else b)) H
theorem Bx {X:Cx}(hu:X.A.units+8<Vm):OpR X (UX .Eq) (vL X.K false):=by
 intro a3G s σ H x y v u Q I rx ry h
 obtain ⟨π,μ,dx,dy,b,R,ix,iy,e,q⟩:=h
 exact (Bq I R 8 hu rx ry ix iy e).1 _ _ _ _ ⟨.bl b,H,I,rfl,q⟩
theorem By {X:Cx}(hu:X.A.units+8<Vm):OpR X (UX .NotEq) (vL X.K true):=by
 intro a3G s σ H x y v u Q I rx ry h
 obtain ⟨π,μ,dx,dy,b,R,ix,iy,e,q⟩:=h
 exact (Bq I R 8 hu rx ry ix iy e).2 _ _ _ _ ⟨.bl (!b),H,I,rfl,q⟩
noncomputable def aR (ne:Bool):D->D->Hm->Option (D×Hm):=fun x y μ=>(cA 8 μ x y).map fun b=>(.bl (if ne then !b else b),μ)
theorem rF {ne:Bool}:cG K (aR ne) (vL K ne):=by
 intro π H μ x y d μ' vx vy Q R ix iy hm k
 obtain ⟨b,h1,h2⟩:=Tq.mp hm
 cases h2
 exact ⟨π,μ,x,y,b,R,ix,iy,h1,k π _ H .refl R (.bl _)⟩
noncomputable def vO:D->D->Hm->Option (D×Hm)
 | .str i,.str j,μ=>some (.bl (!(Vd j i 0 j.length 1).isEmpty),μ)
 | _,_,_=>none
theorem Bz:cG K vO (fun x y H Q=>∃ i j,x=.str i/\y=.str j/\Q (.bl (!(Vd j i 0 j.length 1).isEmpty)) H):=by
 intro π H μ x y d μ' vx vy Q R ix iy hm k
 unfold vO at hm
 split at hm
 ·cases hm
  cases ix
  cases iy
  exact ⟨_,_,rfl,rfl,k π _ H .refl R (.bl _)⟩
 ·cases hm
end
section
variable {X:Cx}{a b c:TJ}{ma mb mc:ME}{pos:Vk}
theorem rG {k:Nat}{A:Ue}(r:Room k A):A.units+8<Vm:=by have:=r.un;omega
theorem Jy (ha:PE X a (tM X.K ma)):PE X (.UnaryOp .USub a pos) (tM X.K (fun ρ μ=>(ma ρ μ).bind fun p=>(Bw p.1).map fun d=>(d,p.2))):=cK (GO GS ha) (by
 rintro σ H Q ⟨π,ρ,μ,d,μ',R,E,hm,k⟩
 obtain ⟨⟨x,μ1⟩,h1,hm⟩:=Tj.mp hm
 obtain ⟨y,h2,h3⟩:=Tq.mp hm
 cases h3
 cases x with
 | int i=>
  cases h2
  refine ⟨π,ρ,μ,_,_,R,E,h1,fun π1 v1 H1 e1 R1 i1=>?_⟩
  cases i1
  exact ⟨_,rfl,k π1 _ H1 e1 R1 (.int _)⟩
 | _=>cases h2)
theorem Jz {x:Str}{n:String}(hg:Gl X x)(hm:X.mg x=none)(hv:Vl x=some (.type n))(hn:x ≠ "__name__":=by decide) (hd:(x == ("__debug__":Str))=false:=by decide):PE X (.Name x pos) (tM X.K (mC (.ty n))):=
 mI (FQ (v:=.ty n) hg hm hv rfl hn hd) fun _ _ _=>.ty n
end
noncomputable def vP (μ:Hm):D->Option String
 | .non=>some "NoneType"
 | .bl _=>some "bool"
 | .int _=>some "int"
 | .str _=>some "str"
 | .tup _=>some "tuple"
 | .rol _=>some "list"
 | .loc a=>match μ[a]? with
  | some (.lst _)=>some "list"
  | some (.dK _)=>some "dict"
  | _=>none
 | .ty _=>none
noncomputable def rH (t c:String):Option Bool:=match c with
 | "int"=>some (t == "int" || t == "bool")
 | "bool"=>some (t == "bool")
 | "str"=>some (t == "str")
 | "list"=>some (t == "list")
 | "tuple"=>some (t == "tuple")
 | "dict"=>some (t == "dict")
 | _=>none
noncomputable def k6:MF:=fun ds μ=>match ds with
 | [x,.ty c]=>(vP μ x).bind fun t=>(rH t c).map fun b=>(.bl b,μ)
 | _=>none
theorem jR (K:To){t c:String}{b:Bool}(ht:t = "NoneType"\/t = "bool"\/t = "int"\/t = "str"\/t = "tuple"\/t = "list"\/t = "dict") (h:rH t c=some b):Zd K (.type t) (.type c)=some b:=by
 unfold rH at h
 split at h<;>first
  | cases h;done
  | (have h':=Uc h;subst h'
     rcases ht with rfl|rfl|rfl|rfl|rfl|rfl|rfl<;>first|rfl|decide +kernel|(unfold Zd;simp;rfl))
end L3
namespace L3
open PySem L2
noncomputable abbrev MG:=D->aG->Hm->Option aG
noncomputable def fH (K:To)(g:MG):TG:=fun v σ H Q=>∃ π ρ μ d ρ',Rp K π H μ/\En K π μ.length H σ ρ/\IsD K π μ.length H v d/\g d ρ μ=some ρ'/\∀ σ',En K π μ.length H σ' ρ'->Q σ' H
noncomputable def dQ (i:Nat):MG:=fun d ρ _=>some (ρ.set i (some d))
section
variable {X:Cx}{pos:Vk}
theorem BA {i:Nat}{x:Str}(hN:X.N.Nodup)(hi:X.N[i]? = some x)(hx:Loc X.env.scope x)(hf:X.fn x=true\/X.env.scope.names.lookup x=some .local:=by first|exact .inl rfl|exact .inr rfl|assumption):PG X (.Name x pos) (fH X.K (dQ i)):=by
 intro a3G s σ H v u Q I r h
 obtain ⟨π,ρ,μ,d,ρ',R,E,hd,hm,k⟩:=h
 cases hm
 exact Ad hN hi hx hf a3G s σ H v u Q I r (k _ (E.set hd i))
noncomputable def JA (K:To)(tl:TE):TI:=fun σ H R=>tl σ H fun x H1=>∃ a,x=.ref a/\(((∃ xs,SqL K H1 a xs)/\R (uF K a) H1)\/((∃ xs,SqT K H1 a xs)/\R (uG K a) H1))
theorem JB {l tg:TJ}{tl:TE}(hl:PE X l tl):PI X tg l (JA X.K tl):=by
 intro a3G s σ H R I h
 refine aO (hl a3G s σ H _ I h) fun v s1 ⟨x,H1,I1,r1,q1⟩=>?_
 obtain ⟨a,e,q⟩:=q1
 subst e
 cases r1
 rcases q with ⟨⟨xs,hq⟩,q⟩|⟨⟨xs,hq⟩,q⟩
 ·obtain ⟨its,rv,p,hz⟩:=I1.list hq
  refine Wu p.isList ?_
  refine ⟨s1.heap.objs.size,[s1.heap.objs.size],_,_,H1,rfl,I1.kept (t':=s1.toks) fun b o e=>Tu _ e,Gz a _,⟨_,TZ _ rfl,rfl,rfl⟩,fun b hb=>?_,q⟩
  have e:b=s1.heap.objs.size:=by simpa using hb
  subst e
  exact I1.fpOk (TK _) (I1.hok.fresh (TK _))
 ·obtain ⟨its,rv,p,hz⟩:=I1.tuple hq
  refine WT (show s1.heap.IsTuple a its.toArray from p) ?_
  refine ⟨s1.heap.objs.size,[s1.heap.objs.size],_,_,H1,rfl,I1.kept (t':=s1.toks) fun b o e=>Tu _ e,GA a _,⟨_,TZ _ rfl,rfl,rfl⟩,fun b hb=>?_,q⟩
  have e:b=s1.heap.objs.size:=by simpa using hb
  subst e
  exact I1.fpOk (TK _) (I1.hok.fresh (TK _))
end
structure Wk (K:To)(J:It)(src:Hm->Nat->Option (Option D))(π:Nat->Addr)(n:Nat)(H:Hp):Prop where
 stop:∀ π' μ H' i,Ext π n H π' μ.length H'->Rp K π' H' μ->src μ i=some none->J.stop i H'
 go:∀ π' μ H' i d,Ext π n H π' μ.length H'->Rp K π' H' μ->src μ i=some (some d)->J.go i H'/\∀ x H2,J.yld i H' x H2->Ext π' μ.length H' π' μ.length H2/\Rp K π' H2 μ/\IsD K π' μ.length H2 x d
noncomputable def iV (x:D):Hm->Nat->Option (Option D):=fun μ i=>(bA μ x).map fun xs=>xs[i]?
theorem JC {K:To}{π:Nat->Addr}{μ:Hm}{H:Hp}{v:V}{x:D}{xs:List D}(R:Rp K π H μ)(h:IsD K π μ.length H v x)(hs:bA μ x=some xs) :
  ∃ a,v=.ref a/\(((∃ vs,SqL K H a vs)/\Wk K (uF K a) (iV x) π μ.length H)\/((∃ vs,SqT K H a vs)/\Wk K (uG K a) (iV x) π μ.length H)):=by
 cases h with
 | @tup p vs ds q t=>
  refine ⟨p,rfl,.inr ⟨⟨vs,q⟩,⟨fun π' μ' H' i e R' z=>?_,fun π' μ' H' i d e R' z=>?_⟩⟩⟩
  ·simp only [iV,bA,Ui] at z
   have z':ds[i]? = none:=Uc z
   exact ⟨vs,e.sqT q,by rw [t.length];exact U0.mp z'⟩
  ·simp only [iV,bA,Ui] at z
   have z':ds[i]? = some d:=Uc z
   obtain ⟨w,h1,h2⟩:=t.get z'
   refine ⟨⟨vs,w,e.sqT q,h1⟩,fun y H2 ⟨e1,e2⟩=>?_⟩
   subst e1
   have:=e2 vs (e.sqT q)
   rw [h1] at this
   cases this
   exact ⟨.refl,R',h2.mono e⟩
 | @rol p vs ds q t=>
  refine ⟨p,rfl,.inl ⟨⟨vs,q.sq⟩,⟨fun π' μ' H' i e R' z=>?_,fun π' μ' H' i d e R' z=>?_⟩⟩⟩
  ·simp only [iV,bA,Ui] at z
   have z':ds[i]? = none:=Uc z
   exact ⟨vs,(e.roL q).sq,by rw [t.length];exact U0.mp z'⟩
  ·simp only [iV,bA,Ui] at z
   have z':ds[i]? = some d:=Uc z
   obtain ⟨w,h1,h2⟩:=t.get z'
   refine ⟨⟨vs,w,(e.roL q).sq,h1⟩,fun y H2 ⟨e1,e2⟩=>?_⟩
   subst e1
   have:=e2 vs (e.roL q).sq
   rw [h1] at this
   cases this
   exact ⟨.refl,R',h2.mono e⟩
 | @loc a ha=>
  have hc:∃ vs,H (π a)=some (.lst vs):=by
   simp only [bA] at hs
   split at hs
   ·rename_i ys hy
    obtain ⟨vs,h1,_⟩:=R.lst a ys hy
    exact ⟨vs,h1⟩
   ·cases hs
  obtain ⟨vs0,hv0⟩:=hc
  refine ⟨π a,rfl,.inl ⟨⟨vs0,.of hv0⟩,⟨fun π' μ' H' i e R' z=>?_,fun π' μ' H' i d e R' z=>?_⟩⟩⟩
  ·simp only [iV,bA] at z
   split at z
   ·rename_i ys hy
    obtain ⟨vs,h1,h2⟩:=R'.lst a ys hy
    rw [e.pi a ha] at h1
    have z':ys[i]? = none:=Uc z
    exact ⟨vs,.of h1,by rw [h2.length];exact U0.mp z'⟩
   ·cases z
  ·simp only [iV,bA] at z
   split at z
   ·rename_i ys hy
    obtain ⟨vs,h1,h2⟩:=R'.lst a ys hy
    rw [e.pi a ha] at h1
    have z':ys[i]? = some d:=Uc z
    obtain ⟨w,h3,h4⟩:=h2.get z'
    refine ⟨⟨vs,w,.of h1,h3⟩,fun y H2 ⟨e1,e2⟩=>?_⟩
    subst e1
    have:=e2 vs (.of h1)
    rw [h3] at this
    cases this
    exact ⟨.refl,R',h4⟩
   ·cases z
 | _=>cases hs
noncomputable def eP (src:Hm->Nat->Option (Option D))(g:MG)(b:MS):Nat->Nat->MS
 | 0,_,_,_=>none
 | n+1,i,ρ,μ=>(src μ i).bind fun o=>match o with
  | none=>some (.nx,ρ,μ)
  | some d=>(g d ρ μ).bind fun ρ1=>(b ρ1 μ).bind fun p=>match p.1 with
   | .nx=>eP src g b n (i+1) p.2.1 p.2.2
   | .ct=>eP src g b n (i+1) p.2.1 p.2.2
   | .bk=>some (.nx,p.2.1,p.2.2)
   | .rt d=>some (.rt d,p.2.1,p.2.2)
theorem JD {K:To}{J:It}{src:Hm->Nat->Option (Option D)}{g:MG}{b:MS}{π:Nat->Addr}{n0:Nat}{H0:Hp}(W:Wk K J src π n0 H0){E:Ends}{fl:Fl}{ρ':aG}{μ':Hm}(hE:kX K E π n0 H0 fl ρ' μ')
  {π1:Nat->Addr}{μ1:Hm}{H1:Hp}{ρ1:aG}{σ1:St}{n:Nat}(e1:Ext π n0 H0 π1 μ1.length H1)(R1:Rp K π1 H1 μ1)(E1:En K π1 μ1.length H1 σ1 ρ1)(h:eP src g b n 0 ρ1 μ1=some (fl,ρ',μ')) :
  ∃ Wd:Nat->Nat->St->Hp->Prop,(∃ m,Wd 0 m σ1 H1)/\∀ i m σ H,Wd i m σ H->
   (J.stop i H/\E.nx σ H)\/(J.go i H/\∃ N:St->Hp->Prop,(∀ σ' H',N σ' H'->∃ m',m'<m/\Wd (i+1) m' σ' H')/\∀ x H',J.yld i H x H'->fH K g x σ H' fun σ2 H2=>cZ K b { E with nx:=N,ct:=N,bk:=E.nx } σ2 H2):=by
 have lift:∀ {π2:Nat->Addr}{n2:Nat}{H2:Hp}(e:Ext π n0 H0 π2 n2 H2){fl:Fl}{ρ':aG}{μ':Hm},kX K E π n0 H0 fl ρ' μ'->kX K E π2 n2 H2 fl ρ' μ':=fun {π2 n2 H2} e {fl ρ' μ'} k=>by
  cases fl with
  | nx=>exact fun π3 σ3 H3 e3 R3 E3=>k π3 σ3 H3 (e.trans e3) R3 E3
  | bk=>exact fun π3 σ3 H3 e3 R3 E3=>k π3 σ3 H3 (e.trans e3) R3 E3
  | ct=>exact fun π3 σ3 H3 e3 R3 E3=>k π3 σ3 H3 (e.trans e3) R3 E3
  | rt d=>exact KC.after k e
 refine ⟨fun i m σ H=>∃ π2 μ2 ρ2,Ext π n0 H0 π2 μ2.length H/\Rp K π2 H μ2/\En K π2 μ2.length H σ ρ2/\eP src g b m i ρ2 μ2=some (fl,ρ',μ'),⟨n,π1,μ1,ρ1,e1,R1,E1,h⟩,?_⟩
 rintro i m σ H ⟨π2,μ2,ρ2,e2,R2,E2,h2⟩
 cases m with
 | zero=>cases h2
 | succ m=>
  obtain ⟨o,h3,h4⟩:=Tj.mp h2
  cases o with
  | none=>
   cases h4
   exact .inl ⟨W.stop π2 _ H i e2 R2 h3,hE π2 σ H e2 R2 E2⟩
  | some d=>
   obtain ⟨g1,g2⟩:=W.go π2 μ2 H i d e2 R2 h3
   obtain ⟨ρ3,h5,h6⟩:=Tj.mp h4
   obtain ⟨⟨f4,ρ4,μ4⟩,h7,h8⟩:=Tj.mp h6
   refine .inr ⟨g1,fun σ' H'=>∃ π5 ρ5 μ5,Ext π n0 H0 π5 μ5.length H'/\Rp K π5 H' μ5/\En K π5 μ5.length H' σ' ρ5/\eP src g b m (i+1) ρ5 μ5=some (fl,ρ',μ'),
    fun σ' H' ⟨π5,ρ5,μ5,a1,a2,a3,a4⟩=>⟨m,Wx _,π5,μ5,ρ5,a1,a2,a3,a4⟩,fun x H' y=>?_⟩
   obtain ⟨ex,Rx,hx⟩:=g2 x H' y
   have e2:=e2.trans ex
   refine ⟨π2,ρ2,μ2,d,ρ3,Rx,E2.mono ex,hx,h5,fun σ3 E3=>⟨π2,ρ3,μ2,f4,ρ4,μ4,Rx,E3,h7,?_⟩⟩
   cases f4 with
   | nx=>exact fun π5 σ5 H5 e5 R5 E5=>⟨π5,ρ4,μ4,e2.trans e5,R5,E5,h8⟩
   | ct=>exact fun π5 σ5 H5 e5 R5 E5=>⟨π5,ρ4,μ4,e2.trans e5,R5,E5,h8⟩
   | bk=>
    cases h8
    exact fun π5 σ5 H5 e5 R5 E5=>hE π5 σ5 H5 (e2.trans e5) R5 E5
   | rt d'=>
    cases h8
    exact KC.after hE e2
section
variable {X:Cx}{pos:Vk}{tg iter:TJ}{body:List Stmt}{mi:ME}{g:MG}{mb:MS}
noncomputable def fJ (lo:Int)(n:Nat):Hm->Nat->Option (Option D):=fun _ i=>some (if i<n then some (.int (lo+i)) else none)
theorem BB {K:To}{lo:Int}{k:Nat}{π:Nat->Addr}{n:Nat}{H:Hp}:Wk K (oP lo k) (fJ lo k) π n H:=by
 refine ⟨fun π' μ H' i e R z=>?_,fun π' μ H' i d e R z=>?_⟩
 ·have z':=Uc z
  split at z'
  ·cases z'
  ·exact XI.mp (by assumption)
 ·have z':=Uc z
  split at z'
  ·cases z'
   rename_i h
   exact ⟨h,fun x H2 ⟨e1,e2⟩=>by subst e1;rw [e2];exact ⟨.refl,R,.int _⟩⟩
  ·cases z'
end
end L3
namespace L3
open PySem L2
noncomputable def mP (y:Str):Str:="#"++y
noncomputable def bG (xs N:List Str):List Str:=N.map fun y=>if xs.contains y then mP y else y
theorem k7 (xs N:List Str):(bG xs N).length=N.length:=by unfold bG;simp
theorem JE {xs N:List Str}{i:Nat}{y:Str}(h:(bG xs N)[i]? = some y):∃ y0,N[i]? = some y0/\((xs.contains y0=true/\y=mP y0)\/(xs.contains y0=false/\y=y0)):=by
 unfold bG at h
 rw [Uu] at h
 obtain ⟨y0,h1,h2⟩:=Tq.mp h
 refine ⟨y0,h1,?_⟩
 cases hc:xs.contains y0 with
 | true=>rw [hc] at h2;exact .inl ⟨rfl,by simpa using h2.symm⟩
 | false=>rw [hc] at h2;exact .inr ⟨rfl,by simpa using h2.symm⟩
noncomputable def cL (X:Cx)(scope:V5)(cl:List (Str×Addr))(C:Addr)(N:List Str)(s₀:Tv)(H₀:Hp)(fp:List Addr):Cx:=
 { X with N:=N,s₀:=s₀,H₀:=H₀,env:=W8 scope cl C X.env,outer:=X.stack,stack:=X.stack,ex:=fp,fn:=fun _=>false,pn:=[],xe:=fun _ _=>False }
theorem BC {env:X2}:∀ (names:List (Str×V1))(x:Str),(names.map fun (n,k)=>if (k == VH&&env.scope.kind == .function&&env.kindOf n == some .cell) then (n,VS) else (n,k)).lookup x
  = (names.lookup x).map fun k=>if (k == VH&&env.scope.kind == .function&&env.kindOf x == some .cell) then VS else k
 | [],_=>rfl
 | (n,k)::r,x=>by
  have ih:=BC (env:=env) r x
  rw [T4]
  by_cases hx:x=n
  ·subst hx
   have key:∀ (k':V1)(l:List (Str×V1)),Xf x ((x,k')::l)=some k':=fun k' l=>by simp [W5]
   rw [key]
   show Xf x ((if (k == VH&&env.scope.kind == .function&&env.kindOf x == some .cell)=true then (x,VS) else (x,k))::_)=some (if (k == VH&&env.scope.kind == .function&&env.kindOf x == some .cell)=true then VS else k)
   split
   ·rw [key]
   ·rw [key]
  ·have hx':(x == n)=false:=by simpa using hx
   have key:∀ (k':V1)(l:List (Str×V1)),Xf x ((n,k')::l)=Xf x l:=fun k' l=>by simp only [W5,hx']
   rw [key]
   show Xf x ((if (k == VH&&env.scope.kind == .function&&env.kindOf n == some .cell)=true then (n,VS) else (n,k))::_)=_
   split
   ·rw [key]
    exact ih
   ·rw [key]
    exact ih
structure CompOk (X:Cx)(scope:V5)(cl:List (Str×Addr))(xs:List Str):Prop where
 clos:a2a scope X.env=pure cl
 nocell:∀ y∈scope.names,y.2≠.cell
 kind:scope.kind=.function
 names:∀ y∈scope.names,y.2=.local->scope.names.lookup y.1=some .local
 here:∀ x∈xs,scope.names.lookup x=some .local
 sub:∀ y c,cl.lookup y=some c->X.env.cells.lookup y=some c
 free:∀ y,scope.names.lookup y=some .free->(X.env.kindOf y=some .cell\/X.env.kindOf y=some .free)/\∃ c,cl.lookup y=some c
 own:∀ y,scope.names.lookup y=some .local->y∉bG xs X.N
 hidn:∀ y∈X.N,xs.contains y=true->scope.names.lookup (mP y)=none
section
variable {X:Cx}{scope:V5}{cl:List (Str×Addr)}{xs:List Str}
theorem CompOk.kindOf (O:CompOk X scope cl xs)(C:Addr)(y:Str):(W8 scope cl C X.env).kindOf y=(scope.names.lookup y).map fun k=>if (k == VH&&X.env.scope.kind == .function&&X.env.kindOf y == some .cell) then VS else k:=
 BC scope.names y
theorem CompOk.outer (O:CompOk X scope cl xs){C:Addr}{y:Str}(h:(W8 scope cl C X.env).kindOf y=some .cell\/(W8 scope cl C X.env).kindOf y=some .free):scope.names.lookup y=some .free:=by
 rw [O.kindOf] at h
 cases q:scope.names.lookup y with
 | none=>rw [q] at h;rcases h with h|h<;>cases h
 | some k=>
  rw [q] at h
  cases k with
  | free=>rfl
  | cell=>exact absurd rfl (O.nocell _ (U2 q))
  | «local»=>rcases h with h|h<;>simp at h
  | globalExplicit=>rcases h with h|h<;>simp at h
  | globalImplicit=>rcases h with h|h<;>simp at h
theorem CompOk.inv {a3G:List (Addr×Obj)}{σ:St}{H:Hp}{s:Tv}{fp:List Addr}{h₁:UE}{tk:Nat}(O:CompOk X scope cl xs)(I:Inv X a3G σ H s)(hfp:∀ b∈fp,eT X a3G H b)(hob:∀ b∈fp,∃ o,s.heap.get? b=some o){m:Str->Option Value}
  (hns:h₁.Ns s.heap.objs.size m)(hk:∀ b o,s.heap.get? b=some o->h₁.get? b=some o) :
  Inv (cL X scope cl s.heap.objs.size (bG xs X.N++xs) s H fp) [] (σ++Uh xs.length none) H { s with heap:=h₁,toks:=tk }:=by
 refine ⟨⟨I.ok.mod,O.kind,I.ok.glob,I.ok.blt,TK _,fun y z c h1 h2=>?_,fun y hy=>?_,(fun y c h=>by cases h),I.ok.hd,I.ok.frames,.inl rfl,fun b hb=>?_,fun b o e=>I.bs b o e,UU I.ok.bsz I.sz,fun b o e hb=>?_,fun b hb hb2=>?_,I.stack,I.stkFree⟩,
  rfl,I.bare,Un.kept hk,⟨m,hns,fun i y v h1 h2 h3=>?_⟩,fun y c h=>?_,I.hok.fresh (TK _),fun y c h=>I.freeC y c (O.sub y c h),fun p hp=>absurd (show p∈([]:List (Addr×Obj)) from hp) (by simp),I.hok.kept hk,?_⟩
 ·exact I.ok.inj y z c (O.sub y c h1) (O.sub z c h2)
 ·exact (O.free y (O.outer hy)).2
 ·obtain ⟨f0,f1,f2,f3,f4,f5⟩:=hfp b hb
  obtain ⟨o,ho⟩:=hob b hb
  exact ⟨TV (TB ho),fun y c h=>f4 y c (O.sub y c h)⟩
 ·obtain ⟨f0,f1,f2,f3,f4,f5⟩:=hfp b hb
  rcases f3 with f3|f3
  ·exact I.ok.noex b o e f3
  ·exact absurd (T6 (TB (I.ok.bs b o e).1) f3) (VO _)
 ·obtain ⟨f0,f1,f2,f3,f4,f5⟩:=hfp b hb
  rcases Ug.mp (I.stkSub b hb2) with z|z
  ·exact f1 z
  ·exact f2 z
 ·have hi:i<σ.length:=by
   by_cases hi:i<σ.length
   ·exact hi
   ·rw [VB (XI.mp hi),V3] at h2
    split at h2<;>cases h2
  rw [Uz hi] at h2
  have h0':(bG xs X.N)[i]? = some y:=by
   have h1'':(bG xs X.N++xs)[i]? = some y:=h1
   rw [Uz (by rw [k7,<- I.len];exact hi)] at h1''
   exact h1''
  have notown:scope.names.lookup y≠some .local:=fun z=>O.own y z (UG h0')
  have hk':=O.kindOf s.heap.objs.size y
  have h1':X.N[i]? = some y:=by
   obtain ⟨y0,q1,q2⟩:=JE h0'
   rcases q2 with ⟨q2,q3⟩|⟨q2,q3⟩
   ·exfalso
    have hz:=O.hidn y0 (UG q1) q2
    rw [<- q3] at hz
    rw [hz] at hk'
    have h3':(W8 scope cl s.heap.objs.size X.env).kindOf y=some .local\/(W8 scope cl s.heap.objs.size X.env).kindOf y=some .cell\/(W8 scope cl s.heap.objs.size X.env).kindOf y=some .free:=h3
    rw [hk'] at h3'
    rcases h3' with h3'|h3'|h3'<;>cases h3'
   ·rw [q3];exact q1
  have h3':(W8 scope cl s.heap.objs.size X.env).kindOf y=some .cell\/(W8 scope cl s.heap.objs.size X.env).kindOf y=some .free:=by
   rcases h3 with h3|h3|h3
   ·exfalso
    have h3':(W8 scope cl s.heap.objs.size X.env).kindOf y=some .local:=h3
    rw [hk'] at h3'
    cases q:scope.names.lookup y with
    | none=>rw [q] at h3';cases h3'
    | some k=>
     rw [q] at h3'
     cases k with
     | «local»=>exact notown q
     | cell=>simp at h3'
     | free=>
      simp only [Ui] at h3'
      split at h3'<;>cases h3'
     | globalExplicit=>simp at h3'
     | globalImplicit=>simp at h3'
   ·exact .inl h3
   ·exact .inr h3
  obtain ⟨hf,c,hc⟩:=O.free y (O.outer h3')
  obtain ⟨m0,hn0,hl0⟩:=I.loc
  obtain ⟨u,r,l⟩:=hl0 i y v h1' h2 (by rcases hf with hf|hf;exact .inr (.inl hf);exact .inr (.inr hf))
  refine ⟨u,r,.inr ⟨h3',c,hc,?_⟩⟩
  rcases l with ⟨lk,_⟩|⟨_,c',e',z⟩
  ·exfalso
   rcases hf with hf|hf
   ·rw [hf] at lk;cases lk
   ·rw [hf] at lk;cases lk
  ·rw [O.sub y c hc] at e'
   cases e'
   obtain ⟨o,ho,hd⟩:=z
   exact ⟨o,hk c o ho,hd⟩
 ·obtain ⟨v,q⟩:=I.cell y c (O.sub y c h)
  exact ⟨v,by obtain ⟨o,ho,hd⟩:=q;exact ⟨o,hk c o ho,hd⟩⟩
 ·show (σ++Uh xs.length none).length=(bG xs X.N++xs).length
  rw [Ua,Ua,I.len,VQ,k7]
theorem CompOk.back {a3G pl:List (Addr×Obj)}{σ σ':St}{H H':Hp}{s s1:Tv}{fp:List Addr}{h':UE}{N:List Str}(I:Inv X a3G σ H s)(hfp:∀ b∈fp,eT X a3G H b)
  (J:Inv (cL X scope cl s.heap.objs.size N s H fp) pl σ' H' s1)(hs:∀ b o,b≠s.heap.objs.size->s1.heap.get? b=some o->h'.get? b=some o):Inv X a3G σ H' { s1 with heap:=h' }:=by
 have u:Un (cY X.stack) fp H H' s.heap h':=by
  have u0:Un (cY X.stack) fp H H' s.heap s1.heap:=J.base
  have ne:∀ b o,s.heap.get? b=some o->b≠s.heap.objs.size:=fun b o e=>TV (TB e)
  refine ⟨fun b o e n hb hx=>hs b o (ne b o e) (u0.keep b o e n hb hx),fun b o e n hb hx=>?_,u0.free,fun b o e hx=>?_,u0.tups,u0.frzs,u0.tbls⟩
  ·obtain ⟨sl,q⟩:=u0.slot b o e n hb hx
   exact ⟨sl,hs b _ (ne b o e) q⟩
  ·obtain ⟨o',q⟩:=u0.there b o e hx
   exact ⟨o',hs b _ (ne b o e) q⟩
 have hfree:H' s.heap.objs.size=none:=J.free
 have hok:HOk X.prog X.w H' h':=fun b v e=>by
  refine (J.hok b v e).stay (fun c w hc q=>hs c w ?_ q) (fun _ q=>q) fun _ _ q=>q
  rcases hc with z|z
  ·rw [z]
   intro z2
   rw [z2,hfree] at e
   cases e
  ·intro z2
   rw [z2,hfree] at z
   cases z
 have hos:s1.os=s.os:=J.os
 obtain ⟨hh,g,d,t,os'⟩:=s1
 obtain rfl:os'=s.os:=hos
 have r:=Inv.call (X:=X) (a3G:=a3G) (σ:=σ) (H:=H) (s:=s) (h':=h') (g':=g) (d':=d) (t':=t) (ch:=fp) I u hok J.bare fun b hb=>let ⟨f0,f1,f2,f3,f4,f5⟩:=hfp b hb;⟨f3,f1,f4,f5⟩
 exact r
end
theorem JF {prog:Ub}{w:Up}{A:Ue}{R:a0l->Tv->Prop}{s:Tv}{elt target iter:TJ}{ifs:List TJ}{scope:V5}{pos:Vk}{it acc:Value}{env:X2}(I:Nat->Tv->Prop)
  (turn:∀ n s,I n s->TY (T7 prog w) A (XF it) (fun r s₁=>match r with
   | none=>R (.ok .next) s₁
   | some v=>TY (T7 prog w) A (Yz target it v) (fun _ s₁'=>TY (T7 prog w) A (Zc target env v) (fun _ s₂=>
     TY (T7 prog w) A (forIn ifs true fun c r=>if r=true then do let ok <- a1h c env (eval c env);pure (Wv ok) else pure (Wv r)) (fun ok s₃=>
      if ok=true then TY (T7 prog w) A (eval elt env) (fun x s₄=>
       TY (T7 prog w) A (call (.builtin "list.append") [acc,x]) (fun _ s₅=>∃ m,m<n/\I m s₅) (fun _ _=>False) s₄) (fun _ _=>False) s₃
      else ∃ m,m<n/\I m s₃) (fun _ _=>False) s₂) (fun _ _=>False) s₁') (fun _ _=>False) s₁) (fun _ _=>False) s)
  (n:Nat)(h:I n s) :
  XQ (T7 prog w) A (.compLoop (.ListComp elt [⟨target,iter,ifs,0⟩] scope pos) 0 it acc env) R s:=by
 refine codeAny_loop rfl I (fun n s hI=>?_) n h
 show TY _ A ((compTurn (.ListComp elt [⟨target,iter,ifs,0⟩] scope pos) 0 it acc env).onRaise (fun x=>do ZJ x env;theTreesLotGoes x)) _ _ s
 refine wpAny_noted ?_
 rw [compTurn_list]
 refine Tp (Yb (Tp (Us (turn n s hI) (fun r s₁ h₁=>?_) fun _ _ h'=>h'.elim)))
 cases r with
 | none=>exact TF h₁
 | some v=>
  refine Tp (Us h₁ (fun _ s₁' h₁'=>?_) fun _ _ h'=>h'.elim)
  refine Tp (Us h₁' (fun _ s₂ h₂=>Tp (Us h₂ (fun ok s₃ h₃=>?_) fun _ _ h'=>h'.elim)) fun _ _ h'=>h'.elim)
  cases ok with
  | false=>exact TF ⟨rfl,h₃⟩
  | true=>
   exact Tp (Tp (Us h₃ (fun x s₄ h₄=>Tp (Us h₄ (fun _ s₅ h₅=>TF (TF ⟨rfl,h₅⟩)) fun _ _ h'=>h'.elim)) fun _ _ h'=>h'.elim))
noncomputable def mQ (μ:Hm)(a:Nat)(y:D):Option Hm:=match μ[a]? with
 | some (.lst xs)=>if xs.length<TL then some (μ.set a (.lst (xs++[y]))) else none
 | _=>none
noncomputable abbrev BD:=D->Hm->Option aG
noncomputable def oZ:BD:=fun d _=>some [some d]
noncomputable def vQ (k:Nat):BD:=fun d μ=>(bA μ d).bind fun xs=>if xs.length=k then some (xs.map some) else none
noncomputable def fK (src:Hm->Nat->Option (Option D))(bd:BD)(c:MT)(e:ME)(ρ:aG)(a0:Nat):Nat->Nat->Hm->Option Hm
 | 0,_,_=>none
 | n+1,i,μ=>(src μ i).bind fun o=>match o with
  | none=>some μ
  | some d=>(bd d μ).bind fun x=>(c (ρ++x) μ).bind fun p=>match p.1 with
   | true=>(e (ρ++x) p.2).bind fun q=>(mQ q.2 a0 q.1).bind fun μ3=>fK src bd c e ρ a0 n (i+1) μ3
   | false=>fK src bd c e ρ a0 n (i+1) p.2
noncomputable def gU:MT:=fun _ μ=>some (true,μ)
noncomputable def mR (X:Cx)(ifs:List TJ)(m:MT):Prop:=
 ∀ (a3G:List (Addr×Obj))(s:Tv)(σ:St)(H:Hp)(Q:Bool->Hp->Prop),Inv X a3G σ H s->cT X.K m σ H Q->
  TY (T7 X.prog X.w) X.A (forIn ifs true fun c r=>if r=true then do let ok <- a1h c X.env (eval c X.env);pure (Wv ok) else pure (Wv r)) (TP X a3G σ Q) X.xe s
theorem JG {X:Cx}:mR X [] gU:=by
 intro a3G s σ H Q I h
 obtain ⟨π,ρ,μ,b,μ',R,E,hm,k⟩:=h
 cases hm
 exact wpAny_tests_nil ⟨H,I,k π H .refl R⟩
theorem JH {X:Cx}{c:TJ}{m:MT}(h:PT X c (cT X.K m)):mR X [c] m:=fun a3G s σ H Q I q=>wpAny_tests_one (h a3G s σ H Q I q)
end L3
namespace L3
open PySem L2
section
variable {prog:Ub}{w:Up}{A:Ue}{E:Value->Tv->Prop}{s:Tv}
theorem BE {it t:Addr}{items:Array Value}(hne:t≠it):∀ (n i:Nat)(s:Tv)(Q:List Value->Tv->Prop),s.heap.IsListIter it t i->s.heap.IsList t items->i+n<=items.size->
  (∀ h',h'.IsListIter it t (i+n)->WR it s.heap h'->Q ((items.toList.drop i).take n) { s with heap:=h' })->TY (T7 prog w) A (draw (.ref it) n) Q E s
 | 0,i,s,Q,hit,_,_,hQ=>by
  show TY _ _ (pure []) Q E s
  exact TF (by simpa using hQ s.heap hit (ZQ ..))
 | n+1,i,s,Q,hit,ht,hle,hQ=>by
  have hlt:i<items.size:=by omega
  show TY _ _ (XF (.ref it) >>= _) Q E s
  refine Tp (Yt hit ht (x:=items[i]) (by simp [hlt]) fun h₁ hit₁ hs₁=>?_)
  refine Tp (UQ (BE hne n (i+1) _ _ hit₁ (ht.extBut hs₁.extBut hne) (by omega) fun h₂ hit₂ hs₂=>TF ?_))
  have hd:items.toList.drop i=items[i]::items.toList.drop (i+1):=by simp [ZP,hlt]
  have:=hQ h₂ (by rw [show i+(n+1)=i+1+n by omega];exact hit₂) (hs₁.trans hs₂)
  rw [hd,List.take_succ_cons] at this
  exact this
theorem JI {t:Addr}{items:Array Value}{Q:List Value->Tv->Prop}(hh:A.handled=none)(ht:s.heap.IsList t items)
  (hQ:∀ h',Zg s.heap.objs.size s.heap h'->Q items.toList { s with heap:=h' }):TY (T7 prog w) A (unpackItems (.ref t) items.size none) Q E s:=by
 have hlt:t≠s.heap.objs.size:=by obtain ⟨o,ho,_⟩:=ht;exact TV (TB ho)
 unfold unpackItems
 refine Tp ?_
 ·unfold notIterableAtAll
  refine Tp (a2P ht.typeIs slot_list_iter.lookup ?_)
  refine TF ?_
  simp only [TQ,if_false]
  refine Tp (UQ (Wu ht ?_))
  refine Tp (UQ (BE hlt items.size 0 _ _ ⟨_,TZ _ rfl,rfl,rfl⟩ (ht.push _) (by omega) fun h₁ hit₁ hs₁=>?_))
  have hall:List.take items.size (List.drop 0 items.toList)=items.toList:=by
   rw [a1T];exact Z6 (by simp)
  rw [hall]
  rw [if_neg (by simp)]
  have ht₁:h₁.IsList t items:=(ht.push _).extBut hs₁.extBut hlt
  refine Tp (UQ (YA hh hit₁ ht₁ (by simp) fun h₂ he₂=>?_))
  simp only [Option.isSome_none,TQ,if_false]
  refine TF (hQ h₂ fun b o hb e=>he₂ b o hb (hs₁.extBut b o hb (Tu _ e)))
theorem JJ {env:X2}{elts:List TJ} {x1} {pos:Vk}{t:Addr}{items:Array Value}{Q:Unit->Tv->Prop}(hh:A.handled=none)(ht:s.heap.IsList t items)
  (hn:(VM elts env).length=items.size)(hstar:(VM elts env).findIdx? (·.1)=none)
  (h:∀ h',Zg s.heap.objs.size s.heap h'->TY (T7 prog w) A (assignInOrder ((VM elts env).map (·.2)) items.toList) Q E { s with heap:=h' }) :
  TY (T7 prog w) A (Zc (.Tuple elts x1 pos) env (.ref t)) Q E s:=by
 rw [a3k]
 refine Tp (Yb ?_)
 unfold unpack
 rw [hn,hstar]
 exact Tp (UQ (JI hh ht h))
end
noncomputable def k8:aG->List Nat->List D->aG
 | ρ,i::is,x::xs=>k8 (ρ.set i (some x)) is xs
 | ρ,_,_=>ρ
noncomputable def cU (is:List Nat):MG:=fun d ρ μ=>(bA μ d).bind fun xs=>if xs.length=is.length then some (k8 ρ is xs) else none
noncomputable def rJ:List Nat->mG
 | []=>Ae
 | i::r=>Af (uD i) (rJ r)
theorem vT {K:To}{π:Nat->Addr}{n:Nat}{H:Hp}:∀ (is:List Nat){vs:List V}{xs:List D}{σ:St}{ρ:aG}{Q:St->Hp->Prop},IsDs K π n H vs xs->En K π n H σ ρ->xs.length=is.length->(∀ σ',En K π n H σ' (k8 ρ is xs)->Q σ' H)->rJ is vs σ H Q
 | [],vs,xs,σ,ρ,Q,h,E,hl,k=>by
  cases h with
  | nil=>exact ⟨rfl,k σ E⟩
  | cons h t=>cases hl
 | i::is,vs,xs,σ,ρ,Q,h,E,hl,k=>by
  cases h with
  | nil=>cases hl
  | cons h t=>exact ⟨_,_,rfl,vT is t (E.set h i) (by simpa using hl) k⟩
section
variable {X:Cx}{pos:Vk}
theorem JK {es:List TJ}{k:Nat}{is:List Nat}(hc:X.calm=true)(h:oO X es (rJ is))(hn:(VM es X.env).length=is.length:=by rfl)(hst:(VM es X.env).findIdx? (·.1)=none:=by rfl) :
  PG X (.Tuple es k pos) (fH X.K (cU is)):=by
 intro a3G s σ H v u Q I r hw
 obtain ⟨π,ρ,μ,d,ρ',R,E,hd,hm,kk⟩:=hw
 obtain ⟨xs,h1,h2⟩:=Tj.mp hm
 split at h2
 ·rename_i hl
  cases h2
  have both:(∃ a vs,v=.ref a/\SqT X.K H a vs/\IsDs X.K π μ.length H vs xs)\/(∃ a vs,v=.ref a/\SqL X.K H a vs/\IsDs X.K π μ.length H vs xs):=by
   cases hd with
   | tup q t=>cases h1;exact .inl ⟨_,_,rfl,q,t⟩
   | rol q t=>cases h1;exact .inr ⟨_,_,rfl,q.sq,t⟩
   | @loc a ha=>
    simp only [bA] at h1
    split at h1
    ·rename_i ys hy
     cases h1
     obtain ⟨vs,h3,h4⟩:=R.lst a xs hy
     exact .inr ⟨_,vs,rfl,.of h3,h4⟩
    ·cases h1
   | _=>cases h1
  rcases both with ⟨a,vs,rfl,q,t⟩|⟨a,vs,rfl,q,t⟩
  ·cases r
   obtain ⟨its,rv,ht,hz⟩:=I.tuple q
   have hlen:its.length=is.length:=by rw [<- rv.length,t.length];exact hl
   refine a3j (I.ok.hd hc) ht (by simp [hn,hlen]) hst fun h' hx=>?_
   have I1:Inv X a3G σ H { s with heap:=h' }:=I.kept (t':=s.toks) fun b o e=>hx b o (TV (TB e)) e
   exact h a3G _ σ H vs _ Q I1 (by simpa using rv) (vT is t E hl kk)
  ·cases r
   obtain ⟨its,rv,ht,hz⟩:=I.list q
   have hlen:its.length=is.length:=by rw [<- rv.length,t.length];exact hl
   refine JJ (I.ok.hd hc) ht.isList (by simp [hn,hlen]) hst fun h' hx=>?_
   have I1:Inv X a3G σ H { s with heap:=h' }:=I.kept (t':=s.toks) fun b o e=>hx b o (TV (TB e)) e
   exact h a3G _ σ H vs _ Q I1 (by simpa using rv) (vT is t E hl kk)
 ·cases h2
noncomputable def fL (m:ME)(g:MG):MS:=fun ρ μ=>(m ρ μ).bind fun p=>(g p.1 ρ p.2).map fun ρ'=>(.nx,ρ',p.2)
theorem JL {tg e:TJ}{m:ME}{g:MG}(he:PE X e (tM X.K m))(hg:PG X tg (fH X.K g))(hs:swapsWithSole [tg] e pos.line X.env=pure false:=by rfl)(hw:a0D [tg] e X.env=pure none:=by rfl)
  (h1:(VM [tg] X.env).map (·.2)=[Zc tg X.env]:=by rfl):PS X (.Assign [tg] e pos) (cZ X.K (fL m g)):=gN (Gv he hg hs hw h1) (by
 rintro E σ H ⟨π,ρ,μ,fl,ρ',μ',R,EN,hm,k⟩
 obtain ⟨⟨x,μ1⟩,h1,hm⟩:=Tj.mp hm
 obtain ⟨ρ1,h2,hm⟩:=Tq.mp hm
 cases hm
 exact ⟨π,ρ,μ,x,μ1,R,EN,h1,fun π1 v1 H1 e1 R1 i1=>⟨π1,ρ,_,x,_,R1,EN.mono e1,i1,h2,fun σ' E'=>k π1 σ' H1 e1 R1 E'⟩⟩)
end
section
variable {X:Cx}{K:To}
noncomputable def pD:MF:=fun ds μ=>match ds with
 | [.str z]=>if z.length<=TL then some (.int z.length,μ) else none
 | [x]=>(bA μ x).map fun xs=>(.int xs.length,μ)
 | _=>none
noncomputable def vU (K:To):List V->Hp->VK->Prop:=fun xs H Q=>(∃ p ys,xs=[.ref p]/\(SqL K H p ys\/SqT K H p ys)/\Q (.int ys.length) H)\/(∃ z,xs=[.str z]/\z.length<=TL/\Q (.int z.length) H)
theorem call_lenM:CallR X (.builtin "len") (vU X.K):=call_len_seq.or HK
theorem k9 {π:Nat->Addr}{μ:Hm}{H:Hp}{v:V}{x:D}{xs:List D}(R:Rp K π H μ)(h:IsD K π μ.length H v x)(e:bA μ x=some xs):∃ p vs,v=.ref p/\(SqL K H p vs\/SqT K H p vs)/\IsDs K π μ.length H vs xs:=by
 cases h with
 | tup q t=>cases e;exact ⟨_,_,rfl,.inr q,t⟩
 | rol q t=>cases e;exact ⟨_,_,rfl,.inl q.sq,t⟩
 | @loc a ha=>
  simp only [bA] at e
  split at e
  ·rename_i ys hy
   cases e
   obtain ⟨vs,h3,h4⟩:=R.lst a xs hy
   exact ⟨_,vs,rfl,.inl (.of h3),h4⟩
  ·cases e
 | _=>cases e
theorem BF:dP K pD (vU K):=by
 intro π H μ xs d μ' vs Q R i hm k
 unfold pD at hm
 split at hm
 ·split at hm
  ·rename_i hl
   cases hm
   cases i with
   | cons i t=>cases i;cases t;exact .inr ⟨_,rfl,hl,k π _ H .refl R (.int _)⟩
  ·cases hm
 ·obtain ⟨ys,h1,h2⟩:=Tq.mp hm
  cases h2
  cases i with
  | cons i t=>
   cases t
   obtain ⟨p,ws,rfl,q,hd⟩:=k9 R i h1
   refine .inl ⟨p,ws,rfl,q,?_⟩
   rw [hd.length]
   exact k π _ H .refl R (.int _)
 ·cases hm
noncomputable def mS:MF:=fun ds μ=>match ds with
 | [.int i]=>some (.int i,μ)
 | [.bl b]=>some (.int (if b then 1 else 0),μ)
 | _=>none
theorem JM:dP K mS (fun xs H Q=>(∃ i,xs=[.int i]/\Q (.int i) H)\/∃ k,xs=[.bl k]/\Q (.int (if k then 1 else 0)) H):=by
 intro π H μ xs d μ' vs Q R i hm k
 unfold mS at hm
 split at hm
 ·cases hm
  cases i with
  | cons i t=>cases i;cases t;exact .inl ⟨_,rfl,k π _ H .refl R (.int _)⟩
 ·cases hm
  cases i with
  | cons i t=>cases i;cases t;exact .inr ⟨_,rfl,k π _ H .refl R (.int _)⟩
 ·cases hm
noncomputable def rK:MF:=fun ds μ=>match ds with
 | [x]=>(bA μ x).map fun xs=>(.loc μ.length,μ++[.lst xs])
 | _=>none
theorem BG:dP K rK (fun xs H Q=>∃ p ys,xs=[.ref p]/\(SqL K H p ys\/SqT K H p ys)/\∀ l,H l=none->Q (.ref l) (aH H l (.lst ys))):=by
 intro π H μ xs d μ' vs Q R i hm k
 unfold rK at hm
 split at hm
 ·obtain ⟨ys,h1,h2⟩:=Tq.mp hm
  cases h2
  cases i with
  | cons i t=>
   cases t
   obtain ⟨p,ws,rfl,q,hd⟩:=k9 R i h1
   refine ⟨p,ws,rfl,q,fun l hl=>?_⟩
   obtain ⟨e2,R2,_⟩:=R.alloc (c:=.lst ys) (o:=.lst ws) hl hd
   exact k _ _ _ e2 R2 fW
 ·cases hm
noncomputable def BH (K:To):List V->Hp->VK->Prop:=fun vs H Q=>∃ π μ x v t c b,vs=[v,.ty c]/\Rp K π H μ/\IsD K π μ.length H v x/\vP μ x=some t/\rH t c=some b/\Q (.bl b) H
theorem JN:dP K k6 (BH K):=by
 intro π H μ xs d μ' vs Q R i hm k
 unfold k6 at hm
 split at hm
 ·obtain ⟨t,h1,hm⟩:=Tj.mp hm
  obtain ⟨b,h2,hm⟩:=Tq.mp hm
  cases hm
  cases i with
  | cons i t1=>
   cases t1 with
   | cons i2 t2=>
    cases t2
    cases i2
    exact ⟨π,_,_,_,t,_,b,rfl,R,i,h1,h2,k π _ H .refl R (.bl _)⟩
 ·cases hm
theorem JO:CallR X (.builtin "isinstance") (BH X.K):=by
 intro a3G s σ H xs us Q I r h
 obtain ⟨π,μ,x,v,t,c,b,rfl,R,i,h1,h2,q⟩:=h
 obtain ⟨u,u2,rfl,r1,r2⟩:=G1 r
 cases r2
 have fin:∀ tk,EP X a3G σ Q (.bool b) { s with toks:=tk }:=fun tk=>⟨.bl b,H,I.tok tk,rfl,q⟩
 cases i with
 | non=>cases h1;cases r1;exact VF PySem.W.kitx_none I.kIn WJ (jR X.K (by simp) h2) (fun z=>nomatch z) fin
 | bl y=>cases h1;cases r1;exact VF PySem.W.kitx_bool I.kIn WJ (jR X.K (by simp) h2) (fun z=>nomatch z) fin
 | int y=>cases h1;obtain ⟨t,rfl⟩:=r1;exact VF PySem.W.kitx_int I.kIn WJ (jR X.K (by simp) h2) (fun z=>nomatch z) fin
 | str y=>cases h1;obtain ⟨t,rfl⟩:=r1;exact VF PySem.W.kitx_str I.kIn WJ (jR X.K (by simp) h2) (fun z=>nomatch z) fin
 | tup g t=>
  cases h1
  cases r1
  obtain ⟨its,r',p,_⟩:=I.tuple g
  obtain ⟨o,e1,e2,_⟩:=p
  exact VF PySem.W.kitx_tuple I.kIn ⟨o,e1,e2⟩ (jR X.K (by simp) h2) (fun z=>nomatch z) fin
 | rol g t=>
  cases h1
  cases r1
  obtain ⟨its,r',p,_⟩:=I.list g.sq
  obtain ⟨o,e1,e2,_⟩:=p.isList
  exact VF a0v I.kIn ⟨o,e1,e2⟩ (jR X.K (by simp) h2) (fun z=>nomatch z) fin
 | @loc a ha=>
  cases r1
  simp only [vP] at h1
  split at h1
  ·rename_i xs hx
   cases h1
   obtain ⟨vs,h3,h4⟩:=R.lst a xs hx
   obtain ⟨its,r',p,_⟩:=I.list (SqL.of (K:=X.K) h3)
   obtain ⟨o,e1,e2,_⟩:=p.isList
   exact VF a0v I.kIn ⟨o,e1,e2⟩ (jR X.K (by simp) h2) (fun z=>nomatch z) fin
  ·rename_i kvs hx
   cases h1
   obtain ⟨vs,h3,_⟩:=R.dK a kvs hx
   obtain ⟨_,_,ws,_,p⟩:=(show ObjOk X.prog X.w H s.heap (π a) (.dK vs) from I.hok _ _ h3)
   obtain ⟨o,es,ep,e1,e2,_⟩:=p
   exact VF PySem.W.kitx_dict I.kIn ⟨o,e1,e2.1⟩ (jR X.K (by simp) h2) (fun z=>nomatch z) fin
  ·cases h1
 | ty n=>cases h1
end
noncomputable def mT (kvs:List (aX×D))(k:aX):Option D:=(kvs.find? fun kv=>decide (kv.1=k)).map (·.2)
inductive IsKs (K:To)(π:Nat->Addr)(n:Nat)(H:Hp):List (aX×V)->List (aX×D)->Prop where
 | nil:IsKs K π n H [] []
 | cons {k:aX}{v:V}{d:D}{vs:List (aX×V)}{ds:List (aX×D)}(h:IsD K π n H v d)(t:IsKs K π n H vs ds):IsKs K π n H ((k,v)::vs) ((k,d)::ds)
section
variable {K:To}{π π':Nat->Addr}{n n':Nat}{H H':Hp}
theorem IsKs.of:∀ {vs:List (aX×V)}{ds:List (aX×D)},vs.map (·.1)=ds.map (·.1)->IsDs K π n H (vs.map (·.2)) (ds.map (·.2))->IsKs K π n H vs ds
 | [],[],_,_=>.nil
 | [],_::_,h,_=>by cases h
 | _::_,[],h,_=>by cases h
 | (k,v)::vs,(k',d)::ds,h,t=>by
  rw [T4,T4] at h t
  injection h with h1 h2
  dsimp only at h1
  subst h1
  cases t with
  | cons t1 t2=>exact .cons t1 (IsKs.of h2 t2)
theorem IsKs.append {vs ws:List (aX×V)}{ds es:List (aX×D)}(h:IsKs K π n H vs ds)(h2:IsKs K π n H ws es):IsKs K π n H (vs++ws) (ds++es):=by
 induction h with
 | nil=>exact h2
 | cons h t ih=>exact .cons h ih
theorem IsKs.any {vs:List (aX×V)}{ds:List (aX×D)}(h:IsKs K π n H vs ds)(k:aX):(vs.any fun kv=>decide (kv.1=k))=ds.any fun kv=>decide (kv.1=k):=by
 induction h with
 | nil=>rfl
 | cons h t ih=>rw [VU,VU,ih]
theorem IsKs.val {vs:List (aX×V)}{ds:List (aX×D)}(h:IsKs K π n H vs ds)(k:aX):(mT ds k=none/\eA vs k=none)\/∃ v d,mT ds k=some d/\eA vs k=some v/\IsD K π n H v d:=by
 induction h with
 | nil=>exact .inl ⟨rfl,rfl⟩
 | @cons k' v' d' vs ds h t ih=>
  by_cases e:k'=k
  ·exact .inr ⟨v',d',by simp [mT,UM,e],by simp [eA,UM,e],h⟩
  ·have e1:mT ((k',d')::ds) k=mT ds k:=by simp [mT,UM,e]
   have e2:eA ((k',v')::vs) k=eA vs k:=by simp [eA,UM,e]
   rw [e1,e2]
   exact ih
theorem IsKs.length {vs:List (aX×V)}{ds:List (aX×D)}(h:IsKs K π n H vs ds):vs.length=ds.length:=by
 induction h with
 | nil=>rfl
 | cons h t ih=>rw [Um,Um,ih]
end
noncomputable def JP (K:To)(prs:List (ME×ME)):List (TE×TE):=prs.map fun p=>(tM K p.1,tM K p.2)
section
variable {X:Cx}{a b c:TJ}{ma mb mc:ME}{pos:Vk}
end
theorem eJ {k:Nat}{A:Ue}(r:Room k A):A.units+1<Vm:=by have:=r.un;omega
noncomputable def iB (ma:ME):ME:=fun ρ μ=>(ma ρ μ).bind fun p=>(Bw p.1).map fun d=>(d,p.2)
end L3
namespace L3
open PySem L2
noncomputable def eX (cells:List (Str×Addr)):List (Str×V1)->List (Str×Addr)->List (Str×Addr)
 | [],acc=>acc
 | (n,k)::r,acc=>if k=.free then (match cells.lookup n with|some c=>eX cells r ((n,c)::acc)|none=>eX cells r acc) else eX cells r acc
theorem BI {env:X2}:∀ (names:List (Str×V1))(acc:List (Str×Addr)),(∀ y∈names,y.2=.free->∃ c,env.cells.lookup y.1=some c)->
  (forIn names acc fun (x:Str×V1)(cs:List (Str×Addr))=>(do
   if x.2 == .free then (do let c <- cellOf env x.1;pure (Wv ((x.1,c)::cs))) else pure (Wv cs):a2D (ForInStep (List (Str×Addr)))))=pure (eX env.cells names acc)
 | [],acc,_=>rfl
 | (n,k)::r,acc,h=>by
  have ih:=fun acc=>BI r acc fun y hy=>h y (Uo _ hy)
  rw [List.forIn_cons]
  by_cases hk:k=.free
  ·subst hk
   obtain ⟨c,hc⟩:=h (n,.free) (Uy ..) rfl
   dsimp only at hc
   have e:cellOf env n=pure c:=by unfold cellOf;rw [hc]
   simp only [eX,hc,e,beq_self_eq_true,if_true,pure_bind]
   exact ih _
  ·have e:(k == VH)=false:=by simpa using hk
   simp only [eX,e,hk,if_false,TQ,pure_bind]
   exact ih _
theorem JQ {scope:V5}{env:X2}(h:∀ y∈scope.names,y.2=.free->∃ c,env.cells.lookup y.1=some c):a2a scope env=pure (eX env.cells scope.names []):=by
 have:=BI (env:=env) scope.names [] h
 unfold a2a
 simp only [bind_pure] at *
 exact this
theorem rL {cells:List (Str×Addr)}:∀ (names:List (Str×V1))(acc:List (Str×Addr)),(∀ y c,acc.lookup y=some c->cells.lookup y=some c)->∀ y c,(eX cells names acc).lookup y=some c->cells.lookup y=some c
 | [],acc,h=>h
 | (n,k)::r,acc,h=>by
  unfold eX
  split
  ·split
   ·rename_i c0 hc
    refine rL r _ fun y c e=>?_
    rw [W5] at e
    by_cases hy:y=n
    ·subst hy
     simp only [beq_self_eq_true] at e
     cases e
     exact hc
    ·have:(y == n)=false:=by simpa using hy
     rw [this] at e
     exact h y c e
   ·exact rL r acc h
  ·exact rL r acc h
theorem rM {cells:List (Str×Addr)}:∀ (names:List (Str×V1))(acc:List (Str×Addr))(y:Str),(∃ c,acc.lookup y=some c)->∃ c,(eX cells names acc).lookup y=some c
 | [],acc,y,h=>h
 | (n,k)::r,acc,y,h=>by
  unfold eX
  split
  ·split
   ·refine rM r _ y ?_
    rw [W5]
    by_cases hy:(y == n)=true
    ·rw [hy];exact ⟨_,rfl⟩
    ·have:(y == n)=false:=by simpa using hy
     rw [this]
     exact h
   ·exact rM r acc y h
  ·exact rM r acc y h
theorem rN {cells:List (Str×Addr)}:∀ (names:List (Str×V1))(acc:List (Str×Addr))(y:Str),(y,VH)∈names->(∃ c,cells.lookup y=some c)->∃ c,(eX cells names acc).lookup y=some c
 | [],acc,y,h,_=>by cases h
 | (n,k)::r,acc,y,h,hc=>by
  unfold eX
  rcases Ug.mp h with h|h
  ·cases h
   obtain ⟨c,hc⟩:=hc
   rw [if_pos rfl,hc]
   exact rM r _ _ ⟨c,by simp [W5]⟩
  ·split
   ·split
    ·exact rN r _ y h hc
    ·exact rN r _ y h hc
   ·exact rN r _ y h hc
structure CompSt (osc:V5)(N:List Str)(scope:V5)(xs:List Str):Prop where
 nocell:∀ y∈scope.names,y.2≠.cell
 kind:scope.kind=.function
 names:∀ y∈scope.names,y.2=.local->scope.names.lookup y.1=some .local
 here:∀ x∈xs,scope.names.lookup x=some .local
 free:∀ y∈scope.names,y.2=.free->osc.names.lookup y.1=some .cell\/osc.names.lookup y.1=some .free
 own:∀ y∈scope.names,y.2=.local->y.1∉bG xs N
 nd:N.Nodup
 hnd:(bG xs N).Nodup
 hidn:∀ y∈N,xs.contains y=true->scope.names.lookup (mP y)=none
theorem CompSt.ok {X:Cx}{scope:V5}{xs:List Str}(S:CompSt X.env.scope X.N scope xs)(ok:X.Ok):CompOk X scope (eX X.env.cells scope.names []) xs:=by
 have has:∀ y∈scope.names,y.2=.free->∃ c,X.env.cells.lookup y.1=some c:=fun y hy hf=>ok.has y.1 (S.free y hy hf)
 refine ⟨JQ has,S.nocell,S.kind,S.names,S.here,rL scope.names [] (fun y c e=>by cases e),fun y e=>?_,fun y e=>?_,S.hidn⟩
 ·have hm:=U2 e
  exact ⟨S.free _ hm rfl,rN scope.names [] y hm (has _ hm rfl)⟩
 ·exact S.own _ (U2 e) rfl
end L3
namespace L3
open PySem L2
section
variable {X:Cx}{pos:Vk}
end
end L3
namespace L3
open PySem L2
noncomputable def cE:TJ->Bool
 | .Starred ..=>false
 | _=>true
theorem eC {e:TJ}{es:List TJ}{env:X2}(h:cE e=true):Ul (e::es) env=(false,eval e env)::Ul es env:=by
 cases e<;>first|rfl|cases h
theorem jS {pos:Vk}{env:X2}:∀ {es:List TJ},es.all cE=true->(VX pos (Ul es env)).any (·.1)=false
 | [],_=>rfl
 | e::es,h=>by
  rw [UA,Ts] at h
  rw [eC h.1]
  have:=jS (pos:=pos) (env:=env) h.2
  simpa [VX] using this
theorem rO {e:TJ}{es:List TJ}{env:X2}(h:cE e=true):VM (e::es) env=(false,Zc e env)::VM es env:=by
 cases e<;>first|rfl|cases h
theorem BJ {env:X2}:∀ {es:List TJ},es.all cE=true->(VM es env).length=es.length
 | [],_=>rfl
 | e::es,h=>by
  rw [UA,Ts] at h
  rw [rO h.1,Um,Um,BJ h.2]
theorem BK {env:X2}:∀ {es:List TJ},es.all cE=true->(VM es env).findIdx? (·.1)=none
 | [],_=>rfl
 | e::es,h=>by
  rw [UA,Ts] at h
  rw [rO h.1,List.findIdx?_cons,BK h.2]
  rfl
section
variable {X:Cx}{e a b c:TJ}{es:List TJ}{m:ME}{ms:MA}{pos:Vk}
end
end L3
namespace L3
open PySem L2
structure QE (X:Cx)(e:TJ)(m:ME):Prop where
 h:PE X e (tM X.K m)
structure QT (X:Cx)(e:TJ)(m:MT):Prop where
 h:PT X e (cT X.K m)
structure QW (X:Cx)(e:TJ)(m:MT):Prop where
 h:PW X e (cT X.K m)
structure QA (X:Cx)(es:List TJ)(m:MA)(n:Nat):Prop where
 h:PA X es (eU X.K m)
 l:∀ ρ μ ds μ',m ρ μ=some (ds,μ')->ds.length=n
 s:es.all cE=true
structure QO (X:Cx)(e:Option TJ)(m:MO):Prop where
 h:PO X e (oW X.K m)
structure QS (X:Cx)(st:Stmt)(m:MS):Prop where
 h:PS X st (cZ X.K m)
structure QB (X:Cx)(st:List Stmt)(m:MS):Prop where
 h:PSs X st (cZ X.K m)
structure QG (X:Cx)(e:TJ)(g:MG):Prop where
 h:PG X e (fH X.K g)
structure QGs (X:Cx)(es:List TJ)(is:List Nat):Prop where
 h:oO X es (rJ is)
 n:es.length=is.length
 s:es.all cE=true
structure QI (X:Cx)(ifs:List TJ)(m:MT):Prop where
 h:mR X ifs m
structure QP (X:Cx)(pos:Vk)(keys:List (Option TJ))(values:List TJ)(prs:List (ME×ME)):Prop where
 h:Hn X pos keys values (JP X.K prs)
 a:keys.all (·.isSome)=true
 l:keys.length=values.length
section
variable {X:Cx}{e a b c:TJ}{m ma mb mc:ME}{pos:Vk}{mt mu:MT}{rest es:List TJ}{ms:MA}{n:Nat}
theorem BL {x:Str}(i:Nat)(hN:X.N[i]? = some x:=by rfl)(hv:oM X.env.scope x:=by first|exact a1A rfl|exact a0x (a1A rfl)|exact a0x (a0x rfl))(hd:(x == ("__debug__":Str))=false:=by decide)
  (hcd:(x == ("__classdict__":Str))=false:=by decide):QE X (.Name x pos) (aA i):=⟨Ip i (qT hN hv hd hcd)⟩
theorem JR {i:Int}{j:Nat}:QE X (.Constant (.int i) j pos) (mC (.int i)):=⟨Iq⟩
theorem JS {i:Bool}{j:Nat}:QE X (.Constant (.bool i) j pos) (mC (.bl i)):=⟨Ir⟩
theorem JT {i:Str}{j:Nat}:QE X (.Constant (.str i) j pos) (mC (.str i)):=⟨Iu⟩
theorem JU {j:Nat}:QE X (.Constant .none j pos) (mC .non):=⟨Iv⟩
theorem mU {op:a0o}{r:R2}{f:D->D->Hm->Option (D×Hm)}(ho:OpR X (Wm op) r)(hf:cG X.K f r)(ha:QE X a ma)(hb:QE X b mb):QE X (.BinOp a op b pos) (aB f ma mb):=⟨Iw ho hf ha.h hb.h⟩
theorem JV (ha:QE X a ma)(hb:QE X b mb):QE X (.BinOp a .Add b pos) (aB bE ma mb):=mU Jw Jx ha hb
theorem JW (ha:QE X a ma)(hb:QE X b mb):QE X (.BinOp a .Sub b pos) (aB cD ma mb):=mU GQ Jp ha hb
theorem JX (ha:QE X a ma)(hb:QE X b mb):QE X (.BinOp a .Mult b pos) (aB bC ma mb):=mU (op_mulB.or HX) Jr ha hb
theorem JY (ha:QE X a ma)(hb:QE X b mb):QE X (.BinOp a .FloorDiv b pos) (aB eB ma mb):=mU Jn Js ha hb
theorem JZ (ha:QE X a ma)(hb:QE X b mb):QE X (.BinOp a .Mod b pos) (aB aT ma mb):=mU GR Jt ha hb
theorem J0 (ha:QE X a ma)(hb:QE X b mb):QE X (.BinOp a .Pow b pos) (aB vD ma mb):=mU Jo Ju ha hb
theorem J1 (ha:QE X a ma):QE X (.UnaryOp .USub a pos) (iB ma):=⟨Jy ha.h⟩
theorem J2 (ha:QE X a ma):QE X (.UnaryOp .Not a pos) (mJ ma):=⟨IG ha.h⟩
theorem J3 {k:Nat}(hr:Room k X.A)(ha:QE X a ma)(hb:QE X b mb):QE X (.Compare a [.Eq] [b] pos) (aB (aR false) ma mb):=⟨eH (Bx (rG hr)) rF ha.h hb.h (dG _)⟩
theorem J4 {k:Nat}(hr:Room k X.A)(ha:QE X a ma)(hb:QE X b mb):QE X (.Compare a [.NotEq] [b] pos) (aB (aR true) ma mb):=⟨eH (By (rG hr)) rF ha.h hb.h (dG _)⟩
theorem J5 (ha:QE X a ma)(hb:QE X b mb):QE X (.Compare a [.Lt] [b] pos) (aB gT ma mb):=⟨eH uJ fZ ha.h hb.h (dG _)⟩
theorem J6 (ha:QE X a ma)(hb:QE X b mb):QE X (.Compare a [.LtE] [b] pos) (aB vK ma mb):=⟨eH uK fZ ha.h hb.h (dG _)⟩
theorem J7 (ha:QE X a ma)(hb:QE X b mb):QE X (.Compare a [.Gt] [b] pos) (aB mO ma mb):=⟨eH uL fZ ha.h hb.h (dG _)⟩
theorem J8 (ha:QE X a ma)(hb:QE X b mb):QE X (.Compare a [.GtE] [b] pos) (aB oY ma mb):=⟨eH uM fZ ha.h hb.h (dG _)⟩
noncomputable def eY:TJ->Bool
 | .Set ..=>false
 | _=>true
theorem f6 {op:Xm}{b:TJ}(h:eY b=true):Wo op b=false:=by
 cases b<;>first|rfl|cases h
theorem J9 {op:BoolOp}(h:QE X a m):QE X (.BoolOp op [a] pos) m:=⟨ID h.h⟩
theorem Ka (ha:QE X a ma)(hb:QE X (.BoolOp .And (b::rest) pos) mb):QE X (.BoolOp .And (a::b::rest) pos) (gQ ma mb):=⟨IE ha.h hb.h⟩
theorem Kb (ha:QE X a ma)(hb:QE X (.BoolOp .Or (b::rest) pos) mb):QE X (.BoolOp .Or (a::b::rest) pos) (u3 ma mb):=⟨IF ha.h hb.h⟩
theorem Kc (hc:QT X c mt)(ha:QE X a ma)(hb:QE X b mb):QE X (.IfExp c a b pos) (gR mt ma mb):=⟨IH hc.h ha.h hb.h⟩
theorem Kd:QA X [] aD 0:=⟨II,IP,rfl⟩
theorem Ke (ha:QE X e m)(hr:QA X es ms n)(h:cE e=true:=by rfl):QA X (e::es) (aC m ms) (n+1):=⟨IJ ha.h hr.h (eC h),IQ hr.l,by rw [UA,h,hr.s];rfl⟩
theorem Kf {x1:Nat}(h:QA X es ms n):QE X (.Tuple es x1 pos) (bH ms):=⟨IK h.h⟩
theorem Kg (h:QA X es ms n):QE X (.List es pos) (bV ms):=⟨IL h.h⟩
noncomputable def mV:TJ->Bool
 | .Slice ..=>false
 | _=>true
theorem BM {b:TJ}(h:mV b=true):uU b:=by
 intro o i
 cases b<;>first|rfl|cases h
theorem Kh (ha:QE X a ma)(hb:QE X b mb)(h:mV b=true:=by rfl):QE X (.Subscript a b pos) (aB eV ma mb):=⟨IW ha.h hb.h (BM h)⟩
theorem Ki:QO X none iT:=⟨IX⟩
theorem Kj (h:QE X e m):QO X (some e) (hZ m):=⟨IY h.h⟩
theorem Kk {lo hi:Option TJ}{ml mh:MO}{p2:Vk}(ha:QE X a ma)(hl:QO X lo ml)(hu:QO X hi mh):QE X (.Subscript a (.Slice lo hi none p2) pos) (kY ma ml mh):=⟨Ja ha.h hl.h hu.h⟩
theorem Kl {k:Nat}{f:Addr}{fd:Vt}{ps:List Str}{fm:MF}{x:Str}{p:Vk}(F:FnOk X.prog X.w X.K X.mg X.base dY k f fd ps (gM X.K n fm))(hr:Room k X.A)(hm:X.mg x=some (.ref f))
  (hk:UO X.K (.ref f)=true)(hb:Binds X.K fd ps [])(ha:QA X (e::es) ms n)(hg:Gl X x:=by rfl)(hdb:(x == ("__debug__":Str))=false:=by decide):QE X (.Call (.Name x p) (e::es) [] pos) (aK fm ms):=by
 have hs:=ha.s
 rw [UA,Ts] at hs
 exact ⟨IS F hr hg hm hk hb ha.h ha.l hdb (eC hs.1) (jS hs.2)⟩
theorem Km {f:MF}{r:List V->Hp->VK->Prop}{id:String}{x:Str}{p:Vk}(hc:CallR X (.builtin id) r)(hf:dP X.K f r)(hm:X.mg x=none)(hv:Vl x=some (.builtin id))(ha:QA X (e::es) ms n)
  (hg:Gl X x:=by rfl)(hn:x ≠ "__name__":=by decide) (hdb:(x == ("__debug__":Str))=false:=by decide):QE X (.Call (.Name x p) (e::es) [] pos) (aK f ms):=by
 have hs:=ha.s
 rw [UA,Ts] at hs
 exact ⟨IT hc hf hg hm hv ha.h hn hdb (eC hs.1) (jS hs.2)⟩
theorem Kn {f:MF}{r:List V->Hp->VK->Prop}{T:String}{x:Str}{p:Vk}(hc:CallR X (.type T) r)(hf:dP X.K f r)(hm:X.mg x=none)(hv:Vl x=some (.type T))(ha:QA X (e::es) ms n)
  (hg:Gl X x:=by rfl)(hn:x ≠ "__name__":=by decide) (hdb:(x == ("__debug__":Str))=false:=by decide):QE X (.Call (.Name x p) (e::es) [] pos) (aK f ms):=by
 have hs:=ha.s
 rw [UA,Ts] at hs
 exact ⟨IU hc hf hg hm hv ha.h hn hdb (eC hs.1) (jS hs.2)⟩
theorem Ko {x:Str}{n:String}(hm:X.mg x=none)(hv:Vl x=some (.type n))(hg:Gl X x:=by rfl)(hn:x ≠ "__name__":=by decide) (hd:(x == ("__debug__":Str))=false:=by decide):QE X (.Name x pos) (mC (.ty n)):=⟨Jz hg hm hv hn hd⟩
theorem Kp {k:Nat}(hr:Room k X.A)(ha:QE X a ma)(hb:QE X b mb):QT X (.Compare a [.Eq] [b] pos) (aP (aB (aR false) ma mb)):=⟨eI (Bx (rG hr)) rF ha.h hb.h (dG _)⟩
theorem Kq {k:Nat}(hr:Room k X.A)(ha:QE X a ma)(hb:QE X b mb):QT X (.Compare a [.NotEq] [b] pos) (aP (aB (aR true) ma mb)):=⟨eI (By (rG hr)) rF ha.h hb.h (dG _)⟩
theorem Kr (ha:QE X a ma)(hb:QE X b mb):QT X (.Compare a [.Lt] [b] pos) (aP (aB gT ma mb)):=⟨eI uJ fZ ha.h hb.h (dG _)⟩
theorem Ks (ha:QE X a ma)(hb:QE X b mb):QT X (.Compare a [.LtE] [b] pos) (aP (aB vK ma mb)):=⟨eI uK fZ ha.h hb.h (dG _)⟩
theorem Kt (ha:QE X a ma)(hb:QE X b mb):QT X (.Compare a [.Gt] [b] pos) (aP (aB mO ma mb)):=⟨eI uL fZ ha.h hb.h (dG _)⟩
theorem Ku (ha:QE X a ma)(hb:QE X b mb):QT X (.Compare a [.GtE] [b] pos) (aP (aB oY ma mb)):=⟨eI uM fZ ha.h hb.h (dG _)⟩
noncomputable def vV:TJ->Bool
 | .UnaryOp .Not ..=>false
 | .BoolOp ..=>false
 | .IfExp ..=>false
 | .Compare ..=>false
 | _=>true
theorem Kw {e:TJ}{env:X2}(h:vV e=true):∀ whole,a1h e env whole=(do let v <- whole;standAt e.pos;holding [v] (truthy v)):=by
 intro whole
 cases e<;>first|rfl|cases h|skip
 rename_i op x p
 cases op<;>first|rfl|cases h
theorem Ky (ha:QT X a mt):QT X (.UnaryOp .Not a pos) (jQ mt):=⟨IC ha.h⟩
theorem Kz (ha:QT X a mt):QW X (.BoolOp .And [a] pos) mt:=⟨Iy ha.h⟩
theorem KA (ha:QT X a mt):QW X (.BoolOp .Or [a] pos) mt:=⟨Iz ha.h⟩
theorem KG (ha:QT X a mt)(hb:QW X (.BoolOp .And (b::rest) pos) mu):QW X (.BoolOp .And (a::b::rest) pos) (gO mt mu):=⟨IA ha.h hb.h⟩
theorem KH (ha:QT X a mt)(hb:QW X (.BoolOp .Or (b::rest) pos) mu):QW X (.BoolOp .Or (a::b::rest) pos) (gP mt mu):=⟨IB ha.h hb.h⟩
theorem KI (h:QW X e mt):QT X e mt:=⟨h.h.pt⟩
theorem KJ:QI X [] gU:=⟨JG⟩
theorem KL (h:QT X c mt):QI X [c] mt:=⟨JH h.h⟩
end
section
variable {X:Cx}{e a b c:TJ}{m:ME}{pos:Vk}{mt:MT}{st:Stmt}{rest body orelse:List Stmt}{ms mr mu:MS}{n:Nat}{is:List Nat}{es:List TJ}{g:MG}
theorem KN:QB X [] bD:=⟨Jb⟩
theorem KO (h1:QS X st ms)(h2:QB X rest mr):QB X (st::rest) (aJ ms mr):=⟨Jc h1.h h2.h⟩
theorem KP (h1:QS X st ms):QB X [st] ms:=⟨Jd h1.h⟩
theorem KQ:QS X (.Pass pos) bD:=⟨Je⟩
theorem KR (he:QE X e m):QS X (.Return (some e) pos) (aQ m):=⟨Jf he.h⟩
noncomputable def eZ:TJ->Bool
 | .ListComp ..=>false
 | .SetComp ..=>false
 | .DictComp ..=>false
 | _=>true
theorem lD {e:TJ}{t:Option TJ}{n:Nat}{env:X2}(h:eZ e=true):Xr e t n env=pure false:=by
 cases e<;>first|rfl|cases h
theorem KS (he:QE X e m)(h:eZ e=true:=by rfl):QS X (.Expr e pos) (c9 m):=⟨Jg he.h (lD h)⟩
theorem KU (hc:QT X c mt)(ha:QB X body ms)(hb:QB X orelse mu):QS X (.If c body orelse pos) (bB mt ms mu):=⟨Jh hc.h ha.h hb.h⟩
theorem BN (i:Nat){x:Str}{pos':Vk}(hN:X.N.Nodup)(he:QE X e m)(h:eZ e=true:=by rfl)(hi:X.N[i]? = some x:=by rfl)(hx:Loc X.env.scope x:=by first|exact a1A rfl|exact a0x rfl)
  (hf:X.fn x=true\/X.env.scope.names.lookup x=some .local:=by first|exact .inl rfl|exact .inr rfl):QS X (.Assign [.Name x pos'] e pos) (aS i m):=⟨Bk hN hi hx he.h (lD h) hf⟩
theorem KW (i:Nat){x:Str}(hN:X.N.Nodup)(hi:X.N[i]? = some x:=by rfl)(hx:Loc X.env.scope x:=by first|exact a1A rfl|exact a0x rfl)
  (hf:X.fn x=true\/X.env.scope.names.lookup x=some .local:=by first|exact .inl rfl|exact .inr rfl):QG X (.Name x pos) (dQ i):=⟨BA hN hi hx hf⟩
theorem BO:QGs X [] []:=⟨Gs,rfl,rfl⟩
theorem BP (i:Nat){x:Str}(hN:X.N.Nodup)(hr:QGs X es is)(hi:X.N[i]? = some x:=by rfl)(hx:Loc X.env.scope x:=by first|exact a1A rfl|exact a0x rfl)
  (hf:X.fn x=true\/X.env.scope.names.lookup x=some .local:=by first|exact .inl rfl|exact .inr rfl):QGs X (.Name x pos::es) (i::is):=
 ⟨Gu (Ad hN hi hx hf) hr.h (by rw [rO (e:=.Name x pos) rfl];rfl),by rw [Um,Um,hr.n],by rw [UA,hr.s];rfl⟩
theorem vW {k:Nat}(h:QGs X es is)(hc:X.calm=true:=by rfl):QG X (.Tuple es k pos) (cU is):=⟨JK hc h.h ((BJ h.s).trans h.n) (BK h.s)⟩
noncomputable def vX:TJ->Bool
 | .Tuple ..=>false
 | _=>true
theorem KY {tg e:TJ}{env:X2}(h:vX e=true):a0D [tg] e env=pure none:=by
 cases e<;>first|(cases tg<;>rfl)|cases h
theorem KZ {k:Nat}{pt:Vk}(he:QE X e m)(hg:QG X (.Tuple es k pt) g)(h:vX e=true:=by rfl):QS X (.Assign [.Tuple es k pt] e pos) (fL m g):=
 ⟨JL he.h hg.h (by cases e<;>rfl) (KY h) (by rw [rO (e:=.Tuple es k pt) rfl];rfl)⟩
end
section
variable {P:Ub}{w:Up}{K:To}{mg:Str->Option Value}{base:UE}
theorem K0 {x qual:Str}{st:Stmt}{f:Addr}{fd:Vt}{N ps:List Str}{k:Nat}{body:List Stmt}{m:MS}(F:Fun K x qual st f fd)(S:FnScope N ps (bF st))(hps:ps.length<=N.length)(hbd:bT st=body)
  (hbody:∀ (cdv:Value)(A:Ue)(outer:List X2)(s:Tv)(H:Hp)(E:XK),Room k (A.deeper (WU qual (bF st) s.heap.objs.size f cdv))->
   QB (dH dY P w K mg base N qual (bF st) f cdv A outer s H E).nox body m):FnOk P w K mg base dY (k+1) f fd ps (gM K ps.length (u6 N.length m)):=
 Ji F S hps fun cdv A outer s H E hr=>by
  rw [hbd]
  exact (hbody cdv A outer s H E hr).h
end
end L3
namespace L3
open PySem L2
noncomputable abbrev fM:=Hm->Nat->Option (Option D)
noncomputable abbrev MI:=aG->Hm->Option (fM×Nat×Hm)
noncomputable def iW (K:To)(m:MI):TI:=fun σ H R=>∃ π ρ μ src n μ',Rp K π H μ/\En K π μ.length H σ ρ/\m ρ μ=some (src,n,μ') /\
 ∀ π' H' J,Ext π μ.length H π' μ'.length H'->Rp K π' H' μ'->Wk K J src π' μ'.length H'->R J H'
structure QJ (X:Cx)(e:TJ)(m:MI):Prop where
 h:∀ tg,PI X tg e (iW X.K m)
section
variable {X:Cx}{pos:Vk}{e:TJ}{m:ME}
noncomputable def BQ:MI:=fun _ _=>none
theorem K1:QJ X e BQ:=⟨fun tg a3G s σ H R I hw=>by
 obtain ⟨π,ρ,μ,src,n,μ',Rr,E,hm,k⟩:=hw
 cases hm⟩
noncomputable def iX (μ:Hm):D->Option (List D)
 | d=>bA μ d
noncomputable def iY (x:D):fM:=fun μ i=>(iX μ x).map fun xs=>xs[i]?
noncomputable def cM (m:ME):MI:=fun ρ μ=>(m ρ μ).bind fun p=>(iX p.2 p.1).map fun xs=>(iY p.1,xs.length+1,p.2)
theorem K2 (h:QE X e m):QJ X e (cM m):=⟨fun tg a3G s σ H R I hw=>by
 obtain ⟨π,ρ,μ,src,n,μ',Rr,E,hm,k⟩:=hw
 obtain ⟨⟨x,μ1⟩,h1,hm⟩:=Tj.mp hm
 obtain ⟨xs,h2,hm⟩:=Tq.mp hm
 cases hm
 have key:∀ (hs:bA μ1 x=some xs)(hx:iY x=iV x),TY (T7 X.prog X.w) X.A (eval e X.env) (fun v s1=>TY (T7 X.prog X.w) X.A (a0g v) (qU X a3G σ tg R) X.xe s1) X.xe s:=fun hs hx=>by
  refine JB h.h a3G s σ H R I ⟨π,ρ,μ,x,_,Rr,E,h1,fun π1 v1 H1 e1 R1 i1=>?_⟩
  obtain ⟨a,e,q⟩:=JC R1 i1 hs
  subst e
  refine ⟨a,rfl,?_⟩
  dsimp only at k
  rw [hx] at k
  rcases q with ⟨q1,W⟩|⟨q1,W⟩
  ·exact .inl ⟨q1,k π1 H1 _ e1 R1 W⟩
  ·exact .inr ⟨q1,k π1 H1 _ e1 R1 W⟩
 cases x with
 | _=>exact key h2 rfl⟩
noncomputable def lE (ms:MA):MI:=fun ρ μ=>(ms ρ μ).bind fun p=>match p.1 with
 | [.int j]=>if -(2 ^ 62)<=j/\j<2 ^ 62 then some (fJ 0 j.toNat,j.toNat+1,p.2) else none
 | _=>none
theorem K3 {a:TJ}{ms:MA}{n:Nat}{p:Vk}(hgl:Gl X "range") (hmg:X.mg "range" = none) (ha:QA X [a] ms n):QJ X (.Call (.Name "range" p) [a] [] pos) (lE ms):=⟨fun tg a3G s σ H R I hw=>by
 have hs:=ha.s
 rw [UA,Ts] at hs
 obtain ⟨π,ρ,μ,src,n',μ',Rr,E,hm,k⟩:=hw
 obtain ⟨⟨x,μ1⟩,h1,hm⟩:=Tj.mp hm
 refine GF hgl hmg ha.h (eC hs.1) a3G s σ H R I ⟨π,ρ,μ,x,μ1,Rr,E,h1,fun π1 vs H1 e1 R1 i1=>?_⟩
 dsimp only at hm
 split at hm
 ·rename_i j
  split at hm
  ·rename_i hb
   cases hm
   cases i1 with
   | cons i1 t1=>
    cases i1
    cases t1
    exact ⟨j,rfl,hb.1,hb.2,k π1 H1 _ e1 R1 BB⟩
  ·cases hm
 ·cases hm⟩
noncomputable def jT (ms:MA):MI:=fun ρ μ=>(ms ρ μ).bind fun p=>match p.1 with
 | [.int i,.int j]=>if -(2 ^ 62)<=i/\i<2 ^ 62/\-(2 ^ 62)<=j/\j<2 ^ 62 then some (fJ i (j - i).toNat,(j - i).toNat+1,p.2) else none
 | _=>none
theorem K5 {a b:TJ}{ms:MA}{n:Nat}{p:Vk}(hgl:Gl X "range") (hmg:X.mg "range" = none) (ha:QA X [a,b] ms n):QJ X (.Call (.Name "range" p) [a,b] [] pos) (jT ms):=⟨fun tg a3G s σ H R I hw=>by
 have hs:=ha.s
 rw [UA,Ts,UA,Ts] at hs
 obtain ⟨π,ρ,μ,src,n',μ',Rr,E,hm,k⟩:=hw
 obtain ⟨⟨x,μ1⟩,h1,hm⟩:=Tj.mp hm
 refine GG hgl hmg ha.h (by rw [eC hs.1,eC hs.2.1];rfl) (by rw [eC hs.2.1];rfl) a3G s σ H R I ⟨π,ρ,μ,x,μ1,Rr,E,h1,fun π1 vs H1 e1 R1 i1=>?_⟩
 dsimp only at hm
 split at hm
 ·rename_i i j
  split at hm
  ·rename_i hb
   cases hm
   cases i1 with
   | cons i1 t1=>
    cases i1
    cases t1 with
    | cons i2 t2=>
     cases i2
     cases t2
     exact ⟨i,j,rfl,hb,k π1 H1 _ e1 R1 BB⟩
  ·cases hm
 ·cases hm⟩
noncomputable def dD (it:MI)(g:MG)(b:MS):MS:=fun ρ μ=>(it ρ μ).bind fun p=>eP p.1 g b p.2.1 0 ρ p.2.2
end
noncomputable def iZ (bd:BD)(it:MI)(c:MT)(e:ME):ME:=fun ρ μ=>(it ρ μ).bind fun p=>
 (fK p.1 bd c e ρ p.2.2.length p.2.1 0 (p.2.2++[.lst []])).map fun μ'=>(.loc p.2.2.length,μ')
noncomputable abbrev eQ (it:MI)(c:MT)(e:ME):ME:=iZ oZ it c e
noncomputable def gB (n:Nat)(bd:BD):MG:=fun d ρ μ=>(bd d μ).map fun x=>ρ.take n++x
theorem K6 {X:Cx}{n:Nat}{x:Str}{px:Vk}(hl:X.N.length=n+1)(h:PG X (.Name x px) (fH X.K (dQ n))):PG X (.Name x px) (fH X.K (gB n oZ)):=by
 intro a3G s σ H v u Q I r hw
 obtain ⟨π,ρ,μ,d,ρ',R,E,hd,hm,k⟩:=hw
 cases hm
 refine h a3G s σ H v u Q I r ⟨π,ρ,μ,d,_,R,E,hd,rfl,fun σ' E'=>k σ' ?_⟩
 have hρ:ρ.length=n+1:=by rw [<- E.len,I.len,hl]
 have e:ρ.set n (some d)=ρ.take n++[some d]:=by
  rw [List.set_eq_take_append_cons_drop,if_pos (by omega),List.drop_of_length_le (by omega)]
 rw [e] at E'
 exact E'
theorem BR:∀ (xs:List D)(a b:aG),b.length=xs.length->k8 (a++b) (Yq a.length xs.length) xs=a++xs.map some
 | [],a,[],_=>by simp [k8]
 | x::xs,a,y::b,h=>by
  have ih:=BR xs (a++[some x]) b (by simpa using h)
  rw [Um,a1C]
  show k8 ((a++y::b).set a.length (some x)) (Yq (a.length+1) xs.length) xs=_
  rw [Yh _ _ (TK _),Nat.sub_self,Tx]
  rw [Ua,Yi] at ih
  rw [a1u,List.singleton_append] at ih
  rw [ih]
  simp
theorem K7 {X:Cx}{n k:Nat}{tg:TJ}(hl:X.N.length=n+k)(h:PG X tg (fH X.K (cU (Yq n k)))):PG X tg (fH X.K (gB n (vQ k))):=by
 intro a3G s σ H v u Q I r hw
 obtain ⟨π,ρ,μ,d,ρ',R,E,hd,hm,kk⟩:=hw
 obtain ⟨y,h1,h2⟩:=Tq.mp hm
 obtain ⟨xs,h3,h4⟩:=Tj.mp h1
 split at h4
 ·rename_i hx
  cases h4
  subst h2
  have hρ:ρ.length=n+k:=by rw [<- E.len,I.len,hl]
  refine h a3G s σ H v u Q I r ⟨π,ρ,μ,d,k8 ρ (Yq n k) xs,R,E,hd,(by simp only [cU,h3,T3,List.length_range',if_pos hx]),fun σ' E'=>kk σ' ?_⟩
  have e:=BR xs (ρ.take n) (ρ.drop n) (by rw [XZ];omega)
  rw [W0,V2,Zv (by omega),hx] at e
  rw [e] at E'
  exact E'
 ·cases h4
section
variable {X:Cx}{scope:V5}{cl:List (Str×Addr)}{xs:List Str}{tg elt iter:TJ}{ifs:List TJ}{pos ppos:Vk}{mi:MI}{me:ME}{mc:MT}{bd:BD}
theorem K9 {K:To}{π:Nat->Addr}{n:Nat}{H:Hp}{σ:St}{ρ o:aG}{k:Nat}(E:En K π n H σ (ρ++o))(ho:o.length=k):En K π n H σ (ρ++Uh k none):=by
 refine ⟨by rw [E.len,Ua,Ua,VQ,ho],fun i d q=>?_⟩
 by_cases hi:i<ρ.length
 ·rw [Uz hi] at q
  exact E.get i d (by rw [Uz hi];exact q)
 ·rw [VB (XI.mp hi),V3] at q
  split at q<;>cases q
theorem BS (O:CompOk X scope cl xs)(hcalm:X.calm=true)(hi:PI X tg iter (iW X.K mi))(hb':∀ d μ z,bd d μ=some z->z.length=xs.length)(hg:∀ C s₀ H₀ fp,PG (cL X scope cl C (bG xs X.N++xs) s₀ H₀ fp) tg (fH X.K (gB X.N.length bd)))
  (hc:∀ C s₀ H₀ fp,mR (cL X scope cl C (bG xs X.N++xs) s₀ H₀ fp) ifs mc)(he:∀ C s₀ H₀ fp,PE (cL X scope cl C (bG xs X.N++xs) s₀ H₀ fp) elt (tM X.K me))
  (hs:∀ x,W7 iter X.env x=pure x){use:Option (Value->a2D Unit)}{QQ:Value->Tv->Prop}{a3G:List (Addr×Obj)}{s:Tv}{σ:St}{H:Hp}{π:Nat->Addr}{ρ:aG}{μ μ':Hm}{d:D}
  (I:Inv X a3G σ H s)(R:Rp X.K π H μ)(E:En X.K π μ.length H σ ρ)(hm:iZ bd mi mc me ρ μ=some (d,μ'))
  (fin:∀ (p C:Addr)(π':Nat->Addr)(H':Hp)(s':Tv),Ext π μ.length H π' μ'.length H'->Rp X.K π' H' μ'->IsD X.K π' μ'.length H' (.ref p) d->(∃ m,s'.heap.Ns C m)->X.s₀.heap.objs.size<=C->C≠X.env.locals->H' C=none->
   (∀ y c,X.env.cells.lookup y=some c->c≠C)->(∀ q∈X.pn++a3G,q.1≠C)->(∀ h',(∀ b o,b≠C->s'.heap.get? b=some o->h'.get? b=some o)->Inv X a3G σ H' { s' with heap:=h' })->
   compPost (T7 X.prog X.w) X.A X.xe use QQ (.ref p) C (.ok .next) s') :
  TY (T7 X.prog X.w) X.A (comprehension (.ListComp elt [⟨tg,iter,ifs,0⟩] scope pos) scope X.env ppos (newList []) false (eval iter X.env) use) QQ X.xe s:=by
 obtain ⟨⟨src,nt,μ1⟩,h1,hm⟩:=Tj.mp hm
 obtain ⟨μ2,h3,hm⟩:=Tq.mp hm
 cases hm
 have hit:TY (T7 X.prog X.w) X.A (eval iter X.env) (fun v s1=>TY (T7 X.prog X.w) X.A (a0g v) (qU X a3G σ tg fun J H1=>∃ π1,Ext π μ.length H π1 μ1.length H1/\Rp X.K π1 H1 μ1/\Wk X.K J src π1 μ1.length H1) X.xe s1) X.xe s:=
  hi a3G s σ H _ I ⟨π,ρ,μ,src,nt,μ1,R,E,h1,fun π1 H1 J e1 R1 W=>⟨π1,e1,R1,W⟩⟩
 refine wpAny_comprehension_free rfl hs O.clos O.kind O.names (Us hit (fun v s1 hv=>Us hv (fun itv s2 h4=>?_) fun _ _ z=>z) fun _ _ z=>z)
 obtain ⟨it,fp,tn,J,H2,rfl,I2,T,st2,f2,π1,e1,R1,W⟩:=h4
 refine Vp (wpAny_newFunctionEnv O.nocell (by intro y hy;simp at hy) (fun h₁ hns₁ hsb₁=>?_) O.kind)
 dsimp only at hns₁ hsb₁ ⊢
 have hfr:H2 s2.heap.objs.size=none:=I2.hok.fresh (TK _)
 have I3:Inv X a3G σ (aH H2 s2.heap.objs.size (.lst [])) { s2 with heap:=s2.heap.push { cls:=.type "list",dict:=none,data:=.seq ([]:List Value).toArray } }:=
  I2.laid (t':=s2.toks) (fun b u e=>Tu _ e) (TK _) ⟨UP _,[],0,.nil,TZ _ rfl⟩
 obtain ⟨e2,R2,q2⟩:=R1.alloc (c:=.lst []) (o:=.lst []) hfr .nil
 generalize hs3:({ s2 with heap:=s2.heap.push { cls:=.type "list",dict:=none,data:=.seq ([]:List Value).toArray } }:Tv)=s3 at I3
 have hheap:s2.heap.push { cls:=.type "list",dict:=none,data:=.seq ([]:List Value).toArray } = s3.heap:=by rw [<- hs3]
 have e12:=e1.trans e2
 generalize hH3:aH H2 s2.heap.objs.size (.lst [])=H3 at I3 e2 R2 e12
 generalize hπ3:fV π1 μ1.length s2.heap.objs.size=π3 at e2 R2 q2 e12
 have hob:∀ b∈fp,∃ o,s3.heap.get? b=some o:=fun b hb=>by
  obtain ⟨o,ho,_⟩:=T.obj 0 _ st2 b hb
  exact ⟨o,by rw [<- hheap];exact Tu _ ho⟩
 have f3:∀ b∈fp,eT X a3G H3 b:=fun b hb=>by
  obtain ⟨o,ho,_⟩:=T.obj 0 _ st2 b hb
  refine ⟨?_,(f2 b hb).2⟩
  rw [<- hH3,aW (TV (TB ho))]
  exact (f2 b hb).1
 have st3:tn 0 s3.heap:=T.keep 0 _ _ st2 fun b hb o e=>by rw [<- hheap];exact Tu _ e
 have hC:(s2.heap.push { cls:=.type "list",dict:=none,data:=.seq ([]:List Value).toArray }).objs.size=s3.heap.objs.size:=by rw [hheap]
 rw [hheap] at hns₁ hsb₁
 have hk1:∀ b o,s3.heap.get? b=some o->h₁.get? b=some o:=fun b o e=>hsb₁.extBut b o (TV (TB e)) (Tu _ e)
 have E3:En X.K π3 (μ1++[C.lst []]).length H3 (σ++Uh xs.length none) (ρ++Uh xs.length none):=by
  have E':=E.mono e12
  refine ⟨by rw [Ua,Ua,E'.len,VQ,VQ],fun i d' q=>?_⟩
  by_cases hi:i<ρ.length
  ·rw [Uz hi] at q
   obtain ⟨v,h5,h6⟩:=E'.get i d' q
   exact ⟨v,by rw [Uz (by rw [E'.len];exact hi)];exact h5,h6⟩
  ·rw [VB (XI.mp hi),V3] at q
   split at q<;>cases q
 have hlen:ρ.length=X.N.length:=by rw [<- E.len];exact I.len
 have stat:∀ {H':Hp}{pl:List (Addr×Obj)},(∀ b∈fp,H' b=none)->pl=[]->∀ b∈fp,eT (cL X scope cl s3.heap.objs.size (bG xs X.N++xs) s3 H3 fp) pl H' b:=fun {H' pl} hn hpl b hb=>by
  obtain ⟨f0,f1,f2',f3',f4,f5⟩:=f3 b hb
  obtain ⟨o,ho⟩:=hob b hb
  refine ⟨hn b hb,TV (TB ho),fun z=>?_,.inl hb,fun y c h=>f4 y c (O.sub y c h),fun p hp=>?_⟩
  ·rcases Ug.mp (I3.stkSub b z) with z|z
   ·exact f1 z
   ·exact f2' z
  ·subst hpl
   exact absurd (show p∈([]:List (Addr×Obj)) from hp) (by simp)
 have loop:∀ s4:Tv,(∃ tk,s4 = { s3 with heap:=h₁,toks:=tk })->
   XQ (T7 X.prog X.w) X.A (.compLoop (.ListComp elt [⟨tg,iter,ifs,0⟩] scope pos) 0 (.ref it) (.ref s2.heap.objs.size) (W8 scope cl s3.heap.objs.size X.env))
    (compPost (T7 X.prog X.w) X.A X.xe use QQ (.ref s2.heap.objs.size) s3.heap.objs.size) s4:=by
  rintro s4 ⟨tk,rfl⟩
  have I4:=O.inv (tk:=tk) I3 f3 hob hns₁ hk1
  refine JF (fun n s'=>∃ i σ' H' π' μi o,Inv (cL X scope cl s3.heap.objs.size (bG xs X.N++xs) s3 H3 fp) [] σ' H' s'/\tn i s'.heap/\(∀ b∈fp,H' b=none)/\Ext π3 (μ1++[C.lst []]).length H3 π' μi.length H'/\Rp X.K π' H' μi /\
   En X.K π' μi.length H' σ' (ρ++o)/\o.length=xs.length/\fK src bd mc me ρ μ1.length n i μi=some μ') ?_ nt
   ⟨0,_,H3,π3,μ1++[C.lst []],Uh xs.length none,I4,T.keep 0 _ _ st3 fun b hb o e=>hk1 b o e,fun b hb=>(f3 b hb).1,.refl,R2,E3,VQ,h3⟩
  rintro n s5 ⟨i,σ5,H5,π5,μ5,o5,I5,st5,fr5,e5,R5,E5,l5,g5⟩
  cases n with
  | zero=>cases g5
  | succ n=>
   obtain ⟨o,h6,h7⟩:=Tj.mp g5
   cases o with
   | none=>
    cases h7
    have stop:=W.stop π5 _ H5 i (e2.trans e5) R5 h6
    refine Us (T.done (cL X scope cl s3.heap.objs.size (bG xs X.N++xs) s3 H3 fp) rfl rfl rfl hcalm i [] s5 σ5 H5 (fun _ _=>False) I5 (stat fr5 rfl) st5 stop) (fun r s6 ⟨hr,I6⟩=>?_) fun _ _ z=>z
    subst hr
    obtain ⟨m6,hn6,_⟩:=id I6.loc
    have hp:π5 μ1.length=s2.heap.objs.size:=by rw [e5.pi μ1.length (by simp),q2]
    refine fin s2.heap.objs.size s3.heap.objs.size π5 H5 s6 (e12.trans e5) R5 ?_ ⟨m6,hn6⟩ I3.sz (Va (TV I3.lt)) I6.free (fun y c hc z=>?_) (fun q hq z=>?_) fun h' hh=>CompOk.back I3 f3 I6 hh
    ·rw [<- hp]
     exact .loc (T6 (by simp) e5.le)
    ·obtain ⟨v,o,ho,_⟩:=I3.cell y c hc
     exact TV (TB ho) z
    ·exact TV (TB (I3.pin q hq).1) z
   | some d=>
    obtain ⟨z,hz,h7⟩:=Tj.mp h7
    obtain ⟨⟨b,μ6⟩,h8,h9⟩:=Tj.mp h7
    obtain ⟨g1,g2⟩:=W.go π5 μ5 H5 i d (e2.trans e5) R5 h6
    refine Us (T.item (cL X scope cl s3.heap.objs.size (bG xs X.N++xs) s3 H3 fp) rfl rfl rfl hcalm i [] s5 σ5 H5 (fun _ _=>False) I5 (stat fr5 rfl) st5 g1) (fun r s6 ⟨u,hr,h10⟩=>?_) fun _ _ z=>z
    subst hr
    refine Us h10 (fun _ s7 ⟨v,H7,I7,r7,y7,st7,fr7⟩=>?_) fun _ _ z=>z
    obtain ⟨e7,R7,hd⟩:=g2 v H7 y7
    have I7':=I7.pinned (stat fr7 rfl) (T.obj _ _ st7)
    have e5:=e5.trans e7
    refine Us (hg _ _ _ _ _ s7 σ5 H7 v u (fun σ' H'=>En X.K π5 μ5.length H7 σ' (ρ++z)/\H'=H7) I7' r7
     ⟨π5,ρ++Uh xs.length none,μ5,d,ρ++z,R7,K9 (E5.mono e7) l5,hd,(by
      show (bd d μ5).map (fun x=>(ρ++Uh xs.length none).take X.N.length++x)=_
      rw [hz,<- hlen,List.take_left]
      rfl),fun σ' E'=>⟨E',rfl⟩⟩) (fun _ s8 ⟨σ8,H8,I8,E8,z2⟩=>?_) fun _ _ z=>z
    subst z2
    have again:∀ {s9:Tv}{H9:Hp}{π9:Nat->Addr}{μ9:Hm},Inv (cL X scope cl s3.heap.objs.size (bG xs X.N++xs) s3 H3 fp) ([]++oQ fp s7.heap) σ8 H9 s9->Ext π3 (μ1++[C.lst []]).length H3 π9 μ9.length H9->Rp X.K π9 H9 μ9->
      En X.K π9 μ9.length H9 σ8 (ρ++z)->fK src bd mc me ρ μ1.length n (i+1) μ9=some μ'->
      ∃ m,m<n+1/\∃ i σ' H' π' μi o,Inv (cL X scope cl s3.heap.objs.size (bG xs X.N++xs) s3 H3 fp) [] σ' H' s9/\tn i s9.heap/\(∀ b∈fp,H' b=none)/\Ext π3 (μ1++[C.lst []]).length H3 π' μi.length H'/\Rp X.K π' H' μi /\
       En X.K π' μi.length H' σ' (ρ++o)/\o.length=xs.length/\fK src bd mc me ρ μ1.length m i μi=some μ':=fun {s9 H9 π9 μ9} I9 e9 R9 E9 g9=>by
     refine ⟨n,Wx _,i+1,_,H9,π9,μ9,z,I9.unpinned,T.keep _ _ _ st7 fun b hb o e=>(I9.pin (b,o) (U4 _ (U4 _ (qV hb e)))).1,fun b hb=>?_,e9,R9,E9,hb' _ _ _ hz,g9⟩
     obtain ⟨o,e,_⟩:=T.obj _ _ st7 b hb
     exact (I9.pin (b,o) (U4 _ (U4 _ (qV hb e)))).2.1
    refine Us (hc _ _ _ _ _ s8 _ H8 (fun b' H'=>∃ π9,b'=b/\Ext π5 μ5.length H8 π9 μ6.length H'/\Rp X.K π9 H' μ6) I8 ⟨π5,_,μ5,b,μ6,R7,E8,h8,fun π9 H9 e9 R9=>⟨π9,rfl,e9,R9⟩⟩) (fun ok s9 ⟨H9,I9,π9,hb,e9,R9⟩=>?_) fun _ _ z=>z
    subst hb
    cases ok with
    | false=>
     rw [if_neg UN]
     exact again I9 (e5.trans e9) R9 (E8.mono e9) h9
    | true=>
     rw [if_pos rfl]
     obtain ⟨⟨dy,μ7⟩,h11,h12⟩:=Tj.mp h9
     obtain ⟨μ8,h13,h14⟩:=Tj.mp h12
     refine Us (he _ _ _ _ _ s9 _ H9 (fun y H'=>∃ π10,Ext π9 μ6.length H9 π10 μ7.length H'/\Rp X.K π10 H' μ7/\IsD X.K π10 μ7.length H' y dy) I9 ⟨π9,_,μ6,dy,μ7,R9,E8.mono e9,h11,fun π10 y H10 e10 R10 i10=>⟨π10,e10,R10,i10⟩⟩)
      (fun u' s10 ⟨y,H10,I10,ry,π10,e10,R10,i10⟩=>?_) fun _ _ z=>z
     unfold mQ at h13
     split at h13
     ·rename_i zs hz
      split at h13
      ·rename_i hl
       cases h13
       obtain ⟨vs,h15,h16⟩:=R10.lst _ zs hz
       have eall:=(e5.trans e9).trans e10
       have hp:π10 μ1.length=s2.heap.objs.size:=by rw [eall.pi μ1.length (by simp),q2]
       obtain ⟨e11,R11⟩:=R10.put (a:=μ1.length) (c:=.lst (zs++[dy])) (o:=.lst (vs++[y])) (Tw.mp hz).1 h15 (.inl ⟨vs,rfl⟩) (h16.append (.cons i10 .nil))
       rw [hp] at h15 e11 R11
       refine Us (AV (X:=cL X scope cl s3.heap.objs.size (bG xs X.N++xs) s3 H3 fp) _ s10 _ H10 (.ref s2.heap.objs.size) [y] (.ref s2.heap.objs.size) [u'] (fun _ H'=>H'=aH H10 s2.heap.objs.size (.lst (vs++[y]))) I10 rfl (.cons ry .nil)
        ⟨s2.heap.objs.size,vs,y,rfl,rfl,h15,by rw [h16.length];exact hl,rfl⟩) (fun _ s11 ⟨_,H11,I11,_,z⟩=>?_) fun _ _ z=>z
       subst z
       exact again I11 (eall.trans e11) R11 ((E8.mono (e9.trans e10)).mono e11) h14
      ·cases h13
     ·cases h13
 have l4:=loop { s3 with heap:=h₁,toks:=s2.toks+([]:List (Str×Value)).length } ⟨_,rfl⟩
 have hst4:tn 0 h₁:=T.keep 0 _ _ st3 fun b hb o e=>hk1 b o e
 subst hs3
 exact codeAny_compStart_list l4 (T.self _ 0 _ _ _ hst4 l4)
theorem La (O:CompOk X scope cl xs)(hcalm:X.calm=true)(hi:PI X tg iter (iW X.K mi))(hb':∀ d μ z,bd d μ=some z->z.length=xs.length)(hg:∀ C s₀ H₀ fp,PG (cL X scope cl C (bG xs X.N++xs) s₀ H₀ fp) tg (fH X.K (gB X.N.length bd)))
  (hc:∀ C s₀ H₀ fp,mR (cL X scope cl C (bG xs X.N++xs) s₀ H₀ fp) ifs mc)(he:∀ C s₀ H₀ fp,PE (cL X scope cl C (bG xs X.N++xs) s₀ H₀ fp) elt (tM X.K me))
  (hs:∀ x,W7 iter X.env x=pure x):PE X (.ListComp elt [⟨tg,iter,ifs,0⟩] scope pos) (tM X.K (iZ bd mi mc me)):=by
 intro a3G s σ H Q I hw
 obtain ⟨π,ρ,μ,d,μ',R,E,hm,k⟩:=hw
 rw [eval_ListComp]
 refine BS (use:=none) O hcalm hi hb' hg hc he hs I R E hm fun p C π' H' s' e1 R1 i1 hns hsz hne hfree hcel hpin back=>?_
 obtain ⟨m,hn⟩:=hns
 exact ⟨m,hn,fun h' sb=>⟨.ref p,H',back h' (fun b o hb e=>(sb.2 b hb).trans e),rfl,k π' _ H' e1 R1 i1⟩⟩
theorem Lb {i:Nat}{y:Str}{py spos:Vk}(O:CompOk X scope cl xs)(hN:X.N.Nodup)(hcalm:X.calm=true)(hi:PI X tg iter (iW X.K mi))(hb':∀ d μ z,bd d μ=some z->z.length=xs.length)(hg:∀ C s₀ H₀ fp,PG (cL X scope cl C (bG xs X.N++xs) s₀ H₀ fp) tg (fH X.K (gB X.N.length bd)))
  (hc:∀ C s₀ H₀ fp,mR (cL X scope cl C (bG xs X.N++xs) s₀ H₀ fp) ifs mc)(he:∀ C s₀ H₀ fp,PE (cL X scope cl C (bG xs X.N++xs) s₀ H₀ fp) elt (tM X.K me))
  (hs:∀ x,W7 iter X.env x=pure x)(hy:X.N[i]? = some y)(hl:X.env.scope.names.lookup y=some .local)
  (hsw:Xr (.ListComp elt [⟨tg,iter,ifs,0⟩] scope pos) (some (.Name y py)) spos.line X.env=pure true) :
  PS X (.Assign [.Name y py] (.ListComp elt [⟨tg,iter,ifs,0⟩] scope pos) spos) (cZ X.K (aS i (iZ bd mi mc me))):=by
 intro a3G s σ H EN I hw
 obtain ⟨π,ρ,μ,fl,ρ',μ',R,E,hm,k⟩:=hw
 obtain ⟨⟨d,μ1⟩,h1,hm⟩:=Tq.mp hm
 cases hm
 rw [exec_Assign_Name_used _ _ _ _ hsw]
 refine Tp (Yb ?_)
 refine Tp (Tp ?_)
 refine BS (use:=some (Zc (.Name y py) X.env)) (QQ:=fun _ s'=>TY (T7 X.prog X.w) X.A (pure ()) (fun _ s''=>TY (T7 X.prog X.w) X.A (pure Flow.next) (SP X a3G EN) X.xe s'') X.xe s') O hcalm hi hb' hg hc he hs I R E h1 fun p C π' H' s' e1 R1 i1 hns hsz hne hfree hcel hpin back=>?_
 obtain ⟨m,hn⟩:=hns
 have I1:Inv X a3G σ H' s':=back s'.heap fun b o _ e=>e
 show TY (T7 X.prog X.w) X.A (Zc (.Name y py) X.env (.ref p)) _ X.xe s'
 refine a2j ?_
 refine qS I1 hN hy (.inl hl) (show RelV (.ref p) (.ref p) from rfl) (fun s2 I2 ⟨a,sb,ha⟩=>?_) (.inr hl)
 have hCa:C≠a:=by
  rcases ha with rfl|ha
  ·exact hne
  ·exact Va (hcel _ _ ha)
 refine ⟨m,hn.sameBut sb hCa,fun h' sb'=>TF (TF ?_)⟩
 refine ⟨σ.set i (some (.ref p)),H',I2.turned (t':=s2.toks) (fun b o hb e=>(sb'.2 b hb).trans e) hfree hne (.inr hsz) hcel hpin,?_⟩
 exact k π' _ H' e1 R1 ((E.mono e1).set i1 i)
end
end L3
namespace L3
open PySem L2
noncomputable def bL:ME:=fun _ _=>none
noncomputable def lF:MT:=fun _ _=>none
noncomputable def dJ:MS:=fun _ _=>none
section
variable {X:Cx}{e a b c o:TJ}{m m1 m2 ma mb mc:ME}{pos:Vk}{mt mu:MT}{rest es:List TJ}{ms:MA}{n:Nat}
theorem bO:QE X e bL:=⟨fun a3G s σ H Q I h=>by
 obtain ⟨π,ρ,μ,d,μ',R,E,hm,k⟩:=h
 cases hm⟩
theorem vY:QT X e lF:=⟨fun a3G s σ H Q I h=>by
 obtain ⟨π,ρ,μ,d,μ',R,E,hm,k⟩:=h
 cases hm⟩
theorem Lc:QW X e lF:=⟨fun wh a3G s σ H Q I h=>by
 obtain ⟨π,ρ,μ,d,μ',R,E,hm,k⟩:=h
 cases hm⟩
theorem eD {st:Stmt}:QS X st dJ:=⟨fun a3G s σ H D I h=>by
 obtain ⟨π,ρ,μ,fl,ρ',μ',R,E,hm,k⟩:=h
 cases hm⟩
theorem rP {g:MG}(hg:∀ d ρ μ,g d ρ μ=none):QG X e g:=⟨fun a3G s σ H v u Q I r h=>by
 obtain ⟨π,ρ,μ,d,ρ',R,E,hd,hm,k⟩:=h
 rw [hg] at hm
 cases hm⟩
theorem lG (h1:QE X e m1)(h2:QE X e m2)(h:∀ ρ μ r,m ρ μ=some r->m1 ρ μ=some r\/m2 ρ μ=some r):QE X e m:=⟨fun a3G s σ H Q I q=>by
 obtain ⟨π,ρ,μ,d,μ',R,E,hm,k⟩:=q
 rcases h ρ μ _ hm with z|z
 ·exact h1.h a3G s σ H Q I ⟨π,ρ,μ,d,μ',R,E,z,k⟩
 ·exact h2.h a3G s σ H Q I ⟨π,ρ,μ,d,μ',R,E,z,k⟩⟩
theorem mW {m m1 m2:MT}(h1:QT X e m1)(h2:QT X e m2)(h:∀ ρ μ r,m ρ μ=some r->m1 ρ μ=some r\/m2 ρ μ=some r):QT X e m:=⟨fun a3G s σ H Q I q=>by
 obtain ⟨π,ρ,μ,d,μ',R,E,hm,k⟩:=q
 rcases h ρ μ _ hm with z|z
 ·exact h1.h a3G s σ H Q I ⟨π,ρ,μ,d,μ',R,E,z,k⟩
 ·exact h2.h a3G s σ H Q I ⟨π,ρ,μ,d,μ',R,E,z,k⟩⟩
theorem fN {f f1 f2:D->D->Hm->Option (D×Hm)}(h:∀ x y μ r,f x y μ=some r->f1 x y μ=some r\/f2 x y μ=some r) :
  ∀ ρ μ r,aB f ma mb ρ μ=some r->aB f1 ma mb ρ μ=some r\/aB f2 ma mb ρ μ=some r:=by
 intro ρ μ r hm
 obtain ⟨p,h1,hm⟩:=Tj.mp hm
 obtain ⟨q,h2,hm⟩:=Tj.mp hm
 rcases h _ _ _ _ hm with z|z
 ·exact .inl (Tj.mpr ⟨p,h1,Tj.mpr ⟨q,h2,z⟩⟩)
 ·exact .inr (Tj.mpr ⟨p,h1,Tj.mpr ⟨q,h2,z⟩⟩)
theorem mX (h:∀ ρ μ r,m ρ μ=some r->m1 ρ μ=some r\/m2 ρ μ=some r):∀ ρ μ r,aP m ρ μ=some r->aP m1 ρ μ=some r\/aP m2 ρ μ=some r:=by
 intro ρ μ r hm
 obtain ⟨p,h1,hm⟩:=Tj.mp hm
 rcases h _ _ _ h1 with z|z
 ·exact .inl (Tj.mpr ⟨p,z,hm⟩)
 ·exact .inr (Tj.mpr ⟨p,z,hm⟩)
noncomputable def jU:List D->Option (List Int)
 | []=>some []
 | .int i::r=>(jU r).map (i::·)
 | _=>none
noncomputable def dZ:D->Option (List Int)
 | .tup ds=>jU ds
 | _=>none
noncomputable def bJ (kvs:List (List Int×D))(k:List Int):Option D:=(kvs.find? fun p=>decide (p.1=k)).map (·.2)
noncomputable def cN (kvs:List (List Int×D))(k:List Int)(d:D):List (List Int×D):=if (bJ kvs k).isSome then kvs.map (fun p=>if p.1=k then (p.1,d) else p) else kvs++[(k,d)]
noncomputable def aI:D->D->Hm->Option (D×Hm):=fun x y μ=>match x with
 | .loc a=>match μ[a]? with
  | some (.dT kvs)=>(dZ y).bind fun k=>(bJ kvs k).map fun d=>(d,μ)
  | _=>eV x y μ
 | _=>eV x y μ
structure TabOk (X:Cx)(x:Str)(kvs:List (aX×D)):Prop where
 ex:∃ (p:Addr)(vs:List (aX×V))(ws:List (aX×Value)),X.mg x=some (.ref p)/\(∀ h:UE,X.K.In h->h.DictOf (kT X.prog X.w) p ws)/\KV vs ws/\∀ π n H,IsKs X.K π n H vs kvs
theorem BU {a3G:List (Addr×Obj)}{σ:St}{H:Hp}{s:Tv}(I:Inv X a3G σ H s){p:Addr}{ob:Obj}(h:X.K.lookup p=some ob):H p=none:=(I.bs p ob (I.mod.kin p ob h)).2
theorem BV {K:To}{π:Nat->Addr}{H:Hp}{μ:Hm}(R:Rp K π H μ){a':Nat}(ha:a'<μ.length):(∃ vs,H (π a')=some (.lst vs))\/(∃ vs,H (π a')=some (.dK vs))\/(∃ φ,H (π a')=some (.ext φ))\/∃ ob φ,H (π a')=some (.frz ob (.ext φ)):=by
 cases q:μ[a']? with
 | none=>exact absurd (U0.mp q) (by omega)
 | some cl=>
  cases cl with
  | lst xs=>obtain ⟨vs,h,_⟩:=R.lst a' xs q;exact .inl ⟨vs,h⟩
  | dK xs=>obtain ⟨vs,h,_⟩:=R.dK a' xs q;exact .inr (.inl ⟨vs,h⟩)
  | st xs=>obtain ⟨vs,h,_⟩:=R.st a' xs q;exact .inr (.inr (.inl ⟨_,h⟩))
  | dT xs=>obtain ⟨vs,h,_⟩:=R.dT a' xs q;exact .inr (.inr (.inl ⟨_,h⟩))
  | exc x ns ds=>obtain ⟨ob,φ,h,_⟩:=R.exc a' x ns ds q;exact .inr (.inr (.inr ⟨ob,_,h⟩))
section
variable {a3G:List (Addr×Obj)}{σ:St}{H:Hp}{s:Tv}{π:Nat->Addr}{μ:Hm}
theorem BW (I:Inv X a3G σ H s)(R:Rp X.K π H μ){a':Nat}(ha:a'<μ.length){vs:List V}(h:SqT X.K H (π a') vs):False:=by
 have hc:=BV R ha
 rcases h with h|h
 ·rcases h with h|⟨ob,h⟩<;>rcases hc with ⟨ws,z⟩|⟨ws,z⟩|⟨ws,z⟩|⟨_,ws,z⟩<;>(rw [h] at z;cases z)
 ·obtain ⟨ob,its,n,hk,_⟩:=h
  have:=BU I hk
  rcases hc with ⟨ws,z⟩|⟨ws,z⟩|⟨ws,z⟩|⟨_,ws,z⟩<;>(rw [this] at z;cases z)
theorem BX (I:Inv X a3G σ H s)(R:Rp X.K π H μ){a':Nat}(ha:a'<μ.length){vs:List V}(h:RoL X.K H (π a') vs):False:=by
 have hc:=BV R ha
 rcases h with ⟨ob,h⟩|h
 ·rcases hc with ⟨ws,z⟩|⟨ws,z⟩|⟨ws,z⟩|⟨_,ws,z⟩<;>(rw [h] at z;cases z)
 ·obtain ⟨ob,its,n,hk,_⟩:=h
  have:=BU I hk
  rcases hc with ⟨ws,z⟩|⟨ws,z⟩|⟨ws,z⟩|⟨_,ws,z⟩<;>(rw [this] at z;cases z)
theorem BY (I:Inv X a3G σ H s){p:Addr}{vs ws:List V}(h:SqT X.K H p vs)(h':RoL X.K H p ws):False:=by
 obtain ⟨its,_,t,_⟩:=I.tuple h
 obtain ⟨its',_,l,_⟩:=I.list h'.sq
 exact absurd rfl (Vz l.isList t)
mutual
theorem vZ (I:Inv X a3G σ H s)(R:Rp X.K π H μ){v:V}{d d':D}:IsD X.K π μ.length H v d->IsD X.K π μ.length H v d'->d=d'
 | .non,h'=>by cases h';rfl
 | .bl _,h'=>by cases h';rfl
 | .int _,h'=>by cases h';rfl
 | .str _,h'=>by cases h';rfl
 | .ty _,h'=>by cases h';rfl
 | .tup h t,h'=>by
  cases h' with
  | tup h2 t2=>
   have:=I.tuple_inj h h2
   subst this
   rw [v7 I R t t2]
  | rol h2 t2=>exact (BY I h h2).elim
  | loc h2=>exact (BW I R h2 h).elim
 | .rol h t,h'=>by
  cases h' with
  | tup h2 t2=>exact (BY I h2 h).elim
  | rol h2 t2=>
   have:=I.list_inj h.sq h2.sq
   subst this
   rw [v7 I R t t2]
  | loc h2=>exact (BX I R h2 h).elim
 | .loc (a:=a1) ha,h'=>by
  generalize hz:V.ref (π a1)=z at h'
  cases h' with
  | tup h2 t2=>cases hz;exact (BW I R ha h2).elim
  | rol h2 t2=>cases hz;exact (BX I R ha h2).elim
  | loc h2=>
   have:=R.inj _ _ ha h2 (V.ref.inj hz)
   rw [this]
  | _=>cases hz
theorem v7 (I:Inv X a3G σ H s)(R:Rp X.K π H μ){vs:List V}{ds ds':List D}:IsDs X.K π μ.length H vs ds->IsDs X.K π μ.length H vs ds'->ds=ds'
 | .nil,h'=>by cases h';rfl
 | .cons h t,h'=>by
  cases h' with
  | cons h2 t2=>rw [vZ I R h h2,v7 I R t t2]
end
end
noncomputable def i0 (μ:Hm)(x:D):List D->Option Bool
 | []=>some false
 | y::r=>(cA 8 μ y x).bind fun b=>(i0 μ x r).map fun c=>b||c
noncomputable def lH (neg:Bool):D->D->Hm->Option (D×Hm):=fun x y μ=>(bA μ y).bind fun ys=>(i0 μ x ys).map fun b=>(.bl (if neg then !b else b),μ)
noncomputable def v8 (K:To)(neg:Bool):R2:=fun x y H Q=>∃ π μ dx dy ys b,Rp K π H μ/\IsD K π μ.length H x dx/\IsD K π μ.length H y dy/\bA μ dy=some ys/\i0 μ dx ys=some b/\Q (.bl (if neg then !b else b)) H
theorem rQ {K:To}{neg:Bool}:cG K (lH neg) (v8 K neg):=by
 intro π H μ x y d μ' vx vy Q R ix iy hm k
 obtain ⟨ys,h1,hm⟩:=Tj.mp hm
 obtain ⟨b,h2,hm⟩:=Tq.mp hm
 cases hm
 exact ⟨π,_,x,y,ys,b,R,ix,iy,h1,h2,k π _ H .refl R (.bl _)⟩
theorem rR {a3G:List (Addr×Obj)}{σ:St}{H:Hp}{s:Tv}{π:Nat->Addr}{μ:Hm}(I:Inv X a3G σ H s)(R:Rp X.K π H μ){A:Ue}(hu:A.units+8<Vm){x:V}{v:Value}{dx:D}(rx:RelV x v)(ix:IsD X.K π μ.length H x dx) :
  ∀ {ys:List D}{vs:List V}{us:List Value}{b:Bool},IsDs X.K π μ.length H vs ys->Vals vs us->i0 μ dx ys=some b->
   ∃ g:Value->Bool,(∀ u∈us,YC A s u v (g u))/\us.any g=b:=by
 classical
 intro ys vs us b hi hv hm
 have each:∀ {ys:List D}{vs:List V}{us:List Value}{b:Bool},IsDs X.K π μ.length H vs ys->Vals vs us->i0 μ dx ys=some b->(∀ u∈us,∃ c,YC A s u v c/\∃ w dy,RelV w u/\IsD X.K π μ.length H w dy/\cA 8 μ dy dx=some c):=by
  intro ys
  induction ys with
  | nil=>
   intro vs us b hi hv hm u hu'
   cases hi
   cases hv
   cases hu'
  | cons y ys ih=>
   intro vs us b hi hv hm u hu'
   cases hi with
   | cons h t=>
    cases hv with
    | cons r rt=>
     obtain ⟨c,h1,hm⟩:=Tj.mp hm
     obtain ⟨c2,h2,hm⟩:=Tq.mp hm
     rcases Ug.mp hu' with rfl|hu'
     ·exact ⟨c,vC I R 8 hu r rx h ix h1,_,_,r,h,h1⟩
     ·exact ih t rt h2 u hu'
 have ec:=each hi hv hm
 refine ⟨fun u=>if h:u∈us then Wi (ec u h) else false,fun u hu'=>?_,?_⟩
 ·simp only [dif_pos hu']
  exact (WM (ec u hu')).1
 ·have key:∀ u (h:u∈us) w dy c,RelV w u->IsD X.K π μ.length H w dy->cA 8 μ dy dx=some c->Wi (ec u h)=c:=by
   intro u h w dy c rw' iw ew
   obtain ⟨_,w2,dy2,r2,i2,e2⟩:=WM (ec u h)
   have:w2=w:=r2.inj rw'
   subst this
   have:=vZ I R i2 iw
   subst this
   rw [e2] at ew
   exact Uc ew
  have main:∀ {ys:List D}{vs:List V}{us':List Value}{b:Bool},(∀ u∈us',u∈us)->IsDs X.K π μ.length H vs ys->Vals vs us'->i0 μ dx ys=some b->us'.any (fun u=>if h:u∈us then Wi (ec u h) else false)=b:=by
   intro ys
   induction ys with
   | nil=>
    intro vs us' b hs hi hv hm
    cases hi
    cases hv
    cases hm
    rfl
   | cons y ys ih=>
    intro vs us' b hs hi hv hm
    cases hi with
    | cons h t=>
     cases hv with
     | @cons _ u _ us2 r rt=>
      obtain ⟨c,h1,hm⟩:=Tj.mp hm
      obtain ⟨c2,h2,hm⟩:=Tq.mp hm
      have eJ:u∈us:=hs u (Uy ..)
      rw [VU,ih (fun z hz=>hs z (Uo _ hz)) t rt h2,dif_pos eJ,key u eJ _ _ c r h h1]
      exact hm
  exact main (fun _ h=>h) hi hv hm
theorem rS {k:Nat}{A:Ue}(r:Room k A):A.units+9<Vm:=by have:=r.un;omega
theorem BZ (hu:X.A.units+9<Vm):OpR X (UX .In) (v8 X.K false):=by
 intro a3G s σ H x y v u Q I rx ry h
 obtain ⟨π,μ,dx,dy,ys,b,R,ix,iy,e1,e2,q⟩:=h
 obtain ⟨p,vs,rfl,hq,hd⟩:=k9 R iy e1
 cases ry
 rcases hq with hq|hq
 ·obtain ⟨its,r,pl,hz⟩:=I.list hq
  obtain ⟨g,g1,g2⟩:=rR I R (A:=X.A.in1) (by rw [kZ];omega) rx ix hd r e2
  refine SeqAt.in_listAt g pl.isList (fun w hw=>g1 w (by simpa using hw)) ⟨.bl _,H,I,rfl,?_⟩
  rw [show its.toArray.any g=its.any g by simp,g2]
  exact q
 ·obtain ⟨its,r,pl,hz⟩:=I.tuple hq
  obtain ⟨g,g1,g2⟩:=rR I R (A:=X.A.in1) (by rw [kZ];omega) rx ix hd r e2
  refine SeqAt.in_tupleAt g pl (fun w hw=>g1 w (by simpa using hw)) ⟨.bl _,H,I,rfl,?_⟩
  rw [show its.toArray.any g=its.any g by simp,g2]
  exact q
theorem B0 (hu:X.A.units+9<Vm):OpR X (UX .NotIn) (v8 X.K true):=by
 intro a3G s σ H x y v u Q I rx ry h
 obtain ⟨π,μ,dx,dy,ys,b,R,ix,iy,e1,e2,q⟩:=h
 obtain ⟨p,vs,rfl,hq,hd⟩:=k9 R iy e1
 cases ry
 rcases hq with hq|hq
 ·obtain ⟨its,r,pl,hz⟩:=I.list hq
  obtain ⟨g,g1,g2⟩:=rR I R (A:=X.A.in1) (by rw [kZ];omega) rx ix hd r e2
  refine SeqAt.notIn_listAt g pl.isList (fun w hw=>g1 w (by simpa using hw)) ⟨.bl _,H,I,rfl,?_⟩
  rw [show its.toArray.any g=its.any g by simp,g2]
  exact q
 ·obtain ⟨its,r,pl,hz⟩:=I.tuple hq
  obtain ⟨g,g1,g2⟩:=rR I R (A:=X.A.in1) (by rw [kZ];omega) rx ix hd r e2
  refine SeqAt.notIn_tupleAt g pl (fun w hw=>g1 w (by simpa using hw)) ⟨.bl _,H,I,rfl,?_⟩
  rw [show its.toArray.any g=its.any g by simp,g2]
  exact q
noncomputable def cP (neg:Bool):D->D->Hm->Option (D×Hm)
 | .str i,.str j,μ=>some (.bl (if neg then !(!(Vd j i 0 j.length 1).isEmpty) else !(Vd j i 0 j.length 1).isEmpty),μ)
 | x,.loc a,μ=>match μ[a]? with
  | some (.dT kvs)=>(dZ x).map fun k=>(.bl (if neg then !(bJ kvs k).isSome else (bJ kvs k).isSome),μ)
  | _=>lH neg x (.loc a) μ
 | x,y,μ=>lH neg x y μ
noncomputable def v9:D->D->Hm->Option (D×Hm)
 | .str i,.str j,μ=>some (.bl (!(!(Vd j i 0 j.length 1).isEmpty)),μ)
 | _,_,_=>none
theorem B1 {K:To}:cG K v9 (fun x y H Q=>∃ i j,x=.str i/\y=.str j/\Q (.bl (!(!(Vd j i 0 j.length 1).isEmpty))) H):=by
 intro π H μ x y d μ' vx vy Q R ix iy hm k
 unfold v9 at hm
 split at hm
 ·cases hm
  cases ix
  cases iy
  exact ⟨_,_,rfl,rfl,k π _ H .refl R (.bl _)⟩
 ·cases hm
noncomputable def iC (neg:Bool):D->D->Hm->Option (D×Hm)
 | x,.non,μ=>some (.bl (match x with|.non=>!neg|_=>neg),μ)
 | _,_,_=>none
theorem B2 {K:To}:cG K (iC false) (fun x y H Q=>y=.non/\Q (.bl (decide (x=.non))) H):=by
 intro π H μ x y d μ' vx vy Q R ix iy hm k
 unfold iC at hm
 split at hm
 ·cases hm
  cases iy
  refine ⟨rfl,?_⟩
  cases ix<;>exact k π _ H .refl R (.bl _)
 ·cases hm
theorem B3 {K:To}:cG K (iC true) (fun x y H Q=>y=.non/\Q (.bl (!decide (x=.non))) H):=by
 intro π H μ x y d μ' vx vy Q R ix iy hm k
 unfold iC at hm
 split at hm
 ·cases hm
  cases iy
  refine ⟨rfl,?_⟩
  cases ix<;>exact k π _ H .refl R (.bl _)
 ·cases hm
theorem Ld (ha:QE X a ma)(hb:QE X b mb):QE X (.Compare a [.Is] [b] pos) (aB (iC false) ma mb):=⟨eH Ak B2 ha.h hb.h (dG _)⟩
theorem Le (ha:QE X a ma)(hb:QE X b mb):QE X (.Compare a [.IsNot] [b] pos) (aB (iC true) ma mb):=⟨eH Al B3 ha.h hb.h (dG _)⟩
theorem Lf (ha:QE X a ma)(hb:QE X b mb):QT X (.Compare a [.Is] [b] pos) (aP (aB (iC false) ma mb)):=⟨eI Ak B2 ha.h hb.h (dG _)⟩
theorem Lg (ha:QE X a ma)(hb:QE X b mb):QT X (.Compare a [.IsNot] [b] pos) (aP (aB (iC true) ma mb)):=⟨eI Al B3 ha.h hb.h (dG _)⟩
end
end L3
namespace L3
open PySem L2
section
variable {X:Cx}{e a b c o:TJ}{m m1 m2 ma mb mc mo:ME}{pos apos cpos:Vk}{mt mu:MT}{rest es:List TJ}{ms:MA}{n:Nat}
noncomputable def mY (μ:Hm):D->Bool
 | .rol _=>true
 | .loc a=>match μ[a]? with|some (.lst _)=>true|_=>false
 | _=>false
noncomputable def cV (f:D->List D->Hm->Option (D×Hm))(mo:ME)(ms:MA):ME:=fun ρ μ=>(mo ρ μ).bind fun p=>match mY p.2 p.1 with
 | true=>(ms ρ p.2).bind fun q=>f p.1 q.1 q.2
 | false=>none
noncomputable def iD (K:To)(f:D->List D->Hm->Option (D×Hm))(r:V->List V->Hp->VK->Prop):Prop:=
 ∀ π H μ x xs d μ' v vs Q,Rp K π H μ->IsD K π μ.length H v x->IsDs K π μ.length H vs xs->f x xs μ=some (d,μ')->KC K Q π μ.length H d μ'->r v vs H Q
theorem B4 {K:To}{π:Nat->Addr}{H:Hp}{μ:Hm}{v:V}{x:D}(R:Rp K π H μ)(h:IsD K π μ.length H v x)(e:mY μ x=true):q0 K "list" v H:=by
 cases h with
 | rol h t=>exact .inl ⟨rfl,_,h.sq⟩
 | @loc a ha=>
  simp only [mY] at e
  split at e
  ·rename_i xs hx
   obtain ⟨vs,h1,_⟩:=R.lst a xs hx
   exact .inl ⟨rfl,vs,.of h1⟩
  ·cases e
 | _=>cases e
theorem Lh {K:To}{f:D->List D->Hm->Option (D×Hm)}{r:V->List V->Hp->VK->Prop}(hf:iD K f r):∀ σ H Q,tM K (cV f mo ms) σ H Q->AQ K "list" r (tM K mo) (eU K ms) σ H Q:=by
 rintro σ H Q ⟨π,ρ,μ,d,μ',R,E,hm,k⟩
 obtain ⟨⟨x,μ1⟩,h1,hm⟩:=Tj.mp hm
 dsimp only at hm
 split at hm
 ·rename_i hl
  obtain ⟨⟨xs,μ2⟩,h2,hm⟩:=Tj.mp hm
  refine ⟨π,ρ,μ,x,μ1,R,E,h1,fun π1 v1 H1 e1 R1 i1=>⟨B4 R1 i1 hl,π1,ρ,μ1,xs,μ2,R1,E.mono e1,h2,fun π2 vs H2 e2 R2 i2=>?_⟩⟩
  exact hf π2 H2 μ2 x xs d μ' v1 vs Q R2 (i1.mono e2) i2 hm (k.after (e1.trans e2))
 ·cases hm
theorem Li {K:To}{f:D->List D->Hm->Option (D×Hm)}{r:V->List V->Hp->VK->Prop}(hf:iD K f r):∀ σ H Q,tM K (cV f mo aD) σ H Q->AO K "list" r (tM K mo) σ H Q:=by
 rintro σ H Q ⟨π,ρ,μ,d,μ',R,E,hm,k⟩
 obtain ⟨⟨x,μ1⟩,h1,hm⟩:=Tj.mp hm
 dsimp only at hm
 split at hm
 ·rename_i hl
  obtain ⟨⟨xs,μ2⟩,h2,hm⟩:=Tj.mp hm
  cases h2
  refine ⟨π,ρ,μ,x,μ1,R,E,h1,fun π1 v1 H1 e1 R1 i1=>⟨B4 R1 i1 hl,?_⟩⟩
  exact hf π1 H1 μ1 x [] d μ' v1 [] Q R1 i1 .nil hm (k.after e1)
 ·cases hm
noncomputable def i7:TJ->Bool
 | .Call (.Name _ _) [] [] _=>false
 | _=>true
theorem lJ {o:TJ}{attr:Str}{env:X2}{whole:a2D Value}(h:i7 o=true):WN o attr env whole=whole:=by
 cases o with
 | Call f args kws p=>
  cases f with
  | Name id q=>
   cases args with
   | nil=>
    cases kws with
    | nil=>cases h
    | cons _ _=>rfl
   | cons _ _=>rfl
  | _=>rfl
 | _=>rfl
theorem Lj {e:TJ}{es:List TJ}{env:X2}{cpos:Vk}(h:(e::es).all cE=true)(hn:(e::es).length<30) :
  ((VX cpos (Ul (e::es) env)).all (fun x=>!x.1)&&(a0h cpos (YI [] env)).all (fun x=>x.1.isSome)
   && decide ((e::es).length+([]:List WG).length+(if ([]:List WG).isEmpty then 0 else 1)<30))=true:=by
 have h1:(VX cpos (Ul (e::es) env)).all (fun x=>!x.1)=true:=by
  have:=jS (pos:=cpos) (env:=env) h
  rw [List.all_eq_not_any_not]
  simpa using this
 rw [h1]
 have h2:(e::es).length+([]:List WG).length+(if ([]:List WG).isEmpty then 0 else 1)<30:=by
  show (e::es).length+0+0<30
  omega
 rw [decide_eq_true h2]
 rfl
theorem wA {f:D->List D->Hm->Option (D×Hm)}{r:V->List V->Hp->VK->Prop}{name:Str}{id:String}(slot:Slot "list" name id) (hty:a3t (.builtin id)=pure (.type "method_descriptor")) (hm:jN X id r)(hf:iD X.K f r)
  (ho:QE X o mo)(ha:QA X (e::es) ms n)(hs:i7 o=true)(hl:(apos.endLine == cpos.line)=true)(hn:(e::es).length<30):QE X (.Call (.Attribute o name apos) (e::es) [] cpos) (cV f mo ms):=by
 have hst:=ha.s
 have hst':=hst
 rw [UA,Ts] at hst'
 exact ⟨cK (HN ZC slot hty hm ho.h ha.h (lJ hs) (Lj hst hn) hl (eC hst'.1) (jS hst'.2)) (Lh hf)⟩
theorem wB {f:D->List D->Hm->Option (D×Hm)}{r:V->List V->Hp->VK->Prop}{name:Str}{id:String}(slot:Slot "list" name id) (hty:a3t (.builtin id)=pure (.type "method_descriptor")) (hm:jN X id r)(hf:iD X.K f r)
  (ho:QE X o mo)(hs:i7 o=true)(hl:(apos.endLine == cpos.line)=true):QE X (.Call (.Attribute o name apos) [] [] cpos) (cV f mo aD):=
 ⟨cK (HM ZC slot hty hm ho.h (lJ hs) hl) (Li hf)⟩
noncomputable def d4:D->List D->Hm->Option (D×Hm)
 | .loc a,[y],μ=>(mQ μ a y).map fun μ'=>(.non,μ')
 | _,_,_=>none
noncomputable def mZ:D->List D->Hm->Option (D×Hm)
 | .loc a,[.loc b],μ=>match μ[a]?,μ[b]? with
  | some (.lst xs),some (.lst ys)=>if xs.length+ys.length<=TL then some (.non,μ.set a (.lst (xs++ys))) else none
  | _,_=>none
 | _,_,_=>none
noncomputable def wC:D->List D->Hm->Option (D×Hm)
 | .loc a,[],μ=>match μ[a]? with
  | some (.lst _)=>some (.non,μ.set a (.lst []))
  | _=>none
 | _,_,_=>none
noncomputable def jV:D->List D->Hm->Option (D×Hm)
 | .loc a,[],μ=>match μ[a]? with
  | some (.lst xs)=>(xs[xs.length - 1]?).map fun y=>(y,μ.set a (.lst xs.dropLast))
  | _=>none
 | _,_,_=>none
noncomputable def wD:D->List D->Hm->Option (D×Hm)
 | .loc a,[],μ=>match μ[a]? with
  | some (.lst xs)=>some (.non,μ.set a (.lst xs.reverse))
  | _=>none
 | _,_,_=>none
theorem Lk {K:To}{π:Nat->Addr}{n:Nat}{H:Hp}{vs:List V}{ds:List D}(h:IsDs K π n H vs ds):IsDs K π n H vs.reverse ds.reverse:=by
 induction ds generalizing vs with
 | nil=>cases h;exact .nil
 | cons d ds ih=>
  cases h with
  | cons h t=>
   rw [XR,XR]
   exact (ih t).append (.cons h .nil)
theorem Ll {K:To}{π:Nat->Addr}{n:Nat}{H:Hp}{vs:List V}{ds:List D}(h:IsDs K π n H vs ds):IsDs K π n H vs.dropLast ds.dropLast:=by
 rw [a0r,a0r,h.length]
 exact h.take _
theorem Lm {K:To}:iD K d4 AU:=by
 intro π H μ x xs d μ' v vs Q R ix ixs hm k
 unfold d4 at hm
 split at hm
 ·rename_i a y
  obtain ⟨μ1,h1,hm⟩:=Tq.mp hm
  cases hm
  unfold mQ at h1
  split at h1
  ·rename_i zs hz
   split at h1
   ·rename_i hl
    cases h1
    obtain ⟨ws,h2,h3⟩:=R.lst a zs hz
    cases ix
    cases ixs with
    | cons iy it=>
     cases it
     obtain ⟨e1,R1⟩:=R.put (a:=a) (c:=.lst (zs++[y])) (o:=.lst (ws++[_])) (Tw.mp hz).1 h2 (.inl ⟨ws,rfl⟩) (h3.append (.cons iy .nil))
     exact ⟨_,ws,_,rfl,rfl,h2,by rw [h3.length];exact hl,k π _ _ e1 R1 .non⟩
   ·cases h1
  ·cases h1
 ·cases hm
theorem Ln {K:To}:iD K mZ AW:=by
 intro π H μ x xs d μ' v vs Q R ix ixs hm k
 unfold mZ at hm
 split at hm
 ·rename_i a b
  split at hm
  ·rename_i zs ys hz hy
   split at hm
   ·rename_i hl
    cases hm
    obtain ⟨ws,h2,h3⟩:=R.lst a zs hz
    obtain ⟨us,h4,h5⟩:=R.lst b ys hy
    cases ix
    cases ixs with
    | cons iy it=>
     cases it
     cases iy
     obtain ⟨e1,R1⟩:=R.put (a:=a) (c:=.lst (zs++ys)) (o:=.lst (ws++us)) (Tw.mp hz).1 h2 (.inl ⟨ws,rfl⟩) (h3.append h5)
     exact ⟨_,_,ws,us,rfl,rfl,h2,h4,by rw [h3.length,h5.length];exact hl,k π _ _ e1 R1 .non⟩
   ·cases hm
  ·cases hm
 ·cases hm
theorem Lo {K:To}:iD K wC AZ:=by
 intro π H μ x xs d μ' v vs Q R ix ixs hm k
 unfold wC at hm
 split at hm
 ·rename_i a
  split at hm
  ·rename_i zs hz
   cases hm
   obtain ⟨ws,h2,h3⟩:=R.lst a zs hz
   cases ix
   cases ixs
   obtain ⟨e1,R1⟩:=R.put (a:=a) (c:=.lst []) (o:=.lst []) (Tw.mp hz).1 h2 (.inl ⟨ws,rfl⟩) .nil
   exact ⟨_,ws,rfl,rfl,h2,k π _ _ e1 R1 .non⟩
  ·cases hm
 ·cases hm
theorem Lp {K:To}:iD K wD AY:=by
 intro π H μ x xs d μ' v vs Q R ix ixs hm k
 unfold wD at hm
 split at hm
 ·rename_i a
  split at hm
  ·rename_i zs hz
   cases hm
   obtain ⟨ws,h2,h3⟩:=R.lst a zs hz
   cases ix
   cases ixs
   obtain ⟨e1,R1⟩:=R.put (a:=a) (c:=.lst zs.reverse) (o:=.lst ws.reverse) (Tw.mp hz).1 h2 (.inl ⟨ws,rfl⟩) (Lk h3)
   exact ⟨_,ws,rfl,rfl,h2,k π _ _ e1 R1 .non⟩
  ·cases hm
 ·cases hm
theorem Lq {K:To}:iD K jV AX:=by
 intro π H μ x xs d μ' v vs Q R ix ixs hm k
 unfold jV at hm
 split at hm
 ·rename_i a
  split at hm
  ·rename_i zs hz
   obtain ⟨y,h1,hm⟩:=Tq.mp hm
   cases hm
   obtain ⟨ws,h2,h3⟩:=R.lst a zs hz
   cases ix
   cases ixs
   obtain ⟨w,h4,h5⟩:=h3.get h1
   obtain ⟨e1,R1⟩:=R.put (a:=a) (c:=.lst zs.dropLast) (o:=.lst ws.dropLast) (Tw.mp hz).1 h2 (.inl ⟨ws,rfl⟩) (Ll h3)
   refine ⟨_,ws,w,rfl,rfl,h2,by rw [h3.length];exact h4,k π w _ e1 R1 (h5.mono e1)⟩
  ·cases hm
 ·cases hm
noncomputable def jW (μ:Hm):D->Option Bool
 | .non=>some false
 | .bl b=>some b
 | .int i=>some (i != 0)
 | .str z=>if z.length<=TL then some ((z.length:Int) != 0) else none
 | .tup xs=>some (!xs.isEmpty)
 | .rol xs=>some (!xs.isEmpty)
 | .loc a=>match μ[a]? with|some (.lst xs)=>some (!xs.isEmpty)|some (.dK kvs)=>some (!kvs.isEmpty)|_=>none
 | .ty _=>none
theorem rV {α β:Type}{xs:List α}{ys:List β}(h:xs.length=ys.length):xs.isEmpty=ys.isEmpty:=by
 cases xs<;>cases ys<;>first|rfl|cases h
theorem Lr {K:To}{π:Nat->Addr}{H:Hp}{μ:Hm}{v:V}{x:D}{b:Bool}(R:Rp K π H μ)(h:IsD K π μ.length H v x)(e:jW μ x=some b):uO K v H b:=by
 cases h with
 | non=>cases e;rfl
 | bl c=>cases e;rfl
 | int i=>cases e;rfl
 | str z=>
  simp only [jW] at e
  split at e
  ·rename_i hl;cases e;exact ⟨hl,rfl⟩
  ·cases e
 | tup h t=>cases e;exact .inr (.inl ⟨_,h,by rw [rV t.length]⟩)
 | rol h t=>cases e;exact .inl ⟨_,h.sq,by rw [rV t.length]⟩
 | @loc a ha=>
  simp only [jW] at e
  split at e
  ·rename_i xs hx
   cases e
   obtain ⟨vs,h1,h2⟩:=R.lst a xs hx
   exact .inl ⟨vs,.of h1,by rw [rV h2.length]⟩
  ·rename_i kvs hx
   cases e
   obtain ⟨vs,h1,h2,_⟩:=R.dK a kvs hx
   refine .inr (.inr ⟨vs,h1,?_⟩)
   have:=congrArg Vu h2
   rw [Tt,Tt] at this
   rw [rV this]
  ·cases e
 | ty n=>cases e
noncomputable def eS (m:ME):MT:=fun ρ μ=>(m ρ μ).bind fun p=>(jW p.2 p.1).map fun b=>(b,p.2)
theorem Ls (h:QE X e m)(he:vV e=true):QT X e (eS m):=⟨rA (G0 h.h (Kw he)) (by
 rintro σ H Q ⟨π,ρ,μ,b,μ',R,E,hm,k⟩
 obtain ⟨⟨x,μ1⟩,h1,hm⟩:=Tj.mp hm
 obtain ⟨b',h2,hm⟩:=Tq.mp hm
 cases hm
 exact ⟨π,ρ,μ,x,_,R,E,h1,fun π1 v1 H1 e1 R1 i1=>⟨_,Lr R1 i1 h2,k π1 H1 e1 R1⟩⟩)⟩
theorem Lu {k:Nat}{f:Addr}{fd:Vt}{ps:List Str}{fm:MF}{x:Str}{p:Vk}(F:FnOk X.prog X.w X.K X.mg X.base dY k f fd ps (gM X.K 0 fm))(hr:Room k X.A)(hm:X.mg x=some (.ref f))
  (hk:UO X.K (.ref f)=true)(hb:Binds X.K fd ps [])(hg:Gl X x)(hdb:(x == ("__debug__":Str))=false):QE X (.Call (.Name x p) [] [] pos) (aK fm aD):=
 ⟨cK (Hh F hr hg hm hk hb .nil (E:=E0) A4 hdb) (by
  rintro σ H Q ⟨π,ρ,μ,d,μ',R,E,hm,k⟩
  obtain ⟨⟨xs,μ1⟩,h1,hm⟩:=Tj.mp hm
  cases h1
  exact ⟨rfl,π,[],μ,d,μ',R,.nil,hm,k⟩)⟩
noncomputable def lK (c:MT)(b:MS):Nat->MS
 | 0,_,_=>none
 | n+1,ρ,μ=>(c ρ μ).bind fun p=>match p.1 with
  | false=>some (.nx,ρ,p.2)
  | true=>(b ρ p.2).bind fun q=>match q.1 with
   | .nx=>lK c b n q.2.1 q.2.2
   | .ct=>lK c b n q.2.1 q.2.2
   | .bk=>some (.nx,q.2.1,q.2.2)
   | .rt d=>some (.rt d,q.2.1,q.2.2)
noncomputable def m3 (n:Nat)(c:MT)(b:MS):MS:=lK c b n
theorem Lv {body:List Stmt}{mb:MS}(n:Nat)(hc:QT X c mt)(hb:QB X body mb)(hp:ZN (T7 X.prog X.w) X.A X.env X.xe):QS X (.While c body [] pos) (m3 n mt mb):=⟨gN (Gy hp hc.h hb.h) (by
 rintro E σ H ⟨π,ρ,μ,fl,ρ',μ',R,EN,hm,k⟩
 have lift:∀ {π2:Nat->Addr}{n2:Nat}{H2:Hp}(e:Ext π μ.length H π2 n2 H2),kX X.K E π2 n2 H2 fl ρ' μ':=fun {π2 n2 H2} e=>by
  cases fl with
  | nx=>exact fun π3 σ3 H3 e3 R3 E3=>k π3 σ3 H3 (e.trans e3) R3 E3
  | bk=>exact fun π3 σ3 H3 e3 R3 E3=>k π3 σ3 H3 (e.trans e3) R3 E3
  | ct=>exact fun π3 σ3 H3 e3 R3 E3=>k π3 σ3 H3 (e.trans e3) R3 E3
  | rt d=>exact KC.after k e
 refine ⟨fun m σ' H'=>∃ π2 μ2 ρ2,Ext π μ.length H π2 μ2.length H'/\Rp X.K π2 H' μ2/\En X.K π2 μ2.length H' σ' ρ2/\lK mt mb m ρ2 μ2=some (fl,ρ',μ'),⟨n,π,μ,ρ,.refl,R,EN,hm⟩,?_⟩
 rintro m σ1 H1 ⟨π2,μ2,ρ2,e2,R2,E2,h2⟩
 cases m with
 | zero=>cases h2
 | succ m=>
  obtain ⟨⟨b,μ3⟩,h3,h4⟩:=Tj.mp h2
  refine ⟨π2,ρ2,μ2,b,μ3,R2,E2,h3,fun π3 H3 e3 R3=>?_⟩
  cases b with
  | false=>
   refine jO ?_
   cases h4
   exact lift e2 π3 σ1 H3 e3 R3 (E2.mono e3)
  | true=>
   refine jP ?_
   obtain ⟨⟨f4,ρ4,μ4⟩,h5,h6⟩:=Tj.mp h4
   refine ⟨fun σ' H'=>∃ π5 ρ5 μ5,Ext π μ.length H π5 μ5.length H'/\Rp X.K π5 H' μ5/\En X.K π5 μ5.length H' σ' ρ5/\lK mt mb m ρ5 μ5=some (fl,ρ',μ'),
    fun σ' H' ⟨π5,ρ5,μ5,a1,a2,a3,a4⟩=>⟨m,Wx _,π5,μ5,ρ5,a1,a2,a3,a4⟩,π3,ρ2,μ3,f4,ρ4,μ4,R3,E2.mono e3,h5,?_⟩
   cases f4 with
   | nx=>exact fun π5 σ5 H5 e5 R5 E5=>⟨π5,ρ4,μ4,(e2.trans e3).trans e5,R5,E5,h6⟩
   | ct=>exact fun π5 σ5 H5 e5 R5 E5=>⟨π5,ρ4,μ4,(e2.trans e3).trans e5,R5,E5,h6⟩
   | bk=>
    cases h6
    exact fun π5 σ5 H5 e5 R5 E5=>lift (e2.trans e3) π5 σ5 H5 e5 R5 E5
   | rt d'=>
    cases h6
    exact lift (e2.trans e3))⟩
theorem Lx:QS X (.Return none pos) (aQ (mC .non)):=⟨gN Gn (by
 rintro E σ H ⟨π,ρ,μ,fl,ρ',μ',R,EN,hm,k⟩
 cases hm
 exact k π .non H .refl R .non)⟩
end
end L3
namespace L3
open PySem L2
noncomputable def i8:List D->Option (List Bool)
 | []=>some []
 | .bl b::r=>(i8 r).map (b::·)
 | _=>none
noncomputable def rW:MF:=fun ds μ=>match ds with
 | [x]=>(bA μ x).bind fun xs=>(i8 xs).map fun bs=>(.bl (bs.all id),μ)
 | _=>none
noncomputable def rX:MF:=fun ds μ=>match ds with
 | [x]=>(bA μ x).bind fun xs=>(i8 xs).map fun bs=>(.bl (bs.any id),μ)
 | _=>none
theorem B5 {K:To}{π:Nat->Addr}{n:Nat}{H:Hp}:∀ {xs:List D}{vs:List V}{bs:List Bool},IsDs K π n H vs xs->i8 xs=some bs->vs=bs.map V.bl
 | [],_,bs,h,e=>by cases h;cases e;rfl
 | x::xs,vs,bs,h,e=>by
  cases h with
  | cons h t=>
   cases x with
   | bl b=>
    obtain ⟨bs',h1,h2⟩:=Tq.mp e
    subst h2
    cases h
    rw [B5 t h1]
    rfl
   | _=>cases e
noncomputable def wF (K:To)(g:List Bool->Bool):List V->Hp->VK->Prop:=fun xs H Q=>∃ p bs,xs=[.ref p]/\(SqL K H p (bs.map V.bl)\/SqT K H p (bs.map V.bl))/\Q (.bl (g bs)) H
theorem B6 {K:To}{g:List Bool->Bool}{f:MF}(hf:f=fun ds μ=>match ds with|[x]=>(bA μ x).bind fun xs=>(i8 xs).map fun bs=>(.bl (g bs),μ)|_=>none):dP K f (wF K g):=by
 subst hf
 intro π H μ xs d μ' vs Q R i hm k
 dsimp only at hm
 split at hm
 ·obtain ⟨ys,h1,hm⟩:=Tj.mp hm
  obtain ⟨bs,h2,hm⟩:=Tq.mp hm
  cases hm
  cases i with
  | cons i t=>
   cases t
   obtain ⟨p,ws,rfl,q,hd⟩:=k9 R i h1
   have:=B5 hd h2
   subst this
   exact ⟨p,bs,rfl,q,k π _ H .refl R (.bl _)⟩
 ·cases hm
theorem B7 {bs:List Bool}{n:Nat}(hn:n=bs.length):(UB n).all (fun i=>bs.getD i false)=bs.all id:=by
 subst hn
 induction bs with
 | nil=>rfl
 | cons b bs ih=>
  rw [Um,X7,UA,Z7,UA,<- ih]
  rfl
theorem B8 {bs:List Bool}{n:Nat}(hn:n=bs.length):(UB n).any (fun i=>bs.getD i false)=bs.any id:=by
 subst hn
 induction bs with
 | nil=>rfl
 | cons b bs ih=>
  rw [Um,X7,VU,YR,VU,<- ih]
  rfl
section
variable {X:Cx}
theorem rY {prog:Ub}{w:Up}{A:Ue}{bs:List Bool}{its:List Value}(r:Vals (bs.map V.bl) its):TruthOf prog w A (fun i v=>its.toArray[i]? = some v) (fun i=>bs.getD i false):=by
 intro i v s Q E hP hQ
 have hP':its[i]? = some v:=by simpa using hP
 have hi:i<bs.length:=by
  have:=(Tw.mp hP').1
  have:=r.length
  rw [Tt] at this
  omega
 obtain ⟨u,h1,h2⟩:=r.get (i:=i) (x:=.bl bs[i]) (by rw [Uu,T8 hi];rfl)
 rw [hP'] at h1
 cases h1
 cases h2
 have e:bs.getD i false=bs[i]:=by simp [Vb,hi]
 dsimp only at hQ
 rw [e] at hQ
 exact VC hQ
theorem Lz (hc:X.calm=true):CallR X (.builtin "all") (wF X.K (·.all id)):=by
 intro a3G s σ H xs us Q I r h
 obtain ⟨p,bs,rfl,hq,q⟩:=h
 obtain ⟨u,rfl,ru⟩:=eG r
 cases ru
 have hh:X.A.in1.handled=none:=I.ok.hd hc
 rcases hq with hq|hq
 ·obtain ⟨its,rv,pl,hz⟩:=I.list hq
  refine call_all_walk (Wu pl.isList ?_)
  have hne:p≠s.heap.objs.size:=by
   obtain ⟨o,ho,_⟩:=pl.isList
   exact TV (TB ho)
  refine ⟨s.heap.objs.size,_,_,_,_,_,fun i=>bs.getD i false,rfl,a0E hh _ p hne its.toArray,⟨⟨_,TZ _ rfl,rfl,rfl⟩,pl.isList.push _⟩,rY rv,fun h' tk kp=>?_⟩
  have hlen:its.toArray.size=bs.length:=by rw [TU,<- rv.length,Tt]
  refine ⟨.bl _,H,I.kept (t':=tk) fun b o e=>kp b o ?_ (Tu _ e),rfl,?_⟩
  ·intro hb
   have:b=s.heap.objs.size:=by simpa using hb
   exact TV (TB e) this
  ·rw [B7 hlen]
   exact q
 ·obtain ⟨its,rv,pl,hz⟩:=I.tuple hq
  refine call_all_walk (WT (show s.heap.IsTuple p its.toArray from pl) ?_)
  have hne:p≠s.heap.objs.size:=by
   obtain ⟨o,ho,_⟩:=pl
   exact TV (TB ho)
  refine ⟨s.heap.objs.size,_,_,_,_,_,fun i=>bs.getD i false,rfl,a0j hh _ p hne its.toArray,⟨⟨_,TZ _ rfl,rfl,rfl⟩,W2 pl _⟩,rY rv,fun h' tk kp=>?_⟩
  have hlen:its.toArray.size=bs.length:=by rw [TU,<- rv.length,Tt]
  refine ⟨.bl _,H,I.kept (t':=tk) fun b o e=>kp b o ?_ (Tu _ e),rfl,?_⟩
  ·intro hb
   have:b=s.heap.objs.size:=by simpa using hb
   exact TV (TB e) this
  ·rw [B7 hlen]
   exact q
theorem LA (hc:X.calm=true):CallR X (.builtin "any") (wF X.K (·.any id)):=by
 intro a3G s σ H xs us Q I r h
 obtain ⟨p,bs,rfl,hq,q⟩:=h
 obtain ⟨u,rfl,ru⟩:=eG r
 cases ru
 have hh:X.A.in1.handled=none:=I.ok.hd hc
 rcases hq with hq|hq
 ·obtain ⟨its,rv,pl,hz⟩:=I.list hq
  refine call_any_walk (Wu pl.isList ?_)
  have hne:p≠s.heap.objs.size:=by
   obtain ⟨o,ho,_⟩:=pl.isList
   exact TV (TB ho)
  refine ⟨s.heap.objs.size,_,_,_,_,_,fun i=>bs.getD i false,rfl,a0E hh _ p hne its.toArray,⟨⟨_,TZ _ rfl,rfl,rfl⟩,pl.isList.push _⟩,rY rv,fun h' tk kp=>?_⟩
  have hlen:its.toArray.size=bs.length:=by rw [TU,<- rv.length,Tt]
  refine ⟨.bl _,H,I.kept (t':=tk) fun b o e=>kp b o ?_ (Tu _ e),rfl,?_⟩
  ·intro hb
   have:b=s.heap.objs.size:=by simpa using hb
   exact TV (TB e) this
  ·rw [B8 hlen]
   exact q
 ·obtain ⟨its,rv,pl,hz⟩:=I.tuple hq
  refine call_any_walk (WT (show s.heap.IsTuple p its.toArray from pl) ?_)
  have hne:p≠s.heap.objs.size:=by
   obtain ⟨o,ho,_⟩:=pl
   exact TV (TB ho)
  refine ⟨s.heap.objs.size,_,_,_,_,_,fun i=>bs.getD i false,rfl,a0j hh _ p hne its.toArray,⟨⟨_,TZ _ rfl,rfl,rfl⟩,W2 pl _⟩,rY rv,fun h' tk kp=>?_⟩
  have hlen:its.toArray.size=bs.length:=by rw [TU,<- rv.length,Tt]
  refine ⟨.bl _,H,I.kept (t':=tk) fun b o e=>kp b o ?_ (Tu _ e),rfl,?_⟩
  ·intro hb
   have:b=s.heap.objs.size:=by simpa using hb
   exact TV (TB e) this
  ·rw [B8 hlen]
   exact q
end
end L3
namespace L3
open PySem L2
open PyProof.Rows (IntsAre)
open PySem.W (KasT kas_asc kas_desc kas_tail3 kas_descPart kas_count kas_place kas_bin kas_sort kas_rev kas_ask)
noncomputable def pE {α:Type}(ans:Nat->Nat->Bool):KasT α->α
 | .ret a=>a
 | .ask i j k=>pE ans (k (ans i j))
noncomputable def InR {α:Type}(n:Nat)(R:α->Prop):KasT α->Prop
 | .ret a=>R a
 | .ask i j k=>i<n/\j<n/\∀ b,InR n R (k b)
theorem InR.bind {α β:Type}{n:Nat}{R:α->Prop}{R':β->Prop}{f:α->KasT β}(hf:∀ a,R a->InR n R' (f a)):∀ {t:KasT α},InR n R t->InR n R' (t.bind f)
 | .ret a,q=>hf a q
 | .ask i j k,q=>⟨q.1,q.2.1,fun b=>InR.bind hf (q.2.2 b)⟩
theorem wG {α:Type}{n:Nat}{R:α->Prop}{ans:Nat->Nat->Bool}{cmp:Nat->Nat->(Bool->Tv->Prop)->Tv->Prop}{s:Tv}(hc:∀ i j (C:Bool->Tv->Prop),i<n->j<n->C (ans i j) s->cmp i j C s){Q:α->Tv->Prop} :
  ∀ {t:KasT α},InR n R t->Q (pE ans t) s->t.kasWp cmp Q s
 | .ret a,_,q=>q
 | .ask i j k,h,q=>hc i j _ h.1 h.2.1 (wG hc (h.2.2 _) q)
theorem B9 {α:Type}{n:Nat}{R:α->Prop}{ans:Nat->Nat->Bool}:∀ {t:KasT α},InR n R t->R (pE ans t)
 | .ret a,q=>q
 | .ask i j k,h=>B9 (t:=k (ans i j)) (h.2.2 _)
section
variable {n:Nat}
noncomputable def IxOk (n:Nat)(p:Array Nat):Prop:=p.Perm (UB n).toArray
theorem IxOk.lt {p:Array Nat}(h:IxOk n p)(h0:0<n)(i:Nat):p.getD i 0<n:=by
 by_cases hi:i<p.size
 ·have e:p.getD i 0=p[i]:=by simp [WI,hi]
  rw [e]
  have hm:p[i]∈p:=Array.getElem_mem hi
  have hm2:p[i]∈(UB n).toArray:=h.mem_iff.mp hm
  simpa using hm2
 ·have e:p.getD i 0=0:=by simp [WI,hi]
  rw [e];exact h0
theorem IxOk.rev {p:Array Nat}(h:IxOk n p)(i j:Nat):IxOk n (a1f p i j):=(a3c _ _ _ _).trans h
theorem IxOk.bub {p:Array Nat}(h:IxOk n p)(i j:Nat):IxOk n (a3i p i j):=(a3h _ _ _).trans h
theorem wH {p:Array Nat}(h:IxOk n p)(h0:0<n):∀ (f m:Nat),InR n (fun _=>True) (kas_asc p f m)
 | 0,m=>trivial
 | f+1,m=>⟨h.lt h0 _,h.lt h0 _,fun b=>by
   cases b with
   | true=>exact trivial
   | false=>exact wH h h0 f (m+1)⟩
theorem rZ (h0:0<n):∀ (f:Nat)(p:Array Nat)(m q:Nat),IxOk n p->InR n (fun r=>IxOk n r.1) (a3z f p m q)
 | 0,p,m,q,h=>h
 | f+1,p,m,q,h=>⟨h.lt h0 _,h.lt h0 _,fun b=>by
   cases b with
   | true=>
    show InR n _ (if q>0 then a3z f (a1f p (m - (q+1)) m) (m+1) 0 else a3z f p (m+1) 0)
    split
    ·exact rZ h0 f _ _ _ (h.rev _ _)
    ·exact rZ h0 f _ _ _ h
   | false=>
    refine ⟨h.lt h0 _,h.lt h0 _,fun d=>?_⟩
    cases d with
    | true=>exact h
    | false=>exact rZ h0 f _ _ _ h⟩
theorem Cb (h0:0<n){p:Array Nat}(h:IxOk n p)(a r:Nat):InR n (fun r=>IxOk n r.2) (a0P a r p):=
 by
 have h':IxOk n (a1f p 0 a):=h.rev 0 a
 unfold a0P
 refine InR.bind (R:=fun _=>True) (fun m _=>?_) (wH h' h0 _ _)
 exact h'
theorem Cd (h0:0<n){p:Array Nat}(h:IxOk n p)(a r:Nat):InR n (fun r=>IxOk n r.2) (a1g a r p):=
 InR.bind (fun q hq=>by
  show InR n _ (if q.2.2>0 then a0P q.2.1 r (a1f q.1 (q.2.1 - (q.2.2+1)) q.2.1) else a0P q.2.1 r q.1)
  split
  ·exact Cb h0 (hq.rev _ _) _ _
  ·exact Cb h0 hq _ _) (rZ h0 _ _ _ _ h)
theorem LB (h0:0<n){p:Array Nat}(h:IxOk n p)(r:Nat):InR n (fun r=>IxOk n r.2) (kas_count r p):=
 InR.bind (fun m _=>by
  show InR n _ (if (m == r)=true then a0A (m,p) else if m>1 then KasT.ask (p.getD 0 0) (p.getD (m - 1) 0) (fun c=>if c=true then a0A (m,p) else a1g m r (a1f p 0 m)) else a1g m r p)
  split
  ·exact h
  ·split
   ·refine ⟨h.lt h0 _,h.lt h0 _,fun b=>?_⟩
    cases b with
    | true=>exact h
    | false=>exact Cd h0 (h.rev _ _) _ _
   ·exact Cd h0 h _ _) (wH h h0 _ _)
theorem wI {p:Array Nat}(h:IxOk n p)(h0:0<n)(k:Nat):∀ (f l r:Nat),InR n (fun _=>True) (a2z p k f l r)
 | 0,l,r=>trivial
 | f+1,l,r=>by
  show InR n _ (if l >= r then a0A l else KasT.ask (p.getD k 0) (p.getD ((l+r) / 2) 0) fun c=>if c=true then a2z p k f l ((l+r) / 2) else a2z p k f ((l+r) / 2+1) r)
  split
  ·exact trivial
  ·refine ⟨h.lt h0 _,h.lt h0 _,fun b=>?_⟩
   cases b with
   | true=>exact wI h h0 k f _ _
   | false=>exact wI h h0 k f _ _
theorem Ce (h0:0<n):∀ (f:Nat)(p:Array Nat)(k:Nat),IxOk n p->InR n (IxOk n) (kas_bin f p k)
 | 0,p,k,h=>h
 | f+1,p,k,h=>InR.bind (fun l _=>Ce h0 f _ _ (h.bub _ _)) (wI h h0 k _ _ _)
theorem wJ (h0:0<n):InR n (IxOk n) (a3y n):=
 InR.bind (fun r hr=>by
  show InR n _ (if r.1<n then kas_bin (n - max r.1 1) r.2 (max r.1 1) else a0A r.2)
  split
  ·exact Ce h0 _ _ _ hr
  ·exact hr) (LB h0 (Array.Perm.refl _) n)
end
noncomputable def cF (lt:Nat->Nat->Bool)(n:Nat):List Nat:=(pE lt (a3y n)).toList
theorem m4 (lt:Nat->Nat->Bool){n:Nat}(h0:0<n):(cF lt n).Perm (UB n):=by
 have h:IxOk n (pE lt (a3y n)):=B9 (wJ h0)
 have:=Array.perm_iff_toList_perm.mp h
 simpa [cF] using this
section
variable {X:Cx}{a3G:List (Addr×Obj)}{σ:St}{H:Hp}{s:Tv}
theorem wK {P:Ub}{w:Up}{H:Hp}{h:UE}{a:Addr}{o:HO}(x:ObjOk P w H h a o):∃ ob,h.get? a=some ob:=by
 cases o with
 | lst xs=>obtain ⟨_,_,_,_,e⟩:=x;exact ⟨_,e⟩
 | tup xs=>obtain ⟨_,_,_,ob,e,_⟩:=x;exact ⟨_,e⟩
 | dK kvs=>obtain ⟨_,_,_,_,o,_,_,e,_⟩:=x;exact ⟨_,e⟩
 | dT kvs=>obtain ⟨_,_,_,_,o,_,_,e,_⟩:=x;exact ⟨_,e⟩
 | set S n=>obtain ⟨o,_,_,_,e,_⟩:=x;exact ⟨_,e⟩
 | ins C dx fs=>obtain ⟨_,_,_,e,_⟩:=x;exact ⟨_,e⟩
 | own y=>exact x
 | xd fs=>obtain ⟨_,⟨_,_,_,e,_⟩,_⟩:=x;exact ⟨_,e⟩
 | rng lo hi=>obtain ⟨_,_,_,e⟩:=x;exact ⟨_,e⟩
 | frz ob u=>exact ⟨_,x.1⟩
 | tbl ps=>exact ⟨_,x⟩
 | met f y=>exact ⟨_,x⟩
 | ext φ=>exact x.2.1
theorem LC {h':UE}{D:Addr}{o:HO}{t':Nat}{m:Str->Option Value}(I:Inv X a3G σ H s)(hm:s.heap.Ns X.env.locals m)(keep:∀ b ob,b≠X.env.locals->s.heap.get? b=some ob->h'.get? b=some ob)(hL:h'.Ns X.env.locals m)
  (hD:s.heap.get? D=none)(new:ObjOk X.prog X.w (aH H D o) h' D o):Inv X a3G σ (aH H D o) { s with heap:=h',toks:=t' }:=by
 have hn:H D=none:=by
  cases q:H D with
  | none=>rfl
  | some u=>
   obtain ⟨ob,e⟩:=wK (I.hok D u q)
   rw [hD] at e;cases e
 have neL:∀ b u,H b=some u->b≠X.env.locals:=fun b u e z=>by rw [z,I.free] at e;cases e
 refine I.step (g':=s.gens) (d':=s.drawn) (ch:=[]) (fun _ z=>nomatch z) (fun b ob hb _ _ e _=>keep b ob hb e) (fun b ob hb _ _ e _=>⟨ob.slots,keep b ob hb e⟩) (fun b ob _ e n=>?_) (fun b ob _ e=>?_)
  (fun b xs e=>by rw [aW (d9 e hn)];exact e) (fun b ob u e=>by rw [aW (d9 e hn)];exact e) (fun b ps e=>⟨#[],by rw [aW (d9 e hn),e];simp⟩) (fun m' hm'=>?_) (fun b u e=>?_) I.bare
 ·have:b≠D:=fun z=>by rw [z,hD] at e;cases e
  rw [aW this];exact n
 ·by_cases hb:b=X.env.locals
  ·obtain ⟨ob',_,_,e',_⟩:=hL
   exact ⟨ob',by rw [hb];exact e'⟩
  ·exact ⟨ob,keep b ob hb e⟩
 ·rw [hm'.eq_nsMap,<- hm.eq_nsMap]
  exact hL
 ·by_cases hb:b=D
  ·subst hb
   rw [bU] at e
   cases e
   exact new
  ·rw [aW hb] at e
   refine (I.hok b u e).stay (fun c v hc q=>keep c v ?_ q) (fun c q=>by rw [aW (d9 q hn)];exact q) fun c xs q=>by rw [aW (d9 q hn)];exact q
   rcases hc with rfl|hc
   ·exact neL _ _ e
   ·exact neL _ _ hc
end
theorem Cf {prog:Ub}{w:Up}{A:Ue}{s:Tv}{Q:Bool->Tv->Prop}:∀ {us vs:List Value}{ns ms:List Int}(i:Nat),Wh us ns->Wh vs ms->Q (HT.lexLt ns ms) s->
  PySem.W.KatLex prog w A true (decide (us.length<vs.length)) Q (us.zip vs) i s
 | _,_,_,_,i,.nil,.nil,h=>by exact h
 | _,_,_,_,i,.nil,.cons c u hv,h=>by
  show Q (decide (0<_+1)) s
  rw [decide_eq_true (YZ _)]
  exact h
 | _,_,_,_,i,.cons a t hu,.nil,h=>by
  show Q (decide (_+1<0)) s
  rw [decide_eq_false (Xv _)]
  exact h
 | _,_,_,_,i,.cons (vs:=us) (ns:=ns) a t hu,.cons (vs:=vs) (ns:=ms) c u hv,h=>by
  rw [HT.lexLt_cons] at h
  refine PySem.W.kat_cons (ZU a t c u prog w _ _ ?_)
  by_cases e:a=c
  ·subst e
   rw [if_pos rfl] at h
   rw [beq_self_eq_true]
   refine PySem.W.kat_yes ?_
   have:=Cf (prog:=prog) (w:=w) (A:=A) (s:=s) (Q:=Q) (i+1) hu hv h
   have e2:decide ((TX a t::us).length<(TX a u::vs).length)=decide (us.length<vs.length):=by simp
   rw [e2]
   exact this
  ·rw [if_neg e] at h
   have e':(a == c)=false:=by simpa using e
   rw [e']
   refine PySem.W.kat_no ?_
   cases hi:(true&&i == 0) with
   | true=>exact a3a h
   | false=>exact PySem.W.kat_one _ _ (Zt h)
noncomputable abbrev TupsV (K:To)(H:Hp):List V->List (List Int)->Prop:=Xb fun v t=>∃ a,v=V.ref a/\SqT K H a (t.map V.int)
theorem TupsV.get {K:To}{H:Hp}:∀ {vs:List V}{ts:List (List Int)}{i:Nat},TupsV K H vs ts->i<vs.length->∃ a,vs[i]? = some (V.ref a)/\SqT K H a ((ts.getD i []).map V.int)
 | _,_,_,.nil,h=>by simp at h
 | _,_,0,.cons ⟨a,e,q⟩ _,_=>⟨a,by rw [e];rfl,q⟩
 | _,_,i+1,.cons _ t,h=>by
  obtain ⟨a,e,q⟩:=TupsV.get (i:=i) t (by simpa using h)
  exact ⟨a,by simpa using e,q⟩
section
open PyProof.Rows
variable {prog:Ub}{w:Up}{A:Ue}{E:Value->Tv->Prop}{s:Tv}
theorem Cg {c:Addr}{us:List Value}{z:Nat}{R:Fin->Tv->Prop}(hu:us.length<2)(g:s.heap.get? c=some (Vs "list" us.toArray z)) (q:R (.done (.ret .none)) { s with heap:=a0d s.heap c us us.toArray }) :
  TY (T7 prog w) A (Builtin.«list.sort» ⟨[.ref c],[]⟩) R E s:=by
 rw [a2T]
 have lt:c<s.heap.objs.size:=TB g
 refine Tp (listItems_at g rfl (Tp (Y6 g rfl ?_)))
 obtain ⟨y,g1⟩:∃ y,(s.heap.update c (Ve fun _=>#[])).get? c=some (Vs "list" #[] y):=⟨_,a2V g _⟩
 refine Tp (ZT g1 rfl (Tp (a0a (Tp (Y4 (UQ ?_))))))
 have g6:(((s.heap.update c (Ve fun _=>#[])).push (Vs "tuple" us.toArray 0)).push (Vs "list" #[] 0)).get? c=some (Vs "list" #[] y):=
  Tu _ (Tu _ g1)
 show TY (T7 prog w) A _ R E ⟨((s.heap.update c (Ve fun _=>#[])).push (Vs "tuple" us.toArray 0)).push (Vs "list" #[] 0),s.gens,s.drawn,s.toks,s.os⟩
 dsimp only
 have few:us.toArray.size<2:=by simpa using hu
 rw [if_pos few,if_pos few]
 refine Tp (TF ?_)
 rw [StateT.run_pure]
 refine Tp (TF ?_)
 dsimp only
 have ez:a3q (fun x=>x.2) (arrOf (SortSt.mk' general' (us.toArray.zip us.toArray) #[] 7 none))=us.toArray:=by
  show a3q (fun x=>x.2) (us.toArray.zip us.toArray)=us.toArray
  exact Array.ext (by simp) (fun i h1 h2=>by simp)
 refine Tp (ZT g6 rfl (Tp (Y6 g6 rfl ?_ (hsz2:=by rw [ez,Ud];omega))))
 rw [ez]
 simp only [bne_self_eq_false,TQ,if_false]
 exact TF q
theorem LF {l:Addr}{u:Value}{Q:Value->Tv->Prop}(hl:s.heap.IsList l [u].toArray)(q:Q (.ref (s.heap.objs.size+1)) { s with heap:=sortedAll s.heap [u] [u].toArray }):TY (T7 prog w) A (call (.builtin "sorted") [.ref l]) Q E s:=by
 refine ZF kind_sorted plain_sorted entry_sorted (args_sorted1 _) ?_
 unfold a0t
 refine Tp (m:=checkCount "sorted" 1 1 _) (TF (Tp (collect_list hl (Tp (Y4 ?_)))))
 have z:((s.heap.push (Vs "list" #[] 0)).update s.heap.objs.size (Ve (·++[u].toArray))).objs.size=s.heap.objs.size+1:=by rw [Heap.size_update,size_push']
 have g:(((s.heap.push (Vs "list" #[] 0)).update s.heap.objs.size (Ve (·++[u].toArray))).push (Vs "list" [u].toArray 0)).get? (s.heap.objs.size+1)=some (Vs "list" [u].toArray 0):=z ▸ TZ _ rfl
 show TY _ _ _ _ _ ⟨((s.heap.push (Vs "list" #[] 0)).update s.heap.objs.size (Ve (·++[u].toArray))).push (Vs "list" [u].toArray 0),s.gens,s.drawn,s.toks,s.os⟩
 rw [z]
 refine Tp (UQ (V9 a0e ⟨_,g,rfl⟩ ZZ (Cg (us:=[u]) (by simp) g ⟨_,rfl,?_⟩) (a0i _)))
 exact TF ⟨_,rfl,q⟩
end
theorem Ci (lt:Nat->Nat->Bool):cF lt 1=[0]:=rfl
theorem Cj (lt:Nat->Nat->Bool):cF lt 0=[]:=rfl
theorem wL (lt:Nat->Nat->Bool)(n:Nat):(cF lt n).Perm (UB n):=by
 cases n with
 | zero=>rw [Cj];exact .nil
 | succ n=>exact m4 lt (YZ n)
section
variable {X:Cx}
theorem LG {a3G:List (Addr×Obj)}{s:Tv}{σ:St}{H:Hp}{q:Addr}{v:V}{Q:VK}(I:Inv X a3G σ H s)(hq:SqL X.K H q [v])(k:∀ l,H l=none->Q (.ref l) (aH H l (.lst [v]))) :
  TY (T7 X.prog X.w) X.A (call (.builtin "sorted") [.ref q]) (EP X a3G σ Q) X.xe s:=by
 obtain ⟨its,rv,pl,hz⟩:=I.list hq
 cases rv with
 | cons ru rt=>
  cases rt
  rename_i u
  refine LF (u:=u) pl.isList ?_
  obtain ⟨e,he⟩:=YK s.heap [u] [u].toArray
  refine ⟨.ref (s.heap.objs.size+1),_,I.laid (t':=s.toks) (a:=s.heap.objs.size+1) (o:=.lst [v]) (fun b ob z=>YG z) (Ws _) ?_,rfl,k _ (I.hok.fresh (Ws _))⟩
  exact ⟨by rw [Ud];show 1<=_;decide,[u],e,.cons ru .nil,he⟩
end
noncomputable def wM (K:To):List V->Hp->VK->Prop:=fun xs H Q=>∃ q ws ts,xs=[.ref q]/\SqL K H q ws/\TupsV K H ws ts/\1<=ws.length/\ws.length<64/\(∀ t∈ts,t≠[]) /\
 ∀ l,H l=none->Q (.ref l) (aH H l (.lst ((cF (fun i j=>HT.lexLt (ts.getD i []) (ts.getD j [])) ws.length).map fun i=>ws.getD i .non)))
theorem Ck {ns:List Int}{us:List Value}(h:Vals (ns.map V.int) us):Wh us ns:=AF h
section
variable {X:Cx}
theorem LH:CallR X (.builtin "sorted") (wM X.K):=by
 intro a3G s σ H xs us Q I r h
 obtain ⟨q,ws,ts,rfl,hq,ht,h1,h64,hne,k⟩:=h
 obtain ⟨u,rfl,ru⟩:=eG r
 cases ru
 by_cases h2:ws.length<2
 ·obtain ⟨v,rfl⟩:=List.length_eq_one_iff.mp (by omega:ws.length=1)
  refine LG I hq fun l hl=>?_
  have z:=k l hl
  rw [Yi,Ci] at z
  exact z
 replace h2:2<=ws.length:=a1L h2
 obtain ⟨its,rv,pl,hz⟩:=I.list hq
 obtain ⟨m,F⟩:=I.fr
 have hlen:=rv.length
 refine PySem.W.kat_sorted F (FI (g:=X.base) (h:=s.heap) (L:=X.env.locals)) pl.isList (by omega) (by omega) fun D e1 h' F' N' hD=>?_
 have keep:∀ b ob,b≠X.env.locals->s.heap.get? b=some ob->h'.get? b=some ob:=fun b ob hb e=>by
  cases z:X.base.get? b with
  | some ob'=>
   have:=I.bk b ob' z
   rw [e] at this;cases this
   exact F'.keep b _ z
  | none=>exact (N' (b,ob) (Uo _ (uB hb z e))).1
 have hDn:=N' (D,_) (Uy ..)
 have hDs:s.heap.get? D=none:=by
  cases z:s.heap.get? D with
  | none=>rfl
  | some ob=>exact absurd (hD (D,ob) (uB hDn.2.1 hDn.2.2 z)) (VO _)
 have neL:∀ {a:Addr}{vs:List V},SqT X.K H a vs->a≠X.env.locals:=fun {a vs} hs z=>by
  subst z
  rcases hs with (hs|⟨ob,hs⟩)|⟨ob,_,_,hk,_⟩
  ·rw [I.free] at hs;cases hs
  ·rw [I.free] at hs;cases hs
  ·have h1:X.env.locals<X.base.objs.size:=TB (I.mod.kin _ _ hk)
   exact VO _ (T6 h1 F.above)
  -- the tuples stand there still
 have tupAt:∀ {a:Addr}{t:List Int},SqT X.K H a (t.map V.int)->∃ (ob:Obj)(xs:List Value)(n:Nat),h'.get? a=some ob/\ob.cls=.type "tuple"/\ob.data=.seq xs.toArray n/\Wh xs t:=fun {a t} hs=>by
  obtain ⟨xs,rx,⟨ob,e,c,n,d⟩,_⟩:=I.tuple hs
  exact ⟨ob,xs,n,keep a ob (neL hs) e,c,d,Ck rx⟩
 have tups:∀ {ws:List V}{its:List Value}{ts:List (List Int)},Vals ws its->TupsV X.K H ws ts->(∀ t∈ts,t≠[])->∃ fs:List Value,fs.length=its.length/\PySem.W.KatTups h' its fs/\∀ v∈fs,∃ i t,v=TX i t:=by
  intro ws its ts rv ht
  induction ht generalizing its with
  | nil=>intro _;cases rv;exact ⟨[],rfl,.nil,fun v hv=>nomatch hv⟩
  | @cons v t ws ts hv _ ih=>
   intro hne
   cases rv with
   | cons r1 r2=>
    obtain ⟨a,rfl,hs⟩:=hv
    cases r1
    obtain ⟨fs,h1,h3,h4⟩:=ih r2 fun t ht=>hne t (Uo _ ht)
    obtain ⟨ob,xs,n,e,c,d,hi⟩:=tupAt hs
    cases hi with
    | nil=>exact absurd rfl (hne [] (Uy ..))
    | @cons i tk xs' ns' hi'=>
     refine ⟨TX i tk::fs,by simp [h1],.cons e c d (by simp) h3,fun v hv=>?_⟩
     rcases Ug.mp hv with rfl|hv
     ·exact ⟨i,tk,rfl⟩
     ·exact h4 v hv
 obtain ⟨fs,hf1,hf2,hf3⟩:=tups rv ht hne
 refine PySem.W.kat_kind (T:=.type "int") hf2 (by omega) (fun v hv=>?_) rfl ?_
 ·obtain ⟨i,t,rfl⟩:=hf3 v hv
  exact .now
 have htl:ts.length=ws.length:=ht.length.symm
 refine wG (n:=its.length) (ans:=fun i j=>HT.lexLt (ts.getD i []) (ts.getD j [])) (fun i j C hi hj hC=>?_) (wJ (by omega)) ?_
 ·obtain ⟨a,ea,sa⟩:=ht.get (i:=i) (by omega)
  obtain ⟨b,eb,sb⟩:=ht.get (i:=j) (by omega)
  obtain ⟨ua,ha1,ha2⟩:=rv.get ea
  obtain ⟨ub,hb1,hb2⟩:=rv.get eb
  cases ha2
  cases hb2
  have ga:its.getD i Uw=.ref a:=by simp [Vb,ha1]
  have gb:its.getD j Uw=.ref b:=by simp [Vb,hb1]
  unfold kas_ask
  rw [ga,gb]
  obtain ⟨oa,xa,na,e1,_,d1,i1⟩:=tupAt sa
  obtain ⟨ob,xb,nb,e2,_,d2,i2⟩:=tupAt sb
  refine PySem.W.kat_lt e1 d1 e2 d2 ?_
  have:=Cf (prog:=X.prog) (w:=X.w) (A:=X.A.in1.in1) (s:={ s with heap:=h' }) (Q:=C) 0 i1 i2 hC
  exact this
 ·refine a2t F' N' (.head fun p hp=>TV (hD p hp)) fun h'' c F'' N''=>?_
  have keep2:∀ b ob,b≠X.env.locals->s.heap.get? b=some ob->h''.get? b=some ob:=fun b ob hb e=>by
   cases z:X.base.get? b with
   | some ob'=>
    have:=I.bk b ob' z
    rw [e] at this;cases this
    exact F''.keep b _ z
   | none=>exact (N'' (b,ob) (Uo _ (uB hb z e))).1
  have hnew:=(N'' (D,_) (Uy ..)).1
  rw [<- hlen] at hnew
  have hperm:=m4 (fun i j=>HT.lexLt (ts.getD i []) (ts.getD j [])) (n:=ws.length) (by omega)
  have hvals:Vals ((cF (fun i j=>HT.lexLt (ts.getD i []) (ts.getD j [])) ws.length).map fun i=>ws.getD i .non) ((cF (fun i j=>HT.lexLt (ts.getD i []) (ts.getD j [])) ws.length).map fun i=>its.getD i Uw):=by
   have each:∀ l:List Nat,(∀ i∈l,i<ws.length)->Vals (l.map fun i=>ws.getD i .non) (l.map fun i=>its.getD i Uw):=fun l=>by
    induction l with
    | nil=>intro _;exact .nil
    | cons i l ih=>
     intro hl
     refine .cons ?_ (ih fun j hj=>hl j (Uo _ hj))
     have hi:=hl i (Uy ..)
     obtain ⟨u,g1,g2⟩:=rv.get (T8 hi)
     have e1:ws.getD i .non=ws[i]:=by simp [Vb,hi]
     have e2:its.getD i Uw=u:=by simp [Vb,g1]
     show RelV (ws.getD i .non) (its.getD i Uw)
     rw [e1,e2]
     exact g2
   exact each _ fun i hi=>by simpa using hperm.mem_iff.mp hi
  refine ⟨.ref D,_,LC (s:=s) (o:=.lst _) (t':=s.toks) I F.ns keep2 F''.ns hDs ⟨?_,_,_,hvals,hnew⟩,rfl,k D ?_⟩
  ·rw [Tt,hperm.length_eq,YN]
   exact hz
  ·cases z:H D with
   | none=>rfl
   | some u=>
    obtain ⟨ob,e⟩:=wK (I.hok D u z)
    rw [hDs] at e;cases e
end
end L3
namespace L3
open PySem L2 PySem.Spec PyProof.Rows
structure XRec (h:UE)(e:Addr)(cls:Value)(dc:Option Addr)(T:Option (Addr×Value)):Prop where
 ob:∃ o vs,h.get? e=some o/\o.cls=cls/\o.dict=dc/\o.data=.fields vs/\vs[1]? = some (match T with|none=>Uw|some p=>.ref p.1)
 tb:∀ p,T=some p->p.1≠e/\∃ oT ts,h.get? p.1=some oT/\oT.data=.fields ts/\ts[3]? = some p.2
structure XKept (fs:List Addr)(e:Addr)(T:Option (Addr×Value))(h h':UE):Prop where
 keep:∀ b o,h.get? b=some o->b≠e->(∀ p,T=some p->b≠p.1)->b∉fs->h'.get? b=some o
 slot:∀ b o,h.get? b=some o->b≠e->(∀ p,T=some p->b≠p.1)->∃ sl,h'.get? b=some { o with slots:=sl }
theorem Cm (o:Obj) (f):(o.mapFields f).dict=o.dict:=by
 cases o with
 | mk c d dt sl=>cases dt<;>rfl
section
variable {M:Zw}{A:Ue}{E:Value->Tv->Prop}{s:Tv}{base:UE}{env:X2}{outer:List X2}{L e:Addr}{cls:Value}{dc:Option Addr}
theorem XRec.noFrame {h:UE}{T:Option (Addr×Value)}{l:List X2}(x:XRec h e cls dc T)(hl:h.FunFrames base l):e∉cY l/\∀ p,T=some p->p.1∉cY l:=by
 obtain ⟨o,vs,h1,_,_,h4,_⟩:=x.ob
 refine ⟨fun hm=>?_,fun p hp hm=>?_⟩
 ·obtain ⟨_,o',h5,h6⟩:=hl.mem hm
  rw [h1] at h5;cases h5
  exact h6 vs h4
 ·obtain ⟨_,oT,ts,g1,g2,_⟩:=x.tb p hp
  obtain ⟨_,o',h5,h6⟩:=hl.mem hm
  rw [g1] at h5;cases h5
  exact h6 ts g2
theorem Cn {T:Option (Addr×Value)}{hd:Value}{nx:Bool}{Q:Unit->Tv->Prop}(hfr:A.frames=some (env::outer))(hl:s.heap.FunFrames base (env::outer))(hf:env.frame=some L)(x:XRec s.heap e cls dc T)
  (k:∀ h' T',XRec h' e cls dc (some (T',VW L))->s.heap.objs.size<=T'->XKept (cY (env::outer)) e T s.heap h'->Q () { s with heap:=h' }) :
  TY M A (do a0f (.ref e) 1 (<- ZR hd (<- frameOf env) .none (VW L) .none (<- entryPlaceOf L nx))) Q E s:=by
 obtain ⟨o,vs,g1,g2,g3,g4,g5⟩:=x.ob
 have hz:1<vs.size:=(VA.mp g5).1
 have ne:=(x.noFrame hl).1
 refine Tp (wpAny_frameOf_fun hfr hl hf fun h1 z1=>?_)
 refine Tp (wpAny_entryPlaceOf fun pl hp=>?_)
 unfold ZR newFields
 refine Tp (Vp ?_ (hp.sizeOk5 _ _ _ _ _))
 have e1:h1.get? e=some o:=(z1.2.1 e ne).trans g1
 generalize hob:({ cls:=.type "traceback",dict:=none,data:=.fields ([hd,.ref L,.none,VW L,.none]++(if pl.isEmpty then Uh 6 Uw else pl)).toArray }:Obj)=tb
 have e2:(h1.push tb).get? e=some o:=Tu _ e1
 refine WB e2 g4 hz (k _ h1.objs.size ?_ ?_ ?_)
 ·have nT:h1.objs.size≠e:=Vq (TB e1)
  have d3:=Wa g4 (·.setIfInBounds 1 (TM h1.objs.size))
  refine ⟨⟨_,_,U6 _ e2 (Wf d3),by rw [YY];exact g2,?_,d3,by simp [hz]⟩,fun p hp'=>?_⟩
  ·rw [<- g3,Cm]
  ·cases hp'
   refine ⟨nT,tb,_,?_,by rw [<- hob],?_⟩
   ·rw [UL _ _ (Va nT)]
    exact TZ _ (by rw [<- hob];rfl)
   ·first|(simp;done)|(rcases hp with rfl|⟨_,_,_,_,_,_,_,rfl⟩<;>simp)
 ·rw [z1.1]
  exact TK _
 ·refine ⟨fun b ob hb h2 _ h3=>?_,fun b ob hb h2 _=>?_⟩
  ·rw [UL _ _ (Va h2)]
   exact Tu _ ((z1.2.1 b h3).trans hb)
  ·obtain ⟨sl,hs⟩:=z1.2.2 b ob hb
   refine ⟨sl,?_⟩
   rw [UL _ _ (Va h2)]
   exact Tu _ hs
theorem Co {T:Option (Addr×Value)}{Q:Unit->Tv->Prop}(hT:∀ p,T=some p->p.2=.none)(hfr:A.frames=some (env::outer))(hl:s.heap.FunFrames base (env::outer))(hf:env.frame=some L)(x:XRec s.heap e cls dc T)
  (k:∀ h' T',XRec h' e cls dc (some (T',VW L))->s.heap.objs.size<=T'->XKept (cY (env::outer)) e T s.heap h'->Q () { s with heap:=h' }):TY M A (ZJ (.ref e) env) Q E s:=by
 obtain ⟨o,vs,g1,g2,g3,g4,g5⟩:=x.ob
 unfold ZJ
 simp only [hf]
 refine Tp (V0 g1 g4 g5 ?_)
 cases T with
 | none=>
  rw [if_neg (by decide)]
  exact Cn hfr hl hf x k
 | some p=>
  obtain ⟨t1,oT,ts,t2,t3,t4⟩:=x.tb p rfl
  rw [if_pos (show (TM p.1 != Uw)=true by simp)]
  refine Tp (V0 t2 t3 t4 ?_)
  rw [hT p rfl,if_neg (show ¬ (Uw == VW L)=true by simp [VW])]
  refine Tp (WB t2 t3 (VA.mp t4).1 ?_)
  have same:∀ b,b≠p.1->(s.heap.update p.1 (Xe (·.setIfInBounds 3 Uw))).get? b=s.heap.get? b:=fun b hb=>UL _ _ (Va hb)
  have nfr:=(x.noFrame hl).2 p rfl
  refine Cn (T:=some p) hfr (hl.of_keeps fun b ob hb nf=>⟨ob,(same b fun z=>by rw [z,t2] at hb;cases hb;exact nf ts t3).trans hb,rfl⟩) hf ⟨⟨o,vs,(same e (Va t1)).trans g1,g2,g3,g4,g5⟩,fun q hq=>?_⟩ fun h' T' x' hz kp=>k h' T' x' (by simpa using hz) ⟨fun b ob hb h1 h2 h3=>?_,fun b ob hb h1 h2=>?_⟩
  ·cases hq
   have d3:=Wa t3 (·.setIfInBounds 3 Uw)
   exact ⟨t1,_,_,U6 _ t2 (Wf d3),d3,by rw [hT p rfl];simp [(VA.mp t4).1]⟩
  ·exact kp.keep b ob ((same b (h2 p rfl)).trans hb) h1 h2 h3
  ·exact kp.slot b ob ((same b (h2 p rfl)).trans hb) h1 h2
theorem wN {T:Addr}{fl:Value}{Q:Unit->Tv->Prop}(x:XRec s.heap e cls dc (some (T,fl)))(k:∀ h',XRec h' e cls dc (some (T,.none))->h'.objs.size=s.heap.objs.size->(∀ b,b≠T->h'.get? b=s.heap.get? b)->Q () { s with heap:=h' }) :
  TY M A (ZI (.ref e) none) Q E s:=by
 obtain ⟨o,vs,g1,g2,g3,g4,g5⟩:=x.ob
 obtain ⟨t1,oT,ts,t2,t3,t4⟩:=x.tb _ rfl
 unfold ZI
 refine Tp (V0 g1 g4 g5 ?_)
 rw [if_pos (show (TM T != Uw)=true by simp)]
 have same:∀ b,b≠T->(s.heap.update T (Xe (·.setIfInBounds 3 Uw))).get? b=s.heap.get? b:=fun b hb=>UL _ _ (Va hb)
 have d3:=Wa t3 (·.setIfInBounds 3 Uw)
 refine WB t2 t3 (VA.mp t4).1 (k _ ⟨⟨o,vs,(same e (Va t1)).trans g1,g2,g3,g4,g5⟩,fun p hp=>?_⟩ (by simp) same)
 cases hp
 exact ⟨t1,_,_,U6 _ t2 (Wf d3),d3,by simp [(VA.mp t4).1]⟩
theorem LJ {T:Option (Addr×Value)}{Q:Unit->Tv->Prop}(hT:∀ p,T=some p->p.2=.none)(hfr:A.frames=some (env::outer))(hl:s.heap.FunFrames base (env::outer))(hf:env.frame=some L)(x:XRec s.heap e cls dc T)
  (k:∀ h' T',XRec h' e cls dc (some (T',.none))->s.heap.objs.size<=T'->XKept (cY (env::outer)) e T s.heap h'->Q () { s with heap:=h' }):TY M A (a2n env (.ref e)) Q E s:=by
 unfold a2n
 refine Tp (Co hT hfr hl hf x fun h1 T1 x1 z1 k1=>?_)
 refine wN (s:={ s with heap:=h1 }) x1 fun h2 x2 _ k2=>k h2 T1 x2 z1 ⟨fun b o hb n1 n2 n3=>?_,fun b o hb n1 n2=>?_⟩
 ·rw [k2 b (TV (T6 (TB hb) z1))]
  exact k1.keep b o hb n1 n2 n3
 ·obtain ⟨sl,h3⟩:=k1.slot b o hb n1 n2
  refine ⟨sl,?_⟩
  rw [k2 b (TV (T6 (TB hb) z1))]
  exact h3
end
end L3
namespace L3
open PySem L2 PySem.Spec PyProof.Rows
structure Ex (X:Cx)(a3G:List (Addr×Obj))(H:Hp)(s:Tv)(e:Addr)(cls:Value)(dc:Option Addr)(T:Option (Addr×Value)):Prop where
 rc:XRec s.heap e cls dc T
 hT:∀ p,T=some p->p.2=.none
 lo:X.s₀.heap.get? e=none/\∀ p,T=some p->X.s₀.heap.get? p.1=none
 fr:H e=none/\∀ p,T=some p->H p.1=none
 pn:∀ q∈X.pn++a3G,q.1≠e/\∀ p,T=some p->q.1≠p.1
noncomputable def gW (P:Ub)(w:Up):fG:=fun outer H s E e s'=>∃ ea H' cls dc T,e=.ref ea/\s'.os=s.os/\X9 s'.gens/\Un (cY outer) [] H H' s.heap s'.heap/\HOk P w H' s'.heap /\
 XRec s'.heap ea cls dc (some (T,.none))/\s.heap.get? ea=none/\s.heap.get? T=none/\H' ea=none/\H' T=none/\E cls dc H'
section
variable {X:Cx}{a3G:List (Addr×Obj)}{σ:L2.St}{H H':Hp}{s s':Tv}{e:Addr}{cls:Value}{dc:Option Addr}{T:Option (Addr×Value)}
theorem XKept.hok {P:Ub}{w:Up}{h h':UE}{fs:List Addr}(k:XKept fs e T h h')(ok:HOk P w H h)(he:H e=none)(hT:∀ p,T=some p->H p.1=none)(hf:∀ b∈fs,H b=none):HOk P w H h':=fun b u q=>by
 have ne:∀ c v,H c=some v->c≠e/\(∀ p,T=some p->c≠p.1)/\c∉fs:=fun c v hc=>
  ⟨(fun z=>by rw [z,he] at hc;cases hc),(fun p hp z=>by rw [z,hT p hp] at hc;cases hc),(fun z=>by rw [hf c z] at hc;cases hc)⟩
 refine (ok b u q).stay (fun c v hc g=>?_) (fun _ g=>g) fun _ _ g=>g
 rcases hc with rfl|hc
 ·obtain ⟨n1,n2,n3⟩:=ne c u q
  exact k.keep c v g n1 n2 n3
 ·obtain ⟨n1,n2,n3⟩:=ne c _ hc
  exact k.keep c v g n1 n2 n3
theorem LK {E:XK}{v:Value}(hex:X.ex=[])(I:Inv X a3G σ H s)(h:gW X.prog X.w X.stack H s E v s'):∃ e H' cls dc T,v=.ref e/\Inv X a3G σ H' s'/\Ex X a3G H' s' e cls dc (some (T,.none))/\E cls dc H':=by
 obtain ⟨e,H',cls,dc,T,rfl,os,bare,un,hok,rc,l1,l2,f1,f2,hE⟩:=h
 have old:∀ a,s.heap.get? a=none->X.s₀.heap.get? a=none:=fun a ha=>by
  cases q:X.s₀.heap.get? a with
  | none=>rfl
  | some o=>
   obtain ⟨o',g⟩:=I.base.there a o q (by rw [hex];simp)
   rw [ha] at g;cases g
 refine ⟨e,H',cls,dc,T,rfl,I.call' (ch:=[]) os un hok bare (fun b z=>absurd z (by simp)),⟨rc,(fun p hp=>by cases hp;rfl),⟨old e l1,(fun p hp=>by cases hp;exact old T l2)⟩,⟨f1,(fun p hp=>by cases hp;exact f2)⟩,fun q hq=>?_⟩,hE⟩
 have hq':=(I.pin q hq).1
 exact ⟨(fun z=>by rw [z,l1] at hq';cases hq'),(fun p hp z=>by cases hp;rw [z,l2] at hq';cases hq')⟩
theorem Cp {ch:List Addr}(I:Inv X a3G σ H s)(hex:X.ex=[])(h1:∀ b∈ch,X.s₀.heap.get? b=none)(h2:∀ b∈ch,∃ o vs,s.heap.get? b=some o/\o.data=.fields vs):Inv { X with ex:=ch } a3G σ H s:=by
 have nin:∀ b o,X.s₀.heap.get? b=some o->b∉ch:=fun b o hb z=>by rw [h1 b z] at hb;cases hb
 have o:=I.ok
 refine ⟨⟨o.mod,o.kind,o.glob,o.blt,o.above,o.inj,o.has,o.cab,o.hd,o.frames,o.stk,fun b hb=>?_,o.bs,o.bsz,fun b ob hb=>nin b ob (o.bs b ob hb).1,fun b hb hf=>?_,o.funs,o.frf⟩,I.os,I.bare,?_,I.loc,I.cell,I.free,I.freeC,I.pin,I.hok,I.len⟩
 ·obtain ⟨ob,vs,g1,g2⟩:=h2 b hb
  refine ⟨fun z=>?_,fun y c hc z=>?_⟩
  ·obtain ⟨m,⟨oL,es,ep,k1,k2,_⟩,_⟩:=I.loc
   have z:b=X.env.locals:=z
   rw [<- z,g1] at k1
   cases k1
   rw [g2] at k2
   cases k2
  ·obtain ⟨v,oc,k1,k2⟩:=I.cell y c hc
   rw [z,g1] at k1
   cases k1
   rw [g2] at k2
   cases k2
 ·obtain ⟨_,ob,k1,_⟩:=o.funs.mem hf
  exact nin b ob k1 hb
 ·have u:=I.base
  rw [hex] at u
  exact u.mono (fun _ z=>z) (by simp)
theorem Cq {ch:List Addr}(I:Inv { X with ex:=ch } a3G σ H s)(hex:X.ex=[])(h1:∀ b∈ch,X.s₀.heap.get? b=none):Inv X a3G σ H s:=by
 have nin:∀ b o,X.s₀.heap.get? b=some o->b∉ch:=fun b o hb z=>by rw [h1 b z] at hb;cases hb
 have o:=I.ok
 have u:=I.base
 refine ⟨⟨o.mod,o.kind,o.glob,o.blt,o.above,o.inj,o.has,o.cab,o.hd,o.frames,o.stk,(by rw [hex];intro b z;cases z),o.bs,o.bsz,(by rw [hex];intro b _ _ z;cases z),(by rw [hex];intro b z;cases z),o.funs,o.frf⟩,I.os,I.bare,?_,I.loc,I.cell,I.free,I.freeC,I.pin,I.hok,I.len⟩
 exact ⟨fun b ob hb n hf _=>u.keep b ob hb n hf (nin b ob hb),fun b ob hb n hf _=>u.slot b ob hb n hf (nin b ob hb),fun b ob hb n _=>u.free b ob hb n (nin b ob hb),fun b ob hb _=>u.there b ob hb (nin b ob hb),u.tups,u.frzs,u.tbls⟩
noncomputable def lL (e:Addr)(T:Option (Addr×Value)):List Addr:=e::(match T with|none=>[]|some p=>[p.1])
theorem mem_ch {b:Addr}:b∈lL e T↔b=e\/∃ p,T=some p/\b=p.1:=by
 unfold lL
 cases T with
 | none=>simp
 | some p=>simp
theorem Ex.kept (hex:X.ex=[])(I:Inv X a3G σ H s)(x:Ex X a3G H s e cls dc T){h':UE}(k:XKept (cY X.stack) e T s.heap h'):Inv X a3G σ H { s with heap:=h' }:=by
 have h1:∀ b∈lL e T,X.s₀.heap.get? b=none:=fun b hb=>by
  rcases mem_ch.mp hb with rfl|⟨p,hp,rfl⟩
  ·exact x.lo.1
  ·exact x.lo.2 p hp
 have h2:∀ b∈lL e T,∃ o vs,s.heap.get? b=some o/\o.data=.fields vs:=fun b hb=>by
  rcases mem_ch.mp hb with rfl|⟨p,hp,rfl⟩
  ·obtain ⟨o,vs,g1,_,_,g4,_⟩:=x.rc.ob
   exact ⟨o,vs,g1,g4⟩
  ·obtain ⟨_,oT,ts,g1,g2,_⟩:=x.rc.tb p hp
   exact ⟨oT,ts,g1,g2⟩
 have ne:∀ b,b∉lL e T->b≠e/\∀ p,T=some p->b≠p.1:=fun b hb=>⟨fun z=>hb (mem_ch.mpr (.inl z)),fun p hp z=>hb (mem_ch.mpr (.inr ⟨p,hp,z⟩))⟩
 have I1:=Cp I hex h1 h2
 have I2:=I1.step (H':=H) (h':=h') (g':=s.gens) (d':=s.drawn) (t':=s.toks) (ch:=lL e T) (fun b hb=>⟨.inl hb,(I1.ok.exf b hb).1,(I1.ok.exf b hb).2,fun q hq=>?_⟩)
  (fun b o n1 n2 n3 g _=>k.keep b o g (ne b n3).1 (ne b n3).2 fun z=>(Ug.mp (I.stkSub b z)).elim n1 n2)
  (fun b o _ _ n3 g _=>k.slot b o g (ne b n3).1 (ne b n3).2) (fun _ _ _ _ n=>n) (fun b o n3 g=>let ⟨_,z⟩:=k.slot b o g (ne b n3).1 (ne b n3).2;⟨_,z⟩)
  (fun _ _ g=>g) (fun _ _ _ g=>g) (fun b ps g=>⟨#[],by rw [g];simp⟩) (fun m hm=>?_) (k.hok I.hok x.fr.1 x.fr.2 I.stkFree) I.bare
 ·exact Cq I2 hex h1
 ·rcases mem_ch.mp hb with rfl|⟨p,hp,rfl⟩
  ·exact (x.pn q hq).1
  ·exact (x.pn q hq).2 p hp
 ·obtain ⟨oL,es,ep,k1,k2⟩:=hm
  have nL:X.env.locals∉lL e T:=fun z=>(I1.ok.exf _ z).1 rfl
  obtain ⟨sl,g⟩:=k.slot _ _ k1 (ne _ nL).1 (ne _ nL).2
  exact ⟨_,es,ep,g,k2⟩
end
theorem LL {P:Ub}{w:Up}{K:To}{mg:Str->Option Value}{base:UE}{N:List Str}{qual:Str}{scope:V5}{f:Addr}{cd:Value}{A:Ue}{outer:List X2}{s₀ s:Tv}{H₀ H:Hp}{E:XK}{a3G:List (Addr×Obj)}{σ:L2.St}{e:Addr}{cls:Value}{dc:Option Addr}{T:Option (Addr×Value)}
  (I:Inv (dH (gW P w) P w K mg base N qual scope f cd A outer s₀ H₀ E) a3G σ H s)(x:Ex (dH (gW P w) P w K mg base N qual scope f cd A outer s₀ H₀ E) a3G H s e cls dc T)(h:E cls dc H) :
  (dH (gW P w) P w K mg base N qual scope f cd A outer s₀ H₀ E).xe (.ref e) s:=by
 have hlo:∀ b o,s₀.heap.get? b=some o->b≠e/\(∀ p,T=some p->b≠p.1)/\b≠s₀.heap.objs.size:=fun b o hb=>
  ⟨(fun z=>by rw [z] at hb;rw [show s₀.heap.get? e=none from x.lo.1] at hb;cases hb),(fun p hp z=>by rw [z] at hb;rw [show s₀.heap.get? p.1=none from x.lo.2 p hp] at hb;cases hb),TV (TB hb)⟩
 have hfr:cY (envOfC qual scope s₀.heap.objs.size f cd::outer)=s₀.heap.objs.size::cY outer:=rfl
 show TY (T7 P w) (A.deeper (envOfC qual scope s₀.heap.objs.size f cd)) (a2n (envOfC qual scope s₀.heap.objs.size f cd) (.ref e)) _ _ s
 refine LJ x.hT I.ok.frames I.stack rfl x.rc fun h' T' x' z' k=>?_
 refine ⟨e,H,cls,dc,T',rfl,I.os,I.bare,⟨fun b o hb n hf _=>?_,fun b o hb n hf _=>?_,fun b o hb n _=>I.base.free b o hb n (by simp [dH]),fun b o hb _=>?_,I.base.tups,I.base.frzs,I.base.tbls⟩,k.hok I.hok x.fr.1 x.fr.2 I.stkFree,x',x.lo.1,Xg (UU I.sz z'),x.fr.1,I.hok.fresh z',h⟩
 ·obtain ⟨n1,n2,n3⟩:=hlo b o hb
  refine k.keep b o (I.base.keep b o hb n hf (by simp [dH])) n1 n2 ?_
  rw [hfr]
  intro z
  rcases Ug.mp z with z|z
  ·exact n3 z
  ·exact hf z
 ·obtain ⟨n1,n2,n3⟩:=hlo b o hb
  obtain ⟨sl,g⟩:=I.base.slot b o hb n hf (by simp [dH])
  obtain ⟨sl',g'⟩:=k.slot b _ g n1 n2
  exact ⟨sl',g'⟩
 ·obtain ⟨n1,n2,n3⟩:=hlo b o hb
  obtain ⟨o',g⟩:=I.base.there b o hb (by simp [dH])
  obtain ⟨sl,g'⟩:=k.slot b o' g n1 n2
  exact ⟨_,g'⟩
end L3
namespace L3
open PySem L2
noncomputable abbrev Xn:=Str×List (Str×D)
noncomputable abbrev MR:=aG->Hm->Option (Xn×aG×Hm)
noncomputable abbrev RF:=List D->Hm->Option (Xn×Hm)
noncomputable def LM (K:To)(cls:Value)(x:Str):Prop:=UR K Ux x=some (some cls)
noncomputable def r8 (K:To)(π:Nat->Addr)(n:Nat)(H:Hp)(cls:Value)(dc:Option Addr)(x:Xn):Prop:=
 LM K cls x.1/\(x.2=[]/\dc=none\/∃ (dx:Addr)(ob:Obj)(vs:List (Str×V)),dc=some dx/\H dx=some (.frz ob (.xd vs))/\vs.map (·.1)=x.2.map (·.1)/\IsDs K π n H (vs.map (·.2)) (x.2.map (·.2)))
noncomputable def Wish (X:Cx)(a3G:List (Addr×Obj))(π:Nat->Addr)(n:Nat)(H:Hp)(x:Xn)(ρ':aG)(μ':Hm):Prop:=
 ∀ π' σ' H' s' e cls dc T,Ext π n H π' μ'.length H'->Rp X.K π' H' μ'->En X.K π' μ'.length H' σ' ρ'->Inv X a3G σ' H' s'->Ex X a3G H' s' e cls dc T->r8 X.K π' μ'.length H' cls dc x->X.xe (.ref e) s'
theorem Wish.after {X:Cx}{a3G:List (Addr×Obj)}{π π1:Nat->Addr}{n n1:Nat}{H H1:Hp}{x:Xn}{ρ':aG}{μ':Hm}(h:Wish X a3G π n H x ρ' μ')(e:Ext π n H π1 n1 H1):Wish X a3G π1 n1 H1 x ρ' μ':=
 fun π' σ' H' s' a cls dc T e'=>h π' σ' H' s' a cls dc T (e.trans e')
structure QRE (X:Cx)(e:TJ)(r:MR):Prop where
 h:∀ a3G s σ H π ρ μ x ρ' μ',Inv X a3G σ H s->Rp X.K π H μ->En X.K π μ.length H σ ρ->r ρ μ=some (x,ρ',μ')->Wish X a3G π μ.length H x ρ' μ'->TY (T7 X.prog X.w) X.A (eval e X.env) (fun _ _=>False) X.xe s
structure QR (X:Cx)(st:Stmt)(r:MR):Prop where
 h:∀ a3G s σ H π ρ μ x ρ' μ',Inv X a3G σ H s->Rp X.K π H μ->En X.K π μ.length H σ ρ->r ρ μ=some (x,ρ',μ')->Wish X a3G π μ.length H x ρ' μ'->TY (T7 X.prog X.w) X.A (exec st X.env) (fun _ _=>False) X.xe s
structure QRB (X:Cx)(st:List Stmt)(r:MR):Prop where
 h:∀ a3G s σ H π ρ μ x ρ' μ',Inv X a3G σ H s->Rp X.K π H μ->En X.K π μ.length H σ ρ->r ρ μ=some (x,ρ',μ')->Wish X a3G π μ.length H x ρ' μ'->TY (T7 X.prog X.w) X.A (execs st X.env) (fun _ _=>False) X.xe s
noncomputable def bY:MR:=fun _ _=>none
theorem iE {X:Cx}{st:Stmt}:QR X st bY:=⟨fun _ _ _ _ _ _ _ _ _ _ _ _ _ h=>by cases h⟩
theorem wO {X:Cx}{e:TJ}:QRE X e bY:=⟨fun _ _ _ _ _ _ _ _ _ _ _ _ _ h=>by cases h⟩
theorem LN {X:Cx}{st:List Stmt}:QRB X st bY:=⟨fun _ _ _ _ _ _ _ _ _ _ _ _ _ h=>by cases h⟩
section
variable {X:Cx}{e:TJ}{st:Stmt}{rest a b:List Stmt}{r ra rb:MR}{m:MS}{pos:Vk}
theorem LO (he:QRE X e r)(h:eZ e=true):QR X (.Expr e pos) r:=
 ⟨fun a3G s σ H π ρ μ x ρ' μ' I R E hr w=>a0c (aO (he.h a3G s σ H π ρ μ x ρ' μ' I R E hr w) fun _ _ z=>z.elim) I.quiet (lD h)⟩
theorem LP (he:QRE X e r):QR X (.Return (some e) pos) r:=
 ⟨fun a3G s σ H π ρ μ x ρ' μ' I R E hr w=>a2k (aO (he.h a3G s σ H π ρ μ x ρ' μ' I R E hr w) fun _ _ z=>z.elim)⟩
theorem LQ {y:Str}{pos':Vk}(he:QRE X e r)(h:eZ e=true):QR X (.Assign [.Name y pos'] e pos) r:=
 ⟨fun a3G s σ H π ρ μ x ρ' μ' I R E hr w=>a2l (aO (he.h a3G s σ H π ρ μ x ρ' μ' I R E hr w) fun _ _ z=>z.elim) (lD h)⟩
noncomputable def dU (m:MS)(ra rb:MR):MR:=fun ρ μ=>match ra ρ μ with
 | some p=>some p
 | none=>match m ρ μ with
  | some (.nx,ρ1,μ1)=>rb ρ1 μ1
  | _=>none
theorem LR (hm:QS X.nox st m)(ha:QR X st ra)(hb:QRB X rest rb):QRB X (st::rest) (dU m ra rb):=by
 refine ⟨fun a3G s σ H π ρ μ x ρ' μ' I R E hr w=>Xq ?_⟩
 unfold dU at hr
 split at hr
 ·rename_i p hp
  cases hr
  exact aO (ha.h a3G s σ H π ρ μ x ρ' μ' I R E hp w) fun _ _ z=>z.elim
 ·split at hr
  ·rename_i ρ1 μ1 h1
   have k:=hm.h a3G s σ H { nx:=fun σ1 H1=>∃ π1,Ext π μ.length H π1 μ1.length H1/\Rp X.K π1 H1 μ1/\En X.K π1 μ1.length H1 σ1 ρ1,rt:=fun _ _=>False } (I.wish _)
    ⟨π,ρ,μ,.nx,ρ1,μ1,R,E,h1,fun π1 σ1 H1 e1 R1 E1=>⟨π1,e1,R1,E1⟩⟩
   refine Us k (fun f s1 q=>?_) fun _ _ z=>UC z
   cases f with
   | next=>
    obtain ⟨σ1,H1,I1,π1,e1,R1,E1⟩:=q
    exact hb.h a3G s1 σ1 H1 π1 ρ1 μ1 x ρ' μ' I1.unwish R1 E1 hr (w.after e1)
   | ret u=>obtain ⟨_,_,_,_,_,q⟩:=q;exact q.elim
   | brk=>obtain ⟨_,_,_,q⟩:=q;exact q.elim
   | cont=>obtain ⟨_,_,_,q⟩:=q;exact q.elim
  ·cases hr
theorem LS:QRB X [] bY:=LN
noncomputable def pF (t:MT)(ra rb:MR):MR:=fun ρ μ=>(t ρ μ).bind fun p=>if p.1=true then ra ρ p.2 else rb ρ p.2
theorem LU {c:TJ}{t:MT}(hc:QT X.nox c t)(ha:QRB X a ra)(hb:QRB X b rb):QR X (.If c a b pos) (pF t ra rb):=by
 refine ⟨fun a3G s σ H π ρ μ x ρ' μ' I R E hr w=>wpAny_If ?_⟩
 obtain ⟨⟨d,μ1⟩,h1,hr⟩:=Tj.mp hr
 have k:=hc.h a3G s σ H (fun d' H1=>d'=d/\∃ π1,Ext π μ.length H π1 μ1.length H1/\Rp X.K π1 H1 μ1) (I.wish _) ⟨π,ρ,μ,d,μ1,R,E,h1,fun π1 H1 e1 R1=>⟨rfl,π1,e1,R1⟩⟩
 refine Us k (fun d' s1 q=>?_) fun _ _ z=>UC z
 obtain ⟨H1,I1,rfl,π1,e1,R1⟩:=q
 dsimp only at hr
 cases d' with
 | true=>
  rw [if_pos rfl] at hr
  exact ha.h a3G s1 σ H1 π1 ρ μ1 x ρ' μ' I1.unwish R1 (E.mono e1) hr (w.after e1)
 | false=>
  rw [if_neg (by decide)] at hr
  exact hb.h a3G s1 σ H1 π1 ρ μ1 x ρ' μ' I1.unwish R1 (E.mono e1) hr (w.after e1)
end
noncomputable def m5 (K:To)(n:Nat)(r:RF):Sp:=fun vs H _ E=>vs.length=n/\∃ π ds μ x μ',Rp K π H μ/\IsDs K π μ.length H vs ds/\r ds μ=some (x,μ') /\
 ∀ π' H' cls dc,Ext π μ.length H π' μ'.length H'->Rp K π' H' μ'->r8 K π' μ'.length H' cls dc x->E cls dc H'
noncomputable def lM (r:RF)(ms:MA):MR:=fun ρ μ=>(ms ρ μ).bind fun p=>(r p.1 p.2).map fun q=>(q.1,ρ,q.2)
section
variable {X:Cx}{k n:Nat}{f:Addr}{fd:Vt}{ps:List Str}{x:Str}{p pos:Vk}{e:TJ}{es:List TJ}{ms:MA}{r:RF}
theorem LV (hex:X.ex=[])(F:FnOk X.prog X.w X.K X.mg X.base (gW X.prog X.w) k f fd ps (m5 X.K n r))(hr:Room k X.A)(hg:Gl X x)(hm:X.mg x=some (.ref f))(hk:UO X.K (.ref f)=true)(hb:Binds X.K fd ps [])(ha:QA X.nox (e::es) ms n)
  (hdb:(x == ("__debug__":Str))=false):QRE X (.Call (.Name x p) (e::es) [] pos) (lM r ms):=by
 refine ⟨fun a3G s σ H π ρ μ y ρ' μ' I R E h w=>?_⟩
 obtain ⟨⟨ds,μ1⟩,h1,h⟩:=Tj.mp h
 obtain ⟨⟨y',μ2⟩,h2,h⟩:=Tq.mp h
 cases h
 have hst:=ha.s
 have hst':=hst
 rw [UA,Ts] at hst'
 refine Vx (iQ I hg hm ?_ hdb)
 have k1:=ha.h pos a3G s σ H (fun vs H1=>∃ π1,Ext π μ.length H π1 μ1.length H1/\Rp X.K π1 H1 μ1/\IsDs X.K π1 μ1.length H1 vs ds) (I.wish _) ⟨π,ρ,μ,ds,μ1,R,E,h1,fun π1 vs H1 e1 R1 i1=>⟨π1,e1,R1,i1⟩⟩
 refine Yw (h₀:=X.base) I.ok.mod.kin hk (Us k1 (fun us s1 ⟨vs,H1,I1,rv,π1,e1,R1,i1⟩=>⟨I1.unwish.kIn,?_⟩) fun _ _ z=>UC z) (eC hst'.1) (jS hst'.2)
 have I1:=I1.unwish
 have hn:vs.length=n:=by
  rw [i1.length]
  exact ha.l ρ μ ds μ1 h1
 have hsp:m5 X.K n r vs H1 (fun _ _=>False) (fun cls dc H'=>∃ π',Ext π1 μ1.length H1 π' μ2.length H'/\Rp X.K π' H' μ2/\r8 X.K π' μ2.length H' cls dc y'):=
  ⟨hn,π1,ds,μ1,y',μ2,R1,i1,h2,fun π' H' cls dc e' R' ix=>⟨π',e',R',ix⟩⟩
 have hl:us.length=ps.length:=by rw [<- rv.length];exact F.len _ _ _ _ hsp
 refine Yv (XN (F.run X.A X.stack s1 H1 ⟨us,[]⟩ us vs _ _ hr I1.env0 (by have:=hb s1 us I1.kIn (by simpa using hl);rwa [Xl] at this) rv hsp) fun rr s' hq=>?_)
 cases rr with
 | error v=>
  obtain ⟨ee,H',cls,dc,T,rfl,I',x',π',e',R',ix⟩:=LK hex I1 hq
  exact w π' σ H' s' ee cls dc (some (T,.none)) (e1.trans e') R' ((E.mono e1).mono e') I' x' ix
 | ok fl=>
  cases fl with
  | ret u=>obtain ⟨_,_,_,_,_,_,_,q⟩:=hq;exact q
  | next=>exact UC hq
  | brk=>exact UC hq
  | cont=>exact UC hq
end
noncomputable def wQ (n:Nat)(r:MR):RF:=fun ds μ=>(r (oX n ds) μ).map fun p=>(p.1,p.2.2)
theorem LW {P:Ub}{w:Up}{K:To}{mg:Str->Option Value}{base:UE}{x qual:Str}{st:Stmt}{f:Addr}{fd:Vt}{N ps:List Str}{k:Nat}{body:List Stmt}{r:MR}(F:Fun K x qual st f fd)(S:FnScope N ps (bF st))(hps:ps.length<=N.length)(hbd:bT st=body)
  (hbody:∀ (cdv:Value)(A:Ue)(outer:List X2)(s:Tv)(H:Hp)(E:XK),Room k (A.deeper (WU qual (bF st) s.heap.objs.size f cdv))->
   QRB (dH (gW P w) P w K mg base N qual (bF st) f cdv A outer s H E) body r):FnOk P w K mg base (gW P w) (k+1) f fd ps (m5 K ps.length (wQ N.length r)):=by
 obtain ⟨oc,od,kV,doc,pm,an,cdv,ct,osl,rfl,lk,hcd⟩:=F.ex
 refine uR (CX:=gW P w) (sp:=m5 K ps.length (wQ N.length r)) lk hcd S (fun vs H Q E h=>h.1) fun A outer s H vs Q E hr h=>⟨fun _ σ' H'=>σ'=L2.start N vs/\H'=H,?_,rfl,rfl⟩
 obtain ⟨hv,π,ds,μ,y,μ',R,i,hm,kc⟩:=h
 obtain ⟨⟨y',ρ',μ1⟩,h1,hm⟩:=Tq.mp hm
 cases hm
 rintro a3G s1 σ H1 D I ⟨rfl,rfl⟩
 rw [hbd]
 refine aO ((hbody cdv A outer s H1 E hr).h a3G s1 _ H1 π _ μ y' ρ' μ1 I R (Bl i (by rw [hv];exact hps)) h1 fun π' σ' H' s' e cls dc T e' R' E' I' x' ix=>?_) fun _ _ z=>UC z
 exact LL I' x' (kc π' H' cls dc e' R' ix)
end L3
namespace L3
open PySem L2
noncomputable abbrev lN:List Value:=[.type "ValueError",.type "Exception",.type "BaseException",.type "object"]
structure ClsK (K:To)(x:Str)(C:Addr):Prop where
 exc:Yo K C lN "ValueError.__new__" = true
 nm:UR K Ux x=some (some (.ref C))
theorem LX {K:To}{h:UE}{C:Addr}{bmB:List Value}{newId:String}(X:K.In h)(q:Yo K C bmB newId=true) :
  ∃ bm N nm qn bs hd sn sub ab col dd k0 k1 k2 k3 k5 mN,h.get? C=some (Vy nm qn C N bs bm hd sn sub ab col dd k0 k1 k2 k3 k5 newId)/\h.Ns N mN/\mN "__init__" = none/\Zu h bmB bm:=by
 unfold Yo at q
 split at q
 ·rename_i dd cd sl ho
  split at q
  ·rename_i C' bm k0 k1 k2 k3 n k5 hm hs
   rw [Ts,Ts,Ts,Ts,Ts,beq_iff_eq,beq_iff_eq,beq_iff_eq,WS] at q
   obtain ⟨⟨⟨⟨⟨q1,q2⟩,q3⟩,q4⟩,q5⟩,q6⟩:=q
   subst q1 q2
   cases cd with
   | mk nm bs mro ns qn hd sn sub ab col del=>
    cases hm
    cases q3
    have e:sl = #[k0,k1,k2,k3,some (.builtin n),k5]:=Y3.mp hs
    subst e
    exact ⟨bm,ns,nm,qn,bs,hd,sn,sub,ab,col,dd,k0,k1,k2,k3,k5,_,X _ _ ho,.of_isNs (a0n X q5),PySem.W.nsMap_none_of_in X q5 q6,a0m X q4⟩
  ·cases q
 ·cases q
noncomputable def Cr (x:Str)(ms:MA):MR:=fun ρ μ=>(ms ρ μ).map fun p=>((x,[]),ρ,p.2)
theorem LY {P:Ub}{w:Up}{H:Hp}{h:UE}(ok:HOk P w H h){a:Addr}(ha:h.get? a=none):H a=none:=by
 cases q:H a with
 | none=>rfl
 | some u=>
  obtain ⟨o,g⟩:=wK (ok a u q)
  rw [ha] at g;cases g
theorem Ct {X:Cx}{a3G:List (Addr×Obj)}{σ:L2.St}{H:Hp}{s:Tv}(I:Inv X a3G σ H s)(hex:X.ex=[]){a:Addr}(ha:s.heap.get? a=none):X.s₀.heap.get? a=none:=by
 cases q:X.s₀.heap.get? a with
 | none=>rfl
 | some o=>
  obtain ⟨o',g⟩:=I.base.there a o q (by rw [hex];simp)
  rw [ha] at g;cases g
theorem LZ {X:Cx}{x:Str}{C:Addr}{e:TJ}{es:List TJ}{ms:MA}{n:Nat}{np cpos pos:Vk}(c:ClsK X.K x C)(hex:X.ex=[])(hc:X.calm=true)(hg:Gl X x)(ha:QA X.nox (e::es) ms n)(hn:n<=30)
  (hdb:(x == ("__debug__":Str))=false):QR X (.Raise (some (.Call (.Name x np) (e::es) [] cpos)) none pos) (Cr x ms):=by
 refine ⟨fun a3G s σ H π ρ μ y ρ' μ' I R E h w=>?_⟩
 obtain ⟨⟨ds,μ1⟩,h1,h⟩:=Tq.mp h
 cases h
 have hst:=ha.s
 have hst':=hst
 rw [UA,Ts] at hst'
 have he:Ul (e::es) X.env=_:=eC hst'.1
 have hpl:(VX cpos (Ul es X.env)).any (·.1)=false:=jS hst'.2
 obtain ⟨bm,N,nm,qn,bs,hd,sn,sub,ab,col,dd,k0,k1,k2,k3,k5,mN,o1,o2,o3,o4⟩:=LX I.mod.kin c.exc
 refine wpAny_Raise_call_subT (C:=C) (nm:=nm) (q:=qn) (N:=N) (bs:=bs) (bm:=bm) (hdct:=hd) (sn:=sn) (sub:=sub) (ab:=ab) (col:=col) (dd:=dd) (k0:=k0) (k1:=k1) (k2:=k2) (k3:=k3) (k5:=k5) VN (mN:=mN)
  (o4.hasType VN.hasBase) (I.ok.hd hc) (by rw [he];show (false||(VX cpos (Ul es X.env)).any (·.1))=false;rw [hpl];rfl) o3 (iQ I hg (V7 I.mod.kin I.mod.glob c.nm) ⟨rfl,?_⟩ hdb)
 have k1:=ha.h cpos a3G s σ H (fun vs H1=>∃ π1,Ext π μ.length H π1 μ1.length H1/\Rp X.K π1 H1 μ1/\vs.length=n) (I.wish _) ⟨π,ρ,μ,ds,μ1,R,E,h1,fun π1 vs H1 e1 R1 i1=>⟨π1,e1,R1,by rw [i1.length];exact ha.l ρ μ ds μ1 h1⟩⟩
 have k1':TY (T7 X.prog X.w) X.A (spliced (VX cpos (Ul (e::es) X.env))) _ _ s:=k1
 rw [he] at k1' ⊢
 refine a0s (Us k1' (fun us s1 ⟨vs,H1,I1,rv,π1,e1,R1,hl⟩=>?_) fun _ _ z=>UC z)
 have I1:=I1.unwish
 have lenu:us.length<=TL:=by
  have:=rv.length
  rw [<- this,hl,Ud]
  omega
 refine ⟨rfl,lenu,I1.bk _ _ o1,o2.keeps I1.bk,o4.keeps I1.bk,fun h' ea hx=>?_⟩
 obtain ⟨t,t1,_,_⟩:=hx.there
 have I2:Inv X a3G σ H1 { s1 with heap:=h' }:=I1.kept (t':=s1.toks) hx.keeps
 refine w π1 σ H1 _ ea (.ref C) none none e1 R1 (E.mono e1) I2 ⟨⟨⟨_,_,t1,rfl,rfl,rfl,rfl⟩,fun p hp=>nomatch hp⟩,(fun p hp=>nomatch hp),⟨Ct I1 hex hx.new,fun p hp=>nomatch hp⟩,⟨LY I1.hok hx.new,fun p hp=>nomatch hp⟩,fun q hq=>⟨fun z=>?_,fun p hp=>nomatch hp⟩⟩ ⟨c.nm,.inl ⟨rfl,rfl⟩⟩
 have:=(I1.pin q hq).1
 rw [z,hx.new] at this
 cases this
end L3
namespace L3
open PySem L2 PySem.Spec PyProof.Rows
noncomputable def m7 (K:To)(C:Addr):Option (List Value):=match K.lookup C with
 | some ⟨.type "type",_,.cls cd,sl⟩=>(match cd.mro,sl.toList with
  | .ref C'::bm,[_,_,_,_,some (.builtin n),_]=>if (C' == C&&n == "ValueError.__new__" && !cd.hasDel&&bm.contains (.type "BaseException")&&cd.hasDict)=true then some bm else none
  | _,_=>none)
 | _=>none
theorem m8 {K:To}{h:UE}{C:Addr}{bm:List Value}(X:K.In h)(q:m7 K C=some bm) :
  (∃ N nm qn bs sn sub ab col dd k0 k1 k2 k3 k5,h.get? C=some (Vy nm qn C N bs bm true sn sub ab col dd k0 k1 k2 k3 k5 "ValueError.__new__"))/\bm.contains (.type "BaseException")=true:=by
 unfold m7 at q
 split at q
 ·rename_i dd cd sl ho
  split at q
  ·rename_i C' bm' k0 k1 k2 k3 n k5 hm hs
   split at q
   ·rename_i c
    cases q
    rw [Ts,Ts,Ts,Ts,beq_iff_eq,beq_iff_eq,WS] at c
    obtain ⟨⟨⟨⟨c1,c2⟩,c3⟩,c4⟩,c5⟩:=c
    subst c1 c2
    cases cd with
    | mk nm bs mro ns qn hd sn sub ab col del=>
     cases hm
     cases c3
     cases c5
     have e:sl = #[k0,k1,k2,k3,some (.builtin "ValueError.__new__"),k5]:=Y3.mp hs
     subst e
     exact ⟨⟨ns,nm,qn,bs,sn,sub,ab,col,dd,k0,k1,k2,k3,k5,X _ _ ho⟩,c4⟩
   ·cases q
  ·cases q
 ·cases q
noncomputable def f7 (K:To)(x:Str):Option Addr:=match UR K Ux x with
 | some (some (.ref C))=>some C
 | _=>none
theorem m9 {K:To}{x:Str}{C:Addr}(h:f7 K x=some C):UR K Ux x=some (some (.ref C)):=by
 unfold f7 at h
 split at h
 ·cases h;assumption
 ·cases h
noncomputable def pG (K:To)(x y:Str):Option Bool:=(f7 K x).bind fun B=>(f7 K y).bind fun C=>(m7 K B).bind fun b1=>(m7 K C).map fun _=>(TM B::b1).contains (.ref C)
section
variable {M:Zw}{A:Ue}{E:Value->Tv->Prop}
theorem L0 {s:Tv}{B C e:Addr}{nm q nm' q':Str}{N N':Addr}{bs bm bs' bm':List Value}{hdct hdct':Bool}{sn sn':List Str}{sub sub':List Value}{ab ab':Bool}{col col':Option Bool}{dd dd':Option Addr}{k0 k1 k2 k3 k5 k0' k1' k2' k3' k5':Option Value}{oe:Obj}{Q:Bool->Tv->Prop}
  (hB:s.heap.get? B=some (Vy nm q B N bs bm hdct sn sub ab col dd k0 k1 k2 k3 k5 "ValueError.__new__")) (hC:s.heap.get? C=some (Vy nm' q' C N' bs' bm' hdct' sn' sub' ab' col' dd' k0' k1' k2' k3' k5' "ValueError.__new__"))
  (he:s.heap.get? e=some oe)(hcls:oe.cls=.ref B)(hbase:bm'.contains (.type "BaseException")=true) (hq:Q ((TM B::bm).contains (.ref C)) s):TY M A (excMatches (.ref e) (.ref C)) Q E s:=by
 obtain ⟨h,g,d,t,os⟩:=s
 have hcB:(TM C::bm').contains (.type "BaseException")=true:=by rw [XE,hbase,Xy]
 have f:=tc_notTuple
 have hb:∃ b,(TM B::bm).contains (.ref C)=b:=⟨_,rfl⟩
 obtain ⟨b,hb⟩:=hb
 rw [hb] at hq
 unfold excMatches
 repeat (first|(with_reducible refine UI he ?_;rw [hcls])|with_reducible refine UI hC ?_|(with_reducible refine V6 hC ?_;rw [hcB])|(with_reducible refine V6 hB ?_;rw [hb])|wp_step)
 cases b<;>(wp_walk;exact hq)
end
noncomputable abbrev _root_.L2.Cx.hnd (X:Cx)(e:Value):Cx:={ X with A:=X.A.mark (some e),calm:=false,xe:=fun _ _=>False }
section
variable {X:Cx}{a3G:List (Addr×Obj)}{σ:L2.St}{H H':Hp}{s s':Tv}{e:Addr}{cls:Value}{dc:Option Addr}{T:Option (Addr×Value)}
theorem Cu (I:Inv X a3G σ H s)(v:Value):Inv (X.hnd v) a3G σ H s:=
 ⟨⟨I.ok.mod,I.ok.kind,I.ok.glob,I.ok.blt,I.ok.above,I.ok.inj,I.ok.has,I.ok.cab,(fun z=>nomatch z),I.ok.frames,I.ok.stk,I.ok.exf,I.ok.bs,I.ok.bsz,I.ok.noex,I.ok.exfs,I.ok.funs,I.ok.frf⟩,I.os,I.bare,I.base,I.loc,I.cell,I.free,I.freeC,I.pin,I.hok,I.len⟩
theorem r9 (ok:X.Ok){v:Value}(I:Inv (X.hnd v) a3G σ H s):Inv X a3G σ H s:=⟨ok,I.os,I.bare,I.base,I.loc,I.cell,I.free,I.freeC,I.pin,I.hok,I.len⟩
theorem L1 {M:Zw}{E:Value->Tv->Prop}{Q:Unit->Tv->Prop}{L:Addr}(hex:X.ex=[])(hst:X.stack=X.env::X.outer)(hf:X.env.frame=some L)(I:Inv X a3G σ H s)(x:Ex X a3G H s e cls dc T)
  (k:∀ s' T',Inv X a3G σ H s'->Ex X a3G H s' e cls dc (some (T',.none))->Q () s'):TY M X.A (ZJ (.ref e) X.env) (fun _ s₂=>TY M X.A (ZI (.ref e) none) Q E s₂) E s:=by
 refine Co x.hT (by rw [<- hst];exact I.ok.frames) (by rw [<- hst];exact I.stack) hf x.rc fun h1 T1 x1 z1 k1=>?_
 refine wN (s:={ s with heap:=h1 }) x1 fun h2 x2 _ k2=>?_
 have kk:XKept (cY X.stack) e T s.heap h2:=by
  rw [hst]
  refine ⟨fun b o hb n1 n2 n3=>?_,fun b o hb n1 n2=>?_⟩
  ·rw [k2 b (TV (T6 (TB hb) z1))]
   exact k1.keep b o hb n1 n2 n3
  ·obtain ⟨sl,h3⟩:=k1.slot b o hb n1 n2
   refine ⟨sl,?_⟩
   rw [k2 b (TV (T6 (TB hb) z1))]
   exact h3
 refine k { s with heap:=h2 } T1 (x.kept hex I kk) ⟨x2,(fun p hp=>by cases hp;rfl),⟨x.lo.1,fun p hp=>?_⟩,⟨x.fr.1,fun p hp=>?_⟩,fun q hq=>⟨(x.pn q hq).1,fun p hp=>?_⟩⟩
 ·cases hp
  exact Xg (UU I.sz z1)
 ·cases hp
  exact I.hok.fresh z1
 ·cases hp
  exact TV (T6 (TB (I.pin q hq).1) z1)
theorem L4 {M:Zw}{A:Ue}{E:Value->Tv->Prop}{Q:Unit->Tv->Prop}{T:Addr}(hex:X.ex=[])(I:Inv X a3G σ H s)(x:Ex X a3G H s e cls dc (some (T,.none)))
  (k:∀ s',Inv X a3G σ H s'->Ex X a3G H s' e cls dc (some (T,.none))->Q () s'):TY M A (ZI (.ref e) none) Q E s:=by
 refine wN x.rc fun h' x' _ k'=>k { s with heap:=h' } (x.kept hex I ⟨fun b o hb _ n _=>?_,fun b o hb _ n=>⟨o.slots,?_⟩⟩) ⟨x',x.hT,x.lo,x.fr,x.pn⟩
 ·rw [k' b (n _ rfl)];exact hb
 ·rw [k' b (n _ rfl)];exact hb
theorem Ex.cell {π:Nat->Addr}{μ:Hm}{y:Xn}(hex:X.ex=[])(I:Inv X a3G σ H s)(x:Ex X a3G H s e cls dc T)(R:Rp X.K π H μ)(ix:r8 X.K π μ.length H cls dc y) :
  ∃ π' H',Ext π μ.length H π' (μ++[C.exc y.1 (y.2.map (·.1)) (y.2.map (·.2))]).length H'/\Rp X.K π' H' (μ++[C.exc y.1 (y.2.map (·.1)) (y.2.map (·.2))])/\Inv X a3G σ H' s/\π' μ.length=e:=by
 obtain ⟨o,vs,g1,g2,g3,g4,g5⟩:=x.rc.ob
 have hc:q9 X.K π μ.length H e (C.exc y.1 (y.2.map (·.1)) (y.2.map (·.2))) (.frz o (.ext fun _=>True)):=by
  refine ⟨o,_,rfl,by rw [g2];exact ix.1,⟨vs,g4⟩,?_⟩
  rcases ix.2 with ⟨h,hn⟩|⟨dx,od,us,h1,h2,h3,h4⟩
  ·rw [h];exact .inl ⟨rfl,rfl,g3.trans hn⟩
  ·exact .inr ⟨dx,od,us,by rw [g3];exact h1,h2,h3,h4⟩
 obtain ⟨e1,R1,p1⟩:=R.alloc x.fr.1 hc
 refine ⟨_,_,e1,R1,?_,p1⟩
 have nb:∀ b u,H b=some u->b≠e:=fun b u h z=>by rw [z,x.fr.1] at h;cases h
 have h0:∀ b∈[e],X.s₀.heap.get? b=none:=fun b hb=>by cases UW.mp hb;exact x.lo.1
 have I1:=Cp I hex h0 fun b hb=>by cases UW.mp hb;exact ⟨o,vs,g1,g4⟩
 have k:=I1.step (H':=aH H e (.frz o (.ext fun _=>True))) (h':=s.heap) (g':=s.gens) (d':=s.drawn) (t':=s.toks) (ch:=[e]) (fun b hb=>?_) (fun b o _ _ _ g _=>g) (fun b o _ _ _ g _=>⟨o.slots,g⟩)
  (fun b o nc g n=>?_) (fun b o _ g=>⟨o,g⟩) (fun b xs h=>by rw [aW (nb _ _ h)];exact h) (fun b o u h=>by rw [aW (nb _ _ h)];exact h) (fun b ps h=>⟨#[],by rw [aW (nb _ _ h),h];simp⟩) (fun _ h=>h) ?_ I.bare
 ·exact Cq k hex h0
 ·refine ⟨.inl hb,(I1.ok.exf b hb).1,(I1.ok.exf b hb).2,fun p hp=>?_⟩
  cases UW.mp hb
  exact (x.pn p hp).1
 ·rw [aW (fun z=>nc (by rw [z];exact UW.mpr rfl))]
  exact n
 ·intro b u h
  by_cases hb:b=e
  ·subst hb
   rw [bU] at h
   cases h
   exact ⟨g1,trivial,⟨o,g1⟩,fun _ _ _ _=>trivial⟩
  ·rw [aW hb] at h
   exact (I.hok b u h).stay (fun _ _ _ g=>g) (fun c g=>by rw [aW (nb _ _ g)];exact g) (fun c xs g=>by rw [aW (nb _ _ g)];exact g)
theorem En.unset {K:To}{π:Nat->Addr}{n:Nat}{H:Hp}{σ:L2.St}{ρ:aG}(E:En K π n H σ ρ)(i:Nat):En K π n H (σ.set i none) (ρ.set i none):=by
 refine ⟨by rw [VG,VG];exact E.len,fun j d' e=>?_⟩
 rw [YO] at e ⊢
 by_cases hij:i=j
 ·rw [if_pos hij] at e
  split at e<;>cases e
 ·rw [if_neg hij] at e ⊢
  exact E.get j d' e
theorem sA {M:Zw}{A:Ue}{E:Value->Tv->Prop}{Q:Unit->Tv->Prop}{i:Nat}{y:Str}{pos:Vk}(I:Inv X a3G σ H s)(hN:X.N.Nodup)(hi:X.N[i]? = some y)(hy:X.env.scope.names.lookup y=some .local)
  (h:∀ s',Inv X a3G (σ.set i none) H s'->Q () s'):TY M A (do bindName X.env y .none;a1H X.env y pos) Q E s:=by
 have hk:X.env.kindOf y=some .local:=hy
 have hcls:(X.env.scope.kind == .class||(X.env.scope.kind == .module&&X.env.locals != X.env.globals))=false:=by rw [I.ok.kind];rfl
 refine Tp (wpAny_bindName (qS (v:=.non) I hN hi (.inl hy) rfl (fun s1 I1 _=>?_) (.inr hy)))
 unfold a1H
 refine wpAny_onRaise ?_
 unfold unbindName
 refine Tp (wpAny_point (Tp ?_))
 unfold deleteName
 simp only [hk,hcls]
 rw [if_neg (by decide)]
 obtain ⟨m,hn,hl⟩:=id I1.loc
 have hiσ:i<(σ.set i (some V.non)).length:=by rw [I1.len];exact (Tw.mp hi).1
 have my:(m y).isSome=true:=by
  obtain ⟨u,_,q⟩:=hl i y .non hi (by rw [UD (by simpa using hiσ)]) (.inl hy)
  rcases q with ⟨_,q⟩|⟨q,_⟩
  ·rw [q];rfl
  ·rw [hk] at q;rcases q with q|q<;>cases q
 refine Tp (wpAny_nsDel_keeps hn fun h2 v hn2 hs=>?_)
 simp only [my,XU,TQ,if_false]
 refine TF (wpAny_point (h _ ?_))
 have cne:=I1.cne
 obtain ⟨oL,_,_,hoL,_⟩:=id hn
 refine ⟨I.ok,I1.os,I1.bare,⟨fun b o e n hb hx=>?_,fun b o e n hb hx=>?_,I1.base.free,fun b o e hx=>?_,I1.base.tups,I1.base.frzs,I1.base.tbls⟩,⟨_,hn2,fun j z v' e1 e2 e3=>?_⟩,fun y c e=>?_,I1.free,I1.freeC,fun p hp=>?_,fun b ob e=>?_,by rw [VG];exact I.len⟩
 ·exact (hs.2 b (TV (T6 (TB e) I.ok.above))).trans (I1.base.keep b o e n hb hx)
 ·obtain ⟨sl,e1⟩:=I1.base.slot b o e n hb hx
  exact ⟨sl,(hs.2 b (TV (T6 (TB e) I.ok.above))).trans e1⟩
 ·obtain ⟨o',e1⟩:=I1.base.there b o e hx
  exact ⟨o',(hs.2 b (TV (T6 (TB e) I.ok.above))).trans e1⟩
 ·have hj:j≠i:=fun hj=>by
   subst hj
   rw [UD (by simpa using hiσ)] at e2
   cases e2
  rw [Vh (Va hj)] at e2
  obtain ⟨u',r',q⟩:=hl j z v' e1 (by rw [Vh (Va hj)];exact e2) e3
  refine ⟨u',r',?_⟩
  rcases q with ⟨k,e⟩|⟨k,c,e,w⟩
  ·refine .inl ⟨k,?_⟩
   have:z≠y:=fun e=>hj (uC hN e1 (e ▸ hi))
   simp [this,e]
  ·exact .inr ⟨k,c,e,w.sameBut hs (cne z c e)⟩
 ·obtain ⟨w',z⟩:=I1.cell y c e
  exact ⟨w',z.sameBut hs (cne y c e)⟩
 ·obtain ⟨e,n,ne,nf,d⟩:=I1.pin p hp
  exact ⟨(hs.2 p.1 ne).trans e,n,ne,nf,d⟩
 ·refine (I1.hok b ob e).stay (fun c w' hc q=>(hs.2 c ?_).trans q) (fun _ q=>q) fun _ _ q=>q
  intro z
  have hfr:=I1.free
  rw [<- z] at hfr
  rcases hc with hc|hc
  ·rw [hc,e] at hfr;cases hfr
  ·rw [hfr] at hc;cases hc
end
noncomputable def nB (m:MS)(r:MR)(sup:Str->Option Bool)(i:Nat)(mh:MS):MS:=fun ρ μ=>match r ρ μ with
 | some p=>if sup p.1.1=some true then (mh (p.2.1.set i (some (.loc p.2.2.length))) (p.2.2++[C.exc p.1.1 (p.1.2.map (·.1)) (p.1.2.map (·.2))])).map fun q=>(q.1,q.2.1.set i none,q.2.2) else none
 | none=>m ρ μ
theorem L5 {X:Cx}{body hb:List Stmt}{b₀:Stmt}{c y:Str}{cp hp pos:Vk}{L:Addr}{i:Nat}{m mh:MS}{r:MR}{sup:Str->Option Bool}(hex:X.ex=[])(hst:X.stack=X.env::X.outer)(hf:X.env.frame=some L)(hN:X.N.Nodup)
  (hi:X.N[i]? = some y)(hy:X.env.scope.names.lookup y=some .local)(hg:Gl X c)(hdb:(c == ("__debug__":Str))=false) (hs:∀ x b,sup x=some b->pG X.K x c=some b)
  (hm:QB X.nox body m)(hr:∀ E,QRB (X.wish E) body r)(hh:∀ v,QB (X.hnd v) (b₀::hb) mh) :
  QS X (.Try body [.ExceptHandler (some (.Name c cp)) (some y) (b₀::hb) hp] [] [] pos) (nB m r sup i mh):=by
 refine ⟨fun a3G s σ H D I t=>wpAny_Try_except ?_⟩
 obtain ⟨π,ρ,μ,fl,ρ',μ',R,En0,ht,fok⟩:=t
 unfold nB at ht
 split at ht
 ·rename_i p hp'
  obtain ⟨x,ρ1,μ1⟩:=p
  dsimp only at ht
  split at ht
  ·rename_i hsup
   obtain ⟨⟨fl2,ρ2,μ2⟩,hq,ht⟩:=Tq.mp ht
   cases ht
   refine aO ((hr (fun e s₁=>TY (T7 X.prog X.w) X.A (ZJ e X.env) (fun _ s₂=>TY (T7 X.prog X.w) X.A (ZI e none) (fun _ s₃=>TY (T7 X.prog X.w) X.A (handleBy e X.env [.ExceptHandler (some (.Name c cp)) (some y) (b₀::hb) hp]) (SP X a3G D) X.xe s₃) X.xe s₂) X.xe s₁)).h a3G s σ H π ρ μ x ρ1 μ1 (I.wish _) R En0 hp' ?_) fun _ _ z=>z.elim
   intro π1 σ1 H1 s1 e cls dc T e1 R1 E1 I1 x1 ix
   have I1:=I1.unwish
   have x1:Ex X a3G H1 s1 e cls dc T:=⟨x1.rc,x1.hT,x1.lo,x1.fr,x1.pn⟩
   refine L1 hex hst hf I1 x1 fun s2 T2 I2 x2=>?_
   obtain ⟨B,hB⟩:∃ B,f7 X.K x.1=some B:=by
    have:=hs _ _ hsup
    unfold pG at this
    obtain ⟨B,hB,_⟩:=Tj.mp this
    exact ⟨B,hB⟩
   have hsub:=hs _ _ hsup
   unfold pG at hsub
   rw [hB,T3] at hsub
   obtain ⟨Ca,hC,hsub⟩:=Tj.mp hsub
   obtain ⟨b1,hb1,hsub⟩:=Tj.mp hsub
   obtain ⟨b2,hb2,hsub⟩:=Tq.mp hsub
   have hcls:cls=.ref B:=by
    have h1:UR X.K Ux x.1=some (some cls):=ix.1
    rw [m9 hB] at h1
    cases h1;rfl
   subst hcls
   have hmg:X.mg c=some (.ref Ca):=V7 I.mod.kin I.mod.glob (m9 hC)
   have kin:=I2.kIn
   obtain ⟨⟨N1,nm1,q1,bs1,sn1,su1,ab1,col1,dd1,a0,a1,a2,a3,a5,o1⟩,_⟩:=m8 kin hb1
   obtain ⟨⟨N2,nm2,q2,bs2,sn2,su2,ab2,col2,dd2,c0,c1,c2,c3,c5,o2⟩,ob2⟩:=m8 kin hb2
   obtain ⟨oe,vs,g1,g2,_⟩:=x2.rc.ob
   refine wpAny_handleBy_cons (codeAny_handlers_test ?_) (by intro q;cases q)
   refine iQ (X:=X.hnd (.ref e)) (Cu I2 (.ref e)) hg hmg ?_ hdb
   refine L0 o1 o2 g1 g2 ob2 ?_
   rw [hsub]
   dsimp only [if_true]
   refine codeAny_handlers_suite_as ?_
   refine L4 hex I2 x2 fun s3 I3 x3=>?_
   obtain ⟨π4,H4,e4,R4,I4,p4⟩:=x3.cell hex I3 R1 ix
   refine qS (v:=.ref e) I4 hN hi (.inl hy) rfl (fun s5 I5 _=>?_) (.inr hy)
   have dl:IsD X.K π4 (μ1++[C.exc x.1 (x.2.map (·.1)) (x.2.map (·.2))]).length H4 (.ref e) (.loc μ1.length):=by
    rw [<- p4]
    exact .loc (by simp)
   have k:=(hh (.ref e)).h a3G s5 _ H4 { nx:=fun σ H=>D.nx (σ.set i none) H,bk:=fun σ H=>D.bk (σ.set i none) H,ct:=fun σ H=>D.ct (σ.set i none) H,rt:=D.rt } (Cu I5 (.ref e))
    ⟨π4,_,_,fl2,ρ2,μ2,R4,(E1.mono e4).set dl i,hq,?_⟩
   ·refine Us k (fun f s6 q=>?_) fun _ _ z=>UC z
    cases f with
    | next=>
     obtain ⟨σ6,H6,I6,q6⟩:=q
     exact sA (r9 I.ok I6) hN hi hy fun s7 I7=>⟨_,H6,I7,q6⟩
    | brk=>
     obtain ⟨σ6,H6,I6,q6⟩:=q
     exact sA (r9 I.ok I6) hN hi hy fun s7 I7=>⟨_,H6,I7,q6⟩
    | cont=>
     obtain ⟨σ6,H6,I6,q6⟩:=q
     exact sA (r9 I.ok I6) hN hi hy fun s7 I7=>⟨_,H6,I7,q6⟩
    | ret u=>
     obtain ⟨v6,σ6,H6,I6,r6,q6⟩:=q
     exact sA (r9 I.ok I6) hN hi hy fun s7 I7=>⟨v6,_,H6,I7,r6,q6⟩
   ·have ee:=e1.trans e4
    cases fl2 with
    | nx=>exact fun π' σ' H' e' R' E'=>fok π' _ H' (ee.trans e') R' (E'.unset i)
    | bk=>exact fun π' σ' H' e' R' E'=>fok π' _ H' (ee.trans e') R' (E'.unset i)
    | ct=>exact fun π' σ' H' e' R' E'=>fok π' _ H' (ee.trans e') R' (E'.unset i)
    | rt d=>exact fun π' v H' e'=>fok π' v H' (ee.trans e')
  ·cases ht
 ·refine Us (hm.h a3G s σ H D (I.wish _) ⟨π,ρ,μ,fl,ρ',μ',R,En0,ht,fok⟩) (fun f s1 q=>?_) fun _ _ z=>UC z
  cases f with
  | next=>exact WO (SP.unwish (f:=.next) q)
  | brk=>exact SP.unwish (f:=.brk) q
  | cont=>exact SP.unwish (f:=.cont) q
  | ret u=>exact SP.unwish (f:=.ret u) q
end L3
namespace L3
open PySem L2 PySem.Spec PyProof.Rows
noncomputable abbrev nC (h:UE)(C:Addr)(rest:List Value):UE:=(h.push { cls:=.type "tuple",data:=.seq rest.toArray }).push { cls:=.ref C,data:=.fields #[.ref h.objs.size,.none,.none,.none,.bool false,.none] }
theorem sC {h:UE}{C:Addr}{rest:List Value}:∀ b o,h.get? b=some o->(nC h C rest).get? b=some o:=fun b o q=>Tu _ (Tu _ q)
theorem Cv (h:UE)(C:Addr)(rest:List Value):(nC h C rest).get? (h.objs.size+1)=some { cls:=.ref C,data:=.fields #[.ref h.objs.size,.none,.none,.none,.bool false,.none] }:=by heap_get
section
variable {prog:Ub}{w:Up}{A:Ue}{E:Value->Tv->Prop}{s:Tv}
variable {nm q:Str}{C N fI:Addr}{bs bm bmB:List Value}{hdct:Bool}{sn:List Str}{sub:List Value}{ab:Bool}{col:Option Bool}{dd:Option Addr}{k0 k1 k2 k3 k5:Option Value}{B newId initId:String}{mN:Str->Option Value}{rest:List Value}
theorem L6 (F:ExcBaseFacts B newId initId bmB)(T:Zu s.heap bmB bm){oI:Obj}{Q:Fin->Tv->Prop}(hC:s.heap.get? C=some (Vy nm q C N bs bm hdct sn sub ab col dd k0 k1 k2 k3 k5 newId))(hn:s.heap.Ns N mN)(hi:mN "__init__" = some (.ref fI))
  (hf:s.heap.get? fI=some oI)(hfc:oI.cls=.type "function") (hl:rest.length<=TL)
  (hq:TY (T7 prog w) A (call (.ref fI) (.ref (s.heap.objs.size+1)::rest)) (fun r s'=>r=.none/\Q (.done (.ret (.ref (s.heap.objs.size+1)))) s') E { s with heap:=nC s.heap C rest }) :
  TY (T7 prog w) A (Builtin.«type.__call__» ⟨.ref C::rest,[]⟩) Q E s:=by
 obtain ⟨h,g,d,t,os⟩:=s
 repeat (first|with_reducible refine UI hC ?_|with_reducible refine wpAny_madeBy_exc hC ?_|wp_step)
 refine codeAny_call_builtin_code (a0Z _ F.quiet) (wpAny_check_new_subT F T hC (codeAny_exc_new_subT F T hC ?_ hl))
 show TY _ _ _ _ _ (⟨nC h C rest,g,d,t,os⟩:Tv)
 have hC1:=sC (C:=C) (rest:=rest) _ _ hC
 have hn1:=hn.keeps (sC (h:=h) (C:=C) (rest:=rest))
 have hf1:=sC (C:=C) (rest:=rest) _ _ hf
 have T1:=T.keeps (sC (h:=h) (C:=C) (rest:=rest))
 have he:=Cv h C rest
 have hcC:(TM C::bm).contains (.ref C)=true:=by simp
 unfold a1Y
 repeat (first|with_reducible refine UI he ?_|(with_reducible refine V6 hC1 ?_;rw [hcC])|wp_step)
 show TY _ _ (V4 (.ref C) _) _ _ _
 refine wpAny_typeLookup_tail hC1 hn1 T1 F.mroIs F.init.lookup ?_
 rw [hi]
 refine UQ (Tp ?_)
 unfold bindSpecial
 refine Tp (Ys (T:="function") ⟨_,hf1,hfc⟩ ?_)
 rw [if_pos (by decide)]
 refine TF (Tp (Us hq (fun r s' hr=>?_) fun _ _ x=>x))
 obtain ⟨rfl,hr⟩:=hr
 wp_walk
 exact hr
theorem L7 (F:ExcBaseFacts B newId initId bmB)(T:Zu s.heap bmB bm){oI:Obj}{Q:Value->Tv->Prop}(hC:s.heap.get? C=some (Vy nm q C N bs bm hdct sn sub ab col dd k0 k1 k2 k3 k5 newId))(hn:s.heap.Ns N mN)(hi:mN "__init__" = some (.ref fI))
  (hf:s.heap.get? fI=some oI)(hfc:oI.cls=.type "function") (hl:rest.length<=TL)
  (hq:TY (T7 prog w) (A.under (.builtin "type.__call__" ⟨.ref C::rest,[]⟩)) (call (.ref fI) (.ref (s.heap.objs.size+1)::rest)) (fun r s'=>r=.none/\Q (.ref (s.heap.objs.size+1)) s') E { s with heap:=nC s.heap C rest }) :
  TY (T7 prog w) A (call (.ref C) rest) Q E s:=by
 have f1:=tc_lookup
 have f2:=tc_bind (.ref C)
 have hT:s.TypeIs (.ref C) "type":=⟨_,hC,rfl⟩
 obtain ⟨h,g,d,t,os⟩:=s
 refine Yv (codeAny_of_tree ?_)
 show TY _ _ (callAny (.ref C) _) _ _ _
 repeat (any_goals (first|assumption|with_reducible refine UI hC ?_|wp_step))
 refine ⟨rfl,?_⟩
 exact codeAny_call_builtin_at (a0Z _ (by decide +kernel)) entry_typeCall (wpAny_check_type_call_sub hC (L6 F T hC hn hi hf hfc hl hq))
theorem L8 {env:X2}{x:a2D Value}{Q:Flow->Tv->Prop}(hbase:bm.contains (.type "BaseException")=true) (hh:A.handled=none)
  (h:TY (T7 prog w) A x (fun v s₁=>∃ e oe vs,v=.ref e/\s₁.heap.get? C=some (Vy nm q C N bs bm hdct sn sub ab col dd k0 k1 k2 k3 k5 newId)/\s₁.heap.get? e=some oe/\oe.cls=.ref C/\oe.data=.fields vs/\vs[1]? = some .none/\E (.ref e) s₁) E s) :
  TY (T7 prog w) A (raiseStmt env (some x) none) Q E s:=by
 have hcB:(TM C::bm).contains (.type "BaseException")=true:=by rw [XE,hbase,Xy]
 unfold raiseStmt
 refine Tp (Us h (fun v s₁ h₁=>?_) fun _ _ x=>x)
 obtain ⟨e,oe,vs,rfl,hC,he,hc,hd,h1,hE⟩:=h₁
 obtain ⟨oc,od,odt,osl⟩:=oe
 cases hc
 cases hd
 obtain ⟨hp,g,d,tk,os⟩:=s₁
 repeat (first|with_reducible refine UI he ?_|with_reducible refine UI hC ?_|(with_reducible refine V6 hC ?_;rw [hcB])|with_reducible refine V0 he rfl h1 ?_|wp_step)
 exact wpAny_raiseNew_none hh hE
theorem L9 {M:Zw}{o:Obj}{x:Addr}{nameV v:Value}{Q:Unit->Tv->Prop}(T:Zu s.heap lN bm)(hC:s.heap.get? C=some (Vy nm q C N bs bm true sn sub ab col dd k0 k1 k2 k3 k5 newId))(hx:s.heap.get? x=some o)(hc:o.cls=.ref C)(hq:Q () s) :
  TY M A (Yl "object.__setattr__" ⟨[.ref x,nameV,v],[]⟩) Q E s:=by
 have SF:=XG
 have hcO:(TM C::bm).contains (.type "object")=true:=by rw [XE,T.hasType SF.hasOwner,Xy]
 have ha:=SF.args (.ref x) nameV v
 obtain ⟨h,g,d,t,os⟩:=s
 simp only [Yl,SF.kind,SF.split]
 refine Tp ?_
 unfold a1Y
 repeat (first|(with_reducible refine UI hx ?_;rw [hc])|(with_reducible refine V6 hC ?_;rw [hcO])|wp_step)
 exact hq
theorem Ma {name:Str}{tk:a2C}{v:Value}{x:Addr}{o:Obj}{vs:Array Value}{Q:Fin->Tv->Prop}(T:Zu s.heap lN bm)(hC:s.heap.get? C=some (Vy nm q C N bs bm true sn sub ab col dd k0 k1 k2 k3 k5 newId))
  (l2:Ww (T7 prog w) s.heap (V4 (.ref C) name) none)(hx:s.heap.get? x=some o)(hc:o.cls=.ref C)(hd:o.data=.fields vs)(hnd:o.dict=none)
  (hq:∀ h' od tk',h'.get? x=some { o with dict:=some s.heap.objs.size }->h'.get? s.heap.objs.size=some od->h'.Ns1 s.heap.objs.size (fun y=>if y=name then some v else none)->(∀ b ob,b≠x->s.heap.get? b=some ob->h'.get? b=some ob)->Q (.done (.ret .none)) { s with heap:=h',toks:=tk' }) :
  TY (T7 prog w) A (Builtin.«object.__setattr__» ⟨[.ref x,.str name tk,v],[]⟩) Q E s:=by
 have SF:=XG
 have hpass:refuseLoop (.ref x) "__setattr__" (.ref C::bm)=pure ():=by
  rw [a3v]
  clear hC l2 hq
  induction T with
  | base=>exact SF.passes _
  | own _ _ _ _ ih=>rw [a3v];exact ih
 obtain ⟨h,g,d,t,os⟩:=s
 unfold Builtin.«object.__setattr__»
 repeat (first|rw [refuse_eq]|rw [hpass]|(with_reducible refine UI hx ?_;rw [hc])|with_reducible refine wpAny_mroOf_exc hC ?_|with_reducible refine Vj (s:=⟨h,g,d,_,os⟩) l2 ?_|wp_step)
 rw [hnd,if_neg (by simp [typeHasDict])]
 rw [hd]
 have hx1:(h.push { cls:=.type "dict",data:=.dict #[] }).get? x=some o:=Tu _ hx
 have hxs:x≠h.objs.size:=TV (TB hx)
 refine Tp (wpAny_alloc' ?_)
 refine Tp (wpAny_update' hx1 (TF ?_))
 have hxx:((h.push { cls:=.type "dict",data:=.dict #[] }).update x fun o=>{ cls:=o.cls,dict:=some h.objs.size,data:=o.data,slots:=o.slots }).get? x=some { o with dict:=some h.objs.size }:=by
  refine U6 _ hx1 ?_
  obtain ⟨oc,od,odt,osl⟩:=o
  cases hd
  rfl
 have hgd:((h.push { cls:=.type "dict",data:=.dict #[] }).update x fun o=>{ cls:=o.cls,dict:=some h.objs.size,data:=o.data,slots:=o.slots }).get? h.objs.size=some { cls:=.type "dict",data:=.dict #[] }:=
  (a0H _ _ _ _ hxs.symm).trans (Heap.get?_push_at rfl rfl)
 have hns:((h.push { cls:=.type "dict",data:=.dict #[] }).update x fun o=>{ cls:=o.cls,dict:=some h.objs.size,data:=o.data,slots:=o.slots }).Ns h.objs.size (fun _=>none):=⟨_,#[],_,hgd,rfl,(fun e he=>absurd he (by simp)),fun _=>rfl⟩
 show TY _ _ (X3 h.objs.size (.str name tk) name v) _ _ _
 unfold X3 a1E
 refine Tp (TF (Tp (wpAny_nsSet1 (Heap.Ns1.of_empty hns) fun h' hn' hs=>?_)))
 obtain ⟨oD,esD,epD,hoD,hdD,hcD⟩:=hn'.count (Within.cons name v Within.nil)
 refine Tp (wpAny_lookBehind hoD (by rw [hdD];exact pastItsLine_dict (UU hcD (by rw [Um,Xk,Ud];omega))) ?_)
 wp_walk
 exact hq h' oD _ ((hs.2 x hxs).trans hxx) hoD hn' fun b ob hbx hb=>(hs.2 b (TV (TB hb))).trans ((a0H _ _ _ _ hbx).trans (Tu _ hb))
theorem Mb {name:Str}{v:Value}{x:Addr}{o:Obj}{vs:Array Value}{Q:Unit->Tv->Prop}(T:Zu s.heap lN bm)(hC:s.heap.get? C=some (Vy nm q C N bs bm true sn sub ab col dd k0 k1 k2 k3 k5 newId))
  (l1:Ww (T7 prog w) s.heap (V4 (.ref C) "__setattr__") (some (.builtin "object.__setattr__"))) (l2:Ww (T7 prog w) s.heap (V4 (.ref C) name) none)
  (hx:s.heap.get? x=some o)(hc:o.cls=.ref C)(hd:o.data=.fields vs)(hnd:o.dict=none)
  (hq:∀ h' od tk',h'.get? x=some { o with dict:=some s.heap.objs.size }->h'.get? s.heap.objs.size=some od->h'.Ns1 s.heap.objs.size (fun y=>if y=name then some v else none)->(∀ b ob,b≠x->s.heap.get? b=some ob->h'.get? b=some ob)->Q () { s with heap:=h',toks:=tk' }) :
  TY (T7 prog w) A (setAttr (.ref x) name v) Q E s:=by
 have SF:=XG
 have f3:=SF.slot.bind (.ref x)
 obtain ⟨h,g,d,t,os⟩:=s
 unfold setAttr callSpecial? specialOf
 repeat (any_goals (first|assumption|(with_reducible refine UI hx ?_;rw [hc])|with_reducible refine Vj (s:=⟨h,g,d,_,os⟩) l1 ?_|wp_step))
 refine Xz SF.slot.plain SF.entry (L9 (s:=⟨h,g,d,t+1,os⟩) T hC hx hc (Ma (s:=⟨h,g,d,t+1,os⟩) T hC l2 hx hc hd hnd fun h' od tk' a1 a2 a3 a4=>?_))
 repeat (any_goals (first|assumption|wp_step))
 exact hq h' od tk' a1 a2 a3 a4
end
end L3
namespace L3
open PySem L2 PySem.Spec PyProof.Rows
noncomputable def XO (e C:Addr)(dc:Option Addr):HO:=.ext fun h=>∃ o vs,h.get? e=some o/\o.cls=.ref C/\o.dict=dc/\o.data=.fields vs/\vs[1]? = some .none/\∃ t,vs[0]? = some (.ref t)
theorem wR {P:Ub}{w:Up}{H:Hp}{h:UE}{e C:Addr}{dc:Option Addr}{o:Obj}{vs:Array Value}{t:Addr}(h1:h.get? e=some o)(h2:o.cls=.ref C)(h3:o.dict=dc)(h4:o.data=.fields vs)(h5:vs[1]? = some .none)(h6:vs[0]? = some (.ref t)):ObjOk P w H h e (XO e C dc):=
 ⟨⟨o,vs,h1,h2,h3,h4,h5,t,h6⟩,⟨o,h1⟩,fun _ _ ⟨o',vs',g1,g⟩ k=>⟨o',vs',k _ g1,g⟩⟩
noncomputable def sD (K:To)(C f:Addr):Bool:=match K.lookup C with
 | some ⟨.type "type",_,.cls cd,sl⟩=>(match cd.mro,sl.toList with
  | .ref C'::bm,[_,_,_,_,some (.builtin n),_]=>C' == C&&n == "ValueError.__new__" && !cd.hasDel&&cd.hasDict&&PySem.W.tailIn K lN bm&&PySem.W.nsOkIn K cd.ns&&UR K cd.ns "__init__" == some (some (.ref f))
  | _,_=>false)
 | _=>false
theorem Mc {K:To}{h:UE}{N:Addr}{m:Str->Option Value}{n:Str}{v:Value}(X:K.In h)(G:h.Ns N m)(e:UR K N n=some (some v)):m n=some v:=by
 obtain ⟨o,es,ep,ho,hd,_,hf⟩:=G
 unfold UR at e
 split at e
 ·rename_i c d es' n' sl q
  have g:=X _ _ q
  rw [ho] at g
  cases g
  cases hd
  split at e
  ·rename_i en hen
   cases e
   rw [<- hf n]
   unfold nsFind findBy
   rw [<- Array.find?_toList,hen]
   rfl
  ·split at e<;>cases e
 ·cases e
theorem wU {K:To}{h:UE}{C f:Addr}(X:K.In h)(q:sD K C f=true) :
  ∃ bm N nm qn bs sn sub ab col dd k0 k1 k2 k3 k5 mN,h.get? C=some (Vy nm qn C N bs bm true sn sub ab col dd k0 k1 k2 k3 k5 "ValueError.__new__")/\h.Ns N mN/\mN "__init__" = some (.ref f)/\Zu h lN bm:=by
 unfold sD at q
 split at q
 ·rename_i dd cd sl ho
  split at q
  ·rename_i C' bm k0 k1 k2 k3 n k5 hm hs
   rw [Ts,Ts,Ts,Ts,Ts,Ts,beq_iff_eq,beq_iff_eq,beq_iff_eq,WS] at q
   obtain ⟨⟨⟨⟨⟨⟨q1,q2⟩,q3⟩,q7⟩,q4⟩,q5⟩,q6⟩:=q
   subst q1 q2
   cases cd with
   | mk nm bs mro ns qn hd sn sub ab col del=>
    cases hm
    cases q3
    cases q7
    have e:sl = #[k0,k1,k2,k3,some (.builtin "ValueError.__new__"),k5]:=Y3.mp hs
    subst e
    have hns:=a0n X q5
    exact ⟨bm,ns,nm,qn,bs,sn,sub,ab,col,dd,k0,k1,k2,k3,k5,_,X _ _ ho,.of_isNs hns,Mc X (.of_isNs hns) q6,a0m X q4⟩
  ·cases q
 ·cases q
noncomputable def wV (K:To)(B:Addr):Bool:=PySem.W.readsIn K B (.type "type")&&(match a0V K (.ref B) (.type "type") "__init__" with|some (.val (.builtin n))=>n == "ValueError.__init__" | _=>false) &&
 XB K (.ref B) "__getattribute__" == some (some (.builtin "type.__getattribute__"))
noncomputable def nD (C:Addr)(at':Str):Sp:=fun vs H Q _=>∃ e v,vs=[V.ref e,v]/\H e=some (XO e C none)/\∀ dx od,H dx=none->dx≠e->Q .non (aH (aH H e (XO e C (some dx))) dx (.frz od (.xd [(at',v)])))
structure InitK (K:To)(C f B:Addr)(bn at':Str):Prop where
 cls:sD K C f=true
 base:wV K B=true
 bnm:UR K Ux bn=some (some (.ref B))
 set:U3 K (.ref C) "__setattr__" = some (some (.builtin "object.__setattr__"))
 none:U3 K (.ref C) at'=some none
section
variable {X:Cx}{a3G:List (Addr×Obj)}{σ:L2.St}{H:Hp}{s:Tv}{e C f B:Addr}{bn at':Str}
theorem Md {Q:Value->Tv->Prop}{E:Value->Tv->Prop}{us:List Value}(c:InitK X.K C f B bn at')(I:Inv X a3G σ H s)(he:H e=some (XO e C none))(hl:us.length<=TL)
  (k:∀ s',Inv X a3G σ H s'->Q .none s'):TY (T7 X.prog X.w) X.A (call (.builtin "ValueError.__init__") (.ref e::us)) Q E s:=by
 obtain ⟨bm,N,nm,qn,bs,sn,sub,ab,col,dd,k0,k1,k2,k3,k5,mN,hC,hn,_,T⟩:=wU I.kIn c.cls
 have F:=VN
 obtain ⟨⟨o,vs,g1,g2,g3,g4,g5,ta,g6⟩,_⟩:=I.hok e _ he
 obtain ⟨h,g,d,t,os⟩:=s
 refine Yv (Xz F.init.plain F.initEntry (wpAny_check_init_subT F T hC g1 g2 ?_))
 have g1':(h.push { cls:=.type "tuple",data:=.seq us.toArray }).get? e=some o:=Tu _ g1
 have hz:0<vs.size:=(VA.mp g6).1
 unfold Builtin.«BaseException.__init__»
 repeat (first|with_reducible refine V0 g1' g4 g6 ?_|with_reducible refine WB g1' g4 hz ?_|wp_step)
 have same:aH H e (XO e C none)=H:=by
  funext b
  unfold aH
  split
  ·rename_i z;rw [z,he]
  ·rfl
 have I1:Inv X a3G σ H ⟨h.push { cls:=.type "tuple",data:=.seq us.toArray },g,d,t,os⟩:=I.kept (t':=t) fun b u q=>Tu _ q
 have d3:=Wa g4 (·.setIfInBounds 0 (TM h.objs.size))
 have e3:=U6 (Xe (·.setIfInBounds 0 (TM h.objs.size))) g1' (Wf d3)
 have I2:=I1.write (x:=e) (e:=e) (o:=XO e C none) (h':=(h.push { cls:=.type "tuple",data:=.seq us.toArray }).update e (Xe (·.setIfInBounds 0 (TM h.objs.size)))) (t':=t) (by rw [he];trivial) (.inl rfl) (fun b u nb q=>by rw [UL _ _ (Va nb)];exact q) ⟨_,e3⟩
  (wR e3 (by rw [YY];exact g2) (by rw [Cm];exact g3) d3 (by rw [Zi];simpa using g5) (t:=h.objs.size) (by rw [Zi];simp [hz]))
 rw [same] at I2
 exact k _ I2
theorem Me {env:X2}{bn sf tx:Str} {kk} {p1 p2 p3 p4 p5:Vk}(hl:(p2.endLine == p5.line)=true):eval (.Call (.Attribute (.Name bn p1) "__init__" p2) [.Name sf p3,.Constant (.str tx) kk p4] [] p5) env=(do
   let ov <- eval (.Name bn p1) env
   standAt p2.atName
   let (f,first) <- holding [ov] (getMethod ov "__init__" (do return (<- importBound (.Name bn p1) env).getD true))
   callWith p5 f first (VX p5 (Ul [.Name sf p3,.Constant (.str tx) kk p4] env)) (a0h p5 (YI [] env))):=by
 rw [arm_eval_Call]
 have hp:∀ few,methodCallPos few (.Name bn p1) env p2 p5=pure p5:=fun few=>by
  unfold methodCallPos
  rw [hl]
  cases few<;>rfl
 simp only [methodCall,hp,pure_bind]
 rfl
theorem Mf {v:V}{u:Value}{Q:Unit->Tv->Prop}{E:Value->Tv->Prop}(c:InitK X.K C f B bn at')(I:Inv X a3G σ H s)(he:H e=some (XO e C none))(r:RelV v u)
  (k:∀ s' dx od,H dx=none->dx≠e->Inv X a3G σ (aH (aH H e (XO e C (some dx))) dx (.frz od (.xd [(at',v)]))) s'->Q () s'):TY (T7 X.prog X.w) X.A (setAttr (.ref e) at' u) Q E s:=by
 obtain ⟨bm,N,nm,qn,bs,sn,sub,ab,col,dd,k0,k1,k2,k3,k5,mN,hC,hn,_,T⟩:=wU I.kIn c.cls
 obtain ⟨⟨o,vs,g1,g2,g3,g4,g5,ta,g6⟩,_⟩:=I.hok e _ he
 refine Mb T hC (VD I.kIn c.set) (VD I.kIn c.none) g1 g2 g4 g3 fun h' od tk' a1 a2 a3 a4=>?_
 have ne:s.heap.objs.size≠e:=Vq (TB g1)
 have nd:H s.heap.objs.size=none:=I.hok.fresh (TK _)
 refine k _ s.heap.objs.size od nd ne ?_
 have nb:∀ b z,H b=some z->b≠s.heap.objs.size:=fun b z q z'=>by rw [z',nd] at q;cases q
 have up:∀ b,b≠e->b≠s.heap.objs.size->aH (aH H e (XO e C (some s.heap.objs.size))) s.heap.objs.size (.frz od (.xd [(at',v)])) b=H b:=fun b h1 h2=>by rw [aW h2,aW h1]
 have nx:∀ b z,H b=some z->z≠XO e C none->b≠e:=fun b z q zz z'=>by rw [z',he] at q;cases q;exact zz rfl
 refine I.step (H':=aH (aH H e (XO e C (some s.heap.objs.size))) s.heap.objs.size (.frz od (.xd [(at',v)]))) (h':=h') (g':=s.gens) (d':=s.drawn) (t':=tk') (ch:=[]) (fun b hb=>nomatch hb)
  (fun b o' _ _ _ q n=>a4 b o' (fun z=>by rw [z,he] at n;cases n) q) (fun b o' _ _ _ q n=>⟨o'.slots,a4 b o' (fun z=>by rw [z,he] at n;cases n) q⟩)
  (fun b o' _ q n=>?_) (fun b o' _ q=>?_) (fun b xs q=>?_) (fun b o' z q=>?_) (fun b ps q=>⟨#[],?_⟩) (fun m hm=>?_) ?_ I.bare
 ·rw [up b (fun z=>by rw [z,he] at n;cases n) (TV (TB q))]
  exact n
 ·by_cases hb:b=e
  ·exact ⟨_,by rw [hb];exact a1⟩
  ·exact ⟨_,a4 b o' hb q⟩
 ·rw [up b (nx _ _ q (by intro z;cases z)) (nb _ _ q)]
  exact q
 ·rw [up b (nx _ _ q (by intro z;cases z)) (nb _ _ q)]
  exact q
 ·rw [up b (nx _ _ q (by intro z;cases z)) (nb _ _ q)]
  simpa using q
 ·obtain ⟨oL,es,ep,q1,q2⟩:=hm
  exact ⟨oL,es,ep,a4 _ _ (fun z=>by have:=I.free;rw [z,he] at this;cases this) q1,q2⟩
 ·intro b z q
  by_cases hd:b=s.heap.objs.size
  ·subst hd
   rw [bU] at q
   cases q
   refine ⟨a2,_,a3,fun y=>?_⟩
   by_cases hy:y=at'
   ·subst hy
    simp [RelO,r]
   ·have:(y == at')=false:=beq_eq_false_iff_ne.mpr hy
    simp [Xf,this,hy,RelO]
  ·rw [aW hd] at q
   by_cases hb:b=e
   ·subst hb
    rw [bU] at q
    cases q
    exact wR a1 g2 rfl g4 g5 g6
   ·rw [aW hb] at q
    refine (I.hok b z q).stay (fun b' u' hb' q'=>a4 b' u' (fun zz=>?_) q') (fun b' q'=>?_) fun b' xs q'=>?_
    ·rcases hb' with hb'|hb'
     ·exact hb (hb'.symm.trans zz)
     ·rw [zz,he] at hb';cases hb'
    ·rw [up b' (nx _ _ q' (by intro z;cases z)) (nb _ _ q')]
     exact q'
    ·rw [up b' (nx _ _ q' (by intro z;cases z)) (nb _ _ q')]
     exact q'
end
theorem Mg {CX:fG}{P:Ub}{w:Up}{K:To}{mg:Str->Option Value}{base:UE}{k:Nat}{x qual sf ar bn at' tx:Str}{st:Stmt}{f C B:Addr}{fd:Vt} {kk} {p1 p2 p3 p4 p5 p6 p7 p8 p9 p10:Vk}(F:Fun K x qual st f fd)(S:FnScope [sf,ar] [sf,ar] (bF st))
  (hbd:bT st=[.Expr (.Call (.Attribute (.Name bn p1) "__init__" p2) [.Name sf p3,.Constant (.str tx) kk p4] [] p5) p6,.Assign [.Attribute (.Name sf p7) at' p8] (.Name ar p9) p10]) (hl:(p2.endLine == p5.line)=true)
  (c:InitK K C f B bn at')(hg:(bF st).names.lookup bn=some .globalImplicit)(hn:((bn == ("__debug__":Str))||(sf == ("__debug__":Str))||(ar == ("__debug__":Str))||(sf == ("__classdict__":Str))||(ar == ("__classdict__":Str)))=false) :
  FnOk P w K mg base CX (k+1) f fd [sf,ar] (nD C at'):=by
 obtain ⟨oc,od,kV,doc,pm,an,cdv,ct,osl,rfl,lk,hcd⟩:=F.ex
 have hn:((((bn == ("__debug__":Str))=false/\(sf == ("__debug__":Str))=false)/\(ar == ("__debug__":Str))=false)/\(sf == ("__classdict__":Str))=false)/\(ar == ("__classdict__":Str))=false:=by simpa [Bool.or_eq_false_iff,and_assoc] using hn
 obtain ⟨⟨⟨⟨n1,n2⟩,n3⟩,n4⟩,n5⟩:=hn
 refine uR (sp:=nD C at') lk hcd S (fun vs H Q E h=>by obtain ⟨e,v,rfl,_⟩:=h;rfl) fun A outer s H vs Q E hr h=>?_
 obtain ⟨e,v,rfl,he,h⟩:=h
 refine ⟨fun D σ' H'=>σ'=L2.start [sf,ar] [V.ref e,v]/\H'=H/\∀ dx od,H dx=none->dx≠e->D.nx σ' (aH (aH H e (XO e C (some dx))) dx (.frz od (.xd [(at',v)]))),?_,rfl,rfl,h⟩
 rintro a3G s1 σ H1 D I ⟨rfl,rfl,hD⟩
 rw [hbd]
 have c':InitK (dH CX P w K mg base [sf,ar] qual (bF st) f cdv A outer s H1 E).K C f B bn at':=c
 have hb:=c.base
 unfold wV at hb
 rw [Ts,Ts,beq_iff_eq] at hb
 obtain ⟨⟨b1,b2⟩,b3⟩:=hb
 have b2:a0V K (.ref B) (.type "type") "__init__" = some (.val (.builtin "ValueError.__init__")):=by
  split at b2
  ·rename_i n q
   rw [q,beq_iff_eq.mp b2]
  ·cases b2
 have vS:PE (dH CX P w K mg base [sf,ar] qual (bF st) f cdv A outer s H1 E) (.Name sf p3) (oN 0):=qT rfl ((S.par sf (by simp)).elim .inl fun z=>.inr (.inl z)) n2 n4
 have vS':PE (dH CX P w K mg base [sf,ar] qual (bF st) f cdv A outer s H1 E) (.Name sf p7) (oN 0):=qT rfl ((S.par sf (by simp)).elim .inl fun z=>.inr (.inl z)) n2 n4
 have vA:PE (dH CX P w K mg base [sf,ar] qual (bF st) f cdv A outer s H1 E) (.Name ar p9) (oN 1):=qT rfl ((S.par ar (by simp)).elim .inl fun z=>.inr (.inl z)) n3 n5
 have args:=uP vS (uP (Aa (x:=tx) (j:=kk) (pos:=p4)) Ap)
 refine Xq (a0c ?_ I.quiet (lD rfl))
 refine PySem.W.methodCall_KW (pl:=(do return (<- importBound (.Name bn p1) _).getD true)) (iQ I hg (V7 I.mod.kin I.mod.glob c.bnm) ?_ n1) (Me hl)
 refine PySem.W.method_cls I.kIn b3 (PySem.W.cls_value I.kIn b1 b2 rfl ?_)
 refine VR (aO (args p5 a3G _ _ H1 (fun vs H2=>[V.ref e,V.str tx]=vs/\H1=H2) (I.tok _) ⟨V.ref e,rfl,rfl,rfl⟩) fun us s2 ⟨vs,H2,I2,rv,e1,e2⟩=>?_)
 subst e1 e2
 cases rv with
 | cons r1 rv=>
  rename_i u1 us _
  obtain rfl:u1=TM e:=r1
  cases rv with
  | cons r2 rv=>
   cases rv
   refine Md c' I2 he (by rw [Ud];simp) fun s3 I3=>?_
   refine Xq (plainObj_wpAny_Assign_Attribute (aO (vA a3G _ _ _ (fun v' H2=>v=v'/\H1=H2) I3 ⟨v,rfl,rfl,rfl⟩) fun u4 s4 ⟨v4,H4,I4,r4,e3,e4⟩=>?_))
   subst e3 e4
   refine aO (vS' a3G _ _ _ (fun v' H2=>V.ref e=v'/\H1=H2) I4 ⟨V.ref e,rfl,rfl,rfl⟩) fun u5 s5 ⟨v5,H5,I5,r5,e5,e6⟩=>?_
   subst e5 e6
   obtain rfl:u5=TM e:=r5
   exact Mf c' I5 he r4 fun s6 dx od' z1 z2 I6=>WO ⟨_,_,I6,hD dx od' z1 z2⟩
end L3
namespace L3
open PySem L2 PySem.Spec PyProof.Rows
theorem Inv.untrack {X:Cx}{a3G:List (Addr×Obj)}{σ:L2.St}{H H':Hp}{s:Tv}{e:Addr}{φ:UE->Prop}(I:Inv X a3G σ H s)(he:H e=some (.ext φ))(h1:H' e=none)(h2:∀ b,b≠e->H' b=H b):Inv X a3G σ H' s:=by
 have low:∀ b,H b=none->H' b=none:=fun b q=>by
  by_cases hb:b=e
  ·rw [hb];exact h1
  ·rw [h2 b hb];exact q
 have up:∀ b z,H b=some z->(∀ ψ,z≠.ext ψ)->H' b=some z:=fun b z q n=>by
  rw [h2 b fun zz=>by rw [zz,he] at q;cases q;exact n _ rfl]
  exact q
 refine ⟨I.ok,I.os,I.bare,⟨I.base.keep,I.base.slot,fun b o q n hx=>low b (I.base.free b o q n hx),I.base.there,fun b xs q=>up _ _ (I.base.tups b xs q) (fun _ z=>nomatch z),fun b o u q=>up _ _ (I.base.frzs b o u q) (fun _ z=>nomatch z),fun b ps q=>?_⟩,I.loc,I.cell,low _ I.free,fun y c q=>low _ (I.freeC y c q),fun p hp=>?_,fun b u q=>?_,I.len⟩
 ·obtain ⟨more,z⟩:=I.base.tbls b ps q
  exact ⟨more,up _ _ z (fun _ z=>nomatch z)⟩
 ·obtain ⟨a1,a2,a3⟩:=I.pin p hp
  exact ⟨a1,low _ a2,a3⟩
 ·have hb:b≠e:=fun z=>by rw [z,h1] at q;cases q
  rw [h2 b hb] at q
  exact (I.hok b u q).stay (fun _ _ _ z=>z) (fun c z=>up _ _ z (fun _ z=>nomatch z)) fun c xs z=>up _ _ z (fun _ z=>nomatch z)
noncomputable def pH (x at':Str)(m:ME):MR:=fun ρ μ=>(m ρ μ).map fun p=>((x,[(at',p.1)]),ρ,p.2)
theorem Mh {X:Cx}{x bn at' sf ar:Str}{C f B:Addr}{fd:Vt}{k:Nat}{a:TJ}{m:ME}{np cpos pos:Vk}(c:InitK X.K C f B bn at')(nm:UR X.K Ux x=some (some (.ref C)))(hk:UO X.K (.ref C)=true)(F:FnOk X.prog X.w X.K X.mg X.base dY k f fd [sf,ar] (nD C at'))(hb:Binds X.K fd [sf,ar] [])(hfn:∃ oI,X.K.lookup f=some oI/\oI.cls=.type "function")
  (hr:Room (k+1) X.A)(hex:X.ex=[])(hc:X.calm=true)(hg:Gl X x)(ha:QE X.nox a m)(hs:cE a=true)(hdb:(x == ("__debug__":Str))=false):QR X (.Raise (some (.Call (.Name x np) [a] [] cpos)) none pos) (pH x at' m):=by
 refine ⟨fun a3G s σ H π ρ μ y ρ' μ' I R E h w=>?_⟩
 obtain ⟨⟨d,μ1⟩,h1,h⟩:=Tq.mp h
 cases h
 have hst:Ul [a] X.env=(false,eval a X.env)::Ul [] X.env:=eC hs
 obtain ⟨bm,N,nm',qn,bs,sn,sub,ab,col,dd,k0,k1,k2,k3,k5,mN,hC,hn,hi,T⟩:=wU I.mod.kin c.cls
 obtain ⟨oI,lI,fI⟩:=hfn
 rw [arm_exec_Raise]
 refine Tp (Yb (L8 (C:=C) (nm:=nm') (q:=qn) (N:=N) (bs:=bs) (bm:=bm) (hdct:=true) (sn:=sn) (sub:=sub) (ab:=ab) (col:=col) (dd:=dd) (k0:=k0) (k1:=k1) (k2:=k2) (k3:=k3) (k5:=k5) (newId:="ValueError.__new__") (T.hasType VN.hasBase) (I.ok.hd hc) (Tp (aO (Q:=fun v s₁=>∃ e oe vs,v=.ref e/\s₁.heap.get? C=some (Vy nm' qn C N bs bm true sn sub ab col dd k0 k1 k2 k3 k5 "ValueError.__new__")/\s₁.heap.get? e=some oe/\oe.cls=.ref C/\oe.data=.fields vs/\vs[1]? = some .none/\X.xe (.ref e) s₁) (Vx (iQ I hg (V7 I.mod.kin I.mod.glob nm) ?_ hdb)) (fun v s₃ h₃=>Tp (Yb (TF h₃)))))))
 have k1:=ha.h a3G s σ H (fun v H1=>∃ π1,Ext π μ.length H π1 μ1.length H1/\Rp X.K π1 H1 μ1/\IsD X.K π1 μ1.length H1 v d) (I.wish _) ⟨π,ρ,μ,d,μ1,R,E,h1,fun π1 v H1 e1 R1 i1=>⟨π1,e1,R1,i1⟩⟩
 refine Yw (h₀:=X.base) I.ok.mod.kin hk (a2B (Us k1 (fun u s1 ⟨v,H1,I1,rv,π1,e1,R1,i1⟩=>args_nil ⟨I1.unwish.kIn,?_⟩) fun _ _ z=>UC z) hst) hst rfl
 have I1:=I1.unwish
 have he0:s1.heap.get? (s1.heap.objs.size+1)=none:=Xg (Ws _)
 have hne:H1 (s1.heap.objs.size+1)=none:=I1.hok.fresh (Ws _)
 have I2:Inv X a3G σ (aH H1 (s1.heap.objs.size+1) (XO (s1.heap.objs.size+1) C none)) { s1 with heap:=nC s1.heap C [u] }:=by
  refine Inv.laid (t':=s1.toks) (s:={ s1 with heap:=s1.heap.push { cls:=.type "tuple",data:=.seq [u].toArray } }) (I1.kept (t':=s1.toks) fun b o q=>Tu _ q) (fun b o q=>Tu _ q) (by show (s1.heap.push _).objs.size<=_;rw [WQ];exact TK _) ?_
  exact wR (Cv s1.heap C [u]) rfl rfl rfl rfl rfl
 refine L7 VN (T.keeps I1.bk) (I1.bk _ _ hC) (hn.keeps I1.bk) hi (I1.kIn _ _ lI) fI (by rw [Ud];simp) ?_
 generalize hea:s1.heap.objs.size+1=ea at he0 hne I2 ⊢
 have hsp:nD C at' [V.ref ea,v] (aH H1 ea (XO ea C none)) (fun v' H2=>v'=.non/\∃ dx od,aH H1 ea (XO ea C none) dx=none/\dx≠ea/\aH (aH (aH H1 ea (XO ea C none)) ea (XO ea C (some dx))) dx (.frz od (.xd [(at',v)]))=H2) (fun _ _ _=>False):=
  ⟨ea,v,rfl,bU,fun dx od z1 z2=>⟨rfl,dx,od,z1,z2,rfl⟩⟩
 have r2:Vals [V.ref ea,v] [TM ea,u]:=.cons rfl (.cons rv .nil)
 refine Yv (XN (F.run _ X.stack _ _ ⟨[TM ea,u],[]⟩ [TM ea,u] _ _ (fun _ _ _=>False) (hr.make C [u] []) (I2.env0.make C [u] []) (by have:=hb _ [TM ea,u] I2.kIn rfl;rwa [Xl] at this) r2 hsp) fun rr s' hq=>?_)
 cases rr with
 | error z=>exact UC hq
 | ok fl=>
  cases fl with
  | next=>exact UC hq
  | brk=>exact UC hq
  | cont=>exact UC hq
  | ret u'=>
   obtain ⟨v',H3,I3,rv',ev,dx,od,z1,z2,e3⟩:=I2.after hq
   subst ev e3
   refine ⟨rv',?_⟩
   have hd1:H1 dx=none:=by rw [aW z2] at z1;exact z1
   have hE3:aH (aH (aH H1 ea (XO ea C none)) ea (XO ea C (some dx))) dx (.frz od (.xd [(at',v)])) ea=some (XO ea C (some dx)):=by rw [aW (Va z2),bU]
   obtain ⟨⟨o,vs,g1,g2,g3,g4,g5,ta,g6⟩,_⟩:=I3.hok ea _ hE3
   have I4:Inv X a3G σ (aH H1 dx (.frz od (.xd [(at',v)]))) s':=Inv.untrack I3 hE3 (by rw [aW (Va z2)];exact hne) fun b hb'=>by
    by_cases hbd:b=dx
    ·rw [hbd,bU,bU]
    ·rw [aW hbd,aW hbd,aW hb',aW hb']
   obtain ⟨e4,R4⟩:=R1.fresh (o:=.frz od (.xd [(at',v)])) hd1
   refine ⟨ea,o,vs,rfl,I4.bk _ _ hC,g1,g2,g4,g5,?_⟩
   refine w π1 σ _ s' ea (.ref C) (some dx) none (e1.trans e4) R4 ((E.mono e1).mono e4) I4 ⟨⟨⟨o,vs,g1,g2,g3,g4,g5⟩,fun p hp=>nomatch hp⟩,(fun p hp=>nomatch hp),⟨Ct I1 hex he0,fun p hp=>nomatch hp⟩,⟨by rw [aW (Va z2)];exact hne,fun p hp=>nomatch hp⟩,fun q hq=>⟨fun z=>?_,fun p hp=>nomatch hp⟩⟩
    ⟨nm,.inr ⟨dx,od,[(at',v)],rfl,bU,rfl,.cons (i1.mono e4) .nil⟩⟩
   have:=(I1.pin q hq).1
   rw [z,he0] at this
   cases this
end L3
namespace L3
open PySem L2 PySem.Spec PyProof.Rows
section
variable {prog:Ub}{w:Up}{A:Ue}{E:Value->Tv->Prop}{s:Tv}
variable {nm q:Str}{C N x dx:Addr}{bs bm:List Value}{sn:List Str}{sub:List Value}{ab:Bool}{col:Option Bool}{dd:Option Addr}{k0 k1 k2 k3 k5:Option Value}{newId:String}{name:Str}{v:Value}{o:Obj}{vs:Array Value}{mA:Str->Option Value}
theorem Cw {M:Zw}{nameV:Value}{Q:Unit->Tv->Prop}(hb:bm.contains (.type "BaseException")=true) (hC:s.heap.get? C=some (Vy nm q C N bs bm true sn sub ab col dd k0 k1 k2 k3 k5 newId))(hx:s.heap.get? x=some o)(hc:o.cls=.ref C)(hq:Q () s) :
  TY M A (Yl "BaseException.__getattribute__" ⟨[.ref x,nameV],[]⟩) Q E s:=by
 have hk:builtinKind "BaseException.__getattribute__" = some .slot:=by decide +kernel
 have hsp:splitId "BaseException.__getattribute__" = some ("BaseException","__getattribute__"):=by decide +kernel
 have hcB:(TM C::bm).contains (.type "BaseException")=true:=by rw [XE,hb,Xy]
 have ha:=PySem.F.args_bexc_ga (.ref x) nameV
 obtain ⟨h,g,d,t,os⟩:=s
 simp only [Yl,hk,hsp]
 refine Tp ?_
 unfold a1Y
 repeat (first|(with_reducible refine UI hx ?_;rw [hc])|(with_reducible refine V6 hC ?_;rw [hcB])|wp_step)
 exact hq
theorem Mi {tk:a2C}{Q:Fin->Tv->Prop}(hC:s.heap.get? C=some (Vy nm q C N bs bm true sn sub ab col dd k0 k1 k2 k3 k5 newId))(l3:Ww (T7 prog w) s.heap (V4 (.ref C) name) none)
  (hx:s.heap.get? x=some o)(hc:o.cls=.ref C)(hd:o.data=.fields vs)(hdx:o.dict=some dx)(hns:s.heap.Ns1 dx mA)(hv:mA name=some v)(hq:Q (.done (.ret v)) s) :
  TY (T7 prog w) A (Builtin.«object.__getattribute__» ⟨[.ref x,.str name tk],[]⟩) Q E s:=by
 obtain ⟨h,g,d,t,os⟩:=s
 unfold Builtin.«object.__getattribute__»
 repeat (first|(with_reducible refine UI hx ?_;rw [hc])|with_reducible refine Vj (s:=⟨h,g,d,_,os⟩) l3 ?_|wp_step)
 rw [hd]
 unfold instanceDict
 repeat (first|(with_reducible refine UI hx ?_;rw [hc])|with_reducible refine UI hC ?_|wp_step)
 rw [hdx]
 repeat (first|(with_reducible refine wpAny_nsGet hns.ns ?_;rw [hv])|wp_step)
 exact hq
theorem Mj {expr:Bool}{Q:Value->Tv->Prop}(hb:bm.contains (.type "BaseException")=true) (hC:s.heap.get? C=some (Vy nm q C N bs bm true sn sub ab col dd k0 k1 k2 k3 k5 newId))
  (l1:Ww (T7 prog w) s.heap (V4 (.ref C) "__getattribute__") (some (.builtin "BaseException.__getattribute__"))) (l2:Ww (T7 prog w) s.heap (V4 (.ref C) "__getattr__") none) (l3:Ww (T7 prog w) s.heap (V4 (.ref C) name) none)
  (hx:s.heap.get? x=some o)(hc:o.cls=.ref C)(hd:o.data=.fields vs)(hdx:o.dict=some dx)(hns:s.heap.Ns1 dx mA)(hv:mA name=some v)(hh:handedOut v=pure v)(hq:Q v { s with toks:=s.toks+1 }) :
  TY (T7 prog w) A (getAttr (.ref x) name expr) Q E s:=by
 have FB:=Y8
 have f3:=FB.ga.bind (.ref x)
 have hx0:(expr&&a0O (TH "BaseException.__getattribute__"))=false:=by cases expr<;>rfl
 have hx2:(TH "BaseException.__getattribute__" == TH "object.__getattribute__")=false:=by decide +kernel
 have hx1:(a0O (TM C)&&TH "BaseException.__getattribute__" == TH "object.__getattribute__")=false:=by rw [hx2];rfl
 obtain ⟨h,g,d,t,os⟩:=s
 unfold getAttr
 repeat (any_goals (first|assumption|(with_reducible refine UI hx ?_;rw [hc])|with_reducible refine Vj (s:=⟨h,g,d,_,os⟩) l1 ?_|with_reducible refine Vj (s:=⟨h,g,d,_,os⟩) l2 ?_|wp_step))
 refine Xz FB.ga.plain ZV (Cw (s:=⟨h,g,d,t+1,os⟩) hb hC hx hc (Mi (s:=⟨h,g,d,t+1,os⟩) hC l3 hx hc hd hdx hns hv ?_))
 repeat (any_goals (first|assumption|(rw [hh])|wp_step))
end
noncomputable def i9 (at':Str)(ok:Str->Bool)(m:ME):ME:=fun ρ μ=>(m ρ μ).bind fun p=>match p.1 with
 | .loc a=>(match p.2[a]? with
  | some (.exc x ns ds)=>if ok x=true then ((ns.zip ds).lookup at').map fun d=>(d,p.2) else none
  | _=>none)
 | _=>none
noncomputable def sE (K:To)(at' x:Str):Bool:=match f7 K x with
 | some C=>(m7 K C).isSome&&U3 K (.ref C) "__getattribute__" == some (some (.builtin "BaseException.__getattribute__"))&&U3 K (.ref C) "__getattr__" == some none&&U3 K (.ref C) at' == some none
 | none=>false
theorem Cy {K:To}{π:Nat->Addr}{n:Nat}{H:Hp}{k:Str}{d:D}:∀ (us:List (Str×V))(ns:List Str)(ds:List D),us.map (·.1)=ns->IsDs K π n H (us.map (·.2)) ds->(ns.zip ds).lookup k=some d->∃ v,us.lookup k=some v/\IsD K π n H v d
 | [],_,_,e,_,h=>by subst e;cases h
 | (y,v)::us,_,_,e,i,h=>by
  subst e
  cases i with
  | cons i1 i2=>
   rename_i d1 ds1
   simp only [T4,V8,Xf] at h ⊢
   cases hk:k == y with
   | true=>
    rw [hk] at h
    cases h
    exact ⟨v,rfl,i1⟩
   | false=>
    rw [hk] at h
    exact Cy us _ _ rfl i2 h
theorem Cz {X:Cx}{o:TJ}{at':Str}{ok:Str->Bool}{m:ME}{pos:Vk}(ho:QE X o m)(hs:i7 o=true)(hok:∀ x,ok x=true->sE X.K at' x=true):QE X (.Attribute o at' pos) (i9 at' ok m):=by
 refine ⟨fun a3G s σ H Q I t=>?_⟩
 obtain ⟨π,ρ,μ,d,μ',R,E,h,kc⟩:=t
 unfold i9 at h
 obtain ⟨⟨d1,μ1⟩,h1,h⟩:=Tj.mp h
 dsimp only at h
 split at h
 ·rename_i a
  split at h
  ·rename_i x ns ds hx
   split at h
   ·rename_i hox
    obtain ⟨d2,h2,h⟩:=Tq.mp h
    obtain ⟨rfl,rfl⟩:d2=d/\μ1=μ':=by cases h;exact ⟨rfl,rfl⟩
    refine G8 (lJ hs) (aO (ho.h a3G s σ H (fun v H1=>∃ π1,Ext π μ.length H π1 μ1.length H1/\Rp X.K π1 H1 μ1/\IsD X.K π1 μ1.length H1 v (.loc a)) I ⟨π,ρ,μ,_,μ1,R,E,h1,fun π1 v H1 e1 R1 i1=>⟨π1,e1,R1,i1⟩⟩) fun u s1 ⟨v,H1,I1,rv,π1,e1,R1,i1⟩=>?_)
    cases i1
    obtain rfl:u=TM (π1 a):=rv
    obtain ⟨ob,φ,g1,g2,⟨vs,g3⟩,g4⟩:=R1.exc a x ns ds hx
    rcases g4 with ⟨rfl,rfl,_⟩|⟨dx,od,us,g4,g5,g6,g7⟩
    ·cases h2
    obtain ⟨w,lw,iw⟩:=Cy us ns ds g6 g7 h2
    have hA:=hok x hox
    unfold sE at hA
    split at hA
    ·rename_i C hC
     rw [Ts,Ts,Ts,beq_iff_eq,beq_iff_eq,beq_iff_eq] at hA
     obtain ⟨⟨⟨a1,a2⟩,a3⟩,a4⟩:=hA
     obtain ⟨bm,a1⟩:=Uv.mp a1
     have hcl:ob.cls=.ref C:=by
      rw [m9 hC] at g2
      exact (Uc (Uc g2)).symm
     obtain ⟨⟨N1,nm1,q1,bs1,sn1,su1,ab1,col1,dd1,b0,b1,b2,b3,b5,o1⟩,hB⟩:=m8 I1.kIn a1
     obtain ⟨y1,_⟩:=I1.hok _ _ g1
     obtain ⟨y2,mA,y3,y4⟩:=I1.hok _ _ g5
     have y5:=y4 at'
     rw [lw] at y5
     cases hm:mA at' with
     | none=>rw [hm] at y5;exact y5.elim
     | some u=>
      rw [hm] at y5
      exact Mj hB o1 (VD I1.kIn a2) (VD I1.kIn a3) (VD I1.kIn a4) y1 hcl g3 g4 y3 hm (PySem.W.handedOut_of (G7 y5)) ⟨w,H1,I1.tok _,y5,kc π1 w H1 e1 R1 iw⟩
    ·cases hA
   ·cases h
  ·cases h
 ·cases h
end L3
namespace L3
open PySem L2 PySem.Spec PyProof.Rows
noncomputable def nE (K:To)(C:Addr):Bool:=(m7 K C).isSome&&U3 K (.ref C) "__getattribute__" == some (some (.builtin "BaseException.__getattribute__"))&&U3 K (.ref C) "__getattr__" == some none &&
 (PySem.W.clsIn K C).isSome&&U3 K (.ref C) "__class__" == some (some (.builtin "object.__class__"))&&XB K (.builtin "object.__class__") "__get__" == some (some (.builtin "getset_descriptor.__get__")) &&
 a0S K (.builtin "object.__class__") == some true&&a1y K C (.type "object") == some true
section
variable {prog:Ub}{w:Up}{A:Ue}{E:Value->Tv->Prop}{s:Tv}{K:To}{x C:Addr}{ox:Obj}{od:Option Obj}
theorem Ml {Q:Option Value->Tv->Prop}(c:nE K C=true)(X:K.In s.heap)(I:Zf s.heap x ox C od)(h:Q (some (.ref C)) { s with toks:=s.toks+1 }):TY (T7 prog w) A (Zp (.ref x) "__class__") Q E s:=by
 unfold nE at c
 rw [Ts,Ts,Ts,Ts,Ts,Ts,Ts,beq_iff_eq,beq_iff_eq,beq_iff_eq,beq_iff_eq,beq_iff_eq,beq_iff_eq] at c
 obtain ⟨⟨⟨⟨⟨⟨⟨c1,c2⟩,c3⟩,c4⟩,c5⟩,c6⟩,c7⟩,c8⟩:=c
 obtain ⟨bm,c1⟩:=Uv.mp c1
 obtain ⟨⟨N1,nm1,q1,bs1,sn1,su1,ab1,col1,dd1,b0,b1,b2,b3,b5,hC⟩,hb⟩:=m8 X c1
 have hf:a0U K C od "__class__" = some (.bind (.builtin "getset_descriptor.__get__") (.builtin "object.__class__")):=by
  obtain ⟨cd,c4⟩:=Uv.mp c4
  unfold a0U
  rw [c4,T3,c5,T3]
  simp [c6,c7]
 have FB:=Y8
 have f3:=FB.ga.bind (.ref x)
 have hx0:(false&&a0O (TH "BaseException.__getattribute__"))=false:=rfl
 have hx2:(TH "BaseException.__getattribute__" == TH "object.__getattribute__")=false:=by decide +kernel
 have hx1:(a0O (TM C)&&TH "BaseException.__getattribute__" == TH "object.__getattribute__")=false:=by rw [hx2];rfl
 obtain ⟨h0,g,d,t,os⟩:=s
 have l1:=VD (M:=T7 prog w) X c2
 have l2:=VD (M:=T7 prog w) X c3
 have l4:=PySem.W.looks_find (M:=T7 prog w) X I hf
 have l0:=I.type (M:=T7 prog w)
 have hx:=I.at_
 have hc:=I.cls
 unfold Zp a1Z
 repeat (any_goals (first|assumption|(with_reducible refine UI hx ?_;rw [hc])|with_reducible refine Vj (s:=⟨h0,g,d,_,os⟩) l1 ?_|with_reducible refine Vj (s:=⟨h0,g,d,_,os⟩) l2 ?_|wp_step))
 refine Xz FB.ga.plain ZV (Cw (s:=⟨h0,g,d,t+1,os⟩) hb hC hx hc ?_)
 have hG:TY (T7 prog w) A.in1 (call (.builtin "getset_descriptor.__get__") [.builtin "object.__class__",.ref x,.ref C]) (fun v s'=>v=.ref C/\s'=⟨h0,g,d,t+1,os⟩) (fun _ _=>False) ⟨h0,g,d,t+1,os⟩:=
  Yv (PySem.W.class_get (s:=⟨h0,g,d,t+1,os⟩) X I c8 ⟨rfl,rfl⟩)
 refine Tp (TF (Tp (TF (Tp (Vj (s:=⟨h0,g,d,t+1,os⟩) l0 (Tp (Vj (s:=⟨h0,g,d,t+1,os⟩) l4 ?_)))))))
 refine Tp (UQ (Us hG (fun v s' z=>?_) fun _ _ z=>z.elim))
 obtain ⟨rfl,rfl⟩:=z
 repeat (any_goals (first|assumption|wp_step))
end
theorem Mm {K:To}{x C:Addr}{ox:Obj}(c:nE K C=true)(hc:ox.cls=.ref C)(hd:∃ vs,ox.data=.fields vs):PySem.W.KitX K (.ref x) (.ref C) (fun h=>∃ od,Zf h x ox C od) where
 ty:=fun _ _ _ ⟨_,I⟩=>I.type
 it:=fun M h X _=>by
  unfold nE at c
  rw [Ts,Ts,Ts,Ts,Ts,Ts,Ts] at c
  obtain ⟨bm,c1⟩:=Uv.mp c.1.1.1.1.1.1.1
  obtain ⟨⟨N1,nm1,q1,bs1,sn1,su1,ab1,col1,dd1,b0,b1,b2,b3,b5,hC⟩,hb⟩:=m8 X c1
  intro A' Q' E' s' k q
  unfold isType loadHead
  exact Tp (wpAny_loadPart (k _ _ hC) (TF q))
 ne:=fun h tp dd its n sl X htp=>by
  unfold nE at c
  rw [Ts,Ts,Ts,Ts,Ts,Ts,Ts] at c
  obtain ⟨bm,c1⟩:=Uv.mp c.1.1.1.1.1.1.1
  obtain ⟨⟨N1,nm1,q1,bs1,sn1,su1,ab1,col1,dd1,b0,b1,b2,b3,b5,hC⟩,hb⟩:=m8 X c1
  refine Bool.eq_false_iff.mpr fun q=>?_
  have e:C=tp:=Value.ref.inj (beq_iff_eq.mp q)
  subst e
  rw [htp] at hC
  injection hC with hC
  injection hC with h1
  injection h1 with h2
  exact absurd h2 (by decide)
 ca:=fun X ⟨_,I⟩ k=>Ml c X I k
end L3
namespace L3
open PySem L2 PySem.Spec PyProof.Rows
noncomputable def cQ (sup:Str->Option Bool)(m:ME):ME:=fun ρ μ=>(m ρ μ).bind fun p=>match p.1 with
 | .loc a=>(match p.2[a]? with
  | some (.exc x _ _)=>(sup x).map fun b=>(.bl b,p.2)
  | _=>none)
 | _=>none
noncomputable def jX (K:To)(cv:Value)(x:Str):Option Bool:=(f7 K x).bind fun B=>if nE K B=true then Zd K (.ref B) cv else none
theorem CA {X:Cx}{a:TJ}{c:Str}{cv:Value}{m:ME}{p cp pos:Vk}{sup:Str->Option Bool}(ha:QE X a m)(hs:cE a=true)(hg:Gl X "isinstance") (hm:X.mg "isinstance" = none)
  (hcv:∀ a3G s σ H Q,Inv X a3G σ H s->Q cv s->TY (T7 X.prog X.w) X.A (eval (.Name c cp) X.env) Q X.xe s)(hsup:∀ x b,sup x=some b->jX X.K cv x=some b) :
  QE X (.Call (.Name "isinstance" p) [a,.Name c cp] [] pos) (cQ sup m):=by
 refine ⟨fun a3G s σ H Q I t=>?_⟩
 obtain ⟨π,ρ,μ,d,μ',R,E,h,kc⟩:=t
 unfold cQ at h
 obtain ⟨⟨d1,μ1⟩,h1,h⟩:=Tj.mp h
 dsimp only at h
 split at h
 ·rename_i i
  split at h
  ·rename_i x ns ds hx
   obtain ⟨b,h2,h⟩:=Tq.mp h
   obtain ⟨rfl,rfl⟩:D.bl b=d/\μ1=μ':=by cases h;exact ⟨rfl,rfl⟩
   have hst:Ul [a,.Name c cp] X.env=(false,eval a X.env)::Ul [.Name c cp] X.env:=eC hs
   refine Vx (gJ I hg hm XY ?_)
   refine VR (a2B (aO (ha.h a3G s σ H (fun v H1=>∃ π1,Ext π μ.length H π1 μ1.length H1/\Rp X.K π1 H1 μ1/\IsD X.K π1 μ1.length H1 v (.loc i)) I ⟨π,ρ,μ,_,μ1,R,E,h1,fun π1 v H1 e1 R1 i1=>⟨π1,e1,R1,i1⟩⟩) fun u s1 ⟨v,H1,I1,rv,π1,e1,R1,i1⟩=>a2B (hcv a3G s1 σ H1 _ I1 (args_nil ?_))) hst) hst rfl
   cases i1
   obtain rfl:u=TM (π1 i):=rv
   obtain ⟨ob,φ,g1,g2,⟨vs,g3⟩,g4⟩:=R1.exc i x ns ds hx
   have hi:=hsup x b h2
   unfold jX at hi
   obtain ⟨B,hB,hi⟩:=Tj.mp hi
   split at hi
   ·rename_i hI
    have hcl:ob.cls=.ref B:=by
     rw [m9 hB] at g2
     exact (Uc (Uc g2)).symm
    obtain ⟨y1,_⟩:=I1.hok _ _ g1
    have hin:∃ od,Zf s1.heap (π1 i) ob B od:=by
     have no:a1j ob=true:=by
      unfold a1j
      rw [g3]
     rcases g4 with ⟨_,_,g4⟩|⟨dx,od,us,g4,g5,_⟩
     ·exact ⟨none,y1,hcl,no,by rw [g4];trivial⟩
     ·obtain ⟨y2,_⟩:=I1.hok _ _ g5
      exact ⟨some od,y1,hcl,no,by rw [g4];exact y2⟩
    exact VF (Mm hI hcl ⟨vs,g3⟩) I1.kIn hin hi (fun z=>nomatch z) fun tk=>⟨.bl b,H1,I1.tok tk,rfl,kc π1 _ H1 e1 R1 (.bl b)⟩
   ·cases hi
  ·cases h
 ·cases h
end L3
namespace L3
open PySem PySem.Spec
namespace Tb
section
variable {prog:Ub}{w:Up}{A:Ue}{E:Value->Tv->Prop}{s:Tv}
noncomputable abbrev IsT (prog:Ub)(w:Up)(h:UE)(k:List Int)(b:Addr):Prop:=IsTupleKey (X6 prog w) h k b
end
section
variable {prog:Ub}{w:Up}{A:Ue}{R:a0l->Tv->Prop}{I:Addr}{fp wr:List Addr}{G:Array a1Q->Array a1Q->Prop}{n:Nat}{P:Nat->Value->Prop}{St:Nat->Tv->Prop}
end
section
variable {prog:Ub}{w:Up}{A:Ue}{E:Value->Tv->Prop}{s:Tv}
noncomputable abbrev eY (led:Bool):Obj:={ cls:=.type "set",dict:=none,data:=.set #[] 0 (.fresh 0 0 led) }
end
end Tb
end L3
namespace L3
open PySem L2
open PyProof.Rows (IntsAre)
noncomputable def pI:List D->Option (List (List Int))
 | []=>some []
 | x::r=>(dZ x).bind fun k=>(pI r).map (k::·)
theorem sF:∀ {ds:List D}{k:List Int},jU ds=some k->ds=k.map D.int
 | [],k,h=>by cases h;rfl
 | d::ds,k,h=>by
  cases d with
  | int i=>
   obtain ⟨k',h1,h2⟩:=Tq.mp h
   subst h2
   rw [sF h1];rfl
  | _=>cases h
theorem CB {x:D}{k:List Int}(h:dZ x=some k):x=.tup (k.map D.int):=by
 cases x with
 | tup ds=>rw [sF h]
 | _=>cases h
theorem CC:∀ {xs:List D}{ks:List (List Int)},pI xs=some ks->xs=ks.map fun k=>D.tup (k.map D.int)
 | [],ks,h=>by cases h;rfl
 | x::xs,ks,h=>by
  obtain ⟨k,h1,h⟩:=Tj.mp h
  obtain ⟨ks',h2,h3⟩:=Tq.mp h
  subst h3
  rw [CB h1,CC h2];rfl
noncomputable def dR (μ:Hm):D->Option (List D)
 | .rol xs=>some xs
 | .loc a=>match μ[a]? with
  | some (.lst xs)=>some xs
  | _=>none
 | _=>none
section
variable {K:To}{π:Nat->Addr}{n:Nat}{H:Hp}{μ:Hm}
theorem lO {v:V}{x:D}{xs:List D}(R:Rp K π H μ)(h:IsD K π μ.length H v x)(e:dR μ x=some xs):∃ p vs,v=.ref p/\SqL K H p vs/\IsDs K π μ.length H vs xs:=by
 cases h with
 | rol q t=>cases e;exact ⟨_,_,rfl,q.sq,t⟩
 | @loc a ha=>
  simp only [dR] at e
  split at e
  ·rename_i ys hy
   cases e
   obtain ⟨vs,h3,h4⟩:=R.lst a xs hy
   exact ⟨_,vs,rfl,.of h3,h4⟩
  ·cases e
 | _=>cases e
theorem ints_of':∀ {vs:List V}{k:List Int},IsDs K π n H vs (k.map D.int)->vs=k.map V.int
 | _,[],h=>by cases h;rfl
 | _,i::k,h=>by
  cases h with
  | cons h t=>cases h;rw [ints_of' t];rfl
theorem wW:∀ (k:List Int),IsDs K π n H (k.map V.int) (k.map D.int)
 | []=>.nil
 | i::k=>.cons (.int i) (wW k)
end
theorem CD {X:Cx}:∀ {k:List Int}{xs:List Value},Vals (k.map V.int) xs->ItemsAre (X6 X.prog X.w) k xs
 | [],_,h=>by cases h;exact .nil
 | i::k,_,h=>by
  cases h with
  | cons h t=>
   obtain ⟨tk,rfl⟩:=h
   exact .cons (intKind_is _ _ _ _) (CD t)
section
variable {X:Cx}{a3G:List (Addr×Obj)}{σ:St}{H:Hp}{s:Tv}
theorem lP (I:Inv X a3G σ H s){b:Addr}{k:List Int}(h:SqT X.K H b (k.map V.int)):Tb.IsT X.prog X.w s.heap k b:=by
 obtain ⟨xs,rx,⟨ob,e,c,n,d⟩,_⟩:=I.tuple h
 exact ⟨ob,xs.toArray,n,e,c,d,by simpa using CD rx⟩
theorem call_lenT:CallR X (.builtin "len") (fun xs H Q=>∃ a L,xs=[V.ref a]/\H a=some (q8 a L)/\Q (.int L.length) H):=by
 intro a3G s σ H xs us Q I r h
 obtain ⟨a,L,rfl,ha,q⟩:=h
 obtain ⟨u,rfl,ru⟩:=eG r
 cases ru
 obtain ⟨⟨o,ho,led,es,ep,t,R,hex,hd,he,ok,hp,hnd,hm,hf5,hpl,hle⟩,_,_⟩:=I.hok a _ ha
 have hsz:es.size=L.length:=by
  have:=hp.length_eq
  simpa using this
 have hm5:t.mask<=511:=by rcases hm with h|h|h|h<;>omega
 refine call_len_set ho hex hd (Tb.fits_of ok he) (by rw [hsz];omega) ?_
 rw [hsz]
 exact ⟨.int L.length,H,I.tok _,⟨_,rfl⟩,q⟩
end
end L3
namespace L3
open PySem L2
noncomputable def nF (ks:List (List Int)):Nat->Nat->Bool:=fun i j=>HT.lexLt (ks.getD i []) (ks.getD j [])
noncomputable def pJ:MF:=fun ds μ=>match ds with
 | [x]=>(dR μ x).bind fun xs=>(pI xs).bind fun ks=>if 1<=ks.length/\ks.length<64/\∀ t∈ks,t≠[] then some (.loc μ.length,μ++[.lst ((cF (nF ks) ks.length).map fun i=>xs.getD i .non)]) else none
 | _=>none
theorem CF {K:To}{π:Nat->Addr}{n:Nat}{H:Hp}:∀ {vs:List V}{ks:List (List Int)},IsDs K π n H vs (ks.map fun k=>D.tup (k.map D.int))->TupsV K H vs ks
 | _,[],h=>by cases h;exact .nil
 | _,k::ks,h=>by
  cases h with
  | cons h t=>
   cases h with
   | @tup p vs ds hq hd=>
    have:=ints_of' hd
    subst this
    exact .cons ⟨p,rfl,hq⟩ (CF t)
theorem CG {K:To}{π:Nat->Addr}{n:Nat}{H:Hp}:∀ {vs:List V}{xs:List D}(i:Nat),IsDs K π n H vs xs->IsD K π n H (vs.getD i .non) (xs.getD i .non)
 | _,_,i,.nil=>by simp;exact .non
 | _,_,0,.cons h _=>h
 | _,_,i+1,.cons _ t=>by simpa using CG i t
theorem CH {K:To}{π:Nat->Addr}{n:Nat}{H:Hp}{vs:List V}{xs:List D}(h:IsDs K π n H vs xs):∀ (l:List Nat),IsDs K π n H (l.map fun i=>vs.getD i .non) (l.map fun i=>xs.getD i .non)
 | []=>.nil
 | i::l=>.cons (CG i h) (CH h l)
theorem Mn {K:To}:dP K pJ (wM K):=by
 intro π H μ xs d μ' vs Q R i hm k
 unfold pJ at hm
 split at hm
 ·obtain ⟨ys,h1,hm⟩:=Tj.mp hm
  obtain ⟨ks,h2,hm⟩:=Tj.mp hm
  split at hm
  ·rename_i hb
   cases hm
   cases i with
   | cons i t=>
    cases t
    obtain ⟨p,ws,rfl,q,hd⟩:=lO R i h1
    have hd':=hd
    rw [CC h2] at hd'
    have hl:ws.length=ks.length:=by
     have:=hd'.length
     rw [Tt] at this
     exact this
    refine ⟨p,ws,ks,rfl,q,CF hd',by omega,by omega,hb.2.2,fun l hl'=>?_⟩
    obtain ⟨e2,R2,_⟩:=R.alloc (c:=.lst ((cF (nF ks) ks.length).map fun i=>ys.getD i .non)) (o:=.lst ((cF (fun i j=>HT.lexLt (ks.getD i []) (ks.getD j [])) ws.length).map fun i=>ws.getD i .non)) hl' (by
     show IsDs _ _ _ _ _ _
     rw [hl]
     exact CH hd _)
    exact k _ _ _ e2 R2 fW
  ·cases hm
 ·cases hm
end L3
namespace L3
open PySem L2
open PyProof.Rows (IntsAre Fr News seqObj)
section
variable {prog:Ub}{w:Up}{A:Ue}{E:Value->Tv->Prop}{s:Tv}{h₀:UE}{L:Addr}{m:Str->Option Value}{news:List (Addr×Obj)}
end
section
variable {X:Cx}{a3G:List (Addr×Obj)}{σ:St}{H:Hp}{s:Tv}
end
end L3
namespace L3
open PySem
open PySem.W (KasT kas_asc kas_desc kas_tail3 kas_descPart kas_count kas_place kas_bin kas_sort kas_rev)
open PyProof.Rows (mirror bubble getElem?_bubble getElem?_mirror_all mirror_size bubble_size)
section
variable {ans:Nat->Nat->Bool}{κ:Nat->Nat}(hk:∀ i j,ans i j=decide (κ i<κ j))
noncomputable def gK (κ:Nat->Nat)(p:Array Nat)(k:Nat):Nat:=κ (p.getD k 0)
include hk in
structure Falls (κ:Nat->Nat)(p:Array Nat)(n q:Nat):Prop where
 fall:∀ i j,i<=j->j<n->gK κ p j<=gK κ p i
 alike:∀ k,n - 1 - q<=k->k<n->gK κ p k=gK κ p (n - 1)
 qn:q<n
theorem Falls.same {p p':Array Nat}{n q:Nat}(F:Falls κ p n q)(h:∀ k,gK κ p' k=gK κ p k):Falls κ p' n q:=
 ⟨fun i j h1 h2=>by rw [h,h];exact F.fall i j h1 h2,fun k h1 h2=>by rw [h,h];exact F.alike k h1 h2,F.qn⟩
include hk in
include hk in
include hk in
include hk in
include hk in
include hk in
include hk in
end
section
variable {α:Type}{lt:α->α->Bool}(irr:∀ a,lt a a=false)(tr:∀ a b c,lt a b=true->lt b c=true->lt a c=true)(nt:∀ a b c,lt a b=true->lt a c=true\/lt c b=true)
include irr tr nt in
include irr tr nt in
end
end L3
namespace L3
open PySem L2
section
variable {X:Cx}{a b c:TJ}{ma mb mc:ME}{pos:Vk}
noncomputable def jA (f g:D->D->Hm->Option (D×Hm))(a b c:ME):ME:=fun ρ μ=>(a ρ μ).bind fun p=>(b ρ p.2).bind fun q=>(f p.1 q.1 q.2).bind fun r=>match r.1 with
 | .bl true=>(c ρ r.2).bind fun t=>g q.1 t.1 t.2
 | .bl false=>some (.bl false,r.2)
 | _=>none
theorem CI {f g:D->D->Hm->Option (D×Hm)}{r r':R2}{K:To}(hf:cG K f r)(hg:cG K g r'):∀ σ H Q,tM K (jA f g ma mb mc) σ H Q->uN r r' (tM K ma) (tM K mb) (tM K mc) σ H Q:=by
 rintro σ H Q ⟨π,ρ,μ,d,μ',R,E,hm,k⟩
 obtain ⟨⟨x,μ1⟩,h1,hm⟩:=Tj.mp hm
 obtain ⟨⟨y,μ2⟩,h2,hm⟩:=Tj.mp hm
 obtain ⟨⟨z,μ3⟩,h3,hm⟩:=Tj.mp hm
 refine ⟨π,ρ,μ,x,μ1,R,E,h1,fun π1 v1 H1 e1 R1 i1=>⟨π1,ρ,μ1,y,μ2,R1,E.mono e1,h2,fun π2 v2 H2 e2 R2 i2=>?_⟩⟩
 refine hf π2 H2 μ2 x y z μ3 v1 v2 _ R2 (i1.mono e2) i2 h3 fun π3 v3 H3 e3 R3 i3=>?_
 cases z with
 | bl bb=>
  cases i3
  refine ⟨bb,rfl,?_⟩
  cases bb with
  | true=>
   refine jP ?_
   obtain ⟨⟨t,μ4⟩,h4,hm⟩:=Tj.mp hm
   exact ⟨π3,ρ,μ3,t,μ4,R3,((E.mono e1).mono e2).mono e3,h4,fun π4 v4 H4 e4 R4 i4=>hg π4 H4 μ4 y t d μ' v2 v4 Q R4 ((i2.mono e3).mono e4) i4 hm (k.after (((e1.trans e2).trans e3).trans e4))⟩
  | false=>
   refine jO ?_
   cases hm
   exact k π3 _ H3 ((e1.trans e2).trans e3) R3 (.bl false)
 | _=>cases hm
noncomputable def jB:Xm->Option (Int->Int->Bool)
 | .Lt=>some fun i j=>decide (i<j)
 | .LtE=>some fun i j=>decide (i<=j)
 | .Gt=>some fun i j=>decide (j<i)
 | .GtE=>some fun i j=>decide (j<=i)
 | _=>none
theorem nG {op:Xm}{p:Int->Int->Bool}(h:jB op=some p):OpR X (UX op) (fF fun i j=>.bl (p i j))/\(op=.Lt\/op=.LtE\/op=.Gt\/op=.GtE):=by
 cases op<;>first|(cases h;first|exact ⟨uJ,by simp⟩|exact ⟨uK,by simp⟩|exact ⟨uL,by simp⟩|exact ⟨uM,by simp⟩)|cases h
theorem CJ {op op':Xm}(h':op'=.Lt\/op'=.LtE\/op'=.Gt\/op'=.GtE):a2x [op,op'] [b,c]=false:=by
 show Wo op' c=false
 rcases h' with rfl|rfl|rfl|rfl<;>exact dG _
theorem Mo {op op':Xm}{p q:Int->Int->Bool}(h:jB op=some p)(h':jB op'=some q)(ha:QE X a ma)(hb:QE X b mb)(hc:QE X c mc):QE X (.Compare a [op,op'] [b,c] pos) (jA (eW p) (eW q) ma mb mc):=
 ⟨cK (GW (nG h).1 (nG h').1 ha.h hb.h hc.h (CJ (nG (X:=X) h').2)) (CI fZ fZ)⟩
theorem Mp {op op':Xm}{p q:Int->Int->Bool}(h:jB op=some p)(h':jB op'=some q)(ha:QE X a ma)(hb:QE X b mb)(hc:QE X c mc):QT X (.Compare a [op,op'] [b,c] pos) (aP (jA (eW p) (eW q) ma mb mc)):=
 ⟨rA (GX (nG h).1 (nG h').1 ha.h hb.h hc.h (CJ (nG (X:=X) h').2)) fun σ H Q h=>CI fZ fZ σ H _ (Bf σ H Q h)⟩
noncomputable def sG (neg:Bool):D->D->Hm->Option (D×Hm)
 | .bl b,.bl c,μ=>some (.bl (if neg then !(b == c) else b == c),μ)
 | .int _,.bl _,μ=>some (.bl neg,μ)
 | _,_,_=>none
noncomputable def d5 (neg:Bool):D->D->Hm->Option (D×Hm):=fun x y μ=>match y with
 | .bl _=>sG neg x y μ
 | _=>iC neg x y μ
noncomputable def wX (neg:Bool):R2:=fun x y H Q=>∃ c,y=.bl c/\((∃ b,x=.bl b/\Q (.bl (if neg then !(b == c) else b == c)) H)\/((∃ i,x=.int i)/\Q (.bl neg) H))
theorem sH {K:To}{neg:Bool}:cG K (sG neg) (wX neg):=by
 intro π H μ x y d μ' vx vy Q R ix iy hm k
 unfold sG at hm
 split at hm
 ·cases hm;cases ix;cases iy
  exact ⟨_,rfl,.inl ⟨_,rfl,k π _ H .refl R (.bl _)⟩⟩
 ·cases hm;cases ix;cases iy
  exact ⟨_,rfl,.inr ⟨⟨_,rfl⟩,k π _ H .refl R (.bl _)⟩⟩
 ·cases hm
theorem CK:OpR X (UX .Is) (wX false):=by
 intro a3G s σ H x y v u Q I rx ry h
 obtain ⟨c,rfl,h⟩:=h
 cases ry
 rcases h with ⟨b,rfl,q⟩|⟨⟨i,rfl⟩,q⟩
 ·cases rx
  exact TF (kU I q (by cases b<;>cases c<;>rfl))
 ·obtain ⟨t,rfl⟩:=rx
  exact TF (kU I q rfl)
theorem CL:OpR X (UX .IsNot) (wX true):=by
 intro a3G s σ H x y v u Q I rx ry h
 obtain ⟨c,rfl,h⟩:=h
 cases ry
 rcases h with ⟨b,rfl,q⟩|⟨⟨i,rfl⟩,q⟩
 ·cases rx
  exact TF (kU I q (by cases b<;>cases c<;>rfl))
 ·obtain ⟨t,rfl⟩:=rx
  exact TF (kU I q rfl)
theorem sI {neg:Bool}(x y:D)(μ:Hm)(r:D×Hm)(h:d5 neg x y μ=some r):sG neg x y μ=some r\/iC neg x y μ=some r:=by
 unfold d5 at h
 split at h
 ·exact .inl h
 ·exact .inr h
theorem Mq (ha:QE X a ma)(hb:QE X b mb):QE X (.Compare a [.Is] [b] pos) (aB (d5 false) ma mb):=lG ⟨eH CK sH ha.h hb.h (dG _)⟩ (Ld ha hb) (fN sI)
theorem Mr (ha:QE X a ma)(hb:QE X b mb):QE X (.Compare a [.IsNot] [b] pos) (aB (d5 true) ma mb):=lG ⟨eH CL sH ha.h hb.h (dG _)⟩ (Le ha hb) (fN sI)
theorem Ms (ha:QE X a ma)(hb:QE X b mb):QT X (.Compare a [.Is] [b] pos) (aP (aB (d5 false) ma mb)):=mW ⟨eI CK sH ha.h hb.h (dG _)⟩ (Lf ha hb) (mX (fN sI))
theorem Mt (ha:QE X a ma)(hb:QE X b mb):QT X (.Compare a [.IsNot] [b] pos) (aP (aB (d5 true) ma mb)):=mW ⟨eI CL sH ha.h hb.h (dG _)⟩ (Lg ha hb) (mX (fN sI))
end
noncomputable def lQ:MF:=fun ds μ=>match ds with
 | [x]=>(bA μ x).bind fun xs=>(jU xs).map fun is=>(.int is.sum,μ)
 | _=>none
noncomputable def CM (K:To):List V->Hp->VK->Prop:=fun xs H Q=>∃ (p:Addr)(is:List Int),xs=[.ref p]/\(SqL K H p (is.map V.int)\/SqT K H p (is.map V.int))/\Q (.int is.sum) H
theorem Mu {K:To}:dP K lQ (CM K):=by
 intro π H μ xs d μ' vs Q R i hm k
 unfold lQ at hm
 split at hm
 ·obtain ⟨ys,h1,hm⟩:=Tj.mp hm
  obtain ⟨is,h2,hm⟩:=Tq.mp hm
  cases hm
  cases i with
  | cons i t=>
   cases t
   obtain ⟨p,ws,rfl,q,hd⟩:=k9 R i h1
   rw [sF h2] at hd
   have:=ints_of' hd
   subst this
   exact ⟨p,is,rfl,q,k π _ H .refl R (.int _)⟩
 ·cases hm
theorem CN (is:List Int):∀ n,n<=is.length->preSum (fun i=>is.getD i 0) n=(is.take n).sum
 | 0,_=>rfl
 | n+1,h=>by
  have ih:=CN is n (by omega)
  have e:is.take (n+1)=is.take n++[is[n]]:=by rw [XC,T8 (by omega)];rfl
  show preSum (fun i=>is.getD i 0) n+is.getD n 0=_
  rw [ih,e,List.sum_append]
  simp [Vb,T8 (show n<is.length by omega)]
section
variable {X:Cx}
theorem CO {a3G:List (Addr×Obj)}{σ:St}{H:Hp}{s s2 s':Tv}{wr:List Addr}(I:Inv X a3G σ H s)(m:Moved wr (fun a b=>b=a) s2 s')(e2:∀ b o,s.heap.get? b=some o->s2.heap.get? b=some o)(hw:∀ b∈wr,s.heap.objs.size<=b)(hs:s2.gens=s.gens/\s2.drawn=s.drawn/\s2.os=s.os):Inv X a3G σ H s':=by
 have hk:∀ b o,s.heap.get? b=some o->s'.heap.get? b=some o:=fun b o e=>m.heap b o (fun z=>absurd (T6 (TB e) (hw b z)) (VO _)) (e2 b o e)
 have h1:s'.gens=s.gens:=m.gens.trans hs.1
 have h2:s'.drawn=s.drawn:=m.drawn.trans hs.2.1
 have h3:s'.os=s.os:=m.os.trans hs.2.2
 obtain ⟨h',g',d',t',o'⟩:=s'
 dsimp only at h1 h2 h3 hk
 subst h1 h2 h3
 exact I.kept (t':=t') hk
theorem CP {is:List Int}{its:List Value}(r:Vals (is.map V.int) its){i:Nat}{v:Value}(h:its.toArray[i]? = some v):∃ t,v=.int (is.getD i 0) t:=by
 have h':its[i]? = some v:=by simpa using h
 have hi:i<is.length:=by
  have:=(Tw.mp h').1
  have:=r.length
  rw [Tt] at this
  omega
 obtain ⟨u,h1,h2⟩:=r.get (i:=i) (x:=.int is[i]) (by rw [Uu,T8 hi];rfl)
 rw [h'] at h1
 cases h1
 obtain ⟨t,rfl⟩:=h2
 exact ⟨t,by simp [Vb,hi]⟩
theorem Mv (hc:X.calm=true):CallR X (.builtin "sum") (CM X.K):=by
 intro a3G s σ H xs us Q I r h
 obtain ⟨p,is,rfl,hq,q⟩:=h
 obtain ⟨u,rfl,ru⟩:=eG r
 cases ru
 have hh:X.A.in1.handled=none:=I.ok.hd hc
 have fin:∀ its:List Value,Vals (is.map V.int) its->preSum (fun i=>is.getD i 0) its.toArray.size=is.sum:=fun its rv=>by
  have hlen:its.toArray.size=is.length:=by rw [TU,<- rv.length,Tt]
  rw [hlen,CN is _ (TK _),W3]
 rcases hq with hq|hq
 ·obtain ⟨its,rv,pl,hz⟩:=I.list hq
  refine a2o (Wu pl.isList ?_)
  have hne:p≠s.heap.objs.size:=by
   obtain ⟨o,ho,_⟩:=pl.isList
   exact TV (TB ho)
  refine ⟨s.heap.objs.size,_,_,_,_,_,_,fun i=>is.getD i 0,rfl,(a0E hh _ p hne its.toArray).toS,⟨⟨_,TZ _ rfl,rfl,rfl⟩,pl.isList.push _⟩,?_,fun i v hv=>CP rv hv,fun s' t' m=>?_⟩
  ·intro b hb
   show b<(s.heap.push _).objs.size
   rw [WQ]
   obtain ⟨o,ho,_⟩:=pl.isList
   have hp:=TB ho
   simp only [Ug,W4,or_false] at hb
   rcases hb with rfl|rfl
   ·exact Wx _
   ·exact Y1 hp
  ·refine ⟨.int is.sum,H,CO I m (fun b o e=>Tu _ e) (fun b hb=>?_) ⟨rfl,rfl,rfl⟩,⟨t',?_⟩,q⟩
   ·have e:b=s.heap.objs.size:=by simpa using hb
    exact Ye e.symm
   ·rw [fin its rv]
 ·obtain ⟨its,rv,pl,hz⟩:=I.tuple hq
  refine a2o (WT (show s.heap.IsTuple p its.toArray from pl) ?_)
  have hne:p≠s.heap.objs.size:=by
   obtain ⟨o,ho,_⟩:=pl
   exact TV (TB ho)
  refine ⟨s.heap.objs.size,_,_,_,_,_,_,fun i=>is.getD i 0,rfl,(a0j hh _ p hne its.toArray).toS,⟨⟨_,TZ _ rfl,rfl,rfl⟩,W2 pl _⟩,?_,fun i v hv=>CP rv hv,fun s' t' m=>?_⟩
  ·intro b hb
   show b<(s.heap.push _).objs.size
   rw [WQ]
   obtain ⟨o,ho,_⟩:=pl
   have hp:=TB ho
   simp only [Ug,W4,or_false] at hb
   rcases hb with rfl|rfl
   ·exact Wx _
   ·exact Y1 hp
  ·refine ⟨.int is.sum,H,CO I m (fun b o e=>Tu _ e) (fun b hb=>?_) ⟨rfl,rfl,rfl⟩,⟨t',?_⟩,q⟩
   ·have e:b=s.heap.objs.size:=by simpa using hb
    exact Ye e.symm
   ·rw [fin its rv]
end
noncomputable def dW {α:Type}(xs:List α)(lo hi st:Option Int):List α:=(a1X (Wc lo hi st xs.length).1 (Wc lo hi st xs.length).2.1 (Wc lo hi st xs.length).2.2).filterMap (xs[·]?)
noncomputable def nH (a:ME)(lo hi st:MO):ME:=fun ρ μ=>(a ρ μ).bind fun p=>(lo ρ p.2).bind fun q=>(hi ρ q.2).bind fun r=>(st ρ r.2).bind fun t=>
 if t.1≠some 0 then (dR t.2 p.1).bind fun xs=>if (dW xs q.1 r.1 t.1).length<=TL then some (.loc t.2.length,t.2++[.lst (dW xs q.1 r.1 t.1)]) else none else none
theorem Mw {K:To}{π:Nat->Addr}{n:Nat}{H:Hp}{vs:List V}{ds:List D}(h:IsDs K π n H vs ds)(lo hi st:Option Int):IsDs K π n H (dW vs lo hi st) (dW ds lo hi st):=by
 unfold dW
 rw [h.length]
 generalize a1X _ _ _=l
 induction l with
 | nil=>exact .nil
 | cons i l ih=>
  rw [VJ,VJ]
  cases hi:ds[i]? with
  | none=>
   have:vs[i]? = none:=by
    rw [U0] at hi ⊢
    rw [h.length];exact hi
   rw [this]
   exact ih
  | some d=>
   obtain ⟨v,h1,h2⟩:=h.get hi
   rw [h1]
   exact .cons h2 ih
theorem Mx {vs:List V}{its:List Value}(r:Vals vs its)(lo hi st:Option Int):Vals (dW vs lo hi st) (dW its lo hi st):=by
 unfold dW
 rw [r.length]
 generalize a1X _ _ _=l
 induction l with
 | nil=>exact .nil
 | cons i l ih=>
  rw [VJ,VJ]
  cases hi:vs[i]? with
  | none=>
   have:its[i]? = none:=by
    rw [U0] at hi ⊢
    rw [<- r.length];exact hi
   rw [this]
   exact ih
  | some v=>
   obtain ⟨u,h1,h2⟩:=r.get hi
   rw [h1]
   exact .cons h2 ih
section
variable {X:Cx}{e:TJ}{te:TE}{lo hi:Option TJ}{st:TJ}{tl th tt:TO}{pos p2:Vk}
noncomputable def My (K:To)(te:TE)(tl th tt:TO):TE:=fun σ H Q=>te σ H fun x H1=>tl σ H1 fun l H2=>th σ H2 fun u H3=>tt σ H3 fun t H4=>t≠some 0/\∃ a xs,x=.ref a/\SqL K H4 a xs/\(dW xs l u t).length<=TL/\∀ p,H4 p=none->Q (.ref p) (aH H4 p (.lst (dW xs l u t)))
open PyProof.Rows in
theorem Mz (he:PE X e te)(hl:PO X lo tl)(hu:PO X hi th)(ht:PO X (some st) tt):PE X (.Subscript e (.Slice lo hi (some st) p2) pos) (My X.K te tl th tt):=by
 intro a3G s σ H Q I h
 refine a0k (aO (he a3G s σ H _ I h) fun v s1 ⟨x,H1,I1,r1,q1⟩=>?_)
 refine wpAny_Slice (aO (hl a3G s1 σ H1 _ I1 q1) fun vl s2 ⟨l,H2,I2,pl,q2⟩=>aO (hu a3G s2 σ H2 _ I2 q2) fun vu s3 ⟨u,H3,I3,pu,q3⟩=>aO (ht a3G s3 σ H3 _ I3 q3) fun vt s4 ⟨t,H4,I4,pt,q4⟩=>?_)
 obtain ⟨h0,a,xs,rfl,hx,hz,q⟩:=q4
 cases r1
 have I5:Inv X a3G σ H4 { s4 with heap:=s4.heap.push { cls:=.type "slice",data:=.fields #[vl,vu,vt] } }:=I4.kept (t':=s4.toks) fun b ob q=>Tu _ q
 obtain ⟨its,r,hl',hz'⟩:=I5.list hx
 have hlen:=r.length
 show TY (T7 X.prog X.w) X.A (Y5 e (.Slice lo hi (some st) p2) (.ref a) (.ref s4.heap.objs.size)) (EP X a3G σ Q) X.xe { s4 with heap:=s4.heap.push { cls:=.type "slice",data:=.fields #[vl,vu,vt] } }
 refine a3u (ops:=[.ref a,.ref s4.heap.objs.size]) hl'.isList.typeIs Zo.lookup ?_ (by with_unfolding_all rfl)
 refine a0C hl'.isList (Zn ..) pl pu pt h0 ?_ (by rw [TU]<;>omega)
 have hpick:a0N its.toArray l u t=(dW its l u t).toArray:=by
  unfold a0N dW
  simp
 rw [hpick]
 refine ⟨.ref _,_,I5.laid (t':=s4.toks) (o:=.lst (dW xs l u t)) (fun b ob q=>Tu _ q) (TK _) ?_,rfl,q _ (I5.hok.fresh (TK _))⟩
 exact ⟨hz,_,0,Mx r l u t,TZ _ rfl⟩
theorem MB {me:ME}{ml mh mt:MO}(he:QE X e me)(hl:QO X lo ml)(hu:QO X hi mh)(ht:QO X (some st) mt):QE X (.Subscript e (.Slice lo hi (some st) p2) pos) (nH me ml mh mt):=⟨cK (Mz he.h hl.h hu.h ht.h) (by
 rintro σ H Q ⟨π,ρ,μ,d,μ',R,E,hm,k⟩
 obtain ⟨⟨x,μ1⟩,h1,hm⟩:=Tj.mp hm
 obtain ⟨⟨l,μ2⟩,h2,hm⟩:=Tj.mp hm
 obtain ⟨⟨u,μ3⟩,h3,hm⟩:=Tj.mp hm
 obtain ⟨⟨t,μ4⟩,h4,hm⟩:=Tj.mp hm
 refine ⟨π,ρ,μ,x,μ1,R,E,h1,fun π1 v1 H1 e1 R1 i1=>⟨π1,ρ,μ1,l,μ2,R1,E.mono e1,h2,fun π2 H2 e2 R2=>⟨π2,ρ,μ2,u,μ3,R2,(E.mono e1).mono e2,h3,fun π3 H3 e3 R3=>⟨π3,ρ,μ3,t,μ4,R3,((E.mono e1).mono e2).mono e3,h4,fun π4 H4 e4 R4=>?_⟩⟩⟩⟩
 split at hm
 ·rename_i h0
  obtain ⟨xs,h5,hm⟩:=Tj.mp hm
  split at hm
  ·rename_i hz
   cases hm
   obtain ⟨p,vs,rfl,q,hd⟩:=lO R4 (((i1.mono e2).mono e3).mono e4) h5
   have hpk:=Mw hd l u t
   refine ⟨h0,p,vs,rfl,q,by rw [hpk.length];exact hz,fun p' hp=>?_⟩
   obtain ⟨e5,R5,_⟩:=R4.alloc (c:=.lst (dW xs l u t)) (o:=.lst (dW vs l u t)) hp hpk
   exact k _ _ _ ((((e1.trans e2).trans e3).trans e4).trans e5) R5 fW
  ·cases hm
 ·cases hm)⟩
end
section
variable {X:Cx}{a3G:List (Addr×Obj)}{σ:St}{H:Hp}{s:Tv}{h':UE}
theorem CQ {t':Nat}{ch:List Addr}{a:Addr}{o:HO}(I:Inv X a3G σ H s)(k:∀ b u,b∉ch->s.heap.get? b=some u->h'.get? b=some u)(hf:∀ b∈ch,eT X a3G H b)(hp:s.heap.objs.size<=a)
  (new:ObjOk X.prog X.w (aH H a o) h' a o):Inv X a3G σ (aH H a o) { s with heap:=h',toks:=t' }:=by
 have hn:=I.hok.fresh hp
 have nit:∀ b u,H b=some u->b∉ch:=fun b u e z=>by
  have:=(hf b z).1
  rw [e] at this;cases this
 refine I.step (g':=s.gens) (d':=s.drawn) (ch:=ch) (fun b hb=>let ⟨f0,f1,f2,f3,f4,f5⟩:=hf b hb;⟨f3,f1,f4,f5⟩) (fun b o _ _ hc e _=>k b o hc e) (fun b o _ _ hc e _=>⟨o.slots,k b o hc e⟩) (fun b ob hc e n=>?_)
  (fun b o hc e=>⟨o,k b o hc e⟩) (fun b xs q=>?_) (fun b ob xs q=>?_) (fun b ps q=>?_) (fun m hm=>?_) (fun b u e=>?_) I.bare
 ·rw [aW (TV (T6 (TB e) hp))];exact n
 ·rw [aW (d9 q hn)];exact q
 ·rw [aW (d9 q hn)];exact q
 ·exact ⟨#[],by rw [aW (d9 q hn),q];simp⟩
 ·obtain ⟨o,es,ep,ho,r⟩:=hm
  exact ⟨o,es,ep,k _ o (fun z=>(hf _ z).2.1 rfl) ho,r⟩
 ·by_cases hb:b=a
  ·subst hb;rw [bU] at e;cases e;exact new
  ·rw [aW hb] at e
   refine (I.hok b u e).stay (fun c v hc q=>k c v ?_ q) (fun c q=>by rw [aW (d9 q hn)];exact q) fun c xs q=>by rw [aW (d9 q hn)];exact q
   rcases hc with z|z
   ·rw [z];exact nit b u e
   ·exact nit c _ z
theorem CS {t':Nat}{ch:List Addr}(I:Inv X a3G σ H s)(k:∀ b u,b∉ch->s.heap.get? b=some u->h'.get? b=some u)(hf:∀ b∈ch,eT X a3G H b):Inv X a3G σ H { s with heap:=h',toks:=t' }:=by
 have nit:∀ b u,H b=some u->b∉ch:=fun b u e z=>by
  have:=(hf b z).1
  rw [e] at this;cases this
 refine I.step (g':=s.gens) (d':=s.drawn) (ch:=ch) (fun b hb=>let ⟨f0,f1,f2,f3,f4,f5⟩:=hf b hb;⟨f3,f1,f4,f5⟩) (fun b o _ _ hc e _=>k b o hc e) (fun b o _ _ hc e _=>⟨o.slots,k b o hc e⟩) (fun b ob hc e n=>n)
  (fun b o hc e=>⟨o,k b o hc e⟩) (fun b xs q=>q) (fun b ob xs q=>q) (fun b ps q=>⟨#[],by rw [q];simp⟩) (fun m hm=>?_) (fun b u e=>?_) I.bare
 ·obtain ⟨o,es,ep,ho,r⟩:=hm
  exact ⟨o,es,ep,k _ o (fun z=>(hf _ z).2.1 rfl) ho,r⟩
 ·refine (I.hok b u e).stay (fun c v hc q=>k c v ?_ q) (fun c q=>q) fun c xs q=>q
  rcases hc with z|z
  ·rw [z];exact nit b u e
  ·exact nit c _ z
end
noncomputable def wY (K:To)(a:Addr):It:=
 ⟨fun i H=>∃ xs x,SqL K H a xs/\xs[i]? = some x,fun i H x H'=>∃ p v,x=.ref p/\H p=none/\H'=aH H p (.tup [.int i,v])/\∀ xs,SqL K H a xs->xs[i]? = some v,fun i H=>∃ xs,SqL K H a xs/\xs.length<=i⟩
theorem MC {P:Ub}{w:Up}{K:To}{es:List TJ}{kx:Nat}{pt:Vk}(a e it:Addr)(hei:e≠it) :
  Turn P w K (.Tuple es kx pt) (wY K a) [e,it] e (fun i h=>∃ old,IsEnum h e it i old/\h.IsListIter it a i) where
 mem:=by simp
 obj:=fun i h ⟨old,st,st2⟩ b hb=>by
  have hb':b=e\/b=it:=by simpa using hb
  rcases hb' with rfl|rfl
  ·exact ⟨_,st,fun v z=>by
    have z':TR _=Za v:=z
    cases z'⟩
  ·obtain ⟨o,e1,c,d⟩:=st2
   exact ⟨o,e1,fun v z=>by rw [d] at z;cases z⟩
 keep:=fun i h h' ⟨old,st,st2⟩ k=>⟨old,k e (by simp) _ st,st2.at fun o e1=>k it (by simp) o e1⟩
 item:=by
  intro X hP hw hK hc i a3G s σ H E I hf ⟨old,st,st2⟩ hg
  subst hP hw hK
  obtain ⟨xs,x,hq,hx⟩:=hg
  obtain ⟨its,rv,p,hz⟩:=I.list hq
  obtain ⟨u,hu,ru⟩:=rv.get hx
  refine wpAny_pyNext_enum_item st st2 p.isList (x:=u) (by simpa using hu) hei fun h1 ho hit ht hsz hk=>⟨_,rfl,wpAny_letOwnedTupleGo_enum ho fun h2 he2 hs2=>?_⟩
  have hlt:e<s.heap.objs.size:=TB st
  have hne:s.heap.objs.size≠e:=Vq hlt
  have ht2:h2.get? s.heap.objs.size=some { cls:=.type "tuple",data:=.seq #[.int i s.toks,u] }:=(hs2.2 _ hne).trans ht
  have hfr:H s.heap.objs.size=none:=I.hok.fresh (TK _)
  refine ⟨.ref s.heap.objs.size,aH H s.heap.objs.size (.tup [.int i,x]),?_,rfl,⟨s.heap.objs.size,x,rfl,hfr,rfl,fun ys hy=>by rw [I.list_inj hy hq];exact hx⟩,⟨u,he2,hit.extBut hs2.extBut (Va hei)⟩,fun b hb=>?_⟩
  ·refine CQ (s:=s) (h':=h2) (t':=s.toks+1) (ch:=[e,it]) I (fun b ob hb eb=>?_) hf (TK _) ?_
   ·have hb':b≠e/\b≠it:=by simpa using hb
    exact (hs2.2 b hb'.1).trans (hk b ob hb'.1 hb'.2 eb)
   ·exact ⟨by show (2:Nat)<=TL;decide,[.int i s.toks,u],.cons ⟨_,rfl⟩ (.cons ru .nil),_,ht2,rfl,0,rfl,rfl⟩
  ·have hb':b=e\/b=it:=by simpa using hb
   have hn:=(hf b hb).1
   obtain ⟨o,ho2,_⟩:=st2
   rw [aW]
   ·exact hn
   ·rcases hb' with rfl|rfl
    ·exact TV hlt
    ·exact TV (TB ho2)
 done:=by
  intro X hP hw hK hc i a3G s σ H E I hf ⟨old,st,st2⟩ hg
  subst hP hw hK
  obtain ⟨xs,hq,hx⟩:=hg
  obtain ⟨its,rv,p,hz⟩:=I.list hq
  have hl:=rv.length
  refine wpAny_pyNext_enum_end (I.ok.hd hc) st st2 p.isList (by simp;omega) fun h' eb=>⟨rfl,CS (t':=s.toks) (ch:=[e,it]) I (fun b o hb z=>eb b o ?_ z) hf⟩
  have hb':b≠e/\b≠it:=by simpa using hb
  exact hb'.2
 self:=fun _ _ _ _ _ ⟨old,st,_⟩ h=>a2i st h
structure QJT (X:Cx)(e:TJ)(m:MI):Prop where
 h:∀ es k p,PI X (.Tuple es k p) e (iW X.K m)
theorem QJ.t {X:Cx}{e:TJ}{m:MI}(h:QJ X e m):QJT X e m:=⟨fun es k p=>h.h _⟩
noncomputable def nI (x:D):fM:=fun μ i=>(bA μ x).map fun xs=>(xs[i]?).map fun d=>.tup [.int i,d]
noncomputable def lR (ms:MA):MI:=fun ρ μ=>(ms ρ μ).bind fun p=>match p.1 with
 | [x]=>(dR p.2 x).map fun xs=>(nI x,xs.length+1,p.2)
 | _=>none
theorem MH {K:To}{π:Nat->Addr}{μ:Hm}{H:Hp}{v:V}{x:D}{xs:List D}(R:Rp K π H μ)(h:IsD K π μ.length H v x)(hs:dR μ x=some xs):∃ a,v=.ref a/\(∃ vs,SqL K H a vs)/\Wk K (wY K a) (nI x) π μ.length H:=by
 have hw:bA μ x=some xs:=by
  cases x with
  | rol ys=>exact hs
  | loc b=>exact hs
  | _=>cases hs
 obtain ⟨p,vs,rfl,hq,_⟩:=lO R h hs
 refine ⟨p,rfl,⟨vs,hq⟩,?_⟩
  -- the list as it stands later
 have later:∀ π' μ' H',Ext π μ.length H π' μ'.length H'->Rp K π' H' μ'->∀ ys,bA μ' x=some ys->∃ ws,SqL K H' p ws/\IsDs K π' μ'.length H' ws ys:=fun π' μ' H' e R' ys hy=>by
  have i':=h.mono e
  have hl:dR μ' x=some ys:=by
   cases x with
   | rol zs=>exact hy
   | loc b=>exact hy
   | _=>cases hs
  obtain ⟨p',ws,e1,q1,d1⟩:=lO R' i' hl
  cases e1
  exact ⟨ws,q1,d1⟩
 refine ⟨fun π' μ' H' i e R' z=>?_,fun π' μ' H' i d e R' z=>?_⟩
 ·obtain ⟨ys,h1,h2⟩:=Tq.mp z
  obtain ⟨ws,q1,d1⟩:=later π' μ' H' e R' ys h1
  have h3:ys[i]? = none:=by
   cases q:ys[i]? with
   | none=>rfl
   | some d=>rw [q] at h2;cases h2
  exact ⟨ws,q1,by rw [d1.length];exact U0.mp h3⟩
 ·obtain ⟨ys,h1,h2⟩:=Tq.mp z
  obtain ⟨d',h3,h4⟩:=Tq.mp h2
  subst h4
  obtain ⟨ws,q1,d1⟩:=later π' μ' H' e R' ys h1
  obtain ⟨v,h5,h6⟩:=d1.get h3
  refine ⟨⟨ws,v,q1,h5⟩,?_⟩
  rintro y H2 ⟨t,v',rfl,hn,rfl,hv⟩
  have:=hv ws q1
  rw [h5] at this
  cases this
  obtain ⟨e2,R2⟩:=R'.fresh (o:=.tup [.int i,v]) hn
  exact ⟨e2,R2,.tup (.of bU) (.cons (.int _) (.cons (h6.mono e2) .nil))⟩
noncomputable def MJ (K:To)(ta:TA):TI:=fun σ H R=>ta σ H fun vs H1=>∃ a,vs=[.ref a]/\(∃ xs,SqL K H1 a xs)/\R (wY K a) H1
open PyProof.Rows in
theorem MK {X:Cx}{a:TJ}{ta:TA}{p pos pt:Vk}{es:List TJ}{kx:Nat}(hg:Gl X "enumerate") (hm:X.mg "enumerate" = none) (ha:PA X [a] ta)(hs:Ul [a] X.env=[(false,eval a X.env)]):PI X (.Tuple es kx pt) (.Call (.Name "enumerate" p) [a] [] pos) (MJ X.K ta):=by
 intro a3G s σ H R I h
 refine Call_ (gJ I hg hm Boot.«enumerate» (callWith_type1 (aO (ha pos a3G s σ H _ I h) fun us s1 ⟨vs,H1,I1,r1,q1⟩=>?_) hs rfl))
 obtain ⟨a0,rfl,⟨ws,hq⟩,q⟩:=q1
 obtain ⟨u,rfl,ru⟩:=eG r1
 cases ru
 obtain ⟨its,rv,pl,hz⟩:=I1.list hq
 refine call_enumerate_list pl.isList fun h' he hit hsz hk=>?_
 refine a2i he ?_
 have I2:Inv X a3G σ H1 { s1 with heap:=h' }:=I1.kept (t':=s1.toks) hk
 refine ⟨s1.heap.objs.size+1,[s1.heap.objs.size+1,s1.heap.objs.size],_,_,H1,rfl,I2,MC a0 _ _ (Nat.succ_ne_self _),⟨_,he,hit⟩,fun b hb=>?_,q⟩
 have hb':b=s1.heap.objs.size+1\/b=s1.heap.objs.size:=by simpa using hb
 rcases hb' with rfl|rfl
 ·exact I1.fpOk (Ws _) (I1.hok.fresh (Ws _))
 ·exact I1.fpOk (TK _) (I1.hok.fresh (TK _))
theorem ML {X:Cx}{a:TJ}{ms:MA}{n:Nat}{p pos:Vk}(hgl:Gl X "enumerate") (hmg:X.mg "enumerate" = none) (ha:QA X [a] ms n):QJT X (.Call (.Name "enumerate" p) [a] [] pos) (lR ms):=⟨fun es kx pt a3G s σ H R I hw=>by
 have hs:=ha.s
 rw [UA,Ts] at hs
 obtain ⟨π,ρ,μ,src,n',μ',Rr,E,hm,k⟩:=hw
 obtain ⟨⟨x,μ1⟩,h1,hm⟩:=Tj.mp hm
 refine MK hgl hmg ha.h (eC hs.1) a3G s σ H R I ⟨π,ρ,μ,x,μ1,Rr,E,h1,fun π1 vs H1 e1 R1 i1=>?_⟩
 dsimp only at hm
 split at hm
 ·rename_i x
  obtain ⟨xs,h2,hm⟩:=Tq.mp hm
  cases hm
  cases i1 with
  | cons i1 t1=>
   cases t1
   obtain ⟨a0,rfl,hq,W⟩:=MH R1 i1 h2
   exact ⟨a0,rfl,hq,k π1 H1 _ e1 R1 W⟩
 ·cases hm⟩
section
variable {X:Cx}{pos:Vk}
theorem MM {tg iter:TJ}{mi:MI}{g:MG}{mb:MS}{body:List Stmt}(hi:PI X tg iter (iW X.K mi))(hg:QG X tg g)(hb:QB X body mb)(hp:ZN (T7 X.prog X.w) X.A X.env X.xe)(hc:X.calm=true)(hs:eY iter=true) :
  QS X (.For tg iter body [] pos) (dD mi g mb):=⟨gN (GJ hp hc hi hg.h hb.h (by intro z;cases iter<;>first|rfl|cases hs)) (by
 rintro E σ H ⟨π,ρ,μ,fl,ρ',μ',R,EN,hm,k⟩
 obtain ⟨⟨src,n,μ1⟩,h1,hm⟩:=Tj.mp hm
 refine ⟨π,ρ,μ,src,n,μ1,R,EN,h1,fun π1 H1 J e1 R1 W=>?_⟩
 have kk:kX X.K E π1 μ1.length H1 fl ρ' μ':=by
  cases fl with
  | nx=>exact fun π3 σ3 H3 e3 R3 E3=>k π3 σ3 H3 (e1.trans e3) R3 E3
  | bk=>exact fun π3 σ3 H3 e3 R3 E3=>k π3 σ3 H3 (e1.trans e3) R3 E3
  | ct=>exact fun π3 σ3 H3 e3 R3 E3=>k π3 σ3 H3 (e1.trans e3) R3 E3
  | rt d=>exact KC.after k e1
 exact JD W kk .refl R1 (EN.mono e1) hm)⟩
theorem MN {st:Stmt}{m m1 m2:MS}(h1:QS X st m1)(h2:QS X st m2)(h:∀ ρ μ r,m ρ μ=some r->m1 ρ μ=some r\/m2 ρ μ=some r):QS X st m:=⟨fun a3G s σ H D I q=>by
 obtain ⟨π,ρ,μ,fl,ρ',μ',R,E,hm,k⟩:=q
 rcases h ρ μ _ hm with z|z
 ·exact h1.h a3G s σ H D I ⟨π,ρ,μ,fl,ρ',μ',R,E,z,k⟩
 ·exact h2.h a3G s σ H D I ⟨π,ρ,μ,fl,ρ',μ',R,E,z,k⟩⟩
noncomputable def lS (put:D->D->D->Hm->Option Hm)(o i v:ME):MS:=fun ρ μ=>(v ρ μ).bind fun p=>(o ρ p.2).bind fun q=>(i ρ q.2).bind fun r=>(put q.1 r.1 p.1 r.2).map fun μ'=>(.nx,ρ,μ')
noncomputable def pK:D->D->D->Hm->Option Hm
 | .loc a,.int i,d,μ=>match μ[a]? with
  | some (.lst xs)=>(iR xs.length i).map fun j=>μ.set a (.lst (xs.set j d))
  | _=>none
 | _,_,_,_=>none
noncomputable def pL:D->D->D->Hm->Option Hm
 | .loc a,y,d,μ=>match μ[a]? with
  | some (.dT kvs)=>(dZ y).bind fun k=>if kvs.length<TL then some (μ.set a (.dT (cN kvs k d))) else none
  | _=>none
 | _,_,_,_=>none
noncomputable def nJ:D->D->D->Hm->Option Hm:=fun o i d μ=>match o with
 | .loc a=>match μ[a]? with
  | some (.dT _)=>pL o i d μ
  | _=>pK o i d μ
 | _=>none
noncomputable def jC:=lS nJ
theorem CT {K:To}{π:Nat->Addr}{n:Nat}{H:Hp}:∀ {vs:List V}{ds:List D}(j:Nat){v:V}{d:D},IsDs K π n H vs ds->IsD K π n H v d->IsDs K π n H (vs.set j v) (ds.set j d)
 | _,_,j,_,_,.nil,h=>by simp;exact .nil
 | _,_,0,_,_,.cons _ t,h=>.cons h t
 | _,_,j+1,_,_,.cons h0 t,h=>.cons h0 (CT j t h)
noncomputable def MP (td ty tv:TE):TS:=fun D σ H=>tv σ H fun v H1=>td σ H1 fun x H2=>ty σ H2 fun y H3=>AL x y v H3 fun H4=>D.nx σ H4
open PyProof.Rows in
theorem MQ {o i value:TJ}{pos':Vk}{td ty tv:TE}(ho:PE X o td)(hi:PE X i ty)(hv:PE X value tv)(hs:Xr value (some (.Subscript o i pos')) pos.line X.env=pure false):PS X (.Assign [.Subscript o i pos'] value pos) (MP td ty tv):=by
 intro a3G s σ H D I h
 refine a1b (aO (hv a3G s σ H _ I h) fun r s1 ⟨v,H1,I1,rv,q1⟩=>aO (ho a3G s1 σ H1 _ I1 q1) fun u s2 ⟨x,H2,I2,rx,q2⟩=>aO (hi a3G s2 σ H2 _ I2 q2) fun iv s3 ⟨y,H3,I3,ry,q3⟩=>?_) hs
 exact aO (HG a3G s3 σ H3 x y v u iv r _ I3 rx ry rv q3) fun _ s4 ⟨H4,I4,q4⟩=>⟨σ,H4,I4,q4⟩
theorem MU {o i e:TJ}{mo mi me:ME}{tpos:Vk}(ho:QE X o mo)(hi:QE X i mi)(he:QE X e me)(h:eZ e=true):QS X (.Assign [.Subscript o i tpos] e pos) (lS pK mo mi me):=
 ⟨gN (MQ ho.h hi.h he.h (lD h)) (by
 rintro E σ H ⟨π,ρ,μ,fl,ρ',μ',R,EN,hm,k⟩
 obtain ⟨⟨x,μ1⟩,h1,hm⟩:=Tj.mp hm
 obtain ⟨⟨y,μ2⟩,h2,hm⟩:=Tj.mp hm
 obtain ⟨⟨z,μ3⟩,h3,hm⟩:=Tj.mp hm
 obtain ⟨μ4,h4,hm⟩:=Tq.mp hm
 cases hm
 refine ⟨π,ρ,μ,x,μ1,R,EN,h1,fun π1 v1 H1 e1 R1 i1=>⟨π1,ρ,μ1,y,μ2,R1,EN.mono e1,h2,fun π2 v2 H2 e2 R2 i2=>⟨π2,ρ,μ2,z,μ3,R2,(EN.mono e1).mono e2,h3,fun π3 v3 H3 e3 R3 i3=>?_⟩⟩⟩
 dsimp only at h4
 cases y with
 | loc a=>
  cases z with
  | int i=>
   simp only [pK] at h4
   split at h4
   ·rename_i xs hx
    obtain ⟨j,h5,h6⟩:=Tq.mp h4
    subst h6
    obtain ⟨vs,h7,h8⟩:=R3.lst _ xs hx
    have i2':=i2.mono e3
    cases i2'
    cases i3
    have hlt:=(Tw.mp hx).1
    have iv:=(i1.mono e2).mono e3
    refine ⟨_,vs,i,j,rfl,rfl,h7,by rw [h8.length];exact h5,?_⟩
    obtain ⟨e4,R4⟩:=R3.put (c:=.lst (xs.set j x)) (o:=.lst (vs.set j v1)) hlt h7 (.inl ⟨vs,rfl⟩) (CT j h8 iv)
    exact k π3 σ _ (((e1.trans e2).trans e3).trans e4) R4 ((((EN.mono e1).mono e2).mono e3).mono e4)
   ·cases h4
  | _=>simp [pK] at h4
 | _=>simp [pK] at h4)⟩
theorem MV {f f1 f2:D->D->D->Hm->Option Hm}{mo mi me:ME}(h:∀ x y z μ r,f x y z μ=some r->f1 x y z μ=some r\/f2 x y z μ=some r):∀ ρ μ r,lS f mo mi me ρ μ=some r->lS f1 mo mi me ρ μ=some r\/lS f2 mo mi me ρ μ=some r:=by
 intro ρ μ r hm
 obtain ⟨p,h1,hm⟩:=Tj.mp hm
 obtain ⟨q,h2,hm⟩:=Tj.mp hm
 obtain ⟨t,h3,hm⟩:=Tj.mp hm
 obtain ⟨μ',h4,hm⟩:=Tq.mp hm
 rcases h _ _ _ _ _ h4 with z|z
 ·exact .inl (Tj.mpr ⟨p,h1,Tj.mpr ⟨q,h2,Tj.mpr ⟨t,h3,Tq.mpr ⟨μ',z,hm⟩⟩⟩⟩)
 ·exact .inr (Tj.mpr ⟨p,h1,Tj.mpr ⟨q,h2,Tj.mpr ⟨t,h3,Tq.mpr ⟨μ',z,hm⟩⟩⟩⟩)
theorem CU {st:Stmt}{i:Nat}:QS X st (aS i bL):=⟨fun a3G s σ H D I q=>by
 obtain ⟨π,ρ,μ,fl,ρ',μ',R,E,hm,k⟩:=q
 cases hm⟩
end
end L3
namespace L3
open PySem L2
noncomputable def CV {α:Type}(xs:List α)(k:Nat)(d:α):List α:=xs.take k++d::xs.drop k
theorem Vals.ins {xs:List V}{us:List Value}(h:Vals xs us)(k:Nat){v:V}{u:Value}(r:RelV v u):Vals (CV xs k v) (CV us k u):=(h.take k).append (.cons r (h.drop k))
section
variable {X:Cx}
end
noncomputable def jY (μ:Hm)(x:D):List D->Option (List Bool)
 | []=>some []
 | y::r=>(cA 8 μ y x).bind fun b=>(jY μ x r).map fun c=>b::c
noncomputable def nK:D->List D->Hm->Option (D×Hm)
 | .loc a,[x],μ=>match μ[a]? with
  | some (.lst xs)=>(jY μ x xs).bind fun bs=>if bs.findIdx id<bs.length/\bs.length<=TL then some (.int (bs.findIdx id:Nat),μ) else none
  | _=>none
 | _,_,_=>none
noncomputable def CW (K:To):V->List V->Hp->VK->Prop:=fun x vs H Q=>∃ π μ a xs y dy bs,Rp K π H μ/\x=.ref (π a)/\vs=[y]/\μ[a]? = some (.lst xs)/\IsD K π μ.length H y dy/\jY μ dy xs=some bs/\bs.findIdx id<bs.length/\Q (.int (bs.findIdx id:Nat)) H
theorem MW {K:To}:iD K nK (CW K):=by
 intro π H μ x ds d μ' v vs Q R ix is hm k
 unfold nK at hm
 split at hm
 ·split at hm
  ·rename_i xs hx
   obtain ⟨bs,h1,hm⟩:=Tj.mp hm
   split at hm
   ·rename_i hb
    cases hm
    cases is with
    | cons i1 t1=>
     cases t1
     cases ix
     exact ⟨π,μ,_,xs,_,_,bs,R,rfl,rfl,hx,i1,h1,hb.1,k π _ H .refl R (.int _)⟩
   ·cases hm
  ·cases hm
 ·cases hm
section
variable {X:Cx}
theorem MX {a3G:List (Addr×Obj)}{σ:St}{H:Hp}{s:Tv}{π:Nat->Addr}{μ:Hm}(I:Inv X a3G σ H s)(R:Rp X.K π H μ){A:Ue}(hu:A.units+8<Vm){x:V}{v:Value}{dx:D}(rx:RelV x v)(ix:IsD X.K π μ.length H x dx) :
  ∀ {ys:List D}{vs:List V}{us:List Value}{bs:List Bool},IsDs X.K π μ.length H vs ys->Vals vs us->jY μ dx ys=some bs->
   ∃ g:Value->Bool,(∀ u∈us,YC A s u v (g u))/\us.map g=bs:=by
 classical
 intro ys vs us bs hi hv hm
 have each:∀ {ys:List D}{vs:List V}{us:List Value}{bs:List Bool},IsDs X.K π μ.length H vs ys->Vals vs us->jY μ dx ys=some bs->(∀ u∈us,∃ c,YC A s u v c/\∃ w dy,RelV w u/\IsD X.K π μ.length H w dy/\cA 8 μ dy dx=some c):=by
  intro ys
  induction ys with
  | nil=>
   intro vs us b hi hv hm u hu'
   cases hi
   cases hv
   cases hu'
  | cons y ys ih=>
   intro vs us b hi hv hm u hu'
   cases hi with
   | cons h t=>
    cases hv with
    | cons r rt=>
     obtain ⟨c,h1,hm⟩:=Tj.mp hm
     obtain ⟨c2,h2,hm⟩:=Tq.mp hm
     rcases Ug.mp hu' with rfl|hu'
     ·exact ⟨c,vC I R 8 hu r rx h ix h1,_,_,r,h,h1⟩
     ·exact ih t rt h2 u hu'
 have ec:=each hi hv hm
 refine ⟨fun u=>if h:u∈us then Wi (ec u h) else false,fun u hu'=>?_,?_⟩
 ·simp only [dif_pos hu']
  exact (WM (ec u hu')).1
 ·have key:∀ u (h:u∈us) w dy c,RelV w u->IsD X.K π μ.length H w dy->cA 8 μ dy dx=some c->Wi (ec u h)=c:=by
   intro u h w dy c rw' iw ew
   obtain ⟨_,w2,dy2,r2,i2,e2⟩:=WM (ec u h)
   have:w2=w:=r2.inj rw'
   subst this
   have:=vZ I R i2 iw
   subst this
   rw [e2] at ew
   exact Uc ew
  have main:∀ {ys:List D}{vs:List V}{us':List Value}{bs:List Bool},(∀ u∈us',u∈us)->IsDs X.K π μ.length H vs ys->Vals vs us'->jY μ dx ys=some bs->us'.map (fun u=>if h:u∈us then Wi (ec u h) else false)=bs:=by
   intro ys
   induction ys with
   | nil=>
    intro vs us' b hs hi hv hm
    cases hi
    cases hv
    cases hm
    rfl
   | cons y ys ih=>
    intro vs us' b hs hi hv hm
    cases hi with
    | cons h t=>
     cases hv with
     | @cons _ u _ us2 r rt=>
      obtain ⟨c,h1,hm⟩:=Tj.mp hm
      obtain ⟨c2,h2,hm⟩:=Tq.mp hm
      have eJ:u∈us:=hs u (Uy ..)
      rw [T4,ih (fun z hz=>hs z (Uo _ hz)) t rt h2,dif_pos eJ,key u eJ _ _ c r h h1]
      exact hm
  exact main (fun _ h=>h) hi hv hm
theorem MY (hu:X.A.units+20<Vm):jN X "list.index" (CW X.K):=by
 intro a3G s σ H x vs v us Q I rx rv h
 obtain ⟨π,μ,a,xs,y,dy,bs,R,rfl,rfl,hx,iy,he,hf,q⟩:=h
 cases rx
 obtain ⟨u,rfl,ru⟩:=rv.one
 obtain ⟨ws,hH,hd⟩:=R.lst a xs hx
 obtain ⟨z,its,n,r,hl,e⟩:=I.lstM hH
 obtain ⟨g,g1,g2⟩:=MX I R (A:=X.A.in1) (by rw [kZ];omega) ru iy hd r he
 have hlen:bs.length=its.length:=by rw [<- g2,Tt]
 have hj:bs.findIdx id<its.toArray.size:=by rw [TU,<- hlen];exact hf
 have hget:∀ m (hm:m<its.length),bs[m]? = some (g its[m]):=fun m hm=>by
  rw [<- g2,Uu,T8 hm];rfl
 have small:((bs.findIdx id:Nat):Int)<2 ^ 63 - 1:=by
  have h1:bs.findIdx id<its.length:=by simpa using hj
  have h2:=jL
  have h3:(bs.findIdx id:Nat)<TL:=by omega
  have h4:((TL:Nat):Int)<=2 ^ 63 - 1:=by decide
  omega
 refine WC F.slot_list_index ⟨_,e,rfl⟩ F.entry_list_index (F.args_list_index_2 _ _) (SeqAt.list_indexAt (π a) its.toArray n none #[] u g (bs.findIdx id) hj small ?_ ?_) ⟨e,fun y hy=>g1 y (by simpa using hy),⟨.int (bs.findIdx id:Nat),H,I.tok _,⟨_,rfl⟩,q⟩⟩
 ·have h1:bs.findIdx id<its.length:=by simpa using hj
  have h2:=List.findIdx_getElem (p:=id) (xs:=bs) (w:=hf)
  have h3:=hget _ h1
  rw [T8 hf] at h3
  have h4:=Uc h3
  rw [h4] at h2
  simpa using h2
 ·intro m hm hlt
  have h1:m<its.length:=by simpa using hm
  have h2:=List.not_of_lt_findIdx (p:=id) (xs:=bs) hlt
  have h3:=hget _ h1
  have hb:m<bs.length:=by omega
  rw [T8 hb] at h3
  have h4:=Uc h3
  rw [h4] at h2
  simpa using h2
end
section
variable {X:Cx}{e o:TJ}{mo:ME}{apos cpos:Vk}{es:List TJ}{ms:MA}{n:Nat}
end
noncomputable def e8 (is:List Int):List Int:=is.mergeSort fun a b=>decide (a<=b)
theorem MZ {is ns:List Int}(hp:ns.Perm is)(hs:ns.Pairwise (·<=·)):ns=e8 is:=by
 have h1:(e8 is).Perm is:=List.mergeSort_perm _ _
 have h2:(e8 is).Pairwise (·<=·):=by
  have:=List.pairwise_mergeSort (le:=fun a b:Int=>decide (a<=b)) (fun a b c h1 h2=>by simp only [decide_eq_true_eq] at *;omega) (fun a b=>by simp only [Wb,decide_eq_true_eq];omega) is
  exact this.imp fun h=>by simpa using h
 exact List.Perm.eq_of_pairwise (le:=fun a b:Int=>a<=b) (fun a b _ _ h1 h2=>by omega) hs h2 (hp.trans h1.symm)
noncomputable def lT:MF:=fun ds μ=>match ds with
 | [x]=>(dR μ x).bind fun xs=>(jU xs).bind fun is=>if is.length<64 then some (.loc μ.length,μ++[.lst ((e8 is).map D.int)]) else none
 | _=>none
noncomputable def wZ (K:To):List V->Hp->VK->Prop:=fun xs H Q=>∃ (p:Addr)(is:List Int),xs=[.ref p]/\SqL K H p (is.map V.int)/\is.length<64/\∀ l,H l=none->Q (.ref l) (aH H l (.lst ((e8 is).map V.int)))
theorem M0 {K:To}:dP K lT (wZ K):=by
 intro π H μ xs d μ' vs Q R i hm k
 unfold lT at hm
 split at hm
 ·obtain ⟨ys,h1,hm⟩:=Tj.mp hm
  obtain ⟨is,h2,hm⟩:=Tj.mp hm
  split at hm
  ·rename_i hb
   cases hm
   cases i with
   | cons i t=>
    cases t
    obtain ⟨p,ws,rfl,q,hd⟩:=lO R i h1
    rw [sF h2] at hd
    have:=ints_of' hd
    subst this
    refine ⟨p,is,rfl,q,hb,fun l hl=>?_⟩
    obtain ⟨e2,R2,_⟩:=R.alloc (c:=.lst ((e8 is).map D.int)) (o:=.lst ((e8 is).map V.int)) hl (wW _)
    exact k _ _ _ e2 R2 fW
  ·cases hm
 ·cases hm
theorem call_sortI {X:Cx}:CallR X (.builtin "sorted") (wZ X.K):=by
 intro a3G s σ H xs us Q I r h
 obtain ⟨p,is,rfl,hq,h64,k⟩:=h
 obtain ⟨u,rfl,ru⟩:=eG r
 cases ru
 obtain ⟨its,rv,pl,hz⟩:=I.list hq
 have hlen:=rv.length
 rw [Tt] at hlen
 refine a2X pl.isList (AF rv) (by omega) fun out ns' a1 a2 a3=>?_
 obtain ⟨e,he⟩:=YK s.heap its out
 have hn:H (s.heap.objs.size+1)=none:=I.hok.fresh (Ws _)
 have e1:ns'=e8 is:=MZ a2 a3
 subst e1
 refine ⟨.ref (s.heap.objs.size+1),_,I.laid (t':=s.toks) (a:=s.heap.objs.size+1) (o:=.lst ((e8 is).map V.int)) (fun b ob z=>YG z) (Ws _) ?_,rfl,k _ hn⟩
 have hl2:(e8 is).length<=TL:=by
  have:=a2.length_eq
  have h5:=Ud
  omega
 refine ⟨by rw [Tt];exact hl2,out.toList,e,uW a1,?_⟩
 rw [he]
noncomputable def iF:MF:=fun ds μ=>match lT ds μ with
 | some r=>some r
 | none=>pJ ds μ
theorem M3 {K:To}:dP K iF (fun xs H Q=>wZ K xs H Q\/wM K xs H Q):=by
 intro π H μ xs d μ' vs Q R i hm k
 unfold iF at hm
 split at hm
 ·rename_i r hr
  cases hm
  exact .inl (M0 π H μ xs d μ' vs Q R i hr k)
 ·exact .inr (Mn π H μ xs d μ' vs Q R i hm k)
end L3
namespace L3
open PySem L2
section
variable {prog:Ub}{w:Up}{A:Ue}{E:Value->Tv->Prop}{s:Tv}{r:Addr}{Q:Bool->Tv->Prop}
end
section
variable {prog:Ub}{w:Up}{A:Ue}{E:Value->Tv->Prop}{s:Tv}{p a:Addr}{its:Array Value}
end
end L3
namespace L3
open PySem L2
end L3
namespace L3
open PySem L2
noncomputable abbrev bP:=List (List Int×Addr×V)
noncomputable def bQ (ps:bP)(ws:List Value):List (List Int×Addr×Value):=Z5 (fun p w=>(p.1,p.2.1,w)) ps ws
theorem w4 {P:Ub}{w:Up}:∀ (ps:bP)(ws:List Value),Z5 Bb ps ws=(bQ ps ws).map (entryOfKey (Yk (X6 P w)))
 | [],_=>by simp [bQ]
 | p::ps,[]=>by simp [bQ]
 | p::ps,u::ws=>by
  have ih:=w4 (P:=P) (w:=w) ps ws
  unfold bQ at ih ⊢
  rw [UJ,UJ,T4,ih]
  rfl
theorem nM:∀ {ps:bP}{ws:List Value},Vals (ps.map (·.2.2)) ws->(bQ ps ws).map (·.1)=ps.map (·.1)
 | [],_,_=>by simp [bQ]
 | p::ps,_,.cons r t=>by
  have ih:=nM (ps:=ps) t
  unfold bQ at ih ⊢
  rw [UJ,T4,T4,ih]
theorem CY:∀ {ps:bP}{ws:List Value}{x:List Int×Addr×Value},x∈bQ ps ws->∃ p∈ps,p.1=x.1/\p.2.1=x.2.1
 | [],_,x,h=>by simp [bQ] at h
 | p::ps,[],x,h=>by simp [bQ] at h
 | p::ps,u::ws,x,h=>by
  unfold bQ at h
  rw [UJ] at h
  rcases Ug.mp h with e|h
  ·subst e;exact ⟨p,Uy ..,rfl,rfl⟩
  ·obtain ⟨q,hq,e⟩:=CY (ps:=ps) (ws:=ws) h
   exact ⟨q,Uo _ hq,e⟩
noncomputable def eK (ps:bP)(k:List Int):Option V:=(ps.find? fun p=>decide (p.1=k)).map (·.2.2)
noncomputable def dA (ps:bP)(k:List Int)(b:Addr)(v:V):bP:=if (eK ps k).isSome then ps.map (fun p=>if p.1=k then (p.1,p.2.1,v) else p) else ps++[(k,b,v)]
theorem pM:∀ {ps:bP}{ws:List Value},Vals (ps.map (·.2.2)) ws->∀ k,RelO (eK ps k) ((Zs (bQ ps ws) k).map (·.2))
 | [],_,.nil,k=>by simp [eK,bQ,Zs];exact WJ
 | p::ps,_,.cons r t,k=>by
  have ih:=pM (ps:=ps) t k
  unfold eK Zs bQ at ih ⊢
  rw [UJ,UM,UM]
  by_cases e:p.1=k
  ·simp only [e,decide_true]
   exact r
  ·simp only [e,decide_false]
   exact ih
theorem sJ (ps:bP)(k:List Int)(b:Addr)(v:V):(dA ps k b v).length<=ps.length+1:=by
 unfold dA;split<;>simp
theorem CZ {k:List Int}{v:V}{u:Value}(ru:RelV v u):∀ {ps:bP}{ws:List Value},Vals (ps.map (·.2.2)) ws->
  ∃ ws',Vals ((ps.map fun p=>if p.1=k then (p.1,p.2.1,v) else p).map (·.2.2)) ws'/\(bQ ps ws).map (putAt k u)=bQ (ps.map fun p=>if p.1=k then (p.1,p.2.1,v) else p) ws'
 | [],_,.nil=>⟨[],.nil,by simp [bQ]⟩
 | p::ps,_,.cons (b:=w) r t=>by
  obtain ⟨ws',h1,h2⟩:=CZ ru (ps:=ps) t
  by_cases e:p.1=k
  ·refine ⟨u::ws',?_,?_⟩
   ·rw [T4,T4,if_pos e]
    exact .cons ru h1
   ·unfold bQ at h2 ⊢
    rw [UJ,T4,h2,T4,if_pos e,UJ]
    unfold putAt
    rw [if_pos e]
  ·refine ⟨w::ws',?_,?_⟩
   ·rw [T4,T4,if_neg e]
    exact .cons r h1
   ·unfold bQ at h2 ⊢
    rw [UJ,T4,h2,T4,if_neg e,UJ]
    unfold putAt
    rw [if_neg e]
theorem C0 {k:List Int}{b:Addr}{v:V}{u:Value}:∀ {ps:bP}{ws:List Value},Vals (ps.map (·.2.2)) ws->bQ ps ws++[(k,b,u)]=bQ (ps++[(k,b,v)]) (ws++[u])
 | [],_,.nil=>by simp [bQ]
 | p::ps,_,.cons r t=>by
  have ih:=C0 (k:=k) (b:=b) (v:=v) (u:=u) (ps:=ps) t
  unfold bQ at ih ⊢
  rw [UJ,Ur,ih,Ur,Ur,UJ]
theorem C1 {ps:bP}{ws:List Value}(r:Vals (ps.map (·.2.2)) ws)(k:List Int)(b:Addr){v:V}{u:Value}(ru:RelV v u) :
  ∃ ws',Vals ((dA ps k b v).map (·.2.2)) ws'/\storedH (bQ ps ws) k b u=bQ (dA ps k b v) ws':=by
 have e:=(pM r k).isSome_eq
 rw [XH] at e
 unfold dA storedH
 rw [e]
 by_cases h:(Zs (bQ ps ws) k).isSome=true
 ·rw [if_pos h,if_pos h]
  exact CZ ru r
 ·rw [if_neg h,if_neg h]
  refine ⟨ws++[u],?_,C0 r⟩
  rw [UH]
  exact a2c r ru
section
variable {X:Cx}{a3G:List (Addr×Obj)}{σ:St}{H:Hp}{s:Tv}{a:Addr}{ps:bP}
noncomputable def dS (K:To)(H:Hp)(ps:bP):Prop:=∀ p∈ps,SqT K H p.2.1 (p.1.map V.int)
theorem jZ (I:Inv X a3G σ H s)(e:Rd H a (a9 a ps))(hk:dS X.K H ps):(a == VL)=false/\ps.length<=TL /\
  ∃ ws,Vals (ps.map (·.2.2)) ws/\s.heap.DictOfH (Yk (X6 X.prog X.w)) a (bQ ps ws):=by
 obtain ⟨⟨ws,r,hs,hl,o,es,ep,h1,h2,h3,h4,h5⟩,_⟩:=(show ObjOk X.prog X.w H s.heap a (a9 a ps) from e.ok I.hok)
 refine ⟨hs,hl,ws,r,o,es,ep,h1,h2,h3,by rw [h4];exact w4 ps ws,fun x hx=>?_,by rw [nM r];exact h5⟩
 obtain ⟨p,hp,e1,e2⟩:=CY hx
 rw [<- e1,<- e2]
 exact lP I (hk p hp)
theorem w5 {P:Ub}{w:Up}{H':Hp}{h':UE}{ws:List Value}(hs:(a == VL)=false)(hl:ps.length<=TL)(r:Vals (ps.map (·.2.2)) ws)(d:h'.DictOfH (Yk (X6 P w)) a (bQ ps ws)):ObjOk P w H' h' a (a9 a ps):=by
 obtain ⟨o,es,ep,h1,h2,h3,h4,_,h5⟩:=d
 refine ⟨⟨ws,r,hs,hl,o,es,ep,h1,h2,h3,by rw [h4,w4 (P:=P) (w:=w)],by rw [<- nM r];exact h5⟩,⟨o,h1⟩,?_⟩
 rintro g1 g2 ⟨ws,r,hs,hl,o,es,ep,h1,h2,h3,h4,h5⟩ hh
 exact ⟨ws,r,hs,hl,o,es,ep,hh o h1,h2,h3,h4,h5⟩
theorem M4 (I:Inv X a3G σ H s)(e:Rd H a (a9 a ps))(hk:dS X.K H ps):s.TypeIs (.ref a) "dict":=by
 obtain ⟨_,_,ws,_,d⟩:=jZ I e hk
 exact d.typeIs
theorem sL {A:Ue}(hu:A.units+1<Vm):(Yk (X6 X.prog X.w)).room A.in1:=by
 show A.in1.units<Vm
 rw [kZ];omega
variable {A:Ue}{E:Value->Tv->Prop}{b:Addr}{k:List Int}{v:V}
theorem M5 {Q:Value->Tv->Prop}(hu:A.units+1<Vm)(I:Inv X a3G σ H s)(e:Rd H a (a9 a ps))(hk:dS X.K H ps)(hb:SqT X.K H b (k.map V.int))(hv:eK ps k=some v)
  (h:∀ w' s',Inv X a3G σ H s'->RelV v w'->Q w' s'):TY (T7 X.prog X.w) A (Z2 (.ref a) (.ref b)) Q E s:=by
 obtain ⟨hs,hl,ws,r,d⟩:=jZ I e hk
 obtain ⟨w',hw,rw'⟩:=RelO.some_of (v:=v) (o:=(Zs (bQ ps ws) k).map (·.2)) (by rw [<- hv];exact pM r k)
 obtain ⟨p,hp,hp2⟩:=Tq.mp hw
 refine wpAny_getItem_heap (sL hu) (lP I hb) d hp ?_
 rw [hp2]
 exact h w' _ (I.tok _) rw'
theorem M6 {Q:Value->Tv->Prop}(hu:A.units+1<Vm)(I:Inv X a3G σ H s)(e:Rd H a (a9 a ps))(hk:dS X.K H ps)(hb:SqT X.K H b (k.map V.int))
  (h:∀ s',Inv X a3G σ H s'->Q (.bool (eK ps k).isSome) s'):TY (T7 X.prog X.w) A (UX .In (.ref b) (.ref a)) Q E s:=by
 obtain ⟨hs,hl,ws,r,d⟩:=jZ I e hk
 refine wpAny_in_heap (sL hu) (lP I hb) hs d ?_
 have q:=(pM r k).isSome_eq
 rw [XH] at q
 rw [<- q]
 exact h _ (I.tok _)
theorem M7 {Q:Value->Tv->Prop}(hu:A.units+1<Vm)(I:Inv X a3G σ H s)(e:Rd H a (a9 a ps))(hk:dS X.K H ps)(hb:SqT X.K H b (k.map V.int))
  (h:∀ s',Inv X a3G σ H s'->Q (.bool (!(eK ps k).isSome)) s'):TY (T7 X.prog X.w) A (UX .NotIn (.ref b) (.ref a)) Q E s:=by
 obtain ⟨hs,hl,ws,r,d⟩:=jZ I e hk
 refine a2W (sL hu) (lP I hb) hs d ?_
 have q:=(pM r k).isSome_eq
 rw [XH] at q
 rw [<- q]
 exact h _ (I.tok _)
theorem M8 {Q:Unit->Tv->Prop}{u:Value}(hu:A.units+1<Vm)(I:Inv X a3G σ H s)(e:H a=some (a9 a ps))(hk:dS X.K H ps)(hb:SqT X.K H b (k.map V.int))(hz:ps.length<TL)(ru:RelV v u)
  (h:∀ s',Inv X a3G σ (aH H a (a9 a (dA ps k b v))) s'->Q () s'):TY (T7 X.prog X.w) A (setItem (.ref a) (.ref b) u) Q E s:=by
 obtain ⟨hs,hl,ws,r,d⟩:=jZ I (.of e) hk
 have hx:(bQ ps ws).length<=TL:=by
  have:=congrArg Vu (nM r)
  rw [Tt,Tt] at this
  omega
 refine wpAny_setItem_heap (hsz:=hx) (sL hu) (lP I hb) d fun h' d' hs'=>h _ ?_
 obtain ⟨ws',r',ex⟩:=C1 r k b ru
 rw [ex] at d'
 have he:∃ q,h'.get? a=some q:=let ⟨q,_,_,hq,_⟩:=d';⟨q,hq⟩
 exact AB I (by rw [e];exact WJ) hs' he (w5 hs (by have:=sJ ps k b v;omega) r' d')
end
noncomputable def IsTs (K:To)(π:Nat->Addr)(n:Nat)(H:Hp):bP->List (List Int×D)->Prop:=Xb fun p q=>p.1=q.1/\SqT K H p.2.1 (p.1.map V.int)/\IsD K π n H p.2.2 q.2
section
variable {K:To}{π:Nat->Addr}{n:Nat}{H:Hp}{μ:Hm}
theorem M9 {b:Addr}{k:List Int}(h:IsD K π n H (.ref b) (.tup (k.map D.int))):SqT K H b (k.map V.int):=by
 cases h with
 | tup q t=>rw [ints_of' t] at q;exact q
theorem IsTs.of:∀ {ps:bP}{kvs:List (List Int×D)},ps.map (·.1)=kvs.map (·.1)->IsDs K π n H (ps.map fun p=>V.ref p.2.1) (kvs.map fun k=>D.tup (k.1.map D.int))->IsDs K π n H (ps.map (·.2.2)) (kvs.map (·.2))->IsTs K π n H ps kvs
 | [],[],_,_,_=>.nil
 | [],_::_,h,_,_=>by cases h
 | _::_,[],h,_,_=>by cases h
 | p::ps,q::kvs,h,h2,h3=>by
  cases h2 with
  | cons k1 k2=>
   cases h3 with
   | cons v1 v2=>
    rw [T4,T4,a0z] at h
    refine .cons ⟨h.1,?_,v1⟩ (IsTs.of h.2 k2 v2)
    rw [h.1]
    exact M9 k1
theorem IsTs.keys:∀ {ps:bP}{kvs:List (List Int×D)},IsTs K π n H ps kvs->dS K H ps
 | _,_,.nil=>fun p hp=>nomatch hp
 | _,_,.cons h t=>fun p hp=>by
  rcases Ug.mp hp with e|hp
  ·subst e;exact h.2.1
  ·exact IsTs.keys t p hp
theorem IsTs.to:∀ {ps:bP}{kvs:List (List Int×D)},IsTs K π n H ps kvs->ps.map (·.1)=kvs.map (·.1)/\IsDs K π n H (ps.map fun p=>V.ref p.2.1) (kvs.map fun k=>D.tup (k.1.map D.int))/\IsDs K π n H (ps.map (·.2.2)) (kvs.map (·.2))
 | _,_,.nil=>⟨rfl,.nil,.nil⟩
 | _,_,.cons (a:=p) (b:=q) h t=>by
  obtain ⟨h1,h2,h3⟩:=IsTs.to t
  refine ⟨by rw [T4,T4,h.1,h1],.cons ?_ h2,.cons h.2.2 h3⟩
  show IsD K π n H (.ref p.2.1) (.tup (q.1.map D.int))
  rw [<- h.1]
  exact .tup h.2.1 (wW p.1)
theorem IsTs.val (k:List Int):∀ {ps:bP}{kvs:List (List Int×D)},IsTs K π n H ps kvs->(eK ps k=none/\bJ kvs k=none)\/∃ v d,eK ps k=some v/\bJ kvs k=some d/\IsD K π n H v d
 | _,_,.nil=>.inl ⟨rfl,rfl⟩
 | _,_,.cons (a:=p) (b:=q) h t=>by
  have ih:=IsTs.val k t
  unfold eK bJ at ih ⊢
  rw [UM,UM,<- h.1]
  by_cases e:p.1=k
  ·simp only [e,decide_true]
   exact .inr ⟨_,_,rfl,rfl,h.2.2⟩
  ·simp only [e,decide_false]
   exact ih
theorem IsTs.put {ps:bP}{kvs:List (List Int×D)}(h:IsTs K π n H ps kvs)(k:List Int){b:Addr}{v:V}{d:D}(hb:SqT K H b (k.map V.int))(hv:IsD K π n H v d):IsTs K π n H (dA ps k b v) (cN kvs k d):=by
 have e:(eK ps k).isSome=(bJ kvs k).isSome:=by
  rcases h.val k with ⟨h1,h2⟩|⟨v,d,h1,h2,_⟩<;>rw [h1,h2]<;>rfl
 have repl:∀ {ps:bP}{kvs:List (List Int×D)},IsTs K π n H ps kvs->IsTs K π n H (ps.map fun p=>if p.1=k then (p.1,p.2.1,v) else p) (kvs.map fun p=>if p.1=k then (p.1,d) else p):=by
  intro ps kvs h
  unfold IsTs at h
  induction h with
  | nil=>exact .nil
  | @cons p q ps qs h t ih=>
   rw [T4,T4]
   refine .cons ?_ ih
   by_cases z:p.1=k
   ·rw [if_pos z,if_pos (h.1.symm.trans z)]
    exact ⟨h.1,h.2.1,hv⟩
   ·rw [if_neg z,if_neg fun y=>z (h.1.trans y)]
    exact h
 unfold dA cN
 rw [e]
 split
 ·exact repl h
 ·exact a2c h ⟨rfl,hb,hv⟩
theorem lU {a:Nat}{kvs:List (List Int×D)}(R:Rp K π H μ)(h:μ[a]? = some (.dT kvs)):∃ ps,H (π a)=some (a9 (π a) ps)/\IsTs K π μ.length H ps kvs:=by
 obtain ⟨ps,h1,h2,h3,h4⟩:=R.dT a kvs h
 exact ⟨ps,h1,.of h2 h3 h4⟩
theorem pN {v:V}{x:D}{k:List Int}(h:IsD K π n H v x)(e:dZ x=some k):∃ b,v=.ref b/\SqT K H b (k.map V.int):=by
 have:=CB e
 subst this
 cases h with
 | tup q t=>rw [ints_of' t] at q;exact ⟨_,rfl,q⟩
end
noncomputable def sM:ME:=fun _ μ=>some (.loc μ.length,μ++[.dT []])
section
variable {X:Cx}{pos:Vk}
theorem sN {P:Ub}{w:Up}{H:Hp}(h:UE)(hb:VL<h.objs.size):ObjOk P w H (h.push { cls:=.type "dict",data:=.dict #[] }) h.objs.size (a9 h.objs.size []):=
 w5 (ws:=[]) (beq_eq_false_iff_ne.mpr (Va (TV hb))) (UP _) .nil (a3m h)
noncomputable def Na:TE:=fun _ H Q=>∀ p,H p=none->Q (.ref p) (aH H p (a9 p []))
theorem Nb:PE X (.Dict [] [] pos) Na:=fun a3G s σ H Q I h=>
 wpAny_Dict_empty ⟨.ref s.heap.objs.size,_,I.laid (a:=s.heap.objs.size) (o:=a9 s.heap.objs.size []) (t':=s.toks) (fun _ _ q=>Tu _ q) (TK _) (sN s.heap I.big),rfl,h _ (I.hok.fresh (TK _))⟩
theorem Nc:QE X (.Dict [] [] pos) sM:=⟨cK Nb (by
 rintro σ H Q ⟨π,ρ,μ,d,μ',R,E,hm,k⟩ p hp
 cases hm
 obtain ⟨e1,R1,q1⟩:=R.alloc (c:=.dT []) (o:=a9 p []) hp ⟨[],rfl,rfl,.nil,.nil⟩
 exact k _ _ _ e1 R1 fW)⟩
end
noncomputable def sO:D->D->Hm->Option (D×Hm)
 | .loc a,y,μ=>match μ[a]? with
  | some (.dT kvs)=>(dZ y).bind fun k=>(bJ kvs k).map fun d=>(d,μ)
  | _=>none
 | _,_,_=>none
section
variable {X:Cx}{a b e:TJ}{ma mb me:ME}{pos tpos:Vk}{td ty tv:TE}
noncomputable def C2 (K:To):R2:=fun x y H Q=>∃ a b ps k v,x=.ref a/\y=.ref b/\Rd H a (a9 a ps)/\dS K H ps/\SqT K H b (k.map V.int)/\eK ps k=some v/\Q v H
theorem Nd (hu:X.A.units+1<Vm)(ho:PE X a td)(hi:PE X b ty)(hs:AD b):PE X (.Subscript a b pos) (fun σ H Q=>td σ H fun x H1=>ty σ H1 fun y H2=>C2 X.K x y H2 Q):=by
 intro a3G s σ H Q I h
 refine Hl PySem.F.slot_dict_getitem.lookup hs (aO (ho a3G s σ H _ I h) fun u s1 ⟨x,H1,I1,rx,q1⟩=>aO (hi a3G s1 σ H1 _ I1 q1) fun iv s2 ⟨y,H2,I2,ry,a,b,ps,k,v,ex,ey,e,hk,hb,hv,q2⟩=>?_)
 subst ex ey
 obtain rfl:u=TM a:=rx
 obtain rfl:iv=TM b:=ry
 exact ⟨M4 I2 e hk,M5 hu I2 e hk hb hv fun w' s3 I3 rw'=>⟨v,H2,I3,rw',q2⟩⟩
theorem Nf {K:To}:cG K sO (C2 K):=by
 intro π H μ x y d μ' vx vy Q R ix iy hm k
 unfold sO at hm
 split at hm
 ·split at hm
  ·rename_i kvs hc
   obtain ⟨kk,h1,hm⟩:=Tj.mp hm
   obtain ⟨d',h2,hm⟩:=Tq.mp hm
   cases hm
   cases ix
   obtain ⟨ps,e1,T⟩:=lU R hc
   obtain ⟨b,rfl,hb⟩:=pN iy h1
   rcases T.val kk with ⟨_,z⟩|⟨v,d2,z1,z2,z3⟩
   ·rw [z] at h2;cases h2
   ·rw [z2] at h2
    cases h2
    exact ⟨_,b,ps,kk,v,rfl,rfl,.of e1,T.keys,hb,z1,k π _ H .refl R z3⟩
  ·cases hm
 ·cases hm
theorem Ng {k:Nat}(hr:Room k X.A)(ha:QE X a ma)(hb:QE X b mb)(h:mV b=true):QE X (.Subscript a b pos) (aB sO ma mb):=⟨cK (Nd (eJ hr) ha.h hb.h (BM h)) (oV Nf)⟩
end
theorem Nh (kvs:List (List Int×D))(k:List Int)(d:D):(cN kvs k d).length<=kvs.length+1:=by
 unfold cN;split<;>simp
section
variable {X:Cx}{o i e:TJ}{mo mi me:ME}{pos tpos:Vk}{td ty tv:TE}
noncomputable def Ni (K:To)(td ty tv:TE):TS:=fun D σ H=>tv σ H fun v H1=>td σ H1 fun x H2=>ty σ H2 fun y H3=>∃ a b ps k,x=.ref a/\y=.ref b/\H3 a=some (a9 a ps)/\dS K H3 ps/\SqT K H3 b (k.map V.int)/\ps.length<TL/\D.nx σ (aH H3 a (a9 a (dA ps k b v)))
theorem Nj (hu:X.A.units+1<Vm)(ho:PE X o td)(hi:PE X i ty)(hv:PE X e tv)(hs:Xr e (some (.Subscript o i tpos)) pos.line X.env=pure false) :
  PS X (.Assign [.Subscript o i tpos] e pos) (Ni X.K td ty tv):=by
 intro a3G s σ H D I h
 refine a1b (aO (hv a3G s σ H _ I h) fun r s1 ⟨v,H1,I1,rv,q1⟩=>aO (ho a3G s1 σ H1 _ I1 q1) fun u s2 ⟨x,H2,I2,rx,q2⟩=>aO (hi a3G s2 σ H2 _ I2 q2) fun iv s3 ⟨y,H3,I3,ry,a,b,ps,k,ex,ey,e,hk,hb,hz,q3⟩=>?_) hs
 subst ex ey
 obtain rfl:u=TM a:=rx
 obtain rfl:iv=TM b:=ry
 exact M8 hu I3 e hk hb hz rv fun s4 I4=>⟨σ,_,I4,q3⟩
theorem Nk {kk:Nat}(hr:Room kk X.A)(ho:QE X o mo)(hi:QE X i mi)(he:QE X e me)(h:eZ e=true):QS X (.Assign [.Subscript o i tpos] e pos) (lS pL mo mi me):=
 ⟨gN (Nj (HZ hr) ho.h hi.h he.h (lD h)) (by
 rintro E σ H ⟨π,ρ,μ,fl,ρ',μ',R,EN,hm,k⟩
 obtain ⟨⟨x,μ1⟩,h1,hm⟩:=Tj.mp hm
 obtain ⟨⟨y,μ2⟩,h2,hm⟩:=Tj.mp hm
 obtain ⟨⟨z,μ3⟩,h3,hm⟩:=Tj.mp hm
 obtain ⟨μ4,h4,hm⟩:=Tq.mp hm
 cases hm
 refine ⟨π,ρ,μ,x,μ1,R,EN,h1,fun π1 v1 H1 e1 R1 i1=>⟨π1,ρ,μ1,y,μ2,R1,EN.mono e1,h2,fun π2 v2 H2 e2 R2 i2=>⟨π2,ρ,μ2,z,μ3,R2,(EN.mono e1).mono e2,h3,fun π3 v3 H3 e3 R3 i3=>?_⟩⟩⟩
 cases y with
 | loc a=>
  simp only [pL] at h4
  split at h4
  ·rename_i kvs hc
   obtain ⟨kk,h5,h4⟩:=Tj.mp h4
   split at h4
   ·rename_i hz
    cases h4
    have i2':=i2.mono e3
    cases i2' with
    | loc hlt=>
     obtain ⟨ps,f1,T⟩:=lU R3 hc
     obtain ⟨b,rfl,hb⟩:=pN i3 h5
     have hv:=(i1.mono e2).mono e3
     have T':=T.put kk hb hv
     obtain ⟨g1,g2,g3⟩:=T'.to
     have hpl:ps.length<TL:=by
      have:=congrArg Vu (T.to).1
      rw [Tt,Tt] at this
      omega
     refine ⟨_,b,ps,kk,rfl,rfl,f1,T.keys,hb,hpl,?_⟩
     obtain ⟨e4,R4⟩:=R3.put (c:=.dT (cN kvs kk x)) (o:=a9 _ (dA ps kk b v1)) hlt f1 (.inr (.inr ⟨_,rfl⟩)) ⟨_,rfl,g1,g2,g3⟩
     exact k π3 σ _ (((e1.trans e2).trans e3).trans e4) R4 ((((EN.mono e1).mono e2).mono e3).mono e4)
   ·cases h4
  ·cases h4
 | _=>simp [pL] at h4)⟩
end
noncomputable def pO (neg:Bool):D->D->Hm->Option (D×Hm)
 | x,.loc a,μ=>match μ[a]? with
  | some (.dT kvs)=>(dZ x).map fun k=>(.bl (if neg then !(bJ kvs k).isSome else (bJ kvs k).isSome),μ)
  | _=>none
 | _,_,_=>none
noncomputable def w6 (K:To)(neg:Bool):R2:=fun x y H Q=>∃ a b ps k,x=.ref b/\y=.ref a/\Rd H a (a9 a ps)/\dS K H ps/\SqT K H b (k.map V.int)/\Q (.bl (if neg then !(eK ps k).isSome else (eK ps k).isSome)) H
theorem C3 {X:Cx}(hu:X.A.units+1<Vm):OpR X (UX .In) (w6 X.K false):=by
 intro a3G s σ H x y v u Q I rx ry h
 obtain ⟨a,b,ps,k,rfl,rfl,e,hk,hb,q⟩:=h
 obtain rfl:v=TM b:=rx
 obtain rfl:u=TM a:=ry
 exact M6 hu I e hk hb fun s' I'=>⟨.bl _,H,I',rfl,q⟩
theorem C4 {X:Cx}(hu:X.A.units+1<Vm):OpR X (UX .NotIn) (w6 X.K true):=by
 intro a3G s σ H x y v u Q I rx ry h
 obtain ⟨a,b,ps,k,rfl,rfl,e,hk,hb,q⟩:=h
 obtain rfl:v=TM b:=rx
 obtain rfl:u=TM a:=ry
 exact M7 hu I e hk hb fun s' I'=>⟨.bl _,H,I',rfl,q⟩
theorem sP {K:To}{neg:Bool}:cG K (pO neg) (w6 K neg):=by
 intro π H μ x y d μ' vx vy Q R ix iy hm k
 unfold pO at hm
 split at hm
 ·split at hm
  ·rename_i kvs hc
   obtain ⟨kk,h1,hm⟩:=Tq.mp hm
   cases hm
   cases iy
   obtain ⟨ps,e1,T⟩:=lU R hc
   obtain ⟨b,rfl,hb⟩:=pN ix h1
   have e:(eK ps kk).isSome=(bJ kvs kk).isSome:=by
    rcases T.val kk with ⟨h1,h2⟩|⟨v,d,h1,h2,_⟩<;>rw [h1,h2]<;>rfl
   refine ⟨_,b,ps,kk,rfl,rfl,.of e1,T.keys,hb,?_⟩
   rw [e]
   exact k π _ H .refl R (.bl _)
  ·cases hm
 ·cases hm
section
variable {X:Cx}{a b:TJ}{ma mb:ME}{pos:Vk}
end
end L3
namespace L3
open PySem L2
noncomputable def RawD (h:UE)(d:Addr)(es:Array Vf)(ep:Nat):Prop:=∃ z,h.get? d=some z/\z.ExactDict/\z.data=.dict es ep
theorem RawD.ty {s:Tv}{d:Addr} {es ep} (g:RawD s.heap d es ep):s.TypeIs (.ref d) "dict":=let ⟨z,g1,g2,_⟩:=g;⟨z,g1,g2.1⟩
theorem RawD.stay {h h':UE}{d:Addr} {es ep} (g:RawD h d es ep)(k:∀ o,h.get? d=some o->h'.get? d=some o):RawD h' d es ep:=let ⟨z,g1,g2⟩:=g;⟨z,k z g1,g2⟩
theorem RawD.lt {h:UE}{d:Addr} {es ep} (g:RawD h d es ep):d<h.objs.size:=let ⟨_,g1,_⟩:=g;TB g1
section
variable {P:Ub}{w:Up}{A:Ue}{E:Value->Tv->Prop}{s:Tv}{d it:Addr}{i ep:Nat}{es:Array Vf}
theorem Nl {Q:Value->Tv->Prop}(lo:(d == VL)=false)(g:RawD s.heap d es ep)
  (q:Q (.ref s.heap.objs.size) { s with heap:=s.heap.push { cls:=.type "dict_keyiterator",data:=.fields #[.ref d,.int 0 0,.int es.size 0,.int ep 0] } }):TY (T7 P w) A (a0g (.ref d)) Q E s:=by
 obtain ⟨z,g1,g2,g3⟩:=id g
 refine a2h g.ty F.slot_dict_iter (V9 F.slot_dict_iter g.ty F.entry_dict_iter ?_ (F.args_dict_iter_1 _))
 unfold Builtin.«dict.__iter__» a3p
 refine Tp (Tp (Xh g.ty ?_))
 show TY _ _ (pure (TM d)) _ _ _
 refine TF ?_
 show TY _ _ (WH d >>= _) _ _ _
 unfold WH
 rw [if_neg (fun x=>UN (lo.symm.trans x))]
 refine Tp (TF (Tp (W6 g1 g3 (Tp (Yy g1 g3 (Tp (Vp (TF ?_))))))))
 exact ⟨_,rfl,"dict_keyiterator",_,⟨_,TZ _ rfl,rfl⟩,F.slot_dict_keyiterator_next.lookup,by simpa [VW] using q⟩
theorem C5 {Q:Option Value->Tv->Prop}(hh:A.handled=none)(j:s.heap.IsKeyIter it d i es.size ep)(g:RawD s.heap d es ep)
  (q1:∀ e h',es[i]? = some e->h'.IsKeyIter it d (i+1) es.size ep->WR it s.heap h'->Q (some e.key) { s with heap:=h' })
  (q2:es[i]? = none->∀ h',Zg it s.heap h'->Q none { s with heap:=h' }):TY (T7 P w) A (XF (.ref it)) Q E s:=by
 obtain ⟨y,j1,j2,j3⟩:=id j
 obtain ⟨z,g1,g2,g3⟩:=id g
 have nm:∀ {Q:String->Tv->Prop}{A:Ue}{E:Value->Tv->Prop},Q "dict_keyiterator" s->TY (T7 P w) A (a2R (.ref it)) Q E s:=fun q=>wpAny_typeNameOfWhole_keyiter j.typeIs q
 unfold XF
 refine Tp (wpAny_attempt (a0L (name:=TN "__next__") j.typeIs F.slot_dict_keyiterator_next (V9 F.slot_dict_keyiterator_next j.typeIs F.entry_dict_keyiterator_next ?_ (F.args_dict_keyiterator_next_1 _))))
 refine Tp (TF (Tp (Tp (Tp (nm (TF (Tp (a3s j1 j3 ?_))))))))
 simp only [show WD "dict_keyiterator" = false by decide,TQ,if_false]
 show TY _ _ (if (TM d == Uw)=true then _ else _) _ _ _
 rw [if_neg (show ¬ (TM d == Uw)=true from fun x=>UN x)]
 refine Tp (TF (Tp (W6 g1 g3 ?_)))
 rw [if_neg (fun x=>by simp at x)]
 refine Tp (TF (Tp (Yy g1 g3 ?_)))
 rw [if_neg (fun x=>by simp at x)]
 refine TF ?_
 simp only [if_neg (show ¬ ((i:Int)<0) by omega),XS]
 cases he:es[i]? with
 | some e=>
  refine Tp (Tp (nm (TF (Tp (a1v j.typeIs ?_)))))
  show TY _ _ (a0f (.ref it) 1 (VW ((i:Int)+1)) >>= _) _ _ _
  refine Tp (WB j1 j3 (by simp) ?_)
  have j':(s.heap.update it (Xe (·.setIfInBounds 1 (VW ((i:Int)+1))))).IsKeyIter it d (i+1) es.size ep:=
   ⟨_,U6 _ j1 (Wf (Wa j3 _)),(YY ..).trans j2,by simp [Wa j3,VW]⟩
  generalize hu:s.heap.update it (Xe (·.setIfInBounds 1 (VW ((i:Int)+1))))=u at j'
  refine Tp (UQ (Tp (a1v (s:={ s with heap:=u }) j'.typeIs ?_)))
  show TY _ _ (pure e.key) _ _ _
  exact TF (TF ⟨_,rfl,TF (q1 e u he j' (hu ▸ X1 ..))⟩)
 | none=>
  refine Tp (Tp (nm (TF ?_)))
  show TY _ _ (a0f (.ref it) 0 .none >>= _) _ _ _
  refine Tp (WB j1 j3 (by simp) ?_)
  show TY _ _ (a3x (.type "StopIteration") [] >>= _) _ _ _
  simp only [a3x,newTuple]
  refine Tp (Tp (Vp ?_ (by size_fits)))
  refine Tp (m:=YJ _ _) (wpAny_of_eq (a:=Uw) (by first|rfl|(simp only [YJ];rfl)) (Vp ?_ (by size_fits)))
  simp only [raiseNew]
  refine Tp (wpAny_handled ?_)
  rw [show A.in1.handled=none from hh]
  refine Tp (TF (wpAny_throw ?thrown))
  case thrown=>exact Tp (a2w (T:="StopIteration") (b:=true) ⟨_,TZ _ rfl,rfl⟩ a3B (TF (q2 he _ (((X1 ..).extBut.push _).push _))))
theorem Nm (hh:A.handled=none)(hne:d≠it)(es:Array Vf)(ep:Nat):Walks P w A it [it,d] [it] es.size (fun i v=>∃ e,es[i]? = some e/\v=e.key) (fun i h=>h.IsKeyIter it d i es.size ep/\RawD h d es ep) where
 sub:=fun b hb=>by rw [UW.mp hb];exact Uy ..
 frame:=fun _ _ _ st k=>⟨st.1.at fun o e=>k it (by simp) o e,st.2.stay fun o e=>k d (by simp) o e⟩
 item:=fun i s Q E hi st q=>C5 hh st.1 st.2 (fun e h' he j' sb=>q _ h' s.toks ⟨e,he,rfl⟩ ⟨j',st.2.stay fun o ho=>sb.extBut d o hne ho⟩ fun b o hb ho=>sb.extBut b o (fun z=>hb (by simp [z])) ho) (fun he=>by simp at he;omega)
 done:=fun s Q E st q=>C5 hh st.1 st.2 (fun e h' he=>by simp at he) (fun _ h' x=>q h' s.toks fun b o hb ho=>x b o (fun z=>hb (by simp [z])) ho)
 self:=fun _ _ _ _ st q=>wpAny_pyIter_keyiter st.1 q
theorem Nn (lo:(d == VL)=false):PySem.W.KdlSrc P w "dict" d d es.size (fun i v=>∃ e,es[i]? = some e/\v=e.key) (fun h=>RawD h d es ep) where
 type:=fun _ g=>g.ty
 there:=fun _ g=>⟨g.lt,g.lt⟩
 keep:=fun _ _ g k=>g.stay fun o e=>k d (.inl rfl) o e
 notList:=by decide
 notTuple:=by decide
 hint:=fun _ _ _ _ g q=>PySem.W.kdl_hint_dict g.ty q
 iter:=fun _ _ hh g=>⟨_,_,(fun _ _ q=>Nl lo g q),Nm hh (TV g.lt) es ep,⟨⟨_,TZ _ rfl,rfl,rfl⟩,g.stay fun o e=>Tu _ e⟩⟩
theorem Np (lo:(d == VL)=false):MeetsIn P w (Builtin.«dict.__len__» ⟨[.ref d],[]⟩) (fun _ R s=>∃ es ep,RawD s.heap d es ep/\R (.ok (.ret (.int (es.size:Nat) s.toks))) { s with toks:=s.toks+1 }):=
 .of_wp fun A R s ⟨es,ep,⟨z,g1,g2,g3⟩,q⟩=>by
  show TY _ _ (dictSize d >>= _) _ _ _
  unfold dictSize
  refine Tp (Tp (W6 g1 g3 (TF ?_)))
  show TY _ _ (a3n d >>= _) _ _ _
  refine Tp (wpAny_pendingCount_other lo (wpAny_ret_mkInt ?_))
  rw [a2H];exact q
theorem Nq {Q:Value->Tv->Prop}(lo:(d == VL)=false)(g:RawD s.heap d es ep)(hz:es.size<=TL)(q:Q (.int (es.size:Nat) (s.toks+1)) { s with toks:=s.toks+1+1 }):TY (T7 P w) A (call (.builtin "len") [.ref d]) Q E s:=
 a3g g.ty F.slot_dict_len (fun Q' q'=>call_meetsIn F.slot_dict_len g.ty F.entry_dict_len (F.args_dict_len_1 _) (Np lo) ⟨es,ep,g,q'⟩) (by omega) (by rw [Ud] at hz;omega) q
end
theorem C6:∀ {ps:bP}{ws:List Value},Vals (ps.map (·.2.2)) ws->(bQ ps ws).map (fun x=>TM x.2.1)=ps.map fun p=>TM p.2.1
 | [],_,_=>by simp [bQ]
 | p::ps,_,.cons r t=>by
  have ih:=C6 (ps:=ps) t
  unfold bQ at ih ⊢
  rw [UJ,T4,T4,ih]
theorem C7:∀ ps:bP,Vals (ps.map fun p=>V.ref p.2.1) (ps.map fun p=>TM p.2.1)
 | []=>.nil
 | p::ps=>.cons rfl (C7 ps)
section
variable {X:Cx}{a3G:List (Addr×Obj)}{σ:St}{H:Hp}{s:Tv}{a:Addr}{ps:bP}
theorem w8 (I:Inv X a3G σ H s)(e:H a=some (a9 a ps))(hk:dS X.K H ps):(a == VL)=false/\ps.length<=TL/\∃ es ep,RawD s.heap a es ep/\es.toList.map (·.key)=ps.map fun p=>TM p.2.1:=by
 obtain ⟨lo,hl,ws,r,z,es,ep,h1,h2,h3,h4,_⟩:=jZ I (.of e) hk
 refine ⟨lo,hl,es,ep,⟨z,h1,h2,h3⟩,?_⟩
 rw [h4,UK,<- C6 r]
 rfl
noncomputable def C8 (K:To):List V->Hp->VK->Prop:=fun xs H Q=>∃ a ps,xs=[V.ref a]/\H a=some (a9 a ps)/\dS K H ps/\Q (.int ps.length) H
theorem Nr:CallR X (.builtin "len") (C8 X.K):=by
 intro a3G s σ H xs us Q I r h
 obtain ⟨a,ps,rfl,ha,hk,q⟩:=h
 obtain ⟨u,rfl,ru⟩:=eG r
 cases ru
 obtain ⟨lo,hl,es,ep,g,he⟩:=w8 I ha hk
 have hs:es.size=ps.length:=by
  have:=congrArg Vu he
  simpa using this
 refine Nq lo g (by omega) ?_
 rw [hs]
 exact ⟨.int ps.length,H,(I.tok _).tok _,⟨_,rfl⟩,q⟩
noncomputable def C9 (K:To):List V->Hp->VK->Prop:=fun xs H Q=>∃ a ps,xs=[V.ref a]/\H a=some (a9 a ps)/\dS K H ps/\∀ l,H l=none->Q (.ref l) (aH H l (.lst (ps.map fun p=>V.ref p.2.1)))
theorem Nt (hc:X.calm=true):CallR X (.type "list") (C9 X.K):=by
 intro a3G s σ H xs us Q I r h
 obtain ⟨a,ps,rfl,ha,hk,q⟩:=h
 obtain ⟨u,rfl,ru⟩:=eG r
 cases ru
 obtain ⟨lo,hl,es,ep,g,he⟩:=w8 I ha hk
 have hs:es.size=ps.length:=by
  have:=congrArg Vu he
  simpa using this
 refine PySem.W.kdl_call (Nn lo) (I.ok.hd hc) g (by omega) fun h' tk acc' c' kp hS hacc=>?_
 refine ⟨.ref s.heap.objs.size,_,I.laid (t':=tk) (a:=s.heap.objs.size) (o:=.lst (ps.map fun p=>V.ref p.2.1)) kp (TK _) ?_,rfl,q _ (I.hok.fresh (TK _))⟩
 refine ⟨by rw [Tt];exact hl,acc'.toList,c',?_,by simpa using hS⟩
 have e2:acc'.toList=ps.map fun p=>TM p.2.1:=by
  rw [<- he]
  refine List.ext_getElem? fun i=>?_
  rw [Uu,WZ,WZ]
  cases hv:acc'[i]? with
  | some v=>
   obtain ⟨e,h1,h2⟩:=hacc.2 i v hv
   rw [h1,h2];rfl
  | none=>
   have:acc'.size<=i:=by simpa using hv
   rw [X5 (by rw [<- hacc.1];exact this)];rfl
 rw [e2]
 exact C7 ps
end
section
variable {X:Cx}{a b o i e:TJ}{ma mb mo mi me:ME}{pos tpos:Vk}{k:Nat}
theorem Nu (hr:Room k X.A)(ha:QE X a ma)(hb:QE X b mb)(h:mV b=true):QE X (.Subscript a b pos) (aB aI ma mb):=
 lG (Ng hr ha hb h) (Kh ha hb h) (fN fun x y μ r hm=>by
  unfold aI at hm
  split at hm
  ·split at hm
   ·rename_i kvs hc
    refine .inl ?_
    simp only [sO,hc]
    exact hm
   ·exact .inr hm
  ·exact .inr hm)
noncomputable def nN (neg:Bool):D->D->Hm->Option (D×Hm):=fun x y μ=>match pO neg x y μ with
 | some r=>some r
 | none=>lH neg x y μ
theorem sQ {neg:Bool}(x y:D)(μ:Hm)(r:D×Hm)(h:nN neg x y μ=some r):pO neg x y μ=some r\/lH neg x y μ=some r:=by
 unfold nN at h
 split at h
 ·rename_i z;rw [z];exact .inl h
 ·exact .inr h
theorem Dc {neg:Bool}(x y:D)(μ:Hm)(r:D×Hm)(h:cP neg x y μ=some r):(∃ i j,x=.str i/\y=.str j)\/nN neg x y μ=some r:=by
 cases y with
 | loc a=>
  refine .inr ?_
  have e:cP neg x (.loc a) μ=(match μ[a]? with
   | some (.dT kvs)=>(dZ x).map fun k=>(D.bl (if neg then !(bJ kvs k).isSome else (bJ kvs k).isSome),μ)
   | _=>lH neg x (.loc a) μ):=by cases x<;>rfl
  rw [e] at h
  unfold nN
  simp only [pO]
  cases hc:μ[a]? with
  | none=>rw [hc] at h;exact h
  | some c=>
   rw [hc] at h
   cases c with
   | dT kvs=>dsimp only at h ⊢;rw [h]
   | _=>exact h
 | str j=>
  cases x with
  | str i=>exact .inl ⟨i,j,rfl,rfl⟩
  | _=>exact .inr h
 | _=>cases x<;>exact .inr h
theorem Dd (x y:D)(μ:Hm)(r:D×Hm)(h:cP false x y μ=some r):vO x y μ=some r\/nN false x y μ=some r:=by
 rcases Dc x y μ r h with ⟨i,j,rfl,rfl⟩|z
 ·exact .inl h
 ·exact .inr z
theorem De (x y:D)(μ:Hm)(r:D×Hm)(h:cP true x y μ=some r):v9 x y μ=some r\/nN true x y μ=some r:=by
 rcases Dc x y μ r h with ⟨i,j,rfl,rfl⟩|z
 ·exact .inl h
 ·exact .inr z
theorem Nv (hr:Room k X.A)(ha:QE X a ma)(hb:QE X b mb)(h:eY b=true):QE X (.Compare a [.In] [b] pos) (aB (cP false) ma mb):=
 lG ⟨eH Aj Bz ha.h hb.h (f6 h)⟩ (lG ⟨eH (C3 (eJ hr)) sP ha.h hb.h (f6 h)⟩ ⟨eH (BZ (rS hr)) rQ ha.h hb.h (f6 h)⟩ (fN sQ)) (fN Dd)
theorem Nw (hr:Room k X.A)(ha:QE X a ma)(hb:QE X b mb)(h:eY b=true):QE X (.Compare a [.NotIn] [b] pos) (aB (cP true) ma mb):=
 lG ⟨eH AM B1 ha.h hb.h (f6 h)⟩ (lG ⟨eH (C4 (eJ hr)) sP ha.h hb.h (f6 h)⟩ ⟨eH (B0 (rS hr)) rQ ha.h hb.h (f6 h)⟩ (fN sQ)) (fN De)
theorem Nx (hr:Room k X.A)(ha:QE X a ma)(hb:QE X b mb)(h:eY b=true):QT X (.Compare a [.In] [b] pos) (aP (aB (cP false) ma mb)):=
 mW ⟨eI Aj Bz ha.h hb.h (f6 h)⟩ (mW ⟨eI (C3 (eJ hr)) sP ha.h hb.h (f6 h)⟩ ⟨eI (BZ (rS hr)) rQ ha.h hb.h (f6 h)⟩ (mX (fN sQ))) (mX (fN Dd))
theorem Ny (hr:Room k X.A)(ha:QE X a ma)(hb:QE X b mb)(h:eY b=true):QT X (.Compare a [.NotIn] [b] pos) (aP (aB (cP true) ma mb)):=
 mW ⟨eI AM B1 ha.h hb.h (f6 h)⟩ (mW ⟨eI (C4 (eJ hr)) sP ha.h hb.h (f6 h)⟩ ⟨eI (B0 (rS hr)) rQ ha.h hb.h (f6 h)⟩ (mX (fN sQ))) (mX (fN De))
theorem Nz (hr:Room k X.A)(ho:QE X o mo)(hi:QE X i mi)(he:QE X e me)(h:eZ e=true):QS X (.Assign [.Subscript o i tpos] e pos) (jC mo mi me):=
 MN (Nk hr ho hi he h) (MU ho hi he h) (MV fun x y z μ r hm=>by
  unfold nJ at hm
  split at hm
  ·split at hm
   ·exact .inl hm
   ·exact .inr hm
  ·cases hm)
end
end L3
namespace L3
open PySem L2
noncomputable def w9 (K:To)(a b:Addr):It:=
 ⟨fun i H=>∃ xs ys x y,SqL K H a xs/\SqL K H b ys/\xs[i]? = some x/\ys[i]? = some y,
   fun i H z H'=>∃ p v u,z=.ref p/\H p=none/\H'=aH H p (.tup [v,u])/\(∀ xs,SqL K H a xs->xs[i]? = some v)/\∀ ys,SqL K H b ys->ys[i]? = some u,
   fun i H=>∃ xs ys,SqL K H a xs/\SqL K H b ys/\(xs.length<=i\/ys.length<=i)⟩
theorem NA {P:Ub}{w:Up}{K:To}{es:List TJ}{kx:Nat}{pt:Vk}{a b z ti to j1 j2:Addr}(A0:ZipApart z ti to j1 j2 a b) :
  Turn P w K (.Tuple es kx pt) (w9 K a b) [z,ti,to,j1,j2] z (fun i h=>IsZip h z ti to .none/\IsPair h ti (.ref j1) (.ref j2)/\(∃ u v,IsPair h to u v)/\h.IsListIter j1 a i/\h.IsListIter j2 b i) where
 mem:=by simp
 obj:=fun i h ⟨g1,g2,⟨u,v,g3⟩,g4,g5⟩ c hc=>by
  have hc':c=z\/c=ti\/c=to\/c=j1\/c=j2:=by simpa using hc
  rcases hc' with rfl|rfl|rfl|rfl|rfl
  ·exact ⟨_,g1,fun q e=>by
    have e':TR _=Za q:=e
    cases e'⟩
  ·exact ⟨_,g2,fun q e=>by
    have e':a0B _ _=Za q:=e
    cases e'⟩
  ·exact ⟨_,g3,fun q e=>by
    have e':a0B _ _=Za q:=e
    cases e'⟩
  ·obtain ⟨o,e1,c,d⟩:=g4
   exact ⟨o,e1,fun v e=>by rw [d] at e;cases e⟩
  ·obtain ⟨o,e1,c,d⟩:=g5
   exact ⟨o,e1,fun v e=>by rw [d] at e;cases e⟩
 keep:=fun i h h' ⟨g1,g2,⟨u,v,g3⟩,g4,g5⟩ k=>⟨k z (by simp) _ g1,k ti (by simp) _ g2,⟨u,v,k to (by simp) _ g3⟩,g4.at fun o e=>k j1 (by simp) o e,g5.at fun o e=>k j2 (by simp) o e⟩
 item:=by
  intro X hP hw hK hc i a3G s σ H E I hf ⟨g1,g2,⟨u,v,g3⟩,g4,g5⟩ hg
  subst hP hw hK
  obtain ⟨xs,ys,x,y,hq,hq2,hx,hy⟩:=hg
  obtain ⟨its,rv,p,hz⟩:=I.list hq
  obtain ⟨its2,rv2,p2,hz2⟩:=I.list hq2
  obtain ⟨u1,eJ,ru1⟩:=rv.get hx
  obtain ⟨u2,hu2,ru2⟩:=rv2.get hy
  refine wpAny_pyNext_zip_item A0 g1 g2 g3 g4 g5 p.isList p2.isList (x:=u1) (y:=u2) (by simpa using eJ) (by simpa using hu2) fun h1 a1 a2 a3 a4 a5 a6 hk=>⟨_,rfl,wpAny_letOwnedTupleGo_zip a1 fun h2 b1 hs2=>?_⟩
  have ne:∀ {c o},s.heap.get? c=some o->s.heap.objs.size≠c:=fun e=>Vq (TB e)
  have l4:∃ o,s.heap.get? j1=some o:=let ⟨o,e,_⟩:=g4;⟨o,e⟩
  have l5:∃ o,s.heap.get? j2=some o:=let ⟨o,e,_⟩:=g5;⟨o,e⟩
  have ht2:h2.get? s.heap.objs.size=some { cls:=.type "tuple",data:=.seq #[u1,u2] }:=(hs2.2 _ (ne g1)).trans a5
  have hfr:H s.heap.objs.size=none:=I.hok.fresh (TK _)
  have g2':IsPair h2 ti (.ref j1) (.ref j2):=(hs2.2 _ A0.TIz).trans (hk _ _ A0.TIz A0.TITO A0.TIi1 A0.TIi2 g2)
  refine ⟨.ref s.heap.objs.size,aH H s.heap.objs.size (.tup [x,y]),?_,rfl,⟨s.heap.objs.size,x,y,rfl,hfr,rfl,fun ws hw=>by rw [I.list_inj hw hq];exact hx,fun ws hw=>by rw [I.list_inj hw hq2];exact hy⟩,
   ⟨b1,g2',⟨_,_,(hs2.2 _ A0.TOz).trans a2⟩,a3.extBut hs2.extBut A0.i1z,a4.extBut hs2.extBut A0.i2z⟩,fun c hb=>?_⟩
  ·refine CQ (s:=s) (h':=h2) (t':=s.toks) (ch:=[z,ti,to,j1,j2]) I (fun c oc hb ec=>?_) hf (TK _) ?_
   ·have hb':c≠z/\c≠ti/\c≠to/\c≠j1/\c≠j2:=by simpa using hb
    exact (hs2.2 c hb'.1).trans (hk c oc hb'.1 hb'.2.2.1 hb'.2.2.2.1 hb'.2.2.2.2 ec)
   ·exact ⟨by show (2:Nat)<=TL;decide,[u1,u2],.cons ru1 (.cons ru2 .nil),_,ht2,rfl,0,rfl,rfl⟩
  ·have hb':c=z\/c=ti\/c=to\/c=j1\/c=j2:=by simpa using hb
   have hn:=(hf c hb).1
   rw [aW]
   ·exact hn
   ·rcases hb' with rfl|rfl|rfl|rfl|rfl
    ·exact (ne g1).symm
    ·exact (ne g2).symm
    ·exact (ne g3).symm
    ·exact (ne l4.choose_spec).symm
    ·exact (ne l5.choose_spec).symm
 done:=by
  intro X hP hw hK hc i a3G s σ H E I hf ⟨g1,g2,⟨u,v,g3⟩,g4,g5⟩ hg
  subst hP hw hK
  obtain ⟨xs,ys,hq,hq2,hx⟩:=hg
  obtain ⟨its,rv,p,hz⟩:=I.list hq
  obtain ⟨its2,rv2,p2,hz2⟩:=I.list hq2
  have hl:=rv.length
  have hl2:=rv2.length
  refine wpAny_pyNext_zip_end (I.ok.hd hc) A0 g1 g2 g3 g4 g5 p.isList p2.isList ?_ fun h' eb=>⟨rfl,CS (t':=s.toks) (ch:=[z,ti,to,j1,j2]) I (fun c o hb e=>?_) hf⟩
  ·rcases hx with hx|hx
   ·exact .inl (by simp;omega)
   ·exact .inr (by simp;omega)
  ·have hb':c≠z/\c≠ti/\c≠to/\c≠j1/\c≠j2:=by simpa using hb
   exact eb c o hb'.1 hb'.2.2.1 hb'.2.2.2.1 hb'.2.2.2.2 e
 self:=fun _ _ _ _ _ ⟨g1,_⟩ h=>a2v g1 h
noncomputable def pP (x y:D):fM:=fun μ i=>(bA μ x).bind fun xs=>(bA μ y).map fun ys=>(xs[i]?).bind fun d=>(ys[i]?).map fun e=>.tup [d,e]
noncomputable def pQ (ms:MA):MI:=fun ρ μ=>(ms ρ μ).bind fun p=>match p.1 with
 | [x,y]=>(dR p.2 x).bind fun xs=>(dR p.2 y).map fun ys=>(pP x y,min xs.length ys.length+1,p.2)
 | _=>none
theorem Df {K:To}{π:Nat->Addr}{μ:Hm}{H:Hp}{v:V}{x:D}{xs:List D}(R:Rp K π H μ)(h:IsD K π μ.length H v x)(hs:dR μ x=some xs):∃ p,v=.ref p/\(∃ vs,SqL K H p vs) /\
  ∀ π' μ' H',Ext π μ.length H π' μ'.length H'->Rp K π' H' μ'->∀ ys,bA μ' x=some ys->∃ ws,SqL K H' p ws/\IsDs K π' μ'.length H' ws ys:=by
 obtain ⟨p,vs,rfl,hq,_⟩:=lO R h hs
 refine ⟨p,rfl,⟨vs,hq⟩,fun π' μ' H' e R' ys hy=>?_⟩
 have hl:dR μ' x=some ys:=by
  cases x with
  | rol zs=>exact hy
  | loc b=>exact hy
  | _=>cases hs
 obtain ⟨p',ws,e1,q1,d1⟩:=lO R' (h.mono e) hl
 cases e1
 exact ⟨ws,q1,d1⟩
theorem NC {K:To}{π:Nat->Addr}{μ:Hm}{H:Hp}{v v':V}{x y:D}{xs ys:List D}(R:Rp K π H μ)(h:IsD K π μ.length H v x)(h':IsD K π μ.length H v' y)(hs:dR μ x=some xs)(hs':dR μ y=some ys) :
  ∃ a b,v=.ref a/\v'=.ref b/\(∃ vs,SqL K H a vs)/\(∃ vs,SqL K H b vs)/\Wk K (w9 K a b) (pP x y) π μ.length H:=by
 obtain ⟨a,rfl,qa,la⟩:=Df R h hs
 obtain ⟨b,rfl,qb,lb⟩:=Df R h' hs'
 refine ⟨a,b,rfl,rfl,qa,qb,fun π' μ' H' i e R' z=>?_,fun π' μ' H' i d e R' z=>?_⟩
 ·obtain ⟨as,h1,z⟩:=Tj.mp z
  obtain ⟨bs,h2,z⟩:=Tq.mp z
  obtain ⟨ws,q1,d1⟩:=la π' μ' H' e R' as h1
  obtain ⟨us,q2,d2⟩:=lb π' μ' H' e R' bs h2
  refine ⟨ws,us,q1,q2,?_⟩
  rw [d1.length,d2.length]
  cases e1:as[i]? with
  | none=>exact .inl (U0.mp e1)
  | some d=>
   cases e2:bs[i]? with
   | none=>exact .inr (U0.mp e2)
   | some d'=>rw [e1,e2] at z;cases z
 ·obtain ⟨as,h1,z⟩:=Tj.mp z
  obtain ⟨bs,h2,z⟩:=Tq.mp z
  obtain ⟨d1',h3,z⟩:=Tj.mp z
  obtain ⟨d2',h4,h5⟩:=Tq.mp z
  subst h5
  obtain ⟨ws,q1,d1⟩:=la π' μ' H' e R' as h1
  obtain ⟨us,q2,d2⟩:=lb π' μ' H' e R' bs h2
  obtain ⟨w1,f1,k1⟩:=d1.get h3
  obtain ⟨w2,f2,k2⟩:=d2.get h4
  refine ⟨⟨ws,us,w1,w2,q1,q2,f1,f2⟩,?_⟩
  rintro y H2 ⟨t,v1,v2,rfl,hn,rfl,hv1,hv2⟩
  have m1:=hv1 ws q1
  have m2:=hv2 us q2
  rw [f1] at m1
  rw [f2] at m2
  cases m1
  cases m2
  obtain ⟨e2,R2⟩:=R'.fresh (o:=.tup [w1,w2]) hn
  exact ⟨e2,R2,.tup (.of bU) (.cons (k1.mono e2) (.cons (k2.mono e2) .nil))⟩
noncomputable def ND (K:To)(ta:TA):TI:=fun σ H R=>ta σ H fun vs H1=>∃ a b,vs=[.ref a,.ref b]/\(∃ xs,SqL K H1 a xs)/\(∃ ys,SqL K H1 b ys)/\R (w9 K a b) H1
open PyProof.Rows in
theorem NF {X:Cx}{a b:TJ}{ta:TA}{p pos pt:Vk}{es:List TJ}{kx:Nat}(hg:Gl X "zip") (hm:X.mg "zip" = none) (ha:PA X [a,b] ta)(hs:Ul [a,b] X.env=(false,eval a X.env)::Ul [b] X.env)(hs2:(VX pos (Ul [b] X.env)).any (·.1)=false) :
  PI X (.Tuple es kx pt) (.Call (.Name "zip" p) [a,b] [] pos) (ND X.K ta):=by
 intro a3G s σ H R I h
 refine Call_ (gJ I hg hm Boot.«zip» (VE (aO (ha pos a3G s σ H _ I h) fun us s1 ⟨vs,H1,I1,r1,q1⟩=>?_) hs hs2))
 obtain ⟨a0,b0,rfl,⟨ws,hq⟩,⟨ws2,hq2⟩,q⟩:=q1
 cases r1 with
 | cons ru rr=>
  cases rr with
  | cons ru2 rr=>
   cases rr
   cases ru
   cases ru2
   obtain ⟨its,rv,pl,hz⟩:=I1.list hq
   obtain ⟨its2,rv2,pl2,hz2⟩:=I1.list hq2
   have la:a0<s1.heap.objs.size:=let ⟨_,e,_⟩:=pl.isList;TB e
   have lb:b0<s1.heap.objs.size:=let ⟨_,e,_⟩:=pl2.isList;TB e
   refine call_zip_2 pl.isList pl2.isList fun h' g1 g2 g3 g4 g5 hsz hk=>a2v g1 ?_
   have I2:Inv X a3G σ H1 { s1 with heap:=h' }:=I1.kept (t':=s1.toks) hk
   have ap:ZipApart (s1.heap.objs.size+4) (s1.heap.objs.size+2) (s1.heap.objs.size+3) s1.heap.objs.size (s1.heap.objs.size+1) a0 b0:=by
    have la':@LT.lt Nat _ a0 s1.heap.objs.size:=la
    have lb':@LT.lt Nat _ b0 s1.heap.objs.size:=lb
    constructor<;>(show @Ne Nat _ _;omega)
   refine ⟨s1.heap.objs.size+4,[s1.heap.objs.size+4,s1.heap.objs.size+2,s1.heap.objs.size+3,s1.heap.objs.size,s1.heap.objs.size+1],_,_,H1,rfl,I2,NA ap,⟨g1,g2,⟨_,_,g3⟩,g4,g5⟩,fun c hc=>?_,q⟩
   have hle:s1.heap.objs.size<=c:=by
    simp only [Ug,W4,or_false] at hc
    rcases hc with rfl|rfl|rfl|rfl|rfl<;>first|exact Nat.le_add_right _ _|exact TK _
   exact I1.fpOk hle (I1.hok.fresh hle)
theorem NG {X:Cx}{a b:TJ}{ms:MA}{n:Nat}{p pos:Vk}(hgl:Gl X "zip") (hmg:X.mg "zip" = none) (ha:QA X [a,b] ms n):QJT X (.Call (.Name "zip" p) [a,b] [] pos) (pQ ms):=⟨fun es kx pt a3G s σ H R I hw=>by
 have hs:=ha.s
 rw [UA,Ts,UA,Ts] at hs
 obtain ⟨π,ρ,μ,src,n',μ',Rr,E,hm,k⟩:=hw
 obtain ⟨⟨x,μ1⟩,h1,hm⟩:=Tj.mp hm
 refine NF hgl hmg ha.h (eC hs.1) (by rw [eC hs.2.1];rfl) a3G s σ H R I ⟨π,ρ,μ,x,μ1,Rr,E,h1,fun π1 vs H1 e1 R1 i1=>?_⟩
 dsimp only at hm
 split at hm
 ·rename_i x y
  obtain ⟨xs,h2,hm⟩:=Tj.mp hm
  obtain ⟨ys,h3,hm⟩:=Tq.mp hm
  cases hm
  cases i1 with
  | cons i1 t1=>
   cases t1 with
   | cons i2 t2=>
    cases t2
    obtain ⟨a0,b0,rfl,rfl,qa,qb,W⟩:=NC R1 i1 i2 h2 h3
    exact ⟨a0,b0,rfl,qa,qb,k π1 H1 _ e1 R1 W⟩
 ·cases hm⟩
end L3
namespace L3
open PySem L2
section
variable {P:Ub}{w:Up}{A:Ue}{E:Value->Tv->Prop}{s:Tv}{a:Addr}
theorem NH:V4 (.type "tuple") "keys" = pure none:=by rw [a2S,a1w];kernel_rfl
theorem NI {o:Obj}{xs:Array Value}{k:Nat}{Q:Option Value->Tv->Prop}(g:s.heap.get? a=some o)(g1:o.cls=.type "tuple") (g2:o.data=.seq xs k)(g3:o.dict=none)(hA:A.handled=none)
  (q:∀ h' tk,(∀ b u,s.heap.get? b=some u->h'.get? b=some u)->Q none { s with heap:=h',toks:=tk }):TY (T7 P w) A (Zp (.ref a) "keys") Q E s:=by
 obtain ⟨c,dct,dat,sl⟩:=o
 dsimp only at g1 g2 g3
 subst g1 g2 g3
 obtain ⟨hp,gs,dr,tk,os⟩:=s
 have ty:∀ tk',(⟨hp,gs,dr,tk',os⟩:Tv).TypeIs (.ref a) "tuple":=fun _=>⟨_,g,rfl⟩
 have e1:=a1W
 have e2:=F.slot_tuple_getattribute.lookup
 have e3:=F.slot_tuple_getattribute.bind (.ref a)
 have e4:=am_tuple_getattr_none
 unfold Zp a1Z getAttrBy
 repeat (any_goals (first|assumption|exact ty _|((with_reducible show TY _ _ (call (TH "tuple.__getattribute__") _ _) _ _ _);refine WC F.slot_tuple_getattribute (ty _) am_entry_tuple_getattribute (F.args_tuple_getattribute_2 _ _) (meets_getattribute_miss_tuple a xs k sl "keys" _ NH (by decide +kernel)) ⟨g,hA,fun h' tk' e ne=>?_⟩)|wp_step))
 obtain ⟨y1,y2,there⟩:=ne.there
 show TY _ _ (XX _ _ _ _ none false false) _ _ _
 unfold XX
 repeat (any_goals (first|assumption|wp_step))
 exact q _ _ ne.of.keeps
end
theorem sR:entryFor table "dict.update.loop" = some Builtin.«dict.update.loop»:=entryFor_of_tree (by kernel_rfl)
theorem j0:plainId "dict.update.loop" = true:=by decide +kernel
noncomputable def fA (ps:bP):List (Addr×List Int×Addr×V)->bP
 | []=>ps
 | r::L=>fA (dA ps r.2.1 r.2.2.1 r.2.2.2) L
section
variable {X:Cx}{a3G:List (Addr×Obj)}{σ:St}{A:Ue}{E:Value->Tv->Prop}{d:Addr}
theorem xA {H:Hp}{s:Tv}{b:Addr}{k:List Int}{v:V}{u:Value}{ps:bP}{Q:Unit->Tv->Prop}(hu:A.units<Vm)(I:Inv X a3G σ H s)(e:H d=some (a9 d ps))(hk:dS X.K H ps)(hb:SqT X.K H b (k.map V.int))(hz:ps.length<TL)(ru:RelV v u)
  (h:∀ s',Inv X a3G σ (aH H d (a9 d (dA ps k b v))) s'->(∀ c o,c≠d->s.heap.get? c=some o->s'.heap.get? c=some o)->Q () s'):TY (T7 X.prog X.w) A (dictSet d (.ref b) u) Q E s:=by
 obtain ⟨hs,hl,ws,r,dd⟩:=jZ I (.of e) hk
 have hx:(bQ ps ws).length<=TL:=by
  have:=congrArg Vu (nM r)
  rw [Tt,Tt] at this
  omega
 refine wpAny_dictSet_heap (hsz:=hx) (show (Yk (X6 X.prog X.w)).room A from hu) (lP I hb) dd fun h' d' hs'=>h _ ?_ fun c o hc e=>hs'.extBut c o hc e
 obtain ⟨ws',r',ex⟩:=C1 r k b ru
 rw [ex] at d'
 have he:∃ q,h'.get? d=some q:=let ⟨q,_,_,hq,_⟩:=d';⟨q,hq⟩
 exact AB I (by rw [e];exact WJ) hs' he (w5 hs (by have:=sJ ps k b v;omega) r' d')
end
theorem j4 {K:To}{H:Hp}{d b:Addr}{o:HO}{ps:bP}{vs:List V}(e:H d=some (a9 d ps))(h:SqT K H b vs):SqT K (aH H d o) b vs:=by
 have ne:∀ {u},H b=some u->(∀ qs,u≠a9 d qs)->b≠d:=fun z f y=>by
  rw [y,e] at z
  cases z
  exact f ps rfl
 rcases h with (h|⟨ob,h⟩)|h
 ·exact .inl (.inl (by rw [aW (ne h fun _ z=>by cases z)];exact h))
 ·exact .inl (.inr ⟨ob,by rw [aW (ne h fun _ z=>by cases z)];exact h⟩)
 ·exact .inr h
theorem Dg {K:To}{H:Hp}{ps:bP}{k:List Int}{b:Addr}{v:V}(h:dS K H ps)(hb:SqT K H b (k.map V.int)):dS K H (dA ps k b v):=by
 intro p hp
 unfold dA at hp
 split at hp
 ·obtain ⟨p',hp',e⟩:=UZ.mp hp
  by_cases z:p'.1=k
  ·rw [if_pos z] at e
   subst e
   exact h p' hp'
  ·rw [if_neg z] at e
   subst e
   exact h p' hp'
 ·rcases U7.mp hp with hp|hp
  ·exact h p hp
  ·rw [UW.mp hp]
   exact hb
theorem sS {H:Hp}{d:Addr}{o o':HO}:aH (aH H d o) d o'=aH H d o':=by
 funext b
 unfold aH
 split
 ·rfl
 ·rfl
theorem Dh {P:Ub}{w:Up}{A:Ue}{E:Value->Tv->Prop}{s:Tv}{p:Addr}{xs:Array Value}{Q:List Value->Tv->Prop}(h:Wq s.heap p xs)(q:Q xs.toList s):TY (T7 P w) A (Zb (.ref p)) Q E s:=by
 obtain ⟨o,g,c,n,dd⟩:=h
 have ty:s.TypeIs (.ref p) "tuple":=⟨o,g,c⟩
 unfold Zb
 refine Tp (Ys ty ?_)
 rw [if_pos (by decide)]
 unfold seqItems?
 refine Tp (Tp (a0b g ?_))
 rw [dd]
 exact TF (TF q)
section
variable {X:Cx}{a3G:List (Addr×Obj)}{σ:St}{A:Ue}{d t it:Addr}{ys:List V}{R:a0l->Tv->Prop}
theorem NJ (hh:A.handled=none)(hu:A.in1.units<Vm):∀ (L:List (Addr×List Int×Addr×V))(i:Nat)(ps:bP)(H:Hp)(s:Tv),Inv X a3G σ H s->H d=some (a9 d ps)->dS X.K H ps->SqT X.K H t ys->ys.drop i=L.map (fun r=>V.ref r.1)->
  (∀ r∈L,SqT X.K H r.1 [.ref r.2.2.1,r.2.2.2]/\SqT X.K H r.2.2.1 (r.2.1.map V.int))->eT X a3G H it->s.heap.IsTupleIter it t i->ps.length+L.length<=TL->
  (∀ s',Inv X a3G σ (aH H d (a9 d (fA ps L))) s'->R (.ok (.ret .none)) s')->XQ (T7 X.prog X.w) A (.builtin "dict.update.loop" ⟨[.ref d,.ref it,VW i,.none],[]⟩) R s:=by
 intro L
 induction L with
 | nil=>
  intro i ps H s I e hk hq hd hr hf st hz q
  obtain ⟨its,rv,p,hzz⟩:=I.tuple hq
  obtain ⟨f0,f1,f2,f3,f4,f5⟩:=hf
  have hl:=rv.length
  have hlen:ys.length<=i:=by
   have:=congrArg Vu hd
   simp at this
   omega
  refine VZ sR ?_
  rw [Vr j0 _]
  show TY _ A.in1 (XF (.ref it) >>= _) _ _ s
  refine Tp (a1a hh st (show s.heap.IsTuple t its.toArray from p) (by simp;omega) fun h' eb=>?_)
  have I1:Inv X a3G σ H { s with heap:=h' }:=I.turned (t':=s.toks) (fun b o hb e=>eb b o hb e) f0 f1 f3 f4 f5
  show TY _ _ (YU d [] >>= _) _ _ _
  refine Tp (TF (TF (q _ ?_)))
  have:aH H d (a9 d (fA ps []))=H:=by
   funext b
   unfold aH
   split
   ·rename_i z;rw [z];exact e.symm
   ·rfl
  rw [this]
  exact I1
 | cons r L ih=>
  intro i ps H s I e hk hq hd hr hf st hz q
  obtain ⟨its,rv,p,hzz⟩:=I.tuple hq
  obtain ⟨f0,f1,f2,f3,f4,f5⟩:=id hf
  have hx:ys[i]? = some (.ref r.1):=by
   have:=congrArg (·[0]?) hd
   simpa using this
  obtain ⟨u,eJ,ru⟩:=rv.get hx
  cases ru
  refine VZ sR ?_
  rw [Vr j0 _]
  show TY _ A.in1 (XF (.ref it) >>= _) _ _ s
  refine Tp (a0K st (show s.heap.IsTuple t its.toArray from p) (x:=.ref r.1) (by simpa using eJ) fun h' st' sb=>?_)
  have I1:Inv X a3G σ H { s with heap:=h' }:=I.turned (t':=s.toks) (fun b o hb e=>(sb.2 b hb).trans e) f0 f1 f3 f4 f5
  have hr0:=hr r (Uy ..)
  obtain ⟨its2,rv2,p2,_⟩:=I1.tuple hr0.1
  cases rv2 with
  | cons rk rr=>
   cases rr with
   | cons rw' rr=>
    cases rr
    cases rk
    rename_i w0
    refine Tp (UQ (Tp (a3r (Dh p2 ?_))))
    have hps:ps.length<TL:=by
     rw [Um] at hz
     omega
    refine UQ (xA hu I1 e hk hr0.2 hps rw' fun s' I2 kp=>?_)
    refine TF ⟨Wn j0 _,?_⟩
    have bG:it≠d:=fun z=>by
     rw [<- z,f0] at e
     cases e
    have hrest:∀ x∈L,SqT X.K (aH H d (a9 d (dA ps r.2.1 r.2.2.1 r.2.2.2))) x.1 [.ref x.2.2.1,x.2.2.2]/\SqT X.K (aH H d (a9 d (dA ps r.2.1 r.2.2.1 r.2.2.2))) x.2.2.1 (x.2.1.map V.int):=fun x hx=>
     ⟨j4 e (hr x (Uo _ hx)).1,j4 e (hr x (Uo _ hx)).2⟩
    have hdr:ys.drop (i+1)=L.map (fun r=>V.ref r.1):=by
     have:=congrArg a3F hd
     simpa [a1S] using this
    refine ih (i+1) (dA ps r.2.1 r.2.2.1 r.2.2.2) _ s' I2 bU (Dg (fun p hp=>j4 e (hk p hp)) (j4 e hr0.2)) (j4 e hq) hdr hrest ⟨by rw [aW bG];exact f0,f1,f2,f3,f4,f5⟩ (st'.at fun o ho=>kp it o bG ho) ?_ fun s'' I''=>q s'' ?_
    ·have:=sJ ps r.2.1 r.2.2.1 r.2.2.2
     rw [Um] at hz
     omega
    ·rw [sS] at I''
     exact I''
end
section
variable {X:Cx}
noncomputable def Di (K:To):List V->Hp->VK->Prop:=fun xs H Q=>∃ (t:Addr)(L:List (Addr×List Int×Addr×V)),xs=[V.ref t]/\SqT K H t (L.map fun r=>V.ref r.1) /\
 (∀ r∈L,SqT K H r.1 [.ref r.2.2.1,r.2.2.2]/\SqT K H r.2.2.1 (r.2.1.map V.int))/\∀ d,H d=none->Q (.ref d) (aH H d (a9 d (fA [] L)))
theorem NK (hc:X.calm=true)(hun:X.A.units+64<Vm):CallR X (.type "dict") (Di X.K):=by
 intro a3G s σ H xs us Q I r h
 obtain ⟨t,L,rfl,hq,hr,k⟩:=h
 obtain ⟨u,rfl,ru⟩:=eG r
 cases ru
 have hn:H s.heap.objs.size=none:=I.hok.fresh (TK _)
 refine a3C (Q₁:=fun obj s₁=>obj=.ref s.heap.objs.size/\s₁ = { s with heap:=s.heap.push { cls:=.type "dict",data:=.dict #[] } }) F.kt_called_dict (F.kt_typeCall_dict_1 _) F.entry_dict_init (a2y _ ⟨rfl,rfl⟩) ?_
 rintro obj s₁ ⟨rfl,rfl⟩
 have I0:Inv X a3G σ (aH H s.heap.objs.size (a9 s.heap.objs.size [])) { s with heap:=s.heap.push { cls:=.type "dict",data:=.dict #[] } }:=I.laid (a:=s.heap.objs.size) (o:=a9 s.heap.objs.size []) (t':=s.toks) (fun _ _ q=>Tu _ q) (TK _) (sN s.heap I.big)
 have ty:({ s with heap:=s.heap.push { cls:=.type "dict",data:=.dict #[] } }:Tv).TypeIs (.ref s.heap.objs.size) "dict":=⟨_,TZ _ rfl,rfl⟩
 refine ⟨ty,F.args_dict_init_2 _ _,?_⟩
 unfold Builtin.«dict.__init__»
 refine Tp ?_
 unfold YT
 refine Tp (Xh ty ?_)
 show TY _ _ (pure (s.heap.objs.size,[TM t])) _ _ _
 refine TF ?_
 show TY _ _ (Wt "dict.__init__" s.heap.objs.size (.ref t) [] .none) _ _ _
 unfold Wt
 have mono:∀ {b:Addr}{vs:List V},SqT X.K H b vs->SqT X.K (aH H s.heap.objs.size (a9 s.heap.objs.size [])) b vs:=fun {b vs} z=>by
  have ne:H b≠none->b≠s.heap.objs.size:=fun f y=>by rw [y] at f;exact f hn
  rcases z with (z|⟨ob,z⟩)|z
  ·exact .inl (.inl (by rw [aW (ne (by rw [z];exact fun y=>nomatch y))];exact z))
  ·exact .inl (.inr ⟨ob,by rw [aW (ne (by rw [z];exact fun y=>nomatch y))];exact z⟩)
  ·exact .inr z
 obtain ⟨its,rv,ob,g1,g2,n,g3,g4⟩:=I0.tupN (mono hq)
 refine Tp (Ys ⟨ob,g1,g2⟩ ?_)
 rw [if_pos (by decide)]
 refine Tp (NI g1 g2 g3 g4 (I.ok.hd hc) fun h' tk kp=>?_)
 have I1:Inv X a3G σ (aH H s.heap.objs.size (a9 s.heap.objs.size [])) { s with heap:=h',toks:=tk }:=I0.kept (t':=tk) kp
 show TY _ _ (rule _ >>= _) _ _ _
 refine Tp (Z9 ?_)
 obtain ⟨its',rv',p',hz'⟩:=I1.tuple (mono hq)
 refine Tp (WT (t:=t) (items:=its'.toArray) (show ({ s with heap:=h',toks:=tk }:Tv).heap.IsTuple t its'.toArray from p') ?_)
 have I2:=I1.kept (t':=tk) (h':=h'.push { cls:=.type "tuple_iterator",data:=.fields #[.ref t,.int 0 0] }) fun b o e=>Tu _ e
 refine TF ⟨Wn j0 _,?_⟩
 refine NJ (A:=X.A.in1) (I.ok.hd hc) ?_ L 0 [] _ _ I2 bU (fun p hp=>nomatch hp) (mono hq) rfl (fun r hr'=>⟨mono (hr r hr').1,mono (hr r hr').2⟩) (I1.fpOk (TK _) (I1.hok.fresh (TK _))) ⟨_,TZ _ rfl,rfl,rfl⟩ ?_ fun s' I'=>?_
 ·show X.A.units+1+1<Vm
  omega
 ·have:=hz'
  simp at this ⊢
  exact this
 ·rw [sS] at I'
  exact ⟨rfl,.ref s.heap.objs.size,_,I',rfl,k _ hn⟩
end
noncomputable def nO:List D->Option (List (List Int×D))
 | []=>some []
 | .tup [x,v]::r=>(dZ x).bind fun k=>(nO r).map fun l=>(k,v)::l
 | _::_=>none
noncomputable def lV:MF:=fun ds μ=>match ds with
 | [.tup xs]=>(nO xs).map fun l=>(.loc μ.length,μ++[.dT (l.foldl (fun q p=>cN q p.1 p.2) [])])
 | _=>none
section
variable {K:To}{π:Nat->Addr}{n:Nat}{H:Hp}
noncomputable abbrev Dj (K:To)(π:Nat->Addr)(n:Nat)(H:Hp):List (Addr×List Int×Addr×V)->List (List Int×D)->Prop:=
 Xb fun r p=>r.2.1=p.1/\SqT K H r.1 [.ref r.2.2.1,r.2.2.2]/\SqT K H r.2.2.1 (r.2.1.map V.int)/\IsD K π n H r.2.2.2 p.2
theorem Dk:∀ {xs:List D}{ws:List V}{l:List (List Int×D)},IsDs K π n H ws xs->nO xs=some l->∃ L,ws=L.map (fun r=>V.ref r.1)/\Dj K π n H L l
 | [],_,_,.nil,h=>by cases h;exact ⟨[],rfl,.nil⟩
 | x::xs,_,l,.cons i t,h=>by
  unfold nO at h
  split at h
  ·rename_i heq;cases heq
  ·rename_i y v r heq
   cases heq
   obtain ⟨k,hk,h⟩:=Tj.mp h
   obtain ⟨l',hl,rfl⟩:=Tq.mp h
   obtain ⟨L,rfl,P⟩:=Dk t hl
   cases i with
   | tup q z=>
    cases z with
    | cons z1 z=>
     cases z with
     | cons z2 z=>
      cases z
      obtain ⟨b,rfl,hb⟩:=pN z1 hk
      exact ⟨(_,k,b,_)::L,rfl,.cons ⟨rfl,q,hb,z2⟩ P⟩
  ·cases h
theorem Dl:∀ {L:List (Addr×List Int×Addr×V)}{l:List (List Int×D)},Dj K π n H L l->∀ {ps:bP}{kvs:List (List Int×D)},IsTs K π n H ps kvs->IsTs K π n H (fA ps L) (l.foldl (fun q p=>cN q p.1 p.2) kvs)
 | _,_,.nil,_,_,h=>h
 | r::L,p::l,.cons e t,ps,kvs,h=>by
  obtain ⟨e1,_,e3,e4⟩:=e
  show IsTs K π n H (fA (dA ps r.2.1 r.2.2.1 r.2.2.2) L) (l.foldl _ (cN kvs p.1 p.2))
  rw [<- e1]
  exact Dl t (h.put r.2.1 e3 e4)
end
theorem NL {K:To}:dP K lV (Di K):=by
 intro π H μ xs d μ' vs Q R i hm k
 unfold lV at hm
 split at hm
 ·rename_i xs
  obtain ⟨l,h1,h2⟩:=Tq.mp hm
  cases h2
  cases i with
  | cons i t=>
   cases t
   cases i with
   | tup q z=>
    obtain ⟨L,rfl,P⟩:=Dk z h1
    refine ⟨_,L,rfl,q,?_,fun d hd=>?_⟩
    ·clear q z k hm h1
     induction P with
     | nil=>exact fun r hr=>nomatch hr
     | cons e t ih=>
      intro r hr
      rcases Ug.mp hr with rfl|hr
      ·exact ⟨e.2.1,e.2.2.1⟩
      ·exact ih r hr
    ·have T:=Dl P (ps:=[]) (kvs:=[]) .nil
     obtain ⟨e1,R1,q1⟩:=R.alloc (c:=.dT (l.foldl (fun q p=>cN q p.1 p.2) [])) (o:=a9 d (fA [] L)) hd ⟨_,rfl,T.to.1,T.to.2.1,T.to.2.2⟩
     exact k _ _ _ e1 R1 fW
 ·cases hm
end L3
namespace L3
open PySem L2
noncomputable def ItI (h:UE)(it d S:Addr)(i n ep:Nat):Prop:=∃ (wn ok ov:Value)(fl:Bool),h.get? it=some { cls:=.type "dict_itemiterator",dict:=none,data:=.fields #[wn,.bool fl,.ref d,.int i 0,.int n 0,.int ep 0,ok,ov],slots:=#[] } /\
 (wn=.none\/∃ (a:Addr)(o:Obj),wn=VW a/\h.get? a=some o/\a≠it/\a≠S)
theorem ItI.ty {s:Tv}{it d S:Addr} {i n ep} (j:ItI s.heap it d S i n ep):s.TypeIs (.ref it) "dict_itemiterator":=let ⟨_,_,_,_,e,_⟩:=j;⟨_,e,rfl⟩
theorem ItI.stay {h h':UE}{it d S:Addr} {i n ep} (j:ItI h it d S i n ep)(hI:it≠S)(k:∀ b o,b≠S->h.get? b=some o->h'.get? b=some o):ItI h' it d S i n ep:=by
 obtain ⟨wn,ok,ov,fl,e,r⟩:=j
 refine ⟨wn,ok,ov,fl,k _ _ hI e,?_⟩
 rcases r with r|⟨a,o,r1,r2,r3,r4⟩
 ·exact .inl r
 ·exact .inr ⟨a,o,r1,k _ _ r4 r2,r3,r4⟩
section
variable {P:Ub}{w:Up}{A:Ue}{E:Value->Tv->Prop}{s:Tv}{d it S:Addr}{i ep:Nat}{es:Array Vf}
theorem Dm {Q:Option Value->Tv->Prop}(hh:A.handled=none)(j:ItI s.heap it d S i es.size ep)(g:RawD s.heap d es ep)(hS:S<s.heap.objs.size)
  (q1:∀ e h',es[i]? = some e->ItI h' it d S (i+1) es.size ep->h'.get? s.heap.objs.size=some { cls:=.type "tuple",data:=.seq #[e.key,e.val] }->h'.objs.size=s.heap.objs.size+1->(∀ b o,b≠it->s.heap.get? b=some o->h'.get? b=some o)->Q (some (.ref s.heap.objs.size)) { s with heap:=h' })
  (q2:es[i]? = none->∀ h',Zg it s.heap h'->Q none { s with heap:=h' }):TY (T7 P w) A (XF (.ref it)) Q E s:=by
 obtain ⟨z,g1,g2,g3⟩:=id g
 have ty:=j.ty
 obtain ⟨hp,gs,dr,tk,os⟩:=s
 obtain ⟨wn,ok,ov,fl,je,jr⟩:=j
 have nm:∀ {Q:String->Tv->Prop}{A:Ue}{E:Value->Tv->Prop},Q "dict_itemiterator" ⟨hp,gs,dr,tk,os⟩->TY (T7 P w) A (a2R (.ref it)) Q E ⟨hp,gs,dr,tk,os⟩:=fun q=>wpAny_typeNameOfWhole_itemiter ty q
 unfold XF
 refine Tp (wpAny_attempt (a0L (name:=TN "__next__") ty F.slot_dict_itemiterator_next (V9 F.slot_dict_itemiterator_next ty F.entry_dict_itemiterator_next ?_ (F.args_dict_itemiterator_next_1 _))))
 refine Tp (TF (Tp (Tp (Tp (nm (TF (Tp (a3s je rfl ?_))))))))
 simp only [show WD "dict_itemiterator" = true by decide,if_true]
 show TY _ _ (if (TM d == Uw)=true then _ else _) _ _ _
 rw [if_neg (show ¬ (TM d == Uw)=true from fun x=>UN x)]
 refine Tp (TF (Tp (W6 g1 g3 ?_)))
 rw [if_neg (fun x=>by simp at x)]
 refine Tp (TF (Tp (Yy g1 g3 ?_)))
 rw [if_neg (fun x=>by simp at x)]
 refine TF ?_
 simp only [if_neg (show ¬ ((i:Int)<0) by omega),XS]
 have hil:it<hp.objs.size:=TB je
 cases he:es[i]? with
 | some e=>
  refine Tp (Tp (nm (TF (Tp (Yu ty ?_)))))
  show TY _ _ (a0f (.ref it) 3 (VW ((i:Int)+1)) >>= _) _ _ _
  refine Tp (We je (by simp) fun u ue us=>?_)
  replace us:WR it hp u:=us
  replace ue:u.get? it=some { cls:=.type "dict_itemiterator",dict:=none,data:=.fields #[wn,.bool fl,.ref d,.int ((i+1:Nat):Int) 0,.int es.size 0,.int ep 0,ok,ov],slots:=#[] }:=by
   rw [show ((i+1:Nat):Int)=(i:Int)+1 by omega]
   simpa [VW] using ue
  have ty1:Shared.TypeIs ⟨u,gs,dr,tk,os⟩ (.ref it) "dict_itemiterator":=⟨_,ue,rfl⟩
  refine Tp (UQ (Tp (Yu ty1 (Tp (Yu ty1 ?_)))))
  show TY _ _ (XT (.ref it) 6 e.key e.val) _ _ _
  unfold XT
  refine Tp (a0a ?_)
  have zu:u.objs.size=hp.objs.size:=us.1
  have v1:=Tu { cls:=.type "tuple",data:=.seq #[e.key,e.val] } ue
  have vt:(u.push { cls:=.type "tuple",data:=.seq #[e.key,e.val] }).get? hp.objs.size=some { cls:=.type "tuple",data:=.seq #[e.key,e.val] }:=zu ▸ TZ u rfl
  have vz:(u.push { cls:=.type "tuple",data:=.seq #[e.key,e.val] }).objs.size=hp.objs.size+1:=by rw [WQ,zu]
  have vk:∀ b o,b≠it->hp.get? b=some o->(u.push { cls:=.type "tuple",data:=.seq #[e.key,e.val] }).get? b=some o:=fun b o hb x=>Tu _ (us.extBut b o hb x)
  show TY _ _ (XJ (.ref it) >>= _) _ _ ⟨u.push { cls:=.type "tuple",data:=.seq #[e.key,e.val] },gs,dr,tk,os⟩
  rw [zu]
  generalize u.push { cls:=.type "tuple",data:=.seq #[e.key,e.val] } = v at v1 vt vz vk
  have nit:hp.objs.size≠it:=Vq hil
  have fin:∀ v':UE,ItI v' it d S (i+1) es.size ep->WR it v v'->Q (some (.ref hp.objs.size)) ⟨v',gs,dr,tk,os⟩:=fun v' j' sb=>
   q1 e v' he j' (sb.extBut _ _ nit vt) (by show v'.objs.size=_;rw [sb.1,vz]) fun b o hb x=>sb.extBut b o hb (vk b o hb x)
  refine Tp ?_
  unfold XJ
  rcases jr with rfl|⟨a,o,rfl,r2,r3,r4⟩
  ·refine Tp (V0 v1 rfl (x:=.none) rfl (TF ?_))
   simp only [if_true]
   refine Tp (V0 v1 rfl (x:=ok) rfl (Tp (V0 v1 rfl (x:=ov) rfl ?_)))
   refine Tp (We v1 (by simp) fun v3 x3 y3=>Tp (We x3 (by simp) fun v4 x4 y4=>Tp (We x4 (by simp) fun v5 x5 y5=>Tp (We x5 (by simp) fun v6 x6 y6=>?_))))
   refine Tp (wpAny_letGo (TF (TF ⟨_,rfl,TF (fin v6 ?_ ?_)⟩)))
   ·refine ⟨VW hp.objs.size,e.key,e.val,false,by simpa using x6,.inr ⟨hp.objs.size,_,rfl,y6.extBut _ _ nit (y5.extBut _ _ nit (y4.extBut _ _ nit (y3.extBut _ _ nit vt))),nit,Vq hS⟩⟩
   ·exact ((y3.trans y4).trans y5).trans y6
  ·refine Tp (V0 v1 rfl (x:=VW a) rfl ?_)
   show TY _ _ (loadIfAlive ((a:Int).toNat) >>= _) _ _ _
   rw [XS]
   refine Tp (PySem.W.kdx_alive (vk a o r3 r2) ?_)
   simp only [Option.isNone_some,TQ,if_false]
   refine Tp (V0 v1 rfl (x:=.bool fl) rfl ?_)
   cases fl with
   | true=>
    rw [if_neg (show ¬ ((T5 true != T5 true)=true) from fun x=>UN x)]
    refine TF ?_
    simp only [TQ,if_false]
    exact TF (TF ⟨_,rfl,TF (fin v ⟨_,ok,ov,true,v1,.inr ⟨a,o,rfl,vk a o r3 r2,r3,r4⟩⟩ (ZQ _ _))⟩)
   | false=>
    rw [if_pos (show (T5 false != T5 true)=true from rfl)]
    refine Tp (We v1 (by simp) fun v3 x3 y3=>TF ?_)
    simp only [TQ,if_false]
    exact TF (TF ⟨_,rfl,TF (fin v3 ⟨_,ok,ov,true,by simpa using x3,.inr ⟨a,o,rfl,y3.extBut a o r3 (vk a o r3 r2),r3,r4⟩⟩ y3)⟩)
 | none=>
  refine Tp (Tp (nm (TF ?_)))
  show TY _ _ (a0f (.ref it) 2 .none >>= _) _ _ _
  refine Tp (WB je rfl (by simp) ?_)
  show TY _ _ (a3x (.type "StopIteration") [] >>= _) _ _ _
  simp only [a3x,newTuple]
  refine Tp (Tp (Vp ?_ (by size_fits)))
  refine Tp (m:=YJ _ _) (wpAny_of_eq (a:=Uw) (by first|rfl|(simp only [YJ];rfl)) (Vp ?_ (by size_fits)))
  simp only [raiseNew]
  refine Tp (wpAny_handled ?_)
  rw [show A.in1.handled=none from hh]
  refine Tp (TF (wpAny_throw ?thrown))
  case thrown=>exact Tp (a2w (T:="StopIteration") (b:=true) ⟨_,TZ _ rfl,rfl⟩ a3B (TF (q2 he _ (((X1 ..).extBut.push _).push _))))
theorem NM {r:Addr}{Q:Value->Tv->Prop}(hv:s.heap.IsItemsView r d)(g:RawD s.heap d es ep)
  (q:Q (.ref s.heap.objs.size) { s with heap:=s.heap.push { cls:=.type "dict_itemiterator",data:=.fields #[.none,.bool false,.ref d,.int 0 0,.int es.size 0,.int ep 0,.none,.none] } }):TY (T7 P w) A (a0g (.ref r)) Q E s:=by
 obtain ⟨y,v1,v2,v3⟩:=id hv
 obtain ⟨z,g1,g2,g3⟩:=id g
 refine a2h hv.typeIs F.slot_dict_items_iter (V9 F.slot_dict_items_iter hv.typeIs F.entry_dict_items_iter ?_ (F.args_dict_items_iter_1 _))
 unfold Builtin.«dict_items.__iter__» a1G a1F
 refine Tp (TF (Tp (Tp (V0 v1 v3 (x:=.ref d) rfl (TF (Tp (Tp (W6 g1 g3 (Tp (Yy g1 g3 ?_))))))))))
 simp only [show WD "dict_itemiterator" = true by decide,if_true]
 refine Vp (TF ⟨_,rfl,"dict_itemiterator",_,⟨_,TZ _ rfl,rfl⟩,F.slot_dict_itemiterator_next.lookup,?_⟩) (by simp only [sizeOk,XM,TU,Ua,Um,Xk];rw [Ud];omega)
 simpa [VW,XM] using q
end
structure PrsAt (es:Array Vf)(lo:Addr)(h:UE)(as:List Addr):Prop where
 up:as.Pairwise (·<·)
 over:∀ a∈as,lo<a
 prs:∀ (j:Nat)(a:Addr),as[j]? = some a->∃ e,es[j]? = some e/\h.get? a=some { cls:=.type "tuple",data:=.seq #[e.key,e.val] }
theorem PrsAt.stay {es:Array Vf}{lo:Addr}{h h':UE}{as:List Addr}(p:PrsAt es lo h as)(k:∀ b o,lo<b->h.get? b=some o->h'.get? b=some o):PrsAt es lo h' as:=
 ⟨p.up,p.over,fun j a hj=>let ⟨e,e1,e2⟩:=p.prs j a hj;⟨e,e1,k a _ (p.over a (UG hj)) e2⟩⟩
theorem PrsAt.lt {es:Array Vf}{lo:Addr}{h:UE}{as:List Addr}(p:PrsAt es lo h as){a:Addr}(ha:a∈as):a<h.objs.size:=by
 obtain ⟨j,hj⟩:=a0p.mp ha
 obtain ⟨_,_,e⟩:=p.prs j a hj
 exact TB e
theorem PrsAt.snoc {es:Array Vf}{lo:Addr}{h:UE}{as:List Addr}{b:Addr}{e:Vf}(p:PrsAt es lo h as)(hb:∀ a∈as,a<b)(hl:lo<b)(he:es[as.length]? = some e)(ht:h.get? b=some { cls:=.type "tuple",data:=.seq #[e.key,e.val] }):PrsAt es lo h (as++[b]):=by
 refine ⟨List.pairwise_append.mpr ⟨p.up,List.pairwise_singleton _ _,fun a ha c hc=>by rw [UW.mp hc];exact hb a ha⟩,fun a ha=>?_,fun j a hj=>?_⟩
 ·rcases U7.mp ha with ha|ha
  ·exact p.over a ha
  ·rw [UW.mp ha];exact hl
 ·rcases WW j as.length with h1|h1|h1
  ·rw [Uz h1] at hj
   exact p.prs j a hj
  ·subst h1
   have:b=a:=by simpa using hj
   subst this
   exact ⟨e,he,ht⟩
  ·rw [Yj (by simp;omega)] at hj
   cases hj
section
variable {P:Ub}{w:Up}{A:Ue}{s:Tv}{R:a0l->Tv->Prop}{es:Array Vf}{ep:Nat}{S I d:Addr}
theorem NN (hh:A.handled=none)(hSI:S<I)(hSd:d≠S)(hId:d≠I)(hn:es.size<=TL)(res:Value){h1:UE}
  (hR:∀ (h':UE)(tk:Nat)(acc:Array Value)(c:Nat)(as:List Addr),(∀ b o,b≠S->b≠I->h1.get? b=some o->h'.get? b=some o)->h'.get? S=some { cls:=.type "list",dict:=none,data:=.seq acc c,slots:=#[] }->as.length=es.size->PrsAt es I h' as->acc.toList=as.map TM->R (.ok (.ret res)) { s with heap:=h',toks:=tk }) :
  ∀ (k i:Nat)(h:UE)(tk c:Nat)(acc:Array Value)(as:List Addr),es.size - i=k->i<=es.size->ItI h I d S i es.size ep->RawD h d es ep->(∀ b o,b≠S->b≠I->h1.get? b=some o->h.get? b=some o)->h.get? S=some { cls:=.type "list",dict:=none,data:=.seq acc c,slots:=#[] }->
   acc.toList=as.map TM->as.length=i->PrsAt es I h as->I<h.objs.size->XQ (T7 P w) A (.builtin "list.extend.loop" ⟨[.ref S,.ref I,res],[]⟩) R { s with heap:=h,toks:=tk }:=by
 have ne:S≠I:=TV hSI
 intro k
 induction k with
 | zero=>
  intro i h tk c acc as hk hi j g kp gS ha al pr lt
  refine VZ F.entry_extend_loop ?_
  rw [Vr F.plain_extend_loop _]
  refine Tp (m:=XF (.ref I)) (Dm (s:={ s with heap:=h,toks:=tk }) (A:=A.in1) hh j g (TB gS) (fun e h' he=>?_) fun _ h' x=>TF (hR h' tk acc c as (fun b o b1 b2 z=>x b o b2 (kp b o b1 b2 z)) (x S _ ne gS) (by omega) (pr.stay fun b o hb z=>x b o (Vq hb) z) ha))
  rw [X5 (by omega)] at he
  cases he
 | succ k ih=>
  intro i h tk c acc as hk hi j g kp gS ha al pr lt
  have sz:acc.size=i:=by rw [<- Xp,ha,Tt,al]
  refine VZ F.entry_extend_loop ?_
  rw [Vr F.plain_extend_loop _]
  refine Tp (m:=XF (.ref I)) (Dm (s:={ s with heap:=h,toks:=tk }) (A:=A.in1) hh j g (TB gS) (fun e h' he j' ht hz hk'=>?_) fun he=>?_)
  ·dsimp only at ht hz hk' ⊢
   have gS':=hk' S _ ne gS
   have Sl:S<h.objs.size:=TB gS
   have up:∀ b o,b≠S->h'.get? b=some o->(h'.update S (Ve (·.push (TM h.objs.size)))).get? b=some o:=fun b o hb z=>(UL _ _ (Va hb)).trans z
   refine Tp (m:=updateSeq S (·.push (TM h.objs.size))) (ZY gS' rfl (TF ⟨Wn F.plain_extend_loop _,?_⟩) (by rw [sz];omega) (by show (acc.push (TM h.objs.size)).size<=TL+1;rw [Array.size_push,sz];omega))
   refine ih (i+1) _ tk _ (acc.push (TM h.objs.size)) (as++[h.objs.size]) (by omega) (by omega) (j'.stay (Va ne) up) (g.stay fun o z=>up d o hSd (hk' d o hId z)) (fun b o b1 b2 z=>up b o b1 (hk' b o b2 (kp b o b1 b2 z))) (U6 _ gS' rfl) (by rw [Array.toList_push,ha,UH];rfl) (by rw [Ua,al];rfl) ?_ ?_
   ·exact ((pr.stay fun b o hb z=>up b o (Vq (WX hSI hb)) (hk' b o (Vq hb) z))).snoc (fun a ha'=>pr.lt ha') lt (by rw [al];exact he) (up _ _ (Vq Sl) ht)
   ·exact WX lt (TB (up _ _ (Vq Sl) ht))
  ·rw [ZH (by omega)] at he
   cases he
theorem NO {r:Addr}{res:Value}{c0:Nat}(hh:A.handled=none)(hv:s.heap.IsItemsView r d)(g:RawD s.heap d es ep)(Sr:S≠r)(Sd:d≠S)(gS:s.heap.get? S=some { cls:=.type "list",data:=.seq #[] c0 }) (hn:es.size<=TL)
  (hR:∀ (h':UE)(tk:Nat)(acc:Array Value)(c:Nat)(as:List Addr),(∀ b o,b≠S->s.heap.get? b=some o->h'.get? b=some o)->h'.get? S=some { cls:=.type "list",dict:=none,data:=.seq acc c,slots:=#[] }->as.length=es.size->PrsAt es s.heap.objs.size h' as->acc.toList=as.map TM->R (.ok (.ret res)) { s with heap:=h',toks:=tk }) :
  TY (T7 P w) A.in1 (YF (.ref S) (.ref r) res) (fun fin s'=>match fin with|.done f=>R (.ok f) s'|.again c'=>c'.quiet=true/\XQ (T7 P w) A c' R s') (fun e s'=>R (.error e) s') s:=by
 have SI:S<s.heap.objs.size:=TB gS
 have dI:d<s.heap.objs.size:=g.lt
 have run:∀ (h:UE)(c1 tk:Nat),(∀ b o,b≠S->(s.heap.push { cls:=.type "dict_itemiterator",data:=.fields #[.none,.bool false,.ref d,.int 0 0,.int es.size 0,.int ep 0,.none,.none] }).get? b=some o->h.get? b=some o)->h.get? S=some { cls:=.type "list",data:=.seq #[] c1 }->
   XQ (T7 P w) A (.builtin "list.extend.loop" ⟨[.ref S,.ref s.heap.objs.size,res],[]⟩) R { s with heap:=h,toks:=tk }:=by
  intro h c1 tk kp gS1
  have gI:=kp s.heap.objs.size _ (Vq SI) (TZ _ rfl)
  exact NN (s:=s) (h1:=s.heap) (ep:=ep) hh SI Sd (TV dI) hn res (fun h' tk' acc c as k' z1 z2 z3 z4=>hR h' tk' acc c as (fun b o hb e=>k' b o hb (TV (TB e)) e) z1 z2 z3 z4) es.size 0 h tk c1 #[] [] (a2G _) (UP _)
   ⟨.none,.none,.none,false,gI,.inl rfl⟩ (g.stay fun o e=>kp d o Sd (Tu _ e)) (fun b o hb _ e=>kp b o hb (Tu _ e)) gS1 rfl rfl ⟨ZE,fun _ ha=>(by cases ha),fun j a hj=>(by simp at hj)⟩ (TB gI)
 unfold YF
 refine Tp (Ys (T:="dict_items") hv.typeIs ?_)
 simp only [show YS (.ref S) (.ref r)=false by simp [YS,Sr],show (Tn "dict_items" == Tn "list")=false by decide,show (Tn "dict_items" == Tn "tuple")=false by decide,ZW,TQ,if_false]
 refine Tp (NM hv g ?_)
 have gS1:=Tu { cls:=.type "dict_itemiterator",data:=.fields #[.none,.bool false,.ref d,.int 0 0,.int es.size 0,.int ep 0,.none,.none] } gS
 refine Tp (UQ (PySem.W.kdx_hint (let ⟨o,ho,hc,_⟩:=hv;⟨o,Tu _ ho,hc⟩) ?_))
 refine wpAny_ite_split (fun _=>?_) (fun _=>TF ⟨Wn F.plain_extend_loop _,run _ c0 _ (fun b o _ e=>e) gS1⟩)
 refine Tp (Z9 (Tp ?_))
 refine Tp (m:=updateSeq S (·.push .none)) (ZY gS1 rfl ?_)
 have gS2:=U6 (Ve (·.push Uw)) gS1 rfl
 refine ZY (hz:=by seq_fits) gS2 rfl (TF ⟨Wn F.plain_extend_loop _,run _ _ _ (fun b o hb e=>?_) (U6 (Ve (·.pop)) gS2 rfl)⟩)
 exact (UL _ _ (Va hb)).trans ((UL _ _ (Va hb)).trans e)
theorem NP {r:Addr}{E:Value->Tv->Prop}{T:List Value->Tv->Prop}(hh:A.handled=none)(hv:s.heap.IsItemsView r d)(g:RawD s.heap d es ep)(hn:es.size<=TL)
  (q:∀ (h':UE)(tk:Nat)(as:List Addr),(∀ b o,s.heap.get? b=some o->h'.get? b=some o)->as.length=es.size->PrsAt es s.heap.objs.size h' as->s.heap.objs.size<=h'.objs.size->T (as.map TM) { s with heap:=h',toks:=tk }):TY (T7 P w) A (collect (.ref r)) T E s:=by
 have rl:r<s.heap.objs.size:=let ⟨_,ho,_⟩:=hv;TB ho
 unfold collect
 refine Tp (wpAny_runValue (VZ a3e ?_))
 rw [Vr F.plain_proto_collect _]
 refine Tp (m:=newList []) (Vp (TF ⟨Wn F.plain_list_iadd _,VZ a3f ?_⟩))
 rw [Vr F.plain_list_iadd _]
 have gS:(s.heap.push { cls:=.type "list",data:=.seq ([]:List Value).toArray }).get? s.heap.objs.size=some { cls:=.type "list",data:=.seq #[] }:=TZ _ rfl
 have all:=NO (A:=A) (s:={ s with heap:=s.heap.push { cls:=.type "list",data:=.seq ([]:List Value).toArray } }) (P:=P) (w:=w) (es:=es) (ep:=ep) (res:=.ref s.heap.objs.size) (c0:=0)
  (R:=fun (q:a0l)(s':Tv)=>∃ (h':UE)(tk:Nat)(acc:Array Value)(c:Nat)(as:List Addr),q=.ok (.ret (.ref s.heap.objs.size))/\s' = { s with heap:=h',toks:=tk }/\(∀ b o,s.heap.get? b=some o->h'.get? b=some o)/\h'.get? s.heap.objs.size=some { cls:=.type "list",dict:=none,data:=.seq acc c,slots:=#[] }/\as.length=es.size/\PrsAt es s.heap.objs.size h' as/\acc.toList=as.map TM)
  hh (let ⟨o,ho,x⟩:=hv;⟨o,Tu _ ho,x⟩) (g.stay fun o e=>Tu _ e) (Vq rl) (TV g.lt) gS hn
  (fun h' tk acc c as z0 z1 z2 z3 z4=>⟨h',tk,acc,c,as,rfl,rfl,fun b o e=>z0 b o (TV (TB e)) (Tu _ e),z1,z2,⟨z3.up,fun a ha=>WX (Wx _) (by have:=z3.over a ha;rw [WQ] at this;exact this),z3.prs⟩,z4⟩)
 refine Us all (fun fin s' x=>?_) fun e s' x=>?_
 ·cases fin with
  | done f=>
   obtain ⟨h',tk,acc,c,as,e,rfl,z0,z1,z2,z3,z4⟩:=x
   cases e
   refine Tp (m:=load s.heap.objs.size) (a0b z1 (TF ?_))
   show T acc.toList _
   rw [z4]
   exact q h' tk as z0 z2 z3 (XA (TB z1))
  | again c1=>
   refine ⟨x.1,XN x.2 fun y s2 x=>?_⟩
   obtain ⟨h',tk,acc,c,as,rfl,rfl,z0,z1,z2,z3,z4⟩:=x
   refine Tp (m:=load s.heap.objs.size) (a0b z1 (TF ?_))
   show T acc.toList _
   rw [z4]
   exact q h' tk as z0 z2 z3 (XA (TB z1))
 ·obtain ⟨_,_,_,_,_,e',_⟩:=x
  cases e'
end
end L3
namespace L3
open PySem L2 PySem.W PyProof.Rows
section
variable {P:Ub}{w:Up}{A:Ue}{E:Value->Tv->Prop}{s:Tv}
theorem NQ {v:Value}{Q:Bool->Tv->Prop}(q:Q true s):TY (T7 P w) A (eqBool v v) Q E s:=by
 unfold eqBool
 refine UQ ?_
 rw [if_pos (by simp)]
 exact Tp (Z9 (TF q))
theorem Dn:∀ k:List Int,HT.lexLt k k=false
 | []=>rfl
 | a::k=>by simp [HT.lexLt,Dn k]
noncomputable def sT (P:Ub)(w:Up)(h:UE)(b:Addr)(k:List Int):Prop:=Tb.IsT P w h k b/\∃ xs:List Value,Wq h b xs.toArray/\Wh xs k
theorem NR {a a' b b':Addr}{v v':Value}{k k':List Int}{C:Bool->Tv->Prop}(hu:A.units<Vm)(ga:s.heap.get? a=some { cls:=.type "tuple",data:=.seq #[.ref b,v] }) (ga':s.heap.get? a'=some { cls:=.type "tuple",data:=.seq #[.ref b',v'] })
  (hb:sT P w s.heap b k)(hb':sT P w s.heap b' k')(hv:k=k'->v=v')(q:C (HT.lexLt k k') s):TY (T7 P w) A (keyLt' (tuples' false) (.ref a) (.ref a')) C (fun _ _=>False) s:=by
 refine kat_lt ga rfl ga' rfl ?_
 refine kat_cons ((Yk (X6 P w)).eqBool hu hb.1 hb'.1 ?_)
 by_cases e:k=k'
 ·obtain rfl:=hv e
  subst e
  rw [decide_eq_true rfl]
  refine kat_yes (kat_cons (NQ (kat_yes (kat_nil ?_))))
  rw [Dn] at q
  exact q
 ·rw [decide_eq_false e]
  obtain ⟨xs,t1,i1⟩:=hb.2
  obtain ⟨ys,t2,i2⟩:=hb'.2
  refine kat_no (kat_one _ _ (HT.lt_tupInts t1 t2 (by simpa using i1) (by simpa using i2) hu ?_))
  exact q
noncomputable def sU (P:Ub)(w:Up)(A:Ue)(us:List Value)(an:Nat->Nat->Bool)(s:Tv):Prop:=
 TY (T7 P w) A (keyKind' us.toArray) (fun κ s'=>s'=s/\∀ (i j:Nat)(C:Bool->Tv->Prop),i<us.length->j<us.length->C (an i j) s->TY (T7 P w) A (keyLt' κ (us.getD i .none) (us.getD j .none)) C (fun _ _=>False) s) (fun _ _=>False) s
theorem NS {es:Array Vf}{lo:Addr}{as bs:List Addr}{ks:List (List Int)}(hu:A.units<Vm)(p:PrsAt es lo s.heap as)(h0:0<as.length)(hl:as.length=es.size)(hk:ks.length=es.size)(hbl:bs.length=es.size)(key:∀ (j:Nat)(e:Vf),es[j]? = some e->e.key=.ref (bs.getD j 0)/\sT P w s.heap (bs.getD j 0) (ks.getD j []))
  (nd:ks.Nodup):sU P w A (as.map TM) (fun i j=>HT.lexLt (ks.getD i []) (ks.getD j [])) s:=by
 have at_:∀ i,i<as.length->∃ (e:Vf),es[i]? = some e/\s.heap.get? (as.getD i 0)=some { cls:=.type "tuple",data:=.seq #[.ref (bs.getD i 0),e.val] }/\sT P w s.heap (bs.getD i 0) (ks.getD i []):=fun i hi=>by
  have ea:as[i]? = some (as.getD i 0):=by simp [Vb,hi]
  obtain ⟨e,e1,e2⟩:=p.prs i _ ea
  obtain ⟨k1,k2⟩:=key i e e1
  rw [k1] at e2
  exact ⟨e,e1,e2,k2⟩
 unfold sU
 have tups:KatTups s.heap (as.map TM) (bs.map TM):=by
  have go:∀ (n:Nat)(as' bs':List Addr),as'.length=n->bs'.length=n->(∀ i,i<n->∃ v:Value,s.heap.get? (as'.getD i 0)=some { cls:=.type "tuple",data:=.seq #[.ref (bs'.getD i 0),v] })->KatTups s.heap (as'.map TM) (bs'.map TM):=by
   intro n
   induction n with
   | zero=>
    intro as' bs' h1 h2 _
    rw [Z0.mp h1,Z0.mp h2]
    exact .nil
   | succ n ih=>
    intro as' bs' h1 h2 h3
    match as',bs',h1,h2 with
    | x::as',y::bs',h1,h2=>
     obtain ⟨v,hv⟩:=h3 0 (by omega)
     refine .cons hv rfl rfl (by simp) (ih as' bs' (by simpa using h1) (by simpa using h2) fun i hi=>?_)
     have:=h3 (i+1) (by omega)
     simpa using this
  refine go as.length as bs rfl (by omega) fun i hi=>?_
  obtain ⟨e,_,e2,_⟩:=at_ i hi
  exact ⟨_,e2⟩
 refine kat_kind (T:=.type "tuple") tups (by rw [Tt];omega) (fun v hv=>?_) (by decide) ⟨rfl,fun i j C hi hj hC=>?_⟩
 ·obtain ⟨b,hb,rfl⟩:=UZ.mp hv
  obtain ⟨i,hi⟩:=a0p.mp hb
  have hi':i<as.length:=by
   have:=(Tw.mp hi).1
   omega
  obtain ⟨e,_,_,k2⟩:=at_ i hi'
  have:bs.getD i 0=b:=by simp [Vb,hi]
  rw [this] at k2
  obtain ⟨xs,⟨o,o1,o2,_⟩,_⟩:=k2.2
  exact kitAt_ty _ _ ⟨o,o1,o2⟩
 ·rw [Tt] at hi hj
  obtain ⟨e,e1,e2,e3⟩:=at_ i hi
  obtain ⟨e',f1,f2,f3⟩:=at_ j hj
  have gi:(as.map TM).getD i .none=.ref (as.getD i 0):=by simp [Vb,hi]
  have gj:(as.map TM).getD j .none=.ref (as.getD j 0):=by simp [Vb,hj]
  rw [gi,gj]
  refine NR hu e2 f2 e3 f3 (fun z=>?_) hC
  have hij:i=j:=by
   have h1:ks.getD i []=ks[i]:=by simp [Vb,show i<ks.length by omega]
   have h2:ks.getD j []=ks[j]:=by simp [Vb,show j<ks.length by omega]
   rw [h1,h2] at z
   rcases WW i j with h|h|h
   ·exact absurd z ((Vi.mp nd) i j (by omega) (by omega) h)
   ·exact h
   ·exact absurd z.symm ((Vi.mp nd) j i (by omega) (by omega) h)
  subst hij
  rw [e1] at f1
  cases f1
  rfl
end
end L3
namespace L3
open PySem L2 PySem.W PyProof.Rows
section
variable {P:Ub}{w:Up}{A:Ue}{E:Value->Tv->Prop}{s:Tv}
theorem NT {c:Addr}{us:List Value}{z:Nat}{R:PySem.Fin->Tv->Prop}{an:Nat->Nat->Bool}(h2:2<=us.length)(h64:us.length<64)(g:s.heap.get? c=some (Vs "list" us.toArray z)) (H:∀ h3:UE,(∀ b o,b≠c->s.heap.get? b=some o->h3.get? b=some o)->sU P w A us an { s with heap:=h3 })
  (q:R (.done (.ret .none)) { s with heap:=a0d s.heap c us ((cF an us.length).map fun i=>us.getD i Uw).toArray }):TY (T7 P w) A (Builtin.«list.sort» ⟨[.ref c],[]⟩) R E s:=by
 rw [a2T]
 refine Tp (listItems_at g rfl (Tp (Y6 g rfl ?_ (by rw [TU,Ud];omega) (UP _))))
 obtain ⟨y,g1⟩:∃ y,(s.heap.update c (Ve fun _=>#[])).get? c=some (Vs "list" #[] y):=⟨_,a2V g _⟩
 refine Tp (ZT g1 rfl (Tp (a0a (Tp (Y4 (UQ ?_) (UP _))) (by show us.length<=_;rw [Ud];omega))))
 have g6:(((s.heap.update c (Ve fun _=>#[])).push (Vs "tuple" us.toArray 0)).push (Vs "list" #[] 0)).get? c=some (Vs "list" #[] y):=
  Tu _ (Tu _ g1)
 have ask:=H (((s.heap.update c (Ve fun _=>#[])).push (Vs "tuple" us.toArray 0)).push (Vs "list" #[] 0)) fun b o hb e=>Tu _ (Tu _ ((UL _ _ (Va hb)).trans e))
 show TY (T7 P w) A _ R E ⟨((s.heap.update c (Ve fun _=>#[])).push (Vs "tuple" us.toArray 0)).push (Vs "list" #[] 0),s.gens,s.drawn,s.toks,s.os⟩
 dsimp only
 have many:¬ us.toArray.size<2:=by rw [TU];omega
 rw [if_neg many,if_neg many]
 refine Tp (Us ask (fun κ s' hk=>?_) fun _ _ x=>x.elim)
 obtain ⟨rfl,hk⟩:=hk
 refine Tp (Us (kat_run (ks:=us) (vs:=us) (κ:=κ) (Q:=fun st' s'=>s' = { s with heap:=((s.heap.update c (Ve fun _=>#[])).push (Vs "tuple" us.toArray 0)).push (Vs "list" #[] 0) }/\failedOf st'=none/\(arrOf st').map (·.2)=((cF an us.length).map fun i=>us.getD i Uw).toArray)
  (G:=fun p s'=>s' = { s with heap:=((s.heap.update c (Ve fun _=>#[])).push (Vs "tuple" us.toArray 0)).push (Vs "list" #[] 0) }/\p.toList=cF an us.length) rfl h2 h64 (fun p st' s' a1 a2 a3 a4=>⟨a4.1,a3,by rw [kat_snds rfl a2,a4.2]⟩)
  (wG (n:=us.length) (ans:=an) (fun i j C hi hj hC=>hk i j C hi hj hC) (wJ (by omega)) ⟨rfl,rfl⟩)) (fun r s' hr=>?_) fun _ _ e=>e)
 obtain ⟨⟨⟩,st'⟩:=r
 obtain ⟨rfl,hf,hout⟩:=hr
 dsimp only at hf hout ⊢
 rw [hout]
 have hsz:((cF an us.length).map fun i=>us.getD i Uw).length=us.length:=by
  rw [Tt,(m4 an (n:=us.length) (by omega)).length_eq,YN]
 refine Tp (ZT g6 rfl (Tp (Y6 g6 rfl ?_ (hsz2:=by rw [TU,hsz,Ud];omega))))
 rw [hf]
 simp only [bne_self_eq_false,TQ,if_false]
 exact TF q
theorem NU {r d:Addr}{es:Array Vf}{ep:Nat}{Q:Value->Tv->Prop}{an:Nat->Nat->Bool}(hh:A.handled=none)(hv:s.heap.IsItemsView r d)(g:RawD s.heap d es ep)(h64:es.size<64)
  (H:2<=es.size->∀ (h3:UE)(tk:Nat)(as:List Addr),(∀ b o,s.heap.get? b=some o->h3.get? b=some o)->as.length=es.size->PrsAt es s.heap.objs.size h3 as->sU P w A.in1.in1 (as.map TM) an { s with heap:=h3,toks:=tk })
  (q:∀ (h3:UE)(tk:Nat)(as:List Addr)(L e:Nat),(∀ b o,s.heap.get? b=some o->h3.get? b=some o)->as.length=es.size->PrsAt es s.heap.objs.size h3 as->s.heap.objs.size<=L->(∀ a∈as,a≠L)->h3.get? L=some (Vs "list" ((cF an es.size).map fun i=>TM (as.getD i 0)).toArray e)->Q (.ref L) { s with heap:=h3,toks:=tk }) :
  TY (T7 P w) A (call (.builtin "sorted") [.ref r]) Q E s:=by
 refine ZF kind_sorted plain_sorted entry_sorted (args_sorted1 _) ?_
 unfold a0t
 refine Tp (m:=checkCount "sorted" 1 1 _) (TF (Tp (NP (A:=A.in1) hh hv g (by rw [Ud];omega) fun h' tk as kp al pr hlo=>?_)))
 have ul:(as.map TM).length=es.size:=by rw [Tt,al]
 refine Tp (Y4 ?_ (by rw [ul,Ud];omega))
 have gL:(h'.push (Vs "list" (as.map TM).toArray 0)).get? h'.objs.size=some (Vs "list" (as.map TM).toArray 0):=TZ _ rfl
 have fin:∀ out:List Value,out=((cF an es.size).map fun i=>TM (as.getD i 0))->Q (.ref h'.objs.size) { s with heap:=a0d (h'.push (Vs "list" (as.map TM).toArray 0)) h'.objs.size (as.map TM) out.toArray,toks:=tk }:=by
  rintro out rfl
  obtain ⟨e,he⟩:=sortedHeap_at (h:=h'.push (Vs "list" (as.map TM).toArray 0)) (out:=((cF an es.size).map fun i=>TM (as.getD i 0)).toArray) gL
  have old:∀ b o,h'.get? b=some o->(a0d (h'.push (Vs "list" (as.map TM).toArray 0)) h'.objs.size (as.map TM) ((cF an es.size).map fun i=>TM (as.getD i 0)).toArray).get? b=some o:=fun b o x=>by
   rw [sortedHeap_old (TV (TB x)) (by rw [WQ];exact Y1 (TB x))]
   exact Tu _ x
  exact q _ tk as h'.objs.size e (fun b o x=>old b o (kp b o x)) al (pr.stay fun b o _ x=>old b o x) hlo (fun a ha=>TV (pr.lt ha)) he
 by_cases h2:2<=es.size
 ·refine Tp (UQ (V9 a0e (s:={ s with heap:=h'.push (Vs "list" (as.map TM).toArray 0),toks:=tk }) ⟨_,gL,rfl⟩ ZZ (NT (an:=an) (by omega) (by omega) gL (fun h3 k3=>?_) ⟨_,rfl,?_⟩) (a0i _)))
  ·exact H h2 h3 tk as (fun b o e=>k3 b o (TV (T6 (TB e) hlo)) (Tu _ (kp b o e))) al (pr.stay fun b o hb e=>k3 b o (TV (TB e)) (Tu _ e))
  ·refine TF ⟨_,rfl,fin _ ?_⟩
   rw [ul]
   refine Xw fun i hi=>?_
   have hi:i<as.length:=by
    have:=Vn.mp ((wL an es.size).mem_iff.mp hi)
    omega
   simp [Vb,hi]
 ·refine Tp (UQ (V9 a0e (s:={ s with heap:=h'.push (Vs "list" (as.map TM).toArray 0),toks:=tk }) ⟨_,gL,rfl⟩ ZZ (Cg (by omega) gL ⟨_,rfl,?_⟩) (a0i _)))
  refine TF ⟨_,rfl,fin (as.map TM) ?_⟩
  match as,al with
  | [],e=>rw [<- e];show []=(cF _ 0).map _;rw [Cj];rfl
  | [b],e=>rw [<- e];show [TM b]=(cF _ 1).map _;rw [Ci];rfl
  | _::_::_,e=>rw [<- e] at h2;simp at h2
end
end L3
namespace L3
open PySem L2
section
variable {P:Ub}{w:Up}{A:Ue}{E:Value->Tv->Prop}{s:Tv}{a:Addr}
theorem NV:V4 (.type "list") "keys" = pure none:=by rw [a2S,a1w];kernel_rfl
theorem NW {o:Obj}{xs:Array Value}{k:Nat}{Q:Option Value->Tv->Prop}(g:s.heap.get? a=some o)(g1:o.cls=.type "list") (g2:o.data=.seq xs k)(g3:o.dict=none)(hA:A.handled=none)
  (q:∀ h' tk,(∀ b u,s.heap.get? b=some u->h'.get? b=some u)->Q none { s with heap:=h',toks:=tk }):TY (T7 P w) A (Zp (.ref a) "keys") Q E s:=by
 obtain ⟨c,dct,dat,sl⟩:=o
 dsimp only at g1 g2 g3
 subst g1 g2 g3
 obtain ⟨hp,gs,dr,tk,os⟩:=s
 have ty:∀ tk',(⟨hp,gs,dr,tk',os⟩:Tv).TypeIs (.ref a) "list":=fun _=>⟨_,g,rfl⟩
 have e1:=a1W
 have e2:=F.slot_list_getattribute.lookup
 have e3:=F.slot_list_getattribute.bind (.ref a)
 have e4:=am_list_getattr_none
 unfold Zp a1Z getAttrBy
 repeat (any_goals (first|assumption|exact ty _|((with_reducible show TY _ _ (call (TH "list.__getattribute__") _ _) _ _ _);refine WC F.slot_list_getattribute (ty _) am_entry_list_getattribute (F.args_list_getattribute_2 _ _) (meets_getattribute_miss_list a xs k sl "keys" _ NV (by decide +kernel)) ⟨g,hA,fun h' tk' e ne=>?_⟩)|wp_step))
 obtain ⟨y1,y2,there⟩:=ne.there
 show TY _ _ (XX _ _ _ _ none false false) _ _ _
 unfold XX
 repeat (any_goals (first|assumption|wp_step))
 exact q _ _ ne.of.keeps
end
section
variable {X:Cx}{a3G:List (Addr×Obj)}{σ:St}{A:Ue}{d l it:Addr}{items:Array Value}{R:a0l->Tv->Prop}
theorem NX (hh:A.handled=none)(hu:A.in1.units<Vm)(ld:l≠d)(li:l≠it):∀ (L:List (Addr×List Int×Addr×V))(i:Nat)(ps:bP)(H:Hp)(s:Tv),Inv X a3G σ H s->H d=some (a9 d ps)->dS X.K H ps->s.heap.IsList l items->items.toList.drop i=L.map (fun r=>TM r.1)->
  (∀ r∈L,(∃ u,RelV r.2.2.2 u/\Wq s.heap r.1 #[.ref r.2.2.1,u])/\SqT X.K H r.2.2.1 (r.2.1.map V.int)/\r.1≠d/\r.1≠it)->eT X a3G H it->s.heap.IsListIter it l i->ps.length+L.length<=TL->
  (∀ s',Inv X a3G σ (aH H d (a9 d (fA ps L))) s'->R (.ok (.ret .none)) s')->XQ (T7 X.prog X.w) A (.builtin "dict.update.loop" ⟨[.ref d,.ref it,VW i,.none],[]⟩) R s:=by
 intro L
 induction L with
 | nil=>
  intro i ps H s I e hk hl hd hr hf st hz q
  obtain ⟨f0,f1,f2,f3,f4,f5⟩:=hf
  have hlen:items.size<=i:=by
   have:=congrArg Vu hd
   simp at this
   omega
  refine VZ sR ?_
  rw [Vr j0 _]
  show TY _ A.in1 (XF (.ref it) >>= _) _ _ s
  refine Tp (YA hh st hl (X5 hlen) fun h' eb=>?_)
  have I1:Inv X a3G σ H { s with heap:=h' }:=I.turned (t':=s.toks) (fun b o hb e=>eb b o hb e) f0 f1 f3 f4 f5
  show TY _ _ (YU d [] >>= _) _ _ _
  refine Tp (TF (TF (q _ ?_)))
  have:aH H d (a9 d (fA ps []))=H:=by
   funext b
   unfold aH
   split
   ·rename_i z;rw [z];exact e.symm
   ·rfl
  rw [this]
  exact I1
 | cons r L ih=>
  intro i ps H s I e hk hl hd hr hf st hz q
  obtain ⟨f0,f1,f2,f3,f4,f5⟩:=id hf
  have hx:items[i]? = some (.ref r.1):=by
   have:=congrArg (·[0]?) hd
   simpa using this
  refine VZ sR ?_
  rw [Vr j0 _]
  show TY _ A.in1 (XF (.ref it) >>= _) _ _ s
  refine Tp (Yt st hl hx fun h' st' sb=>?_)
  have I1:Inv X a3G σ H { s with heap:=h' }:=I.turned (t':=s.toks) (fun b o hb e=>(sb.2 b hb).trans e) f0 f1 f3 f4 f5
  obtain ⟨⟨u,ru,t0⟩,sq,r1,r2⟩:=hr r (Uy ..)
  have t1:Wq ({ s with heap:=h' }:Tv).heap r.1 #[.ref r.2.2.1,u]:=let ⟨o,o1,o2⟩:=t0;⟨o,sb.extBut _ o r2 o1,o2⟩
  refine Tp (UQ (Tp (a3r (Dh t1 ?_))))
  have hps:ps.length<TL:=by
   rw [Um] at hz
   omega
  refine UQ (xA hu I1 e hk sq hps ru fun s' I2 kp=>?_)
  refine TF ⟨Wn j0 _,?_⟩
  have bG:it≠d:=fun z=>by
   rw [<- z,f0] at e
   cases e
  have hrest:∀ x∈L,(∃ u,RelV x.2.2.2 u/\Wq s'.heap x.1 #[.ref x.2.2.1,u])/\SqT X.K (aH H d (a9 d (dA ps r.2.1 r.2.2.1 r.2.2.2))) x.2.2.1 (x.2.1.map V.int)/\x.1≠d/\x.1≠it:=fun x hx=>by
   obtain ⟨⟨u',ru',⟨o,o1,o2⟩⟩,sq',x1,x2⟩:=hr x (Uo _ hx)
   exact ⟨⟨u',ru',o,kp _ o x1 (sb.extBut _ o x2 o1),o2⟩,j4 e sq',x1,x2⟩
  have hdr:items.toList.drop (i+1)=L.map (fun r=>TM r.1):=by
   have:=congrArg a3F hd
   simpa [a1S] using this
  refine ih (i+1) (dA ps r.2.1 r.2.2.1 r.2.2.2) _ s' I2 bU (Dg (fun p hp=>j4 e (hk p hp)) (j4 e sq)) ?_ hdr hrest ⟨by rw [aW bG];exact f0,f1,f2,f3,f4,f5⟩ (st'.at fun o ho=>kp it o bG ho) ?_ fun s'' I''=>q s'' ?_
  ·obtain ⟨o,o1,o2⟩:=hl
   exact ⟨o,kp l o ld (sb.extBut l o li o1),o2⟩
  ·have:=sJ ps r.2.1 r.2.2.1 r.2.2.2
   rw [Um] at hz
   omega
  ·rw [sS] at I''
   exact I''
end
end L3
namespace L3
open PySem L2
theorem Dp:∀ (L:List (Addr×List Int×Addr×V))(ps:bP),(ps.map (·.1)++L.map (·.2.1)).Nodup->fA ps L=ps++L.map (·.2)
 | [],ps,_=>by simp [fA]
 | r::L,ps,h=>by
  have hn:r.2.1∉ps.map (·.1):=fun z=>by
   rw [T4] at h
   exact (YM.mp h).2.2 _ z _ (Uy ..) rfl
  have e:dA ps r.2.1 r.2.2.1 r.2.2.2=ps++[r.2]:=by
   unfold dA
   rw [if_neg]
   intro z
   obtain ⟨v,hv⟩:=Uv.mp z
   unfold eK at hv
   obtain ⟨p,h1,_⟩:=Tq.mp hv
   have h2:=a1N h1
   simp only [decide_eq_true_eq] at h2
   exact hn (UZ.mpr ⟨p,Wz h1,h2⟩)
  show fA (dA ps r.2.1 r.2.2.1 r.2.2.2) L=_
  rw [e,Dp L _ (by simpa using h)]
  simp
section
variable {X:Cx}{a3G:List (Addr×Obj)}{σ:St}{H:Hp}{s:Tv}
theorem NY (hc:X.calm=true)(hun:X.A.units+64<Vm)(I:Inv X a3G σ H s){l:Addr}{e:Nat}{L:List (Addr×List Int×Addr×V)}{Q:VK}(gL:s.heap.get? l=some { cls:=.type "list",data:=.seq (L.map fun r=>TM r.1).toArray e }) (hl:L.length<=TL)
  (hr:∀ r∈L,(∃ u,RelV r.2.2.2 u/\Wq s.heap r.1 #[.ref r.2.2.1,u])/\SqT X.K H r.2.2.1 (r.2.1.map V.int))(k:∀ d,H d=none->Q (.ref d) (aH H d (a9 d (fA [] L)))) :
  TY (T7 X.prog X.w) X.A (call (.type "dict") [.ref l]) (EP X a3G σ Q) X.xe s:=by
 have hn:H s.heap.objs.size=none:=I.hok.fresh (TK _)
 refine a3C (Q₁:=fun obj s₁=>obj=.ref s.heap.objs.size/\s₁ = { s with heap:=s.heap.push { cls:=.type "dict",data:=.dict #[] } }) F.kt_called_dict (F.kt_typeCall_dict_1 _) F.entry_dict_init (a2y _ ⟨rfl,rfl⟩) ?_
 rintro obj s₁ ⟨rfl,rfl⟩
 have I0:Inv X a3G σ (aH H s.heap.objs.size (a9 s.heap.objs.size [])) { s with heap:=s.heap.push { cls:=.type "dict",data:=.dict #[] } }:=I.laid (a:=s.heap.objs.size) (o:=a9 s.heap.objs.size []) (t':=s.toks) (fun _ _ q=>Tu _ q) (TK _) (sN s.heap I.big)
 have ty:({ s with heap:=s.heap.push { cls:=.type "dict",data:=.dict #[] } }:Tv).TypeIs (.ref s.heap.objs.size) "dict":=⟨_,TZ _ rfl,rfl⟩
 refine ⟨ty,F.args_dict_init_2 _ _,?_⟩
 unfold Builtin.«dict.__init__»
 refine Tp ?_
 unfold YT
 refine Tp (Xh ty ?_)
 show TY _ _ (pure (s.heap.objs.size,[TM l])) _ _ _
 refine TF ?_
 show TY _ _ (Wt "dict.__init__" s.heap.objs.size (.ref l) [] .none) _ _ _
 unfold Wt
 have mono:∀ {b:Addr}{vs:List V},SqT X.K H b vs->SqT X.K (aH H s.heap.objs.size (a9 s.heap.objs.size [])) b vs:=fun {b vs} z=>by
  have ne:H b≠none->b≠s.heap.objs.size:=fun f y=>by rw [y] at f;exact f hn
  rcases z with (z|⟨ob,z⟩)|z
  ·exact .inl (.inl (by rw [aW (ne (by rw [z];exact fun y=>nomatch y))];exact z))
  ·exact .inl (.inr ⟨ob,by rw [aW (ne (by rw [z];exact fun y=>nomatch y))];exact z⟩)
  ·exact .inr z
 have g0:=Tu { cls:=.type "dict",data:=.dict #[] } gL
 refine Tp (Ys (T:="list") ⟨_,g0,rfl⟩ ?_)
 rw [if_pos (by decide)]
 refine Tp (NW g0 rfl rfl rfl (I.ok.hd hc) fun h' tk kp=>?_)
 have I1:Inv X a3G σ (aH H s.heap.objs.size (a9 s.heap.objs.size [])) { s with heap:=h',toks:=tk }:=I0.kept (t':=tk) kp
 show TY _ _ (rule _ >>= _) _ _ _
 refine Tp (Z9 ?_)
 have hl1:({ s with heap:=h',toks:=tk }:Tv).heap.IsList l (L.map fun r=>TM r.1).toArray:=⟨_,kp _ _ g0,rfl,_,rfl⟩
 refine Tp (Wu hl1 ?_)
 have I2:=I1.kept (t':=tk) (h':=h'.push { cls:=.type "list_iterator",data:=.fields #[.ref l,.int 0 0] }) fun b o e=>Tu _ e
 refine TF ⟨Wn j0 _,?_⟩
 have lt1:∀ {b:Addr}{o:Obj},s.heap.get? b=some o->b≠s.heap.objs.size:=fun x=>TV (TB x)
 have lt2:∀ {b:Addr}{o:Obj},s.heap.get? b=some o->b≠h'.objs.size:=fun x=>TV (TB (kp _ _ (Tu _ x)))
 refine NX (A:=X.A.in1) (items:=(L.map fun r=>TM r.1).toArray) (I.ok.hd hc) (by show X.A.units+1+1<Vm;omega) (lt1 gL) (lt2 gL) L 0 [] _ _ I2 bU (fun p hp=>nomatch hp) (let ⟨o,o1,o2⟩:=hl1;⟨o,Tu _ o1,o2⟩) (by simp) (fun r hr'=>?_) (I1.fpOk (TK _) (I1.hok.fresh (TK _))) ⟨_,TZ _ rfl,rfl,rfl⟩ (by simpa using hl) fun s' I'=>?_
 ·obtain ⟨⟨u,ru,o,o1,o2⟩,sq⟩:=hr r hr'
  exact ⟨⟨u,ru,o,Tu _ (kp _ _ (Tu _ o1)),o2⟩,mono sq,lt1 o1,lt2 o1⟩
 ·rw [sS] at I'
  exact ⟨rfl,.ref s.heap.objs.size,_,I',rfl,k _ hn⟩
end
end L3
namespace L3
open PySem L2
noncomputable def iG (ps:bP):bP:=(cF (fun i j=>HT.lexLt ((ps.map (·.1)).getD i []) ((ps.map (·.1)).getD j [])) ps.length).map fun i=>ps.getD i ([],0,.non)
theorem NZ {ps:bP}:(iG ps).Perm ps:=by
 unfold iG
 have p:=(wL (fun i j=>HT.lexLt ((ps.map (·.1)).getD i []) ((ps.map (·.1)).getD j [])) ps.length).map fun i=>ps.getD i ([],0,.non)
 have e:(UB ps.length).map (fun i=>ps.getD i ([],0,.non))=ps:=by
  refine a1D (by simp) fun i h1 h2=>?_
  simp [Vb,h2]
 rw [e] at p
 exact p
section
variable {X:Cx}{a3G:List (Addr×Obj)}{σ:St}{H:Hp}{s:Tv}
theorem N0 (hc:X.calm=true)(hun:X.A.units+64<Vm)(I:Inv X a3G σ H s){d r:Addr}{ps:bP}{Q:VK}(e:H d=some (a9 d ps))(hk:dS X.K H ps)(h2:2<=ps.length)(h64:ps.length<64)(hv:s.heap.IsItemsView r d)(k:∀ l,H l=none->Q (.ref l) (aH H l (a9 l (iG ps)))) :
  TY (T7 X.prog X.w) X.A (call (.builtin "sorted") [.ref r]) (fun v s'=>TY (T7 X.prog X.w) X.A (call (.type "dict") [v]) (EP X a3G σ Q) X.xe s') X.xe s:=by
 obtain ⟨lo,hl,ws,rv,z,es,ep,z1,z2,z3,z4,z5,z6⟩:=jZ I (.of e) hk
 have hwl:ws.length=ps.length:=by
  have:=rv.length
  rw [Tt] at this
  exact this.symm
 have hxl:(bQ ps ws).length=ps.length:=by unfold bQ;rw [List.length_zipWith,hwl,Nat.min_self]
 have hes:es.size=ps.length:=by rw [<- Xp,z4,Tt,hxl]
 have nd:(ps.map (·.1)).Nodup:=by rw [nM rv] at z6;exact z6
 have at_:∀ (j:Nat)(en:Vf),es[j]? = some en->∃ p u,ps[j]? = some p/\ws[j]? = some u/\en.key=.ref p.2.1/\en.val=u:=fun j en h=>by
  rw [<- WZ,z4,Uu] at h
  obtain ⟨x,h1,rfl⟩:=Tq.mp h
  unfold bQ at h1
  rw [a0q] at h1
  cases hp:ps[j]? with
  | none=>rw [hp] at h1;simp at h1
  | some p=>
   cases hw:ws[j]? with
   | none=>rw [hp,hw] at h1;simp at h1
   | some u=>
    rw [hp,hw] at h1
    have:(p.1,p.2.1,u)=x:=by simpa using h1
    subst this
    exact ⟨p,u,rfl,rfl,rfl,rfl⟩
 refine NU (an:=fun i j=>HT.lexLt ((ps.map (·.1)).getD i []) ((ps.map (·.1)).getD j [])) (I.ok.hd hc) hv ⟨z,z1,z2,z3⟩ (by omega) (fun h22 h3 tk as kp al pr=>?_) (fun h3 tk as L en kp al pr hL nL gL=>?_)
 ·have I3:Inv X a3G σ H { s with heap:=h3,toks:=tk }:=I.kept (t':=tk) kp
  refine NS (A:=X.A.in1.in1) (s:={ s with heap:=h3,toks:=tk }) (bs:=ps.map (·.2.1)) (ks:=ps.map (·.1)) (by show X.A.units+1+1<Vm;omega) pr (by omega) al (by rw [Tt,hes]) (by rw [Tt,hes]) (fun j en hj=>?_) nd
  obtain ⟨p,u,p1,p2,p3,p4⟩:=at_ j en hj
  have hjl:j<ps.length:=(Tw.mp p1).1
  have eb:(ps.map (·.2.1)).getD j 0=p.2.1:=by simp [Vb,p1]
  have ek:(ps.map (·.1)).getD j []=p.1:=by simp [Vb,p1]
  rw [eb,ek]
  have sq:=hk p (UG p1)
  refine ⟨p3,lP I3 sq,?_⟩
  obtain ⟨xs,rx,t,_⟩:=I3.tuple sq
  exact ⟨xs,t,Ck rx⟩
 ·have I3:Inv X a3G σ H { s with heap:=h3,toks:=tk }:=I.kept (t':=tk) kp
  rw [hes] at gL
  have hsl:=(m4 (fun i j=>HT.lexLt ((ps.map (·.1)).getD i []) ((ps.map (·.1)).getD j [])) (n:=ps.length) (by omega))
  have hin:∀ i∈cF (fun i j=>HT.lexLt ((ps.map (·.1)).getD i []) ((ps.map (·.1)).getD j [])) ps.length,i<ps.length:=fun i hi=>Vn.mp (hsl.mem_iff.mp hi)
  generalize hix:cF (fun i j=>HT.lexLt ((ps.map (·.1)).getD i []) ((ps.map (·.1)).getD j [])) ps.length=ix at gL hsl hin
  have hst:iG ps=ix.map fun i=>ps.getD i ([],0,.non):=by unfold iG;rw [hix]
  refine NY hc hun I3 (L:=ix.map fun i=>(as.getD i 0,ps.getD i ([],0,.non))) (e:=en) ?_ (by rw [Tt,hsl.length_eq,YN];exact hl) (fun r hr=>?_) fun l hl'=>?_
  ·rw [UK]
   exact gL
  ·obtain ⟨i,hi,rfl⟩:=UZ.mp hr
   have hi':=hin i hi
   have hia:as[i]? = some (as.getD i 0):=by simp [Vb,show i<as.length by omega]
   obtain ⟨x,x1,x2⟩:=pr.prs i _ hia
   obtain ⟨p,u,p1,p2,p3,p4⟩:=at_ i x x1
   have ep:ps.getD i ([],0,.non)=p:=by simp [Vb,p1]
   dsimp only
   rw [ep]
   obtain ⟨u',g1,g2⟩:=rv.get (i:=i) (x:=p.2.2) (by rw [Uu,p1];rfl)
   rw [p2] at g1
   cases g1
   rw [p3,p4] at x2
   exact ⟨⟨u,g2,_,x2,rfl,_,rfl⟩,hk p (UG p1)⟩
  ·have hf:fA [] (ix.map fun i=>(as.getD i 0,ps.getD i ([],0,.non)))=iG ps:=by
    rw [Dp _ [] ?_,Ut,UK,hst]
    ·rfl
    ·rw [X8,Ut,UK]
     have pm:=(NZ (ps:=ps)).map (·.1)
     rw [hst,UK] at pm
     exact pm.nodup_iff.mpr nd
   rw [hf]
   exact k l hl'
end
end L3
namespace L3
open PySem L2
section
variable {P:Ub}{w:Up}
theorem N3 (d:Addr)(hd:(d == VL)=false):MeetsIn P w (Builtin.«dict.items» ⟨[.ref d],[]⟩) (fun _ R s=>(∃ es ep,RawD s.heap d es ep) /\
   R (.ok (.ret (.ref s.heap.objs.size))) { s with heap:=s.heap.push { cls:=.type "dict_items",data:=.fields #[.ref d] } }):=
 .of_wp fun A R s ⟨⟨es,ep,g⟩,h⟩=>by
  unfold Builtin.«dict.items»
  refine Tp ?_
  unfold a3o
  refine Tp (Xh g.ty ?_)
  show TY _ _ (pure d) _ _ s
  refine TF ?_
  show TY _ _ (WH d >>= _) _ _ s
  unfold WH
  rw [if_neg (by rw [hd];exact UN)]
  refine Tp (TF ?_)
  exact Tp (Vp (TF ⟨_,rfl,h⟩))
end
noncomputable def Dq (K:To):V->List V->Hp->VK->Prop:=fun x _ H Q=>∃ a ps,x=.ref a/\H a=some (a9 a ps)/\dS K H ps/\2<=ps.length/\ps.length<64/\∀ l,H l=none->Q (.ref l) (aH H l (a9 l (iG ps)))
section
variable {X:Cx}{o:TJ}{to:TE}{apos cpos p p2 pos pos2:Vk}
theorem N4 (hc:X.calm=true)(hun:X.A.units+64<Vm)(hm1:X.mg "sorted" = none) (hm2:X.mg "dict" = none) (hg1:Gl X "sorted") (hg2:Gl X "dict") (ho:PE X o to)
  (hbase:WN o "items" X.env (eval o X.env)=eval o X.env) (hline:(apos.endLine == cpos.line)=true) :
  PE X (.Call (.Name "dict" p) [.Call (.Name "sorted" p2) [.Call (.Attribute o "items" apos) [] [] cpos] [] pos2] [] pos) (fun σ H Q=>to σ H fun x H1=>Dq X.K x [] H1 Q):=by
 intro a3G s σ H Q I h
 refine Vx (gJ I hg2 hm2 WV ?_)
 refine VE ?_ rfl rfl
 refine YE ?_
 refine Vx (gJ I hg1 hm1 Yc ?_)
 refine VR ?_ rfl rfl
 refine YE ?_
 refine a0M hbase hline (aO (ho a3G s σ H _ I h) fun v s1 ⟨x,H1,I1,r1,a,ps,ex,e,hk,h2,h64,q⟩=>?_)
 subst ex
 obtain rfl:v=TM a:=r1
 obtain ⟨lo,hl,es,ep,g,he⟩:=w8 I1 e hk
 refine ⟨"dict","dict.items",PySem.F.plainAttrs_dict,ZA,PySem.F.type_dict_items,g.ty,fun b eb=>?_,X4 rfl (a0u ?_)⟩
 ·cases eb
  obtain ⟨z,g1,g2,_⟩:=g
  exact ⟨z,g1,g2.2.1⟩
 refine call_meetsIn ZA g.ty PySem.F.entry_dict_items (PySem.F.args_dict_items_1 _) (N3 a lo) ⟨⟨es,ep,g⟩,?_⟩
 refine YL ?_
 have I2:Inv X a3G σ H1 { s1 with heap:=s1.heap.push { cls:=.type "dict_items",data:=.fields #[.ref a] } }:=I1.kept (t':=s1.toks) fun b o e=>Tu _ e
 refine aO (N0 hc hun I2 e hk h2 h64 ⟨_,TZ _ rfl,rfl,rfl⟩ q) fun v s' hv=>YL hv
end
noncomputable def jD (kvs:List (List Int×D)):List (List Int×D):=(cF (fun i j=>HT.lexLt ((kvs.map (·.1)).getD i []) ((kvs.map (·.1)).getD j [])) kvs.length).map fun i=>kvs.getD i ([],.non)
noncomputable def nP:D->Hm->Option (D×Hm)
 | .loc a,μ=>match μ[a]? with
  | some (.dT kvs)=>if 2<=kvs.length/\kvs.length<64 then some (.loc μ.length,μ++[.dT (jD kvs)]) else none
  | _=>none
 | _,_=>none
noncomputable def lW (m:ME):ME:=fun ρ μ=>(m ρ μ).bind fun r=>nP r.1 r.2
theorem N5 {α β:Type}{R:α->β->Prop}{as:List α}{bs:List β}(h:Xb R as bs)(a0:α)(b0:β):∀ i,i<as.length->R (as.getD i a0) (bs.getD i b0):=by
 induction h with
 | nil=>exact fun i hi=>nomatch hi
 | cons e t ih=>
  intro i hi
  cases i with
  | zero=>exact e
  | succ i=>exact ih i (by simpa using hi)
theorem Dr {α β:Type}{R:α->β->Prop}{f:Nat->α}{g:Nat->β}:∀ {l:List Nat},(∀ i∈l,R (f i) (g i))->Xb R (l.map f) (l.map g)
 | [],_=>.nil
 | i::l,h=>.cons (h i (Uy ..)) (Dr fun j hj=>h j (Uo _ hj))
theorem N6 {K:To}{π:Nat->Addr}{n:Nat}{H:Hp}{ps:bP}{kvs:List (List Int×D)}(h:IsTs K π n H ps kvs):ps.length=kvs.length/\IsTs K π n H (iG ps) (jD kvs):=by
 have ek:=h.to.1
 have el:ps.length=kvs.length:=by
  have:=congrArg Vu ek
  simpa using this
 refine ⟨el,?_⟩
 unfold iG jD
 rw [ek,el]
 refine Dr fun i hi=>N5 h _ _ i ?_
 have:=Vn.mp ((wL _ kvs.length).mem_iff.mp hi)
 omega
theorem N7 {K:To}{mo:ME}:∀ σ H Q,tM K (lW mo) σ H Q->tM K mo σ H fun x H1=>Dq K x [] H1 Q:=by
 rintro σ H Q ⟨π,ρ,μ,d,μ',R,E,hm,k⟩
 obtain ⟨⟨x,μ1⟩,h1,hm⟩:=Tj.mp hm
 refine ⟨π,ρ,μ,x,μ1,R,E,h1,fun π1 v1 H1 e1 R1 i1=>?_⟩
 have k1:=k.after e1
 dsimp only at hm
 unfold nP at hm
 split at hm
 ·split at hm
  ·rename_i kvs hc
   split at hm
   ·rename_i hb
    cases hm
    cases i1
    obtain ⟨ps,e2,T⟩:=lU R1 hc
    obtain ⟨el,T2⟩:=N6 T
    refine ⟨_,ps,rfl,e2,T.keys,by omega,by omega,fun l hl=>?_⟩
    obtain ⟨e3,R3,q3⟩:=R1.alloc (c:=.dT (jD kvs)) (o:=a9 l (iG ps)) hl ⟨_,rfl,T2.to.1,T2.to.2.1,T2.to.2.2⟩
    exact k1 _ _ _ e3 R3 fW
   ·cases hm
  ·cases hm
 ·cases hm
theorem N8 {X:Cx}{o:TJ}{mo:ME}{apos cpos p p2 pos pos2:Vk}(hc:X.calm=true)(hun:X.A.units+64<Vm)(hm1:X.mg "sorted" = none) (hm2:X.mg "dict" = none) (hg1:Gl X "sorted") (hg2:Gl X "dict") (ho:QE X o mo)(hs:i7 o=true)(hl:(apos.endLine == cpos.line)=true) :
  QE X (.Call (.Name "dict" p) [.Call (.Name "sorted" p2) [.Call (.Attribute o "items" apos) [] [] cpos] [] pos2] [] pos) (lW mo):=
 ⟨cK (N4 hc hun hm1 hm2 hg1 hg2 ho.h (lJ hs) hl) N7⟩
end L3
namespace L3
open PySem L2
noncomputable def lX (mk mv:ME):ME:=fun ρ μ=>(mk ρ (μ++[.dT []])).bind fun p=>(mv ρ p.2).bind fun q=>match q.2[μ.length]? with
 | some (.dT [])=>(dZ p.1).map fun k=>(.loc μ.length,q.2.set μ.length (.dT [(k,q.1)]))
 | _=>none
section
variable {X:Cx}{k v:TJ}{mk mv:ME}{tk tv:TE}{pos:Vk}
noncomputable def N9 (K:To)(tk tv:TE):TE:=fun σ H Q=>∀ p,H p=none->tk σ (aH H p (a9 p [])) fun x H1=>tv σ H1 fun y H2=>H2 p=some (a9 p [])/\∃ b kk,x=.ref b/\SqT K H2 b (kk.map V.int)/\Q (.ref p) (aH H2 p (a9 p [(kk,b,y)]))
theorem Oa (hu:X.A.units+1<Vm)(hk:PE X k tk)(hv:PE X v tv):PE X (.Dict [some k] [v] pos) (N9 X.K tk tv):=by
 intro a3G s σ H Q I q
 have hn:=I.hok.fresh (TK s.heap.objs.size)
 have I1:=I.laid (a:=s.heap.objs.size) (o:=a9 s.heap.objs.size []) (h':=s.heap.push { cls:=.type "dict",data:=.dict #[] }) (t':=s.toks) (fun _ _ q=>Tu _ q) (TK _) (sN s.heap I.big)
 refine wpAny_Dict_any rfl rfl (by simp) (by simp) (pairTrees_cons_walk (aO (hk a3G _ σ _ _ I1 (q _ hn)) fun u s1 ⟨x,H1,I2,rx,q1⟩=>aO (hv a3G s1 σ H1 _ I2 q1) fun u2 s2 ⟨y,H2,I3,ry,e,b,kk,ex,hb,q2⟩=>pairTrees_nil_walk ?_))
 subst ex
 obtain rfl:u=TM b:=rx
 unfold storeAll
 refine Tp (Tp (xA (by omega) I3 e (fun p hp=>nomatch hp) hb (by rw [Ud];simp) ry fun s' I' _=>TF (TF ?_)))
 exact ⟨.ref s.heap.objs.size,_,I',rfl,q2⟩
theorem Ob {n:Nat}(hr:Room n X.A)(hk:QE X k mk)(hv:QE X v mv):QE X (.Dict [some k] [v] pos) (lX mk mv):=⟨cK (Oa (eJ hr) hk.h hv.h) (by
 rintro σ H Q ⟨π,ρ,μ,d,μ',R,E,hm,kc⟩ p hp
 obtain ⟨⟨x,μ1⟩,h1,hm⟩:=Tj.mp hm
 obtain ⟨⟨y,μ2⟩,h2,hm⟩:=Tj.mp hm
 obtain ⟨e1,R1,q1⟩:=R.alloc (c:=.dT []) (o:=a9 p []) hp ⟨[],rfl,rfl,.nil,.nil⟩
 refine ⟨_,ρ,_,x,μ1,R1,E.mono e1,h1,fun π1 v1 H1 e2 R2 i1=>⟨π1,ρ,μ1,y,μ2,R2,(E.mono e1).mono e2,h2,fun π2 v2 H2 e3 R3 i2=>?_⟩⟩
 dsimp only at hm
 split at hm
 ·rename_i hc
  obtain ⟨kk,hkk,hm⟩:=Tq.mp hm
  cases hm
  have hlt:μ.length<μ2.length:=(Tw.mp hc).1
  have hl1:(μ++[C.dT []]).length<=μ1.length:=e2.le
  have hpi:π2 μ.length=p:=by rw [e3.pi μ.length (by simp at hl1;omega),e2.pi μ.length (by simp),q1]
  obtain ⟨ps,f1,T⟩:=lU R3 hc
  cases T
  obtain ⟨b,rfl,hb⟩:=pN (i1.mono e3) hkk
  obtain ⟨e4,R4⟩:=R3.put (a:=μ.length) (c:=.dT [(kk,y)]) (o:=a9 _ [(kk,b,v2)]) hlt f1 (.inr (.inr ⟨_,rfl⟩)) (by
   have T':IsTs X.K π2 μ2.length H2 [(kk,b,v2)] [(kk,y)]:=.cons ⟨rfl,hb,i2⟩ .nil
   exact ⟨_,rfl,T'.to.1,T'.to.2.1,T'.to.2.2⟩)
  rw [hpi] at f1 e4 R4
  refine ⟨f1,b,kk,rfl,hb,kc π2 _ _ (((e1.trans e2).trans e3).trans e4) R4 ?_⟩
  rw [<- hpi]
  exact .loc (by rw [VG];exact hlt)
 ·cases hm)⟩
end
end L3
namespace L3
open PySem L2
structure Sig where
 fn:List (Str×Nat)
 con:List (Str×D)
 tab:List (Str×List (aX×D))
 no:List Str
 dIt:List Str
 dEq:List Str
 dMe:List Str
 cls:List (Str×Str):=[]
 sup:List (Str×List Str):=[]
 rz:List Str:=[]
structure Cs where
 N:List Str
 ks:List (Str×V1)
noncomputable def f9 (x:Str):List Str->Option Nat
 | []=>none
 | y::r=>if x=y then some 0 else (f9 x r).map (·+1)
theorem j5 {x:Str}:∀ {N:List Str}{i:Nat},f9 x N=some i->N[i]? = some x
 | [],_,h=>by cases h
 | y::r,i,h=>by
  unfold f9 at h
  split at h
  ·rename_i e;cases h;subst e;rfl
  ·obtain ⟨j,h1,h2⟩:=Tq.mp h
   subst h2
   have:=j5 h1
   simpa using this
noncomputable def glob (c:Cs)(x:Str):Bool:=decide (c.ks.lookup x=some .globalImplicit)&&!(x == ("__debug__":Str))
noncomputable def iS (c:Cs)(x:Str):Bool:=(decide (c.ks.lookup x=some .local)||decide (c.ks.lookup x=some .cell)||decide (c.ks.lookup x=some .free))&&!(x == ("__debug__":Str))&&!(x == ("__classdict__":Str))
noncomputable def j6 (c:Cs)(x:Str):Bool:=decide (c.ks.lookup x=some .local)||decide (c.ks.lookup x=some .cell)
noncomputable def xB (x:Str):Option String:=
 if x = "int" then some "int" else if x = "bool" then some "bool" else if x = "str" then some "str" else if x = "list" then some "list" else if x = "tuple" then some "tuple" else if x = "dict" then some "dict" else none
theorem Oc {x:Str}{n:String}(h:xB x=some n):Vl x=some (.type n)/\x ≠ "__name__":=by
 unfold xB at h
 split at h
 ·rename_i e;subst e;cases h;exact ⟨Yp,by decide⟩
 split at h
 ·rename_i e;subst e;cases h;exact ⟨a1n,by decide⟩
 split at h
 ·rename_i e;subst e;cases h;exact ⟨a1l,by decide⟩
 split at h
 ·rename_i e;subst e;cases h;exact ⟨Yn,by decide⟩
 split at h
 ·rename_i e;subst e;cases h;exact ⟨Yg,by decide⟩
 split at h
 ·rename_i e;subst e;cases h;exact ⟨WV,by decide⟩
 ·cases h
noncomputable def xC (S:Sig)(c:Cs)(x:Str):ME:=
 if iS c x=true then (match f9 x c.N with|some i=>aA i|none=>bL)
 else if glob c x=true then (match S.con.lookup x with
  | some d=>mC d
  | none=>if S.no.contains x=true then (match xB x with|some n=>mC (.ty n)|none=>bL) else bL)
 else bL
noncomputable def fP (r:TJ->ME):List TJ->MA
 | []=>aD
 | e::es=>aC (r e) (fP r es)
noncomputable def sV (op:BoolOp):List ME->ME
 | []=>bL
 | [m]=>m
 | m::r=>match op with
  | .And=>gQ m (sV op r)
  | .Or=>u3 m (sV op r)
noncomputable def sW (op:BoolOp):List MT->MT
 | []=>lF
 | [m]=>m
 | m::r=>match op with
  | .And=>gO m (sW op r)
  | .Or=>gP m (sW op r)
noncomputable def Ds (op:a0o)(a b:ME):ME:=match op with
 | .Add=>aB bE a b
 | .Sub=>aB cD a b
 | .Mult=>aB bC a b
 | .FloorDiv=>aB eB a b
 | .Mod=>aB aT a b
 | .Pow=>aB vD a b
 | _=>bL
noncomputable def j7 (op:Xm)(ns:Bool)(a b:ME):ME:=match op with
 | .Eq=>aB (aR false) a b
 | .NotEq=>aB (aR true) a b
 | .Lt=>aB gT a b
 | .LtE=>aB vK a b
 | .Gt=>aB mO a b
 | .GtE=>aB oY a b
 | .In=>if ns=true then aB (cP false) a b else bL
 | .NotIn=>if ns=true then aB (cP true) a b else bL
 | .Is=>aB (d5 false) a b
 | .IsNot=>aB (d5 true) a b
noncomputable def nQ (r:TJ->ME):Option TJ->MO
 | none=>iT
 | some e=>hZ (r e)
noncomputable def d6:MF:=fun ds μ=>match ds with
 | [.loc a]=>match μ[a]? with
  | some (.lst xs)=>some (.int xs.length,μ)
  | some (.st ks)=>some (.int ks.length,μ)
  | some (.dT kvs)=>some (.int kvs.length,μ)
  | _=>none
 | _=>pD ds μ
noncomputable def nR:MF:=fun ds μ=>match ds with
 | [x]=>(bA μ x).map fun xs=>(.tup xs,μ)
 | _=>none
theorem Od {K:To}:dP K nR (fun xs H Q=>∃ p ys,xs=[.ref p]/\((SqL K H p ys/\∀ l,H l=none->Q (.ref l) (aH H l (.tup ys)))\/(SqT K H p ys/\Q (.ref p) H))):=by
 intro π H μ xs d μ' vs Q R i hm k
 unfold nR at hm
 split at hm
 ·obtain ⟨ys,h1,h2⟩:=Tq.mp hm
  cases h2
  cases i with
  | cons i t=>
   cases t
   obtain ⟨p,ws,rfl,q,hd⟩:=k9 R i h1
   refine ⟨p,ws,rfl,?_⟩
   rcases q with q|q
   ·refine .inl ⟨q,fun l hl=>?_⟩
    obtain ⟨e2,R2⟩:=R.fresh (o:=.tup ws) hl
    exact k π _ _ e2 R2 (.tup (.of bU) (hd.mono e2))
   ·exact .inr ⟨q,k π _ H .refl R (.tup q hd)⟩
 ·cases hm
noncomputable def lY:MF:=fun ds μ=>match ds with
 | [.loc a]=>match μ[a]? with
  | some (.dT kvs)=>some (.loc μ.length,μ++[.lst (kvs.map fun k=>D.tup (k.1.map D.int))])
  | _=>rK [.loc a] μ
 | ds=>rK ds μ
theorem Oe {K:To}:dP K lY (fun xs H Q=>(∃ p ys,xs=[.ref p]/\(SqL K H p ys\/SqT K H p ys)/\∀ l,H l=none->Q (.ref l) (aH H l (.lst ys)))\/C9 K xs H Q):=by
 intro π H μ xs d μ' vs Q R i hm k
 unfold lY at hm
 split at hm
 ·rename_i a
  split at hm
  ·rename_i kvs hy
   cases hm
   cases i with
   | cons i t=>
    cases t
    cases i
    obtain ⟨ps,h1,T⟩:=lU R hy
    refine .inr ⟨_,ps,rfl,h1,T.keys,fun l hl=>?_⟩
    obtain ⟨e2,R2,_⟩:=R.alloc (c:=.lst (kvs.map fun k:List Int×D=>D.tup (k.1.map D.int))) (o:=.lst (ps.map fun p:List Int×Addr×V=>V.ref p.2.1)) hl T.to.2.1
    exact k _ _ _ e2 R2 fW
  ·exact .inl (BG π H μ _ d μ' vs Q R i hm k)
 ·exact .inl (BG π H μ _ d μ' vs Q R i hm k)
noncomputable def xD (x:Str):Option MF:=
 if x = "len" then some d6
 else if x = "isinstance" then some k6
 else if x = "int" then some mS
 else if x = "list" then some lY
 else if x = "tuple" then some nR
 else if x = "all" then some rW
 else if x = "any" then some rX
 else if x = "sorted" then some iF
 else if x = "sum" then some lQ
 else none
noncomputable def Of (K:To):List V->Hp->VK->Prop:=fun xs H Q=>vU K xs H Q\/(∃ a L,xs=[V.ref a]/\H a=some (q8 a L)/\Q (.int L.length) H)\/C8 K xs H Q
theorem Og {K:To}:dP K d6 (Of K):=by
 intro π H μ xs d μ' vs Q R i hm k
 unfold d6 at hm
 split at hm
 ·rename_i a
  split at hm
  ·rename_i ys hy
   refine .inl (BF π H μ _ d μ' vs Q R i ?_ k)
   simp only [pD,bA,hy]
   exact hm
  ·rename_i ks hy
   cases hm
   cases i with
   | cons i t=>
    cases t
    cases i
    obtain ⟨L,h1,h2,_⟩:=R.st a ks hy
    have:=congrArg Vu h2
    rw [Tt] at this
    refine .inr (.inl ⟨_,L,rfl,h1,?_⟩)
    rw [this]
    exact k π _ H .refl R (.int _)
  ·rename_i kvs hy
   cases hm
   cases i with
   | cons i t=>
    cases t
    cases i
    obtain ⟨ps,h1,T⟩:=lU R hy
    have:=congrArg Vu T.to.1
    rw [Tt,Tt] at this
    refine .inr (.inr ⟨_,ps,rfl,h1,T.keys,?_⟩)
    rw [this]
    exact k π _ H .refl R (.int _)
  ·cases hm
 ·exact .inl (BF π H μ _ d μ' vs Q R i hm k)
theorem Oh {X:Cx}{x:Str}{f:MF}(hcalm:X.calm=true)(hun:X.A.units+64<Vm)(h:xD x=some f):∃ v r,Vl x=some v/\((∃ id,v=.builtin id)\/∃ T,v=.type T)/\CallR X v r/\dP X.K f r/\x ≠ "__name__":=by
 unfold xD at h
 split at h
 ·rename_i e;subst e;cases h;exact ⟨_,_,a1m,.inl ⟨_,rfl⟩,call_lenM.or (call_lenT.or Nr),Og,by decide⟩
 split at h
 ·rename_i e;subst e;cases h;exact ⟨_,_,XY,.inl ⟨_,rfl⟩,JO,JN,by decide⟩
 split at h
 ·rename_i e;subst e;cases h;exact ⟨_,_,Yp,.inr ⟨_,rfl⟩,G6,JM,by decide⟩
 split at h
 ·rename_i e;subst e;cases h;exact ⟨_,_,Yn,.inr ⟨_,rfl⟩,call_list_of.or (Nt hcalm),Oe,by decide⟩
 split at h
 ·rename_i e;subst e;cases h;exact ⟨_,_,Yg,.inr ⟨_,rfl⟩,HL,Od,by decide⟩
 split at h
 ·rename_i e;subst e;cases h;exact ⟨_,_,a1p,.inl ⟨_,rfl⟩,Lz hcalm,B6 rfl,by decide⟩
 split at h
 ·rename_i e;subst e;cases h;exact ⟨_,_,a1o,.inl ⟨_,rfl⟩,LA hcalm,B6 rfl,by decide⟩
 split at h
 ·rename_i e;subst e;cases h;exact ⟨_,_,Yc,.inl ⟨_,rfl⟩,call_sortI.or LH,M3,by decide⟩
 split at h
 ·rename_i e;subst e;cases h;exact ⟨_,_,a1k,.inl ⟨_,rfl⟩,Mv hcalm,Mu,by decide⟩
 ·cases h
noncomputable def xE (x:Str):Option MF:=
 if x = "dict" then some lV else
 xD x
theorem Oi {X:Cx}{x:Str}{f:MF}(hcalm:X.calm=true)(hun:X.A.units+64<Vm)(h:xE x=some f):∃ v r,Vl x=some v/\((∃ id,v=.builtin id)\/∃ T,v=.type T)/\CallR X v r/\dP X.K f r/\x ≠ "__name__":=by
 unfold xE at h
 split at h
 ·rename_i e;subst e;cases h;exact ⟨_,_,WV,.inr ⟨_,rfl⟩,NK hcalm hun,NL,by decide⟩
 exact Oh hcalm hun h
noncomputable def Dt (m:Str)(n:Nat):Option (D->List D->Hm->Option (D×Hm)):=
 if n=1 then (if m = "append" then some d4
  else if m = "extend" then some mZ
  else if m = "index" then some nK
  else none)
 else if n=0 then (if m = "clear" then some wC else if m = "pop" then some jV else if m = "reverse" then some wD else none)
 else none
noncomputable def xF (S:Sig)(F:Str->MF)(r:TJ->ME)(c:Cs)(f:TJ)(args:List TJ)(cpos:Vk):ME:=match f with
 | .Name x _=>if glob c x&&args.all cE then (match S.fn.lookup x with
   | some n=>if args.length=n then aK (F x) (fP r args) else bL
   | none=>if S.no.contains x&&!args.isEmpty then (match xE x with|some g=>aK g (fP r args)|none=>bL) else bL)
  else bL
 | .Attribute o m apos=>if i7 o&&(apos.endLine == cpos.line)&&args.all cE then (
   match Dt m args.length with
   | some g=>cV g (r o) (fP r args)
   | none=>
    bL)
  else bL
 | _=>bL
noncomputable def xG:TJ->Option (TJ×List TJ)
 | .Call f as [] _=>some (f,as)
 | _=>none
theorem Oj {e f:TJ}{as:List TJ}(h:xG e=some (f,as)):∃ pos,e=.Call f as [] pos:=by
 unfold xG at h
 split at h
 ·cases h;exact ⟨_,rfl⟩
 ·cases h
noncomputable def sX:TJ->Option Str
 | .Name x _=>some x
 | _=>none
theorem Du {e:TJ}{x:Str}(h:sX e=some x):∃ p,e=.Name x p:=by
 unfold sX at h
 split at h
 ·cases h;exact ⟨_,rfl⟩
 ·cases h
noncomputable def o1:List TJ->Option TJ
 | [e]=>some e
 | _=>none
theorem Dv {l:List TJ}{e:TJ}(h:o1 l=some e):l=[e]:=by
 unfold o1 at h
 split at h
 ·cases h;rfl
 ·cases h
noncomputable def Dw (f:TJ)(args:List TJ):Option (Str×Str×TJ):=(sX f).bind fun x=>(o1 args).bind fun a=>(xG a).bind fun g=>(sX g.1).bind fun y=>(o1 g.2).map fun e=>(x,y,e)
theorem Ol {f:TJ}{args:List TJ}{x y:Str}{e:TJ}(h:Dw f args=some (x,y,e)):∃ p p2 pos,f=.Name x p/\args=[.Call (.Name y p2) [e] [] pos]:=by
 obtain ⟨x',h1,h⟩:=Tj.mp h
 obtain ⟨a,h2,h⟩:=Tj.mp h
 obtain ⟨g,h3,h⟩:=Tj.mp h
 obtain ⟨y',h4,h⟩:=Tj.mp h
 obtain ⟨e',h5,h⟩:=Tq.mp h
 cases h
 obtain ⟨p,rfl⟩:=Du h1
 obtain ⟨pos,rfl⟩:=Oj h3
 obtain ⟨p2,h4⟩:=Du h4
 exact ⟨p,p2,pos,rfl,by rw [Dv h2,h4,Dv h5]⟩
noncomputable def xH (S:Sig)(F:Str->MF)(r:TJ->ME)(c:Cs)(f:TJ)(args:List TJ)(cpos:Vk):ME:=
 xF S F r c f args cpos
noncomputable def xI:TJ->Option (TJ×Vk×Vk)
 | .Call g [] [] cpos=>match g with
  | .Attribute o m apos=>if m = "items" then some (o,apos,cpos) else none
  | _=>none
 | _=>none
theorem Om {e o:TJ}{apos cpos:Vk}(h:xI e=some (o,apos,cpos)):e=.Call (.Attribute o "items" apos) [] [] cpos:=by
 unfold xI at h
 split at h
 ·split at h
  ·split at h
   ·rename_i e1;cases h;rw [e1]
   ·cases h
  ·cases h
 ·cases h
noncomputable def Oo (f:TJ)(args:List TJ):Option (TJ×Vk×Vk):=(Dw f args).bind fun t=>if t.1 = "dict"/\t.2.1 = "sorted" then xI t.2.2 else none
noncomputable def xJ (S:Sig)(F:Str->MF)(r:TJ->ME)(c:Cs)(f:TJ)(args:List TJ)(cpos:Vk):ME:=
 match Oo f args with
 | some q=>if glob c "sorted" && glob c "dict" && S.no.contains "sorted" && S.no.contains "dict" && i7 q.1&&(q.2.1.endLine == q.2.2.line) then lW (r q.1) else bL
 | none=>
 xH S F r c f args cpos
noncomputable def pR (c:Cs)(scope:V5)(xs:List Str):Bool:=
 (scope.names.all fun y=>decide (y.2≠.cell))&&decide (scope.kind=.function)&&(scope.names.all fun y=>decide (y.2≠.local)||decide (scope.names.lookup y.1=some .local)) &&
 (xs.all fun x=>decide (scope.names.lookup x=some .local))&&decide xs.Nodup&&(scope.names.all fun y=>decide (y.2≠.free)||decide (c.ks.lookup y.1=some .cell)||decide (c.ks.lookup y.1=some .free)) &&
 (scope.names.all fun y=>decide (y.2≠.local)||!(bG xs c.N).contains y.1)&&decide (bG xs c.N).Nodup&&(c.N.all fun y=>!xs.contains y||decide (scope.names.lookup (mP y)=none))
noncomputable def pS (c:Cs)(scope:V5)(xs:List Str):Cs:=
 ⟨bG xs c.N++xs,scope.names.map fun (n,k)=>if (k == VH&&c.ks.lookup n == some .cell) then (n,VS) else (n,k)⟩
noncomputable def Dx (r:TJ->MT):List TJ->MT
 | []=>gU
 | [t]=>r t
 | _=>lF
noncomputable def xK (S:Sig)(c:Cs):TJ->Option (List TJ)
 | .Call (.Name x _) args [] _=>if x = "range" then (if glob c x&&S.no.contains x&&args.all cE then some args else none) else none
 | _=>none
noncomputable def sY (S:Sig)(r:TJ->ME)(c:Cs)(e:TJ):MI:=match xK S c e with
 | some [a]=>lE (fP r [a])
 | some [a,b]=>jT (fP r [a,b])
 | some _=>BQ
 | none=>cM (r e)
noncomputable def xM (S:Sig)(c:Cs):TJ->Option TJ
 | .Call (.Name x _) [a] [] _=>if x = "enumerate" then (if glob c x&&S.no.contains x&&cE a then some a else none) else none
 | _=>none
noncomputable def xN (S:Sig)(r:TJ->ME)(c:Cs)(e:TJ):MI:=match xM S c e with
 | some a=>lR (fP r [a])
 | none=>sY S r c e
noncomputable def xO (S:Sig)(c:Cs):TJ->Option (TJ×TJ)
 | .Call (.Name x _) [a,b] [] _=>if x = "zip" then (if glob c x&&S.no.contains x&&cE a&&cE b then some (a,b) else none) else none
 | _=>none
noncomputable def xP (S:Sig)(r:TJ->ME)(c:Cs)(e:TJ):MI:=match xO S c e with
 | some (a,b)=>pQ (fP r [a,b])
 | none=>xN S r c e
noncomputable def xQ:TJ->Option (List Str)
 | .Name x _=>some [x]
 | .Tuple es _ _=>es.mapM fun e=>match e with|.Name x _=>some x|_=>none
 | _=>none
noncomputable def xR:TJ->Nat->BD
 | .Tuple ..,n=>vQ n
 | _,_=>oZ
noncomputable def sZ (S:Sig)(r:TJ->ME)(c:Cs)(tg e:TJ):MI:=match tg with
 | .Tuple ..=>xP S r c e
 | _=>sY S r c e
noncomputable def pT (mi:MI)(rE:Cs->TJ->ME)(rT:Cs->TJ->MT)(c:Cs)(elt tg iter:TJ)(ifs:List TJ)(scope:V5):ME:=match xQ tg with
 | some xs=>if pR c scope xs&&eY iter then iZ (xR tg xs.length) mi (Dx (rT (pS c scope xs)) ifs) (rE (pS c scope xs) elt) else bL
 | none=>bL
noncomputable def tB (S:Sig)(rE:Cs->TJ->ME)(rT:Cs->TJ->MT)(c:Cs)(elt tg iter:TJ)(ifs:List TJ)(scope:V5):ME:=
 pT (sZ S (rE c) c tg iter) rE rT c elt tg iter ifs scope
noncomputable def Dy:Const->ME
 | .int i=>mC (.int i)
 | .bool b=>mC (.bl b)
 | .str s=>mC (.str s)
 | .none=>mC .non
 | _=>bL
noncomputable def Dz (m:ME):UnaryOp->ME
 | .USub=>iB m
 | .Not=>mJ m
 | _=>bL
noncomputable def xS (S:Sig)(r:TJ->ME)(a:TJ):List Xm->List TJ->ME
 | [op],[b]=>j7 op (eY b) (r a) (r b)
 | [op,op'],[b,b']=>(match jB op,jB op' with
  | some p,some q=>jA (eW p) (eW q) (r a) (r b) (r b')
  | _,_=>bL)
 | _,_=>bL
noncomputable def xT (r:TJ->ME):List (Option TJ)->List TJ->ME
 | [],[]=>sM
 | [some k],[v]=>lX (r k) (r v)
 | _,_=>bL
noncomputable def xU (S:Sig)(r:TJ->ME)(c:Cs)(a b:TJ):ME:=match b with
 | .Slice lo hi none _=>kY (r a) (nQ r lo) (nQ r hi)
 | .Slice lo hi (some st) _=>nH (r a) (nQ r lo) (nQ r hi) (nQ r (some st))
 | b=>if mV b then aB aI (r a) (r b) else bL
noncomputable def xV (r:TJ->ME)(es:List TJ):ME:=if es.all cE then bH (fP r es) else bL
noncomputable def xW (r:TJ->ME)(es:List TJ):ME:=if es.all cE then bV (fP r es) else bL
noncomputable def tD (S:Sig)(F:Str->MF)(r:TJ->ME)(c:Cs)(f:TJ)(args:List TJ)(cpos:Vk):List WG->ME
 | []=>xJ S F r c f args cpos
 | _=>bL
noncomputable def xX (S:Sig)(rE:Cs->TJ->ME)(rT:Cs->TJ->MT)(c:Cs)(elt:TJ)(scope:V5):List Comprehension->ME
 | [⟨tg,iter,ifs,0⟩]=>tB S rE rT c elt tg iter ifs scope
 | _=>bL
noncomputable def xY (S:Sig)(f:TJ)(args:List TJ):Option (TJ×Str):=match f with
 | .Name x _=>(match args with
  | [a,b]=>(match b with
   | .Name cn _=>if (x == "isinstance" && ((S.sup.lookup cn).isSome||(cn == "ValueError" && !S.sup.isEmpty)))=true then some (a,cn) else none
   | _=>none)
  | _=>none)
 | _=>none
theorem Oq {S:Sig}{f:TJ}{args:List TJ}{a:TJ}{cn:Str}(h:xY S f args=some (a,cn)):(∃ p q,f=.Name "isinstance" p/\args=[a,.Name cn q])/\((S.sup.lookup cn).isSome=true\/cn = "ValueError"):=by
 unfold xY at h
 split at h
 ·split at h
  ·split at h
   ·split at h
    ·rename_i hc
     cases h
     rw [Ts,beq_iff_eq,Wb,Ts,beq_iff_eq] at hc
     rw [hc.1]
     exact ⟨⟨_,_,rfl,rfl⟩,hc.2.imp id (·.1)⟩
    ·cases h
   ·cases h
  ·cases h
 ·cases h
noncomputable def xZ (S:Sig)(F:Str->MF)(r:TJ->ME)(c:Cs)(f:TJ)(args:List TJ)(cpos:Vk)(kws:List WG):ME:=match kws with
 | []=>(match xY S f args with
  | some q=>if glob c "isinstance" && S.no.contains "isinstance" && glob c q.2&&cE q.1&&(!(q.2 == "ValueError")||S.no.contains "ValueError") then cQ (fun x=>(S.sup.lookup x).map fun ys=>ys.contains q.2) (r q.1) else bL
  | none=>tD S F r c f args cpos [])
 | kws=>tD S F r c f args cpos kws
noncomputable def DA (S:Sig)(F:Str->MF)(rE:Cs->TJ->ME)(rT:Cs->TJ->MT)(c:Cs):TJ->ME
 | .Name x _=>xC S c x
 | .Constant v _ _=>Dy v
 | .BinOp a op b _=>Ds op (rE c a) (rE c b)
 | .UnaryOp op a _=>Dz (rE c a) op
 | .Compare a ops bs _=>xS S (rE c) a ops bs
 | .BoolOp op vs _=>sV op (vs.map (rE c))
 | .IfExp t a b _=>gR (rT c t) (rE c a) (rE c b)
 | .Tuple es _ _=>xV (rE c) es
 | .List es _=>xW (rE c) es
 | .Dict keys values _=>xT (rE c) keys values
 | .Subscript a b _=>xU S (rE c) c a b
 | .Call f args kws cpos=>xZ S F (rE c) c f args cpos kws
 | .Attribute o a _=>if i7 o then i9 a (fun x=>S.cls.lookup x == some a) (rE c o) else bL
 | .ListComp elt gs scope _=>xX S rE rT c elt scope gs
 | _=>bL
noncomputable def pU (r:TJ->ME)(e:TJ):MT:=if vV e then eS (r e) else lF
noncomputable def x8 (S:Sig)(r:TJ->ME)(a:TJ)(ops:List Xm)(bs:List TJ)(p:Vk):MT:=match ops,bs with
 | [op],[b]=>aP (j7 op (eY b) (r a) (r b))
 | [op,op'],[b,b']=>(match jB op,jB op' with
  | some p,some q=>aP (jA (eW p) (eW q) (r a) (r b) (r b'))
  | _,_=>lF)
 | ops,bs=>pU r (.Compare a ops bs p)
noncomputable def Ot (r:TJ->ME)(t:MT)(a:TJ)(p:Vk):UnaryOp->MT
 | .Not=>t
 | op=>pU r (.UnaryOp op a p)
noncomputable def DB (S:Sig)(rE:Cs->TJ->ME)(rT:Cs->TJ->MT)(c:Cs):TJ->MT
 | .BoolOp op vs _=>sW op (vs.map (rT c))
 | .UnaryOp op a p=>Ot (rE c) (jQ (rT c a)) a p op
 | .Compare a ops bs p=>x8 S (rE c) a ops bs p
 | e=>pU (rE c) e
noncomputable def tr (S:Sig)(F:Str->MF):Nat->(Cs->TJ->ME)×(Cs->TJ->MT)
 | 0=>(fun _ _=>bL,fun _ _=>lF)
 | n+1=>(DA S F (tr S F n).1 (tr S F n).2,DB S (tr S F n).1 (tr S F n).2)
structure XcOk (S:Sig)(K:To):Prop where
 att:∀ x a,S.cls.lookup x=some a->sE K a x=true
 sub:∀ x ys c,S.sup.lookup x=some ys->(S.sup.lookup c).isSome=true->pG K x c=some (ys.contains c)
 isx:∀ x ys c,S.sup.lookup x=some ys->(S.sup.lookup c).isSome=true->∃ C,f7 K c=some C/\jX K (.ref C) x=some (ys.contains c)
 isv:∀ x ys,S.sup.lookup x=some ys->jX K (.type "ValueError") x=some (ys.contains "ValueError")
 plain:∀ x ys,S.sup.lookup x=some ys->S.cls.lookup x=none->∃ C,ClsK K x C
 init:∀ x a,S.cls.lookup x=some a->∃ C f B bn fd sf ar,InitK K C f B bn a/\UR K Ux x=some (some (.ref C))/\UO K (.ref C)=true/\(∀ P w mg base k,FnOk P w K mg base dY (k+1) f fd [sf,ar] (nD C a))/\Binds K fd [sf,ar] []/\∃ oI,K.lookup f=some oI/\oI.cls=.type "function"
structure Okx (S:Sig)(F:Str->MF)(k:Nat)(c:Cs)(X:Cx):Prop where
 N:X.N=c.N
 nd:X.N.Nodup
 ks:X.env.scope.names=c.ks
 kind:X.env.scope.kind=.function
 calm:X.calm=true
 room:Room k X.A
 never:ZN (T7 X.prog X.w) X.A X.env X.xe
 fn:∀ x n,S.fn.lookup x=some n->∃ (f:Addr)(fd:Vt)(ps:List Str),FnOk X.prog X.w X.K X.mg X.base dY k f fd ps (gM X.K n (F x))/\X.mg x=some (.ref f)/\UO X.K (.ref f)=true/\Binds X.K fd ps []
 con:∀ x d,S.con.lookup x=some d->∃ v u,X.mg x=some u/\RelV v u/\∀ π n H,IsD X.K π n H v d
 tab:∀ x kvs,S.tab.lookup x=some kvs->TabOk X x kvs
 no:∀ x,S.no.contains x=true->X.mg x=none
 xc:XcOk S X.K
section
variable {S:Sig}{F:Str->MF}{k:Nat}{c:Cs}{X:Cx}
theorem Okx.gl (O:Okx S F k c X){x:Str}(h:glob c x=true):Gl X x/\(x == ("__debug__":Str))=false:=by
 unfold glob at h
 rw [Ts] at h
 refine ⟨?_,by simpa using h.2⟩
 show X.env.scope.names.lookup x=_
 rw [O.ks]
 exact of_decide_eq_true h.1
theorem Okx.vis (O:Okx S F k c X){x:Str}(h:iS c x=true):oM X.env.scope x/\(x == ("__debug__":Str))=false/\(x == ("__classdict__":Str))=false:=by
 unfold iS at h
 rw [Ts,Ts,Wb,Wb] at h
 obtain ⟨⟨h1,h2⟩,h3⟩:=h
 refine ⟨?_,by simpa using h2,by simpa using h3⟩
 unfold oM
 rw [O.ks]
 rcases h1 with (h1|h1)|h1
 ·exact .inl (of_decide_eq_true h1)
 ·exact .inr (.inl (of_decide_eq_true h1))
 ·exact .inr (.inr (of_decide_eq_true h1))
theorem Ou (O:Okx S F k c X)(x:Str)(pos:Vk):QE X (.Name x pos) (xC S c x):=by
 unfold xC
 split
 ·rename_i h
  obtain ⟨h1,h2,h3⟩:=O.vis h
  split
  ·rename_i i hi
   exact BL i (by rw [O.N];exact j5 hi) h1 h2 h3
  ·exact bO
 split
 ·rename_i h
  obtain ⟨h1,h2⟩:=O.gl h
  split
  ·rename_i d hd
   obtain ⟨v,u,m,r,i⟩:=O.con x d hd
   exact ⟨mI (FP h1 m r h2) i⟩
  ·split
   ·rename_i hn
    split
    ·rename_i n ht
     obtain ⟨b1,b2⟩:=Oc ht
     exact Ko (O.no x hn) b1 h1 b2 h2
    ·exact bO
   ·exact bO
 ·exact bO
theorem gX {r:TJ->ME}(hr:∀ e,QE X e (r e)):∀ (es:List TJ),es.all cE=true->QA X es (fP r es) es.length
 | [],_=>Kd
 | e::es,h=>by
  rw [UA,Ts] at h
  exact Ke (hr e) (gX hr es h.2) h.1
theorem DC {r:TJ->ME}(hr:∀ e,QE X e (r e))(op:BoolOp)(pos:Vk):∀ (vs:List TJ),QE X (.BoolOp op vs pos) (sV op (vs.map r))
 | []=>bO
 | [e]=>J9 (hr e)
 | e::e2::es=>by
  have ih:=DC hr op pos (e2::es)
  cases op with
  | And=>exact Ka (hr e) ih
  | Or=>exact Kb (hr e) ih
theorem DD {r:TJ->MT}(hr:∀ e,QT X e (r e))(op:BoolOp)(pos:Vk):∀ (vs:List TJ),QW X (.BoolOp op vs pos) (sW op (vs.map r))
 | []=>Lc
 | [e]=>by
  cases op with
  | And=>exact Kz (hr e)
  | Or=>exact KA (hr e)
 | e::e2::es=>by
  have ih:=DD hr op pos (e2::es)
  cases op with
  | And=>exact KG (hr e) ih
  | Or=>exact KH (hr e) ih
theorem Ov {a b:TJ}{ma mb:ME}(ha:QE X a ma)(hb:QE X b mb)(op:a0o)(pos:Vk):QE X (.BinOp a op b pos) (Ds op ma mb):=by
 cases op with
 | Add=>exact JV ha hb
 | Sub=>exact JW ha hb
 | Mult=>exact JX ha hb
 | FloorDiv=>exact JY ha hb
 | Mod=>exact JZ ha hb
 | Pow=>exact J0 ha hb
 | _=>exact bO
theorem Ox (O:Okx S F k c X){a b:TJ}{ma mb:ME}(ha:QE X a ma)(hb:QE X b mb)(op:Xm)(pos:Vk):QE X (.Compare a [op] [b] pos) (j7 op (eY b) ma mb):=by
 cases op with
 | Eq=>exact J3 O.room ha hb
 | NotEq=>exact J4 O.room ha hb
 | Lt=>exact J5 ha hb
 | LtE=>exact J6 ha hb
 | Gt=>exact J7 ha hb
 | GtE=>exact J8 ha hb
 | In=>
  simp only [j7]
  split
  ·rename_i h;exact Nv O.room ha hb h
  ·exact bO
 | NotIn=>
  simp only [j7]
  split
  ·rename_i h;exact Nw O.room ha hb h
  ·exact bO
 | Is=>exact Mq ha hb
 | IsNot=>exact Mr ha hb
theorem DE {e:TJ}:QT X e (aP bL):=⟨fun a3G s σ H Q I h=>by
 obtain ⟨π,ρ,μ,d,μ',R,E,hm,k⟩:=h
 cases hm⟩
theorem Oy (O:Okx S F k c X){a b:TJ}{ma mb:ME}(ha:QE X a ma)(hb:QE X b mb)(op:Xm)(pos:Vk):QT X (.Compare a [op] [b] pos) (aP (j7 op (eY b) ma mb)):=by
 cases op with
 | Eq=>exact Kp O.room ha hb
 | NotEq=>exact Kq O.room ha hb
 | Lt=>exact Kr ha hb
 | LtE=>exact Ks ha hb
 | Gt=>exact Kt ha hb
 | GtE=>exact Ku ha hb
 | In=>
  simp only [j7]
  split
  ·rename_i h;exact Nx O.room ha hb h
  ·exact DE
 | NotIn=>
  simp only [j7]
  split
  ·rename_i h;exact Ny O.room ha hb h
  ·exact DE
 | Is=>exact Ms ha hb
 | IsNot=>exact Mt ha hb
theorem pV {r:TJ->ME}(hr:∀ e,QE X e (r e)):∀ o:Option TJ,QO X o (nQ r o)
 | none=>Ki
 | some e=>Kj (hr e)
theorem Oz (O:Okx S F k c X){r:TJ->ME}(hr:∀ e,QE X e (r e))(f:TJ)(args:List TJ)(cpos:Vk):QE X (.Call f args [] cpos) (xF S F r c f args cpos):=by
 unfold xF
 split
 ·rename_i x p
  split
  ·rename_i hg
   rw [Ts] at hg
   obtain ⟨g1,g2⟩:=O.gl hg.1
   have ha:=gX hr args hg.2
   split
   ·rename_i n hn
    split
    ·rename_i hl
     obtain ⟨fa,fd,ps,FO,hm,hk,hb⟩:=O.fn x n hn
     subst hl
     cases args with
     | nil=>exact Lu FO O.room hm hk hb g1 g2
     | cons e es=>exact Kl FO O.room hm hk hb ha g1 g2
    ·exact bO
   ·split
    ·rename_i hno
     rw [Ts] at hno
     split
     ·rename_i g hb
      obtain ⟨v,rr,b1,b2,b3,b4,b5⟩:=Oi (X:=X) O.calm O.room.units hb
      cases args with
      | nil=>exact absurd hno.2 (by simp)
      | cons e es=>
       rcases b2 with ⟨id,rfl⟩|⟨T,rfl⟩
       ·exact Km b3 b4 (O.no x hno.1) b1 ha g1 b5 g2
       ·exact Kn b3 b4 (O.no x hno.1) b1 ha g1 b5 g2
     ·exact bO
    ·exact bO
  ·exact bO
 ·rename_i o m apos
  split
  ·rename_i hg
   rw [Ts,Ts] at hg
   obtain ⟨⟨h1,h2⟩,h3⟩:=hg
   have ha:=gX hr args h3
   split
   ·rename_i g hm
    unfold Dt at hm
    split at hm
    ·rename_i hl
     cases args with
     | nil=>cases hl
     | cons e es=>
      have hn:(e::es).length<30:=by rw [hl];decide
      split at hm
      ·rename_i e1;subst e1;cases hm
       exact wA PySem.F.slot_list_append PySem.F.type_list_append AV Lm (hr o) ha h1 h2 hn
      split at hm
      ·rename_i e1;subst e1;cases hm
       exact wA PySem.F.slot_list_extend PySem.F.type_list_extend HQ Ln (hr o) ha h1 h2 hn
      split at hm
      ·rename_i e1;subst e1;cases hm
       exact wA PySem.F.slot_list_index PySem.F.type_list_index (MY (by have:=O.room.units;omega)) MW (hr o) ha h1 h2 hn
      ·cases hm
    split at hm
    ·rename_i hl
     cases args with
     | cons e es=>cases hl
     | nil=>
      split at hm
      ·rename_i e1;subst e1;cases hm
       exact wB PySem.F.slot_list_clear PySem.F.type_list_clear HU Lo (hr o) h1 h2
      split at hm
      ·rename_i e1;subst e1;cases hm
       exact wB PySem.F.slot_list_pop PySem.F.type_list_pop HR Lq (hr o) h1 h2
      split at hm
      ·rename_i e1;subst e1;cases hm
       exact wB PySem.F.slot_list_reverse PySem.F.type_list_reverse HS Lp (hr o) h1 h2
      ·cases hm
    ·cases hm
   ·skip
    ·exact bO
  ·exact bO
 ·exact bO
theorem OA (O:Okx S F k c X){r:TJ->ME}(hr:∀ e,QE X e (r e))(f:TJ)(args:List TJ)(cpos:Vk):QE X (.Call f args [] cpos) (xH S F r c f args cpos):=by
 unfold xH
 exact Oz O hr f args cpos
theorem tE (O:Okx S F k c X){scope:V5}{xs:List Str}(h:pR c scope xs=true):CompSt X.env.scope X.N scope xs/\xs.Nodup:=by
 unfold pR at h
 rw [Ts,Ts] at h
 obtain ⟨⟨h,h8⟩,h9⟩:=h
 have h8:=of_decide_eq_true h8
 have h9':∀ y∈c.N,xs.contains y=true->scope.names.lookup (mP y)=none:=fun y hy hc=>by
  have:=Vv.mp h9 y hy
  rw [hc] at this
  simpa using this
 simp only [Ts,Vv,decide_eq_true_eq,Wb,WS,List.contains_eq_mem,decide_eq_false_iff_not] at h
 obtain ⟨⟨⟨⟨⟨⟨h1,h2⟩,h3⟩,h4⟩,h7⟩,h5⟩,h6⟩:=h
 refine ⟨⟨h1,h2,fun y hy hl=>(h3 y hy).resolve_left (fun z=>z hl),h4,fun y hy hf=>?_,fun y hy hl=>?_,O.nd,by rw [O.N];exact h8,by rw [O.N];exact h9'⟩,h7⟩
 ·rw [O.ks]
  rcases h5 y hy with (z|z)|z
  ·exact absurd hf z
  ·exact .inl z
  ·exact .inr z
 ·rw [O.N]
  have:=(h6 y hy).resolve_left (fun z=>z hl)
  exact this
theorem DF {N xs:List Str}(h:N.Nodup)(h2:xs.Nodup)(h3:∀ x∈xs,x∉N):(N++xs).Nodup:=by
 rw [YM]
 exact ⟨h,h2,fun a ha b hb e=>by subst e;exact h3 _ hb ha⟩
theorem Okx.comp (O:Okx S F k c X){scope:V5}{xs:List Str}(h:pR c scope xs=true){cl:List (Str×Addr)}{C:Addr}{s₀:Tv}{H₀:Hp}{fp:List Addr}:Okx S F k (pS c scope xs) (cL X scope cl C (bG xs X.N++xs) s₀ H₀ fp):=by
 obtain ⟨St,hnd⟩:=tE O h
 refine ⟨show bG xs X.N++xs=bG xs c.N++xs by rw [O.N],?_,?_,?_,O.calm,O.room,a0w,O.fn,O.con,fun y kvs q=>⟨(O.tab y kvs q).ex⟩,O.no
  ,O.xc
  ⟩
 ·show (bG xs X.N++xs).Nodup
  exact DF St.hnd hnd fun x hx=>St.own (x,.local) (U2 (St.here x hx)) rfl
 ·show (a2m scope X.env).names=(pS c scope xs).ks
  unfold a2m pS
  dsimp only
  refine Xw fun y _=>?_
  obtain ⟨n,kk⟩:=y
  dsimp only
  have:(X.env.scope.kind == ScopeKind.function)=true:=by rw [O.kind];rfl
  rw [this,a2f]
  show (if (kk == VH&&X.env.scope.names.lookup n == some VS)=true then _ else _)=_
  rw [O.ks]
 ·show (a2m scope X.env).kind=.function
  exact St.kind
theorem DG {r:TJ->MT}(hr:∀ e,QT X e (r e)):∀ es:List TJ,QI X es (Dx r es)
 | []=>KJ
 | [t]=>KL (hr t)
 | a::b::es=>⟨fun a3G s σ H Q I h=>by
   obtain ⟨π,ρ,μ,d,μ',R,E,hm,k⟩:=h
   cases hm⟩
theorem DH (O:Okx S F k c X){e:TJ}{args:List TJ}(h:xK S c e=some args):∃ p pos,e=.Call (.Name "range" p) args [] pos/\Gl X "range"/\X.mg "range" = none/\args.all cE=true:=by
 unfold xK at h
 split at h
 ·split at h
  ·rename_i e1
   subst e1
   split at h
   ·rename_i hg
    cases h
    rw [Ts,Ts] at hg
    exact ⟨_,_,rfl,(O.gl hg.1.1).1,O.no _ hg.1.2,hg.2⟩
   ·cases h
  ·cases h
 ·cases h
theorem DI (O:Okx S F k c X){r:TJ->ME}(hr:∀ e,QE X e (r e))(e:TJ):QJ X e (sY S r c e):=by
 unfold sY
 split
 ·rename_i a h
  obtain ⟨p,pos,rfl,h1,h2,h3⟩:=DH O h
  exact K3 h1 h2 (gX hr [a] h3)
 ·rename_i a b h
  obtain ⟨p,pos,rfl,h1,h2,h3⟩:=DH O h
  exact K5 h1 h2 (gX hr [a,b] h3)
 ·exact K1
 ·exact K2 (hr e)
theorem OB (O:Okx S F k c X){e a:TJ}(h:xM S c e=some a):∃ p pos,e=.Call (.Name "enumerate" p) [a] [] pos/\Gl X "enumerate"/\X.mg "enumerate" = none/\cE a=true:=by
 unfold xM at h
 split at h
 ·split at h
  ·rename_i e1
   subst e1
   split at h
   ·rename_i hg
    cases h
    rw [Ts,Ts] at hg
    exact ⟨_,_,rfl,(O.gl hg.1.1).1,O.no _ hg.1.2,hg.2⟩
   ·cases h
  ·cases h
 ·cases h
theorem OC (O:Okx S F k c X){r:TJ->ME}(hr:∀ e,QE X e (r e))(e:TJ):QJT X e (xN S r c e):=by
 unfold xN
 split
 ·rename_i a h
  obtain ⟨p,pos,rfl,h1,h2,h3⟩:=OB O h
  exact ML h1 h2 (gX hr [a] (by rw [UA,h3];rfl))
 ·exact (DI O hr e).t
theorem OD (O:Okx S F k c X){e a b:TJ}(h:xO S c e=some (a,b)):∃ p pos,e=.Call (.Name "zip" p) [a,b] [] pos/\Gl X "zip"/\X.mg "zip" = none/\cE a=true/\cE b=true:=by
 unfold xO at h
 split at h
 ·split at h
  ·rename_i e1
   subst e1
   split at h
   ·rename_i hg
    cases h
    rw [Ts,Ts,Ts] at hg
    exact ⟨_,_,rfl,(O.gl hg.1.1.1).1,O.no _ hg.1.1.2,hg.1.2,hg.2⟩
   ·cases h
  ·cases h
 ·cases h
theorem OE (O:Okx S F k c X){r:TJ->ME}(hr:∀ e,QE X e (r e))(e:TJ):QJT X e (xP S r c e):=by
 unfold xP
 split
 ·rename_i a b h
  obtain ⟨p,pos,rfl,h1,h2,h3,h4⟩:=OD O h
  exact NG h1 h2 (gX hr [a,b] (by rw [UA,UA,h3,h4];rfl))
 ·exact OC O hr e
theorem x9 (O:Okx S F k c X){r:TJ->ME}(hr:∀ e,QE X e (r e))(tg e:TJ):PI X tg e (iW X.K (sZ S r c tg e)):=by
 unfold sZ
 split
 ·exact (OE O hr e).h _ _ _
 ·exact (DI O hr e).h _
theorem DJ {iter:TJ}{env:X2}(h:eY iter=true):∀ x,W7 iter env x=pure x:=by
 intro z
 cases iter<;>first|rfl|cases h
end
theorem DK {X:Cx}(hN:X.N.Nodup):∀ (es:List TJ)(xs:List Str)(n:Nat),(es.mapM fun e=>match e with|.Name x _=>some x|_=>none)=some xs->(∀ j x,xs[j]? = some x->X.N[n+j]? = some x/\X.env.scope.names.lookup x=some .local)->QGs X es (Yq n xs.length)
 | [],xs,n,h,hx=>by
  cases h
  exact BO
 | e::es,xs,n,h,hx=>by
  rw [List.mapM_cons] at h
  obtain ⟨x,h1,h⟩:=Tj.mp h
  obtain ⟨ys,h2,h⟩:=Tj.mp h
  cases h
  cases e with
  | Name y p=>
   cases h1
   rw [Um,a1C]
   have h0:=hx 0 x rfl
   refine BP n hN (DK hN es ys (n+1) h2 fun j z hz=>?_) (by simpa using h0.1) (.inl h0.2) (.inr h0.2)
   have:=hx (j+1) z (by simpa using hz)
   rw [show n+1+j=n+(j+1) by omega]
   exact this
  | _=>cases h1
theorem tF {S:Sig}{F:Str->MF}{k:Nat}{c:Cs}{X:Cx}(O:Okx S F k c X){scope:V5}{tg:TJ}{xs:List Str}(hx:xQ tg=some xs)(h:pR c scope xs=true)(cl:List (Str×Addr))(C:Addr)(s₀:Tv)(H₀:Hp)(fp:List Addr) :
  PG (cL X scope cl C (bG xs X.N++xs) s₀ H₀ fp) tg (fH X.K (gB X.N.length (xR tg xs.length)))/\∀ d μ z,xR tg xs.length d μ=some z->z.length=xs.length:=by
 obtain ⟨St,hnd⟩:=tE O h
 have hN:(bG xs X.N++xs).Nodup:=DF St.hnd hnd fun x hx=>St.own (x,.local) (U2 (St.here x hx)) rfl
 have hloc:∀ x∈xs,(a2m scope X.env).names.lookup x=some .local:=fun x hx=>lookup_relabel_local (St.here x hx)
 unfold xQ at hx
 split at hx
 ·rename_i x p
  cases hx
  refine ⟨K6 (X:=cL X scope cl C (bG [x] X.N++[x]) s₀ H₀ fp) (by show (bG [x] X.N++[x]).length=_;rw [Ua,k7];rfl) (BA (X:=cL X scope cl C (bG [x] X.N++[x]) s₀ H₀ fp) hN (by show (bG [x] X.N++[x])[X.N.length]? = _;rw [<- k7 [x] X.N];simp) (.inl (hloc x (by simp))) (.inr (hloc x (by simp)))),fun d μ z hz=>?_⟩
  cases hz
  rfl
 ·rename_i es kk pt
  refine ⟨K7 (X:=cL X scope cl C (bG xs X.N++xs) s₀ H₀ fp) (by show (bG xs X.N++xs).length=_;rw [Ua,k7]) (vW (X:=cL X scope cl C (bG xs X.N++xs) s₀ H₀ fp) (DK (X:=cL X scope cl C (bG xs X.N++xs) s₀ H₀ fp) hN es xs X.N.length hx fun j x hj=>⟨?_,hloc x (UG hj)⟩) O.calm).h,fun d μ z hz=>?_⟩
  ·show (bG xs X.N++xs)[X.N.length+j]? = some x
   rw [VB (by rw [k7];omega),k7,show X.N.length+j - X.N.length=j by omega]
   exact hj
  ·obtain ⟨ys,h1,h2⟩:=Tj.mp hz
   split at h2
   ·rename_i hl
    cases h2
    rw [Tt];exact hl
   ·cases h2
 ·cases hx
theorem OF (O:Okx S F k c X){r:TJ->ME}(hr:∀ e,QE X e (r e))(f:TJ)(args:List TJ)(cpos:Vk):QE X (.Call f args [] cpos) (xJ S F r c f args cpos):=by
 unfold xJ
 split
 ·rename_i q h
  split
  ·rename_i hg
   rw [Ts,Ts,Ts,Ts,Ts] at hg
   obtain ⟨⟨⟨⟨⟨g1,g2⟩,n1⟩,n2⟩,st⟩,ln⟩:=hg
   obtain ⟨t,h1,h2⟩:=Tj.mp h
   split at h2
   ·rename_i hxy
    obtain ⟨p,p2,pos,rfl,rfl⟩:=Ol h1
    rw [hxy.1,hxy.2,Om h2]
    exact N8 O.calm O.room.units (O.no _ n1) (O.no _ n2) (O.gl g1).1 (O.gl g2).1 (hr _) st ln
   ·cases h2
  ·exact bO
 exact OA O hr _ _ _
theorem DL {S:Sig}{F:Str->MF}{k:Nat}{rE:Cs->TJ->ME}{rT:Cs->TJ->MT}(hE:∀ c X,Okx S F k c X->∀ e,QE X e (rE c e))(hT:∀ c X,Okx S F k c X->∀ e,QT X e (rT c e))(c:Cs)(X:Cx)(O:Okx S F k c X)
  (elt tg iter:TJ)(ifs:List TJ)(scope:V5)(pos:Vk){mi:MI}(hi:PI X tg iter (iW X.K mi)):QE X (.ListComp elt [⟨tg,iter,ifs,0⟩] scope pos) (pT mi rE rT c elt tg iter ifs scope):=by
 unfold pT
 split
 ·rename_i xs hx
  split
  ·rename_i h
   rw [Ts] at h
   refine ⟨fun a3G s σ H Q I q=>?_⟩
   exact La ((tE O h.1).1.ok I.ok) O.calm hi (fun d μ z=>(tF O hx h.1 [] 0 s H []).2 d μ z) (fun C s₀ H₀ fp=>(tF O hx h.1 _ C s₀ H₀ fp).1) (fun C s₀ H₀ fp=>(DG (hT _ _ (O.comp h.1)) _).h) (fun C s₀ H₀ fp=>(hE _ _ (O.comp h.1) _).h) (DJ h.2) a3G s σ H Q I q
  ·exact bO
 ·exact bO
theorem OG {S:Sig}{F:Str->MF}{k:Nat}{rE:Cs->TJ->ME}{rT:Cs->TJ->MT}(hE:∀ c X,Okx S F k c X->∀ e,QE X e (rE c e))(hT:∀ c X,Okx S F k c X->∀ e,QT X e (rT c e))(c:Cs)(X:Cx)(O:Okx S F k c X)
  (elt tg iter:TJ)(ifs:List TJ)(scope:V5)(pos:Vk):QE X (.ListComp elt [⟨tg,iter,ifs,0⟩] scope pos) (tB S rE rT c elt tg iter ifs scope):=by
 unfold tB
 exact DL hE hT c X O elt tg iter ifs scope pos (x9 O (hE c X O) tg iter)
section
variable {S:Sig}{F:Str->MF}{k:Nat}{c:Cs}{X:Cx}{r:TJ->ME}
theorem OH (v:Const)(n:Nat)(p:Vk):QE X (.Constant v n p) (Dy v):=by
 cases v<;>first|exact JR|exact JS|exact JT|exact JU|exact bO
theorem OI (hr:∀ e,QE X e (r e))(op:UnaryOp)(a:TJ)(p:Vk):QE X (.UnaryOp op a p) (Dz (r a) op):=by
 cases op<;>first|exact J1 (hr _)|exact J2 (hr _)|exact bO
theorem OJ (O:Okx S F k c X)(hr:∀ e,QE X e (r e))(a:TJ)(ops:List Xm)(bs:List TJ)(p:Vk):QE X (.Compare a ops bs p) (xS S r a ops bs):=by
 unfold xS
 split
 ·exact Ox O (hr _) (hr _) _ _
 ·split
  ·rename_i h1 h2
   exact Mo h1 h2 (hr _) (hr _) (hr _)
  ·exact bO
 ·exact bO
theorem OK (O:Okx S F k c X)(hr:∀ e,QE X e (r e))(ks:List (Option TJ))(vs:List TJ)(p:Vk):QE X (.Dict ks vs p) (xT r ks vs):=by
 unfold xT
 try split
 ·exact Nc
 ·exact Ob O.room (hr _) (hr _)
 ·exact bO
theorem OL (O:Okx S F k c X)(hr:∀ e,QE X e (r e))(a b:TJ)(p:Vk):QE X (.Subscript a b p) (xU S r c a b):=by
 unfold xU
 split
 ·exact Kk (hr _) (pV hr _) (pV hr _)
 ·exact MB (hr _) (pV hr _) (pV hr _) (pV hr _)
 ·split
  ·rename_i h
   ·exact Nu O.room (hr _) (hr _) h
  ·exact bO
theorem yA (hr:∀ e,QE X e (r e))(e:TJ):QT X e (pU r e):=by
 unfold pU
 split
 ·rename_i h;exact Ls (hr _) h
 ·exact vY
theorem OM (O:Okx S F k c X)(hr:∀ e,QE X e (r e))(a:TJ)(ops:List Xm)(bs:List TJ)(p:Vk):QT X (.Compare a ops bs p) (x8 S r a ops bs p):=by
 unfold x8
 split
 ·exact Oy O (hr _) (hr _) _ _
 ·split
  ·rename_i h1 h2
   exact Mp h1 h2 (hr _) (hr _) (hr _)
  ·exact vY
 ·exact yA hr _
theorem ON (hr:∀ e,QE X e (r e))(es:List TJ)(n:Nat)(p:Vk):QE X (.Tuple es n p) (xV r es):=by
 unfold xV
 split
 ·rename_i h;exact Kf (gX hr _ h)
 ·exact bO
theorem OO (hr:∀ e,QE X e (r e))(es:List TJ)(p:Vk):QE X (.List es p) (xW r es):=by
 unfold xW
 split
 ·rename_i h;exact Kg (gX hr _ h)
 ·exact bO
theorem DM (O:Okx S F k c X)(hr:∀ e,QE X e (r e))(f:TJ)(args:List TJ)(kws:List WG)(p:Vk):QE X (.Call f args kws p) (tD S F r c f args p kws):=by
 unfold tD
 split
 ·exact OF O hr _ _ _
 ·exact bO
theorem OP (O:Okx S F k c X)(hr:∀ e,QE X e (r e))(f:TJ)(args:List TJ)(kws:List WG)(p:Vk):QE X (.Call f args kws p) (xZ S F r c f args p kws):=by
 unfold xZ
 split
 ·split
  ·rename_i q hq
   obtain ⟨a,cn⟩:=q
   obtain ⟨⟨p1,p2,rfl,rfl⟩,hcn⟩:=Oq hq
   split
   ·rename_i h
    rw [Ts,Ts,Ts,Ts] at h
    obtain ⟨⟨⟨⟨h1,h2⟩,h3⟩,h4⟩,h5⟩:=h
    have sp:∀ cv,(∀ x ys,S.sup.lookup x=some ys->jX X.K cv x=some (ys.contains cn))->∀ x b,(S.sup.lookup x).map (fun ys=>ys.contains cn)=some b->jX X.K cv x=some b:=fun cv hv x b hb=>by
     obtain ⟨ys,g1,g2⟩:=Tq.mp hb
     rw [<- g2]
     exact hv x ys g1
    by_cases hv:cn = "ValueError"
    ·subst hv
     refine CA (cv:=.type "ValueError") (hr a) h4 (O.gl h1).1 (O.no _ h2) (fun a3G s σ H Q I z=>?_) (sp _ fun x ys g=>O.xc.isv x ys g)
     have hno:S.no.contains "ValueError" = true:=by simpa using h5
     exact gJ I (O.gl h3).1 (O.no _ hno) a1q z
    ·have hc:=hcn.resolve_right hv
     obtain ⟨ys0,hy0⟩:=Uv.mp hc
     obtain ⟨C,hC,_⟩:=O.xc.isx cn ys0 cn hy0 hc
     refine CA (cv:=.ref C) (hr a) h4 (O.gl h1).1 (O.no _ h2) (fun a3G s σ H Q I z=>?_) (sp _ fun x ys g=>?_)
     ·exact iQ I (O.gl h3).1 (V7 I.mod.kin I.mod.glob (m9 hC)) z (O.gl h3).2
     ·obtain ⟨C',hC',g'⟩:=O.xc.isx x ys cn g hc
      rw [hC] at hC'
      cases hC'
      exact g'
   ·exact bO
  ·exact DM O hr _ _ _ _
 ·exact DM O hr _ _ _ _
end
theorem DN {S:Sig}{F:Str->MF}{k:Nat}{rE:Cs->TJ->ME}{rT:Cs->TJ->MT}(hE:∀ c X,Okx S F k c X->∀ e,QE X e (rE c e))(hT:∀ c X,Okx S F k c X->∀ e,QT X e (rT c e))(c:Cs)(X:Cx)(O:Okx S F k c X) :
  (∀ e,QE X e (DA S F rE rT c e))/\∀ e,QT X e (DB S rE rT c e):=by
 have hr:=hE c X O
 have ht:=hT c X O
 constructor
 ·intro e
  cases e with
  | Name x p=>exact Ou O _ _
  | Constant v n p=>exact OH v n p
  | BinOp a op b p=>exact Ov (hr _) (hr _) _ _
  | UnaryOp op a p=>exact OI hr op a p
  | Compare a ops bs p=>exact OJ O hr a ops bs p
  | BoolOp op vs p=>exact DC hr _ _ _
  | IfExp t a b p=>exact Kc (ht _) (hr _) (hr _)
  | Tuple es n p=>exact ON hr es n p
  | List es p=>exact OO hr es p
  | Dict ks vs p=>exact OK O hr ks vs p
  | Subscript a b p=>exact OL O hr a b p
  | Call f args kws cpos=>exact OP O hr f args kws cpos
  | Attribute o a p=>
   show QE X _ (if i7 o then i9 a (fun x=>S.cls.lookup x == some a) (rE c o) else bL)
   split
   ·rename_i h
    exact Cz (hr _) h fun x hx=>O.xc.att x a (beq_iff_eq.mp hx)
   ·exact bO
  | ListComp elt gs scope p=>
   show QE X _ (xX S rE rT c elt scope gs)
   unfold xX
   split
   ·exact OG hE hT c X O _ _ _ _ _ _
   ·exact bO
  | _=>exact bO
 ·intro e
  cases e with
  | BoolOp op vs p=>exact KI (DD ht _ _ _)
  | UnaryOp op a p=>
   cases op
   case Not=>exact Ky (ht _)
   all_goals exact yA hr _
  | Compare a ops bs p=>exact OM O hr a ops bs p
  | _=>exact yA hr _
theorem pW {S:Sig}{F:Str->MF}{k:Nat}:∀ (n:Nat),(∀ c X,Okx S F k c X->∀ e,QE X e ((tr S F n).1 c e))/\∀ c X,Okx S F k c X->∀ e,QT X e ((tr S F n).2 c e)
 | 0=>⟨fun c X O e=>bO,fun c X O e=>vY⟩
 | n+1=>by
  have ih:=pW (S:=S) (F:=F) (k:=k) n
  exact ⟨fun c X O e=>(DN ih.1 ih.2 c X O).1 e,fun c X O e=>(DN ih.1 ih.2 c X O).2 e⟩
end L3
namespace L3
open PySem L2
noncomputable def tG:MG:=fun _ _ _=>none
noncomputable def pX (c:Cs):List TJ->Option (List Nat)
 | []=>some []
 | .Name x _::r=>if j6 c x then (f9 x c.N).bind fun i=>(pX c r).map (i::·) else none
 | _=>none
noncomputable def yB (c:Cs):TJ->MG
 | .Name x _=>if j6 c x then (match f9 x c.N with|some i=>dQ i|none=>tG) else tG
 | .Tuple es _ _=>match pX c es with|some is=>cU is|none=>tG
 | _=>tG
noncomputable def jE (r:Stmt->MS):List Stmt->MS
 | []=>bD
 | [s]=>r s
 | s::t=>aJ (r s) (jE r t)
noncomputable def yC (S:Sig)(E:Cs->TJ->ME)(T:Cs->TJ->MT)(c:Cs)(i:Nat):TJ->MS
 | .ListComp elt [⟨tg,iter,ifs,0⟩] scope _=>aS i (tB S E T c elt tg iter ifs scope)
 | _=>dJ
noncomputable def yD (S:Sig)(E:Cs->TJ->ME)(T:Cs->TJ->MT)(c:Cs)(tg e:TJ):MS:=match tg with
 | .Name y _=>if j6 c y then (match f9 y c.N with
   | some i=>if eZ e then aS i (E c e) else yC S E T c i e
   | none=>dJ) else dJ
 | .Tuple es _ _=>if vX e then (match pX c es with|some is=>fL (E c e) (cU is)|none=>dJ)
   else dJ
 | .Subscript o i _=>if eZ e&&mV i then jC (E c o) (E c i) (E c e) else dJ
 | _=>dJ
noncomputable def nS:Nat:=1000000000
noncomputable def yE (S:Sig)(E:Cs->TJ->ME)(T:Cs->TJ->MT)(c:Cs)(r:Stmt->MS):Stmt->MS
 | .Return (some e) _=>aQ (E c e)
 | .Return none _=>aQ (mC .non)
 | .If t a b _=>bB (T c t) (jE r a) (jE r b)
 | .Assign [tg] e _=>yD S E T c tg e
 | .Expr e _=>if eZ e then c9 (E c e) else dJ
 | .For tg iter body [] _=>if eY iter then dD (sZ S (E c) c tg iter) (yB c tg) (jE r body) else dJ
 | .While t body [] _=>m3 nS (T c t) (jE r body)
 | .Pass _=>bD
 | _=>dJ
section
variable {S:Sig}{F:Str->MF}{k:Nat}{c:Cs}{X:Cx}
theorem Okx.own (O:Okx S F k c X){x:Str}(h:j6 c x=true):L2.Loc X.env.scope x:=by
 unfold j6 at h
 rw [Wb] at h
 unfold L2.Loc
 rw [O.ks]
 exact h.imp of_decide_eq_true of_decide_eq_true
theorem yF (O:Okx S F k c X)(hf:∀ x,X.fn x=true):∀ (es:List TJ)(is:List Nat),pX c es=some is->QGs X es is
 | [],is,h=>by cases h;exact BO
 | e::es,is,h=>by
  cases e with
  | Name x p=>
   unfold pX at h
   split at h
   ·rename_i ho
    obtain ⟨i,h1,h⟩:=Tj.mp h
    obtain ⟨js,h2,h⟩:=Tq.mp h
    subst h
    exact BP i O.nd (yF O hf es js h2) (by rw [O.N];exact j5 h1) (O.own ho) (.inl (hf x))
   ·cases h
  | _=>cases h
theorem OQ (O:Okx S F k c X)(hf:∀ x,X.fn x=true)(e:TJ):QG X e (yB c e):=by
 unfold yB
 split
 ·split
  ·rename_i ho
   split
   ·rename_i i hi
    exact KW i O.nd (by rw [O.N];exact j5 hi) (O.own ho) (.inl (hf _))
   ·exact rP fun _ _ _=>rfl
  ·exact rP fun _ _ _=>rfl
 ·split
  ·rename_i is hi
   exact vW (yF O hf _ is hi) O.calm
  ·exact rP fun _ _ _=>rfl
 ·exact rP fun _ _ _=>rfl
theorem j8 {r:Stmt->MS}(hr:∀ s,QS X s (r s)):∀ ss:List Stmt,QB X ss (jE r ss)
 | []=>KN
 | [s]=>KP (hr s)
 | s::t::ts=>KO (hr s) (j8 hr (t::ts))
theorem OR {elt tg iter:TJ}{ifs:List TJ}{scope:V5}{pos py:Vk}{y:Str}{n:Nat}{env:X2} :
  ∃ b:Bool,Xr (.ListComp elt [⟨tg,iter,ifs,0⟩] scope pos) (some (.Name y py)) n env=pure b/\(b=true->env.kindOf y=some .local):=by
 refine ⟨env.blockKind == .function&&env.kindOf y == some .local&&py.line == pos.line&&!(scope.names.any fun (n,k)=>n == y&&(k == .local||k == .cell)),rfl,fun h=>?_⟩
 simp only [Ts,beq_iff_eq] at h
 exact h.1.1.2
theorem OS (O:Okx S F k c X)(hf:∀ x,X.fn x=true){E:Cs->TJ->ME}{T:Cs->TJ->MT}(hE:∀ c X,Okx S F k c X->∀ e,QE X e (E c e))(hT:∀ c X,Okx S F k c X->∀ e,QT X e (T c e))
  {i:Nat}{y:Str}{py spos:Vk}(hi:X.N[i]? = some y)(hy:j6 c y=true)(elt tg iter:TJ)(ifs:List TJ)(scope:V5)(pos:Vk){mi:MI}(hmi:PI X tg iter (iW X.K mi)):QS X (.Assign [.Name y py] (.ListComp elt [⟨tg,iter,ifs,0⟩] scope pos) spos) (aS i (pT mi E T c elt tg iter ifs scope)):=by
  obtain ⟨b,hb1,hb2⟩:=OR (elt:=elt) (tg:=tg) (iter:=iter) (ifs:=ifs) (scope:=scope) (pos:=pos) (py:=py) (y:=y) (n:=spos.line) (env:=X.env)
  cases b with
  | false=>exact ⟨Bk O.nd hi (O.own hy) (DL hE hT c X O elt tg iter ifs scope pos hmi).h hb1 (.inl (hf y))⟩
  | true=>
   unfold pT
   split
   ·rename_i xs hx
    split
    ·rename_i h
     rw [Ts] at h
     refine ⟨fun a3G s σ H D I q=>?_⟩
     exact Lb ((tE O h.1).1.ok I.ok) O.nd O.calm hmi (fun d μ z=>(tF O hx h.1 [] 0 s H []).2 d μ z) (fun C s₀ H₀ fp=>(tF O hx h.1 _ C s₀ H₀ fp).1) (fun C s₀ H₀ fp=>(DG (hT _ _ (O.comp h.1)) _).h) (fun C s₀ H₀ fp=>(hE _ _ (O.comp h.1) _).h) (DJ h.2) hi (hb2 rfl) hb1 a3G s σ H D I q
    ·exact CU
   ·exact CU
theorem OT (O:Okx S F k c X)(hf:∀ x,X.fn x=true){E:Cs->TJ->ME}{T:Cs->TJ->MT}(hE:∀ c X,Okx S F k c X->∀ e,QE X e (E c e))(hT:∀ c X,Okx S F k c X->∀ e,QT X e (T c e))
  {i:Nat}{y:Str}{py spos:Vk}(hi:X.N[i]? = some y)(hy:j6 c y=true)(e:TJ):QS X (.Assign [.Name y py] e spos) (yC S E T c i e):=by
 unfold yC
 split
 ·exact OS O hf hE hT hi hy _ _ _ _ _ _ (x9 O (hE c X O) _ _)
 ·exact eD
theorem OU (O:Okx S F k c X)(hf:∀ x,X.fn x=true){E:Cs->TJ->ME}{T:Cs->TJ->MT}(hE:∀ c X,Okx S F k c X->∀ e,QE X e (E c e))(hT:∀ c X,Okx S F k c X->∀ e,QT X e (T c e))(tg e:TJ)(pos:Vk) :
  QS X (.Assign [tg] e pos) (yD S E T c tg e):=by
 unfold yD
 split
 ·split
  ·rename_i ho
   split
   ·rename_i i hi
    have hi':=j5 hi
    rw [<- O.N] at hi'
    split
    ·rename_i hn
     exact BN i O.nd (hE c X O e) hn hi' (O.own ho) (.inl (hf _))
    ·exact OT O hf hE hT hi' ho e
   ·exact eD
  ·exact eD
 ·split
  ·rename_i hn
   split
   ·rename_i is hi
    exact KZ (hE c X O e) (vW (yF O hf _ is hi) O.calm) hn
   ·exact eD
  ·exact eD
 ·split
  ·rename_i h
   rw [Ts] at h
   exact Nz O.room (hE c X O _) (hE c X O _) (hE c X O _) h.1
  ·exact eD
 ·exact eD
theorem OV (O:Okx S F k c X)(hf:∀ x,X.fn x=true){E:Cs->TJ->ME}{T:Cs->TJ->MT}(hE:∀ c X,Okx S F k c X->∀ e,QE X e (E c e))(hT:∀ c X,Okx S F k c X->∀ e,QT X e (T c e)){r:Stmt->MS}(hr:∀ s,QS X s (r s))(st:Stmt) :
  QS X st (yE S E T c r st):=by
 unfold yE
 split
 ·exact KR (hE c X O _)
 ·exact Lx
 ·exact KU (hT c X O _) (j8 hr _) (j8 hr _)
 ·exact OU O hf hE hT _ _ _
 ·split
  ·rename_i h;exact KS (hE c X O _) h
  ·exact eD
 ·split
  ·rename_i h
   exact MM (x9 O (hE c X O) _ _) (OQ O hf _) (j8 hr _) O.never O.calm h
  ·exact eD
 ·exact Lv _ (hT c X O _) (j8 hr _) O.never
 ·exact KQ
 ·exact eD
end
noncomputable def pY (S:Sig)(G:Str->RF)(E:TJ->ME)(c:Cs):TJ->MR
 | .Call f args kws _=>(match f,args,kws with
  | .Name x _,e::es,[]=>if glob c x&&decide (S.fn.lookup x=some (e::es).length)&&(e::es).all cE&&S.rz.contains x then lM (G x) (fP E (e::es)) else bY
  | _,_,_=>bY)
 | _=>bY
noncomputable def yG:Option TJ->Option (Str×List TJ)
 | some (.Call f args kws _)=>(match f,kws with
  | .Name x _,[]=>some (x,args)
  | _,_=>none)
 | _=>none
theorem OW {e:Option TJ}{x:Str}{args:List TJ}(h:yG e=some (x,args)):∃ p q,e=some (.Call (.Name x p) args [] q):=by
 unfold yG at h
 split at h
 ·split at h
  ·cases h;exact ⟨_,_,rfl⟩
  ·cases h
 ·cases h
noncomputable def OX:Nat->Bool
 | _+2=>true
 | _=>false
noncomputable def yH (S:Sig)(k:Nat)(E:TJ->ME)(c:Cs)(x:Str)(args:List TJ):MR:=
 if glob c x then (match S.cls.lookup x with
  | some a=>(match args with
   | [e]=>if OX k&&cE e then pH x a (E e) else bY
   | _=>bY)
  | none=>(match args with
   | e::es=>if (S.sup.lookup x).isSome&&(e::es).all cE&&decide ((e::es).length<=30) then Cr x (fP E (e::es)) else bY
   | []=>bY)) else bY
noncomputable def nU (N:Stmt->MS)(r:Stmt->MR):List Stmt->MR
 | []=>bY
 | s::t=>dU (N s) (r s) (nU N r t)
noncomputable def yI (S:Sig)(G:Str->RF)(k:Nat)(E:TJ->ME)(T:TJ->MT)(c:Cs)(N:Stmt->MS)(r:Stmt->MR):Stmt->MR
 | .Expr e _=>if eZ e then pY S G E c e else bY
 | .Return (some e) _=>pY S G E c e
 | .Assign [.Name _ _] e _=>if eZ e then pY S G E c e else bY
 | .If t a b _=>pF (T t) (nU N r a) (nU N r b)
 | .Raise e none _=>(match yG e with
  | some q=>yH S k E c q.1 q.2
  | none=>bY)
 | _=>bY
noncomputable def yJ (S:Sig)(c:Cs):TJ->ME
 | .Name x _=>if iS c x then (match f9 x c.N with|some i=>aA i|none=>bL) else bL
 | .Attribute o a _=>(match o with
  | .Name x _=>if iS c x then (match f9 x c.N with|some i=>i9 a (fun x=>S.cls.lookup x == some a) (aA i)|none=>bL) else bL
  | _=>bL)
 | _=>bL
noncomputable def yK (S:Sig)(c:Cs):Stmt->MS
 | .Assign [.Name y _] e _=>if j6 c y&&eZ e then (match f9 y c.N with|some i=>aS i (yJ S c e)|none=>dJ) else dJ
 | _=>dJ
noncomputable def yL:List a0I->Option (Str×Str×List Stmt)
 | [.ExceptHandler (some t) (some y) (b::bs) _]=>(match t with
  | .Name cn _=>some (cn,y,b::bs)
  | _=>none)
 | _=>none
theorem OY {hs:List a0I}{q:Str×Str×List Stmt}(h:yL hs=some q):∃ p p2 b bs,hs=[.ExceptHandler (some (.Name q.1 p)) (some q.2.1) (b::bs) p2]/\q.2.2=b::bs:=by
 unfold yL at h
 split at h
 ·split at h
  ·cases h;exact ⟨_,_,_,_,rfl,rfl⟩
  ·cases h
 ·cases h
noncomputable def DO (S:Sig)(c:Cs)(N:Stmt->MS)(r:Stmt->MR)(body:List Stmt)(hs:List a0I):MS:=match yL hs with
 | some q=>if glob c q.1&&(S.sup.lookup q.1).isSome&&decide (c.ks.lookup q.2.1=some .local) then (match f9 q.2.1 c.N with
  | some i=>nB (jE N body) (nU N r body) (fun x=>(S.sup.lookup x).map fun ys=>ys.contains q.1) i (jE (yK S c) q.2.2)
  | none=>dJ) else dJ
 | none=>dJ
noncomputable def yM (S:Sig)(E:Cs->TJ->ME)(T:Cs->TJ->MT)(c:Cs)(N:Stmt->MS)(r:Stmt->MR):Stmt->MS
 | .Try body hs [] [] _=>DO S c N r body hs
 | st=>yE S E T c N st
noncomputable def gY (S:Sig)(F:Str->MF)(G:Str->RF)(k m:Nat)(c:Cs):Nat->(Stmt->MS)×(Stmt->MR)
 | 0=>(fun _=>dJ,fun _=>bY)
 | n+1=>(yM S (tr S F m).1 (tr S F m).2 c (gY S F G k m c n).1 (gY S F G k m c n).2,yI S G k ((tr S F m).1 c) ((tr S F m).2 c) c (gY S F G k m c n).1 (gY S F G k m c n).2)
structure Okr (S:Sig)(F:Str->MF)(G:Str->RF)(k:Nat)(c:Cs)(Y:Cx):Prop where
 o:Okx S F k c Y.nox
 ex:Y.ex=[]
 st:Y.stack=Y.env::Y.outer
 fr:∃ L,Y.env.frame=some L
 own:∀ x,Y.fn x=true
 rf:∀ x n,S.fn.lookup x=some n->∃ (f:Addr)(fd:Vt)(ps:List Str),FnOk Y.prog Y.w Y.K Y.mg Y.base (gW Y.prog Y.w) k f fd ps (m5 Y.K n (G x))/\Y.mg x=some (.ref f)/\UO Y.K (.ref f)=true/\Binds Y.K fd ps []
section
variable {S:Sig}{F:Str->MF}{G:Str->RF}{k:Nat}{c:Cs}{Y:Cx}
theorem yN (O:Okr S F G k c Y){E:TJ->ME}(hE:∀ e,QE Y.nox e (E e))(e:TJ):QRE Y e (pY S G E c e):=by
 unfold pY
 split
 ·split
  ·split
   ·rename_i h
    rw [Ts,Ts,Ts,decide_eq_true_eq] at h
    obtain ⟨⟨⟨h1,h2⟩,h3⟩,_⟩:=h
    obtain ⟨f,fd,ps,h4,h5,h6,h7⟩:=O.rf _ _ h2
    exact LV O.ex h4 O.o.room (O.o.gl h1).1 h5 h6 h7 (gX hE _ h3) (O.o.gl h1).2
   ·exact wO
  ·exact wO
 ·exact wO
theorem OZ (O:Okr S F G k c Y){E:TJ->ME}(hE:∀ e,QE Y.nox e (E e))(x:Str)(args:List TJ)(p q pos:Vk):QR Y (.Raise (some (.Call (.Name x p) args [] q)) none pos) (yH S k E c x args):=by
 unfold yH
 split
 ·rename_i hg
  split
  ·rename_i a ha
   split
   ·split
    ·rename_i h
     rw [Ts] at h
     obtain ⟨C,f,B,bn,fd,sf,ar,i1,i2,i3,i4,i5,i6⟩:=O.o.xc.init x a ha
     match k,h.1,O with
     | k+2,_,O=>exact Mh (k:=k+1) i1 i2 i3 (i4 _ _ _ _ k) i5 i6 O.o.room O.ex O.o.calm (O.o.gl hg).1 (hE _) h.2 (O.o.gl hg).2
    ·exact iE
   ·exact iE
  ·rename_i hn
   split
   ·split
    ·rename_i h
     rw [Ts,Ts,decide_eq_true_eq] at h
     obtain ⟨⟨h1,h2⟩,h3⟩:=h
     obtain ⟨ys,hy⟩:=Uv.mp h1
     obtain ⟨C,hC⟩:=O.o.xc.plain x ys hy hn
     exact LZ hC O.ex O.o.calm (O.o.gl hg).1 (gX hE _ h2) h3 (O.o.gl hg).2
    ·exact iE
   ·exact iE
 ·exact iE
theorem pZ {N:Stmt->MS}{r:Stmt->MR}(hN:∀ s,QS Y.nox s (N s))(hr:∀ s,QR Y s (r s)):∀ ss:List Stmt,QRB Y ss (nU N r ss)
 | []=>LS
 | s::t=>LR (hN s) (hr s) (pZ hN hr t)
theorem O0 (O:Okr S F G k c Y){E:TJ->ME}{T:TJ->MT}(hE:∀ e,QE Y.nox e (E e))(hT:∀ e,QT Y.nox e (T e)){N:Stmt->MS}{r:Stmt->MR}(hN:∀ s,QS Y.nox s (N s))(hr:∀ s,QR Y s (r s))(st:Stmt):QR Y st (yI S G k E T c N r st):=by
 unfold yI
 split
 ·split
  ·rename_i h;exact LO (yN O hE _) h
  ·exact iE
 ·exact LP (yN O hE _)
 ·split
  ·rename_i h;exact LQ (yN O hE _) h
  ·exact iE
 ·exact LU (hT _) (pZ hN hr _) (pZ hN hr _)
 ·split
  ·rename_i q hq
   obtain ⟨x,args⟩:=q
   obtain ⟨p1,p2,rfl⟩:=OW hq
   exact OZ O hE _ _ _ _ _
  ·exact iE
 ·exact iE
theorem O1 (O:Okr S F G k c Y)(v:Value)(e:TJ):QE (Y.hnd v) e (yJ S c e):=by
 have nm:∀ x p i,iS c x=true->f9 x c.N=some i->QE (Y.hnd v) (.Name x p) (aA i):=fun x p i h hi=>by
  obtain ⟨h1,h2,h3⟩:=O.o.vis h
  exact BL (X:=Y.hnd v) i (by show Y.N[i]? = some x;rw [show Y.N=c.N from O.o.N];exact j5 hi) h1 h2 h3
 unfold yJ
 split
 ·split
  ·rename_i h
   split
   ·rename_i i hi;exact nm _ _ i h hi
   ·exact bO
  ·exact bO
 ·split
  ·split
   ·rename_i h
    split
    ·rename_i i hi
     exact Cz (nm _ _ i h hi) rfl fun x hx=>O.o.xc.att x _ (beq_iff_eq.mp hx)
    ·exact bO
   ·exact bO
  ·exact bO
 ·exact bO
theorem O2 (O:Okr S F G k c Y)(v:Value)(st:Stmt):QS (Y.hnd v) st (yK S c st):=by
 unfold yK
 split
 ·split
  ·rename_i h
   rw [Ts] at h
   split
   ·rename_i i hi
    exact BN (X:=Y.hnd v) i O.o.nd (O1 O v _) h.2 (by show Y.N[i]? = _;rw [show Y.N=c.N from O.o.N];exact j5 hi) (O.o.own h.1) (.inl (O.own _))
   ·exact eD
  ·exact eD
 ·exact eD
theorem tH {m:Nat}:∀ (n:Nat)(Y:Cx),Okr S F G k c Y->(∀ st,QS Y.nox st ((gY S F G k m c n).1 st))/\∀ st,QR Y st ((gY S F G k m c n).2 st)
 | 0,Y,O=>⟨fun _=>eD,fun _=>iE⟩
 | n+1,Y,O=>by
  have ih:=tH (m:=m) n
  refine ⟨fun st=>?_,fun st=>O0 O ((pW m).1 c _ O.o) ((pW m).2 c _ O.o) (ih Y O).1 (ih Y O).2 st⟩
  show QS Y.nox st (yM S (tr S F m).1 (tr S F m).2 c (gY S F G k m c n).1 (gY S F G k m c n).2 st)
  unfold yM
  split
  ·unfold DO
   split
   ·rename_i q hq
    obtain ⟨p1,p2,b,bs,rfl,hb⟩:=OY hq
    split
    ·rename_i h
     rw [Ts,Ts,decide_eq_true_eq] at h
     obtain ⟨⟨h1,h2⟩,h3⟩:=h
     split
     ·rename_i i hi
      obtain ⟨L,hL⟩:=O.fr
      refine L5 (X:=Y.nox) O.ex O.st hL O.o.nd (by show Y.N[i]? = _;rw [show Y.N=c.N from O.o.N];exact j5 hi) (by rw [<- h3,<- O.o.ks]) (O.o.gl h1).1 (O.o.gl h1).2 (fun x b' hx=>?_) (j8 (ih Y O).1 _) (fun E=>?_) (fun v=>?_)
      ·obtain ⟨ys,g1,g2⟩:=Tq.mp hx
       rw [<- g2]
       exact O.o.xc.sub x ys _ g1 h2
      ·have O':Okr S F G k c (Y.nox.wish E):=⟨O.o,O.ex,O.st,O.fr,O.own,O.rf⟩
       exact pZ (ih _ O').1 (ih _ O').2 _
      ·rw [hb]
       exact j8 (O2 O v) (b::bs)
     ·exact eD
    ·exact eD
   ·exact eD
  ·exact OV O.o O.own (pW m).1 (pW m).2 (ih Y O).1 st
end
noncomputable def cH (st:Stmt):List Str:=(dO st).args.map (·.arg)
noncomputable def fQ (st:Stmt):List Str:=cH st++(bF st).names.filterMap fun y=>if (y.2 == NameKind.local||y.2 == VS)&&!(cH st).contains y.1 then some y.1 else none
noncomputable def j9 (st:Stmt):Bool:=
 decide ((bF st).kind=.function)&&!(bF st).isCoroutine&&!(bF st).isGenerator&&decide (fQ st).Nodup &&
 ((cH st).all fun x=>decide ((bF st).names.lookup x=some .local)||decide ((bF st).names.lookup x=some .cell))&&((bF st).names.all fun y=>decide (y.2≠.free))
theorem DP {st:Stmt}(h:j9 st=true):FnScope (fQ st) (cH st) (bF st):=by
 unfold j9 at h
 simp only [Ts,decide_eq_true_eq,WS,Vv,Wb] at h
 obtain ⟨⟨⟨⟨⟨h1,h2⟩,h3⟩,h4⟩,h5⟩,h6⟩:=h
 exact ⟨h1,h2,h3,h4,by unfold fQ;simp,h5,h6⟩
noncomputable def nV:Nat:=40
noncomputable def nW:Nat:=40
noncomputable def yO (S:Sig)(F:Str->MF)(G:Str->RF)(k:Nat)(st:Stmt):MF:=u6 (fQ st).length (jE (gY S F G k nV ⟨fQ st,(bF st).names⟩ nW).1 (bT st))
noncomputable def yP (S:Sig)(F:Str->MF)(G:Str->RF)(k:Nat)(st:Stmt):RF:=wQ (fQ st).length (nU (gY S F G k nV ⟨fQ st,(bF st).names⟩ nW).1 (gY S F G k nV ⟨fQ st,(bF st).names⟩ nW).2 (bT st))
noncomputable def nX (S:Sig)(ds:List (Str×Stmt)):Nat->(Str->MF)×(Str->RF)
 | 0=>(fun _ _ _=>none,fun _ _ _=>none)
 | k+1=>(fun x=>match ds.lookup x with
   | none=>fun _ _=>none
   | some st=>yO S (nX S ds k).1 (nX S ds k).2 k st,fun x=>match ds.lookup x with
   | none=>fun _ _=>none
   | some st=>yP S (nX S ds k).1 (nX S ds k).2 k st)
noncomputable def gA (S:Sig)(ds:List (Str×Stmt))(k:Nat):Str->MF:=(nX S ds k).1
noncomputable def kD (S:Sig)(ds:List (Str×Stmt))(k:Nat):Str->RF:=(nX S ds k).2
structure DefAt (K:To)(mg:Str->Option Value)(x:Str)(st:Stmt):Prop where
 ex:∃ f fd,Fun K x x st f fd/\mg x=some (.ref f)/\Binds K fd (cH st) []
structure TxtOk (P:Ub)(w:Up)(K:To)(mg:Str->Option Value)(S:Sig)(ds:List (Str×Stmt)):Prop where
 fns:∀ x n,S.fn.lookup x=some n->∃ st,ds.lookup x=some st/\(cH st).length=n
 defs:∀ x st,ds.lookup x=some st->DefAt K mg x st/\j9 st=true
 con:∀ x d,S.con.lookup x=some d->∃ v u,mg x=some u/\RelV v u/\∀ π n H,IsD K π n H v d
 tab:∀ x kvs,S.tab.lookup x=some kvs->∃ (p:Addr)(vs:List (aX×V))(ws:List (aX×Value)),mg x=some (.ref p)/\(∀ h:UE,K.In h->h.DictOf (kT P w) p ws)/\KV vs ws/\∀ π n H,IsKs K π n H vs kvs
 no:∀ x,S.no.contains x=true->mg x=none
 xc:XcOk S K
theorem DQ {P:Ub}{w:Up}{K:To}{mg:Str->Option Value}{base:UE}{S:Sig}{ds:List (Str×Stmt)}(T:TxtOk P w K mg S ds):∀ (k:Nat)(x:Str)(st:Stmt)(f:Addr)(fd:Vt),ds.lookup x=some st->Fun K x x st f fd->
  FnOk P w K mg base dY k f fd (cH st) (gM K (cH st).length (gA S ds k x))/\FnOk P w K mg base (gW P w) k f fd (cH st) (m5 K (cH st).length (kD S ds k x))
 | 0,x,st,f,fd,hl,hF=>⟨⟨fun vs H Q E h=>h.1,fun A outer s H args us vs Q E hr he hb hv hs=>by
   obtain ⟨_,π,ds',μ,d,μ',R,i,hm,kc⟩:=hs
   cases hm⟩,⟨fun vs H Q E h=>h.1,fun A outer s H args us vs Q E hr he hb hv hs=>by
   obtain ⟨_,π,ds',μ,d,μ',R,i,hm,kc⟩:=hs
   cases hm⟩⟩
 | k+1,x,st,f,fd,hl,hF=>by
  have ih:=DQ (base:=base) T k
  have e:gA S ds (k+1) x=yO S (gA S ds k) (kD S ds k) k st:=by
   show (match ds.lookup x with|none=>fun _ _=>none|some st=>yO S (gA S ds k) (kD S ds k) k st)=_
   rw [hl]
  have e2:kD S ds (k+1) x=yP S (gA S ds k) (kD S ds k) k st:=by
   show (match ds.lookup x with|none=>fun _ _=>none|some st=>yP S (gA S ds k) (kD S ds k) k st)=_
   rw [hl]
  rw [e,e2]
  have Sc:=DP (T.defs x st hl).2
  have O:∀ (CX:fG)(cdv:Value)(A:Ue)(outer:List X2)(s:Tv)(H:Hp)(E:XK),Room k (A.deeper (WU x (bF st) s.heap.objs.size f cdv))->Okr S (gA S ds k) (kD S ds k) k ⟨fQ st,(bF st).names⟩ (dH CX P w K mg base (fQ st) x (bF st) f cdv A outer s H E):=fun CX cdv A outer s H E hr=>by
   refine ⟨⟨rfl,Sc.nd,rfl,Sc.kind,rfl,hr,a0w,fun y n hy=>?_,T.con,fun y kvs q=>⟨T.tab y kvs q⟩,T.no,T.xc⟩,rfl,rfl,⟨_,rfl⟩,fun _=>rfl,fun y n hy=>?_⟩
   ·obtain ⟨st',h1,h2⟩:=T.fns y n hy
    obtain ⟨f',fd',F',m',b'⟩:=(T.defs y st' h1).1.ex
    subst h2
    exact ⟨f',fd',cH st',(ih y st' f' fd' h1 F').1,m',F'.kp,b'⟩
   ·obtain ⟨st',h1,h2⟩:=T.fns y n hy
    obtain ⟨f',fd',F',m',b'⟩:=(T.defs y st' h1).1.ex
    subst h2
    exact ⟨f',fd',cH st',(ih y st' f' fd' h1 F').2,m',F'.kp,b'⟩
  refine ⟨K0 hF Sc (by unfold fQ;simp) rfl fun cdv A outer s H E hr=>?_,LW hF Sc (by unfold fQ;simp) rfl fun cdv A outer s H E hr=>?_⟩
  ·exact j8 (tH (m:=nV) nW _ (O dY cdv A outer s H E hr)).1 (bT st)
  ·have o:=O (gW P w) cdv A outer s H E hr
   exact pZ (tH (m:=nV) nW _ o).1 (tH (m:=nV) nW _ o).2 (bT st)
theorem O3 {P:Ub}{w:Up}{K:To}{mg:Str->Option Value}{base:UE}{S:Sig}{ds:List (Str×Stmt)}(T:TxtOk P w K mg S ds)(k:Nat)(x:Str)(st:Stmt)(f:Addr)(fd:Vt)(hl:ds.lookup x=some st)(hF:Fun K x x st f fd) :
  FnOk P w K mg base dY k f fd (cH st) (gM K (cH st).length (gA S ds k x)):=(DQ T k x st f fd hl hF).1
theorem DR:∀ {ns:List Int}{b:Nat},Xu (ns.map Xd)<=b->∀ n∈ns,Uq n<=b
 | [],_,_,n,hn=>nomatch hn
 | m::ns,b,h,n,hn=>by
  have e:Xu ((m::ns).map Xd)=Ze (.int m)+1+Xu (ns.map Xd):=rfl
  have e2:Ze (.int m)=Uq m:=rfl
  rw [e,e2] at h
  rcases Ug.mp hn with rfl|hn
  ·omega
  ·exact DR (b:=b) (by omega) n hn
section
open PySem PySem.W PySem.Calls PyProof.Rows
theorem O4 {l:a0W}{n:Nat}{q:Ub}{loose:List Str}{XP:(Str->Option Value)->UE->Prop}{YP:Up->UE->Prop}{d:DefRec}
  (hn:l.most=some n)(hdf:d.params.defaults=[])
  (call:∀ (w:Up)(s₀ s₁:Tv)(mg mb:Str->Option Value)(fa:Addr)(o:Obj)(pm cd doc:Value)(a:Addr)(vs:List Value)(ns:List Int),
   Ground q loose [] XP w s₀ mg mb s₁.heap->YP w s₁.heap->
   s₁.heap.get? fa=some o->o.data=.func (docDef d.name d.params d.body d.scope pm cd doc)->s₁.heap.CodeRec cd d.name->mg d.name=some (.ref fa)->
   s₁.heap.get? a=some { cls:=.type "list",data:=.seq vs.toArray }->Wh vs ns->ns.length<=n->(∀ m∈ns,Uq m<=2 ^ 20)->s₁.gens = #[]->
   XQ (T7 l.prog w) Zq (.call (.ref fa) ⟨[.ref a],[]⟩) (fun r s'=>r=.ok (.ret (.bool true))/\OldK s₁.heap s'.heap/\s'.os=s₁.os/\X9 s'.gens) s₁) :
  a1z q loose XP YP l.row.toRowW d [] (fun f vs=>a2E f vs):=by
 intro w s₀ s₁ mg mb G Y fa o pm cd doc dV kV ho hd hcd hD hmg hg args vals as hpre hlay hrd hwl hlo
 obtain rfl:dV=.none:=Dflts.none hD hdf
 obtain rfl:kV=.none:=Dflts.noKw hD
 obtain ⟨a,vs,ns,rfl,rfl,hobj,hints,hlen⟩:=Att.script_of hn hpre hwl
 have hb:∀ m∈ns,Uq m<=2 ^ 20:=by
  have h1:Y7 (.list (ns.map Xd))=true:=by
   have:=hlay
   unfold a2F at this
   simpa using this
  unfold Y7 at h1
  rw [Ts] at h1
  exact DR (of_decide_eq_true h1.2)
 refine enter_call (XN (call w s₀ s₁ mg mb fa o pm cd doc a vs ns G Y ho (fd_plain hd) hcd hmg hobj hints hlen hb hg) fun r s' hq=>?_)
 obtain ⟨rfl,h2,h3,h4⟩:=hq
 exact ⟨.inl ⟨.bool true,.bool true,[],rfl,fun _=>rfl,.bool true,Att.post_true l _,fun _=>⟨ZE,fun _ hm=>(nomatch hm)⟩⟩,h2,h3,h4⟩
end
theorem walkM {l:a0W}{q:Ub}{loose:List Str}{XP:(Str->Option Value)->UE->Prop}{YP:Up->UE->Prop}{d:DefRec}{K:Vo->To}{S:Sig}{ds:List (Str×Stmt)}{k:Nat}{st:Stmt}{x:Str}(hn:l.most=some 63)(hdf:d.params.defaults=[])
  (hr:Room k Zq)(hY:∀ (w:Up)(h:UE),YP w h->(K w.params).In h)(hl:ds.lookup d.name=some st)(hx:cH st=[x])
  (T:∀ (w:Up)(mg:Str->Option Value)(h:UE),(K w.params).In h->h.Ns Ux mg->TxtOk l.prog w (K w.params) mg S ds/\∃ f fd,Fun (K w.params) d.name d.name st f fd/\mg d.name=some (.ref f)/\∀ (s:Tv)(u:Value),Zz s fd ⟨[u],[]⟩ [(x,u)])
  (M:∀ ns:List Int,ns.length<=63->(∀ m∈ns,Uq m<=2 ^ 20)->∃ μ',gA S ds k d.name [.rol (ns.map D.int)] []=some (.bl true,μ')) :
  a1z q loose XP YP l.row.toRowW d [] (fun f vs=>a2E f vs):=by
 refine O4 hn hdf fun w s₀ s₁ mg mb fa o pm cd doc a vs ns G Y ho hd hcd hmg hobj hints hlen hbd hg=>?_
 have KX:=hY w _ Y
 obtain ⟨hT,f,fd,hF,hm,hb⟩:=T w mg _ KX G.T.g
 rw [hmg] at hm
 cases hm
 refine L2.law_call (CX:=dY) (sp:=gM (K w.params) 1 (gA S ds k d.name)) KX G.T.g G.T.b G.T.builtins G.T.nolimit hg hobj hints (UU hlen (by decide)) hr (fun base hb1 hb2=>?_) hb (fun H hO hS=>?_) fun H e s' z=>z
 ·have:=O3 (base:=base) hT k d.name st fa fd hl hF
  rw [hx] at this
  exact this
 ·refine ⟨rfl,fun _=>0,[.rol (ns.map D.int)],[],.bl true,?_⟩
  obtain ⟨μ',hM⟩:=M ns hlen hbd
  have hro:RoL (K w.params) H a (ns.map V.int):=by
   rcases hS with (h|h)|h
   ·rcases hO a with z|⟨o,xs,z⟩
    ·rw [z] at h;cases h
    ·rw [z] at h;cases h
   ·exact .inl h
   ·exact .inr h
  refine ⟨μ',⟨fun i j hi=>absurd hi (Xv _),fun i hi=>absurd hi (Xv _),fun i xs h=>(by cases h),fun i xs h=>(by cases h),fun i xs h=>(by cases h)
   ,fun i xs h=>(by cases h)
   ,fun i x ns ds h=>(by cases h)
   ⟩,.cons (.rol hro ?_) .nil,hM,fun π' v H' _ _ hv=>?_⟩
  ·have:∀ ns:List Int,IsDs (K w.params) (fun _=>0) ([]:Hm).length H (ns.map V.int) (ns.map D.int):=fun ns=>by
    induction ns with
    | nil=>exact .nil
    | cons n r ih=>exact .cons (.int n) ih
   exact this ns
  ·cases hv
   rfl
end L3
namespace L3
open PySem L2
theorem iH {β:Type}:∀ {l:List (Str×β)}{x:Str}{b:β},l.lookup x=some b->(x,b)∈l:=fun h=>U2 h
theorem O5 {S:Sig}{ds:List (Str×Stmt)}(h:(S.fn.all fun p=>match ds.lookup p.1 with|some st=>decide ((cH st).length=p.2)|none=>false)=true):∀ x n,S.fn.lookup x=some n->∃ st,ds.lookup x=some st/\(cH st).length=n:=by
 intro x n e
 have:=Vv.mp h (x,n) (iH e)
 dsimp only at this
 split at this
 ·rename_i st hs
  exact ⟨st,hs,of_decide_eq_true this⟩
 ·cases this
theorem O6 {K:To}{mg:Str->Option Value}{ds:List (Str×Stmt)}(h:∀ p∈ds,DefAt K mg p.1 p.2/\j9 p.2=true):∀ x st,ds.lookup x=some st->DefAt K mg x st/\j9 st=true:=fun x st e=>h (x,st) (iH e)
theorem O7 {K:To}{mg:Str->Option Value}{cs:List (Str×D)}(h:∀ p∈cs,∃ v u,mg p.1=some u/\RelV v u/\∀ π n H,IsD K π n H v p.2):∀ x d,cs.lookup x=some d->∃ v u,mg x=some u/\RelV v u/\∀ π n H,IsD K π n H v d:=fun x d e=>h (x,d) (iH e)
inductive EntsOf (w:Up):List Vf->List (aX×Value)->Prop where
 | nil:EntsOf w [] []
 | cons {e:Vf}{k:aX}{v:Value}{es:List Vf}{kvs:List (aX×Value)}(h:uA k e.key=true)(hh:e.hash=z8 w k)(hv:e.val=v)(t:EntsOf w es kvs):EntsOf w (e::es) ((k,v)::kvs)
theorem EntsOf.keys {P:Ub}{w:Up}{es:List Vf}{kvs:List (aX×Value)}(x:EntsOf w es kvs):∀ e∈es,∃ k,(kT P w).is k e.key=true/\e.hash=(kT P w).hash k:=by
 induction x with
 | nil=>intro e he;exact nomatch he
 | @cons e k v es kvs h hh hv _ ih=>
  intro e' he
  rcases Ug.mp he with rfl|he
  ·exact ⟨k,h,hh⟩
  ·exact ih e' he
theorem O8 {mg:Str->Option Value}{ns:List Str}(h:∀ x∈ns,mg x=none):∀ x,ns.contains x=true->mg x=none:=fun x e=>h x (by simpa using e)
noncomputable def tI:Nat->(Nat->Value)->List Value
 | 0,_=>[]
 | n+1,u=>u 0::tI n fun i=>u (i+1)
theorem DS:∀ us:List Value,∃ u,us=tI us.length u
 | []=>⟨fun _=>.none,rfl⟩
 | v::us=>let ⟨u,hu⟩:=DS us;⟨fun i=>match i with|0=>v|i+1=>u i,congrArg (v::·) hu⟩
noncomputable abbrev DT:Type:=Value->Value->Value->Option Addr->Value->Value->(Nat->Value)->a2D (List (Str×Value))
noncomputable def O9 (x:Str)(st:Stmt)(m:Value)(c:Addr):Obj:=⟨Tn "function",none,.func (US x x (dO st) (bT st) (bF st) .none .none .none m none (.ref c) .none),#[]⟩
noncomputable def DU (K:To)(d:(Str×Stmt)×Value×Addr×Addr):Option (Option Value)×Option Obj×Bool×Bool×Bool×DT:=(UR K Ux d.1.1,K.lookup d.2.2.2,Xs K (.ref d.2.2.1) d.1.1,UO K (.ref d.2.2.2),j9 d.1.2,fun kV doc pm an cdv ct u=>Zr (US d.1.1 d.1.1 (dO d.1.2) (bT d.1.2) (bF d.1.2) .none kV doc pm an cdv ct) ⟨tI (cH d.1.2).length u,[]⟩)
noncomputable def DV (d:(Str×Stmt)×Value×Addr×Addr):Option (Option Value)×Option Obj×Bool×Bool×Bool×DT:=(some (some (.ref d.2.2.2)),some (O9 d.1.1 d.1.2 d.2.1 d.2.2.1),true,true,true,fun _ _ _ _ _ _ u=>pure ((cH d.1.2).zip (tI (cH d.1.2).length u)))
noncomputable def tJ (K:To)(d:Str×Stmt):(Str×Stmt)×Value×Addr×Addr:=(d,match UR K Ux d.1 with
 | some (some (.ref f))=>(match K.lookup f with
  | some ⟨_,_,.func fd,_⟩=>(match fd.code with
   | .ref c=>(fd.pyModule,c,f)
   | _=>(.none,0,0))
  | _=>(.none,0,0))
 | _=>(.none,0,0))
noncomputable def tK (K:To)(ds:List (Str×Stmt)):Prop:=ds.map (fun d=>DU K (tJ K d))=ds.map fun d=>DV (tJ K d)
theorem DW {K:To}{h:UE}{mg:Str->Option Value}(X:K.In h)(G:h.Ns Ux mg){ds:List (Str×Stmt)}(q:tK K ds):∀ p∈ds,(DefAt K mg p.1 p.2/\j9 p.2=true)/\∃ f fd,Fun K p.1 p.1 p.2 f fd/\mg p.1=some (.ref f)/\∀ us:List Value,us.length=(cH p.2).length->Zr fd ⟨us,[]⟩=pure ((cH p.2).zip us):=by
 intro p0 hp
 have t:=a1t.mp q p0 hp
 have e:(tJ K p0).1=p0:=rfl
 generalize tJ K p0=d at t e
 obtain ⟨p,m,c,f⟩:=d
 cases e
 unfold DU DV at t
 obtain ⟨a,t⟩:=Yd t
 obtain ⟨l,t⟩:=Yd t
 obtain ⟨c,t⟩:=Yd t
 obtain ⟨k,t⟩:=Yd t
 obtain ⟨s,b⟩:=Yd t
 have F:=A5 (st:=p.2) l c k
 have D:=fun kV doc pm an cdv ct (us:List Value)(hl:us.length=(cH p.2).length)=>(by
  obtain ⟨u,hu⟩:=DS us
  rw [hl] at hu
  rw [hu]
  exact congrFun (congrFun (congrFun (congrFun (congrFun (congrFun (congrFun b kV) doc) pm) an) cdv) ct) u:Zr (US p.1 p.1 (dO p.2) (bT p.2) (bF p.2) .none kV doc pm an cdv ct) ⟨us,[]⟩=pure ((cH p.2).zip us))
 exact ⟨⟨⟨_,_,F,V7 X G a,F.binds D⟩,s⟩,_,_,F,V7 X G a,D _ _ _ _ _ _⟩
theorem Pa {K:To}{h:UE}{mg:Str->Option Value}(X:K.In h)(G:h.Ns Ux mg){ds:List (Str×Stmt)}(q:tK K ds){x y:Str}{st:Stmt}(hl:ds.lookup x=some st)(hp:cH st=[y]):∃ f fd,Fun K x x st f fd/\mg x=some (.ref f)/\∀ (s:Tv)(u:Value),Zz s fd ⟨[u],[]⟩ [(y,u)]:=by
 obtain ⟨f,fd,F,m,b⟩:=(DW X G q (x,st) (iH hl)).2
 dsimp only at b
 rw [hp] at b
 exact ⟨f,fd,F,m,fun s u=>.of_eq (b [u] rfl)⟩
theorem Pb {K:To}{h:UE}{mg:Str->Option Value}(X:K.In h)(G:h.Ns Ux mg){ns:List Str}(q:ns.map (UR K Ux)=ns.map fun _=>some none):∀ x∈ns,mg x=none:=fun x hx=>PySem.W.mg_none_of X G (a1t.mp q x hx)
noncomputable def qA {α β:Type}(f:α->β->Bool):List α->List β->Bool
 | [],[]=>true
 | a::as,b::bs=>f a b&&qA f as bs
 | _,_=>false
noncomputable def qB (K:To):Nat->Value->D->Bool
 | 0,_,_=>false
 | k+1,u,d=>match d with
  | .non=>(match u with|.none=>true|_=>false)
  | .bl b=>(match u with|.bool c=>decide (b=c)|_=>false)
  | .int i=>(match u with|.int j _=>decide (i=j)|_=>false)
  | .str x=>(match u with|.str y _=>decide (x=y)|_=>false)
  | .tup ds=>(match u with
   | .ref p=>(match K.lookup p with
    | some ⟨.type t,none,.seq its _,_⟩=>decide (t = "tuple")&&decide (its.size<=1000)&&qA (qB K k) its.toList ds
    | _=>false)
   | _=>false)
  | .rol ds=>(match u with
   | .ref p=>(match K.lookup p with
    | some ⟨.type t,none,.seq its _,_⟩=>decide (t = "list")&&decide (its.size<=1000)&&qA (qB K k) its.toList ds
    | _=>false)
   | _=>false)
  | _=>false
theorem DX {K:To}{f:Value->D->Bool}(h:∀ u d,f u d=true->∃ v,RelV v u/\∀ π n H,IsD K π n H v d):∀ us ds,qA f us ds=true->∃ vs,Vals vs us/\∀ π n H,IsDs K π n H vs ds
 | [],[],_=>⟨[],.nil,fun _ _ _=>.nil⟩
 | u::us,d::ds,e=>by
  obtain ⟨a,b⟩:=Wr.mp e
  obtain ⟨v,r,q⟩:=h u d a
  obtain ⟨vs,rs,qs⟩:=DX h us ds b
  exact ⟨v::vs,.cons r rs,fun _ _ _=>.cons (q _ _ _) (qs _ _ _)⟩
 | [],_::_,e=>nomatch e
 | _::_,[],e=>nomatch e
theorem DY {K:To}:∀ (k:Nat)(u:Value)(d:D),qB K k u d=true->∃ v,RelV v u/\∀ π n H,IsD K π n H v d
 | 0,_,_,e=>nomatch e
 | k+1,u,d,e=>by
  have seq:∀ {p:Addr}{ds:List D}{c:String},(match K.lookup p with|some ⟨.type t,none,.seq its _,_⟩=>decide (t=c)&&decide (its.size<=1000)&&qA (qB K k) its.toList ds|_=>false)=true->∃ vs its n sl,K.lookup p=some ⟨.type c,none,.seq its n,sl⟩/\its.size<=TL/\Vals vs its.toList/\∀ π n H,IsDs K π n H vs ds:=fun {p ds c} e=>by
   split at e
   ·rename_i t its n sl hk
    obtain ⟨e,q⟩:=Wr.mp e
    obtain ⟨a,b⟩:=Wr.mp e
    cases of_decide_eq_true a
    obtain ⟨vs,r,i⟩:=DX (DY k) _ _ q
    exact ⟨vs,its,n,sl,hk,UU (of_decide_eq_true b) (by decide),r,i⟩
   ·cases e
  cases d with
  | non=>cases u with
   | none=>exact ⟨.non,rfl,fun _ _ _=>.non⟩
   | _=>cases e
  | bl b=>cases u with
   | bool c=>cases of_decide_eq_true e;exact ⟨.bl b,rfl,fun _ _ _=>.bl _⟩
   | _=>cases e
  | int b=>cases u with
   | int c=>cases of_decide_eq_true e;exact ⟨.int b,⟨_,rfl⟩,fun _ _ _=>.int _⟩
   | _=>cases e
  | str b=>cases u with
   | str c=>cases of_decide_eq_true e;exact ⟨.str b,⟨_,rfl⟩,fun _ _ _=>.str _⟩
   | _=>cases e
  | tup ds=>cases u with
   | ref p=>
    obtain ⟨vs,its,n,sl,hk,hs,r,i⟩:=seq e
    exact ⟨.ref p,rfl,fun _ _ _=>.tup (vs:=vs) (.inr ⟨_,its,n,hk,rfl,rfl,rfl,hs,r⟩) (i _ _ _)⟩
   | _=>cases e
  | rol ds=>cases u with
   | ref p=>
    obtain ⟨vs,its,n,sl,hk,hs,r,i⟩:=seq e
    exact ⟨.ref p,rfl,fun _ _ _=>.rol (vs:=vs) (.inr ⟨_,its,n,hk,rfl,rfl,rfl,hs,r⟩) (i _ _ _)⟩
   | _=>cases e
  | _=>cases e
noncomputable def DZ (K:To)(cs:List (Str×D)):Bool:=cs.all fun c=>match UR K Ux c.1 with|some (some u)=>qB K 8 u c.2|_=>false
theorem Pc {K:To}{h:UE}{mg:Str->Option Value}(X:K.In h)(G:h.Ns Ux mg){cs:List (Str×D)}(q:DZ K cs=true):∀ p∈cs,∃ v u,mg p.1=some u/\RelV v u/\∀ π n H,IsD K π n H v p.2:=fun p hp=>by
 have t:=Vv.mp q p hp
 split at t
 ·rename_i u hu
  obtain ⟨v,r,i⟩:=DY _ _ _ t
  exact ⟨v,u,V7 X G hu,r,i⟩
 ·cases t
end L3
namespace L3
open PySem L2
noncomputable def yQ:Stmt->Option (Str×Str)
 | .Expr e _=>(match e with
  | .Call f args kws p5=>(match f,args,kws with
   | .Attribute o m p2,[.Name sf _,.Constant (.str _) _ _],[]=>(match o with
    | .Name bn _=>if (m == "__init__" && (p2.endLine == p5.line))=true then some (bn,sf) else none
    | _=>none)
   | _,_,_=>none)
  | _=>none)
 | _=>none
noncomputable def yR:Stmt->Option (Str×Str×Str)
 | .Assign [.Attribute o a _] (.Name ar _) _=>(match o with
  | .Name sf _=>some (sf,a,ar)
  | _=>none)
 | _=>none
theorem Pd {st:Stmt}{bn sf:Str}(h:yQ st=some (bn,sf)):∃ tx kk p1 p2 p3 p4 p5 p6,st=.Expr (.Call (.Attribute (.Name bn p1) "__init__" p2) [.Name sf p3,.Constant (.str tx) kk p4] [] p5) p6/\(p2.endLine == p5.line)=true:=by
 unfold yQ at h
 split at h
 ·split at h
  ·split at h
   ·split at h
    ·split at h
     ·rename_i hc
      cases h
      rw [Ts,beq_iff_eq] at hc
      rw [hc.1]
      exact ⟨_,_,_,_,_,_,_,_,rfl,hc.2⟩
     ·cases h
    ·cases h
   ·cases h
  ·cases h
 ·cases h
theorem Pe {st:Stmt}{sf a ar:Str}(h:yR st=some (sf,a,ar)):∃ p7 p8 p9 p10,st=.Assign [.Attribute (.Name sf p7) a p8] (.Name ar p9) p10:=by
 unfold yR at h
 split at h
 ·split at h
  ·cases h;exact ⟨_,_,_,_,rfl⟩
  ·cases h
 ·cases h
noncomputable def qC (K:To)(x bn:Str):Addr×Addr×Addr×Value×Addr:=
 let C:=(f7 K x).getD 0
 let f:=(match K.lookup C with
  | some ⟨_,_,.cls cd,_⟩=>(match UR K cd.ns "__init__" with
   | some (some (.ref f))=>f
   | _=>0)
  | _=>0)
 let q:=(match K.lookup f with
  | some ⟨_,_,.func fd,_⟩=>(match fd.code with
   | .ref c=>(fd.pyModule,c)
   | _=>(.none,0))
  | _=>(.none,0))
 (C,f,(f7 K bn).getD 0,q.1,q.2)
noncomputable def Pf (x qual:Str)(st:Stmt)(m:Value)(c:Addr):Obj:=⟨Tn "function",none,.func (US x qual (dO st) (bT st) (bF st) .none .none .none m none (.ref c) .none),#[]⟩
noncomputable def D0 (K:To)(x a bn qual:Str)(st:Stmt):Bool:=
 let q:=qC K x bn
 UR K Ux x == some (some (.ref q.1))&&sD K q.1 q.2.1&&wV K q.2.2.1&&UR K Ux bn == some (some (.ref q.2.2.1))&&U3 K (.ref q.1) "__setattr__" == some (some (.builtin "object.__setattr__")) &&
 U3 K (.ref q.1) a == some none&&UO K (.ref q.1)&&Xs K (.ref q.2.2.2.2) qual&&UO K (.ref q.2.1)&&j9 st
noncomputable abbrev qD (K:To)(x a:Str):Prop:=∃ C f B bn fd sf ar,InitK K C f B bn a/\UR K Ux x=some (some (.ref C))/\UO K (.ref C)=true/\(∀ P w mg base k,FnOk P w K mg base dY (k+1) f fd [sf,ar] (nD C a))/\Binds K fd [sf,ar] []/\∃ oI,K.lookup f=some oI/\oI.cls=.type "function"
theorem yS {K:To}{x a bn qual sf ar:Str}{st s1 s2:Stmt}(hB:D0 K x a bn qual st=true)(hl:K.lookup (qC K x bn).2.1=some (Pf "__init__" qual st (qC K x bn).2.2.2.1 (qC K x bn).2.2.2.2)) (hb:bT st=[s1,s2])(h1:yQ s1=some (bn,sf))(h2:yR s2=some (sf,a,ar))
  (hN:fQ st=[sf,ar])(hP:cH st=[sf,ar])(hg:(bF st).names.lookup bn=some .globalImplicit)(hn:((bn == ("__debug__":Str))||(sf == ("__debug__":Str))||(ar == ("__debug__":Str))||(sf == ("__classdict__":Str))||(ar == ("__classdict__":Str)))=false)
  (hD:∀ (kV doc pm:Value)(an:Option Addr)(cdv ct u v:Value),Zr (US "__init__" qual (dO st) (bT st) (bF st) .none kV doc pm an cdv ct) ⟨[u,v],[]⟩=pure [(sf,u),(ar,v)]) :
  qD K x a:=by
 unfold D0 at hB
 generalize qC K x bn=q at hB hl
 obtain ⟨C,f,B,m,c⟩:=q
 dsimp only at hB hl
 rw [Ts,Ts,Ts,Ts,Ts,Ts,Ts,Ts,Ts,beq_iff_eq,beq_iff_eq,beq_iff_eq,beq_iff_eq] at hB
 obtain ⟨⟨⟨⟨⟨⟨⟨⟨⟨b1,b2⟩,b3⟩,b4⟩,b5⟩,b6⟩,b7⟩,b8⟩,b9⟩,b10⟩:=hB
 have I:InitK K C f B bn a:=⟨b2,b3,b4,b5,b6⟩
 have F:=A5 (st:=st) hl b8 b9
 obtain ⟨tx,kk,p1,p2,p3,p4,p5,p6,rfl,hln⟩:=Pd h1
 obtain ⟨p7,p8,p9,p10,rfl⟩:=Pe h2
 have Sc:=DP b10
 rw [hN,hP] at Sc
 refine ⟨C,f,B,bn,_,sf,ar,I,b1,b7,fun P w mg base k=>Mg F Sc hb hln I hg hn,F.binds fun kV doc pm an cdv ct us hl2=>?_,_,hl,rfl⟩
 match us,hl2 with
 | [u,v],_=>exact hD kV doc pm an cdv ct u v
theorem Pg {S:Sig}{K:To}(h1:(S.cls.all fun p=>sE K p.2 p.1)=true)(h2:(S.sup.all fun p=>S.sup.all fun q=>pG K p.1 q.1 == some (p.2.contains q.1))=true)
  (h3:(S.sup.all fun p=>S.sup.all fun q=>match f7 K q.1 with|some C=>jX K (.ref C) p.1 == some (p.2.contains q.1)|none=>false)=true)(h4:(S.sup.all fun p=>jX K (.type "ValueError") p.1 == some (p.2.contains "ValueError"))=true)
  (h5:(S.sup.all fun p=>(S.cls.lookup p.1).isSome||match f7 K p.1 with|some C=>Yo K C lN "ValueError.__new__" | none=>false)=true)
  (h6:∀ p∈S.cls,qD K p.1 p.2):XcOk S K:=by
 have two:∀ {g:Str×List Str->Str×List Str->Bool},(S.sup.all fun p=>S.sup.all fun q=>g p q)=true->∀ x ys c zs,S.sup.lookup x=some ys->S.sup.lookup c=some zs->g (x,ys) (c,zs)=true:=fun {g} h x ys c zs e1 e2=>
  Vv.mp (Vv.mp h (x,ys) (iH e1)) (c,zs) (iH e2)
 refine ⟨fun x a e=>Vv.mp h1 (x,a) (iH e),fun x ys c e hc=>?_,fun x ys c e hc=>?_,fun x ys e=>?_,fun x ys e hn=>?_,fun x a e=>h6 (x,a) (iH e)⟩
 ·obtain ⟨zs,hz⟩:=Uv.mp hc
  exact beq_iff_eq.mp (two h2 x ys c zs e hz)
 ·obtain ⟨zs,hz⟩:=Uv.mp hc
  have:=two h3 x ys c zs e hz
  dsimp only at this
  split at this
  ·rename_i C hC
   exact ⟨C,hC,beq_iff_eq.mp this⟩
  ·cases this
 ·exact beq_iff_eq.mp (Vv.mp h4 (x,ys) (iH e))
 ·have:=Vv.mp h5 (x,ys) (iH e)
  dsimp only at this
  rw [hn] at this
  split at this
  ·rename_i C hC
   exact ⟨C,by simpa using this,m9 hC⟩
  ·simp at this
end L3
namespace L3
open PySem L2
noncomputable def W {α:Type}(o:Option α)(Q:α->Prop):Prop:=∃ r,o=some r/\Q r
section
variable {α β:Type}{o:Option α}{Q:α->Prop}
theorem W_some {r:α}{Q:α->Prop}:W (some r) Q↔Q r:=⟨fun ⟨_,h,q⟩=>by cases h;exact q,fun q=>⟨r,rfl,q⟩⟩
theorem W_none {Q:α->Prop}:W none Q↔False:=⟨fun ⟨_,h,_⟩=>(by cases h),fun h=>h.elim⟩
theorem W_bind {g:α->Option β}{Q:β->Prop}:W (o.bind g) Q↔W o fun r=>W (g r) Q:=by
 cases o with
 | none=>exact ⟨fun ⟨_,h,_⟩=>(by cases h),fun ⟨_,h,_⟩=>(by cases h)⟩
 | some a=>simp [W_some]
theorem W_map {g:α->β}{Q:β->Prop}:W (o.map g) Q↔W o fun r=>Q (g r):=by
 cases o with
 | none=>exact ⟨fun ⟨_,h,_⟩=>(by cases h),fun ⟨_,h,_⟩=>(by cases h)⟩
 | some a=>simp [W_some]
theorem bM {Q':α->Prop}(h:W o Q)(k:∀ r,Q r->Q' r):W o Q':=let ⟨r,e,q⟩:=h;⟨r,e,k r q⟩
theorem tL {c:Prop} [Decidable c] {a b:Option α}:W (if c then a else b) Q↔if c then W a Q else W b Q:=by split<;>rfl
end
noncomputable def fin:Option (Fl×aG×Hm)->Option (D×Hm):=fun o=>o.bind fun p=>match p.1 with|.rt d=>some (d,p.2.2)|.nx=>some (.non,p.2.2)|_=>none
noncomputable def yT:Option (Xn×aG×Hm)->Option (Xn×Hm):=fun o=>o.map fun p=>(p.1,p.2.2)
theorem W_fin {o:Option (Fl×aG×Hm)}{Q:D×Hm->Prop}:W (fin o) Q↔W o fun p=>match p.1 with|.rt d=>Q (d,p.2.2)|.nx=>Q (.non,p.2.2)|_=>False:=by
 unfold fin
 rw [W_bind]
 constructor
 ·exact fun h=>bM h fun p q=>by
   obtain ⟨fl,ρ,μ⟩:=p
   cases fl<;>simpa [W_some,W_none] using q
 ·exact fun h=>bM h fun p q=>by
   obtain ⟨fl,ρ,μ⟩:=p
   cases fl<;>simpa [W_some,W_none] using q
theorem aY {μ μ':Hm}(h:μ <+: μ'){a:Nat}{c:C}(e:μ[a]? = some c):μ'[a]? = some c:=by
 obtain ⟨t,rfl⟩:=h
 have hl:=(Tw.mp e).1
 rw [Uz hl]
 exact e
theorem aZ (μ:Hm)(c:C):μ <+: μ++[c]:=⟨[c],rfl⟩
theorem gC {μ μ':Hm}(h:μ <+: μ'){a:Nat}(ha:μ.length<=a)(c:C):μ <+: μ'.set a c:=by
 obtain ⟨t,rfl⟩:=h
 rw [Yh _ _ ha]
 exact ⟨_,rfl⟩
theorem bK {a b:MS}{ρ:aG}{μ:Hm} {Q}:W (aJ a b ρ μ) Q↔W (a ρ μ) fun p=>match p.1 with|.nx=>W (b p.2.1 p.2.2) Q|_=>Q p:=by
 unfold aJ
 rw [W_bind]
 constructor
 ·exact fun h=>bM h fun p q=>by
   obtain ⟨fl,ρ,μ⟩:=p
   cases fl<;>simpa [W_some,W_none] using q
 ·exact fun h=>bM h fun p q=>by
   obtain ⟨fl,ρ,μ⟩:=p
   cases fl<;>simpa [W_some,W_none] using q
theorem w_mRet {m:ME}{ρ:aG}{μ:Hm} {Q}:W (aQ m ρ μ) Q↔W (m ρ μ) fun p=>Q (.rt p.1,ρ,p.2):=W_map
theorem kE {m:ME}{ρ:aG}{μ:Hm} {Q}:W (c9 m ρ μ) Q↔W (m ρ μ) fun p=>Q (.nx,ρ,p.2):=W_map
theorem cB {i:Nat}{m:ME}{ρ:aG}{μ:Hm} {Q}:W (aS i m ρ μ) Q↔W (m ρ μ) fun p=>Q (.nx,ρ.set i (some p.1),p.2):=W_map
theorem dB {ρ:aG}{μ:Hm} {Q}:W (bD ρ μ) Q↔Q (.nx,ρ,μ):=W_some
theorem dM {t:MT}{a b:MS}{ρ:aG}{μ:Hm} {Q}:W (bB t a b ρ μ) Q↔W (t ρ μ) fun p=>if p.1=true then W (a ρ p.2) Q else W (b ρ p.2) Q:=by
 unfold bB
 rw [W_bind]
 constructor<;>exact fun h=>bM h fun p q=>by
   obtain ⟨x,μ⟩:=p
   cases x<;>simpa using q
theorem yU {t:MT}{a b:ME}{ρ:aG}{μ:Hm} {Q}:W (gR t a b ρ μ) Q↔W (t ρ μ) fun p=>if p.1=true then W (a ρ p.2) Q else W (b ρ p.2) Q:=by
 unfold gR
 rw [W_bind]
 constructor<;>exact fun h=>bM h fun p q=>by
   obtain ⟨x,μ⟩:=p
   cases x<;>simpa using q
theorem yV {a b:MT}{ρ:aG}{μ:Hm} {Q}:W (gO a b ρ μ) Q↔W (a ρ μ) fun p=>if p.1=true then W (b ρ p.2) Q else Q (false,p.2):=by
 unfold gO
 rw [W_bind]
 constructor<;>exact fun h=>bM h fun p q=>by
   obtain ⟨x,μ⟩:=p
   cases x<;>simpa [W_some] using q
theorem qE {a b:MT}{ρ:aG}{μ:Hm} {Q}:W (gP a b ρ μ) Q↔W (a ρ μ) fun p=>if p.1=true then Q (true,p.2) else W (b ρ p.2) Q:=by
 unfold gP
 rw [W_bind]
 constructor<;>exact fun h=>bM h fun p q=>by
   obtain ⟨x,μ⟩:=p
   cases x<;>simpa [W_some] using q
theorem tN {a:MT}{ρ:aG}{μ:Hm} {Q}:W (jQ a ρ μ) Q↔W (a ρ μ) fun p=>Q (!p.1,p.2):=W_map
theorem aU {f:D->D->Hm->Option (D×Hm)}{a b:ME}{ρ:aG}{μ:Hm} {Q}:W (aB f a b ρ μ) Q↔W (a ρ μ) fun p=>W (b ρ p.2) fun q=>W (f p.1 q.1 q.2) Q:=by
 unfold aB
 rw [W_bind]
 simp only [W_bind]
theorem aV {d:D}{ρ:aG}{μ:Hm} {Q}:W (mC d ρ μ) Q↔Q (d,μ):=W_some
theorem aE {d:D}{ρ:aG}{μ:Hm} {Q}:W (aA 0 (some d::ρ) μ) Q↔Q (d,μ):=by
 show W (some (d,μ)) Q↔_
 exact W_some
theorem aF {i:Nat}{x:Option D}{ρ:aG}{μ:Hm} {Q}:W (aA (i+1) (x::ρ) μ) Q↔W (aA i ρ μ) Q:=by
 unfold aA
 rw [List.getElem?_cons_succ]
theorem aM {ρ:aG}{μ:Hm} {Q}:W (aD ρ μ) Q↔Q ([],μ):=W_some
theorem aN {a:ME}{r:MA}{ρ:aG}{μ:Hm} {Q}:W (aC a r ρ μ) Q↔W (a ρ μ) fun p=>W (r ρ p.2) fun q=>Q (p.1::q.1,q.2):=by
 unfold aC
 simp only [W_bind,W_some]
theorem eL {ms:MA}{ρ:aG}{μ:Hm} {Q}:W (bH ms ρ μ) Q↔W (ms ρ μ) fun p=>p.1.length<=TL/\Q (.tup p.1,p.2):=by
 unfold bH
 rw [W_bind]
 constructor<;>exact fun h=>bM h fun p q=>by
  first
  | (rw [tL] at q;split at q
     ·exact ⟨by assumption,W_some.mp q⟩
     ·exact (W_none.mp q).elim)
  | (rw [if_pos q.1];exact W_some.mpr q.2)
theorem eM {ms:MA}{ρ:aG}{μ:Hm} {Q}:W (bV ms ρ μ) Q↔W (ms ρ μ) fun p=>p.1.length<=TL/\Q (.loc p.2.length,p.2++[.lst p.1]):=by
 unfold bV
 rw [W_bind]
 constructor<;>exact fun h=>bM h fun p q=>by
  first
  | (rw [tL] at q;split at q
     ·exact ⟨by assumption,W_some.mp q⟩
     ·exact (W_none.mp q).elim)
  | (rw [if_pos q.1];exact W_some.mpr q.2)
theorem a8 {f:MF}{ms:MA}{ρ:aG}{μ:Hm} {Q}:W (aK f ms ρ μ) Q↔W (ms ρ μ) fun p=>W (f p.1 p.2) Q:=W_bind
theorem cI {m:ME}{ρ:aG}{μ:Hm} {Q}:W (aP m ρ μ) Q↔W (m ρ μ) fun p=>match p.1 with|.bl b=>Q (b,p.2)|_=>False:=by
 unfold aP
 rw [W_bind]
 constructor<;>exact fun h=>bM h fun p q=>by
  obtain ⟨d,μ⟩:=p
  cases d<;>simpa [W_some,W_none] using q
theorem jF {m:ME}{ρ:aG}{μ:Hm} {Q}:W (eS m ρ μ) Q↔W (m ρ μ) fun p=>W (jW p.2 p.1) fun b=>Q (b,p.2):=by
 unfold eS
 simp only [W_bind,W_map]
theorem Ph {a:ME}{ρ:aG}{μ:Hm} {Q}:W (mJ a ρ μ) Q↔W (a ρ μ) fun p=>match p.1 with|.bl b=>Q (.bl (!b),p.2)|_=>False:=by
 unfold mJ
 rw [W_bind]
 constructor<;>exact fun h=>bM h fun p q=>by
  obtain ⟨d,μ⟩:=p
  cases d<;>simpa [W_some,W_none] using q
theorem nY {a b:ME}{ρ:aG}{μ:Hm} {Q}:W (gQ a b ρ μ) Q↔W (a ρ μ) fun p=>match p.1 with|.bl c=>if c=true then W (b ρ p.2) Q else Q (.bl false,p.2)|_=>False:=by
 unfold gQ
 rw [W_bind]
 constructor<;>exact fun h=>bM h fun p q=>by
  obtain ⟨d,μ⟩:=p
  cases d with
  | bl c=>cases c<;>simpa [W_some] using q
  | _=>simpa [W_none] using q
theorem yW {m:ME}{g:MG}{ρ:aG}{μ:Hm} {Q}:W (fL m g ρ μ) Q↔W (m ρ μ) fun p=>W (g p.1 ρ p.2) fun ρ'=>Q (.nx,ρ',p.2):=by
 unfold fL
 simp only [W_bind,W_map]
section
variable {i j:Int}{μ:Hm}{Q:D×Hm->Prop}{a b c d e g:D}
theorem dN:W (bE (.int i) (.int j) μ) Q↔Q (.int (i+j),μ):=W_some
theorem yX:W (cD (.int i) (.int j) μ) Q↔Q (.int (i - j),μ):=W_some
theorem cR (h:0<j):W (aT (.int i) (.int j) μ) Q↔Q (.int (i % j),μ):=by
 show W ((if 0<j then some (i % j) else none).map fun z=>(D.int z,μ)) Q↔_
 rw [if_pos h]
 exact W_some
theorem Pj:(1073741824:Int)<2 ^ 4000:=by decide +kernel
theorem Pk (h:0<j)(h2:j<2 ^ 4000):W (eB (.int i) (.int j) μ) Q↔Q (.int (i / j),μ):=by
 show W ((if 0<j/\j<2 ^ 4000 then some (i / j) else none).map fun z=>(D.int z,μ)) Q↔_
 rw [if_pos ⟨h,h2⟩]
 exact W_some
theorem iI (h:0<j)(h2:j<1073741824):W (eB (.int i) (.int j) μ) Q↔Q (.int (i / j),μ):=Pk h (Int.lt_trans h2 Pj)
theorem dE (h:(-(2 ^ 64)<i/\i<2 ^ 64)\/(-(2 ^ 64)<j/\j<2 ^ 64)):W (bC (.int i) (.int j) μ) Q↔Q (.int (i * j),μ):=by
 show W ((if ((-(2 ^ 64)<i/\i<2 ^ 64)\/(-(2 ^ 64)<j/\j<2 ^ 64))\/(i.natAbs<2 ^ 4000/\j.natAbs<2 ^ 4000)\/Uq i+Uq j<=134217728 then some (i * j) else none).map fun z=>(D.int z,μ)) Q↔_
 rw [if_pos (.inl h)]
 exact W_some
theorem fB:W (aR false (.int i) (.int j) μ) Q↔Q (.bl (i == j),μ):=W_some
theorem D1:W (aR true (.int i) (.int j) μ) Q↔Q (.bl (!(i == j)),μ):=W_some
theorem Pl {x y:Bool}:W (aR false (.bl x) (.bl y) μ) Q↔Q (.bl (x == y),μ):=W_some
theorem Pm {x y x' y':Int}:W (aR false (.tup [.int x,.int y]) (.tup [.int x',.int y']) μ) Q↔Q (.bl (x == x'&&(y == y'&&true)),μ):=W_some
theorem w_neP {x y x' y':Int}:W (aR true (.tup [.int x,.int y]) (.tup [.int x',.int y']) μ) Q↔Q (.bl (!(x == x'&&(y == y'&&true))),μ):=W_some
theorem yY:W (gT (.int i) (.int j) μ) Q↔Q (.bl (decide (i<j)),μ):=W_some
theorem D2:W (mO (.int i) (.int j) μ) Q↔Q (.bl (decide (j<i)),μ):=W_some
theorem Pn:W (oY (.int i) (.int j) μ) Q↔Q (.bl (decide (j<=i)),μ):=W_some
theorem gZ:W (aI (.tup [a,b]) (.int 0) μ) Q↔Q (a,μ):=W_some
theorem iJ:W (aI (.tup [a,b]) (.int 1) μ) Q↔Q (b,μ):=W_some
theorem Po:W (aI (.tup [a,b,c,d,e,g]) (.int 0) μ) Q↔Q (a,μ):=W_some
theorem Pp:W (aI (.tup [a,b,c,d,e,g]) (.int 1) μ) Q↔Q (b,μ):=W_some
theorem Pq:W (aI (.tup [a,b,c,d,e,g]) (.int 2) μ) Q↔Q (c,μ):=W_some
theorem Pr:W (aI (.tup [a,b,c,d,e,g]) (.int 3) μ) Q↔Q (d,μ):=W_some
theorem Pt:W (aI (.tup [a,b,c,d,e,g]) (.int 4) μ) Q↔Q (e,μ):=W_some
theorem Pu:W (aI (.tup [a,b,c,d,e,g]) (.int 5) μ) Q↔Q (g,μ):=W_some
theorem kH {b:Bool}{Q:Bool->Prop}:W (jW μ (.bl b)) Q↔Q b:=W_some
theorem Pw {ρ:aG}{i j:Nat}{Q:aG->Prop}:W (cU [i,j] (.tup [a,b]) ρ μ) Q↔Q ((ρ.set i (some a)).set j (some b)):=W_some
end
theorem nZ {μ:Hm}{a:Nat}{xs:List D}{i:Int}{d:D}{Q:D×Hm->Prop}(h:μ[a]? = some (.lst xs))(hi:atI xs i=some d):W (aI (.loc a) (.int i) μ) Q↔Q (d,μ):=by
 have:aI (.loc a) (.int i) μ=some (d,μ):=by
  simp only [aI,eV,bA,h,T3,hi,Ui]
 rw [this]
 exact W_some
theorem Px {μ:Hm}{l:Nat}{a b:D}{ρ:aG}{i j:Nat}{Q:aG->Prop}(h:μ[l]? = some (.lst [a,b])):W (cU [i,j] (.loc l) ρ μ) Q↔Q ((ρ.set i (some a)).set j (some b)):=by
 have:cU [i,j] (.loc l) ρ μ=some ((ρ.set i (some a)).set j (some b)):=by
  simp only [cU,bA,h,T3]
  rfl
 rw [this]
 exact W_some
end L3
namespace L3
open PySem L2
theorem w_iSeq {m:ME}{ρ:aG}{μ:Hm}{Q:fM×Nat×Hm->Prop}:W (cM m ρ μ) Q↔W (m ρ μ) fun p=>W (iX p.2 p.1) fun xs=>Q (iY p.1,xs.length+1,p.2):=by
 unfold cM
 simp only [W_bind,W_map]
theorem fC {it:MI}{g:MG}{b:MS}{ρ:aG}{μ:Hm} {Q}:W (dD it g b ρ μ) Q↔W (it ρ μ) fun p=>W (eP p.1 g b p.2.1 0 ρ p.2.2) Q:=W_bind
theorem yZ {j:Int}{ms:MA}{ρ:aG}{μ:Hm}{Q:fM×Nat×Hm->Prop}:W (lE ms ρ μ) Q↔W (ms ρ μ) fun p=>match p.1 with|[.int j]=>(-(2 ^ 62)<=j/\j<2 ^ 62)/\Q (fJ 0 j.toNat,j.toNat+1,p.2)|_=>False:=by
 unfold lE
 rw [W_bind]
 constructor<;>exact fun h=>bM h fun p q=>by
  obtain ⟨l,μ⟩:=p
  match l,q with
  | [],q=>simpa [W_none] using q
  | [d],q=>
   cases d with
   | int j=>
    first
    | (dsimp only at q;rw [tL] at q;split at q
       ·rename_i hb;exact ⟨hb,W_some.mp q⟩
       ·exact (W_none.mp q).elim)
    | (dsimp only;rw [if_pos q.1];exact W_some.mpr q.2)
   | _=>simpa [W_none] using q
  | a::b::l,q=>simpa [W_none] using q
theorem tP {ms:MA}{ρ:aG}{μ:Hm}{Q:fM×Nat×Hm->Prop}:W (jT ms ρ μ) Q↔W (ms ρ μ) fun p=>match p.1 with|[.int i,.int j]=>(-(2 ^ 62)<=i/\i<2 ^ 62/\-(2 ^ 62)<=j/\j<2 ^ 62)/\Q (fJ i (j - i).toNat,(j - i).toNat+1,p.2)|_=>False:=by
 unfold jT
 rw [W_bind]
 constructor<;>exact fun h=>bM h fun p q=>by
  split at q
  ·rename_i e
   try rw [e]
   first
   | (rw [tL] at q;split at q
      ·rename_i hb;exact ⟨hb,W_some.mp q⟩
      ·exact (W_none.mp q).elim)
   | ((try dsimp only);rw [if_pos q.1];exact W_some.mpr q.2)
  ·first
   | exact (W_none.mp q).elim
   | exact q.elim
theorem qF {src:fM}{g:MG}{b:MS}{N:Nat}{Q:Fl×aG×Hm->Prop}(I:Nat->aG->Hm->Prop)
  (go:∀ i ρ μ,i<N->I i ρ μ->∃ d ρ1,src μ i=some (some d)/\g d ρ μ=some ρ1/\W (b ρ1 μ) fun p=>match p.1 with|.nx=>I (i+1) p.2.1 p.2.2|.ct=>I (i+1) p.2.1 p.2.2|.bk=>Q (.nx,p.2.1,p.2.2)|.rt d=>Q (.rt d,p.2.1,p.2.2))
  (stop:∀ ρ μ,I N ρ μ->src μ N=some none/\Q (.nx,ρ,μ)):∀ (m i:Nat)(ρ:aG)(μ:Hm),i+m=N->I i ρ μ->W (eP src g b (m+1) i ρ μ) Q
 | 0,i,ρ,μ,h,hI=>by
  have:i=N:=by omega
  subst this
  obtain ⟨h1,h2⟩:=stop ρ μ hI
  unfold eP
  rw [h1]
  exact W_some.mpr h2
 | m+1,i,ρ,μ,h,hI=>by
  obtain ⟨d,ρ1,h1,h2,h3⟩:=go i ρ μ (by omega) hI
  unfold eP
  rw [h1]
  simp only [T3,h2]
  rw [W_bind]
  refine bM h3 fun p q=>?_
  obtain ⟨fl,ρ2,μ2⟩:=p
  cases fl with
  | nx=>exact qF I go stop m (i+1) ρ2 μ2 (by omega) q
  | ct=>exact qF I go stop m (i+1) ρ2 μ2 (by omega) q
  | bk=>exact W_some.mpr q
  | rt d=>exact W_some.mpr q
theorem kI {a:Nat}{xs:List D}{g:MG}{b:MS}{ρ:aG}{μ:Hm}{Q:Fl×aG×Hm->Prop}(I:Nat->aG->Hm->Prop)(h0:I 0 ρ μ)(hl:∀ i ρ μ,I i ρ μ->μ[a]? = some (.lst xs))
  (go:∀ i d ρ μ,xs[i]? = some d->I i ρ μ->∃ ρ1,g d ρ μ=some ρ1/\W (b ρ1 μ) fun p=>match p.1 with|.nx=>I (i+1) p.2.1 p.2.2|.ct=>I (i+1) p.2.1 p.2.2|.bk=>Q (.nx,p.2.1,p.2.2)|.rt d=>Q (.rt d,p.2.1,p.2.2))
  (stop:∀ ρ μ,I xs.length ρ μ->Q (.nx,ρ,μ)):W (eP (iY (.loc a)) g b (xs.length+1) 0 ρ μ) Q:=by
 refine qF (N:=xs.length) I (fun i ρ μ hi hI=>?_) (fun ρ μ hI=>⟨?_,stop ρ μ hI⟩) xs.length 0 ρ μ (by omega) h0
 ·have e:xs[i]? = some xs[i]:=T8 hi
  obtain ⟨ρ1,h1,h2⟩:=go i xs[i] ρ μ e hI
  refine ⟨xs[i],ρ1,?_,h1,h2⟩
  simp only [iY,iX,bA,hl i ρ μ hI,Ui,e]
 ·simp only [iY,iX,bA,hl _ ρ μ hI,Ui]
  simp
theorem y8 {lo:Int}{n:Nat}{g:MG}{b:MS}{ρ:aG}{μ:Hm}{Q:Fl×aG×Hm->Prop}(I:Nat->aG->Hm->Prop)(h0:I 0 ρ μ)
  (go:∀ (i:Nat) ρ μ,i<n->I i ρ μ->∃ ρ1,g (.int (lo+i)) ρ μ=some ρ1/\W (b ρ1 μ) fun p=>match p.1 with|.nx=>I (i+1) p.2.1 p.2.2|.ct=>I (i+1) p.2.1 p.2.2|.bk=>Q (.nx,p.2.1,p.2.2)|.rt d=>Q (.rt d,p.2.1,p.2.2))
  (stop:∀ ρ μ,I n ρ μ->Q (.nx,ρ,μ)):W (eP (fJ lo n) g b (n+1) 0 ρ μ) Q:=by
 refine qF (N:=n) I (fun i ρ μ hi hI=>?_) (fun ρ μ hI=>⟨?_,stop ρ μ hI⟩) n 0 ρ μ (by omega) h0
 ·obtain ⟨ρ1,h1,h2⟩:=go i ρ μ hi hI
  exact ⟨_,ρ1,by simp only [fJ,if_pos hi],h1,h2⟩
 ·simp only [fJ,VO,if_false]
theorem y9 {μ:Hm}{a:Nat}{ys:List D}{y:D}(h:μ[a]? = some (.lst ys))(hl:ys.length<TL):mQ μ a y=some (μ.set a (.lst (ys++[y]))):=by
 unfold mQ
 rw [h]
 exact if_pos hl
theorem zA {src:fM}{c:MT}{e:ME}{ρ:aG}{μ0:Hm}{xs:List D}{p:D->Bool}{v:D->D}{Q:Hm->Prop}(hs:∀ μ i,μ0 <+: μ->src μ i=some xs[i]?)(hl:xs.length<=TL)
  (hc:∀ d μ,d∈xs->μ0 <+: μ->W (c (ρ++[some d]) μ) fun r=>r.1=p d/\μ <+: r.2)
  (he:∀ d μ,d∈xs->p d=true->μ0 <+: μ->W (e (ρ++[some d]) μ) fun r=>r.1=v d/\μ <+: r.2)
  (fin:∀ μ,μ0 <+: μ->μ[μ0.length]? = some (.lst ((xs.filter p).map v))->Q μ) :
  ∀ (m i:Nat)(μ:Hm),i+m=xs.length->μ0 <+: μ->μ[μ0.length]? = some (.lst (((xs.take i).filter p).map v))->W (fK src oZ c e ρ μ0.length (m+1) i μ) Q
 | 0,i,μ,hi,hp,ha=>by
  have:i=xs.length:=by omega
  subst this
  unfold fK
  rw [hs μ _ hp]
  rw [Yj (TK _)]
  simp only [T3]
  refine W_some.mpr (fin μ hp ?_)
  simpa using ha
 | m+1,i,μ,hi,hp,ha=>by
  have hlt:i<xs.length:=by omega
  have hx:xs[i]? = some xs[i]:=T8 hlt
  have hmem:xs[i]∈xs:=Y9 hlt
  unfold fK
  rw [hs μ _ hp,hx]
  simp only [T3,oZ]
  rw [W_bind]
  refine bM (hc _ μ hmem hp) fun r q=>?_
  obtain ⟨b,μ1⟩:=r
  obtain ⟨q1,q2⟩:=q
  dsimp only at q1 q2 ⊢
  subst q1
  have htake:xs.take (i+1)=xs.take i++[xs[i]]:=by rw [XC,hx];rfl
  have ha1:=aY q2 ha
  cases hpd:p xs[i] with
  | false=>
   refine zA hs hl hc he fin m (i+1) μ1 (by omega) (hp.trans q2) ?_
   rw [ha1,htake,VP]
   simp [hpd]
  | true=>
   dsimp only
   rw [W_bind]
   refine bM (he _ μ1 hmem hpd (hp.trans q2)) fun r q=>?_
   obtain ⟨y,μ2⟩:=r
   obtain ⟨q3,q4⟩:=q
   dsimp only at q3 q4 ⊢
   subst q3
   have ha2:=aY q4 ha1
   have hlen:(((xs.take i).filter p).map v).length<TL:=by
    have h1:=U5 p (xs.take i)
    rw [Tt]
    rw [V2] at h1
    omega
   rw [y9 ha2 hlen,T3]
   have hp2:μ0 <+: μ2:=(hp.trans q2).trans q4
   refine zA hs hl hc he fin m (i+1) _ (by omega) (gC hp2 (TK _) _) ?_
   rw [UD (Tw.mp ha2).1,htake,VP]
   simp [hpd]
theorem gD {it:MI}{c:MT}{e:ME}{ρ:aG}{μ:Hm}{xs:List D}{p:D->Bool}{v:D->D}{Q:D×Hm->Prop}
  (hit:W (it ρ μ) fun r=>(∀ μ' i,r.2.2 <+: μ'->r.1 μ' i=some xs[i]?)/\r.2.1=xs.length+1/\xs.length<=TL /\
   (∀ d μ',d∈xs->r.2.2 <+: μ'->W (c (ρ++[some d]) μ') fun s=>s.1=p d/\μ' <+: s.2)/\(∀ d μ',d∈xs->p d=true->r.2.2 <+: μ'->W (e (ρ++[some d]) μ') fun s=>s.1=v d/\μ' <+: s.2) /\
   ∀ μ',r.2.2 <+: μ'->μ'[r.2.2.length]? = some (.lst ((xs.filter p).map v))->Q (.loc r.2.2.length,μ')):W (eQ it c e ρ μ) Q:=by
 unfold eQ iZ
 rw [W_bind]
 refine bM hit fun r q=>?_
 obtain ⟨src,n,μ1⟩:=r
 obtain ⟨h1,h2,h3,h4,h5,h6⟩:=q
 dsimp only at h1 h2 h3 h4 h5 h6 ⊢
 subst h2
 rw [W_map]
 exact zA h1 h3 h4 h5 h6 xs.length 0 (μ1++[.lst []]) (by omega) (aZ _ _) (by simp)
theorem jG {μ:Hm}{a:Nat}{xs:List D}(h:μ[a]? = some (.lst xs)):∀ μ' i,μ <+: μ'->iY (.loc a) μ' i=some xs[i]?:=fun μ' i hp=>by
 simp only [iY,iX,bA,aY hp h,Ui]
theorem Py {xs:List D}{μ:Hm}:∀ μ' i,μ <+: μ'->iY (.tup xs) μ' i=some xs[i]?:=fun μ' i hp=>rfl
noncomputable def fR (lo:Int)(n:Nat):List D:=(UB n).map fun (i:Nat)=>.int (lo+(i:Int))
theorem D4 {lo:Int}{n:Nat}{μ:Hm}:∀ μ' i,μ <+: μ'->fJ lo n μ' i=some (fR lo n)[i]?:=fun μ' i _=>by
 unfold fJ fR
 rw [Uu]
 by_cases h:i<n
 ·rw [if_pos h,List.getElem?_range h];rfl
 ·rw [if_neg h,Yj (by simpa using XI.mp h)];rfl
noncomputable abbrev P (x y:Int):D:=.tup [.int x,.int y]
noncomputable abbrev PP (p:Int×Int):D:=P p.1 p.2
theorem zB (n:Nat)(μ:Hm)(p q:Int×Int):cA (n+2) μ (PP p) (PP q)=some (p == q):=by
 obtain ⟨a,b⟩:=p
 obtain ⟨c,d⟩:=q
 show some (a == c&&(b == d&&true))=some ((a,b) == (c,d))
 rw [a2f]
 rfl
theorem D5 (n:Nat)(μ:Hm):∀ ps qs:List (Int×Int),fX (cA (n+2) μ) (ps.map PP) (qs.map PP)=some (ps == qs)
 | [],[]=>rfl
 | [],_::_=>rfl
 | _::_,[]=>rfl
 | p::ps,q::qs=>by
  rw [T4,T4]
  show (cA (n+2) μ (PP p) (PP q)).bind (fun b=>(fX (cA (n+2) μ) (ps.map PP) (qs.map PP)).map fun c=>b&&c)=_
  rw [zB,D5 n μ ps qs]
  rfl
theorem Pz {μ:Hm}{a b:Nat}{ps qs:List (Int×Int)}(ha:μ[a]? = some (.lst (ps.map PP)))(hb:μ[b]? = some (.lst (qs.map PP))):cA 8 μ (.loc a) (.loc b)=some (ps == qs):=by
 have h1:eN μ (.loc a)=some (.lst (ps.map PP)):=by simp only [eN,ha]
 have h2:eN μ (.loc b)=some (.lst (qs.map PP)):=by simp only [eN,hb]
 show (eN μ (.loc a)).bind (fun x=>(eN μ (.loc b)).bind fun y=>iA (cA 7 μ) x y)=_
 rw [h1,h2]
 exact D5 5 μ ps qs
theorem PB {μ:Hm}{a b:Nat}{ps qs:List (Int×Int)}{ne:Bool}{Q:D×Hm->Prop}(ha:μ[a]? = some (.lst (ps.map PP)))(hb:μ[b]? = some (.lst (qs.map PP))):W (aR ne (.loc a) (.loc b) μ) Q↔Q (.bl (if ne then !(ps == qs) else ps == qs),μ):=by
 unfold aR
 rw [Pz ha hb]
 exact W_some
theorem D6 (n:Nat)(μ:Hm):∀ ps qs:List Int,fX (cA (n+1) μ) (ps.map D.int) (qs.map D.int)=some (ps == qs)
 | [],[]=>rfl
 | [],_::_=>rfl
 | _::_,[]=>rfl
 | p::ps,q::qs=>by
  rw [T4,T4]
  show (cA (n+1) μ (.int p) (.int q)).bind (fun b=>(fX (cA (n+1) μ) (ps.map D.int) (qs.map D.int)).map fun c=>b&&c)=_
  rw [D6 n μ ps qs]
  rfl
theorem tQ {μ:Hm}{a b:Nat}{xs ys:List D}{Q:D×Hm->Prop}(ha:μ[a]? = some (.lst xs))(hb:μ[b]? = some (.lst ys))(hl:xs.length+ys.length<=TL):W (bE (.loc a) (.loc b) μ) Q↔Q (.loc μ.length,μ++[.lst (xs++ys)]):=by
 simp only [bE,ha,hb,if_pos hl]
 exact W_some
theorem jH {f:D->List D->Hm->Option (D×Hm)}{mo:ME}{ms:MA}{ρ:aG}{μ:Hm}{Q:D×Hm->Prop}(h:W (mo ρ μ) fun p=>mY p.2 p.1=true/\W (ms ρ p.2) fun q=>W (f p.1 q.1 q.2) Q):W (cV f mo ms ρ μ) Q:=by
 unfold cV
 rw [W_bind]
 refine bM h fun p q=>?_
 rw [q.1]
 exact W_bind.mpr q.2
theorem jI {μ:Hm}{a:Nat}{xs:List D}(h:μ[a]? = some (.lst xs)):mY μ (.loc a)=true:=by
 simp only [mY,h]
theorem n6 {μ:Hm}{a:Nat}{xs:List D}{y:D}{Q:D×Hm->Prop}(h:μ[a]? = some (.lst xs))(hl:xs.length<TL):W (d4 (.loc a) [y] μ) Q↔Q (.non,μ.set a (.lst (xs++[y]))):=by
 simp only [d4,y9 h hl,Ui]
 exact W_some
theorem PC {μ:Hm}{a b:Nat}{xs ys:List D}{Q:D×Hm->Prop}(h:μ[a]? = some (.lst xs))(h2:μ[b]? = some (.lst ys))(hl:xs.length+ys.length<=TL):W (mZ (.loc a) [.loc b] μ) Q↔Q (.non,μ.set a (.lst (xs++ys))):=by
 simp only [mZ,h,h2,if_pos hl]
 exact W_some
theorem PD {μ:Hm}{i:Int}{Q:D×Hm->Prop}:W (k6 [.int i,.ty "bool"] μ) Q↔Q (.bl false,μ):=W_some
theorem PF {μ:Hm}{i:Int}{Q:D×Hm->Prop}:W (k6 [.int i,.ty "int"] μ) Q↔Q (.bl true,μ):=W_some
theorem n8 {μ:Hm}{a:Nat}{xs:List D}{Q:D×Hm->Prop}(h:μ[a]? = some (.lst xs)):W (d6 [.loc a] μ) Q↔Q (.int xs.length,μ):=by
 simp only [d6,pD,bA,h,Ui]
 exact W_some
theorem D7 {μ:Hm}{xs:List D}{Q:D×Hm->Prop}:W (d6 [.rol xs] μ) Q↔Q (.int xs.length,μ):=W_some
theorem eE {μ:Hm}{a:Nat}{xs:List D}{Q:List D->Prop}(h:μ[a]? = some (.lst xs)):W (iX μ (.loc a)) Q↔Q xs:=by
 simp only [iX,bA,h]
 exact W_some
theorem w_seqT {μ:Hm}{xs:List D}{Q:List D->Prop}:W (iX μ (.tup xs)) Q↔Q xs:=W_some
theorem tR {ρ:aG}{μ:Hm}{Q:Option Int×Hm->Prop}:W (iT ρ μ) Q↔Q (none,μ):=W_some
theorem tS {m:ME}{ρ:aG}{μ:Hm}{Q:Option Int×Hm->Prop}:W (hZ m ρ μ) Q↔W (m ρ μ) fun p=>match p.1 with|.int i=>Q (some i,p.2)|_=>False:=by
 unfold hZ
 rw [W_bind]
 constructor<;>exact fun h=>bM h fun p q=>by
  obtain ⟨d,μ⟩:=p
  cases d<;>simpa [W_some,W_none] using q
theorem D8 {a:ME}{lo hi:MO}{ρ:aG}{μ:Hm}{Q:D×Hm->Prop}(h:W (a ρ μ) fun p=>∃ l,p.1=.loc l/\W (lo ρ p.2) fun q=>W (hi ρ q.2) fun r=>∃ xs,r.2[l]? = some (.lst xs)/\Q (.loc r.2.length,r.2++[.lst (hX xs q.1 r.1)])):W (kY a lo hi ρ μ) Q:=by
 unfold kY
 rw [W_bind]
 refine bM h fun p q=>?_
 obtain ⟨d,μ1⟩:=p
 obtain ⟨l,q1,q2⟩:=q
 dsimp only at q1 q2 ⊢
 subst q1
 rw [W_bind]
 refine bM q2 fun s q=>?_
 rw [W_bind]
 refine bM q fun r q=>?_
 obtain ⟨xs,q3,q4⟩:=q
 simp only [bA,q3,T3]
 exact W_some.mpr q4
theorem bI (μ:Hm)(c:C):(μ++[c])[μ.length]? = some c:=by simp
end L3
namespace L3
open PySem L2
theorem PH {f g:D->D->Hm->Option (D×Hm)}{a b c:ME}{ρ:aG}{μ:Hm} {Q}:W (jA f g a b c ρ μ) Q↔W (a ρ μ) fun p=>W (b ρ p.2) fun q=>W (f p.1 q.1 q.2) fun r=>match r.1 with|.bl k=>if k=true then W (c ρ r.2) fun t=>W (g q.1 t.1 t.2) Q else Q (.bl false,r.2)|_=>False:=by
 unfold jA
 simp only [W_bind]
 constructor<;>exact fun h=>bM h fun p q=>bM q fun q1 h1=>bM h1 fun r h2=>by
  obtain ⟨d,μ⟩:=r
  cases d with
  | bl k=>cases k<;>simpa [W_some,W_bind] using h2
  | _=>simpa [W_none] using h2
section
variable {i j:Int}{μ:Hm}{Q:D×Hm->Prop}
theorem PJ:W (d5 false .non .non μ) Q↔Q (.bl true,μ):=W_some
theorem PK:W (d5 true .non .non μ) Q↔Q (.bl false,μ):=W_some
theorem PL {a:Nat}:W (d5 false (.loc a) .non μ) Q↔Q (.bl false,μ):=W_some
theorem PM {xs:List D}:W (d5 false (.tup xs) .non μ) Q↔Q (.bl false,μ):=W_some
theorem PN {xs:List D}:W (d5 true (.tup xs) .non μ) Q↔Q (.bl true,μ):=W_some
theorem zC:∀ is:List Int,jU (is.map D.int)=some is
 | []=>rfl
 | i::is=>by
  show (jU (is.map D.int)).map (i::·)=_
  rw [zC is];rfl
theorem D9 {a:Nat}{is:List Int}(h:μ[a]? = some (.lst (is.map D.int))):W (lQ [.loc a] μ) Q↔Q (.int is.sum,μ):=by
 simp only [lQ,bA,h,T3,zC,Ui]
 exact W_some
theorem PQ {a:Nat}{bs:List Bool}(h:μ[a]? = some (.lst (bs.map D.bl))):W (rW [.loc a] μ) Q↔Q (.bl (bs.all id),μ):=by
 have e:∀ bs:List Bool,i8 (bs.map D.bl)=some bs:=fun bs=>by
  induction bs with
  | nil=>rfl
  | cons b bs ih=>
   show (i8 (bs.map D.bl)).map (b::·)=_
   rw [ih];rfl
 simp only [rW,bA,h,T3,e,Ui]
 exact W_some
end
theorem Ea {a:ME}{lo hi st:MO}{ρ:aG}{μ:Hm}{Q:D×Hm->Prop}(h:W (a ρ μ) fun p=>∃ l,p.1=.loc l/\W (lo ρ p.2) fun q=>W (hi ρ q.2) fun r=>W (st ρ r.2) fun t=>t.1≠some 0/\∃ xs,t.2[l]? = some (.lst xs)/\(dW xs q.1 r.1 t.1).length<=TL/\Q (.loc t.2.length,t.2++[.lst (dW xs q.1 r.1 t.1)])):W (nH a lo hi st ρ μ) Q:=by
 unfold nH
 rw [W_bind]
 refine bM h fun p q=>?_
 obtain ⟨d,μ1⟩:=p
 obtain ⟨l,q1,q2⟩:=q
 dsimp only at q1 q2 ⊢
 subst q1
 rw [W_bind]
 refine bM q2 fun s q=>?_
 rw [W_bind]
 refine bM q fun r q=>?_
 rw [W_bind]
 refine bM q fun t q=>?_
 obtain ⟨h0,xs,q3,q4,q5⟩:=q
 rw [if_pos h0]
 simp only [dR,q3,T3]
 rw [if_pos q4]
 exact W_some.mpr q5
theorem Eb {ms:MA}{ρ:aG}{μ:Hm}{Q:fM×Nat×Hm->Prop}(h:W (ms ρ μ) fun p=>∃ a xs,p.1=[.loc a]/\p.2[a]? = some (.lst xs)/\Q (nI (.loc a),xs.length+1,p.2)):W (lR ms ρ μ) Q:=by
 unfold lR
 rw [W_bind]
 refine bM h fun p q=>?_
 obtain ⟨l,μ1⟩:=p
 obtain ⟨a,xs,q1,q2,q3⟩:=q
 dsimp only at q1 q2 q3 ⊢
 subst q1
 dsimp only
 simp only [dR,q2,Ui]
 exact W_some.mpr q3
theorem zD {a:Nat}{xs:List D}{g:MG}{b:MS}{ρ:aG}{μ:Hm}{Q:Fl×aG×Hm->Prop}(I:Nat->aG->Hm->Prop)(h0:I 0 ρ μ)(hl:∀ i ρ μ,I i ρ μ->μ[a]? = some (.lst xs))
  (go:∀ (i:Nat) d ρ μ,xs[i]? = some d->I i ρ μ->∃ ρ1,g (.tup [.int i,d]) ρ μ=some ρ1/\W (b ρ1 μ) fun p=>match p.1 with|.nx=>I (i+1) p.2.1 p.2.2|.ct=>I (i+1) p.2.1 p.2.2|.bk=>Q (.nx,p.2.1,p.2.2)|.rt d=>Q (.rt d,p.2.1,p.2.2))
  (stop:∀ ρ μ,I xs.length ρ μ->Q (.nx,ρ,μ)):W (eP (nI (.loc a)) g b (xs.length+1) 0 ρ μ) Q:=by
 refine qF (N:=xs.length) I (fun i ρ μ hi hI=>?_) (fun ρ μ hI=>⟨?_,stop ρ μ hI⟩) xs.length 0 ρ μ (by omega) h0
 ·have e:xs[i]? = some xs[i]:=T8 hi
  obtain ⟨ρ1,h1,h2⟩:=go i xs[i] ρ μ e hI
  refine ⟨_,ρ1,?_,h1,h2⟩
  simp only [nI,bA,hl i ρ μ hI,Ui,e]
 ·simp only [nI,bA,hl _ ρ μ hI,Ui]
  simp
theorem zE {src:fM}{bd:BD}{c:MT}{e:ME}{ρ:aG}{a N:Nat}{Q:Hm->Prop}(I:Nat->List D->Hm->Prop)(hN:N<=TL)(hlen:∀ i ys μ,I i ys μ->ys.length<=i)
  (go:∀ i ys μ,i<N->I i ys μ->μ[a]? = some (.lst ys)->∃ d x,src μ i=some (some d)/\bd d μ=some x/\W (c (ρ++x) μ) fun r=>(r.1=false->r.2[a]? = some (.lst ys)/\I (i+1) ys r.2) /\
   (r.1=true->W (e (ρ++x) r.2) fun s=>s.2[a]? = some (.lst ys)/\I (i+1) (ys++[s.1]) (s.2.set a (.lst (ys++[s.1])))))
  (stop:∀ ys μ,I N ys μ->μ[a]? = some (.lst ys)->src μ N=some none/\Q μ):∀ (m i:Nat)(ys:List D)(μ:Hm),i+m=N->I i ys μ->μ[a]? = some (.lst ys)->W (fK src bd c e ρ a (m+1) i μ) Q
 | 0,i,ys,μ,h,hI,hg=>by
  have:i=N:=by omega
  subst this
  obtain ⟨h1,h2⟩:=stop ys μ hI hg
  unfold fK
  rw [h1]
  exact W_some.mpr h2
 | m+1,i,ys,μ,h,hI,hg=>by
  obtain ⟨d,x,h1,h2,h3⟩:=go i ys μ (by omega) hI hg
  unfold fK
  rw [h1]
  simp only [T3,h2]
  rw [W_bind]
  refine bM h3 fun r q=>?_
  obtain ⟨b,μ1⟩:=r
  cases b with
  | false=>
   obtain ⟨q1,q2⟩:=q.1 rfl
   exact zE I hN hlen go stop m (i+1) ys μ1 (by omega) q2 q1
  | true=>
   dsimp only
   rw [W_bind]
   refine bM (q.2 rfl) fun s q=>?_
   obtain ⟨y,μ2⟩:=s
   obtain ⟨q1,q2⟩:=q
   dsimp only at q1 q2 ⊢
   have hl:=hlen i ys μ hI
   rw [y9 q1 (by omega),T3]
   refine zE I hN hlen go stop m (i+1) _ _ (by omega) q2 ?_
   rw [UD (Tw.mp q1).1]
theorem PR {src:fM}{bd:BD}{c:MT}{e:ME}{ρ:aG}{μ0:Hm}{xs:List D}{x:D->aG}{p:D->Bool}{v:D->D}{Q:Hm->Prop}(hs:∀ μ i,μ0 <+: μ->src μ i=some xs[i]?)(hl:xs.length<=TL)(hb:∀ d μ,d∈xs->bd d μ=some (x d))
  (hc:∀ d μ,d∈xs->μ0 <+: μ->W (c (ρ++x d) μ) fun r=>r.1=p d/\μ <+: r.2)
  (he:∀ d μ,d∈xs->p d=true->μ0 <+: μ->W (e (ρ++x d) μ) fun r=>r.1=v d/\μ <+: r.2)
  (fin:∀ μ,μ0 <+: μ->μ[μ0.length]? = some (.lst ((xs.filter p).map v))->Q μ):W (fK src bd c e ρ μ0.length (xs.length+1) 0 (μ0++[.lst []])) Q:=by
 refine zE (N:=xs.length) (fun i ys μ=>ys=((xs.take i).filter p).map v/\μ0 <+: μ) hl ?_ ?_ ?_ xs.length 0 [] _ (by omega) ⟨by simp,aZ _ _⟩ (by simp)
 ·rintro i ys μ ⟨rfl,_⟩
  rw [Tt]
  refine UU (U5 _ _) ?_
  rw [V2];omega
 ·rintro i ys μ hi ⟨rfl,hp⟩ hg
  have hx:xs[i]? = some xs[i]:=T8 hi
  have hmem:xs[i]∈xs:=Y9 hi
  have htake:xs.take (i+1)=xs.take i++[xs[i]]:=by rw [XC,hx];rfl
  refine ⟨xs[i],x xs[i],by rw [hs μ i hp,hx],hb _ _ hmem,bM (hc _ μ hmem hp) fun r q=>?_⟩
  obtain ⟨b,μ1⟩:=r
  obtain ⟨q1,q2⟩:=q
  dsimp only at q1 q2 ⊢
  refine ⟨fun hb'=>⟨aY q2 hg,?_,hp.trans q2⟩,fun hb'=>?_⟩
  ·rw [htake,VP]
   rw [hb'] at q1
   simp [<- q1]
  ·rw [hb'] at q1
   refine bM (he _ μ1 hmem q1.symm (hp.trans q2)) fun s q=>?_
   obtain ⟨y,μ2⟩:=s
   obtain ⟨q3,q4⟩:=q
   dsimp only at q3 q4 ⊢
   subst q3
   refine ⟨aY (q2.trans q4) hg,?_,gC ((hp.trans q2).trans q4) (TK _) _⟩
   rw [htake,VP,UH]
   simp [<- q1]
 ·rintro ys μ ⟨rfl,hp⟩ hg
  refine ⟨by rw [hs μ _ hp];simp,fin μ hp ?_⟩
  rw [W3] at hg
  exact hg
theorem PU {bd:BD}{it:MI}{c:MT}{e:ME}{ρ:aG}{μ:Hm}{xs:List D}{x:D->aG}{p:D->Bool}{v:D->D}{Q:D×Hm->Prop}
  (hit:W (it ρ μ) fun r=>(∀ μ' i,r.2.2 <+: μ'->r.1 μ' i=some xs[i]?)/\r.2.1=xs.length+1/\xs.length<=TL/\(∀ d μ',d∈xs->bd d μ'=some (x d)) /\
   (∀ d μ',d∈xs->r.2.2 <+: μ'->W (c (ρ++x d) μ') fun s=>s.1=p d/\μ' <+: s.2)/\(∀ d μ',d∈xs->p d=true->r.2.2 <+: μ'->W (e (ρ++x d) μ') fun s=>s.1=v d/\μ' <+: s.2) /\
   ∀ μ',r.2.2 <+: μ'->μ'[r.2.2.length]? = some (.lst ((xs.filter p).map v))->Q (.loc r.2.2.length,μ')):W (iZ bd it c e ρ μ) Q:=by
 unfold iZ
 rw [W_bind]
 refine bM hit fun r q=>?_
 obtain ⟨src,n,μ1⟩:=r
 obtain ⟨h1,h2,h3,h4,h5,h6,h7⟩:=q
 dsimp only at h1 h2 h3 h4 h5 h6 h7 ⊢
 subst h2
 rw [W_map]
 exact PR h1 h3 h4 h5 h6 h7
theorem w_mTrue {ρ:aG}{μ:Hm}{Q:Bool×Hm->Prop}:W (gU ρ μ) Q↔Q (true,μ):=W_some
theorem zF {o i v:ME}{ρ:aG}{μ:Hm} {Q}:W (jC o i v ρ μ) Q↔W (v ρ μ) fun p=>W (o ρ p.2) fun q=>W (i ρ q.2) fun r=>W (nJ q.1 r.1 p.1 r.2) fun μ'=>Q (.nx,ρ,μ'):=by
 unfold jC lS
 simp only [W_bind,W_map]
theorem PV {ms:MA}{ρ:aG}{μ:Hm}{Q:fM×Nat×Hm->Prop}(h:W (ms ρ μ) fun p=>∃ a b xs ys,p.1=[.loc a,.loc b]/\p.2[a]? = some (.lst xs)/\p.2[b]? = some (.lst ys)/\Q (pP (.loc a) (.loc b),min xs.length ys.length+1,p.2)):W (pQ ms ρ μ) Q:=by
 unfold pQ
 rw [W_bind]
 refine bM h fun p q=>?_
 obtain ⟨a,b,xs,ys,e,ha,hb,q⟩:=q
 rw [e]
 simp only [dR,ha,hb,T3,Ui]
 exact W_some.mpr q
theorem Ec {μ:Hm}{a:Nat}{xs:List D}{Q:D×Hm->Prop}(h:μ[a]? = some (.lst xs)):W (nR [.loc a] μ) Q↔Q (.tup xs,μ):=by
 simp only [nR,bA,h,Ui]
 exact W_some
section
variable {μ:Hm}{a:Nat}{kvs:List (List Int×D)}{k:List Int}{d y:D}{ρ:aG}{Q:D×Hm->Prop}
theorem PX:W (sM ρ μ) Q↔Q (.loc μ.length,μ++[.dT []]):=W_some
theorem lZ (h:μ[a]? = some (.dT kvs))(hk:dZ y=some k)(hv:bJ kvs k=some d):W (aI (.loc a) y μ) Q↔Q (d,μ):=by
 simp only [aI,h,hk,T3,hv,Ui]
 exact W_some
theorem zG {neg:Bool}(h:μ[a]? = some (.dT kvs))(hk:dZ y=some k):W (cP neg y (.loc a) μ) Q↔Q (.bl (if neg then !(bJ kvs k).isSome else (bJ kvs k).isSome),μ):=by
 have:cP neg y (.loc a) μ=some (.bl (if neg then !(bJ kvs k).isSome else (bJ kvs k).isSome),μ):=by
  simp only [cP,h,hk,Ui]
 rw [this]
 exact W_some
theorem zH {Q:Hm->Prop}(h:μ[a]? = some (.dT kvs))(hk:dZ y=some k)(hl:kvs.length<TL):W (nJ (.loc a) y d μ) Q↔Q (μ.set a (.dT (cN kvs k d))):=by
 simp only [nJ,pL,h,hk,T3,if_pos hl]
 exact W_some
theorem PY (h:μ[a]? = some (.dT kvs)):W (d6 [.loc a] μ) Q↔Q (.int kvs.length,μ):=by
 simp only [d6,h]
 exact W_some
theorem Ed (h:μ[a]? = some (.dT kvs)):W (lY [.loc a] μ) Q↔Q (.loc μ.length,μ++[.lst (kvs.map fun k=>D.tup (k.1.map D.int))]):=by
 simp only [lY,h]
 exact W_some
end
theorem PZ {μ:Hm}{a:Nat}{is:List Int}{Q:D×Hm->Prop}(h:μ[a]? = some (.lst (is.map D.int)))(hl:is.length<64):W (iF [.loc a] μ) Q↔Q (.loc μ.length,μ++[.lst ((e8 is).map D.int)]):=by
 have:lT [.loc a] μ=some (.loc μ.length,μ++[.lst ((e8 is).map D.int)]):=by
  simp only [lT,dR,h,T3,zC]
  rw [if_pos hl]
 simp only [iF,this]
 exact W_some
theorem P0 {z:Str}{i:Int}{c:Nat}{μ:Hm}{Q:D×Hm->Prop}(hz:z.length<=TL)(h:atI z.cps.toList i=some c):W (aI (.str z) (.int i) μ) Q↔Q (.str ⟨#[c]⟩,μ):=by
 have:aI (.str z) (.int i) μ=some (.str ⟨#[c]⟩,μ):=by
  simp only [aI,eV]
  rw [if_pos hz,h];rfl
 rw [this]
 exact W_some
theorem P1 {μ:Hm}{b:Bool}{Q:D×Hm->Prop}:W (mS [.bl b] μ) Q↔Q (.int (if b then 1 else 0),μ):=by
 cases b<;>exact W_some
theorem P2 {m mh:MS}{r:MR}{sup:Str->Option Bool}{i:Nat}{ρ ρ1:aG}{μ μ1:Hm}{x:Xn}{Q:Fl×aG×Hm->Prop}(h:r ρ μ=some (x,ρ1,μ1))(hs:sup x.1=some true) :
  W (nB m r sup i mh ρ μ) Q↔W (mh (ρ1.set i (some (.loc μ1.length))) (μ1++[C.exc x.1 (x.2.map (·.1)) (x.2.map (·.2))])) fun q=>Q (q.1,q.2.1.set i none,q.2.2):=by
 unfold nB
 rw [h]
 dsimp only
 rw [if_pos hs]
 exact W_map
theorem P4 {at':Str}{ok:Str->Bool}{m:ME}{ρ:aG}{μ:Hm}{Q:D×Hm->Prop}:W (i9 at' ok m ρ μ) Q↔W (m ρ μ) fun p=>∃ a x ns ds d,p.1=.loc a/\p.2[a]? = some (.exc x ns ds)/\ok x=true/\(ns.zip ds).lookup at'=some d/\Q (d,p.2):=by
 unfold i9
 rw [W_bind]
 constructor
 ·rintro ⟨p,h,a,h1,h2⟩
  refine ⟨p,h,?_⟩
  split at h1
  ·rename_i a' ha
   split at h1
   ·rename_i x ns ds hx
    split at h1
    ·rename_i ho
     obtain ⟨d,hd,rfl⟩:=Tq.mp h1
     exact ⟨a',x,ns,ds,d,ha,hx,ho,hd,h2⟩
    ·cases h1
   ·cases h1
  ·cases h1
 ·rintro ⟨p,h,a,x,ns,ds,d,h1,h2,h3,h4,h5⟩
  refine ⟨p,h,_,?_,h5⟩
  rw [h1]
  dsimp only
  rw [h2]
  dsimp only
  rw [if_pos h3,h4]
  rfl
theorem P5 {sup:Str->Option Bool}{m:ME}{ρ:aG}{μ:Hm}{Q:D×Hm->Prop}:W (cQ sup m ρ μ) Q↔W (m ρ μ) fun p=>∃ a x ns ds b,p.1=.loc a/\p.2[a]? = some (.exc x ns ds)/\sup x=some b/\Q (.bl b,p.2):=by
 unfold cQ
 rw [W_bind]
 constructor
 ·rintro ⟨p,h,a,h1,h2⟩
  refine ⟨p,h,?_⟩
  split at h1
  ·rename_i a' ha
   split at h1
   ·rename_i x ns ds hx
    obtain ⟨b,hb,rfl⟩:=Tq.mp h1
    exact ⟨a',x,ns,ds,b,ha,hx,hb,h2⟩
   ·cases h1
  ·cases h1
 ·rintro ⟨p,h,a,x,ns,ds,b,h1,h2,h3,h5⟩
  refine ⟨p,h,_,?_,h5⟩
  rw [h1]
  dsimp only
  rw [h2]
  dsimp only
  rw [h3]
  rfl
theorem w_rCall {r:RF}{ms:MA}{ρ:aG}{μ:Hm}{Q:Xn×aG×Hm->Prop}:W (lM r ms ρ μ) Q↔W (ms ρ μ) fun p=>W (r p.1 p.2) fun q=>Q (q.1,ρ,q.2):=by
 unfold lM
 rw [W_bind]
 exact ⟨fun ⟨p,h,k⟩=>⟨p,h,W_map.mp k⟩,fun ⟨p,h,k⟩=>⟨p,h,W_map.mpr k⟩⟩
theorem w_rRaiseI {x a:Str}{m:ME}{ρ:aG}{μ:Hm}{Q:Xn×aG×Hm->Prop}:W (pH x a m ρ μ) Q↔W (m ρ μ) fun p=>Q ((x,[(a,p.1)]),ρ,p.2):=by
 unfold pH
 exact W_map
theorem w_rIf {t:MT}{ra rb:MR}{ρ:aG}{μ:Hm}{Q:Xn×aG×Hm->Prop}:W (pF t ra rb ρ μ) Q↔W (t ρ μ) fun p=>W (if p.1=true then ra ρ p.2 else rb ρ p.2) Q:=by
 unfold pF
 exact W_bind
theorem tT {m:MS}{ra rb:MR}{ρ:aG}{μ:Hm}{Q:Xn×aG×Hm->Prop}(h:W (ra ρ μ) Q):W (dU m ra rb ρ μ) Q:=by
 obtain ⟨p,h1,h2⟩:=h
 refine ⟨p,?_,h2⟩
 unfold dU
 rw [h1]
theorem P6 {m:MS}{ra rb:MR}{ρ:aG}{μ:Hm}{Q:Xn×aG×Hm->Prop}(h:ra ρ μ=none)(k:W (m ρ μ) fun p=>p.1=.nx/\W (rb p.2.1 p.2.2) Q):W (dU m ra rb ρ μ) Q:=by
 obtain ⟨⟨f,ρ1,μ1⟩,h1,h2,p,h3,h4⟩:=k
 cases h2
 refine ⟨p,?_,h4⟩
 unfold dU
 rw [h,h1]
 exact h3
theorem Ee {o:Option (Xn×aG×Hm)}{Q:Xn×Hm->Prop}:W (yT o) Q↔W o fun p=>Q (p.1,p.2.2):=W_map
end L3
namespace Lw
open PySem L2 L3
noncomputable def ds:List (Str×Stmt):=(("is_whole",aL 18)::("is_corner",aL 19)::("is_edge",aL 20)::("is_quarter",aL 21)::("line_of",aL 22)::("beside",aL 23)::("edges_of",aL 24)::("moved_by",aL 25)::("edges_round",aL 26)::("number_by",aL 27)::("mirrored",aL 28)::("is_within",aL 30)::("places_within",aL 31)::("quarters_in",aL 32)::("corners_in",aL 33)::("neighbours_in",aL 34)::("marks_in",aL 35)::("is_good",aL 37)::("creases_at",aL 39)::("gaps_at",aL 40)::("barred",aL 41)::("check_corners",aL 42)::("laying_by",aL 45)::("mirror_in",aL 46)::("led",aL 47)::("then",aL 48)::("laid",aL 50)::("_law_cell",aL 52)::("_law_inner",aL 53)::("_law_line",aL 54)::("_law_beside",aL 55)::("_law_quarters",aL 56)::("_law_led",aL 57)::("_law_over",aL 58)::("_law_value",aL 59)::("_law_grown",aL 60)::("_law_by_lines",aL 61)::("_law_creased",aL 62)::("_law_sheet",aL 63)::("_law_others",aL 64)::("_law_refused",aL 65)::("law",aL 66)::[])
noncomputable def Ef:D:=(.tup [(.tup [(.int 2),(.int 0)]),(.tup [(.int 1),(.int 1)]),(.tup [(.int 0),(.int 2)]),(.tup [(.int (-1)),(.int 1)]),(.tup [(.int (-2)),(.int 0)]),(.tup [(.int (-1)),(.int (-1))]),(.tup [(.int 0),(.int (-2))]),(.tup [(.int 1),(.int (-1))])])
noncomputable def Eg:D:=(.tup [(.tup [(.int 1),(.int 1)]),(.tup [(.int (-1)),(.int 1)]),(.tup [(.int (-1)),(.int (-1))]),(.tup [(.int 1),(.int (-1))])])
noncomputable def tU:D:=(.tup [(.int 1),(.int 0),(.int 0),(.int 1),(.int 0),(.int 0)])
noncomputable def S:Sig:=⟨(("is_whole",1)::("is_corner",1)::("is_edge",1)::("is_quarter",1)::("line_of",1)::("beside",1)::("edges_of",1)::("moved_by",2)::("edges_round",1)::("number_by",2)::("mirrored",2)::("is_within",3)::("places_within",2)::("quarters_in",2)::("corners_in",2)::("neighbours_in",3)::("marks_in",1)::("is_good",1)::("creases_at",2)::("gaps_at",2)::("barred",1)::("check_corners",1)::("laying_by",3)::("mirror_in",1)::("led",2)::("then",2)::("laid",1)::("_law_cell",2)::("_law_inner",2)::("_law_line",1)::("_law_beside",1)::("_law_quarters",2)::("_law_led",2)::("_law_over",2)::("_law_value",2)::("_law_grown",3)::("_law_by_lines",2)::("_law_creased",4)::("_law_sheet",3)::("_law_others",1)::("_law_refused",1)::("law",1)::[]),[("EIGHT_EDGES",Ef),("FOUR_EDGES",Eg),("STILL",tU)],[],["ValueError","all","any","bool","dict","enumerate","int","isinstance","len","list","range","sorted","sum","tuple","zip"],[],[],[],[("NoEdge","edge"),("Twice","edge"),("Barred","corner")],[("CreaseError",["CreaseError","ValueError"]),("NoSize",["NoSize","CreaseError","ValueError"]),("NoMark",["NoMark","CreaseError","ValueError"]),("NoText",["NoText","CreaseError","ValueError"]),("NoRound",["NoRound","CreaseError","ValueError"]),("NoOrder",["NoOrder","CreaseError","ValueError"]),("TooMany",["TooMany","CreaseError","ValueError"]),("NoFold",["NoFold","CreaseError","ValueError"]),("NoRow",["NoRow","CreaseError","ValueError"]),("NoName",["NoName","CreaseError","ValueError"]),("Taken",["Taken","CreaseError","ValueError"]),("NoEdge",["NoEdge","CreaseError","ValueError"]),("Twice",["Twice","CreaseError","ValueError"]),("Barred",["Barred","CreaseError","ValueError"])],["laid","check_corners"]⟩
@[irreducible] noncomputable def f (k:Nat)(x:Str):MF:=gA S ds k x
@[irreducible] noncomputable def g (k:Nat)(x:Str):RF:=kD S ds k x
noncomputable abbrev sup (c x:Str):Option Bool:=(S.sup.lookup x).map fun ys=>ys.contains c
noncomputable abbrev att (a x:Str):Bool:=S.cls.lookup x == some a
end Lw
namespace Lw
open PySem L2 L3
theorem P7 (k:Nat)(d0:D)(μ:Hm):f (k+1) "is_whole" [d0] μ=fin ((aQ (gQ (aK k6 (aC (aA 0) (aC (mC (.ty "int")) aD))) (mJ (aK k6 (aC (aA 0) (aC (mC (.ty "bool")) aD)))))) [some d0] μ):=by
 kernel_rfl
theorem P8 (k:Nat)(d0:D)(μ:Hm):f (k+1) "is_corner" [d0] μ=fin ((aQ (gQ (aB (aR false) (aB aT (aB aI (aA 0) (mC (.int 0))) (mC (.int 2))) (mC (.int 0))) (aB (aR false) (aB aT (aB aI (aA 0) (mC (.int 0))) (mC (.int 4))) (aB aT (aB aI (aA 0) (mC (.int 1))) (mC (.int 4)))))) [some d0] μ):=by
 kernel_rfl
theorem P9 (k:Nat)(d0:D)(μ:Hm):f (k+1) "is_edge" [d0] μ=fin ((aJ (bB (aP (aB (aR false) (aB aT (aB aI (aA 0) (mC (.int 0))) (mC (.int 2))) (mC (.int 1)))) (aQ (aB (aR false) (aB aT (aB aI (aA 0) (mC (.int 1))) (mC (.int 2))) (mC (.int 1)))) bD) (aQ (gQ (aB (aR false) (aB aT (aB aI (aA 0) (mC (.int 1))) (mC (.int 2))) (mC (.int 0))) (aB (aR true) (aB aT (aB aI (aA 0) (mC (.int 0))) (mC (.int 4))) (aB aT (aB aI (aA 0) (mC (.int 1))) (mC (.int 4))))))) [some d0] μ):=by
 kernel_rfl
theorem Qa (k:Nat)(d0:D)(μ:Hm):f (k+1) "is_quarter" [d0] μ=fin ((aJ (bB (aP (aB (aR false) (aB aT (aB aI (aA 0) (mC (.int 0))) (mC (.int 2))) (mC (.int 1)))) (aQ (aB (aR false) (aB aT (aB aI (aA 0) (mC (.int 1))) (mC (.int 4))) (mC (.int 2)))) bD) (aQ (gQ (aB (aR false) (aB aT (aB aI (aA 0) (mC (.int 0))) (mC (.int 4))) (mC (.int 2))) (aB (aR false) (aB aT (aB aI (aA 0) (mC (.int 1))) (mC (.int 2))) (mC (.int 1)))))) [some d0] μ):=by
 kernel_rfl
theorem Qb (k:Nat)(d0:D)(μ:Hm):f (k+1) "line_of" [d0] μ=fin ((aJ (bB (aP (aB (aR false) (aB aT (aB aI (aA 0) (mC (.int 0))) (mC (.int 2))) (mC (.int 1)))) (aQ (gR (aP (aB (aR false) (aB aT (aB aI (aA 0) (mC (.int 0))) (mC (.int 4))) (aB aT (aB aI (aA 0) (mC (.int 1))) (mC (.int 4))))) (mC (.str "falling")) (mC (.str "rising")))) bD) (aQ (gR (aP (aB (aR false) (aB aT (aB aI (aA 0) (mC (.int 1))) (mC (.int 4))) (mC (.int 0)))) (mC (.str "level")) (mC (.str "upright"))))) [some d0] μ):=by
 kernel_rfl
theorem Qc (k:Nat)(d0:D)(μ:Hm):f (k+1) "beside" [d0] μ=fin ((aJ (aS 1 (aB aI (aA 0) (mC (.int 0)))) (aJ (aS 2 (aB aI (aA 0) (mC (.int 1)))) (aQ (bV (aC (bH (aC (aB cD (aA 1) (mC (.int 1))) (aC (aA 2) aD))) (aC (bH (aC (aA 1) (aC (aB cD (aA 2) (mC (.int 1))) aD))) (aC (bH (aC (aA 1) (aC (aB bE (aA 2) (mC (.int 1))) aD))) (aC (bH (aC (aB bE (aA 1) (mC (.int 1))) (aC (aA 2) aD))) aD)))))))) [some d0,none,none] μ):=by
 kernel_rfl
theorem Qd (k:Nat)(d0:D)(μ:Hm):f (k+1) "edges_of" [d0] μ=fin ((aQ (eQ (cM (aK (f k "beside") (aC (aA 0) aD))) (eS (aK (f k "is_edge") (aC (aA 1) aD))) (aA 1))) [some d0] μ):=by
 kernel_rfl
theorem Qe (k:Nat)(d0 d1:D)(μ:Hm):f (k+1) "moved_by" [d0,d1] μ=fin ((aQ (eQ (cM (aA 1)) gU (bH (aC (aB bE (aB aI (aA 0) (mC (.int 0))) (aB aI (aA 2) (mC (.int 0)))) (aC (aB bE (aB aI (aA 0) (mC (.int 1))) (aB aI (aA 2) (mC (.int 1)))) aD))))) [some d0,some d1] μ):=by
 kernel_rfl
theorem Qf (k:Nat)(d0:D)(μ:Hm):f (k+1) "edges_round" [d0] μ=fin ((aQ (aK (f k "moved_by") (aC (aA 0) (aC (gR (aP (aB (aR false) (aB aT (aB aI (aA 0) (mC (.int 0))) (mC (.int 4))) (mC (.int 0)))) (mC Ef) (mC Eg)) aD)))) [some d0] μ):=by
 kernel_rfl
theorem Qg (k:Nat)(d0 d1:D)(μ:Hm):f (k+1) "number_by" [d0,d1] μ=fin ((aJ (bB (aP (aB (aR false) (aA 0) (mC (.str "level")))) (aQ (aB aI (aA 1) (mC (.int 1)))) bD) (aJ (bB (aP (aB (aR false) (aA 0) (mC (.str "upright")))) (aQ (aB aI (aA 1) (mC (.int 0)))) bD) (aJ (bB (aP (aB (aR false) (aA 0) (mC (.str "falling")))) (aQ (aB cD (aB aI (aA 1) (mC (.int 0))) (aB aI (aA 1) (mC (.int 1))))) bD) (aQ (aB bE (aB aI (aA 1) (mC (.int 0))) (aB aI (aA 1) (mC (.int 1)))))))) [some d0,some d1] μ):=by
 kernel_rfl
theorem Qh (k:Nat)(d0 d1:D)(μ:Hm):f (k+1) "mirrored" [d0,d1] μ=fin ((aJ (aS 2 (aB aI (aA 0) (mC (.int 0)))) (aJ (aS 3 (aB aI (aA 0) (mC (.int 1)))) (aJ (aS 4 (aK (f k "line_of") (aC (aA 1) aD))) (aJ (aS 5 (aK (f k "number_by") (aC (aA 4) (aC (aA 1) aD)))) (aJ (bB (aP (aB (aR false) (aA 4) (mC (.str "level")))) (aQ (bH (aC (aA 2) (aC (aB cD (aB bC (mC (.int 2)) (aA 5)) (aA 3)) aD)))) bD) (aJ (bB (aP (aB (aR false) (aA 4) (mC (.str "upright")))) (aQ (bH (aC (aB cD (aB bC (mC (.int 2)) (aA 5)) (aA 2)) (aC (aA 3) aD)))) bD) (aJ (bB (aP (aB (aR false) (aA 4) (mC (.str "falling")))) (aQ (bH (aC (aB bE (aA 3) (aA 5)) (aC (aB cD (aA 2) (aA 5)) aD)))) bD) (aQ (bH (aC (aB cD (aA 5) (aA 3)) (aC (aB cD (aA 5) (aA 2)) aD))))))))))) [some d0,some d1,none,none,none,none] μ):=by
 kernel_rfl
theorem Qi (k:Nat)(d0 d1 d2:D)(μ:Hm):f (k+1) "is_within" [d0,d1,d2] μ=fin ((aQ (gQ (jA gT gT (mC (.int 0)) (aB aI (aA 2) (mC (.int 0))) (aB bC (mC (.int 4)) (aA 0))) (jA gT gT (mC (.int 0)) (aB aI (aA 2) (mC (.int 1))) (aB bC (mC (.int 4)) (aA 1))))) [some d0,some d1,some d2] μ):=by
 kernel_rfl
theorem Qj (k:Nat)(d0 d1:D)(μ:Hm):f (k+1) "places_within" [d0,d1] μ=fin ((aJ (aS 2 (bV aD)) (aJ (dD (jT (aC (mC (.int 1)) (aC (aB bC (mC (.int 4)) (aA 0)) aD))) (dQ 3) (c9 (cV mZ (aA 2) (aC (eQ (jT (aC (mC (.int 1)) (aC (aB bC (mC (.int 4)) (aA 1)) aD))) gU (bH (aC (aA 3) (aC (aA 4) aD)))) aD)))) (aQ (aA 2)))) [some d0,some d1,none,none] μ):=by
 kernel_rfl
theorem Qk (k:Nat)(d0 d1:D)(μ:Hm):f (k+1) "quarters_in" [d0,d1] μ=fin ((aQ (eQ (cM (aK (f k "places_within") (aC (aA 0) (aC (aA 1) aD)))) (eS (aK (f k "is_quarter") (aC (aA 2) aD))) (aA 2))) [some d0,some d1] μ):=by
 kernel_rfl
theorem Ql (k:Nat)(d0 d1:D)(μ:Hm):f (k+1) "corners_in" [d0,d1] μ=fin ((aQ (eQ (cM (aK (f k "places_within") (aC (aA 0) (aC (aA 1) aD)))) (eS (aK (f k "is_corner") (aC (aA 2) aD))) (aA 2))) [some d0,some d1] μ):=by
 kernel_rfl
theorem Qm (k:Nat)(d0 d1 d2:D)(μ:Hm):f (k+1) "neighbours_in" [d0,d1,d2] μ=fin ((aQ (eQ (cM (aK (f k "edges_of") (aC (aA 2) aD))) (eS (aK (f k "is_within") (aC (aA 0) (aC (aA 1) (aC (aA 3) aD))))) (bH (aC (aA 3) (aC (aK (f k "mirrored") (aC (aA 2) (aC (aA 3) aD))) aD))))) [some d0,some d1,some d2] μ):=by
 kernel_rfl
theorem Eh (k:Nat)(d0:D)(μ:Hm):f (k+1) "marks_in" [d0] μ=fin ((aQ (aK lV (aC (aB aI (aA 0) (mC (.int 2))) aD))) [some d0] μ):=by
 kernel_rfl
theorem Qn (k:Nat)(d0:D)(μ:Hm):f (k+1) "is_good" [d0] μ=fin ((aJ (bB (gP (aP (aB mO (aK d6 (aC (aA 0) aD)) (mC (.int 8)))) (aP (aB (aR false) (aB aT (aK d6 (aC (aA 0) aD)) (mC (.int 2))) (mC (.int 1))))) (aQ (mC (.bl false))) bD) (aJ (bB (jQ (eS (aK rW (aC (eQ (cM (aA 0)) gU (gQ (aK (f k "is_whole") (aC (aA 1) aD)) (aB oY (aA 1) (mC (.int 1))))) aD)))) (aQ (mC (.bl false))) bD) (aQ (aB (aR false) (aK lQ (aC (nH (aA 0) iT iT (hZ (mC (.int 2)))) aD)) (aK lQ (aC (nH (aA 0) (hZ (mC (.int 1))) iT (hZ (mC (.int 2)))) aD)))))) [some d0] μ):=by
 kernel_rfl
theorem Qo (k:Nat)(d0 d1:D)(μ:Hm):f (k+1) "creases_at" [d0,d1] μ=fin ((aJ (aS 2 (aK (f k "marks_in") (aC (aA 0) aD))) (aQ (eQ (cM (aK (f k "edges_round") (aC (aA 1) aD))) (aP (aB (cP false) (aA 3) (aA 2))) (aA 3)))) [some d0,some d1,none] μ):=by
 kernel_rfl
theorem Qp (k:Nat)(d0 d1:D)(μ:Hm):f (k+1) "gaps_at" [d0,d1] μ=fin ((aJ (aS 2 (aK (f k "edges_round") (aC (aA 1) aD))) (aJ (aS 3 (aK (f k "creases_at") (aC (aA 0) (aC (aA 1) aD)))) (aJ (aS 4 (eQ (cM (aA 3)) gU (cV nK (aA 2) (aC (aA 7) aD)))) (aJ (aS 5 (aB bE (kY (aA 4) (hZ (mC (.int 1))) iT) (eQ (cM (kY (aA 4) iT (hZ (mC (.int 1))))) gU (aB bE (aA 7) (aK d6 (aC (aA 2) aD)))))) (aJ (aS 6 (aB eB (mC (.int 8)) (aK d6 (aC (aA 2) aD)))) (aQ (iZ (vQ 2) (pQ (aC (aA 4) (aC (aA 5) aD))) gU (aB bC (aB cD (aA 8) (aA 7)) (aA 6))))))))) [some d0,some d1,none,none,none,none,none] μ):=by
 kernel_rfl
theorem Qq (k:Nat)(d0:D)(μ:Hm):f (k+1) "barred" [d0] μ=fin ((aJ (dD (cM (aK (f k "corners_in") (aC (aB aI (aA 0) (mC (.int 0))) (aC (aB aI (aA 0) (mC (.int 1))) aD)))) (dQ 1) (bB (jQ (eS (aK (f k "is_good") (aC (aK (f k "gaps_at") (aC (aA 0) (aC (aA 1) aD))) aD)))) (aQ (aA 1)) bD)) (aQ (mC .non))) [some d0,none] μ):=by
 kernel_rfl
theorem Qr (k:Nat)(d0:D)(μ:Hm):f (k+1) "check_corners" [d0] μ=fin ((aJ (aS 1 (aK (f k "barred") (aC (aA 0) aD))) (bB (aP (aB (d5 true) (aA 1) (mC .non))) dJ bD)) [some d0,none] μ):=by
 kernel_rfl
theorem Qs (k:Nat)(d0:D)(μ:Hm):g (k+3) "check_corners" [d0] μ=yT ((dU (aS 1 (aK (f (k+2) "barred") (aC (aA 0) aD))) bY (dU (bB (aP (aB (d5 true) (aA 1) (mC .non))) dJ bD) (pF (aP (aB (d5 true) (aA 1) (mC .non))) (dU dJ (pH "Barred" "corner" (aA 1)) bY) bY) bY)) [some d0,none] μ):=by
 kernel_rfl
theorem Qt (k:Nat)(d0 d1 d2:D)(μ:Hm):f (k+1) "laying_by" [d0,d1,d2] μ=fin ((aQ (bH (aC (aB cD (aB aI (aA 1) (mC (.int 0))) (aB aI (aA 0) (mC (.int 0)))) (aC (aB cD (aB aI (aA 2) (mC (.int 0))) (aB aI (aA 0) (mC (.int 0)))) (aC (aB cD (aB aI (aA 1) (mC (.int 1))) (aB aI (aA 0) (mC (.int 1)))) (aC (aB cD (aB aI (aA 2) (mC (.int 1))) (aB aI (aA 0) (mC (.int 1)))) (aC (aB aI (aA 0) (mC (.int 0))) (aC (aB aI (aA 0) (mC (.int 1))) aD)))))))) [some d0,some d1,some d2] μ):=by
 kernel_rfl
theorem Qu (k:Nat)(d0:D)(μ:Hm):f (k+1) "mirror_in" [d0] μ=fin ((aQ (aK (f k "laying_by") (aC (aK (f k "mirrored") (aC (bH (aC (mC (.int 0)) (aC (mC (.int 0)) aD))) (aC (aA 0) aD))) (aC (aK (f k "mirrored") (aC (bH (aC (mC (.int 1)) (aC (mC (.int 0)) aD))) (aC (aA 0) aD))) (aC (aK (f k "mirrored") (aC (bH (aC (mC (.int 0)) (aC (mC (.int 1)) aD))) (aC (aA 0) aD))) aD))))) [some d0] μ):=by
 kernel_rfl
theorem Qv (k:Nat)(d0 d1:D)(μ:Hm):f (k+1) "led" [d0,d1] μ=fin ((aJ (aS 2 (aB aI (aA 1) (mC (.int 0)))) (aJ (aS 3 (aB aI (aA 1) (mC (.int 1)))) (aQ (bH (aC (aB bE (aB bE (aB bC (aB aI (aA 0) (mC (.int 0))) (aA 2)) (aB bC (aB aI (aA 0) (mC (.int 1))) (aA 3))) (aB aI (aA 0) (mC (.int 4)))) (aC (aB bE (aB bE (aB bC (aB aI (aA 0) (mC (.int 2))) (aA 2)) (aB bC (aB aI (aA 0) (mC (.int 3))) (aA 3))) (aB aI (aA 0) (mC (.int 5)))) aD)))))) [some d0,some d1,none,none] μ):=by
 kernel_rfl
theorem Qw (k:Nat)(d0 d1:D)(μ:Hm):f (k+1) "then" [d0,d1] μ=fin ((aQ (aK (f k "laying_by") (aC (aK (f k "led") (aC (aA 1) (aC (aK (f k "led") (aC (aA 0) (aC (bH (aC (mC (.int 0)) (aC (mC (.int 0)) aD))) aD))) aD))) (aC (aK (f k "led") (aC (aA 1) (aC (aK (f k "led") (aC (aA 0) (aC (bH (aC (mC (.int 1)) (aC (mC (.int 0)) aD))) aD))) aD))) (aC (aK (f k "led") (aC (aA 1) (aC (aK (f k "led") (aC (aA 0) (aC (bH (aC (mC (.int 0)) (aC (mC (.int 1)) aD))) aD))) aD))) aD))))) [some d0,some d1] μ):=by
 kernel_rfl
theorem Qx (k:Nat)(d0:D)(μ:Hm):f (k+1) "laid" [d0] μ=fin ((aJ (c9 (aK (f k "check_corners") (aC (aA 0) aD))) (aJ (aS 1 (aK (f k "marks_in") (aC (aA 0) aD))) (aJ (aS 2 (aB aI (aK (f k "quarters_in") (aC (aB aI (aA 0) (mC (.int 0))) (aC (aB aI (aA 0) (mC (.int 1))) aD))) (mC (.int 0)))) (aJ (aS 3 (lX (aA 2) (mC tU))) (aJ (aS 4 (bV (aC (aA 2) aD))) (aJ (m3 nS (eS (aA 4)) (aJ (aS 5 (cV jV (aA 4) aD)) (dD (cM (aK (f k "neighbours_in") (aC (aB aI (aA 0) (mC (.int 0))) (aC (aB aI (aA 0) (mC (.int 1))) (aC (aA 5) aD))))) (cU [6,7]) (bB (aP (aB (cP true) (aA 7) (aA 3))) (aJ (jC (aA 3) (aA 7) (gR (aP (aB (cP false) (aA 6) (aA 1))) (aK (f k "then") (aC (aK (f k "mirror_in") (aC (aA 6) aD)) (aC (aB aI (aA 3) (aA 5)) aD))) (aB aI (aA 3) (aA 5)))) (c9 (cV d4 (aA 4) (aC (aA 7) aD)))) bD)))) (aQ (lW (aA 3))))))))) [some d0,none,none,none,none,none,none,none] μ):=by
 kernel_rfl
theorem Qy (k:Nat)(d0:D)(μ:Hm):g (k+3) "laid" [d0] μ=yT ((dU (c9 (aK (f (k+2) "check_corners") (aC (aA 0) aD))) (lM (g (k+2) "check_corners") (aC (aA 0) aD)) (dU (aS 1 (aK (f (k+2) "marks_in") (aC (aA 0) aD))) bY (dU (aS 2 (aB aI (aK (f (k+2) "quarters_in") (aC (aB aI (aA 0) (mC (.int 0))) (aC (aB aI (aA 0) (mC (.int 1))) aD))) (mC (.int 0)))) bY (dU (aS 3 (lX (aA 2) (mC tU))) bY (dU (aS 4 (bV (aC (aA 2) aD))) bY (dU (m3 nS (eS (aA 4)) (aJ (aS 5 (cV jV (aA 4) aD)) (dD (cM (aK (f (k+2) "neighbours_in") (aC (aB aI (aA 0) (mC (.int 0))) (aC (aB aI (aA 0) (mC (.int 1))) (aC (aA 5) aD))))) (cU [6,7]) (bB (aP (aB (cP true) (aA 7) (aA 3))) (aJ (jC (aA 3) (aA 7) (gR (aP (aB (cP false) (aA 6) (aA 1))) (aK (f (k+2) "then") (aC (aK (f (k+2) "mirror_in") (aC (aA 6) aD)) (aC (aB aI (aA 3) (aA 5)) aD))) (aB aI (aA 3) (aA 5)))) (c9 (cV d4 (aA 4) (aC (aA 7) aD)))) bD)))) bY (dU (aQ (lW (aA 3))) bY bY))))))) [some d0,none,none,none,none,none,none,none] μ):=by
 kernel_rfl
theorem Qz (k:Nat)(d0 d1:D)(μ:Hm):f (k+1) "_law_cell" [d0,d1] μ=fin ((aJ (bB (aP (aB gT (aA 1) (aK d6 (aC (aA 0) aD)))) (aQ (aB aI (aA 0) (aA 1))) bD) (aJ (bB (aP (aB (aR false) (aA 0) (bV aD))) (aQ (aB aT (aB bC (aB bC (aA 1) (aA 1)) (mC (.int 48271))) (mC (.int 2147483647)))) bD) (aJ (aS 2 (aB aT (aB bC (aB bE (aB aT (aB aI (aA 0) (aB aT (aA 1) (aK d6 (aC (aA 0) aD)))) (mC (.int 2147483629))) (aB bC (aB bC (aA 1) (aA 1)) (mC (.int 69623)))) (mC (.int 48271))) (mC (.int 2147483647)))) (aQ (aB aT (aB bC (aA 2) (aA 2)) (mC (.int 2147483629))))))) [some d0,some d1,none] μ):=by
 kernel_rfl
theorem QC (k:Nat)(d0 d1:D)(μ:Hm):f (k+1) "_law_inner" [d0,d1] μ=fin ((aJ (aS 2 (bV aD)) (aJ (dD (jT (aC (mC (.int 1)) (aC (aB bC (mC (.int 4)) (aA 0)) aD))) (dQ 3) (dD (jT (aC (mC (.int 1)) (aC (aB bC (mC (.int 4)) (aA 1)) aD))) (dQ 4) (bB (gP (gO (aP (aB (aR false) (aB aT (aA 3) (mC (.int 2))) (mC (.int 1)))) (aP (aB (aR false) (aB aT (aA 4) (mC (.int 2))) (mC (.int 1))))) (gO (aP (aB (aR false) (aB aT (aA 3) (mC (.int 2))) (mC (.int 0)))) (aP (aB (aR false) (aB bE (aB aT (aA 3) (mC (.int 4))) (aB aT (aA 4) (mC (.int 4)))) (mC (.int 2)))))) (c9 (cV d4 (aA 2) (aC (bH (aC (aA 3) (aC (aA 4) aD))) aD))) bD))) (aQ (aA 2)))) [some d0,some d1,none,none,none] μ):=by
 kernel_rfl
theorem QD (k:Nat)(d0:D)(μ:Hm):f (k+1) "_law_line" [d0] μ=fin ((aJ (fL (aA 0) (cU [1,2])) (aJ (bB (aP (aB (aR false) (aB aT (aA 2) (mC (.int 4))) (mC (.int 0)))) (aQ (bH (aC (mC (.int 0)) (aC (aA 2) aD)))) bD) (aJ (bB (aP (aB (aR false) (aB aT (aA 1) (mC (.int 4))) (mC (.int 0)))) (aQ (bH (aC (mC (.int 1)) (aC (aA 1) aD)))) bD) (aJ (bB (aP (aB (aR false) (aB aT (aA 1) (mC (.int 4))) (aB aT (aA 2) (mC (.int 4))))) (aQ (bH (aC (mC (.int 2)) (aC (aB cD (aA 1) (aA 2)) aD)))) bD) (aQ (bH (aC (mC (.int 3)) (aC (aB bE (aA 1) (aA 2)) aD)))))))) [some d0,none,none] μ):=by
 kernel_rfl
theorem QF (k:Nat)(d0:D)(μ:Hm):f (k+1) "_law_beside" [d0] μ=fin ((aJ (fL (aA 0) (cU [1,2])) (aJ (bB (aP (aB (aR false) (aB aT (aA 2) (mC (.int 4))) (mC (.int 0)))) (aQ (bV (aC (bH (aC (aA 1) (aC (aB cD (aA 2) (mC (.int 1))) aD))) (aC (bH (aC (aA 1) (aC (aB bE (aA 2) (mC (.int 1))) aD))) aD)))) bD) (aJ (bB (aP (aB (aR false) (aB aT (aA 1) (mC (.int 4))) (mC (.int 0)))) (aQ (bV (aC (bH (aC (aB cD (aA 1) (mC (.int 1))) (aC (aA 2) aD))) (aC (bH (aC (aB bE (aA 1) (mC (.int 1))) (aC (aA 2) aD))) aD)))) bD) (aQ (aK iF (aC (bV (aC (bH (aC (aB cD (aB bE (aA 1) (mC (.int 2))) (aB aT (aA 1) (mC (.int 4)))) (aC (aA 2) aD))) (aC (bH (aC (aA 1) (aC (aB cD (aB bE (aA 2) (mC (.int 2))) (aB aT (aA 2) (mC (.int 4)))) aD))) aD))) aD)))))) [some d0,none,none] μ):=by
 kernel_rfl
theorem QH (k:Nat)(d0 d1:D)(μ:Hm):f (k+1) "_law_quarters" [d0,d1] μ=fin ((aJ (aS 2 (bV aD)) (aJ (dD (lE (aC (aB bC (mC (.int 4)) (aA 0)) aD)) (dQ 3) (dD (lE (aC (aB bC (mC (.int 4)) (aA 1)) aD)) (dQ 4) (bB (gP (gO (aP (aB (aR false) (aB aT (aA 3) (mC (.int 4))) (mC (.int 2)))) (aP (aB (aR false) (aB aT (aA 4) (mC (.int 2))) (mC (.int 1))))) (gO (aP (aB (aR false) (aB aT (aA 3) (mC (.int 2))) (mC (.int 1)))) (aP (aB (aR false) (aB aT (aA 4) (mC (.int 4))) (mC (.int 2)))))) (c9 (cV d4 (aA 2) (aC (bH (aC (aA 3) (aC (aA 4) aD))) aD))) bD))) (aQ (aA 2)))) [some d0,some d1,none,none,none] μ):=by
 kernel_rfl
theorem QK (k:Nat)(d0 d1:D)(μ:Hm):f (k+1) "_law_led" [d0,d1] μ=fin ((aJ (fL (aA 0) (cU [2,3,4,5,6,7])) (aQ (bH (aC (aB bE (aB bE (aB bC (aA 2) (aB aI (aA 1) (mC (.int 0)))) (aB bC (aA 3) (aB aI (aA 1) (mC (.int 1))))) (aA 6)) (aC (aB bE (aB bE (aB bC (aA 4) (aB aI (aA 1) (mC (.int 0)))) (aB bC (aA 5) (aB aI (aA 1) (mC (.int 1))))) (aA 7)) aD))))) [some d0,some d1,none,none,none,none,none,none] μ):=by
 kernel_rfl
theorem QL (k:Nat)(d0 d1:D)(μ:Hm):f (k+1) "_law_over" [d0,d1] μ=fin ((aJ (fL (aA 0) (cU [2,3,4,5,6,7])) (aJ (fL (aA 1) (cU [8,9])) (aJ (bB (aP (aB (aR false) (aA 8) (mC (.int 0)))) (aQ (bH (aC (aA 2) (aC (aA 3) (aC (iB (aA 4)) (aC (iB (aA 5)) (aC (aA 6) (aC (aB cD (aB bC (mC (.int 2)) (aA 9)) (aA 7)) aD)))))))) bD) (aJ (bB (aP (aB (aR false) (aA 8) (mC (.int 1)))) (aQ (bH (aC (iB (aA 2)) (aC (iB (aA 3)) (aC (aA 4) (aC (aA 5) (aC (aB cD (aB bC (mC (.int 2)) (aA 9)) (aA 6)) (aC (aA 7) aD)))))))) bD) (aJ (bB (aP (aB (aR false) (aA 8) (mC (.int 2)))) (aQ (bH (aC (aA 4) (aC (aA 5) (aC (aA 2) (aC (aA 3) (aC (aB bE (aA 7) (aA 9)) (aC (aB cD (aA 6) (aA 9)) aD)))))))) bD) (aQ (bH (aC (iB (aA 4)) (aC (iB (aA 5)) (aC (iB (aA 2)) (aC (iB (aA 3)) (aC (aB cD (aA 9) (aA 7)) (aC (aB cD (aA 9) (aA 6)) aD))))))))))))) [some d0,some d1,none,none,none,none,none,none,none,none] μ):=by
 kernel_rfl
theorem QM (k:Nat)(d0 d1:D)(μ:Hm):f (k+1) "_law_value" [d0,d1] μ=fin ((aQ (aB aI (bV (aC (aB aI (aA 0) (mC (.int 1))) (aC (aB aI (aA 0) (mC (.int 0))) (aC (aB cD (aB aI (aA 0) (mC (.int 0))) (aB aI (aA 0) (mC (.int 1)))) (aC (aB bE (aB aI (aA 0) (mC (.int 0))) (aB aI (aA 0) (mC (.int 1)))) aD))))) (aA 1))) [some d0,some d1] μ):=by
 kernel_rfl
theorem QN (k:Nat)(d0 d1 d2:D)(μ:Hm):f (k+1) "_law_grown" [d0,d1,d2] μ=fin ((aJ (aS 3 sM) (aJ (dD (cM (aK (f k "_law_quarters") (aC (aA 0) (aC (aA 1) aD)))) (dQ 4) (jC (aA 3) (aA 4) (bH (aC (mC (.int 1)) (aC (mC (.int 0)) (aC (mC (.int 0)) (aC (mC (.int 1)) (aC (mC (.int 0)) (aC (mC (.int 0)) aD))))))))) (aJ (dD (cM (aA 2)) (dQ 5) (aJ (aS 6 (aB aT (aA 5) (mC (.int 4)))) (aJ (aS 7 (aB aI (aK lY (aC (aA 3) aD)) (aB aT (aB eB (aA 5) (mC (.int 16))) (aK d6 (aC (aA 3) aD))))) (aJ (aS 8 (aB bE (aB bC (aB eB (aK (f k "_law_value") (aC (aK (f k "_law_led") (aC (aB aI (aA 3) (aA 7)) (aC (aA 7) aD))) (aC (aA 6) aD))) (mC (.int 4))) (mC (.int 4))) (aB bC (aB aT (aB eB (aA 5) (mC (.int 4))) (mC (.int 2))) (mC (.int 4))))) (dD (cM (aK lY (aC (aA 3) aD))) (dQ 4) (aJ (aS 9 (aB mO (aK (f k "_law_value") (aC (aK (f k "_law_led") (aC (aB aI (aA 3) (aA 4)) (aC (aA 4) aD))) (aC (aA 6) aD))) (aA 8))) (bB (aP (aB (aR false) (aA 9) (aB (aR false) (aB aT (aB eB (aA 5) (mC (.int 8))) (mC (.int 2))) (mC (.int 1))))) (jC (aA 3) (aA 4) (aK (f k "_law_over") (aC (aB aI (aA 3) (aA 4)) (aC (bH (aC (aA 6) (aC (aA 8) aD))) aD)))) bD))))))) (aQ (aA 3))))) [some d0,some d1,some d2,none,none,none,none,none,none,none] μ):=by
 kernel_rfl
theorem QU (k:Nat)(d0 d1:D)(μ:Hm):f (k+1) "_law_by_lines" [d0,d1] μ=fin ((aJ (aS 2 (bV aD)) (aJ (dD (cM (aA 0)) (dQ 3) (aJ (fL (aK (f k "_law_line") (aC (aA 3) aD)) (cU [4,5])) (bB (aP (aB (aR false) (aB aT (aB eB (aA 1) (aB bE (aB bE (aB bC (mC (.int 5)) (aA 4)) (aB aT (aB eB (aA 5) (mC (.int 4))) (mC (.int 5)))) (mC (.int 2)))) (aB aI (bV (aC (mC (.int 3)) (aC (mC (.int 3)) (aC (mC (.int 4)) (aC (mC (.int 4)) aD))))) (aA 4))) (mC (.int 0)))) (c9 (cV d4 (aA 2) (aC (aA 3) aD))) bD))) (aQ (aA 2)))) [some d0,some d1,none,none,none,none] μ):=by
 kernel_rfl
theorem QV (k:Nat)(d0 d1 d2 d3:D)(μ:Hm):f (k+1) "_law_creased" [d0,d1,d2,d3] μ=fin ((aJ (aS 4 (aK (f k "_law_inner") (aC (aA 1) (aC (aA 2) aD)))) (aJ (aS 5 (aB aI (aA 3) (aB aT (aK (f k "_law_cell") (aC (aA 0) (aC (mC (.int 1)) aD))) (aK d6 (aC (aA 3) aD))))) (aJ (aS 6 (aK (f k "_law_cell") (aC (aA 0) (aC (mC (.int 2)) aD)))) (aJ (bB (aP (aB (aR false) (aA 5) (mC (.int 3)))) (aQ (aK (f k "_law_by_lines") (aC (aA 4) (aC (aA 6) aD)))) bD) (aJ (bB (aP (aB (aR false) (aA 5) (mC (.int 4)))) (aJ (aS 7 (bV aD)) (aJ (dD (lR (aC (aA 4) aD)) (cU [8,9]) (aJ (aS 10 (aB bE (aB bC (aA 6) (aB bE (aB bC (mC (.int 2)) (aA 8)) (mC (.int 1)))) (aB bC (aK (f k "_law_cell") (aC (aA 0) (aC (aB bE (mC (.int 3)) (aB aT (aA 8) (mC (.int 5)))) aD))) (aB bE (aB bC (aA 8) (aA 8)) (mC (.int 5)))))) (bB (aP (aB gT (aB aT (aB aT (aA 10) (mC (.int 10007))) (mC (.int 7))) (aB aT (aB eB (aK (f k "_law_cell") (aC (aA 0) (aC (mC (.int 1)) aD))) (mC (.int 5))) (mC (.int 8))))) (c9 (cV d4 (aA 7) (aC (aA 9) aD))) bD))) (aQ (aA 7)))) bD) (aJ (aS 11 (aK (f k "_law_grown") (aC (aA 1) (aC (aA 2) (aC (eQ (lE (aC (aB aT (aA 6) (mC (.int 6))) aD)) gU (aK (f k "_law_cell") (aC (aA 0) (aC (aB bE (mC (.int 3)) (aA 15)) aD)))) aD))))) (aJ (aS 12 (bV aD)) (aJ (dD (cM (aA 4)) (dQ 9) (aJ (fL (aK (f k "_law_beside") (aC (aA 9) aD)) (cU [13,14])) (bB (aP (aB (aR true) (aB aI (aA 11) (aA 13)) (aB aI (aA 11) (aA 14)))) (c9 (cV d4 (aA 12) (aC (aA 9) aD))) bD))) (aJ (bB (gO (aP (aB (aR false) (aA 5) (mC (.int 1)))) (aP (aB (aR true) (aA 4) (bV aD)))) (aJ (aS 9 (aB aI (aA 4) (aB aT (aB eB (aA 6) (mC (.int 6))) (aK d6 (aC (aA 4) aD))))) (aS 12 (aK iF (aC (aB bE (eQ (cM (aA 12)) (aP (aB (aR true) (aA 15) (aA 9))) (aA 15)) (aB bC (bV (aC (aA 9) aD)) (aK mS (aC (aB (cP true) (aA 9) (aA 12)) aD)))) aD)))) bD) (aQ (aA 12))))))))))) [some d0,some d1,some d2,some d3,none,none,none,none,none,none,none,none,none,none,none] μ):=by
 kernel_rfl
theorem QX (k:Nat)(d0 d1 d2:D)(μ:Hm):f (k+1) "_law_sheet" [d0,d1,d2] μ=fin ((aJ (aS 3 (aB bE (mC (.int 1)) (aB aT (aK (f k "_law_cell") (aC (aA 0) (aC (mC (.int 0)) aD))) (aA 1)))) (aJ (aS 4 (aB bE (mC (.int 1)) (aB aT (aB eB (aK (f k "_law_cell") (aC (aA 0) (aC (mC (.int 0)) aD))) (aA 1)) (aA 1)))) (aJ (aS 5 (bV aD)) (aJ (dD (lR (aC (aK (f k "_law_creased") (aC (aA 0) (aC (aA 3) (aC (aA 4) (aC (aA 2) aD))))) aD)) (cU [6,7]) (aJ (aS 8 (aB bE (aB bC (aK (f k "_law_cell") (aC (aA 0) (aC (aB bE (mC (.int 9)) (aB aT (aA 6) (mC (.int 9)))) aD))) (aB bE (aB bC (mC (.int 2)) (aA 6)) (mC (.int 3)))) (aB bC (aA 6) (aA 6)))) (c9 (cV d4 (aA 5) (aC (bH (aC (aA 7) (aC (aB aI (mC (.str "hvo")) (aB aT (aB aT (aA 8) (mC (.int 10007))) (mC (.int 3)))) aD))) aD))))) (aQ (bH (aC (aA 3) (aC (aA 4) (aC (aK nR (aC (aA 5) aD)) aD))))))))) [some d0,some d1,some d2,none,none,none,none,none,none] μ):=by
 kernel_rfl
theorem QY (k:Nat)(d0:D)(μ:Hm):f (k+1) "_law_others" [d0] μ=fin ((aJ (aS 1 (bV (aC (cQ (sup "NoEdge") (aA 0)) (aC (cQ (sup "NoFold") (aA 0)) (aC (cQ (sup "NoMark") (aA 0)) (aC (cQ (sup "NoName") (aA 0)) aD)))))) (aJ (aS 1 (aB bE (aA 1) (bV (aC (cQ (sup "NoOrder") (aA 0)) (aC (cQ (sup "NoRound") (aA 0)) (aC (cQ (sup "NoRow") (aA 0)) (aC (cQ (sup "NoSize") (aA 0)) aD))))))) (aJ (aS 1 (aB bE (aA 1) (bV (aC (cQ (sup "NoText") (aA 0)) (aC (cQ (sup "Taken") (aA 0)) (aC (cQ (sup "TooMany") (aA 0)) (aC (cQ (sup "Twice") (aA 0)) aD))))))) (aQ (aK rX (aC (aA 1) aD)))))) [some d0,none] μ):=by
 kernel_rfl
theorem QZ (k:Nat)(d0:D)(μ:Hm):f (k+1) "_law_refused" [d0] μ=fin ((aJ (aS 1 (mC .non)) (aJ (nB (c9 (aK (f k "laid") (aC (aA 0) aD))) (dU (c9 (aK (f k "laid") (aC (aA 0) aD))) (lM (g k "laid") (aC (aA 0) aD)) bY) (sup "CreaseError") 2 (aS 1 (aA 2))) (aJ (bB (gP (aP (aB (d5 false) (aA 1) (mC .non))) (gP (eS (aK (f k "_law_others") (aC (aA 1) aD))) (jQ (eS (cQ (sup "ValueError") (aA 1)))))) (aQ (mC .non)) bD) (aJ (bB (jQ (eS (cQ (sup "Barred") (aA 1)))) (aQ (mC .non)) bD) (aQ (i9 "corner" (att "corner") (aA 1))))))) [some d0,none,none] μ):=by
 kernel_rfl
theorem Q0 (k:Nat)(d0:D)(μ:Hm):f (k+1) "law" [d0] μ=fin ((aJ (aS 1 (aK (f k "_law_sheet") (aC (aA 0) (aC (mC (.int 3)) (aC (bV (aC (mC (.int 1)) (aC (mC (.int 1)) (aC (mC (.int 3)) (aC (mC (.int 4)) aD))))) aD))))) (aJ (aS 2 (aK (f k "barred") (aC (aA 1) aD))) (aJ (bB (aP (aB (d5 false) (aA 2) (mC .non))) (aQ (mC (.bl true))) bD) (aJ (bB (gP (aP (aB (aR true) (aK (f k "_law_refused") (aC (aA 1) aD)) (aA 2))) (aP (aB (aR true) (aK (f k "_law_refused") (aC (aA 1) aD)) (aA 2)))) (aQ (mC (.bl false))) bD) (aJ (aS 3 (aK (f k "laid") (aC (bH (aC (aB aI (aA 1) (mC (.int 0))) (aC (aB aI (aA 1) (mC (.int 1))) (aC (bH aD) aD)))) aD))) (aJ (dD (cM (aK (f k "_law_quarters") (aC (aB aI (aA 1) (mC (.int 0))) (aC (aB aI (aA 1) (mC (.int 1))) aD)))) (dQ 4) (bB (aP (aB (aR true) (aB aI (aA 3) (aA 4)) (bH (aC (mC (.int 1)) (aC (mC (.int 0)) (aC (mC (.int 0)) (aC (mC (.int 1)) (aC (mC (.int 0)) (aC (mC (.int 0)) aD))))))))) (aQ (mC (.bl false))) bD)) (aQ (aB (aR false) (aK (f k "_law_refused") (aC (aA 1) aD)) (aA 2))))))))) [some d0,none,none,none,none] μ):=by
 kernel_rfl
end Lw
namespace Lw
open PySem L2 L3
theorem Ei {z:Int}{μ:Hm}{Q:D×Hm->Prop}:W (bC (.int 2) (.int z) μ) Q↔Q (.int (2 * z),μ):=dE (.inl ⟨by decide,by decide⟩)
theorem l8 {z:Int}{μ:Hm}{Q:D×Hm->Prop}:W (bC (.int 4) (.int z) μ) Q↔Q (.int (4 * z),μ):=dE (.inl ⟨by decide,by decide⟩)
theorem n9 {z:Int}{μ:Hm}{Q:D×Hm->Prop}:W (aT (.int z) (.int 2) μ) Q↔Q (.int (z % 2),μ):=cR (by decide)
theorem l9 {z:Int}{μ:Hm}{Q:D×Hm->Prop}:W (aT (.int z) (.int 4) μ) Q↔Q (.int (z % 4),μ):=cR (by decide)
theorem Q1 {z:Int}{μ:Hm}{Q:D×Hm->Prop}:W (aT (.int z) (.int 6) μ) Q↔Q (.int (z % 6),μ):=cR (by decide)
theorem Q2:(2:Nat)<=TL:=by decide
theorem iK {a b:D}:([a,b]:List D).length<=TL:=Q2
theorem Ej {z:Int}{μ:Hm}{Q:D×Hm->Prop}:W (aT (.int z) (.int 5) μ) Q↔Q (.int (z % 5),μ):=cR (by decide)
theorem Q3 {z:Int}{μ:Hm}{Q:D×Hm->Prop}:W (aT (.int z) (.int 9) μ) Q↔Q (.int (z % 9),μ):=cR (by decide)
noncomputable def jK:D->Int
 | .int i=>i
 | _=>0
theorem Ek {lo:Int}{n:Nat}{d:D}(h:d∈fR lo n):∃ j:Nat,j<n/\d=.int (lo+(j:Int)):=by
 unfold fR at h
 obtain ⟨j,h1,rfl⟩:=UZ.mp h
 exact ⟨j,Vn.mp h1,rfl⟩
theorem kJ {t:MT}{A B C:MS}{ρ:aG}{μ μ':Hm}{b:Bool}{Q:D×Hm->Prop}(h:t ρ μ=some (b,μ'))(h1:b=true->W (fin (aJ A C ρ μ')) Q)(h2:b=false->W (fin (aJ B C ρ μ')) Q):W (fin (aJ (bB t A B) C ρ μ)) Q:=by
 cases b
 ·have e:aJ (bB t A B) C ρ μ=aJ B C ρ μ':=by unfold aJ bB;rw [h];rfl
  rw [e];exact h2 rfl
 ·have e:aJ (bB t A B) C ρ μ=aJ A C ρ μ':=by unfold aJ bB;rw [h];rfl
  rw [e];exact h1 rfl
theorem kK {a C:MS}{ρ ρ':aG}{μ μ':Hm}{Q:D×Hm->Prop}(h:a ρ μ=some (.nx,ρ',μ'))(k:W (fin (C ρ' μ')) Q):W (fin (aJ a C ρ μ)) Q:=by
 unfold aJ
 rw [h]
 exact k
theorem Em {i:Nat}{m:ME}{ρ:aG}{μ μ':Hm}{d:D}(h:m ρ μ=some (d,μ')):aS i m ρ μ=some (.nx,ρ.set i (some d),μ'):=by
 unfold aS
 rw [h]
 rfl
theorem zI {α:Type}{o:Option α}{r:α}{Q:α->Prop}(h:W o fun x=>x=r):W o Q↔Q r:=by
 obtain ⟨_,h,rfl⟩:=h
 rw [h]
 exact W_some
theorem Eo {α:Type}{o:Option α}{r:α}(h:∀ Q:α->Prop,W o Q↔Q r):o=some r:=by
 obtain ⟨_,e,h1⟩:=(h fun x=>x=r).mpr rfl
 rw [e,h1]
theorem Ep {g:MF}{ms:MA}{ρ:aG}{μ μ':Hm}{ds:List D}{Q:D×Hm->Prop}(h:ms ρ μ=some (ds,μ'))(k:W (g ds μ') Q):W (aK g ms ρ μ) Q:=by
 unfold aK
 rw [h]
 exact k
noncomputable def qG (x y:Int):Str:=if x % 2=1 then (if x % 4=y % 4 then "falling" else "rising") else if y % 4=0 then "level" else "upright"
theorem Q4 (k:Nat)(x y:Int)(μ:Hm)(Q:D×Hm->Prop):W (f (k+1) "line_of" [P x y] μ) Q↔Q (.str (qG x y),μ):=by
 rw [Qb,W_fin]
 simp only [bK,w_mRet,dB,dM,yU,aU,aV,aE,cI,gZ,iJ,fB,cR (show (0:Int)<2 by decide),cR (show (0:Int)<4 by decide)]
 unfold qG
 split<;>split<;>simp_all
noncomputable def zJ (x y:Int)(a b:Int):Int:=if x % 2=1 then (if x % 4=y % 4 then a - b else a+b) else if y % 4=0 then b else a
theorem Q5 (k:Nat)(x y a b:Int)(μ:Hm)(Q:D×Hm->Prop):W (f (k+1) "number_by" [.str (qG x y),P a b] μ) Q↔Q (.int (zJ x y a b),μ):=by
 refine zI ?_
 rw [Qg]
 unfold qG zJ
 split<;>split<;>exact ⟨_,rfl,rfl⟩
noncomputable def cJ (p e:Int×Int):Int×Int:=
 if e.1 % 2=1 then (if e.1 % 4=e.2 % 4 then (p.2+(e.1 - e.2),p.1 - (e.1 - e.2)) else (e.1+e.2 - p.2,e.1+e.2 - p.1)) else if e.2 % 4=0 then (p.1,2 * e.2 - p.2) else (2 * e.1 - p.1,p.2)
theorem Er (k:Nat)(x y a b:Int)(μ:Hm)(Q:D×Hm->Prop):W (f (k+2) "mirrored" [P x y,P a b] μ) Q↔Q (PP (cJ (x,y) (a,b)),μ):=by
 refine zI ?_
 rw [Qh]
 refine kK rfl (kK rfl (kK (Em (Eo (Q4 k a b μ))) (kK (Em (Eo (Q5 k a b a b μ))) ?_)))
 unfold qG zJ cJ
 split<;>split<;>exact ⟨_,rfl,rfl⟩
noncomputable def dX:D->Int×Int
 | .tup [.int x,.int y]=>(x,y)
 | _=>(0,0)
theorem oA (p:Int×Int->Bool)(l:List (Int×Int)):((l.map PP).filter fun d=>p (dX d)).map (fun d=>d)=(l.filter p).map PP:=by
 rw [a2u]
 induction l with
 | nil=>rfl
 | cons a l ih=>
  have e:(List.map PP (a::l)).filter (fun d=>p (dX d))=if p a then PP a::(l.map PP).filter (fun d=>p (dX d)) else (l.map PP).filter fun d=>p (dX d):=by
   rw [T4,X0];rfl
  rw [e,ih,X0]
  split<;>rfl
theorem kL {d:D}{l:List (Int×Int)}(h:d∈l.map PP):∃ x y,d=P x y:=by
 obtain ⟨p,_,rfl⟩:=UZ.mp h
 exact ⟨p.1,p.2,rfl⟩
theorem tV {n:Nat}{i:Int}(h0:0<=i)(h:i<n):iR n i=some i.toNat:=by
 unfold iR;rw [if_pos h0,if_pos h]
theorem zK {gs:List Int}{i:Int}(h0:0<=i)(h:i<gs.length):atI (gs.map D.int) i=some (.int (gs.getD i.toNat 0)):=by
 unfold atI
 rw [Tt,tV h0 h,T3,Uu]
 have hi:i.toNat<gs.length:=by omega
 simp [Vb,hi]
theorem Es {xs:List D}{i:Int}{d:D}{μ:Hm}{Q:D×Hm->Prop}(h:atI xs i=some d):W (aI (.rol xs) (.int i) μ) Q↔Q (d,μ):=by
 have:aI (.rol xs) (.int i) μ=some (d,μ):=by
  simp only [aI,eV,bA,T3,h,Ui]
 rw [this]
 exact W_some
noncomputable def mB:List Int->Int
 | []=>0
 | g::r=>g - mB r
noncomputable def gE (gs:List Int):Bool:=decide (gs.length<=8)&&decide (gs.length % 2=0)&&gs.all (fun g=>decide (1<=g))&&mB gs == 0
theorem Q6 (k:Nat)(i:Int)(μ:Hm)(Q:D×Hm->Prop):W (f (k+1) "is_whole" [.int i] μ) Q↔Q (.bl true,μ):=by
 rw [P7,W_fin]
 simp only [w_mRet,nY,Ph,a8,aN,aM,aE,aV,PD,PF]
 simp
theorem Q7:∀ gs:List Int,gs.length<=8->gs.length % 2=0->∃ es os:List Int,dW (gs.map D.int) none none (some 2)=es.map D.int/\dW (gs.map D.int) (some 1) none (some 2)=os.map D.int/\es.sum - os.sum=mB gs/\es.length<=8/\os.length<=8
 | [],_,_=>⟨[],[],rfl,rfl,rfl,by decide,by decide⟩
 | [_],_,h=>by simp at h
 | [a,b],_,_=>⟨[a],[b],by kernel_rfl,by kernel_rfl,by simp [mB]<;>omega,by simp,by simp⟩
 | [_,_,_],_,h=>by simp at h
 | [a,b,c,d],_,_=>⟨[a,c],[b,d],by kernel_rfl,by kernel_rfl,by simp [mB]<;>omega,by simp,by simp⟩
 | [_,_,_,_,_],_,h=>by simp at h
 | [a,b,c,d,e,g],_,_=>⟨[a,c,e],[b,d,g],by kernel_rfl,by kernel_rfl,by simp [mB]<;>omega,by simp,by simp⟩
 | [_,_,_,_,_,_,_],_,h=>by simp at h
 | [a,b,c,d,e,g,x,y],_,_=>⟨[a,c,e,x],[b,d,g,y],by kernel_rfl,by kernel_rfl,by simp [mB]<;>omega,by simp,by simp⟩
 | _::_::_::_::_::_::_::_::_::_,h,_=>absurd h (by simp)
theorem zL {d:D}{gs:List Int}(h:d∈gs.map D.int):∃ g∈gs,d=.int g:=by
 obtain ⟨g,h1,rfl⟩:=UZ.mp h
 exact ⟨g,h1,rfl⟩
theorem qH {α:Type}(l:List α):l.filter (fun _=>true)=l:=by simp
theorem Q8 (k:Nat)(a:Nat)(gs:List Int)(hz:gs.length<=1000)(μ:Hm)(Q:D×Hm->Prop)(ha:μ[a]? = some (.lst (gs.map D.int)))(H:∀ μ',μ <+: μ'->Q (.bl (gE gs),μ')):W (f (k+2) "is_good" [.loc a] μ) Q:=by
 rw [Qn,W_fin]
 simp only [bK,dM,qE,cI,aU,a8,aN,aM,aE,aV]
 refine (n8 ha).mpr ?_
 simp only [D2,Tt]
 by_cases h8:(8:Int)<gs.length
 ·have e:gE gs=false:=by
   unfold gE;rw [decide_eq_false (show ¬ gs.length<=8 by omega)];rfl
  simp only [h8,decide_true,if_true,w_mRet,aV]
  rw [<- e]
  exact H _ (T9 _)
 ·simp only [h8,decide_false,TQ,if_false]
  refine (n8 ha).mpr ?_
  simp only [n9,fB,Tt]
  by_cases ho:(gs.length:Int) % 2=1
  ·have e:gE gs=false:=by
    unfold gE;rw [decide_eq_false (show ¬ gs.length % 2=0 by omega)];simp
   simp only [ho,beq_self_eq_true,if_true,w_mRet,aV]
   rw [<- e]
   exact H _ (T9 _)
  ·have e1:((gs.length:Int) % 2 == 1)=false:=by simpa using ho
   simp only [e1,TQ,if_false,dB,tN,jF,a8,aN,aM]
   refine gD (xs:=gs.map D.int) (p:=fun _=>true) (v:=fun d=>.bl (decide (1<=jK d))) ?_
   simp only [w_iSeq,aE]
   refine (eE ha).mpr ?_
   refine ⟨jG ha,rfl,by rw [Tt,Ud];omega,fun d μ' hd hp=>w_mTrue.mpr ⟨rfl,T9 _⟩,fun d μ' hd _ hp=>?_,fun μ1 hp1 hg1=>?_⟩
   ·obtain ⟨g,_,rfl⟩:=zL hd
    simp only [Ur,Ut,nY,a8,aN,aM,aE,aF,Q6,if_true,aU,aV,Pn]
    exact ⟨rfl,T9 _⟩
   ·have hg1':μ1[μ.length]? = some (.lst ((gs.map fun g=>decide (1<=g)).map D.bl)):=by
     rw [hg1,qH,UK,UK]
     rfl
    refine (PQ hg1').mpr ?_
    have hall:(gs.map fun g=>decide (1<=g)).all id=gs.all fun g=>decide (1<=g):=by
     rw [Z7];rfl
    rw [hall]
    simp only [kH]
    cases hb:gs.all fun g=>decide (1<=g) with
    | false=>
     have e:gE gs=false:=by
      unfold gE;rw [hb];simp
     simp only [ZG,if_true,w_mRet,aV]
     rw [<- e]
     exact H _ hp1
    | true=>
     simp only [XU,TQ,if_false,dB,w_mRet,aU,a8,aN,aM]
     obtain ⟨es,os,he,ho',hs,l1,l2⟩:=Q7 gs (by omega) (by omega)
     have ha1:=aY hp1 ha
     refine Ea ?_
     simp only [aE]
     refine ⟨a,rfl,?_⟩
     simp only [tR,tS,aV]
     refine ⟨by decide,_,ha1,?_,?_⟩
     ·rw [he,Tt,Ud];omega
     rw [he]
     refine (D9 (bI _ _)).mpr ?_
     refine Ea ?_
     simp only [aE]
     refine ⟨a,rfl,?_⟩
     simp only [tR,tS,aV]
     refine ⟨by decide,_,aY (aZ _ _) ha1,?_,?_⟩
     ·rw [ho',Tt,Ud];omega
     rw [ho']
     refine (D9 (bI _ _)).mpr ?_
     refine (fB).mpr ?_
     have e:gE gs=(es.sum == os.sum):=by
      unfold gE
      rw [hb,decide_eq_true (show gs.length<=8 by omega),decide_eq_true (show gs.length % 2=0 by omega)]
      simp only [Bool.true_and]
      rw [Xo,beq_iff_eq,beq_iff_eq]
      omega
     rw [<- e]
     exact H _ (hp1.trans ((aZ _ _).trans (aZ _ _)))
noncomputable def mD (h:Int)(x:Int):List (Int×Int):=(UB (4 * h - 1).toNat).map fun (j:Nat)=>(x,1+(j:Int))
noncomputable def kM (h:Int)(n:Nat):List (Int×Int):=(UB n).flatMap fun (i:Nat)=>mD h (1+(i:Int))
noncomputable def d7 (w h:Int):List (Int×Int):=kM h (4 * w - 1).toNat
theorem Et (h:Int)(n:Nat):kM h (n+1)=kM h n++mD h (1+(n:Int)):=by
 unfold kM;rw [Zj,a0G];simp
theorem Eu (h x:Int):(mD h x).length=(4 * h - 1).toNat:=by unfold mD;simp
theorem zM (h:Int):∀ n:Nat,(kM h n).length=n * (4 * h - 1).toNat
 | 0=>by simp [kM]
 | n+1=>by rw [Et,Ua,zM h n,Eu,Y0]
theorem Ew {h:Int}(hh:h<=6){n:Nat}(hn:n<=23):n * (4 * h - 1).toNat<=529:=by
 have:n * (4 * h - 1).toNat<=23 * 23:=ZO hn (by omega)
 omega
theorem Q9 (h x:Int):((fR 1 (4 * h - 1).toNat).filter fun _=>true).map (fun d=>P x (jK d))=(mD h x).map PP:=by
 unfold fR mD
 rw [show ∀ l:List D,l.filter (fun _=>true)=l from fun l=>by simp,UK,UK]
 rfl
theorem Ey (k:Nat)(w h:Int)(hw:1<=w/\w<=6)(hh:1<=h/\h<=6)(μ:Hm)(Q:D×Hm->Prop)(H:∀ a μ',μ <+: μ'->μ'[a]? = some (.lst ((d7 w h).map PP))->μ.length<=a->Q (.loc a,μ')):W (f (k+1) "places_within" [.int w,.int h] μ) Q:=by
 rw [Qj,W_fin]
 simp only [bK,cB,eM,aM]
 refine ⟨UP _,?_⟩
 simp only [Tx,TC,fC,tP,aN,aM,aV,aU,aE,aF,l8]
 refine ⟨by omega,?_⟩
 refine y8 (lo:=1) (fun i ρ μ'=>μ <+: μ'/\μ'[μ.length]? = some (.lst ((kM h i).map PP))/\∃ o,ρ=[some (.int w),some (.int h),some (.loc μ.length),o]) ⟨aZ _ _,bI _ _,none,rfl⟩ ?_ ?_
 ·rintro i ρ μ1 hi ⟨hp,hg,o,rfl⟩
  refine ⟨_,rfl,?_⟩
  simp only [Tx,TC,kE]
  refine jH ?_
  simp only [aE,aF]
  refine ⟨jI hg,?_⟩
  simp only [aN,aM]
  refine gD (xs:=fR 1 (4 * h - 1).toNat) (p:=fun _=>true) (v:=fun d=>P (1+(i:Int)) (jK d)) ?_
  simp only [tP,aN,aM,aV,aU,aE,aF,l8]
  refine ⟨by omega,D4,by simp [fR],by rw [Ud];simp [fR];omega,?_,?_,?_⟩
  ·intro d μ' hd hp
   exact w_mTrue.mpr ⟨rfl,T9 _⟩
  ·intro d μ' hd _ hp
   obtain ⟨j,hj,rfl⟩:=Ek hd
   simp only [Ur,Ut,eL,aN,aM,aE,aF,iK,true_and]
   exact ⟨rfl,T9 _⟩
  ·intro μ2 hp2 hg2
   rw [Q9] at hg2
   have hlen:((kM h i).map PP).length+((mD h (1+(i:Int))).map PP).length<=TL:=by
    have h1:=Ew (h:=h) hh.2 (n:=i+1) (by omega)
    rw [Y0] at h1
    rw [Tt,Tt,zM,Eu,Ud]
    omega
   refine (PC (aY hp2 hg) hg2 hlen).mpr ?_
   refine ⟨gC (hp.trans hp2) (TK _) _,?_,_,rfl⟩
   rw [UD (Tw.mp (aY hp2 hg)).1,Et,UH]
 ·rintro ρ μ1 ⟨hp,hg,o,rfl⟩
  simp only [w_mRet,aE,aF]
  exact H _ _ hp hg (TK _)
theorem Ez {w h:Int}(hw:w<=6)(hh:h<=6):(d7 w h).length<=529:=by
 unfold d7
 rw [zM]
 exact Ew hh (by omega)
noncomputable def mv (x y:Int)(l:List (Int×Int)):List (Int×Int):=l.map fun s=>(x+s.1,y+s.2)
theorem EA (k:Nat)(x y:Int)(l:List (Int×Int))(hl:l.length<=63)(μ:Hm)(Q:D×Hm->Prop)(h:∀ a μ',μ <+: μ'->μ'[a]? = some (.lst ((mv x y l).map PP))->μ.length<=a->Q (.loc a,μ')):W (f (k+1) "moved_by" [P x y,.tup (l.map PP)] μ) Q:=by
 rw [Qe,W_fin]
 simp only [w_mRet]
 refine gD (xs:=l.map PP) (p:=fun _=>true) (v:=fun d=>PP (x+(dX d).1,y+(dX d).2)) ?_
 simp only [w_iSeq,aE,aF]
 refine w_seqT.mpr ?_
 refine ⟨Py,rfl,by rw [Tt,Ud];omega,fun d μ' hd hp=>W_some.mpr ⟨rfl,T9 _⟩,fun d μ' hd _ hp=>?_,fun μ' hp hg=>?_⟩
 ·obtain ⟨u,v,rfl⟩:=kL hd
  simp only [Ur,Ut,eL,aU,aV,aN,aM,aE,aF,gZ,iJ,dN,iK,true_and]
  exact ⟨rfl,T9 _⟩
 ·refine h _ _ hp ?_ (TK _)
  rw [hg,List.filter_eq_self.mpr (fun _ _=>rfl),UK]
  unfold mv
  rw [UK]
  rfl
noncomputable def E8:List (Int×Int):=[(2,0),(1,1),(0,2),(-1,1),(-2,0),(-1,-1),(0,-2),(1,-1)]
noncomputable def F4:List (Int×Int):=[(1,1),(-1,1),(-1,-1),(1,-1)]
noncomputable def cW (x:Int):List (Int×Int):=if x % 4=0 then E8 else F4
theorem EB (k:Nat)(x y:Int)(μ:Hm)(Q:D×Hm->Prop)(h:∀ a μ',μ <+: μ'->μ'[a]? = some (.lst ((mv x y (cW x)).map PP))->μ.length<=a->Q (.loc a,μ')):W (f (k+2) "edges_round" [P x y] μ) Q:=by
 rw [Qf,W_fin]
 simp only [w_mRet,a8,aN,aM,aE,yU,cI,aU,aV,gZ,l9,fB]
 unfold cW at h
 by_cases e:x % 4=0
 ·rw [if_pos e] at h
  rw [e]
  exact EA k x y E8 (by decide) μ _ h
 ·rw [if_neg e] at h
  rw [if_neg (by simpa using e)]
  exact EA k x y F4 (by decide) μ _ h
theorem EC (μ:Hm)(q:Int×Int):∀ ps:List (Int×Int),i0 μ (PP q) (ps.map PP)=some (ps.any fun p=>p == q)
 | []=>rfl
 | p::ps=>by
  rw [T4]
  show (cA 8 μ (PP p) (PP q)).bind (fun b=>(i0 μ (PP q) (ps.map PP)).map fun c=>b||c)=_
  rw [zB 6,EC μ q ps]
  rfl
theorem Ra {μ:Hm}{b:Nat}{ns:List Int}{Q:D×Hm->Prop}(hb:μ[b]? = some (.lst [])):W (aR false (.rol (ns.map D.int)) (.loc b) μ) Q↔Q (.bl (ns == []),μ):=by
 have h1:eN μ (.rol (ns.map D.int))=some (.lst (ns.map D.int)):=rfl
 have h2:eN μ (.loc b)=some (.lst (([]:List Int).map D.int)):=by simp only [eN,hb];rfl
 have:cA 8 μ (.rol (ns.map D.int)) (.loc b)=some (ns == []):=by
  show (eN μ (.rol (ns.map D.int))).bind (fun x=>(eN μ (.loc b)).bind fun y=>iA (cA 7 μ) x y)=_
  rw [h1,h2]
  exact D6 6 μ ns []
 unfold aR
 rw [this]
 exact W_some
noncomputable def dC (ns:List Int)(i:Int):Int:=if i<ns.length then ns.getD i.toNat 0 else if ns=[] then i * i * 48271 % 2147483647 else
 ((ns.getD (i % ns.length).toNat 0 % 2147483629+i * i * 69623) * 48271 % 2147483647) * ((ns.getD (i % ns.length).toNat 0 % 2147483629+i * i * 69623) * 48271 % 2147483647) % 2147483629
theorem ED {i:Int}(hi:0<=i/\i<=100):0<=i * i/\i * i<=10000:=by
 refine ⟨Int.mul_nonneg hi.1 hi.1,?_⟩
 have:=a2e hi.2 hi.2 hi.1 (by decide)
 omega
theorem kN (k:Nat)(ns:List Int)(i:Int)(hi:0<=i/\i<=100)(μ:Hm)(Q:D×Hm->Prop)(H:∀ μ',μ <+: μ'->Q (.int (dC ns i),μ')):W (f (k+1) "_law_cell" [.rol (ns.map D.int),.int i] μ) Q:=by
 rw [Qz,W_fin]
 have hs:=ED hi
 simp only [bK,dM,cI,aU,a8,aN,aM,aE,aF,aV,D7,yY,Tt]
 by_cases h:i<ns.length
 ·simp only [h,decide_true,if_true,w_mRet,aU,aE,aF]
  rw [Es (zK hi.1 h)]
  have e:dC ns i=ns.getD i.toNat 0:=by unfold dC;rw [if_pos h]
  rw [<- e]
  exact H _ (T9 _)
 ·simp only [h,decide_false,TQ,if_false,dB,bK,dM,cI,aU,aE,eM,aM]
  refine ⟨UP _,?_⟩
  refine (Ra (bI _ _)).mpr ?_
  by_cases h0:ns=[]
  ·have e:(ns == [])=true:=by rw [h0];rfl
   simp only [e,if_true,w_mRet,aU,aE,aF,aV]
   refine (dE (.inl (by omega))).mpr ((dE (.inr (by omega))).mpr ((cR (by decide)).mpr ?_))
   have e:dC ns i=i * i * 48271 % 2147483647:=by unfold dC;rw [if_neg h,if_pos h0]
   rw [<- e]
   exact H _ (aZ _ _)
  ·have e:(ns == [])=false:=by
    cases ns with
    | nil=>exact absurd rfl h0
    | cons=>rfl
   have hl:0<ns.length:=Xx.mpr h0
   simp only [e,TQ,if_false,dB,bK,cB,w_mRet,aU,aE,aF,aV,a8,aN,aM,D7,Tt]
   refine (cR (by omega)).mpr ?_
   have hm:0<=i % (ns.length:Int)/\i % (ns.length:Int)<ns.length:=⟨Vc _ (by omega),UY _ (by omega)⟩
   rw [Es (zK hm.1 hm.2)]
   have e:dC ns i=((ns.getD (i % ns.length).toNat 0 % 2147483629+i * i * 69623) * 48271 % 2147483647) * ((ns.getD (i % ns.length).toNat 0 % 2147483629+i * i * 69623) * 48271 % 2147483647) % 2147483629:=by
    unfold dC;rw [if_neg h,if_neg h0]
   refine (cR (by decide)).mpr ((dE (.inl (by omega))).mpr ((dE (.inr (by omega))).mpr ?_))
   simp only [dN]
   refine (dE (.inr (by omega))).mpr ((cR (by decide)).mpr ?_)
   simp only [Tx,TC,aE,aF]
   generalize hy:(ns.getD (i % ns.length).toNat 0 % 2147483629+i * i * 69623) * 48271 % 2147483647=y at e
   have hy1:0<=y/\y<2147483647:=by
    rw [<- hy];exact ⟨Vc _ (by decide),UY _ (by decide)⟩
   refine (dE (.inl (by omega))).mpr ((cR (by decide)).mpr ?_)
   rw [<- e]
   exact H _ (aZ _ _)
noncomputable def fS (lo:Int)(n m:Nat):List (Int×Int):=(UB n).flatMap fun (i:Nat)=>(UB m).map fun (j:Nat)=>(lo+(i:Int),lo+(j:Int))
noncomputable def hJ (lo x:Int)(m:Nat):List (Int×Int):=(UB m).map fun (j:Nat)=>(x,lo+(j:Int))
theorem EE (lo:Int)(n m:Nat):fS lo (n+1) m=fS lo n m++hJ lo (lo+(n:Int)) m:=by
 unfold fS hJ;rw [Zj,a0G];simp
theorem EF (lo x:Int)(m:Nat):hJ lo x (m+1)=hJ lo x m++[(x,lo+(m:Int))]:=by
 unfold hJ;rw [Zj,UH];rfl
theorem EG (lo x:Int)(m:Nat):(hJ lo x m).length=m:=by unfold hJ;simp
theorem EH (lo:Int)(m:Nat):∀ n:Nat,(fS lo n m).length=n * m
 | 0=>by simp [fS]
 | n+1=>by rw [EE,Ua,EH lo m n,EG,Y0]
theorem EI {μ:Hm}{a:Nat}{c c':C}:(μ.set a c).set a c'=μ.set a c':=List.set_set ..
theorem gF {μ:Hm}{a:Nat}{c c':C}(h:μ[a]? = some c):(μ.set a c')[a]? = some c':=by
 rw [UD (Tw.mp h).1]
theorem zN (μ:Hm)(c c':C):(μ++[c]).set μ.length c'=μ++[c']:=by
 rw [Yh _ _ (TK _)];simp
theorem EJ {μ:Hm}{a:Nat}{c:C}(h:μ[a]? = some c):μ.set a c=μ:=by
 obtain ⟨hl,rfl⟩:=Tw.mp h
 exact List.set_getElem_self hl
noncomputable abbrev EK:MS:=c9 (cV d4 (aA 2) (aC (bH (aC (aA 3) (aC (aA 4) aD))) aD))
theorem Rb (T:MT)(pr:Int->Int->Bool)(d0 d1:D)(a:Nat)(x:Int)(hT:∀ y μ Q,W (T [some d0,some d1,some (.loc a),some (.int x),some (.int y)] μ) Q↔Q (pr x y,μ))(lo:Int)(m:Nat)(ps:List (Int×Int))(hl:ps.length+m<=1000)(μ:Hm)(ha:μ[a]? = some (.lst (ps.map PP)))(o:Option D)(Q:Fl×aG×Hm->Prop)
  (stop:∀ o,Q (.nx,[some d0,some d1,some (.loc a),some (.int x),o],μ.set a (.lst ((ps++(hJ lo x m).filter fun p=>pr p.1 p.2).map PP)))):W (eP (fJ lo m) (dQ 4) (bB T EK bD) (m+1) 0 [some d0,some d1,some (.loc a),some (.int x),o] μ) Q:=by
 refine y8 (fun i ρ μ'=>i<=m/\μ'=μ.set a (.lst ((ps++(hJ lo x i).filter fun p=>pr p.1 p.2).map PP))/\∃ o,ρ=[some d0,some d1,some (.loc a),some (.int x),o]) ⟨UP _,?_,o,rfl⟩ ?_ ?_
 ·simp only [hJ,a1M,X8,a1O,Xl]
  exact (EJ ha).symm
 ·rintro i ρ μ1 hi ⟨_,rfl,o,rfl⟩
  refine ⟨_,rfl,?_⟩
  simp only [Tx,TC,dM]
  rw [hT]
  cases hb:pr x (lo+(i:Int)) with
  | false=>
   simp only [TQ,if_false,dB]
   refine ⟨hi,?_,_,rfl⟩
   rw [EF,VP]
   simp [hb]
  | true=>
   simp only [if_true,kE]
   refine jH ?_
   simp only [aE,aF]
   refine ⟨jI (gF ha),?_⟩
   simp only [aN,aM,eL,aE,aF,iK,true_and]
   refine (n6 (gF ha) ?_).mpr ?_
   ·have:=U5 (fun p=>pr p.1 p.2) (hJ lo x i)
    rw [EG] at this
    rw [Tt,Ua,Ud]
    omega
   refine ⟨hi,?_,_,rfl⟩
   rw [EI,EF,VP]
   simp [hb,PP,P]
 ·rintro ρ μ1 ⟨_,rfl,o,rfl⟩
  exact stop o
theorem EL (T:MT)(pr:Int->Int->Bool)(d0 d1:D)(a:Nat)(it:MI)(lo:Int)(m:Nat)(hit:∀ o1 o2 μ Q,W (it [some d0,some d1,some (.loc a),o1,o2] μ) Q↔Q (fJ lo m,m+1,μ))(hT:∀ x y μ Q,W (T [some d0,some d1,some (.loc a),some (.int x),some (.int y)] μ) Q↔Q (pr x y,μ))(n:Nat)(hl:n * m+m<=900)(μ:Hm)(ha:μ[a]? = some (.lst []))(Q:Fl×aG×Hm->Prop)
  (stop:∀ o1 o2,Q (.nx,[some d0,some d1,some (.loc a),o1,o2],μ.set a (.lst (((fS lo n m).filter fun p=>pr p.1 p.2).map PP)))):W (eP (fJ lo n) (dQ 3) (dD it (dQ 4) (bB T EK bD)) (n+1) 0 [some d0,some d1,some (.loc a),none,none] μ) Q:=by
 refine y8 (fun i ρ μ'=>i<=n/\μ'=μ.set a (.lst (((fS lo i m).filter fun p=>pr p.1 p.2).map PP))/\∃ o1 o2,ρ=[some d0,some d1,some (.loc a),o1,o2]) ⟨UP _,?_,none,none,rfl⟩ ?_ ?_
 ·simp only [fS,a1M,List.flatMap_nil,a1O,X8]
  exact (EJ ha).symm
 ·rintro i ρ μ1 hi ⟨_,rfl,o1,o2,rfl⟩
  refine ⟨_,rfl,?_⟩
  simp only [Tx,TC,fC]
  rw [hit]
  refine Rb T pr d0 d1 a _ (hT _) lo m _ ?_ _ (gF ha) _ _ fun o=>?_
  ·have h1:=U5 (fun p=>pr p.1 p.2) (fS lo i m)
   rw [EH] at h1
   have h2:i * m<=n * m:=Nat.mul_le_mul_right _ (XA hi)
   omega
  ·refine ⟨hi,?_,_,_,rfl⟩
   rw [EI,EE,VP]
 ·rintro ρ μ1 ⟨_,rfl,o1,o2,rfl⟩
  exact stop o1 o2
noncomputable def zO (x y:Int):Bool:=(x % 2 == 1&&y % 2 == 1)||(x % 2 == 0&&x % 4+y % 4 == 2)
noncomputable def zP (x y:Int):Bool:=(x % 4 == 2&&y % 2 == 1)||(x % 2 == 1&&y % 4 == 2)
noncomputable def hU (w h:Int):List (Int×Int):=(fS 1 (4 * w - 1).toNat (4 * h - 1).toNat).filter fun p=>zO p.1 p.2
noncomputable def cS (w h:Int):List (Int×Int):=(fS 0 (4 * w).toNat (4 * h).toNat).filter fun p=>zP p.1 p.2
theorem EM {w h:Int}(hw:1<=w/\w<=3)(hh:1<=h/\h<=3):(4 * w).toNat * (4 * h).toNat+(4 * h).toNat<=900/\(4 * w - 1).toNat * (4 * h - 1).toNat+(4 * h - 1).toNat<=900:=by
 have h1:(4 * w).toNat<=12:=by omega
 have h2:(4 * h).toNat<=12:=by omega
 have h3:=ZO h1 h2
 have h4:(4 * w - 1).toNat * (4 * h - 1).toNat<=12 * 12:=ZO (by omega) (by omega)
 omega
theorem Rc (k:Nat)(w h:Int)(hw:1<=w/\w<=3)(hh:1<=h/\h<=3)(μ:Hm)(Q:D×Hm->Prop)(H:Q (.loc μ.length,μ++[.lst ((hU w h).map PP)])):W (f (k+1) "_law_inner" [.int w,.int h] μ) Q:=by
 rw [QC,W_fin]
 simp only [bK,cB,eM,aM]
 refine ⟨UP _,?_⟩
 simp only [Tx,TC,fC,tP,aN,aM,aV,aU,aE,aF,l8]
 refine ⟨by omega,?_⟩
 refine EL _ zO _ _ _ _ 1 (4 * h - 1).toNat (fun o1 o2 μ Q=>?_) (fun x y μ Q=>?_) (4 * w - 1).toNat (EM hw hh).2 _ (bI _ _) _ fun o1 o2=>?_
 ·simp only [tP,aN,aM,aV,aU,aE,aF,l8]
  exact and_iff_right (by omega)
 ·simp only [qE,yV,cI,aU,aE,aF,aV,n9,l9,fB,dN]
  unfold zO
  cases x % 2 == 1<;>cases y % 2 == 1<;>cases x % 2 == 0<;>cases x % 4+y % 4 == 2<;>simp
 ·simp only [w_mRet,aE,aF]
  rw [zN]
  exact H
theorem EO (k:Nat)(w h:Int)(hw:1<=w/\w<=3)(hh:1<=h/\h<=3)(μ:Hm)(Q:D×Hm->Prop)(H:Q (.loc μ.length,μ++[.lst ((cS w h).map PP)])):W (f (k+1) "_law_quarters" [.int w,.int h] μ) Q:=by
 rw [QH,W_fin]
 simp only [bK,cB,eM,aM]
 refine ⟨UP _,?_⟩
 simp only [Tx,TC,fC]
 rw [yZ (j:=0)]
 simp only [aN,aM,aV,aU,aE,aF,l8]
 refine ⟨by omega,?_⟩
 refine EL _ zP _ _ _ _ 0 (4 * h).toNat (fun o1 o2 μ Q=>?_) (fun x y μ Q=>?_) (4 * w).toNat (EM hw hh).1 _ (bI _ _) _ fun o1 o2=>?_
 ·rw [yZ (j:=0)]
  simp only [aN,aM,aV,aU,aE,aF,l8]
  exact and_iff_right (by omega)
 ·simp only [qE,yV,cI,aU,aE,aF,aV,n9,l9,fB,dN]
  unfold zP
  cases x % 4 == 2<;>cases y % 2 == 1<;>cases x % 2 == 1<;>cases y % 4 == 2<;>simp
 ·simp only [w_mRet,aE,aF]
  rw [zN]
  exact H
theorem ER:(6:Nat)<=TL:=by decide
theorem Rf {ρ:aG}{i1 i2 i3 i4 i5 i6:Nat}{a b c d e g:D}{μ:Hm}{Q:aG->Prop}:W (cU [i1,i2,i3,i4,i5,i6] (.tup [a,b,c,d,e,g]) ρ μ) Q↔Q ((((((ρ.set i1 (some a)).set i2 (some b)).set i3 (some c)).set i4 (some d)).set i5 (some e)).set i6 (some g)):=W_some
noncomputable def fT (x y:Int):Int×Int:=if y % 4=0 then (0,y) else if x % 4=0 then (1,x) else if x % 4=y % 4 then (2,x - y) else (3,x+y)
theorem Rg (k:Nat)(x y:Int)(μ:Hm)(Q:D×Hm->Prop):W (f (k+1) "_law_line" [P x y] μ) Q↔Q (PP (fT x y),μ):=by
 refine zI ?_
 rw [QD]
 unfold fT
 refine kK rfl (kJ rfl (fun h=>?_) fun h=>kJ rfl (fun h2=>?_) fun h2=>kJ rfl (fun h3=>?_) fun h3=>?_)
 ·rw [if_pos (by simpa using h)];exact ⟨_,rfl,rfl⟩
 ·rw [if_neg (by simpa using h),if_pos (by simpa using h2)];exact ⟨_,rfl,rfl⟩
 ·rw [if_neg (by simpa using h),if_neg (by simpa using h2),if_pos (by simpa using h3)];exact ⟨_,rfl,rfl⟩
 ·rw [if_neg (by simpa using h),if_neg (by simpa using h2),if_neg (by simpa using h3)];exact ⟨_,rfl,rfl⟩
noncomputable def jJ (d:D):Prop:=∃ a b c d' e g:Int,d=.tup [.int a,.int b,.int c,.int d',.int e,.int g]
theorem Rh (k:Nat)(d:D)(hd:jJ d)(x y:Int)(hx:0<=x/\x<=100)(hy:0<=y/\y<=100)(μ:Hm)(Q:D×Hm->Prop)(H:∀ u v,Q (P u v,μ)):W (f (k+1) "_law_led" [d,P x y] μ) Q:=by
 obtain ⟨a,b,c,d',e,g,rfl⟩:=hd
 rw [QK,W_fin]
 simp only [bK,yW,aE,Rf,Tx,TC,w_mRet,eL,aN,aM,aU,aF,aV,gZ,iJ]
 refine (dE (.inr (by omega))).mpr ((dE (.inr (by omega))).mpr ?_)
 simp only [dN]
 refine (dE (.inr (by omega))).mpr ((dE (.inr (by omega))).mpr ?_)
 simp only [dN,iK,true_and]
 exact H _ _
theorem Ri (k:Nat)(d:D)(hd:jJ d)(u n:Int)(μ:Hm)(Q:D×Hm->Prop)(H:∀ d',jJ d'->Q (d',μ)):W (f (k+1) "_law_over" [d,P u n] μ) Q:=by
 obtain ⟨a,b,c,d',e,g,rfl⟩:=hd
 rw [QL]
 refine kK rfl (kK rfl (kJ rfl (fun _=>⟨_,rfl,?_⟩) fun _=>kJ rfl (fun _=>⟨_,rfl,?_⟩) fun _=>kJ rfl (fun _=>⟨_,rfl,?_⟩) fun _=>⟨_,rfl,?_⟩))<;>exact H _ ⟨_,_,_,_,_,_,rfl⟩
theorem Rj {a b c d:Int}{i:Int}(h:0<=i/\i<4):∃ v:Int,atI [D.int a,.int b,.int c,.int d] i=some (.int v):=by
 have:i=0\/i=1\/i=2\/i=3:=by omega
 rcases this with rfl|rfl|rfl|rfl
 ·exact ⟨a,rfl⟩
 ·exact ⟨b,rfl⟩
 ·exact ⟨c,rfl⟩
 ·exact ⟨d,rfl⟩
theorem Rk (k:Nat)(x y u:Int)(hu:0<=u/\u<4)(μ:Hm)(Q:D×Hm->Prop)(H:∀ (v:Int) μ',μ <+: μ'->Q (.int v,μ')):W (f (k+1) "_law_value" [P x y,.int u] μ) Q:=by
 rw [QM,W_fin]
 simp only [w_mRet,aU,eM,aN,aM,aE,aF,aV,gZ,iJ,yX,dN]
 refine ⟨by show (4:Nat)<=TL;decide,?_⟩
 obtain ⟨v,hv⟩:=Rj (a:=y) (b:=x) (c:=x - y) (d:=x+y) hu
 refine (nZ (bI _ _) hv).mpr ?_
 exact H _ _ (aZ _ _)
noncomputable def zQ (p l:Int×Int):Int×Int:=if l.1=0 then (p.1,2 * l.2 - p.2) else if l.1=1 then (2 * l.2 - p.1,p.2) else if l.1=2 then (p.2+l.2,p.1 - l.2) else (l.2 - p.2,l.2 - p.1)
noncomputable def bS (p:Int×Int):List Int:=[p.1,p.2]
theorem ES:∀ ps:List (Int×Int),pI (ps.map PP)=some (ps.map bS)
 | []=>rfl
 | p::ps=>by
  rw [T4]
  show (dZ (PP p)).bind (fun k=>(pI (ps.map PP)).map (k::·))=_
  rw [ES ps]
  rfl
theorem Rl {ps:List (Int×Int)}(h:ps≠[]):jU (ps.map PP)=none:=by
 cases ps with
 | nil=>exact absurd rfl h
 | cons p ps=>rfl
theorem zR {α:Type}(l:List α)(d:α):(UB l.length).map (fun i=>l.getD i d)=l:=by
 refine a1D (by simp) fun i h1 h2=>?_
 simp [Vb,h2]
theorem ET {μ:Hm}{a:Nat}{ps:List (Int×Int)}{Q:D×Hm->Prop}(h:μ[a]? = some (.lst (ps.map PP)))(hl:ps.length<64)(H:∀ qs:List (Int×Int),qs.Perm ps->Q (.loc μ.length,μ++[.lst (qs.map PP)])):W (iF [.loc a] μ) Q:=by
 by_cases h0:ps=[]
 ·subst h0
  have e:e8 []=[]:=by simp [e8]
  refine (PZ (is:=[]) h (by decide)).mpr ?_
  rw [e]
  exact H [] (.refl _)
 have hp:0<ps.length:=Xx.mpr h0
 have e1:lT [.loc a] μ=none:=by
  simp only [lT,dR,h,T3]
  rw [Rl h0];rfl
 have pm:=m4 (nF (ps.map bS)) hp
 have e2:(cF (nF (ps.map bS)) ps.length).map (fun i=>(ps.map PP).getD i .non)=((cF (nF (ps.map bS)) ps.length).map fun i=>ps.getD i (0,0)).map PP:=by
  rw [UK]
  refine Xw fun i hi=>?_
  have hi:i<ps.length:=Vn.mp (pm.mem_iff.mp hi)
  simp [Vb,hi]
 have e3:pJ [.loc a] μ=some (.loc μ.length,μ++[.lst (((cF (nF (ps.map bS)) ps.length).map fun i=>ps.getD i (0,0)).map PP)]):=by
  simp only [pJ,dR,h,T3,ES]
  rw [if_pos ⟨by rw [Tt];omega,by rw [Tt];omega,fun t ht=>by obtain ⟨p,_,rfl⟩:=UZ.mp ht;simp [bS]⟩,Tt,e2]
 simp only [iF,e1,e3]
 refine W_some.mpr (H _ ?_)
 have:=pm.map fun i=>ps.getD i (0,0)
 rw [zR] at this
 exact this
noncomputable def oB (x y:Int):List (Int×Int):=if y % 4=0 then [(x,y - 1),(x,y+1)] else if x % 4=0 then [(x - 1,y),(x+1,y)] else [(x+2 - x % 4,y),(x,y+2 - y % 4)]
theorem Rm (k:Nat)(x y:Int)(μ:Hm)(Q:D×Hm->Prop)(H:∀ b q1 q2 μ',μ <+: μ'->μ'[b]? = some (.lst [PP q1,PP q2])->q1∈oB x y->q2∈oB x y->Q (.loc b,μ')):W (f (k+1) "_law_beside" [P x y] μ) Q:=by
 rw [QF]
 unfold oB at H
 refine kK rfl (kJ rfl (fun h=>⟨_,rfl,?_⟩) fun h=>kJ rfl (fun h2=>⟨_,rfl,?_⟩) fun h2=>W_fin.mpr (w_mRet.mpr ?_))
 ·rw [if_pos (by simpa using h)] at H
  exact H _ (x,y - 1) (x,y+1) _ (aZ _ _) (bI _ _) (by simp) (by simp)
 ·rw [if_neg (by simpa using h),if_pos (by simpa using h2)] at H
  exact H _ (x - 1,y) (x+1,y) _ (aZ _ _) (bI _ _) (by simp) (by simp)
 ·rw [if_neg (by simpa using h),if_neg (by simpa using h2)] at H
  refine Ep rfl (ET (ps:=[(x+2 - x % 4,y),(x,y+2 - y % 4)]) (bI _ _) (by simp) fun qs hq=>?_)
  match qs,hq,hq.length_eq with
  | [q1,q2],hq,_=>
   exact H _ q1 q2 _ ((aZ _ _).trans (aZ _ _)) (bI _ _) (hq.mem_iff.mp (by simp)) (hq.mem_iff.mp (by simp))
theorem Rn {i:Int}(h:0<=i/\i<4):∃ v:Int,atI [D.int 3,.int 3,.int 4,.int 4] i=some (.int v)/\0<v:=by
 have:i=0\/i=1\/i=2\/i=3:=by omega
 rcases this with rfl|rfl|rfl|rfl
 ·exact ⟨3,rfl,by decide⟩
 ·exact ⟨3,rfl,by decide⟩
 ·exact ⟨4,rfl,by decide⟩
 ·exact ⟨4,rfl,by decide⟩
theorem Ro (x y:Int):0<=(fT x y).1/\(fT x y).1<4:=by
 unfold fT
 split
 ·exact ⟨by simp,by simp⟩
 ·split
  ·exact ⟨by simp,by simp⟩
  ·split<;>exact ⟨by simp,by simp⟩
theorem oC {es:List (Int×Int)}{i:Nat}{d:D}(h:(es.map PP)[i]? = some d):∃ p,es[i]? = some p/\d=PP p:=by
 rw [Uu] at h
 obtain ⟨p,h1,h2⟩:=Tq.mp h
 exact ⟨p,h1,h2.symm⟩
theorem Rq (k:Nat)(a:Nat)(es:List (Int×Int))(he:es.length<=1000)(n:Int)(μ:Hm)(ha:μ[a]? = some (.lst (es.map PP)))(Q:D×Hm->Prop)(H:∀ b (fs:List (Int×Int)) μ',μ <+: μ'->μ'[b]? = some (.lst (fs.map PP))->fs.length<=es.length->Q (.loc b,μ')):W (f (k+2) "_law_by_lines" [.loc a,.int n] μ) Q:=by
 rw [QU,W_fin]
 simp only [bK,cB,eM,aM]
 refine ⟨UP _,?_⟩
 simp only [Tx,TC,fC,w_iSeq,aE]
 refine (eE (aY (aZ _ _) ha)).mpr ?_
 refine kI (fun i ρ μ'=>μ <+: μ'/\∃ fs o3 o4 o5,μ'[μ.length]? = some (.lst ((fs:List (Int×Int)).map PP))/\fs.length<=i/\i<=es.length/\ρ=[some (.loc a),some (.int n),some (.loc μ.length),o3,o4,o5]) ⟨aZ _ _,[],none,none,none,bI _ _,TK _,UP _,rfl⟩ (fun i ρ μ' h=>aY h.1 ha) ?_ ?_
 ·rintro i d ρ μ1 hd ⟨hp,fs,o3,o4,o5,hg,hf,_,rfl⟩
  obtain ⟨⟨x,y⟩,hx,rfl⟩:=oC hd
  have hi:i<es.length:=(Tw.mp hx).1
  refine ⟨_,rfl,?_⟩
  simp only [Tx,TC,bK,yW,a8,aN,aM,aE,aF]
  refine (Rg k x y _ _).mpr ?_
  have hk:=Ro x y
  generalize fT x y=l at hk
  obtain ⟨u,m⟩:=l
  dsimp only at hk
  simp only [PP,P,Pw,Tx,TC,dM,cI,aU,aE,aF,aV]
  refine (dE (.inl (by decide))).mpr ((iI (by decide) (by decide)).mpr ?_)
  simp only [Ej,dN]
  have h5:0<=m / 4 % 5/\m / 4 % 5<5:=⟨Vc _ (by decide),UY _ (by decide)⟩
  refine (iI (by omega) (by omega)).mpr ?_
  simp only [eM,aN,aM,aV]
  refine ⟨by decide,?_⟩
  obtain ⟨v,hv,hv0⟩:=Rn hk
  refine (nZ (bI _ _) hv).mpr ((cR hv0).mpr ?_)
  simp only [fB]
  have hp1:=hp.trans (aZ μ1 (C.lst [D.int 3,D.int 3,D.int 4,D.int 4]))
  have hg1:=aY (aZ μ1 (C.lst [D.int 3,D.int 3,D.int 4,D.int 4])) hg
  split
  ·simp only [kE]
   refine jH ?_
   simp only [aE,aF]
   refine ⟨jI hg1,?_⟩
   simp only [aN,aM,aE,aF]
   refine (n6 hg1 (by rw [Tt,Ud];omega)).mpr ?_
   refine ⟨gC hp1 (TK _) _,fs++[(x,y)],_,_,_,?_,by rw [Ua];exact Xc hf,hi,rfl⟩
   rw [gF hg1,UH]
   rfl
  ·simp only [dB]
   exact ⟨hp1,fs,_,_,_,hg1,Y2 hf,hi,rfl⟩
 ·rintro ρ μ1 ⟨hp,fs,o3,o4,o5,hg,hf,_,rfl⟩
  simp only [w_mRet,aE,aF]
  exact H _ _ _ hp hg (by simpa using hf)
theorem oE (kvs:List (List Int×D))(k:List Int):(bJ kvs k).isSome=kvs.any fun p=>decide (p.1=k):=by
 unfold bJ
 rw [XH,Xo,List.find?_isSome,List.any_eq_true]
theorem zS {kvs:List (List Int×D)}{k:List Int}{d:D}(h:bJ kvs k=some d):(k,d)∈kvs:=by
 unfold bJ at h
 obtain ⟨p,h1,rfl⟩:=Tq.mp h
 have h2:=a1N h1
 have h3:=Wz h1
 simp only [decide_eq_true_eq] at h2
 rw [<- h2]
 exact h3
theorem zT (kvs:List (List Int×D))(k k':List Int)(d:D):(bJ (cN kvs k d) k').isSome=(decide (k=k')||(bJ kvs k').isSome):=by
 unfold cN
 split
 ·rename_i h
  have e:(kvs.map fun p=>if p.1=k then (p.1,d) else p).any (fun p=>decide (p.1=k'))=kvs.any fun p=>decide (p.1=k'):=by
   rw [YR]
   congr 1
   funext p
   simp only [Function.comp]
   split<;>rfl
  rw [oE,e,oE kvs k']
  by_cases z:k=k'
  ·subst z
   rw [oE] at h
   rw [h];simp
  ·simp [z]
 ·rw [oE,List.any_append,oE]
  simp only [VU,List.any_nil,ZW]
  exact Bool.or_comm _ _
theorem Rt {kvs:List (List Int×D)}{k:List Int}{d:D}(h:(bJ kvs k).isSome=true):(cN kvs k d).length=kvs.length:=by
 unfold cN;rw [if_pos h,Tt]
noncomputable def OkD (qs:List (Int×Int))(kvs:List (List Int×D)):Prop:=∀ p∈kvs,(∃ q∈qs,p.1=bS q)/\jJ p.2
theorem OkD.put {qs:List (Int×Int)}{kvs:List (List Int×D)}(h:OkD qs kvs){q:Int×Int}(hq:q∈qs){d:D}(hd:jJ d):OkD qs (cN kvs (bS q) d):=by
 intro p hp
 unfold cN at hp
 split at hp
 ·obtain ⟨p',h1,h2⟩:=UZ.mp hp
  by_cases z:p'.1=bS q
  ·rw [if_pos z] at h2
   rw [<- h2]
   exact ⟨⟨q,hq,z⟩,hd⟩
  ·rw [if_neg z] at h2
   rw [<- h2]
   exact h p' h1
 ·rcases U7.mp hp with hp|hp
  ·exact h p hp
  ·rw [UW.mp hp]
   exact ⟨⟨q,hq,rfl⟩,hd⟩
theorem OkD.val {qs:List (Int×Int)}{kvs:List (List Int×D)}(h:OkD qs kvs){k:List Int}(hs:(bJ kvs k).isSome=true):∃ d,bJ kvs k=some d/\jJ d:=by
 obtain ⟨d,hd⟩:=Uv.mp hs
 exact ⟨d,hd,(h _ (zS hd)).2⟩
theorem Ru {lo:Int}{n m:Nat}{p:Int×Int}(h:p∈fS lo n m):(lo<=p.1/\p.1<lo+n)/\(lo<=p.2/\p.2<lo+m):=by
 unfold fS at h
 obtain ⟨i,hi,h⟩:=List.mem_flatMap.mp h
 obtain ⟨j,hj,rfl⟩:=UZ.mp h
 have:=Vn.mp hi
 have:=Vn.mp hj
 dsimp only
 omega
theorem Rv {w h:Int}(hw:1<=w/\w<=3)(hh:1<=h/\h<=3){q:Int×Int}(hq:q∈cS w h):(0<=q.1/\q.1<=100)/\(0<=q.2/\q.2<=100):=by
 have:=Ru (WE.mp hq).1
 omega
theorem gG {w:Int}(h:1<=w/\w<=3):w∈[(1:Int),2,3]:=by
 have:w=1\/w=2\/w=3:=by omega
 rcases this with rfl|rfl|rfl<;>decide
theorem zU:∀ w∈[(1:Int),2,3],∀ h∈[(1:Int),2,3],(cS w h≠[]/\(cS w h).length<=36)/\(hU w h).length<=48/\∀ p∈hU w h,∀ q∈oB p.1 p.2,q∈cS w h:=by decide +kernel
noncomputable def GrI (qs:List (Int×Int))(μ μ':Hm):Prop:=μ <+: μ'/\∃ kvs,μ'[μ.length]? = some (.dT kvs)/\OkD qs kvs/\kvs.length<=100/\∀ q∈qs,(bJ kvs (bS q)).isSome=true
theorem GrI.more {qs:List (Int×Int)}{μ μ1 μ2:Hm}(h:GrI qs μ μ1)(p:μ1 <+: μ2):GrI qs μ μ2:=
 let ⟨h1,kvs,h2,h3⟩:=h
 ⟨h1.trans p,kvs,aY p h2,h3⟩
theorem fD (q:Int×Int):dZ (PP q)=some (bS q):=rfl
theorem EU {qs:List (Int×Int)}{kvs:List (List Int×D)}(h:OkD qs kvs){i:Nat}{d:D}(hd:(kvs.map fun k=>D.tup (k.1.map D.int))[i]? = some d):∃ q∈qs,d=PP q:=by
 rw [Uu] at hd
 obtain ⟨p,h1,rfl⟩:=Tq.mp hd
 obtain ⟨⟨q,hq,e⟩,_⟩:=h p (UG h1)
 exact ⟨q,hq,by rw [e];rfl⟩
theorem EV (k:Nat){w h:Int}(hw:1<=w/\w<=3)(hh:1<=h/\h<=3){q:Int×Int}(hq:q∈cS w h){u:Int}(hu:0<=u/\u<4){μ μ':Hm}(G:GrI (cS w h) μ μ')(Q:D×Hm->Prop)(H:∀ (v:Int) μ'',μ' <+: μ''->Q (.int v,μ'')) :
  W (aI (.loc μ.length) (PP q) μ') fun p=>W (f (k+1) "_law_led" [p.1,PP q] p.2) fun r=>W (f (k+1) "_law_value" [r.1,.int u] r.2) Q:=by
 obtain ⟨_,kvs,hg,hO,_,ha⟩:=G
 obtain ⟨d,hd,h6⟩:=hO.val (ha q hq)
 refine (lZ hg (fD q) hd).mpr ?_
 have hs:=Rv hw hh hq
 refine Rh k d h6 q.1 q.2 hs.1 hs.2 _ _ fun x y=>?_
 exact Rk k x y u hu _ _ H
theorem Rw {qs:List (Int×Int)}{μ μ':Hm}{kvs:List (List Int×D)}(hp:μ <+: μ')(hg:μ'[μ.length]? = some (.dT kvs))(hO:OkD qs kvs)(hl:kvs.length<=100)(ha:∀ q∈qs,(bJ kvs (bS q)).isSome=true){q:Int×Int}(hq:q∈qs){d:D}(hd:jJ d):GrI qs μ (μ'.set μ.length (.dT (cN kvs (bS q) d))):=
 ⟨gC hp (TK _) _,_,gF hg,hO.put hq hd,by rw [Rt (ha q hq)];exact hl,fun q' h'=>by rw [zT,ha q' h',Xy]⟩
theorem kP {μ:Hm}{a b:Nat}{c:C}(h:a≠b):(μ.set a c)[b]? = μ[b]?:=by
 rw [YO];simp [h]
theorem Ry (k:Nat){w h:Int}(hw:1<=w/\w<=3)(hh:1<=h/\h<=3)(b:Nat)(fs:List Int)(μ:Hm)(hb:μ[b]? = some (.lst (fs.map D.int)))(Q:D×Hm->Prop)(H:∀ μ',GrI (cS w h) μ μ'->Q (.loc μ.length,μ')):W (f (k+2) "_law_grown" [.int w,.int h,.loc b] μ) Q:=by
 have F:=zU w (gG hw) h (gG hh)
 rw [QN,W_fin]
 simp only [bK,cB,PX,Tx,TC,fC,w_iSeq,a8,aN,aM,aE,aF]
 refine EO k w h hw hh _ _ ?_
 refine (eE (bI _ _)).mpr ?_
 have hbl:b<μ.length:=(Tw.mp hb).1
 have hlen:(μ++[C.dT []]).length=μ.length+1:=by simp
 refine kI (xs:=(cS w h).map PP) (fun i ρ μ'=>μ <+: μ'/\μ'[(μ++[C.dT []]).length]? = some (.lst ((cS w h).map PP))/\∃ kvs o4,μ'[μ.length]? = some (.dT kvs)/\OkD (cS w h) kvs/\kvs.length<=i/\i<=(cS w h).length/\(∀ q∈(cS w h).take i,(bJ kvs (bS q)).isSome=true)/\ρ=[some (.int w),some (.int h),some (.loc b),some (.loc μ.length),o4,none,none,none,none,none])
  ⟨(aZ _ _).trans (aZ _ _),bI _ _,[],none,aY (aZ _ _) (bI _ _),fun p hp=>(by cases hp),TK _,UP _,fun q hq=>(by simp at hq),rfl⟩ (fun i ρ μ' hI=>hI.2.1) ?_ ?_
 ·rintro i d ρ μ1 hd ⟨hp,hg2,kvs,o4,hg,hO,hl,hi',ha,rfl⟩
  obtain ⟨q,hq,rfl⟩:=oC hd
  have hqm:q∈cS w h:=UG hq
  have hi:i<(cS w h).length:=(Tw.mp hq).1
  refine ⟨_,rfl,?_⟩
  simp only [Tx,TC,zF,eL,aN,aM,aV,aE,aF]
  refine ⟨ER,?_⟩
  refine (zH hg (fD q) (by have:=F.1.2;rw [Ud];omega)).mpr ?_
  refine ⟨gC hp (TK _) _,?_,_,_,gF hg,hO.put hqm ⟨_,_,_,_,_,_,rfl⟩,?_,hi,?_,rfl⟩
  ·rw [kP (by omega)]
   exact hg2
  ·exact UU (Nh _ _ _) (Xc hl)
  ·intro q' hq'
   rw [zT]
   rw [XC,hq] at hq'
   rcases U7.mp hq' with hq'|hq'
   ·rw [ha q' hq',Xy]
   ·have:q'=q:=by simpa using hq'
    subst this
    simp
 ·rintro ρ μ1 ⟨hp,hg2,kvs,o4,hg,hO,hl,hi',ha,rfl⟩
  have G:GrI (cS w h) μ μ1:=⟨hp,kvs,hg,hO,by have:=F.1.2;rw [Tt] at hl;omega,fun q hq=>ha q (by rw [Tt,W3];exact hq)⟩
  clear hg2 ha hO hg hl hi' kvs
  simp only [bK,fC,w_iSeq,aE,aF]
  refine (eE (aY G.1 hb)).mpr ?_
  refine kI (xs:=fs.map D.int) (fun i ρ μ'=>GrI (cS w h) μ μ'/\∃ o4 o5 o6 o7 o8 o9,ρ=[some (.int w),some (.int h),some (.loc b),some (.loc μ.length),o4,o5,o6,o7,o8,o9]) ⟨G,_,_,_,_,_,_,rfl⟩ (fun i ρ μ' hI=>aY hI.1.1 hb) ?_ ?_
  ·rintro i d ρ μ2 hd ⟨G2,o4,o5,o6,o7,o8,o9,rfl⟩
   obtain ⟨n,_,rfl⟩:=zL (UG hd)
   refine ⟨_,rfl,?_⟩
   simp only [Tx,TC,bK,cB,aU,aE,aF,aV,l9,a8,aN,aM]
   obtain ⟨hp2,kvs,hg,hO,hl,ha⟩:=id G2
   have hne:0<kvs.length:=by
    obtain ⟨q,hq⟩:=List.exists_mem_of_ne_nil _ F.1.1
    obtain ⟨d,hd⟩:=Uv.mp (ha q hq)
    exact List.length_pos_of_mem (zS hd)
   refine (Ed hg).mpr ?_
   refine (iI (by decide) (by decide)).mpr ((PY (aY (aZ _ _) hg)).mpr ((cR (by omega)).mpr ?_))
   have hm:0<=n / 16 % (kvs.length:Int)/\n / 16 % (kvs.length:Int)<kvs.length:=⟨Vc _ (by omega),UY _ (by omega)⟩
   obtain ⟨dn,hdn⟩:∃ dn,(kvs.map fun k=>D.tup (k.1.map D.int))[(n / 16 % (kvs.length:Int)).toNat]? = some dn:=⟨_,T8 (by rw [Tt];omega)⟩
   obtain ⟨qn,hqn,rfl⟩:=EU hO hdn
   have hat:atI (kvs.map fun k=>D.tup (k.1.map D.int)) (n / 16 % (kvs.length:Int))=some (PP qn):=by
    unfold atI
    rw [tV hm.1 (by rw [Tt];exact hm.2),T3]
    exact hdn
   refine (nZ (bI _ _) hat).mpr ?_
   simp only [Tx,TC,aE,aF]
   have hu:0<=n % 4/\n % 4<4:=⟨Vc _ (by decide),UY _ (by decide)⟩
   refine EV k hw hh hqn hu (G2.more (aZ _ _)) _ fun v μ3 p3=>?_
   refine (iI (by decide) (by decide)).mpr ((dE (.inr (by decide))).mpr ((iI (by decide) (by decide)).mpr ((cR (by decide)).mpr ((dE (.inr (by decide))).mpr ?_))))
   simp only [dN]
   have G3:=(G2.more (aZ _ _)).more p3
   generalize hn':v / 4 * 4+n / 4 % 2 * 4=N
   clear hn' hat hdn hqn hm hne hg hl ha hp2
   obtain ⟨_,kvs3,hg3,hO3,_⟩:=id G3
   simp only [Tx,TC,fC,w_iSeq,a8,aN,aM,aE,aF]
   refine (Ed hg3).mpr ((eE (bI _ _)).mpr ?_)
   refine kI (fun i ρ μ'=>GrI (cS w h) μ μ'/\μ'[μ3.length]? = some (.lst (kvs3.map fun k=>D.tup (k.1.map D.int)))/\∃ o4 o9,ρ=[some (.int w),some (.int h),some (.loc b),some (.loc μ.length),o4,some (.int n),some (.int (n % 4)),some (PP qn),some (.int N),o9]) ⟨G3.more (aZ _ _),bI _ _,_,_,rfl⟩ (fun i ρ μ' hI=>hI.2.1) ?_ ?_
   ·rintro j d ρ μ4 hd ⟨G4,hg4,o4,o9,rfl⟩
    obtain ⟨q,hq,rfl⟩:=EU hO3 hd
    refine ⟨_,rfl,?_⟩
    simp only [Tx,TC,bK,cB,aU,a8,aN,aM,aE,aF]
    refine EV k hw hh hq hu G4 _ fun v' μ5 p5=>?_
    simp only [D2,Tx,TC,dM,cI,aU,aE,aF,aV]
    refine (iI (by decide) (by decide)).mpr ((cR (by decide)).mpr ?_)
    simp only [fB,Pl]
    have G5:=G4.more p5
    have hg5:=aY p5 hg4
    split
    ·obtain ⟨hp5,kvs5,hh5,hO5,hl5,ha5⟩:=id G5
     simp only [zF,a8,aN,aM,aU,aE,aF]
     obtain ⟨d,hd',h6⟩:=hO5.val (ha5 q hq)
     refine (lZ hh5 (fD q) hd').mpr ?_
     simp only [eL,aN,aM,aE,aF,iK,true_and]
     refine Ri k d h6 (n % 4) N _ _ fun d' h6'=>?_
     refine (zH hh5 (fD q) (by rw [Ud];omega)).mpr ?_
     refine ⟨Rw hp5 hh5 hO5 hl5 ha5 hq h6',?_,_,_,rfl⟩
     rw [kP]
     ·exact hg5
     ·intro z
      rw [z,hg5] at hh5
      cases hh5
    ·simp only [dB]
     exact ⟨G5,hg5,_,_,rfl⟩
   ·rintro ρ μ4 ⟨G4,_,o4,o9,rfl⟩
    exact ⟨G4,_,_,_,_,_,_,rfl⟩
  ·rintro ρ μ2 ⟨G2,o4,o5,o6,o7,o8,o9,rfl⟩
   simp only [w_mRet,aE,aF]
   exact H _ G2
theorem Rz {d d':D}(h:jJ d)(h':jJ d'){μ:Hm}{Q:D×Hm->Prop}(H:∀ b,Q (.bl b,μ)):W (aR true d d' μ) Q:=by
 obtain ⟨a1,a2,a3,a4,a5,a6,rfl⟩:=h
 obtain ⟨b1,b2,b3,b4,b5,b6,rfl⟩:=h'
 exact W_some.mpr (H _)
theorem RA {neg:Bool}{μ:Hm}{a:Nat}{ps:List (Int×Int)}{q:Int×Int}{Q:D×Hm->Prop}(h:μ[a]? = some (.lst (ps.map PP))):W (cP neg (PP q) (.loc a) μ) Q↔Q (.bl (if neg then !(ps.any fun p=>p == q) else ps.any fun p=>p == q),μ):=by
 have e:cP neg (PP q) (.loc a) μ=some (.bl (if neg then !(ps.any fun p=>p == q) else ps.any fun p=>p == q),μ):=by
  simp only [cP,h]
  unfold lH
  have e:bA μ (.loc a)=some (ps.map PP):=by simp only [bA,h]
  rw [e]
  show (i0 μ (PP q) (ps.map PP)).map _=_
  rw [EC]
  rfl
 rw [e]
 exact W_some
theorem RB {μ:Hm}{a:Nat}{x:D}{k:Bool}{Q:D×Hm->Prop}(h:μ[a]? = some (.lst [x])):W (bC (.loc a) (.int (if k then 1 else 0)) μ) Q↔Q (.loc μ.length,μ++[.lst (if k then [x] else [])]):=by
 have:bC (.loc a) (.int (if k then 1 else 0)) μ=some (.loc μ.length,μ++[.lst (if k then [x] else [])]):=by
  cases k with
  | true=>
   simp only [bC,h,if_true]
   rw [if_pos ⟨by decide,by decide,by show (1:Nat)<=TL;decide⟩]
   rfl
  | false=>
   simp only [bC,h,TQ,if_false]
   rw [if_pos ⟨by decide,by decide,by show (0:Nat)<=TL;decide⟩]
   rfl
 rw [this]
 exact W_some
noncomputable abbrev RD (ns:List Int)(w h:Int)(c e:Nat)(v n:Int)(o7 o8 o9 o10 o11 o12 o13 o14:Option D):aG:=[some (.rol (ns.map D.int)),some (.int w),some (.int h),some (.loc c),some (.loc e),some (.int v),some (.int n),o7,o8,o9,o10,o11,o12,o13,o14]
theorem RC (k:Nat)(ns:List Int)(w h:Int)(c e:Nat)(v n:Int)(es:List (Int×Int))(hes:es.length<=48)(μ:Hm)(he:μ[e]? = some (.lst (es.map PP)))(Q:Fl×aG×Hm->Prop)
  (H:∀ b (fs:List (Int×Int)) ρ μ',μ <+: μ'->μ'[b]? = some (.lst (fs.map PP))->fs.length<=49->Q (.rt (.loc b),ρ,μ')) :
  W (aJ (aS 7 (bV aD)) (aJ (dD (lR (aC (aA 4) aD)) (cU [8,9]) (aJ (aS 10 (aB bE (aB bC (aA 6) (aB bE (aB bC (mC (.int 2)) (aA 8)) (mC (.int 1)))) (aB bC (aK (f (k+1) "_law_cell") (aC (aA 0) (aC (aB bE (mC (.int 3)) (aB aT (aA 8) (mC (.int 5)))) aD))) (aB bE (aB bC (aA 8) (aA 8)) (mC (.int 5)))))) (bB (aP (aB gT (aB aT (aB aT (aA 10) (mC (.int 10007))) (mC (.int 7))) (aB aT (aB eB (aK (f (k+1) "_law_cell") (aC (aA 0) (aC (mC (.int 1)) aD))) (mC (.int 5))) (mC (.int 8))))) (c9 (cV d4 (aA 7) (aC (aA 9) aD))) bD))) (aQ (aA 7))) (RD ns w h c e v n none none none none none none none none) μ) Q:=by
 simp only [bK,cB,eM,aM,Tx,TC]
 refine ⟨UP _,?_⟩
 simp only [fC]
 refine Eb ?_
 simp only [aN,aM,aE,aF]
 refine ⟨e,es.map PP,rfl,aY (aZ _ _) he,?_⟩
 refine zD (fun i ρ μ'=>μ <+: μ'/\∃ fs o8 o9 o10,μ'[μ.length]? = some (.lst ((fs:List (Int×Int)).map PP))/\fs.length<=i/\i<=es.length/\ρ=RD ns w h c e v n (some (.loc μ.length)) o8 o9 o10 none none none none) ⟨aZ _ _,[],none,none,none,bI _ _,TK _,UP _,rfl⟩ (fun i ρ μ' hI=>aY hI.1 he) ?_ ?_
 ·rintro i d ρ μ1 hd ⟨hp,fs,o8,o9,o10,hg,hf,_,rfl⟩
  obtain ⟨q,hq,rfl⟩:=oC hd
  have hi:i<es.length:=(Tw.mp hq).1
  refine ⟨RD ns w h c e v n (some (.loc μ.length)) (some (.int i)) (some (PP q)) o10 none none none none,rfl,?_⟩
  have h5:0<=(i:Int) % 5/\(i:Int) % 5<5:=⟨Vc _ (by decide),UY _ (by decide)⟩
  have hs:=ED (i:=(i:Int)) (by omega)
  simp only [RD,Tx,TC,bK,cB,aU,aE,aF,aV,Ei,dN]
  refine (dE (.inr (by omega))).mpr ?_
  simp only [a8,aN,aM,aE,aF,aU,aV,Ej,dN]
  refine kN k ns _ (by omega) _ _ fun μ2 p2=>?_
  have hi2:-(2 ^ 64)<(i:Int)/\(i:Int)<2 ^ 64:=by omega
  refine (dE (.inl hi2)).mpr ?_
  simp only [dN]
  refine (dE (.inr (by omega))).mpr ?_
  simp only [dN,Tx,TC,dM,cI,aU,aE,aF,aV]
  refine (cR (by decide)).mpr ((cR (by decide)).mpr ?_)
  simp only [a8,aN,aM,aE,aF,aV]
  refine kN k ns _ (by decide) _ _ fun μ3 p3=>?_
  refine (iI (by decide) (by decide)).mpr ((cR (by decide)).mpr ?_)
  simp only [yY]
  have hp1:=hp.trans (p2.trans p3)
  have hg1:=aY (p2.trans p3) hg
  split
  ·simp only [kE]
   refine jH ?_
   simp only [aE,aF]
   refine ⟨jI hg1,?_⟩
   simp only [aN,aM,aE,aF]
   refine (n6 hg1 (by rw [Tt,Ud];omega)).mpr ?_
   refine ⟨gC hp1 (TK _) _,fs++[q],_,_,_,?_,by rw [Ua];exact Xc hf,hi,rfl⟩
   rw [gF hg1,UH]
   rfl
  ·simp only [dB]
   exact ⟨hp1,fs,_,_,_,hg1,Y2 hf,hi,rfl⟩
 ·rintro ρ μ1 ⟨hp,fs,o8,o9,o10,hg,hf,_,rfl⟩
  simp only [w_mRet,aE,aF]
  exact H _ fs _ _ hp hg (by rw [Tt] at hf;omega)
theorem RE (k:Nat)(ns:List Int){w h:Int}(hw:1<=w/\w<=3)(hh:1<=h/\h<=3)(c e:Nat)(v n:Int)(μ0 μ:Hm)(G:GrI (cS w h) μ0 μ)(he:μ[e]? = some (.lst ((hU w h).map PP)))(R:MS)(Q:Fl×aG×Hm->Prop)
  (H:∀ (fs:List (Int×Int)) o9 o13 o14 μ',μ <+: μ'->μ'[μ.length]? = some (.lst (fs.map PP))->fs.length<=48->W (R (RD ns w h c e v n none none o9 none (some (.loc μ0.length)) (some (.loc μ.length)) o13 o14) μ') Q) :
  W (aJ (aS 12 (bV aD)) (aJ (dD (cM (aA 4)) (dQ 9) (aJ (fL (aK (f (k+1) "_law_beside") (aC (aA 9) aD)) (cU [13,14])) (bB (aP (aB (aR true) (aB aI (aA 11) (aA 13)) (aB aI (aA 11) (aA 14)))) (c9 (cV d4 (aA 12) (aC (aA 9) aD))) bD))) R) (RD ns w h c e v n none none none none (some (.loc μ0.length)) none none none) μ) Q:=by
 have F:=zU w (gG hw) h (gG hh)
 simp only [RD,bK,cB,eM,aM,Tx,TC]
 refine ⟨UP _,?_⟩
 simp only [fC,w_iSeq,aE,aF]
 refine (eE (aY (aZ _ _) he)).mpr ?_
 refine kI (fun i ρ μ'=>μ <+: μ'/\∃ fs o9 o13 o14,μ'[μ.length]? = some (.lst ((fs:List (Int×Int)).map PP))/\fs.length<=i/\i<=(hU w h).length/\ρ=RD ns w h c e v n none none o9 none (some (.loc μ0.length)) (some (.loc μ.length)) o13 o14) ⟨aZ _ _,[],none,none,none,bI _ _,TK _,UP _,rfl⟩ (fun i ρ μ' hI=>aY hI.1 he) ?_ ?_
 ·rintro i d ρ μ1 hd ⟨hp,fs,o9,o13,o14,hg,hf,_,rfl⟩
  obtain ⟨⟨x,y⟩,hq,rfl⟩:=oC hd
  have hi:i<(hU w h).length:=(Tw.mp hq).1
  refine ⟨_,rfl,?_⟩
  simp only [RD,Tx,TC,bK,yW,a8,aN,aM,aE,aF]
  refine Rm k x y _ _ fun b q1 q2 μ2 p2 hb h1 h2=>?_
  refine (Px hb).mpr ?_
  simp only [Tx,TC,dM,cI,aU,aE,aF]
  have hin:=UG hq
  have m1:=F.2.2 (x,y) hin q1 h1
  have m2:=F.2.2 (x,y) hin q2 h2
  obtain ⟨_,kvs,hk,hO,_,ha⟩:=(G.more hp).more p2
  obtain ⟨d1,e1,s1⟩:=hO.val (ha q1 m1)
  obtain ⟨d2,e2,s2⟩:=hO.val (ha q2 m2)
  refine (lZ hk (fD q1) e1).mpr ((lZ hk (fD q2) e2).mpr (Rz s1 s2 fun bb=>?_))
  have hp1:=hp.trans p2
  have hg1:=aY p2 hg
  cases bb with
  | true=>
   simp only [if_true,kE]
   refine jH ?_
   simp only [aE,aF]
   refine ⟨jI hg1,?_⟩
   simp only [aN,aM,aE,aF]
   refine (n6 hg1 (by have:=F.2.1;rw [Tt,Ud];omega)).mpr ?_
   refine ⟨gC hp1 (TK _) _,fs++[(x,y)],_,_,_,?_,by rw [Ua];exact Xc hf,hi,rfl⟩
   rw [gF hg1,UH]
   rfl
  | false=>
   simp only [TQ,if_false,dB]
   exact ⟨hp1,fs,_,_,_,hg1,Y2 hf,hi,rfl⟩
 ·rintro ρ μ1 ⟨hp,fs,o9,o13,o14,hg,hf,_,rfl⟩
  exact H fs _ _ _ _ hp hg (by have:=F.2.1;rw [Tt] at hf;omega)
theorem RG {es:List (Int×Int)}{i:Int}(h:0<=i/\i<es.length):∃ p,atI (es.map PP) i=some (PP p):=by
 have hl:i.toNat<es.length:=by omega
 refine ⟨es[i.toNat],?_⟩
 unfold atI
 rw [tV h.1 (by rw [Tt];exact h.2),T3,Uu,T8 hl]
 rfl
theorem RH (ns:List Int)(w h:Int)(c e b:Nat)(v n:Int)(o9 g o13 o14:Option D)(es fs:List (Int×Int))(hel:es.length<=48)(hfl:fs.length<=48)(μ:Hm)(he:μ[e]? = some (.lst (es.map PP)))(hb:μ[b]? = some (.lst (fs.map PP)))(Q:Fl×aG×Hm->Prop)
  (H:∀ b (fs:List (Int×Int)) ρ μ',μ <+: μ'->μ'[b]? = some (.lst (fs.map PP))->fs.length<=49->Q (.rt (.loc b),ρ,μ')) :
  W (aJ (bB (gO (aP (aB (aR false) (aA 5) (mC (.int 1)))) (aP (aB (aR true) (aA 4) (bV aD)))) (aJ (aS 9 (aB aI (aA 4) (aB aT (aB eB (aA 6) (mC (.int 6))) (aK d6 (aC (aA 4) aD))))) (aS 12 (aK iF (aC (aB bE (eQ (cM (aA 12)) (aP (aB (aR true) (aA 15) (aA 9))) (aA 15)) (aB bC (bV (aC (aA 9) aD)) (aK mS (aC (aB (cP true) (aA 9) (aA 12)) aD)))) aD)))) bD) (aQ (aA 12)) (RD ns w h c e v n none none o9 none g (some (.loc b)) o13 o14) μ) Q:=by
 simp only [RD,bK,dM,yV,cI,aU,aE,aF,aV,fB]
 cases hv:v == 1 with
 | false=>
  simp only [TQ,if_false,dB,w_mRet,aE,aF]
  exact H b fs _ _ (T9 _) hb (by omega)
 | true=>
  simp only [if_true,eM,aM]
  refine ⟨UP _,?_⟩
  refine (PB (qs:=[]) (aY (aZ _ _) he) (bI _ _)).mpr ?_
  simp only [if_true]
  cases hz:!(es == []) with
  | false=>
   simp only [TQ,if_false,dB,w_mRet,aE,aF]
   exact H b fs _ _ (aZ _ _) (aY (aZ _ _) hb) (by omega)
  | true=>
   have h0:es≠[]:=fun z=>by rw [z] at hz;simp at hz
   have hl:0<es.length:=Xx.mpr h0
   generalize hμ:μ++[C.lst (List.map PP [])]=μ1
   have p1:μ <+: μ1:=by rw [<- hμ];exact aZ _ _
   have he1:=aY p1 he
   have hb1:=aY p1 hb
   simp only [if_true,bK,cB,aU,aE,aF,aV,a8,aN,aM]
   refine (iI (by decide) (by decide)).mpr ((n8 he1).mpr ?_)
   rw [Tt]
   refine (cR (by omega)).mpr ?_
   obtain ⟨p,hp⟩:=RG (es:=es) (i:=n / 6 % (es.length:Int)) ⟨Vc _ (by omega),UY _ (by omega)⟩
   refine (nZ he1 hp).mpr ?_
   simp only [Tx,TC]
   refine gD (xs:=fs.map PP) (p:=fun d=>!((dX d).1 == p.1&&((dX d).2 == p.2&&true))) (v:=fun d=>d) ?_
   simp only [w_iSeq,aE,aF]
   refine (eE hb1).mpr ⟨jG hb1,rfl,by rw [Tt,Ud];omega,fun d μ' hd hp=>?_,fun d μ' hd _ hp=>?_,fun μ2 p2 g2=>?_⟩
   ·obtain ⟨x,y,rfl⟩:=kL hd
    simp only [Ur,Ut,cI,aU,aE,aF]
    exact w_neP.mpr ⟨rfl,T9 _⟩
   ·simp only [Ur,Ut,aE,aF]
    exact ⟨trivial,T9 _⟩
   ·rw [oA fun q=>!(q.1 == p.1&&(q.2 == p.2&&true))] at g2
    generalize hF:fs.filter (fun q=>!(q.1 == p.1&&(q.2 == p.2&&true)))=F at g2
    have hFl:F.length<=48:=by rw [<- hF];exact UU (U5 _ _) hfl
    simp only [eM,aN,aM,aE,aF]
    refine ⟨by show (1:Nat)<=TL;decide,?_⟩
    refine (RA (aY (p2.trans (aZ _ _)) hb1)).mpr ?_
    simp only [P1,if_true]
    generalize hB:(!(fs.any fun q=>q == p))=B
    refine (RB (bI _ _)).mpr ?_
    have e2:(if B=true then [PP p] else [])=(if B=true then [p] else []).map PP:=by cases B<;>rfl
    rw [e2]
    have g3:=aY ((aZ μ2 (C.lst [PP p])).trans (aZ _ (C.lst ((if B=true then [p] else []).map PP)))) g2
    have hBl:(if B=true then [p] else ([]:List (Int×Int))).length<=1:=by cases B<;>simp
    refine (tQ g3 (bI _ _) (by rw [Tt,Tt,Ud];omega)).mpr ?_
    rw [<- UH]
    refine ET (bI _ _) (by rw [Ua];omega) fun qs hqs=>?_
    simp only [w_mRet,aE,aF]
    refine H _ qs _ _ (p1.trans (p2.trans ((aZ _ _).trans ((aZ _ _).trans ((aZ _ _).trans (aZ _ _)))))) (bI _ _) ?_
    rw [hqs.length_eq,Ua]
    omega
theorem RI (k:Nat)(ns:List Int){w h:Int}(hw:1<=w/\w<=3)(hh:1<=h/\h<=3)(c:Nat)(ws:List Int)(hws:ws≠[])(μ:Hm)(hc:μ[c]? = some (.lst (ws.map D.int)))(Q:D×Hm->Prop)
  (H:∀ b (fs:List (Int×Int)) μ',μ <+: μ'->μ'[b]? = some (.lst (fs.map PP))->fs.length<=49->Q (.loc b,μ')):W (f (k+3) "_law_creased" [.rol (ns.map D.int),.int w,.int h,.loc c] μ) Q:=by
 have F:=zU w (gG hw) h (gG hh)
 have hwl:0<ws.length:=Xx.mpr hws
 rw [QV,W_fin,bK,cB]
 simp only [a8,aN,aM,aE,aF]
 refine Rc (k+1) w h hw hh _ _ ?_
 generalize hμ:μ++[C.lst ((hU w h).map PP)]=μ1
 have p1:μ <+: μ1:=by rw [<- hμ];exact aZ _ _
 have he1:μ1[μ.length]? = some (.lst ((hU w h).map PP)):=by rw [<- hμ];exact bI _ _
 dsimp only [Tx,TC]
 rw [bK,cB]
 simp only [aU,a8,aN,aM,aE,aF,aV]
 refine kN (k+1) ns 1 (by decide) _ _ fun μ2 p2=>?_
 refine (n8 (aY (p1.trans p2) hc)).mpr ?_
 rw [Tt]
 refine (cR (by omega)).mpr ?_
 have hm:0<=dC ns 1 % (ws.length:Int)/\dC ns 1 % (ws.length:Int)<ws.length:=⟨Vc _ (by omega),UY _ (by omega)⟩
 refine (nZ (aY (p1.trans p2) hc) (zK hm.1 hm.2)).mpr ?_
 generalize ws.getD (dC ns 1 % (ws.length:Int)).toNat 0=v
 dsimp only [Tx,TC]
 rw [bK,cB]
 simp only [a8,aN,aM,aE,aF,aV]
 refine kN (k+1) ns 2 (by decide) _ _ fun μ3 p3=>?_
 generalize dC ns 2=n
 dsimp only [Tx,TC]
 have q3:=p1.trans (p2.trans p3)
 have he3:=aY (p2.trans p3) he1
 rw [bK,dM]
 simp only [cI,aU,aE,aF,aV,fB]
 cases h3:v == 3 with
 | true=>
  simp only [if_true,w_mRet,a8,aN,aM,aE,aF]
  exact Rq k _ (hU w h) (by have:=F.2.1;omega) n _ he3 _ fun b fs μ4 p4 g4 l4=>H b fs μ4 (q3.trans p4) g4 (by have:=F.2.1;omega)
 | false=>
  simp only [TQ,if_false,dB]
  rw [bK,dM]
  simp only [cI,aU,aE,aF,aV,fB]
  cases h4:v == 4 with
  | true=>
   simp only [if_true]
   exact RC (k+1) ns w h c _ v n (hU w h) F.2.1 _ he3 _ fun b fs ρ μ4 p4 g4 l4=>H b fs μ4 (q3.trans p4) g4 l4
  | false=>
   simp only [TQ,if_false,dB]
   rw [bK,cB]
   simp only [a8,aN,aM,aE,aF]
   refine gD (xs:=fR 0 (n % 6).toNat) (p:=fun _=>true) (v:=fun d=>.int (dC ns (3+jK d))) ?_
   rw [yZ (j:=0)]
   simp only [aN,aM,aU,aE,aF,aV,Q1]
   have h6:0<=n % 6/\n % 6<6:=⟨Vc _ (by decide),UY _ (by decide)⟩
   refine ⟨by omega,D4,by simp [fR],by rw [Ud];simp [fR];omega,fun d μ' hd hp=>w_mTrue.mpr ⟨rfl,T9 _⟩,fun d μ' hd _ hp=>?_,fun μ4 p4 g4=>?_⟩
   ·obtain ⟨j,hj,rfl⟩:=Ek hd
    simp only [Ur,Ut,a8,aN,aM,aE,aF,aU,aV,dN]
    exact kN (k+1) ns _ (by omega) _ _ fun μ'' p''=>⟨rfl,p''⟩
   ·have g4':μ4[μ3.length]? = some (.lst (((fR 0 (n % 6).toNat).map fun d=>dC ns (3+jK d)).map D.int)):=by
     rw [g4,qH,UK]
     rfl
    refine Ry k hw hh _ _ _ g4' _ fun μ5 G=>?_
    dsimp only [Tx,TC]
    refine RE (k+1) ns hw hh c _ v n μ4 μ5 G (aY (p4.trans G.1) he3) _ _ fun fs o9 o13 o14 μ6 p6 g6 l6=>?_
    exact RH ns w h c _ _ v n o9 _ o13 o14 (hU w h) fs F.2.1 l6 _ (aY (p4.trans (G.1.trans p6)) he3) g6 _ fun b fs' ρ μ7 p7 g7 l7=>H b fs' μ7 (q3.trans (p4.trans (G.1.trans (p6.trans p7)))) g7 l7
noncomputable def MD (m:(Int×Int)×Str):D:=.tup [PP m.1,.str m.2]
theorem RJ {i:Int}(h:0<=i/\i<3):∃ c,atI (TN "hvo").cps.toList i=some c:=by
 have:i=0\/i=1\/i=2:=by omega
 rcases this with rfl|rfl|rfl
 ·exact ⟨104,by decide +kernel⟩
 ·exact ⟨118,by decide +kernel⟩
 ·exact ⟨111,by decide +kernel⟩
theorem RK:(TN "hvo").length<=TL:=by decide +kernel
theorem EW:(3:Nat)<=TL:=by decide
theorem RM {i:Int}(h:0<=i/\i<3){μ:Hm}{Q:D×Hm->Prop}(H:∀ s,Q (.str s,μ)):W (aI (.str "hvo") (.int i) μ) Q:=by
 obtain ⟨c,hc⟩:=RJ h
 exact (P0 RK hc).mpr (H _)
noncomputable def tW (k:Int)(p:Int×Int):Int×Int:=if k=0 then (p.1,-p.2) else if k=1 then (-p.1,p.2) else if k=2 then (p.2,p.1) else (-p.2,-p.1)
noncomputable def kQ (k x y:Int):Int:=if k=0 then y else if k=1 then x else if k=2 then x - y else x+y
theorem RN (k x y:Int)(p:Int×Int):zQ (x+p.1,y+p.2) (k,kQ k x y)=(x+(tW k p).1,y+(tW k p).2):=by
 unfold zQ tW kQ
 dsimp only
 by_cases h0:k=0
 ·simp only [h0,if_true]
  exact VT rfl (by dsimp only;omega)
 ·by_cases h1:k=1
  ·subst h1
   simp only [if_true,h0,if_false]
   exact VT (by dsimp only;omega) rfl
  ·by_cases h2:k=2
   ·subst h2
    simp only [if_true,h0,h1,if_false]
    exact VT (by dsimp only;omega) (by dsimp only;omega)
   ·simp only [h0,h1,h2,if_false]
    exact VT (by dsimp only;omega) (by dsimp only;omega)
noncomputable def zV (m:Int×Int->Bool)(es:List (Int×Int))(p:Int×Int):Int×Int:=es.foldl (fun p e=>if m e then zQ p (fT e.1 e.2) else p) p
noncomputable def oF:List Int->List Bool->Int×Int->Int×Int
 | k::ks,b::bs,p=>oF ks bs (if b then tW k p else p)
 | _,_,p=>p
theorem EX (m:Int×Int->Bool)(x y:Int):∀ (l:List (Int×Int))(ks:List Int)(p:Int×Int),ks.length=l.length->(∀ q∈l.zip ks,fT (x+q.1.1) (y+q.1.2)=(q.2,kQ q.2 x y))->
  zV m (mv x y l) (x+p.1,y+p.2)=(x+(oF ks ((mv x y l).map m) p).1,y+(oF ks ((mv x y l).map m) p).2)
 | [],[],p,_,_=>rfl
 | [],_::_,_,h,_=>by simp at h
 | _::_,[],_,h,_=>by simp at h
 | o::l,k::ks,p,h,hl=>by
  have h1:=hl (o,k) (by simp)
  have ih:=fun p=>EX m x y l ks p (by simpa using h) fun q hq=>hl q (by rw [V8];exact Uo _ hq)
  unfold zV mv at ih ⊢
  simp only [T4,Zm,oF]
  dsimp only at h1
  cases hm:m (x+o.1,y+o.2) with
  | true=>
   simp only [if_true]
   rw [h1,RN]
   exact ih _
  | false=>
   simp only [TQ,if_false]
   exact ih p
noncomputable def K8:List Int:=[0,2,1,3,0,2,1,3]
noncomputable def K4:List Int:=[2,3,2,3]
theorem RO {x y:Int}(hx:x % 4=0)(hy:y % 4=0):∀ q∈E8.zip K8,fT (x+q.1.1) (y+q.1.2)=(q.2,kQ q.2 x y):=by
 have e:∀ {a b:Int}{k n:Int},(if b % 4=0 then (0,b) else if a % 4=0 then (1,a) else if a % 4=b % 4 then (2,a - b) else (3,a+b):Int×Int)=(k,n)->fT a b=(k,n):=fun h=>h
 intro q hq
 simp only [E8,K8,V8,YH,Ug,W4,or_false] at hq
 rcases hq with rfl|rfl|rfl|rfl|rfl|rfl|rfl|rfl<;>refine e ?_<;>dsimp only [kQ]
 ·rw [if_pos (by omega)];exact VT rfl (by simp)
 ·rw [if_neg (by omega),if_neg (by omega),if_pos (by omega)];exact VT rfl (by simp<;>omega)
 ·rw [if_neg (by omega),if_pos (by omega)];exact VT rfl (by simp)
 ·rw [if_neg (by omega),if_neg (by omega),if_neg (by omega)];exact VT rfl (by simp<;>omega)
 ·rw [if_pos (by omega)];exact VT rfl (by simp)
 ·rw [if_neg (by omega),if_neg (by omega),if_pos (by omega)];exact VT rfl (by simp<;>omega)
 ·rw [if_neg (by omega),if_pos (by omega)];exact VT rfl (by simp)
 ·rw [if_neg (by omega),if_neg (by omega),if_neg (by omega)];exact VT rfl (by simp<;>omega)
theorem RP {x y:Int}(hx:x % 4=2)(hy:y % 4=2):∀ q∈F4.zip K4,fT (x+q.1.1) (y+q.1.2)=(q.2,kQ q.2 x y):=by
 have e:∀ {a b:Int}{k n:Int},(if b % 4=0 then (0,b) else if a % 4=0 then (1,a) else if a % 4=b % 4 then (2,a - b) else (3,a+b):Int×Int)=(k,n)->fT a b=(k,n):=fun h=>h
 intro q hq
 simp only [F4,K4,V8,YH,Ug,W4,or_false] at hq
 rcases hq with rfl|rfl|rfl|rfl<;>refine e ?_<;>dsimp only [kQ]
 ·rw [if_neg (by omega),if_neg (by omega),if_pos (by omega)];exact VT rfl (by simp<;>omega)
 ·rw [if_neg (by omega),if_neg (by omega),if_neg (by omega)];exact VT rfl (by simp<;>omega)
 ·rw [if_neg (by omega),if_neg (by omega),if_pos (by omega)];exact VT rfl (by simp<;>omega)
 ·rw [if_neg (by omega),if_neg (by omega),if_neg (by omega)];exact VT rfl (by simp<;>omega)
noncomputable def D3:List (Int×Int):=[(0,0),(2,1),(1,-2)]
noncomputable def iL (m:Int×Int->Bool)(x y:Int):Bool:=D3.all fun d=>zV m (mv x y (cW x)) (x+d.1,y+d.2) == (x+d.1,y+d.2)
noncomputable def tX (ks:List Int)(bs:List Bool):Bool:=D3.all fun d=>oF ks bs d == d
noncomputable def iM (bs:List Bool):List Int:=((UB bs.length).filter fun i=>bs.getD i false).map fun (i:Nat)=>(i:Int)
noncomputable def mE (bs:List Bool):List Int:=((iM bs).zip ((iM bs).drop 1++((iM bs).take 1).map fun s=>s+(bs.length:Int))).map fun p=>(p.2 - p.1) * (8 / (bs.length:Int))
theorem RQ:∀ a b c d e g h i:Bool,gE (mE [a,b,c,d,e,g,h,i])=tX K8 [a,b,c,d,e,g,h,i]:=by decide +kernel
theorem RR:∀ a b c d:Bool,gE (mE [a,b,c,d])=tX K4 [a,b,c,d]:=by decide +kernel
theorem EY {m:Int×Int->Bool}{x y:Int}{l:List (Int×Int)}{ks:List Int}(he:cW x=l)(hk:ks.length=l.length)(hl:∀ q∈l.zip ks,fT (x+q.1.1) (y+q.1.2)=(q.2,kQ q.2 x y)):iL m x y=tX ks ((mv x y l).map m):=by
 unfold iL tX
 rw [he]
 congr 1
 funext d
 rw [EX m x y l ks d hk hl]
 generalize oF ks ((mv x y l).map m) d=q
 rw [Xo]
 simp only [beq_iff_eq,Z3]
 omega
theorem RS {m:Int×Int->Bool}{x y:Int}(hx:x % 2=0)(hxy:x % 4=y % 4):gE (mE ((mv x y (cW x)).map m))=iL m x y:=by
 by_cases h:x % 4=0
 ·have he:cW x=E8:=by unfold cW;rw [if_pos h]
  rw [EY he rfl (RO h (by omega)),he]
  exact RQ _ _ _ _ _ _ _ _
 ·have he:cW x=F4:=by unfold cW;rw [if_neg h]
  rw [EY he rfl (RP (by omega) (by omega)),he]
  exact RR _ _ _ _
noncomputable def gH (p:Int×Int):Bool:=p.1 % 2 == 0&&p.1 % 4 == p.2 % 4
theorem RT (k:Nat)(x y:Int)(μ:Hm)(Q:D×Hm->Prop):W (f (k+1) "is_corner" [P x y] μ) Q↔Q (.bl (gH (x,y)),μ):=by
 rw [P8,W_fin]
 simp only [w_mRet,nY,aU,aV,aE,gZ,iJ,fB,n9,l9]
 unfold gH
 cases x % 2 == 0<;>simp
theorem RU (k:Nat)(w h:Int)(hw:1<=w/\w<=3)(hh:1<=h/\h<=3)(μ:Hm)(Q:D×Hm->Prop)(H:∀ a μ',μ <+: μ'->μ'[a]? = some (.lst (((d7 w h).filter gH).map PP))->Q (.loc a,μ')):W (f (k+2) "corners_in" [.int w,.int h] μ) Q:=by
 rw [Ql,W_fin]
 simp only [w_mRet]
 refine gD (xs:=(d7 w h).map PP) (p:=fun d=>gH (dX d)) (v:=fun d=>d) ?_
 simp only [w_iSeq,a8,aN,aM,aE,aF]
 refine Ey _ w h (by omega) (by omega) _ _ fun a μ1 p1 g1 l1=>?_
 refine (eE g1).mpr ⟨jG g1,rfl,?_,fun d μ' hd hp=>?_,fun d μ' hd _ hp=>?_,fun μ' hp hg=>?_⟩
 ·have:=Ez (w:=w) (h:=h) (by omega) (by omega)
  rw [Tt,Ud];omega
 ·obtain ⟨u,v,rfl⟩:=kL hd
  simp only [Ur,Ut,jF,a8,aN,aM,aE,aF,RT,kH]
  exact ⟨rfl,T9 _⟩
 ·simp only [Ur,Ut,aE,aF]
  exact ⟨trivial,T9 _⟩
 ·refine H _ _ (p1.trans hp) ?_
  rw [hg,oA gH]
noncomputable def bN (ms:List ((Int×Int)×Str))(p:Int×Int):Bool:=(ms.map (·.1)).any fun q=>q == p
theorem EZ:∀ ms:List ((Int×Int)×Str),nO (ms.map MD)=some (ms.map fun m=>(bS m.1,D.str m.2))
 | []=>rfl
 | m::ms=>by
  rw [T4,T4]
  show (dZ (PP m.1)).bind (fun k=>(nO (ms.map MD)).map fun l=>(k,D.str m.2)::l)=_
  rw [EZ ms]
  rfl
theorem E4 (k:List Int):∀ (l kvs:List (List Int×D)),(bJ (l.foldl (fun q p=>cN q p.1 p.2) kvs) k).isSome=((bJ kvs k).isSome||l.any fun p=>decide (p.1=k))
 | [],kvs=>by simp
 | p::l,kvs=>by
  rw [Zm,E4 k l,zT,VU]
  cases decide (p.1=k)<;>cases (bJ kvs k).isSome<;>simp
theorem tY (p q:Int×Int):decide (bS p=bS q)=(p == q):=by
 rw [Xo]
 simp only [decide_eq_true_eq,beq_iff_eq,bS,a0z,and_true,Z3]
theorem E6 (ms:List ((Int×Int)×Str))(p:Int×Int):(bJ ((ms.map fun m=>(bS m.1,D.str m.2)).foldl (fun q p=>cN q p.1 p.2) []) (bS p)).isSome=bN ms p:=by
 rw [E4]
 unfold bN
 rw [YR,YR]
 show (false||_)=_
 rw [Bool.false_or]
 congr 1
 funext m
 exact tY m.1 p
theorem E7 {a b c:D}{μ:Hm}{Q:D×Hm->Prop}:W (aI (.tup [a,b,c]) (.int 2) μ) Q↔Q (c,μ):=W_some
theorem qI {a b c:D}{μ:Hm}{Q:D×Hm->Prop}:W (aI (.tup [a,b,c]) (.int 0) μ) Q↔Q (a,μ):=W_some
theorem qJ {a b c:D}{μ:Hm}{Q:D×Hm->Prop}:W (aI (.tup [a,b,c]) (.int 1) μ) Q↔Q (b,μ):=W_some
noncomputable abbrev SH (w h:Int)(ms:List ((Int×Int)×Str)):D:=.tup [.int w,.int h,.tup (ms.map MD)]
theorem Fb {ms:List ((Int×Int)×Str)}{μ:Hm}{Q:D×Hm->Prop}:W (lV [.tup (ms.map MD)] μ) Q↔Q (.loc μ.length,μ++[.dT ((ms.map fun m=>(bS m.1,D.str m.2)).foldl (fun q p=>cN q p.1 p.2) [])]):=by
 have:lV [.tup (ms.map MD)] μ=some (.loc μ.length,μ++[.dT ((ms.map fun m=>(bS m.1,D.str m.2)).foldl (fun q p=>cN q p.1 p.2) [])]):=by
  simp only [lV,EZ,Ui]
 rw [this]
 exact W_some
theorem RV (k:Nat)(w h:Int)(ms:List ((Int×Int)×Str))(x y:Int)(μ:Hm)(Q:D×Hm->Prop)(H:∀ a μ',μ <+: μ'->μ'[a]? = some (.lst (((mv x y (cW x)).filter (bN ms)).map PP))->Q (.loc a,μ')):W (f (k+3) "creases_at" [SH w h ms,P x y] μ) Q:=by
 rw [Qo,W_fin]
 simp only [bK,cB,a8,aN,aM,aE,aF]
 rw [Eh,W_fin]
 simp only [w_mRet,a8,aN,aM,aU,aE,aV,E7,Fb,Tx,TC]
 refine gD (xs:=(mv x y (cW x)).map PP) (p:=fun d=>bN ms (dX d)) (v:=fun d=>d) ?_
 simp only [w_iSeq,a8,aN,aM,aE,aF]
 refine EB k x y _ _ fun a μ1 p1 g1 l1=>?_
 refine (eE g1).mpr ⟨jG g1,rfl,?_,fun d μ' hd hp=>?_,fun d μ' hd _ hp=>?_,fun μ' hp hg=>?_⟩
 ·rw [Tt,Ud]
  unfold mv cW
  rw [Tt]
  split<;>decide
 ·obtain ⟨u,v,rfl⟩:=kL hd
  simp only [Ur,Ut,cI,aU,aE,aF]
  refine (zG (aY (p1.trans hp) (bI _ _)) (fD (u,v))).mpr ?_
  simp only [TQ,if_false]
  exact ⟨E6 ms (u,v),T9 _⟩
 ·simp only [Ur,Ut,aE,aF]
  exact ⟨trivial,T9 _⟩
 ·refine H _ _ ((aZ _ _).trans (p1.trans hp)) ?_
  rw [hg,oA (bN ms)]
theorem Fc (μ:Hm)(q:Int×Int):∀ ps:List (Int×Int),jY μ (PP q) (ps.map PP)=some (ps.map fun p=>p == q)
 | []=>rfl
 | p::ps=>by
  rw [T4,T4]
  simp only [jY,Fc μ q ps]
  rw [zB 6]
  rfl
theorem RW {μ:Hm}{a:Nat}{ps:List (Int×Int)}{q:Int×Int}{Q:D×Hm->Prop}(h:μ[a]? = some (.lst (ps.map PP)))(hq:q∈ps)(hz:ps.length<=TL):W (nK (.loc a) [PP q] μ) Q↔Q (.int (ps.idxOf q:Nat),μ):=by
 have e:(ps.map fun p=>p == q).findIdx id=ps.idxOf q:=by
  rw [List.findIdx_map];rfl
 have hl:ps.idxOf q<ps.length:=Zx hq
 simp only [nK,h,Fc,T3]
 rw [e,Tt,if_pos ⟨hl,hz⟩]
 exact W_some
theorem RX {es:List (Int×Int)}(hn:es.Nodup){i:Nat}(hi:i<es.length):es.idxOf (es.getD i (0,0))=i:=by
 have e:es.getD i (0,0)=es[i]:=by simp [Vb,hi]
 rw [e]
 have hl:es.idxOf es[i]<es.length:=Zx (Y9 hi)
 have h1:es[es.idxOf es[i]]=es[i]:=List.getElem_idxOf hl
 rcases WW (es.idxOf es[i]) i with h|h|h
 ·exact absurd h1 ((Vi.mp hn) _ i hl hi h)
 ·exact h
 ·exact absurd h1.symm ((Vi.mp hn) i _ hi hl h)
theorem Fd {es:List (Int×Int)}(hn:es.Nodup)(m:Int×Int->Bool):(es.filter m).map (fun q=>((es.idxOf q:Nat):Int))=iM (es.map m):=by
 have h1:es.filter m=((UB es.length).filter fun i=>m (es.getD i (0,0))).map fun i=>es.getD i (0,0):=by
  conv=>lhs;rw [<- zR es (0,0)]
  rw [List.filter_map]
  rfl
 unfold iM
 rw [h1,UK,Tt]
 have h2:(UB es.length).filter (fun i=>m (es.getD i (0,0)))=(UB es.length).filter fun i=>(es.map m).getD i false:=by
  refine List.filter_congr fun i hi=>?_
  have hi:=Vn.mp hi
  simp [Vb,hi]
 rw [<- h2]
 refine Xw fun i hi=>?_
 have hi:=Vn.mp (WE.mp hi).1
 show ((es.idxOf (es.getD i (0,0)):Nat):Int)=_
 rw [RX hn hi]
theorem RY (x y:Int){l:List (Int×Int)}(h:l.Nodup):(mv x y l).Nodup:=by
 unfold mv
 show List.Pairwise _ _
 rw [a1s]
 refine a2K (fun {a b} hab e=>hab ?_) h
 simp only [Z3] at e ⊢
 omega
theorem RZ (x:Int):(cW x).Nodup:=by
 unfold cW
 split<;>decide
theorem Fe (x:Int):(cW x).length=8\/(cW x).length=4:=by
 unfold cW
 split
 ·exact .inl rfl
 ·exact .inr rfl
theorem R0 (is:List Int):hX (is.map D.int) (some 1) none=(is.drop 1).map D.int:=by
 cases is with
 | nil=>rfl
 | cons a l=>
  unfold hX
  rw [show (1:Int)=((1:Nat):Int) from rfl,HT.sIx_nat,HT.sIx_none,Tt,Zv (by simp),<- List.map_drop,Z6 (by rw [Tt,XZ];omega)]
theorem R6 (is:List Int):hX (is.map D.int) none (some 1)=(is.take 1).map D.int:=by
 cases is with
 | nil=>rfl
 | cons a l=>
  unfold hX
  rw [show (1:Int)=((1:Nat):Int) from rfl,HT.sIx_nat,HT.sIx_none,Tt,Zv (by simp),a1T,a2G,List.map_take]
noncomputable def mF (is js:List Int):List D:=(is.zip js).map PP
theorem R8 {μ:Hm}{a b:Nat}{is js:List Int}(ha:μ[a]? = some (.lst (is.map D.int)))(hb:μ[b]? = some (.lst (js.map D.int))):∀ μ' i,μ <+: μ'->pP (.loc a) (.loc b) μ' i=some (mF is js)[i]?:=fun μ' i hp=>by
 simp only [pP,bA,aY hp ha,aY hp hb,T3,Ui]
 unfold mF List.zip
 rw [Uu,Uu,Uu,a0q]
 cases is[i]?<;>cases js[i]?<;>rfl
theorem Sa (k:Nat)(w h:Int)(ms:List ((Int×Int)×Str))(x y:Int)(μ:Hm)(Q:D×Hm->Prop)(H:∀ a μ',μ <+: μ'->μ'[a]? = some (.lst ((mE ((mv x y (cW x)).map (bN ms))).map D.int))->Q (.loc a,μ')):W (f (k+4) "gaps_at" [SH w h ms,P x y] μ) Q:=by
 have hel:=Fe x
 have hml:(mv x y (cW x)).length=(cW x).length:=by unfold mv;rw [Tt]
 have hnd:=RY x y (RZ x)
 rw [Qp,W_fin]
 simp only [bK,cB,a8,aN,aM,aE,aF]
 refine EB (k+1) x y _ _ fun a1 μ1 p1 g1 l1=>?_
 simp only [Tx,TC,aE,aF]
 refine RV k w h ms x y _ _ fun a2 μ2 p2 g2=>?_
 simp only [Tx,TC]
 have g12:=aY p2 g1
 generalize hes:mv x y (cW x)=es at g12 g2 hml hnd H
 have hfl:(es.filter (bN ms)).length<=8:=UU (U5 _ _) (by omega)
 refine gD (xs:=(es.filter (bN ms)).map PP) (p:=fun _=>true) (v:=fun d=>.int ((es.idxOf (dX d):Nat):Int)) ?_
 simp only [w_iSeq,aE,aF]
 refine (eE g2).mpr ⟨jG g2,rfl,by rw [Tt,Ud];omega,fun d μ' hd hp=>w_mTrue.mpr ⟨rfl,T9 _⟩,fun d μ' hd _ hp=>?_,fun μ3 p3 g3=>?_⟩
 ·obtain ⟨q,hq,rfl⟩:=UZ.mp hd
  refine jH ?_
  simp only [Ur,Ut,aE,aF]
  refine ⟨jI (aY hp g12),?_⟩
  simp only [aN,aM,aE,aF]
  exact (RW (aY hp g12) (WE.mp hq).1 (by rw [Ud];omega)).mpr ⟨rfl,T9 _⟩
 ·have g3':μ3[μ2.length]? = some (.lst ((iM (es.map (bN ms))).map D.int)):=by
   rw [g3,qH,UK,<- Fd hnd,UK]
   rfl
  have hil:(iM (es.map (bN ms))).length<=8:=by
   rw [<- Fd hnd,Tt]
   exact hfl
  generalize hix:iM (es.map (bN ms))=is at g3' hil
  simp only [aU]
  refine D8 ?_
  simp only [aE,aF,tS,aV,tR]
  refine ⟨_,rfl,_,g3',?_⟩
  rw [R0]
  have g4:=aY (aZ μ3 (C.lst ((is.drop 1).map D.int))) g3'
  have g4e:=aY (p3.trans (aZ μ3 (C.lst ((is.drop 1).map D.int)))) g12
  refine gD (xs:=(is.take 1).map D.int) (p:=fun _=>true) (v:=fun d=>.int (jK d+(es.length:Int))) ?_
  simp only [w_iSeq]
  refine D8 ?_
  simp only [aE,aF,tS,aV,tR]
  refine ⟨_,rfl,_,g4,?_⟩
  rw [R6]
  refine (eE (bI _ _)).mpr ⟨jG (bI _ _),rfl,by rw [Tt,V2,Ud];omega,fun d μ' hd hp=>w_mTrue.mpr ⟨rfl,T9 _⟩,fun d μ' hd _ hp=>?_,fun μ5 p5 g5=>?_⟩
  ·obtain ⟨i,_,rfl⟩:=zL hd
   simp only [Ur,Ut,aU,aE,aF,a8,aN,aM]
   refine (n8 (aY ((aZ _ _).trans hp) g4e)).mpr ?_
   simp only [dN,Tt]
   exact ⟨rfl,T9 _⟩
  ·have q5:=(aZ (μ3++[C.lst ((is.drop 1).map D.int)]) (C.lst ((is.take 1).map D.int))).trans p5
   have g5':μ5[(μ3++[C.lst ((is.drop 1).map D.int)]++[C.lst ((is.take 1).map D.int)]).length]? = some (.lst (((is.take 1).map fun s=>s+(es.length:Int)).map D.int)):=by
    rw [g5,qH,UK,UK]
    rfl
   have g5d:=aY q5 (bI μ3 (C.lst ((is.drop 1).map D.int)))
   refine (tQ g5d g5' (by rw [Tt,Tt,Tt,XZ,V2,Ud];omega)).mpr ?_
   rw [<- UH]
   simp only [Tx,TC,aU,aV,a8,aN,aM,aE,aF]
   have q6:=q5.trans (aZ μ5 (C.lst ((is.drop 1++(is.take 1).map fun s=>s+(es.length:Int)).map D.int)))
   refine (n8 (aY q6 g4e)).mpr ?_
   rw [Tt]
   refine (iI (by omega) (by omega)).mpr ?_
   simp only [Tx,TC,w_mRet]
   have g6:=aY q6 g4
   have g7:=bI μ5 (C.lst ((is.drop 1++(is.take 1).map fun s=>s+(es.length:Int)).map D.int))
   generalize hjs:is.drop 1++(is.take 1).map (fun s=>s+(es.length:Int))=js at g6 g7 q6
   have hzl:(mF is js).length<=8:=by
    unfold mF
    rw [Tt,Zl]
    omega
   have h8:8 / (es.length:Int)=1\/8 / (es.length:Int)=2:=by
    rcases hel with h|h
    ·left;rw [hml,h];rfl
    ·right;rw [hml,h];rfl
   refine PU (xs:=mF is js) (x:=fun d=>[some (.int (dX d).1),some (.int (dX d).2)]) (p:=fun _=>true) (v:=fun d=>.int (((dX d).2 - (dX d).1) * (8 / (es.length:Int)))) ?_
   refine PV ?_
   simp only [aN,aM,aE,aF]
   refine ⟨_,_,_,_,rfl,g6,g7,R8 g6 g7,?_,by rw [Ud];omega,fun d μ' hd=>?_,fun d μ' hd hp=>w_mTrue.mpr ⟨rfl,T9 _⟩,fun d μ' hd _ hp=>?_,fun μ8 p8 g8=>?_⟩
   ·unfold mF
    simp only [Tt,Zl]
   ·obtain ⟨q,_,rfl⟩:=UZ.mp hd
    rfl
   ·obtain ⟨q,_,rfl⟩:=UZ.mp hd
    simp only [Ur,Ut,aU,aE,aF,yX]
    exact (dE (.inr (by omega))).mpr ⟨rfl,T9 _⟩
   ·refine H _ _ (p1.trans (p2.trans (p3.trans ((aZ _ _).trans (q6.trans p8))))) ?_
    rw [g8,qH]
    unfold mF mE
    rw [hix,Tt,hjs,UK,UK]
    rfl
theorem Sb {α:Type}{l A B:List α}{x:α}{q:α->Bool}(hl:l=A++x::B)(hA:∀ y∈A,q y=false)(hx:q x=true):l.find? q=some x:=by
 rw [hl,YQ]
 have:A.find? q=none:=XD.mpr fun y hy=>by rw [hA y hy];exact UN
 rw [this,List.find?_cons_of_pos hx]
 rfl
theorem Se {α:Type}{l:List α}{i:Nat}{x:α}(h:l[i]? = some x):l=l.take i++x::l.drop (i+1):=by
 obtain ⟨hi,rfl⟩:=Tw.mp h
 rw [<- ZP hi,W0]
noncomputable def iN (ms:List ((Int×Int)×Str))(p:Int×Int):Bool:=gH p&&!(iL (bN ms) p.1 p.2)
noncomputable def qK:Option (Int×Int)->D
 | none=>.non
 | some p=>PP p
theorem Sf (bs:List Bool):(mE bs).length<=bs.length:=by
 unfold mE
 rw [Tt,Zl]
 have:(iM bs).length<=bs.length:=by
  unfold iM
  rw [Tt]
  exact UU (U5 _ _) (by simp)
 omega
theorem Sg {p:Int×Int}(h:gH p=true):p.1 % 2=0/\p.1 % 4=p.2 % 4:=by
 unfold gH at h
 simpa using h
theorem zW (k:Nat){w h:Int}(hw:1<=w/\w<=3)(hh:1<=h/\h<=3)(ms:List ((Int×Int)×Str))(μ:Hm)(Q:D×Hm->Prop)(H:∀ μ',μ <+: μ'->Q (qK ((d7 w h).find? (iN ms)),μ')):W (f (k+5) "barred" [SH w h ms] μ) Q:=by
 rw [Qq,W_fin]
 simp only [bK,fC,w_iSeq,a8,aN,aM,aU,aE,aV,qI,qJ]
 refine RU (k+2) w h hw hh _ _ fun a μ1 p1 g1=>?_
 refine (eE g1).mpr ?_
 have hf:(d7 w h).find? (iN ms)=((d7 w h).filter gH).find? fun p=>!(iL (bN ms) p.1 p.2):=by
  rw [List.find?_filter]
  congr 1
  funext p
  unfold iN
  cases gH p<;>cases iL (bN ms) p.1 p.2<;>simp
 rw [hf] at H
 generalize hcs:(d7 w h).filter gH=cs at g1 H
 have hcc:∀ p∈cs,gH p=true:=fun p hp=>by rw [<- hcs] at hp;exact (WE.mp hp).2
 refine kI (xs:=cs.map PP) (fun i ρ μ'=>μ1 <+: μ'/\(∀ q∈cs.take i,(!(iL (bN ms) q.1 q.2))=false)/\∃ o1,ρ=[some (SH w h ms),o1]) ⟨T9 _,fun q hq=>by simp at hq,none,rfl⟩ (fun i ρ μ' hI=>aY hI.1 g1) ?_ ?_
 ·rintro i d ρ μ2 hd ⟨hp,hok,o1,rfl⟩
  obtain ⟨⟨x,y⟩,hq,rfl⟩:=oC hd
  have hc:=Sg (hcc _ (UG hq))
  refine ⟨_,rfl,?_⟩
  simp only [Tx,TC,dM,tN,jF,a8,aN,aM,aE,aF]
  refine Sa k w h ms x y _ _ fun b μ3 p3 g3=>?_
  refine Q8 (k+2) b _ ?_ _ _ g3 fun μ4 p4=>?_
  ·have h1:=Sf ((mv x y (cW x)).map (bN ms))
   rw [Tt] at h1
   have h2:(mv x y (cW x)).length=(cW x).length:=by unfold mv;rw [Tt]
   have:=Fe x
   omega
  rw [RS hc.1 hc.2]
  simp only [kH]
  cases hb:iL (bN ms) x y with
  | true=>
   simp only [XU,TQ,if_false,dB]
   refine ⟨hp.trans (p3.trans p4),fun q hq'=>?_,_,rfl⟩
   rw [XC,hq] at hq'
   rcases U7.mp hq' with hq'|hq'
   ·exact hok q hq'
   ·have:q=(x,y):=by simpa using hq'
    rw [this,hb]
    rfl
  | false=>
   simp only [ZG,if_true,w_mRet,aE,aF]
   have e:=Sb (q:=fun p=>!(iL (bN ms) p.1 p.2)) (Se hq) hok (by dsimp only;rw [hb];rfl)
   rw [e] at H
   exact H _ (p1.trans (hp.trans (p3.trans p4)))
 ·rintro ρ μ2 ⟨hp,hok,o1,rfl⟩
  simp only [w_mRet,aV]
  rw [Tt,W3] at hok
  have e:cs.find? (fun p=>!(iL (bN ms) p.1 p.2))=none:=XD.mpr fun y hy=>by rw [hok y hy];exact UN
  rw [e] at H
  exact H _ (p1.trans hp)
structure Ly where
 a:Int
 b:Int
 c:Int
 d:Int
 e:Int
 g:Int
 deriving DecidableEq
noncomputable abbrev LD (A:Ly):D:=.tup [.int A.a,.int A.b,.int A.c,.int A.d,.int A.e,.int A.g]
noncomputable def Dih (A:Ly):Prop:=(A.b=0/\A.c=0/\(A.a=1\/A.a = -1)/\(A.d=1\/A.d = -1))\/(A.a=0/\A.d=0/\(A.b=1\/A.b = -1)/\(A.c=1\/A.c = -1))
theorem Dih.sm {A:Ly}(h:Dih A):(-1<=A.a/\A.a<=1)/\(-1<=A.b/\A.b<=1)/\(-1<=A.c/\A.c<=1)/\(-1<=A.d/\A.d<=1):=by
 unfold Dih at h
 omega
noncomputable def dF (A:Ly)(p:Int×Int):Int×Int:=(A.a * p.1+A.b * p.2+A.e,A.c * p.1+A.d * p.2+A.g)
noncomputable def oG (A B:Ly):Ly:=⟨B.a * A.a+B.b * A.c,B.a * A.b+B.b * A.d,B.c * A.a+B.d * A.c,B.c * A.b+B.d * A.d,B.a * A.e+B.b * A.g+B.e,B.c * A.e+B.d * A.g+B.g⟩
noncomputable def cX:Ly:=⟨1,0,0,1,0,0⟩
noncomputable def tZ (e:Int×Int):Ly:=
 ⟨(cJ (1,0) e).1 - (cJ (0,0) e).1,(cJ (0,1) e).1 - (cJ (0,0) e).1,(cJ (1,0) e).2 - (cJ (0,0) e).2,(cJ (0,1) e).2 - (cJ (0,0) e).2,(cJ (0,0) e).1,(cJ (0,0) e).2⟩
theorem Ly.ext' {A B:Ly}(h1:A.a=B.a)(h2:A.b=B.b)(h3:A.c=B.c)(h4:A.d=B.d)(h5:A.e=B.e)(h6:A.g=B.g):A=B:=by
 cases A;cases B;simp_all
theorem Ff (e:Int×Int):Dih (tZ e):=by
 obtain ⟨x,y⟩:=e
 unfold Dih tZ cJ
 dsimp only
 split<;>split<;>dsimp only<;>omega
theorem Fg:Dih cX:=.inl ⟨rfl,rfl,.inl rfl,.inl rfl⟩
theorem kR {x y:Int}(hx:x=1\/x = -1)(hy:y=1\/y = -1):x * y=1\/x * y = -1:=by
 rcases hx with rfl|rfl<;>rcases hy with rfl|rfl<;>decide
theorem Sh {A B:Ly}(hA:Dih A)(hB:Dih B):Dih (oG A B):=by
 unfold Dih oG
 dsimp only
 rcases hA with ⟨h1,h2,h3,h4⟩|⟨h1,h2,h3,h4⟩<;>rcases hB with ⟨k1,k2,k3,k4⟩|⟨k1,k2,k3,k4⟩<;>rw [h1,h2,k1,k2]<;>simp only [Int.mul_zero,Int.zero_mul,Int.add_zero,Int.zero_add,true_and]
 ·exact .inl ⟨kR k3 h3,kR k4 h4⟩
 ·exact .inr ⟨kR k3 h4,kR k4 h3⟩
 ·exact .inr ⟨kR k3 h3,kR k4 h4⟩
 ·exact .inl ⟨kR k3 h4,kR k4 h3⟩
theorem Si {a b c d e g:D}:([a,b,c,d,e,g]:List D).length<=TL:=by show (6:Nat)<=TL;decide
theorem Fh (k:Nat)(p q r:Int×Int)(μ:Hm)(Q:D×Hm->Prop):W (f (k+1) "laying_by" [PP p,PP q,PP r] μ) Q↔Q (LD ⟨q.1 - p.1,r.1 - p.1,q.2 - p.2,r.2 - p.2,p.1,p.2⟩,μ):=by
 rw [Qt,W_fin]
 simp only [w_mRet,eL,aN,aM,aU,aE,aF,aV,gZ,iJ,yX,Si,true_and]
theorem Sj (k:Nat)(x y:Int)(μ:Hm)(Q:D×Hm->Prop):W (f (k+3) "mirror_in" [P x y] μ) Q↔Q (LD (tZ (x,y)),μ):=by
 rw [Qu,W_fin]
 simp only [w_mRet,a8,aN,aM,eL,aE,aV,iK,true_and,Er,Fh]
 rfl
theorem t8 {i j:Int}(h:-1<=i/\i<=1){μ:Hm}{Q:D×Hm->Prop}:W (bC (.int i) (.int j) μ) Q↔Q (.int (i * j),μ):=dE (.inl ⟨by omega,by omega⟩)
theorem Fi (k:Nat)(A:Ly)(hA:Dih A)(x y:Int)(μ:Hm)(Q:D×Hm->Prop):W (f (k+1) "led" [LD A,P x y] μ) Q↔Q (PP (dF A (x,y)),μ):=by
 obtain ⟨h1,h2,h3,h4⟩:=hA.sm
 rw [Qv,W_fin]
 simp only [bK,cB,w_mRet,eL,aN,aM,aU,aE,aF,aV,gZ,iJ,Po,Pp,Pq,Pr,Pt,Pu,Tx,TC,t8 h1,t8 h2,t8 h3,t8 h4,dN,iK,true_and]
 rfl
theorem Sk (k:Nat)(A B:Ly)(hA:Dih A)(hB:Dih B)(μ:Hm)(Q:D×Hm->Prop):W (f (k+2) "then" [LD A,LD B] μ) Q↔Q (LD (oG A B),μ):=by
 rw [Qw,W_fin]
 simp only [w_mRet,a8,aN,aM,eL,aE,aF,aV,iK,true_and,Fi _ A hA,Fi _ B hB,Fh]
 have e:(⟨(dF B (dF A (1,0))).1 - (dF B (dF A (0,0))).1,(dF B (dF A (0,1))).1 - (dF B (dF A (0,0))).1,(dF B (dF A (1,0))).2 - (dF B (dF A (0,0))).2,(dF B (dF A (0,1))).2 - (dF B (dF A (0,0))).2,(dF B (dF A (0,0))).1,(dF B (dF A (0,0))).2⟩:Ly)=oG A B:=by
  unfold dF oG
  refine Ly.ext' ?_ ?_ ?_ ?_ ?_ ?_<;>dsimp only<;>grind
 rw [<- e]
noncomputable def st (m:Int×Int->Bool)(e:Int×Int)(A:Ly):Ly:=if m e then oG (tZ e) A else A
theorem Sm {m:Int×Int->Bool}{e:Int×Int}{A:Ly}(h:Dih A):Dih (st m e A):=by
 unfold st
 split
 ·exact Sh (Ff e) h
 ·exact h
noncomputable def Sn (e q:Int×Int):Int×Int:=match oB e.1 e.2 with
 | [a,b]=>if q=a then b else a
 | _=>q
noncomputable abbrev Tr:=List ((Int×Int)×(Int×Int)×(Int×Int))
noncomputable def oH (q:Int×Int):List (Int×Int):=[(q.1 - 1,q.2),(q.1,q.2 - 1),(q.1,q.2+1),(q.1+1,q.2)]
noncomputable def kS (p:Int×Int):Bool:=if p.1 % 2=1 then p.2 % 2 == 1 else p.2 % 2 == 0&&!(p.1 % 4 == p.2 % 4)
noncomputable def qL (w h:Int)(p:Int×Int):Bool:=decide (0<p.1)&&decide (p.1<4 * w)&&(decide (0<p.2)&&decide (p.2<4 * h))
noncomputable def hV (w h:Int)(q:Int×Int):List (Int×Int):=((oH q).filter kS).filter (qL w h)
noncomputable def qM (p:Int×Int):Bool:=if p.1 % 2=1 then p.2 % 4 == 2 else p.1 % 4 == 2&&p.2 % 2 == 1
noncomputable def oJ (w h:Int):List (Int×Int):=(d7 w h).filter qM
noncomputable def first (w h:Int):Int×Int:=(oJ w h).headD (0,0)
noncomputable def hW (f0:Int×Int)(t:Tr):List (Int×Int):=f0::t.map (·.1)
noncomputable def fE (f0 here:Int×Int)(s:List (Int×Int)×Tr)(e:Int×Int):List (Int×Int)×Tr:=
 if cJ here e∈hW f0 s.2 then s else (s.1++[cJ here e],s.2++[(cJ here e,e,here)])
noncomputable def qN (w h:Int)(f0:Int×Int)(s:List (Int×Int)×Tr):List (Int×Int)×Tr:=match s.1.getLast? with
 | none=>s
 | some here=>(hV w h here).foldl (fE f0 here) (s.1.dropLast,s.2)
noncomputable def eF (w h:Int)(f0:Int×Int):Nat->List (Int×Int)×Tr
 | 0=>([f0],[])
 | n+1=>qN w h f0 (eF w h f0 n)
noncomputable def fU (w h:Int):Tr:=(eF w h (first w h) 36).2
noncomputable def t9:List (Int×Int)->Tr->Bool
 | _,[]=>true
 | ks,(c,_,p)::t=>!ks.contains c&&ks.contains p&&t9 (ks++[c]) t
theorem So:∀ w∈[(1:Int),2,3],∀ h∈[(1:Int),2,3],(eF w h (first w h) 36).1=[]/\t9 [first w h] (fU w h)=true/\(∀ t∈fU w h,t.2.2∈oB t.2.1.1 t.2.1.2/\Sn t.2.1 t.2.2=t.1)/\(∀ q∈cS w h,q∈hW (first w h) (fU w h))/\first w h=(cS w h).headD (0,0)/\2<=(fU w h).length/\(fU w h).length<=40:=by decide +kernel
noncomputable abbrev Kv:=List ((Int×Int)×Ly)
noncomputable def bZ (kvs:Kv)(q:Int×Int):Ly:=((kvs.find? fun p=>p.1 == q).map (·.2)).getD cX
theorem Sq {kvs:Kv}{q:Int×Int}(h:q∈kvs.map (·.1))(r:Kv):bZ (kvs++r) q=bZ kvs q:=by
 obtain ⟨p,h1,h2⟩:=UZ.mp h
 unfold bZ
 rw [YQ]
 cases z:kvs.find? fun p=>p.1 == q with
 | some x=>rfl
 | none=>
  have:=XD.mp z p h1
  simp [h2] at this
theorem Ss {kvs:Kv}{q:Int×Int}{A:Ly}(h:q∉kvs.map (·.1)):bZ (kvs++[(q,A)]) q=A:=by
 unfold bZ
 rw [YQ]
 have:kvs.find? (fun p=>p.1 == q)=none:=XD.mpr fun p hp=>by
  intro z
  exact h (UZ.mpr ⟨p,hp,by simpa using z⟩)
 rw [this]
 simp
noncomputable def cC (m:Int×Int->Bool):Kv->Tr->Kv
 | kvs,[]=>kvs
 | kvs,(c,e,p)::t=>cC m (kvs++[(c,st m e (bZ kvs p))]) t
theorem Fj (m:Int×Int->Bool)(c e p:Int×Int):∀ (t:Tr)(kvs:Kv),cC m kvs (t++[(c,e,p)])=cC m kvs t++[(c,st m e (bZ (cC m kvs t) p))]
 | [],kvs=>rfl
 | (c',e',p')::t,kvs=>Fj m c e p t _
theorem zX (m:Int×Int->Bool):∀ (t:Tr)(kvs:Kv),(cC m kvs t).map (·.1)=kvs.map (·.1)++t.map (·.1)
 | [],kvs=>by simp [cC]
 | (c,e,p)::t,kvs=>by
  rw [cC,zX m t]
  simp
theorem Fm {kvs:Kv}(h:∀ p∈kvs,Dih p.2)(q:Int×Int):Dih (bZ kvs q):=by
 unfold bZ
 cases z:kvs.find? fun p=>p.1 == q with
 | none=>exact Fg
 | some x=>exact h x (Wz z)
theorem Fn (m:Int×Int->Bool):∀ (t:Tr)(kvs:Kv),(∀ p∈kvs,Dih p.2)->∀ p∈cC m kvs t,Dih p.2
 | [],kvs,h=>h
 | (c,e,p)::t,kvs,h=>Fn m t _ fun x hx=>by
  rcases U7.mp hx with hx|hx
  ·exact h x hx
  ·rw [UW.mp hx]
   exact Sm (Fm h p)
theorem Fo (m:Int×Int->Bool):∀ (t:Tr)(kvs:Kv),t9 (kvs.map (·.1)) t=true->(∀ q∈kvs.map (·.1),bZ (cC m kvs t) q=bZ kvs q)/\(∀ x∈t,bZ (cC m kvs t) x.1=st m x.2.1 (bZ (cC m kvs t) x.2.2))/\((kvs.map (·.1)).Nodup->(kvs.map (·.1)++t.map (·.1)).Nodup)
 | [],kvs,_=>⟨fun q _=>rfl,(fun x hx=>nomatch hx),fun h=>by simpa using h⟩
 | (c,e,p)::t,kvs,h=>by
  rw [t9,Ts,Ts] at h
  obtain ⟨⟨h1,h2⟩,h3⟩:=h
  have h1:c∉kvs.map (·.1):=by simpa using h1
  have h2:p∈kvs.map (·.1):=by simpa using h2
  obtain ⟨i1,i2,i3⟩:=Fo m t (kvs++[(c,st m e (bZ kvs p))]) (by simpa using h3)
  have old:∀ q∈kvs.map (·.1),bZ (cC m (kvs++[(c,st m e (bZ kvs p))]) t) q=bZ kvs q:=fun q hq=>by
   rw [i1 q (by rw [UH];exact U7.mpr (.inl hq)),Sq hq]
  refine ⟨old,fun x hx=>?_,fun nd=>?_⟩
  ·rcases Ug.mp hx with rfl|hx
   ·show bZ (cC m (kvs++[(c,st m e (bZ kvs p))]) t) c=st m e (bZ (cC m (kvs++[(c,st m e (bZ kvs p))]) t) p)
    rw [old p h2,i1 c (by simp),Ss h1]
   ·exact i2 x hx
  ·have:=i3 (by
    rw [UH,YM]
    refine ⟨nd,by simp,fun a ha b hb z=>?_⟩
    have:b=c:=by simpa using hb
    rw [z,this] at ha
    exact h1 ha)
   simpa using this
noncomputable def Fp (m:Int×Int->Bool)(w h:Int):Kv:=cC m [(first w h,cX)] (fU w h)
theorem Su (k:Nat)(ns:List Int)(c:Nat)(ws:List Int)(hws:ws≠[])(μ:Hm)(hc:μ[c]? = some (.lst (ws.map D.int)))(Q:D×Hm->Prop)(H:∀ (w h:Int)(ms:List ((Int×Int)×Str)) μ',(1<=w/\w<=3)->(1<=h/\h<=3)->μ <+: μ'->ms.length<=89->Q (.tup [.int w,.int h,.tup (ms.map MD)],μ')):W (f (k+4) "_law_sheet" [.rol (ns.map D.int),.int 3,.loc c] μ) Q:=by
 rw [QX,W_fin]
 simp only [bK,cB,aU,aV,a8,aN,aM,aE,aF]
 refine kN (k+2) ns 0 (by decide) _ _ fun μ1 p1=>?_
 refine (cR (by decide)).mpr ?_
 simp only [dN,Tx,TC,aE,aF]
 refine kN (k+2) ns 0 (by decide) _ _ fun μ2 p2=>?_
 refine (iI (by decide) (by decide)).mpr ((cR (by decide)).mpr ?_)
 simp only [dN,Tx,TC]
 have hw:1<=1+dC ns 0 % 3/\1+dC ns 0 % 3<=3:=by
  have h1:=Vc (dC ns 0) (show (3:Int)≠0 by decide)
  have h2:=UY (dC ns 0) (show (0:Int)<3 by decide)
  omega
 have hh:1<=1+dC ns 0 / 3 % 3/\1+dC ns 0 / 3 % 3<=3:=by
  have h1:=Vc (dC ns 0 / 3) (show (3:Int)≠0 by decide)
  have h2:=UY (dC ns 0 / 3) (show (0:Int)<3 by decide)
  omega
 generalize 1+dC ns 0 % 3=w at hw
 generalize 1+dC ns 0 / 3 % 3=h at hh
 have q3:=p1.trans p2
 simp only [eM,aM]
 refine ⟨UP _,?_⟩
 simp only [Tx,TC,fC]
 refine Eb ?_
 simp only [aN,aM,a8,aE,aF]
 refine RI k ns hw hh c ws hws _ (aY (q3.trans (aZ _ _)) hc) _ fun b fs μ4 p4 g4 l4=>?_
 refine ⟨b,fs.map PP,rfl,g4,?_⟩
 have hne:b≠μ2.length\/fs=[]:=by
  by_cases z:b=μ2.length
  ·right
   have z1:=aY p4 (bI μ2 (C.lst []))
   rw [z,z1] at g4
   injection g4 with g4
   injection g4 with g4
   cases fs with
   | nil=>rfl
   | cons _ _=>cases g4
  ·exact .inl z
 rcases hne with hne|rfl
 ·refine zD (fun i ρ μ'=>μ2 <+: μ'/\μ'[b]? = some (.lst (fs.map PP))/\∃ (ms:List ((Int×Int)×Str))(o6 o7 o8:Option D),μ'[μ2.length]? = some (.lst (ms.map MD))/\ms.length<=i/\i<=fs.length/\ρ=[some (.rol (ns.map D.int)),some (.int 3),some (.loc c),some (.int w),some (.int h),some (.loc μ2.length),o6,o7,o8]) ⟨(aZ _ _).trans p4,g4,[],none,none,none,aY p4 (bI _ _),TK _,UP _,rfl⟩ (fun i ρ μ' hI=>hI.2.1) ?_ ?_
  ·rintro i d ρ μ5 hd ⟨hp,hgb,ms,o6,o7,o8,hg,hf,_,rfl⟩
   obtain ⟨q,hq,rfl⟩:=oC hd
   have hi:i<fs.length:=(Tw.mp hq).1
   refine ⟨[some (.rol (ns.map D.int)),some (.int 3),some (.loc c),some (.int w),some (.int h),some (.loc μ2.length),some (.int i),some (PP q),o8],rfl,?_⟩
   have h9:0<=(i:Int) % 9/\(i:Int) % 9<9:=⟨Vc _ (by decide),UY _ (by decide)⟩
   simp only [Tx,TC,bK,cB,aU,a8,aN,aM,aE,aF,aV,Q3,dN]
   refine kN (k+2) ns _ (by omega) _ _ fun μ6 p6=>?_
   simp only [Ei,dN]
   refine (dE (.inr (by omega))).mpr ((dE (.inl (by omega))).mpr ?_)
   simp only [dN,Tx,TC,kE]
   have hg6:=aY p6 hg
   refine jH ?_
   simp only [aE,aF]
   refine ⟨jI hg6,?_⟩
   simp only [aN,aM,eL,aE,aF,aU,aV]
   refine (cR (by decide)).mpr ((cR (by decide)).mpr ?_)
   refine RM ⟨Vc _ (by decide),UY _ (by decide)⟩ fun s=>?_
   refine ⟨iK,?_⟩
   refine (n6 hg6 (by rw [Tt,Ud];omega)).mpr ?_
   refine ⟨gC (hp.trans p6) (TK _) _,?_,ms++[(q,s)],_,_,_,?_,by rw [Ua];exact Xc hf,hi,rfl⟩
   ·rw [kP (Va hne)]
    exact aY p6 hgb
   ·rw [gF hg6,UH]
    rfl
  ·rintro ρ μ5 ⟨hp,hgb,ms,o6,o7,o8,hg,hf,_,rfl⟩
   simp only [w_mRet,eL,aN,aM,aE,aF,a8]
   refine (Ec hg).mpr ⟨EW,?_⟩
   exact H w h ms _ hw hh (q3.trans hp) (by rw [Tt] at hf;omega)
 ·refine zD (xs:=[]) (fun i ρ μ'=>μ'=μ4/\ρ=[some (.rol (ns.map D.int)),some (.int 3),some (.loc c),some (.int w),some (.int h),some (.loc μ2.length),none,none,none]) ⟨rfl,rfl⟩ (fun i ρ μ' hI=>by rw [hI.1];exact g4) (fun i d ρ μ' hd=>by simp at hd) ?_
  rintro ρ μ5 ⟨rfl,rfl⟩
  simp only [w_mRet,eL,aN,aM,aE,aF,a8]
  refine (Ec (xs:=([]:List ((Int×Int)×Str)).map MD) (aY p4 (bI _ _))).mpr ⟨EW,?_⟩
  exact H w h [] _ hw hh (q3.trans ((aZ _ _).trans p4)) (UP _)
theorem Sv (k:Nat)(x y:Int)(μ:Hm)(Q:D×Hm->Prop):W (f (k+1) "is_edge" [P x y] μ) Q↔Q (.bl (kS (x,y)),μ):=by
 rw [P9,W_fin]
 simp only [bK,w_mRet,dB,dM,cI,nY,aU,aV,aE,gZ,iJ,fB,D1,n9,l9]
 unfold kS
 by_cases h:x % 2=1
 ·simp [h]
 ·have e:(x % 2 == 1)=false:=by simpa using h
  simp only [e,h,TQ,if_false]
  cases y % 2 == 0<;>simp
theorem Sw (k:Nat)(x y:Int)(μ:Hm)(Q:D×Hm->Prop):W (f (k+1) "is_quarter" [P x y] μ) Q↔Q (.bl (qM (x,y)),μ):=by
 rw [Qa,W_fin]
 simp only [bK,w_mRet,dB,dM,cI,nY,aU,aV,aE,gZ,iJ,fB,D1,n9,l9]
 unfold qM
 by_cases h:x % 2=1
 ·simp [h]
 ·have e:(x % 2 == 1)=false:=by simpa using h
  simp only [e,h,TQ,if_false]
  cases x % 4 == 2<;>simp
theorem qO:(4:Nat)<=TL:=by decide
theorem Sx (k:Nat)(q:Int×Int)(μ:Hm):f (k+1) "beside" [PP q] μ=some (.loc μ.length,μ++[C.lst [P (q.1 - 1) q.2,P q.1 (q.2 - 1),P q.1 (q.2+1),P (q.1+1) q.2]]):=by
 rw [Qc]
 kernel_rfl
theorem Sy (k:Nat)(q:Int×Int)(μ:Hm)(Q:D×Hm->Prop)(H:∀ a μ',μ <+: μ'->μ'[a]? = some (.lst (((oH q).filter kS).map PP))->μ.length<=a->Q (.loc a,μ')):W (f (k+2) "edges_of" [PP q] μ) Q:=by
 rw [Qd,W_fin]
 simp only [w_mRet]
 refine gD (xs:=(oH q).map PP) (p:=fun d=>kS (dX d)) (v:=fun d=>d) ?_
 refine w_iSeq.mpr (Ep rfl ?_)
 rw [Sx,W_some]
 have g1:(μ++[C.lst [P (q.1 - 1) q.2,P q.1 (q.2 - 1),P q.1 (q.2+1),P (q.1+1) q.2]])[μ.length]? = some (.lst ((oH q).map PP)):=bI _ _
 refine (eE g1).mpr ⟨jG g1,rfl,qO,fun d μ' hd hp=>?_,fun d μ' hd _ hp=>?_,fun μ' hp hg=>?_⟩
 ·obtain ⟨u,v,rfl⟩:=kL hd
  simp only [Ur,Ut,jF,a8,aN,aM,aE,aF,Sv,kH]
  exact ⟨rfl,T9 _⟩
 ·simp only [Ur,Ut,aE,aF]
  exact ⟨trivial,T9 _⟩
 ·refine H _ _ ((aZ _ _).trans hp) ?_ (by simp)
  rw [hg,oA kS]
theorem Sz (k:Nat)(w h x y:Int)(μ:Hm)(Q:D×Hm->Prop):W (f (k+1) "is_within" [.int w,.int h,P x y] μ) Q↔Q (.bl (qL w h (x,y)),μ):=by
 rw [Qi,W_fin]
 simp only [w_mRet,nY,PH,aU,aV,aE,aF,gZ,iJ,yY,l8]
 unfold qL
 dsimp only
 cases decide (0<x)<;>cases decide (x<4 * w)<;>cases decide (0<y)<;>cases decide (y<4 * h)<;>simp
noncomputable def NB (q e:Int×Int):D:=.tup [PP e,PP (cJ q e)]
theorem SA (k:Nat)(w h:Int)(q:Int×Int)(μ:Hm)(Q:D×Hm->Prop)(H:∀ a μ',μ <+: μ'->μ'[a]? = some (.lst ((hV w h q).map (NB q)))->μ.length<=a->Q (.loc a,μ')):W (f (k+3) "neighbours_in" [.int w,.int h,PP q] μ) Q:=by
 rw [Qm,W_fin]
 simp only [w_mRet]
 refine gD (xs:=((oH q).filter kS).map PP) (p:=fun d=>qL w h (dX d)) (v:=fun d=>NB q (dX d)) ?_
 simp only [w_iSeq,a8,aN,aM,aE,aF]
 refine Sy k q _ _ fun a μ1 p1 g1 l1=>?_
 refine (eE g1).mpr ⟨jG g1,rfl,?_,fun d μ' hd hp=>?_,fun d μ' hd _ hp=>?_,fun μ' hp hg=>?_⟩
 ·rw [Tt]
  exact UU (U5 _ _) qO
 ·obtain ⟨u,v,rfl⟩:=kL hd
  simp only [Ur,Ut,jF,a8,aN,aM,aE,aF,Sz,kH]
  exact ⟨rfl,T9 _⟩
 ·obtain ⟨u,v,rfl⟩:=kL hd
  simp only [Ur,Ut,eL,a8,aN,aM,aE,aF,Er,iK,true_and]
  exact ⟨rfl,T9 _⟩
 ·refine H _ _ (p1.trans hp) ?_ p1.length_le
  rw [hg]
  have:=oA (qL w h) ((oH q).filter kS)
  rw [a2u] at this
  rw [this,UK]
  rfl
theorem SD (k:Nat)(w h:Int)(hw:1<=w/\w<=3)(hh:1<=h/\h<=3)(μ:Hm)(Q:D×Hm->Prop)(H:∀ a μ',μ <+: μ'->μ'[a]? = some (.lst ((oJ w h).map PP))->Q (.loc a,μ')):W (f (k+2) "quarters_in" [.int w,.int h] μ) Q:=by
 rw [Qk,W_fin]
 simp only [w_mRet]
 refine gD (xs:=(d7 w h).map PP) (p:=fun d=>qM (dX d)) (v:=fun d=>d) ?_
 simp only [w_iSeq,a8,aN,aM,aE,aF]
 refine Ey _ w h (by omega) (by omega) _ _ fun a μ1 p1 g1 l1=>?_
 refine (eE g1).mpr ⟨jG g1,rfl,?_,fun d μ' hd hp=>?_,fun d μ' hd _ hp=>?_,fun μ' hp hg=>?_⟩
 ·have:=Ez (w:=w) (h:=h) (by omega) (by omega)
  rw [Tt,Ud];omega
 ·obtain ⟨u,v,rfl⟩:=kL hd
  simp only [Ur,Ut,jF,a8,aN,aM,aE,aF,Sw,kH]
  exact ⟨rfl,T9 _⟩
 ·simp only [Ur,Ut,aE,aF]
  exact ⟨trivial,T9 _⟩
 ·refine H _ _ (p1.trans hp) ?_
  rw [hg,oA qM]
  rfl
theorem SE (k:Nat){w h:Int}(hw:1<=w/\w<=3)(hh:1<=h/\h<=3)(ms:List ((Int×Int)×Str))(hb:(d7 w h).find? (iN ms)=none)(μ:Hm)(Q:D×Hm->Prop)(H:∀ μ',μ <+: μ'->Q (.non,μ')):W (f (k+6) "check_corners" [SH w h ms] μ) Q:=by
 rw [Qr,W_fin]
 simp only [bK,cB,a8,aN,aM,aE]
 refine zW k hw hh ms _ _ fun μ' hp=>?_
 rw [hb]
 simp only [qK,Tx,TC,dM,cI,aU,aE,aF,aV,PK,TQ,if_false,dB]
 exact H _ hp
noncomputable def d8 (kvs:Kv):List (List Int×D):=kvs.map fun p=>(bS p.1,LD p.2)
theorem Fq (kvs:Kv)(q:Int×Int):(bJ (d8 kvs) (bS q)).isSome=decide (q∈kvs.map (·.1)):=by
 rw [oE]
 induction kvs with
 | nil=>rfl
 | cons p kvs ih=>
  show (decide (bS p.1=bS q)||(d8 kvs).any _)=_
  rw [ih,tY]
  simp only [T4,Ug,Bool.decide_or]
  congr 1
  rw [Xo,beq_iff_eq,decide_eq_true_iff]
  exact eq_comm
theorem Fs {kvs:Kv}{q:Int×Int}(h:q∈kvs.map (·.1)):bJ (d8 kvs) (bS q)=some (LD (bZ kvs q)):=by
 induction kvs with
 | nil=>simp at h
 | cons p kvs ih=>
  unfold bJ bZ d8
  rw [T4,UM,UM]
  dsimp only
  rw [tY]
  cases z:p.1 == q with
  | true=>rfl
  | false=>
   rcases Ug.mp h with h|h
   ·simp [h] at z
   ·exact ih h
theorem SG {kvs:Kv}{q:Int×Int}(h:q∉kvs.map (·.1))(A:Ly):cN (d8 kvs) (bS q) (LD A)=d8 (kvs++[(q,A)]):=by
 unfold cN
 rw [Fq,decide_eq_false h,if_neg (by simp)]
 unfold d8
 rw [UH]
 rfl
theorem SJ {l:List (List Int×D)}(nd:(l.map (·.1)).Nodup){k:List Int}{d:D}(h:(k,d)∈l):bJ l k=some d:=by
 induction l with
 | nil=>cases h
 | cons p l ih=>
  rw [T4,Xj] at nd
  unfold bJ
  rw [UM]
  rcases Ug.mp h with h|h
  ·rw [<- h]
   simp
  ·have:decide (p.1=k)=false:=decide_eq_false fun z=>nd.1 (UZ.mpr ⟨_,h,z.symm⟩)
   rw [this]
   exact ih nd.2 h
theorem SK {l:List (List Int×D)}(nd:(l.map (·.1)).Nodup)(h0:0<l.length){k:List Int}{d:D}(h:bJ l k=some d):bJ (jD l) k=some d:=by
 have hp:(jD l).Perm l:=by
  unfold jD
  have p:=(m4 (fun i j=>HT.lexLt ((l.map (·.1)).getD i []) ((l.map (·.1)).getD j [])) h0).map fun i=>l.getD i ([],.non)
  rw [zR] at p
  exact p
 exact SJ ((hp.map (·.1)).nodup_iff.mpr nd) (hp.mem_iff.mpr (zS h))
theorem SM {p q:Int×Int}(h:bS p=bS q):p=q:=by
 have:=tY p q
 rw [decide_eq_true h] at this
 simpa using this.symm
theorem SN {kvs:Kv}(nd:(kvs.map (·.1)).Nodup):((d8 kvs).map (·.1)).Nodup:=by
 have e:(d8 kvs).map (·.1)=(kvs.map (·.1)).map bS:=by
  unfold d8
  rw [UK,UK]
  rfl
 rw [e]
 exact a2J _ (fun a b hab z=>hab (SM z)) nd
theorem SO {c:MT}{b:MS}{Q:Fl×aG×Hm->Prop}(I:Nat->aG->Hm->Prop)
  (hs:∀ m ρ μ,I m ρ μ->W (c ρ μ) fun p=>if p.1=true then W (b ρ p.2) fun q=>match q.1 with
   | .nx=>∃ m',m'<m/\I m' q.2.1 q.2.2
   | .ct=>∃ m',m'<m/\I m' q.2.1 q.2.2
   | .bk=>Q (.nx,q.2.1,q.2.2)
   | .rt d=>Q (.rt d,q.2.1,q.2.2) else Q (.nx,ρ,p.2)):∀ (n m:Nat)(ρ:aG)(μ:Hm),m<n->I m ρ μ->W (lK c b n ρ μ) Q:=by
 intro n
 induction n with
 | zero=>intro m ρ μ h;omega
 | succ n ih=>
  intro m ρ μ hm hI
  unfold lK
  rw [W_bind]
  refine bM (hs m ρ μ hI) fun p hp=>?_
  obtain ⟨pb,pμ⟩:=p
  cases pb with
  | false=>exact W_some.mpr (by simpa using hp)
  | true=>
   simp only [if_true] at hp
   dsimp only
   rw [W_bind]
   refine bM hp fun q hq=>?_
   obtain ⟨fl,qρ,qμ⟩:=q
   cases fl with
   | nx=>obtain ⟨m',h1,h2⟩:=hq;exact ih m' _ _ (by omega) h2
   | ct=>obtain ⟨m',h1,h2⟩:=hq;exact ih m' _ _ (by omega) h2
   | bk=>exact W_some.mpr hq
   | rt d=>exact W_some.mpr hq
theorem SQ {c:MT}{b:MS}{ρ:aG}{μ:Hm}{Q:Fl×aG×Hm->Prop}(I:Nat->aG->Hm->Prop)(m:Nat)(hm:m<1000000000)(h0:I m ρ μ)
  (hs:∀ m ρ μ,I m ρ μ->W (c ρ μ) fun p=>if p.1=true then W (b ρ p.2) fun q=>match q.1 with
   | .nx=>∃ m',m'<m/\I m' q.2.1 q.2.2
   | .ct=>∃ m',m'<m/\I m' q.2.1 q.2.2
   | .bk=>Q (.nx,q.2.1,q.2.2)
   | .rt d=>Q (.rt d,q.2.1,q.2.2) else Q (.nx,ρ,p.2)):W (m3 nS c b ρ μ) Q:=by
 unfold m3
 exact SO I hs nS m ρ μ (by unfold nS;exact hm) h0
theorem SR {μ:Hm}{a:Nat}{xs:List D}{Q:Bool->Prop}(h:μ[a]? = some (.lst xs)):W (jW μ (.loc a)) Q↔Q (!xs.isEmpty):=by
 simp only [jW,h]
 exact W_some
theorem SS {μ:Hm}{a:Nat}{xs:List D}{y:D}{Q:D×Hm->Prop}(h:μ[a]? = some (.lst (xs++[y]))):W (jV (.loc a) [] μ) Q↔Q (y,μ.set a (.lst xs)):=by
 have:jV (.loc a) [] μ=some (y,μ.set a (.lst xs)):=by
  simp only [jV,h]
  simp
 rw [this]
 exact W_some
theorem SU {m:ME}{ρ:aG}{μ:Hm}{Q:D×Hm->Prop}:W (lW m ρ μ) Q↔W (m ρ μ) fun p=>W (nP p.1 p.2) Q:=by
 unfold lW
 rw [W_bind]
theorem SV {μ:Hm}{a:Nat}{kvs:List (List Int×D)}{Q:D×Hm->Prop}(h:μ[a]? = some (.dT kvs))(hl:2<=kvs.length/\kvs.length<64):W (nP (.loc a) μ) Q↔Q (.loc μ.length,μ++[.dT (jD kvs)]):=by
 have:nP (.loc a) μ=some (.loc μ.length,μ++[.dT (jD kvs)]):=by
  simp only [nP,h]
  rw [if_pos hl]
 rw [this]
 exact W_some
theorem SW {i:Nat}{y:D}{ρ:aG}{μ:Hm}{x:D}{k:List Int}{Q:D×Hm->Prop}(h:ρ[i]? = some (some x))(hk:dZ x=some k):W (lX (aA i) (mC y) ρ μ) Q↔Q (.loc μ.length,μ++[.dT [(k,y)]]):=by
 have:lX (aA i) (mC y) ρ μ=some (.loc μ.length,μ++[.dT [(k,y)]]):=by
  unfold lX aA mC
  simp only [h,T3,bI,hk,Ui,zN]
 rw [this]
 exact W_some
noncomputable def zY (ms:List ((Int×Int)×Str)):List (List Int×D):=(ms.map fun m=>(bS m.1,D.str m.2)).foldl (fun q p=>cN q p.1 p.2) []
structure LI (ms:List ((Int×Int)×Str))(f0:Int×Int)(μ3:Hm)(s:List (Int×Int)×Tr)(μ':Hm):Prop where
 pre:μ3 <+: μ'
 dic:μ'[μ3.length]? = some (.dT (d8 (cC (bN ms) [(f0,cX)] s.2)))
 due:μ'[μ3.length+1]? = some (.lst (s.1.map PP))
 sub:∀ q∈s.1,q∈hW f0 s.2
theorem qP (m:Int×Int->Bool)(f0:Int×Int)(t:Tr):(cC m [(f0,cX)] t).map (·.1)=hW f0 t:=zX m t _
theorem SX (m:Int×Int->Bool)(f0:Int×Int)(t:Tr)(q:Int×Int):Dih (bZ (cC m [(f0,cX)] t) q):=
 Fm (Fn m t _ fun p hp=>by rw [UW.mp hp];exact Fg) q
theorem Ft (m:Int×Int->Bool)(f0:Int×Int)(t:Tr):(d8 (cC m [(f0,cX)] t)).length=t.length+1:=by
 have:=congrArg Vu (qP m f0 t)
 unfold d8
 rw [Tt] at this ⊢
 rw [this]
 simp [hW]
noncomputable def Fu (k:Nat):MS:=bB (aP (aB (cP true) (aA 7) (aA 3))) (aJ (jC (aA 3) (aA 7) (gR (aP (aB (cP false) (aA 6) (aA 1))) (aK (f (k+6) "then") (aC (aK (f (k+6) "mirror_in") (aC (aA 6) aD)) (aC (aB aI (aA 3) (aA 5)) aD))) (aB aI (aA 3) (aA 5)))) (c9 (cV d4 (aA 4) (aC (aA 7) aD)))) bD
noncomputable abbrev RL (w h:Int)(ms:List ((Int×Int)×Str))(a1:Nat)(f0:Int×Int)(n:Nat)(o5 o6 o7:Option D):aG:=[some (SH w h ms),some (.loc a1),some (PP f0),some (.loc n),some (.loc (n+1)),o5,o6,o7]
theorem SY (k:Nat){w h:Int}{ms:List ((Int×Int)×Str)}{f0 here e:Int×Int}{μ3 μ':Hm}{a1:Nat}{s:List (Int×Int)×Tr}(hm:μ3[a1]? = some (.dT (zY ms)))(I:LI ms f0 μ3 s μ')(hh:here∈hW f0 s.2)(hl:s.1.length<=500)(hl2:s.2.length<=500){Q:Fl×aG×Hm->Prop}
  (H:∀ μ'',LI ms f0 μ3 (fE f0 here s e) μ''->(∀ b c,μ3.length+2<=b->μ'[b]? = some c->μ''[b]? = some c)->Q (.nx,RL w h ms a1 f0 μ3.length (some (PP here)) (some (PP e)) (some (PP (cJ here e))),μ'')) :
  W (Fu k (RL w h ms a1 f0 μ3.length (some (PP here)) (some (PP e)) (some (PP (cJ here e)))) μ') Q:=by
 have hmk:=aY I.pre hm
 unfold Fu
 simp only [dM,cI,aU,aE,aF]
 refine (zG I.dic (fD _)).mpr ?_
 rw [Fq,qP]
 unfold fE at H
 by_cases hn:cJ here e∈hW f0 s.2
 ·rw [if_pos hn] at H
  simp only [hn,decide_true,XU,if_true,TQ,if_false,dB]
  exact H _ I fun b c _ z=>z
 ·rw [if_neg hn] at H
  simp only [hn,decide_false,ZG,if_true,bK,zF,yU,cI,aU,aE,aF]
  refine (zG hmk (fD e)).mpr ?_
  have hv:bJ (d8 (cC (bN ms) [(f0,cX)] s.2)) (bS here)=some (LD (bZ (cC (bN ms) [(f0,cX)] s.2) here)):=Fs (by rw [qP];exact hh)
  have hd:=SX (bN ms) f0 s.2 here
  have es:(bJ (zY ms) (bS e)).isSome=bN ms e:=E6 ms e
  simp only [TQ,if_false,es]
  have fin:∀ A:Ly,A=st (bN ms) e (bZ (cC (bN ms) [(f0,cX)] s.2) here)->W (nJ (.loc μ3.length) (PP (cJ here e)) (LD A) μ') fun μ''=>W (c9 (cV d4 (aA 4) (aC (aA 7) aD)) (RL w h ms a1 f0 μ3.length (some (PP here)) (some (PP e)) (some (PP (cJ here e)))) μ'') Q:=by
   rintro A rfl
   refine (zH I.dic (fD _) (by rw [Ft,Ud];omega)).mpr ?_
   rw [SG (by rw [qP];exact hn)]
   have gd:(μ'.set μ3.length (.dT (d8 (cC (bN ms) [(f0,cX)] s.2++[(cJ here e,st (bN ms) e (bZ (cC (bN ms) [(f0,cX)] s.2) here))]))))[μ3.length+1]? = some (.lst (s.1.map PP)):=by
    rw [kP (by omega)]
    exact I.due
   simp only [kE]
   refine jH ?_
   simp only [aE,aF]
   refine ⟨jI gd,?_⟩
   simp only [aN,aM,aE,aF]
   refine (n6 gd (by rw [Tt,Ud];omega)).mpr ?_
   refine H _ ⟨gC (gC I.pre (TK _) _) (by omega) _,?_,?_,?_⟩ fun b c hb z=>?_
   ·rw [kP (by omega),Fj]
    exact gF I.dic
   ·rw [gF gd,UH]
    rfl
   ·intro q hq
    show q∈f0::(s.2++[(cJ here e,e,here)]).map (·.1)
    rw [UH]
    rcases U7.mp hq with hq|hq
    ·rcases Ug.mp (I.sub q hq) with z|z
     ·exact Ug.mpr (.inl z)
     ·exact Ug.mpr (.inr (U7.mpr (.inl z)))
    ·exact Ug.mpr (.inr (U7.mpr (.inr hq)))
   ·rw [kP (by omega),kP (by omega)]
    exact z
  cases hi:bN ms e with
  | true=>
   simp only [if_true,a8,aN,aM,aE,aF,aU]
   refine (Sj (k+3) e.1 e.2 _ _).mpr ?_
   refine (lZ I.dic (fD _) hv).mpr ((Sk (k+4) _ _ (Ff _) hd _ _).mpr ?_)
   refine fin _ ?_
   unfold st
   rw [hi,if_pos rfl]
  | false=>
   simp only [TQ,if_false,aU,aE,aF]
   refine (lZ I.dic (fD _) hv).mpr (fin _ ?_)
   unfold st
   rw [hi,if_neg (by simp)]
theorem Fv {w h:Int}{f0:Int×Int}{i:Nat}(hi:(eF w h f0 i).1=[]):∀ j,eF w h f0 (i+j)=eF w h f0 i
 | 0=>rfl
 | j+1=>by
  show qN w h f0 (eF w h f0 (i+j))=_
  rw [Fv hi j]
  unfold qN
  rw [hi]
  rfl
theorem Fw (w h:Int)(q:Int×Int):(hV w h q).length<=4:=UU (U5 _ _) (U5 _ _)
theorem S0 (f0 here e:Int×Int)(s:List (Int×Int)×Tr):(fE f0 here s e).1.length<=s.1.length+1/\(fE f0 here s e).2.length<=s.2.length+1:=by
 unfold fE
 split
 ·omega
 ·simp
theorem S1 {f0 here e q:Int×Int}{s:List (Int×Int)×Tr}(h:q∈hW f0 s.2):q∈hW f0 (fE f0 here s e).2:=by
 unfold fE
 split
 ·exact h
 ·show q∈f0::(s.2++[(cJ here e,e,here)]).map (·.1)
  rw [UH]
  rcases Ug.mp h with z|z
  ·exact Ug.mpr (.inl z)
  ·exact Ug.mpr (.inr (U7.mpr (.inl z)))
theorem S2 {q:Int×Int}{es:List (Int×Int)}{i:Nat}{d:D}(h:(es.map (NB q))[i]? = some d):∃ e,es[i]? = some e/\d=NB q e:=by
 rw [Uu] at h
 obtain ⟨e,h1,h2⟩:=Tq.mp h
 exact ⟨e,h1,h2.symm⟩
theorem S3 {α β:Type}{g:β->α->β}{b:β}{l:List α}{i:Nat}{x:α}(h:l[i]? = some x):(l.take (i+1)).foldl g b=g ((l.take i).foldl g b) x:=by
 rw [List.take_add_one,h,List.foldl_append]
 rfl
theorem S4 (k:Nat){w h:Int}(hw:1<=w/\w<=3)(hh:1<=h/\h<=3)(ms:List ((Int×Int)×Str))(hb:(d7 w h).find? (iN ms)=none)(μ:Hm)(Q:D×Hm->Prop)
  (H:∀ a kvs μ',μ <+: μ'->μ'[a]? = some (.dT kvs)->(∀ q∈cS w h,bJ kvs (bS q)=some (LD (bZ (Fp (bN ms) w h) q)))->Q (.loc a,μ')):W (f (k+7) "laid" [SH w h ms] μ) Q:=by
 obtain ⟨t1,t2,t3,t4,t5,t6,t7⟩:=So w (gG hw) h (gG hh)
 rw [Qx,W_fin]
 simp only [bK,kE,a8,aN,aM,aE]
 refine SE k hw hh ms hb _ _ fun μ1 p1=>?_
 simp only [cB,a8,aN,aM,aE]
 rw [Eh,W_fin]
 simp only [w_mRet,a8,aN,aM,aU,aE,aV,E7,Fb,Tx,TC,bK,cB,aF,qI,qJ]
 refine SD (k+4) w h hw hh _ _ fun b μ3 p3 g3=>?_
 have hf:atI ((oJ w h).map PP) 0=some (PP (first w h)):=by
  have hq:oJ w h≠[]:=by
   intro z
   have hp:∀ w∈[(1:Int),2,3],∀ h∈[(1:Int),2,3],oJ w h≠[]:=by decide +kernel
   exact hp w (gG hw) h (gG hh) z
  unfold first
  match hz:oJ w h,hq with
  | q::qs,_=>
   unfold atI
   rw [tV (Int.le_refl 0) (by simp)]
   rfl
 refine (nZ g3 hf).mpr ?_
 simp only [Tx,TC]
 refine (SW (x:=PP (first w h)) rfl (fD _)).mpr ?_
 simp only [Tx,TC,eM,aN,aM,aE,aF]
 refine ⟨by show (1:Nat)<=TL;decide,?_⟩
 have hm:μ3[μ1.length]? = some (.dT (zY ms)):=aY p3 (bI _ _)
 have pq:μ <+: μ3:=p1.trans ((aZ _ _).trans p3)
 refine SQ (fun m ρ μ'=>∃ i,m+i=36/\LI ms (first w h) μ3 (eF w h (first w h) i) μ'/\(eF w h (first w h) i).1.length<=5 * i+1/\(eF w h (first w h) i).2.length<=5 * i/\∃ o5 o6 o7,ρ=RL w h ms μ1.length (first w h) μ3.length o5 o6 o7) 36 (by decide) ⟨0,rfl,⟨?_,?_,?_,?_⟩,by simp [eF],by simp [eF],none,none,none,?_⟩ ?_
 ·exact (aZ _ _).trans (aZ _ _)
 ·refine (aY (aZ _ _) (bI _ _)).trans ?_
  rfl
 ·have:=bI (μ3++[C.dT [(bS (first w h),tU)]]) (.lst [PP (first w h)])
  rw [Ua] at this
  exact this
 ·intro q hq
  exact Ug.mpr (.inl (by simpa [eF] using hq))
 ·rw [Ua]
  rfl
 ·rintro m ρ μ4 ⟨i,hmi,I,n1,n2,o5,o6,o7,rfl⟩
  simp only [jF,aE,aF]
  refine (SR I.due).mpr ?_
  generalize hs:eF w h (first w h) i=s at I n1 n2
  rcases List.eq_nil_or_concat s.1 with z|⟨ds,here,z⟩
  ·have e1:(!(s.1.map PP).isEmpty)=false:=by rw [z];rfl
   rw [e1]
   simp only [TQ,if_false]
   have et:s=eF w h (first w h) 36:=by
    rw [<- hs,<- hmi,a2I]
    exact (Fv (by rw [hs];exact z) m).symm
   have dic:=I.dic
   rw [et] at dic
   simp only [w_mRet,SU,aE,aF]
   have hlen:=Ft (bN ms) (first w h) (fU w h)
   refine (SV dic ?_).mpr ?_
   ·show 2<=(d8 (cC (bN ms) [(first w h,cX)] (fU w h))).length/\(d8 (cC (bN ms) [(first w h,cX)] (fU w h))).length<64
    rw [hlen]
    omega
   ·have nd:((cC (bN ms) [(first w h,cX)] (fU w h)).map (·.1)).Nodup:=by
     rw [zX]
     exact (Fo (bN ms) (fU w h) [(first w h,cX)] t2).2.2 (by simp)
    refine H _ _ _ (pq.trans (I.pre.trans (aZ _ _))) (bI _ _) fun q hq=>?_
    refine SK (SN nd) ?_ (Fs (kvs:=cC (bN ms) [(first w h,cX)] (fU w h)) ?_)
    ·show 0<(d8 (cC (bN ms) [(first w h,cX)] (fU w h))).length
     rw [hlen]
     omega
    ·rw [qP]
     exact t4 q hq
  ·have e1:(!(s.1.map PP).isEmpty)=true:=by rw [z];simp
   rw [e1]
   simp only [if_true,bK,cB]
   have hm0:0<m:=by
    rcases Nat.eq_zero_or_pos m with q|q
    ·exfalso
     have:i=36:=by omega
     subst this
     rw [hs] at t1
     rw [t1] at z
     simp at z
    ·exact q
   refine jH ?_
   simp only [aE,aF]
   refine ⟨jI I.due,?_⟩
   simp only [aM]
   have due:=I.due
   rw [z,List.concat_eq_append,UH] at due
   refine (SS due).mpr ?_
   simp only [Tx,TC,fC,w_iSeq,a8,aN,aM,aU,aV,aE,aF,qI,qJ]
   have zl:s.1.length=ds.length+1:=by rw [z];simp
   have I1:LI ms (first w h) μ3 (ds,s.2) (μ4.set (μ3.length+1) (.lst (ds.map PP))):=
    ⟨gC I.pre (by omega) _,by rw [kP (by omega)];exact I.dic,gF due,fun q hq=>I.sub q (by rw [z];simp [hq])⟩
   have hk:here∈hW (first w h) s.2:=I.sub here (by rw [z];simp)
   refine SA (k+3) w h here _ _ fun b μ5 p5 g5 l5=>?_
   refine (eE g5).mpr ?_
   have hlt:μ3.length+1<(μ4.set (μ3.length+1) (.lst (ds.map PP))).length:=(Tw.mp I1.due).1
   have I2:LI ms (first w h) μ3 (ds,s.2) μ5:=⟨I1.pre.trans p5,aY p5 I1.dic,aY p5 I1.due,I1.sub⟩
   have er:eF w h (first w h) (i+1)=(hV w h here).foldl (fE (first w h) here) (ds,s.2):=by
    show qN w h (first w h) (eF w h (first w h) i)=_
    rw [hs]
    unfold qN
    rw [z]
    simp
   refine kI (fun j ρ μ'=>LI ms (first w h) μ3 (((hV w h here).take j).foldl (fE (first w h) here) (ds,s.2)) μ'/\μ'[b]? = some (.lst ((hV w h here).map (NB here)))/\here∈hW (first w h) (((hV w h here).take j).foldl (fE (first w h) here) (ds,s.2)).2 /\
    (((hV w h here).take j).foldl (fE (first w h) here) (ds,s.2)).1.length<=ds.length+j/\(((hV w h here).take j).foldl (fE (first w h) here) (ds,s.2)).2.length<=s.2.length+j/\j<=4/\∃ o6 o7,ρ=RL w h ms μ1.length (first w h) μ3.length (some (PP here)) o6 o7)
    ⟨I2,g5,hk,TK _,TK _,by omega,o6,o7,rfl⟩ (fun j ρ μ' hI=>hI.2.1) ?_ ?_
   ·rintro j d ρ μ6 hd ⟨I6,gb,hk6,m1,m2,hj,o6,o7,rfl⟩
    obtain ⟨e,he,rfl⟩:=S2 hd
    refine ⟨RL w h ms μ1.length (first w h) μ3.length (some (PP here)) (some (PP e)) (some (PP (cJ here e))),rfl,?_⟩
    have hj1:j<(hV w h here).length:=(Tw.mp he).1
    have:=Fw w h here
    refine SY k hm I6 hk6 (by omega) (by omega) fun μ7 I7 keep=>?_
    rw [S3 he]
    have vl:=S0 (first w h) here e (((hV w h here).take j).foldl (fE (first w h) here) (ds,s.2))
    exact ⟨I7,keep _ _ (by omega) gb,S1 hk6,by omega,by omega,by omega,_,_,rfl⟩
   ·rintro ρ μ6 ⟨I6,gb,hk6,m1,m2,hj,o6,o7,rfl⟩
    rw [Tt,W3,<- er] at I6 m1 m2
    have:=Fw w h here
    exact ⟨m - 1,by omega,i+1,by omega,I6,by omega,by omega,_,_,_,rfl⟩
noncomputable abbrev bX (c:Int×Int):Xn:=(("Barred":Str),[(("corner":Str),PP c)])
theorem S5 (k:Nat){w h:Int}(hw:1<=w/\w<=3)(hh:1<=h/\h<=3)(ms:List ((Int×Int)×Str)){c:Int×Int}(hb:(d7 w h).find? (iN ms)=some c)(μ:Hm):W (g (k+6) "check_corners" [SH w h ms] μ) fun q=>q.1=bX c/\μ <+: q.2:=by
 rw [Qs,Ee]
 refine P6 rfl ?_
 simp only [cB,a8,aN,aM,aE]
 refine zW k hw hh ms _ _ fun μ' hp=>⟨trivial,?_⟩
 rw [hb]
 refine tT (w_rIf.mpr ?_)
 simp only [qK,Tx,TC,cI,aU,aE,aF,aV,PN,if_true]
 refine tT (w_rRaiseI.mpr ?_)
 simp only [aE,aF]
 exact ⟨trivial,hp⟩
theorem S6 (k:Nat){w h:Int}(hw:1<=w/\w<=3)(hh:1<=h/\h<=3)(ms:List ((Int×Int)×Str)){c:Int×Int}(hb:(d7 w h).find? (iN ms)=some c)(μ:Hm):W (g (k+7) "laid" [SH w h ms] μ) fun q=>q.1=bX c/\μ <+: q.2:=by
 rw [Qy,Ee]
 refine tT (w_rCall.mpr ?_)
 simp only [aN,aM,aE]
 exact S5 k hw hh ms hb μ
theorem S7 {μ:Hm}{Q:D×Hm->Prop}{a:Nat}{bs:List Bool}(h:μ[a]? = some (.lst (bs.map D.bl))):W (rX [.loc a] μ) Q↔Q (.bl (bs.any id),μ):=by
 have e:∀ bs:List Bool,i8 (bs.map D.bl)=some bs:=fun bs=>by
  induction bs with
  | nil=>rfl
  | cons b bs ih=>
   show (i8 (bs.map D.bl)).map (b::·)=_
   rw [ih];rfl
 simp only [rX,bA,h,T3,e,Ui]
 exact W_some
theorem zZ {cn x:Str}{ns:List Str}{ds:List D}{b:Bool}{i a:Nat}{ρ:aG}{μ:Hm}{Q:D×Hm->Prop}(hv:ρ[i]? = some (some (.loc a)))(ha:μ[a]? = some (.exc x ns ds))(hs:sup cn x=some b):W (cQ (sup cn) (aA i) ρ μ) Q↔Q (.bl b,μ):=by
 have e:aA i ρ μ=some (.loc a,μ):=by simp [aA,hv]
 rw [P5,e]
 constructor
 ·rintro ⟨p,h,a',x',ns',ds',b',h1,h2,h3,h4⟩
  cases h
  cases h1
  dsimp only at h2
  rw [ha] at h2
  cases h2
  rw [hs] at h3
  cases h3
  exact h4
 ·intro h
  exact ⟨_,rfl,a,x,ns,ds,b,rfl,ha,hs,h⟩
theorem S8 (k:Nat){a:Nat}{ns:List Str}{ds:List D}{μ:Hm}(ha:μ[a]? = some (C.exc "Barred" ns ds)) (Q:D×Hm->Prop)(H:∀ μ',μ <+: μ'->Q (.bl false,μ')):W (f (k+1) "_law_others" [.loc a] μ) Q:=by
 rw [QY,W_fin]
 have one:∀ (cn:Str)(ρ:aG)(μ':Hm)(Q':D×Hm->Prop),μ'[a]? = some (C.exc "Barred" ns ds)->sup cn "Barred" = some false->(W (cQ (sup cn) (aA 0) (some (.loc a)::ρ) μ') Q'↔Q' (.bl false,μ')):=fun cn ρ μ' Q' h0 hs=>zZ rfl h0 hs
 simp only [bK,cB,eM,aN,aM]
 simp only [one _ _ _ _ ha (show sup "NoEdge" "Barred" = some false from rfl),one _ _ _ _ ha (show sup "NoFold" "Barred" = some false from rfl),one _ _ _ _ ha (show sup "NoMark" "Barred" = some false from rfl),one _ _ _ _ ha (show sup "NoName" "Barred" = some false from rfl)]
 refine ⟨qO,?_⟩
 have l4:∀ (ρ:aG)(μ':Hm)(c1 c2 c3 c4:Str)(Q':D×Hm->Prop),μ'[a]? = some (C.exc "Barred" ns ds)->sup c1 "Barred" = some false->sup c2 "Barred" = some false->sup c3 "Barred" = some false->sup c4 "Barred" = some false->Q' (.loc μ'.length,μ'++[C.lst [.bl false,.bl false,.bl false,.bl false]])->
   W (bV (aC (cQ (sup c1) (aA 0)) (aC (cQ (sup c2) (aA 0)) (aC (cQ (sup c3) (aA 0)) (aC (cQ (sup c4) (aA 0)) aD)))) (some (.loc a)::ρ) μ') Q':=fun ρ μ' c1 c2 c3 c4 Q' h0 h1 h2 h3 h4 k=>by
  simp only [eM,aN,aM,one _ _ _ _ h0 h1,one _ _ _ _ h0 h2,one _ _ _ _ h0 h3,one _ _ _ _ h0 h4]
  exact ⟨qO,k⟩
 have p1:=aZ μ (C.lst [D.bl false,.bl false,.bl false,.bl false])
 have g1:=bI μ (C.lst [D.bl false,.bl false,.bl false,.bl false])
 generalize μ++[C.lst [D.bl false,.bl false,.bl false,.bl false]]=μ1 at p1 g1
 simp only [Tx,TC,aU,aE,aF]
 refine l4 _ _ _ _ _ _ _ (aY p1 ha) rfl rfl rfl rfl ?_
 have p2:=aZ μ1 (C.lst [D.bl false,.bl false,.bl false,.bl false])
 have g2:=bI μ1 (C.lst [D.bl false,.bl false,.bl false,.bl false])
 refine (tQ (aY p2 g1) g2 (by rw [Ud];decide)).mpr ?_
 generalize μ1++[C.lst [D.bl false,.bl false,.bl false,.bl false]]=μ2 at p2 g2
 have p3:=aZ μ2 (C.lst ([D.bl false,.bl false,.bl false,.bl false]++[D.bl false,.bl false,.bl false,.bl false]))
 have g3:=bI μ2 (C.lst ([D.bl false,.bl false,.bl false,.bl false]++[D.bl false,.bl false,.bl false,.bl false]))
 generalize μ2++[C.lst ([D.bl false,.bl false,.bl false,.bl false]++[D.bl false,.bl false,.bl false,.bl false])]=μ3 at p3 g3
 simp only [Tx,TC,aU,aE,aF]
 have p03:=p1.trans (p2.trans p3)
 refine l4 _ _ _ _ _ _ _ (aY p03 ha) rfl rfl rfl rfl ?_
 have p4:=aZ μ3 (C.lst [D.bl false,.bl false,.bl false,.bl false])
 have g4:=bI μ3 (C.lst [D.bl false,.bl false,.bl false,.bl false])
 refine (tQ (aY p4 g3) g4 (by rw [Ud];decide)).mpr ?_
 generalize μ3++[C.lst [D.bl false,.bl false,.bl false,.bl false]]=μ4 at p4 g4
 simp only [Tx,TC,w_mRet,a8,aN,aM,aE,aF]
 refine (S7 (bs:=Uh 12 false) (bI _ _)).mpr ?_
 exact H _ (p03.trans (p4.trans (aZ _ _)))
theorem S9 {at' x:Str}{ns:List Str}{ds:List D}{d:D}{i a:Nat}{ρ:aG}{μ:Hm}{Q:D×Hm->Prop}(hv:ρ[i]? = some (some (.loc a)))(ha:μ[a]? = some (.exc x ns ds))(hs:att at' x=true)(hl:(ns.zip ds).lookup at'=some d)(H:Q (d,μ)):W (i9 at' (att at') (aA i) ρ μ) Q:=by
 have e:aA i ρ μ=some (.loc a,μ):=by simp [aA,hv]
 rw [P4,e]
 exact ⟨_,rfl,a,x,ns,ds,d,rfl,ha,hs,hl,H⟩
theorem z7 (k:Nat){w h:Int}(hw:1<=w/\w<=3)(hh:1<=h/\h<=3)(ms:List ((Int×Int)×Str)){c:Int×Int}(hb:(d7 w h).find? (iN ms)=some c)(μ:Hm)(Q:D×Hm->Prop)(H:∀ μ',μ <+: μ'->Q (PP c,μ')):W (f (k+8) "_law_refused" [SH w h ms] μ) Q:=by
 rw [QZ,W_fin]
 simp only [bK,cB,aV,Tx,TC]
 obtain ⟨⟨x,μ1⟩,h1,rfl,p1⟩:=S6 k hw hh ms hb μ
 have hr:W ((dU (c9 (aK (f (k+7) "laid") (aC (aA 0) aD))) (lM (g (k+7) "laid") (aC (aA 0) aD)) bY) [some (SH w h ms),some .non,none] μ) fun q=>q=(bX c,[some (SH w h ms),some .non,none],μ1):=by
  refine tT (w_rCall.mpr ?_)
  simp only [aN,aM,aE]
  exact ⟨_,h1,rfl⟩
 obtain ⟨p,hp,rfl⟩:=hr
 refine (P2 hp rfl).mpr ?_
 have p2:=aZ μ1 (C.exc (bX c).1 ((bX c).2.map (·.1)) ((bX c).2.map (·.2)))
 have g2:(μ1++[C.exc (bX c).1 ((bX c).2.map (·.1)) ((bX c).2.map (·.2))])[μ1.length]? = some (C.exc "Barred" ["corner"] [PP c]):=bI μ1 _
 generalize μ1++[C.exc (bX c).1 ((bX c).2.map (·.1)) ((bX c).2.map (·.2))]=μ2 at p2 g2
 simp only [cB,aE,aF,Tx,TC,dM,qE,tN,jF,cI,aU,aV,PL,a8,aN,aM,TQ,if_false]
 refine S8 (k+6) g2 _ fun μ3 p3=>?_
 have g3:=aY p3 g2
 simp only [kH,TQ,if_false,tN,jF,zZ (show ([some (SH w h ms),some (D.loc μ1.length),none]:aG)[1]? = some (some (.loc μ1.length)) from rfl) g3 (show sup "ValueError" "Barred" = some true from rfl)]
 simp only [XU,TQ,if_false,dB,kH,zZ (show ([some (SH w h ms),some (D.loc μ1.length),none]:aG)[1]? = some (some (.loc μ1.length)) from rfl) g3 (show sup "Barred" "Barred" = some true from rfl)]
 rw [w_mRet]
 exact S9 rfl g3 rfl rfl (H _ (p1.trans (p2.trans p3)))
theorem Ta:∀ w∈[(1:Int),2,3],∀ h∈[(1:Int),2,3],(d7 w h).find? (iN [])=none:=by decide +kernel
theorem Fx {kvs:Kv}(h:∀ p∈kvs,p.2=cX)(q:Int×Int):bZ kvs q=cX:=by
 unfold bZ
 cases hf:kvs.find? fun p=>p.1 == q with
 | none=>rfl
 | some p=>exact h p (Wz hf)
theorem Fy:∀ (t:Tr)(kvs:Kv),(∀ p∈kvs,p.2=cX)->∀ p∈cC (bN []) kvs t,p.2=cX
 | [],kvs,h=>h
 | (c,e,p)::t,kvs,h=>Fy t _ fun x hx=>by
  rcases U7.mp hx with hx|hx
  ·exact h x hx
  ·rw [UW.mp hx]
   exact Fx h p
theorem Tc (w h:Int)(q:Int×Int):bZ (Fp (bN []) w h) q=cX:=Fx (Fy _ _ fun p hp=>by rw [UW.mp hp]) q
theorem w_nePP {p:Int×Int}{μ:Hm}{Q:D×Hm->Prop}:W (aR true (PP p) (PP p) μ) Q↔Q (.bl false,μ):=by
 rw [show (PP p:D)=.tup [.int p.1,.int p.2] from rfl,w_neP]
 simp
theorem w_eqPP {p:Int×Int}{μ:Hm}{Q:D×Hm->Prop}:W (aR false (PP p) (PP p) μ) Q↔Q (.bl true,μ):=by
 rw [show (PP p:D)=.tup [.int p.1,.int p.2] from rfl,Pm]
 simp
theorem w_neLD {μ:Hm}{Q:D×Hm->Prop}:W (aR true (LD cX) (D.tup [D.int 1,D.int 0,D.int 0,D.int 1,D.int 0,D.int 0]) μ) Q↔Q (.bl false,μ):=W_some
theorem Td (k:Nat)(ns:List Int)(μ:Hm):W (f (k+9) "law" [.rol (ns.map D.int)] μ) fun r=>r.1=.bl true:=by
 rw [Q0,W_fin]
 simp only [bK,cB,a8,aN,aM,aV,eM,aE]
 refine ⟨qO,?_⟩
 refine Su (k+4) ns _ [1,1,3,4] (by simp) _ (bI _ _) _ fun w h ms μ1 hw hh p1 hl=>?_
 simp only [Tx,TC,aE,aF]
 refine zW (k+3) hw hh ms _ _ fun μ2 p2=>?_
 cases hb:(d7 w h).find? (iN ms) with
 | none=>simp only [qK,Tx,TC,dM,cI,aU,aE,aF,aV,PJ,if_true,w_mRet]
 | some c=>
  simp only [qK,Tx,TC,dM,cI,aU,aE,aF,aV,PM,TQ,if_false,dB,qE,a8,aN,aM]
  refine z7 k hw hh ms hb _ _ fun μ3 p3=>?_
  simp only [aE,aF]
  refine w_nePP.mpr ?_
  simp only [TQ,if_false]
  refine z7 k hw hh ms hb _ _ fun μ4 p4=>?_
  simp only [aE,aF]
  refine w_nePP.mpr ?_
  simp only [TQ,if_false,dB,eL,aN,aM,aU,aE,aF,aV,qI,qJ]
  refine ⟨by decide,(show (3:Nat)<=TL from by decide),?_⟩
  refine S4 (k+1) hw hh [] (Ta w (gG hw) h (gG hh)) _ _ fun a kvs μ5 p5 g5 hv=>?_
  simp only [Tx,TC,fC,w_iSeq,a8,aN,aM,aU,aE,aF,aV,qI,qJ]
  refine EO (k+7) w h hw hh _ _ ?_
  have p6:=aZ μ5 (C.lst ((cS w h).map PP))
  have g6:=bI μ5 (C.lst ((cS w h).map PP))
  generalize hμ6:μ5++[C.lst ((cS w h).map PP)]=μ6 at p6 g6
  refine (eE g6).mpr ?_
  refine kI (fun i ρ μ'=>μ6 <+: μ'/\∃ o4,ρ=[some (.rol (ns.map D.int)),some (SH w h ms),some (PP c),some (.loc a),o4]) ⟨T9 _,none,rfl⟩ (fun i ρ μ' hI=>aY hI.1 g6) ?_ ?_
  ·rintro i d ρ μ7 hd ⟨p7,o4,rfl⟩
   obtain ⟨q,hq,rfl⟩:=UZ.mp (UG hd)
   refine ⟨_,rfl,?_⟩
   simp only [Tx,TC,dM,cI,aU,aE,aF,eL,aN,aM,aV]
   refine (lZ (aY (p6.trans p7) g5) (fD q) (hv q hq)).mpr ?_
   rw [Tc]
   refine ⟨ER,?_⟩
   refine w_neLD.mpr ?_
   simp only [TQ,if_false,dB]
   exact ⟨p7,_,rfl⟩
  ·rintro ρ μ7 ⟨p7,o4,rfl⟩
   simp only [w_mRet,aU,a8,aN,aM,aE,aF]
   refine z7 k hw hh ms hb _ _ fun μ8 p8=>?_
   simp only [aE,aF]
   exact w_eqPP.mpr rfl
theorem Te:∀ ns:List Int,ns.length<=63->∃ μ',gA S ds 9 "law" [.rol (ns.map D.int)] []=some (.bl true,μ'):=fun ns _=>by
 obtain ⟨⟨d,μ'⟩,h1,h2⟩:=Td 0 ns []
 dsimp only at h2
 subst h2
 refine ⟨μ',?_⟩
 unfold f at h1
 exact h1
end Lw
namespace Lw
open PySem L2 L3
theorem Tf (Q:Vo):qD (Kx Q) "NoEdge" "edge":=yS (K:=Kx Q) (x:="NoEdge") (a:="edge") (bn:="CreaseError") (qual:="NoEdge.__init__") (sf:="self") (ar:="edge") (st:=bR 12 0) (s1:=(bT (bR 12 0)).getD 0 (.Pass ⟨0,0,0,0⟩)) (s2:=(bT (bR 12 0)).getD 1 (.Pass ⟨0,0,0,0⟩)) (by kernel_rfl) (by kernel_rfl) (by kernel_rfl) (by kernel_rfl) (by kernel_rfl) (by kernel_rfl) (by kernel_rfl) (by kernel_rfl) (by kernel_rfl) (fun kV doc pm an cdv ct u v=>by kernel_rfl)
theorem Tg (Q:Vo):qD (Kx Q) "Twice" "edge":=yS (K:=Kx Q) (x:="Twice") (a:="edge") (bn:="CreaseError") (qual:="Twice.__init__") (sf:="self") (ar:="edge") (st:=bR 13 0) (s1:=(bT (bR 13 0)).getD 0 (.Pass ⟨0,0,0,0⟩)) (s2:=(bT (bR 13 0)).getD 1 (.Pass ⟨0,0,0,0⟩)) (by kernel_rfl) (by kernel_rfl) (by kernel_rfl) (by kernel_rfl) (by kernel_rfl) (by kernel_rfl) (by kernel_rfl) (by kernel_rfl) (by kernel_rfl) (fun kV doc pm an cdv ct u v=>by kernel_rfl)
theorem Th (Q:Vo):qD (Kx Q) "Barred" "corner":=yS (K:=Kx Q) (x:="Barred") (a:="corner") (bn:="CreaseError") (qual:="Barred.__init__") (sf:="self") (ar:="corner") (st:=bR 14 0) (s1:=(bT (bR 14 0)).getD 0 (.Pass ⟨0,0,0,0⟩)) (s2:=(bT (bR 14 0)).getD 1 (.Pass ⟨0,0,0,0⟩)) (by kernel_rfl) (by kernel_rfl) (by kernel_rfl) (by kernel_rfl) (by kernel_rfl) (by kernel_rfl) (by kernel_rfl) (by kernel_rfl) (by kernel_rfl) (fun kV doc pm an cdv ct u v=>by kernel_rfl)
theorem xz (Q:Vo):XcOk S (Kx Q):=Pg (by kernel_rfl) (by kernel_rfl) (by kernel_rfl) (by kernel_rfl) (by kernel_rfl) (Yr.mpr ⟨Tf Q,Yr.mpr ⟨Tg Q,Yr.mpr ⟨Th Q,fun _ z=>nomatch z⟩⟩⟩)
theorem dz (Q:Vo):tK (Kx Q) ds:=by unfold tK;kernel_rfl
theorem cz (Q:Vo):DZ (Kx Q) S.con=true:=by kernel_rfl
theorem nz (Q:Vo):S.no.map (UR (Kx Q) Ux)=S.no.map fun _=>some none:=by kernel_rfl
theorem Ti {P:Ub}{w:Up}{Q:Vo}
  {h:UE}{mg:Str → Option Value}(X:(Kx Q).In h)(G:h.Ns Ux mg):TxtOk P w (Kx Q) mg S ds ∧ ∃ f fd,Fun (Kx Q) "law" "law" (aL 66) f fd ∧ mg "law" = some (.ref f) ∧ ∀ (s:Tv)(u:Value),Zz s fd ⟨[u],[]⟩ [("_law_script",u)]:=by
 refine ⟨⟨O5 (by decide +kernel),O6 fun p hp=>(DW X G (dz Q) p hp).1,O7 (Pc X G (cz Q)),fun x kvs e=>?_,O8 (Pb X G (nz Q)),xz Q⟩,Pa X G (dz Q) (by kernel_rfl) (by kernel_rfl)⟩
 ·cases e
end Lw
open PySem PySem.W PyProof.Rows
set_option maxRecDepth 100000 in
set_option maxHeartbeats 0 in
theorem PySem.Challenge.cw_creasecourt_k46_barred_refused_holds : PySem.Challenge.rw_creasecourt_k46_barred_refused.Holds := by
 w_on
 refine holds_law (by decide +kernel) fun said=>?_
 refine holds_open (q:=Lw.Vw) (loose:=[]) (Xt:=fun s=>xlAt Lw.Vw [] s&&recOk (a2s (a1r (U9 Tz))) s) (XP:=XL Lw.Vw []) (Yf:=Hook.obs (a3A Lw.Kx Lw.As Lw.oS)) (Ya:=Hook.val (a3A Lw.Kx Lw.As Lw.oS)) (YP:=Hook.says (a3A Lw.Kx Lw.As Lw.oS)) (N:=9186) Lw.run (Hook.of _) (Hook.keeps _) (fun s e=>xl_of s (Wr.mp e).1) XL.keeps (by rfl) (by rfl) (by rfl) (fun s e=>recFacts_of (Wr.mp e).2) (by rfl) (by first|assumption|decide +kernel) (by decide +kernel) ⟨rfl,rfl,rfl,rfl,rfl,by decide +kernel⟩ ?hw ?hc
 case hw=>w_witness2
 k_fill
 refine L3.walkM (l:=Tz) (S:=Lw.S) (ds:=Lw.ds) (k:=9) (st:=Lw.aL 66) (x:="_law_script") rfl rfl ⟨rfl,by decide,by decide⟩ (fun w h Y=>PySem.W.kIn_of Y) (by kernel_rfl) (by kernel_rfl) ?F (fun ns h _=>Lw.Te ns h)
 case F=>
  intro w mg h KX G
  refine' Lw.Ti (P:=UT) (w:=w)  KX G
