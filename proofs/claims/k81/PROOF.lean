import PyProof.Rows.All
import Wide.All
import OpenK.AllK
import Wide.FinOn
import PyProof.EqAt
import PyProof.EqKinds
import PyProof.TupleCall
import KE.KDictSum
import PyProof.SliceStr2
import PyProof.NeKinds
import PyProof.StrWalks
import PyProof.ConsumeWalk
import KE.KSortTup
import PyProof.StationsW
import OpenK.KOwn
import PyProof.RulesAs
import PyProof.NsDelKeeps
import PyProof.InstStoreFacts
import OpenK.KCls
import PyProof.ExcArgs
import PyProof.ExcAttrAll.ValueError
import KE.KIsAll
import PyProof.Rows.SetFrom
import PyProof.Rows.SortStr
import PyProof.SumAny
import PyProof.EnumMake
import KE.KRevIter
import PyProof.MeetsStr
import PyProof.ListRange
import PyProof.Rows.Range3
import KE.KDictList
import PyProof.PureStr
import PyProof.WalkInts
import PyProof.ConsumeS
import PyProof.ZipIter
import PyProof.AttrMissHeap
import KE.KDictOf
import PyProof.DictItems
import KE.KItemsList
import KE.KEqDict
import PyProof.DictValues
import PyProof.DictWalks
import PyProof.Rows.StrNews
import KE.KPairComp
import KE.KPar
import PySem.Challenge.RW_creasecourt_k81_folds_place_by_place
open Array renaming mk->Vd,getElem?_eq_some_iff->Vu,getElem?_toList->V7,length_toList->WL,getD->WV,getElem?_eq_getElem->XY,replicate->Zi,mem_toList_iff->a0s,append_assoc->a0L,toList_inj->a1s,toList->a2q
open Bool renaming and_eq_true->Tw,false_eq_true->TY,false_ne_true->Ux,not_true->Vv,not_false->Wj,and_eq_true_iff->WE,or_eq_true->WU,not_eq_true'->W8,eq_iff_iff->Xv,false_and->a2c,and_false->a2d,or_false->a2n,false_or->a2o,and_true->a2p,or_true->a2G
open Classical renaming byContradiction->XE,choose->YH,choose_spec->ZA
open False renaming elim->UA
open ForInStep renaming yield->WK
open Function renaming comp_apply->Yo
open Int renaming emod_lt_of_pos->W0,emod_nonneg->XD,toNat_natCast->a1J,mul_le_mul->a2m
open List renaming getElem?_eq_some_iff->TB,length_map->TF,set_cons_zero->TJ,set_cons_succ->TK,map_cons->TM,getElem?_set_ne->TQ,length_append->TV,mem_map->TX,getElem?_append_left->Uc,getElem?_set_self->Ug,map_map->Uh,length_cons->Uk,getElem?_map->Um,map_append->Uo,size_toArray->Up,mem_cons->Uq,length_set->Ut,getElem?_eq_getElem->Uw,all_cons->Uy,mem_cons_of_mem->UB,zipWith_cons_cons->UC,mem_singleton->UE,length->UJ,getElem?_append_right->UK,mem_of_getElem?->UM,getElem?_eq_none_iff->UO,mem_cons_self->UP,map_congr_left->US,range->UX,length_take->UZ,find?_cons->U0,length_singleton->U3,filter_cons_of_neg->U4,append_nil->U9,mem_append_right->Vg,length_filter_le->Vh,contains_iff_mem->Vi,mem_filter->Vk,filter_cons_of_pos->Vl,all_eq_true->Vm,mem_append->Vp,cons_append->Vq,length_reverse->Vz,nodup_cons->VD,prefix_append->VE,replicate->VL,append_assoc->VM,filterMap_cons->VN,prefix_refl->VR,filter_append->VS,lookup->VU,getElem_of_mem->V1,take_length->V4,length_replicate->V8,any_cons->Wf,getElem?_replicate->Wi,filter_eq_nil_iff->Wo,getElem?_eq_none->Wu,reverse_cons->Wx,pairwise_map->Wy,forall_mem_cons->WD,nil_append->WS,filter_nil->WT,nodup_append->W7,take_append_drop->Xh,set_append_right->Xi,lookup_cons->Xk,filter_sublist->XC,zipWith->XG,map_nil->XH,mem_range->XR,pairwise_iff_getElem->XZ,range'->X2,range'_succ->X8,length_eq_zero_iff->X9,length_drop->Yb,filter_cons->Yc,of_mem_zip->Yl,set_append_left->Yu,mem_of_mem_take->Yv,map_eq_nil_iff->YC,mem_filterMap->YK,contains_cons->YL,set_set->YR,map_inj_left->YS,any_map->YT,any_eq_false->YU,range_succ->Zk,filter_map->Zl,exists_mem_of_ne_nil->ZP,drop_eq_getElem_cons->ZQ,getElem?_take_of_lt->ZW,getElem?_cons_succ->Z1,all_eq_not_any_not->Z2,take_of_length_le->Z8,range_succ_eq_map->Z9,append_eq_nil_iff->a0a,singleton_append->a0q,mem_iff_getElem?->a0r,pairwise_append->a0z,mem_of_mem_drop->a0A,mem_append_left->a0B,length_pos_iff->a0H,flatMap_append->a0I,find?_eq_none->a0T,take_sublist->a1n,getElem?_set->a1o,foldl_append->a1p,ext_getElem?->a1q,not_mem_nil->a1D,nodup_range->a1E,map_reverse->a1F,getElem_mem->a1G,getElem_inj->a1H,getD->a1I,range_zero->a1S,foldl_cons->a1T,map->a1Z,map_take->a2l,map_id->a2P
open List.Pairwise renaming map->Ym,nil->a2Q,filterMap->a2R
open List.cons renaming injEq->WI
open Nat renaming le_refl->TR,ne_of_lt->Ui,lt_of_lt_of_le->Uj,le_trans->UT,zero_le->Vj,lt_succ_self->VG,lt_irrefl->V3,lt_or_ge->Wr,sub_self->Xe,ne_of_gt->Xf,not_lt->Xq,not_lt_zero->XB,lt_trans->Yk,lt_trichotomy->Y4,le_of_lt->Y5,le_of_eq->Y6,le_succ->Zj,lt_succ_iff->Zt,mul_le_mul->ZO,exists_eq_add_of_le->Z7,succ_pos->a0o,succ_mul->a0p,le_of_lt_succ->a1C,add_zero->a2O,log2_lt->a3j,mod_lt->a3E
open Ne renaming symm->UG
open Option renaming bind_eq_some_iff->Tu,map_eq_some_iff->Tz,bind_some->T9,map_some->Us,isSome_iff_exists->UR,isSome_map->XT,getD_none->YQ,isSome_some->a0y,none->a2k
open Option.some renaming inj->T5
open Or renaming inr->a0x,inl->a1A
open PUnit renaming unit->a2M
open Prod renaming ext->X7
open Prod.mk renaming inj->Yj
open PyProof.Rows renaming callWith_type1->VB,callWith_builtin1->WW,envOfC->Xb,AllBare->Ye,subscriptTail->Y8,Subscript_->a0k,subscriptTail_builtinR->a1a,IntsAre->a1r,boot_range->a2j,wpAny_notIn_heap->a3a,pow_int_small->a3b,pow_int->a3c,mul_int->a3d,floordiv_int->a3e,call_len_slot->a3f,assign_Tuple_tuple->a3g,assign_Tuple->a3h,args_cons->a3i,tail_any->a3w
open PyProof.Rows.Boot renaming isinstance->WG,list->Xc,dict->Xd,tuple->Yn,str->a1e,reversed->a1f,min->a1g,max->a1h,len->a1i,int->a1j,bool->a1k,ValueError->a1l
open PySem renaming wpAny_bind->Tx,Shared->TC,wpAny_pure->TN,sizeLine->TZ,wpAny->Ua,Program->Ud,starEach->Ue,model->Ul,Around->Ur,World->Uv,wpAny_mono->UH,mainGlobals->UI,Heap->UU,sizeLine_eq->UW,compareOp->UY,wpAny_dictEntries->U2,DictEntry->U7,FuncData->Vc,sysModules->Ve,mem_of_lookup->Vf,Pos->Vt,wpAny_Call_Name_kw->Vy,bootBuiltins->VA,Params->VC,backTo->VF,wpAny_truthy_bool->VO,wpAny_newObj_type->VP,wpAny_holding->VW,sliceBounds->VX,Scope->VY,assignEach->V2,cLine->V6,tupleKind->Wa,wpAny_notOrdered_dict->Wc,treeTable->Wg,NameKind->Wh,attributeBase->Wl,rawInt->Wq,keywordEach->Wt,intKind->Ww,wpAny_passesOwn->Wz,wpAny_dictEpoch->WA,behindInMarks->WC,foldedSetIterable->WH,Keyword->WJ,binaryOp->WM,wpAny_isInstance->WQ,wpAny_call_entry->WR,CmpOp->W2,wpAny_specialOf->W4,wpAny_ite_split->W5,wpAny_setField_rec->W9,wpAny_setField->Xl,compEnvC->Xm,wpAny_typeNameOfWhole_itemiter->Xw,swapsWith->Xx,codeAny->XF,wpAny_field->XI,backToKw->XJ,atKey->XM,IsRangeIter->XN,wpAny_execs_nil->XS,Env->XU,codeAny_mono->X0,Paired->X6,wpAny_loadPart_at->Yd,SetTable->Yp,wpAny_isOneOf_itemiter->Yy,OsState->Yz,letOwnedTupleGo->YB,recursionLimit->YM,firstArgMember->YN,excClassObj->YO,BindsTo->YW,wpAny_isSubtype_exc->YX,wpAny_call->Zc,assign->Zd,IsItemIter->Zg,standAt->Zo,slot_list_getitem->Zp,callerA->Zq,call_meetsIn->Zs,wpAny_execs_cons->ZC,setFlight->ZD,pyNext->ZE,pyIter->ZF,noteFrame->ZG,isTrue->ZH,getMethod->ZJ,cellsFrom->ZK,PassesOwn->ZM,subscripted->ZS,Model->ZV,Within->ZY,wpAny_richCompare_same_room->Z4,valueAt->Z5,getItem->Z6,wpAny_newFunctionEnv_cells->a0d,typeLookup->a0e,sliceRange->a0f,setField->a0g,bindL->a0h,bindC->a0i,bindArgs->a0j,Result->a0l,Operator->a0n,evalArgs_none->a0t,wpAny_standAt->a0C,wpAny_getItem_list_slice->a0D,swappedStores->a0E,ExceptHandler->a0J,wpAny_callSpecial?_slot->a0M,wpAny_Call_method0_late->a0N,slicePick->a0O,wpAny_pyNext_range_end->a0V,wpAny_pyNext_list_item->a0W,wpAny_pyIter_rangeiter->a0X,wpAny_Call_method_late->a0Y,typeOf->a0Z,wpAny_pyNext_list_end->a1t,wpAny_isOneOf_keyiter->a1u,codeAny_call_function->a1v,builtinLookup_eq_fast->a1w,Sem->a1x,wpAny_pyIter_keyiter->a1M,wpAny_letGo->a1N,unbindBehindTheSuite->a1O,lookup_relabel_local->a1Q,importBound->a1R,IntMulOk->a1U,GenState->a1V,wpAny_pyIter_range->a2e,wpAny_Name->a2f,wpAny_List_spliced->a2g,closureFor->a2h,builtinsNs->a2i,wpAny_pyIter_slot->a2r,wpAny_pyIter_list->a2s,wpAny_pyIter_enum->a2t,wpAny_assign_Name->a2u,wpAny_Return_some->a2v,wpAny_Assign_Name->a2w,storedH->a2x,spliced->a2y,relabel->a2z,leaving->a2A,wpAny_forIn_list->a2H,lastMarks->a2I,checkBuiltinCall->a2J,call->a2K,Arguments->a2V,typeLookup_type->a2W,size_of_entries->a2X,importedModules->a2Y,wpAny_loadPart->a3t,wpAny_fieldsOf->a3u,wpAny_Expr_any->a3v,putAt->a3x,newExc->a3y,methodCallForm->a3z,isSubtype_stop->a3B,callWith->a3C,callType_codes->a3D
open PySem.Around renaming under->ZX,frames_deeper->a0c
open PySem.Builtin.Dict renaming showsAll->V0,dictSlotArgs->Ws,entriesForEmpty->YD,updateFrom->Y7,samePairs->Zb,quietEq->Zn,noArgs->Zv,selfAndRest->a3n,readDirectly->a3o,pendingCount->a3p,mergeDict->a3q,merge->a3r,dictSlotNone->a3s
open PySem.Builtin.Dict_items renaming ownsTuple->WO,ownedTupleIsFree->XW,ownedTupleFields->XX,pairFromOwner->X3,newIterator->a1K,dictOf->a1L
open PySem.Builtin.Int renaming intBits->Uz,intTooBig->WX
open PySem.Builtin.List renaming listExtendWith->Wm,listTooLong->Xu,listLengthHint->YI,listSameRef->YV,listItems->Za,listUpdate->a3m
open PySem.Builtin.Range renaming rangeSize->UL,small->a2U
open PySem.Builtin.Str renaming occurrences->Vr
open PySem.Builtin.Tuple renaming tupleHashOf->a2T
open PySem.Calls renaming callWith_builtin->W3,evalArgs_plain->Ys,Name_function_global->Zu,spliced_cons->a0K,spliced_nil->a0U
open PySem.Challenge renaming rw_creasecourt_k81_folds_place_by_place->TH,pw_creasecourt_k81_folds_place_by_place->UQ
open PySem.Code renaming isFrame->a0b,frames->a2S
open PySem.Data renaming fields->T7,dict->V5,cls->Yx,cell->Z3
open PySem.EntryCells renaming newEntry->ZR
open PySem.F renaming plainAttrs_dict->X1,excBase_ValueError->Zf,slot_dict_items->Zx,slot_dict_clear->Zy,sub_dict_dict->ZT,slot_dict_get->ZU,slot_dict_ne->ZZ,slot_dict_eq->Z0
open PySem.Heap renaming get?_push_of_some->TL,lt_size->T3,get?_push_size->Ub,get?_update_other->Vx,get?_update_self->VQ,SameBut->VT,get?_none_of_le->Yw,ExtBut->Zh,size_push->a2b
open PySem.Heap.DictOfH renaming new->a3l
open PySem.Heap.IsSliceOf renaming new->Zm
open PySem.Heap.SameBut renaming update->Wv,refl->a3k
open PySem.IsRange renaming new->a2a
open PySem.NameKind renaming free->VZ,cell->Wb
open PySem.Obj renaming data_mapFields->WZ,isFreed_of_fields->Xj,data_mapDictKeys->YA,mapFields->YJ,mapSeq->ZN,isFreed_of_dict->a0S,cls_mapFields->a1B,mapDictKeys->a1Y
open PySem.Obj.ExactDict renaming mapDictKeys->a2N
open PySem.Paired renaming snoc->Y3,length->Zz
open PySem.PassesOwn renaming never->a0w
open PySem.SeqAt renaming ne_of_list_tuple->VI,EqAt->a0F
open PySem.SetTable renaming below->U6,has->Zw,slot->a1c
open PySem.SetTable.below renaming go->Xp
open PySem.SetTable.layClean renaming free->Xs
open PySem.SetTable.probe renaming go->Xo
open PySem.Str renaming ofString->Va
open PySem.Value renaming type->TU,ref->T6,builtin->UD,none->U1,bool->U5,int->Vb,str->YY,float->a2D,bytes->a2E
open PySem.W renaming Frag->Tv,fnOf->T8,behindTheImports->Uu,findIn->UN,keepIn->U8,nsIn->Vo,boot_drawn->Vs,emptyDict->VH,kia_one->VJ,instObj->V9,mg_of->Wn,callWith_K->WN,codeIn->WY,methodCall_KW->W6,plainGet->Xa,boot_heap->Xg,kitOne->Xy,InstAt->XA,specialIn->XO,hasDictIn->XQ,topFrame->X4,cellsFrom_some->X5,notCls->Yg,looks_findIn->Yh,lookIn->Yi,plainGet_of->Yq,callWith_K0->Yr,excIn->Yt,plainOver->YE,methodObj->YF,isFn->YG,takerIn->Y1,makesIn->Y2,hashAt->ZI,boot_toks->ZL,codeRec_of->a0m,kitx_list->a0u,kitx_dict->a0v,handedIn->a0G,takesIn->a0P,findObj->a0Q,OpenLaw->a0R,segRun->a1b,kitAny->a1d,mroIn->a1y,WalkO->a1z,piecesOf->a1P,kHook->a3A
open PySem.W.Looks renaming here->WB
open PySem.W.OpenLaw renaming row->Vn
open PySem.W.OpenRow renaming toRowW->a1m
open PySem.W.RowW renaming records->a2F
open PySem.W.WData renaming int->Xr,weightAll->Xz,layable->Y9,weight->Ze,layableAll->a2L
open PySem.W.WShape renaming has->a2C
open PySem.Walks renaming range->a2B
open PySem.Within renaming cons->a2Z
open Std.Legacy.Range renaming size->a1W,forIn_eq_forIn_range'->a1X
open Sum renaming inr->YZ,inl->Y0
open True renaming intro->We
local macro_rules|`(tactic| omega) => `(tactic| lia)
set_option compiler.extract_closed false
set_option bootstrap.genMatcherCode false
set_option Elab.async false
set_option linter.all false
set_option maxRecDepth 100000
set_option linter.all false
namespace L2
open PySem PySem.Spec PyProof.Rows
noncomputable abbrev aM:=Sum Int Str
noncomputable def uP:aM->Value->Bool
 | .inl k,v=>Value.isInt k v
 | .inr x,v=>Value.isStrOf x v
noncomputable def Ak (w:Uv):aM->Int
 | .inl k=>hashInt k
 | .inr x=>hashStr w x
theorem jN:∀ {k:aM}{v:Value},uP k v=true->(∃ i t,k=Y0 i/\v=Vb i t)\/(∃ x t,k=YZ x/\v=YY x t)
 | .inl i,v,h=>by
  obtain ⟨t,e⟩:=Value.isInt_shape (k:=i) (v:=v) h
  exact .inl ⟨i,t,rfl,e⟩
 | .inr x,v,h=>by
  obtain ⟨t,e⟩:=Value.isStrOf_shape (x:=x) (v:=v) h
  exact .inr ⟨x,t,rfl,e⟩
theorem FW (a b:Int):decide ((Y0 a:aM)=Y0 b)=(a == b):=by
 by_cases e:a=b
 ·subst e;simp
 ·have h:¬ (Y0 a:aM)=Y0 b:=fun q=>e (Sum.inl.inj q)
  rw [decide_eq_false h]
  exact (beq_eq_false_iff_ne.mpr e).symm
theorem FX (a b:Str):decide ((YZ a:aM)=YZ b)=decide (a=b):=by
 by_cases e:a=b
 ·subst e;simp
 ·have h:¬ (YZ a:aM)=YZ b:=fun q=>e (Sum.inr.inj q)
  rw [decide_eq_false h,decide_eq_false e]
theorem FY (a:Int)(b:Str):decide ((Y0 a:aM)=YZ b)=false:=decide_eq_false (fun q=>nomatch q)
theorem FZ (a:Str)(b:Int):decide ((YZ a:aM)=Y0 b)=false:=decide_eq_false (fun q=>nomatch q)
noncomputable def lT (prog:Ud)(w:Uv):PySem.KeyKind prog w aM where
 is:=uP
 hash:=Ak w
 inj:=fun v a b l d=>by
  rcases jN l with ⟨i,t,rfl,rfl⟩|⟨x,t,rfl,rfl⟩
  ·rcases jN d with ⟨j,u,rfl,e⟩|⟨y,u,rfl,e⟩
   ·injection e with e1 _;rw [e1]
   ·exact nomatch e
  ·rcases jN d with ⟨j,u,rfl,e⟩|⟨y,u,rfl,e⟩
   ·exact nomatch e
   ·injection e with e1 _;rw [e1]
 byValue:=fun k v h=>by
  rcases jN h with ⟨i,t,rfl,rfl⟩|⟨x,t,rfl,rfl⟩<;>rfl
 pyHash:=fun c h=>by
  rcases jN c with ⟨i,t,rfl,rfl⟩|⟨x,t,rfl,rfl⟩
  ·exact wpAny_pyHash_int h
  ·exact wpAny_pyHash_str h
 eqBool:=fun m c h=>by
  rcases jN m with ⟨i,t,rfl,rfl⟩|⟨x,t,rfl,rfl⟩
  ·rcases jN c with ⟨j,u,rfl,rfl⟩|⟨y,u,rfl,rfl⟩
   ·rw [FW] at h;exact wpAny_eqBool_int h
   ·rw [FY] at h;exact SeqAt.EqAt.int_str i t y u _ _ _ _ h
  ·rcases jN c with ⟨j,u,rfl,rfl⟩|⟨y,u,rfl,rfl⟩
   ·rw [FZ] at h;exact SeqAt.EqAt.str_int x t j u _ _ _ _ h
   ·rw [FX] at h;exact wpAny_eqBool_str h
 «strs»:=fun k x t v h=>by
  rcases jN h with ⟨i,u,rfl,e⟩|⟨y,u,rfl,e⟩
  ·exact nomatch e
  ·injection e with e1 _
   subst e1
   cases v<;>rfl
end L2
namespace L2
open PySem PySem.Spec PyProof.Rows
inductive V where
 | non|bl (b:Bool)|int (i:Int)|str (x:Str)|byt (b:Array UInt8)|flt (b:UInt64)|ref (a:Addr)|ty (n:String)
 deriving DecidableEq
noncomputable def RelV:V->Value->Prop
 | .non,u=>u=U1
 | .bl b,u=>u=U5 b
 | .int i,u=>∃ t,u=Vb i t
 | .str x,u=>∃ t,u=YY x t
 | .byt b,u=>∃ t,u=a2E b t
 | .flt b,u=>∃ t,u=a2D b t
 | .ref a,u=>u=T6 a
 | .ty n,u=>u=TU n
noncomputable abbrev Vals:List V->List Value->Prop:=X6 RelV
theorem Vals.length {xs:List V}{us:List Value}(r:Vals xs us):xs.length=us.length:=Zz r
theorem Vals.get:∀ {xs:List V}{us:List Value}{i:Nat}{x:V},Vals xs us->xs[i]? = some x->∃ u,us[i]? = some u/\RelV x u
 | _,_,_,_,.nil,e=>by simp at e
 | _,_,0,_,.cons r _,e=>by simp at e;subst e;exact ⟨_,rfl,r⟩
 | _,_,i+1,x,.cons _ t,e=>by
  obtain ⟨u,a,b⟩:=Vals.get (i:=i) (x:=x) t (by simpa using e)
  exact ⟨u,by simpa using a,b⟩
theorem Vals.set {x:V}{u:Value}(r:RelV x u):∀ {xs:List V}{us:List Value}(i:Nat),Vals xs us->Vals (xs.set i x) (us.set i u)
 | _,_,_,.nil=>.nil
 | _,_,0,.cons _ t=>.cons r t
 | _,_,i+1,.cons q t=>.cons q (Vals.set r i t)
theorem Vals.append:∀ {xs a:List V}{us ws:List Value},Vals xs us->Vals a ws->Vals (xs++a) (us++ws)
 | _,_,_,_,.nil,s=>s
 | _,_,_,_,.cons r t,s=>.cons r (Vals.append t s)
theorem Vals.take:∀ {xs:List V}{us:List Value}(n:Nat),Vals xs us->Vals (xs.take n) (us.take n)
 | _,_,0,_=>.nil
 | _,_,_+1,.nil=>.nil
 | _,_,n+1,.cons r t=>.cons r (Vals.take n t)
theorem Vals.drop:∀ {xs:List V}{us:List Value}(n:Nat),Vals xs us->Vals (xs.drop n) (us.drop n)
 | _,_,0,r=>r
 | _,_,_+1,.nil=>.nil
 | _,_,n+1,.cons _ t=>Vals.drop n t
theorem Vals.none_of:∀ {xs:List V}{us:List Value}{i:Nat},Vals xs us->xs[i]? = none->us[i]? = none:=fun {xs us i} r e=>by
 have a:=r.length
 have b:xs.length<=i:=UO.mp e
 exact UO.mpr (by omega)
noncomputable def RelO:Option V->Option Value->Prop
 | some v,some u=>RelV v u
 | none,none=>True
 | _,_=>False
noncomputable def KV {a:Type}:List (a×V)->List (a×Value)->Prop:=X6 fun (p:a×V)(q:a×Value)=>p.1=q.1/\RelV p.2 q.2
noncomputable def kV:aM->V
 | .inl i=>.int i
 | .inr x=>.str x
inductive HO where
 | lst (xs:List V)
 | tup (xs:List V)
 | dK (kvs:List (aM×V))|dT (kvs:List (List aM×V))
 | set (S:Int->Bool)(n:Nat)
 | ins (C dx:Addr)(fs:List (Str×V))
 | own (x:Addr)
 | xd (fs:List (Str×V))
 | met (f x:Addr)
 | rng (lo hi:Int)
 | frz (o:Obj)(u:HO)
 | tbl (ps:Array Value)
 | ext (φ:UU->Prop)
noncomputable abbrev Hp:=Addr->Option HO
noncomputable def aL (H:Hp)(a:Addr)(o:HO):Hp:=fun b=>if b=a then some o else H b
theorem cN {H:Hp}{a:Addr}{o:HO}:aL H a o a=some o:=by unfold aL;rw [if_pos rfl]
theorem bC {H:Hp}{a b:Addr}{o:HO}(h:b≠a):aL H a o b=H b:=by unfold aL;rw [if_neg h]
theorem gO {H:Hp}{a b:Addr}{o:HO}(h:H a=some o)(h':H b=none):a≠b:=by
 intro e;subst e;rw [h] at h';cases h'
section
variable (P:Ud)(w:Uv)
noncomputable def TupN (h:UU)(a:Addr)(xs:Array Value):Prop:=∃ o,h.get? a=some o/\o.cls=.type "tuple"/\∃ n,o.data=.seq xs n/\o.dict=none
theorem TupN.tup {h:UU}{a:Addr}{xs:Array Value}(x:TupN h a xs):IsTup h a xs:=let ⟨o,e,c,n,d,_⟩:=x;⟨o,e,c,n,d⟩
theorem TupN.new (h:UU)(a:Array Value):TupN (h.push { cls:=.type "tuple",data:=.seq a }) h.objs.size a:=⟨_,Ub _ rfl,rfl,_,rfl,rfl⟩
noncomputable def ObjOk (H:Hp)(h:UU)(a:Addr):HO->Prop
 | .lst b=>b.length<=TZ/\∃ (its:List Value)(n:Nat),Vals b its/\h.get? a=some { cls:=.type "list",data:=.seq its.toArray n }
 | .tup b=>b.length<=TZ/\∃ its:List Value,Vals b its/\TupN h a its.toArray
 | .dK kvs=>kvs.length<=TZ/\(a == Ve)=false/\∃ j,KV kvs j/\h.DictOf (lT P w) a j
 | .dT kvs=>kvs.length<=TZ/\(a == Ve)=false/\∃ b:List (List aM×Addr×Value),
   X6 (fun (p:List aM×V)(q:List aM×Addr×Value)=>p.1=q.1/\H q.2.1=some (.tup (p.1.map kV))/\RelV p.2 q.2.2) kvs b /\
   ∃ o d l,h.get? a=some o/\o.ExactDict/\o.data=.dict d l/\d.toList=b.map (entryOfKey (Wa (lT P w)))/\(b.map (·.1)).Nodup
 | .set S n=>h.SetOf (Ww P w) a S n
 | .ins C dx fs=>H dx=some (.own a)/\fs.length<=1000/\dx≠a/\h.get? a=some (V9 C dx) /\
   ∃ c,h.Ns1 dx c/\(∀ f,RelO (fs.lookup f) (c f))/\ZY c (fs.map (·.1))
 | .own _=>∃ o,h.get? a=some o
 | .xd fs=>∃ c,h.Ns1 a c/\∀ f,RelO (fs.lookup f) (c f)
 | .rng lo hi=>∃ t u v,h.get? a=some { cls:=.type "range",data:=.fields #[.int lo t,.int hi u,.int 1 v] }
 | .frz o u=>h.get? a=some o/\ObjOk H h a u
 | .tbl ps=>h.get? a=some { cls:=.none,data:=.fields ps }
 | .met f x=>h.get? a=some (YF (.ref f) (.ref x))
 | .ext φ=>φ h/\(∃ o,h.get? a=some o)/\∀ e i:UU,φ e->(∀ o,e.get? a=some o->i.get? a=some o)->φ i
noncomputable def HOk (H:Hp)(h:UU):Prop:=∀ a o,H a=some o->ObjOk P w H h a o
end
section
variable {P:Ud}{w:Uv}{H H':Hp}{h h':UU}{a:Addr}{o:HO}
theorem ObjOk.lt (x:ObjOk P w H h a o):a<h.objs.size:=by
 cases o with
 | lst c=>obtain ⟨_,_,_,_,e⟩:=x;exact T3 e
 | tup c=>obtain ⟨_,_,_,p⟩:=x;exact p.tup.lt
 | dK b=>obtain ⟨_,_,_,_,o,_,_,e,_⟩:=x;exact T3 e
 | dT b=>obtain ⟨_,_,_,_,o,_,_,e,_⟩:=x;exact T3 e
 | set S n=>obtain ⟨o,_,_,_,e,_⟩:=x;exact T3 e
 | ins C d fs=>obtain ⟨_,_,_,e,_⟩:=x;exact T3 e
 | own y=>obtain ⟨_,e⟩:=x;exact T3 e
 | xd fs=>obtain ⟨_,⟨_,_,_,e,_⟩,_⟩:=x;exact T3 e
 | rng j i=>obtain ⟨_,_,_,e⟩:=x;exact T3 e
 | frz l u=>obtain ⟨e,_⟩:=x;exact T3 e
 | tbl m=>exact T3 (show h.get? a=some _ from x)
 | met f y=>exact T3 (show h.get? a=some _ from x)
 | ext q=>obtain ⟨_,⟨_,e⟩,_⟩:=x;exact T3 e
theorem X6.mapP {c d:Type}{F G:c->d->Prop}:∀ {l₁:List c}{l₂:List d},X6 F l₁ l₂->(∀ a b,F a b->G a b)->X6 G l₁ l₂
 | _,_,.nil,_=>.nil
 | _,_,.cons r t,f=>.cons (f _ _ r) (X6.mapP t f)
theorem ObjOk.stay (x:ObjOk P w H h a o)(k:∀ b u,(b=a\/H b=some (.own a))->h.get? b=some u->h'.get? b=some u)
  (J:∀ b,H b=some (.own a)->H' b=some (.own a))(K:∀ b s,H b=some (.tup s)->H' b=some (.tup s)):ObjOk P w H' h' a o:=by
 induction o with
 | lst s=>obtain ⟨z,m,n,r,e⟩:=x;exact ⟨z,m,n,r,k _ _ (.inl rfl) e⟩
 | tup s=>obtain ⟨z,m,r,i,e,c⟩:=x;exact ⟨z,m,r,i,k _ _ (.inl rfl) e,c⟩
 | dK A=>obtain ⟨z,y,M,r,i,l,j,e,c⟩:=x;exact ⟨z,y,M,r,i,l,j,k _ _ (.inl rfl) e,c⟩
 | dT A=>
  obtain ⟨z,y,s,r,i,l,j,e,c⟩:=x
  exact ⟨z,y,s,X6.mapP r fun p q z=>⟨z.1,K _ _ z.2.1,z.2.2⟩,i,l,j,k _ _ (.inl rfl) e,c⟩
 | set S n=>obtain ⟨i,l,j,t,e,c⟩:=x;exact ⟨i,l,j,t,k _ _ (.inl rfl) e,c⟩
 | ins C N fs=>
  obtain ⟨d,z,ne,e,B,⟨E,l,j,I,c⟩,r⟩:=x
  exact ⟨J _ d,z,ne,k _ _ (.inl rfl) e,B,⟨E,l,j,k _ _ (.inr d) I,c⟩,r⟩
 | own y=>obtain ⟨i,e⟩:=x;exact ⟨i,k _ _ (.inl rfl) e⟩
 | xd fs=>obtain ⟨B,⟨E,l,j,e,c⟩,r⟩:=x;exact ⟨B,⟨E,l,j,k _ _ (.inl rfl) e,c⟩,r⟩
 | rng Q O=>obtain ⟨t,u,v,e⟩:=x;exact ⟨t,u,v,k _ _ (.inl rfl) e⟩
 | frz i u L=>obtain ⟨e,q⟩:=x;exact ⟨k _ _ (.inl rfl) e,L q⟩
 | tbl G=>
  have e:h.get? a=some { cls:=.none,data:=.fields G }:=x
  show h'.get? a=some { cls:=.none,data:=.fields G }
  exact k a _ (.inl rfl) e
 | met f y=>
  have e:h.get? a=some (YF (.ref f) (.ref y)):=x
  show h'.get? a=some (YF (.ref f) (.ref y))
  exact k a _ (.inl rfl) e
 | ext R=>obtain ⟨p,⟨o,e⟩,st⟩:=x;exact ⟨st _ _ p fun o q=>k _ _ (.inl rfl) q,⟨o,k _ _ (.inl rfl) e⟩,st⟩
theorem HOk.lt (x:HOk P w H h)(e:H a=some o):a<h.objs.size:=(x a o e).lt
theorem HOk.fresh (x:HOk P w H h)(e:h.objs.size<=a):H a=none:=by
 cases q:H a with
 | none=>rfl
 | some u=>exact absurd (Uj (x.lt q) e) (V3 _)
theorem HOk.kept (x:HOk P w H h)(k:∀ b u,h.get? b=some u->h'.get? b=some u):HOk P w H h':=fun a o e=>
 (x a o e).stay (fun b u _ q=>k b u q) (fun _ q=>q) fun _ _ q=>q
theorem HOk.laid (x:HOk P w H h)(k:∀ b u,h.get? b=some u->h'.get? b=some u)(j:h.objs.size<=a)(new:ObjOk P w (aL H a o) h' a o):HOk P w (aL H a o) h':=fun b u e=>by
 have i:=x.fresh j
 by_cases d:b=a
 ·subst d;rw [cN] at e;cases e;exact new
 ·rw [bC d] at e
  exact (x b u e).stay (fun c v _ q=>k c v q) (fun c q=>by rw [bC (gO q i)];exact q) fun c l q=>by rw [bC (gO q i)];exact q
end
noncomputable def Rd (H:Hp)(a:Addr)(u:HO):Prop:=H a=some u\/∃ o,H a=some (.frz o u)
theorem Rd.of {H:Hp}{a:Addr}{u:HO}(h:H a=some u):Rd H a u:=.inl h
theorem Rd.ok {P:Ud}{w:Uv}{H:Hp}{h:UU}{a:Addr}{u:HO}(r:Rd H a u)(x:HOk P w H h):ObjOk P w H h a u:=by
 rcases r with r|⟨o,r⟩
 ·exact x a u r
 ·obtain ⟨_,q⟩:=x a _ r
  exact q
noncomputable def oY:Option HO->Prop
 | some (.lst _)=>True
 | some (.dK _)=>True
 | some (.dT _)=>True
 | some (.set _ _)=>True
 | some (.ins _ _ _)=>True
 | some (.ext _)=>True
 | _=>False
section
variable {P:Ud}{w:Uv}{H:Hp}{h h':UU}{x e:Addr}{o':HO}
theorem HOk.write (ok:HOk P w H h)(l:oY (H x))(o:e=x\/H e=some (.own x))(k:∀ b u,b≠e->h.get? b=some u->h'.get? b=some u)(n:∃ u,h'.get? e=some u)
  (new:ObjOk P w (aL H x o') h' x o'):HOk P w (aL H x o') h':=fun b u q=>by
 have d:∀ c y,H c=some (.own y)->c≠x:=fun c y r z=>by subst z;rw [r] at l;exact l
 have i:∀ c m,H c=some (.tup m)->c≠x:=fun c m r z=>by subst z;rw [r] at l;exact l
 by_cases j:b=x
 ·subst j;rw [cN] at q;cases q;exact new
 ·rw [bC j] at q
  by_cases a:b=e
  ·have p:H b=some (.own x):=by
    rcases o with z|z
    ·exact absurd (a.trans z) j
    ·rw [a];exact z
   rw [q] at p;cases p
   obtain ⟨v,s⟩:=n
   exact ⟨v,by rw [a];exact s⟩
  ·refine (ok b u q).stay (fun c v hc r=>k c v ?_ r) (fun c r=>by rw [bC (d c b r)];exact r) fun c m r=>by rw [bC (i c m r)];exact r
   rcases hc with rfl|hc
   ·exact a
   ·rintro rfl
    rcases o with z|z
    ·exact d c b hc z
    ·rw [hc] at z;cases z;exact j rfl
end
structure Un (fs ex:List Addr)(H H':Hp)(h h':UU):Prop where
 keep:∀ b o,h.get? b=some o->H b=none->b∉fs->b∉ex->h'.get? b=some o
 slot:∀ b o,h.get? b=some o->H b=none->b∈fs->b∉ex->∃ sl,h'.get? b=some { o with slots:=sl }
 free:∀ b o,h.get? b=some o->H b=none->b∉ex->H' b=none
 there:∀ b o,h.get? b=some o->b∉ex->∃ o',h'.get? b=some o'
 tups:∀ b xs,H b=some (.tup xs)->H' b=some (.tup xs)
 frzs:∀ b o u,H b=some (.frz o u)->H' b=some (.frz o u)
 tbls:∀ b ps,H b=some (.tbl ps)->∃ more,H' b=some (.tbl (ps++more))
section
variable {fs fs' ex ex':List Addr}{H H1 H2:Hp}{h h1 h2 h':UU}{a x e:Addr}{o:HO}
theorem Un.any (u:Un fs ex H H1 h h1){b:Addr}{ob:Obj}(q:h.get? b=some ob)(n:H b=none)(d:b∉ex):∃ i,h1.get? b=some { ob with slots:=i }:=by
 by_cases c:b∈fs
 ·exact u.slot b ob q n c d
 ·exact ⟨ob.slots,u.keep b ob q n c d⟩
theorem Un.trans (a:Un fs ex H H1 h h1)(b:Un fs ex H1 H2 h1 h2):Un fs ex H H2 h h2 where
 keep:=fun c i q n hc d=>b.keep c i (a.keep c i q n hc d) (a.free c i q n d) hc d
 slot:=fun c i q n hc d=>by
  obtain ⟨w,j⟩:=a.slot c i q n hc d
  obtain ⟨r,m⟩:=b.slot c _ j (a.free c i q n d) hc d
  exact ⟨r,m⟩
 free:=fun c i q n d=>by
  obtain ⟨p,j⟩:=a.there c i q d
  exact b.free c p j (a.free c i q n d) d
 there:=fun c i q d=>by
  obtain ⟨p,j⟩:=a.there c i q d
  exact b.there c p j d
 tups:=fun c l q=>b.tups c l (a.tups c l q)
 frzs:=fun c i l q=>b.frzs c i l (a.frzs c i l q)
 tbls:=fun c v q=>by
  obtain ⟨s,j⟩:=a.tbls c v q
  obtain ⟨u,m⟩:=b.tbls c _ j
  exact ⟨s++u,by rw [m,a0L]⟩
theorem Un.kept (k:∀ b u,h.get? b=some u->h'.get? b=some u):Un fs ex H H h h':=
 ⟨fun b c q _ _ _=>k b c q,fun b c q _ _ _=>⟨c.slots,k b c q⟩,fun _ _ _ n _=>n,fun b c q _=>⟨c,k b c q⟩,fun _ _ q=>q,fun _ _ _ q=>q,fun _ d q=>⟨#[],by rw [q];simp⟩⟩
theorem Un.refl:Un fs ex H H h h:=Un.kept fun _ _ q=>q
theorem Un.laid (k:∀ b u,h.get? b=some u->h'.get? b=some u)(d:h.objs.size<=a)(c:H a=none):Un fs ex H (aL H a o) h h' where
 keep:=fun b u q _ _ _=>k b u q
 slot:=fun b u q _ _ _=>⟨u.slots,k b u q⟩
 free:=fun b u q n _=>by rw [bC (Ui (Uj (T3 q) d))];exact n
 there:=fun b u q _=>⟨u,k b u q⟩
 tups:=fun b i q=>by rw [bC (gO q c)];exact q
 frzs:=fun b u i q=>by rw [bC (gO q c)];exact q
 tbls:=fun b j q=>⟨#[],by rw [bC (gO q c),q];simp⟩
theorem Un.write (d:oY (H x))(p:e=x\/H e=some (.own x))(k:∀ b u,b≠e->h.get? b=some u->h'.get? b=some u)(i:∃ u,h'.get? e=some u):Un fs ex H (aL H x o) h h':=by
 have m:∀ b,H b=none->b≠x:=fun b n z=>by subst z;rw [n] at d;exact d
 have l:∀ b,H b=none->b≠e:=fun b n z=>by
  subst z
  rcases p with r|r
  ·exact m b n r
  ·rw [n] at r;cases r
 have j:∀ b u,H b=some u->¬ oY (some u)->b≠x:=fun b u q s z=>by subst z;rw [q] at d;exact s d
 refine ⟨fun b u q n _ _=>k b u (l b n) q,fun b u q n _ _=>⟨u.slots,k b u (l b n) q⟩,fun b u q n _=>by rw [bC (m b n)];exact n,fun b u q _=>?_,
  fun b v q=>by rw [bC (j b _ q fun z=>z)];exact q,fun b u v q=>by rw [bC (j b _ q fun z=>z)];exact q,fun b w q=>⟨#[],by rw [bC (j b _ q fun z=>z),q];simp⟩⟩
 by_cases c:b=e
 ·subst c;exact i
 ·exact ⟨u,k b u c q⟩
theorem Un.mono (u:Un fs ex H H1 h h1)(l:∀ b∈fs,b∈fs')(i:∀ b∈ex,b∈ex'):Un fs' ex' H H1 h h1:=
 ⟨fun b d q n j c=>u.keep b d q n (fun z=>j (l b z)) fun z=>c (i b z),fun _ _ q n _ c=>u.any q n fun z=>c (i _ z),fun b d q n c=>u.free b d q n fun z=>c (i b z),fun b d q c=>u.there b d q fun z=>c (i b z),u.tups,u.frzs,u.tbls⟩
end
noncomputable def rG (h:UU)(H:Hp):List Addr:=(UX h.objs.size).filter fun a=>(H a).isSome
noncomputable def jO (h:UU)(H:Hp):UU:=PySem.W.hideAll h (rG h H)
theorem F0 (h:UU)(H:Hp):(jO h H).objs.size=h.objs.size:=PySem.W.hideAll_size _ _
theorem F1 {h:UU}{H:Hp}{b:Addr}{o:Obj}(e:h.get? b=some o)(n:H b=none):(jO h H).get? b=some o:=
 PySem.W.hideAll_get _ e fun a=>by
  have q:(H b).isSome=true:=(Vk.mp a).2
  rw [n] at q;simp at q
theorem F2 {h:UU}{H:Hp}{b:Addr}{o:Obj}(e:(jO h H).get? b=some o):h.get? b=some o/\H b=none:=by
 have a:h.get? b=some o:=PySem.W.of_hideAll (rG h H) e
 refine ⟨a,?_⟩
 cases q:H b with
 | none=>rfl
 | some x=>
  have c:b∈rG h H:=Vk.mpr ⟨XR.mpr (T3 a),by simp [q]⟩
  have z:(jO h H).get? b=none:=PySem.W.hideAll_none (rG h H) c
  rw [z] at e;cases e
noncomputable def F3 (g h:UU)(L:Addr):List (Addr×Obj):=(UX h.objs.size).filterMap fun a=>if a=L\/(g.get? a).isSome=true then none else (h.get? a).map fun o=>(a,o)
noncomputable def bK (g h:UU)(L d:Addr):List (Addr×Obj):=(F3 g h L).filter fun p=>decide (p.1≠d)
end L2
namespace L2
open PySem PySem.Spec PyProof.Rows
structure Mod (K:Tv)(mg:Str->Option Value)(base:UU):Prop where
 kin:K.In base
 glob:base.Ns UI mg
 blt:∃ mb,base.Ns a2i mb/\∀ x:Str,x ≠ "__name__"->mb x=VA x
 nolimit:base.NoLimit
structure Cx where
 prog:Ud
 w:Uv
 K:Tv
 mg:Str->Option Value
 base:UU
 A:Ur
 N:List Str
 s₀:TC
 H₀:Hp
 env:XU
 outer:List XU
 stack:List XU
 ex:List Addr
 fn:Str->Bool
 calm:Bool
 pn:List (Addr×Obj)
 xe:Value->TC->Prop
noncomputable def dB (l:List XU):List Addr:=l.filterMap (·.frame)
noncomputable abbrev Cx.fs (X:Cx):List Addr:=dB X.outer
noncomputable def mZ (sc:VY)(x:Str):Prop:=sc.names.lookup x=some .local\/sc.names.lookup x=some .cell\/sc.names.lookup x=some .free
noncomputable def Loc (sc:VY)(x:Str):Prop:=sc.names.lookup x=some .local\/sc.names.lookup x=some .cell
noncomputable def F4 (env:XU)(h:UU)(m:Str->Option Value)(x:Str)(u:Value):Prop:=
 (env.kindOf x=some .local/\m x=some u)\/((env.kindOf x=some .cell\/env.kindOf x=some .free)/\∃ c,env.cells.lookup x=some c/\h.IsCell c (some u))
structure Cx.Ok (X:Cx):Prop where
 mod:Mod X.K X.mg X.base
 kind:X.env.scope.kind=.function
 glob:X.env.globals=UI
 blt:X.env.builtins=a2i
 above:X.s₀.heap.objs.size<=X.env.locals
 inj:∀ x y c,X.env.cells.lookup x=some c->X.env.cells.lookup y=some c->x=y
 has:∀ x,(X.env.kindOf x=some .cell\/X.env.kindOf x=some .free)->∃ c,X.env.cells.lookup x=some c
 cab:∀ x c,X.fn x=true->X.env.cells.lookup x=some c->X.s₀.heap.objs.size<=c
 hd:X.calm=true->X.A.handled=none
 frames:X.A.frames=some X.stack
 stk:X.stack=X.outer\/(X.stack=X.env::X.outer/\X.env.frame=some X.env.locals)
 exf:∀ b∈X.ex,b≠X.env.locals/\∀ x c,X.env.cells.lookup x=some c->c≠b
 bs:∀ b o,X.base.get? b=some o->X.s₀.heap.get? b=some o/\X.H₀ b=none
 bsz:X.base.objs.size<=X.s₀.heap.objs.size
 noex:∀ b o,X.base.get? b=some o->b∉X.ex
 exfs:∀ b∈X.ex,b∉X.fs
 funs:X.s₀.heap.FunFrames X.base X.outer
 frf:∀ b∈X.fs,X.H₀ b=none
structure Inv (X:Cx)(a3F:List (Addr×Obj))(σ:List (Option V))(H:Hp)(s:TC):Prop where
 ok:X.Ok
 os:s.os=X.s₀.os
 bare:Ye s.gens
 base:Un X.fs X.ex X.H₀ H X.s₀.heap s.heap
 loc:∃ m,s.heap.Ns X.env.locals m/\∀ (i:Nat)(x:Str)(v:V),X.N[i]? = some x->σ[i]? = some (some v)->mZ X.env.scope x->∃ u,RelV v u/\F4 X.env s.heap m x u
 cell:∀ x c,X.env.cells.lookup x=some c->∃ v,s.heap.IsCell c v
 free:H X.env.locals=none
 freeC:∀ x c,X.env.cells.lookup x=some c->H c=none
 pin:∀ p∈X.pn++a3F,s.heap.get? p.1=some p.2/\H p.1=none/\p.1≠X.env.locals/\p.1∉X.fs/\∀ v,p.2.data≠.cell v
 hok:HOk X.prog X.w H s.heap
 len:σ.length=X.N.length
section
variable {X:Cx}{a3F:List (Addr×Obj)}{σ:List (Option V)}{H H':Hp}{s:TC}{h':UU}
theorem Cx.Ok.nofr (ok:X.Ok){b:Addr}{o:Obj}(e:X.base.get? b=some o):b∉X.fs:=fun a=>by
 have:=(ok.funs.mem a).1
 rw [e] at this;cases this
theorem Inv.bs (I:Inv X a3F σ H s):∀ b o,X.base.get? b=some o->s.heap.get? b=some o/\H b=none:=fun b o e=>
 ⟨I.base.keep b o (I.ok.bs b o e).1 (I.ok.bs b o e).2 (I.ok.nofr e) (I.ok.noex b o e),I.base.free b o (I.ok.bs b o e).1 (I.ok.bs b o e).2 (I.ok.noex b o e)⟩
theorem Inv.bk (I:Inv X a3F σ H s):∀ b o,X.base.get? b=some o->s.heap.get? b=some o:=fun b o e=>(I.bs b o e).1
theorem Inv.mod (I:Inv X a3F σ H s):Mod X.K X.mg X.base:=I.ok.mod
theorem Inv.kIn (I:Inv X a3F σ H s):X.K.In s.heap:=I.ok.mod.kin.keeps I.bk
theorem Inv.nolimit (I:Inv X a3F σ H s):s.heap.NoLimit:=I.ok.mod.nolimit.keeps I.bk
theorem Inv.fr (I:Inv X a3F σ H s):∃ m,Fr X.base X.env.locals s.heap m:=
 let ⟨m,a,_⟩:=I.loc
 ⟨m,a,I.bk,UT I.ok.bsz I.ok.above⟩
theorem Inv.lt (I:Inv X a3F σ H s):X.env.locals<s.heap.objs.size:=let ⟨_,a,_⟩:=I.loc;a.lt
theorem Inv.sz (I:Inv X a3F σ H s):X.s₀.heap.objs.size<=s.heap.objs.size:=UT I.ok.above (Y5 I.lt)
theorem Inv.nofs (I:Inv X a3F σ H s){a:Addr}(h:s.heap.objs.size<=a):a∉X.fs:=fun b=>by
 obtain ⟨_,o,c,_⟩:=I.ok.funs.mem b
 exact absurd (Uj (T3 c) (UT I.sz h)) (V3 _)
theorem Inv.cne (I:Inv X a3F σ H s):∀ x c,X.env.cells.lookup x=some c->c≠X.env.locals:=fun x c e z=>by
 obtain ⟨v,o,d,hd⟩:=I.cell x c e
 obtain ⟨m,⟨j,i,h,b,a,_⟩,_⟩:=I.loc
 rw [z,b] at d;cases d;rw [a] at hd;cases hd
theorem Inv.funs (I:Inv X a3F σ H s):s.heap.FunFrames X.base X.outer:=by
 have all:∀ (l:List XU),(∀ b∈dB l,b∈X.fs)->X.s₀.heap.FunFrames X.base l->s.heap.FunFrames X.base l:=by
  intro l
  induction l with
  | nil=>intro _ _;trivial
  | cons i r u=>
   intro h m
   obtain ⟨j,⟨L,o,d,n,p,hd⟩,q⟩:=m
   have a:L∈X.fs:=h L (by unfold dB;rw [VN,d];exact UP)
   obtain ⟨v,e⟩:=I.base.slot L o p (I.ok.frf L a) a fun z=>I.ok.exfs L z a
   exact ⟨j,⟨L,_,d,n,e,hd⟩,u (fun b c=>h b (by unfold dB;rw [VN,d];exact UB _ c)) q⟩
 exact all X.outer (fun _ c=>c) I.ok.funs
theorem Inv.stack (I:Inv X a3F σ H s):s.heap.FunFrames X.base X.stack:=by
 rcases I.ok.stk with e|⟨e,a⟩
 ·rw [e];exact I.funs
 ·rw [e]
  obtain ⟨m,b,_⟩:=I.loc
  refine .cons (by rw [I.ok.kind];decide) a b ?_ I.funs
  exact Yw (UT I.ok.bsz I.ok.above)
theorem Inv.stkSub (I:Inv X a3F σ H s):∀ b∈dB X.stack,b∈X.env.locals::X.fs:=fun b a=>by
 rcases I.ok.stk with e|⟨e,c⟩
 ·rw [e] at a;exact UB _ a
 ·rw [e] at a
  unfold dB at a
  rw [VN,c] at a
  exact a
theorem Inv.stkFree (I:Inv X a3F σ H s):∀ b∈dB X.stack,H b=none:=fun b a=>by
 rcases Uq.mp (I.stkSub b a) with e|a
 ·rw [e];exact I.free
 ·obtain ⟨_,o,c,_⟩:=I.ok.funs.mem a
  exact I.base.free b o c (I.ok.frf b a) fun z=>I.ok.exfs b z a
theorem Inv.step {g':Array a1V}{t':Nat}{d':Drawn}{ch:List Addr}(I:Inv X a3F σ H s)
  (j:∀ b∈ch,(b∈X.ex\/X.s₀.heap.objs.size<=b)/\b≠X.env.locals/\(∀ x c,X.env.cells.lookup x=some c->c≠b)/\∀ p∈X.pn++a3F,p.1≠b)
  (keep:∀ b o,b≠X.env.locals->b∉X.fs->b∉ch->s.heap.get? b=some o->H b=none->h'.get? b=some o)
  (slot:∀ b o,b≠X.env.locals->b∈X.fs->b∉ch->s.heap.get? b=some o->H b=none->∃ T,h'.get? b=some { o with slots:=T })(free:∀ b o,b∉ch->s.heap.get? b=some o->H b=none->H' b=none)
  (G:∀ b o,b∉ch->s.heap.get? b=some o->∃ N,h'.get? b=some N)
  (Q:∀ b B,H b=some (.tup B)->H' b=some (.tup B))(L:∀ b o u,H b=some (.frz o u)->H' b=some (.frz o u))(O:∀ b R,H b=some (.tbl R)->∃ more,H' b=some (.tbl (R++more)))
  (ns:∀ m,s.heap.Ns X.env.locals m->h'.Ns X.env.locals m)(hok:HOk X.prog X.w H' h')(hg:Ye g') :
  Inv X a3F σ H' { s with heap:=h',gens:=g',drawn:=d',toks:=t' }:=by
 have M:∀ b o,X.s₀.heap.get? b=some o->b≠X.env.locals:=fun b o e=>Ui (Uj (T3 e) I.ok.above)
 have A:∀ b o,X.s₀.heap.get? b=some o->b∉X.ex->b∉ch:=fun b o e a E=>by
  rcases (j b E).1 with z|z
  ·exact a z
  ·exact absurd (Uj (T3 e) z) (V3 _)
 have h:∀ x c,X.env.cells.lookup x=some c->∀ v,s.heap.IsCell c v->h'.IsCell c v:=fun x c e v ⟨o,J,hd⟩=>by
  have w:c∉ch:=fun z=>(j c z).2.2.1 x c e rfl
  by_cases hc:c∈X.fs
  ·obtain ⟨T,q⟩:=slot c o (I.cne x c e) hc w J (I.freeC x c e)
   exact ⟨_,q,hd⟩
  ·exact ⟨o,keep c o (I.cne x c e) hc w J (I.freeC x c e),hd⟩
 refine ⟨I.ok,I.os,hg,⟨fun b o e n E a=>?_,fun b o e n E a=>?_,fun b o e n a=>?_,fun b o e a=>?_,fun b B e=>Q b B (I.base.tups b B e),fun b o B e=>L b o B (I.base.frzs b o B e),fun b R e=>?_⟩,?_,fun x c e=>?_,?_,fun x c e=>?_,fun p Y=>?_,hok,I.len⟩
 ·exact keep b o (M b o e) E (A b o e a) (I.base.keep b o e n E a) (I.base.free b o e n a)
 ·obtain ⟨T,y⟩:=I.base.slot b o e n E a
  obtain ⟨U,K⟩:=slot b _ (M b o e) E (A b o e a) y (I.base.free b o e n a)
  exact ⟨U,K⟩
 ·obtain ⟨N,y⟩:=I.base.there b o e a
  exact free b N (A b o e a) y (I.base.free b o e n a)
 ·obtain ⟨N,y⟩:=I.base.there b o e a
  exact G b N (A b o e a) y
 ·obtain ⟨m1,y⟩:=I.base.tbls b R e
  obtain ⟨m2,K⟩:=O b _ y
  exact ⟨m1++m2,by rw [K,a0L]⟩
 ·obtain ⟨m,hn,hl⟩:=I.loc
  refine ⟨m,ns m hn,fun i x v y K e3=>?_⟩
  obtain ⟨u,r,l⟩:=hl i x v y K e3
  refine ⟨u,r,?_⟩
  rcases l with l|⟨k,c,e,z⟩
  ·exact .inl l
  ·exact .inr ⟨k,c,e,h x c e _ z⟩
 ·obtain ⟨v,z⟩:=I.cell x c e
  exact ⟨v,h x c e v z⟩
 ·obtain ⟨m,⟨o,_,_,J,_⟩,_⟩:=I.loc
  exact free _ o (fun z=>(j _ z).2.1 rfl) J I.free
 ·obtain ⟨v,o,J,hd⟩:=I.cell x c e
  exact free c o (fun z=>(j c z).2.2.1 x c e rfl) J (I.freeC x c e)
 ·obtain ⟨e,n,ne,Z,d⟩:=I.pin p Y
  have w:p.1∉ch:=fun z=>(j p.1 z).2.2.2 p Y rfl
  exact ⟨keep p.1 p.2 ne Z w e n,free p.1 p.2 w e n,ne,Z,d⟩
theorem Inv.un {t':Nat}(I:Inv X a3F σ H s)(u:Un X.fs [] H H' s.heap h')(hok:HOk X.prog X.w H' h'):Inv X a3F σ H' { s with heap:=h',toks:=t' }:=by
 obtain ⟨m,⟨o,v,q,i,r⟩,_⟩:=id I.loc
 obtain ⟨y,j⟩:=u.any i I.free (by simp)
 exact I.step (g':=s.gens) (d':=s.drawn) (ch:=[]) (fun _ z=>nomatch z) (fun b o _ h _ e n=>u.keep b o e n h (by simp)) (fun b o _ h _ e n=>u.slot b o e n h (by simp)) (fun b o _ e n=>u.free b o e n (by simp)) (fun b o _ e=>u.there b o e (by simp)) u.tups u.frzs u.tbls (fun w l=>by
  obtain ⟨x,d,c,a,p⟩:=l
  rw [i] at a;cases a
  exact ⟨_,d,c,j,p⟩) hok I.bare
theorem Inv.call {g':Array a1V}{t':Nat}{d':Drawn}{ch:List Addr}(I:Inv X a3F σ H s)(u:Un (dB X.stack) ch H H' s.heap h')(hok:HOk X.prog X.w H' h')(v:Ye g')
  (a:∀ b∈ch,(b∈X.ex\/X.s₀.heap.objs.size<=b)/\b≠X.env.locals/\(∀ x c,X.env.cells.lookup x=some c->c≠b)/\∀ p∈X.pn++a3F,p.1≠b) :
  Inv X a3F σ H' { s with heap:=h',gens:=g',drawn:=d',toks:=t' }:=by
 obtain ⟨m,⟨o,B,A,l,r⟩,_⟩:=id I.loc
 obtain ⟨J,j⟩:=u.any l I.free fun z=>(a _ z).2.1 rfl
 exact I.step (ch:=ch) a (fun b o j q hc e n=>u.keep b o e n (fun z=>(Uq.mp (I.stkSub b z)).elim j q) hc) (fun b o _ _ hc e n=>u.any e n hc) (fun b o hc e n=>u.free b o e n hc) (fun b o hc e=>u.there b o e hc) u.tups u.frzs u.tbls (fun E w=>by
  obtain ⟨G,i,h,d,y⟩:=w
  rw [l] at d;cases d
  exact ⟨_,i,h,j,y⟩) hok v
theorem Inv.turned {t':Nat}{a:Addr}(I:Inv X a3F σ H s)(k:∀ b o,b≠a->s.heap.get? b=some o->h'.get? b=some o)(E:H a=none)(h:a≠X.env.locals)
  (l:a∈X.ex\/X.s₀.heap.objs.size<=a)(w:∀ x c,X.env.cells.lookup x=some c->c≠a)(y:∀ p∈X.pn++a3F,p.1≠a):Inv X a3F σ H { s with heap:=h',toks:=t' }:=by
 have d:∀ b u,H b=some u->b≠a:=fun b u e z=>by rw [z,E] at e;cases e
 refine I.step (g':=s.gens) (d':=s.drawn) (ch:=[a]) (fun b A=>?_) (fun b o _ _ hc e _=>k b o (fun z=>hc (by simp [z])) e) (fun b o _ _ hc e _=>⟨o.slots,k b o (fun z=>hc (by simp [z])) e⟩) (fun _ _ _ _ n=>n)
  (fun b o hc e=>⟨o,k b o (fun z=>hc (by simp [z])) e⟩) (fun _ _ e=>e) (fun _ _ _ e=>e) (fun b J e=>⟨#[],by rw [e];simp⟩) (fun m B=>?_) (fun b u e=>?_) I.bare
 ·have e:b=a:=by simpa using A
  subst e
  exact ⟨l,h,w,y⟩
 ·obtain ⟨o,j,i,G,r⟩:=B
  exact ⟨o,j,i,k _ o (UG h) G,r⟩
 ·refine (I.hok b u e).stay (fun c v hc q=>k c v ?_ q) (fun _ q=>q) fun _ _ q=>q
  rcases hc with z|z
  ·rw [z];exact d b u e
  ·exact d c _ z
theorem Inv.tok (I:Inv X a3F σ H s)(t:Nat):Inv X a3F σ H { s with toks:=t }:=I.un (h':=s.heap) (t':=t) Un.refl I.hok
theorem Inv.kept {t':Nat}(I:Inv X a3F σ H s)(k:∀ b u,s.heap.get? b=some u->h'.get? b=some u):Inv X a3F σ H { s with heap:=h',toks:=t' }:=I.un (Un.kept k) (I.hok.kept k)
theorem Inv.laid {a:Addr}{o:HO}{t':Nat}(I:Inv X a3F σ H s)(k:∀ b u,s.heap.get? b=some u->h'.get? b=some u)(c:s.heap.objs.size<=a)(new:ObjOk X.prog X.w (aL H a o) h' a o) :
  Inv X a3F σ (aL H a o) { s with heap:=h',toks:=t' }:=I.un (Un.laid k c (I.hok.fresh c)) (I.hok.laid k c new)
theorem Inv.write {x e:Addr}{o:HO}{t':Nat}(I:Inv X a3F σ H s)(d:oY (H x))(c:e=x\/H e=some (.own x))(k:∀ b u,b≠e->s.heap.get? b=some u->h'.get? b=some u)(a:∃ u,h'.get? e=some u)
  (new:ObjOk X.prog X.w (aL H x o) h' x o):Inv X a3F σ (aL H x o) { s with heap:=h',toks:=t' }:=I.un (Un.write d c k a) (I.hok.write d c k a new)
theorem Inv.weak {a:List (Option V)}(I:Inv X a3F σ H s)(h:a.length=σ.length)(w:∀ (i:Nat) v,a[i]? = some (some v)->σ[i]? = some (some v)):Inv X a3F a H s:=
 ⟨I.ok,I.os,I.bare,I.base,let ⟨m,j,b⟩:=I.loc;⟨m,j,fun i x v c d e=>b i x v c (w i v d) e⟩,I.cell,I.free,I.freeC,I.pin,I.hok,h.trans I.len⟩
theorem Inv.pins_of {a:List (Addr×Obj)}(I:Inv X a3F σ H s)(h:∀ p∈a,s.heap.get? p.1=some p.2/\H p.1=none/\p.1≠X.env.locals/\p.1∉X.fs/\∀ v,p.2.data≠.cell v):Inv X a σ H s:=
 ⟨I.ok,I.os,I.bare,I.base,I.loc,I.cell,I.free,I.freeC,fun p b=>(Vp.mp b).elim (fun z=>I.pin p (a0B _ z)) (h p),I.hok,I.len⟩
theorem uQ {N:List Str}(e:N.Nodup){i j:Nat}{x:Str}(a:N[i]? = some x)(b:N[j]? = some x):i=j:=by
 obtain ⟨h,c⟩:=TB.mp a
 obtain ⟨l,d⟩:=TB.mp b
 exact (a1H e).mp (c.trans d.symm)
theorem rH {M:ZV}{A:Ur}{E:Value->TC->Prop}{i:Nat}{x:Str}{v:V}{u:Value}{Q:Unit->TC->Prop}(I:Inv X a3F σ H s)(hN:X.N.Nodup)(hi:X.N[i]? = some x)(G:Loc X.env.scope x)(r:RelV v u)
  (h:∀ s',Inv X a3F (σ.set i (some v)) H s'->(∃ a,VT a s.heap s'.heap/\(a=X.env.locals\/X.env.cells.lookup x=some a))->Q () s')(hf:X.fn x=true\/X.env.scope.names.lookup x=some .local:=by first|exact .inl rfl|exact .inr rfl|assumption):Ua M A (storeName X.env x u) Q E s:=by
 obtain ⟨m,hn,hl⟩:=id I.loc
 have Z:(X.env.scope.kind == .class||(X.env.scope.kind == .module&&X.env.locals != X.env.globals))=false:=by rw [I.ok.kind];rfl
 have L:i<σ.length:=by rw [I.len];exact (TB.mp hi).1
 have cne:=I.cne
 have B:∀ {a:Addr}{h':UU},(∃ o,s.heap.get? a=some o/\H a=none)->VT a s.heap h'->HOk X.prog X.w H h':=fun {a h'} ha l b ob e=>by
  obtain ⟨_,_,J⟩:=ha
  refine (I.hok b ob e).stay (fun c w' hc q=>(l.2 c ?_).trans q) (fun _ q=>q) fun _ _ q=>q
  rintro rfl
  rcases hc with rfl|hc
  ·rw [J] at e;cases e
  ·rw [J] at hc;cases hc
 rcases G with N|N
 ·refine wpAny_storeName_local N hn (fun h' hn' l=>?_) Z
  obtain ⟨oL,_,_,hoL,_⟩:=id hn
  refine h _ ⟨I.ok,I.os,I.bare,⟨fun b o e n O G=>?_,fun b o e n O G=>?_,I.base.free,fun b o e G=>?_,I.base.tups,I.base.frzs,I.base.tbls⟩,⟨_,hn',fun j y v' w K e3=>?_⟩,fun y c e=>?_,I.free,I.freeC,fun p hp=>?_,B ⟨oL,hoL,I.free⟩ l,by simpa using I.len⟩ ⟨_,l,.inl rfl⟩
  ·exact (l.2 b (Ui (Uj (T3 e) I.ok.above))).trans (I.base.keep b o e n O G)
  ·obtain ⟨sl,w⟩:=I.base.slot b o e n O G
   exact ⟨sl,(l.2 b (Ui (Uj (T3 e) I.ok.above))).trans w⟩
  ·obtain ⟨o',w⟩:=I.base.there b o e G
   exact ⟨o',(l.2 b (Ui (Uj (T3 e) I.ok.above))).trans w⟩
  ·by_cases T:j=i
   ·subst T
    rw [hi] at w;cases w
    rw [Ug L] at K
    cases K
    exact ⟨u,r,.inl ⟨N,by simp⟩⟩
   ·rw [TQ (UG T)] at K
    obtain ⟨u',r',q⟩:=hl j y v' w K e3
    refine ⟨u',r',?_⟩
    rcases q with ⟨k,e⟩|⟨k,c,e,z⟩
    ·refine .inl ⟨k,?_⟩
     have:y≠x:=fun e=>T (uQ hN w (e ▸ hi))
     simp [this,e]
    ·exact .inr ⟨k,c,e,z.sameBut l (cne y c e)⟩
  ·obtain ⟨w',z⟩:=I.cell y c e
   exact ⟨w',z.sameBut l (cne y c e)⟩
  ·obtain ⟨e,n,ne,nf,d⟩:=I.pin p hp
   exact ⟨(l.2 p.1 ne).trans e,n,ne,nf,d⟩
 ·have R:X.fn x=true:=by
   rcases hf with z|z
   ·exact z
   ·rw [z] at N;cases N
  obtain ⟨c,hc⟩:=I.ok.has x (.inl N)
  obtain ⟨w',z⟩:=I.cell x c hc
  refine wpAny_storeName_cell I.ok.kind N hc z (fun h' U l=>?_)
  obtain ⟨oc,hoc,hocd⟩:=id z
  refine h { s with heap:=h' } ⟨I.ok,I.os,I.bare,⟨fun b o e n O G=>?_,fun b o e n O G=>?_,I.base.free,fun b o e G=>?_,I.base.tups,I.base.frzs,I.base.tbls⟩,⟨m,hn.sameBut l (UG (cne x c hc)),fun j y v' w K e3=>?_⟩,fun y c' e=>?_,I.free,I.freeC,fun p hp=>?_,B ⟨oc,hoc,I.freeC x c hc⟩ l,by simpa using I.len⟩ ⟨c,l,.inr hc⟩
  ·exact (l.2 b (Ui (Uj (T3 e) (I.ok.cab x c R hc)))).trans (I.base.keep b o e n O G)
  ·obtain ⟨sl,w⟩:=I.base.slot b o e n O G
   exact ⟨sl,(l.2 b (Ui (Uj (T3 e) (I.ok.cab x c R hc)))).trans w⟩
  ·obtain ⟨o',w⟩:=I.base.there b o e G
   exact ⟨o',(l.2 b (Ui (Uj (T3 e) (I.ok.cab x c R hc)))).trans w⟩
  ·by_cases T:j=i
   ·subst T
    rw [hi] at w;cases w
    rw [Ug L] at K
    cases K
    exact ⟨u,r,.inr ⟨.inl N,c,hc,U⟩⟩
   ·rw [TQ (UG T)] at K
    obtain ⟨u',r',q⟩:=hl j y v' w K e3
    refine ⟨u',r',?_⟩
    rcases q with q|⟨k,c',e,z'⟩
    ·exact .inl q
    ·refine .inr ⟨k,c',e,z'.sameBut l ?_⟩
     rintro rfl
     exact T (uQ hN w (I.ok.inj _ _ _ e hc ▸ hi))
  ·by_cases Y:c'=c
   ·subst Y;exact ⟨_,U⟩
   ·obtain ⟨w2,z2⟩:=I.cell y c' e
    exact ⟨w2,z2.sameBut l Y⟩
  ·obtain ⟨e,n,ne,nf,d⟩:=I.pin p hp
   refine ⟨(l.2 p.1 ?_).trans e,n,ne,nf,d⟩
   intro q
   rw [q,hoc] at e
   have q':oc=p.2:=T5 e
   exact d w' (by rw [<- q'];exact hocd)
theorem Al {M:ZV}{A:Ur}{E:Value->TC->Prop}{i:Nat}{x:Str}{v:V}{u:Value}{Q:Unit->TC->Prop}(I:Inv X a3F σ H s)(c:X.N.Nodup)(e:X.N[i]? = some x)(j:Loc X.env.scope x)(r:RelV v u)
  (h:∀ a,Inv X a3F (σ.set i (some v)) H a->Q () a)(d:X.fn x=true\/X.env.scope.names.lookup x=some .local:=by first|exact .inl rfl|exact .inr rfl|assumption):Ua M A (storeName X.env x u) Q E s:=
 rH I c e j r (fun a b _=>h a b) d
theorem Inv.call' {a:TC}{ch:List Addr}(I:Inv X a3F σ H s)(l:a.os=s.os)(u:Un (dB X.stack) ch H H' s.heap a.heap)(hok:HOk X.prog X.w H' a.heap)(j:Ye a.gens)
  (d:∀ b∈ch,(b∈X.ex\/X.s₀.heap.objs.size<=b)/\b≠X.env.locals/\(∀ x c,X.env.cells.lookup x=some c->c≠b)/\∀ p∈X.pn++a3F,p.1≠b):Inv X a3F σ H' a:=by
 obtain ⟨h',i,h,n,m⟩:=a
 have e:m=s.os:=l
 subst e
 exact I.call (g':=i) (t':=n) (d':=h) u hok j d
end
noncomputable abbrev XK:=Value->Option Addr->Hp->Prop
noncomputable abbrev St:=List (Option V)
noncomputable abbrev VK:=V->Hp->Prop
noncomputable abbrev TE:=St->Hp->VK->Prop
noncomputable abbrev TT:=St->Hp->(Bool->Hp->Prop)->Prop
noncomputable abbrev TA:=St->Hp->(List V->Hp->Prop)->Prop
structure Ends where
 nx:St->Hp->Prop
 rt:VK
 bk:St->Hp->Prop:=fun _ _=>False
 ct:St->Hp->Prop:=fun _ _=>False
noncomputable abbrev TS:=Ends->St->Hp->Prop
noncomputable def EP (X:Cx)(a3F:List (Addr×Obj))(σ:St)(Q:VK)(u:Value)(a:TC):Prop:=∃ v H',Inv X a3F σ H' a/\RelV v u/\Q v H'
noncomputable def TP (X:Cx)(a3F:List (Addr×Obj))(σ:St)(Q:Bool->Hp->Prop)(b:Bool)(a:TC):Prop:=∃ H',Inv X a3F σ H' a/\Q b H'
noncomputable def AP (X:Cx)(a3F:List (Addr×Obj))(σ:St)(Q:List V->Hp->Prop)(us:List Value)(a:TC):Prop:=∃ vs H',Inv X a3F σ H' a/\Vals vs us/\Q vs H'
noncomputable def SP (X:Cx)(a3F:List (Addr×Obj))(D:Ends)(f:Flow)(c:TC):Prop:=
 match f with
 | .next=>∃ a b,Inv X a3F a b c/\D.nx a b
 | .brk=>∃ a b,Inv X a3F a b c/\D.bk a b
 | .cont=>∃ a b,Inv X a3F a b c/\D.ct a b
 | .ret u=>∃ v a b,Inv X a3F a b c/\RelV v u/\D.rt v b
noncomputable def PE (X:Cx)(e:Expr)(t:TE):Prop:=
 ∀ (a3F:List (Addr×Obj))(s:TC)(σ:St)(H:Hp)(Q:VK),Inv X a3F σ H s->t σ H Q->Ua (Ul X.prog X.w) X.A (eval e X.env) (EP X a3F σ Q) X.xe s
noncomputable def PT (X:Cx)(e:Expr)(t:TT):Prop:=
 ∀ (a3F:List (Addr×Obj))(s:TC)(σ:St)(H:Hp)(Q:Bool->Hp->Prop),Inv X a3F σ H s->t σ H Q->Ua (Ul X.prog X.w) X.A (ZH e X.env (eval e X.env)) (TP X a3F σ Q) X.xe s
noncomputable def PW (X:Cx)(e:Expr)(t:TT):Prop:=
 ∀ (a:a1x Value)(a3F:List (Addr×Obj))(s:TC)(σ:St)(H:Hp)(Q:Bool->Hp->Prop),Inv X a3F σ H s->t σ H Q->Ua (Ul X.prog X.w) X.A (ZH e X.env a) (TP X a3F σ Q) X.xe s
theorem PW.pt {X:Cx}{e:Expr}{t:TT}(h:PW X e t):PT X e t:=h _
noncomputable def PA (X:Cx)(a:List Expr)(t:TA):Prop:=
 ∀ (pos:Vt)(a3F:List (Addr×Obj))(s:TC)(σ:St)(H:Hp)(Q:List V->Hp->Prop),Inv X a3F σ H s->t σ H Q->Ua (Ul X.prog X.w) X.A (a2y (VF pos (Ue a X.env))) (AP X a3F σ Q) X.xe s
noncomputable def PS (X:Cx)(st:Stmt)(t:TS):Prop:=
 ∀ (a3F:List (Addr×Obj))(s:TC)(σ:St)(H:Hp)(D:Ends),Inv X a3F σ H s->t D σ H->Ua (Ul X.prog X.w) X.A (exec st X.env) (SP X a3F D) X.xe s
noncomputable def PSs (X:Cx)(st:List Stmt)(t:TS):Prop:=
 ∀ (a3F:List (Addr×Obj))(s:TC)(σ:St)(H:Hp)(D:Ends),Inv X a3F σ H s->t D σ H->Ua (Ul X.prog X.w) X.A (execs st X.env) (SP X a3F D) X.xe s
theorem aN {c:Type}{t:a1x c}{Q b:c->TC->Prop}{M:ZV}{A:Ur}{E:Value->TC->Prop}{s:TC}(h:Ua M A t Q E s)(d:∀ a s,Q a s->b a s):Ua M A t b E s:=UH h d fun _ _ x=>x
end L2
namespace L2
open PySem PySem.Spec PyProof.Rows
section
variable {X:Cx}
noncomputable def Am (i:Nat):TE:=fun σ H Q=>∃ v,σ[i]? = some (some v)/\Q v H
noncomputable def tC (v:V):TE:=fun _ H Q=>Q v H
theorem F5 {i:Nat}{x:Str}{pos:Vt}(n:X.N[i]? = some x)(w:mZ X.env.scope x)(hd:(x == ("__debug__":Str))=false:=by decide) (j:(x == ("__classdict__":Str))=false:=by decide):PE X (.Name x pos) (Am i):=by
 intro d s y H Q I h
 obtain ⟨v,e,h⟩:=h
 obtain ⟨m,q,o⟩:=I.loc
 obtain ⟨u,r,l⟩:=o i x v n e w
 have aV:EP X d y Q u s:=⟨v,H,I,r,h⟩
 rcases l with ⟨b,p⟩|⟨b,c,hc,a⟩
 ·exact a2f (wpAny_loadName_local I.ok.kind b q p aV) hd
 ·rcases b with b|b
  ·exact a2f (wpAny_loadName_cell I.ok.kind b hc a aV) hd
  ·exact a2f (wpAny_loadName_free I.ok.kind b hc a aV j) hd
theorem F6 {i j pos}:PE X (.Constant (.int i) j pos) (tC (.int i)):=fun _ _ _ H _ I h=>wpAny_Constant_int ⟨.int i,H,I.tok _,⟨_,rfl⟩,h⟩
theorem F7 {b j pos}:PE X (.Constant (.bool b) j pos) (tC (.bl b)):=fun _ _ _ H _ I h=>Constant_bool ⟨.bl b,H,I,rfl,h⟩
theorem F8 {j pos}:PE X (.Constant .none j pos) (tC .non):=fun _ _ _ H _ I h=>Constant_none ⟨.non,H,I,rfl,h⟩
theorem F9 {x j pos}:PE X (.Constant (.str x) j pos) (tC (.str x)):=fun _ _ _ H _ I h=>Calls.Constant_str ⟨.str x,H,I.tok _,⟨_,rfl⟩,h⟩
noncomputable def Gl (X:Cx)(x:Str):Prop:=X.env.kindOf x=some .globalImplicit
theorem jP {E:Value->TC->Prop}{a3F:List (Addr×Obj)}{s:TC}{σ:St}{H:Hp}{x:Str}{u:Value}{pos:Vt}{Q:Value->TC->Prop}(I:Inv X a3F σ H s)(a:Gl X x)(b:X.mg x=some u)(h:Q u s)
  (hd:(x == ("__debug__":Str))=false:=by decide):Ua (Ul X.prog X.w) X.A (eval (.Name x pos) X.env) Q E s:=
 Zu I.ok.kind a (Calls.loadGlobal_global (by rw [I.ok.glob];exact I.mod.glob.keeps I.bk) b h) hd
theorem gP {E:Value->TC->Prop}{a3F:List (Addr×Obj)}{s:TC}{σ:St}{H:Hp}{x:Str}{u:Value}{pos:Vt}{Q:Value->TC->Prop}(I:Inv X a3F σ H s)(c:Gl X x)(d:X.mg x=none)(i:VA x=some u)(h:Q u s)
  (e:x ≠ "__name__":=by decide) (hd:(x == ("__debug__":Str))=false:=by decide):Ua (Ul X.prog X.w) X.A (eval (.Name x pos) X.env) Q E s:=by
 obtain ⟨j,a,b⟩:=I.mod.blt
 exact Zu I.ok.kind c (Calls.loadGlobal_builtin (by rw [I.ok.glob];exact I.mod.glob.keeps I.bk) d (by rw [I.ok.blt];exact a.keeps I.bk) ((b x e).trans i) h) hd
theorem Ga {x:Str}{v:V}{u:Value}{pos:Vt}(a:Gl X x)(b:X.mg x=some u)(r:RelV v u)(hd:(x == ("__debug__":Str))=false:=by decide):PE X (.Name x pos) (tC v):=
 fun _ _ _ H _ I h=>jP I a b ⟨v,H,I,r,h⟩ hd
theorem Gb {x:Str}{v:V}{u:Value}{pos:Vt}(a:Gl X x)(b:X.mg x=none)(d:VA x=some u)(r:RelV v u)(c:x ≠ "__name__":=by decide) (hd:(x == ("__debug__":Str))=false:=by decide):PE X (.Name x pos) (tC v):=
 fun _ _ _ H _ I h=>gP I a b d ⟨v,H,I,r,h⟩ c hd
variable {a b:Expr}{ta tb:TE}{pos:Vt}
noncomputable def tB (t:TE):TT:=fun σ H Q=>t σ H fun x d=>∃ c,x=.bl c/\Q c d
theorem Ge {e:Expr}{t:TE}(h:PE X e t)(m:∀ c,ZH e X.env c=(do let v <- c;Zo e.pos;holding [v] (truthy v)):=by intro _;rfl):PT X e (tB t):=by
 intro i s p H Q I hw
 refine isTrue_plain (aN (h i s p H _ I hw) fun v r ⟨x,j,l,o,n⟩=>?_) (m _)
 obtain ⟨d,rfl,q⟩:=n
 cases o
 exact VO ⟨j,l,q⟩
variable {tA tB':TT}{bK:List Expr}
noncomputable def Gf (t u:TT):TT:=fun σ H Q=>t σ H fun c d=>if c=true then u σ d Q else Q false d
noncomputable def Gh (t u:TT):TT:=fun σ H Q=>t σ H fun c d=>if c=true then Q true d else u σ d Q
noncomputable def Gi (t:TT):TT:=fun σ H Q=>t σ H fun c d=>Q (!c) d
theorem Gj (i:PT X a tA):PW X (.BoolOp .And [a] pos) tA:=by
 intro m d s j H Q I h
 refine isTrue_and (aN (i d s j H Q I h) fun c l e=>?_)
 cases c with
 | true=>exact isTrue_and_nil e
 | false=>exact e
theorem Gk (i:PT X a tA):PW X (.BoolOp .Or [a] pos) tA:=by
 intro m d s j H Q I h
 refine isTrue_or (aN (i d s j H Q I h) fun c l e=>?_)
 cases c with
 | false=>exact isTrue_or_nil e
 | true=>exact e
theorem Gm (m:PT X a tA)(n:PW X (.BoolOp .And (b::bK) pos) tB'):PW X (.BoolOp .And (a::b::bK) pos) (Gf tA tB'):=by
 intro p d s l H Q I h
 refine isTrue_and (aN (m d s l H _ I h) fun c o ⟨e,i,j⟩=>?_)
 cases c with
 | true=>exact n p d o l e Q i j
 | false=>exact ⟨e,i,j⟩
theorem Gn (m:PT X a tA)(n:PW X (.BoolOp .Or (b::bK) pos) tB'):PW X (.BoolOp .Or (a::b::bK) pos) (Gh tA tB'):=by
 intro p d s l H Q I h
 refine isTrue_or (aN (m d s l H _ I h) fun c o ⟨e,i,j⟩=>?_)
 cases c with
 | true=>exact ⟨e,i,j⟩
 | false=>exact n p d o l e Q i j
theorem Gp (i:PT X a tA):PT X (.UnaryOp .Not a pos) (Gi tA):=by
 intro d s j H Q I h
 exact isTrue_not (i d s j H (fun c e=>Q (!c) e) I h)
noncomputable def Gq (ta tb:TE):TE:=fun σ H Q=>ta σ H fun x d=>∃ c,x=.bl c/\if c=true then tb σ d Q else Q (.bl false) d
noncomputable def Gs (ta tb:TE):TE:=fun σ H Q=>ta σ H fun x d=>∃ c,x=.bl c/\if c=true then Q (.bl true) d else tb σ d Q
noncomputable def Gu (ta:TE):TE:=fun σ H Q=>ta σ H fun x d=>∃ c,x=.bl c/\Q (.bl (!c)) d
theorem Gv {op} {t:TE}(h:PE X a t):PE X (.BoolOp op [a] pos) t:=fun a3F s σ H Q I hw=>BoolOp_one (h a3F s σ H Q I hw)
theorem Gw (m:PE X a ta)(n:PE X (.BoolOp .And (b::bK) pos) tb):PE X (.BoolOp .And (a::b::bK) pos) (Gq ta tb):=by
 intro d s l H Q I h
 refine BoolOp_and (aN (m d s l H _ I h) fun v p ⟨x,i,j,o,e⟩=>?_)
 obtain ⟨c,rfl,e⟩:=e
 cases o
 refine VO ?_
 cases c with
 | true=>exact n d p l i Q j e
 | false=>exact ⟨.bl false,i,j,rfl,e⟩
theorem Gx (m:PE X a ta)(n:PE X (.BoolOp .Or (b::bK) pos) tb):PE X (.BoolOp .Or (a::b::bK) pos) (Gs ta tb):=by
 intro d s l H Q I h
 refine BoolOp_or (aN (m d s l H _ I h) fun v p ⟨x,i,j,o,e⟩=>?_)
 obtain ⟨c,rfl,e⟩:=e
 cases o
 refine VO ?_
 cases c with
 | false=>exact n d p l i Q j e
 | true=>exact ⟨.bl true,i,j,rfl,e⟩
theorem Gy (l:PE X a ta):PE X (.UnaryOp .Not a pos) (Gu ta):=by
 intro d s n H Q I h
 refine UnaryOp_ (aN (l d s n H _ I h) fun v o ⟨x,i,j,m,e⟩=>?_)
 obtain ⟨c,rfl,e⟩:=e
 cases m
 exact not_of (VO ⟨.bl (!c),i,j,rfl,e⟩)
noncomputable def Gz (t:TT)(ta tb:TE):TE:=fun σ H Q=>t σ H fun c d=>if c=true then ta σ d Q else tb σ d Q
theorem GA {c:Expr}(hc:PT X c tA)(o:PE X a ta)(p:PE X b tb):PE X (.IfExp c a b pos) (Gz tA ta tb):=by
 intro e s i H Q I h
 refine wpAny_IfExp (aN (hc e s i H _ I h) fun d n ⟨j,l,m⟩=>?_)
 cases d with
 | true=>exact o e n i j Q l m
 | false=>exact p e n i j Q l m
end
end L2
namespace L2
open PySem PySem.Spec PyProof.Rows
noncomputable def SqL (K:Tv)(H:Hp)(a:Addr)(xs:List V):Prop:=
 Rd H a (.lst xs) \/
  ∃ (o:Obj)(its:Array Value)(n:Nat),K.lookup a=some o/\o.cls=.type "list"/\o.dict=none/\o.data=.seq its n/\its.size<=TZ/\Vals xs its.toList
noncomputable def SqT (K:Tv)(H:Hp)(a:Addr)(xs:List V):Prop:=
 Rd H a (.tup xs) \/
  ∃ (o:Obj)(its:Array Value)(n:Nat),K.lookup a=some o/\o.cls=.type "tuple"/\o.dict=none/\o.data=.seq its n/\its.size<=TZ/\Vals xs its.toList
noncomputable def GB:Value->Option V
 | .none=>some .non
 | .bool b=>some (.bl b)
 | .int i _=>some (.int i)
 | .str x _=>some (.str x)
 | .bytes b _=>some (.byt b)
 | .float b _=>some (.flt b)
 | .ref a=>some (.ref a)
 | .type n=>some (.ty n)
 | _=>none
theorem RelV.abs {x:V}{u:Value}(r:RelV x u):GB u=some x:=by
 cases x with
 | non=>cases r;rfl
 | bl _=>cases r;rfl
 | int _=>obtain ⟨t,rfl⟩:=r;rfl
 | str _=>obtain ⟨t,rfl⟩:=r;rfl
 | byt _=>obtain ⟨t,rfl⟩:=r;rfl
 | flt _=>obtain ⟨t,rfl⟩:=r;rfl
 | ref _=>cases r;rfl
 | ty _=>cases r;rfl
theorem RelV.inj {x y:V}{u:Value}(r:RelV x u)(q:RelV y u):x=y:=T5 (r.abs.symm.trans q.abs)
theorem Vals.inj:∀ {xs a:List V}{us:List Value},Vals xs us->Vals a us->xs=a
 | _,_,_,.nil,.nil=>rfl
 | _,_,_,.cons r t,.cons r' t'=>by rw [r.inj r',Vals.inj t t']
section
variable {X:Cx}{a3F:List (Addr×Obj)}{σ:St}{H:Hp}{s:TC}{a:Addr}{xs ys:List V}
theorem SqL.of {K:Tv}(h:H a=some (.lst xs)):SqL K H a xs:=.inl (.inl h)
theorem SqT.of {K:Tv}(h:H a=some (.tup xs)):SqT K H a xs:=.inl (.inl h)
theorem Inv.list (I:Inv X a3F σ H s)(h:SqL X.K H a xs):∃ its:List Value,Vals xs its/\PlainL s.heap a its.toArray/\xs.length<=TZ:=by
 rcases h with h|⟨o,its,n,b,hc,hd,c,d,r⟩
 ·obtain ⟨z,its,n,r,e⟩:=h.ok I.hok
  exact ⟨its,r,⟨_,n,e,rfl,rfl,rfl⟩,z⟩
 ·refine ⟨its.toList,r,⟨o,n,I.kIn a o b,hc,hd,by simpa using c⟩,?_⟩
  have e:=r.length
  simp only [WL] at e
  omega
theorem Inv.tuple (I:Inv X a3F σ H s)(h:SqT X.K H a xs):∃ its:List Value,Vals xs its/\IsTup s.heap a its.toArray/\xs.length<=TZ:=by
 rcases h with h|⟨o,its,n,b,hc,hd,c,d,r⟩
 ·obtain ⟨z,its,r,p⟩:=h.ok I.hok
  exact ⟨its,r,p.tup,z⟩
 ·refine ⟨its.toList,r,⟨o,I.kIn a o b,hc,n,by simpa using c⟩,?_⟩
  have e:=r.length
  simp only [WL] at e
  omega
theorem Inv.list_inj (I:Inv X a3F σ H s)(h:SqL X.K H a xs)(h':SqL X.K H a ys):xs=ys:=by
 obtain ⟨c,r,⟨o,n,e,_,_,d⟩,_⟩:=I.list h
 obtain ⟨b,l,⟨p,m,j,_,_,i⟩,_⟩:=I.list h'
 rw [e] at j;cases j
 rw [d] at i
 injection i with d1 _
 have:c=b:=by simpa using congrArg a2q d1
 subst this
 exact r.inj l
theorem Inv.tuple_inj (I:Inv X a3F σ H s)(h:SqT X.K H a xs)(h':SqT X.K H a ys):xs=ys:=by
 obtain ⟨c,r,⟨o,e,_,n,d⟩,_⟩:=I.tuple h
 obtain ⟨b,l,⟨p,j,_,m,i⟩,_⟩:=I.tuple h'
 rw [e] at j;cases j
 rw [d] at i
 injection i with d1 _
 have:c=b:=by simpa using congrArg a2q d1
 subst this
 exact r.inj l
end
noncomputable abbrev Cx.wish (X:Cx)(E:Value->TC->Prop):Cx:={ X with xe:=E }
noncomputable abbrev Cx.nox (X:Cx):Cx:=X.wish fun _ _=>False
theorem Cx.Ok.wish {X:Cx}(ok:X.Ok)(E:Value->TC->Prop):(X.wish E).Ok:=
 ⟨ok.mod,ok.kind,ok.glob,ok.blt,ok.above,ok.inj,ok.has,ok.cab,ok.hd,ok.frames,ok.stk,ok.exf,ok.bs,ok.bsz,ok.noex,ok.exfs,ok.funs,ok.frf⟩
theorem Cx.Ok.unwish {X:Cx}{E:Value->TC->Prop}(ok:(X.wish E).Ok):X.Ok:=
 ⟨ok.mod,ok.kind,ok.glob,ok.blt,ok.above,ok.inj,ok.has,ok.cab,ok.hd,ok.frames,ok.stk,ok.exf,ok.bs,ok.bsz,ok.noex,ok.exfs,ok.funs,ok.frf⟩
section
variable {X:Cx}{a3F:List (Addr×Obj)}{σ:St}{H:Hp}{s:TC}{E:Value->TC->Prop}
theorem Inv.wish (I:Inv X a3F σ H s)(E:Value->TC->Prop):Inv (X.wish E) a3F σ H s:=⟨I.ok.wish E,I.os,I.bare,I.base,I.loc,I.cell,I.free,I.freeC,I.pin,I.hok,I.len⟩
theorem Inv.unwish (I:Inv (X.wish E) a3F σ H s):Inv X a3F σ H s:=⟨I.ok.unwish,I.os,I.bare,I.base,I.loc,I.cell,I.free,I.freeC,I.pin,I.hok,I.len⟩
theorem SP.unwish {D:Ends}{f:Flow}{c:TC}(h:SP (X.wish E) a3F D f c):SP X a3F D f c:=by
 cases f with
 | next=>obtain ⟨a,b,I,q⟩:=h;exact ⟨a,b,I.unwish,q⟩
 | brk=>obtain ⟨a,b,I,q⟩:=h;exact ⟨a,b,I.unwish,q⟩
 | cont=>obtain ⟨a,b,I,q⟩:=h;exact ⟨a,b,I.unwish,q⟩
 | ret u=>obtain ⟨v,a,b,I,r,q⟩:=h;exact ⟨v,a,b,I.unwish,r,q⟩
theorem PE.nox {e:Expr}{t:TE}(h:PE X.nox e t):PE X e t:=fun a3F s σ H Q I hw=>
 UH (h a3F s σ H Q (I.wish _) hw) (fun _ _ ⟨v,a,b,r,q⟩=>⟨v,a,b.unwish,r,q⟩) fun _ _ z=>UA z
theorem PT.nox {e:Expr}{t:TT}(h:PT X.nox e t):PT X e t:=fun a3F s σ H Q I hw=>
 UH (h a3F s σ H Q (I.wish _) hw) (fun _ _ ⟨a,b,q⟩=>⟨a,b.unwish,q⟩) fun _ _ z=>UA z
theorem PSs.nox {st:List Stmt}{t:TS}(h:PSs X.nox st t):PSs X st t:=fun a3F s σ H D I hw=>
 UH (h a3F s σ H D (I.wish _) hw) (fun _ _ q=>q.unwish) fun _ _ z=>UA z
end
section
variable {X:Cx}{st:Stmt}{bK:List Stmt}{t u:TS}{e:Expr}{te:TE}{pos:Vt}
noncomputable def An:TS:=fun D σ H=>D.nx σ H
noncomputable def GC (t u:TS):TS:=fun D σ H=>t { D with nx:=u D } σ H
theorem GD:PSs X [] An:=fun _ _ σ H _ I h=>XS ⟨σ,H,I,h⟩
theorem GF (i:PS X st t)(j:PSs X bK u):PSs X (st::bK) (GC t u):=by
 intro a s m H D I h
 refine ZC (aN (i a s m H { D with nx:=u D } I h) fun f l q=>?_)
 cases f with
 | next=>
  obtain ⟨b,c,d,q⟩:=q
  exact j a l b c D d q
 | ret v=>exact q
 | brk=>exact q
 | cont=>exact q
theorem GG (b:PS X st t):PSs X [st] t:=by
 intro a s c H D I h
 refine ZC (aN (b a s c H D I h) fun f d q=>?_)
 cases f with
 | next=>exact XS q
 | ret v=>exact q
 | brk=>exact q
 | cont=>exact q
theorem GH:PS X (.Pass pos) An:=fun _ _ σ H _ I h=>wpAny_Pass ⟨σ,H,I,h⟩
theorem Inv.quiet {a3F:List (Addr×Obj)}{σ:St}{H:Hp}{s:TC}(I:Inv X a3F σ H s):interactive X.env=false:=by simp [interactive,I.ok.kind]
noncomputable def GJ (te:TE):TS:=fun D σ H=>te σ H fun _ a=>D.nx σ a
theorem GK (i:PE X e te)(j:Xx e none pos.line X.env=pure false:=by rfl):PS X (.Expr e pos) (GJ te):=by
 intro a s b H D I h
 exact a3v (aN (i a s b H _ I h) fun v n ⟨x,c,d,m,l⟩=>⟨b,c,d,l⟩) I.quiet j
noncomputable def GL (te:TE):TS:=fun D σ H=>te σ H D.rt
theorem GN (i:PE X e te):PS X (.Return (some e) pos) (GL te):=by
 intro a s b H D I h
 exact a2v (aN (i a s b H _ I h) fun v m ⟨x,c,d,l,j⟩=>⟨x,b,c,d,l,j⟩)
noncomputable def GO:TS:=fun D _ H=>D.rt .non H
theorem GP:PS X (.Return none pos) GO:=fun _ _ σ H _ I h=>wpAny_Return_none ⟨.non,σ,H,I,rfl,h⟩
noncomputable def GQ (c:TT)(t u:TS):TS:=fun D σ H=>c σ H fun b a=>if b=true then t D σ a else u D σ a
theorem GR {c:Expr}{a b:List Stmt}{p:TT}(hc:PT X c p)(q:PSs X a t)(r:PSs X b u):PS X (.If c a b pos) (GQ p t u):=by
 intro i s j H D I h
 refine wpAny_If (aN (hc i s j H _ I h) fun d o ⟨l,m,n⟩=>?_)
 cases d with
 | true=>exact q i o j l D m n
 | false=>exact r i o j l D m n
end
noncomputable abbrev TG:=V->St->Hp->(St->Hp->Prop)->Prop
noncomputable abbrev m3:=List V->St->Hp->(St->Hp->Prop)->Prop
noncomputable def PG (X:Cx)(a:Expr)(t:TG):Prop:=
 ∀ (a3F:List (Addr×Obj))(s:TC)(σ:St)(H:Hp)(v:V)(u:Value)(Q:St->Hp->Prop),Inv X a3F σ H s->RelV v u->t v σ H Q->
  Ua (Ul X.prog X.w) X.A (Zd a X.env u) (fun _ d=>∃ b c,Inv X a3F b c d/\Q b c) X.xe s
noncomputable def oZ (X:Cx)(d:List Expr)(t:m3):Prop:=
 ∀ (a3F:List (Addr×Obj))(s:TC)(σ:St)(H:Hp)(vs:List V)(us:List Value)(Q:St->Hp->Prop),Inv X a3F σ H s->Vals vs us->t vs σ H Q->
  Ua (Ul X.prog X.w) X.A (assignInOrder ((V2 d X.env).map (·.2)) us) (fun _ c=>∃ a b,Inv X a3F a b c/\Q a b) X.xe s
section
variable {X:Cx}{pos:Vt}
noncomputable def uR (i:Nat):TG:=fun v σ H Q=>Q (σ.set i (some v)) H
theorem Ao {i:Nat}{x:Str}(c:X.N.Nodup)(e:X.N[i]? = some x)(j:Loc X.env.scope x)(d:X.fn x=true\/X.env.scope.names.lookup x=some .local:=by first|exact .inl rfl|exact .inr rfl|assumption):PG X (.Name x pos) (uR i):=by
 intro b s m H v u Q I r h
 exact a2u (Al I c e j r (fun l a=>⟨_,H,a,h⟩) d)
noncomputable def Ap:m3:=fun vs σ H Q=>vs=[]/\Q σ H
noncomputable def Aq (t:TG)(u:m3):m3:=fun vs σ H Q=>∃ v r,vs=v::r/\t v σ H fun a H'=>u r a H' Q
theorem GS:oZ X [] Ap:=by
 intro a s b H d c Q I r h
 obtain ⟨e,h⟩:=h
 subst e
 cases r
 exact assignInOrder_nil ⟨b,H,I,h⟩
theorem GU {e:Expr}{b:List Expr}{t:TG}{u:m3}(l:PG X e t)(m:oZ X b u)
  (n:(V2 (e::b) X.env).map (·.2)=Zd e X.env::(V2 b X.env).map (·.2):=by rfl):oZ X (e::b) (Aq t u):=by
 intro a s w H z x Q I r h
 obtain ⟨v,y,j,h⟩:=h
 subst j
 cases r with
 | cons r p=>
  rw [n]
  refine assignInOrder_cons (aN (l a s w H _ _ _ I r h) fun _ q ⟨c,d,i,o⟩=>?_)
  exact m a q c d _ _ Q i p o
noncomputable def Ar (te:TE)(g:TG):TS:=fun D σ H=>te σ H fun x a=>g x σ a D.nx
theorem GV {tg e:Expr}{te:TE}{g:TG}(j:PE X e te)(l:PG X tg g)(m:swapsWithSole [tg] e pos.line X.env=pure false:=by rfl)(hw:a0E [tg] e X.env=pure none:=by rfl)
  (i:(V2 [tg] X.env).map (·.2)=[Zd tg X.env]:=by rfl):PS X (.Assign [tg] e pos) (Ar te g):=by
 intro a s b H D I h
 refine wpAny_Assign_stores (aN (j a s b H _ I h) fun v p ⟨x,c,d,o,n⟩=>?_) m hw
 rw [i]
 exact aN (l a p b c x v _ d o n) fun _ r q=>q
theorem GW {i:Nat}{x:Str}{e:Expr}{te:TE}{a:Vt}(l:X.N.Nodup)(o:X.N[i]? = some x)(q:Loc X.env.scope x)(m:PE X e te)(p:Xx e (some (.Name x a)) pos.line X.env=pure false:=by rfl)(n:X.fn x=true\/X.env.scope.names.lookup x=some .local:=by first|exact .inl rfl|exact .inr rfl|assumption) :
  PS X (.Assign [.Name x a] e pos) (Ar te (uR i)):=by
 intro b s w H D I h
 refine a2w (aN (m b s w H _ I h) fun v z ⟨y,c,d,u,r⟩=>?_) p
 exact Al d l o q u (fun A j=>⟨_,c,j,r⟩) n
end
section
variable {X:Cx}{pos:Vt}
noncomputable def GX (c:TT)(i:TS):TS:=fun D σ H=>∃ W:Nat->St->Hp->Prop,(∃ m,W m σ H)/\∀ m σ H,W m σ H->
 c σ H fun b e=>if b=true then ∃ N:St->Hp->Prop,(∀ a d,N a d->∃ h,h<m/\W h a d)/\i { D with nx:=N,ct:=N,bk:=D.nx } σ e else D.nx σ e
theorem GY {c:Expr}{body:List Stmt}{J:TT}{G:TS}(E:ZM (Ul X.prog X.w) X.A X.env X.xe)(hc:PT X c J)(L:PSs X body G):PS X (.While c body [] pos) (GX J G):=by
 intro e s Y H D I h
 obtain ⟨W,⟨M,T⟩,j⟩:=h
 refine wpAny_While (codeAny_whileLoop (fun n O=>∃ l x,Inv X e l x O/\W n l x) ?_ M ⟨Y,H,I,T⟩)
 rintro n Q ⟨d,y,K,U⟩
 refine Wz E (aN (hc e Q d y _ K (j n d y U)) fun b R ⟨z,A,m⟩=>?_)
 cases b with
 | true=>
  obtain ⟨N,B,m⟩:=m
  rw [if_pos rfl]
  refine Wz E (aN (L e R d z _ A m) fun f Z o=>?_)
  cases f with
  | next=>
   obtain ⟨a,i,p,u⟩:=o
   obtain ⟨r,q,w⟩:=B a i u
   exact ⟨r,q,a,i,p,w⟩
  | cont=>
   obtain ⟨a,i,p,u⟩:=o
   obtain ⟨r,q,w⟩:=B a i u
   exact ⟨r,q,a,i,p,w⟩
  | brk=>exact o
  | ret v=>exact o
 | false=>
  rw [if_neg Ux]
  exact XS ⟨d,z,A,m⟩
end
structure It where
 go:Nat->Hp->Prop
 yld:Nat->Hp->V->Hp->Prop
 stop:Nat->Hp->Prop
noncomputable def gQ (X:Cx)(a3F:List (Addr×Obj))(H:Hp)(b:Addr):Prop:=
 H b=none/\b≠X.env.locals/\b∉X.fs/\(b∈X.ex\/X.s₀.heap.objs.size<=b)/\(∀ x c,X.env.cells.lookup x=some c->c≠b)/\∀ p∈X.pn++a3F,p.1≠b
theorem Inv.fpOk {X:Cx}{a3F:List (Addr×Obj)}{σ:St}{H H':Hp}{s:TC}{b:Addr}(I:Inv X a3F σ H s)(a:s.heap.objs.size<=b)(d:H' b=none):gQ X a3F H' b:=by
 refine ⟨d,Xf (Uj I.lt a),I.nofs a,.inr (UT I.sz a),fun x c e z=>?_,fun p h z=>?_⟩
 ·obtain ⟨v,q⟩:=I.cell x c e
  exact absurd (Uj q.lt (by rw [z];exact a)) (V3 _)
 ·exact absurd (Uj (T3 (I.pin p h).1) (by rw [z];exact a)) (V3 _)
noncomputable abbrev Qc (X:Cx):Prop:=X.calm=true
structure Turn (q:Cx->Prop)(P:Ud)(w:Uv)(K:Tv)(tg:Expr)(J:It)(fp:List Addr)(it:Addr)(tn:Nat->UU->Prop):Prop where
 mem:it∈fp
 obj:∀ i h,tn i h->∀ b∈fp,∃ o,h.get? b=some o/\∀ v,o.data≠.cell v
 keep:∀ i h h',tn i h->(∀ b∈fp,∀ o,h.get? b=some o->h'.get? b=some o)->tn i h'
 item:∀ (X:Cx),X.prog=P->X.w=w->X.K=K->q X->∀ (i:Nat)(a3F:List (Addr×Obj))(s:TC)(σ:St)(H:Hp)(E:Value->TC->Prop),Inv X a3F σ H s->(∀ b∈fp,gQ X a3F H b)->tn i s.heap->J.go i H->
  Ua (Ul P w) X.A (ZE (.ref it)) (fun r s1=>∃ u,r=some u /\
   Ua (Ul P w) X.A (YB tg (.ref it) u) (fun _ s2=>∃ x H',Inv X a3F σ H' s2/\RelV x u/\J.yld i H x H'/\tn (i+1) s2.heap/\∀ b∈fp,H' b=none) E s1) E s
 done:∀ (X:Cx),X.prog=P->X.w=w->X.K=K->q X->∀ (i:Nat)(a3F:List (Addr×Obj))(s:TC)(σ:St)(H:Hp)(E:Value->TC->Prop),Inv X a3F σ H s->(∀ b∈fp,gQ X a3F H b)->tn i s.heap->J.stop i H->
  Ua (Ul P w) X.A (ZE (.ref it)) (fun r s1=>r=none/\Inv X a3F σ H s1) E s
 self:∀ (A:Ur)(i:Nat)(s:TC)(Q:Value->TC->Prop)(E:Value->TC->Prop),tn i s.heap->Q (.ref it) s->Ua (Ul P w) A (ZF (.ref it)) Q E s
noncomputable abbrev TI:=St->Hp->(It->Hp->Prop)->Prop
noncomputable def rJ (q:Cx->Prop)(X:Cx)(a3F:List (Addr×Obj))(σ:St)(tg:Expr)(R:It->Hp->Prop)(a:Value)(e:TC):Prop:=
 ∃ (d:Addr)(c:List Addr)(h:Nat->UU->Prop)(J:It)(H':Hp),a=.ref d/\Inv X a3F σ H' e/\Turn q X.prog X.w X.K tg J c d h/\h 0 e.heap/\(∀ b∈c,gQ X a3F H' b)/\R J H'
noncomputable abbrev Au:=rJ Qc
noncomputable def o6 (q:Cx->Prop)(X:Cx)(tg iter:Expr)(b:TI):Prop:=
 ∀ (a3F:List (Addr×Obj))(s:TC)(σ:St)(H:Hp)(R:It->Hp->Prop),Inv X a3F σ H s->b σ H R->
  Ua (Ul X.prog X.w) X.A (eval iter X.env) (fun v a=>Ua (Ul X.prog X.w) X.A (ZF v) (rJ q X a3F σ tg R) X.xe a) X.xe s
noncomputable abbrev PI:=o6 Qc
theorem o7 {M:ZV}{A:Ur}{E:Value->TC->Prop}{s:TC}{tg:Expr}{b:Addr}{u:Value}{o:Obj}{n:String}{vs:Array Value}{Q:Unit->TC->Prop}(d:s.heap.get? b=some o)(hc:o.cls=.type n)(hd:o.data=.fields vs)
  (c:["enumerate","zip","dict_itemiterator","dict_reverseitemiterator","odict_iterator","itertools.zip_longest","itertools.pairwise"].contains n=false) (a:Q () s):Ua M A (YB tg (.ref b) u) Q E s:=by
 unfold YB
 cases tg<;>first
  | exact TN a
  | (cases u<;>first
    | exact TN a
    | (refine Tx (wpAny_load d ?_)
       rw [hc,hd]
       show Ua M A (if (["enumerate","zip","dict_itemiterator","dict_reverseitemiterator","odict_iterator","itertools.zip_longest","itertools.pairwise"].contains n&&vs[0]? == some (Wq _))=true then _ else _) Q E s
       rw [if_neg (by intro h;rw [c,a2c] at h;cases h)]
       exact TN a))
noncomputable def uS (K:Tv)(a:Addr):It:=
 ⟨fun i H=>∃ b x,SqL K H a b/\b[i]? = some x,fun i H x c=>c=H/\∀ b,SqL K H a b->b[i]? = some x,fun i H=>∃ b,SqL K H a b/\b.length<=i⟩
noncomputable def uT (K:Tv)(a:Addr):It:=
 ⟨fun i H=>∃ b x,SqT K H a b/\b[i]? = some x,fun i H x c=>c=H/\∀ b,SqT K H a b->b[i]? = some x,fun i H=>∃ b,SqT K H a b/\b.length<=i⟩
noncomputable def kL (lo:Int)(n:Nat):It:=⟨fun i _=>i<n,fun i H x H'=>H'=H/\x=.int (lo+i),fun i _=>n<=i⟩
theorem G0 {P:Ud}{w:Uv}{K:Tv}{tg:Expr}(a l:Addr):Turn Qc P w K tg (uS K a) [l] l (fun i h=>h.IsListIter l a i) where
 mem:=by simp
 obj:=fun i h st b j=>by
  have e:b=l:=by simpa using j
  subst e
  obtain ⟨o,e,c,d⟩:=st
  exact ⟨o,e,fun v z=>by rw [d] at z;cases z⟩
 keep:=fun i h q st k=>st.at fun o e=>k l (by simp) o e
 item:=by
  intro X N hw M hc i m s U H E I r st O
  subst N hw M
  obtain ⟨xs,x,y,Q⟩:=O
  obtain ⟨R,T,p,hz⟩:=I.list y
  obtain ⟨u,hu,ru⟩:=T.get Q
  obtain ⟨A,B,f2,G,J,L⟩:=r l (by simp)
  refine a0W st p.isList (x:=u) (by simpa using hu) fun q n sb=>?_
  have Y:Inv X m U H { s with heap:=q }:=I.turned (t':=s.toks) (fun b o j e=>(sb.2 b j).trans e) A B G J L
  obtain ⟨o,e,c,d⟩:=id n
  exact ⟨u,rfl,o7 (s:={ s with heap:=q }) e c d (by decide) ⟨x,H,Y,ru,⟨rfl,fun ys hy=>by rw [I.list_inj hy y];exact Q⟩,n,fun b j=>(r b j).1⟩⟩
 done:=by
  intro X N hw M hc i m s U H E I r st O
  subst N hw M
  obtain ⟨xs,y,Q⟩:=O
  obtain ⟨R,T,p,hz⟩:=I.list y
  obtain ⟨A,B,f2,G,J,L⟩:=r l (by simp)
  have hl:=T.length
  exact a1t (I.ok.hd hc) st p.isList (by simp;omega) fun q Z=>⟨rfl,I.turned (t':=s.toks) (fun b o j e=>Z b o j e) A B G J L⟩
 self:=fun _ _ _ _ _ st h=>wpAny_pyIter_listiter st h
theorem G1 {P:Ud}{w:Uv}{K:Tv}{tg:Expr}(a l:Addr):Turn Qc P w K tg (uT K a) [l] l (fun i h=>h.IsTupleIter l a i) where
 mem:=by simp
 obj:=fun i h st b j=>by
  have e:b=l:=by simpa using j
  subst e
  obtain ⟨o,e,c,d⟩:=st
  exact ⟨o,e,fun v z=>by rw [d] at z;cases z⟩
 keep:=fun i h r st k=>st.at fun o e=>k l (by simp) o e
 item:=by
  intro X O hw N hc i n s U H E I y st Q
  subst O hw N
  obtain ⟨xs,x,A,R⟩:=Q
  obtain ⟨m,T,p,hz⟩:=I.tuple A
  obtain ⟨u,hu,ru⟩:=T.get R
  obtain ⟨B,G,f2,J,L,M⟩:=y l (by simp)
  refine wpAny_pyNext_tuple_item st (show s.heap.IsTuple a m.toArray from p) (x:=u) (by simpa using hu) fun r q sb=>?_
  have Y:Inv X n U H { s with heap:=r }:=I.turned (t':=s.toks) (fun b o j e=>(sb.2 b j).trans e) B G J L M
  obtain ⟨o,e,c,d⟩:=id q
  exact ⟨u,rfl,o7 (s:={ s with heap:=r }) e c d (by decide) ⟨x,H,Y,ru,⟨rfl,fun ys hy=>by rw [I.tuple_inj hy A];exact R⟩,q,fun b j=>(y b j).1⟩⟩
 done:=by
  intro X O hw N hc i n s U H E I y st Q
  subst O hw N
  obtain ⟨xs,A,R⟩:=Q
  obtain ⟨m,T,p,hz⟩:=I.tuple A
  obtain ⟨B,G,f2,J,L,M⟩:=y l (by simp)
  have hl:=T.length
  exact wpAny_pyNext_tuple_end (I.ok.hd hc) st (show s.heap.IsTuple a m.toArray from p) (by simp;omega) fun r Z=>⟨rfl,I.turned (t':=s.toks) (fun b o j e=>Z b o j e) B G J L M⟩
 self:=fun _ _ _ _ _ st h=>wpAny_pyIter_tupleiter st h
theorem Av {P:Ud}{w:Uv}{K:Tv}{tg:Expr}(a:Addr)(lo:Int)(n:Nat):Turn Qc P w K tg (kL lo n) [a] a (fun i h=>XN h a (lo+(i:Nat) * 1) ((n:Int) - (i:Nat)) 1) where
 mem:=by simp
 obj:=fun i h st b c=>by
  have e:b=a:=by simpa using c
  subst e
  exact ⟨_,st,fun v z=>by
   have R:T7 _=Z3 v:=z
   cases R⟩
 keep:=fun i h l st k=>k a (by simp) _ st
 item:=by
  intro X A hw y hc i d s J H E I m st B
  subst A hw y
  obtain ⟨p,q,N,r,u,x⟩:=m a (by simp)
  have W:=a2B (prog:=X.prog) (w:=X.w) (I.ok.hd hc) a lo 1 n
  refine W.item i s _ _ B st fun v l G O j Q=>?_
  obtain ⟨t,rfl⟩:=O
  have L:Inv X d J H { s with heap:=l,toks:=G }:=I.turned (fun b o c e=>Q b o (by simpa using c) e) p q r u x
  refine ⟨_,rfl,o7 (s:={ s with heap:=l,toks:=G }) (n:="range_iterator") j rfl rfl (by decide) ⟨.int (lo+i),H,L,⟨t,?_⟩,⟨rfl,rfl⟩,j,fun b c=>(m b c).1⟩⟩
  rw [Int.mul_one]
 done:=by
  intro X A hw y hc i d s J H E I m st B
  subst A hw y
  obtain ⟨p,q,N,r,u,x⟩:=m a (by simp)
  exact a0V (I.ok.hd hc) st (by have:n<=i:=B;omega) fun l M=>⟨rfl,I.turned (t':=s.toks) (fun b o c e=>M b o c e) p q r u x⟩
 self:=fun _ _ _ _ _ st h=>a0X st h
end L2
namespace L2
open PySem PySem.Spec PyProof.Rows
section
variable {X:Cx}{tg:Expr}
theorem Aw {q:Cx->Prop}(tr:∀ (d:Addr)(lo:Int)(n:Nat),Turn q X.prog X.w X.K tg (kL lo n) [d] d (fun i h=>XN h d (lo+(i:Nat) * 1) ((n:Int) - (i:Nat)) 1)){a3F:List (Addr×Obj)}{σ:St}{H:Hp}{s:TC}{R:It->Hp->Prop}{E:Value->TC->Prop}{lo a:Int}{t u v:Tok}{tk:Nat}(I:Inv X a3F σ H s)(m:-(2 ^ 62)<=lo)(p:lo<2 ^ 62)(r:-(2 ^ 62)<=a)(w:a<2 ^ 62)
  (x:R (kL lo (a - lo).toNat) H):Ua (Ul X.prog X.w) X.A (ZF (.ref s.heap.objs.size)) (rJ q X a3F σ tg R) E { s with heap:=s.heap.push { cls:=.type "range",data:=.fields #[.int lo t,.int a u,.int 1 v] },toks:=tk }:=by
 refine a2e (a2a ..) (small_one m p r w) ?_
 have c:Inv X a3F σ H { s with heap:=s.heap.push { cls:=.type "range",data:=.fields #[.int lo t,.int a u,.int 1 v] },toks:=tk }:=I.kept fun b o e=>TL _ e
 refine ⟨(s.heap.push { cls:=.type "range",data:=.fields #[.int lo t,.int a u,.int 1 v] }).objs.size,[(s.heap.push { cls:=.type "range",data:=.fields #[.int lo t,.int a u,.int 1 v] }).objs.size],_,_,H,rfl,
  c.kept (t':=tk) fun b o e=>TL _ e,tr _ lo (a - lo).toNat,?_,fun b y=>?_,x⟩
 ·have j:lo+((0:Nat):Int) * 1=lo:=by simp
  have l:(((a - lo).toNat:Nat):Int) - ((0:Nat):Int)=UL lo a 1:=by rw [rangeSize_one];split<;>omega
  show XN _ _ (lo+((0:Nat):Int) * 1) ((((a - lo).toNat:Nat):Int) - ((0:Nat):Int)) 1
  rw [j,l]
  exact Ub _ rfl
 ·have e:b=(s.heap.push { cls:=.type "range",data:=.fields #[.int lo t,.int a u,.int 1 v] }).objs.size:=by simpa using y
  subst e
  exact c.fpOk (TR _) (c.hok.fresh (TR _))
noncomputable def G3 (b:TA):TI:=fun σ H R=>b σ H fun vs a=>∃ j:Int,vs=[.int j]/\-(2 ^ 62)<=j/\j<2 ^ 62/\R (kL 0 j.toNat) a
noncomputable def G4 (b:TA):TI:=fun σ H R=>b σ H fun vs a=>∃ i j:Int,vs=[.int i,.int j]/\(-(2 ^ 62)<=i/\i<2 ^ 62/\-(2 ^ 62)<=j/\j<2 ^ 62)/\R (kL i (j - i).toNat) a
theorem G5 {q:Cx->Prop}(tr:∀ (c:Addr)(lo:Int)(n:Nat),Turn q X.prog X.w X.K tg (kL lo n) [c] c (fun i h=>XN h c (lo+(i:Nat) * 1) ((n:Int) - (i:Nat)) 1)){a:Expr}{l:TA}{p pos:Vt}(u:Gl X "range") (v:X.mg "range" = none) (o:PA X [a] l)(w:Ue [a] X.env=[(false,eval a X.env)]:=by rfl):o6 q X tg (.Call (.Name "range" p) [a] [] pos) (G3 l):=by
 intro b s B H R I h
 refine Call_ (gP I u v a2j (VB (aN (o pos b s B H _ I h) fun J G ⟨K,E,m,z,d⟩=>?_) w rfl))
 obtain ⟨j,e,d,x,y⟩:=d
 subst e
 cases z with
 | cons r A=>
  cases A
  obtain ⟨t,rfl⟩:=r
  exact call_range_1 (Aw tr m (by omega) (by omega) d x (by simpa using y))
theorem G6 {a b:Expr}{n:TA}{p pos:Vt}(v:Gl X "range") (w:X.mg "range" = none) (u:PA X [a,b] n)(x:Ue [a,b] X.env=[(false,eval a X.env),(false,eval b X.env)]:=by rfl)(c:Ue [b] X.env=[(false,eval b X.env)]:=by rfl) :
  PI X tg (.Call (.Name "range" p) [a,b] [] pos) (G4 n):=by
 intro d s G H R I h
 refine Call_ (gP I v w a2j (VB (aN (u pos d s G H _ I h) fun M K ⟨N,J,o,E,l⟩=>?_) (by rw [x,c]) (by rw [c];rfl)))
 obtain ⟨i,j,e,⟨l,y,z,A⟩,q⟩:=l
 subst e
 cases E with
 | cons r m=>
  cases m with
  | cons B m=>
   cases m
   obtain ⟨t,rfl⟩:=r
   obtain ⟨L,rfl⟩:=B
   exact call_range_2 (Aw Av o l y z A q)
noncomputable def G7 (l:TI)(g:TG)(j:TS):TS:=fun D σ H=>l σ H fun J e=>∃ W:Nat->Nat->St->Hp->Prop,(∃ m,W 0 m σ e)/\∀ i m σ H,W i m σ H->
 (J.stop i H/\D.nx σ H)\/(J.go i H/\∃ N:St->Hp->Prop,(∀ b a,N b a->∃ d,d<m/\W (i+1) d b a)/\∀ x a,J.yld i H x a->g x σ a fun c h=>j { D with nx:=N,ct:=N,bk:=D.nx } c h)
noncomputable def o8 (a:List Addr)(h:UU):List (Addr×Obj):=a.filterMap fun b=>(h.get? b).map fun o=>(b,o)
theorem rK {a:List Addr}{h:UU}{b:Addr}{o:Obj}(c:b∈a)(e:h.get? b=some o):(b,o)∈o8 a h:=YK.mpr ⟨b,c,by rw [e];rfl⟩
theorem G8 {a:List Addr}{h:UU}{p:Addr×Obj}(i:p∈o8 a h):p.1∈a/\h.get? p.1=some p.2:=by
 obtain ⟨b,d,e⟩:=YK.mp i
 cases q:h.get? b with
 | none=>rw [q] at e;cases e
 | some o=>
  rw [q] at e
  have c:(b,o)=p:=T5 e
  subst c
  exact ⟨d,q⟩
theorem Inv.pinned {a3F:List (Addr×Obj)}{σ:St}{H:Hp}{s:TC}{a:List Addr}(I:Inv X a3F σ H s)(m:∀ b∈a,gQ X a3F H b)(n:∀ b∈a,∃ o,s.heap.get? b=some o/\∀ v,o.data≠.cell v):Inv X (a3F++o8 a s.heap) σ H s:=
 I.pins_of fun p q=>(Vp.mp q).elim (fun z=>I.pin p (Vg _ z)) fun z=>by
  obtain ⟨h,e⟩:=G8 z
  obtain ⟨i,j,l,_⟩:=m p.1 h
  obtain ⟨o,c,d⟩:=n p.1 h
  rw [e] at c;cases c
  exact ⟨e,i,j,l,d⟩
theorem Inv.unpinned {a3F pl:List (Addr×Obj)}{σ:St}{H:Hp}{s:TC}(I:Inv X (a3F++pl) σ H s):Inv X a3F σ H s:=I.pins_of fun p a=>I.pin p (Vg _ (a0B _ a))
theorem G9 {iter:Expr}{body:List Stmt}{wi:TI}{g:TG}{tb:TS}{pos:Vt}(K:ZM (Ul X.prog X.w) X.A X.env X.xe)(hc:X.calm=true)(hi:PI X tg iter wi)(hg:PG X tg g)(q:PSs X body tb)
  (hs:∀ x,WH iter X.env x=pure x:=by intro _;rfl):PS X (.For tg iter body [] pos) (G7 wi g tb):=by
 intro c s σ H D I h
 refine wpAny_For (aN (hi c s σ H _ I h) fun v s1 h1=>aN h1 fun itv s2 h2=>?_) hs
 obtain ⟨it,E,tn,J,H2,e,I2,T,st2,f2,W,⟨m0,w0⟩,Q⟩:=h2
 subst e
  -- what stays true of the iterator's objects through the loop
 have w:∀ {H':Hp},(∀ b∈E,H' b=none)->∀ b∈E,gQ X c H' b:=fun hn b q=>⟨hn b q,(f2 b q).2⟩
 refine codeAny_forLoop_any (fun n s'=>∃ i y H',Inv X c y H' s'/\tn i s'.heap/\(∀ b∈E,H' b=none)/\W i n y H') ?_ m0 ⟨0,σ,H2,I2,st2,fun b q=>(f2 b q).1,w0⟩
 rintro n s3 ⟨i,z,R,I3,M,G,w3⟩
 rcases Q i n z R w3 with ⟨O,qn⟩|⟨go,N,hN,step⟩
 ·refine Wz K (aN (T.done X rfl rfl rfl hc i c s3 z R X.xe I3 (w G) M O) fun r s4 ⟨Z,I4⟩=>?_)
  subst Z
  exact XS ⟨z,R,I4,qn⟩
 ·refine Wz K (aN (T.item X rfl rfl rfl hc i c s3 z R X.xe I3 (w G) M go) fun r s4 ⟨u,Z,h4⟩=>?_)
  subst Z
  refine Wz K (aN h4 fun _ s5 ⟨x,H5,I5,r5,y5,B,Y⟩=>?_)
  have U:=I5.pinned (w Y) (T.obj _ _ B)
  refine Wz K (aN (hg _ s5 z H5 x u _ U r5 (step x H5 y5)) fun _ s6 ⟨σ6,H6,I6,q6⟩=>?_)
  refine Wz K (aN (q _ s6 σ6 H6 _ I6 q6) fun f s7 A=>?_)
  have p:∀ {a:St}{j:Hp},Inv X (c++o8 E s5.heap) a j s7->N a j->∃ m,m<n/\∃ i y H',Inv X c y H' s7/\tn i s7.heap/\(∀ b∈E,H' b=none)/\W i m y H':=fun {a j} l L=>by
   obtain ⟨m',hm,w7⟩:=hN a j L
   refine ⟨m',hm,i+1,a,j,l.unpinned,T.keep _ _ _ B fun b q o e=>(l.pin (b,o) (Vg _ (Vg _ (rK q e)))).1,fun b q=>?_,w7⟩
   obtain ⟨o,e,d⟩:=T.obj _ _ B b q
   exact (l.pin (b,o) (Vg _ (Vg _ (rK q e)))).2.1
  cases f with
  | next=>obtain ⟨a,j,l,L⟩:=A;exact p l L
  | cont=>obtain ⟨a,j,l,L⟩:=A;exact p l L
  | brk=>obtain ⟨a,j,l,A⟩:=A;exact ⟨a,j,l.unpinned,A⟩
  | ret v=>obtain ⟨x7,a,j,l,r7,A⟩:=A;exact ⟨x7,a,j,l.unpinned,r7,A⟩
end
end L2
namespace L2
open PySem PySem.Spec PyProof.Rows
noncomputable abbrev R2:=V->V->Hp->VK->Prop
noncomputable def OpR (X:Cx)(f:Value->Value->a1x Value)(r:R2):Prop:=
 ∀ (a3F:List (Addr×Obj))(s:TC)(σ:St)(H:Hp)(x y:V)(v u:Value)(Q:VK),Inv X a3F σ H s->RelV x v->RelV y u->r x y H Q->
  Ua (Ul X.prog X.w) X.A (f v u) (EP X a3F σ Q) X.xe s
noncomputable def uU (X:Cx)(f:Value->a1x Value)(r:V->Hp->VK->Prop):Prop:=
 ∀ (a3F:List (Addr×Obj))(s:TC)(σ:St)(H:Hp)(x:V)(v:Value)(Q:VK),Inv X a3F σ H s->RelV x v->r x H Q->
  Ua (Ul X.prog X.w) X.A (f v) (EP X a3F σ Q) X.xe s
noncomputable def CallR (X:Cx)(f:Value)(r:List V->Hp->VK->Prop):Prop:=
 ∀ (a3F:List (Addr×Obj))(s:TC)(σ:St)(H:Hp)(xs:List V)(us:List Value)(Q:VK),Inv X a3F σ H s->Vals xs us->r xs H Q->
  Ua (Ul X.prog X.w) X.A (call f us) (EP X a3F σ Q) X.xe s
noncomputable def Ha (X:Cx)(r:V->Hp->(Bool->Hp->Prop)->Prop):Prop:=
 ∀ (a3F:List (Addr×Obj))(s:TC)(σ:St)(H:Hp)(x:V)(v:Value)(Q:Bool->Hp->Prop),Inv X a3F σ H s->RelV x v->r x H Q->
  Ua (Ul X.prog X.w) X.A (truthy v) (TP X a3F σ Q) X.xe s
noncomputable def o9 (r:R2)(c d:TE):TE:=fun σ H Q=>c σ H fun x a=>d σ a fun y b=>r x y b Q
noncomputable def Hb (r:V->Hp->VK->Prop)(b:TE):TE:=fun σ H Q=>b σ H fun x a=>r x a Q
noncomputable def rI (C:Int->Int->Prop)(g:Int->Int->V):R2:=fun x y H Q=>∃ i j,x=.int i/\y=.int j/\C i j/\Q (g i j) H
noncomputable def fZ (g:Int->Int->V):R2:=fun x y H Q=>∃ i j,x=.int i/\y=.int j/\Q (g i j) H
noncomputable def rU (g:Int->V):V->Hp->VK->Prop:=fun x H Q=>∃ i,x=.int i/\Q (g i) H
section
variable {X:Cx}{a b c:Expr}{ta tb tc:TE}{pos:Vt}
theorem uV (o:PE X a ta)(p:PE X b tb){a3F:List (Addr×Obj)}{s:TC}{σ:St}{H:Hp}{R:V->V->Hp->Prop}(I:Inv X a3F σ H s)
  (h:ta σ H fun x l=>tb σ l fun y d=>R x y d){Q:Value->TC->Prop}{f:Value->Value->a1x Value}
  (q:∀ v u j x y d,Inv X a3F σ d j->RelV x v->RelV y u->R x y d->Ua (Ul X.prog X.w) X.A (f v u) Q X.xe j) :
  Ua (Ul X.prog X.w) X.A (eval a X.env) (fun v e=>Ua (Ul X.prog X.w) X.A (eval b X.env) (fun u i=>Ua (Ul X.prog X.w) X.A (f v u) Q X.xe i) X.xe e) X.xe s:=by
 refine aN (o a3F s σ H _ I h) fun v B ⟨x,l,m,z,r⟩=>?_
 refine aN (p a3F B σ l _ m r) fun u j ⟨y,d,n,A,w⟩=>?_
 exact q v u j x y d n z A w
theorem Hc {op:a0n}{r:R2}(m:OpR X (WM op) r)(j:PE X a ta)(l:PE X b tb):PE X (.BinOp a op b pos) (o9 r ta tb):=by
 intro d s w H Q I h
 exact wpAny_BinOp (uV j l I h fun v u p x y e i n o q=>m d p w e x y v u Q i n o q)
theorem Hd {op:UnaryOp}{r:V->Hp->VK->Prop}(m:uU X (unaryOp op) r)(l:PE X a ta):PE X (.UnaryOp op a pos) (Hb r ta):=by
 intro d s e H Q I h
 exact UnaryOp_ (aN (l d s e H _ I h) fun v p ⟨x,i,j,o,n⟩=>m d p e i x v Q j o n)
theorem rL {f:Value->Value->a1x Value}{C:Int->Int->Prop}{g:Int->Int->Int}
  (d:∀ (i j:Int)(t u:Tok)(s:TC)(Q:Value->TC->Prop)(E:Value->TC->Prop),C i j->Q (.int (g i j) s.toks) { s with toks:=s.toks+1 }->Ua (Ul X.prog X.w) X.A (f (.int i t) (.int j u)) Q E s) :
  OpR X f (rI C fun i j=>.int (g i j)):=by
 intro e s o H x y v u Q I l m h
 obtain ⟨i,j,rfl,rfl,hc,q⟩:=h
 obtain ⟨t,rfl⟩:=l
 obtain ⟨n,rfl⟩:=m
 exact d i j t n s _ _ hc ⟨.int (g i j),H,I.tok _,⟨_,rfl⟩,q⟩
theorem Ax {f:Value->Value->a1x Value}{g:Int->Int->Int}
  (d:∀ (i j:Int)(t u:Tok)(s:TC)(Q:Value->TC->Prop)(E:Value->TC->Prop),Q (.int (g i j) s.toks) { s with toks:=s.toks+1 }->Ua (Ul X.prog X.w) X.A (f (.int i t) (.int j u)) Q E s) :
  OpR X f (fZ fun i j=>.int (g i j)):=by
 intro e s o H x y v u Q I l m h
 obtain ⟨i,j,rfl,rfl,q⟩:=h
 obtain ⟨t,rfl⟩:=l
 obtain ⟨n,rfl⟩:=m
 exact d i j t n s _ _ ⟨.int (g i j),H,I.tok _,⟨_,rfl⟩,q⟩
theorem rM {f:Value->Value->a1x Value}{g:Int->Int->Bool}
  (d:∀ (i j:Int)(t u:Tok)(s:TC)(Q:Value->TC->Prop)(E:Value->TC->Prop),Q (.bool (g i j)) s->Ua (Ul X.prog X.w) X.A (f (.int i t) (.int j u)) Q E s) :
  OpR X f (fZ fun i j=>.bl (g i j)):=by
 intro e s o H x y v u Q I l m h
 obtain ⟨i,j,rfl,rfl,q⟩:=h
 obtain ⟨t,rfl⟩:=l
 obtain ⟨n,rfl⟩:=m
 exact d i j t n s _ _ ⟨.bl (g i j),H,I,rfl,q⟩
noncomputable def He (i j:Int):Prop:=0<=j/\j<=1000000/\i.natAbs<2 ^ 64
noncomputable def CMul (i j:Int):Prop:=(-(2 ^ 64)<i/\i<2 ^ 64)\/(-(2 ^ 64)<j/\j<2 ^ 64)
theorem CMul.ok {i j:Int}(h:CMul i j):a1U i j:=by
 rcases h with ⟨d,e⟩|⟨d,e⟩
 ·exact .of_left (intBits_le_64 d e)
 ·exact .of_right (intBits_le_64 d e)
theorem op_add:OpR X (WM .Add) (fZ fun i j=>.int (i+j)):=Ax fun _ _ _ _ _ _ _ q=>add_int q
theorem Hf:OpR X (WM .Sub) (fZ fun i j=>.int (i - j)):=Ax fun _ _ _ _ _ _ _ q=>sub_int q
theorem Hg:OpR X (WM .Mod) (rI (fun _ j=>0<j) fun i j=>.int (i % j)):=rL fun i j _ _ _ _ _ hc q=>by
 have d:(0:Int)<j:=hc
 exact mod_int' (by omega) (by rw [Int.fmod_eq_emod_of_nonneg i (by omega)];exact q)
theorem rN {f:Value->a1x Value}{g:Int->Int}
  (d:∀ (i:Int)(t:Tok)(s:TC)(Q:Value->TC->Prop)(E:Value->TC->Prop),Q (.int (g i) s.toks) { s with toks:=s.toks+1 }->Ua (Ul X.prog X.w) X.A (f (.int i t)) Q E s) :
  uU X f (rU fun i=>.int (g i)):=by
 intro e s l H x v Q I j h
 obtain ⟨i,rfl,q⟩:=h
 obtain ⟨t,rfl⟩:=j
 exact d i t s _ _ ⟨.int (g i),H,I.tok _,⟨_,rfl⟩,q⟩
theorem Hh:uU X (unaryOp .USub) (rU fun i=>.int (-i)):=rN fun _ _ _ _ _ q=>neg_int q
end
section
variable {X:Cx}{a b c:Expr}{ta tb tc:TE}{pos:Vt}
theorem lU {a3F:List (Addr×Obj)}{σ:St}{H:Hp}{s:TC}{Q:VK}{k k':Bool}(I:Inv X a3F σ H s)(q:Q (.bl k) H)(e:k=k'):EP X a3F σ Q (.bool k') s:=by
 subst e
 exact ⟨.bl k,H,I,rfl,q⟩
theorem uW:OpR X (UY .Lt) (fZ fun i j=>.bl (decide (i<j))):=rM fun _ _ _ _ _ _ _ q=>lt_int q
theorem uX:OpR X (UY .LtE) (fZ fun i j=>.bl (decide (i<=j))):=rM fun _ _ _ _ _ _ _ q=>le_int q
theorem uY:OpR X (UY .Gt) (fZ fun i j=>.bl (decide (j<i))):=rM fun _ _ _ _ _ _ _ q=>gt_int q
theorem uZ:OpR X (UY .GtE) (fZ fun i j=>.bl (decide (j<=i))):=rM fun _ _ _ _ _ _ _ q=>ge_int q
theorem Ay:OpR X (UY .In) (fun x y H Q=>∃ i j,x=.str i/\y=.str j/\Q (.bl (!(Vr j i 0 j.length 1).isEmpty)) H):=by
 intro d s n H x y v u Q I e l h
 obtain ⟨i,j,rfl,rfl,q⟩:=h
 obtain ⟨t,rfl⟩:=e
 obtain ⟨m,rfl⟩:=l
 exact in_str (lU I q rfl)
theorem Az:OpR X (UY .Is) (fun x y H Q=>y=.non/\Q (.bl (decide (x=.non))) H):=by
 intro e s j H x y v u Q I d i h
 obtain ⟨rfl,q⟩:=h
 cases i
 refine is_none_gen (lU I q ?_)
 cases x<;>first
  | (cases d;rfl)
  | (obtain ⟨t,rfl⟩:=d;rfl)
theorem AA:OpR X (UY .IsNot) (fun x y H Q=>y=.non/\Q (.bl (!decide (x=.non))) H):=by
 intro e s j H x y v u Q I d i h
 obtain ⟨rfl,q⟩:=h
 cases i
 refine isnot_none_gen (lU I q ?_)
 cases x<;>first
  | (cases d;rfl)
  | (obtain ⟨t,rfl⟩:=d;rfl)
theorem OpR.or {f:Value->Value->a1x Value}{r e:R2}(h:OpR X f r)(h':OpR X f e):OpR X f (fun x y H Q=>r x y H Q\/e x y H Q):=by
 intro d s l H x y v u Q I i j q
 rcases q with q|q
 ·exact h d s l H x y v u Q I i j q
 ·exact h' d s l H x y v u Q I i j q
theorem cV (b:Expr){op:W2}(h:op≠.In:=by decide)(i:op≠.NotIn:=by decide):WC op b=false:=by
 have d:(op == CmpOp.In)=false:=by cases op<;>first|rfl|exact absurd rfl h
 have e:(op == CmpOp.NotIn)=false:=by cases op<;>first|rfl|exact absurd rfl i
 cases b<;>simp [WC,d,e]
theorem Hi {op:W2}{r:R2}(n:OpR X (UY op) r)(j:PE X a ta)(l:PE X b tb)(m:WC op b=false):PE X (.Compare a [op] [b] pos) (o9 r ta tb):=by
 intro d s z H Q I h
 exact wpAny_Compare1 (uV j l I h fun v u w x y e i o p q=>n d w z e x y v u Q i o p q) m
noncomputable def AB (t:TE):TT:=fun σ H Q=>t σ H fun x H'=>∃ k,x=.bl k/\Q k H'
theorem Hj {op:W2}{r:R2}(B:OpR X (UY op) r)(q:PE X a ta)(w:PE X b tb)(A:WC op b=false):PT X (.Compare a [op] [b] pos) (AB (o9 r ta tb)):=by
 intro d s i H Q I h
 refine wpAny_isTrue_Compare1 (aN (q d s i H _ I h) fun v N ⟨x,j,n,K,E⟩=>aN (w d N i j _ n E) fun u O ⟨y,l,o,L,G⟩=>
  aN (B d O i l x y v u _ o K L G) fun c R ⟨z,m,p,M,k,e,J⟩=>?_) A
 subst e
 cases M
 exact VO ⟨m,p,J⟩
noncomputable def u3 (r j:R2)(ta tb tc:TE):TE:=fun σ H Q=>ta σ H fun x e=>tb σ e fun y h=>r x y h fun z d=>∃ k,z=.bl k /\
 (if k=true then tc σ d fun l i=>j y l i Q else Q (.bl false) d)
theorem Hk {op j:W2}{r q:R2}(O:OpR X (UY op) r)(m:OpR X (UY j) q)(L:PE X a ta)(M:PE X b tb)(hc:PE X c tc)
  (N:a2I [op,j] [b,c]=false:=by with_unfolding_all rfl):PE X (.Compare a [op,j] [b,c] pos) (u3 r q ta tb tc):=by
 intro i s l H Q I h
 refine Compare_chain (aN (L i s l H _ I h) fun v s1 ⟨x,A,G,Y,R⟩=>chain_link (aN (M i s1 l A _ G R) fun u s2 ⟨y,B,J,w,T⟩=>
  aN (O i s2 l B x y v u _ J Y w T) fun d s3 ⟨z,n,o,Z,k,e,p⟩=>?_)) N
 subst e
 cases Z
 refine VO ?_
 cases k with
 | false=>exact ite_ff ⟨.bl false,n,o,rfl,p⟩
 | true=>exact ite_tt (chain_last (aN (hc i s3 l n _ o p) fun w' s4 ⟨z',E,K,r4,U⟩=>m i s4 l E y z' u w' Q K w r4 U))
theorem Hl {op j:W2}{r q:R2}(Y:OpR X (UY op) r)(m:OpR X (UY j) q)(R:PE X a ta)(T:PE X b tb)(hc:PE X c tc)
  (U:a2I [op,j] [b,c]=false:=by with_unfolding_all rfl):PT X (.Compare a [op,j] [b,c] pos) (AB (u3 r q ta tb tc)):=by
 intro i s l H Q I h
 refine isTrue_chain (aN (R i s l H _ I h) fun v s1 ⟨x,A,J,r1,q1⟩=>test_link (aN (T i s1 l A _ J q1) fun u s2 ⟨y,B,K,w,q2⟩=>
  aN (Y i s2 l B x y v u _ K r1 w q2) fun d s3 ⟨z,n,o,r3,k,e,p⟩=>?_)) U
 subst e
 cases r3
 refine VO ?_
 cases k with
 | false=>
  obtain ⟨k',N,Z⟩:=p
  cases N
  exact ite_ff ⟨n,o,Z⟩
 | true=>
  refine ite_tt (test_last (aN (hc i s3 l n _ o p) fun w' s4 ⟨z',E,L,r4,q4⟩=>aN (m i s4 l E y z' u w' _ L w r4 q4) fun d' s5 ⟨z2,G,M,r5,k2,O,q5⟩=>?_))
  subst O
  cases r5
  exact VO ⟨G,M,q5⟩
noncomputable def u4 (K:Tv)(x:V)(H:Hp)(k:Bool):Prop:=
 match x with
 | .non=>k=false
 | .bl b=>k=b
 | .int i=>k=(i != 0)
 | .str y=>y.length<=TZ/\k=((y.length:Int) != 0)
 | .byt y=>y.size<=TZ/\k=((y.size:Int) != 0)
 | .ref p=>(∃ e,SqL K H p e/\k = !e.isEmpty)\/(∃ e,SqT K H p e/\k = !e.isEmpty)\/∃ d,H p=some (.dK d)/\k = !d.isEmpty
 | _=>False
theorem Hn {e:Type}{d:List (e×V)}{vs:List (e×Value)}(r:KV d vs):(!vs.isEmpty) = !d.isEmpty:=by
 cases r<;>rfl
theorem AD {xs:List V}{its:List Value}(r:Vals xs its):(!its.toArray.isEmpty) = !xs.isEmpty:=by
 cases r<;>simp
theorem m4:(TZ:Nat)<2 ^ 63:=by rw [UW];decide
theorem Ho:Ha X (fun x H Q=>∃ k,u4 X.K x H k/\Q k H):=by
 intro E s M H x v Q I o h
 obtain ⟨k,e,q⟩:=h
 have K:=m4
 have L:TZ=16777216:=UW
 cases x with
 | non=>
  cases o
  have d:k=false:=e
  subst d
  exact truthy_none ⟨H,I,q⟩
 | bl b=>
  cases o
  have d:k=b:=e
  subst d
  exact VO ⟨H,I,q⟩
 | int i=>
  obtain ⟨t,rfl⟩:=o
  have d:k=(i != 0):=e
  subst d
  exact PySem.P.truthy_int ⟨H,I,q⟩
 | str y=>
  obtain ⟨t,rfl⟩:=o
  obtain ⟨J,d⟩:y.length<=TZ/\k=((y.length:Int) != 0):=e
  subst d
  exact PySem.P.truthy_str (by omega) ⟨H,I.tok _,q⟩
 | byt y=>
  obtain ⟨t,rfl⟩:=o
  obtain ⟨J,d⟩:y.size<=TZ/\k=((y.size:Int) != 0):=e
  subst d
  exact PySem.W.truthy_bytes (by omega) ⟨H,I.tok _,q⟩
 | ref p=>
  cases o
  have d:(∃ n,SqL X.K H p n/\k = !n.isEmpty)\/(∃ n,SqT X.K H p n/\k = !n.isEmpty)\/∃ j,H p=some (.dK j)/\k = !j.isEmpty:=e
  rcases d with ⟨n,u,d⟩|⟨n,u,d⟩|⟨j,u,d⟩
  ·subst d
   obtain ⟨z,r,A,B⟩:=I.list u
   have l:=r.length
   exact wpAny_truthy_list A.isList (by simp only [Up];omega) ⟨H,I.tok _,by rw [AD r];exact q⟩
  ·subst d
   obtain ⟨z,r,A,B⟩:=I.tuple u
   have l:=r.length
   exact truthy_tuple A (by simp only [Up];omega) ⟨H,I.tok _,by rw [AD r];exact q⟩
  ·subst d
   obtain ⟨B,G,w,r,m⟩:j.length<=TZ/\(p == Ve)=false/\∃ w,KV j w/\s.heap.DictOf (lT X.prog X.w) p w:=I.hok p _ u
   have l:j.length=w.length:=Zz r
   exact wpAny_truthy_dict G m (by omega) ⟨H,I.tok _,by rw [Hn r];exact q⟩
 | _=>exact (show False from e).elim
theorem Hq (n:PE X a ta)(o:∀ d,ZH a X.env d=(do let v <- d;Zo a.pos;holding [v] (truthy v))) :
  PT X a (fun i H Q=>ta i H fun x j=>∃ k,u4 X.K x j k/\Q k j):=by
 intro e s i H Q I h
 exact isTrue_plain (aN (n e s i H _ I h) fun v r ⟨x,l,m,q,p⟩=>Ho e r i l x v Q m q p) (o _)
theorem op_add_str:OpR X (WM .Add) (fun x y H Q=>∃ i j,x=.str i/\y=.str j/\i.length+j.length<=TZ/\Q (.str (i++j)) H):=by
 intro d s p H x y v u Q I l m h
 obtain ⟨i,j,rfl,rfl,e,q⟩:=h
 obtain ⟨t,rfl⟩:=l
 obtain ⟨n,rfl⟩:=m
 exact add_str (fun n o=>⟨.str (i++j),H,I.tok _,⟨_,rfl⟩,q⟩) e
theorem iX {x:V}{us:List Value}(r:Vals [x] us):∃ u,us=[u]/\RelV x u:=by
 cases r with
 | cons d e=>cases e;exact ⟨_,rfl,d⟩
theorem u5 {x y:V}{us:List Value}(r:Vals [x,y] us):∃ u d,us=[u,d]/\RelV x u/\RelV y d:=by
 cases r with
 | cons e h=>
  cases h with
  | cons i j=>cases j;exact ⟨_,_,rfl,e,i⟩
theorem Hr (hc:X.calm=true):CallR X (.builtin "max") (fun xs H Q=>∃ i j,xs=[.int i,.int j]/\Q (.int (if j>i then j else i)) H):=by
 intro e s v H xs o Q I r h
 obtain ⟨i,j,rfl,q⟩:=h
 obtain ⟨u,p,rfl,⟨t,rfl⟩,⟨m,rfl⟩⟩:=u5 r
 refine max_two_ints (I.ok.hd hc) fun l n k=>⟨_,H,I.kept k,?_,q⟩
 by_cases d:j>i
 ·rw [if_pos d,if_pos d];exact ⟨_,rfl⟩
 ·rw [if_neg d,if_neg d];exact ⟨_,rfl⟩
theorem Hs (hc:X.calm=true):CallR X (.builtin "min") (fun xs H Q=>∃ i j,xs=[.int i,.int j]/\Q (.int (if j<i then j else i)) H):=by
 intro e s v H xs o Q I r h
 obtain ⟨i,j,rfl,q⟩:=h
 obtain ⟨u,p,rfl,⟨t,rfl⟩,⟨m,rfl⟩⟩:=u5 r
 refine min_two_ints (I.ok.hd hc) fun l n k=>⟨_,H,I.kept k,?_,q⟩
 by_cases d:j<i
 ·rw [if_pos d,if_pos d];exact ⟨_,rfl⟩
 ·rw [if_neg d,if_neg d];exact ⟨_,rfl⟩
end
end L2
namespace L2
open PySem PySem.Spec PyProof.Rows
structure ObjM (h:UU)(x dx C:Addr)(mA:Str->Option Value):Prop where
 obj:h.get? x=some (V9 C dx)
 ns:h.Ns1 dx mA
 ne:dx≠x
theorem Ht {h:UU}{c:Addr}{i:Str->Option Value}(n:h.Ns1 c i):∃ j,h.get? c=some j/\∀ name,Yi name j=some (i name):=by
 obtain ⟨o,d,u,r,hd,m,_,p⟩:=n
 refine ⟨o,r,fun name=>?_⟩
 have e:=p name
 unfold nsFind findBy at e
 rw [<- Array.find?_toList] at e
 unfold Yi
 rw [hd]
 dsimp only
 split
 ·rename_i y q
  rw [q] at e
  exact congrArg some e
 ·rename_i q
  rw [q] at e
  have a:d.toList.any (·.refKey)=false:=by
   rw [YU]
   intro y s
   obtain ⟨z,t,b⟩:=m y (a0s.mp s)
   simp [DictEntry.refKey,b]
  have l:¬ d.toList.any (·.refKey)=true:=by rw [a];exact Ux
  rw [if_neg l]
  exact congrArg some e
theorem ObjM.look {h:UU}{x b C:Addr}{c:Str->Option Value}(I:ObjM h x b C c):∃ a,XA h x (V9 C b) C (some a)/\∀ name,Yi name a=some (c name):=
 let ⟨a,e,d⟩:=Ht I.ns
 ⟨a,⟨I.obj,rfl,rfl,e⟩,d⟩
section
variable {prog:Ud}{w:Uv}{A:Ur}{E:Value->TC->Prop}{s:TC}{K:Tv}{x dx C f:Addr}{mA:Str->Option Value}{name:Str}{v:Value}
theorem Hu {a:Bool}{Q:Value->TC->Prop}(X:K.In s.heap)(I:ObjM s.heap x dx C mA)(d:Xa K C name=true)(e:XQ K C=true)
  (c:UN K (.ref C) name=some none)(j:mA name=some v)(b:a0G v=true)(h:Q v { s with toks:=s.toks+1 }) :
  Ua (Ul prog w) A (getAttr (.ref x) name a) Q E s:=by
 obtain ⟨l,J,i⟩:=I.look
 exact PySem.W.get_value X J (Yq d).1 (PySem.W.findObj_own e c rfl (by rw [i,j])) b h
theorem Hv {pl:a1x Bool}{Q:Value×List Value->TC->Prop}(X:K.In s.heap)(I:ObjM s.heap x dx C mA)(a:Xa K C name=true)
  (b:UN K (.ref C) name=some (some (.ref f)))(d:YG K (.ref f)=true)(e:mA name=none)(h:Q (.ref f,[.ref x]) s) :
  Ua (Ul prog w) A (ZJ (.ref x) name pl) Q E s:=by
 obtain ⟨i,J,c⟩:=I.look
 exact PySem.W.method_fn X J (Yq a).1 (Yq a).2 b (beq_iff_eq.mp d) (by show (Yi name i).map (·.isSome)=some false;rw [c,e];rfl) h
theorem Hw {ns:List Str}{Q:Unit->TC->Prop}(X:K.In s.heap)(I:ObjM s.heap x dx C mA)
  (q:UN K (.ref C) "__setattr__" = some (some (.builtin "object.__setattr__"))) (p:YE K C=true)(r:Y1 K C name=some none)(o:XQ K C=true)
  (hw:ZY mA ns)(hsz:ns.length<=TZ)
  (h:∀ d,ObjM d x dx C (fun y=>if y=name then some v else mA y)->VT dx s.heap d->Q () { s with heap:=d,toks:=s.toks+2 }) :
  Ua (Ul prog w) A (setAttr (.ref x) name v) Q E s:=by
 obtain ⟨H,J,B⟩:=I.look
 refine PySem.W.set_plain X J q (PySem.W.osa_open (s:={ s with toks:=s.toks+1 }) (r:=none) X J p r fun b=>?_)
 obtain ⟨z,hc,i⟩:=PySem.W.any_some o
 have u:s.heap.get? x=some ⟨.ref C,some dx,.plain,#[]⟩:=I.obj
 refine Tx (TN (Tx (Tx (a3t u (Tx (WB (s:={ s with toks:=s.toks+1 }) (PySem.W.looks_clsIn X hc) ?_))))))
 rw [i]
 refine TN (a:=some dx) (Tx (TN (Tx ?_)))
 refine wpAny_nsSet1 (s:={ s with toks:=s.toks+1 }) I.ns fun d a c=>?_
 obtain ⟨G,n,m,l,j,e⟩:=a.count (a2Z name v hw)
 refine Tx (wpAny_lookBehind l (by rw [j];exact pastItsLine_dict (UT e (by rw [Uk];omega))) ?_)
 exact TN (h _ ⟨(c.2 _ (UG I.ne)).trans I.obj,a,I.ne⟩ c)
theorem Hx {R:a0l->TC->Prop}{vs:List Value}{b:List (Str×Value)}(X:K.In s.heap)(i:Y2 K C=true)
  (e:UN K (.ref C) "__init__" = some (some (.ref f))) (c:PySem.W.typeIn K (.ref f)=some (.type "function"))
  (h:XF (Ul prog w) (A.under (.builtin "type.__call__" ⟨.ref C::vs,b⟩)) (.call (.ref f) ⟨.ref (s.heap.objs.size+1)::vs,b⟩) (PySem.W.InitBack (s.heap.objs.size+1) R)
   { s with heap:=(s.heap.push VH).push (V9 C s.heap.objs.size) }) :
  XF (Ul prog w) A (.call (.ref C) ⟨vs,b⟩) R s:=by
 obtain ⟨j,g,d,t,l⟩:=s
 exact PySem.W.make_core (PySem.W.makes_of X i) (Yh X e) (fun a=>PySem.W.bind_fn X a c) (.inl rfl) h
end
noncomputable def dR (f:Str)(v:V):List (Str×V)->List (Str×V)
 | []=>[(f,v)]
 | (g,x)::r=>if g=f then (g,v)::r else (g,x)::dR f v r
theorem AE (f g:Str)(v:V):∀ fs:List (Str×V),(dR f v fs).lookup g=if g=f then some v else fs.lookup g
 | []=>by
  show VU g [(f,v)]=_
  by_cases h:g=f
  ·have a:(g == f)=true:=beq_iff_eq.mpr h
   simp only [VU,a,if_pos h]
  ·have a:(g == f)=false:=beq_eq_false_iff_ne.mpr h
   simp only [VU,a,if_neg h]
 | (k,x)::r=>by
  have c:=AE f g v r
  rw [show dR f v ((k,x)::r)=(if k=f then (k,v)::r else (k,x)::dR f v r) from rfl]
  by_cases b:k=f
  ·rw [if_pos b]
   by_cases h:g=k
   ·have a:(g == k)=true:=beq_iff_eq.mpr h
    simp only [VU,a,if_pos (h.trans b)]
   ·have a:(g == k)=false:=beq_eq_false_iff_ne.mpr h
    simp only [VU,a,if_neg (fun e:g=f=>h (e.trans b.symm))]
  ·rw [if_neg b]
   by_cases h:g=k
   ·have a:(g == k)=true:=beq_iff_eq.mpr h
    simp only [VU,a,if_neg (fun e:g=f=>b (h.symm.trans e))]
   ·have a:(g == k)=false:=beq_eq_false_iff_ne.mpr h
    simp only [VU,a]
    exact c
theorem u6 (f:Str)(v:V):∀ fs:List (Str×V),f∈(dR f v fs).map (·.1)/\∀ g,g∈fs.map (·.1)->g∈(dR f v fs).map (·.1)
 | []=>⟨by simp [dR],fun g h=>by simp at h⟩
 | (k,x)::r=>by
  obtain ⟨b,c⟩:=u6 f v r
  rw [show dR f v ((k,x)::r)=(if k=f then (k,v)::r else (k,x)::dR f v r) from rfl]
  by_cases a:k=f
  ·rw [if_pos a]
   subst a
   exact ⟨by simp,fun g h=>by simpa using h⟩
  ·rw [if_neg a]
   refine ⟨?_,fun g h=>?_⟩
   ·rw [TM]
    exact UB _ b
   ·rw [TM] at h ⊢
    rcases Uq.mp h with e|e
    ·exact Uq.mpr (.inl e)
    ·exact UB _ (c g e)
theorem AF (f:Str)(v:V):∀ fs:List (Str×V),(dR f v fs).length<=fs.length+1
 | []=>by simp [dR]
 | (k,x)::r=>by
  have b:=AF f v r
  rw [show dR f v ((k,x)::r)=(if k=f then (k,v)::r else (k,x)::dR f v r) from rfl]
  by_cases a:k=f
  ·rw [if_pos a,Uk,Uk];omega
  ·rw [if_neg a,Uk,Uk];omega
theorem RelO.some_of {v:V}{o:Option Value}(r:RelO (some v) o):∃ u,o=some u/\RelV v u:=by
 cases o with
 | none=>exact (show False from r).elim
 | some u=>exact ⟨u,rfl,r⟩
theorem RelO.none_of {o:Option Value}(r:RelO none o):o=none:=by
 cases o with
 | none=>rfl
 | some u=>exact (show False from r).elim
theorem Hy {v:V}{u:Value}(r:RelV v u):a0G u=true:=by
 cases v with
 | non=>cases (show u=U1 from r);rfl
 | bl b=>cases (show u=U5 b from r);rfl
 | int i=>obtain ⟨t,e⟩:=(show ∃ t,u=Vb i t from r);cases e;rfl
 | str x=>obtain ⟨t,e⟩:=(show ∃ t,u=YY x t from r);cases e;rfl
 | byt b=>obtain ⟨t,e⟩:=(show ∃ t,u=a2E b t from r);cases e;rfl
 | flt b=>obtain ⟨t,e⟩:=(show ∃ t,u=a2D b t from r);cases e;rfl
 | ref a=>cases (show u=T6 a from r);rfl
 | ty n=>cases (show u=TU n from r);rfl
section
variable {P:Ud}{w:Uv}{H H':Hp}{h h':UU}{a C dx:Addr}{fs fs':List (Str×V)}
theorem u7 (hok:HOk P w H h)(e:H a=some (.ins C dx fs)):∃ b,ObjM h a dx C b/\(∀ f,RelO (fs.lookup f) (b f))/\ZY b (fs.map (·.1))/\fs.length<=1000/\H dx=some (.own a):=by
 obtain ⟨d,z,ne,c,b,n,r,q⟩:=(show ObjOk P w H h a (.ins C dx fs) from hok a _ e)
 exact ⟨b,⟨c,n,ne⟩,r,q,z,d⟩
end
structure Cls (K:Tv)(C:Addr):Prop where
 pg:Xa K C Str.empty=true
 hd:XQ K C=true
 po:YE K C=true
 sa:UN K (.ref C) "__setattr__" = some (some (.builtin "object.__setattr__"))
theorem Cls.get {K:Tv}{C:Addr}(c:Cls K C)(f:Str):Xa K C f=true:=c.pg
noncomputable def NoAttr (K:Tv)(C:Addr)(f:Str):Prop:=UN K (.ref C) f=some none
theorem NoAttr.taker {K:Tv}{C:Addr}{f:Str}(n:NoAttr K C f):Y1 K C f=some none:=by
 unfold Y1
 rw [show UN K (.ref C) f=some none from n]
 rfl
structure Con (K:Tv)(C:Addr)(f:Str)(v:V)(u:Value):Prop where
 at_:UN K (.ref C) f=some (some u)
 rel:RelV v u
 get:XO K u "__get__" = some none
 cp:PySem.W.copiedNames.contains f=false
structure Meth (K:Tv)(C:Addr)(m:Str)(f:Addr):Prop where
 at_:UN K (.ref C) m=some (some (.ref f))
 fn:YG K (.ref f)=true
 kp:U8 K (.ref f)=true
section
variable {X:Cx}{a3F:List (Addr×Obj)}{σ:St}{H:Hp}{s:TC}{a C dx:Addr}{fs:List (Str×V)}{f:Str}{v:V}{A:Ur}{E:Value->TC->Prop}
theorem Hz {b:Bool}{Q:Value->TC->Prop}(I:Inv X a3F σ H s)(e:H a=some (.ins C dx fs))(c:Cls X.K C)(n:NoAttr X.K C f)(l:fs.lookup f=some v)
  (h:∀ u i,Inv X a3F σ H i->RelV v u->Q u i):Ua (Ul X.prog X.w) A (getAttr (.ref a) f b) Q E s:=by
 obtain ⟨m,O,r,_,_,_⟩:=u7 I.hok e
 obtain ⟨u,j,d⟩:=RelO.some_of (v:=v) (o:=m f) (by rw [<- l];exact r f)
 exact Hu I.kIn O (c.get f) c.hd n j (Hy d) (h u _ (I.tok _) d)
theorem rO {m:Str}{g:Addr}{pl:a1x Bool}{Q:Value×List Value->TC->Prop}(I:Inv X a3F σ H s)(e:H a=some (.ins C dx fs))(c:Cls X.K C)(k:Meth X.K C m g)(l:fs.lookup m=none)
  (h:Q (.ref g,[.ref a]) s):Ua (Ul X.prog X.w) A (ZJ (.ref a) m pl) Q E s:=by
 obtain ⟨d,O,r,_,_,_⟩:=u7 I.hok e
 have b:d m=none:=RelO.none_of (by rw [<- l];exact r m)
 exact Hv I.kIn O (c.get m) k.at_ k.fn b h
theorem HA {y:V}{u:Value}{Q:Unit->TC->Prop}(I:Inv X a3F σ H s)(e:H a=some (.ins C dx fs))(c:Cls X.K C)(n:NoAttr X.K C f)(L:fs.length<1000)(J:RelV y u)
  (h:∀ l,Inv X a3F σ (aL H a (.ins C dx (dR f y fs))) l->Q () l):Ua (Ul X.prog X.w) A (setAttr (.ref a) f u) Q E s:=by
 obtain ⟨j,O,r,m,_,i⟩:=u7 I.hok e
 have G:(fs.map (·.1)).length<=TZ:=by rw [TF,UW];omega
 refine Hw I.kIn O c.sa c.po n.taker c.hd m G fun w d K=>h _ ?_
 have hd:∃ o,w.get? dx=some o:=let ⟨o,_,_,p,_⟩:=d.ns;⟨o,p⟩
 refine I.write (x:=a) (e:=dx) (by rw [e];exact We) (.inr i) (fun b q x z=>(K.2 b x).trans z) hd ?_
 refine ⟨by rw [bC O.ne];exact i,?_,O.ne,d.obj,_,d.ns,fun g=>?_,fun g B=>?_⟩
 ·have:=AF f y fs;omega
 ·show RelO ((dR f y fs).lookup g) (if g=f then some u else j g)
  rw [AE]
  by_cases q:g=f
  ·rw [if_pos q,if_pos q];exact J
  ·rw [if_neg q,if_neg q];exact r g
 ·by_cases q:g=f
  ·rw [q];exact (u6 f y fs).1
  ·refine (u6 f y fs).2 g (m g fun z=>B ?_)
   show (if g=f then some u else j g)=none
   rw [if_neg q];exact z
theorem Inv.made (I:Inv X a3F σ H s):Inv X a3F σ (aL (aL H s.heap.objs.size (.own (s.heap.objs.size+1))) (s.heap.objs.size+1) (.ins C s.heap.objs.size []))
  { s with heap:=(s.heap.push VH).push (V9 C s.heap.objs.size) }:=by
 have c:(s.heap.push VH).get? s.heap.objs.size=some VH:=Ub s.heap rfl
 have h:((s.heap.push VH).push (V9 C s.heap.objs.size)).get? (s.heap.objs.size+1)=some (V9 C s.heap.objs.size):=by
  have:=Ub (s.heap.push VH) (o:=V9 C s.heap.objs.size) rfl
  rwa [a2b] at this
 have i:(s.heap.push VH).Ns s.heap.objs.size (fun _=>none):=⟨VH,#[],_,c,rfl,(fun e j=>absurd j (by simp)),fun _=>rfl⟩
 have d:=I.laid (a:=s.heap.objs.size) (o:=.own (s.heap.objs.size+1)) (h':=s.heap.push VH) (t':=s.toks) (fun b u q=>TL _ q) (TR _) ⟨_,c⟩
 refine d.laid (a:=s.heap.objs.size+1) (o:=.ins C s.heap.objs.size []) (t':=s.toks) (fun b u q=>TL _ q) (Y6 (a2b _ _)) ?_
 have ne:s.heap.objs.size≠s.heap.objs.size+1:=Ui (VG _)
 refine ⟨by rw [bC ne,cN],Vj _,ne,h,fun _=>none,(Heap.Ns1.of_empty i).at fun o q=>TL _ q,fun _=>We,fun y l=>absurd rfl l⟩
theorem HB {prog:Ud}{w:Uv}{env:XU}{e:Expr}{f:Str}{pos:Vt}{s:TC}{Q:Value->TC->Prop}(c:Wl e f env (eval e env)=eval e env)
  (h:Ua (Ul prog w) A (eval e env) (fun o b=>Ua (Ul prog w) A (getAttr o f true) Q E b) E s):Ua (Ul prog w) A (eval (.Attribute e f pos) env) Q E s:=
 Attribute_any_ h (by rw [arm_eval_Attribute,c])
end
noncomputable def HC (K:Tv)(d:TE)(f:Str):TE:=fun σ H Q=>d σ H fun x b=>∃ a C c fs v,x=.ref a/\b a=some (.ins C c fs)/\Cls K C/\NoAttr K C f/\fs.lookup f=some v/\Q v b
noncomputable def HD (K:Tv)(e h:TE)(f:Str):TS:=fun D σ H=>h σ H fun y d=>e σ d fun x b=>∃ a C c fs,x=.ref a/\b a=some (.ins C c fs)/\Cls K C/\NoAttr K C f/\fs.length<1000 /\
 D.nx σ (aL b a (.ins C c (dR f y fs)))
section
variable {X:Cx}{o e value:Expr}{f:Str}{pos pos' tpos:Vt}{ta tv:TE}
theorem HE (w:PE X e ta)(r:Wl e f X.env (eval e X.env)=eval e X.env):PE X (.Attribute e f pos) (HC X.K ta f):=by
 intro b s A H Q I h
 refine HB r (aN (w b s A H _ I h) fun u E ⟨x,d,i,z,a,C,B,fs,v,p,m,c,n,l,q⟩=>?_)
 subst p
 obtain rfl:u=T6 a:=z
 exact Hz i m c n l fun J G j y=>⟨v,d,j,y,q⟩
theorem HF (w:PE X o ta)(A:PE X value tv)(z:Xx value (some (.Attribute o f pos')) pos.line X.env=pure false):PS X (.Assign [.Attribute o f pos'] value pos) (HD X.K ta tv f):=by
 intro b s d H D I h
 refine plainObj_wpAny_Assign_Attribute (aN (A b s d H _ I h) fun u K ⟨y,i,j,J,q⟩=>aN (w b K d i _ j q) fun B N ⟨x,L,m,G,a,C,M,fs,v,r,c,n,l,E⟩=>?_) z
 subst v
 obtain rfl:B=T6 a:=G
 exact HA m r c n l J fun O p=>⟨d,_,p,E⟩
end
section
variable {X:Cx}{a3F:List (Addr×Obj)}{σ:St}{H:Hp}{s:TC}{A:Ur}{E:Value->TC->Prop}{Q:Value->TC->Prop}{c:Value}{b:Bool}
inductive TyOf (K:Tv)(H:Hp):V->Value->Prop where
 | non:TyOf K H .non (.type "NoneType")
 | bl (x:Bool):TyOf K H (.bl x) (.type "bool")
 | int (i:Int):TyOf K H (.int i) (.type "int")
 | str (x:Str):TyOf K H (.str x) (.type "str")
 | flt (x:UInt64):TyOf K H (.flt x) (.type "float")
 | lst {a:Addr}{xs:List V}(e:H a=some (.lst xs)):TyOf K H (.ref a) (.type "list")
 | frz {a:Addr}{o:Obj}{xs:List V}(e:H a=some (.frz o (.lst xs))):TyOf K H (.ref a) (.type "list")
 | tup {a:Addr}{xs:List V}(e:H a=some (.tup xs)):TyOf K H (.ref a) (.type "tuple")
 | dK {a:Addr}{kvs:List (aM×V)}(e:H a=some (.dK kvs)):TyOf K H (.ref a) (.type "dict")
 | dT {a:Addr}{kvs:List (List aM×V)}(e:H a=some (.dT kvs)):TyOf K H (.ref a) (.type "dict")
 | ins {a C dx:Addr}{fs:List (Str×V)}(e:H a=some (.ins C dx fs))(cl:Cls K C)(ha:UN K (.ref C) "__class__" = some (some (.builtin "object.__class__")))
   (hn:XO K (.builtin "object.__class__") "__get__" = some (some (.builtin "getset_descriptor.__get__"))) (htk:a0P K (.builtin "object.__class__")=some true)
   (hm:a1y K C (.type "object")=some true):TyOf K H (.ref a) (.ref C)
end
end L2
namespace L2
open PySem PySem.Spec PyProof.Rows
structure Room (k:Nat)(A:Ur):Prop where
 hd:A.handled=none
 dp:A.depth+3 * k+5<YM
 un:A.units+16 * k+200<V6
theorem Room.mono {j k:Nat}{A:Ur}(r:Room k A)(h:j<=k):Room j A:=⟨r.hd,by have:=r.dp;omega,by have:=r.un;omega⟩
theorem Room.deeper {k:Nat}{A:Ur}(r:Room (k+1) A)(env:XU):Room k (A.deeper env):=
 ⟨r.hd,by have:=r.dp;show A.depth+1+3 * k+5<_;omega,by have:=r.un;show A.units+3+16 * k+200<_;omega⟩
theorem Room.in1 {k:Nat}{A:Ur}(r:Room (k+1) A):Room k A.in1:=
 ⟨r.hd,by have:=r.dp;show A.depth+3 * k+5<_;omega,by have:=r.un;show A.units+1+16 * k+200<_;omega⟩
theorem HG {A:Ur}{C:Addr}{us:List Value}{a:List (Str×Value)}:(A.under (.builtin "type.__call__" ⟨.ref C::us,a⟩)).depth=A.depth+1:=by
 first|rfl|simp [ZX,Code.weight,Code.isCreation,Code.isGuard,Code.isCaller,a2S,a0b,guardIds]
theorem HH {A:Ur}{C:Addr}{us:List Value}{a:List (Str×Value)}:(A.under (.builtin "type.__call__" ⟨.ref C::us,a⟩)).units=A.units+1:=by
 first|rfl|simp [ZX,Code.cUnits,a2S,a0b]
theorem Room.make {k:Nat}{A:Ur}(r:Room (k+1) A)(C:Addr)(us:List Value)(a:List (Str×Value)):Room k (A.under (.builtin "type.__call__" ⟨.ref C::us,a⟩)):=
 ⟨r.hd,by have:=r.dp;rw [HG];omega,by have:=r.un;rw [HH];omega⟩
theorem Room.depth {k:Nat}{A:Ur}(r:Room k A):A.depth<YM:=by have:=r.dp;omega
theorem Room.units {k:Nat}{A:Ur}(r:Room k A):A.units+64<V6:=by have:=r.un;omega
noncomputable def u9:TA:=fun _ H Q=>Q [] H
noncomputable def HJ (c:TE)(tr:TA):TA:=fun σ H Q=>c σ H fun x a=>tr σ a fun xs b=>Q (x::xs) b
section
variable {X:Cx}{e:Expr}{es:List Expr}{te:TE}{t:TA}{pos:Vt}
theorem AG:PA X [] u9:=fun _ _ _ _ H Q I h=>a0U ⟨[],H,I,.nil,h⟩
theorem AH (l:PE X e te)(m:PA X es t)(n:Ue (e::es) X.env=(false,eval e X.env)::Ue es X.env:=by rfl):PA X (e::es) (HJ te t):=by
 intro pos a s b H Q I h
 rw [n]
 show Ua _ _ (a2y ((false,eval e X.env)::VF pos (Ue es X.env))) _ _ s
 refine a0K (aN (l a s b H _ I h) fun u v ⟨x,c,i,q,o⟩=>?_)
 exact aN (m pos a v b c _ i o) fun z y ⟨w,d,j,r,p⟩=>⟨x::w,d,j,.cons q r,p⟩
noncomputable def HK (t:TA):TE:=fun σ H Q=>t σ H fun xs a=>xs.length<=TZ/\∀ p,a p=none->Q (.ref p) (aL a p (.tup xs))
noncomputable def HL (t:TA):TE:=fun σ H Q=>t σ H fun xs a=>xs.length<=TZ/\∀ p,a p=none->Q (.ref p) (aL a p (.lst xs))
theorem AI {x1} (h:PA X es t):PE X (.Tuple es x1 pos) (HK t):=by
 intro c s o H Q I l
 refine wpAny_Tuple_spliced (aN (h pos c s o H _ I l) fun m a ⟨n,d,i,r,z,q⟩=>⟨by rw [<- r.length];exact z,?_⟩)
 have j:d a.heap.objs.size=none:=i.hok.fresh (TR _)
 refine ⟨.ref a.heap.objs.size,aL d a.heap.objs.size (.tup n),i.laid (t':=a.toks) (fun b u e=>TL _ e) (TR _) ?_,rfl,q _ j⟩
 exact ⟨z,m,r,⟨_,Ub _ rfl,rfl,_,rfl,rfl⟩⟩
theorem HM (h:PA X es t):PE X (.List es pos) (HL t):=by
 intro c s o H Q I l
 refine a2g (aN (h pos c s o H _ I l) fun m a ⟨n,d,i,r,z,q⟩=>⟨by rw [<- r.length];exact z,?_⟩)
 have j:d a.heap.objs.size=none:=i.hok.fresh (TR _)
 refine ⟨.ref a.heap.objs.size,aL d a.heap.objs.size (.lst n),i.laid (t':=a.toks) (fun b u e=>TL _ e) (TR _) ?_,rfl,q _ j⟩
 exact ⟨z,m,0,r,Ub _ rfl⟩
end
noncomputable abbrev Sp:=List V->Hp->VK->XK->Prop
noncomputable abbrev fK:=List XU->Hp->TC->XK->Value->TC->Prop
structure Env0 (P:Ud)(w:Uv)(K:Tv)(mg:Str->Option Value)(base:UU)(A:Ur)(outer:List XU)(s:TC)(H:Hp):Prop where
 frames:A.frames=some outer
 mod:Mod K mg base
 bs:∀ b o,base.get? b=some o->s.heap.get? b=some o/\H b=none
 bsz:base.objs.size<=s.heap.objs.size
 funs:s.heap.FunFrames base outer
 frf:∀ b∈dB outer,H b=none
 hok:HOk P w H s.heap
 bare:Ye s.gens
noncomputable def CE (outer:List XU)(P:Ud)(w:Uv)(H:Hp)(s:TC)(Q:VK)(u:Value)(a:TC):Prop:=
 ∃ v b,a.os=s.os/\Ye a.gens/\Un (dB outer) [] H b s.heap a.heap/\HOk P w b a.heap/\RelV v u/\Q v b
noncomputable def CR (CX:fK)(outer:List XU)(P:Ud)(w:Uv)(H:Hp)(s:TC)(Q:VK)(E:XK)(r:a0l)(a:TC):Prop:=
 match r with
 | .ok (.ret u)=>CE outer P w H s Q u a
 | .ok _=>False
 | .error e=>CX outer H s E e a
structure FnOk (P:Ud)(w:Uv)(K:Tv)(mg:Str->Option Value)(base:UU)(CX:fK)(k:Nat)(f:Addr)(fd:Vc)(ps:List Str)(sp:Sp):Prop where
 len:∀ vs H Q E,sp vs H Q E->vs.length=ps.length
 run:∀ (A:Ur)(outer:List XU)(s:TC)(H:Hp)(args:Args)(us:List Value)(vs:List V)(Q:VK)(E:XK),Room k A->Env0 P w K mg base A outer s H->YW s fd args (ps.zip us)->Vals vs us->sp vs H Q E->
  XF (Ul P w) A (.call (.ref f) args) (CR CX outer P w H s Q E) s
theorem FnOk.mono {P:Ud}{w:Uv}{K:Tv}{c:Str->Option Value}{base:UU}{CX:fK}{j k:Nat}{f:Addr}{b:Vc}{ps:List Str}{sp:Sp}(F:FnOk P w K c base CX j f b ps sp)(h:j<=k) :
  FnOk P w K c base CX k f b ps sp:=⟨F.len,fun A outer s H a e i Q E d=>F.run A outer s H a e i Q E (d.mono h)⟩
theorem FnOk.imp {P:Ud}{w:Uv}{K:Tv}{e:Str->Option Value}{base:UU}{CX:fK}{k:Nat}{f:Addr}{d:Vc}{ps:List Str}{sp c:Sp}(F:FnOk P w K e base CX k f d ps sp)
  (h:∀ a H Q E,c a H Q E->sp a H Q E):FnOk P w K e base CX k f d ps c:=
 ⟨fun a H Q E q=>F.len a H Q E (h _ _ _ _ q),fun A outer s H b o a Q E l j i n m=>F.run A outer s H b o a Q E l j i n (h _ _ _ _ m)⟩
theorem Env0.make {P:Ud}{w:Uv}{K:Tv}{a:Str->Option Value}{base:UU}{A:Ur}{outer:List XU}{s:TC}{H:Hp}(e:Env0 P w K a base A outer s H)(C:Addr)(us:List Value)(b:List (Str×Value)) :
  Env0 P w K a base (A.under (.builtin "type.__call__" ⟨.ref C::us,b⟩)) outer s H:=⟨by first|exact e.frames|(simpa [ZX,Code.envs,a0b,pushEnvs] using e.frames),e.mod,e.bs,e.bsz,e.funs,e.frf,e.hok,e.bare⟩
theorem Env0.in1 {P:Ud}{w:Uv}{K:Tv}{a:Str->Option Value}{base:UU}{A:Ur}{outer:List XU}{s:TC}{H:Hp}(e:Env0 P w K a base A outer s H) :
  Env0 P w K a base A.in1 outer s H:=⟨e.frames,e.mod,e.bs,e.bsz,e.funs,e.frf,e.hok,e.bare⟩
section
variable {X:Cx}{a3F:List (Addr×Obj)}{σ:St}{H:Hp}{s s':TC}
theorem Inv.env0 (I:Inv X a3F σ H s):Env0 X.prog X.w X.K X.mg X.base X.A X.stack s H:=
 ⟨I.ok.frames,I.ok.mod,I.bs,UT I.ok.bsz I.sz,I.stack,I.stkFree,I.hok,I.bare⟩
theorem Inv.after {Q:VK}{u:Value}(I:Inv X a3F σ H s)(h:CE X.stack X.prog X.w H s Q u s'):EP X a3F σ Q u s':=by
 obtain ⟨v,e,j,a,un,hok,r,q⟩:=h
 obtain ⟨i,g,d,t,c⟩:=s'
 obtain rfl:c=s.os:=j
 exact ⟨v,e,I.call (h':=i) (g':=g) (d':=d) (t':=t) (ch:=[]) un hok a (fun b z=>absurd z (by simp)),r,q⟩
end
noncomputable def vA (sp:Sp)(a:List V)(E:XK)(t:TA):TE:=fun σ H Q=>t σ H fun vs b=>sp (vs++a) b Q E
noncomputable def vB (C:Addr)(m:Str)(sp:Sp)(b:List V)(E:XK)(h:TE)(t:TA):TE:=fun σ H Q=>h σ H fun x c=>∃ a e fs,x=.ref a/\c a=some (.ins C e fs)/\fs.lookup m=none /\
 t σ c fun i d=>sp (x::(i++b)) d Q E
noncomputable def AJ (C:Addr)(sp:Sp)(c:List V)(E:XK)(t:TA):TE:=fun σ H Q=>t σ H fun vs b=>∀ x a,b x=none->b a=none->a≠x->
 sp (.ref x::(vs++c)) (aL (aL b a (.own x)) x (.ins C a [])) (fun v d=>v=.non/\Q (.ref x) d) E
noncomputable def Binds (K:Tv)(a:Vc)(ps:List Str)(ds:List Value):Prop:=
 ∀ (s:TC)(us:List Value),K.In s.heap->(us++ds).length=ps.length->YW s a ⟨us,[]⟩ (ps.zip (us++ds))
theorem Binds.all {K:Tv}{a:Vc}{ps:List Str}(h:∀ us:List Value,us.length=ps.length->a0j a ⟨us,[]⟩=pure (ps.zip us)):Binds K a ps []:=fun s us _ b=>by
 rw [U9] at b ⊢
 exact .of_eq (h us b)
noncomputable def kM (CX:fK)(X:Cx)(E:XK):Prop:=∀ (a3F:List (Addr×Obj))(σ:St)(H:Hp)(s:TC)(e:Value)(a:TC),Inv X a3F σ H s->CX X.stack H s E e a->X.xe e a
section
variable {X:Cx}{CX:fK}{k:Nat}{f C:Addr}{fd:Vc}{ps:List Str}{sp:Sp}{dvs:List V}{ds:List Value}{E:XK}{x m:Str}{p pos apos:Vt}{e o:Expr}{es:List Expr}{ta:TE}{t:TA}
theorem rP {a3F:List (Addr×Obj)}{σ:St}{H:Hp}{s:TC}{Q:VK}{us:List Value}{vs:List V}(F:FnOk X.prog X.w X.K X.mg X.base CX k f fd ps sp)(j:Room k X.A)(d:Binds X.K fd ps ds)(hd:Vals dvs ds)(l:kM CX X E)
  (I:Inv X a3F σ H s)(r:Vals vs us)(h:sp (vs++dvs) H Q E):Ua (Ul X.prog X.w) X.A (call (.ref f) us) (EP X a3F σ Q) X.xe s:=by
 have b:Vals (vs++dvs) (us++ds):=r.append hd
 have i:(us++ds).length=ps.length:=by rw [<- b.length];exact F.len _ _ _ _ h
 refine Zc (X0 (F.run X.A X.stack s H ⟨us,[]⟩ (us++ds) (vs++dvs) Q E j I.env0 (d s us I.kIn i) b h) fun r n a=>?_)
 cases r with
 | error e=>exact l a3F σ H s e n I a
 | ok c=>
  cases c with
  | ret u=>exact I.after a
  | next=>exact UA a
  | brk=>exact UA a
  | cont=>exact UA a
theorem HN (F:FnOk X.prog X.w X.K X.mg X.base CX k f fd ps sp)(w:Room k X.A)(n:Gl X x)(v:X.mg x=some (.ref f))(u:U8 X.K (.ref f)=true)(j:Binds X.K fd ps ds)(hd:Vals dvs ds)(y:kM CX X E)
  (i:PA X (e::es) t)(b:(x == ("__debug__":Str))=false:=by decide) (l:Ue (e::es) X.env=(false,eval e X.env)::Ue es X.env:=by rfl)(c:(VF pos (Ue es X.env)).any (·.1)=false:=by rfl) :
  PE X (.Call (.Name x p) (e::es) [] pos) (vA sp dvs E t):=by
 intro a s z H Q I h
 refine Vy (jP I n v ?_ b)
 refine WN (h₀:=X.base) I.ok.mod.kin u (aN (i pos a s z H _ I h) fun G B ⟨J,A,d,r,q⟩=>⟨d.kIn,?_⟩) l c
 exact rP F w j hd y d r q
theorem HP (F:FnOk X.prog X.w X.K X.mg X.base CX k f fd ps sp)(l:Room k X.A)(d:Gl X x)(j:X.mg x=some (.ref f))(i:U8 X.K (.ref f)=true)(c:Binds X.K fd ps ds)(hd:Vals dvs ds)(n:kM CX X E)
  (a:(x == ("__debug__":Str))=false:=by decide):PE X (.Call (.Name x p) [] [] pos) (vA sp dvs E u9):=by
 intro b s q H Q I h
 refine Vy (jP I d j ?_ a)
 exact Yr I.kIn i (rP (us:=[]) F l c hd n I .nil h)
theorem HQ {pl:a1x Bool}(K:PE X o ta)(c:Cls X.K C)(v:Meth X.K C m f)(F:FnOk X.prog X.w X.K X.mg X.base CX k f fd ps sp)(L:Room k X.A)(J:Binds X.K fd ps ds)(hd:Vals dvs ds)(N:kM CX X E)(G:PA X (e::es) t)
  (i:Ue (e::es) X.env=(false,eval e X.env)::Ue es X.env:=by rfl)(d:(VF pos (Ue es X.env)).any (·.1)=false:=by rfl)
  (M:eval (.Call (.Attribute o m apos) (e::es) [] pos) X.env=(do
   let w <- eval o X.env
   Zo apos.atName
   let (f,first) <- holding [w] (ZJ w m pl)
   a3C pos f first (VF pos (Ue (e::es) X.env)) (XJ pos (Wt [] X.env))):=by rfl) :
  PE X (.Call (.Attribute o m apos) (e::es) [] pos) (vB C m sp dvs E ta t):=by
 intro b s y H Q I h
 refine W6 (pl:=pl) (aN (K b s y H _ I h) fun u T ⟨x,z,j,R,a,dx,fs,B,A,l,q⟩=>?_) M
 subst B
 obtain rfl:u=T6 a:=R
 refine rO j A c v l ?_
 refine WN (first:=[.ref a]) (h₀:=X.base) I.ok.mod.kin v.kp (aN (G pos b T y z _ j q) fun U s2 ⟨Y,Z,n,r,O⟩=>⟨n.kIn,?_⟩) i d
 exact rP (us:=.ref a::U) (vs:=.ref a::Y) F L J hd N n (.cons rfl r) O
theorem HR {pl:a1x Bool}(w:PE X o ta)(c:Cls X.K C)(i:Meth X.K C m f)(F:FnOk X.prog X.w X.K X.mg X.base CX k f fd ps sp)(y:Room k X.A)(v:Binds X.K fd ps ds)(hd:Vals dvs ds)(A:kM CX X E)
  (z:eval (.Call (.Attribute o m apos) [] [] pos) X.env=(do
   let j <- eval o X.env
   Zo apos.atName
   let (f,first) <- holding [j] (ZJ j m pl)
   a3C pos f first (VF pos (Ue [] X.env)) (XJ pos (Wt [] X.env))):=by rfl) :
  PE X (.Call (.Attribute o m apos) [] [] pos) (vB C m sp dvs E ta u9):=by
 intro d s G H Q I h
 refine W6 (pl:=pl) (aN (w d s G H _ I h) fun u L ⟨x,J,b,B,a,K,fs,r,n,l,q⟩=>?_) z
 subst r
 obtain rfl:u=T6 a:=B
 refine rO b n c i l ?_
 exact Yr (first:=[.ref a]) b.kIn i.kp (rP (us:=[.ref a]) (vs:=[.ref a]) F y v hd A b (.cons rfl .nil) q)
structure Mk (K:Tv)(C f:Addr):Prop where
 makes:Y2 K C=true
 init:UN K (.ref C) "__init__" = some (some (.ref f))
 fn:YG K (.ref f)=true
 kp:U8 K (.ref C)=true
theorem HS {a3F:List (Addr×Obj)}{σ:St}{H:Hp}{s:TC}{Q:VK}{us:List Value}{vs:List V}(M:Mk X.K C f)(F:FnOk X.prog X.w X.K X.mg X.base CX k f fd ps sp)(A:Room (k+1) X.A)(y:Binds X.K fd ps ds)(hd:Vals dvs ds)
  (B:kM CX X E)(I:Inv X a3F σ H s)(r:Vals vs us)
  (h:∀ x c,H x=none->H c=none->c≠x->sp (.ref x::(vs++dvs)) (aL (aL H c (.own x)) x (.ins C c [])) (fun v l=>v=.non/\Q (.ref x) l) E) :
  Ua (Ul X.prog X.w) X.A (call (.ref C) us) (EP X a3F σ Q) X.xe s:=by
 have d:=h (s.heap.objs.size+1) s.heap.objs.size (I.hok.fresh (Zj _)) (I.hok.fresh (TR _)) (Ui (VG _))
 have b:=Inv.made (C:=C) I
 have i:Vals (V.ref (s.heap.objs.size+1)::(vs++dvs)) (T6 (s.heap.objs.size+1)::(us++ds)):=.cons rfl (r.append hd)
 have z:(T6 (s.heap.objs.size+1)::us++ds).length=ps.length:=by
  have e:=i.length
  rw [F.len _ _ _ _ d] at e
  exact e.symm
 refine Zc (Hx (f:=f) I.kIn M.makes M.init (beq_iff_eq.mp M.fn) (X0 (F.run _ X.stack _ _ ⟨T6 (s.heap.objs.size+1)::us,[]⟩ (T6 (s.heap.objs.size+1)::(us++ds)) _ _ E (A.make C us [])
  (b.env0.make C us []) (y _ (T6 (s.heap.objs.size+1)::us) b.kIn z) i d) fun r K a=>?_))
 cases r with
 | error e=>exact B a3F σ _ _ e K b a
 | ok w=>
  cases w with
  | ret u=>
   obtain ⟨v,j,n,J,q,G⟩:=b.after a
   subst q
   exact ⟨J,⟨V.ref (s.heap.objs.size+1),j,n,rfl,G⟩⟩
  | next=>exact UA a
  | brk=>exact UA a
  | cont=>exact UA a
theorem HU (M:Mk X.K C f)(F:FnOk X.prog X.w X.K X.mg X.base CX k f fd ps sp)(v:Room (k+1) X.A)(n:Gl X x)(u:X.mg x=some (.ref C))(j:Binds X.K fd ps ds)(hd:Vals dvs ds)(w:kM CX X E)
  (i:PA X (e::es) t)(b:(x == ("__debug__":Str))=false:=by decide) (l:Ue (e::es) X.env=(false,eval e X.env)::Ue es X.env:=by rfl)(c:(VF pos (Ue es X.env)).any (·.1)=false:=by rfl) :
  PE X (.Call (.Name x p) (e::es) [] pos) (AJ C sp dvs E t):=by
 intro a s y H Q I h
 refine Vy (jP I n u ?_ b)
 refine WN (h₀:=X.base) I.ok.mod.kin M.kp (aN (i pos a s y H _ I h) fun B A ⟨G,z,d,r,q⟩=>⟨d.kIn,?_⟩) l c
 exact HS M F v j hd w d r q
end
section
variable {X:Cx}{CX:fK}{k:Nat}{f C:Addr}{fd:Vc}{ps ks:List Str}{sp:Sp}{E:XK}{x m:Str}{p pos apos kpos:Vt}{e o:Expr}{es:List Expr}{kws:List WJ}{te ta:TE}{t tk:TA}{nm:Option Str}
structure KBinds (K:Tv)(fd:Vc)(ps ks:List Str)(g:List Value->List Value->List Value)(gV:List V->List V->List V):Prop where
 to:∀ (s:TC)(us ws:List Value),K.In s.heap->(g us ws).length=ps.length->YW s fd ⟨us,ks.zip ws⟩ (ps.zip (g us ws))
 rel:∀ {vs:List V}{us:List Value}{zs:List V}{ws:List Value},Vals vs us->Vals zs ws->Vals (gV vs zs) (g us ws)
variable {g:List Value->List Value->List Value}{gV:List V->List V->List V}
end
structure FnScope (N P:List Str)(sc:VY):Prop where
 kind:sc.kind=.function
 co:sc.isCoroutine=false
 gen:sc.isGenerator=false
 nd:N.Nodup
 pre:N.take P.length=P
 par:∀ x∈P,sc.names.lookup x=some .local\/sc.names.lookup x=some .cell
 nofree:∀ y∈sc.names,y.2≠.free
theorem AK {kindOf:Str->Option Wh}{x:Str}:∀ {a:List (Str×Value)}{m:Str->Option Value},(∀ v,(x,v)∉a)->a0h kindOf a m x=m x
 | [],_,_=>rfl
 | (n,v)::r,m,h=>by
  unfold a0h
  rw [AK fun w hw=>h w (UB _ hw)]
  split
  ·have:x≠n:=by rintro rfl;exact h v UP
   simp [this]
  ·rfl
theorem AL {kindOf:Str->Option Wh}{x:Str}:∀ {a:List (Str×Value)}{m:Str->Option Value},(∀ v,(x,v)∉a)->a0i kindOf a m x=m x
 | [],_,_=>rfl
 | (n,v)::r,m,h=>by
  unfold a0i
  rw [AL fun w hw=>h w (UB _ hw)]
  split
  ·rfl
  ·have:x≠n:=by rintro rfl;exact h v UP
   simp [this]
theorem AM {kindOf:Str->Option Wh}{x:Str}{v:Value}:∀ {P:List Str}{vs:List Value}{i:Nat}{m:Str->Option Value},P.Nodup->P[i]? = some x->vs[i]? = some v->kindOf x=some .local->
  a0h kindOf (P.zip vs) m x=some v
 | [],_,_,_,_,h,_,_=>by simp at h
 | _::_,[],_,_,_,_,h,_=>by simp at h
 | p::P,w::vs,0,m,nd,h1,h2,hk=>by
  simp at h1 h2;subst h1;subst h2
  show a0h kindOf ((p,w)::P.zip vs) m p=_
  unfold a0h
  rw [AK fun v a=>(VD.mp nd).1 (Yl a).1,if_pos hk]
  simp
 | p::P,w::vs,i+1,m,nd,h1,h2,hk=>by
  show a0h kindOf ((p,w)::P.zip vs) m x=_
  unfold a0h
  exact AM (i:=i) (VD.mp nd).2 (by simpa using h1) (by simpa using h2) hk
theorem AN {kindOf:Str->Option Wh}{x:Str}{v:Value}:∀ {P:List Str}{vs:List Value}{i:Nat}{m:Str->Option Value},P.Nodup->P[i]? = some x->vs[i]? = some v->kindOf x≠some .local->
  a0i kindOf (P.zip vs) m x=some v
 | [],_,_,_,_,h,_,_=>by simp at h
 | _::_,[],_,_,_,_,h,_=>by simp at h
 | p::P,w::vs,0,m,nd,h1,h2,hk=>by
  simp at h1 h2;subst h1;subst h2
  show a0i kindOf ((p,w)::P.zip vs) m p=_
  unfold a0i
  rw [AL fun v a=>(VD.mp nd).1 (Yl a).1,if_neg hk]
  simp
 | p::P,w::vs,i+1,m,nd,h1,h2,hk=>by
  show a0i kindOf ((p,w)::P.zip vs) m x=_
  unfold a0i
  exact AN (i:=i) (VD.mp nd).2 (by simpa using h1) (by simpa using h2) hk
noncomputable def start (N:List Str)(vs:List V):St:=vs.map some++VL (N.length - vs.length) none
noncomputable def eA (CX:fK)(P:Ud)(w:Uv)(K:Tv)(h:Str->Option Value)(base:UU)(N:List Str)(a:Str)(scope:VY)(f:Addr)(c:Value)(A:Ur)(outer:List XU)(s:TC)(H:Hp)(E:XK):Cx where
 prog:=P
 w:=w
 K:=K
 mg:=h
 base:=base
 A:=A.deeper (envOfC a scope s.heap.objs.size f c)
 N:=N
 s₀:=s
 H₀:=H
 env:=envOfC a scope s.heap.objs.size f c
 outer:=outer
 stack:=envOfC a scope s.heap.objs.size f c::outer
 ex:=[]
 calm:=true
 fn:=fun _=>true
 pn:=[]
 xe:=fun e i=>Ua (Ul P w) (A.deeper (envOfC a scope s.heap.objs.size f c)) (a2A (envOfC a scope s.heap.objs.size f c) e) (fun _ b=>CX outer H s E e b) (fun d b=>CX outer H s E d b) i
theorem AO {sc:VY}{n:Nat}{x:Str}(h:sc.names.lookup x=some .cell):∃ c,(ZK n sc.names []).lookup x=some c:=by
 have q:=X5 sc.names n [] (.inl h)
 exact UR.mp q
theorem AQ {CX:fK}{P:Ud}{w:Uv}{K:Tv}{L:Str->Option Value}{base:UU}{N ps:List Str}{d:Str}{scope:VY}{f:Addr}{G:Value}{A:Ur}{outer:List XU}{s Q:TC}{H:Hp}{E:XK}{us:List Value}{vs:List V}
  (S:FnScope N ps scope)(hd:A.handled=none)(l:Env0 P w K L base A outer s H)(Y:vs.length=ps.length)(r:Vals vs us)
  (x:InCallC s s.heap.objs.size (a0h (envOfC d scope s.heap.objs.size f G).kindOf (ps.zip us) fun _=>none) (ZK (s.heap.objs.size+1) scope.names []) (a0i (envOfC d scope s.heap.objs.size f G).kindOf (ps.zip us) fun _=>none) Q) :
  Inv (eA CX P w K L base N d scope f G A outer s H E) [] (start N vs) H Q:=by
 have T:ps.length<=N.length:=by have:=congrArg UJ S.pre;rw [UZ] at this;omega
 obtain ⟨I,Z,rfl,M⟩:=x.done
 have n:∀ b:Addr,b∉(eA CX P w K L base N d scope f G A outer s H E).ex:=fun b z=>absurd (show b∈([]:List Addr) from z) (by simp)
 refine ⟨⟨l.mod,S.kind,rfl,rfl,TR _,fun y z c I j=>?_,fun y m=>?_,fun y c _ h=>?_,fun _=>hd,a0c l.frames,.inr ⟨rfl,rfl⟩,fun b z=>absurd z (n b),l.bs,l.bsz,fun b _ _=>n b,fun b z=>absurd z (n b),l.funs,l.frf⟩,
  rfl,l.bare,Un.kept M,⟨_,x.toInCall.ns,fun i y v I j X=>?_⟩,fun y c h=>⟨_,x.cell y c h⟩,l.hok.fresh (TR _),fun y c h=>?_,fun p o=>absurd (show p∈([]:List (Addr×Obj)) from o) (by simp),l.hok.kept M,?_⟩
 ·exact name_of_addr x.apart (Vf I) (Vf j)
 ·have m:scope.names.lookup y=some .cell\/scope.names.lookup y=some .free:=m
  rcases m with m|m
  ·exact AO m
  ·exact absurd rfl (S.nofree _ (Vf m))
 ·exact Y5 (x.above y c (Vf h))
 ·have J:i<vs.length:=by
   unfold start at j
   by_cases J:i<vs.length
   ·exact J
   ·rw [UK (by simpa using J)] at j
    rw [Wi] at j
    split at j<;>cases j
  have R:vs[i]? = some v:=by
   unfold start at j
   rw [Uc (by simpa using J),Um] at j
   cases e:vs[i]? with
   | none=>rw [e] at j;cases j
   | some a=>rw [e] at j;cases j;rfl
  obtain ⟨u,O,U⟩:=r.get R
  have o:ps[i]? = some y:=by
   rw [<- S.pre,ZW (by omega)];exact I
  have B:ps.Nodup:=by rw [<- S.pre];exact S.nd.sublist (a1n _ _)
  refine ⟨u,U,?_⟩
  rcases S.par y (UM o) with k|k
  ·exact .inl ⟨k,AM B o O k⟩
  ·obtain ⟨c,e⟩:=AO (n:=s.heap.objs.size+1) k
   refine .inr ⟨.inl k,c,e,?_⟩
   have q:=x.cell y c e
   rw [AN B o O (by show scope.names.lookup y≠_;rw [k];decide)] at q
   exact q
 ·exact l.hok.fresh (Y5 (x.above y c (Vf h)))
 ·unfold start
  show _=N.length
  rw [TV,TF,V8]
  omega
theorem AR {CX:fK}{P:Ud}{w:Uv}{K:Tv}{B:Str->Option Value}{base:UU}{k:Nat}{f:Addr}{name a:Str}{d:a2V}{body:List Stmt}{scope:VY}{Z kV m pm c ct oc:Value}{X od:Option Addr}
  {O:Array (Option Value)}{N ps:List Str}{sp:Sp}(lk:K.lookup f=some ⟨oc,od,.func (T8 name a d body scope Z kV m pm X c ct),O⟩)(G:WY K c a=true)(S:FnScope N ps scope)
  (len:∀ vs H Q E,sp vs H Q E->vs.length=ps.length)
  (i:∀ (A:Ur)(outer:List XU)(s:TC)(H:Hp)(vs:List V)(Q:VK)(E:XK),Room k (A.deeper (envOfC a scope s.heap.objs.size f c))->sp vs H Q E->
   ∃ t,PSs (eA CX P w K B base N a scope f c A outer s H E) body t/\t { nx:=fun _ H'=>Q .non H',rt:=Q } (start N vs) H) :
  FnOk P w K B base CX (k+1) f (T8 name a d body scope Z kV m pm X c ct) ps sp:=by
 refine ⟨len,fun A outer s H Y us vs Q E L p hb r z=>?_⟩
 have hl:=len _ _ _ _ z
 have U:K.In s.heap:=p.mod.kin.keeps fun b o e=>(p.bs b o e).1
 have M:s.heap.NoLimit:=p.mod.nolimit.keeps fun b o e=>(p.bs b o e).1
 have j:∀ y∈ps.zip us,scope.names.lookup y.1=some .local\/(scope.names.lookup y.1=some .cell/\((ZK (s.heap.objs.size+1) scope.names []).lookup y.1).isSome=true):=fun ⟨n,v⟩ hy=>by
  rcases S.par n (Yl hy).1 with q|q
  ·exact .inl q
  ·exact .inr ⟨q,X5 _ _ _ (.inl q)⟩
 refine a1v L.depth (U _ _ lk) rfl S.co S.gen rfl (a0m U G) (hb _ _ _ _ ?_)
 refine a0d S.kind j fun env he s1 x=>?_
 subst he
 refine ⟨M.keeps x.toInCall.keep,codeAny_func ?_⟩
 obtain ⟨t,ht,hq⟩:=i A outer s H vs Q E (L.deeper _) z
 have I:Inv (eA CX P w K B base N a scope f c A outer s H E) [] (start N vs) H s1:=AQ S L.hd p hl r x
 refine UH (ht [] s1 (start N vs) H _ I hq) (fun fl T l=>?_) fun e T l=>l
 have aV:∀ {h:St}{H':Hp}{v:V}{u:Value},Inv (eA CX P w K B base N a scope f c A outer s H E) [] h H' T->RelV v u->Q v H'->CE outer P w H s Q u T:=
  fun {h H' v u} J R q=>⟨v,H',J.os,J.bare,J.base,J.hok,R,q⟩
 cases fl with
 | ret u=>
  obtain ⟨v,h,H',J,R,q⟩:=l
  exact aV J R q
 | next=>
  obtain ⟨h,H',J,q⟩:=l
  exact aV (v:=V.non) (u:=U1) J rfl q
 | brk=>
  obtain ⟨_,_,_,q⟩:=l
  exact UA q
 | cont=>
  obtain ⟨_,_,_,q⟩:=l
  exact UA q
end L2
namespace L2
open PySem PySem.Spec PyProof.Rows
section
variable {X:Cx}{x:Str}{p pos:Vt}{e:Expr}{es:List Expr}{t:TA}{id T:String}{r:List V->Hp->VK->Prop}
noncomputable def rQ (r:List V->Hp->VK->Prop)(t:TA):TE:=fun σ H Q=>t σ H fun vs a=>r vs a Q
theorem HV (hc:CallR X (.builtin id) r)(n:Gl X x)(o:X.mg x=none)(u:VA x=some (.builtin id))(l:PA X (e::es) t)(q:x ≠ "__name__":=by decide) (b:(x == ("__debug__":Str))=false:=by decide)
  (m:Ue (e::es) X.env=(false,eval e X.env)::Ue es X.env:=by rfl)(c:(VF pos (Ue es X.env)).any (·.1)=false:=by rfl):PE X (.Call (.Name x p) (e::es) [] pos) (rQ r t):=by
 intro a s d H Q I h
 refine Vy (gP I n o u ?_ q b)
 exact WW (aN (l pos a s d H _ I h) fun z y ⟨A,i,j,w,v⟩=>hc a y d i A z Q j w v) m c
theorem HW (hc:CallR X (.type T) r)(n:Gl X x)(o:X.mg x=none)(u:VA x=some (.type T))(l:PA X (e::es) t)(q:x ≠ "__name__":=by decide) (b:(x == ("__debug__":Str))=false:=by decide)
  (m:Ue (e::es) X.env=(false,eval e X.env)::Ue es X.env:=by rfl)(c:(VF pos (Ue es X.env)).any (·.1)=false:=by rfl):PE X (.Call (.Name x p) (e::es) [] pos) (rQ r t):=by
 intro a s d H Q I h
 refine Vy (gP I n o u ?_ q b)
 exact VB (aN (l pos a s d H _ I h) fun z y ⟨A,i,j,w,v⟩=>hc a y d i A z Q j w v) m c
end
end L2
namespace L2
open PySem PySem.Spec PyProof.Rows
section
variable {κ:Type} [DecidableEq κ]
noncomputable def eB (a:List (κ×V))(k:κ):Option V:=(a.find? fun b=>decide (b.1=k)).map (·.2)
noncomputable def gR (a:List (κ×V))(k:κ)(v:V):List (κ×V):=
 if (a.any fun b=>decide (b.1=k))=true then a.map (fun b=>if b.1=k then (b.1,v) else b) else a++[(k,v)]
noncomputable def AS (a:List (κ×V))(k:κ):List (κ×V):=a.filter fun b=>decide (b.1≠k)
theorem vC {p:κ×V}{r:List (κ×V)}{k:κ}(e:p.1=k):eB (p::r) k=some p.2:=by simp [eB,U0,e]
theorem vD {p:κ×V}{r:List (κ×V)}{k:κ}(e:¬ p.1=k):eB (p::r) k=eB r k:=by simp [eB,U0,e]
theorem AU (k:κ):∀ a:List (κ×V),(a.any fun b=>decide (b.1=k))=(eB a k).isSome
 | []=>rfl
 | p::r=>by
  rw [Wf]
  by_cases e:p.1=k
  ·simp only [vC e,decide_eq_true e,Bool.true_or,a0y]
  ·rw [vD e,decide_eq_false e,a2o];exact AU k r
theorem RelO.isSome_eq {o:Option V}{u:Option Value}(r:RelO o u):o.isSome=u.isSome:=by
 cases o with
 | none=>cases u with
  | none=>rfl
  | some _=>exact (show False from r).elim
 | some _=>cases u with
  | none=>exact (show False from r).elim
  | some _=>rfl
theorem RelO.getD {o:Option V}{u:Option Value}{d:V}{d':Value}(r:RelO o u)(a:RelV d d'):RelV (o.getD d) (u.getD d'):=by
 cases o with
 | none=>cases u with
  | none=>exact a
  | some _=>exact (show False from r).elim
 | some _=>cases u with
  | none=>exact (show False from r).elim
  | some _=>exact r
theorem KV.val {a:List (κ×V)}{vs:List (κ×Value)}(r:KV a vs)(k:κ):RelO (eB a k) (Z5 vs k):=by
 unfold KV at r
 induction r with
 | nil=>exact We
 | @cons p q m d h t l=>
  obtain ⟨i,j⟩:=h
  by_cases e:p.1=k
  ·have c:q.1=k:=i.symm.trans e
   have b:Z5 (q::d) k=some q.2:=by simp [Z5,U0,c]
   rw [vC e,b];exact j
  ·have c:¬ q.1=k:=fun z=>e (i.trans z)
   have b:Z5 (q::d) k=Z5 d k:=by simp [Z5,U0,c]
   rw [vD e,b];exact l
theorem KV.any {a:List (κ×V)}{vs:List (κ×Value)}(r:KV a vs)(k:κ):(a.any fun b=>decide (b.1=k))=vs.any fun b=>decide (b.1=k):=by
 unfold KV at r
 induction r with
 | nil=>rfl
 | cons h t c=>rw [Wf,Wf,c,h.1]
theorem KV.repl {b:List (κ×V)}{vs:List (κ×Value)}(r:KV b vs)(k:κ){y:V}{u:Value}(j:RelV y u) :
  KV (b.map fun a=>if a.1=k then (a.1,y) else a) (vs.map fun a=>if a.1=k then (a.1,u) else a):=by
 unfold KV at r ⊢
 induction r with
 | nil=>exact .nil
 | @cons p q l m h t i=>
  rw [TM,TM]
  refine .cons ?_ i
  obtain ⟨c,d⟩:=h
  by_cases e:p.1=k
  ·rw [if_pos e,if_pos (c.symm.trans e)];exact ⟨c,j⟩
  ·rw [if_neg e,if_neg (fun z=>e (c.trans z))];exact ⟨c,d⟩
theorem KV.put {a:List (κ×V)}{vs:List (κ×Value)}(r:KV a vs)(k:κ){y:V}{u:Value}(b:RelV y u):KV (gR a k y) (stored vs k u):=by
 unfold gR stored
 rw [r.any k]
 by_cases e:(vs.any fun c=>decide (c.1=k))=true
 ·rw [if_pos e,if_pos e];exact r.repl k b
 ·rw [if_neg e,if_neg e];exact Y3 r ⟨rfl,b⟩
theorem KV.drop {c:List (κ×V)}{vs:List (κ×Value)}(r:KV c vs)(k:κ):KV (AS c k) (without vs k):=by
 unfold KV at r ⊢
 unfold AS without
 induction r with
 | nil=>exact .nil
 | @cons p q m n h t i=>
  obtain ⟨d,l⟩:=h
  rw [Yc,Yc]
  by_cases e:p.1=k
  ·have a:¬ decide (p.1≠k)=true:=by simp [e]
   have b:¬ decide (q.1≠k)=true:=by simp [d.symm.trans e]
   rw [if_neg a,if_neg b];exact i
  ·have j:¬ q.1=k:=fun z=>e (d.trans z)
   have a:decide (p.1≠k)=true:=by simp [e]
   have b:decide (q.1≠k)=true:=by simp [j]
   rw [if_pos a,if_pos b];exact .cons ⟨d,l⟩ i
theorem KV.keys {a:List (κ×V)}{vs:List (κ×Value)}(r:KV a vs):a.map (·.1)=vs.map (·.1):=by
 unfold KV at r
 induction r with
 | nil=>rfl
 | cons h t b=>rw [TM,TM,b,h.1]
theorem KV.length {a:List (κ×V)}{vs:List (κ×Value)}(r:KV a vs):a.length=vs.length:=Zz r
end
noncomputable abbrev KT (H:Hp):List (List aM×V)->List (List aM×Addr×Value)->Prop:=X6 fun p q=>p.1=q.1/\H q.2.1=some (.tup (p.1.map kV))/\RelV p.2 q.2.2
theorem KT.val {H:Hp}{a:List (List aM×V)}{xs:List (List aM×Addr×Value)}(r:KT H a xs)(k:List aM):RelO (eB a k) ((XM xs k).map (·.2)):=by
 induction r with
 | nil=>exact We
 | @cons p q m d h t l=>
  obtain ⟨i,_,j⟩:=h
  by_cases e:p.1=k
  ·have c:q.1=k:=i.symm.trans e
   have b:XM (q::d) k=some q.2:=by simp [XM,U0,c]
   rw [vC e,b];exact j
  ·have c:¬ q.1=k:=fun z=>e (i.trans z)
   have b:XM (q::d) k=XM d k:=by simp [XM,U0,c]
   rw [vD e,b];exact l
theorem KT.repl {H:Hp}{a:List (List aM×V)}{xs:List (List aM×Addr×Value)}(r:KT H a xs)(k:List aM){y:V}{u:Value}(l:RelV y u) :
  KT H (a.map fun c=>if c.1=k then (c.1,y) else c) (xs.map (a3x k u)):=by
 induction r with
 | nil=>exact .nil
 | @cons p q m n h t j=>
  rw [TM,TM]
  refine .cons ?_ j
  obtain ⟨b,d,i⟩:=h
  unfold a3x
  by_cases e:p.1=k
  ·rw [if_pos e,if_pos (b.symm.trans e)];exact ⟨b,d,l⟩
  ·rw [if_neg e,if_neg (fun z=>e (b.trans z))];exact ⟨b,d,i⟩
theorem KT.put {H:Hp}{a:List (List aM×V)}{xs:List (List aM×Addr×Value)}(r:KT H a xs)(k:List aM){b:Addr}{y:V}{u:Value}(d:H b=some (.tup (k.map kV)))(c:RelV y u) :
  KT H (gR a k y) (a2x xs k b u):=by
 have e:(a.any fun h=>decide (h.1=k))=(XM xs k).isSome:=by
  rw [AU,(r.val k).isSome_eq,XT]
 unfold gR a2x
 rw [e]
 by_cases q:(XM xs k).isSome=true
 ·rw [if_pos q,if_pos q];exact r.repl k c
 ·rw [if_neg q,if_neg q];exact Y3 r ⟨rfl,d,c⟩
theorem KT.keeps {H H':Hp}{a:List (List aM×V)}{xs:List (List aM×Addr×Value)}(r:KT H a xs)(d:∀ b c,H b=some (.tup c)->H' b=some (.tup c)):KT H' a xs:=
 X6.mapP r fun _ _ z=>⟨z.1,d _ _ z.2.1,z.2.2⟩
section
variable {P:Ud}{w:Uv}{H:Hp}{h:UU}{a:Addr}
end
noncomputable def DGet (H:Hp)(a:Addr)(y:V)(r:Option V):Prop:=
 (∃ c k,Rd H a (.dK c)/\y=kV k/\r=eB c k)\/∃ c k b,Rd H a (.dT c)/\y=.ref b/\H b=some (.tup (k.map kV))/\r=eB c k
noncomputable def DPut (H:Hp)(a:Addr)(y v:V)(H':Hp):Prop:=
 (∃ c k,H a=some (.dK c)/\y=kV k/\c.length<TZ/\H'=aL H a (.dK (gR c k v))) \/
 ∃ c k b,H a=some (.dT c)/\y=.ref b/\H b=some (.tup (k.map kV))/\c.length<TZ/\H'=aL H a (.dT (gR c k v))
theorem DGet.k {H:Hp}{a:Addr}{b:List (aM×V)}{k:aM}(e:H a=some (.dK b)):DGet H a (kV k) (eB b k):=.inl ⟨b,k,.inl e,rfl,rfl⟩
theorem DGet.t {H:Hp}{a b:Addr}{c:List (List aM×V)}{k:List aM}(e:H a=some (.dT c))(d:H b=some (.tup (k.map kV))):DGet H a (.ref b) (eB c k):=.inr ⟨c,k,b,.inl e,rfl,d,rfl⟩
theorem DPut.k {H:Hp}{a:Addr}{b:List (aM×V)}{k:aM}{v:V}(e:H a=some (.dK b))(c:b.length<TZ):DPut H a (kV k) v (aL H a (.dK (gR b k v))):=.inl ⟨b,k,e,rfl,c,rfl⟩
theorem DPut.t {H:Hp}{a b:Addr}{c:List (List aM×V)}{k:List aM}{v:V}(e:H a=some (.dT c))(d:H b=some (.tup (k.map kV)))(h:c.length<TZ) :
  DPut H a (.ref b) v (aL H a (.dT (gR c k v))):=.inr ⟨c,k,b,e,rfl,d,h,rfl⟩
section
variable {X:Cx}{a3F:List (Addr×Obj)}{σ:St}{H:Hp}{s:TC}{a:Addr}{y v:V}{u r:Value}{o:Option V}{A:Ur}{E:Value->TC->Prop}
theorem Inv.big (I:Inv X a3F σ H s):Ve<s.heap.objs.size:=by
 have h:UI<s.heap.objs.size:=(I.mod.glob.keeps I.bk).lt
 exact Yk (by decide) h
theorem AV {h':UU}{t':Nat}{ob:HO}(I:Inv X a3F σ H s)(h:oY (H a))(e:VT a s.heap h')(d:∃ q,h'.get? a=some q)(new:ObjOk X.prog X.w (aL H a ob) h' a ob) :
  Inv X a3F σ (aL H a ob) { s with heap:=h',toks:=t' }:=
 I.write (x:=a) (e:=a) h (.inl rfl) (fun b q c z=>(e.2 b c).trans z) d new
end
section
variable {X:Cx}{a3F:List (Addr×Obj)}{σ:St}{H:Hp}{s:TC}{a:Addr}{kvs:List (aM×V)}{k:aM}{u:Value}{A:Ur}{E:Value->TC->Prop}
end
noncomputable def AW (i:Expr):Prop:=∀ ov a,ZS i false ov a=operate [ov,a] (Z6 ov a)
theorem HX {prog:Ud}{w:Uv}{A:Ur}{E:Value->TC->Prop}{s:TC}{env:XU}{b a:Expr}{pos:Vt}{T id:String}{Q:Value->TC->Prop}
  (p:a0e (.type T) "__getitem__" = pure (some (.builtin id))) (q:AW a)
  (h:Ua (Ul prog w) A (eval b env) (fun o e=>Ua (Ul prog w) A (eval a env) (fun i c=>c.TypeIs o T/\Ua (Ul prog w) A (Z6 o i) Q E c) E e) E s) :
  Ua (Ul prog w) A (eval (.Subscript b a pos) env) Q E s:=by
 refine a0k (UH h (fun o e l=>UH l (fun i c d=>?_) fun _ _ x=>x) fun _ _ x=>x)
 obtain ⟨n,d⟩:=d
 unfold Y8
 refine Tx ?_
 rw [getitemInPython_of_ne n.not_modules]
 refine Tx (W4 n p ?_)
 have aV:Ua (Ul prog w) A (ZS a false o i) (fun r j=>Ua (Ul prog w) A (letTemporaryGo b o r >>= fun _=>pure r) Q E j) E c:=by
  rw [q o i]
  exact wpAny_operating (UH d (fun r j m=>Tx (wpAny_letTemporaryGo (TN m))) fun _ _ x=>x)
 first
  | exact TN (Tx aV)
  | exact Tx (TN (Tx aV))
  | exact Tx aV
section
variable {X:Cx}{o i e value:Expr}{pos pos' tpos:Vt}{td ty tv:TE}
end
section
variable {X:Cx}{pos:Vt}
end
noncomputable def AX:List (TE×TE)->St->Hp->(List (V×V)->Hp->Prop)->Prop
 | [],_,H,Q=>Q [] H
 | (tk,tv)::r,σ,H,Q=>tk σ H fun x a=>tv σ a fun y b=>AX r σ b fun d c=>Q ((x,y)::d) c
noncomputable abbrev VV:List (V×V)->List (Value×Value)->Prop:=X6 fun p q=>RelV p.1 q.1/\RelV p.2 q.2
noncomputable def HY (X:Cx)(pos:Vt)(keys:List (Option Expr))(a:List Expr)(b:List (TE×TE)):Prop:=
 ∀ (a3F:List (Addr×Obj))(s:TC)(σ:St)(H:Hp)(Q:List (V×V)->Hp->Prop),Inv X a3F σ H s->AX b σ H Q->
  Ua (Ul X.prog X.w) X.A (evalPairs (pairTrees keys a X.env pos)) (fun h e=>∃ d c,Inv X a3F σ c e/\VV d h/\Q d c) X.xe s
noncomputable def AY (b more:List (aM×V)):List (aM×V):=more.foldl (fun a c=>gR a c.1 c.2) b
theorem KV.merge:∀ {more:List (aM×V)}{b:List (aM×Value)}{a:List (aM×V)}{vs:List (aM×Value)},KV more b->KV a vs->KV (AY a more) (merged vs b):=by
 intro more b a vs r
 unfold KV at r
 induction r generalizing a vs with
 | nil=>intro q;exact q
 | @cons p q i j h t c=>
  intro d
  have e:KV (gR a p.1 p.2) (stored vs q.1 q.2):=by
   have:=d.put p.1 h.2
   rw [<- h.1];exact this
  exact c e
structure M1 (X:Cx)(o:Expr)(m:Str)(apos:Vt)(e:Expr)(cpos:Vt):Prop where
 base:Wl o m X.env (eval o X.env)=eval o X.env
 few:((VF cpos (Ue [e] X.env)).all (fun x=>!x.1)&&(XJ cpos (Wt [] X.env)).all (fun x=>x.1.isSome)
  && decide (([e]:List Expr).length+([]:List WJ).length+(if ([]:List WJ).isEmpty then 0 else 1)<30))=true
 line:(apos.endLine == cpos.line)=true
 trees:VF cpos (Ue [e] X.env)=[(false,eval e X.env)]
structure M2 (X:Cx)(o:Expr)(m:Str)(apos:Vt)(e f:Expr)(cpos:Vt):Prop where
 base:Wl o m X.env (eval o X.env)=eval o X.env
 few:((VF cpos (Ue [e,f] X.env)).all (fun x=>!x.1)&&(XJ cpos (Wt [] X.env)).all (fun x=>x.1.isSome)
  && decide (([e,f]:List Expr).length+([]:List WJ).length+(if ([]:List WJ).isEmpty then 0 else 1)<30))=true
 line:(apos.endLine == cpos.line)=true
 trees:VF cpos (Ue [e,f] X.env)=[(false,eval e X.env),(false,eval f X.env)]
noncomputable def IsD (H:Hp)(a:Addr):Prop:=(∃ b,Rd H a (.dK b))\/∃ b,Rd H a (.dT b)
section
variable {X:Cx}{a3F:List (Addr×Obj)}{σ:St}{H:Hp}{s:TC}{a:Addr}{y d:V}{u r:Value}{o:Option V}{A:Ur}{E:Value->TC->Prop}
end
section
variable {X:Cx}{o e f:Expr}{apos cpos:Vt}{td ty tx:TE}
end
section
variable {X:Cx}{a3F:List (Addr×Obj)}{σ:St}{H:Hp}{s:TC}{a:Addr}{kvs:List (aM×V)}{A:Ur}{E:Value->TC->Prop}
end
section
variable {X:Cx}{a3F:List (Addr×Obj)}{σ:St}{H:Hp}{s:TC}{a:Addr}{y:V}{u:Value}{A:Ur}{E:Value->TC->Prop}
end
end L2
namespace HT
open PySem PyProof.Rows
section
open PySem.SeqAt
open PySem.AutoSeq1 (wpAny_loadPart')
open PySem.MeetsSeq PySem.MeetsSeq2 PySem.MeetsSeq3
end
section
variable {prog:Ud}{w:Uv}{A:Ur}{E:Value->TC->Prop}{s:TC}
noncomputable def sIx (n d:Nat):Option Int->Nat
 | none=>d
 | some v=>if v<0 then (v+(n:Int)).toNat else min v.toNat n
end
end HT
namespace L2
open PySem PySem.Spec PyProof.Rows
noncomputable abbrev TO:=St->Hp->(Option Int->Hp->Prop)->Prop
noncomputable def PO (X:Cx)(e:Option Expr)(t:TO):Prop:=
 ∀ (a3F:List (Addr×Obj))(s:TC)(σ:St)(H:Hp)(Q:Option Int->Hp->Prop),Inv X a3F σ H s->t σ H Q->
  Ua (Ul X.prog X.w) X.A (evalPart e X.env) (fun u b=>∃ o a,Inv X a3F σ a b/\IsPart u o/\Q o a) X.xe s
noncomputable def HZ:TO:=fun _ H Q=>Q none H
noncomputable def Ia (t:TE):TO:=fun σ H Q=>t σ H fun x a=>∃ i,x=.int i/\Q (some i) a
section
variable {X:Cx}{e:Expr}{te:TE}{lo hi:Option Expr}{tl th:TO}{pos p2:Vt}
theorem Ib:PO X none HZ:=by
 intro a s b H Q I h
 rw [evalPart_none]
 exact TN ⟨none,H,I,.none,h⟩
theorem Ic (h:PE X e te):PO X (some e) (Ia te):=by
 intro a s l H Q I hw
 rw [evalPart_some]
 refine aN (h a s l H _ I hw) fun u m ⟨x,b,c,j,d⟩=>?_
 obtain ⟨i,rfl,q⟩:=d
 obtain ⟨t,rfl⟩:=j
 exact ⟨some i,b,c,.int i t,q⟩
noncomputable def SlR (X:Cx)(r:V->Option Int->Option Int->Hp->VK->Prop):Prop:=
 ∀ (a3F:List (Addr×Obj))(s:TC)(σ:St)(H:Hp)(x:V)(v b c:Value)(lo hi:Option Int)(a:Addr)(Q:VK),Inv X a3F σ H s->RelV x v->s.heap.IsSliceOf a b c .none->IsPart b lo->IsPart c hi->r x lo hi H Q->
  ∃ T id,a0e (.type T) "__getitem__" = pure (some (.builtin id))/\s.TypeIs v T/\Ua (Ul X.prog X.w) X.A (Z6 v (.ref a)) (EP X a3F σ Q) X.xe s
theorem SlR.or {r i:V->Option Int->Option Int->Hp->VK->Prop}(h:SlR X r)(h':SlR X i):SlR X (fun x lo hi H Q=>r x lo hi H Q\/i x lo hi H Q):=by
 intro a s o H x v m n lo hi l Q I j b c d q
 rcases q with q|q
 ·exact h a s o H x v m n lo hi l Q I j b c d q
 ·exact h' a s o H x v m n lo hi l Q I j b c d q
noncomputable def Ie (r:V->Option Int->Option Int->Hp->VK->Prop)(te:TE)(tl th:TO):TE:=fun σ H Q=>te σ H fun x a=>tl σ a fun l b=>th σ b fun u c=>r x l u c Q
theorem Ig {r:V->Option Int->Option Int->Hp->VK->Prop}(J:SlR X r)(B:PE X e te)(G:PO X lo tl)(L:PO X hi th):PE X (.Subscript e (.Slice lo hi none p2) pos) (Ie r te tl th):=by
 intro a s d H Q I h
 refine a0k (aN (B a s d H _ I h) fun v Z ⟨x,n,p,Y,O⟩=>?_)
 refine wpAny_Slice (aN (G a Z d n _ p O) fun i s2 ⟨l,o,w,M,R⟩=>aN (L a s2 d o _ w R) fun j c ⟨u,m,y,N,U⟩=>?_)
 rw [evalPart_none]
 refine TN ?_
 have z:Inv X a d m { c with heap:=c.heap.push { cls:=.type "slice",data:=.fields #[i,j,.none] } }:=y.kept (t':=c.toks) fun b ob q=>TL _ q
 obtain ⟨T,id,A,K,E⟩:=J a { c with heap:=c.heap.push { cls:=.type "slice",data:=.fields #[i,j,.none] } } d m x v i j l u c.heap.objs.size Q z Y (Zm ..) M N U
 show Ua (Ul X.prog X.w) X.A (Y8 e (.Slice lo hi none p2) v (.ref c.heap.objs.size)) (EP X a d Q) X.xe { c with heap:=c.heap.push { cls:=.type "slice",data:=.fields #[i,j,.none] } }
 exact a3w (ops:=[.ref c.heap.objs.size,v]) K A E (by with_unfolding_all rfl)
noncomputable def kN (xs:List V)(lo hi:Option Int):List V:=(xs.drop (HT.sIx xs.length 0 lo)).take (HT.sIx xs.length xs.length hi - HT.sIx xs.length 0 lo)
theorem Ih (xs:List V)(lo hi:Option Int):(kN xs lo hi).length<=xs.length:=by
 unfold kN
 rw [UZ,Yb]
 omega
end
end L2
namespace L2
open PySem PySem.Spec PyProof.Rows
noncomputable def kP (n:Nat)(i:Int):Option Nat:=if 0<=i then (if i<n then some i.toNat else none) else if -(n:Int)<=i then some (i+n).toNat else none
noncomputable def atI {a:Type}(xs:List a)(i:Int):Option a:=(kP xs.length i).bind fun j=>xs[j]?
theorem Ii {n:Nat}{i:Int}{j:Nat}(h:kP n i=some j):seqIndex? i n=some j/\j<n/\-(n:Int)<=i/\i<n:=by
 unfold kP at h
 by_cases b:0<=i
 ·rw [if_pos b] at h
  by_cases a:i<n
  ·rw [if_pos a] at h
   have e:i.toNat=j:=T5 h
   exact ⟨by rw [seqIndex_of b a,e],by omega,by omega,a⟩
  ·rw [if_neg a] at h;cases h
 ·rw [if_neg b] at h
  by_cases a:-(n:Int)<=i
  ·rw [if_pos a] at h
   have e:(i+n).toNat=j:=T5 h
   exact ⟨by rw [seqIndex_neg (by omega) a,e],by omega,a,by omega⟩
  ·rw [if_neg a] at h;cases h
theorem vF {a:Type}{xs:List a}{i:Int}{v:a}(h:atI xs i=some v):∃ j,seqIndex? i xs.length=some j/\xs[j]? = some v/\j<xs.length/\-(xs.length:Int)<=i/\i<xs.length:=by
 unfold atI at h
 cases e:kP xs.length i with
 | none=>rw [e] at h;cases h
 | some j=>
  rw [e] at h
  obtain ⟨b,c,d,l⟩:=Ii e
  exact ⟨j,b,h,c,d,l⟩
noncomputable def vG (b:Expr):Prop:=∀ o i,ZS b false o i=operate [o,i] (Z6 o i)
noncomputable def IxR (X:Cx)(r:R2):Prop:=
 ∀ (b a:Expr)(a3F:List (Addr×Obj))(s:TC)(σ:St)(H:Hp)(x y:V)(v u:Value)(Q:VK),Inv X a3F σ H s->RelV x v->RelV y u->r x y H Q->
  ZS a false v u=operate [v,u] (Z6 v u)->Ua (Ul X.prog X.w) X.A (Y8 b a v u) (EP X a3F σ Q) X.xe s
noncomputable def MtR (X:Cx)(id:String)(r:V->List V->Hp->VK->Prop):Prop:=
 ∀ (a3F:List (Addr×Obj))(s:TC)(σ:St)(H:Hp)(x:V)(xs:List V)(v:Value)(us:List Value)(Q:VK),Inv X a3F σ H s->RelV x v->Vals xs us->r x xs H Q->
  Ua (Ul X.prog X.w) X.A (call (.builtin id) (v::us)) (EP X a3F σ Q) X.xe s
section
variable {X:Cx}{a b:Expr}{ta tb:TE}{pos:Vt}
theorem IxR.or {r j:R2}(h:IxR X r)(h':IxR X j):IxR X (fun x y H Q=>r x y H Q\/j x y H Q):=by
 intro d c e s n H x y v u Q I l m q i
 rcases q with q|q
 ·exact h d c e s n H x y v u Q I l m q i
 ·exact h' d c e s n H x y v u Q I l m q i
theorem MtR.or {id:String}{r d:V->List V->Hp->VK->Prop}(h:MtR X id r)(h':MtR X id d):MtR X id (fun x xs H Q=>r x xs H Q\/d x xs H Q):=by
 intro c s l H x xs v j Q I i e q
 rcases q with q|q
 ·exact h c s l H x xs v j Q I i e q
 ·exact h' c s l H x xs v j Q I i e q
theorem Ij {r:R2}(l:IxR X r)(i:PE X a ta)(j:PE X b tb)(m:vG b):PE X (.Subscript a b pos) (o9 r ta tb):=by
 intro c s w H Q I h
 exact a0k (uV i j I h fun v u p x y d e n o q=>l a b c p w d x y v u Q e n o q (m _ _))
noncomputable def AZ (K:Tv):R2:=fun x y H Q=>∃ p xs i v,x=.ref p/\y=.int i/\SqL K H p xs/\atI xs i=some v/\Q v H
noncomputable def A0 (K:Tv):R2:=fun x y H Q=>∃ p xs i v,x=.ref p/\y=.int i/\SqT K H p xs/\atI xs i=some v/\Q v H
noncomputable def A1:R2:=fun x y H Q=>∃ z i c,x=.str z/\y=.int i/\z.length<=TZ/\atI z.cps.toList i=some c/\Q (.str ⟨#[c]⟩) H
theorem ix_list:IxR X (AZ X.K):=by
 intro A o c s J H x y v u Q I T U h G
 obtain ⟨p,xs,i,z,rfl,rfl,R,N,q⟩:=h
 cases T
 obtain ⟨t,rfl⟩:=U
 obtain ⟨l,r,m,hz⟩:=I.list R
 obtain ⟨j,d,K,Z,L,M⟩:=vF N
 obtain ⟨w,B,n⟩:=r.get K
 have O:=r.length
 have hn:=m4
 have aV:EP X c J Q w s:=⟨z,H,I,n,q⟩
 by_cases E:0<=i
 ·have e:i.toNat=j:=by
   rw [seqIndex_of E M] at d
   exact T5 d
  exact item_listR m.isList E (by omega) (by rw [e];simpa using B) aV G
 ·have e:(i+(l.toArray.size:Int)).toNat=j:=by
   rw [seqIndex_neg (by omega) L] at d
   rw [Up,<- O]
   exact T5 d
  exact a1a (x:=w) m.isList.typeIs Zp.lookup
   (wpAny_getItem_list_neg (Q:=fun r Y=>r=w/\EP X c J Q r Y) m.isList (by omega) (by rw [Up]<;>omega) (by omega) (by rw [e];simpa using B) ⟨rfl,aV⟩) G
theorem ix_tup:IxR X (A0 X.K):=by
 intro l e c s n H x y v u Q I M N h K
 obtain ⟨p,xs,i,z,rfl,rfl,J,E,q⟩:=h
 cases M
 obtain ⟨t,rfl⟩:=N
 obtain ⟨L,r,m,Z⟩:=I.tuple J
 obtain ⟨j,A,B,R,T,U⟩:=vF E
 obtain ⟨w,o,d⟩:=r.get B
 have G:=r.length
 have Y:=m4
 have aV:EP X c n Q w s:=⟨z,H,I,d,q⟩
 exact a1a (x:=w) m.typeIs slot_tuple_getitem.lookup
  (getItem_tuple (j:=j) (Q:=fun r O=>r=w/\EP X c n Q r O) m (by omega) (by omega) (by rw [Up,<- G];exact A) (by simpa using o) ⟨rfl,aV⟩) K
theorem Ik:IxR X A1:=by
 intro e d m s O H x y v u Q I G J h E
 obtain ⟨z,i,c,rfl,rfl,M,A,q⟩:=h
 obtain ⟨t,rfl⟩:=G
 obtain ⟨N,rfl⟩:=J
 obtain ⟨j,l,p,K,r,w⟩:=vF A
 have B:z.cps.toList.length=z.length:=by simp [Str.length]
 rw [B] at l r w
 have L:=m4
 exact a3w (typeIs_str s z t) slot_str_getitem.lookup (getItem_str (c:=c) (by
  have n:decide (i < -(2 ^ 63:Int))=false:=decide_eq_false (by omega)
  have o:decide (i >= 2 ^ 63)=false:=decide_eq_false (by omega)
  rw [n,o,a2n]) (by rw [l];simpa using p) ⟨.str ⟨#[c]⟩,H,I.tok _,⟨_,rfl⟩,q⟩) E
noncomputable def A2 (K:Tv):R2:=fun x y H Q=>AZ K x y H Q\/A0 K x y H Q\/A1 x y H Q
theorem Il:IxR X (A2 X.K):=ix_list.or (ix_tup.or Ik)
theorem Inv.lst {a3F:List (Addr×Obj)}{σ:St}{H:Hp}{s:TC}{p:Addr}{xs:List V}(I:Inv X a3F σ H s)(h:H p=some (.lst xs)) :
  ∃ (its:List Value)(n:Nat),Vals xs its/\s.heap.get? p=some { cls:=.type "list",data:=.seq its.toArray n }/\xs.length<=TZ:=by
 obtain ⟨z,its,n,r,e⟩:=I.hok p _ h
 exact ⟨its,n,r,e,z⟩
theorem Im (lo c:Option Int)(n:Nat):(VX lo c none n).1=((HT.sIx n 0 lo:Nat):Int)/\(VX lo c none n).2.1=((HT.sIx n n c:Nat):Int)/\(VX lo c none n).2.2=1:=by
 refine ⟨?_,?_,rfl⟩
 ·cases lo with
  | none=>simp [VX,HT.sIx]
  | some i=>
   simp only [VX,HT.sIx,YQ,show (1:Int)>0 by decide,if_true]
   by_cases h:i<0
   ·simp only [h,if_true]<;>omega
   ·simp only [h,if_false]<;>omega
 ·cases c with
  | none=>simp [VX,HT.sIx]
  | some i=>
   simp only [VX,HT.sIx,YQ,show (1:Int)>0 by decide,if_true]
   by_cases h:i<0
   ·simp only [h,if_true]<;>omega
   ·simp only [h,if_false]<;>omega
theorem Io (its:List Value)(lo c:Option Int):a0O its.toArray lo c none=((its.drop (HT.sIx its.length 0 lo)).take (HT.sIx its.length its.length c - HT.sIx its.length 0 lo)).toArray:=by
 obtain ⟨d,e,h⟩:=Im lo c its.toArray.size
 unfold a0O
 rw [d,e,h]
 simp only [sliceRange_one,pick_run,Up]<;>rfl
noncomputable def vH (K:Tv):V->Option Int->Option Int->Hp->VK->Prop:=fun x lo c H Q=>∃ a xs,x=.ref a/\SqL K H a xs/\∀ p,H p=none->Q (.ref p) (aL H p (.lst (kN xs lo c)))
theorem Ip:SlR X (vH X.K):=by
 intro l s G H x v B E e i A Q I y m u w h
 obtain ⟨a,c,rfl,n,q⟩:=h
 cases y
 obtain ⟨p,r,j,o⟩:=I.list n
 have d:=r.length
 refine ⟨"list",_,Zp.lookup,j.isList.typeIs,?_⟩
 refine a0D j.isList m u w .none (by simp) ?_ (by rw [Up]<;>omega)
 rw [Io,<- d]
 refine ⟨.ref s.heap.objs.size,_,I.laid (t':=s.toks) (o:=.lst (kN c e i)) (fun b z q=>TL _ q) (TR _) ?_,rfl,q _ (I.hok.fresh (TR _))⟩
 exact ⟨UT (Ih c e i) o,_,0,(r.drop (HT.sIx c.length 0 e)).take (HT.sIx c.length c.length i - HT.sIx c.length 0 e),Ub _ rfl⟩
theorem A3:OpR X (UY .NotIn) (fun x y H Q=>∃ i j,x=.str i/\y=.str j/\Q (.bl (!(!(Vr j i 0 j.length 1).isEmpty))) H):=by
 intro c s m H x y v u Q I d e h
 obtain ⟨i,j,rfl,rfl,q⟩:=h
 obtain ⟨t,rfl⟩:=d
 obtain ⟨l,rfl⟩:=e
 exact notIn_str ⟨.bl _,H,I,rfl,q⟩
theorem call_len_seq:CallR X (.builtin "len") (fun xs H Q=>∃ p d,xs=[.ref p]/\(SqL X.K H p d\/SqT X.K H p d)/\Q (.int d.length) H):=by
 intro m s x H xs w Q I r h
 obtain ⟨p,d,rfl,e,q⟩:=h
 obtain ⟨u,rfl,o⟩:=iX r
 cases o
 have v:=m4
 rcases e with e|e
 ·obtain ⟨i,l,j,n⟩:=I.list e
  have c:=l.length
  exact Calls.call_len_list j.isList (by simp only [Up]<;>omega) ⟨.int d.length,H,I.tok _,⟨s.toks+1,by rw [Up,c]⟩,q⟩
 ·obtain ⟨i,l,j,n⟩:=I.tuple e
  have c:=l.length
  exact len_tuple j (by simp only [Up]<;>omega) ⟨.int d.length,H,I.tok _,⟨s.toks+1,by rw [Up,c]⟩,q⟩
theorem Iq:CallR X (.builtin "len") (fun xs H Q=>∃ z,xs=[.str z]/\z.length<=TZ/\Q (.int z.length) H):=by
 intro c s j H xs i Q I r h
 obtain ⟨z,rfl,e,q⟩:=h
 obtain ⟨u,rfl,t,rfl⟩:=iX r
 have d:=m4
 exact len_str (by omega) ⟨.int z.length,H,I.tok _,⟨_,rfl⟩,q⟩
theorem CallR.or {f:Value}{r d:List V->Hp->VK->Prop}(h:CallR X f r)(h':CallR X f d):CallR X f (fun xs H Q=>r xs H Q\/d xs H Q):=by
 intro c s j H xs i Q I e q
 rcases q with q|q
 ·exact h c s j H xs i Q I e q
 ·exact h' c s j H xs i Q I e q
theorem call_list_of:CallR X (.type "list") (fun xs H Q=>∃ p i,xs=[.ref p]/\(SqL X.K H p i\/SqT X.K H p i)/\∀ l,H l=none->Q (.ref l) (aL H l (.lst i))):=by
 intro x s E H xs G Q I r h
 obtain ⟨p,i,rfl,m,q⟩:=h
 obtain ⟨u,rfl,B⟩:=iX r
 cases B
 have aV:∀ (its:List Value),Vals i its->i.length<=TZ->∀ (h':UU)(c:Nat),(∀ b A,s.heap.get? b=some A->h'.get? b=some A)->
   h'.get? s.heap.objs.size=some { cls:=.type "list",dict:=none,data:=.seq its.toArray c,slots:=#[] }->EP X x E Q (.ref s.heap.objs.size) { s with heap:=h' }:=fun its d v h' c w e=>
  ⟨.ref s.heap.objs.size,_,I.laid (t':=s.toks) w (TR _) (show ObjOk X.prog X.w _ h' _ (.lst i) from ⟨v,its,c,d,e⟩),rfl,q _ (I.hok.fresh (TR _))⟩
 rcases m with m|m
 ·obtain ⟨its,d,z,v⟩:=I.list m
  have j:=d.length
  obtain ⟨o,y,hc,n,hd⟩:=z.isList
  exact call_list_seq p (.inl rfl) y hc hd (fun h' c w e=>aV its d v h' c w e) (by simp only [Up]<;>omega)
 ·obtain ⟨its,d,z,v⟩:=I.tuple m
  have j:=d.length
  obtain ⟨o,y,hc,n,hd⟩:=z
  exact call_list_seq p (.inr rfl) y hc hd (fun h' c w e=>aV its d v h' c w e) (by simp only [Up]<;>omega)
theorem Ir:CallR X (.type "tuple") (fun xs H Q=>∃ p d,xs=[.ref p]/\((SqL X.K H p d/\∀ l,H l=none->Q (.ref l) (aL H l (.tup d)))\/(SqT X.K H p d/\Q (.ref p) H))):=by
 intro i s z H xs G Q I r h
 obtain ⟨p,d,rfl,h⟩:=h
 obtain ⟨u,rfl,E⟩:=iX r
 cases E
 rcases h with ⟨m,q⟩|⟨m,q⟩
 ·obtain ⟨c,v,n,y⟩:=I.list m
  have x:=v.length
  refine call_tuple_list n.isList (fun j B=>?_) (by simp only [Up]<;>omega)
  have w:Inv X i z H { s with heap:=j }:=I.kept (t':=s.toks) B
  have A:Inv X i z (aL H j.objs.size (.tup d)) { s with heap:=j.push { cls:=.type "tuple",data:=.seq c.toArray } }:=
   w.laid (t':=s.toks) (fun b o e=>TL _ e) (TR _) (show ObjOk X.prog X.w _ _ _ (.tup d) from ⟨y,c,v,TupN.new _ _⟩)
  exact ⟨.ref j.objs.size,_,A,rfl,q _ (w.hok.fresh (TR _))⟩
 ·obtain ⟨c,v,n,y⟩:=I.tuple m
  exact call_tuple_same n ⟨.ref p,H,I,rfl,q⟩
noncomputable def vJ (K:Tv)(T:String)(x:V)(H:Hp):Prop:=match x with
 | .str _=>T = "str"
 | .int _=>T = "int"
 | .ref p=>(T = "list"/\∃ d,SqL K H p d)\/(T = "tuple"/\∃ o,K.lookup p=some o/\o.cls=.type "tuple"/\o.dict=none) \/
   (T = "dict"/\((∃ c,H p=some (.dK c))\/∃ c,H p=some (.dT c)))\/(T = "set"/\∃ S n,H p=some (.set S n))
 | _=>False
theorem Iu {a3F:List (Addr×Obj)}{σ:St}{H:Hp}{s:TC}{T:String}{x:V}{v:Value}(I:Inv X a3F σ H s)(r:RelV x v)(ty:vJ X.K T x H) :
  s.TypeIs v T/\∀ a,v=.ref a->∃ m,s.heap.get? a=some m/\m.dict=none:=by
 cases x with
 | str z=>
  obtain ⟨t,rfl⟩:=r
  cases (show T = "str" from ty)
  exact ⟨typeIs_str s z t,fun _ e=>nomatch e⟩
 | int i=>
  obtain ⟨t,rfl⟩:=r
  cases (show T = "int" from ty)
  exact ⟨typeIs_int s i t,fun _ e=>nomatch e⟩
 | ref p=>
  cases r
  rcases ty with ⟨rfl,y,u⟩|⟨rfl,o,d,hc,hd⟩|⟨rfl,d⟩|⟨rfl,S,n,d⟩
  ·obtain ⟨w,_,q,_⟩:=I.list u
   refine ⟨q.isList.typeIs,fun a e=>?_⟩
   cases e
   obtain ⟨o,n,e,c,hd,_⟩:=q
   exact ⟨o,e,hd⟩
  ·refine ⟨⟨o,I.kIn p o d,hc⟩,fun a e=>?_⟩
   cases e
   exact ⟨o,I.kIn _ o d,hd⟩
  ·have z:∃ o,s.heap.get? p=some o/\o.ExactDict:=by
    rcases d with ⟨l,d⟩|⟨l,d⟩
    ·obtain ⟨_,_,_,_,o,_,_,e,h,_⟩:=I.hok p _ d
     exact ⟨o,e,h⟩
    ·obtain ⟨_,_,_,_,o,_,_,e,h,_⟩:=I.hok p _ d
     exact ⟨o,e,h⟩
   obtain ⟨o,e,h⟩:=z
   refine ⟨⟨o,e,h.1⟩,fun a j=>?_⟩
   cases j
   exact ⟨o,e,h.2.1⟩
  ·obtain ⟨o,_,_,_,e,h,_⟩:=I.hok p _ d
   refine ⟨⟨o,e,h.1⟩,fun a j=>?_⟩
   cases j
   exact ⟨o,e,h.2.1⟩
 | _=>exact UA ty
noncomputable def A4 (K:Tv)(T:String)(r:V->List V->Hp->VK->Prop)(to:TE)(t:TA):TE:=fun σ H Q=>to σ H fun x c=>vJ K T x c/\t σ c fun xs d=>r x xs d Q
variable {o e:Expr}{es:List Expr}{to:TE}{t:TA}{name:Str}{apos cpos:Vt}{T id:String}{r:V->List V->Hp->VK->Prop}
theorem Iv (L:PlainAttrs T)(slot:Slot T name id)(m:a0Z (.builtin id)=pure (.type "method_descriptor")) (G:MtR X id r)(J:PE X o to)(E:PA X (e::es) t)
  (i:Wl o name X.env (eval o X.env)=eval o X.env:=by rfl)
  (l:((VF cpos (Ue (e::es) X.env)).all (fun x=>!x.1)&&(XJ cpos (Wt [] X.env)).all (fun x=>x.1.isSome)
   && decide ((e::es).length+([]:List WJ).length+(if ([]:List WJ).isEmpty then 0 else 1)<30))=true:=by rfl)
  (j:(apos.endLine == cpos.line)=true:=by rfl)(K:Ue (e::es) X.env=(false,eval e X.env)::Ue es X.env:=by rfl)(c:(VF cpos (Ue es X.env)).any (·.1)=false:=by rfl) :
  PE X (.Call (.Attribute o name apos) (e::es) [] cpos) (A4 X.K T r to t):=by
 intro d s n H Q I h
 refine a0Y i l j rfl (aN (J d s n H _ I h) fun v R ⟨x,w,p,u,ty,M⟩=>?_)
 obtain ⟨A,B⟩:=Iu p u ty
 refine ⟨T,id,L,slot,m,A,B,?_⟩
 have q:=E cpos d R n w _ p M
 rw [K] at q ⊢
 refine W3 (by show (false||(VF cpos (Ue es X.env)).any (·.1))=false;rw [c]<;>rfl) (Ys ?_)
 exact aN q fun Y U ⟨Z,y,z,O,N⟩=>G d U n y x Z v Y Q z u O N
end
end L2
namespace L2
open PySem PySem.Spec PyProof.Rows
noncomputable def jQ (X:Cx)(id:String)(r:V->List V->Hp->VK->Prop):Prop:=
 ∀ (a3F:List (Addr×Obj))(s:TC)(σ:St)(H:Hp)(x:V)(xs:List V)(v:Value)(us:List Value)(Q:VK),Inv X a3F σ H s->RelV x v->Vals xs us->r x xs H Q->
  Ua (Ul X.prog X.w) X.A (call (.builtin id) (v::us)) (EP X a3F σ Q) X.xe s
theorem Vals.one:∀ {x:V}{us:List Value},Vals [x] us->∃ u,us=[u]/\RelV x u
 | _,_,.cons r .nil=>⟨_,rfl,r⟩
theorem Vals.two:∀ {x y:V}{us:List Value},Vals [x,y] us->∃ u v,us=[u,v]/\RelV x u/\RelV y v
 | _,_,_,.cons r (.cons q .nil)=>⟨_,_,rfl,r,q⟩
theorem Vals.zero:∀ {us:List Value},Vals [] us->us=[]
 | _,.nil=>rfl
theorem Vals.reverse {xs:List V}{us:List Value}(h:Vals xs us):Vals xs.reverse us.reverse:=by
 induction h with
 | nil=>exact .nil
 | cons r t a=>rw [Wx,Wx];exact Vals.append a (.cons r .nil)
section
variable {X:Cx}{a3F:List (Addr×Obj)}{σ:St}{H:Hp}{s:TC}{l b:Addr}{xs ys zs:List V}
theorem Inv.lset {its its':List Value}{n:Nat}{f:Array Value->Array Value}{t':Nat}(I:Inv X a3F σ H s)(a:H l=some (.lst xs))
  (e:s.heap.get? l=some { cls:=.type "list",data:=.seq its.toArray n }) (d:f its.toArray=its'.toArray)(i:Vals ys its')(hz:ys.length<=TZ) :
  Inv X a3F σ (aL H l (.lst ys)) { s with heap:=s.heap.update l (ZN f),toks:=t' }:=by
 have q:=PySem.IsL.update e f
 rw [d] at q
 refine I.write (x:=l) (e:=l) (by rw [a];exact trivial) (.inl rfl) (fun j u c h=>(Vx s.heap (ZN f) (UG c)).trans h) ⟨_,q⟩ ?_
 exact ⟨hz,its',_,i,q⟩
theorem Inv.lnew {its:List Value}{t':Nat}(I:Inv X a3F σ H s)(a:Vals ys its)(hz:ys.length<=TZ) :
  Inv X a3F σ (aL H s.heap.objs.size (.lst ys)) { s with heap:=s.heap.push { cls:=.type "list",data:=.seq its.toArray },toks:=t' }:=
 I.laid (fun _ _ q=>TL _ q) (TR _) ⟨hz,its,0,a,Ub _ rfl⟩
theorem Inv.fresh (I:Inv X a3F σ H s):H s.heap.objs.size=none:=I.hok.fresh (TR _)
theorem Inv.lstM (I:Inv X a3F σ H s)(a:H l=some (.lst xs)):xs.length<=TZ/\∃ (its:List Value)(n:Nat),Vals xs its/\xs.length=its.length/\s.heap.get? l=some { cls:=.type "list",data:=.seq its.toArray n }:=by
 obtain ⟨z,its,n,r,e⟩:=I.hok l _ a
 exact ⟨z,its,n,r,r.length,e⟩
theorem Iw {n:Nat}(h:n<=TZ):Xu n=false:=by
 unfold Xu
 exact decide_eq_false (by omega)
end
section
variable {X:Cx}
noncomputable def A5:V->List V->Hp->VK->Prop:=fun x vs H Q=>∃ l xs y,x=.ref l/\vs=[y]/\H l=some (.lst xs)/\xs.length<TZ/\Q .non (aL H l (.lst (xs++[y])))
theorem A6:jQ X "list.append" A5:=by
 intro c s B H x w v p Q I j i h
 obtain ⟨l,A,y,rfl,rfl,b,o,q⟩:=h
 cases j
 obtain ⟨u,rfl,d⟩:=i.one
 obtain ⟨z,a,n,r,m,e⟩:=I.lstM b
 refine call_meets F.slot_list_append ⟨_,e,rfl⟩ F.entry_list_append (F.args_list_append_2 _ _) (PySem.list_append l a.toArray n u (by rw [Up];omega)) ⟨e,?_⟩
 refine ⟨.non,_,I.lset (its':=a++[u]) b e (by simp) (r.append (.cons d .nil)) ?_,rfl,q⟩
 rw [TV,U3]
 omega
noncomputable def A7:V->List V->Hp->VK->Prop:=fun x vs H Q=>∃ l b xs a,x=.ref l/\vs=[.ref b]/\H l=some (.lst xs)/\H b=some (.lst a)/\xs.length+a.length<=TZ/\Q .non (aL H l (.lst (xs++a)))
theorem Iy:jQ X "list.extend" A7:=by
 intro m s T H x M v L Q I G E h
 obtain ⟨l,b,N,R,rfl,rfl,j,p,K,q⟩:=h
 cases G
 obtain ⟨u,rfl,B⟩:=E.one
 cases B
 obtain ⟨z,c,n,r,J,e⟩:=I.lstM j
 obtain ⟨O,a,y,A,w,o⟩:=I.lstM p
 have i:c.toArray.size+a.toArray.size<=TZ:=by rw [Up,Up];omega
 have d:¬ (!c.toArray.isEmpty&&Xu (c.toArray.size+a.toArray.size))=true:=by
  rw [Iw i,a2d]
  exact Ux
 refine call_meets F.slot_list_extend ⟨_,e,rfl⟩ F.entry_list_extend (F.args_list_extend_2 _ _)
  (AutoSeq1.list_extend_list_list_0 l c.toArray n b a.toArray y d (by rw [Up];omega) (by omega)) ⟨e,o,?_⟩
 refine ⟨.non,_,I.lset (its':=c++a) j e (by simp) (r.append A) ?_,rfl,q⟩
 rw [TV]
 omega
noncomputable def A8:R2:=fun x y H Q=>∃ l b xs a,x=.ref l/\y=.ref b/\H l=some (.lst xs)/\H b=some (.lst a)/\xs.length+a.length<=TZ/\∀ p,H p=none->Q (.ref p) (aL H p (.lst (xs++a)))
theorem Iz:OpR X (WM .Add) A8:=by
 intro d s N H x y v u Q I A B h
 obtain ⟨l,b,K,M,rfl,rfl,o,m,G,q⟩:=h
 cases A
 cases B
 obtain ⟨z,c,n,r,E,e⟩:=I.lstM o
 obtain ⟨L,a,J,w,p,i⟩:=I.lstM m
 refine PySem.P.add_list e i ?_ (by rw [Up,Up];omega)
 have j:c.toArray++a.toArray=(c++a).toArray:=by simp
 rw [j]
 exact ⟨.ref _,_,I.lnew (t':=s.toks) (r.append w) (by rw [TV];omega),rfl,q _ I.fresh⟩
end
section
variable {prog:Ud}{w:Uv}{A:Ur}{E:Value->TC->Prop}{s:TC}
end
section
variable {X:Cx}
end
end L2
namespace Att
open PySem PySem.W PySem.Calls PyProof.Rows
theorem IA {P:VC}{h:UU}:∀ (ns:List Int)(vs:List Value),WellAll P h vs (ns.map Xr)->a1r vs ns:=by
 intro ns
 induction ns with
 | nil=>
  intro vs w
  rw [XH] at w
  cases w
  exact .nil
 | cons n ns c=>
  intro vs w
  rw [TM] at w
  cases w with
  | cons a b=>
   cases a
   exact .cons _ _ (c _ b)
theorem script_of {l:OpenLaw}{n:Nat}(y:l.most=some n){P:VC}{h:UU}{args:List WData}{e:List Value}
  (c:l.row.toRowW.claim.pre args=true)(s:WellAll P h e args) :
  ∃ a u b,e=[T6 a]/\args=[WData.list (b.map Xr)]/\h.get? a=some { cls:=.type "list",data:=.seq u.toArray }/\a1r u b/\b.length<=n:=by
 have p:WShape.hasAll [] args [.list .int]=true:=(pre_splitW c).1
 have hc:l.pre.holds [] { args:=args } = true:=(pre_splitW c).2
 obtain ⟨d,r,rfl,v,w⟩:=hasAllW_cons p
 obtain rfl:=hasAllW_nil w
 obtain ⟨G,rfl,x⟩:=hasW_list v
 obtain ⟨b,rfl⟩:=items_int x
 have j:b.length<=n:=by
  unfold OpenLaw.pre at hc
  have m:(WTm.not (.lt (.lit (.int (n:Int))) (.len (.arg 0)))).holds [] { args:=[.list (b.map .int)] } = true:=by
   have m:=(holds_andW hc).1
   rw [y] at m
   exact m
  have o:=condW_of m (w_not (w_lt w_lit (w_len_list (w_arg rfl))))
  rw [TF] at o
  refine Nat.le_of_not_lt fun q=>?_
  have A:(n:Int)<((b.length:Nat):Int):=by omega
  first
   | (rw [decide_eq_true A] at o;exact absurd o (by decide))
   | (simp at o;omega)
 cases s with
 | cons B E=>
  cases E
  cases B with
  | list z i=>exact ⟨_,_,b,rfl,rfl,z,IA b _ i,j⟩
theorem post_true (l:OpenLaw)(args:List WData):l.row.toRowW.claim.post args (.bool true) args=true:=
 postW_of (r:=l.row.toRowW) (X:=(true == true))
  (show a2C [] (.bool true) .bool=true by first|rfl|decide|simp [a2C,WShape.arms,WShape.armsAll])
  (show (WTm.eq .res (.lit (.bool true))).value [] { args:=args,res:=some (.bool true),after:=args } = some (.bool (true == true)) from w_eq_bool (w_res rfl) w_lit) rfl
section
variable {prog:Ud}{w:Uv}{A:Ur}{E:Value->TC->Prop}{s:TC}{K:Frag}
end
end Att
namespace L2
open PySem PySem.Spec PyProof.Rows
theorem A9:∀ {vs:List Value}{ns:List Int},a1r vs ns->Vals (ns.map V.int) vs
 | _,_,.nil=>.nil
 | _,_,.cons n t h=>.cons ⟨t,rfl⟩ (A9 h)
noncomputable def Ba (H:Hp):Prop:=∀ b,H b=none\/∃ o xs,H b=some (.frz o (.lst xs))
theorem law_call {P:Ud}{w:Uv}{K:Tv}{O mb:Str->Option Value}{CX:fK}{k:Nat}{U a:Addr}{fd:Vc}{x:Str}{sp:Sp}{c:TC}{vs:List Value}{ns:List Int}
  (KX:K.In c.heap)(L:c.heap.Ns UI O)(i:c.heap.Ns a2i mb)(Y:∀ x:Str,x ≠ "__name__"->mb x=VA x) (J:c.heap.NoLimit)(hg:c.gens = #[])
  (R:c.heap.get? a=some { cls:=.type "list",data:=.seq vs.toArray }) (hi:a1r vs ns)(hl:ns.length<=TZ)(hr:Room k Zq)
  (F:∀ j:UU,K.In j->j.Ns UI O->FnOk P w K O j CX k U fd [x] sp)(A:∀ (s:TC)(u:Value),YW s fd ⟨[u],[]⟩ [(x,u)])
  (hsp:∀ H:Hp,Ba H->SqL K H a (ns.map V.int)->sp [.ref a] H (fun v _=>v=.bl true) fun _ _ _=>False)
  (X:∀ H e l,CX [] H c (fun _ _ _=>False) e l->False) :
  XF (Ul P w) Zq (.call (.ref U) ⟨[.ref a],[]⟩) (fun r l=>r=.ok (.ret (.bool true))/\OldK c.heap l.heap/\l.os=c.os/\Ye l.gens) c:=by
 have rv:=A9 hi
 have N:=hi.length
  -- from an abstract heap in which nothing but the script may be tracked
 have y:∀ H:Hp,Ba H->SqL K H a (ns.map V.int)->HOk P w H c.heap->(∀ b,H b≠none->b=a)->(H a≠none->K.lookup a=none)->
   XF (Ul P w) Zq (.call (.ref U) ⟨[.ref a],[]⟩) (fun r l=>r=.ok (.ret (.bool true))/\OldK c.heap l.heap/\l.os=c.os/\Ye l.gens) c:=by
  intro H hO hS hok hA hK
  have j4:∀ {b:Addr}{o:Obj},c.heap.get? b=some o->H b=none->(jO c.heap H).get? b=some o:=fun e n=>F1 e n
  have noA:∀ {b:Addr}{o:Obj}{G:Array U7}{E:Nat},c.heap.get? b=some o->o.data=.dict G E->H b=none:=fun {b o G E} e d=>by
   cases q:H b with
   | none=>rfl
   | some u=>
    have T:b=a:=hA b (by rw [q];simp)
    subst T
    rw [R] at e;cases e
    have d':Data.seq vs.toArray _=V5 G E:=d
    cases d'
  have p:∀ {b:Addr}{m:Str->Option Value},c.heap.Ns b m->(jO c.heap H).Ns b m:=fun {b m} ⟨o,G,E,e,d,r⟩=>⟨o,G,E,j4 e (noA e d),d,r⟩
  have I:K.In (jO c.heap H):=fun b o e=>j4 (KX b o e) (by
   cases q:H b with
   | none=>rfl
   | some u=>
    have T:b=a:=hA b (by rw [q];simp)
    subst T
    rw [hK (by rw [q];simp)] at e;cases e)
  have hM:Mod K O (jO c.heap H):=⟨I,p L,⟨mb,p i,Y⟩,let ⟨mc,h1,h2⟩:=J;⟨mc,p h1,h2⟩⟩
  have e0:Env0 P w K O (jO c.heap H) Zq [] c H:=⟨rfl,hM,fun b o e=>F2 e,Y6 (F0 _ _),trivial,fun b i=>absurd (show b∈([]:List Addr) from i) (by simp),hok,.of_eq hg⟩
  refine X0 ((F _ I (p L)).run Zq [] c H ⟨[.ref a],[]⟩ [.ref a] [.ref a] _ _ hr e0 (A c (.ref a)) (.cons rfl .nil) (hsp H hO hS)) fun r l h=>?_
  cases r with
  | error e=>exact (X H e l h).elim
  | ok fl=>
   cases fl with
   | next=>exact UA h
   | brk=>exact UA h
   | cont=>exact UA h
   | ret u=>
    obtain ⟨v,H',os,B,un,M,r',q⟩:=h
    have q':v=.bl true:=q
    subst q'
    obtain rfl:u=U5 true:=r'
    refine ⟨rfl,OldK.of_keep fun b o e=>?_,os,B⟩
    cases q:H b with
    | none=>exact un.keep b o e q (by intro z;exact absurd (show b∈([]:List Addr) from z) (by simp)) (by simp)
    | some u=>
     rcases hO b with z|⟨ob,xs,z⟩
     ·rw [q] at z;cases z
     ·have z2:=un.frzs b ob _ z
      obtain ⟨e1,_⟩:=hok b _ z
      obtain ⟨e2,_⟩:=M b _ z2
      rw [e] at e1;cases e1
      exact e2
 cases Z:K.lookup a with
 | some o=>
    -- the script is one of the module's own objects
  have e:=KX a o Z
  rw [R] at e
  cases e
  refine y (fun _=>none) (fun _=>.inl rfl) (.inr ⟨_,vs.toArray,_,Z,rfl,rfl,rfl,by rw [Up,N];exact hl,by simpa using rv⟩) (fun b u z=>by have Q:(none:Option HO)=some u:=z;cases Q) (fun b z=>absurd rfl z) fun z=>absurd rfl z
 | none=>
  refine y (fun b=>if b=a then some (.frz { cls:=.type "list",data:=.seq vs.toArray } (.lst (ns.map V.int))) else none) (fun b=>?_) (.inl (.inr ⟨{ cls:=.type "list",data:=.seq vs.toArray },if_pos rfl⟩)) (fun b u z=>?_) (fun b z=>?_) fun _=>Z
  ·by_cases i:b=a
   ·exact .inr ⟨_,_,if_pos i⟩
   ·exact .inl (if_neg i)
  ·by_cases i:b=a
   ·have Q:=(if_pos i).symm.trans z
    cases Q
    subst i
    exact ⟨R,by rw [TF];exact hl,vs,_,rv,R⟩
   ·have Q:=(if_neg i).symm.trans z
    cases Q
  ·by_cases i:b=a
   ·exact i
   ·exact absurd (if_neg i) z
end L2
namespace L2
open PySem PySem.Spec PyProof.Rows
end L2
namespace L2
open PySem PySem.Spec PyProof.Rows
noncomputable def bN (s:Stmt):a2V:=match s with
 | .FunctionDef _ a _ _ _ _ _ _ _ _=>a
 | _=>{ posonlyargs:=[],args:=[],vararg:=none,kwonlyargs:=[],kw_defaults:=[],kwarg:=none,defaults:=[] }
noncomputable def bD (s:Stmt):List Stmt:=match s with
 | .FunctionDef _ _ b _ _ _ _ _ _ _=>b
 | _=>[]
noncomputable def aU (s:Stmt):VY:=match s with
 | .FunctionDef _ _ _ _ _ _ sc _ _ _=>sc
 | _=>{ kind:=.function,names:=[],isGenerator:=false,isCoroutine:=false }
noncomputable abbrev dC:fK:=fun _ _ _ _ _ _=>False
noncomputable abbrev E0:XK:=fun _ _ _=>False
theorem pD {X:Cx}:kM dC X E0:=fun _ _ _ _ _ _ _ h=>h.elim
structure Fun (K:Tv)(x qual:Str)(st:Stmt)(f:Addr)(fd:Vc):Prop where
 ex:∃ (oc:Value)(od:Option Addr)(dV kV doc pm:Value)(an:Option Addr)(cdv ct:Value)(osl:Array (Option Value)),
  fd=T8 x qual (bN st) (bD st) (aU st) dV kV doc pm an cdv ct/\K.lookup f=some ⟨oc,od,.func fd,osl⟩/\WY K cdv qual=true
 kp:U8 K (.ref f)=true
section
variable {P:Ud}{w:Uv}{K:Tv}{mg:Str->Option Value}{base:UU}
theorem Fun.ok {x a:Str}{st:Stmt}{f:Addr}{i:Vc}{N ps:List Str}{k:Nat}{sp:Sp}(F:Fun K x a st f i)(S:FnScope N ps (aU st))(len:∀ vs H Q E,sp vs H Q E->vs.length=ps.length)
  (c:∀ (b:Value)(A:Ur)(outer:List XU)(s:TC)(H:Hp)(vs:List V)(Q:VK)(E:XK),Room k (A.deeper (envOfC a (aU st) s.heap.objs.size f b))->sp vs H Q E->
   ∃ t,PSs (eA dC P w K mg base N a (aU st) f b A outer s H E).nox (bD st) t/\t { nx:=fun _ j=>Q .non j,rt:=Q } (start N vs) H):FnOk P w K mg base dC (k+1) f i ps sp:=by
 obtain ⟨r,u,p,kV,l,v,o,b,ct,n,rfl,lk,d⟩:=F.ex
 refine AR lk d S len fun A outer s H vs Q E m e=>?_
 obtain ⟨t,h,q⟩:=c b A outer s H vs Q E m e
 exact ⟨t,h.nox,q⟩
theorem Bb {x a:Str}{st:Stmt}{f:Addr}{m:Value}{n h:Option Addr}{e:Array (Option Value)}{i kV d j b ct:Value}(l:K.lookup f=some ⟨m,n,.func (T8 x a (bN st) (bD st) (aU st) i kV d j h b ct),e⟩)
  (c:WY K b a=true)(k:U8 K (.ref f)=true):Fun K x a st f (T8 x a (bN st) (bD st) (aU st) i kV d j h b ct):=⟨⟨m,n,i,kV,d,j,h,b,ct,e,rfl,l,c⟩,k⟩
end
theorem IB {A:Ur}{k:Nat}(a:Room k A):A.units+1<V6:=Nat.lt_of_le_of_lt (Nat.add_le_add_left (by decide:1<=64) _) a.units
section
variable {X:Cx}
end
theorem kQ {A B:Prop}(h:B):if false=true then A else B:=by
 rw [if_neg Ux]
 exact h
theorem kR {A B:Prop}(h:A):if true=true then A else B:=by
 rw [if_pos rfl]
 exact h
noncomputable def Same (H H':Hp):Prop:=∀ b o,H b=some o->H' b=some o
theorem Same.refl (H:Hp):Same H H:=fun _ _ h=>h
theorem Same.trans {H d e:Hp}(a:Same H d)(b:Same d e):Same H e:=fun c o h=>b c o (a c o h)
theorem Same.free {H H':Hp}(e:Same H H'){l:Addr}(h:H' l=a2k):H l=a2k:=by
 cases q:H l with
 | none=>rfl
 | some o=>
  rw [e l o q] at h
  cases h
theorem Same.seq {K:Tv}{H H':Hp}{a:Addr}{xs:List V}(e:Same H H')(h:SqL K H a xs):SqL K H' a xs:=by
 rcases h with (h|⟨o,h⟩)|h
 ·exact .inl (.inl (e _ _ h))
 ·exact .inl (.inr ⟨o,e _ _ h⟩)
 ·exact .inr h
section
variable {κ:Type} [DecidableEq κ]
end
end L2
namespace L3
open PySem PySem.W
theorem left_cut {p q:Ud}{loose:List Str}{Xt:TC → Bool}{K:Type}{Yf:TC → K}{Ya:Uv → K}{N:Nat}{z:Bool}{hA hB hC:VC → UU}{kA A B a:Nat}{i:Option Value}{o l m n n3:Nat}{env:XU}{v E u G H:Vt}{i1 i2:Nat}
  (j:∀ w:Uv,(fencedOpening Wg p w N).map (fun s=>(s.heap,s.gens,s.drawn,s.toks))=some (Xg w.params,Vd [],Vs,ZL))
  (size:∀ w:Uv,((Xg w.params).isNs UI,(Xg w.params).objs.size,(Xg w.params).nsMap UI "__annotations__")=(true,a,i))
  (y:∀ (w:Uv)(b:Yz),topGo Wg p w a i o ⟨Xg w.params,Vd [],Vs,ZL,b⟩ (topStub p)=some (⟨hA w.params,Vd [],Vs,kA,b⟩,⟨denote Wg (.body (Uu p) env),.body (Uu p) env,E,[X4 v]⟩))
  (x:∀ (w:Uv)(b:Yz),a1b Wg p w a i 1 l ⟨hA w.params,Vd [],Vs,kA,b⟩ (blockOf (Uu p) env (.body (Uu p) env) E [X4 v])=some (.next,⟨hA w.params,Vd [],Vs,kA,b⟩,.body (Uu p) env,u))
  (X:∀ (w:Uv)(b:Yz),a1b Wg p w a i 1 m ⟨hA w.params,Vd [],Vs,kA,b⟩ (a1P ((Uu p).take i1) env (.body (Uu p) env) u [X4 v])=some (.next,⟨hB w.params,Vd [],Vs,A,b⟩,.body (Uu p) env,G))
  (Y:∀ (w:Uv)(b:Yz),a1b Wg p w a i 1 n ⟨hB w.params,Vd [],Vs,A,b⟩ (a1P (((Uu p).drop i1).take i2) env (.body (Uu p) env) G [X4 v])=some (.next,⟨hC w.params,Vd [],Vs,B,b⟩,.body (Uu p) env,H))
  (aV:∀ (w:Uv)(b:Yz),((topRun Wg p w a i n3 ⟨hC w.params,Vd [],Vs,B,b⟩ (restOf (((Uu p).drop i1).drop i2) env (.body (Uu p) env) H [X4 v])).bind fun c=>match staticsOk (a2Y p.main.body) (Xg w.params) c.heap&&namesBound p c.heap&&gensDone c&&laidKept (Xg w.params) c.heap with
   | true=>some c
   | false=>none).map (fun s=>(openSeen q loose (a2Y p.main.body) Xt z s,Yf s))=some (openGood q loose,Ya w))
  (le:Nat.ble (o+(l+(m+(n+n3)))) N=true):LeftO p q loose Xt Yf Ya N z:=fun w=>by
 obtain ⟨⟨h,M,d,k,b⟩,e,L⟩:=Tz.mp (j w)
 obtain ⟨rfl,rfl,rfl,rfl⟩:h=Xg w.params ∧ M=Vd [] ∧ d=Vs ∧ k=ZL:=by simpa using L
 obtain ⟨Z,z2,z3⟩:_ ∧ _ ∧ _:=by simpa only [Prod.mk.injEq] using size w
 obtain ⟨s,R,T⟩:=Tz.mp (aV w b)
 obtain ⟨c,O,Q⟩:=Tu.mp R
 have J:=piece_app (Y w b) O
 rw [Xh] at J
 have I:=piece_app (X w b) J
 rw [Xh] at I
 have U:=go_top (y w b) (piece_block (x w b) I)
 have r:=topRun_mono (N - (o+(l+(m+(n+n3))))) _ _ _ _ U
 rw [show o+(l+(m+(n+n3)))+(N - (o+(l+(m+(n+n3)))))=N by have:=Nat.le_of_ble_eq_true le;omega] at r
 have t:topFrom Wg p w N ⟨Xg w.params,Vd [],Vs,ZL,b⟩=some s:=by
  unfold topFrom
  dsimp only
  rw [Z,z2,z3,r]
  exact Q
 unfold openEnds
 rw [e]
 show (topFrom Wg p w N _).map _=_
 rw [t]
 exact congrArg some T
end L3
namespace Lw
open PySem L2
noncomputable def aE (i:Nat):Stmt:=UQ.main.body.getD i (.Pass ⟨0,0,0,0⟩)
noncomputable def cE (i j:Nat):Stmt:=match aE i with|.ClassDef _ _ _ b _ _ _ _ _ _ _=>b.getD j (.Pass ⟨0,0,0,0⟩)|_=>.Pass ⟨0,0,0,0⟩
noncomputable def Vw:Ud:={ UQ with main:={ UQ.main with body:=aE 0::aE 2::aE 3::aE 4::aE 6::aE 7::aE 8::aE 9::aE 10::aE 11::aE 12::aE 13::aE 14::aE 16::aE 17::aE 18::aE 19::aE 20::aE 21::aE 23::aE 24::aE 25::aE 26::aE 27::aE 29::aE 30::aE 31::aE 32::aE 33::aE 35::aE 36::aE 37::aE 38::aE 39::aE 40::aE 41::aE 43::aE 44::aE 45::aE 46::aE 47::aE 48::aE 49::aE 50::aE 51::aE 52::aE 53::[] } }
noncomputable abbrev vS (x:String)(n:Nat):Value:=YY (Va x) n
noncomputable abbrev vI (i:Int):Value:=Vb i 0
noncomputable abbrev vR (a:Addr):Value:=T6 a
noncomputable abbrev vN:Value:=U1
noncomputable abbrev cO (fs:Array Value):Obj:={ cls:=TU "code",data:=T7 fs }
noncomputable abbrev kO (x y:String)(a b c:Nat)(l n i j k:Int)(r:Addr)(q:Int)(vs:Array Value)(t d:Int)(e:Nat):Obj:={ cls:=TU "code",data:=T7 (#[vS x a,vS x b,vS y c,vI l,vI n,vI i,vI j,vI k,vR r,U5 true,vI q]++vs++#[vI t,vI d,vS y e]) }
noncomputable abbrev tO (fs:Array Value):Obj:={ cls:=TU "tuple",data:=Data.seq fs }
noncomputable abbrev fO (x:Str)(n:Nat)(m:Value)(c:Addr):Obj:=⟨TU "function",none,.func (T8 x x (bN (aE n)) (bD (aE n)) (aU (aE n)) U1 U1 U1 m none (T6 c) U1),#[]⟩
noncomputable abbrev eO (P:VC)(x:String)(n:Nat)(v:Value):U7:={ hash:=PyData.keyHash P (Va x),key:=YY (Va x) n,val:=v }
noncomputable abbrev eR (P:VC)(x:String)(n:Nat)(a:Addr):U7:=eO P x n (vR a)
noncomputable abbrev kA (p:Addr×Obj)(R:Tv):Tv:=p::R
noncomputable abbrev vM (n:Nat):Value:=[vS "creasecourt.places" 246,vS "creasecourt.layings" 321,vS "creasecourt.sheets" 371,vS "creasecourt.folding" 453,vS "law_creasecourt_k81_folds_place_by_place" 602].getD n vN
noncomputable abbrev kF (x:String)(r a:Nat)(l n:Int)(t i:Nat)(m:Value)(R:Tv):Tv:=(r+5,kO x "/claim/cut.py" a (a+1) (a+2) l n 0 0 3 r 181 #[vR (r+1),vN,vR (r+2),vR (r+3),vR (r+4)] t l (t+1))::(r+6,fO x i m (r+5))::R
noncomputable abbrev kG (x:String)(r a:Nat)(l n:Int)(t i:Nat)(m:Value)(R:Tv):Tv:=(r+3,kO x "/claim/cut.py" a (a+1) (a+2) l n 0 0 3 r 181 #[vR (r+1),vN,vN,vN,vR (r+2)] t l (t+1))::(r+4,fO x i m (r+3))::R
noncomputable def Kx:VC → Tv:=fun P=>kA (3,{ cls:=TU "dict",data:=V5 #[eO P "__name__" 165 (vS "law_creasecourt_k81_folds_place_by_place" 602),eO P "__doc__" 166 vN,eO P "__package__" 167 vN,eO P "__loader__" 168 (UD "__main__.__loader__#opaque"),eO P "__spec__" 169 vN,eR P "__annotations__" 170 6,eR P "__builtins__" 171 4,eO P "__file__" 173 (vS "/claim/cut.py" 172),eO P "__cached__" 174 vN,eR P "_wall" 193 21,eR P "CreaseError" 213 31,eR P "NoSize" 229 44,eR P "NoFold" 245 56,eR P "is_whole" 254 65,eR P "is_edge" 261 72,eR P "is_quarter" 268 79,eR P "line_of" 275 86,eR P "beside" 284 93,eR P "sides_of" 290 98,eR P "number_by" 298 105,eR P "hand_of" 308 112,eR P "mirrored" 320 119,eR P "STILL" 329 120,eR P "laying_by" 338 127,eR P "mirror_in" 345 134,eR P "led" 355 141,eR P "then" 363 148,eR P "is_turned" 370 155,eR P "is_size" 379 162,eR P "check_size" 387 169,eR P "places_within" 393 174,eR P "quarters_in" 399 179,eR P "edges_in" 405 184,eR P "heights_in" 418 191,eR P "is_above" 427 198,eR P "turned_first" 436 205,eR P "mark_by_heights" 446 212,eR P "marks_by" 452 217,eR P "copied_piles" 464 224,eR P "folded_layings" 478 231,eR P "folded_piles" 494 238,eR P "check_fold" 500 243,eR P "creased_edges" 512 250,eR P "unfolded" 523 257,eR P "Folding" 601 315,eR P "_law_cell" 612 326,eR P "_law_quarters" 623 333,eR P "_law_led" 637 340,eR P "_law_over" 653 347,eR P "_law_value" 661 354,eR P "_law_begun" 672 361,eR P "_law_folded" 678 366,eR P "_law_plan" 693 373,eR P "_law_asked" 707 380,eR P "_law_stands" 722 387,eR P "law" 739 394] 56 }) <|
 kA (2,{ cls:=vN,data:=V5 #[] }) <|
 kA (29,tO #[]) <|
 kA (30,{ cls:=TU "dict",data:=V5 #[eO P "__module__" 203 (vS "creasecourt.errors" 194),eO P "__firstlineno__" 207 (Vb 5 206),eR P "__static_attributes__" 208 29,eR P "__weakref__" 210 32,eO P "__doc__" 211 vN] 3 }) <|
 kA (31,{ cls:=TU "type",data:=Yx { name:=Va "CreaseError",bases:=[TU "ValueError"],mro:=[vR 31,TU "ValueError",TU "Exception",TU "BaseException",TU "object"],ns:=30,qualname:=Va "CreaseError",subclasses:=[vR 44,vR 56] },slots:=#[some (vR 22),none,some (vS "CreaseError" 196),some (vS "CreaseError" 204),some (UD "ValueError.__new__"),some (U5 true)] }) <|
 kA (32,{ cls:=TU "getset_descriptor",data:=T7 #[vS "__weakref__" 209,vR 31,UD "ExceptionGroup.__weakref__",vN] }) <|
 kA (42,tO #[]) <|
 kA (43,{ cls:=TU "dict",data:=V5 #[eO P "__module__" 221 (vS "creasecourt.errors" 194),eO P "__firstlineno__" 225 (Vb 7 224),eR P "__static_attributes__" 226 42,eO P "__doc__" 227 vN] 2 }) <|
 kA (44,{ cls:=TU "type",data:=Yx { name:=Va "NoSize",bases:=[vR 31],mro:=[vR 44,vR 31,TU "ValueError",TU "Exception",TU "BaseException",TU "object"],ns:=43,qualname:=Va "NoSize" },slots:=#[some (vR 35),none,some (vS "NoSize" 214),some (vS "NoSize" 222),some (UD "ValueError.__new__"),some (U5 true)] }) <|
 kA (54,tO #[]) <|
 kA (55,{ cls:=TU "dict",data:=V5 #[eO P "__module__" 237 (vS "creasecourt.errors" 194),eO P "__firstlineno__" 241 (Vb 9 240),eR P "__static_attributes__" 242 54,eO P "__doc__" 243 vN] 2 }) <|
 kA (56,{ cls:=TU "type",data:=Yx { name:=Va "NoFold",bases:=[vR 31],mro:=[vR 56,vR 31,TU "ValueError",TU "Exception",TU "BaseException",TU "object"],ns:=55,qualname:=Va "NoFold" },slots:=#[some (vR 47),none,some (vS "NoFold" 230),some (vS "NoFold" 238),some (UD "ValueError.__new__"),some (U5 true)] }) <|
 kF "is_whole" 59 248 12 1 252 6 (vM 0) <|
 kF "is_quarter" 73 262 18 1 266 8 (vM 0) <|
 kF "line_of" 80 269 22 1 273 9 (vM 0) <|
 kF "number_by" 99 291 32 2 296 12 (vM 0) <|
 kF "hand_of" 106 299 40 2 306 13 (vM 0) <|
 kF "mirrored" 113 309 46 2 318 14 (vM 0) <|
 kA (120,tO #[Vb 1 323,Vb 0 324,Vb 0 325,Vb 1 326,Vb 0 327,Vb 0 328]) <|
 kF "laying_by" 121 330 60 3 336 17 (vM 1) <|
 kF "mirror_in" 128 339 62 1 343 18 (vM 1) <|
 kF "led" 135 346 64 2 353 19 (vM 1) <|
 kF "then" 142 356 68 2 361 20 (vM 1) <|
 kF "is_size" 156 373 73 1 377 23 (vM 2) <|
 kF "check_size" 163 380 75 2 385 24 (vM 2) <|
 kG "places_within" 170 388 78 2 391 25 (vM 2) <|
 kG "quarters_in" 175 394 83 2 397 26 (vM 2) <|
 kF "copied_piles" 218 455 108 1 462 35 (vM 3) <|
 kF "folded_layings" 225 465 113 3 476 36 (vM 3) <|
 kF "folded_piles" 232 479 120 4 492 37 (vM 3) <|
 kG "check_fold" 239 495 132 2 498 38 (vM 3) <|
 kF "unfolded" 251 513 143 2 521 40 (vM 3) <|
 kA (270,cO #[vS "__init__" 536,vS "Folding.__init__" 537,vS "/claim/cut.py" 538,vI 152,vI 3,vI 0,vI 0,vI 3,vR 265,U5 true,vI 181,vR 266,vN,vR 267,vR 268,vR 269,vI 542,vI 152,vS "/claim/cut.py" 543]) <|
 kA (271,⟨TU "function",none,.func (T8 "__init__" "Folding.__init__" (bN (cE 41 0)) (bD (cE 41 0)) (aU (cE 41 0)) vN vN vN (vS "creasecourt.folding" 453) (none) (vR 270) vN),#[]⟩) <|
 kA (272,tO #[U5 true,U5 true]) <|
 kA (278,cO #[vS "fold" 545,vS "Folding.fold" 546,vS "/claim/cut.py" 547,vI 158,vI 4,vI 0,vI 0,vI 3,vR 273,U5 true,vI 181,vR 274,vN,vR 275,vR 276,vR 277,vI 554,vI 158,vS "/claim/cut.py" 555]) <|
 kA (279,⟨TU "function",none,.func (T8 "fold" "Folding.fold" (bN (cE 41 1)) (bD (cE 41 1)) (aU (cE 41 1)) (vR 272) vN vN (vS "creasecourt.folding" 453) (none) (vR 278) vN),#[]⟩) <|
 kA (285,cO #[vS "back" 557,vS "Folding.back" 558,vS "/claim/cut.py" 559,vI 164,vI 1,vI 0,vI 0,vI 3,vR 280,U5 true,vI 181,vR 281,vN,vR 282,vR 283,vR 284,vI 561,vI 164,vS "/claim/cut.py" 562]) <|
 kA (286,⟨TU "function",none,.func (T8 "back" "Folding.back" (bN (cE 41 2)) (bD (cE 41 2)) (aU (cE 41 2)) vN vN vN (vS "creasecourt.folding" 453) (none) (vR 285) vN),#[]⟩) <|
 kA (292,cO #[vS "many" 564,vS "Folding.many" 565,vS "/claim/cut.py" 566,vI 167,vI 1,vI 0,vI 0,vI 3,vR 287,U5 true,vI 181,vR 288,vN,vR 289,vR 290,vR 291,vI 568,vI 167,vS "/claim/cut.py" 569]) <|
 kA (293,⟨TU "function",none,.func (T8 "many" "Folding.many" (bN (cE 41 3)) (bD (cE 41 3)) (aU (cE 41 3)) vN vN vN (vS "creasecourt.folding" 453) (none) (vR 292) vN),#[]⟩) <|
 kA (299,cO #[vS "layings" 571,vS "Folding.layings" 572,vS "/claim/cut.py" 573,vI 170,vI 1,vI 0,vI 0,vI 3,vR 294,U5 true,vI 181,vR 295,vN,vR 296,vR 297,vR 298,vI 575,vI 170,vS "/claim/cut.py" 576]) <|
 kA (300,⟨TU "function",none,.func (T8 "layings" "Folding.layings" (bN (cE 41 4)) (bD (cE 41 4)) (aU (cE 41 4)) vN vN vN (vS "creasecourt.folding" 453) (none) (vR 299) vN),#[]⟩) <|
 kA (306,cO #[vS "piles" 578,vS "Folding.piles" 579,vS "/claim/cut.py" 580,vI 173,vI 1,vI 0,vI 0,vI 3,vR 301,U5 true,vI 181,vR 302,vN,vR 303,vR 304,vR 305,vI 582,vI 173,vS "/claim/cut.py" 583]) <|
 kA (307,⟨TU "function",none,.func (T8 "piles" "Folding.piles" (bN (cE 41 5)) (bD (cE 41 5)) (aU (cE 41 5)) vN vN vN (vS "creasecourt.folding" 453) (none) (vR 306) vN),#[]⟩) <|
 kA (311,cO #[vS "sheet" 585,vS "Folding.sheet" 586,vS "/claim/cut.py" 587,vI 176,vI 1,vI 0,vI 0,vI 3,vR 308,U5 true,vI 181,vR 309,vN,vN,vN,vR 310,vI 588,vI 176,vS "/claim/cut.py" 589]) <|
 kA (312,⟨TU "function",none,.func (T8 "sheet" "Folding.sheet" (bN (cE 41 6)) (bD (cE 41 6)) (aU (cE 41 6)) vN vN vN (vS "creasecourt.folding" 453) (none) (vR 311) vN),#[]⟩) <|
 kA (313,tO #[vS "high" 591,vS "states" 592,vS "wide" 593]) <|
 kA (314,{ cls:=TU "dict",data:=V5 #[eO P "__module__" 531 (vS "creasecourt.folding" 453),eO P "__firstlineno__" 535 (Vb 150 534),eR P "__init__" 544 271,eR P "fold" 556 279,eR P "back" 563 286,eR P "many" 570 293,eR P "layings" 577 300,eR P "piles" 584 307,eR P "sheet" 590 312,eR P "__static_attributes__" 594 313,eR P "__dict__" 596 316,eR P "__weakref__" 598 317,eO P "__doc__" 599 vN] 4 }) <|
 kA (315,{ cls:=TU "type",data:=Yx { name:=Va "Folding",bases:=[TU "object"],mro:=[vR 315,TU "object"],ns:=314,qualname:=Va "Folding" },slots:=#[none,none,some (vS "Folding" 524),some (vS "Folding" 532),some (UD "object.__new__"),some (U5 true)] }) <|
 kA (316,{ cls:=TU "getset_descriptor",data:=T7 #[vS "__dict__" 595,vR 315,UD "function.__dict__",UD "function.__dict__#set"] }) <|
 kA (317,{ cls:=TU "getset_descriptor",data:=T7 #[vS "__weakref__" 597,vR 315,UD "ExceptionGroup.__weakref__",vN] }) <|
 kF "_law_cell" 320 604 182 2 610 43 (vM 4) <|
 kF "_law_quarters" 327 613 189 2 621 44 (vM 4) <|
 kF "_law_led" 334 624 196 2 635 45 (vM 4) <|
 kF "_law_over" 341 638 199 2 651 46 (vM 4) <|
 kF "_law_value" 348 654 209 2 659 47 (vM 4) <|
 kF "_law_begun" 355 662 211 2 670 48 (vM 4) <|
 kG "_law_folded" 362 673 218 4 676 49 (vM 4) <|
 kF "_law_plan" 367 679 238 3 691 50 (vM 4) <|
 kF "_law_asked" 374 694 250 2 705 51 (vM 4) <|
 kF "_law_stands" 381 708 258 4 720 52 (vM 4) <|
 kF "law" 388 723 276 1 737 53 (vM 4) <| []
noncomputable def As:List Addr:=[3,2,29,30,31,32,42,43,44,54,55,56,64,65,78,79,85,86,104,105,111,112,118,119,120,126,127,133,134,140,141,147,148,161,162,168,169,173,174,178,179,223,224,230,231,237,238,242,243,256,257,270,271,272,278,279,285,286,292,293,299,300,306,307,311,312,313,314,315,316,317,325,326,332,333,339,340,346,347,353,354,360,361,365,366,372,373,379,380,386,387,393,394]
theorem pE:∀ P,As=(Kx P).map (·.1):=fun _=>by kernel_rfl
open PySem.W in
noncomputable def lA (P:VC):List Obj:=((boot_o_0 P)::(boot_o_1 P)::(boot_o_2 P)::(boot_o_3 P)::(boot_o_4 P)::(boot_o_5 P)::(boot_o_6 P)::(boot_o_7 P)::(boot_o_8 P)::(boot_o_9 P)::(boot_o_10 P)::(tO #[])::({ cls:=vN,data:=T7 #[] })::(cO #[vS "<module>" 182,vS "<module>" 183,vS "/claim/cut.py" 184,vI 1,vI 0,vI 0,vI 0,vI 0,vR 11,U5 false,vI 181,vR 12,vN,vN,vN,vN,vI 185,vI 1,vS "/claim/cut.py" 186])::({ cls:=TU "frame",slots:=#[some (vR 13),some (vR 3),some (vR 3),none,some (vS "__main__" 164),none,some (vR 0)] })::[])
open PySem.W in
noncomputable def lB (P:VC):List Obj:=(((lA P).set 3 ({ cls:=TU "dict",data:=V5 #[eO P "__name__" 165 (vS "creasecourt.layings" 321),eO P "__doc__" 166 vN,eO P "__package__" 167 vN,eO P "__loader__" 168 (UD "__main__.__loader__#opaque"),eO P "__spec__" 169 vN,eR P "__annotations__" 170 6,eR P "__builtins__" 171 4,eO P "__file__" 173 (vS "/claim/cut.py" 172),eO P "__cached__" 174 vN,eR P "_wall" 193 21,eR P "CreaseError" 213 31,eR P "NoSize" 229 44,eR P "NoFold" 245 56,eR P "is_whole" 254 65,eR P "is_edge" 261 72,eR P "is_quarter" 268 79,eR P "line_of" 275 86,eR P "beside" 284 93,eR P "sides_of" 290 98,eR P "number_by" 298 105,eR P "hand_of" 308 112,eR P "mirrored" 320 119] 22 })).set 12 ({ cls:=vN,data:=T7 #[vI 1,vI 0,vR 20,vI 5,vI 0,vR 27,vI 7,vI 0,vR 40,vI 9,vI 0,vR 52,vI 12,vI 0,vR 64,vI 14,vI 0,vR 71,vI 18,vI 0,vR 78,vI 22,vI 0,vR 85,vI 26,vI 0,vR 92,vI 30,vI 0,vR 97,vI 32,vI 0,vR 104,vI 40,vI 0,vR 111,vI 46,vI 0,vR 118] }))++((tO #[])::({ cls:=vN,data:=T7 #[] })::(tO #[vS "k" 190])::(tO #[])::(⟨vN,none,.func ({ T8 "_wall" "_wall" (bN (aE 0)) (bD (aE 0)) (aU (aE 0)) vN vN vN vN (none) vN vN with globals:=0 }),#[]⟩)::(kO "_wall" "/claim/cut.py" 187 188 189 1 1 0 0 3 15 181 #[vR 16,vN,vR 17,vR 18,vR 19] 191 1 192)::(fO "_wall" 0 (vS "__main__" 164) 20)::(tO #[TU "ValueError"])::({ cls:=TU "builtin_function_or_method",data:=T7 #[UD "type.__prepare__",TU "type"] })::({ cls:=TU "dict",data:=V5 #[eO P "__module__" 203 (vS "creasecourt.errors" 194),eO P "__qualname__" 205 (vS "CreaseError" 204),eO P "__firstlineno__" 207 (Vb 5 206),eR P "__static_attributes__" 208 29] 4 })::(tO #[])::({ cls:=vN,data:=T7 #[] })::(cO #[vS "CreaseError" 198,vS "CreaseError" 199,vS "/claim/cut.py" 200,vI 5,vI 0,vI 0,vI 0,vI 0,vR 25,U5 false,vI 181,vR 26,vN,vN,vN,vN,vI 201,vI 5,vS "/claim/cut.py" 202])::({ cls:=TU "frame",slots:=#[some (vR 27),some (vR 3),some (vR 24),none,some (vS "creasecourt.errors" 194),none,some (vR 0)] })::(tO #[])::({ cls:=TU "dict",data:=V5 #[eO P "__module__" 203 (vS "creasecourt.errors" 194),eO P "__firstlineno__" 207 (Vb 5 206),eR P "__static_attributes__" 208 29,eR P "__weakref__" 210 32,eO P "__doc__" 211 vN] 3 })::({ cls:=TU "type",data:=Yx { name:=Va "CreaseError",bases:=[TU "ValueError"],mro:=[vR 31,TU "ValueError",TU "Exception",TU "BaseException",TU "object"],ns:=30,qualname:=Va "CreaseError",subclasses:=[vR 44,vR 56] },slots:=#[some (vR 22),none,some (vS "CreaseError" 196),some (vS "CreaseError" 204),some (UD "ValueError.__new__"),some (U5 true)] })::({ cls:=TU "getset_descriptor",data:=T7 #[vS "__weakref__" 209,vR 31,UD "ExceptionGroup.__weakref__",vN] })::({ cls:=TU "super",data:=T7 #[vR 31,vR 31,vR 31] })::({ cls:=TU "builtin_function_or_method",data:=T7 #[UD "object.__init_subclass__",vR 31] })::(tO #[vR 31])::({ cls:=TU "builtin_function_or_method",data:=T7 #[UD "type.__prepare__",TU "type"] })::({ cls:=TU "dict",data:=V5 #[eO P "__module__" 221 (vS "creasecourt.errors" 194),eO P "__qualname__" 223 (vS "NoSize" 222),eO P "__firstlineno__" 225 (Vb 7 224),eR P "__static_attributes__" 226 42] 4 })::(tO #[])::({ cls:=vN,data:=T7 #[] })::(cO #[vS "NoSize" 216,vS "NoSize" 217,vS "/claim/cut.py" 218,vI 7,vI 0,vI 0,vI 0,vI 0,vR 38,U5 false,vI 181,vR 39,vN,vN,vN,vN,vI 219,vI 7,vS "/claim/cut.py" 220])::({ cls:=TU "frame",slots:=#[some (vR 40),some (vR 3),some (vR 37),none,some (vS "creasecourt.errors" 194),none,some (vR 0)] })::(tO #[])::({ cls:=TU "dict",data:=V5 #[eO P "__module__" 221 (vS "creasecourt.errors" 194),eO P "__firstlineno__" 225 (Vb 7 224),eR P "__static_attributes__" 226 42,eO P "__doc__" 227 vN] 2 })::({ cls:=TU "type",data:=Yx { name:=Va "NoSize",bases:=[vR 31],mro:=[vR 44,vR 31,TU "ValueError",TU "Exception",TU "BaseException",TU "object"],ns:=43,qualname:=Va "NoSize" },slots:=#[some (vR 35),none,some (vS "NoSize" 214),some (vS "NoSize" 222),some (UD "ValueError.__new__"),some (U5 true)] })::({ cls:=TU "super",data:=T7 #[vR 44,vR 44,vR 44] })::({ cls:=TU "builtin_function_or_method",data:=T7 #[UD "object.__init_subclass__",vR 44] })::(tO #[vR 31])::({ cls:=TU "builtin_function_or_method",data:=T7 #[UD "type.__prepare__",TU "type"] })::({ cls:=TU "dict",data:=V5 #[eO P "__module__" 237 (vS "creasecourt.errors" 194),eO P "__qualname__" 239 (vS "NoFold" 238),eO P "__firstlineno__" 241 (Vb 9 240),eR P "__static_attributes__" 242 54] 4 })::(tO #[])::({ cls:=vN,data:=T7 #[] })::(cO #[vS "NoFold" 232,vS "NoFold" 233,vS "/claim/cut.py" 234,vI 9,vI 0,vI 0,vI 0,vI 0,vR 50,U5 false,vI 181,vR 51,vN,vN,vN,vN,vI 235,vI 9,vS "/claim/cut.py" 236])::({ cls:=TU "frame",slots:=#[some (vR 52),some (vR 3),some (vR 49),none,some (vS "creasecourt.errors" 194),none,some (vR 0)] })::(tO #[])::({ cls:=TU "dict",data:=V5 #[eO P "__module__" 237 (vS "creasecourt.errors" 194),eO P "__firstlineno__" 241 (Vb 9 240),eR P "__static_attributes__" 242 54,eO P "__doc__" 243 vN] 2 })::({ cls:=TU "type",data:=Yx { name:=Va "NoFold",bases:=[vR 31],mro:=[vR 56,vR 31,TU "ValueError",TU "Exception",TU "BaseException",TU "object"],ns:=55,qualname:=Va "NoFold" },slots:=#[some (vR 47),none,some (vS "NoFold" 230),some (vS "NoFold" 238),some (UD "ValueError.__new__"),some (U5 true)] })::({ cls:=TU "super",data:=T7 #[vR 56,vR 56,vR 56] })::({ cls:=TU "builtin_function_or_method",data:=T7 #[UD "object.__init_subclass__",vR 56] })::(tO #[])::({ cls:=vN,data:=T7 #[] })::(tO #[vS "value" 251])::(tO #[])::(⟨vN,none,.func ({ T8 "is_whole" "is_whole" (bN (aE 6)) (bD (aE 6)) (aU (aE 6)) vN vN vN vN (none) vN vN with globals:=0 }),#[]⟩)::(kO "is_whole" "/claim/cut.py" 248 249 250 12 1 0 0 3 59 181 #[vR 60,vN,vR 61,vR 62,vR 63] 252 12 253)::(fO "is_whole" 6 (vS "creasecourt.places" 246) 64)::(tO #[])::({ cls:=vN,data:=T7 #[] })::(tO #[vS "place" 258])::(tO #[])::(⟨vN,none,.func ({ T8 "is_edge" "is_edge" (bN (aE 7)) (bD (aE 7)) (aU (aE 7)) vN vN vN vN (none) vN vN with globals:=0 }),#[]⟩)::(kO "is_edge" "/claim/cut.py" 255 256 257 14 1 0 0 3 66 181 #[vR 67,vN,vR 68,vR 69,vR 70] 259 14 260)::(fO "is_edge" 7 (vS "creasecourt.places" 246) 71)::(tO #[])::({ cls:=vN,data:=T7 #[] })::(tO #[vS "place" 265])::(tO #[])::(⟨vN,none,.func ({ T8 "is_quarter" "is_quarter" (bN (aE 8)) (bD (aE 8)) (aU (aE 8)) vN vN vN vN (none) vN vN with globals:=0 }),#[]⟩)::(kO "is_quarter" "/claim/cut.py" 262 263 264 18 1 0 0 3 73 181 #[vR 74,vN,vR 75,vR 76,vR 77] 266 18 267)::(fO "is_quarter" 8 (vS "creasecourt.places" 246) 78)::(tO #[])::({ cls:=vN,data:=T7 #[] })::(tO #[vS "edge" 272])::(tO #[])::(⟨vN,none,.func ({ T8 "line_of" "line_of" (bN (aE 9)) (bD (aE 9)) (aU (aE 9)) vN vN vN vN (none) vN vN with globals:=0 }),#[]⟩)::(kO "line_of" "/claim/cut.py" 269 270 271 22 1 0 0 3 80 181 #[vR 81,vN,vR 82,vR 83,vR 84] 273 22 274)::(fO "line_of" 9 (vS "creasecourt.places" 246) 85)::(tO #[])::({ cls:=vN,data:=T7 #[] })::(tO #[vS "place" 279,vS "x" 280,vS "y" 281])::(tO #[])::(⟨vN,none,.func ({ T8 "beside" "beside" (bN (aE 10)) (bD (aE 10)) (aU (aE 10)) vN vN vN vN (none) vN vN with globals:=0 }),#[]⟩)::(kO "beside" "/claim/cut.py" 276 277 278 26 1 0 0 3 87 181 #[vR 88,vN,vR 89,vR 90,vR 91] 282 26 283)::(fO "beside" 10 (vS "creasecourt.places" 246) 92)::(tO #[])::({ cls:=vN,data:=T7 #[] })::(⟨vN,none,.func ({ T8 "sides_of" "sides_of" (bN (aE 11)) (bD (aE 11)) (aU (aE 11)) vN vN vN vN (none) vN vN with globals:=0 }),#[]⟩)::(kO "sides_of" "/claim/cut.py" 285 286 287 30 1 0 0 3 94 181 #[vR 95,vN,vN,vN,vR 96] 288 30 289)::(fO "sides_of" 11 (vS "creasecourt.places" 246) 97)::(tO #[])::({ cls:=vN,data:=T7 #[] })::(tO #[vS "line" 294,vS "place" 295])::(tO #[])::(⟨vN,none,.func ({ T8 "number_by" "number_by" (bN (aE 12)) (bD (aE 12)) (aU (aE 12)) vN vN vN vN (none) vN vN with globals:=0 }),#[]⟩)::(kO "number_by" "/claim/cut.py" 291 292 293 32 2 0 0 3 99 181 #[vR 100,vN,vR 101,vR 102,vR 103] 296 32 297)::(fO "number_by" 12 (vS "creasecourt.places" 246) 104)::(tO #[])::({ cls:=vN,data:=T7 #[] })::(tO #[vS "place" 302,vS "edge" 303,vS "line" 304,vS "ahead" 305])::(tO #[])::(⟨vN,none,.func ({ T8 "hand_of" "hand_of" (bN (aE 13)) (bD (aE 13)) (aU (aE 13)) vN vN vN vN (none) vN vN with globals:=0 }),#[]⟩)::(kO "hand_of" "/claim/cut.py" 299 300 301 40 2 0 0 3 106 181 #[vR 107,vN,vR 108,vR 109,vR 110] 306 40 307)::(fO "hand_of" 13 (vS "creasecourt.places" 246) 111)::(tO #[])::({ cls:=vN,data:=T7 #[] })::(tO #[vS "place" 312,vS "edge" 313,vS "x" 314,vS "y" 315,vS "line" 316,vS "number" 317])::(tO #[])::(⟨vN,none,.func ({ T8 "mirrored" "mirrored" (bN (aE 14)) (bD (aE 14)) (aU (aE 14)) vN vN vN vN (none) vN vN with globals:=0 }),#[]⟩)::(kO "mirrored" "/claim/cut.py" 309 310 311 46 2 0 0 3 113 181 #[vR 114,vN,vR 115,vR 116,vR 117] 318 46 319)::(fO "mirrored" 14 (vS "creasecourt.places" 246) 118)::[])
open PySem.W in
noncomputable def lC (P:VC):List Obj:=(((lB P).set 3 ({ cls:=TU "dict",data:=V5 #[eO P "__name__" 165 (vS "creasecourt.folding" 453),eO P "__doc__" 166 vN,eO P "__package__" 167 vN,eO P "__loader__" 168 (UD "__main__.__loader__#opaque"),eO P "__spec__" 169 vN,eR P "__annotations__" 170 6,eR P "__builtins__" 171 4,eO P "__file__" 173 (vS "/claim/cut.py" 172),eO P "__cached__" 174 vN,eR P "_wall" 193 21,eR P "CreaseError" 213 31,eR P "NoSize" 229 44,eR P "NoFold" 245 56,eR P "is_whole" 254 65,eR P "is_edge" 261 72,eR P "is_quarter" 268 79,eR P "line_of" 275 86,eR P "beside" 284 93,eR P "sides_of" 290 98,eR P "number_by" 298 105,eR P "hand_of" 308 112,eR P "mirrored" 320 119,eR P "STILL" 329 120,eR P "laying_by" 338 127,eR P "mirror_in" 345 134,eR P "led" 355 141,eR P "then" 363 148,eR P "is_turned" 370 155,eR P "is_size" 379 162,eR P "check_size" 387 169,eR P "places_within" 393 174,eR P "quarters_in" 399 179,eR P "edges_in" 405 184,eR P "heights_in" 418 191,eR P "is_above" 427 198,eR P "turned_first" 436 205,eR P "mark_by_heights" 446 212,eR P "marks_by" 452 217,eR P "copied_piles" 464 224,eR P "folded_layings" 478 231,eR P "folded_piles" 494 238,eR P "check_fold" 500 243,eR P "creased_edges" 512 250] 43 })).set 12 ({ cls:=vN,data:=T7 #[vI 1,vI 0,vR 20,vI 5,vI 0,vR 27,vI 7,vI 0,vR 40,vI 9,vI 0,vR 52,vI 12,vI 0,vR 64,vI 14,vI 0,vR 71,vI 18,vI 0,vR 78,vI 22,vI 0,vR 85,vI 26,vI 0,vR 92,vI 30,vI 0,vR 97,vI 32,vI 0,vR 104,vI 40,vI 0,vR 111,vI 46,vI 0,vR 118,vI 60,vI 0,vR 126,vI 62,vI 0,vR 133,vI 64,vI 0,vR 140,vI 68,vI 0,vR 147,vI 70,vI 0,vR 154,vI 73,vI 0,vR 161,vI 75,vI 0,vR 168,vI 78,vI 0,vR 173,vI 83,vI 0,vR 178,vI 85,vI 0,vR 183,vI 88,vI 0,vR 190,vI 94,vI 0,vR 197,vI 96,vI 0,vR 204,vI 101,vI 0,vR 211,vI 104,vI 0,vR 216,vI 108,vI 0,vR 223,vI 113,vI 0,vR 230,vI 120,vI 0,vR 237,vI 132,vI 0,vR 242,vI 136,vI 0,vR 249] }))++((tO #[Vb 1 323,Vb 0 324,Vb 0 325,Vb 1 326,Vb 0 327,Vb 0 328])::(tO #[])::({ cls:=vN,data:=T7 #[] })::(tO #[vS "start" 333,vS "right" 334,vS "down" 335])::(tO #[])::(⟨vN,none,.func ({ T8 "laying_by" "laying_by" (bN (aE 17)) (bD (aE 17)) (aU (aE 17)) vN vN vN vN (none) vN vN with globals:=0 }),#[]⟩)::(kO "laying_by" "/claim/cut.py" 330 331 332 60 3 0 0 3 121 181 #[vR 122,vN,vR 123,vR 124,vR 125] 336 60 337)::(fO "laying_by" 17 (vS "creasecourt.layings" 321) 126)::(tO #[])::({ cls:=vN,data:=T7 #[] })::(tO #[vS "edge" 342])::(tO #[])::(⟨vN,none,.func ({ T8 "mirror_in" "mirror_in" (bN (aE 18)) (bD (aE 18)) (aU (aE 18)) vN vN vN vN (none) vN vN with globals:=0 }),#[]⟩)::(kO "mirror_in" "/claim/cut.py" 339 340 341 62 1 0 0 3 128 181 #[vR 129,vN,vR 130,vR 131,vR 132] 343 62 344)::(fO "mirror_in" 18 (vS "creasecourt.layings" 321) 133)::(tO #[])::({ cls:=vN,data:=T7 #[] })::(tO #[vS "laying" 349,vS "place" 350,vS "x" 351,vS "y" 352])::(tO #[])::(⟨vN,none,.func ({ T8 "led" "led" (bN (aE 19)) (bD (aE 19)) (aU (aE 19)) vN vN vN vN (none) vN vN with globals:=0 }),#[]⟩)::(kO "led" "/claim/cut.py" 346 347 348 64 2 0 0 3 135 181 #[vR 136,vN,vR 137,vR 138,vR 139] 353 64 354)::(fO "led" 19 (vS "creasecourt.layings" 321) 140)::(tO #[])::({ cls:=vN,data:=T7 #[] })::(tO #[vS "one" 359,vS "other" 360])::(tO #[])::(⟨vN,none,.func ({ T8 "then" "then" (bN (aE 20)) (bD (aE 20)) (aU (aE 20)) vN vN vN vN (none) vN vN with globals:=0 }),#[]⟩)::(kO "then" "/claim/cut.py" 356 357 358 68 2 0 0 3 142 181 #[vR 143,vN,vR 144,vR 145,vR 146] 361 68 362)::(fO "then" 20 (vS "creasecourt.layings" 321) 147)::(tO #[])::({ cls:=vN,data:=T7 #[] })::(tO #[vS "laying" 367])::(tO #[])::(⟨vN,none,.func ({ T8 "is_turned" "is_turned" (bN (aE 21)) (bD (aE 21)) (aU (aE 21)) vN vN vN vN (none) vN vN with globals:=0 }),#[]⟩)::(kO "is_turned" "/claim/cut.py" 364 365 366 70 1 0 0 3 149 181 #[vR 150,vN,vR 151,vR 152,vR 153] 368 70 369)::(fO "is_turned" 21 (vS "creasecourt.layings" 321) 154)::(tO #[])::({ cls:=vN,data:=T7 #[] })::(tO #[vS "value" 376])::(tO #[])::(⟨vN,none,.func ({ T8 "is_size" "is_size" (bN (aE 23)) (bD (aE 23)) (aU (aE 23)) vN vN vN vN (none) vN vN with globals:=0 }),#[]⟩)::(kO "is_size" "/claim/cut.py" 373 374 375 73 1 0 0 3 156 181 #[vR 157,vN,vR 158,vR 159,vR 160] 377 73 378)::(fO "is_size" 23 (vS "creasecourt.sheets" 371) 161)::(tO #[])::({ cls:=vN,data:=T7 #[] })::(tO #[vS "wide" 383,vS "high" 384])::(tO #[])::(⟨vN,none,.func ({ T8 "check_size" "check_size" (bN (aE 24)) (bD (aE 24)) (aU (aE 24)) vN vN vN vN (none) vN vN with globals:=0 }),#[]⟩)::(kO "check_size" "/claim/cut.py" 380 381 382 75 2 0 0 3 163 181 #[vR 164,vN,vR 165,vR 166,vR 167] 385 75 386)::(fO "check_size" 24 (vS "creasecourt.sheets" 371) 168)::(tO #[])::({ cls:=vN,data:=T7 #[] })::(⟨vN,none,.func ({ T8 "places_within" "places_within" (bN (aE 25)) (bD (aE 25)) (aU (aE 25)) vN vN vN vN (none) vN vN with globals:=0 }),#[]⟩)::(kO "places_within" "/claim/cut.py" 388 389 390 78 2 0 0 3 170 181 #[vR 171,vN,vN,vN,vR 172] 391 78 392)::(fO "places_within" 25 (vS "creasecourt.sheets" 371) 173)::(tO #[])::({ cls:=vN,data:=T7 #[] })::(⟨vN,none,.func ({ T8 "quarters_in" "quarters_in" (bN (aE 26)) (bD (aE 26)) (aU (aE 26)) vN vN vN vN (none) vN vN with globals:=0 }),#[]⟩)::(kO "quarters_in" "/claim/cut.py" 394 395 396 83 2 0 0 3 175 181 #[vR 176,vN,vN,vN,vR 177] 397 83 398)::(fO "quarters_in" 26 (vS "creasecourt.sheets" 371) 178)::(tO #[])::({ cls:=vN,data:=T7 #[] })::(⟨vN,none,.func ({ T8 "edges_in" "edges_in" (bN (aE 27)) (bD (aE 27)) (aU (aE 27)) vN vN vN vN (none) vN vN with globals:=0 }),#[]⟩)::(kO "edges_in" "/claim/cut.py" 400 401 402 85 2 0 0 3 180 181 #[vR 181,vN,vN,vN,vR 182] 403 85 404)::(fO "edges_in" 27 (vS "creasecourt.sheets" 371) 183)::(tO #[])::({ cls:=vN,data:=T7 #[] })::(tO #[vS "piles" 411,vS "heights" 412,vS "pile" 413,vS "height" 414,vS "quarter" 415])::(tO #[])::(⟨vN,none,.func ({ T8 "heights_in" "heights_in" (bN (aE 29)) (bD (aE 29)) (aU (aE 29)) vN vN vN vN (none) vN vN with globals:=0 }),#[]⟩)::(kO "heights_in" "/claim/cut.py" 408 409 410 88 1 0 0 3 185 181 #[vR 186,vN,vR 187,vR 188,vR 189] 416 88 417)::(fO "heights_in" 29 (vS "creasecourt.piles" 406) 190)::(tO #[])::({ cls:=vN,data:=T7 #[] })::(tO #[vS "heights" 422,vS "one" 423,vS "other" 424])::(tO #[])::(⟨vN,none,.func ({ T8 "is_above" "is_above" (bN (aE 30)) (bD (aE 30)) (aU (aE 30)) vN vN vN vN (none) vN vN with globals:=0 }),#[]⟩)::(kO "is_above" "/claim/cut.py" 419 420 421 94 3 0 0 3 192 181 #[vR 193,vN,vR 194,vR 195,vR 196] 425 94 426)::(fO "is_above" 30 (vS "creasecourt.piles" 406) 197)::(tO #[])::({ cls:=vN,data:=T7 #[] })::(tO #[vS "layings" 431,vS "edge" 432,vS "sides" 433])::(tO #[])::(⟨vN,none,.func ({ T8 "turned_first" "turned_first" (bN (aE 31)) (bD (aE 31)) (aU (aE 31)) vN vN vN vN (none) vN vN with globals:=0 }),#[]⟩)::(kO "turned_first" "/claim/cut.py" 428 429 430 96 2 0 0 3 199 181 #[vR 200,vN,vR 201,vR 202,vR 203] 434 96 435)::(fO "turned_first" 31 (vS "creasecourt.piles" 406) 204)::(tO #[])::({ cls:=vN,data:=T7 #[] })::(tO #[vS "heights" 440,vS "layings" 441,vS "edge" 442,vS "sides" 443])::(tO #[])::(⟨vN,none,.func ({ T8 "mark_by_heights" "mark_by_heights" (bN (aE 32)) (bD (aE 32)) (aU (aE 32)) vN vN vN vN (none) vN vN with globals:=0 }),#[]⟩)::(kO "mark_by_heights" "/claim/cut.py" 437 438 439 101 3 0 0 3 206 181 #[vR 207,vN,vR 208,vR 209,vR 210] 444 101 445)::(fO "mark_by_heights" 32 (vS "creasecourt.piles" 406) 211)::(tO #[])::({ cls:=vN,data:=T7 #[] })::(⟨vN,none,.func ({ T8 "marks_by" "marks_by" (bN (aE 33)) (bD (aE 33)) (aU (aE 33)) vN vN vN vN (none) vN vN with globals:=0 }),#[]⟩)::(kO "marks_by" "/claim/cut.py" 447 448 449 104 3 0 0 3 213 181 #[vR 214,vN,vN,vN,vR 215] 450 104 451)::(fO "marks_by" 33 (vS "creasecourt.piles" 406) 216)::(tO #[])::({ cls:=vN,data:=T7 #[] })::(tO #[vS "piles" 458,vS "told" 459,vS "place" 460,vS "pile" 461])::(tO #[])::(⟨vN,none,.func ({ T8 "copied_piles" "copied_piles" (bN (aE 35)) (bD (aE 35)) (aU (aE 35)) vN vN vN vN (none) vN vN with globals:=0 }),#[]⟩)::(kO "copied_piles" "/claim/cut.py" 455 456 457 108 1 0 0 3 218 181 #[vR 219,vN,vR 220,vR 221,vR 222] 462 108 463)::(fO "copied_piles" 35 (vS "creasecourt.folding" 453) 223)::(tO #[])::({ cls:=vN,data:=T7 #[] })::(tO #[vS "layings" 468,vS "edge" 469,vS "side" 470,vS "mirror" 471,vS "told" 472,vS "quarter" 473,vS "laying" 474,vS "goes" 475])::(tO #[])::(⟨vN,none,.func ({ T8 "folded_layings" "folded_layings" (bN (aE 36)) (bD (aE 36)) (aU (aE 36)) vN vN vN vN (none) vN vN with globals:=0 }),#[]⟩)::(kO "folded_layings" "/claim/cut.py" 465 466 467 113 3 0 0 3 225 181 #[vR 226,vN,vR 227,vR 228,vR 229] 476 113 477)::(fO "folded_layings" 36 (vS "creasecourt.folding" 453) 230)::(tO #[])::({ cls:=vN,data:=T7 #[] })::(tO #[vS "piles" 482,vS "edge" 483,vS "side" 484,vS "over" 485,vS "told" 486,vS "place" 487,vS "pile" 488,vS "goal" 489,vS "coming" 490,vS "there" 491])::(tO #[])::(⟨vN,none,.func ({ T8 "folded_piles" "folded_piles" (bN (aE 37)) (bD (aE 37)) (aU (aE 37)) vN vN vN vN (none) vN vN with globals:=0 }),#[]⟩)::(kO "folded_piles" "/claim/cut.py" 479 480 481 120 4 0 0 3 232 181 #[vR 233,vN,vR 234,vR 235,vR 236] 492 120 493)::(fO "folded_piles" 37 (vS "creasecourt.folding" 453) 237)::(tO #[])::({ cls:=vN,data:=T7 #[] })::(⟨vN,none,.func ({ T8 "check_fold" "check_fold" (bN (aE 38)) (bD (aE 38)) (aU (aE 38)) vN vN vN vN (none) vN vN with globals:=0 }),#[]⟩)::(kO "check_fold" "/claim/cut.py" 495 496 497 132 2 0 0 3 239 181 #[vR 240,vN,vN,vN,vR 241] 498 132 499)::(fO "check_fold" 38 (vS "creasecourt.folding" 453) 242)::(tO #[])::({ cls:=vN,data:=T7 #[] })::(tO #[vS "wide" 504,vS "high" 505,vS "layings" 506,vS "told" 507,vS "edge" 508,vS "sides" 509])::(tO #[])::(⟨vN,none,.func ({ T8 "creased_edges" "creased_edges" (bN (aE 39)) (bD (aE 39)) (aU (aE 39)) vN vN vN vN (none) vN vN with globals:=0 }),#[]⟩)::(kO "creased_edges" "/claim/cut.py" 501 502 503 136 3 0 0 3 244 181 #[vR 245,vN,vR 246,vR 247,vR 248] 510 136 511)::(fO "creased_edges" 39 (vS "creasecourt.folding" 453) 249)::[])
noncomputable def vE:XU:={ scope:=UQ.main.scope,locals:=mainNs,globals:=mainNs,cells:=[],code:=T6 13,frame:=some 14 }
open PySem.W PyProof.Rows in
set_option maxRecDepth 100000 in
set_option maxHeartbeats 0 in
theorem IC (w:Uv)(a:Yz):topGo Wg (Vn TH).prog w 11 (some (T6 6)) 12 ⟨Xg w.params,Vd [],Vs,ZL,a⟩ (topStub (Vn TH).prog)=some (⟨⟨Vd (lA w.params),{}⟩,Vd [],Vs,187,a⟩,⟨denote Wg (.body (Uu (Vn TH).prog) vE),(.body (Uu (Vn TH).prog) vE),⟨0,0,0,0⟩,[X4 ⟨0,0,0,0⟩]⟩):=by kernel_rfl
open PySem.W PyProof.Rows in
set_option maxRecDepth 100000 in
set_option maxHeartbeats 0 in
theorem ID (w:Uv)(a:Yz):a1b Wg (Vn TH).prog w 11 (some (T6 6)) 1 1 ⟨⟨Vd (lA w.params),{}⟩,Vd [],Vs,187,a⟩ (blockOf (Uu (Vn TH).prog) vE (.body (Uu (Vn TH).prog) vE) ⟨0,0,0,0⟩ [X4 ⟨0,0,0,0⟩])=some (.next,⟨⟨Vd (lA w.params),{}⟩,Vd [],Vs,187,a⟩,(.body (Uu (Vn TH).prog) vE),⟨0,0,0,0⟩):=by kernel_rfl
open PySem.W PyProof.Rows in
set_option maxRecDepth 100000 in
set_option maxHeartbeats 0 in
theorem IE (w:Uv)(a:Yz):a1b Wg (Vn TH).prog w 11 (some (T6 6)) 1 938 ⟨⟨Vd (lA w.params),{}⟩,Vd [],Vs,187,a⟩ (a1P ((Uu (Vn TH).prog).take 16) vE (.body (Uu (Vn TH).prog) vE) ⟨0,0,0,0⟩ [X4 ⟨0,0,0,0⟩])=some (.next,⟨⟨Vd (lB w.params),{}⟩,Vd [],Vs,323,a⟩,(.body (Uu (Vn TH).prog) vE),⟨58,0,58,8⟩):=by kernel_rfl
open PySem.W PyProof.Rows in
set_option maxRecDepth 100000 in
set_option maxHeartbeats 0 in
theorem IF (w:Uv)(a:Yz):a1b Wg (Vn TH).prog w 11 (some (T6 6)) 1 651 ⟨⟨Vd (lB w.params),{}⟩,Vd [],Vs,323,a⟩ (a1P (((Uu (Vn TH).prog).drop 16).take 24) vE (.body (Uu (Vn TH).prog) vE) ⟨58,0,58,8⟩ [X4 ⟨0,0,0,0⟩])=some (.next,⟨⟨Vd (lC w.params),{}⟩,Vd [],Vs,513,a⟩,(.body (Uu (Vn TH).prog) vE),⟨136,0,142,15⟩):=by kernel_rfl
open PySem.W PyProof.Rows in
set_option maxRecDepth 100000 in
set_option maxHeartbeats 0 in
theorem run:LeftO (Vn TH).prog Vw [] (fun s=>xlAt Vw [] s&&recOk (a2F (a1m (Vn TH))) s) (Hook.obs (a3A Kx As pE)) (Hook.val (a3A Kx As pE)) 4964:=
 L3.left_cut (hA:=fun P=>⟨Vd (lA P),{}⟩) (hB:=fun P=>⟨Vd (lB P),{}⟩) (hC:=fun P=>⟨Vd (lC P),{}⟩) (n3:=1033) (i1:=16) (i2:=24) (env:=vE) (boot_open (by kernel_rfl) (by kernel_rfl) (fun _=>by kernel_rfl)) (fun w=>by kernel_rfl) IC ID IE IF (fun w a=>by kernel_rfl) (by kernel_rfl)
end Lw
set_option maxHeartbeats 4000000
namespace L3
open PySem
open PySem.SetTable (Probe Met Slot bits runEnd leap turns insertAt sizeAbove)
namespace Tb
noncomputable def lV (m:Nat)(p:Probe):Probe:=
 if p.more>0 then { p with j:=p.j+1,more:=p.more - 1 } else
 { p with j:=(leap m p.i p.perturb).1,more:=runEnd m (leap m p.i p.perturb).1 - (leap m p.i p.perturb).1,i:=(leap m p.i p.perturb).1,perturb:=(leap m p.i p.perturb).2 }
noncomputable def IG (m:Nat)(b:Nat):Probe:={ j:=b % (m+1),more:=runEnd m (b % (m+1)) - b % (m+1),i:=b % (m+1),perturb:=b,dummy:=none }
noncomputable def cF (m b:Nat):Nat->Probe
 | 0=>IG m b
 | k+1=>lV m (cF m b k)
noncomputable def lp (m b:Nat):Nat->Nat×Nat
 | 0=>(b % (m+1),b)
 | n+1=>leap m (lp m b n).1 (lp m b n).2
noncomputable def hd (m i q:Nat):Probe:={ j:=i,more:=runEnd m i - i,i:=i,perturb:=q,dummy:=none }
theorem pF {m b k i q:Nat}(h:cF m b k=hd m i q):∀ r,r<=runEnd m i - i->cF m b (k+r) = { j:=i+r,more:=runEnd m i - i - r,i:=i,perturb:=q,dummy:=none }
 | 0,_=>by rw [a2O,h];rfl
 | r+1,hr=>by
  have e:=pF h r (by omega)
  show lV m (cF m b (k+r))=_
  rw [e]
  unfold lV
  rw [if_pos (show runEnd m i - i - r>0 by omega)]
  show Probe.mk (i+r+1) (runEnd m i - i - r - 1) i q none=_
  rw [Nat.add_assoc,Nat.sub_sub]
theorem IH {m b k i q:Nat}(h:cF m b k=hd m i q):cF m b (k+(runEnd m i - i)+1)=hd m (leap m i q).1 (leap m i q).2:=by
 have e:=pF h (runEnd m i - i) (TR _)
 show lV m (cF m b (k+(runEnd m i - i)))=_
 rw [e]
 unfold lV
 rw [if_neg (show ¬ (runEnd m i - i - (runEnd m i - i)>0) by omega)]
 rfl
noncomputable def nx (m i:Nat):Nat:=(i * 5+1) % (m+1)
noncomputable def iC (m:Nat):Nat->Nat->Nat
 | 0,i=>i
 | n+1,i=>iC m n (nx m i)
theorem pG (m:Nat):∀ (a b i:Nat),iC m (a+b) i=iC m b (iC m a i)
 | 0,b,i=>by rw [Nat.zero_add];rfl
 | a+1,b,i=>by rw [Nat.succ_add];exact pG m a b (nx m i)
noncomputable def iY (m:Nat):Nat->Nat->Nat->Nat
 | 0,_,acc=>acc
 | f+1,i,acc=>iY m f (nx m i) (acc ||| (1 <<< i))
theorem Bc (m j:Nat):∀ (f i a:Nat),(iY m f i a).testBit j=true->a.testBit j=true\/∃ n,n<f/\iC m n i=j
 | 0,_,_,h=>.inl h
 | f+1,i,a,h=>by
  rcases Bc m j f (nx m i) _ h with h|⟨n,d,e⟩
  ·rw [Nat.testBit_or] at h
   cases c:a.testBit j with
   | true=>exact .inl rfl
   | false=>
    rw [c,a2o,Nat.testBit_shiftLeft] at h
    refine .inr ⟨0,by omega,?_⟩
    simp at h
    have b:Nat.testBit 1 (j - i)=true:=h.2
    rw [Nat.testBit_one_eq_true_iff_self_eq_zero] at b
    show i=j
    omega
  ·exact .inr ⟨n+1,by omega,e⟩
noncomputable def m5 (m:Nat):Bool:=iY m (m+1) 0 0 == 2 ^ (m+1) - 1&&iC m (m+1) 0 == 0
theorem II {m:Nat}(h:m5 m=true){i j:Nat}(p:i<=m)(l:j<=m):∃ n,n<=m/\iC m n i=j:=by
 unfold m5 at h
 rw [Tw,beq_iff_eq,beq_iff_eq] at h
 have b:∀ j,j<=m->∃ n,n<m+1/\iC m n 0=j:=fun j l=>by
  rcases Bc m j (m+1) 0 0 (by rw [h.1,Nat.testBit_two_pow_sub_one];simp;omega) with q|q
  ·simp at q
  ·exact q
 obtain ⟨a,r,d⟩:=b i p
 obtain ⟨c,hc,e⟩:=b j l
 by_cases o:a<=c
 ·refine ⟨c - a,by omega,?_⟩
  rw [<- d,<- pG,show a+(c - a)=c by omega,e]
 ·refine ⟨m+1 - a+c,by omega,?_⟩
  rw [<- d,<- pG,show a+(m+1 - a+c)=m+1+c by omega,pG,h.2,e]
theorem Bd (m b:Nat):∀ n,(lp m b n).2=b / 32 ^ n
 | 0=>by simp [lp]
 | n+1=>by
  show (lp m b n).2 / 32=_
  rw [Bd m b n,Nat.div_div_eq_div_mul,Nat.pow_succ]
theorem Be (m b:Nat):∀ n,(lp m b n).1<=m
 | 0=>a1C (a3E _ (a0o _))
 | n+1=>a1C (a3E _ (a0o _))
theorem IJ {m b:Nat}(c:b<2 ^ 64):∀ n,lp m b (13+n)=(iC m n (lp m b 13).1,0):=by
 have a:∀ n,13<=n->(lp m b n).2=0:=fun n d=>by
  rw [Bd]
  apply Nat.div_eq_of_lt
  refine Uj c ?_
  have:(2:Nat) ^ 64<=32 ^ 13:=by decide
  exact UT this (Nat.pow_le_pow_right (by decide) d)
 intro n
 have one:∀ n i,iC m (n+1) i=nx m (iC m n i):=fun n i=>by
  rw [pG];rfl
 induction n with
 | zero=>exact X7 rfl (a 13 (TR _))
 | succ n e=>
  show leap m (lp m b (13+n)).1 (lp m b (13+n)).2=_
  rw [e,one]
  simp [leap,nx]
theorem IK {m b j:Nat}(hc:m5 m=true)(a:b<2 ^ 64)(c:j<=m):∃ n,n<=m+13/\(lp m b n).1=j:=by
 obtain ⟨n,d,e⟩:=II hc (Be m b 13) c
 exact ⟨13+n,by omega,by rw [IJ a];exact e⟩
noncomputable def Reach (m:Nat)(S:List Nat)(b j:Nat):Prop:=∃ k,(cF m b k).j=j/\∀ k',k'<k->(cF m b k').j∈S
theorem Reach.mono {m b j:Nat}{S c:List Nat}(h:Reach m S b j)(i:∀ x,x∈S->x∈c):Reach m c b j:=
 let ⟨k,e,a⟩:=h;⟨k,e,fun l d=>i _ (a l d)⟩
theorem IL {m:Nat}{S:List Nat}(b:S.length<=m):∃ j,j<=m/\j∉S:=by
 refine XE fun h=>?_
 have all:∀ j,j<=m->j∈S:=fun j a=>XE fun q=>h ⟨j,a,q⟩
 have:=List.Nodup.length_le_of_subset (l₁:=UX (m+1)) (l₂:=S) a1E fun j a=>all j (by simpa [Zt] using a)
 rw [List.length_range] at this
 omega
theorem vK {xs:Array Nat}{j:Nat}(l:∀ a b,a<b->b<xs.size->xs.getD a 0<xs.getD b 0):∀ (f lo d:Nat),d - lo<=f->lo<=d->d<=xs.size->(∀ i,i<lo->xs.getD i 0<j)->(∀ i,d<=i->i<xs.size->j<=xs.getD i 0)->
  Xp xs j f lo d<=xs.size/\(∀ i,i<Xp xs j f lo d->xs.getD i 0<j)/\∀ i,Xp xs j f lo d<=i->i<xs.size->j<=xs.getD i 0
 | 0,lo,d,hf,h1,h2,a,b=>by
  have e:lo=d:=by omega
  show lo<=xs.size/\(∀ i,i<lo->_)/\∀ i,lo<=i->_
  exact ⟨by omega,a,by rw [e];exact b⟩
 | f+1,lo,d,hf,h1,h2,a,b=>by
  unfold Xp
  by_cases q:lo<d
  ·rw [if_pos q]
   dsimp only
   have o:(lo+d) / 2<xs.size:=by omega
   have e:xs.getD ((lo+d) / 2) j=xs.getD ((lo+d) / 2) 0:=by simp [WV,o]
   rw [e]
   by_cases c:xs.getD ((lo+d) / 2) 0<j
   ·rw [if_pos c]
    refine vK l f _ _ (by omega) (by omega) h2 (fun i m=>?_) b
    rcases Wr i ((lo+d) / 2) with z|z
    ·exact Yk (l _ _ z o) c
    ·have:i=(lo+d) / 2:=by omega
     rw [this];exact c
   ·rw [if_neg c]
    refine vK l f _ _ (by omega) (by omega) (by omega) a fun i m n=>?_
    rcases Wr ((lo+d) / 2) i with z|z
    ·have:=l _ _ z n;omega
    ·have:i=(lo+d) / 2:=by omega
     rw [this];omega
  ·rw [if_neg q]
   exact ⟨by omega,a,fun i h n=>b i (by omega) n⟩
theorem Bf {xs:Array Nat}(h:xs.toList.Pairwise (·<·)):∀ a b,a<b->b<xs.size->xs.getD a 0<xs.getD b 0:=fun a b c d=>by
 have:=XZ.mp h a b (by simpa using Yk c d) (by simpa using d) c
 simpa [WV,d,Yk c d] using this
theorem Bg {xs:Array Nat}(h:xs.toList.Pairwise (·<·))(j:Nat):U6 xs j<=xs.size/\(∀ i,i<U6 xs j->xs.getD i 0<j)/\∀ i,U6 xs j<=i->i<xs.size->j<=xs.getD i 0:=
 vK (Bf h) _ _ _ (by omega) (by omega) (TR _) (fun i z=>absurd z (XB _)) fun i z a=>by omega
theorem IM {a:Type}(xs:Array a)(p:Nat)(x:a):(insertAt xs p x).toList=xs.toList.take p++x::xs.toList.drop p:=by
 unfold insertAt
 simp
 exact Z8 (by simp)
noncomputable abbrev m7:=Nat×Int×Value
structure Ok (t:Yp)(R:List m7):Prop where
 place:t.place.toList=R.map (·.1)
 dum:t.dummies = #[]
 rise:(R.map (·.1)).Pairwise (·<·)
 le:∀ r∈R,r.1<=t.mask
 cov:m5 t.mask=true
 odd:t.mask % 2=1
 room:R.length<=t.mask
 road:∀ r∈R,Reach t.mask (R.map (·.1)) (bits r.2.1) r.1
section
variable {t:Yp}{R:List m7}
theorem IP (h:Int):bits h<2 ^ 64:=by
 unfold bits
 have a:0<=h % (2 ^ 64:Int):=XD _ (by decide)
 have b:h % (2 ^ 64:Int)<2 ^ 64:=W0 _ (by decide)
 omega
theorem Ok.size (o:Ok t R):t.place.size=R.length:=by
 have:=congrArg UJ o.place
 simpa using this
theorem Ok.uniq (o:Ok t R){r c:m7}(h:r∈R)(h':c∈R)(e:r.1=c.1):r=c:=by
 have p:=Wy.mp o.rise
 obtain ⟨i,d,a⟩:=V1 h
 obtain ⟨k,j,b⟩:=V1 h'
 rcases Y4 i k with z|z|z
 ·have:=XZ.mp p i k d j z
  rw [a,b] at this;omega
 ·subst z;rw [<- a,<- b]
 ·have:=XZ.mp p k i j d z
  rw [a,b] at this;omega
theorem Ok.getD (o:Ok t R){i:Nat}(a:i<R.length):t.place.getD i 0=(R[i]).1:=by
 have h:t.place.toList[i]? = (R.map (·.1))[i]?:=by rw [o.place]
 have b:i<t.place.size:=by rw [o.size];exact a
 simp [a,b] at h
 simp [WV,b,h]
theorem Ok.sorted (o:Ok t R):t.place.toList.Pairwise (·<·):=by rw [o.place];exact o.rise
theorem Bh (j:Nat):Zw #[] j=false:=by
 unfold Zw
 simp
theorem Ok.live (o:Ok t R){j:Nat}(h:j∈R.map (·.1)):∃ i r,t.slot j=.live i/\R[i]? = some r/\r.1=j:=by
 obtain ⟨r,n,e⟩:=TX.mp h
 obtain ⟨i,a,d⟩:=V1 n
 have b:=Bg o.sorted j
 have m:t.place.getD i 0=j:=by rw [o.getD a,d];exact e
 have c:i<t.place.size:=by rw [o.size];exact a
 have l:U6 t.place j=i:=by
  rcases Y4 (U6 t.place j) i with z|z|z
  ·have p:=b.2.2 _ (TR _) (by omega)
   have q:=Bf o.sorted _ _ z c
   omega
  ·exact z
  ·have:=b.2.1 i z;omega
 refine ⟨i,r,?_,by rw [<- d];exact Uw a,e⟩
 unfold a1c
 dsimp only
 rw [l,if_pos]
 have:t.place[i]? = some j:=by
  rw [XY c]
  simpa [WV,c] using m
 rw [this]
 exact beq_self_eq_true _
theorem Ok.empty (o:Ok t R){j:Nat}(h:j∉R.map (·.1)):t.slot j=.empty:=by
 unfold a1c
 dsimp only
 rw [if_neg,o.dum,Bh]
 ·rfl
 ·intro q
  rw [beq_iff_eq] at q
  apply h
  rw [<- o.place]
  exact a0s.mpr (Array.mem_of_getElem? q)
theorem Bi (m b:Nat):∀ k,(cF m b k).dummy=none
 | 0=>rfl
 | k+1=>by
  show (lV m (cF m b k)).dummy=none
  unfold lV
  split<;>exact Bi m b k
theorem Ok.go (o:Ok t R)(ZI:Nat->Int)(x:∀ i r,R[i]? = some r->ZI i=r.2.1){h:Int}{K:Nat}(v:(cF t.mask (bits h) K).j∉R.map (·.1))(w:∀ k',k'<K->(cF t.mask (bits h) k').j∈R.map (·.1)) :
  ∀ (f k:Nat),k<=K->K<k+f->
   (Xo t ZI h f (cF t.mask (bits h) k)=some (.empty (cF t.mask (bits h) K).j none)/\∀ k' r,k<=k'->k'<K->r∈R->r.1=(cF t.mask (bits h) k').j->r.2.1≠h) \/
   ∃ k' i r,k<=k'/\k'<K/\R[i]? = some r/\r.1=(cF t.mask (bits h) k').j/\r.2.1=h/\Xo t ZI h f (cF t.mask (bits h) k)=some (.candidate (cF t.mask (bits h) k').j i (cF t.mask (bits h) (k'+1))) /\
    ∀ c j,k<=c->c<k'->j∈R->j.1=(cF t.mask (bits h) c).j->j.2.1≠h
 | 0,k,h1,h2=>by omega
 | f+1,k,h1,h2=>by
  rcases Wr k K with z|z
  ·obtain ⟨i,r,e,p,u⟩:=o.live (w k z)
   have L:Xo t ZI h (f+1) (cF t.mask (bits h) k)=if ZI i == h then some (.candidate (cF t.mask (bits h) k).j i (cF t.mask (bits h) (k+1))) else Xo t ZI h f (cF t.mask (bits h) (k+1)):=by
    show (match t.slot (cF t.mask (bits h) k).j with|.empty=>_|.dummy=>_|.live i=>_)=_
    rw [e]
    rfl
   rw [L,x i r p]
   have s:r∈R:=UM p
   by_cases q:r.2.1=h
   ·refine .inr ⟨k,i,r,TR _,z,p,u,q,?_,fun c j a b=>by omega⟩
    rw [q,if_pos (beq_self_eq_true _)]
   ·rw [if_neg (by simpa using q)]
    have here:∀ j,j∈R->j.1=(cF t.mask (bits h) k).j->j.2.1≠h:=fun j d l=>by
     rw [o.uniq d s (l.trans u.symm)];exact q
    rcases Ok.go o ZI x v w f (k+1) z (by omega) with ⟨a,b⟩|⟨k',M,j,N,A,B,E,G,H,I⟩
    ·refine .inl ⟨a,fun k' j J n d l=>?_⟩
     rcases Wr k k' with y|y
     ·exact b k' j y n d l
     ·have:k'=k:=by omega
      subst this;exact here j d l
    ·refine .inr ⟨k',M,j,by omega,A,B,E,G,H,fun c m J n d l=>?_⟩
     rcases Wr k c with y|y
     ·exact I c m y n d l
     ·have:c=k:=by omega
      subst this;exact here m d l
  ·have:k=K:=by omega
   subst this
   refine .inl ⟨?_,fun k' r a b=>by omega⟩
   show (match t.slot (cF t.mask (bits h) k).j with|.empty=>_|.dummy=>_|.live i=>_)=_
   rw [o.empty v]
   show some (Met.empty _ (cF t.mask (bits h) k).dummy)=_
   rw [Bi]
theorem Ok.put (o:Ok t R){j:Nat}{h:Int}{x:Value}(s:j<=t.mask)(v:j∉R.map (·.1))(a:Reach t.mask (R.map (·.1)) (bits h) j)(B:R.length+1<=t.mask) :
  (t.put j).2=U6 t.place j/\(t.put j).1.mask=t.mask/\(t.put j).1.led=t.led/\(t.put j).1.plain=t.plain/\Ok (t.put j).1 (R.take (U6 t.place j)++(j,h,x)::R.drop (U6 t.place j)):=by
 have b:=Bg o.sorted j
 rw [o.size] at b
 refine ⟨rfl,rfl,rfl,rfl,?_⟩
 have c:∀ r,r∈R.take (U6 t.place j)++(j,h,x)::R.drop (U6 t.place j)↔r=(j,h,x)\/r∈R:=fun r=>by
  constructor
  ·intro q
   rcases Vp.mp q with q|q
   ·exact .inr (Yv q)
   ·rcases Uq.mp q with q|q
    ·exact .inl q
    ·exact .inr (a0A q)
  ·rintro (q|q)
   ·exact Vp.mpr (.inr (Uq.mpr (.inl q)))
   ·rw [<- Xh (U6 t.place j) R] at q
    rcases Vp.mp q with q|q
    ·exact Vp.mpr (.inl q)
    ·exact Vp.mpr (.inr (Uq.mpr (.inr q)))
 have l:∀ y,y∈R.map (·.1)->y∈(R.take (U6 t.place j)++(j,h,x)::R.drop (U6 t.place j)).map (·.1):=fun y w=>by
  obtain ⟨r,q,e⟩:=TX.mp w
  exact TX.mpr ⟨r,(c r).mpr (.inr q),e⟩
 have n:∀ r,r∈R.take (U6 t.place j)->r.1<j:=fun r a=>by
  obtain ⟨i,d,e⟩:=V1 a
  rw [UZ] at d
  have:=b.2.1 i (by omega)
  rw [o.getD (by omega)] at this
  rw [List.getElem_take] at e
  rw [<- e];exact this
 have d:∀ r,r∈R.drop (U6 t.place j)->j<r.1:=fun r a=>by
  have u:r∈R:=a0A a
  obtain ⟨i,d,e⟩:=V1 a
  rw [Yb] at d
  have:=b.2.2 (U6 t.place j+i) (by omega) (by omega)
  rw [o.getD (by omega)] at this
  rw [List.getElem_drop] at e
  rw [e] at this
  have ne:r.1≠j:=fun z=>v (TX.mpr ⟨r,u,z⟩)
  omega
 refine ⟨?_,?_,?_,?_,o.cov,o.odd,?_,?_⟩
 ·show (insertAt t.place _ j).toList=_
  rw [IM,o.place,Uo,TM,a2l,List.map_drop]
 ·show (if Zw t.dummies j=true then _ else t.dummies) = #[]
  rw [o.dum,Bh];rfl
 ·have p:=Wy.mp o.rise
  rw [Wy,a0z]
  refine ⟨p.sublist (a1n _ _),List.pairwise_cons.mpr ⟨fun r a=>d r a,p.sublist (List.drop_sublist _ _)⟩,fun r a A m=>?_⟩
  rcases Uq.mp m with q|q
  ·subst q;exact n r a
  ·exact Yk (n r a) (d A q)
 ·intro r q
  rcases (c r).mp q with q|q
  ·subst q;exact s
  ·exact o.le r q
 ·rw [TV,Uk,UZ,Yb]
  show _<=t.mask
  omega
 ·intro r q
  rcases (c r).mp q with q|q
  ·subst q;exact a.mono l
  ·exact (o.road r q).mono l
end
noncomputable def lv (m:Nat)(a:Array (Option Nat)):List (Nat×Nat):=(UX (m+1)).filterMap fun j=>(a.getD j none).map (j,·)
theorem mem_lv {m:Nat}{c:Array (Option Nat)}{j i:Nat}:(j,i)∈lv m c↔j<=m/\c.getD j none=some i:=by
 unfold lv
 rw [YK]
 constructor
 ·rintro ⟨a,o,e⟩
  rw [Tz] at e
  obtain ⟨b,d,h⟩:=e
  cases h
  exact ⟨by simpa [Zt] using o,d⟩
 ·rintro ⟨l,n⟩
  exact ⟨j,by simpa [Zt] using l,by rw [n];rfl⟩
theorem IQ (m:Nat)(j:Array (Option Nat)):((lv m j).map (·.1)).Pairwise (·<·):=by
 rw [Wy]
 unfold lv
 refine a2R (R:=(·<·)) _ (fun a l h b d n c=>?_) List.pairwise_lt_range
 rw [Tz] at d c
 obtain ⟨_,_,e⟩:=d
 obtain ⟨_,_,i⟩:=c
 rw [<- e,<- i]
 exact h
structure Ow (m:Nat)(ds:List Int)(ow:Array (Option Nat)):Prop where
 size:ow.size=m+1
 lt:∀ j i,ow.getD j none=some i->i<ds.length
 all:∀ i,i<ds.length->∃ j,ow.getD j none=some i
 inj:∀ j j' i,ow.getD j none=some i->ow.getD j' none=some i->j=j'
 road:∀ j i,ow.getD j none=some i->Reach m ((lv m ow).map (·.1)) (bits (ds.getD i 0)) j
section
variable {m:Nat}{ds:List Int}{ow:Array (Option Nat)}
theorem Ow.le (o:Ow m ds ow){j i:Nat}(h:ow.getD j none=some i):j<=m:=by
 rcases Wr j ow.size with z|z
 ·rw [o.size] at z;omega
 ·simp [WV,Xq.mpr z] at h
theorem Ow.taken (o:Ow m ds ow){j:Nat}(b:j<=m):j∈(lv m ow).map (·.1)↔(ow.getD j (some 0)).isNone=false:=by
 have c:j<ow.size:=by rw [o.size];omega
 have e:ow.getD j (some 0)=ow.getD j none:=by simp [WV,c]
 rw [e]
 constructor
 ·intro q
  obtain ⟨⟨a,i⟩,d,rfl⟩:=TX.mp q
  rw [(mem_lv.mp d).2];rfl
 ·intro q
  cases z:ow.getD j none with
  | none=>rw [z] at q;cases q
  | some i=>exact TX.mpr ⟨(j,i),mem_lv.mpr ⟨b,z⟩,rfl⟩
theorem Ow.perm (o:Ow m ds ow):((lv m ow).map (·.2)).Perm (UX ds.length):=by
 have nd:((lv m ow).map (·.2)).Nodup:=by
  have p:=Wy.mp (IQ m ow)
  unfold List.Nodup
  rw [Wy]
  refine p.imp_of_mem fun {a b} n r c e=>?_
  obtain ⟨d,h⟩:=a
  obtain ⟨l,u⟩:=b
  have:=o.inj d l h (mem_lv.mp n).2 (by have:=(mem_lv.mp r).2;rw [this];exact congrArg some e.symm)
  exact V3 _ (this ▸ c)
 refine (List.perm_ext_iff_of_nodup nd a1E).mpr fun i=>?_
 rw [XR]
 constructor
 ·intro q
  obtain ⟨⟨a,i⟩,s,rfl⟩:=TX.mp q
  exact o.lt a i (mem_lv.mp s).2
 ·intro q
  obtain ⟨j,e⟩:=o.all i q
  exact TX.mpr ⟨(j,i),mem_lv.mpr ⟨o.le e,e⟩,rfl⟩
theorem Ow.count (o:Ow m ds ow):(lv m ow).length=ds.length:=by
 have:=o.perm.length_eq
 simpa using this
theorem Ow.free (o:Ow m ds ow){b:Nat}:∀ (f n k0:Nat),cF m b k0=hd m (lp m b n).1 (lp m b n).2->(∀ k',k'<k0->(cF m b k').j∈(lv m ow).map (·.1))->(∃ N,n<=N/\N<n+f/\(lp m b N).1∉(lv m ow).map (·.1))->
  ∃ j,Xs m ow f (lp m b n).1 (lp m b n).2=some j/\j<=m/\j∉(lv m ow).map (·.1)/\Reach m ((lv m ow).map (·.1)) b j
 | 0,n,k0,_,_,⟨N,h1,h2,_⟩=>by omega
 | f+1,n,k0,hk,ht,⟨N,h1,h2,hN⟩=>by
  have v:=Be m b n
  have l:runEnd m (lp m b n).1<=m:=by unfold runEnd;split<;>omega
  have p:(lp m b n).1<=runEnd m (lp m b n).1:=by unfold runEnd;split<;>omega
  unfold Xs
  cases z:(UX (runEnd m (lp m b n).1+1 - (lp m b n).1)).find? fun k=>(ow.getD ((lp m b n).1+k) (some 0)).isNone with
  | some r=>
   rw [List.find?_range_eq_some] at z
   obtain ⟨h,s,u⟩:=z
   rw [XR] at s
   refine ⟨(lp m b n).1+r,rfl,by omega,fun q=>?_,k0+r,by rw [pF hk r (by omega)],fun k' a=>?_⟩
   ·rw [o.taken (by omega)] at q
    rw [q] at h;cases h
   ·rcases Wr k' k0 with y|y
    ·exact ht k' y
    ·obtain ⟨d,rfl⟩:=Z7 y
     rw [pF hk d (by omega)]
     show (lp m b n).1+d∈_
     rw [o.taken (by omega)]
     have:=u d (by omega)
     simpa using this
  | none=>
   rw [List.find?_range_eq_none] at z
   have c:∀ r,r<runEnd m (lp m b n).1+1 - (lp m b n).1->(lp m b n).1+r∈(lv m ow).map (·.1):=fun r i=>by
    rw [o.taken (by omega)]
    have:=z r i
    simpa using this
   have ne:N≠n:=fun e=>hN (by rw [e];exact c 0 (by omega))
   refine Ow.free o f (n+1) _ (IH hk) (fun k' a=>?_) ⟨N,by omega,by omega,hN⟩
   rcases Wr k' k0 with y|y
   ·exact ht k' y
   ·obtain ⟨d,rfl⟩:=Z7 y
    rw [pF hk d (by omega)]
    exact c d (by omega)
theorem Ow.step (o:Ow m ds ow)(hc:m5 m=true)(G:ds.length<=m)(h:Int):∃ j,Xs m ow (turns m) (bits h % (m+1)) (bits h)=some j/\Ow m (ds++[h]) (ow.setIfInBounds j (some ds.length)):=by
 obtain ⟨g,B,u⟩:=IL (m:=m) (S:=(lv m ow).map (·.1)) (by rw [TF,o.count];exact G)
 obtain ⟨N,J,A⟩:=IK hc (IP h) B
 obtain ⟨j,e,E,w,H⟩:=o.free (b:=bits h) (turns m) 0 0 rfl (fun l z=>absurd z (XB _)) ⟨N,Vj _,by unfold turns;omega,by rw [A];exact u⟩
 have x:j<ow.size:=by rw [o.size];omega
 have get:∀ k,(ow.setIfInBounds j (some ds.length)).getD k none=if k=j then some ds.length else ow.getD k none:=fun k=>by
  by_cases q:k=j
  ·subst q;simp [WV,x]
  ·rw [if_neg q]
   simp [WV]
   split
   ·rw [Array.getElem_setIfInBounds]
    rw [if_neg (UG q)]
   ·rfl
 have r:ow.getD j none=none:=by
  cases z:ow.getD j none with
  | none=>rfl
  | some i=>exact absurd (TX.mpr ⟨(j,i),mem_lv.mpr ⟨E,z⟩,rfl⟩) w
 have p:∀ y,y∈(lv m ow).map (·.1)->y∈(lv m (ow.setIfInBounds j (some ds.length))).map (·.1):=fun y I=>by
  obtain ⟨⟨a,i⟩,q,rfl⟩:=TX.mp I
  have s:=mem_lv.mp q
  refine TX.mpr ⟨(a,i),mem_lv.mpr ⟨s.1,?_⟩,rfl⟩
  rw [get,if_neg (fun z=>by rw [z,r] at s;cases s.2)]
  exact s.2
 refine ⟨j,e,⟨by rw [Array.size_setIfInBounds];exact o.size,fun k i b=>?_,fun i v=>?_,fun k l i c d=>?_,fun k i b=>?_⟩⟩
 ·rw [get] at b
  rw [TV,U3]
  by_cases q:k=j
  ·rw [if_pos q] at b;cases b;omega
  ·rw [if_neg q] at b;have:=o.lt k i b;omega
 ·rw [TV,U3] at v
  by_cases q:i=ds.length
  ·exact ⟨j,by rw [get,if_pos rfl,q]⟩
  ·obtain ⟨k,b⟩:=o.all i (by omega)
   exact ⟨k,by rw [get,if_neg (fun z=>by rw [z,r] at b;cases b)];exact b⟩
 ·rw [get] at c d
  by_cases q:k=j
  ·by_cases n:l=j
   ·rw [q,n]
   ·rw [if_pos q] at c;rw [if_neg n] at d
    cases c;exact absurd (o.lt l _ d) (V3 _)
  ·by_cases n:l=j
   ·rw [if_neg q] at c;rw [if_pos n] at d
    cases d;exact absurd (o.lt k _ c) (V3 _)
   ·rw [if_neg q] at c;rw [if_neg n] at d
    exact o.inj k l i c d
 ·rw [get] at b
  by_cases q:k=j
  ·rw [if_pos q] at b;cases b
   rw [q]
   have:(ds++[h]).getD ds.length 0=h:=by simp [a1I]
   rw [this]
   exact H.mono p
  ·rw [if_neg q] at b
   have v:=o.lt k i b
   have:(ds++[h]).getD i 0=ds.getD i 0:=by simp [a1I,Uc v]
   rw [this]
   exact (o.road k i b).mono p
end
theorem Ow.nil (m:Nat):Ow m [] (Zi (m+1) none):=by
 have e:∀ j,(Zi (m+1) (none:Option Nat)).getD j none=none:=fun j=>by
  simp [WV]
 have a:∀ {P:Prop}(j i:Nat),(Zi (m+1) (none:Option Nat)).getD j none=some i->P:=fun j i h=>by
  rw [e] at h;exact nomatch h
 exact ⟨by simp,fun j i h=>a j i h,fun i h=>absurd h (XB _),fun j b i h _=>a j i h,fun j i h=>a j i h⟩
end Tb
end L3
namespace L3
open PySem
open PySem.SetTable (Probe Met Slot bits runEnd leap turns insertAt sizeAbove)
namespace Tb
section
variable {prog:Ud}{w:Uv}{K:Type} [DecidableEq K] {knd:KeyKind prog w K}{A:Ur}{E:Value->TC->Prop}{s:TC}
theorem fits_of {t:Yp}{R:List m7}{a:Array (Int×Value)}(o:Ok t R)(d:a.toList=R.map (·.2)):t.fits a.size=true:=by
 have b:a.size=R.length:=by simpa using congrArg UJ d
 have c:=o.room
 unfold SetTable.fits SetTable.fill
 rw [o.size,b,o.dum]
 simp;exact c
end
section
variable {prog:Ud}{w:Uv}{A:Ur}{E:Value->TC->Prop}{s:TC}
noncomputable abbrev El:=List Int×Addr
noncomputable def hashT (k:List Int):Int:=reduceHash (a2T (k.map hashInt))
noncomputable def IS (p:El):Int×Value:=(hashT p.1,T6 p.2)
noncomputable def Msk (m:Nat):Prop:=m=7\/m=31\/m=127\/m=511
theorem Msk.cov {m:Nat}(h:Msk m):m5 m=true:=by
 rcases h with rfl|rfl|rfl|rfl<;>decide +kernel
theorem Msk.odd {m:Nat}(h:Msk m):m % 2=1:=by
 rcases h with rfl|rfl|rfl|rfl<;>rfl
noncomputable def Bj (w:Uv):Bool:=w.params.followText "set-order"
noncomputable def IT (b:Bool)(L:List El)(o:Obj):Prop:=∃ a c t R,o.ExactSet/\o.data=.set a c t/\a.toList=R.map (·.2)/\Ok t R/\a.toList.Perm (L.map IS)/\(L.map (·.1)).Nodup/\Msk t.mask/\L.length * 5<t.mask * 3/\t.plain=true/\t.led=b
noncomputable def SObj (L:List El)(o:Obj):Prop:=∃ a,IT a L o
end
end Tb
end L3
namespace L3
open PySem
namespace Tb
noncomputable def IU (w:Uv)(t:Yp):Nat->Nat
 | 0=>0
 | i+1=>if Bj w then 0 else t.place.getD i 0+1
section
variable {prog:Ud}{w:Uv}{A:Ur}{E:Value->TC->Prop}{s:TC}
noncomputable def SIt (w:Uv)(h:UU)(I a:Addr)(t:Yp)(i n b:Nat):Prop:=∃ o,h.get? I=some o/\o.cls=.type "set_iterator"/\o.data=.fields #[Wq (IU w t i),Wq i,.ref a,Wq n,Wq b]
theorem SIt.ty {I a:Addr}{t:Yp}{i n b:Nat}(x:SIt w s.heap I a t i n b):s.TypeIs (.ref I) "set_iterator":=let ⟨o,c,hc,_⟩:=x;⟨o,c,hc⟩
structure SAt (w:Uv)(h:UU)(a:Addr)(es:Array (Int×Value))(ep:Nat)(t:Yp)(R:List m7):Prop where
 at_:∃ o,h.get? a=some o/\o.cls=.type "set"/\o.data=.set es ep t
 he:es.toList=R.map (·.2)
 ok:Ok t R
 pl:t.plain=true
 led:t.led = !Bj w
theorem SAt.ty {a:Addr}{c:Array (Int×Value)}{b:Nat}{t:Yp}{R:List m7}(x:SAt w s.heap a c b t R):s.TypeIs (.ref a) "set":=let ⟨o,d,hc,_⟩:=x.at_;⟨o,d,hc⟩
end
end Tb
end L3
namespace L3
open PySem L2
inductive D where
 | non|bl (b:Bool)|int (i:Int)|str (x:Str)|tup (xs:List D)|rol (xs:List D)|loc (a:Nat)|ty (n:String)
 deriving Inhabited
inductive C where
 | lst (xs:List D)
 | dK (kvs:List (aM×D))
 | st (ks:List (List Int))
 | dT (kvs:List (List Int×D))
 | dF (kvs:List (List Int×D))
 | exc (x:Str)(ns:List Str)(ds:List D)
 | ins (x:Str)(fs:List (Str×D))
 deriving Inhabited
noncomputable abbrev Hm:=List C
noncomputable abbrev aF:=List (Option D)
noncomputable abbrev ME:=aF->Hm->Option (D×Hm)
noncomputable abbrev MT:=aF->Hm->Option (Bool×Hm)
noncomputable abbrev MA:=aF->Hm->Option (List D×Hm)
inductive Fl where
 | nx|rt (d:D)|bk|ct
noncomputable abbrev MS:=aF->Hm->Option (Fl×aF×Hm)
noncomputable abbrev MF:=List D->Hm->Option (D×Hm)
noncomputable def RoL (K:Tv)(H:Hp)(p:Addr)(xs:List V):Prop:=
 (∃ o,H p=some (.frz o (.lst xs))) \/
  ∃ (o:Obj)(its:Array Value)(n:Nat),K.lookup p=some o/\o.cls=.type "list"/\o.dict=none/\o.data=.seq its n/\its.size<=TZ/\Vals xs its.toList
theorem RoL.sq {K:Tv}{H:Hp}{p:Addr}{xs:List V}(h:RoL K H p xs):SqL K H p xs:=by
 rcases h with ⟨o,h⟩|h
 ·exact .inl (.inr ⟨o,h⟩)
 ·exact .inr h
mutual
inductive IsD (K:Tv)(π:Nat->Addr)(n:Nat)(H:Hp):V->D->Prop where
 | non:IsD K π n H .non .non
 | bl (b:Bool):IsD K π n H (.bl b) (.bl b)
 | int (i:Int):IsD K π n H (.int i) (.int i)
 | str (x:Str):IsD K π n H (.str x) (.str x)
 | tup {p:Addr}{vs:List V}{ds:List D}(h:SqT K H p vs)(t:IsDs K π n H vs ds):IsD K π n H (.ref p) (.tup ds)
 | rol {p:Addr}{vs:List V}{ds:List D}(h:RoL K H p vs)(t:IsDs K π n H vs ds):IsD K π n H (.ref p) (.rol ds)
 | loc {a:Nat}(h:a<n):IsD K π n H (.ref (π a)) (.loc a)
 | ty (x:String):IsD K π n H (.ty x) (.ty x)
inductive IsDs (K:Tv)(π:Nat->Addr)(n:Nat)(H:Hp):List V->List D->Prop where
 | nil:IsDs K π n H [] []
 | cons {v:V}{d:D}{vs:List V}{ds:List D}(h:IsD K π n H v d)(t:IsDs K π n H vs ds):IsDs K π n H (v::vs) (d::ds)
end
structure Ext (π:Nat->Addr)(n:Nat)(H:Hp)(π':Nat->Addr)(n':Nat)(H':Hp):Prop where
 le:n<=n'
 pi:∀ a,a<n->π' a=π a
 tup:∀ p vs,H p=some (.tup vs)->H' p=some (.tup vs)
 frz:∀ p o u,H p=some (.frz o u)->H' p=some (.frz o u)
structure Ext0 (π:Nat->Addr)(n:Nat)(H:Hp)(π':Nat->Addr)(n':Nat)(H':Hp):Prop where
 le:n<=n'
 pi:∀ a,a<n->π' a=π a
 tup:∀ p vs,H p=some (.tup vs)->H' p=some (.tup vs)
 frz:∀ p o u,(∀ φ,u≠HO.ext φ)->H p=some (.frz o u)->H' p=some (.frz o u)
section
variable {K:Tv}{π π' π2:Nat->Addr}{n n' n2:Nat}{H H' H2:Hp}
theorem Ext.weak (e:Ext π n H π' n' H'):Ext0 π n H π' n' H':=⟨e.le,e.pi,e.tup,fun p o u _ h=>e.frz p o u h⟩
theorem Ext.refl:Ext π n H π n H:=⟨TR _,fun _ _=>rfl,fun _ _ h=>h,fun _ _ _ h=>h⟩
theorem Ext.trans (a:Ext π n H π' n' H')(b:Ext π' n' H' π2 n2 H2):Ext π n H π2 n2 H2:=
 ⟨UT a.le b.le,fun i h=>(b.pi i (Uj h a.le)).trans (a.pi i h),fun p c h=>b.tup p c (a.tup p c h),fun p o u h=>b.frz p o u (a.frz p o u h)⟩
theorem Ext0.sqT (e:Ext0 π n H π' n' H'){p:Addr}{vs:List V}(h:SqT K H p vs):SqT K H' p vs:=by
 rcases h with h|h
 ·rcases h with h|⟨o,h⟩
  ·exact .inl (.inl (e.tup _ _ h))
  ·exact .inl (.inr ⟨o,e.frz _ _ _ (fun _ z=>nomatch z) h⟩)
 ·exact .inr h
theorem Ext.sqT (e:Ext π n H π' n' H'){p:Addr}{vs:List V}(h:SqT K H p vs):SqT K H' p vs:=e.weak.sqT h
theorem Ext0.roL (e:Ext0 π n H π' n' H'){p:Addr}{vs:List V}(h:RoL K H p vs):RoL K H' p vs:=by
 rcases h with ⟨o,h⟩|h
 ·exact .inl ⟨o,e.frz _ _ _ (fun _ z=>nomatch z) h⟩
 ·exact .inr h
theorem Ext.roL (e:Ext π n H π' n' H'){p:Addr}{vs:List V}(h:RoL K H p vs):RoL K H' p vs:=e.weak.roL h
mutual
theorem IsD.mono0 {v:V}{d:D}(e:Ext0 π n H π' n' H'):IsD K π n H v d->IsD K π' n' H' v d
 | .non=>.non
 | .bl b=>.bl b
 | .int i=>.int i
 | .str x=>.str x
 | .ty x=>.ty x
 | .tup h t=>.tup (e.sqT h) (IsDs.mono0 e t)
 | .rol h t=>.rol (e.roL h) (IsDs.mono0 e t)
 | .loc h=>by
  rw [<- e.pi _ h]
  exact .loc (Uj h e.le)
theorem IsDs.mono0 {vs:List V}{ds:List D}(e:Ext0 π n H π' n' H'):IsDs K π n H vs ds->IsDs K π' n' H' vs ds
 | .nil=>.nil
 | .cons h t=>.cons (IsD.mono0 e h) (IsDs.mono0 e t)
end
theorem IsD.mono {v:V}{d:D}(e:Ext π n H π' n' H')(h:IsD K π n H v d):IsD K π' n' H' v d:=h.mono0 e.weak
theorem IsDs.mono {vs:List V}{ds:List D}(e:Ext π n H π' n' H')(h:IsDs K π n H vs ds):IsDs K π' n' H' vs ds:=h.mono0 e.weak
theorem IsDs.length {vs:List V}{ds:List D}(h:IsDs K π n H vs ds):vs.length=ds.length:=by
 induction ds generalizing vs with
 | nil=>cases h;rfl
 | cons d ds a=>
  cases h with
  | cons h t=>rw [Uk,Uk,a t]
theorem IsDs.get {vs:List V}{ds:List D}(h:IsDs K π n H vs ds){i:Nat}{d:D}(e:ds[i]? = some d):∃ v,vs[i]? = some v/\IsD K π n H v d:=by
 induction ds generalizing vs i with
 | nil=>simp at e
 | cons j ds c=>
  cases h with
  | cons h t=>
   cases i with
   | zero=>
    simp at e
    subst e
    exact ⟨_,rfl,h⟩
   | succ i=>
    obtain ⟨v,a,b⟩:=c t (by simpa using e)
    exact ⟨v,by simpa using a,b⟩
theorem IsDs.append {vs ws:List V}{ds a:List D}(h:IsDs K π n H vs ds)(b:IsDs K π n H ws a):IsDs K π n H (vs++ws) (ds++a):=by
 induction ds generalizing vs with
 | nil=>cases h;exact b
 | cons d ds c=>
  cases h with
  | cons h t=>exact .cons h (c t)
theorem IsDs.drop {vs:List V}{ds:List D}(h:IsDs K π n H vs ds)(k:Nat):IsDs K π n H (vs.drop k) (ds.drop k):=by
 induction ds generalizing vs k with
 | nil=>cases h;simpa using IsDs.nil
 | cons d ds a=>
  cases h with
  | cons h t=>
   cases k with
   | zero=>exact .cons h t
   | succ k=>exact a t k
theorem IsDs.take {vs:List V}{ds:List D}(h:IsDs K π n H vs ds)(k:Nat):IsDs K π n H (vs.take k) (ds.take k):=by
 induction ds generalizing vs k with
 | nil=>cases h;simpa using IsDs.nil
 | cons d ds a=>
  cases h with
  | cons h t=>
   cases k with
   | zero=>exact .nil
   | succ k=>exact .cons h (a t k)
theorem IsDs.atI {vs:List V}{ds:List D}(h:IsDs K π n H vs ds){i:Int}{d:D}(e:L2.atI ds i=some d):∃ v,L2.atI vs i=some v/\IsD K π n H v d:=by
 unfold L2.atI at e ⊢
 rw [h.length]
 cases q:kP ds.length i with
 | none=>rw [q] at e;cases e
 | some j=>
  rw [q] at e
  exact h.get e
end
noncomputable def rR (p:Addr)(L:List Tb.El):HO:=.ext fun h=>∃ o,h.get? p=some o/\Tb.SObj L o
noncomputable def pH (p:List Int×Addr×V)(w:Value):U7:=⟨Tb.hashT p.1,.ref p.2.1,w⟩
noncomputable def aW (a:Addr)(ps:List (List Int×Addr×V)):HO:=.ext fun h=>∃ ws:List Value,Vals (ps.map (·.2.2)) ws/\(a == Ve)=false/\ps.length<=TZ /\
 ∃ o b c,h.get? a=some o/\o.ExactDict/\o.data=.dict b c/\b.toList=XG pH ps ws/\(ps.map (·.1)).Nodup
noncomputable def ExcIs (K:Tv)(π:Nat->Addr)(n:Nat)(H:Hp)(ob:Obj)(x:Str)(ns:List Str)(ds:List D):Prop:=
 Vo K UI x=some (some ob.cls)/\(∃ a,ob.data=.fields a) /\
  (ns=[]/\ds=[]/\ob.dict=none\/∃ b c a,ob.dict=some b/\H b=some (.frz c (.xd a))/\a.map (·.1)=ns/\IsDs K π n H (a.map (·.2)) ds)
theorem ExcIs.mono0 {K:Tv}{π a:Nat->Addr}{n c:Nat}{H H':Hp}{ob:Obj}{x:Str}{ns:List Str}{ds:List D}(e:Ext0 π n H a c H')(h:ExcIs K π n H ob x ns ds):ExcIs K a c H' ob x ns ds:=by
 obtain ⟨o,p,b⟩:=h
 refine ⟨o,p,?_⟩
 rcases b with b|⟨d,q,r,i,j,l,m⟩
 ·exact .inl b
 ·exact .inr ⟨d,q,r,i,e.frz _ _ _ (fun _ z=>nomatch z) j,l,m.mono0 e⟩
theorem ExcIs.mono {K:Tv}{π a:Nat->Addr}{n b:Nat}{H H':Hp}{ob:Obj}{x:Str}{ns:List Str}{ds:List D}(e:Ext π n H a b H')(h:ExcIs K π n H ob x ns ds):ExcIs K a b H' ob x ns ds:=h.mono0 e.weak
noncomputable def InsIs (K:Tv)(π:Nat->Addr)(n:Nat)(H:Hp)(o:HO)(x:Str)(fs:List (Str×D)):Prop:=
 ∃ (C a:Addr)(vs:List (Str×V)),o=.ins C a vs/\Vo K UI x=some (some (.ref C))/\vs.map (·.1)=fs.map (·.1)/\IsDs K π n H (vs.map (·.2)) (fs.map (·.2))
theorem InsIs.mono0 {K:Tv}{π a:Nat->Addr}{n b:Nat}{H H':Hp}{o:HO}{x:Str}{fs:List (Str×D)}(e:Ext0 π n H a b H')(h:InsIs K π n H o x fs):InsIs K a b H' o x fs:=
 let ⟨C,c,m,d,i,j,l⟩:=h;⟨C,c,m,d,i,j,l.mono0 e⟩
structure Rp (K:Tv)(π:Nat->Addr)(H:Hp)(μ:Hm):Prop where
 inj:∀ a b,a<μ.length->b<μ.length->π a=π b->a=b
 has:∀ a,a<μ.length->(H (π a)).isSome=true
 lst:∀ a xs,μ[a]? = some (.lst xs)->∃ vs,H (π a)=some (.lst vs)/\IsDs K π μ.length H vs xs
 dK:∀ a kvs,μ[a]? = some (.dK kvs)->∃ vs,H (π a)=some (.dK vs)/\vs.map (·.1)=kvs.map (·.1)/\IsDs K π μ.length H (vs.map (·.2)) (kvs.map (·.2))
 st:∀ a ks,μ[a]? = some (.st ks)->∃ L:List Tb.El,H (π a)=some (rR (π a) L)/\L.map (·.1)=ks/\IsDs K π μ.length H (L.map fun p=>V.ref p.2) (ks.map fun k=>D.tup (k.map D.int))
 dT:∀ a kvs,μ[a]? = some (.dT kvs)->∃ ps:List (List Int×Addr×V),H (π a)=some (aW (π a) ps)/\ps.map (·.1)=kvs.map (·.1)/\IsDs K π μ.length H (ps.map fun p=>V.ref p.2.1) (kvs.map fun k=>D.tup (k.1.map D.int))/\IsDs K π μ.length H (ps.map (·.2.2)) (kvs.map (·.2))
 dF:∀ a kvs,μ[a]? = some (.dF kvs)->∃ (ob:Obj)(ps:List (List Int×Addr×V)),H (π a)=some (.frz ob (aW (π a) ps))/\ps.map (·.1)=kvs.map (·.1)/\IsDs K π μ.length H (ps.map fun p=>V.ref p.2.1) (kvs.map fun k=>D.tup (k.1.map D.int))/\IsDs K π μ.length H (ps.map (·.2.2)) (kvs.map (·.2))
 exc:∀ a x ns ds,μ[a]? = some (.exc x ns ds)->∃ (ob:Obj)(φ:UU->Prop),H (π a)=some (.frz ob (.ext φ))/\ExcIs K π μ.length H ob x ns ds
 ins:∀ a x fs,μ[a]? = some (.ins x fs)->∃ o,H (π a)=some o/\InsIs K π μ.length H o x fs
structure En (K:Tv)(π:Nat->Addr)(n:Nat)(H:Hp)(σ:St)(ρ:aF):Prop where
 len:σ.length=ρ.length
 get:∀ (i:Nat)(d:D),ρ[i]? = some (some d)->∃ v,σ[i]? = some (some v)/\IsD K π n H v d
section
variable {K:Tv}{π π' π2:Nat->Addr}{n n' n2:Nat}{H H' H2:Hp}{μ μ':Hm}{σ:St}{ρ:aF}
theorem En.mono (E:En K π n H σ ρ)(e:Ext π n H π' n' H'):En K π' n' H' σ ρ:=
 ⟨E.len,fun i d h=>let ⟨v,a,b⟩:=E.get i d h;⟨v,a,b.mono e⟩⟩
theorem En.set (E:En K π n H σ ρ){v:V}{d:D}(h:IsD K π n H v d)(i:Nat):En K π n H (σ.set i (some v)) (ρ.set i (some d)):=by
 refine ⟨by rw [Ut,Ut];exact E.len,fun j c e=>?_⟩
 rw [a1o] at e ⊢
 by_cases a:i=j
 ·subst a
  rw [if_pos rfl] at e ⊢
  rw [E.len]
  by_cases b:i<ρ.length
  ·rw [if_pos b] at e ⊢
   cases e
   exact ⟨v,rfl,h⟩
  ·rw [if_neg b] at e
   cases e
 ·rw [if_neg a] at e ⊢
  exact E.get j c e
theorem Rp.ne {p:Addr}(R:Rp K π H μ)(h:H p=none){a:Nat}(b:a<μ.length):π a≠p:=fun e=>by
 have:=R.has a b
 rw [e,h] at this
 cases this
theorem Rp.fresh {p:Addr}{o:HO}(R:Rp K π H μ)(h:H p=none):Ext π μ.length H π μ.length (aL H p o)/\Rp K π (aL H p o) μ:=by
 have keep:∀ b u,H b=some u->aL H p o b=some u:=fun b u e=>by
  rw [bC (gO e h)]
  exact e
 have e:Ext π μ.length H π μ.length (aL H p o):=⟨TR _,fun _ _=>rfl,fun q l e=>keep q _ e,fun q o u e=>keep q _ e⟩
 refine ⟨e,R.inj,fun a c=>?_,fun a y c=>?_,fun a j c=>?_,fun a v c=>?_
  ,fun a j c=>?_
  ,fun a j c=>?_
  ,fun a x w ds c=>?_
  ,fun a x fs c=>?_
  ⟩
 ·rw [bC (R.ne h c)]
  exact R.has a c
 ·obtain ⟨l,d,i⟩:=R.lst a y c
  exact ⟨l,keep _ _ d,i.mono e⟩
 ·obtain ⟨l,d,i,m⟩:=R.dK a j c
  exact ⟨l,keep _ _ d,i,m.mono e⟩
 ·obtain ⟨l,d,i,m⟩:=R.st a v c
  exact ⟨l,keep _ _ d,i,m.mono e⟩
 ·obtain ⟨l,d,i,m,r⟩:=R.dT a j c
  exact ⟨l,keep _ _ d,i,m.mono e,r.mono e⟩
 ·obtain ⟨s,l,d,i,m,r⟩:=R.dF a j c
  exact ⟨s,l,keep _ _ d,i,m.mono e,r.mono e⟩
 ·obtain ⟨s,z,d,i⟩:=R.exc a x w ds c
  exact ⟨s,z,keep _ _ d,i.mono e⟩
 ·obtain ⟨o,d,i⟩:=R.ins a x fs c
  exact ⟨o,keep _ _ d,i.mono0 e.weak⟩
noncomputable def m8 (K:Tv)(π:Nat->Addr)(n:Nat)(H:Hp)(p:Addr):C->HO->Prop
 | .lst xs,.lst vs=>IsDs K π n H vs xs
 | .dK kvs,.dK vs=>vs.map (·.1)=kvs.map (·.1)/\IsDs K π n H (vs.map (·.2)) (kvs.map (·.2))
 | .st ks,o=>∃ L:List Tb.El,o=rR p L/\L.map (·.1)=ks/\IsDs K π n H (L.map fun p=>V.ref p.2) (ks.map fun k=>D.tup (k.map D.int))
 | .dT kvs,o=>∃ ps:List (List Int×Addr×V),o=aW p ps/\ps.map (·.1)=kvs.map (·.1)/\IsDs K π n H (ps.map fun p=>V.ref p.2.1) (kvs.map fun k=>D.tup (k.1.map D.int))/\IsDs K π n H (ps.map (·.2.2)) (kvs.map (·.2))
 | .dF kvs,o=>∃ (ob:Obj)(ps:List (List Int×Addr×V)),o=.frz ob (aW p ps)/\ps.map (·.1)=kvs.map (·.1)/\IsDs K π n H (ps.map fun p=>V.ref p.2.1) (kvs.map fun k=>D.tup (k.1.map D.int))/\IsDs K π n H (ps.map (·.2.2)) (kvs.map (·.2))
 | .exc x ns ds,o=>∃ (ob:Obj)(a:UU->Prop),o=.frz ob (.ext a)/\ExcIs K π n H ob x ns ds
 | .ins x fs,o=>InsIs K π n H o x fs
 | _,_=>False
noncomputable def fL (π:Nat->Addr)(n:Nat)(p:Addr):Nat->Addr:=fun a=>if a=n then p else π a
theorem Rp.alloc {p:Addr}{c:C}{o:HO}(R:Rp K π H μ)(h:H p=none)(hc:m8 K π μ.length H p c o) :
  Ext π μ.length H (fL π μ.length p) (μ++[c]).length (aL H p o)/\Rp K (fL π μ.length p) (aL H p o) (μ++[c])/\fL π μ.length p μ.length=p:=by
 have I:(μ++[c]).length=μ.length+1:=by simp
 have keep:∀ b u,H b=some u->aL H p o b=some u:=fun b u e=>by
  rw [bC (gO e h)]
  exact e
 have z:fL π μ.length p μ.length=p:=if_pos rfl
 have w:∀ a,a<μ.length->fL π μ.length p a=π a:=fun a d=>if_neg (Ui d)
 have e:Ext π μ.length H (fL π μ.length p) (μ++[c]).length (aL H p o):=⟨by rw [I];exact Zj _,w,fun q r e=>keep q _ e,fun q o u e=>keep q _ e⟩
 have split:∀ a,a<(μ++[c]).length->a<μ.length\/a=μ.length:=fun a d=>by rw [I] at d;omega
 have get:∀ a,a<μ.length->(μ++[c])[a]? = μ[a]?:=fun a d=>Uc d
 have j:(μ++[c])[μ.length]? = some c:=by simp
 refine ⟨e,⟨fun a b d E q=>?_,fun a d=>?_,fun a O d=>?_,fun a y d=>?_,fun a J d=>?_
  ,fun a y d=>?_
  ,fun a y d=>?_
  ,fun a x M ds d=>?_
  ,fun a x fs d=>?_
  ⟩,z⟩
 ·rcases split a d with d|rfl<;>rcases split b E with E|rfl
  ·rw [w a d,w b E] at q
   exact R.inj a b d E q
  ·rw [w a d,z] at q
   exact absurd q (R.ne h d)
  ·rw [z,w b E] at q
   exact absurd q.symm (R.ne h E)
  ·rfl
 ·rcases split a d with d|rfl
  ·rw [w a d,bC (R.ne h d)]
   exact R.has a d
  ·rw [z,cN]
   rfl
 ·have i:a<(μ++[c]).length:=(TB.mp d).1
  rcases split a i with m|rfl
  ·rw [get a m] at d
   obtain ⟨r,s,l⟩:=R.lst a O d
   rw [w a m]
   exact ⟨r,keep _ _ s,l.mono e⟩
  ·rw [j] at d
   cases d
   cases o with
   | lst r=>
    rw [z]
    exact ⟨r,cN,IsDs.mono e hc⟩
   | _=>exact UA hc
 ·have i:a<(μ++[c]).length:=(TB.mp d).1
  rcases split a i with m|rfl
  ·rw [get a m] at d
   obtain ⟨r,s,l,v⟩:=R.dK a y d
   rw [w a m]
   exact ⟨r,keep _ _ s,l,v.mono e⟩
  ·rw [j] at d
   cases d
   cases o with
   | dK r=>
    rw [z]
    exact ⟨r,cN,hc.1,IsDs.mono e hc.2⟩
   | _=>exact UA hc
 ·have i:a<(μ++[c]).length:=(TB.mp d).1
  rcases split a i with m|rfl
  ·rw [get a m] at d
   obtain ⟨r,s,l,v⟩:=R.st a J d
   rw [w a m]
   exact ⟨r,keep _ _ s,l,v.mono e⟩
  ·rw [j] at d
   cases d
   obtain ⟨L,rfl,l,v⟩:=hc
   rw [z]
   exact ⟨L,cN,l,v.mono e⟩
 ·have i:a<(μ++[c]).length:=(TB.mp d).1
  rcases split a i with m|rfl
  ·rw [get a m] at d
   obtain ⟨r,s,l,v,A⟩:=R.dT a y d
   rw [w a m]
   exact ⟨r,keep _ _ s,l,v.mono e,A.mono e⟩
  ·rw [j] at d
   cases d
   obtain ⟨L,rfl,l,v,A⟩:=hc
   rw [z]
   exact ⟨L,cN,l,v.mono e,A.mono e⟩
 ·have i:a<(μ++[c]).length:=(TB.mp d).1
  rcases split a i with m|rfl
  ·rw [get a m] at d
   obtain ⟨B,r,s,l,v,A⟩:=R.dF a y d
   rw [w a m]
   exact ⟨B,r,keep _ _ s,l,v.mono e,A.mono e⟩
  ·rw [j] at d
   cases d
   obtain ⟨B,L,rfl,l,v,A⟩:=hc
   rw [z]
   exact ⟨B,L,cN,l,v.mono e,A.mono e⟩
 ·have i:a<(μ++[c]).length:=(TB.mp d).1
  rcases split a i with m|rfl
  ·rw [get a m] at d
   obtain ⟨B,G,s,l⟩:=R.exc a x M ds d
   rw [w a m]
   exact ⟨B,G,keep _ _ s,l.mono e⟩
  ·rw [j] at d
   cases d
   obtain ⟨B,G,rfl,l⟩:=hc
   rw [z]
   exact ⟨B,G,cN,l.mono e⟩
 ·have i:a<(μ++[c]).length:=(TB.mp d).1
  rcases split a i with m|rfl
  ·rw [get a m] at d
   obtain ⟨N,s,l⟩:=R.ins a x fs d
   rw [w a m]
   exact ⟨N,keep _ _ s,l.mono0 e.weak⟩
  ·rw [j] at d
   cases d
   rw [z]
   exact ⟨o,cN,InsIs.mono0 e.weak hc⟩
theorem Rp.putU {a:Nat}{c:C}{o u:HO}(R:Rp K π H μ)(M:a<μ.length)(E:H (π a)=some u)(G:(∀ vs,u≠.tup vs)/\∀ ob v,(∀ y,v≠HO.ext y)->u≠.frz ob v)(hc:m8 K π μ.length H (π a) c o) :
  Ext0 π μ.length H π (μ.set a c).length (aL H (π a) o)/\Rp K π (aL H (π a) o) (μ.set a c):=by
 have r:(μ.set a c).length=μ.length:=Ut ..
 have e:Ext0 π μ.length H π (μ.set a c).length (aL H (π a) o):=by
  refine ⟨Y6 r.symm,fun _ _=>rfl,fun q vs z=>?_,fun q I T nx z=>?_⟩
  ·rw [bC]
   ·exact z
   ·intro e
    subst e
    rw [E] at z
    exact G.1 _ (T5 z)
  ·rw [bC]
   ·exact z
   ·intro e
    subst e
    rw [E] at z
    exact G.2 _ _ nx (T5 z)
 have j:∀ b,b<μ.length->b≠a->aL H (π a) o (π b)=H (π b):=fun b d B=>bC fun q=>B (R.inj b a d M q)
 refine ⟨e,⟨fun b J d A=>R.inj b J (r ▸ d) (r ▸ A),fun b d=>?_,fun b Q d=>?_,fun b s d=>?_,fun b N d=>?_
  ,fun b s d=>?_
  ,fun b s d=>?_
  ,fun b x O ds d=>?_
  ,fun b x fs d=>?_
  ⟩⟩
 ·by_cases h:b=a
  ·subst h
   rw [cN]
   rfl
  ·rw [j b (r ▸ d) h]
   exact R.has b (r ▸ d)
 ·have i:b<μ.length:=r ▸ (TB.mp d).1
  by_cases h:b=a
  ·subst h
   rw [Ug i] at d
   cases d
   cases o with
   | lst vs=>exact ⟨vs,cN,IsDs.mono0 e hc⟩
   | _=>exact UA hc
  ·rw [TQ (UG h)] at d
   obtain ⟨vs,m,l⟩:=R.lst b Q d
   exact ⟨vs,by rw [j b i h];exact m,l.mono0 e⟩
 ·have i:b<μ.length:=r ▸ (TB.mp d).1
  by_cases h:b=a
  ·subst h
   rw [Ug i] at d
   cases d
   cases o with
   | dK vs=>exact ⟨vs,cN,hc.1,IsDs.mono0 e hc.2⟩
   | _=>exact UA hc
  ·rw [TQ (UG h)] at d
   obtain ⟨vs,m,l,p⟩:=R.dK b s d
   exact ⟨vs,by rw [j b i h];exact m,l,p.mono0 e⟩
 ·have i:b<μ.length:=r ▸ (TB.mp d).1
  by_cases h:b=a
  ·subst h
   rw [Ug i] at d
   cases d
   obtain ⟨L,rfl,l,p⟩:=hc
   exact ⟨L,cN,l,p.mono0 e⟩
  ·rw [TQ (UG h)] at d
   obtain ⟨vs,m,l,p⟩:=R.st b N d
   exact ⟨vs,by rw [j b i h];exact m,l,p.mono0 e⟩
 ·have i:b<μ.length:=r ▸ (TB.mp d).1
  by_cases h:b=a
  ·subst h
   rw [Ug i] at d
   cases d
   obtain ⟨L,rfl,l,p,w⟩:=hc
   exact ⟨L,cN,l,p.mono0 e,w.mono0 e⟩
  ·rw [TQ (UG h)] at d
   obtain ⟨vs,m,l,p,w⟩:=R.dT b s d
   exact ⟨vs,by rw [j b i h];exact m,l,p.mono0 e,w.mono0 e⟩
 ·have i:b<μ.length:=r ▸ (TB.mp d).1
  by_cases h:b=a
  ·subst h
   rw [Ug i] at d
   cases d
   obtain ⟨ob,L,rfl,l,p,w⟩:=hc
   exact ⟨ob,L,cN,l,p.mono0 e,w.mono0 e⟩
  ·rw [TQ (UG h)] at d
   obtain ⟨ob,vs,m,l,p,w⟩:=R.dF b s d
   exact ⟨ob,vs,by rw [j b i h];exact m,l,p.mono0 e,w.mono0 e⟩
 ·have i:b<μ.length:=r ▸ (TB.mp d).1
  by_cases h:b=a
  ·subst h
   rw [Ug i] at d
   cases d
   obtain ⟨ob,y,rfl,l⟩:=hc
   exact ⟨ob,y,cN,l.mono0 e⟩
  ·rw [TQ (UG h)] at d
   obtain ⟨ob,y,m,l⟩:=R.exc b x O ds d
   exact ⟨ob,y,by rw [j b i h];exact m,l.mono0 e⟩
 ·have i:b<μ.length:=r ▸ (TB.mp d).1
  by_cases h:b=a
  ·subst h
   rw [Ug i] at d
   cases d
   exact ⟨o,cN,InsIs.mono0 e hc⟩
  ·rw [TQ (UG h)] at d
   obtain ⟨I,m,l⟩:=R.ins b x fs d
   exact ⟨I,by rw [j b i h];exact m,l.mono0 e⟩
theorem Rp.put0 {a:Nat}{c:C}{o u:HO}(R:Rp K π H μ)(e:a<μ.length)(h:H (π a)=some u)(d:(∃ vs,u=.lst vs)\/(∃ vs,u=.dK vs)\/(∃ b,u=.ext b)\/∃ ob b,u=.frz ob (.ext b))(hc:m8 K π μ.length H (π a) c o) :
  Ext0 π μ.length H π (μ.set a c).length (aL H (π a) o)/\Rp K π (aL H (π a) o) (μ.set a c):=
 R.putU e h ⟨fun vs z=>(by rcases d with ⟨w,rfl⟩|⟨w,rfl⟩|⟨w,rfl⟩|⟨ob,w,rfl⟩<;>cases z),fun ob v nx z=>by
  rcases d with ⟨w,rfl⟩|⟨w,rfl⟩|⟨w,rfl⟩|⟨ob,w,rfl⟩<;>cases z
  exact nx _ rfl⟩ hc
theorem Rp.putE {a:Nat}{c:C}{o u:HO}(R:Rp K π H μ)(h:a<μ.length)(d:H (π a)=some u)(b:(∀ vs,u≠.tup vs)/\∀ ob v,u≠.frz ob v)(hc:m8 K π μ.length H (π a) c o) :
  Ext π μ.length H π (μ.set a c).length (aL H (π a) o)/\Rp K π (aL H (π a) o) (μ.set a c):=by
 have e:Ext π μ.length H π (μ.set a c).length (aL H (π a) o):=by
  refine ⟨Y6 (Ut ..).symm,fun _ _=>rfl,fun q vs z=>?_,fun q i j z=>?_⟩
  ·rw [bC]
   ·exact z
   ·intro e
    subst e
    rw [d] at z
    exact b.1 _ (T5 z)
  ·rw [bC]
   ·exact z
   ·intro e
    subst e
    rw [d] at z
    exact b.2 _ _ (T5 z)
 exact ⟨e,(R.putU h d ⟨b.1,fun ob v _=>b.2 ob v⟩ hc).2⟩
theorem Rp.put {a:Nat}{c:C}{o u:HO}(R:Rp K π H μ)(d:a<μ.length)(e:H (π a)=some u)(b:(∃ vs,u=.lst vs)\/(∃ vs,u=.dK vs)\/∃ h,u=.ext h)(hc:m8 K π μ.length H (π a) c o) :
  Ext π μ.length H π (μ.set a c).length (aL H (π a) o)/\Rp K π (aL H (π a) o) (μ.set a c):=
 R.putE d e ⟨fun vs z=>(by rcases b with ⟨w,rfl⟩|⟨w,rfl⟩|⟨w,rfl⟩<;>cases z),fun i v z=>by rcases b with ⟨w,rfl⟩|⟨w,rfl⟩|⟨w,rfl⟩<;>cases z⟩ hc
end
noncomputable def KC (K:Tv)(Q:VK)(π:Nat->Addr)(n:Nat)(H:Hp)(d:D)(a:Hm):Prop:=
 ∀ b v c,Ext π n H b a.length c->Rp K b c a->IsD K b a.length c v d->Q v c
theorem KC.after {K:Tv}{Q:VK}{π b:Nat->Addr}{n j:Nat}{H h:Hp}{d:D}{a:Hm}(k:KC K Q π n H d a)(e:Ext π n H b j h):KC K Q b j h d a:=
 fun c v l m R i=>k c v l (e.trans m) R i
noncomputable def tM (K:Tv)(m:ME):TE:=fun σ H Q=>∃ π c b d a,Rp K π H b/\En K π b.length H σ c/\m c b=some (d,a)/\KC K Q π b.length H d a
noncomputable def cW (K:Tv)(m:MT):TT:=fun σ H Q=>∃ π e d b a,Rp K π H d/\En K π d.length H σ e/\m e d=some (b,a)/\∀ c H',Ext π d.length H c a.length H'->Rp K c H' a->Q b H'
noncomputable def eI (K:Tv)(m:MA):TA:=fun σ H Q=>∃ π d c ds a,Rp K π H c/\En K π c.length H σ d/\m d c=some (ds,a)/\∀ b vs H',Ext π c.length H b a.length H'->Rp K b H' a->IsDs K b a.length H' vs ds->Q vs H'
noncomputable def lW (K:Tv)(E:Ends)(π:Nat->Addr)(n:Nat)(H:Hp)(i:Fl)(h:aF)(b:Hm):Prop:=
 match i with
 | .nx=>∀ a c e,Ext π n H a b.length e->Rp K a e b->En K a b.length e c h->E.nx c e
 | .bk=>∀ a c e,Ext π n H a b.length e->Rp K a e b->En K a b.length e c h->E.bk c e
 | .ct=>∀ a c e,Ext π n H a b.length e->Rp K a e b->En K a b.length e c h->E.ct c e
 | .rt d=>KC K E.rt π n H d b
noncomputable def cY (K:Tv)(m:MS):TS:=fun E σ H=>∃ π e c d b a,Rp K π H c/\En K π c.length H σ e/\m e c=some (d,b,a)/\lW K E π c.length H d b a
noncomputable def dI (K:Tv)(k:Nat)(f:MF):Sp:=fun vs H Q _=>vs.length=k/\∃ π ds b d a,Rp K π H b/\IsDs K π b.length H vs ds/\f ds b=some (d,a)/\KC K Q π b.length H d a
section
variable {X:Cx}{e a b c:Expr}{t:TE}{m ma mb mc:ME}{pos:Vt}
theorem cP (h:PE X e t)(hw:∀ σ H Q,tM X.K m σ H Q->t σ H Q):PE X e (tM X.K m):=fun a3F s σ H Q I q=>h a3F s σ H Q I (hw σ H Q q)
theorem pI {t:TT}{m:MT}(h:PT X e t)(hw:∀ σ H Q,cW X.K m σ H Q->t σ H Q):PT X e (cW X.K m):=fun a3F s σ H Q I q=>h a3F s σ H Q I (hw σ H Q q)
theorem Bk {t:TT}{m:MT}(h:PW X e t)(hw:∀ σ H Q,cW X.K m σ H Q->t σ H Q):PW X e (cW X.K m):=fun d a3F s σ H Q I q=>h d a3F s σ H Q I (hw σ H Q q)
theorem Bl {d:List Expr}{t:TA}{m:MA}(h:PA X d t)(hw:∀ σ H Q,eI X.K m σ H Q->t σ H Q):PA X d (eI X.K m):=fun p a3F s σ H Q I q=>h p a3F s σ H Q I (hw σ H Q q)
theorem iD {st:Stmt}{t:TS}{m:MS}(h:PS X st t)(hw:∀ E σ H,cY X.K m E σ H->t E σ H):PS X st (cY X.K m):=fun a3F s σ H E I q=>h a3F s σ H E I (hw E σ H q)
theorem Bm {st:List Stmt}{t:TS}{m:MS}(h:PSs X st t)(hw:∀ E σ H,cY X.K m E σ H->t E σ H):PSs X st (cY X.K m):=fun a3F s σ H E I q=>h a3F s σ H E I (hw E σ H q)
noncomputable def aA (i:Nat):ME:=fun j h=>match j[i]? with|some (some d)=>some (d,h)|_=>none
noncomputable def mC (d:D):ME:=fun _ h=>some (d,h)
theorem IV {i:Nat}{n:aF}{l j:Hm}{d:D}(h:aA i n l=some (d,j)):n[i]? = some (some d)/\j=l:=by
 unfold aA at h
 split at h
 ·rename_i o e
  cases h
  exact ⟨e,rfl⟩
 ·cases h
theorem IW {x:Str}(i:Nat)(h:PE X (.Name x pos) (Am i)):PE X (.Name x pos) (tM X.K (aA i)):=cP h (by
 rintro u H Q ⟨q,s,r,d,p,R,E,o,k⟩
 obtain ⟨j,rfl⟩:=IV o
 obtain ⟨v,l,n⟩:=E.get i d j
 exact ⟨v,l,k q v H .refl R n⟩)
theorem m9 {v:V}{d:D}(h:PE X e (tC v))(hd:∀ π n H,IsD X.K π n H v d):PE X e (tM X.K (mC d)):=cP h (by
 rintro q H Q ⟨π,p,o,l,j,R,E,i,k⟩
 cases i
 exact k π v H .refl R (hd _ _ _))
theorem IX {i:Int}{j:Nat}:PE X (.Constant (.int i) j pos) (tM X.K (mC (.int i))):=m9 F6 fun _ _ _=>.int i
theorem IY {i:Bool}{j:Nat}:PE X (.Constant (.bool i) j pos) (tM X.K (mC (.bl i))):=m9 F7 fun _ _ _=>.bl i
theorem IZ {i:Str}{j:Nat}:PE X (.Constant (.str i) j pos) (tM X.K (mC (.str i))):=m9 F9 fun _ _ _=>.str i
theorem Ja {j:Nat}:PE X (.Constant .none j pos) (tM X.K (mC .non)):=m9 F8 fun _ _ _=>.non
noncomputable def aC (f:D->D->Hm->Option (D×Hm))(a b:ME):ME:=fun d h=>(a d h).bind fun p=>(b d p.2).bind fun q=>f p.1 q.1 q.2
noncomputable def cQ (K:Tv)(f:D->D->Hm->Option (D×Hm))(r:R2):Prop:=
 ∀ j H h x y d i l n Q,Rp K j H h->IsD K j h.length H l x->IsD K j h.length H n y->f x y h=some (d,i)->KC K Q j h.length H d i->r l n H Q
theorem pJ {f:D->D->Hm->Option (D×Hm)}{r:R2}{K:Tv}(A:cQ K f r):∀ σ H Q,tM K (aC f ma mb) σ H Q->o9 r (tM K ma) (tM K mb) σ H Q:=by
 rintro σ H Q ⟨M,s,L,d,l,R,E,h,k⟩
 obtain ⟨⟨x,i⟩,w,h⟩:=Tu.mp h
 obtain ⟨⟨y,j⟩,z,h⟩:=Tu.mp h
 exact ⟨M,s,L,x,i,R,E,w,fun n I N p v B=>⟨n,s,i,y,j,v,E.mono p,z,fun o J u q R2 G=>A o u j x y d l I J Q R2 (B.mono q) G h (k.after (p.trans q))⟩⟩
theorem Jb {op:a0n}{r:R2}{f:D->D->Hm->Option (D×Hm)}(j:OpR X (WM op) r)(i:cQ X.K f r)(d:PE X a (tM X.K ma))(h:PE X b (tM X.K mb)):PE X (.BinOp a op b pos) (tM X.K (aC f ma mb)):=
 cP (Hc j d h) (pJ i)
theorem eC {op:W2}{r:R2}{f:D->D->Hm->Option (D×Hm)}(l:OpR X (UY op) r)(i:cQ X.K f r)(d:PE X a (tM X.K ma))(h:PE X b (tM X.K mb))(j:WC op b=false):PE X (.Compare a [op] [b] pos) (tM X.K (aC f ma mb)):=
 cP (Hi l d h j) (pJ i)
noncomputable def aR (m:ME):MT:=fun h d=>(m h d).bind fun p=>match p.1 with|.bl b=>some (b,p.2)|_=>none
theorem vL {K:Tv}:∀ σ H Q,cW K (aR m) σ H Q->tM K m σ H fun x H'=>∃ k,x=.bl k/\Q k H':=by
 rintro σ H Q ⟨r,s,o,b,p,R,E,d,k⟩
 obtain ⟨⟨x,q⟩,l,d⟩:=Tu.mp d
 cases x with
 | bl c=>
  cases d
  refine ⟨r,s,o,_,_,R,E,l,fun h v H' j i n=>?_⟩
  cases n
  exact ⟨_,rfl,k h H' j i⟩
 | _=>cases d
theorem eD {op:W2}{r:R2}{f:D->D->Hm->Option (D×Hm)}(o:OpR X (UY op) r)(l:cQ X.K f r)(i:PE X a (tM X.K ma))(j:PE X b (tM X.K mb))(n:WC op b=false):PT X (.Compare a [op] [b] pos) (cW X.K (aR (aC f ma mb))):=
 pI (Hj o i j n) fun d H Q h=>pJ l d H _ (vL d H Q h)
theorem Jc (h:PE X e (tM X.K m))(i:∀ d,ZH e X.env d=(do let v <- d;Zo e.pos;holding [v] (truthy v)):=by intro _;rfl):PT X e (cW X.K (aR m)):=
 pI (Ge h i) fun j H Q h=>vL j H Q h
end
end L3
namespace L3
open PySem L2
section
variable {X:Cx}{e a b c:Expr}{m ma mb mc:ME}{pos:Vt}{mt mu:MT}{bK:List Expr}
noncomputable def gS (a b:MT):MT:=fun d h=>(a d h).bind fun p=>match p.1 with|true=>b d p.2|false=>some (false,p.2)
noncomputable def eV (a b:MT):MT:=fun d h=>(a d h).bind fun p=>match p.1 with|true=>some (true,p.2)|false=>b d p.2
noncomputable def iZ (a:MT):MT:=fun h d=>(a h d).map fun p=>(!p.1,p.2)
theorem Jd (d:PT X a (cW X.K mt)):PW X (.BoolOp .And [a] pos) (cW X.K mt):=Gj d
theorem Je (d:PT X a (cW X.K mt)):PW X (.BoolOp .Or [a] pos) (cW X.K mt):=Gk d
theorem Jf (w:PT X a (cW X.K mt))(y:PW X (.BoolOp .And (b::bK) pos) (cW X.K mu)):PW X (.BoolOp .And (a::b::bK) pos) (cW X.K (gS mt mu)):=Bk (Gm w y) (by
 rintro B H Q ⟨A,q,z,d,n,R,E,j,k⟩
 obtain ⟨⟨x,h⟩,v,j⟩:=Tu.mp j
 refine ⟨A,q,z,x,h,R,E,v,fun i r l p=>?_⟩
 cases x with
 | true=>
  refine kR ?_
  exact ⟨i,q,h,d,n,p,E.mono l,j,fun o s u R2=>k o s (l.trans u) R2⟩
 | false=>
  refine kQ ?_
  cases j
  exact k i r l p)
theorem Jg (w:PT X a (cW X.K mt))(y:PW X (.BoolOp .Or (b::bK) pos) (cW X.K mu)):PW X (.BoolOp .Or (a::b::bK) pos) (cW X.K (eV mt mu)):=Bk (Gn w y) (by
 rintro B H Q ⟨A,q,z,d,n,R,E,j,k⟩
 obtain ⟨⟨x,h⟩,v,j⟩:=Tu.mp j
 refine ⟨A,q,z,x,h,R,E,v,fun i r l p=>?_⟩
 cases x with
 | true=>
  refine kR ?_
  cases j
  exact k i r l p
 | false=>
  refine kQ ?_
  exact ⟨i,q,h,d,n,p,E.mono l,j,fun o s u R2=>k o s (l.trans u) R2⟩)
theorem Jh (q:PT X a (cW X.K mt)):PT X (.UnaryOp .Not a pos) (cW X.K (iZ mt)):=pI (Gp q) (by
 rintro w H Q ⟨u,v,r,d,s,R,E,h,k⟩
 obtain ⟨⟨x,i⟩,p,h⟩:=Tz.mp h
 cases h
 exact ⟨u,v,r,x,i,R,E,p,fun j l o n=>k j l o n⟩)
noncomputable def kS (a b:ME):ME:=fun d h=>(a d h).bind fun p=>match p.1 with|.bl true=>b d p.2|.bl false=>some (.bl false,p.2)|_=>none
noncomputable def vO (a b:ME):ME:=fun d h=>(a d h).bind fun p=>match p.1 with|.bl true=>some (.bl true,p.2)|.bl false=>b d p.2|_=>none
noncomputable def lX (a:ME):ME:=fun h d=>(a h d).bind fun p=>match p.1 with|.bl b=>some (.bl (!b),p.2)|_=>none
theorem Ji {op:BoolOp}(h:PE X a (tM X.K m)):PE X (.BoolOp op [a] pos) (tM X.K m):=Gv h
theorem Jj (s:PE X a (tM X.K ma))(u:PE X (.BoolOp .And (b::bK) pos) (tM X.K mb)):PE X (.BoolOp .And (a::b::bK) pos) (tM X.K (kS ma mb)):=cP (Gw s u) (by
 rintro A H Q ⟨y,p,w,d,n,R,E,h,k⟩
 obtain ⟨⟨x,i⟩,r,h⟩:=Tu.mp h
 cases x with
 | bl c=>
  refine ⟨y,p,w,.bl c,i,R,E,r,fun j z q l o v=>?_⟩
  cases v
  refine ⟨c,rfl,?_⟩
  cases c with
  | true=>
   refine kR ?_
   exact ⟨j,p,i,d,n,o,E.mono l,h,k.after l⟩
  | false=>
   refine kQ ?_
   cases h
   exact k j _ q l o (.bl false)
 | _=>cases h)
theorem Jk (s:PE X a (tM X.K ma))(u:PE X (.BoolOp .Or (b::bK) pos) (tM X.K mb)):PE X (.BoolOp .Or (a::b::bK) pos) (tM X.K (vO ma mb)):=cP (Gx s u) (by
 rintro A H Q ⟨y,p,w,d,n,R,E,h,k⟩
 obtain ⟨⟨x,i⟩,r,h⟩:=Tu.mp h
 cases x with
 | bl c=>
  refine ⟨y,p,w,.bl c,i,R,E,r,fun j z q l o v=>?_⟩
  cases v
  refine ⟨c,rfl,?_⟩
  cases c with
  | true=>
   refine kR ?_
   cases h
   exact k j _ q l o (.bl true)
  | false=>
   refine kQ ?_
   exact ⟨j,p,i,d,n,o,E.mono l,h,k.after l⟩
 | _=>cases h)
theorem Jl (p:PE X a (tM X.K ma)):PE X (.UnaryOp .Not a pos) (tM X.K (lX ma)):=cP (Gy p) (by
 rintro z H Q ⟨v,w,r,d,s,R,E,h,k⟩
 obtain ⟨⟨x,u⟩,o,h⟩:=Tu.mp h
 cases x with
 | bl c=>
  cases h
  refine ⟨v,w,r,_,_,R,E,o,fun i y j n l q=>?_⟩
  cases q
  exact ⟨_,rfl,k i _ j n l (.bl _)⟩
 | _=>cases h)
noncomputable def f6 (t:MT)(a b:ME):ME:=fun d h=>(t d h).bind fun p=>match p.1 with|true=>a d p.2|false=>b d p.2
theorem Jm (hc:PT X c (cW X.K mt))(r:PE X a (tM X.K ma))(s:PE X b (tM X.K mb)):PE X (.IfExp c a b pos) (tM X.K (f6 mt ma mb)):=cP (GA hc r s) (by
 rintro y H Q ⟨v,o,u,d,i,R,E,n,k⟩
 obtain ⟨⟨x,h⟩,q,n⟩:=Tu.mp n
 refine ⟨v,o,u,x,h,R,E,q,fun j w l p=>?_⟩
 cases x with
 | true=>
  refine kR ?_
  exact ⟨j,o,h,d,i,p,E.mono l,n,k.after l⟩
 | false=>
  refine kQ ?_
  exact ⟨j,o,h,d,i,p,E.mono l,n,k.after l⟩)
noncomputable def aD:MA:=fun _ d=>some ([],d)
noncomputable def aB (a:ME)(r:MA):MA:=fun d h=>(a d h).bind fun p=>(r d p.2).bind fun q=>some (p.1::q.1,q.2)
variable {es:List Expr}{ms:MA}
theorem Jn:PA X [] (eI X.K aD):=Bl AG (by
 rintro o H Q ⟨j,n,l,d,i,R,E,h,k⟩
 cases h
 exact k j [] H .refl R .nil)
theorem Jo (w:PE X e (tM X.K m))(y:PA X es (eI X.K ms))(z:Ue (e::es) X.env=(false,eval e X.env)::Ue es X.env:=by rfl):PA X (e::es) (eI X.K (aB m ms)):=Bl (AH w y z) (by
 rintro O H Q ⟨K,q,I,d,J,R,E,h,k⟩
 obtain ⟨⟨x,i⟩,u,h⟩:=Tu.mp h
 obtain ⟨⟨G,j⟩,v,h⟩:=Tu.mp h
 cases h
 exact ⟨K,q,I,x,i,R,E,u,fun l M L o s A=>⟨l,q,i,G,j,s,E.mono o,v,fun n N r p R2 B=>k n _ r (o.trans p) R2 (.cons (A.mono p) B)⟩⟩)
noncomputable def bT (ms:MA):ME:=fun h d=>(ms h d).bind fun p=>if p.1.length<=TZ then some (.tup p.1,p.2) else none
noncomputable def cI (ms:MA):ME:=fun h d=>(ms h d).bind fun p=>if p.1.length<=TZ then some (.loc p.2.length,p.2++[.lst p.1]) else none
theorem Jp {x1:Nat}(h:PA X es (eI X.K ms)):PE X (.Tuple es x1 pos) (tM X.K (bT ms)):=cP (AI h) (by
 rintro I H Q ⟨z,A,w,d,x,R,E,i,k⟩
 obtain ⟨⟨G,y⟩,r,i⟩:=Tu.mp i
 split at i
 ·rename_i s
  cases i
  refine ⟨z,A,w,_,_,R,E,r,fun j v B q o n=>⟨by rw [n.length];exact s,fun p u=>?_⟩⟩
  obtain ⟨l,R2⟩:=o.fresh (o:=.tup v) u
  exact k j _ _ (q.trans l) R2 (.tup (.of cN) (n.mono l))
 ·cases i)
theorem Jq (h:PA X es (eI X.K ms)):PE X (.List es pos) (tM X.K (cI ms)):=cP (HM h) (by
 rintro K H Q ⟨I,J,B,d,G,R,E,j,k⟩
 obtain ⟨⟨n,i⟩,x,j⟩:=Tu.mp j
 split at j
 ·rename_i y
  cases j
  refine ⟨I,J,B,n,i,R,E,x,fun l o r v u s=>⟨by rw [s.length];exact y,fun p z=>?_⟩⟩
  obtain ⟨w,R2,q⟩:=u.alloc (c:=.lst n) (o:=.lst o) z s
  have A:IsD X.K (fL l i.length p) (i++[C.lst n]).length (aL r p (.lst o)) (.ref p) (.loc i.length):=by
   have:=IsD.loc (K:=X.K) (π:=fL l i.length p) (n:=(i++[C.lst n]).length) (H:=aL r p (.lst o)) (a:=i.length) (by simp)
   rw [q] at this
   exact this
  exact k _ _ _ (v.trans w) R2 A
 ·cases j)
noncomputable def aI (f:MF)(ms:MA):ME:=fun h d=>(ms h d).bind fun p=>f p.1 p.2
theorem Jr {K:Tv}{f:MF}{n:Nat}{E:XK}(x:∀ l j ds h,ms l j=some (ds,h)->ds.length=n):∀ σ H Q,tM K (aI f ms) σ H Q->vA (dI K n f) [] E (eI K ms) σ H Q:=by
 rintro σ H Q ⟨z,l,j,d,h,R,E,o,k⟩
 obtain ⟨⟨p,i⟩,r,o⟩:=Tu.mp o
 refine ⟨z,l,j,p,i,R,E,r,fun q y u w v s=>?_⟩
 show dI K n f (y++[]) u Q _
 rw [U9]
 exact ⟨by rw [s.length];exact x l j p i r,q,p,i,d,h,v,s,o,k.after w⟩
theorem Bn:∀ j i ds d,aD j i=some (ds,d)->ds.length=0:=by
 intro j i ds d h
 cases h
 rfl
theorem Js {n:Nat}(h:∀ j l ds d,ms j l=some (ds,d)->ds.length=n):∀ j l ds d,aB m ms j l=some (ds,d)->ds.length=n+1:=by
 intro j l ds d i
 obtain ⟨⟨x,o⟩,s,i⟩:=Tu.mp i
 obtain ⟨⟨q,r⟩,p,i⟩:=Tu.mp i
 cases i
 rw [Uk,h j o q _ p]
theorem Jt {k:Nat}{f:Addr}{j:Vc}{ps:List Str}{l:MF}{x:Str}{p:Vt}{n:Nat}(F:FnOk X.prog X.w X.K X.mg X.base dC k f j ps (dI X.K n l))(y:Room k X.A)(s:Gl X x)(v:X.mg x=some (.ref f))
  (u:U8 X.K (.ref f)=true)(q:Binds X.K j ps [])(o:PA X (e::es) (eI X.K ms))(w:∀ A z ds i,ms A z=some (ds,i)->ds.length=n)(d:(x == ("__debug__":Str))=false:=by decide)
  (r:Ue (e::es) X.env=(false,eval e X.env)::Ue es X.env:=by rfl)(h:(VF pos (Ue es X.env)).any (·.1)=false:=by rfl) :
  PE X (.Call (.Name x p) (e::es) [] pos) (tM X.K (aI l ms)):=
 cP (HN F y s v u q .nil (E:=E0) pD o d r h) (Jr w)
noncomputable def eJ (K:Tv)(f:MF)(r:List V->Hp->VK->Prop):Prop:=
 ∀ j H i n d h l Q,Rp K j H i->IsDs K j i.length H l n->f n i=some (d,h)->KC K Q j i.length H d h->r l H Q
theorem vP {K:Tv}{f:MF}{r:List V->Hp->VK->Prop}(u:eJ K f r):∀ σ H Q,tM K (aI f ms) σ H Q->rQ r (eI K ms) σ H Q:=by
 rintro σ H Q ⟨y,z,x,d,j,R,E,i,k⟩
 obtain ⟨⟨n,h⟩,s,i⟩:=Tu.mp i
 exact ⟨y,z,x,n,h,R,E,s,fun l w o q p v=>u l o h n d j w Q p v i (k.after q)⟩
theorem Ju {f:MF}{r:List V->Hp->VK->Prop}{id:String}{x:Str}{p:Vt}(hc:CallR X (.builtin id) r)(l:eJ X.K f r)(n:Gl X x)(o:X.mg x=none)(s:VA x=some (.builtin id))(i:PA X (e::es) (eI X.K ms))
  (q:x ≠ "__name__":=by decide) (d:(x == ("__debug__":Str))=false:=by decide)
  (j:Ue (e::es) X.env=(false,eval e X.env)::Ue es X.env:=by rfl)(h:(VF pos (Ue es X.env)).any (·.1)=false:=by rfl):PE X (.Call (.Name x p) (e::es) [] pos) (tM X.K (aI f ms)):=
 cP (HV hc n o s i q d j h) (vP l)
theorem Jv {f:MF}{r:List V->Hp->VK->Prop}{T:String}{x:Str}{p:Vt}(hc:CallR X (.type T) r)(l:eJ X.K f r)(n:Gl X x)(o:X.mg x=none)(s:VA x=some (.type T))(i:PA X (e::es) (eI X.K ms))
  (q:x ≠ "__name__":=by decide) (d:(x == ("__debug__":Str))=false:=by decide)
  (j:Ue (e::es) X.env=(false,eval e X.env)::Ue es X.env:=by rfl)(h:(VF pos (Ue es X.env)).any (·.1)=false:=by rfl):PE X (.Call (.Name x p) (e::es) [] pos) (tM X.K (aI f ms)):=
 cP (HW hc n o s i q d j h) (vP l)
noncomputable def bO (d:Hm):D->Option (List D)
 | .tup xs=>some xs
 | .rol xs=>some xs
 | .loc a=>match d[a]? with|some (.lst xs)=>some xs|_=>none
 | _=>none
noncomputable def f7:D->D->Hm->Option (D×Hm)
 | .str z,.int i,μ=>if z.length<=TZ then (atI z.cps.toList i).map fun c=>(.str ⟨#[c]⟩,μ) else none
 | x,.int i,μ=>(bO μ x).bind fun h=>(atI h i).map fun d=>(d,μ)
 | _,_,_=>none
theorem Jw {K:Tv}:cQ K f7 (A2 K):=by
 intro q H O x y d I M N Q R s E j k
 cases E with
 | int i=>
  cases s with
  | str z=>
   simp only [f7] at j
   split at j
   ·rename_i A
    obtain ⟨c,l,n⟩:=Tz.mp j
    cases n
    exact .inr (.inr ⟨z,i,c,rfl,rfl,A,l,k q _ H .refl R (.str _)⟩)
   ·cases j
  | tup h t=>
   simp only [f7,bO,T9] at j
   obtain ⟨r,l,n⟩:=Tz.mp j
   cases n
   obtain ⟨v,o,p⟩:=t.atI l
   exact .inr (.inl ⟨_,_,i,v,rfl,rfl,h,o,k q _ H .refl R p⟩)
  | rol h t=>
   simp only [f7,bO,T9] at j
   obtain ⟨r,l,n⟩:=Tz.mp j
   cases n
   obtain ⟨v,o,p⟩:=t.atI l
   exact .inl ⟨_,_,i,v,rfl,rfl,h.sq,o,k q _ H .refl R p⟩
  | @loc a J=>
   simp only [f7,bO] at j
   split at j
   ·rename_i G B
    simp only [T9] at j
    obtain ⟨r,l,n⟩:=Tz.mp j
    cases n
    obtain ⟨L,u,w⟩:=R.lst a G B
    obtain ⟨v,o,p⟩:=w.atI l
    exact .inl ⟨_,_,i,v,rfl,rfl,.of u,o,k q _ H .refl R p⟩
   ·cases j
  | _=>simp [f7,bO] at j
 | _=>cases s<;>simp [f7] at j
theorem Jx (d:PE X a (tM X.K ma))(h:PE X b (tM X.K mb))(i:vG b):PE X (.Subscript a b pos) (tM X.K (aC f7 ma mb)):=cP (Ij Il d h i) (pJ Jw)
noncomputable def pK (xs:List D)(lo d:Option Int):List D:=(xs.drop (HT.sIx xs.length 0 lo)).take (HT.sIx xs.length xs.length d - HT.sIx xs.length 0 lo)
noncomputable abbrev MO:=aF->Hm->Option (Option Int×Hm)
noncomputable def jR:MO:=fun _ d=>some (none,d)
noncomputable def nB (m:ME):MO:=fun h d=>(m h d).bind fun p=>match p.1 with|.int i=>some (some i,p.2)|_=>none
noncomputable def pL (K:Tv)(m:MO):TO:=fun σ H Q=>∃ π j i o d,Rp K π H i/\En K π i.length H σ j/\m j i=some (o,d)/\∀ h H',Ext π i.length H h d.length H'->Rp K h H' d->Q o H'
theorem Jy:PO X none (pL X.K jR):=fun a3F s σ H Q I q=>Ib a3F s σ H Q I (by
 obtain ⟨i,l,j,o,h,R,E,d,k⟩:=q
 cases d
 exact k i H .refl R)
theorem Jz (h:PE X e (tM X.K m)):PO X (some e) (pL X.K (nB m)):=fun a3F s σ H Q I q=>Ic h a3F s σ H Q I (by
 obtain ⟨z,A,v,o,w,R,E,d,k⟩:=q
 obtain ⟨⟨x,y⟩,r,d⟩:=Tu.mp d
 cases x with
 | int i=>
  cases d
  refine ⟨z,A,v,_,_,R,E,r,fun j B l p n u=>?_⟩
  cases u
  exact ⟨_,rfl,k j l p n⟩
 | _=>cases d)
noncomputable abbrev Bo (K:Tv):V->Option Int->Option Int->Hp->VK->Prop:=vH K
theorem JA {X:Cx}:SlR X (Bo X.K):=Ip
theorem Bp {K:Tv}{x:V}{lo d:Option Int}{H:Hp}{Q:VK}(h:vH K x lo d H Q):Bo K x lo d H Q:=h
noncomputable def vQ (a:ME)(lo h:MO):ME:=fun d j=>(a d j).bind fun p=>(lo d p.2).bind fun q=>(h d q.2).bind fun r=>
 match p.1 with
 | .tup _=>none
 | x=>(bO r.2 x).bind fun i=>some (.loc r.2.length,r.2++[.lst (pK i q.1 r.1)])
theorem Bq {K:Tv}{π:Nat->Addr}{n:Nat}{H:Hp}{vs:List V}{ds:List D}(h:IsDs K π n H vs ds)(lo d:Option Int):IsDs K π n H (kN vs lo d) (pK ds lo d):=by
 unfold kN pK
 rw [h.length]
 exact (h.drop _).take _
theorem jS {K:Tv}{π:Nat->Addr}{d:Hm}{p:Addr}{c:C}{H:Hp}:IsD K (fL π d.length p) (d++[c]).length H (.ref p) (.loc d.length):=by
 have:=IsD.loc (K:=K) (π:=fL π d.length p) (n:=(d++[c]).length) (H:=H) (a:=d.length) (by simp)
 rw [show fL π d.length p d.length=p from if_pos rfl] at this
 exact this
theorem JB {lo K:Option Expr}{M L:MO}{p2:Vt}(ha:PE X a (tM X.K ma))(hl:PO X lo (pL X.K M))(hu:PO X K (pL X.K L)):PE X (.Subscript a (.Slice lo K none p2) pos) (tM X.K (vQ ma M L)):=cP (Ig JA ha hl hu) (by
 rintro σ H Q ⟨π,J,μ,d,μ',R,E,j,k⟩
 obtain ⟨⟨x,n⟩,T,j⟩:=Tu.mp j
 obtain ⟨⟨l,o⟩,U,j⟩:=Tu.mp j
 obtain ⟨⟨u,B⟩,Y,j⟩:=Tu.mp j
 refine ⟨π,J,μ,x,n,R,E,T,fun G v1 H1 r O i1=>⟨G,J,n,l,o,O,E.mono r,U,fun I H2 s R2=>⟨I,J,o,u,B,R2,(E.mono r).mono s,Y,fun π3 H3 y v=>?_⟩⟩⟩
 have i3:=(i1.mono s).mono y
 cases i3 with
 | rol h t=>
  simp only [bO,T9] at j
  cases j
  refine Bp ⟨_,_,rfl,h.sq,fun p A=>?_⟩
  obtain ⟨z,w,q⟩:=v.alloc (c:=.lst (pK _ l u)) (o:=.lst (kN _ l u)) A (Bq t l u)
  exact k _ _ _ (((r.trans s).trans y).trans z) w jS
 | @loc i hi'=>
  simp only [bO] at j
  split at j
  ·rename_i N hx
   simp only [T9] at j
   cases j
   obtain ⟨vs,Z,h6⟩:=v.lst i N hx
   refine Bp ⟨_,_,rfl,.of Z,fun p A=>?_⟩
   obtain ⟨z,w,q⟩:=v.alloc (c:=.lst (pK N l u)) (o:=.lst (kN vs l u)) A (Bq h6 l u)
   exact k _ _ _ (((r.trans s).trans y).trans z) w jS
  ·cases j
 | tup h t=>simp at j
 | _=>simp [bO] at j)
end
section
variable {X:Cx}{e a b c:Expr}{m:ME}{pos:Vt}{mt:MT}{st:Stmt}{bK body orelse:List Stmt}{ms mr mu:MS}
noncomputable def bJ:MS:=fun h d=>some (.nx,h,d)
noncomputable def aJ (a b:MS):MS:=fun h d=>(a h d).bind fun p=>match p.1 with|.nx=>b p.2.1 p.2.2|_=>some p
noncomputable def a8 (m:ME):MS:=fun d h=>(m d h).map fun p=>(.rt p.1,d,p.2)
noncomputable def dS (m:ME):MS:=fun d h=>(m d h).map fun p=>(.nx,d,p.2)
noncomputable def bI (t:MT)(a b:MS):MS:=fun d h=>(t d h).bind fun p=>match p.1 with|true=>a d p.2|false=>b d p.2
noncomputable def aP (i:Nat)(m:ME):MS:=fun d h=>(m d h).map fun p=>(.nx,d.set i (some p.1),p.2)
theorem JC:PSs X [] (cY X.K bJ):=Bm GD (by
 rintro E n H ⟨j,q,p,o,l,i,R,d,h,k⟩
 cases h
 exact k j n H .refl R d)
theorem JD (s:PS X st (cY X.K ms))(G:PSs X bK (cY X.K mr)):PSs X (st::bK) (cY X.K (aJ ms mr)):=Bm (GF s G) (by
 rintro E N H ⟨J,K,I,y,w,u,R,A,j,k⟩
 obtain ⟨⟨x,q,p⟩,s,j⟩:=Tu.mp j
 refine ⟨J,K,I,x,q,p,R,A,s,?_⟩
 cases x with
 | nx=>
  intro v L M r B z
  refine ⟨v,q,p,y,w,u,B,z,j,?_⟩
  cases y with
  | nx=>exact fun h i n o R2 l=>k h i n (r.trans o) R2 l
  | bk=>exact fun h i n o R2 l=>k h i n (r.trans o) R2 l
  | ct=>exact fun h i n o R2 l=>k h i n (r.trans o) R2 l
  | rt d=>exact KC.after k r
 | rt d=>cases j;exact k
 | bk=>cases j;exact k
 | ct=>cases j;exact k)
theorem JE (d:PS X st (cY X.K ms)):PSs X [st] (cY X.K ms):=GG d
theorem JF:PS X (.Pass pos) (cY X.K bJ):=iD GH (by
 rintro E n H ⟨j,q,p,o,l,i,R,d,h,k⟩
 cases h
 exact k j n H .refl R d)
theorem JG (l:PE X e (tM X.K m)):PS X (.Return (some e) pos) (cY X.K (a8 m)):=iD (GN l) (by
 rintro E u H ⟨p,q,n,s,r,o,R,i,d,k⟩
 obtain ⟨⟨x,h⟩,j,d⟩:=Tz.mp d
 cases d
 exact ⟨p,q,n,x,h,R,i,j,k⟩)
theorem JH (q:PE X e (tM X.K m))(r:Xx e none pos.line X.env=pure false:=by rfl):PS X (.Expr e pos) (cY X.K (dS m)):=iD (GK q r) (by
 rintro E z H ⟨v,w,s,A,y,u,R,j,d,k⟩
 obtain ⟨⟨x,h⟩,p,d⟩:=Tz.mp d
 cases d
 exact ⟨v,w,s,x,h,R,j,p,fun i G n l o B=>k i z n l o (j.mono l)⟩)
theorem JI (hc:PT X c (cW X.K mt))(I:PSs X body (cY X.K ms))(J:PSs X orelse (cY X.K mu)):PS X (.If c body orelse pos) (cY X.K (bI mt ms mu)):=iD (GR hc I J) (by
 rintro E M H ⟨L,y,K,u,o,l,R,w,v,k⟩
 obtain ⟨⟨x,j⟩,G,v⟩:=Tu.mp v
 refine ⟨L,y,K,x,j,R,w,G,fun n B p z=>?_⟩
 have A:lW X.K E n j.length B u o l:=by
  cases u with
  | nx=>exact fun h i r s R2 q=>k h i r (p.trans s) R2 q
  | bk=>exact fun h i r s R2 q=>k h i r (p.trans s) R2 q
  | ct=>exact fun h i r s R2 q=>k h i r (p.trans s) R2 q
  | rt d=>exact KC.after k p
 cases x with
 | true=>
  refine kR ?_
  exact ⟨n,y,j,u,o,l,z,w.mono p,v,A⟩
 | false=>
  refine kQ ?_
  exact ⟨n,y,j,u,o,l,z,w.mono p,v,A⟩)
theorem Br {i:Nat}{x:Str}{d:Vt}(s:X.N.Nodup)(w:X.N[i]? = some x)(z:Loc X.env.scope x)(u:PE X e (tM X.K m))(y:Xx e (some (.Name x d)) pos.line X.env=pure false:=by rfl)
  (v:X.fn x=true\/X.env.scope.names.lookup x=some .local:=by first|exact .inl rfl|exact .inr rfl|assumption):PS X (.Assign [.Name x d] e pos) (cY X.K (aP i m)):=iD (GW s w z u y v) (by
 rintro E N H ⟨I,J,B,L,K,G,R,n,h,k⟩
 obtain ⟨⟨x,j⟩,r,h⟩:=Tz.mp h
 cases h
 exact ⟨I,J,B,x,j,R,n,r,fun l M p o q A=>k l _ p o q ((n.mono o).set A i)⟩)
end
noncomputable def pM (n:Nat)(ds:List D):aF:=ds.map some++VL (n - ds.length) none
noncomputable def pN (n:Nat)(m:MS):MF:=fun ds a=>(m (pM n ds) a).bind fun p=>match p.1 with|.rt d=>some (d,p.2.2)|.nx=>some (.non,p.2.2)|_=>none
theorem vT {K:Tv}{π:Nat->Addr}{n:Nat}{H:Hp}{N:List Str}{vs:List V}{ds:List D}(h:IsDs K π n H vs ds)(p:vs.length<=N.length):En K π n H (L2.start N vs) (pM N.length ds):=by
 have a:=h.length
 refine ⟨by simp [L2.start,pM,a],fun i d e=>?_⟩
 unfold pM at e
 unfold L2.start
 by_cases b:i<ds.length
 ·rw [Uc (by simpa using b),Um] at e
  obtain ⟨o,c,j⟩:=Tz.mp e
  cases j
  obtain ⟨v,l,m⟩:=h.get c
  exact ⟨v,by rw [Uc (by rw [TF,a];exact b),Um,l];rfl,m⟩
 ·rw [UK (by simpa using Xq.mp b)] at e
  have:=Wi (n:=N.length - ds.length) (a:=(none:Option D)) (i:=i - (ds.map some).length)
  rw [this] at e
  split at e<;>simp at e
section
variable {P:Ud}{w:Uv}{K:Tv}{mg:Str->Option Value}{base:UU}
theorem JJ {x a:Str}{st:Stmt}{f:Addr}{p:Vc}{N ps:List Str}{k:Nat}{m:MS}(F:Fun K x a st f p)(S:FnScope N ps (aU st))(j:ps.length<=N.length)
  (c:∀ (b:Value)(A:Ur)(outer:List XU)(s:TC)(H:Hp)(E:XK),Room k (A.deeper (Xb a (aU st) s.heap.objs.size f b))->
   PSs (eA dC P w K mg base N a (aU st) f b A outer s H E).nox (bD st) (cY K m)):FnOk P w K mg base dC (k+1) f p ps (dI K ps.length (pN N.length m)):=by
 refine F.ok S (fun I H Q E h=>h.1) fun b A outer s H I Q E B h=>⟨_,c b A outer s H E B,?_⟩
 obtain ⟨G,M,ds,J,d,L,R,i,e,r⟩:=h
 obtain ⟨⟨q,o,l⟩,z,e⟩:=Tu.mp e
 refine ⟨M,_,J,q,o,l,R,vT i (by rw [G];exact j),z,?_⟩
 cases q with
 | rt U=>cases e;exact r
 | nx=>cases e;exact fun n O u y v T=>r n .non u y v .non
 | bk=>cases e
 | ct=>cases e
end
end L3
namespace L3
open PySem L2
open SeqAt (EqAt RcAt RcNeAt)
inductive KD where
 | non|bl (b:Bool)|int (i:Int)|str (x:Str)|tup (n:Nat)|lst (n:Nat)
inductive IsK (s:TC):Value->KD->Prop where
 | non:IsK s .none .non
 | bl (b:Bool):IsK s (.bool b) (.bl b)
 | int (i:Int)(t:Tok):IsK s (.int i t) (.int i)
 | str (x:Str)(t:Tok):IsK s (.str x t) (.str x)
 | tup {l:Addr}{its:List Value}(h:s.heap.IsTuple l its.toArray):IsK s (.ref l) (.tup its.length)
 | lst {l:Addr}{its:List Value}(h:s.heap.IsList l its.toArray):IsK s (.ref l) (.lst its.length)
noncomputable def nC (e:Nat->Bool):KD->KD->Bool
 | .non,.non=>true
 | .bl a,.bl b=>a == b
 | .bl a,.int b=>(if a then 1 else 0) == b
 | .int a,.bl b=>a == (if b then 1 else 0)
 | .int a,.int b=>a == b
 | .str a,.str b=>a == b
 | .tup n,.tup k=>(UX (min n k)).all e&&n == k
 | .lst n,.lst k=>(UX (min n k)).all e&&n == k
 | _,_=>false
noncomputable def rS (A:Ur)(s:TC)(u v:Value)(e:Nat->Bool):Prop:=
 (∀ l b c a,u=.ref l->v=.ref b->s.heap.IsTuple l c->s.heap.IsTuple b a->∀ j (d:j<c.size)(h:j<a.size),EqAt A.in1 s c[j] a[j] (e j)) /\
 (∀ l b c a,u=.ref l->v=.ref b->s.heap.IsList l c->s.heap.IsList b a->∀ j (d:j<c.size)(h:j<a.size),EqAt A.in1 s c[j] a[j] (e j))
section
variable {A:Ur}{s:TC}{u v:Value}{k k':KD}{e:Nat->Bool}
theorem Bs {n k:Nat}(e:Nat->Bool)(h:n=k):((UX (min n k)).all e&&n == k)=(UX n).all e:=by
 subst h
 simp
theorem Bt {n k:Nat}(e:Nat->Bool)(h:n≠k):((UX (min n k)).all e&&n == k)=false:=by
 simp [h]
theorem vU (h:IsK s u k)(h':IsK s v k')(c:A.units<V6)(o:rS A s u v e):RcAt A s u v (nC e k k'):=by
 cases h with
 | non=>
  cases h' with
  | non=>exact RcAt.none_none
  | bl b=>exact RcAt.none_bool b
  | int i t=>exact RcAt.none_int i t
  | str x t=>exact RcAt.none_str x t
  | tup h=>exact RcAt.none_tuple h c
  | lst h=>exact RcAt.none_list h c
 | bl a=>
  cases h' with
  | non=>exact RcAt.bool_none a
  | bl b=>exact RcAt.bool_bool a b
  | int i t=>exact RcAt.bool_int a i t
  | str x t=>exact RcAt.bool_str a x t
  | tup h=>exact RcAt.bool_tuple a h c
  | lst h=>exact RcAt.bool_list a h c
 | int a j=>
  cases h' with
  | non=>exact RcAt.int_none a j
  | bl b=>exact RcAt.int_bool a j b
  | int i t=>exact RcAt.int_int a j i t
  | str x t=>exact RcAt.int_str a j x t
  | tup h=>exact RcAt.int_tuple a j h c
  | lst h=>exact RcAt.int_list a j h c
 | str a j=>
  cases h' with
  | non=>exact RcAt.str_none a j
  | bl b=>exact RcAt.str_bool a j b
  | int i t=>exact RcAt.str_int a j i t
  | str x t=>exact RcAt.str_str a j x t
  | tup h=>exact RcAt.str_tuple a j h c
  | lst h=>exact RcAt.str_list a j h c
 | tup g=>
  cases h' with
  | non=>exact RcAt.tuple_none g c
  | bl b=>exact RcAt.tuple_bool b g c
  | int i t=>exact RcAt.tuple_int i t g c
  | str x t=>exact RcAt.tuple_str x t g c
  | tup h=>
   have:=RcAt.tuples (e:=e) g h c (o.1 _ _ _ _ rfl rfl g h)
   simpa [nC] using this
  | lst h=>exact RcAt.tuple_list g h c
 | lst g=>
  cases h' with
  | non=>exact RcAt.list_none g c
  | bl b=>exact RcAt.list_bool b g c
  | int i t=>exact RcAt.list_int i t g c
  | str x t=>exact RcAt.list_str x t g c
  | tup h=>exact RcAt.list_tuple g h c
  | @lst b d h=>
   rename_i l m
   by_cases n:m.length=d.length
   ·have:=RcAt.lists (e:=e) g h (by simpa using n) c (o.2 _ _ _ _ rfl rfl g h)
    show RcAt A s _ _ ((UX (min m.length d.length)).all e&&m.length == d.length)
    rw [Bs e n]
    simpa using this
   ·have:=RcAt.lists_lengths g h (by simpa using n) c
    show RcAt A s _ _ ((UX (min m.length d.length)).all e&&m.length == d.length)
    rw [Bt e n]
    exact this
theorem JK (h:IsK s u k)(h':IsK s v k')(c:A.units<V6)(o:rS A s u v e):RcNeAt A s u v (!nC e k k'):=by
 cases h with
 | non=>
  cases h' with
  | non=>exact RcNeAt.none_none
  | bl b=>exact RcNeAt.none_bool b
  | int i t=>exact RcNeAt.none_int i t
  | str x t=>exact RcNeAt.none_str x t
  | tup h=>exact RcNeAt.none_tuple h c
  | lst h=>exact RcNeAt.none_list h c
 | bl a=>
  cases h' with
  | non=>exact RcNeAt.bool_none a
  | bl b=>exact RcNeAt.bool_bool a b
  | int i t=>exact RcNeAt.bool_int a i t
  | str x t=>exact RcNeAt.bool_str a x t
  | tup h=>exact RcNeAt.bool_tuple a h c
  | lst h=>exact RcNeAt.bool_list a h c
 | int a j=>
  cases h' with
  | non=>exact RcNeAt.int_none a j
  | bl b=>exact RcNeAt.int_bool a j b
  | int i t=>exact RcNeAt.int_int a j i t
  | str x t=>exact RcNeAt.int_str a j x t
  | tup h=>exact RcNeAt.int_tuple a j h c
  | lst h=>exact RcNeAt.int_list a j h c
 | str a j=>
  cases h' with
  | non=>exact RcNeAt.str_none a j
  | bl b=>exact RcNeAt.str_bool a j b
  | int i t=>exact RcNeAt.str_int a j i t
  | str x t=>exact RcNeAt.str_str a j x t
  | tup h=>exact RcNeAt.str_tuple a j h c
  | lst h=>exact RcNeAt.str_list a j h c
 | tup g=>
  cases h' with
  | non=>exact RcNeAt.tuple_none g c
  | bl b=>exact RcNeAt.tuple_bool b g c
  | int i t=>exact RcNeAt.tuple_int i t g c
  | str x t=>exact RcNeAt.tuple_str x t g c
  | tup h=>
   have:=RcNeAt.tuples (e:=e) g h c (o.1 _ _ _ _ rfl rfl g h)
   simpa [nC] using this
  | lst h=>exact RcNeAt.tuple_list g h c
 | lst g=>
  cases h' with
  | non=>exact RcNeAt.list_none g c
  | bl b=>exact RcNeAt.list_bool b g c
  | int i t=>exact RcNeAt.list_int i t g c
  | str x t=>exact RcNeAt.list_str x t g c
  | tup h=>exact RcNeAt.list_tuple g h c
  | @lst b d h=>
   rename_i l m
   by_cases n:m.length=d.length
   ·have:=RcNeAt.lists (e:=e) g h (by simpa using n) c (o.2 _ _ _ _ rfl rfl g h)
    show RcNeAt A s _ _ (!((UX (min m.length d.length)).all e&&m.length == d.length))
    rw [Bs e n]
    simpa using this
   ·have:=RcNeAt.lists_lengths g h (by simpa using n) c
    show RcNeAt A s _ _ (!((UX (min m.length d.length)).all e&&m.length == d.length))
    rw [Bt e n]
    exact this
theorem JL (h:IsK s u k)(h':IsK s v k')(c:A.units<V6)(o:rS A s u v e)(n:∀ l b,u=.ref l->v=.ref b->l≠b):EqAt A s u v (nC e k k'):=by
 cases h with
 | non=>
  cases h' with
  | non=>exact EqAt.same _
  | bl b=>exact EqAt.none_bool b
  | int i t=>exact EqAt.none_int i t
  | str x t=>exact EqAt.none_str x t
  | tup h=>exact EqAt.none_tuple h c
  | lst h=>exact EqAt.none_list h c
 | bl a=>
  cases h' with
  | non=>exact EqAt.bool_none a
  | bl b=>exact EqAt.bool_bool a b
  | int i t=>exact EqAt.bool_int a i t
  | str x t=>exact EqAt.bool_str a x t
  | tup h=>exact EqAt.bool_tuple a h c
  | lst h=>exact EqAt.bool_list a h c
 | int a d=>
  cases h' with
  | non=>exact EqAt.int_none a d
  | bl b=>exact EqAt.int_bool a d b
  | int i t=>exact EqAt.int_int a d i t
  | str x t=>exact EqAt.int_str a d x t
  | tup h=>exact EqAt.int_tuple a d h c
  | lst h=>exact EqAt.int_list a d h c
 | str a d=>
  cases h' with
  | non=>exact EqAt.str_none a d
  | bl b=>exact EqAt.str_bool a d b
  | int i t=>exact EqAt.str_int a d i t
  | str x t=>exact EqAt.str_str a d x t
  | tup h=>exact EqAt.str_tuple a d h c
  | lst h=>exact EqAt.str_list a d h c
 | @tup l m g=>
  cases h' with
  | non=>exact EqAt.tuple_none g c
  | bl b=>exact EqAt.tuple_bool b g c
  | int i t=>exact EqAt.tuple_int i t g c
  | str x t=>exact EqAt.tuple_str x t g c
  | @tup b j h=>exact EqAt.of_refs (n l b rfl rfl) (vU (k:=.tup m.length) (k':=.tup j.length) (.tup g) (.tup h) c o)
  | lst h=>exact EqAt.tuple_list g h c
 | @lst l m g=>
  cases h' with
  | non=>exact EqAt.list_none g c
  | bl b=>exact EqAt.list_bool b g c
  | int i t=>exact EqAt.list_int i t g c
  | str x t=>exact EqAt.list_str x t g c
  | tup h=>exact EqAt.list_tuple g h c
  | @lst b j h=>exact EqAt.of_refs (n l b rfl rfl) (vU (k:=.lst m.length) (k':=.lst j.length) (.lst g) (.lst h) c o)
end
inductive KdD where
 | non|bl (b:Bool)|int (i:Int)|str (x:Str)|tup (xs:List D)|lst (xs:List D)
noncomputable def cX (c:Hm):D->Option KdD
 | .non=>some .non
 | .bl b=>some (.bl b)
 | .int i=>some (.int i)
 | .str x=>some (.str x)
 | .tup xs=>some (.tup xs)
 | .rol xs=>some (.lst xs)
 | .loc a=>match c[a]? with|some (.lst xs)=>some (.lst xs)|_=>none
 | .ty _=>none
noncomputable def fM (f:D->D->Option Bool):List D->List D->Option Bool
 | x::xs,y::ys=>(f x y).bind fun b=>(fM f xs ys).map fun c=>b&&c
 | [],[]=>some true
 | _,_=>some false
noncomputable def gT (f:D->D->Option Bool):KdD->KdD->Option Bool
 | .non,.non=>some true
 | .bl a,.bl b=>some (a == b)
 | .bl a,.int b=>some ((if a then 1 else 0) == b)
 | .int a,.bl b=>some (a == (if b then 1 else 0))
 | .int a,.int b=>some (a == b)
 | .str a,.str b=>some (a == b)
 | .tup xs,.tup ys=>fM f xs ys
 | .lst xs,.lst ys=>fM f xs ys
 | _,_=>some false
noncomputable abbrev vV (f:D->D->Option Bool):D->D->Option Bool:=f
theorem Bu {f:D->D->Option Bool}{x y:D}{b:Bool}(h:vV f x y=some b):f x y=some b\/(b=true/\∃ a,x=.loc a/\y=.loc a):=.inl h
noncomputable def cR:Nat->Hm->D->D->Option Bool
 | 0,_,_,_=>none
 | n+1,μ,x,y=>(cX μ x).bind fun a=>(cX μ y).bind fun b=>gT (vV (cR n μ)) a b
noncomputable abbrev iE (n:Nat)(a:Hm):D->D->Option Bool:=vV (cR n a)
noncomputable def vW:KdD->KD
 | .non=>.non|.bl b=>.bl b|.int i=>.int i|.str x=>.str x|.tup xs=>.tup xs.length|.lst xs=>.lst xs.length
noncomputable def nD:KdD->List D
 | .tup xs=>xs|.lst xs=>xs|_=>[]
section
variable {X:Cx}{a3F:List (Addr×Obj)}{σ:St}{H:Hp}{s:TC}{π:Nat->Addr}{μ:Hm}
inductive KdAt (X:Cx)(π:Nat->Addr)(n:Nat)(H:Hp)(s:TC)(u:Value):KdD->Prop where
 | non (h:u=.none):KdAt X π n H s u .non
 | bl (b:Bool)(h:u=.bool b):KdAt X π n H s u (.bl b)
 | int (i:Int)(t:Tok)(h:u=.int i t):KdAt X π n H s u (.int i)
 | str (x:Str)(t:Tok)(h:u=.str x t):KdAt X π n H s u (.str x)
 | tup {xs:List D}(p:Addr)(vs:List V)(its:List Value)(h:u=.ref p)(q:SqT X.K H p vs)(i:IsDs X.K π n H vs xs)(r:Vals vs its)(t:s.heap.IsTuple p its.toArray):KdAt X π n H s u (.tup xs)
 | lst {xs:List D}(p:Addr)(vs:List V)(its:List Value)(h:u=.ref p)(q:SqL X.K H p vs)(i:IsDs X.K π n H vs xs)(r:Vals vs its)(t:s.heap.IsList p its.toArray):KdAt X π n H s u (.lst xs)
theorem nE (I:Inv X a3F σ H s)(R:Rp X.K π H μ){v:V}{d:D}{u:Value}(h:IsD X.K π μ.length H v d)(r:RelV v u){k:KdD}(e:cX μ d=some k):KdAt X π μ.length H s u k:=by
 cases h with
 | non=>cases e;exact .non r
 | bl b=>cases e;exact .bl b r
 | int i=>cases e;obtain ⟨t,q⟩:=r;exact .int i t q
 | str x=>cases e;obtain ⟨t,q⟩:=r;exact .str x t q
 | ty x=>cases e
 | tup q t=>
  cases e
  obtain ⟨c,j,p,_⟩:=I.tuple q
  exact .tup _ _ c r q t j p
 | rol q t=>
  cases e
  obtain ⟨c,j,p,_⟩:=I.list q.sq
  exact .lst _ _ c r q.sq t j p.isList
 | @loc a y=>
  simp only [cX] at e
  split at e
  ·rename_i w n
   cases e
   obtain ⟨o,l,m⟩:=R.lst a w n
   have q:SqL X.K H (π a) o:=.of l
   obtain ⟨c,j,p,_⟩:=I.list q
   exact .lst _ _ c r q m j p.isList
  ·cases e
theorem KdAt.isK {u:Value}{k:KdD}{n:Nat}(h:KdAt X π n H s u k):IsK s u (vW k):=by
 cases h with
 | non h=>subst h;exact .non
 | bl b h=>subst h;exact .bl b
 | int i t h=>subst h;exact .int i t
 | str x t h=>subst h;exact .str x t
 | tup p c a h q i r t=>
  subst h
  have:a.length=_:=r.length.symm.trans i.length
  show IsK s (.ref p) (.tup _)
  rw [<- this]
  exact .tup t
 | lst p c a h q i r t=>
  subst h
  have:a.length=_:=r.length.symm.trans i.length
  show IsK s (.ref p) (.lst _)
  rw [<- this]
  exact .lst t
noncomputable def gU (f:D->D->Option Bool)(xs a:List D)(j:Nat):Bool:=match xs[j]?,a[j]? with
 | some x,some y=>(f x y).getD false
 | _,_=>false
theorem vX {f:D->D->Option Bool}:∀ {xs a:List D}{b:Bool},fM f xs a=some b->b=((UX (min xs.length a.length)).all (gU f xs a)&&xs.length == a.length)/\∀ (j:Nat) x y,xs[j]? = some x->a[j]? = some y->f x y=some (gU f xs a j)
 | [],[],b,h=>by
  cases h
  exact ⟨rfl,fun j x y e=>by simp at e⟩
 | x::xs,[],b,h=>by
  cases h
  exact ⟨by simp,fun j x y _ e=>by simp at e⟩
 | [],y::a,b,h=>by
  cases h
  exact ⟨by simp,fun j x y e=>by simp at e⟩
 | x::xs,y::a,b,h=>by
  simp only [fM] at h
  obtain ⟨c,n,p⟩:=Tu.mp h
  obtain ⟨d,q,r⟩:=Tz.mp p
  obtain ⟨u,v⟩:=vX q
  have m:gU f (x::xs) (y::a) 0=c:=by simp [gU,n]
  have o:∀ j,gU f (x::xs) (y::a) (j+1)=gU f xs a j:=fun j=>by simp [gU]
  refine ⟨?_,fun j w z i l=>?_⟩
  ·subst r
   rw [u]
   simp only [Uk,Nat.add_min_add_right]
   rw [Z9,Uy,List.all_map,m]
   have:(gU f (x::xs) (y::a) ∘ Nat.succ)=gU f xs a:=funext fun j=>o j
   rw [this]
   simp [Bool.and_assoc]
  ·cases j with
   | zero=>
    simp at i l
    subst i;subst l
    rw [m,n]
   | succ j=>
    rw [o j]
    exact v j w z (by simpa using i) (by simpa using l)
theorem Bv {f:D->D->Option Bool}{k k':KdD}{b:Bool}(h:gT f k k'=some b):b=nC (gU f (nD k) (nD k')) (vW k) (vW k'):=by
 cases k<;>cases k'<;>simp only [gT] at h<;>first
  | (have a:=T5 h;subst a;rfl)
  | (obtain ⟨c,_⟩:=vX h;rw [c];rfl)
theorem JM (I:Inv X a3F σ H s)(R:Rp X.K π H μ):∀ (n:Nat){v:V}{u:Value}{x y:D}{b:Bool},RelV v u->IsD X.K π μ.length H v x->IsD X.K π μ.length H v y->cR n μ x y=some b->b=true:=by
 intro n
 induction n with
 | zero=>intro v u x y b _ _ _ h;cases h
 | succ n ih=>
  intro v u x y b r hx hy h
  obtain ⟨k,U,h⟩:=Tu.mp h
  obtain ⟨k',h2,h⟩:=Tu.mp h
  have a1:=nE I R hx r U
  have A:=nE I R hy r h2
  have l:∀ {vs:List V}{xs T:List D}{c:Bool},(∀ v∈vs,∃ u,RelV v u)->IsDs X.K π μ.length H vs xs->IsDs X.K π μ.length H vs T->fM (iE n μ) xs T=some c->c=true:=by
   intro vs
   induction vs with
   | nil=>intro xs T c _ Z o h;cases Z;cases o;cases h;rfl
   | cons w vs ihv=>
    intro xs T c hr Z o h
    cases Z with
    | cons p1 t1=>
     cases o with
     | cons L E=>
      simp only [fM] at h
      obtain ⟨c1,U,h3⟩:=Tu.mp h
      obtain ⟨c2,h4,h5⟩:=Tz.mp h3
      obtain ⟨Q,N⟩:=hr w (UP ..)
      have a:c1=true:=(Bu U).elim (ih N p1 L) (·.1)
      have m:=ihv (fun v J=>hr v (UB _ J)) t1 E h4
      subst a;subst m
      exact h5.symm
  cases a1 with
  | non a=>
   subst a
   cases A with
   | non _=>simp only [gT] at h;exact (T5 h).symm
   | bl _ e=>cases e
   | int _ _ e=>cases e
   | str _ _ e=>cases e
   | tup _ _ _ e=>cases e
   | lst _ _ _ e=>cases e
  | bl c a=>
   subst a
   cases A with
   | non e=>cases e
   | bl _ e=>cases e;simp only [gT,beq_self_eq_true] at h;exact (T5 h).symm
   | int _ _ e=>cases e
   | str _ _ e=>cases e
   | tup _ _ _ e=>cases e
   | lst _ _ _ e=>cases e
  | int c t a=>
   subst a
   cases A with
   | non e=>cases e
   | bl _ e=>cases e
   | int _ _ e=>cases e;simp only [gT,beq_self_eq_true] at h;exact (T5 h).symm
   | str _ _ e=>cases e
   | tup _ _ _ e=>cases e
   | lst _ _ _ e=>cases e
  | str c t a=>
   subst a
   cases A with
   | non e=>cases e
   | bl _ e=>cases e
   | int _ _ e=>cases e
   | str _ _ e=>cases e;simp only [gT,beq_self_eq_true] at h;exact (T5 h).symm
   | tup _ _ _ e=>cases e
   | lst _ _ _ e=>cases e
  | tup p vs K a q i O t=>
   have z:KdAt X π μ.length H s (.ref p) _:=a ▸ KdAt.tup p vs K a q i O t
   rw [a] at A
   cases A with
   | non e=>cases e
   | bl _ e=>cases e
   | int _ _ e=>cases e
   | str _ _ e=>cases e
   | tup L G d m M o B E=>
    cases m
    have:=I.tuple_inj q M
    subst this
    exact l (fun v J=>by
     obtain ⟨j,Y,rfl⟩:=V1 J
     obtain ⟨Q,_,N⟩:=O.get (Uw Y)
     exact ⟨Q,N⟩) i o h
   | lst L G d m M o B E=>
    cases m
    exact absurd rfl (VI E t)
  | lst p vs K a q i O t=>
   rw [a] at A
   cases A with
   | non e=>cases e
   | bl _ e=>cases e
   | int _ _ e=>cases e
   | str _ _ e=>cases e
   | tup L G d m M o B E=>
    cases m
    exact absurd rfl (VI t E)
   | lst L G d m M o B E=>
    cases m
    have:=I.list_inj q M
    subst this
    exact l (fun v J=>by
     obtain ⟨j,Y,rfl⟩:=V1 J
     obtain ⟨Q,_,N⟩:=O.get (Uw Y)
     exact ⟨Q,N⟩) i o h
theorem lY (A:Ur):A.in1.units=A.units+1:=rfl
theorem Bw (I:Inv X a3F σ H s){A:Ur}{n:Nat}(ih:∀ {A:Ur}{v v':V}{u u':Value}{x y:D}{b:Bool},A.units+n<V6->RelV v u->RelV v' u'->IsD X.K π μ.length H v x->IsD X.K π μ.length H v' y->cR n μ x y=some b->EqAt A s u u' b)
  (hu:A.units+(n+1)<V6){u u':Value}{k k':KdD}{b:Bool}(a1:KdAt X π μ.length H s u k)(a2:KdAt X π μ.length H s u' k')(h:gT (iE n μ) k k'=some b):rS A s u u' (gU (iE n μ) (nD k) (nD k')):=by
 have J:∀ {vs R:List V}{its its':List Value}{xs Z:List D}{c:Bool},Vals vs its->Vals R its'->IsDs X.K π μ.length H vs xs->IsDs X.K π μ.length H R Z->fM (iE n μ) xs Z=some c->
   ∀ j (U:j<its.length)(Y:j<its'.length),EqAt A.in1 s its[j] its'[j] (gU (iE n μ) xs Z j):=by
  intro vs R its its' xs Z c r r' i i' e j U Y
  have l1:=r.length
  have l2:=r'.length
  have l3:=i.length
  have l4:=i'.length
  have hx:xs[j]? = some (xs[j]'(by omega)):=Uw _
  have hy:Z[j]? = some (Z[j]'(by omega)):=Uw _
  obtain ⟨v,v1,v2⟩:=i.get hx
  obtain ⟨v',v1',v2'⟩:=i'.get hy
  obtain ⟨w,w1,w2⟩:=r.get v1
  obtain ⟨w',w1',w2'⟩:=r'.get v1'
  rw [Uw U] at w1
  rw [Uw Y] at w1'
  cases w1
  cases w1'
  have key:∀ {x y:D}{b:Bool},IsD X.K π μ.length H v x->IsD X.K π μ.length H v' y->iE n μ x y=some b->EqAt A.in1 s its[j] its'[j] b:=fun {x y b} i1 K hq=>by
   rcases Bu hq with hq|⟨rfl,a,rfl,rfl⟩
   ·exact ih (by rw [lY];omega) w2 w2' i1 K hq
   ·cases i1
    cases K
    have z1:its[j]=T6 (π a):=w2
    have z2:its'[j]=T6 (π a):=w2'
    rw [z1,z2]
    exact EqAt.same _
  exact key v2 v2' ((vX e).2 j _ _ hx hy)
 constructor
 ·intro l b' G B e1 e2 t1 t2 j U Y
  subst e1;subst e2
  cases a1 with
  | tup p vs its e q i r t=>
   cases e
   cases a2 with
   | tup p2 T E d q2 K r2 Q=>
    cases d
    have z1:G=its.toArray:=by
     obtain ⟨o,L,g2,n1,N⟩:=t1
     obtain ⟨o',m,M,O,z⟩:=t
     rw [L] at m;cases m
     rw [N] at z
     injection z
    have z2:B=E.toArray:=by
     obtain ⟨o,L,g2,n1,N⟩:=t2
     obtain ⟨o',m,M,O,z⟩:=Q
     rw [L] at m;cases m
     rw [N] at z
     injection z
    subst z1;subst z2
    have:=J r r2 i K h j (by simpa using U) (by simpa using Y)
    simpa [nD] using this
   | lst p2 T E d q2 K r2 Q=>
    cases d
    exact absurd rfl (VI Q t2)
   | non d=>cases d
   | bl _ d=>cases d
   | int _ _ d=>cases d
   | str _ _ d=>cases d
  | lst p vs its e q i r t=>
   cases e
   exact absurd rfl (VI t t1)
  | non e=>cases e
  | bl _ e=>cases e
  | int _ _ e=>cases e
  | str _ _ e=>cases e
 ·intro l b' G B e1 e2 t1 t2 j U Y
  subst e1;subst e2
  cases a1 with
  | lst p vs its e q i r t=>
   cases e
   cases a2 with
   | lst p2 T E d q2 K r2 Q=>
    cases d
    have z1:G=its.toArray:=by
     obtain ⟨o,L,g2,n1,N⟩:=t1
     obtain ⟨o',m,M,O,z⟩:=t
     rw [L] at m;cases m
     rw [N] at z
     injection z
    have z2:B=E.toArray:=by
     obtain ⟨o,L,g2,n1,N⟩:=t2
     obtain ⟨o',m,M,O,z⟩:=Q
     rw [L] at m;cases m
     rw [N] at z
     injection z
    subst z1;subst z2
    have:=J r r2 i K h j (by simpa using U) (by simpa using Y)
    simpa [nD] using this
   | tup p2 T E d q2 K r2 Q=>
    cases d
    exact absurd rfl (VI t2 Q)
   | non d=>cases d
   | bl _ d=>cases d
   | int _ _ d=>cases d
   | str _ _ d=>cases d
  | tup p vs its e q i r t=>
   cases e
   exact absurd rfl (VI t1 t)
  | non e=>cases e
  | bl _ e=>cases e
  | int _ _ e=>cases e
  | str _ _ e=>cases e
theorem vY (I:Inv X a3F σ H s)(R:Rp X.K π H μ):∀ (n:Nat){A:Ur}{v c:V}{u a:Value}{x y:D}{b:Bool},A.units+n<V6->RelV v u->RelV c a->IsD X.K π μ.length H v x->IsD X.K π μ.length H c y->cR n μ x y=some b->EqAt A s u a b:=by
 intro n
 induction n with
 | zero=>intro A v c u a x y b _ _ _ _ _ h;cases h
 | succ n K=>
  intro A v c u a x y b J r o j m h
  have w:=h
  obtain ⟨k,B,h⟩:=Tu.mp h
  obtain ⟨M,E,h⟩:=Tu.mp h
  have d:=nE I R j r B
  have e:=nE I R m o E
  by_cases i:u=a
  ·subst i
   have:v=c:=r.inj o
   subst this
   have:=JM I R (n+1) r j m w
   subst this
   exact EqAt.same _
  ·have G:=Bw I K J d e h
   rw [Bv h]
   exact JL d.isK e.isK (by omega) G fun l L p q z=>i (by rw [p,q,z])
theorem Bx (I:Inv X a3F σ H s)(R:Rp X.K π H μ)(n:Nat){A:Ur}{v i:V}{u d:Value}{x y:D}{b:Bool}(m:A.units+n<V6)(r:RelV v u)(q:RelV i d)(o:IsD X.K π μ.length H v x)(p:IsD X.K π μ.length H i y)(h:cR n μ x y=some b) :
  RcAt A s u d b/\RcNeAt A s u d (!b):=by
 cases n with
 | zero=>cases h
 | succ n=>
  obtain ⟨k,j,h⟩:=Tu.mp h
  obtain ⟨w,l,h⟩:=Tu.mp h
  have a:=nE I R o r j
  have c:=nE I R p q l
  have e:=Bw I (A:=A) (vY I R n) m a c h
  rw [Bv h]
  exact ⟨vU a.isK c.isK (by omega) e,JK a.isK c.isK (by omega) e⟩
end
end L3
namespace L3
open PySem L2
open SeqAt (EqAt RcAt RcNeAt)
section
variable {K:Tv}
noncomputable def jT (g:Int->Int->Option Int):D->D->Hm->Option (D×Hm)
 | .int i,.int j,μ=>(g i j).map fun z=>(.int z,μ)
 | _,_,_=>none
theorem By {g:Int->Int->Option Int}{x y d:D}{b a:Hm}(h:jT g x y b=some (d,a)):∃ i j z,x=.int i/\y=.int j/\g i j=some z/\d=.int z/\a=b:=by
 unfold jT at h
 split at h
 ·rename_i i j
  obtain ⟨z,c,e⟩:=Tz.mp h
  cases e
  exact ⟨i,j,z,rfl,rfl,c,rfl,rfl⟩
 ·cases h
theorem rV {a:Int->Int->Prop}{g:Int->Int->Option Int}{g':Int->Int->Int}(e:∀ i j z,g i j=some z->a i j/\z=g' i j):cQ K (jT g) (rI a fun i j=>.int (g' i j)):=by
 intro o H r x y d n p q Q R l m h k
 obtain ⟨i,j,z,rfl,rfl,b,rfl,rfl⟩:=By h
 cases l
 cases m
 obtain ⟨c,rfl⟩:=e i j z b
 exact ⟨i,j,rfl,rfl,c,k o _ H .refl R (.int _)⟩
theorem JN {g':Int->Int->Int}:cQ K (jT fun i j=>some (g' i j)) (fZ fun i j=>.int (g' i j)):=by
 intro l H o x y d h m n Q R c e b k
 obtain ⟨i,j,z,rfl,rfl,a,rfl,rfl⟩:=By b
 cases c
 cases e
 cases a
 exact ⟨i,j,rfl,rfl,k l _ H .refl R (.int _)⟩
noncomputable def cS:=jT fun i j=>some (i - j)
noncomputable def Bz:=jT fun i j=>if ((-(2 ^ 64)<i/\i<2 ^ 64)\/(-(2 ^ 64)<j/\j<2 ^ 64))\/(i.natAbs<2 ^ 4000/\j.natAbs<2 ^ 4000)\/Uz i+Uz j<=134217728 then some (i * j) else none
noncomputable def bS:D->D->Hm->Option (D×Hm)
 | x,y,μ=>Bz x y μ
noncomputable def dU:=jT fun i j=>if 0<j/\j<2 ^ 4000 then some (i / j) else none
noncomputable def bU:=jT fun i j=>if 0<j then some (i % j) else none
noncomputable def gW:=jT fun i j=>if (0<=j/\j<=1000000/\i.natAbs<2 ^ 64)\/(0<=j/\j<=100/\i.natAbs<2 ^ 4000) then some (i ^ j.toNat) else none
noncomputable def CMulB (i j:Int):Prop:=CMul i j\/(i.natAbs<2 ^ 4000/\j.natAbs<2 ^ 4000)\/Uz i+Uz j<=134217728
noncomputable def BA (i j:Int):Prop:=0<j/\j<2 ^ 4000
noncomputable def BB (i j:Int):Prop:=He i j\/(0<=j/\j<=100/\i.natAbs<2 ^ 4000)
theorem vZ {i:Int}(h:i.natAbs<2 ^ 4000):Uz i<=4000:=by
 unfold Uz
 split
 ·exact Vj _
 ·rename_i b
  have a:i.natAbs≠0:=by
   intro z
   exact b (by simpa using z)
  have:=(a3j a).mpr h
  omega
theorem CMulB.ok {i j:Int}(h:CMulB i j):a1U i j:=by
 rcases h with h|⟨b,c⟩|h
 ·exact h.ok
 rotate_left
 ·have a:WX (Uz i+Uz j)=false:=by
   unfold WX
   rw [decide_eq_false]
   have:bitsLine=134217728:=by decide
   omega
  unfold a1U
  rw [a]
  simp
 ·have d:=vZ b
  have e:=vZ c
  have a:WX (Uz i+Uz j)=false:=by
   unfold WX
   rw [decide_eq_false]
   have:(8000:Int)<=bitsLine:=by decide
   omega
  unfold a1U
  rw [a]
  simp
section
variable {X:Cx}
theorem JO:OpR X (WM .Mult) (rI CMulB fun i j=>.int (i * j)):=rL fun _ _ _ _ _ _ _ hc q=>a3d q hc.ok
theorem JP:OpR X (WM .FloorDiv) (rI BA fun i j=>.int (i / j)):=rL fun i j _ _ _ _ _ hc q=>by
 have c:(0:Int)<j:=hc.1
 have d:j<2 ^ 4000:=hc.2
 have a:j.natAbs≠0:=by omega
 have b:j.natAbs<2 ^ 4000:=by
  have:((2 ^ 4000:Nat):Int)=2 ^ 4000:=by decide
  omega
 have e:=(a3j a).mpr b
 exact a3e (by omega) (by rw [Int.fdiv_eq_ediv_of_nonneg i (by omega)];exact q) (.inl (PyProof.noPylong_of_log2 (by omega)))
theorem JQ:OpR X (WM .Pow) (rI BB fun i j=>.int (i ^ j.toNat)):=rL fun i j _ _ _ _ _ hc q=>by
 rcases hc with hc|⟨a,c,d⟩
 ·exact a3b hc.1 hc.2.1 hc.2.2 q
 ·have b:=vZ d
  refine a3c a ?_ q
  have:(Uz i:Int) * j<=4000 * 100:=a2m (by omega) c a (by omega)
  omega
end
theorem rW {c:Prop} [Decidable c] {a z:Int}(h:(if c then some a else none)=some z):c/\z=a:=by
 split at h
 ·cases h;exact ⟨by assumption,rfl⟩
 ·cases h
theorem JR:cQ K cS (fZ fun i j=>.int (i - j)):=JN
theorem JS:cQ K Bz (rI CMulB fun i j=>.int (i * j)):=rV fun i j z h=>by
 have:=rW h
 exact this
theorem JT:cQ K bS (rI CMulB fun i j=>.int (i * j)):=JS
theorem JU:cQ K dU (rI BA fun i j=>.int (i / j)):=rV fun i j z h=>by
 have:=rW h
 exact this
theorem JV:cQ K bU (rI (fun _ j=>0<j) fun i j=>.int (i % j)):=rV fun _ _ _ h=>rW h
theorem JW:cQ K gW (rI BB fun i j=>.int (i ^ j.toNat)):=rV fun i j z h=>by
 have:=rW h
 exact this
noncomputable def v5:D->Option D
 | .int i=>some (.int (-i))
 | _=>none
noncomputable def bV:D->D->Hm->Option (D×Hm)
 | .int i,.int j,μ=>some (.int (i+j),μ)
 | .str x,.str y,μ=>if x.length+y.length<=TZ then some (.str (x++y),μ) else none
 | .loc a,.loc b,μ=>match μ[a]?,μ[b]? with
  | some (.lst xs),some (.lst ys)=>if xs.length+ys.length<=TZ then some (.loc μ.length,μ++[.lst (xs++ys)]) else none
  | _,_=>none
 | _,_,_=>none
noncomputable def v7 (K:Tv):R2:=fun x y H Q=>fZ (fun i j=>.int (i+j)) x y H Q\/(∃ i j,x=.str i/\y=.str j/\i.length+j.length<=TZ/\Q (.str (i++j)) H)\/A8 x y H Q
theorem JX {X:Cx}:OpR X (WM .Add) (v7 X.K):=op_add.or (op_add_str.or Iz)
noncomputable abbrev v8 (K:Tv):R2:=v7 K
theorem JY {X:Cx}:OpR X (WM .Add) (v8 X.K):=JX
theorem v9 {K:Tv}{x y:V}{H:Hp}{Q:VK}(h:v7 K x y H Q):v8 K x y H Q:=h
theorem JZ:cQ K bV (v8 K):=by
 intro r H G x y d A B E Q R c e a k
 unfold bV at a
 split at a
 ·cases a
  cases c
  cases e
  exact v9 (.inl ⟨_,_,rfl,rfl,k r _ H .refl R (.int _)⟩)
 ·split at a
  ·rename_i b
   cases a
   cases c
   cases e
   exact v9 (.inr (.inl ⟨_,_,rfl,rfl,b,k r _ H .refl R (.str _)⟩))
  ·cases a
 ·split at a
  ·rename_i n o v w
   split at a
   ·rename_i b
    cases a
    cases c
    cases e
    obtain ⟨l,h,i⟩:=R.lst _ n v
    obtain ⟨m,u,j⟩:=R.lst _ o w
    refine v9 (.inr (.inr ⟨_,_,l,m,rfl,rfl,by first|exact h|exact .inl (.inl h),u,by rw [i.length,j.length];exact b,fun p z=>?_⟩))
    obtain ⟨s,R2,q⟩:=R.alloc (c:=.lst (n++o)) (o:=.lst (l++m)) z (i.append j)
    exact k _ _ _ s R2 jS
   ·cases a
  ·cases a
 ·cases a
noncomputable def fN (p:Int->Int->Bool):D->D->Hm->Option (D×Hm)
 | .int i,.int j,μ=>some (.bl (p i j),μ)
 | _,_,_=>none
theorem gX {p:Int->Int->Bool}:cQ K (fN p) (fZ fun i j=>.bl (p i j)):=by
 intro h H n x y d e l m Q R b c a k
 unfold fN at a
 split at a
 ·cases a
  cases b
  cases c
  exact ⟨_,_,rfl,rfl,k h _ H .refl R (.bl _)⟩
 ·cases a
noncomputable def nF:=fN fun i j=>decide (i<j)
noncomputable def nG:=fN fun i j=>decide (i<=j)
noncomputable def kT:=fN fun i j=>decide (j<i)
noncomputable def wA:=fN fun i j=>decide (j<=i)
noncomputable def wB (K:Tv)(ne:Bool):R2:=fun x y H Q=>∃ π a c d b,Rp K π H a/\IsD K π a.length H x c/\IsD K π a.length H y d/\cR 8 a c d=some b/\Q (.bl (if ne then !b else b)) H
theorem BC {X:Cx}(c:X.A.units+8<V6):OpR X (UY .Eq) (wB X.K false):=by
 intro a s r H x y v u Q I j l h
 obtain ⟨p,o,m,n,b,R,d,i,e,q⟩:=h
 exact (Bx I R 8 c j l d i e).1 _ _ _ _ ⟨.bl b,H,I,rfl,q⟩
theorem BE {X:Cx}(c:X.A.units+8<V6):OpR X (UY .NotEq) (wB X.K true):=by
 intro a s r H x y v u Q I j l h
 obtain ⟨p,o,m,n,b,R,d,i,e,q⟩:=h
 exact (Bx I R 8 c j l d i e).2 _ _ _ _ ⟨.bl (!b),H,I,rfl,q⟩
noncomputable def a9 (ne:Bool):D->D->Hm->Option (D×Hm):=fun x y a=>(cR 8 a x y).map fun b=>(.bl (if ne then !b else b),a)
theorem rX {ne:Bool}:cQ K (a9 ne) (wB K ne):=by
 intro a H l x y d m n o Q R i j h k
 obtain ⟨b,c,e⟩:=Tz.mp h
 cases e
 exact ⟨a,l,x,y,b,R,i,j,c,k a _ H .refl R (.bl _)⟩
noncomputable def wC:D->D->Hm->Option (D×Hm)
 | .str i,.str j,μ=>some (.bl (!(Vr j i 0 j.length 1).isEmpty),μ)
 | _,_,_=>none
theorem BF:cQ K wC (fun x y H Q=>∃ i j,x=.str i/\y=.str j/\Q (.bl (!(Vr j i 0 j.length 1).isEmpty)) H):=by
 intro h H n x y d e l m Q R b c a k
 unfold wC at a
 split at a
 ·cases a
  cases b
  cases c
  exact ⟨_,_,rfl,rfl,k h _ H .refl R (.bl _)⟩
 ·cases a
end
section
variable {X:Cx}{a b c:Expr}{ma mb mc:ME}{pos:Vt}
theorem rY {k:Nat}{A:Ur}(r:Room k A):A.units+8<V6:=by have:=r.un;omega
theorem J7 (u:PE X a (tM X.K ma)):PE X (.UnaryOp .USub a pos) (tM X.K (fun l h=>(ma l h).bind fun p=>(v5 p.1).map fun d=>(d,p.2))):=cP (Hd Hh u) (by
 rintro G H Q ⟨A,l,h,d,w,R,E,e,k⟩
 obtain ⟨⟨x,z⟩,r,e⟩:=Tu.mp e
 obtain ⟨y,m,s⟩:=Tz.mp e
 cases s
 cases x with
 | int i=>
  cases m
  refine ⟨A,l,h,_,_,R,E,r,fun j B n q o v=>?_⟩
  cases v
  exact ⟨_,rfl,k j _ n q o (.int _)⟩
 | _=>cases m)
theorem J8 {x:Str}{n:String}(d:Gl X x)(e:X.mg x=none)(i:VA x=some (.type n))(h:x ≠ "__name__":=by decide) (hd:(x == ("__debug__":Str))=false:=by decide):PE X (.Name x pos) (tM X.K (mC (.ty n))):=
 m9 (Gb (v:=.ty n) d e i rfl h hd) fun _ _ _=>.ty n
end
noncomputable def rZ (b:Hm):D->Option String
 | .non=>some "NoneType"
 | .bl _=>some "bool"
 | .int _=>some "int"
 | .str _=>some "str"
 | .tup _=>some "tuple"
 | .rol _=>some "list"
 | .loc a=>match b[a]? with
  | some (.lst _)=>some "list"
  | some (.dK _)=>some "dict"
  | some (.dT _)=>some "dict"
  | _=>none
 | .ty _=>none
noncomputable def r8 (t c:String):Option Bool:=match c with
 | "int"=>some (t == "int" || t == "bool")
 | "bool"=>some (t == "bool")
 | "str"=>some (t == "str")
 | "list"=>some (t == "list")
 | "tuple"=>some (t == "tuple")
 | "dict"=>some (t == "dict")
 | _=>none
noncomputable def f9:MF:=fun ds a=>match ds with
 | [x,.ty c]=>(rZ a x).bind fun t=>(r8 t c).map fun b=>(.bl b,a)
 | _=>none
theorem jU (K:Tv){t c:String}{b:Bool}(d:t = "NoneType"\/t = "bool"\/t = "int"\/t = "str"\/t = "tuple"\/t = "list"\/t = "dict") (h:r8 t c=some b):Xy K (.type t) (.type c)=some b:=by
 unfold r8 at h
 split at h<;>first
  | cases h;done
  | (have a:=T5 h;subst a
     rcases d with rfl|rfl|rfl|rfl|rfl|rfl|rfl<;>first|rfl|decide +kernel|(unfold Xy;simp;rfl))
end L3
namespace L3
open PySem L2
noncomputable abbrev MG:=D->aF->Hm->Option aF
noncomputable def fB (K:Tv)(g:MG):TG:=fun v σ H Q=>∃ π e a d b,Rp K π H a/\En K π a.length H σ e/\IsD K π a.length H v d/\g d e a=some b/\∀ c,En K π a.length H c b->Q c H
noncomputable def cZ (i:Nat):MG:=fun d a _=>some (a.set i (some d))
section
variable {X:Cx}{pos:Vt}
theorem BG {i:Nat}{x:Str}(b:X.N.Nodup)(e:X.N[i]? = some x)(l:Loc X.env.scope x)(c:X.fn x=true\/X.env.scope.names.lookup x=some .local:=by first|exact .inl rfl|exact .inr rfl|assumption):PG X (.Name x pos) (fB X.K (cZ i)):=by
 intro a s n H v u Q I r h
 obtain ⟨p,q,o,d,m,R,E,hd,j,k⟩:=h
 cases j
 exact Ao b e l c a s n H v u Q I r (k _ (E.set hd i))
noncomputable def J9 (K:Tv)(c:TE):TI:=fun σ H R=>c σ H fun x b=>∃ a,x=.ref a/\(((∃ xs,SqL K b a xs)/\R (uS K a) b)\/((∃ xs,SqT K b a xs)/\R (uT K a) b))
theorem Ka {l tg:Expr}{u:TE}(w:PE X l u):PI X tg l (J9 X.K u):=by
 intro j s G H R I h
 refine aN (w j s G H _ I h) fun v c ⟨x,r,d,A,z⟩=>?_
 obtain ⟨a,e,q⟩:=z
 subst e
 cases A
 rcases q with ⟨⟨E,n⟩,q⟩|⟨⟨E,n⟩,q⟩
 ·obtain ⟨i,B,p,y⟩:=d.list n
  refine a2s p.isList ?_
  refine ⟨c.heap.objs.size,[c.heap.objs.size],_,_,r,rfl,d.kept (t':=c.toks) fun b o e=>TL _ e,G0 a _,⟨_,Ub _ rfl,rfl,rfl⟩,fun b m=>?_,q⟩
  have e:b=c.heap.objs.size:=by simpa using m
  subst e
  exact d.fpOk (TR _) (d.hok.fresh (TR _))
 ·obtain ⟨i,B,p,y⟩:=d.tuple n
  refine wpAny_pyIter_tuple (show c.heap.IsTuple a i.toArray from p) ?_
  refine ⟨c.heap.objs.size,[c.heap.objs.size],_,_,r,rfl,d.kept (t':=c.toks) fun b o e=>TL _ e,G1 a _,⟨_,Ub _ rfl,rfl,rfl⟩,fun b m=>?_,q⟩
  have e:b=c.heap.objs.size:=by simpa using m
  subst e
  exact d.fpOk (TR _) (d.hok.fresh (TR _))
end
structure Wk (K:Tv)(J:It)(src:Hm->Nat->Option (Option D))(π:Nat->Addr)(n:Nat)(H:Hp):Prop where
 stop:∀ π' μ H' i,Ext π n H π' μ.length H'->Rp K π' H' μ->src μ i=some none->J.stop i H'
 go:∀ π' μ H' i d,Ext π n H π' μ.length H'->Rp K π' H' μ->src μ i=some (some d)->J.go i H'/\∀ x H2,J.yld i H' x H2->Ext π' μ.length H' π' μ.length H2/\Rp K π' H2 μ/\IsD K π' μ.length H2 x d
noncomputable def jV (x:D):Hm->Nat->Option (Option D):=fun a i=>(bO a x).map fun xs=>xs[i]?
theorem Kb {K:Tv}{π:Nat->Addr}{E:Hm}{H:Hp}{v:V}{x:D}{xs:List D}(R:Rp K π H E)(h:IsD K π E.length H v x)(G:bO E x=some xs) :
  ∃ a,v=.ref a/\(((∃ b,SqL K H a b)/\Wk K (uS K a) (jV x) π E.length H)\/((∃ b,SqT K H a b)/\Wk K (uT K a) (jV x) π E.length H)):=by
 cases h with
 | @tup p b ds q t=>
  refine ⟨p,rfl,.inr ⟨⟨b,q⟩,⟨fun m l s i e n z=>?_,fun m l s i d e n z=>?_⟩⟩⟩
  ·simp only [jV,bO,Us] at z
   have j:ds[i]? = none:=T5 z
   exact ⟨b,e.sqT q,by rw [t.length];exact UO.mp j⟩
  ·simp only [jV,bO,Us] at z
   have j:ds[i]? = some d:=T5 z
   obtain ⟨w,c,o⟩:=t.get j
   refine ⟨⟨b,w,e.sqT q,c⟩,fun y L ⟨u,A⟩=>?_⟩
   subst u
   have:=A b (e.sqT q)
   rw [c] at this
   cases this
   exact ⟨.refl,n,o.mono e⟩
 | @rol p b ds q t=>
  refine ⟨p,rfl,.inl ⟨⟨b,q.sq⟩,⟨fun m l s i e n z=>?_,fun m l s i d e n z=>?_⟩⟩⟩
  ·simp only [jV,bO,Us] at z
   have j:ds[i]? = none:=T5 z
   exact ⟨b,(e.roL q).sq,by rw [t.length];exact UO.mp j⟩
  ·simp only [jV,bO,Us] at z
   have j:ds[i]? = some d:=T5 z
   obtain ⟨w,c,o⟩:=t.get j
   refine ⟨⟨b,w,(e.roL q).sq,c⟩,fun y L ⟨u,A⟩=>?_⟩
   subst u
   have:=A b (e.roL q).sq
   rw [c] at this
   cases this
   exact ⟨.refl,n,o.mono e⟩
 | @loc a N=>
  have hc:∃ b,H (π a)=some (.lst b):=by
   simp only [bO] at G
   split at G
   ·rename_i r B
    obtain ⟨b,c,_⟩:=R.lst a r B
    exact ⟨b,c⟩
   ·cases G
  obtain ⟨J,I⟩:=hc
  refine ⟨π a,rfl,.inl ⟨⟨J,.of I⟩,⟨fun m l s i e n z=>?_,fun m l s i d e n z=>?_⟩⟩⟩
  ·simp only [jV,bO] at z
   split at z
   ·rename_i r B
    obtain ⟨b,c,o⟩:=n.lst a r B
    rw [e.pi a N] at c
    have j:r[i]? = none:=T5 z
    exact ⟨b,.of c,by rw [o.length];exact UO.mp j⟩
   ·cases z
  ·simp only [jV,bO] at z
   split at z
   ·rename_i r B
    obtain ⟨b,c,o⟩:=n.lst a r B
    rw [e.pi a N] at c
    have j:r[i]? = some d:=T5 z
    obtain ⟨w,M,O⟩:=o.get j
    refine ⟨⟨b,w,.of c,M⟩,fun y L ⟨u,A⟩=>?_⟩
    subst u
    have:=A b (.of c)
    rw [M] at this
    cases this
    exact ⟨.refl,n,O⟩
   ·cases z
 | _=>cases G
noncomputable def eK (a:Hm->Nat->Option (Option D))(g:MG)(b:MS):Nat->Nat->MS
 | 0,_,_,_=>none
 | n+1,i,ρ,μ=>(a μ i).bind fun o=>match o with
  | none=>some (.nx,ρ,μ)
  | some d=>(g d ρ μ).bind fun c=>(b c μ).bind fun p=>match p.1 with
   | .nx=>eK a g b n (i+1) p.2.1 p.2.2
   | .ct=>eK a g b n (i+1) p.2.1 p.2.2
   | .bk=>some (.nx,p.2.1,p.2.2)
   | .rt d=>some (.rt d,p.2.1,p.2.2)
theorem Kc {K:Tv}{J:It}{B:Hm->Nat->Option (Option D)}{g:MG}{b:MS}{π:Nat->Addr}{Q:Nat}{O:Hp}(W:Wk K J B π Q O){E:Ends}{A:Fl}{p:aF}{j:Hm}(hE:lW K E π Q O A p j)
  {G:Nat->Addr}{u:Hm}{H1:Hp}{T:aF}{σ1:St}{n:Nat}(e1:Ext π Q O G u.length H1)(R1:Rp K G H1 u)(E1:En K G u.length H1 σ1 T)(h:eK B g b n 0 T u=some (A,p,j)) :
  ∃ Wd:Nat->Nat->St->Hp->Prop,(∃ m,Wd 0 m σ1 H1)/\∀ i m X H,Wd i m X H->
   (J.stop i H/\E.nx X H)\/(J.go i H/\∃ N:St->Hp->Prop,(∀ w s,N w s->∃ m',m'<m/\Wd (i+1) m' w s)/\∀ x s,J.yld i H x s->fB K g x X s fun σ2 H2=>cY K b { E with nx:=N,ct:=N,bk:=E.nx } σ2 H2):=by
 have lift:∀ {a:Nat->Addr}{n2:Nat}{H2:Hp}(e:Ext π Q O a n2 H2){A:Fl}{p:aF}{j:Hm},lW K E π Q O A p j->lW K E a n2 H2 A p j:=fun {a n2 H2} e {A p j} k=>by
  cases A with
  | nx=>exact fun v r H3 e3 R3 M=>k v r H3 (e.trans e3) R3 M
  | bk=>exact fun v r H3 e3 R3 M=>k v r H3 (e.trans e3) R3 M
  | ct=>exact fun v r H3 e3 R3 M=>k v r H3 (e.trans e3) R3 M
  | rt d=>exact KC.after k e
 refine ⟨fun i m X H=>∃ a l I,Ext π Q O a l.length H/\Rp K a H l/\En K a l.length H X I/\eK B g b m i I l=some (A,p,j),⟨n,G,u,T,e1,R1,E1,h⟩,?_⟩
 rintro i m X H ⟨a,l,I,z,R2,E2,h2⟩
 cases m with
 | zero=>cases h2
 | succ m=>
  obtain ⟨o,h3,h4⟩:=Tu.mp h2
  cases o with
  | none=>
   cases h4
   exact .inl ⟨W.stop a _ H i z R2 h3,hE a X H z R2 E2⟩
  | some d=>
   obtain ⟨g1,g2⟩:=W.go a l H i d z R2 h3
   obtain ⟨ρ3,h5,h6⟩:=Tu.mp h4
   obtain ⟨⟨f4,U,R⟩,h7,h8⟩:=Tu.mp h6
   refine .inr ⟨g1,fun w s=>∃ c L q,Ext π Q O c q.length s/\Rp K c s q/\En K c q.length s w L/\eK B g b m (i+1) L q=some (A,p,j),
    fun w s ⟨c,L,q,a1,a2,a3,a4⟩=>⟨m,VG _,c,q,L,a1,a2,a3,a4⟩,fun x s y=>?_⟩
   obtain ⟨ex,Rx,hx⟩:=g2 x s y
   have z:=z.trans ex
   refine ⟨a,I,l,d,ρ3,Rx,E2.mono ex,hx,h5,fun r M=>⟨a,ρ3,l,f4,U,R,Rx,M,h7,?_⟩⟩
   cases f4 with
   | nx=>exact fun c Y H5 e5 R5 Z=>⟨c,U,R,z.trans e5,R5,Z,h8⟩
   | ct=>exact fun c Y H5 e5 R5 Z=>⟨c,U,R,z.trans e5,R5,Z,h8⟩
   | bk=>
    cases h8
    exact fun c Y H5 e5 R5 Z=>hE c Y H5 (z.trans e5) R5 Z
   | rt d'=>
    cases h8
    exact KC.after hE z
section
variable {X:Cx}{pos:Vt}{tg iter:Expr}{body:List Stmt}{mi:ME}{g:MG}{mb:MS}
noncomputable def gA (lo:Int)(n:Nat):Hm->Nat->Option (Option D):=fun _ i=>some (if i<n then some (.int (lo+i)) else none)
theorem BH {K:Tv}{lo:Int}{k:Nat}{π:Nat->Addr}{n:Nat}{H:Hp}:Wk K (kL lo k) (gA lo k) π n H:=by
 refine ⟨fun b m c i e R z=>?_,fun b m c i d e R z=>?_⟩
 ·have a:=T5 z
  split at a
  ·cases a
  ·exact Xq.mp (by assumption)
 ·have a:=T5 z
  split at a
  ·cases a
   rename_i h
   exact ⟨h,fun x o ⟨j,l⟩=>by subst j;rw [l];exact ⟨.refl,R,.int _⟩⟩
  ·cases a
end
end L3
namespace L3
open PySem L2
noncomputable def nH (y:Str):Str:="#"++y
noncomputable def bG (xs N:List Str):List Str:=N.map fun y=>if xs.contains y then nH y else y
theorem l6 (xs N:List Str):(bG xs N).length=N.length:=by unfold bG;simp
theorem Kd {xs N:List Str}{i:Nat}{y:Str}(h:(bG xs N)[i]? = some y):∃ a,N[i]? = some a/\((xs.contains a=true/\y=nH a)\/(xs.contains a=false/\y=a)):=by
 unfold bG at h
 rw [Um] at h
 obtain ⟨a,c,b⟩:=Tz.mp h
 refine ⟨a,c,?_⟩
 cases hc:xs.contains a with
 | true=>rw [hc] at b;exact .inl ⟨rfl,by simpa using b.symm⟩
 | false=>rw [hc] at b;exact .inr ⟨rfl,by simpa using b.symm⟩
noncomputable def cG (X:Cx)(scope:VY)(a:List (Str×Addr))(C:Addr)(N:List Str)(s₀:TC)(H₀:Hp)(b:List Addr):Cx:=
 { X with N:=N,s₀:=s₀,H₀:=H₀,env:=Xm scope a C X.env,outer:=X.stack,stack:=X.stack,ex:=b,fn:=fun _=>false,pn:=[],xe:=fun _ _=>False }
theorem BI {env:XU}:∀ (names:List (Str×Wh))(x:Str),(names.map fun (n,k)=>if (k == VZ&&env.scope.kind == .function&&env.kindOf n == some .cell) then (n,Wb) else (n,k)).lookup x
  = (names.lookup x).map fun k=>if (k == VZ&&env.scope.kind == .function&&env.kindOf x == some .cell) then Wb else k
 | [],_=>rfl
 | (n,k)::r,x=>by
  have c:=BI (env:=env) r x
  rw [TM]
  by_cases b:x=n
  ·subst b
   have key:∀ (k':Wh)(l:List (Str×Wh)),VU x ((x,k')::l)=some k':=fun k' l=>by simp [Xk]
   rw [key]
   show VU x ((if (k == VZ&&env.scope.kind == .function&&env.kindOf x == some .cell)=true then (x,Wb) else (x,k))::_)=some (if (k == VZ&&env.scope.kind == .function&&env.kindOf x == some .cell)=true then Wb else k)
   split
   ·rw [key]
   ·rw [key]
  ·have a:(x == n)=false:=by simpa using b
   have key:∀ (k':Wh)(l:List (Str×Wh)),VU x ((n,k')::l)=VU x l:=fun k' l=>by simp only [Xk,a]
   rw [key]
   show VU x ((if (k == VZ&&env.scope.kind == .function&&env.kindOf n == some .cell)=true then (n,Wb) else (n,k))::_)=_
   split
   ·rw [key]
    exact c
   ·rw [key]
    exact c
structure CompOk (X:Cx)(scope:VY)(cl:List (Str×Addr))(xs:List Str):Prop where
 clos:a2h scope X.env=pure cl
 nocell:∀ y∈scope.names,y.2≠.cell
 kind:scope.kind=.function
 names:∀ y∈scope.names,y.2=.local->scope.names.lookup y.1=some .local
 here:∀ x∈xs,scope.names.lookup x=some .local
 sub:∀ y c,cl.lookup y=some c->X.env.cells.lookup y=some c
 free:∀ y,scope.names.lookup y=some .free->(X.env.kindOf y=some .cell\/X.env.kindOf y=some .free)/\∃ c,cl.lookup y=some c
 own:∀ y,scope.names.lookup y=some .local->y∉bG xs X.N
 hidn:∀ y∈X.N,xs.contains y=true->scope.names.lookup (nH y)=none
section
variable {X:Cx}{scope:VY}{cl:List (Str×Addr)}{xs:List Str}
theorem CompOk.kindOf (O:CompOk X scope cl xs)(C:Addr)(y:Str):(Xm scope cl C X.env).kindOf y=(scope.names.lookup y).map fun k=>if (k == VZ&&X.env.scope.kind == .function&&X.env.kindOf y == some .cell) then Wb else k:=
 BI scope.names y
theorem CompOk.outer (O:CompOk X scope cl xs){C:Addr}{y:Str}(h:(Xm scope cl C X.env).kindOf y=some .cell\/(Xm scope cl C X.env).kindOf y=some .free):scope.names.lookup y=some .free:=by
 rw [O.kindOf] at h
 cases q:scope.names.lookup y with
 | none=>rw [q] at h;rcases h with h|h<;>cases h
 | some k=>
  rw [q] at h
  cases k with
  | free=>rfl
  | cell=>exact absurd rfl (O.nocell _ (Vf q))
  | «local»=>rcases h with h|h<;>simp at h
  | globalExplicit=>rcases h with h|h<;>simp at h
  | globalImplicit=>rcases h with h|h<;>simp at h
theorem CompOk.inv {a3F:List (Addr×Obj)}{σ:St}{H:Hp}{s:TC}{Y:List Addr}{d:UU}{tk:Nat}(O:CompOk X scope cl xs)(I:Inv X a3F σ H s)(E:∀ b∈Y,gQ X a3F H b)(hob:∀ b∈Y,∃ o,s.heap.get? b=some o){m:Str->Option Value}
  (hns:d.Ns s.heap.objs.size m)(N:∀ b o,s.heap.get? b=some o->d.get? b=some o) :
  Inv (cG X scope cl s.heap.objs.size (bG xs X.N++xs) s H Y) [] (σ++VL xs.length none) H { s with heap:=d,toks:=tk }:=by
 refine ⟨⟨I.ok.mod,O.kind,I.ok.glob,I.ok.blt,TR _,fun y z c Z B=>?_,fun y hy=>?_,(fun y c h=>by cases h),I.ok.hd,I.ok.frames,.inl rfl,fun b J=>?_,fun b o e=>I.bs b o e,UT I.ok.bsz I.sz,fun b o e J=>?_,fun b J hb2=>?_,I.stack,I.stkFree⟩,
  rfl,I.bare,Un.kept N,⟨m,hns,fun i y v Z B x=>?_⟩,fun y c h=>?_,I.hok.fresh (TR _),fun y c h=>I.freeC y c (O.sub y c h),fun p hp=>absurd (show p∈([]:List (Addr×Obj)) from hp) (by simp),I.hok.kept N,?_⟩
 ·exact I.ok.inj y z c (O.sub y c Z) (O.sub z c B)
 ·exact (O.free y (O.outer hy)).2
 ·obtain ⟨f0,R,T,A,U,f5⟩:=E b J
  obtain ⟨o,M⟩:=hob b J
  exact ⟨Ui (T3 M),fun y c h=>U y c (O.sub y c h)⟩
 ·obtain ⟨f0,R,T,A,U,f5⟩:=E b J
  rcases A with A|A
  ·exact I.ok.noex b o e A
  ·exact absurd (Uj (T3 (I.ok.bs b o e).1) A) (V3 _)
 ·obtain ⟨f0,R,T,A,U,f5⟩:=E b J
  rcases Uq.mp (I.stkSub b hb2) with z|z
  ·exact R z
  ·exact T z
 ·have L:i<σ.length:=by
   by_cases L:i<σ.length
   ·exact L
   ·rw [UK (Xq.mp L),Wi] at B
    split at B<;>cases B
  rw [Uc L] at B
  have K:(bG xs X.N)[i]? = some y:=by
   have w:(bG xs X.N++xs)[i]? = some y:=Z
   rw [Uc (by rw [l6,<- I.len];exact L)] at w
   exact w
  have n:scope.names.lookup y≠some .local:=fun z=>O.own y z (UM K)
  have G:=O.kindOf s.heap.objs.size y
  have h1':X.N[i]? = some y:=by
   obtain ⟨y0,q1,Q⟩:=Kd K
   rcases Q with ⟨Q,q3⟩|⟨Q,q3⟩
   ·exfalso
    have hz:=O.hidn y0 (UM q1) Q
    rw [<- q3] at hz
    rw [hz] at G
    have a:(Xm scope cl s.heap.objs.size X.env).kindOf y=some .local\/(Xm scope cl s.heap.objs.size X.env).kindOf y=some .cell\/(Xm scope cl s.heap.objs.size X.env).kindOf y=some .free:=x
    rw [G] at a
    rcases a with a|a|a<;>cases a
   ·rw [q3];exact q1
  have a:(Xm scope cl s.heap.objs.size X.env).kindOf y=some .cell\/(Xm scope cl s.heap.objs.size X.env).kindOf y=some .free:=by
   rcases x with x|x|x
   ·exfalso
    have a:(Xm scope cl s.heap.objs.size X.env).kindOf y=some .local:=x
    rw [G] at a
    cases q:scope.names.lookup y with
    | none=>rw [q] at a;cases a
    | some k=>
     rw [q] at a
     cases k with
     | «local»=>exact n q
     | cell=>simp at a
     | free=>
      simp only [Us] at a
      split at a<;>cases a
     | globalExplicit=>simp at a
     | globalImplicit=>simp at a
   ·exact .inl x
   ·exact .inr x
  obtain ⟨j,c,hc⟩:=O.free y (O.outer a)
  obtain ⟨m0,hn0,hl0⟩:=I.loc
  obtain ⟨u,r,l⟩:=hl0 i y v h1' B (by rcases j with j|j;exact .inr (.inl j);exact .inr (.inr j))
  refine ⟨u,r,.inr ⟨a,c,hc,?_⟩⟩
  rcases l with ⟨lk,_⟩|⟨_,c',e',z⟩
  ·exfalso
   rcases j with j|j
   ·rw [j] at lk;cases lk
   ·rw [j] at lk;cases lk
  ·rw [O.sub y c hc] at e'
   cases e'
   obtain ⟨o,M,hd⟩:=z
   exact ⟨o,N c o M,hd⟩
 ·obtain ⟨v,q⟩:=I.cell y c (O.sub y c h)
  exact ⟨v,by obtain ⟨o,M,hd⟩:=q;exact ⟨o,N c o M,hd⟩⟩
 ·show (σ++VL xs.length none).length=(bG xs X.N++xs).length
  rw [TV,TV,I.len,V8,l6]
theorem CompOk.back {a3F pl:List (Addr×Obj)}{σ E:St}{H H':Hp}{s i:TC}{j:List Addr}{h':UU}{N:List Str}(I:Inv X a3F σ H s)(x:∀ b∈j,gQ X a3F H b)
  (J:Inv (cG X scope cl s.heap.objs.size N s H j) pl E H' i)(p:∀ b o,b≠s.heap.objs.size->i.heap.get? b=some o->h'.get? b=some o):Inv X a3F σ H' { i with heap:=h' }:=by
 have u:Un (dB X.stack) j H H' s.heap h':=by
  have h:Un (dB X.stack) j H H' s.heap i.heap:=J.base
  have ne:∀ b o,s.heap.get? b=some o->b≠s.heap.objs.size:=fun b o e=>Ui (T3 e)
  refine ⟨fun b o e n l m=>p b o (ne b o e) (h.keep b o e n l m),fun b o e n l m=>?_,h.free,fun b o e m=>?_,h.tups,h.frzs,h.tbls⟩
  ·obtain ⟨Q,q⟩:=h.slot b o e n l m
   exact ⟨Q,p b _ (ne b o e) q⟩
  ·obtain ⟨O,q⟩:=h.there b o e m
   exact ⟨O,p b _ (ne b o e) q⟩
 have a:H' s.heap.objs.size=none:=J.free
 have hok:HOk X.prog X.w H' h':=fun b v e=>by
  refine (J.hok b v e).stay (fun c w hc q=>p c w ?_ q) (fun _ q=>q) fun _ _ q=>q
  rcases hc with z|z
  ·rw [z]
   intro B
   rw [B,a] at e
   cases e
  ·intro B
   rw [B,a] at z
   cases z
 have y:i.os=s.os:=J.os
 obtain ⟨U,g,d,t,A⟩:=i
 obtain rfl:A=s.os:=y
 have r:=Inv.call (X:=X) (a3F:=a3F) (σ:=σ) (H:=H) (s:=s) (h':=h') (g':=g) (d':=d) (t':=t) (ch:=j) I u hok J.bare fun b l=>let ⟨R,G,T,K,L,M⟩:=x b l;⟨K,G,L,M⟩
 exact r
end
theorem Ke {prog:Ud}{w:Uv}{A:Ur}{R:a0l->TC->Prop}{s:TC}{elt a iter:Expr}{ifs:List Expr}{scope:VY}{pos:Vt}{H u:Value}{env:XU}(I:Nat->TC->Prop)
  (G:∀ n s,I n s->Ua (Ul prog w) A (ZE H) (fun r d=>match r with
   | none=>R (.ok .next) d
   | some v=>Ua (Ul prog w) A (YB a H v) (fun _ e=>Ua (Ul prog w) A (Zd a env v) (fun _ o=>
     Ua (Ul prog w) A (forIn ifs true fun c r=>if r=true then do let ok <- ZH c env (eval c env);pure (WK ok) else pure (WK r)) (fun ok i=>
      if ok=true then Ua (Ul prog w) A (eval elt env) (fun x p=>
       Ua (Ul prog w) A (call (.builtin "list.append") [u,x]) (fun _ q=>∃ m,m<n/\I m q) (fun _ _=>False) p) (fun _ _=>False) i
      else ∃ m,m<n/\I m i) (fun _ _=>False) o) (fun _ _=>False) e) (fun _ _=>False) d) (fun _ _=>False) s)
  (n:Nat)(h:I n s) :
  XF (Ul prog w) A (.compLoop (.ListComp elt [⟨a,iter,ifs,0⟩] scope pos) 0 H u env) R s:=by
 refine codeAny_loop rfl I (fun n s J=>?_) n h
 show Ua _ A ((compTurn (.ListComp elt [⟨a,iter,ifs,0⟩] scope pos) 0 H u env).onRaise (fun x=>do ZG x env;theTreesLotGoes x)) _ _ s
 refine wpAny_noted ?_
 rw [compTurn_list]
 refine Tx (a0C (Tx (UH (G n s J) (fun r d j=>?_) fun _ _ b=>b.elim)))
 cases r with
 | none=>exact TN j
 | some v=>
  refine Tx (UH j (fun _ e y=>?_) fun _ _ b=>b.elim)
  refine Tx (UH y (fun _ o z=>Tx (UH z (fun ok i l=>?_) fun _ _ b=>b.elim)) fun _ _ b=>b.elim)
  cases ok with
  | false=>exact TN ⟨rfl,l⟩
  | true=>
   exact Tx (Tx (UH l (fun x p B=>Tx (UH B (fun _ q E=>TN (TN ⟨rfl,E⟩)) fun _ _ b=>b.elim)) fun _ _ b=>b.elim))
noncomputable def nI (b:Hm)(a:Nat)(y:D):Option Hm:=match b[a]? with
 | some (.lst xs)=>if xs.length<TZ then some (b.set a (.lst (xs++[y]))) else none
 | _=>none
noncomputable abbrev BD:=D->Hm->Option aF
noncomputable def nJ:BD:=fun d _=>some [some d]
noncomputable def BJ (k:Nat):BD:=fun d a=>(bO a d).bind fun xs=>if xs.length=k then some (xs.map some) else none
noncomputable def jW (a:Hm->Nat->Option (Option D))(j:BD)(c:MT)(e:ME)(b:aF)(h:Nat):Nat->Nat->Hm->Option Hm
 | 0,_,_=>none
 | n+1,i,μ=>(a μ i).bind fun o=>match o with
  | none=>some μ
  | some d=>(j d μ).bind fun x=>(c (b++x) μ).bind fun p=>match p.1 with
   | true=>(e (b++x) p.2).bind fun q=>(nI q.2 h q.1).bind fun l=>jW a j c e b h n (i+1) l
   | false=>jW a j c e b h n (i+1) p.2
noncomputable def i0:MT:=fun _ a=>some (true,a)
noncomputable def l7 (X:Cx)(ifs:List Expr)(m:MT):Prop:=
 ∀ (a3F:List (Addr×Obj))(s:TC)(σ:St)(H:Hp)(Q:Bool->Hp->Prop),Inv X a3F σ H s->cW X.K m σ H Q->
  Ua (Ul X.prog X.w) X.A (forIn ifs true fun c r=>if r=true then do let ok <- ZH c X.env (eval c X.env);pure (WK ok) else pure (WK r)) (TP X a3F σ Q) X.xe s
theorem Kf {X:Cx}:l7 X [] i0:=by
 intro a s l H Q I h
 obtain ⟨e,j,i,b,d,R,E,c,k⟩:=h
 cases c
 exact wpAny_tests_nil ⟨H,I,k e H .refl R⟩
theorem Kg {X:Cx}{c:Expr}{m:MT}(h:PT X c (cW X.K m)):l7 X [c] m:=fun a3F s σ H Q I q=>wpAny_tests_one (h a3F s σ H Q I q)
end L3
namespace L3
open PySem L2
section
variable {prog:Ud}{w:Uv}{A:Ur}{E:Value->TC->Prop}{s:TC}
theorem BK {h t:Addr}{a:Array Value}(l:t≠h):∀ (n i:Nat)(s:TC)(Q:List Value->TC->Prop),s.heap.IsListIter h t i->s.heap.IsList t a->i+n<=a.size->
  (∀ o,o.IsListIter h t (i+n)->VT h s.heap o->Q ((a.toList.drop i).take n) { s with heap:=o })->Ua (Ul prog w) A (draw (.ref h) n) Q E s
 | 0,i,s,Q,hit,_,_,hQ=>by
  show Ua _ _ (pure []) Q E s
  exact TN (by simpa using hQ s.heap hit (a3k ..))
 | n+1,i,s,Q,hit,ht,hle,hQ=>by
  have j:i<a.size:=by omega
  show Ua _ _ (ZE (.ref h) >>= _) Q E s
  refine Tx (a0W hit ht (x:=a[i]) (by simp [j]) fun p c b=>?_)
  refine Tx (VW (BK l n (i+1) _ _ c (ht.extBut b.extBut l) (by omega) fun m d e=>TN ?_))
  have hd:a.toList.drop i=a[i]::a.toList.drop (i+1):=by simp [ZQ,j]
  have:=hQ m (by rw [show i+(n+1)=i+1+n by omega];exact d) (b.trans e)
  rw [hd,List.take_succ_cons] at this
  exact this
theorem Kh {t:Addr}{a:Array Value}{Q:List Value->TC->Prop}(v:A.handled=none)(m:s.heap.IsList t a)
  (u:∀ q,Zh s.heap.objs.size s.heap q->Q a.toList { s with heap:=q }):Ua (Ul prog w) A (unpackItems (.ref t) a.size none) Q E s:=by
 have l:t≠s.heap.objs.size:=by obtain ⟨o,x,_⟩:=m;exact Ui (T3 x)
 unfold unpackItems
 refine Tx ?_
 ·unfold notIterableAtAll
  refine Tx (W4 m.typeIs slot_list_iter.lookup ?_)
  refine TN ?_
  simp only [TY,if_false]
  refine Tx (VW (a2s m ?_))
  refine Tx (VW (BK l a.size 0 _ _ ⟨_,Ub _ rfl,rfl,rfl⟩ (m.push _) (by omega) fun n d c=>?_))
  have j:List.take a.size (List.drop 0 a.toList)=a.toList:=by
   rw [List.drop_zero];exact Z8 (by simp)
  rw [j]
  rw [if_neg (by simp)]
  have i:n.IsList t a:=(m.push _).extBut c.extBut l
  refine Tx (VW (a1t v d i (by simp) fun p h=>?_))
  simp only [Option.isSome_none,TY,if_false]
  refine TN (u p fun b o r e=>h b o r (c.extBut b o r (TL _ e)))
theorem Ki {env:XU}{b:List Expr} {x1} {pos:Vt}{t:Addr}{a:Array Value}{Q:Unit->TC->Prop}(e:A.handled=none)(j:s.heap.IsList t a)
  (i:(V2 b env).length=a.size)(c:(V2 b env).findIdx? (·.1)=none)
  (h:∀ d,Zh s.heap.objs.size s.heap d->Ua (Ul prog w) A (assignInOrder ((V2 b env).map (·.2)) a.toList) Q E { s with heap:=d }) :
  Ua (Ul prog w) A (Zd (.Tuple b x1 pos) env (.ref t)) Q E s:=by
 rw [a3h]
 refine Tx (a0C ?_)
 unfold unpack
 rw [i,c]
 exact Tx (VW (Kh e j h))
end
noncomputable def iF:aF->List Nat->List D->aF
 | ρ,i::is,x::xs=>iF (ρ.set i (some x)) is xs
 | ρ,_,_=>ρ
noncomputable def eL (a:List Nat):MG:=fun d c b=>(bO b d).bind fun xs=>if xs.length=a.length then some (iF c a xs) else none
noncomputable def r9:List Nat->m3
 | []=>Ap
 | i::r=>Aq (uR i) (r9 r)
theorem wD {K:Tv}{π:Nat->Addr}{n:Nat}{H:Hp}:∀ (a:List Nat){vs:List V}{xs:List D}{σ:St}{c:aF}{Q:St->Hp->Prop},IsDs K π n H vs xs->En K π n H σ c->xs.length=a.length->(∀ b,En K π n H b (iF c a xs)->Q b H)->r9 a vs σ H Q
 | [],vs,xs,σ,c,Q,h,E,hl,k=>by
  cases h with
  | nil=>exact ⟨rfl,k σ E⟩
  | cons h t=>cases hl
 | i::a,vs,xs,σ,c,Q,h,E,hl,k=>by
  cases h with
  | nil=>cases hl
  | cons h t=>exact ⟨_,_,rfl,wD a t (E.set h i) (by simpa using hl) k⟩
section
variable {X:Cx}{pos:Vt}
theorem Kj {y:List Expr}{k:Nat}{m:List Nat}(hc:X.calm=true)(h:oZ X y (r9 m))(N:(V2 y X.env).length=m.length:=by rfl)(w:(V2 y X.env).findIdx? (·.1)=none:=by rfl) :
  PG X (.Tuple y k pos) (fB X.K (eL m)):=by
 intro j s A H v u Q I r hw
 obtain ⟨U,ρ,T,d,ρ',R,E,hd,hm,O⟩:=hw
 obtain ⟨M,l,J⟩:=Tu.mp hm
 split at J
 ·rename_i z
  cases J
  have p:(∃ a i,v=.ref a/\SqT X.K H a i/\IsDs X.K U T.length H i M)\/(∃ a i,v=.ref a/\SqL X.K H a i/\IsDs X.K U T.length H i M):=by
   cases hd with
   | tup q t=>cases l;exact .inl ⟨_,_,rfl,q,t⟩
   | rol q t=>cases l;exact .inr ⟨_,_,rfl,q.sq,t⟩
   | @loc a ha=>
    simp only [bO] at l
    split at l
    ·rename_i ys hy
     cases l
     obtain ⟨i,Y,Z⟩:=R.lst a M hy
     exact .inr ⟨_,i,rfl,.of Y,Z⟩
    ·cases l
   | _=>cases l
  rcases p with ⟨a,i,rfl,q,t⟩|⟨a,i,rfl,q,t⟩
  ·cases r
   obtain ⟨n,x,K,hz⟩:=I.tuple q
   have c:n.length=m.length:=by rw [<- x.length,t.length];exact z
   refine a3g (I.ok.hd hc) K (by simp [N,c]) w fun G L=>?_
   have B:Inv X j A H { s with heap:=G }:=I.kept (t':=s.toks) fun b o e=>L b o (Ui (T3 e)) e
   exact h j _ A H i _ Q B (by simpa using x) (wD m t E z O)
  ·cases r
   obtain ⟨n,x,K,hz⟩:=I.list q
   have c:n.length=m.length:=by rw [<- x.length,t.length];exact z
   refine Ki (I.ok.hd hc) K.isList (by simp [N,c]) w fun G L=>?_
   have B:Inv X j A H { s with heap:=G }:=I.kept (t':=s.toks) fun b o e=>L b o (Ui (T3 e)) e
   exact h j _ A H i _ Q B (by simpa using x) (wD m t E z O)
 ·cases J
noncomputable def jX (m:ME)(g:MG):MS:=fun b c=>(m b c).bind fun p=>(g p.1 b p.2).map fun a=>(.nx,a,p.2)
theorem Kk {tg e:Expr}{m:ME}{g:MG}(r:PE X e (tM X.K m))(s:PG X tg (fB X.K g))(u:swapsWithSole [tg] e pos.line X.env=pure false:=by rfl)(hw:a0E [tg] e X.env=pure none:=by rfl)
  (c:(V2 [tg] X.env).map (·.2)=[Zd tg X.env]:=by rfl):PS X (.Assign [tg] e pos) (cY X.K (jX m g)):=iD (GV r s u hw c) (by
 rintro E J H ⟨z,n,w,G,A,y,R,i,a,k⟩
 obtain ⟨⟨x,d⟩,c,a⟩:=Tu.mp a
 obtain ⟨B,q,a⟩:=Tz.mp a
 cases a
 exact ⟨z,n,w,x,d,R,i,c,fun b I p l j v=>⟨b,n,_,x,_,j,i.mono l,v,q,fun h o=>k b h p l j o⟩⟩)
end
section
variable {X:Cx}{K:Tv}
noncomputable def pO:MF:=fun ds a=>match ds with
 | [.str z]=>if z.length<=TZ then some (.int z.length,a) else none
 | [x]=>(bO a x).map fun b=>(.int b.length,a)
 | _=>none
noncomputable def wF (K:Tv):List V->Hp->VK->Prop:=fun xs H Q=>(∃ p a,xs=[.ref p]/\(SqL K H p a\/SqT K H p a)/\Q (.int a.length) H)\/(∃ z,xs=[.str z]/\z.length<=TZ/\Q (.int z.length) H)
theorem call_lenM:CallR X (.builtin "len") (wF X.K):=call_len_seq.or Iq
theorem pP {π:Nat->Addr}{b:Hm}{H:Hp}{v:V}{x:D}{xs:List D}(R:Rp K π H b)(h:IsD K π b.length H v x)(e:bO b x=some xs):∃ p vs,v=.ref p/\(SqL K H p vs\/SqT K H p vs)/\IsDs K π b.length H vs xs:=by
 cases h with
 | tup q t=>cases e;exact ⟨_,_,rfl,.inr q,t⟩
 | rol q t=>cases e;exact ⟨_,_,rfl,.inl q.sq,t⟩
 | @loc a j=>
  simp only [bO] at e
  split at e
  ·rename_i l i
   cases e
   obtain ⟨vs,c,d⟩:=R.lst a xs i
   exact ⟨_,vs,rfl,.inl (.of c),d⟩
  ·cases e
 | _=>cases e
theorem BL:eJ K pO (wF K):=by
 intro b H r n d l m Q R i a k
 unfold pO at a
 split at a
 ·split at a
  ·rename_i h
   cases a
   cases i with
   | cons i t=>cases i;cases t;exact .inr ⟨_,rfl,h,k b _ H .refl R (.int _)⟩
  ·cases a
 ·obtain ⟨o,c,e⟩:=Tz.mp a
  cases e
  cases i with
  | cons i t=>
   cases t
   obtain ⟨p,j,rfl,q,hd⟩:=pP R i c
   refine .inl ⟨p,j,rfl,q,?_⟩
   rw [hd.length]
   exact k b _ H .refl R (.int _)
 ·cases a
noncomputable def pQ:MF:=fun ds a=>match ds with
 | [x]=>(bO a x).map fun b=>(.loc a.length,a++[.lst b])
 | _=>none
theorem BM:eJ K pQ (fun xs H Q=>∃ p a,xs=[.ref p]/\(SqL K H p a\/SqT K H p a)/\∀ l,H l=none->Q (.ref l) (aL H l (.lst a))):=by
 intro s H r xs d n o Q R i b k
 unfold pQ at b
 split at b
 ·obtain ⟨a,h,j⟩:=Tz.mp b
  cases j
  cases i with
  | cons i t=>
   cases t
   obtain ⟨p,c,rfl,q,hd⟩:=pP R i h
   refine ⟨p,c,rfl,q,fun l m=>?_⟩
   obtain ⟨e,R2,_⟩:=R.alloc (c:=.lst a) (o:=.lst c) m hd
   exact k _ _ _ e R2 jS
 ·cases b
noncomputable def BN (K:Tv):List V->Hp->VK->Prop:=fun vs H Q=>∃ π a x v t c b,vs=[v,.ty c]/\Rp K π H a/\IsD K π a.length H v x/\rZ a x=some t/\r8 t c=some b/\Q (.bl b) H
theorem Kl:eJ K f9 (BN K):=by
 intro c H q p d n o Q R i a k
 unfold f9 at a
 split at a
 ·obtain ⟨t,e,a⟩:=Tu.mp a
  obtain ⟨b,h,a⟩:=Tz.mp a
  cases a
  cases i with
  | cons i l=>
   cases l with
   | cons j m=>
    cases m
    cases j
    exact ⟨c,_,_,_,t,_,b,rfl,R,i,e,h,k c _ H .refl R (.bl _)⟩
 ·cases a
theorem Km:CallR X (.builtin "isinstance") (BN X.K):=by
 intro J s σ H O us Q I r h
 obtain ⟨M,μ,x,v,t,c,b,rfl,R,i,d,l,q⟩:=h
 obtain ⟨u,u2,rfl,w,Y⟩:=u5 r
 cases Y
 have aV:∀ L,EP X J σ Q (.bool b) { s with toks:=L }:=fun L=>⟨.bl b,H,I.tok L,rfl,q⟩
 cases i with
 | non=>cases d;cases w;exact VJ PySem.W.kitx_none I.kIn We (jU X.K (by simp) l) (fun z=>nomatch z) aV
 | bl y=>cases d;cases w;exact VJ PySem.W.kitx_bool I.kIn We (jU X.K (by simp) l) (fun z=>nomatch z) aV
 | int y=>cases d;obtain ⟨t,rfl⟩:=w;exact VJ PySem.W.kitx_int I.kIn We (jU X.K (by simp) l) (fun z=>nomatch z) aV
 | str y=>cases d;obtain ⟨t,rfl⟩:=w;exact VJ PySem.W.kitx_str I.kIn We (jU X.K (by simp) l) (fun z=>nomatch z) aV
 | tup g t=>
  cases d
  cases w
  obtain ⟨E,N,p,_⟩:=I.tuple g
  obtain ⟨o,e,j,_⟩:=p
  exact VJ PySem.W.kitx_tuple I.kIn ⟨o,e,j⟩ (jU X.K (by simp) l) (fun z=>nomatch z) aV
 | rol g t=>
  cases d
  cases w
  obtain ⟨E,N,p,_⟩:=I.list g.sq
  obtain ⟨o,e,j,_⟩:=p.isList
  exact VJ a0u I.kIn ⟨o,e,j⟩ (jU X.K (by simp) l) (fun z=>nomatch z) aV
 | @loc a ha=>
  cases w
  simp only [rZ] at d
  split at d
  ·rename_i O B
   cases d
   obtain ⟨G,A,h4⟩:=R.lst a O B
   obtain ⟨E,N,p,_⟩:=I.list (SqL.of (K:=X.K) A)
   obtain ⟨o,e,j,_⟩:=p.isList
   exact VJ a0u I.kIn ⟨o,e,j⟩ (jU X.K (by simp) l) (fun z=>nomatch z) aV
  ·rename_i m B
   cases d
   obtain ⟨G,A,_⟩:=R.dK a m B
   obtain ⟨_,_,Z,_,p⟩:=(show ObjOk X.prog X.w H s.heap (M a) (.dK G) from I.hok _ _ A)
   obtain ⟨o,U,T,e,j,_⟩:=p
   exact VJ a0v I.kIn ⟨o,e,j.1⟩ (jU X.K (by simp) l) (fun z=>nomatch z) aV
  ·rename_i m B
   cases d
   obtain ⟨G,A,_⟩:=R.dT a m B
   obtain ⟨⟨Z,_,_,_,o,U,T,e,j,_⟩,_⟩:=(show ObjOk X.prog X.w H s.heap (M a) (aW (M a) G) from I.hok _ _ A)
   exact VJ a0v I.kIn ⟨o,e,j.1⟩ (jU X.K (by simp) l) (fun z=>nomatch z) aV
  ·cases d
 | ty n=>cases d
end
noncomputable def wG (a:List (aM×D))(k:aM)(d:D):List (aM×D):=
 if (a.any fun b=>decide (b.1=k))=true then a.map (fun b=>if b.1=k then (b.1,d) else b) else a++[(k,d)]
noncomputable def Kn (b more:List (aM×D)):List (aM×D):=more.foldl (fun a c=>wG a c.1 c.2) b
noncomputable def nK (a:List (aM×D))(k:aM):Option D:=(a.find? fun b=>decide (b.1=k)).map (·.2)
inductive IsKs (K:Tv)(π:Nat->Addr)(n:Nat)(H:Hp):List (aM×V)->List (aM×D)->Prop where
 | nil:IsKs K π n H [] []
 | cons {k:aM}{v:V}{d:D}{vs:List (aM×V)}{ds:List (aM×D)}(h:IsD K π n H v d)(t:IsKs K π n H vs ds):IsKs K π n H ((k,v)::vs) ((k,d)::ds)
section
variable {K:Tv}{π π':Nat->Addr}{n n':Nat}{H H':Hp}
theorem IsKs.mono {vs:List (aM×V)}{ds:List (aM×D)}(e:Ext π n H π' n' H')(h:IsKs K π n H vs ds):IsKs K π' n' H' vs ds:=by
 induction h with
 | nil=>exact .nil
 | cons h t a=>exact .cons (h.mono e) a
theorem IsKs.of:∀ {vs:List (aM×V)}{ds:List (aM×D)},vs.map (·.1)=ds.map (·.1)->IsDs K π n H (vs.map (·.2)) (ds.map (·.2))->IsKs K π n H vs ds
 | [],[],_,_=>.nil
 | [],_::_,h,_=>by cases h
 | _::_,[],h,_=>by cases h
 | (k,v)::vs,(k',d)::ds,h,t=>by
  rw [TM,TM] at h t
  injection h with h1 h2
  dsimp only at h1
  subst h1
  cases t with
  | cons a b=>exact .cons a (IsKs.of h2 b)
theorem IsKs.append {vs ws:List (aM×V)}{ds a:List (aM×D)}(h:IsKs K π n H vs ds)(b:IsKs K π n H ws a):IsKs K π n H (vs++ws) (ds++a):=by
 induction h with
 | nil=>exact b
 | cons h t c=>exact .cons h c
theorem IsKs.any {vs:List (aM×V)}{ds:List (aM×D)}(h:IsKs K π n H vs ds)(k:aM):(vs.any fun a=>decide (a.1=k))=ds.any fun a=>decide (a.1=k):=by
 induction h with
 | nil=>rfl
 | cons h t b=>rw [Wf,Wf,b]
theorem IsKs.repl {vs:List (aM×V)}{ds:List (aM×D)}(h:IsKs K π n H vs ds){v:V}{d:D}(c:IsD K π n H v d)(k:aM):IsKs K π n H (vs.map fun a=>if a.1=k then (a.1,v) else a) (ds.map fun a=>if a.1=k then (a.1,d) else a):=by
 induction h with
 | nil=>exact .nil
 | @cons i l j vs ds h t b=>
  rw [TM,TM]
  by_cases e:i=k
  ·simp only [e,if_true]
   exact .cons c b
  ·simp only [e,if_false]
   exact .cons h b
theorem IsKs.put {vs:List (aM×V)}{ds:List (aM×D)}(h:IsKs K π n H vs ds){v:V}{d:D}(a:IsD K π n H v d)(k:aM):IsKs K π n H (gR vs k v) (wG ds k d):=by
 unfold gR wG
 rw [h.any k]
 split
 ·exact h.repl a k
 ·exact h.append (.cons a .nil)
theorem IsKs.merge {ws:List (aM×V)}{a:List (aM×D)}(b:IsKs K π n H ws a):∀ {vs:List (aM×V)}{ds:List (aM×D)},IsKs K π n H vs ds->IsKs K π n H (AY vs ws) (Kn ds a):=by
 induction b with
 | nil=>exact fun h=>h
 | cons h t d=>exact fun c=>d (c.put h _)
theorem IsKs.val {vs:List (aM×V)}{ds:List (aM×D)}(h:IsKs K π n H vs ds)(k:aM):(nK ds k=none/\eB vs k=none)\/∃ v d,nK ds k=some d/\eB vs k=some v/\IsD K π n H v d:=by
 induction h with
 | nil=>exact .inl ⟨rfl,rfl⟩
 | @cons a c b vs ds h t l=>
  by_cases e:a=k
  ·exact .inr ⟨c,b,by simp [nK,U0,e],by simp [eB,U0,e],h⟩
  ·have i:nK ((a,b)::ds) k=nK ds k:=by simp [nK,U0,e]
   have j:eB ((a,c)::vs) k=eB vs k:=by simp [eB,U0,e]
   rw [i,j]
   exact l
theorem IsKs.length {vs:List (aM×V)}{ds:List (aM×D)}(h:IsKs K π n H vs ds):vs.length=ds.length:=by
 induction h with
 | nil=>rfl
 | cons h t a=>rw [Uk,Uk,a]
end
noncomputable def Ko (K:Tv)(a:List (ME×ME)):List (TE×TE):=a.map fun p=>(tM K p.1,tM K p.2)
section
variable {X:Cx}{a b c:Expr}{ma mb mc:ME}{pos:Vt}
end
theorem kU {k:Nat}{A:Ur}(r:Room k A):A.units+1<V6:=by have:=r.un;omega
noncomputable def cJ (a:ME):ME:=fun c b=>(a c b).bind fun p=>(v5 p.1).map fun d=>(d,p.2)
end L3
namespace L3
open PySem L2
noncomputable def fP (cells:List (Str×Addr)):List (Str×Wh)->List (Str×Addr)->List (Str×Addr)
 | [],acc=>acc
 | (n,k)::r,acc=>if k=.free then (match cells.lookup n with|some c=>fP cells r ((n,c)::acc)|none=>fP cells r acc) else fP cells r acc
theorem BO {env:XU}:∀ (names:List (Str×Wh))(a:List (Str×Addr)),(∀ y∈names,y.2=.free->∃ c,env.cells.lookup y.1=some c)->
  (forIn names a fun (x:Str×Wh)(d:List (Str×Addr))=>(do
   if x.2 == .free then (do let c <- cellOf env x.1;pure (WK ((x.1,c)::d))) else pure (WK d):a1x (ForInStep (List (Str×Addr)))))=pure (fP env.cells names a)
 | [],a,_=>rfl
 | (n,k)::r,a,h=>by
  have i:=fun a=>BO r a fun y j=>h y (UB _ j)
  rw [List.forIn_cons]
  by_cases b:k=.free
  ·subst b
   obtain ⟨c,hc⟩:=h (n,.free) (UP ..) rfl
   dsimp only at hc
   have e:cellOf env n=pure c:=by unfold cellOf;rw [hc]
   simp only [fP,hc,e,beq_self_eq_true,if_true,pure_bind]
   exact i _
  ·have e:(k == VZ)=false:=by simpa using b
   simp only [fP,e,b,if_false,TY,pure_bind]
   exact i _
theorem Kp {scope:VY}{env:XU}(h:∀ y∈scope.names,y.2=.free->∃ c,env.cells.lookup y.1=some c):a2h scope env=pure (fP env.cells scope.names []):=by
 have:=BO (env:=env) scope.names [] h
 unfold a2h
 simp only [bind_pure] at *
 exact this
theorem sA {cells:List (Str×Addr)}:∀ (names:List (Str×Wh))(a:List (Str×Addr)),(∀ y c,a.lookup y=some c->cells.lookup y=some c)->∀ y c,(fP cells names a).lookup y=some c->cells.lookup y=some c
 | [],a,h=>h
 | (n,k)::r,a,h=>by
  unfold fP
  split
  ·split
   ·rename_i d hc
    refine sA r _ fun y c e=>?_
    rw [Xk] at e
    by_cases b:y=n
    ·subst b
     simp only [beq_self_eq_true] at e
     cases e
     exact hc
    ·have:(y == n)=false:=by simpa using b
     rw [this] at e
     exact h y c e
   ·exact sA r a h
  ·exact sA r a h
theorem sC {cells:List (Str×Addr)}:∀ (names:List (Str×Wh))(a:List (Str×Addr))(y:Str),(∃ c,a.lookup y=some c)->∃ c,(fP cells names a).lookup y=some c
 | [],a,y,h=>h
 | (n,k)::r,a,y,h=>by
  unfold fP
  split
  ·split
   ·refine sC r _ y ?_
    rw [Xk]
    by_cases b:(y == n)=true
    ·rw [b];exact ⟨_,rfl⟩
    ·have:(y == n)=false:=by simpa using b
     rw [this]
     exact h
   ·exact sC r a y h
  ·exact sC r a y h
theorem sD {cells:List (Str×Addr)}:∀ (names:List (Str×Wh))(a:List (Str×Addr))(y:Str),(y,VZ)∈names->(∃ c,cells.lookup y=some c)->∃ c,(fP cells names a).lookup y=some c
 | [],a,y,h,_=>by cases h
 | (n,k)::r,a,y,h,hc=>by
  unfold fP
  rcases Uq.mp h with h|h
  ·cases h
   obtain ⟨c,hc⟩:=hc
   rw [if_pos rfl,hc]
   exact sC r _ _ ⟨c,by simp [Xk]⟩
  ·split
   ·split
    ·exact sD r _ y h hc
    ·exact sD r _ y h hc
   ·exact sD r _ y h hc
structure CompSt (osc:VY)(N:List Str)(scope:VY)(xs:List Str):Prop where
 nocell:∀ y∈scope.names,y.2≠.cell
 kind:scope.kind=.function
 names:∀ y∈scope.names,y.2=.local->scope.names.lookup y.1=some .local
 here:∀ x∈xs,scope.names.lookup x=some .local
 free:∀ y∈scope.names,y.2=.free->osc.names.lookup y.1=some .cell\/osc.names.lookup y.1=some .free
 own:∀ y∈scope.names,y.2=.local->y.1∉bG xs N
 nd:N.Nodup
 hnd:(bG xs N).Nodup
 hidn:∀ y∈N,xs.contains y=true->scope.names.lookup (nH y)=none
theorem CompSt.ok {X:Cx}{scope:VY}{xs:List Str}(S:CompSt X.env.scope X.N scope xs)(ok:X.Ok):CompOk X scope (fP X.env.cells scope.names []) xs:=by
 have has:∀ y∈scope.names,y.2=.free->∃ c,X.env.cells.lookup y.1=some c:=fun y d b=>ok.has y.1 (S.free y d b)
 refine ⟨Kp has,S.nocell,S.kind,S.names,S.here,sA scope.names [] (fun y c e=>by cases e),fun y e=>?_,fun y e=>?_,S.hidn⟩
 ·have a:=Vf e
  exact ⟨S.free _ a rfl,sD scope.names [] y a (has _ a rfl)⟩
 ·exact S.own _ (Vf e) rfl
end L3
namespace L3
open PySem L2
section
variable {X:Cx}{pos:Vt}
end
end L3
namespace L3
open PySem L2
noncomputable def cD (e:Expr):Bool:=!(e.ctorIdx == 22)
theorem dD {e:Expr}{a:List Expr}{env:XU}(h:cD e=true):Ue (e::a) env=(false,eval e env)::Ue a env:=by
 cases e<;>first|rfl|cases h
theorem fQ {pos:Vt}{env:XU}:∀ {a:List Expr},a.all cD=true->(VF pos (Ue a env)).any (·.1)=false
 | [],_=>rfl
 | e::a,h=>by
  rw [Uy,Tw] at h
  rw [dD h.1]
  have:=fQ (pos:=pos) (env:=env) h.2
  simpa [VF] using this
theorem sE {e:Expr}{a:List Expr}{env:XU}(h:cD e=true):V2 (e::a) env=(false,Zd e env)::V2 a env:=by
 cases e<;>first|rfl|cases h
theorem BP {env:XU}:∀ {a:List Expr},a.all cD=true->(V2 a env).length=a.length
 | [],_=>rfl
 | e::a,h=>by
  rw [Uy,Tw] at h
  rw [sE h.1,Uk,Uk,BP h.2]
theorem BQ {env:XU}:∀ {a:List Expr},a.all cD=true->(V2 a env).findIdx? (·.1)=none
 | [],_=>rfl
 | e::a,h=>by
  rw [Uy,Tw] at h
  rw [sE h.1,List.findIdx?_cons,BQ h.2]
  rfl
section
variable {X:Cx}{e a b c:Expr}{es:List Expr}{m:ME}{ms:MA}{pos:Vt}
end
end L3
namespace L3
open PySem L2
structure QE (X:Cx)(e:Expr)(m:ME):Prop where
 h:PE X e (tM X.K m)
structure QT (X:Cx)(e:Expr)(m:MT):Prop where
 h:PT X e (cW X.K m)
structure QW (X:Cx)(e:Expr)(m:MT):Prop where
 h:PW X e (cW X.K m)
structure QA (X:Cx)(es:List Expr)(m:MA)(n:Nat):Prop where
 h:PA X es (eI X.K m)
 l:∀ ρ μ ds μ',m ρ μ=some (ds,μ')->ds.length=n
 s:es.all cD=true
structure QO (X:Cx)(e:Option Expr)(m:MO):Prop where
 h:PO X e (pL X.K m)
structure QS (X:Cx)(st:Stmt)(m:MS):Prop where
 h:PS X st (cY X.K m)
structure QB (X:Cx)(st:List Stmt)(m:MS):Prop where
 h:PSs X st (cY X.K m)
structure QG (X:Cx)(e:Expr)(g:MG):Prop where
 h:PG X e (fB X.K g)
structure QGs (X:Cx)(es:List Expr)(is:List Nat):Prop where
 h:oZ X es (r9 is)
 n:es.length=is.length
 s:es.all cD=true
structure QI (X:Cx)(ifs:List Expr)(m:MT):Prop where
 h:l7 X ifs m
structure QP (X:Cx)(pos:Vt)(keys:List (Option Expr))(values:List Expr)(prs:List (ME×ME)):Prop where
 h:HY X pos keys values (Ko X.K prs)
 a:keys.all (·.isSome)=true
 l:keys.length=values.length
section
variable {X:Cx}{e a b c:Expr}{m ma mb mc:ME}{pos:Vt}{mt mu:MT}{bK es:List Expr}{ms:MA}{n:Nat}
theorem BR {x:Str}(i:Nat)(h:X.N[i]? = some x:=by rfl)(j:mZ X.env.scope x:=by first|exact a1A rfl|exact a0x (a1A rfl)|exact a0x (a0x rfl))(hd:(x == ("__debug__":Str))=false:=by decide)
  (d:(x == ("__classdict__":Str))=false:=by decide):QE X (.Name x pos) (aA i):=⟨IW i (F5 h j hd d)⟩
theorem BS {i:Int}{j:Nat}:QE X (.Constant (.int i) j pos) (mC (.int i)):=⟨IX⟩
theorem BU {i:Bool}{j:Nat}:QE X (.Constant (.bool i) j pos) (mC (.bl i)):=⟨IY⟩
theorem BV {i:Str}{j:Nat}:QE X (.Constant (.str i) j pos) (mC (.str i)):=⟨IZ⟩
theorem BW {j:Nat}:QE X (.Constant .none j pos) (mC .non):=⟨Ja⟩
theorem nM {op:a0n}{r:R2}{f:D->D->Hm->Option (D×Hm)}(j:OpR X (WM op) r)(i:cQ X.K f r)(d:QE X a ma)(h:QE X b mb):QE X (.BinOp a op b pos) (aC f ma mb):=⟨Jb j i d.h h.h⟩
theorem Kq (d:QE X a ma)(h:QE X b mb):QE X (.BinOp a .Add b pos) (aC bV ma mb):=nM JY JZ d h
theorem Kr (d:QE X a ma)(h:QE X b mb):QE X (.BinOp a .Sub b pos) (aC cS ma mb):=nM Hf JR d h
theorem Ks (d:QE X a ma)(h:QE X b mb):QE X (.BinOp a .Mult b pos) (aC bS ma mb):=nM JO JT d h
theorem Kt (d:QE X a ma)(h:QE X b mb):QE X (.BinOp a .FloorDiv b pos) (aC dU ma mb):=nM JP JU d h
theorem Ku (d:QE X a ma)(h:QE X b mb):QE X (.BinOp a .Mod b pos) (aC bU ma mb):=nM Hg JV d h
theorem Kv (d:QE X a ma)(h:QE X b mb):QE X (.BinOp a .Pow b pos) (aC gW ma mb):=nM JQ JW d h
theorem Kw (d:QE X a ma):QE X (.UnaryOp .USub a pos) (cJ ma):=⟨J7 d.h⟩
theorem BX (d:QE X a ma):QE X (.UnaryOp .Not a pos) (lX ma):=⟨Jl d.h⟩
theorem Ky {k:Nat}(i:Room k X.A)(d:QE X a ma)(h:QE X b mb):QE X (.Compare a [.Eq] [b] pos) (aC (a9 false) ma mb):=⟨eC (BC (rY i)) rX d.h h.h (cV _)⟩
theorem Kz {k:Nat}(i:Room k X.A)(d:QE X a ma)(h:QE X b mb):QE X (.Compare a [.NotEq] [b] pos) (aC (a9 true) ma mb):=⟨eC (BE (rY i)) rX d.h h.h (cV _)⟩
theorem KA (d:QE X a ma)(h:QE X b mb):QE X (.Compare a [.Lt] [b] pos) (aC nF ma mb):=⟨eC uW gX d.h h.h (cV _)⟩
theorem KG (d:QE X a ma)(h:QE X b mb):QE X (.Compare a [.LtE] [b] pos) (aC nG ma mb):=⟨eC uX gX d.h h.h (cV _)⟩
theorem KH (d:QE X a ma)(h:QE X b mb):QE X (.Compare a [.Gt] [b] pos) (aC kT ma mb):=⟨eC uY gX d.h h.h (cV _)⟩
theorem KI (d:QE X a ma)(h:QE X b mb):QE X (.Compare a [.GtE] [b] pos) (aC wA ma mb):=⟨eC uZ gX d.h h.h (cV _)⟩
noncomputable def fC (e:Expr):Bool:=!(e.ctorIdx == 7)
theorem gY {op:W2}{b:Expr}(h:fC b=true):WC op b=false:=by
 cases b<;>first|rfl|cases h
theorem KJ {op:BoolOp}(h:QE X a m):QE X (.BoolOp op [a] pos) m:=⟨Ji h.h⟩
theorem KL (d:QE X a ma)(h:QE X (.BoolOp .And (b::bK) pos) mb):QE X (.BoolOp .And (a::b::bK) pos) (kS ma mb):=⟨Jj d.h h.h⟩
theorem KN (d:QE X a ma)(h:QE X (.BoolOp .Or (b::bK) pos) mb):QE X (.BoolOp .Or (a::b::bK) pos) (vO ma mb):=⟨Jk d.h h.h⟩
theorem KO (hc:QT X c mt)(d:QE X a ma)(h:QE X b mb):QE X (.IfExp c a b pos) (f6 mt ma mb):=⟨Jm hc.h d.h h.h⟩
theorem KP:QA X [] aD 0:=⟨Jn,Bn,rfl⟩
theorem KQ (i:QE X e m)(d:QA X es ms n)(h:cD e=true:=by rfl):QA X (e::es) (aB m ms) (n+1):=⟨Jo i.h d.h (dD h),Js d.l,by rw [Uy,h,d.s];rfl⟩
theorem KR {x1:Nat}(h:QA X es ms n):QE X (.Tuple es x1 pos) (bT ms):=⟨Jp h.h⟩
theorem BY (h:QA X es ms n):QE X (.List es pos) (cI ms):=⟨Jq h.h⟩
noncomputable def nN (e:Expr):Bool:=!(e.ctorIdx == 26)
theorem BZ {b:Expr}(h:nN b=true):vG b:=by
 intro o i
 cases b<;>first|rfl|cases h
theorem KS (d:QE X a ma)(i:QE X b mb)(h:nN b=true:=by rfl):QE X (.Subscript a b pos) (aC f7 ma mb):=⟨Jx d.h i.h (BZ h)⟩
theorem KU:QO X none jR:=⟨Jy⟩
theorem KW (h:QE X e m):QO X (some e) (nB m):=⟨Jz h.h⟩
theorem KY {lo d:Option Expr}{i h:MO}{p:Vt}(j:QE X a ma)(l:QO X lo i)(o:QO X d h):QE X (.Subscript a (.Slice lo d none p) pos) (vQ ma i h):=⟨JB j.h l.h o.h⟩
theorem KZ {k:Nat}{f:Addr}{j:Vc}{ps:List Str}{l:MF}{x:Str}{p:Vt}(F:FnOk X.prog X.w X.K X.mg X.base dC k f j ps (dI X.K n l))(u:Room k X.A)(s:X.mg x=some (.ref f))
  (r:U8 X.K (.ref f)=true)(o:Binds X.K j ps [])(d:QA X (e::es) ms n)(q:Gl X x:=by rfl)(h:(x == ("__debug__":Str))=false:=by decide):QE X (.Call (.Name x p) (e::es) [] pos) (aI l ms):=by
 have i:=d.s
 rw [Uy,Tw] at i
 exact ⟨Jt F u q s r o d.h d.l h (dD i.1) (fQ i.2)⟩
theorem K0 {f:MF}{r:List V->Hp->VK->Prop}{id:String}{x:Str}{p:Vt}(hc:CallR X (.builtin id) r)(j:eJ X.K f r)(o:X.mg x=none)(s:VA x=some (.builtin id))(i:QA X (e::es) ms n)
  (l:Gl X x:=by rfl)(q:x ≠ "__name__":=by decide) (d:(x == ("__debug__":Str))=false:=by decide):QE X (.Call (.Name x p) (e::es) [] pos) (aI f ms):=by
 have h:=i.s
 rw [Uy,Tw] at h
 exact ⟨Ju hc j l o s i.h q d (dD h.1) (fQ h.2)⟩
theorem wH {f:MF}{r:List V->Hp->VK->Prop}{T:String}{x:Str}{p:Vt}(hc:CallR X (.type T) r)(j:eJ X.K f r)(o:X.mg x=none)(s:VA x=some (.type T))(i:QA X (e::es) ms n)
  (l:Gl X x:=by rfl)(q:x ≠ "__name__":=by decide) (d:(x == ("__debug__":Str))=false:=by decide):QE X (.Call (.Name x p) (e::es) [] pos) (aI f ms):=by
 have h:=i.s
 rw [Uy,Tw] at h
 exact ⟨Jv hc j l o s i.h q d (dD h.1) (fQ h.2)⟩
theorem K1 {x:Str}{n:String}(h:X.mg x=none)(j:VA x=some (.type n))(d:Gl X x:=by rfl)(i:x ≠ "__name__":=by decide) (hd:(x == ("__debug__":Str))=false:=by decide):QE X (.Name x pos) (mC (.ty n)):=⟨J8 d h j i hd⟩
theorem K2 {k:Nat}(i:Room k X.A)(d:QE X a ma)(h:QE X b mb):QT X (.Compare a [.Eq] [b] pos) (aR (aC (a9 false) ma mb)):=⟨eD (BC (rY i)) rX d.h h.h (cV _)⟩
theorem K3 {k:Nat}(i:Room k X.A)(d:QE X a ma)(h:QE X b mb):QT X (.Compare a [.NotEq] [b] pos) (aR (aC (a9 true) ma mb)):=⟨eD (BE (rY i)) rX d.h h.h (cV _)⟩
theorem K4 (d:QE X a ma)(h:QE X b mb):QT X (.Compare a [.Lt] [b] pos) (aR (aC nF ma mb)):=⟨eD uW gX d.h h.h (cV _)⟩
theorem K5 (d:QE X a ma)(h:QE X b mb):QT X (.Compare a [.LtE] [b] pos) (aR (aC nG ma mb)):=⟨eD uX gX d.h h.h (cV _)⟩
theorem K6 (d:QE X a ma)(h:QE X b mb):QT X (.Compare a [.Gt] [b] pos) (aR (aC kT ma mb)):=⟨eD uY gX d.h h.h (cV _)⟩
theorem K7 (d:QE X a ma)(h:QE X b mb):QT X (.Compare a [.GtE] [b] pos) (aR (aC wA ma mb)):=⟨eD uZ gX d.h h.h (cV _)⟩
noncomputable def pR:Expr->Bool
 | .UnaryOp .Not ..=>false
 | .BoolOp ..=>false
 | .IfExp ..=>false
 | .Compare ..=>false
 | _=>true
theorem B0 {e:Expr}{env:XU}(h:pR e=true):∀ d,ZH e env d=(do let v <- d;Zo e.pos;holding [v] (truthy v)):=by
 intro d
 cases e<;>first|rfl|cases h|skip
 rename_i i x p
 cases i<;>first|rfl|cases h
theorem K8 (h:QE X e m)(d:pR e=true:=by rfl):QT X e (aR m):=⟨Jc h.h (B0 d)⟩
theorem K9 (d:QT X a mt):QT X (.UnaryOp .Not a pos) (iZ mt):=⟨Jh d.h⟩
theorem La (d:QT X a mt):QW X (.BoolOp .And [a] pos) mt:=⟨Jd d.h⟩
theorem Lb (d:QT X a mt):QW X (.BoolOp .Or [a] pos) mt:=⟨Je d.h⟩
theorem Lc (d:QT X a mt)(h:QW X (.BoolOp .And (b::bK) pos) mu):QW X (.BoolOp .And (a::b::bK) pos) (gS mt mu):=⟨Jf d.h h.h⟩
theorem Ld (d:QT X a mt)(h:QW X (.BoolOp .Or (b::bK) pos) mu):QW X (.BoolOp .Or (a::b::bK) pos) (eV mt mu):=⟨Jg d.h h.h⟩
theorem Le (h:QW X e mt):QT X e mt:=⟨h.h.pt⟩
theorem Lf:QI X [] i0:=⟨Kf⟩
theorem Lg (h:QT X c mt):QI X [c] mt:=⟨Kg h.h⟩
end
section
variable {X:Cx}{e a b c:Expr}{m:ME}{pos:Vt}{mt:MT}{st:Stmt}{bK body orelse:List Stmt}{ms mr mu:MS}{n:Nat}{is:List Nat}{es:List Expr}{g:MG}
theorem Lh:QB X [] bJ:=⟨JC⟩
theorem Li (d:QS X st ms)(h:QB X bK mr):QB X (st::bK) (aJ ms mr):=⟨JD d.h h.h⟩
theorem Lj (d:QS X st ms):QB X [st] ms:=⟨JE d.h⟩
theorem Lk:QS X (.Pass pos) bJ:=⟨JF⟩
theorem B1 (d:QE X e m):QS X (.Return (some e) pos) (a8 m):=⟨JG d.h⟩
noncomputable def d7 (e:Expr):Bool:=!(e.ctorIdx == 8||e.ctorIdx == 9||e.ctorIdx == 10)
theorem nO {e:Expr}{t:Option Expr}{n:Nat}{env:XU}(h:d7 e=true):Xx e t n env=pure false:=by
 cases e<;>first|rfl|cases h
theorem Ll (d:QE X e m)(h:d7 e=true:=by rfl):QS X (.Expr e pos) (dS m):=⟨JH d.h (nO h)⟩
theorem B2 (hc:QT X c mt)(d:QB X body ms)(h:QB X orelse mu):QS X (.If c body orelse pos) (bI mt ms mu):=⟨JI hc.h d.h h.h⟩
theorem B3 (i:Nat){x:Str}{d:Vt}(j:X.N.Nodup)(l:QE X e m)(h:d7 e=true:=by rfl)(p:X.N[i]? = some x:=by rfl)(q:Loc X.env.scope x:=by first|exact a1A rfl|exact a0x rfl)
  (o:X.fn x=true\/X.env.scope.names.lookup x=some .local:=by first|exact .inl rfl|exact .inr rfl):QS X (.Assign [.Name x d] e pos) (aP i m):=⟨Br j p q l.h (nO h) o⟩
theorem Lm (i:Nat){x:Str}(d:X.N.Nodup)(j:X.N[i]? = some x:=by rfl)(l:Loc X.env.scope x:=by first|exact a1A rfl|exact a0x rfl)
  (h:X.fn x=true\/X.env.scope.names.lookup x=some .local:=by first|exact .inl rfl|exact .inr rfl):QG X (.Name x pos) (cZ i):=⟨BG d j l h⟩
theorem B4:QGs X [] []:=⟨GS,rfl,rfl⟩
theorem B5 (i:Nat){x:Str}(h:X.N.Nodup)(d:QGs X es is)(l:X.N[i]? = some x:=by rfl)(o:Loc X.env.scope x:=by first|exact a1A rfl|exact a0x rfl)
  (j:X.fn x=true\/X.env.scope.names.lookup x=some .local:=by first|exact .inl rfl|exact .inr rfl):QGs X (.Name x pos::es) (i::is):=
 ⟨GU (Ao h l o j) d.h (by rw [sE (e:=.Name x pos) rfl];rfl),by rw [Uk,Uk,d.n],by rw [Uy,d.s];rfl⟩
theorem wI {k:Nat}(h:QGs X es is)(hc:X.calm=true:=by rfl):QG X (.Tuple es k pos) (eL is):=⟨Kj hc h.h ((BP h.s).trans h.n) (BQ h.s)⟩
noncomputable def wJ (e:Expr):Bool:=!(e.ctorIdx == 25)
theorem Ln {es:List Expr}{k:Nat}{pt:Vt}{e:Expr}{env:XU}(h:wJ e=true):a0E [.Tuple es k pt] e env=pure none:=by
 cases e<;>first|rfl|cases h
theorem Lo {k:Nat}{pt:Vt}(d:QE X e m)(i:QG X (.Tuple es k pt) g)(h:wJ e=true:=by rfl):QS X (.Assign [.Tuple es k pt] e pos) (jX m g):=
 ⟨Kk d.h i.h (by cases e<;>rfl) (Ln h) (by rw [sE (e:=.Tuple es k pt) rfl];rfl)⟩
end
section
variable {P:Ud}{w:Uv}{K:Tv}{mg:Str->Option Value}{base:UU}
theorem Lp {x a:Str}{st:Stmt}{f:Addr}{h:Vc}{N ps:List Str}{k:Nat}{body:List Stmt}{m:MS}(F:Fun K x a st f h)(S:FnScope N ps (aU st))(e:ps.length<=N.length)(d:bD st=body)
  (c:∀ (b:Value)(A:Ur)(outer:List XU)(s:TC)(H:Hp)(E:XK),Room k (A.deeper (Xb a (aU st) s.heap.objs.size f b))->
   QB (eA dC P w K mg base N a (aU st) f b A outer s H E).nox body m):FnOk P w K mg base dC (k+1) f h ps (dI K ps.length (pN N.length m)):=
 JJ F S e fun b A outer s H E i=>by
  rw [d]
  exact (c b A outer s H E i).h
end
end L3
namespace L3
open PySem L2
noncomputable abbrev i7:=Hm->Nat->Option (Option D)
noncomputable abbrev MI:=aF->Hm->Option (i7×Nat×Hm)
noncomputable def iG (K:Tv)(m:MI):TI:=fun σ H R=>∃ π h e c n a,Rp K π H e/\En K π e.length H σ h/\m h e=some (c,n,a) /\
 ∀ b d J,Ext π e.length H b a.length d->Rp K b d a->Wk K J c b a.length d->R J d
structure QJ (X:Cx)(e:Expr)(m:MI):Prop where
 h:∀ tg,PI X tg e (iG X.K m)
section
variable {X:Cx}{pos:Vt}{e:Expr}{m:ME}
noncomputable def B6:MI:=fun _ _=>none
theorem Lq:QJ X e B6:=⟨fun tg a3F s σ H R I hw=>by
 obtain ⟨i,j,h,b,n,c,d,E,a,k⟩:=hw
 cases a⟩
noncomputable def jY (a:Hm):D->Option (List D)
 | d=>bO a d
noncomputable def dW (x:D):i7:=fun a i=>(jY a x).map fun xs=>xs[i]?
noncomputable def eM (m:ME):MI:=fun b a=>(m b a).bind fun p=>(jY p.2 p.1).map fun xs=>(dW p.1,xs.length+1,p.2)
theorem Lr (h:QE X e m):QJ X e (eM m):=⟨fun tg a3F s σ H R I hw=>by
 obtain ⟨L,M,J,B,n,K,u,E,b,k⟩:=hw
 obtain ⟨⟨x,j⟩,w,b⟩:=Tu.mp b
 obtain ⟨G,y,b⟩:=Tz.mp b
 cases b
 have key:∀ (p:bO j x=some G)(r:dW x=jV x),Ua (Ul X.prog X.w) X.A (eval e X.env) (fun v A=>Ua (Ul X.prog X.w) X.A (ZF v) (Au X a3F σ tg R) X.xe A) X.xe s:=fun p r=>by
  refine Ka h.h a3F s σ H R I ⟨L,M,J,x,_,u,E,w,fun c N l o d z=>?_⟩
  obtain ⟨a,e,q⟩:=Kb d z p
  subst e
  refine ⟨a,rfl,?_⟩
  dsimp only at k
  rw [r] at k
  rcases q with ⟨i,W⟩|⟨i,W⟩
  ·exact .inl ⟨i,k c l _ o d W⟩
  ·exact .inr ⟨i,k c l _ o d W⟩
 cases x with
 | _=>exact key y rfl⟩
noncomputable def kW (ms:MA):MI:=fun b a=>(ms b a).bind fun p=>match p.1 with
 | [.int j]=>if -(2 ^ 62)<=j/\j<2 ^ 62 then some (gA 0 j.toNat,j.toNat+1,p.2) else none
 | _=>none
theorem Ls {q:Cx->Prop}{tg:Expr}(tr:∀ (o:Addr)(lo:Int)(n:Nat),Turn q X.prog X.w X.K tg (kL lo n) [o] o (fun i h=>XN h o (lo+(i:Nat) * 1) ((n:Int) - (i:Nat)) 1)){a:Expr}{ms:MA}{n:Nat}{p:Vt}(c:Gl X "range") (d:X.mg "range" = none) (v:QA X [a] ms n):o6 q X tg (.Call (.Name "range" p) [a] [] pos) (iG X.K (kW ms)):=fun a3F s σ H R I hw=>by
 have y:=v.s
 rw [Uy,Tw] at y
 obtain ⟨O,Q,M,K,T,N,B,E,b,k⟩:=hw
 obtain ⟨⟨x,r⟩,J,b⟩:=Tu.mp b
 refine G5 tr c d v.h (dD y.1) a3F s σ H R I ⟨O,Q,M,x,r,B,E,J,fun u U z G A l=>?_⟩
 dsimp only at b
 split at b
 ·rename_i j
  split at b
  ·rename_i w
   cases b
   cases l with
   | cons l L=>
    cases l
    cases L
    exact ⟨j,rfl,w.1,w.2,k u z _ G A BH⟩
  ·cases b
 ·cases b
theorem Lu {a:Expr}{ms:MA}{n:Nat}{p:Vt}(b:Gl X "range") (c:X.mg "range" = none) (d:QA X [a] ms n):QJ X (.Call (.Name "range" p) [a] [] pos) (kW ms):=⟨fun tg=>Ls Av b c d⟩
noncomputable def nP (ms:MA):MI:=fun b a=>(ms b a).bind fun p=>match p.1 with
 | [.int i,.int j]=>if -(2 ^ 62)<=i/\i<2 ^ 62/\-(2 ^ 62)<=j/\j<2 ^ 62 then some (gA i (j - i).toNat,(j - i).toNat+1,p.2) else none
 | _=>none
theorem Lv {a b:Expr}{ms:MA}{n:Nat}{p:Vt}(h:Gl X "range") (l:X.mg "range" = none) (u:QA X [a,b] ms n):QJ X (.Call (.Name "range" p) [a,b] [] pos) (nP ms):=⟨fun tg a3F s σ H R I hw=>by
 have d:=u.s
 rw [Uy,Tw,Uy,Tw] at d
 obtain ⟨O,Q,M,J,T,N,y,E,c,k⟩:=hw
 obtain ⟨⟨x,q⟩,A,c⟩:=Tu.mp c
 refine G6 h l u.h (by rw [dD d.1,dD d.2.1];rfl) (by rw [dD d.2.1];rfl) a3F s σ H R I ⟨O,Q,M,x,q,y,E,A,fun r U v z w o=>?_⟩
 dsimp only at c
 split at c
 ·rename_i i j
  split at c
  ·rename_i B
   cases c
   cases o with
   | cons o K=>
    cases o
    cases K with
    | cons G L=>
     cases G
     cases L
     exact ⟨i,j,rfl,B,k r v _ z w BH⟩
  ·cases c
 ·cases c⟩
noncomputable def cL (c:MI)(g:MG)(b:MS):MS:=fun a d=>(c a d).bind fun p=>eK p.1 g b p.2.1 0 a p.2.2
end
noncomputable def l8 (d:BD)(h:MI)(c:MT)(e:ME):ME:=fun b i=>(h b i).bind fun p=>
 (jW p.1 d c e b p.2.2.length p.2.1 0 (p.2.2++[.lst []])).map fun a=>(.loc p.2.2.length,a)
noncomputable abbrev gZ (a:MI)(c:MT)(e:ME):ME:=l8 nJ a c e
noncomputable def gB (n:Nat)(a:BD):MG:=fun d c b=>(a d b).map fun x=>c.take n++x
theorem Lx {X:Cx}{n:Nat}{x:Str}{j:Vt}(l:X.N.length=n+1)(h:PG X (.Name x j) (fB X.K (cZ n))):PG X (.Name x j) (fB X.K (gB n nJ)):=by
 intro b s y H v u Q I r hw
 obtain ⟨q,a,p,d,w,R,E,hd,m,k⟩:=hw
 cases m
 refine h b s y H v u Q I r ⟨q,a,p,d,_,R,E,hd,rfl,fun c i=>k c ?_⟩
 have o:a.length=n+1:=by rw [<- E.len,I.len,l]
 have e:a.set n (some d)=a.take n++[some d]:=by
  rw [List.set_eq_take_append_cons_drop,if_pos (by omega),List.drop_of_length_le (by omega)]
 rw [e] at i
 exact i
theorem B7:∀ (xs:List D)(a b:aF),b.length=xs.length->iF (a++b) (X2 a.length xs.length) xs=a++xs.map some
 | [],a,[],_=>by simp [iF]
 | x::xs,a,y::b,h=>by
  have c:=B7 xs (a++[some x]) b (by simpa using h)
  rw [Uk,X8]
  show iF ((a++y::b).set a.length (some x)) (X2 (a.length+1) xs.length) xs=_
  rw [Xi _ _ (TR _),Xe,TJ]
  rw [TV,U3] at c
  rw [VM,a0q] at c
  rw [c]
  simp
theorem Lz {X:Cx}{n k:Nat}{tg:Expr}(w:X.N.length=n+k)(h:PG X tg (fB X.K (eL (X2 n k)))):PG X tg (fB X.K (gB n (BJ k))):=by
 intro b s K H v u Q I r hw
 obtain ⟨G,a,B,d,J,R,E,hd,x,A⟩:=hw
 obtain ⟨y,o,p⟩:=Tz.mp x
 obtain ⟨m,q,c⟩:=Tu.mp o
 split at c
 ·rename_i l
  cases c
  subst p
  have z:a.length=n+k:=by rw [<- E.len,I.len,w]
  refine h b s K H v u Q I r ⟨G,a,B,d,iF a (X2 n k) m,R,E,hd,(by simp only [eL,q,T9,List.length_range',if_pos l]),fun i j=>A i ?_⟩
  have e:=B7 m (a.take n) (a.drop n) (by rw [Yb];omega)
  rw [Xh,UZ,Nat.min_eq_left (by omega),l] at e
  rw [e] at j
  exact j
 ·cases c
section
variable {X:Cx}{scope:VY}{cl:List (Str×Addr)}{xs:List Str}{tg elt iter:Expr}{ifs:List Expr}{pos ppos:Vt}{mi:MI}{me:ME}{mc:MT}{bd:BD}
theorem LA {K:Tv}{π:Nat->Addr}{n:Nat}{H:Hp}{σ:St}{b o:aF}{k:Nat}(E:En K π n H σ (b++o))(c:o.length=k):En K π n H σ (b++VL k none):=by
 refine ⟨by rw [E.len,TV,TV,V8,c],fun i d q=>?_⟩
 by_cases a:i<b.length
 ·rw [Uc a] at q
  exact E.get i d (by rw [Uc a];exact q)
 ·rw [UK (Xq.mp a),Wi] at q
  split at q<;>cases q
theorem B8 {q:Cx->Prop}(O:CompOk X scope cl xs)(hq:∀ a3F σ H s l,Inv X a3F σ H s->q (cG X scope cl s.heap.objs.size (bG xs X.N++xs) s H l))(hi:o6 q X tg iter (iG X.K mi))(hb':∀ d μ z,bd d μ=some z->z.length=xs.length)(hg:∀ C s₀ H₀ l,PG (cG X scope cl C (bG xs X.N++xs) s₀ H₀ l) tg (fB X.K (gB X.N.length bd)))
  (hc:∀ C s₀ H₀ l,l7 (cG X scope cl C (bG xs X.N++xs) s₀ H₀ l) ifs mc)(he:∀ C s₀ H₀ l,PE (cG X scope cl C (bG xs X.N++xs) s₀ H₀ l) elt (tM X.K me))
  (hs:∀ x,WH iter X.env x=pure x){use:Option (Value->a1x Unit)}{QQ:Value->TC->Prop}{a3F:List (Addr×Obj)}{s:TC}{σ:St}{H:Hp}{π:Nat->Addr}{Y:aF}{μ Z:Hm}{d:D}
  (I:Inv X a3F σ H s)(R:Rp X.K π H μ)(E:En X.K π μ.length H σ Y)(hm:l8 bd mi mc me Y μ=some (d,Z))
  (aV:∀ (p C:Addr)(w:Nat->Addr)(H':Hp)(s':TC),Ext π μ.length H w Z.length H'->Rp X.K w H' Z->IsD X.K w Z.length H' (.ref p) d->(∃ m,s'.heap.Ns C m)->X.s₀.heap.objs.size<=C->C≠X.env.locals->H' C=none->
   (∀ y c,X.env.cells.lookup y=some c->c≠C)->(∀ q∈X.pn++a3F,q.1≠C)->(∀ h',(∀ b o,b≠C->s'.heap.get? b=some o->h'.get? b=some o)->Inv X a3F σ H' { s' with heap:=h' })->
   compPost (Ul X.prog X.w) X.A X.xe use QQ (.ref p) C (.ok .next) s') :
  Ua (Ul X.prog X.w) X.A (comprehension (.ListComp elt [⟨tg,iter,ifs,0⟩] scope pos) scope X.env ppos (newList []) false (eval iter X.env) use) QQ X.xe s:=by
 obtain ⟨⟨src,nt,a⟩,h1,hm⟩:=Tu.mp hm
 obtain ⟨μ2,h3,hm⟩:=Tz.mp hm
 cases hm
 have hit:Ua (Ul X.prog X.w) X.A (eval iter X.env) (fun v s1=>Ua (Ul X.prog X.w) X.A (ZF v) (rJ q X a3F σ tg fun J H1=>∃ π1,Ext π μ.length H π1 a.length H1/\Rp X.K π1 H1 a/\Wk X.K J src π1 a.length H1) X.xe s1) X.xe s:=
  hi a3F s σ H _ I ⟨π,Y,μ,src,nt,a,R,E,h1,fun π1 H1 J e1 R1 W=>⟨π1,e1,R1,W⟩⟩
 refine wpAny_comprehension_free rfl hs O.clos O.kind O.names (UH hit (fun v s1 hv=>UH hv (fun itv G h4=>?_) fun _ _ z=>z) fun _ _ z=>z)
 obtain ⟨it,l,tn,J,H2,rfl,I2,T,st2,f2,π1,e1,R1,W⟩:=h4
 refine VP (wpAny_newFunctionEnv O.nocell (by intro y hy;simp at hy) (fun h₁ L M=>?_) O.kind)
 dsimp only at L M ⊢
 have hfr:H2 G.heap.objs.size=none:=I2.hok.fresh (TR _)
 have I3:Inv X a3F σ (aL H2 G.heap.objs.size (.lst [])) { G with heap:=G.heap.push { cls:=.type "list",dict:=none,data:=.seq ([]:List Value).toArray } }:=
  I2.laid (t':=G.toks) (fun b u e=>TL _ e) (TR _) ⟨Vj _,[],0,.nil,Ub _ rfl⟩
 obtain ⟨e2,R2,q2⟩:=R1.alloc (c:=.lst []) (o:=.lst []) hfr .nil
 generalize hs3:({ G with heap:=G.heap.push { cls:=.type "list",dict:=none,data:=.seq ([]:List Value).toArray } }:TC)=s3 at I3
 have K:G.heap.push { cls:=.type "list",dict:=none,data:=.seq ([]:List Value).toArray } = s3.heap:=by rw [<- hs3]
 have e12:=e1.trans e2
 generalize hH3:aL H2 G.heap.objs.size (.lst [])=H3 at I3 e2 R2 e12
 generalize hπ3:fL π1 a.length G.heap.objs.size=π3 at e2 R2 q2 e12
 have hob:∀ b∈l,∃ o,s3.heap.get? b=some o:=fun b B=>by
  obtain ⟨o,ho,_⟩:=T.obj 0 _ st2 b B
  exact ⟨o,by rw [<- K];exact TL _ ho⟩
 have f3:∀ b∈l,gQ X a3F H3 b:=fun b B=>by
  obtain ⟨o,ho,_⟩:=T.obj 0 _ st2 b B
  refine ⟨?_,(f2 b B).2⟩
  rw [<- hH3,bC (Ui (T3 ho))]
  exact (f2 b B).1
 have st3:tn 0 s3.heap:=T.keep 0 _ _ st2 fun b B o e=>by rw [<- K];exact TL _ e
 have hC:(G.heap.push { cls:=.type "list",dict:=none,data:=.seq ([]:List Value).toArray }).objs.size=s3.heap.objs.size:=by rw [K]
 rw [K] at L M
 have hk1:∀ b o,s3.heap.get? b=some o->h₁.get? b=some o:=fun b o e=>M.extBut b o (Ui (T3 e)) (TL _ e)
 have E3:En X.K π3 (a++[C.lst []]).length H3 (σ++VL xs.length none) (Y++VL xs.length none):=by
  have E':=E.mono e12
  refine ⟨by rw [TV,TV,E'.len,V8,V8],fun i d' q=>?_⟩
  by_cases hi:i<Y.length
  ·rw [Uc hi] at q
   obtain ⟨v,h5,h6⟩:=E'.get i d' q
   exact ⟨v,by rw [Uc (by rw [E'.len];exact hi)];exact h5,h6⟩
  ·rw [UK (Xq.mp hi),Wi] at q
   split at q<;>cases q
 have hlen:Y.length=X.N.length:=by rw [<- E.len];exact I.len
 have stat:∀ {H':Hp}{pl:List (Addr×Obj)},(∀ b∈l,H' b=none)->pl=[]->∀ b∈l,gQ (cG X scope cl s3.heap.objs.size (bG xs X.N++xs) s3 H3 l) pl H' b:=fun {H' pl} hn hpl b B=>by
  obtain ⟨f0,f1,f2',f3',f4,f5⟩:=f3 b B
  obtain ⟨o,ho⟩:=hob b B
  refine ⟨hn b B,Ui (T3 ho),fun z=>?_,.inl B,fun y c h=>f4 y c (O.sub y c h),fun p hp=>?_⟩
  ·rcases Uq.mp (I3.stkSub b z) with z|z
   ·exact f1 z
   ·exact f2' z
  ·subst hpl
   exact absurd (show p∈([]:List (Addr×Obj)) from hp) (by simp)
 have loop:∀ s4:TC,(∃ tk,s4 = { s3 with heap:=h₁,toks:=tk })->
   XF (Ul X.prog X.w) X.A (.compLoop (.ListComp elt [⟨tg,iter,ifs,0⟩] scope pos) 0 (.ref it) (.ref G.heap.objs.size) (Xm scope cl s3.heap.objs.size X.env))
    (compPost (Ul X.prog X.w) X.A X.xe use QQ (.ref G.heap.objs.size) s3.heap.objs.size) s4:=by
  rintro s4 ⟨tk,rfl⟩
  have I4:=O.inv (tk:=tk) I3 f3 hob L hk1
  refine Ke (fun n s'=>∃ i U H' w N o,Inv (cG X scope cl s3.heap.objs.size (bG xs X.N++xs) s3 H3 l) [] U H' s'/\tn i s'.heap/\(∀ b∈l,H' b=none)/\Ext π3 (a++[C.lst []]).length H3 w N.length H'/\Rp X.K w H' N /\
   En X.K w N.length H' U (Y++o)/\o.length=xs.length/\jW src bd mc me Y a.length n i N=some Z) ?_ nt
   ⟨0,_,H3,π3,a++[C.lst []],VL xs.length none,I4,T.keep 0 _ _ st3 fun b B o e=>hk1 b o e,fun b B=>(f3 b B).1,.refl,R2,E3,V8,h3⟩
  rintro n s5 ⟨i,σ5,H5,Q,μ5,o5,I5,st5,fr5,e5,R5,E5,l5,g5⟩
  cases n with
  | zero=>cases g5
  | succ n=>
   obtain ⟨o,h6,h7⟩:=Tu.mp g5
   cases o with
   | none=>
    cases h7
    have stop:=W.stop Q _ H5 i (e2.trans e5) R5 h6
    refine UH (T.done (cG X scope cl s3.heap.objs.size (bG xs X.N++xs) s3 H3 l) rfl rfl rfl (hq a3F σ H3 s3 l I3) i [] s5 σ5 H5 (fun _ _=>False) I5 (stat fr5 rfl) st5 stop) (fun r s6 ⟨hr,I6⟩=>?_) fun _ _ z=>z
    subst hr
    obtain ⟨m6,hn6,_⟩:=id I6.loc
    have hp:Q a.length=G.heap.objs.size:=by rw [e5.pi a.length (by simp),q2]
    refine aV G.heap.objs.size s3.heap.objs.size Q H5 s6 (e12.trans e5) R5 ?_ ⟨m6,hn6⟩ I3.sz (UG (Ui I3.lt)) I6.free (fun y c hc z=>?_) (fun q hq z=>?_) fun h' hh=>CompOk.back I3 f3 I6 hh
    ·rw [<- hp]
     exact .loc (Uj (by simp) e5.le)
    ·obtain ⟨v,o,ho,_⟩:=I3.cell y c hc
     exact Ui (T3 ho) z
    ·exact Ui (T3 (I3.pin q hq).1) z
   | some d=>
    obtain ⟨z,hz,h7⟩:=Tu.mp h7
    obtain ⟨⟨b,μ6⟩,h8,h9⟩:=Tu.mp h7
    obtain ⟨g1,g2⟩:=W.go Q μ5 H5 i d (e2.trans e5) R5 h6
    refine UH (T.item (cG X scope cl s3.heap.objs.size (bG xs X.N++xs) s3 H3 l) rfl rfl rfl (hq a3F σ H3 s3 l I3) i [] s5 σ5 H5 (fun _ _=>False) I5 (stat fr5 rfl) st5 g1) (fun r s6 ⟨u,hr,h10⟩=>?_) fun _ _ z=>z
    subst hr
    refine UH h10 (fun _ s7 ⟨v,H7,I7,r7,y7,st7,fr7⟩=>?_) fun _ _ z=>z
    obtain ⟨e7,R7,hd⟩:=g2 v H7 y7
    have I7':=I7.pinned (stat fr7 rfl) (T.obj _ _ st7)
    have e5:=e5.trans e7
    refine UH (hg _ _ _ _ _ s7 σ5 H7 v u (fun U H'=>En X.K Q μ5.length H7 U (Y++z)/\H'=H7) I7' r7
     ⟨Q,Y++VL xs.length none,μ5,d,Y++z,R7,LA (E5.mono e7) l5,hd,(by
      show (bd d μ5).map (fun x=>(Y++VL xs.length none).take X.N.length++x)=_
      rw [hz,<- hlen,List.take_left]
      rfl),fun U E'=>⟨E',rfl⟩⟩) (fun _ s8 ⟨σ8,H8,I8,E8,z2⟩=>?_) fun _ _ z=>z
    subst z2
    have again:∀ {s9:TC}{H9:Hp}{j:Nat->Addr}{μ9:Hm},Inv (cG X scope cl s3.heap.objs.size (bG xs X.N++xs) s3 H3 l) ([]++o8 l s7.heap) σ8 H9 s9->Ext π3 (a++[C.lst []]).length H3 j μ9.length H9->Rp X.K j H9 μ9->
      En X.K j μ9.length H9 σ8 (Y++z)->jW src bd mc me Y a.length n (i+1) μ9=some Z->
      ∃ m,m<n+1/\∃ i U H' w N o,Inv (cG X scope cl s3.heap.objs.size (bG xs X.N++xs) s3 H3 l) [] U H' s9/\tn i s9.heap/\(∀ b∈l,H' b=none)/\Ext π3 (a++[C.lst []]).length H3 w N.length H'/\Rp X.K w H' N /\
       En X.K w N.length H' U (Y++o)/\o.length=xs.length/\jW src bd mc me Y a.length m i N=some Z:=fun {s9 H9 j μ9} I9 e9 R9 E9 g9=>by
     refine ⟨n,VG _,i+1,_,H9,j,μ9,z,I9.unpinned,T.keep _ _ _ st7 fun b B o e=>(I9.pin (b,o) (Vg _ (Vg _ (rK B e)))).1,fun b B=>?_,e9,R9,E9,hb' _ _ _ hz,g9⟩
     obtain ⟨o,e,_⟩:=T.obj _ _ st7 b B
     exact (I9.pin (b,o) (Vg _ (Vg _ (rK B e)))).2.1
    refine UH (hc _ _ _ _ _ s8 _ H8 (fun b' H'=>∃ j,b'=b/\Ext Q μ5.length H8 j μ6.length H'/\Rp X.K j H' μ6) I8 ⟨Q,_,μ5,b,μ6,R7,E8,h8,fun j H9 e9 R9=>⟨j,rfl,e9,R9⟩⟩) (fun ok s9 ⟨H9,I9,j,B,e9,R9⟩=>?_) fun _ _ z=>z
    subst B
    cases ok with
    | false=>
     rw [if_neg Ux]
     exact again I9 (e5.trans e9) R9 (E8.mono e9) h9
    | true=>
     rw [if_pos rfl]
     obtain ⟨⟨dy,μ7⟩,h11,h12⟩:=Tu.mp h9
     obtain ⟨μ8,h13,h14⟩:=Tu.mp h12
     refine UH (he _ _ _ _ _ s9 _ H9 (fun y H'=>∃ A,Ext j μ6.length H9 A μ7.length H'/\Rp X.K A H' μ7/\IsD X.K A μ7.length H' y dy) I9 ⟨j,_,μ6,dy,μ7,R9,E8.mono e9,h11,fun A y H10 e10 R10 i10=>⟨A,e10,R10,i10⟩⟩)
      (fun u' s10 ⟨y,H10,I10,ry,A,e10,R10,i10⟩=>?_) fun _ _ z=>z
     unfold nI at h13
     split at h13
     ·rename_i zs hz
      split at h13
      ·rename_i hl
       cases h13
       obtain ⟨vs,h15,h16⟩:=R10.lst _ zs hz
       have eall:=(e5.trans e9).trans e10
       have hp:A a.length=G.heap.objs.size:=by rw [eall.pi a.length (by simp),q2]
       obtain ⟨e11,R11⟩:=R10.put (a:=a.length) (c:=.lst (zs++[dy])) (o:=.lst (vs++[y])) (TB.mp hz).1 h15 (.inl ⟨vs,rfl⟩) (h16.append (.cons i10 .nil))
       rw [hp] at h15 e11 R11
       refine UH (A6 (X:=cG X scope cl s3.heap.objs.size (bG xs X.N++xs) s3 H3 l) _ s10 _ H10 (.ref G.heap.objs.size) [y] (.ref G.heap.objs.size) [u'] (fun _ H'=>H'=aL H10 G.heap.objs.size (.lst (vs++[y]))) I10 rfl (.cons ry .nil)
        ⟨G.heap.objs.size,vs,y,rfl,rfl,h15,by rw [h16.length];exact hl,rfl⟩) (fun _ s11 ⟨_,H11,I11,_,z⟩=>?_) fun _ _ z=>z
       subst z
       exact again I11 (eall.trans e11) R11 ((E8.mono (e9.trans e10)).mono e11) h14
      ·cases h13
     ·cases h13
 have l4:=loop { s3 with heap:=h₁,toks:=G.toks+([]:List (Str×Value)).length } ⟨_,rfl⟩
 have hst4:tn 0 h₁:=T.keep 0 _ _ st3 fun b B o e=>hk1 b o e
 subst hs3
 exact codeAny_compStart_list l4 (T.self _ 0 _ _ _ hst4 l4)
theorem LB {q:Cx->Prop}(O:CompOk X scope cl xs)(N:∀ a3F σ H s a,Inv X a3F σ H s->q (cG X scope cl s.heap.objs.size (bG xs X.N++xs) s H a))(J:o6 q X tg iter (iG X.K mi))(c:∀ d u z,bd d u=some z->z.length=xs.length)(G:∀ C s₀ H₀ a,PG (cG X scope cl C (bG xs X.N++xs) s₀ H₀ a) tg (fB X.K (gB X.N.length bd)))
  (hc:∀ C s₀ H₀ a,l7 (cG X scope cl C (bG xs X.N++xs) s₀ H₀ a) ifs mc)(B:∀ C s₀ H₀ a,PE (cG X scope cl C (bG xs X.N++xs) s₀ H₀ a) elt (tM X.K me))
  (T:∀ x,WH iter X.env x=pure x):PE X (.ListComp elt [⟨tg,iter,ifs,0⟩] scope pos) (tM X.K (l8 bd mi mc me)):=by
 intro a3F s σ H Q I hw
 obtain ⟨π,ρ,u,d,μ',R,E,K,k⟩:=hw
 rw [eval_ListComp]
 refine B8 (use:=none) O N J c G hc B T I R E K fun p C j l s' w v Y i U M h n r back=>?_
 obtain ⟨m,L⟩:=i
 exact ⟨m,L,fun y Z=>⟨.ref p,l,back y (fun b o A e=>(Z.2 b A).trans e),rfl,k j _ l w v Y⟩⟩
theorem LC (O:CompOk X scope cl xs)(a:X.calm=true)(i:PI X tg iter (iG X.K mi))(c:∀ d l z,bd d l=some z->z.length=xs.length)(h:∀ C s₀ H₀ b,PG (cG X scope cl C (bG xs X.N++xs) s₀ H₀ b) tg (fB X.K (gB X.N.length bd)))
  (hc:∀ C s₀ H₀ b,l7 (cG X scope cl C (bG xs X.N++xs) s₀ H₀ b) ifs mc)(e:∀ C s₀ H₀ b,PE (cG X scope cl C (bG xs X.N++xs) s₀ H₀ b) elt (tM X.K me))
  (j:∀ x,WH iter X.env x=pure x):PE X (.ListComp elt [⟨tg,iter,ifs,0⟩] scope pos) (tM X.K (l8 bd mi mc me)):=LB O (fun _ _ _ _ _ _=>a) i c h hc e j
theorem LF {i:Nat}{y:Str}{py h:Vt}(O:CompOk X scope cl xs)(hN:X.N.Nodup)(j:X.calm=true)(hi:PI X tg iter (iG X.K mi))(G:∀ d Z z,bd d Z=some z->z.length=xs.length)(hg:∀ C s₀ H₀ q,PG (cG X scope cl C (bG xs X.N++xs) s₀ H₀ q) tg (fB X.K (gB X.N.length bd)))
  (hc:∀ C s₀ H₀ q,l7 (cG X scope cl C (bG xs X.N++xs) s₀ H₀ q) ifs mc)(he:∀ C s₀ H₀ q,PE (cG X scope cl C (bG xs X.N++xs) s₀ H₀ q) elt (tM X.K me))
  (hs:∀ x,WH iter X.env x=pure x)(hy:X.N[i]? = some y)(Y:X.env.scope.names.lookup y=some .local)
  (L:Xx (.ListComp elt [⟨tg,iter,ifs,0⟩] scope pos) (some (.Name y py)) h.line X.env=pure true) :
  PS X (.Assign [.Name y py] (.ListComp elt [⟨tg,iter,ifs,0⟩] scope pos) h) (cY X.K (aP i (l8 bd mi mc me))):=by
 intro n s σ H EN I hw
 obtain ⟨π,ρ,Z,fl,ρ',μ',R,E,J,k⟩:=hw
 obtain ⟨⟨d,μ1⟩,h1,J⟩:=Tz.mp J
 cases J
 rw [exec_Assign_Name_used _ _ _ _ L]
 refine Tx (a0C ?_)
 refine Tx (Tx ?_)
 refine B8 (use:=some (Zd (.Name y py) X.env)) (QQ:=fun _ v=>Ua (Ul X.prog X.w) X.A (pure ()) (fun _ N=>Ua (Ul X.prog X.w) X.A (pure Flow.next) (SP X n EN) X.xe N) X.xe v) O (fun _ _ _ _ _ _=>j) hi G hg hc he hs I R E h1 fun p C T w v U R1 i1 K M r l c u back=>?_
 obtain ⟨m,hn⟩:=K
 have I1:Inv X n σ w v:=back v.heap fun b o _ e=>e
 show Ua (Ul X.prog X.w) X.A (Zd (.Name y py) X.env (.ref p)) _ X.xe v
 refine a2u ?_
 refine rH I1 hN hy (.inl Y) (show RelV (.ref p) (.ref p) from rfl) (fun s2 I2 ⟨a,sb,B⟩=>?_) (.inr Y)
 have A:C≠a:=by
  rcases B with rfl|B
  ·exact r
  ·exact UG (c _ _ B)
 refine ⟨m,hn.sameBut sb A,fun h' Q=>TN (TN ?_)⟩
 refine ⟨σ.set i (some (.ref p)),w,I2.turned (t':=s2.toks) (fun b o hb e=>(Q.2 b hb).trans e) l r (.inr M) c u,?_⟩
 exact k T _ w U R1 ((E.mono U).set i1 i)
end
end L3
namespace L3
open PySem L2
noncomputable def bH:ME:=fun _ _=>none
noncomputable def l9:MT:=fun _ _=>none
noncomputable def bW:MS:=fun _ _=>none
section
variable {X:Cx}{e a b c o:Expr}{m m1 m2 ma mb mc:ME}{pos:Vt}{mt mu:MT}{bK es:List Expr}{ms:MA}{n:Nat}
theorem bL:QE X e bH:=⟨fun a3F s σ H Q I h=>by
 obtain ⟨p,q,l,d,j,R,E,i,k⟩:=h
 cases i⟩
theorem wK:QT X e l9:=⟨fun a3F s σ H Q I h=>by
 obtain ⟨p,q,l,d,j,R,E,i,k⟩:=h
 cases i⟩
theorem LG:QW X e l9:=⟨fun l a3F s σ H Q I h=>by
 obtain ⟨q,r,p,d,j,R,E,i,k⟩:=h
 cases i⟩
theorem cH {st:Stmt}:QS X st bW:=⟨fun a3F s σ H D I h=>by
 obtain ⟨q,r,p,l,j,i,R,E,d,k⟩:=h
 cases d⟩
theorem sF {g:MG}(p:∀ d l j,g d l j=none):QG X e g:=⟨fun a3F s σ H v u Q I r h=>by
 obtain ⟨w,l,j,d,q,R,E,hd,i,k⟩:=h
 rw [p] at i
 cases i⟩
theorem mB (u:QE X e m1)(v:QE X e m2)(h:∀ j i r,m j i=some r->m1 j i=some r\/m2 j i=some r):QE X e m:=⟨fun a3F s σ H Q I q=>by
 obtain ⟨p,j,i,d,l,R,E,w,k⟩:=q
 rcases h j i _ w with z|z
 ·exact u.h a3F s σ H Q I ⟨p,j,i,d,l,R,E,z,k⟩
 ·exact v.h a3F s σ H Q I ⟨p,j,i,d,l,R,E,z,k⟩⟩
theorem nQ {m m1 m2:MT}(u:QT X e m1)(v:QT X e m2)(h:∀ j i r,m j i=some r->m1 j i=some r\/m2 j i=some r):QT X e m:=⟨fun a3F s σ H Q I q=>by
 obtain ⟨p,j,i,d,l,R,E,w,k⟩:=q
 rcases h j i _ w with z|z
 ·exact u.h a3F s σ H Q I ⟨p,j,i,d,l,R,E,z,k⟩
 ·exact v.h a3F s σ H Q I ⟨p,j,i,d,l,R,E,z,k⟩⟩
theorem gC {f l s:D->D->Hm->Option (D×Hm)}(h:∀ x y d r,f x y d=some r->l x y d=some r\/s x y d=some r) :
  ∀ j d r,aC f ma mb j d=some r->aC l ma mb j d=some r\/aC s ma mb j d=some r:=by
 intro j d r i
 obtain ⟨p,u,i⟩:=Tu.mp i
 obtain ⟨q,v,i⟩:=Tu.mp i
 rcases h _ _ _ _ i with z|z
 ·exact .inl (Tu.mpr ⟨p,u,Tu.mpr ⟨q,v,z⟩⟩)
 ·exact .inr (Tu.mpr ⟨p,u,Tu.mpr ⟨q,v,z⟩⟩)
theorem nR (h:∀ i d r,m i d=some r->m1 i d=some r\/m2 i d=some r):∀ i d r,aR m i d=some r->aR m1 i d=some r\/aR m2 i d=some r:=by
 intro i d r j
 obtain ⟨p,l,j⟩:=Tu.mp j
 rcases h _ _ _ l with z|z
 ·exact .inl (Tu.mpr ⟨p,z,j⟩)
 ·exact .inr (Tu.mpr ⟨p,z,j⟩)
noncomputable def wL:List D->Option (List Int)
 | []=>some []
 | .int i::r=>(wL r).map (i::·)
 | _=>none
noncomputable def eE:D->Option (List Int)
 | .tup ds=>wL ds
 | _=>none
noncomputable def b7 (d:List (List Int×D))(k:List Int):Option D:=(d.find? fun p=>decide (p.1=k)).map (·.2)
noncomputable def eP (h:List (List Int×D))(k:List Int)(d:D):List (List Int×D):=if (b7 h k).isSome then h.map (fun p=>if p.1=k then (p.1,d) else p) else h++[(k,d)]
noncomputable def aG:D->D->Hm->Option (D×Hm):=fun x y h=>match x with
 | .loc a=>match h[a]? with
  | some (.dT kvs)=>(eE y).bind fun k=>(b7 kvs k).map fun d=>(d,h)
  | some (.dF kvs)=>(eE y).bind fun k=>(b7 kvs k).map fun d=>(d,h)
  | _=>f7 x y h
 | _=>f7 x y h
structure TabOk (X:Cx)(x:Str)(kvs:List (aM×D)):Prop where
 ex:∃ (p:Addr)(vs:List (aM×V))(ws:List (aM×Value)),X.mg x=some (.ref p)/\(∀ h:UU,X.K.In h->h.DictOf (lT X.prog X.w) p ws)/\KV vs ws/\∀ π n H,IsKs X.K π n H vs kvs
theorem B9 {a3F:List (Addr×Obj)}{σ:St}{H:Hp}{s:TC}(I:Inv X a3F σ H s){p:Addr}{ob:Obj}(h:X.K.lookup p=some ob):H p=none:=(I.bs p ob (I.mod.kin p ob h)).2
theorem Cb {K:Tv}{π:Nat->Addr}{H:Hp}{j:Hm}(R:Rp K π H j){d:Nat}(s:d<j.length):∃ u,H (π d)=some u/\(∀ vs,u≠.tup vs)/\∀ ob v,(∀ l,v≠HO.ext l)->u≠.frz ob v:=by
 cases q:j[d]? with
 | none=>exact absurd (UO.mp q) (by omega)
 | some p=>
  cases p with
  | lst i=>obtain ⟨vs,h,_⟩:=R.lst d i q;exact ⟨_,h,(fun _ z=>nomatch z),fun _ _ _ z=>nomatch z⟩
  | dK i=>obtain ⟨vs,h,_⟩:=R.dK d i q;exact ⟨_,h,(fun _ z=>nomatch z),fun _ _ _ z=>nomatch z⟩
  | st i=>obtain ⟨vs,h,_⟩:=R.st d i q;exact ⟨_,h,(fun _ z=>nomatch z),fun _ _ _ z=>nomatch z⟩
  | dT i=>obtain ⟨vs,h,_⟩:=R.dT d i q;exact ⟨_,h,(fun _ z=>nomatch z),fun _ _ _ z=>nomatch z⟩
  | dF i=>obtain ⟨ob,vs,h,_⟩:=R.dF d i q;exact ⟨_,h,(fun _ z=>nomatch z),fun _ _ n z=>n _ (by cases z;rfl)⟩
  | exc x r ds=>obtain ⟨ob,l,h,_⟩:=R.exc d x r ds q;exact ⟨_,h,(fun _ z=>nomatch z),fun _ _ n z=>n _ (by cases z;rfl)⟩
  | ins x fs=>obtain ⟨_,h,_,_,_,rfl,_⟩:=R.ins d x fs q;exact ⟨_,h,(fun _ z=>nomatch z),fun _ _ _ z=>nomatch z⟩
section
variable {a3F:List (Addr×Obj)}{σ:St}{H:Hp}{s:TC}{π:Nat->Addr}{μ:Hm}
theorem Cd (I:Inv X a3F σ H s)(R:Rp X.K π H μ){i:Nat}(p:i<μ.length){vs:List V}(h:SqT X.K H (π i) vs):False:=by
 obtain ⟨u,d,j,l⟩:=Cb R p
 rcases h with (h|⟨v,h⟩)|⟨v,r,n,q,_⟩
 ·rw [d] at h;exact j _ (T5 h)
 ·rw [d] at h;exact l _ (.tup vs) (fun w z=>nomatch z) (T5 h)
 ·rw [B9 I q] at d;cases d
theorem Ce (I:Inv X a3F σ H s)(R:Rp X.K π H μ){i:Nat}(l:i<μ.length){vs:List V}(h:RoL X.K H (π i) vs):False:=by
 obtain ⟨u,d,v,j⟩:=Cb R l
 rcases h with ⟨r,h⟩|⟨r,q,n,p,_⟩
 ·rw [d] at h;exact j _ (.lst vs) (fun w z=>nomatch z) (T5 h)
 ·rw [B9 I p] at d;cases d
theorem Cf (I:Inv X a3F σ H s){p:Addr}{vs ws:List V}(h:SqT X.K H p vs)(h':RoL X.K H p ws):False:=by
 obtain ⟨i,_,t,_⟩:=I.tuple h
 obtain ⟨d,_,l,_⟩:=I.list h'.sq
 exact absurd rfl (VI l.isList t)
mutual
theorem Cg (I:Inv X a3F σ H s)(R:Rp X.K π H μ){v:V}{d d':D}:IsD X.K π μ.length H v d->IsD X.K π μ.length H v d'->d=d'
 | .non,h'=>by cases h';rfl
 | .bl _,h'=>by cases h';rfl
 | .int _,h'=>by cases h';rfl
 | .str _,h'=>by cases h';rfl
 | .ty _,h'=>by cases h';rfl
 | .tup h t,h'=>by
  cases h' with
  | tup i j=>
   have:=I.tuple_inj h i
   subst this
   rw [wM I R t j]
  | rol i j=>exact (Cf I h i).elim
  | loc i=>exact (Cd I R i h).elim
 | .rol h t,h'=>by
  cases h' with
  | tup i j=>exact (Cf I i h).elim
  | rol i j=>
   have:=I.list_inj h.sq i.sq
   subst this
   rw [wM I R t j]
  | loc i=>exact (Ce I R i h).elim
 | .loc (a:=a1) ha,h'=>by
  generalize hz:V.ref (π a1)=z at h'
  cases h' with
  | tup i j=>cases hz;exact (Cd I R ha i).elim
  | rol i j=>cases hz;exact (Ce I R ha i).elim
  | loc i=>
   have:=R.inj _ _ ha i (V.ref.inj hz)
   rw [this]
  | _=>cases hz
theorem wM (I:Inv X a3F σ H s)(R:Rp X.K π H μ){vs:List V}{ds d:List D}:IsDs X.K π μ.length H vs ds->IsDs X.K π μ.length H vs d->ds=d
 | .nil,h'=>by cases h';rfl
 | .cons h t,h'=>by
  cases h' with
  | cons i j=>rw [Cg I R h i,wM I R t j]
end
end
noncomputable def jZ (a:Hm)(x:D):List D->Option Bool
 | []=>some false
 | y::r=>(cR 8 a y x).bind fun b=>(jZ a x r).map fun c=>b||c
noncomputable def kX (a:Bool):D->D->Hm->Option (D×Hm):=fun x y c=>(bO c y).bind fun d=>(jZ c x d).map fun b=>(.bl (if a then !b else b),c)
noncomputable def wN (K:Tv)(c:Bool):R2:=fun x y H Q=>∃ π a d e h b,Rp K π H a/\IsD K π a.length H x d/\IsD K π a.length H y e/\bO a e=some h/\jZ a d h=some b/\Q (.bl (if c then !b else b)) H
theorem sG {K:Tv}{c:Bool}:cQ K (kX c) (wN K c):=by
 intro e H q x y d n o p Q R j l a k
 obtain ⟨m,h,a⟩:=Tu.mp a
 obtain ⟨b,i,a⟩:=Tz.mp a
 cases a
 exact ⟨e,_,x,y,m,b,R,j,l,h,i,k e _ H .refl R (.bl _)⟩
theorem sH {a3F:List (Addr×Obj)}{σ:St}{H:Hp}{s:TC}{π:Nat->Addr}{i:Hm}(I:Inv X a3F σ H s)(R:Rp X.K π H i){A:Ur}(T:A.units+8<V6){x:V}{v:Value}{n:D}(rx:RelV x v)(ix:IsD X.K π i.length H x n) :
  ∀ {e:List D}{vs:List V}{us:List Value}{b:Bool},IsDs X.K π i.length H vs e->Vals vs us->jZ i n e=some b->
   ∃ g:Value->Bool,(∀ u∈us,a0F A s u v (g u))/\us.any g=b:=by
 classical
 intro e vs us b l m d
 have p:∀ {e:List D}{vs:List V}{us:List Value}{b:Bool},IsDs X.K π i.length H vs e->Vals vs us->jZ i n e=some b->(∀ u∈us,∃ c,a0F A s u v c/\∃ w o,RelV w u/\IsD X.K π i.length H w o/\cR 8 i o n=some c):=by
  intro e
  induction e with
  | nil=>
   intro vs us b l m d u a
   cases l
   cases m
   cases a
  | cons y e K=>
   intro vs us b l m d u a
   cases l with
   | cons h t=>
    cases m with
    | cons r rt=>
     obtain ⟨c,E,d⟩:=Tu.mp d
     obtain ⟨N,G,d⟩:=Tz.mp d
     rcases Uq.mp a with rfl|a
     ·exact ⟨c,vY I R 8 T r rx h ix E,_,_,r,h,E⟩
     ·exact K t rt G u a
 have q:=p l m d
 refine ⟨fun u=>if h:u∈us then YH (q u h) else false,fun u a=>?_,?_⟩
 ·simp only [dif_pos a]
  exact (ZA (q u a)).1
 ·have key:∀ u (h:u∈us) w o c,RelV w u->IsD X.K π i.length H w o->cR 8 i o n=some c->YH (q u h)=c:=by
   intro u h w o c L Z M
   obtain ⟨_,w2,O,r2,Y,Q⟩:=ZA (q u h)
   have:w2=w:=r2.inj L
   subst this
   have:=Cg I R Y Z
   subst this
   rw [Q] at M
   exact T5 M
  have B:∀ {e:List D}{vs:List V}{j:List Value}{b:Bool},(∀ u∈j,u∈us)->IsDs X.K π i.length H vs e->Vals vs j->jZ i n e=some b->j.any (fun u=>if h:u∈us then YH (q u h) else false)=b:=by
   intro e
   induction e with
   | nil=>
    intro vs j b J l m d
    cases l
    cases m
    cases d
    rfl
   | cons y e K=>
    intro vs j b J l m d
    cases l with
    | cons h t=>
     cases m with
     | @cons _ u _ us2 r rt=>
      obtain ⟨c,E,d⟩:=Tu.mp d
      obtain ⟨N,G,d⟩:=Tz.mp d
      have kU:u∈us:=J u (UP ..)
      rw [Wf,K (fun z U=>J z (UB _ U)) t rt G,dif_pos kU,key u kU _ _ c r h E]
      exact d
  exact B (fun _ h=>h) l m d
theorem sI {k:Nat}{A:Ur}(r:Room k A):A.units+9<V6:=by have:=r.un;omega
theorem Ci (J:X.A.units+9<V6):OpR X (UY .In) (wN X.K false):=by
 intro n s O H x y v u Q I m B h
 obtain ⟨N,M,E,G,L,b,R,l,A,o,j,q⟩:=h
 obtain ⟨p,K,rfl,c,hd⟩:=pP R A o
 cases B
 rcases c with c|c
 ·obtain ⟨a,r,i,z⟩:=I.list c
  obtain ⟨g,d,e⟩:=sH I R (A:=X.A.in1) (by rw [lY];omega) m l hd r j
  refine SeqAt.in_listAt g i.isList (fun w hw=>d w (by simpa using hw)) ⟨.bl _,H,I,rfl,?_⟩
  rw [show a.toArray.any g=a.any g by simp,e]
  exact q
 ·obtain ⟨a,r,i,z⟩:=I.tuple c
  obtain ⟨g,d,e⟩:=sH I R (A:=X.A.in1) (by rw [lY];omega) m l hd r j
  refine SeqAt.in_tupleAt g i (fun w hw=>d w (by simpa using hw)) ⟨.bl _,H,I,rfl,?_⟩
  rw [show a.toArray.any g=a.any g by simp,e]
  exact q
theorem Cj (J:X.A.units+9<V6):OpR X (UY .NotIn) (wN X.K true):=by
 intro n s O H x y v u Q I m B h
 obtain ⟨N,M,E,G,L,b,R,l,A,o,j,q⟩:=h
 obtain ⟨p,K,rfl,c,hd⟩:=pP R A o
 cases B
 rcases c with c|c
 ·obtain ⟨a,r,i,z⟩:=I.list c
  obtain ⟨g,d,e⟩:=sH I R (A:=X.A.in1) (by rw [lY];omega) m l hd r j
  refine SeqAt.notIn_listAt g i.isList (fun w hw=>d w (by simpa using hw)) ⟨.bl _,H,I,rfl,?_⟩
  rw [show a.toArray.any g=a.any g by simp,e]
  exact q
 ·obtain ⟨a,r,i,z⟩:=I.tuple c
  obtain ⟨g,d,e⟩:=sH I R (A:=X.A.in1) (by rw [lY];omega) m l hd r j
  refine SeqAt.notIn_tupleAt g i (fun w hw=>d w (by simpa using hw)) ⟨.bl _,H,I,rfl,?_⟩
  rw [show a.toArray.any g=a.any g by simp,e]
  exact q
noncomputable def cM (b:Bool):D->D->Hm->Option (D×Hm)
 | .str i,.str j,μ=>some (.bl (if b then !(!(Vr j i 0 j.length 1).isEmpty) else !(Vr j i 0 j.length 1).isEmpty),μ)
 | x,.loc a,μ=>match μ[a]? with
  | some (.dT kvs)=>(eE x).map fun k=>(.bl (if b then !(b7 kvs k).isSome else (b7 kvs k).isSome),μ)
  | some (.dF kvs)=>(eE x).map fun k=>(.bl (if b then !(b7 kvs k).isSome else (b7 kvs k).isSome),μ)
  | _=>kX b x (.loc a) μ
 | x,y,μ=>kX b x y μ
noncomputable def wO:D->D->Hm->Option (D×Hm)
 | .str i,.str j,μ=>some (.bl (!(!(Vr j i 0 j.length 1).isEmpty)),μ)
 | _,_,_=>none
theorem Ck {K:Tv}:cQ K wO (fun x y H Q=>∃ i j,x=.str i/\y=.str j/\Q (.bl (!(!(Vr j i 0 j.length 1).isEmpty))) H):=by
 intro h H n x y d e l m Q R b c a k
 unfold wO at a
 split at a
 ·cases a
  cases b
  cases c
  exact ⟨_,_,rfl,rfl,k h _ H .refl R (.bl _)⟩
 ·cases a
noncomputable def i8 (a:Bool):D->D->Hm->Option (D×Hm)
 | x,.non,μ=>some (.bl (match x with|.non=>!a|_=>a),μ)
 | _,_,_=>none
theorem Cm {K:Tv}:cQ K (i8 false) (fun x y H Q=>y=.non/\Q (.bl (decide (x=.non))) H):=by
 intro h H l x y d e i j Q R b c a k
 unfold i8 at a
 split at a
 ·cases a
  cases c
  refine ⟨rfl,?_⟩
  cases b<;>exact k h _ H .refl R (.bl _)
 ·cases a
theorem Cn {K:Tv}:cQ K (i8 true) (fun x y H Q=>y=.non/\Q (.bl (!decide (x=.non))) H):=by
 intro h H l x y d e i j Q R b c a k
 unfold i8 at a
 split at a
 ·cases a
  cases c
  refine ⟨rfl,?_⟩
  cases b<;>exact k h _ H .refl R (.bl _)
 ·cases a
theorem LH (c:QE X a ma)(d:QE X b mb):QE X (.Compare a [.Is] [b] pos) (aC (i8 false) ma mb):=⟨eC Az Cm c.h d.h (cV _)⟩
theorem LI (c:QE X a ma)(d:QE X b mb):QE X (.Compare a [.IsNot] [b] pos) (aC (i8 true) ma mb):=⟨eC AA Cn c.h d.h (cV _)⟩
theorem LJ (c:QE X a ma)(d:QE X b mb):QT X (.Compare a [.Is] [b] pos) (aR (aC (i8 false) ma mb)):=⟨eD Az Cm c.h d.h (cV _)⟩
theorem LK (c:QE X a ma)(d:QE X b mb):QT X (.Compare a [.IsNot] [b] pos) (aR (aC (i8 true) ma mb)):=⟨eD AA Cn c.h d.h (cV _)⟩
end
end L3
namespace L3
open PySem L2
section
variable {X:Cx}{e a b c o:Expr}{m m1 m2 ma mb mc mo:ME}{pos apos cpos:Vt}{mt mu:MT}{bK es:List Expr}{ms:MA}{n:Nat}
noncomputable def j0 (d:Hm):D->Bool
 | .rol _=>true
 | .loc a=>match d[a]? with|some (.lst _)=>true|_=>false
 | _=>false
noncomputable def gD (f:D->List D->Hm->Option (D×Hm))(mo:ME)(ms:MA):ME:=fun d h=>(mo d h).bind fun p=>match j0 p.2 p.1 with
 | true=>(ms d p.2).bind fun q=>f p.1 q.1 q.2
 | false=>none
noncomputable def i9 (K:Tv)(f:D->List D->Hm->Option (D×Hm))(r:V->List V->Hp->VK->Prop):Prop:=
 ∀ j H h x p d i v l Q,Rp K j H h->IsD K j h.length H v x->IsDs K j h.length H l p->f x p h=some (d,i)->KC K Q j h.length H d i->r v l H Q
theorem LL {K:Tv}{π:Nat->Addr}{H:Hp}{d:Hm}{v:V}{x:D}(R:Rp K π H d)(h:IsD K π d.length H v x)(e:j0 d x=true):vJ K "list" v H:=by
 cases h with
 | rol h t=>exact .inl ⟨rfl,_,h.sq⟩
 | @loc a q=>
  simp only [j0] at e
  split at e
  ·rename_i p j
   obtain ⟨l,i,_⟩:=R.lst a p j
   exact .inl ⟨rfl,l,.of i⟩
  ·cases e
 | _=>cases e
theorem LM {K:Tv}{f:D->List D->Hm->Option (D×Hm)}{r:V->List V->Hp->VK->Prop}(I:i9 K f r):∀ σ H Q,tM K (gD f mo ms) σ H Q->A4 K "list" r (tM K mo) (eI K ms) σ H Q:=by
 rintro σ H Q ⟨T,z,O,d,l,R,E,h,k⟩
 obtain ⟨⟨x,i⟩,B,h⟩:=Tu.mp h
 dsimp only at h
 split at h
 ·rename_i J
  obtain ⟨⟨y,j⟩,G,h⟩:=Tu.mp h
  refine ⟨T,z,O,x,i,R,E,B,fun p M U u s w=>⟨LL s w J,p,z,i,y,j,s,E.mono u,G,fun q N A v R2 L=>?_⟩⟩
  exact I q A j x y d l M N Q R2 (w.mono v) L h (k.after (u.trans v))
 ·cases h
noncomputable def eW:Expr->Bool
 | .Call (.Name _ _) [] [] _=>false
 | _=>true
theorem j4 {o:Expr}{j:Str}{env:XU}{d:a1x Value}(h:eW o=true):Wl o j env d=d:=by
 cases o with
 | Call f i l p=>
  cases f with
  | Name id q=>
   cases i with
   | nil=>
    cases l with
    | nil=>cases h
    | cons _ _=>rfl
   | cons _ _=>rfl
  | _=>rfl
 | _=>rfl
theorem Co {e:Expr}{es:List Expr}{env:XU}{cpos:Vt}(h:(e::es).all cD=true)(j:(e::es).length<30) :
  ((VF cpos (Ue (e::es) env)).all (fun x=>!x.1)&&(XJ cpos (Wt [] env)).all (fun x=>x.1.isSome)
   && decide ((e::es).length+([]:List WJ).length+(if ([]:List WJ).isEmpty then 0 else 1)<30))=true:=by
 have d:(VF cpos (Ue (e::es) env)).all (fun x=>!x.1)=true:=by
  have:=fQ (pos:=cpos) (env:=env) h
  rw [Z2]
  simpa using this
 rw [d]
 have i:(e::es).length+([]:List WJ).length+(if ([]:List WJ).isEmpty then 0 else 1)<30:=by
  show (e::es).length+0+0<30
  omega
 rw [decide_eq_true i]
 rfl
theorem Cp {f:D->List D->Hm->Option (D×Hm)}{r:V->List V->Hp->VK->Prop}{name:Str}{id:String}(slot:Slot "list" name id) (i:a0Z (.builtin id)=pure (.type "method_descriptor")) (q:jQ X id r)(l:i9 X.K f r)
  (u:QE X o mo)(j:QA X (e::es) ms n)(v:eW o=true)(p:(apos.endLine == cpos.line)=true)(s:(e::es).length<30):QE X (.Call (.Attribute o name apos) (e::es) [] cpos) (gD f mo ms):=by
 have h:=j.s
 have d:=h
 rw [Uy,Tw] at d
 exact ⟨cP (Iv PySem.F.plainAttrs_list slot i q u.h j.h (j4 v) (Co h s) p (dD d.1) (fQ d.2)) (LM l)⟩
noncomputable def g7:D->List D->Hm->Option (D×Hm)
 | .loc a,[y],μ=>(nI μ a y).map fun d=>(.non,d)
 | _,_,_=>none
noncomputable def nS:D->List D->Hm->Option (D×Hm)
 | .loc a,[.loc b],μ=>match μ[a]?,μ[b]? with
  | some (.lst xs),some (.lst ys)=>if xs.length+ys.length<=TZ then some (.non,μ.set a (.lst (xs++ys))) else none
  | _,_=>none
 | _,_,_=>none
theorem LN {K:Tv}{π:Nat->Addr}{n:Nat}{H:Hp}{vs:List V}{ds:List D}(h:IsDs K π n H vs ds):IsDs K π n H vs.reverse ds.reverse:=by
 induction ds generalizing vs with
 | nil=>cases h;exact .nil
 | cons d ds i=>
  cases h with
  | cons h t=>
   rw [Wx,Wx]
   exact (i t).append (.cons h .nil)
theorem LO {K:Tv}:i9 K g7 A5:=by
 intro J H N x M d G v L Q R B j i k
 unfold g7 at i
 split at i
 ·rename_i a y
  obtain ⟨I,h,i⟩:=Tz.mp i
  cases i
  unfold nI at h
  split at h
  ·rename_i s r
   split at h
   ·rename_i z
    cases h
    obtain ⟨l,p,q⟩:=R.lst a s r
    cases B
    cases j with
    | cons E A=>
     cases A
     obtain ⟨w,u⟩:=R.put (a:=a) (c:=.lst (s++[y])) (o:=.lst (l++[_])) (TB.mp r).1 p (.inl ⟨l,rfl⟩) (q.append (.cons E .nil))
     exact ⟨_,l,_,rfl,rfl,p,by rw [q.length];exact z,k J _ _ w u .non⟩
   ·cases h
  ·cases h
 ·cases i
theorem LP {K:Tv}:i9 K nS A7:=by
 intro M H T x O d L v N Q R I i h k
 unfold nS at h
 split at h
 ·rename_i a b
  split at h
  ·rename_i w u r E
   split at h
   ·rename_i B
    cases h
    obtain ⟨j,l,p⟩:=R.lst a w r
    obtain ⟨s,A,q⟩:=R.lst b u E
    cases I
    cases i with
    | cons J G=>
     cases G
     cases J
     obtain ⟨z,y⟩:=R.put (a:=a) (c:=.lst (w++u)) (o:=.lst (j++s)) (TB.mp r).1 l (.inl ⟨j,rfl⟩) (p.append q)
     exact ⟨_,_,j,s,rfl,rfl,l,A,by rw [p.length,q.length];exact B,k M _ _ z y .non⟩
   ·cases h
  ·cases h
 ·cases h
noncomputable def nU (d:Hm):D->Option Bool
 | .non=>some false
 | .bl b=>some b
 | .int i=>some (i != 0)
 | .str z=>if z.length<=TZ then some ((z.length:Int) != 0) else none
 | .tup xs=>some (!xs.isEmpty)
 | .rol xs=>some (!xs.isEmpty)
 | .loc a=>match d[a]? with|some (.lst xs)=>some (!xs.isEmpty)|some (.dK kvs)=>some (!kvs.isEmpty)|_=>none
 | .ty _=>none
theorem sJ {i j:Type}{xs:List i}{d:List j}(h:xs.length=d.length):xs.isEmpty=d.isEmpty:=by
 cases xs<;>cases d<;>first|rfl|cases h
theorem LQ {K:Tv}{π:Nat->Addr}{H:Hp}{r:Hm}{v:V}{x:D}{b:Bool}(R:Rp K π H r)(h:IsD K π r.length H v x)(e:nU r x=some b):u4 K v H b:=by
 cases h with
 | non=>cases e;rfl
 | bl c=>cases e;rfl
 | int i=>cases e;rfl
 | str z=>
  simp only [nU] at e
  split at e
  ·rename_i s;cases e;exact ⟨s,rfl⟩
  ·cases e
 | tup h t=>cases e;exact .inr (.inl ⟨_,h,by rw [sJ t.length]⟩)
 | rol h t=>cases e;exact .inl ⟨_,h.sq,by rw [sJ t.length]⟩
 | @loc a w=>
  simp only [nU] at e
  split at e
  ·rename_i u l
   cases e
   obtain ⟨q,d,j⟩:=R.lst a u l
   exact .inl ⟨q,.of d,by rw [sJ j.length]⟩
  ·rename_i p l
   cases e
   obtain ⟨q,d,j,_⟩:=R.dK a p l
   refine .inr (.inr ⟨q,d,?_⟩)
   have:=congrArg UJ j
   rw [TF,TF] at this
   rw [sJ this]
  ·cases e
 | ty n=>cases e
noncomputable def dX (m:ME):MT:=fun h d=>(m h d).bind fun p=>(nU p.2 p.1).map fun b=>(b,p.2)
theorem LR (h:QE X e m)(s:pR e=true):QT X e (dX m):=⟨pI (Hq h.h (B0 s)) (by
 rintro I H Q ⟨z,A,v,b,w,R,E,d,k⟩
 obtain ⟨⟨x,y⟩,q,d⟩:=Tu.mp d
 obtain ⟨B,r,d⟩:=Tz.mp d
 cases d
 exact ⟨z,A,v,x,_,R,E,q,fun i G l p j u=>⟨_,LQ j u r,k i l p j⟩⟩)⟩
theorem LS {k:Nat}{f:Addr}{l:Vc}{ps:List Str}{q:MF}{x:Str}{p:Vt}(F:FnOk X.prog X.w X.K X.mg X.base dC k f l ps (dI X.K 0 q))(w:Room k X.A)(h:X.mg x=some (.ref f))
  (v:U8 X.K (.ref f)=true)(s:Binds X.K l ps [])(u:Gl X x)(i:(x == ("__debug__":Str))=false):QE X (.Call (.Name x p) [] [] pos) (aI q aD):=
 ⟨cP (HP F w u h v s .nil (E:=E0) pD i) (by
  rintro I H Q ⟨A,G,y,d,j,R,E,h,k⟩
  obtain ⟨⟨B,z⟩,r,h⟩:=Tu.mp h
  cases r
  exact ⟨rfl,A,[],y,d,j,R,.nil,h,k⟩)⟩
noncomputable def pS (c:MT)(b:MS):Nat->MS
 | 0,_,_=>none
 | n+1,ρ,μ=>(c ρ μ).bind fun p=>match p.1 with
  | false=>some (.nx,ρ,p.2)
  | true=>(b ρ p.2).bind fun q=>match q.1 with
   | .nx=>pS c b n q.2.1 q.2.2
   | .ct=>pS c b n q.2.1 q.2.2
   | .bk=>some (.nx,q.2.1,q.2.2)
   | .rt d=>some (.rt d,q.2.1,q.2.2)
noncomputable def Cq (n:Nat)(c:MT)(b:MS):MS:=pS c b n
theorem LU {body:List Stmt}{mb:MS}(n:Nat)(hc:QT X c mt)(hb:QB X body mb)(hp:ZM (Ul X.prog X.w) X.A X.env X.xe):QS X (.While c body [] pos) (Cq n mt mb):=⟨iD (GY hp hc.h hb.h) (by
 rintro E σ H ⟨Z,ρ,Y,T,G,A,R,EN,hm,k⟩
 have r:∀ {i:Nat->Addr}{n2:Nat}{H2:Hp}(e:Ext Z Y.length H i n2 H2),lW X.K E i n2 H2 T G A:=fun {i n2 H2} e=>by
  cases T with
  | nx=>exact fun j u z l y K=>k j u z (e.trans l) y K
  | bk=>exact fun j u z l y K=>k j u z (e.trans l) y K
  | ct=>exact fun j u z l y K=>k j u z (e.trans l) y K
  | rt d=>exact KC.after k e
 refine ⟨fun m w x=>∃ i p s,Ext Z Y.length H i p.length x/\Rp X.K i x p/\En X.K i p.length x w s/\pS mt mb m s p=some (T,G,A),⟨n,Z,Y,ρ,.refl,R,EN,hm⟩,?_⟩
 rintro m σ1 H1 ⟨i,p,s,N,R2,E2,h2⟩
 cases m with
 | zero=>cases h2
 | succ m=>
  obtain ⟨⟨b,Q⟩,h3,h4⟩:=Tu.mp h2
  refine ⟨i,s,p,b,Q,R2,E2,h3,fun j z l y=>?_⟩
  cases b with
  | false=>
   refine kQ ?_
   cases h4
   exact r N j σ1 z l y (E2.mono l)
  | true=>
   refine kR ?_
   obtain ⟨⟨f4,I,B⟩,h5,U⟩:=Tu.mp h4
   refine ⟨fun w x=>∃ h v q,Ext Z Y.length H h q.length x/\Rp X.K h x q/\En X.K h q.length x w v/\pS mt mb m v q=some (T,G,A),
    fun w x ⟨h,v,q,a1,a2,a3,a4⟩=>⟨m,VG _,h,q,v,a1,a2,a3,a4⟩,j,s,Q,f4,I,B,y,E2.mono l,h5,?_⟩
   cases f4 with
   | nx=>exact fun h J H5 O M L=>⟨h,I,B,(N.trans l).trans O,M,L,U⟩
   | ct=>exact fun h J H5 O M L=>⟨h,I,B,(N.trans l).trans O,M,L,U⟩
   | bk=>
    cases U
    exact fun h J H5 O M L=>r (N.trans l) h J H5 O M L
   | rt d'=>
    cases U
    exact r (N.trans l))⟩
theorem LV:QS X (.Return none pos) (a8 (mC .non)):=⟨iD GP (by
 rintro E s H ⟨i,r,q,p,j,h,R,l,d,k⟩
 cases d
 exact k i .non H .refl R .non)⟩
end
end L3
namespace L3
open PySem L2
section
variable {X:Cx}
end
end L3
namespace L3
open PySem L2
open PyProof.Rows (IntsAre)
open PySem.W (KasT kas_asc kas_desc kas_tail3 kas_descPart kas_count kas_place kas_bin kas_sort kas_rev kas_ask)
section
variable {X:Cx}{a3F:List (Addr×Obj)}{σ:St}{H:Hp}{s:TC}
theorem LW {P:Ud}{w:Uv}{H:Hp}{h:UU}{a:Addr}{o:HO}(x:ObjOk P w H h a o):∃ ob,h.get? a=some ob:=by
 cases o with
 | lst c=>obtain ⟨_,_,_,_,e⟩:=x;exact ⟨_,e⟩
 | tup c=>obtain ⟨_,_,_,ob,e,_⟩:=x;exact ⟨_,e⟩
 | dK b=>obtain ⟨_,_,_,_,o,_,_,e,_⟩:=x;exact ⟨_,e⟩
 | dT b=>obtain ⟨_,_,_,_,o,_,_,e,_⟩:=x;exact ⟨_,e⟩
 | set S n=>obtain ⟨o,_,_,_,e,_⟩:=x;exact ⟨_,e⟩
 | ins C d fs=>obtain ⟨_,_,_,e,_⟩:=x;exact ⟨_,e⟩
 | own y=>exact x
 | xd fs=>obtain ⟨_,⟨_,_,_,e,_⟩,_⟩:=x;exact ⟨_,e⟩
 | rng j i=>obtain ⟨_,_,_,e⟩:=x;exact ⟨_,e⟩
 | frz ob u=>exact ⟨_,x.1⟩
 | tbl l=>exact ⟨_,x⟩
 | met f y=>exact ⟨_,x⟩
 | ext m=>exact x.2.1
end
noncomputable abbrev TupsV (K:Tv)(H:Hp):List V->List (List Int)->Prop:=X6 fun v t=>∃ a,v=V.ref a/\SqT K H a (t.map V.int)
theorem TupsV.get {K:Tv}{H:Hp}:∀ {vs:List V}{b:List (List Int)}{i:Nat},TupsV K H vs b->i<vs.length->∃ a,vs[i]? = some (V.ref a)/\SqT K H a ((b.getD i []).map V.int)
 | _,_,_,.nil,h=>by simp at h
 | _,_,0,.cons ⟨a,e,q⟩ _,_=>⟨a,by rw [e];rfl,q⟩
 | _,_,i+1,.cons _ t,h=>by
  obtain ⟨a,e,q⟩:=TupsV.get (i:=i) t (by simpa using h)
  exact ⟨a,by simpa using e,q⟩
section
open PyProof.Rows
variable {prog:Ud}{w:Uv}{A:Ur}{E:Value->TC->Prop}{s:TC}
end
end L3
namespace L3
open PySem L2 PySem.Spec PyProof.Rows
structure XRec (h:UU)(e:Addr)(cls:Value)(dc:Option Addr)(T:Option (Addr×Value)):Prop where
 ob:∃ o vs,h.get? e=some o/\o.cls=cls/\o.dict=dc/\o.data=.fields vs/\vs[1]? = some (match T with|none=>U1|some p=>.ref p.1)/\vs[2]? = some U1
 tb:∀ p,T=some p->p.1≠e/\∃ oT ts,h.get? p.1=some oT/\oT.data=.fields ts/\ts[3]? = some p.2
structure XKept (fs:List Addr)(e:Addr)(T:Option (Addr×Value))(h h':UU):Prop where
 keep:∀ b o,h.get? b=some o->b≠e->(∀ p,T=some p->b≠p.1)->b∉fs->h'.get? b=some o
 slot:∀ b o,h.get? b=some o->b≠e->(∀ p,T=some p->b≠p.1)->∃ sl,h'.get? b=some { o with slots:=sl }
theorem LX (o:Obj) (f):(o.mapFields f).dict=o.dict:=by
 cases o with
 | mk c d a b=>cases a<;>rfl
section
variable {M:ZV}{A:Ur}{E:Value->TC->Prop}{s:TC}{base:UU}{env:XU}{outer:List XU}{L e:Addr}{cls:Value}{dc:Option Addr}
theorem XRec.noFrame {h:UU}{T:Option (Addr×Value)}{l:List XU}(x:XRec h e cls dc T)(d:h.FunFrames base l):e∉dB l/\∀ p,T=some p->p.1∉dB l:=by
 obtain ⟨o,v,m,_,_,n,_,_⟩:=x.ob
 refine ⟨fun c=>?_,fun p q c=>?_⟩
 ·obtain ⟨_,r,a,b⟩:=d.mem c
  rw [m] at a;cases a
  exact b v n
 ·obtain ⟨_,w,u,i,j,_⟩:=x.tb p q
  obtain ⟨_,r,a,b⟩:=d.mem c
  rw [i] at a;cases a
  exact b u j
theorem Cr {T:Option (Addr×Value)}{hd:Value}{nx:Bool}{Q:Unit->TC->Prop}(j:A.frames=some (env::outer))(v:s.heap.FunFrames base (env::outer))(R:env.frame=some L)(x:XRec s.heap e cls dc T)
  (k:∀ d m,XRec d e cls dc (some (m,Wq L))->s.heap.objs.size<=m->XKept (dB (env::outer)) e T s.heap d->Q () { s with heap:=d }) :
  Ua M A (do a0g (.ref e) 1 (<- ZR hd (<- frameOf env) .none (Wq L) .none (<- entryPlaceOf L nx))) Q E s:=by
 obtain ⟨o,Y,H,I,J,u,K,N⟩:=x.ob
 have y:1<Y.size:=(Vu.mp K).1
 have ne:=(x.noFrame v).1
 refine Tx (wpAny_frameOf_fun j v R fun a c=>?_)
 refine Tx (wpAny_entryPlaceOf fun G w=>?_)
 unfold ZR newFields
 refine Tx (VP ?_ (w.sizeOk5 _ _ _ _ _))
 have q:a.get? e=some o:=(c.2.1 e ne).trans H
 generalize hob:({ cls:=.type "traceback",dict:=none,data:=.fields ([hd,.ref L,.none,Wq L,.none]++(if G.isEmpty then VL 6 U1 else G)).toArray }:Obj)=tb
 have r:(a.push tb).get? e=some o:=TL _ q
 refine Xl r u y (k _ a.objs.size ?_ ?_ ?_)
 ·have z:a.objs.size≠e:=Xf (T3 q)
  have n:=WZ u (·.setIfInBounds 1 (T6 a.objs.size))
  refine ⟨⟨_,_,VQ _ r (Xj n),by rw [a1B];exact I,?_,n,by simp [y],by simp [N]⟩,fun p l=>?_⟩
  ·rw [<- J,LX]
  ·cases l
   refine ⟨z,tb,_,?_,by rw [<- hob],?_⟩
   ·rw [Vx _ _ (UG z)]
    exact Ub _ (by rw [<- hob];rfl)
   ·first|(simp;done)|(rcases w with rfl|⟨_,_,_,_,_,_,_,rfl⟩<;>simp)
 ·rw [c.1]
  exact TR _
 ·refine ⟨fun b B i h _ O=>?_,fun b B i h _=>?_⟩
  ·rw [Vx _ _ (UG h)]
   exact TL _ ((c.2.1 b O).trans i)
  ·obtain ⟨X,U⟩:=c.2.2 b B i
   refine ⟨X,?_⟩
   rw [Vx _ _ (UG h)]
   exact TL _ U
theorem Ct {T:Option (Addr×Value)}{Q:Unit->TC->Prop}(i:∀ p,T=some p->p.2=.none\/p.2=Wq L)(l:A.frames=some (env::outer))(I:s.heap.FunFrames base (env::outer))(H:env.frame=some L)(x:XRec s.heap e cls dc T)
  (k:∀ h d,XRec h e cls dc (some (d,Wq L))->(s.heap.objs.size<=d\/∃ p,T=some p/\d=p.1)->XKept (dB (env::outer)) e T s.heap h->Q () { s with heap:=h }):Ua M A (ZG (.ref e) env) Q E s:=by
 obtain ⟨o,vs,w,U,X,y,B,Y⟩:=x.ob
 unfold ZG
 simp only [H]
 refine Tx (XI w y B ?_)
 cases T with
 | none=>
  rw [if_neg (by decide)]
  exact Cr l I H x fun h d O K u=>k h d O (.inl K) u
 | some p=>
  obtain ⟨N,oT,Z,n,r,v⟩:=x.tb p rfl
  rw [if_pos (show (T6 p.1 != U1)=true by simp)]
  refine Tx (XI n r v ?_)
  rcases i p rfl with i|i
  case inr=>
   rw [i,if_pos (beq_self_eq_true _)]
   exact TN (k s.heap p.1 ⟨⟨o,vs,w,U,X,y,B,Y⟩,fun q J=>by cases J;exact ⟨N,oT,Z,n,r,by rw [<- i];exact v⟩⟩ (.inr ⟨p,rfl,rfl⟩) ⟨fun b o c _ _ _=>c,fun b o c _ _=>⟨o.slots,c⟩⟩)
  rw [i,if_neg (show ¬ (U1 == Wq L)=true by simp [Wq])]
  refine Tx (Xl n r (Vu.mp v).1 ?_)
  have a:∀ b,b≠p.1->(s.heap.update p.1 (YJ (·.setIfInBounds 3 U1))).get? b=s.heap.get? b:=fun b c=>Vx _ _ (UG c)
  have nfr:=(x.noFrame I).2 p rfl
  refine Cr (T:=some p) l (I.of_keeps fun b m c nf=>⟨m,(a b fun z=>by rw [z,n] at c;cases c;exact nf Z r).trans c,rfl⟩) H ⟨⟨o,vs,(a e (UG N)).trans w,U,X,y,B,Y⟩,fun q J=>?_⟩ fun h d O K u=>k h d O (.inl (by simpa using K)) ⟨fun b m c G j h3=>?_,fun b m c G j=>?_⟩
  ·cases J
   have R:=WZ r (·.setIfInBounds 3 U1)
   exact ⟨N,_,_,VQ _ n (Xj R),R,by rw [i];simp [(Vu.mp v).1]⟩
  ·exact u.keep b m ((a b (j p rfl)).trans c) G j h3
  ·exact u.slot b m ((a b (j p rfl)).trans c) G j
theorem pT {h:UU}{b:Addr}{o:Obj}{T:Option (Addr×Value)}{a:Addr}(c:h.get? b=some o)(i:∀ p,T=some p->b≠p.1)(z:h.objs.size<=a\/∃ p,T=some p/\a=p.1):b≠a:=by
 rcases z with z|⟨p,d,rfl⟩
 ·exact Ui (Uj (T3 c) z)
 ·exact i p d
theorem wQ {T:Addr}{q:Value}{Q:Unit->TC->Prop}(x:XRec s.heap e cls dc (some (T,q)))(k:∀ h',XRec h' e cls dc (some (T,.none))->h'.objs.size=s.heap.objs.size->(∀ b,b≠T->h'.get? b=s.heap.get? b)->Q () { s with heap:=h' }) :
  Ua M A (ZD (.ref e) none) Q E s:=by
 obtain ⟨o,z,d,r,u,h,i,v⟩:=x.ob
 obtain ⟨j,B,G,l,m,n⟩:=x.tb _ rfl
 unfold ZD
 refine Tx (XI d h i ?_)
 rw [if_pos (show (T6 T != U1)=true by simp)]
 have a:∀ b,b≠T->(s.heap.update T (YJ (·.setIfInBounds 3 U1))).get? b=s.heap.get? b:=fun b w=>Vx _ _ (UG w)
 have c:=WZ m (·.setIfInBounds 3 U1)
 refine Xl l m (Vu.mp n).1 (k _ ⟨⟨o,z,(a e (UG j)).trans d,r,u,h,i,v⟩,fun p y=>?_⟩ (by simp) a)
 cases y
 exact ⟨j,_,_,VQ _ l (Xj c),c,by simp [(Vu.mp n).1]⟩
theorem LY {T:Option (Addr×Value)}{Q:Unit->TC->Prop}(w:∀ p,T=some p->p.2=.none\/p.2=Wq L)(i:A.frames=some (env::outer))(z:s.heap.FunFrames base (env::outer))(y:env.frame=some L)(x:XRec s.heap e cls dc T)
  (k:∀ h d,XRec h e cls dc (some (d,.none))->(s.heap.objs.size<=d\/∃ p,T=some p/\d=p.1)->XKept (dB (env::outer)) e T s.heap h->Q () { s with heap:=h }):Ua M A (a2A env (.ref e)) Q E s:=by
 unfold a2A
 refine Tx (Ct w i z y x fun r q H l m=>?_)
 refine wQ (s:={ s with heap:=r }) H fun u I _ n=>k u q I l ⟨fun b o a j c B=>?_,fun b o a j c=>?_⟩
 ·rw [n b (pT a c l)]
  exact m.keep b o a j c B
 ·obtain ⟨G,v⟩:=m.slot b o a j c
  refine ⟨G,?_⟩
  rw [n b (pT a c l)]
  exact v
end
end L3
namespace L3
open PySem L2 PySem.Spec PyProof.Rows
structure Ex (X:Cx)(a3F:List (Addr×Obj))(H:Hp)(s:TC)(e:Addr)(cls:Value)(dc:Option Addr)(T:Option (Addr×Value)):Prop where
 rc:XRec s.heap e cls dc T
 hT:∀ p,T=some p->p.2=.none\/∃ L,X.env.frame=some L/\p.2=Wq L
 lo:X.s₀.heap.get? e=none/\∀ p,T=some p->X.s₀.heap.get? p.1=none
 fr:H e=none/\∀ p,T=some p->H p.1=none
 pn:∀ q∈X.pn++a3F,q.1≠e/\∀ p,T=some p->q.1≠p.1
noncomputable def fD (P:Ud)(w:Uv):fK:=fun outer H s E e a=>∃ b H' cls c T,e=.ref b/\a.os=s.os/\Ye a.gens/\Un (dB outer) [] H H' s.heap a.heap/\HOk P w H' a.heap /\
 XRec a.heap b cls c (some (T,.none))/\s.heap.get? b=none/\s.heap.get? T=none/\H' b=none/\H' T=none/\E cls c H'
section
variable {X:Cx}{a3F:List (Addr×Obj)}{σ:L2.St}{H H':Hp}{s s':TC}{e:Addr}{cls:Value}{dc:Option Addr}{T:Option (Addr×Value)}
theorem XKept.hok {P:Ud}{w:Uv}{h h':UU}{fs:List Addr}(k:XKept fs e T h h')(ok:HOk P w H h)(l:H e=none)(j:∀ p,T=some p->H p.1=none)(m:∀ b∈fs,H b=none):HOk P w H h':=fun b u q=>by
 have ne:∀ c v,H c=some v->c≠e/\(∀ p,T=some p->c≠p.1)/\c∉fs:=fun c v hc=>
  ⟨(fun z=>by rw [z,l] at hc;cases hc),(fun p n z=>by rw [z,j p n] at hc;cases hc),(fun z=>by rw [m c z] at hc;cases hc)⟩
 refine (ok b u q).stay (fun c v hc g=>?_) (fun _ g=>g) fun _ _ g=>g
 rcases hc with rfl|hc
 ·obtain ⟨a,d,i⟩:=ne c u q
  exact k.keep c v g a d i
 ·obtain ⟨a,d,i⟩:=ne c _ hc
  exact k.keep c v g a d i
theorem Cu {E:XK}{v:Value}(l:X.ex=[])(I:Inv X a3F σ H s)(h:fD X.prog X.w X.stack H s E v s'):∃ e H' cls dc T,v=.ref e/\Inv X a3F σ H' s'/\Ex X a3F H' s' e cls dc (some (T,.none))/\E cls dc H':=by
 obtain ⟨e,H',cls,dc,T,rfl,A,i,un,hok,B,m,n,r,u,w⟩:=h
 have j:∀ a,s.heap.get? a=none->X.s₀.heap.get? a=none:=fun a x=>by
  cases q:X.s₀.heap.get? a with
  | none=>rfl
  | some o=>
   obtain ⟨G,g⟩:=I.base.there a o q (by rw [l];simp)
   rw [x] at g;cases g
 refine ⟨e,H',cls,dc,T,rfl,I.call' (ch:=[]) A un hok i (fun b z=>absurd z (by simp)),⟨B,(fun p d=>by cases d;exact .inl rfl),⟨j e m,(fun p d=>by cases d;exact j T n)⟩,⟨r,(fun p d=>by cases d;exact u)⟩,fun q y=>?_⟩,w⟩
 have c:=(I.pin q y).1
 exact ⟨(fun z=>by rw [z,m] at c;cases c),(fun p d z=>by cases d;rw [z,n] at c;cases c)⟩
theorem Cv {ch:List Addr}(I:Inv X a3F σ H s)(l:X.ex=[])(q:∀ b∈ch,X.s₀.heap.get? b=none)(r:∀ b∈ch,∃ o vs,s.heap.get? b=some o/\o.data=.fields vs):Inv { X with ex:=ch } a3F σ H s:=by
 have i:∀ b o,X.s₀.heap.get? b=some o->b∉ch:=fun b o a z=>by rw [q b z] at a;cases a
 have o:=I.ok
 refine ⟨⟨o.mod,o.kind,o.glob,o.blt,o.above,o.inj,o.has,o.cab,o.hd,o.frames,o.stk,fun b a=>?_,o.bs,o.bsz,fun b j a=>i b j (o.bs b j a).1,fun b a w=>?_,o.funs,o.frf⟩,I.os,I.bare,?_,I.loc,I.cell,I.free,I.freeC,I.pin,I.hok,I.len⟩
 ·obtain ⟨j,vs,n,p⟩:=r b a
  refine ⟨fun z=>?_,fun y c hc z=>?_⟩
  ·obtain ⟨m,⟨B,A,x,d,h,_⟩,_⟩:=I.loc
   have z:b=X.env.locals:=z
   rw [<- z,n] at d
   cases d
   rw [p] at h
   cases h
  ·obtain ⟨v,E,d,h⟩:=I.cell y c hc
   rw [z,n] at d
   cases d
   rw [p] at h
   cases h
 ·obtain ⟨_,j,d,_⟩:=o.funs.mem w
  exact i b j d a
 ·have u:=I.base
  rw [l] at u
  exact u.mono (fun _ z=>z) (by simp)
theorem Cw {ch:List Addr}(I:Inv { X with ex:=ch } a3F σ H s)(h:X.ex=[])(j:∀ b∈ch,X.s₀.heap.get? b=none):Inv X a3F σ H s:=by
 have d:∀ b o,X.s₀.heap.get? b=some o->b∉ch:=fun b o a z=>by rw [j b z] at a;cases a
 have o:=I.ok
 have u:=I.base
 refine ⟨⟨o.mod,o.kind,o.glob,o.blt,o.above,o.inj,o.has,o.cab,o.hd,o.frames,o.stk,(by rw [h];intro b z;cases z),o.bs,o.bsz,(by rw [h];intro b _ _ z;cases z),(by rw [h];intro b z;cases z),o.funs,o.frf⟩,I.os,I.bare,?_,I.loc,I.cell,I.free,I.freeC,I.pin,I.hok,I.len⟩
 exact ⟨fun b c a n i _=>u.keep b c a n i (d b c a),fun b c a n i _=>u.slot b c a n i (d b c a),fun b c a n _=>u.free b c a n (d b c a),fun b c a _=>u.there b c a (d b c a),u.tups,u.frzs,u.tbls⟩
noncomputable def mD (e:Addr)(T:Option (Addr×Value)):List Addr:=e::(match T with|none=>[]|some p=>[p.1])
theorem mem_ch {b:Addr}:b∈mD e T↔b=e\/∃ p,T=some p/\b=p.1:=by
 unfold mD
 cases T with
 | none=>simp
 | some p=>simp
theorem Ex.kept (h:X.ex=[])(I:Inv X a3F σ H s)(x:Ex X a3F H s e cls dc T){h':UU}(k:XKept (dB X.stack) e T s.heap h'):Inv X a3F σ H { s with heap:=h' }:=by
 have r:∀ b∈mD e T,X.s₀.heap.get? b=none:=fun b a=>by
  rcases mem_ch.mp a with rfl|⟨p,d,rfl⟩
  ·exact x.lo.1
  ·exact x.lo.2 p d
 have G:∀ b∈mD e T,∃ o l,s.heap.get? b=some o/\o.data=.fields l:=fun b a=>by
  rcases mem_ch.mp a with rfl|⟨p,d,rfl⟩
  ·obtain ⟨o,l,j,_,_,E,_,_⟩:=x.rc.ob
   exact ⟨o,l,j,E⟩
  ·obtain ⟨_,O,Q,j,B,_⟩:=x.rc.tb p d
   exact ⟨O,Q,j,B⟩
 have ne:∀ b,b∉mD e T->b≠e/\∀ p,T=some p->b≠p.1:=fun b a=>⟨fun z=>a (mem_ch.mpr (.inl z)),fun p d z=>a (mem_ch.mpr (.inr ⟨p,d,z⟩))⟩
 have i:=Cv I h r G
 have w:=i.step (H':=H) (h':=h') (g':=s.gens) (d':=s.drawn) (t':=s.toks) (ch:=mD e T) (fun b a=>⟨.inl a,(i.ok.exf b a).1,(i.ok.exf b a).2,fun q u=>?_⟩)
  (fun b o M N c g _=>k.keep b o g (ne b c).1 (ne b c).2 fun z=>(Uq.mp (I.stkSub b z)).elim M N)
  (fun b o _ _ c g _=>k.slot b o g (ne b c).1 (ne b c).2) (fun _ _ _ _ n=>n) (fun b o c g=>let ⟨_,z⟩:=k.slot b o g (ne b c).1 (ne b c).2;⟨_,z⟩)
  (fun _ _ g=>g) (fun _ _ _ g=>g) (fun b U g=>⟨#[],by rw [g];simp⟩) (fun m J=>?_) (k.hok I.hok x.fr.1 x.fr.2 I.stkFree) I.bare
 ·exact Cw w h r
 ·rcases mem_ch.mp a with rfl|⟨p,d,rfl⟩
  ·exact (x.pn q u).1
  ·exact (x.pn q u).2 p d
 ·obtain ⟨R,A,y,K,L⟩:=J
  have v:X.env.locals∉mD e T:=fun z=>(i.ok.exf _ z).1 rfl
  obtain ⟨Y,g⟩:=k.slot _ _ K (ne _ v).1 (ne _ v).2
  exact ⟨_,A,y,g,L⟩
end
theorem LZ {P:Ud}{w:Uv}{K:Tv}{B:Str->Option Value}{base:UU}{N:List Str}{a:Str}{scope:VY}{f:Addr}{j:Value}{A:Ur}{outer:List XU}{s₀ s:TC}{H₀ H:Hp}{E:XK}{a3F:List (Addr×Obj)}{σ:L2.St}{e:Addr}{cls:Value}{u:Option Addr}{T:Option (Addr×Value)}
  (I:Inv (eA (fD P w) P w K B base N a scope f j A outer s₀ H₀ E) a3F σ H s)(x:Ex (eA (fD P w) P w K B base N a scope f j A outer s₀ H₀ E) a3F H s e cls u T)(h:E cls u H) :
  (eA (fD P w) P w K B base N a scope f j A outer s₀ H₀ E).xe (.ref e) s:=by
 have d:∀ b o,s₀.heap.get? b=some o->b≠e/\(∀ p,T=some p->b≠p.1)/\b≠s₀.heap.objs.size:=fun b o c=>
  ⟨(fun z=>by rw [z] at c;rw [show s₀.heap.get? e=none from x.lo.1] at c;cases c),(fun p i z=>by rw [z] at c;rw [show s₀.heap.get? p.1=none from x.lo.2 p i] at c;cases c),Ui (T3 c)⟩
 have y:dB (envOfC a scope s₀.heap.objs.size f j::outer)=s₀.heap.objs.size::dB outer:=rfl
 show Ua (Ul P w) (A.deeper (envOfC a scope s₀.heap.objs.size f j)) (a2A (envOfC a scope s₀.heap.objs.size f j) (.ref e)) _ _ s
 refine LY (fun p i=>(x.hT p i).imp id fun ⟨L,Q,q⟩=>by cases Q;exact q) I.ok.frames I.stack rfl x.rc fun Y O X M k=>?_
 refine ⟨e,H,cls,u,O,rfl,I.os,I.bare,⟨fun b o c n r _=>?_,fun b o c n r _=>?_,fun b o c n _=>I.base.free b o c n (by simp [eA]),fun b o c _=>?_,I.base.tups,I.base.frzs,I.base.tbls⟩,k.hok I.hok x.fr.1 x.fr.2 I.stkFree,X,x.lo.1,M.elim (fun z=>Yw (UT I.sz z)) (fun ⟨p,i,q⟩=>q ▸ x.lo.2 p i),x.fr.1,M.elim (fun z=>I.hok.fresh z) (fun ⟨p,i,q⟩=>q ▸ x.fr.2 p i),h⟩
 ·obtain ⟨l,m,G⟩:=d b o c
  refine k.keep b o (I.base.keep b o c n r (by simp [eA])) l m ?_
  rw [y]
  intro z
  rcases Uq.mp z with z|z
  ·exact G z
  ·exact r z
 ·obtain ⟨l,m,G⟩:=d b o c
  obtain ⟨U,g⟩:=I.base.slot b o c n r (by simp [eA])
  obtain ⟨J,v⟩:=k.slot b _ g l m
  exact ⟨J,v⟩
 ·obtain ⟨l,m,G⟩:=d b o c
  obtain ⟨R,g⟩:=I.base.there b o c (by simp [eA])
  obtain ⟨U,v⟩:=k.slot b R g l m
  exact ⟨_,v⟩
end L3
namespace L3
open PySem L2
noncomputable abbrev Xn:=Str×List (Str×D)
noncomputable abbrev MR:=aF->Hm->Option (Xn×aF×Hm)
noncomputable abbrev RF:=List D->Hm->Option (Xn×Hm)
noncomputable def L0 (K:Tv)(cls:Value)(x:Str):Prop:=Vo K UI x=some (some cls)
noncomputable def pU (K:Tv)(π:Nat->Addr)(n:Nat)(H:Hp)(cls:Value)(a:Option Addr)(x:Xn):Prop:=
 L0 K cls x.1/\(x.2=[]/\a=none\/∃ (b:Addr)(ob:Obj)(vs:List (Str×V)),a=some b/\H b=some (.frz ob (.xd vs))/\vs.map (·.1)=x.2.map (·.1)/\IsDs K π n H (vs.map (·.2)) (x.2.map (·.2)))
noncomputable def Wish (X:Cx)(a3F:List (Addr×Obj))(π:Nat->Addr)(n:Nat)(H:Hp)(x:Xn)(i:aF)(a:Hm):Prop:=
 ∀ b d c h e cls j T,Ext π n H b a.length c->Rp X.K b c a->En X.K b a.length c d i->Inv X a3F d c h->Ex X a3F c h e cls j T->pU X.K b a.length c cls j x->X.xe (.ref e) h
theorem Wish.after {X:Cx}{a3F:List (Addr×Obj)}{π c:Nat->Addr}{n m:Nat}{H l:Hp}{x:Xn}{d:aF}{b:Hm}(h:Wish X a3F π n H x d b)(e:Ext π n H c m l):Wish X a3F c m l x d b:=
 fun i j o r a cls p T q=>h i j o r a cls p T (e.trans q)
structure QRE (X:Cx)(e:Expr)(r:MR):Prop where
 h:∀ a3F s σ H π ρ μ x ρ' μ',Inv X a3F σ H s->Rp X.K π H μ->En X.K π μ.length H σ ρ->r ρ μ=some (x,ρ',μ')->Wish X a3F π μ.length H x ρ' μ'->Ua (Ul X.prog X.w) X.A (eval e X.env) (fun _ _=>False) X.xe s
structure QR (X:Cx)(st:Stmt)(r:MR):Prop where
 h:∀ a3F s σ H π ρ μ x ρ' μ',Inv X a3F σ H s->Rp X.K π H μ->En X.K π μ.length H σ ρ->r ρ μ=some (x,ρ',μ')->Wish X a3F π μ.length H x ρ' μ'->Ua (Ul X.prog X.w) X.A (exec st X.env) (fun _ _=>False) X.xe s
structure QRB (X:Cx)(st:List Stmt)(r:MR):Prop where
 h:∀ a3F s σ H π ρ μ x ρ' μ',Inv X a3F σ H s->Rp X.K π H μ->En X.K π μ.length H σ ρ->r ρ μ=some (x,ρ',μ')->Wish X a3F π μ.length H x ρ' μ'->Ua (Ul X.prog X.w) X.A (execs st X.env) (fun _ _=>False) X.xe s
noncomputable def bX:MR:=fun _ _=>none
theorem iH {X:Cx}{st:Stmt}:QR X st bX:=⟨fun _ _ _ _ _ _ _ _ _ _ _ _ _ h=>by cases h⟩
theorem nV {X:Cx}{e:Expr}:QRE X e bX:=⟨fun _ _ _ _ _ _ _ _ _ _ _ _ _ h=>by cases h⟩
theorem L1 {X:Cx}{st:List Stmt}:QRB X st bX:=⟨fun _ _ _ _ _ _ _ _ _ _ _ _ _ h=>by cases h⟩
section
variable {X:Cx}{e:Expr}{st:Stmt}{bK a b:List Stmt}{r ra rb:MR}{m:MS}{pos:Vt}
theorem L4 (j:QRE X e r)(h:d7 e=true):QR X (.Expr e pos) r:=
 ⟨fun c s q H o p n x i d I R E l w=>a3v (aN (j.h c s q H o p n x i d I R E l w) fun _ _ z=>z.elim) I.quiet (nO h)⟩
theorem L5 (i:QRE X e r):QR X (.Return (some e) pos) r:=
 ⟨fun c s p H n o l x h d I R E j w=>a2v (aN (i.h c s p H n o l x h d I R E j w) fun _ _ z=>z.elim)⟩
theorem L6 {y:Str}{c:Vt}(l:QRE X e r)(h:d7 e=true):QR X (.Assign [.Name y c] e pos) r:=
 ⟨fun d s u H p q o x j i I R E n w=>a2w (aN (l.h d s u H p q o x j i I R E n w) fun _ _ z=>z.elim) (nO h)⟩
noncomputable def c9 (m:MS)(ra rb:MR):MR:=fun d c=>match ra d c with
 | some p=>some p
 | none=>match m d c with
  | some (.nx,ρ1,μ1)=>rb ρ1 μ1
  | _=>none
theorem L7 (T:QS X.nox st m)(O:QR X st ra)(Q:QRB X bK rb):QRB X (st::bK) (c9 m ra rb):=by
 refine ⟨fun i s L H J K G x v o I R E n w=>ZC ?_⟩
 unfold c9 at n
 split at n
 ·rename_i p U
  cases n
  exact aN (O.h i s L H J K G x v o I R E U w) fun _ _ z=>z.elim
 ·split at n
  ·rename_i j d N
   have k:=T.h i s L H { nx:=fun h l=>∃ c,Ext J G.length H c d.length l/\Rp X.K c l d/\En X.K c d.length l h j,rt:=fun _ _=>False } (I.wish _)
    ⟨J,K,G,.nx,j,d,R,E,N,fun c h l B A y=>⟨c,B,A,y⟩⟩
   refine UH k (fun f Y q=>?_) fun _ _ z=>UA z
   cases f with
   | next=>
    obtain ⟨h,l,M,c,B,A,y⟩:=q
    exact Q.h i Y h l c j d x v o M.unwish A y n (w.after B)
   | ret u=>obtain ⟨_,_,_,_,_,q⟩:=q;exact q.elim
   | brk=>obtain ⟨_,_,_,q⟩:=q;exact q.elim
   | cont=>obtain ⟨_,_,_,q⟩:=q;exact q.elim
  ·cases n
theorem L8:QRB X [] bX:=L1
noncomputable def mE (t:MT)(ra rb:MR):MR:=fun c d=>(t c d).bind fun p=>if p.1=true then ra c p.2 else rb c p.2
theorem L9 {c:Expr}{t:MT}(hc:QT X.nox c t)(N:QRB X a ra)(O:QRB X b rb):QR X (.If c a b pos) (mE t ra rb):=by
 refine ⟨fun j s B H L A K x u p I R E l w=>wpAny_If ?_⟩
 obtain ⟨⟨d,i⟩,M,l⟩:=Tu.mp l
 have k:=hc.h j s B H (fun y n=>y=d/\∃ h,Ext L K.length H h i.length n/\Rp X.K h n i) (I.wish _) ⟨L,A,K,d,i,R,E,M,fun h n o v=>⟨rfl,h,o,v⟩⟩
 refine UH k (fun y J q=>?_) fun _ _ z=>UA z
 obtain ⟨n,G,rfl,h,o,v⟩:=q
 dsimp only at l
 cases y with
 | true=>
  rw [if_pos rfl] at l
  exact N.h j J B n h A i x u p G.unwish v (E.mono o) l (w.after o)
 | false=>
  rw [if_neg (by decide)] at l
  exact O.h j J B n h A i x u p G.unwish v (E.mono o) l (w.after o)
end
noncomputable def iI (K:Tv)(n:Nat)(r:RF):Sp:=fun vs H _ E=>vs.length=n/\∃ π ds d x a,Rp K π H d/\IsDs K π d.length H vs ds/\r ds d=some (x,a) /\
 ∀ b c cls e,Ext π d.length H b a.length c->Rp K b c a->pU K b a.length c cls e x->E cls e c
noncomputable def mF (r:RF)(ms:MA):MR:=fun a b=>(ms a b).bind fun p=>(r p.1 p.2).map fun q=>(q.1,a,q.2)
section
variable {X:Cx}{k n:Nat}{f:Addr}{fd:Vc}{ps:List Str}{x:Str}{p pos:Vt}{e:Expr}{es:List Expr}{ms:MA}{r:RF}
theorem Ma (Z:X.ex=[])(F:FnOk X.prog X.w X.K X.mg X.base (fD X.prog X.w) k f fd ps (iI X.K n r))(hr:Room k X.A)(hg:Gl X x)(hm:X.mg x=some (.ref f))(hk:U8 X.K (.ref f)=true)(hb:Binds X.K fd ps [])(U:QA X.nox (e::es) ms n)
  (Y:(x == ("__debug__":Str))=false):QRE X (.Call (.Name x p) (e::es) [] pos) (mF r ms):=by
 refine ⟨fun Q s σ H π ρ μ y ρ' μ' I R E h w=>?_⟩
 obtain ⟨⟨ds,b⟩,h1,h⟩:=Tu.mp h
 obtain ⟨⟨y',i⟩,h2,h⟩:=Tz.mp h
 cases h
 have hst:=U.s
 have d:=hst
 rw [Uy,Tw] at d
 refine Vy (jP I hg hm ?_ Y)
 have k1:=U.h pos Q s σ H (fun o j=>∃ a,Ext π μ.length H a b.length j/\Rp X.K a j b/\IsDs X.K a b.length j o ds) (I.wish _) ⟨π,ρ,μ,ds,b,R,E,h1,fun a o j K O L=>⟨a,K,O,L⟩⟩
 refine WN (h₀:=X.base) I.ok.mod.kin hk (UH k1 (fun M s1 ⟨o,j,m,rv,a,K,O,L⟩=>⟨m.unwish.kIn,?_⟩) fun _ _ z=>UA z) (dD d.1) (fQ d.2)
 have m:=m.unwish
 have hn:o.length=n:=by
  rw [L.length]
  exact U.l ρ μ ds b h1
 have B:iI X.K n r o j (fun _ _=>False) (fun cls G l=>∃ c,Ext a b.length j c i.length l/\Rp X.K c l i/\pU X.K c i.length l cls G y'):=
  ⟨hn,a,ds,b,y',i,O,L,h2,fun c l cls G J N ix=>⟨c,J,N,ix⟩⟩
 have hl:M.length=ps.length:=by rw [<- rv.length];exact F.len _ _ _ _ B
 refine Zc (X0 (F.run X.A X.stack s1 j ⟨M,[]⟩ M o _ _ hr m.env0 (by have:=hb s1 M m.kIn (by simpa using hl);rwa [U9] at this) rv B) fun rr s' A=>?_)
 cases rr with
 | error v=>
  obtain ⟨ee,l,cls,G,T,rfl,I',x',c,J,N,ix⟩:=Cu Z m A
  exact w c σ l s' ee cls G (some (T,.none)) (K.trans J) N ((E.mono K).mono J) I' x' ix
 | ok fl=>
  cases fl with
  | ret u=>obtain ⟨_,_,_,_,_,_,_,q⟩:=A;exact q
  | next=>exact UA A
  | brk=>exact UA A
  | cont=>exact UA A
end
noncomputable def wR (n:Nat)(r:MR):RF:=fun ds a=>(r (pM n ds) a).map fun p=>(p.1,p.2.2)
theorem Mb {P:Ud}{w:Uv}{K:Tv}{J:Str->Option Value}{base:UU}{x a:Str}{st:Stmt}{f:Addr}{G:Vc}{N ps:List Str}{k:Nat}{body:List Stmt}{r:MR}(F:Fun K x a st f G)(S:FnScope N ps (aU st))(p:ps.length<=N.length)(m:bD st=body)
  (c:∀ (b:Value)(A:Ur)(outer:List XU)(s:TC)(H:Hp)(E:XK),Room k (A.deeper (Xb a (aU st) s.heap.objs.size f b))->
   QRB (eA (fD P w) P w K J base N a (aU st) f b A outer s H E) body r):FnOk P w K J base (fD P w) (k+1) f G ps (iI K ps.length (wR N.length r)):=by
 obtain ⟨oc,od,dV,kV,X,pm,an,b,ct,osl,rfl,lk,n⟩:=F.ex
 refine AR (CX:=fD P w) (sp:=iI K ps.length (wR N.length r)) lk n S (fun L H Q E h=>h.1) fun A outer s H L Q E hr h=>⟨fun _ d j=>d=L2.start N L/\j=H,?_,rfl,rfl⟩
 obtain ⟨hv,π,ds,μ,y,μ',R,i,o,kc⟩:=h
 obtain ⟨⟨y',v,q⟩,Z,o⟩:=Tz.mp o
 cases o
 rintro l s1 σ B D I ⟨rfl,rfl⟩
 rw [m]
 refine aN ((c b A outer s B E hr).h l s1 _ B π _ μ y' v q I R (vT i (by rw [hv];exact p)) Z fun u d j s' e cls U T Y O E' M x' ix=>?_) fun _ _ z=>UA z
 exact LZ M x' (kc u j cls U Y O ix)
end L3
namespace L3
open PySem L2
noncomputable abbrev wU:List Value:=[.type "ValueError",.type "Exception",.type "BaseException",.type "object"]
structure ClsK (K:Tv)(x:Str)(C:Addr):Prop where
 exc:Yt K C wU "ValueError.__new__" = true
 nm:Vo K UI x=some (some (.ref C))
theorem Mc {K:Tv}{h:UU}{C:Addr}{d:List Value}{a:String}(X:K.In h)(q:Yt K C d a=true) :
  ∃ i N u v bs hd w c r b s j l m o p x,h.get? C=some (YO u v C N bs i hd w c r b s j l m o p a)/\h.Ns N x/\x "__init__" = none/\OwnTail h d i:=by
 unfold Yt at q
 split at q
 ·rename_i s z R E
  split at q
  ·rename_i T i j l m o n p B G
   rw [Tw,Tw,Tw,Tw,Tw,beq_iff_eq,beq_iff_eq,beq_iff_eq,W8] at q
   obtain ⟨⟨⟨⟨⟨J,L⟩,M⟩,O⟩,y⟩,Q⟩:=q
   subst J L
   cases z with
   | mk u bs H I v hd w c r b A=>
    cases B
    cases M
    have e:R = #[j,l,m,o,some (.builtin n),p]:=a1s.mp G
    subst e
    exact ⟨i,I,u,v,bs,hd,w,c,r,b,s,j,l,m,o,p,_,X _ _ E,.of_isNs (PySem.W.isNs_of_in X y),PySem.W.nsMap_none_of_in X y Q,PySem.W.tail_of_in X O⟩
  ·cases q
 ·cases q
noncomputable def pV (x:Str)(ms:MA):MR:=fun a b=>(ms a b).map fun p=>((x,[]),a,p.2)
theorem Md {P:Ud}{w:Uv}{H:Hp}{h:UU}(ok:HOk P w H h){a:Addr}(b:h.get? a=none):H a=none:=by
 cases q:H a with
 | none=>rfl
 | some u=>
  obtain ⟨o,g⟩:=LW (ok a u q)
  rw [b] at g;cases g
theorem Me {X:Cx}{a3F:List (Addr×Obj)}{σ:L2.St}{H:Hp}{s:TC}(I:Inv X a3F σ H s)(b:X.ex=[]){a:Addr}(c:s.heap.get? a=none):X.s₀.heap.get? a=none:=by
 cases q:X.s₀.heap.get? a with
 | none=>rfl
 | some o=>
  obtain ⟨d,g⟩:=I.base.there a o q (by rw [b];simp)
  rw [c] at g;cases g
theorem Mf {X:Cx}{x:Str}{C:Addr}{e:Expr}{o:List Expr}{ms:MA}{n:Nat}{np a pos:Vt}(c:ClsK X.K x C)(M:X.ex=[])(hc:X.calm=true)(hg:Gl X x)(K:QA X.nox (e::o) ms n)(hn:n<=30)
  (L:(x == ("__debug__":Str))=false):QR X (.Raise (some (.Call (.Name x np) (e::o) [] a)) none pos) (pV x ms):=by
 refine ⟨fun r s σ H π ρ Z y ρ' μ' I R E h w=>?_⟩
 obtain ⟨⟨ds,l⟩,h1,h⟩:=Tz.mp h
 cases h
 have Q:=K.s
 have d:=Q
 rw [Uy,Tw] at d
 have he:Ue (e::o) X.env=_:=dD d.1
 have O:(VF a (Ue o X.env)).any (·.1)=false:=fQ d.2
 obtain ⟨bm,N,nm,qn,bs,hd,sn,U,ab,J,dd,k0,T,k2,k3,k5,mN,o1,o2,o3,o4⟩:=Mc I.mod.kin c.exc
 refine wpAny_Raise_call_subT (C:=C) (nm:=nm) (q:=qn) (N:=N) (bs:=bs) (bm:=bm) (hdct:=hd) (sn:=sn) (sub:=U) (ab:=ab) (col:=J) (dd:=dd) (k0:=k0) (k1:=T) (k2:=k2) (k3:=k3) (k5:=k5) Zf (mN:=mN)
  (o4.hasType Zf.hasBase) (I.ok.hd hc) (by rw [he];show (false||(VF a (Ue o X.env)).any (·.1))=false;rw [O];rfl) o3 (jP I hg (Wn I.mod.kin I.mod.glob c.nm) ⟨rfl,?_⟩ L)
 have T:=K.h a r s σ H (fun Y m=>∃ b,Ext π Z.length H b l.length m/\Rp X.K b m l/\Y.length=n) (I.wish _) ⟨π,ρ,Z,ds,l,R,E,h1,fun b Y m B G i1=>⟨b,B,G,by rw [i1.length];exact K.l ρ Z ds l h1⟩⟩
 have v:Ua (Ul X.prog X.w) X.A (a2y (VF a (Ue (e::o) X.env))) _ _ s:=T
 rw [he] at v ⊢
 refine Ys (UH v (fun us s1 ⟨Y,m,i,rv,b,B,G,hl⟩=>?_) fun _ _ z=>UA z)
 have i:=i.unwish
 have A:us.length<=TZ:=by
  have:=rv.length
  rw [<- this,hl,UW]
  omega
 refine ⟨rfl,A,i.bk _ _ o1,o2.keeps i.bk,o4.keeps i.bk,fun h' ea u=>?_⟩
 obtain ⟨t,t1,_,_⟩:=u.there
 have I2:Inv X r σ m { s1 with heap:=h' }:=i.kept (t':=s1.toks) u.keeps
 refine w b σ m _ ea (.ref C) none none B G (E.mono B) I2 ⟨⟨⟨_,_,t1,rfl,rfl,rfl,rfl,rfl⟩,fun p j=>nomatch j⟩,(fun p j=>nomatch j),⟨Me i M u.new,fun p j=>nomatch j⟩,⟨Md i.hok u.new,fun p j=>nomatch j⟩,fun q hq=>⟨fun z=>?_,fun p j=>nomatch j⟩⟩ ⟨c.nm,.inl ⟨rfl,rfl⟩⟩
 have:=(i.pin q hq).1
 rw [z,u.new] at this
 cases this
end L3
namespace L3
open PySem L2 PySem.Spec PyProof.Rows
noncomputable def pW (K:Tv)(C:Addr):Option (List Value):=match K.lookup C with
 | some ⟨.type "type",_,.cls cd,sl⟩=>(match cd.mro,sl.toList with
  | .ref C'::bm,[_,_,_,_,some (.builtin n),_]=>if (C' == C&&n == "ValueError.__new__" && !cd.hasDel&&bm.contains (.type "BaseException")&&cd.hasDict)=true then some bm else none
  | _,_=>none)
 | _=>none
theorem pX {K:Tv}{h:UU}{C:Addr}{bm:List Value}(X:K.In h)(q:pW K C=some bm) :
  (∃ N r s bs u b o a p d i j l m,h.get? C=some (YO r s C N bs bm true u b o a p d i j l m "ValueError.__new__"))/\bm.contains (.type "BaseException")=true:=by
 unfold pW at q
 split at q
 ·rename_i p B M H
  split at q
  ·rename_i O v d i j l n m G I
   split at q
   ·rename_i c
    cases q
    rw [Tw,Tw,Tw,Tw,beq_iff_eq,beq_iff_eq,W8] at c
    obtain ⟨⟨⟨⟨w,x⟩,y⟩,z⟩,A⟩:=c
    subst w x
    cases B with
    | mk r bs J L s hd u b o a E=>
     cases G
     cases y
     cases A
     have e:M = #[d,i,j,l,some (.builtin "ValueError.__new__"),m]:=a1s.mp I
     subst e
     exact ⟨⟨L,r,s,bs,u,b,o,a,p,d,i,j,l,m,X _ _ H⟩,z⟩
   ·cases q
  ·cases q
 ·cases q
noncomputable def jB (K:Tv)(x:Str):Option Addr:=match Vo K UI x with
 | some (some (.ref C))=>some C
 | _=>none
theorem mG {K:Tv}{x:Str}{C:Addr}(h:jB K x=some C):Vo K UI x=some (some (.ref C)):=by
 unfold jB at h
 split at h
 ·cases h;assumption
 ·cases h
noncomputable def pY (K:Tv)(x y:Str):Option Bool:=(jB K x).bind fun B=>(jB K y).bind fun C=>(pW K B).bind fun a=>(pW K C).map fun _=>(T6 B::a).contains (.ref C)
section
variable {M:ZV}{A:Ur}{E:Value->TC->Prop}
theorem Mg {s:TC}{B C e:Addr}{nm q G O:Str}{N K:Addr}{bs bm p a:List Value}{hdct i:Bool}{sn H:List Str}{sub m:List Value}{ab o:Bool}{col j:Option Bool}{dd r:Option Addr}{k0 k1 k2 k3 k5 v w x y z:Option Value}{J:Obj}{Q:Bool->TC->Prop}
  (hB:s.heap.get? B=some (YO nm q B N bs bm hdct sn sub ab col dd k0 k1 k2 k3 k5 "ValueError.__new__")) (hC:s.heap.get? C=some (YO G O C K p a i H m o j r v w x y z "ValueError.__new__"))
  (L:s.heap.get? e=some J)(l:J.cls=.ref B)(c:a.contains (.type "BaseException")=true) (I:Q ((T6 B::bm).contains (.ref C)) s):Ua M A (excMatches (.ref e) (.ref C)) Q E s:=by
 obtain ⟨h,g,d,t,R⟩:=s
 have u:(T6 C::a).contains (.type "BaseException")=true:=by rw [YL,c,a2G]
 have f:=tc_notTuple
 have n:∃ b,(T6 B::bm).contains (.ref C)=b:=⟨_,rfl⟩
 obtain ⟨b,n⟩:=n
 rw [n] at I
 unfold excMatches
 repeat (first|(with_reducible refine Yd L ?_;rw [l])|with_reducible refine Yd hC ?_|(with_reducible refine YX hC ?_;rw [u])|(with_reducible refine YX hB ?_;rw [n])|wp_step)
 cases b<;>(wp_walk;exact I)
end
noncomputable def Mh (o:Obj):Prop:=∃ vs,o.data=.fields vs/\vs[2]? = some U1
noncomputable def sL (e:Addr)(H:Hp):Prop:=∃ o u,H e=some (.frz o u)/\Mh o
structure QBh (X:Cx)(e:Addr)(st:List Stmt)(m:MS):Prop where
 h:∀ (a3F:List (Addr×Obj))(s:TC)(σ:L2.St)(H:Hp)(D:Ends),sL e H->Inv X a3F σ H s->cY X.K m D σ H->Ua (Ul X.prog X.w) X.A (execs st X.env) (SP X a3F D) X.xe s
theorem QB.soft {X:Cx}{e:Addr}{st:List Stmt}{m:MS}(h:QB X st m):QBh X e st m:=⟨fun a3F s σ H D _ I t=>h.h a3F s σ H D I t⟩
noncomputable abbrev _root_.L2.Cx.hnd (X:Cx)(e:Value):Cx:={ X with A:=X.A.mark (some e),calm:=false,xe:=fun _ _=>False }
section
variable {X:Cx}{a3F:List (Addr×Obj)}{σ:L2.St}{H H':Hp}{s s':TC}{e:Addr}{cls:Value}{dc:Option Addr}{T:Option (Addr×Value)}
theorem Cy (I:Inv X a3F σ H s)(v:Value):Inv (X.hnd v) a3F σ H s:=
 ⟨⟨I.ok.mod,I.ok.kind,I.ok.glob,I.ok.blt,I.ok.above,I.ok.inj,I.ok.has,I.ok.cab,(fun z=>nomatch z),I.ok.frames,I.ok.stk,I.ok.exf,I.ok.bs,I.ok.bsz,I.ok.noex,I.ok.exfs,I.ok.funs,I.ok.frf⟩,I.os,I.bare,I.base,I.loc,I.cell,I.free,I.freeC,I.pin,I.hok,I.len⟩
theorem sM (ok:X.Ok){v:Value}(I:Inv (X.hnd v) a3F σ H s):Inv X a3F σ H s:=⟨ok,I.os,I.bare,I.base,I.loc,I.cell,I.free,I.freeC,I.pin,I.hok,I.len⟩
theorem Mi {M:ZV}{E:Value->TC->Prop}{Q:Unit->TC->Prop}{L:Addr}(l:X.ex=[])(c:X.stack=X.env::X.outer)(v:X.env.frame=some L)(I:Inv X a3F σ H s)(x:Ex X a3F H s e cls dc T)
  (k:∀ s' A,Inv X a3F σ H s'->Ex X a3F H s' e cls dc (some (A,.none))->Q () s'):Ua M X.A (ZG (.ref e) X.env) (fun _ i=>Ua M X.A (ZD (.ref e) none) Q E i) E s:=by
 refine Ct (fun p a=>(x.hT p a).imp id fun ⟨L,u,q⟩=>by rw [v] at u;cases u;exact q) (by rw [<- c];exact I.ok.frames) (by rw [<- c];exact I.stack) v x.rc fun G B R j w=>?_
 refine wQ (s:={ s with heap:=G }) R fun r U _ y=>?_
 have K:XKept (dB X.stack) e T s.heap r:=by
  rw [c]
  refine ⟨fun b o d n h N=>?_,fun b o d n h=>?_⟩
  ·rw [y b (pT d h j)]
   exact w.keep b o d n h N
  ·obtain ⟨O,J⟩:=w.slot b o d n h
   refine ⟨O,?_⟩
   rw [y b (pT d h j)]
   exact J
 refine k { s with heap:=r } B (x.kept l I K) ⟨U,(fun p a=>by cases a;exact .inl rfl),⟨x.lo.1,fun p a=>?_⟩,⟨x.fr.1,fun p a=>?_⟩,fun q m=>⟨(x.pn q m).1,fun p a=>?_⟩⟩
 ·cases a
  exact j.elim (fun z=>Yw (UT I.sz z)) (fun ⟨p,a,q⟩=>q ▸ x.lo.2 p a)
 ·cases a
  exact j.elim (fun z=>I.hok.fresh z) (fun ⟨p,a,q⟩=>q ▸ x.fr.2 p a)
 ·cases a
  exact pT (I.pin q m).1 (x.pn q m).2 j
theorem Mj {M:ZV}{A:Ur}{E:Value->TC->Prop}{Q:Unit->TC->Prop}{T:Addr}(c:X.ex=[])(I:Inv X a3F σ H s)(x:Ex X a3F H s e cls dc (some (T,.none)))
  (k:∀ s',Inv X a3F σ H s'->Ex X a3F H s' e cls dc (some (T,.none))->Q () s'):Ua M A (ZD (.ref e) none) Q E s:=by
 refine wQ x.rc fun h i _ d=>k { s with heap:=h } (x.kept c I ⟨fun b o a _ n _=>?_,fun b o a _ n=>⟨o.slots,?_⟩⟩) ⟨i,x.hT,x.lo,x.fr,x.pn⟩
 ·rw [d b (n _ rfl)];exact a
 ·rw [d b (n _ rfl)];exact a
theorem Ex.cell {π:Nat->Addr}{d:Hm}{y:Xn}(j:X.ex=[])(I:Inv X a3F σ H s)(x:Ex X a3F H s e cls dc T)(R:Rp X.K π H d)(B:pU X.K π d.length H cls dc y) :
  ∃ i H',Ext π d.length H i (d++[C.exc y.1 (y.2.map (·.1)) (y.2.map (·.2))]).length H'/\Rp X.K i H' (d++[C.exc y.1 (y.2.map (·.1)) (y.2.map (·.2))])/\Inv X a3F σ H' s/\i d.length=e/\sL e H':=by
 obtain ⟨o,v,q,K,w,r,g5,L⟩:=x.rc.ob
 have hc:m8 X.K π d.length H e (C.exc y.1 (y.2.map (·.1)) (y.2.map (·.2))) (.frz o (.ext fun _=>True)):=by
  refine ⟨o,_,rfl,by rw [K];exact B.1,⟨v,r⟩,?_⟩
  rcases B.2 with ⟨h,U⟩|⟨G,od,us,M,N,O,Q⟩
  ·rw [h];exact .inl ⟨rfl,rfl,w.trans U⟩
  ·exact .inr ⟨G,od,us,by rw [w];exact M,N,O,Q⟩
 obtain ⟨J,E,p1⟩:=R.alloc x.fr.1 hc
 refine ⟨_,_,J,E,?_,p1,o,_,cN,v,r,L⟩
 have l:∀ b u,H b=some u->b≠e:=fun b u h z=>by rw [z,x.fr.1] at h;cases h
 have A:∀ b∈[e],X.s₀.heap.get? b=none:=fun b a=>by cases UE.mp a;exact x.lo.1
 have m:=Cv I j A fun b a=>by cases UE.mp a;exact ⟨o,v,q,r⟩
 have k:=m.step (H':=aL H e (.frz o (.ext fun _=>True))) (h':=s.heap) (g':=s.gens) (d':=s.drawn) (t':=s.toks) (ch:=[e]) (fun b a=>?_) (fun b o _ _ _ g _=>g) (fun b o _ _ _ g _=>⟨o.slots,g⟩)
  (fun b o Z g n=>?_) (fun b o _ g=>⟨o,g⟩) (fun b xs h=>by rw [bC (l _ _ h)];exact h) (fun b o u h=>by rw [bC (l _ _ h)];exact h) (fun b ps h=>⟨#[],by rw [bC (l _ _ h),h];simp⟩) (fun _ h=>h) ?_ I.bare
 ·exact Cw k j A
 ·refine ⟨.inl a,(m.ok.exf b a).1,(m.ok.exf b a).2,fun p Y=>?_⟩
  cases UE.mp a
  exact (x.pn p Y).1
 ·rw [bC (fun z=>Z (by rw [z];exact UE.mpr rfl))]
  exact n
 ·intro b u h
  by_cases a:b=e
  ·subst a
   rw [cN] at h
   cases h
   exact ⟨q,trivial,⟨o,q⟩,fun _ _ _ _=>trivial⟩
  ·rw [bC a] at h
   exact (I.hok b u h).stay (fun _ _ _ g=>g) (fun c g=>by rw [bC (l _ _ g)];exact g) (fun c xs g=>by rw [bC (l _ _ g)];exact g)
theorem En.unset {K:Tv}{π:Nat->Addr}{n:Nat}{H:Hp}{σ:L2.St}{b:aF}(E:En K π n H σ b)(i:Nat):En K π n H (σ.set i none) (b.set i none):=by
 refine ⟨by rw [Ut,Ut];exact E.len,fun j c e=>?_⟩
 rw [a1o] at e ⊢
 by_cases a:i=j
 ·rw [if_pos a] at e
  split at e<;>cases e
 ·rw [if_neg a] at e ⊢
  exact E.get j c e
theorem sN {M:ZV}{A:Ur}{E:Value->TC->Prop}{Q:Unit->TC->Prop}{i:Nat}{y:Str}{pos:Vt}(I:Inv X a3F σ H s)(Y:X.N.Nodup)(N:X.N[i]? = some y)(O:X.env.scope.names.lookup y=some .local)
  (h:∀ s',Inv X a3F (σ.set i none) H s'->Q () s'):Ua M A (do bindName X.env y .none;a1O X.env y pos) Q E s:=by
 have Z:X.env.kindOf y=some .local:=O
 have G:(X.env.scope.kind == .class||(X.env.scope.kind == .module&&X.env.locals != X.env.globals))=false:=by rw [I.ok.kind];rfl
 refine Tx (wpAny_bindName (rH (v:=.non) I Y N (.inl O) rfl (fun s1 a _=>?_) (.inr O)))
 unfold a1O
 refine wpAny_onRaise ?_
 unfold unbindName
 refine Tx (wpAny_point (Tx ?_))
 unfold deleteName
 simp only [Z,G]
 rw [if_neg (by decide)]
 obtain ⟨m,hn,hl⟩:=id a.loc
 have r:i<(σ.set i (some V.non)).length:=by rw [a.len];exact (TB.mp N).1
 have my:(m y).isSome=true:=by
  obtain ⟨u,_,q⟩:=hl i y .non N (by rw [Ug (by simpa using r)]) (.inl O)
  rcases q with ⟨_,q⟩|⟨q,_⟩
  ·rw [q];rfl
  ·rw [Z] at q;rcases q with q|q<;>cases q
 refine Tx (wpAny_nsDel_keeps hn fun h2 v U x=>?_)
 simp only [my,Vv,TY,if_false]
 refine TN (wpAny_point (h _ ?_))
 have cne:=a.cne
 obtain ⟨oL,_,_,hoL,_⟩:=id hn
 refine ⟨I.ok,a.os,a.bare,⟨fun b o e n R K=>?_,fun b o e n R K=>?_,a.base.free,fun b o e K=>?_,a.base.tups,a.base.frzs,a.base.tbls⟩,⟨_,U,fun j z v' B L e3=>?_⟩,fun y c e=>?_,a.free,a.freeC,fun p hp=>?_,fun b ob e=>?_,by rw [Ut];exact I.len⟩
 ·exact (x.2 b (Ui (Uj (T3 e) I.ok.above))).trans (a.base.keep b o e n R K)
 ·obtain ⟨sl,B⟩:=a.base.slot b o e n R K
  exact ⟨sl,(x.2 b (Ui (Uj (T3 e) I.ok.above))).trans B⟩
 ·obtain ⟨o',B⟩:=a.base.there b o e K
  exact ⟨o',(x.2 b (Ui (Uj (T3 e) I.ok.above))).trans B⟩
 ·have J:j≠i:=fun J=>by
   subst J
   rw [Ug (by simpa using r)] at L
   cases L
  rw [TQ (UG J)] at L
  obtain ⟨u',r',q⟩:=hl j z v' B (by rw [TQ (UG J)];exact L) e3
  refine ⟨u',r',?_⟩
  rcases q with ⟨k,e⟩|⟨k,c,e,w⟩
  ·refine .inl ⟨k,?_⟩
   have:z≠y:=fun e=>J (uQ Y B (e ▸ N))
   simp [this,e]
  ·exact .inr ⟨k,c,e,w.sameBut x (cne z c e)⟩
 ·obtain ⟨w',z⟩:=a.cell y c e
  exact ⟨w',z.sameBut x (cne y c e)⟩
 ·obtain ⟨e,n,ne,nf,d⟩:=a.pin p hp
  exact ⟨(x.2 p.1 ne).trans e,n,ne,nf,d⟩
 ·refine (a.hok b ob e).stay (fun c w' hc q=>(x.2 c ?_).trans q) (fun _ q=>q) fun _ _ q=>q
  intro z
  have l:=a.free
  rw [<- z] at l
  rcases hc with hc|hc
  ·rw [hc,e] at l;cases l
  ·rw [l] at hc;cases hc
end
noncomputable def kY (m:MS)(r:MR)(sup:Str->Option Bool)(i:Nat)(c:MS):MS:=fun b a=>match r b a with
 | some p=>if sup p.1.1=some true then (c (p.2.1.set i (some (.loc p.2.2.length))) (p.2.2++[C.exc p.1.1 (p.1.2.map (·.1)) (p.1.2.map (·.2))])).map fun q=>(q.1,q.2.1.set i none,q.2.2) else none
 | none=>m b a
theorem Ml {X:Cx}{body hb:List Stmt}{l:Stmt}{c y:Str}{cp hp pos:Vt}{L:Addr}{i:Nat}{m mh:MS}{r:MR}{sup:Str->Option Bool}(O:X.ex=[])(hst:X.stack=X.env::X.outer)(hf:X.env.frame=some L)(hN:X.N.Nodup)
  (hi:X.N[i]? = some y)(hy:X.env.scope.names.lookup y=some .local)(hg:Gl X c)(hdb:(c == ("__debug__":Str))=false) (hs:∀ x b,sup x=some b->pY X.K x c=some b)
  (hm:QB X.nox body m)(hr:∀ E,QRB (X.wish E) body r)(hh:∀ e,QBh (X.hnd (.ref e)) e (l::hb) mh) :
  QS X (.Try body [.ExceptHandler (some (.Name c cp)) (some y) (l::hb) hp] [] [] pos) (kY m r sup i mh):=by
 refine ⟨fun j s A H D I t=>wpAny_Try_except ?_⟩
 obtain ⟨π,ρ,μ,fl,ρ',μ',R,En0,o,n⟩:=t
 unfold kY at o
 split at o
 ·rename_i p hp'
  obtain ⟨x,ρ1,Y⟩:=p
  dsimp only at o
  split at o
  ·rename_i w
   obtain ⟨⟨fl2,ρ2,μ2⟩,hq,o⟩:=Tz.mp o
   cases o
   refine aN ((hr (fun e s₁=>Ua (Ul X.prog X.w) X.A (ZG e X.env) (fun _ s₂=>Ua (Ul X.prog X.w) X.A (ZD e none) (fun _ s₃=>Ua (Ul X.prog X.w) X.A (handleBy e X.env [.ExceptHandler (some (.Name c cp)) (some y) (l::hb) hp]) (SP X j D) X.xe s₃) X.xe s₂) X.xe s₁)).h j s A H π ρ μ x ρ1 Y (I.wish _) R En0 hp' ?_) fun _ _ z=>z.elim
   intro π1 σ1 H1 s1 e cls dc T e1 R1 E1 I1 U ix
   have I1:=I1.unwish
   have U:Ex X j H1 s1 e cls dc T:=⟨U.rc,U.hT,U.lo,U.fr,U.pn⟩
   refine Mi O hst hf I1 U fun s2 T2 I2 x2=>?_
   obtain ⟨B,hB⟩:∃ B,jB X.K x.1=some B:=by
    have:=hs _ _ w
    unfold pY at this
    obtain ⟨B,hB,_⟩:=Tu.mp this
    exact ⟨B,hB⟩
   have a:=hs _ _ w
   unfold pY at a
   rw [hB,T9] at a
   obtain ⟨Ca,hC,a⟩:=Tu.mp a
   obtain ⟨b1,hb1,a⟩:=Tu.mp a
   obtain ⟨b2,hb2,a⟩:=Tz.mp a
   have hcls:cls=.ref B:=by
    have h1:Vo X.K UI x.1=some (some cls):=ix.1
    rw [mG hB] at h1
    cases h1;rfl
   subst hcls
   have hmg:X.mg c=some (.ref Ca):=Wn I.mod.kin I.mod.glob (mG hC)
   have kin:=I2.kIn
   obtain ⟨⟨N1,mR,q1,bs1,sn1,su1,ab1,col1,dd1,a0,a1,a2,a3,a5,o1⟩,_⟩:=pX kin hb1
   obtain ⟨⟨N2,nm2,q2,bs2,sn2,su2,ab2,col2,dd2,c0,c1,c2,c3,c5,o2⟩,ob2⟩:=pX kin hb2
   obtain ⟨oe,vs,g1,g2,_⟩:=x2.rc.ob
   refine wpAny_handleBy_cons (codeAny_handlers_test ?_) (by intro q;cases q)
   refine jP (X:=X.hnd (.ref e)) (Cy I2 (.ref e)) hg hmg ?_ hdb
   refine Mg o1 o2 g1 g2 ob2 ?_
   rw [a]
   dsimp only [if_true]
   refine codeAny_handlers_suite_as ?_
   refine Mj O I2 x2 fun s3 I3 x3=>?_
   obtain ⟨π4,H4,e4,R4,I4,p4,sf⟩:=x3.cell O I3 R1 ix
   refine rH (v:=.ref e) I4 hN hi (.inl hy) rfl (fun s5 I5 _=>?_) (.inr hy)
   have dl:IsD X.K π4 (Y++[C.exc x.1 (x.2.map (·.1)) (x.2.map (·.2))]).length H4 (.ref e) (.loc Y.length):=by
    rw [<- p4]
    exact .loc (by simp)
   have k:=(hh e).h j s5 _ H4 { nx:=fun A H=>D.nx (A.set i none) H,bk:=fun A H=>D.bk (A.set i none) H,ct:=fun A H=>D.ct (A.set i none) H,rt:=D.rt } sf (Cy I5 (.ref e))
    ⟨π4,_,_,fl2,ρ2,μ2,R4,(E1.mono e4).set dl i,hq,?_⟩
   ·refine UH k (fun f s6 q=>?_) fun _ _ z=>UA z
    cases f with
    | next=>
     obtain ⟨Z,J,K,Q⟩:=q
     exact sN (sM I.ok K) hN hi hy fun s7 M=>⟨_,J,M,Q⟩
    | brk=>
     obtain ⟨Z,J,K,Q⟩:=q
     exact sN (sM I.ok K) hN hi hy fun s7 M=>⟨_,J,M,Q⟩
    | cont=>
     obtain ⟨Z,J,K,Q⟩:=q
     exact sN (sM I.ok K) hN hi hy fun s7 M=>⟨_,J,M,Q⟩
    | ret u=>
     obtain ⟨v6,Z,J,K,r6,Q⟩:=q
     exact sN (sM I.ok K) hN hi hy fun s7 M=>⟨v6,_,J,M,r6,Q⟩
   ·have ee:=e1.trans e4
    cases fl2 with
    | nx=>exact fun h σ' G N R' E'=>n h _ G (ee.trans N) R' (E'.unset i)
    | bk=>exact fun h σ' G N R' E'=>n h _ G (ee.trans N) R' (E'.unset i)
    | ct=>exact fun h σ' G N R' E'=>n h _ G (ee.trans N) R' (E'.unset i)
    | rt d=>exact fun h v G N=>n h v G (ee.trans N)
  ·cases o
 ·refine UH (hm.h j s A H D (I.wish _) ⟨π,ρ,μ,fl,ρ',μ',R,En0,o,n⟩) (fun f s1 q=>?_) fun _ _ z=>UA z
  cases f with
  | next=>exact XS (SP.unwish (f:=.next) q)
  | brk=>exact SP.unwish (f:=.brk) q
  | cont=>exact SP.unwish (f:=.cont) q
  | ret u=>exact SP.unwish (f:=.ret u) q
end L3
namespace L3
open PySem L2 PySem.Spec PyProof.Rows
section
variable {prog:Ud}{w:Uv}{A:Ur}{E:Value->TC->Prop}{s:TC}
variable {nm q:Str}{C N fI:Addr}{bs bm bmB:List Value}{hdct:Bool}{sn:List Str}{sub:List Value}{ab:Bool}{col:Option Bool}{dd:Option Addr}{k0 k1 k2 k3 k5:Option Value}{B newId initId:String}{mN:Str->Option Value}{bK:List Value}
end
end L3
namespace L3
open PySem L2 PySem.Spec PyProof.Rows
noncomputable def Mm (K:Tv)(C f:Addr):Bool:=match K.lookup C with
 | some ⟨.type "type",_,.cls cd,sl⟩=>(match cd.mro,sl.toList with
  | .ref C'::bm,[_,_,_,_,some (.builtin n),_]=>C' == C&&n == "ValueError.__new__" && !cd.hasDel&&cd.hasDict&&PySem.W.tailIn K wU bm&&PySem.W.nsOkIn K cd.ns&&Vo K cd.ns "__init__" == some (some (.ref f))
  | _,_=>false)
 | _=>false
noncomputable def Mn (K:Tv)(B:Addr):Bool:=PySem.W.readsIn K B (.type "type")&&(match PySem.W.findCls K (.ref B) (.type "type") "__init__" with|some (.val (.builtin n))=>n == "ValueError.__init__" | _=>false) &&
 XO K (.ref B) "__getattribute__" == some (some (.builtin "type.__getattribute__"))
structure InitK (K:Tv)(C f B:Addr)(bn at':Str):Prop where
 cls:Mm K C f=true
 base:Mn K B=true
 bnm:Vo K UI bn=some (some (.ref B))
 set:UN K (.ref C) "__setattr__" = some (some (.builtin "object.__setattr__"))
 none:UN K (.ref C) at'=some none
section
variable {X:Cx}{a3F:List (Addr×Obj)}{σ:L2.St}{H:Hp}{s:TC}{e C f B:Addr}{bn at':Str}
end
end L3
namespace L3
open PySem L2 PySem.Spec PyProof.Rows
end L3
namespace L3
open PySem L2 PySem.Spec PyProof.Rows
section
variable {prog:Ud}{w:Uv}{A:Ur}{E:Value->TC->Prop}{s:TC}
variable {nm q:Str}{C N x dx:Addr}{bs bm:List Value}{sn:List Str}{sub:List Value}{ab:Bool}{col:Option Bool}{dd:Option Addr}{k0 k1 k2 k3 k5:Option Value}{newId:String}{name:Str}{v:Value}{o:Obj}{vs:Array Value}{mA:Str->Option Value}
theorem Mo {M:ZV}{a:Value}{Q:Unit->TC->Prop}(e:bm.contains (.type "BaseException")=true) (hC:s.heap.get? C=some (YO nm q C N bs bm true sn sub ab col dd k0 k1 k2 k3 k5 newId))(l:s.heap.get? x=some o)(hc:o.cls=.ref C)(j:Q () s) :
  Ua M A (a2J "BaseException.__getattribute__" ⟨[.ref x,a],[]⟩) Q E s:=by
 have i:builtinKind "BaseException.__getattribute__" = some .slot:=by decide +kernel
 have c:splitId "BaseException.__getattribute__" = some ("BaseException","__getattribute__"):=by decide +kernel
 have b:(T6 C::bm).contains (.type "BaseException")=true:=by rw [YL,e,a2G]
 have m:=PySem.F.args_bexc_ga (.ref x) a
 obtain ⟨h,g,d,t,n⟩:=s
 simp only [a2J,i,c]
 refine Tx ?_
 unfold isInstance
 repeat (first|(with_reducible refine Yd l ?_;rw [hc])|(with_reducible refine YX hC ?_;rw [b])|wp_step)
 exact j
end
end L3
namespace L3
open PySem L2 PySem.Spec PyProof.Rows
noncomputable def mH (K:Tv)(C:Addr):Bool:=(pW K C).isSome&&UN K (.ref C) "__getattribute__" == some (some (.builtin "BaseException.__getattribute__"))&&UN K (.ref C) "__getattr__" == some none &&
 (PySem.W.clsIn K C).isSome&&UN K (.ref C) "__class__" == some (some (.builtin "object.__class__"))&&XO K (.builtin "object.__class__") "__get__" == some (some (.builtin "getset_descriptor.__get__")) &&
 a0P K (.builtin "object.__class__") == some true&&a1y K C (.type "object") == some true
section
variable {prog:Ud}{w:Uv}{A:Ur}{E:Value->TC->Prop}{s:TC}{K:Tv}{x C:Addr}{ox:Obj}{od:Option Obj}
theorem Mp {Q:Option Value->TC->Prop}(c:mH K C=true)(X:K.In s.heap)(I:XA s.heap x ox C od)(h:Q (some (.ref C)) { s with toks:=s.toks+1 }):Ua (Ul prog w) A (getAttr? (.ref x) "__class__") Q E s:=by
 unfold mH at c
 rw [Tw,Tw,Tw,Tw,Tw,Tw,Tw,beq_iff_eq,beq_iff_eq,beq_iff_eq,beq_iff_eq,beq_iff_eq,beq_iff_eq] at c
 obtain ⟨⟨⟨⟨⟨⟨⟨e,r⟩,u⟩,i⟩,y⟩,B⟩,G⟩,H⟩:=c
 obtain ⟨bm,e⟩:=UR.mp e
 obtain ⟨⟨N1,mR,q1,q,sn1,su1,p,m,J,b0,b1,b2,b3,b5,L⟩,N⟩:=pX X e
 have O:a0Q K C od "__class__" = some (.bind (.builtin "getset_descriptor.__get__") (.builtin "object.__class__")):=by
  obtain ⟨cd,i⟩:=UR.mp i
  unfold a0Q
  rw [i,T9,y,T9]
  simp [B,G]
 have l:=PySem.F.attrBase_ValueError
 have f3:=l.ga.bind (.ref x)
 have R:(false&&onTheHeap (UD "BaseException.__getattribute__"))=false:=rfl
 have j:(UD "BaseException.__getattribute__" == UD "object.__getattribute__")=false:=by decide +kernel
 have T:(onTheHeap (T6 C)&&UD "BaseException.__getattribute__" == UD "object.__getattribute__")=false:=by rw [j];rfl
 obtain ⟨a,g,d,t,b⟩:=s
 have Y:=Yh (M:=Ul prog w) X r
 have Z:=Yh (M:=Ul prog w) X u
 have l4:=PySem.W.looks_find (M:=Ul prog w) X I O
 have U:=I.type (M:=Ul prog w)
 have n:=I.at_
 have hc:=I.cls
 unfold getAttr? getAttrBy?
 repeat (any_goals (first|assumption|(with_reducible refine Yd n ?_;rw [hc])|with_reducible refine WB (s:=⟨a,g,d,_,b⟩) Y ?_|with_reducible refine WB (s:=⟨a,g,d,_,b⟩) Z ?_|wp_step))
 refine codeAny_call_builtin l.ga.plain PySem.F.entry_bexc_ga (Mo (s:=⟨a,g,d,t+1,b⟩) N L n hc ?_)
 have M:Ua (Ul prog w) A.in1 (call (.builtin "getset_descriptor.__get__") [.builtin "object.__class__",.ref x,.ref C]) (fun v o=>v=.ref C/\o=⟨a,g,d,t+1,b⟩) (fun _ _=>False) ⟨a,g,d,t+1,b⟩:=
  Zc (PySem.W.class_get (s:=⟨a,g,d,t+1,b⟩) X I H ⟨rfl,rfl⟩)
 refine Tx (TN (Tx (TN (Tx (WB (s:=⟨a,g,d,t+1,b⟩) U (Tx (WB (s:=⟨a,g,d,t+1,b⟩) l4 ?_)))))))
 refine Tx (VW (UH M (fun v o z=>?_) fun _ _ z=>z.elim))
 obtain ⟨rfl,rfl⟩:=z
 repeat (any_goals (first|assumption|wp_step))
end
theorem Cz {K:Tv}{x C:Addr}{o:Obj}(c:mH K C=true)(hc:o.cls=.ref C)(hd:∃ vs,o.data=.fields vs):PySem.W.KitX K (.ref x) (.ref C) (fun h=>∃ G,XA h x o C G) where
 ty:=fun _ _ _ ⟨_,I⟩=>I.type
 it:=fun M h X _=>by
  unfold mH at c
  rw [Tw,Tw,Tw,Tw,Tw,Tw,Tw] at c
  obtain ⟨A,j⟩:=UR.mp c.1.1.1.1.1.1.1
  obtain ⟨⟨s,mR,H,i,p,r,d,b,l,u,v,w,y,z,a⟩,B⟩:=pX X j
  intro L O N R k q
  unfold isType loadHead
  exact Tx (a3t (k _ _ a) (TN q))
 ne:=fun h J Q E n T X m=>by
  unfold mH at c
  rw [Tw,Tw,Tw,Tw,Tw,Tw,Tw] at c
  obtain ⟨A,j⟩:=UR.mp c.1.1.1.1.1.1.1
  obtain ⟨⟨s,mR,H,i,p,r,d,b,l,u,v,w,y,z,a⟩,B⟩:=pX X j
  refine Bool.eq_false_iff.mpr fun q=>?_
  have e:C=J:=Value.ref.inj (beq_iff_eq.mp q)
  subst e
  rw [m] at a
  injection a with a
  injection a with h1
  injection h1 with h2
  exact absurd h2 (by decide)
 ca:=fun X ⟨_,I⟩ k=>Mp c X I k
end L3
namespace L3
open PySem L2 PySem.Spec PyProof.Rows
noncomputable def jC (sup:Str->Option Bool)(m:ME):ME:=fun d c=>(m d c).bind fun p=>match p.1 with
 | .loc a=>(match p.2[a]? with
  | some (.exc x _ _)=>(sup x).map fun b=>(.bl b,p.2)
  | _=>none)
 | _=>none
noncomputable def g8 (K:Tv)(cv:Value)(x:Str):Option Bool:=(jB K x).bind fun B=>if mH K B=true then Xy K (.ref B) cv else none
theorem CA {X:Cx}{a:Expr}{c:Str}{cv:Value}{m:ME}{p J pos:Vt}{sup:Str->Option Bool}(ha:QE X a m)(hs:cD a=true)(hg:Gl X "isinstance") (hm:X.mg "isinstance" = none)
  (M:∀ l s K H Q,Inv X l K H s->Q cv s->Ua (Ul X.prog X.w) X.A (eval (.Name c J) X.env) Q X.xe s)(A:∀ x b,sup x=some b->g8 X.K cv x=some b) :
  QE X (.Call (.Name "isinstance" p) [a,.Name c J] [] pos) (jC sup m):=by
 refine ⟨fun l s K H Q I t=>?_⟩
 obtain ⟨π,ρ,μ,d,Y,R,E,h,kc⟩:=t
 unfold jC at h
 obtain ⟨⟨d1,j⟩,h1,h⟩:=Tu.mp h
 dsimp only at h
 split at h
 ·rename_i i
  split at h
  ·rename_i x ns ds hx
   obtain ⟨b,h2,h⟩:=Tz.mp h
   obtain ⟨rfl,rfl⟩:D.bl b=d/\j=Y:=by cases h;exact ⟨rfl,rfl⟩
   have y:Ue [a,.Name c J] X.env=(false,eval a X.env)::Ue [.Name c J] X.env:=dD hs
   refine Vy (gP I hg hm WG ?_)
   refine WW (args_cons (aN (ha.h l s K H (fun v n=>∃ e,Ext π μ.length H e j.length n/\Rp X.K e n j/\IsD X.K e j.length n v (.loc i)) I ⟨π,ρ,μ,_,j,R,E,h1,fun e v n L G O=>⟨e,L,G,O⟩⟩) fun u s1 ⟨v,n,r,rv,e,L,G,O⟩=>args_cons (M l s1 K n _ r (args_nil ?_))) y) y rfl
   cases O
   obtain rfl:u=T6 (e i):=rv
   obtain ⟨T,φ,g1,Z,⟨vs,g3⟩,w⟩:=G.exc i x ns ds hx
   have q:=A x b h2
   unfold g8 at q
   obtain ⟨B,hB,q⟩:=Tu.mp q
   split at q
   ·rename_i hI
    have o:T.cls=.ref B:=by
     rw [mG hB] at Z
     exact (T5 (T5 Z)).symm
    obtain ⟨y1,_⟩:=r.hok _ _ g1
    have N:∃ U,XA s1.heap (e i) T B U:=by
     have no:Yg T=true:=by
      unfold Yg
      rw [g3]
     rcases w with ⟨_,_,w⟩|⟨dx,U,us,w,g5,_⟩
     ·exact ⟨none,y1,o,no,by rw [w];trivial⟩
     ·obtain ⟨y2,_⟩:=r.hok _ _ g5
      exact ⟨some U,y1,o,no,by rw [w];exact y2⟩
    exact VJ (Cz hI o ⟨vs,g3⟩) r.kIn N q (fun z=>nomatch z) fun tk=>⟨.bl b,n,r.tok tk,rfl,kc e _ n L G (.bl b)⟩
   ·cases q
  ·cases h
 ·cases h
end L3
namespace L3
open PySem L2 PySem.Spec PyProof.Rows
noncomputable def wV (X:Cx):Prop:=∃ e,X.A.handled=some (.ref e)/\sL e X.H₀
structure FnU (l:Bool)(P:Ud)(w:Uv)(K:Tv)(mg:Str->Option Value)(base:UU)(f:Addr)(fd:Vc)(ps:List Str)(sp:Sp):Prop where
 len:∀ vs H Q E,sp vs H Q E->vs.length=ps.length
 run:∀ (A:Ur)(outer:List XU)(s:TC)(H:Hp)(args:Args)(us:List Value)(vs:List V)(Q:VK)(E:XK),A.depth<YM->(l=true->∃ e,A.handled=some (.ref e)/\sL e H)->Env0 P w K mg base A outer s H->YW s fd args (ps.zip us)->Vals vs us->sp vs H Q E->
  XF (Ul P w) A (.call (.ref f) args) (CR dC outer P w H s Q E) s
noncomputable abbrev kZ (P:Ud)(w:Uv)(K:Tv)(c:Str->Option Value)(base:UU)(N:List Str)(a:Str)(scope:VY)(f:Addr)(b:Value)(A:Ur)(outer:List XU)(s:TC)(H:Hp):Cx:=
 { eA dC P w K c base N a scope f b A outer s H (fun _ _ _=>False) with calm:=false,xe:=fun _ _=>False }
section
variable {P:Ud}{w:Uv}{K:Tv}{mg:Str->Option Value}{base:UU}{l:Bool}
theorem Mq {N ps:List Str}{a:Str}{scope:VY}{f:Addr}{c:Value}{A:Ur}{outer:List XU}{s d:TC}{H:Hp}{us:List Value}{vs:List V}
  (S:FnScope N ps scope)(b:Env0 P w K mg base A outer s H)(e:vs.length=ps.length)(r:Vals vs us)
  (x:InCallC s s.heap.objs.size (a0h (envOfC a scope s.heap.objs.size f c).kindOf (ps.zip us) fun _=>none) (ZK (s.heap.objs.size+1) scope.names []) (a0i (envOfC a scope s.heap.objs.size f c).kindOf (ps.zip us) fun _=>none) d) :
  Inv (kZ P w K mg base N a scope f c A outer s H) [] (L2.start N vs) H d:=by
 have I:=AQ (CX:=dC) (A:={ A with handled:=none }) (E:=fun _ _ _=>False) S rfl ⟨b.frames,b.mod,b.bs,b.bsz,b.funs,b.frf,b.hok,b.bare⟩ e r x
 exact ⟨⟨I.ok.mod,I.ok.kind,I.ok.glob,I.ok.blt,I.ok.above,I.ok.inj,I.ok.has,I.ok.cab,(fun z=>nomatch z),a0c b.frames,I.ok.stk,I.ok.exf,I.ok.bs,I.ok.bsz,I.ok.noex,I.ok.exfs,I.ok.funs,I.ok.frf⟩,I.os,I.bare,I.base,I.loc,I.cell,I.free,I.freeC,I.pin,I.hok,I.len⟩
theorem Mr {f:Addr}{name a:Str}{c:a2V}{body:List Stmt}{scope:VY}{Z kV p pm d ct oc:Value}{X od:Option Addr}
  {R:Array (Option Value)}{N ps:List Str}{sp:Sp}(lk:K.lookup f=some ⟨oc,od,.func (T8 name a c body scope Z kV p pm X d ct),R⟩)(L:WY K d a=true)(S:FnScope N ps scope)
  (len:∀ vs H Q E,sp vs H Q E->vs.length=ps.length)
  (h:∀ (A:Ur)(outer:List XU)(s:TC)(H:Hp)(vs:List V)(Q:VK)(E:XK),(l=true->wV (kZ P w K mg base N a scope f d A outer s H))->sp vs H Q E->
   ∃ t,PSs (kZ P w K mg base N a scope f d A outer s H) body t/\t { nx:=fun _ m=>Q .non m,rt:=Q } (L2.start N vs) H) :
  FnU l P w K mg base f (T8 name a c body scope Z kV p pm X d ct) ps sp:=by
 refine ⟨len,fun A outer s H Y us vs Q E hr M B hb r G=>?_⟩
 have hl:=len _ _ _ _ G
 have U:K.In s.heap:=B.mod.kin.keeps fun b o e=>(B.bs b o e).1
 have O:s.heap.NoLimit:=B.mod.nolimit.keeps fun b o e=>(B.bs b o e).1
 have i:∀ y∈ps.zip us,scope.names.lookup y.1=some .local\/(scope.names.lookup y.1=some .cell/\((ZK (s.heap.objs.size+1) scope.names []).lookup y.1).isSome=true):=fun ⟨n,v⟩ hy=>by
  rcases S.par n (Yl hy).1 with q|q
  ·exact .inl q
  ·exact .inr ⟨q,X5 _ _ _ (.inl q)⟩
 refine a1v hr (U _ _ lk) rfl S.co S.gen rfl (a0m U L) (hb _ _ _ _ ?_)
 refine a0d S.kind i fun env he s1 x=>?_
 subst he
 refine ⟨O.keeps x.toInCall.keep,codeAny_func ?_⟩
 obtain ⟨t,ht,hq⟩:=h A outer s H vs Q E (fun z=>M z) G
 have I:Inv (kZ P w K mg base N a scope f d A outer s H) [] (L2.start N vs) H s1:=Mq S B hl r x
 refine UH (ht [] s1 (L2.start N vs) H _ I hq) (fun fl s' j=>?_) fun e s' j=>j.elim
 cases fl with
 | ret u=>
  obtain ⟨v,T,m,J,rv,q⟩:=j
  exact ⟨v,m,J.os,J.bare,J.base,J.hok,rv,q⟩
 | next=>
  obtain ⟨T,m,J,q⟩:=j
  exact ⟨.non,m,J.os,J.bare,J.base,J.hok,rfl,q⟩
 | brk=>
  obtain ⟨_,_,_,q⟩:=j
  exact UA q
 | cont=>
  obtain ⟨_,_,_,q⟩:=j
  exact UA q
theorem Ms {x a:Str}{st:Stmt}{f:Addr}{u:Vc}{N ps:List Str}{m:MS}(F:Fun K x a st f u)(S:FnScope N ps (aU st))(n:ps.length<=N.length)
  (c:∀ (b:Value)(A:Ur)(outer:List XU)(s:TC)(H:Hp),(l=true->wV (kZ P w K mg base N a (aU st) f b A outer s H))->QB (kZ P w K mg base N a (aU st) f b A outer s H) (bD st) m):FnU l P w K mg base f u ps (dI K ps.length (pN N.length m)):=by
 obtain ⟨oc,od,dV,kV,G,pm,an,b,ct,M,rfl,lk,j⟩:=F.ex
 refine Mr lk j S (fun O H Q E h=>h.1) fun A outer s H O Q E o h=>⟨_,(c b A outer s H o).h,?_⟩
 obtain ⟨L,X,ds,T,d,U,R,i,e,y⟩:=h
 obtain ⟨⟨v,r,p⟩,J,e⟩:=Tu.mp e
 refine ⟨X,_,T,v,r,p,R,vT i (by rw [L];exact n),J,?_⟩
 cases v with
 | rt d'=>cases e;exact y
 | nx=>cases e;exact fun q Y z I B Z=>y q .non z I B .non
 | bk=>cases e
 | ct=>cases e
end
section
variable {X:Cx}
noncomputable def sO (X:Cx):List Expr->List Addr->Prop
 | [],[]=>True
 | .Name x _::r,C::l=>Gl X x/\X.mg x=some (.ref C)/\(x == ("__debug__":Str))=false/\sO X r l
 | _,_=>False
theorem CB:∀ {a:List Expr}{l:List Addr},sO X a l->PA X a (fun _ H Q=>Q (l.map V.ref) H)/\a.all cD=true
 | [],[],_=>⟨AG,rfl⟩
 | .Name x p::r,C::l,⟨h1,h2,h3,h4⟩=>by
  obtain ⟨d,c⟩:=CB h4
  refine ⟨?_,by rw [Uy,c];rfl⟩
  have k:=AH (X:=X) (e:=.Name x p) (te:=fun _ H Q=>Q (V.ref C) H) (fun b s e H Q I h=>jP I h1 h2 ⟨V.ref C,H,I,rfl,h⟩ h3) d (dD rfl)
  exact k
 | [],_::_,h=>h.elim
 | .Name _ _::_,[],h=>h.elim
end
theorem CC:∀ {l:List Addr}{us:List Value},Vals (l.map V.ref) us->us=l.map T6
 | [],_,.nil=>rfl
 | C::l,_,.cons ra rb=>by rw [TM,<- CC rb,show _=T6 C from ra]
theorem Mt {K:Tv}{B:Addr}{b:List Bool}{l:List Addr}(h:l.map (fun C=>Xy K (.ref B) (.ref C))=b.map some):a1d K (.ref B) (l.map T6)=some (b.any id):=by
 induction l generalizing b with
 | nil=>cases b with
  | nil=>rfl
  | cons=>cases h
 | cons C l a=>cases b with
  | nil=>cases h
  | cons c b=>
   rw [TM,TM,WI] at h
   rw [TM]
   unfold a1d
   rw [h.1]
   cases c
   ·exact (a (b:=b) h.2)
   ·rfl
theorem Mu {X:Cx}{a:Expr}{U:List Expr}{l:List Addr}{m:ME}{p pos tp:Vt}{kt:Nat}{sup:Str->Option (List Bool)}(ha:QE X a m)(hs:cD a=true)(hg:Gl X "isinstance") (hm:X.mg "isinstance" = none)
  (hl:sO X U l)(hz:l.length<=TZ)(T:∀ x b,sup x=some b->l.map (fun C=>g8 X.K (.ref C) x)=b.map some/\b≠[]) :
  QE X (.Call (.Name "isinstance" p) [a,.Tuple U kt tp] [] pos) (jC (fun x=>(sup x).map fun b=>b.any id) m):=by
 refine ⟨fun J s σ H Q I t=>?_⟩
 obtain ⟨π,ρ,μ,d,μ',R,E,h,kc⟩:=t
 unfold jC at h
 obtain ⟨⟨d1,j⟩,h1,h⟩:=Tu.mp h
 dsimp only at h
 split at h
 ·rename_i i
  split at h
  ·rename_i x ns ds hx
   obtain ⟨b0,h2,h⟩:=Tz.mp h
   obtain ⟨rfl,rfl⟩:D.bl b0=d/\j=μ':=by cases h;exact ⟨rfl,rfl⟩
   obtain ⟨b,h3,rfl⟩:=Tz.mp h2
   have O:Ue [a,.Tuple U kt tp] X.env=(false,eval a X.env)::Ue [.Tuple U kt tp] X.env:=dD hs
   refine Vy (gP I hg hm WG ?_)
   have tpl:=AI (x1:=kt) (pos:=tp) (CB hl).1
   refine WW (args_cons (aN (ha.h J s σ H (fun v w=>∃ e,Ext π μ.length H e j.length w/\Rp X.K e w j/\IsD X.K e j.length w v (.loc i)) I ⟨π,ρ,μ,_,j,R,E,h1,fun e v w e1 R1 i1=>⟨e,e1,R1,i1⟩⟩) fun u s1 ⟨v,w,I1,rv,e,e1,R1,i1⟩=>
    args_cons (aN (tpl J s1 σ w (fun v2 H2=>∃ q,v2=.ref q/\w q=none/\H2=aL w q (.tup (l.map V.ref))) I1 ⟨by rw [TF];exact hz,fun q hq=>⟨q,rfl,hq,rfl⟩⟩) fun u2 s2 ⟨v2,H2,G,rv2,q,hv2,hq,hH2⟩=>args_nil ?_)) O) O rfl
   subst hv2 hH2
   obtain rfl:u2=T6 q:=rv2
   cases i1
   obtain rfl:u=T6 (e i):=rv
   obtain ⟨e2,R2⟩:=R1.fresh (o:=.tup (l.map V.ref)) hq
   obtain ⟨ob,φ,g1,g2,⟨vs,g3⟩,K⟩:=R2.exc i x ns ds hx
   obtain ⟨A,hne⟩:=T x b h3
   obtain ⟨B,Y,Z,A⟩:∃ B,jB X.K x=some B/\mH X.K B=true/\l.map (fun C=>Xy X.K (.ref B) (.ref C))=b.map some:=by
    cases l with
    | nil=>cases b with
     | nil=>exact absurd rfl hne
     | cons=>cases A
    | cons C l=>
     cases b with
     | nil=>cases A
     | cons c b=>
      have M:=A
      rw [TM,TM,WI] at M
      have L:=M.1
      unfold g8 at L
      obtain ⟨B,Y,L⟩:=Tu.mp L
      split at L
      ·rename_i Z
       refine ⟨B,Y,Z,?_⟩
       rw [<- A]
       refine US fun C' _=>?_
       unfold g8
       rw [Y,T9,if_pos Z]
      ·cases L
   have y:ob.cls=.ref B:=by
    rw [mG Y] at g2
    exact (T5 (T5 g2)).symm
   obtain ⟨y1,_⟩:=G.hok _ _ g1
   have hin:∃ od,XA s2.heap (e i) ob B od:=by
    have no:Yg ob=true:=by
     unfold Yg
     rw [g3]
    rcases K with ⟨_,_,K⟩|⟨dx,od,us,K,g5,_⟩
    ·exact ⟨none,y1,y,no,by rw [K];trivial⟩
    ·obtain ⟨y2,_⟩:=G.hok _ _ g5
     exact ⟨some od,y1,y,no,by rw [K];exact y2⟩
   obtain ⟨z,its,r,o,t1,t2,n,t3,t4⟩:=(show ObjOk X.prog X.w _ s2.heap q (.tup (l.map V.ref)) from G.hok q _ cN)
   have N:its=l.map T6:=CC r
   subst N
   have ho:s2.heap.get? q=some ⟨.type "tuple",o.dict,.seq (l.map T6).toArray n,o.slots⟩:=by rw [t1];cases o;cases t2;cases t3;rfl
   exact PySem.W.kia_tup (Cz Z y ⟨vs,g3⟩) G.kIn hin ho (Mt A) (fun z=>nomatch z) fun tk=>⟨.bl _,_,G.tok tk,rfl,kc e _ _ (e1.trans e2) R2 (.bl _)⟩
  ·cases h
 ·cases h
end L3
namespace L3
open PySem L2
noncomputable def CAt (K:Tv)(x:Str)(C:Addr):Prop:=Vo K UI x=some (some (.ref C))
theorem CAt.eq {K:Tv}{x:Str}{C a:Addr}(h:CAt K x C)(h':CAt K x a):C=a:=by
 unfold CAt at h h'
 rw [h] at h'
 cases h'
 rfl
theorem pZ {K:Tv}{π:Nat->Addr}{n:Nat}{H:Hp}{k:Str}:∀ (us:List (Str×V))(fs:List (Str×D)),us.map (·.1)=fs.map (·.1)->IsDs K π n H (us.map (·.2)) (fs.map (·.2))->(fs.lookup k=none->us.lookup k=none)/\∀ d,fs.lookup k=some d->∃ v,us.lookup k=some v/\IsD K π n H v d
 | [],[],_,_=>⟨fun _=>rfl,fun d h=>nomatch h⟩
 | [],_::_,e,_=>nomatch e
 | _::_,[],e,_=>nomatch e
 | (y,v)::us,(z,d)::fs,e,i=>by
  rw [TM,TM,WI] at e
  obtain ⟨a,b⟩:=e
  dsimp only at a
  subst a
  cases i with
  | cons l m=>
   obtain ⟨c,j⟩:=pZ us fs b m
   simp only [VU]
   cases p:k == y with
   | true=>exact ⟨fun h=>(nomatch h),fun o h=>by cases h;exact ⟨v,rfl,l⟩⟩
   | false=>exact ⟨c,j⟩
noncomputable def gE (f:Str)(v:D):List (Str×D)->List (Str×D)
 | []=>[(f,v)]
 | (g,x)::r=>if g=f then (g,v)::r else (g,x)::gE f v r
theorem CD {K:Tv}{π:Nat->Addr}{n:Nat}{H:Hp}{k:Str}{v:V}{d:D}(a:IsD K π n H v d):∀ (us:List (Str×V))(fs:List (Str×D)),us.map (·.1)=fs.map (·.1)->IsDs K π n H (us.map (·.2)) (fs.map (·.2))->
  (dR k v us).map (·.1)=(gE k d fs).map (·.1)/\IsDs K π n H ((dR k v us).map (·.2)) ((gE k d fs).map (·.2))
 | [],[],_,_=>⟨rfl,.cons a .nil⟩
 | [],_::_,e,_=>nomatch e
 | _::_,[],e,_=>nomatch e
 | (y,w)::us,(z,d')::fs,e,i=>by
  rw [TM,TM,WI] at e
  obtain ⟨b,c⟩:=e
  dsimp only at b
  subst b
  cases i with
  | cons m h=>
   obtain ⟨j,l⟩:=CD a us fs c h
   unfold dR gE
   split
   ·exact ⟨by rw [TM,TM,c],.cons a h⟩
   ·exact ⟨by rw [TM,TM,j],.cons m l⟩
noncomputable def eX (x f:Str)(m:ME):ME:=fun c b=>(m c b).bind fun p=>match p.1 with
 | .loc a=>(match p.2[a]? with
  | some (.ins y fs)=>if y=x then (fs.lookup f).map fun d=>(d,p.2) else none
  | _=>none)
 | _=>none
noncomputable def k7 (x f:Str)(c mv:ME):MS:=fun b d=>(mv b d).bind fun p=>(c b p.2).bind fun q=>match q.1 with
 | .loc a=>(match q.2[a]? with
  | some (.ins y fs)=>if y=x/\fs.length<100 then some (.nx,b,q.2.set a (.ins y (gE f p.1 fs))) else none
  | _=>none)
 | _=>none
noncomputable def gG (x m:Str)(c:MF)(d:ME)(ms:MA):ME:=fun b e=>(d b e).bind fun p=>match p.1 with
 | .loc a=>(match p.2[a]? with
  | some (.ins y fs)=>if y=x/\fs.lookup m=none then (ms b p.2).bind fun q=>c (.loc a::q.1) q.2 else none
  | _=>none)
 | _=>none
noncomputable def k8 (x:Str)(a:MF)(ms:MA):ME:=fun c b=>(ms c b).bind fun q=>(a (.loc q.2.length::q.1) (q.2++[.ins x []])).bind fun r=>match r.1 with
 | .non=>some (.loc q.2.length,r.2)
 | _=>none
theorem Rp.insAt {K:Tv}{π:Nat->Addr}{H:Hp}{c:Hm}(R:Rp K π H c){a:Nat}{x:Str}{fs:List (Str×D)}{C:Addr}(h:c[a]? = some (.ins x fs))(hc:CAt K x C):∃ b vs,H (π a)=some (.ins C b vs)/\vs.map (·.1)=fs.map (·.1)/\IsDs K π c.length H (vs.map (·.2)) (fs.map (·.2)):=by
 obtain ⟨o,d,l,b,vs,rfl,e,i,j⟩:=R.ins a x fs h
 obtain rfl:=CAt.eq hc e
 exact ⟨b,vs,d,i,j⟩
section
variable {X:Cx}{o e value:Expr}{x f m:Str}{C:Addr}{mo mv:ME}{ms:MA}{pos pos' apos cpos:Vt}{k n:Nat}{g:Addr}{fd:Vc}{ps:List Str}{fm:MF}
theorem Mv (I:QE X o mo)(J:eW o=true)(hC:CAt X.K x C)(c:Cls X.K C)(N:NoAttr X.K C f):QE X (.Attribute o f pos) (eX x f mo):=
 ⟨cP (HE I.h (j4 J)) (by
  rintro σ H Q ⟨π,ρ,U,d,Y,R,E,l,M⟩
  unfold eX at l
  obtain ⟨⟨d1,Z⟩,B,h⟩:=Tu.mp l
  dsimp only at h
  split at h
  ·rename_i a
   split at h
   ·rename_i y fs K
    split at h
    ·rename_i b
     subst b
     obtain ⟨d2,G,h⟩:=Tz.mp h
     cases h
     refine ⟨π,ρ,U,_,_,R,E,B,fun i v q s j L=>?_⟩
     cases L
     obtain ⟨r,p,u,z,A⟩:=j.insAt K hC
     obtain ⟨w,O,T⟩:=(pZ p fs z A).2 _ G
     exact ⟨_,C,r,p,w,rfl,u,c,N,O,M i w q s j T⟩
    ·cases h
   ·cases h
  ·cases h)⟩
theorem Mw (Y:QE X o mo)(Z:QE X value mv)(U:d7 value=true)(hC:CAt X.K x C)(c:Cls X.K C)(na:NoAttr X.K C f):QS X (.Assign [.Attribute o f pos'] value pos) (k7 x f mo mv):=
 ⟨iD (HF Y.h Z.h (nO U)) (by
  rintro D σ H ⟨π,L,μ,fl,ρ',μ',R,E,I,kc⟩
  unfold k7 at I
  obtain ⟨⟨d,b⟩,Q,h⟩:=Tu.mp I
  obtain ⟨⟨d2,r⟩,T,G⟩:=Tu.mp h
  clear h
  have h:=G
  clear G
  dsimp only at h
  split at h
  ·rename_i a
   split at h
   ·rename_i y fs K
    split at h
    ·rename_i q
     obtain ⟨rfl,hl⟩:=q
     cases h
     refine ⟨π,L,μ,_,b,R,E,Q,fun s v H1 l M i1=>⟨s,L,b,_,r,M,E.mono l,T,fun u v2 H2 p R2 i2=>?_⟩⟩
     cases i2
     obtain ⟨j,i,A,B,O⟩:=R2.insAt K hC
     have J:i.length=fs.length:=by simpa using congrArg UJ B
     obtain ⟨p1,p2⟩:=CD (k:=f) (i1.mono p) i fs B O
     obtain ⟨w,N⟩:=R2.putE (c:=.ins y (gE f d fs)) (o:=.ins C j (dR f v i)) (TB.mp K).1 A ⟨fun _ z=>(nomatch z),fun _ _ z=>(nomatch z)⟩ ⟨C,j,_,rfl,hC,p1,p2⟩
     exact ⟨_,C,j,i,rfl,A,c,na,by omega,kc u _ _ ((l.trans p).trans w) N (((E.mono l).mono p).mono w)⟩
    ·cases h
   ·cases h
  ·cases h)⟩
theorem sP {env:XU}{args:List Expr}(l:eW o=true)(i:(apos.endLine == cpos.line)=true)(c:args.all cD=true)(j:args.length<30):eval (.Call (.Attribute o m apos) args [] cpos) env=(do
   let d <- eval o env
   Zo apos.atName
   let (f,first) <- holding [d] (ZJ d m (do return (<- a1R o env).getD true))
   a3C cpos f first (VF cpos (Ue args env)) (XJ cpos (Wt [] env))):=by
 have h:(VF cpos (Ue args env)).all (fun x=>!x.1)=true:=by
  have:=fQ (pos:=cpos) (env:=env) c
  rw [Z2]
  simpa using this
 have a:a3z (args.length+([]:List WJ).length) (VF cpos (Ue args env)) (XJ cpos (Wt [] env))=true:=by
  unfold a3z
  rw [h]
  simpa [XJ,Wt] using j
 have b:methodCallPos true o env apos cpos=pure cpos:=by unfold methodCallPos;simp [i]
 rw [arm_eval_Call,j4 l]
 congr 1
 funext d
 congr 1
 funext _
 unfold methodCall
 rw [a]
 unfold calleeOf
 simp only [if_true]
 congr 1
 funext p
 rw [b]
 rfl
theorem CF {K:Tv}{E:XK}(hC:CAt K x C)(Z:∀ j r ds b,ms j r=some (ds,b)->ds.length=n):∀ σ H Q,tM K (gG x m fm mo ms) σ H Q->vB C m (dI K (n+1) fm) [] E (tM K mo) (eI K ms) σ H Q:=by
 rintro σ H Q ⟨π,j,r,d,b,R,E,B,kc⟩
 unfold gG at B
 obtain ⟨⟨d1,c⟩,U,h⟩:=Tu.mp B
 dsimp only at h
 split at h
 ·rename_i a
  split at h
  ·rename_i y fs hy
   split at h
   ·rename_i p
    obtain ⟨rfl,l⟩:=p
    obtain ⟨⟨q,i⟩,G,h⟩:=Tu.mp h
    refine ⟨π,j,r,_,c,R,E,U,fun s v H1 z w i1=>?_⟩
    cases i1
    rename_i Y
    obtain ⟨M,J,N,O,T⟩:=w.insAt hy hC
    refine ⟨_,M,J,rfl,N,(pZ J fs O T).1 l,s,j,c,q,i,w,E.mono z,G,fun u ws L A R2 I=>?_⟩
    show dI K (n+1) fm (_::(ws++[])) L Q _
    rw [U9]
    refine ⟨by rw [Uk,I.length,Z j c q i G],u,.loc a::q,i,d,b,R2,.cons ((IsD.loc Y).mono A) I,h,kc.after (z.trans A)⟩
   ·cases h
  ·cases h
 ·cases h
theorem Mx {d:List Expr}(p:QE X o mo)(r:eW o=true)(i:(apos.endLine == cpos.line)=true)(hC:CAt X.K x C)(c:Cls X.K C)(j:Meth X.K C m g)(F:FnOk X.prog X.w X.K X.mg X.base dC k g fd ps (dI X.K (n+1) fm))(q:Room k X.A)(h:Binds X.K fd ps [])(b:QA X (e::d) ms n)(l:(e::d).length<30) :
  QE X (.Call (.Attribute o m apos) (e::d) [] cpos) (gG x m fm mo ms):=by
 have a:=b.s
 rw [Uy,Tw] at a
 exact ⟨cP (HQ p.h c j F q h .nil (E:=E0) pD b.h (dD a.1) (fQ a.2) (sP r i b.s l)) (CF hC b.l)⟩
theorem My (I:QE X o mo)(K:eW o=true)(B:(apos.endLine == cpos.line)=true)(hC:CAt X.K x C)(c:Cls X.K C)(G:Meth X.K C m g)(F:FnOk X.prog X.w X.K X.mg X.base dC k g fd ps (dI X.K 1 fm))(J:Room k X.A)(z:Binds X.K fd ps []) :
  QE X (.Call (.Attribute o m apos) [] [] cpos) (gG x m fm mo aD):=
 ⟨cP (HR I.h c G F J z .nil (E:=E0) pD (sP K B rfl (by decide))) fun σ H Q h=>by
  obtain ⟨Y,Z,O,d,i,R,E,w,N⟩:=CF (n:=0) (E:=E0) hC Bn σ H Q h
  refine ⟨Y,Z,O,d,i,R,E,w,fun j v p s q L=>?_⟩
  obtain ⟨a,r,fs,u,A,b,l,ρ2,T,xs,U,R2,E2,y,M⟩:=N j v p s q L
  cases y
  exact ⟨a,r,fs,u,A,b,M l [] p .refl R2 .nil⟩⟩
theorem Mz {K:Tv}{E:XK}(hC:CAt K x C)(Z:∀ l j ds b,ms l j=some (ds,b)->ds.length=n):∀ σ H Q,tM K (k8 x fm ms) σ H Q->AJ C (dI K (n+1) fm) [] E (eI K ms) σ H Q:=by
 rintro σ H Q ⟨π,l,j,d,b,R,E,G,kc⟩
 unfold k8 at G
 obtain ⟨⟨w,a⟩,I,h⟩:=Tu.mp G
 obtain ⟨⟨d2,μ2⟩,J,h⟩:=Tu.mp h
 dsimp only at h J
 split at h
 ·cases h
  refine ⟨π,l,j,w,a,R,E,I,fun c ws M Y O L p i hp hd r=>?_⟩
  obtain ⟨z,R2⟩:=O.fresh (o:=.own p) hd
  obtain ⟨A,T,p3⟩:=R2.alloc (p:=p) (c:=.ins x []) (o:=.ins C i []) (by rw [bC (UG r)];exact hp) ⟨C,i,[],rfl,hC,rfl,.nil⟩
  show dI K (n+1) fm (_::(ws++[])) _ _ _
  rw [U9]
  have q:a.length<(a++[L3.C.ins x []]).length:=by rw [TV];exact VG _
  have s:IsD K (fL c a.length p) (a++[L3.C.ins x []]).length (aL (aL M i (.own p)) p (.ins C i [])) (V.ref (fL c a.length p a.length)) (.loc a.length):=IsD.loc q
  rw [p3] at s
  refine ⟨by rw [Uk,L.length,Z l j w a I],_,.loc a.length::w,_,.non,_,T,.cons s ((L.mono z).mono A),J,fun y v N B U i4=>?_⟩
  cases i4
  have u:=s.mono B
  exact ⟨rfl,kc y _ N (((Y.trans z).trans A).trans B) U u⟩
 ·cases h
theorem MB {i:List Expr}{p:Vt}(M:Mk X.K C g)(hC:CAt X.K x C)(F:FnOk X.prog X.w X.K X.mg X.base dC k g fd ps (dI X.K (n+1) fm))(r:Room (k+1) X.A)(q:Gl X x)(l:Binds X.K fd ps [])(c:QA X (e::i) ms n)(d:(x == ("__debug__":Str))=false) :
  QE X (.Call (.Name x p) (e::i) [] pos) (k8 x fm ms):=by
 have a:=c.s
 rw [Uy,Tw] at a
 refine ⟨fun b s j H Q I h=>?_⟩
 exact HU M F r q (Wn I.mod.kin I.mod.glob hC) l .nil (E:=E0) pD c.h d (dD a.1) (fQ a.2) b s j H Q I (Mz hC c.l j H Q h)
end
end L3
namespace L3
open PySem L2
theorem MC {X:Cx}{e:Expr}{m:ME}(h:∀ c b,m c b=none):QE X e m:=⟨fun a3F s σ H Q I t=>by
 obtain ⟨l,c,b,d,i,R,E,a,j⟩:=t
 rw [h] at a
 cases a⟩
noncomputable def iJ (x m:Str)(r:RF)(c:ME)(ms:MA):MR:=fun b d=>(c b d).bind fun p=>match p.1 with
 | .loc a=>(match p.2[a]? with
  | some (.ins y fs)=>if y=x/\fs.lookup m=none then (ms b p.2).bind fun q=>(r (.loc a::q.1) q.2).map fun z=>(z.1,b,z.2) else none
  | _=>none)
 | _=>none
section
variable {X:Cx}{k n:Nat}{f C:Addr}{fd:Vc}{ps:List Str}{x m:Str}{pos apos cpos:Vt}{o e:Expr}{es:List Expr}{mo:ME}{ms:MA}{r:RF}
theorem CG {a3F:List (Addr×Obj)}{σ:St}{h:Hp}{z:TC}{d:Nat->Addr}{a c:Hm}{I:aF}{vs:List V}{us:List Value}{ds:List D}{y:Xn}(E:X.ex=[])(F:FnOk X.prog X.w X.K X.mg X.base (fD X.prog X.w) k f fd ps (iI X.K n r))(Y:Room k X.A)(Q:Binds X.K fd ps [])
  (A:Inv X a3F σ h z)(L:Rp X.K d h a)(J:En X.K d a.length h σ I)(H:Vals vs us)(U:vs.length=n)(i1:IsDs X.K d a.length h vs ds)(O:r ds a=some (y,c))(w:Wish X a3F d a.length h y I c) :
  Ua (Ul X.prog X.w) X.A (call (.ref f) us) (fun _ _=>False) X.xe z:=by
 have l:iI X.K n r vs h (fun _ _=>False) (fun cls p i=>∃ b,Ext d a.length h b c.length i/\Rp X.K b i c/\pU X.K b c.length i cls p y):=
  ⟨U,d,ds,a,y,c,L,i1,O,fun b i cls p s B G=>⟨b,s,B,G⟩⟩
 have R:us.length=ps.length:=by rw [<- H.length];exact F.len _ _ _ _ l
 refine Zc (X0 (F.run X.A X.stack z h ⟨us,[]⟩ us vs _ _ Y A.env0 (by have:=Q z us A.kIn (by simpa using R);rwa [U9] at this) H l) fun Z s' j=>?_)
 cases Z with
 | error v=>
  obtain ⟨M,i,cls,p,T,rfl,K,x',b,s,B,G⟩:=Cu E A j
  exact w b σ i s' M cls p (some (T,.none)) s B (J.mono s) K x' G
 | ok N=>
  cases N with
  | ret u=>obtain ⟨_,_,_,_,_,_,_,q⟩:=j;exact q
  | next=>exact UA j
  | brk=>exact UA j
  | cont=>exact UA j
theorem MD (O:X.ex=[])(ho:QE X.nox o mo)(hs:eW o=true)(hl:(apos.endLine == cpos.line)=true)(hC:CAt X.K x C)(c:Cls X.K C)(hm:Meth X.K C m f)(F:FnOk X.prog X.w X.K X.mg X.base (fD X.prog X.w) k f fd ps (iI X.K (n+1) r))(hr:Room k X.A)(hb:Binds X.K fd ps [])
  (L:QA X.nox (e::es) ms n)(hn:(e::es).length<30):QRE X (.Call (.Attribute o m apos) (e::es) [] cpos) (iJ x m r mo ms):=by
 refine ⟨fun A s σ H π Z μ y ρ' μ' I R E h0 w=>?_⟩
 unfold iJ at h0
 obtain ⟨⟨d1,d⟩,h1,h⟩:=Tu.mp h0
 dsimp only at h
 split at h
 ·rename_i a
  split at h
  ·rename_i z fs hz
   split at h
   ·rename_i U
    obtain ⟨rfl,Q⟩:=U
    obtain ⟨⟨ds,j⟩,h2,h⟩:=Tu.mp h
    obtain ⟨⟨y',μ3⟩,h3,h⟩:=Tz.mp h
    cases h
    refine W6 (pl:=do return (<- a1R o X.env).getD true) ?_ (sP hs hl L.s hn)
    have k1:=ho.h A s σ H (fun v l=>∃ b,Ext π μ.length H b d.length l/\Rp X.K b l d/\IsD X.K b d.length l v (.loc a)) (I.wish _) ⟨π,Z,μ,_,d,R,E,h1,fun b v l B K Y=>⟨b,B,K,Y⟩⟩
    refine UH k1 (fun u s1 ⟨v,l,J,rv,b,B,K,Y⟩=>?_) fun _ _ z=>UA z
    have J:=J.unwish
    cases Y
    rename_i T
    obtain rfl:u=T6 (b a):=rv
    obtain ⟨dx,vs,g1,g2,g3⟩:=K.insAt hz hC
    refine rO J g1 c hm ((pZ vs fs g2 g3).1 Q) ?_
    have p:=L.s
    rw [Uy,Tw] at p
    have k2:=L.h cpos A s1 σ l (fun N q=>∃ i,Ext b d.length l i j.length q/\Rp X.K i q j/\IsDs X.K i j.length q N ds) (J.wish _) ⟨b,Z,d,ds,j,K,E.mono B,h2,fun i N q G R2 M=>⟨i,G,R2,M⟩⟩
    refine WN (first:=[.ref (b a)]) (h₀:=X.base) I.ok.mod.kin hm.kp (UH k2 (fun us s2 ⟨N,q,I2,r2,i,G,R2,M⟩=>⟨I2.unwish.kIn,?_⟩) fun _ _ z=>UA z) (dD p.1) (fQ p.2)
    have il:=(IsD.loc (K:=X.K) (π:=b) (H:=l) T).mono G
    exact CG (us:=.ref (b a)::us) (vs:=.ref (b a)::N) O F hr hb I2.unwish R2 ((E.mono B).mono G) (.cons rfl r2) (by rw [Uk,M.length,L.l Z d ds j h2]) (.cons il M) h3 (w.after (B.trans G))
   ·cases h
  ·cases h
 ·cases h
theorem MH (A:X.ex=[])(ho:QE X.nox o mo)(hs:eW o=true)(hl:(apos.endLine == cpos.line)=true)(hC:CAt X.K x C)(c:Cls X.K C)(M:Meth X.K C m f)(F:FnOk X.prog X.w X.K X.mg X.base (fD X.prog X.w) k f fd ps (iI X.K 1 r))(hr:Room k X.A)(hb:Binds X.K fd ps []):QRE X (.Call (.Attribute o m apos) [] [] cpos) (iJ x m r mo aD):=by
 refine ⟨fun q s σ H O ρ N y ρ' μ' I R E L w=>?_⟩
 unfold iJ at L
 obtain ⟨⟨d1,d⟩,Y,h⟩:=Tu.mp L
 dsimp only at h
 split at h
 ·rename_i a
  split at h
  ·rename_i z fs hz
   split at h
   ·rename_i J
    obtain ⟨rfl,B⟩:=J
    obtain ⟨⟨ds,μ2⟩,Z,h⟩:=Tu.mp h
    obtain ⟨⟨y',μ3⟩,h3,h⟩:=Tz.mp h
    cases h
    refine W6 (pl:=do return (<- a1R o X.env).getD true) ?_ (sP hs hl rfl (by decide))
    have k1:=ho.h q s σ H (fun v i=>∃ b,Ext O N.length H b d.length i/\Rp X.K b i d/\IsD X.K b d.length i v (.loc a)) (I.wish _) ⟨O,ρ,N,_,d,R,E,Y,fun b v i p l K=>⟨b,p,l,K⟩⟩
    refine UH k1 (fun u s1 ⟨v,i,j,rv,b,p,l,K⟩=>?_) fun _ _ z=>UA z
    have j:=j.unwish
    cases K
    rename_i G
    obtain rfl:u=T6 (b a):=rv
    obtain ⟨dx,vs,Q,T,U⟩:=l.insAt hz hC
    refine rO j Q c M ((pZ vs fs T U).1 B) ?_
    cases Z
    have il:=IsD.loc (K:=X.K) (π:=b) (H:=i) G
    exact Yr (first:=[.ref (b a)]) j.kIn M.kp (CG (us:=[.ref (b a)]) (vs:=[.ref (b a)]) A F hr hb j l (E.mono p) (.cons rfl .nil) rfl (.cons il .nil) h3 (w.after p))
   ·cases h
  ·cases h
 ·cases h
theorem MJ {c:MR}(d:QRE X e c)(i:cD e=true):QRE X (.List [e] pos) c:=⟨fun a3F s σ H π l j y b a I R E h w=>
 a2g (a3i (aN (d.h a3F s σ H π l j y b a I R E h w) fun _ _ z=>z.elim) (dD i))⟩
end
end L3
namespace L3
open PySem PySem.Spec
namespace Tb
section
variable {prog:Ud}{w:Uv}{A:Ur}{E:Value->TC->Prop}{s:TC}
noncomputable abbrev IsT (prog:Ud)(w:Uv)(h:UU)(k:List Int)(b:Addr):Prop:=IsTupleKey (Ww prog w) h k b
end
section
variable {prog:Ud}{w:Uv}{A:Ur}{R:a0l->TC->Prop}{I:Addr}{fp wr:List Addr}{G:Array a1V->Array a1V->Prop}{n:Nat}{P:Nat->Value->Prop}{St:Nat->TC->Prop}
end
section
variable {prog:Ud}{w:Uv}{A:Ur}{E:Value->TC->Prop}{s:TC}
noncomputable abbrev fC (a:Bool):Obj:={ cls:=.type "set",dict:=none,data:=.set #[] 0 (.fresh 0 0 a) }
end
end Tb
end L3
namespace L3
open PySem L2
open PyProof.Rows (IntsAre)
theorem CH:∀ {ds:List D}{k:List Int},wL ds=some k->ds=k.map D.int
 | [],k,h=>by cases h;rfl
 | d::ds,k,h=>by
  cases d with
  | int i=>
   obtain ⟨c,a,b⟩:=Tz.mp h
   subst b
   rw [CH a];rfl
  | _=>cases h
theorem MK {x:D}{k:List Int}(h:eE x=some k):x=.tup (k.map D.int):=by
 cases x with
 | tup ds=>rw [CH h]
 | _=>cases h
noncomputable def mI (b:Hm):D->Option (List D)
 | .rol xs=>some xs
 | .loc a=>match b[a]? with
  | some (.lst xs)=>some xs
  | _=>none
 | _=>none
section
variable {K:Tv}{π:Nat->Addr}{n:Nat}{H:Hp}{μ:Hm}
theorem wW {v:V}{x:D}{xs:List D}(R:Rp K π H μ)(h:IsD K π μ.length H v x)(e:mI μ x=some xs):∃ p vs,v=.ref p/\SqL K H p vs/\IsDs K π μ.length H vs xs:=by
 cases h with
 | rol q t=>cases e;exact ⟨_,_,rfl,q.sq,t⟩
 | @loc a i=>
  simp only [mI] at e
  split at e
  ·rename_i j d
   cases e
   obtain ⟨vs,b,c⟩:=R.lst a xs d
   exact ⟨_,vs,rfl,.of b,c⟩
  ·cases e
 | _=>cases e
theorem ints_of':∀ {vs:List V}{k:List Int},IsDs K π n H vs (k.map D.int)->vs=k.map V.int
 | _,[],h=>by cases h;rfl
 | _,i::k,h=>by
  cases h with
  | cons h t=>cases h;rw [ints_of' t];rfl
theorem CI:∀ (k:List Int),IsDs K π n H (k.map V.int) (k.map D.int)
 | []=>.nil
 | i::k=>.cons (.int i) (CI k)
end
theorem CJ {X:Cx}:∀ {k:List Int}{xs:List Value},Vals (k.map V.int) xs->ItemsAre (Ww X.prog X.w) k xs
 | [],_,h=>by cases h;exact .nil
 | i::k,_,h=>by
  cases h with
  | cons h t=>
   obtain ⟨a,rfl⟩:=h
   exact .cons (intKind_is _ _ _ _) (CJ t)
section
variable {X:Cx}{a3F:List (Addr×Obj)}{σ:St}{H:Hp}{s:TC}
theorem nW (I:Inv X a3F σ H s){b:Addr}{k:List Int}(h:SqT X.K H b (k.map V.int)):Tb.IsT X.prog X.w s.heap k b:=by
 obtain ⟨j,i,⟨a,e,c,n,d⟩,_⟩:=I.tuple h
 exact ⟨a,j.toArray,n,e,c,d,by simpa using CJ i⟩
theorem call_lenT:CallR X (.builtin "len") (fun xs H Q=>∃ a L,xs=[V.ref a]/\H a=some (rR a L)/\Q (.int L.length) H):=by
 intro a3F s σ H xs A Q I r h
 obtain ⟨a,L,rfl,e,q⟩:=h
 obtain ⟨u,rfl,y⟩:=iX r
 cases y
 obtain ⟨⟨o,p,x,d,z,t,R,c,hd,i,ok,v,hnd,m,j,w,l⟩,_,_⟩:=I.hok a _ e
 have b:d.size=L.length:=by
  have:=v.length_eq
  simpa using this
 have n:t.mask<=511:=by rcases m with h|h|h|h<;>omega
 refine call_len_set p c hd (Tb.fits_of ok i) (by rw [b];omega) ?_
 rw [b]
 exact ⟨.int L.length,H,I.tok _,⟨_,rfl⟩,q⟩
end
end L3
namespace L3
open PySem L2
end L3
namespace L3
open PySem L2
open PyProof.Rows (IntsAre Fr News seqObj)
end L3
namespace L3
open PySem
open PySem.W (KasT kas_asc kas_desc kas_tail3 kas_descPart kas_count kas_place kas_bin kas_sort kas_rev)
open PyProof.Rows (mirror bubble getElem?_bubble getElem?_mirror_all mirror_size bubble_size)
section
variable {α:Type}{lt:α->α->Bool}(irr:∀ a,lt a a=false)(tr:∀ a b c,lt a b=true->lt b c=true->lt a c=true)(nt:∀ a b c,lt a b=true->lt a c=true\/lt c b=true)
end
end L3
namespace L3
open PySem L2
section
variable {X:Cx}{a b c:Expr}{ma mb mc:ME}{pos:Vt}
noncomputable def k9 (f g:D->D->Hm->Option (D×Hm))(a b c:ME):ME:=fun d e=>(a d e).bind fun p=>(b d p.2).bind fun q=>(f p.1 q.1 q.2).bind fun r=>match r.1 with
 | .bl true=>(c d r.2).bind fun t=>g q.1 t.1 t.2
 | .bl false=>some (.bl false,r.2)
 | _=>none
theorem CK {f g:D->D->Hm->Option (D×Hm)}{r J:R2}{K:Tv}(hf:cQ K f r)(hg:cQ K g J):∀ σ H Q,tM K (k9 f g ma mb mc) σ H Q->u3 r J (tM K ma) (tM K mb) (tM K mc) σ H Q:=by
 rintro σ H Q ⟨π,w,μ,d,q,R,E,e,k⟩
 obtain ⟨⟨x,h⟩,Y,e⟩:=Tu.mp e
 obtain ⟨⟨y,i⟩,Z,e⟩:=Tu.mp e
 obtain ⟨⟨z,j⟩,h3,e⟩:=Tu.mp e
 refine ⟨π,w,μ,x,h,R,E,Y,fun s v1 H1 n T i1=>⟨s,w,h,y,i,T,E.mono n,Z,fun u L M o R2 I=>?_⟩⟩
 refine hf u M i x y z j v1 L _ R2 (i1.mono o) I h3 fun m v3 N p A i3=>?_
 cases z with
 | bl B=>
  cases i3
  refine ⟨B,rfl,?_⟩
  cases B with
  | true=>
   refine kR ?_
   obtain ⟨⟨t,l⟩,h4,e⟩:=Tu.mp e
   exact ⟨m,w,j,t,l,A,((E.mono n).mono o).mono p,h4,fun v v4 O G U i4=>hg v O l y t d q L v4 Q U ((I.mono p).mono G) i4 e (k.after (((n.trans o).trans p).trans G))⟩
  | false=>
   refine kQ ?_
   cases e
   exact k m _ N ((n.trans o).trans p) A (.bl false)
 | _=>cases e
noncomputable def j5:W2->Option (Int->Int->Bool)
 | .Lt=>some fun i j=>decide (i<j)
 | .LtE=>some fun i j=>decide (i<=j)
 | .Gt=>some fun i j=>decide (j<i)
 | .GtE=>some fun i j=>decide (j<=i)
 | _=>none
theorem nX {op:W2}{p:Int->Int->Bool}(h:j5 op=some p):OpR X (UY op) (fZ fun i j=>.bl (p i j))/\(op=.Lt\/op=.LtE\/op=.Gt\/op=.GtE):=by
 cases op<;>first|(cases h;first|exact ⟨uW,by simp⟩|exact ⟨uX,by simp⟩|exact ⟨uY,by simp⟩|exact ⟨uZ,by simp⟩)|cases h
theorem CL {op d:W2}(h':d=.Lt\/d=.LtE\/d=.Gt\/d=.GtE):a2I [op,d] [b,c]=false:=by
 show WC d c=false
 rcases h' with rfl|rfl|rfl|rfl<;>exact cV _
theorem ML {op d:W2}{p q:Int->Int->Bool}(h:j5 op=some p)(h':j5 d=some q)(e:QE X a ma)(i:QE X b mb)(hc:QE X c mc):QE X (.Compare a [op,d] [b,c] pos) (k9 (fN p) (fN q) ma mb mc):=
 ⟨cP (Hk (nX h).1 (nX h').1 e.h i.h hc.h (CL (nX (X:=X) h').2)) (CK gX gX)⟩
theorem MM {op d:W2}{p q:Int->Int->Bool}(h:j5 op=some p)(h':j5 d=some q)(i:QE X a ma)(j:QE X b mb)(hc:QE X c mc):QT X (.Compare a [op,d] [b,c] pos) (aR (k9 (fN p) (fN q) ma mb mc)):=
 ⟨pI (Hl (nX h).1 (nX h').1 i.h j.h hc.h (CL (nX (X:=X) h').2)) fun e H Q h=>CK gX gX e H _ (vL e H Q h)⟩
noncomputable def sQ (d:Bool):D->D->Hm->Option (D×Hm)
 | .bl b,.bl c,μ=>some (.bl (if d then !(b == c) else b == c),μ)
 | .int _,.bl _,μ=>some (.bl d,μ)
 | _,_,_=>none
noncomputable def eF (d:Bool):D->D->Hm->Option (D×Hm):=fun x y e=>match y with
 | .bl _=>sQ d x y e
 | _=>i8 d x y e
noncomputable def wX (d:Bool):R2:=fun x y H Q=>∃ c,y=.bl c/\((∃ b,x=.bl b/\Q (.bl (if d then !(b == c) else b == c)) H)\/((∃ i,x=.int i)/\Q (.bl d) H))
theorem sR {K:Tv}{h:Bool}:cQ K (sQ h) (wX h):=by
 intro l H p x y d m n o Q R i j e k
 unfold sQ at e
 split at e
 ·cases e;cases i;cases j
  exact ⟨_,rfl,.inl ⟨_,rfl,k l _ H .refl R (.bl _)⟩⟩
 ·cases e;cases i;cases j
  exact ⟨_,rfl,.inr ⟨⟨_,rfl⟩,k l _ H .refl R (.bl _)⟩⟩
 ·cases e
theorem CM:OpR X (UY .Is) (wX false):=by
 intro e s l H x y v u Q I d j h
 obtain ⟨c,rfl,h⟩:=h
 cases j
 rcases h with ⟨b,rfl,q⟩|⟨⟨i,rfl⟩,q⟩
 ·cases d
  exact TN (lU I q (by cases b<;>cases c<;>rfl))
 ·obtain ⟨t,rfl⟩:=d
  exact TN (lU I q rfl)
theorem CN:OpR X (UY .IsNot) (wX true):=by
 intro e s l H x y v u Q I d j h
 obtain ⟨c,rfl,h⟩:=h
 cases j
 rcases h with ⟨b,rfl,q⟩|⟨⟨i,rfl⟩,q⟩
 ·cases d
  exact TN (lU I q (by cases b<;>cases c<;>rfl))
 ·obtain ⟨t,rfl⟩:=d
  exact TN (lU I q rfl)
theorem sS {d:Bool}(x y:D)(e:Hm)(r:D×Hm)(h:eF d x y e=some r):sQ d x y e=some r\/i8 d x y e=some r:=by
 unfold eF at h
 split at h
 ·exact .inl h
 ·exact .inr h
theorem MN (d:QE X a ma)(e:QE X b mb):QE X (.Compare a [.Is] [b] pos) (aC (eF false) ma mb):=mB ⟨eC CM sR d.h e.h (cV _)⟩ (LH d e) (gC sS)
theorem MP (d:QE X a ma)(e:QE X b mb):QE X (.Compare a [.IsNot] [b] pos) (aC (eF true) ma mb):=mB ⟨eC CN sR d.h e.h (cV _)⟩ (LI d e) (gC sS)
theorem MQ (d:QE X a ma)(e:QE X b mb):QT X (.Compare a [.Is] [b] pos) (aR (aC (eF false) ma mb)):=nQ ⟨eD CM sR d.h e.h (cV _)⟩ (LJ d e) (nR (gC sS))
theorem MU (d:QE X a ma)(e:QE X b mb):QT X (.Compare a [.IsNot] [b] pos) (aR (aC (eF true) ma mb)):=nQ ⟨eD CN sR d.h e.h (cV _)⟩ (LK d e) (nR (gC sS))
end
section
variable {X:Cx}
end
noncomputable def wY:MF:=fun ds a=>match ds with
 | [.int i,.int j]=>some (.int (if j<i then j else i),a)
 | _=>none
noncomputable def wZ:MF:=fun ds a=>match ds with
 | [.int i,.int j]=>some (.int (if j>i then j else i),a)
 | _=>none
theorem MV {K:Tv}:eJ K wY (fun xs H Q=>∃ i j,xs=[.int i,.int j]/\Q (.int (if j<i then j else i)) H):=by
 intro h H m xs d e l Q R i a k
 unfold wY at a
 split at a
 ·cases a
  cases i with
  | cons i t=>
   cases i
   cases t with
   | cons b c=>
    cases b
    cases c
    exact ⟨_,_,rfl,k h _ H .refl R (.int _)⟩
 ·cases a
theorem MW {K:Tv}:eJ K wZ (fun xs H Q=>∃ i j,xs=[.int i,.int j]/\Q (.int (if j>i then j else i)) H):=by
 intro h H m xs d e l Q R i a k
 unfold wZ at a
 split at a
 ·cases a
  cases i with
  | cons i t=>
   cases i
   cases t with
   | cons b c=>
    cases b
    cases c
    exact ⟨_,_,rfl,k h _ H .refl R (.int _)⟩
 ·cases a
noncomputable def dM {b:Type}(xs:List b)(lo a st:Option Int):List b:=(a0f (VX lo a st xs.length).1 (VX lo a st xs.length).2.1 (VX lo a st xs.length).2.2).filterMap (xs[·]?)
noncomputable def mJ (a:ME)(lo d st:MO):ME:=fun b e=>(a b e).bind fun p=>(lo b p.2).bind fun q=>(d b q.2).bind fun r=>(st b r.2).bind fun t=>
 if t.1≠some 0 then (mI t.2 p.1).bind fun c=>if (dM c q.1 r.1 t.1).length<=TZ then some (.loc t.2.length,t.2++[.lst (dM c q.1 r.1 t.1)]) else none else none
theorem MX {K:Tv}{π:Nat->Addr}{n:Nat}{H:Hp}{vs:List V}{ds:List D}(h:IsDs K π n H vs ds)(lo a st:Option Int):IsDs K π n H (dM vs lo a st) (dM ds lo a st):=by
 unfold dM
 rw [h.length]
 generalize a0f _ _ _=l
 induction l with
 | nil=>exact .nil
 | cons i l b=>
  rw [VN,VN]
  cases a:ds[i]? with
  | none=>
   have:vs[i]? = none:=by
    rw [UO] at a ⊢
    rw [h.length];exact a
   rw [this]
   exact b
  | some d=>
   obtain ⟨v,c,e⟩:=h.get a
   rw [c]
   exact .cons e b
theorem MY {vs:List V}{its:List Value}(r:Vals vs its)(lo a st:Option Int):Vals (dM vs lo a st) (dM its lo a st):=by
 unfold dM
 rw [r.length]
 generalize a0f _ _ _=l
 induction l with
 | nil=>exact .nil
 | cons i l b=>
  rw [VN,VN]
  cases a:vs[i]? with
  | none=>
   have:its[i]? = none:=by
    rw [UO] at a ⊢
    rw [<- r.length];exact a
   rw [this]
   exact b
  | some v=>
   obtain ⟨u,c,d⟩:=r.get a
   rw [c]
   exact .cons d b
section
variable {X:Cx}{e:Expr}{te:TE}{lo hi:Option Expr}{st:Expr}{tl th tt:TO}{pos p2:Vt}
noncomputable def MZ (K:Tv)(te:TE)(tl th tt:TO):TE:=fun σ H Q=>te σ H fun x c=>tl σ c fun l d=>th σ d fun u h=>tt σ h fun t b=>t≠some 0/\∃ a xs,x=.ref a/\SqL K b a xs/\(dM xs l u t).length<=TZ/\∀ p,b p=none->Q (.ref p) (aL b p (.lst (dM xs l u t)))
open PyProof.Rows in
theorem M0 (O:PE X e te)(R:PO X lo tl)(U:PO X hi th)(T:PO X (some st) tt):PE X (.Subscript e (.Slice lo hi (some st) p2) pos) (MZ X.K te tl th tt):=by
 intro c s j H Q I h
 refine a0k (aN (O c s j H _ I h) fun v s1 ⟨x,A,J,r1,q1⟩=>?_)
 refine wpAny_Slice (aN (R c s1 j A _ J q1) fun w s2 ⟨l,B,K,pl,q2⟩=>aN (U c s2 j B _ K q2) fun z s3 ⟨u,E,L,pu,q3⟩=>aN (T c s3 j E _ L q3) fun y d ⟨t,G,M,pt,q4⟩=>?_)
 obtain ⟨N,a,xs,rfl,Y,Z,q⟩:=q4
 cases r1
 have o:Inv X c j G { d with heap:=d.heap.push { cls:=.type "slice",data:=.fields #[w,z,y] } }:=M.kept (t':=d.toks) fun b ob q=>TL _ q
 obtain ⟨n,r,m,hz'⟩:=o.list Y
 have p:=r.length
 show Ua (Ul X.prog X.w) X.A (Y8 e (.Slice lo hi (some st) p2) (.ref a) (.ref d.heap.objs.size)) (EP X c j Q) X.xe { d with heap:=d.heap.push { cls:=.type "slice",data:=.fields #[w,z,y] } }
 refine a3w (ops:=[.ref a,.ref d.heap.objs.size]) m.isList.typeIs Zp.lookup ?_ (by with_unfolding_all rfl)
 refine a0D m.isList (Zm ..) pl pu pt N ?_ (by rw [Up]<;>omega)
 have i:a0O n.toArray l u t=(dM n l u t).toArray:=by
  unfold a0O dM
  simp
 rw [i]
 refine ⟨.ref _,_,o.laid (t':=d.toks) (o:=.lst (dM xs l u t)) (fun b ob q=>TL _ q) (TR _) ?_,rfl,q _ (o.hok.fresh (TR _))⟩
 exact ⟨Z,_,0,MY r l u t,Ub _ rfl⟩
theorem M3 {me:ME}{B A mt:MO}(Z:QE X e me)(hl:QO X lo B)(hu:QO X hi A)(ht:QO X (some st) mt):QE X (.Subscript e (.Slice lo hi (some st) p2) pos) (mJ me B A mt):=⟨cP (M0 Z.h hl.h hu.h ht.h) (by
 rintro σ H Q ⟨π,n,μ,d,μ',R,E,a,k⟩
 obtain ⟨⟨x,c⟩,N,a⟩:=Tu.mp a
 obtain ⟨⟨l,h⟩,O,a⟩:=Tu.mp a
 obtain ⟨⟨u,i⟩,T,a⟩:=Tu.mp a
 obtain ⟨⟨t,r⟩,U,a⟩:=Tu.mp a
 refine ⟨π,n,μ,x,c,R,E,N,fun s v1 H1 j I i1=>⟨s,n,c,l,h,I,E.mono j,O,fun v H2 m R2=>⟨v,n,h,u,i,R2,(E.mono j).mono m,T,fun w H3 o J=>⟨w,n,i,t,r,J,((E.mono j).mono m).mono o,U,fun π4 H4 z y=>?_⟩⟩⟩⟩
 split at a
 ·rename_i M
  obtain ⟨xs,Y,a⟩:=Tu.mp a
  split at a
  ·rename_i hz
   cases a
   obtain ⟨p,G,rfl,q,hd⟩:=wW y (((i1.mono m).mono o).mono z) Y
   have b:=MX hd l u t
   refine ⟨M,p,G,rfl,q,by rw [b.length];exact hz,fun p' hp=>?_⟩
   obtain ⟨L,K,_⟩:=y.alloc (c:=.lst (dM xs l u t)) (o:=.lst (dM G l u t)) hp b
   exact k _ _ _ ((((j.trans m).trans o).trans z).trans L) K jS
  ·cases a
 ·cases a)⟩
end
section
variable {X:Cx}{a3F:List (Addr×Obj)}{σ:St}{H:Hp}{s:TC}{h':UU}
theorem CO {t':Nat}{ch:List Addr}{a:Addr}{o:HO}(I:Inv X a3F σ H s)(k:∀ b u,b∉ch->s.heap.get? b=some u->h'.get? b=some u)(j:∀ b∈ch,gQ X a3F H b)(l:s.heap.objs.size<=a)
  (new:ObjOk X.prog X.w (aL H a o) h' a o):Inv X a3F σ (aL H a o) { s with heap:=h',toks:=t' }:=by
 have d:=I.hok.fresh l
 have h:∀ b u,H b=some u->b∉ch:=fun b u e z=>by
  have:=(j b z).1
  rw [e] at this;cases this
 refine I.step (g':=s.gens) (d':=s.drawn) (ch:=ch) (fun b i=>let ⟨L,y,M,A,B,E⟩:=j b i;⟨A,y,B,E⟩) (fun b o _ _ hc e _=>k b o hc e) (fun b o _ _ hc e _=>⟨o.slots,k b o hc e⟩) (fun b K hc e n=>?_)
  (fun b o hc e=>⟨o,k b o hc e⟩) (fun b p q=>?_) (fun b K p q=>?_) (fun b N q=>?_) (fun m G=>?_) (fun b u e=>?_) I.bare
 ·rw [bC (Ui (Uj (T3 e) l))];exact n
 ·rw [bC (gO q d)];exact q
 ·rw [bC (gO q d)];exact q
 ·exact ⟨#[],by rw [bC (gO q d),q];simp⟩
 ·obtain ⟨o,x,w,J,r⟩:=G
  exact ⟨o,x,w,k _ o (fun z=>(j _ z).2.1 rfl) J,r⟩
 ·by_cases i:b=a
  ·subst i;rw [cN] at e;cases e;exact new
  ·rw [bC i] at e
   refine (I.hok b u e).stay (fun c v hc q=>k c v ?_ q) (fun c q=>by rw [bC (gO q d)];exact q) fun c p q=>by rw [bC (gO q d)];exact q
   rcases hc with z|z
   ·rw [z];exact h b u e
   ·exact h c _ z
theorem M4 {t':Nat}{ch:List Addr}(I:Inv X a3F σ H s)(k:∀ b u,b∉ch->s.heap.get? b=some u->h'.get? b=some u)(d:∀ b∈ch,gQ X a3F H b):Inv X a3F σ H { s with heap:=h',toks:=t' }:=by
 have a:∀ b u,H b=some u->b∉ch:=fun b u e z=>by
  have:=(d b z).1
  rw [e] at this;cases this
 refine I.step (g':=s.gens) (d':=s.drawn) (ch:=ch) (fun b y=>let ⟨G,l,J,p,w,x⟩:=d b y;⟨p,l,w,x⟩) (fun b o _ _ hc e _=>k b o hc e) (fun b o _ _ hc e _=>⟨o.slots,k b o hc e⟩) (fun b E hc e n=>n)
  (fun b o hc e=>⟨o,k b o hc e⟩) (fun b h q=>q) (fun b E h q=>q) (fun b K q=>⟨#[],by rw [q];simp⟩) (fun m A=>?_) (fun b u e=>?_) I.bare
 ·obtain ⟨o,j,i,B,r⟩:=A
  exact ⟨o,j,i,k _ o (fun z=>(d _ z).2.1 rfl) B,r⟩
 ·refine (I.hok b u e).stay (fun c v hc q=>k c v ?_ q) (fun c q=>q) fun c h q=>q
  rcases hc with z|z
  ·rw [z];exact a b u e
  ·exact a c _ z
end
noncomputable def w4 (K:Tv)(a:Addr):It:=
 ⟨fun i H=>∃ b x,SqL K H a b/\b[i]? = some x,fun i H x c=>∃ p v,x=.ref p/\H p=none/\c=aL H p (.tup [.int i,v])/\∀ b,SqL K H a b->b[i]? = some v,fun i H=>∃ b,SqL K H a b/\b.length<=i⟩
theorem M5 {P:Ud}{w:Uv}{K:Tv}{es:List Expr}{kx:Nat}{pt:Vt}(a e n:Addr)(y:e≠n) :
  Turn Qc P w K (.Tuple es kx pt) (w4 K a) [e,n] e (fun i h=>∃ m,IsEnum h e n i m/\h.IsListIter n a i) where
 mem:=by simp
 obj:=fun i h ⟨m,st,l⟩ b q=>by
  have j:b=e\/b=n:=by simpa using q
  rcases j with rfl|rfl
  ·exact ⟨_,st,fun v z=>by
    have z':T7 _=Z3 v:=z
    cases z'⟩
  ·obtain ⟨o,L,c,d⟩:=l
   exact ⟨o,L,fun v z=>by rw [d] at z;cases z⟩
 keep:=fun i h h' ⟨m,st,l⟩ k=>⟨m,k e (by simp) _ st,l.at fun o L=>k n (by simp) o L⟩
 item:=by
  intro X O hw N hc i J s σ H E I B ⟨m,st,l⟩ T
  subst O hw N
  obtain ⟨xs,x,G,hx⟩:=T
  obtain ⟨its,rv,p,hz⟩:=I.list G
  obtain ⟨u,hu,ru⟩:=rv.get hx
  refine wpAny_pyNext_enum_item st l p.isList (x:=u) (by simpa using hu) y fun h1 ho hit ht hsz hk=>⟨_,rfl,wpAny_letOwnedTupleGo_enum ho fun h2 Q r=>?_⟩
  have A:e<s.heap.objs.size:=T3 st
  have U:s.heap.objs.size≠e:=Xf A
  have Z:h2.get? s.heap.objs.size=some { cls:=.type "tuple",data:=.seq #[.int i s.toks,u] }:=(r.2 _ U).trans ht
  have R:H s.heap.objs.size=none:=I.hok.fresh (TR _)
  refine ⟨.ref s.heap.objs.size,aL H s.heap.objs.size (.tup [.int i,x]),?_,rfl,⟨s.heap.objs.size,x,rfl,R,rfl,fun ys hy=>by rw [I.list_inj hy G];exact hx⟩,⟨u,Q,hit.extBut r.extBut (UG y)⟩,fun b q=>?_⟩
  ·refine CO (s:=s) (h':=h2) (t':=s.toks+1) (ch:=[e,n]) I (fun b ob q M=>?_) B (TR _) ?_
   ·have j:b≠e/\b≠n:=by simpa using q
    exact (r.2 b j.1).trans (hk b ob j.1 j.2 M)
   ·exact ⟨by show (2:Nat)<=TZ;decide,[.int i s.toks,u],.cons ⟨_,rfl⟩ (.cons ru .nil),_,Z,rfl,0,rfl,rfl⟩
  ·have j:b=e\/b=n:=by simpa using q
   have hn:=(B b q).1
   obtain ⟨o,Y,_⟩:=l
   rw [bC]
   ·exact hn
   ·rcases j with rfl|rfl
    ·exact Ui A
    ·exact Ui (T3 Y)
 done:=by
  intro X O hw N hc i J s σ H E I B ⟨m,st,l⟩ T
  subst O hw N
  obtain ⟨xs,G,hx⟩:=T
  obtain ⟨its,rv,p,hz⟩:=I.list G
  have hl:=rv.length
  refine wpAny_pyNext_enum_end (I.ok.hd hc) st l p.isList (by simp;omega) fun h' M=>⟨rfl,M4 (t':=s.toks) (ch:=[e,n]) I (fun b o q z=>M b o ?_ z) B⟩
  have j:b≠e/\b≠n:=by simpa using q
  exact j.2
 self:=fun _ _ _ _ _ ⟨m,st,_⟩ h=>a2t st h
structure QJT (X:Cx)(e:Expr)(m:MI):Prop where
 h:∀ es k p,PI X (.Tuple es k p) e (iG X.K m)
theorem QJ.t {X:Cx}{e:Expr}{m:MI}(h:QJ X e m):QJT X e m:=⟨fun a k p=>h.h _⟩
noncomputable def CP (x:D):i7:=fun a i=>(bO a x).map fun xs=>(xs[i]?).map fun d=>.tup [.int i,d]
noncomputable def CQ (ms:MA):MI:=fun c b=>(ms c b).bind fun p=>match p.1 with
 | [x]=>(mI p.2 x).map fun a=>(CP x,a.length+1,p.2)
 | _=>none
theorem M6 {K:Tv}{π:Nat->Addr}{u:Hm}{H:Hp}{v:V}{x:D}{xs:List D}(R:Rp K π H u)(h:IsD K π u.length H v x)(A:mI u x=some xs):∃ a,v=.ref a/\(∃ vs,SqL K H a vs)/\Wk K (w4 K a) (CP x) π u.length H:=by
 have hw:bO u x=some xs:=by
  cases x with
  | rol m=>exact A
  | loc b=>exact A
  | _=>cases A
 obtain ⟨p,vs,rfl,U,_⟩:=wW R h A
 refine ⟨p,rfl,⟨vs,U⟩,?_⟩
  -- the list as it stands l
 have l:∀ j c n,Ext π u.length H j c.length n->Rp K j n c->∀ m,bO c x=some m->∃ o,SqL K n p o/\IsDs K j c.length n o m:=fun j c n e r m L=>by
  have Y:=h.mono e
  have Q:mI c x=some m:=by
   cases x with
   | rol zs=>exact L
   | loc b=>exact L
   | _=>cases A
  obtain ⟨p',o,M,s,w⟩:=wW r Y Q
  cases M
  exact ⟨o,s,w⟩
 refine ⟨fun j c n i e r z=>?_,fun j c n i d e r z=>?_⟩
 ·obtain ⟨m,E,B⟩:=Tz.mp z
  obtain ⟨o,s,w⟩:=l j c n e r m E
  have G:m[i]? = none:=by
   cases q:m[i]? with
   | none=>rfl
   | some d=>rw [q] at B;cases B
  exact ⟨o,s,by rw [w.length];exact UO.mp G⟩
 ·obtain ⟨m,E,B⟩:=Tz.mp z
  obtain ⟨d',G,N⟩:=Tz.mp B
  subst N
  obtain ⟨o,s,w⟩:=l j c n e r m E
  obtain ⟨v,J,O⟩:=w.get G
  refine ⟨⟨o,v,s,J⟩,?_⟩
  rintro y Z ⟨t,v',rfl,T,rfl,X⟩
  have:=X o s
  rw [J] at this
  cases this
  obtain ⟨I,R2⟩:=r.fresh (o:=.tup [.int i,v]) T
  exact ⟨I,R2,.tup (.of cN) (.cons (.int _) (.cons (O.mono I) .nil))⟩
noncomputable def M7 (K:Tv)(c:TA):TI:=fun σ H R=>c σ H fun vs b=>∃ a,vs=[.ref a]/\(∃ xs,SqL K b a xs)/\R (w4 K a) b
open PyProof.Rows in
theorem M8 {X:Cx}{a:Expr}{m:TA}{p pos pt:Vt}{v:List Expr}{L:Nat}(z:Gl X "enumerate") (B:X.mg "enumerate" = none) (x:PA X [a] m)(G:Ue [a] X.env=[(false,eval a X.env)]):PI X (.Tuple v L pt) (.Call (.Name "enumerate" p) [a] [] pos) (M7 X.K m):=by
 intro e s n H R I h
 refine Call_ (gP I z B Boot.«enumerate» (callWith_type1 (aN (x pos e s n H _ I h) fun Y c ⟨Z,j,d,O,N⟩=>?_) G rfl))
 obtain ⟨r,rfl,⟨ws,E⟩,q⟩:=N
 obtain ⟨u,rfl,Q⟩:=iX O
 cases Q
 obtain ⟨K,U,M,T⟩:=d.list E
 refine call_enumerate_list M.isList fun w l hit J A=>?_
 refine a2t l ?_
 have o:Inv X e n j { c with heap:=w }:=d.kept (t':=c.toks) A
 refine ⟨c.heap.objs.size+1,[c.heap.objs.size+1,c.heap.objs.size],_,_,j,rfl,o,M5 r _ _ (Nat.succ_ne_self _),⟨_,l,hit⟩,fun b y=>?_,q⟩
 have i:b=c.heap.objs.size+1\/b=c.heap.objs.size:=by simpa using y
 rcases i with rfl|rfl
 ·exact d.fpOk (Zj _) (d.hok.fresh (Zj _))
 ·exact d.fpOk (TR _) (d.hok.fresh (TR _))
theorem M9 {X:Cx}{a:Expr}{ms:MA}{n:Nat}{p pos:Vt}(c:Gl X "enumerate") (d:X.mg "enumerate" = none) (l:QA X [a] ms n):QJT X (.Call (.Name "enumerate" p) [a] [] pos) (CQ ms):=⟨fun L M pt a3F s σ H R I hw=>by
 have m:=l.s
 rw [Uy,Tw] at m
 obtain ⟨J,K,B,z,N,G,q,E,b,k⟩:=hw
 obtain ⟨⟨x,h⟩,v,b⟩:=Tu.mp b
 refine M8 c d l.h (dD m.1) a3F s σ H R I ⟨J,K,B,x,h,q,E,v,fun i O o u j e=>?_⟩
 dsimp only at b
 split at b
 ·rename_i x
  obtain ⟨Q,w,b⟩:=Tz.mp b
  cases b
  cases e with
  | cons e A=>
   cases A
   obtain ⟨r,rfl,y,W⟩:=M6 j e w
   exact ⟨r,rfl,y,k i o _ u j W⟩
 ·cases b⟩
section
variable {X:Cx}{pos:Vt}
theorem sT {tg iter:Expr}{w:MI}{g:MG}{v:MS}{body:List Stmt}(I:PI X tg iter (iG X.K w))(G:QG X tg g)(B:QB X body v)(K:ZM (Ul X.prog X.w) X.A X.env X.xe)(hc:X.calm=true)(L:fC iter=true) :
  QS X (.For tg iter body [] pos) (cL w g v):=⟨iD (G9 K hc I G.h B.h (by intro z;cases iter<;>first|rfl|cases L)) (by
 rintro E T H ⟨O,Q,N,u,r,p,R,s,m,k⟩
 obtain ⟨⟨o,n,l⟩,A,m⟩:=Tu.mp m
 refine ⟨O,Q,N,o,n,l,R,s,A,fun q x J i y W=>?_⟩
 have M:lW X.K E q l.length x u r p:=by
  cases u with
  | nx=>exact fun a b e j h c=>k a b e (i.trans j) h c
  | bk=>exact fun a b e j h c=>k a b e (i.trans j) h c
  | ct=>exact fun a b e j h c=>k a b e (i.trans j) h c
  | rt d=>exact KC.after k i
 exact Kc W M .refl y (s.mono i) m)⟩
noncomputable def w5 (put:D->D->D->Hm->Option Hm)(o i v:ME):MS:=fun a c=>(v a c).bind fun p=>(o a p.2).bind fun q=>(i a q.2).bind fun r=>(put q.1 r.1 p.1 r.2).map fun b=>(.nx,a,b)
noncomputable def p6:D->D->D->Hm->Option Hm
 | .loc a,y,d,μ=>match μ[a]? with
  | some (.dT kvs)=>(eE y).bind fun k=>if kvs.length<TZ then some (μ.set a (.dT (eP kvs k d))) else none
  | _=>none
 | _,_,_,_=>none
noncomputable def j6:D->D->D->Hm->Option Hm:=p6
noncomputable def dA:=w5 j6
theorem CS {st:Stmt}{i:Nat}:QS X st (aP i bH):=⟨fun a3F s σ H D I q=>by
 obtain ⟨h,j,e,d,c,b,R,E,a,k⟩:=q
 cases a⟩
end
end L3
namespace L3
open PySem L2
noncomputable def insAt {a:Type}(xs:List a)(k:Nat)(d:a):List a:=xs.take k++d::xs.drop k
theorem Vals.ins {xs:List V}{us:List Value}(h:Vals xs us)(k:Nat){v:V}{u:Value}(r:RelV v u):Vals (insAt xs k v) (insAt us k u):=(h.take k).append (.cons r (h.drop k))
section
variable {X:Cx}
end
section
variable {X:Cx}
end
section
variable {X:Cx}{e o:Expr}{mo:ME}{apos cpos:Vt}{es:List Expr}{ms:MA}{n:Nat}
end
end L3
namespace L3
open PySem L2
section
variable {prog:Ud}{w:Uv}{A:Ur}{E:Value->TC->Prop}{s:TC}{r:Addr}{Q:Bool->TC->Prop}
theorem Na:a0e (.type "list_reverseiterator") "__len__" = pure none:=by rw [a2W,a1w];kernel_rfl
theorem Nb:a0e (.type "list_reverseiterator") "__length_hint__" = pure (some (.builtin "list_reverseiterator.__length_hint__")):=by rw [a2W,a1w];kernel_rfl
theorem Nc (b:s.TypeIs (.ref r) "list_reverseiterator") (h:Q false s):Ua (Ul prog w) A (YI (.ref r)) Q E s:=by
 unfold YI
 refine Tx (W4 b Na ?_)
 dsimp only
 refine W5 (fun a=>absurd a (by decide +kernel)) (fun _=>?_)
 refine W5 (fun a=>absurd a (by decide)) (fun _=>?_)
 refine Tx (W4 b Nb ?_)
 generalize bG:("list_reverseiterator.__length_hint__":String)=id0
 wp_delta
 rw [show splitId id0=some ("list_reverseiterator","__length_hint__") from by subst bG;decide +kernel]
 subst bG
 refine Tx (WQ (T:="list_reverseiterator") (b:=true) b (by rw [isSubtype_type];kernel_rfl) ?_)
 refine W5 (fun a=>absurd a (by decide)) (fun _=>?_)
 refine W5 (fun _=>?_) (fun a=>absurd (by decide +kernel) a)
 refine W5 (fun a=>absurd a (by decide +kernel)) (fun _=>?_)
 exact TN h
end
section
variable {prog:Ud}{w:Uv}{A:Ur}{E:Value->TC->Prop}{s:TC}{p a:Addr}{its:Array Value}
theorem Nd {R:a0l->TC->Prop}(Y:A.handled=none)(hit:s.heap.IsRevIter p a ((its.size:Int) - 1))(hl:s.heap.IsList a its)(I:a≠p)(S:Addr)(r:S≠p)(B:S≠a)(res:Value)(l:Nat)(X:s.heap.get? S=some { cls:=.type "list",data:=.seq #[] l })
  (U:∀ y tk c q,(∀ b o,b≠S->b≠p->s.heap.get? b=some o->y.get? b=some o)->y.get? S=some { cls:=.type "list",dict:=none,data:=.seq c q,slots:=#[] }->ItemsOf (fun i v=>its[its.size - 1 - i]? = some v) c its.size->R (.ok (.ret res)) { s with heap:=y,toks:=tk }) (hn:its.size<=TZ) :
  Ua (Ul prog w) A.in1 (Wm (.ref S) (.ref p) res)
   (fun aV n=>match aV with|.done f=>R (.ok f) n|.again q=>q.quiet=true/\XF (Ul prog w) A q R n) (fun e n=>R (.error e) n) s:=by
 have G:S∉[p,a]:=by simp only [Uq,a1D,or_false,not_or];exact ⟨r,B⟩
 have W:=Walks.listRev (prog:=prog) (w:=w) (A:=A.in1) Y p a I its
 have key:∀ (h:UU)(d tk:Nat),h.IsRevIter p a ((its.size:Int) - 1)->h.IsList a its->(∀ b o,b≠S->s.heap.get? b=some o->h.get? b=some o)->
   h.get? S=some { cls:=.type "list",data:=.seq #[] d }->XF (Ul prog w) A (.builtin "list.extend.loop" ⟨[.ref S,.ref p,res],[]⟩) R { s with heap:=h,toks:=tk }:=by
  intro h d tk K x Z m
  refine codeAny_extend_loopS W.toS hn S G res its.size 0 _ #[] d rfl (Vj _) ⟨Vj _,by simpa using K,x⟩ m (ItemsOf.nil _) fun n c q M z u=>?_
  rw [Moved.eq_with M]
  refine U n.heap n.toks c q (fun b o L J e=>M.heap b o (fun j=>?_) (Z b o L e)) z u
  rcases Uq.mp j with N|j
  ·exact L N
  ·exact J (UE.mp j)
 unfold Wm
 refine Tx (wpAny_typeOf (T:="list_reverseiterator") hit.typeIs ?_)
 have O:YV (.ref S) (.ref p)=false:=by simp [YV,r]
 have Q:(TU "list_reverseiterator" == TU "list")=false:=by decide +kernel
 have T:(TU "list_reverseiterator" == TU "tuple")=false:=by decide +kernel
 simp only [O,Q,T,a2n,TY,if_false]
 refine Tx (wpAny_pyIter_revIter hit ?_)
 refine Tx (VW (Nc hit.typeIs ?_))
 refine W5 (fun H=>absurd H (by decide +kernel)) (fun _=>TN ⟨plainId_quiet PySem.F.plain_extend_loop _,?_⟩)
 exact key _ l s.toks hit hl (fun b o _ e=>e) X
theorem Nf {R:a0l->TC->Prop}(K:A.handled=none)(hit:s.heap.IsRevIter p a ((its.size:Int) - 1))(M:s.heap.IsList a its)(B:a≠p)(S:Addr)(n:S≠p)(m:S≠a)(y:s.heap.get? S=some { cls:=.type "list",data:=.seq #[] })
  (J:∀ l I c j,(∀ b o,b≠S->b≠p->s.heap.get? b=some o->l.get? b=some o)->l.get? S=some { cls:=.type "list",dict:=none,data:=.seq c j,slots:=#[] }->ItemsOf (fun i v=>its[its.size - 1 - i]? = some v) c its.size->R (.ok (.ret .none)) { s with heap:=l,toks:=I }) (N:its.size<=TZ) :
  Ua (Ul prog w) A.in1 (Builtin.«list.__init__» ⟨[.ref S,.ref p],[]⟩)
   (fun aV u=>match aV with|.done f=>R (.ok f) u|.again j=>j.quiet=true/\XF (Ul prog w) A j R u) (fun e u=>R (.error e) u) s:=by
 show Ua _ _ (do let H <- Za (.ref S);a3m (.ref S) (fun _=>#[]);letGo H.toList.reverse;Wm (.ref S) (.ref p) .none) _ _ s
 refine Tx ?_
 unfold Za
 refine Tx (wpAny_seqItems y rfl (TN ?_))
 show Ua _ _ (updateSeq S (fun _=>#[]) >>= fun _=>letGo (#[]:Array Value).toList.reverse >>= fun _=>Wm (.ref S) (.ref p) .none) _ _ s
 refine Tx (wpAny_updateSeq y rfl ?_)
 have d:=VQ (ZN (fun _=>(#[]:Array Value))) y rfl
 have h:∀ b o,b≠S->s.heap.get? b=some o->(s.heap.update S (ZN (fun _=>(#[]:Array Value)))).get? b=some o:=
  fun b o r e=>(Vx _ _ (UG r)).trans e
 refine Tx (a1N ?_)
 refine Nd K (hit.at fun o e=>h p o (UG n) e) (let ⟨o,O,x⟩:=M;⟨o,h a o (UG m) O,x⟩) B S n m .none _ d (fun l I c j L z q=>?_) N
 exact J l I c j (fun b o r G e=>L b o r G (h b o r e)) z q
theorem Ng {Q:Value->TC->Prop}(J:A.handled=none)(hit:s.heap.IsRevIter p a ((its.size:Int) - 1))(B:s.heap.IsList a its)(u:a≠p)(L:its.size<=TZ)
  (G:∀ h y c q,(∀ b o,b≠p->s.heap.get? b=some o->h.get? b=some o)->h.get? s.heap.objs.size=some { cls:=.type "list",dict:=none,data:=.seq c q,slots:=#[] }->ItemsOf (fun i v=>its[its.size - 1 - i]? = some v) c its.size->Q (.ref s.heap.objs.size) { s with heap:=h,toks:=y }) :
  Ua (Ul prog w) A (call (.type "list") [.ref p]) Q E s:=by
 refine a3D (Q₁:=fun n d=>n=.ref s.heap.objs.size/\d = { s with heap:=s.heap.push { cls:=.type "list",data:=.seq #[] } }) PySem.F.called_list (PySem.F.typeCall_list_1 _) PySem.F.entry_list_init
  (code_list_new _ ⟨rfl,rfl⟩) fun n d m=>?_
 obtain ⟨rfl,rfl⟩:=m
 have z:(s.heap.push { cls:=.type "list",data:=.seq #[] }).get? s.heap.objs.size=some { cls:=.type "list",data:=.seq #[] }:=Ub _ rfl
 have M:p<s.heap.objs.size:=let ⟨o,l,_⟩:=hit;T3 l
 have H:a<s.heap.objs.size:=let ⟨o,l,_⟩:=B;T3 l
 refine ⟨⟨_,z,rfl⟩,PySem.F.args_list_init_2 _ _,Nf (A:=A.in1) J (hit.at fun o e=>TL _ e) (let ⟨o,l,x⟩:=B;⟨o,TL _ l,x⟩) u _ (Xf M) (Xf H) z (fun h y c q K r j=>?_) L⟩
 exact ⟨rfl,G h y c q (fun b o I e=>K b o (Ui (T3 e)) I (TL _ e)) r j⟩
end
noncomputable def CT (K:Tv):List V->Hp->VK->Prop:=fun xs H Q=>∃ (p:Addr)(a:List V),xs=[.ref p]/\SqL K H p a/\∀ l,H l=none->Q (.ref l) (aL H l (.lst a.reverse))
theorem CU:∀ {a:List V}{its:List Value},Vals a its->Vals a.reverse its.reverse
 | _,_,.nil=>.nil
 | _,_,.cons h t=>by
  rw [Wx,Wx]
  exact (CU t).append (.cons h .nil)
theorem Nh {X:Cx}{e:Expr}{t:TA}{p J pos d:Vt}(hc:X.calm=true)(O:Gl X "list") (T:X.mg "list" = none) (v:Gl X "reversed") (y:X.mg "reversed" = none) (N:PA X [e] t)(Y:Ue [e] X.env=(false,eval e X.env)::Ue [] X.env) :
  PE X (.Call (.Name "list" p) [.Call (.Name "reversed" J) [e] [] d] [] pos) (rQ (CT X.K) t):=by
 intro n s σ H Q I h
 refine Vy (gP I O T Xc ?_ (by decide) (by decide))
 refine VB ?_ rfl rfl
 show Ua _ _ (a2y ((false,eval (.Call (.Name "reversed" J) [e] [] d) X.env)::VF pos (Ue [] X.env))) _ _ s
 refine a0K (Vy (gP I v y a1f ?_ (by decide) (by decide)))
 refine VB (aN (N d n s σ H _ I h) fun us l ⟨vs,H1,m,r1,q1⟩=>?_) Y rfl
 obtain ⟨q,ys,rfl,U,k⟩:=q1
 obtain ⟨u,rfl,ru⟩:=iX r1
 cases ru
 obtain ⟨a,K,pl,Z⟩:=m.list U
 have G:=K.length
 have w:=pl.isList
 have A:q<l.heap.objs.size:=let ⟨o,z,_⟩:=w;T3 z
 refine call_reversed_list w ?_
 refine a0U ?_
 refine Ng (m.ok.hd hc) (p:=l.heap.objs.size) (a:=q) (its:=a.toArray) ⟨_,Ub _ rfl,rfl,rfl⟩ (let ⟨o,z,x⟩:=w;⟨o,TL _ z,x⟩) (Ui A) (by simp only [Up]<;>omega) fun h' tk c L kp E j=>?_
 have r:c.toList=a.reverse:=by
  refine a1q fun i=>?_
  have hn:c.size=a.length:=by simpa using j.1
  by_cases R:i<a.length
  ·have M:=j.2 i c[i] (XY (by omega))
   rw [V7,XY (by omega),<- M,List.getElem?_reverse R,Up,List.getElem?_toArray]
  ·rw [Wu (by rw [WL];omega),Wu (by rw [Vz];omega)]
 have B:(l.heap.push (revObj q ((a.toArray.size:Int) - 1))).objs.size=l.heap.objs.size+1:=by simp [Heap.push]
 rw [B] at E ⊢
 refine ⟨.ref (l.heap.objs.size+1),_,m.laid (t':=tk) (a:=l.heap.objs.size+1) (o:=.lst ys.reverse) (fun b o e=>kp b o (Ui (T3 e)) (TL _ e)) (by omega) ⟨by rw [Vz];exact Z,a.reverse,L,CU K,by rw [<- r];simpa using E⟩,rfl,k _ (m.hok.fresh (by omega))⟩
noncomputable def lD:MF:=fun ds b=>match ds with
 | [.loc a]=>match b[a]? with
  | some (.lst xs)=>some (.loc b.length,b++[.lst xs.reverse])
  | _=>none
 | _=>none
theorem Ni {K:Tv}:eJ K lD (CT K):=by
 intro u H s r d p q Q R i b k
 unfold lD at b
 split at b
 ·rename_i a
  split at b
  ·rename_i e o
   cases b
   cases i with
   | cons i t=>
    cases t
    cases i
    obtain ⟨c,j,m⟩:=R.lst a e o
    refine ⟨_,c,rfl,.of j,fun l n=>?_⟩
    obtain ⟨h,R2,_⟩:=R.alloc (c:=.lst e.reverse) (o:=.lst c.reverse) n (LN m)
    exact k _ _ _ h R2 jS
  ·cases b
 ·cases b
theorem Nj {X:Cx}{e:Expr}{ms:MA}{n:Nat}{p l pos a:Vt}(hc:X.calm=true)(d:X.mg "list" = none) (h:X.mg "reversed" = none) (i:QA X [e] ms n)(b:Gl X "list") (c:Gl X "reversed") :
  QE X (.Call (.Name "list" p) [.Call (.Name "reversed" l) [e] [] a] [] pos) (aI lD ms):=by
 have j:=i.s
 rw [Uy,Tw] at j
 exact ⟨cP (Nh hc b d c h i.h (dD j.1)) (vP Ni)⟩
noncomputable def w6 (lo c:Int)(n:Nat):It:=⟨fun i _=>i<n,fun i H x H'=>H'=H/\x=.int (lo+(i:Nat) * c),fun i _=>n<=i⟩
theorem Nk {P:Ud}{w:Uv}{K:Tv}{tg:Expr}(a:Addr)(lo c:Int)(n:Nat):Turn Qc P w K tg (w6 lo c n) [a] a (fun i h=>XN h a (lo+(i:Nat) * c) ((n:Int) - (i:Nat)) c) where
 mem:=by simp
 obj:=fun i h st b d=>by
  have e:b=a:=by simpa using d
  subst e
  exact ⟨_,st,fun v z=>by
   have T:T7 _=Z3 v:=z
   cases T⟩
 keep:=fun i h m st k=>k a (by simp) _ st
 item:=by
  intro X B hw A hc i j s L H E I p st G
  subst B hw A
  obtain ⟨q,r,O,u,x,y⟩:=p a (by simp)
  have W:=a2B (prog:=X.prog) (w:=X.w) (I.ok.hd hc) a lo c n
  refine W.item i s _ _ G st fun v m J Q l R=>?_
  obtain ⟨t,rfl⟩:=Q
  have M:Inv X j L H { s with heap:=m,toks:=J }:=I.turned (fun b o d e=>R b o (by simpa using d) e) q r u x y
  exact ⟨_,rfl,o7 (s:={ s with heap:=m,toks:=J }) (n:="range_iterator") l rfl rfl (by decide) ⟨.int (lo+(i:Nat) * c),H,M,⟨t,rfl⟩,⟨rfl,rfl⟩,l,fun b d=>(p b d).1⟩⟩
 done:=by
  intro X B hw A hc i j s L H E I p st G
  subst B hw A
  obtain ⟨q,r,O,u,x,y⟩:=p a (by simp)
  exact a0V (I.ok.hd hc) st (by have:n<=i:=G;omega) fun m N=>⟨rfl,I.turned (t':=s.toks) (fun b o d e=>N b o d e) q r u x y⟩
 self:=fun _ _ _ _ _ st h=>a0X st h
noncomputable def p7 (a b c:Int):Bool:=a2U a b c&&decide (c≠0)&&decide (c.natAbs<1073741824)&&decide (0<=UL a b c)
noncomputable def Nl (e:TA):TI:=fun σ H R=>e σ H fun vs d=>∃ a b c:Int,vs=[.int a,.int b,.int c]/\p7 a b c=true/\R (w6 a c (UL a b c).toNat) d
open PyProof.Rows in
theorem Nm {X:Cx}{tg a b c:Expr}{E:TA}{p pos:Vt}(O:Gl X "range") (Q:X.mg "range" = none) (M:PA X [a,b,c] E)(U:Ue [a,b,c] X.env=(false,eval a X.env)::Ue [b,c] X.env)(y:(VF pos (Ue [b,c] X.env)).any (·.1)=false) :
  PI X tg (.Call (.Name "range" p) [a,b,c] [] pos) (Nl E):=by
 intro m s G H R I h
 refine Call_ (gP I O Q a2j (VB (aN (M pos m s G H _ I h) fun us l ⟨vs,B,J,r1,Y⟩=>?_) U y))
 obtain ⟨i,j,k,e,hok,q⟩:=Y
 subst e
 unfold p7 at hok
 rw [Tw,Tw,Tw,decide_eq_true_eq,decide_eq_true_eq,decide_eq_true_eq] at hok
 obtain ⟨⟨⟨z,w⟩,x⟩,T⟩:=hok
 cases r1 with
 | cons r n=>
  cases n with
  | cons Z n=>
   cases n with
   | cons A n=>
    cases n
    obtain ⟨t,rfl⟩:=r
    obtain ⟨u,rfl⟩:=Z
    obtain ⟨d,rfl⟩:=A
    refine call_range_3 w ?_ (.inl (PyProof.noPylong_small x))
    refine a2e (a2a ..) z ?_
    have v:Inv X m G B { l with heap:=l.heap.push { cls:=.type "range",data:=.fields #[.int i t,.int j u,.int k d] },toks:=l.toks }:=J.kept fun b o e=>TL _ e
    refine ⟨(l.heap.push { cls:=.type "range",data:=.fields #[.int i t,.int j u,.int k d] }).objs.size,[(l.heap.push { cls:=.type "range",data:=.fields #[.int i t,.int j u,.int k d] }).objs.size],_,_,B,rfl,
     v.kept (t':=l.toks) fun b o e=>TL _ e,Nk _ i k (UL i j k).toNat,?_,fun b N=>?_,q⟩
    ·have K:i+((0:Nat):Int) * k=i:=by simp
     have L:(((UL i j k).toNat:Nat):Int) - ((0:Nat):Int)=UL i j k:=by omega
     show XN _ _ (i+((0:Nat):Int) * k) ((((UL i j k).toNat:Nat):Int) - ((0:Nat):Int)) k
     rw [K,L]
     exact Ub _ rfl
    ·have e:b=(l.heap.push { cls:=.type "range",data:=.fields #[.int i t,.int j u,.int k d] }).objs.size:=by simpa using N
     subst e
     exact v.fpOk (TR _) (v.hok.fresh (TR _))
noncomputable def nY (lo c:Int)(n:Nat):i7:=fun _ i=>some (if i<n then some (.int (lo+(i:Nat) * c)) else none)
theorem Nn {K:Tv}{lo c:Int}{k:Nat}{π:Nat->Addr}{n:Nat}{H:Hp}:Wk K (w6 lo c k) (nY lo c k) π n H:=by
 refine ⟨fun b o j i e R z=>?_,fun b o j i d e R z=>?_⟩
 ·have a:=T5 z
  split at a
  ·cases a
  ·exact Xq.mp (by assumption)
 ·have a:=T5 z
  split at a
  ·cases a
   rename_i h
   exact ⟨h,fun x p ⟨l,m⟩=>by subst l;rw [m];exact ⟨.refl,R,.int _⟩⟩
  ·cases a
noncomputable def p8 (ms:MA):MI:=fun b a=>(ms b a).bind fun p=>match p.1 with
 | [.int i,.int j,.int c]=>if p7 i j c=true then some (nY i c (UL i j c).toNat,(UL i j c).toNat+1,p.2) else none
 | _=>none
theorem Np {X:Cx}{a b c:Expr}{ms:MA}{n:Nat}{p pos:Vt}(e:Gl X "range") (h:X.mg "range" = none) (r:QA X [a,b,c] ms n):QJ X (.Call (.Name "range" p) [a,b,c] [] pos) (p8 ms):=⟨fun tg a3F s σ H R I hw=>by
 have l:=r.s
 rw [Uy,Tw] at l
 obtain ⟨Q,T,N,J,U,O,w,E,d,k⟩:=hw
 obtain ⟨⟨x,o⟩,z,d⟩:=Tu.mp d
 refine Nm e h r.h (dD l.1) (fQ l.2) a3F s σ H R I ⟨Q,T,N,x,o,w,E,z,fun q Y u y v m=>?_⟩
 dsimp only at d
 split at d
 ·rename_i i j c
  split at d
  ·rename_i A
   cases d
   cases m with
   | cons m K=>
    cases m
    cases K with
    | cons B L=>
     cases B
     cases L with
     | cons G M=>
      cases G
      cases M
      exact ⟨i,j,c,rfl,A,k q u _ y v Nn⟩
  ·cases d
 ·cases d⟩
end L3
namespace L3
open PySem L2
noncomputable def w8:MF:=wZ
noncomputable def w9:MF:=wY
end L3
namespace L3
open PySem L2
noncomputable abbrev bY:=List (List Int×Addr×V)
noncomputable def bM (ps:bY)(ws:List Value):List (List Int×Addr×Value):=XG (fun p w=>(p.1,p.2.1,w)) ps ws
theorem sU {P:Ud}{w:Uv}:∀ (ps:bY)(ws:List Value),XG pH ps ws=(bM ps ws).map (entryOfKey (Wa (Ww P w)))
 | [],_=>by simp [bM]
 | p::ps,[]=>by simp [bM]
 | p::ps,u::ws=>by
  have a:=sU (P:=P) (w:=w) ps ws
  unfold bM at a ⊢
  rw [UC,UC,TM,a]
  rfl
theorem nZ:∀ {ps:bY}{ws:List Value},Vals (ps.map (·.2.2)) ws->(bM ps ws).map (·.1)=ps.map (·.1)
 | [],_,_=>by simp [bM]
 | p::ps,_,.cons r t=>by
  have a:=nZ (ps:=ps) t
  unfold bM at a ⊢
  rw [UC,TM,TM,a]
theorem CV:∀ {ps:bY}{ws:List Value}{x:List Int×Addr×Value},x∈bM ps ws->∃ p∈ps,p.1=x.1/\p.2.1=x.2.1
 | [],_,x,h=>by simp [bM] at h
 | p::ps,[],x,h=>by simp [bM] at h
 | p::ps,u::ws,x,h=>by
  unfold bM at h
  rw [UC] at h
  rcases Uq.mp h with e|h
  ·subst e;exact ⟨p,UP ..,rfl,rfl⟩
  ·obtain ⟨q,a,e⟩:=CV (ps:=ps) (ws:=ws) h
   exact ⟨q,UB _ a,e⟩
noncomputable def d9 (ps:bY)(k:List Int):Option V:=(ps.find? fun p=>decide (p.1=k)).map (·.2.2)
noncomputable def jD (ps:bY)(k:List Int)(b:Addr)(v:V):bY:=if (d9 ps k).isSome then ps.map (fun p=>if p.1=k then (p.1,p.2.1,v) else p) else ps++[(k,b,v)]
theorem mK:∀ {ps:bY}{ws:List Value},Vals (ps.map (·.2.2)) ws->∀ k,RelO (d9 ps k) ((XM (bM ps ws) k).map (·.2))
 | [],_,.nil,k=>by simp [d9,bM,XM];exact We
 | p::ps,_,.cons r t,k=>by
  have a:=mK (ps:=ps) t k
  unfold d9 XM bM at a ⊢
  rw [UC,U0,U0]
  by_cases e:p.1=k
  ·simp only [e,decide_true]
   exact r
  ·simp only [e,decide_false]
   exact a
theorem Nq (ps:bY)(k:List Int)(b:Addr)(v:V):(jD ps k b v).length<=ps.length+1:=by
 unfold jD;split<;>simp
theorem CW {k:List Int}{v:V}{u:Value}(d:RelV v u):∀ {ps:bY}{ws:List Value},Vals (ps.map (·.2.2)) ws->
  ∃ a,Vals ((ps.map fun p=>if p.1=k then (p.1,p.2.1,v) else p).map (·.2.2)) a/\(bM ps ws).map (a3x k u)=bM (ps.map fun p=>if p.1=k then (p.1,p.2.1,v) else p) a
 | [],_,.nil=>⟨[],.nil,by simp [bM]⟩
 | p::ps,_,.cons (b:=w) r t=>by
  obtain ⟨a,c,b⟩:=CW d (ps:=ps) t
  by_cases e:p.1=k
  ·refine ⟨u::a,?_,?_⟩
   ·rw [TM,TM,if_pos e]
    exact .cons d c
   ·unfold bM at b ⊢
    rw [UC,TM,b,TM,if_pos e,UC]
    unfold a3x
    rw [if_pos e]
  ·refine ⟨w::a,?_,?_⟩
   ·rw [TM,TM,if_neg e]
    exact .cons r c
   ·unfold bM at b ⊢
    rw [UC,TM,b,TM,if_neg e,UC]
    unfold a3x
    rw [if_neg e]
theorem CY {k:List Int}{b:Addr}{v:V}{u:Value}:∀ {ps:bY}{ws:List Value},Vals (ps.map (·.2.2)) ws->bM ps ws++[(k,b,u)]=bM (ps++[(k,b,v)]) (ws++[u])
 | [],_,.nil=>by simp [bM]
 | p::ps,_,.cons r t=>by
  have a:=CY (k:=k) (b:=b) (v:=v) (u:=u) (ps:=ps) t
  unfold bM at a ⊢
  rw [UC,Vq,a,Vq,Vq,UC]
theorem Nr {ps:bY}{ws:List Value}(r:Vals (ps.map (·.2.2)) ws)(k:List Int)(b:Addr){v:V}{u:Value}(c:RelV v u) :
  ∃ a,Vals ((jD ps k b v).map (·.2.2)) a/\a2x (bM ps ws) k b u=bM (jD ps k b v) a:=by
 have e:=(mK r k).isSome_eq
 rw [XT] at e
 unfold jD a2x
 rw [e]
 by_cases h:(XM (bM ps ws) k).isSome=true
 ·rw [if_pos h,if_pos h]
  exact CW c r
 ·rw [if_neg h,if_neg h]
  refine ⟨ws++[u],?_,CY r⟩
  rw [Uo]
  exact Y3 r c
section
variable {X:Cx}{a3F:List (Addr×Obj)}{σ:St}{H:Hp}{s:TC}{a:Addr}{ps:bY}
noncomputable def eQ (K:Tv)(H:Hp)(ps:bY):Prop:=∀ p∈ps,SqT K H p.2.1 (p.1.map V.int)
theorem j7 (I:Inv X a3F σ H s)(e:Rd H a (aW a ps))(u:eQ X.K H ps):(a == Ve)=false/\ps.length<=TZ /\
  ∃ b,Vals (ps.map (·.2.2)) b/\s.heap.DictOfH (Wa (Ww X.prog X.w)) a (bM ps b):=by
 obtain ⟨⟨b,r,y,v,o,i,h,j,l,m,n,q⟩,_⟩:=(show ObjOk X.prog X.w H s.heap a (aW a ps) from e.ok I.hok)
 refine ⟨y,v,b,r,o,i,h,j,l,m,by rw [n];exact sU ps b,fun x z=>?_,by rw [nZ r];exact q⟩
 obtain ⟨p,w,c,d⟩:=CV z
 rw [<- c,<- d]
 exact nW I (u p w)
theorem xA {P:Ud}{w:Uv}{H':Hp}{h':UU}{ws:List Value}(n:(a == Ve)=false)(m:ps.length<=TZ)(r:Vals (ps.map (·.2.2)) ws)(d:h'.DictOfH (Wa (Ww P w)) a (bM ps ws)):ObjOk P w H' h' a (aW a ps):=by
 obtain ⟨o,e,c,b,h,i,j,_,l⟩:=d
 refine ⟨⟨ws,r,n,m,o,e,c,b,h,i,by rw [j,sU (P:=P) (w:=w)],by rw [<- nZ r];exact l⟩,⟨o,b⟩,?_⟩
 rintro q u ⟨ws,r,n,m,o,e,c,b,h,i,j,l⟩ p
 exact ⟨ws,r,n,m,o,e,c,p o b,h,i,j,l⟩
theorem Nt (I:Inv X a3F σ H s)(e:Rd H a (aW a ps))(b:eQ X.K H ps):s.TypeIs (.ref a) "dict":=by
 obtain ⟨_,_,c,_,d⟩:=j7 I e b
 exact d.typeIs
theorem mL {A:Ur}(b:A.units+1<V6):(Wa (Ww X.prog X.w)).room A.in1:=by
 show A.in1.units<V6
 rw [lY];omega
variable {A:Ur}{E:Value->TC->Prop}{b:Addr}{k:List Int}{v:V}
theorem Nu {Q:Value->TC->Prop}(q:A.units+1<V6)(I:Inv X a3F σ H s)(e:Rd H a (aW a ps))(n:eQ X.K H ps)(m:SqT X.K H b (k.map V.int))(u:d9 ps k=some v)
  (h:∀ c l,Inv X a3F σ H l->RelV v c->Q c l):Ua (Ul X.prog X.w) A (Z6 (.ref a) (.ref b)) Q E s:=by
 obtain ⟨y,x,w,r,d⟩:=j7 I e n
 obtain ⟨c,hw,j⟩:=RelO.some_of (v:=v) (o:=(XM (bM ps w) k).map (·.2)) (by rw [<- u];exact mK r k)
 obtain ⟨p,o,i⟩:=Tz.mp hw
 refine wpAny_getItem_heap (mL q) (nW I m) d o ?_
 rw [i]
 exact h c _ (I.tok _) j
theorem Nv {Q:Value->TC->Prop}(m:A.units+1<V6)(I:Inv X a3F σ H s)(e:Rd H a (aW a ps))(j:eQ X.K H ps)(i:SqT X.K H b (k.map V.int))
  (h:∀ c,Inv X a3F σ H c->Q (.bool (d9 ps k).isSome) c):Ua (Ul X.prog X.w) A (UY .In (.ref b) (.ref a)) Q E s:=by
 obtain ⟨l,n,o,r,d⟩:=j7 I e j
 refine wpAny_in_heap (mL m) (nW I i) l d ?_
 have q:=(mK r k).isSome_eq
 rw [XT] at q
 rw [<- q]
 exact h _ (I.tok _)
theorem Nw {Q:Value->TC->Prop}(m:A.units+1<V6)(I:Inv X a3F σ H s)(e:Rd H a (aW a ps))(j:eQ X.K H ps)(i:SqT X.K H b (k.map V.int))
  (h:∀ c,Inv X a3F σ H c->Q (.bool (!(d9 ps k).isSome)) c):Ua (Ul X.prog X.w) A (UY .NotIn (.ref b) (.ref a)) Q E s:=by
 obtain ⟨l,n,o,r,d⟩:=j7 I e j
 refine a3a (mL m) (nW I i) l d ?_
 have q:=(mK r k).isSome_eq
 rw [XT] at q
 rw [<- q]
 exact h _ (I.tok _)
theorem Nx {Q:Unit->TC->Prop}{u:Value}(y:A.units+1<V6)(I:Inv X a3F σ H s)(e:H a=some (aW a ps))(p:eQ X.K H ps)(n:SqT X.K H b (k.map V.int))(hz:ps.length<TZ)(G:RelV v u)
  (h:∀ j,Inv X a3F σ (aL H a (aW a (jD ps k b v))) j->Q () j):Ua (Ul X.prog X.w) A (setItem (.ref a) (.ref b) u) Q E s:=by
 obtain ⟨x,L,J,r,d⟩:=j7 I (.of e) p
 have z:(bM ps J).length<=TZ:=by
  have:=congrArg UJ (nZ r)
  rw [TF,TF] at this
  omega
 refine wpAny_setItem_heap (hsz:=z) (mL y) (nW I n) d fun m c i=>h _ ?_
 obtain ⟨K,B,l⟩:=Nr r k b G
 rw [l] at c
 have o:∃ q,m.get? a=some q:=let ⟨q,_,_,w,_⟩:=c;⟨q,w⟩
 exact AV I (by rw [e];exact We) i o (xA x (by have:=Nq ps k b v;omega) B c)
end
noncomputable def IsTs (K:Tv)(π:Nat->Addr)(n:Nat)(H:Hp):bY->List (List Int×D)->Prop:=X6 fun p q=>p.1=q.1/\SqT K H p.2.1 (p.1.map V.int)/\IsD K π n H p.2.2 q.2
section
variable {K:Tv}{π:Nat->Addr}{n:Nat}{H:Hp}{μ:Hm}
theorem Ny {b:Addr}{k:List Int}(h:IsD K π n H (.ref b) (.tup (k.map D.int))):SqT K H b (k.map V.int):=by
 cases h with
 | tup q t=>rw [ints_of' t] at q;exact q
theorem IsTs.of:∀ {ps:bY}{a:List (List Int×D)},ps.map (·.1)=a.map (·.1)->IsDs K π n H (ps.map fun p=>V.ref p.2.1) (a.map fun k=>D.tup (k.1.map D.int))->IsDs K π n H (ps.map (·.2.2)) (a.map (·.2))->IsTs K π n H ps a
 | [],[],_,_,_=>.nil
 | [],_::_,h,_,_=>by cases h
 | _::_,[],h,_,_=>by cases h
 | p::ps,q::a,h,h2,h3=>by
  cases h2 with
  | cons b c=>
   cases h3 with
   | cons d e=>
    rw [TM,TM,WI] at h
    refine .cons ⟨h.1,?_,d⟩ (IsTs.of h.2 c e)
    rw [h.1]
    exact Ny b
theorem IsTs.keys:∀ {ps:bY}{b:List (List Int×D)},IsTs K π n H ps b->eQ K H ps
 | _,_,.nil=>fun p a=>nomatch a
 | _,_,.cons h t=>fun p a=>by
  rcases Uq.mp a with e|a
  ·subst e;exact h.2.1
  ·exact IsTs.keys t p a
theorem IsTs.to:∀ {ps:bY}{a:List (List Int×D)},IsTs K π n H ps a->ps.map (·.1)=a.map (·.1)/\IsDs K π n H (ps.map fun p=>V.ref p.2.1) (a.map fun k=>D.tup (k.1.map D.int))/\IsDs K π n H (ps.map (·.2.2)) (a.map (·.2))
 | _,_,.nil=>⟨rfl,.nil,.nil⟩
 | _,_,.cons (a:=p) (b:=q) h t=>by
  obtain ⟨b,c,d⟩:=IsTs.to t
  refine ⟨by rw [TM,TM,h.1,b],.cons ?_ c,.cons h.2.2 d⟩
  show IsD K π n H (.ref p.2.1) (.tup (q.1.map D.int))
  rw [<- h.1]
  exact .tup h.2.1 (CI p.1)
theorem IsTs.val (k:List Int):∀ {ps:bY}{a:List (List Int×D)},IsTs K π n H ps a->(d9 ps k=none/\b7 a k=none)\/∃ v d,d9 ps k=some v/\b7 a k=some d/\IsD K π n H v d
 | _,_,.nil=>.inl ⟨rfl,rfl⟩
 | _,_,.cons (a:=p) (b:=q) h t=>by
  have b:=IsTs.val k t
  unfold d9 b7 at b ⊢
  rw [U0,U0,<- h.1]
  by_cases e:p.1=k
  ·simp only [e,decide_true]
   exact .inr ⟨_,_,rfl,rfl,h.2.2⟩
  ·simp only [e,decide_false]
   exact b
theorem IsTs.put {ps:bY}{a:List (List Int×D)}(h:IsTs K π n H ps a)(k:List Int){b:Addr}{v:V}{d:D}(l:SqT K H b (k.map V.int))(j:IsD K π n H v d):IsTs K π n H (jD ps k b v) (eP a k d):=by
 have e:(d9 ps k).isSome=(b7 a k).isSome:=by
  rcases h.val k with ⟨c,i⟩|⟨v,d,c,i,_⟩<;>rw [c,i]<;>rfl
 have repl:∀ {ps:bY}{a:List (List Int×D)},IsTs K π n H ps a->IsTs K π n H (ps.map fun p=>if p.1=k then (p.1,p.2.1,v) else p) (a.map fun p=>if p.1=k then (p.1,d) else p):=by
  intro ps a h
  unfold IsTs at h
  induction h with
  | nil=>exact .nil
  | @cons p q ps o h t m=>
   rw [TM,TM]
   refine .cons ?_ m
   by_cases z:p.1=k
   ·rw [if_pos z,if_pos (h.1.symm.trans z)]
    exact ⟨h.1,h.2.1,j⟩
   ·rw [if_neg z,if_neg fun y=>z (h.1.trans y)]
    exact h
 unfold jD eP
 rw [e]
 split
 ·exact repl h
 ·exact Y3 h ⟨rfl,l,j⟩
theorem hJ {a:Nat}{b:List (List Int×D)}(R:Rp K π H μ)(h:μ[a]? = some (.dT b)):∃ ps,H (π a)=some (aW (π a) ps)/\IsTs K π μ.length H ps b:=by
 obtain ⟨ps,c,d,e,i⟩:=R.dT a b h
 exact ⟨ps,c,.of d e i⟩
theorem p9 {a:Nat}{b:List (List Int×D)}(R:Rp K π H μ)(h:μ[a]? = some (.dF b)):∃ ob ps,H (π a)=some (.frz ob (aW (π a) ps))/\IsTs K π μ.length H ps b:=by
 obtain ⟨ob,ps,c,d,e,i⟩:=R.dF a b h
 exact ⟨ob,ps,c,.of d e i⟩
theorem n4 {v:V}{x:D}{k:List Int}(h:IsD K π n H v x)(e:eE x=some k):∃ b,v=.ref b/\SqT K H b (k.map V.int):=by
 have:=MK e
 subst this
 cases h with
 | tup q t=>rw [ints_of' t] at q;exact ⟨_,rfl,q⟩
end
noncomputable def iK:ME:=fun _ a=>some (.loc a.length,a++[.dT []])
section
variable {X:Cx}{pos:Vt}
theorem Nz {P:Ud}{w:Uv}{H:Hp}(h:UU)(a:Ve<h.objs.size):ObjOk P w H (h.push { cls:=.type "dict",data:=.dict #[] }) h.objs.size (aW h.objs.size []):=
 xA (ws:=[]) (beq_eq_false_iff_ne.mpr (UG (Ui a))) (Vj _) .nil (a3l h)
noncomputable def NA:TE:=fun _ H Q=>∀ p,H p=none->Q (.ref p) (aL H p (aW p []))
theorem NB:PE X (.Dict [] [] pos) NA:=fun a3F s σ H Q I h=>
 wpAny_Dict_empty ⟨.ref s.heap.objs.size,_,I.laid (a:=s.heap.objs.size) (o:=aW s.heap.objs.size []) (t':=s.toks) (fun _ _ q=>TL _ q) (TR _) (Nz s.heap I.big),rfl,h _ (I.hok.fresh (TR _))⟩
theorem NC:QE X (.Dict [] [] pos) iK:=⟨cP NB (by
 rintro n H Q ⟨l,m,j,d,h,R,E,c,k⟩ p e
 cases c
 obtain ⟨b,a,i⟩:=R.alloc (c:=.dT []) (o:=aW p []) e ⟨[],rfl,rfl,.nil,.nil⟩
 exact k _ _ _ b a jS)⟩
end
noncomputable def qA:D->D->Hm->Option (D×Hm)
 | .loc a,y,μ=>match μ[a]? with
  | some (.dT kvs)=>(eE y).bind fun k=>(b7 kvs k).map fun d=>(d,μ)
  | some (.dF kvs)=>(eE y).bind fun k=>(b7 kvs k).map fun d=>(d,μ)
  | _=>none
 | _,_,_=>none
section
variable {X:Cx}{a b e:Expr}{ma mb me:ME}{pos tpos:Vt}{td ty tv:TE}
noncomputable def CZ (K:Tv):R2:=fun x y H Q=>∃ a b ps k v,x=.ref a/\y=.ref b/\Rd H a (aW a ps)/\eQ K H ps/\SqT K H b (k.map V.int)/\d9 ps k=some v/\Q v H
theorem ND (B:X.A.units+1<V6)(z:PE X a td)(w:PE X b ty)(A:AW b):PE X (.Subscript a b pos) (fun σ H Q=>td σ H fun x d=>ty σ d fun y i=>CZ X.K x y i Q):=by
 intro c s σ H Q I h
 refine HX PySem.F.slot_dict_getitem.lookup A (aN (z c s σ H _ I h) fun u N ⟨x,d,n,L,J⟩=>aN (w c N σ d _ n J) fun G R ⟨y,i,l,M,a,b,O,k,v,p,q,e,m,r,E,K⟩=>?_)
 subst p q
 obtain rfl:u=T6 a:=L
 obtain rfl:G=T6 b:=M
 exact ⟨Nt l e m,Nu B l e m r E fun U T o j=>⟨v,i,o,j,K⟩⟩
theorem NF {K:Tv}:cQ K qA (CZ K):=by
 intro w H L x y d G I J Q R s u c k
 unfold qA at c
 split at c
 ·split at c
  ·rename_i n hc
   obtain ⟨i,l,c⟩:=Tu.mp c
   obtain ⟨A,h,c⟩:=Tz.mp c
   cases c
   cases s
   obtain ⟨o,j,T⟩:=hJ R hc
   obtain ⟨b,rfl,m⟩:=n4 u l
   rcases T.val i with ⟨_,z⟩|⟨v,B,p,q,r⟩
   ·rw [z] at h;cases h
   ·rw [q] at h
    cases h
    exact ⟨_,b,o,i,v,rfl,rfl,.of j,T.keys,m,p,k w _ H .refl R r⟩
  ·rename_i n hc
   obtain ⟨i,l,c⟩:=Tu.mp c
   obtain ⟨A,h,c⟩:=Tz.mp c
   cases c
   cases s
   obtain ⟨E,o,j,T⟩:=p9 R hc
   obtain ⟨b,rfl,m⟩:=n4 u l
   rcases T.val i with ⟨_,z⟩|⟨v,B,p,q,r⟩
   ·rw [z] at h;cases h
   ·rw [q] at h
    cases h
    exact ⟨_,b,o,i,v,rfl,rfl,.inr ⟨E,j⟩,T.keys,m,p,k w _ H .refl R r⟩
  ·cases c
 ·cases c
theorem NG {k:Nat}(i:Room k X.A)(c:QE X a ma)(d:QE X b mb)(h:nN b=true):QE X (.Subscript a b pos) (aC qA ma mb):=⟨cP (ND (kU i) c.h d.h (BZ h)) (pJ NF)⟩
end
section
variable {X:Cx}{o i e:Expr}{mo mi me:ME}{pos tpos:Vt}{td ty tv:TE}
noncomputable def NH (K:Tv)(td ty tv:TE):TS:=fun D σ H=>tv σ H fun v d=>td σ d fun x h=>ty σ h fun y c=>∃ a b ps k,x=.ref a/\y=.ref b/\c a=some (aW a ps)/\eQ K c ps/\SqT K c b (k.map V.int)/\ps.length<TZ/\D.nx σ (aL c a (aW a (jD ps k b v)))
theorem NI (K:X.A.units+1<V6)(G:PE X o td)(B:PE X i ty)(L:PE X e tv)(J:Xx e (some (.Subscript o i tpos)) pos.line X.env=pure false) :
  PS X (.Assign [.Subscript o i tpos] e pos) (NH X.K td ty tv):=by
 intro c s d H D I h
 refine wpAny_Assign_Subscript (aN (L c s d H _ I h) fun r Z ⟨v,j,m,T,O⟩=>aN (G c Z d j _ m O) fun u s2 ⟨x,l,n,U,Q⟩=>aN (B c s2 d l _ n Q) fun N s3 ⟨y,H3,p,Y,a,b,ps,k,w,z,e,E,A,M,R⟩=>?_) J
 subst w z
 obtain rfl:u=T6 a:=U
 obtain rfl:N=T6 b:=Y
 exact Nx K p e E A M T fun s4 q=>⟨d,_,q,R⟩
theorem NJ {j:Nat}(hr:Room j X.A)(ho:QE X o mo)(hi:QE X i mi)(he:QE X e me)(h:d7 e=true):QS X (.Assign [.Subscript o i tpos] e pos) (w5 p6 mo mi me):=
 ⟨iD (NI (IB hr) ho.h hi.h he.h (nO h)) (by
 rintro E σ H ⟨π,K,μ,fl,ρ',μ',R,n,d,k⟩
 obtain ⟨⟨x,l⟩,h1,d⟩:=Tu.mp d
 obtain ⟨⟨y,m⟩,h2,d⟩:=Tu.mp d
 obtain ⟨⟨z,B⟩,h3,d⟩:=Tu.mp d
 obtain ⟨μ4,c,d⟩:=Tz.mp d
 cases d
 refine ⟨π,K,μ,x,l,R,n,h1,fun G v1 H1 p Q i1=>⟨G,K,l,y,m,Q,n.mono p,h2,fun I v2 H2 q R2 i2=>⟨I,K,m,z,B,R2,(n.mono p).mono q,h3,fun J v3 H3 r L i3=>?_⟩⟩⟩
 cases y with
 | loc a=>
  simp only [p6] at c
  split at c
  ·rename_i w hc
   obtain ⟨j,h5,c⟩:=Tu.mp c
   split at c
   ·rename_i hz
    cases c
    have v:=i2.mono r
    cases v with
    | loc s=>
     obtain ⟨A,N,T⟩:=hJ L hc
     obtain ⟨b,rfl,O⟩:=n4 i3 h5
     have hv:=(i1.mono q).mono r
     have Y:=T.put j O hv
     obtain ⟨Z,g2,g3⟩:=Y.to
     have u:A.length<TZ:=by
      have:=congrArg UJ (T.to).1
      rw [TF,TF] at this
      omega
     refine ⟨_,b,A,j,rfl,rfl,N,T.keys,O,u,?_⟩
     obtain ⟨M,U⟩:=L.put (c:=.dT (eP w j x)) (o:=aW _ (jD A j b v1)) s N (.inr (.inr ⟨_,rfl⟩)) ⟨_,rfl,Z,g2,g3⟩
     exact k J σ _ (((p.trans q).trans r).trans M) U ((((n.mono p).mono q).mono r).mono M)
   ·cases c
  ·cases c
 | _=>simp [p6] at c)⟩
end
noncomputable def qB (b:Bool):D->D->Hm->Option (D×Hm)
 | x,.loc a,μ=>match μ[a]? with
  | some (.dT kvs)=>(eE x).map fun k=>(.bl (if b then !(b7 kvs k).isSome else (b7 kvs k).isSome),μ)
  | some (.dF kvs)=>(eE x).map fun k=>(.bl (if b then !(b7 kvs k).isSome else (b7 kvs k).isSome),μ)
  | _=>none
 | _,_,_=>none
noncomputable def xB (K:Tv)(c:Bool):R2:=fun x y H Q=>∃ a b ps k,x=.ref b/\y=.ref a/\Rd H a (aW a ps)/\eQ K H ps/\SqT K H b (k.map V.int)/\Q (.bl (if c then !(d9 ps k).isSome else (d9 ps k).isSome)) H
theorem C0 {X:Cx}(l:X.A.units+1<V6):OpR X (UY .In) (xB X.K false):=by
 intro d s r H x y v u Q I m n h
 obtain ⟨a,b,o,k,rfl,rfl,e,j,i,q⟩:=h
 obtain rfl:v=T6 b:=m
 obtain rfl:u=T6 a:=n
 exact Nv l I e j i fun p c=>⟨.bl _,H,c,rfl,q⟩
theorem C1 {X:Cx}(l:X.A.units+1<V6):OpR X (UY .NotIn) (xB X.K true):=by
 intro d s r H x y v u Q I m n h
 obtain ⟨a,b,o,k,rfl,rfl,e,j,i,q⟩:=h
 obtain rfl:v=T6 b:=m
 obtain rfl:u=T6 a:=n
 exact Nw l I e j i fun p c=>⟨.bl _,H,c,rfl,q⟩
theorem sV {K:Tv}{l:Bool}:cQ K (qB l) (xB K l):=by
 intro r H A x y d u w z Q R p q a k
 unfold qB at a
 split at a
 ·split at a
  ·rename_i i hc
   obtain ⟨h,c,a⟩:=Tz.mp a
   cases a
   cases q
   obtain ⟨m,n,T⟩:=hJ R hc
   obtain ⟨b,rfl,o⟩:=n4 p c
   have e:(d9 m h).isSome=(b7 i h).isSome:=by
    rcases T.val h with ⟨c,j⟩|⟨v,d,c,j,_⟩<;>rw [c,j]<;>rfl
   refine ⟨_,b,m,h,rfl,rfl,.of n,T.keys,o,?_⟩
   rw [e]
   exact k r _ H .refl R (.bl _)
  ·rename_i i hc
   obtain ⟨h,c,a⟩:=Tz.mp a
   cases a
   cases q
   obtain ⟨s,m,n,T⟩:=p9 R hc
   obtain ⟨b,rfl,o⟩:=n4 p c
   have e:(d9 m h).isSome=(b7 i h).isSome:=by
    rcases T.val h with ⟨c,j⟩|⟨v,d,c,j,_⟩<;>rw [c,j]<;>rfl
   refine ⟨_,b,m,h,rfl,rfl,.inr ⟨s,n⟩,T.keys,o,?_⟩
   rw [e]
   exact k r _ H .refl R (.bl _)
  ·cases a
 ·cases a
section
variable {X:Cx}{a b:Expr}{ma mb:ME}{pos:Vt}
end
end L3
namespace L3
open PySem L2
noncomputable def RawD (h:UU)(d:Addr)(b:Array U7)(a:Nat):Prop:=∃ z,h.get? d=some z/\z.ExactDict/\z.data=.dict b a
theorem RawD.ty {s:TC}{d:Addr} {es ep} (g:RawD s.heap d es ep):s.TypeIs (.ref d) "dict":=let ⟨z,a,b,_⟩:=g;⟨z,a,b.1⟩
theorem RawD.stay {h h':UU}{d:Addr} {es ep} (g:RawD h d es ep)(k:∀ o,h.get? d=some o->h'.get? d=some o):RawD h' d es ep:=let ⟨z,a,b⟩:=g;⟨z,k z a,b⟩
theorem RawD.lt {h:UU}{d:Addr} {es ep} (g:RawD h d es ep):d<h.objs.size:=let ⟨_,a,_⟩:=g;T3 a
section
variable {P:Ud}{w:Uv}{A:Ur}{E:Value->TC->Prop}{s:TC}{d it:Addr}{i ep:Nat}{es:Array U7}
theorem C2 {Q:Value->TC->Prop}(lo:(d == Ve)=false)(g:RawD s.heap d es ep)
  (q:Q (.ref s.heap.objs.size) { s with heap:=s.heap.push { cls:=.type "dict_keyiterator",data:=.fields #[.ref d,.int 0 0,.int es.size 0,.int ep 0] } }):Ua (Ul P w) A (ZF (.ref d)) Q E s:=by
 obtain ⟨z,a,c,b⟩:=id g
 refine a2r g.ty F.slot_dict_iter (WR F.slot_dict_iter g.ty F.entry_dict_iter ?_ (F.args_dict_iter_1 _))
 unfold Builtin.«dict.__iter__» a3s
 refine Tx (Tx (Wc g.ty ?_))
 show Ua _ _ (pure (T6 d)) _ _ _
 refine TN ?_
 show Ua _ _ (V0 d >>= _) _ _ _
 unfold V0
 rw [if_neg (fun x=>Ux (lo.symm.trans x))]
 refine Tx (TN (Tx (U2 a b (Tx (WA a b (Tx (VP (TN ?_))))))))
 exact ⟨_,rfl,"dict_keyiterator",_,⟨_,Ub _ rfl,rfl⟩,F.slot_dict_keyiterator_next.lookup,by simpa [Wq] using q⟩
theorem sW {Q:Option Value->TC->Prop}(p:A.handled=none)(j:s.heap.IsKeyIter it d i es.size ep)(g:RawD s.heap d es ep)
  (v:∀ e a,es[i]? = some e->a.IsKeyIter it d (i+1) es.size ep->VT it s.heap a->Q (some e.key) { s with heap:=a })
  (B:es[i]? = none->∀ a,Zh it s.heap a->Q none { s with heap:=a }):Ua (Ul P w) A (ZE (.ref it)) Q E s:=by
 obtain ⟨y,c,r,b⟩:=id j
 obtain ⟨z,m,G,n⟩:=id g
 have l:∀ {Q:String->TC->Prop}{A:Ur}{E:Value->TC->Prop},Q "dict_keyiterator" s->Ua (Ul P w) A (typeNameOfWhole (.ref it)) Q E s:=fun q=>wpAny_typeNameOfWhole_keyiter j.typeIs q
 unfold ZE
 refine Tx (wpAny_attempt (a0M (name:=Va "__next__") j.typeIs F.slot_dict_keyiterator_next (WR F.slot_dict_keyiterator_next j.typeIs F.entry_dict_keyiterator_next ?_ (F.args_dict_keyiterator_next_1 _))))
 refine Tx (TN (Tx (Tx (Tx (l (TN (Tx (a3u c b ?_))))))))
 simp only [show WO "dict_keyiterator" = false by decide,TY,if_false]
 show Ua _ _ (if (T6 d == U1)=true then _ else _) _ _ _
 rw [if_neg (show ¬ (T6 d == U1)=true from fun x=>Ux x)]
 refine Tx (TN (Tx (U2 m n ?_)))
 rw [if_neg (fun x=>by simp at x)]
 refine Tx (TN (Tx (WA m n ?_)))
 rw [if_neg (fun x=>by simp at x)]
 refine TN ?_
 simp only [if_neg (show ¬ ((i:Int)<0) by omega),a1J]
 cases o:es[i]? with
 | some e=>
  refine Tx (Tx (l (TN (Tx (a1u j.typeIs ?_)))))
  show Ua _ _ (a0g (.ref it) 1 (Wq ((i:Int)+1)) >>= _) _ _ _
  refine Tx (Xl c b (by simp) ?_)
  have h:(s.heap.update it (YJ (·.setIfInBounds 1 (Wq ((i:Int)+1))))).IsKeyIter it d (i+1) es.size ep:=
   ⟨_,VQ _ c (Xj (WZ b _)),(a1B ..).trans r,by simp [WZ b,Wq]⟩
  generalize hu:s.heap.update it (YJ (·.setIfInBounds 1 (Wq ((i:Int)+1))))=u at h
  refine Tx (VW (Tx (a1u (s:={ s with heap:=u }) h.typeIs ?_)))
  show Ua _ _ (pure e.key) _ _ _
  exact TN (TN ⟨_,rfl,TN (v e u o h (hu ▸ Wv ..))⟩)
 | none=>
  refine Tx (Tx (l (TN ?_)))
  show Ua _ _ (a0g (.ref it) 0 .none >>= _) _ _ _
  refine Tx (Xl c b (by simp) ?_)
  show Ua _ _ (a3y (.type "StopIteration") [] >>= _) _ _ _
  simp only [a3y,newTuple]
  refine Tx (Tx (VP ?_ (by size_fits)))
  refine Tx (m:=YN _ _) (wpAny_of_eq (a:=U1) (by first|rfl|(simp only [YN];rfl)) (VP ?_ (by size_fits)))
  simp only [raiseNew]
  refine Tx (wpAny_handled ?_)
  rw [show A.in1.handled=none from p]
  refine Tx (TN (wpAny_throw ?thrown))
  case thrown=>exact Tx (WQ (T:="StopIteration") (b:=true) ⟨_,Ub _ rfl,rfl⟩ a3B (TN (B o _ (((Wv ..).extBut.push _).push _))))
theorem NK (n:A.handled=none)(m:d≠it)(es:Array U7)(ep:Nat):Walks P w A it [it,d] [it] es.size (fun i v=>∃ e,es[i]? = some e/\v=e.key) (fun i h=>h.IsKeyIter it d i es.size ep/\RawD h d es ep) where
 sub:=fun b a=>by rw [UE.mp a];exact UP ..
 frame:=fun _ _ _ st k=>⟨st.1.at fun o e=>k it (by simp) o e,st.2.stay fun o e=>k d (by simp) o e⟩
 item:=fun i s Q E u st q=>sW n st.1 st.2 (fun e l c r p=>q _ l s.toks ⟨e,c,rfl⟩ ⟨r,st.2.stay fun o j=>p.extBut d o m j⟩ fun b o a j=>p.extBut b o (fun z=>a (by simp [z])) j) (fun c=>by simp at c;omega)
 done:=fun s Q E st q=>sW n st.1 st.2 (fun e l c=>by simp at c) (fun _ l x=>q l s.toks fun b o a j=>x b o (fun z=>a (by simp [z])) j)
 self:=fun _ _ _ _ st q=>a1M st.1 q
theorem NL (lo:(d == Ve)=false):PySem.W.KdlSrc P w "dict" d d es.size (fun i v=>∃ e,es[i]? = some e/\v=e.key) (fun h=>RawD h d es ep) where
 type:=fun _ g=>g.ty
 there:=fun _ g=>⟨g.lt,g.lt⟩
 keep:=fun _ _ g k=>g.stay fun o e=>k d (.inl rfl) o e
 notList:=by decide
 notTuple:=by decide
 hint:=fun _ _ _ _ g q=>PySem.W.kdl_hint_dict g.ty q
 iter:=fun _ _ a g=>⟨_,_,(fun _ _ q=>C2 lo g q),NK a (Ui g.lt) es ep,⟨⟨_,Ub _ rfl,rfl,rfl⟩,g.stay fun o e=>TL _ e⟩⟩
theorem NM (lo:(d == Ve)=false):MeetsIn P w (Builtin.«dict.__len__» ⟨[.ref d],[]⟩) (fun _ R s=>∃ es ep,RawD s.heap d es ep/\R (.ok (.ret (.int (es.size:Nat) s.toks))) { s with toks:=s.toks+1 }):=
 .of_wp fun A R s ⟨es,ep,⟨z,a,c,b⟩,q⟩=>by
  show Ua _ _ (dictSize d >>= _) _ _ _
  unfold dictSize
  refine Tx (Tx (U2 a b (TN ?_)))
  show Ua _ _ (a3p d >>= _) _ _ _
  refine Tx (wpAny_pendingCount_other lo (wpAny_ret_mkInt ?_))
  rw [a2O];exact q
theorem NN {Q:Value->TC->Prop}(lo:(d == Ve)=false)(g:RawD s.heap d es ep)(hz:es.size<=TZ)(q:Q (.int (es.size:Nat) (s.toks+1)) { s with toks:=s.toks+1+1 }):Ua (Ul P w) A (call (.builtin "len") [.ref d]) Q E s:=
 a3f g.ty F.slot_dict_len (fun b a=>Zs F.slot_dict_len g.ty F.entry_dict_len (F.args_dict_len_1 _) (NM lo) ⟨es,ep,g,a⟩) (by omega) (by rw [UW] at hz;omega) q
end
theorem xC:∀ {ps:bY}{ws:List Value},Vals (ps.map (·.2.2)) ws->(bM ps ws).map (fun x=>T6 x.2.1)=ps.map fun p=>T6 p.2.1
 | [],_,_=>by simp [bM]
 | p::ps,_,.cons r t=>by
  have a:=xC (ps:=ps) t
  unfold bM at a ⊢
  rw [UC,TM,TM,a]
theorem C3:∀ ps:bY,Vals (ps.map fun p=>V.ref p.2.1) (ps.map fun p=>T6 p.2.1)
 | []=>.nil
 | p::ps=>.cons rfl (C3 ps)
section
variable {X:Cx}{a3F:List (Addr×Obj)}{σ:St}{H:Hp}{s:TC}{a:Addr}{ps:bY}
theorem n5 (I:Inv X a3F σ H s)(e:H a=some (aW a ps))(l:eQ X.K H ps):(a == Ve)=false/\ps.length<=TZ/\∃ b c,RawD s.heap a b c/\b.toList.map (·.key)=ps.map fun p=>T6 p.2.1:=by
 obtain ⟨n,m,o,r,z,b,c,d,h,i,j,_⟩:=j7 I (.of e) l
 refine ⟨n,m,b,c,⟨z,d,h,i⟩,?_⟩
 rw [j,Uh,<- xC r]
 rfl
noncomputable def C4 (K:Tv):List V->Hp->VK->Prop:=fun xs H Q=>∃ a ps,xs=[V.ref a]/\H a=some (aW a ps)/\eQ K H ps/\Q (.int ps.length) H
theorem NO:CallR X (.builtin "len") (C4 X.K):=by
 intro a3F s σ H p o Q I r h
 obtain ⟨a,ps,rfl,c,e,q⟩:=h
 obtain ⟨u,rfl,l⟩:=iX r
 cases l
 obtain ⟨j,n,b,m,g,d⟩:=n5 I c e
 have i:b.size=ps.length:=by
  have:=congrArg UJ d
  simpa using this
 refine NN j g (by omega) ?_
 rw [i]
 exact ⟨.int ps.length,H,(I.tok _).tok _,⟨_,rfl⟩,q⟩
noncomputable def C5 (K:Tv):List V->Hp->VK->Prop:=fun xs H Q=>∃ a ps,xs=[V.ref a]/\H a=some (aW a ps)/\eQ K H ps/\∀ l,H l=none->Q (.ref l) (aL H l (.lst (ps.map fun p=>V.ref p.2.1)))
theorem NP (hc:X.calm=true):CallR X (.type "list") (C5 X.K):=by
 intro a3F s σ H O N Q I r h
 obtain ⟨a,ps,rfl,y,z,q⟩:=h
 obtain ⟨u,rfl,G⟩:=iX r
 cases G
 obtain ⟨E,A,n,K,g,d⟩:=n5 I y z
 have M:n.size=ps.length:=by
  have:=congrArg UJ d
  simpa using this
 refine PySem.W.kdl_call (NL E) (I.ok.hd hc) g (by omega) fun L J b l B x c=>?_
 refine ⟨.ref s.heap.objs.size,_,I.laid (t':=J) (a:=s.heap.objs.size) (o:=.lst (ps.map fun p=>V.ref p.2.1)) B (TR _) ?_,rfl,q _ (I.hok.fresh (TR _))⟩
 refine ⟨by rw [TF];exact A,b.toList,l,?_,by simpa using x⟩
 have m:b.toList=ps.map fun p=>T6 p.2.1:=by
  rw [<- d]
  refine a1q fun i=>?_
  rw [Um,V7,V7]
  cases j:b[i]? with
  | some v=>
   obtain ⟨e,o,w⟩:=c.2 i v j
   rw [o,w];rfl
  | none=>
   have:b.size<=i:=by simpa using j
   rw [Array.getElem?_eq_none (by rw [<- c.1];exact this)];rfl
 rw [m]
 exact C3 ps
end
section
variable {X:Cx}{a b o i e:Expr}{ma mb mo mi me:ME}{pos tpos:Vt}{k:Nat}
theorem NQ (m:Room k X.A)(j:QE X a ma)(l:QE X b mb)(h:nN b=true):QE X (.Subscript a b pos) (aC aG ma mb):=
 mB (NG m j l h) (KS j l h) (gC fun x y n r c=>by
  unfold aG at c
  split at c
  ·split at c
   ·rename_i d hc
    refine .inl ?_
    simp only [qA,hc]
    exact c
   ·rename_i d hc
    refine .inl ?_
    simp only [qA,hc]
    exact c
   ·exact .inr c
  ·exact .inr c)
noncomputable def n6 (c:Bool):D->D->Hm->Option (D×Hm):=fun x y d=>match qB c x y d with
 | some r=>some r
 | none=>kX c x y d
theorem sX {c:Bool}(x y:D)(d:Hm)(r:D×Hm)(h:n6 c x y d=some r):qB c x y d=some r\/kX c x y d=some r:=by
 unfold n6 at h
 split at h
 ·rename_i z;rw [z];exact .inl h
 ·exact .inr h
theorem C6 {l:Bool}(x y:D)(m:Hm)(r:D×Hm)(h:cM l x y m=some r):(∃ i j,x=.str i/\y=.str j)\/n6 l x y m=some r:=by
 cases y with
 | loc a=>
  refine .inr ?_
  have e:cM l x (.loc a) m=(match m[a]? with
   | some (.dT d)=>(eE x).map fun k=>(D.bl (if l then !(b7 d k).isSome else (b7 d k).isSome),m)
   | some (.dF d)=>(eE x).map fun k=>(D.bl (if l then !(b7 d k).isSome else (b7 d k).isSome),m)
   | _=>kX l x (.loc a) m):=by cases x<;>rfl
  rw [e] at h
  unfold n6
  simp only [qB]
  cases hc:m[a]? with
  | none=>rw [hc] at h;exact h
  | some c=>
   rw [hc] at h
   cases c with
   | dT d=>dsimp only at h ⊢;rw [h]
   | dF d=>dsimp only at h ⊢;rw [h]
   | _=>exact h
 | str j=>
  cases x with
  | str i=>exact .inl ⟨i,j,rfl,rfl⟩
  | _=>exact .inr h
 | _=>cases x<;>exact .inr h
theorem C7 (x y:D)(c:Hm)(r:D×Hm)(h:cM false x y c=some r):wC x y c=some r\/n6 false x y c=some r:=by
 rcases C6 x y c r h with ⟨i,j,rfl,rfl⟩|z
 ·exact .inl h
 ·exact .inr z
theorem C8 (x y:D)(c:Hm)(r:D×Hm)(h:cM true x y c=some r):wO x y c=some r\/n6 true x y c=some r:=by
 rcases C6 x y c r h with ⟨i,j,rfl,rfl⟩|z
 ·exact .inl h
 ·exact .inr z
theorem NR (j:Room k X.A)(c:QE X a ma)(d:QE X b mb)(h:fC b=true):QE X (.Compare a [.In] [b] pos) (aC (cM false) ma mb):=
 mB ⟨eC Ay BF c.h d.h (gY h)⟩ (mB ⟨eC (C0 (kU j)) sV c.h d.h (gY h)⟩ ⟨eC (Ci (sI j)) sG c.h d.h (gY h)⟩ (gC sX)) (gC C7)
theorem NS (j:Room k X.A)(c:QE X a ma)(d:QE X b mb)(h:fC b=true):QE X (.Compare a [.NotIn] [b] pos) (aC (cM true) ma mb):=
 mB ⟨eC A3 Ck c.h d.h (gY h)⟩ (mB ⟨eC (C1 (kU j)) sV c.h d.h (gY h)⟩ ⟨eC (Cj (sI j)) sG c.h d.h (gY h)⟩ (gC sX)) (gC C8)
theorem NT (j:Room k X.A)(c:QE X a ma)(d:QE X b mb)(h:fC b=true):QT X (.Compare a [.In] [b] pos) (aR (aC (cM false) ma mb)):=
 nQ ⟨eD Ay BF c.h d.h (gY h)⟩ (nQ ⟨eD (C0 (kU j)) sV c.h d.h (gY h)⟩ ⟨eD (Ci (sI j)) sG c.h d.h (gY h)⟩ (nR (gC sX))) (nR (gC C7))
theorem NU (j:Room k X.A)(c:QE X a ma)(d:QE X b mb)(h:fC b=true):QT X (.Compare a [.NotIn] [b] pos) (aR (aC (cM true) ma mb)):=
 nQ ⟨eD A3 Ck c.h d.h (gY h)⟩ (nQ ⟨eD (C1 (kU j)) sV c.h d.h (gY h)⟩ ⟨eD (Cj (sI j)) sG c.h d.h (gY h)⟩ (nR (gC sX))) (nR (gC C8))
theorem NV (l:Room k X.A)(j:QE X o mo)(d:QE X i mi)(c:QE X e me)(h:d7 e=true):QS X (.Assign [.Subscript o i tpos] e pos) (dA mo mi me):=NJ l j d c h
end
end L3
namespace L3
open PySem L2
end L3
namespace L3
open PySem L2
end L3
namespace L3
open PySem L2
noncomputable def ItI (h:UU)(c d S:Addr)(i n e:Nat):Prop:=∃ (b ok ov:Value)(j:Bool),h.get? c=some { cls:=.type "dict_itemiterator",dict:=none,data:=.fields #[b,.bool j,.ref d,.int i 0,.int n 0,.int e 0,ok,ov],slots:=#[] } /\
 (b=.none\/∃ (a:Addr)(o:Obj),b=Wq a/\h.get? a=some o/\a≠c/\a≠S)
theorem ItI.ty {s:TC}{a d S:Addr} {i n ep} (j:ItI s.heap a d S i n ep):s.TypeIs (.ref a) "dict_itemiterator":=let ⟨_,_,_,_,e,_⟩:=j;⟨_,e,rfl⟩
theorem ItI.stay {h h':UU}{c d S:Addr} {i n ep} (j:ItI h c d S i n ep)(p:c≠S)(k:∀ b o,b≠S->h.get? b=some o->h'.get? b=some o):ItI h' c d S i n ep:=by
 obtain ⟨w,ok,q,m,e,r⟩:=j
 refine ⟨w,ok,q,m,k _ _ p e,?_⟩
 rcases r with r|⟨a,o,s,u,v,l⟩
 ·exact .inl r
 ·exact .inr ⟨a,o,s,k _ _ l u,v,l⟩
section
variable {P:Ud}{w:Uv}{A:Ur}{E:Value->TC->Prop}{s:TC}{d it S:Addr}{i ep:Nat}{es:Array U7}
end
structure PrsAt (es:Array U7)(lo:Addr)(h:UU)(as:List Addr):Prop where
 up:as.Pairwise (·<·)
 over:∀ a∈as,lo<a
 prs:∀ (j:Nat)(a:Addr),as[j]? = some a->∃ e,es[j]? = some e/\h.get? a=some { cls:=.type "tuple",data:=.seq #[e.key,e.val] }
theorem PrsAt.stay {d:Array U7}{lo:Addr}{h h':UU}{c:List Addr}(p:PrsAt d lo h c)(k:∀ b o,lo<b->h.get? b=some o->h'.get? b=some o):PrsAt d lo h' c:=
 ⟨p.up,p.over,fun j a i=>let ⟨e,l,m⟩:=p.prs j a i;⟨e,l,k a _ (p.over a (UM i)) m⟩⟩
theorem PrsAt.lt {c:Array U7}{lo:Addr}{h:UU}{b:List Addr}(p:PrsAt c lo h b){a:Addr}(d:a∈b):a<h.objs.size:=by
 obtain ⟨j,i⟩:=a0r.mp d
 obtain ⟨_,_,e⟩:=p.prs j a i
 exact T3 e
theorem PrsAt.snoc {n:Array U7}{lo:Addr}{h:UU}{i:List Addr}{b:Addr}{e:U7}(p:PrsAt n lo h i)(o:∀ a∈i,a<b)(r:lo<b)(q:n[i.length]? = some e)(s:h.get? b=some { cls:=.type "tuple",data:=.seq #[e.key,e.val] }):PrsAt n lo h (i++[b]):=by
 refine ⟨a0z.mpr ⟨p.up,List.pairwise_singleton _ _,fun a d c hc=>by rw [UE.mp hc];exact o a d⟩,fun a d=>?_,fun j a l=>?_⟩
 ·rcases Vp.mp d with d|d
  ·exact p.over a d
  ·rw [UE.mp d];exact r
 ·rcases Y4 j i.length with m|m|m
  ·rw [Uc m] at l
   exact p.prs j a l
  ·subst m
   have:b=a:=by simpa using l
   subst this
   exact ⟨e,q,s⟩
  ·rw [Wu (by simp;omega)] at l
   cases l
section
variable {P:Ud}{w:Uv}{A:Ur}{s:TC}{R:a0l->TC->Prop}{es:Array U7}{ep:Nat}{S I d:Addr}
end
end L3
namespace L3
open PySem L2 PySem.W PyProof.Rows
section
variable {P:Ud}{w:Uv}{A:Ur}{E:Value->TC->Prop}{s:TC}
end
end L3
namespace L3
open PySem L2 PySem.W PyProof.Rows
section
variable {P:Ud}{w:Uv}{A:Ur}{E:Value->TC->Prop}{s:TC}
end
end L3
namespace L3
open PySem L2
end L3
namespace L3
open PySem L2
section
variable {P:Ud}{w:Uv}
theorem NW (d:Addr)(hd:(d == Ve)=false):MeetsIn P w (Builtin.«dict.items» ⟨[.ref d],[]⟩) (fun _ R s=>(∃ b a,RawD s.heap d b a) /\
   R (.ok (.ret (.ref s.heap.objs.size))) { s with heap:=s.heap.push { cls:=.type "dict_items",data:=.fields #[.ref d] } }):=
 .of_wp fun A R s ⟨⟨b,a,g⟩,h⟩=>by
  unfold Builtin.«dict.items»
  refine Tx ?_
  unfold Zv
  refine Tx (Wc g.ty ?_)
  show Ua _ _ (pure d) _ _ s
  refine TN ?_
  show Ua _ _ (V0 d >>= _) _ _ s
  unfold V0
  rw [if_neg (by rw [hd];exact Ux)]
  refine Tx (TN ?_)
  exact Tx (VP (TN ⟨_,rfl,h⟩))
end
end L3
namespace L3
open PySem L2
section
variable {X:Cx}{a3F pins0:List (Addr×Obj)}{σ σ0:St}{H H0:Hp}{s s0:TC}{a:Addr}{ps ps0:bY}{ob:Obj}
theorem Inv.freeze (I:Inv X a3F σ H s)(e:H a=some (aW a ps))(c:s.heap.get? a=some ob):Inv X a3F σ (aL H a (.frz ob (aW a ps))) s:=by
 have ok:ObjOk X.prog X.w H s.heap a (aW a ps):=I.hok a _ e
 exact I.write (x:=a) (e:=a) (h':=s.heap) (t':=s.toks) (by rw [e];exact We) (.inl rfl) (fun b q _ z=>z) ⟨ob,c⟩ ⟨c,ok⟩
theorem Inv.thaw (r:Inv X pins0 σ0 H0 s0)(v:H0 a=some (aW a ps0))(I:Inv X a3F σ H s)(e:H a=some (.frz ob (aW a ps))):Inv X a3F σ (aL H a (aW a ps)) s:=by
 have ne:∀ {b:Addr},H b=none->b≠a:=fun {b} h z=>by rw [z,e] at h;cases h
 refine ⟨I.ok,I.os,I.bare,⟨I.base.keep,I.base.slot,fun b o d i j=>?_,I.base.there,fun b m h=>?_,fun b o u h=>?_,fun b y h=>?_⟩,I.loc,I.cell,?_,fun x c h=>?_,fun p w=>?_,fun b u q=>?_,I.len⟩
 ·have:=I.base.free b o d i j
  rw [bC (ne this)];exact this
 ·have:=I.base.tups b m h
  rw [bC fun z=>by rw [z,e] at this;cases this];exact this
 ·have:=I.base.frzs b o u h
  rw [bC fun z=>by
   have n:=r.base.frzs b o u h
   rw [z,v] at n;cases n]
  exact this
 ·obtain ⟨more,d⟩:=I.base.tbls b y h
  exact ⟨more,by rw [bC fun z=>by rw [z,e] at d;cases d];exact d⟩
 ·rw [bC (ne I.free)];exact I.free
 ·have:=I.freeC x c h
  rw [bC (ne this)];exact this
 ·obtain ⟨d,i,j⟩:=I.pin p w
  exact ⟨d,by rw [bC (ne i)];exact i,j⟩
 ·by_cases l:b=a
  ·subst l
   rw [cN] at q
   cases q
   exact (show ObjOk X.prog X.w H s.heap b (.frz ob (aW b ps)) from I.hok b _ e).2
  ·rw [bC l] at q
   exact (I.hok b u q).stay (fun _ _ _ z=>z) (fun c h=>by rw [bC fun z=>by rw [z,e] at h;cases h];exact h) fun c m h=>by rw [bC fun z=>by rw [z,e] at h;cases h];exact h
end
noncomputable def xD (i:Nat)(a:aF):Option D:=if i<1000 then (a[i]?).bind id else match a[i / 1000 - 1]? with
 | some (some (.tup ds))=>ds[i % 1000]?
 | _=>none
noncomputable def n8 (i:Nat)(c:aF)(b:Hm):Option (Nat×List (List Int×D)):=match xD i c with
 | some (.loc a)=>match b[a]? with
  | some (.dT kvs)=>some (a,kvs)
  | _=>none
 | _=>none
theorem C9 {i:Nat}{d:aF}{c:Hm}{a:Nat}{b:List (List Int×D)}(h:n8 i d c=some (a,b)):c[a]? = some (.dT b):=by
 unfold n8 at h
 split at h
 ·split at h
  ·rename_i hc
   cases h
   exact hc
  ·cases h
 ·cases h
noncomputable def xE (i:Nat)(d e:ME):ME:=fun c b=>match n8 i c b with
 | some (a,kvs)=>(d c (b.set a (.dF kvs))).bind fun r=>match r.2[a]? with
  | some (.dF kvs')=>some (r.1,r.2.set a (.dT kvs'))
  | _=>none
 | none=>e c b
noncomputable def dY (i:Nat)(d e:MS):MS:=fun c b=>match n8 i c b with
 | some (a,kvs)=>(d c (b.set a (.dF kvs))).bind fun r=>match r.2.2[a]? with
  | some (.dF kvs')=>some (r.1,r.2.1,r.2.2.set a (.dT kvs'))
  | _=>none
 | none=>e c b
section
variable {X:Cx}{a3F:List (Addr×Obj)}{σ:St}{H:Hp}{s:TC}{π:Nat->Addr}{ρ:aF}{μ:Hm}{a:Nat}{kvs:List (List Int×D)}
theorem Dd (I:Inv X a3F σ H s)(R:Rp X.K π H μ)(E:En X.K π μ.length H σ ρ)(hc:μ[a]? = some (.dT kvs)):∃ ob ps,H (π a)=some (aW (π a) ps)/\Inv X a3F σ (aL H (π a) (.frz ob (aW (π a) ps))) s /\
  Rp X.K π (aL H (π a) (.frz ob (aW (π a) ps))) (μ.set a (.dF kvs))/\En X.K π (μ.set a (.dF kvs)).length (aL H (π a) (.frz ob (aW (π a) ps))) σ ρ:=by
 obtain ⟨ps,b,T⟩:=hJ R hc
 obtain ⟨_,⟨ob,d⟩,_⟩:=(show ObjOk X.prog X.w H s.heap (π a) (aW (π a) ps) from I.hok _ _ b)
 obtain ⟨c,R2⟩:=R.put (c:=.dF kvs) (o:=.frz ob (aW (π a) ps)) (TB.mp hc).1 b (.inr (.inr ⟨_,rfl⟩)) ⟨ob,ps,rfl,T.to⟩
 exact ⟨ob,ps,b,Inv.freeze I b d,R2,E.mono c⟩
theorem qC {j:List (Addr×Obj)}{q:St}{H':Hp}{y:TC}{c:Nat->Addr}{i:Hm}{ob:Obj}{ps:bY}{d:List (List Int×D)}(I:Inv X a3F σ H s)(e:H (π a)=some (aW (π a) ps))(B:a<μ.length)
  (A:Inv X j q H' y)(x:Rp X.K c H' i)(m:Ext π (μ.set a (.dF kvs)).length (aL H (π a) (.frz ob (aW (π a) ps))) c i.length H')(hc:i[a]? = some (.dF d)) :
  ∃ r,Inv X j q r y/\Ext π μ.length H c (i.set a (.dT d)).length r/\Rp X.K c r (i.set a (.dT d))/\Ext0 c i.length H' c (i.set a (.dT d)).length r:=by
 have v:c a=π a:=m.pi a (by rw [Ut];exact B)
 obtain ⟨G,l,w,T⟩:=p9 x hc
 obtain ⟨K,R2⟩:=x.put0 (c:=.dT d) (o:=aW (c a) l) (TB.mp hc).1 w (.inr (.inr (.inr ⟨_,_,rfl⟩))) ⟨l,rfl,T.to⟩
 rw [v] at w
 refine ⟨aL H' (c a) (aW (c a) l),?_,⟨?_,fun b E=>m.pi b (by rw [Ut];exact E),fun p J h=>?_,fun p o u h=>?_⟩,R2,K⟩
 ·rw [v]
  exact Inv.thaw I e A w
 ·have:=m.le
  rw [Ut] at this ⊢
  exact this
 ·have n:p≠π a:=fun z=>by rw [z,e] at h;cases h
  have:=m.tup p J (by rw [bC n];exact h)
  rw [v,bC n];exact this
 ·have n:p≠π a:=fun z=>by rw [z,e] at h;cases h
  have:=m.frz p o u (by rw [bC n];exact h)
  rw [v,bC n];exact this
theorem En.mono0 {K:Tv}{b:Nat->Addr}{n c:Nat}{H':Hp}(E:En K π n H σ ρ)(e:Ext0 π n H b c H'):En K b c H' σ ρ:=
 ⟨E.len,fun i d h=>let ⟨v,j,l⟩:=E.get i d h;⟨v,j,l.mono0 e⟩⟩
end
section
variable {X:Cx}{e:Expr}{st:Stmt}{i:Nat}
theorem NX {z A:ME}(h1:QE X e z)(h2:QE X e A):QE X e (xE i z A):=⟨by
 intro l s J H Q I hw
 obtain ⟨m,G,B,d,r,R,E,c,k⟩:=hw
 unfold xE at c
 split at c
 ·rename_i a q hv
  obtain ⟨⟨x,h⟩,Z,c⟩:=Tu.mp c
  dsimp only at c
  split at c
  ·rename_i y o
   cases c
   have hc:=C9 hv
   obtain ⟨ob,ps,U,L,O,K⟩:=Dd I R E hc
   refine aN (h1.h l s J _ (fun v j=>∃ b,Ext m (B.set a (.dF q)).length (aL H (m a) (.frz ob (aW (m a) ps))) b h.length j/\Rp X.K b j h/\IsD X.K b h.length j v d) L ⟨m,G,_,d,h,O,K,Z,fun b v j n R2 p=>⟨b,n,R2,p⟩⟩) fun u s2 ⟨v,j,M,rv,b,n,R2,p⟩=>?_
   obtain ⟨w,N,Y,T,x3⟩:=qC I U (TB.mp hc).1 M R2 n o
   exact ⟨v,w,N,rv,k b v w Y T (p.mono0 x3)⟩
  ·cases c
 ·exact h2.h l s J H Q I ⟨m,G,B,d,r,R,E,c,k⟩⟩
theorem xF {Z m2:MS}(h1:QS X st Z)(h2:QS X st m2):QS X st (dY i Z m2):=⟨by
 intro K s σ H D I hw
 obtain ⟨m,ρ,L,G,p,U,R,E,w,k⟩:=hw
 unfold dY at w
 split at w
 ·rename_i a x hv
  obtain ⟨⟨fl1,ρ1,h⟩,g1,w⟩:=Tu.mp w
  dsimp only at w
  split at w
  ·rename_i Y r
   cases w
   have hc:=C9 hv
   have N:=(TB.mp hc).1
   obtain ⟨O,Q,M,I1,R1,E1⟩:=Dd I R E hc
   refine aN (h1.h K s σ _ ⟨fun c j=>G=.nx/\∃ b,Ext m (L.set a (.dF x)).length (aL H (m a) (.frz O (aW (m a) Q))) b h.length j/\Rp X.K b j h/\En X.K b h.length j c p,
     fun v j=>∃ d,G=.rt d/\∃ b,Ext m (L.set a (.dF x)).length (aL H (m a) (.frz O (aW (m a) Q))) b h.length j/\Rp X.K b j h/\IsD X.K b h.length j v d,
     fun c j=>G=.bk/\∃ b,Ext m (L.set a (.dF x)).length (aL H (m a) (.frz O (aW (m a) Q))) b h.length j/\Rp X.K b j h/\En X.K b h.length j c p,
     fun c j=>G=.ct/\∃ b,Ext m (L.set a (.dF x)).length (aL H (m a) (.frz O (aW (m a) Q))) b h.length j/\Rp X.K b j h/\En X.K b h.length j c p⟩ I1 ⟨m,ρ,_,G,p,h,R1,E1,g1,?_⟩) fun f s2 q=>?_
   ·cases G with
    | nx=>exact fun b c j l R2 n=>⟨rfl,b,l,R2,n⟩
    | bk=>exact fun b c j l R2 n=>⟨rfl,b,l,R2,n⟩
    | ct=>exact fun b c j l R2 n=>⟨rfl,b,l,R2,n⟩
    | rt d=>exact fun b v j l R2 T=>⟨d,rfl,b,l,R2,T⟩
   ·cases f with
    | next=>
     obtain ⟨c,j,y,rfl,b,l,R2,n⟩:=q
     obtain ⟨o,z,B,A,J⟩:=qC I M N y R2 l r
     exact ⟨c,o,z,k b c o B A (En.mono0 n J)⟩
    | brk=>
     obtain ⟨c,j,y,rfl,b,l,R2,n⟩:=q
     obtain ⟨o,z,B,A,J⟩:=qC I M N y R2 l r
     exact ⟨c,o,z,k b c o B A (En.mono0 n J)⟩
    | cont=>
     obtain ⟨c,j,y,rfl,b,l,R2,n⟩:=q
     obtain ⟨o,z,B,A,J⟩:=qC I M N y R2 l r
     exact ⟨c,o,z,k b c o B A (En.mono0 n J)⟩
    | ret u=>
     obtain ⟨v,c,j,y,rv,d,rfl,b,l,R2,T⟩:=q
     obtain ⟨o,z,B,A,J⟩:=qC I M N y R2 l r
     exact ⟨v,c,o,z,rv,k b v o B A (T.mono0 J)⟩
  ·cases w
 ·exact h2.h K s σ H D I ⟨m,ρ,L,G,p,U,R,E,w,k⟩⟩
end
noncomputable def xG (d:Addr)(ob:Obj)(ps:bY):It:=⟨fun i H=>H d=some (.frz ob (aW d ps))/\i<ps.length,fun i H x H'=>H'=H/\∃ p,ps[i]? = some p/\x=.ref p.2.1,fun i H=>H d=some (.frz ob (aW d ps))/\ps.length<=i⟩
theorem mM {X:Cx}{a3F:List (Addr×Obj)}{σ:St}{H:Hp}{s:TC}{d:Addr}{ob:Obj}{ps:bY}(I:Inv X a3F σ H s)(e:H d=some (.frz ob (aW d ps))) :
  (d == Ve)=false/\ps.length<=TZ/\∃ a b,RawD s.heap d a b/\ob.data=.dict a b/\a.toList.map (·.key)=ps.map fun p=>T6 p.2.1:=by
 obtain ⟨c,⟨u,r,n,m,o,a,b,h,j,i,l,q⟩,_⟩:=(show ObjOk X.prog X.w H s.heap d (.frz ob (aW d ps)) from I.hok d _ e)
 rw [c] at h
 cases h
 refine ⟨n,m,a,b,⟨ob,c,j,i⟩,i,?_⟩
 rw [l,sU (P:=X.prog) (w:=X.w),Uh,<- xC r]
 rfl
theorem De:∀ (ps:bY)(ws:List Value),ps.length=ws.length->(XG pH ps ws).map (·.val)=ws
 | [],[],_=>rfl
 | [],_::_,h=>by cases h
 | _::_,[],h=>by cases h
 | p::ps,u::ws,h=>by
  rw [UC,TM,De ps ws (by simpa using h)]
  rfl
theorem NY {X:Cx}{a3F:List (Addr×Obj)}{σ:St}{H:Hp}{s:TC}{d:Addr}{ob:Obj}{ps:bY}(I:Inv X a3F σ H s)(e:H d=some (.frz ob (aW d ps))) :
  (d == Ve)=false/\ps.length<=TZ/\∃ a b,RawD s.heap d a b/\ob.data=.dict a b/\Vals (ps.map (·.2.2)) (a.toList.map (·.val)):=by
 obtain ⟨h,⟨c,r,q,p,o,a,b,i,m,j,n,u⟩,_⟩:=(show ObjOk X.prog X.w H s.heap d (.frz ob (aW d ps)) from I.hok d _ e)
 rw [h] at i
 cases i
 refine ⟨q,p,a,b,⟨ob,h,m,j⟩,j,?_⟩
 have l:(XG pH ps c).map (·.val)=c:=De ps c (by
  have:=r.length
  rw [TF] at this
  exact this)
 rw [n,l]
 exact r
theorem NZ {P:Ud}{w:Uv}{K:Tv}{tg:Expr}{d n:Addr}{ob:Obj}{ps:bY}{u:Array U7}{T:Nat}(hd:ob.data=.dict u T):Turn Qc P w K tg (xG d ob ps) [n] n (fun i h=>h.IsKeyIter n d i u.size T) where
 mem:=by simp
 obj:=fun i h st b j=>by
  have e:b=n:=by simpa using j
  subst e
  obtain ⟨o,e,c,d⟩:=st
  exact ⟨o,e,fun v z=>by rw [d] at z;cases z⟩
 keep:=fun i h q st k=>st.at fun o e=>k n (by simp) o e
 item:=by
  intro X Q hw O hc i p s Z H E I y st R
  subst Q hw O
  obtain ⟨m,r⟩:=R
  obtain ⟨lo,hl,B,A,g,a,x⟩:=mM I m
  rw [hd] at a
  cases a
  have hs:u.size=ps.length:=by
   have:=congrArg UJ x
   simpa using this
  obtain ⟨G,J,f2,L,M,N⟩:=y n (by simp)
  refine sW (I.ok.hd hc) st g (fun e q l Y sb=>?_) fun hn=>by simp at hn;omega
  have I1:Inv X p Z H { s with heap:=q }:=I.turned (t':=s.toks) (fun b o j e=>(sb.2 b j).trans e) G J L M N
  obtain ⟨o,e1,c,d1⟩:=id Y
  have U:ps[i]? = some ps[i]:=Uw r
  have ek:e.key=.ref (ps[i]).2.1:=by
   have:=congrArg (·[i]?) x
   simp only [Um,V7,l,U,Us] at this
   exact T5 this
  exact ⟨e.key,rfl,o7 (s:={ s with heap:=q }) e1 c d1 (by decide) ⟨.ref (ps[i]).2.1,H,I1,ek,⟨rfl,ps[i],U,rfl⟩,Y,fun b j=>(y b j).1⟩⟩
 done:=by
  intro X Q hw O hc i p s Z H E I y st R
  subst Q hw O
  obtain ⟨m,r⟩:=R
  obtain ⟨lo,hl,B,A,g,a,x⟩:=mM I m
  rw [hd] at a
  cases a
  have hs:u.size=ps.length:=by
   have:=congrArg UJ x
   simpa using this
  obtain ⟨G,J,f2,L,M,N⟩:=y n (by simp)
  exact sW (I.ok.hd hc) st g (fun e q l=>by
   have:=(Vu.mp l).1
   omega) fun _ q eb=>⟨rfl,I.turned (t':=s.toks) (fun b o j e=>eb b o j e) G J L M N⟩
 self:=fun _ _ _ _ _ st h=>a1M st h
theorem N0 {X:Cx}{l tg:Expr}{n:TE}(m:PE X l n):PI X tg l (fun σ H R=>n σ H fun v a=>∃ d ob ps,v=.ref d/\a d=some (.frz ob (aW d ps))/\R (xG d ob ps) a):=by
 intro j s σ H R I h
 refine aN (m j s σ H _ I h) fun v i ⟨y,a,c,x,w⟩=>?_
 obtain ⟨d,ob,ps,e,r,q⟩:=w
 subst e
 obtain rfl:v=T6 d:=x
 obtain ⟨u,m,A,z,g,hd,B⟩:=mM c r
 refine C2 u g ⟨i.heap.objs.size,[i.heap.objs.size],_,_,a,rfl,c.kept (t':=i.toks) fun b o e=>TL _ e,NZ hd,⟨_,Ub _ rfl,rfl,rfl⟩,fun b p=>?_,q⟩
 have e:b=i.heap.objs.size:=by simpa using p
 subst e
 exact c.fpOk (TR _) (c.hok.fresh (TR _))
noncomputable def iL (a:List (List Int×D)):List D:=a.map fun k=>D.tup (k.1.map D.int)
theorem N3 {K:Tv}{π:Nat->Addr}{n:Nat}{H:Hp}{d:Addr}{ob:Obj}{ps:bY}{a:List (List Int×D)}(h:H d=some (.frz ob (aW d ps)))(T:IsTs K π n H ps a):Wk K (xG d ob ps) (dW (.tup (iL a))) π n H:=by
 have x:ps.length=a.length:=by
  have:=congrArg UJ T.to.1
  simpa using this
 refine ⟨fun c u l i e R z=>?_,fun c u l i m e R z=>?_⟩
 ·have b:(iL a)[i]? = none:=T5 z
  have:=UO.mp b
  rw [iL,TF] at this
  exact ⟨e.frz _ _ _ h,by omega⟩
 ·have b:(iL a)[i]? = some m:=T5 z
  have y:i<a.length:=by
   have:=(TB.mp b).1
   rwa [iL,TF] at this
  refine ⟨⟨e.frz _ _ _ h,by omega⟩,fun v w ⟨o,p,q,r⟩=>?_⟩
  subst o r
  obtain ⟨A,j,s⟩:=(T.to.2.1.mono e).get b
  rw [Um,q] at j
  cases j
  exact ⟨.refl,R,s⟩
noncomputable def gH (m:ME):MI:=fun c b=>(m c b).bind fun p=>match p.1 with
 | .loc a=>match p.2[a]? with
  | some (.dF kvs)=>some (dW (.tup (iL kvs)),kvs.length+1,p.2)
  | _=>none
 | _=>none
theorem xH {X:Cx}{e:Expr}{m:ME}(h:QE X e m):QJ X e (gH m):=⟨fun tg a3F s σ H R I hw=>by
 obtain ⟨A,B,w,v,n,y,j,E,a,k⟩:=hw
 obtain ⟨⟨x,z⟩,o,a⟩:=Tu.mp a
 dsimp only at a
 split at a
 ·split at a
  ·rename_i q hc
   cases a
   refine N0 h.h a3F s σ H R I ⟨A,B,w,_,_,j,E,o,fun b G i l c p=>?_⟩
   cases p
   obtain ⟨r,u,d,T⟩:=p9 c hc
   exact ⟨_,r,u,rfl,d,k b i _ l c (N3 d T)⟩
  ·cases a
 ·cases a⟩
end L3
namespace L3
open PySem L2 PySem.W PyProof.Rows
section
variable {P:Ud}{w:Uv}{A:Ur}{E:Value->TC->Prop}{s:TC}
end
end L3
namespace L3
open PySem L2
noncomputable def n9 (b:Hm):D->Bool
 | .loc a=>match b[a]? with|some (.dT _)=>true|_=>false
 | _=>false
noncomputable def fE (f:D->List D->Hm->Option (D×Hm))(b:ME)(ms:MA):ME:=fun a c=>(b a c).bind fun p=>match n9 p.2 p.1 with
 | true=>(ms a p.2).bind fun q=>f p.1 q.1 q.2
 | false=>none
noncomputable def qD (K:Tv)(x:V)(H:Hp):Prop:=∃ a ps,x=.ref a/\H a=some (aW a ps)/\eQ K H ps
theorem Df {K:Tv}{π:Nat->Addr}{H:Hp}{b:Hm}{v:V}{x:D}(R:Rp K π H b)(h:IsD K π b.length H v x)(e:n9 b x=true):qD K v H:=by
 cases h with
 | @loc a j=>
  simp only [n9] at e
  split at e
  ·rename_i l d
   obtain ⟨i,c,T⟩:=hJ R d
   exact ⟨_,i,rfl,c,T.keys⟩
  ·cases e
 | _=>cases e
section
variable {X:Cx}{e o:Expr}{mo:ME}{to:TE}{t:TA}{apos cpos:Vt}{es:List Expr}{ms:MA}{n:Nat}{r:V->List V->Hp->VK->Prop}{f:D->List D->Hm->Option (D×Hm)}{name:Str}{id:String}
theorem N4 (slot:Slot "dict" name id) (w:a0Z (.builtin id)=pure (.type "method_descriptor")) (N:jQ X id r)(O:PE X o to)(L:PA X (e::es) t)(i:Wl o name X.env (eval o X.env)=eval o X.env)
  (m:((VF cpos (Ue (e::es) X.env)).all (fun x=>!x.1)&&(XJ cpos (Wt [] X.env)).all (fun x=>x.1.isSome)&&decide ((e::es).length+([]:List WJ).length+(if ([]:List WJ).isEmpty then 0 else 1)<30))=true)
  (j:(apos.endLine == cpos.line)=true)(R:Ue (e::es) X.env=(false,eval e X.env)::Ue es X.env)(c:(VF cpos (Ue es X.env)).any (·.1)=false) :
  PE X (.Call (.Attribute o name apos) (e::es) [] cpos) (fun l H Q=>to l H fun x p=>qD X.K x p/\t l p fun q u=>r x q u Q):=by
 intro d s l H Q I h
 refine a0Y i m j rfl (aN (O d s l H _ I h) fun v s1 ⟨x,p,y,Y,ty,T⟩=>?_)
 obtain ⟨a,ps,rfl,G,M⟩:=ty
 obtain rfl:v=T6 a:=Y
 obtain ⟨lo,hl,q,ep,g,_⟩:=n5 y G M
 refine ⟨"dict",id,X1,slot,w,g.ty,fun b E=>?_,?_⟩
 ·cases E
  obtain ⟨z,J,K,_⟩:=g
  exact ⟨z,J,K.2.1⟩
 have A:=L cpos d s1 l p _ y T
 rw [R] at A ⊢
 refine W3 (by show (false||(VF cpos (Ue es X.env)).any (·.1))=false;rw [c]<;>rfl) (Ys ?_)
 exact aN A fun us s2 ⟨q,u,B,Z,U⟩=>N d s2 l u (.ref a) q _ us Q B rfl Z U
theorem N5 (slot:Slot "dict" name id) (m:a0Z (.builtin id)=pure (.type "method_descriptor")) (B:jQ X id r)(E:PE X o to)(c:Wl o name X.env (eval o X.env)=eval o X.env)(d:(apos.endLine == cpos.line)=true) :
  PE X (.Call (.Attribute o name apos) [] [] cpos) (fun l H Q=>to l H fun x j=>qD X.K x j/\r x [] j Q):=by
 intro i s l H Q I h
 refine a0N c d (aN (E i s l H _ I h) fun v K ⟨x,j,p,J,ty,G⟩=>?_)
 obtain ⟨a,O,rfl,u,A⟩:=ty
 obtain rfl:v=T6 a:=J
 obtain ⟨N,M,R,L,g,_⟩:=n5 p u A
 refine ⟨"dict",id,X1,slot,m,g.ty,fun b q=>?_,W3 rfl (a0t ?_)⟩
 ·cases q
  obtain ⟨z,w,y,_⟩:=g
  exact ⟨z,w,y.2.1⟩
 exact B i K l j (.ref a) [] _ [] Q p rfl .nil G
theorem N6 {K:Tv}(A:i9 K f r):∀ σ H Q,tM K (fE f mo ms) σ H Q->tM K mo σ H fun x h=>qD K x h/\eI K ms σ h fun vs i=>r x vs i Q:=by
 rintro σ H Q ⟨L,w,J,d,j,R,E,a,k⟩
 obtain ⟨⟨x,b⟩,y,a⟩:=Tu.mp a
 dsimp only at a
 split at a
 ·rename_i B
  obtain ⟨⟨v,c⟩,z,a⟩:=Tu.mp a
  refine ⟨L,w,J,x,b,R,E,y,fun l I h q p u=>⟨Df p u B,l,w,b,v,c,p,E.mono q,z,fun m vs i s R2 G=>?_⟩⟩
  exact A m i c x v d j I vs Q R2 (u.mono s) G a (k.after (q.trans s))
 ·cases a
theorem N7 {K:Tv}(s:i9 K f r):∀ σ H Q,tM K (fE f mo aD) σ H Q->tM K mo σ H fun x c=>qD K x c/\r x [] c Q:=by
 rintro σ H Q ⟨z,A,w,d,h,R,E,a,k⟩
 obtain ⟨⟨x,b⟩,p,a⟩:=Tu.mp a
 dsimp only at a
 split at a
 ·rename_i u
  obtain ⟨⟨B,y⟩,q,a⟩:=Tu.mp a
  cases q
  refine ⟨z,A,w,x,b,R,E,p,fun i v c m j l=>⟨Df j l u,?_⟩⟩
  exact s i c b x [] d h v [] Q j l .nil a (k.after m)
 ·cases a
theorem N8 (slot:Slot "dict" name id) (c:a0Z (.builtin id)=pure (.type "method_descriptor")) (j:jQ X id r)(h:i9 X.K f r)
  (m:QE X o mo)(d:QA X (e::es) ms n)(p:eW o=true)(i:(apos.endLine == cpos.line)=true)(l:(e::es).length<30):QE X (.Call (.Attribute o name apos) (e::es) [] cpos) (fE f mo ms):=by
 have b:=d.s
 have a:=b
 rw [Uy,Tw] at a
 exact ⟨cP (N4 slot c j m.h d.h (j4 p) (Co b l) i (dD a.1) (fQ a.2)) (N6 h)⟩
theorem N9 (slot:Slot "dict" name id) (a:a0Z (.builtin id)=pure (.type "method_descriptor")) (d:jQ X id r)(b:i9 X.K f r)
  (h:QE X o mo)(i:eW o=true)(c:(apos.endLine == cpos.line)=true):QE X (.Call (.Attribute o name apos) [] [] cpos) (fE f mo aD):=
 ⟨cP (N5 slot a d h.h (j4 i) c) (N7 b)⟩
end
noncomputable def iM:D->List D->Hm->Option (D×Hm)
 | .loc a,[y,z],μ=>match μ[a]? with
  | some (.dT kvs)=>(eE y).map fun k=>((b7 kvs k).getD z,μ)
  | _=>none
 | _,_,_=>none
noncomputable def Dg (K:Tv):V->List V->Hp->VK->Prop:=fun x vs H Q=>∃ a b ps k z,x=.ref a/\vs=[.ref b,z]/\H a=some (aW a ps)/\eQ K H ps/\SqT K H b (k.map V.int)/\Q ((d9 ps k).getD z) H
theorem Oa {K:Tv}:i9 K iM (Dg K):=by
 intro w H B x A d u v z Q R n c a k
 unfold iM at a
 split at a
 ·split at a
  ·rename_i q hc
   obtain ⟨i,l,a⟩:=Tz.mp a
   cases a
   cases n
   cases c with
   | cons o t=>
    cases t with
    | cons p t=>
     cases t
     obtain ⟨r,j,T⟩:=hJ R hc
     obtain ⟨b,rfl,m⟩:=n4 o l
     refine ⟨_,b,r,i,_,rfl,rfl,j,T.keys,m,k w _ H .refl R ?_⟩
     rcases T.val i with ⟨e,h⟩|⟨v,y,e,h,s⟩
     ·rw [e,h];exact p
     ·rw [e,h];exact s
  ·cases a
 ·cases a
theorem Ob {X:Cx}(A:X.A.units+1<V6):jQ X "dict.get" (Dg X.K):=by
 intro n s O H x M v L Q I G E h
 obtain ⟨a,b,i,k,z,rfl,rfl,e,p,o,q⟩:=h
 cases G
 obtain ⟨u,J,rfl,B,j⟩:=E.two
 obtain rfl:u=T6 b:=B
 obtain ⟨w,K,m,r,d⟩:=j7 I (.of e) p
 refine Zs ZU d.typeIs PySem.F.entry_dict_get (PySem.F.args_dict_get_3 _ _ _) (meetsH_dict_get_default (Wa (Ww X.prog X.w)) a b w J) ⟨mL A,k,_,nW I o,d,?_⟩
 refine ⟨(d9 i k).getD z,H,I.tok _,?_,q⟩
 have:=mK r k
 cases l:d9 i k with
 | none=>
  rw [l] at this
  cases c:(XM (bM i m) k).map (·.2) with
  | none=>exact j
  | some y=>rw [c] at this;exact this.elim
 | some N=>
  rw [l] at this
  cases c:(XM (bM i m) k).map (·.2) with
  | none=>rw [c] at this;exact this.elim
  | some y=>rw [c] at this;exact this
end L3
namespace L3
open PySem L2
section
variable {P:Ud}{w:Uv}{K:Type} [DecidableEq K] {knd:HeapKind P w K}{A:Ur}{E:Value->TC->Prop}{s:TC}{d a:Addr}{k:K}{xs:List (K×Addr×Value)}
end
noncomputable def lE:D->List D->Hm->Option (D×Hm)
 | .loc a,[],μ=>match μ[a]? with
  | some (.dT _)=>some (.non,μ.set a (.dT []))
  | _=>none
 | _,_,_=>none
noncomputable def Dh (K:Tv):V->List V->Hp->VK->Prop:=fun x vs H Q=>∃ a ps,x=.ref a/\vs=[]/\H a=some (aW a ps)/\eQ K H ps/\Q .non (aL H a (aW a []))
theorem Oc {K:Tv}:i9 K lE (Dh K):=by
 intro o H r x q d n v p Q R j c a k
 unfold lE at a
 split at a
 ·split at a
  ·rename_i l hc
   cases a
   cases c
   cases j with
   | loc b=>
    obtain ⟨m,e,T⟩:=hJ R hc
    obtain ⟨i,h⟩:=R.put (c:=.dT []) (o:=aW _ []) b e (.inr (.inr ⟨_,rfl⟩)) ⟨[],rfl,rfl,.nil,.nil⟩
    exact ⟨_,m,rfl,rfl,e,T.keys,k o _ _ i h .non⟩
  ·cases a
 ·cases a
theorem Od {P:Ud}{w:Uv}(d:Addr):MeetsIn P w (Builtin.«dict.clear» ⟨[.ref d],[]⟩) (fun _ R s=>∃ e b,RawD s.heap d e b/\e.size<=TZ /\
   ∀ i,(∃ z,i.get? d=some z/\z.ExactDict/\z.data=.dict #[] (b+1))->VT d s.heap i->R (.ok (.ret .none)) { s with heap:=i }):=
 .of_wp fun A R s ⟨e,b,g,j,h⟩=>by
  obtain ⟨o,c,hc,a⟩:=id g
  unfold Builtin.«dict.clear»
  refine Tx ?_
  unfold Zv
  refine Tx (Wc g.ty (TN (Tx (U2 c a (Tx ?_)))))
  unfold bearsInstanceDictMark
  refine Tx (wpAny_load c (TN (Tx (wpAny_updateDictKeys (hz:=j) c a ?_))))
  have new:∃ z,(s.heap.update d (a1Y fun _=>#[])).get? d=some z/\z.ExactDict/\z.data=.dict #[] (b+1):=
   ⟨_,VQ _ c (a0S (YA a _)),hc.mapDictKeys _,YA a _⟩
  split
  ·exact Tx (a1N (TN ⟨.none,rfl,h _ new (Wv ..)⟩))
  ·exact Tx (TN (TN ⟨.none,rfl,h _ new (Wv ..)⟩))
theorem Oe {X:Cx}:jQ X "dict.clear" (Dh X.K):=by
 intro j s K H x J v G Q I u r h
 obtain ⟨a,p,rfl,rfl,e,m,q⟩:=h
 cases u
 cases r
 obtain ⟨o,B,d,c,g,l⟩:=n5 I e m
 have E:d.size=p.length:=by
  have:=congrArg UJ l
  simpa using this
 refine Zs Zy g.ty PySem.F.entry_dict_clear (PySem.F.args_dict_clear_1 _) (Od a) ⟨d,c,g,by omega,fun A ⟨z,i,w,y⟩ b=>?_⟩
 refine ⟨.non,_,AV (t':=s.toks) I (by rw [e];exact We) b ⟨z,i⟩ (xA (ps:=[]) (ws:=[]) o (Vj _) .nil ⟨z,#[],c+1,i,w,y,rfl,⟨fun x n=>absurd n (by simp [bM]),by simp [bM]⟩⟩),rfl,q⟩
end L3
namespace L3
open PySem L2
section
variable {P:Ud}{w:Uv}{A:Ur}{E:Value->TC->Prop}{s:TC}
theorem Of {nm:String}{d:Addr}{c:Array U7}{u:Nat}{bs:List Addr}{Q:Array U7->TC->Prop}(g:RawD s.heap d c u)(p:c.toList.map (·.key)=bs.map T6)(I:∀ b∈bs,s.TypeIs (.ref b) "tuple")
  (nd:(c.toList.map (·.hash)).Nodup)(q:Q c s):Ua (Ul P w) A (YD nm d) Q E s:=by
 obtain ⟨z,v,J,y⟩:=id g
 unfold YD
 refine Tx (U2 v y (Tx ?_))
 rw [<- Array.forIn_toList]
 refine a2H _ (fun bK _ h=>h=s/\∀ e∈bK,e∈c.toList) _ (fun e bK b h ⟨i,l⟩=>?_) (fun b h ⟨i,_⟩=>?_) _ _ ⟨rfl,fun e j=>j⟩
 ·subst i
  have j:=l e (UP ..)
  have G:e.key∈bs.map T6:=by rw [<- p];exact TX.mpr ⟨e,j,rfl⟩
  obtain ⟨a,B,r⟩:=TX.mp G
  have quiet:∀ {Q:Bool->TC->Prop},Q false h->Ua (Ul P w) A (Zn e.key) Q E h:=fun {Q} q=>by
   rw [<- r]
   unfold Zn
   exact Tx (W4 (I a B) PySem.F.slot_tuple_eq.lookup (TN q))
  refine Tx (quiet ?_)
  have one:((c.filter (·.hash == e.hash)).size>1)=False:=by
   refine eq_false fun z=>?_
   have K:1<(c.toList.filter fun x=>x.hash == e.hash).length:=by
    have n:(c.filter (·.hash == e.hash)).toList=c.toList.filter fun x=>x.hash == e.hash:=Array.toList_filter ..
    have o:=congrArg UJ n
    simp only [WL] at o
    omega
   have m:(c.toList.filter fun x=>x.hash == e.hash).length=(c.toList.map (·.hash)).count e.hash:=by
    rw [List.count,List.countP_map,<- List.countP_eq_length_filter];rfl
   have:=List.nodup_iff_count.mp nd e.hash
   omega
  simp only [Wj,if_true,one,if_false]
  exact TN ⟨rfl,fun x H=>l x (UB _ H)⟩
 ·subst i;exact TN q
end
theorem Di:∀ (ps:bY)(ws:List Value),ps.length=ws.length->(XG pH ps ws).map (·.hash)=ps.map fun p=>Tb.hashT p.1
 | [],_,_=>by simp
 | p::ps,[],h=>by cases h
 | p::ps,u::ws,h=>by
  rw [UC,TM,TM,Di ps ws (by simpa using h)]
  rfl
theorem Og {c:Array U7}{bs:List Addr}(d:bs≠[])(a:c.toList.map (·.key)=bs.map T6):(c.all fun e=>(keyPart e.key).isSome)=false:=by
 rw [<- Array.all_toList]
 generalize c.toList=l at a
 cases bs with
 | nil=>exact absurd rfl d
 | cons b bs=>
  cases l with
  | nil=>cases a
  | cons e l=>
   rw [TM,TM,WI] at a
   rw [Uy,a.1]
   rfl
theorem Oh {b:Array U7}{bs:List Addr}(a:bs≠[])(d:b.toList.map (·.key)=bs.map T6):b.isEmpty=false:=by
 have c:=congrArg UJ d
 simp only [TF,WL] at c
 have:bs.length≠0:=fun z=>a (X9.mp z)
 rw [Array.isEmpty]
 exact decide_eq_false (by omega)
noncomputable def Dj (K:Tv):List V->Hp->VK->Prop:=fun xs H Q=>∃ a ps,xs=[V.ref a]/\H a=some (aW a ps)/\eQ K H ps/\(ps.map fun p=>Tb.hashT p.1).Nodup/\∀ l,H l=none->Q (.ref l) (aL H l (aW l ps))
section
variable {X:Cx}
theorem Dk:CallR X (.type "dict") (Dj X.K):=by
 intro a3F s σ H xs us Q I r h
 obtain ⟨a,d,rfl,ha,hk,nd,q⟩:=h
 obtain ⟨u,rfl,ru⟩:=iX r
 cases ru
 have hn:H s.heap.objs.size=none:=I.hok.fresh (TR _)
 obtain ⟨⟨n,T,lo,x,o,c,y,i,w,E,L,h5⟩,_⟩:=(show ObjOk X.prog X.w H s.heap a (aW a d) from I.hok a _ ha)
 obtain ⟨_,_,es',ep',g,G⟩:=n5 I ha hk
 obtain ⟨z,U,g2,Y⟩:=id g
 rw [i] at U
 cases U
 rw [E] at Y
 cases Y
 have R:c.size=d.length:=by
  have:=congrArg UJ G
  simpa using this
 have hnd:(c.toList.map (·.hash)).Nodup:=by
  have:c.toList.map (·.hash)=d.map fun p=>Tb.hashT p.1:=by rw [L];exact Di d n (by rw [<- T.length,TF])
  rw [this];exact nd
 refine a3D (Q₁:=fun A j=>A=.ref s.heap.objs.size/\j = { s with heap:=s.heap.push { cls:=.type "dict",data:=.dict #[] } }) F.kt_called_dict (F.kt_typeCall_dict_1 _) F.entry_dict_init (kt_code_dict_new _ ⟨rfl,rfl⟩) ?_
 rintro A j ⟨rfl,rfl⟩
 have v:({ s with heap:=s.heap.push { cls:=.type "dict",data:=.dict #[] } }:TC).heap.get? s.heap.objs.size=some { cls:=.type "dict",data:=.dict #[] }:=Ub _ rfl
 have ty:({ s with heap:=s.heap.push { cls:=.type "dict",data:=.dict #[] } }:TC).TypeIs (.ref s.heap.objs.size) "dict":=⟨_,v,rfl⟩
 have ga:RawD (s.heap.push { cls:=.type "dict",data:=.dict #[] }) a c y:=g.stay fun o e=>TL _ e
 refine ⟨ty,F.args_dict_init_2 _ _,?_⟩
 unfold Builtin.«dict.__init__»
 refine Tx ?_
 unfold a3n
 refine Tx (Wc ty (TN ?_))
 show Ua _ _ (Y7 "dict.__init__" s.heap.objs.size (.ref a) [] .none) _ _ _
 unfold Y7
 refine Tx (wpAny_typeOf (T:="dict") ⟨_,TL _ i,w.1⟩ ?_)
 rw [if_neg (by decide)]
 refine Tx ?_
 unfold a3r a3o
 have B:({ s with heap:=s.heap.push { cls:=.type "dict",data:=.dict #[] } }:TC).TypeIs (.ref a) "dict":=⟨_,TL _ i,w.1⟩
 refine Tx (Tx (WQ B isSubtype_dict_dict ?_))
 simp only [Vv,TY,if_false]
 refine Tx (W4 B F.slot_dict_iter.lookup (TN ?_))
 simp only [beq_self_eq_true,if_true]
 refine Tx (TN ?_)
 unfold a3q
 have M:(s.heap.objs.size == a)=false:=beq_eq_false_iff_ne.mpr (UG (Ui (T3 i)))
 rw [if_neg (by rw [M];exact Ux)]
 unfold V0
 rw [if_neg (by rw [lo];exact Ux)]
 have l:=TL { cls:=.type "dict",data:=.dict #[] } i
 refine Tx (TN (Tx (U2 l E ?_)))
 have big:(s.heap.objs.size == Ve)=false:=beq_eq_false_iff_ne.mpr (UG (Ui I.big))
 by_cases m:d=[]
 ·have z:c = #[]:=Array.eq_empty_of_size_eq_zero (by rw [R,m];rfl)
  subst z
  have fe:(decide ((#[]:Array U7).size<=8)&&(#[]:Array U7).all fun e=>(keyPart e.key).isSome)=true:=by simp
  simp only [fe,Vv,TY,if_false]
  refine Tx (WA l E ?_)
  refine Tx (U2 l E ?_)
  have fr:∀ g:Nat->PUnit->a1x (ForInStep PUnit),(forIn [:(#[]:Array U7).size] a2M g:a1x PUnit)=pure a2M:=fun g=>by simp
  rw [fr]
  refine Tx (TN (TN ?_))
  refine Tx (TN (TN ?_))
  refine ⟨rfl,.ref s.heap.objs.size,_,I.laid (t':=s.toks) (a:=s.heap.objs.size) (o:=aW s.heap.objs.size d) (fun b u e=>TL _ e) (TR _) ⟨⟨n,T,big,x,_,#[],0,v,⟨rfl,rfl,rfl⟩,rfl,L,h5⟩,⟨_,v⟩,?_⟩,rfl,q _ hn⟩
  rintro k1 k2 ⟨n,r,O,x,o,c,y,i,w⟩ N
  exact ⟨n,r,O,x,o,c,y,N o i,w⟩
 have K:=Og (bs:=d.map (·.2.1)) (fun z=>m (YC.mp z)) (by rw [G,Uh];rfl)
 simp only [K,a2d,Wj,if_true]
 refine Tx (U2 v rfl ?_)
 simp only [Array.isEmpty_empty,if_true]
 have hes:c.size<=TZ:=by omega
 have J:=Oh (bs:=d.map (·.2.1)) (fun z=>m (YC.mp z)) (by rw [G,Uh];rfl)
 refine Tx (Of (bs:=d.map (·.2.1)) ga (by rw [G,Uh];rfl) (fun b hb=>?_) hnd ?_)
 ·obtain ⟨p,hp,rfl⟩:=TX.mp hb
  obtain ⟨its,rx,⟨ot,e1,e2,_⟩,_⟩:=I.tuple (hk p hp)
  exact ⟨ot,TL _ e1,e2⟩
 simp only [J,Wj,if_true]
 refine Tx (wpAny_updateDictKeysTo v rfl (TN ?_) (by omega))
 have Z:=VQ (a1Y fun _=>c) v (a0S (YA (o:={ cls:=.type "dict",data:=.dict #[] }) rfl _))
 refine Tx (TN (TN ?_))
 refine ⟨rfl,.ref s.heap.objs.size,_,I.laid (t':=s.toks) (a:=s.heap.objs.size) (o:=aW s.heap.objs.size d) (fun b u e=>?_) (TR _) ⟨⟨n,T,big,x,_,c,1,Z,?_,rfl,L,h5⟩,⟨_,Z⟩,?_⟩,rfl,q _ hn⟩
 ·rw [Vx _ _ (UG (Ui (T3 e)))]
  exact TL _ e
 ·exact a2N ⟨rfl,rfl,rfl⟩ _
 ·rintro k1 k2 ⟨n,r,O,x,o,c,y,i,w⟩ N
  exact ⟨n,r,O,x,o,c,y,N o i,w⟩
end
end L3
namespace L3
open PySem L2
noncomputable abbrev qE:=List (List Int×Addr×Value)
inductive Hits (A:Ur)(s:TC)(ys:qE):qE->Bool->Prop
 | nil:Hits A s ys [] true
 | miss {x:List Int×Addr×Value}{r:qE}:XM ys x.1=none->Hits A s ys (x::r) false
 | hit {x:List Int×Addr×Value}{p:Addr×Value}{r:qE}{e b:Bool}:XM ys x.1=some p->a0F A s x.2.2 p.2 e->Hits A s ys r b->Hits A s ys (x::r) (e&&b)
section
variable {P:Ud}{w:Uv}{A:Ur}{E:Value->TC->Prop}{s:TC}{a b:Addr}{xs ys:qE}{r:Bool}
theorem Dl {nm:String}{Q:Bool->TC->Prop}(hu:(Wa (Ww P w)).room A)(la:(a == Ve)=false)(lb:(b == Ve)=false)(da:s.heap.DictOfH (Wa (Ww P w)) a xs)(db:s.heap.DictOfH (Wa (Ww P w)) b ys)
  (o:xs.length=ys.length->Hits A s ys xs r)(q:Q (xs.length == ys.length&&r) s):Ua (Ul P w) A (Zb nm a b) Q E s:=by
 obtain ⟨oa,d,ep,v,_,B,T,L,na⟩:=da
 obtain ⟨ob,fs,fp,H,_,R,G,M,Y⟩:=db
 have Z:=a2X T
 have sb:=a2X G
 unfold Zb V0
 rw [if_neg (by rw [la];exact Ux),if_neg (by rw [lb];exact Ux)]
 refine Tx (TN (Tx (TN (Tx (U2 v B ?_)))))
 dsimp only
 refine Tx (U2 H R ?_)
 by_cases n:d.size=fs.size
 ·have X:xs.length=ys.length:=by omega
  have N:Q r s:=by simpa [X] using q
  have hh:=o X
  rw [if_neg (by rw [n];simp)]
  refine Tx (WA v B (Tx ?_))
  rw [a1X]
  simp only [a1W,Nat.sub_zero,Nat.add_sub_cancel,Nat.div_one]
  refine a2H _ (fun bK c O=>O=s/\c=(none,())/\∃ i,bK=X2 i (d.size - i)/\i<=d.size/\Hits A s ys (xs.drop i) r) _ ?_ ?_ _ _ ⟨rfl,rfl,0,by simp,Vj _,hh⟩
  ·rintro x bK c O ⟨rfl,rfl,i,m,hi,l⟩
   have J:i<d.size:=Nat.lt_of_not_le fun z=>by rw [Nat.sub_eq_zero_of_le z] at m;cases m
   have e0:d.size - i=(d.size - (i+1))+1:=by omega
   rw [e0,X8] at m
   injection m with hx hrest
   subst hx
   have h:x<xs.length:=by omega
   rw [ZQ h] at l
   have ex:xs[x]? = some xs[x]:=Uw h
   refine Tx (U2 v B ?_)
   rw [entry_at T x,ex,Us]
   dsimp only
   have hk:=L xs[x] (a1G h)
   refine Tx (VW (Tx (wpAny_dictFind_heap (k:=xs[x].1) (a:=xs[x].2.1) hu hk H R G M Y (fun K=>?_) fun j p U=>?_)))
   ·have u:=atKey_none_of_get K
    have er:r=false:=by
     cases l with
     | miss _=>rfl
     | hit e _ _=>rw [u] at e;cases e
    subst er
    refine TN ?_
    simp only [Wj,if_true]
    exact TN (TN N)
   ·have u:=atKey_of_get Y U
    refine Tx (U2 H R ?_)
    rw [entry_at G j,U,Us]
    dsimp only
    generalize hxs:xs[x]=y at l u
    cases l with
    | miss e=>rw [u] at e;cases e
    | @hit _ p' _ e' b' e h2 h3=>
     rw [u] at e
     cases e
     refine VW (h2 P w _ _ ?_)
     cases e' with
     | false=>
      simp only [Wj,if_true]
      exact TN (TN N)
     | true=>
      simp only [Vv,TY,if_false]
      refine Tx (WA v B ?_)
      rw [if_neg (by simp)]
      refine TN ⟨rfl,rfl,x+1,hrest,J,?_⟩
      simpa using h3
  ·rintro c O ⟨rfl,rfl,i,m,hi,l⟩
   have I:i=d.size:=by
    rcases Wr i d.size with z|z
    ·rw [show d.size - i=(d.size - (i+1))+1 by omega,X8] at m;cases m
    ·omega
   refine TN ?_
   rw [I,Z,List.drop_length] at l
   cases l
   exact N
 ·rw [if_pos (by simpa using n)]
  have:(xs.length == ys.length)=false:=by rw [<- Z,<- sb];simpa using n
  rw [this,a2c] at q
  exact Tx (wpAny_rule (TN q))
theorem Oi {Q:Value->TC->Prop}(h:(Wa (Ww P w)).room A.in1)(i:A.units<V6)(j:(a == Ve)=false)(l:(b == Ve)=false)(d:s.heap.DictOfH (Wa (Ww P w)) a xs)(e:s.heap.DictOfH (Wa (Ww P w)) b ys)
  (c:xs.length=ys.length->Hits A.in1 s ys xs r)(q:Q (.bool (xs.length == ys.length&&r)) s):Ua (Ul P w) A (UY .Eq (.ref a) (.ref b)) Q E s:=by
 refine Z4 (op:=.Eq) d.typeIs e.typeIs Z0 (WR Z0 d.typeIs PySem.F.entry_dict_eq ?_ (PySem.F.args_dict_eq_2 _ _)) i
 show Ua _ _ (Ws "__eq__" ⟨[.ref a,.ref b],[]⟩ >>= _) _ _ s
 refine Tx ?_
 unfold Ws
 refine Tx (Wc d.typeIs (TN (Tx (WQ (T:="dict") e.typeIs ZT ?_))))
 simp only [Vv,TY,if_false]
 exact Tx (TN (Tx (TN (Tx (Dl h j l d e c (TN ⟨_,rfl,(fun x=>nomatch x),by simpa using q⟩))))))
theorem Oj {Q:Value->TC->Prop}(h:(Wa (Ww P w)).room A.in1)(i:A.units<V6)(j:(a == Ve)=false)(l:(b == Ve)=false)(d:s.heap.DictOfH (Wa (Ww P w)) a xs)(e:s.heap.DictOfH (Wa (Ww P w)) b ys)
  (c:xs.length=ys.length->Hits A.in1 s ys xs r)(q:Q (.bool (!(xs.length == ys.length&&r))) s):Ua (Ul P w) A (UY .NotEq (.ref a) (.ref b)) Q E s:=by
 refine Z4 (op:=.NotEq) d.typeIs e.typeIs ZZ (WR ZZ d.typeIs PySem.F.entry_dict_ne ?_ (PySem.F.args_dict_ne_2 _ _)) i
 show Ua _ _ (Ws "__ne__" ⟨[.ref a,.ref b],[]⟩ >>= _) _ _ s
 refine Tx ?_
 unfold Ws
 refine Tx (Wc d.typeIs (TN (Tx (WQ (T:="dict") e.typeIs ZT ?_))))
 simp only [Vv,TY,if_false]
 exact Tx (TN (Tx (TN (Tx (Dl h j l d e c (TN ⟨_,rfl,(fun x=>nomatch x),by simpa using q⟩))))))
end
noncomputable def hV (c:Hm)(a:List (List Int×D)):List (List Int×D)->Option Bool
 | []=>some true
 | (k,d)::r=>match b7 a k with
  | none=>some false
  | some y=>(cR 8 c d y).bind fun e=>(hV c a r).map fun b=>e&&b
noncomputable def gI (ne:Bool):D->D->Hm->Option (D×Hm)
 | .loc a,.loc b,μ=>match μ[a]?,μ[b]? with
  | some (.dT kvs),some (.dT kws)=>if kvs.length=kws.length then (hV μ kws kvs).map fun e=>(.bl (if ne then !e else e),μ) else some (.bl ne,μ)
  | _,_=>none
 | _,_,_=>none
noncomputable def Dm (K:Tv)(ne:Bool):R2:=fun x y H Q=>∃ π h a b ps qs c d e,Rp K π H h/\x=.ref (π a)/\y=.ref (π b)/\H (π a)=some (aW (π a) ps)/\H (π b)=some (aW (π b) qs)/\IsTs K π h.length H ps c/\IsTs K π h.length H qs d /\
 (c.length=d.length->hV h d c=some e)/\Q (.bl (if ne then !(c.length == d.length&&e) else (c.length == d.length&&e))) H
theorem sY {K:Tv}{ne:Bool}:cQ K (gI ne) (Dm K ne):=by
 intro i H q x y d w A B Q R u v a k
 unfold gI at a
 split at a
 ·split at a
  ·rename_i b c hc j
   cases u
   cases v
   obtain ⟨o,m,T⟩:=hJ R hc
   obtain ⟨p,n,l⟩:=hJ R j
   split at a
   ·rename_i h
    obtain ⟨e,s,a⟩:=Tz.mp a
    cases a
    refine ⟨i,q,_,_,o,p,b,c,e,R,rfl,rfl,m,n,T,l,fun _=>s,?_⟩
    rw [h,beq_self_eq_true,Bool.true_and]
    exact k i _ H .refl R (.bl _)
   ·rename_i h
    cases a
    refine ⟨i,q,_,_,o,p,b,c,true,R,rfl,rfl,m,n,T,l,fun z=>absurd z h,?_⟩
    have:(b.length == c.length)=false:=by simpa using h
    rw [this]
    have r:(if ne=true then !(false&&true) else (false&&true))=ne:=by cases ne<;>rfl
    rw [r]
    exact k i _ H .refl R (.bl _)
  ·cases a
 ·cases a
theorem Dn {X:Cx}{a3F:List (Addr×Obj)}{σ:St}{H:Hp}{s:TC}{π:Nat->Addr}{r:Hm}{A:Ur}(I:Inv X a3F σ H s)(R:Rp X.K π H r)(B:A.units+8<V6){qs:bY}{l:List (List Int×D)}{c:List Value}(w:IsTs X.K π r.length H qs l)(E:Vals (qs.map (·.2.2)) c) :
  ∀ {ps:bY}{j:List (List Int×D)}{ws:List Value}{e:Bool},IsTs X.K π r.length H ps j->Vals (ps.map (·.2.2)) ws->hV r l j=some e->Hits A s (bM qs c) (bM ps ws) e
 | _,_,_,_,.nil,.nil,h=>by cases h;exact .nil
 | _,_,_,_,.cons (a:=p) (b:=q) h t,.cons (b:=u) ru tu,i=>by
  obtain ⟨k,d⟩:=q
  have z:p.1=k:=h.1
  have a:=mK E p.1
  unfold bM
  rw [UC]
  simp only [hV] at i
  split at i
  ·rename_i o
   cases i
   refine .miss ?_
   rcases w.val p.1 with ⟨m,b⟩|⟨v,J,m,b,G⟩
   ·rw [m] at a
    cases n:XM (bM qs c) p.1 with
    | none=>exact n
    | some y=>rw [n] at a;exact a.elim
   ·rw [z] at b;rw [o] at b;cases b
  ·rename_i y o
   obtain ⟨M,K,i⟩:=Tu.mp i
   obtain ⟨L,n,i⟩:=Tz.mp i
   subst i
   rcases w.val p.1 with ⟨m,b⟩|⟨v,J,m,b,G⟩
   ·rw [z] at b;rw [o] at b;cases b
   ·rw [z] at b;rw [o] at b
    cases b
    rw [m] at a
    cases x:XM (bM qs c) p.1 with
    | none=>rw [x] at a;exact a.elim
    | some N=>
     rw [x] at a
     exact .hit (x:=(p.1,p.2.1,u)) x (vY I R 8 B ru a h.2.2 G K) (Dn I R B w E t tu n)
section
variable {X:Cx}{a b:Expr}{ma mb:ME}{pos:Vt}{k:Nat}
theorem sZ (ne:Bool)(hu:X.A.units+16<V6):OpR X (UY (if ne then .NotEq else .Eq)) (Dm X.K ne):=by
 intro U s σ H x y v u Q I rx ry h
 obtain ⟨O,μ,i,j,o,p,m,n,e,R,rfl,rfl,Y,Z,T,l,hh,q⟩:=h
 obtain rfl:v=T6 (O i):=rx
 obtain rfl:u=T6 (O j):=ry
 obtain ⟨J,hl,w,r,E⟩:=j7 I (.of Y) T.keys
 obtain ⟨K,hl',d,N,G⟩:=j7 I (.of Z) l.keys
 have L:(bM o w).length=m.length:=by
  have A:=congrArg UJ (nZ r)
  have B:=congrArg UJ T.to.1
  simp only [TF] at A B
  omega
 have M:(bM p d).length=n.length:=by
  have A:=congrArg UJ (nZ N)
  have B:=congrArg UJ l.to.1
  simp only [TF] at A B
  omega
 have c:(bM o w).length=(bM p d).length->Hits X.A.in1 s (bM p d) (bM o w) e:=fun z=>Dn I R (by rw [lY];omega) l N T r (hh (by omega))
 cases ne with
 | false=>exact Oi (mL (by omega)) (by omega) J K E G c ⟨.bl _,H,I,rfl,by rw [L,M];exact q⟩
 | true=>exact Oj (mL (by omega)) (by omega) J K E G c ⟨.bl _,H,I,rfl,by rw [L,M];exact q⟩
theorem Ol (e:Room k X.A)(c:QE X a ma)(d:QE X b mb):QE X (.Compare a [.Eq] [b] pos) (aC (gI false) ma mb):=⟨eC (sZ false (by have:=e.un;omega)) sY c.h d.h (cV _)⟩
theorem Om (e:Room k X.A)(c:QE X a ma)(d:QE X b mb):QE X (.Compare a [.NotEq] [b] pos) (aC (gI true) ma mb):=⟨eC (sZ true (by have:=e.un;omega)) sY c.h d.h (cV _)⟩
theorem Oo (e:Room k X.A)(c:QE X a ma)(d:QE X b mb):QT X (.Compare a [.Eq] [b] pos) (aR (aC (gI false) ma mb)):=⟨eD (sZ false (by have:=e.un;omega)) sY c.h d.h (cV _)⟩
theorem Oq (e:Room k X.A)(c:QE X a ma)(d:QE X b mb):QT X (.Compare a [.NotEq] [b] pos) (aR (aC (gI true) ma mb)):=⟨eD (sZ true (by have:=e.un;omega)) sY c.h d.h (cV _)⟩
end
end L3
namespace L3
open PySem L2
section
variable {P:Ud}{w:Uv}{A:Ur}{E:Value->TC->Prop}{s:TC}{d it:Addr}{i ep:Nat}{es:Array U7}{ok ov:Value}
theorem Ot {v:Addr}{Q:Value->TC->Prop}(a:s.heap.IsItemsView v d)(g:RawD s.heap d es ep)
  (q:Q (.ref s.heap.objs.size) { s with heap:=s.heap.push { cls:=.type "dict_itemiterator",data:=.fields #[.none,.bool false,.ref d,.int 0 0,.int es.size 0,.int ep 0,.none,.none] } }):Ua (Ul P w) A (ZF (.ref v)) Q E s:=by
 obtain ⟨m,e,l,h⟩:=id a
 obtain ⟨z,b,j,c⟩:=id g
 refine a2r a.typeIs F.slot_dict_items_iter (WR F.slot_dict_items_iter a.typeIs F.entry_dict_items_iter ?_ (F.args_dict_items_iter_1 _))
 unfold Builtin.«dict_items.__iter__»
 refine Tx (TN (Tx ?_))
 unfold a1L
 refine Tx (XI e h (x:=.ref d) rfl (TN (Tx ?_)))
 unfold a1K
 refine Tx (U2 b c (Tx (WA b c ?_)))
 simp only [show WO "dict_itemiterator" = true by decide,if_true]
 refine VP (TN ⟨_,rfl,"dict_itemiterator",_,⟨_,Ub _ rfl,rfl⟩,F.slot_dict_itemiterator_next.lookup,?_⟩) (by simp only [sizeOk,XX,Up,TV,Uk,List.length_nil,UW];omega)
 simpa [Wq,XX] using q
theorem Dp {Q:Option Value->TC->Prop}(hh:A.handled=none)(j:Zg s.heap it d i es.size ep ok ov)(g:RawD s.heap d es ep)
  (Z:∀ e l,es[i]? = some e->IsItemIterOut l it d (i+1) es.size ep e.key e.val s.heap.objs.size->l.get? s.heap.objs.size=some { cls:=.type "tuple",data:=.seq #[e.key,e.val] }->
   (∀ b o,b≠it->s.heap.get? b=some o->l.get? b=some o)->Q (some (.ref s.heap.objs.size)) { s with heap:=l })
  (q2:es[i]? = none->∀ l,Zh it s.heap l->Q none { s with heap:=l }):Ua (Ul P w) A (ZE (.ref it)) Q E s:=by
 obtain ⟨p,v,u,L,G⟩:=s
 dsimp only at j g Z q2
 obtain ⟨z,M,g2,N⟩:=id g
 have ty:∀ {h:UU}{i:Nat}{ok ov:Value},Zg h it d i es.size ep ok ov->Shared.TypeIs ⟨h,v,u,L,G⟩ (.ref it) "dict_itemiterator":=fun j=>⟨_,j,rfl⟩
 unfold ZE
 refine Tx (wpAny_attempt (a0M (name:=Va "__next__") (ty j) F.slot_dict_itemiterator_next (WR F.slot_dict_itemiterator_next (ty j) F.entry_dict_itemiterator_next ?_ (F.args_dict_itemiterator_next_1 _))))
 refine Tx (TN (Tx (Tx (Tx (Xw (ty j) (TN (Tx (a3u j rfl ?_))))))))
 simp only [show WO "dict_itemiterator" = true by decide,if_true]
 show Ua _ _ (if (T6 d == U1)=true then _ else _) _ _ _
 rw [if_neg (show ¬ (T6 d == U1)=true from fun x=>Ux x)]
 refine Tx (TN (Tx (U2 M N ?_)))
 rw [if_neg (fun x=>by simp at x)]
 refine Tx (TN (Tx (WA M N ?_)))
 rw [if_neg (fun x=>by simp at x)]
 refine TN ?_
 simp only [if_neg (show ¬ ((i:Int)<0) by omega),a1J]
 cases U:es[i]? with
 | some e=>
  refine Tx (Tx (Xw (ty j) (TN (Tx (Yy (ty j) ?_)))))
  show Ua _ _ (a0g (.ref it) 3 (Wq ((i:Int)+1)) >>= _) _ _ _
  refine Tx (W9 j (by simp) fun a m r=>?_)
  replace r:VT it p a:=r
  replace m:Zg a it d (i+1) es.size ep ok ov:=m
  refine Tx (VW (Tx (Yy (ty m) (Tx (Yy (ty m) ?_)))))
  show Ua _ _ (X3 (.ref it) 6 e.key e.val) _ _ ⟨a,v,u,L,G⟩
  unfold X3
  refine Tx (wpAny_newTuple ?_)
  have q:a.objs.size=p.objs.size:=r.1
  have B:it<p.objs.size:=T3 j
  have n:Zg (a.push { cls:=.type "tuple",data:=.seq #[e.key,e.val] }) it d (i+1) es.size ep ok ov:=TL _ m
  have t2:(a.push { cls:=.type "tuple",data:=.seq #[e.key,e.val] }).get? p.objs.size=some { cls:=.type "tuple",data:=.seq #[e.key,e.val] }:=by
   rw [<- q]
   exact Ub _ rfl
  have X:∀ b o,b≠it->p.get? b=some o->(a.push { cls:=.type "tuple",data:=.seq #[e.key,e.val] }).get? b=some o:=fun b o c x=>TL _ (r.extBut b o c x)
  show Ua _ _ (XW (.ref it) >>= _) _ _ ⟨a.push { cls:=.type "tuple",data:=.seq #[e.key,e.val] },v,u,L,G⟩
  rw [q]
  generalize a.push { cls:=.type "tuple",data:=.seq #[e.key,e.val] } = h2 at n t2 X
  refine Tx ?_
  unfold XW
  refine Tx (XI n rfl (x:=.none) rfl (TN ?_))
  simp only [if_true]
  refine Tx (XI n rfl (x:=ok) rfl (Tx (XI n rfl (x:=ov) rfl (Tx (W9 n (by simp) fun O e3 H=>?_)))))
  replace H:VT it h2 O:=H
  refine Tx (W9 e3 (by simp) fun R e4 I=>?_)
  replace I:VT it O R:=I
  refine Tx (W9 e4 (by simp) fun T e5 J=>?_)
  replace J:VT it R T:=J
  refine Tx (W9 e5 (by simp) fun y e6 K=>?_)
  replace K:VT it T y:=K
  have Y:∀ b o,b≠it->h2.get? b=some o->y.get? b=some o:=fun b o c x=>K.extBut b o c (J.extBut b o c (I.extBut b o c (H.extBut b o c x)))
  exact Tx (a1N (TN (TN ⟨_,rfl,TN (Z e y U e6 (Y _ _ (Xf B) t2) fun b o c x=>Y b o c (X b o c x))⟩)))
 | none=>
  refine Tx (Tx (Xw (ty j) (TN ?_)))
  show Ua _ _ (a0g (.ref it) 2 .none >>= _) _ _ _
  refine Tx (Xl j rfl (by simp) ?_)
  show Ua _ _ (a3y (.type "StopIteration") [] >>= _) _ _ _
  simp only [a3y,newTuple]
  refine Tx (Tx (VP ?_ (by size_fits)))
  refine Tx (m:=YN _ _) (wpAny_of_eq (a:=U1) (by first|rfl|(simp only [YN];rfl)) (VP ?_ (by size_fits)))
  simp only [raiseNew]
  refine Tx (wpAny_handled ?_)
  rw [show A.in1.handled=none from hh]
  refine Tx (TN (wpAny_throw ?thrown))
  case thrown=>exact Tx (WQ (T:="StopIteration") (b:=true) ⟨_,Ub _ rfl,rfl⟩ a3B (TN (q2 U _ (((Wv ..).extBut.push _).push _))))
end
noncomputable def xI (d:Addr)(ob:Obj)(ps:bY):It:=⟨fun i H=>H d=some (.frz ob (aW d ps))/\i<ps.length,fun i H x H'=>∃ t p,x=.ref t/\H t=none/\ps[i]? = some p/\H'=aL H t (.tup [.ref p.2.1,p.2.2]),fun i H=>H d=some (.frz ob (aW d ps))/\ps.length<=i⟩
theorem Ou {P:Ud}{w:Uv}{K:Tv}{el:List Expr}{kx:Nat}{pt:Vt}{d j:Addr}{ob:Obj}{ps:bY}{B:Array U7}{ep:Nat}(hd:ob.data=.dict B ep):Turn Qc P w K (.Tuple el kx pt) (xI d ob ps) [j] j (fun i h=>∃ ok ov,Zg h j d i B.size ep ok ov) where
 mem:=by simp
 obj:=fun i h ⟨ok,ov,st⟩ b n=>by
  have e:b=j:=by simpa using n
  subst e
  exact ⟨_,st,fun v z=>by
   have z':T7 _=Z3 v:=z
   cases z'⟩
 keep:=fun i h O ⟨ok,ov,st⟩ k=>⟨ok,ov,k j (by simp) _ st⟩
 item:=by
  intro X T hw R hc i L s σ H E I G ⟨ok,ov,st⟩ Y
  subst T hw R
  obtain ⟨m,r⟩:=Y
  obtain ⟨lo,hl,N,M,g,a,J⟩:=mM I m
  rw [hd] at a
  cases a
  obtain ⟨_,_,es2,ep2,_,q,he⟩:=NY I m
  rw [hd] at q
  cases q
  have hs:B.size=ps.length:=by
   have:=congrArg UJ J
   simpa using this
  refine Dp (I.ok.hd hc) st g (fun e O l a1 a2 a3=>⟨_,rfl,wpAny_letOwnedTupleGo_items a1 fun h2 b1 y=>?_⟩) fun hn=>by simp at hn;omega
  have Z:ps[i]? = some ps[i]:=Uw r
  have ek:e.key=.ref (ps[i]).2.1:=by
   have:=congrArg (·[i]?) J
   simp only [Um,V7,l,Z,Us] at this
   exact T5 this
  obtain ⟨u,u1,u2⟩:=he.get (i:=i) (x:=ps[i].2.2) (by rw [Um,Z];rfl)
  rw [Um,V7,l] at u1
  cases u1
  have x:j<s.heap.objs.size:=T3 st
  have ht2:h2.get? s.heap.objs.size=some { cls:=.type "tuple",data:=.seq #[e.key,e.val] }:=(y.2 _ (Xf x)).trans a2
  have U:H s.heap.objs.size=none:=I.hok.fresh (TR _)
  refine ⟨.ref s.heap.objs.size,aL H s.heap.objs.size (.tup [.ref (ps[i]).2.1,(ps[i]).2.2]),?_,rfl,⟨_,ps[i],rfl,U,Z,rfl⟩,⟨_,_,b1⟩,fun c n=>?_⟩
  ·refine CO (s:=s) (h':=h2) (t':=s.toks) (ch:=[j]) I (fun c oc n ec=>?_) G (TR _) ?_
   ·have p:c≠j:=by simpa using n
    exact (y.2 c p).trans (a3 c oc p ec)
   ·exact ⟨by show (2:Nat)<=TZ;decide,[e.key,e.val],.cons ek (.cons u2 .nil),_,ht2,rfl,0,rfl,rfl⟩
  ·rw [bC]
   ·exact (G c n).1
   ·have e:c=j:=by simpa using n
    rw [e]
    exact Ui x
 done:=by
  intro X T hw R hc i L s σ H E I G ⟨ok,ov,st⟩ Y
  subst T hw R
  obtain ⟨m,r⟩:=Y
  obtain ⟨lo,hl,N,M,g,a,J⟩:=mM I m
  rw [hd] at a
  cases a
  have hs:B.size=ps.length:=by
   have:=congrArg UJ J
   simpa using this
  obtain ⟨f0,f1,f2,f3,f4,f5⟩:=G j (by simp)
  exact Dp (I.ok.hd hc) st g (fun e O l=>by
   have:=(Vu.mp l).1
   omega) fun _ O eb=>⟨rfl,I.turned (t':=s.toks) (fun b o n e=>eb b o n e) f0 f1 f3 f4 f5⟩
 self:=fun A i s Q E ⟨ok,ov,st⟩ h=>PySem.W.kcp_self st h
theorem Ov {X:Cx}{l:Expr}{G:List Expr}{L:Nat}{pt:Vt}{M:TE}{a c:Vt}(K:PE X l M)(j:Wl l "items" X.env (eval l X.env)=eval l X.env) (m:(a.endLine == c.line)=true) :
  PI X (.Tuple G L pt) (.Call (.Attribute l "items" a) [] [] c) (fun r H R=>M r H fun v n=>∃ d A B,v=.ref d/\n d=some (.frz A (aW d B))/\R (xI d A B) n):=by
 intro i s r H R I h
 refine a0N j m (aN (K i s r H _ I h) fun v p ⟨y,n,E,r1,q1⟩=>?_)
 obtain ⟨d,A,B,e,J,q⟩:=q1
 subst e
 obtain rfl:v=T6 d:=r1
 obtain ⟨lo,K,T,O,g,hd,he⟩:=mM E J
 refine ⟨"dict","dict.items",X1,Zx,PySem.F.type_dict_items,g.ty,fun b N=>?_,W3 rfl (a0t ?_)⟩
 ·cases N
  obtain ⟨z,Y,w,_⟩:=g
  exact ⟨z,Y,w.2.1⟩
 refine Zs Zx g.ty PySem.F.entry_dict_items (PySem.F.args_dict_items_1 _) (NW d lo) ⟨⟨T,O,g⟩,?_⟩
 have u:Inv X i r n { p with heap:=p.heap.push { cls:=.type "dict_items",data:=.fields #[.ref d] } }:=E.kept (t':=p.toks) fun b o e=>TL _ e
 obtain ⟨lo2,hl2,U,Q,w,x,he2⟩:=mM u J
 show Ua (Ul X.prog X.w) X.A (ZF (.ref p.heap.objs.size)) (Au X i r (.Tuple G L pt) R) X.xe _
 refine Ot ⟨_,Ub _ rfl,rfl,rfl⟩ w ⟨_,[_],_,_,n,rfl,u.kept (t':=p.toks) fun b o e=>TL _ e,Ou x,⟨_,_,Ub _ rfl⟩,fun b Z=>?_,q⟩
 have e:=UE.mp Z
 subst e
 exact u.fpOk (TR _) (u.hok.fresh (TR _))
noncomputable def fR (a:List (List Int×D)):List D:=a.map fun k=>.tup [.tup (k.1.map D.int),k.2]
theorem Ox {K:Tv}{π:Nat->Addr}{n:Nat}{H:Hp}{d:Addr}{ob:Obj}{ps:bY}{a:List (List Int×D)}(l:H d=some (.frz ob (aW d ps)))(T:IsTs K π n H ps a):Wk K (xI d ob ps) (dW (.tup (fR a))) π n H:=by
 have I:ps.length=a.length:=by
  have:=congrArg UJ T.to.1
  simpa using this
 refine ⟨fun j E q i e R z=>?_,fun j E q i r e R z=>?_⟩
 ·have b:(fR a)[i]? = none:=T5 z
  have:=UO.mp b
  rw [fR,TF] at this
  exact ⟨e.frz _ _ _ l,by omega⟩
 ·have b:(fR a)[i]? = some r:=T5 z
  have B:i<a.length:=by
   have:=(TB.mp b).1
   rwa [fR,TF] at this
  refine ⟨⟨e.frz _ _ _ l,by omega⟩,fun v G ⟨t,p,s,u,w,x⟩=>?_⟩
  subst s x
  have c:a[i]? = some a[i]:=Uw B
  obtain ⟨J,m,y⟩:=(T.to.2.1.mono e).get (i:=i) (d:=D.tup ((a[i]).1.map D.int)) (by rw [Um,c];rfl)
  obtain ⟨L,o,A⟩:=(T.to.2.2.mono e).get (i:=i) (d:=(a[i]).2) (by rw [Um,c];rfl)
  rw [Um,w] at m o
  cases m
  cases o
  obtain ⟨h,R2⟩:=R.fresh (o:=.tup [.ref p.2.1,p.2.2]) u
  rw [fR,Um,c] at b
  cases b
  exact ⟨h,R2,.tup (.of cN) (.cons (y.mono h) (.cons (A.mono h) .nil))⟩
noncomputable def j8 (m:ME):MI:=fun c b=>(m c b).bind fun p=>match p.1 with
 | .loc a=>match p.2[a]? with
  | some (.dF kvs)=>some (dW (.tup (fR kvs)),kvs.length+1,p.2)
  | _=>none
 | _=>none
theorem Oy {X:Cx}{e:Expr}{m:ME}{a b:Vt}(h:QE X e m)(u:eW e=true)(r:(a.endLine == b.line)=true):QJT X (.Call (.Attribute e "items" a) [] [] b) (j8 m):=⟨fun M N pt a3F s σ H R I hw=>by
 obtain ⟨K,L,B,A,n,G,o,E,c,k⟩:=hw
 obtain ⟨⟨x,J⟩,q,c⟩:=Tu.mp c
 dsimp only at c
 split at c
 ·split at c
  ·rename_i w hc
   cases c
   refine Ov h.h (j4 u) r a3F s σ H R I ⟨K,L,B,_,_,o,E,q,fun d O l p i v=>?_⟩
   cases v
   obtain ⟨y,z,j,T⟩:=p9 i hc
   exact ⟨_,y,z,rfl,j,k d l _ p i (Ox j T)⟩
  ·cases c
 ·cases c⟩
end L3
namespace L3
open PySem L2
structure Sig where
 fn:List (Str×Nat)
 con:List (Str×D)
 tab:List (Str×List (aM×D))
 no:List Str
 dIt:List Str
 dEq:List Str
 dMe:List Str
 cls:List (Str×Str):=[]
 sup:List (Str×List Str):=[]
 rz:List Str:=[]
 uf:List (Str×Stmt):=[]
 ob:List (Str×Str):=[]
 mt:List (Str×Str×Str×Nat):=[]
 mc:List (Str×Str×Nat):=[]
 ms:List (Str×Stmt):=[]
structure Cs where
 N:List Str
 ks:List (Str×Wh)
noncomputable def fS (x:Str):List Str->Option Nat
 | []=>none
 | y::r=>if x=y then some 0 else (fS x r).map (·+1)
theorem lF {x:Str}:∀ {N:List Str}{i:Nat},fS x N=some i->N[i]? = some x
 | [],_,h=>by cases h
 | y::r,i,h=>by
  unfold fS at h
  split at h
  ·rename_i e;cases h;subst e;rfl
  ·obtain ⟨j,a,b⟩:=Tz.mp h
   subst b
   have:=lF a
   simpa using this
noncomputable def glob (c:Cs)(x:Str):Bool:=decide (c.ks.lookup x=some .globalImplicit)&&!(x == ("__debug__":Str))
noncomputable def iY (c:Cs)(x:Str):Bool:=(decide (c.ks.lookup x=some .local)||decide (c.ks.lookup x=some .cell)||decide (c.ks.lookup x=some .free))&&!(x == ("__debug__":Str))&&!(x == ("__classdict__":Str))
noncomputable def iN (c:Cs)(x:Str):Bool:=decide (c.ks.lookup x=some .local)||decide (c.ks.lookup x=some .cell)
noncomputable def xJ (x:Str):Option String:=
 if x = "int" then some "int" else if x = "bool" then some "bool" else if x = "str" then some "str" else if x = "list" then some "list" else if x = "tuple" then some "tuple" else if x = "dict" then some "dict" else none
theorem Oz {x:Str}{n:String}(h:xJ x=some n):VA x=some (.type n)/\x ≠ "__name__":=by
 unfold xJ at h
 split at h
 ·rename_i e;subst e;cases h;exact ⟨a1j,by decide⟩
 split at h
 ·rename_i e;subst e;cases h;exact ⟨a1k,by decide⟩
 split at h
 ·rename_i e;subst e;cases h;exact ⟨a1e,by decide⟩
 split at h
 ·rename_i e;subst e;cases h;exact ⟨Xc,by decide⟩
 split at h
 ·rename_i e;subst e;cases h;exact ⟨Yn,by decide⟩
 split at h
 ·rename_i e;subst e;cases h;exact ⟨Xd,by decide⟩
 ·cases h
noncomputable def xK (S:Sig)(c:Cs)(x:Str):ME:=
 if iY c x=true then (match fS x c.N with|some i=>aA i|none=>bH)
 else if glob c x=true then (match S.con.lookup x with
  | some d=>mC d
  | none=>if S.no.contains x=true then (match xJ x with|some n=>mC (.ty n)|none=>bH) else bH)
 else bH
noncomputable def dN (r:Expr->ME):List Expr->MA
 | []=>aD
 | e::es=>aB (r e) (dN r es)
noncomputable def qF (op:BoolOp):List ME->ME
 | []=>bH
 | [m]=>m
 | m::r=>match op with
  | .And=>kS m (qF op r)
  | .Or=>vO m (qF op r)
noncomputable def tD (op:BoolOp):List MT->MT
 | []=>l9
 | [m]=>m
 | m::r=>match op with
  | .And=>gS m (tD op r)
  | .Or=>eV m (tD op r)
noncomputable def Dq (op:a0n)(a b:ME):ME:=match op with
 | .Add=>aC bV a b
 | .Sub=>aC cS a b
 | .Mult=>aC bS a b
 | .FloorDiv=>aC dU a b
 | .Mod=>aC bU a b
 | .Pow=>aC gW a b
 | _=>bH
noncomputable def lG (op:W2)(ns:Bool)(a b:ME):ME:=match op with
 | .Eq=>aC (a9 false) a b
 | .NotEq=>aC (a9 true) a b
 | .Lt=>aC nF a b
 | .LtE=>aC nG a b
 | .Gt=>aC kT a b
 | .GtE=>aC wA a b
 | .In=>if ns=true then aC (cM false) a b else bH
 | .NotIn=>if ns=true then aC (cM true) a b else bH
 | .Is=>aC (eF false) a b
 | .IsNot=>aC (eF true) a b
noncomputable def oA (r:Expr->ME):Option Expr->MO
 | none=>jR
 | some e=>nB (r e)
noncomputable def fF:MF:=fun ds b=>match ds with
 | [.loc a]=>match b[a]? with
  | some (.lst xs)=>some (.int xs.length,b)
  | some (.st ks)=>some (.int ks.length,b)
  | some (.dT kvs)=>some (.int kvs.length,b)
  | _=>none
 | _=>pO ds b
noncomputable def xM:MF:=fun ds a=>match ds with
 | [x]=>(bO a x).map fun b=>(.tup b,a)
 | _=>none
theorem OA {K:Tv}:eJ K xM (fun xs H Q=>∃ p b,xs=[.ref p]/\((SqL K H p b/\∀ l,H l=none->Q (.ref l) (aL H l (.tup b)))\/(SqT K H p b/\Q (.ref p) H))):=by
 intro h H s xs d o r Q R i a k
 unfold xM at a
 split at a
 ·obtain ⟨b,j,m⟩:=Tz.mp a
  cases m
  cases i with
  | cons i t=>
   cases t
   obtain ⟨p,e,rfl,q,hd⟩:=pP R i j
   refine ⟨p,e,rfl,?_⟩
   rcases q with q|q
   ·refine .inl ⟨q,fun l n=>?_⟩
    obtain ⟨c,R2⟩:=R.fresh (o:=.tup e) n
    exact k h _ _ c R2 (.tup (.of cN) (hd.mono c))
   ·exact .inr ⟨q,k h _ H .refl R (.tup q hd)⟩
 ·cases a
noncomputable def eH:MF:=fun ds b=>match ds with
 | [.loc a]=>match b[a]? with
  | some (.dT kvs)=>some (.loc b.length,b++[.lst (kvs.map fun k=>D.tup (k.1.map D.int))])
  | _=>pQ [.loc a] b
 | ds=>pQ ds b
theorem OB {K:Tv}:eJ K eH (fun xs H Q=>(∃ p h,xs=[.ref p]/\(SqL K H p h\/SqT K H p h)/\∀ l,H l=none->Q (.ref l) (aL H l (.lst h)))\/C5 K xs H Q):=by
 intro o H n xs d c m Q R i b k
 unfold eH at b
 split at b
 ·rename_i a
  split at b
  ·rename_i e u
   cases b
   cases i with
   | cons i t=>
    cases t
    cases i
    obtain ⟨j,r,T⟩:=hJ R u
    refine .inr ⟨_,j,rfl,r,T.keys,fun l s=>?_⟩
    obtain ⟨q,R2,_⟩:=R.alloc (c:=.lst (e.map fun k:List Int×D=>D.tup (k.1.map D.int))) (o:=.lst (j.map fun p:List Int×Addr×V=>V.ref p.2.1)) s T.to.2.1
    exact k _ _ _ q R2 jS
  ·exact .inl (BM o H n _ d c m Q R i b k)
 ·exact .inl (BM o H n _ d c m Q R i b k)
noncomputable def xN (x:Str):Option MF:=
 if x = "len" then some fF
 else if x = "isinstance" then some f9
 else if x = "list" then some eH
 else if x = "tuple" then some xM
 else if x = "min" then some w9 else if x = "max" then some w8
 else none
noncomputable def OC (K:Tv):List V->Hp->VK->Prop:=fun xs H Q=>wF K xs H Q\/(∃ a L,xs=[V.ref a]/\H a=some (rR a L)/\Q (.int L.length) H)\/C4 K xs H Q
theorem OD {K:Tv}:eJ K fF (OC K):=by
 intro h H m r d e l Q R i b k
 unfold fF at b
 split at b
 ·rename_i a
  split at b
  ·rename_i s c
   refine .inl (BL h H m _ d e l Q R i ?_ k)
   simp only [pO,bO,c]
   exact b
  ·rename_i o c
   cases b
   cases i with
   | cons i t=>
    cases t
    cases i
    obtain ⟨L,j,n,_⟩:=R.st a o c
    have:=congrArg UJ n
    rw [TF] at this
    refine .inr (.inl ⟨_,L,rfl,j,?_⟩)
    rw [this]
    exact k h _ H .refl R (.int _)
  ·rename_i p c
   cases b
   cases i with
   | cons i t=>
    cases t
    cases i
    obtain ⟨q,j,T⟩:=hJ R c
    have:=congrArg UJ T.to.1
    rw [TF,TF] at this
    refine .inr (.inr ⟨_,q,rfl,j,T.keys,?_⟩)
    rw [this]
    exact k h _ H .refl R (.int _)
  ·cases b
 ·exact .inl (BL h H m _ d e l Q R i b k)
theorem OE {X:Cx}{x:Str}{f:MF}(a:X.calm=true)(b:X.A.units+64<V6)(h:xN x=some f):∃ v r,VA x=some v/\((∃ id,v=.builtin id)\/∃ T,v=.type T)/\CallR X v r/\eJ X.K f r/\x ≠ "__name__":=by
 unfold xN at h
 split at h
 ·rename_i e;subst e;cases h;exact ⟨_,_,a1i,.inl ⟨_,rfl⟩,call_lenM.or (call_lenT.or NO),OD,by decide⟩
 split at h
 ·rename_i e;subst e;cases h;exact ⟨_,_,WG,.inl ⟨_,rfl⟩,Km,Kl,by decide⟩
 split at h
 ·rename_i e;subst e;cases h;exact ⟨_,_,Xc,.inr ⟨_,rfl⟩,call_list_of.or (NP a),OB,by decide⟩
 split at h
 ·rename_i e;subst e;cases h;exact ⟨_,_,Yn,.inr ⟨_,rfl⟩,Ir,OA,by decide⟩
 split at h
 ·rename_i e;subst e;cases h;exact ⟨_,_,a1g,.inl ⟨_,rfl⟩,Hs a,MV,by decide⟩
 split at h
 ·rename_i e;subst e;cases h;exact ⟨_,_,a1h,.inl ⟨_,rfl⟩,Hr a,MW,by decide⟩
 ·cases h
noncomputable def xO (x:Str):Option MF:=
 xN x
theorem OF {X:Cx}{x:Str}{f:MF}(a:X.calm=true)(b:X.A.units+64<V6)(h:xO x=some f):∃ v r,VA x=some v/\((∃ id,v=.builtin id)\/∃ T,v=.type T)/\CallR X v r/\eJ X.K f r/\x ≠ "__name__":=by
 unfold xO at h
 exact OE a b h
noncomputable def Dr (m:Str)(n:Nat):Option (D->List D->Hm->Option (D×Hm)):=
 if n=1 then (if m = "append" then some g7
  else if m = "extend" then some nS
  else none)
 else none
noncomputable def mO:MF:=fun ds b=>match ds with
 | [.loc a]=>match b[a]? with
  | some (.dT kvs)=>if (kvs.map fun p=>Tb.hashT p.1).Nodup then some (.loc b.length,b++[.dT kvs]) else none
  | _=>none
 | _=>none
theorem Ds {K:Tv}:eJ K mO (Dj K):=by
 intro v H u s d q r Q R i a k
 unfold mO at a
 split at a
 ·split at a
  ·rename_i b o
   split at a
   ·rename_i m
    cases a
    cases i with
    | cons i t=>
     cases t
     cases i
     obtain ⟨c,j,T⟩:=hJ R o
     have h:=T.to.1
     refine ⟨_,c,rfl,j,T.keys,?_,fun l n=>?_⟩
     ·have:(c.map fun p=>Tb.hashT p.1)=b.map fun p=>Tb.hashT p.1:=by
       have:=congrArg (a1Z Tb.hashT) h
       simpa [Uh,Function.comp_def] using this
      rw [this];exact m
     ·obtain ⟨e,R2,_⟩:=R.alloc (c:=.dT b) (o:=aW l c) n ⟨c,rfl,T.to⟩
      exact k _ _ _ e R2 jS
   ·cases a
  ·cases a
 ·cases a
noncomputable def Dt (S:Sig):Expr->List Expr->Option (Bool×Expr)
 | .Name x _,[.Name y p]=>if S.dMe.contains y=true then (if x = "sorted" then some (true,.Name y p) else if x = "dict" then some (false,.Name y p) else none) else none
 | .Name x _,[.Subscript a b p]=>if x = "dict"/\S.dMe.contains "[]" = true then some (false,.Subscript a b p) else none
 | _,_=>none
noncomputable def Du (S:Sig)(o:Expr)(m:Str)(n:Nat):Option (D->List D->Hm->Option (D×Hm)):=
 if m = "get"/\n=2 then some iM else
 if m = "clear"/\n=0 then (match o with|.Name x _=>if S.dMe.contains x=true then some lE else none|_=>none) else
 none
noncomputable def Dv (S:Sig):Expr->Bool
 | .Name x _=>S.dEq.contains x
 | .Dict [] [] _=>S.dEq.contains "{}"
 | .Subscript o _ _=>match o with|.Name x _=>S.dEq.contains x|_=>false
 | _=>false
noncomputable def oB (op:W2)(a b:ME):ME:=match op with
 | .Eq=>aC (gI false) a b
 | .NotEq=>aC (gI true) a b
 | _=>bH
noncomputable def Dw (S:Sig)(c:Cs):Expr->Option Nat
 | .Name x _=>if S.dIt.contains x=true then fS x c.N else none
 | .Subscript o i _=>match o,i with
  | .Name x _,.Constant (.int n) _ _=>if S.dIt.contains x=true then (fS x c.N).map fun j=>1000 * (j+1)+n.toNat else none
  | _,_=>none
 | _=>none
noncomputable def xP (S:Sig)(c:Cs)(tg:Expr)(e:Expr):Option Nat:=match tg with
 | .Name _ _=>Dw S c e
 | _=>none
noncomputable def xQ (S:Sig)(F:Str->MF)(r:Expr->ME)(c:Cs)(f:Expr)(args:List Expr)(a:Vt):ME:=match f with
 | .Name x _=>if glob c x&&args.all cD then (match S.fn.lookup x with
   | some n=>if args.length=n then aI (F x) (dN r args) else bH
   | none=>
   match S.mc.lookup x with
   | some q=>if args.length=q.2&&!args.isEmpty then k8 x (F x) (dN r args) else bH
   | none=>
   if S.no.contains x&&!args.isEmpty then (match xO x with|some g=>aI g (dN r args)|none=>bH) else bH)
  else bH
 | .Attribute o m apos=>if eW o&&(apos.endLine == a.line)&&args.all cD then (
   match S.mt.lookup m with
   | some q=>if args.length=q.2.2&&decide (args.length<30) then gG q.1 m (F q.2.1) (r o) (dN r args) else bH
   | none=>
   match Du S o m args.length with
   | some g=>fE g (r o) (dN r args)
   | none=>
   match Dr m args.length with
   | some g=>gD g (r o) (dN r args)
   | none=>
    bH)
  else bH
 | _=>bH
noncomputable def xR:Expr->Option (Expr×List Expr)
 | .Call f as [] _=>some (f,as)
 | _=>none
theorem OG {e f:Expr}{a:List Expr}(h:xR e=some (f,a)):∃ pos,e=.Call f a [] pos:=by
 unfold xR at h
 split at h
 ·cases h;exact ⟨_,rfl⟩
 ·cases h
noncomputable def mP:Expr->Option Str
 | .Name x _=>some x
 | _=>none
theorem xS {e:Expr}{x:Str}(h:mP e=some x):∃ p,e=.Name x p:=by
 unfold mP at h
 split at h
 ·cases h;exact ⟨_,rfl⟩
 ·cases h
noncomputable def o1:List Expr->Option Expr
 | [e]=>some e
 | _=>none
theorem Dx {l:List Expr}{e:Expr}(h:o1 l=some e):l=[e]:=by
 unfold o1 at h
 split at h
 ·cases h;rfl
 ·cases h
noncomputable def Dy (f:Expr)(args:List Expr):Option (Str×Str×Expr):=(mP f).bind fun x=>(o1 args).bind fun a=>(xR a).bind fun g=>(mP g.1).bind fun y=>(o1 g.2).map fun e=>(x,y,e)
theorem OH {f:Expr}{args:List Expr}{x y:Str}{e:Expr}(h:Dy f args=some (x,y,e)):∃ p c pos,f=.Name x p/\args=[.Call (.Name y c) [e] [] pos]:=by
 obtain ⟨n,d,h⟩:=Tu.mp h
 obtain ⟨a,i,h⟩:=Tu.mp h
 obtain ⟨g,j,h⟩:=Tu.mp h
 obtain ⟨o,b,h⟩:=Tu.mp h
 obtain ⟨m,l,h⟩:=Tz.mp h
 cases h
 obtain ⟨p,rfl⟩:=xS d
 obtain ⟨pos,rfl⟩:=OG j
 obtain ⟨c,b⟩:=xS b
 exact ⟨p,c,pos,rfl,by rw [Dx i,b,Dx l]⟩
noncomputable def OI (f:Expr)(args:List Expr):Option (Bool×Expr):=(Dy f args).bind fun t=>
 if t.1 = "list"/\t.2.1 = "reversed" then some (true,t.2.2) else
 none
noncomputable def Dz:Bool->Str
 | false=>"range"
 | true=>"reversed"
noncomputable def lstM:Bool->MF
 | true=>lD
 | false=>lD
noncomputable def xT (S:Sig)(F:Str->MF)(r:Expr->ME)(c:Cs)(f:Expr)(args:List Expr)(a:Vt):ME:=
 match OI f args with
 | some (b,e)=>if glob c "list" && glob c (Dz b)&&S.no.contains "list" && S.no.contains (Dz b)&&cD e then aI (lstM b) (dN r [e]) else bH
 | none=>xQ S F r c f args a
noncomputable def xU (S:Sig)(F:Str->MF)(r:Expr->ME)(c:Cs)(f:Expr)(args:List Expr)(a:Vt):ME:=
 match Dt S f args with
 | some (true,e)=>bH
 | some (false,e)=>if glob c "dict" && S.no.contains "dict" then aI mO (dN r [e]) else bH
 | none=>
 xT S F r c f args a
noncomputable def oC (c:Cs)(scope:VY)(xs:List Str):Bool:=
 (scope.names.all fun y=>decide (y.2≠.cell))&&decide (scope.kind=.function)&&(scope.names.all fun y=>decide (y.2≠.local)||decide (scope.names.lookup y.1=some .local)) &&
 (xs.all fun x=>decide (scope.names.lookup x=some .local))&&decide xs.Nodup&&(scope.names.all fun y=>decide (y.2≠.free)||decide (c.ks.lookup y.1=some .cell)||decide (c.ks.lookup y.1=some .free)) &&
 (scope.names.all fun y=>decide (y.2≠.local)||!(bG xs c.N).contains y.1)&&decide (bG xs c.N).Nodup&&(c.N.all fun y=>!xs.contains y||decide (scope.names.lookup (nH y)=none))
noncomputable def qG (c:Cs)(scope:VY)(xs:List Str):Cs:=
 ⟨bG xs c.N++xs,scope.names.map fun (n,k)=>if (k == VZ&&c.ks.lookup n == some .cell) then (n,Wb) else (n,k)⟩
noncomputable def DA (r:Expr->MT):List Expr->MT
 | []=>i0
 | [t]=>r t
 | _=>l9
noncomputable def xV (S:Sig)(c:Cs):Expr->Option (List Expr)
 | .Call (.Name x _) args [] _=>if x = "range" then (if glob c x&&S.no.contains x&&args.all cD then some args else none) else none
 | _=>none
noncomputable def tE (S:Sig)(r:Expr->ME)(c:Cs)(e:Expr):MI:=match xV S c e with
 | some [a]=>kW (dN r [a])
 | some [a,b]=>nP (dN r [a,b])
 | some [a,b,d]=>p8 (dN r [a,b,d])
 | some _=>B6
 | none=>eM (r e)
noncomputable def xW (S:Sig)(c:Cs):Expr->Option Expr
 | .Call (.Name x _) [a] [] _=>if x = "enumerate" then (if glob c x&&S.no.contains x&&cD a then some a else none) else none
 | _=>none
noncomputable def xX (S:Sig)(r:Expr->ME)(c:Cs)(e:Expr):MI:=match xW S c e with
 | some a=>CQ (dN r [a])
 | none=>tE S r c e
noncomputable def xY (S:Sig)(r:Expr->ME)(c:Cs)(e:Expr):MI:=xX S r c e
noncomputable def xZ:Expr->Option (List Str)
 | .Name x _=>some [x]
 | .Tuple es _ _=>es.mapM fun e=>match e with|.Name x _=>some x|_=>none
 | _=>none
noncomputable def x4:Expr->Nat->BD
 | .Tuple ..,n=>BJ n
 | _,_=>nJ
noncomputable def lH (S:Sig)(r:Expr->ME)(c:Cs)(tg e:Expr):MI:=match tg with
 | .Tuple ..=>xY S r c e
 | _=>tE S r c e
noncomputable def jE (b:MI)(d:Cs->Expr->ME)(e:Cs->Expr->MT)(c:Cs)(elt tg iter:Expr)(ifs:List Expr)(scope:VY):ME:=match xZ tg with
 | some a=>if oC c scope a&&fC iter then l8 (x4 tg a.length) b (DA (e (qG c scope a)) ifs) (d (qG c scope a) elt) else bH
 | none=>bH
noncomputable def yA (S:Sig)(a:Cs->Expr->ME)(b:Cs->Expr->MT)(c:Cs)(elt tg iter:Expr)(ifs:List Expr)(scope:VY):ME:=
 match xP S c tg iter with
 | some i=>xE i (jE (gH (a c iter)) a b c elt tg iter ifs scope) (jE (lH S (a c) c tg iter) a b c elt tg iter ifs scope)
 | none=>
 jE (lH S (a c) c tg iter) a b c elt tg iter ifs scope
noncomputable def tF:Const->ME
 | .int i=>mC (.int i)
 | .bool b=>mC (.bl b)
 | .str s=>mC (.str s)
 | .none=>mC .non
 | _=>bH
noncomputable def DB (m:ME):UnaryOp->ME
 | .USub=>cJ m
 | .Not=>lX m
 | _=>bH
noncomputable def yB (S:Sig)(r:Expr->ME)(a:Expr):List W2->List Expr->ME
 | [op],[b]=>if Dv S b then oB op (r a) (r b) else lG op (fC b) (r a) (r b)
 | [op,op'],[b,b']=>(match j5 op,j5 op' with
  | some p,some q=>k9 (fN p) (fN q) (r a) (r b) (r b')
  | _,_=>bH)
 | _,_=>bH
noncomputable def yC (r:Expr->ME):List (Option Expr)->List Expr->ME
 | [],[]=>iK
 | _,_=>bH
noncomputable def yD (S:Sig)(r:Expr->ME)(c:Cs)(a b:Expr):ME:=match b with
 | .Slice lo hi none _=>vQ (r a) (oA r lo) (oA r hi)
 | .Slice lo hi (some st) _=>mJ (r a) (oA r lo) (oA r hi) (oA r (some st))
 | b=>if nN b then aC aG (r a) (r b) else bH
noncomputable def yE (r:Expr->ME)(a:List Expr):ME:=if a.all cD then bT (dN r a) else bH
noncomputable def yF (r:Expr->ME)(a:List Expr):ME:=if a.all cD then cI (dN r a) else bH
noncomputable def yG (S:Sig)(F:Str->MF)(r:Expr->ME)(c:Cs)(f:Expr)(args:List Expr)(a:Vt):List WJ->ME
 | []=>xU S F r c f args a
 | _=>bH
noncomputable def yH (S:Sig)(a:Cs->Expr->ME)(b:Cs->Expr->MT)(c:Cs)(elt:Expr)(scope:VY):List Comprehension->ME
 | [⟨tg,iter,ifs,0⟩]=>yA S a b c elt tg iter ifs scope
 | _=>bH
noncomputable def yI (S:Sig)(f:Expr)(args:List Expr):Option (Expr×Str):=match f with
 | .Name x _=>(match args with
  | [a,b]=>(match b with
   | .Name cn _=>if (x == "isinstance" && ((S.sup.lookup cn).isSome||(cn == "ValueError" && !S.sup.isEmpty)))=true then some (a,cn) else none
   | _=>none)
  | _=>none)
 | _=>none
theorem OJ {S:Sig}{f:Expr}{args:List Expr}{a:Expr}{b:Str}(h:yI S f args=some (a,b)):(∃ p q,f=.Name "isinstance" p/\args=[a,.Name b q])/\((S.sup.lookup b).isSome=true\/b = "ValueError"):=by
 unfold yI at h
 split at h
 ·split at h
  ·split at h
   ·split at h
    ·rename_i hc
     cases h
     rw [Tw,beq_iff_eq,WU,Tw,beq_iff_eq] at hc
     rw [hc.1]
     exact ⟨⟨_,_,rfl,rfl⟩,hc.2.imp id (·.1)⟩
    ·cases h
   ·cases h
  ·cases h
 ·cases h
noncomputable def DC (S:Sig)(F:Str->MF)(d:Cs->Expr->ME)(e:Cs->Expr->MT)(c:Cs):Expr->ME
 | .Name x _=>xK S c x
 | .Constant v _ _=>tF v
 | .BinOp a op b _=>Dq op (d c a) (d c b)
 | .UnaryOp op a _=>DB (d c a) op
 | .Compare a ops bs _=>yB S (d c) a ops bs
 | .BoolOp op vs _=>qF op (vs.map (d c))
 | .IfExp t a b _=>f6 (e c t) (d c a) (d c b)
 | .Tuple es _ _=>yE (d c) es
 | .List es _=>yF (d c) es
 | .Dict keys values _=>yC (d c) keys values
 | .Subscript a b _=>yD S (d c) c a b
 | .Call f args kws cpos=>yG S F (d c) c f args cpos kws
 | .Attribute o a _=>if eW o then (match S.ob.lookup a with|some x=>eX x a (d c o)|none=>bH) else bH
 | .ListComp elt gs scope _=>yH S d e c elt scope gs
 | _=>bH
noncomputable def qH (r:Expr->ME)(e:Expr):MT:=if pR e then dX (r e) else l9
noncomputable def yJ (S:Sig)(r:Expr->ME)(a:Expr)(ops:List W2)(bs:List Expr)(p:Vt):MT:=match ops,bs with
 | [op],[b]=>if Dv S b then aR (oB op (r a) (r b)) else aR (lG op (fC b) (r a) (r b))
 | [op,op'],[b,b']=>(match j5 op,j5 op' with
  | some p,some q=>aR (k9 (fN p) (fN q) (r a) (r b) (r b'))
  | _,_=>l9)
 | ops,bs=>qH r (.Compare a ops bs p)
noncomputable def OK (r:Expr->ME)(t:MT)(a:Expr)(p:Vt):UnaryOp->MT
 | .Not=>t
 | op=>qH r (.UnaryOp op a p)
noncomputable def DD (S:Sig)(b:Cs->Expr->ME)(d:Cs->Expr->MT)(c:Cs):Expr->MT
 | .BoolOp op vs _=>tD op (vs.map (d c))
 | .UnaryOp op a p=>OK (b c) (iZ (d c a)) a p op
 | .Compare a ops bs p=>yJ S (b c) a ops bs p
 | e=>qH (b c) e
noncomputable def tr (S:Sig)(F:Str->MF):Nat->(Cs->Expr->ME)×(Cs->Expr->MT)
 | 0=>(fun _ _=>bH,fun _ _=>l9)
 | n+1=>(DC S F (tr S F n).1 (tr S F n).2,DD S (tr S F n).1 (tr S F n).2)
structure XcOk (S:Sig)(K:Tv):Prop where
 sub:∀ x ys c,S.sup.lookup x=some ys->(S.sup.lookup c).isSome=true->pY K x c=some (ys.contains c)
 isx:∀ x ys c,S.sup.lookup x=some ys->(S.sup.lookup c).isSome=true->∃ C,jB K c=some C/\g8 K (.ref C) x=some (ys.contains c)
 isv:∀ x ys,S.sup.lookup x=some ys->g8 K (.type "ValueError") x=some (ys.contains "ValueError")
 plain:∀ x ys,S.sup.lookup x=some ys->S.cls.lookup x=none->∃ C,ClsK K x C
structure Okx (S:Sig)(F:Str->MF)(k:Nat)(c:Cs)(X:Cx):Prop where
 N:X.N=c.N
 nd:X.N.Nodup
 ks:X.env.scope.names=c.ks
 kind:X.env.scope.kind=.function
 calm:X.calm=true
 room:Room k X.A
 never:ZM (Ul X.prog X.w) X.A X.env X.xe
 fn:∀ x n,S.fn.lookup x=some n->∃ (f:Addr)(fd:Vc)(ps:List Str),FnOk X.prog X.w X.K X.mg X.base dC k f fd ps (dI X.K n (F x))/\X.mg x=some (.ref f)/\U8 X.K (.ref f)=true/\Binds X.K fd ps []
 con:∀ x d,S.con.lookup x=some d->∃ v u,X.mg x=some u/\RelV v u/\∀ π n H,IsD X.K π n H v d
 tab:∀ x kvs,S.tab.lookup x=some kvs->TabOk X x kvs
 no:∀ x,S.no.contains x=true->X.mg x=none
 xc:XcOk S X.K
 ob:∀ f x,S.ob.lookup f=some x->∃ C,CAt X.K x C/\Cls X.K C/\NoAttr X.K C f
 mt:∀ m x y n,S.mt.lookup m=some (x,y,n)->∃ (C g:Addr)(fd:Vc)(ps:List Str),CAt X.K x C/\Cls X.K C/\Meth X.K C m g/\FnOk X.prog X.w X.K X.mg X.base dC k g fd ps (dI X.K (n+1) (F y))/\Binds X.K fd ps []
 mc:∀ x y n,S.mc.lookup x=some (y,n)->(∀ ds μ,F x ds μ=none)\/∃ (k':Nat)(C g:Addr)(fd:Vc)(ps:List Str),k=k'+1/\CAt X.K x C/\Mk X.K C g/\FnOk X.prog X.w X.K X.mg X.base dC k' g fd ps (dI X.K (n+1) (F x))/\Binds X.K fd ps []
section
variable {S:Sig}{F:Str->MF}{k:Nat}{c:Cs}{X:Cx}
theorem tG (a:X.env.scope.names=c.ks){x:Str}(h:glob c x=true):Gl X x/\(x == ("__debug__":Str))=false:=by
 unfold glob at h
 rw [Tw] at h
 refine ⟨?_,by simpa using h.2⟩
 show X.env.scope.names.lookup x=_
 rw [a]
 exact of_decide_eq_true h.1
theorem DE (e:X.env.scope.names=c.ks){x:Str}(h:iY c x=true):mZ X.env.scope x/\(x == ("__debug__":Str))=false/\(x == ("__classdict__":Str))=false:=by
 unfold iY at h
 rw [Tw,Tw,WU,WU] at h
 obtain ⟨⟨a,b⟩,d⟩:=h
 refine ⟨?_,by simpa using b,by simpa using d⟩
 unfold mZ
 rw [e]
 rcases a with (a|a)|a
 ·exact .inl (of_decide_eq_true a)
 ·exact .inr (.inl (of_decide_eq_true a))
 ·exact .inr (.inr (of_decide_eq_true a))
theorem Okx.gl (O:Okx S F k c X){x:Str}(h:glob c x=true):Gl X x/\(x == ("__debug__":Str))=false:=tG O.ks h
theorem Okx.vis (O:Okx S F k c X){x:Str}(h:iY c x=true):mZ X.env.scope x/\(x == ("__debug__":Str))=false/\(x == ("__classdict__":Str))=false:=DE O.ks h
theorem OL (O:Okx S F k c X)(x:Str)(pos:Vt):QE X (.Name x pos) (xK S c x):=by
 unfold xK
 split
 ·rename_i h
  obtain ⟨a,b,l⟩:=O.vis h
  split
  ·rename_i i o
   exact BR i (by rw [O.N];exact lF o) a b l
  ·exact bL
 split
 ·rename_i h
  obtain ⟨a,b⟩:=O.gl h
  split
  ·rename_i d hd
   obtain ⟨v,u,m,r,i⟩:=O.con x d hd
   exact ⟨m9 (Ga a m r b) i⟩
  ·split
   ·rename_i p
    split
    ·rename_i n q
     obtain ⟨e,j⟩:=Oz q
     exact K1 (O.no x p) e a j b
    ·exact bL
   ·exact bL
 ·exact bL
theorem e8 {r:Expr->ME}(b:∀ e,QE X e (r e)):∀ (a:List Expr),a.all cD=true->QA X a (dN r a) a.length
 | [],_=>KP
 | e::a,h=>by
  rw [Uy,Tw] at h
  exact KQ (b e) (e8 b a h.2) h.1
theorem yK {r:Expr->ME}(a:∀ e,QE X e (r e))(op:BoolOp)(pos:Vt):∀ (vs:List Expr),QE X (.BoolOp op vs pos) (qF op (vs.map r))
 | []=>bL
 | [e]=>KJ (a e)
 | e::d::es=>by
  have b:=yK a op pos (d::es)
  cases op with
  | And=>exact KL (a e) b
  | Or=>exact KN (a e) b
theorem DF {r:Expr->MT}(a:∀ e,QT X e (r e))(op:BoolOp)(pos:Vt):∀ (vs:List Expr),QW X (.BoolOp op vs pos) (tD op (vs.map r))
 | []=>LG
 | [e]=>by
  cases op with
  | And=>exact La (a e)
  | Or=>exact Lb (a e)
 | e::d::es=>by
  have b:=DF a op pos (d::es)
  cases op with
  | And=>exact Lc (a e) b
  | Or=>exact Ld (a e) b
theorem OM {a b:Expr}{h i:ME}(d:QE X a h)(e:QE X b i)(op:a0n)(pos:Vt):QE X (.BinOp a op b pos) (Dq op h i):=by
 cases op with
 | Add=>exact Kq d e
 | Sub=>exact Kr d e
 | Mult=>exact Ks d e
 | FloorDiv=>exact Kt d e
 | Mod=>exact Ku d e
 | Pow=>exact Kv d e
 | _=>exact bL
theorem ON (O:Okx S F k c X){a b:Expr}{i j:ME}(d:QE X a i)(e:QE X b j)(op:W2)(pos:Vt):QE X (.Compare a [op] [b] pos) (lG op (fC b) i j):=by
 cases op with
 | Eq=>exact Ky O.room d e
 | NotEq=>exact Kz O.room d e
 | Lt=>exact KA d e
 | LtE=>exact KG d e
 | Gt=>exact KH d e
 | GtE=>exact KI d e
 | In=>
  simp only [lG]
  split
  ·rename_i h;exact NR O.room d e h
  ·exact bL
 | NotIn=>
  simp only [lG]
  split
  ·rename_i h;exact NS O.room d e h
  ·exact bL
 | Is=>exact MN d e
 | IsNot=>exact MP d e
theorem DG {e:Expr}:QT X e (aR bH):=⟨fun a3F s σ H Q I h=>by
 obtain ⟨j,l,i,d,b,R,E,a,k⟩:=h
 cases a⟩
theorem OO (O:Okx S F k c X){a b:Expr}{i j:ME}(d:QE X a i)(e:QE X b j)(op:W2)(pos:Vt):QT X (.Compare a [op] [b] pos) (aR (lG op (fC b) i j)):=by
 cases op with
 | Eq=>exact K2 O.room d e
 | NotEq=>exact K3 O.room d e
 | Lt=>exact K4 d e
 | LtE=>exact K5 d e
 | Gt=>exact K6 d e
 | GtE=>exact K7 d e
 | In=>
  simp only [lG]
  split
  ·rename_i h;exact NT O.room d e h
  ·exact DG
 | NotIn=>
  simp only [lG]
  split
  ·rename_i h;exact NU O.room d e h
  ·exact DG
 | Is=>exact MQ d e
 | IsNot=>exact MU d e
theorem qI {r:Expr->ME}(a:∀ e,QE X e (r e)):∀ o:Option Expr,QO X o (oA r o)
 | none=>KU
 | some e=>KW (a e)
theorem OP (O:Okx S F k c X){r:Expr->ME}(u:∀ e,QE X e (r e))(f:Expr)(args:List Expr)(l:Vt):QE X (.Call f args [] l) (xQ S F r c f args l):=by
 unfold xQ
 split
 ·rename_i x p
  split
  ·rename_i A
   rw [Tw] at A
   obtain ⟨B,E⟩:=O.gl A.1
   have h:=e8 u args A.2
   split
   ·rename_i n H
    split
    ·rename_i b
     obtain ⟨fa,Y,ps,d,a,Z,i⟩:=O.fn x n H
     subst b
     cases args with
     | nil=>exact LS d O.room a Z i B E
     | cons e s=>exact KZ d O.room a Z i h B E
    ·exact bL
   ·skip
    split
    ·rename_i q J
     split
     ·rename_i b
      rw [Tw] at b
      cases args with
      | nil=>exact absurd b.2 (by simp)
      | cons e s=>
       rcases O.mc x q.1 q.2 J with hz|⟨k',C,ga,Y,ps,rfl,G,M,d,i⟩
       ·exact MC fun ρ μ=>by
         unfold k8
         cases dN r (e::s) ρ μ with
         | none=>rfl
         | some p=>simp only [T9,hz,Option.bind_none]
       ·have w:=of_decide_eq_true b.1
        rw [<- w] at d
        exact MB M G d O.room B i h E
     ·exact bL
    split
    ·rename_i j
     rw [Tw] at j
     split
     ·rename_i g i
      obtain ⟨v,rr,L,b2,N,Q,R⟩:=OF (X:=X) O.calm O.room.units i
      cases args with
      | nil=>exact absurd j.2 (by simp)
      | cons e s=>
       rcases b2 with ⟨id,rfl⟩|⟨T,rfl⟩
       ·exact K0 N Q (O.no x j.1) L h B R E
       ·exact wH N Q (O.no x j.1) L h B R E
     ·exact bL
    ·exact bL
  ·exact bL
 ·rename_i o m K
  split
  ·rename_i A
   rw [Tw,Tw] at A
   obtain ⟨⟨y,z⟩,h3⟩:=A
   have h:=e8 u args h3
   split
   ·rename_i q J
    split
    ·rename_i b
     rw [Tw] at b
     obtain ⟨C,ga,Y,ps,G,U,M,d,i⟩:=O.mt m q.1 q.2.1 q.2.2 J
     have w:=of_decide_eq_true b.1
     rw [<- w] at d
     cases args with
     | nil=>exact My (u o) y z G U M d O.room i
     | cons e s=>exact Mx (u o) y z G U M d O.room i h (of_decide_eq_true b.2)
    ·exact bL
   split
   ·rename_i g a
    unfold Du at a
    split at a
    ·rename_i b
     obtain ⟨rfl,b⟩:=b
     cases a
     cases args with
     | nil=>cases b
     | cons e s=>exact N8 ZU PySem.F.type_dict_get (Ob (by have:=O.room.units;omega)) Oa (u o) h y z (by rw [b];decide)
    split at a
    ·rename_i b
     obtain ⟨rfl,b⟩:=b
     split at a
     ·split at a
      ·cases a
       cases args with
       | cons e s=>cases b
       | nil=>exact N9 Zy PySem.F.type_dict_clear Oe Oc (u _) y z
      ·cases a
     ·cases a
    cases a
   split
   ·rename_i g a
    unfold Dr at a
    split at a
    ·rename_i b
     cases args with
     | nil=>cases b
     | cons e s=>
      have H:(e::s).length<30:=by rw [b];decide
      split at a
      ·rename_i I;subst I;cases a
       exact Cp PySem.F.slot_list_append PySem.F.type_list_append A6 LO (u o) h y z H
      split at a
      ·rename_i I;subst I;cases a
       exact Cp PySem.F.slot_list_extend PySem.F.type_list_extend Iy LP (u o) h y z H
      ·cases a
    ·cases a
   ·skip
    ·exact bL
  ·exact bL
 ·exact bL
theorem OQ (O:Okx S F k c X){r:Expr->ME}(l:∀ e,QE X e (r e))(f:Expr)(args:List Expr)(a:Vt):QE X (.Call f args [] a) (xT S F r c f args a):=by
 unfold xT
 split
 ·rename_i b e h
  split
  ·rename_i j
   rw [Tw,Tw,Tw,Tw] at j
   obtain ⟨⟨⟨⟨m,n⟩,s⟩,u⟩,st⟩:=j
   have q:=e8 l [e] (by rw [Uy,st];rfl)
   obtain ⟨t,o,i⟩:=Tu.mp h
   obtain ⟨p,w,v,rfl,rfl⟩:=OH o
   split at i
   ·rename_i d
    cases i
    rw [d.1,d.2]
    exact Nj O.calm (O.no _ s) (O.no _ u) q (O.gl m).1 (O.gl n).1
   ·cases i
  ·exact bL
 ·exact OP O l f args a
theorem OR (nd:X.N.Nodup)(e:X.N=c.N)(u:X.env.scope.names=c.ks){scope:VY}{xs:List Str}(h:oC c scope xs=true):CompSt X.env.scope X.N scope xs/\xs.Nodup:=by
 unfold oC at h
 rw [Tw,Tw] at h
 obtain ⟨⟨h,b⟩,r⟩:=h
 have b:=of_decide_eq_true b
 have d:∀ y∈c.N,xs.contains y=true->scope.names.lookup (nH y)=none:=fun y a hc=>by
  have:=Vm.mp r y a
  rw [hc] at this
  simpa using this
 simp only [Tw,Vm,decide_eq_true_eq,WU,W8,List.contains_eq_mem,decide_eq_false_iff_not] at h
 obtain ⟨⟨⟨⟨⟨⟨j,l⟩,m⟩,n⟩,q⟩,o⟩,p⟩:=h
 refine ⟨⟨j,l,fun y a i=>(m y a).resolve_left (fun z=>z i),n,fun y a s=>?_,fun y a i=>?_,nd,by rw [e];exact b,by rw [e];exact d⟩,q⟩
 ·rw [u]
  rcases o y a with (z|z)|z
  ·exact absurd s z
  ·exact .inl z
  ·exact .inr z
 ·rw [e]
  have:=(p y a).resolve_left (fun z=>z i)
  exact this
theorem qJ (O:Okx S F k c X){scope:VY}{xs:List Str}(h:oC c scope xs=true):CompSt X.env.scope X.N scope xs/\xs.Nodup:=OR O.nd O.N O.ks h
theorem DH {N xs:List Str}(h:N.Nodup)(d:xs.Nodup)(i:∀ x∈xs,x∉N):(N++xs).Nodup:=by
 rw [W7]
 exact ⟨h,d,fun a j b l e=>by subst e;exact i _ l j⟩
theorem DI {scope:VY}{xs:List Str}(Q:CompSt X.env.scope X.N scope xs/\xs.Nodup):(bG xs X.N++xs).Nodup:=DH Q.1.hnd Q.2 fun x a=>Q.1.own (x,.local) (Vf (Q.1.here x a)) rfl
theorem OS (a:X.env.scope.kind=.function)(d:X.env.scope.names=c.ks)(scope:VY)(xs:List Str):(a2z scope X.env).names=(qG c scope xs).ks:=by
 unfold a2z qG
 dsimp only
 refine US fun y _=>?_
 obtain ⟨n,b⟩:=y
 dsimp only
 have:(X.env.scope.kind == ScopeKind.function)=true:=by rw [a];rfl
 rw [this,a2p]
 show (if (b == VZ&&X.env.scope.names.lookup n == some Wb)=true then _ else _)=_
 rw [d]
theorem Okx.comp (O:Okx S F k c X){scope:VY}{xs:List Str}(h:oC c scope xs=true){b:List (Str×Addr)}{C:Addr}{s₀:TC}{H₀:Hp}{d:List Addr}:Okx S F k (qG c scope xs) (cG X scope b C (bG xs X.N++xs) s₀ H₀ d):=
 ⟨show bG xs X.N++xs=bG xs c.N++xs by rw [O.N],DI (qJ O h),OS O.kind O.ks scope xs,(qJ O h).1.kind,O.calm,O.room,a0w,O.fn,O.con,fun y a q=>⟨(O.tab y a q).ex⟩,O.no
  ,O.xc
  ,O.ob,O.mt,O.mc
  ⟩
theorem DJ {r:Expr->MT}(m:∀ e,QT X e (r e)):∀ i:List Expr,QI X i (DA r i)
 | []=>Lf
 | [t]=>Lg (m t)
 | a::b::i=>⟨fun j s u H Q I h=>by
   obtain ⟨p,q,o,d,n,R,E,l,k⟩:=h
   cases l⟩
theorem yL (O:Okx S F k c X){e:Expr}{args:List Expr}(h:xV S c e=some args):∃ p pos,e=.Call (.Name "range" p) args [] pos/\Gl X "range"/\X.mg "range" = none/\args.all cD=true:=by
 unfold xV at h
 split at h
 ·split at h
  ·rename_i b
   subst b
   split at h
   ·rename_i a
    cases h
    rw [Tw,Tw] at a
    exact ⟨_,_,rfl,(O.gl a.1.1).1,O.no _ a.1.2,a.2⟩
   ·cases h
  ·cases h
 ·cases h
theorem DK (O:Okx S F k c X){r:Expr->ME}(n:∀ e,QE X e (r e))(e:Expr):QJ X e (tE S r c e):=by
 unfold tE
 split
 ·rename_i a h
  obtain ⟨p,m,rfl,i,j,l⟩:=yL O h
  exact Lu i j (e8 n [a] l)
 ·rename_i a b h
  obtain ⟨p,m,rfl,i,j,l⟩:=yL O h
  exact Lv i j (e8 n [a,b] l)
 ·rename_i a b d h
  obtain ⟨p,m,rfl,i,j,l⟩:=yL O h
  exact Np i j (e8 n [a,b,d] l)
 ·exact Lq
 ·exact Lr (n e)
theorem OT (O:Okx S F k c X){e a:Expr}(h:xW S c e=some a):∃ p pos,e=.Call (.Name "enumerate" p) [a] [] pos/\Gl X "enumerate"/\X.mg "enumerate" = none/\cD a=true:=by
 unfold xW at h
 split at h
 ·split at h
  ·rename_i d
   subst d
   split at h
   ·rename_i b
    cases h
    rw [Tw,Tw] at b
    exact ⟨_,_,rfl,(O.gl b.1.1).1,O.no _ b.1.2,b.2⟩
   ·cases h
  ·cases h
 ·cases h
theorem OU (O:Okx S F k c X){r:Expr->ME}(b:∀ e,QE X e (r e))(e:Expr):QJT X e (xX S r c e):=by
 unfold xX
 split
 ·rename_i a h
  obtain ⟨p,l,rfl,d,i,j⟩:=OT O h
  exact M9 d i (e8 b [a] (by rw [Uy,j];rfl))
 ·exact (DK O b e).t
theorem OV (O:Okx S F k c X){r:Expr->ME}(a:∀ e,QE X e (r e))(e:Expr):QJT X e (xY S r c e):=by
 unfold xY
 exact OU O a e
theorem oE (O:Okx S F k c X){r:Expr->ME}(a:∀ e,QE X e (r e))(tg e:Expr):PI X tg e (iG X.K (lH S r c tg e)):=by
 unfold lH
 split
 ·exact (OV O a e).h _ _ _
 ·exact (DK O a e).h _
theorem DL {iter:Expr}{env:XU}(h:fC iter=true):∀ x,WH iter env x=pure x:=by
 intro z
 cases iter<;>first|rfl|cases h
end
theorem DM {X:Cx}(d:X.N.Nodup):∀ (a:List Expr)(xs:List Str)(n:Nat),(a.mapM fun e=>match e with|.Name x _=>some x|_=>none)=some xs->(∀ j x,xs[j]? = some x->X.N[n+j]? = some x/\X.env.scope.names.lookup x=some .local)->QGs X a (X2 n xs.length)
 | [],xs,n,h,hx=>by
  cases h
  exact B4
 | e::a,xs,n,h,hx=>by
  rw [List.mapM_cons] at h
  obtain ⟨x,c,h⟩:=Tu.mp h
  obtain ⟨m,i,h⟩:=Tu.mp h
  cases h
  cases e with
  | Name y p=>
   cases c
   rw [Uk,X8]
   have b:=hx 0 x rfl
   refine B5 n d (DM d a m (n+1) i fun j z l=>?_) (by simpa using b.1) (.inl b.2) (.inr b.2)
   have:=hx (j+1) z (by simpa using l)
   rw [show n+1+j=n+(j+1) by omega]
   exact this
  | _=>cases c
theorem OW {c:Cs}{X:Cx}{scope:VY}{x:Str}{p:Vt}(Q:CompSt X.env.scope X.N scope [x]/\[x].Nodup)(a:List (Str×Addr))(C:Addr)(s₀:TC)(H₀:Hp)(b:List Addr):PG (cG X scope a C (bG [x] X.N++[x]) s₀ H₀ b) (.Name x p) (fB X.K (gB X.N.length nJ)):=by
 have e:=DI Q
 have d:(a2z scope X.env).names.lookup x=some .local:=a1Q (Q.1.here x (by simp))
 exact Lx (X:=cG X scope a C (bG [x] X.N++[x]) s₀ H₀ b) (by show (bG [x] X.N++[x]).length=_;rw [TV,l6];rfl) (BG (X:=cG X scope a C (bG [x] X.N++[x]) s₀ H₀ b) e (by show (bG [x] X.N++[x])[X.N.length]? = _;rw [<- l6 [x] X.N];simp) (.inl d) (.inr d))
theorem tH {S:Sig}{F:Str->MF}{k:Nat}{c:Cs}{X:Cx}(O:Okx S F k c X){scope:VY}{tg:Expr}{xs:List Str}(a:xZ tg=some xs)(h:oC c scope xs=true)(b:List (Str×Addr))(C:Addr)(s₀:TC)(H₀:Hp)(e:List Addr) :
  PG (cG X scope b C (bG xs X.N++xs) s₀ H₀ e) tg (fB X.K (gB X.N.length (x4 tg xs.length)))/\∀ d n z,x4 tg xs.length d n=some z->z.length=xs.length:=by
 obtain ⟨St,hnd⟩:=qJ O h
 have r:(bG xs X.N++xs).Nodup:=DH St.hnd hnd fun x a=>St.own (x,.local) (Vf (St.here x a)) rfl
 have i:∀ x∈xs,(a2z scope X.env).names.lookup x=some .local:=fun x a=>a1Q (St.here x a)
 unfold xZ at a
 split at a
 ·rename_i x p
  cases a
  refine ⟨OW (c:=c) ⟨St,hnd⟩ b C s₀ H₀ e,fun d n z m=>?_⟩
  cases m
  rfl
 ·rename_i q v pt
  refine ⟨Lz (X:=cG X scope b C (bG xs X.N++xs) s₀ H₀ e) (by show (bG xs X.N++xs).length=_;rw [TV,l6]) (wI (X:=cG X scope b C (bG xs X.N++xs) s₀ H₀ e) (DM (X:=cG X scope b C (bG xs X.N++xs) s₀ H₀ e) r q xs X.N.length a fun j x o=>⟨?_,i x (UM o)⟩) O.calm).h,fun d n z m=>?_⟩
  ·show (bG xs X.N++xs)[X.N.length+j]? = some x
   rw [UK (by rw [l6];omega),l6,show X.N.length+j - X.N.length=j by omega]
   exact o
  ·obtain ⟨w,u,l⟩:=Tu.mp m
   split at l
   ·rename_i s
    cases l
    rw [TF];exact s
   ·cases l
 ·cases a
theorem OX (O:Okx S F k c X){r:Expr->ME}(i:∀ e,QE X e (r e))(f:Expr)(args:List Expr)(a:Vt):QE X (.Call f args [] a) (xU S F r c f args a):=by
 unfold xU
 split
 ·exact bL
 ·rename_i e h
  split
  ·rename_i b
   rw [Tw] at b
   unfold Dt at h
   split at h
   ·split at h
    ·split at h
     ·cases h
     ·split at h
      ·rename_i d;subst d
       cases h
       exact wH Dk Ds (O.no _ b.2) Xd (e8 i _ rfl) (O.gl b.1).1 (by decide) (O.gl b.1).2
      ·cases h
    ·cases h
   ·split at h
    ·rename_i d
     cases d.1
     cases h
     exact wH Dk Ds (O.no _ b.2) Xd (e8 i _ rfl) (O.gl b.1).1 (by decide) (O.gl b.1).2
    ·cases h
   ·cases h
  ·exact bL
 exact OQ O i _ _ _
theorem tI {S:Sig}{F:Str->MF}{k:Nat}{n:Cs->Expr->ME}{o:Cs->Expr->MT}(p:∀ c X,Okx S F k c X->∀ e,QE X e (n c e))(r:∀ c X,Okx S F k c X->∀ e,QT X e (o c e))(c:Cs)(X:Cx)(O:Okx S F k c X)
  (elt tg iter:Expr)(ifs:List Expr)(scope:VY)(pos:Vt){m:MI}(u:PI X tg iter (iG X.K m)):QE X (.ListComp elt [⟨tg,iter,ifs,0⟩] scope pos) (jE m n o c elt tg iter ifs scope):=by
 unfold jE
 split
 ·rename_i x l
  split
  ·rename_i h
   rw [Tw] at h
   refine ⟨fun i s w H Q I q=>?_⟩
   exact LC ((qJ O h.1).1.ok I.ok) O.calm u (fun d v z=>(tH O l h.1 [] 0 s H []).2 d v z) (fun C b a j=>(tH O l h.1 _ C b a j).1) (fun C b a j=>(DJ (r _ _ (O.comp h.1)) _).h) (fun C b a j=>(p _ _ (O.comp h.1) _).h) (DL h.2) i s w H Q I q
  ·exact bL
 ·exact bL
theorem OY {S:Sig}{F:Str->MF}{k:Nat}{d:Cs->Expr->ME}{h:Cs->Expr->MT}(a:∀ c X,Okx S F k c X->∀ e,QE X e (d c e))(b:∀ c X,Okx S F k c X->∀ e,QT X e (h c e))(c:Cs)(X:Cx)(O:Okx S F k c X)
  (elt tg iter:Expr)(ifs:List Expr)(scope:VY)(pos:Vt):QE X (.ListComp elt [⟨tg,iter,ifs,0⟩] scope pos) (yA S d h c elt tg iter ifs scope):=by
 unfold yA
 split
 ·exact NX (tI a b c X O elt tg iter ifs scope pos ((xH (a c X O iter)).h tg)) (tI a b c X O elt tg iter ifs scope pos (oE O (a c X O) tg iter))
 exact tI a b c X O elt tg iter ifs scope pos (oE O (a c X O) tg iter)
theorem OZ {S:Sig}{F:Str->MF}{k:Nat}{c:Cs}{X:Cx}(O:Okx S F k c X){a b:Expr}{h i:ME}(d:QE X a h)(e:QE X b i)(op:W2)(pos:Vt):QE X (.Compare a [op] [b] pos) (oB op h i):=by
 unfold oB
 split
 ·exact Ol O.room d e
 ·exact Om O.room d e
 ·exact bL
theorem O0 {S:Sig}{F:Str->MF}{k:Nat}{c:Cs}{X:Cx}(O:Okx S F k c X){a b:Expr}{h i:ME}(d:QE X a h)(e:QE X b i)(op:W2)(pos:Vt):QT X (.Compare a [op] [b] pos) (aR (oB op h i)):=by
 unfold oB
 split
 ·exact Oo O.room d e
 ·exact Oq O.room d e
 ·exact ⟨fun j s r H Q I q=>by
   obtain ⟨o,p,n,b,m,R,E,l,k⟩:=q
   cases l⟩
section
variable {S:Sig}{F:Str->MF}{k:Nat}{c:Cs}{X:Cx}{r:Expr->ME}
theorem O1 (v:Const)(n:Nat)(p:Vt):QE X (.Constant v n p) (tF v):=by
 cases v<;>first|exact BS|exact BU|exact BV|exact BW|exact bL
theorem O2 (b:∀ e,QE X e (r e))(op:UnaryOp)(a:Expr)(p:Vt):QE X (.UnaryOp op a p) (DB (r a) op):=by
 cases op<;>first|exact Kw (b _)|exact BX (b _)|exact bL
theorem O3 (O:Okx S F k c X)(b:∀ e,QE X e (r e))(a:Expr)(ops:List W2)(bs:List Expr)(p:Vt):QE X (.Compare a ops bs p) (yB S r a ops bs):=by
 unfold yB
 split
 ·split
  ·exact OZ O (b _) (b _) _ _
  ·exact ON O (b _) (b _) _ _
 ·split
  ·rename_i d h
   exact ML d h (b _) (b _) (b _)
  ·exact bL
 ·exact bL
theorem O4 (O:Okx S F k c X)(b:∀ e,QE X e (r e))(a:List (Option Expr))(vs:List Expr)(p:Vt):QE X (.Dict a vs p) (yC r a vs):=by
 unfold yC
 try split
 ·exact NC
 ·exact bL
theorem O5 (O:Okx S F k c X)(d:∀ e,QE X e (r e))(a b:Expr)(p:Vt):QE X (.Subscript a b p) (yD S r c a b):=by
 unfold yD
 split
 ·exact KY (d _) (qI d _) (qI d _)
 ·exact M3 (d _) (qI d _) (qI d _) (qI d _)
 ·split
  ·rename_i h
   ·exact NQ O.room (d _) (d _) h
  ·exact bL
theorem yM (a:∀ e,QE X e (r e))(e:Expr):QT X e (qH r e):=by
 unfold qH
 split
 ·rename_i h;exact LR (a _) h
 ·exact wK
theorem O6 (O:Okx S F k c X)(b:∀ e,QE X e (r e))(a:Expr)(ops:List W2)(bs:List Expr)(p:Vt):QT X (.Compare a ops bs p) (yJ S r a ops bs p):=by
 unfold yJ
 split
 ·split
  ·exact O0 O (b _) (b _) _ _
  ·exact OO O (b _) (b _) _ _
 ·split
  ·rename_i d h
   exact MM d h (b _) (b _) (b _)
  ·exact wK
 ·exact yM b _
theorem O7 (b:∀ e,QE X e (r e))(a:List Expr)(n:Nat)(p:Vt):QE X (.Tuple a n p) (yE r a):=by
 unfold yE
 split
 ·rename_i h;exact KR (e8 b _ h)
 ·exact bL
theorem O8 (b:∀ e,QE X e (r e))(a:List Expr)(p:Vt):QE X (.List a p) (yF r a):=by
 unfold yF
 split
 ·rename_i h;exact BY (e8 b _ h)
 ·exact bL
theorem O9 (O:Okx S F k c X)(b:∀ e,QE X e (r e))(f:Expr)(args:List Expr)(a:List WJ)(p:Vt):QE X (.Call f args a p) (yG S F r c f args p a):=by
 unfold yG
 split
 ·exact OX O b _ _ _
 ·exact bL
theorem Pa (gl:∀ {x:Str},glob c x=true->Gl X x/\(x == ("__debug__":Str))=false) (no:∀ x,S.no.contains x=true->X.mg x=none)(w:XcOk S X.K){a:Expr}{m:ME}(J:QE X a m){d:Str}{T U p:Vt}(q:(S.sup.lookup d).isSome=true\/d = "ValueError") :
  QE X (.Call (.Name "isinstance" T) [a,.Name d U] [] p) (if glob c "isinstance" && S.no.contains "isinstance" && glob c d&&cD a&&(!(d == "ValueError")||S.no.contains "ValueError") then jC (fun x=>(S.sup.lookup x).map fun e=>e.contains d) m else bH):=by
 split
 ·rename_i h
  rw [Tw,Tw,Tw,Tw] at h
  obtain ⟨⟨⟨⟨A,B⟩,o⟩,E⟩,O⟩:=h
  have K:∀ n,(∀ x e,S.sup.lookup x=some e->g8 X.K n x=some (e.contains d))->∀ x b,(S.sup.lookup x).map (fun e=>e.contains d)=some b->g8 X.K n x=some b:=fun n j x b R=>by
   obtain ⟨e,M,N⟩:=Tz.mp R
   rw [<- N]
   exact j x e M
  by_cases j:d = "ValueError"
  ·subst j
   refine CA (cv:=.type "ValueError") J E (gl A).1 (no _ B) (fun l s Y H Q I z=>?_) (K _ fun x e g=>w.isv x e g)
   have u:S.no.contains "ValueError" = true:=by simpa using O
   exact gP I (gl o).1 (no _ u) a1l z
  ·have hc:=q.resolve_right j
   obtain ⟨y,v⟩:=UR.mp hc
   obtain ⟨C,G,_⟩:=w.isx d y d v hc
   refine CA (cv:=.ref C) J E (gl A).1 (no _ B) (fun l s Y H Q I z=>?_) (K _ fun x e g=>?_)
   ·exact jP I (gl o).1 (Wn I.mod.kin I.mod.glob (mG G)) z (gl o).2
   ·obtain ⟨Z,i,L⟩:=w.isx x e d g hc
    rw [G] at i
    cases i
    exact L
 ·exact bL
end
theorem Pb {S:Sig}{F:Str->MF}{k:Nat}{c:Cs}{X:Cx}(O:Okx S F k c X){o:Expr}{m:ME}{a:Str}{p:Vt}(h:QE X o m):QE X (.Attribute o a p) (if eW o then (match S.ob.lookup a with|some x=>eX x a m|none=>bH) else bH):=by
 split
 ·rename_i i
  split
  ·rename_i y j
   obtain ⟨C,b,d,e⟩:=O.ob a y j
   exact Mv h i b d e
  ·exact bL
 ·exact bL
theorem DN {S:Sig}{F:Str->MF}{k:Nat}{q:Cs->Expr->ME}{r:Cs->Expr->MT}(A:∀ c X,Okx S F k c X->∀ e,QE X e (q c e))(B:∀ c X,Okx S F k c X->∀ e,QT X e (r c e))(c:Cs)(X:Cx)(O:Okx S F k c X) :
  (∀ e,QE X e (DC S F q r c e))/\∀ e,QT X e (DD S q r c e):=by
 have d:=A c X O
 have w:=B c X O
 constructor
 ·intro e
  cases e with
  | Name x p=>exact OL O _ _
  | Constant v n p=>exact O1 v n p
  | BinOp a j b p=>exact OM (d _) (d _) _ _
  | UnaryOp j a p=>exact O2 d j a p
  | Compare a h bs p=>exact O3 O d a h bs p
  | BoolOp j z p=>exact yK d _ _ _
  | IfExp t a b p=>exact KO (w _) (d _) (d _)
  | Tuple u n p=>exact O7 d u n p
  | List u p=>exact O8 d u p
  | Dict G z p=>exact O4 O d G z p
  | Subscript a b p=>exact O5 O d a b p
  | Call f l y m=>exact O9 O d f l y m
  | Attribute o a p=>exact Pb O (d _)
  | ListComp s E i p=>
   show QE X _ (yH S q r c s i E)
   unfold yH
   split
   ·exact OY A B c X O _ _ _ _ _ _
   ·exact bL
  | _=>exact bL
 ·intro e
  cases e with
  | BoolOp j z p=>exact Le (DF w _ _ _)
  | UnaryOp j a p=>
   cases j
   case Not=>exact K9 (w _)
   all_goals exact yM d _
  | Compare a h bs p=>exact O6 O d a h bs p
  | _=>exact yM d _
theorem qK {S:Sig}{F:Str->MF}{k:Nat}:∀ (n:Nat),(∀ c X,Okx S F k c X->∀ e,QE X e ((tr S F n).1 c e))/\∀ c X,Okx S F k c X->∀ e,QT X e ((tr S F n).2 c e)
 | 0=>⟨fun c X O e=>bL,fun c X O e=>wK⟩
 | n+1=>by
  have a:=qK (S:=S) (F:=F) (k:=k) n
  exact ⟨fun c X O e=>(DN a.1 a.2 c X O).1 e,fun c X O e=>(DN a.1 a.2 c X O).2 e⟩
end L3
namespace L3
open PySem L2
noncomputable def tJ:MG:=fun _ _ _=>none
noncomputable def qL (c:Cs):List Expr->Option (List Nat)
 | []=>some []
 | .Name x _::r=>if iN c x then (fS x c.N).bind fun i=>(qL c r).map (i::·) else none
 | _=>none
noncomputable def oF (c:Cs):Expr->MG
 | .Name x _=>if iN c x then (match fS x c.N with|some i=>cZ i|none=>tJ) else tJ
 | .Tuple es _ _=>match qL c es with|some a=>eL a|none=>tJ
 | _=>tJ
noncomputable def fG (r:Stmt->MS):List Stmt->MS
 | []=>bJ
 | [s]=>r s
 | s::t=>aJ (r s) (fG r t)
noncomputable def yN (S:Sig)(E:Cs->Expr->ME)(T:Cs->Expr->MT)(c:Cs)(i:Nat):Expr->MS
 | .ListComp elt [⟨tg,iter,ifs,0⟩] scope _=>match xP S c tg iter with
  | some j=>dY j (aP i (jE (gH (E c iter)) E T c elt tg iter ifs scope)) (aP i (jE (lH S (E c) c tg iter) E T c elt tg iter ifs scope))
  | none=>aP i (jE (lH S (E c) c tg iter) E T c elt tg iter ifs scope)
 | _=>bW
noncomputable def yO (S:Sig)(E:Cs->Expr->ME)(T:Cs->Expr->MT)(c:Cs)(tg e:Expr):MS:=match tg with
 | .Name y _=>if iN c y then (match fS y c.N with
   | some i=>if d7 e then aP i (E c e) else yN S E T c i e
   | none=>bW) else bW
 | .Tuple es _ _=>if wJ e then (match qL c es with|some b=>jX (E c e) (eL b)|none=>bW)
   else bW
 | .Subscript o i _=>if d7 e&&nN i then dA (E c o) (E c i) (E c e) else bW
 | .Attribute o a _=>match S.ob.lookup a with|some x=>if d7 e then k7 x a (E c o) (E c e) else bW|none=>bW
 | _=>bW
noncomputable def Pc:Nat:=1000000000
noncomputable def yP (S:Sig)(c:Cs)(tg:Expr):Expr->Option (Nat×Expr×Vt×Vt)
 | .Call g [] [] cpos=>match g with
  | .Attribute o m apos=>match tg with
   | .Tuple ..=>if m = "items" then (Dw S c o).map fun j=>(j,o,apos,cpos) else none
   | _=>none
  | _=>none
 | _=>none
theorem Pd {S:Sig}{c:Cs}{tg e:Expr}{q:Nat×Expr×Vt×Vt}(h:yP S c tg e=some q):e=.Call (.Attribute q.2.1 "items" q.2.2.1) [] [] q.2.2.2/\∃ b d p,tg=.Tuple b d p:=by
 unfold yP at h
 split at h
 ·split at h
  ·split at h
   ·split at h
    ·rename_i a
     obtain ⟨j,_,rfl⟩:=Tz.mp h
     rw [a]
     exact ⟨rfl,_,_,_,rfl⟩
    ·cases h
   ·cases h
  ·cases h
 ·cases h
noncomputable def DO (S:Sig)(E:Cs->Expr->ME)(T:Cs->Expr->MT)(c:Cs)(r:Stmt->MS):Stmt->MS
 | .Return (some e) _=>a8 (E c e)
 | .Return none _=>a8 (mC .non)
 | .If t a b _=>bI (T c t) (fG r a) (fG r b)
 | .Assign [tg] e _=>yO S E T c tg e
 | .Expr e _=>if d7 e then dS (E c e) else bW
 | .For tg iter body [] _=>if fC iter then
  (match yP S c tg iter with
  | some q=>if eW q.2.1&&(q.2.2.1.endLine == q.2.2.2.line) then dY q.1 (cL (j8 (E c q.2.1)) (oF c tg) (fG r body)) bW else bW
  | none=>
  (match xP S c tg iter with
  | some j=>dY j (cL (gH (E c iter)) (oF c tg) (fG r body)) (cL (lH S (E c) c tg iter) (oF c tg) (fG r body))
  | none=>cL (lH S (E c) c tg iter) (oF c tg) (fG r body))
  )
  else bW
 | .While t body [] _=>Cq Pc (T c t) (fG r body)
 | .Pass _=>bJ
 | _=>bW
section
variable {S:Sig}{F:Str->MF}{k:Nat}{c:Cs}{X:Cx}
theorem DP (a:X.env.scope.names=c.ks){x:Str}(h:iN c x=true):L2.Loc X.env.scope x:=by
 unfold iN at h
 rw [WU] at h
 unfold L2.Loc
 rw [a]
 exact h.imp of_decide_eq_true of_decide_eq_true
theorem Okx.own (O:Okx S F k c X){x:Str}(h:iN c x=true):L2.Loc X.env.scope x:=DP O.ks h
theorem yQ (O:Okx S F k c X)(d:∀ x,X.fn x=true):∀ (a:List Expr)(b:List Nat),qL c a=some b->QGs X a b
 | [],b,h=>by cases h;exact B4
 | e::a,b,h=>by
  cases e with
  | Name x p=>
   unfold qL at h
   split at h
   ·rename_i m
    obtain ⟨i,j,h⟩:=Tu.mp h
    obtain ⟨n,l,h⟩:=Tz.mp h
    subst h
    exact B5 i O.nd (yQ O d a n l) (by rw [O.N];exact lF j) (O.own m) (.inl (d x))
   ·cases h
  | _=>cases h
theorem tK (O:Okx S F k c X)(b:∀ x,X.fn x=true)(e:Expr):QG X e (oF c e):=by
 unfold oF
 split
 ·split
  ·rename_i d
   split
   ·rename_i i a
    exact Lm i O.nd (by rw [O.N];exact lF a) (O.own d) (.inl (b _))
   ·exact sF fun _ _ _=>rfl
  ·exact sF fun _ _ _=>rfl
 ·split
  ·rename_i h a
   exact wI (yQ O b _ h a) O.calm
  ·exact sF fun _ _ _=>rfl
 ·exact sF fun _ _ _=>rfl
theorem fT {r:Stmt->MS}(a:∀ s,QS X s (r s)):∀ b:List Stmt,QB X b (fG r b)
 | []=>Lh
 | [s]=>Lj (a s)
 | s::t::ts=>Li (a s) (fT a (t::ts))
theorem Pe {elt tg iter:Expr}{ifs:List Expr}{scope:VY}{pos py:Vt}{y:Str}{n:Nat}{env:XU} :
  ∃ b:Bool,Xx (.ListComp elt [⟨tg,iter,ifs,0⟩] scope pos) (some (.Name y py)) n env=pure b/\(b=true->env.kindOf y=some .local):=by
 refine ⟨env.blockKind == .function&&env.kindOf y == some .local&&py.line == pos.line&&!(scope.names.any fun (n,k)=>n == y&&(k == .local||k == .cell)),rfl,fun h=>?_⟩
 simp only [Tw,beq_iff_eq] at h
 exact h.1.1.2
theorem yR (O:Okx S F k c X)(G:∀ x,X.fn x=true){E:Cs->Expr->ME}{T:Cs->Expr->MT}(u:∀ c X,Okx S F k c X->∀ e,QE X e (E c e))(v:∀ c X,Okx S F k c X->∀ e,QT X e (T c e))
  {i:Nat}{y:Str}{py l:Vt}(w:X.N[i]? = some y)(J:iN c y=true)(elt tg iter:Expr)(ifs:List Expr)(scope:VY)(pos:Vt){B:MI}(n:PI X tg iter (iG X.K B)):QS X (.Assign [.Name y py] (.ListComp elt [⟨tg,iter,ifs,0⟩] scope pos) l) (aP i (jE B E T c elt tg iter ifs scope)):=by
  obtain ⟨b,m,r⟩:=Pe (elt:=elt) (tg:=tg) (iter:=iter) (ifs:=ifs) (scope:=scope) (pos:=pos) (py:=py) (y:=y) (n:=l.line) (env:=X.env)
  cases b with
  | false=>exact ⟨Br O.nd w (O.own J) (tI u v c X O elt tg iter ifs scope pos n).h m (.inl (G y))⟩
  | true=>
   unfold jE
   split
   ·rename_i M A
    split
    ·rename_i h
     rw [Tw] at h
     refine ⟨fun o s L H D I q=>?_⟩
     exact LF ((qJ O h.1).1.ok I.ok) O.nd O.calm n (fun d K z=>(tH O A h.1 [] 0 s H []).2 d K z) (fun C j a p=>(tH O A h.1 _ C j a p).1) (fun C j a p=>(DJ (v _ _ (O.comp h.1)) _).h) (fun C j a p=>(u _ _ (O.comp h.1) _).h) (DL h.2) w (r rfl) m o s L H D I q
    ·exact CS
   ·exact CS
theorem Pf (O:Okx S F k c X)(h:∀ x,X.fn x=true){E:Cs->Expr->ME}{T:Cs->Expr->MT}(a:∀ c X,Okx S F k c X->∀ e,QE X e (E c e))(d:∀ c X,Okx S F k c X->∀ e,QT X e (T c e))
  {i:Nat}{y:Str}{py b:Vt}(j:X.N[i]? = some y)(l:iN c y=true)(e:Expr):QS X (.Assign [.Name y py] e b) (yN S E T c i e):=by
 unfold yN
 split
 ·split
  ·exact xF (yR O h a d j l _ _ _ _ _ _ ((xH (a c X O _)).h _)) (yR O h a d j l _ _ _ _ _ _ (oE O (a c X O) _ _))
  ·exact yR O h a d j l _ _ _ _ _ _ (oE O (a c X O) _ _)
 ·exact cH
theorem Pg (O:Okx S F k c X)(d:∀ x,X.fn x=true){E:Cs->Expr->ME}{T:Cs->Expr->MT}(a:∀ c X,Okx S F k c X->∀ e,QE X e (E c e))(q:∀ c X,Okx S F k c X->∀ e,QT X e (T c e))(tg e:Expr)(pos:Vt) :
  QS X (.Assign [tg] e pos) (yO S E T c tg e):=by
 unfold yO
 split
 ·split
  ·rename_i m
   split
   ·rename_i i j
    have b:=lF j
    rw [<- O.N] at b
    split
    ·rename_i l
     exact B3 i O.nd (a c X O e) l b (O.own m) (.inl (d _))
    ·exact Pf O d a q b m e
   ·exact cH
  ·exact cH
 ·split
  ·rename_i l
   split
   ·rename_i s j
    exact Lo (a c X O e) (wI (yQ O d _ s j) O.calm) l
   ·exact cH
  ·exact cH
 ·split
  ·rename_i h
   rw [Tw] at h
   exact NV O.room (a c X O _) (a c X O _) (a c X O _) h.1
  ·exact cH
 ·split
  ·rename_i y r
   split
   ·rename_i h
    obtain ⟨C,n,o,p⟩:=O.ob _ y r
    exact Mw (a c X O _) (a c X O _) h n o p
   ·exact cH
  ·exact cH
 ·exact cH
theorem Ph (O:Okx S F k c X)(m:∀ x,X.fn x=true){E:Cs->Expr->ME}{T:Cs->Expr->MT}(i:∀ c X,Okx S F k c X->∀ e,QE X e (E c e))(u:∀ c X,Okx S F k c X->∀ e,QT X e (T c e)){r:Stmt->MS}(j:∀ s,QS X s (r s))(st:Stmt) :
  QS X st (DO S E T c r st):=by
 cases st with
 | Return o p=>
  cases o with
  | none=>exact LV
  | some e=>exact B1 (i c X O _)
 | If t a b p=>exact B2 (u c X O _) (fT j _) (fT j _)
 | Assign w e p=>
  cases w with
  | nil=>exact cH
  | cons G H=>
   cases H with
   | nil=>exact Pg O m i u _ _ _
   | cons _ _=>exact cH
 | Expr e p=>
  show QS X _ (if d7 e then dS (E c e) else bW)
  split
  ·rename_i h;exact Ll (i c X O _) h
  ·exact cH
 | For G n l d p=>
  cases d with
  | cons _ _=>exact cH
  | nil=>
   show QS X _ (if fC n then _ else bW)
   split
   ·rename_i h
    split
    ·rename_i q A
     split
     ·rename_i v
      rw [Tw] at v
      obtain ⟨e,z,B,pt,y⟩:=Pd A
      rw [e] at h ⊢
      subst y
      exact xF (sT ((Oy (i c X O _) v.1 v.2).h z B pt) (tK O m _) (fT j _) O.never O.calm h) cH
     ·exact cH
    split
    ·exact xF (sT ((xH (i c X O _)).h _) (tK O m _) (fT j _) O.never O.calm h) (sT (oE O (i c X O) _ _) (tK O m _) (fT j _) O.never O.calm h)
    exact sT (oE O (i c X O) _ _) (tK O m _) (fT j _) O.never O.calm h
   ·exact cH
 | While t l d p=>
  cases d with
  | nil=>exact LU _ (u c X O _) (fT j _) O.never
  | cons _ _=>exact cH
 | Pass p=>exact Lk
 | _=>exact cH
end
noncomputable def b8 (st:Stmt):List Str:=(bN st).args.map (·.arg)
noncomputable def dO (st:Stmt):List Str:=b8 st++(aU st).names.filterMap fun y=>if (y.2 == NameKind.local||y.2 == Wb)&&!(b8 st).contains y.1 then some y.1 else none
noncomputable def iO (st:Stmt):Bool:=
 decide ((aU st).kind=.function)&&!(aU st).isCoroutine&&!(aU st).isGenerator&&decide (dO st).Nodup &&
 ((b8 st).all fun x=>decide ((aU st).names.lookup x=some .local)||decide ((aU st).names.lookup x=some .cell))&&((aU st).names.all fun y=>decide (y.2≠.free))
theorem DQ {st:Stmt}(h:iO st=true):FnScope (dO st) (b8 st) (aU st):=by
 unfold iO at h
 simp only [Tw,decide_eq_true_eq,W8,Vm,WU] at h
 obtain ⟨⟨⟨⟨⟨a,b⟩,c⟩,d⟩,e⟩,i⟩:=h
 exact ⟨a,b,c,d,by unfold dO;simp,e,i⟩
noncomputable def oG:Nat:=40
noncomputable def oH:Nat:=40
noncomputable def yS (S:Sig)(G:Str->RF)(E:Expr->ME)(o:Expr)(m:Str)(a:Vt)(args:List Expr)(p:Vt):MR:=match S.mt.lookup m with
 | some q=>if eW o&&(a.endLine == p.line)&&args.all cD&&decide (args.length=q.2.2)&&decide (args.length<30)&&S.rz.contains q.2.1 then iJ q.1 m (G q.2.1) (E o) (dN E args) else bX
 | none=>bX
noncomputable def tL (S:Sig)(G:Str->RF)(E:Expr->ME)(c:Cs):Expr->MR
 | .Call f args kws p=>(match f,args,kws with
  | .Name x _,e::es,[]=>if glob c x&&decide (S.fn.lookup x=some (e::es).length)&&(e::es).all cD&&S.rz.contains x then mF (G x) (dN E (e::es)) else bX
  | .Attribute o m apos,args,[]=>yS S G E o m apos args p
  | _,_,_=>bX)
 | _=>bX
noncomputable def yT:Expr->Option Expr
 | .List es _=>(match es with|[e]=>some e|_=>none)
 | _=>none
theorem Pj {e a:Expr}(h:yT e=some a):∃ p,e=.List [a] p:=by
 unfold yT at h
 split at h
 ·split at h
  ·cases h;exact ⟨_,rfl⟩
  ·cases h
 ·cases h
noncomputable def mQ (S:Sig)(G:Str->RF)(E:Expr->ME)(c:Cs)(e:Expr):MR:=match yT e with
 | some a=>if cD a then tL S G E c a else bX
 | none=>tL S G E c e
noncomputable def tN:Option Expr->Option (Str×List Expr)
 | some (.Call f args kws _)=>(match f,kws with
  | .Name x _,[]=>some (x,args)
  | _,_=>none)
 | _=>none
theorem Pk {e:Option Expr}{x:Str}{args:List Expr}(h:tN e=some (x,args)):∃ p q,e=some (.Call (.Name x p) args [] q):=by
 unfold tN at h
 split at h
 ·split at h
  ·cases h;exact ⟨_,_,rfl⟩
  ·cases h
 ·cases h
noncomputable def tP (S:Sig)(k:Nat)(E:Expr->ME)(c:Cs)(x:Str)(args:List Expr):MR:=
 if glob c x then (match S.cls.lookup x with
  | some _=>bX
  | none=>(match args with
   | e::es=>if (S.sup.lookup x).isSome&&(e::es).all cD&&decide ((e::es).length<=30) then pV x (dN E (e::es)) else bX
   | []=>bX)
  ) else bX
noncomputable def oI (N:Stmt->MS)(r:Stmt->MR):List Stmt->MR
 | []=>bX
 | s::t=>c9 (N s) (r s) (oI N r t)
noncomputable def mR:List Expr->Bool
 | [t]=>(mP t).isSome
 | _=>false
theorem Pl {tg:List Expr}(h:mR tg=true):∃ x p,tg=[.Name x p]:=by
 cases tg with
 | nil=>cases h
 | cons t a=>
  cases a with
  | cons _ _=>cases h
  | nil=>
   cases t with
   | Name x p=>exact ⟨x,p,rfl⟩
   | _=>cases h
noncomputable def yU (S:Sig)(G:Str->RF)(k:Nat)(E:Expr->ME)(T:Expr->MT)(c:Cs)(N:Stmt->MS)(r:Stmt->MR):Stmt->MR
 | .Expr e _=>if d7 e then mQ S G E c e else bX
 | .Return (some e) _=>mQ S G E c e
 | .Assign tg e _=>if mR tg&&d7 e then mQ S G E c e else bX
 | .If t a b _=>mE (T t) (oI N r a) (oI N r b)
 | .Raise e o _=>if o.isNone then (match tN e with
  | some q=>tP S k E c q.1 q.2
  | none=>bX) else bX
 | _=>bX
noncomputable def yV (S:Sig)(c:Cs):Expr->ME
 | .Name x _=>if iY c x then (match fS x c.N with|some i=>aA i|none=>bH) else bH
 | _=>bH
noncomputable def tQ:List Expr->Option (List Str)
 | []=>some []
 | e::r=>(mP e).bind fun x=>(tQ r).map (x::·)
noncomputable def yW (f:Expr)(args:List Expr):Option (Expr×List Str):=match f with
 | .Name x _=>if (x == "isinstance")=true then (match args with
  | [a,b]=>(match b with
   | .Tuple es _ _=>(tQ es).map fun l=>(a,l)
   | _=>none)
  | _=>none) else none
 | _=>none
noncomputable def DR (S:Sig)(U:Str->MF)(c:Cs)(r:Expr->ME)(f:Expr)(args:List Expr):ME:=match yI S f args with
 | some q=>if glob c "isinstance" && S.no.contains "isinstance" && glob c q.2&&cD q.1&&(!(q.2 == "ValueError")||S.no.contains "ValueError") then jC (fun x=>(S.sup.lookup x).map fun a=>a.contains q.2) (r q.1) else bH
 | none=>(match yW f args with
  | some q=>if glob c "isinstance" && S.no.contains "isinstance" && cD q.1&&(q.2.all fun n=>glob c n&&(S.sup.lookup n).isSome)&&decide (q.2.length<=TZ)&&!q.2.isEmpty then jC (fun x=>((S.sup.lookup x).map fun a=>q.2.map fun n=>a.contains n).map fun b=>b.any id) (r q.1) else bH
  | none=>bH)
noncomputable def yX (S:Sig)(U:Str->MF)(q:Bool)(c:Cs)(b:Cs->Expr->ME)(r:Expr->ME):Expr->ME
 | .Constant v _ _=>tF v
 | .UnaryOp op a _=>(match op with
  | .Not=>lX (r a)
  | _=>bH)
 | .BoolOp op es _=>qF op (es.map r)
 | .Call f args kws _=>(match kws with
  | []=>DR S U c r f args
  | _=>bH)
 | .List es _=>if es.all cD then cI (dN r es) else bH
 | e=>yV S c e
noncomputable def lI (S:Sig)(U:Str->MF):Nat->Bool->Cs->Expr->ME
 | 0=>fun _ _ _=>bH
 | n+1=>fun q c=>yX S U q c (lI S U n false) (lI S U n q c)
noncomputable def qM (c:Cs)(r:Expr->ME):Nat->Stmt->MS
 | 0=>fun _=>bW
 | n+1=>fun st=>match st with
  | .Return (some e) _=>a8 (r e)
  | .If t a b _=>if pR t then bI (aR (r t)) (fG (qM c r n) a) (fG (qM c r n) b) else bW
  | _=>bW
noncomputable def mS:Nat:=9
noncomputable def yY (S:Sig)(q:Bool)(st:Stmt):MF:=pN (dO st).length (fG (qM ⟨dO st,(aU st).names⟩ (lI { S with uf:=[] } (fun _ _ _=>none) mS q ⟨dO st,(aU st).names⟩) mS) (bD st))
noncomputable def oJ (S:Sig)(x:Str):MF:=match S.uf.lookup x with
 | some st=>yY S false st
 | none=>fun _ _=>none
noncomputable def DS (S:Sig)(c:Cs):Stmt->MS
 | .Assign tg e _=>(match tg with
  | [t]=>(match mP t with
   | some y=>if iN c y&&d7 e then (match fS y c.N with|some i=>aP i (lI S (oJ S) mS false c e)|none=>bW) else bW
   | none=>bW)
  | _=>bW)
 | _=>bW
noncomputable def yZ (S:Sig)(c:Cs)(y:Str)(st:List Stmt):MS:=
 fG (DS S c) st
noncomputable def y4:List a0J->Option (Str×Str×List Stmt)
 | [.ExceptHandler (some t) (some y) (b::bs) _]=>(match t with
  | .Name cn _=>some (cn,y,b::bs)
  | _=>none)
 | _=>none
theorem Pm {a:List a0J}{q:Str×Str×List Stmt}(h:y4 a=some q):∃ p c b bs,a=[.ExceptHandler (some (.Name q.1 p)) (some q.2.1) (b::bs) c]/\q.2.2=b::bs:=by
 unfold y4 at h
 split at h
 ·split at h
  ·cases h;exact ⟨_,_,_,_,rfl,rfl⟩
  ·cases h
 ·cases h
noncomputable def DT (S:Sig)(c:Cs)(N:Stmt->MS)(r:Stmt->MR)(body:List Stmt)(a:List a0J):MS:=match y4 a with
 | some q=>if glob c q.1&&(S.sup.lookup q.1).isSome&&decide (c.ks.lookup q.2.1=some .local) then (match fS q.2.1 c.N with
  | some i=>kY (fG N body) (oI N r body) (fun x=>(S.sup.lookup x).map fun b=>b.contains q.1) i (yZ S c q.2.1 q.2.2)
  | none=>bW) else bW
 | none=>bW
noncomputable def y6 (S:Sig)(E:Cs->Expr->ME)(T:Cs->Expr->MT)(c:Cs)(N:Stmt->MS)(r:Stmt->MR):Stmt->MS
 | .Try body hs [] [] _=>DT S c N r body hs
 | st=>DO S E T c N st
noncomputable abbrev Pn:=@yU
noncomputable def gJ (S:Sig)(F:Str->MF)(G:Str->RF)(k m:Nat)(c:Cs):Nat->(Stmt->MS)×(Stmt->MR)
 | 0=>(fun _=>bW,fun _=>bX)
 | n+1=>(y6 S (tr S F m).1 (tr S F m).2 c (gJ S F G k m c n).1 (gJ S F G k m c n).2,Pn S G k ((tr S F m).1 c) ((tr S F m).2 c) c (gJ S F G k m c n).1 (gJ S F G k m c n).2)
noncomputable abbrev tR (l:Bool)(L:List (Str×Stmt))(U:Str->MF)(X:Cx):Prop:=∀ x,(L.lookup x).isSome=true->∃ (f:Addr)(a:Vc)(ps:List Str),FnU l X.prog X.w X.K X.mg X.base f a ps (dI X.K 1 (U x))/\X.mg x=some (.ref f)/\U8 X.K (.ref f)=true/\Binds X.K a ps []
structure Okr (S:Sig)(F:Str->MF)(G:Str->RF)(k:Nat)(c:Cs)(Y:Cx):Prop where
 o:Okx S F k c Y.nox
 ex:Y.ex=[]
 st:Y.stack=Y.env::Y.outer
 fr:∃ L,Y.env.frame=some L
 own:∀ x,Y.fn x=true
 rf:∀ x n,S.fn.lookup x=some n->∃ (f:Addr)(fd:Vc)(ps:List Str),FnOk Y.prog Y.w Y.K Y.mg Y.base (fD Y.prog Y.w) k f fd ps (iI Y.K n (G x))/\Y.mg x=some (.ref f)/\U8 Y.K (.ref f)=true/\Binds Y.K fd ps []
 rt:∀ m x y n,S.mt.lookup m=some (x,y,n)->∃ (C g:Addr)(fd:Vc)(ps:List Str),CAt Y.K x C/\Cls Y.K C/\Meth Y.K C m g/\FnOk Y.prog Y.w Y.K Y.mg Y.base (fD Y.prog Y.w) k g fd ps (iI Y.K (n+1) (G y))/\Binds Y.K fd ps []
 uf:tR false S.uf (oJ S) Y
section
variable {S:Sig}{F:Str->MF}{G:Str->RF}{k:Nat}{c:Cs}{Y:Cx}
theorem Po (O:Okr S F G k c Y){E:Expr->ME}(d:∀ e,QE Y.nox e (E e))(o:Expr)(m:Str)(a:Vt)(args:List Expr)(p:Vt):QRE Y (.Call (.Attribute o m a) args [] p) (yS S G E o m a args p):=by
 unfold yS
 split
 ·rename_i q x
  split
  ·rename_i h
   simp only [Tw,decide_eq_true_eq] at h
   obtain ⟨⟨⟨⟨⟨r,s⟩,u⟩,v⟩,w⟩,_⟩:=h
   obtain ⟨C,g,z,A,i,j,l,b,n⟩:=O.rt m q.1 q.2.1 q.2.2 x
   rw [<- v] at b
   cases args with
   | nil=>exact MH O.ex (d o) r s i j l b O.o.room n
   | cons e y=>exact MD O.ex (d o) r s i j l b O.o.room n (e8 d _ u) w
  ·exact nV
 ·exact nV
theorem DU (O:Okr S F G k c Y){E:Expr->ME}(b:∀ e,QE Y.nox e (E e))(e:Expr):QRE Y e (tL S G E c e):=by
 unfold tL
 split
 ·split
  ·split
   ·rename_i h
    rw [Tw,Tw,Tw,decide_eq_true_eq] at h
    obtain ⟨⟨⟨a,d⟩,i⟩,_⟩:=h
    obtain ⟨f,o,p,j,l,m,n⟩:=O.rf _ _ d
    exact Ma O.ex j O.o.room (O.o.gl a).1 l m n (e8 b _ i) (O.o.gl a).2
   ·exact nV
  ·exact Po O b _ _ _ _ _
  ·exact nV
 ·exact nV
theorem y8 (O:Okr S F G k c Y){E:Expr->ME}(b:∀ e,QE Y.nox e (E e))(e:Expr):QRE Y e (mQ S G E c e):=by
 unfold mQ
 split
 ·rename_i a d
  obtain ⟨p,rfl⟩:=Pj d
  split
  ·rename_i h
   exact MJ (DU O b a) h
  ·exact nV
 ·exact DU O b e
theorem Pp (O:Okr S F G k c Y){E:Expr->ME}(l:∀ e,QE Y.nox e (E e))(x:Str)(args:List Expr)(p q pos:Vt):QR Y (.Raise (some (.Call (.Name x p) args [] q)) none pos) (tP S k E c x args):=by
 unfold tP
 split
 ·rename_i a
  split
  ·exact iH
  ·rename_i m
   split
   ·split
    ·rename_i h
     rw [Tw,Tw,decide_eq_true_eq] at h
     obtain ⟨⟨b,d⟩,i⟩:=h
     obtain ⟨o,n⟩:=UR.mp b
     obtain ⟨C,j⟩:=O.o.xc.plain x o n m
     exact Mf j O.ex O.o.calm (O.o.gl a).1 (e8 l _ d) i (O.o.gl a).2
    ·exact iH
   ·exact iH
 ·exact iH
theorem qN {N:Stmt->MS}{r:Stmt->MR}(a:∀ s,QS Y.nox s (N s))(b:∀ s,QR Y s (r s)):∀ d:List Stmt,QRB Y d (oI N r d)
 | []=>L8
 | s::t=>L7 (a s) (b s) (qN a b t)
theorem Pq (O:Okr S F G k c Y){E:Expr->ME}{T:Expr->MT}(d:∀ e,QE Y.nox e (E e))(m:∀ e,QT Y.nox e (T e)){N:Stmt->MS}{r:Stmt->MR}(j:∀ s,QS Y.nox s (N s))(l:∀ s,QR Y s (r s))(st:Stmt):QR Y st (yU S G k E T c N r st):=by
 cases st with
 | Expr e p=>
  show QR Y _ (if d7 e then mQ S G E c e else bX)
  split
  ·rename_i h;exact L4 (y8 O d _) h
  ·exact iH
 | Return o p=>
  cases o with
  | none=>exact iH
  | some e=>exact L5 (y8 O d _)
 | Assign u e p=>
  show QR Y _ (if mR u&&d7 e then mQ S G E c e else bX)
  split
  ·rename_i h
   rw [Tw] at h
   obtain ⟨x,p,rfl⟩:=Pl h.1
   exact L6 (y8 O d _) h.2
  ·exact iH
 | If t a b p=>exact L9 (m _) (qN j l _) (qN j l _)
 | Raise e o p=>
  cases o with
  | some _=>exact iH
  | none=>
   show QR Y _ (match tN e with
    | some q=>tP S k E c q.1 q.2
    | none=>bX)
   split
   ·rename_i q n
    obtain ⟨x,i⟩:=q
    obtain ⟨v,w,rfl⟩:=Pk n
    exact Pp O d _ _ _ _ _
   ·exact iH
 | _=>exact iH
theorem Pr {X:Cx}(l:X.N=c.N)(m:X.env.scope.names=c.ks)(o:XcOk S X.K)(e:Expr):QE X e (yV S c e):=by
 have n:∀ x p i,iY c x=true->fS x c.N=some i->QE X (.Name x p) (aA i):=fun x p i h a=>by
  obtain ⟨b,d,j⟩:=DE m h
  exact BR i (by rw [l];exact lF a) b d j
 unfold yV
 split
 ·split
  ·rename_i h
   split
   ·rename_i i a;exact n _ _ i h a
   ·exact bL
  ·exact bL
 ·exact bL
theorem Pt {f:Expr}{args:List Expr}{a:Expr}{l:List Str}(h:yW f args=some (a,l)):∃ p b j m,f=.Name "isinstance" p/\args=[a,.Tuple b j m]/\tQ b=some l:=by
 unfold yW at h
 split at h
 ·split at h
  ·rename_i i
   cases beq_iff_eq.mp i
   split at h
   ·split at h
    ·obtain ⟨n,d,e⟩:=Tz.mp h
     cases e
     exact ⟨_,_,_,_,rfl,rfl,d⟩
    ·cases h
   ·cases h
  ·cases h
 ·cases h
theorem DV {X:Cx}(v:X.env.scope.names=c.ks)(b:X.K.In X.base)(q:X.base.Ns UI X.mg)(j:XcOk S X.K):∀ {o:List Expr}{l:List Str},tQ o=some l->(l.all fun n=>glob c n&&(S.sup.lookup n).isSome)=true->
  ∃ Cs,sO X o Cs/\Cs.length=l.length/\∀ x d,S.sup.lookup x=some d->Cs.map (fun C=>g8 X.K (.ref C) x)=(l.map fun n=>d.contains n).map some
 | [],l,h,_=>by cases h;exact ⟨[],trivial,rfl,fun _ _ _=>rfl⟩
 | e::r,l,h,ha=>by
  obtain ⟨x,B,h⟩:=Tu.mp h
  obtain ⟨K,z,A⟩:=Tz.mp h
  cases A
  obtain ⟨p,rfl⟩:=xS B
  rw [Uy,Tw,Tw] at ha
  obtain ⟨Cs,E,H,I⟩:=DV v b q j z ha.2
  obtain ⟨m,i⟩:=UR.mp ha.1.2
  obtain ⟨C,s,_⟩:=j.isx x m x i ha.1.2
  have g:=tG (X:=X) v ha.1.1
  refine ⟨C::Cs,⟨g.1,Wn b q (mG s),g.2,E⟩,by rw [Uk,Uk,H],fun y d u=>?_⟩
  obtain ⟨J,a,w⟩:=j.isx y d x u ha.1.2
  rw [s] at a
  cases a
  rw [TM,TM,TM,w,I y d u]
structure Okw (S:Sig)(U:Str->MF)(q:Bool)(c:Cs)(X:Cx):Prop where
 N:X.N=c.N
 nd:X.N.Nodup
 ks:X.env.scope.names=c.ks
 kind:X.env.scope.kind=.function
 no:∀ x,S.no.contains x=true->X.mg x=none
 xc:XcOk S X.K
 uf:tR false S.uf U X
 hd:S.uf≠[]->X.A.depth<YM
 sf:q=true->wV X
theorem trK_ok' {X:Cx}(v:Const)(j:Nat)(pos:Vt):QE X (.Constant v j pos) (tF v):=by
 cases v with
 | int i=>exact BS
 | bool b=>exact BU
 | str s=>exact BV
 | none=>exact BW
 | _=>exact bL
theorem y9 {U:Str->MF}:∀ (n:Nat)(q:Bool)(c:Cs)(X:Cx),Okw S U q c X->∀ e:Expr,QE X e (lI S U n q c e)
 | 0,_,_,_,_,_=>bL
 | n+1,q,c,X,O,e=>by
  have d:=y9 (U:=U) n q c X O
  show QE X e (yX S U q c (lI S U n false) (lI S U n q c) e)
  unfold yX
  split
  ·exact trK_ok' _ _ _
  ·split
   ·exact BX (d _)
   ·exact bL
  ·exact yK d _ _ _
  ·split
   ·unfold DR
    split
    ·rename_i q m
     obtain ⟨a,R⟩:=q
     obtain ⟨⟨p1,p2,rfl,rfl⟩,j⟩:=OJ m
     exact Pa (tG O.ks) O.no O.xc (d a) j
    ·split
     ·rename_i q m
      obtain ⟨a,l⟩:=q
      obtain ⟨p,T,Z,tp,rfl,rfl,J⟩:=Pt m
      split
      ·rename_i h
       rw [Tw,Tw,Tw,Tw,Tw,decide_eq_true_eq] at h
       obtain ⟨⟨⟨⟨⟨u,v⟩,w⟩,y⟩,A⟩,B⟩:=h
       refine ⟨fun i s N H Q I t=>?_⟩
       obtain ⟨Cs,K,L,M⟩:=DV O.ks I.mod.kin I.mod.glob O.xc J y
       refine (Mu (sup:=fun x=>(S.sup.lookup x).map fun o=>l.map fun n=>o.contains n) (d a) w (tG O.ks u).1 (O.no _ v) K (by rw [L];exact A) fun x b E=>?_).h i s N H Q I t
       obtain ⟨o,r,rfl⟩:=Tz.mp E
       refine ⟨M x o r,fun z=>?_⟩
       rw [YC] at z
       subst z
       cases B
      ·exact bL
     ·exact bL
   ·exact bL
  ·split
   ·rename_i h
    exact BY (e8 d _ h)
   ·exact bL
  ·exact Pr O.N O.ks O.xc _
theorem zA {X:Cx}{c:Cs}{r:Expr->ME}(b:X.N=c.N)(nd:X.N.Nodup)(d:∀ {y:Str},iN c y=true->Loc X.env.scope y)(fn:∀ x,X.fn x=true)(a:∀ e,QE X e (r e)):∀ (n:Nat)(st:Stmt),QS X st (qM c r n st)
 | 0,_=>cH
 | n+1,st=>by
  unfold qM
  split
  ·exact B1 (a _)
  ·split
   ·rename_i h
    exact B2 (K8 (a _) h) (fT (zA b nd d fn a n) _) (fT (zA b nd d fn a n) _)
   ·exact cH
  ·exact cH
theorem Pu (O:Okr S F G k c Y)(v:Value)(st:Stmt):QS (Y.hnd v) st (DS S c st):=by
 have a:∀ e,QE (Y.hnd v) e (lI S (oJ S) mS false c e):=y9 mS false c (Y.hnd v) ⟨O.o.N,O.o.nd,O.o.ks,O.o.kind,O.o.no,O.o.xc,O.uf,fun _=>O.o.room.depth,fun z=>nomatch z⟩
 cases st with
 | Assign d e p=>
  cases d with
  | nil=>exact cH
  | cons t j=>
   cases j with
   | cons _ _=>exact cH
   | nil=>
    cases t with
    | Name y p=>
     show QS _ _ (if iN c y&&d7 e then (match fS y c.N with|some i=>aP i _|none=>bW) else bW)
     split
     ·rename_i h
      rw [Tw] at h
      split
      ·rename_i i b
       exact B3 (X:=Y.hnd v) i O.o.nd (a _) h.2 (by show Y.N[i]? = _;rw [show Y.N=c.N from O.o.N];exact lF b) (O.o.own h.1) (.inl (O.own _))
      ·exact cH
     ·exact cH
    | _=>exact cH
 | _=>exact cH
theorem Pw (O:Okr S F G k c Y)(y:Str)(e:Addr)(st:List Stmt):QBh (Y.hnd (.ref e)) e st (yZ S c y st):=by
 unfold yZ
 exact (fT (Pu O (.ref e)) st).soft
theorem tS {m:Nat}:∀ (n:Nat)(Y:Cx),Okr S F G k c Y->(∀ st,QS Y.nox st ((gJ S F G k m c n).1 st))/\∀ st,QR Y st ((gJ S F G k m c n).2 st)
 | 0,Y,O=>⟨fun _=>cH,fun _=>iH⟩
 | n+1,Y,O=>by
  have a:=tS (m:=m) n
  refine ⟨fun st=>?_,fun st=>?_⟩
  rotate_left
  ·have d:QR Y st (yU S G k ((tr S F m).1 c) ((tr S F m).2 c) c (gJ S F G k m c n).1 (gJ S F G k m c n).2 st):=Pq O ((qK m).1 c _ O.o) ((qK m).2 c _ O.o) (a Y O).1 (a Y O).2 st
   exact d
  show QS Y.nox st (y6 S (tr S F m).1 (tr S F m).2 c (gJ S F G k m c n).1 (gJ S F G k m c n).2 st)
  unfold y6
  split
  ·unfold DT
   split
   ·rename_i q y
    obtain ⟨H,I,b,bs,rfl,u⟩:=Pm y
    split
    ·rename_i h
     rw [Tw,Tw,decide_eq_true_eq] at h
     obtain ⟨⟨j,p⟩,r⟩:=h
     split
     ·rename_i i w
      obtain ⟨L,s⟩:=O.fr
      refine Ml (X:=Y.nox) O.ex O.st s O.o.nd (by show Y.N[i]? = _;rw [show Y.N=c.N from O.o.N];exact lF w) (by rw [<- r,<- O.o.ks]) (O.o.gl j).1 (O.o.gl j).2 (fun x B z=>?_) (fT (a Y O).1 _) (fun E=>?_) (fun v=>?_)
      ·obtain ⟨A,l,o⟩:=Tz.mp z
       rw [<- o]
       exact O.o.xc.sub x A _ l p
      ·have e:Okr S F G k c (Y.nox.wish E):=⟨O.o,O.ex,O.st,O.fr,O.own,O.rf
        ,O.rt
        ,O.uf
        ⟩
       exact qN (a _ e).1 (a _ e).2 _
      ·rw [u]
       exact Pw O _ v (b::bs)
     ·exact cH
    ·exact cH
   ·exact cH
  ·exact Ph O.o O.own (qK m).1 (qK m).2 (a Y O).1 st
end
noncomputable def lk (S:Sig)(ds:List (Str×Stmt))(x:Str):Option Stmt:=match ds.lookup x with
 | some st=>some st
 | none=>S.ms.lookup x
noncomputable abbrev Sig.at (S:Sig)(_:Nat):Sig:=S
noncomputable def zB (S:Sig)(F:Str->MF)(G:Str->RF)(k:Nat)(st:Stmt):MF:=pN (dO st).length (fG (gJ (S.at k) F G k oG ⟨dO st,(aU st).names⟩ oH).1 (bD st))
noncomputable def zC (S:Sig)(F:Str->MF)(G:Str->RF)(k:Nat)(st:Stmt):RF:=wR (dO st).length (oI (gJ (S.at k) F G k oG ⟨dO st,(aU st).names⟩ oH).1 (gJ (S.at k) F G k oG ⟨dO st,(aU st).names⟩ oH).2 (bD st))
noncomputable def mT (S:Sig)(ds:List (Str×Stmt)):Nat->(Str->MF)×(Str->RF)
 | 0=>(fun _ _ _=>none,fun _ _ _=>none)
 | k+1=>(fun x=>match lk S ds x with
   | none=>match S.mc.lookup x with
    | none=>fun _ _=>none
    | some q=>(mT S ds k).1 q.1
   | some st=>zB S (mT S ds k).1 (mT S ds k).2 k st,fun x=>match lk S ds x with
   | none=>fun _ _=>none
   | some st=>zC S (mT S ds k).1 (mT S ds k).2 k st)
noncomputable def fH (S:Sig)(ds:List (Str×Stmt))(k:Nat):Str->MF:=(mT S ds k).1
noncomputable def lJ (S:Sig)(ds:List (Str×Stmt))(k:Nat):Str->RF:=(mT S ds k).2
structure DefAt (K:Tv)(mg:Str->Option Value)(x:Str)(st:Stmt):Prop where
 ex:∃ f fd,Fun K x x st f fd/\mg x=some (.ref f)/\Binds K fd (b8 st) []
noncomputable def mU (K:Tv)(s:Option Stmt)(n:Nat)(g:Addr):Prop:=∃ a nm q st,s=some st/\Fun K nm q st g a/\Binds K a (b8 st) []/\(b8 st).length=n+1
structure TxtOk (P:Ud)(w:Uv)(K:Tv)(mg:Str->Option Value)(S:Sig)(ds:List (Str×Stmt)):Prop where
 fns:∀ x n,S.fn.lookup x=some n->∃ st,ds.lookup x=some st/\(b8 st).length=n
 defs:∀ x st,ds.lookup x=some st->DefAt K mg x st/\iO st=true
 con:∀ x d,S.con.lookup x=some d->∃ v u,mg x=some u/\RelV v u/\∀ π n H,IsD K π n H v d
 tab:∀ x kvs,S.tab.lookup x=some kvs->∃ (p:Addr)(vs:List (aM×V))(ws:List (aM×Value)),mg x=some (.ref p)/\(∀ h:UU,K.In h->h.DictOf (lT P w) p ws)/\KV vs ws/\∀ π n H,IsKs K π n H vs kvs
 no:∀ x,S.no.contains x=true->mg x=none
 xc:XcOk S K
 uf:∀ x st,S.uf.lookup x=some st->ds.lookup x=some st/\(b8 st).length=1
 ob:∀ f x,S.ob.lookup f=some x->∃ C,CAt K x C/\Cls K C/\NoAttr K C f
 mt:∀ m x y n,S.mt.lookup m=some (x,y,n)->∃ (C g:Addr),CAt K x C/\Cls K C/\Meth K C m g/\mU K (lk S ds y) n g
 mc:∀ x y n,S.mc.lookup x=some (y,n)->lk S ds x=none/\∃ (C g:Addr),CAt K x C/\Mk K C g/\mU K (lk S ds y) n g
 ms:∀ y st,S.ms.lookup y=some st->iO st=true
theorem Px {P:Ud}{w:Uv}{K:Tv}{j:Str->Option Value}{S:Sig}{ds:List (Str×Stmt)}(T:TxtOk P w K j S ds)(l:Bool)(L:List (Str×Stmt))(B:∀ x st,L.lookup x=some st->ds.lookup x=some st/\(b8 st).length=1)(U:Str->MF)(E:∀ x st,L.lookup x=some st->U x=yY S l st)
  (X:Cx)(o:X.prog=P)(p:X.w=w)(q:X.K=K)(r:X.mg=j):tR l L U X:=fun x J=>by
 subst o p q r
 obtain ⟨st,i⟩:=UR.mp J
 obtain ⟨G,I⟩:=B x st i
 obtain ⟨v,u⟩:=T.defs x st G
 obtain ⟨f,n,F,m,b⟩:=v.ex
 have c:=DQ u
 refine ⟨f,n,b8 st,?_,m,F.kp,b⟩
 rw [E x st i,<- I]
 unfold yY
 refine Ms F c (by unfold dO;simp) fun a A outer s H d=>?_
 refine fT (zA (X:=kZ X.prog X.w X.K X.mg X.base (dO st) x (aU st) f a A outer s H) (c:=⟨dO st,(aU st).names⟩) rfl c.nd (fun {y} h=>DP (c:=⟨dO st,(aU st).names⟩) rfl h) (fun _=>rfl) (fun e=>?_) mS) (bD st)
 exact y9 (S:={ S with uf:=[] }) mS l ⟨dO st,(aU st).names⟩ (kZ X.prog X.w X.K X.mg X.base (dO st) x (aU st) f a A outer s H) ⟨rfl,c.nd,rfl,c.kind,T.no,{ T.xc with },(fun y M=>nomatch M),(fun z=>absurd rfl z),d⟩ e
theorem Py {P:Ud}{w:Uv}{K:Tv}{a:Str->Option Value}{S:Sig}{ds:List (Str×Stmt)}(T:TxtOk P w K a S ds)(X:Cx)(b:X.prog=P)(c:X.w=w)(d:X.K=K)(e:X.mg=a):tR false S.uf (oJ S) X:=
 Px T false S.uf T.uf (oJ S) (fun x st h=>by unfold oJ;rw [h]) X b c d e
theorem TxtOk.at {P:Ud}{w:Uv}{K:Tv}{a:Str->Option Value}{S:Sig}{ds:List (Str×Stmt)}(T:TxtOk P w K a S ds)(k:Nat):TxtOk P w K a (S.at k) ds:=
 T
theorem zD {S:Sig}{ds:List (Str×Stmt)}{x:Str}{st:Stmt}(h:ds.lookup x=some st):lk S ds x=some st:=by
 unfold lk
 rw [h]
theorem TxtOk.sc {P:Ud}{w:Uv}{K:Tv}{b:Str->Option Value}{S:Sig}{ds:List (Str×Stmt)}(T:TxtOk P w K b S ds){x:Str}{st:Stmt}(h:lk S ds x=some st):iO st=true:=by
 unfold lk at h
 split at h
 ·rename_i a
  cases h
  exact (T.defs _ _ a).2
 ·exact T.ms _ _ h
theorem PB {P:Ud}{w:Uv}{K:Tv}{mg:Str->Option Value}{base:UU}{S:Sig}{ds:List (Str×Stmt)}(T:TxtOk P w K mg S ds)(k:Nat):∀ (x:Str)(st:Stmt)(nm q:Str)(f:Addr)(Y:Vc),lk S ds x=some st->Fun K nm q st f Y->
  FnOk P w K mg base dC k f Y (b8 st) (dI K (b8 st).length (fH S ds k x))/\FnOk P w K mg base (fD P w) k f Y (b8 st) (iI K (b8 st).length (lJ S ds k x)):=by
 induction k using Nat.strongRecOn with
 | _ k M=>
 intro x st nm q f Y hl hF
 cases k with
 | zero=>exact ⟨⟨fun vs H Q E h=>h.1,fun A outer s H G us vs Q E B he hb hv hs=>by
   obtain ⟨_,π,ds',μ,d,μ',R,i,hm,kc⟩:=hs
   cases hm⟩,⟨fun vs H Q E h=>h.1,fun A outer s H G us vs Q E B he hb hv hs=>by
   obtain ⟨_,π,ds',μ,d,μ',R,i,hm,kc⟩:=hs
   cases hm⟩⟩
 | succ k=>
  have Z:=M k (VG k)
  have e:fH S ds (k+1) x=zB S (fH S ds k) (lJ S ds k) k st:=by
   show (match lk S ds x with|none=>_|some st=>zB S (fH S ds k) (lJ S ds k) k st)=_
   rw [hl]
  have e2:lJ S ds (k+1) x=zC S (fH S ds k) (lJ S ds k) k st:=by
   show (match lk S ds x with|none=>_|some st=>zC S (fH S ds k) (lJ S ds k) k st)=_
   rw [hl]
  rw [e,e2]
  have X:=DQ (T.sc hl)
  have O:∀ (CX:fK)(c:Value)(A:Ur)(outer:List XU)(s:TC)(H:Hp)(E:XK),Room k (A.deeper (Xb q (aU st) s.heap.objs.size f c))->Okr (S.at k) (fH S ds k) (lJ S ds k) k ⟨dO st,(aU st).names⟩ (eA CX P w K mg base (dO st) q (aU st) f c A outer s H E):=fun CX c A outer s H E B=>by
   refine ⟨⟨rfl,X.nd,rfl,X.kind,rfl,B,a0w,fun y n r=>?_,T.con,fun y kvs q=>⟨T.tab y kvs q⟩,T.no,(T.at k).xc
    ,T.ob,fun m y z n r=>?_,fun y z n r=>?_
    ⟩,rfl,rfl,⟨_,rfl⟩,fun _=>rfl,fun y n r=>?_
    ,fun m y z n r=>?_
    ,Py (T.at k) _ rfl rfl rfl rfl
    ⟩
   ·obtain ⟨a,l,v⟩:=T.fns y n r
    obtain ⟨L,b,j,m',u⟩:=(T.defs y a l).1.ex
    subst v
    exact ⟨L,b,b8 a,(Z y a _ _ L b (zD l) j).1,m',j.kp,u⟩
   ·obtain ⟨C,g,I,J,c3,b,p,U,a,l,j,u,v⟩:=T.mt m y z n r
    have:=(Z z a p U g b l j).1
    rw [v] at this
    exact ⟨C,g,b,b8 a,I,J,c3,this,u⟩
   ·obtain ⟨h0,C,g,I,J,b,p,U,a,l,j,u,v⟩:=T.mc y z n r
    cases k with
    | zero=>exact .inl fun _ _=>rfl
    | succ N=>
     have:=(M N (by omega) z a p U g b l j).1
     rw [v] at this
     have e3:fH S ds (N+1) y=fH S ds N z:=by
      show (match lk S ds y with|none=>(match S.mc.lookup y with|none=>fun _ _=>none|some q=>fH S ds N q.1)|some st=>_)=_
      rw [h0]
      dsimp only
      rw [r]
     rw [<- e3] at this
     exact .inr ⟨N,C,g,b,b8 a,rfl,I,J,this,u⟩
   ·obtain ⟨a,l,v⟩:=T.fns y n r
    obtain ⟨L,b,j,m',u⟩:=(T.defs y a l).1.ex
    subst v
    exact ⟨L,b,b8 a,(Z y a _ _ L b (zD l) j).2,m',j.kp,u⟩
   ·obtain ⟨C,g,I,J,c3,b,p,U,a,l,j,u,v⟩:=T.mt m y z n r
    have:=(Z z a p U g b l j).2
    rw [v] at this
    exact ⟨C,g,b,b8 a,I,J,c3,this,u⟩
  refine ⟨Lp hF X (by unfold dO;simp) rfl fun c A outer s H E B=>?_,Mb hF X (by unfold dO;simp) rfl fun c A outer s H E B=>?_⟩
  ·exact fT (tS (m:=oG) oH _ (O dC c A outer s H E B)).1 (bD st)
  ·have o:=O (fD P w) c A outer s H E B
   exact qN (tS (m:=oG) oH _ o).1 (tS (m:=oG) oH _ o).2 (bD st)
theorem PC {P:Ud}{w:Uv}{K:Tv}{b:Str->Option Value}{base:UU}{S:Sig}{ds:List (Str×Stmt)}(T:TxtOk P w K b S ds)(k:Nat)(x:Str)(st:Stmt)(f:Addr)(a:Vc)(d:ds.lookup x=some st)(c:Fun K x x st f a) :
  FnOk P w K b base dC k f a (b8 st) (dI K (b8 st).length (fH S ds k x)):=(PB T k x st x x f a (zD d) c).1
theorem DW:∀ {ns:List Int}{b:Nat},Xz (ns.map Xr)<=b->∀ n∈ns,Uz n<=b
 | [],_,_,n,a=>nomatch a
 | m::ns,b,h,n,a=>by
  have e:Xz ((m::ns).map Xr)=Ze (.int m)+1+Xz (ns.map Xr):=rfl
  have c:Ze (.int m)=Uz m:=rfl
  rw [e,c] at h
  rcases Uq.mp a with rfl|a
  ·omega
  ·exact DW (b:=b) (by omega) n a
section
open PySem PySem.W PySem.Calls PyProof.Rows
theorem PD {l:a0R}{n:Nat}{q:Ud}{loose:List Str}{XP:(Str->Option Value)->UU->Prop}{YP:Uv->UU->Prop}{d:DefRec}
  (Z:l.most=some n)(A:d.params.defaults=[])
  (call:∀ (w:Uv)(s₀ b:TC)(v H:Str->Option Value)(h:Addr)(o:Obj)(I u c:Value)(a:Addr)(vs:List Value)(ns:List Int),
   Ground q loose [] XP w s₀ v H b.heap->YP w b.heap->
   b.heap.get? h=some o->o.data=.func (docDef d.name d.params d.body d.scope I u c)->b.heap.CodeRec u d.name->v d.name=some (.ref h)->
   b.heap.get? a=some { cls:=.type "list",data:=.seq vs.toArray }->a1r vs ns->ns.length<=n->(∀ m∈ns,Uz m<=2 ^ 20)->b.gens = #[]->
   XF (Ul l.prog w) Zq (.call (.ref h) ⟨[.ref a],[]⟩) (fun r x=>r=.ok (.ret (.bool true))/\OldK b.heap x.heap/\x.os=b.os/\Ye x.gens) b) :
  a1z q loose XP YP l.row.toRowW d [] (fun f vs=>a2K f vs):=by
 intro w s₀ b v H G Y h o I u c M kV ho hd z K B T J L as s i hrd E U
 obtain rfl:M=.none:=Dflts.none K A
 obtain rfl:kV=.none:=Dflts.noKw K
 obtain ⟨a,vs,ns,rfl,rfl,p,e,j⟩:=Att.script_of Z s E
 have R:∀ m∈ns,Uz m<=2 ^ 20:=by
  have y:Y9 (.list (ns.map Xr))=true:=by
   have:=i
   unfold a2L at this
   simpa using this
  unfold Y9 at y
  rw [Tw] at y
  exact DW (of_decide_eq_true y.2)
 refine enter_call (X0 (call w s₀ b v H h o I u c a vs ns G Y ho (fd_plain hd) z B p e j R T) fun r x hq=>?_)
 obtain ⟨rfl,N,O,Q⟩:=hq
 exact ⟨.inl ⟨.bool true,.bool true,[],rfl,fun _=>rfl,.bool true,Att.post_true l _,fun _=>⟨a2Q,fun _ X=>(nomatch X)⟩⟩,N,O,Q⟩
end
theorem walkM {l:a0R}{q:Ud}{loose:List Str}{XP:(Str->Option Value)->UU->Prop}{YP:Uv->UU->Prop}{d:DefRec}{K:VC->Tv}{S:Sig}{ds:List (Str×Stmt)}{k:Nat}{st:Stmt}{x:Str}(hn:l.most=some 63)(N:d.params.defaults=[])
  (hr:Room k Zq)(hY:∀ (w:Uv)(h:UU),YP w h->(K w.params).In h)(hl:ds.lookup d.name=some st)(hx:b8 st=[x])
  (T:∀ (w:Uv)(E:Str->Option Value)(h:UU),(K w.params).In h->h.Ns UI E->TxtOk l.prog w (K w.params) E S ds/\∃ f J,Fun (K w.params) d.name d.name st f J/\E d.name=some (.ref f)/\∀ (s:TC)(u:Value),YW s J ⟨[u],[]⟩ [(x,u)])
  (M:∀ b:List Int,b.length<=63->(∀ m∈b,Uz m<=2 ^ 20)->∃ y,fH S ds k d.name [.rol (b.map D.int)] []=some (.bl true,y)) :
  a1z q loose XP YP l.row.toRowW d [] (fun f vs=>a2K f vs):=by
 refine PD hn N fun w Z s₁ E mb fa o pm cd doc a vs b G Y ho hd hcd Q B p c L hg=>?_
 have U:=hY w _ Y
 obtain ⟨hT,f,J,hF,X,hb⟩:=T w E _ U G.T.g
 rw [Q] at X
 cases X
 refine L2.law_call (CX:=dC) (sp:=dI (K w.params) 1 (fH S ds k d.name)) U G.T.g G.T.b G.T.builtins G.T.nolimit hg B p (UT c (by decide)) hr (fun A hb1 hb2=>?_) hb (fun H hO hS=>?_) fun H e s' z=>z
 ·have:=PC (base:=A) hT k d.name st fa J hl hF
  rw [hx] at this
  exact this
 ·refine ⟨rfl,fun _=>0,[.rol (b.map D.int)],[],.bl true,?_⟩
  obtain ⟨y,hM⟩:=M b c L
  have R:RoL (K w.params) H a (b.map V.int):=by
   rcases hS with (h|h)|h
   ·rcases hO a with z|⟨o,I,z⟩
    ·rw [z] at h;cases h
    ·rw [z] at h;cases h
   ·exact .inl h
   ·exact .inr h
  refine ⟨y,⟨fun i j O=>absurd O (XB _),fun i O=>absurd O (XB _),fun i I h=>(by cases h),fun i I h=>(by cases h),fun i I h=>(by cases h)
   ,fun i I h=>(by cases h)
   ,fun i I h=>(by cases h)
   ,fun i x b ds h=>(by cases h)
   ,fun i x fs h=>(by cases h)
   ⟩,.cons (.rol R ?_) .nil,hM,fun π' v H' _ _ hv=>?_⟩
  ·have:∀ b:List Int,IsDs (K w.params) (fun _=>0) ([]:Hm).length H (b.map V.int) (b.map D.int):=fun b=>by
    induction b with
    | nil=>exact .nil
    | cons n r ih=>exact .cons (.int n) ih
   exact this b
  ·cases hv
   rfl
end L3
namespace L3
open PySem L2
theorem fU {a:Type}:∀ {l:List (Str×a)}{x:Str}{b:a},l.lookup x=some b->(x,b)∈l:=fun h=>Vf h
theorem PF {S:Sig}{ds:List (Str×Stmt)}(h:(S.fn.all fun p=>match ds.lookup p.1 with|some st=>decide ((b8 st).length=p.2)|none=>false)=true):∀ x n,S.fn.lookup x=some n->∃ st,ds.lookup x=some st/\(b8 st).length=n:=by
 intro x n e
 have:=Vm.mp h (x,n) (fU e)
 dsimp only at this
 split at this
 ·rename_i st a
  exact ⟨st,a,of_decide_eq_true this⟩
 ·cases this
theorem PH {K:Tv}{a:Str->Option Value}{ds:List (Str×Stmt)}(h:∀ p∈ds,DefAt K a p.1 p.2/\iO p.2=true):∀ x st,ds.lookup x=some st->DefAt K a x st/\iO st=true:=fun x st e=>h (x,st) (fU e)
theorem PK {K:Tv}{b:Str->Option Value}{a:List (Str×D)}(h:∀ p∈a,∃ v u,b p.1=some u/\RelV v u/\∀ π n H,IsD K π n H v p.2):∀ x d,a.lookup x=some d->∃ v u,b x=some u/\RelV v u/\∀ π n H,IsD K π n H v d:=fun x d e=>h (x,d) (fU e)
theorem PL {L ds:List (Str×Stmt)}(h:L.map (fun p=>ds.lookup p.1)=L.map fun p=>some p.2)(a:(L.all fun p=>decide ((b8 p.2).length=1))=true):∀ x st,L.lookup x=some st->ds.lookup x=some st/\(b8 st).length=1:=
 fun x st e=>⟨YS.mp h (x,st) (fU e),of_decide_eq_true (Vm.mp a (x,st) (fU e))⟩
inductive EntsOf (w:Uv):List U7->List (aM×Value)->Prop where
 | nil:EntsOf w [] []
 | cons {e:U7}{k:aM}{v:Value}{es:List U7}{kvs:List (aM×Value)}(h:uP k e.key=true)(hh:e.hash=Ak w k)(hv:e.val=v)(t:EntsOf w es kvs):EntsOf w (e::es) ((k,v)::kvs)
theorem EntsOf.keys {P:Ud}{w:Uv}{c:List U7}{b:List (aM×Value)}(x:EntsOf w c b):∀ e∈c,∃ k,(lT P w).is k e.key=true/\e.hash=(lT P w).hash k:=by
 induction x with
 | nil=>intro e a;exact nomatch a
 | @cons e k v c b h i l _ j=>
  intro d a
  rcases Uq.mp a with rfl|a
  ·exact ⟨k,h,i⟩
  ·exact j d a
theorem PM {a:Str->Option Value}{ns:List Str}(h:∀ x∈ns,a x=none):∀ x,ns.contains x=true->a x=none:=fun x e=>h x (by simpa using e)
noncomputable def oK:Nat->(Nat->Value)->List Value
 | 0,_=>[]
 | n+1,u=>u 0::oK n fun i=>u (i+1)
theorem zE:∀ us:List Value,∃ u,us=oK us.length u
 | []=>⟨fun _=>.none,rfl⟩
 | v::us=>let ⟨u,a⟩:=zE us;⟨fun i=>match i with|0=>v|i+1=>u i,congrArg (v::·) a⟩
noncomputable abbrev DX:Type:=Value->Value->Value->Option Addr->Value->Value->(Nat->Value)->a1x (List (Str×Value))
noncomputable def PN (x:Str)(st:Stmt)(m:Value)(c:Addr):Obj:=⟨TU "function",none,.func (T8 x x (bN st) (bD st) (aU st) .none .none .none m none (.ref c) .none),#[]⟩
noncomputable def DY (K:Tv)(d:(Str×Stmt)×Value×Addr×Addr):Option (Option Value)×Option Obj×Bool×Bool×Bool×DX:=(Vo K UI d.1.1,K.lookup d.2.2.2,WY K (.ref d.2.2.1) d.1.1,U8 K (.ref d.2.2.2),iO d.1.2,fun kV b e c a ct u=>a0j (T8 d.1.1 d.1.1 (bN d.1.2) (bD d.1.2) (aU d.1.2) .none kV b e c a ct) ⟨oK (b8 d.1.2).length u,[]⟩)
noncomputable def DZ (d:(Str×Stmt)×Value×Addr×Addr):Option (Option Value)×Option Obj×Bool×Bool×Bool×DX:=(some (some (.ref d.2.2.2)),some (PN d.1.1 d.1.2 d.2.1 d.2.2.1),true,true,true,fun _ _ _ _ _ _ u=>pure ((b8 d.1.2).zip (oK (b8 d.1.2).length u)))
noncomputable def tT (K:Tv)(d:Str×Stmt):(Str×Stmt)×Value×Addr×Addr:=(d,match Vo K UI d.1 with
 | some (some (.ref f))=>(match K.lookup f with
  | some ⟨_,_,.func fd,_⟩=>(match fd.code with
   | .ref c=>(fd.pyModule,c,f)
   | _=>(.none,0,0))
  | _=>(.none,0,0))
 | _=>(.none,0,0))
noncomputable def tU (K:Tv)(ds:List (Str×Stmt)):Prop:=ds.map (fun d=>DY K (tT K d))=ds.map fun d=>DZ (tT K d)
theorem D0 {K:Tv}{h:UU}{j:Str->Option Value}(X:K.In h)(G:h.Ns UI j){ds:List (Str×Stmt)}(q:tU K ds):∀ p∈ds,(DefAt K j p.1 p.2/\iO p.2=true)/\∃ f n,Fun K p.1 p.1 p.2 f n/\j p.1=some (.ref f)/\∀ us:List Value,us.length=(b8 p.2).length->a0j n ⟨us,[]⟩=pure ((b8 p.2).zip us):=by
 intro i v
 have t:=YS.mp q i v
 have e:(tT K i).1=i:=rfl
 generalize tT K i=d at t e
 obtain ⟨p,m,c,f⟩:=d
 cases e
 unfold DY DZ at t
 obtain ⟨a,t⟩:=Yj t
 obtain ⟨l,t⟩:=Yj t
 obtain ⟨c,t⟩:=Yj t
 obtain ⟨k,t⟩:=Yj t
 obtain ⟨s,b⟩:=Yj t
 have F:=Bb (st:=p.2) l c k
 have D:=fun kV doc pm an cdv ct (us:List Value)(r:us.length=(b8 p.2).length)=>(by
  obtain ⟨u,o⟩:=zE us
  rw [r] at o
  rw [o]
  exact congrFun (congrFun (congrFun (congrFun (congrFun (congrFun (congrFun b kV) doc) pm) an) cdv) ct) u:a0j (T8 p.1 p.1 (bN p.2) (bD p.2) (aU p.2) .none kV doc pm an cdv ct) ⟨us,[]⟩=pure ((b8 p.2).zip us))
 exact ⟨⟨⟨_,_,F,Wn X G a,Binds.all (D _ _ _ _ _ _)⟩,s⟩,_,_,F,Wn X G a,D _ _ _ _ _ _⟩
theorem PQ {K:Tv}{h:UU}{c:Str->Option Value}(X:K.In h)(G:h.Ns UI c){ds:List (Str×Stmt)}(q:tU K ds){x y:Str}{st:Stmt}(d:ds.lookup x=some st)(e:b8 st=[y]):∃ f a,Fun K x x st f a/\c x=some (.ref f)/\∀ (s:TC)(u:Value),YW s a ⟨[u],[]⟩ [(y,u)]:=by
 obtain ⟨f,a,F,m,b⟩:=(D0 X G q (x,st) (fU d)).2
 dsimp only at b
 rw [e] at b
 exact ⟨f,a,F,m,fun s u=>.of_eq (b [u] rfl)⟩
theorem PR {K:Tv}{h:UU}{a:Str->Option Value}(X:K.In h)(G:h.Ns UI a){ns:List Str}(q:ns.map (Vo K UI)=ns.map fun _=>some none):∀ x∈ns,a x=none:=fun x b=>PySem.W.mg_none_of X G (YS.mp q x b)
noncomputable def qO {c d:Type}(f:c->d->Bool):List c->List d->Bool
 | [],[]=>true
 | a::as,b::bs=>f a b&&qO f as bs
 | _,_=>false
noncomputable def qP (K:Tv):Nat->Value->D->Bool
 | 0,_,_=>false
 | k+1,u,d=>match d with
  | .non=>(match u with|.none=>true|_=>false)
  | .bl b=>(match u with|.bool c=>decide (b=c)|_=>false)
  | .int i=>(match u with|.int j _=>decide (i=j)|_=>false)
  | .str x=>(match u with|.str y _=>decide (x=y)|_=>false)
  | .tup ds=>(match u with
   | .ref p=>(match K.lookup p with
    | some ⟨.type t,none,.seq its _,_⟩=>decide (t = "tuple")&&decide (its.size<=1000)&&qO (qP K k) its.toList ds
    | _=>false)
   | _=>false)
  | .rol ds=>(match u with
   | .ref p=>(match K.lookup p with
    | some ⟨.type t,none,.seq its _,_⟩=>decide (t = "list")&&decide (its.size<=1000)&&qO (qP K k) its.toList ds
    | _=>false)
   | _=>false)
  | _=>false
theorem D1 {K:Tv}{f:Value->D->Bool}(h:∀ u d,f u d=true->∃ v,RelV v u/\∀ π n H,IsD K π n H v d):∀ us ds,qO f us ds=true->∃ vs,Vals vs us/\∀ π n H,IsDs K π n H vs ds
 | [],[],_=>⟨[],.nil,fun _ _ _=>.nil⟩
 | u::us,d::ds,e=>by
  obtain ⟨a,b⟩:=WE.mp e
  obtain ⟨v,r,q⟩:=h u d a
  obtain ⟨vs,i,c⟩:=D1 h us ds b
  exact ⟨v::vs,.cons r i,fun _ _ _=>.cons (q _ _ _) (c _ _ _)⟩
 | [],_::_,e=>nomatch e
 | _::_,[],e=>nomatch e
theorem D2 {K:Tv}:∀ (k:Nat)(u:Value)(d:D),qP K k u d=true->∃ v,RelV v u/\∀ π n H,IsD K π n H v d
 | 0,_,_,e=>nomatch e
 | k+1,u,d,e=>by
  have seq:∀ {p:Addr}{ds:List D}{c:String},(match K.lookup p with|some ⟨.type t,none,.seq h _,_⟩=>decide (t=c)&&decide (h.size<=1000)&&qO (qP K k) h.toList ds|_=>false)=true->∃ j h n m,K.lookup p=some ⟨.type c,none,.seq h n,m⟩/\h.size<=TZ/\Vals j h.toList/\∀ π n H,IsDs K π n H j ds:=fun {p ds c} e=>by
   split at e
   ·rename_i t h n m l
    obtain ⟨e,q⟩:=WE.mp e
    obtain ⟨a,b⟩:=WE.mp e
    cases of_decide_eq_true a
    obtain ⟨j,r,i⟩:=D1 (D2 k) _ _ q
    exact ⟨j,h,n,m,l,UT (of_decide_eq_true b) (by decide),r,i⟩
   ·cases e
  cases d with
  | non=>cases u with
   | none=>exact ⟨.non,rfl,fun _ _ _=>.non⟩
   | _=>cases e
  | bl b=>cases u with
   | bool c=>cases of_decide_eq_true e;exact ⟨.bl b,rfl,fun _ _ _=>.bl _⟩
   | _=>cases e
  | int b=>cases u with
   | int c=>cases of_decide_eq_true e;exact ⟨.int b,⟨_,rfl⟩,fun _ _ _=>.int _⟩
   | _=>cases e
  | str b=>cases u with
   | str c=>cases of_decide_eq_true e;exact ⟨.str b,⟨_,rfl⟩,fun _ _ _=>.str _⟩
   | _=>cases e
  | tup ds=>cases u with
   | ref p=>
    obtain ⟨j,h,n,m,l,o,r,i⟩:=seq e
    exact ⟨.ref p,rfl,fun _ _ _=>.tup (vs:=j) (.inr ⟨_,h,n,l,rfl,rfl,rfl,o,r⟩) (i _ _ _)⟩
   | _=>cases e
  | rol ds=>cases u with
   | ref p=>
    obtain ⟨j,h,n,m,l,o,r,i⟩:=seq e
    exact ⟨.ref p,rfl,fun _ _ _=>.rol (vs:=j) (.inr ⟨_,h,n,l,rfl,rfl,rfl,o,r⟩) (i _ _ _)⟩
   | _=>cases e
  | _=>cases e
noncomputable def D3 (K:Tv)(a:List (Str×D)):Bool:=a.all fun c=>match Vo K UI c.1 with|some (some u)=>qP K 8 u c.2|_=>false
theorem PU {K:Tv}{h:UU}{b:Str->Option Value}(X:K.In h)(G:h.Ns UI b){a:List (Str×D)}(q:D3 K a=true):∀ p∈a,∃ v u,b p.1=some u/\RelV v u/\∀ π n H,IsD K π n H v p.2:=fun p c=>by
 have t:=Vm.mp q p c
 split at t
 ·rename_i u d
  obtain ⟨v,r,i⟩:=D2 _ _ _ t
  exact ⟨v,u,Wn X G d,r,i⟩
 ·cases t
end L3
namespace L3
open PySem L2
noncomputable def gK (K:Tv)(x:Str):Addr:=match Vo K UI x with
 | some (some (.ref C))=>C
 | _=>0
noncomputable def qQ (K:Tv)(x:Str):Bool:=Vo K UI x == some (some (.ref (gK K x)))&&Xa K (gK K x) Str.empty&&XQ K (gK K x)&&YE K (gK K x) &&
 UN K (.ref (gK K x)) "__setattr__" == some (some (.builtin "object.__setattr__"))
theorem qR {K:Tv}{x:Str}(h:qQ K x=true):CAt K x (gK K x)/\Cls K (gK K x):=by
 unfold qQ at h
 rw [Tw,Tw,Tw,Tw,beq_iff_eq,beq_iff_eq] at h
 obtain ⟨⟨⟨⟨a,b⟩,c⟩,d⟩,e⟩:=h
 exact ⟨a,b,c,d,e⟩
theorem PV {K:Tv}{L:List (Str×Str)}(h:(L.all fun p=>qQ K p.2&&UN K (.ref (gK K p.2)) p.1 == some none)=true):∀ f x,L.lookup f=some x->∃ C,CAt K x C/\Cls K C/\NoAttr K C f:=fun f x e=>by
 have:=Vm.mp h (f,x) (fU e)
 rw [Tw,beq_iff_eq] at this
 exact ⟨_,(qR this.1).1,(qR this.1).2,this.2⟩
noncomputable def j9 (K:Tv)(x m:Str):Addr:=match UN K (.ref (gK K x)) m with
 | some (some (.ref g))=>g
 | _=>0
noncomputable def zF (K:Tv)(g:Addr):Value×Value×Addr:=match K.lookup g with
 | some ⟨_,_,.func fd,_⟩=>(match fd.code with
  | .ref c=>(fd.defaults,fd.pyModule,c)
  | _=>(.none,.none,0))
 | _=>(.none,.none,0)
noncomputable def D4 (x a:Str)(st:Stmt)(q:Value×Value×Addr):Vc:=T8 x a (bN st) (bD st) (aU st) q.1 .none .none q.2.1 none (.ref q.2.2) .none
noncomputable def D5 (K:Tv)(x m a:Str)(st:Stmt)(n:Nat):Bool:=UN K (.ref (gK K x)) m == some (some (.ref (j9 K x m)))&&YG K (.ref (j9 K x m))&&U8 K (.ref (j9 K x m)) &&
 WY K (.ref (zF K (j9 K x m)).2.2) a&&decide ((b8 st).length=n+1)
noncomputable abbrev zG (K:Tv)(x m a:Str)(st:Stmt)(n:Nat):Prop:=D5 K x m a st n=true/\K.lookup (j9 K x m)=some ⟨.type "function",none,.func (D4 m a st (zF K (j9 K x m))),#[]⟩ /\
 (fun S u=>PySem.W.peek K S (a0j (D4 m a st (zF K (j9 K x m))) ⟨oK (n+1) u,[]⟩))=fun _ u=>some ((b8 st).zip (oK (n+1) u))
theorem D6 {K:Tv}{x m a:Str}{st:Stmt}{n:Nat}(h:zG K x m a st n):Meth K (gK K x) m (j9 K x m)/\mU K (some st) n (j9 K x m):=by
 obtain ⟨h,p,o⟩:=h
 unfold D5 at h
 rw [Tw,Tw,Tw,Tw,beq_iff_eq,decide_eq_true_eq] at h
 obtain ⟨⟨⟨⟨i,j⟩,b⟩,l⟩,c⟩:=h
 refine ⟨⟨i,j,b⟩,_,m,a,st,rfl,Bb (st:=st) p l b,fun s q X d=>?_,c⟩
 rw [U9] at d ⊢
 obtain ⟨u,e⟩:=zE q
 rw [d,c] at e
 rw [e]
 exact PySem.W.kp_binds X fun S=>congrFun (congrFun o S) u
theorem PX {K:Tv}{S:Sig}{ds:List (Str×Stmt)}(h:∀ p∈S.mt,qQ K p.2.1=true/\∃ a st,lk S ds p.2.2.1=some st/\zG K p.2.1 p.1 a st p.2.2.2):∀ m x y n,S.mt.lookup m=some (x,y,n)->∃ (C g:Addr),CAt K x C/\Cls K C/\Meth K C m g/\mU K (lk S ds y) n g:=fun m x y n e=>by
 obtain ⟨b,a,st,c,d⟩:=h (m,x,y,n) (fU e)
 dsimp only at b c d
 rw [c]
 exact ⟨_,_,(qR b).1,(qR b).2,D6 d⟩
theorem PY {K:Tv}{S:Sig}{ds:List (Str×Stmt)}(h:∀ p∈S.mc,qQ K p.1=true/\lk S ds p.1=none/\(Y2 K (gK K p.1)&&U8 K (.ref (gK K p.1)))=true/\∃ b st,lk S ds p.2.1=some st/\zG K p.1 "__init__" b st p.2.2) :
  ∀ x y n,S.mc.lookup x=some (y,n)->lk S ds x=none/\∃ (C g:Addr),CAt K x C/\Mk K C g/\mU K (lk S ds y) n g:=fun x y n e=>by
 obtain ⟨d,i,c,b,st,j,l⟩:=h (x,y,n) (fU e)
 dsimp only at d i c j l
 rw [j]
 rw [Tw] at c
 obtain ⟨m,a⟩:=D6 l
 exact ⟨i,_,_,(qR d).1,⟨c.1,m.at_,m.fn,c.2⟩,a⟩
theorem PZ {L:List (Str×Stmt)}(h:(L.all fun p=>iO p.2)=true):∀ y st,L.lookup y=some st->iO st=true:=fun y st e=>Vm.mp h (y,st) (fU e)
end L3
namespace L3
open PySem L2
theorem P0 {S:Sig}{K:Tv}
  (m:(S.sup.all fun p=>S.sup.all fun q=>pY K p.1 q.1 == some (p.2.contains q.1))=true)
  (n:(S.sup.all fun p=>S.sup.all fun q=>match jB K q.1 with|some C=>g8 K (.ref C) p.1 == some (p.2.contains q.1)|none=>false)=true)(o:(S.sup.all fun p=>g8 K (.type "ValueError") p.1 == some (p.2.contains "ValueError"))=true)
  (r:(S.sup.all fun p=>(S.cls.lookup p.1).isSome||match jB K p.1 with|some C=>Yt K C wU "ValueError.__new__" | none=>false)=true)
  : XcOk S K:=by
 have two:∀ {g:Str×List Str->Str×List Str->Bool},(S.sup.all fun p=>S.sup.all fun q=>g p q)=true->∀ x a c b,S.sup.lookup x=some a->S.sup.lookup c=some b->g (x,a) (c,b)=true:=fun {g} h x a c b j l=>
  Vm.mp (Vm.mp h (x,a) (fU j)) (c,b) (fU l)
 refine ⟨fun x a c e hc=>?_,fun x a c e hc=>?_,fun x a e=>?_,fun x a e s=>?_⟩
 ·obtain ⟨b,i⟩:=UR.mp hc
  exact beq_iff_eq.mp (two m x a c b e i)
 ·obtain ⟨b,i⟩:=UR.mp hc
  have:=two n x a c b e i
  dsimp only at this
  split at this
  ·rename_i C d
   exact ⟨C,d,beq_iff_eq.mp this⟩
  ·cases this
 ·exact beq_iff_eq.mp (Vm.mp o (x,a) (fU e))
 ·have:=Vm.mp r (x,a) (fU e)
  dsimp only at this
  rw [s] at this
  split at this
  ·rename_i C d
   exact ⟨C,by simpa using this,mG d⟩
  ·simp at this
end L3
namespace L3
open PySem L2
noncomputable def W {a:Type}(o:Option a)(Q:a->Prop):Prop:=∃ r,o=some r/\Q r
section
variable {α β:Type}{o:Option α}{Q:α->Prop}
theorem W_some {r:α}{Q:α->Prop}:W (some r) Q↔Q r:=⟨fun ⟨_,h,q⟩=>by cases h;exact q,fun q=>⟨r,rfl,q⟩⟩
theorem W_none {Q:α->Prop}:W none Q↔False:=⟨fun ⟨_,h,_⟩=>(by cases h),fun h=>h.elim⟩
theorem W_bind {g:α->Option β}{Q:β->Prop}:W (o.bind g) Q↔W o fun r=>W (g r) Q:=by
 cases o with
 | none=>exact ⟨fun ⟨_,h,_⟩=>(by cases h),fun ⟨_,h,_⟩=>(by cases h)⟩
 | some a=>simp [W_some]
theorem W_map {g:α->β}{Q:β->Prop}:W (o.map g) Q↔W o fun r=>Q (g r):=by
 cases o with
 | none=>exact ⟨fun ⟨_,h,_⟩=>(by cases h),fun ⟨_,h,_⟩=>(by cases h)⟩
 | some a=>simp [W_some]
theorem bP {a:α->Prop}(h:W o Q)(k:∀ r,Q r->a r):W o a:=let ⟨r,e,q⟩:=h;⟨r,e,k r q⟩
theorem tV {c:Prop} [Decidable c] {a b:Option α}:W (if c then a else b) Q↔if c then W a Q else W b Q:=by split<;>rfl
end
noncomputable def aV:Option (Fl×aF×Hm)->Option (D×Hm):=fun o=>o.bind fun p=>match p.1 with|.rt d=>some (d,p.2.2)|.nx=>some (.non,p.2.2)|_=>none
noncomputable def qS:Option (Xn×aF×Hm)->Option (Xn×Hm):=fun o=>o.map fun p=>(p.1,p.2.2)
theorem W_fin {o:Option (Fl×aF×Hm)}{Q:D×Hm->Prop}:W (aV o) Q↔W o fun p=>match p.1 with|.rt d=>Q (d,p.2.2)|.nx=>Q (.non,p.2.2)|_=>False:=by
 unfold aV
 rw [W_bind]
 constructor
 ·exact fun h=>bP h fun p q=>by
   obtain ⟨a,c,b⟩:=p
   cases a<;>simpa [W_some,W_none] using q
 ·exact fun h=>bP h fun p q=>by
   obtain ⟨a,c,b⟩:=p
   cases a<;>simpa [W_some,W_none] using q
theorem aS {d b:Hm}(h:d <+: b){a:Nat}{c:C}(e:d[a]? = some c):b[a]? = some c:=by
 obtain ⟨t,rfl⟩:=h
 have i:=(TB.mp e).1
 rw [Uc i]
 exact e
theorem bE (a:Hm)(c:C):a <+: a++[c]:=⟨[c],rfl⟩
theorem gL {d b:Hm}(h:d <+: b){a:Nat}(e:d.length<=a)(c:C):d <+: b.set a c:=by
 obtain ⟨t,rfl⟩:=h
 rw [Xi _ _ e]
 exact ⟨_,rfl⟩
theorem w_mSeq {a b:MS}{d:aF}{c:Hm} {Q}:W (aJ a b d c) Q↔W (a d c) fun p=>match p.1 with|.nx=>W (b p.2.1 p.2.2) Q|_=>Q p:=by
 unfold aJ
 rw [W_bind]
 constructor
 ·exact fun h=>bP h fun p q=>by
   obtain ⟨e,d,c⟩:=p
   cases e<;>simpa [W_some,W_none] using q
 ·exact fun h=>bP h fun p q=>by
   obtain ⟨e,d,c⟩:=p
   cases e<;>simpa [W_some,W_none] using q
theorem w_mRet {m:ME}{a:aF}{b:Hm} {Q}:W (a8 m a b) Q↔W (m a b) fun p=>Q (.rt p.1,a,p.2):=W_map
theorem mV {m:ME}{a:aF}{b:Hm} {Q}:W (dS m a b) Q↔W (m a b) fun p=>Q (.nx,a,p.2):=W_map
theorem cC {i:Nat}{m:ME}{a:aF}{b:Hm} {Q}:W (aP i m a b) Q↔W (m a b) fun p=>Q (.nx,a.set i (some p.1),p.2):=W_map
theorem dE {b:aF}{a:Hm} {Q}:W (bJ b a) Q↔Q (.nx,b,a):=W_some
theorem cU {t:MT}{a b:MS}{c:aF}{d:Hm} {Q}:W (bI t a b c d) Q↔W (t c d) fun p=>if p.1=true then W (a c p.2) Q else W (b c p.2) Q:=by
 unfold bI
 rw [W_bind]
 constructor<;>exact fun h=>bP h fun p q=>by
   obtain ⟨x,d⟩:=p
   cases x<;>simpa using q
theorem qT {t:MT}{a b:ME}{c:aF}{d:Hm} {Q}:W (f6 t a b c d) Q↔W (t c d) fun p=>if p.1=true then W (a c p.2) Q else W (b c p.2) Q:=by
 unfold f6
 rw [W_bind]
 constructor<;>exact fun h=>bP h fun p q=>by
   obtain ⟨x,d⟩:=p
   cases x<;>simpa using q
theorem tW {a b:MT}{d:aF}{c:Hm} {Q}:W (gS a b d c) Q↔W (a d c) fun p=>if p.1=true then W (b d p.2) Q else Q (false,p.2):=by
 unfold gS
 rw [W_bind]
 constructor<;>exact fun h=>bP h fun p q=>by
   obtain ⟨x,c⟩:=p
   cases x<;>simpa [W_some] using q
theorem lK {a b:MT}{d:aF}{c:Hm} {Q}:W (eV a b d c) Q↔W (a d c) fun p=>if p.1=true then Q (true,p.2) else W (b d p.2) Q:=by
 unfold eV
 rw [W_bind]
 constructor<;>exact fun h=>bP h fun p q=>by
   obtain ⟨x,c⟩:=p
   cases x<;>simpa [W_some] using q
theorem qU {a:MT}{c:aF}{b:Hm} {Q}:W (iZ a c b) Q↔W (a c b) fun p=>Q (!p.1,p.2):=W_map
theorem bA {f:D->D->Hm->Option (D×Hm)}{a b:ME}{c:aF}{d:Hm} {Q}:W (aC f a b c d) Q↔W (a c d) fun p=>W (b c p.2) fun q=>W (f p.1 q.1 q.2) Q:=by
 unfold aC
 rw [W_bind]
 simp only [W_bind]
theorem bB {d:D}{b:aF}{a:Hm} {Q}:W (mC d b a) Q↔Q (d,a):=W_some
theorem aH {d:D}{b:aF}{a:Hm} {Q}:W (aA 0 (some d::b) a) Q↔Q (d,a):=by
 show W (some (d,a)) Q↔_
 exact W_some
theorem aK {i:Nat}{x:Option D}{b:aF}{a:Hm} {Q}:W (aA (i+1) (x::b) a) Q↔W (aA i b a) Q:=by
 unfold aA
 rw [Z1]
theorem aT {b:aF}{a:Hm} {Q}:W (aD b a) Q↔Q ([],a):=W_some
theorem aX {a:ME}{r:MA}{b:aF}{c:Hm} {Q}:W (aB a r b c) Q↔W (a b c) fun p=>W (r b p.2) fun q=>Q (p.1::q.1,q.2):=by
 unfold aB
 simp only [W_bind,W_some]
theorem fV {ms:MA}{b:aF}{a:Hm} {Q}:W (bT ms b a) Q↔W (ms b a) fun p=>p.1.length<=TZ/\Q (.tup p.1,p.2):=by
 unfold bT
 rw [W_bind]
 constructor<;>exact fun h=>bP h fun p q=>by
  first
  | (rw [tV] at q;split at q
     ·exact ⟨by assumption,W_some.mp q⟩
     ·exact (W_none.mp q).elim)
  | (rw [if_pos q.1];exact W_some.mpr q.2)
theorem fJ {ms:MA}{b:aF}{a:Hm} {Q}:W (cI ms b a) Q↔W (ms b a) fun p=>p.1.length<=TZ/\Q (.loc p.2.length,p.2++[.lst p.1]):=by
 unfold cI
 rw [W_bind]
 constructor<;>exact fun h=>bP h fun p q=>by
  first
  | (rw [tV] at q;split at q
     ·exact ⟨by assumption,W_some.mp q⟩
     ·exact (W_none.mp q).elim)
  | (rw [if_pos q.1];exact W_some.mpr q.2)
theorem bQ {f:MF}{ms:MA}{b:aF}{a:Hm} {Q}:W (aI f ms b a) Q↔W (ms b a) fun p=>W (f p.1 p.2) Q:=W_bind
theorem dP {m:ME}{c:aF}{a:Hm} {Q}:W (aR m c a) Q↔W (m c a) fun p=>match p.1 with|.bl b=>Q (b,p.2)|_=>False:=by
 unfold aR
 rw [W_bind]
 constructor<;>exact fun h=>bP h fun p q=>by
  obtain ⟨d,a⟩:=p
  cases d<;>simpa [W_some,W_none] using q
theorem iP {m:ME}{c:aF}{a:Hm} {Q}:W (dX m c a) Q↔W (m c a) fun p=>W (nU p.2 p.1) fun b=>Q (b,p.2):=by
 unfold dX
 simp only [W_bind,W_map]
theorem zH {a:ME}{c:aF}{b:Hm} {Q}:W (cJ a c b) Q↔W (a c b) fun p=>match p.1 with|.int i=>Q (.int (-i),p.2)|_=>False:=by
 unfold cJ
 rw [W_bind]
 constructor<;>exact fun h=>bP h fun p q=>by
  obtain ⟨d,b⟩:=p
  cases d<;>simpa [W_some,W_none,W_map,v5] using q
theorem P1 {a:ME}{e:aF}{c:Hm} {Q}:W (lX a e c) Q↔W (a e c) fun p=>match p.1 with|.bl b=>Q (.bl (!b),p.2)|_=>False:=by
 unfold lX
 rw [W_bind]
 constructor<;>exact fun h=>bP h fun p q=>by
  obtain ⟨d,c⟩:=p
  cases d<;>simpa [W_some,W_none] using q
theorem zI {a b:ME}{i:aF}{e:Hm} {Q}:W (kS a b i e) Q↔W (a i e) fun p=>match p.1 with|.bl c=>if c=true then W (b i p.2) Q else Q (.bl false,p.2)|_=>False:=by
 unfold kS
 rw [W_bind]
 constructor<;>exact fun h=>bP h fun p q=>by
  obtain ⟨d,e⟩:=p
  cases d with
  | bl c=>cases c<;>simpa [W_some] using q
  | _=>simpa [W_none] using q
theorem D7 {m:ME}{g:MG}{a:aF}{c:Hm} {Q}:W (jX m g a c) Q↔W (m a c) fun p=>W (g p.1 a p.2) fun b=>Q (.nx,b,p.2):=by
 unfold jX
 simp only [W_bind,W_map]
section
variable {i j:Int}{μ:Hm}{Q:D×Hm->Prop}{a b c d e g:D}
theorem iQ:W (bV (.int i) (.int j) μ) Q↔Q (.int (i+j),μ):=W_some
theorem mW:W (cS (.int i) (.int j) μ) Q↔Q (.int (i - j),μ):=W_some
theorem dQ (h:0<j):W (bU (.int i) (.int j) μ) Q↔Q (.int (i % j),μ):=by
 show W ((if 0<j then some (i % j) else none).map fun z=>(D.int z,μ)) Q↔_
 rw [if_pos h]
 exact W_some
theorem P2:(1073741824:Int)<2 ^ 4000:=by decide +kernel
theorem P4 (h:0<j)(l:j<2 ^ 4000):W (dU (.int i) (.int j) μ) Q↔Q (.int (i / j),μ):=by
 show W ((if 0<j/\j<2 ^ 4000 then some (i / j) else none).map fun z=>(D.int z,μ)) Q↔_
 rw [if_pos ⟨h,l⟩]
 exact W_some
theorem jF (h:0<j)(l:j<1073741824):W (dU (.int i) (.int j) μ) Q↔Q (.int (i / j),μ):=P4 h (Int.lt_trans l P2)
theorem jG (h:(-(2 ^ 64)<i/\i<2 ^ 64)\/(-(2 ^ 64)<j/\j<2 ^ 64)):W (bS (.int i) (.int j) μ) Q↔Q (.int (i * j),μ):=by
 show W ((if ((-(2 ^ 64)<i/\i<2 ^ 64)\/(-(2 ^ 64)<j/\j<2 ^ 64))\/(i.natAbs<2 ^ 4000/\j.natAbs<2 ^ 4000)\/Uz i+Uz j<=134217728 then some (i * j) else none).map fun z=>(D.int z,μ)) Q↔_
 rw [if_pos (.inl h)]
 exact W_some
theorem D8 (h:0<=j/\j<=1000000/\i.natAbs<2 ^ 64):W (gW (.int i) (.int j) μ) Q↔Q (.int (i ^ j.toNat),μ):=by
 show W ((if (0<=j/\j<=1000000/\i.natAbs<2 ^ 64)\/(0<=j/\j<=100/\i.natAbs<2 ^ 4000) then some (i ^ j.toNat) else none).map fun z=>(D.int z,μ)) Q↔_
 rw [if_pos (.inl h)]
 exact W_some
theorem w_eqI:W (a9 false (.int i) (.int j) μ) Q↔Q (.bl (i == j),μ):=W_some
theorem P5:W (a9 true (.int i) (.int j) μ) Q↔Q (.bl (!(i == j)),μ):=W_some
theorem D9:W (nF (.int i) (.int j) μ) Q↔Q (.bl (decide (i<j)),μ):=W_some
theorem P6:W (nG (.int i) (.int j) μ) Q↔Q (.bl (decide (i<=j)),μ):=W_some
theorem Ea:W (kT (.int i) (.int j) μ) Q↔Q (.bl (decide (j<i)),μ):=W_some
theorem jH:W (aG (.tup [a,b]) (.int 0) μ) Q↔Q (a,μ):=W_some
theorem fW:W (aG (.tup [a,b]) (.int 1) μ) Q↔Q (b,μ):=W_some
theorem P7:W (aG (.tup [a,b,c,d,e,g]) (.int 0) μ) Q↔Q (a,μ):=W_some
theorem P8:W (aG (.tup [a,b,c,d,e,g]) (.int 1) μ) Q↔Q (b,μ):=W_some
theorem P9:W (aG (.tup [a,b,c,d,e,g]) (.int 2) μ) Q↔Q (c,μ):=W_some
theorem Qa:W (aG (.tup [a,b,c,d,e,g]) (.int 3) μ) Q↔Q (d,μ):=W_some
theorem Qb:W (aG (.tup [a,b,c,d,e,g]) (.int 4) μ) Q↔Q (e,μ):=W_some
theorem Qd:W (aG (.tup [a,b,c,d,e,g]) (.int 5) μ) Q↔Q (g,μ):=W_some
theorem hW {b:Bool}{Q:Bool->Prop}:W (nU μ (.bl b)) Q↔Q b:=W_some
end
theorem tX {b:Hm}{a:Nat}{xs:List D}{i:Int}{d:D}{Q:D×Hm->Prop}(h:b[a]? = some (.lst xs))(c:atI xs i=some d):W (aG (.loc a) (.int i) b) Q↔Q (d,b):=by
 have:aG (.loc a) (.int i) b=some (d,b):=by
  simp only [aG,f7,bO,h,T9,c,Us]
 rw [this]
 exact W_some
end L3
namespace L3
open PySem L2
theorem oM {m:ME}{b:aF}{a:Hm}{Q:i7×Nat×Hm->Prop}:W (eM m b a) Q↔W (m b a) fun p=>W (jY p.2 p.1) fun xs=>Q (dW p.1,xs.length+1,p.2):=by
 unfold eM
 simp only [W_bind,W_map]
theorem iR {c:MI}{g:MG}{b:MS}{a:aF}{d:Hm} {Q}:W (cL c g b a d) Q↔W (c a d) fun p=>W (eK p.1 g b p.2.1 0 a p.2.2) Q:=W_bind
theorem zJ {j:Int}{ms:MA}{e:aF}{c:Hm}{Q:i7×Nat×Hm->Prop}:W (kW ms e c) Q↔W (ms e c) fun p=>match p.1 with|[.int j]=>(-(2 ^ 62)<=j/\j<2 ^ 62)/\Q (gA 0 j.toNat,j.toNat+1,p.2)|_=>False:=by
 unfold kW
 rw [W_bind]
 constructor<;>exact fun h=>bP h fun p q=>by
  obtain ⟨l,c⟩:=p
  match l,q with
  | [],q=>simpa [W_none] using q
  | [d],q=>
   cases d with
   | int j=>
    first
    | (dsimp only at q;rw [tV] at q;split at q
       ·rename_i i;exact ⟨i,W_some.mp q⟩
       ·exact (W_none.mp q).elim)
    | (dsimp only;rw [if_pos q.1];exact W_some.mpr q.2)
   | _=>simpa [W_none] using q
  | a::b::l,q=>simpa [W_none] using q
theorem Eb {ms:MA}{b:aF}{a:Hm}{Q:i7×Nat×Hm->Prop}:W (nP ms b a) Q↔W (ms b a) fun p=>match p.1 with|[.int i,.int j]=>(-(2 ^ 62)<=i/\i<2 ^ 62/\-(2 ^ 62)<=j/\j<2 ^ 62)/\Q (gA i (j - i).toNat,(j - i).toNat+1,p.2)|_=>False:=by
 unfold nP
 rw [W_bind]
 constructor<;>exact fun h=>bP h fun p q=>by
  split at q
  ·rename_i e
   try rw [e]
   first
   | (rw [tV] at q;split at q
      ·rename_i c;exact ⟨c,W_some.mp q⟩
      ·exact (W_none.mp q).elim)
   | ((try dsimp only);rw [if_pos q.1];exact W_some.mpr q.2)
  ·first
   | exact (W_none.mp q).elim
   | exact q.elim
theorem oN {j:i7}{g:MG}{b:MS}{N:Nat}{Q:Fl×aF×Hm->Prop}(I:Nat->aF->Hm->Prop)
  (go:∀ i c a,i<N->I i c a->∃ d l,j a i=some (some d)/\g d c a=some l/\W (b l a) fun p=>match p.1 with|.nx=>I (i+1) p.2.1 p.2.2|.ct=>I (i+1) p.2.1 p.2.2|.bk=>Q (.nx,p.2.1,p.2.2)|.rt d=>Q (.rt d,p.2.1,p.2.2))
  (e:∀ c a,I N c a->j a N=some none/\Q (.nx,c,a)):∀ (m i:Nat)(c:aF)(a:Hm),i+m=N->I i c a->W (eK j g b (m+1) i c a) Q
 | 0,i,c,a,h,hI=>by
  have:i=N:=by omega
  subst this
  obtain ⟨r,s⟩:=e c a hI
  unfold eK
  rw [r]
  exact W_some.mpr s
 | m+1,i,c,a,h,hI=>by
  obtain ⟨d,l,r,s,v⟩:=go i c a (by omega) hI
  unfold eK
  rw [r]
  simp only [T9,s]
  rw [W_bind]
  refine bP v fun p q=>?_
  obtain ⟨u,o,n⟩:=p
  cases u with
  | nx=>exact oN I go e m (i+1) o n (by omega) q
  | ct=>exact oN I go e m (i+1) o n (by omega) q
  | bk=>exact W_some.mpr q
  | rt d=>exact W_some.mpr q
theorem tY {a:Nat}{xs:List D}{g:MG}{b:MS}{h:aF}{c:Hm}{Q:Fl×aF×Hm->Prop}(I:Nat->aF->Hm->Prop)(o:I 0 h c)(n:∀ i h c,I i h c->c[a]? = some (.lst xs))
  (go:∀ i d h c,xs[i]? = some d->I i h c->∃ j,g d h c=some j/\W (b j c) fun p=>match p.1 with|.nx=>I (i+1) p.2.1 p.2.2|.ct=>I (i+1) p.2.1 p.2.2|.bk=>Q (.nx,p.2.1,p.2.2)|.rt d=>Q (.rt d,p.2.1,p.2.2))
  (m:∀ h c,I xs.length h c->Q (.nx,h,c)):W (eK (dW (.loc a)) g b (xs.length+1) 0 h c) Q:=by
 refine oN (N:=xs.length) I (fun i h c s l=>?_) (fun h c l=>⟨?_,m h c l⟩) xs.length 0 h c (by omega) o
 ·have e:xs[i]? = some xs[i]:=Uw s
  obtain ⟨j,q,r⟩:=go i xs[i] h c e l
  refine ⟨xs[i],j,?_,q,r⟩
  simp only [dW,jY,bO,n i h c l,Us,e]
 ·simp only [dW,jY,bO,n _ h c l,Us]
  simp
theorem Qe {x:D}{xs:List D}(m:∀ a,jY a x=some xs){g:MG}{b:MS}{c:aF}{a:Hm}{Q:Fl×aF×Hm->Prop}(I:Nat->aF->Hm->Prop)(n:I 0 c a)
  (go:∀ i d c a,xs[i]? = some d->I i c a->∃ h,g d c a=some h/\W (b h a) fun p=>match p.1 with|.nx=>I (i+1) p.2.1 p.2.2|.ct=>I (i+1) p.2.1 p.2.2|.bk=>Q (.nx,p.2.1,p.2.2)|.rt d=>Q (.rt d,p.2.1,p.2.2))
  (j:∀ c a,I xs.length c a->Q (.nx,c,a)):W (eK (dW x) g b (xs.length+1) 0 c a) Q:=by
 refine oN (N:=xs.length) I (fun i c a r l=>?_) (fun c a l=>⟨?_,j c a l⟩) xs.length 0 c a (by omega) n
 ·have e:xs[i]? = some xs[i]:=Uw r
  obtain ⟨h,o,q⟩:=go i xs[i] c a e l
  refine ⟨xs[i],h,?_,o,q⟩
  simp only [dW,m,Us,e]
 ·simp only [dW,m,Us]
  simp
theorem tZ {lo:Int}{n:Nat}{g:MG}{b:MS}{c:aF}{a:Hm}{Q:Fl×aF×Hm->Prop}(I:Nat->aF->Hm->Prop)(m:I 0 c a)
  (go:∀ (i:Nat) c a,i<n->I i c a->∃ e,g (.int (lo+i)) c a=some e/\W (b e a) fun p=>match p.1 with|.nx=>I (i+1) p.2.1 p.2.2|.ct=>I (i+1) p.2.1 p.2.2|.bk=>Q (.nx,p.2.1,p.2.2)|.rt d=>Q (.rt d,p.2.1,p.2.2))
  (h:∀ c a,I n c a->Q (.nx,c,a)):W (eK (gA lo n) g b (n+1) 0 c a) Q:=by
 refine oN (N:=n) I (fun i c a l j=>?_) (fun c a j=>⟨?_,h c a j⟩) n 0 c a (by omega) m
 ·obtain ⟨e,o,q⟩:=go i c a l j
  exact ⟨_,e,by simp only [gA,if_pos l],o,q⟩
 ·simp only [gA,V3,if_false]
theorem Ec {c:Hm}{a:Nat}{b:List D}{y:D}(h:c[a]? = some (.lst b))(d:b.length<TZ):nI c a y=some (c.set a (.lst (b++[y]))):=by
 unfold nI
 rw [h]
 exact if_pos d
theorem zK {x:i7}{c:MT}{e:ME}{I:aF}{μ0:Hm}{xs:List D}{p:D->Bool}{v:D->D}{Q:Hm->Prop}(A:∀ a i,μ0 <+: a->x a i=some xs[i]?)(J:xs.length<=TZ)
  (hc:∀ d a,d∈xs->μ0 <+: a->W (c (I++[some d]) a) fun r=>r.1=p d/\a <+: r.2)
  (B:∀ d a,d∈xs->p d=true->μ0 <+: a->W (e (I++[some d]) a) fun r=>r.1=v d/\a <+: r.2)
  (aV:∀ a,μ0 <+: a->a[μ0.length]? = some (.lst ((xs.filter p).map v))->Q a) :
  ∀ (m i:Nat)(a:Hm),i+m=xs.length->μ0 <+: a->a[μ0.length]? = some (.lst (((xs.take i).filter p).map v))->W (jW x nJ c e I μ0.length (m+1) i a) Q
 | 0,i,a,hi,hp,ha=>by
  have:i=xs.length:=by omega
  subst this
  unfold jW
  rw [A a _ hp]
  rw [Wu (TR _)]
  simp only [T9]
  refine W_some.mpr (aV a hp ?_)
  simpa using ha
 | m+1,i,a,hi,hp,ha=>by
  have u:i<xs.length:=by omega
  have K:xs[i]? = some xs[i]:=Uw u
  have j:xs[i]∈xs:=a1G u
  unfold jW
  rw [A a _ hp,K]
  simp only [T9,nJ]
  rw [W_bind]
  refine bP (hc _ a j hp) fun r q=>?_
  obtain ⟨b,z⟩:=r
  obtain ⟨L,w⟩:=q
  dsimp only at L w ⊢
  subst L
  have h:xs.take (i+1)=xs.take i++[xs[i]]:=by rw [List.take_succ,K];rfl
  have n:=aS w ha
  cases l:p xs[i] with
  | false=>
   refine zK A J hc B aV m (i+1) z (by omega) (hp.trans w) ?_
   rw [n,h,VS]
   simp [l]
  | true=>
   dsimp only
   rw [W_bind]
   refine bP (B _ z j l (hp.trans w)) fun r q=>?_
   obtain ⟨y,H⟩:=r
   obtain ⟨M,G⟩:=q
   dsimp only at M G ⊢
   subst M
   have o:=aS G n
   have s:(((xs.take i).filter p).map v).length<TZ:=by
    have N:=Vh p (xs.take i)
    rw [TF]
    rw [UZ] at N
    omega
   rw [Ec o s,T9]
   have E:μ0 <+: H:=(hp.trans w).trans G
   refine zK A J hc B aV m (i+1) _ (by omega) (gL E (TR _) _) ?_
   rw [Ug (TB.mp o).1,h,VS]
   simp [l]
theorem t5 {x:MI}{c:MT}{e:ME}{b:aF}{y:Hm}{xs:List D}{p:D->Bool}{v:D->D}{Q:D×Hm->Prop}
  (hit:W (x b y) fun r=>(∀ a i,r.2.2 <+: a->r.1 a i=some xs[i]?)/\r.2.1=xs.length+1/\xs.length<=TZ /\
   (∀ d a,d∈xs->r.2.2 <+: a->W (c (b++[some d]) a) fun s=>s.1=p d/\a <+: s.2)/\(∀ d a,d∈xs->p d=true->r.2.2 <+: a->W (e (b++[some d]) a) fun s=>s.1=v d/\a <+: s.2) /\
   ∀ a,r.2.2 <+: a->a[r.2.2.length]? = some (.lst ((xs.filter p).map v))->Q (.loc r.2.2.length,a)):W (gZ x c e b y) Q:=by
 unfold gZ l8
 rw [W_bind]
 refine bP hit fun r q=>?_
 obtain ⟨z,n,h⟩:=r
 obtain ⟨j,l,m,o,u,w⟩:=q
 dsimp only at j l m o u w ⊢
 subst l
 rw [W_map]
 exact zK j m o u w xs.length 0 (h++[.lst []]) (by omega) (bE _ _) (by simp)
theorem Qf {c:Hm}{a:Nat}{xs:List D}(h:c[a]? = some (.lst xs)):∀ b i,c <+: b->dW (.loc a) b i=some xs[i]?:=fun b i d=>by
 simp only [dW,jY,bO,aS d h,Us]
theorem Ed {xs:List D}{b:Hm}:∀ a i,b <+: a->dW (.tup xs) a i=some xs[i]?:=fun a i c=>rfl
noncomputable def kD (lo:Int)(n:Nat):List D:=(UX n).map fun (i:Nat)=>.int (lo+(i:Int))
theorem Qg {lo:Int}{n:Nat}{b:Hm}:∀ a i,b <+: a->gA lo n a i=some (kD lo n)[i]?:=fun a i _=>by
 unfold gA kD
 rw [Um]
 by_cases h:i<n
 ·rw [if_pos h,List.getElem?_range h];rfl
 ·rw [if_neg h,Wu (by simpa using Xq.mp h)];rfl
noncomputable abbrev P (x y:Int):D:=.tup [.int x,.int y]
noncomputable abbrev PP (p:Int×Int):D:=P p.1 p.2
theorem Ee (n:Nat)(e:Hm)(p q:Int×Int):cR (n+2) e (PP p) (PP q)=some (p == q):=by
 obtain ⟨a,b⟩:=p
 obtain ⟨c,d⟩:=q
 show some (a == c&&(b == d&&true))=some ((a,b) == (c,d))
 rw [a2p]
 rfl
theorem Ef (n:Nat)(a:Hm):∀ ps qs:List (Int×Int),fM (iE (n+2) a) (ps.map PP) (qs.map PP)=some (ps == qs)
 | [],[]=>rfl
 | [],_::_=>rfl
 | _::_,[]=>rfl
 | p::ps,q::qs=>by
  rw [TM,TM]
  show (cR (n+2) a (PP p) (PP q)).bind (fun b=>(fM (iE (n+2) a) (ps.map PP) (qs.map PP)).map fun c=>b&&c)=_
  rw [Ee,Ef n a ps qs]
  rfl
theorem Qh {c:Hm}{a b:Nat}{ps qs:List (Int×Int)}(h:c[a]? = some (.lst (ps.map PP)))(i:c[b]? = some (.lst (qs.map PP))):cR 8 c (.loc a) (.loc b)=some (ps == qs):=by
 have d:cX c (.loc a)=some (.lst (ps.map PP)):=by simp only [cX,h]
 have e:cX c (.loc b)=some (.lst (qs.map PP)):=by simp only [cX,i]
 show (cX c (.loc a)).bind (fun x=>(cX c (.loc b)).bind fun y=>gT (iE 7 c) x y)=_
 rw [d,e]
 exact Ef 5 c ps qs
theorem Eg (n:Nat)(a:Hm):∀ ps qs:List Int,fM (iE (n+1) a) (ps.map D.int) (qs.map D.int)=some (ps == qs)
 | [],[]=>rfl
 | [],_::_=>rfl
 | _::_,[]=>rfl
 | p::ps,q::qs=>by
  rw [TM,TM]
  show (cR (n+1) a (.int p) (.int q)).bind (fun b=>(fM (iE (n+1) a) (ps.map D.int) (qs.map D.int)).map fun c=>b&&c)=_
  rw [Eg n a ps qs]
  rfl
theorem t6 {c:Hm}{a b:Nat}{xs d:List D}{Q:D×Hm->Prop}(e:c[a]? = some (.lst xs))(h:c[b]? = some (.lst d))(i:xs.length+d.length<=TZ):W (bV (.loc a) (.loc b) c) Q↔Q (.loc c.length,c++[.lst (xs++d)]):=by
 simp only [bV,e,h,if_pos i]
 exact W_some
theorem t7 {f:D->List D->Hm->Option (D×Hm)}{b:ME}{ms:MA}{a:aF}{c:Hm}{Q:D×Hm->Prop}(h:W (b a c) fun p=>j0 p.2 p.1=true/\W (ms a p.2) fun q=>W (f p.1 q.1 q.2) Q):W (gD f b ms a c) Q:=by
 unfold gD
 rw [W_bind]
 refine bP h fun p q=>?_
 rw [q.1]
 exact W_bind.mpr q.2
theorem Eh {b:Hm}{a:Nat}{xs:List D}(h:b[a]? = some (.lst xs)):j0 b (.loc a)=true:=by
 simp only [j0,h]
theorem zL {b:Hm}{a:Nat}{xs:List D}{y:D}{Q:D×Hm->Prop}(h:b[a]? = some (.lst xs))(c:xs.length<TZ):W (g7 (.loc a) [y] b) Q↔Q (.non,b.set a (.lst (xs++[y]))):=by
 simp only [g7,Ec h c,Us]
 exact W_some
theorem Qi {c:Hm}{a b:Nat}{xs d:List D}{Q:D×Hm->Prop}(h:c[a]? = some (.lst xs))(e:c[b]? = some (.lst d))(i:xs.length+d.length<=TZ):W (nS (.loc a) [.loc b] c) Q↔Q (.non,c.set a (.lst (xs++d))):=by
 simp only [nS,h,e,if_pos i]
 exact W_some
theorem Ei {a:Hm}{i:Int}{Q:D×Hm->Prop}:W (f9 [.int i,.ty "bool"] a) Q↔Q (.bl false,a):=W_some
theorem Qj {a:Hm}{i:Int}{Q:D×Hm->Prop}:W (f9 [.int i,.ty "int"] a) Q↔Q (.bl true,a):=W_some
theorem zM {b:Hm}{a:Nat}{xs:List D}{Q:D×Hm->Prop}(h:b[a]? = some (.lst xs)):W (fF [.loc a] b) Q↔Q (.int xs.length,b):=by
 simp only [fF,pO,bO,h,Us]
 exact W_some
theorem zN {a:Hm}{xs:List D}{Q:D×Hm->Prop}:W (fF [.rol xs] a) Q↔Q (.int xs.length,a):=W_some
theorem oO {b:Hm}{a:Nat}{xs:List D}{Q:List D->Prop}(h:b[a]? = some (.lst xs)):W (jY b (.loc a)) Q↔Q xs:=by
 simp only [jY,bO,h]
 exact W_some
theorem cB (a:Hm)(c:C):(a++[c])[a.length]? = some c:=by simp
end L3
namespace L3
open PySem L2
theorem Qk {f g:D->D->Hm->Option (D×Hm)}{a b c:ME}{e:aF}{i:Hm} {Q}:W (k9 f g a b c e i) Q↔W (a e i) fun p=>W (b e p.2) fun q=>W (f p.1 q.1 q.2) fun r=>match r.1 with|.bl k=>if k=true then W (c e r.2) fun t=>W (g q.1 t.1 t.2) Q else Q (.bl false,r.2)|_=>False:=by
 unfold k9
 simp only [W_bind]
 constructor<;>exact fun h=>bP h fun p q=>bP q fun m l=>bP l fun r j=>by
  obtain ⟨d,i⟩:=r
  cases d with
  | bl k=>cases k<;>simpa [W_some,W_bind] using j
  | _=>simpa [W_none] using j
section
variable {i j:Int}{μ:Hm}{Q:D×Hm->Prop}
theorem Ql:W (eF false .non .non μ) Q↔Q (.bl true,μ):=W_some
theorem Ej:W (eF true .non .non μ) Q↔Q (.bl false,μ):=W_some
theorem Qm {xs:List D}:W (eF false (.tup xs) .non μ) Q↔Q (.bl false,μ):=W_some
theorem Ek {xs:List D}:W (eF true (.tup xs) .non μ) Q↔Q (.bl true,μ):=W_some
theorem Qn:W (w9 [.int i,.int j] μ) Q↔Q (.int (min i j),μ):=by
 have:(if j<i then j else i)=min i j:=by split<;>omega
 show W (some (D.int (if j<i then j else i),μ)) Q↔_
 rw [this]
 exact W_some
theorem Qo:W (w8 [.int i,.int j] μ) Q↔Q (.int (max i j),μ):=by
 have:(if j>i then j else i)=max i j:=by split<;>omega
 show W (some (D.int (if j>i then j else i),μ)) Q↔_
 rw [this]
 exact W_some
end
theorem Qp {a:ME}{lo c st:MO}{b:aF}{j:Hm}{Q:D×Hm->Prop}(h:W (a b j) fun p=>∃ l,p.1=.loc l/\W (lo b p.2) fun q=>W (c b q.2) fun r=>W (st b r.2) fun t=>t.1≠some 0/\∃ xs,t.2[l]? = some (.lst xs)/\(dM xs q.1 r.1 t.1).length<=TZ/\Q (.loc t.2.length,t.2++[.lst (dM xs q.1 r.1 t.1)])):W (mJ a lo c st b j) Q:=by
 unfold mJ
 rw [W_bind]
 refine bP h fun p q=>?_
 obtain ⟨d,v⟩:=p
 obtain ⟨l,e,i⟩:=q
 dsimp only at e i ⊢
 subst e
 rw [W_bind]
 refine bP i fun s q=>?_
 rw [W_bind]
 refine bP q fun r q=>?_
 rw [W_bind]
 refine bP q fun t q=>?_
 obtain ⟨m,xs,n,o,u⟩:=q
 rw [if_pos m]
 simp only [mI,n,T9]
 rw [if_pos o]
 exact W_some.mpr u
theorem w_mTrue {b:aF}{a:Hm}{Q:Bool×Hm->Prop}:W (i0 b a) Q↔Q (true,a):=W_some
theorem kE {o i v:ME}{a:aF}{c:Hm} {Q}:W (dA o i v a c) Q↔W (v a c) fun p=>W (o a p.2) fun q=>W (i a q.2) fun r=>W (j6 q.1 r.1 p.1 r.2) fun b=>Q (.nx,a,b):=by
 unfold dA w5
 simp only [W_bind,W_map]
section
variable {μ:Hm}{a:Nat}{kvs:List (List Int×D)}{k:List Int}{d y:D}{ρ:aF}{Q:D×Hm->Prop}
theorem oP:W (iK ρ μ) Q↔Q (.loc μ.length,μ++[.dT []]):=W_some
theorem Em (h:μ[a]? = some (.dT kvs))(b:eE y=some k)(c:b7 kvs k=some d):W (aG (.loc a) y μ) Q↔Q (d,μ):=by
 simp only [aG,h,b,T9,c,Us]
 exact W_some
theorem qV {Q:Hm->Prop}(h:μ[a]? = some (.dT kvs))(b:eE y=some k)(c:kvs.length<TZ):W (j6 (.loc a) y d μ) Q↔Q (μ.set a (.dT (eP kvs k d))):=by
 simp only [j6,p6,h,b,T9,if_pos c]
 exact W_some
theorem Qq (h:μ[a]? = some (.dT kvs)):W (fF [.loc a] μ) Q↔Q (.int kvs.length,μ):=by
 simp only [fF,h]
 exact W_some
theorem zO (h:μ[a]? = some (.dT kvs)):W (eH [.loc a] μ) Q↔Q (.loc μ.length,μ++[.lst (kvs.map fun k=>D.tup (k.1.map D.int))]):=by
 simp only [eH,h]
 exact W_some
theorem zP {xs:List D}(h:μ[a]? = some (.lst xs)):W (eH [.loc a] μ) Q↔Q (.loc μ.length,μ++[.lst xs]):=by
 simp only [eH,h,pQ,bO,Us]
 exact W_some
end
theorem Qr {b:Hm}{a:Nat}{xs:List D}{Q:D×Hm->Prop}(h:b[a]? = some (.lst xs)):W (lD [.loc a] b) Q↔Q (.loc b.length,b++[.lst xs.reverse]):=by
 simp only [lD,h]
 exact W_some
theorem Qs {ms:MA}{b:aF}{a:Hm}{Q:i7×Nat×Hm->Prop}(h:W (ms b a) fun p=>∃ i j c,p.1=[.int i,.int j,.int c]/\p7 i j c=true/\Q (nY i c (UL i j c).toNat,(UL i j c).toNat+1,p.2)):W (p8 ms b a) Q:=by
 unfold p8
 rw [W_bind]
 refine bP h fun p q=>?_
 obtain ⟨i,j,c,d,e,l⟩:=q
 rw [d]
 dsimp only
 rw [if_pos e]
 exact W_some.mpr l
theorem Qt {lo c:Int}{n:Nat}{g:MG}{b:MS}{e:aF}{a:Hm}{Q:Fl×aF×Hm->Prop}(I:Nat->aF->Hm->Prop)(o:I 0 e a)
  (go:∀ (i:Nat) e a,i<n->I i e a->∃ h,g (.int (lo+(i:Nat) * c)) e a=some h/\W (b h a) fun p=>match p.1 with|.nx=>I (i+1) p.2.1 p.2.2|.ct=>I (i+1) p.2.1 p.2.2|.bk=>Q (.nx,p.2.1,p.2.2)|.rt d=>Q (.rt d,p.2.1,p.2.2))
  (j:∀ e a,I n e a->Q (.nx,e,a)):W (eK (nY lo c n) g b (n+1) 0 e a) Q:=by
 refine oN (N:=n) I (fun i e a m l=>?_) (fun e a l=>⟨?_,j e a l⟩) n 0 e a (by omega) o
 ·obtain ⟨h,q,r⟩:=go i e a m l
  refine ⟨_,h,?_,q,r⟩
  simp only [nY,m,if_true]
 ·simp [nY]
theorem Qu {m c:MS}{r:MR}{sup:Str->Option Bool}{i:Nat}{e b:aF}{d a:Hm}{x:Xn}{Q:Fl×aF×Hm->Prop}(h:r e d=some (x,b,a))(j:sup x.1=some true) :
  W (kY m r sup i c e d) Q↔W (c (b.set i (some (.loc a.length))) (a++[C.exc x.1 (x.2.map (·.1)) (x.2.map (·.2))])) fun q=>Q (q.1,q.2.1.set i none,q.2.2):=by
 unfold kY
 rw [h]
 dsimp only
 rw [if_pos j]
 exact W_map
theorem Qv {m c:MS}{r:MR}{sup:Str->Option Bool}{i:Nat}{b:aF}{a:Hm}{Q:Fl×aF×Hm->Prop}(h:r b a=none):W (kY m r sup i c b a) Q↔W (m b a) Q:=by
 unfold kY
 rw [h]
theorem Qw {sup:Str->Option Bool}{m:ME}{i:aF}{e:Hm}{Q:D×Hm->Prop}:W (jC sup m i e) Q↔W (m i e) fun p=>∃ a x ns ds b,p.1=.loc a/\p.2[a]? = some (.exc x ns ds)/\sup x=some b/\Q (.bl b,p.2):=by
 unfold jC
 rw [W_bind]
 constructor
 ·rintro ⟨p,h,a,c,d⟩
  refine ⟨p,h,?_⟩
  split at c
  ·rename_i j o
   split at c
   ·rename_i x ns ds r
    obtain ⟨b,q,rfl⟩:=Tz.mp c
    exact ⟨j,x,ns,ds,b,o,r,q,d⟩
   ·cases c
  ·cases c
 ·rintro ⟨p,h,a,x,ns,ds,b,c,d,l,n⟩
  refine ⟨p,h,_,?_,n⟩
  rw [c]
  dsimp only
  rw [d]
  dsimp only
  rw [l]
  rfl
theorem w_rCall {r:RF}{ms:MA}{a:aF}{b:Hm}{Q:Xn×aF×Hm->Prop}:W (mF r ms a b) Q↔W (ms a b) fun p=>W (r p.1 p.2) fun q=>Q (q.1,a,q.2):=by
 unfold mF
 rw [W_bind]
 exact ⟨fun ⟨p,h,k⟩=>⟨p,h,W_map.mp k⟩,fun ⟨p,h,k⟩=>⟨p,h,W_map.mpr k⟩⟩
theorem w_rRaise {x:Str}{ms:MA}{a:aF}{b:Hm}{Q:Xn×aF×Hm->Prop}:W (pV x ms a b) Q↔W (ms a b) fun p=>Q ((x,[]),a,p.2):=by
 unfold pV
 exact W_map
theorem w_rIf {t:MT}{b c:MR}{a:aF}{d:Hm}{Q:Xn×aF×Hm->Prop}:W (mE t b c a d) Q↔W (t a d) fun p=>W (if p.1=true then b a p.2 else c a p.2) Q:=by
 unfold mE
 exact W_bind
theorem t8 {m:MS}{a i:MR}{c:aF}{b:Hm}{Q:Xn×aF×Hm->Prop}(h:W (a c b) Q):W (c9 m a i c b) Q:=by
 obtain ⟨p,d,e⟩:=h
 refine ⟨p,?_,e⟩
 unfold c9
 rw [d]
theorem Eo {m:MS}{c d:MR}{b:aF}{a:Hm}{Q:Xn×aF×Hm->Prop}(h:c b a=none)(k:W (m b a) fun p=>p.1=.nx/\W (d p.2.1 p.2.2) Q):W (c9 m c d b a) Q:=by
 obtain ⟨⟨f,o,n⟩,e,i,p,j,l⟩:=k
 cases i
 refine ⟨p,?_,l⟩
 unfold c9
 rw [h,e]
 exact j
theorem Ep {o:Option (Xn×aF×Hm)}{Q:Xn×Hm->Prop}:W (qS o) Q↔W o fun p=>Q (p.1,p.2.2):=W_map
end L3
namespace Lw
open PySem L2 L3
noncomputable def ds:List (Str×Stmt):=[("is_whole",aE 6),("is_quarter",aE 8),("line_of",aE 9),("number_by",aE 12),("hand_of",aE 13),("mirrored",aE 14),("laying_by",aE 17),("mirror_in",aE 18),("led",aE 19),("then",aE 20),("is_size",aE 23),("check_size",aE 24),("places_within",aE 25),("quarters_in",aE 26),("copied_piles",aE 35),("folded_layings",aE 36),("folded_piles",aE 37),("check_fold",aE 38),("unfolded",aE 40),("_law_cell",aE 43),("_law_quarters",aE 44),("_law_led",aE 45),("_law_over",aE 46),("_law_value",aE 47),("_law_begun",aE 48),("_law_folded",aE 49),("_law_plan",aE 50),("_law_asked",aE 51),("_law_stands",aE 52),("law",aE 53)]
noncomputable def zQ:D:=(.tup [(.int 1),(.int 0),(.int 0),(.int 1),(.int 0),(.int 0)])
noncomputable def S:Sig:={ fn:=[("is_whole",1),("is_quarter",1),("line_of",1),("number_by",2),("hand_of",2),("mirrored",2),("laying_by",3),("mirror_in",1),("led",2),("then",2),("is_size",1),("check_size",2),("places_within",2),("quarters_in",2),("copied_piles",1),("folded_layings",3),("folded_piles",4),("check_fold",2),("unfolded",2),("_law_cell",2),("_law_quarters",2),("_law_led",2),("_law_over",2),("_law_value",2),("_law_begun",2),("_law_folded",4),("_law_plan",3),("_law_asked",2),("_law_stands",4),("law",1)],con:=[("STILL",zQ)],tab:=[],no:=["ValueError","bool","dict","int","isinstance","len","list","max","min","range","reversed"],dIt:=["piles","layings","_law_state"],dEq:=["_law_state"],dMe:=["_law_piles","_law_layings","[]"],cls:=[],sup:=[("CreaseError",["CreaseError","ValueError"]),("NoSize",["NoSize","CreaseError","ValueError"]),("NoFold",["NoFold","CreaseError","ValueError"])],rz:=["check_fold","Folding.fold"],ob:=[("wide","Folding"),("high","Folding"),("states","Folding")],mt:=[("fold","Folding","Folding.fold",3),("many","Folding","Folding.many",0),("layings","Folding","Folding.layings",0),("piles","Folding","Folding.piles",0)],mc:=[("Folding","Folding.__init__",2)],ms:=[("Folding.__init__",cE 41 0),("Folding.fold",cE 41 1),("Folding.many",cE 41 3),("Folding.layings",cE 41 4),("Folding.piles",cE 41 5)] }
@[irreducible] noncomputable def f (k:Nat)(x:Str):MF:=fH S ds k x
@[irreducible] noncomputable def g (k:Nat)(x:Str):RF:=lJ S ds k x
noncomputable abbrev sup (c x:Str):Option Bool:=(S.sup.lookup x).map fun a=>a.contains c
end Lw
namespace Lw
open PySem L2 L3
theorem Qx (k:Nat)(a:D)(b:Hm):f (k+1) "is_whole" [a] b=aV ((a8 (kS (aI f9 (aB (aA 0) (aB (mC (.ty "int")) aD))) (lX (aI f9 (aB (aA 0) (aB (mC (.ty "bool")) aD)))))) [some a] b):=by
 kernel_rfl
theorem Qy (k:Nat)(a:D)(b:Hm):f (k+1) "is_quarter" [a] b=aV ((aJ (bI (aR (aC (a9 false) (aC bU (aC aG (aA 0) (mC (.int 0))) (mC (.int 2))) (mC (.int 1)))) (a8 (aC (a9 false) (aC bU (aC aG (aA 0) (mC (.int 1))) (mC (.int 4))) (mC (.int 2)))) bJ) (a8 (kS (aC (a9 false) (aC bU (aC aG (aA 0) (mC (.int 0))) (mC (.int 4))) (mC (.int 2))) (aC (a9 false) (aC bU (aC aG (aA 0) (mC (.int 1))) (mC (.int 2))) (mC (.int 1)))))) [some a] b):=by
 kernel_rfl
theorem Qz (k:Nat)(a:D)(b:Hm):f (k+1) "line_of" [a] b=aV ((aJ (bI (aR (aC (a9 false) (aC bU (aC aG (aA 0) (mC (.int 0))) (mC (.int 2))) (mC (.int 1)))) (a8 (f6 (aR (aC (a9 false) (aC bU (aC aG (aA 0) (mC (.int 0))) (mC (.int 4))) (aC bU (aC aG (aA 0) (mC (.int 1))) (mC (.int 4))))) (mC (.str "falling")) (mC (.str "rising")))) bJ) (a8 (f6 (aR (aC (a9 false) (aC bU (aC aG (aA 0) (mC (.int 1))) (mC (.int 4))) (mC (.int 0)))) (mC (.str "level")) (mC (.str "upright"))))) [some a] b):=by
 kernel_rfl
theorem QC (k:Nat)(a b:D)(c:Hm):f (k+1) "number_by" [a,b] c=aV ((aJ (bI (aR (aC (a9 false) (aA 0) (mC (.str "level")))) (a8 (aC aG (aA 1) (mC (.int 1)))) bJ) (aJ (bI (aR (aC (a9 false) (aA 0) (mC (.str "upright")))) (a8 (aC aG (aA 1) (mC (.int 0)))) bJ) (aJ (bI (aR (aC (a9 false) (aA 0) (mC (.str "falling")))) (a8 (aC cS (aC aG (aA 1) (mC (.int 0))) (aC aG (aA 1) (mC (.int 1))))) bJ) (a8 (aC bV (aC aG (aA 1) (mC (.int 0))) (aC aG (aA 1) (mC (.int 1)))))))) [some a,some b] c):=by
 kernel_rfl
theorem QD (k:Nat)(a b:D)(c:Hm):f (k+1) "hand_of" [a,b] c=aV ((aJ (aP 2 (aI (f k "line_of") (aB (aA 1) aD))) (aJ (aP 3 (aC cS (aI (f k "number_by") (aB (aA 2) (aB (aA 0) aD))) (aI (f k "number_by") (aB (aA 2) (aB (aA 1) aD))))) (aJ (bI (aR (aC kT (aA 3) (mC (.int 0)))) (a8 (mC (.int 1))) bJ) (a8 (f6 (aR (aC nF (aA 3) (mC (.int 0)))) (cJ (mC (.int 1))) (mC (.int 0))))))) [some a,some b,none,none] c):=by
 kernel_rfl
theorem QF (k:Nat)(a b:D)(c:Hm):f (k+1) "mirrored" [a,b] c=aV ((aJ (aP 2 (aC aG (aA 0) (mC (.int 0)))) (aJ (aP 3 (aC aG (aA 0) (mC (.int 1)))) (aJ (aP 4 (aI (f k "line_of") (aB (aA 1) aD))) (aJ (aP 5 (aI (f k "number_by") (aB (aA 4) (aB (aA 1) aD)))) (aJ (bI (aR (aC (a9 false) (aA 4) (mC (.str "level")))) (a8 (bT (aB (aA 2) (aB (aC cS (aC bS (mC (.int 2)) (aA 5)) (aA 3)) aD)))) bJ) (aJ (bI (aR (aC (a9 false) (aA 4) (mC (.str "upright")))) (a8 (bT (aB (aC cS (aC bS (mC (.int 2)) (aA 5)) (aA 2)) (aB (aA 3) aD)))) bJ) (aJ (bI (aR (aC (a9 false) (aA 4) (mC (.str "falling")))) (a8 (bT (aB (aC bV (aA 3) (aA 5)) (aB (aC cS (aA 2) (aA 5)) aD)))) bJ) (a8 (bT (aB (aC cS (aA 5) (aA 3)) (aB (aC cS (aA 5) (aA 2)) aD))))))))))) [some a,some b,none,none,none,none] c):=by
 kernel_rfl
theorem QH (k:Nat)(a b c:D)(d:Hm):f (k+1) "laying_by" [a,b,c] d=aV ((a8 (bT (aB (aC cS (aC aG (aA 1) (mC (.int 0))) (aC aG (aA 0) (mC (.int 0)))) (aB (aC cS (aC aG (aA 2) (mC (.int 0))) (aC aG (aA 0) (mC (.int 0)))) (aB (aC cS (aC aG (aA 1) (mC (.int 1))) (aC aG (aA 0) (mC (.int 1)))) (aB (aC cS (aC aG (aA 2) (mC (.int 1))) (aC aG (aA 0) (mC (.int 1)))) (aB (aC aG (aA 0) (mC (.int 0))) (aB (aC aG (aA 0) (mC (.int 1))) aD)))))))) [some a,some b,some c] d):=by
 kernel_rfl
theorem QK (k:Nat)(a:D)(b:Hm):f (k+1) "mirror_in" [a] b=aV ((a8 (aI (f k "laying_by") (aB (aI (f k "mirrored") (aB (bT (aB (mC (.int 0)) (aB (mC (.int 0)) aD))) (aB (aA 0) aD))) (aB (aI (f k "mirrored") (aB (bT (aB (mC (.int 1)) (aB (mC (.int 0)) aD))) (aB (aA 0) aD))) (aB (aI (f k "mirrored") (aB (bT (aB (mC (.int 0)) (aB (mC (.int 1)) aD))) (aB (aA 0) aD))) aD))))) [some a] b):=by
 kernel_rfl
theorem QL (k:Nat)(a b:D)(c:Hm):f (k+1) "led" [a,b] c=aV ((aJ (aP 2 (aC aG (aA 1) (mC (.int 0)))) (aJ (aP 3 (aC aG (aA 1) (mC (.int 1)))) (a8 (bT (aB (aC bV (aC bV (aC bS (aC aG (aA 0) (mC (.int 0))) (aA 2)) (aC bS (aC aG (aA 0) (mC (.int 1))) (aA 3))) (aC aG (aA 0) (mC (.int 4)))) (aB (aC bV (aC bV (aC bS (aC aG (aA 0) (mC (.int 2))) (aA 2)) (aC bS (aC aG (aA 0) (mC (.int 3))) (aA 3))) (aC aG (aA 0) (mC (.int 5)))) aD)))))) [some a,some b,none,none] c):=by
 kernel_rfl
theorem QM (k:Nat)(a b:D)(c:Hm):f (k+1) "then" [a,b] c=aV ((a8 (aI (f k "laying_by") (aB (aI (f k "led") (aB (aA 1) (aB (aI (f k "led") (aB (aA 0) (aB (bT (aB (mC (.int 0)) (aB (mC (.int 0)) aD))) aD))) aD))) (aB (aI (f k "led") (aB (aA 1) (aB (aI (f k "led") (aB (aA 0) (aB (bT (aB (mC (.int 1)) (aB (mC (.int 0)) aD))) aD))) aD))) (aB (aI (f k "led") (aB (aA 1) (aB (aI (f k "led") (aB (aA 0) (aB (bT (aB (mC (.int 0)) (aB (mC (.int 1)) aD))) aD))) aD))) aD))))) [some a,some b] c):=by
 kernel_rfl
theorem QN (k:Nat)(a:D)(b:Hm):f (k+1) "is_size" [a] b=aV ((a8 (kS (aI (f k "is_whole") (aB (aA 0) aD)) (k9 nG nG (mC (.int 1)) (aA 0) (mC (.int 6))))) [some a] b):=by
 kernel_rfl
theorem QU (k:Nat)(a b:D)(c:Hm):f (k+1) "check_size" [a,b] c=aV ((bI (iZ (gS (dX (aI (f k "is_size") (aB (aA 0) aD))) (dX (aI (f k "is_size") (aB (aA 1) aD))))) bW bJ) [some a,some b] c):=by
 kernel_rfl
theorem QV (k:Nat)(a b:D)(c:Hm):f (k+1) "places_within" [a,b] c=aV ((aJ (aP 2 (cI aD)) (aJ (cL (nP (aB (mC (.int 1)) (aB (aC bS (mC (.int 4)) (aA 0)) aD))) (cZ 3) (dS (gD nS (aA 2) (aB (gZ (nP (aB (mC (.int 1)) (aB (aC bS (mC (.int 4)) (aA 1)) aD))) i0 (bT (aB (aA 3) (aB (aA 4) aD)))) aD)))) (a8 (aA 2)))) [some a,some b,none,none] c):=by
 kernel_rfl
theorem QX (k:Nat)(a b:D)(c:Hm):f (k+1) "quarters_in" [a,b] c=aV ((a8 (gZ (eM (aI (f k "places_within") (aB (aA 0) (aB (aA 1) aD)))) (dX (aI (f k "is_quarter") (aB (aA 2) aD))) (aA 2))) [some a,some b] c):=by
 kernel_rfl
theorem QY (k:Nat)(a:D)(b:Hm):f (k+1) "copied_piles" [a] b=aV ((aJ (aP 1 iK) (aJ (dY 0 (cL (j8 (aA 0)) (eL [2,3]) (dA (aA 1) (aA 2) (aI eH (aB (aA 3) aD)))) bW) (a8 (aA 1)))) [some a,none,none,none] b):=by
 kernel_rfl
theorem QZ (k:Nat)(a b c:D)(d:Hm):f (k+1) "folded_layings" [a,b,c] d=aV ((aJ (aP 3 (aI (f k "mirror_in") (aB (aA 1) aD))) (aJ (aP 4 iK) (aJ (dY 0 (cL (j8 (aA 0)) (eL [5,6]) (aJ (aP 7 (aC (a9 false) (aI (f k "hand_of") (aB (aI (f k "led") (aB (aA 6) (aB (aA 5) aD))) (aB (aA 1) aD))) (aA 2))) (dA (aA 4) (aA 5) (f6 (dX (aA 7)) (aI (f k "then") (aB (aA 6) (aB (aA 3) aD))) (aA 6))))) bW) (a8 (aA 4))))) [some a,some b,some c,none,none,none,none,none] d):=by
 kernel_rfl
theorem Q0 (k:Nat)(a b c d:D)(e:Hm):f (k+1) "folded_piles" [a,b,c,d] e=aV ((aJ (aP 4 iK) (aJ (dY 0 (cL (j8 (aA 0)) (eL [5,6]) (bI (aR (aC (a9 true) (aI (f k "hand_of") (aB (aA 5) (aB (aA 1) aD))) (aA 2))) (dA (aA 4) (aA 5) (aI eH (aB (aA 6) aD))) bJ)) bW) (aJ (dY 0 (cL (j8 (aA 0)) (eL [5,6]) (bI (aR (aC (a9 false) (aI (f k "hand_of") (aB (aA 5) (aB (aA 1) aD))) (aA 2))) (aJ (aP 7 (aI (f k "mirrored") (aB (aA 5) (aB (aA 1) aD)))) (aJ (aP 8 (aI lD (aB (aA 6) aD))) (aJ (aP 9 (fE iM (aA 4) (aB (aA 7) (aB (cI aD) aD)))) (dA (aA 4) (aA 7) (f6 (dX (aA 3)) (aC bV (aA 9) (aA 8)) (aC bV (aA 8) (aA 9))))))) bJ)) bW) (a8 (aA 4))))) [some a,some b,some c,some d,none,none,none,none,none,none] e):=by
 kernel_rfl
theorem Q1 (k:Nat)(a b:D)(c:Hm):f (k+1) "check_fold" [a,b] c=aV ((aJ (dY 0 (aP 2 (gZ (gH (aA 0)) i0 (aI (f k "hand_of") (aB (aA 3) (aB (aA 1) aD))))) (aP 2 (gZ (eM (aA 0)) i0 (aI (f k "hand_of") (aB (aA 3) (aB (aA 1) aD)))))) (bI (eV (aR (aC (cM true) (mC (.int 1)) (aA 2))) (aR (aC (cM true) (cJ (mC (.int 1))) (aA 2)))) bW bJ)) [some a,some b,none] c):=by
 kernel_rfl
theorem Er (k:Nat)(a b:D)(c:Hm):g (k+3) "check_fold" [a,b] c=qS ((c9 (dY 0 (aP 2 (gZ (gH (aA 0)) i0 (aI (f (k+2) "hand_of") (aB (aA 3) (aB (aA 1) aD))))) (aP 2 (gZ (eM (aA 0)) i0 (aI (f (k+2) "hand_of") (aB (aA 3) (aB (aA 1) aD)))))) bX (c9 (bI (eV (aR (aC (cM true) (mC (.int 1)) (aA 2))) (aR (aC (cM true) (cJ (mC (.int 1))) (aA 2)))) bW bJ) (mE (eV (aR (aC (cM true) (mC (.int 1)) (aA 2))) (aR (aC (cM true) (cJ (mC (.int 1))) (aA 2)))) (c9 bW (pV "NoFold" (aB (mC (.str "no quarter lies at the one side, or at the other one")) aD)) bX) bX) bX)) [some a,some b,none] c):=by
 kernel_rfl
theorem Q2 (k:Nat)(a b:D)(c:Hm):f (k+1) "unfolded" [a,b] c=aV ((aJ (aP 2 iK) (aJ (aP 3 iK) (aJ (cL (eM (aI (f k "quarters_in") (aB (aA 0) (aB (aA 1) aD)))) (cZ 4) (aJ (dA (aA 2) (aA 4) (mC zQ)) (dA (aA 3) (aA 4) (cI (aB (aA 4) aD))))) (a8 (bT (aB (aA 2) (aB (aA 3) aD))))))) [some a,some b,none,none,none] c):=by
 kernel_rfl
theorem Q3 (k:Nat)(a b:D)(c:Hm):f (k+1) "_law_cell" [a,b] c=aV ((aJ (bI (aR (aC nF (aA 1) (aI fF (aB (aA 0) aD)))) (a8 (aC aG (aA 0) (aA 1))) bJ) (aJ (bI (aR (aC (a9 false) (aA 0) (cI aD))) (a8 (aC bU (aC bS (aC bS (aA 1) (aA 1)) (mC (.int 48271))) (mC (.int 2147483647)))) bJ) (aJ (aP 2 (aC bU (aC bS (aC bV (aC bU (aC aG (aA 0) (aC bU (aA 1) (aI fF (aB (aA 0) aD)))) (mC (.int 2147483629))) (aC bS (aC bS (aA 1) (aA 1)) (mC (.int 69623)))) (mC (.int 48271))) (mC (.int 2147483647)))) (a8 (aC bU (aC bS (aA 2) (aA 2)) (mC (.int 2147483629))))))) [some a,some b,none] c):=by
 kernel_rfl
theorem Q4 (k:Nat)(a b:D)(c:Hm):f (k+1) "_law_quarters" [a,b] c=aV ((aJ (aP 2 (cI aD)) (aJ (cL (kW (aB (aC bS (mC (.int 4)) (aA 0)) aD)) (cZ 3) (cL (kW (aB (aC bS (mC (.int 4)) (aA 1)) aD)) (cZ 4) (bI (eV (gS (aR (aC (a9 false) (aC bU (aA 3) (mC (.int 4))) (mC (.int 2)))) (aR (aC (a9 false) (aC bU (aA 4) (mC (.int 2))) (mC (.int 1))))) (gS (aR (aC (a9 false) (aC bU (aA 3) (mC (.int 2))) (mC (.int 1)))) (aR (aC (a9 false) (aC bU (aA 4) (mC (.int 4))) (mC (.int 2)))))) (dS (gD g7 (aA 2) (aB (bT (aB (aA 3) (aB (aA 4) aD))) aD))) bJ))) (a8 (aA 2)))) [some a,some b,none,none,none] c):=by
 kernel_rfl
theorem Q5 (k:Nat)(a b:D)(c:Hm):f (k+1) "_law_led" [a,b] c=aV ((aJ (jX (aA 0) (eL [2,3,4,5,6,7])) (a8 (bT (aB (aC bV (aC bV (aC bS (aA 2) (aC aG (aA 1) (mC (.int 0)))) (aC bS (aA 3) (aC aG (aA 1) (mC (.int 1))))) (aA 6)) (aB (aC bV (aC bV (aC bS (aA 4) (aC aG (aA 1) (mC (.int 0)))) (aC bS (aA 5) (aC aG (aA 1) (mC (.int 1))))) (aA 7)) aD))))) [some a,some b,none,none,none,none,none,none] c):=by
 kernel_rfl
theorem Q6 (k:Nat)(a b:D)(c:Hm):f (k+1) "_law_over" [a,b] c=aV ((aJ (jX (aA 0) (eL [2,3,4,5,6,7])) (aJ (jX (aA 1) (eL [8,9])) (aJ (bI (aR (aC (a9 false) (aA 8) (mC (.int 0)))) (a8 (bT (aB (aA 2) (aB (aA 3) (aB (cJ (aA 4)) (aB (cJ (aA 5)) (aB (aA 6) (aB (aC cS (aC bS (mC (.int 2)) (aA 9)) (aA 7)) aD)))))))) bJ) (aJ (bI (aR (aC (a9 false) (aA 8) (mC (.int 1)))) (a8 (bT (aB (cJ (aA 2)) (aB (cJ (aA 3)) (aB (aA 4) (aB (aA 5) (aB (aC cS (aC bS (mC (.int 2)) (aA 9)) (aA 6)) (aB (aA 7) aD)))))))) bJ) (aJ (bI (aR (aC (a9 false) (aA 8) (mC (.int 2)))) (a8 (bT (aB (aA 4) (aB (aA 5) (aB (aA 2) (aB (aA 3) (aB (aC bV (aA 7) (aA 9)) (aB (aC cS (aA 6) (aA 9)) aD)))))))) bJ) (a8 (bT (aB (cJ (aA 4)) (aB (cJ (aA 5)) (aB (cJ (aA 2)) (aB (cJ (aA 3)) (aB (aC cS (aA 9) (aA 7)) (aB (aC cS (aA 9) (aA 6)) aD))))))))))))) [some a,some b,none,none,none,none,none,none,none,none] c):=by
 kernel_rfl
theorem Q7 (k:Nat)(a b:D)(c:Hm):f (k+1) "_law_value" [a,b] c=aV ((a8 (aC aG (cI (aB (aC aG (aA 0) (mC (.int 1))) (aB (aC aG (aA 0) (mC (.int 0))) (aB (aC cS (aC aG (aA 0) (mC (.int 0))) (aC aG (aA 0) (mC (.int 1)))) (aB (aC bV (aC aG (aA 0) (mC (.int 0))) (aC aG (aA 0) (mC (.int 1)))) aD))))) (aA 1))) [some a,some b] c):=by
 kernel_rfl
theorem Q8 (k:Nat)(a b:D)(c:Hm):f (k+1) "_law_begun" [a,b] c=aV ((aJ (aP 2 iK) (aJ (aP 3 iK) (aJ (cL (eM (aI (f k "_law_quarters") (aB (aA 0) (aB (aA 1) aD)))) (cZ 4) (aJ (dA (aA 2) (aA 4) (bT (aB (mC (.int 1)) (aB (mC (.int 0)) (aB (mC (.int 0)) (aB (mC (.int 1)) (aB (mC (.int 0)) (aB (mC (.int 0)) aD)))))))) (dA (aA 3) (aA 4) (cI (aB (aA 4) aD))))) (a8 (bT (aB (aA 2) (aB (aA 3) aD))))))) [some a,some b,none,none,none] c):=by
 kernel_rfl
theorem Q9 (k:Nat)(a b c d:D)(e:Hm):f (k+1) "_law_folded" [a,b,c,d] e=aV ((aJ (aP 4 (aI mO (aB (aC aG (aA 0) (mC (.int 0))) aD))) (aJ (dY 1001 (aP 6 (gZ (gH (aC aG (aA 0) (mC (.int 1)))) (aR (aC (a9 false) (aC kT (aI (f k "_law_value") (aB (aA 11) (aB (aC aG (aA 1) (mC (.int 0))) aD))) (aC aG (aA 1) (mC (.int 1)))) (aA 2))) (aA 11))) (aP 6 (gZ (eM (aC aG (aA 0) (mC (.int 1)))) (aR (aC (a9 false) (aC kT (aI (f k "_law_value") (aB (aA 11) (aB (aC aG (aA 1) (mC (.int 0))) aD))) (aC aG (aA 1) (mC (.int 1)))) (aA 2))) (aA 11)))) (aJ (bI (eV (aR (aC (a9 false) (aA 6) (cI aD))) (aR (aC (a9 false) (aI fF (aB (aA 6) aD)) (aI fF (aB (aC aG (aA 0) (mC (.int 1))) aD))))) (a8 (mC .non)) bJ) (aJ (cL (eM (aI eH (aB (aA 4) aD))) (cZ 7) (bI (aR (aC (cM false) (aI (f k "_law_led") (aB (aC aG (aA 4) (aA 7)) (aB (aA 7) aD))) (aA 6))) (dA (aA 4) (aA 7) (aI (f k "_law_over") (aB (aC aG (aA 4) (aA 7)) (aB (aA 1) aD)))) bJ)) (aJ (aP 8 iK) (aJ (dY 1001 (cL (gH (aC aG (aA 0) (mC (.int 1)))) (cZ 5) (bI (aR (aC (cM true) (aA 5) (aA 6))) (dA (aA 8) (aA 5) (aI eH (aB (aC aG (aC aG (aA 0) (mC (.int 1))) (aA 5)) aD))) bJ)) (cL (eM (aC aG (aA 0) (mC (.int 1)))) (cZ 5) (bI (aR (aC (cM true) (aA 5) (aA 6))) (dA (aA 8) (aA 5) (aI eH (aB (aC aG (aC aG (aA 0) (mC (.int 1))) (aA 5)) aD))) bJ))) (aJ (cL (eM (aA 6)) (cZ 5) (aJ (aP 9 (aI (f k "_law_led") (aB (aI (f k "_law_over") (aB (bT (aB (mC (.int 1)) (aB (mC (.int 0)) (aB (mC (.int 0)) (aB (mC (.int 1)) (aB (mC (.int 0)) (aB (mC (.int 0)) aD))))))) (aB (aA 1) aD))) (aB (aA 5) aD)))) (aJ (aP 10 (mJ (aC aG (aC aG (aA 0) (mC (.int 1))) (aA 5)) jR jR (nB (cJ (mC (.int 1)))))) (bI (dX (aA 3)) (dA (aA 8) (aA 9) (aC bV (fE iM (aA 8) (aB (aA 9) (aB (cI aD) aD))) (aA 10))) (dA (aA 8) (aA 9) (aC bV (aA 10) (fE iM (aA 8) (aB (aA 9) (aB (cI aD) aD))))))))) (a8 (bT (aB (aA 4) (aB (aA 8) aD))))))))))) [some a,some b,some c,some d,none,none,none,none,none,none,none] e):=by
 kernel_rfl
theorem Ra (k:Nat)(a b c:D)(d:Hm):f (k+1) "_law_plan" [a,b,c] d=aV ((aJ (aP 3 (aC bU (aA 1) (mC (.int 4)))) (aJ (aP 4 (aI eH (aB (aC aG (aA 0) (mC (.int 1))) aD))) (aJ (aP 5 (aC aG (aA 4) (aC bU (aC dU (aA 1) (mC (.int 64))) (aI fF (aB (aA 4) aD))))) (aJ (aP 6 (aC bV (aC bS (aC dU (aI (f k "_law_value") (aB (aA 5) (aB (aA 3) aD))) (mC (.int 4))) (mC (.int 4))) (aC bS (aC bU (aC dU (aA 1) (mC (.int 4))) (mC (.int 2))) (mC (.int 4))))) (aJ (bI (aR (aC (a9 false) (aC bU (aC dU (aA 1) (mC (.int 8))) (mC (.int 7))) (mC (.int 3)))) (aP 6 (aC bS (mC (.int 4)) (aC cS (aC bU (aA 2) (aC bS (mC (.int 2)) (aC gW (mC (.int 10)) (mC (.int 58))))) (aC gW (mC (.int 10)) (mC (.int 58)))))) bJ) (aJ (aP 7 (aC cS (aC bU (aC dU (aA 2) (mC (.int 3))) (mC (.int 9))) (mC (.int 4)))) (aJ (bI (aR (aC (a9 false) (aC bU (aC dU (aA 1) (mC (.int 56))) (mC (.int 5))) (mC (.int 2)))) (aP 7 (aC bU (aC dU (aA 2) (mC (.int 7))) (aC gW (mC (.int 10)) (mC (.int 57))))) bJ) (aJ (aP 8 (aC aG (cI (aB (bT (aB (aC bV (mC (.int 2)) (aC bS (mC (.int 4)) (aA 7))) (aB (aA 6) aD))) (aB (bT (aB (aA 6) (aB (aC bV (mC (.int 2)) (aC bS (mC (.int 4)) (aA 7))) aD))) (aB (bT (aB (aC bV (aC bV (aA 6) (mC (.int 1))) (aC bS (mC (.int 2)) (aA 7))) (aB (aC bV (mC (.int 1)) (aC bS (mC (.int 2)) (aA 7))) aD))) (aB (bT (aB (aC bV (mC (.int 1)) (aC bS (mC (.int 2)) (aA 7))) (aB (aC cS (aC cS (aA 6) (mC (.int 1))) (aC bS (mC (.int 2)) (aA 7))) aD))) aD))))) (aA 3))) (a8 (bT (aB (aA 8) (aB (bT (aB (aA 3) (aB (aA 6) aD))) (aB (aC (a9 false) (aC bU (aC dU (aA 1) (mC (.int 280))) (mC (.int 2))) (mC (.int 1))) (aB (aC (a9 false) (aC bU (aC dU (aA 1) (mC (.int 560))) (mC (.int 2))) (mC (.int 1))) aD)))))))))))))) [some a,some b,some c,none,none,none,none,none,none] d):=by
 kernel_rfl
theorem Rb (k:Nat)(a b:D)(c:Hm):f (k+1) "_law_asked" [a,b] c=aV ((aJ (jX (aA 1) (eL [2,3,4,5])) (aJ (aP 6 (cI (aB (mC (.int 0)) aD))) (aJ (kY (aP 6 (cI (aB (gG "Folding" "fold" (f k "Folding.fold") (aA 0) (aB (aA 2) (aB (aA 4) (aB (aA 5) aD)))) aD))) (c9 (aP 6 (cI (aB (gG "Folding" "fold" (f k "Folding.fold") (aA 0) (aB (aA 2) (aB (aA 4) (aB (aA 5) aD)))) aD))) (iJ "Folding" "fold" (g k "Folding.fold") (aA 0) (aB (aA 2) (aB (aA 4) (aB (aA 5) aD)))) bX) (sup "NoFold") 7 (aP 6 (cI (aB (mC (.str "refused")) (aB (jC (sup "ValueError") (aA 7)) aD))))) (a8 (aA 6))))) [some a,some b,none,none,none,none,none,none] c):=by
 kernel_rfl
theorem Rc (k:Nat)(a b c d:D)(e:Hm):f (k+1) "_law_stands" [a,b,c,d] e=aV ((aJ (aP 4 (gG "Folding" "many" (f k "Folding.many") (aA 0) aD)) (aJ (bI (eV (dX (aI f9 (aB (aA 4) (aB (mC (.ty "bool")) aD)))) (aR (aC (a9 true) (aA 4) (aA 2)))) (a8 (mC (.bl false))) bJ) (aJ (cL (kW (aB (mC (.int 2)) aD)) (cZ 5) (bI (aR (aC (a9 false) (aC bU (aC bV (aA 5) (aA 3)) (mC (.int 2))) (mC (.int 0)))) (aJ (aP 6 (gG "Folding" "piles" (f k "Folding.piles") (aA 0) aD)) (aJ (bI (eV (iZ (dX (aI f9 (aB (aA 6) (aB (mC (.ty "dict")) aD))))) (aR (aC (gI true) (aA 6) (aC aG (aA 1) (mC (.int 1)))))) (a8 (mC (.bl false))) bJ) (aJ (cL (eM (aI eH (aB (aA 6) aD))) (cZ 7) (dS (gD g7 (aC aG (aA 6) (aA 7)) (aB (mC (.int 0)) aD)))) (dS (fE lE (aA 6) aD))))) (aJ (aP 8 (gG "Folding" "layings" (f k "Folding.layings") (aA 0) aD)) (aJ (bI (eV (iZ (dX (aI f9 (aB (aA 8) (aB (mC (.ty "dict")) aD))))) (aR (aC (gI true) (aA 8) (aC aG (aA 1) (mC (.int 0)))))) (a8 (mC (.bl false))) bJ) (dS (fE lE (aA 8) aD)))))) (a8 (mC (.bl true)))))) [some a,some b,some c,some d,none,none,none,none,none] e):=by
 kernel_rfl
theorem Rf (k:Nat)(a:D)(b:Hm):f (k+1) "law" [a] b=aV ((aJ (aP 1 (aC bV (mC (.int 1)) (aC bU (aI (f k "_law_cell") (aB (aA 0) (aB (mC (.int 0)) aD))) (mC (.int 3))))) (aJ (aP 2 (aC bV (mC (.int 1)) (aC bU (aC dU (aI (f k "_law_cell") (aB (aA 0) (aB (mC (.int 0)) aD))) (mC (.int 3))) (mC (.int 3))))) (aJ (aP 3 (k8 "Folding" (f k "Folding") (aB (aA 1) (aB (aA 2) aD)))) (aJ (aP 4 (aI (f k "_law_begun") (aB (aA 1) (aB (aA 2) aD)))) (aJ (aP 5 (mC (.int 0))) (aJ (bI (iZ (dX (aI (f k "_law_stands") (aB (aA 3) (aB (aA 4) (aB (mC (.int 0)) (aB (mC (.int 0)) aD))))))) (a8 (mC (.bl false))) bJ) (aJ (cL (p8 (aB (mC (.int 1)) (aB (aI w9 (aB (mC (.int 21)) (aB (aI w8 (aB (mC (.int 4)) (aB (aC cS (aI fF (aB (aA 0) aD)) (mC (.int 1))) aD))) aD))) (aB (mC (.int 2)) aD)))) (cZ 6) (aJ (aP 7 (aI (f k "_law_cell") (aB (aA 0) (aB (aA 6) aD)))) (aJ (aP 8 (aI (f k "_law_plan") (aB (aA 4) (aB (aA 7) (aB (aI (f k "_law_cell") (aB (aA 0) (aB (aC bV (aA 6) (mC (.int 1))) aD))) aD))))) (aJ (aP 9 (aI (f k "_law_folded") (aB (aA 4) (aB (aC aG (aA 8) (mC (.int 1))) (aB (aC aG (aA 8) (mC (.int 2))) (aB (aC aG (aA 8) (mC (.int 3))) aD)))))) (aJ (aP 10 (aI (f k "_law_asked") (aB (aA 3) (aB (aA 8) aD)))) (aJ (bI (eV (gS (aR (aC (eF false) (aA 9) (mC .non))) (aR (aC (a9 true) (aA 10) (cI (aB (mC (.str "refused")) (aB (mC (.bl true)) aD)))))) (gS (aR (aC (eF true) (aA 9) (mC .non))) (aR (aC (a9 true) (aA 10) (cI (aB (mC .non) aD)))))) (a8 (mC (.bl false))) bJ) (aJ (bI (aR (aC (eF true) (aA 9) (mC .non))) (aJ (aP 4 (aA 9)) (aP 5 (aC bV (aA 5) (mC (.int 1))))) bJ) (bI (iZ (dX (aI (f k "_law_stands") (aB (aA 3) (aB (aA 4) (aB (aA 5) (aB (aC dU (aA 7) (mC (.int 3))) aD))))))) (a8 (mC (.bl false))) bJ)))))))) (a8 (mC (.bl true)))))))))) [some a,none,none,none,none,none,none,none,none,none,none] b):=by
 kernel_rfl
theorem Rg (k:Nat)(a b c:D)(d:Hm):f (k+1) "Folding.__init__" [a,b,c] d=aV ((aJ (dS (aI (f k "check_size") (aB (aA 1) (aB (aA 2) aD)))) (aJ (k7 "Folding" "wide" (aA 0) (aA 1)) (aJ (k7 "Folding" "high" (aA 0) (aA 2)) (k7 "Folding" "states" (aA 0) (cI (aB (aI (f k "unfolded") (aB (aA 1) (aB (aA 2) aD))) aD)))))) [some a,some b,some c] d):=by
 kernel_rfl
theorem Rh (k:Nat)(a b c d:D)(e:Hm):f (k+1) "Folding.fold" [a,b,c,d] e=aV ((aJ (aP 4 (aC aG (eX "Folding" "states" (aA 0)) (cJ (mC (.int 1))))) (aJ (dS (aI (f k "check_fold") (aB (aC aG (aA 4) (mC (.int 1))) (aB (aA 1) aD)))) (aJ (aP 5 (f6 (dX (aA 2)) (mC (.int 1)) (cJ (mC (.int 1))))) (dS (gD g7 (eX "Folding" "states" (aA 0)) (aB (bT (aB (aI (f k "folded_layings") (aB (aC aG (aA 4) (mC (.int 0))) (aB (aA 1) (aB (aA 5) aD)))) (aB (aI (f k "folded_piles") (aB (aC aG (aA 4) (mC (.int 1))) (aB (aA 1) (aB (aA 5) (aB (aA 3) aD))))) aD))) aD)))))) [some a,some b,some c,some d,none,none] e):=by
 kernel_rfl
theorem Ri (k:Nat)(a b c d:D)(e:Hm):g (k+3) "Folding.fold" [a,b,c,d] e=qS ((c9 (aP 4 (aC aG (eX "Folding" "states" (aA 0)) (cJ (mC (.int 1))))) bX (c9 (dS (aI (f (k+2) "check_fold") (aB (aC aG (aA 4) (mC (.int 1))) (aB (aA 1) aD)))) (mF (g (k+2) "check_fold") (aB (aC aG (aA 4) (mC (.int 1))) (aB (aA 1) aD))) (c9 (aP 5 (f6 (dX (aA 2)) (mC (.int 1)) (cJ (mC (.int 1))))) bX (c9 (dS (gD g7 (eX "Folding" "states" (aA 0)) (aB (bT (aB (aI (f (k+2) "folded_layings") (aB (aC aG (aA 4) (mC (.int 0))) (aB (aA 1) (aB (aA 5) aD)))) (aB (aI (f (k+2) "folded_piles") (aB (aC aG (aA 4) (mC (.int 1))) (aB (aA 1) (aB (aA 5) (aB (aA 3) aD))))) aD))) aD))) bX bX)))) [some a,some b,some c,some d,none,none] e):=by
 kernel_rfl
theorem Rj (k:Nat)(a:D)(b:Hm):f (k+1) "Folding.many" [a] b=aV ((a8 (aC cS (aI fF (aB (eX "Folding" "states" (aA 0)) aD)) (mC (.int 1)))) [some a] b):=by
 kernel_rfl
theorem Rk (k:Nat)(a:D)(b:Hm):f (k+1) "Folding.layings" [a] b=aV ((a8 (aI mO (aB (aC aG (aC aG (eX "Folding" "states" (aA 0)) (cJ (mC (.int 1)))) (mC (.int 0))) aD))) [some a] b):=by
 kernel_rfl
theorem Rl (k:Nat)(a:D)(b:Hm):f (k+1) "Folding.piles" [a] b=aV ((a8 (aI (f k "copied_piles") (aB (aC aG (aC aG (eX "Folding" "states" (aA 0)) (cJ (mC (.int 1)))) (mC (.int 1))) aD))) [some a] b):=by
 kernel_rfl
theorem Rm (k:Nat)(xs:List D)(a:Hm):f (k+1) "Folding" xs a=f k "Folding.__init__" xs a:=by
 kernel_rfl
end Lw
namespace Lw
open PySem L2 L3
theorem Es {z:Int}{a:Hm}{Q:D×Hm->Prop}:W (bS (.int 2) (.int z) a) Q↔Q (.int (2 * z),a):=jG (.inl ⟨by decide,by decide⟩)
theorem oQ {z:Int}{a:Hm}{Q:D×Hm->Prop}:W (bS (.int 4) (.int z) a) Q↔Q (.int (4 * z),a):=jG (.inl ⟨by decide,by decide⟩)
theorem Et {z:Int}{a:Hm}{Q:D×Hm->Prop}:W (bU (.int z) (.int 2) a) Q↔Q (.int (z % 2),a):=dQ (by decide)
theorem Eu {z:Int}{a:Hm}{Q:D×Hm->Prop}:W (bU (.int z) (.int 4) a) Q↔Q (.int (z % 4),a):=dQ (by decide)
theorem Rn:(2:Nat)<=TZ:=by decide
theorem eT {a b:D}:([a,b]:List D).length<=TZ:=Rn
theorem Ro:(1:Nat)<=TZ:=by decide
theorem qW {a:D}:([a]:List D).length<=TZ:=Ro
theorem Rq {z:Int}{a:Hm}{Q:D×Hm->Prop}:W (bS (.int z) (.int 4) a) Q↔Q (.int (z * 4),a):=jG (.inr ⟨by decide,by decide⟩)
noncomputable def rN:D->Int
 | .int i=>i
 | _=>0
theorem Rt {lo:Int}{n:Nat}{d:D}(h:d∈kD lo n):∃ j:Nat,j<n/\d=.int (lo+(j:Int)):=by
 unfold kD at h
 obtain ⟨j,a,rfl⟩:=TX.mp h
 exact ⟨j,XR.mp a,rfl⟩
theorem t9 {a C:MS}{e c:aF}{d b:Hm}{Q:D×Hm->Prop}(h:a e d=some (.nx,c,b))(k:W (aV (C c b)) Q):W (aV (aJ a C e d)) Q:=by
 unfold aJ
 rw [h]
 exact k
theorem Ew {i:Nat}{m:ME}{b:aF}{c a:Hm}{d:D}(h:m b c=some (d,a)):aP i m b c=some (.nx,b.set i (some d),a):=by
 unfold aP
 rw [h]
 rfl
theorem zR {a:Type}{o:Option a}{r:a}{Q:a->Prop}(h:W o fun x=>x=r):W o Q↔Q r:=by
 obtain ⟨_,h,rfl⟩:=h
 rw [h]
 exact W_some
theorem Ey {a:Type}{o:Option a}{r:a}(h:∀ Q:a->Prop,W o Q↔Q r):o=some r:=by
 obtain ⟨_,e,b⟩:=(h fun x=>x=r).mpr rfl
 rw [e,b]
theorem Ru {g:D->D->Hm->Option (D×Hm)}{a b:ME}{e:aF}{h c d:Hm}{x y:D}{Q:D×Hm->Prop}(i:a e h=some (x,c))(j:b e c=some (y,d))(k:W (g x y d) Q):W (aC g a b e h) Q:=by
 unfold aC
 rw [i,T9,j]
 exact k
theorem Rv {m:ME}{b:aF}{a:Hm}{Q:D×Hm->Prop}(k:W (m b a) Q):W (aV (a8 m b a)) Q:=W_fin.mpr (w_mRet.mpr (bP k fun _ q=>q))
noncomputable def qX (x y:Int):Str:=if x % 2=1 then (if x % 4=y % 4 then "falling" else "rising") else if y % 4=0 then "level" else "upright"
theorem Ez (k:Nat)(x y:Int)(a:Hm)(Q:D×Hm->Prop):W (f (k+1) "line_of" [P x y] a) Q↔Q (.str (qX x y),a):=by
 rw [Qz,W_fin]
 simp only [w_mSeq,w_mRet,dE,cU,qT,bA,bB,aH,dP,jH,fW,w_eqI,dQ (show (0:Int)<2 by decide),dQ (show (0:Int)<4 by decide)]
 unfold qX
 split<;>split<;>simp_all
noncomputable def hX (x y:Int)(a b:Int):Int:=if x % 2=1 then (if x % 4=y % 4 then a - b else a+b) else if y % 4=0 then b else a
theorem EA (k:Nat)(x y a b:Int)(c:Hm)(Q:D×Hm->Prop):W (f (k+1) "number_by" [.str (qX x y),P a b] c) Q↔Q (.int (hX x y a b),c):=by
 refine zR ?_
 rw [QC]
 unfold qX hX
 split<;>split<;>exact ⟨_,rfl,rfl⟩
noncomputable def dJ (p e:Int×Int):Int×Int:=
 if e.1 % 2=1 then (if e.1 % 4=e.2 % 4 then (p.2+(e.1 - e.2),p.1 - (e.1 - e.2)) else (e.1+e.2 - p.2,e.1+e.2 - p.1)) else if e.2 % 4=0 then (p.1,2 * e.2 - p.2) else (2 * e.1 - p.1,p.2)
theorem EB (k:Nat)(x y a b:Int)(c:Hm)(Q:D×Hm->Prop):W (f (k+2) "mirrored" [P x y,P a b] c) Q↔Q (PP (dJ (x,y) (a,b)),c):=by
 refine zR ?_
 rw [QF]
 refine t9 rfl (t9 rfl (t9 (Ew (Ey (Ez k a b c))) (t9 (Ew (Ey (EA k a b a b c))) ?_)))
 unfold qX hX dJ
 split<;>split<;>exact ⟨_,rfl,rfl⟩
noncomputable def lL:D->Int×Int
 | .tup [.int x,.int y]=>(x,y)
 | _=>(0,0)
theorem EC (p:Int×Int->Bool)(l:List (Int×Int)):((l.map PP).filter fun d=>p (lL d)).map (fun d=>d)=(l.filter p).map PP:=by
 rw [List.map_id']
 induction l with
 | nil=>rfl
 | cons a l b=>
  have e:(a1Z PP (a::l)).filter (fun d=>p (lL d))=if p a then PP a::(l.map PP).filter (fun d=>p (lL d)) else (l.map PP).filter fun d=>p (lL d):=by
   rw [TM,Yc];rfl
  rw [e,b,Yc]
  split<;>rfl
theorem Rw {d:D}{l:List (Int×Int)}(h:d∈l.map PP):∃ x y,d=P x y:=by
 obtain ⟨p,_,rfl⟩:=TX.mp h
 exact ⟨p.1,p.2,rfl⟩
theorem ED {n:Nat}{i:Int}(a:0<=i)(h:i<n):kP n i=some i.toNat:=by
 unfold kP;rw [if_pos a,if_pos h]
theorem EE {a:List Int}{i:Int}(b:0<=i)(h:i<a.length):atI (a.map D.int) i=some (.int (a.getD i.toNat 0)):=by
 unfold atI
 rw [TF,ED b h,T9,Um]
 have c:i.toNat<a.length:=by omega
 simp [a1I,c]
theorem EF {xs:List D}{i:Int}{d:D}{a:Hm}{Q:D×Hm->Prop}(h:atI xs i=some d):W (aG (.rol xs) (.int i) a) Q↔Q (d,a):=by
 have:aG (.rol xs) (.int i) a=some (d,a):=by
  simp only [aG,f7,bO,T9,h,Us]
 rw [this]
 exact W_some
theorem Ry {a:Hm}{b:Nat}{ns:List Int}{Q:D×Hm->Prop}(e:a[b]? = some (.lst [])):W (a9 false (.rol (ns.map D.int)) (.loc b) a) Q↔Q (.bl (ns == []),a):=by
 have c:cX a (.rol (ns.map D.int))=some (.lst (ns.map D.int)):=rfl
 have d:cX a (.loc b)=some (.lst (([]:List Int).map D.int)):=by simp only [cX,e];rfl
 have:cR 8 a (.rol (ns.map D.int)) (.loc b)=some (ns == []):=by
  show (cX a (.rol (ns.map D.int))).bind (fun x=>(cX a (.loc b)).bind fun y=>gT (cR 7 a) x y)=_
  rw [c,d]
  exact Eg 6 a ns []
 unfold a9
 rw [this]
 exact W_some
noncomputable def kH (ns:List Int)(i:Int):Int:=if i<ns.length then ns.getD i.toNat 0 else if ns=[] then i * i * 48271 % 2147483647 else
 ((ns.getD (i % ns.length).toNat 0 % 2147483629+i * i * 69623) * 48271 % 2147483647) * ((ns.getD (i % ns.length).toNat 0 % 2147483629+i * i * 69623) * 48271 % 2147483647) % 2147483629
theorem Rz {i:Int}(a:0<=i/\i<=100):0<=i * i/\i * i<=10000:=by
 refine ⟨Int.mul_nonneg a.1 a.1,?_⟩
 have:=a2m a.2 a.2 a.1 (by decide)
 omega
theorem uA (k:Nat)(ns:List Int)(i:Int)(c:0<=i/\i<=100)(j:Hm)(Q:D×Hm->Prop)(H:∀ b,j <+: b->Q (.int (kH ns i),b)):W (f (k+1) "_law_cell" [.rol (ns.map D.int),.int i] j) Q:=by
 rw [Q3,W_fin]
 have n:=Rz c
 simp only [w_mSeq,cU,dP,bA,bQ,aX,aT,aH,aK,bB,zN,D9,TF]
 by_cases h:i<ns.length
 ·simp only [h,decide_true,if_true,w_mRet,bA,aH,aK]
  rw [EF (EE c.1 h)]
  have e:kH ns i=ns.getD i.toNat 0:=by unfold kH;rw [if_pos h]
  rw [<- e]
  exact H _ (VR _)
 ·simp only [h,decide_false,TY,if_false,dE,w_mSeq,cU,dP,bA,aH,fJ,aT]
  refine ⟨Vj _,?_⟩
  refine (Ry (cB _ _)).mpr ?_
  by_cases a:ns=[]
  ·have e:(ns == [])=true:=by rw [a];rfl
   simp only [e,if_true,w_mRet,bA,aH,aK,bB]
   refine (jG (.inl (by omega))).mpr ((jG (.inr (by omega))).mpr ((dQ (by decide)).mpr ?_))
   have e:kH ns i=i * i * 48271 % 2147483647:=by unfold kH;rw [if_neg h,if_pos a]
   rw [<- e]
   exact H _ (bE _ _)
  ·have e:(ns == [])=false:=by
    cases ns with
    | nil=>exact absurd rfl a
    | cons=>rfl
   have m:0<ns.length:=a0H.mpr a
   simp only [e,TY,if_false,dE,w_mSeq,cC,w_mRet,bA,aH,aK,bB,bQ,aX,aT,zN,TF]
   refine (dQ (by omega)).mpr ?_
   have d:0<=i % (ns.length:Int)/\i % (ns.length:Int)<ns.length:=⟨XD _ (by omega),W0 _ (by omega)⟩
   rw [EF (EE d.1 d.2)]
   have e:kH ns i=((ns.getD (i % ns.length).toNat 0 % 2147483629+i * i * 69623) * 48271 % 2147483647) * ((ns.getD (i % ns.length).toNat 0 % 2147483629+i * i * 69623) * 48271 % 2147483647) % 2147483629:=by
    unfold kH;rw [if_neg h,if_neg a]
   refine (dQ (by decide)).mpr ((jG (.inl (by omega))).mpr ((jG (.inr (by omega))).mpr ?_))
   simp only [iQ]
   refine (jG (.inr (by omega))).mpr ((dQ (by decide)).mpr ?_)
   simp only [TJ,TK,aH,aK]
   generalize hy:(ns.getD (i % ns.length).toNat 0 % 2147483629+i * i * 69623) * 48271 % 2147483647=y at e
   have l:0<=y/\y<2147483647:=by
    rw [<- hy];exact ⟨XD _ (by decide),W0 _ (by decide)⟩
   refine (jG (.inl (by omega))).mpr ((dQ (by decide)).mpr ?_)
   rw [<- e]
   exact H _ (bE _ _)
structure Ly where
 a:Int
 b:Int
 c:Int
 d:Int
 e:Int
 g:Int
 deriving DecidableEq
noncomputable abbrev LD (A:Ly):D:=.tup [.int A.a,.int A.b,.int A.c,.int A.d,.int A.e,.int A.g]
noncomputable def Dih (A:Ly):Prop:=(A.b=0/\A.c=0/\(A.a=1\/A.a = -1)/\(A.d=1\/A.d = -1))\/(A.a=0/\A.d=0/\(A.b=1\/A.b = -1)/\(A.c=1\/A.c = -1))
theorem Dih.sm {A:Ly}(h:Dih A):(-1<=A.a/\A.a<=1)/\(-1<=A.b/\A.b<=1)/\(-1<=A.c/\A.c<=1)/\(-1<=A.d/\A.d<=1):=by
 unfold Dih at h
 omega
noncomputable def aO (A:Ly)(p:Int×Int):Int×Int:=(A.a * p.1+A.b * p.2+A.e,A.c * p.1+A.d * p.2+A.g)
noncomputable def fA (A B:Ly):Ly:=⟨B.a * A.a+B.b * A.c,B.a * A.b+B.b * A.d,B.c * A.a+B.d * A.c,B.c * A.b+B.d * A.d,B.a * A.e+B.b * A.g+B.e,B.c * A.e+B.d * A.g+B.g⟩
noncomputable def dG:Ly:=⟨1,0,0,1,0,0⟩
noncomputable def uB (e:Int×Int):Ly:=
 ⟨(dJ (1,0) e).1 - (dJ (0,0) e).1,(dJ (0,1) e).1 - (dJ (0,0) e).1,(dJ (1,0) e).2 - (dJ (0,0) e).2,(dJ (0,1) e).2 - (dJ (0,0) e).2,(dJ (0,0) e).1,(dJ (0,0) e).2⟩
theorem Ly.ext' {A B:Ly}(a:A.a=B.a)(b:A.b=B.b)(c:A.c=B.c)(d:A.d=B.d)(e:A.e=B.e)(h:A.g=B.g):A=B:=by
 cases A;cases B;simp_all
theorem RA (A B:Ly)(p:Int×Int):aO (fA A B) p=aO B (aO A p):=by
 unfold aO fA
 refine X7 ?_ ?_<;>dsimp only<;>grind
theorem RB (A:Ly):fA dG A=A:=by
 unfold fA dG
 exact Ly.ext' (by dsimp only;omega) (by dsimp only;omega) (by dsimp only;omega) (by dsimp only;omega) (by dsimp only;omega) (by dsimp only;omega)
theorem RC:Dih dG:=.inl ⟨rfl,rfl,.inl rfl,.inl rfl⟩
theorem lM {x y:Int}(a:x=1\/x = -1)(b:y=1\/y = -1):x * y=1\/x * y = -1:=by
 rcases a with rfl|rfl<;>rcases b with rfl|rfl<;>decide
theorem RD {A B:Ly}(hA:Dih A)(hB:Dih B):Dih (fA A B):=by
 unfold Dih fA
 dsimp only
 rcases hA with ⟨c,d,a,b⟩|⟨c,d,a,b⟩<;>rcases hB with ⟨k1,k2,k3,k4⟩|⟨k1,k2,k3,k4⟩<;>rw [c,d,k1,k2]<;>simp only [Int.mul_zero,Int.zero_mul,Int.add_zero,Int.zero_add,true_and]
 ·exact .inl ⟨lM k3 a,lM k4 b⟩
 ·exact .inr ⟨lM k3 b,lM k4 a⟩
 ·exact .inr ⟨lM k3 a,lM k4 b⟩
 ·exact .inl ⟨lM k3 b,lM k4 a⟩
theorem EG (p:Int×Int):aO dG p=p:=by
 unfold aO dG
 refine X7 ?_ ?_<;>dsimp only<;>omega
theorem EH {a b c d e g:D}:([a,b,c,d,e,g]:List D).length<=TZ:=by show (6:Nat)<=TZ;decide
theorem EI (k:Nat)(p q r:Int×Int)(a:Hm)(Q:D×Hm->Prop):W (f (k+1) "laying_by" [PP p,PP q,PP r] a) Q↔Q (LD ⟨q.1 - p.1,r.1 - p.1,q.2 - p.2,r.2 - p.2,p.1,p.2⟩,a):=by
 rw [QH,W_fin]
 simp only [w_mRet,fV,aX,aT,bA,aH,aK,bB,jH,fW,mW,EH,true_and]
theorem RE (k:Nat)(x y:Int)(a:Hm)(Q:D×Hm->Prop):W (f (k+3) "mirror_in" [P x y] a) Q↔Q (LD (uB (x,y)),a):=by
 rw [QK,W_fin]
 simp only [w_mRet,bQ,aX,aT,fV,aH,bB,eT,true_and,EB,EI]
 rfl
theorem lN {i j:Int}(h:-1<=i/\i<=1){a:Hm}{Q:D×Hm->Prop}:W (bS (.int i) (.int j) a) Q↔Q (.int (i * j),a):=jG (.inl ⟨by omega,by omega⟩)
theorem zS (k:Nat)(A:Ly)(hA:Dih A)(x y:Int)(a:Hm)(Q:D×Hm->Prop):W (f (k+1) "led" [LD A,P x y] a) Q↔Q (PP (aO A (x,y)),a):=by
 obtain ⟨b,c,d,e⟩:=hA.sm
 rw [QL,W_fin]
 simp only [w_mSeq,cC,w_mRet,fV,aX,aT,bA,aH,aK,bB,jH,fW,P7,P8,P9,Qa,Qb,Qd,TJ,TK,lN b,lN c,lN d,lN e,iQ,eT,true_and]
 rfl
theorem RG (k:Nat)(A B:Ly)(hA:Dih A)(hB:Dih B)(a:Hm)(Q:D×Hm->Prop):W (f (k+2) "then" [LD A,LD B] a) Q↔Q (LD (fA A B),a):=by
 rw [QM,W_fin]
 simp only [w_mRet,bQ,aX,aT,fV,aH,aK,bB,eT,true_and,zS _ A hA,zS _ B hB,EI]
 have e:(⟨(aO B (aO A (1,0))).1 - (aO B (aO A (0,0))).1,(aO B (aO A (0,1))).1 - (aO B (aO A (0,0))).1,(aO B (aO A (1,0))).2 - (aO B (aO A (0,0))).2,(aO B (aO A (0,1))).2 - (aO B (aO A (0,0))).2,(aO B (aO A (0,0))).1,(aO B (aO A (0,0))).2⟩:Ly)=fA A B:=by
  unfold aO fA
  refine Ly.ext' ?_ ?_ ?_ ?_ ?_ ?_<;>dsimp only<;>grind
 rw [<- e]
noncomputable def jI (lo:Int)(n m:Nat):List (Int×Int):=(UX n).flatMap fun (i:Nat)=>(UX m).map fun (j:Nat)=>(lo+(i:Int),lo+(j:Int))
noncomputable def iS (lo x:Int)(m:Nat):List (Int×Int):=(UX m).map fun (j:Nat)=>(x,lo+(j:Int))
theorem EJ (lo:Int)(n m:Nat):jI lo (n+1) m=jI lo n m++iS lo (lo+(n:Int)) m:=by
 unfold jI iS;rw [Zk,a0I];simp
theorem EK (lo x:Int)(m:Nat):iS lo x (m+1)=iS lo x m++[(x,lo+(m:Int))]:=by
 unfold iS;rw [Zk,Uo];rfl
theorem EL (lo x:Int)(m:Nat):(iS lo x m).length=m:=by unfold iS;simp
theorem EM (lo:Int)(m:Nat):∀ n:Nat,(jI lo n m).length=n * m
 | 0=>by simp [jI]
 | n+1=>by rw [EJ,TV,EM lo m n,EL,a0p]
theorem EO {d:Hm}{a:Nat}{c b:C}:(d.set a c).set a b=d.set a b:=YR ..
theorem jJ {d:Hm}{a:Nat}{c b:C}(h:d[a]? = some c):(d.set a b)[a]? = some b:=by
 rw [Ug (TB.mp h).1]
theorem zT (a:Hm)(c b:C):(a++[c]).set a.length b=a++[b]:=by
 rw [Xi _ _ (TR _)];simp
theorem qY {b:Hm}{a:Nat}{c:C}(h:b[a]? = some c):b.set a c=b:=by
 obtain ⟨d,rfl⟩:=TB.mp h
 exact List.set_getElem_self d
noncomputable abbrev ER:MS:=dS (gD g7 (aA 2) (aB (bT (aB (aA 3) (aB (aA 4) aD))) aD))
theorem RH (T:MT)(c:Int->Int->Bool)(e h:D)(a:Nat)(x:Int)(u:∀ y b Q,W (T [some e,some h,some (.loc a),some (.int x),some (.int y)] b) Q↔Q (c x y,b))(lo:Int)(m:Nat)(ps:List (Int×Int))(v:ps.length+m<=1000)(b:Hm)(j:b[a]? = some (.lst (ps.map PP)))(o:Option D)(Q:Fl×aF×Hm->Prop)
  (d:∀ o,Q (.nx,[some e,some h,some (.loc a),some (.int x),o],b.set a (.lst ((ps++(iS lo x m).filter fun p=>c p.1 p.2).map PP)))):W (eK (gA lo m) (cZ 4) (bI T ER bJ) (m+1) 0 [some e,some h,some (.loc a),some (.int x),o] b) Q:=by
 refine tZ (fun i q l=>i<=m/\l=b.set a (.lst ((ps++(iS lo x i).filter fun p=>c p.1 p.2).map PP))/\∃ o,q=[some e,some h,some (.loc a),some (.int x),o]) ⟨Vj _,?_,o,rfl⟩ ?_ ?_
 ·simp only [iS,a1S,XH,WT,U9]
  exact (qY j).symm
 ·rintro i q n s ⟨_,rfl,o,rfl⟩
  refine ⟨_,rfl,?_⟩
  simp only [TJ,TK,cU]
  rw [u]
  cases r:c x (lo+(i:Int)) with
  | false=>
   simp only [TY,if_false,dE]
   refine ⟨s,?_,_,rfl⟩
   rw [EK,VS]
   simp [r]
  | true=>
   simp only [if_true,mV]
   refine t7 ?_
   simp only [aH,aK]
   refine ⟨Eh (jJ j),?_⟩
   simp only [aX,aT,fV,aH,aK,eT,true_and]
   refine (zL (jJ j) ?_).mpr ?_
   ·have:=Vh (fun p=>c p.1 p.2) (iS lo x i)
    rw [EL] at this
    rw [TF,TV,UW]
    omega
   refine ⟨s,?_,_,rfl⟩
   rw [EO,EK,VS]
   simp [r,PP,P]
 ·rintro q n ⟨_,rfl,o,rfl⟩
  exact d o
theorem RI (T:MT)(h:Int->Int->Bool)(d e:D)(a:Nat)(v:MI)(lo:Int)(m:Nat)(hit:∀ o1 c b Q,W (v [some d,some e,some (.loc a),o1,c] b) Q↔Q (gA lo m,m+1,b))(z:∀ x y b Q,W (T [some d,some e,some (.loc a),some (.int x),some (.int y)] b) Q↔Q (h x y,b))(n:Nat)(B:n * m+m<=900)(b:Hm)(s:b[a]? = some (.lst []))(Q:Fl×aF×Hm->Prop)
  (j:∀ o1 c,Q (.nx,[some d,some e,some (.loc a),o1,c],b.set a (.lst (((jI lo n m).filter fun p=>h p.1 p.2).map PP)))):W (eK (gA lo n) (cZ 3) (cL v (cZ 4) (bI T ER bJ)) (n+1) 0 [some d,some e,some (.loc a),none,none] b) Q:=by
 refine tZ (fun i r l=>i<=n/\l=b.set a (.lst (((jI lo i m).filter fun p=>h p.1 p.2).map PP))/\∃ o1 c,r=[some d,some e,some (.loc a),o1,c]) ⟨Vj _,?_,none,none,rfl⟩ ?_ ?_
 ·simp only [jI,a1S,List.flatMap_nil,WT,XH]
  exact (qY s).symm
 ·rintro i r q u ⟨_,rfl,o1,c,rfl⟩
  refine ⟨_,rfl,?_⟩
  simp only [TJ,TK,iR]
  rw [hit]
  refine RH T h d e a _ (z _) lo m _ ?_ _ (jJ s) _ _ fun o=>?_
  ·have w:=Vh (fun p=>h p.1 p.2) (jI lo i m)
   rw [EM] at w
   have A:i * m<=n * m:=Nat.mul_le_mul_right _ (Y5 u)
   omega
  ·refine ⟨u,?_,_,_,rfl⟩
   rw [EO,EJ,VS]
 ·rintro r q ⟨_,rfl,o1,c,rfl⟩
  exact j o1 c
noncomputable def zU (x y:Int):Bool:=(x % 4 == 2&&y % 2 == 1)||(x % 2 == 1&&y % 4 == 2)
noncomputable def dZ (w h:Int):List (Int×Int):=(jI 0 (4 * w).toNat (4 * h).toNat).filter fun p=>zU p.1 p.2
theorem RJ {w h:Int}(hw:1<=w/\w<=3)(e:1<=h/\h<=3):(4 * w).toNat * (4 * h).toNat+(4 * h).toNat<=900/\(4 * w - 1).toNat * (4 * h - 1).toNat+(4 * h - 1).toNat<=900:=by
 have a:(4 * w).toNat<=12:=by omega
 have b:(4 * h).toNat<=12:=by omega
 have c:=ZO a b
 have d:(4 * w - 1).toNat * (4 * h - 1).toNat<=12 * 12:=ZO (by omega) (by omega)
 omega
theorem RK (k:Nat)(w h:Int)(hw:1<=w/\w<=3)(b:1<=h/\h<=3)(a:Hm)(Q:D×Hm->Prop)(H:Q (.loc a.length,a++[.lst ((dZ w h).map PP)])):W (f (k+1) "_law_quarters" [.int w,.int h] a) Q:=by
 rw [Q4,W_fin]
 simp only [w_mSeq,cC,fJ,aT]
 refine ⟨Vj _,?_⟩
 simp only [TJ,TK,iR]
 rw [zJ (j:=0)]
 simp only [aX,aT,bB,bA,aH,aK,oQ]
 refine ⟨by omega,?_⟩
 refine RI _ zU _ _ _ _ 0 (4 * h).toNat (fun o1 c a Q=>?_) (fun x y a Q=>?_) (4 * w).toNat (RJ hw b).1 _ (cB _ _) _ fun o1 c=>?_
 ·rw [zJ (j:=0)]
  simp only [aX,aT,bB,bA,aH,aK,oQ]
  exact and_iff_right (by omega)
 ·simp only [lK,tW,dP,bA,aH,aK,bB,Et,Eu,w_eqI,iQ]
  unfold zU
  cases x % 4 == 2<;>cases y % 2 == 1<;>cases x % 2 == 1<;>cases y % 4 == 2<;>simp
 ·simp only [w_mRet,aH,aK]
  rw [zT]
  exact H
noncomputable def b6 (p:Int×Int):List Int:=[p.1,p.2]
theorem ES {a:List (Int×Int)}{i:Nat}{d:D}(h:(a.map PP)[i]? = some d):∃ p,a[i]? = some p/\d=PP p:=by
 rw [Um] at h
 obtain ⟨p,b,c⟩:=Tz.mp h
 exact ⟨p,b,c.symm⟩
theorem iT (q:Int×Int):eE (PP q)=some (b6 q):=rfl
theorem ET {l:List (List Int×D)}(nd:(l.map (·.1)).Nodup){k:List Int}{d:D}(h:(k,d)∈l):b7 l k=some d:=by
 induction l with
 | nil=>cases h
 | cons p l a=>
  rw [TM,VD] at nd
  unfold b7
  rw [U0]
  rcases Uq.mp h with h|h
  ·rw [<- h]
   simp
  ·have:decide (p.1=k)=false:=decide_eq_false fun z=>nd.1 (TX.mpr ⟨_,h,z.symm⟩)
   rw [this]
   exact a nd.2 h
theorem oR {p q:Int×Int}(h:b6 p=b6 q):p=q:=by
 unfold b6 at h
 injection h with h1 h2
 injection h2 with h2
 exact X7 h1 h2
theorem RL {m:aF}{i1 i2 h i j l:Nat}{a b c d e g:D}{n:Hm}{Q:aF->Prop}:W (eL [i1,i2,h,i,j,l] (.tup [a,b,c,d,e,g]) m n) Q↔Q ((((((m.set i1 (some a)).set i2 (some b)).set h (some c)).set i (some d)).set j (some e)).set l (some g)):=W_some
noncomputable abbrev Gr:=List ((Int×Int)×List (Int×Int))
noncomputable abbrev Zr:=List ((Int×Int)×List (Int×Int)×Nat)
noncomputable def GZ (Z:Zr):Gr:=Z.map fun z=>(z.1,z.2.1)
noncomputable def aQ (Z:Zr):List (List Int×D):=Z.map fun z=>(b6 z.1,D.loc z.2.2)
structure GI (μ0 μ:Hm)(a:Nat)(Z:Zr):Prop where
 pre:μ0 <+: μ
 lo:μ0.length<=a
 dic:μ[a]? = some (.dT (aQ Z))
 kd:(Z.map (·.1)).Nodup
 bd:(Z.map (·.2.2)).Nodup
 at_:∀ z∈Z,μ0.length<=z.2.2/\μ[z.2.2]? = some (.lst (z.2.1.map PP))
theorem oS {Z:Zr}{z:(Int×Int)×List (Int×Int)×Nat}(d:(Z.map (·.1)).Nodup)(h:z∈Z):b7 (aQ Z) (b6 z.1)=some (.loc z.2.2):=by
 refine ET ?_ (TX.mpr ⟨z,h,rfl⟩)
 have e:(aQ Z).map (·.1)=(Z.map (·.1)).map b6:=by
  unfold aQ
  rw [Uh,Uh]
  rfl
 rw [e]
 exact Ym _ (fun a b c x=>c (oR x)) d
theorem zV {Z:Zr}{p:Int×Int}(h:p∉Z.map (·.1)):b7 (aQ Z) (b6 p)=none:=by
 unfold b7
 rw [a0T.mpr]
 ·rfl
 ·intro x a
  obtain ⟨z,b,rfl⟩:=TX.mp a
  rw [decide_eq_true_iff]
  exact fun e=>h (TX.mpr ⟨z,b,oR e⟩)
theorem EU {Z:Zr}{p:Int×Int}(h:p∈Z.map (·.1)):∃ z∈Z,z.1=p:=by
 obtain ⟨z,a,b⟩:=TX.mp h
 exact ⟨z,a,b⟩
theorem RM {Z:Zr}(b:(Z.map (·.1)).Nodup){z y:(Int×Int)×List (Int×Int)×Nat}(hz:z∈Z)(c:y∈Z)(e:z.1=y.1):z=y:=by
 induction Z with
 | nil=>cases hz
 | cons x Z d=>
  rw [TM,VD] at b
  rcases Uq.mp hz with a|a<;>rcases Uq.mp c with h2|h2
  ·rw [a,h2]
  ·exact (b.1 (TX.mpr ⟨y,h2,by rw [<- a];exact e.symm⟩)).elim
  ·exact (b.1 (TX.mpr ⟨z,a,by rw [<- h2];exact e⟩)).elim
  ·exact d b.2 a h2
theorem RN {Z:Zr}(b:(Z.map (·.2.2)).Nodup){z y:(Int×Int)×List (Int×Int)×Nat}(hz:z∈Z)(c:y∈Z)(e:z.2.2=y.2.2):z=y:=by
 induction Z with
 | nil=>cases hz
 | cons x Z d=>
  rw [TM,VD] at b
  rcases Uq.mp hz with a|a<;>rcases Uq.mp c with h2|h2
  ·rw [a,h2]
  ·exact (b.1 (TX.mpr ⟨y,h2,by rw [<- a];exact e.symm⟩)).elim
  ·exact (b.1 (TX.mpr ⟨z,a,by rw [<- h2];exact e⟩)).elim
  ·exact d b.2 a h2
theorem kI (Z:Zr):(GZ Z).map (·.1)=Z.map (·.1):=by
 unfold GZ
 rw [Uh]
 rfl
theorem GI.more {μ0 c b:Hm}{a:Nat}{Z:Zr}(I:GI μ0 c a Z)(h:c <+: b):GI μ0 b a Z:=⟨I.pre.trans h,I.lo,aS h I.dic,I.kd,I.bd,fun z hz=>⟨(I.at_ z hz).1,aS h (I.at_ z hz).2⟩⟩
theorem GI.ne {μ0 c:Hm}{a:Nat}{Z:Zr}(I:GI μ0 c a Z){z:(Int×Int)×List (Int×Int)×Nat}(hz:z∈Z):z.2.2≠a:=fun e=>by
 have b:=(I.at_ z hz).2
 rw [e,I.dic] at b
 cases b
theorem GI.hit {μ0 c:Hm}{a:Nat}{Z:Zr}(I:GI μ0 c a Z){z:(Int×Int)×List (Int×Int)×Nat}(hz:z∈Z)(q:Int×Int) :
  GI μ0 (c.set z.2.2 (.lst (z.2.1.map PP++[PP q]))) a (Z.map fun y=>if y.1=z.1 then (y.1,y.2.1++[q],y.2.2) else y):=by
 have j:(Z.map fun y=>if y.1=z.1 then (y.1,y.2.1++[q],y.2.2) else y).map (·.1)=Z.map (·.1):=by
  rw [Uh]
  refine US fun y _=>?_
  show (if y.1=z.1 then (y.1,y.2.1++[q],y.2.2) else y).1=y.1
  split<;>rfl
 have i:(Z.map fun y=>if y.1=z.1 then (y.1,y.2.1++[q],y.2.2) else y).map (·.2.2)=Z.map (·.2.2):=by
  rw [Uh]
  refine US fun y _=>?_
  show (if y.1=z.1 then (y.1,y.2.1++[q],y.2.2) else y).2.2=y.2.2
  split<;>rfl
 have l:aQ (Z.map fun y=>if y.1=z.1 then (y.1,y.2.1++[q],y.2.2) else y)=aQ Z:=by
  unfold aQ
  rw [Uh]
  refine US fun y _=>?_
  show (b6 (if y.1=z.1 then (y.1,y.2.1++[q],y.2.2) else y).1,D.loc (if y.1=z.1 then (y.1,y.2.1++[q],y.2.2) else y).2.2)=_
  split<;>rfl
 refine ⟨gL I.pre (I.at_ z hz).1 _,I.lo,?_,by rw [j];exact I.kd,by rw [i];exact I.bd,fun y m=>?_⟩
 ·rw [l,TQ (I.ne hz)]
  exact I.dic
 ·obtain ⟨x,b,rfl⟩:=TX.mp m
  obtain ⟨d,h⟩:=I.at_ x b
  by_cases e:x.1=z.1
  ·have:x=z:=RM I.kd b hz e
   subst this
   rw [if_pos rfl]
   refine ⟨d,?_⟩
   show (c.set x.2.2 _)[x.2.2]? = _
   rw [jJ h,Uo]
   rfl
  ·rw [if_neg e]
   refine ⟨d,?_⟩
   rw [TQ fun w=>e (by rw [RN I.bd b hz w.symm])]
   exact h
theorem EV {Z:Zr}{p:Int×Int}{qs:List (Int×Int)}{b:Nat}(h:p∉Z.map (·.1)):eP (aQ Z) (b6 p) (.loc b)=aQ (Z++[(p,qs,b)]):=by
 unfold eP
 rw [zV h,if_neg (by simp)]
 unfold aQ
 rw [Uo]
 rfl
theorem GI.new {μ0 l:Hm}{a b:Nat}{Z:Zr}(I:GI μ0 l a Z){p:Int×Int}(m:p∉Z.map (·.1)){qs:List (Int×Int)}(i:l[b]? = some (.lst (qs.map PP)))(o:μ0.length<=b)(q:∀ z∈Z,z.2.2≠b) :
  GI μ0 (l.set a (.dT (eP (aQ Z) (b6 p) (.loc b)))) a (Z++[(p,qs,b)]):=by
 have j:b≠a:=fun e=>by
  rw [e,I.dic] at i
  cases i
 refine ⟨gL I.pre I.lo _,I.lo,by rw [jJ I.dic,EV m],?_,?_,fun z c=>?_⟩
 ·rw [Uo,W7]
  exact ⟨I.kd,by simp,fun x h y d e=>by
   simp only [TM,XH,UE] at d
   rw [e,d] at h
   exact m h⟩
 ·rw [Uo,W7]
  exact ⟨I.bd,by simp,fun x h y d e=>by
   simp only [TM,XH,UE] at d
   obtain ⟨z,c,n⟩:=TX.mp h
   exact q z c (by rw [n,e,d])⟩
 ·rcases Vp.mp c with c|c
  ·rw [TQ (UG (I.ne c))]
   exact I.at_ z c
  ·rw [UE.mp c]
   exact ⟨o,by rw [TQ (UG j)];exact i⟩
theorem RO {Z:Zr}{p:Int×Int}{qs:List (Int×Int)}{b:Nat}(h:p∈Z.map (·.1))(d:(Z.map (·.1)).Nodup):eP (aQ Z) (b6 p) (.loc b)=aQ (Z.map fun y=>if y.1=p then (y.1,qs,b) else y):=by
 obtain ⟨z,c,e⟩:=EU h
 unfold eP
 rw [<- e,oS d c,a0y,if_pos rfl]
 unfold aQ
 rw [Uh,Uh]
 refine US fun y _=>?_
 show (if b6 y.1=b6 z.1 then (b6 y.1,D.loc b) else (b6 y.1,D.loc y.2.2))=(b6 (if y.1=z.1 then (y.1,qs,b) else y).1,D.loc (if y.1=z.1 then (y.1,qs,b) else y).2.2)
 by_cases a:y.1=z.1
 ·rw [if_pos (by rw [a]),if_pos a]
 ·rw [if_neg (fun w=>a (oR w)),if_neg a]
theorem EW {c:Hm}{a:Nat}{b:List (List Int×D)}{Q:D×Hm->Prop}(h:c[a]? = some (.dT b))(d:b≠[]/\(b.map fun p=>Tb.hashT p.1).Nodup):W (mO [.loc a] c) Q↔Q (.loc c.length,c++[.dT b]):=by
 simp only [mO,h]
 rw [if_pos d.2]
 exact W_some
theorem qZ {f:D->List D->Hm->Option (D×Hm)}{b:ME}{ms:MA}{a:aF}{c:Hm}{Q:D×Hm->Prop}(h:W (b a c) fun p=>n9 p.2 p.1=true/\W (ms a p.2) fun q=>W (f p.1 q.1 q.2) Q):W (fE f b ms a c) Q:=by
 unfold fE
 rw [W_bind]
 refine bP h fun p q=>?_
 rw [q.1]
 exact W_bind.mpr q.2
theorem q0 {c:Hm}{a:Nat}{b:List (List Int×D)}(h:c[a]? = some (.dT b)):n9 c (.loc a)=true:=by
 simp only [n9,h]
theorem RP {a:Hm}{A B:Nat}{ds:List D}{Q:D×Hm->Prop}(hA:a[A]? = some (.lst ds))(hB:a[B]? = some (.lst [])):W (a9 false (.loc A) (.loc B) a) Q↔Q (.bl ds.isEmpty,a):=by
 have b:∀ {x:Nat}{xs:List D},a[x]? = some (.lst xs)->cX a (.loc x)=some (.lst xs):=fun h=>by simp only [cX,h]
 have e:cR 8 a (.loc A) (.loc B)=some ds.isEmpty:=by
  show (cX a (.loc A)).bind (fun u=>(cX a (.loc B)).bind fun v=>gT (cR 7 a) u v)=_
  rw [b hA,b hB]
  show fM (cR 7 a) ds []=_
  cases ds<;>rfl
 unfold a9
 rw [e]
 exact W_some
theorem q8 (Z:Zr):(aQ Z).length=Z.length:=TF ..
theorem iU (Z:Zr):(GZ Z).length=Z.length:=TF ..
noncomputable def cK (k:Int)(p:Int×Int):Int:=if k=0 then p.2 else if k=1 then p.1 else if k=2 then p.1 - p.2 else p.1+p.2
noncomputable def bF (k n:Int):Ly:=if k=0 then ⟨1,0,0,-1,0,2 * n⟩ else if k=1 then ⟨-1,0,0,1,2 * n,0⟩ else if k=2 then ⟨0,1,1,0,n,-n⟩ else ⟨0,-1,-1,0,n,n⟩
theorem zW (k n:Int):Dih (bF k n):=by
 unfold bF
 split
 ·exact .inl ⟨rfl,rfl,.inl rfl,.inr rfl⟩
 split
 ·exact .inl ⟨rfl,rfl,.inr rfl,.inl rfl⟩
 split
 ·exact .inr ⟨rfl,rfl,.inl rfl,.inl rfl⟩
 ·exact .inr ⟨rfl,rfl,.inr rfl,.inr rfl⟩
theorem RQ (k n:Int)(p:Int×Int):aO (bF k n) (aO (bF k n) p)=p:=by
 obtain ⟨x,y⟩:=p
 unfold bF aO
 split
 ·refine X7 ?_ ?_<;>dsimp only<;>omega
 split
 ·refine X7 ?_ ?_<;>dsimp only<;>omega
 split
 ·refine X7 ?_ ?_<;>dsimp only<;>omega
 ·refine X7 ?_ ?_<;>dsimp only<;>omega
noncomputable def cA (G:Gr)(p:Int×Int):List (Int×Int):=match G.find? (fun g=>decide (g.1=p)) with|some g=>g.2|none=>[]
noncomputable def fX (G:Gr)(p:Int×Int)(L:List (Int×Int)):Gr:=if (G.map (·.1)).contains p then G.map (fun g=>if g.1=p then (g.1,L) else g) else G++[(p,L)]
theorem EX (p:Int×Int):cA [] p=[]:=rfl
theorem fY (g:(Int×Int)×List (Int×Int))(G:Gr)(p:Int×Int):cA (g::G) p=if g.1=p then g.2 else cA G p:=by
 unfold cA
 rw [U0]
 by_cases e:g.1=p
 ·rw [if_pos e,decide_eq_true e]
 ·rw [if_neg e,decide_eq_false e]
theorem oU {G:Gr}(a:(G.map (·.1)).Nodup){g:(Int×Int)×List (Int×Int)}(h:g∈G):cA G g.1=g.2:=by
 induction G with
 | nil=>cases h
 | cons x G b=>
  rw [TM,VD] at a
  rw [fY]
  rcases Uq.mp h with rfl|h
  ·exact if_pos rfl
  ·rw [if_neg (fun e:x.1=g.1=>a.1 (by rw [e];exact TX.mpr ⟨g,h,rfl⟩)),b a.2 h]
theorem rA {G:Gr}{p:Int×Int}(h:p∉G.map (·.1)):cA G p=[]:=by
 induction G with
 | nil=>rfl
 | cons x G a=>
  rw [TM,Uq,not_or] at h
  rw [fY,if_neg (fun e=>h.1 e.symm),a h.2]
theorem EY {G K:Gr}{p:Int×Int}(h:p∉G.map (·.1)):cA (G++K) p=cA K p:=by
 induction G with
 | nil=>rfl
 | cons x G a=>
  rw [TM,Uq,not_or] at h
  rw [Vq,fY,if_neg (fun e=>h.1 e.symm),a h.2]
theorem atG_append' {G K:Gr}{p:Int×Int}(h:p∈G.map (·.1)):cA (G++K) p=cA G p:=by
 induction G with
 | nil=>cases h
 | cons x G a=>
  rw [Vq,fY,fY]
  by_cases e:x.1=p
  ·rw [if_pos e,if_pos e]
  ·rw [if_neg e,if_neg e]
   rw [TM,Uq] at h
   exact a (h.resolve_left fun w=>e w.symm)
theorem EZ (G:Gr)(p:Int×Int)(L:List (Int×Int)):(fX G p L).map (·.1)=if (G.map (·.1)).contains p then G.map (·.1) else G.map (·.1)++[p]:=by
 unfold fX
 split
 ·rw [Uh]
  refine US fun g _=>?_
  show (if g.1=p then (g.1,L) else g).1=g.1
  split<;>rfl
 ·rw [Uo];rfl
theorem RR {G:Gr}{p:Int×Int}{L:List (Int×Int)}(a:(G.map (·.1)).Nodup):((fX G p L).map (·.1)).Nodup:=by
 rw [EZ]
 split
 ·exact a
 ·rename_i h
  rw [W7]
  exact ⟨a,by simp,fun x b y c e=>h (Vi.mpr (by rw [UE.mp c] at e;exact e ▸ b))⟩
theorem putG_mem {G:Gr}{p q:Int×Int}{L:List (Int×Int)}:q∈(fX G p L).map (·.1)↔q∈G.map (·.1)\/q=p:=by
 rw [EZ]
 split
 ·rename_i h
  exact ⟨.inl,fun z=>z.elim id fun e=>e ▸ Vi.mp h⟩
 ·rw [Vp,UE]
theorem E4 (G:Gr)(p q:Int×Int)(L:List (Int×Int)):cA (fX G p L) q=if q=p then L else cA G q:=by
 unfold fX
 split
 ·rename_i h
  have h:=Vi.mp h
  induction G with
  | nil=>cases h
  | cons x G d=>
   rw [TM,fY,fY]
   by_cases e:x.1=p
   ·rw [if_pos e]
    by_cases a:q=p
    ·rw [if_pos a,if_pos (by rw [e,a])]
    ·rw [if_neg a,if_neg (by show ¬ x.1=q;rw [e];exact fun w=>a w.symm),if_neg (by rw [e];exact fun w=>a w.symm)]
     by_cases b:p∈G.map (·.1)
     ·rw [d (Vi.mpr b) b,if_neg a]
     ·have:(G.map fun g=>if g.1=p then (g.1,L) else g)=G:=by
       have w:(G.map fun g=>if g.1=p then (g.1,L) else g)=G.map id:=US fun g i=>if_neg fun e=>b (TX.mpr ⟨g,i,e⟩)
       rw [w,a2P]
      rw [this]
   ·rw [if_neg e]
    rw [TM,Uq] at h
    have c:=h.resolve_left fun w=>e w.symm
    rw [d (Vi.mpr c) c]
    by_cases a:x.1=q
    ·rw [if_pos a,if_pos a,if_neg (by rw [<- a];exact e)]
    ·rw [if_neg a,if_neg a]
 ·rename_i h
  have h:p∉G.map (·.1):=fun z=>h (Vi.mpr z)
  by_cases e:q=p
  ·rw [if_pos e,e,EY h,fY,if_pos rfl]
  ·rw [if_neg e]
   by_cases b:q∈G.map (·.1)
   ·exact atG_append' b
   ·rw [EY b,fY,if_neg (fun w=>e w.symm),EX,rA b]
theorem RS {G:Gr}{p:Int×Int}(h:cA G p≠[]):p∈G.map (·.1):=XE fun z=>h (rA z)
structure Pil (qs:List (Int×Int))(f:Int×Int->Int×Int)(G:Gr):Prop where
 kd:(G.map (·.1)).Nodup
 ne:∀ g∈G,g.2≠[]
 pm:∀ p,(cA G p).Perm (qs.filter fun q=>decide (f q=p))
theorem Pil.key {qs:List (Int×Int)}{f:Int×Int->Int×Int}{G:Gr}(h:Pil qs f G){p:Int×Int}:p∈G.map (·.1)↔∃ q∈qs,f q=p:=by
 constructor
 ·intro d
  obtain ⟨g,c,rfl⟩:=TX.mp d
  have a:=h.pm g.1
  rw [oU h.kd c] at a
  obtain ⟨q,b⟩:=ZP _ (h.ne g c)
  have:=Vk.mp (a.mem_iff.mp b)
  exact ⟨q,this.1,of_decide_eq_true this.2⟩
 ·rintro ⟨q,b,rfl⟩
  refine RS fun e=>?_
  have a:=h.pm (f q)
  rw [e] at a
  have:q∈([]:List (Int×Int)):=a.mem_iff.mpr (Vk.mpr ⟨b,decide_eq_true rfl⟩)
  cases this
theorem E6 {h:Type}(a b:h->Bool)(hd:∀ x,a x=true->b x=false):∀ l:List h,(l.filter fun x=>a x||b x).Perm (l.filter a++l.filter b)
 | []=>.nil
 | x::l=>by
  have e:=E6 a b hd l
  cases c:a x with
  | true=>
   rw [Vl (by simp [c]),Vl c,U4 (by simp [hd x c])]
   exact e.cons x
  | false=>
   cases d:b x with
   | true=>
    rw [Vl (by simp [d]),U4 (by simp [c]),Vl d]
    exact (e.cons x).trans List.perm_middle.symm
   | false=>
    rw [U4 (by simp [c,d]),U4 (by simp [c]),U4 (by simp [d])]
    exact e
noncomputable def eU (mv:Int×Int->Bool)(G:Gr):Gr:=G.filter fun g=>!mv g.1
noncomputable def dH (mv:Int×Int->Bool)(M:Int×Int->Int×Int)(G:Gr):Gr:=(G.filter fun g=>mv g.1).map fun g=>(M g.1,g.2.reverse)
noncomputable def cT (a:Bool)(S:Gr)(g:(Int×Int)×List (Int×Int)):Gr:=fX S g.1 (if a then cA S g.1++g.2 else g.2++cA S g.1)
noncomputable def kJ (mv:Int×Int->Bool)(M:Int×Int->Int×Int)(a:Bool)(G:Gr):Gr:=(dH mv M G).foldl (cT a) (eU mv G)
theorem E7 {mv:Int×Int->Bool}(p:Int×Int):∀ G:Gr,cA (eU mv G) p=if mv p then [] else cA G p
 | []=>by cases mv p<;>rfl
 | g::G=>by
  have a:=E7 (mv:=mv) p G
  unfold eU at a ⊢
  rw [fY]
  cases h:mv g.1 with
  | true=>
   rw [U4 (by simp [h]),a]
   by_cases e:g.1=p
   ·rw [<- e,h];rfl
   ·rw [if_neg e]
  | false=>
   rw [Vl (by simp [h]),fY]
   by_cases e:g.1=p
   ·rw [if_pos e,if_pos e,<- e,h];rfl
   ·rw [if_neg e,if_neg e,a]
theorem Fb {mv:Int×Int->Bool}{M:Int×Int->Int×Int}(a:∀ p,M (M p)=p)(p:Int×Int):∀ G:Gr,cA (dH mv M G) p=if mv (M p) then (cA G (M p)).reverse else []
 | []=>by cases mv (M p)<;>rfl
 | g::G=>by
  have b:=Fb (mv:=mv) a p G
  unfold dH at b ⊢
  rw [fY]
  have c:M g.1=p↔g.1=M p:=⟨fun e=>by rw [<- e,a],fun e=>by rw [e,a]⟩
  cases h:mv g.1 with
  | true=>
   rw [Vl (by simp [h]),TM,fY]
   by_cases e:g.1=M p
   ·rw [if_pos (c.mpr e),if_pos e,<- e,h];rfl
   ·rw [if_neg (fun w=>e (c.mp w)),if_neg e,b]
  | false=>
   rw [U4 (by simp [h]),b]
   by_cases e:g.1=M p
   ·rw [<- e,h];rfl
   ·rw [if_neg e]
theorem Fc (a:Bool):∀ (K S:Gr),(K.map (·.1)).Nodup->(S.map (·.1)).Nodup->(∀ g∈S,g.2≠[])->(∀ g∈K,g.2≠[])->
  ((K.foldl (cT a) S).map (·.1)).Nodup/\(∀ g∈K.foldl (cT a) S,g.2≠[])/\∀ p,(cA (K.foldl (cT a) S) p).Perm (cA S p++cA K p)
 | [],S,_,hs,ns,_=>⟨hs,ns,fun p=>by rw [EX,U9];exact .refl _⟩
 | g::K,S,hk,hs,ns,nk=>by
  rw [TM,VD] at hk
  rw [a1T]
  have b:((cT a S g).map (·.1)).Nodup:=RR hs
  have i:∀ x∈cT a S g,x.2≠[]:=fun x c=>by
   have e:cA (cT a S g) x.1=x.2:=oU b c
   rw [<- e]
   unfold cT
   rw [E4]
   have l:=nk g (UP ..)
   split
   ·cases a
    ·exact fun w=>l (a0a.mp w).1
    ·exact fun w=>l (a0a.mp w).2
   ·rename_i d
    have:x.1∈(cT a S g).map (·.1):=TX.mpr ⟨x,c,rfl⟩
    rcases putG_mem.mp this with h|h
    ·obtain ⟨y,j,m⟩:=TX.mp h
     rw [<- m,oU hs j]
     exact ns y j
    ·exact absurd h d
  obtain ⟨n,o,q⟩:=Fc a K (cT a S g) hk.2 b i fun x c=>nk x (UB _ c)
  refine ⟨n,o,fun p=>(q p).trans ?_⟩
  rw [fY]
  unfold cT
  rw [E4]
  by_cases e:p=g.1
  ·rw [if_pos e,if_pos e.symm,e,rA hk.1,U9]
   cases a
   ·exact List.perm_append_comm
   ·exact .refl _
  ·rw [if_neg e,if_neg (fun w=>e w.symm)]
theorem RT {qs:List (Int×Int)}{f:Int×Int->Int×Int}{G:Gr}(h:Pil qs f G){mv:Int×Int->Bool}{M:Int×Int->Int×Int}(d:∀ p,M (M p)=p)(c:Bool) :
  Pil qs (fun q=>if mv (f q) then M (f q) else f q) (kJ mv M c G):=by
 have j:∀ (l:List ((Int×Int)×List (Int×Int))),l.Sublist G->(l.map (·.1)).Nodup:=fun l z=>(z.map _).nodup h.kd
 have r:((dH mv M G).map (·.1)).Nodup:=by
  have e:(dH mv M G).map (·.1)=((G.filter fun g=>mv g.1).map (·.1)).map M:=by
   unfold dH
   rw [Uh,Uh]
   rfl
  rw [e]
  exact Ym _ (fun a b m w=>m (by rw [<- d a,w,d])) (j _ XC)
 obtain ⟨s,u,v⟩:=Fc c (dH mv M G) (eU mv G) r (j _ XC) (fun g n=>h.ne g (Vk.mp n).1) (fun g n=>by
  obtain ⟨y,A,rfl⟩:=TX.mp n
  exact fun w=>h.ne y (Vk.mp A).1 (List.reverse_eq_nil_iff.mp w))
 refine ⟨s,u,fun p=>(v p).trans ?_⟩
 rw [E7,Fb d]
 have e:(qs.filter fun q=>decide ((if mv (f q) then M (f q) else f q)=p))=qs.filter fun q=>(!mv (f q)&&decide (f q=p))||(mv (f q)&&decide (f q=M p)):=by
  congr 1
  funext q
  have x:M (f q)=p↔f q=M p:=⟨fun e=>by rw [<- e,d],fun e=>by rw [e,d]⟩
  cases mv (f q) with
  | true=>simp [x]
  | false=>simp
 rw [e]
 refine List.Perm.trans ?_ (E6 _ _ (fun q o=>?_) qs).symm
 ·refine List.Perm.append ?_ ?_
  ·cases i:mv p with
   | true=>
    rw [if_pos rfl,Wo.mpr]
    intro q _ w
    rw [Tw] at w
    have e:=of_decide_eq_true w.2
    rw [e,i] at w
    exact Ux w.1
   | false=>
    rw [if_neg Ux]
    have:(qs.filter fun q=>!mv (f q)&&decide (f q=p))=qs.filter fun q=>decide (f q=p):=by
     congr 1
     funext q
     by_cases e:f q=p
     ·simp [e,i]
     ·simp [e]
    rw [this]
    exact h.pm p
  ·cases i:mv (M p) with
   | true=>
    rw [if_pos rfl]
    have:(qs.filter fun q=>mv (f q)&&decide (f q=M p))=qs.filter fun q=>decide (f q=M p):=by
     congr 1
     funext q
     by_cases e:f q=M p
     ·simp [e,i]
     ·simp [e]
    rw [this]
    exact (List.reverse_perm _).trans (h.pm (M p))
   | false=>
    rw [if_neg Ux,Wo.mpr]
    intro q _ w
    rw [Tw] at w
    have e:=of_decide_eq_true w.2
    rw [e,i] at w
    exact Ux w.1
 ·rw [Tw] at o
  simp only [W8] at o
  rw [o.1];rfl
theorem RU {p:Int×Int}{u:Int}(a:0<=u/\u<4):atI [D.int p.2,.int p.1,.int (p.1 - p.2),.int (p.1+p.2)] u=some (.int (cK u p)):=by
 have:u=0\/u=1\/u=2\/u=3:=by omega
 rcases this with rfl|rfl|rfl|rfl<;>rfl
theorem w_eqBl {a:Hm}{x y:Bool}{Q:D×Hm->Prop}:W (a9 false (.bl x) (.bl y) a) Q↔Q (.bl (x == y),a):=W_some
theorem jK {w:Int}(h:1<=w/\w<=3):w∈[(1:Int),2,3]:=by
 have:w=1\/w=2\/w=3:=by omega
 rcases this with rfl|rfl|rfl<;>decide
noncomputable def Dc (c:Hm)(a:Nat)(b:List (List Int×D)):Prop:=c[a]? = some (.dT b)\/c[a]? = some (.dF b)
theorem RV {c:Hm}{a:Nat}{b:List (List Int×D)}{y d:D}{k:List Int}{Q:D×Hm->Prop}(h:Dc c a b)(e:eE y=some k)(i:b7 b k=some d):W (aG (.loc a) y c) Q↔Q (d,c):=by
 have:aG (.loc a) y c=some (d,c):=by
  rcases h with h|h<;>simp only [aG,h,e,T9,i,Us]
 rw [this]
 exact W_some
structure HI (μ:Hm)(a:Nat)(Z:Zr):Prop where
 dic:Dc μ a (aQ Z)
 kd:(Z.map (·.1)).Nodup
 at_:∀ z∈Z,μ[z.2.2]? = some (.lst (z.2.1.map PP))
theorem Dc.more {d c:Hm}{a:Nat}{b:List (List Int×D)}(I:Dc d a b)(h:d <+: c):Dc c a b:=I.elim (fun e=>.inl (aS h e)) fun e=>.inr (aS h e)
theorem HI.more {c b:Hm}{a:Nat}{Z:Zr}(I:HI c a Z)(h:c <+: b):HI b a Z:=⟨I.dic.more h,I.kd,fun z hz=>aS h (I.at_ z hz)⟩
theorem HI.ne {i:Hm}{a b:Nat}{d:List (List Int×D)}{Z:Zr}(I:HI i a Z)(h:Dc i b d){z:(Int×Int)×List (Int×Int)×Nat}(hz:z∈Z):z.2.2≠b:=fun e=>by
 have c:=I.at_ z hz
 rw [e] at c
 rcases h with h|h<;>(rw [h] at c;cases c)
theorem HI.frz {d:Hm}{a b:Nat}{c:List (List Int×D)}{Z:Zr}(I:HI d a Z)(h:d[b]? = some (.dT c)):HI (d.set b (.dF c)) a Z:=by
 refine ⟨?_,I.kd,fun z i=>by rw [TQ (UG (I.ne (.inl h) i))];exact I.at_ z i⟩
 by_cases e:b=a
 ·subst e
  have:c=aQ Z:=by
   rcases I.dic with w|w
   ·rw [h] at w;injection w with w;injection w
   ·rw [h] at w;cases w
  rw [<- this]
  exact .inr (jJ h)
 ·unfold Dc
  rw [TQ e]
  exact I.dic
theorem zX {d c:Hm}{a:Nat}{b:List (List Int×D)}(hc:d[a]? = some (.dT b))(h:d.set a (.dF b) <+: c):d <+: c.set a (.dT b):=by
 obtain ⟨t,rfl⟩:=h
 have e:a<d.length:=(TB.mp hc).1
 rw [Yu _ _ (by rw [Ut];exact e),YR,qY hc]
 exact VE _ _
theorem jL {a:Type}{l:List a}{n:Nat}{x:a}(h:l[n]? = some x):l.take (n+1)=l.take n++[x]:=by
 rw [List.take_add_one,h]
 rfl
theorem uC {c:Type}{l:List c}(nd:l.Nodup){n:Nat}{x:c}(h:l[n]? = some x):x∉l.take n:=fun i=>by
 obtain ⟨j,a⟩:=a0r.mp i
 have b:j<n:=by
  have:=(TB.mp a).1
  rw [UZ] at this
  omega
 rw [ZW b] at a
 have m:n<l.length:=(TB.mp h).1
 have d:=(TB.mp a).2
 have e:=(TB.mp h).2
 exact absurd ((a1H nd).mp (d.trans e.symm)) (by omega)
theorem Fd {a:Type}:∀ xs:List a,(UX xs.length).filterMap (fun i=>xs[i]?)=xs
 | []=>rfl
 | x::xs=>by
  rw [Uk,Z9,VN,List.filterMap_map]
  show x::(UX xs.length).filterMap (fun i=>(x::xs)[i+1]?)=x::xs
  simp only [Z1]
  rw [Fd xs]
noncomputable abbrev aY (v:Int×Int->D)(ps:List (Int×Int)):List (List Int×D):=ps.map fun p=>(b6 p,v p)
theorem zY {v:Int×Int->D}{ps:List (Int×Int)}(nd:ps.Nodup){p:Int×Int}(h:p∈ps):b7 (aY v ps) (b6 p)=some (v p):=by
 refine ET ?_ (TX.mpr ⟨p,h,rfl⟩)
 rw [Uh]
 exact Ym _ (fun a b c x=>c (oR x)) nd
theorem Fe {v:Int×Int->D}{ps:List (Int×Int)}{p:Int×Int}(h:p∉ps):b7 (aY v ps) (b6 p)=none:=by
 unfold b7
 rw [a0T.mpr]
 ·rfl
 ·intro x a
  obtain ⟨z,b,rfl⟩:=TX.mp a
  rw [decide_eq_true_iff]
  exact fun e=>h (oR e ▸ b)
theorem RW {v:Int×Int->D}{ps:List (Int×Int)}{p:Int×Int}(h:p∉ps):eP (aY v ps) (b6 p) (v p)=aY v (ps++[p]):=by
 unfold eP
 rw [Fe h,if_neg (by simp)]
 show _=a1Z _ _
 rw [Uo]
 rfl
theorem Ff {K:List (List Int×D)}{k:List Int}{d:D}(h:b7 K k=none):eP K k d=K++[(k,d)]:=by
 unfold eP
 rw [h,if_neg (by simp)]
noncomputable def aZ (u n:Int)(a:Bool)(p:Int×Int):Bool:=decide (n<cK u p) == a
noncomputable def bR (u n:Int)(a:Bool)(F:Int×Int->Ly)(q:Int×Int):Ly:=if aZ u n a (aO (F q) q) then fA (F q) (bF u n) else F q
theorem RX {u n:Int}{a:Bool}{F:Int×Int->Ly}(b:∀ q,Dih (F q))(q:Int×Int):Dih (bR u n a F q):=by
 unfold bR
 split
 ·exact RD (b q) (zW u n)
 ·exact b q
theorem Fg (u n:Int)(a:Bool)(F:Int×Int->Ly)(q:Int×Int):aO (bR u n a F q) q=if aZ u n a (aO (F q) q) then aO (bF u n) (aO (F q) q) else aO (F q) q:=by
 unfold bR
 split
 ·rw [RA]
 ·rfl
theorem RY {G:Gr}{p:Int×Int}{L:List (Int×Int)}(h:p∉G.map (·.1)):fX G p L=G++[(p,L)]:=by
 unfold fX
 rw [if_neg (fun w=>h (Vi.mp w))]
theorem RZ (mv:Int×Int->Bool)(M:Int×Int->Int×Int)(G:Gr)(g:(Int×Int)×List (Int×Int)):dH mv M (G++[g])=if mv g.1 then dH mv M G++[(M g.1,g.2.reverse)] else dH mv M G:=by
 unfold dH
 rw [VS,Uo]
 cases h:mv g.1<;>simp [h]
theorem Fh {c:Type} [DecidableEq c]:∀ {l m:List c},l.Nodup->(∀ x∈l,x∈m)->l.length<=m.length
 | [],_,_,_=>Vj _
 | x::l,m,h,hs=>by
  rw [VD] at h
  have a:=hs x (UP ..)
  have d:=Fh (l:=l) (m:=m.erase x) h.2 fun y b=>(List.mem_erase_of_ne (fun e:y=x=>h.1 (e ▸ b))).mpr (hs y (UB _ b))
  rw [List.length_erase_of_mem a] at d
  have:=List.length_pos_of_mem a
  rw [Uk]
  omega
theorem Pil.len {qs:List (Int×Int)}{g:Int×Int->Int×Int}{G:Gr}(P:Pil qs g G):G.length<=qs.length/\∀ x∈G,x.2.length<=qs.length:=by
 constructor
 ·have:=Fh P.kd (m:=qs.map g) fun p a=>by
   obtain ⟨q,b,e⟩:=P.key.mp a
   exact TX.mpr ⟨q,b,e⟩
  rw [TF,TF] at this
  exact this
 ·intro x c
  have:=(P.pm x.1).length_eq
  rw [oU P.kd c] at this
  rw [this]
  exact Vh _ _
theorem Pil.lenZ {qs:List (Int×Int)}{g:Int×Int->Int×Int}{Z:Zr}(P:Pil qs g (GZ Z)):Z.length<=qs.length/\∀ z∈Z,1<=z.2.1.length/\z.2.1.length<=qs.length:=by
 obtain ⟨a,c⟩:=P.len
 unfold GZ at a
 rw [TF] at a
 refine ⟨a,fun z d=>?_⟩
 have b:(z.1,z.2.1)∈GZ Z:=TX.mpr ⟨z,d,rfl⟩
 exact ⟨a0H.mpr (P.ne _ b),c _ b⟩
theorem Fi {a:Type} [DecidableEq a]:∀ {l:List a},l.Nodup->∀ {p:a},p∈l->(l.filter fun q=>decide (q=p))=[p]
 | [],_,_,h=>by cases h
 | x::l,nd,p,h=>by
  rw [VD] at nd
  by_cases e:x=p
  ·subst e
   rw [Vl (by simp),Wo.mpr]
   intro y b w
   exact nd.1 (of_decide_eq_true w ▸ b)
  ·rw [U4 (by simp [e])]
   exact Fi nd.2 ((Uq.mp h).resolve_left fun w=>e w.symm)
noncomputable def gM (qs:List (Int×Int)):Gr:=qs.map fun q=>(q,[q])
theorem zZ (qs:List (Int×Int)):(gM qs).map (·.1)=qs:=by
 unfold gM
 rw [Uh]
 exact a2P _
theorem R0 {qs:List (Int×Int)}(nd:qs.Nodup):Pil qs (fun q=>aO dG q) (gM qs):=by
 have a:((gM qs).map (·.1)).Nodup:=by rw [zZ];exact nd
 refine ⟨a,fun g b=>?_,fun p=>?_⟩
 ·obtain ⟨q,_,rfl⟩:=TX.mp b
  simp
 ·have e:(fun q=>decide (aO dG q=p))=fun q=>decide (q=p):=funext fun q=>by rw [EG]
  rw [e]
  by_cases h:p∈qs
  ·have:=oU a (g:=(p,[p])) (TX.mpr ⟨p,h,rfl⟩)
   rw [this,Fi nd h]
  ·rw [rA (by rw [zZ];exact h),Wo.mpr]
   intro q c w
   exact h (of_decide_eq_true w ▸ c)
structure Grw (qs:List (Int×Int))(μ:Hm)(w h:Nat)(F:Int×Int->Ly)(Z:Zr):Prop where
 hw:μ[w]? = some (.dT (aY (fun q=>LD (F q)) qs))
 hi:HI μ h Z
 hh:μ[h]? = some (.dT (aQ Z))
 di:∀ q,Dih (F q)
 pl:Pil qs (fun q=>aO (F q) q) (GZ Z)
noncomputable def iA (n:Int):Int:=if 0<n then 1 else if n<0 then -1 else 0
theorem R6 (k:Nat)(x y a b:Int)(d:Hm)(Q:D×Hm->Prop):W (f (k+2) "hand_of" [P x y,P a b] d) Q↔Q (.int (iA (hX a b x y - hX a b a b)),d):=by
 rw [QD,W_fin]
 simp only [w_mSeq,w_mRet,dE,cU,qT,cC,bQ,aX,aT,bA,bB,aH,aK,dP,zH,mW,Ea,D9,Ez,EA,TJ,TK]
 generalize hX a b x y - hX a b a b=n
 unfold iA
 by_cases c:0<n
 ·simp [c]
 ·by_cases e:n<0<;>simp [c,e]
noncomputable def mX (h:Int)(x:Int):List (Int×Int):=(UX (4 * h - 1).toNat).map fun (j:Nat)=>(x,1+(j:Int))
noncomputable def lO (h:Int)(n:Nat):List (Int×Int):=(UX n).flatMap fun (i:Nat)=>mX h (1+(i:Int))
noncomputable def oV (w h:Int):List (Int×Int):=lO h (4 * w - 1).toNat
theorem Fj (h:Int)(n:Nat):lO h (n+1)=lO h n++mX h (1+(n:Int)):=by
 unfold lO;rw [Zk,a0I];simp
theorem Fm (h x:Int):(mX h x).length=(4 * h - 1).toNat:=by unfold mX;simp
theorem z4 (h:Int):∀ n:Nat,(lO h n).length=n * (4 * h - 1).toNat
 | 0=>by simp [lO]
 | n+1=>by rw [Fj,TV,z4 h n,Fm,a0p]
theorem Fn {h:Int}(b:h<=6){n:Nat}(a:n<=23):n * (4 * h - 1).toNat<=529:=by
 have:n * (4 * h - 1).toNat<=23 * 23:=ZO a (by omega)
 omega
theorem R8 (h x:Int):((kD 1 (4 * h - 1).toNat).filter fun _=>true).map (fun d=>P x (rN d))=(mX h x).map PP:=by
 unfold kD mX
 rw [show ∀ l:List D,l.filter (fun _=>true)=l from fun l=>by simp,Uh,Uh]
 rfl
theorem Sa (k:Nat)(w h:Int)(hw:1<=w/\w<=6)(u:1<=h/\h<=6)(e:Hm)(Q:D×Hm->Prop)(H:∀ a b,e <+: b->b[a]? = some (.lst ((oV w h).map PP))->e.length<=a->Q (.loc a,b)):W (f (k+1) "places_within" [.int w,.int h] e) Q:=by
 rw [QV,W_fin]
 simp only [w_mSeq,cC,fJ,aT]
 refine ⟨Vj _,?_⟩
 simp only [TJ,TK,iR,Eb,aX,aT,bB,bA,aH,aK,oQ]
 refine ⟨by omega,?_⟩
 refine tZ (lo:=1) (fun i r b=>e <+: b/\b[e.length]? = some (.lst ((lO h i).map PP))/\∃ o,r=[some (.int w),some (.int h),some (.loc e.length),o]) ⟨bE _ _,cB _ _,none,rfl⟩ ?_ ?_
 ·rintro i r q x ⟨p,l,o,rfl⟩
  refine ⟨_,rfl,?_⟩
  simp only [TJ,TK,mV]
  refine t7 ?_
  simp only [aH,aK]
  refine ⟨Eh l,?_⟩
  simp only [aX,aT]
  refine t5 (xs:=kD 1 (4 * h - 1).toNat) (p:=fun _=>true) (v:=fun d=>P (1+(i:Int)) (rN d)) ?_
  simp only [Eb,aX,aT,bB,bA,aH,aK,oQ]
  refine ⟨by omega,Qg,by simp [kD],by rw [UW];simp [kD];omega,?_,?_,?_⟩
  ·intro d b hd p
   exact w_mTrue.mpr ⟨rfl,VR _⟩
  ·intro d b hd _ p
   obtain ⟨j,y,rfl⟩:=Rt hd
   simp only [Vq,WS,fV,aX,aT,aH,aK,eT,true_and]
   exact ⟨rfl,VR _⟩
  ·intro v c m
   rw [R8] at m
   have n:((lO h i).map PP).length+((mX h (1+(i:Int))).map PP).length<=TZ:=by
    have s:=Fn (h:=h) u.2 (n:=i+1) (by omega)
    rw [a0p] at s
    rw [TF,TF,z4,Fm,UW]
    omega
   refine (Qi (aS c l) m n).mpr ?_
   refine ⟨gL (p.trans c) (TR _) _,?_,_,rfl⟩
   rw [Ug (TB.mp (aS c l)).1,Fj,Uo]
 ·rintro r q ⟨p,l,o,rfl⟩
  simp only [w_mRet,aH,aK]
  exact H _ _ p l (TR _)
theorem Sb {w h:Int}(hw:w<=6)(a:h<=6):(oV w h).length<=529:=by
 unfold oV
 rw [z4]
 exact Fn a (by omega)
noncomputable def d6 (p:Int×Int):Bool:=if p.1 % 2=1 then p.2 % 4 == 2 else p.1 % 4 == 2&&p.2 % 2 == 1
theorem Sd (k:Nat)(x y:Int)(a:Hm)(Q:D×Hm->Prop):W (f (k+1) "is_quarter" [P x y] a) Q↔Q (.bl (d6 (x,y)),a):=by
 rw [Qy,W_fin]
 simp only [w_mSeq,w_mRet,dE,cU,dP,zI,bA,bB,aH,jH,fW,w_eqI,P5,Et,Eu]
 unfold d6
 by_cases h:x % 2=1
 ·simp [h]
 ·have e:(x % 2 == 1)=false:=by simpa using h
  simp only [e,h,TY,if_false]
  cases x % 4 == 2<;>simp
theorem Se (k:Nat)(i:Int)(a:Hm)(Q:D×Hm->Prop):W (f (k+1) "is_whole" [.int i] a) Q↔Q (.bl true,a):=by
 rw [Qx,W_fin]
 simp only [w_mRet,zI,P1,bQ,aX,aT,aH,bB,Qj,Ei,if_true,Wj]
theorem Fo (k:Nat){i:Int}(h:1<=i/\i<=6)(a:Hm)(Q:D×Hm->Prop)(H:Q (.bl true,a)):W (f (k+2) "is_size" [.int i] a) Q:=by
 rw [QN,W_fin]
 simp only [w_mRet,zI,bQ,aX,aT,aH,bB,Se,if_true,Qk,P6,decide_eq_true h.1,decide_eq_true h.2]
 exact H
theorem Sf (k:Nat){w h:Int}(hw:1<=w/\w<=6)(b:1<=h/\h<=6)(a:Hm)(Q:D×Hm->Prop)(H:Q (.non,a)):W (f (k+3) "check_size" [.int w,.int h] a) Q:=by
 rw [QU,W_fin]
 simp only [cU,qU,tW,iP,bQ,aX,aT,aH,aK]
 refine Fo k hw _ _ ?_
 simp only [hW,if_true]
 refine Fo k b _ _ ?_
 simp only [hW,Vv,TY,if_false,dE]
 exact H
theorem z5 {i:Nat}{j l:MS}{d:aF}{c:Hm}{a:Nat}{b:List (List Int×D)}{Q:Fl×aF×Hm->Prop}(h:xD i d=some (.loc a))(hc:c[a]? = some (.dT b))
  (H:W (j d (c.set a (.dF b))) fun r=>r.2.2[a]? = some (.dF b)/\Q (r.1,r.2.1,r.2.2.set a (.dT b))):W (dY i j l d c) Q:=by
 have e:n8 i d c=some (a,b):=by simp only [n8,h,hc]
 unfold dY
 rw [e,W_bind]
 refine bP H fun r q=>?_
 rw [q.1]
 exact W_some.mpr q.2
theorem rB {i:Nat}{r:MI}{g:MG}{body x:MS}{o:aF}{m:Hm}{a:Nat}{e:List (List Int×D)}{ds:List D}{Q:Fl×aF×Hm->Prop}(h:xD i o=some (.loc a))(hc:m[a]? = some (.dT e))
  (hit:r o (m.set a (.dF e))=some (dW (.tup ds),ds.length+1,m.set a (.dF e)))(I:Nat->aF->Hm->Prop)(s:I 0 o (m.set a (.dF e)))
  (go:∀ n d c b,ds[n]? = some d->I n c b->∃ j,g d c b=some j/\W (body j b) fun p=>p.1=.nx/\I (n+1) p.2.1 p.2.2)
  (l:∀ c b,I ds.length c b->b[a]? = some (.dF e)/\Q (.nx,c,b.set a (.dT e))):W (dY i (cL r g body) x o m) Q:=by
 refine z5 h hc ?_
 rw [iR,hit,W_some]
 refine Qe (x:=.tup ds) (fun _=>rfl) I s (fun n d c b hd w=>?_) l
 obtain ⟨j,u,v⟩:=go n d c b hd w
 refine ⟨j,u,bP v fun p q=>?_⟩
 rw [q.1]
 exact q.2
theorem z6 {me:ME}{e:aF}{d c:Hm}{a:Nat}{b:List (List Int×D)}(h:me e d=some (.loc a,c))(g:c[a]? = some (.dF b)):gH me e d=some (dW (.tup (iL b)),(iL b).length+1,c):=by
 simp only [gH,h,T9,g,iL,TF]
theorem uD {me:ME}{e:aF}{d c:Hm}{a:Nat}{b:List (List Int×D)}(h:me e d=some (.loc a,c))(g:c[a]? = some (.dF b)):j8 me e d=some (dW (.tup (fR b)),(fR b).length+1,c):=by
 simp only [j8,h,T9,g,fR,TF]
theorem Fp {V:Int×Int->D}{qs:List (Int×Int)}:fR (aY V qs)=qs.map fun q=>.tup [PP q,V q]:=by
 unfold fR aY
 rw [Uh]
 rfl
theorem oW (Z:Zr):fR (aQ Z)=Z.map fun z=>.tup [PP z.1,.loc z.2.2]:=by
 unfold fR aQ
 rw [Uh]
 rfl
theorem uE (Z:Zr):iL (aQ Z)=(Z.map (·.1)).map PP:=by
 unfold iL aQ
 rw [Uh,Uh]
 rfl
theorem iV {a:Hm}{l:Nat}{c:C}(h:l<a.length)(t:Hm):(a++t).set l c=a.set l c++t:=Yu _ _ h
theorem lP (a:Hm){l:Nat}{c:C}(h:l<a.length)(t:Hm):(a.set l c++t)[l]? = some c:=by
 rw [Uc (by rw [Ut];exact h),Ug h]
theorem Fq (a:Hm)(l:Nat)(c d d':C)(t:Hm):(a.set l c++d::t).set a.length d'=a.set l c++d'::t:=by
 rw [Xi _ _ (by rw [Ut];exact TR _),Ut,Xe]
 rfl
theorem z7 (a:Hm)(l:Nat)(c d:C)(t:Hm):(a.set l c++d::t)[a.length]? = some d:=by
 rw [UK (by rw [Ut];exact TR _),Ut,Xe]
 rfl
theorem uF {a:Hm}{l:Nat}{c b:C}(h:a[l]? = some c)(t:Hm):(a.set l b++t).set l c=a++t:=by
 have d:l<a.length:=(TB.mp h).1
 rw [Yu _ _ (by rw [Ut];exact d),YR,qY h]
structure OnL (e:Int×Int)(u n:Int):Prop where
 u0:0<=u/\u<4
 num:∀ p:Int×Int,hX e.1 e.2 p.1 p.2=cK u p
 at_:cK u e=n
 mir:∀ p,dJ p e=aO (bF u n) p
 mirZ:uB e=bF u n
noncomputable def sd (a:Bool):Int:=if a then 1 else -1
theorem z8 {u n:Int}{p:Int×Int}(h:cK u p≠n)(a:Bool):(iA (cK u p - n) == sd a)=aZ u n a p:=by
 unfold iA sd aZ
 by_cases b:n<cK u p
 ·have:0<cK u p - n:=by omega
  rw [if_pos this,decide_eq_true b]
  cases a<;>rfl
 ·have c:¬ 0<cK u p - n:=by omega
  have d:cK u p - n<0:=by omega
  rw [if_neg c,if_pos d,decide_eq_false b]
  cases a<;>rfl
theorem uG (k:Nat){e p:Int×Int}{u n:Int}(E:OnL e u n)(c:Hm)(Q:D×Hm->Prop):W (f (k+2) "hand_of" [PP p,PP e] c) Q↔Q (.int (iA (cK u p - n)),c):=by
 obtain ⟨x,y⟩:=e
 obtain ⟨a,b⟩:=p
 have d:=E.num (a,b)
 have h:=E.num (x,y)
 have i:=E.at_
 dsimp only at d h
 have:=R6 k a b x y c Q
 rw [d,h,i] at this
 exact this
theorem Sg (k:Nat){e p:Int×Int}{u n:Int}(E:OnL e u n)(c:Hm)(Q:D×Hm->Prop):W (f (k+2) "mirrored" [PP p,PP e] c) Q↔Q (PP (aO (bF u n) p),c):=by
 obtain ⟨x,y⟩:=e
 obtain ⟨a,b⟩:=p
 have:=EB k a b x y c Q
 rw [E.mir (a,b)] at this
 exact this
theorem Sh (k:Nat){e:Int×Int}{u n:Int}(E:OnL e u n)(a:Hm)(Q:D×Hm->Prop):W (f (k+3) "mirror_in" [PP e] a) Q↔Q (LD (bF u n),a):=by
 obtain ⟨x,y⟩:=e
 have:=RE k x y a Q
 rw [E.mirZ] at this
 exact this
theorem Si (k:Nat){l:Nat}{F:Int×Int->Ly}(w:∀ q,Dih (F q)){qs:List (Int×Int)}(nd:qs.Nodup)(J:qs.length<=100){e:Int×Int}{u n:Int}{a:Bool}(E:OnL e u n)(G:∀ q∈qs,cK u (aO (F q) q)≠n){b:Hm}
  (g:b[l]? = some (.dT (aY (fun q=>LD (F q)) qs)))(Q:D×Hm->Prop)(H:Q (.loc b.length,b++[.dT (aY (fun q=>LD (bR u n a F q)) qs)])):W (f (k+4) "folded_layings" [.loc l,PP e,.int (sd a)] b) Q:=by
 have c:l<b.length:=(TB.mp g).1
 rw [QZ,W_fin]
 simp only [w_mSeq,cC,bQ,aX,aT,aH,aK,Sh k E,oP,TJ,TK]
 have A:(b++[C.dT []])[l]? = some (.dT (aY (fun q=>LD (F q)) qs)):=by rw [Uc c];exact g
 refine rB rfl A (uD (a:=l) rfl (by rw [iV c];exact lP b c _)) (fun i o m=>∃ x y z,o=[some (.loc l),some (PP e),some (.int (sd a)),some (LD (bF u n)),some (.loc b.length),x,y,z]/\m=b.set l (.dF (aY (fun q=>LD (F q)) qs))++[.dT (aY (fun q=>LD (bR u n a F q)) (qs.take i))])
  ⟨none,none,none,rfl,iV c _⟩ (fun i d o m hd p=>?_) fun o m p=>?_
 ·obtain ⟨x,y,z,rfl,rfl⟩:=p
  rw [Fp,Um] at hd
  obtain ⟨q,j,rfl⟩:=Tz.mp hd
  refine ⟨_,rfl,?_⟩
  have r:q∈qs:=UM j
  have B:i<qs.length:=(TB.mp j).1
  have s:∀ b Q,W (f (k+3) "led" [LD (F q),PP q] b) Q↔Q (PP (aO (F q) q),b):=fun b Q=>zS (k+2) (F q) (w q) q.1 q.2 b Q
  simp only [iF,TJ,TK,w_mSeq,cC,bA,bQ,aX,aT,aH,aK,s,uG (k+1) E,w_eqI,z8 (G q r),kE,qT,iP,hW]
  have I:b7 (aY (fun q=>LD (bR u n a F q)) (qs.take i)) (b6 q)=none:=Fe (uC nd j)
  have put:∀ d Q,Q (b.set l (.dF (aY (fun q=>LD (F q)) qs))++[.dT (aY (fun q=>LD (bR u n a F q)) (qs.take i)++[(b6 q,d)])])->W (j6 (.loc b.length) (PP q) d (b.set l (.dF (aY (fun q=>LD (F q)) qs))++[.dT (aY (fun q=>LD (bR u n a F q)) (qs.take i))])) Q:=fun d Q h=>by
   refine (qV (z7 _ _ _ _ _) (iT q) (by rw [TF,UZ,UW];omega)).mpr ?_
   rw [Ff I,Fq]
   exact h
  have v:aY (fun q=>LD (bR u n a F q)) (qs.take (i+1))=aY (fun q=>LD (bR u n a F q)) (qs.take i)++[(b6 q,LD (bR u n a F q))]:=by
   unfold aY
   rw [jL j,Uo]
   rfl
  cases hc:aZ u n a (aO (F q) q) with
  | true=>
   simp only [if_true,bQ,aX,aT,aH,aK]
   refine (RG (k+1) (F q) (bF u n) (w q) (zW u n) _ _).mpr (put _ _ ⟨trivial,_,_,_,rfl,?_⟩)
   rw [v]
   unfold bR
   rw [if_pos hc]
  | false=>
   simp only [TY,if_false,aH,aK]
   refine put _ _ ⟨trivial,_,_,_,rfl,?_⟩
   rw [v]
   unfold bR
   rw [if_neg (by rw [hc];exact Ux)]
 ·obtain ⟨x,y,z,rfl,rfl⟩:=p
  refine ⟨lP b c _,?_⟩
  rw [uF g,Fp,TF,V4]
  simp only [w_mRet,aH,aK]
  exact H
noncomputable def b9 (c:Nat):Zr->Zr
 | []=>[]
 | z::Z=>(z.1,z.2.1,c)::b9 (c+1) Z
theorem lQ (z:(Int×Int)×List (Int×Int)×Nat):∀ (Z:Zr)(c:Nat),b9 c (Z++[z])=b9 c Z++[(z.1,z.2.1,c+Z.length)]
 | [],c=>rfl
 | y::Z,c=>by
  show (y.1,y.2.1,c)::b9 (c+1) (Z++[z])=(y.1,y.2.1,c)::(b9 (c+1) Z++_)
  rw [lQ z Z (c+1),Uk,show c+1+Z.length=c+(Z.length+1) by omega]
theorem jM:∀ (Z:Zr)(c:Nat),GZ (b9 c Z)=GZ Z
 | [],_=>rfl
 | z::Z,c=>by
  show (z.1,z.2.1)::GZ (b9 (c+1) Z)=(z.1,z.2.1)::GZ Z
  rw [jM Z (c+1)]
theorem uH {Z Y:Zr}(h:GZ Z=GZ Y):Z.map (·.1)=Y.map (·.1):=by rw [<- kI,<- kI,h]
theorem uI:∀ (Z:Zr)(c:Nat)(b t:Hm),c=b.length->∀ z∈b9 c Z,c<=z.2.2/\(b++(Z.map fun z=>C.lst (z.2.1.map PP))++t)[z.2.2]? = some (.lst (z.2.1.map PP))
 | [],_,_,_,_,z,a=>nomatch a
 | y::Z,c,b,t,hc,z,a=>by
  rcases Uq.mp a with rfl|a
  ·refine ⟨TR _,?_⟩
   rw [VM,UK (by rw [hc];exact TR _),hc,Xe]
   rfl
  ·have:=uI Z (c+1) (b++[.lst (y.2.1.map PP)]) t (by rw [hc,TV];rfl) z a
   refine ⟨by omega,?_⟩
   rw [<- this.2,TM,VM b [_],a0q]
structure Pz (μ:Hm)(n a:Nat)(Z:Zr):Prop where
 dic:μ[a]? = some (.dT (aQ Z))
 kd:(Z.map (·.1)).Nodup
 at_:∀ z∈Z,n<=z.2.2/\μ[z.2.2]? = some (.lst (z.2.1.map PP))
theorem uJ {ds:List D}{a:Hm}{p i:Nat}{c d:C}{L:List C}(h:a[i]? = some (.lst ds))(e:i≠p):(a.set p c++d::L)[i]? = some (.lst ds):=by
 have b:=(TB.mp h).1
 rw [Uc (by rw [Ut];exact b),TQ (UG e)]
 exact h
theorem HI.nd {a:Hm}{p:Nat}{Z:Zr}(I:HI a p Z){i:Nat}{z:(Int×Int)×List (Int×Int)×Nat}(h:Z[i]? = some z):z.1∉(Z.take i).map (·.1):=by
 have:=I.kd
 rw [a2l]
 exact uC this (by rw [Um,h];rfl)
theorem z9 {a:Hm}{p:Nat}{c:C}{Y:Zr}{q:Int×Int}{L:List (Int×Int)}(i:q∉Y.map (·.1))(j:Y.length<=1000)(Q:Hm->Prop)
  (H:Q (a.set p c++(.dT (aQ (b9 (a.length+1) (Y++[(q,L,0)])))::(Y++[(q,L,0)]:Zr).map fun z=>C.lst (z.2.1.map PP)))) :
  W (j6 (.loc a.length) (PP q) (.loc (a.set p c++(.dT (aQ (b9 (a.length+1) Y))::Y.map fun z=>C.lst (z.2.1.map PP))).length) ((a.set p c++(.dT (aQ (b9 (a.length+1) Y))::Y.map fun z=>C.lst (z.2.1.map PP)))++[.lst (L.map PP)])) Q:=by
 have e:(a.set p c++(.dT (aQ (b9 (a.length+1) Y))::Y.map fun z=>C.lst (z.2.1.map PP))).length=a.length+1+Y.length:=by
  rw [TV,Ut,Uk,TF];omega
 have d:(b9 (a.length+1) Y).map (·.1)=Y.map (·.1):=uH (jM _ _)
 have b:(b9 (a.length+1) Y).length=Y.length:=by simpa using congrArg UJ d
 rw [e,VM,Vq]
 refine (qV (z7 _ _ _ _ _) (iT q) (by rw [q8,b,UW];omega)).mpr ?_
 rw [Ff (zV (by rw [d];exact i)),Fq]
 have h:aQ (b9 (a.length+1) Y)++[(b6 q,D.loc (a.length+1+Y.length))]=aQ (b9 (a.length+1) (Y++[(q,L,0)])):=by
  rw [lQ]
  unfold aQ
  rw [Uo]
  rfl
 rw [h]
 rw [Uo] at H
 exact H
theorem Sj (k:Nat){a:Hm}{p:Nat}{Z:Zr}(I:HI a p Z)(g:a[p]? = some (.dT (aQ Z)))(o:Z.length<=1000)(Q:D×Hm->Prop)
  (H:Q (.loc a.length,a++(.dT (aQ (b9 (a.length+1) Z))::Z.map fun z=>C.lst (z.2.1.map PP)))):W (f (k+1) "copied_piles" [.loc p] a) Q:=by
 have b:p<a.length:=(TB.mp g).1
 rw [QY,W_fin]
 simp only [w_mSeq,cC,oP,TJ,TK]
 have n:(a++[C.dT []])[p]? = some (.dT (aQ Z)):=by rw [Uc b];exact g
 refine rB rfl n (uD (a:=p) rfl (by rw [iV b];exact lP a b _)) (fun i h c=>∃ x y,h=[some (.loc p),some (.loc a.length),x,y]/\c=a.set p (.dF (aQ Z))++(.dT (aQ (b9 (a.length+1) (Z.take i)))::(Z.take i).map fun z=>C.lst (z.2.1.map PP)))
  ⟨none,none,rfl,iV b _⟩ (fun i d h c hd m=>?_) fun h c m=>?_
 ·obtain ⟨x,y,rfl,rfl⟩:=m
  rw [oW,Um] at hd
  obtain ⟨z,l,rfl⟩:=Tz.mp hd
  refine ⟨_,rfl,?_⟩
  have j:=UM l
  simp only [iF,TJ,TK,kE,bQ,aX,aT,aH,aK]
  refine (zP (uJ (I.at_ z j) (I.ne (.inl g) j))).mpr ?_
  refine z9 (I.nd l) (by rw [UZ];omega) _ ⟨trivial,_,_,rfl,?_⟩
  have e:b9 (a.length+1) (Z.take i++[(z.1,z.2.1,0)])=b9 (a.length+1) (Z.take (i+1)):=by
   rw [jL l,lQ,lQ]
  rw [e,jL l,Uo,Uo]
  rfl
 ·obtain ⟨x,y,rfl,rfl⟩:=m
  refine ⟨lP a b _,?_⟩
  rw [uF g,oW,TF,V4]
  simp only [w_mRet,aH,aK]
  exact H
theorem Sk (k:Nat){b:Hm}{p:Nat}{Z:Zr}(I:HI b p Z)(g:b[p]? = some (.dT (aQ Z)))(B:Z.length<=1000){e:Int×Int}{u n:Int}{a o:Bool}(E:OnL e u n)(A:∀ z∈Z,cK u z.1≠n)(Q:Fl×aF×Hm->Prop)
  (H:∀ x y,Q (.nx,[some (.loc p),some (PP e),some (.int (sd a)),some (.bl o),some (.loc b.length),x,y,none,none,none],b++(.dT (aQ (b9 (b.length+1) (Z.filter fun z=>!aZ u n a z.1)))::(Z.filter fun z=>!aZ u n a z.1).map fun z=>C.lst (z.2.1.map PP)))) :
  W (dY 0 (cL (j8 (aA 0)) (eL [5,6]) (bI (aR (aC (a9 true) (aI (f (k+2) "hand_of") (aB (aA 5) (aB (aA 1) aD))) (aA 2))) (dA (aA 4) (aA 5) (aI eH (aB (aA 6) aD))) bJ)) bW [some (.loc p),some (PP e),some (.int (sd a)),some (.bl o),some (.loc b.length),none,none,none,none,none] (b++[.dT []])) Q:=by
 have c:p<b.length:=(TB.mp g).1
 have s:(b++[C.dT []])[p]? = some (.dT (aQ Z)):=by rw [Uc c];exact g
 refine rB rfl s (uD (a:=p) rfl (by rw [iV c];exact lP b c _)) (fun i m l=>∃ x y,m=[some (.loc p),some (PP e),some (.int (sd a)),some (.bl o),some (.loc b.length),x,y,none,none,none] /\
   l=b.set p (.dF (aQ Z))++(.dT (aQ (b9 (b.length+1) ((Z.take i).filter fun z=>!aZ u n a z.1)))::((Z.take i).filter fun z=>!aZ u n a z.1).map fun z=>C.lst (z.2.1.map PP)))
  ⟨none,none,rfl,iV c _⟩ (fun i d m l hd q=>?_) fun m l q=>?_
 ·obtain ⟨x,y,rfl,rfl⟩:=q
  rw [oW,Um] at hd
  obtain ⟨z,r,rfl⟩:=Tz.mp hd
  refine ⟨_,rfl,?_⟩
  have j:=UM r
  have ne:∀ {x y:Int}{b:Hm}{Q:D×Hm->Prop},W (a9 true (.int x) (.int y) b) Q↔Q (.bl (!(x == y)),b):=W_some
  simp only [iF,TJ,TK,cU,dP,bA,bQ,aX,aT,aH,aK,uG k E,ne,z8 (A z j)]
  have e:(Z.take (i+1)).filter (fun z=>!aZ u n a z.1)=(Z.take i).filter (fun z=>!aZ u n a z.1)++[z].filter (fun z=>!aZ u n a z.1):=by rw [jL r,VS]
  cases hc:aZ u n a z.1 with
  | true=>
   simp only [Vv,TY,if_false,dE]
   refine ⟨trivial,_,_,rfl,?_⟩
   rw [e,U4 (by rw [hc];decide),WT,U9]
  | false=>
   simp only [Wj,if_true,kE,bQ,aX,aT,aH,aK]
   refine (zP (uJ (I.at_ z j) (I.ne (.inl g) j))).mpr ?_
   refine z9 (fun h=>I.nd r ?_) (by have:=Vh (fun z:(Int×Int)×List (Int×Int)×Nat=>!aZ u n a z.1) (Z.take i);rw [UZ] at this;omega) _ ⟨trivial,_,_,rfl,?_⟩
   ·obtain ⟨y,v,w⟩:=TX.mp h
    exact TX.mpr ⟨y,(Vk.mp v).1,w⟩
   ·rw [e,Vl (by rw [hc];rfl),WT,lQ,lQ,Uo,Uo]
    rfl
 ·obtain ⟨x,y,rfl,rfl⟩:=q
  refine ⟨lP b c _,?_⟩
  rw [uF g,oW,TF,V4]
  exact H x y
theorem Pz.ne {c:Hm}{n a:Nat}{Z:Zr}(I:Pz c n a Z){z:(Int×Int)×List (Int×Int)×Nat}(hz:z∈Z):z.2.2≠a:=fun e=>by
 have b:=(I.at_ z hz).2
 rw [e,I.dic] at b
 cases b
theorem Pz.keep {d b:Hm}{n a:Nat}{Z:Zr}(I:Pz d n a Z)(h:∀ (c:Nat)(y:C),d[c]? = some y->b[c]? = some y):Pz b n a Z:=⟨h _ _ I.dic,I.kd,fun z hz=>⟨(I.at_ z hz).1,h _ _ (I.at_ z hz).2⟩⟩
theorem Pz.put {l:Hm}{n a b:Nat}{Z:Zr}(I:Pz l n a Z){p:Int×Int}{L:List (Int×Int)}(j:l[b]? = some (.lst (L.map PP)))(m:n<=b) :
  ∃ i,eP (aQ Z) (b6 p) (.loc b)=aQ i/\GZ i=fX (GZ Z) p L/\Pz (l.set a (.dT (aQ i))) n a i:=by
 have bs:b≠a:=fun e=>by rw [e,I.dic] at j;cases j
 by_cases d:p∈Z.map (·.1)
 ·refine ⟨Z.map fun y=>if y.1=p then (y.1,L,b) else y,RO d I.kd,?_,jJ I.dic,?_,fun y c=>?_⟩
  ·unfold fX
   rw [kI,if_pos (Vi.mpr d)]
   unfold GZ
   rw [Uh,Uh]
   refine US fun z _=>?_
   show ((if z.1=p then (z.1,L,b) else z).1,(if z.1=p then (z.1,L,b) else z).2.1)=if z.1=p then (z.1,L) else (z.1,z.2.1)
   split<;>rfl
  ·have e:(Z.map fun y=>if y.1=p then (y.1,L,b) else y).map (·.1)=Z.map (·.1):=by
    rw [Uh]
    refine US fun y _=>?_
    show (if y.1=p then (y.1,L,b) else y).1=y.1
    split<;>rfl
   rw [e]
   exact I.kd
  ·obtain ⟨x,h,rfl⟩:=TX.mp c
   split
   ·rw [TQ (UG bs)];exact ⟨m,j⟩
   ·rw [TQ (UG (I.ne h))];exact I.at_ x h
 ·refine ⟨Z++[(p,L,b)],EV d,?_,jJ I.dic,?_,fun y c=>?_⟩
  ·unfold fX
   rw [kI,if_neg (fun w=>d (Vi.mp w))]
   unfold GZ
   rw [Uo]
   rfl
  ·rw [Uo,W7]
   exact ⟨I.kd,by simp,fun x h y c e=>by
    simp only [TM,XH,UE] at c
    rw [e,c] at h
    exact d h⟩
  ·rcases Vp.mp c with c|c
   ·rw [TQ (UG (I.ne c))];exact I.at_ y c
   ·rw [UE.mp c,TQ (UG bs)];exact ⟨m,j⟩
theorem Aa {d:Hm}{n a b:Nat}{Z:Zr}(I:Pz d n a Z){p:Int×Int}{L:List (Int×Int)}(j:d[b]? = some (.lst (L.map PP)))(l:n<=b)(m:Z.length<=10000)(Q:Hm->Prop)
  (H:∀ c,GZ c=fX (GZ Z) p L->Pz (d.set a (.dT (aQ c))) n a c->Q (d.set a (.dT (aQ c)))):W (j6 (.loc a) (PP p) (.loc b) d) Q:=by
 obtain ⟨c,e,i,h⟩:=I.put (p:=p) j l
 refine (qV I.dic (iT p) (by rw [q8,UW];omega)).mpr ?_
 rw [e]
 exact H c i h
theorem Sl {Z:Zr}(a:(Z.map (·.1)).Nodup){z:(Int×Int)×List (Int×Int)×Nat}(h:z∈Z):cA (GZ Z) z.1=z.2.1:=oU (by rw [kI];exact a) (g:=(z.1,z.2.1)) (TX.mpr ⟨z,h,rfl⟩)
theorem Fs {b:Hm}{n a d:Nat}{Z:Zr}(I:Pz b n a Z){p:Int×Int}(hd:b[d]? = some (.lst [])):∃ c,iM (.loc a) [PP p,.loc d] b=some (.loc c,b)/\b[c]? = some (.lst ((cA (GZ Z) p).map PP)):=by
 by_cases e:p∈Z.map (·.1)
 ·obtain ⟨z,h,rfl⟩:=EU e
  refine ⟨z.2.2,?_,by rw [Sl I.kd h];exact (I.at_ z h).2⟩
  simp only [iM,I.dic,iT,Us,oS I.kd h,Option.getD_some]
 ·refine ⟨d,?_,by rw [rA (by rw [kI];exact e)];exact hd⟩
  simp only [iM,I.dic,iT,Us,zV e,YQ]
theorem Ab {G:Gr}{B:Nat}(h:∀ x∈G,x.2.length<=B)(p:Int×Int):(cA G p).length<=B:=by
 unfold cA
 split
 ·rename_i g a
  exact h g (List.mem_of_find?_eq_some a)
 ·exact Vj _
theorem Sm {G:Gr}{B:Nat}{o:Bool}{g:(Int×Int)×List (Int×Int)}(h:∀ x∈G,x.2.length<=B)(d:g.2.length<=100):(cT o G g).length<=G.length+1/\∀ x∈cT o G g,x.2.length<=B+100:=by
 have b:(if o then cA G g.1++g.2 else g.2++cA G g.1).length<=B+100:=by
  have:=Ab h g.1
  split<;>rw [TV]<;>omega
 unfold cT fX
 generalize (if o then cA G g.1++g.2 else g.2++cA G g.1)=L at b
 split
 ·refine ⟨by rw [TF];omega,fun x a=>?_⟩
  obtain ⟨y,c,rfl⟩:=TX.mp a
  split
  ·exact b
  ·exact UT (h y c) (by omega)
 ·refine ⟨by rw [TV];exact TR _,fun x a=>?_⟩
  rcases Vp.mp a with a|a
  ·exact UT (h x a) (by omega)
  ·rw [UE.mp a];exact b
theorem Ac (o:Bool):∀ (K S:Gr)(B:Nat),(∀ x∈S,x.2.length<=B)->(∀ x∈K,x.2.length<=100)->(K.foldl (cT o) S).length<=S.length+K.length/\∀ x∈K.foldl (cT o) S,x.2.length<=B+100 * K.length
 | [],S,B,h,_=>⟨TR _,h⟩
 | g::K,S,B,h,hk=>by
  obtain ⟨d,b⟩:=Sm (o:=o) h (hk g (UP ..))
  obtain ⟨e,c⟩:=Ac o K (cT o S g) (B+100) b fun x a=>hk x (UB _ a)
  rw [a1T,Uk]
  exact ⟨by omega,fun x a=>by have:=c x a;omega⟩
theorem Sn {Z:Zr}{i:Nat}{z:(Int×Int)×List (Int×Int)×Nat}(h:Z[i]? = some z):GZ (Z.take (i+1))=GZ (Z.take i)++[(z.1,z.2.1)]:=by
 unfold GZ
 rw [jL h,Uo]
 rfl
theorem Ft (mv:Int×Int->Bool)(Z:Zr):GZ (Z.filter fun z=>!mv z.1)=eU mv (GZ Z):=by
 unfold GZ eU
 rw [Zl]
 rfl
theorem So {Z:Zr}{mv:Int×Int->Bool}{M:Int×Int->Int×Int}(o:Bool)(h:Z.length<=100)(c:∀ z∈Z,z.2.1.length<=100)(i:Nat):((dH mv M (GZ (Z.take i))).foldl (cT o) (eU mv (GZ Z))).length<=200/\∀ x∈(dH mv M (GZ (Z.take i))).foldl (cT o) (eU mv (GZ Z)),x.2.length<=10100:=by
 have e:∀ x∈GZ Z,x.2.length<=100:=fun x a=>by
  obtain ⟨z,b,rfl⟩:=TX.mp a
  exact c z b
 have m:(dH mv M (GZ (Z.take i))).length<=100:=by
  unfold dH
  rw [TF]
  refine UT (Vh _ _) ?_
  rw [iU,UZ];omega
 obtain ⟨l,d⟩:=Ac o (dH mv M (GZ (Z.take i))) (eU mv (GZ Z)) 100 (fun x a=>e x (Vk.mp a).1) fun x a=>by
  obtain ⟨y,j,rfl⟩:=TX.mp a
  rw [Vz]
  have:=(Vk.mp j).1
  obtain ⟨z,b,rfl⟩:=TX.mp this
  exact c z (Yv b)
 have n:(eU mv (GZ Z)).length<=100:=by
  refine UT (Vh _ _) ?_
  rw [iU];exact h
 exact ⟨by omega,fun x a=>by have:=d x a;omega⟩
theorem Sq {mv:Int×Int->Bool}{M:Int×Int->Int×Int}{o:Bool}{S:Gr}{Z:Zr}{i:Nat}{z:(Int×Int)×List (Int×Int)×Nat}(h:Z[i]? = some z) :
  (dH mv M (GZ (Z.take (i+1)))).foldl (cT o) S=if mv z.1 then cT o ((dH mv M (GZ (Z.take i))).foldl (cT o) S) (M z.1,z.2.1.reverse) else (dH mv M (GZ (Z.take i))).foldl (cT o) S:=by
 rw [Sn h,RZ]
 dsimp only
 split
 ·rw [a1p];rfl
 ·rfl
theorem Sr (k:Nat){j:Hm}{p:Nat}{Z:Zr}(I:HI j p Z)(g:j[p]? = some (.dT (aQ Z)))(hl:Z.length<=100)(hb:∀ z∈Z,z.2.1.length<=100){e:Int×Int}{u n:Int}{a o:Bool}(E:OnL e u n)(hq:∀ z∈Z,cK u z.1≠n)(Q:D×Hm->Prop)
  (H:∀ S b,j <+: b->Pz b j.length j.length S->GZ S=kJ (aZ u n a) (aO (bF u n)) o (GZ Z)->Q (.loc j.length,b)):W (f (k+3) "folded_piles" [.loc p,PP e,.int (sd a),.bl o] j) Q:=by
 have m:p<j.length:=(TB.mp g).1
 rw [Q0,W_fin]
 simp only [w_mSeq,cC,oP,TJ,TK]
 refine Sk k I g (by omega) E hq _ fun x y=>?_
 simp only [w_mSeq]
 generalize hS:(Z.filter fun z=>!aZ u n a z.1)=S0
 have g1:(j++(C.dT (aQ (b9 (j.length+1) S0))::S0.map fun z=>C.lst (z.2.1.map PP)))[p]? = some (.dT (aQ Z)):=by rw [Uc m];exact g
 have Y:(S0.map (·.1)).Nodup:=by
  rw [<- hS]
  exact (XC.map _).nodup I.kd
 refine rB rfl g1 (uD (a:=p) rfl (by rw [iV m];exact lP j m _)) (fun i v b=>∃ S x y gl B G,v=[some (.loc p),some (PP e),some (.int (sd a)),some (.bl o),some (.loc j.length),x,y,gl,B,G] /\
   j.set p (.dF (aQ Z)) <+: b/\Pz b j.length j.length S/\GZ S=(dH (aZ u n a) (aO (bF u n)) (GZ (Z.take i))).foldl (cT o) (eU (aZ u n a) (GZ Z)))
  ⟨b9 (j.length+1) S0,x,y,none,none,none,rfl,by rw [iV m];exact VE _ _,?_,?_⟩ (fun i d v b hd O=>?_) fun v b O=>?_
 ·rw [iV m]
  refine ⟨z7 _ _ _ _ _,by rw [uH (jM _ _)];exact Y,fun z A=>?_⟩
  have:=uI S0 (j.length+1) (j.set p (.dF (aQ Z))++[.dT (aQ (b9 (j.length+1) S0))]) [] (by rw [TV,Ut];rfl) z A
  refine ⟨by omega,?_⟩
  rw [U9,VM] at this
  exact this.2
 ·rw [jM,<- hS,Ft]
  rfl
 ·obtain ⟨S,x,y,gl,B,G,rfl,l,J,w⟩:=O
  rw [oW,Um] at hd
  obtain ⟨z,A,rfl⟩:=Tz.mp hd
  refine ⟨_,rfl,?_⟩
  have s:=UM A
  simp only [iF,TJ,TK,cU,dP,bA,bQ,aX,aT,aH,aK,uG k E,w_eqI,z8 (hq z s)]
  rw [Sq A]
  cases hc:aZ u n a z.1 with
  | false=>
   simp only [TY,if_false,dE]
   exact ⟨trivial,S,_,_,_,_,_,rfl,l,J,w⟩
  | true=>
   have X:b[z.2.2]? = some (.lst (z.2.1.map PP)):=aS l (by rw [TQ (UG (I.ne (.inl g) s))];exact I.at_ z s)
   have T:j.length<=b.length:=by have:=l.length_le;rwa [Ut] at this
   simp only [if_true,w_mSeq,cC,bQ,aX,aT,aH,aK,TJ,TK,Sg k E]
   refine (Qr X).mpr ?_
   simp only [TJ,TK]
   refine qZ ?_
   simp only [aH,aK,aX,aT,fJ]
   have J1:Pz (b++[C.lst (z.2.1.map PP).reverse]) j.length j.length S:=J.keep fun c y h=>aS (VE _ _) h
   refine ⟨q0 J1.dic,Vj _,?_⟩
   have K:Pz (b++[C.lst (z.2.1.map PP).reverse]++[C.lst []]) j.length j.length S:=J1.keep fun c y h=>aS (VE _ _) h
   obtain ⟨c,ec,M⟩:=Fs (d:=(b++[C.lst (z.2.1.map PP).reverse]).length) K (p:=aO (bF u n) z.1) (by simp)
   have N:(b++[C.lst (z.2.1.map PP).reverse]++[C.lst []])[b.length]? = some (.lst (z.2.1.reverse.map PP)):=by
    rw [VM,UK (TR _),Xe,a1F]
    rfl
   rw [ec,W_some]
   have p2:b <+: b++[C.lst (z.2.1.map PP).reverse]++[C.lst []]:=by rw [VM];exact VE _ _
   generalize b++[C.lst (z.2.1.map PP).reverse]++[C.lst []]=μ2 at K ec M N p2
   simp only [TJ,TK,kE,qT,iP,aH,aK,hW]
   obtain ⟨sm1,sm2⟩:=So (mv:=aZ u n a) (M:=aO (bF u n)) o hl hb i
   have hat:=Ab (G:=GZ S) (by rw [w];exact sm2) (aO (bF u n) z.1)
   have hzl:=hb z s
   have R:S.length<=10000:=by rw [<- iU,w];omega
   have e2:∀ {L:List (Int×Int)},L=(if o then cA (GZ S) (aO (bF u n) z.1)++z.2.1.reverse else z.2.1.reverse++cA (GZ S) (aO (bF u n) z.1))->∀ xs:List D,xs=L.map PP->W (j6 (.loc j.length) (PP (aO (bF u n) z.1)) (.loc μ2.length) (μ2++[.lst xs])) fun r=>∃ S' x y gl B G,[some (.loc p),some (PP e),some (.int (sd a)),some (.bl o),some (.loc j.length),some (PP z.1),some (.loc z.2.2),some (PP (aO (bF u n) z.1)),some (D.loc b.length),some (.loc c)]=[some (.loc p),some (PP e),some (.int (sd a)),some (.bl o),some (.loc j.length),x,y,gl,B,G] /\
     j.set p (.dF (aQ Z)) <+: r/\Pz r j.length j.length S'/\GZ S'=cT o ((dH (aZ u n a) (aO (bF u n)) (GZ (Z.take i))).foldl (cT o) (eU (aZ u n a) (GZ Z))) (aO (bF u n) z.1,z.2.1.reverse):=by
    intro L hL xs U
    subst U
    have J3:Pz (μ2++[C.lst (L.map PP)]) j.length j.length S:=K.keep fun c y h=>aS (VE _ _) h
    refine Aa J3 (p:=aO (bF u n) z.1) (L:=L) (by simp) (UT T p2.length_le) R _ fun Z' e1 J4=>⟨Z',_,_,_,_,_,rfl,?_,J4,?_⟩
    ·exact gL ((l.trans p2).trans (VE _ _)) (by rw [Ut];exact TR _) _
    ·rw [e1,hL,<- w]
     rfl
   cases o with
   | true=>
    simp only [if_true,bA,aH,aK]
    refine (t6 M N (by rw [TF,TF,Vz,UW];omega)).mpr ?_
    exact bP (e2 rfl _ (by rw [if_pos rfl,Uo])) fun r q=>⟨trivial,q⟩
   | false=>
    simp only [TY,if_false,bA,aH,aK]
    refine (t6 N M (by rw [TF,TF,Vz,UW];omega)).mpr ?_
    exact bP (e2 rfl _ (by rw [if_neg (by decide),Uo])) fun r q=>⟨trivial,q⟩
 ·obtain ⟨S,x,y,gl,B,G,rfl,l,J,w⟩:=O
  refine ⟨aS l (Ug m),?_⟩
  simp only [w_mRet,aH,aK]
  refine H S _ (zX g l) ⟨?_,J.kd,fun z A=>?_⟩ ?_
  ·rw [TQ (by omega)];exact J.dic
  ·have:=J.at_ z A
   rw [TQ (by omega)];exact this
  ·rw [w,oW,TF,V4]
   rfl
theorem Fu (k:Nat)(p:Int×Int)(u:Int)(c:0<=u/\u<4)(b:Hm)(Q:D×Hm->Prop)(H:∀ a,b <+: a->Q (.int (cK u p),a)):W (f (k+1) "_law_value" [PP p,.int u] b) Q:=by
 rw [Q7]
 exact Rv (Ru rfl rfl ((tX (cB _ _) (RU c)).mpr (H _ (bE _ _))))
theorem Fv (k:Nat)(A:Ly)(hA:Dih A)(p:Int×Int)(a:Hm)(Q:D×Hm->Prop):W (f (k+1) "_law_led" [LD A,PP p] a) Q↔Q (PP (aO A p),a):=by
 obtain ⟨b,c,d,e⟩:=hA.sm
 rw [Q5,W_fin]
 simp only [w_mSeq,D7,aH,RL,TJ,TK,w_mRet,fV,aX,aT,bA,bB,jH,fW,aK,lN b,lN c,lN d,lN e,iQ,eT,true_and]
 rfl
theorem Ss (A:Ly)(n:Int):fA A (bF 0 n)=⟨A.a,A.b,-A.c,-A.d,A.e,2 * n - A.g⟩/\fA A (bF 1 n)=⟨-A.a,-A.b,A.c,A.d,2 * n - A.e,A.g⟩/\fA A (bF 2 n)=⟨A.c,A.d,A.a,A.b,A.g+n,A.e - n⟩/\fA A (bF 3 n)=⟨-A.c,-A.d,-A.a,-A.b,n - A.g,n - A.e⟩:=by
 refine ⟨?_,?_,?_,?_⟩<;>(unfold fA bF;simp only [if_true,if_false,Int.reduceEq,Ly.mk.injEq];omega)
theorem Fw (k:Nat)(A:Ly)(u n:Int)(h:0<=u/\u<4)(a:Hm)(Q:D×Hm->Prop):W (f (k+1) "_law_over" [LD A,.tup [.int u,.int n]] a) Q↔Q (LD (fA A (bF u n)),a):=by
 obtain ⟨b,c,d,e⟩:=Ss A n
 refine zR ?_
 rw [Q6]
 have:u=0\/u=1\/u=2\/u=3:=by omega
 rcases this with rfl|rfl|rfl|rfl
 ·rw [b];exact ⟨_,rfl,rfl⟩
 ·rw [c];exact ⟨_,rfl,rfl⟩
 ·rw [d];exact ⟨_,rfl,rfl⟩
 ·rw [e];exact ⟨_,rfl,rfl⟩
noncomputable def Fx (n:Nat):List Nat:=a0f (VX none none (some (-1)) n).1 (VX none none (some (-1)) n).2.1 (VX none none (some (-1)) n).2.2
theorem Su:∀ n∈UX 101,Fx n=(UX n).reverse:=by decide +kernel
theorem Fy {a:Type}(xs:List a)(h:xs.length<=100):dM xs none none (some (-1))=xs.reverse:=by
 have e:=Su xs.length (XR.mpr (by omega))
 unfold Fx at e
 unfold dM
 rw [e,List.filterMap_reverse,Fd]
theorem Sv {b:Hm}{l:Nat}{a:ME}{d:aF}{L:List (Int×Int)}{Q:D×Hm->Prop}(c:L.length<=100)(e:a d b=some (.loc l,b))(g:b[l]? = some (.lst (L.map PP)))(H:Q (.loc b.length,b++[.lst (L.reverse.map PP)])) :
  W (mJ a jR jR (nB (cJ (mC (.int 1)))) d b) Q:=by
 refine Qp ?_
 rw [e,W_some]
 refine ⟨l,rfl,?_⟩
 refine W_some.mpr (W_some.mpr (W_some.mpr ⟨show (some (-1):Option Int)≠some 0 by decide,_,g,?_,?_⟩))
 ·show (dM (L.map PP) none none (some (-1))).length<=TZ
  rw [Fy _ (by rw [TF];exact c),Vz,TF,UW];omega
 ·show Q (.loc b.length,b++[.lst (dM (L.map PP) none none (some (-1)))])
  rw [Fy _ (by rw [TF];exact c),<- a1F]
  exact H
theorem Fz (q:Int×Int)(a:Hm):∀ ps:List (Int×Int),jZ a (PP q) (ps.map PP)=some (ps.contains q)
 | []=>rfl
 | p::ps=>by
  show (cR 8 a (PP p) (PP q)).bind (fun b=>(jZ a (PP q) (ps.map PP)).map fun c=>b||c)=_
  rw [Ee 6,Fz q a ps,YL]
  have:(p == q)=(q == p):=by
   rw [Xv,beq_iff_eq,beq_iff_eq]
   exact eq_comm
  rw [this]
  rfl
theorem FA {b:Bool}{c:Hm}{a:Nat}{ps:List (Int×Int)}{q:Int×Int}{Q:D×Hm->Prop}(h:c[a]? = some (.lst (ps.map PP))):W (cM b (PP q) (.loc a) c) Q↔Q (.bl (if b then !(ps.contains q) else ps.contains q),c):=by
 have:cM b (PP q) (.loc a) c=some (.bl (if b then !(ps.contains q) else ps.contains q),c):=by
  have d:bO c (.loc a)=some (ps.map PP):=by simp only [bO,h]
  simp only [cM,kX,h,d,T9,Fz,Us]
 rw [this]
 exact W_some
theorem Sw {V:Int×Int->D}{qs:List (Int×Int)}(q:Int×Int)(a:q∈qs)(nd:qs.Nodup)(d:D):eP (aY V qs) (b6 q) d=aY (fun x=>if x=q then d else V x) qs:=by
 unfold eP
 rw [zY nd a,if_pos (show (some (V q)).isSome=true from rfl)]
 unfold aY
 rw [Uh]
 refine US fun x _=>?_
 show (if b6 x=b6 q then (b6 x,d) else (b6 x,V x))=(b6 x,if x=q then d else V x)
 by_cases e:x=q
 ·rw [if_pos (by rw [e]),if_pos e]
 ·rw [if_neg (fun h=>e (oR h)),if_neg e]
theorem FC {p:Nat}{l:D}{r:aF}{a:Hm}:(aC aG (aA 0) (mC (.int 1))) (some (.tup [l,.loc p])::r) a=some (.loc p,a):=rfl
theorem Sx (k:Nat){e:Hm}{p:Nat}{Z:Zr}(g:e[p]? = some (.dT (aQ Z)))(G:Z.length<=100){u n:Int}(z:0<=u/\u<4){a:Bool}{l j m v w x y c:Option D}{o:D}{A:MS}(Q:Fl×aF×Hm->Prop)
  (H:∀ t b,e <+: b->b[t]? = some (.lst (((Z.map (·.1)).filter (aZ u n a)).map PP))->Q (.nx,[some (.tup [o,.loc p]),some (.tup [.int u,.int n]),some (.bl a),j,m,v,some (.loc t),w,x,y,c],b)) :
  W (dY 1001 (aP 6 (gZ (gH (aC aG (aA 0) (mC (.int 1)))) (aR (aC (a9 false) (aC kT (aI (f (k+1) "_law_value") (aB (aA 11) (aB (aC aG (aA 1) (mC (.int 0))) aD))) (aC aG (aA 1) (mC (.int 1)))) (aA 2))) (aA 11))) A
   [some (.tup [o,.loc p]),some (.tup [.int u,.int n]),some (.bl a),j,m,v,none,w,x,y,c] e) Q:=by
 have i:p<e.length:=(TB.mp g).1
 have r:(e.set p (.dF (aQ Z)))[p]? = some (.dF (aQ Z)):=Ug i
 refine z5 (a:=p) rfl g ?_
 rw [cC]
 refine t5 (xs:=(Z.map (·.1)).map PP) (p:=fun d=>aZ u n a (lL d)) (v:=fun d=>d) ?_
 rw [z6 (a:=p) FC r,uE,W_some]
 refine ⟨Ed,rfl,by rw [TF,TF,UW];omega,fun d b hd h=>?_,fun d b hd _ h=>?_,fun b h s=>?_⟩
 ·obtain ⟨q,_,rfl⟩:=TX.mp hd
  simp only [Vq,WS,dP,bA,bQ,aX,aT,bB,aH,aK,jH,fW]
  refine Fu k q u z _ _ fun E B=>?_
  simp only [Ea]
  exact w_eqBl.mpr ⟨rfl,B⟩
 ·simp only [Vq,WS,aH,aK]
  exact ⟨trivial,VR _⟩
 ·refine ⟨aS h r,?_⟩
  dsimp only
  rw [EC,Ut] at s
  rw [Ut]
  exact H _ _ (zX g h) (by rw [TQ (by omega)];exact s)
theorem Sy (k:Nat){b:Hm}{l t:Nat}{F:Int×Int->Ly}(R:∀ q,Dih (F q)){qs ps:List (Int×Int)}(nd:qs.Nodup)(hl:qs.length<=100){u n:Int}(Y:0<=u/\u<4){a:Bool}(g:b[l]? = some (.dT (aY (fun q=>LD (F q)) qs)))(v:b[t]? = some (.lst (ps.map PP)))
  (T:∀ q∈qs,ps.contains (aO (F q) q)=aZ u n a (aO (F q) q)){w y z I J K r:Option D}(Q:Fl×aF×Hm->Prop)
  (H:∀ x,Q (.nx,[w,some (.tup [.int u,.int n]),y,z,some (.loc l),I,some (.loc t),x,J,K,r],(b++[C.lst (qs.map PP)]).set l (.dT (aY (fun q=>LD (bR u n a F q)) qs)))) :
  W (cL (eM (aI eH (aB (aA 4) aD))) (cZ 7) (bI (aR (aC (cM false) (aI (f (k+1) "_law_led") (aB (aC aG (aA 4) (aA 7)) (aB (aA 7) aD))) (aA 6))) (dA (aA 4) (aA 7) (aI (f (k+1) "_law_over") (aB (aC aG (aA 4) (aA 7)) (aB (aA 1) aD)))) bJ)
   [w,some (.tup [.int u,.int n]),y,z,some (.loc l),I,some (.loc t),none,J,K,r] b) Q:=by
 have U:l<b.length:=(TB.mp g).1
 have G:t≠l:=fun e=>by rw [e,g] at v;cases v
 have X:t<b.length:=(TB.mp v).1
 simp only [iR,oM,bQ,aX,aT,aH,aK]
 refine (zO g).mpr ?_
 have O:(aY (fun q=>LD (F q)) qs).map (fun k=>D.tup (k.1.map D.int))=qs.map PP:=by
  unfold aY
  rw [Uh]
  rfl
 rw [O]
 refine (oO (cB _ _)).mpr ?_
 have M:l<(b++[C.lst (qs.map PP)]).length:=by rw [TV];omega
 have L:(b++[C.lst (qs.map PP)])[l]? = some (.dT (aY (fun q=>LD (F q)) qs)):=aS (bE _ _) g
 refine tY (fun i o m=>∃ x,o=[w,some (.tup [.int u,.int n]),y,z,some (.loc l),I,some (.loc t),x,J,K,r]/\m=(b++[C.lst (qs.map PP)]).set l (.dT (aY (fun q=>LD (if q∈qs.take i then bR u n a F q else F q)) qs)))
  ⟨none,rfl,?_⟩ ?_ (fun i d o m hd B=>?_) fun o m B=>?_
 ·rw [show (fun q=>LD (if q∈qs.take 0 then bR u n a F q else F q))=fun q=>LD (F q) from funext fun q=>by rw [if_neg (by simp)]]
  exact (qY L).symm
 ·rintro i o m ⟨x,_,rfl⟩
  rw [TQ (by omega)]
  exact cB _ _
 ·obtain ⟨x,rfl,rfl⟩:=B
  obtain ⟨q,E,rfl⟩:=ES hd
  refine ⟨_,rfl,?_⟩
  have p:q∈qs:=UM E
  have Z:q∉qs.take i:=uC nd E
  have gl:((b++[C.lst (qs.map PP)]).set l (.dT (aY (fun q=>LD (if q∈qs.take i then bR u n a F q else F q)) qs)))[l]? = some (.dT (aY (fun q=>LD (if q∈qs.take i then bR u n a F q else F q)) qs)):=jJ L
  have A:((b++[C.lst (qs.map PP)]).set l (.dT (aY (fun q=>LD (if q∈qs.take i then bR u n a F q else F q)) qs)))[t]? = some (.lst (ps.map PP)):=by rw [TQ (UG G)];exact aS (bE _ _) v
  have N:∀ Q,Q (LD (F q),(b++[C.lst (qs.map PP)]).set l (.dT (aY (fun q=>LD (if q∈qs.take i then bR u n a F q else F q)) qs)))->W (aG (.loc l) (PP q) ((b++[C.lst (qs.map PP)]).set l (.dT (aY (fun q=>LD (if q∈qs.take i then bR u n a F q else F q)) qs)))) Q:=fun Q h=>by
   refine (Em gl (iT q) (zY nd p)).mpr ?_
   rw [if_neg Z]
   exact h
  simp only [TJ,TK,cU,dP,bA,bQ,aX,aT,aH,aK]
  refine N _ ((Fv k (F q) (R q) q _ _).mpr ((FA A).mpr ?_))
  rw [if_neg Ux,T q p]
  have s:∀ x∈qs,x∈qs.take (i+1)↔x∈qs.take i\/x=q:=fun x _=>by rw [jL E,Vp,UE]
  cases hc:aZ u n a (aO (F q) q) with
  | true=>
   simp only [if_true,kE,bQ,aX,aT,bA,aH,aK]
   refine N _ ((Fw k (F q) u n Y _ _).mpr ((qV gl (iT q) (by rw [TF,UW];omega)).mpr ⟨_,rfl,?_⟩))
   rw [Sw q p nd,YR]
   congr 2
   refine US fun x j=>?_
   dsimp only
   by_cases e:x=q
   ·rw [if_pos e,if_pos ((s x j).mpr (.inr e)),e]
    unfold bR
    rw [if_pos hc]
   ·rw [if_neg e]
    by_cases c:x∈qs.take i
    ·rw [if_pos c,if_pos ((s x j).mpr (.inl c))]
    ·rw [if_neg c,if_neg fun h=>((s x j).mp h).elim c e]
  | false=>
   simp only [TY,if_false,dE]
   refine ⟨_,rfl,?_⟩
   congr 2
   refine US fun x j=>?_
   dsimp only
   by_cases c:x∈qs.take i
   ·rw [if_pos c,if_pos ((s x j).mpr (.inl c))]
   ·by_cases e:x=q
    ·rw [if_neg c,if_pos ((s x j).mpr (.inr e)),e]
     unfold bR
     rw [if_neg (by rw [hc];exact Ux)]
    ·rw [if_neg c,if_neg fun h=>((s x j).mp h).elim c e]
 ·obtain ⟨x,rfl,rfl⟩:=B
  have e:aY (fun q=>LD (if q∈qs.take (qs.map PP).length then bR u n a F q else F q)) qs=aY (fun q=>LD (bR u n a F q)) qs:=by
   refine US fun x j=>?_
   dsimp only
   rw [TF,V4,if_pos j]
  rw [e]
  exact H x
theorem FD {Z:Zr}{mv:Int×Int->Bool}{q:Int×Int}(h:q∈Z.map (·.1)):((Z.map (·.1)).filter mv).contains q=mv q:=by
 rw [Xv,Vi,Vk]
 exact ⟨fun x=>x.2,fun x=>⟨h,x⟩⟩
theorem Sz {a:Hm}{p t:Nat}{Z:Zr}(I:HI a p Z)(g:a[p]? = some (.dT (aQ Z)))(T:Z.length<=100){mv:Int×Int->Bool}(w:a[t]? = some (.lst (((Z.map (·.1)).filter mv).map PP))){s:D}{n o q r G J j:Option D}{R:MS}(Q:Fl×aF×Hm->Prop)
  (H:∀ x,Q (.nx,[some (.tup [s,.loc p]),n,o,q,r,x,some (.loc t),G,some (.loc a.length),J,j],a++(C.dT (aQ (b9 (a.length+1) (Z.filter fun z=>!mv z.1)))::(Z.filter fun z=>!mv z.1).map fun z=>C.lst (z.2.1.map PP)))) :
  W (dY 1001 (cL (gH (aC aG (aA 0) (mC (.int 1)))) (cZ 5) (bI (aR (aC (cM true) (aA 5) (aA 6))) (dA (aA 8) (aA 5) (aI eH (aB (aC aG (aC aG (aA 0) (mC (.int 1))) (aA 5)) aD))) bJ)) R
   [some (.tup [s,.loc p]),n,o,q,r,none,some (.loc t),G,some (.loc a.length),J,j] (a++[C.dT []])) Q:=by
 have b:p<a.length:=(TB.mp g).1
 have B:t≠p:=fun e=>by rw [e,g] at w;cases w
 have K:(a++[C.dT []])[p]? = some (.dT (aQ Z)):=by rw [Uc b];exact g
 have u:∀ L,(a.set p (.dF (aQ Z))++L)[p]? = some (.dF (aQ Z)):=fun L=>lP a b _
 refine rB rfl K (z6 (a:=p) FC (by rw [iV b];exact u _)) (fun i m l=>∃ x,m=[some (.tup [s,.loc p]),n,o,q,r,x,some (.loc t),G,some (.loc a.length),J,j] /\
   l=a.set p (.dF (aQ Z))++(C.dT (aQ (b9 (a.length+1) ((Z.take i).filter fun z=>!mv z.1)))::((Z.take i).filter fun z=>!mv z.1).map fun z=>C.lst (z.2.1.map PP)))
  ⟨none,rfl,iV b _⟩ (fun i d m l hd A=>?_) fun m l A=>?_
 ·obtain ⟨x,rfl,rfl⟩:=A
  rw [uE,Uh,Um] at hd
  obtain ⟨z,E,rfl⟩:=Tz.mp hd
  refine ⟨_,rfl,?_⟩
  have c:=UM E
  have O:z.1∈Z.map (·.1):=TX.mpr ⟨z,c,rfl⟩
  have v:=uJ (p:=p) (c:=.dF (aQ Z)) (d:=C.dT (aQ (b9 (a.length+1) ((Z.take i).filter fun z=>!mv z.1)))) (L:=((Z.take i).filter fun z=>!mv z.1).map fun z=>C.lst (z.2.1.map PP)) w B
  simp only [Yo,TJ,TK,cU,dP,bA,aH,aK]
  refine (FA v).mpr ?_
  rw [if_pos rfl,FD O]
  have e:(Z.take (i+1)).filter (fun z=>!mv z.1)=(Z.take i).filter (fun z=>!mv z.1)++[z].filter (fun z=>!mv z.1):=by rw [jL E,VS]
  cases hc:mv z.1 with
  | true=>
   simp only [Vv,TY,if_false,dE]
   refine ⟨trivial,_,rfl,?_⟩
   rw [e,U4 (by rw [hc];decide),WT,U9]
  | false=>
   simp only [Wj,if_true,kE,bQ,aX,aT,bA,bB,fW,aH,aK]
   refine (RV (.inr (u _)) (iT z.1) (oS I.kd c)).mpr ?_
   refine (zP (uJ (I.at_ z c) (I.ne (.inl g) c))).mpr ?_
   refine z9 (fun h=>I.nd E ?_) (by have:=Vh (fun z:(Int×Int)×List (Int×Int)×Nat=>!mv z.1) (Z.take i);rw [UZ] at this;omega) _ ⟨trivial,_,rfl,?_⟩
   ·obtain ⟨y,M,N⟩:=TX.mp h
    exact TX.mpr ⟨y,(Vk.mp M).1,N⟩
   ·rw [e,Vl (by rw [hc];rfl),WT,lQ,lQ,Uo,Uo]
    rfl
 ·obtain ⟨x,rfl,rfl⟩:=A
  refine ⟨u _,?_⟩
  rw [uF g,uE,TF,TF,V4]
  exact H x
theorem SA (mv:Int×Int->Bool)(M:Int×Int->Int×Int)(Z:Zr):dH mv M (GZ Z)=(Z.filter fun z=>mv z.1).map fun z=>(M z.1,z.2.1.reverse):=by
 unfold dH GZ
 rw [Zl,Uh]
 rfl
theorem uK (mv:Int×Int->Bool)(Z:Zr):(Z.map (·.1)).filter mv=(Z.filter fun z=>mv z.1).map (·.1):=by
 rw [Zl]
 rfl
theorem SD (k:Nat){μ0 μ:Hm}{p t b:Nat}{Z S0:Zr}(E:μ0 <+: μ)(I:HI μ0 p Z)(g:μ0[p]? = some (.dT (aQ Z)))(hl:Z.length<=100)(M:∀ z∈Z,z.2.1.length<=100){u n:Int}(hu:0<=u/\u<4){a o:Bool}(gt:μ0[t]? = some (.lst (((Z.map (·.1)).filter (aZ u n a)).map PP)))
  (J0:Pz μ μ0.length b S0)(R:μ0.length<=b)(e0:GZ S0=eU (aZ u n a) (GZ Z)){s:D}{q x5 G:Option D}(Q:Fl×aF×Hm->Prop)
  (H:∀ x y z S e,μ0 <+: e->Pz e μ0.length b S->GZ S=kJ (aZ u n a) (aO (bF u n)) o (GZ Z)->Q (.nx,[some (.tup [s,.loc p]),some (.tup [.int u,.int n]),some (.bl a),some (.bl o),q,x,some (.loc t),G,some (.loc b),y,z],e)) :
  W (cL (eM (aA 6)) (cZ 5) (aJ (aP 9 (aI (f (k+1) "_law_led") (aB (aI (f (k+1) "_law_over") (aB (bT (aB (mC (.int 1)) (aB (mC (.int 0)) (aB (mC (.int 0)) (aB (mC (.int 1)) (aB (mC (.int 0)) (aB (mC (.int 0)) aD))))))) (aB (aA 1) aD))) (aB (aA 5) aD)))) (aJ (aP 10 (mJ (aC aG (aC aG (aA 0) (mC (.int 1))) (aA 5)) jR jR (nB (cJ (mC (.int 1)))))) (bI (dX (aA 3)) (dA (aA 8) (aA 9) (aC bV (fE iM (aA 8) (aB (aA 9) (aB (cI aD) aD))) (aA 10))) (dA (aA 8) (aA 9) (aC bV (aA 10) (fE iM (aA 8) (aB (aA 9) (aB (cI aD) aD))))))))
   [some (.tup [s,.loc p]),some (.tup [.int u,.int n]),some (.bl a),some (.bl o),q,x5,some (.loc t),G,some (.loc b),none,none] μ) Q:=by
 simp only [iR,oM,aH,aK]
 refine (oO (aS E gt)).mpr ?_
 refine tY (fun i l e=>∃ x y z S,l=[some (.tup [s,.loc p]),some (.tup [.int u,.int n]),some (.bl a),some (.bl o),q,x,some (.loc t),G,some (.loc b),y,z]/\μ0 <+: e/\Pz e μ0.length b S /\
   GZ S=(((Z.filter fun z=>aZ u n a z.1).take i).map fun z=>(aO (bF u n) z.1,z.2.1.reverse)).foldl (cT o) (eU (aZ u n a) (GZ Z)))
  ⟨x5,none,none,S0,rfl,E,J0,e0⟩ (fun i l e ⟨_,_,_,_,_,h,_⟩=>aS h gt) (fun i d l e hd N=>?_) fun l e N=>?_
 ·obtain ⟨x,y,w,S,rfl,m,J,v⟩:=N
  rw [uK,Uh,Um] at hd
  obtain ⟨z,hz,rfl⟩:=Tz.mp hd
  refine ⟨_,rfl,?_⟩
  have X:=Vk.mp (UM hz)
  have j:=X.1
  have hge:μ0.length<=e.length:=m.length_le
  have stl:D.tup [.int 1,.int 0,.int 0,.int 1,.int 0,.int 0]=LD dG:=rfl
  simp only [Yo,TJ,TK,w_mSeq,cC,bQ,fV,aX,aT,bB,aH,aK,stl]
  refine ⟨EH,(Fw k dG u n hu _ _).mpr ?_⟩
  rw [RB]
  refine (Fv k (bF u n) (zW u n) z.1 _ _).mpr ?_
  simp only [TJ,TK]
  have ei:aG (.loc p) (PP z.1) e=some (.loc z.2.2,e):=by
   have h1:e[p]? = some (.dT (aQ Z)):=aS m g
   simp only [aG,h1,iT,T9,oS I.kd j,Us]
  refine Sv (M z j) ei (aS m (I.at_ z j)) ?_
  simp only [TJ,TK,cU,iP,aH,aK,hW]
  have q1:μ0 <+: e++[C.lst (z.2.1.reverse.map PP)]:=m.trans (bE _ _)
  have K:Pz (e++[C.lst (z.2.1.reverse.map PP)]) μ0.length b S:=J.keep fun c y h=>aS (bE _ _) h
  have A:(e++[C.lst (z.2.1.reverse.map PP)])[e.length]? = some (.lst (z.2.1.reverse.map PP)):=cB _ _
  generalize hν:e++[C.lst (z.2.1.reverse.map PP)]=ν at q1 K A
  have q2:μ0 <+: ν++[C.lst []]:=q1.trans (bE _ _)
  have J2:Pz (ν++[C.lst []]) μ0.length b S:=K.keep fun c y h=>aS (bE _ _) h
  have gr:(ν++[C.lst []])[e.length]? = some (.lst (z.2.1.reverse.map PP)):=aS (bE _ _) A
  obtain ⟨c,ec,gc⟩:=Fs (d:=ν.length) J2 (p:=aO (bF u n) z.1) (cB _ _)
  have hK:(((Z.filter fun z=>aZ u n a z.1).take i).map fun z=>(aO (bF u n) z.1,z.2.1.reverse)).length<=100:=by
   rw [TF,UZ]
   have:=Vh (fun z:(Int×Int)×List (Int×Int)×Nat=>aZ u n a z.1) Z
   omega
  obtain ⟨sm1,Y⟩:=Ac o (((Z.filter fun z=>aZ u n a z.1).take i).map fun z=>(aO (bF u n) z.1,z.2.1.reverse)) (eU (aZ u n a) (GZ Z)) 100 (fun x B=>by
    obtain ⟨y,U,rfl⟩:=TX.mp (Vk.mp B).1
    exact M y U) fun x B=>by
    obtain ⟨y,U,rfl⟩:=TX.mp B
    rw [Vz]
    exact M y (Vk.mp (Yv U)).1
  have hS0:(eU (aZ u n a) (GZ Z)).length<=100:=by
   refine UT (Vh _ _) ?_
   rw [iU];exact hl
  have hat:=Ab (G:=GZ S) (B:=10100) (by rw [v];exact fun x B=>by have:=Y x B;omega) (aO (bF u n) z.1)
  have hzl:=M z j
  have O:S.length<=10000:=by rw [<- iU,v];omega
  have e2:∀ {L:List (Int×Int)},L=(if o then cA (GZ S) (aO (bF u n) z.1)++z.2.1.reverse else z.2.1.reverse++cA (GZ S) (aO (bF u n) z.1))->∀ xs:List D,xs=L.map PP->W (j6 (.loc b) (PP (aO (bF u n) z.1)) (.loc (ν++[C.lst []]).length) (ν++[C.lst []]++[.lst xs])) fun r=>∃ x y w S,[some (.tup [s,.loc p]),some (.tup [.int u,.int n]),some (.bl a),some (.bl o),q,some (PP z.1),some (.loc t),G,some (.loc b),some (PP (aO (bF u n) z.1)),some (.loc e.length)]=[some (.tup [s,.loc p]),some (.tup [.int u,.int n]),some (.bl a),some (.bl o),q,x,some (.loc t),G,some (.loc b),y,w]/\μ0 <+: r/\Pz r μ0.length b S /\
     GZ S=(((Z.filter fun z=>aZ u n a z.1).take (i+1)).map fun z=>(aO (bF u n) z.1,z.2.1.reverse)).foldl (cT o) (eU (aZ u n a) (GZ Z)):=by
   intro L hL xs T
   subst T
   have J3:Pz (ν++[C.lst []]++[C.lst (L.map PP)]) μ0.length b S:=J2.keep fun c y h=>aS (bE _ _) h
   refine Aa J3 (p:=aO (bF u n) z.1) (L:=L) (cB _ _) q2.length_le O _ fun Z' e1 J4=>⟨_,_,_,Z',rfl,?_,J4,?_⟩
   ·exact gL (q2.trans (bE _ _)) R _
   ·rw [e1,hL,jL hz,Uo,a1p,<- v]
    rfl
  cases o with
  | true=>
   simp only [if_true,kE,bA]
   refine qZ ?_
   simp only [aH,aK,aX,aT,fJ]
   refine ⟨q0 K.dic,Vj _,?_⟩
   rw [ec,W_some]
   simp only [aH,aK]
   refine (t6 gc gr (by rw [TF,TF,Vz,UW];omega)).mpr ?_
   exact e2 rfl _ (by rw [if_pos rfl,Uo])
  | false=>
   simp only [TY,if_false,kE,bA,aH,aK]
   refine qZ ?_
   simp only [aH,aK,aX,aT,fJ]
   refine ⟨q0 K.dic,Vj _,?_⟩
   rw [ec,W_some]
   refine (t6 gr gc (by rw [TF,TF,Vz,UW];omega)).mpr ?_
   exact e2 rfl _ (by rw [if_neg (by decide),Uo])
 ·obtain ⟨x,y,w,S,rfl,m,J,v⟩:=N
  refine H x y w S _ m J ?_
  rw [v,TF,uK,TF,V4,kJ,SA]
noncomputable def kK (Z:Zr)(mv:Int×Int->Bool):Bool:=((Z.map (·.1)).filter mv).isEmpty||(((Z.map (·.1)).filter mv).length == Z.length)
theorem SE (k:Nat){b:Hm}{l p:Nat}{F:Int×Int->Ly}(hF:∀ q,Dih (F q)){qs:List (Int×Int)}(nd:qs.Nodup)(hl:qs.length<=100)(G:qs≠[])(hh:(qs.map fun q=>Tb.hashT (b6 q)).Nodup){Z:Zr}(I:HI b p Z)(g:b[p]? = some (.dT (aQ Z)))(gl:b[l]? = some (.dT (aY (fun q=>LD (F q)) qs)))
  (B:Z.length<=100)(hb:∀ z∈Z,z.2.1.length<=100)(hk:∀ q∈qs,aO (F q) q∈Z.map (·.1)){u n:Int}(J:0<=u/\u<4){a o:Bool}(Q:D×Hm->Prop)
  (O:kK Z (aZ u n a)=true->∀ d,b <+: d->Q (.non,d))
  (H1:kK Z (aZ u n a)=false->∀ S K Y d,b <+: d->b.length<=K->d[K]? = some (.dT (aY (fun q=>LD (bR u n a F q)) qs))->Pz d b.length Y S->GZ S=kJ (aZ u n a) (aO (bF u n)) o (GZ Z)->Q (.tup [.loc K,.loc Y],d)) :
  W (f (k+2) "_law_folded" [.tup [.loc l,.loc p],.tup [.int u,.int n],.bl a,.bl o] b) Q:=by
 have hlt:l<b.length:=(TB.mp gl).1
 have hpt:p<b.length:=(TB.mp g).1
 rw [Q9,W_fin]
 simp only [w_mSeq,cC,bQ,aX,aT,bA,bB,jH,aH,aK]
 refine (EW gl ⟨?_,?_⟩).mpr ?_
 ·intro e
  have:=congrArg UJ e
  rw [TF] at this
  exact G (X9.mp this)
 ·rw [Uh]
  exact hh
 simp only [TJ,TK]
 have L:b <+: b++[C.dT (aY (fun q=>LD (F q)) qs)]:=bE _ _
 refine Sx k (aS L g) B J (l:=none) _ fun t c M U=>?_
 have gc:c[b.length]? = some (.dT (aY (fun q=>LD (F q)) qs)):=aS M (cB _ _)
 have g2:=aS (L.trans M) g
 have q2:=L.trans M
 simp only [cU,lK,dP,bA,fJ,aT,bQ,aX,bB,fW,aH,aK]
 refine ⟨Vj _,(RP (aS (bE _ _) U) (cB _ _)).mpr ?_⟩
 have w:b <+: c++[C.lst []]:=q2.trans (bE _ _)
 have h:(c++[C.lst []])[t]? = some (.lst (((Z.map (·.1)).filter (aZ u n a)).map PP)):=aS (bE _ _) U
 have i:(c++[C.lst []])[b.length]? = some (.dT (aY (fun q=>LD (F q)) qs)):=aS (bE _ _) gc
 have em:(((Z.map (·.1)).filter (aZ u n a)).map PP).isEmpty=((Z.map (·.1)).filter (aZ u n a)).isEmpty:=by cases (Z.map (·.1)).filter (aZ u n a)<;>rfl
 have el:(((((Z.map (·.1)).filter (aZ u n a)).map PP).length:Int) == ((aQ Z).length:Int))=(((Z.map (·.1)).filter (aZ u n a)).length == Z.length):=by
  rw [TF,q8,Xv,beq_iff_eq,beq_iff_eq]
  omega
 dsimp only
 rw [em]
 cases A:((Z.map (·.1)).filter (aZ u n a)).isEmpty with
 | true=>
  simp only [if_true,w_mRet,bB]
  exact O (by unfold kK;rw [A];rfl) _ w
 | false=>
  simp only [TY,if_false]
  refine (zM h).mpr ((Qq (aS w g)).mpr (w_eqI.mpr ?_))
  dsimp only
  rw [el]
  cases X:(((Z.map (·.1)).filter (aZ u n a)).length == Z.length) with
  | true=>
   simp only [if_true,w_mRet,bB]
   exact O (by unfold kK;rw [A,X];rfl) _ w
  | false=>
   simp only [TY,if_false,dE]
   refine Sy k hF nd hl J i h (fun q hq=>FD (hk q hq)) _ fun x=>?_
   have E:b.length<(c++[C.lst []]++[C.lst (qs.map PP)]).length:=by
    have:=(TB.mp i).1
    rw [TV];omega
   have r:b <+: (c++[C.lst []]++[C.lst (qs.map PP)]).set b.length (.dT (aY (fun q=>LD (bR u n a F q)) qs)):=gL (w.trans (bE _ _)) (TR _) _
   have m:((c++[C.lst []]++[C.lst (qs.map PP)]).set b.length (.dT (aY (fun q=>LD (bR u n a F q)) qs)))[b.length]? = some (.dT (aY (fun q=>LD (bR u n a F q)) qs)):=Ug E
   have H:t≠b.length:=fun e=>by rw [e,i] at h;cases h
   have j:((c++[C.lst []]++[C.lst (qs.map PP)]).set b.length (.dT (aY (fun q=>LD (bR u n a F q)) qs)))[t]? = some (.lst (((Z.map (·.1)).filter (aZ u n a)).map PP)):=by rw [TQ (UG H)];exact aS (bE _ _) h
   generalize (c++[C.lst []]++[C.lst (qs.map PP)]).set b.length (.dT (aY (fun q=>LD (bR u n a F q)) qs))=μ4 at r m j
   simp only [oP,TJ,TK]
   have R:HI μ4 p Z:=I.more r
   have T:=aS r g
   refine Sz R T B j _ fun x=>?_
   simp only []
   have pr:μ4 <+: μ4++(C.dT (aQ (b9 (μ4.length+1) (Z.filter fun z=>!aZ u n a z.1)))::(Z.filter fun z=>!aZ u n a z.1).map fun z=>C.lst (z.2.1.map PP)):=VE _ _
   refine SD k pr R T B hb J j (S0:=b9 (μ4.length+1) (Z.filter fun z=>!aZ u n a z.1)) ⟨?_,?_,fun z v=>?_⟩ (TR _) (by rw [jM,Ft]) _ fun x y z S N p5 s e5=>?_
   ·rw [UK (TR _),Xe];rfl
   ·rw [uH (jM _ _)]
    exact (XC.map _).nodup I.kd
   ·have:=uI (Z.filter fun z=>!aZ u n a z.1) (μ4.length+1) (μ4++[.dT (aQ (b9 (μ4.length+1) (Z.filter fun z=>!aZ u n a z.1)))]) [] (by rw [TV];rfl) z v
    refine ⟨by omega,?_⟩
    rw [U9,VM] at this
    exact this.2
   ·simp only [w_mRet,fV,aX,aT,aH,aK]
    refine ⟨eT,H1 (by unfold kK;rw [A,X];rfl) S _ _ N (r.trans p5) (TR _) (aS p5 m) ⟨s.dic,s.kd,fun z v=>⟨UT r.length_le (s.at_ z v).1,(s.at_ z v).2⟩⟩ e5⟩
theorem FE {me:ME}(A:∀ ρ m Q,W (me ρ m) Q↔Q (LD dG,m)){μ0 m:Hm}{l a b:Nat}{qs:List (Int×Int)}(nd:qs.Nodup)(hl:qs.length<=100){L x1:Option D}(K:μ0 <+: m)(la:μ0.length<=a)(lb:μ0.length<=b)(ab:a≠b)(O:m[a]? = some (.dT []))(R:m[b]? = some (.dT []))(gl:m[l]? = some (.lst (qs.map PP)))(Q:Fl×aF×Hm->Prop)
  (H:∀ x S j,μ0 <+: j->j[a]? = some (.dT (aY (fun _=>LD dG) qs))->Pz j μ0.length b S->GZ S=gM qs->Q (.nx,[L,x1,some (.loc a),some (.loc b),x],j)) :
  W (eK (dW (.loc l)) (cZ 4) (aJ (dA (aA 2) (aA 4) me) (dA (aA 3) (aA 4) (cI (aB (aA 4) aD)))) ((qs.map PP).length+1) 0 [L,x1,some (.loc a),some (.loc b),none] m) Q:=by
 have B:l≠a:=fun e=>by rw [e,O] at gl;cases gl
 have E:l≠b:=fun e=>by rw [e,R] at gl;cases gl
 refine tY (fun i o j=>∃ x S,o=[L,x1,some (.loc a),some (.loc b),x]/\μ0 <+: j/\j[a]? = some (.dT (aY (fun _=>LD dG) (qs.take i)))/\Pz j μ0.length b S/\GZ S=gM (qs.take i)/\j[l]? = some (.lst (qs.map PP)))
  ⟨none,[],rfl,K,O,⟨R,List.nodup_nil,fun z v=>nomatch v⟩,rfl,gl⟩ (fun _ _ _ ⟨_,_,_,_,_,_,_,h⟩=>h) ?_ ?_
 ·rintro i d o j hd ⟨x,S,rfl,G,p,J,r,N⟩
  obtain ⟨q,w,rfl⟩:=ES hd
  refine ⟨_,rfl,?_⟩
  have Z:i<qs.length:=(TB.mp w).1
  have T:q∉qs.take i:=uC nd w
  have lS:S.length<=100:=by
   rw [<- iU,r]
   unfold gM
   rw [TF,UZ]
   omega
  simp only [TJ,TK,w_mSeq,kE,A,aH,aK]
  refine (qV p (iT q) (by rw [TF,UZ,UW];omega)).mpr ?_
  rw [RW T,<- jL w]
  have n:∀ (c:Nat)(y:C),c≠a->j[c]? = some y->(j.set a (C.dT (aY (fun _=>LD dG) (qs.take (i+1)))))[c]? = some y:=fun c y h e=>by rw [TQ (UG h)];exact e
  have M:Pz (j.set a (C.dT (aY (fun _=>LD dG) (qs.take (i+1))))) μ0.length b S:=⟨n _ _ (UG ab) J.dic,J.kd,fun z v=>⟨(J.at_ z v).1,n _ _ (fun e=>by have:=(J.at_ z v).2;rw [e,p] at this;cases this) (J.at_ z v).2⟩⟩
  have I:=gL G la (C.dT (aY (fun _=>LD dG) (qs.take (i+1))))
  have s:(j.set a (C.dT (aY (fun _=>LD dG) (qs.take (i+1)))))[a]? = some (C.dT (aY (fun _=>LD dG) (qs.take (i+1)))):=jJ p
  have u:=n _ _ B N
  generalize j.set a (C.dT (aY (fun _=>LD dG) (qs.take (i+1))))=μ2 at M I s u
  simp only [fJ,aX,aT,aH,aK]
  refine ⟨qW,?_⟩
  refine Aa (M.keep fun c y h=>aS (bE μ2 (C.lst [PP q])) h) (p:=q) (L:=[q]) (cB _ _) I.length_le (by omega) _ fun X Y U=>?_
  refine ⟨_,X,rfl,gL (I.trans (bE _ _)) lb _,by rw [TQ (UG ab)];exact aS (bE _ _) s,U,?_,by rw [TQ (UG E)];exact aS (bE _ _) u⟩
  rw [Y,r,RY (by rw [zZ];exact T),jL w]
  unfold gM
  rw [Uo]
  rfl
 ·rintro o j ⟨x,S,rfl,G,p,J,r,N⟩
  rw [TF,V4] at p r
  exact H x S j G p J r
theorem Ad {x g:Str}{m:ME}{c:aF}{b:Hm}{Q:D×Hm->Prop}(h:W (m c b) fun p=>∃ a fs d,p.1=.loc a/\p.2[a]? = some (.ins x fs)/\fs.lookup g=some d/\Q (d,p.2)):W (eX x g m c b) Q:=by
 unfold eX
 rw [W_bind]
 refine bP h fun p ⟨a,fs,d,e,i,j,l⟩=>?_
 rw [e]
 dsimp only
 rw [i]
 dsimp only
 rw [if_pos rfl,j]
 exact W_some.mpr l
theorem Ae {x g:Str}{c mv:ME}{b:aF}{d:Hm}{Q:Fl×aF×Hm->Prop}(h:W (mv b d) fun p=>W (c b p.2) fun q=>∃ a fs,q.1=.loc a/\q.2[a]? = some (.ins x fs)/\fs.length<100/\Q (.nx,b,q.2.set a (.ins x (gE g p.1 fs)))):W (k7 x g c mv b d) Q:=by
 unfold k7
 rw [W_bind]
 refine bP h fun p h=>?_
 rw [W_bind]
 refine bP h fun q ⟨a,fs,e,i,j,l⟩=>?_
 rw [e]
 dsimp only
 rw [i]
 dsimp only
 rw [if_pos ⟨rfl,j⟩]
 exact W_some.mpr l
theorem uL {x m:Str}{c:MF}{d:ME}{ms:MA}{b:aF}{e:Hm}{Q:D×Hm->Prop}(h:W (d b e) fun p=>∃ a fs,p.1=.loc a/\p.2[a]? = some (.ins x fs)/\fs.lookup m=none/\W (ms b p.2) fun q=>W (c (.loc a::q.1) q.2) Q):W (gG x m c d ms b e) Q:=by
 unfold gG
 rw [W_bind]
 refine bP h fun p ⟨a,fs,i,j,l,n⟩=>?_
 rw [i]
 dsimp only
 rw [j]
 dsimp only
 rw [if_pos ⟨rfl,l⟩,W_bind]
 exact n
theorem SF {x:Str}{a:MF}{ms:MA}{c:aF}{b:Hm}{Q:D×Hm->Prop}(h:W (ms c b) fun q=>W (a (.loc q.2.length::q.1) (q.2++[.ins x []])) fun r=>r.1=.non/\Q (.loc q.2.length,r.2)):W (k8 x a ms c b) Q:=by
 unfold k8
 rw [W_bind]
 refine bP h fun q h=>?_
 rw [W_bind]
 refine bP h fun r ⟨d,e⟩=>?_
 rw [d]
 exact W_some.mpr e
theorem SG {m:MT}{b c:MR}{a:aF}{d:Hm}(h:W (m a d) fun p=>(if p.1=true then b a p.2 else c a p.2)=none):mE m b c a d=none:=by
 obtain ⟨p,e,i⟩:=h
 unfold mE
 rw [e]
 exact i
theorem Af {m:MS}{c d:MR}{b:aF}{a:Hm}(h:c b a=none)(i:W (m b a) fun p=>d p.2.1 p.2.2=none):c9 m c d b a=none:=by
 obtain ⟨⟨f,l,j⟩,e,q⟩:=i
 unfold c9
 rw [h,e]
 cases f<;>first|rfl|exact q
theorem rSeq_no' {m:MS}{c d:MR}{b:aF}{a:Hm}(h:c b a=none)(i:∀ p,m b a=some p->p.1=.nx->d p.2.1 p.2.2=none):c9 m c d b a=none:=by
 unfold c9
 rw [h]
 dsimp only
 split
 ·rename_i l j e
  exact i _ e rfl
 ·rfl
theorem FF {o:Option (Xn×aF×Hm)}(h:o=none):qS o=none:=by rw [h];rfl
theorem SH (k:Nat)(w h:Int)(hw:1<=w/\w<=3)(n:1<=h/\h<=3)(i:Hm)(Q:D×Hm->Prop)(H:∀ a b,i <+: b->b[a]? = some (.lst (((oV w h).filter d6).map PP))->Q (.loc a,b)):W (f (k+2) "quarters_in" [.int w,.int h] i) Q:=by
 rw [QX,W_fin]
 simp only [w_mRet]
 refine t5 (xs:=(oV w h).map PP) (p:=fun d=>d6 (lL d)) (v:=fun d=>d) ?_
 simp only [oM,bQ,aX,aT,aH,aK]
 refine Sa _ w h (by omega) (by omega) _ _ fun a m l e o=>?_
 refine (oO e).mpr ⟨Qf e,rfl,?_,fun d b hd c=>?_,fun d b hd _ c=>?_,fun b c j=>?_⟩
 ·have:=Sb (w:=w) (h:=h) (by omega) (by omega)
  rw [TF,UW];omega
 ·obtain ⟨u,v,rfl⟩:=Rw hd
  simp only [Vq,WS,iP,bQ,aX,aT,aH,aK,Sd,hW]
  exact ⟨rfl,VR _⟩
 ·simp only [Vq,WS,aH,aK]
  exact ⟨trivial,VR _⟩
 ·refine H _ _ (l.trans c) ?_
  rw [j,EC d6]
theorem rC:∀ w∈[(1:Int),2,3],∀ h∈[(1:Int),2,3],(oV w h).filter d6=dZ w h/\(dZ w h).length<=36/\dZ w h≠[]/\(dZ w h).Nodup/\((dZ w h).map fun q=>Tb.hashT (b6 q)).Nodup/\(dZ w h).all d6=true:=by decide +kernel
theorem FG {p:Int×Int}(h:d6 p=true){u n:Int}(a:n % 4=0):cK u p≠n:=by
 unfold d6 at h
 unfold cK
 split at h
 ·simp only [beq_iff_eq] at h
  split<;>(try split)<;>(try split)<;>omega
 ·simp only [Tw,beq_iff_eq] at h
  split<;>(try split)<;>(try split)<;>omega
theorem SI {p:Int×Int}(h:d6 p=true){u n:Int}(c:n % 4=0):d6 (aO (bF u n) p)=true:=by
 obtain ⟨x,y⟩:=p
 have q:∀ a b:Int,(a % 2=1/\b % 4=2)\/(a % 4=2/\b % 2=1)->d6 (a,b)=true:=fun a b z=>by
  unfold d6
  dsimp only
  split
  ·rw [beq_iff_eq];omega
  ·rw [Tw,beq_iff_eq,beq_iff_eq];omega
 have r:(x % 2=1/\y % 4=2)\/(x % 4=2/\y % 2=1):=by
  unfold d6 at h
  dsimp only at h
  split at h
  ·rw [beq_iff_eq] at h;omega
  ·rw [Tw,beq_iff_eq,beq_iff_eq] at h;omega
 unfold bF
 split
 ·show d6 (1 * x+0 * y+0,0 * x+(-1) * y+2 * n)=true
  exact q _ _ (by omega)
 ·split
  ·show d6 ((-1) * x+0 * y+2 * n,0 * x+1 * y+0)=true
   exact q _ _ (by omega)
  ·split
   ·show d6 (0 * x+1 * y+n,1 * x+0 * y+-n)=true
    exact q _ _ (by omega)
   ·show d6 (0 * x+(-1) * y+n,(-1) * x+0 * y+n)=true
    exact q _ _ (by omega)
noncomputable def iW (u n:Int)(Z:Zr):List Int:=(Z.map (·.1)).map fun p=>iA (cK u p - n)
theorem FH (a:Hm)(x:Int):∀ ws:List Int,jZ a (.int x) (ws.map D.int)=some (ws.any fun w=>w == x)
 | []=>rfl
 | w::ws=>by
  rw [TM,Wf]
  show (cR 8 a (.int w) (.int x)).bind _=_
  have e:cR 8 a (.int w) (.int x)=some (w == x):=rfl
  rw [e,FH a x ws]
  rfl
theorem SJ {b:Hm}{a:Nat}{x:Int}{ws:List Int}{Q:D×Hm->Prop}(h:b[a]? = some (.lst (ws.map D.int))):W (cM true (.int x) (.loc a) b) Q↔Q (.bl (!(ws.any fun w=>w == x)),b):=by
 have c:bO b (.loc a)=some (ws.map D.int):=by simp only [bO,h]
 have:cM true (.int x) (.loc a) b=some (.bl (!(ws.any fun w=>w == x)),b):=by
  simp only [cM,kX,h,c,T9,FH,Us,if_true]
 rw [this]
 exact W_some
theorem Ag (k:Nat){b:Hm}{p:Nat}{Z:Zr}(g:b[p]? = some (.dT (aQ Z)))(o:Z.length<=100){e:Int×Int}{u n:Int}(E:OnL e u n){m:MS}(Q:Fl×aF×Hm->Prop)
  (H:∀ t a,b <+: a->a[t]? = some (.lst ((iW u n Z).map D.int))->Q (.nx,[some (.loc p),some (PP e),some (.loc t)],a)) :
  W (dY 0 (aP 2 (gZ (gH (aA 0)) i0 (aI (f (k+2) "hand_of") (aB (aA 3) (aB (aA 1) aD))))) m [some (.loc p),some (PP e),none] b) Q:=by
 have h:p<b.length:=(TB.mp g).1
 have i:(b.set p (.dF (aQ Z)))[p]? = some (.dF (aQ Z)):=Ug h
 refine z5 (a:=p) rfl g ?_
 rw [cC]
 refine t5 (xs:=(Z.map (·.1)).map PP) (p:=fun _=>true) (v:=fun d=>.int (iA (cK u (lL d) - n))) ?_
 rw [z6 (a:=p) rfl i,uE,W_some]
 refine ⟨Ed,rfl,by rw [TF,TF,UW];omega,fun d a hd c=>w_mTrue.mpr ⟨rfl,VR _⟩,fun d a hd _ c=>?_,fun a c j=>?_⟩
 ·obtain ⟨q,_,rfl⟩:=TX.mp hd
  simp only [Vq,WS,bQ,aX,aT,aH,aK]
  exact (uG k E _ _).mpr ⟨rfl,VR _⟩
 ·refine ⟨aS c i,?_⟩
  dsimp only
  have l:(((Z.map (·.1)).map PP).filter fun _=>true).map (fun d=>D.int (iA (cK u (lL d) - n)))=(iW u n Z).map D.int:=by
   rw [List.filter_eq_self.mpr (fun _ _=>rfl)]
   unfold iW
   simp only [Uh]
   rfl
  rw [l,Ut] at j
  rw [Ut]
  exact H _ _ (zX g c) (by rw [TQ (by omega)];exact j)
noncomputable def mY (u n:Int)(Z:Zr):Bool:=!((iW u n Z).any fun w=>w == 1)||!((iW u n Z).any fun w=>w == -1)
theorem uM {a:Hm}{t:Nat}{b c:Option D}{u n:Int}{Z:Zr}(g:a[t]? = some (.lst ((iW u n Z).map D.int)))(Q:Bool×Hm->Prop) :
  W (eV (aR (aC (cM true) (mC (.int 1)) (aA 2))) (aR (aC (cM true) (cJ (mC (.int 1))) (aA 2))) [b,c,some (.loc t)] a) Q↔Q (mY u n Z,a):=by
 simp only [lK,dP,bA,bB,zH,aH,aK,SJ g]
 unfold mY
 cases !((iW u n Z).any fun w=>w == 1)<;>simp
theorem SK (k:Nat){b:Hm}{p:Nat}{Z:Zr}(g:b[p]? = some (.dT (aQ Z)))(d:Z.length<=100){e:Int×Int}{u n:Int}(E:OnL e u n)(hB:mY u n Z=false)(Q:D×Hm->Prop)(H:∀ a,b <+: a->Q (.non,a)):W (f (k+3) "check_fold" [.loc p,PP e] b) Q:=by
 rw [Q1,W_fin,w_mSeq]
 refine Ag k g d E _ fun t i h c=>?_
 simp only [cU]
 refine (uM c _).mpr ?_
 rw [hB]
 simp only [TY,if_false,dE]
 exact H _ h
theorem SM (k:Nat){b:Hm}{p:Nat}{Z:Zr}(g:b[p]? = some (.dT (aQ Z)))(d:Z.length<=100){e:Int×Int}{u n:Int}(E:OnL e u n)(hB:mY u n Z=true)(Q:Xn×Hm->Prop)(H:∀ a,b <+: a->Q (("NoFold",[]),a)):W (Lw.g (k+3) "check_fold" [.loc p,PP e] b) Q:=by
 rw [Er,Ep]
 refine Eo rfl (Ag k g d E _ fun t i h c=>⟨rfl,t8 (w_rIf.mpr ((uM c _).mpr ?_))⟩)
 rw [hB]
 dsimp only
 rw [if_pos rfl]
 exact t8 (w_rRaise.mpr (by simp only [aX,aT,bB];exact H _ h))
theorem SN (k:Nat){b:Hm}{p:Nat}{Z:Zr}(g:b[p]? = some (.dT (aQ Z)))(c:Z.length<=100){e:Int×Int}{u n:Int}(E:OnL e u n)(hB:mY u n Z=false):Lw.g (k+3) "check_fold" [.loc p,PP e] b=none:=by
 rw [Er]
 refine FF (Af rfl (Ag k g c E _ fun t d h a=>Af (SG ((uM a _).mpr ?_)) ?_))
 ·rw [hB]
  rfl
 ·simp only [cU]
  refine (uM a _).mpr ?_
  rw [hB]
  simp only [TY,if_false,dE]
  rfl
theorem Ah {a:Type}{p q:a->Bool}:∀ {l:List a},(∀ z∈l,p z=q z)->l.any p=l.any q
 | [],_=>rfl
 | x::l,h=>by rw [Wf,Wf,h x (UP ..),Ah fun z b=>h z (UB _ b)]
theorem FI {u n:Int}{Z:Zr}(a:Bool)(h:∀ z∈Z,cK u z.1≠n):mY u n Z=kK Z (aZ u n a):=by
 have one:((iW u n Z).any fun w=>w == 1)=Z.any fun z=>decide (n<cK u z.1):=by
  unfold iW
  rw [YT,YT]
  refine Ah fun z b=>?_
  show (iA (cK u z.1 - n) == 1)=_
  unfold iA
  by_cases c:n<cK u z.1
  ·rw [if_pos (by omega),decide_eq_true c];rfl
  ·rw [if_neg (by omega),decide_eq_false c];split<;>rfl
 have two:((iW u n Z).any fun w=>w == -1)=Z.any fun z=>!decide (n<cK u z.1):=by
  unfold iW
  rw [YT,YT]
  refine Ah fun z b=>?_
  have:=h z b
  show (iA (cK u z.1 - n) == -1)=_
  unfold iA
  by_cases c:n<cK u z.1
  ·rw [if_pos (by omega),decide_eq_true c];rfl
  ·rw [if_neg (by omega),if_pos (by omega),decide_eq_false c];rfl
 have d:((Z.map (·.1)).filter (aZ u n a)).isEmpty = !(Z.any fun z=>aZ u n a z.1):=by
  rw [uK]
  rw [Xv]
  simp [List.isEmpty_iff,Wo,YU]
 have e:(((Z.map (·.1)).filter (aZ u n a)).length == Z.length) = !(Z.any fun z=>!aZ u n a z.1):=by
  rw [uK,TF,Xv,beq_iff_eq,List.length_filter_eq_length_iff]
  simp [YU]
 unfold mY kK
 rw [one,two,d,e]
 unfold aZ
 cases a with
 | true=>simp only [beq_true]
 | false=>
  simp only [beq_false,Bool.not_not]
  rw [Bool.or_comm]
structure StZ (μ:Hm)(b:Nat)(d:D)(F:Int×Int->Ly)(qs:List (Int×Int))(G:Gr):Prop where
 ex:∃ l p Z,d=.tup [.loc l,.loc p]/\μ[l]? = some (.dT (aY (fun q=>LD (F q)) qs))/\HI μ p Z/\μ[p]? = some (.dT (aQ Z))/\GZ Z=G/\∀ z∈Z,z.2.2≠b
theorem StZ.keep {m a:Hm}{b:Nat}{d:D}{F:Int×Int->Ly}{qs:List (Int×Int)}{G:Gr}{xs:List D}(S:StZ m b d F qs G)(n:m[b]? = some (.lst xs))(h:∀ (c:Nat)(y:C),c≠b->m[c]? = some y->a[c]? = some y):StZ a b d F qs G:=by
 obtain ⟨l,p,Z,e,i,I,j,s,r⟩:=S.ex
 have o:=h p _ (fun e=>by rw [e,n] at j;cases j) j
 exact ⟨l,p,Z,e,h l _ (fun e=>by rw [e,n] at i;cases i) i,⟨.inl o,I.kd,fun z q=>h _ _ (r z q) (I.at_ z q)⟩,o,s,r⟩
theorem StZ.more {c a:Hm}{b:Nat}{d:D}{F:Int×Int->Ly}{qs:List (Int×Int)}{G:Gr}(S:StZ c b d F qs G)(h:c <+: a):StZ a b d F qs G:=by
 obtain ⟨l,p,Z,e,j,I,m,i,n⟩:=S.ex
 exact ⟨l,p,Z,e,aS h j,I.more h,aS h m,i,n⟩
theorem StZ.new {c:Hm}{b l p n:Nat}{F:Int×Int->Ly}{qs:List (Int×Int)}{Z:Zr}(g:c[l]? = some (.dT (aY (fun q=>LD (F q)) qs)))(J:Pz c n p Z)(d:b<n):StZ c b (.tup [.loc l,.loc p]) F qs (GZ Z):=
 ⟨l,p,Z,rfl,g,⟨.inl J.dic,J.kd,fun z a=>(J.at_ z a).2⟩,J.dic,rfl,fun z a e=>by have:=(J.at_ z a).1;omega⟩
structure Gd (qs:List (Int×Int))(F:Int×Int->Ly)(G:Gr):Prop where
 di:∀ q,Dih (F q)
 pl:Pil qs (fun q=>aO (F q) q) G
 qr:∀ q∈qs,d6 (aO (F q) q)=true
theorem Gd.fold {qs:List (Int×Int)}{F:Int×Int->Ly}{G:Gr}(h:Gd qs F G){u n:Int}(c:n % 4=0)(a o:Bool):Gd qs (bR u n a F) (kJ (aZ u n a) (aO (bF u n)) o G):=by
 refine ⟨RX h.di,?_,fun q b=>?_⟩
 ·have:=RT h.pl (mv:=aZ u n a) (RQ u n) o
  rw [show (fun q=>aO (bR u n a F q) q)=fun q=>if aZ u n a (aO (F q) q) then aO (bF u n) (aO (F q) q) else aO (F q) q from funext fun q=>Fg u n a F q]
  exact this
 ·rw [Fg]
  split
  ·exact SI (h.qr q b) c
  ·exact h.qr q b
theorem Gd.key {qs:List (Int×Int)}{F:Int×Int->Ly}{Z:Zr}(h:Gd qs F (GZ Z)):(∀ q∈qs,aO (F q) q∈Z.map (·.1))/\(∀ z∈Z,d6 z.1=true)/\Z.length<=qs.length/\∀ z∈Z,z.2.1.length<=qs.length:=by
 refine ⟨fun q a=>?_,fun z b=>?_,h.pl.lenZ.1,fun z b=>(h.pl.lenZ.2 z b).2⟩
 ·rw [<- kI]
  exact h.pl.key.mpr ⟨q,a,rfl⟩
 ·have:z.1∈(GZ Z).map (·.1):=by rw [kI];exact TX.mpr ⟨z,b,rfl⟩
  obtain ⟨q,a,e⟩:=h.pl.key.mp this
  rw [<- e]
  exact h.qr q a
noncomputable def lR (G:Gr)(mv:Int×Int->Bool):Bool:=((G.map (·.1)).filter mv).isEmpty||(((G.map (·.1)).filter mv).length == G.length)
theorem uN (Z:Zr)(mv:Int×Int->Bool):kK Z mv=lR (GZ Z) mv:=by
 unfold kK lR
 rw [kI,iU]
noncomputable abbrev iB (w h:Int)(b:Nat):List (Str×D):=[("wide",.int w),("high",.int h),("states",.loc b)]
theorem SO {a:Type}(xs:List a)(d:a):atI (xs++[d]) (-1)=some d:=by
 unfold atI kP
 rw [if_neg (by decide),if_pos (by rw [TV,U3];omega)]
 show (xs++[d])[_]? = _
 rw [show ((-1:Int)+((xs++[d]).length:Int)).toNat=xs.length by rw [TV,U3];omega]
 simp
theorem rD {a:Hm}{o b:Nat}{w h:Int}{xs:List D}{d:D}{r:aF}(i1:a[o]? = some (.ins "Folding" (iB w h b))) (i2:a[b]? = some (.lst (xs++[d])))(Q:D×Hm->Prop)(H:Q (d,a)):W ((aC aG (eX "Folding" "states" (aA 0)) (cJ (mC (.int 1)))) (some (.loc o)::r) a) Q:=by
 rw [bA]
 refine Ad ?_
 simp only [aH]
 refine ⟨o,_,_,rfl,i1,rfl,?_⟩
 simp only [zH,bB]
 exact (tX i2 (SO xs d)).mpr H
theorem SQ (k:Nat){a:Hm}{o b:Nat}{w h:Int}{xs:List D}{d:D}(i1:a[o]? = some (.ins "Folding" (iB w h b))) (i2:a[b]? = some (.lst (xs++[d])))(Q:D×Hm->Prop)(H:Q (.int xs.length,a)):W (f (k+1) "Folding.many" [.loc o] a) Q:=by
 rw [Rj,W_fin]
 simp only [w_mRet,bA,bQ,aX,aT]
 refine Ad ?_
 simp only [aH]
 refine ⟨o,_,_,rfl,i1,rfl,?_⟩
 refine (zM i2).mpr ?_
 simp only [bB,mW]
 rw [show (((xs++[d]).length:Nat):Int) - 1=xs.length by rw [TV,U3];omega]
 exact H
theorem SR (k:Nat){a:Hm}{o b l p:Nat}{w h:Int}{xs:List D}{F:Int×Int->Ly}{qs:List (Int×Int)}(c:qs≠[])(d:(qs.map fun q=>Tb.hashT (b6 q)).Nodup)(i1:a[o]? = some (.ins "Folding" (iB w h b))) (i2:a[b]? = some (.lst (xs++[.tup [.loc l,.loc p]])))(g:a[l]? = some (.dT (aY (fun q=>LD (F q)) qs)))(Q:D×Hm->Prop)
  (H:Q (.loc a.length,a++[.dT (aY (fun q=>LD (F q)) qs)])):W (f (k+1) "Folding.layings" [.loc o] a) Q:=by
 rw [Rk,W_fin]
 simp only [w_mRet,bQ,aX,aT]
 rw [bA]
 refine rD i1 i2 _ ?_
 simp only [bB,jH]
 refine (EW g ⟨?_,?_⟩).mpr H
 ·intro e
  have:=congrArg UJ e
  rw [TF] at this
  exact c (X9.mp this)
 ·rw [Uh]
  exact d
theorem SS (k:Nat){a:Hm}{o b l p:Nat}{w h:Int}{xs:List D}{Z:Zr}(i1:a[o]? = some (.ins "Folding" (iB w h b))) (i2:a[b]? = some (.lst (xs++[.tup [.loc l,.loc p]])))(I:HI a p Z)(g:a[p]? = some (.dT (aQ Z)))(c:Z.length<=1000)(Q:D×Hm->Prop)
  (H:Q (.loc a.length,a++(.dT (aQ (b9 (a.length+1) Z))::Z.map fun z=>C.lst (z.2.1.map PP)))):W (f (k+2) "Folding.piles" [.loc o] a) Q:=by
 rw [Rl,W_fin]
 simp only [w_mRet,bQ,aX,aT]
 rw [bA]
 refine rD i1 i2 _ ?_
 simp only [bB,fW]
 exact Sj k I g c _ H
theorem FJ {qs:List (Int×Int)}{F:Int×Int->Ly}{Z:Zr}(G:Gd qs F (GZ Z)){u n:Int}(a:n % 4=0):(∀ q∈qs,cK u (aO (F q) q)≠n)/\∀ z∈Z,cK u z.1≠n:=⟨fun q b=>FG (G.qr q b) a,fun z hz=>FG (G.key.2.1 z hz) a⟩
theorem SU (k:Nat){m:Hm}{o b:Nat}{w h:Int}{xs:List D}{d:D}{F:Int×Int->Ly}{qs:List (Int×Int)}{G:Gr}(nd:qs.Nodup)(hl:qs.length<=36)(i1:m[o]? = some (.ins "Folding" (iB w h b))) (i2:m[b]? = some (.lst (xs++[d])))(hx:xs.length<=1000)(S:StZ m b d F qs G)(K:Gd qs F G)
  {e:Int×Int}{u n:Int}(E:OnL e u n)(hn:n % 4=0){a ov:Bool}(hN:lR G (aZ u n a)=false)(Q:D×Hm->Prop)
  (H:∀ O j,(∀ (c:Nat)(y:C),c≠b->m[c]? = some y->j[c]? = some y)->j[b]? = some (.lst (xs++[d]++[O]))->StZ j b O (bR u n a F) qs (kJ (aZ u n a) (aO (bF u n)) ov G)->Q (.non,j)) :
  W (f (k+5) "Folding.fold" [.loc o,PP e,.bl a,.bl ov] m) Q:=by
 obtain ⟨l,p,Z,rfl,g1,I,R,rfl,nb⟩:=S.ex
 obtain ⟨v1,T⟩:=FJ K (u:=u) hn
 obtain ⟨_,_,lZ,Y⟩:=K.key
 rw [Rh,W_fin,w_mSeq,cC]
 refine rD i1 i2 _ ?_
 simp only [TJ,TK,w_mSeq,mV,bQ,aX,aT,bA,bB,fW,aH,aK]
 refine SK (k+1) R (by omega) E (by rw [FI a T,uN];exact hN) _ fun i x=>?_
 have ib:b<m.length:=(TB.mp i2).1
 simp only [cC,qT,iP,aH,aK,hW]
 have step:∀ Q:D×Hm->Prop,Q (.int (sd a),i)->(if a=true then W ((mC (.int 1)) [some (.loc o),some (PP e),some (.bl a),some (.bl ov),some (.tup [.loc l,.loc p]),none] i) Q else W ((cJ (mC (.int 1))) [some (.loc o),some (PP e),some (.bl a),some (.bl ov),some (.tup [.loc l,.loc p]),none] i) Q):=fun Q h=>by
  cases a with
  | true=>exact W_some.mpr h
  | false=>exact W_some.mpr h
 refine step _ ?_
 simp only [TJ,TK]
 refine t7 (Ad ?_)
 simp only [aH]
 have L:=aS x i2
 refine ⟨o,_,_,rfl,aS x i1,rfl,by simp only [j0,L],?_⟩
 simp only [aX,aT,fV,bQ,bA,bB,jH,fW,aH,aK]
 refine Si k K.di nd (by omega) E v1 (aS x g1) _ ?_
 have r:m <+: i++[C.dT (aY (fun q=>LD (bR u n a F q)) qs)]:=x.trans (bE _ _)
 have gl:(i++[C.dT (aY (fun q=>LD (bR u n a F q)) qs)])[i.length]? = some (.dT (aY (fun q=>LD (bR u n a F q)) qs)):=cB _ _
 have hge:m.length<=i.length:=x.length_le
 have s:(i++[C.dT (aY (fun q=>LD (bR u n a F q)) qs)]).length=i.length+1:=by rw [TV];rfl
 generalize i++[C.dT (aY (fun q=>LD (bR u n a F q)) qs)]=μ2 at r gl s
 refine Sr (k+1) (I.more r) (aS r R) (by omega) (fun z v=>by have:=Y z v;omega) E T _ fun X A B J e3=>?_
 refine ⟨eT,(zL (aS (r.trans B) i2) (by rw [TV,U3,UW];omega)).mpr ?_⟩
 have M:b<A.length:=Uj ib (r.trans B).length_le
 have ne:i.length≠b:=by omega
 have N:μ2.length≠b:=by omega
 refine H _ _ (fun c y hc h=>by rw [TQ (UG hc)];exact aS (r.trans B) h) (Ug M) ?_
 have U:Pz (A.set b (.lst (xs++[.tup [.loc l,.loc p]]++[.tup [.loc i.length,.loc μ2.length]]))) μ2.length μ2.length X:=
  ⟨by rw [TQ (UG N)];exact J.dic,J.kd,fun z v=>⟨(J.at_ z v).1,by rw [TQ (by have:=(J.at_ z v).1;omega)];exact (J.at_ z v).2⟩⟩
 have:=StZ.new (b:=b) (l:=i.length) (F:=bR u n a F) (qs:=qs) (by rw [TQ (UG ne)];exact aS B gl) U (by omega)
 rw [e3] at this
 exact this
noncomputable abbrev Ai:Xn:=("NoFold",[])
theorem SV (k:Nat){c:Hm}{o b:Nat}{w h:Int}{xs:List D}{d:D}{F:Int×Int->Ly}{qs:List (Int×Int)}{G:Gr}(O:qs.length<=36)(i1:c[o]? = some (.ins "Folding" (iB w h b))) (i2:c[b]? = some (.lst (xs++[d])))(S:StZ c b d F qs G)(z:Gd qs F G)
  {e:Int×Int}{u n:Int}(E:OnL e u n)(H:n % 4=0){a ov:Bool} :
  (lR G (aZ u n a)=true->∃ i,g (k+4) "Folding.fold" [.loc o,PP e,.bl a,.bl ov] c=some (Ai,i)/\c <+: i)/\(lR G (aZ u n a)=false->g (k+4) "Folding.fold" [.loc o,PP e,.bl a,.bl ov] c=none):=by
 obtain ⟨l,p,Z,rfl,N,I,A,rfl,T⟩:=S.ex
 obtain ⟨U,K⟩:=FJ z (u:=u) H
 obtain ⟨_,_,R,M⟩:=z.key
 rw [<- uN,<- FI a K,Ri]
 have j:∀ Q:List D×Hm->Prop,Q ([.loc p,PP e],c)->W ((aB (aC aG (aA 4) (mC (.int 1))) (aB (aA 1) aD)) [some (.loc o),some (PP e),some (.bl a),some (.bl ov),some (.tup [.loc l,.loc p]),none] c) Q:=fun Q h=>by
  simp only [aX,aT,bA,bB,fW,aH,aK]
  exact h
 constructor
 ·intro v
  have:W (qS ((c9 (aP 4 (aC aG (eX "Folding" "states" (aA 0)) (cJ (mC (.int 1))))) bX (c9 (dS (aI (f (k+3) "check_fold") (aB (aC aG (aA 4) (mC (.int 1))) (aB (aA 1) aD)))) (mF (Lw.g (k+3) "check_fold") (aB (aC aG (aA 4) (mC (.int 1))) (aB (aA 1) aD))) (c9 (aP 5 (f6 (dX (aA 2)) (mC (.int 1)) (cJ (mC (.int 1))))) bX (c9 (dS (gD g7 (eX "Folding" "states" (aA 0)) (aB (bT (aB (aI (f (k+3) "folded_layings") (aB (aC aG (aA 4) (mC (.int 0))) (aB (aA 1) (aB (aA 5) aD)))) (aB (aI (f (k+3) "folded_piles") (aB (aC aG (aA 4) (mC (.int 1))) (aB (aA 1) (aB (aA 5) (aB (aA 3) aD))))) aD))) aD))) bX bX)))) [some (.loc o),some (PP e),some (.bl a),some (.bl ov),none,none] c)) fun r=>r.1=Ai/\c <+: r.2:=by
   rw [Ep]
   refine Eo rfl ?_
   rw [cC]
   refine rD i1 i2 _ ⟨rfl,t8 (w_rCall.mpr (j _ (SM k A (by omega) E v _ fun y J=>⟨rfl,J⟩)))⟩
  obtain ⟨⟨x,i⟩,s,m,B⟩:=this
  dsimp only at m B
  subst m
  exact ⟨i,s,B⟩
 ·intro v
  refine FF (Af rfl ?_)
  rw [cC]
  refine rD i1 i2 _ (rSeq_no' ?_ fun q _ _=>rSeq_no' rfl fun q _ _=>rSeq_no' rfl fun q _ _=>rfl)
  obtain ⟨⟨L,y⟩,s,m⟩:=j (fun r=>r=([.loc p,PP e],c)) rfl
  cases m
  unfold mF
  dsimp only [TJ,TK]
  rw [s,T9,SN k A (by omega) E v]
  rfl
theorem SW (k:Nat){w h:Int}(hw:1<=w/\w<=3)(c:1<=h/\h<=3)(b:Hm)(Q:D×Hm->Prop)(H:∀ l p S a,b <+: a->a[l]? = some (.dT (aY (fun _=>LD dG) (dZ w h)))->Pz a b.length p S->GZ S=gM (dZ w h)->Q (.tup [.loc l,.loc p],a)) :
  W (f (k+2) "_law_begun" [.int w,.int h] b) Q:=by
 obtain ⟨_,m,n,j,_,_⟩:=rC w (jK hw) h (jK c)
 rw [Q8,W_fin]
 simp only [w_mSeq,cC,oP,TJ,TK,iR,oM,bQ,aX,aT,aH,aK]
 refine RK k w h hw c _ _ ((oO (cB _ _)).mpr ?_)
 refine FE (me:=bT (aB (mC (.int 1)) (aB (mC (.int 0)) (aB (mC (.int 0)) (aB (mC (.int 1)) (aB (mC (.int 0)) (aB (mC (.int 0)) aD))))))) (fun o b Q=>W_some) (μ0:=b) j (by omega) (((bE _ _).trans (bE _ _)).trans (bE _ _)) (TR _) (by rw [TV];omega) (by rw [TV];exact Ui (VG _)) ?_ ?_ (cB _ _) _ fun x S a i e J d=>?_
 ·exact aS ((bE _ _).trans (bE _ _)) (cB _ _)
 ·exact aS (bE _ _) (cB _ _)
 ·simp only [w_mRet,fV,aX,aT,aH,aK]
  exact ⟨eT,H _ _ S a i e J d⟩
theorem SX (k:Nat){w h:Int}(hw:1<=w/\w<=3)(i:1<=h/\h<=3)(b:Hm)(Q:D×Hm->Prop)(H:∀ l p S a,b <+: a->a[l]? = some (.dT (aY (fun _=>LD dG) (dZ w h)))->Pz a b.length p S->GZ S=gM (dZ w h)->Q (.tup [.loc l,.loc p],a)) :
  W (f (k+3) "unfolded" [.int w,.int h] b) Q:=by
 obtain ⟨q,u,v,r,_,_⟩:=rC w (jK hw) h (jK i)
 rw [Q2,W_fin]
 simp only [w_mSeq,cC,oP,TJ,TK,iR,oM,bQ,aX,aT,aH,aK]
 refine SH k w h hw i _ _ fun c s e d=>?_
 rw [q] at d
 refine (oO d).mpr ?_
 have m:(b++[C.dT []]).length=b.length+1:=by rw [TV];rfl
 refine FE (me:=mC zQ) (fun y b Q=>W_some) (μ0:=b) r (by omega) (((bE _ _).trans (bE _ _)).trans e) (TR _) (by omega) (by rw [m];exact Ui (VG _)) ?_ ?_ d _ fun x S a o n J j=>?_
 ·exact aS ((bE _ _).trans e) (cB _ _)
 ·exact aS e (cB _ _)
 ·simp only [w_mRet,fV,aX,aT,aH,aK]
  exact ⟨eT,H _ _ S a o n J j⟩
theorem SY (a:D):gE "wide" a []=([("wide",a)]:List (Str×D)):=rfl
theorem S1 (a b:D):gE "high" b [("wide",a)]=([("wide",a),("high",b)]:List (Str×D)):=by
 unfold gE
 rw [if_neg (by decide)]
 rfl
theorem S3 (a b c:D):gE "states" c [("wide",a),("high",b)]=([("wide",a),("high",b),("states",c)]:List (Str×D)):=by
 unfold gE
 rw [if_neg (by decide)]
 unfold gE
 rw [if_neg (by decide)]
 rfl
theorem S4 (k:Nat){w h:Int}(hw:1<=w/\w<=3)(v:1<=h/\h<=3)(j:Hm)(Q:D×Hm->Prop)
  (H:∀ b d i,j <+: i->b<i.length->i[j.length]? = some (.ins "Folding" (iB w h b))->i[b]? = some (.lst [d])->StZ i b d (fun _=>dG) (dZ w h) (gM (dZ w h))->Q (.non,i)):W (f (k+5) "Folding" [.loc j.length,.int w,.int h] (j++[.ins "Folding" []])) Q:=by
 rw [Rm,Rg,W_fin]
 simp only [w_mSeq,mV,bQ,aX,aT,aH,aK]
 refine Sf k (by omega) (by omega) _ _ ?_
 refine Ae ?_
 simp only [aH,aK]
 refine ⟨_,_,rfl,cB _ _,by decide,?_⟩
 rw [zT,SY]
 try dsimp only
 refine Ae ?_
 simp only [aH,aK]
 refine ⟨_,_,rfl,cB _ _,show (1:Nat)<100 by decide,?_⟩
 rw [zT,S1]
 try dsimp only
 refine Ae ?_
 simp only [fJ,bQ,aX,aT,aH,aK]
 refine SX k hw v _ _ fun l p S a o q J u=>⟨qW,_,_,rfl,aS (o.trans (bE _ _)) (cB _ _),show (2:Nat)<100 by decide,?_⟩
 rw [S3]
 have o1:j.length<a.length:=by
  have:=o.length_le
  rw [TV] at this
  exact this
 have ne:a.length≠j.length:=by omega
 have x:j <+: (a++[C.lst [.tup [.loc l,.loc p]]]).set j.length (.ins "Folding" (iB w h a.length)):=gL (((bE _ _).trans o).trans (bE _ _)) (TR _) _
 have m:∀ (c:Nat)(y:C),c≠j.length->a[c]? = some y->((a++[C.lst [.tup [.loc l,.loc p]]]).set j.length (.ins "Folding" (iB w h a.length)))[c]? = some y:=fun c y hc e=>by rw [TQ (UG hc)];exact aS (bE _ _) e
 have r:a[j.length]? = some (.ins "Folding" [("wide",.int w),("high",.int h)]):=aS o (cB _ _)
 have s:=m p _ (fun e=>by have:=J.dic;rw [e,r] at this;cases this) J.dic
 refine H a.length _ _ x (by rw [Ut,TV];exact VG _) (Ug (Uj o1 (bE a _).length_le)) (by rw [TQ (UG ne)];exact cB _ _) ⟨l,p,S,rfl,m l _ (fun e=>by rw [e,r] at q;cases q) q,⟨.inl s,J.kd,fun z n=>m _ _ (fun e=>by have:=(J.at_ z n).2;rw [e,r] at this;cases this) (J.at_ z n).2⟩,s,u,fun z n e=>?_⟩
 have:=(TB.mp (J.at_ z n).2).1
 omega
noncomputable def oX (u n j:Int):Int×Int:=if u=0 then (2+4 * j,n) else if u=1 then (n,2+4 * j) else if u=2 then (n+1+2 * j,1+2 * j) else (1+2 * j,n - 1 - 2 * j)
theorem uO {e:Int×Int}{A:Ly}(m:∀ p,dJ p e=aO A p):uB e=A:=by
 unfold uB
 rw [m (1,0),m (0,0),m (0,1)]
 unfold aO
 refine Ly.ext' ?_ ?_ ?_ ?_ ?_ ?_<;>(dsimp only;omega)
theorem S6 {u n:Int}(a:0<=u/\u<4)(b:n % 4=0)(j:Int):OnL (oX u n j) u n:=by
 have c:u=0\/u=1\/u=2\/u=3:=by omega
 rcases c with rfl|rfl|rfl|rfl
 ·have e:oX 0 n j=(2+4 * j,n):=rfl
  have m:∀ p,dJ p (2+4 * j,n)=aO (bF 0 n) p:=fun p=>by
   unfold dJ
   rw [if_neg (by dsimp only;omega),if_pos b]
   show (p.1,2 * n - p.2)=(1 * p.1+0 * p.2+0,0 * p.1+(-1) * p.2+2 * n)
   congr 1<;>omega
  rw [e]
  refine ⟨a,fun p=>?_,rfl,m,?_⟩
  ·unfold hX
   rw [if_neg (by dsimp only;omega),if_pos b]
   rfl
  ·exact uO m
 ·have e:oX 1 n j=(n,2+4 * j):=rfl
  have m:∀ p,dJ p (n,2+4 * j)=aO (bF 1 n) p:=fun p=>by
   unfold dJ
   rw [if_neg (by dsimp only;omega),if_neg (by dsimp only;omega)]
   show (2 * n - p.1,p.2)=((-1) * p.1+0 * p.2+2 * n,0 * p.1+1 * p.2+0)
   congr 1<;>omega
  rw [e]
  refine ⟨a,fun p=>?_,rfl,m,?_⟩
  ·unfold hX
   rw [if_neg (by dsimp only;omega),if_neg (by dsimp only;omega)]
   rfl
  ·exact uO m
 ·have e:oX 2 n j=(n+1+2 * j,1+2 * j):=rfl
  have m:∀ p,dJ p (n+1+2 * j,1+2 * j)=aO (bF 2 n) p:=fun p=>by
   unfold dJ
   rw [if_pos (by dsimp only;omega),if_pos (by dsimp only;omega)]
   show (p.2+(n+1+2 * j - (1+2 * j)),p.1 - (n+1+2 * j - (1+2 * j)))=(0 * p.1+1 * p.2+n,1 * p.1+0 * p.2+-n)
   congr 1<;>omega
  rw [e]
  refine ⟨a,fun p=>?_,?_,m,?_⟩
  ·unfold hX
   rw [if_pos (by dsimp only;omega),if_pos (by dsimp only;omega)]
   rfl
  ·show n+1+2 * j - (1+2 * j)=n
   omega
  ·exact uO m
 ·have e:oX 3 n j=(1+2 * j,n - 1 - 2 * j):=rfl
  have m:∀ p,dJ p (1+2 * j,n - 1 - 2 * j)=aO (bF 3 n) p:=fun p=>by
   unfold dJ
   rw [if_pos (by dsimp only;omega),if_neg (by dsimp only;omega)]
   show (1+2 * j+(n - 1 - 2 * j) - p.2,1+2 * j+(n - 1 - 2 * j) - p.1)=(0 * p.1+(-1) * p.2+n,(-1) * p.1+0 * p.2+n)
   congr 1<;>omega
  rw [e]
  refine ⟨a,fun p=>?_,?_,m,?_⟩
  ·unfold hX
   rw [if_pos (by dsimp only;omega),if_neg (by dsimp only;omega)]
   rfl
  ·show 1+2 * j+(n - 1 - 2 * j)=n
   omega
  ·exact uO m
theorem S7 {a:Hm}{Q:D×Hm->Prop}:W (gW (.int 10) (.int 58) a) Q↔Q (.int (10 ^ 58),a):=D8 (by decide)
theorem S8 {a:Hm}{Q:D×Hm->Prop}:W (gW (.int 10) (.int 57) a) Q↔Q (.int (10 ^ 57),a):=D8 (by decide)
theorem S9 {u n j:Int}(a:0<=u/\u<4):atI [P (2+4 * j) n,P n (2+4 * j),P (n+1+2 * j) (1+2 * j),P (1+2 * j) (n - 1 - 2 * j)] u=some (PP (oX u n j)):=by
 have:u=0\/u=1\/u=2\/u=3:=by omega
 rcases this with rfl|rfl|rfl|rfl<;>rfl
theorem Ta {ps:List (Int×Int)}{i:Int}(a:0<=i)(h:i<ps.length):∃ q,atI (ps.map PP) i=some (PP q):=by
 unfold atI
 rw [ED a (by rw [TF];exact h)]
 have b:i.toNat<ps.length:=by omega
 exact ⟨ps[i.toNat],by rw [T9,Um,Uw b];rfl⟩
theorem Tc (k:Nat){d:Hm}{p:Nat}{i:D}{Z:Zr}(g:d[p]? = some (.dT (aQ Z)))(hz:0<Z.length)(v b:Int)(Q:D×Hm->Prop)
  (H:∀ e u n a o l,d <+: l->OnL e u n->n % 4=0->Q (.tup [PP e,.tup [.int u,.int n],.bl a,.bl o],l)):W (f (k+2) "_law_plan" [.tup [i,.loc p],.int v,.int b] d) Q:=by
 have w:0<=v % 4/\v % 4<4:=⟨XD _ (by decide),W0 _ (by decide)⟩
 rw [Ra,W_fin]
 simp only [w_mSeq,cC,bQ,aX,aT,bA,bB,fW,aH,aK,dQ (show (0:Int)<4 by decide),TJ,TK]
 refine (zO g).mpr ?_
 have y:(aQ Z).map (fun k=>D.tup (k.1.map D.int))=(Z.map (·.1)).map PP:=by
  unfold aQ
  rw [Uh,Uh]
  rfl
 rw [y]
 simp only [TJ,TK,aH,aK,jF (show (0:Int)<64 by decide) (by decide),zM (cB d (C.lst ((Z.map (·.1)).map PP)))]
 have h:(0:Int)<(((Z.map (·.1)).map PP).length:Nat):=by rw [TF,TF];omega
 refine (dQ h).mpr ?_
 obtain ⟨q,A⟩:=Ta (ps:=Z.map (·.1)) (i:=v / 64 % (((Z.map (·.1)).map PP).length:Nat)) (XD _ (by omega)) (by have:=W0 (v / 64) h;rw [TF] at this ⊢;exact this)
 refine (tX (cB _ _) A).mpr ?_
 simp only [TJ,TK,aH,aK]
 refine Fu k q (v % 4) w _ _ fun c G=>?_
 simp only [jF (show (0:Int)<4 by decide) (by decide),Rq,dQ (show (0:Int)<2 by decide),iQ,aH,aK]
 have I:d <+: c:=(bE _ _).trans G
 generalize hn0:cK (v % 4) q / 4 * 4+v / 4 % 2 * 4=n0
 have z:n0 % 4=0:=by omega
 have E:W ((bI (aR (aC (a9 false) (aC bU (aC dU (aA 1) (mC (.int 8))) (mC (.int 7))) (mC (.int 3)))) (aP 6 (aC bS (mC (.int 4)) (aC cS (aC bU (aA 2) (aC bS (mC (.int 2)) (aC gW (mC (.int 10)) (mC (.int 58))))) (aC gW (mC (.int 10)) (mC (.int 58)))))) bJ) [some (.tup [i,.loc p]),some (.int v),some (.int b),some (.int (v % 4)),some (.loc d.length),some (PP q),some (.int n0),none,none] c)
   fun r=>∃ n:Int,n % 4=0/\r=(.nx,[some (.tup [i,.loc p]),some (.int v),some (.int b),some (.int (v % 4)),some (.loc d.length),some (PP q),some (.int n),none,none],c):=by
  simp only [cU,dP,bA,bB,aH,aK,jF (show (0:Int)<8 by decide) (by decide),dQ (show (0:Int)<7 by decide),w_eqI]
  split
  ·simp only [cC,bA,bB,aH,aK,S7]
   have m:(0:Int)<10 ^ 58:=by decide
   generalize (10:Int) ^ 58=t at m
   simp only [Es,dQ (show (0:Int)<2 * t by omega),mW,oQ,TJ,TK]
   exact ⟨_,by omega,rfl⟩
  ·simp only [dE]
   exact ⟨n0,z,rfl⟩
 refine bP E fun r ⟨n,x,s⟩=>?_
 subst s
 simp only [w_mSeq,cC,bA,bB,aH,aK,jF (show (0:Int)<3 by decide) (by decide),dQ (show (0:Int)<9 by decide),mW,TJ,TK]
 have B:W ((bI (aR (aC (a9 false) (aC bU (aC dU (aA 1) (mC (.int 56))) (mC (.int 5))) (mC (.int 2)))) (aP 7 (aC bU (aC dU (aA 2) (mC (.int 7))) (aC gW (mC (.int 10)) (mC (.int 57))))) bJ) [some (.tup [i,.loc p]),some (.int v),some (.int b),some (.int (v % 4)),some (.loc d.length),some (PP q),some (.int n),some (.int (b / 3 % 9 - 4)),none] c)
   fun r=>∃ j:Int,r=(.nx,[some (.tup [i,.loc p]),some (.int v),some (.int b),some (.int (v % 4)),some (.loc d.length),some (PP q),some (.int n),some (.int j),none],c):=by
  simp only [cU,dP,bA,bB,aH,aK,jF (show (0:Int)<56 by decide) (by decide),dQ (show (0:Int)<5 by decide),w_eqI]
  split
  ·simp only [cC,bA,bB,aH,aK,S8,jF (show (0:Int)<7 by decide) (by decide)]
   have m:(0:Int)<10 ^ 57:=by decide
   generalize (10:Int) ^ 57=t at m
   simp only [dQ m,TJ,TK]
   exact ⟨_,rfl⟩
  ·simp only [dE]
   exact ⟨_,rfl⟩
 refine bP B fun r ⟨j,s⟩=>?_
 subst s
 simp only [w_mSeq,cC,bA,bB,fJ,fV,aX,aT,aH,aK,oQ,Es,iQ,mW]
 refine ⟨eT,eT,eT,eT,(by show (4:Nat)<=TZ;decide),?_⟩
 refine (tX (cB _ _) (S9 w)).mpr ?_
 simp only [w_mRet,fV,aX,aT,bA,bB,aH,aK,jF (show (0:Int)<280 by decide) (by decide),jF (show (0:Int)<560 by decide) (by decide),dQ (show (0:Int)<2 by decide),w_eqI,TJ,TK]
 exact ⟨eT,(by show (4:Nat)<=TZ;decide),H _ _ _ _ _ _ (I.trans (bE _ _)) (S6 w x j) x⟩
theorem FK {b:Hm}{a:Nat}{c:List (List Int×D)}{Q:D×Hm->Prop}(h:b[a]? = some (.dT c)):W (f9 [.loc a,.ty "dict"] b) Q↔Q (.bl true,b):=by
 have:f9 [.loc a,.ty "dict"] b=some (.bl true,b):=by
  simp only [f9,rZ,h,T9]
  rfl
 rw [this]
 exact W_some
theorem FL {c:Hm}{a:Nat}{b:List (List Int×D)}{Q:D×Hm->Prop}(h:c[a]? = some (.dT b)):W (lE (.loc a) [] c) Q↔Q (.non,c.set a (.dT [])):=by
 simp only [lE,h]
 exact W_some
theorem Td (a:Hm)(A:Ly):cR 8 a (LD A) (LD A)=some true:=by
 show some (A.a == A.a&&(A.b == A.b&&(A.c == A.c&&(A.d == A.d&&(A.e == A.e&&(A.g == A.g&&true))))))=_
 simp
theorem FN (a:Hm){F:Int×Int->Ly}{qs:List (Int×Int)}(nd:qs.Nodup):∀ l:List (Int×Int),(∀ q∈l,q∈qs)->hV a (aY (fun q=>LD (F q)) qs) (aY (fun q=>LD (F q)) l)=some true
 | [],_=>rfl
 | q::l,h=>by
  have b:=zY (v:=fun q=>LD (F q)) nd (h q (UP ..))
  have d:=FN a (F:=F) nd l fun x c=>h x (UB _ c)
  show hV a (aY (fun q=>LD (F q)) qs) ((b6 q,LD (F q))::aY (fun q=>LD (F q)) l)=some true
  unfold hV
  rw [b]
  dsimp only
  rw [Td,d]
  rfl
theorem FP {a:Hm}{Y:Zr}(j:(Y.map (·.1)).Nodup)(b:∀ y∈Y,a[y.2.2]? = some (.lst (y.2.1.map PP))):∀ l:Zr,(∀ z∈l,a[z.2.2]? = some (.lst (z.2.1.map PP))/\(z.1,z.2.1)∈GZ Y)->hV a (aQ Y) (aQ l)=some true
 | [],_=>rfl
 | z::l,h=>by
  obtain ⟨o,p⟩:=h z (UP ..)
  obtain ⟨y,i,e⟩:=TX.mp p
  have r:=FP j b l fun x q=>h x (UB _ q)
  have m:y.1=z.1:=congrArg (·.1) e
  have n:y.2.1=z.2.1:=congrArg (·.2) e
  have d:=oS j i
  rw [m] at d
  have c:=b y i
  rw [n] at c
  show hV a (aQ Y) ((b6 z.1,.loc z.2.2)::aQ l)=some true
  unfold hV
  rw [d]
  dsimp only
  rw [Qh o c,r,beq_self_eq_true]
  rfl
theorem FQ {e:Hm}{a b:Nat}{c d:List (List Int×D)}{Q:D×Hm->Prop}(h:e[a]? = some (.dT c))(i:e[b]? = some (.dT d))(l:c.length=d.length)(j:hV e d c=some true):W (gI true (.loc a) (.loc b) e) Q↔Q (.bl false,e):=by
 have:gI true (.loc a) (.loc b) e=some (.bl false,e):=by
  simp only [gI,h,i,if_pos l,j,Us]
  rfl
 rw [this]
 exact W_some
theorem Te {b:Hm}{a:Nat}{xs:List D}(h:b[a]? = some (.lst xs)):j0 b (.loc a)=true:=by simp only [j0,h]
theorem Tf {μ0 m:Hm}{c:Nat}{Y:Zr}(G:μ0 <+: m)(hc:μ0.length<=c)(J:Pz m μ0.length c Y)(hl:Y.length<=100)(R:∀ y∈Y,y.2.1.length<=100){p q r s u v w:Option D}{M:Option D}(Q:Fl×aF×Hm->Prop)
  (H:∀ x a,μ0 <+: a->Q (.nx,[p,q,r,s,u,v,some (.loc c),x,w],a)) :
  W (aJ (cL (eM (aI eH (aB (aA 6) aD))) (cZ 7) (dS (gD g7 (aC aG (aA 6) (aA 7)) (aB (mC (.int 0)) aD)))) (dS (fE lE (aA 6) aD)) [p,q,r,s,u,v,some (.loc c),M,w] m) Q:=by
 simp only [w_mSeq,iR,oM,bQ,aX,aT,aH,aK]
 refine (zO J.dic).mpr ?_
 have N:(aQ Y).map (fun k=>D.tup (k.1.map D.int))=(Y.map (·.1)).map PP:=by
  unfold aQ
  rw [Uh,Uh]
  rfl
 rw [N]
 refine (oO (cB _ _)).mpr ?_
 have X:c<m.length:=(TB.mp J.dic).1
 refine tY (fun i l a=>∃ x,l=[p,q,r,s,u,v,some (.loc c),x,w]/\μ0 <+: a/\a[c]? = some (.dT (aQ Y))/\a[m.length]? = some (.lst ((Y.map (·.1)).map PP))/\∀ y∈Y,y.2.2<m.length/\∃ I,a[y.2.2]? = some (.lst I)/\I.length<=100+i)
  ⟨M,rfl,G.trans (bE _ _),aS (bE _ _) J.dic,cB _ _,fun y j=>⟨(TB.mp (J.at_ y j).2).1,_,aS (bE _ _) (J.at_ y j).2,by rw [TF];have:=R y j;omega⟩⟩ (fun _ _ _ ⟨_,_,_,_,h,_⟩=>h) (fun i d l a hd A=>?_) fun l a A=>?_
 ·obtain ⟨x,rfl,E,n,K,j⟩:=A
  rw [Uh,Um] at hd
  obtain ⟨z,L,rfl⟩:=Tz.mp hd
  have b:=UM L
  have Z:i<Y.length:=(TB.mp L).1
  obtain ⟨zl,I,o,xl⟩:=j z b
  refine ⟨_,rfl,?_⟩
  simp only [Yo,TJ,TK,mV]
  refine t7 ?_
  simp only [bA,aH,aK]
  refine (Em n (iT z.1) (oS J.kd b)).mpr ⟨Te o,?_⟩
  simp only [aX,aT,bB]
  refine (zL o (by rw [UW];omega)).mpr ⟨_,rfl,gL E (J.at_ z b).1 _,?_,?_,fun y B=>?_⟩
  ·rw [TQ (J.ne b)];exact n
  ·rw [TQ (by omega)];exact K
  ·obtain ⟨T,U,O,ll⟩:=j y B
   refine ⟨T,?_⟩
   by_cases e:z.2.2=y.2.2
   ·rw [e] at o ⊢
    refine ⟨_,Ug (TB.mp o).1,?_⟩
    rw [TV,U3];omega
   ·rw [TQ e]
    exact ⟨U,O,by omega⟩
 ·obtain ⟨x,rfl,E,n,K,j⟩:=A
  simp only [mV]
  refine qZ ?_
  simp only [aH,aK,aT]
  exact ⟨q0 n,(FL n).mpr (H x _ (gL E hc _))⟩
theorem FR (k:Nat){n:Hm}{o b:Nat}{w h:Int}{xs:List D}{d T:D}{F:Int×Int->Ly}{qs:List (Int×Int)}{G:Gr}(nd:qs.Nodup)(hl:qs.length<=36)(E:qs≠[])(hh:(qs.map fun q=>Tb.hashT (b6 q)).Nodup)(i1:n[o]? = some (.ins "Folding" (iB w h b))) (i2:n[b]? = some (.lst (xs++[d])))(S:StZ n b d F qs G)(X:StZ n b T F qs G)(U:Gd qs F G)
  (s:Int)(Q:D×Hm->Prop)(H:∀ a,n <+: a->Q (.bl true,a)):W (f (k+3) "_law_stands" [.loc o,T,.int xs.length,.int s] n) Q:=by
 obtain ⟨l,p,Z,rfl,g1,I,g2,eZ,nb⟩:=S.ex
 obtain ⟨l',p',Y,rfl,g3,R,g4,eY,nb'⟩:=X.ex
 subst eZ
 obtain ⟨_,_,lZ,bZ⟩:=U.key
 rw [Rc,W_fin,w_mSeq,cC]
 refine uL ?_
 simp only [aH]
 refine ⟨o,_,rfl,i1,rfl,?_⟩
 simp only [aT]
 refine SQ (k+1) i1 i2 _ ?_
 have ne:∀ {x y:Int}{n:Hm}{Q:D×Hm->Prop},W (a9 true (.int x) (.int y) n) Q↔Q (.bl (!(x == y)),n):=W_some
 simp only [TJ,TK,w_mSeq,cU,lK,iP,dP,bQ,aX,aT,bA,bB,aH,aK,Ei,hW,ne,beq_self_eq_true,Vv,TY,if_false,dE,iR,zJ (j:=0)]
 refine ⟨by decide,?_⟩
 refine tZ (lo:=0) (n:=2) (fun i u a=>∃ L M N O,u=[some (.loc o),some (.tup [.loc l',.loc p']),some (.int xs.length),some (.int s),some (.int xs.length),L,M,N,O]/\n <+: a) ⟨none,none,none,none,rfl,VR _⟩ (fun i u a hi B=>?_) fun u a B=>?_
 ·obtain ⟨L,M,N,O,rfl,c⟩:=B
  refine ⟨_,rfl,?_⟩
  simp only [TJ,TK,cU,dP,bA,bB,aH,aK,iQ,dQ (show (0:Int)<2 by decide),w_eqI]
  split
  ·rw [w_mSeq,cC]
   refine uL ?_
   simp only [aH]
   refine ⟨o,_,rfl,aS c i1,rfl,?_⟩
   simp only [aT]
   refine SS k (aS c i1) (aS c i2) (I.more c) (aS c g2) (by omega) _ ?_
   generalize hν:a++(C.dT (aQ (b9 (a.length+1) Z))::Z.map fun z=>C.lst (z.2.1.map PP))=ν
   have j:a <+: ν:=by rw [<- hν];exact VE _ _
   have J:Pz ν a.length a.length (b9 (a.length+1) Z):=by
    refine ⟨?_,by rw [uH (jM _ _)];exact I.kd,fun z v=>?_⟩
    ·rw [<- hν,UK (TR _),Xe];rfl
    ·have:=uI Z (a.length+1) (a++[.dT (aQ (b9 (a.length+1) Z))]) [] (by rw [TV];rfl) z v
     refine ⟨by omega,?_⟩
     rw [U9,VM] at this
     rw [<- hν]
     exact this.2
   have A:GZ (b9 (a.length+1) Z)=GZ Y:=by rw [jM,eY]
   have r:=c.trans j
   simp only [TJ,TK,w_mSeq,cU,lK,qU,iP,dP,bQ,aX,aT,bA,bB,aH,aK,FK J.dic,hW,fW,Vv,TY,if_false]
   refine (FQ J.dic (aS r g4) (by rw [q8,q8,<- iU,<- iU,A]) (FP R.kd (fun y K=>aS r (R.at_ y K)) _ fun z v=>⟨(J.at_ z v).2,by rw [<- A];exact TX.mpr ⟨z,v,rfl⟩⟩)).mpr ?_
   simp only [TY,if_false,dE]
   have lr:(b9 (a.length+1) Z).length=Z.length:=by rw [<- iU,jM,iU]
   refine w_mSeq.mp (Tf j (TR _) J (by omega) (fun y K=>?_) _ fun x μ2 p2=>⟨_,_,_,_,rfl,c.trans p2⟩)
   have:(y.1,y.2.1)∈GZ Z:=by rw [<- jM Z (a.length+1)];exact TX.mpr ⟨y,K,rfl⟩
   obtain ⟨z,v,e⟩:=TX.mp this
   have e2:z.2.1=y.2.1:=congrArg (·.2) e
   rw [<- e2]
   have:=bZ z v
   omega
  ·rw [w_mSeq,cC]
   refine uL ?_
   simp only [aH]
   refine ⟨o,_,rfl,aS c i1,rfl,?_⟩
   simp only [aT]
   refine SR (k+1) E hh (aS c i1) (aS c i2) (aS c g1) _ ?_
   have j:a <+: a++[C.dT (aY (fun q=>LD (F q)) qs)]:=bE _ _
   have m:(a++[C.dT (aY (fun q=>LD (F q)) qs)])[a.length]? = some (.dT (aY (fun q=>LD (F q)) qs)):=cB _ _
   generalize a++[C.dT (aY (fun q=>LD (F q)) qs)]=ν at j m
   have r:=c.trans j
   simp only [TJ,TK,w_mSeq,cU,lK,qU,iP,dP,bQ,aX,aT,bA,bB,aH,aK,FK m,hW,jH,Vv,TY,if_false]
   refine (FQ m (aS r g3) rfl (FN ν nd qs fun _ h=>h)).mpr ?_
   simp only [TY,if_false,dE,mV]
   refine qZ ?_
   simp only [aH,aK,aT]
   exact ⟨q0 m,(FL m).mpr ⟨_,_,_,_,rfl,c.trans (gL j (TR _) _)⟩⟩
 ·obtain ⟨L,M,N,O,rfl,c⟩:=B
  simp only [w_mRet,bB]
  exact H _ c
theorem Tg {x m:Str}{r:RF}{c:ME}{ms:MA}{b:aF}{d:Hm}{Q:Xn×aF×Hm->Prop}(h:W (c b d) fun p=>∃ a fs,p.1=.loc a/\p.2[a]? = some (.ins x fs)/\fs.lookup m=none/\W (ms b p.2) fun q=>W (r (.loc a::q.1) q.2) fun z=>Q (z.1,b,z.2)):W (iJ x m r c ms b d) Q:=by
 unfold iJ
 rw [W_bind]
 refine bP h fun p ⟨a,fs,e,i,j,l⟩=>?_
 rw [e]
 dsimp only
 rw [i]
 dsimp only
 rw [if_pos ⟨rfl,j⟩,W_bind]
 exact bP l fun q h=>W_map.mpr h
theorem Th {x m:Str}{r:RF}{c:ME}{ms:MA}{b:aF}{d:Hm}(h:W (c b d) fun p=>∃ a fs,p.1=.loc a/\p.2[a]? = some (.ins x fs)/\fs.lookup m=none/\W (ms b p.2) fun q=>r (.loc a::q.1) q.2=none):iJ x m r c ms b d=none:=by
 obtain ⟨p,n,a,fs,e,i,j,q,o,l⟩:=h
 unfold iJ
 rw [n,T9,e]
 dsimp only
 rw [i]
 dsimp only
 rw [if_pos ⟨rfl,j⟩,o,T9,l]
 rfl
theorem Ti {e:aF}{i j k l:Nat}{a b c d:D}{h:Hm}{Q:aF->Prop}:W (eL [i,j,k,l] (.tup [a,b,c,d]) e h) Q↔Q ((((e.set i (some a)).set j (some b)).set k (some c)).set l (some d)):=W_some
theorem FT (k:Nat){l:Hm}{o b:Nat}{w h:Int}{xs:List D}{d:D}{F:Int×Int->Ly}{qs:List (Int×Int)}{G:Gr}(nd:qs.Nodup)(x:qs.length<=36)(i1:l[o]? = some (.ins "Folding" (iB w h b))) (i2:l[b]? = some (.lst (xs++[d])))(O:xs.length<=1000)(S:StZ l b d F qs G)(v:Gd qs F G)
  {e:Int×Int}{u n:Int}(E:OnL e u n)(z:n % 4=0){a ov:Bool}(Q:D×Hm->Prop)
  (B:lR G (aZ u n a)=true->∀ t i,l <+: i->i[t]? = some (.lst [.str "refused",.bl true])->Q (.loc t,i))
  (H:lR G (aZ u n a)=false->∀ t q i,(∀ (c:Nat)(y:C),c≠b->l[c]? = some y->i[c]? = some y)->i[b]? = some (.lst (xs++[d]++[q]))->StZ i b q (bR u n a F) qs (kJ (aZ u n a) (aO (bF u n)) ov G)->i[t]? = some (.lst [.non])->Q (.loc t,i)) :
  W (f (k+6) "_law_asked" [.loc o,.tup [PP e,.tup [.int u,.int n],.bl a,.bl ov]] l) Q:=by
 rw [Rb,W_fin]
 simp only [w_mSeq,D7,aH,aK,Ti,cC,fJ,aX,aT,bB,TJ,TK]
 refine ⟨qW,?_⟩
 have m:l <+: l++[C.lst [.int 0]]:=bE _ _
 generalize l++[C.lst [.int 0]]=μ0 at m
 have p:=aS m i1
 have A:=aS m i2
 obtain ⟨Y,X⟩:=SV (k+1) x p A (S.more m) v E z (a:=a) (ov:=ov)
 have j:∀ (R:aF)(Q:List D×Hm->Prop),Q ([PP e,.bl a,.bl ov],μ0)->W ((aB (aA 2) (aB (aA 4) (aB (aA 5) aD))) (some (.loc o)::some (.tup [PP e,.tup [.int u,.int n],.bl a,.bl ov])::some (PP e)::some (.tup [.int u,.int n])::some (.bl a)::some (.bl ov)::R) μ0) Q:=fun R Q h=>by
  simp only [aX,aT,aH,aK]
  exact h
 cases hc:lR G (aZ u n a) with
 | true=>
  obtain ⟨s,J,U⟩:=Y hc
  have Z:W ((c9 (aP 6 (cI (aB (gG "Folding" "fold" (f (k+5) "Folding.fold") (aA 0) (aB (aA 2) (aB (aA 4) (aB (aA 5) aD)))) aD))) (iJ "Folding" "fold" (g (k+5) "Folding.fold") (aA 0) (aB (aA 2) (aB (aA 4) (aB (aA 5) aD)))) bX) [some (.loc o),some (.tup [PP e,.tup [.int u,.int n],.bl a,.bl ov]),some (PP e),some (.tup [.int u,.int n]),some (.bl a),some (.bl ov),some (.loc l.length),none] μ0) fun r=>r=(Ai,[some (.loc o),some (.tup [PP e,.tup [.int u,.int n],.bl a,.bl ov]),some (PP e),some (.tup [.int u,.int n]),some (.bl a),some (.bl ov),some (.loc l.length),none],s):=by
   refine t8 (Tg ?_)
   simp only [aH]
   refine ⟨o,_,rfl,p,rfl,j _ _ ?_⟩
   rw [J]
   exact W_some.mpr rfl
  obtain ⟨_,K,rfl⟩:=Z
  refine (Qu K rfl).mpr ?_
  simp only [TJ,TK,cC,fJ,aX,aT,bB,Qw,aH,aK]
  refine ⟨_,_,_,_,true,rfl,cB _ _,rfl,eT,?_⟩
  simp only [TJ,TK,w_mRet,aH,aK]
  exact B hc _ _ (((m.trans U).trans (bE _ _)).trans (bE _ _)) (cB _ _)
 | false=>
  refine (Qv (rSeq_no' (Th ?_) fun _ _ _=>rfl)).mpr ?_
  ·simp only [aH]
   exact ⟨o,_,rfl,p,rfl,j _ _ (X hc)⟩
  ·simp only [cC,fJ,aX,aT]
   refine uL ?_
   simp only [aH]
   refine ⟨o,_,rfl,p,rfl,j _ _ ?_⟩
   refine SU k nd x p A O (S.more m) v E z hc _ fun q μ2 T L I=>⟨qW,?_⟩
   simp only [TJ,TK,w_mRet,aH,aK]
   exact H hc _ q _ (fun c y M N=>aS (bE _ _) (T c y M (aS m N))) (aS (bE _ _) L) (I.more (bE _ _)) (cB _ _)
theorem Tj:∀ E∈[(4:Int),5,6,7,8,9,10,11,12,13,14,15,16,17,18,19,20,21],p7 1 E 2=true/\(UL 1 E 2).toNat<=10:=by decide +kernel
theorem To {E:Int}(h:4<=E/\E<=21):E∈[(4:Int),5,6,7,8,9,10,11,12,13,14,15,16,17,18,19,20,21]:=by
 simp only [Uq,a1D,or_false]
 omega
theorem FU {c:Hm}{a b:Nat}{xs:List D}{Q:D×Hm->Prop}(i:c[a]? = some (.lst xs))(j:c[b]? = some (.lst xs))(l:fM (cR 7 c) xs xs=some true):W (a9 true (.loc a) (.loc b) c) Q↔Q (.bl false,c):=by
 have d:cX c (.loc a)=some (.lst xs):=by simp only [cX,i]
 have h:cX c (.loc b)=some (.lst xs):=by simp only [cX,j]
 have e:cR 8 c (.loc a) (.loc b)=some true:=by
  show ((cX c (.loc a)).bind fun x=>(cX c (.loc b)).bind fun y=>gT (cR 7 c) x y)=_
  rw [d,h]
  exact l
 have:a9 true (.loc a) (.loc b) c=some (.bl false,c):=by
  unfold a9
  rw [e]
  rfl
 rw [this]
 exact W_some
structure Inz (ns:List Int)(w h:Int)(o b:Nat)(xs:List D)(d dl:D)(F:Int×Int->Ly)(G:Gr)(μ:Hm):Prop where
 i1:μ[o]? = some (.ins "Folding" (iB w h b))
 i2:μ[b]? = some (.lst (xs++[d]))
 s1:StZ μ b d F (dZ w h) G
 s2:StZ μ b dl F (dZ w h) G
 gd:Gd (dZ w h) F G
theorem Inz.more {ns:List Int}{w h:Int}{o b:Nat}{xs:List D}{d c:D}{F:Int×Int->Ly}{G:Gr}{e a:Hm}(I:Inz ns w h o b xs d c F G e)(p:e <+: a):Inz ns w h o b xs d c F G a:=⟨aS p I.i1,aS p I.i2,I.s1.more p,I.s2.more p,I.gd⟩
noncomputable def Aj (k:Nat):MS:=bI (iZ (dX (aI (f k "_law_stands") (aB (aA 3) (aB (aA 4) (aB (aA 5) (aB (aC dU (aA 7) (mC (.int 3))) aD))))))) (a8 (mC (.bl false))) bJ
noncomputable abbrev Tp (k:Nat):MS:=aJ (bI (eV (gS (aR (aC (eF false) (aA 9) (mC .non))) (aR (aC (a9 true) (aA 10) (cI (aB (mC (.str "refused")) (aB (mC (.bl true)) aD)))))) (gS (aR (aC (eF true) (aA 9) (mC .non))) (aR (aC (a9 true) (aA 10) (cI (aB (mC .non) aD)))))) (a8 (mC (.bl false))) bJ) (aJ (bI (aR (aC (eF true) (aA 9) (mC .non))) (aJ (aP 4 (aA 9)) (aP 5 (aC bV (aA 5) (mC (.int 1))))) bJ) (Aj k))
noncomputable def Tn (ns:List Int)(w h:Int)(o b i:Nat)(p:aF)(n:Hm):Prop:=∃ xs d c F G e j l m a,p=[some (.rol (ns.map D.int)),some (.int w),some (.int h),some (.loc o),some c,some (.int (xs.length:Nat)),e,j,l,m,a]/\xs.length<=i/\Inz ns w h o b xs d c F G n
theorem FV (k:Nat){ns:List Int}{w h:Int}(hw:1<=w/\w<=3)(m:1<=h/\h<=3){o b i:Nat}{xs:List D}{d c:D}{F:Int×Int->Ly}{G:Gr}{j:Hm}(J:Inz ns w h o b xs d c F G j)(n:xs.length<=i){v:Int}{x y z e:Option D}(Q:Fl×aF×Hm->Prop)(H:∀ l a,Tn ns w h o b i l a->Q (.nx,l,a)) :
  W (Aj (k+3) [some (.rol (ns.map D.int)),some (.int w),some (.int h),some (.loc o),some c,some (.int (xs.length:Nat)),x,some (.int v),y,z,e] j) Q:=by
 obtain ⟨_,q,r,s,u,_⟩:=rC w (jK hw) h (jK m)
 unfold Aj
 simp only [cU,qU,iP,bQ,aX,aT,bA,bB,aH,aK,jF (show (0:Int)<3 by decide) (by decide)]
 refine FR k s q r u J.i1 J.i2 J.s1 J.s2 J.gd _ _ fun a p=>?_
 simp only [hW,Vv,TY,if_false,dE]
 exact H _ _ ⟨xs,d,c,F,G,_,_,_,_,_,rfl,n,J.more p⟩
theorem Tq (k:Nat){ns:List Int}{w h:Int}(hw:1<=w/\w<=3)(O:1<=h/\h<=3){o b i:Nat}(hi:i<=20){c:Int}(hc:0<=c/\c<=50){xs:List D}{d dl:D}{F:Int×Int->Ly}{G:Gr}{m:Hm}(J:Inz ns w h o b xs d dl F G m)(hx:xs.length<=i){x7 x8 x9 x10:Option D}(Q:Fl×aF×Hm->Prop)(H:∀ ρ v,Tn ns w h o b (i+1) ρ v->Q (.nx,ρ,v)) :
  W ((aJ (aP 7 (aI (f (k+6) "_law_cell") (aB (aA 0) (aB (aA 6) aD)))) (aJ (aP 8 (aI (f (k+6) "_law_plan") (aB (aA 4) (aB (aA 7) (aB (aI (f (k+6) "_law_cell") (aB (aA 0) (aB (aC bV (aA 6) (mC (.int 1))) aD))) aD))))) (aJ (aP 9 (aI (f (k+6) "_law_folded") (aB (aA 4) (aB (aC aG (aA 8) (mC (.int 1))) (aB (aC aG (aA 8) (mC (.int 2))) (aB (aC aG (aA 8) (mC (.int 3))) aD)))))) (aJ (aP 10 (aI (f (k+6) "_law_asked") (aB (aA 3) (aB (aA 8) aD)))) (Tp (k+6))))))
   [some (.rol (ns.map D.int)),some (.int w),some (.int h),some (.loc o),some dl,some (.int (xs.length:Nat)),some (.int c),x7,x8,x9,x10] m) Q:=by
 obtain ⟨_,q2,q3,q4,q5,_⟩:=rC w (jK hw) h (jK O)
 simp only [w_mSeq,cC,bQ,aX,aT,aH,aK]
 refine uA (k+5) ns c (by omega) _ _ fun μ1 p1=>?_
 simp only [TJ,TK,bA,bB,iQ,aH,aK]
 refine uA (k+5) ns (c+1) (by omega) _ _ fun μ2 p2=>?_
 have K:=J.more (p1.trans p2)
 obtain ⟨l,p,Z,rfl,g1,I,g2,A,nb⟩:=K.s2.ex
 have G2:Gd (dZ w h) F (GZ Z):=by rw [A];exact K.gd
 obtain ⟨kq,_,lZ,bZ⟩:=G2.key
 have zp:0<Z.length:=by
  cases Z with
  | nil=>
   obtain ⟨q,hq⟩:=ZP _ q3
   exact absurd (kq q hq) (by simp)
  | cons _ _=>exact a0o _
 refine Tc (k+4) g2 zp _ _ _ fun e u n a ov μ3 B E R=>?_
 have T:∀ {x y z t:D}{m:Hm}{Q:D×Hm->Prop},W (aG (.tup [x,y,z,t]) (.int 1) m) Q↔Q (y,m):=W_some
 have U:∀ {x y z t:D}{m:Hm}{Q:D×Hm->Prop},W (aG (.tup [x,y,z,t]) (.int 2) m) Q↔Q (z,m):=W_some
 have X:∀ {x y z t:D}{m:Hm}{Q:D×Hm->Prop},W (aG (.tup [x,y,z,t]) (.int 3) m) Q↔Q (t,m):=W_some
 simp only [TJ,TK,aH,aK,T,U,X]
 have L:=K.more B
 have bl:b<μ3.length:=(TB.mp L.i2).1
 refine SE (k+4) J.gd.di q4 (by omega) q3 q5 (I.more B) (aS B g2) (aS B g1) (by omega) (fun z hz=>by have:=bZ z hz;omega) kq E.u0 _ (fun s μ4 Y=>?_) fun s S l' p' μ4 Y _ gl PJ eS=>?_
 ·rw [uN,A] at s
  have j:=L.more Y
  simp only [TJ,TK,aH,aK]
  refine FT k q4 q2 j.i1 j.i2 (by omega) j.s1 j.gd E R _ (fun _ t r p5 N=>?_) fun h=>absurd (s.symm.trans h) (by decide)
  have M:=j.more p5
  simp only [TJ,TK,cU,lK,tW,dP,bA,bB,fJ,aX,aT,aH,aK,Ql,Ej,if_true]
  refine ⟨eT,(FU (aS (bE _ _) N) (cB _ _) rfl).mpr ?_⟩
  simp only [TY,if_false,dE,Ej,cU,aH,aK]
  exact FV (k+3) hw O (M.more (bE _ _)) (i:=i+1) (by omega) _ H
 ·rw [uN,A] at s
  have j:=L.more Y
  have T4:=StZ.new (b:=b) gl PJ bl
  rw [eS,A] at T4
  simp only [TJ,TK,aH,aK]
  refine FT k q4 q2 j.i1 j.i2 (by omega) j.s1 j.gd E R _ (fun h=>absurd (s.symm.trans h) (by decide)) fun _ t d' r kp gb S5 N=>?_
  have ob:o≠b:=fun e=>by have:=j.i1;rw [e,j.i2] at this;cases this
  have M:Inz ns w h o b (xs++[d]) d' (.tup [.loc l',.loc p']) (bR u n a F) (kJ (aZ u n a) (aO (bF u n)) ov G) r:=⟨kp _ _ ob j.i1,gb,S5,T4.keep j.i2 kp,J.gd.fold R a ov⟩
  simp only [TJ,TK,cU,lK,tW,dP,bA,bB,fJ,aX,aT,aH,aK,Qm,Ek,TY,if_false,if_true]
  refine ⟨qW,(FU (aS (bE _ _) N) (cB _ _) rfl).mpr ?_⟩
  simp only [TY,if_false,if_true,dE,Ek,cU,w_mSeq,cC,bA,bB,iQ,aH,aK,TJ,TK]
  have J6:=M.more (bE r (C.lst [.non]))
  have e1:((xs.length:Nat):Int)+1=((xs++[d]).length:Nat):=by rw [TV,U3];omega
  rw [e1]
  exact FV (k+3) hw O J6 (i:=i+1) (by rw [TV,U3];omega) _ H
theorem Tr (k:Nat)(ns:List Int)(H:ns.length<=63)(Y:Hm):W (f (k+7) "law" [.rol (ns.map D.int)] Y) fun r=>r.1=.bl true:=by
 rw [Rf,W_fin]
 simp only [w_mSeq,cC,bA,bB,bQ,aX,aT,aH,aK]
 refine uA (k+5) ns 0 (by omega) _ _ fun μ1 p1=>?_
 simp only [dQ (show (0:Int)<3 by decide),iQ,TJ,TK,aH,aK]
 refine uA (k+5) ns 0 (by omega) _ _ fun j p2=>?_
 simp only [jF (show (0:Int)<3 by decide) (by decide),dQ (show (0:Int)<3 by decide),iQ,TJ,TK,aH,aK]
 generalize hw0:1+kH ns 0 % 3=w
 generalize hh0:1+kH ns 0 / 3 % 3=h
 have hw:1<=w/\w<=3:=by omega
 have m:1<=h/\h<=3:=by omega
 obtain ⟨_,O,Q,y,R,T⟩:=rC w (jK hw) h (jK m)
 refine SF ?_
 simp only [aX,aT,aH,aK]
 refine S4 (k+1) hw m _ _ fun b d μ3 p3 bl L M S=>⟨rfl,?_⟩
 simp only [TJ,TK,aH,aK]
 refine SW (k+4) hw m _ _ fun l p Z o n B z A=>?_
 have u:Gd (dZ w h) (fun _=>dG) (gM (dZ w h)):=by
  refine ⟨fun _=>RC,R0 y,fun q I=>?_⟩
  rw [EG]
  exact Vm.mp T q I
 have s:=StZ.new (b:=b) B z bl
 rw [A] at s
 have e:Inz ns w h j.length b [] d (.tup [.loc l,.loc p]) (fun _=>dG) (gM (dZ w h)) o:=⟨aS n L,aS n M,S.more n,s,u⟩
 simp only [TJ,TK,cU,qU,iP,aH,aK]
 refine FR (k+3) y O Q R (xs:=[]) e.i1 e.i2 e.s1 e.s2 u 0 _ fun μ5 N=>?_
 simp only [hW,Vv,TY,if_false,dE,iR]
 refine Qs ?_
 simp only [aX,aT,bB,bQ,bA,aH,aK,zN,mW,Qo,Qn,TF]
 have v:4<=min (21:Int) (max 4 ((ns.length:Int) - 1))/\min (21:Int) (max 4 ((ns.length:Int) - 1))<=21:=by omega
 generalize min (21:Int) (max 4 ((ns.length:Int) - 1))=E at v
 obtain ⟨U,r2⟩:=Tj E (To v)
 refine ⟨1,E,2,rfl,U,?_⟩
 refine Qt (fun i c a=>Tn ns w h j.length b i c a) ⟨[],d,_,_,_,none,none,none,none,none,rfl,TR _,e.more N⟩ (fun i c a hi x=>?_) fun c a x=>?_
 ·obtain ⟨xs,d',dl,F,G,x6,x7,x8,x9,X,rfl,K,J⟩:=x
  refine ⟨_,rfl,?_⟩
  simp only [TJ,TK]
  exact Tq k hw m (by omega) (by omega) J K _ fun ρ a t=>t
 ·simp only [w_mRet,bB]
theorem Ts:∀ ns:List Int,ns.length<=63->∃ a,fH S ds 7 "law" [.rol (ns.map D.int)] []=some (.bl true,a):=fun ns e=>by
 obtain ⟨⟨d,a⟩,b,c⟩:=Tr 0 ns e []
 dsimp only at c
 subst c
 refine ⟨a,?_⟩
 unfold f at b
 exact b
end Lw
namespace Lw
open PySem L2 L3
theorem xz (Q:VC):XcOk S (Kx Q):=P0 (by kernel_rfl) (by kernel_rfl) (by kernel_rfl) (by kernel_rfl)
theorem oz (Q:VC):∀ f x,S.ob.lookup f=some x → ∃ C,CAt (Kx Q) x C ∧ Cls (Kx Q) C ∧ NoAttr (Kx Q) C f:=PV (by kernel_rfl)
theorem mz (Q:VC):∀ m x y n,S.mt.lookup m=some (x,y,n) → ∃ (C g:Addr),CAt (Kx Q) x C ∧ Cls (Kx Q) C ∧ Meth (Kx Q) C m g ∧ mU (Kx Q) (lk S ds y) n g:=PX (WD.mpr ⟨⟨by kernel_rfl,"Folding.fold",cE 41 1,by kernel_rfl,⟨by kernel_rfl,by kernel_rfl,by kernel_rfl⟩⟩,WD.mpr ⟨⟨by kernel_rfl,"Folding.many",cE 41 3,by kernel_rfl,⟨by kernel_rfl,by kernel_rfl,by kernel_rfl⟩⟩,WD.mpr ⟨⟨by kernel_rfl,"Folding.layings",cE 41 4,by kernel_rfl,⟨by kernel_rfl,by kernel_rfl,by kernel_rfl⟩⟩,WD.mpr ⟨⟨by kernel_rfl,"Folding.piles",cE 41 5,by kernel_rfl,⟨by kernel_rfl,by kernel_rfl,by kernel_rfl⟩⟩,fun _ z=>nomatch z⟩⟩⟩⟩)
theorem yz (Q:VC):∀ x y n,S.mc.lookup x=some (y,n) → lk S ds x=none ∧ ∃ (C g:Addr),CAt (Kx Q) x C ∧ Mk (Kx Q) C g ∧ mU (Kx Q) (lk S ds y) n g:=PY (WD.mpr ⟨⟨by kernel_rfl,by kernel_rfl,by kernel_rfl,"Folding.__init__",cE 41 0,by kernel_rfl,⟨by kernel_rfl,by kernel_rfl,by kernel_rfl⟩⟩,fun _ z=>nomatch z⟩)
theorem dz (Q:VC):tU (Kx Q) ds:=by unfold tU;kernel_rfl
theorem cz (Q:VC):D3 (Kx Q) S.con=true:=by kernel_rfl
theorem nz (Q:VC):S.no.map (Vo (Kx Q) UI)=S.no.map fun _=>some none:=by kernel_rfl
theorem Tt {P:Ud}{w:Uv}{Q:VC}
  {h:UU}{a:Str → Option Value}(X:(Kx Q).In h)(G:h.Ns UI a):TxtOk P w (Kx Q) a S ds ∧ ∃ f b,Fun (Kx Q) "law" "law" (aE 53) f b ∧ a "law" = some (.ref f) ∧ ∀ (s:TC)(u:Value),YW s b ⟨[u],[]⟩ [("_law_script",u)]:=by
 refine ⟨⟨PF (by decide +kernel),PH fun p c=>(D0 X G (dz Q) p c).1,PK (PU X G (cz Q)),fun x d e=>?_,PM (PR X G (nz Q)),xz Q,PL (by kernel_rfl) (by kernel_rfl),oz Q,mz Q,yz Q,PZ (by kernel_rfl)⟩,PQ X G (dz Q) (by kernel_rfl) (by kernel_rfl)⟩
 ·cases e
end Lw
open PySem PySem.W PyProof.Rows
set_option maxRecDepth 100000 in
set_option maxHeartbeats 0 in
theorem PySem.Challenge.cw_creasecourt_k81_folds_place_by_place_holds : PySem.Challenge.rw_creasecourt_k81_folds_place_by_place.Holds := by
 w_on
 refine holds_law (by decide +kernel) fun a=>?_
 refine holds_open (q:=Lw.Vw) (loose:=[]) (Xt:=fun s=>xlAt Lw.Vw [] s&&recOk (a2F (a1m (Vn TH))) s) (XP:=XL Lw.Vw []) (Yf:=Hook.obs (a3A Lw.Kx Lw.As Lw.pE)) (Ya:=Hook.val (a3A Lw.Kx Lw.As Lw.pE)) (YP:=Hook.says (a3A Lw.Kx Lw.As Lw.pE)) (N:=4964) Lw.run (Hook.of _) (Hook.keeps _) (fun s e=>xl_of s (WE.mp e).1) XL.keeps (by rfl) (by rfl) (by rfl) (fun s e=>recFacts_of (WE.mp e).2) (by rfl) (by first|assumption|decide +kernel) (by decide +kernel) ⟨rfl,rfl,rfl,rfl,rfl,by decide +kernel⟩ ?hw ?hc
 case hw=>w_witness2
 k_fill
 refine L3.walkM (l:=TH) (S:=Lw.S) (ds:=Lw.ds) (k:=7) (st:=Lw.aE 53) (x:="_law_script") rfl rfl ⟨rfl,by decide,by decide⟩ (fun w h Y=>PySem.W.kIn_of Y) (by kernel_rfl) (by kernel_rfl) ?F (fun c h _=>Lw.Ts c h)
 case F=>
  intro w d h b G
  refine' Lw.Tt (P:=UQ) (w:=w)  b G
