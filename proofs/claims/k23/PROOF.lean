import PyProof.Rows.All
import Wide.All
import OpenK.AllK
import Wide.FinOn
import PyProof.EqAt
import PyProof.EqKinds
import PyProof.TupleCall
import KE.KDictSum
import PyProof.SliceStr2
import PyProof.NeKinds
import PyProof.StrWalks
import PyProof.ConsumeWalk
import KE.KSortTup
import PyProof.StationsW
import OpenK.KOwn
import PyProof.RulesAs
import PyProof.NsDelKeeps
import PyProof.InstStoreFacts
import OpenK.KCls
import PyProof.ExcArgs
import PyProof.ExcAttrAll.ValueError
import KE.KIsAll
import PyProof.Rows.SetFrom
import PyProof.Rows.SortStr
import PyProof.SumAny
import PyProof.EnumMake
import KE.KRevIter
import PyProof.MeetsStr
import PyProof.ListRange
import PyProof.Rows.Range3
import KE.KDictList
import PyProof.PureStr
import PyProof.WalkInts
import PyProof.ConsumeS
import PyProof.ZipIter
import PyProof.AttrMissHeap
import KE.KDictOf
import PyProof.DictItems
import KE.KItemsList
import KE.KEqDict
import PyProof.DictValues
import PyProof.DictWalks
import PyProof.Rows.StrNews
import KE.KPairComp
import KE.KPar
import PySem.Challenge.RW_creasecourt_k23_sheets_refused
open Option renaming some->b6,none->b8
open Bool renaming false->b9,true->c4
open Array renaming mk->U5,getElem?_eq_some_iff->Vt,toList_inj->VS,toList_push->V8,toList_append->WH,getElem?_toList->WO,getElem?_setIfInBounds->Yg,length_toList->Yj,replicate->Z9,toList_setIfInBounds->a0l,getElem?_eq_none->a0O,toList_reverse->a1p,toList_extract->a1q,toList->a3h,getD->a3L,map->a4p
open Bool renaming and_eq_true->T4,false_eq_true->Ud,not_true->U3,false_ne_true->Vl,not_false->Wt,and_eq_true_iff->WY,not_eq_true'->Xi,or_eq_true->XF,false_and->Yv,and_true->Zz,or_true->ZQ,and_false->a0u,and_self->a0J,true_and->a3f,or_false->a3g
open Classical renaming choose->Zw,choose_spec->a0s
open False renaming elim->UT
open ForInStep renaming yield->Xu
open Int renaming emod_lt_of_pos->V0,emod_nonneg->V2,toNat_natCast->W0,le_of_lt->Y7,le_refl->a0b,zero_add->a3G,mul_one->a4k
open List renaming getElem?_eq_some_iff->T8,getElem?_eq_getElem->T9,length_map->Uc,size_toArray->Ue,length_append->Uj,getElem?_append_left->Ul,set_cons_zero->Um,set_cons_succ->Us,map_cons->Uv,append_assoc->Uy,getElem?_append_right->Uz,length_cons->UA,getD_eq_getElem?_getD->UH,mem_of_getElem?->UL,length_take->UN,mem_cons_of_mem->UO,prefix_refl->UP,take_append_drop->UR,getElem?_map->UU,mem_cons->UX,mem_cons_self->UZ,mem_append_right->U0,length_drop->U2,mem_singleton->U6,pairwise_iff_getElem->U7,all_cons->Va,getElem?_set_self->Vc,getElem?_set_ne->Vd,getElem?_toArray->Vg,zipWith_cons_cons->Vi,mem_append->Vk,map_map->Vo,getD->Vr,cons_append->Vs,range->Vv,nodup_cons->Vy,length_set->Vz,find?_cons->VA,append_nil->VB,getElem?_take_of_lt->VE,toList_toArray->VL,mem_map->VM,length_nil->VR,getElem?_reverse->VT,getElem?_eq_none->VU,pairwise_append->VY,nil_append->VZ,all_eq_true->V3,map_congr_left->V7,length->Wh,take_of_length_le->Wo,replicate->Wq,mem_range->Wr,drop_of_length_le->Ws,length_reverse->Wu,drop_eq_getElem_cons->Wv,drop_zero->Wy,getElem?_cons_succ->WC,getElem_mem->WM,getElem?_drop->WN,perm_append_comm->WR,length_replicate->WS,length_filter_le->WT,getElem?_eq_none_iff->WW,map_append->WX,length_eq_zero_iff->W4,getElem?_replicate->W5,mem_iff_getElem?->Xe,take_sublist->Xg,pairwise_map->Xh,mem_append_left->Xk,getElem?_of_mem->Xl,lookup->XI,ext_getElem?->XQ,length_singleton->X1,lookup_cons->X2,mem_of_mem_take->Yc,mem_filter->Yh,getElem_of_mem->Yn,take_zero->Yt,contains_cons->Yu,reverse_perm->YH,range'->YI,drop_sublist->YJ,any_cons->YN,not_mem_nil->YT,of_mem_zip->Y5,set_append_right->Y9,pairwise_reverse->Za,mem_of_mem_drop->Zh,forall_mem_cons->Zi,drop_drop->Zj,take_succ_cons->Zt,filterMap_cons->Zu,zip_cons_cons->ZA,pairwise_cons->ZC,filter_append->ZD,map_nil->ZL,map_inj_left->ZM,getElem_take->ZN,range'_succ->Z3,take_append_of_le_length->Z7,drop_append_of_le_length->Z8,take_left->a0o,nodup_nil->a0p,drop_left->a0q,extract_eq_drop_take->a0C,map_drop->a0I,getElem?_cons_zero->a0M,zipWith->a0Q,range_succ_eq_map->a0R,drop_eq_nil_of_le->a0S,eq_nil_or_concat->a1l,concat_eq_append->a1m,map_id->a1v,take_set_of_le->a1C,takeWhile_cons->a1D,getElem?_range->a1E,filter_eq_self->a1F,mem_filterMap->a1P,Nodup->a1Q,take_add_one->a2f,nodup_append->a2g,length_range->a2h,getElem_drop->a2i,getElem?_set->a2j,take_prefix->a2s,nodup_range->a2t,mem_reverse->a2u,getElem_inj->a2v,countP_cons->a2w,filter_map->a2O,drop_left'->a2P,map_take->a3e,all_nil->a3w,all_map->a3x
open List.Pairwise renaming sublist->V1,imp_of_mem->Ye,nil->Y6,map->a0r
open List.Perm renaming refl->Yd,trans->a1w
open List.Sublist renaming length_le->a4j
open List.cons renaming injEq->ZH
open Nat renaming le_refl->Up,ne_of_lt->UB,lt_of_lt_of_le->UM,le_trans->VD,ne_of_gt->Wf,zero_le->WA,add_sub_cancel_left->WD,zero_add->WZ,lt_succ_self->W8,lt_irrefl->Xd,sub_self->XX,le_of_lt->Yr,not_lt->YC,lt_trichotomy->YL,lt_succ_of_lt->YM,min_eq_left->Y8,le_succ->Zn,sub_zero->ZV,lt_trans->ZW,not_lt_zero->a0j,le_of_eq->a1k,zero_lt_succ->a2M,le_of_not_lt->a2N,add_assoc->a3v,succ_mul->a3E,add_zero->a3F,log2_lt->a4i
open Ne renaming symm->Vf
open Option renaming bind_eq_some_iff->TZ,map_eq_some_iff->T7,bind_some->UG,map_some->UQ,isSome_iff_exists->U8,isSome_none->XC,isSome_map->YB,getD_none->a1O
open Option.some renaming inj->Ux
open Or renaming inr->a1u,inl->a2r
open Prod.mk renaming inj->Y4
open PyProof.Rows renaming seqObj->Wa,callWith_builtin1->Wn,SortSt->Ww,callWith_type1->W7,SortKind->XM,IntsAre->XR,envOfC->XW,AllBare->YY,entry_list_sort->Zq,slot_list_sort->ZE,args_list_sort->ZG,args_cons->ZK,listUpdate_at->Z0,sortedHeap->Z4,pendingOf->a0x,seqEpoch_at->a0G,subscriptTail->a1A,subscriptTail_builtinR->a1T,mergeAt'->a2E,arrOf->a2H,args_nil->a2I,keyLt'->a2X,Subscript_->a3c,list_sort_plain->a3Q,get?_update_seq->a3S,wpAny_notIn_heap->a3U,sortedAll_old->a3V,sortedAll_at->a3W,pow_int_small->a3X,pow_int->a3Y,mul_int->a3Z,lt_int->a4a,kindOf->a4b,floordiv_int->a4c,entry_proto_collect'->a4d,entry_list_iadd'->a4e,call_len_slot->a4f,assign_Tuple_tuple->a4g,assign_Tuple->a4h,mirror->a4v,IsTup->a4x
open PyProof.Rows.Boot renaming isinstance->Xq,tuple->XN,sorted->Y3,list->Ze,str->a1X,len->a1Y,int->a1Z,dict->a2a,bool->a2b,all->a2c,ValueError->a2d
open PyProof.Rows.SortSt renaming mk'->UE
open PySem renaming wpAny_bind->T5,Shared->T6,wpAny_pure->Ui,sizeLine->Uo,Program->Ur,model->Ut,wpAny->Uu,Around->UD,World->UJ,wpAny_mono->UK,starEach->UW,mainGlobals->U1,Heap->Vb,wpAny_loadPart_at->Vh,sizeLine_eq->Vm,wpAny_holding->Vx,wpAny_Call_Name_kw->VG,mem_of_lookup->VH,Params->VJ,compareOp->VN,wpAny_newObj_type->VP,FuncData->VQ,Pos->VW,sysModules->VX,wpAny_field->V4,bootBuiltins->V9,wpAny_truthy_bool->Wc,cLine->Wi,excClassObj->Wj,wpAny_call_entry->Wz,Scope->WB,rawInt->WE,treeTable->WJ,assignEach->WK,NameKind->W3,backTo->W6,wpAny_isSubtype_exc->W9,wpAny_setField->Xb,wpAny_setField_rec->Xf,behindInMarks->Xj,foldedSetIterable->Xr,Keyword->Xs,typeLookup->Xw,binaryOp->XA,wpAny_rule->XU,tupleKind->XY,IsRangeIter->X0,wpAny_dictEntries->X4,firstArgMember->X7,compEnvC->X8,codeAny_mono->X9,CmpOp->Yi,wpAny_execs_cons->Yk,attributeBase->Yo,sliceBounds->Yp,codeAny_call_builtin->Yq,wpAny_passesOwn->Yw,wpAny_execs_nil->Yx,codeAny_builtin->Yy,Paired->YA,Env->YD,OsState->YG,swapsWith->YK,wpAny_call->YQ,recursionLimit->YR,codeAny->YW,Model->YX,wpAny_standAt->YZ,pyNext->Y0,wpAny_callSpecial?_slot->Zb,checkBuiltinCall->Zd,wpAny_isOneOf_itemiter->Zl,intKind->Zm,wpAny_dictEpoch->Zo,letOwnedTupleGo->Zp,atKey->Zs,keywordEach->ZF,setFlight->ZJ,BindsTo->ZR,wpAny_newList->ZX,wpAny_attempt->ZY,plainId_quiet->ZZ,assign->Z5,wpAny_pyIter_list->a0c,valueAt->a0d,getItem->a0f,callerA->a0g,OwnTail->a0i,wpAny_isInstance->a0v,noteFrame->a0y,isTrue->a0z,cellsFrom->a0A,subscripted->a0F,wpAny_updateSeq->a0L,wpAny_newTuple->a0V,wpAny_newFunctionEnv_cells->a0W,wpAny_load->a0X,wpAny_Expr_any->a0Y,setField->a0Z,pyIter->a1a,isSubtype_stop->a1b,bindL->a1c,bindC->a1d,bindArgs->a1e,backToKw->a1f,Operator->a1j,wpAny_handled->a1y,swappedStores->a1z,Sem->a1B,ExceptHandler->a1H,onTheHeap->a1I,wpAny_pyNext_list_item->a1S,standAt->a1U,newExc->a1V,wpAny_pyNext_list_end->a2k,wpAny_notOrdered_dict->a2l,wpAny_isOneOf_keyiter->a2m,codeAny_call_function->a2n,wpAny_throw->a2A,wpAny_pyIter_keyiter->a2B,wpAny_of_eq->a2C,unbindBehindTheSuite->a2D,lookup_relabel_local->a2F,Tok->a2J,SetTable->a2K,IntMulOk->a2Q,GenState->a2R,codeAny_forLoop_any->a2S,wpAny_pyIter_tuple->a2U,wpAny_getItem_heap->a2V,wpAny_Name->a2W,isInstance->a2Y,closureFor->a2Z,cameBackBy->a3a,builtinsNs->a3b,Result->a3d,wpAny_pyIter_slot->a3i,wpAny_assign_Name->a3j,wpAny_Return_some->a3k,wpAny_Assign_Name->a3l,slot_list_getitem->a3m,relabel->a3n,leaving->a3o,lastMarks->a3A,call->a3B,PassesOwn->a3D,Arguments->a3M,wpAny_specialOf->a3N,wpAny_loadPart'->a3O,typeNameOfWhole->a3P,importedModules->a3R,Fin->a3T,wpAny_runValue->a4q,wpAny_fieldsOf->a4r,refuseLoop_ref->a4s,raiseNew->a4t,newTuple->a4u
open PySem.Around renaming under_plainId->X3,under->a0K,frames_deeper->a0U
open PySem.Builtin renaming sorted->a1o
open PySem.Builtin.Dict renaming showsAll->XE,pendingCount->a4m,noArgs->a4n,dictSlotNone->a4o
open PySem.Builtin.Dict_items renaming ownsTuple->XD,ownedTupleIsFree->YE,ownedTupleFields->YF,pairFromOwner->YO,newIterator->a2y,dictOf->a2z
open PySem.Builtin.Int renaming intBits->UY,intTooBig->XG
open PySem.Builtin.List renaming listExtendWith->Zy,listSameRef->ZP
open PySem.Builtin.ObjectAttr renaming storeInDict->YV,newKeyGuard->a2x
open PySem.Builtin.Range renaming rangeSize->a3K
open PySem.Builtin.Str renaming occurrences->VF
open PySem.Builtin.Tuple renaming tupleHashOf->a3I,tupleCompareSizes->a3J
open PySem.Calls renaming spliced_cons->Zx,spliced_nil->ZI,Name_function_global->a0k,call_function_entry->a0t,callWith_builtin->a0N,evalArgs_plain->a1n
open PySem.Challenge renaming rw_creasecourt_k23_sheets_refused->Ub,pw_creasecourt_k23_sheets_refused->Vp
open PySem.Code renaming isFrame->a0T,quiet_builtin->a1R,frames->a3H
open PySem.Data renaming fields->Vq,dict->XJ,seq->ZO,cls->a1x
open PySem.EntryCells renaming newEntry->a0E
open PySem.F renaming excBase_ValueError->WL,store_ValueError->Yz,attrBase_ValueError->Z2,slot_dict_getitem->a0a,slot_dict_items->a0m,entry_bexc_ga->a0H
open PySem.Heap renaming get?_push_of_some->Ua,lt_size->Uh,get?_push_size->UC,get?_update_other->U4,get?_update_self->Vu,get?_none_of_le->Xm,size_push->XS,SameBut->XT,ExtBut->Zk,get?_update_ne->a1G
open PySem.Heap.DictOf renaming new->a4y
open PySem.Heap.DictOfH renaming new->a4l
open PySem.Heap.IsSliceOf renaming new->a3y
open PySem.Heap.IsTuple renaming push->a2q
open PySem.Heap.SameBut renaming update->YU,refl->a0D
open PySem.NameKind renaming free->WG,cell->WV
open PySem.Obj renaming mapSeq->Wg,data_mapFields->WQ,isFreed_of_fields->WU,mapFields->Xc,cls_mapFields->ZU
open PySem.Paired renaming length->a0n,snoc->a0P
open PySem.PassesOwn renaming never->a1t
open PySem.SeqAt renaming ne_of_list_tuple->Wl,EqAt->a0h
open PySem.Str renaming ofString->We
open PySem.Value renaming ref->Ug,type->Uw,none->US,builtin->Ve,bool->V5,int->Xp,str->Zf,isStrOf->a2T,isInt->a3r,float->a3s,bytes->a3t
open PySem.W renaming Frag->T3,kasC_bind->Uk,kasC_pure->Uq,behindTheImports->UI,keepIn->U9,nsIn->Vj,boot_drawn->VC,findIn->VI,fnOf->VO,kasC_range->Wb,kia_one->Wm,looks_findIn->Wx,mg_of->WI,kasC_modify->W2,kasC->Xo,Looks->Xv,callWith_K->XB,codeIn->XH,boot_heap->XZ,topFrame->X5,kasC_get->X6,kitOne->Yl,specialIn->Ys,cellsFrom_some->YS,notCls->Y1,InstAt->Y2,kasC_lift->Zc,excIn->Zg,methodObj->Zv,piecesOf->a0e,segRun->a0w,boot_toks->a0B,tail_of_in->a1g,isNs_of_in->a1h,codeRec_of->a1i,kitx_list->a1r,kitx_dict->a1s,takesIn->a1J,instObj->a1K,findObj->a1L,findCls->a1M,OpenLaw->a1N,kitAny->a1W,mroIn->a2o,WalkO->a2p,kat_cons->a2G,isFn->a2L,kat_yes->a3p,piece_app->a3z,kHook->a4w
open PySem.W.Looks renaming here->V6
open PySem.W.OpenLaw renaming row->Vn
open PySem.W.OpenRow renaming toRowW->a2e
open PySem.W.RowW renaming records->a3u
open PySem.W.WData renaming int->Yb,weightAll->Ym,layable->Z1,weight->Z6,layableAll->a3C
open PySem.W.WShape renaming has->a3q
open Sum renaming inr->ZS,inl->ZT
open True renaming intro->Xa
local macro_rules|`(tactic| omega) => `(tactic| lia)
set_option compiler.extract_closed false
set_option bootstrap.genMatcherCode false
set_option genSizeOf false
set_option genSizeOfSpec false
set_option Elab.async false
set_option linter.all false
set_option maxRecDepth 100000
set_option linter.all false
namespace L2
open PySem PySem.Spec PyProof.Rows
noncomputable abbrev aK:=Sum Int Str
noncomputable def lQ:aK->Value->Bool
 |.inl k,v=>a3r k v|.inr x,v=>a2T x v
noncomputable def Bq(w:UJ):aK->Int
 |.inl k=>hashInt k|.inr x=>hashStr w x
theorem jB:∀{k:aK}{v:Value},lQ k v=c4->(∃i t,k=ZT i/\v=Xp i t)\/(∃x t,k=ZS x/\v=Zf x t)
 |.inl i,v,h=>by obtain⟨t,e⟩:=Value.isInt_shape (k:=i) (v:=v) h;exact .inl ⟨i,t,rfl,e⟩
 |.inr x,v,h=>by obtain⟨t,e⟩:=Value.isStrOf_shape (x:=x) (v:=v) h;exact .inr ⟨x,t,rfl,e⟩
theorem He(i:Int)(t:a2J):lQ (.inl i) (.int i t)=true:=by simp[lQ,a3r]
theorem Hf(x:Str)(t:a2J):lQ (.inr x) (.str x t)=true:=by simp[lQ,a2T]
theorem Hg(a b:Int):decide ((ZT a:aK)=ZT b)=(a==b):=by
 by_cases e:a=b
 ·subst e;simp
 ·have h:¬ (ZT a:aK)=ZT b:=λq=>e (Sum.inl.inj q);rw[decide_eq_false h];exact(beq_eq_false_iff_ne.mpr e).symm
theorem Hh(a b:Str):decide ((ZS a:aK)=ZS b)=decide (a=b):=by
 by_cases e:a=b
 ·subst e;simp
 ·have h:¬ (ZS a:aK)=ZS b:=λq=>e (Sum.inr.inj q);rw[decide_eq_false h,decide_eq_false e]
theorem Hi(a:Int)(b:Str):decide ((ZT a:aK)=ZS b)=false:=decide_eq_false (λq=>nomatch q)
theorem Hj(a:Str)(b:Int):decide ((ZS a:aK)=ZT b)=false:=decide_eq_false (λq=>nomatch q)
noncomputable def d5(prog:Ur)(w:UJ):PySem.KeyKind prog w aK where
 is:=lQ
 hash:=Bq w
 inj:=λv a b l d=>by
  rcases jB l with⟨i,t,rfl,rfl⟩|⟨x,t,rfl,rfl⟩
  ·rcases jB d with⟨j,u,rfl,e⟩|⟨y,u,rfl,e⟩
   ·injection e with e1 _;rw[e1]
   ·exact nomatch e
  ·rcases jB d with⟨j,u,rfl,e⟩|⟨y,u,rfl,e⟩
   ·exact nomatch e
   ·injection e with e1 _;rw[e1]
 byValue:=λk v h=>by rcases jB h with⟨i,t,rfl,rfl⟩|⟨x,t,rfl,rfl⟩<;>rfl
 pyHash:=λc h=>by
  rcases jB c with⟨i,t,rfl,rfl⟩|⟨x,t,rfl,rfl⟩
  ·exact wpAny_pyHash_int h
  ·exact wpAny_pyHash_str h
 eqBool:=λm c h=>by
  rcases jB m with⟨i,t,rfl,rfl⟩|⟨x,t,rfl,rfl⟩
  ·rcases jB c with⟨j,u,rfl,rfl⟩|⟨y,u,rfl,rfl⟩
   ·rw[Hg]at h;exact wpAny_eqBool_int h
   ·rw[Hi]at h;exact SeqAt.EqAt.int_str i t y u _ _ _ _ h
  ·rcases jB c with⟨j,u,rfl,rfl⟩|⟨y,u,rfl,rfl⟩
   ·rw[Hj]at h;exact SeqAt.EqAt.str_int x t j u _ _ _ _ h
   ·rw[Hh]at h;exact wpAny_eqBool_str h
 «strs»:=λk x t v h=>by
  rcases jB h with⟨i,u,rfl,e⟩|⟨y,u,rfl,e⟩
  ·exact nomatch e
  ·injection e with e1 _;subst e1;cases v<;>rfl
theorem Hk(prog:Ur)(w:UJ)(i:Int)(t:a2J):(d5 prog w).is (.inl i) (.int i t)=true:=He i t
theorem Hl(prog:Ur)(w:UJ)(x:Str)(t:a2J):(d5 prog w).is (.inr x) (.str x t)=true:=Hf x t
end L2
namespace L2
open PySem PySem.Spec PyProof.Rows
inductive V where
 |non|bl (b:Bool)|int (i:Int)|str (x:Str)|byt (b:Array UInt8)|flt (b:UInt64)|ref (a:Addr)|ty (n:String)
 deriving DecidableEq
noncomputable def RelV:V->Value->Prop
 |.non,u=>u=US|.bl b,u=>u=V5 b|.int i,u=>∃t,u=Xp i t|.str x,u=>∃t,u=Zf x t|.byt b,u=>∃t,u=a3t b t|.flt b,u=>∃t,u=a3s b t|.ref a,u=>u=Ug a|.ty n,u=>u=Uw n
noncomputable abbrev Vals:List V->List Value->Prop:=YA RelV
theorem Vals.length{xs:List V}{us:List Value}(r:Vals xs us):xs.length=us.length:=a0n r
theorem Vals.get:∀{xs:List V}{us:List Value}{i:Nat}{x:V},Vals xs us->xs[i]?=b6 x->∃u,us[i]?=b6 u/\RelV x u
 |_,_,_,_,.nil,e=>by simp at e
 |_,_,0,_,.cons r _,e=>by simp at e;subst e;exact⟨_,rfl,r⟩
 |_,_,i+1,x,.cons _ t,e=>by obtain⟨u,a,b⟩:=Vals.get (i:=i) (x:=x) t (by simpa using e);exact⟨u,by simpa using a,b⟩
theorem Vals.append:∀{xs ys:List V}{us ws:List Value},Vals xs us->Vals ys ws->Vals (xs++ys) (us++ws)
 |_,_,_,_,.nil,s=>s|_,_,_,_,.cons r t,s=>.cons r (Vals.append t s)
theorem Vals.take:∀{xs:List V}{us:List Value}(n:Nat),Vals xs us->Vals (xs.take n) (us.take n)
 |_,_,0,_=>.nil|_,_,_+1,.nil=>.nil|_,_,n+1,.cons r t=>.cons r (Vals.take n t)
theorem Vals.drop:∀{xs:List V}{us:List Value}(n:Nat),Vals xs us->Vals (xs.drop n) (us.drop n)
 |_,_,0,r=>r|_,_,_+1,.nil=>.nil|_,_,n+1,.cons _ t=>Vals.drop n t
noncomputable def RelO:Option V->Option Value->Prop
 |some v,b6 u=>RelV v u|none,b8=>True|_,_=>False
noncomputable def KV{κ:Type}:List (κ×V)->List (κ×Value)->Prop:=YA λ(p:κ×V)(q:κ×Value)=>p.1=q.1/\RelV p.2 q.2
noncomputable def kV:aK->V
 |.inl i=>.int i|.inr x=>.str x
inductive HO where
 |lst (xs:List V)
 |tup (xs:List V)
 |dK (kvs:List (aK×V))|dT (kvs:List (List aK×V))
 |set (S:Int->Bool)(n:Nat)
 |ins (C dx:Addr)(fs:List (Str×V))
 |own (x:Addr)
 |xd (fs:List (Str×V))
 |met (f x:Addr)
 |rng (lo hi:Int)
 |frz (o:Obj)(u:HO)
 |tbl (ps:Array Value)
 |ext (φ:Vb->Prop)
noncomputable abbrev Hp:=Addr->Option HO
noncomputable def aG(H:Hp)(a:Addr)(o:HO):Hp:=λb=>if b=a then b6 o else H b
theorem bO{H:Hp}{a:Addr}{o:HO}:aG H a o a=b6 o:=by unfold aG;rw[if_pos rfl]
theorem aS{H:Hp}{a b:Addr}{o:HO}(h:b≠a):aG H a o b=H b:=by unfold aG;rw[if_neg h]
theorem lR{H:Hp}{a b:Addr}{o:HO}(h:H a=b6 o)(h':H b=b8):a≠b:=by intro e;subst e;rw[h]at h';cases h'
section
variable(P:Ur)(w:UJ)
noncomputable def TupN(h:Vb)(a:Addr)(xs:Array Value):Prop:=∃o,h.get? a=b6 o/\o.cls=.type "tuple"/\∃n,o.data=.seq xs n/\o.dict=b8
theorem TupN.tup{h:Vb}{a:Addr}{xs:Array Value}(x:TupN h a xs):a4x h a xs:=let⟨o,e,c,n,d,_⟩:=x;⟨o,e,c,n,d⟩
theorem TupN.new(h:Vb)(a:Array Value):TupN (h.push {cls:=.type "tuple",data:=.seq a}) h.objs.size a:=⟨_,UC _ rfl,rfl,_,rfl,rfl⟩
noncomputable def ObjOk(H:Hp)(h:Vb)(a:Addr):HO->Prop
 |.lst c=>c.length<=Uo/\∃(b:List Value)(n:Nat),Vals c b/\h.get? a=b6 {cls:=.type "list",data:=.seq b.toArray n}|.tup c=>c.length<=Uo/\∃b:List Value,Vals c b/\TupN h a b.toArray|.dK kvs=>kvs.length<=Uo/\(a==VX)=b9/\∃l,KV kvs l/\h.DictOf (d5 P w) a l|.dT kvs=>kvs.length<=Uo/\(a==VX)=b9/\∃c:List (List aK×Addr×Value),
   YA (λ(p:List aK×V)(q:List aK×Addr×Value)=>p.1=q.1/\H q.2.1=b6 (.tup (p.1.map kV))/\RelV p.2 q.2.2) kvs c /\
   ∃o e m,h.get? a=b6 o/\o.ExactDict/\o.data=.dict e m/\e.toList=c.map (entryOfKey (XY (d5 P w)))/\(c.map (·.1)).Nodup
 |.set S n=>h.SetOf (Zm P w) a S n|.ins C dx fs=>H dx=b6 (.own a)/\fs.length<=1000/\dx≠a/\h.get? a=b6 (a1K C dx) /\
   ∃d,h.Ns1 dx d/\(∀f,RelO (fs.lookup f) (d f))/\PySem.Within d (fs.map (·.1))
 |.own _=>∃o,h.get? a=b6 o|.xd fs=>∃d,h.Ns1 a d/\∀f,RelO (fs.lookup f) (d f)|.rng lo hi=>∃t u v,h.get? a=b6 {cls:=.type "range",data:=.fields #[.int lo t,.int hi u,.int 1 v]}|.frz o u=>h.get? a=b6 o/\ObjOk H h a u|.tbl ps=>h.get? a=b6 {cls:=.none,data:=.fields ps}|.met f x=>h.get? a=b6 (Zv (.ref f) (.ref x))|.ext φ=>φ h/\(∃o,h.get? a=b6 o)/\∀i j:Vb,φ i->(∀o,i.get? a=b6 o->j.get? a=b6 o)->φ j
noncomputable def HOk(H:Hp)(h:Vb):Prop:=∀a o,H a=b6 o->ObjOk P w H h a o
end
section
variable{P:Ur}{w:UJ}{H H':Hp}{h h':Vb}{a:Addr}{o:HO}
theorem ObjOk.lt(x:ObjOk P w H h a o):a<h.objs.size:=by
 cases o with
 |lst c=>obtain⟨_,_,_,_,e⟩:=x;exact Uh e|tup c=>obtain⟨_,_,_,p⟩:=x;exact p.tup.lt|dK b=>obtain⟨_,_,_,_,o,_,_,e,_⟩:=x;exact Uh e|dT b=>obtain⟨_,_,_,_,o,_,_,e,_⟩:=x;exact Uh e|set S n=>obtain⟨o,_,_,_,e,_⟩:=x;exact Uh e|ins C d fs=>obtain⟨_,_,_,e,_⟩:=x;exact Uh e|own y=>obtain⟨_,e⟩:=x;exact Uh e|xd fs=>obtain⟨_,⟨_,_,_,e,_⟩,_⟩:=x;exact Uh e|rng j i=>obtain⟨_,_,_,e⟩:=x;exact Uh e|frz l u=>obtain⟨e,_⟩:=x;exact Uh e|tbl m=>exact Uh (show h.get? a=b6 _ from x)|met f y=>exact Uh (show h.get? a=b6 _ from x)|ext q=>obtain⟨_,⟨_,e⟩,_⟩:=x;exact Uh e
theorem YA.mapP{d e:Type}{F G:d->e->Prop}:∀{l₁:List d}{c:List e},YA F l₁ c->(∀a b,F a b->G a b)->YA G l₁ c
 |_,_,.nil,_=>.nil|_,_,.cons r t,f=>.cons (f _ _ r) (YA.mapP t f)
theorem ObjOk.stay(x:ObjOk P w H h a o)(k:∀b u,(b=a\/H b=b6 (.own a))->h.get? b=b6 u->h'.get? b=b6 u)
  (K:∀b,H b=b6 (.own a)->H' b=b6 (.own a))(L:∀b s,H b=b6 (.tup s)->H' b=b6 (.tup s)):ObjOk P w H' h' a o:=by
 induction o with
 |lst s=>obtain⟨z,m,n,r,e⟩:=x;exact⟨z,m,n,r,k _ _ (.inl rfl) e⟩|tup s=>obtain⟨z,m,r,i,e,c⟩:=x;exact⟨z,m,r,i,k _ _ (.inl rfl) e,c⟩|dK A=>obtain⟨z,y,N,r,i,l,j,e,c⟩:=x;exact⟨z,y,N,r,i,l,j,k _ _ (.inl rfl) e,c⟩|dT A=>obtain⟨z,y,s,r,i,l,j,e,c⟩:=x;exact⟨z,y,s,YA.mapP r λp q z=>⟨z.1,L _ _ z.2.1,z.2.2⟩,i,l,j,k _ _ (.inl rfl) e,c⟩|set S n=>obtain⟨i,l,j,t,e,c⟩:=x;exact⟨i,l,j,t,k _ _ (.inl rfl) e,c⟩|ins C O fs=>obtain⟨d,z,ne,e,B,⟨E,l,j,I,c⟩,r⟩:=x;exact⟨K _ d,z,ne,k _ _ (.inl rfl) e,B,⟨E,l,j,k _ _ (.inr d) I,c⟩,r⟩|own y=>obtain⟨i,e⟩:=x;exact⟨i,k _ _ (.inl rfl) e⟩|xd fs=>obtain⟨B,⟨E,l,j,e,c⟩,r⟩:=x;exact⟨B,⟨E,l,j,k _ _ (.inl rfl) e,c⟩,r⟩|rng R Q=>obtain⟨t,u,v,e⟩:=x;exact⟨t,u,v,k _ _ (.inl rfl) e⟩|frz i u M=>obtain⟨e,q⟩:=x;exact⟨k _ _ (.inl rfl) e,M q⟩|tbl G=>have e:h.get? a=b6 {cls:=.none,data:=.fields G}:=x;show h'.get? a=b6 {cls:=.none,data:=.fields G};exact k a _ (.inl rfl) e|met f y=>have e:h.get? a=b6 (Zv (.ref f) (.ref y)):=x;show h'.get? a=b6 (Zv (.ref f) (.ref y));exact k a _ (.inl rfl) e|ext T=>obtain⟨p,⟨o,e⟩,st⟩:=x;exact⟨st _ _ p λo q=>k _ _ (.inl rfl) q,⟨o,k _ _ (.inl rfl) e⟩,st⟩
theorem HOk.lt(x:HOk P w H h)(e:H a=b6 o):a<h.objs.size:=(x a o e).lt
theorem HOk.fresh(x:HOk P w H h)(e:h.objs.size<=a):H a=none:=by
 cases q:H a with
 |none=>rfl|some u=>exact absurd (UM (x.lt q) e) (Xd _)
theorem HOk.kept(x:HOk P w H h)(k:∀b u,h.get? b=b6 u->h'.get? b=b6 u):HOk P w H h':=λa o e=>(x a o e).stay (λb u _ q=>k b u q) (λ_ q=>q) λ_ _ q=>q
theorem HOk.laid(x:HOk P w H h)(k:∀b u,h.get? b=b6 u->h'.get? b=b6 u)(j:h.objs.size<=a)(new:ObjOk P w (aG H a o) h' a o):HOk P w (aG H a o) h':=λb u e=>by
 have i:=x.fresh j;by_cases d:b=a
 ·subst d;rw[bO]at e;cases e;exact new
 ·rw[aS d]at e;exact(x b u e).stay (λc v _ q=>k c v q) (λc q=>by rw[aS (lR q i)];exact q) λc l q=>by rw[aS (lR q i)];exact q
end
noncomputable def Rd(H:Hp)(a:Addr)(u:HO):Prop:=H a=b6 u\/∃o,H a=b6 (.frz o u)
theorem Rd.of{H:Hp}{a:Addr}{u:HO}(h:H a=b6 u):Rd H a u:=.inl h
theorem Rd.ok{P:Ur}{w:UJ}{H:Hp}{h:Vb}{a:Addr}{u:HO}(r:Rd H a u)(x:HOk P w H h):ObjOk P w H h a u:=by
 rcases r with r|⟨o,r⟩
 ·exact x a u r
 ·obtain⟨_,q⟩:=x a _ r;exact q
noncomputable def pN:Option HO->Prop
 |some (.lst _)=>True|some (.dK _)=>True|some (.dT _)=>True|some (.set _ _)=>True|some (.ins _ _ _)=>True|some (.ext _)=>True|_=>False
section
variable{P:Ur}{w:UJ}{H:Hp}{h h':Vb}{x e:Addr}{o':HO}
theorem HOk.write(ok:HOk P w H h)(l:pN (H x))(o:e=x\/H e=b6 (.own x))(k:∀b u,b≠e->h.get? b=b6 u->h'.get? b=b6 u)(n:∃u,h'.get? e=b6 u)
  (new:ObjOk P w (aG H x o') h' x o'):HOk P w (aG H x o') h':=λb u q=>by
 have d:∀c y,H c=b6 (.own y)->c≠x:=λc y r z=>by subst z;rw[r]at l;exact l
 have i:∀c m,H c=b6 (.tup m)->c≠x:=λc m r z=>by subst z;rw[r]at l;exact l
 by_cases j:b=x
 ·subst j;rw[bO]at q;cases q;exact new
 ·rw[aS j]at q;by_cases a:b=e
  ·have p:H b=b6 (.own x):=by
    rcases o with z|z
    ·exact absurd (a.trans z) j
    ·rw[a];exact z
   rw[q]at p;cases p;obtain⟨v,s⟩:=n;exact⟨v,by rw[a];exact s⟩
  ·refine(ok b u q).stay (λc v hc r=>k c v ?_ r) (λc r=>by rw[aS (d c b r)];exact r) λc m r=>by rw[aS (i c m r)];exact r
   rcases hc with rfl|hc
   ·exact a
   ·rintro rfl;rcases o with z|z
    ·exact d c b hc z
    ·rw[hc]at z;cases z;exact j rfl
end
structure Un(fs ex:List Addr)(H H':Hp)(h h':Vb):Prop where
 keep:∀b o,h.get? b=b6 o->H b=b8->b∉fs->b∉ex->h'.get? b=b6 o
 slot:∀b o,h.get? b=b6 o->H b=b8->b∈fs->b∉ex->∃sl,h'.get? b=b6 {o with slots:=sl}
 free:∀b o,h.get? b=b6 o->H b=b8->b∉ex->H' b=b8
 there:∀b o,h.get? b=b6 o->b∉ex->∃o',h'.get? b=b6 o'
 tups:∀b xs,H b=b6 (.tup xs)->H' b=b6 (.tup xs)
 frzs:∀b o u,H b=b6 (.frz o u)->H' b=b6 (.frz o u)
 tbls:∀b ps,H b=b6 (.tbl ps)->∃more,H' b=b6 (.tbl (ps++more))
section
variable{fs fs' ex ex':List Addr}{H H1 H2:Hp}{h h1 h2 h':Vb}{a x e:Addr}{o:HO}
theorem Un.any(u:Un fs ex H H1 h h1){b:Addr}{c:Obj}(q:h.get? b=b6 c)(n:H b=b8)(i:b∉ex):∃j,h1.get? b=b6 {c with slots:=j}:=by
 by_cases d:b∈fs
 ·exact u.slot b c q n d i
 ·exact⟨c.slots,u.keep b c q n d i⟩
theorem Un.kept(k:∀b u,h.get? b=b6 u->h'.get? b=b6 u):Un fs ex H H h h':=
 ⟨λb c q _ _ _=>k b c q,λb c q _ _ _=>⟨c.slots,k b c q⟩,λ_ _ _ n _=>n,λb c q _=>⟨c,k b c q⟩,λ_ _ q=>q,λ_ _ _ q=>q,λ_ d q=>⟨#[],by rw[q];simp⟩⟩
theorem Un.refl:Un fs ex H H h h:=Un.kept λ_ _ q=>q
theorem Un.laid(k:∀b u,h.get? b=b6 u->h'.get? b=b6 u)(d:h.objs.size<=a)(c:H a=b8):Un fs ex H (aG H a o) h h' where
 keep:=λb u q _ _ _=>k b u q
 slot:=λb u q _ _ _=>⟨u.slots,k b u q⟩
 free:=λb u q n _=>by rw[aS (UB (UM (Uh q) d))];exact n
 there:=λb u q _=>⟨u,k b u q⟩
 tups:=λb i q=>by rw[aS (lR q c)];exact q
 frzs:=λb u i q=>by rw[aS (lR q c)];exact q
 tbls:=λb j q=>⟨#[],by rw[aS (lR q c),q];simp⟩
theorem Un.write(d:pN (H x))(p:e=x\/H e=b6 (.own x))(k:∀b u,b≠e->h.get? b=b6 u->h'.get? b=b6 u)(i:∃u,h'.get? e=b6 u):Un fs ex H (aG H x o) h h':=by
 have m:∀b,H b=b8->b≠x:=λb n z=>by subst z;rw[n]at d;exact d
 have l:∀b,H b=b8->b≠e:=λb n z=>by
  subst z;rcases p with r|r
  ·exact m b n r
  ·rw[n]at r;cases r
 have j:∀b u,H b=b6 u->¬ pN (b6 u)->b≠x:=λb u q nm z=>by subst z;rw[q]at d;exact nm d
 refine⟨λb u q n _ _=>k b u (l b n) q,λb u q n _ _=>⟨u.slots,k b u (l b n) q⟩,λb u q n _=>by rw[aS (m b n)];exact n,λb u q _=>?_,
  λb s q=>by rw[aS (j b _ q λz=>z)];exact q,λb u s q=>by rw[aS (j b _ q λz=>z)];exact q,λb v q=>⟨#[],by rw[aS (j b _ q λz=>z),q];simp⟩⟩
 by_cases c:b=e
 ·subst c;exact i
 ·exact⟨u,k b u c q⟩
theorem Un.mono(u:Un fs ex H H1 h h1)(l:∀b∈fs,b∈fs')(i:∀b∈ex,b∈ex'):Un fs' ex' H H1 h h1:=
 ⟨λb d q n j c=>u.keep b d q n (λz=>j (l b z)) λz=>c (i b z),λ_ _ q n _ c=>u.any q n λz=>c (i _ z),λb d q n c=>u.free b d q n λz=>c (i b z),λb d q c=>u.there b d q λz=>c (i b z),u.tups,u.frzs,u.tbls⟩
end
noncomputable def sD(h:Vb)(H:Hp):List Addr:=(Vv h.objs.size).filter λa=>(H a).isSome
noncomputable def jC(h:Vb)(H:Hp):Vb:=PySem.W.hideAll h (sD h H)
theorem Hn(h:Vb)(H:Hp):(jC h H).objs.size=h.objs.size:=PySem.W.hideAll_size _ _
theorem Ho{h:Vb}{H:Hp}{b:Addr}{o:Obj}(e:h.get? b=b6 o)(n:H b=b8):(jC h H).get? b=b6 o:=
 PySem.W.hideAll_get _ e λa=>by have q:(H b).isSome=true:=(Yh.mp a).2;rw[n]at q;simp at q
theorem Hq{h:Vb}{H:Hp}{b:Addr}{o:Obj}(e:(jC h H).get? b=b6 o):h.get? b=b6 o/\H b=none:=by
 have a:h.get? b=b6 o:=PySem.W.of_hideAll (sD h H) e;refine⟨a,?_⟩;cases q:H b with
 |none=>rfl|some x=>have c:b∈sD h H:=Yh.mpr ⟨Wr.mpr (Uh a),by simp[q]⟩;have z:(jC h H).get? b=none:=PySem.W.hideAll_none (sD h H) c;rw[z]at e;cases e
noncomputable def Hr(g h:Vb)(L:Addr):List (Addr×Obj):=(Vv h.objs.size).filterMap λa=>if a=L\/(g.get? a).isSome=c4 then b8 else(h.get? a).map λo=>(a,o)
noncomputable def rest(g h:Vb)(L d:Addr):List (Addr×Obj):=(Hr g h L).filter λp=>decide (p.1≠d)
end L2
namespace L2
open PySem PySem.Spec PyProof.Rows
structure Mod(K:T3)(mg:Str->Option Value)(base:Vb):Prop where
 kin:K.In base
 glob:base.Ns U1 mg
 blt:∃mb,base.Ns a3b mb/\∀x:Str,x ≠ "__name__"->mb x=V9 x
 nolimit:base.NoLimit
structure Cx where
 prog:Ur
 w:UJ
 K:T3
 mg:Str->Option Value
 base:Vb
 A:UD
 N:List Str
 s₀:T6
 H₀:Hp
 env:YD
 outer:List YD
 stack:List YD
 ex:List Addr
 fn:Str->Bool
 calm:Bool
 pn:List (Addr×Obj)
 xe:Value->T6->Prop
noncomputable def cR(l:List YD):List Addr:=l.filterMap (·.frame)
noncomputable abbrev Cx.fs(X:Cx):List Addr:=cR X.outer
noncomputable def lS(sc:WB)(x:Str):Prop:=sc.names.lookup x=b6 .local\/sc.names.lookup x=b6 .cell\/sc.names.lookup x=b6 .free
noncomputable def Loc(sc:WB)(x:Str):Prop:=sc.names.lookup x=b6 .local\/sc.names.lookup x=b6 .cell
noncomputable def Hs(env:YD)(h:Vb)(m:Str->Option Value)(x:Str)(u:Value):Prop:=
 (env.kindOf x=b6 .local/\m x=b6 u)\/((env.kindOf x=b6 .cell\/env.kindOf x=b6 .free)/\∃c,env.cells.lookup x=b6 c/\h.IsCell c (b6 u))
structure Cx.Ok(X:Cx):Prop where
 mod:Mod X.K X.mg X.base
 kind:X.env.scope.kind=.function
 glob:X.env.globals=U1
 blt:X.env.builtins=a3b
 above:X.s₀.heap.objs.size<=X.env.locals
 inj:∀x y c,X.env.cells.lookup x=b6 c->X.env.cells.lookup y=b6 c->x=y
 has:∀x,(X.env.kindOf x=b6 .cell\/X.env.kindOf x=b6 .free)->∃c,X.env.cells.lookup x=b6 c
 cab:∀x c,X.fn x=c4->X.env.cells.lookup x=b6 c->X.s₀.heap.objs.size<=c
 hd:X.calm=c4->X.A.handled=b8
 frames:X.A.frames=b6 X.stack
 stk:X.stack=X.outer\/(X.stack=X.env::X.outer/\X.env.frame=b6 X.env.locals)
 exf:∀b∈X.ex,b≠X.env.locals/\∀x c,X.env.cells.lookup x=b6 c->c≠b
 bs:∀b o,X.base.get? b=b6 o->X.s₀.heap.get? b=b6 o/\X.H₀ b=b8
 bsz:X.base.objs.size<=X.s₀.heap.objs.size
 noex:∀b o,X.base.get? b=b6 o->b∉X.ex
 exfs:∀b∈X.ex,b∉X.fs
 funs:X.s₀.heap.FunFrames X.base X.outer
 frf:∀b∈X.fs,X.H₀ b=b8
structure Inv(X:Cx)(a4z:List (Addr×Obj))(σ:List (Option V))(H:Hp)(s:T6):Prop where
 ok:X.Ok
 os:s.os=X.s₀.os
 bare:YY s.gens
 base:Un X.fs X.ex X.H₀ H X.s₀.heap s.heap
 loc:∃m,s.heap.Ns X.env.locals m/\∀(i:Nat)(x:Str)(v:V),X.N[i]?=b6 x->σ[i]?=b6 (b6 v)->lS X.env.scope x->∃u,RelV v u/\Hs X.env s.heap m x u
 cell:∀x c,X.env.cells.lookup x=b6 c->∃v,s.heap.IsCell c v
 free:H X.env.locals=b8
 freeC:∀x c,X.env.cells.lookup x=b6 c->H c=b8
 pin:∀p∈X.pn++a4z,s.heap.get? p.1=b6 p.2/\H p.1=b8/\p.1≠X.env.locals/\p.1∉X.fs/\∀v,p.2.data≠.cell v
 hok:HOk X.prog X.w H s.heap
 len:σ.length=X.N.length
section
variable{X:Cx}{a4z:List (Addr×Obj)}{σ:List (Option V)}{H H':Hp}{s:T6}{h':Vb}
theorem Cx.Ok.nofr(ok:X.Ok){b:Addr}{o:Obj}(e:X.base.get? b=b6 o):b∉X.fs:=λa=>by have:=(ok.funs.mem a).1;rw[e]at this;cases this
theorem Inv.bs(I:Inv X a4z σ H s):∀b o,X.base.get? b=b6 o->s.heap.get? b=b6 o/\H b=none:=λb o e=>⟨I.base.keep b o (I.ok.bs b o e).1 (I.ok.bs b o e).2 (I.ok.nofr e) (I.ok.noex b o e),I.base.free b o (I.ok.bs b o e).1 (I.ok.bs b o e).2 (I.ok.noex b o e)⟩
theorem Inv.bk(I:Inv X a4z σ H s):∀b o,X.base.get? b=b6 o->s.heap.get? b=b6 o:=λb o e=>(I.bs b o e).1
theorem Inv.mod(I:Inv X a4z σ H s):Mod X.K X.mg X.base:=I.ok.mod
theorem Inv.kIn(I:Inv X a4z σ H s):X.K.In s.heap:=I.ok.mod.kin.keeps I.bk
theorem Inv.lt(I:Inv X a4z σ H s):X.env.locals<s.heap.objs.size:=let⟨_,a,_⟩:=I.loc;a.lt
theorem Inv.sz(I:Inv X a4z σ H s):X.s₀.heap.objs.size<=s.heap.objs.size:=VD I.ok.above (Yr I.lt)
theorem Inv.nofs(I:Inv X a4z σ H s){a:Addr}(h:s.heap.objs.size<=a):a∉X.fs:=λb=>by obtain⟨_,o,c,_⟩:=I.ok.funs.mem b;exact absurd (UM (Uh c) (VD I.sz h)) (Xd _)
theorem Inv.cne(I:Inv X a4z σ H s):∀x c,X.env.cells.lookup x=b6 c->c≠X.env.locals:=λx c e z=>by obtain⟨v,o,d,hd⟩:=I.cell x c e;obtain⟨m,⟨j,i,h,b,a,_⟩,_⟩:=I.loc;rw[z,b]at d;cases d;rw[a]at hd;cases hd
theorem Inv.funs(I:Inv X a4z σ H s):s.heap.FunFrames X.base X.outer:=by
 have all:∀(l:List YD),(∀b∈cR l,b∈X.fs)->X.s₀.heap.FunFrames X.base l->s.heap.FunFrames X.base l:=by
  intro l;induction l with
  |nil=>intro _ _;trivial|cons i r u=>intro h m;obtain⟨j,⟨L,o,d,n,p,hd⟩,q⟩:=m;have a:L∈X.fs:=h L (by unfold cR;rw[Zu,d];exact UZ);obtain⟨v,e⟩:=I.base.slot L o p (I.ok.frf L a) a λz=>I.ok.exfs L z a;exact⟨j,⟨L,_,d,n,e,hd⟩,u (λb c=>h b (by unfold cR;rw[Zu,d];exact UO _ c)) q⟩
 exact all X.outer (λ_ c=>c) I.ok.funs
theorem Inv.stack(I:Inv X a4z σ H s):s.heap.FunFrames X.base X.stack:=by
 rcases I.ok.stk with e|⟨e,a⟩
 ·rw[e];exact I.funs
 ·rw[e];obtain⟨m,b,_⟩:=I.loc;refine .cons (by rw[I.ok.kind];decide) a b ?_ I.funs;exact Xm (VD I.ok.bsz I.ok.above)
theorem Inv.stkSub(I:Inv X a4z σ H s):∀b∈cR X.stack,b∈X.env.locals::X.fs:=λb a=>by
 rcases I.ok.stk with e|⟨e,c⟩
 ·rw[e]at a;exact UO _ a
 ·rw[e]at a;unfold cR at a;rw[Zu,c]at a;exact a
theorem Inv.stkFree(I:Inv X a4z σ H s):∀b∈cR X.stack,H b=none:=λb a=>by
 rcases UX.mp (I.stkSub b a)with e|a
 ·rw[e];exact I.free
 ·obtain⟨_,o,c,_⟩:=I.ok.funs.mem a;exact I.base.free b o c (I.ok.frf b a) λz=>I.ok.exfs b z a
theorem Inv.step{g':Array a2R}{t':Nat}{d':Drawn}{ch:List Addr}(I:Inv X a4z σ H s)
  (j:∀b∈ch,(b∈X.ex\/X.s₀.heap.objs.size<=b)/\b≠X.env.locals/\(∀x c,X.env.cells.lookup x=b6 c->c≠b)/\∀p∈X.pn++a4z,p.1≠b)
  (w:∀b o,b≠X.env.locals->b∉X.fs->b∉ch->s.heap.get? b=b6 o->H b=b8->h'.get? b=b6 o)
  (E:∀b o,b≠X.env.locals->b∈X.fs->b∉ch->s.heap.get? b=b6 o->H b=b8->∃sl,h'.get? b=b6 {o with slots:=sl})(free:∀b o,b∉ch->s.heap.get? b=b6 o->H b=b8->H' b=b8)
  (L:∀b o,b∉ch->s.heap.get? b=b6 o->∃T,h'.get? b=b6 T)
  (Y:∀b G,H b=b6 (.tup G)->H' b=b6 (.tup G))(O:∀b o u,H b=b6 (.frz o u)->H' b=b6 (.frz o u))(U:∀b Z,H b=b6 (.tbl Z)->∃Q,H' b=b6 (.tbl (Z++Q)))
  (ns:∀m,s.heap.Ns X.env.locals m->h'.Ns X.env.locals m)(hok:HOk X.prog X.w H' h')(hg:YY g') :
  Inv X a4z σ H' {s with heap:=h',gens:=g',drawn:=d',toks:=t'}:=by
 have R:∀b o,X.s₀.heap.get? b=b6 o->b≠X.env.locals:=λb o e=>UB (UM (Uh e) I.ok.above);have B:∀b o,X.s₀.heap.get? b=b6 o->b∉X.ex->b∉ch:=λb o e a K=>by
  rcases(j b K).1 with z|z
  ·exact a z
  ·exact absurd (UM (Uh e) z) (Xd _)
 have h:∀x c,X.env.cells.lookup x=b6 c->∀v,s.heap.IsCell c v->h'.IsCell c v:=λx c e v ⟨o,M,hd⟩=>by
  have y:c∉ch:=λz=>(j c z).2.2.1 x c e rfl;by_cases hc:c∈X.fs
  ·obtain⟨sl,q⟩:=E c o (I.cne x c e) hc y M (I.freeC x c e);exact⟨_,q,hd⟩
  ·exact⟨o,w c o (I.cne x c e) hc y M (I.freeC x c e),hd⟩
 refine⟨I.ok,I.os,hg,⟨λb o e n K a=>?_,λb o e n K a=>?_,λb o e n a=>?_,λb o e a=>?_,λb G e=>Y b G (I.base.tups b G e),λb o G e=>O b o G (I.base.frzs b o G e),λb Z e=>?_⟩,?_,λx c e=>?_,?_,λx c e=>?_,λp hp=>?_,hok,I.len⟩
 ·exact w b o (R b o e) K (B b o e a) (I.base.keep b o e n K a) (I.base.free b o e n a)
 ·obtain⟨sl,A⟩:=I.base.slot b o e n K a;obtain⟨sl',N⟩:=E b _ (R b o e) K (B b o e a) A (I.base.free b o e n a);exact⟨sl',N⟩
 ·obtain⟨T,A⟩:=I.base.there b o e a;exact free b T (B b o e a) A (I.base.free b o e n a)
 ·obtain⟨T,A⟩:=I.base.there b o e a;exact L b T (B b o e a) A
 ·obtain⟨m1,A⟩:=I.base.tbls b Z e;obtain⟨m2,N⟩:=U b _ A;exact⟨m1++m2,by rw[N,Array.append_assoc]⟩
 ·obtain⟨m,hn,hl⟩:=I.loc;refine⟨m,ns m hn,λi x v A N e3=>?_⟩;obtain⟨u,r,l⟩:=hl i x v A N e3;refine⟨u,r,?_⟩;rcases l with l|⟨k,c,e,z⟩
  ·exact .inl l
  ·exact .inr ⟨k,c,e,h x c e _ z⟩
 ·obtain⟨v,z⟩:=I.cell x c e;exact⟨v,h x c e v z⟩
 ·obtain⟨m,⟨o,_,_,M,_⟩,_⟩:=I.loc;exact free _ o (λz=>(j _ z).2.1 rfl) M I.free
 ·obtain⟨v,o,M,hd⟩:=I.cell x c e;exact free c o (λz=>(j c z).2.2.1 x c e rfl) M (I.freeC x c e)
 ·obtain⟨e,n,ne,nf,d⟩:=I.pin p hp;have y:p.1∉ch:=λz=>(j p.1 z).2.2.2 p hp rfl;exact⟨w p.1 p.2 ne nf y e n,free p.1 p.2 y e n,ne,nf,d⟩
theorem Inv.un{t':Nat}(I:Inv X a4z σ H s)(u:Un X.fs [] H H' s.heap h')(hok:HOk X.prog X.w H' h'):Inv X a4z σ H' {s with heap:=h',toks:=t'}:=by
 obtain⟨m,⟨o,v,q,i,r⟩,_⟩:=id I.loc;obtain⟨y,j⟩:=u.any i I.free (by simp);exact I.step (g':=s.gens) (d':=s.drawn) (ch:=[]) (λ_ z=>nomatch z) (λb o _ h _ e n=>u.keep b o e n h (by simp)) (λb o _ h _ e n=>u.slot b o e n h (by simp)) (λb o _ e n=>u.free b o e n (by simp)) (λb o _ e=>u.there b o e (by simp)) u.tups u.frzs u.tbls (λw l=>by
  obtain⟨x,d,c,a,p⟩:=l;rw[i]at a;cases a;exact⟨_,d,c,j,p⟩) hok I.bare
theorem Inv.call{g':Array a2R}{t':Nat}{d':Drawn}{ch:List Addr}(I:Inv X a4z σ H s)(u:Un (cR X.stack) ch H H' s.heap h')(hok:HOk X.prog X.w H' h')(v:YY g')
  (a:∀b∈ch,(b∈X.ex\/X.s₀.heap.objs.size<=b)/\b≠X.env.locals/\(∀x c,X.env.cells.lookup x=b6 c->c≠b)/\∀p∈X.pn++a4z,p.1≠b) :
  Inv X a4z σ H' {s with heap:=h',gens:=g',drawn:=d',toks:=t'}:=by
 obtain⟨m,⟨o,B,A,l,r⟩,_⟩:=id I.loc;obtain⟨K,j⟩:=u.any l I.free λz=>(a _ z).2.1 rfl;exact I.step (ch:=ch) a (λb o j q hc e n=>u.keep b o e n (λz=>(UX.mp (I.stkSub b z)).elim j q) hc) (λb o _ _ hc e n=>u.any e n hc) (λb o hc e n=>u.free b o e n hc) (λb o hc e=>u.there b o e hc) u.tups u.frzs u.tbls (λE w=>by
  obtain⟨G,i,h,d,y⟩:=w;rw[l]at d;cases d;exact⟨_,i,h,j,y⟩) hok v
theorem Inv.turned{t':Nat}{a:Addr}(I:Inv X a4z σ H s)(k:∀b o,b≠a->s.heap.get? b=b6 o->h'.get? b=b6 o)(B:H a=b8)(h:a≠X.env.locals)
  (h1:a∈X.ex\/X.s₀.heap.objs.size<=a)(l:∀x c,X.env.cells.lookup x=b6 c->c≠a)(w:∀p∈X.pn++a4z,p.1≠a):Inv X a4z σ H {s with heap:=h',toks:=t'}:=by
 have d:∀b u,H b=b6 u->b≠a:=λb u e z=>by rw[z,B]at e;cases e
 refine I.step (g':=s.gens) (d':=s.drawn) (ch:=[a]) (λb y=>?_) (λb o _ _ hc e _=>k b o (λz=>hc (by simp[z])) e) (λb o _ _ hc e _=>⟨o.slots,k b o (λz=>hc (by simp[z])) e⟩) (λ_ _ _ _ n=>n)
  (λb o hc e=>⟨o,k b o (λz=>hc (by simp[z])) e⟩) (λ_ _ e=>e) (λ_ _ _ e=>e) (λb G e=>⟨#[],by rw[e];simp⟩) (λm A=>?_) (λb u e=>?_) I.bare
 ·have e:b=a:=by simpa using y
  subst e;exact⟨h1,h,l,w⟩
 ·obtain⟨o,j,i,E,r⟩:=A;exact⟨o,j,i,k _ o (Vf h) E,r⟩
 ·refine(I.hok b u e).stay (λc v hc q=>k c v ?_ q) (λ_ q=>q) λ_ _ q=>q;rcases hc with z|z
  ·rw[z];exact d b u e
  ·exact d c _ z
theorem Inv.tok(I:Inv X a4z σ H s)(t:Nat):Inv X a4z σ H {s with toks:=t}:=I.un (h':=s.heap) (t':=t) Un.refl I.hok
theorem Inv.kept{t':Nat}(I:Inv X a4z σ H s)(k:∀b u,s.heap.get? b=b6 u->h'.get? b=b6 u):Inv X a4z σ H {s with heap:=h',toks:=t'}:=I.un (Un.kept k) (I.hok.kept k)
theorem Inv.laid{a:Addr}{o:HO}{t':Nat}(I:Inv X a4z σ H s)(k:∀b u,s.heap.get? b=b6 u->h'.get? b=b6 u)(c:s.heap.objs.size<=a)(new:ObjOk X.prog X.w (aG H a o) h' a o) :
  Inv X a4z σ (aG H a o) {s with heap:=h',toks:=t'}:=I.un (Un.laid k c (I.hok.fresh c)) (I.hok.laid k c new)
theorem Inv.write{x e:Addr}{o:HO}{t':Nat}(I:Inv X a4z σ H s)(d:pN (H x))(c:e=x\/H e=b6 (.own x))(k:∀b u,b≠e->s.heap.get? b=b6 u->h'.get? b=b6 u)(a:∃u,h'.get? e=b6 u)
  (new:ObjOk X.prog X.w (aG H x o) h' x o):Inv X a4z σ (aG H x o) {s with heap:=h',toks:=t'}:=I.un (Un.write d c k a) (I.hok.write d c k a new)
theorem Inv.pins_of{a:List (Addr×Obj)}(I:Inv X a4z σ H s)(h:∀p∈a,s.heap.get? p.1=b6 p.2/\H p.1=b8/\p.1≠X.env.locals/\p.1∉X.fs/\∀v,p.2.data≠.cell v):Inv X a σ H s:=
 ⟨I.ok,I.os,I.bare,I.base,I.loc,I.cell,I.free,I.freeC,λp b=>(Vk.mp b).elim (λz=>I.pin p (Xk _ z)) (h p),I.hok,I.len⟩
theorem wF{N:List Str}(e:N.Nodup){i j:Nat}{x:Str}(a:N[i]?=b6 x)(b:N[j]?=b6 x):i=j:=by obtain⟨h,c⟩:=T8.mp a;obtain⟨l,d⟩:=T8.mp b;exact(a2v e).mp (c.trans d.symm)
theorem sE{M:YX}{A:UD}{E:Value->T6->Prop}{i:Nat}{x:Str}{v:V}{u:Value}{Q:Unit->T6->Prop}(I:Inv X a4z σ H s)(hN:X.N.Nodup)(hi:X.N[i]?=b6 x)(G:Loc X.env.scope x)(r:RelV v u)
  (h:∀s',Inv X a4z (σ.set i (b6 v)) H s'->(∃a,XT a s.heap s'.heap/\(a=X.env.locals\/X.env.cells.lookup x=b6 a))->Q () s')(hf:X.fn x=c4\/X.env.scope.names.lookup x=b6 .local:=by first|exact .inl rfl|exact .inr rfl|assumption):Uu M A (storeName X.env x u) Q E s:=by
 obtain⟨m,hn,hl⟩:=id I.loc;have hcls:(X.env.scope.kind==.class||(X.env.scope.kind==.module&&X.env.locals != X.env.globals))=false:=by rw[I.ok.kind];rfl
 have N:i<σ.length:=by rw[I.len];exact(T8.mp hi).1
 have cne:=I.cne;have B:∀{a:Addr}{h':Vb},(∃o,s.heap.get? a=b6 o/\H a=b8)->XT a s.heap h'->HOk X.prog X.w H h':=λ{a h'} ha l b ob e=>by
  obtain⟨_,_,K⟩:=ha;refine(I.hok b ob e).stay (λc w' hc q=>(l.2 c ?_).trans q) (λ_ q=>q) λ_ _ q=>q;rintro rfl;rcases hc with rfl|hc
  ·rw[K]at e;cases e
  ·rw[K]at hc;cases hc
 rcases G with O|O
 ·refine wpAny_storeName_local O hn (λh' hn' l=>?_) hcls;obtain⟨oL,_,_,hoL,_⟩:=id hn;refine h _ ⟨I.ok,I.os,I.bare,⟨λb o e n R G=>?_,λb o e n R G=>?_,I.base.free,λb o e G=>?_,I.base.tups,I.base.frzs,I.base.tbls⟩,⟨_,hn',λj y v' w L e3=>?_⟩,λy c e=>?_,I.free,I.freeC,λp hp=>?_,B ⟨oL,hoL,I.free⟩ l,by simpa using I.len⟩ ⟨_,l,.inl rfl⟩
  ·exact(l.2 b (UB (UM (Uh e) I.ok.above))).trans (I.base.keep b o e n R G)
  ·obtain⟨sl,w⟩:=I.base.slot b o e n R G;exact⟨sl,(l.2 b (UB (UM (Uh e) I.ok.above))).trans w⟩
  ·obtain⟨o',w⟩:=I.base.there b o e G;exact⟨o',(l.2 b (UB (UM (Uh e) I.ok.above))).trans w⟩
  ·by_cases U:j=i
   ·subst U;rw[hi]at w;cases w;rw[Vc N]at L;cases L;exact⟨u,r,.inl ⟨O,by simp⟩⟩
   ·rw[Vd (Vf U)]at L;obtain⟨u',r',q⟩:=hl j y v' w L e3;refine⟨u',r',?_⟩;rcases q with⟨k,e⟩|⟨k,c,e,z⟩
    ·refine .inl ⟨k,?_⟩;have:y≠x:=λe=>U (wF hN w (e▸hi));simp[this,e]
    ·exact .inr ⟨k,c,e,z.sameBut l (cne y c e)⟩
  ·obtain⟨w',z⟩:=I.cell y c e;exact⟨w',z.sameBut l (cne y c e)⟩
  ·obtain⟨e,n,ne,nf,d⟩:=I.pin p hp;exact⟨(l.2 p.1 ne).trans e,n,ne,nf,d⟩
 ·have T:X.fn x=true:=by
   rcases hf with z|z
   ·exact z
   ·rw[z]at O;cases O
  obtain⟨c,hc⟩:=I.ok.has x (.inl O);obtain⟨w',z⟩:=I.cell x c hc;refine wpAny_storeName_cell I.ok.kind O hc z (λh' Y l=>?_);obtain⟨oc,hoc,hocd⟩:=id z;refine h {s with heap:=h'} ⟨I.ok,I.os,I.bare,⟨λb o e n R G=>?_,λb o e n R G=>?_,I.base.free,λb o e G=>?_,I.base.tups,I.base.frzs,I.base.tbls⟩,⟨m,hn.sameBut l (Vf (cne x c hc)),λj y v' w L e3=>?_⟩,λy c' e=>?_,I.free,I.freeC,λp hp=>?_,B ⟨oc,hoc,I.freeC x c hc⟩ l,by simpa using I.len⟩ ⟨c,l,.inr hc⟩
  ·exact(l.2 b (UB (UM (Uh e) (I.ok.cab x c T hc)))).trans (I.base.keep b o e n R G)
  ·obtain⟨sl,w⟩:=I.base.slot b o e n R G;exact⟨sl,(l.2 b (UB (UM (Uh e) (I.ok.cab x c T hc)))).trans w⟩
  ·obtain⟨o',w⟩:=I.base.there b o e G;exact⟨o',(l.2 b (UB (UM (Uh e) (I.ok.cab x c T hc)))).trans w⟩
  ·by_cases U:j=i
   ·subst U;rw[hi]at w;cases w;rw[Vc N]at L;cases L;exact⟨u,r,.inr ⟨.inl O,c,hc,Y⟩⟩
   ·rw[Vd (Vf U)]at L;obtain⟨u',r',q⟩:=hl j y v' w L e3;refine⟨u',r',?_⟩;rcases q with q|⟨k,c',e,z'⟩
    ·exact .inl q
    ·refine .inr ⟨k,c',e,z'.sameBut l ?_⟩;rintro rfl;exact U (wF hN w (I.ok.inj _ _ _ e hc▸hi))
  ·by_cases Z:c'=c
   ·subst Z;exact⟨_,Y⟩
   ·obtain⟨w2,z2⟩:=I.cell y c' e;exact⟨w2,z2.sameBut l Z⟩
  ·obtain⟨e,n,ne,nf,d⟩:=I.pin p hp;refine⟨(l.2 p.1 ?_).trans e,n,ne,nf,d⟩;intro q;rw[q,hoc]at e;have q':oc=p.2:=Ux e;exact d w' (by rw[<- q'];exact hocd)
theorem Br{M:YX}{A:UD}{E:Value->T6->Prop}{i:Nat}{x:Str}{v:V}{u:Value}{Q:Unit->T6->Prop}(I:Inv X a4z σ H s)(c:X.N.Nodup)(e:X.N[i]?=b6 x)(j:Loc X.env.scope x)(r:RelV v u)
  (h:∀a,Inv X a4z (σ.set i (b6 v)) H a->Q () a)(d:X.fn x=c4\/X.env.scope.names.lookup x=b6 .local:=by first|exact .inl rfl|exact .inr rfl|assumption):Uu M A (storeName X.env x u) Q E s:=
 sE I c e j r (λa b _=>h a b) d
theorem Inv.call'{a:T6}{ch:List Addr}(I:Inv X a4z σ H s)(l:a.os=s.os)(u:Un (cR X.stack) ch H H' s.heap a.heap)(hok:HOk X.prog X.w H' a.heap)(j:YY a.gens)
  (d:∀b∈ch,(b∈X.ex\/X.s₀.heap.objs.size<=b)/\b≠X.env.locals/\(∀x c,X.env.cells.lookup x=b6 c->c≠b)/\∀p∈X.pn++a4z,p.1≠b):Inv X a4z σ H' a:=by
 obtain⟨h',i,h,n,m⟩:=a;have e:m=s.os:=l;subst e;exact I.call (g':=i) (t':=n) (d':=h) u hok j d
end
noncomputable abbrev XK:=Value->Option Addr->Hp->Prop
noncomputable abbrev St:=List (Option V)
noncomputable abbrev VK:=V->Hp->Prop
noncomputable abbrev TE:=St->Hp->VK->Prop
noncomputable abbrev TT:=St->Hp->(Bool->Hp->Prop)->Prop
noncomputable abbrev TA:=St->Hp->(List V->Hp->Prop)->Prop
structure Ends where
 nx:St->Hp->Prop
 rt:VK
 bk:St->Hp->Prop:=λ_ _=>False
 ct:St->Hp->Prop:=λ_ _=>False
noncomputable abbrev TS:=Ends->St->Hp->Prop
noncomputable def EP(X:Cx)(a4z:List (Addr×Obj))(σ:St)(Q:VK)(u:Value)(a:T6):Prop:=∃v H',Inv X a4z σ H' a/\RelV v u/\Q v H'
noncomputable def TP(X:Cx)(a4z:List (Addr×Obj))(σ:St)(Q:Bool->Hp->Prop)(b:Bool)(a:T6):Prop:=∃H',Inv X a4z σ H' a/\Q b H'
noncomputable def AP(X:Cx)(a4z:List (Addr×Obj))(σ:St)(Q:List V->Hp->Prop)(us:List Value)(a:T6):Prop:=∃vs H',Inv X a4z σ H' a/\Vals vs us/\Q vs H'
noncomputable def SP(X:Cx)(a4z:List (Addr×Obj))(D:Ends)(f:Flow)(c:T6):Prop:=
 match f with
 |.next=>∃a b,Inv X a4z a b c/\D.nx a b|.brk=>∃a b,Inv X a4z a b c/\D.bk a b|.cont=>∃a b,Inv X a4z a b c/\D.ct a b|.ret u=>∃v a b,Inv X a4z a b c/\RelV v u/\D.rt v b
noncomputable def PE(X:Cx)(e:Expr)(t:TE):Prop:=
 ∀(a4z:List (Addr×Obj))(s:T6)(σ:St)(H:Hp)(Q:VK),Inv X a4z σ H s->t σ H Q->Uu (Ut X.prog X.w) X.A (eval e X.env) (EP X a4z σ Q) X.xe s
noncomputable def PT(X:Cx)(e:Expr)(t:TT):Prop:=
 ∀(a4z:List (Addr×Obj))(s:T6)(σ:St)(H:Hp)(Q:Bool->Hp->Prop),Inv X a4z σ H s->t σ H Q->Uu (Ut X.prog X.w) X.A (a0z e X.env (eval e X.env)) (TP X a4z σ Q) X.xe s
noncomputable def PW(X:Cx)(e:Expr)(t:TT):Prop:=
 ∀(a:a1B Value)(a4z:List (Addr×Obj))(s:T6)(σ:St)(H:Hp)(Q:Bool->Hp->Prop),Inv X a4z σ H s->t σ H Q->Uu (Ut X.prog X.w) X.A (a0z e X.env a) (TP X a4z σ Q) X.xe s
theorem PW.pt{X:Cx}{e:Expr}{t:TT}(h:PW X e t):PT X e t:=h _
noncomputable def PA(X:Cx)(es:List Expr)(t:TA):Prop:=
 ∀(pos:VW)(a4z:List (Addr×Obj))(s:T6)(σ:St)(H:Hp)(Q:List V->Hp->Prop),Inv X a4z σ H s->t σ H Q->Uu (Ut X.prog X.w) X.A (spliced (W6 pos (UW es X.env))) (AP X a4z σ Q) X.xe s
noncomputable def PS(X:Cx)(st:Stmt)(t:TS):Prop:=
 ∀(a4z:List (Addr×Obj))(s:T6)(σ:St)(H:Hp)(D:Ends),Inv X a4z σ H s->t D σ H->Uu (Ut X.prog X.w) X.A (exec st X.env) (SP X a4z D) X.xe s
noncomputable def PSs(X:Cx)(st:List Stmt)(t:TS):Prop:=
 ∀(a4z:List (Addr×Obj))(s:T6)(σ:St)(H:Hp)(D:Ends),Inv X a4z σ H s->t D σ H->Uu (Ut X.prog X.w) X.A (execs st X.env) (SP X a4z D) X.xe s
theorem aM{c:Type}{t:a1B c}{Q b:c->T6->Prop}{M:YX}{A:UD}{E:Value->T6->Prop}{s:T6}(h:Uu M A t Q E s)(d:∀a s,Q a s->b a s):Uu M A t b E s:=UK h d λ_ _ x=>x
end L2
namespace L2
open PySem PySem.Spec PyProof.Rows
section
variable{X:Cx}
noncomputable def m8(i:Nat):TE:=λσ H Q=>∃v,σ[i]?=b6 (b6 v)/\Q v H
noncomputable def tC(v:V):TE:=λ_ H Q=>Q v H
theorem pO{i:Nat}{x:Str}{pos:VW}(n:X.N[i]?=b6 x)(w:lS X.env.scope x)(hd:(x==("__debug__":Str))=false:=by decide) (j:(x==("__classdict__":Str))=false:=by decide):PE X (.Name x pos) (m8 i):=by
 intro d s y H Q I h;obtain⟨v,e,h⟩:=h;obtain⟨m,q,o⟩:=I.loc;obtain⟨u,r,l⟩:=o i x v n e w;have fin:EP X d y Q u s:=⟨v,H,I,r,h⟩;rcases l with⟨b,p⟩|⟨b,c,hc,a⟩
 ·exact a2W (wpAny_loadName_local I.ok.kind b q p fin) hd
 ·rcases b with b|b
  ·exact a2W (wpAny_loadName_cell I.ok.kind b hc a fin) hd
  ·exact a2W (wpAny_loadName_free I.ok.kind b hc a fin j) hd
theorem Ht{i j pos}:PE X (.Constant (.int i) j pos) (tC (.int i)):=λ_ _ _ H _ I h=>wpAny_Constant_int ⟨.int i,H,I.tok _,⟨_,rfl⟩,h⟩
theorem Hu{b j pos}:PE X (.Constant (.bool b) j pos) (tC (.bl b)):=λ_ _ _ H _ I h=>Constant_bool ⟨.bl b,H,I,rfl,h⟩
theorem Hv{j pos}:PE X (.Constant .none j pos) (tC .non):=λ_ _ _ H _ I h=>Constant_none ⟨.non,H,I,rfl,h⟩
theorem Bs{x j pos}:PE X (.Constant (.str x) j pos) (tC (.str x)):=λ_ _ _ H _ I h=>Calls.Constant_str ⟨.str x,H,I.tok _,⟨_,rfl⟩,h⟩
noncomputable def Gl(X:Cx)(x:Str):Prop:=X.env.kindOf x=b6 .globalImplicit
theorem f9{E:Value->T6->Prop}{a4z:List (Addr×Obj)}{s:T6}{σ:St}{H:Hp}{x:Str}{u:Value}{pos:VW}{Q:Value->T6->Prop}(I:Inv X a4z σ H s)(a:Gl X x)(b:X.mg x=b6 u)(h:Q u s)
  (hd:(x==("__debug__":Str))=false:=by decide):Uu (Ut X.prog X.w) X.A (eval (.Name x pos) X.env) Q E s:=
 a0k I.ok.kind a (Calls.loadGlobal_global (by rw[I.ok.glob];exact I.mod.glob.keeps I.bk) b h) hd
theorem iH{E:Value->T6->Prop}{a4z:List (Addr×Obj)}{s:T6}{σ:St}{H:Hp}{x:Str}{u:Value}{pos:VW}{Q:Value->T6->Prop}(I:Inv X a4z σ H s)(c:Gl X x)(d:X.mg x=b8)(i:V9 x=b6 u)(h:Q u s)
  (e:x ≠ "__name__":=by decide) (hd:(x==("__debug__":Str))=false:=by decide):Uu (Ut X.prog X.w) X.A (eval (.Name x pos) X.env) Q E s:=by
 obtain⟨j,a,b⟩:=I.mod.blt;exact a0k I.ok.kind c (Calls.loadGlobal_builtin (by rw[I.ok.glob];exact I.mod.glob.keeps I.bk) d (by rw[I.ok.blt];exact a.keeps I.bk) ((b x e).trans i) h) hd
theorem Hw{x:Str}{v:V}{u:Value}{pos:VW}(a:Gl X x)(b:X.mg x=b6 u)(r:RelV v u)(hd:(x==("__debug__":Str))=false:=by decide):PE X (.Name x pos) (tC v):=
 λ_ _ _ H _ I h=>f9 I a b ⟨v,H,I,r,h⟩ hd
theorem Hx{x:Str}{v:V}{u:Value}{pos:VW}(a:Gl X x)(b:X.mg x=b8)(d:V9 x=b6 u)(r:RelV v u)(c:x ≠ "__name__":=by decide) (hd:(x==("__debug__":Str))=false:=by decide):PE X (.Name x pos) (tC v):=
 λ_ _ _ H _ I h=>iH I a b d ⟨v,H,I,r,h⟩ c hd
variable{a b:Expr}{ta tb:TE}{pos:VW}
noncomputable def tB(t:TE):TT:=λσ H Q=>t σ H λx d=>∃c,x=.bl c/\Q c d
theorem Hy{e:Expr}{t:TE}(h:PE X e t)(m:∀c,a0z e X.env c=(do let v <- c;a1U e.pos;holding [v] (truthy v)):=by intro _;rfl):PT X e (tB t):=by intro i s p H Q I hw;refine isTrue_plain (aM (h i s p H _ I hw) λv r ⟨x,j,l,o,n⟩=>?_) (m _);obtain⟨d,rfl,q⟩:=n;cases o;exact Wc ⟨j,l,q⟩
variable{tA tB':TT}{rest:List Expr}
noncomputable def Hz(t u:TT):TT:=λσ H Q=>t σ H λc d=>if c=c4 then u σ d Q else Q b9 d
noncomputable def HA(t u:TT):TT:=λσ H Q=>t σ H λc d=>if c=c4 then Q c4 d else u σ d Q
noncomputable def HB(t:TT):TT:=λσ H Q=>t σ H λc d=>Q (!c) d
theorem HC(i:PT X a tA):PW X (.BoolOp .And [a] pos) tA:=by
 intro m d s j H Q I h;refine isTrue_and (aM (i d s j H Q I h) λc l e=>?_);cases c with
 |true=>exact isTrue_and_nil e|false=>exact e
theorem HD(i:PT X a tA):PW X (.BoolOp .Or [a] pos) tA:=by
 intro m d s j H Q I h;refine isTrue_or (aM (i d s j H Q I h) λc l e=>?_);cases c with
 |false=>exact isTrue_or_nil e|true=>exact e
theorem HE(m:PT X a tA)(n:PW X (.BoolOp .And (b::rest) pos) tB'):PW X (.BoolOp .And (a::b::rest) pos) (Hz tA tB'):=by
 intro p d s l H Q I h;refine isTrue_and (aM (m d s l H _ I h) λc o ⟨e,i,j⟩=>?_);cases c with
 |true=>exact n p d o l e Q i j|false=>exact⟨e,i,j⟩
theorem HF(m:PT X a tA)(n:PW X (.BoolOp .Or (b::rest) pos) tB'):PW X (.BoolOp .Or (a::b::rest) pos) (HA tA tB'):=by
 intro p d s l H Q I h;refine isTrue_or (aM (m d s l H _ I h) λc o ⟨e,i,j⟩=>?_);cases c with
 |true=>exact⟨e,i,j⟩|false=>exact n p d o l e Q i j
theorem HG(i:PT X a tA):PT X (.UnaryOp .Not a pos) (HB tA):=by intro d s j H Q I h;exact isTrue_not (i d s j H (λc e=>Q (!c) e) I h)
noncomputable def HH(ta tb:TE):TE:=λσ H Q=>ta σ H λx d=>∃c,x=.bl c/\if c=c4 then tb σ d Q else Q (.bl b9) d
noncomputable def HJ(ta tb:TE):TE:=λσ H Q=>ta σ H λx d=>∃c,x=.bl c/\if c=c4 then Q (.bl c4) d else tb σ d Q
noncomputable def HK(ta:TE):TE:=λσ H Q=>ta σ H λx d=>∃c,x=.bl c/\Q (.bl (!c)) d
theorem HL{op} {t:TE}(h:PE X a t):PE X (.BoolOp op [a] pos) t:=λa4z s σ H Q I hw=>BoolOp_one (h a4z s σ H Q I hw)
theorem HM(m:PE X a ta)(n:PE X (.BoolOp .And (b::rest) pos) tb):PE X (.BoolOp .And (a::b::rest) pos) (HH ta tb):=by
 intro d s l H Q I h;refine BoolOp_and (aM (m d s l H _ I h) λv p ⟨x,i,j,o,e⟩=>?_);obtain⟨c,rfl,e⟩:=e;cases o;refine Wc ?_;cases c with
 |true=>exact n d p l i Q j e|false=>exact⟨.bl b9,i,j,rfl,e⟩
theorem HN(m:PE X a ta)(n:PE X (.BoolOp .Or (b::rest) pos) tb):PE X (.BoolOp .Or (a::b::rest) pos) (HJ ta tb):=by
 intro d s l H Q I h;refine BoolOp_or (aM (m d s l H _ I h) λv p ⟨x,i,j,o,e⟩=>?_);obtain⟨c,rfl,e⟩:=e;cases o;refine Wc ?_;cases c with
 |false=>exact n d p l i Q j e|true=>exact⟨.bl c4,i,j,rfl,e⟩
theorem HP(l:PE X a ta):PE X (.UnaryOp .Not a pos) (HK ta):=by intro d s n H Q I h;refine UnaryOp_ (aM (l d s n H _ I h) λv o ⟨x,i,j,m,e⟩=>?_);obtain⟨c,rfl,e⟩:=e;cases m;exact not_of (Wc ⟨.bl (!c),i,j,rfl,e⟩)
noncomputable def HQ(t:TT)(ta tb:TE):TE:=λσ H Q=>t σ H λc d=>if c=c4 then ta σ d Q else tb σ d Q
theorem HR{c:Expr}(hc:PT X c tA)(o:PE X a ta)(p:PE X b tb):PE X (.IfExp c a b pos) (HQ tA ta tb):=by
 intro e s i H Q I h;refine wpAny_IfExp (aM (hc e s i H _ I h) λd n ⟨j,l,m⟩=>?_);cases d with
 |true=>exact o e n i j Q l m|false=>exact p e n i j Q l m
end
end L2
namespace L2
open PySem PySem.Spec PyProof.Rows
noncomputable def SqL(K:T3)(H:Hp)(a:Addr)(xs:List V):Prop:=
 Rd H a (.lst xs) \/
  ∃(o:Obj)(b:Array Value)(n:Nat),K.lookup a=b6 o/\o.cls=.type "list"/\o.dict=b8/\o.data=.seq b n/\b.size<=Uo/\Vals xs b.toList
noncomputable def SqT(K:T3)(H:Hp)(a:Addr)(xs:List V):Prop:=
 Rd H a (.tup xs) \/
  ∃(o:Obj)(b:Array Value)(n:Nat),K.lookup a=b6 o/\o.cls=.type "tuple"/\o.dict=b8/\o.data=.seq b n/\b.size<=Uo/\Vals xs b.toList
noncomputable def HS:Value->Option V
 |.none=>b6 .non|.bool b=>b6 (.bl b)|.int i _=>b6 (.int i)|.str x _=>b6 (.str x)|.bytes b _=>b6 (.byt b)|.float b _=>b6 (.flt b)|.ref a=>b6 (.ref a)|.type n=>b6 (.ty n)|_=>b8
theorem RelV.abs{x:V}{u:Value}(r:RelV x u):HS u=b6 x:=by
 cases x with
 |non=>cases r;rfl|bl _=>cases r;rfl|int _=>obtain⟨t,rfl⟩:=r;rfl|str _=>obtain⟨t,rfl⟩:=r;rfl|byt _=>obtain⟨t,rfl⟩:=r;rfl|flt _=>obtain⟨t,rfl⟩:=r;rfl|ref _=>cases r;rfl|ty _=>cases r;rfl
theorem RelV.inj{x y:V}{u:Value}(r:RelV x u)(q:RelV y u):x=y:=Ux (r.abs.symm.trans q.abs)
theorem Vals.inj:∀{xs ys:List V}{us:List Value},Vals xs us->Vals ys us->xs=ys
 |_,_,_,.nil,.nil=>rfl|_,_,_,.cons r t,.cons r' t'=>by rw[r.inj r',Vals.inj t t']
section
variable{X:Cx}{a4z:List (Addr×Obj)}{σ:St}{H:Hp}{s:T6}{a:Addr}{xs ys:List V}
theorem SqL.of{K:T3}(h:H a=b6 (.lst xs)):SqL K H a xs:=.inl (.inl h)
theorem SqT.of{K:T3}(h:H a=b6 (.tup xs)):SqT K H a xs:=.inl (.inl h)
theorem Inv.list(I:Inv X a4z σ H s)(h:SqL X.K H a xs):∃b:List Value,Vals xs b/\PlainL s.heap a b.toArray/\xs.length<=Uo:=by
 rcases h with h|⟨o,b,n,c,hc,hd,d,i,r⟩
 ·obtain⟨z,b,n,r,e⟩:=h.ok I.hok;exact⟨b,r,⟨_,n,e,rfl,rfl,rfl⟩,z⟩
 ·refine⟨b.toList,r,⟨o,n,I.kIn a o c,hc,hd,by simpa using d⟩,?_⟩;have e:=r.length;simp only[Yj]at e;omega
theorem Inv.tuple(I:Inv X a4z σ H s)(h:SqT X.K H a xs):∃b:List Value,Vals xs b/\a4x s.heap a b.toArray/\xs.length<=Uo:=by
 rcases h with h|⟨o,b,n,c,hc,hd,d,i,r⟩
 ·obtain⟨z,b,r,p⟩:=h.ok I.hok;exact⟨b,r,p.tup,z⟩
 ·refine⟨b.toList,r,⟨o,I.kIn a o c,hc,n,by simpa using d⟩,?_⟩;have e:=r.length;simp only[Yj]at e;omega
theorem Inv.list_inj(I:Inv X a4z σ H s)(h:SqL X.K H a xs)(h':SqL X.K H a ys):xs=ys:=by
 obtain⟨c,r,⟨o,n,e,_,_,d⟩,_⟩:=I.list h;obtain⟨b,l,⟨p,m,j,_,_,i⟩,_⟩:=I.list h';rw[e]at j;cases j;rw[d]at i;injection i with d1 _;have:c=b:=by simpa using congrArg a3h d1
 subst this;exact r.inj l
theorem Inv.tuple_inj(I:Inv X a4z σ H s)(h:SqT X.K H a xs)(h':SqT X.K H a ys):xs=ys:=by
 obtain⟨c,r,⟨o,e,_,n,d⟩,_⟩:=I.tuple h;obtain⟨b,l,⟨p,j,_,m,i⟩,_⟩:=I.tuple h';rw[e]at j;cases j;rw[d]at i;injection i with d1 _;have:c=b:=by simpa using congrArg a3h d1
 subst this;exact r.inj l
end
noncomputable abbrev Cx.wish(X:Cx)(E:Value->T6->Prop):Cx:={X with xe:=E}
noncomputable abbrev Cx.nox(X:Cx):Cx:=X.wish λ_ _=>False
theorem Cx.Ok.wish{X:Cx}(ok:X.Ok)(E:Value->T6->Prop):(X.wish E).Ok:=
 ⟨ok.mod,ok.kind,ok.glob,ok.blt,ok.above,ok.inj,ok.has,ok.cab,ok.hd,ok.frames,ok.stk,ok.exf,ok.bs,ok.bsz,ok.noex,ok.exfs,ok.funs,ok.frf⟩
theorem Cx.Ok.unwish{X:Cx}{E:Value->T6->Prop}(ok:(X.wish E).Ok):X.Ok:=
 ⟨ok.mod,ok.kind,ok.glob,ok.blt,ok.above,ok.inj,ok.has,ok.cab,ok.hd,ok.frames,ok.stk,ok.exf,ok.bs,ok.bsz,ok.noex,ok.exfs,ok.funs,ok.frf⟩
section
variable{X:Cx}{a4z:List (Addr×Obj)}{σ:St}{H:Hp}{s:T6}{E:Value->T6->Prop}
theorem Inv.wish(I:Inv X a4z σ H s)(E:Value->T6->Prop):Inv (X.wish E) a4z σ H s:=⟨I.ok.wish E,I.os,I.bare,I.base,I.loc,I.cell,I.free,I.freeC,I.pin,I.hok,I.len⟩
theorem Inv.unwish(I:Inv (X.wish E) a4z σ H s):Inv X a4z σ H s:=⟨I.ok.unwish,I.os,I.bare,I.base,I.loc,I.cell,I.free,I.freeC,I.pin,I.hok,I.len⟩
theorem SP.unwish{D:Ends}{f:Flow}{c:T6}(h:SP (X.wish E) a4z D f c):SP X a4z D f c:=by
 cases f with
 |next=>obtain⟨a,b,I,q⟩:=h;exact⟨a,b,I.unwish,q⟩|brk=>obtain⟨a,b,I,q⟩:=h;exact⟨a,b,I.unwish,q⟩|cont=>obtain⟨a,b,I,q⟩:=h;exact⟨a,b,I.unwish,q⟩|ret u=>obtain⟨v,a,b,I,r,q⟩:=h;exact⟨v,a,b,I.unwish,r,q⟩
theorem PSs.nox{st:List Stmt}{t:TS}(h:PSs X.nox st t):PSs X st t:=λa4z s σ H D I hw=>UK (h a4z s σ H D (I.wish _) hw) (λ_ _ q=>q.unwish) λ_ _ z=>UT z
end
section
variable{X:Cx}{st:Stmt}{rest:List Stmt}{t u:TS}{e:Expr}{te:TE}{pos:VW}
noncomputable def Bt:TS:=λD σ H=>D.nx σ H
noncomputable def HU(t u:TS):TS:=λD σ H=>t {D with nx:=u D} σ H
theorem HV:PSs X [] Bt:=λ_ _ σ H _ I h=>Yx ⟨σ,H,I,h⟩
theorem Bu(h1:PS X st t)(i:PSs X rest u):PSs X (st::rest) (HU t u):=by
 intro a s l H D I h;refine Yk (aM (h1 a s l H {D with nx:=u D} I h) λf j q=>?_);cases f with
 |next=>obtain⟨b,c,d,q⟩:=q;exact i a j b c D d q|ret v=>exact q|brk=>exact q|cont=>exact q
theorem HW(h1:PS X st t):PSs X [st] t:=by
 intro a s b H D I h;refine Yk (aM (h1 a s b H D I h) λf c q=>?_);cases f with
 |next=>exact Yx q|ret v=>exact q|brk=>exact q|cont=>exact q
theorem HX:PS X (.Pass pos) Bt:=λ_ _ σ H _ I h=>wpAny_Pass ⟨σ,H,I,h⟩
theorem Inv.quiet{a4z:List (Addr×Obj)}{σ:St}{H:Hp}{s:T6}(I:Inv X a4z σ H s):interactive X.env=false:=by simp[interactive,I.ok.kind]
noncomputable def HY(te:TE):TS:=λD σ H=>te σ H λ_ a=>D.nx σ a
theorem HZ(i:PE X e te)(j:YK e b8 pos.line X.env=pure false:=by rfl):PS X (.Expr e pos) (HY te):=by intro a s b H D I h;exact a0Y (aM (i a s b H _ I h) λv n ⟨x,c,d,m,l⟩=>⟨b,c,d,l⟩) I.quiet j
noncomputable def Ia(te:TE):TS:=λD σ H=>te σ H D.rt
theorem Ib(i:PE X e te):PS X (.Return (b6 e) pos) (Ia te):=by intro a s b H D I h;exact a3k (aM (i a s b H _ I h) λv m ⟨x,c,d,l,j⟩=>⟨x,b,c,d,l,j⟩)
noncomputable def Ic:TS:=λD _ H=>D.rt .non H
theorem Ie:PS X (.Return b8 pos) Ic:=λ_ _ σ H _ I h=>wpAny_Return_none ⟨.non,σ,H,I,rfl,h⟩
noncomputable def Ig(c:TT)(t u:TS):TS:=λD σ H=>c σ H λb a=>if b=c4 then t D σ a else u D σ a
theorem Ih{c:Expr}{a b:List Stmt}{p:TT}(hc:PT X c p)(q:PSs X a t)(r:PSs X b u):PS X (.If c a b pos) (Ig p t u):=by
 intro i s j H D I h;refine wpAny_If (aM (hc i s j H _ I h) λd o ⟨l,m,n⟩=>?_);cases d with
 |true=>exact q i o j l D m n|false=>exact r i o j l D m n
end
noncomputable abbrev TG:=V->St->Hp->(St->Hp->Prop)->Prop
noncomputable abbrev m9:=List V->St->Hp->(St->Hp->Prop)->Prop
noncomputable def PG(X:Cx)(a:Expr)(t:TG):Prop:=
 ∀(a4z:List (Addr×Obj))(s:T6)(σ:St)(H:Hp)(v:V)(u:Value)(Q:St->Hp->Prop),Inv X a4z σ H s->RelV v u->t v σ H Q->
  Uu (Ut X.prog X.w) X.A (Z5 a X.env u) (λ_ d=>∃b c,Inv X a4z b c d/\Q b c) X.xe s
noncomputable def pP(X:Cx)(d:List Expr)(t:m9):Prop:=
 ∀(a4z:List (Addr×Obj))(s:T6)(σ:St)(H:Hp)(vs:List V)(us:List Value)(Q:St->Hp->Prop),Inv X a4z σ H s->Vals vs us->t vs σ H Q->
  Uu (Ut X.prog X.w) X.A (assignInOrder ((WK d X.env).map (·.2)) us) (λ_ c=>∃a b,Inv X a4z a b c/\Q a b) X.xe s
section
variable{X:Cx}{pos:VW}
noncomputable def wG(i:Nat):TG:=λv σ H Q=>Q (σ.set i (b6 v)) H
theorem Bv{i:Nat}{x:Str}(c:X.N.Nodup)(e:X.N[i]?=b6 x)(j:Loc X.env.scope x)(d:X.fn x=c4\/X.env.scope.names.lookup x=b6 .local:=by first|exact .inl rfl|exact .inr rfl|assumption):PG X (.Name x pos) (wG i):=by intro b s m H v u Q I r h;exact a3j (Br I c e j r (λl a=>⟨_,H,a,h⟩) d)
noncomputable def Bw:m9:=λvs σ H Q=>vs=[]/\Q σ H
noncomputable def Bx(t:TG)(u:m9):m9:=λvs σ H Q=>∃v r,vs=v::r/\t v σ H λa H'=>u r a H' Q
theorem Ii:pP X [] Bw:=by intro a s b H d c Q I r h;obtain⟨e,h⟩:=h;subst e;cases r;exact assignInOrder_nil ⟨b,H,I,h⟩
theorem Ij{e:Expr}{es:List Expr}{t:TG}{u:m9}(h1:PG X e t)(j:pP X es u)
  (l:(WK (e::es) X.env).map (·.2)=Z5 e X.env::(WK es X.env).map (·.2):=by rfl):pP X (e::es) (Bx t u):=by
 intro a s p H x q Q I r h;obtain⟨v,w,i,h⟩:=h;subst i;cases r with
 |cons r n=>rw[l];refine assignInOrder_cons (aM (h1 a s p H _ _ _ I r h) λ_ o ⟨b,c,d,m⟩=>?_);exact j a o b c _ _ Q d n m
noncomputable def By(te:TE)(g:TG):TS:=λD σ H=>te σ H λx a=>g x σ a D.nx
theorem Ik{tg e:Expr}{te:TE}{g:TG}(i:PE X e te)(j:PG X tg g)(l:swapsWithSole [tg] e pos.line X.env=pure false:=by rfl)(hw:a1z [tg] e X.env=pure none:=by rfl)
  (h1:(WK [tg] X.env).map (·.2)=[Z5 tg X.env]:=by rfl):PS X (.Assign [tg] e pos) (By te g):=by
 intro a s b H D I h;refine wpAny_Assign_stores (aM (i a s b H _ I h) λv o ⟨x,c,d,n,m⟩=>?_) l hw;rw[h1];exact aM (j a o b c x v _ d n m) λ_ p q=>q
theorem Bz{i:Nat}{x:Str}{e:Expr}{te:TE}{a:VW}(l:X.N.Nodup)(o:X.N[i]?=b6 x)(q:Loc X.env.scope x)(m:PE X e te)(p:YK e (b6 (.Name x a)) pos.line X.env=pure false:=by rfl)(n:X.fn x=c4\/X.env.scope.names.lookup x=b6 .local:=by first|exact .inl rfl|exact .inr rfl|assumption) :
  PS X (.Assign [.Name x a] e pos) (By te (wG i)):=by
 intro b s w H D I h;refine a3l (aM (m b s w H _ I h) λv z ⟨y,c,d,u,r⟩=>?_) p;exact Br d l o q u (λA j=>⟨_,c,j,r⟩) n
end
section
variable{X:Cx}{pos:VW}
end
structure It where
 go:Nat->Hp->Prop
 yld:Nat->Hp->V->Hp->Prop
 stop:Nat->Hp->Prop
noncomputable def gY(X:Cx)(a4z:List (Addr×Obj))(H:Hp)(b:Addr):Prop:=
 H b=b8/\b≠X.env.locals/\b∉X.fs/\(b∈X.ex\/X.s₀.heap.objs.size<=b)/\(∀x c,X.env.cells.lookup x=b6 c->c≠b)/\∀p∈X.pn++a4z,p.1≠b
theorem Inv.fpOk{X:Cx}{a4z:List (Addr×Obj)}{σ:St}{H H':Hp}{s:T6}{b:Addr}(I:Inv X a4z σ H s)(a:s.heap.objs.size<=b)(d:H' b=b8):gY X a4z H' b:=by
 refine⟨d,Wf (UM I.lt a),I.nofs a,.inr (VD I.sz a),λx c e z=>?_,λp h z=>?_⟩
 ·obtain⟨v,q⟩:=I.cell x c e;exact absurd (UM q.lt (by rw[z];exact a)) (Xd _)
 ·exact absurd (UM (Uh (I.pin p h).1) (by rw[z];exact a)) (Xd _)
noncomputable abbrev Qc(X:Cx):Prop:=X.calm=c4
structure Turn(q:Cx->Prop)(P:Ur)(w:UJ)(K:T3)(tg:Expr)(J:It)(fp:List Addr)(it:Addr)(tn:Nat->Vb->Prop):Prop where
 mem:it∈fp
 obj:∀i h,tn i h->∀b∈fp,∃o,h.get? b=b6 o/\∀v,o.data≠.cell v
 keep:∀i h h',tn i h->(∀b∈fp,∀o,h.get? b=b6 o->h'.get? b=b6 o)->tn i h'
 item:∀(X:Cx),X.prog=P->X.w=w->X.K=K->q X->∀(i:Nat)(a4z:List (Addr×Obj))(s:T6)(σ:St)(H:Hp)(E:Value->T6->Prop),Inv X a4z σ H s->(∀b∈fp,gY X a4z H b)->tn i s.heap->J.go i H->
  Uu (Ut P w) X.A (Y0 (.ref it)) (λr s1=>∃u,r=b6 u /\
   Uu (Ut P w) X.A (Zp tg (.ref it) u) (λ_ s2=>∃x H',Inv X a4z σ H' s2/\RelV x u/\J.yld i H x H'/\tn (i+1) s2.heap/\∀b∈fp,H' b=b8) E s1) E s
 done:∀(X:Cx),X.prog=P->X.w=w->X.K=K->q X->∀(i:Nat)(a4z:List (Addr×Obj))(s:T6)(σ:St)(H:Hp)(E:Value->T6->Prop),Inv X a4z σ H s->(∀b∈fp,gY X a4z H b)->tn i s.heap->J.stop i H->
  Uu (Ut P w) X.A (Y0 (.ref it)) (λr s1=>r=b8/\Inv X a4z σ H s1) E s
 self:∀(A:UD)(i:Nat)(s:T6)(Q:Value->T6->Prop)(E:Value->T6->Prop),tn i s.heap->Q (.ref it) s->Uu (Ut P w) A (a1a (.ref it)) Q E s
noncomputable abbrev TI:=St->Hp->(It->Hp->Prop)->Prop
noncomputable def sF(q:Cx->Prop)(X:Cx)(a4z:List (Addr×Obj))(σ:St)(tg:Expr)(R:It->Hp->Prop)(a:Value)(s2:T6):Prop:=
 ∃(d:Addr)(c:List Addr)(e:Nat->Vb->Prop)(J:It)(H':Hp),a=.ref d/\Inv X a4z σ H' s2/\Turn q X.prog X.w X.K tg J c d e/\e 0 s2.heap/\(∀b∈c,gY X a4z H' b)/\R J H'
noncomputable abbrev Il:=sF Qc
noncomputable def pQ(q:Cx->Prop)(X:Cx)(tg iter:Expr)(b:TI):Prop:=
 ∀(a4z:List (Addr×Obj))(s:T6)(σ:St)(H:Hp)(R:It->Hp->Prop),Inv X a4z σ H s->b σ H R->
  Uu (Ut X.prog X.w) X.A (eval iter X.env) (λv a=>Uu (Ut X.prog X.w) X.A (a1a v) (sF q X a4z σ tg R) X.xe a) X.xe s
noncomputable abbrev PI:=pQ Qc
theorem pR {M:YX}{A:UD}{E:Value->T6->Prop}{s:T6}{tg:Expr}{b:Addr}{u:Value}{o:Obj}{n:String}{vs:Array Value}{Q:Unit->T6->Prop}(d:s.heap.get? b=b6 o)(hc:o.cls=.type n)(hd:o.data=.fields vs)
  (c:["enumerate","zip","dict_itemiterator","dict_reverseitemiterator","odict_iterator","itertools.zip_longest","itertools.pairwise"].contains n=b9) (a:Q () s):Uu M A (Zp tg (.ref b) u) Q E s:=by
 unfold Zp
 cases tg<;>first
  | exact Ui a
  | (cases u<;>first
    | exact Ui a
    | (refine T5 (a0X d ?_)
       rw [hc,hd]
       show Uu M A (if (["enumerate","zip","dict_itemiterator","dict_reverseitemiterator","odict_iterator","itertools.zip_longest","itertools.pairwise"].contains n&&vs[0]? == b6 (WE _))=c4 then _ else _) Q E s
       rw [if_neg (by intro h;rw [c,Yv] at h;cases h)]
       exact Ui a))
noncomputable def wH (K:T3)(a:Addr):It:=
 ⟨fun i H=>∃ b x,SqL K H a b/\b[i]? = b6 x,fun i H x c=>c=H/\∀ b,SqL K H a b->b[i]? = b6 x,fun i H=>∃ b,SqL K H a b/\b.length<=i⟩
noncomputable def wI(K:T3)(a:Addr):It:=
 ⟨λi H=>∃b x,SqT K H a b/\b[i]?=b6 x,λi H x c=>c=H/\∀b,SqT K H a b->b[i]?=b6 x,λi H=>∃b,SqT K H a b/\b.length<=i⟩
noncomputable def jD(lo:Int)(n:Nat):It:=⟨λi _=>i<n,λi H x H'=>H'=H/\x=.int (lo+i),λi _=>n<=i⟩
theorem Im{P:Ur}{w:UJ}{K:T3}{tg:Expr}(a l:Addr):Turn Qc P w K tg (wH K a) [l] l (λi h=>h.IsListIter l a i) where
 mem:=by simp
 obj:=λi h st b j=>by
  have e:b=l:=by simpa using j
  subst e;obtain⟨o,e,c,d⟩:=st;exact⟨o,e,λv z=>by rw[d]at z;cases z⟩
 keep:=λi h q st k=>st.at λo e=>k l (by simp) o e;item:=by intro X O hw N hc i m s Y H E I r st Q;subst O hw N;obtain⟨xs,x,y,R⟩:=Q;obtain⟨T,U,p,hz⟩:=I.list y;obtain⟨u,hu,ru⟩:=U.get R;obtain⟨A,B,f2,G,L,M⟩:=r l (by simp);refine a1S st p.isList (x:=u) (by simpa using hu) λq n sb=>?_;have Z:Inv X m Y H {s with heap:=q}:=I.turned (t':=s.toks) (λb o j e=>(sb.2 b j).trans e) A B G L M;obtain⟨o,e,c,d⟩:=id n;exact⟨u,rfl,pR (s:={s with heap:=q}) e c d (by decide) ⟨x,H,Z,ru,⟨rfl,λys hy=>by rw[I.list_inj hy y];exact R⟩,n,λb j=>(r b j).1⟩⟩
 done:=by intro X O hw N hc i m s Y H E I r st Q;subst O hw N;obtain⟨xs,y,R⟩:=Q;obtain⟨T,U,p,hz⟩:=I.list y;obtain⟨A,B,f2,G,L,M⟩:=r l (by simp);have hl:=U.length;exact a2k (I.ok.hd hc) st p.isList (by simp;omega) λq eb=>⟨rfl,I.turned (t':=s.toks) (λb o j e=>eb b o j e) A B G L M⟩
 self:=λ_ _ _ _ _ st h=>wpAny_pyIter_listiter st h
theorem Io{P:Ur}{w:UJ}{K:T3}{tg:Expr}(a l:Addr):Turn Qc P w K tg (wI K a) [l] l (λi h=>h.IsTupleIter l a i) where
 mem:=by simp
 obj:=λi h st b j=>by
  have e:b=l:=by simpa using j
  subst e;obtain⟨o,e,c,d⟩:=st;exact⟨o,e,λv z=>by rw[d]at z;cases z⟩
 keep:=λi h r st k=>st.at λo e=>k l (by simp) o e;item:=by intro X Q hw O hc i n s Y H E I y st R;subst Q hw O;obtain⟨xs,x,A,T⟩:=R;obtain⟨m,U,p,hz⟩:=I.tuple A;obtain⟨u,hu,ru⟩:=U.get T;obtain⟨B,G,f2,L,M,N⟩:=y l (by simp);refine wpAny_pyNext_tuple_item st (show s.heap.IsTuple a m.toArray from p) (x:=u) (by simpa using hu) λr q sb=>?_;have Z:Inv X n Y H {s with heap:=r}:=I.turned (t':=s.toks) (λb o j e=>(sb.2 b j).trans e) B G L M N;obtain⟨o,e,c,d⟩:=id q;exact⟨u,rfl,pR (s:={s with heap:=r}) e c d (by decide) ⟨x,H,Z,ru,⟨rfl,λys hy=>by rw[I.tuple_inj hy A];exact T⟩,q,λb j=>(y b j).1⟩⟩
 done:=by intro X Q hw O hc i n s Y H E I y st R;subst Q hw O;obtain⟨xs,A,T⟩:=R;obtain⟨m,U,p,hz⟩:=I.tuple A;obtain⟨B,G,f2,L,M,N⟩:=y l (by simp);have hl:=U.length;exact wpAny_pyNext_tuple_end (I.ok.hd hc) st (show s.heap.IsTuple a m.toArray from p) (by simp;omega) λr eb=>⟨rfl,I.turned (t':=s.toks) (λb o j e=>eb b o j e) B G L M N⟩
 self:=λ_ _ _ _ _ st h=>wpAny_pyIter_tupleiter st h
theorem nB{P:Ur}{w:UJ}{K:T3}{tg:Expr}(a:Addr)(lo:Int)(n:Nat):Turn Qc P w K tg (jD lo n) [a] a (λi h=>X0 h a (lo+(i:Nat)*1) ((n:Int)-(i:Nat)) 1) where
 mem:=by simp
 obj:=λi h st b c=>by
  have e:b=a:=by simpa using c
  subst e;exact⟨_,st,λv z=>by
   have T:Vq _=Data.cell v:=z;cases T⟩
 keep:=λi h l st k=>k a (by simp) _ st;item:=by intro X A hw y hc i d s L H E I m st B;subst A hw y;obtain⟨p,q,O,r,u,x⟩:=m a (by simp);have W:=Walks.range (prog:=X.prog) (w:=X.w) (I.ok.hd hc) a lo 1 n;refine W.item i s _ _ B st λv l G Q j R=>?_;obtain⟨t,rfl⟩:=Q;have M:Inv X d L H {s with heap:=l,toks:=G}:=I.turned (λb o c e=>R b o (by simpa using c) e) p q r u x;refine⟨_,rfl,pR (s:={s with heap:=l,toks:=G}) (n:="range_iterator") j rfl rfl (by decide) ⟨.int (lo+i),H,M,⟨t,?_⟩,⟨rfl,rfl⟩,j,λb c=>(m b c).1⟩⟩;rw[a4k]
 done:=by intro X A hw y hc i d s L H E I m st B;subst A hw y;obtain⟨p,q,O,r,u,x⟩:=m a (by simp);exact wpAny_pyNext_range_end (I.ok.hd hc) st (by have:n<=i:=B;omega) λl N=>⟨rfl,I.turned (t':=s.toks) (λb o c e=>N b o c e) p q r u x⟩
 self:=λ_ _ _ _ _ st h=>wpAny_pyIter_rangeiter st h
end L2
namespace L2
open PySem PySem.Spec PyProof.Rows
section
variable{X:Cx}{tg:Expr}
theorem BA{q:Cx->Prop}(tr:∀(d:Addr)(lo:Int)(n:Nat),Turn q X.prog X.w X.K tg (jD lo n) [d] d (λi h=>X0 h d (lo+(i:Nat)*1) ((n:Int)-(i:Nat)) 1)){a4z:List (Addr×Obj)}{σ:St}{H:Hp}{s:T6}{R:It->Hp->Prop}{E:Value->T6->Prop}{lo a:Int}{t u v:a2J}{tk:Nat}(I:Inv X a4z σ H s)(h1:-(2^62)<=lo)(m:lo<2^62)(p:-(2^62)<=a)(r:a<2^62)
  (w:R (jD lo (a-lo).toNat) H):Uu (Ut X.prog X.w) X.A (a1a (.ref s.heap.objs.size)) (sF q X a4z σ tg R) E {s with heap:=s.heap.push {cls:=.type "range",data:=.fields #[.int lo t,.int a u,.int 1 v]},toks:=tk}:=by
 refine wpAny_pyIter_range (IsRange.new ..) (small_one h1 m p r) ?_;have c:Inv X a4z σ H {s with heap:=s.heap.push {cls:=.type "range",data:=.fields #[.int lo t,.int a u,.int 1 v]},toks:=tk}:=I.kept λb o e=>Ua _ e;refine⟨(s.heap.push {cls:=.type "range",data:=.fields #[.int lo t,.int a u,.int 1 v]}).objs.size,[(s.heap.push {cls:=.type "range",data:=.fields #[.int lo t,.int a u,.int 1 v]}).objs.size],_,_,H,rfl,
  c.kept (t':=tk) λb o e=>Ua _ e,tr _ lo (a-lo).toNat,?_,λb x=>?_,w⟩
 ·have j:lo+((0:Nat):Int)*1=lo:=by simp
  have l:(((a-lo).toNat:Nat):Int)-((0:Nat):Int)=a3K lo a 1:=by rw[rangeSize_one];split<;>omega
  show X0 _ _ (lo+((0:Nat):Int)*1) ((((a-lo).toNat:Nat):Int)-((0:Nat):Int)) 1;rw[j,l];exact UC _ rfl
 ·have e:b=(s.heap.push {cls:=.type "range",data:=.fields #[.int lo t,.int a u,.int 1 v]}).objs.size:=by simpa using x
  subst e;exact c.fpOk (Up _) (c.hok.fresh (Up _))
noncomputable def Ip(b:TA):TI:=λσ H R=>b σ H λvs a=>∃j:Int,vs=[.int j]/\-(2^62)<=j/\j<2^62/\R (jD 0 j.toNat) a
noncomputable def Iq(b:TA):TI:=λσ H R=>b σ H λvs a=>∃i j:Int,vs=[.int i,.int j]/\(-(2^62)<=i/\i<2^62/\-(2^62)<=j/\j<2^62)/\R (jD i (j-i).toNat) a
theorem Ir{q:Cx->Prop}(tr:∀(c:Addr)(lo:Int)(n:Nat),Turn q X.prog X.w X.K tg (jD lo n) [c] c (λi h=>X0 h c (lo+(i:Nat)*1) ((n:Int)-(i:Nat)) 1)){a:Expr}{l:TA}{p pos:VW}(u:Gl X "range") (v:X.mg "range"=b8) (o:PA X [a] l)(w:UW [a] X.env=[(b9,eval a X.env)]:=by rfl):pQ q X tg (.Call (.Name "range" p) [a] [] pos) (Ip l):=by
 intro b s B H R I h;refine Call_ (iH I u v boot_range (W7 (aM (o pos b s B H _ I h) λK G ⟨L,E,m,z,d⟩=>?_) w rfl));obtain⟨j,e,d,x,y⟩:=d;subst e;cases z with
 |cons r A=>cases A;obtain⟨t,rfl⟩:=r;exact call_range_1 (BA tr m (by omega) (by omega) d x (by simpa using y))
theorem Iu{a b:Expr}{n:TA}{p pos:VW}(v:Gl X "range") (w:X.mg "range"=b8) (u:PA X [a,b] n)(x:UW [a,b] X.env=[(b9,eval a X.env),(b9,eval b X.env)]:=by rfl)(c:UW [b] X.env=[(b9,eval b X.env)]:=by rfl) :
  PI X tg (.Call (.Name "range" p) [a,b] [] pos) (Iq n):=by
 intro d s G H R I h;refine Call_ (iH I v w boot_range (W7 (aM (u pos d s G H _ I h) λN L ⟨O,K,o,E,l⟩=>?_) (by rw[x,c]) (by rw[c];rfl)));obtain⟨i,j,e,⟨l,y,z,A⟩,q⟩:=l;subst e;cases E with
 |cons r m=>
  cases m with
  |cons B m=>cases m;obtain⟨t,rfl⟩:=r;obtain⟨M,rfl⟩:=B;exact call_range_2 (BA nB o l y z A q)
noncomputable def Iw(l:TI)(g:TG)(j:TS):TS:=λD σ H=>l σ H λJ e=>∃W:Nat->Nat->St->Hp->Prop,(∃m,W 0 m σ e)/\∀i m σ H,W i m σ H->
 (J.stop i H/\D.nx σ H)\/(J.go i H/\∃N:St->Hp->Prop,(∀b a,N b a->∃d,d<m/\W (i+1) d b a)/\∀x a,J.yld i H x a->g x σ a λc h=>j {D with nx:=N,ct:=N,bk:=D.nx} c h)
noncomputable def j7(a:List Addr)(h:Vb):List (Addr×Obj):=a.filterMap λb=>(h.get? b).map λo=>(b,o)
theorem nC{a:List Addr}{h:Vb}{b:Addr}{o:Obj}(c:b∈a)(e:h.get? b=b6 o):(b,o)∈j7 a h:=a1P.mpr ⟨b,c,by rw[e];rfl⟩
theorem Iy{a:List Addr}{h:Vb}{p:Addr×Obj}(i:p∈j7 a h):p.1∈a/\h.get? p.1=b6 p.2:=by
 obtain⟨b,d,e⟩:=a1P.mp i;cases q:h.get? b with
 |none=>rw[q]at e;cases e|some o=>rw[q]at e;have c:(b,o)=p:=Ux e;subst c;exact⟨d,q⟩
theorem Inv.pinned{a4z:List (Addr×Obj)}{σ:St}{H:Hp}{s:T6}{a:List Addr}(I:Inv X a4z σ H s)(m:∀b∈a,gY X a4z H b)(n:∀b∈a,∃o,s.heap.get? b=b6 o/\∀v,o.data≠.cell v):Inv X (a4z++j7 a s.heap) σ H s:=
 I.pins_of λp q=>(Vk.mp q).elim (λz=>I.pin p (U0 _ z)) λz=>by obtain⟨h,e⟩:=Iy z;obtain⟨i,j,l,_⟩:=m p.1 h;obtain⟨o,c,d⟩:=n p.1 h;rw[e]at c;cases c;exact⟨e,i,j,l,d⟩
theorem Inv.unpinned{a4z pl:List (Addr×Obj)}{σ:St}{H:Hp}{s:T6}(I:Inv X (a4z++pl) σ H s):Inv X a4z σ H s:=I.pins_of λp a=>I.pin p (U0 _ (Xk _ a))
theorem Iz{iter:Expr}{body:List Stmt}{wi:TI}{g:TG}{tb:TS}{pos:VW}(K:a3D (Ut X.prog X.w) X.A X.env X.xe)(hc:X.calm=c4)(hi:PI X tg iter wi)(hg:PG X tg g)(q:PSs X body tb)
  (hs:∀x,Xr iter X.env x=pure x:=by intro _;rfl):PS X (.For tg iter body [] pos) (Iw wi g tb):=by
 intro c s σ H D I h;refine wpAny_For (aM (hi c s σ H _ I h) λv s1 h1=>aM h1 λitv s2 h2=>?_) hs;obtain⟨it,E,tn,J,H2,e,I2,T,st2,f2,W,⟨m0,w0⟩,turn⟩:=h2;subst e
  -- what stays c4 of the iterator's objects through the loop
 have w:∀{H':Hp},(∀b∈E,H' b=b8)->∀b∈E,gY X c H' b:=λhn b q=>⟨hn b q,(f2 b q).2⟩;refine a2S (λn s'=>∃i y H',Inv X c y H' s'/\tn i s'.heap/\(∀b∈E,H' b=b8)/\W i n y H') ?_ m0 ⟨0,σ,H2,I2,st2,λb q=>(f2 b q).1,w0⟩;rintro n s3 ⟨i,z,Q,I3,M,G,w3⟩;rcases turn i n z Q w3 with⟨O,qn⟩|⟨go,N,hN,step⟩
 ·refine Yw K (aM (T.done X rfl rfl rfl hc i c s3 z Q X.xe I3 (w G) M O) λr s4 ⟨Y,I4⟩=>?_);subst Y;exact Yx ⟨z,Q,I4,qn⟩
 ·refine Yw K (aM (T.item X rfl rfl rfl hc i c s3 z Q X.xe I3 (w G) M go) λr s4 ⟨u,Y,h4⟩=>?_);subst Y;refine Yw K (aM h4 λ_ s5 ⟨x,H5,I5,r5,y5,B,U⟩=>?_);have R:=I5.pinned (w U) (T.obj _ _ B);refine Yw K (aM (hg _ s5 z H5 x u _ R r5 (step x H5 y5)) λ_ s6 ⟨σ6,H6,I6,q6⟩=>?_);refine Yw K (aM (q _ s6 σ6 H6 _ I6 q6) λf Z A=>?_);have p:∀{a:St}{j:Hp},Inv X (c++j7 E s5.heap) a j Z->N a j->∃m,m<n/\∃i y H',Inv X c y H' Z/\tn i Z.heap/\(∀b∈E,H' b=b8)/\W i m y H':=λ{a j} l L=>by obtain⟨m',hm,w7⟩:=hN a j L;refine⟨m',hm,i+1,a,j,l.unpinned,T.keep _ _ _ B λb q o e=>(l.pin (b,o) (U0 _ (U0 _ (nC q e)))).1,λb q=>?_,w7⟩;obtain⟨o,e,d⟩:=T.obj _ _ B b q;exact(l.pin (b,o) (U0 _ (U0 _ (nC q e)))).2.1
  cases f with
  |next=>obtain⟨a,j,l,L⟩:=A;exact p l L|cont=>obtain⟨a,j,l,L⟩:=A;exact p l L|brk=>obtain⟨a,j,l,A⟩:=A;exact⟨a,j,l.unpinned,A⟩|ret v=>obtain⟨x7,a,j,l,r7,A⟩:=A;exact⟨x7,a,j,l.unpinned,r7,A⟩
end
end L2
namespace L2
open PySem PySem.Spec PyProof.Rows
noncomputable abbrev R2:=V->V->Hp->VK->Prop
noncomputable def OpR(X:Cx)(f:Value->Value->a1B Value)(r:R2):Prop:=
 ∀(a4z:List (Addr×Obj))(s:T6)(σ:St)(H:Hp)(x y:V)(v u:Value)(Q:VK),Inv X a4z σ H s->RelV x v->RelV y u->r x y H Q->
  Uu (Ut X.prog X.w) X.A (f v u) (EP X a4z σ Q) X.xe s
noncomputable def wJ(X:Cx)(f:Value->a1B Value)(r:V->Hp->VK->Prop):Prop:=
 ∀(a4z:List (Addr×Obj))(s:T6)(σ:St)(H:Hp)(x:V)(v:Value)(Q:VK),Inv X a4z σ H s->RelV x v->r x H Q->
  Uu (Ut X.prog X.w) X.A (f v) (EP X a4z σ Q) X.xe s
noncomputable def CallR(X:Cx)(f:Value)(r:List V->Hp->VK->Prop):Prop:=
 ∀(a4z:List (Addr×Obj))(s:T6)(σ:St)(H:Hp)(xs:List V)(us:List Value)(Q:VK),Inv X a4z σ H s->Vals xs us->r xs H Q->
  Uu (Ut X.prog X.w) X.A (call f us) (EP X a4z σ Q) X.xe s
noncomputable def IA(X:Cx)(r:V->Hp->(Bool->Hp->Prop)->Prop):Prop:=
 ∀(a4z:List (Addr×Obj))(s:T6)(σ:St)(H:Hp)(x:V)(v:Value)(Q:Bool->Hp->Prop),Inv X a4z σ H s->RelV x v->r x H Q->
  Uu (Ut X.prog X.w) X.A (truthy v) (TP X a4z σ Q) X.xe s
noncomputable def pS(r:R2)(c d:TE):TE:=λσ H Q=>c σ H λx a=>d σ a λy b=>r x y b Q
noncomputable def IB(r:V->Hp->VK->Prop)(b:TE):TE:=λσ H Q=>b σ H λx a=>r x a Q
noncomputable def rI(C:Int->Int->Prop)(g:Int->Int->V):R2:=λx y H Q=>∃i j,x=.int i/\y=.int j/\C i j/\Q (g i j) H
noncomputable def fN(g:Int->Int->V):R2:=λx y H Q=>∃i j,x=.int i/\y=.int j/\Q (g i j) H
noncomputable def rU(g:Int->V):V->Hp->VK->Prop:=λx H Q=>∃i,x=.int i/\Q (g i) H
section
variable{X:Cx}{a b c:Expr}{ta tb tc:TE}{pos:VW}
theorem wK(o:PE X a ta)(p:PE X b tb){a4z:List (Addr×Obj)}{s:T6}{σ:St}{H:Hp}{R:V->V->Hp->Prop}(I:Inv X a4z σ H s)
  (h:ta σ H λx l=>tb σ l λy d=>R x y d){Q:Value->T6->Prop}{f:Value->Value->a1B Value}
  (q:∀v u j x y d,Inv X a4z σ d j->RelV x v->RelV y u->R x y d->Uu (Ut X.prog X.w) X.A (f v u) Q X.xe j) :
  Uu (Ut X.prog X.w) X.A (eval a X.env) (λv e=>Uu (Ut X.prog X.w) X.A (eval b X.env) (λu i=>Uu (Ut X.prog X.w) X.A (f v u) Q X.xe i) X.xe e) X.xe s:=by
 refine aM (o a4z s σ H _ I h) λv B ⟨x,l,m,z,r⟩=>?_;refine aM (p a4z B σ l _ m r) λu j ⟨y,d,n,A,w⟩=>?_;exact q v u j x y d n z A w
theorem IC{op:a1j}{r:R2}(m:OpR X (XA op) r)(j:PE X a ta)(l:PE X b tb):PE X (.BinOp a op b pos) (pS r ta tb):=by intro d s w H Q I h;exact wpAny_BinOp (wK j l I h λv u p x y e i n o q=>m d p w e x y v u Q i n o q)
theorem ID{op:UnaryOp}{r:V->Hp->VK->Prop}(m:wJ X (unaryOp op) r)(l:PE X a ta):PE X (.UnaryOp op a pos) (IB r ta):=by intro d s e H Q I h;exact UnaryOp_ (aM (l d s e H _ I h) λv p ⟨x,i,j,o,n⟩=>m d p e i x v Q j o n)
theorem sG{f:Value->Value->a1B Value}{C:Int->Int->Prop}{g:Int->Int->Int}
  (d:∀(i j:Int)(t u:a2J)(s:T6)(Q:Value->T6->Prop)(E:Value->T6->Prop),C i j->Q (.int (g i j) s.toks) {s with toks:=s.toks+1}->Uu (Ut X.prog X.w) X.A (f (.int i t) (.int j u)) Q E s) :
  OpR X f (rI C λi j=>.int (g i j)):=by
 intro e s o H x y v u Q I l m h;obtain⟨i,j,rfl,rfl,hc,q⟩:=h;obtain⟨t,rfl⟩:=l;obtain⟨n,rfl⟩:=m;exact d i j t n s _ _ hc ⟨.int (g i j),H,I.tok _,⟨_,rfl⟩,q⟩
theorem BB{f:Value->Value->a1B Value}{g:Int->Int->Int}
  (d:∀(i j:Int)(t u:a2J)(s:T6)(Q:Value->T6->Prop)(E:Value->T6->Prop),Q (.int (g i j) s.toks) {s with toks:=s.toks+1}->Uu (Ut X.prog X.w) X.A (f (.int i t) (.int j u)) Q E s) :
  OpR X f (fN λi j=>.int (g i j)):=by
 intro e s o H x y v u Q I l m h;obtain⟨i,j,rfl,rfl,q⟩:=h;obtain⟨t,rfl⟩:=l;obtain⟨n,rfl⟩:=m;exact d i j t n s _ _ ⟨.int (g i j),H,I.tok _,⟨_,rfl⟩,q⟩
theorem sH{f:Value->Value->a1B Value}{g:Int->Int->Bool}
  (d:∀(i j:Int)(t u:a2J)(s:T6)(Q:Value->T6->Prop)(E:Value->T6->Prop),Q (.bool (g i j)) s->Uu (Ut X.prog X.w) X.A (f (.int i t) (.int j u)) Q E s) :
  OpR X f (fN λi j=>.bl (g i j)):=by
 intro e s o H x y v u Q I l m h;obtain⟨i,j,rfl,rfl,q⟩:=h;obtain⟨t,rfl⟩:=l;obtain⟨n,rfl⟩:=m;exact d i j t n s _ _ ⟨.bl (g i j),H,I,rfl,q⟩
noncomputable def IE(i j:Int):Prop:=0<=j/\j<=1000000/\i.natAbs<2^64
noncomputable def CMul(i j:Int):Prop:=(-(2^64)<i/\i<2^64)\/(-(2^64)<j/\j<2^64)
theorem CMul.ok{i j:Int}(h:CMul i j):a2Q i j:=by
 rcases h with⟨d,e⟩|⟨d,e⟩
 ·exact .of_left (intBits_le_64 d e)
 ·exact .of_right (intBits_le_64 d e)
theorem op_add:OpR X (XA .Add) (fN λi j=>.int (i+j)):=BB λ_ _ _ _ _ _ _ q=>add_int q
theorem IF:OpR X (XA .Sub) (fN λi j=>.int (i-j)):=BB λ_ _ _ _ _ _ _ q=>sub_int q
theorem IG:OpR X (XA .Mod) (rI (λ_ j=>0<j) λi j=>.int (i%j)):=sG λi j _ _ _ _ _ hc q=>by have d:(0:Int)<j:=hc;exact mod_int' (by omega) (by rw[Int.fmod_eq_emod_of_nonneg i (by omega)];exact q)
theorem gZ{f:Value->a1B Value}{g:Int->Int}
  (d:∀(i:Int)(t:a2J)(s:T6)(Q:Value->T6->Prop)(E:Value->T6->Prop),Q (.int (g i) s.toks) {s with toks:=s.toks+1}->Uu (Ut X.prog X.w) X.A (f (.int i t)) Q E s) :
  wJ X f (rU λi=>.int (g i)):=by
 intro e s l H x v Q I j h;obtain⟨i,rfl,q⟩:=h;obtain⟨t,rfl⟩:=j;exact d i t s _ _ ⟨.int (g i),H,I.tok _,⟨_,rfl⟩,q⟩
theorem IH:wJ X (unaryOp .USub) (rU λi=>.int (-i)):=gZ λ_ _ _ _ _ q=>neg_int q
end
section
variable{X:Cx}{a b c:Expr}{ta tb tc:TE}{pos:VW}
theorem II{a4z:List (Addr×Obj)}{σ:St}{H:Hp}{s:T6}{Q:VK}{k k':Bool}(I:Inv X a4z σ H s)(q:Q (.bl k) H)(e:k=k'):EP X a4z σ Q (.bool k') s:=by subst e;exact⟨.bl k,H,I,rfl,q⟩
theorem wL:OpR X (VN .Lt) (fN λi j=>.bl (decide (i<j))):=sH λ_ _ _ _ _ _ _ q=>lt_int q
theorem wM:OpR X (VN .LtE) (fN λi j=>.bl (decide (i<=j))):=sH λ_ _ _ _ _ _ _ q=>le_int q
theorem wN:OpR X (VN .Gt) (fN λi j=>.bl (decide (j<i))):=sH λ_ _ _ _ _ _ _ q=>gt_int q
theorem wO:OpR X (VN .GtE) (fN λi j=>.bl (decide (j<=i))):=sH λ_ _ _ _ _ _ _ q=>ge_int q
theorem BC:OpR X (VN .In) (λx y H Q=>∃i j,x=.str i/\y=.str j/\Q (.bl (!(VF j i 0 j.length 1).isEmpty)) H):=by intro d s n H x y v u Q I e l h;obtain⟨i,j,rfl,rfl,q⟩:=h;obtain⟨t,rfl⟩:=e;obtain⟨m,rfl⟩:=l;exact in_str (II I q rfl)
theorem OpR.or{f:Value->Value->a1B Value}{r e:R2}(h:OpR X f r)(h':OpR X f e):OpR X f (λx y H Q=>r x y H Q\/e x y H Q):=by
 intro d s l H x y v u Q I i j q;rcases q with q|q
 ·exact h d s l H x y v u Q I i j q
 ·exact h' d s l H x y v u Q I i j q
theorem fP(b:Expr){op:Yi}(h:op≠.In:=by decide)(i:op≠.NotIn:=by decide):Xj op b=false:=by
 have d:(op==CmpOp.In)=false:=by cases op<;>first|rfl|exact absurd rfl h
 have e:(op==CmpOp.NotIn)=false:=by cases op<;>first|rfl|exact absurd rfl i
 cases b<;>simp[Xj,d,e]
theorem IJ{op:Yi}{r:R2}(n:OpR X (VN op) r)(j:PE X a ta)(l:PE X b tb)(m:Xj op b=b9):PE X (.Compare a [op] [b] pos) (pS r ta tb):=by intro d s z H Q I h;exact wpAny_Compare1 (wK j l I h λv u w x y e i o p q=>n d w z e x y v u Q i o p q) m
noncomputable def BE(t:TE):TT:=λσ H Q=>t σ H λx H'=>∃k,x=.bl k/\Q k H'
theorem IK{op:Yi}{r:R2}(B:OpR X (VN op) r)(q:PE X a ta)(w:PE X b tb)(A:Xj op b=b9):PT X (.Compare a [op] [b] pos) (BE (pS r ta tb)):=by
 intro d s i H Q I h;refine wpAny_isTrue_Compare1 (aM (q d s i H _ I h) λv O ⟨x,j,n,L,E⟩=>aM (w d O i j _ n E) λu R ⟨y,l,o,M,G⟩=>
  aM (B d R i l x y v u _ o L M G) λc T ⟨z,m,p,N,k,e,K⟩=>?_) A
 subst e;cases N;exact Wc ⟨m,p,K⟩
noncomputable def wQ(r j:R2)(ta tb tc:TE):TE:=λσ H Q=>ta σ H λx e=>tb σ e λy h=>r x y h λz d=>∃k,z=.bl k /\
 (if k=c4 then tc σ d λl i=>j y l i Q else Q (.bl b9) d)
theorem IL{op j:Yi}{r q:R2}(R:OpR X (VN op) r)(m:OpR X (VN j) q)(M:PE X a ta)(N:PE X b tb)(hc:PE X c tc)
  (O:a3A [op,j] [b,c]=false:=by with_unfolding_all rfl):PE X (.Compare a [op,j] [b,c] pos) (wQ r q ta tb tc):=by
 intro i s l H Q I h;refine Compare_chain (aM (M i s l H _ I h) λv s1 ⟨x,A,G,Z,T⟩=>chain_link (aM (N i s1 l A _ G T) λu s2 ⟨y,B,K,w,U⟩=>
  aM (R i s2 l B x y v u _ K Z w U) λd s3 ⟨z,n,o,r3,k,e,p⟩=>?_)) O
 subst e;cases r3;refine Wc ?_;cases k with
 |false=>exact ite_ff ⟨.bl b9,n,o,rfl,p⟩|true=>exact ite_tt (chain_last (aM (hc i s3 l n _ o p) λw' s4 ⟨z',E,L,r4,Y⟩=>m i s4 l E y z' u w' Q L w r4 Y))
theorem IM{op j:Yi}{r q:R2}(Z:OpR X (VN op) r)(m:OpR X (VN j) q)(T:PE X a ta)(U:PE X b tb)(hc:PE X c tc)
  (Y:a3A [op,j] [b,c]=false:=by with_unfolding_all rfl):PT X (.Compare a [op,j] [b,c] pos) (BE (wQ r q ta tb tc)):=by
 intro i s l H Q I h;refine isTrue_chain (aM (T i s l H _ I h) λv s1 ⟨x,A,K,r1,q1⟩=>test_link (aM (U i s1 l A _ K q1) λu s2 ⟨y,B,L,w,q2⟩=>
  aM (Z i s2 l B x y v u _ L r1 w q2) λd s3 ⟨z,n,o,r3,k,e,p⟩=>?_)) Y
 subst e;cases r3;refine Wc ?_;cases k with
 |false=>obtain⟨k',O,q'⟩:=p;cases O;exact ite_ff ⟨n,o,q'⟩|true=>refine ite_tt (test_last (aM (hc i s3 l n _ o p) λw' s4 ⟨z',E,M,r4,q4⟩=>aM (m i s4 l E y z' u w' _ M w r4 q4) λd' s5 ⟨z2,G,N,r5,k2,R,q5⟩=>?_));subst R;cases r5;exact Wc ⟨G,N,q5⟩
noncomputable def wR(K:T3)(x:V)(H:Hp)(k:Bool):Prop:=
 match x with
 |.non=>k=b9|.bl b=>k=b|.int i=>k=(i != 0)|.str y=>y.length<=Uo/\k=((y.length:Int) != 0)|.byt y=>y.size<=Uo/\k=((y.size:Int) != 0)|.ref p=>(∃e,SqL K H p e/\k=!e.isEmpty)\/(∃e,SqT K H p e/\k=!e.isEmpty)\/∃d,H p=b6 (.dK d)/\k=!d.isEmpty|_=>False
theorem IP{κ:Type}{kvs:List (κ×V)}{vs:List (κ×Value)}(r:KV kvs vs):(!vs.isEmpty)=!kvs.isEmpty:=by cases r<;>rfl
theorem BF{xs:List V}{d:List Value}(r:Vals xs d):(!d.toArray.isEmpty)=!xs.isEmpty:=by cases r<;>simp
theorem nD:(Uo:Nat)<2^63:=by rw[Vm];decide
theorem IQ:IA X (λx H Q=>∃k,wR X.K x H k/\Q k H):=by
 intro E s N H x v Q I o h;obtain⟨k,e,q⟩:=h;have L:=nD;have M:Uo=16777216:=Vm;cases x with
 |non=>cases o;have d:k=false:=e;subst d;exact truthy_none ⟨H,I,q⟩|bl b=>cases o;have d:k=b:=e;subst d;exact Wc ⟨H,I,q⟩|int i=>obtain⟨t,rfl⟩:=o;have d:k=(i != 0):=e;subst d;exact PySem.P.truthy_int ⟨H,I,q⟩|str y=>obtain⟨t,rfl⟩:=o;obtain⟨K,d⟩:y.length<=Uo/\k=((y.length:Int) != 0):=e;subst d;exact PySem.P.truthy_str (by omega) ⟨H,I.tok _,q⟩|byt y=>obtain⟨t,rfl⟩:=o;obtain⟨K,d⟩:y.size<=Uo/\k=((y.size:Int) != 0):=e;subst d;exact PySem.W.truthy_bytes (by omega) ⟨H,I.tok _,q⟩|ref p=>
  cases o;have d:(∃n,SqL X.K H p n/\k=!n.isEmpty)\/(∃n,SqT X.K H p n/\k=!n.isEmpty)\/∃j,H p=b6 (.dK j)/\k=!j.isEmpty:=e;rcases d with⟨n,u,d⟩|⟨n,u,d⟩|⟨j,u,d⟩
  ·subst d;obtain⟨z,r,A,B⟩:=I.list u;have l:=r.length;exact wpAny_truthy_list A.isList (by simp only[Ue];omega) ⟨H,I.tok _,by rw[BF r];exact q⟩
  ·subst d;obtain⟨z,r,A,B⟩:=I.tuple u;have l:=r.length;exact truthy_tuple A (by simp only[Ue];omega) ⟨H,I.tok _,by rw[BF r];exact q⟩
  ·subst d;obtain⟨B,G,w,r,m⟩:j.length<=Uo/\(p==VX)=b9/\∃w,KV j w/\s.heap.DictOf (d5 X.prog X.w) p w:=I.hok p _ u;have l:j.length=w.length:=a0n r;exact wpAny_truthy_dict G m (by omega) ⟨H,I.tok _,by rw[IP r];exact q⟩
 |_=>exact(show False from e).elim
theorem IS(n:PE X a ta)(o:∀d,a0z a X.env d=(do let v <- d;a1U a.pos;holding [v] (truthy v))) :
  PT X a (λi H Q=>ta i H λx j=>∃k,wR X.K x j k/\Q k j):=by
 intro e s i H Q I h;exact isTrue_plain (aM (n e s i H _ I h) λv r ⟨x,l,m,q,p⟩=>IQ e r i l x v Q m q p) (o _)
theorem op_add_str:OpR X (XA .Add) (λx y H Q=>∃i j,x=.str i/\y=.str j/\i.length+j.length<=Uo/\Q (.str (i++j)) H):=by intro d s p H x y v u Q I l m h;obtain⟨i,j,rfl,rfl,e,q⟩:=h;obtain⟨t,rfl⟩:=l;obtain⟨n,rfl⟩:=m;exact add_str (λn o=>⟨.str (i++j),H,I.tok _,⟨_,rfl⟩,q⟩) e
theorem iI{x:V}{us:List Value}(r:Vals [x] us):∃u,us=[u]/\RelV x u:=by
 cases r with
 |cons d e=>cases e;exact⟨_,rfl,d⟩
theorem IT{x y:V}{us:List Value}(r:Vals [x,y] us):∃u d,us=[u,d]/\RelV x u/\RelV y d:=by
 cases r with
 |cons e h=>
  cases h with
  |cons i j=>cases j;exact⟨_,_,rfl,e,i⟩
end
end L2
namespace L2
open PySem PySem.Spec PyProof.Rows
structure ObjM(h:Vb)(x dx C:Addr)(mA:Str->Option Value):Prop where
 obj:h.get? x=b6 (a1K C dx)
 ns:h.Ns1 dx mA
 ne:dx≠x
section
variable{prog:Ur}{w:UJ}{A:UD}{E:Value->T6->Prop}{s:T6}{K:T3}{x dx C f:Addr}{mA:Str->Option Value}{name:Str}{v:Value}
end
theorem RelO.some_of{v:V}{o:Option Value}(r:RelO (b6 v) o):∃u,o=b6 u/\RelV v u:=by
 cases o with
 |none=>exact(show False from r).elim|some u=>exact⟨u,rfl,r⟩
theorem IU{v:V}{u:Value}(r:RelV v u):PySem.W.handedIn u=true:=by
 cases v with
 |non=>cases(show u=US from r);rfl|bl b=>cases(show u=V5 b from r);rfl|int i=>obtain⟨t,e⟩:=(show ∃t,u=Xp i t from r);cases e;rfl|str x=>obtain⟨t,e⟩:=(show ∃t,u=Zf x t from r);cases e;rfl|byt b=>obtain⟨t,e⟩:=(show ∃t,u=a3t b t from r);cases e;rfl|flt b=>obtain⟨t,e⟩:=(show ∃t,u=a3s b t from r);cases e;rfl|ref a=>cases(show u=Ug a from r);rfl|ty n=>cases(show u=Uw n from r);rfl
section
variable{P:Ur}{w:UJ}{H H':Hp}{h h':Vb}{a C dx:Addr}{fs fs':List (Str×V)}
end
structure Cls(K:T3)(C:Addr):Prop where
 pg:PySem.W.plainGet K C Str.empty=c4
 hd:PySem.W.hasDictIn K C=c4
 po:PySem.W.plainOver K C=c4
 sa:VI K (.ref C) "__setattr__"=b6 (b6 (.builtin "object.__setattr__"))
structure Con(K:T3)(C:Addr)(f:Str)(v:V)(u:Value):Prop where
 at_:VI K (.ref C) f=b6 (b6 u)
 rel:RelV v u
 get:Ys K u "__get__"=b6 b8
 cp:PySem.W.copiedNames.contains f=b9
structure Meth(K:T3)(C:Addr)(m:Str)(f:Addr):Prop where
 at_:VI K (.ref C) m=b6 (b6 (.ref f))
 fn:a2L K (.ref f)=c4
 kp:U9 K (.ref f)=c4
section
variable{X:Cx}{a4z:List (Addr×Obj)}{σ:St}{H:Hp}{s:T6}{a C dx:Addr}{fs:List (Str×V)}{f:Str}{v:V}{A:UD}{E:Value->T6->Prop}
theorem IV{prog:Ur}{w:UJ}{env:YD}{e:Expr}{f:Str}{pos:VW}{s:T6}{Q:Value->T6->Prop}(c:Yo e f env (eval e env)=eval e env)
  (h:Uu (Ut prog w) A (eval e env) (λo b=>Uu (Ut prog w) A (getAttr o f c4) Q E b) E s):Uu (Ut prog w) A (eval (.Attribute e f pos) env) Q E s:=
 Attribute_any_ h (by rw[arm_eval_Attribute,c])
end
section
variable{X:Cx}{o e value:Expr}{f:Str}{pos pos' tpos:VW}{ta tv:TE}
end
section
variable{X:Cx}{a4z:List (Addr×Obj)}{σ:St}{H:Hp}{s:T6}{A:UD}{E:Value->T6->Prop}{Q:Value->T6->Prop}{c:Value}{b:Bool}
inductive TyOf (K:T3)(H:Hp):V->Value->Prop where
 |non:TyOf K H .non (.type "NoneType")
 |bl (x:Bool):TyOf K H (.bl x) (.type "bool")
 |int (i:Int):TyOf K H (.int i) (.type "int")
 |str (x:Str):TyOf K H (.str x) (.type "str")
 |flt (x:UInt64):TyOf K H (.flt x) (.type "float")
 |lst {a:Addr}{xs:List V}(e:H a=b6 (.lst xs)):TyOf K H (.ref a) (.type "list")
 |frz {a:Addr}{o:Obj}{xs:List V}(e:H a=b6 (.frz o (.lst xs))):TyOf K H (.ref a) (.type "list")
 |tup {a:Addr}{xs:List V}(e:H a=b6 (.tup xs)):TyOf K H (.ref a) (.type "tuple")
 |dK {a:Addr}{kvs:List (aK×V)}(e:H a=b6 (.dK kvs)):TyOf K H (.ref a) (.type "dict")
 |dT {a:Addr}{kvs:List (List aK×V)}(e:H a=b6 (.dT kvs)):TyOf K H (.ref a) (.type "dict")
 |ins {a C dx:Addr}{fs:List (Str×V)}(e:H a=b6 (.ins C dx fs))(cl:Cls K C)(ha:VI K (.ref C) "__class__"=b6 (b6 (.builtin "object.__class__")))
   (hn:Ys K (.builtin "object.__class__") "__get__"=b6 (b6 (.builtin "getset_descriptor.__get__"))) (htk:a1J K (.builtin "object.__class__")=b6 c4)
   (hm:a2o K C (.type "object")=b6 c4):TyOf K H (.ref a) (.ref C)
end
end L2
namespace L2
open PySem PySem.Spec PyProof.Rows
structure Room(k:Nat)(A:UD):Prop where
 hd:A.handled=b8
 dp:A.depth+3*k+5<YR
 un:A.units+16*k+200<Wi
theorem Room.deeper{k:Nat}{A:UD}(r:Room (k+1) A)(env:YD):Room k (A.deeper env):=
 ⟨r.hd,by have:=r.dp;show A.depth+1+3*k+5<_;omega,by have:=r.un;show A.units+3+16*k+200<_;omega⟩
theorem IW{A:UD}{C:Addr}{us:List Value}{a:List (Str×Value)}:(A.under (.builtin "type.__call__" ⟨.ref C::us,a⟩)).depth=A.depth+1:=by first|rfl|simp[a0K,Code.weight,Code.isCreation,Code.isGuard,Code.isCaller,a3H,a0T,guardIds]
theorem IX{A:UD}{C:Addr}{us:List Value}{a:List (Str×Value)}:(A.under (.builtin "type.__call__" ⟨.ref C::us,a⟩)).units=A.units+1:=by first|rfl|simp[a0K,Code.cUnits,a3H,a0T]
theorem Room.make{k:Nat}{A:UD}(r:Room (k+1) A)(C:Addr)(us:List Value)(a:List (Str×Value)):Room k (A.under (.builtin "type.__call__" ⟨.ref C::us,a⟩)):=
 ⟨r.hd,by have:=r.dp;rw[IW];omega,by have:=r.un;rw[IX];omega⟩
theorem Room.depth{k:Nat}{A:UD}(r:Room k A):A.depth<YR:=by have:=r.dp;omega
theorem Room.units{k:Nat}{A:UD}(r:Room k A):A.units+64<Wi:=by have:=r.un;omega
noncomputable def wU:TA:=λ_ H Q=>Q [] H
noncomputable def BG(c:TE)(tr:TA):TA:=λσ H Q=>c σ H λx a=>tr σ a λxs b=>Q (x::xs) b
section
variable{X:Cx}{e:Expr}{es:List Expr}{te:TE}{t:TA}{pos:VW}
theorem sI:PA X [] wU:=λ_ _ _ _ H Q I h=>ZI ⟨[],H,I,.nil,h⟩
theorem pT(l:PE X e te)(m:PA X es t)(n:UW (e::es) X.env=(b9,eval e X.env)::UW es X.env:=by rfl):PA X (e::es) (BG te t):=by intro pos a s b H Q I h;rw[n];show Uu _ _ (spliced ((b9,eval e X.env)::W6 pos (UW es X.env))) _ _ s;refine Zx (aM (l a s b H _ I h) λu v ⟨x,c,i,q,o⟩=>?_);exact aM (m pos a v b c _ i o) λz y ⟨w,d,j,r,p⟩=>⟨x::w,d,j,.cons q r,p⟩
noncomputable def IY(t:TA):TE:=λσ H Q=>t σ H λxs a=>xs.length<=Uo/\∀p,a p=b8->Q (.ref p) (aG a p (.tup xs))
noncomputable def IZ(t:TA):TE:=λσ H Q=>t σ H λxs a=>xs.length<=Uo/\∀p,a p=b8->Q (.ref p) (aG a p (.lst xs))
theorem BH{x1} (h:PA X es t):PE X (.Tuple es x1 pos) (IY t):=by intro c s o H Q I l;refine wpAny_Tuple_spliced (aM (h pos c s o H _ I l) λm a ⟨n,d,i,r,z,q⟩=>⟨by rw[<- r.length];exact z,?_⟩);have j:d a.heap.objs.size=none:=i.hok.fresh (Up _);refine⟨.ref a.heap.objs.size,aG d a.heap.objs.size (.tup n),i.laid (t':=a.toks) (λb u e=>Ua _ e) (Up _) ?_,rfl,q _ j⟩;exact⟨z,m,r,⟨_,UC _ rfl,rfl,_,rfl,rfl⟩⟩
theorem Ja(h:PA X es t):PE X (.List es pos) (IZ t):=by intro c s o H Q I l;refine wpAny_List_spliced (aM (h pos c s o H _ I l) λm a ⟨n,d,i,r,z,q⟩=>⟨by rw[<- r.length];exact z,?_⟩);have j:d a.heap.objs.size=none:=i.hok.fresh (Up _);refine⟨.ref a.heap.objs.size,aG d a.heap.objs.size (.lst n),i.laid (t':=a.toks) (λb u e=>Ua _ e) (Up _) ?_,rfl,q _ j⟩;exact⟨z,m,0,r,UC _ rfl⟩
end
noncomputable abbrev Sp:=List V->Hp->VK->XK->Prop
noncomputable abbrev fQ:=List YD->Hp->T6->XK->Value->T6->Prop
structure Env0(P:Ur)(w:UJ)(K:T3)(mg:Str->Option Value)(base:Vb)(A:UD)(outer:List YD)(s:T6)(H:Hp):Prop where
 frames:A.frames=b6 outer
 mod:Mod K mg base
 bs:∀b o,base.get? b=b6 o->s.heap.get? b=b6 o/\H b=b8
 bsz:base.objs.size<=s.heap.objs.size
 funs:s.heap.FunFrames base outer
 frf:∀b∈cR outer,H b=b8
 hok:HOk P w H s.heap
 bare:YY s.gens
noncomputable def CE(outer:List YD)(P:Ur)(w:UJ)(H:Hp)(s:T6)(Q:VK)(u:Value)(a:T6):Prop:=
 ∃v b,a.os=s.os/\YY a.gens/\Un (cR outer) [] H b s.heap a.heap/\HOk P w b a.heap/\RelV v u/\Q v b
noncomputable def CR(CX:fQ)(outer:List YD)(P:Ur)(w:UJ)(H:Hp)(s:T6)(Q:VK)(E:XK)(r:a3d)(a:T6):Prop:=
 match r with
 |.ok (.ret u)=>CE outer P w H s Q u a|.ok _=>False|.error e=>CX outer H s E e a
structure FnOk(P:Ur)(w:UJ)(K:T3)(mg:Str->Option Value)(base:Vb)(CX:fQ)(k:Nat)(f:Addr)(fd:VQ)(ps:List Str)(sp:Sp):Prop where
 len:∀vs H Q E,sp vs H Q E->vs.length=ps.length
 run:∀(A:UD)(outer:List YD)(s:T6)(H:Hp)(args:Args)(us:List Value)(vs:List V)(Q:VK)(E:XK),Room k A->Env0 P w K mg base A outer s H->ZR s fd args (ps.zip us)->Vals vs us->sp vs H Q E->
  YW (Ut P w) A (.call (.ref f) args) (CR CX outer P w H s Q E) s
theorem Env0.make{P:Ur}{w:UJ}{K:T3}{mg:Str->Option Value}{base:Vb}{A:UD}{outer:List YD}{s:T6}{H:Hp}(e:Env0 P w K mg base A outer s H)(C:Addr)(us:List Value)(a:List (Str×Value)) :
  Env0 P w K mg base (A.under (.builtin "type.__call__" ⟨.ref C::us,a⟩)) outer s H:=⟨by first|exact e.frames|(simpa[a0K,Code.envs,a0T,pushEnvs]using e.frames),e.mod,e.bs,e.bsz,e.funs,e.frf,e.hok,e.bare⟩
section
variable{X:Cx}{a4z:List (Addr×Obj)}{σ:St}{H:Hp}{s s':T6}
theorem Inv.env0(I:Inv X a4z σ H s):Env0 X.prog X.w X.K X.mg X.base X.A X.stack s H:=
 ⟨I.ok.frames,I.ok.mod,I.bs,VD I.ok.bsz I.sz,I.stack,I.stkFree,I.hok,I.bare⟩
theorem Inv.after{Q:VK}{u:Value}(I:Inv X a4z σ H s)(h:CE X.stack X.prog X.w H s Q u s'):EP X a4z σ Q u s':=by obtain⟨v,e,j,a,un,hok,r,q⟩:=h;obtain⟨i,g,d,t,c⟩:=s';obtain rfl:c=s.os:=j;exact⟨v,e,I.call (h':=i) (g':=g) (d':=d) (t':=t) (ch:=[]) un hok a (λb z=>absurd z (by simp)),r,q⟩
end
noncomputable def wV(sp:Sp)(a:List V)(E:XK)(t:TA):TE:=λσ H Q=>t σ H λvs b=>sp (vs++a) b Q E
noncomputable def Binds(K:T3)(a:VQ)(ps:List Str)(ds:List Value):Prop:=
 ∀(s:T6)(us:List Value),K.In s.heap->(us++ds).length=ps.length->ZR s a ⟨us,[]⟩ (ps.zip (us++ds))
theorem Binds.all{K:T3}{a:VQ}{ps:List Str}(h:∀us:List Value,us.length=ps.length->a1e a ⟨us,[]⟩=pure (ps.zip us)):Binds K a ps []:=λs us _ b=>by rw[VB]at b ⊢;exact .of_eq (h us b)
noncomputable def sJ(CX:fQ)(X:Cx)(E:XK):Prop:=∀(a4z:List (Addr×Obj))(σ:St)(H:Hp)(s:T6)(e:Value)(a:T6),Inv X a4z σ H s->CX X.stack H s E e a->X.xe e a
section
variable{X:Cx}{CX:fQ}{k:Nat}{f C:Addr}{fd:VQ}{ps:List Str}{sp:Sp}{dvs:List V}{ds:List Value}{E:XK}{x m:Str}{p pos apos:VW}{e o:Expr}{es:List Expr}{ta:TE}{t:TA}
theorem BI{a4z:List (Addr×Obj)}{σ:St}{H:Hp}{s:T6}{Q:VK}{us:List Value}{vs:List V}(F:FnOk X.prog X.w X.K X.mg X.base CX k f fd ps sp)(j:Room k X.A)(d:Binds X.K fd ps ds)(hd:Vals dvs ds)(l:sJ CX X E)
  (I:Inv X a4z σ H s)(r:Vals vs us)(h:sp (vs++dvs) H Q E):Uu (Ut X.prog X.w) X.A (call (.ref f) us) (EP X a4z σ Q) X.xe s:=by
 have b:Vals (vs++dvs) (us++ds):=r.append hd;have i:(us++ds).length=ps.length:=by rw[<- b.length];exact F.len _ _ _ _ h
 refine YQ (X9 (F.run X.A X.stack s H ⟨us,[]⟩ (us++ds) (vs++dvs) Q E j I.env0 (d s us I.kIn i) b h) λr n a=>?_);cases r with
 |error e=>exact l a4z σ H s e n I a|ok c=>
  cases c with
  |ret u=>exact I.after a|next=>exact UT a|brk=>exact UT a|cont=>exact UT a
theorem Jb(F:FnOk X.prog X.w X.K X.mg X.base CX k f fd ps sp)(w:Room k X.A)(n:Gl X x)(v:X.mg x=b6 (.ref f))(u:U9 X.K (.ref f)=c4)(j:Binds X.K fd ps ds)(hd:Vals dvs ds)(y:sJ CX X E)
  (i:PA X (e::es) t)(b:(x==("__debug__":Str))=false:=by decide) (l:UW (e::es) X.env=(b9,eval e X.env)::UW es X.env:=by rfl)(c:(W6 pos (UW es X.env)).any (·.1)=false:=by rfl) :
  PE X (.Call (.Name x p) (e::es) [] pos) (wV sp dvs E t):=by
 intro a s z H Q I h;refine VG (f9 I n v ?_ b);refine XB (h₀:=X.base) I.ok.mod.kin u (aM (i pos a s z H _ I h) λG B ⟨K,A,d,r,q⟩=>⟨d.kIn,?_⟩) l c;exact BI F w j hd y d r q
theorem Jc(F:FnOk X.prog X.w X.K X.mg X.base CX k f fd ps sp)(l:Room k X.A)(d:Gl X x)(j:X.mg x=b6 (.ref f))(i:U9 X.K (.ref f)=c4)(c:Binds X.K fd ps ds)(hd:Vals dvs ds)(n:sJ CX X E)
  (a:(x==("__debug__":Str))=false:=by decide):PE X (.Call (.Name x p) [] [] pos) (wV sp dvs E wU):=by
 intro b s q H Q I h;refine VG (f9 I d j ?_ a);exact PySem.W.callWith_K0 I.kIn i (BI (us:=[]) F l c hd n I .nil h)
structure Mk(K:T3)(C f:Addr):Prop where
 makes:PySem.W.makesIn K C=c4
 init:VI K (.ref C) "__init__"=b6 (b6 (.ref f))
 fn:a2L K (.ref f)=c4
 kp:U9 K (.ref C)=c4
end
section
variable{X:Cx}{CX:fQ}{k:Nat}{f C:Addr}{fd:VQ}{ps ks:List Str}{sp:Sp}{E:XK}{x m:Str}{p pos apos kpos:VW}{e o:Expr}{es:List Expr}{kws:List Xs}{te ta:TE}{t tk:TA}{nm:Option Str}
structure KBinds(K:T3)(fd:VQ)(ps ks:List Str)(g:List Value->List Value->List Value)(gV:List V->List V->List V):Prop where
 to:∀(s:T6)(us ws:List Value),K.In s.heap->(g us ws).length=ps.length->ZR s fd ⟨us,ks.zip ws⟩ (ps.zip (g us ws))
 rel:∀{vs:List V}{us:List Value}{zs:List V}{ws:List Value},Vals vs us->Vals zs ws->Vals (gV vs zs) (g us ws)
variable{g:List Value->List Value->List Value}{gV:List V->List V->List V}
end
structure FnScope(N P:List Str)(sc:WB):Prop where
 kind:sc.kind=.function
 co:sc.isCoroutine=b9
 gen:sc.isGenerator=b9
 nd:N.Nodup
 pre:N.take P.length=P
 par:∀x∈P,sc.names.lookup x=b6 .local\/sc.names.lookup x=b6 .cell
 nofree:∀y∈sc.names,y.2≠.free
theorem BJ{kindOf:Str->Option W3}{x:Str}:∀{a:List (Str×Value)}{m:Str->Option Value},(∀v,(x,v)∉a)->a1c kindOf a m x=m x
 |[],_,_=>rfl|(n,v)::r,m,h=>by
  unfold a1c;rw[BJ λw hw=>h w (UO _ hw)];split
  ·have:x≠n:=by rintro rfl;exact h v UZ
   simp[this]
  ·rfl
theorem BK{kindOf:Str->Option W3}{x:Str}:∀{a:List (Str×Value)}{m:Str->Option Value},(∀v,(x,v)∉a)->a1d kindOf a m x=m x
 |[],_,_=>rfl|(n,v)::r,m,h=>by
  unfold a1d;rw[BK λw hw=>h w (UO _ hw)];split
  ·rfl
  ·have:x≠n:=by rintro rfl;exact h v UZ
   simp[this]
theorem BL{kindOf:Str->Option W3}{x:Str}{v:Value}:∀{P:List Str}{vs:List Value}{i:Nat}{m:Str->Option Value},P.Nodup->P[i]?=b6 x->vs[i]?=b6 v->kindOf x=b6 .local->
  a1c kindOf (P.zip vs) m x=b6 v
 |[],_,_,_,_,h,_,_=>by simp at h
 |_::_,[],_,_,_,_,h,_=>by simp at h
 |p::P,w::vs,0,m,nd,h1,h2,hk=>by simp at h1 h2;subst h1;subst h2;show a1c kindOf ((p,w)::P.zip vs) m p=_;unfold a1c;rw[BJ λv a=>(Vy.mp nd).1 (Y5 a).1,if_pos hk];simp
 |p::P,w::vs,i+1,m,nd,h1,h2,hk=>by show a1c kindOf ((p,w)::P.zip vs) m x=_;unfold a1c;exact BL (i:=i) (Vy.mp nd).2 (by simpa using h1) (by simpa using h2) hk
theorem BM{kindOf:Str->Option W3}{x:Str}{v:Value}:∀{P:List Str}{vs:List Value}{i:Nat}{m:Str->Option Value},P.Nodup->P[i]?=b6 x->vs[i]?=b6 v->kindOf x≠b6 .local->
  a1d kindOf (P.zip vs) m x=b6 v
 |[],_,_,_,_,h,_,_=>by simp at h
 |_::_,[],_,_,_,_,h,_=>by simp at h
 |p::P,w::vs,0,m,nd,h1,h2,hk=>by simp at h1 h2;subst h1;subst h2;show a1d kindOf ((p,w)::P.zip vs) m p=_;unfold a1d;rw[BK λv a=>(Vy.mp nd).1 (Y5 a).1,if_neg hk];simp
 |p::P,w::vs,i+1,m,nd,h1,h2,hk=>by show a1d kindOf ((p,w)::P.zip vs) m x=_;unfold a1d;exact BM (i:=i) (Vy.mp nd).2 (by simpa using h1) (by simpa using h2) hk
noncomputable def start(N:List Str)(vs:List V):St:=vs.map b6++Wq (N.length-vs.length) b8
noncomputable def dA(CX:fQ)(P:Ur)(w:UJ)(K:T3)(mg:Str->Option Value)(base:Vb)(N:List Str)(qual:Str)(scope:WB)(f:Addr)(b:Value)(A:UD)(outer:List YD)(s:T6)(H:Hp)(E:XK):Cx where
 prog:=P
 w:=w
 K:=K
 mg:=mg
 base:=base
 A:=A.deeper (envOfC qual scope s.heap.objs.size f b)
 N:=N
 s₀:=s
 H₀:=H
 env:=envOfC qual scope s.heap.objs.size f b
 outer:=outer
 stack:=envOfC qual scope s.heap.objs.size f b::outer
 ex:=[]
 calm:=c4
 fn:=λ_=>c4
 pn:=[]
 xe:=λe d=>Uu (Ut P w) (A.deeper (envOfC qual scope s.heap.objs.size f b)) (a3o (envOfC qual scope s.heap.objs.size f b) e) (λ_ a=>CX outer H s E e a) (λc a=>CX outer H s E c a) d
theorem BN{sc:WB}{n:Nat}{x:Str}(h:sc.names.lookup x=b6 .cell):∃c,(a0A n sc.names []).lookup x=b6 c:=by have q:=YS sc.names n [] (.inl h);exact U8.mp q
theorem BO{CX:fQ}{P:Ur}{w:UJ}{K:T3}{mg:Str->Option Value}{base:Vb}{N ps:List Str}{qual:Str}{scope:WB}{f:Addr}{B:Value}{A:UD}{outer:List YD}{s s1:T6}{H:Hp}{E:XK}{us:List Value}{vs:List V}
  (S:FnScope N ps scope)(hd:A.handled=b8)(j:Env0 P w K mg base A outer s H)(U:vs.length=ps.length)(r:Vals vs us)
  (x:InCallC s s.heap.objs.size (a1c (envOfC qual scope s.heap.objs.size f B).kindOf (ps.zip us) λ_=>b8) (a0A (s.heap.objs.size+1) scope.names []) (a1d (envOfC qual scope s.heap.objs.size f B).kindOf (ps.zip us) λ_=>b8) s1) :
  Inv (dA CX P w K mg base N qual scope f B A outer s H E) [] (start N vs) H s1:=by
 have Q:ps.length<=N.length:=by have:=congrArg Wh S.pre;rw[UN]at this;omega
 obtain⟨G,X,rfl,L⟩:=x.done;have m:∀b:Addr,b∉(dA CX P w K mg base N qual scope f B A outer s H E).ex:=λb z=>absurd (show b∈([]:List Addr)from z) (by simp);refine⟨⟨j.mod,S.kind,rfl,rfl,Up _,λy z c G d=>?_,λy l=>?_,λy c _ h=>?_,λ_=>hd,a0U j.frames,.inr ⟨rfl,rfl⟩,λb z=>absurd z (m b),j.bs,j.bsz,λb _ _=>m b,λb z=>absurd z (m b),j.funs,j.frf⟩,
  rfl,j.bare,Un.kept L,⟨_,x.toInCall.ns,λi y v G d T=>?_⟩,λy c h=>⟨_,x.cell y c h⟩,j.hok.fresh (Up _),λy c h=>?_,λp n=>absurd (show p∈([]:List (Addr×Obj))from n) (by simp),j.hok.kept L,?_⟩
 ·exact name_of_addr x.apart (VH G) (VH d)
 ·have l:scope.names.lookup y=b6 .cell\/scope.names.lookup y=b6 .free:=l;rcases l with l|l
  ·exact BN l
  ·exact absurd rfl (S.nofree _ (VH l))
 ·exact Yr (x.above y c (VH h))
 ·have I:i<vs.length:=by
   unfold start at d;by_cases I:i<vs.length
   ·exact I
   ·rw[Uz (by simpa using I)]at d;rw[W5]at d;split at d<;>cases d
  have O:vs[i]?=b6 v:=by
   unfold start at d;rw[Ul (by simpa using I),UU]at d;cases e:vs[i]? with
   |none=>rw[e]at d;cases d|some a=>rw[e]at d;cases d;rfl
  obtain⟨u,M,R⟩:=r.get O;have n:ps[i]?=b6 y:=by rw[<- S.pre,VE (by omega)];exact G
  have o:ps.Nodup:=by rw[<- S.pre];exact S.nd.sublist (Xg _ _)
  refine⟨u,R,?_⟩;rcases S.par y (UL n)with k|k
  ·exact .inl ⟨k,BL o n M k⟩
  ·obtain⟨c,e⟩:=BN (n:=s.heap.objs.size+1) k;refine .inr ⟨.inl k,c,e,?_⟩;have q:=x.cell y c e;rw[BM o n M (by show scope.names.lookup y≠_;rw[k];decide)]at q;exact q
 ·exact j.hok.fresh (Yr (x.above y c (VH h)))
 ·unfold start;show _=N.length;rw[Uj,Uc,WS];omega
theorem wW{CX:fQ}{P:Ur}{w:UJ}{K:T3}{mg:Str->Option Value}{base:Vb}{k:Nat}{f:Addr}{name qual:Str}{c:a3M}{body:List Stmt}{scope:WB}{U kV l X a ct oc:Value}{an od:Option Addr}
  {L:Array (Option Value)}{N ps:List Str}{sp:Sp}(lk:K.lookup f=b6 ⟨oc,od,.func (VO name qual c body scope U kV l X an a ct),L⟩)(z:XH K a qual=c4)(S:FnScope N ps scope)
  (len:∀vs H Q E,sp vs H Q E->vs.length=ps.length)
  (h:∀(A:UD)(outer:List YD)(s:T6)(H:Hp)(vs:List V)(Q:VK)(E:XK),Room k (A.deeper (envOfC qual scope s.heap.objs.size f a))->sp vs H Q E->
   ∃t,PSs (dA CX P w K mg base N qual scope f a A outer s H E) body t/\t {nx:=λ_ H'=>Q .non H',rt:=Q} (start N vs) H) :
  FnOk P w K mg base CX (k+1) f (VO name qual c body scope U kV l X an a ct) ps sp:=by
 refine⟨len,λA outer s H T us vs Q E B m hb r p=>?_⟩;have hl:=len _ _ _ _ p;have R:K.In s.heap:=m.mod.kin.keeps λb o e=>(m.bs b o e).1;have G:s.heap.NoLimit:=m.mod.nolimit.keeps λb o e=>(m.bs b o e).1;have i:∀y∈ps.zip us,scope.names.lookup y.1=b6 .local\/(scope.names.lookup y.1=b6 .cell/\((a0A (s.heap.objs.size+1) scope.names []).lookup y.1).isSome=c4):=λ⟨n,v⟩ hy=>by
  rcases S.par n (Y5 hy).1 with q|q
  ·exact .inl q
  ·exact .inr ⟨q,YS _ _ _ (.inl q)⟩
 refine a2n B.depth (R _ _ lk) rfl S.co S.gen rfl (a1i R z) (hb _ _ _ _ ?_);refine a0W S.kind i λZ he Y x=>?_;subst he;refine⟨G.keeps x.toInCall.keep,codeAny_func ?_⟩;obtain⟨t,ht,hq⟩:=h A outer s H vs Q E (B.deeper _) p;have I:Inv (dA CX P w K mg base N qual scope f a A outer s H E) [] (start N vs) H Y:=BO S B.hd m hl r x;refine UK (ht [] Y (start N vs) H _ I hq) (λfl O j=>?_) λe O j=>j;have fin:∀{d:St}{H':Hp}{v:V}{u:Value},Inv (dA CX P w K mg base N qual scope f a A outer s H E) [] d H' O->RelV v u->Q v H'->CE outer P w H s Q u O:=
  λ{d H' v u} J M q=>⟨v,H',J.os,J.bare,J.base,J.hok,M,q⟩
 cases fl with
 |ret u=>obtain⟨v,d,H',J,M,q⟩:=j;exact fin J M q|next=>obtain⟨d,H',J,q⟩:=j;exact fin (v:=V.non) (u:=US) J rfl q|brk=>obtain⟨_,_,_,q⟩:=j;exact UT q|cont=>obtain⟨_,_,_,q⟩:=j;exact UT q
end L2
namespace L2
open PySem PySem.Spec PyProof.Rows
section
variable{X:Cx}{x:Str}{p pos:VW}{e:Expr}{es:List Expr}{t:TA}{id T:String}{r:List V->Hp->VK->Prop}
noncomputable def wX(r:List V->Hp->VK->Prop)(t:TA):TE:=λσ H Q=>t σ H λvs a=>r vs a Q
theorem Jd(hc:CallR X (.builtin id) r)(n:Gl X x)(o:X.mg x=b8)(u:V9 x=b6 (.builtin id))(l:PA X (e::es) t)(q:x ≠ "__name__":=by decide) (b:(x==("__debug__":Str))=false:=by decide)
  (m:UW (e::es) X.env=(b9,eval e X.env)::UW es X.env:=by rfl)(c:(W6 pos (UW es X.env)).any (·.1)=false:=by rfl):PE X (.Call (.Name x p) (e::es) [] pos) (wX r t):=by
 intro a s d H Q I h;refine VG (iH I n o u ?_ q b);exact Wn (aM (l pos a s d H _ I h) λz y ⟨A,i,j,w,v⟩=>hc a y d i A z Q j w v) m c
theorem Je(hc:CallR X (.type T) r)(n:Gl X x)(o:X.mg x=b8)(u:V9 x=b6 (.type T))(l:PA X (e::es) t)(q:x ≠ "__name__":=by decide) (b:(x==("__debug__":Str))=false:=by decide)
  (m:UW (e::es) X.env=(b9,eval e X.env)::UW es X.env:=by rfl)(c:(W6 pos (UW es X.env)).any (·.1)=false:=by rfl):PE X (.Call (.Name x p) (e::es) [] pos) (wX r t):=by
 intro a s d H Q I h;refine VG (iH I n o u ?_ q b);exact W7 (aM (l pos a s d H _ I h) λz y ⟨A,i,j,w,v⟩=>hc a y d i A z Q j w v) m c
end
end L2
namespace L2
open PySem PySem.Spec PyProof.Rows
section
variable{κ:Type} [DecidableEq κ]
noncomputable def eA(kvs:List (κ×V))(k:κ):Option V:=(kvs.find? λa=>decide (a.1=k)).map (·.2)
noncomputable def iJ(kvs:List (κ×V))(k:κ)(v:V):List (κ×V):=
 if(kvs.any λa=>decide (a.1=k))=c4 then kvs.map (λa=>if a.1=k then(a.1,v)else a)else kvs++[(k,v)]
theorem BP{p:κ×V}{r:List (κ×V)}{k:κ}(e:p.1=k):eA (p::r) k=b6 p.2:=by simp[eA,VA,e]
theorem BQ{p:κ×V}{r:List (κ×V)}{k:κ}(e:¬ p.1=k):eA (p::r) k=eA r k:=by simp[eA,VA,e]
theorem Jf(kvs:List (κ×V))(k:κ)(v:V):(iJ kvs k v).length<=kvs.length+1:=by
 unfold iJ;split
 ·rw[Uc];omega
 ·rw[Uj,UA,VR];omega
theorem RelO.isSome_eq{o:Option V}{u:Option Value}(r:RelO o u):o.isSome=u.isSome:=by
 cases o with
 |none=>cases u with
  |none=>rfl|some _=>exact(show False from r).elim
 |some _=>cases u with
  |none=>exact(show False from r).elim|some _=>rfl
theorem RelO.getD{o:Option V}{u:Option Value}{d:V}{d':Value}(r:RelO o u)(a:RelV d d'):RelV (o.getD d) (u.getD d'):=by
 cases o with
 |none=>cases u with
  |none=>exact a|some _=>exact(show False from r).elim
 |some _=>cases u with
  |none=>exact(show False from r).elim|some _=>exact r
theorem KV.val{kvs:List (κ×V)}{vs:List (κ×Value)}(r:KV kvs vs)(k:κ):RelO (eA kvs k) (a0d vs k):=by
 unfold KV at r;induction r with
 |nil=>exact Xa|@cons p q l c h t j=>
  obtain⟨d,i⟩:=h;by_cases e:p.1=k
  ·have a:q.1=k:=d.symm.trans e;have b:a0d (q::c) k=b6 q.2:=by simp[a0d,VA,a]
   rw[BP e,b];exact i
  ·have a:¬ q.1=k:=λz=>e (d.trans z);have b:a0d (q::c) k=a0d c k:=by simp[a0d,VA,a]
   rw[BQ e,b];exact j
theorem KV.any{kvs:List (κ×V)}{vs:List (κ×Value)}(r:KV kvs vs)(k:κ):(kvs.any λa=>decide (a.1=k))=vs.any λa=>decide (a.1=k):=by
 unfold KV at r;induction r with
 |nil=>rfl|cons h t b=>rw[YN,YN,b,h.1]
theorem KV.repl{kvs:List (κ×V)}{vs:List (κ×Value)}(r:KV kvs vs)(k:κ){y:V}{u:Value}(i:RelV y u) :
  KV (kvs.map λa=>if a.1=k then(a.1,y)else a) (vs.map λa=>if a.1=k then(a.1,u)else a):=by
 unfold KV at r ⊢;induction r with
 |nil=>exact .nil|@cons p q j l h t d=>
  rw[Uv,Uv];refine .cons ?_ d;obtain⟨b,c⟩:=h;by_cases e:p.1=k
  ·rw[if_pos e,if_pos (b.symm.trans e)];exact⟨b,i⟩
  ·rw[if_neg e,if_neg (λz=>e (b.trans z))];exact⟨b,c⟩
theorem KV.put{kvs:List (κ×V)}{vs:List (κ×Value)}(r:KV kvs vs)(k:κ){y:V}{u:Value}(a:RelV y u):KV (iJ kvs k y) (stored vs k u):=by
 unfold iJ stored;rw[r.any k];by_cases e:(vs.any λb=>decide (b.1=k))=c4
 ·rw[if_pos e,if_pos e];exact r.repl k a
 ·rw[if_neg e,if_neg e];exact a0P r ⟨rfl,a⟩
theorem KV.length{kvs:List (κ×V)}{vs:List (κ×Value)}(r:KV kvs vs):kvs.length=vs.length:=a0n r
end
theorem wY{P:Ur}{w:UJ}{k:aK}{u:Value}(r:RelV (kV k) u):(d5 P w).is k u=true:=by
 cases k with
 |inl i=>obtain⟨t,e⟩:=(show ∃t,u=Xp i t from r);subst e;exact Hk P w i t|inr x=>obtain⟨t,e⟩:=(show ∃t,u=Zf x t from r);subst e;exact Hl P w x t
theorem BR{P:Ur}{w:UJ}:∀{ks:List aK}{us:List Value},Vals (ks.map kV) us->ItemsAre (d5 P w) ks us
 |[],_,r=>by rw[ZL]at r;cases r;exact .nil
 |k::ks,_,r=>by
  rw[Uv]at r;cases r with
  |cons h t=>exact .cons (wY h) (BR t)
noncomputable abbrev KT(H:Hp):List (List aK×V)->List (List aK×Addr×Value)->Prop:=YA λp q=>p.1=q.1/\H q.2.1=b6 (.tup (p.1.map kV))/\RelV p.2 q.2.2
theorem KT.val{H:Hp}{kvs:List (List aK×V)}{xs:List (List aK×Addr×Value)}(r:KT H kvs xs)(k:List aK):RelO (eA kvs k) ((Zs xs k).map (·.2)):=by
 induction r with
 |nil=>exact Xa|@cons p q l c h t j=>
  obtain⟨d,_,i⟩:=h;by_cases e:p.1=k
  ·have a:q.1=k:=d.symm.trans e;have b:Zs (q::c) k=b6 q.2:=by simp[Zs,VA,a]
   rw[BP e,b];exact i
  ·have a:¬ q.1=k:=λz=>e (d.trans z);have b:Zs (q::c) k=Zs c k:=by simp[Zs,VA,a]
   rw[BQ e,b];exact j
section
variable{P:Ur}{w:UJ}{H:Hp}{h:Vb}{a:Addr}
theorem BS{u:HO}(ok:HOk P w H h)(e:Rd H a u):ObjOk P w H h a u:=e.ok ok
theorem sL{kvs:List (aK×V)}(ok:HOk P w H h)(e:Rd H a (.dK kvs)):kvs.length<=Uo/\(a==VX)=b9/\∃vs,KV kvs vs/\h.DictOf (d5 P w) a vs:=
 show ObjOk P w H h a (.dK kvs)from BS ok e
theorem Jg{kvs:List (aK×V)}(ok:HOk P w H h)(e:H a=b6 (.dK kvs)):kvs.length<=Uo/\(a==VX)=b9/\∃vs,KV kvs vs/\h.DictOf (d5 P w) a vs:=sL ok (.inl e)
theorem BU{ks:List aK}(ok:HOk P w H h)(e:H a=b6 (.tup (ks.map kV))):(XY (d5 P w)).is h ks a:=by obtain⟨_,b,r,o,c,d,n,i,_⟩:=(show ObjOk P w H h a (.tup (ks.map kV))from ok a _ e);exact⟨o,b.toArray,n,c,d,i,by simpa using BR r⟩
theorem BV{kvs:List (List aK×V)}(ok:HOk P w H h)(e:Rd H a (.dT kvs)):kvs.length<=Uo/\(a==VX)=b9 /\
  ∃c,KT H kvs c/\h.DictOfH (XY (d5 P w)) a c:=by
 obtain⟨z,y,c,r,o,j,i,n,s,u,v,A⟩:=(show ObjOk P w H h a (.dT kvs)from BS ok e);refine⟨z,y,c,r,o,j,i,n,s,u,v,λx b=>?_,A⟩;have all:∀{l:List (List aK×V)}{m:List (List aK×Addr×Value)},KT H l m->∀x∈m,(XY (d5 P w)).is h x.1 x.2.1:=by
  intro l m q;induction q with
  |nil=>intro x b;exact nomatch b|@cons p q E G d t B=>
   intro x b;rcases UX.mp b with e|b
   ·subst e;exact BU ok (by rw[<- d.1];exact d.2.1)
   ·exact B x b
 exact all r x b
end
noncomputable def DGet(H:Hp)(a:Addr)(y:V)(r:Option V):Prop:=
 (∃c k,Rd H a (.dK c)/\y=kV k/\r=eA c k)\/∃c k b,Rd H a (.dT c)/\y=.ref b/\H b=b6 (.tup (k.map kV))/\r=eA c k
theorem DGet.k{H:Hp}{a:Addr}{kvs:List (aK×V)}{k:aK}(e:H a=b6 (.dK kvs)):DGet H a (kV k) (eA kvs k):=.inl ⟨kvs,k,.inl e,rfl,rfl⟩
section
variable{X:Cx}{a4z:List (Addr×Obj)}{σ:St}{H:Hp}{s:T6}{a:Addr}{y v:V}{u r:Value}{o:Option V}{A:UD}{E:Value->T6->Prop}
theorem Inv.big(I:Inv X a4z σ H s):VX<s.heap.objs.size:=by have h:U1<s.heap.objs.size:=(I.mod.glob.keeps I.bk).lt;exact ZW (by decide) h
theorem Jh{Q:Value->T6->Prop}(K:A.units+1<Wi)(I:Inv X a4z σ H s)(g:DGet H a y (b6 v))(w:RelV y u)(h:∀i x,Inv X a4z σ H x->RelV v i->Q i x) :
  Uu (Ut X.prog X.w) A (a0f (.ref a) u) Q E s:=by
 rcases g with⟨q,k,e,m,l⟩|⟨q,k,b,e,m,B,l⟩
 ·subst m;obtain⟨z,hd,L,c,j⟩:=sL I.hok e;obtain⟨i,hw,d⟩:=RelO.some_of (v:=v) (o:=a0d L k) (by rw[l];exact c.val k);exact wpAny_getItem_of (wY w) j.mapOf hw (h i _ (I.tok _) d)
 ·subst m;cases(show u=Ug b from w);obtain⟨z,hd,M,c,j⟩:=BV I.hok e;obtain⟨i,hw,d⟩:=RelO.some_of (v:=v) (o:=(Zs M k).map (·.2)) (by rw[l];exact c.val k);obtain⟨p,G,n⟩:=T7.mp hw;refine a2V (tupleKind_room_in1 K) (BU I.hok B) j G ?_;rw[n];exact h i _ (I.tok _) d
theorem BW{h':Vb}{t':Nat}{c:HO}(I:Inv X a4z σ H s)(i:pN (H a))(h:XT a s.heap h')(e:∃q,h'.get? a=b6 q)(new:ObjOk X.prog X.w (aG H a c) h' a c) :
  Inv X a4z σ (aG H a c) {s with heap:=h',toks:=t'}:=
 I.write (x:=a) (e:=a) i (.inl rfl) (λb q d z=>(h.2 b d).trans z) e new
theorem Ji{P:Ur}{w:UJ}{H':Hp}{h':Vb}{kvs:List (aK×V)}{vs:List (aK×Value)}(z:kvs.length<=Uo)(hd:(a==VX)=b9)(b:KV kvs vs)(dd:h'.DictOf (d5 P w) a vs) :
  ObjOk P w H' h' a (.dK kvs):=⟨z,hd,vs,b,dd⟩
end
section
variable{X:Cx}{a4z:List (Addr×Obj)}{σ:St}{H:Hp}{s:T6}{a:Addr}{kvs:List (aK×V)}{k:aK}{u:Value}{A:UD}{E:Value->T6->Prop}
theorem Jj{Q:Value->T6->Prop}(I:Inv X a4z σ H s)(e:Rd H a (.dK kvs))(h:∀t c,Inv X a4z σ H c->Q (.int kvs.length t) c):Uu (Ut X.prog X.w) A (call (.builtin "len") [.ref a]) Q E s:=by obtain⟨z,hd,i,b,d⟩:=sL I.hok e;refine call_len_dict hd d (by rw[<- b.length];rw[Vm]at z;omega) ?_;rw[<- b.length];exact h _ _ (I.tok _)
end
noncomputable def sM(i:Expr):Prop:=∀b a,a0F i b9 b a=operate [b,a] (a0f b a)
theorem BX{prog:Ur}{w:UJ}{A:UD}{E:Value->T6->Prop}{s:T6}{env:YD}{b a:Expr}{pos:VW}{T id:String}{Q:Value->T6->Prop}
  (p:Xw (.type T) "__getitem__"=pure (b6 (.builtin id))) (q:sM a)
  (h:Uu (Ut prog w) A (eval b env) (λo e=>Uu (Ut prog w) A (eval a env) (λi c=>c.TypeIs o T/\Uu (Ut prog w) A (a0f o i) Q E c) E e) E s) :
  Uu (Ut prog w) A (eval (.Subscript b a pos) env) Q E s:=by
 refine a3c (UK h (λo e l=>UK l (λi c d=>?_) λ_ _ x=>x) λ_ _ x=>x);obtain⟨n,d⟩:=d;unfold a1A;refine T5 ?_;rw[getitemInPython_of_ne n.not_modules];refine T5 (a3N n p ?_);have fin:Uu (Ut prog w) A (a0F a b9 o i) (λr j=>Uu (Ut prog w) A (letTemporaryGo b o r >>= λ_=>pure r) Q E j) E c:=by rw[q o i];exact wpAny_operating (UK d (λr j m=>T5 (wpAny_letTemporaryGo (Ui m))) λ_ _ x=>x)
 first
  |exact Ui (T5 fin)|exact T5 (Ui (T5 fin))|exact T5 fin
theorem Jk{X:Cx}{a4z:List (Addr×Obj)}{σ:St}{H:Hp}{s:T6}{a:Addr}{y:V}{o:Option V}(I:Inv X a4z σ H s)(g:DGet H a y o):s.TypeIs (.ref a) "dict":=by
 rcases g with⟨d,k,e,_,_⟩|⟨d,k,b,e,_,_,_⟩
 ·obtain⟨_,_,h,_,c⟩:=sL I.hok e;exact c.typeIs
 ·obtain⟨_,_,i,_,c⟩:=BV I.hok e;exact c.typeIs
noncomputable def Jl(d ty:TE):TE:=λσ H Q=>d σ H λx c=>ty σ c λy b=>∃a v,x=.ref a/\DGet b a y (b6 v)/\Q v b
section
variable{X:Cx}{o i e value:Expr}{pos pos' tpos:VW}{td ty tv:TE}
theorem Jm(A:X.A.units+1<Wi)(w:PE X o td)(r:PE X i ty)(z:sM i):PE X (.Subscript o i pos) (Jl td ty):=by intro b s j H Q I h;refine BX a0a.lookup z (aM (w b s j H _ I h) λu L ⟨x,l,n,G,B⟩=>aM (r b L j l _ n B) λM N ⟨y,m,d,K,a,v,q,g,E⟩=>?_);subst q;obtain rfl:u=Ug a:=G;exact⟨Jk d g,Jh A d g K λR O p c=>⟨v,m,p,c,E⟩⟩
end
theorem Jn{P:Ur}{w:UJ}{H:Hp}(h:Vb)(a:VX<h.objs.size):ObjOk P w H (h.push {cls:=.type "dict",data:=.dict #[]}) h.objs.size (.dK []):=
 ⟨WA _,beq_eq_false_iff_ne.mpr (Vf (UB a)),[],.nil,a4y h⟩
section
variable{X:Cx}{pos:VW}
end
noncomputable def sN:List (TE×TE)->St->Hp->(List (V×V)->Hp->Prop)->Prop
 |[],_,H,Q=>Q [] H|(tk,tv)::r,σ,H,Q=>tk σ H λx a=>tv σ a λy b=>sN r σ b λd c=>Q ((x,y)::d) c
noncomputable abbrev VV:List (V×V)->List (Value×Value)->Prop:=YA λp q=>RelV p.1 q.1/\RelV p.2 q.2
noncomputable def jE(X:Cx)(pos:VW)(keys:List (Option Expr))(a:List Expr)(b:List (TE×TE)):Prop:=
 ∀(a4z:List (Addr×Obj))(s:T6)(σ:St)(H:Hp)(Q:List (V×V)->Hp->Prop),Inv X a4z σ H s->sN b σ H Q->
  Uu (Ut X.prog X.w) X.A (evalPairs (pairTrees keys a X.env pos)) (λh e=>∃d c,Inv X a4z σ c e/\VV d h/\Q d c) X.xe s
theorem Jo{X:Cx}{pos:VW}:jE X pos [] [] []:=λa4z s σ H Q I h=>pairTrees_nil_walk ⟨[],H,I,.nil,h⟩
theorem Jp{X:Cx}{pos:VW}{k v:Expr}{ks:List (Option Expr)}{vs:List Expr}{tk tv:TE}{b:List (TE×TE)}(o:PE X k tk)(q:PE X v tv)(p:jE X pos ks vs b) :
  jE X pos (b6 k::ks) (v::vs) ((tk,tv)::b):=λa s d H Q I h=>
 pairTrees_cons_walk (aM (o a s d H _ I h) λu G ⟨x,e,l,B,w⟩=>aM (q a G d e _ l w) λM K ⟨y,i,m,E,z⟩=>
  aM (p a K d i _ m z) λN L ⟨r,j,n,c,A⟩=>⟨(x,y)::r,j,n,.cons ⟨B,E⟩ c,A⟩)
noncomputable def lU(kvs more:List (aK×V)):List (aK×V):=more.foldl (λa b=>iJ a b.1 b.2) kvs
theorem KV.merge:∀{more:List (aK×V)}{a:List (aK×Value)}{kvs:List (aK×V)}{vs:List (aK×Value)},KV more a->KV kvs vs->KV (lU kvs more) (merged vs a):=by
 intro more a kvs vs r;unfold KV at r;induction r generalizing kvs vs with
 |nil=>intro q;exact q|@cons p q d i h t b=>
  intro c;have e:KV (iJ kvs p.1 p.2) (stored vs q.1 q.2):=by have:=c.put p.1 h.2;rw[<- h.1];exact this
  exact b e
theorem BY:∀(more kvs:List (aK×V)),(lU kvs more).length<=kvs.length+more.length
 |[],kvs=>by show kvs.length<=kvs.length+0;omega
 |p::r,kvs=>by have a:=BY r (iJ kvs p.1 p.2);have b:=Jf kvs p.1 p.2;show(lU (iJ kvs p.1 p.2) r).length<=_;rw[UA];omega
theorem BZ{P:Ur}{w:UJ}:∀{kvs:List (aK×V)}{ws:List (Value×Value)},VV (kvs.map λe=>(kV e.1,e.2)) ws->∃d,Carries (d5 P w) ws d/\KV kvs d
 |[],_,r=>by rw[ZL]at r;cases r;exact⟨[],Xa,.nil⟩
 |p::kvs,_,r=>by
  rw[Uv]at r;cases r with
  |@cons a b j bs h t=>obtain⟨d,c,q⟩:=BZ (P:=P) (w:=w) t;obtain⟨l,i⟩:=b;exact⟨(p.1,i)::d,⟨wY h.1,rfl,c⟩,.cons ⟨rfl,h.2⟩ q⟩
noncomputable def Jq(a:List (TE×TE)):TE:=λσ H Q=>∀p,H p=b8->sN a σ (aG H p (.dK [])) λps b=>b p=b6 (.dK [])/\∃kvs:List (aK×V),ps=kvs.map (λc=>(kV c.1,c.2))/\kvs.length<=15/\Q (.ref p) (aG b p (.dK (lU [] kvs)))
theorem Jr{X:Cx}{pos:VW}{keys:List (Option Expr)}{a:List Expr}{j:List (TE×TE)}(h:jE X pos keys a j)(d:keys.all (·.isSome)=c4)(A:keys.length=a.length)(w:keys≠[])
  (m:keys.length<=15):PE X (.Dict keys a pos) (Jq j):=by
 intro l s T H Q I q;have B:=I.hok.fresh (Up s.heap.objs.size);have p:=I.laid (a:=s.heap.objs.size) (o:=.dK []) (h':=s.heap.push {cls:=.type "dict",data:=.dict #[]}) (t':=s.toks) (λ_ _ q=>Ua _ q) (Up _) (Jn s.heap I.big);refine wpAny_Dict_walk (knd:=d5 X.prog X.w) d A w m (aM (h l _ T _ _ p (q _ B)) λws Z ⟨Y,U,o,n,e,i,u,lk,L⟩=>?_);subst u;obtain⟨O,c,N⟩:=BZ (P:=X.prog) (w:=X.w) n;obtain⟨z,hd,R,M,r⟩:=Jg o.hok e;cases M;refine⟨O,c,r,λv b G=>⟨.ref s.heap.objs.size,_,?_,rfl,L⟩⟩;have K:(lU [] i).length<=Uo:=by have x:=BY i [];rw[VR]at x;rw[Vm];omega
 have y:∃q,v.get? s.heap.objs.size=b6 q:=let⟨q,_,_,E,_⟩:=b;⟨q,E⟩;exact BW o (by rw[e];exact Xa) G y (Ji K hd (N.merge .nil) b)
structure M1(X:Cx)(o:Expr)(m:Str)(apos:VW)(e:Expr)(cpos:VW):Prop where
 base:Yo o m X.env (eval o X.env)=eval o X.env
 few:((W6 cpos (UW [e] X.env)).all (λx=>!x.1)&&(a1f cpos (ZF [] X.env)).all (λx=>x.1.isSome)
  && decide (([e]:List Expr).length+([]:List Xs).length+(if([]:List Xs).isEmpty then 0 else 1)<30))=c4
 line:(apos.endLine==cpos.line)=c4
 trees:W6 cpos (UW [e] X.env)=[(b9,eval e X.env)]
structure M2(X:Cx)(o:Expr)(m:Str)(apos:VW)(e f:Expr)(cpos:VW):Prop where
 base:Yo o m X.env (eval o X.env)=eval o X.env
 few:((W6 cpos (UW [e,f] X.env)).all (λx=>!x.1)&&(a1f cpos (ZF [] X.env)).all (λx=>x.1.isSome)
  && decide (([e,f]:List Expr).length+([]:List Xs).length+(if([]:List Xs).isEmpty then 0 else 1)<30))=c4
 line:(apos.endLine==cpos.line)=c4
 trees:W6 cpos (UW [e,f] X.env)=[(b9,eval e X.env),(b9,eval f X.env)]
noncomputable def IsD(H:Hp)(a:Addr):Prop:=(∃kvs,Rd H a (.dK kvs))\/∃kvs,Rd H a (.dT kvs)
section
variable{X:Cx}{a4z:List (Addr×Obj)}{σ:St}{H:Hp}{s:T6}{a:Addr}{y d:V}{u r:Value}{o:Option V}{A:UD}{E:Value->T6->Prop}
end
section
variable{X:Cx}{o e f:Expr}{apos cpos:VW}{td ty tx:TE}
end
section
variable{X:Cx}{a4z:List (Addr×Obj)}{σ:St}{H:Hp}{s:T6}{a:Addr}{kvs:List (aK×V)}{A:UD}{E:Value->T6->Prop}
end
section
variable{X:Cx}{a4z:List (Addr×Obj)}{σ:St}{H:Hp}{s:T6}{a:Addr}{y:V}{u:Value}{A:UD}{E:Value->T6->Prop}
end
end L2
namespace HT
open PySem PyProof.Rows
noncomputable def lexLt:List Int->List Int->Bool
 |[],[]=>b9|[],_::_=>c4|_::_,[]=>b9|x::xs,y::ys=>if x=y then lexLt xs ys else decide (x<y)
theorem lexLt_cons(x y:Int)(xs ys:List Int):lexLt (x::xs) (y::ys)=if x=y then lexLt xs ys else decide (x<y):=rfl
theorem Js:lexLt [] []=false:=rfl
theorem Jt(y:Int)(ys:List Int):lexLt [] (y::ys)=true:=rfl
theorem Ju(x:Int)(xs:List Int):lexLt (x::xs) []=false:=rfl
theorem Jv(A:UD)(s:T6)(a:Int)(t:a2J)(c:Int)(u:a2J):∃e,a0h A s (.int a t) (.int c u) e/\(e=c4↔a=c):=
 ⟨(a==c),SeqAt.EqAt.int_int a t c u,by simp⟩
theorem Jw(A:UD)(s:T6)(a:Int)(t:a2J)(c:Int)(u:a2J)(prog:Ur)(w:UJ)(E:Value->T6->Prop)(Q:Value->T6->Prop)(h:Q (.bool (decide (a<c))) s) :
  Uu (Ut prog w) A (richCompare .Lt (.int a t) (.int c u)) Q E s:=
 (a4a h:Uu (Ut prog w) A (VN .Lt (.int a t) (.int c u)) Q E s)
section
open PySem.SeqAt
open PySem.AutoSeq1 (wpAny_loadPart')
open PySem.MeetsSeq PySem.MeetsSeq2 PySem.MeetsSeq3
theorem Jx(l b:Addr)(j i:Array Value)(n n2:Nat)(dd Q:Option Addr)(sl X:Array (Option Value))(ns M:List Int)(Y:XR j.toList ns)(Z:XR i.toList M) :
  Meets (Builtin.«tuple.__lt__» ⟨[.ref l,.ref b],[]⟩)
   (λ_ R s=>s.heap.get? l=b6 {cls:=.type "tuple",dict:=dd,data:=.seq j n,slots:=sl}/\s.heap.get? b=b6 {cls:=.type "tuple",dict:=Q,data:=.seq i n2,slots:=X} /\
    R (.ok (.ret (.bool (lexLt ns M)))) s):=
 .of_wp λE w A R s h=>by
  obtain⟨L,g,d,O,N⟩:=s;obtain⟨hl,hb,h⟩:=h;have f2:=AutoSeq1.sub_tuple_tuple;have z1:j.size=ns.length:=by rw[<- Y.length];simp
  have z2:i.size=M.length:=by rw[<- Z.length];simp
  wp_walk using a3O hl,a3O hb,wpAny_forIn_list _ (λrest b U=>b.1=b8/\U=⟨L,g,d,O,N⟩/\∃(vs ws:List Value)(p o:List Int),rest=vs.zip ws /\
   XR vs p/\XR ws o/\p.length+i.size=o.length+j.size/\R (.ok (.ret (.bool (lexLt p o)))) ⟨L,g,d,O,N⟩) _
  case turn=>
   rintro⟨y,x⟩ rest b U ⟨G,rfl,vs,ws,p,o,v,H,r,m,z⟩;cases H with
   |nil=>rw[List.zip_nil_left]at v;cases v|cons a t I=>
    cases r with
    |nil=>rw[List.zip_nil_right]at v;cases v|cons c u K=>
     rw[ZA]at v;injection v with hyx hrest;injection hyx with hy hx;subst hy hx;rw[lexLt_cons]at z;simp only[UA]at m;obtain⟨e,he,B⟩:=Jv A.in1 ⟨L,g,d,O,N⟩ a t c u;refine T5 (he E w _ _ ?_);cases e with
     |true=>rw[if_pos (B.mp rfl)]at z;wp_walk;exact⟨rfl,rfl,_,_,_,_,hrest,I,K,by omega,z⟩|false=>rw[if_neg (λq=>absurd (B.mpr q) Vl)]at z;have T:=Jw A.in1 ⟨L,g,d,O,N⟩ a t c u E w;wp_walk using T;exact⟨_,rfl,by simpa using z⟩
  case fin=>
   rintro⟨b1,b2⟩ U ⟨G,rfl,vs,ws,p,o,v,H,r,m,z⟩;simp only at G;subst G;have hv:lexLt p o=decide (j.size<i.size):=by
    cases H with
    |nil=>
     cases r with
     |nil=>simp only[VR]at m;rw[Js];exact(decide_eq_false (by omega)).symm|cons c u hw=>simp only[VR,UA]at m;rw[Jt];exact(decide_eq_true (by omega)).symm
    |cons a t hv=>
     cases r with
     |nil=>simp only[VR,UA]at m;rw[Ju];exact(decide_eq_false (by omega)).symm|cons c u hw=>rw[ZA]at v;cases v
   rw[hv]at z;wp_walk;exact⟨_,rfl,by simpa[a3J]using z⟩
  case h=>exact⟨rfl,rfl,j.toList,i.toList,ns,M,rfl,Y,Z,by omega,h⟩
end
section
variable{prog:Ur}{w:UJ}{A:UD}{E:Value->T6->Prop}{s:T6}
theorem lt_tupInts{l b:Addr}{c a:Array Value}{ns j:List Int}{Q:Value->T6->Prop}(G:a4x s.heap l c)(y:a4x s.heap b a)(z:XR c.toList ns)(B:XR a.toList j)
  (H:A.units<Wi)(h:Q (.bool (lexLt ns j)) s):Uu (Ut prog w) A (VN .Lt (.ref l) (.ref b)) Q E s:=by
 obtain⟨⟨cls,v,r,K⟩,u,hc,n,hd⟩:=id G;obtain⟨⟨q,o,m,p⟩,i,d,I,e⟩:=id y;simp only at hc hd d e;subst hc hd d e;exact richCompare_meets_room (op:=.Lt) ⟨_,u,rfl⟩ ⟨_,i,rfl⟩ PySem.F.slot_tuple_lt PySem.F.entry_tuple_lt (PySem.F.args_tuple_lt_2 _ _) (Jx l b c a n I v o K p ns j z B)
  ⟨u,i,show V5 (lexLt ns j)≠Value.notImplemented/\Q (.bool (lexLt ns j)) s from⟨(λx=>nomatch x),h⟩⟩ H
noncomputable def sIx(n d:Nat):Option Int->Nat
 |none=>d|some v=>if v<0 then(v+(n:Int)).toNat else min v.toNat n
theorem sIx_none(n d:Nat):sIx n d b8=d:=rfl
theorem sIx_nat(n d k:Nat):sIx n d (b6 (k:Int))=min k n:=by show(if(k:Int)<0 then((k:Int)+(n:Int)).toNat else min (k:Int).toNat n)=min k n;rw[if_neg (by omega),W0]
end
end HT
namespace L2
open PySem PySem.Spec PyProof.Rows
noncomputable abbrev TO:=St->Hp->(Option Int->Hp->Prop)->Prop
noncomputable def PO(X:Cx)(e:Option Expr)(t:TO):Prop:=
 ∀(a4z:List (Addr×Obj))(s:T6)(σ:St)(H:Hp)(Q:Option Int->Hp->Prop),Inv X a4z σ H s->t σ H Q->
  Uu (Ut X.prog X.w) X.A (evalPart e X.env) (λu b=>∃o a,Inv X a4z σ a b/\IsPart u o/\Q o a) X.xe s
noncomputable def Jy:TO:=λ_ H Q=>Q b8 H
noncomputable def Jz(t:TE):TO:=λσ H Q=>t σ H λx a=>∃i,x=.int i/\Q (b6 i) a
theorem JA{ns:List Int}:∀{us:List Value},Vals (ns.map V.int) us->XR us ns:=by
 induction ns with
 |nil=>intro us r;rw[ZL]at r;cases r;exact .nil|cons n ns a=>
  intro us r;rw[Uv]at r;cases r with
  |cons b c=>obtain⟨t,e⟩:=b;subst e;exact .cons n t (a c)
section
variable{X:Cx}{e:Expr}{te:TE}{lo hi:Option Expr}{tl th:TO}{pos p2:VW}
theorem JB:PO X b8 Jy:=by intro a s b H Q I h;rw[evalPart_none];exact Ui ⟨b8,H,I,.none,h⟩
theorem JC(h:PE X e te):PO X (b6 e) (Jz te):=by intro a s l H Q I hw;rw[evalPart_some];refine aM (h a s l H _ I hw) λu m ⟨x,b,c,j,d⟩=>?_;obtain⟨i,rfl,q⟩:=d;obtain⟨t,rfl⟩:=j;exact⟨b6 i,b,c,.int i t,q⟩
noncomputable def wZ(X:Cx)(r:V->Option Int->Option Int->Hp->VK->Prop):Prop:=
 ∀(a4z:List (Addr×Obj))(s:T6)(σ:St)(H:Hp)(x:V)(v b c:Value)(lo hi:Option Int)(a:Addr)(Q:VK),Inv X a4z σ H s->RelV x v->s.heap.IsSliceOf a b c .none->IsPart b lo->IsPart c hi->r x lo hi H Q->
  ∃T id,Xw (.type T) "__getitem__"=pure (b6 (.builtin id))/\s.TypeIs v T/\Uu (Ut X.prog X.w) X.A (a0f v (.ref a)) (EP X a4z σ Q) X.xe s
noncomputable def JD(r:V->Option Int->Option Int->Hp->VK->Prop)(te:TE)(tl th:TO):TE:=λσ H Q=>te σ H λx a=>tl σ a λl b=>th σ b λu c=>r x l u c Q
theorem JE{r:V->Option Int->Option Int->Hp->VK->Prop}(K:wZ X r)(B:PE X e te)(G:PO X lo tl)(M:PO X hi th):PE X (.Subscript e (.Slice lo hi b8 p2) pos) (JD r te tl th):=by intro a s d H Q I h;refine a3c (aM (B a s d H _ I h) λv s1 ⟨x,n,p,Z,R⟩=>?_);refine wpAny_Slice (aM (G a s1 d n _ p R) λi s2 ⟨l,o,w,N,U⟩=>aM (M a s2 d o _ w U) λj c ⟨u,m,y,O,Y⟩=>?_);rw[evalPart_none];refine Ui ?_;have z:Inv X a d m {c with heap:=c.heap.push {cls:=.type "slice",data:=.fields #[i,j,.none]}}:=y.kept (t':=c.toks) λb ob q=>Ua _ q;obtain⟨T,id,A,L,E⟩:=K a {c with heap:=c.heap.push {cls:=.type "slice",data:=.fields #[i,j,.none]}} d m x v i j l u c.heap.objs.size Q z Z (a3y ..) N O Y;show Uu (Ut X.prog X.w) X.A (a1A e (.Slice lo hi b8 p2) v (.ref c.heap.objs.size)) (EP X a d Q) X.xe {c with heap:=c.heap.push {cls:=.type "slice",data:=.fields #[i,j,.none]}};exact tail_any (ops:=[.ref c.heap.objs.size,v]) L A E (by with_unfolding_all rfl)
noncomputable def j8(xs:List V)(lo hi:Option Int):List V:=(xs.drop (HT.sIx xs.length 0 lo)).take (HT.sIx xs.length xs.length hi-HT.sIx xs.length 0 lo)
theorem JF(xs:List V)(lo hi:Option Int):(j8 xs lo hi).length<=xs.length:=by unfold j8;rw[UN,U2];omega
end
end L2
namespace L2
open PySem PySem.Spec PyProof.Rows
noncomputable def lV(n:Nat)(i:Int):Option Nat:=if 0<=i then(if i<n then b6 i.toNat else b8)else if -(n:Int)<=i then b6 (i+n).toNat else b8
noncomputable def atI{a:Type}(xs:List a)(i:Int):Option a:=(lV xs.length i).bind λj=>xs[j]?
theorem JG{n:Nat}{i:Int}{j:Nat}(h:lV n i=b6 j):seqIndex? i n=b6 j/\j<n/\-(n:Int)<=i/\i<n:=by
 unfold lV at h;by_cases b:0<=i
 ·rw[if_pos b]at h;by_cases a:i<n
  ·rw[if_pos a]at h;have e:i.toNat=j:=Ux h;exact⟨by rw[seqIndex_of b a,e],by omega,by omega,a⟩
  ·rw[if_neg a]at h;cases h
 ·rw[if_neg b]at h;by_cases a:-(n:Int)<=i
  ·rw[if_pos a]at h;have e:(i+n).toNat=j:=Ux h;exact⟨by rw[seqIndex_neg (by omega) a,e],by omega,a,by omega⟩
  ·rw[if_neg a]at h;cases h
theorem w4{a:Type}{xs:List a}{i:Int}{v:a}(h:atI xs i=b6 v):∃j,seqIndex? i xs.length=b6 j/\xs[j]?=b6 v/\j<xs.length/\-(xs.length:Int)<=i/\i<xs.length:=by
 unfold atI at h;cases e:lV xs.length i with
 |none=>rw[e]at h;cases h|some j=>rw[e]at h;obtain⟨b,c,d,l⟩:=JG e;exact⟨j,b,h,c,d,l⟩
noncomputable def w5(b:Expr):Prop:=∀o i,a0F b b9 o i=operate [o,i] (a0f o i)
noncomputable def IxR(X:Cx)(r:R2):Prop:=
 ∀(b a:Expr)(a4z:List (Addr×Obj))(s:T6)(σ:St)(H:Hp)(x y:V)(v u:Value)(Q:VK),Inv X a4z σ H s->RelV x v->RelV y u->r x y H Q->
  a0F a b9 v u=operate [v,u] (a0f v u)->Uu (Ut X.prog X.w) X.A (a1A b a v u) (EP X a4z σ Q) X.xe s
noncomputable def JI(X:Cx)(id:String)(r:V->List V->Hp->VK->Prop):Prop:=
 ∀(a4z:List (Addr×Obj))(s:T6)(σ:St)(H:Hp)(x:V)(xs:List V)(v:Value)(us:List Value)(Q:VK),Inv X a4z σ H s->RelV x v->Vals xs us->r x xs H Q->
  Uu (Ut X.prog X.w) X.A (call (.builtin id) (v::us)) (EP X a4z σ Q) X.xe s
section
variable{X:Cx}{a b:Expr}{ta tb:TE}{pos:VW}
theorem IxR.or{r j:R2}(h:IxR X r)(h':IxR X j):IxR X (λx y H Q=>r x y H Q\/j x y H Q):=by
 intro d c e s n H x y v u Q I l m q i;rcases q with q|q
 ·exact h d c e s n H x y v u Q I l m q i
 ·exact h' d c e s n H x y v u Q I l m q i
theorem JJ{r:R2}(l:IxR X r)(i:PE X a ta)(j:PE X b tb)(m:w5 b):PE X (.Subscript a b pos) (pS r ta tb):=by intro c s w H Q I h;exact a3c (wK i j I h λv u p x y d e n o q=>l a b c p w d x y v u Q e n o q (m _ _))
noncomputable def B0(K:T3):R2:=λx y H Q=>∃p xs i v,x=.ref p/\y=.int i/\SqL K H p xs/\atI xs i=b6 v/\Q v H
noncomputable def B1(K:T3):R2:=λx y H Q=>∃p xs i v,x=.ref p/\y=.int i/\SqT K H p xs/\atI xs i=b6 v/\Q v H
noncomputable def B2:R2:=λx y H Q=>∃z i c,x=.str z/\y=.int i/\z.length<=Uo/\atI z.cps.toList i=b6 c/\Q (.str ⟨#[c]⟩) H
theorem ix_list:IxR X (B0 X.K):=by
 intro A o c s K H x y v u Q I U Y h G;obtain⟨p,xs,i,z,rfl,rfl,T,O,q⟩:=h;cases U;obtain⟨t,rfl⟩:=Y;obtain⟨l,r,m,hz⟩:=I.list T;obtain⟨j,d,L,h3,M,N⟩:=w4 O;obtain⟨w,B,n⟩:=r.get L;have R:=r.length;have hn:=nD;have fin:EP X c K Q w s:=⟨z,H,I,n,q⟩;by_cases E:0<=i
 ·have e:i.toNat=j:=by rw[seqIndex_of E N]at d;exact Ux d
  exact item_listR m.isList E (by omega) (by rw[e];simpa using B) fin G
 ·have e:(i+(l.toArray.size:Int)).toNat=j:=by rw[seqIndex_neg (by omega) M]at d;rw[Ue,<- R];exact Ux d
  exact a1T (x:=w) m.isList.typeIs a3m.lookup
   (wpAny_getItem_list_neg (Q:=λr Z=>r=w/\EP X c K Q r Z) m.isList (by omega) (by rw[Ue]<;>omega) (by omega) (by rw[e];simpa using B) ⟨rfl,fin⟩) G
theorem ix_tup:IxR X (B1 X.K):=by
 intro l e c s n H x y v u Q I N O h L;obtain⟨p,xs,i,z,rfl,rfl,K,E,q⟩:=h;cases N;obtain⟨t,rfl⟩:=O;obtain⟨M,r,m,hz⟩:=I.tuple K;obtain⟨j,A,B,T,U,Y⟩:=w4 E;obtain⟨w,o,d⟩:=r.get B;have G:=r.length;have Z:=nD;have fin:EP X c n Q w s:=⟨z,H,I,d,q⟩;exact a1T (x:=w) m.typeIs slot_tuple_getitem.lookup
  (getItem_tuple (j:=j) (Q:=λr R=>r=w/\EP X c n Q r R) m (by omega) (by omega) (by rw[Ue,<- G];exact A) (by simpa using o) ⟨rfl,fin⟩) L
theorem JK:IxR X B2:=by
 intro e d m s R H x y v u Q I G K h E
 obtain ⟨z,i,c,rfl,rfl,N,A,q⟩:=h
 obtain ⟨t,rfl⟩:=G
 obtain ⟨O,rfl⟩:=K
 obtain ⟨j,l,p,L,r,w⟩:=w4 A
 have B:z.cps.toList.length=z.length:=by simp [Str.length]
 rw [B] at l r w
 have M:=nD
 exact tail_any (typeIs_str s z t) slot_str_getitem.lookup (getItem_str (c:=c) (by
  have n:decide (i < -(2 ^ 63:Int))=false:=decide_eq_false (by omega)
  have o:decide (i >= 2 ^ 63)=false:=decide_eq_false (by omega)
  rw [n,o,a3g]) (by rw [l];simpa using p) ⟨.str ⟨#[c]⟩,H,I.tok _,⟨_,rfl⟩,q⟩) E
noncomputable def B3 (K:T3):R2:=fun x y H Q=>B0 K x y H Q\/B1 K x y H Q\/B2 x y H Q
theorem JL:IxR X (B3 X.K):=ix_list.or (ix_tup.or JK)
theorem JM(lo c:Option Int)(n:Nat):(Yp lo c b8 n).1=((HT.sIx n 0 lo:Nat):Int)/\(Yp lo c b8 n).2.1=((HT.sIx n n c:Nat):Int)/\(Yp lo c b8 n).2.2=1:=by
 refine⟨?_,?_,rfl⟩
 ·cases lo with
  |none=>simp[Yp,HT.sIx]|some i=>
   simp only[Yp,HT.sIx,a1O,show(1:Int)>0 by decide,if_true];by_cases h:i<0
   ·simp only[h,if_true]<;>omega
   ·simp only[h,if_false]<;>omega
 ·cases c with
  |none=>simp[Yp,HT.sIx]|some i=>
   simp only[Yp,HT.sIx,a1O,show(1:Int)>0 by decide,if_true];by_cases h:i<0
   ·simp only[h,if_true]<;>omega
   ·simp only[h,if_false]<;>omega
theorem JN(c:List Value)(lo d:Option Int):slicePick c.toArray lo d b8=((c.drop (HT.sIx c.length 0 lo)).take (HT.sIx c.length c.length d-HT.sIx c.length 0 lo)).toArray:=by obtain⟨e,h,i⟩:=JM lo d c.toArray.size;unfold slicePick;rw[e,h,i];simp only[sliceRange_one,pick_run,Ue]<;>rfl
noncomputable def w6(K:T3):V->Option Int->Option Int->Hp->VK->Prop:=λx lo c H Q=>∃a xs,x=.ref a/\SqL K H a xs/\∀p,H p=b8->Q (.ref p) (aG H p (.lst (j8 xs lo c)))
theorem JO:wZ X (w6 X.K):=by intro l s G H x v B E e i A Q I y m u w h;obtain⟨a,c,rfl,n,q⟩:=h;cases y;obtain⟨p,r,j,o⟩:=I.list n;have d:=r.length;refine⟨"list",_,a3m.lookup,j.isList.typeIs,?_⟩;refine wpAny_getItem_list_slice j.isList m u w .none (by simp) ?_ (by rw[Ue]<;>omega);rw[JN,<- d];refine⟨.ref s.heap.objs.size,_,I.laid (t':=s.toks) (o:=.lst (j8 c e i)) (λb z q=>Ua _ q) (Up _) ?_,rfl,q _ (I.hok.fresh (Up _))⟩;exact⟨VD (JF c e i) o,_,0,(r.drop (HT.sIx c.length 0 e)).take (HT.sIx c.length c.length i-HT.sIx c.length 0 e),UC _ rfl⟩
theorem B4:OpR X (VN .NotIn) (λx y H Q=>∃i j,x=.str i/\y=.str j/\Q (.bl (!(!(VF j i 0 j.length 1).isEmpty))) H):=by intro c s m H x y v u Q I d e h;obtain⟨i,j,rfl,rfl,q⟩:=h;obtain⟨t,rfl⟩:=d;obtain⟨l,rfl⟩:=e;exact notIn_str ⟨.bl _,H,I,rfl,q⟩
theorem call_len_seq:CallR X (.builtin "len") (λxs H Q=>∃p ys,xs=[.ref p]/\(SqL X.K H p ys\/SqT X.K H p ys)/\Q (.int ys.length) H):=by
 intro l s w H xs v Q I r h;obtain⟨p,ys,rfl,d,q⟩:=h;obtain⟨u,rfl,n⟩:=iI r;cases n;have o:=nD;rcases d with d|d
 ·obtain⟨e,j,i,m⟩:=I.list d;have c:=j.length;exact Calls.call_len_list i.isList (by simp only[Ue]<;>omega) ⟨.int ys.length,H,I.tok _,⟨s.toks+1,by rw[Ue,c]⟩,q⟩
 ·obtain⟨e,j,i,m⟩:=I.tuple d;have c:=j.length;exact len_tuple i (by simp only[Ue]<;>omega) ⟨.int ys.length,H,I.tok _,⟨s.toks+1,by rw[Ue,c]⟩,q⟩
theorem JP:CallR X (.builtin "len") (λxs H Q=>∃z,xs=[.str z]/\z.length<=Uo/\Q (.int z.length) H):=by intro c s j H xs i Q I r h;obtain⟨z,rfl,e,q⟩:=h;obtain⟨u,rfl,t,rfl⟩:=iI r;have d:=nD;exact len_str (by omega) ⟨.int z.length,H,I.tok _,⟨_,rfl⟩,q⟩
theorem CallR.or{f:Value}{r d:List V->Hp->VK->Prop}(h:CallR X f r)(h':CallR X f d):CallR X f (λxs H Q=>r xs H Q\/d xs H Q):=by
 intro c s j H xs i Q I e q;rcases q with q|q
 ·exact h c s j H xs i Q I e q
 ·exact h' c s j H xs i Q I e q
theorem call_list_of:CallR X (.type "list") (λxs H Q=>∃p ys,xs=[.ref p]/\(SqL X.K H p ys\/SqT X.K H p ys)/\∀l,H l=b8->Q (.ref l) (aG H l (.lst ys))):=by
 intro x s E H xs G Q I r h;obtain⟨p,ys,rfl,m,q⟩:=h;obtain⟨u,rfl,B⟩:=iI r;cases B;have fin:∀(c:List Value),Vals ys c->ys.length<=Uo->∀(h':Vb)(d:Nat),(∀b A,s.heap.get? b=b6 A->h'.get? b=b6 A)->
   h'.get? s.heap.objs.size=b6 {cls:=.type "list",dict:=b8,data:=.seq c.toArray d,slots:=#[]}->EP X x E Q (.ref s.heap.objs.size) {s with heap:=h'}:=λc i v h' d w e=>
  ⟨.ref s.heap.objs.size,_,I.laid (t':=s.toks) w (Up _) (show ObjOk X.prog X.w _ h' _ (.lst ys)from⟨v,c,d,i,e⟩),rfl,q _ (I.hok.fresh (Up _))⟩
 rcases m with m|m
 ·obtain⟨c,i,z,v⟩:=I.list m;have j:=i.length;obtain⟨o,y,hc,n,hd⟩:=z.isList;exact call_list_seq p (.inl rfl) y hc hd (λh' d w e=>fin c i v h' d w e) (by simp only[Ue]<;>omega)
 ·obtain⟨c,i,z,v⟩:=I.tuple m;have j:=i.length;obtain⟨o,y,hc,n,hd⟩:=z;exact call_list_seq p (.inr rfl) y hc hd (λh' d w e=>fin c i v h' d w e) (by simp only[Ue]<;>omega)
theorem B5:CallR X (.type "tuple") (λxs H Q=>∃p ys,xs=[.ref p]/\((SqL X.K H p ys/\∀l,H l=b8->Q (.ref l) (aG H l (.tup ys)))\/(SqT X.K H p ys/\Q (.ref p) H))):=by
 intro d s y H xs E Q I r h;obtain⟨p,ys,rfl,h⟩:=h;obtain⟨u,rfl,B⟩:=iI r;cases B;rcases h with⟨j,q⟩|⟨j,q⟩
 ·obtain⟨c,n,m,x⟩:=I.list j;have w:=n.length;refine call_tuple_list m.isList (λi A=>?_) (by simp only[Ue]<;>omega);have v:Inv X d y H {s with heap:=i}:=I.kept (t':=s.toks) A;have z:Inv X d y (aG H i.objs.size (.tup ys)) {s with heap:=i.push {cls:=.type "tuple",data:=.seq c.toArray}}:=
   v.laid (t':=s.toks) (λb o e=>Ua _ e) (Up _) (show ObjOk X.prog X.w _ _ _ (.tup ys)from⟨x,c,n,TupN.new _ _⟩)
  exact⟨.ref i.objs.size,_,z,rfl,q _ (v.hok.fresh (Up _))⟩
 ·obtain⟨c,n,m,x⟩:=I.tuple j;exact call_tuple_same m ⟨.ref p,H,I,rfl,q⟩
noncomputable def w8(K:T3)(T:String)(x:V)(H:Hp):Prop:=match x with
 |.str _=>T="str"|.int _=>T="int"|.ref p=>(T="list"/\∃d,SqL K H p d)\/(T="tuple"/\∃o,K.lookup p=b6 o/\o.cls=.type "tuple"/\o.dict=b8) \/
   (T="dict"/\((∃c,H p=b6 (.dK c))\/∃c,H p=b6 (.dT c)))\/(T="set"/\∃S n,H p=b6 (.set S n))
 |_=>False
theorem JQ{a4z:List (Addr×Obj)}{σ:St}{H:Hp}{s:T6}{T:String}{x:V}{v:Value}(I:Inv X a4z σ H s)(r:RelV x v)(ty:w8 X.K T x H) :
  s.TypeIs v T/\∀a,v=.ref a->∃m,s.heap.get? a=b6 m/\m.dict=none:=by
 cases x with
 |str z=>obtain⟨t,rfl⟩:=r;cases(show T="str" from ty);exact⟨typeIs_str s z t,λ_ e=>nomatch e⟩|int i=>obtain⟨t,rfl⟩:=r;cases(show T="int" from ty);exact⟨typeIs_int s i t,λ_ e=>nomatch e⟩|ref p=>
  cases r;rcases ty with⟨rfl,y,u⟩|⟨rfl,o,d,hc,hd⟩|⟨rfl,d⟩|⟨rfl,S,n,d⟩
  ·obtain⟨w,_,q,_⟩:=I.list u;refine⟨q.isList.typeIs,λa e=>?_⟩;cases e;obtain⟨o,n,e,c,hd,_⟩:=q;exact⟨o,e,hd⟩
  ·refine⟨⟨o,I.kIn p o d,hc⟩,λa e=>?_⟩;cases e;exact⟨o,I.kIn _ o d,hd⟩
  ·have z:∃o,s.heap.get? p=b6 o/\o.ExactDict:=by
    rcases d with⟨l,d⟩|⟨l,d⟩
    ·obtain⟨_,_,_,_,o,_,_,e,h,_⟩:=I.hok p _ d;exact⟨o,e,h⟩
    ·obtain⟨_,_,_,_,o,_,_,e,h,_⟩:=I.hok p _ d;exact⟨o,e,h⟩
   obtain⟨o,e,h⟩:=z;refine⟨⟨o,e,h.1⟩,λa j=>?_⟩;cases j;exact⟨o,e,h.2.1⟩
  ·obtain⟨o,_,_,_,e,h,_⟩:=I.hok p _ d;refine⟨⟨o,e,h.1⟩,λa j=>?_⟩;cases j;exact⟨o,e,h.2.1⟩
 |_=>exact UT ty
noncomputable def B6(K:T3)(T:String)(r:V->List V->Hp->VK->Prop)(to:TE)(t:TA):TE:=λσ H Q=>to σ H λx c=>w8 K T x c/\t σ c λxs d=>r x xs d Q
variable{o e:Expr}{es:List Expr}{to:TE}{t:TA}{name:Str}{apos cpos:VW}{T id:String}{r:V->List V->Hp->VK->Prop}
theorem JR(N:PlainAttrs T)(m:Slot T name id)(n:typeOf (.builtin id)=pure (.type "method_descriptor")) (K:JI X id r)(L:PE X o to)(G:PA X (e::es) t)
  (i:Yo o name X.env (eval o X.env)=eval o X.env:=by rfl)
  (l:((W6 cpos (UW (e::es) X.env)).all (λx=>!x.1)&&(a1f cpos (ZF [] X.env)).all (λx=>x.1.isSome)
   && decide ((e::es).length+([]:List Xs).length+(if([]:List Xs).isEmpty then 0 else 1)<30))=true:=by rfl)
  (j:(apos.endLine==cpos.line)=true:=by rfl)(M:UW (e::es) X.env=(b9,eval e X.env)::UW es X.env:=by rfl)(c:(W6 cpos (UW es X.env)).any (·.1)=false:=by rfl) :
  PE X (.Call (.Attribute o name apos) (e::es) [] cpos) (B6 X.K T r to t):=by
 intro d s p H Q I h;refine wpAny_Call_method_late i l j rfl (aM (L d s p H _ I h) λv Y ⟨x,y,q,w,ty,O⟩=>?_);obtain⟨B,E⟩:=JQ q w ty;refine⟨T,id,N,m,n,B,E,?_⟩;have u:=G cpos d Y p y _ q O;rw[M]at u ⊢;refine a0N (by show(b9||(W6 cpos (UW es X.env)).any (·.1))=b9;rw[c]<;>rfl) (a1n ?_);exact aM u λus Z ⟨vs,z,A,U,R⟩=>K d Z p z x vs v us Q A w U R
end
end L2
namespace L2
open PySem PySem.Spec PyProof.Rows
noncomputable def B7(X:Cx)(id:String)(r:V->List V->Hp->VK->Prop):Prop:=
 ∀(a4z:List (Addr×Obj))(s:T6)(σ:St)(H:Hp)(x:V)(xs:List V)(v:Value)(us:List Value)(Q:VK),Inv X a4z σ H s->RelV x v->Vals xs us->r x xs H Q->
  Uu (Ut X.prog X.w) X.A (call (.builtin id) (v::us)) (EP X a4z σ Q) X.xe s
theorem Vals.one:∀{x:V}{us:List Value},Vals [x] us->∃u,us=[u]/\RelV x u
 |_,_,.cons r .nil=>⟨_,rfl,r⟩
section
variable{X:Cx}{a4z:List (Addr×Obj)}{σ:St}{H:Hp}{s:T6}{l b:Addr}{xs ys zs:List V}
theorem Inv.lset{a its':List Value}{n:Nat}{f:Array Value->Array Value}{t':Nat}(I:Inv X a4z σ H s)(c:H l=b6 (.lst xs))
  (e:s.heap.get? l=b6 {cls:=.type "list",data:=.seq a.toArray n}) (h:f a.toArray=its'.toArray)(j:Vals ys its')(hz:ys.length<=Uo) :
  Inv X a4z σ (aG H l (.lst ys)) {s with heap:=s.heap.update l (Wg f),toks:=t'}:=by
 have q:=PySem.IsL.update e f;rw[h]at q;refine I.write (x:=l) (e:=l) (by rw[c];exact trivial) (.inl rfl) (λm u d i=>(U4 s.heap (Wg f) (Vf d)).trans i) ⟨_,q⟩ ?_;exact⟨hz,its',_,j,q⟩
theorem Inv.lnew{a:List Value}{t':Nat}(I:Inv X a4z σ H s)(c:Vals ys a)(hz:ys.length<=Uo) :
  Inv X a4z σ (aG H s.heap.objs.size (.lst ys)) {s with heap:=s.heap.push {cls:=.type "list",data:=.seq a.toArray},toks:=t'}:=
 I.laid (λ_ _ q=>Ua _ q) (Up _) ⟨hz,a,0,c,UC _ rfl⟩
theorem Inv.fresh(I:Inv X a4z σ H s):H s.heap.objs.size=none:=I.hok.fresh (Up _)
theorem Inv.lstM(I:Inv X a4z σ H s)(c:H l=b6 (.lst xs)):xs.length<=Uo/\∃(a:List Value)(n:Nat),Vals xs a/\xs.length=a.length/\s.heap.get? l=b6 {cls:=.type "list",data:=.seq a.toArray n}:=by obtain⟨z,a,n,r,e⟩:=I.hok l _ c;exact⟨z,a,n,r,r.length,e⟩
end
section
variable{X:Cx}
noncomputable def B8:V->List V->Hp->VK->Prop:=λx vs H Q=>∃l xs y,x=.ref l/\vs=[y]/\H l=b6 (.lst xs)/\xs.length<Uo/\Q .non (aG H l (.lst (xs++[y])))
theorem B9:B7 X "list.append" B8:=by intro c s B H x w v p Q I j i h;obtain⟨l,A,y,rfl,rfl,b,o,q⟩:=h;cases j;obtain⟨u,rfl,d⟩:=i.one;obtain⟨z,a,n,r,m,e⟩:=I.lstM b;refine call_meets F.slot_list_append ⟨_,e,rfl⟩ F.entry_list_append (F.args_list_append_2 _ _) (PySem.list_append l a.toArray n u (by rw[Ue];omega)) ⟨e,?_⟩;refine⟨.non,_,I.lset (its':=a++[u]) b e (by simp) (r.append (.cons d .nil)) ?_,rfl,q⟩;rw[Uj,X1];omega
noncomputable def Cb:R2:=λx y H Q=>∃l b xs a,x=.ref l/\y=.ref b/\H l=b6 (.lst xs)/\H b=b6 (.lst a)/\xs.length+a.length<=Uo/\∀p,H p=b8->Q (.ref p) (aG H p (.lst (xs++a)))
theorem JS:OpR X (XA .Add) Cb:=by
 intro d s O H x y v u Q I A B h;obtain⟨l,b,L,N,rfl,rfl,o,m,G,q⟩:=h;cases A;cases B;obtain⟨z,c,n,r,E,e⟩:=I.lstM o;obtain⟨M,a,K,w,p,i⟩:=I.lstM m;refine PySem.P.add_list e i ?_ (by rw[Ue,Ue];omega);have j:c.toArray++a.toArray=(c++a).toArray:=by simp
 rw[j];exact⟨.ref _,_,I.lnew (t':=s.toks) (r.append w) (by rw[Uj];omega),rfl,q _ I.fresh⟩
end
section
variable{prog:Ur}{w:UJ}{A:UD}{E:Value->T6->Prop}{s:T6}
end
section
variable{X:Cx}
end
end L2
namespace Att
open PySem PySem.W PySem.Calls PyProof.Rows
theorem JT{P:VJ}{h:Vb}:∀(ns:List Int)(vs:List Value),WellAll P h vs (ns.map Yb)->XR vs ns:=by
 intro ns;induction ns with
 |nil=>intro vs w;rw[ZL]at w;cases w;exact .nil|cons n ns c=>
  intro vs w;rw[Uv]at w;cases w with
  |cons a b=>cases a;exact .cons _ _ (c _ b)
theorem script_of{l:OpenLaw}{n:Nat}(y:l.most=b6 n){P:VJ}{h:Vb}{args:List WData}{e:List Value}
  (c:l.row.toRowW.claim.pre args=c4)(s:WellAll P h e args) :
  ∃a u b,e=[Ug a]/\args=[WData.list (b.map Yb)]/\h.get? a=b6 {cls:=.type "list",data:=.seq u.toArray}/\XR u b/\b.length<=n:=by
 have p:WShape.hasAll [] args [.list .int]=true:=(pre_splitW c).1;have hc:l.pre.holds [] {args:=args}=true:=(pre_splitW c).2;obtain⟨d,r,rfl,v,w⟩:=hasAllW_cons p;obtain rfl:=hasAllW_nil w;obtain⟨G,rfl,x⟩:=hasW_list v;obtain⟨b,rfl⟩:=items_int x;have j:b.length<=n:=by
  unfold OpenLaw.pre at hc;have m:(WTm.not (.lt (.lit (.int (n:Int))) (.len (.arg 0)))).holds [] {args:=[.list (b.map .int)]}=true:=by have m:=(holds_andW hc).1;rw[y]at m;exact m
  have o:=condW_of m (w_not (w_lt w_lit (w_len_list (w_arg rfl))));rw[Uc]at o;refine a2N λq=>?_;have A:(n:Int)<((b.length:Nat):Int):=by omega
  first
   |(rw[decide_eq_true A]at o;exact absurd o (by decide))|(simp at o;omega)
 cases s with
 |cons B E=>
  cases E;cases B with
  |list z i=>exact⟨_,_,b,rfl,rfl,z,JT b _ i,j⟩
theorem post_true(l:OpenLaw)(args:List WData):l.row.toRowW.claim.post args (.bool c4) args=true:=
 postW_of (r:=l.row.toRowW) (X:=(c4==c4))
  (show a3q [] (.bool c4) .bool=c4 by first|rfl|decide|simp[a3q,WShape.arms,WShape.armsAll])
  (show(WTm.eq .res (.lit (.bool c4))).value [] {args:=args,res:=b6 (.bool c4),after:=args}=b6 (.bool (c4==c4))from w_eq_bool (w_res rfl) w_lit) rfl
section
variable{prog:Ur}{w:UJ}{A:UD}{E:Value->T6->Prop}{s:T6}{K:Frag}
end
end Att
namespace L2
open PySem PySem.Spec PyProof.Rows
theorem Cd:∀{vs:List Value}{ns:List Int},XR vs ns->Vals (ns.map V.int) vs
 |_,_,.nil=>.nil|_,_,.cons n t h=>.cons ⟨t,rfl⟩ (Cd h)
noncomputable def Ce(H:Hp):Prop:=∀b,H b=b8\/∃o xs,H b=b6 (.frz o (.lst xs))
theorem law_call{P:Ur}{w:UJ}{K:T3}{mg Z:Str->Option Value}{CX:fQ}{k:Nat}{R a:Addr}{fd:VQ}{x:Str}{sp:Sp}{c:T6}{vs:List Value}{ns:List Int}
  (KX:K.In c.heap)(I:c.heap.Ns U1 mg)(i:c.heap.Ns a3b Z)(U:∀x:Str,x ≠ "__name__"->Z x=V9 x) (G:c.heap.NoLimit)(hg:c.gens=#[])
  (O:c.heap.get? a=b6 {cls:=.type "list",data:=.seq vs.toArray}) (hi:XR vs ns)(hl:ns.length<=Uo)(hr:Room k a0g)
  (F:∀j:Vb,K.In j->j.Ns U1 mg->FnOk P w K mg j CX k R fd [x] sp)(A:∀(s:T6)(u:Value),ZR s fd ⟨[u],[]⟩ [(x,u)])
  (Y:∀H:Hp,Ce H->SqL K H a (ns.map V.int)->sp [.ref a] H (λv _=>v=.bl c4) λ_ _ _=>False)
  (T:∀H e l,CX [] H c (λ_ _ _=>False) e l->False) :
  YW (Ut P w) a0g (.call (.ref R) ⟨[.ref a],[]⟩) (λr l=>r=.ok (.ret (.bool c4))/\OldK c.heap l.heap/\l.os=c.os/\YY l.gens) c:=by
 have rv:=Cd hi;have M:=hi.length
  -- from an abstract heap in which nothing but the script may be tracked
 have y:∀H:Hp,Ce H->SqL K H a (ns.map V.int)->HOk P w H c.heap->(∀b,H b≠b8->b=a)->(H a≠b8->K.lookup a=b8)->
   YW (Ut P w) a0g (.call (.ref R) ⟨[.ref a],[]⟩) (λr l=>r=.ok (.ret (.bool c4))/\OldK c.heap l.heap/\l.os=c.os/\YY l.gens) c:=by
  intro H hO hS hok hA hK;have nX:∀{b:Addr}{o:Obj},c.heap.get? b=b6 o->H b=b8->(jC c.heap H).get? b=b6 o:=λe n=>Ho e n;have noA:∀{b:Addr}{o:Obj}{es:Array DictEntry}{ep:Nat},c.heap.get? b=b6 o->o.data=.dict es ep->H b=none:=λ{b o es ep} e d=>by
   cases q:H b with
   |none=>rfl|some u=>have Q:b=a:=hA b (by rw[q];simp);subst Q;rw[O]at e;cases e;have d':ZO vs.toArray _=XJ es ep:=d;cases d'
  have p:∀{b:Addr}{m:Str->Option Value},c.heap.Ns b m->(jC c.heap H).Ns b m:=λ{b m} ⟨o,es,ep,e,d,r⟩=>⟨o,es,ep,nX e (noA e d),d,r⟩;have E:K.In (jC c.heap H):=λb o e=>nX (KX b o e) (by
   cases q:H b with
   |none=>rfl|some u=>
    have Q:b=a:=hA b (by rw[q];simp);subst Q;rw[hK (by rw[q];simp)]at e;cases e)
  have hM:Mod K mg (jC c.heap H):=⟨E,p I,⟨Z,p i,U⟩,let⟨mc,h1,h2⟩:=G;⟨mc,p h1,h2⟩⟩;have e0:Env0 P w K mg (jC c.heap H) a0g [] c H:=⟨rfl,hM,λb o e=>Hq e,a1k (Hn _ _),trivial,λb i=>absurd (show b∈([]:List Addr)from i) (by simp),hok,.of_eq hg⟩;refine X9 ((F _ E (p I)).run a0g [] c H ⟨[.ref a],[]⟩ [.ref a] [.ref a] _ _ hr e0 (A c (.ref a)) (.cons rfl .nil) (Y H hO hS)) λr l h=>?_;cases r with
  |error e=>exact(T H e l h).elim|ok fl=>
   cases fl with
   |next=>exact UT h|brk=>exact UT h|cont=>exact UT h|ret u=>
    obtain⟨v,H',os,B,un,L,r',q⟩:=h;have q':v=.bl true:=q;subst q';obtain rfl:u=V5 true:=r';refine⟨rfl,OldK.of_keep λb o e=>?_,os,B⟩;cases q:H b with
    |none=>exact un.keep b o e q (by intro z;exact absurd (show b∈([]:List Addr)from z) (by simp)) (by simp)|some u=>
     rcases hO b with z|⟨ob,xs,z⟩
     ·rw[q]at z;cases z
     ·have z2:=un.frzs b ob _ z;obtain⟨e1,_⟩:=hok b _ z;obtain⟨e2,_⟩:=L b _ z2;rw[e]at e1;cases e1;exact e2
 cases X:K.lookup a with
 |some o=>-- the script is one of the module's own objects
  have e:=KX a o X;rw[O]at e;cases e;refine y (λ_=>b8) (λ_=>.inl rfl) (.inr ⟨_,vs.toArray,_,X,rfl,rfl,rfl,by rw[Ue,M];exact hl,by simpa using rv⟩) (λb u z=>by have N:(b8:Option HO)=b6 u:=z;cases N) (λb z=>absurd rfl z) λz=>absurd rfl z
 |none=>
  refine y (λb=>if b=a then b6 (.frz {cls:=.type "list",data:=.seq vs.toArray} (.lst (ns.map V.int)))else b8) (λb=>?_) (.inl (.inr ⟨{cls:=.type "list",data:=.seq vs.toArray},if_pos rfl⟩)) (λb u z=>?_) (λb z=>?_) λ_=>X
  ·by_cases i:b=a
   ·exact .inr ⟨_,_,if_pos i⟩
   ·exact .inl (if_neg i)
  ·by_cases i:b=a
   ·have N:=(if_pos i).symm.trans z;cases N;subst i;exact⟨O,by rw[Uc];exact hl,vs,_,rv,O⟩
   ·have N:=(if_neg i).symm.trans z;cases N
  ·by_cases i:b=a
   ·exact i
   ·exact absurd (if_neg i) z
end L2
namespace L2
open PySem PySem.Spec PyProof.Rows
end L2
namespace L2
open PySem PySem.Spec PyProof.Rows
noncomputable def fB(s:Stmt):a3M:=match s with
 |.FunctionDef _ a _ _ _ _ _ _ _ _=>a|_=>{posonlyargs:=[],args:=[],vararg:=b8,kwonlyargs:=[],kw_defaults:=[],kwarg:=b8,defaults:=[]}
noncomputable def cD(s:Stmt):List Stmt:=match s with
 |.FunctionDef _ _ b _ _ _ _ _ _ _=>b|_=>[]
noncomputable def bC(s:Stmt):WB:=match s with
 |.FunctionDef _ _ _ _ _ _ sc _ _ _=>sc|_=>{kind:=.function,names:=[],isGenerator:=b9,isCoroutine:=b9}
noncomputable abbrev cY:fQ:=λ_ _ _ _ _ _=>False
noncomputable abbrev E0:XK:=λ_ _ _=>False
theorem Cf{X:Cx}:sJ cY X E0:=λ_ _ _ _ _ _ _ h=>h.elim
structure Fun(K:T3)(x qual:Str)(st:Stmt)(f:Addr)(fd:VQ):Prop where
 ex:∃(oc:Value)(od:Option Addr)(dV kV doc pm:Value)(an:Option Addr)(cdv ct:Value)(osl:Array (Option Value)),
  fd=VO x qual (fB st) (cD st) (bC st) dV kV doc pm an cdv ct/\K.lookup f=b6 ⟨oc,od,.func fd,osl⟩/\XH K cdv qual=c4
 kp:U9 K (.ref f)=c4
section
variable{P:Ur}{w:UJ}{K:T3}{mg:Str->Option Value}{base:Vb}
theorem Fun.ok{x qual:Str}{st:Stmt}{f:Addr}{e:VQ}{N ps:List Str}{k:Nat}{sp:Sp}(F:Fun K x qual st f e)(S:FnScope N ps (bC st))(len:∀vs H Q E,sp vs H Q E->vs.length=ps.length)
  (b:∀(a:Value)(A:UD)(outer:List YD)(s:T6)(H:Hp)(vs:List V)(Q:VK)(E:XK),Room k (A.deeper (envOfC qual (bC st) s.heap.objs.size f a))->sp vs H Q E->
   ∃t,PSs (dA cY P w K mg base N qual (bC st) f a A outer s H E).nox (cD st) t/\t {nx:=λ_ i=>Q .non i,rt:=Q} (start N vs) H):FnOk P w K mg base cY (k+1) f e ps sp:=by
 obtain⟨p,r,o,kV,j,u,n,a,ct,m,rfl,lk,c⟩:=F.ex;refine wW lk c S len λA outer s H vs Q E l d=>?_;obtain⟨t,h,q⟩:=b a A outer s H vs Q E l d;exact⟨t,h.nox,q⟩
theorem Cg{x qual:Str}{st:Stmt}{f:Addr}{i:Value}{j an:Option Addr}{d:Array (Option Value)}{e kV b h a ct:Value}(l:K.lookup f=b6 ⟨i,j,.func (VO x qual (fB st) (cD st) (bC st) e kV b h an a ct),d⟩)
  (c:XH K a qual=c4)(k:U9 K (.ref f)=c4):Fun K x qual st f (VO x qual (fB st) (cD st) (bC st) e kV b h an a ct):=⟨⟨i,j,e,kV,b,h,an,a,ct,d,rfl,l,c⟩,k⟩
end
theorem JU{A:UD}{k:Nat}(a:Room k A):A.units+1<Wi:=Nat.lt_of_le_of_lt (Nat.add_le_add_left (by decide:1<=64) _) a.units
section
variable{X:Cx}
theorem call_lenD:CallR X (.builtin "len") (λxs H Q=>∃a kvs,xs=[V.ref a]/\H a=b6 (.dK kvs)/\Q (.int kvs.length) H):=by intro c s l H xs j Q I r h;obtain⟨a,kvs,rfl,d,q⟩:=h;obtain⟨u,rfl,e⟩:=iI r;cases e;exact Jj I (.inl d) λt i b=>⟨.int kvs.length,H,b,⟨t,rfl⟩,q⟩
end
theorem lW{A B:Prop}(h:B):if b9=c4 then A else B:=by rw[if_neg Vl];exact h
theorem lX{A B:Prop}(h:A):if c4=c4 then A else B:=by rw[if_pos rfl];exact h
section
variable{κ:Type} [DecidableEq κ]
end
end L2
namespace L3
open PySem PySem.W
theorem left_cut{p q:Ur}{loose:List Str}{Xt:T6 → Bool}{R:Type}{Yf:T6 → R}{Ya:UJ → R}{N:Nat}{A:Bool}{hA hB hC hD:VJ → Vb}{kA B E G b:Nat}{i:Option Value}{v m n o u n4:Nat}{env:YD}{l H x I K L:VW}{i1 i2 i3:Nat}
  (j:∀w:UJ,(fencedOpening WJ p w N).map (λs=>(s.heap,s.gens,s.drawn,s.toks))=b6 (XZ w.params,U5 [],VC,a0B))
  (size:∀w:UJ,((XZ w.params).isNs U1,(XZ w.params).objs.size,(XZ w.params).nsMap U1 "__annotations__")=(c4,b,i))
  (z:∀(w:UJ)(a:YG),topGo WJ p w b i v ⟨XZ w.params,U5 [],VC,a0B,a⟩ (topStub p)=b6 (⟨hA w.params,U5 [],VC,kA,a⟩,⟨denote WJ (.body (UI p) env),.body (UI p) env,H,[X5 l]⟩))
  (y:∀(w:UJ)(a:YG),a0w WJ p w b i 1 m ⟨hA w.params,U5 [],VC,kA,a⟩ (blockOf (UI p) env (.body (UI p) env) H [X5 l])=b6 (.next,⟨hA w.params,U5 [],VC,kA,a⟩,.body (UI p) env,x))
  (s1:∀(w:UJ)(a:YG),a0w WJ p w b i 1 n ⟨hA w.params,U5 [],VC,kA,a⟩ (a0e ((UI p).take i1) env (.body (UI p) env) x [X5 l])=b6 (.next,⟨hB w.params,U5 [],VC,B,a⟩,.body (UI p) env,I))
  (s2:∀(w:UJ)(a:YG),a0w WJ p w b i 1 o ⟨hB w.params,U5 [],VC,B,a⟩ (a0e (((UI p).drop i1).take i2) env (.body (UI p) env) I [X5 l])=b6 (.next,⟨hC w.params,U5 [],VC,E,a⟩,.body (UI p) env,K))
  (s3:∀(w:UJ)(a:YG),a0w WJ p w b i 1 u ⟨hC w.params,U5 [],VC,E,a⟩ (a0e ((((UI p).drop i1).drop i2).take i3) env (.body (UI p) env) K [X5 l])=b6 (.next,⟨hD w.params,U5 [],VC,G,a⟩,.body (UI p) env,L))
  (fin:∀(w:UJ)(a:YG),((topRun WJ p w b i n4 ⟨hD w.params,U5 [],VC,G,a⟩ (restOf ((((UI p).drop i1).drop i2).drop i3) env (.body (UI p) env) L [X5 l])).bind λc=>match staticsOk (a3R p.main.body) (XZ w.params) c.heap&&namesBound p c.heap&&gensDone c&&laidKept (XZ w.params) c.heap with
   |true=>b6 c
   |false=>b8).map (λs=>(openSeen q loose (a3R p.main.body) Xt A s,Yf s))=b6 (openGood q loose,Ya w))
  (le:Nat.ble (v+(m+(n+(o+(u+n4))))) N=c4):LeftO p q loose Xt Yf Ya N A:=λw=>by
 obtain⟨⟨h,U,d,k,a⟩,e,T⟩:=T7.mp (j w);obtain⟨rfl,rfl,rfl,rfl⟩:h=XZ w.params ∧ U=U5 [] ∧ d=VC ∧ k=a0B:=by simpa using T
 obtain⟨z1,z2,z3⟩:_ ∧ _ ∧ _:=by simpa only[Prod.mk.injEq]using size w
 obtain⟨s,Z,hv⟩:=T7.mp (fin w a);obtain⟨c,X,Y⟩:=TZ.mp Z;have Q:=a3z (s3 w a) X;rw[UR]at Q;have O:=a3z (s2 w a) Q;rw[UR]at O;have M:=a3z (s1 w a) O;rw[UR]at M;have r0:=go_top (z w a) (piece_block (y w a) M);have r:=topRun_mono (N-(v+(m+(n+(o+(u+n4)))))) _ _ _ _ r0;rw[show v+(m+(n+(o+(u+n4))))+(N-(v+(m+(n+(o+(u+n4))))))=N by have:=Nat.le_of_ble_eq_true le;omega]at r;have t:topFrom WJ p w N ⟨XZ w.params,U5 [],VC,a0B,a⟩=b6 s:=by unfold topFrom;dsimp only;rw[z1,z2,z3,r];exact Y
 unfold openEnds;rw[e];show(topFrom WJ p w N _).map _=_;rw[t];exact congrArg b6 hv
end L3
namespace Lw
open PySem L2
noncomputable def aO(i:Nat):Stmt:=Vp.main.body.getD i (.Pass ⟨0,0,0,0⟩)
noncomputable def Vw:Ur:={Vp with main:={Vp.main with body:=aO 1::aO 2::aO 3::aO 4::aO 5::aO 6::aO 7::aO 8::aO 9::aO 10::aO 11::aO 12::aO 13::aO 14::aO 16::aO 17::aO 18::aO 20::aO 21::aO 22::aO 23::aO 24::aO 25::aO 26::aO 28::aO 29::aO 30::aO 31::aO 32::aO 33::aO 34::aO 35::aO 36::aO 37::aO 38::aO 39::aO 40::aO 41::aO 42::aO 43::aO 44::[]}}
noncomputable abbrev vS(x:String)(n:Nat):Value:=Zf (We x) n
noncomputable abbrev vI(i:Int):Value:=Xp i 0
noncomputable abbrev vR(a:Addr):Value:=Ug a
noncomputable abbrev vN:Value:=US
noncomputable abbrev cO(fs:Array Value):Obj:={cls:=Uw "code",data:=Vq fs}
noncomputable abbrev kO(x y:String)(a b c:Nat)(l n i j k:Int)(r:Addr)(q:Int)(vs:Array Value)(t d:Int)(e:Nat):Obj:={cls:=Uw "code",data:=Vq (#[vS x a,vS x b,vS y c,vI l,vI n,vI i,vI j,vI k,vR r,V5 c4,vI q]++vs++#[vI t,vI d,vS y e])}
noncomputable abbrev tO(fs:Array Value):Obj:={cls:=Uw "tuple",data:=ZO fs}
noncomputable abbrev fO(x:Str)(n:Nat)(m:Value)(c:Addr):Obj:=⟨Uw "function",b8,.func (VO x x (fB (aO n)) (cD (aO n)) (bC (aO n)) US US US m b8 (Ug c) US),#[]⟩
noncomputable abbrev eO(P:VJ)(x:String)(n:Nat)(v:Value):DictEntry:={hash:=PyData.keyHash P (We x),key:=Zf (We x) n,val:=v}
noncomputable abbrev eR(P:VJ)(x:String)(n:Nat)(a:Addr):DictEntry:=eO P x n (vR a)
noncomputable abbrev kA(p:Addr×Obj)(R:T3):T3:=p::R
noncomputable def eK(i j:Nat):Stmt:=match aO i with|.ClassDef _ _ _ b _ _ _ _ _ _ _=>b.getD j (.Pass ⟨0,0,0,0⟩)|_=>.Pass ⟨0,0,0,0⟩
noncomputable def Ci:List String → Nat → List Value
 |[],_=>[]|x::xs,n=>vS x n::Ci xs (n+1)
noncomputable abbrev tN(xs:List String)(n:Nat):Obj:=tO (U5 (Ci xs n))
open PySem.W in
noncomputable def lA(P:VJ):List Obj:=((boot_o_0 P)::(boot_o_1 P)::(boot_o_2 P)::(boot_o_3 P)::(boot_o_4 P)::(boot_o_5 P)::(boot_o_6 P)::(boot_o_7 P)::(boot_o_8 P)::(boot_o_9 P)::(boot_o_10 P)::(tO #[])::({cls:=vN,data:=Vq #[]})::(cO #[vS "<module>" 182,vS "<module>" 183,vS "/claim/cut.py" 184,vI 1,vI 0,vI 0,vI 0,vI 0,vR 11,V5 b9,vI 181,vR 12,vN,vN,vN,vN,vI 185,vI 1,vS "/claim/cut.py" 186])::({cls:=Uw "frame",slots:=#[b6 (vR 13),b6 (vR 3),b6 (vR 3),b8,b6 (vS "__main__" 164),b8,b6 (vR 0)]})::[])
open PySem.W in
noncomputable def iK(P:VJ)(a:Nat)(c:String)(d:Nat)(b:Nat)(R:List Obj):List Obj:=(tO #[vR 24])::({cls:=Uw "builtin_function_or_method",data:=Vq #[Ve "type.__prepare__",Uw "type"]})::({cls:=Uw "dict",data:=XJ #[eO P "__module__" a (vS "creasecourt.errors" 187),eO P "__qualname__" (a+2) (vS c (a+1)),eO P "__firstlineno__" (a+4) (Xp d (a+3)),eR P "__static_attributes__" (a+5) b] 4})::(tO #[])::({cls:=vN,data:=Vq #[]})::(cO #[vS c (a-5),vS c (a-4),vS "/claim/cut.py" (a-3),vI d,vI 0,vI 0,vI 0,vI 0,vR (b-4),V5 b9,vI 181,vR (b-3),vN,vN,vN,vN,vI (a-2),vI d,vS "/claim/cut.py" (a-1)])::({cls:=Uw "frame",slots:=#[b6 (vR (b-2)),b6 (vR 3),b6 (vR (b-5)),b8,b6 (vS "creasecourt.errors" 187),b8,b6 (vR 0)]})::(tO #[])::({cls:=Uw "dict",data:=XJ #[eO P "__module__" a (vS "creasecourt.errors" 187),eO P "__firstlineno__" (a+4) (Xp d (a+3)),eR P "__static_attributes__" (a+5) b,eO P "__doc__" (a+6) vN] 2})::({cls:=Uw "type",data:=a1x {name:=We c,bases:=[vR 24],mro:=[vR (b+2),vR 24,Uw "ValueError",Uw "Exception",Uw "BaseException",Uw "object"],ns:=(b+1),qualname:=We c},slots:=#[b6 (vR (b-7)),b8,b6 (vS c (a-7)),b6 (vS c (a+1)),b6 (Ve "ValueError.__new__"),b6 (V5 c4)]})::({cls:=Uw "super",data:=Vq #[vR (b+2),vR (b+2),vR (b+2)]})::({cls:=Uw "builtin_function_or_method",data:=Vq #[Ve "object.__init_subclass__",vR (b+2)]})::R
open PySem.W in
noncomputable def w9(P:VJ)(a:Nat)(c:String)(d:Nat)(b:Nat)(i:List String)(h:String)(e:Nat)(j:List String)(R:List Obj):List Obj:=(tO #[vR 24])::({cls:=Uw "builtin_function_or_method",data:=Vq #[Ve "type.__prepare__",Uw "type"]})::({cls:=Uw "dict",data:=XJ #[eO P "__module__" a (vS "creasecourt.errors" 187),eO P "__qualname__" (a+2) (vS c (a+1)),eO P "__firstlineno__" (a+4) (Xp d (a+3)),eR P "__init__" (a+12) b,eR P "__static_attributes__" (a+14) (b+1)] 5})::(tO #[])::({cls:=vN,data:=Vq #[vI (d+2),vI 4,vR (b-1)]})::(cO #[vS c (a-5),vS c (a-4),vS "/claim/cut.py" (a-3),vI d,vI 0,vI 0,vI 0,vI 0,vR (b-10),V5 b9,vI 181,vR (b-9),vN,vN,vN,vN,vI (a-2),vI d,vS "/claim/cut.py" (a-1)])::({cls:=Uw "frame",slots:=#[b6 (vR (b-8)),b6 (vR 3),b6 (vR (b-11)),b8,b6 (vS "creasecourt.errors" 187),b8,b6 (vR 0)]})::(tO #[])::({cls:=vN,data:=Vq #[]})::(tN i (a+8))::(tO #[])::(⟨vN,b8,.func ({VO "__init__" h (fB (eK e 0)) (cD (eK e 0)) (bC (eK e 0)) vN vN vN vN (b8) vN vN with globals:=0}),#[]⟩)::(cO #[vS "__init__" (a+5),vS h (a+6),vS "/claim/cut.py" (a+7),vI (d+2),vI 2,vI 0,vI 0,vI 3,vR (b-6),V5 c4,vI 181,vR (b-5),vN,vR (b-4),vR (b-3),vR (b-2),vI (a+10),vI (d+2),vS "/claim/cut.py" (a+11)])::(⟨Uw "function",b8,.func (VO "__init__" h (fB (eK e 0)) (cD (eK e 0)) (bC (eK e 0)) vN vN vN (vS "creasecourt.errors" 187) (b8) (vR (b-1)) vN),#[]⟩)::(tN j (a+13))::({cls:=Uw "dict",data:=XJ #[eO P "__module__" a (vS "creasecourt.errors" 187),eO P "__firstlineno__" (a+4) (Xp d (a+3)),eR P "__init__" (a+12) b,eR P "__static_attributes__" (a+14) (b+1),eO P "__doc__" (a+15) vN] 2})::({cls:=Uw "type",data:=a1x {name:=We c,bases:=[vR 24],mro:=[vR (b+3),vR 24,Uw "ValueError",Uw "Exception",Uw "BaseException",Uw "object"],ns:=(b+2),qualname:=We c},slots:=#[b6 (vR (b-13)),b8,b6 (vS c (a-7)),b6 (vS c (a+1)),b6 (Ve "ValueError.__new__"),b6 (V5 c4)]})::({cls:=Uw "super",data:=Vq #[vR (b+3),vR (b+3),vR (b+3)]})::({cls:=Uw "builtin_function_or_method",data:=Vq #[Ve "object.__init_subclass__",vR (b+3)]})::R
open PySem.W in
noncomputable def dG(i:List String)(b:Nat)(c:String)(d:Nat)(e:Nat)(j:Nat)(a:Nat)(h:Nat)(l:String)(m:Nat)(R:List Obj):List Obj:=(tO #[])::({cls:=vN,data:=Vq #[]})::(tN i b)::(tO #[])::(⟨vN,b8,.func ({VO c c (fB (aO d)) (cD (aO d)) (bC (aO d)) vN vN vN vN (b8) vN vN with globals:=0}),#[]⟩)::(kO c "/claim/cut.py" (b-3) (b-2) (b-1) e j 0 0 3 a 181 #[vR (a+1),vN,vR (a+2),vR (a+3),vR (a+4)] h e (h+1))::(fO c d (vS l m) (a+5))::R
open PySem.W in
noncomputable def nE(b:String)(c:Nat)(a:Nat)(e:Nat)(h:Nat)(d:Nat)(R:List Obj):List Obj:=(tO #[])::({cls:=vN,data:=Vq #[]})::(⟨vN,b8,.func ({VO b b (fB (aO c)) (cD (aO c)) (bC (aO c)) vN vN vN vN (b8) vN vN with globals:=0}),#[]⟩)::(kO b "/claim/cut.py" a (a+1) (a+2) e h 0 0 3 d 181 #[vR (d+1),vN,vN,vN,vR (d+2)] (a+3) e (a+4))::(fO b c (vS "law_creasecourt_k23_sheets_refused" 523) (d+3))::R
open PySem.W in
noncomputable def lN(P:VJ):List DictEntry:=[eO P "__doc__" 166 vN,eO P "__package__" 167 vN,eO P "__loader__" 168 (Ve "__main__.__loader__#opaque"),eO P "__spec__" 169 vN,eR P "__annotations__" 170 6,eR P "__builtins__" 171 4,eO P "__file__" 173 (vS "/claim/cut.py" 172),eO P "__cached__" 174 vN,eR P "CreaseError" 206 24,eR P "NoSize" 222 37,eR P "NoMark" 238 49,eR P "NoText" 254 61,eR P "NoRound" 270 73,eR P "NoOrder" 286 85,eR P "TooMany" 302 97,eR P "NoFold" 318 109,eR P "NoRow" 334 121,eR P "NoName" 350 133,eR P "Taken" 366 145,eR P "NoEdge" 391 164,eR P "Twice" 416 183,eR P "Barred" 441 202,eR P "is_whole" 450 211,eR P "is_place" 457 218,eR P "is_edge" 464 225,eR P "MARKS" 470 226,eR P "is_size" 477 233,eR P "check_size" 485 240,eR P "is_mark" 492 247,eR P "is_within" 501 254,eR P "is_inner_edge" 510 261,eR P "sheet_of" 522 268,eR P "_law_draw" 532 275,eR P "_law_kind" 539 282,eR P "_law_int" 546 289,eR P "_law_are" 555 296,eR P "_law_amid" 561 301,eR P "_law_size" 568 308,eR P "_law_line" 576 315,eR P "_law_creases" 582 320,eR P "_law_is_sheet" 588 325,eR P "_law_bad_edge" 599 332,eR P "_law_bad_mark" 606 339,eR P "_law_spoiled" 619 346,eR P "_law_inner" 625 351,eR P "_law_due" 637 358,eR P "_law_classes" 643 363,eR P "_law_refused" 655 370,eR P "law" 661 375]
noncomputable def lM:List Value:=List.flatMap (λp:Nat×Nat=>[vI p.1,vI 0,vR p.2]) [(2,20),(4,33),(6,45),(8,57),(10,69),(12,81),(14,93),(16,105),(18,117),(20,129),(22,141),(24,153),(29,172),(34,191),(40,210),(42,217),(44,224),(50,232),(52,239),(55,246),(57,253),(59,260),(61,267),(75,274),(77,281),(79,288),(81,295),(88,300),(93,307),(95,314),(98,319),(112,324),(121,331),(126,338),(128,345),(140,350),(145,357),(156,362),(161,369),(171,374)]
open PySem.W in
noncomputable def lB(P:VJ):List Obj:=(((lA P).set 3 ({cls:=Uw "dict",data:=XJ (U5 (eO P "__name__" 165 (vS "creasecourt.errors" 187)::(lN P).take 15)) 16})).set 12 ({cls:=vN,data:=Vq (U5 (lM.take 21))}))++((tO #[Uw "ValueError"])::(({cls:=Uw "builtin_function_or_method",data:=Vq #[Ve "type.__prepare__",Uw "type"]})::(({cls:=Uw "dict",data:=XJ #[eO P "__module__" 196 (vS "creasecourt.errors" 187),eO P "__qualname__" 198 (vS "CreaseError" 197),eO P "__firstlineno__" 200 (Xp 2 199),eR P "__static_attributes__" 201 22] 4})::((tO #[])::(({cls:=vN,data:=Vq #[]})::((cO #[vS "CreaseError" 191,vS "CreaseError" 192,vS "/claim/cut.py" 193,vI 2,vI 0,vI 0,vI 0,vI 0,vR 18,V5 b9,vI 181,vR 19,vN,vN,vN,vN,vI 194,vI 2,vS "/claim/cut.py" 195])::(({cls:=Uw "frame",slots:=#[b6 (vR 20),b6 (vR 3),b6 (vR 17),b8,b6 (vS "creasecourt.errors" 187),b8,b6 (vR 0)]})::((tO #[])::(({cls:=Uw "dict",data:=XJ #[eO P "__module__" 196 (vS "creasecourt.errors" 187),eO P "__firstlineno__" 200 (Xp 2 199),eR P "__static_attributes__" 201 22,eR P "__weakref__" 203 25,eO P "__doc__" 204 vN] 3})::(({cls:=Uw "type",data:=a1x {name:=We "CreaseError",bases:=[Uw "ValueError"],mro:=[vR 24,Uw "ValueError",Uw "Exception",Uw "BaseException",Uw "object"],ns:=23,qualname:=We "CreaseError",subclasses:=[vR 37,vR 49,vR 61,vR 73,vR 85,vR 97]},slots:=#[b6 (vR 15),b8,b6 (vS "CreaseError" 189),b6 (vS "CreaseError" 197),b6 (Ve "ValueError.__new__"),b6 (V5 c4)]})::(({cls:=Uw "getset_descriptor",data:=Vq #[vS "__weakref__" 202,vR 24,Ve "ExceptionGroup.__weakref__",vN]})::(({cls:=Uw "super",data:=Vq #[vR 24,vR 24,vR 24]})::(({cls:=Uw "builtin_function_or_method",data:=Vq #[Ve "object.__init_subclass__",vR 24]})::(iK P 214 "NoSize" 4 35 (iK P 230 "NoMark" 6 47 (iK P 246 "NoText" 8 59 (iK P 262 "NoRound" 10 71 (iK P 278 "NoOrder" 12 83 (iK P 294 "TooMany" 14 95 [])))))))))))))))))))
open PySem.W in
noncomputable def lC(P:VJ):List Obj:=((((lB P).set 3 ({cls:=Uw "dict",data:=XJ (U5 (eO P "__name__" 165 (vS "creasecourt.errors" 187)::(lN P).take 22)) 23})).set 12 ({cls:=vN,data:=Vq (U5 (lM.take 42))})).set 24 ({cls:=Uw "type",data:=a1x {name:=We "CreaseError",bases:=[Uw "ValueError"],mro:=[vR 24,Uw "ValueError",Uw "Exception",Uw "BaseException",Uw "object"],ns:=23,qualname:=We "CreaseError",subclasses:=[vR 37,vR 49,vR 61,vR 73,vR 85,vR 97,vR 109,vR 121,vR 133,vR 145,vR 164,vR 183,vR 202]},slots:=#[b6 (vR 15),b8,b6 (vS "CreaseError" 189),b6 (vS "CreaseError" 197),b6 (Ve "ValueError.__new__"),b6 (V5 c4)]}))++(iK P 310 "NoFold" 16 107 (iK P 326 "NoRow" 18 119 (iK P 342 "NoName" 20 131 (iK P 358 "Taken" 22 143 (w9 P 374 "NoEdge" 24 161 ["self","edge"] "NoEdge.__init__" 12 ["edge"] (w9 P 399 "Twice" 29 180 ["self","edge"] "Twice.__init__" 13 ["edge"] (w9 P 424 "Barred" 34 199 ["self","corner"] "Barred.__init__" 14 ["corner"] [])))))))
open PySem.W in
noncomputable def lD(P:VJ):List Obj:=(((lC P).set 3 ({cls:=Uw "dict",data:=XJ (U5 (eO P "__name__" 165 (vS "law_creasecourt_k23_sheets_refused" 523)::(lN P).take 49)) 50})).set 12 ({cls:=vN,data:=Vq (U5 (lM.take 120))}))++(dG ["value"] 447 "is_whole" 16 40 1 205 448 "creasecourt.places" 442 (dG ["value"] 454 "is_place" 17 42 1 212 455 "creasecourt.places" 442 (dG ["place"] 461 "is_edge" 18 44 1 219 462 "creasecourt.places" 442 ((tN ["h","v","o"] 467)::(dG ["value"] 474 "is_size" 21 50 1 227 475 "creasecourt.sheets" 465 (dG ["wide","high"] 481 "check_size" 22 52 2 234 483 "creasecourt.sheets" 465 (dG ["value"] 489 "is_mark" 23 55 1 241 490 "creasecourt.sheets" 465 (dG ["wide","high","place"] 496 "is_within" 24 57 3 248 499 "creasecourt.sheets" 465 (dG ["wide","high","value"] 505 "is_inner_edge" 25 59 3 255 508 "creasecourt.sheets" 465 (dG ["wide","high","creases","marks","crease","edge"] 514 "sheet_of" 26 61 3 262 520 "creasecourt.sheets" 465 (dG ["_law_script","_law_k"] 528 "_law_draw" 28 75 2 269 530 "law_creasecourt_k23_sheets_refused" 523 (dG ["_law_p"] 536 "_law_kind" 29 77 1 276 537 "law_creasecourt_k23_sheets_refused" 523 (dG ["_law_some"] 543 "_law_int" 30 79 1 283 544 "law_creasecourt_k23_sheets_refused" 523 (dG ["_law_found","_law_due_here","_law_p"] 550 "_law_are" 31 81 2 290 553 "law_creasecourt_k23_sheets_refused" 523 (nE "_law_amid" 32 556 88 3 297 (dG ["_law_cell"] 565 "_law_size" 33 93 1 302 566 "law_creasecourt_k23_sheets_refused" 523 (dG ["_law_p","_law_kind_here"] 572 "_law_line" 34 95 1 309 574 "law_creasecourt_k23_sheets_refused" 523 (nE "_law_creases" 35 577 98 3 316 (nE "_law_is_sheet" 36 583 112 2 321 (dG ["_law_wide","_law_high","_law_cell","_law_far","_law_some"] 592 "_law_bad_edge" 37 121 3 326 597 "law_creasecourt_k23_sheets_refused" 523 (dG ["_law_cell"] 603 "_law_bad_mark" 38 126 1 333 604 "law_creasecourt_k23_sheets_refused" 523 (dG ["_law_wide","_law_high","_law_some","_law_cell","_law_number","_law_at","_law_edges"] 610 "_law_spoiled" 39 128 4 340 617 "law_creasecourt_k23_sheets_refused" 523 (nE "_law_inner" 40 620 140 3 347 (dG ["_law_wide","_law_high","_law_some","_law_seen","_law_edge","_law_mark"] 629 "_law_due" 41 145 3 352 635 "law_creasecourt_k23_sheets_refused" 523 (nE "_law_classes" 42 638 156 1 359 (dG ["_law_wide","_law_high","_law_some","_law_told","_law_stood","_law_e"] 647 "_law_refused" 43 161 3 364 653 "law_creasecourt_k23_sheets_refused" 523 (nE "law" 44 656 171 1 371 [])))))))))))))))))))))))))))
noncomputable def As:List Addr:=[3,2,22,23,24,25,35,36,37,47,48,49,59,60,61,71,72,73,83,84,85,95,96,97,107,108,109,119,120,121,131,132,133,143,144,145,160,161,162,163,164,179,180,181,182,183,198,199,200,201,202,210,211,217,218,224,225,226,232,233,239,240,246,247,253,254,260,261,267,268,274,275,281,282,288,289,295,296,300,301,307,308,314,315,319,320,324,325,331,332,338,339,345,346,350,351,357,358,362,363,369,370,374,375]
noncomputable def Kx:VJ → T3:=λP=>As.map λa=>(a,((lD P)[a]?).getD (tO #[]))
theorem pU:∀P,As=(Kx P).map (·.1):=λ_=>by kernel_rfl
noncomputable def vE:YD:={scope:=Vp.main.scope,locals:=mainNs,globals:=mainNs,cells:=[],code:=Ug 13,frame:=b6 14}
open PySem.W PyProof.Rows in
set_option maxRecDepth 100000 in
set_option maxHeartbeats 0 in
theorem JV(w:UJ)(a:YG):topGo WJ (Vn Ub).prog w 11 (b6 (Ug 6)) 12 ⟨XZ w.params,U5 [],VC,a0B,a⟩ (topStub (Vn Ub).prog)=b6 (⟨⟨U5 (lA w.params),{}⟩,U5 [],VC,187,a⟩,⟨denote WJ (.body (UI (Vn Ub).prog) vE),(.body (UI (Vn Ub).prog) vE),⟨0,0,0,0⟩,[X5 ⟨0,0,0,0⟩]⟩):=by kernel_rfl
open PySem.W PyProof.Rows in
set_option maxRecDepth 100000 in
set_option maxHeartbeats 0 in
theorem JW(w:UJ)(a:YG):a0w WJ (Vn Ub).prog w 11 (b6 (Ug 6)) 1 1 ⟨⟨U5 (lA w.params),{}⟩,U5 [],VC,187,a⟩ (blockOf (UI (Vn Ub).prog) vE (.body (UI (Vn Ub).prog) vE) ⟨0,0,0,0⟩ [X5 ⟨0,0,0,0⟩])=b6 (.next,⟨⟨U5 (lA w.params),{}⟩,U5 [],VC,187,a⟩,(.body (UI (Vn Ub).prog) vE),⟨0,0,0,0⟩):=by kernel_rfl
open PySem.W PyProof.Rows in
set_option maxRecDepth 100000 in
set_option maxHeartbeats 0 in
theorem JX(w:UJ)(a:YG):a0w WJ (Vn Ub).prog w 11 (b6 (Ug 6)) 1 1474 ⟨⟨U5 (lA w.params),{}⟩,U5 [],VC,187,a⟩ (a0e ((UI (Vn Ub).prog).take 8) vE (.body (UI (Vn Ub).prog) vE) ⟨0,0,0,0⟩ [X5 ⟨0,0,0,0⟩])=b6 (.next,⟨⟨U5 (lB w.params),{}⟩,U5 [],VC,303,a⟩,(.body (UI (Vn Ub).prog) vE),⟨14,0,15,8⟩):=by kernel_rfl
open PySem.W PyProof.Rows in
set_option maxRecDepth 100000 in
set_option maxHeartbeats 0 in
theorem JY(w:UJ)(a:YG):a0w WJ (Vn Ub).prog w 11 (b6 (Ug 6)) 1 1588 ⟨⟨U5 (lB w.params),{}⟩,U5 [],VC,303,a⟩ (a0e (((UI (Vn Ub).prog).drop 8).take 7) vE (.body (UI (Vn Ub).prog) vE) ⟨14,0,15,8⟩ [X5 ⟨0,0,0,0⟩])=b6 (.next,⟨⟨U5 (lC w.params),{}⟩,U5 [],VC,442,a⟩,(.body (UI (Vn Ub).prog) vE),⟨34,0,38,28⟩):=by kernel_rfl
open PySem.W PyProof.Rows in
set_option maxRecDepth 100000 in
set_option maxHeartbeats 0 in
theorem JZ(w:UJ)(a:YG):a0w WJ (Vn Ub).prog w 11 (b6 (Ug 6)) 1 811 ⟨⟨U5 (lC w.params),{}⟩,U5 [],VC,442,a⟩ (a0e ((((UI (Vn Ub).prog).drop 8).drop 7).take 30) vE (.body (UI (Vn Ub).prog) vE) ⟨34,0,38,28⟩ [X5 ⟨0,0,0,0⟩])=b6 (.next,⟨⟨U5 (lD w.params),{}⟩,U5 [],VC,662,a⟩,(.body (UI (Vn Ub).prog) vE),⟨171,0,192,123⟩):=by kernel_rfl
open PySem.W PyProof.Rows in
set_option maxRecDepth 100000 in
set_option maxHeartbeats 0 in
theorem run:LeftO (Vn Ub).prog Vw [] (λs=>xlAt Vw [] s&&recOk (a3u (a2e (Vn Ub))) s) (Hook.obs (a4w Kx As pU)) (Hook.val (a4w Kx As pU)) 7866:=
 L3.left_cut (hA:=λP=>⟨U5 (lA P),{}⟩) (hB:=λP=>⟨U5 (lB P),{}⟩) (hC:=λP=>⟨U5 (lC P),{}⟩) (hD:=λP=>⟨U5 (lD P),{}⟩) (n4:=201) (i1:=8) (i2:=7) (i3:=30) (env:=vE) (boot_open (by kernel_rfl) (by kernel_rfl) (λ_=>by kernel_rfl)) (λw=>by kernel_rfl) JV JW JX JY JZ (λw a=>by kernel_rfl) (by kernel_rfl)
end Lw
set_option maxHeartbeats 4000000
namespace L3
open PySem
open PySem.SetTable (Probe Met Slot bits runEnd leap turns insertAt sizeAbove)
namespace Tb
noncomputable def J0(m:Nat)(p:Probe):Probe:=
 if p.more>0 then{p with j:=p.j+1,more:=p.more-1}else
 {p with j:=(leap m p.i p.perturb).1,more:=runEnd m (leap m p.i p.perturb).1-(leap m p.i p.perturb).1,i:=(leap m p.i p.perturb).1,perturb:=(leap m p.i p.perturb).2}
noncomputable def J1(m:Nat)(b:Nat):Probe:={j:=b%(m+1),more:=runEnd m (b%(m+1))-b%(m+1),i:=b%(m+1),perturb:=b,dummy:=b8}
noncomputable def xA(m b:Nat):Nat->Probe
 |0=>J1 m b|k+1=>J0 m (xA m b k)
noncomputable def lp(m b:Nat):Nat->Nat×Nat
 |0=>(b%(m+1),b)|n+1=>leap m (lp m b n).1 (lp m b n).2
noncomputable def hd(m i q:Nat):Probe:={j:=i,more:=runEnd m i-i,i:=i,perturb:=q,dummy:=b8}
noncomputable def nx(m i:Nat):Nat:=(i*5+1)%(m+1)
noncomputable def Cj(m:Nat):Nat->Nat->Nat
 |0,i=>i|n+1,i=>Cj m n (nx m i)
noncomputable def seen(m:Nat):Nat->Nat->Nat->Nat
 |0,_,acc=>acc|f+1,i,acc=>seen m f (nx m i) (acc ||| (1 <<< i))
noncomputable def J2(m:Nat):Bool:=seen m (m+1) 0 0==2^(m+1)-1&&Cj m (m+1) 0==0
noncomputable def Ck(m:Nat)(S:List Nat)(b j:Nat):Prop:=∃k,(xA m b k).j=j/\∀k',k'<k->(xA m b k').j∈S
noncomputable abbrev sO:=Nat×Int×Value
structure Ok(t:a2K)(R:List sO):Prop where
 place:t.place.toList=R.map (·.1)
 dum:t.dummies=#[]
 rise:(R.map (·.1)).Pairwise (·<·)
 le:∀r∈R,r.1<=t.mask
 cov:J2 t.mask=c4
 odd:t.mask%2=1
 room:R.length<=t.mask
 road:∀r∈R,Ck t.mask (R.map (·.1)) (bits r.2.1) r.1
section
variable{t:a2K}{R:List sO}
theorem Ok.size(o:Ok t R):t.place.size=R.length:=by have:=congrArg Wh o.place;simpa using this
theorem Ok.getD(o:Ok t R){i:Nat}(a:i<R.length):t.place.getD i 0=(R[i]).1:=by
 have h:t.place.toList[i]?=(R.map (·.1))[i]?:=by rw[o.place]
 have b:i<t.place.size:=by rw[o.size];exact a
 simp[a,b]at h;simp[a3L,b,h]
end
noncomputable def lv(m:Nat)(a:Array (Option Nat)):List (Nat×Nat):=(Vv (m+1)).filterMap λj=>(a.getD j b8).map (j,·)
structure Ow(m:Nat)(ds:List Int)(ow:Array (Option Nat)):Prop where
 size:ow.size=m+1
 lt:∀j i,ow.getD j b8=b6 i->i<ds.length
 all:∀i,i<ds.length->∃j,ow.getD j b8=b6 i
 inj:∀j j' i,ow.getD j b8=b6 i->ow.getD j' b8=b6 i->j=j'
 road:∀j i,ow.getD j b8=b6 i->Ck m ((lv m ow).map (·.1)) (bits (ds.getD i 0)) j
section
variable{m:Nat}{ds:List Int}{ow:Array (Option Nat)}
end
theorem Ow.nil(m:Nat):Ow m [] (Z9 (m+1) b8):=by
 have e:∀j,(Z9 (m+1) (b8:Option Nat)).getD j b8=none:=λj=>by simp[a3L]
 have a:∀{P:Prop}(j i:Nat),(Z9 (m+1) (b8:Option Nat)).getD j b8=b6 i->P:=λj i h=>by rw[e]at h;exact nomatch h
 exact⟨by simp,λj i h=>a j i h,λi h=>absurd h (a0j _),λj b i h _=>a j i h,λj i h=>a j i h⟩
end Tb
end L3
namespace L3
open PySem
open PySem.SetTable (Probe Met Slot bits runEnd leap turns insertAt sizeAbove)
namespace Tb
section
variable{prog:Ur}{w:UJ}{K:Type} [DecidableEq K] {knd:KeyKind prog w K}{A:UD}{E:Value->T6->Prop}{s:T6}
theorem fits_of{t:a2K}{R:List sO}{es:Array (Int×Value)}(o:Ok t R)(c:es.toList=R.map (·.2)):t.fits es.size=true:=by
 have a:es.size=R.length:=by simpa using congrArg Wh c
 have b:=o.room;unfold SetTable.fits SetTable.fill;rw[o.size,a,o.dum];simp;exact b
end
section
variable{prog:Ur}{w:UJ}{A:UD}{E:Value->T6->Prop}{s:T6}
noncomputable abbrev El:=List Int×Addr
noncomputable def hashT(k:List Int):Int:=reduceHash (a3I (k.map hashInt))
noncomputable def J3(p:El):Int×Value:=(hashT p.1,Ug p.2)
noncomputable def J4(m:Nat):Prop:=m=7\/m=31\/m=127\/m=511
noncomputable def J5(w:UJ):Bool:=w.params.followText "set-order"
noncomputable def J6(a:Bool)(L:List El)(o:Obj):Prop:=∃es ep t R,o.ExactSet/\o.data=.set es ep t/\es.toList=R.map (·.2)/\Ok t R/\es.toList.Perm (L.map J3)/\(L.map (·.1)).Nodup/\J4 t.mask/\L.length*5<t.mask*3/\t.plain=c4/\t.led=a
noncomputable def SObj(L:List El)(o:Obj):Prop:=∃a,J6 a L o
end
end Tb
end L3
namespace L3
open PySem
namespace Tb
section
variable{prog:Ur}{w:UJ}{A:UD}{E:Value->T6->Prop}{s:T6}
structure SAt(w:UJ)(h:Vb)(a:Addr)(es:Array (Int×Value))(ep:Nat)(t:a2K)(R:List sO):Prop where
 at_:∃o,h.get? a=b6 o/\o.cls=.type "set"/\o.data=.set es ep t
 he:es.toList=R.map (·.2)
 ok:Ok t R
 pl:t.plain=c4
 led:t.led=!J5 w
end
end Tb
end L3
namespace L3
open PySem L2
inductive D where
 |non|bl (b:Bool)|int (i:Int)|str (x:Str)|tup (xs:List D)|rol (xs:List D)|loc (a:Nat)|ty (n:String)
 deriving Inhabited
inductive C where
 |lst (xs:List D)
 |dK (kvs:List (aK×D))
 |st (ks:List (List Int))
 |dT (kvs:List (List Int×D))
 |dF (kvs:List (List Int×D))
 |exc (x:Str)(ns:List Str)(ds:List D)
 deriving Inhabited
noncomputable abbrev Hm:=List C
noncomputable abbrev aF:=List (Option D)
noncomputable abbrev ME:=aF->Hm->Option (D×Hm)
noncomputable abbrev MT:=aF->Hm->Option (Bool×Hm)
noncomputable abbrev MA:=aF->Hm->Option (List D×Hm)
inductive Fl where
 |nx|rt (d:D)|bk|ct
noncomputable abbrev MS:=aF->Hm->Option (Fl×aF×Hm)
noncomputable abbrev MF:=List D->Hm->Option (D×Hm)
noncomputable def RoL(K:T3)(H:Hp)(p:Addr)(xs:List V):Prop:=
 (∃o,H p=b6 (.frz o (.lst xs))) \/
  ∃(o:Obj)(a:Array Value)(n:Nat),K.lookup p=b6 o/\o.cls=.type "list"/\o.dict=b8/\o.data=.seq a n/\a.size<=Uo/\Vals xs a.toList
theorem RoL.sq{K:T3}{H:Hp}{p:Addr}{xs:List V}(h:RoL K H p xs):SqL K H p xs:=by
 rcases h with⟨o,h⟩|h
 ·exact .inl (.inr ⟨o,h⟩)
 ·exact .inr h
mutual
inductive IsD (K:T3)(π:Nat->Addr)(n:Nat)(H:Hp):V->D->Prop where
 |non:IsD K π n H .non .non
 |bl (b:Bool):IsD K π n H (.bl b) (.bl b)
 |int (i:Int):IsD K π n H (.int i) (.int i)
 |str (x:Str):IsD K π n H (.str x) (.str x)
 |tup {p:Addr}{vs:List V}{ds:List D}(h:SqT K H p vs)(t:IsDs K π n H vs ds):IsD K π n H (.ref p) (.tup ds)
 |rol {p:Addr}{vs:List V}{ds:List D}(h:RoL K H p vs)(t:IsDs K π n H vs ds):IsD K π n H (.ref p) (.rol ds)
 |loc {a:Nat}(h:a<n):IsD K π n H (.ref (π a)) (.loc a)
 |ty (x:String):IsD K π n H (.ty x) (.ty x)
inductive IsDs (K:T3)(π:Nat->Addr)(n:Nat)(H:Hp):List V->List D->Prop where
 |nil:IsDs K π n H [] []
 |cons {v:V}{d:D}{vs:List V}{ds:List D}(h:IsD K π n H v d)(t:IsDs K π n H vs ds):IsDs K π n H (v::vs) (d::ds)
end
structure Ext(π:Nat->Addr)(n:Nat)(H:Hp)(π':Nat->Addr)(n':Nat)(H':Hp):Prop where
 le:n<=n'
 pi:∀a,a<n->π' a=π a
 tup:∀p vs,H p=b6 (.tup vs)->H' p=b6 (.tup vs)
 frz:∀p o u,H p=b6 (.frz o u)->H' p=b6 (.frz o u)
structure Ext0(π:Nat->Addr)(n:Nat)(H:Hp)(π':Nat->Addr)(n':Nat)(H':Hp):Prop where
 le:n<=n'
 pi:∀a,a<n->π' a=π a
 tup:∀p vs,H p=b6 (.tup vs)->H' p=b6 (.tup vs)
 frz:∀p o u,(∀φ,u≠HO.ext φ)->H p=b6 (.frz o u)->H' p=b6 (.frz o u)
section
variable{K:T3}{π π' π2:Nat->Addr}{n n' n2:Nat}{H H' H2:Hp}
theorem Ext.weak(e:Ext π n H π' n' H'):Ext0 π n H π' n' H':=⟨e.le,e.pi,e.tup,λp o u _ h=>e.frz p o u h⟩
theorem Ext.refl:Ext π n H π n H:=⟨Up _,λ_ _=>rfl,λ_ _ h=>h,λ_ _ _ h=>h⟩
theorem Ext.trans(a:Ext π n H π' n' H')(b:Ext π' n' H' π2 n2 H2):Ext π n H π2 n2 H2:=
 ⟨VD a.le b.le,λi h=>(b.pi i (UM h a.le)).trans (a.pi i h),λp c h=>b.tup p c (a.tup p c h),λp o u h=>b.frz p o u (a.frz p o u h)⟩
theorem Ext0.sqT(e:Ext0 π n H π' n' H'){p:Addr}{vs:List V}(h:SqT K H p vs):SqT K H' p vs:=by
 rcases h with h|h
 ·rcases h with h|⟨o,h⟩
  ·exact .inl (.inl (e.tup _ _ h))
  ·exact .inl (.inr ⟨o,e.frz _ _ _ (λ_ z=>nomatch z) h⟩)
 ·exact .inr h
theorem Ext.sqT(e:Ext π n H π' n' H'){p:Addr}{vs:List V}(h:SqT K H p vs):SqT K H' p vs:=e.weak.sqT h
theorem Ext0.roL(e:Ext0 π n H π' n' H'){p:Addr}{vs:List V}(h:RoL K H p vs):RoL K H' p vs:=by
 rcases h with⟨o,h⟩|h
 ·exact .inl ⟨o,e.frz _ _ _ (λ_ z=>nomatch z) h⟩
 ·exact .inr h
theorem Ext.roL(e:Ext π n H π' n' H'){p:Addr}{vs:List V}(h:RoL K H p vs):RoL K H' p vs:=e.weak.roL h
mutual
theorem IsD.mono0{v:V}{d:D}(e:Ext0 π n H π' n' H'):IsD K π n H v d->IsD K π' n' H' v d
 |.non=>.non|.bl b=>.bl b|.int i=>.int i|.str x=>.str x|.ty x=>.ty x|.tup h t=>.tup (e.sqT h) (IsDs.mono0 e t)|.rol h t=>.rol (e.roL h) (IsDs.mono0 e t)|.loc h=>by rw[<- e.pi _ h];exact .loc (UM h e.le)
theorem IsDs.mono0{vs:List V}{ds:List D}(e:Ext0 π n H π' n' H'):IsDs K π n H vs ds->IsDs K π' n' H' vs ds
 |.nil=>.nil|.cons h t=>.cons (IsD.mono0 e h) (IsDs.mono0 e t)
end
theorem IsD.mono{v:V}{d:D}(e:Ext π n H π' n' H')(h:IsD K π n H v d):IsD K π' n' H' v d:=h.mono0 e.weak
theorem IsDs.mono{vs:List V}{ds:List D}(e:Ext π n H π' n' H')(h:IsDs K π n H vs ds):IsDs K π' n' H' vs ds:=h.mono0 e.weak
theorem IsDs.length{vs:List V}{ds:List D}(h:IsDs K π n H vs ds):vs.length=ds.length:=by
 induction ds generalizing vs with
 |nil=>cases h;rfl|cons d ds a=>
  cases h with
  |cons h t=>rw[UA,UA,a t]
theorem IsDs.get{vs:List V}{ds:List D}(h:IsDs K π n H vs ds){i:Nat}{d:D}(e:ds[i]?=b6 d):∃v,vs[i]?=b6 v/\IsD K π n H v d:=by
 induction ds generalizing vs i with
 |nil=>simp at e|cons j ds c=>
  cases h with
  |cons h t=>
   cases i with
   |zero=>simp at e;subst e;exact⟨_,rfl,h⟩|succ i=>obtain⟨v,a,b⟩:=c t (by simpa using e);exact⟨v,by simpa using a,b⟩
theorem IsDs.append{vs ws:List V}{ds es:List D}(h:IsDs K π n H vs ds)(a:IsDs K π n H ws es):IsDs K π n H (vs++ws) (ds++es):=by
 induction ds generalizing vs with
 |nil=>cases h;exact a|cons d ds b=>
  cases h with
  |cons h t=>exact .cons h (b t)
theorem IsDs.drop{vs:List V}{ds:List D}(h:IsDs K π n H vs ds)(k:Nat):IsDs K π n H (vs.drop k) (ds.drop k):=by
 induction ds generalizing vs k with
 |nil=>cases h;simpa using IsDs.nil|cons d ds a=>
  cases h with
  |cons h t=>
   cases k with
   |zero=>exact .cons h t|succ k=>exact a t k
theorem IsDs.take{vs:List V}{ds:List D}(h:IsDs K π n H vs ds)(k:Nat):IsDs K π n H (vs.take k) (ds.take k):=by
 induction ds generalizing vs k with
 |nil=>cases h;simpa using IsDs.nil|cons d ds a=>
  cases h with
  |cons h t=>
   cases k with
   |zero=>exact .nil|succ k=>exact .cons h (a t k)
theorem IsDs.atI{vs:List V}{ds:List D}(h:IsDs K π n H vs ds){i:Int}{d:D}(e:L2.atI ds i=b6 d):∃v,L2.atI vs i=b6 v/\IsD K π n H v d:=by
 unfold L2.atI at e ⊢;rw[h.length];cases q:lV ds.length i with
 |none=>rw[q]at e;cases e|some j=>rw[q]at e;exact h.get e
end
noncomputable def sP(p:Addr)(L:List Tb.El):HO:=.ext λh=>∃o,h.get? p=b6 o/\Tb.SObj L o
noncomputable def Cm(p:List Int×Addr×V)(w:Value):DictEntry:=⟨Tb.hashT p.1,.ref p.2.1,w⟩
noncomputable def a7(a:Addr)(ps:List (List Int×Addr×V)):HO:=.ext λh=>∃ws:List Value,Vals (ps.map (·.2.2)) ws/\(a==VX)=b9/\ps.length<=Uo /\
 ∃o b c,h.get? a=b6 o/\o.ExactDict/\o.data=.dict b c/\b.toList=a0Q Cm ps ws/\(ps.map (·.1)).Nodup
noncomputable def ExcIs(K:T3)(π:Nat->Addr)(n:Nat)(H:Hp)(b:Obj)(x:Str)(ns:List Str)(ds:List D):Prop:=
 Vj K U1 x=b6 (b6 b.cls)/\(∃a,b.data=.fields a) /\
  (ns=[]/\ds=[]/\b.dict=b8\/∃c d a,b.dict=b6 c/\H c=b6 (.frz d (.xd a))/\a.map (·.1)=ns/\IsDs K π n H (a.map (·.2)) ds)
theorem ExcIs.mono0{K:T3}{π a:Nat->Addr}{n c:Nat}{H H':Hp}{d:Obj}{x:Str}{ns:List Str}{ds:List D}(e:Ext0 π n H a c H')(h:ExcIs K π n H d x ns ds):ExcIs K a c H' d x ns ds:=by
 obtain⟨p,q,b⟩:=h;refine⟨p,q,?_⟩;rcases b with b|⟨i,r,s,j,l,m,o⟩
 ·exact .inl b
 ·exact .inr ⟨i,r,s,j,e.frz _ _ _ (λ_ z=>nomatch z) l,m,o.mono0 e⟩
theorem ExcIs.mono{K:T3}{π a:Nat->Addr}{n b:Nat}{H H':Hp}{c:Obj}{x:Str}{ns:List Str}{ds:List D}(e:Ext π n H a b H')(h:ExcIs K π n H c x ns ds):ExcIs K a b H' c x ns ds:=h.mono0 e.weak
structure Rp(K:T3)(π:Nat->Addr)(H:Hp)(μ:Hm):Prop where
 inj:∀a b,a<μ.length->b<μ.length->π a=π b->a=b
 has:∀a,a<μ.length->(H (π a)).isSome=c4
 lst:∀a xs,μ[a]?=b6 (.lst xs)->∃vs,H (π a)=b6 (.lst vs)/\IsDs K π μ.length H vs xs
 dK:∀a kvs,μ[a]?=b6 (.dK kvs)->∃vs,H (π a)=b6 (.dK vs)/\vs.map (·.1)=kvs.map (·.1)/\IsDs K π μ.length H (vs.map (·.2)) (kvs.map (·.2))
 st:∀a ks,μ[a]?=b6 (.st ks)->∃L:List Tb.El,H (π a)=b6 (sP (π a) L)/\L.map (·.1)=ks/\IsDs K π μ.length H (L.map λp=>V.ref p.2) (ks.map λk=>D.tup (k.map D.int))
 dT:∀a kvs,μ[a]?=b6 (.dT kvs)->∃ps:List (List Int×Addr×V),H (π a)=b6 (a7 (π a) ps)/\ps.map (·.1)=kvs.map (·.1)/\IsDs K π μ.length H (ps.map λp=>V.ref p.2.1) (kvs.map λk=>D.tup (k.1.map D.int))/\IsDs K π μ.length H (ps.map (·.2.2)) (kvs.map (·.2))
 dF:∀a kvs,μ[a]?=b6 (.dF kvs)->∃(ob:Obj)(ps:List (List Int×Addr×V)),H (π a)=b6 (.frz ob (a7 (π a) ps))/\ps.map (·.1)=kvs.map (·.1)/\IsDs K π μ.length H (ps.map λp=>V.ref p.2.1) (kvs.map λk=>D.tup (k.1.map D.int))/\IsDs K π μ.length H (ps.map (·.2.2)) (kvs.map (·.2))
 exc:∀a x ns ds,μ[a]?=b6 (.exc x ns ds)->∃(ob:Obj)(φ:Vb->Prop),H (π a)=b6 (.frz ob (.ext φ))/\ExcIs K π μ.length H ob x ns ds
structure En(K:T3)(π:Nat->Addr)(n:Nat)(H:Hp)(σ:St)(ρ:aF):Prop where
 len:σ.length=ρ.length
 get:∀(i:Nat)(d:D),ρ[i]?=b6 (b6 d)->∃v,σ[i]?=b6 (b6 v)/\IsD K π n H v d
section
variable{K:T3}{π π' π2:Nat->Addr}{n n' n2:Nat}{H H' H2:Hp}{μ μ':Hm}{σ:St}{ρ:aF}
theorem En.mono(E:En K π n H σ ρ)(e:Ext π n H π' n' H'):En K π' n' H' σ ρ:=
 ⟨E.len,λi d h=>let⟨v,a,b⟩:=E.get i d h;⟨v,a,b.mono e⟩⟩
theorem En.set(E:En K π n H σ ρ){v:V}{d:D}(h:IsD K π n H v d)(i:Nat):En K π n H (σ.set i (b6 v)) (ρ.set i (b6 d)):=by
 refine⟨by rw[Vz,Vz];exact E.len,λj c e=>?_⟩;rw[a2j]at e ⊢;by_cases a:i=j
 ·subst a;rw[if_pos rfl]at e ⊢;rw[E.len];by_cases b:i<ρ.length
  ·rw[if_pos b]at e ⊢;cases e;exact⟨v,rfl,h⟩
  ·rw[if_neg b]at e;cases e
 ·rw[if_neg a]at e ⊢;exact E.get j c e
theorem Rp.ne{p:Addr}(R:Rp K π H μ)(h:H p=b8){a:Nat}(b:a<μ.length):π a≠p:=λe=>by have:=R.has a b;rw[e,h]at this;cases this
theorem Rp.fresh{p:Addr}{o:HO}(R:Rp K π H μ)(h:H p=b8):Ext π μ.length H π μ.length (aG H p o)/\Rp K π (aG H p o) μ:=by
 have c:∀b u,H b=b6 u->aG H p o b=b6 u:=λb u e=>by rw[aS (lR e h)];exact e
 have e:Ext π μ.length H π μ.length (aG H p o):=⟨Up _,λ_ _=>rfl,λq m e=>c q _ e,λq o u e=>c q _ e⟩;refine⟨e,R.inj,λa d=>?_,λa z d=>?_,λa l d=>?_,λa w d=>?_
  ,λa l d=>?_
  ,λa l d=>?_
  ,λa x y ds d=>?_
  ⟩
 ·rw[aS (R.ne h d)];exact R.has a d
 ·obtain⟨m,i,j⟩:=R.lst a z d;exact⟨m,c _ _ i,j.mono e⟩
 ·obtain⟨m,i,j,r⟩:=R.dK a l d;exact⟨m,c _ _ i,j,r.mono e⟩
 ·obtain⟨m,i,j,r⟩:=R.st a w d;exact⟨m,c _ _ i,j,r.mono e⟩
 ·obtain⟨m,i,j,r,s⟩:=R.dT a l d;exact⟨m,c _ _ i,j,r.mono e,s.mono e⟩
 ·obtain⟨v,m,i,j,r,s⟩:=R.dF a l d;exact⟨v,m,c _ _ i,j,r.mono e,s.mono e⟩
 ·obtain⟨v,A,i,j⟩:=R.exc a x y ds d;exact⟨v,A,c _ _ i,j.mono e⟩
noncomputable def lY(K:T3)(π:Nat->Addr)(n:Nat)(H:Hp)(p:Addr):C->HO->Prop
 |.lst xs,.lst vs=>IsDs K π n H vs xs|.dK kvs,.dK vs=>vs.map (·.1)=kvs.map (·.1)/\IsDs K π n H (vs.map (·.2)) (kvs.map (·.2))|.st ks,o=>∃L:List Tb.El,o=sP p L/\L.map (·.1)=ks/\IsDs K π n H (L.map λp=>V.ref p.2) (ks.map λk=>D.tup (k.map D.int))|.dT kvs,o=>∃ps:List (List Int×Addr×V),o=a7 p ps/\ps.map (·.1)=kvs.map (·.1)/\IsDs K π n H (ps.map λp=>V.ref p.2.1) (kvs.map λk=>D.tup (k.1.map D.int))/\IsDs K π n H (ps.map (·.2.2)) (kvs.map (·.2))|.dF kvs,o=>∃(a:Obj)(ps:List (List Int×Addr×V)),o=.frz a (a7 p ps)/\ps.map (·.1)=kvs.map (·.1)/\IsDs K π n H (ps.map λp=>V.ref p.2.1) (kvs.map λk=>D.tup (k.1.map D.int))/\IsDs K π n H (ps.map (·.2.2)) (kvs.map (·.2))|.exc x ns ds,o=>∃(a:Obj)(b:Vb->Prop),o=.frz a (.ext b)/\ExcIs K π n H a x ns ds|_,_=>False
noncomputable def fC(π:Nat->Addr)(n:Nat)(p:Addr):Nat->Addr:=λa=>if a=n then p else π a
theorem Rp.alloc{p:Addr}{c:C}{o:HO}(R:Rp K π H μ)(h:H p=b8)(hc:lY K π μ.length H p c o) :
  Ext π μ.length H (fC π μ.length p) (μ++[c]).length (aG H p o)/\Rp K (fC π μ.length p) (aG H p o) (μ++[c])/\fC π μ.length p μ.length=p:=by
 have M:(μ++[c]).length=μ.length+1:=by simp
 have i:∀b u,H b=b6 u->aG H p o b=b6 u:=λb u e=>by rw[aS (lR e h)];exact e
 have A:fC π μ.length p μ.length=p:=if_pos rfl;have w:∀a,a<μ.length->fC π μ.length p a=π a:=λa d=>if_neg (UB d);have e:Ext π μ.length H (fC π μ.length p) (μ++[c]).length (aG H p o):=⟨by rw[M];exact Zn _,w,λq s e=>i q _ e,λq o u e=>i q _ e⟩;have split:∀a,a<(μ++[c]).length->a<μ.length\/a=μ.length:=λa d=>by rw[M]at d;omega
 have get:∀a,a<μ.length->(μ++[c])[a]?=μ[a]?:=λa d=>Ul d;have l:(μ++[c])[μ.length]?=b6 c:=by simp
 refine⟨e,⟨λa b d G q=>?_,λa d=>?_,λa Q d=>?_,λa z d=>?_,λa N d=>?_
  ,λa z d=>?_
  ,λa z d=>?_
  ,λa x O ds d=>?_
  ⟩,A⟩
 ·rcases split a d with d|rfl<;>rcases split b G with G|rfl
  ·rw[w a d,w b G]at q;exact R.inj a b d G q
  ·rw[w a d,A]at q;exact absurd q (R.ne h d)
  ·rw[A,w b G]at q;exact absurd q.symm (R.ne h G)
  ·rfl
 ·rcases split a d with d|rfl
  ·rw[w a d,aS (R.ne h d)];exact R.has a d
  ·rw[A,bO];rfl
 ·have j:a<(μ++[c]).length:=(T8.mp d).1;rcases split a j with r|rfl
  ·rw[get a r]at d;obtain⟨s,y,m⟩:=R.lst a Q d;rw[w a r];exact⟨s,i _ _ y,m.mono e⟩
  ·rw[l]at d;cases d;cases o with
   |lst s=>rw[A];exact⟨s,bO,IsDs.mono e hc⟩|_=>exact UT hc
 ·have j:a<(μ++[c]).length:=(T8.mp d).1;rcases split a j with r|rfl
  ·rw[get a r]at d;obtain⟨s,y,m,v⟩:=R.dK a z d;rw[w a r];exact⟨s,i _ _ y,m,v.mono e⟩
  ·rw[l]at d;cases d;cases o with
   |dK s=>rw[A];exact⟨s,bO,hc.1,IsDs.mono e hc.2⟩|_=>exact UT hc
 ·have j:a<(μ++[c]).length:=(T8.mp d).1;rcases split a j with r|rfl
  ·rw[get a r]at d;obtain⟨s,y,m,v⟩:=R.st a N d;rw[w a r];exact⟨s,i _ _ y,m,v.mono e⟩
  ·rw[l]at d;cases d;obtain⟨L,rfl,m,v⟩:=hc;rw[A];exact⟨L,bO,m,v.mono e⟩
 ·have j:a<(μ++[c]).length:=(T8.mp d).1;rcases split a j with r|rfl
  ·rw[get a r]at d;obtain⟨s,y,m,v,B⟩:=R.dT a z d;rw[w a r];exact⟨s,i _ _ y,m,v.mono e,B.mono e⟩
  ·rw[l]at d;cases d;obtain⟨L,rfl,m,v,B⟩:=hc;rw[A];exact⟨L,bO,m,v.mono e,B.mono e⟩
 ·have j:a<(μ++[c]).length:=(T8.mp d).1;rcases split a j with r|rfl
  ·rw[get a r]at d;obtain⟨E,s,y,m,v,B⟩:=R.dF a z d;rw[w a r];exact⟨E,s,i _ _ y,m,v.mono e,B.mono e⟩
  ·rw[l]at d;cases d;obtain⟨E,L,rfl,m,v,B⟩:=hc;rw[A];exact⟨E,L,bO,m,v.mono e,B.mono e⟩
 ·have j:a<(μ++[c]).length:=(T8.mp d).1;rcases split a j with r|rfl
  ·rw[get a r]at d;obtain⟨E,I,y,m⟩:=R.exc a x O ds d;rw[w a r];exact⟨E,I,i _ _ y,m.mono e⟩
  ·rw[l]at d;cases d;obtain⟨E,I,rfl,m⟩:=hc;rw[A];exact⟨E,I,bO,m.mono e⟩
theorem Rp.putU{a:Nat}{c:C}{o u:HO}(R:Rp K π H μ)(N:a<μ.length)(G:H (π a)=b6 u)(I:(∀vs,u≠.tup vs)/\∀w v,(∀A,v≠HO.ext A)->u≠.frz w v)(hc:lY K π μ.length H (π a) c o) :
  Ext0 π μ.length H π (μ.set a c).length (aG H (π a) o)/\Rp K π (aG H (π a) o) (μ.set a c):=by
 have r:(μ.set a c).length=μ.length:=Vz ..;have e:Ext0 π μ.length H π (μ.set a c).length (aG H (π a) o):=by
  refine⟨a1k r.symm,λ_ _=>rfl,λq vs z=>?_,λq U X nx z=>?_⟩
  ·rw[aS]
   ·exact z
   ·intro e;subst e;rw[G]at z;exact I.1 _ (Ux z)
  ·rw[aS]
   ·exact z
   ·intro e;subst e;rw[G]at z;exact I.2 _ _ nx (Ux z)
 have j:∀b,b<μ.length->b≠a->aG H (π a) o (π b)=H (π b):=λb d E=>aS λq=>E (R.inj b a d N q);refine⟨e,⟨λb M d B=>R.inj b M (r▸d) (r▸B),λb d=>?_,λb T d=>?_,λb s d=>?_,λb O d=>?_
  ,λb s d=>?_
  ,λb s d=>?_
  ,λb x Q ds d=>?_
  ⟩⟩
 ·by_cases h:b=a
  ·subst h;rw[bO];rfl
  ·rw[j b (r▸d) h];exact R.has b (r▸d)
 ·have i:b<μ.length:=r▸(T8.mp d).1;by_cases h:b=a
  ·subst h;rw[Vc i]at d;cases d;cases o with
   |lst vs=>exact⟨vs,bO,IsDs.mono0 e hc⟩|_=>exact UT hc
  ·rw[Vd (Vf h)]at d;obtain⟨vs,p,l⟩:=R.lst b T d;exact⟨vs,by rw[j b i h];exact p,l.mono0 e⟩
 ·have i:b<μ.length:=r▸(T8.mp d).1;by_cases h:b=a
  ·subst h;rw[Vc i]at d;cases d;cases o with
   |dK vs=>exact⟨vs,bO,hc.1,IsDs.mono0 e hc.2⟩|_=>exact UT hc
  ·rw[Vd (Vf h)]at d;obtain⟨vs,p,l,m⟩:=R.dK b s d;exact⟨vs,by rw[j b i h];exact p,l,m.mono0 e⟩
 ·have i:b<μ.length:=r▸(T8.mp d).1;by_cases h:b=a
  ·subst h;rw[Vc i]at d;cases d;obtain⟨L,rfl,l,m⟩:=hc;exact⟨L,bO,l,m.mono0 e⟩
  ·rw[Vd (Vf h)]at d;obtain⟨vs,p,l,m⟩:=R.st b O d;exact⟨vs,by rw[j b i h];exact p,l,m.mono0 e⟩
 ·have i:b<μ.length:=r▸(T8.mp d).1;by_cases h:b=a
  ·subst h;rw[Vc i]at d;cases d;obtain⟨L,rfl,l,m,y⟩:=hc;exact⟨L,bO,l,m.mono0 e,y.mono0 e⟩
  ·rw[Vd (Vf h)]at d;obtain⟨vs,p,l,m,y⟩:=R.dT b s d;exact⟨vs,by rw[j b i h];exact p,l,m.mono0 e,y.mono0 e⟩
 ·have i:b<μ.length:=r▸(T8.mp d).1;by_cases h:b=a
  ·subst h;rw[Vc i]at d;cases d;obtain⟨w,L,rfl,l,m,y⟩:=hc;exact⟨w,L,bO,l,m.mono0 e,y.mono0 e⟩
  ·rw[Vd (Vf h)]at d;obtain⟨w,vs,p,l,m,y⟩:=R.dF b s d;exact⟨w,vs,by rw[j b i h];exact p,l,m.mono0 e,y.mono0 e⟩
 ·have i:b<μ.length:=r▸(T8.mp d).1;by_cases h:b=a
  ·subst h;rw[Vc i]at d;cases d;obtain⟨w,A,rfl,l⟩:=hc;exact⟨w,A,bO,l.mono0 e⟩
  ·rw[Vd (Vf h)]at d;obtain⟨w,A,p,l⟩:=R.exc b x Q ds d;exact⟨w,A,by rw[j b i h];exact p,l.mono0 e⟩
theorem Rp.put0{a:Nat}{c:C}{o u:HO}(R:Rp K π H μ)(h:a<μ.length)(i:H (π a)=b6 u)(e:(∃vs,u=.lst vs)\/(∃vs,u=.dK vs)\/(∃d,u=.ext d)\/∃b d,u=.frz b (.ext d))(hc:lY K π μ.length H (π a) c o) :
  Ext0 π μ.length H π (μ.set a c).length (aG H (π a) o)/\Rp K π (aG H (π a) o) (μ.set a c):=
 R.putU h i ⟨λvs z=>(by rcases e with⟨w,rfl⟩|⟨w,rfl⟩|⟨w,rfl⟩|⟨b,w,rfl⟩<;>cases z),λb v nx z=>by
  rcases e with⟨w,rfl⟩|⟨w,rfl⟩|⟨w,rfl⟩|⟨b,w,rfl⟩<;>cases z;exact nx _ rfl⟩ hc
theorem Rp.putE{a:Nat}{c:C}{o u:HO}(R:Rp K π H μ)(i:a<μ.length)(d:H (π a)=b6 u)(b:(∀vs,u≠.tup vs)/\∀h v,u≠.frz h v)(hc:lY K π μ.length H (π a) c o) :
  Ext π μ.length H π (μ.set a c).length (aG H (π a) o)/\Rp K π (aG H (π a) o) (μ.set a c):=by
 have e:Ext π μ.length H π (μ.set a c).length (aG H (π a) o):=by
  refine⟨a1k (Vz ..).symm,λ_ _=>rfl,λq vs z=>?_,λq j l z=>?_⟩
  ·rw[aS]
   ·exact z
   ·intro e;subst e;rw[d]at z;exact b.1 _ (Ux z)
  ·rw[aS]
   ·exact z
   ·intro e;subst e;rw[d]at z;exact b.2 _ _ (Ux z)
 exact⟨e,(R.putU i d ⟨b.1,λh v _=>b.2 h v⟩ hc).2⟩
theorem Rp.put{a:Nat}{c:C}{o u:HO}(R:Rp K π H μ)(d:a<μ.length)(e:H (π a)=b6 u)(b:(∃vs,u=.lst vs)\/(∃vs,u=.dK vs)\/∃h,u=.ext h)(hc:lY K π μ.length H (π a) c o) :
  Ext π μ.length H π (μ.set a c).length (aG H (π a) o)/\Rp K π (aG H (π a) o) (μ.set a c):=
 R.putE d e ⟨λvs z=>(by rcases b with⟨w,rfl⟩|⟨w,rfl⟩|⟨w,rfl⟩<;>cases z),λi v z=>by rcases b with⟨w,rfl⟩|⟨w,rfl⟩|⟨w,rfl⟩<;>cases z⟩ hc
end
noncomputable def KC(K:T3)(Q:VK)(π:Nat->Addr)(n:Nat)(H:Hp)(d:D)(a:Hm):Prop:=
 ∀b v c,Ext π n H b a.length c->Rp K b c a->IsD K b a.length c v d->Q v c
theorem KC.after{K:T3}{Q:VK}{π b:Nat->Addr}{n j:Nat}{H h:Hp}{d:D}{a:Hm}(k:KC K Q π n H d a)(e:Ext π n H b j h):KC K Q b j h d a:=
 λc v l m R i=>k c v l (e.trans m) R i
inductive tM (K:T3)(m:ME)(σ:St)(H:Hp)(Q:VK):Prop
 |mk (π:Nat->Addr)(ρ:aF)(μ:Hm)(d:D)(μ':Hm)(R:Rp K π H μ)(E:En K π μ.length H σ ρ)(hm:m ρ μ=b6 (d,μ'))(k:KC K Q π μ.length H d μ'):tM K m σ H Q
inductive tMT (K:T3)(m:MT)(σ:St)(H:Hp)(Q:Bool->Hp->Prop):Prop
 |mk (π:Nat->Addr)(ρ:aF)(μ:Hm)(b:Bool)(μ':Hm)(R:Rp K π H μ)(E:En K π μ.length H σ ρ)(hm:m ρ μ=b6 (b,μ'))(k:∀π' H',Ext π μ.length H π' μ'.length H'->Rp K π' H' μ'->Q b H'):tMT K m σ H Q
inductive tMA (K:T3)(m:MA)(σ:St)(H:Hp)(Q:List V->Hp->Prop):Prop
 |mk (π:Nat->Addr)(ρ:aF)(μ:Hm)(ds:List D)(μ':Hm)(R:Rp K π H μ)(E:En K π μ.length H σ ρ)(hm:m ρ μ=b6 (ds,μ'))(k:∀π' vs H',Ext π μ.length H π' μ'.length H'->Rp K π' H' μ'->IsDs K π' μ'.length H' vs ds->Q vs H'):tMA K m σ H Q
noncomputable def nF(K:T3)(E:Ends)(π:Nat->Addr)(n:Nat)(H:Hp)(i:Fl)(h:aF)(b:Hm):Prop:=
 match i with
 |.nx=>∀a c e,Ext π n H a b.length e->Rp K a e b->En K a b.length e c h->E.nx c e|.bk=>∀a c e,Ext π n H a b.length e->Rp K a e b->En K a b.length e c h->E.bk c e|.ct=>∀a c e,Ext π n H a b.length e->Rp K a e b->En K a b.length e c h->E.ct c e|.rt d=>KC K E.rt π n H d b
inductive tMS (K:T3)(m:MS)(E:Ends)(σ:St)(H:Hp):Prop
 |mk (π:Nat->Addr)(ρ:aF)(μ:Hm)(fl:Fl)(ρ':aF)(μ':Hm)(R:Rp K π H μ)(EN:En K π μ.length H σ ρ)(hm:m ρ μ=b6 (fl,ρ',μ'))(k:nF K E π μ.length H fl ρ' μ'):tMS K m E σ H
inductive spI0 (K:T3)(f:MF)(vs:List V)(H:Hp)(Q:VK):Prop
 |mk (π:Nat->Addr)(ds:List D)(μ:Hm)(d:D)(μ':Hm)(R:Rp K π H μ)(i:IsDs K π μ.length H vs ds)(hm:f ds μ=b6 (d,μ'))(k:KC K Q π μ.length H d μ'):spI0 K f vs H Q
noncomputable def eM(K:T3)(k:Nat)(f:MF):Sp:=λvs H Q _=>vs.length=k/\spI0 K f vs H Q
section
variable{X:Cx}{e a b c:Expr}{t:TE}{m ma mb mc:ME}{pos:VW}
theorem cS(h:PE X e t)(hw:∀σ H Q,tM X.K m σ H Q->t σ H Q):PE X e (tM X.K m):=λa4z s σ H Q I q=>h a4z s σ H Q I (hw σ H Q q)
theorem qA{t:TT}{m:MT}(h:PT X e t)(hw:∀σ H Q,tMT X.K m σ H Q->t σ H Q):PT X e (tMT X.K m):=λa4z s σ H Q I q=>h a4z s σ H Q I (hw σ H Q q)
theorem Cn{t:TT}{m:MT}(h:PW X e t)(hw:∀σ H Q,tMT X.K m σ H Q->t σ H Q):PW X e (tMT X.K m):=λd a4z s σ H Q I q=>h d a4z s σ H Q I (hw σ H Q q)
theorem Co{es:List Expr}{t:TA}{m:MA}(h:PA X es t)(hw:∀σ H Q,tMA X.K m σ H Q->t σ H Q):PA X es (tMA X.K m):=λp a4z s σ H Q I q=>h p a4z s σ H Q I (hw σ H Q q)
theorem jF{st:Stmt}{t:TS}{m:MS}(h:PS X st t)(hw:∀E σ H,tMS X.K m E σ H->t E σ H):PS X st (tMS X.K m):=λa4z s σ H E I q=>h a4z s σ H E I (hw E σ H q)
theorem Cp{st:List Stmt}{t:TS}{m:MS}(h:PSs X st t)(hw:∀E σ H,tMS X.K m E σ H->t E σ H):PSs X st (tMS X.K m):=λa4z s σ H E I q=>h a4z s σ H E I (hw E σ H q)
noncomputable def aB(i:Nat):ME:=λh μ=>match h[i]? with|some (b6 d)=>b6 (d,μ)|_=>b8
noncomputable def mC(d:D):ME:=λ_ μ=>b6 (d,μ)
theorem Cq{i:Nat}{l:aF}{μ j:Hm}{d:D}(h:aB i l μ=b6 (d,j)):l[i]?=b6 (b6 d)/\j=μ:=by
 unfold aB at h;split at h
 ·rename_i n e;cases h;exact⟨e,rfl⟩
 ·cases h
theorem J7{x:Str}(i:Nat)(h:PE X (.Name x pos) (m8 i)):PE X (.Name x pos) (tM X.K (aB i)):=cS h (by
 rintro u H Q ⟨q,s,r,d,p,R,E,o,k⟩;obtain⟨j,rfl⟩:=Cq o;obtain⟨v,l,n⟩:=E.get i d j;exact⟨v,l,k q v H .refl R n⟩)
theorem nG{v:V}{d:D}(h:PE X e (tC v))(hd:∀π n H,IsD X.K π n H v d):PE X e (tM X.K (mC d)):=cS h (by
 rintro q H Q ⟨π,p,o,l,j,R,E,i,k⟩;cases i;exact k π v H .refl R (hd _ _ _))
theorem J8{i:Int}{j:Nat}:PE X (.Constant (.int i) j pos) (tM X.K (mC (.int i))):=nG Ht λ_ _ _=>.int i
theorem J9{i:Bool}{j:Nat}:PE X (.Constant (.bool i) j pos) (tM X.K (mC (.bl i))):=nG Hu λ_ _ _=>.bl i
theorem Ka{i:Str}{j:Nat}:PE X (.Constant (.str i) j pos) (tM X.K (mC (.str i))):=nG Bs λ_ _ _=>.str i
theorem Kb{j:Nat}:PE X (.Constant .none j pos) (tM X.K (mC .non)):=nG Hv λ_ _ _=>.non
noncomputable def aC(f:D->D->Hm->Option (D×Hm))(a b:ME):ME:=λd μ=>(a d μ).bind λp=>(b d p.2).bind λq=>f p.1 q.1 q.2
noncomputable def cT(K:T3)(f:D->D->Hm->Option (D×Hm))(r:R2):Prop:=
 ∀j H h x y d i l n Q,Rp K j H h->IsD K j h.length H l x->IsD K j h.length H n y->f x y h=b6 (d,i)->KC K Q j h.length H d i->r l n H Q
theorem nH{f:D->D->Hm->Option (D×Hm)}{r:R2}{K:T3}(A:cT K f r):∀σ H Q,tM K (aC f ma mb) σ H Q->pS r (tM K ma) (tM K mb) σ H Q:=by rintro σ H Q ⟨N,s,M,d,l,R,E,h,k⟩;obtain⟨⟨x,i⟩,w,h⟩:=TZ.mp h;obtain⟨⟨y,j⟩,z,h⟩:=TZ.mp h;exact⟨N,s,M,x,i,R,E,w,λn I O p v B=>⟨n,s,i,y,j,v,E.mono p,z,λo L u q R2 G=>A o u j x y d l I L Q R2 (B.mono q) G h (k.after (p.trans q))⟩⟩
theorem Kc{op:a1j}{r:R2}{f:D->D->Hm->Option (D×Hm)}(j:OpR X (XA op) r)(i:cT X.K f r)(d:PE X a (tM X.K ma))(h:PE X b (tM X.K mb)):PE X (.BinOp a op b pos) (tM X.K (aC f ma mb)):=
 cS (IC j d h) (nH i)
theorem gC{op:Yi}{r:R2}{f:D->D->Hm->Option (D×Hm)}(l:OpR X (VN op) r)(i:cT X.K f r)(d:PE X a (tM X.K ma))(h:PE X b (tM X.K mb))(j:Xj op b=b9):PE X (.Compare a [op] [b] pos) (tM X.K (aC f ma mb)):=
 cS (IJ l d h j) (nH i)
noncomputable def aP(m:ME):MT:=λd μ=>(m d μ).bind λp=>match p.1 with|.bl b=>b6 (b,p.2)|_=>b8
theorem xB{K:T3}:∀σ H Q,tMT K (aP m) σ H Q->tM K m σ H λx H'=>∃k,x=.bl k/\Q k H':=by
 rintro σ H Q ⟨r,s,o,b,p,R,E,d,k⟩;obtain⟨⟨x,q⟩,l,d⟩:=TZ.mp d;cases x with
 |bl c=>cases d;refine⟨r,s,o,_,_,R,E,l,λh v H' j i n=>?_⟩;cases n;exact⟨_,rfl,k h H' j i⟩|_=>cases d
theorem gD{op:Yi}{r:R2}{f:D->D->Hm->Option (D×Hm)}(o:OpR X (VN op) r)(l:cT X.K f r)(i:PE X a (tM X.K ma))(j:PE X b (tM X.K mb))(n:Xj op b=b9):PT X (.Compare a [op] [b] pos) (tMT X.K (aP (aC f ma mb))):=
 qA (IK o i j n) λd H Q h=>nH l d H _ (xB d H Q h)
theorem Kd(h:PE X e (tM X.K m))(i:∀d,a0z e X.env d=(do let v <- d;a1U e.pos;holding [v] (truthy v)):=by intro _;rfl):PT X e (tMT X.K (aP m)):=
 qA (Hy h i) λj H Q h=>xB j H Q h
end
end L3
namespace L3
open PySem L2
section
variable{X:Cx}{e a b c:Expr}{m ma mb mc:ME}{pos:VW}{mt mu:MT}{rest:List Expr}
noncomputable def gE(a b:MT):MT:=λd μ=>(a d μ).bind λp=>match p.1 with|true=>b d p.2|false=>b6 (b9,p.2)
noncomputable def cP(a b:MT):MT:=λd μ=>(a d μ).bind λp=>match p.1 with|true=>b6 (c4,p.2)|false=>b d p.2
noncomputable def bN(a:MT):MT:=λd μ=>(a d μ).map λp=>(!p.1,p.2)
theorem Ke(d:PT X a (tMT X.K mt)):PW X (.BoolOp .And [a] pos) (tMT X.K mt):=HC d
theorem Kf(d:PT X a (tMT X.K mt)):PW X (.BoolOp .Or [a] pos) (tMT X.K mt):=HD d
theorem Kg(w:PT X a (tMT X.K mt))(y:PW X (.BoolOp .And (b::rest) pos) (tMT X.K mu)):PW X (.BoolOp .And (a::b::rest) pos) (tMT X.K (gE mt mu)):=Cn (HE w y) (by
 rintro B H Q ⟨A,q,z,d,n,R,E,j,k⟩;obtain⟨⟨x,h⟩,v,j⟩:=TZ.mp j;refine⟨A,q,z,x,h,R,E,v,λi r l p=>?_⟩;cases x with
 |true=>refine lX ?_;exact⟨i,q,h,d,n,p,E.mono l,j,λo s u R2=>k o s (l.trans u) R2⟩|false=>
  refine lW ?_;cases j;exact k i r l p)
theorem Kh(w:PT X a (tMT X.K mt))(y:PW X (.BoolOp .Or (b::rest) pos) (tMT X.K mu)):PW X (.BoolOp .Or (a::b::rest) pos) (tMT X.K (cP mt mu)):=Cn (HF w y) (by
 rintro B H Q ⟨A,q,z,d,n,R,E,j,k⟩;obtain⟨⟨x,h⟩,v,j⟩:=TZ.mp j;refine⟨A,q,z,x,h,R,E,v,λi r l p=>?_⟩;cases x with
 |true=>refine lX ?_;cases j;exact k i r l p|false=>
  refine lW ?_;exact⟨i,q,h,d,n,p,E.mono l,j,λo s u R2=>k o s (l.trans u) R2⟩)
theorem Ki(q:PT X a (tMT X.K mt)):PT X (.UnaryOp .Not a pos) (tMT X.K (bN mt)):=qA (HG q) (by
 rintro w H Q ⟨u,v,r,d,s,R,E,h,k⟩;obtain⟨⟨x,i⟩,p,h⟩:=T7.mp h;cases h;exact⟨u,v,r,x,i,R,E,p,λj l o n=>k j l o n⟩)
noncomputable def dH(a b:ME):ME:=λd μ=>(a d μ).bind λp=>match p.1 with|.bl c4=>b d p.2|.bl b9=>b6 (.bl b9,p.2)|_=>b8
noncomputable def xC(a b:ME):ME:=λd μ=>(a d μ).bind λp=>match p.1 with|.bl c4=>b6 (.bl c4,p.2)|.bl b9=>b d p.2|_=>b8
noncomputable def j9(a:ME):ME:=λd μ=>(a d μ).bind λp=>match p.1 with|.bl b=>b6 (.bl (!b),p.2)|_=>b8
theorem Kj{op:BoolOp}(h:PE X a (tM X.K m)):PE X (.BoolOp op [a] pos) (tM X.K m):=HL h
theorem Kk(s:PE X a (tM X.K ma))(u:PE X (.BoolOp .And (b::rest) pos) (tM X.K mb)):PE X (.BoolOp .And (a::b::rest) pos) (tM X.K (dH ma mb)):=cS (HM s u) (by
 rintro A H Q ⟨y,p,w,d,n,R,E,h,k⟩;obtain⟨⟨x,i⟩,r,h⟩:=TZ.mp h;cases x with
 |bl c=>
  refine⟨y,p,w,.bl c,i,R,E,r,λj z q l o v=>?_⟩;cases v;refine⟨c,rfl,?_⟩;cases c with
  |true=>refine lX ?_;exact⟨j,p,i,d,n,o,E.mono l,h,k.after l⟩|false=>refine lW ?_;cases h;exact k j _ q l o (.bl b9)
 |_=>cases h)
theorem Kl(s:PE X a (tM X.K ma))(u:PE X (.BoolOp .Or (b::rest) pos) (tM X.K mb)):PE X (.BoolOp .Or (a::b::rest) pos) (tM X.K (xC ma mb)):=cS (HN s u) (by
 rintro A H Q ⟨y,p,w,d,n,R,E,h,k⟩;obtain⟨⟨x,i⟩,r,h⟩:=TZ.mp h;cases x with
 |bl c=>
  refine⟨y,p,w,.bl c,i,R,E,r,λj z q l o v=>?_⟩;cases v;refine⟨c,rfl,?_⟩;cases c with
  |true=>refine lX ?_;cases h;exact k j _ q l o (.bl c4)|false=>refine lW ?_;exact⟨j,p,i,d,n,o,E.mono l,h,k.after l⟩
 |_=>cases h)
theorem Km(p:PE X a (tM X.K ma)):PE X (.UnaryOp .Not a pos) (tM X.K (j9 ma)):=cS (HP p) (by
 rintro z H Q ⟨v,w,r,d,s,R,E,h,k⟩;obtain⟨⟨x,u⟩,o,h⟩:=TZ.mp h;cases x with
 |bl c=>cases h;refine⟨v,w,r,_,_,R,E,o,λi y j n l q=>?_⟩;cases q;exact⟨_,rfl,k i _ j n l (.bl _)⟩
 |_=>cases h)
noncomputable def xD(t:MT)(a b:ME):ME:=λd μ=>(t d μ).bind λp=>match p.1 with|true=>a d p.2|false=>b d p.2
theorem Kn(hc:PT X c (tMT X.K mt))(r:PE X a (tM X.K ma))(s:PE X b (tM X.K mb)):PE X (.IfExp c a b pos) (tM X.K (xD mt ma mb)):=cS (HR hc r s) (by
 rintro y H Q ⟨v,o,u,d,i,R,E,n,k⟩;obtain⟨⟨x,h⟩,q,n⟩:=TZ.mp n;refine⟨v,o,u,x,h,R,E,q,λj w l p=>?_⟩;cases x with
 |true=>refine lX ?_;exact⟨j,o,h,d,i,p,E.mono l,n,k.after l⟩|false=>
  refine lW ?_;exact⟨j,o,h,d,i,p,E.mono l,n,k.after l⟩)
noncomputable def aD:MA:=λ_ μ=>b6 ([],μ)
noncomputable def aA(a:ME)(r:MA):MA:=λd μ=>(a d μ).bind λp=>(r d p.2).bind λq=>b6 (p.1::q.1,q.2)
variable{es:List Expr}{ms:MA}
theorem Ko:PA X [] (tMA X.K aD):=Co sI (by
 rintro o H Q ⟨j,n,l,d,i,R,E,h,k⟩;cases h;exact k j [] H .refl R .nil)
theorem Kp(w:PE X e (tM X.K m))(y:PA X es (tMA X.K ms))(z:UW (e::es) X.env=(b9,eval e X.env)::UW es X.env:=by rfl):PA X (e::es) (tMA X.K (aA m ms)):=Co (pT w y z) (by
 rintro T H Q ⟨L,q,I,d,K,R,E,h,k⟩;obtain⟨⟨x,i⟩,u,h⟩:=TZ.mp h;obtain⟨⟨G,j⟩,v,h⟩:=TZ.mp h;cases h;exact⟨L,q,I,x,i,R,E,u,λl N M o s A=>⟨l,q,i,G,j,s,E.mono o,v,λn O r p R2 B=>k n _ r (o.trans p) R2 (.cons (A.mono p) B)⟩⟩)
noncomputable def aW(ms:MA):ME:=λd μ=>(ms d μ).bind λp=>if p.1.length<=Uo then b6 (.tup p.1,p.2)else b8
noncomputable def bI(ms:MA):ME:=λd μ=>(ms d μ).bind λp=>if p.1.length<=Uo then b6 (.loc p.2.length,p.2++[.lst p.1])else b8
theorem Kq{x1:Nat}(h:PA X es (tMA X.K ms)):PE X (.Tuple es x1 pos) (tM X.K (aW ms)):=cS (BH h) (by
 rintro I H Q ⟨z,A,w,d,x,R,E,i,k⟩;obtain⟨⟨G,y⟩,r,i⟩:=TZ.mp i;split at i
 ·rename_i s;cases i;refine⟨z,A,w,_,_,R,E,r,λj v B q o n=>⟨by rw[n.length];exact s,λp u=>?_⟩⟩;obtain⟨l,R2⟩:=o.fresh (o:=.tup v) u;exact k j _ _ (q.trans l) R2 (.tup (.of bO) (n.mono l))
 ·cases i)
theorem Kr(h:PA X es (tMA X.K ms)):PE X (.List es pos) (tM X.K (bI ms)):=cS (Ja h) (by
 rintro L H Q ⟨I,K,B,d,G,R,E,j,k⟩;obtain⟨⟨n,i⟩,x,j⟩:=TZ.mp j;split at j
 ·rename_i y;cases j;refine⟨I,K,B,n,i,R,E,x,λl o r v u s=>⟨by rw[s.length];exact y,λp z=>?_⟩⟩;obtain⟨w,R2,q⟩:=u.alloc (c:=.lst n) (o:=.lst o) z s;have A:IsD X.K (fC l i.length p) (i++[C.lst n]).length (aG r p (.lst o)) (.ref p) (.loc i.length):=by have:=IsD.loc (K:=X.K) (π:=fC l i.length p) (n:=(i++[C.lst n]).length) (H:=aG r p (.lst o)) (a:=i.length) (by simp);rw[q]at this;exact this
  exact k _ _ _ (v.trans w) R2 A
 ·cases j)
noncomputable def aE(f:MF)(ms:MA):ME:=λd μ=>(ms d μ).bind λp=>f p.1 p.2
theorem Ks{K:T3}{f:MF}{n:Nat}{E:XK}(w:∀j μ ds h,ms j μ=b6 (ds,h)->ds.length=n):∀σ H Q,tM K (aE f ms) σ H Q->wV (eM K n f) [] E (tMA K ms) σ H Q:=by rintro σ H Q ⟨y,j,μ,d,h,R,E,l,k⟩;obtain⟨⟨o,i⟩,q,l⟩:=TZ.mp l;refine⟨y,j,μ,o,i,R,E,q,λp x s v u r=>?_⟩;show eM K n f (x++[]) s Q _;rw[VB];exact⟨by rw[r.length];exact w j μ o i q,p,o,i,d,h,u,r,l,k.after v⟩
theorem Kt:∀i μ ds d,aD i μ=b6 (ds,d)->ds.length=0:=by intro i μ ds d h;cases h;rfl
theorem Ku{n:Nat}(h:∀j μ ds d,ms j μ=b6 (ds,d)->ds.length=n):∀j μ ds d,aA m ms j μ=b6 (ds,d)->ds.length=n+1:=by intro j μ ds d i;obtain⟨⟨x,l⟩,r,i⟩:=TZ.mp i;obtain⟨⟨p,q⟩,o,i⟩:=TZ.mp i;cases i;rw[UA,h j l p _ o]
theorem Kv{k:Nat}{f:Addr}{j:VQ}{ps:List Str}{l:MF}{x:Str}{p:VW}{n:Nat}(F:FnOk X.prog X.w X.K X.mg X.base cY k f j ps (eM X.K n l))(y:Room k X.A)(s:Gl X x)(v:X.mg x=b6 (.ref f))
  (u:U9 X.K (.ref f)=c4)(q:Binds X.K j ps [])(o:PA X (e::es) (tMA X.K ms))(w:∀A z ds i,ms A z=b6 (ds,i)->ds.length=n)(d:(x==("__debug__":Str))=false:=by decide)
  (r:UW (e::es) X.env=(b9,eval e X.env)::UW es X.env:=by rfl)(h:(W6 pos (UW es X.env)).any (·.1)=false:=by rfl) :
  PE X (.Call (.Name x p) (e::es) [] pos) (tM X.K (aE l ms)):=
 cS (Jb F y s v u q .nil (E:=E0) Cf o d r h) (Ks w)
noncomputable def eN(K:T3)(f:MF)(r:List V->Hp->VK->Prop):Prop:=
 ∀j H i n d h l Q,Rp K j H i->IsDs K j i.length H l n->f n i=b6 (d,h)->KC K Q j i.length H d h->r l H Q
theorem Cr{K:T3}{f:MF}{r:List V->Hp->VK->Prop}(u:eN K f r):∀σ H Q,tM K (aE f ms) σ H Q->wX r (tMA K ms) σ H Q:=by rintro σ H Q ⟨y,z,x,d,j,R,E,i,k⟩;obtain⟨⟨n,h⟩,s,i⟩:=TZ.mp i;exact⟨y,z,x,n,h,R,E,s,λl w o q p v=>u l o h n d j w Q p v i (k.after q)⟩
theorem Kw{f:MF}{r:List V->Hp->VK->Prop}{id:String}{x:Str}{p:VW}(hc:CallR X (.builtin id) r)(l:eN X.K f r)(n:Gl X x)(o:X.mg x=b8)(s:V9 x=b6 (.builtin id))(i:PA X (e::es) (tMA X.K ms))
  (q:x ≠ "__name__":=by decide) (d:(x==("__debug__":Str))=false:=by decide)
  (j:UW (e::es) X.env=(b9,eval e X.env)::UW es X.env:=by rfl)(h:(W6 pos (UW es X.env)).any (·.1)=false:=by rfl):PE X (.Call (.Name x p) (e::es) [] pos) (tM X.K (aE f ms)):=
 cS (Jd hc n o s i q d j h) (Cr l)
theorem Ky{f:MF}{r:List V->Hp->VK->Prop}{T:String}{x:Str}{p:VW}(hc:CallR X (.type T) r)(l:eN X.K f r)(n:Gl X x)(o:X.mg x=b8)(s:V9 x=b6 (.type T))(i:PA X (e::es) (tMA X.K ms))
  (q:x ≠ "__name__":=by decide) (d:(x==("__debug__":Str))=false:=by decide)
  (j:UW (e::es) X.env=(b9,eval e X.env)::UW es X.env:=by rfl)(h:(W6 pos (UW es X.env)).any (·.1)=false:=by rfl):PE X (.Call (.Name x p) (e::es) [] pos) (tM X.K (aE f ms)):=
 cS (Je hc n o s i q d j h) (Cr l)
noncomputable def bJ(μ:Hm):D->Option (List D)
 |.tup xs=>b6 xs|.rol xs=>b6 xs|.loc a=>match μ[a]? with|some (.lst xs)=>b6 xs|_=>b8
 |_=>b8
noncomputable def dU:D->D->Hm->Option (D×Hm)
 |.str z,.int i,μ=>if z.length<=Uo then(atI z.cps.toList i).map λc=>(.str ⟨#[c]⟩,μ)else b8|x,.int i,μ=>(bJ μ x).bind λh=>(atI h i).map λd=>(d,μ)|_,_,_=>b8
theorem Kz{K:T3}:cT K dU (B3 K):=by
 intro q H T x y d I N O Q R s E j k;cases E with
 |int i=>
  cases s with
  |str z=>
   simp only[dU]at j;split at j
   ·rename_i A;obtain⟨c,l,n⟩:=T7.mp j;cases n;exact .inr (.inr ⟨z,i,c,rfl,rfl,A,l,k q _ H .refl R (.str _)⟩)
   ·cases j
  |tup h t=>simp only[dU,bJ,UG]at j;obtain⟨r,l,n⟩:=T7.mp j;cases n;obtain⟨v,o,p⟩:=t.atI l;exact .inr (.inl ⟨_,_,i,v,rfl,rfl,h,o,k q _ H .refl R p⟩)|rol h t=>simp only[dU,bJ,UG]at j;obtain⟨r,l,n⟩:=T7.mp j;cases n;obtain⟨v,o,p⟩:=t.atI l;exact .inl ⟨_,_,i,v,rfl,rfl,h.sq,o,k q _ H .refl R p⟩|@loc a L=>
   simp only[dU,bJ]at j;split at j
   ·rename_i G B;simp only[UG]at j;obtain⟨r,l,n⟩:=T7.mp j;cases n;obtain⟨M,u,w⟩:=R.lst a G B;obtain⟨v,o,p⟩:=w.atI l;exact .inl ⟨_,_,i,v,rfl,rfl,.of u,o,k q _ H .refl R p⟩
   ·cases j
  |_=>simp[dU,bJ]at j
 |_=>cases s<;>simp[dU]at j
theorem KA(d:PE X a (tM X.K ma))(h:PE X b (tM X.K mb))(i:w5 b):PE X (.Subscript a b pos) (tM X.K (aC dU ma mb)):=cS (JJ JL d h i) (nH Kz)
noncomputable def eQ(xs:List D)(lo d:Option Int):List D:=(xs.drop (HT.sIx xs.length 0 lo)).take (HT.sIx xs.length xs.length d-HT.sIx xs.length 0 lo)
noncomputable abbrev MO:=aF->Hm->Option (Option Int×Hm)
noncomputable def dJ:MO:=λ_ μ=>b6 (b8,μ)
noncomputable def cZ(m:ME):MO:=λd μ=>(m d μ).bind λp=>match p.1 with|.int i=>b6 (b6 i,p.2)|_=>b8
inductive tMO (K:T3)(m:MO)(σ:St)(H:Hp)(Q:Option Int->Hp->Prop):Prop
 |mk (π:Nat->Addr)(ρ:aF)(μ:Hm)(o:Option Int)(μ':Hm)(R:Rp K π H μ)(E:En K π μ.length H σ ρ)(hm:m ρ μ=b6 (o,μ'))(k:∀π' H',Ext π μ.length H π' μ'.length H'->Rp K π' H' μ'->Q o H'):tMO K m σ H Q
theorem KG:PO X b8 (tMO X.K dJ):=λa4z s σ H Q I q=>JB a4z s σ H Q I (by
 obtain⟨i,l,j,o,h,R,E,d,k⟩:=q;cases d;exact k i H .refl R)
theorem KH(h:PE X e (tM X.K m)):PO X (b6 e) (tMO X.K (cZ m)):=λa4z s σ H Q I q=>JC h a4z s σ H Q I (by
 obtain⟨z,A,v,o,w,R,E,d,k⟩:=q;obtain⟨⟨x,y⟩,r,d⟩:=TZ.mp d;cases x with
 |int i=>cases d;refine⟨z,A,v,_,_,R,E,r,λj B l p n u=>?_⟩;cases u;exact⟨_,rfl,k j l p n⟩
 |_=>cases d)
noncomputable abbrev Ct(K:T3):V->Option Int->Option Int->Hp->VK->Prop:=w6 K
theorem KI{X:Cx}:wZ X (Ct X.K):=JO
theorem Cu{K:T3}{x:V}{lo d:Option Int}{H:Hp}{Q:VK}(h:w6 K x lo d H Q):Ct K x lo d H Q:=h
noncomputable def cU(a:ME)(lo h:MO):ME:=λd μ=>(a d μ).bind λp=>(lo d p.2).bind λq=>(h d q.2).bind λr=>
 match p.1 with
 |.tup _=>b8|x=>(bJ r.2 x).bind λi=>b6 (.loc r.2.length,r.2++[.lst (eQ i q.1 r.1)])
theorem Cv{K:T3}{π:Nat->Addr}{n:Nat}{H:Hp}{vs:List V}{ds:List D}(h:IsDs K π n H vs ds)(lo d:Option Int):IsDs K π n H (j8 vs lo d) (eQ ds lo d):=by unfold j8 eQ;rw[h.length];exact(h.drop _).take _
theorem lZ{K:T3}{π:Nat->Addr}{μ:Hm}{p:Addr}{c:C}{H:Hp}:IsD K (fC π μ.length p) (μ++[c]).length H (.ref p) (.loc μ.length):=by have:=IsD.loc (K:=K) (π:=fC π μ.length p) (n:=(μ++[c]).length) (H:=H) (a:=μ.length) (by simp);rw[show fC π μ.length p μ.length=p from if_pos rfl]at this;exact this
theorem KJ{lo L:Option Expr}{N M:MO}{p2:VW}(ha:PE X a (tM X.K ma))(hl:PO X lo (tMO X.K N))(hu:PO X L (tMO X.K M)):PE X (.Subscript a (.Slice lo L b8 p2) pos) (tM X.K (cU ma N M)):=cS (JE KI ha hl hu) (by
 rintro σ H Q ⟨π,K,μ,d,μ',R,E,j,k⟩;obtain⟨⟨x,n⟩,U,j⟩:=TZ.mp j;obtain⟨⟨l,o⟩,Y,j⟩:=TZ.mp j;obtain⟨⟨u,B⟩,Z,j⟩:=TZ.mp j;refine⟨π,K,μ,x,n,R,E,U,λG v1 H1 r T i1=>⟨G,K,n,l,o,T,E.mono r,Y,λI H2 s R2=>⟨I,K,o,u,B,R2,(E.mono r).mono s,Z,λπ3 H3 y v=>?_⟩⟩⟩;have i3:=(i1.mono s).mono y;cases i3 with
 |rol h t=>simp only[bJ,UG]at j;cases j;refine Cu ⟨_,_,rfl,h.sq,λp A=>?_⟩;obtain⟨z,w,q⟩:=v.alloc (c:=.lst (eQ _ l u)) (o:=.lst (j8 _ l u)) A (Cv t l u);exact k _ _ _ (((r.trans s).trans y).trans z) w lZ|@loc i hi'=>
  simp only[bJ]at j;split at j
  ·rename_i O hx;simp only[UG]at j;cases j;obtain⟨vs,h5,h6⟩:=v.lst i O hx;refine Cu ⟨_,_,rfl,.of h5,λp A=>?_⟩;obtain⟨z,w,q⟩:=v.alloc (c:=.lst (eQ O l u)) (o:=.lst (j8 vs l u)) A (Cv h6 l u);exact k _ _ _ (((r.trans s).trans y).trans z) w lZ
  ·cases j
 |tup h t=>simp at j
 |_=>simp[bJ]at j)
end
section
variable{X:Cx}{e a b c:Expr}{m:ME}{pos:VW}{mt:MT}{st:Stmt}{rest body orelse:List Stmt}{ms mr mu:MS}
noncomputable def bA:MS:=λd μ=>b6 (.nx,d,μ)
noncomputable def aJ(a b:MS):MS:=λd μ=>(a d μ).bind λp=>match p.1 with|.nx=>b p.2.1 p.2.2|_=>b6 p
noncomputable def aX(m:ME):MS:=λd μ=>(m d μ).map λp=>(.rt p.1,d,p.2)
noncomputable def fR(m:ME):MS:=λd μ=>(m d μ).map λp=>(.nx,d,p.2)
noncomputable def a6(t:MT)(a b:MS):MS:=λd μ=>(t d μ).bind λp=>match p.1 with|true=>a d p.2|false=>b d p.2
noncomputable def aQ(i:Nat)(m:ME):MS:=λd μ=>(m d μ).map λp=>(.nx,d.set i (b6 p.1),p.2)
theorem KL:PSs X [] (tMS X.K bA):=Cp HV (by
 rintro E n H ⟨j,q,p,o,l,i,R,d,h,k⟩;cases h;exact k j n H .refl R d)
theorem KN(h1:PS X st (tMS X.K ms))(B:PSs X rest (tMS X.K mr)):PSs X (st::rest) (tMS X.K (aJ ms mr)):=Cp (Bu h1 B) (by
 rintro E N H ⟨I,K,G,x,v,s,R,z,j,k⟩;obtain⟨⟨w,q,p⟩,h1,j⟩:=TZ.mp j;refine⟨I,K,G,w,q,p,R,z,h1,?_⟩;cases w with
 |nx=>
  intro u L M r A y;refine⟨u,q,p,x,v,s,A,y,j,?_⟩;cases x with
  |nx=>exact λh i n o R2 l=>k h i n (r.trans o) R2 l|bk=>exact λh i n o R2 l=>k h i n (r.trans o) R2 l|ct=>exact λh i n o R2 l=>k h i n (r.trans o) R2 l|rt d=>exact KC.after k r
 |rt d=>cases j;exact k|bk=>cases j;exact k
 |ct=>cases j;exact k)
theorem KO(h1:PS X st (tMS X.K ms)):PSs X [st] (tMS X.K ms):=HW h1
theorem KP:PS X (.Pass pos) (tMS X.K bA):=jF HX (by
 rintro E n H ⟨j,q,p,o,l,i,R,d,h,k⟩;cases h;exact k j n H .refl R d)
theorem KQ(l:PE X e (tM X.K m)):PS X (.Return (b6 e) pos) (tMS X.K (aX m)):=jF (Ib l) (by
 rintro E u H ⟨p,q,n,s,r,o,R,i,d,k⟩;obtain⟨⟨x,h⟩,j,d⟩:=T7.mp d;cases d;exact⟨p,q,n,x,h,R,i,j,k⟩)
theorem KR(q:PE X e (tM X.K m))(r:YK e b8 pos.line X.env=pure false:=by rfl):PS X (.Expr e pos) (tMS X.K (fR m)):=jF (HZ q r) (by
 rintro E z H ⟨v,w,s,A,y,u,R,j,d,k⟩;obtain⟨⟨x,h⟩,p,d⟩:=T7.mp d;cases d;exact⟨v,w,s,x,h,R,j,p,λi G n l o B=>k i z n l o (j.mono l)⟩)
theorem KS(hc:PT X c (tMT X.K mt))(I:PSs X body (tMS X.K ms))(K:PSs X orelse (tMS X.K mu)):PS X (.If c body orelse pos) (tMS X.K (a6 mt ms mu)):=jF (Ih hc I K) (by
 rintro E N H ⟨M,y,L,u,o,l,R,w,v,k⟩;obtain⟨⟨x,j⟩,G,v⟩:=TZ.mp v;refine⟨M,y,L,x,j,R,w,G,λn B p z=>?_⟩;have A:nF X.K E n j.length B u o l:=by
  cases u with
  |nx=>exact λh i r s R2 q=>k h i r (p.trans s) R2 q|bk=>exact λh i r s R2 q=>k h i r (p.trans s) R2 q|ct=>exact λh i r s R2 q=>k h i r (p.trans s) R2 q|rt d=>exact KC.after k p
 cases x with
 |true=>refine lX ?_;exact⟨n,y,j,u,o,l,z,w.mono p,v,A⟩|false=>
  refine lW ?_;exact⟨n,y,j,u,o,l,z,w.mono p,v,A⟩)
theorem Cw{i:Nat}{x:Str}{d:VW}(s:X.N.Nodup)(w:X.N[i]?=b6 x)(z:Loc X.env.scope x)(u:PE X e (tM X.K m))(y:YK e (b6 (.Name x d)) pos.line X.env=pure false:=by rfl)
  (v:X.fn x=c4\/X.env.scope.names.lookup x=b6 .local:=by first|exact .inl rfl|exact .inr rfl|assumption):PS X (.Assign [.Name x d] e pos) (tMS X.K (aQ i m)):=jF (Bz s w z u y v) (by
 rintro E O H ⟨I,K,B,M,L,G,R,n,h,k⟩;obtain⟨⟨x,j⟩,r,h⟩:=T7.mp h;cases h;exact⟨I,K,B,x,j,R,n,r,λl N p o q A=>k l _ p o q ((n.mono o).set A i)⟩)
end
noncomputable def qB(n:Nat)(ds:List D):aF:=ds.map b6++Wq (n-ds.length) b8
noncomputable def qC(n:Nat)(m:MS):MF:=λds μ=>(m (qB n ds) μ).bind λp=>match p.1 with|.rt d=>b6 (d,p.2.2)|.nx=>b6 (.non,p.2.2)|_=>b8
theorem xF{K:T3}{π:Nat->Addr}{n:Nat}{H:Hp}{N:List Str}{vs:List V}{ds:List D}(h:IsDs K π n H vs ds)(p:vs.length<=N.length):En K π n H (L2.start N vs) (qB N.length ds):=by
 have a:=h.length;refine⟨by simp[L2.start,qB,a],λi d e=>?_⟩;unfold qB at e;unfold L2.start;by_cases b:i<ds.length
 ·rw[Ul (by simpa using b),UU]at e;obtain⟨o,c,j⟩:=T7.mp e;cases j;obtain⟨v,l,m⟩:=h.get c;exact⟨v,by rw[Ul (by rw[Uc,a];exact b),UU,l];rfl,m⟩
 ·rw[Uz (by simpa using YC.mp b)]at e;have:=W5 (n:=N.length-ds.length) (a:=(b8:Option D)) (i:=i-(ds.map b6).length);rw[this]at e;split at e<;>simp at e
section
variable{P:Ur}{w:UJ}{K:T3}{mg:Str->Option Value}{base:Vb}
theorem KU{x qual:Str}{st:Stmt}{f:Addr}{o:VQ}{N ps:List Str}{k:Nat}{m:MS}(F:Fun K x qual st f o)(S:FnScope N ps (bC st))(e:ps.length<=N.length)
  (b:∀(a:Value)(A:UD)(outer:List YD)(s:T6)(H:Hp)(E:XK),Room k (A.deeper (XW qual (bC st) s.heap.objs.size f a))->
   PSs (dA cY P w K mg base N qual (bC st) f a A outer s H E).nox (cD st) (tMS K m)):FnOk P w K mg base cY (k+1) f o ps (eM K ps.length (qC N.length m)):=by
 refine F.ok S (λG H Q E h=>h.1) λa A outer s H G Q E z h=>⟨_,b a A outer s H E z,?_⟩;obtain⟨B,M,ds,I,d,L,R,i,c,q⟩:=h;obtain⟨⟨p,n,j⟩,y,c⟩:=TZ.mp c;refine⟨M,_,I,p,n,j,R,xF i (by rw[B];exact e),y,?_⟩;cases p with
 |rt U=>cases c;exact q|nx=>cases c;exact λl O r v u T=>q l .non r v u .non|bk=>cases c|ct=>cases c
end
end L3
namespace L3
open PySem L2
open SeqAt (EqAt RcAt RcNeAt)
inductive KD where
 |non|bl (b:Bool)|int (i:Int)|str (x:Str)|tup (n:Nat)|lst (n:Nat)
inductive IsK (s:T6):Value->KD->Prop where
 |non:IsK s .none .non
 |bl (b:Bool):IsK s (.bool b) (.bl b)
 |int (i:Int)(t:a2J):IsK s (.int i t) (.int i)
 |str (x:Str)(t:a2J):IsK s (.str x t) (.str x)
 |tup {l:Addr}{its:List Value}(h:s.heap.IsTuple l its.toArray):IsK s (.ref l) (.tup its.length)
 |lst {l:Addr}{its:List Value}(h:s.heap.IsList l its.toArray):IsK s (.ref l) (.lst its.length)
noncomputable def nI(e:Nat->Bool):KD->KD->Bool
 |.non,.non=>c4|.bl a,.bl b=>a==b|.bl a,.int b=>(if a then 1 else 0)==b|.int a,.bl b=>a==(if b then 1 else 0)|.int a,.int b=>a==b|.str a,.str b=>a==b|.tup n,.tup k=>(Vv (min n k)).all e&&n==k|.lst n,.lst k=>(Vv (min n k)).all e&&n==k|_,_=>b9
noncomputable def sQ(A:UD)(s:T6)(u v:Value)(e:Nat->Bool):Prop:=
 (∀l b c a,u=.ref l->v=.ref b->s.heap.IsTuple l c->s.heap.IsTuple b a->∀j (h1:j<c.size)(d:j<a.size),EqAt A.in1 s c[j] a[j] (e j)) /\
 (∀l b c a,u=.ref l->v=.ref b->s.heap.IsList l c->s.heap.IsList b a->∀j (h1:j<c.size)(d:j<a.size),EqAt A.in1 s c[j] a[j] (e j))
section
variable{A:UD}{s:T6}{u v:Value}{k k':KD}{e:Nat->Bool}
theorem Cy{n k:Nat}(e:Nat->Bool)(h:n=k):((Vv (min n k)).all e&&n==k)=(Vv n).all e:=by subst h;simp
theorem Cz{n k:Nat}(e:Nat->Bool)(h:n≠k):((Vv (min n k)).all e&&n==k)=false:=by simp[h]
theorem xG(h:IsK s u k)(h':IsK s v k')(c:A.units<Wi)(o:sQ A s u v e):RcAt A s u v (nI e k k'):=by
 cases h with
 |non=>
  cases h' with
  |non=>exact RcAt.none_none|bl b=>exact RcAt.none_bool b|int i t=>exact RcAt.none_int i t|str x t=>exact RcAt.none_str x t|tup h=>exact RcAt.none_tuple h c|lst h=>exact RcAt.none_list h c
 |bl a=>
  cases h' with
  |non=>exact RcAt.bool_none a|bl b=>exact RcAt.bool_bool a b|int i t=>exact RcAt.bool_int a i t|str x t=>exact RcAt.bool_str a x t|tup h=>exact RcAt.bool_tuple a h c|lst h=>exact RcAt.bool_list a h c
 |int a j=>
  cases h' with
  |non=>exact RcAt.int_none a j|bl b=>exact RcAt.int_bool a j b|int i t=>exact RcAt.int_int a j i t|str x t=>exact RcAt.int_str a j x t|tup h=>exact RcAt.int_tuple a j h c|lst h=>exact RcAt.int_list a j h c
 |str a j=>
  cases h' with
  |non=>exact RcAt.str_none a j|bl b=>exact RcAt.str_bool a j b|int i t=>exact RcAt.str_int a j i t|str x t=>exact RcAt.str_str a j x t|tup h=>exact RcAt.str_tuple a j h c|lst h=>exact RcAt.str_list a j h c
 |tup g=>
  cases h' with
  |non=>exact RcAt.tuple_none g c|bl b=>exact RcAt.tuple_bool b g c|int i t=>exact RcAt.tuple_int i t g c|str x t=>exact RcAt.tuple_str x t g c|tup h=>have:=RcAt.tuples (e:=e) g h c (o.1 _ _ _ _ rfl rfl g h);simpa[nI]using this|lst h=>exact RcAt.tuple_list g h c
 |lst g=>
  cases h' with
  |non=>exact RcAt.list_none g c|bl b=>exact RcAt.list_bool b g c|int i t=>exact RcAt.list_int i t g c|str x t=>exact RcAt.list_str x t g c|tup h=>exact RcAt.list_tuple g h c|@lst b d h=>
   rename_i l m;by_cases n:m.length=d.length
   ·have:=RcAt.lists (e:=e) g h (by simpa using n) c (o.2 _ _ _ _ rfl rfl g h);show RcAt A s _ _ ((Vv (min m.length d.length)).all e&&m.length==d.length);rw[Cy e n];simpa using this
   ·have:=RcAt.lists_lengths g h (by simpa using n) c;show RcAt A s _ _ ((Vv (min m.length d.length)).all e&&m.length==d.length);rw[Cz e n];exact this
theorem KW(h:IsK s u k)(h':IsK s v k')(c:A.units<Wi)(o:sQ A s u v e):RcNeAt A s u v (!nI e k k'):=by
 cases h with
 |non=>
  cases h' with
  |non=>exact RcNeAt.none_none|bl b=>exact RcNeAt.none_bool b|int i t=>exact RcNeAt.none_int i t|str x t=>exact RcNeAt.none_str x t|tup h=>exact RcNeAt.none_tuple h c|lst h=>exact RcNeAt.none_list h c
 |bl a=>
  cases h' with
  |non=>exact RcNeAt.bool_none a|bl b=>exact RcNeAt.bool_bool a b|int i t=>exact RcNeAt.bool_int a i t|str x t=>exact RcNeAt.bool_str a x t|tup h=>exact RcNeAt.bool_tuple a h c|lst h=>exact RcNeAt.bool_list a h c
 |int a j=>
  cases h' with
  |non=>exact RcNeAt.int_none a j|bl b=>exact RcNeAt.int_bool a j b|int i t=>exact RcNeAt.int_int a j i t|str x t=>exact RcNeAt.int_str a j x t|tup h=>exact RcNeAt.int_tuple a j h c|lst h=>exact RcNeAt.int_list a j h c
 |str a j=>
  cases h' with
  |non=>exact RcNeAt.str_none a j|bl b=>exact RcNeAt.str_bool a j b|int i t=>exact RcNeAt.str_int a j i t|str x t=>exact RcNeAt.str_str a j x t|tup h=>exact RcNeAt.str_tuple a j h c|lst h=>exact RcNeAt.str_list a j h c
 |tup g=>
  cases h' with
  |non=>exact RcNeAt.tuple_none g c|bl b=>exact RcNeAt.tuple_bool b g c|int i t=>exact RcNeAt.tuple_int i t g c|str x t=>exact RcNeAt.tuple_str x t g c|tup h=>have:=RcNeAt.tuples (e:=e) g h c (o.1 _ _ _ _ rfl rfl g h);simpa[nI]using this|lst h=>exact RcNeAt.tuple_list g h c
 |lst g=>
  cases h' with
  |non=>exact RcNeAt.list_none g c|bl b=>exact RcNeAt.list_bool b g c|int i t=>exact RcNeAt.list_int i t g c|str x t=>exact RcNeAt.list_str x t g c|tup h=>exact RcNeAt.list_tuple g h c|@lst b d h=>
   rename_i l m;by_cases n:m.length=d.length
   ·have:=RcNeAt.lists (e:=e) g h (by simpa using n) c (o.2 _ _ _ _ rfl rfl g h);show RcNeAt A s _ _ (!((Vv (min m.length d.length)).all e&&m.length==d.length));rw[Cy e n];simpa using this
   ·have:=RcNeAt.lists_lengths g h (by simpa using n) c;show RcNeAt A s _ _ (!((Vv (min m.length d.length)).all e&&m.length==d.length));rw[Cz e n];exact this
theorem KY(h:IsK s u k)(h':IsK s v k')(c:A.units<Wi)(o:sQ A s u v e)(n:∀l b,u=.ref l->v=.ref b->l≠b):EqAt A s u v (nI e k k'):=by
 cases h with
 |non=>
  cases h' with
  |non=>exact EqAt.same _|bl b=>exact EqAt.none_bool b|int i t=>exact EqAt.none_int i t|str x t=>exact EqAt.none_str x t|tup h=>exact EqAt.none_tuple h c|lst h=>exact EqAt.none_list h c
 |bl a=>
  cases h' with
  |non=>exact EqAt.bool_none a|bl b=>exact EqAt.bool_bool a b|int i t=>exact EqAt.bool_int a i t|str x t=>exact EqAt.bool_str a x t|tup h=>exact EqAt.bool_tuple a h c|lst h=>exact EqAt.bool_list a h c
 |int a d=>
  cases h' with
  |non=>exact EqAt.int_none a d|bl b=>exact EqAt.int_bool a d b|int i t=>exact EqAt.int_int a d i t|str x t=>exact EqAt.int_str a d x t|tup h=>exact EqAt.int_tuple a d h c|lst h=>exact EqAt.int_list a d h c
 |str a d=>
  cases h' with
  |non=>exact EqAt.str_none a d|bl b=>exact EqAt.str_bool a d b|int i t=>exact EqAt.str_int a d i t|str x t=>exact EqAt.str_str a d x t|tup h=>exact EqAt.str_tuple a d h c|lst h=>exact EqAt.str_list a d h c
 |@tup l m g=>
  cases h' with
  |non=>exact EqAt.tuple_none g c|bl b=>exact EqAt.tuple_bool b g c|int i t=>exact EqAt.tuple_int i t g c|str x t=>exact EqAt.tuple_str x t g c|@tup b j h=>exact EqAt.of_refs (n l b rfl rfl) (xG (k:=.tup m.length) (k':=.tup j.length) (.tup g) (.tup h) c o)|lst h=>exact EqAt.tuple_list g h c
 |@lst l m g=>
  cases h' with
  |non=>exact EqAt.list_none g c|bl b=>exact EqAt.list_bool b g c|int i t=>exact EqAt.list_int i t g c|str x t=>exact EqAt.list_str x t g c|tup h=>exact EqAt.list_tuple g h c|@lst b j h=>exact EqAt.of_refs (n l b rfl rfl) (xG (k:=.lst m.length) (k':=.lst j.length) (.lst g) (.lst h) c o)
end
inductive KdD where
 |non|bl (b:Bool)|int (i:Int)|str (x:Str)|tup (xs:List D)|lst (xs:List D)
noncomputable def dB(μ:Hm):D->Option KdD
 |.non=>b6 .non|.bl b=>b6 (.bl b)|.int i=>b6 (.int i)|.str x=>b6 (.str x)|.tup xs=>b6 (.tup xs)|.rol xs=>b6 (.lst xs)|.loc a=>match μ[a]? with|some (.lst xs)=>b6 (.lst xs)|_=>b8
 |.ty _=>b8
noncomputable def eB(f:D->D->Option Bool):List D->List D->Option Bool
 |x::xs,y::ys=>(f x y).bind λb=>(eB f xs ys).map λc=>b&&c|[],[]=>b6 c4|_,_=>b6 b9
noncomputable def gG(f:D->D->Option Bool):KdD->KdD->Option Bool
 |.non,.non=>b6 c4|.bl a,.bl b=>b6 (a==b)|.bl a,.int b=>b6 ((if a then 1 else 0)==b)|.int a,.bl b=>b6 (a==(if b then 1 else 0))|.int a,.int b=>b6 (a==b)|.str a,.str b=>b6 (a==b)|.tup xs,.tup ys=>eB f xs ys|.lst xs,.lst ys=>eB f xs ys|_,_=>b6 b9
noncomputable def sS(f:D->D->Option Bool)(x y:D):Option Bool:=match x with
 |.loc a=>(match y with
  |.loc b=>if a=b then b6 c4 else f x y
  |_=>f x y)
 |_=>f x y
theorem CA{f:D->D->Option Bool}{x y:D}{b:Bool}(h:sS f x y=b6 b):f x y=b6 b\/(b=c4/\∃a,x=.loc a/\y=.loc a):=by
 unfold sS at h;split at h
 ·split at h
  ·split at h
   ·rename_i e;subst e;exact .inr ⟨(Ux h).symm,_,rfl,rfl⟩
   ·exact .inl h
  ·exact .inl h
 ·exact .inl h
noncomputable def cV:Nat->Hm->D->D->Option Bool
 |0,_,_,_=>b8|n+1,μ,x,y=>(dB μ x).bind λa=>(dB μ y).bind λb=>gG (sS (cV n μ)) a b
noncomputable abbrev cJ(n:Nat)(μ:Hm):D->D->Option Bool:=sS (cV n μ)
noncomputable def xH:KdD->KD
 |.non=>.non|.bl b=>.bl b|.int i=>.int i|.str x=>.str x|.tup xs=>.tup xs.length|.lst xs=>.lst xs.length
noncomputable def nJ:KdD->List D
 |.tup xs=>xs|.lst xs=>xs|_=>[]
section
variable{X:Cx}{a4z:List (Addr×Obj)}{σ:St}{H:Hp}{s:T6}{π:Nat->Addr}{μ:Hm}
inductive KdAt (X:Cx)(π:Nat->Addr)(n:Nat)(H:Hp)(s:T6)(u:Value):KdD->Prop where
 |non (h:u=.none):KdAt X π n H s u .non
 |bl (b:Bool)(h:u=.bool b):KdAt X π n H s u (.bl b)
 |int (i:Int)(t:a2J)(h:u=.int i t):KdAt X π n H s u (.int i)
 |str (x:Str)(t:a2J)(h:u=.str x t):KdAt X π n H s u (.str x)
 |tup {xs:List D}(p:Addr)(vs:List V)(its:List Value)(h:u=.ref p)(q:SqT X.K H p vs)(i:IsDs X.K π n H vs xs)(r:Vals vs its)(t:s.heap.IsTuple p its.toArray):KdAt X π n H s u (.tup xs)
 |lst {xs:List D}(p:Addr)(vs:List V)(its:List Value)(h:u=.ref p)(q:SqL X.K H p vs)(i:IsDs X.K π n H vs xs)(r:Vals vs its)(t:s.heap.IsList p its.toArray):KdAt X π n H s u (.lst xs)
theorem nK(I:Inv X a4z σ H s)(R:Rp X.K π H μ){v:V}{d:D}{u:Value}(h:IsD X.K π μ.length H v d)(r:RelV v u){k:KdD}(e:dB μ d=b6 k):KdAt X π μ.length H s u k:=by
 cases h with
 |non=>cases e;exact .non r|bl b=>cases e;exact .bl b r|int i=>cases e;obtain⟨t,q⟩:=r;exact .int i t q|str x=>cases e;obtain⟨t,q⟩:=r;exact .str x t q|ty x=>cases e|tup q t=>cases e;obtain⟨c,j,p,_⟩:=I.tuple q;exact .tup _ _ c r q t j p|rol q t=>cases e;obtain⟨c,j,p,_⟩:=I.list q.sq;exact .lst _ _ c r q.sq t j p.isList|@loc a y=>
  simp only[dB]at e;split at e
  ·rename_i w n;cases e;obtain⟨o,l,m⟩:=R.lst a w n;have q:SqL X.K H (π a) o:=.of l;obtain⟨c,j,p,_⟩:=I.list q;exact .lst _ _ c r q m j p.isList
  ·cases e
theorem KdAt.isK{u:Value}{k:KdD}{n:Nat}(h:KdAt X π n H s u k):IsK s u (xH k):=by
 cases h with
 |non h=>subst h;exact .non|bl b h=>subst h;exact .bl b|int i t h=>subst h;exact .int i t|str x t h=>subst h;exact .str x t|tup p c a h q i r t=>subst h;have:a.length=_:=r.length.symm.trans i.length;show IsK s (.ref p) (.tup _);rw[<- this];exact .tup t|lst p c a h q i r t=>subst h;have:a.length=_:=r.length.symm.trans i.length;show IsK s (.ref p) (.lst _);rw[<- this];exact .lst t
noncomputable def gH(f:D->D->Option Bool)(xs ys:List D)(j:Nat):Bool:=match xs[j]?,ys[j]? with
 |some x,b6 y=>(f x y).getD b9|_,_=>b9
theorem xI{f:D->D->Option Bool}:∀{xs ys:List D}{b:Bool},eB f xs ys=b6 b->b=((Vv (min xs.length ys.length)).all (gH f xs ys)&&xs.length==ys.length)/\∀(j:Nat) x y,xs[j]?=b6 x->ys[j]?=b6 y->f x y=b6 (gH f xs ys j)
 |[],[],b,h=>by cases h;exact⟨rfl,λj x y e=>by simp at e⟩
 |x::xs,[],b,h=>by cases h;exact⟨by simp,λj x y _ e=>by simp at e⟩
 |[],y::ys,b,h=>by cases h;exact⟨by simp,λj x y e=>by simp at e⟩
 |x::xs,y::ys,b,h=>by
  simp only[eB]at h;obtain⟨c,m,o⟩:=TZ.mp h;obtain⟨d,p,q⟩:=T7.mp o;obtain⟨r,u⟩:=xI p;have l:gH f (x::xs) (y::ys) 0=c:=by simp[gH,m]
  have n:∀j,gH f (x::xs) (y::ys) (j+1)=gH f xs ys j:=λj=>by simp[gH]
  refine⟨?_,λj v w a i=>?_⟩
  ·subst q;rw[r];simp only[UA,Nat.add_min_add_right];rw[a0R,Va,a3x,l];have:(gH f (x::xs) (y::ys)∘Nat.succ)=gH f xs ys:=funext λj=>n j;rw[this];simp[Bool.and_assoc]
  ·cases j with
   |zero=>simp at a i;subst a;subst i;rw[l,m]|succ j=>rw[n j];exact u j v w (by simpa using a) (by simpa using i)
theorem CB{f:D->D->Option Bool}{k k':KdD}{b:Bool}(h:gG f k k'=b6 b):b=nI (gH f (nJ k) (nJ k')) (xH k) (xH k'):=by
 cases k<;>cases k'<;>simp only[gG]at h<;>first
  |(have a:=Ux h;subst a;rfl)|(obtain⟨c,_⟩:=xI h;rw[c];rfl)
theorem KZ(I:Inv X a4z σ H s)(R:Rp X.K π H μ):∀(n:Nat){v:V}{u:Value}{x y:D}{b:Bool},RelV v u->IsD X.K π μ.length H v x->IsD X.K π μ.length H v y->cV n μ x y=b6 b->b=true:=by
 intro n;induction n with
 |zero=>intro v u x y b _ _ _ h;cases h|succ n ih=>
  intro v u x y b r hx hy h;obtain⟨k,U,h⟩:=TZ.mp h;obtain⟨k',h2,h⟩:=TZ.mp h;have a1:=nK I R hx r U;have A:=nK I R hy r h2;have l:∀{vs:List V}{xs ys:List D}{c:Bool},(∀v∈vs,∃u,RelV v u)->IsDs X.K π μ.length H vs xs->IsDs X.K π μ.length H vs ys->eB (cJ n μ) xs ys=b6 c->c=true:=by
   intro vs;induction vs with
   |nil=>intro xs ys c _ Z o h;cases Z;cases o;cases h;rfl|cons w vs ihv=>
    intro xs ys c hr Z o h;cases Z with
    |cons p1 t1=>
     cases o with
     |cons M E=>simp only[eB]at h;obtain⟨c1,U,h3⟩:=TZ.mp h;obtain⟨c2,h4,h5⟩:=T7.mp h3;obtain⟨T,O⟩:=hr w (UZ ..);have a:c1=true:=(CA U).elim (ih O p1 M) (·.1);have m:=ihv (λv K=>hr v (UO _ K)) t1 E h4;subst a;subst m;exact h5.symm
  cases a1 with
  |non a=>
   subst a;cases A with
   |non _=>simp only[gG]at h;exact(Ux h).symm|bl _ e=>cases e|int _ _ e=>cases e|str _ _ e=>cases e|tup _ _ _ e=>cases e|lst _ _ _ e=>cases e
  |bl c a=>
   subst a;cases A with
   |non e=>cases e|bl _ e=>cases e;simp only[gG,beq_self_eq_true]at h;exact(Ux h).symm|int _ _ e=>cases e|str _ _ e=>cases e|tup _ _ _ e=>cases e|lst _ _ _ e=>cases e
  |int c t a=>
   subst a;cases A with
   |non e=>cases e|bl _ e=>cases e|int _ _ e=>cases e;simp only[gG,beq_self_eq_true]at h;exact(Ux h).symm|str _ _ e=>cases e|tup _ _ _ e=>cases e|lst _ _ _ e=>cases e
  |str c t a=>
   subst a;cases A with
   |non e=>cases e|bl _ e=>cases e|int _ _ e=>cases e|str _ _ e=>cases e;simp only[gG,beq_self_eq_true]at h;exact(Ux h).symm|tup _ _ _ e=>cases e|lst _ _ _ e=>cases e
  |tup p vs L a q i Q t=>
   have z:KdAt X π μ.length H s (.ref p) _:=a▸KdAt.tup p vs L a q i Q t;rw[a]at A;cases A with
   |non e=>cases e|bl _ e=>cases e|int _ _ e=>cases e|str _ _ e=>cases e|tup M G d m N o B E=>
    cases m;have:=I.tuple_inj q N;subst this;exact l (λv K=>by
     obtain⟨j,Y,rfl⟩:=Yn K;obtain⟨T,_,O⟩:=Q.get (T9 Y);exact⟨T,O⟩) i o h
   |lst M G d m N o B E=>cases m;exact absurd rfl (Wl E t)
  |lst p vs L a q i Q t=>
   rw[a]at A;cases A with
   |non e=>cases e|bl _ e=>cases e|int _ _ e=>cases e|str _ _ e=>cases e|tup M G d m N o B E=>cases m;exact absurd rfl (Wl t E)|lst M G d m N o B E=>
    cases m;have:=I.list_inj q N;subst this;exact l (λv K=>by
     obtain⟨j,Y,rfl⟩:=Yn K;obtain⟨T,_,O⟩:=Q.get (T9 Y);exact⟨T,O⟩) i o h
theorem nM(A:UD):A.in1.units=A.units+1:=rfl
theorem CC(I:Inv X a4z σ H s){A:UD}{n:Nat}(ih:∀{A:UD}{v v':V}{u u':Value}{x y:D}{b:Bool},A.units+n<Wi->RelV v u->RelV v' u'->IsD X.K π μ.length H v x->IsD X.K π μ.length H v' y->cV n μ x y=b6 b->EqAt A s u u' b)
  (hu:A.units+(n+1)<Wi){u u':Value}{k k':KdD}{b:Bool}(a1:KdAt X π μ.length H s u k)(a2:KdAt X π μ.length H s u' k')(h:gG (cJ n μ) k k'=b6 b):sQ A s u u' (gH (cJ n μ) (nJ k) (nJ k')):=by
 have L:∀{vs U:List V}{d its':List Value}{xs ys:List D}{c:Bool},Vals vs d->Vals U its'->IsDs X.K π μ.length H vs xs->IsDs X.K π μ.length H U ys->eB (cJ n μ) xs ys=b6 c->
   ∀j (h1:j<d.length)(Z:j<its'.length),EqAt A.in1 s d[j] its'[j] (gH (cJ n μ) xs ys j):=by
  intro vs U d its' xs ys c r r' i i' e j h1 Z;have l1:=r.length;have l2:=r'.length;have l3:=i.length;have l4:=i'.length;have hx:xs[j]?=b6 (xs[j]'(by omega)):=T9 _;have hy:ys[j]?=b6 (ys[j]'(by omega)):=T9 _;obtain⟨v,v1,v2⟩:=i.get hx;obtain⟨v',v1',v2'⟩:=i'.get hy;obtain⟨w,w1,w2⟩:=r.get v1;obtain⟨w',w1',w2'⟩:=r'.get v1';rw[T9 h1]at w1;rw[T9 Z]at w1';cases w1;cases w1';have key:∀{x y:D}{b:Bool},IsD X.K π μ.length H v x->IsD X.K π μ.length H v' y->cJ n μ x y=b6 b->EqAt A.in1 s d[j] its'[j] b:=λ{x y b} i1 M hq=>by
   rcases CA hq with hq|⟨rfl,a,rfl,rfl⟩
   ·exact ih (by rw[nM];omega) w2 w2' i1 M hq
   ·cases i1;cases M;have z1:d[j]=Ug (π a):=w2;have z2:its'[j]=Ug (π a):=w2';rw[z1,z2];exact EqAt.same _
  exact key v2 v2' ((xI e).2 j _ _ hx hy)
 constructor
 ·intro l b' K E e1 e2 t1 t2 j h1 Z;subst e1;subst e2;cases a1 with
  |tup p vs d e q i r t=>
   cases e;cases a2 with
   |tup p2 Y G m q2 M r2 T=>
    cases m;have z1:K=d.toArray:=by obtain⟨o,N,g2,n1,Q⟩:=t1;obtain⟨o',z,O,R,B⟩:=t;rw[N]at z;cases z;rw[Q]at B;injection B
    have z2:E=G.toArray:=by obtain⟨o,N,g2,n1,Q⟩:=t2;obtain⟨o',z,O,R,B⟩:=T;rw[N]at z;cases z;rw[Q]at B;injection B
    subst z1;subst z2;have:=L r r2 i M h j (by simpa using h1) (by simpa using Z);simpa[nJ]using this
   |lst p2 Y G m q2 M r2 T=>cases m;exact absurd rfl (Wl T t2)|non m=>cases m|bl _ m=>cases m|int _ _ m=>cases m|str _ _ m=>cases m
  |lst p vs d e q i r t=>cases e;exact absurd rfl (Wl t t1)|non e=>cases e|bl _ e=>cases e|int _ _ e=>cases e|str _ _ e=>cases e
 ·intro l b' K E e1 e2 t1 t2 j h1 Z;subst e1;subst e2;cases a1 with
  |lst p vs d e q i r t=>
   cases e;cases a2 with
   |lst p2 Y G m q2 M r2 T=>
    cases m;have z1:K=d.toArray:=by obtain⟨o,N,g2,n1,Q⟩:=t1;obtain⟨o',z,O,R,B⟩:=t;rw[N]at z;cases z;rw[Q]at B;injection B
    have z2:E=G.toArray:=by obtain⟨o,N,g2,n1,Q⟩:=t2;obtain⟨o',z,O,R,B⟩:=T;rw[N]at z;cases z;rw[Q]at B;injection B
    subst z1;subst z2;have:=L r r2 i M h j (by simpa using h1) (by simpa using Z);simpa[nJ]using this
   |tup p2 Y G m q2 M r2 T=>cases m;exact absurd rfl (Wl t2 T)|non m=>cases m|bl _ m=>cases m|int _ _ m=>cases m|str _ _ m=>cases m
  |tup p vs d e q i r t=>cases e;exact absurd rfl (Wl t1 t)|non e=>cases e|bl _ e=>cases e|int _ _ e=>cases e|str _ _ e=>cases e
theorem CD(I:Inv X a4z σ H s)(R:Rp X.K π H μ):∀(n:Nat){A:UD}{v c:V}{u a:Value}{x y:D}{b:Bool},A.units+n<Wi->RelV v u->RelV c a->IsD X.K π μ.length H v x->IsD X.K π μ.length H c y->cV n μ x y=b6 b->EqAt A s u a b:=by
 intro n;induction n with
 |zero=>intro A v c u a x y b _ _ _ _ _ h;cases h|succ n L=>
  intro A v c u a x y b K r o j m h;have w:=h;obtain⟨k,B,h⟩:=TZ.mp h;obtain⟨N,E,h⟩:=TZ.mp h;have d:=nK I R j r B;have e:=nK I R m o E;by_cases i:u=a
  ·subst i;have:v=c:=r.inj o;subst this;have:=KZ I R (n+1) r j m w;subst this;exact EqAt.same _
  ·have G:=CC I L K d e h;rw[CB h];exact KY d.isK e.isK (by omega) G λl M p q z=>i (by rw[p,q,z])
theorem CF(I:Inv X a4z σ H s)(R:Rp X.K π H μ)(n:Nat){A:UD}{v i:V}{u d:Value}{x y:D}{b:Bool}(m:A.units+n<Wi)(r:RelV v u)(q:RelV i d)(o:IsD X.K π μ.length H v x)(p:IsD X.K π μ.length H i y)(h:cV n μ x y=b6 b) :
  RcAt A s u d b/\RcNeAt A s u d (!b):=by
 cases n with
 |zero=>cases h|succ n=>obtain⟨k,j,h⟩:=TZ.mp h;obtain⟨w,l,h⟩:=TZ.mp h;have a:=nK I R o r j;have c:=nK I R p q l;have e:=CC I (A:=A) (CD I R n) m a c h;rw[CB h];exact⟨xG a.isK c.isK (by omega) e,KW a.isK c.isK (by omega) e⟩
end
end L3
namespace L3
open PySem L2
open SeqAt (EqAt RcAt RcNeAt)
section
variable{K:T3}
noncomputable def jG(g:Int->Int->Option Int):D->D->Hm->Option (D×Hm)
 |.int i,.int j,μ=>(g i j).map λz=>(.int z,μ)|_,_,_=>b8
theorem CG{g:Int->Int->Option Int}{x y d:D}{μ a:Hm}(h:jG g x y μ=b6 (d,a)):∃i j z,x=.int i/\y=.int j/\g i j=b6 z/\d=.int z/\a=μ:=by
 unfold jG at h;split at h
 ·rename_i i j;obtain⟨z,b,c⟩:=T7.mp h;cases c;exact⟨i,j,z,rfl,rfl,b,rfl,rfl⟩
 ·cases h
theorem sT{a:Int->Int->Prop}{g:Int->Int->Option Int}{g':Int->Int->Int}(e:∀i j z,g i j=b6 z->a i j/\z=g' i j):cT K (jG g) (rI a λi j=>.int (g' i j)):=by intro o H r x y d n p q Q R l m h k;obtain⟨i,j,z,rfl,rfl,b,rfl,rfl⟩:=CG h;cases l;cases m;obtain⟨c,rfl⟩:=e i j z b;exact⟨i,j,rfl,rfl,c,k o _ H .refl R (.int _)⟩
theorem K0{g':Int->Int->Int}:cT K (jG λi j=>b6 (g' i j)) (fN λi j=>.int (g' i j)):=by intro l H o x y d h m n Q R c e b k;obtain⟨i,j,z,rfl,rfl,a,rfl,rfl⟩:=CG b;cases c;cases e;cases a;exact⟨i,j,rfl,rfl,k l _ H .refl R (.int _)⟩
noncomputable def l6:=jG λi j=>b6 (i-j)
noncomputable def CH:=jG λi j=>if((-(2^64)<i/\i<2^64)\/(-(2^64)<j/\j<2^64))\/(i.natAbs<2^4000/\j.natAbs<2^4000)\/UY i+UY j<=134217728 then b6 (i*j)else b8
noncomputable def c9:D->D->Hm->Option (D×Hm)
 |x,y,μ=>CH x y μ
noncomputable def cG:=jG λi j=>if 0<j/\j<2^4000 then b6 (i/j)else b8
noncomputable def bB:=jG λi j=>if 0<j then b6 (i%j)else b8
noncomputable def l7:=jG λi j=>if(0<=j/\j<=1000000/\i.natAbs<2^64)\/(0<=j/\j<=100/\i.natAbs<2^4000)then b6 (i^j.toNat)else b8
noncomputable def CMulB(i j:Int):Prop:=CMul i j\/(i.natAbs<2^4000/\j.natAbs<2^4000)\/UY i+UY j<=134217728
noncomputable def CI(i j:Int):Prop:=0<j/\j<2^4000
noncomputable def CJ(i j:Int):Prop:=IE i j\/(0<=j/\j<=100/\i.natAbs<2^4000)
theorem xJ{i:Int}(h:i.natAbs<2^4000):UY i<=4000:=by
 unfold UY;split
 ·exact WA _
 ·rename_i b;have a:i.natAbs≠0:=by intro z;exact b (by simpa using z)
  have:=(a4i a).mpr h;omega
theorem CMulB.ok{i j:Int}(h:CMulB i j):a2Q i j:=by
 rcases h with h|⟨b,c⟩|h
 ·exact h.ok
 rotate_left
 ·have a:XG (UY i+UY j)=false:=by
   unfold XG;rw[decide_eq_false];have:bitsLine=134217728:=by decide
   omega
  unfold a2Q;rw[a];simp
 ·have d:=xJ b;have e:=xJ c;have a:XG (UY i+UY j)=false:=by
   unfold XG;rw[decide_eq_false];have:(8000:Int)<=bitsLine:=by decide
   omega
  unfold a2Q;rw[a];simp
section
variable{X:Cx}
theorem K1:OpR X (XA .Mult) (rI CMulB λi j=>.int (i*j)):=sG λ_ _ _ _ _ _ _ hc q=>a3Z q hc.ok
theorem K2:OpR X (XA .FloorDiv) (rI CI λi j=>.int (i/j)):=sG λi j _ _ _ _ _ hc q=>by
 have c:(0:Int)<j:=hc.1;have d:j<2^4000:=hc.2;have a:j.natAbs≠0:=by omega
 have b:j.natAbs<2^4000:=by
  have:((2^4000:Nat):Int)=2^4000:=by decide
  omega
 have e:=(a4i a).mpr b;exact a4c (by omega) (by rw[Int.fdiv_eq_ediv_of_nonneg i (by omega)];exact q) (.inl (PyProof.noPylong_of_log2 (by omega)))
theorem K3:OpR X (XA .Pow) (rI CJ λi j=>.int (i^j.toNat)):=sG λi j _ _ _ _ _ hc q=>by
 rcases hc with hc|⟨a,c,d⟩
 ·exact a3X hc.1 hc.2.1 hc.2.2 q
 ·have b:=xJ d;refine a3Y a ?_ q;have:(UY i:Int)*j<=4000*100:=Int.mul_le_mul (by omega) c a (by omega);omega
end
theorem sU{c:Prop} [Decidable c] {a z:Int}(h:(if c then b6 a else b8)=b6 z):c/\z=a:=by
 split at h
 ·cases h;exact⟨by assumption,rfl⟩
 ·cases h
theorem K4:cT K l6 (fN λi j=>.int (i-j)):=K0
theorem K5:cT K CH (rI CMulB λi j=>.int (i*j)):=sT λi j z h=>by have:=sU h;exact this
theorem K6:cT K c9 (rI CMulB λi j=>.int (i*j)):=K5
theorem K7:cT K cG (rI CI λi j=>.int (i/j)):=sT λi j z h=>by have:=sU h;exact this
theorem K8:cT K bB (rI (λ_ j=>0<j) λi j=>.int (i%j)):=sT λ_ _ _ h=>sU h
theorem K9:cT K l7 (rI CJ λi j=>.int (i^j.toNat)):=sT λi j z h=>by have:=sU h;exact this
noncomputable def xK:D->Option D
 |.int i=>b6 (.int (-i))|_=>b8
noncomputable def bM:D->D->Hm->Option (D×Hm)
 |.int i,.int j,μ=>b6 (.int (i+j),μ)|.str x,.str y,μ=>if x.length+y.length<=Uo then b6 (.str (x++y),μ)else b8|.loc a,.loc b,μ=>match μ[a]?,μ[b]? with
  |some (.lst xs),b6 (.lst ys)=>if xs.length+ys.length<=Uo then b6 (.loc μ.length,μ++[.lst (xs++ys)])else b8|_,_=>b8
 |_,_,_=>b8
noncomputable def xM(K:T3):R2:=λx y H Q=>fN (λi j=>.int (i+j)) x y H Q\/(∃i j,x=.str i/\y=.str j/\i.length+j.length<=Uo/\Q (.str (i++j)) H)\/Cb x y H Q
theorem La{X:Cx}:OpR X (XA .Add) (xM X.K):=op_add.or (op_add_str.or JS)
noncomputable abbrev xO(K:T3):R2:=xM K
theorem Lb{X:Cx}:OpR X (XA .Add) (xO X.K):=La
theorem xP{K:T3}{x y:V}{H:Hp}{Q:VK}(h:xM K x y H Q):xO K x y H Q:=h
theorem Lc:cT K bM (xO K):=by
 intro r H G x y d A B E Q R c e a k;unfold bM at a;split at a
 ·cases a;cases c;cases e;exact xP (.inl ⟨_,_,rfl,rfl,k r _ H .refl R (.int _)⟩)
 ·split at a
  ·rename_i b;cases a;cases c;cases e;exact xP (.inr (.inl ⟨_,_,rfl,rfl,b,k r _ H .refl R (.str _)⟩))
  ·cases a
 ·split at a
  ·rename_i n o v w;split at a
   ·rename_i b;cases a;cases c;cases e;obtain⟨l,h,i⟩:=R.lst _ n v;obtain⟨m,u,j⟩:=R.lst _ o w;refine xP (.inr (.inr ⟨_,_,l,m,rfl,rfl,by first|exact h|exact .inl (.inl h),u,by rw[i.length,j.length];exact b,λp z=>?_⟩));obtain⟨s,R2,q⟩:=R.alloc (c:=.lst (n++o)) (o:=.lst (l++m)) z (i.append j);exact k _ _ _ s R2 lZ
   ·cases a
  ·cases a
 ·cases a
noncomputable def fD(p:Int->Int->Bool):D->D->Hm->Option (D×Hm)
 |.int i,.int j,μ=>b6 (.bl (p i j),μ)|_,_,_=>b8
theorem gJ{p:Int->Int->Bool}:cT K (fD p) (fN λi j=>.bl (p i j)):=by
 intro h H n x y d e l m Q R b c a k;unfold fD at a;split at a
 ·cases a;cases b;cases c;exact⟨_,_,rfl,rfl,k h _ H .refl R (.bl _)⟩
 ·cases a
noncomputable def fE:=fD λi j=>decide (i<j)
noncomputable def nN:=fD λi j=>decide (i<=j)
noncomputable def xQ:=fD λi j=>decide (j<i)
noncomputable def xR:=fD λi j=>decide (j<=i)
noncomputable def xS(K:T3)(ne:Bool):R2:=λx y H Q=>∃π μ a c b,Rp K π H μ/\IsD K π μ.length H x a/\IsD K π μ.length H y c/\cV 8 μ a c=b6 b/\Q (.bl (if ne then !b else b)) H
theorem CK{X:Cx}(c:X.A.units+8<Wi):OpR X (VN .Eq) (xS X.K b9):=by intro a s r H x y v u Q I j l h;obtain⟨p,o,m,n,b,R,d,i,e,q⟩:=h;exact(CF I R 8 c j l d i e).1 _ _ _ _ ⟨.bl b,H,I,rfl,q⟩
theorem CL{X:Cx}(c:X.A.units+8<Wi):OpR X (VN .NotEq) (xS X.K c4):=by intro a s r H x y v u Q I j l h;obtain⟨p,o,m,n,b,R,d,i,e,q⟩:=h;exact(CF I R 8 c j l d i e).2 _ _ _ _ ⟨.bl (!b),H,I,rfl,q⟩
noncomputable def a8(ne:Bool):D->D->Hm->Option (D×Hm):=λx y μ=>(cV 8 μ x y).map λb=>(.bl (if ne then !b else b),μ)
theorem sV{ne:Bool}:cT K (a8 ne) (xS K ne):=by intro a H l x y d m n o Q R i j h k;obtain⟨b,c,e⟩:=T7.mp h;cases e;exact⟨a,l,x,y,b,R,i,j,c,k a _ H .refl R (.bl _)⟩
noncomputable def xT:D->D->Hm->Option (D×Hm)
 |.str i,.str j,μ=>b6 (.bl (!(VF j i 0 j.length 1).isEmpty),μ)|_,_,_=>b8
theorem CM:cT K xT (λx y H Q=>∃i j,x=.str i/\y=.str j/\Q (.bl (!(VF j i 0 j.length 1).isEmpty)) H):=by
 intro h H n x y d e l m Q R b c a k;unfold xT at a;split at a
 ·cases a;cases b;cases c;exact⟨_,_,rfl,rfl,k h _ H .refl R (.bl _)⟩
 ·cases a
end
section
variable{X:Cx}{a b c:Expr}{ma mb mc:ME}{pos:VW}
theorem sW{k:Nat}{A:UD}(r:Room k A):A.units+8<Wi:=by have:=r.un;omega
theorem Ld(s:PE X a (tM X.K ma)):PE X (.UnaryOp .USub a pos) (tM X.K (λj μ=>(ma j μ).bind λp=>(xK p.1).map λd=>(d,p.2))):=cS (ID IH s) (by
 rintro B H Q ⟨z,j,μ,d,v,R,E,e,k⟩;obtain⟨⟨x,w⟩,q,e⟩:=TZ.mp e;obtain⟨y,l,r⟩:=T7.mp e;cases r;cases x with
 |int i=>cases l;refine⟨z,j,μ,_,_,R,E,q,λh A m o n u=>?_⟩;cases u;exact⟨_,rfl,k h _ m o n (.int _)⟩
 |_=>cases l)
theorem Le{x:Str}{n:String}(d:Gl X x)(e:X.mg x=b8)(i:V9 x=b6 (.type n))(h:x ≠ "__name__":=by decide) (hd:(x==("__debug__":Str))=false:=by decide):PE X (.Name x pos) (tM X.K (mC (.ty n))):=
 nG (Hx (v:=.ty n) d e i rfl h hd) λ_ _ _=>.ty n
end
noncomputable def jH(μ:Hm):D->Option String
 |.non=>b6 "NoneType"|.bl _=>b6 "bool"|.int _=>b6 "int"|.str _=>b6 "str"|.tup _=>b6 "tuple"|.rol _=>b6 "list"|.loc a=>match μ[a]? with
  |some (.lst _)=>b6 "list"|some (.dK _)=>b6 "dict"|some (.dT _)=>b6 "dict"|_=>b8
 |.ty _=>b8
noncomputable def qD(t c:String):Option Bool:=match c with
 | "int"=>b6 (t=="int" || t=="bool")| "bool"=>b6 (t=="bool")| "str"=>b6 (t=="str")| "list"=>b6 (t=="list")| "tuple"=>b6 (t=="tuple")| "dict"=>b6 (t=="dict")|_=>b8
noncomputable def bX:MF:=λds μ=>match ds with
 |[x,.ty c]=>(jH μ x).bind λt=>(qD t c).map λb=>(.bl b,μ)|_=>b8
theorem jI (K:T3){t c:String}{b:Bool}(d:t = "NoneType"\/t = "bool"\/t = "int"\/t = "str"\/t = "tuple"\/t = "list"\/t = "dict") (h:qD t c=b6 b):Yl K (.type t) (.type c)=b6 b:=by
 unfold qD at h
 split at h<;>first
  | cases h;done
  | (have a:=Ux h;subst a
     rcases d with rfl|rfl|rfl|rfl|rfl|rfl|rfl<;>first|rfl|decide +kernel|(unfold Yl;simp;rfl))
end L3
namespace L3
open PySem L2
noncomputable abbrev MG:=D->aF->Hm->Option aF
inductive tMG (K:T3)(g:MG)(v:V)(σ:St)(H:Hp)(Q:St->Hp->Prop):Prop
 |mk (π:Nat->Addr)(ρ:aF)(μ:Hm)(d:D)(ρ':aF)(R:Rp K π H μ)(E:En K π μ.length H σ ρ)(i:IsD K π μ.length H v d)(hm:g d ρ μ=b6 ρ')(k:∀σ',En K π μ.length H σ' ρ'->Q σ' H):tMG K g v σ H Q
noncomputable def dE(i:Nat):MG:=λd a _=>b6 (a.set i (b6 d))
section
variable{X:Cx}{pos:VW}
theorem CN{i:Nat}{x:Str}(b:X.N.Nodup)(e:X.N[i]?=b6 x)(l:Loc X.env.scope x)(c:X.fn x=c4\/X.env.scope.names.lookup x=b6 .local:=by first|exact .inl rfl|exact .inr rfl|assumption):PG X (.Name x pos) (tMG X.K (dE i)):=by intro a s n H v u Q I r h;obtain⟨p,q,o,d,m,R,E,hd,j,k⟩:=h;cases j;exact Bv b e l c a s n H v u Q I r (k _ (E.set hd i))
noncomputable def Lf(K:T3)(c:TE):TI:=λσ H R=>c σ H λx b=>∃a,x=.ref a/\(((∃xs,SqL K b a xs)/\R (wH K a) b)\/((∃xs,SqT K b a xs)/\R (wI K a) b))
theorem Lg{l tg:Expr}{u:TE}(w:PE X l u):PI X tg l (Lf X.K u):=by
 intro j s G H R I h;refine aM (w j s G H _ I h) λv c ⟨x,r,d,A,z⟩=>?_;obtain⟨a,e,q⟩:=z;subst e;cases A;rcases q with⟨⟨E,n⟩,q⟩|⟨⟨E,n⟩,q⟩
 ·obtain⟨i,B,p,y⟩:=d.list n;refine a0c p.isList ?_;refine⟨c.heap.objs.size,[c.heap.objs.size],_,_,r,rfl,d.kept (t':=c.toks) λb o e=>Ua _ e,Im a _,⟨_,UC _ rfl,rfl,rfl⟩,λb m=>?_,q⟩;have e:b=c.heap.objs.size:=by simpa using m
  subst e;exact d.fpOk (Up _) (d.hok.fresh (Up _))
 ·obtain⟨i,B,p,y⟩:=d.tuple n;refine a2U (show c.heap.IsTuple a i.toArray from p) ?_;refine⟨c.heap.objs.size,[c.heap.objs.size],_,_,r,rfl,d.kept (t':=c.toks) λb o e=>Ua _ e,Io a _,⟨_,UC _ rfl,rfl,rfl⟩,λb m=>?_,q⟩;have e:b=c.heap.objs.size:=by simpa using m
  subst e;exact d.fpOk (Up _) (d.hok.fresh (Up _))
end
structure Wk(K:T3)(J:It)(src:Hm->Nat->Option (Option D))(π:Nat->Addr)(n:Nat)(H:Hp):Prop where
 stop:∀π' μ H' i,Ext π n H π' μ.length H'->Rp K π' H' μ->src μ i=b6 b8->J.stop i H'
 go:∀π' μ H' i d,Ext π n H π' μ.length H'->Rp K π' H' μ->src μ i=b6 (b6 d)->J.go i H'/\∀x H2,J.yld i H' x H2->Ext π' μ.length H' π' μ.length H2/\Rp K π' H2 μ/\IsD K π' μ.length H2 x d
noncomputable def jJ(x:D):Hm->Nat->Option (Option D):=λμ i=>(bJ μ x).map λxs=>xs[i]?
theorem Lh{K:T3}{π:Nat->Addr}{μ:Hm}{H:Hp}{v:V}{x:D}{xs:List D}(R:Rp K π H μ)(h:IsD K π μ.length H v x)(E:bJ μ x=b6 xs) :
  ∃a,v=.ref a/\(((∃b,SqL K H a b)/\Wk K (wH K a) (jJ x) π μ.length H)\/((∃b,SqT K H a b)/\Wk K (wI K a) (jJ x) π μ.length H)):=by
 cases h with
 |@tup p b ds q t=>
  refine⟨p,rfl,.inr ⟨⟨b,q⟩,⟨λm l s i e n z=>?_,λm l s i d e n z=>?_⟩⟩⟩
  ·simp only[jJ,bJ,UQ]at z;have j:ds[i]?=none:=Ux z;exact⟨b,e.sqT q,by rw[t.length];exact WW.mp j⟩
  ·simp only[jJ,bJ,UQ]at z;have j:ds[i]?=b6 d:=Ux z;obtain⟨w,c,o⟩:=t.get j;refine⟨⟨b,w,e.sqT q,c⟩,λy L ⟨u,A⟩=>?_⟩;subst u;have:=A b (e.sqT q);rw[c]at this;cases this;exact⟨.refl,n,o.mono e⟩
 |@rol p b ds q t=>
  refine⟨p,rfl,.inl ⟨⟨b,q.sq⟩,⟨λm l s i e n z=>?_,λm l s i d e n z=>?_⟩⟩⟩
  ·simp only[jJ,bJ,UQ]at z;have j:ds[i]?=none:=Ux z;exact⟨b,(e.roL q).sq,by rw[t.length];exact WW.mp j⟩
  ·simp only[jJ,bJ,UQ]at z;have j:ds[i]?=b6 d:=Ux z;obtain⟨w,c,o⟩:=t.get j;refine⟨⟨b,w,(e.roL q).sq,c⟩,λy L ⟨u,A⟩=>?_⟩;subst u;have:=A b (e.roL q).sq;rw[c]at this;cases this;exact⟨.refl,n,o.mono e⟩
 |@loc a N=>
  have hc:∃b,H (π a)=b6 (.lst b):=by
   simp only[bJ]at E;split at E
   ·rename_i r B;obtain⟨b,c,_⟩:=R.lst a r B;exact⟨b,c⟩
   ·cases E
  obtain⟨I,G⟩:=hc;refine⟨π a,rfl,.inl ⟨⟨I,.of G⟩,⟨λm l s i e n z=>?_,λm l s i d e n z=>?_⟩⟩⟩
  ·simp only[jJ,bJ]at z;split at z
   ·rename_i r B;obtain⟨b,c,o⟩:=n.lst a r B;rw[e.pi a N]at c;have j:r[i]?=none:=Ux z;exact⟨b,.of c,by rw[o.length];exact WW.mp j⟩
   ·cases z
  ·simp only[jJ,bJ]at z;split at z
   ·rename_i r B;obtain⟨b,c,o⟩:=n.lst a r B;rw[e.pi a N]at c;have j:r[i]?=b6 d:=Ux z;obtain⟨w,M,O⟩:=o.get j;refine⟨⟨b,w,.of c,M⟩,λy L ⟨u,A⟩=>?_⟩;subst u;have:=A b (.of c);rw[M]at this;cases this;exact⟨.refl,n,O⟩
   ·cases z
 |_=>cases E
noncomputable def fS(a:Hm->Nat->Option (Option D))(g:MG)(b:MS):Nat->Nat->MS
 |0,_,_,_=>b8|n+1,i,ρ,μ=>(a μ i).bind λo=>match o with
  |none=>b6 (.nx,ρ,μ)|some d=>(g d ρ μ).bind λc=>(b c μ).bind λp=>match p.1 with
   |.nx=>fS a g b n (i+1) p.2.1 p.2.2|.ct=>fS a g b n (i+1) p.2.1 p.2.2|.bk=>b6 (.nx,p.2.1,p.2.2)|.rt d=>b6 (.rt d,p.2.1,p.2.2)
theorem Li{K:T3}{J:It}{B:Hm->Nat->Option (Option D)}{g:MG}{b:MS}{π:Nat->Addr}{Q:Nat}{O:Hp}(W:Wk K J B π Q O){E:Ends}{A:Fl}{p:aF}{j:Hm}(hE:nF K E π Q O A p j)
  {G:Nat->Addr}{u:Hm}{H1:Hp}{T:aF}{σ1:St}{n:Nat}(e1:Ext π Q O G u.length H1)(R1:Rp K G H1 u)(E1:En K G u.length H1 σ1 T)(h:fS B g b n 0 T u=b6 (A,p,j)) :
  ∃Wd:Nat->Nat->St->Hp->Prop,(∃m,Wd 0 m σ1 H1)/\∀i m X H,Wd i m X H->
   (J.stop i H/\E.nx X H)\/(J.go i H/\∃N:St->Hp->Prop,(∀w s,N w s->∃m',m'<m/\Wd (i+1) m' w s)/\∀x s,J.yld i H x s->tMG K g x X s λσ2 H2=>tMS K b {E with nx:=N,ct:=N,bk:=E.nx} σ2 H2):=by
 have lift:∀{a:Nat->Addr}{n2:Nat}{H2:Hp}(e:Ext π Q O a n2 H2){A:Fl}{p:aF}{j:Hm},nF K E π Q O A p j->nF K E a n2 H2 A p j:=λ{a n2 H2} e {A p j} k=>by
  cases A with
  |nx=>exact λv r H3 e3 R3 M=>k v r H3 (e.trans e3) R3 M|bk=>exact λv r H3 e3 R3 M=>k v r H3 (e.trans e3) R3 M|ct=>exact λv r H3 e3 R3 M=>k v r H3 (e.trans e3) R3 M|rt d=>exact KC.after k e
 refine⟨λi m X H=>∃a l I,Ext π Q O a l.length H/\Rp K a H l/\En K a l.length H X I/\fS B g b m i I l=b6 (A,p,j),⟨n,G,u,T,e1,R1,E1,h⟩,?_⟩;rintro i m X H ⟨a,l,I,z,R2,E2,h2⟩;cases m with
 |zero=>cases h2|succ m=>
  obtain⟨o,h3,h4⟩:=TZ.mp h2;cases o with
  |none=>cases h4;exact .inl ⟨W.stop a _ H i z R2 h3,hE a X H z R2 E2⟩|some d=>
   obtain⟨g1,g2⟩:=W.go a l H i d z R2 h3;obtain⟨ρ3,h5,h6⟩:=TZ.mp h4;obtain⟨⟨f4,U,R⟩,h7,h8⟩:=TZ.mp h6;refine .inr ⟨g1,λw s=>∃c L q,Ext π Q O c q.length s/\Rp K c s q/\En K c q.length s w L/\fS B g b m (i+1) L q=b6 (A,p,j),
    λw s ⟨c,L,q,a1,a2,a3,a4⟩=>⟨m,W8 _,c,q,L,a1,a2,a3,a4⟩,λx s y=>?_⟩
   obtain⟨ex,Rx,hx⟩:=g2 x s y;have z:=z.trans ex;refine⟨a,I,l,d,ρ3,Rx,E2.mono ex,hx,h5,λr M=>⟨a,ρ3,l,f4,U,R,Rx,M,h7,?_⟩⟩;cases f4 with
   |nx=>exact λc Y H5 e5 R5 Z=>⟨c,U,R,z.trans e5,R5,Z,h8⟩|ct=>exact λc Y H5 e5 R5 Z=>⟨c,U,R,z.trans e5,R5,Z,h8⟩|bk=>cases h8;exact λc Y H5 e5 R5 Z=>hE c Y H5 (z.trans e5) R5 Z|rt d'=>cases h8;exact KC.after hE z
section
variable{X:Cx}{pos:VW}{tg iter:Expr}{body:List Stmt}{mi:ME}{g:MG}{mb:MS}
noncomputable def hZ(lo:Int)(n:Nat):Hm->Nat->Option (Option D):=λ_ i=>b6 (if i<n then b6 (.int (lo+i))else b8)
theorem CO{K:T3}{lo:Int}{k:Nat}{π:Nat->Addr}{n:Nat}{H:Hp}:Wk K (jD lo k) (hZ lo k) π n H:=by
 refine⟨λb m c i e R z=>?_,λb m c i d e R z=>?_⟩
 ·have a:=Ux z;split at a
  ·cases a
  ·exact YC.mp (by assumption)
 ·have a:=Ux z;split at a
  ·cases a;rename_i h;exact⟨h,λx o ⟨j,l⟩=>by subst j;rw[l];exact⟨.refl,R,.int _⟩⟩
  ·cases a
end
end L3
namespace L3
open PySem L2
noncomputable def nO(y:Str):Str:="#"++y
noncomputable def bE(xs N:List Str):List Str:=N.map λy=>if xs.contains y then nO y else y
theorem l8(xs N:List Str):(bE xs N).length=N.length:=by unfold bE;simp
theorem Lj{xs N:List Str}{i:Nat}{y:Str}(h:(bE xs N)[i]?=b6 y):∃a,N[i]?=b6 a/\((xs.contains a=c4/\y=nO a)\/(xs.contains a=b9/\y=a)):=by
 unfold bE at h;rw[UU]at h;obtain⟨a,c,b⟩:=T7.mp h;refine⟨a,c,?_⟩;cases hc:xs.contains a with
 |true=>rw[hc]at b;exact .inl ⟨rfl,by simpa using b.symm⟩|false=>rw[hc]at b;exact .inr ⟨rfl,by simpa using b.symm⟩
noncomputable def cE(X:Cx)(scope:WB)(a:List (Str×Addr))(C:Addr)(N:List Str)(s₀:T6)(H₀:Hp)(b:List Addr):Cx:=
 {X with N:=N,s₀:=s₀,H₀:=H₀,env:=X8 scope a C X.env,outer:=X.stack,stack:=X.stack,ex:=b,fn:=λ_=>b9,pn:=[],xe:=λ_ _=>False}
theorem CP{env:YD}:∀(names:List (Str×W3))(x:Str),(names.map λ(n,k)=>if(k==WG&&env.scope.kind==.function&&env.kindOf n==b6 .cell)then(n,WV)else(n,k)).lookup x
  = (names.lookup x).map λk=>if(k==WG&&env.scope.kind==.function&&env.kindOf x==b6 .cell)then WV else k
 |[],_=>rfl|(n,k)::r,x=>by
  have d:=CP (env:=env) r x;rw[Uv];by_cases c:x=n
  ·subst c;have a:∀(k':W3)(l:List (Str×W3)),XI x ((x,k')::l)=b6 k':=λk' l=>by simp[X2]
   rw[a];show XI x ((if(k==WG&&env.scope.kind==.function&&env.kindOf x==b6 .cell)=c4 then(x,WV)else(x,k))::_)=b6 (if(k==WG&&env.scope.kind==.function&&env.kindOf x==b6 .cell)=c4 then WV else k);split
   ·rw[a]
   ·rw[a]
  ·have b:(x==n)=false:=by simpa using c
   have a:∀(k':W3)(l:List (Str×W3)),XI x ((n,k')::l)=XI x l:=λk' l=>by simp only[X2,b]
   rw[a];show XI x ((if(k==WG&&env.scope.kind==.function&&env.kindOf n==b6 .cell)=c4 then(n,WV)else(n,k))::_)=_;split
   ·rw[a];exact d
   ·rw[a];exact d
structure CompOk(X:Cx)(scope:WB)(cl:List (Str×Addr))(xs:List Str):Prop where
 clos:a2Z scope X.env=pure cl
 nocell:∀y∈scope.names,y.2≠.cell
 kind:scope.kind=.function
 names:∀y∈scope.names,y.2=.local->scope.names.lookup y.1=b6 .local
 here:∀x∈xs,scope.names.lookup x=b6 .local
 sub:∀y c,cl.lookup y=b6 c->X.env.cells.lookup y=b6 c
 free:∀y,scope.names.lookup y=b6 .free->(X.env.kindOf y=b6 .cell\/X.env.kindOf y=b6 .free)/\∃c,cl.lookup y=b6 c
 own:∀y,scope.names.lookup y=b6 .local->y∉bE xs X.N
 hidn:∀y∈X.N,xs.contains y=c4->scope.names.lookup (nO y)=b8
section
variable{X:Cx}{scope:WB}{cl:List (Str×Addr)}{xs:List Str}
theorem CompOk.kindOf(O:CompOk X scope cl xs)(C:Addr)(y:Str):(X8 scope cl C X.env).kindOf y=(scope.names.lookup y).map λk=>if(k==WG&&X.env.scope.kind==.function&&X.env.kindOf y==b6 .cell)then WV else k:=
 CP scope.names y
theorem CompOk.outer(O:CompOk X scope cl xs){C:Addr}{y:Str}(h:(X8 scope cl C X.env).kindOf y=b6 .cell\/(X8 scope cl C X.env).kindOf y=b6 .free):scope.names.lookup y=b6 .free:=by
 rw[O.kindOf]at h;cases q:scope.names.lookup y with
 |none=>rw[q]at h;rcases h with h|h<;>cases h
 |some k=>
  rw[q]at h;cases k with
  |free=>rfl|cell=>exact absurd rfl (O.nocell _ (VH q))| «local»=>rcases h with h|h<;>simp at h
  |globalExplicit=>rcases h with h|h<;>simp at h
  |globalImplicit=>rcases h with h|h<;>simp at h
theorem CompOk.inv{a4z:List (Addr×Obj)}{σ:St}{H:Hp}{s:T6}{Z:List Addr}{d:Vb}{tk:Nat}(O:CompOk X scope cl xs)(I:Inv X a4z σ H s)(E:∀b∈Z,gY X a4z H b)(hob:∀b∈Z,∃o,s.heap.get? b=b6 o){m:Str->Option Value}
  (hns:d.Ns s.heap.objs.size m)(Q:∀b o,s.heap.get? b=b6 o->d.get? b=b6 o) :
  Inv (cE X scope cl s.heap.objs.size (bE xs X.N++xs) s H Z) [] (σ++Wq xs.length b8) H {s with heap:=d,toks:=tk}:=by
 refine⟨⟨I.ok.mod,O.kind,I.ok.glob,I.ok.blt,Up _,λy z c h1 B=>?_,λy hy=>?_,(λy c h=>by cases h),I.ok.hd,I.ok.frames,.inl rfl,λb K=>?_,λb o e=>I.bs b o e,VD I.ok.bsz I.sz,λb o e K=>?_,λb K hb2=>?_,I.stack,I.stkFree⟩,
  rfl,I.bare,Un.kept Q,⟨m,hns,λi y v h1 B x=>?_⟩,λy c h=>?_,I.hok.fresh (Up _),λy c h=>I.freeC y c (O.sub y c h),λp hp=>absurd (show p∈([]:List (Addr×Obj))from hp) (by simp),I.hok.kept Q,?_⟩
 ·exact I.ok.inj y z c (O.sub y c h1) (O.sub z c B)
 ·exact(O.free y (O.outer hy)).2
 ·obtain⟨f0,T,U,A,Y,f5⟩:=E b K;obtain⟨o,N⟩:=hob b K;exact⟨UB (Uh N),λy c h=>Y y c (O.sub y c h)⟩
 ·obtain⟨f0,T,U,A,Y,f5⟩:=E b K;rcases A with A|A
  ·exact I.ok.noex b o e A
  ·exact absurd (UM (Uh (I.ok.bs b o e).1) A) (Xd _)
 ·obtain⟨f0,T,U,A,Y,f5⟩:=E b K;rcases UX.mp (I.stkSub b hb2)with z|z
  ·exact T z
  ·exact U z
 ·have M:i<σ.length:=by
   by_cases M:i<σ.length
   ·exact M
   ·rw[Uz (YC.mp M),W5]at B;split at B<;>cases B
  rw[Ul M]at B;have L:(bE xs X.N)[i]?=b6 y:=by have w:(bE xs X.N++xs)[i]?=b6 y:=h1;rw[Ul (by rw[l8,<- I.len];exact M)]at w;exact w
  have n:scope.names.lookup y≠b6 .local:=λz=>O.own y z (UL L);have G:=O.kindOf s.heap.objs.size y;have h1':X.N[i]?=b6 y:=by
   obtain⟨y0,q1,R⟩:=Lj L;rcases R with⟨R,q3⟩|⟨R,q3⟩
   ·exfalso;have hz:=O.hidn y0 (UL q1) R;rw[<- q3]at hz;rw[hz]at G;have a:(X8 scope cl s.heap.objs.size X.env).kindOf y=b6 .local\/(X8 scope cl s.heap.objs.size X.env).kindOf y=b6 .cell\/(X8 scope cl s.heap.objs.size X.env).kindOf y=b6 .free:=x;rw[G]at a;rcases a with a|a|a<;>cases a
   ·rw[q3];exact q1
  have a:(X8 scope cl s.heap.objs.size X.env).kindOf y=b6 .cell\/(X8 scope cl s.heap.objs.size X.env).kindOf y=b6 .free:=by
   rcases x with x|x|x
   ·exfalso;have a:(X8 scope cl s.heap.objs.size X.env).kindOf y=b6 .local:=x;rw[G]at a;cases q:scope.names.lookup y with
    |none=>rw[q]at a;cases a|some k=>
     rw[q]at a;cases k with
     | «local»=>exact n q|cell=>simp at a|free=>simp only[UQ]at a;split at a<;>cases a|globalExplicit=>simp at a|globalImplicit=>simp at a
   ·exact .inl x
   ·exact .inr x
  obtain⟨j,c,hc⟩:=O.free y (O.outer a);obtain⟨m0,hn0,hl0⟩:=I.loc;obtain⟨u,r,l⟩:=hl0 i y v h1' B (by rcases j with j|j;exact .inr (.inl j);exact .inr (.inr j));refine⟨u,r,.inr ⟨a,c,hc,?_⟩⟩;rcases l with⟨lk,_⟩|⟨_,c',e',z⟩
  ·exfalso;rcases j with j|j
   ·rw[j]at lk;cases lk
   ·rw[j]at lk;cases lk
  ·rw[O.sub y c hc]at e';cases e';obtain⟨o,N,hd⟩:=z;exact⟨o,Q c o N,hd⟩
 ·obtain⟨v,q⟩:=I.cell y c (O.sub y c h);exact⟨v,by obtain⟨o,N,hd⟩:=q;exact⟨o,Q c o N,hd⟩⟩
 ·show(σ++Wq xs.length b8).length=(bE xs X.N++xs).length;rw[Uj,Uj,I.len,WS,l8]
theorem CompOk.back{a4z pl:List (Addr×Obj)}{σ B:St}{H H':Hp}{s s1:T6}{i:List Addr}{h':Vb}{N:List Str}(I:Inv X a4z σ H s)(p:∀b∈i,gY X a4z H b)
  (J:Inv (cE X scope cl s.heap.objs.size N s H i) pl B H' s1)(m:∀b o,b≠s.heap.objs.size->s1.heap.get? b=b6 o->h'.get? b=b6 o):Inv X a4z σ H' {s1 with heap:=h'}:=by
 have u:Un (cR X.stack) i H H' s.heap h':=by
  have h:Un (cR X.stack) i H H' s.heap s1.heap:=J.base;have ne:∀b o,s.heap.get? b=b6 o->b≠s.heap.objs.size:=λb o e=>UB (Uh e);refine⟨λb o e n j l=>m b o (ne b o e) (h.keep b o e n j l),λb o e n j l=>?_,h.free,λb o e l=>?_,h.tups,h.frzs,h.tbls⟩
  ·obtain⟨O,q⟩:=h.slot b o e n j l;exact⟨O,m b _ (ne b o e) q⟩
  ·obtain⟨M,q⟩:=h.there b o e l;exact⟨M,m b _ (ne b o e) q⟩
 have a:H' s.heap.objs.size=none:=J.free;have hok:HOk X.prog X.w H' h':=λb v e=>by
  refine(J.hok b v e).stay (λc w hc q=>m c w ?_ q) (λ_ q=>q) λ_ _ q=>q;rcases hc with z|z
  ·rw[z];intro A;rw[A,a]at e;cases e
  ·intro A;rw[A,a]at z;cases z
 have x:s1.os=s.os:=J.os;obtain⟨T,g,d,t,y⟩:=s1;obtain rfl:y=s.os:=x;have r:=Inv.call (X:=X) (a4z:=a4z) (σ:=σ) (H:=H) (s:=s) (h':=h') (g':=g) (d':=d) (t':=t) (ch:=i) I u hok J.bare λb j=>let⟨Q,E,R,G,K,L⟩:=p b j;⟨G,E,K,L⟩;exact r
end
theorem Lk{prog:Ur}{w:UJ}{A:UD}{R:a3d->T6->Prop}{s:T6}{elt a iter:Expr}{ifs:List Expr}{scope:WB}{pos:VW}{G u:Value}{env:YD}(I:Nat->T6->Prop)
  (turn:∀n s,I n s->Uu (Ut prog w) A (Y0 G) (λr d=>match r with
   |none=>R (.ok .next) d
   |some v=>Uu (Ut prog w) A (Zp a G v) (λ_ e=>Uu (Ut prog w) A (Z5 a env v) (λ_ o=>
     Uu (Ut prog w) A (forIn ifs c4 λc r=>if r=c4 then do let ok <- a0z c env (eval c env);pure (Xu ok)else pure (Xu r)) (λok i=>
      if ok=c4 then Uu (Ut prog w) A (eval elt env) (λx p=>
       Uu (Ut prog w) A (call (.builtin "list.append") [u,x]) (λ_ q=>∃m,m<n/\I m q) (λ_ _=>False) p) (λ_ _=>False) i
      else ∃m,m<n/\I m i) (λ_ _=>False) o) (λ_ _=>False) e) (λ_ _=>False) d) (λ_ _=>False) s)
  (n:Nat)(h:I n s) :
  YW (Ut prog w) A (.compLoop (.ListComp elt [⟨a,iter,ifs,0⟩] scope pos) 0 G u env) R s:=by
 refine codeAny_loop rfl I (λn s H=>?_) n h;show Uu _ A ((compTurn (.ListComp elt [⟨a,iter,ifs,0⟩] scope pos) 0 G u env).onRaise (λx=>do a0y x env;theTreesLotGoes x)) _ _ s;refine wpAny_noted ?_;rw[compTurn_list];refine T5 (YZ (T5 (UK (turn n s H) (λr d j=>?_) λ_ _ b=>b.elim)));cases r with
 |none=>exact Ui j|some v=>
  refine T5 (UK j (λ_ e y=>?_) λ_ _ b=>b.elim);refine T5 (UK y (λ_ o z=>T5 (UK z (λok i l=>?_) λ_ _ b=>b.elim)) λ_ _ b=>b.elim);cases ok with
  |false=>exact Ui ⟨rfl,l⟩|true=>exact T5 (T5 (UK l (λx p B=>T5 (UK B (λ_ q E=>Ui (Ui ⟨rfl,E⟩)) λ_ _ b=>b.elim)) λ_ _ b=>b.elim))
noncomputable def nP(μ:Hm)(a:Nat)(y:D):Option Hm:=match μ[a]? with
 |some (.lst xs)=>if xs.length<Uo then b6 (μ.set a (.lst (xs++[y])))else b8|_=>b8
noncomputable abbrev BD:=D->Hm->Option aF
noncomputable def l9:BD:=λd _=>b6 [b6 d]
noncomputable def CQ(k:Nat):BD:=λd μ=>(bJ μ d).bind λxs=>if xs.length=k then b6 (xs.map b6)else b8
noncomputable def jK(a:Hm->Nat->Option (Option D))(j:BD)(c:MT)(e:ME)(b:aF)(h:Nat):Nat->Nat->Hm->Option Hm
 |0,_,_=>b8|n+1,i,μ=>(a μ i).bind λo=>match o with
  |none=>b6 μ|some d=>(j d μ).bind λx=>(c (b++x) μ).bind λp=>match p.1 with
   |true=>(e (b++x) p.2).bind λq=>(nP q.2 h q.1).bind λl=>jK a j c e b h n (i+1) l|false=>jK a j c e b h n (i+1) p.2
noncomputable def fT:MT:=λ_ μ=>b6 (c4,μ)
noncomputable def mB(X:Cx)(ifs:List Expr)(m:MT):Prop:=
 ∀(a4z:List (Addr×Obj))(s:T6)(σ:St)(H:Hp)(Q:Bool->Hp->Prop),Inv X a4z σ H s->tMT X.K m σ H Q->
  Uu (Ut X.prog X.w) X.A (forIn ifs c4 λc r=>if r=c4 then do let ok <- a0z c X.env (eval c X.env);pure (Xu ok)else pure (Xu r)) (TP X a4z σ Q) X.xe s
theorem Ll{X:Cx}:mB X [] fT:=by intro a s l H Q I h;obtain⟨e,j,i,b,d,R,E,c,k⟩:=h;cases c;exact wpAny_tests_nil ⟨H,I,k e H .refl R⟩
theorem Lm{X:Cx}{c:Expr}{m:MT}(h:PT X c (tMT X.K m)):mB X [c] m:=λa4z s σ H Q I q=>wpAny_tests_one (h a4z s σ H Q I q)
end L3
namespace L3
open PySem L2
section
variable{prog:Ur}{w:UJ}{A:UD}{E:Value->T6->Prop}{s:T6}
theorem CS{h t:Addr}{a:Array Value}(l:t≠h):∀(n i:Nat)(s:T6)(Q:List Value->T6->Prop),s.heap.IsListIter h t i->s.heap.IsList t a->i+n<=a.size->
  (∀o,o.IsListIter h t (i+n)->XT h s.heap o->Q ((a.toList.drop i).take n) {s with heap:=o})->Uu (Ut prog w) A (draw (.ref h) n) Q E s
 |0,i,s,Q,hit,_,_,hQ=>by show Uu _ _ (pure []) Q E s;exact Ui (by simpa using hQ s.heap hit (a0D ..))
 |n+1,i,s,Q,hit,ht,hle,hQ=>by
  have j:i<a.size:=by omega
  show Uu _ _ (Y0 (.ref h) >>= _) Q E s;refine T5 (a1S hit ht (x:=a[i]) (by simp[j]) λp c b=>?_);refine T5 (Vx (CS l n (i+1) _ _ c (ht.extBut b.extBut l) (by omega) λm d e=>Ui ?_));have hd:a.toList.drop i=a[i]::a.toList.drop (i+1):=by simp[Wv,j]
  have:=hQ m (by rw[show i+(n+1)=i+1+n by omega];exact d) (b.trans e);rw[hd,Zt]at this;exact this
theorem Ln{t:Addr}{a:Array Value}{Q:List Value->T6->Prop}(v:A.handled=b8)(m:s.heap.IsList t a)
  (u:∀q,Zk s.heap.objs.size s.heap q->Q a.toList {s with heap:=q}):Uu (Ut prog w) A (unpackItems (.ref t) a.size b8) Q E s:=by
 have l:t≠s.heap.objs.size:=by obtain⟨o,x,_⟩:=m;exact UB (Uh x)
 unfold unpackItems;refine T5 ?_
 ·unfold notIterableAtAll;refine T5 (a3N m.typeIs slot_list_iter.lookup ?_);refine Ui ?_;simp only[Ud,if_false];refine T5 (Vx (a0c m ?_));refine T5 (Vx (CS l a.size 0 _ _ ⟨_,UC _ rfl,rfl,rfl⟩ (m.push _) (by omega) λn d c=>?_));have j:List.take a.size (List.drop 0 a.toList)=a.toList:=by rw[Wy];exact Wo (by simp)
  rw[j];rw[if_neg (by simp)];have i:n.IsList t a:=(m.push _).extBut c.extBut l;refine T5 (Vx (a2k v d i (by simp) λp h=>?_));simp only[XC,Ud,if_false];refine Ui (u p λb o r e=>h b o r (c.extBut b o r (Ua _ e)))
theorem Lo{env:YD}{b:List Expr} {x1} {pos:VW}{t:Addr}{a:Array Value}{Q:Unit->T6->Prop}(e:A.handled=b8)(j:s.heap.IsList t a)
  (i:(WK b env).length=a.size)(c:(WK b env).findIdx? (·.1)=b8)
  (h:∀d,Zk s.heap.objs.size s.heap d->Uu (Ut prog w) A (assignInOrder ((WK b env).map (·.2)) a.toList) Q E {s with heap:=d}) :
  Uu (Ut prog w) A (Z5 (.Tuple b x1 pos) env (.ref t)) Q E s:=by
 rw[a4h];refine T5 (YZ ?_);unfold unpack;rw[i,c];exact T5 (Vx (Ln e j h))
end
noncomputable def mD:aF->List Nat->List D->aF
 |ρ,i::is,x::xs=>mD (ρ.set i (b6 x)) is xs|ρ,_,_=>ρ
noncomputable def mE(a:List Nat):MG:=λd b μ=>(bJ μ d).bind λxs=>if xs.length=a.length then b6 (mD b a xs)else b8
noncomputable def sX:List Nat->m9
 |[]=>Bw|i::r=>Bx (wG i) (sX r)
theorem xU{K:T3}{π:Nat->Addr}{n:Nat}{H:Hp}:∀(a:List Nat){vs:List V}{xs:List D}{σ:St}{c:aF}{Q:St->Hp->Prop},IsDs K π n H vs xs->En K π n H σ c->xs.length=a.length->(∀b,En K π n H b (mD c a xs)->Q b H)->sX a vs σ H Q
 |[],vs,xs,σ,c,Q,h,E,hl,k=>by
  cases h with
  |nil=>exact⟨rfl,k σ E⟩|cons h t=>cases hl
 |i::a,vs,xs,σ,c,Q,h,E,hl,k=>by
  cases h with
  |nil=>cases hl|cons h t=>exact⟨_,_,rfl,xU a t (E.set h i) (by simpa using hl) k⟩
section
variable{X:Cx}{pos:VW}
theorem Lp{es:List Expr}{k:Nat}{m:List Nat}(hc:X.calm=c4)(h:pP X es (sX m))(M:(WK es X.env).length=m.length:=by rfl)(p:(WK es X.env).findIdx? (·.1)=none:=by rfl) :
  PG X (.Tuple es k pos) (tMG X.K (mE m)):=by
 intro j s y H v u Q I r hw;obtain⟨T,ρ,O,d,ρ',R,E,hd,Z,N⟩:=hw;obtain⟨L,l,B⟩:=TZ.mp Z;split at B
 ·rename_i x;cases B;have both:(∃a i,v=.ref a/\SqT X.K H a i/\IsDs X.K T O.length H i L)\/(∃a i,v=.ref a/\SqL X.K H a i/\IsDs X.K T O.length H i L):=by
   cases hd with
   |tup q t=>cases l;exact .inl ⟨_,_,rfl,q,t⟩|rol q t=>cases l;exact .inr ⟨_,_,rfl,q.sq,t⟩|@loc a ha=>
    simp only[bJ]at l;split at l
    ·rename_i ys hy;cases l;obtain⟨i,U,Y⟩:=R.lst a L hy;exact .inr ⟨_,i,rfl,.of U,Y⟩
    ·cases l
   |_=>cases l
  rcases both with⟨a,i,rfl,q,t⟩|⟨a,i,rfl,q,t⟩
  ·cases r;obtain⟨n,w,G,hz⟩:=I.tuple q;have c:n.length=m.length:=by rw[<- w.length,t.length];exact x
   refine a4g (I.ok.hd hc) G (by simp[M,c]) p λA K=>?_;have z:Inv X j y H {s with heap:=A}:=I.kept (t':=s.toks) λb o e=>K b o (UB (Uh e)) e;exact h j _ y H i _ Q z (by simpa using w) (xU m t E x N)
  ·cases r;obtain⟨n,w,G,hz⟩:=I.list q;have c:n.length=m.length:=by rw[<- w.length,t.length];exact x
   refine Lo (I.ok.hd hc) G.isList (by simp[M,c]) p λA K=>?_;have z:Inv X j y H {s with heap:=A}:=I.kept (t':=s.toks) λb o e=>K b o (UB (Uh e)) e;exact h j _ y H i _ Q z (by simpa using w) (xU m t E x N)
 ·cases B
noncomputable def xV(m:ME)(g:MG):MS:=λb μ=>(m b μ).bind λp=>(g p.1 b p.2).map λa=>(.nx,a,p.2)
theorem Lq{tg e:Expr}{m:ME}{g:MG}(q:PE X e (tM X.K m))(r:PG X tg (tMG X.K g))(s:swapsWithSole [tg] e pos.line X.env=pure false:=by rfl)(hw:a1z [tg] e X.env=pure none:=by rfl)
  (h1:(WK [tg] X.env).map (·.2)=[Z5 tg X.env]:=by rfl):PS X (.Assign [tg] e pos) (tMS X.K (xV m g)):=jF (Ik q r s hw h1) (by
 rintro E I H ⟨y,l,v,B,z,w,R,h,a,k⟩;obtain⟨⟨x,c⟩,h1,a⟩:=TZ.mp a;obtain⟨A,p,a⟩:=T7.mp a;cases a;exact⟨y,l,v,x,c,R,h,h1,λb G o j i u=>⟨b,l,_,x,_,i,h.mono j,u,p,λd n=>k b d o j i n⟩⟩)
end
section
variable{X:Cx}{K:T3}
noncomputable def qE:MF:=λds μ=>match ds with
 |[.str z]=>if z.length<=Uo then b6 (.int z.length,μ)else b8|[x]=>(bJ μ x).map λa=>(.int a.length,μ)|_=>b8
noncomputable def xW(K:T3):List V->Hp->VK->Prop:=λxs H Q=>(∃p ys,xs=[.ref p]/\(SqL K H p ys\/SqT K H p ys)/\Q (.int ys.length) H)\/(∃z,xs=[.str z]/\z.length<=Uo/\Q (.int z.length) H)
theorem call_lenM:CallR X (.builtin "len") (xW X.K):=call_len_seq.or JP
theorem nQ{π:Nat->Addr}{μ:Hm}{H:Hp}{v:V}{x:D}{xs:List D}(R:Rp K π H μ)(h:IsD K π μ.length H v x)(e:bJ μ x=b6 xs):∃p vs,v=.ref p/\(SqL K H p vs\/SqT K H p vs)/\IsDs K π μ.length H vs xs:=by
 cases h with
 |tup q t=>cases e;exact⟨_,_,rfl,.inr q,t⟩|rol q t=>cases e;exact⟨_,_,rfl,.inl q.sq,t⟩|@loc a i=>
  simp only[bJ]at e;split at e
  ·rename_i j d;cases e;obtain⟨vs,b,c⟩:=R.lst a xs d;exact⟨_,vs,rfl,.inl (.of b),c⟩
  ·cases e
 |_=>cases e
theorem CT:eN K qE (xW K):=by
 intro b H r n d l m Q R i a k;unfold qE at a;split at a
 ·split at a
  ·rename_i h;cases a;cases i with
   |cons i t=>cases i;cases t;exact .inr ⟨_,rfl,h,k b _ H .refl R (.int _)⟩
  ·cases a
 ·obtain⟨o,c,e⟩:=T7.mp a;cases e;cases i with
  |cons i t=>cases t;obtain⟨p,j,rfl,q,hd⟩:=nQ R i c;refine .inl ⟨p,j,rfl,q,?_⟩;rw[hd.length];exact k b _ H .refl R (.int _)
 ·cases a
noncomputable def qF:MF:=λds μ=>match ds with
 |[x]=>(bJ μ x).map λa=>(.loc μ.length,μ++[.lst a])|_=>b8
theorem CU:eN K qF (λxs H Q=>∃p ys,xs=[.ref p]/\(SqL K H p ys\/SqT K H p ys)/\∀l,H l=b8->Q (.ref l) (aG H l (.lst ys))):=by
 intro r H o xs d m n Q R i a k;unfold qF at a;split at a
 ·obtain⟨ys,e,h⟩:=T7.mp a;cases h;cases i with
  |cons i t=>cases t;obtain⟨p,b,rfl,q,hd⟩:=nQ R i e;refine⟨p,b,rfl,q,λl j=>?_⟩;obtain⟨c,R2,_⟩:=R.alloc (c:=.lst ys) (o:=.lst b) j hd;exact k _ _ _ c R2 lZ
 ·cases a
noncomputable def CV(K:T3):List V->Hp->VK->Prop:=λvs H Q=>∃π μ x v t c b,vs=[v,.ty c]/\Rp K π H μ/\IsD K π μ.length H v x/\jH μ x=b6 t/\qD t c=b6 b/\Q (.bl b) H
theorem Lr:eN K bX (CV K):=by
 intro c H q p d n o Q R i a k;unfold bX at a;split at a
 ·obtain⟨t,e,a⟩:=TZ.mp a;obtain⟨b,h,a⟩:=T7.mp a;cases a;cases i with
  |cons i l=>
   cases l with
   |cons j m=>cases m;cases j;exact⟨c,_,_,_,t,_,b,rfl,R,i,e,h,k c _ H .refl R (.bl _)⟩
 ·cases a
theorem Ls:CallR X (.builtin "isinstance") (CV X.K):=by
 intro L s σ H T us Q I r h;obtain⟨N,μ,x,v,t,c,b,rfl,R,i,d,l,q⟩:=h;obtain⟨u,u2,rfl,w,Z⟩:=IT r;cases Z;have fin:∀M,EP X L σ Q (.bool b) {s with toks:=M}:=λM=>⟨.bl b,H,I.tok M,rfl,q⟩;cases i with
 |non=>cases d;cases w;exact Wm PySem.W.kitx_none I.kIn Xa (jI X.K (by simp) l) (λz=>nomatch z) fin|bl y=>cases d;cases w;exact Wm PySem.W.kitx_bool I.kIn Xa (jI X.K (by simp) l) (λz=>nomatch z) fin|int y=>cases d;obtain⟨t,rfl⟩:=w;exact Wm PySem.W.kitx_int I.kIn Xa (jI X.K (by simp) l) (λz=>nomatch z) fin|str y=>cases d;obtain⟨t,rfl⟩:=w;exact Wm PySem.W.kitx_str I.kIn Xa (jI X.K (by simp) l) (λz=>nomatch z) fin|tup g t=>cases d;cases w;obtain⟨E,O,p,_⟩:=I.tuple g;obtain⟨o,e,j,_⟩:=p;exact Wm PySem.W.kitx_tuple I.kIn ⟨o,e,j⟩ (jI X.K (by simp) l) (λz=>nomatch z) fin|rol g t=>cases d;cases w;obtain⟨E,O,p,_⟩:=I.list g.sq;obtain⟨o,e,j,_⟩:=p.isList;exact Wm a1r I.kIn ⟨o,e,j⟩ (jI X.K (by simp) l) (λz=>nomatch z) fin|@loc a ha=>
  cases w;simp only[jH]at d;split at d
  ·rename_i T B;cases d;obtain⟨G,A,h4⟩:=R.lst a T B;obtain⟨E,O,p,_⟩:=I.list (SqL.of (K:=X.K) A);obtain⟨o,e,j,_⟩:=p.isList;exact Wm a1r I.kIn ⟨o,e,j⟩ (jI X.K (by simp) l) (λz=>nomatch z) fin
  ·rename_i m B;cases d;obtain⟨G,A,_⟩:=R.dK a m B;obtain⟨_,_,ws,_,p⟩:=(show ObjOk X.prog X.w H s.heap (N a) (.dK G)from I.hok _ _ A);obtain⟨o,Y,U,e,j,_⟩:=p;exact Wm a1s I.kIn ⟨o,e,j.1⟩ (jI X.K (by simp) l) (λz=>nomatch z) fin
  ·rename_i m B;cases d;obtain⟨G,A,_⟩:=R.dT a m B;obtain⟨⟨ws,_,_,_,o,Y,U,e,j,_⟩,_⟩:=(show ObjOk X.prog X.w H s.heap (N a) (a7 (N a) G)from I.hok _ _ A);exact Wm a1s I.kIn ⟨o,e,j.1⟩ (jI X.K (by simp) l) (λz=>nomatch z) fin
  ·cases d
 |ty n=>cases d
end
noncomputable def kF:D->Option aK
 |.int i=>b6 (.inl i)|.str x=>b6 (.inr x)|_=>b8
noncomputable def xX(kvs:List (aK×D))(k:aK)(d:D):List (aK×D):=
 if(kvs.any λa=>decide (a.1=k))=c4 then kvs.map (λa=>if a.1=k then(a.1,d)else a)else kvs++[(k,d)]
noncomputable def qG(kvs more:List (aK×D)):List (aK×D):=more.foldl (λa b=>xX a b.1 b.2) kvs
noncomputable def fU(kvs:List (aK×D))(k:aK):Option D:=(kvs.find? λa=>decide (a.1=k)).map (·.2)
inductive IsKs (K:T3)(π:Nat->Addr)(n:Nat)(H:Hp):List (aK×V)->List (aK×D)->Prop where
 |nil:IsKs K π n H [] []
 |cons {k:aK}{v:V}{d:D}{vs:List (aK×V)}{ds:List (aK×D)}(h:IsD K π n H v d)(t:IsKs K π n H vs ds):IsKs K π n H ((k,v)::vs) ((k,d)::ds)
section
variable{K:T3}{π π':Nat->Addr}{n n':Nat}{H H':Hp}
theorem IsKs.maps{vs:List (aK×V)}{ds:List (aK×D)}(h:IsKs K π n H vs ds):vs.map (·.1)=ds.map (·.1)/\IsDs K π n H (vs.map (·.2)) (ds.map (·.2)):=by
 induction h with
 |nil=>exact⟨rfl,.nil⟩|cons h t a=>exact⟨by rw[Uv,Uv,a.1],.cons h a.2⟩
theorem IsKs.of:∀{vs:List (aK×V)}{ds:List (aK×D)},vs.map (·.1)=ds.map (·.1)->IsDs K π n H (vs.map (·.2)) (ds.map (·.2))->IsKs K π n H vs ds
 |[],[],_,_=>.nil|[],_::_,h,_=>by cases h
 |_::_,[],h,_=>by cases h
 |(k,v)::vs,(k',d)::ds,h,t=>by
  rw[Uv,Uv]at h t;injection h with h1 h2;dsimp only at h1;subst h1;cases t with
  |cons a b=>exact .cons a (IsKs.of h2 b)
theorem IsKs.append{vs ws:List (aK×V)}{ds es:List (aK×D)}(h:IsKs K π n H vs ds)(a:IsKs K π n H ws es):IsKs K π n H (vs++ws) (ds++es):=by
 induction h with
 |nil=>exact a|cons h t b=>exact .cons h b
theorem IsKs.any{vs:List (aK×V)}{ds:List (aK×D)}(h:IsKs K π n H vs ds)(k:aK):(vs.any λa=>decide (a.1=k))=ds.any λa=>decide (a.1=k):=by
 induction h with
 |nil=>rfl|cons h t b=>rw[YN,YN,b]
theorem IsKs.repl{vs:List (aK×V)}{ds:List (aK×D)}(h:IsKs K π n H vs ds){v:V}{d:D}(c:IsD K π n H v d)(k:aK):IsKs K π n H (vs.map λa=>if a.1=k then(a.1,v)else a) (ds.map λa=>if a.1=k then(a.1,d)else a):=by
 induction h with
 |nil=>exact .nil|@cons i l j vs ds h t b=>
  rw[Uv,Uv];by_cases e:i=k
  ·simp only[e,if_true];exact .cons c b
  ·simp only[e,if_false];exact .cons h b
theorem IsKs.put{vs:List (aK×V)}{ds:List (aK×D)}(h:IsKs K π n H vs ds){v:V}{d:D}(a:IsD K π n H v d)(k:aK):IsKs K π n H (iJ vs k v) (xX ds k d):=by
 unfold iJ xX;rw[h.any k];split
 ·exact h.repl a k
 ·exact h.append (.cons a .nil)
theorem IsKs.merge{ws:List (aK×V)}{es:List (aK×D)}(a:IsKs K π n H ws es):∀{vs:List (aK×V)}{ds:List (aK×D)},IsKs K π n H vs ds->IsKs K π n H (lU vs ws) (qG ds es):=by
 induction a with
 |nil=>exact λh=>h|cons h t c=>exact λb=>c (b.put h _)
theorem IsKs.val{vs:List (aK×V)}{ds:List (aK×D)}(h:IsKs K π n H vs ds)(k:aK):(fU ds k=b8/\eA vs k=b8)\/∃v d,fU ds k=b6 d/\eA vs k=b6 v/\IsD K π n H v d:=by
 induction h with
 |nil=>exact .inl ⟨rfl,rfl⟩|@cons a c b vs ds h t l=>
  by_cases e:a=k
  ·exact .inr ⟨c,b,by simp[fU,VA,e],by simp[eA,VA,e],h⟩
  ·have i:fU ((a,b)::ds) k=fU ds k:=by simp[fU,VA,e]
   have j:eA ((a,c)::vs) k=eA vs k:=by simp[eA,VA,e]
   rw[i,j];exact l
theorem IsKs.length{vs:List (aK×V)}{ds:List (aK×D)}(h:IsKs K π n H vs ds):vs.length=ds.length:=by
 induction h with
 |nil=>rfl|cons h t a=>rw[UA,UA,a]
theorem CW{y:V}{d:D}{k:aK}(h:IsD K π n H y d)(e:kF d=b6 k):y=kV k:=by cases h<;>first|cases e;done|(cases e;rfl)
end
noncomputable def mF:List (ME×ME)->aF->Hm->Option (List (aK×D)×Hm)
 |[],_,μ=>b6 ([],μ)|(k,v)::r,ρ,μ=>(k ρ μ).bind λp=>(v ρ p.2).bind λq=>(kF p.1).bind λa=>(mF r ρ q.2).map λt=>((a,q.1)::t.1,t.2)
noncomputable def mG(a:List (ME×ME)):ME:=λb μ=>(mF a b (μ++[.dK []])).bind λp=>match p.2[μ.length]? with
 |some (.dK [])=>if p.1.length<=15 then b6 (.loc μ.length,p.2.set μ.length (.dK (qG [] p.1)))else b8|_=>b8
noncomputable def nR(K:T3)(a:List (ME×ME)):List (TE×TE):=a.map λp=>(tM K p.1,tM K p.2)
theorem CY{K:T3}:∀(e:List (ME×ME)){π:Nat->Addr}{d:aF}{μ a:Hm}{H:Hp}{σ:St}{kvs:List (aK×D)}{Q:List (V×V)->Hp->Prop},Rp K π H μ->En K π μ.length H σ d->mF e d μ=b6 (kvs,a)->
  (∀c i j,Ext π μ.length H c a.length i->Rp K c i a->IsKs K c a.length i j kvs->Q (j.map λs=>(kV s.1,s.2)) i)->sN (nR K e) σ H Q
 |[],π,d,μ,a,H,σ,kvs,Q,R,E,b,k=>by cases b;exact k π H [] .refl R .nil
 |(mk,mv)::r,π,d,μ,a,H,σ,kvs,Q,R,E,b,k=>by obtain⟨⟨x,h⟩,z,b⟩:=TZ.mp b;obtain⟨⟨y,m⟩,A,b⟩:=TZ.mp b;obtain⟨N,B,b⟩:=TZ.mp b;obtain⟨⟨Z,T⟩,G,b⟩:=T7.mp b;cases b;refine⟨π,d,μ,x,h,R,E,z,λn v1 X l v I=>⟨n,d,h,y,m,v,E.mono l,A,λU O Y p R2 L=>?_⟩⟩;refine CY r R2 ((E.mono l).mono p) G λo u j q w M=>?_;have:=CW I B;subst this;exact k o u ((N,O)::j) ((l.trans p).trans q) w (.cons (L.mono q) M)
section
variable{X:Cx}{a b c:Expr}{ma mb mc:ME}{pos:VW}
theorem Lu:jE X pos [] [] (nR X.K []):=Jo
theorem Lv{k v:Expr}{mk e:ME}{ks:List (Option Expr)}{vs:List Expr}{d:List (ME×ME)}(h:PE X k (tM X.K mk))(j:PE X v (tM X.K e))(i:jE X pos ks vs (nR X.K d)):jE X pos (b6 k::ks) (v::vs) (nR X.K ((mk,e)::d)):=Jp h j i
theorem Lx{keys:List (Option Expr)}{e:List Expr}{j:List (ME×ME)}(h:jE X pos keys e (nR X.K j))(l:keys.all (·.isSome)=c4)(T:keys.length=e.length)(M:keys≠[])
  (s:keys.length<=15):PE X (.Dict keys e pos) (tM X.K (mG j)):=cS (Jr h l T M s) (by
 rintro σ H Q ⟨π,ρ,q,d,Z,R,E,i,k⟩ p U;obtain⟨⟨v,w⟩,N,i⟩:=TZ.mp i;split at i
 ·rename_i hc;split at i
  ·rename_i m;cases i;obtain⟨y,L,Y⟩:=R.alloc (c:=.dK []) (o:=.dK []) U ⟨rfl,.nil⟩;refine CY j L (E.mono y) N λr H2 I A R2 G=>?_;have n:q.length<w.length:=(T8.mp hc).1;have o:r q.length=p:=by rw[A.pi q.length (by simp),Y]
   obtain⟨K,u,O,h5⟩:=R2.dK q.length [] hc;have hw:K=[]:=by
    cases K with
    |nil=>rfl|cons z zs=>cases O
   subst hw;obtain⟨B,x⟩:=R2.put (a:=q.length) (c:=.dK (qG [] v)) (o:=.dK (lU [] I)) n u (.inr (.inl ⟨_,rfl⟩)) (IsKs.maps (G.merge .nil));rw[o]at u B x;refine⟨u,I,rfl,by rw[G.length];exact m,k r _ _ ((y.trans A).trans B) x ?_⟩;rw[<- o];exact .loc (by rw[Vz];exact n)
  ·cases i
 ·cases i)
noncomputable def qH:D->D->Hm->Option (D×Hm)
 |.loc a,y,μ=>match μ[a]? with
  |some (.dK kvs)=>(kF y).bind λk=>(fU kvs k).map λd=>(d,μ)|_=>b8
 |_,_,_=>b8
theorem Ly{K:T3}{π:Nat->Addr}{μ:Hm}{H:Hp}{a:Nat}{kvs:List (aK×D)}(R:Rp K π H μ)(h:μ[a]?=b6 (.dK kvs)){y:V}{l:D}{k:aK}(q:IsD K π μ.length H y l)(p:kF l=b6 k) :
  (fU kvs k=b8/\DGet H (π a) y b8)\/∃v d,fU kvs k=b6 d/\DGet H (π a) y (b6 v)/\IsD K π μ.length H v d:=by
 obtain⟨s,m,n,o⟩:=R.dK a kvs h;have e:=CW q p;subst e;have g:=DGet.k (k:=k) m;rcases(IsKs.of n o).val k with⟨i,j⟩|⟨v,d,i,j,r⟩
 ·exact .inl ⟨i,by rw[<- j];exact g⟩
 ·exact .inr ⟨v,d,i,by rw[<- j];exact g,r⟩
theorem Lz(p:X.A.units+1<Wi)(m:PE X a (tM X.K ma))(n:PE X b (tM X.K mb))(o:sM b):PE X (.Subscript a b pos) (tM X.K (aC qH ma mb)):=cS (Jm p m n o) (by
 intro B H Q h;refine nH (r:=λx y H Q=>∃a v,x=.ref a/\DGet H a y (b6 v)/\Q v H) ?_ B H Q h;intro A H M x y d z K L Q R q r e k;unfold qH at e;split at e
 ·split at e
  ·rename_i s hc;obtain⟨I,l,e⟩:=TZ.mp e;obtain⟨E,i,e⟩:=T7.mp e;cases e;cases q;rcases Ly R hc r l with⟨j,_⟩|⟨v,G,j,u,w⟩
   ·rw[j]at i;cases i
   ·rw[j]at i;cases i;exact⟨_,v,rfl,u,k A _ H .refl R w⟩
  ·cases e
 ·cases e)
end
theorem iA{k:Nat}{A:UD}(r:Room k A):A.units+1<Wi:=by have:=r.un;omega
noncomputable def iL(a:ME):ME:=λb μ=>(a b μ).bind λp=>(xK p.1).map λd=>(d,p.2)
end L3
namespace L3
open PySem L2
noncomputable def fF(cells:List (Str×Addr)):List (Str×W3)->List (Str×Addr)->List (Str×Addr)
 |[],acc=>acc|(n,k)::r,acc=>if k=.free then(match cells.lookup n with|some c=>fF cells r ((n,c)::acc)|none=>fF cells r acc)else fF cells r acc
theorem CZ{env:YD}:∀(names:List (Str×W3))(a:List (Str×Addr)),(∀y∈names,y.2=.free->∃c,env.cells.lookup y.1=b6 c)->
  (forIn names a λ(x:Str×W3)(d:List (Str×Addr))=>(do
   if x.2==.free then(do let c <- cellOf env x.1;pure (Xu ((x.1,c)::d)))else pure (Xu d):a1B (ForInStep (List (Str×Addr)))))=pure (fF env.cells names a)
 |[],a,_=>rfl|(n,k)::r,a,h=>by
  have i:=λa=>CZ r a λy j=>h y (UO _ j);rw[List.forIn_cons];by_cases b:k=.free
  ·subst b;obtain⟨c,hc⟩:=h (n,.free) (UZ ..) rfl;dsimp only at hc;have e:cellOf env n=pure c:=by unfold cellOf;rw[hc]
   simp only[fF,hc,e,beq_self_eq_true,if_true,pure_bind];exact i _
  ·have e:(k==WG)=false:=by simpa using b
   simp only[fF,e,b,if_false,Ud,pure_bind];exact i _
theorem LA{scope:WB}{env:YD}(h:∀y∈scope.names,y.2=.free->∃c,env.cells.lookup y.1=b6 c):a2Z scope env=pure (fF env.cells scope.names []):=by have:=CZ (env:=env) scope.names [] h;unfold a2Z;simp only[bind_pure]at *;exact this
theorem sY{cells:List (Str×Addr)}:∀(names:List (Str×W3))(a:List (Str×Addr)),(∀y c,a.lookup y=b6 c->cells.lookup y=b6 c)->∀y c,(fF cells names a).lookup y=b6 c->cells.lookup y=b6 c
 |[],a,h=>h|(n,k)::r,a,h=>by
  unfold fF;split
  ·split
   ·rename_i d hc;refine sY r _ λy c e=>?_;rw[X2]at e;by_cases b:y=n
    ·subst b;simp only[beq_self_eq_true]at e;cases e;exact hc
    ·have:(y==n)=false:=by simpa using b
     rw[this]at e;exact h y c e
   ·exact sY r a h
  ·exact sY r a h
theorem sZ{cells:List (Str×Addr)}:∀(names:List (Str×W3))(a:List (Str×Addr))(y:Str),(∃c,a.lookup y=b6 c)->∃c,(fF cells names a).lookup y=b6 c
 |[],a,y,h=>h|(n,k)::r,a,y,h=>by
  unfold fF;split
  ·split
   ·refine sZ r _ y ?_;rw[X2];by_cases b:(y==n)=c4
    ·rw[b];exact⟨_,rfl⟩
    ·have:(y==n)=false:=by simpa using b
     rw[this];exact h
   ·exact sZ r a y h
  ·exact sZ r a y h
theorem tD{cells:List (Str×Addr)}:∀(names:List (Str×W3))(a:List (Str×Addr))(y:Str),(y,WG)∈names->(∃c,cells.lookup y=b6 c)->∃c,(fF cells names a).lookup y=b6 c
 |[],a,y,h,_=>by cases h
 |(n,k)::r,a,y,h,hc=>by
  unfold fF;rcases UX.mp h with h|h
  ·cases h;obtain⟨c,hc⟩:=hc;rw[if_pos rfl,hc];exact sZ r _ _ ⟨c,by simp[X2]⟩
  ·split
   ·split
    ·exact tD r _ y h hc
    ·exact tD r _ y h hc
   ·exact tD r _ y h hc
structure CompSt(osc:WB)(N:List Str)(scope:WB)(xs:List Str):Prop where
 nocell:∀y∈scope.names,y.2≠.cell
 kind:scope.kind=.function
 names:∀y∈scope.names,y.2=.local->scope.names.lookup y.1=b6 .local
 here:∀x∈xs,scope.names.lookup x=b6 .local
 free:∀y∈scope.names,y.2=.free->osc.names.lookup y.1=b6 .cell\/osc.names.lookup y.1=b6 .free
 own:∀y∈scope.names,y.2=.local->y.1∉bE xs N
 nd:N.Nodup
 hnd:(bE xs N).Nodup
 hidn:∀y∈N,xs.contains y=c4->scope.names.lookup (nO y)=b8
theorem CompSt.ok{X:Cx}{scope:WB}{xs:List Str}(S:CompSt X.env.scope X.N scope xs)(ok:X.Ok):CompOk X scope (fF X.env.cells scope.names []) xs:=by
 have has:∀y∈scope.names,y.2=.free->∃c,X.env.cells.lookup y.1=b6 c:=λy d b=>ok.has y.1 (S.free y d b);refine⟨LA has,S.nocell,S.kind,S.names,S.here,sY scope.names [] (λy c e=>by cases e),λy e=>?_,λy e=>?_,S.hidn⟩
 ·have a:=VH e;exact⟨S.free _ a rfl,tD scope.names [] y a (has _ a rfl)⟩
 ·exact S.own _ (VH e) rfl
end L3
namespace L3
open PySem L2
section
variable{X:Cx}{pos:VW}
end
end L3
namespace L3
open PySem L2
noncomputable def cC(e:Expr):Bool:=!(e.ctorIdx==22)
theorem dR{e:Expr}{es:List Expr}{env:YD}(h:cC e=c4):UW (e::es) env=(b9,eval e env)::UW es env:=by cases e<;>first|rfl|cases h
theorem kG{pos:VW}{env:YD}:∀{es:List Expr},es.all cC=c4->(W6 pos (UW es env)).any (·.1)=b9
 |[],_=>rfl|e::es,h=>by rw[Va,T4]at h;rw[dR h.1];have:=kG (pos:=pos) (env:=env) h.2;simpa[W6]using this
theorem tE{e:Expr}{es:List Expr}{env:YD}(h:cC e=c4):WK (e::es) env=(b9,Z5 e env)::WK es env:=by cases e<;>first|rfl|cases h
theorem C0{env:YD}:∀{es:List Expr},es.all cC=c4->(WK es env).length=es.length
 |[],_=>rfl|e::es,h=>by rw[Va,T4]at h;rw[tE h.1,UA,UA,C0 h.2]
theorem C1{env:YD}:∀{es:List Expr},es.all cC=c4->(WK es env).findIdx? (·.1)=b8
 |[],_=>rfl|e::es,h=>by rw[Va,T4]at h;rw[tE h.1,List.findIdx?_cons,C1 h.2];rfl
section
variable{X:Cx}{e a b c:Expr}{es:List Expr}{m:ME}{ms:MA}{pos:VW}
end
end L3
namespace L3
open PySem L2
structure QE(X:Cx)(e:Expr)(m:ME):Prop where
 h:PE X e (tM X.K m)
structure QT(X:Cx)(e:Expr)(m:MT):Prop where
 h:PT X e (tMT X.K m)
structure QW(X:Cx)(e:Expr)(m:MT):Prop where
 h:PW X e (tMT X.K m)
structure QA(X:Cx)(es:List Expr)(m:MA)(n:Nat):Prop where
 h:PA X es (tMA X.K m)
 l:∀ρ μ ds μ',m ρ μ=b6 (ds,μ')->ds.length=n
 s:es.all cC=c4
structure QO(X:Cx)(e:Option Expr)(m:MO):Prop where
 h:PO X e (tMO X.K m)
structure QS(X:Cx)(st:Stmt)(m:MS):Prop where
 h:PS X st (tMS X.K m)
structure QB(X:Cx)(st:List Stmt)(m:MS):Prop where
 h:PSs X st (tMS X.K m)
structure QG(X:Cx)(e:Expr)(g:MG):Prop where
 h:PG X e (tMG X.K g)
structure QGs(X:Cx)(es:List Expr)(is:List Nat):Prop where
 h:pP X es (sX is)
 n:es.length=is.length
 s:es.all cC=c4
structure QI(X:Cx)(ifs:List Expr)(m:MT):Prop where
 h:mB X ifs m
structure QP(X:Cx)(pos:VW)(keys:List (Option Expr))(values:List Expr)(prs:List (ME×ME)):Prop where
 h:jE X pos keys values (nR X.K prs)
 a:keys.all (·.isSome)=c4
 l:keys.length=values.length
section
variable{X:Cx}{e a b c:Expr}{m ma mb mc:ME}{pos:VW}{mt mu:MT}{rest es:List Expr}{ms:MA}{n:Nat}
theorem C2{x:Str}(i:Nat)(h:X.N[i]?=b6 x:=by rfl)(j:lS X.env.scope x:=by first|exact a2r rfl|exact a1u (a2r rfl)|exact a1u (a1u rfl))(hd:(x==("__debug__":Str))=false:=by decide)
  (d:(x==("__classdict__":Str))=false:=by decide):QE X (.Name x pos) (aB i):=⟨J7 i (pO h j hd d)⟩
theorem C3{i:Int}{j:Nat}:QE X (.Constant (.int i) j pos) (mC (.int i)):=⟨J8⟩
theorem C4{i:Bool}{j:Nat}:QE X (.Constant (.bool i) j pos) (mC (.bl i)):=⟨J9⟩
theorem C5{i:Str}{j:Nat}:QE X (.Constant (.str i) j pos) (mC (.str i)):=⟨Ka⟩
theorem C6{j:Nat}:QE X (.Constant .none j pos) (mC .non):=⟨Kb⟩
theorem nS{op:a1j}{r:R2}{f:D->D->Hm->Option (D×Hm)}(j:OpR X (XA op) r)(i:cT X.K f r)(d:QE X a ma)(h:QE X b mb):QE X (.BinOp a op b pos) (aC f ma mb):=⟨Kc j i d.h h.h⟩
theorem C7(d:QE X a ma)(h:QE X b mb):QE X (.BinOp a .Add b pos) (aC bM ma mb):=nS Lb Lc d h
theorem LB(d:QE X a ma)(h:QE X b mb):QE X (.BinOp a .Sub b pos) (aC l6 ma mb):=nS IF K4 d h
theorem LC(d:QE X a ma)(h:QE X b mb):QE X (.BinOp a .Mult b pos) (aC c9 ma mb):=nS K1 K6 d h
theorem LD(d:QE X a ma)(h:QE X b mb):QE X (.BinOp a .FloorDiv b pos) (aC cG ma mb):=nS K2 K7 d h
theorem LF(d:QE X a ma)(h:QE X b mb):QE X (.BinOp a .Mod b pos) (aC bB ma mb):=nS IG K8 d h
theorem LG(d:QE X a ma)(h:QE X b mb):QE X (.BinOp a .Pow b pos) (aC l7 ma mb):=nS K3 K9 d h
theorem LH(d:QE X a ma):QE X (.UnaryOp .USub a pos) (iL ma):=⟨Ld d.h⟩
theorem C8(d:QE X a ma):QE X (.UnaryOp .Not a pos) (j9 ma):=⟨Km d.h⟩
theorem LI{k:Nat}(i:Room k X.A)(d:QE X a ma)(h:QE X b mb):QE X (.Compare a [.Eq] [b] pos) (aC (a8 b9) ma mb):=⟨gC (CK (sW i)) sV d.h h.h (fP _)⟩
theorem LJ{k:Nat}(i:Room k X.A)(d:QE X a ma)(h:QE X b mb):QE X (.Compare a [.NotEq] [b] pos) (aC (a8 c4) ma mb):=⟨gC (CL (sW i)) sV d.h h.h (fP _)⟩
theorem LK(d:QE X a ma)(h:QE X b mb):QE X (.Compare a [.Lt] [b] pos) (aC fE ma mb):=⟨gC wL gJ d.h h.h (fP _)⟩
theorem LL(d:QE X a ma)(h:QE X b mb):QE X (.Compare a [.LtE] [b] pos) (aC nN ma mb):=⟨gC wM gJ d.h h.h (fP _)⟩
theorem LM(d:QE X a ma)(h:QE X b mb):QE X (.Compare a [.Gt] [b] pos) (aC xQ ma mb):=⟨gC wN gJ d.h h.h (fP _)⟩
theorem LN(d:QE X a ma)(h:QE X b mb):QE X (.Compare a [.GtE] [b] pos) (aC xR ma mb):=⟨gC wO gJ d.h h.h (fP _)⟩
noncomputable def dW(e:Expr):Bool:=!(e.ctorIdx==7)
theorem gK{op:Yi}{b:Expr}(h:dW b=c4):Xj op b=false:=by cases b<;>first|rfl|cases h
theorem LO{op:BoolOp}(h:QE X a m):QE X (.BoolOp op [a] pos) m:=⟨Kj h.h⟩
theorem LP(d:QE X a ma)(h:QE X (.BoolOp .And (b::rest) pos) mb):QE X (.BoolOp .And (a::b::rest) pos) (dH ma mb):=⟨Kk d.h h.h⟩
theorem LQ(d:QE X a ma)(h:QE X (.BoolOp .Or (b::rest) pos) mb):QE X (.BoolOp .Or (a::b::rest) pos) (xC ma mb):=⟨Kl d.h h.h⟩
theorem LR(hc:QT X c mt)(d:QE X a ma)(h:QE X b mb):QE X (.IfExp c a b pos) (xD mt ma mb):=⟨Kn hc.h d.h h.h⟩
theorem LS:QA X [] aD 0:=⟨Ko,Kt,rfl⟩
theorem LU(i:QE X e m)(d:QA X es ms n)(h:cC e=true:=by rfl):QA X (e::es) (aA m ms) (n+1):=⟨Kp i.h d.h (dR h),Ku d.l,by rw[Va,h,d.s];rfl⟩
theorem LV{x1:Nat}(h:QA X es ms n):QE X (.Tuple es x1 pos) (aW ms):=⟨Kq h.h⟩
theorem C9(h:QA X es ms n):QE X (.List es pos) (bI ms):=⟨Kr h.h⟩
noncomputable def kH(e:Expr):Bool:=!(e.ctorIdx==26)
theorem xY{b:Expr}(h:kH b=c4):w5 b:=by intro o i;cases b<;>first|rfl|cases h
theorem Dd(d:QE X a ma)(i:QE X b mb)(h:kH b=true:=by rfl):QE X (.Subscript a b pos) (aC dU ma mb):=⟨KA d.h i.h (xY h)⟩
theorem LW{k:Nat}(j:Room k X.A)(d:QE X a ma)(i:QE X b mb)(h:kH b=true:=by rfl):QE X (.Subscript a b pos) (aC qH ma mb):=⟨Lz (iA j) d.h i.h (xY h)⟩
theorem LX:QO X b8 dJ:=⟨KG⟩
theorem LY(h:QE X e m):QO X (b6 e) (cZ m):=⟨KH h.h⟩
theorem LZ{lo d:Option Expr}{i h:MO}{p:VW}(j:QE X a ma)(l:QO X lo i)(o:QO X d h):QE X (.Subscript a (.Slice lo d b8 p) pos) (cU ma i h):=⟨KJ j.h l.h o.h⟩
theorem L0{k:Nat}{f:Addr}{j:VQ}{ps:List Str}{l:MF}{x:Str}{p:VW}(F:FnOk X.prog X.w X.K X.mg X.base cY k f j ps (eM X.K n l))(u:Room k X.A)(s:X.mg x=b6 (.ref f))
  (r:U9 X.K (.ref f)=c4)(o:Binds X.K j ps [])(d:QA X (e::es) ms n)(q:Gl X x:=by rfl)(h:(x==("__debug__":Str))=false:=by decide):QE X (.Call (.Name x p) (e::es) [] pos) (aE l ms):=by
 have i:=d.s;rw[Va,T4]at i;exact⟨Kv F u q s r o d.h d.l h (dR i.1) (kG i.2)⟩
theorem De{f:MF}{r:List V->Hp->VK->Prop}{id:String}{x:Str}{p:VW}(hc:CallR X (.builtin id) r)(j:eN X.K f r)(o:X.mg x=b8)(s:V9 x=b6 (.builtin id))(i:QA X (e::es) ms n)
  (l:Gl X x:=by rfl)(q:x ≠ "__name__":=by decide) (d:(x==("__debug__":Str))=false:=by decide):QE X (.Call (.Name x p) (e::es) [] pos) (aE f ms):=by
 have h:=i.s;rw[Va,T4]at h;exact⟨Kw hc j l o s i.h q d (dR h.1) (kG h.2)⟩
theorem L1{f:MF}{r:List V->Hp->VK->Prop}{T:String}{x:Str}{p:VW}(hc:CallR X (.type T) r)(j:eN X.K f r)(o:X.mg x=b8)(s:V9 x=b6 (.type T))(i:QA X (e::es) ms n)
  (l:Gl X x:=by rfl)(q:x ≠ "__name__":=by decide) (d:(x==("__debug__":Str))=false:=by decide):QE X (.Call (.Name x p) (e::es) [] pos) (aE f ms):=by
 have h:=i.s;rw[Va,T4]at h;exact⟨Ky hc j l o s i.h q d (dR h.1) (kG h.2)⟩
theorem L4{x:Str}{n:String}(h:X.mg x=b8)(j:V9 x=b6 (.type n))(d:Gl X x:=by rfl)(i:x ≠ "__name__":=by decide) (hd:(x==("__debug__":Str))=false:=by decide):QE X (.Name x pos) (mC (.ty n)):=⟨Le d h j i hd⟩
theorem L5:QP X pos [] [] []:=⟨Lu,rfl,rfl⟩
theorem L6{k v:Expr}{mk i:ME}{ks:List (Option Expr)}{vs:List Expr}{d:List (ME×ME)}(j:QE X k mk)(l:QE X v i)(h:QP X pos ks vs d):QP X pos (b6 k::ks) (v::vs) ((mk,i)::d):=
 ⟨Lv j.h l.h h.h,by rw[Va,h.a];rfl,by rw[UA,UA,h.l]⟩
theorem L7{k:Option Expr}{keys:List (Option Expr)}{d:List Expr}{i:List (ME×ME)}(h:QP X pos (k::keys) d i)(j:(k::keys).length<=15:=by decide):QE X (.Dict (k::keys) d pos) (mG i):=⟨Lx h.h h.a h.l (by simp) j⟩
theorem L8{k:Nat}(i:Room k X.A)(d:QE X a ma)(h:QE X b mb):QT X (.Compare a [.Eq] [b] pos) (aP (aC (a8 b9) ma mb)):=⟨gD (CK (sW i)) sV d.h h.h (fP _)⟩
theorem L9{k:Nat}(i:Room k X.A)(d:QE X a ma)(h:QE X b mb):QT X (.Compare a [.NotEq] [b] pos) (aP (aC (a8 c4) ma mb)):=⟨gD (CL (sW i)) sV d.h h.h (fP _)⟩
theorem Ma(d:QE X a ma)(h:QE X b mb):QT X (.Compare a [.Lt] [b] pos) (aP (aC fE ma mb)):=⟨gD wL gJ d.h h.h (fP _)⟩
theorem Mb(d:QE X a ma)(h:QE X b mb):QT X (.Compare a [.LtE] [b] pos) (aP (aC nN ma mb)):=⟨gD wM gJ d.h h.h (fP _)⟩
theorem Mc(d:QE X a ma)(h:QE X b mb):QT X (.Compare a [.Gt] [b] pos) (aP (aC xQ ma mb)):=⟨gD wN gJ d.h h.h (fP _)⟩
theorem Md(d:QE X a ma)(h:QE X b mb):QT X (.Compare a [.GtE] [b] pos) (aP (aC xR ma mb)):=⟨gD wO gJ d.h h.h (fP _)⟩
noncomputable def jL:Expr->Bool
 |.UnaryOp .Not ..=>b9|.BoolOp ..=>b9|.IfExp ..=>b9|.Compare ..=>b9|_=>c4
theorem Df{e:Expr}{env:YD}(h:jL e=c4):∀d,a0z e env d=(do let v <- d;a1U e.pos;holding [v] (truthy v)):=by
 intro d;cases e<;>first|rfl|cases h|skip
 rename_i i x p;cases i<;>first|rfl|cases h
theorem xZ(h:QE X e m)(d:jL e=true:=by rfl):QT X e (aP m):=⟨Kd h.h (Df d)⟩
theorem Me(d:QT X a mt):QT X (.UnaryOp .Not a pos) (bN mt):=⟨Ki d.h⟩
theorem Mf(d:QT X a mt):QW X (.BoolOp .And [a] pos) mt:=⟨Ke d.h⟩
theorem Mg(d:QT X a mt):QW X (.BoolOp .Or [a] pos) mt:=⟨Kf d.h⟩
theorem Mh(d:QT X a mt)(h:QW X (.BoolOp .And (b::rest) pos) mu):QW X (.BoolOp .And (a::b::rest) pos) (gE mt mu):=⟨Kg d.h h.h⟩
theorem Mi(d:QT X a mt)(h:QW X (.BoolOp .Or (b::rest) pos) mu):QW X (.BoolOp .Or (a::b::rest) pos) (cP mt mu):=⟨Kh d.h h.h⟩
theorem Dg(h:QW X e mt):QT X e mt:=⟨h.h.pt⟩
theorem Mj:QI X [] fT:=⟨Ll⟩
theorem Ml(h:QT X c mt):QI X [c] mt:=⟨Lm h.h⟩
end
section
variable{X:Cx}{e a b c:Expr}{m:ME}{pos:VW}{mt:MT}{st:Stmt}{rest body orelse:List Stmt}{ms mr mu:MS}{n:Nat}{is:List Nat}{es:List Expr}{g:MG}
theorem Mm:QB X [] bA:=⟨KL⟩
theorem Mn(h1:QS X st ms)(d:QB X rest mr):QB X (st::rest) (aJ ms mr):=⟨KN h1.h d.h⟩
theorem Mo(h1:QS X st ms):QB X [st] ms:=⟨KO h1.h⟩
theorem Mp:QS X (.Pass pos) bA:=⟨KP⟩
theorem Dh(d:QE X e m):QS X (.Return (b6 e) pos) (aX m):=⟨KQ d.h⟩
noncomputable def dX(e:Expr):Bool:=!(e.ctorIdx==8||e.ctorIdx==9||e.ctorIdx==10)
theorem mH{e:Expr}{t:Option Expr}{n:Nat}{env:YD}(h:dX e=c4):YK e t n env=pure false:=by cases e<;>first|rfl|cases h
theorem Mq(d:QE X e m)(h:dX e=true:=by rfl):QS X (.Expr e pos) (fR m):=⟨KR d.h (mH h)⟩
theorem yA(hc:QT X c mt)(d:QB X body ms)(h:QB X orelse mu):QS X (.If c body orelse pos) (a6 mt ms mu):=⟨KS hc.h d.h h.h⟩
theorem yB(i:Nat){x:Str}{d:VW}(j:X.N.Nodup)(l:QE X e m)(h:dX e=true:=by rfl)(p:X.N[i]?=b6 x:=by rfl)(q:Loc X.env.scope x:=by first|exact a2r rfl|exact a1u rfl)
  (o:X.fn x=c4\/X.env.scope.names.lookup x=b6 .local:=by first|exact .inl rfl|exact .inr rfl):QS X (.Assign [.Name x d] e pos) (aQ i m):=⟨Cw j p q l.h (mH h) o⟩
theorem Mr(i:Nat){x:Str}(d:X.N.Nodup)(j:X.N[i]?=b6 x:=by rfl)(l:Loc X.env.scope x:=by first|exact a2r rfl|exact a1u rfl)
  (h:X.fn x=c4\/X.env.scope.names.lookup x=b6 .local:=by first|exact .inl rfl|exact .inr rfl):QG X (.Name x pos) (dE i):=⟨CN d j l h⟩
theorem Di:QGs X [] []:=⟨Ii,rfl,rfl⟩
theorem Dj(i:Nat){x:Str}(h:X.N.Nodup)(d:QGs X es is)(l:X.N[i]?=b6 x:=by rfl)(o:Loc X.env.scope x:=by first|exact a2r rfl|exact a1u rfl)
  (j:X.fn x=c4\/X.env.scope.names.lookup x=b6 .local:=by first|exact .inl rfl|exact .inr rfl):QGs X (.Name x pos::es) (i::is):=
 ⟨Ij (Bv h l o j) d.h (by rw[tE (e:=.Name x pos) rfl];rfl),by rw[UA,UA,d.n],by rw[Va,d.s];rfl⟩
theorem yC{k:Nat}(h:QGs X es is)(hc:X.calm=true:=by rfl):QG X (.Tuple es k pos) (mE is):=⟨Lp hc h.h ((C0 h.s).trans h.n) (C1 h.s)⟩
noncomputable def yD(e:Expr):Bool:=!(e.ctorIdx==25)
theorem Ms{es:List Expr}{k:Nat}{pt:VW}{e:Expr}{env:YD}(h:yD e=c4):a1z [.Tuple es k pt] e env=pure none:=by cases e<;>first|rfl|cases h
theorem Mt{k:Nat}{pt:VW}(d:QE X e m)(i:QG X (.Tuple es k pt) g)(h:yD e=true:=by rfl):QS X (.Assign [.Tuple es k pt] e pos) (xV m g):=
 ⟨Lq d.h i.h (by cases e<;>rfl) (Ms h) (by rw[tE (e:=.Tuple es k pt) rfl];rfl)⟩
end
section
variable{P:Ur}{w:UJ}{K:T3}{mg:Str->Option Value}{base:Vb}
theorem Mu{x qual:Str}{st:Stmt}{f:Addr}{e:VQ}{N ps:List Str}{k:Nat}{body:List Stmt}{m:MS}(F:Fun K x qual st f e)(S:FnScope N ps (bC st))(d:ps.length<=N.length)(c:cD st=body)
  (b:∀(a:Value)(A:UD)(outer:List YD)(s:T6)(H:Hp)(E:XK),Room k (A.deeper (XW qual (bC st) s.heap.objs.size f a))->
   QB (dA cY P w K mg base N qual (bC st) f a A outer s H E).nox body m):FnOk P w K mg base cY (k+1) f e ps (eM K ps.length (qC N.length m)):=
 KU F S d λa A outer s H E h=>by rw[c];exact(b a A outer s H E h).h
end
end L3
namespace L3
open PySem L2
noncomputable abbrev kI:=Hm->Nat->Option (Option D)
noncomputable abbrev MI:=aF->Hm->Option (kI×Nat×Hm)
inductive tMI (K:T3)(m:MI)(σ:St)(H:Hp)(R:It->Hp->Prop):Prop
 |mk (π:Nat->Addr)(ρ:aF)(μ:Hm)(src:kI)(n:Nat)(μ':Hm)(r:Rp K π H μ)(E:En K π μ.length H σ ρ)(hm:m ρ μ=b6 (src,n,μ'))(k:∀π' H' J,Ext π μ.length H π' μ'.length H'->Rp K π' H' μ'->Wk K J src π' μ'.length H'->R J H'):tMI K m σ H R
structure QJ(X:Cx)(e:Expr)(m:MI):Prop where
 h:∀tg,PI X tg e (tMI X.K m)
section
variable{X:Cx}{pos:VW}{e:Expr}{m:ME}
noncomputable def yE:MI:=λ_ _=>b8
theorem j_bad:QJ X e yE:=⟨λtg a4z s σ H R I hw=>by
 obtain⟨i,j,h,b,n,c,d,E,a,k⟩:=hw;cases a⟩
noncomputable def fV(μ:Hm):D->Option (List D)
 |d=>bJ μ d
noncomputable def cL(x:D):kI:=λμ i=>(fV μ x).map λxs=>xs[i]?
noncomputable def dM(m:ME):MI:=λa μ=>(m a μ).bind λp=>(fV p.2 p.1).map λxs=>(cL p.1,xs.length+1,p.2)
theorem Mv(h:QE X e m):QJ X e (dM m):=⟨λtg a4z s σ H R I hw=>by
 obtain⟨N,O,L,G,n,M,w,E,b,k⟩:=hw;obtain⟨⟨x,l⟩,y,b⟩:=TZ.mp b;obtain⟨K,z,b⟩:=T7.mp b;cases b;have i:∀(r:bJ l x=b6 K)(u:cL x=jJ x),Uu (Ut X.prog X.w) X.A (eval e X.env) (λv B=>Uu (Ut X.prog X.w) X.A (a1a v) (Il X a4z σ tg R) X.xe B) X.xe s:=λr u=>by
  refine Lg h.h a4z s σ H R I ⟨N,O,L,x,_,w,E,y,λc Q o p d A=>?_⟩;obtain⟨a,e,q⟩:=Lh d A r;subst e;refine⟨a,rfl,?_⟩;dsimp only at k;rw[u]at k;rcases q with⟨j,W⟩|⟨j,W⟩
  ·exact .inl ⟨j,k c o _ p d W⟩
  ·exact .inr ⟨j,k c o _ p d W⟩
 cases x with
 |_=>exact i z rfl⟩
noncomputable def iB(a:MA):MI:=λb μ=>(a b μ).bind λp=>match p.1 with
 |[.int j]=>if -(2^62)<=j/\j<2^62 then b6 (hZ 0 j.toNat,j.toNat+1,p.2)else b8|_=>b8
theorem Dk{q:Cx->Prop}{tg:Expr}(tr:∀(o:Addr)(lo:Int)(n:Nat),Turn q X.prog X.w X.K tg (jD lo n) [o] o (λi h=>X0 h o (lo+(i:Nat)*1) ((n:Int)-(i:Nat)) 1)){a:Expr}{z:MA}{n:Nat}{p:VW}(c:Gl X "range") (d:X.mg "range"=b8) (v:QA X [a] z n):pQ q X tg (.Call (.Name "range" p) [a] [] pos) (tMI X.K (iB z)):=λa4z s σ H R I hw=>by
 have y:=v.s;rw[Va,T4]at y;obtain⟨T,U,O,M,Y,Q,G,E,b,k⟩:=hw;obtain⟨⟨x,r⟩,L,b⟩:=TZ.mp b;refine Ir tr c d v.h (dR y.1) a4z s σ H R I ⟨T,U,O,x,r,G,E,L,λu Z A K B l=>?_⟩;dsimp only at b;split at b
 ·rename_i j;split at b
  ·rename_i w;cases b;cases l with
   |cons l N=>cases l;cases N;exact⟨j,rfl,w.1,w.2,k u A _ K B CO⟩
  ·cases b
 ·cases b
theorem Mw{a:Expr}{d:MA}{n:Nat}{p:VW}(b:Gl X "range") (c:X.mg "range"=b8) (h:QA X [a] d n):QJ X (.Call (.Name "range" p) [a] [] pos) (iB d):=⟨λtg=>Dk nB b c h⟩
noncomputable def kJ(a:MA):MI:=λb μ=>(a b μ).bind λp=>match p.1 with
 |[.int i,.int j]=>if -(2^62)<=i/\i<2^62/\-(2^62)<=j/\j<2^62 then b6 (hZ i (j-i).toNat,(j-i).toNat+1,p.2)else b8|_=>b8
theorem Mx{a b:Expr}{v:MA}{n:Nat}{p:VW}(h:Gl X "range") (l:X.mg "range"=b8) (u:QA X [a,b] v n):QJ X (.Call (.Name "range" p) [a,b] [] pos) (kJ v):=⟨λtg a4z s σ H R I hw=>by
 have d:=u.s;rw[Va,T4,Va,T4]at d;obtain⟨T,U,O,L,Y,Q,z,E,c,k⟩:=hw;obtain⟨⟨x,q⟩,B,c⟩:=TZ.mp c;refine Iu h l u.h (by rw[dR d.1,dR d.2.1];rfl) (by rw[dR d.2.1];rfl) a4z s σ H R I ⟨T,U,O,x,q,z,E,B,λr Z w A y o=>?_⟩;dsimp only at c;split at c
 ·rename_i i j;split at c
  ·rename_i G;cases c;cases o with
   |cons o M=>
    cases o;cases M with
    |cons K N=>cases K;cases N;exact⟨i,j,rfl,G,k r w _ A y CO⟩
  ·cases c
 ·cases c⟩
noncomputable def eC(c:MI)(g:MG)(b:MS):MS:=λa μ=>(c a μ).bind λp=>fS p.1 g b p.2.1 0 a p.2.2
end
noncomputable def kK(d:BD)(h:MI)(c:MT)(e:ME):ME:=λb μ=>(h b μ).bind λp=>(jK p.1 d c e b p.2.2.length p.2.1 0 (p.2.2++[.lst []])).map λa=>(.loc p.2.2.length,a)
noncomputable abbrev eS(a:MI)(c:MT)(e:ME):ME:=kK l9 a c e
noncomputable def gB(n:Nat)(a:BD):MG:=λd b μ=>(a d μ).map λx=>b.take n++x
theorem My{X:Cx}{n:Nat}{x:Str}{j:VW}(l:X.N.length=n+1)(h:PG X (.Name x j) (tMG X.K (dE n))):PG X (.Name x j) (tMG X.K (gB n l9)):=by
 intro b s y H v u Q I r hw;obtain⟨q,a,p,d,w,R,E,hd,m,k⟩:=hw;cases m;refine h b s y H v u Q I r ⟨q,a,p,d,_,R,E,hd,rfl,λc i=>k c ?_⟩;have o:a.length=n+1:=by rw[<- E.len,I.len,l]
 have e:a.set n (b6 d)=a.take n++[b6 d]:=by rw[List.set_eq_take_append_cons_drop,if_pos (by omega),Ws (by omega)]
 rw[e]at i;exact i
theorem Dl:∀(xs:List D)(a b:aF),b.length=xs.length->mD (a++b) (YI a.length xs.length) xs=a++xs.map b6
 |[],a,[],_=>by simp[mD]
 |x::xs,a,y::b,h=>by have c:=Dl xs (a++[b6 x]) b (by simpa using h);rw[UA,Z3];show mD ((a++y::b).set a.length (b6 x)) (YI (a.length+1) xs.length) xs=_;rw[Y9 _ _ (Up _),XX,Um];rw[Uj,X1]at c;rw[Uy,List.singleton_append]at c;rw[c];simp
theorem Mz{X:Cx}{n k:Nat}{tg:Expr}(w:X.N.length=n+k)(h:PG X tg (tMG X.K (mE (YI n k)))):PG X tg (tMG X.K (gB n (CQ k))):=by
 intro b s L H v u Q I r hw;obtain⟨G,a,B,d,K,R,E,hd,x,A⟩:=hw;obtain⟨y,o,p⟩:=T7.mp x;obtain⟨m,q,c⟩:=TZ.mp o;split at c
 ·rename_i l;cases c;subst p;have z:a.length=n+k:=by rw[<- E.len,I.len,w]
  refine h b s L H v u Q I r ⟨G,a,B,d,mD a (YI n k) m,R,E,hd,(by simp only[mE,q,UG,List.length_range',if_pos l]),λi j=>A i ?_⟩;have e:=Dl m (a.take n) (a.drop n) (by rw[U2];omega);rw[UR,UN,Y8 (by omega),l]at e;rw[e]at j;exact j
 ·cases c
section
variable{X:Cx}{scope:WB}{cl:List (Str×Addr)}{xs:List Str}{tg elt iter:Expr}{ifs:List Expr}{pos ppos:VW}{mi:MI}{me:ME}{mc:MT}{bd:BD}
theorem MB{K:T3}{π:Nat->Addr}{n:Nat}{H:Hp}{σ:St}{b o:aF}{k:Nat}(E:En K π n H σ (b++o))(c:o.length=k):En K π n H σ (b++Wq k b8):=by
 refine⟨by rw[E.len,Uj,Uj,WS,c],λi d q=>?_⟩;by_cases a:i<b.length
 ·rw[Ul a]at q;exact E.get i d (by rw[Ul a];exact q)
 ·rw[Uz (YC.mp a),W5]at q;split at q<;>cases q
theorem Dm{q:Cx->Prop}(O:CompOk X scope cl xs)(hq:∀a4z σ H s l,Inv X a4z σ H s->q (cE X scope cl s.heap.objs.size (bE xs X.N++xs) s H l))(hi:pQ q X tg iter (tMI X.K mi))(hb':∀d μ z,bd d μ=b6 z->z.length=xs.length)(hg:∀C s₀ H₀ l,PG (cE X scope cl C (bE xs X.N++xs) s₀ H₀ l) tg (tMG X.K (gB X.N.length bd)))
  (hc:∀C s₀ H₀ l,mB (cE X scope cl C (bE xs X.N++xs) s₀ H₀ l) ifs mc)(he:∀C s₀ H₀ l,PE (cE X scope cl C (bE xs X.N++xs) s₀ H₀ l) elt (tM X.K me))
  (hs:∀x,Xr iter X.env x=pure x){use:Option (Value->a1B Unit)}{QQ:Value->T6->Prop}{a4z:List (Addr×Obj)}{s:T6}{σ:St}{H:Hp}{π:Nat->Addr}{Y:aF}{μ Z:Hm}{d:D}
  (I:Inv X a4z σ H s)(R:Rp X.K π H μ)(E:En X.K π μ.length H σ Y)(hm:kK bd mi mc me Y μ=b6 (d,Z))
  (fin:∀(p C:Addr)(w:Nat->Addr)(H':Hp)(s':T6),Ext π μ.length H w Z.length H'->Rp X.K w H' Z->IsD X.K w Z.length H' (.ref p) d->(∃m,s'.heap.Ns C m)->X.s₀.heap.objs.size<=C->C≠X.env.locals->H' C=b8->
   (∀y c,X.env.cells.lookup y=b6 c->c≠C)->(∀q∈X.pn++a4z,q.1≠C)->(∀h',(∀b o,b≠C->s'.heap.get? b=b6 o->h'.get? b=b6 o)->Inv X a4z σ H' {s' with heap:=h'})->
   compPost (Ut X.prog X.w) X.A X.xe use QQ (.ref p) C (.ok .next) s') :
  Uu (Ut X.prog X.w) X.A (comprehension (.ListComp elt [⟨tg,iter,ifs,0⟩] scope pos) scope X.env ppos (newList []) b9 (eval iter X.env) use) QQ X.xe s:=by
 obtain⟨⟨src,nt,a⟩,h1,hm⟩:=TZ.mp hm;obtain⟨μ2,h3,hm⟩:=T7.mp hm;cases hm;have hit:Uu (Ut X.prog X.w) X.A (eval iter X.env) (λv s1=>Uu (Ut X.prog X.w) X.A (a1a v) (sF q X a4z σ tg λJ H1=>∃π1,Ext π μ.length H π1 a.length H1/\Rp X.K π1 H1 a/\Wk X.K J src π1 a.length H1) X.xe s1) X.xe s:=
  hi a4z s σ H _ I ⟨π,Y,μ,src,nt,a,R,E,h1,λπ1 H1 J e1 R1 W=>⟨π1,e1,R1,W⟩⟩
 refine wpAny_comprehension_free rfl hs O.clos O.kind O.names (UK hit (λv s1 hv=>UK hv (λitv G h4=>?_) λ_ _ z=>z) λ_ _ z=>z);obtain⟨it,l,tn,J,H2,rfl,I2,T,st2,f2,π1,e1,R1,W⟩:=h4;refine VP (wpAny_newFunctionEnv O.nocell (by intro y hy;simp at hy) (λh₁ L M=>?_) O.kind);dsimp only at L M ⊢;have hfr:H2 G.heap.objs.size=none:=I2.hok.fresh (Up _);have I3:Inv X a4z σ (aG H2 G.heap.objs.size (.lst [])) {G with heap:=G.heap.push {cls:=.type "list",dict:=b8,data:=.seq ([]:List Value).toArray}}:=
  I2.laid (t':=G.toks) (λb u e=>Ua _ e) (Up _) ⟨WA _,[],0,.nil,UC _ rfl⟩
 obtain⟨e2,R2,q2⟩:=R1.alloc (c:=.lst []) (o:=.lst []) hfr .nil;generalize hs3:({G with heap:=G.heap.push {cls:=.type "list",dict:=b8,data:=.seq ([]:List Value).toArray}}:T6)=s3 at I3;have K:G.heap.push {cls:=.type "list",dict:=b8,data:=.seq ([]:List Value).toArray}=s3.heap:=by rw[<- hs3]
 have e12:=e1.trans e2;generalize hH3:aG H2 G.heap.objs.size (.lst [])=H3 at I3 e2 R2 e12;generalize hπ3:fC π1 a.length G.heap.objs.size=π3 at e2 R2 q2 e12;have hob:∀b∈l,∃o,s3.heap.get? b=b6 o:=λb B=>by obtain⟨o,ho,_⟩:=T.obj 0 _ st2 b B;exact⟨o,by rw[<- K];exact Ua _ ho⟩
 have f3:∀b∈l,gY X a4z H3 b:=λb B=>by obtain⟨o,ho,_⟩:=T.obj 0 _ st2 b B;refine⟨?_,(f2 b B).2⟩;rw[<- hH3,aS (UB (Uh ho))];exact(f2 b B).1
 have st3:tn 0 s3.heap:=T.keep 0 _ _ st2 λb B o e=>by rw[<- K];exact Ua _ e
 have hC:(G.heap.push {cls:=.type "list",dict:=b8,data:=.seq ([]:List Value).toArray}).objs.size=s3.heap.objs.size:=by rw[K]
 rw[K]at L M;have hk1:∀b o,s3.heap.get? b=b6 o->h₁.get? b=b6 o:=λb o e=>M.extBut b o (UB (Uh e)) (Ua _ e);have E3:En X.K π3 (a++[C.lst []]).length H3 (σ++Wq xs.length b8) (Y++Wq xs.length b8):=by
  have E':=E.mono e12;refine⟨by rw[Uj,Uj,E'.len,WS,WS],λi d' q=>?_⟩;by_cases hi:i<Y.length
  ·rw[Ul hi]at q;obtain⟨v,h5,h6⟩:=E'.get i d' q;exact⟨v,by rw[Ul (by rw[E'.len];exact hi)];exact h5,h6⟩
  ·rw[Uz (YC.mp hi),W5]at q;split at q<;>cases q
 have hlen:Y.length=X.N.length:=by rw[<- E.len];exact I.len
 have stat:∀{H':Hp}{pl:List (Addr×Obj)},(∀b∈l,H' b=b8)->pl=[]->∀b∈l,gY (cE X scope cl s3.heap.objs.size (bE xs X.N++xs) s3 H3 l) pl H' b:=λ{H' pl} hn hpl b B=>by
  obtain⟨f0,f1,f2',f3',f4,f5⟩:=f3 b B;obtain⟨o,ho⟩:=hob b B;refine⟨hn b B,UB (Uh ho),λz=>?_,.inl B,λy c h=>f4 y c (O.sub y c h),λp hp=>?_⟩
  ·rcases UX.mp (I3.stkSub b z)with z|z
   ·exact f1 z
   ·exact f2' z
  ·subst hpl;exact absurd (show p∈([]:List (Addr×Obj))from hp) (by simp)
 have loop:∀s4:T6,(∃tk,s4={s3 with heap:=h₁,toks:=tk})->
   YW (Ut X.prog X.w) X.A (.compLoop (.ListComp elt [⟨tg,iter,ifs,0⟩] scope pos) 0 (.ref it) (.ref G.heap.objs.size) (X8 scope cl s3.heap.objs.size X.env))
    (compPost (Ut X.prog X.w) X.A X.xe use QQ (.ref G.heap.objs.size) s3.heap.objs.size) s4:=by
  rintro s4 ⟨tk,rfl⟩;have I4:=O.inv (tk:=tk) I3 f3 hob L hk1;refine Lk (λn s'=>∃i U H' w N o,Inv (cE X scope cl s3.heap.objs.size (bE xs X.N++xs) s3 H3 l) [] U H' s'/\tn i s'.heap/\(∀b∈l,H' b=b8)/\Ext π3 (a++[C.lst []]).length H3 w N.length H'/\Rp X.K w H' N /\
   En X.K w N.length H' U (Y++o)/\o.length=xs.length/\jK src bd mc me Y a.length n i N=b6 Z) ?_ nt
   ⟨0,_,H3,π3,a++[C.lst []],Wq xs.length b8,I4,T.keep 0 _ _ st3 λb B o e=>hk1 b o e,λb B=>(f3 b B).1,.refl,R2,E3,WS,h3⟩
  rintro n s5 ⟨i,σ5,H5,Q,μ5,o5,I5,st5,fr5,e5,R5,E5,l5,g5⟩;cases n with
  |zero=>cases g5|succ n=>
   obtain⟨o,h6,h7⟩:=TZ.mp g5;cases o with
   |none=>
    cases h7;have stop:=W.stop Q _ H5 i (e2.trans e5) R5 h6;refine UK (T.done (cE X scope cl s3.heap.objs.size (bE xs X.N++xs) s3 H3 l) rfl rfl rfl (hq a4z σ H3 s3 l I3) i [] s5 σ5 H5 (λ_ _=>False) I5 (stat fr5 rfl) st5 stop) (λr s6 ⟨hr,I6⟩=>?_) λ_ _ z=>z;subst hr;obtain⟨m6,hn6,_⟩:=id I6.loc;have hp:Q a.length=G.heap.objs.size:=by rw[e5.pi a.length (by simp),q2]
    refine fin G.heap.objs.size s3.heap.objs.size Q H5 s6 (e12.trans e5) R5 ?_ ⟨m6,hn6⟩ I3.sz (Vf (UB I3.lt)) I6.free (λy c hc z=>?_) (λq hq z=>?_) λh' hh=>CompOk.back I3 f3 I6 hh
    ·rw[<- hp];exact .loc (UM (by simp) e5.le)
    ·obtain⟨v,o,ho,_⟩:=I3.cell y c hc;exact UB (Uh ho) z
    ·exact UB (Uh (I3.pin q hq).1) z
   |some d=>
    obtain⟨z,hz,h7⟩:=TZ.mp h7;obtain⟨⟨b,μ6⟩,h8,h9⟩:=TZ.mp h7;obtain⟨g1,g2⟩:=W.go Q μ5 H5 i d (e2.trans e5) R5 h6;refine UK (T.item (cE X scope cl s3.heap.objs.size (bE xs X.N++xs) s3 H3 l) rfl rfl rfl (hq a4z σ H3 s3 l I3) i [] s5 σ5 H5 (λ_ _=>False) I5 (stat fr5 rfl) st5 g1) (λr s6 ⟨u,hr,h10⟩=>?_) λ_ _ z=>z;subst hr;refine UK h10 (λ_ s7 ⟨v,H7,I7,r7,y7,st7,fr7⟩=>?_) λ_ _ z=>z;obtain⟨e7,R7,hd⟩:=g2 v H7 y7;have I7':=I7.pinned (stat fr7 rfl) (T.obj _ _ st7);have e5:=e5.trans e7;refine UK (hg _ _ _ _ _ s7 σ5 H7 v u (λU H'=>En X.K Q μ5.length H7 U (Y++z)/\H'=H7) I7' r7
     ⟨Q,Y++Wq xs.length b8,μ5,d,Y++z,R7,MB (E5.mono e7) l5,hd,(by
      show(bd d μ5).map (λx=>(Y++Wq xs.length b8).take X.N.length++x)=_;rw[hz,<- hlen,a0o];rfl),λU E'=>⟨E',rfl⟩⟩) (λ_ s8 ⟨σ8,H8,I8,E8,z2⟩=>?_) λ_ _ z=>z
    subst z2;have again:∀{s9:T6}{H9:Hp}{j:Nat->Addr}{μ9:Hm},Inv (cE X scope cl s3.heap.objs.size (bE xs X.N++xs) s3 H3 l) ([]++j7 l s7.heap) σ8 H9 s9->Ext π3 (a++[C.lst []]).length H3 j μ9.length H9->Rp X.K j H9 μ9->
      En X.K j μ9.length H9 σ8 (Y++z)->jK src bd mc me Y a.length n (i+1) μ9=b6 Z->
      ∃m,m<n+1/\∃i U H' w N o,Inv (cE X scope cl s3.heap.objs.size (bE xs X.N++xs) s3 H3 l) [] U H' s9/\tn i s9.heap/\(∀b∈l,H' b=b8)/\Ext π3 (a++[C.lst []]).length H3 w N.length H'/\Rp X.K w H' N /\
       En X.K w N.length H' U (Y++o)/\o.length=xs.length/\jK src bd mc me Y a.length m i N=b6 Z:=λ{s9 H9 j μ9} I9 e9 R9 E9 g9=>by
     refine⟨n,W8 _,i+1,_,H9,j,μ9,z,I9.unpinned,T.keep _ _ _ st7 λb B o e=>(I9.pin (b,o) (U0 _ (U0 _ (nC B e)))).1,λb B=>?_,e9,R9,E9,hb' _ _ _ hz,g9⟩;obtain⟨o,e,_⟩:=T.obj _ _ st7 b B;exact(I9.pin (b,o) (U0 _ (U0 _ (nC B e)))).2.1
    refine UK (hc _ _ _ _ _ s8 _ H8 (λb' H'=>∃j,b'=b/\Ext Q μ5.length H8 j μ6.length H'/\Rp X.K j H' μ6) I8 ⟨Q,_,μ5,b,μ6,R7,E8,h8,λj H9 e9 R9=>⟨j,rfl,e9,R9⟩⟩) (λok s9 ⟨H9,I9,j,B,e9,R9⟩=>?_) λ_ _ z=>z;subst B;cases ok with
    |false=>rw[if_neg Vl];exact again I9 (e5.trans e9) R9 (E8.mono e9) h9|true=>
     rw[if_pos rfl];obtain⟨⟨dy,μ7⟩,h11,h12⟩:=TZ.mp h9;obtain⟨μ8,h13,h14⟩:=TZ.mp h12;refine UK (he _ _ _ _ _ s9 _ H9 (λy H'=>∃A,Ext j μ6.length H9 A μ7.length H'/\Rp X.K A H' μ7/\IsD X.K A μ7.length H' y dy) I9 ⟨j,_,μ6,dy,μ7,R9,E8.mono e9,h11,λA y H10 e10 R10 i10=>⟨A,e10,R10,i10⟩⟩)
      (λu' s10 ⟨y,H10,I10,ry,A,e10,R10,i10⟩=>?_) λ_ _ z=>z
     unfold nP at h13;split at h13
     ·rename_i zs hz;split at h13
      ·rename_i hl;cases h13;obtain⟨vs,h15,h16⟩:=R10.lst _ zs hz;have eall:=(e5.trans e9).trans e10;have hp:A a.length=G.heap.objs.size:=by rw[eall.pi a.length (by simp),q2]
       obtain⟨e11,R11⟩:=R10.put (a:=a.length) (c:=.lst (zs++[dy])) (o:=.lst (vs++[y])) (T8.mp hz).1 h15 (.inl ⟨vs,rfl⟩) (h16.append (.cons i10 .nil));rw[hp]at h15 e11 R11;refine UK (B9 (X:=cE X scope cl s3.heap.objs.size (bE xs X.N++xs) s3 H3 l) _ s10 _ H10 (.ref G.heap.objs.size) [y] (.ref G.heap.objs.size) [u'] (λ_ H'=>H'=aG H10 G.heap.objs.size (.lst (vs++[y]))) I10 rfl (.cons ry .nil)
        ⟨G.heap.objs.size,vs,y,rfl,rfl,h15,by rw[h16.length];exact hl,rfl⟩) (λ_ s11 ⟨_,H11,I11,_,z⟩=>?_) λ_ _ z=>z
       subst z;exact again I11 (eall.trans e11) R11 ((E8.mono (e9.trans e10)).mono e11) h14
      ·cases h13
     ·cases h13
 have l4:=loop {s3 with heap:=h₁,toks:=G.toks+([]:List (Str×Value)).length} ⟨_,rfl⟩;have hst4:tn 0 h₁:=T.keep 0 _ _ st3 λb B o e=>hk1 b o e;subst hs3;exact codeAny_compStart_list l4 (T.self _ 0 _ _ _ hst4 l4)
theorem Dp{q:Cx->Prop}(O:CompOk X scope cl xs)(N:∀a4z σ H s a,Inv X a4z σ H s->q (cE X scope cl s.heap.objs.size (bE xs X.N++xs) s H a))(G:pQ q X tg iter (tMI X.K mi))(c:∀d μ z,bd d μ=b6 z->z.length=xs.length)(B:∀C s₀ H₀ a,PG (cE X scope cl C (bE xs X.N++xs) s₀ H₀ a) tg (tMG X.K (gB X.N.length bd)))
  (hc:∀C s₀ H₀ a,mB (cE X scope cl C (bE xs X.N++xs) s₀ H₀ a) ifs mc)(A:∀C s₀ H₀ a,PE (cE X scope cl C (bE xs X.N++xs) s₀ H₀ a) elt (tM X.K me))
  (T:∀x,Xr iter X.env x=pure x):PE X (.ListComp elt [⟨tg,iter,ifs,0⟩] scope pos) (tM X.K (kK bd mi mc me)):=by
 intro a4z s σ H Q I hw;obtain⟨π,ρ,μ,d,μ',R,E,K,k⟩:=hw;rw[eval_ListComp];refine Dm (use:=b8) O N G c B hc A T I R E K λp C j l s' v u Y i U M h n r back=>?_;obtain⟨m,L⟩:=i;exact⟨m,L,λw Z=>⟨.ref p,l,back w (λb o y e=>(Z.2 b y).trans e),rfl,k j _ l v u Y⟩⟩
theorem MC(O:CompOk X scope cl xs)(a:X.calm=c4)(i:PI X tg iter (tMI X.K mi))(c:∀d μ z,bd d μ=b6 z->z.length=xs.length)(h:∀C s₀ H₀ b,PG (cE X scope cl C (bE xs X.N++xs) s₀ H₀ b) tg (tMG X.K (gB X.N.length bd)))
  (hc:∀C s₀ H₀ b,mB (cE X scope cl C (bE xs X.N++xs) s₀ H₀ b) ifs mc)(e:∀C s₀ H₀ b,PE (cE X scope cl C (bE xs X.N++xs) s₀ H₀ b) elt (tM X.K me))
  (j:∀x,Xr iter X.env x=pure x):PE X (.ListComp elt [⟨tg,iter,ifs,0⟩] scope pos) (tM X.K (kK bd mi mc me)):=Dp O (λ_ _ _ _ _ _=>a) i c h hc e j
theorem MH{i:Nat}{y:Str}{py h:VW}(O:CompOk X scope cl xs)(hN:X.N.Nodup)(j:X.calm=c4)(hi:PI X tg iter (tMI X.K mi))(G:∀d μ z,bd d μ=b6 z->z.length=xs.length)(hg:∀C s₀ H₀ q,PG (cE X scope cl C (bE xs X.N++xs) s₀ H₀ q) tg (tMG X.K (gB X.N.length bd)))
  (hc:∀C s₀ H₀ q,mB (cE X scope cl C (bE xs X.N++xs) s₀ H₀ q) ifs mc)(he:∀C s₀ H₀ q,PE (cE X scope cl C (bE xs X.N++xs) s₀ H₀ q) elt (tM X.K me))
  (hs:∀x,Xr iter X.env x=pure x)(hy:X.N[i]?=b6 y)(Z:X.env.scope.names.lookup y=b6 .local)
  (M:YK (.ListComp elt [⟨tg,iter,ifs,0⟩] scope pos) (b6 (.Name y py)) h.line X.env=pure c4) :
  PS X (.Assign [.Name y py] (.ListComp elt [⟨tg,iter,ifs,0⟩] scope pos) h) (tMS X.K (aQ i (kK bd mi mc me))):=by
 intro n s σ H EN I hw;obtain⟨π,ρ,μ,fl,ρ',μ',R,E,K,k⟩:=hw;obtain⟨⟨d,μ1⟩,h1,K⟩:=T7.mp K;cases K;rw[exec_Assign_Name_used _ _ _ _ M];refine T5 (YZ ?_);refine T5 (T5 ?_);refine Dm (use:=b6 (Z5 (.Name y py) X.env)) (QQ:=λ_ v=>Uu (Ut X.prog X.w) X.A (pure ()) (λ_ Q=>Uu (Ut X.prog X.w) X.A (pure Flow.next) (SP X n EN) X.xe Q) X.xe v) O (λ_ _ _ _ _ _=>j) hi G hg hc he hs I R E h1 λp C U w v Y R1 i1 L N r l c u back=>?_;obtain⟨m,hn⟩:=L;have I1:Inv X n σ w v:=back v.heap λb o _ e=>e;show Uu (Ut X.prog X.w) X.A (Z5 (.Name y py) X.env (.ref p)) _ X.xe v;refine a3j ?_;refine sE I1 hN hy (.inl Z) (show RelV (.ref p) (.ref p)from rfl) (λs2 I2 ⟨a,sb,B⟩=>?_) (.inr Z);have A:C≠a:=by
  rcases B with rfl|B
  ·exact r
  ·exact Vf (c _ _ B)
 refine⟨m,hn.sameBut sb A,λh' T=>Ui (Ui ?_)⟩;refine⟨σ.set i (b6 (.ref p)),w,I2.turned (t':=s2.toks) (λb o hb e=>(T.2 b hb).trans e) l r (.inr N) c u,?_⟩;exact k U _ w Y R1 ((E.mono Y).set i1 i)
end
end L3
namespace L3
open PySem L2
noncomputable def aZ:ME:=λ_ _=>b8
noncomputable def iM:MT:=λ_ _=>b8
noncomputable def aY:MS:=λ_ _=>b8
section
variable{X:Cx}{e a b c o:Expr}{m m1 m2 ma mb mc:ME}{pos:VW}{mt mu:MT}{rest es:List Expr}{ms:MA}{n:Nat}
theorem bD:QE X e aZ:=⟨λa4z s σ H Q I h=>by
 obtain⟨p,q,l,d,j,R,E,i,k⟩:=h;cases i⟩
theorem tF:QT X e iM:=⟨λa4z s σ H Q I h=>by
 obtain⟨p,q,l,d,j,R,E,i,k⟩:=h;cases i⟩
theorem MJ:QW X e iM:=⟨λl a4z s σ H Q I h=>by
 obtain⟨q,r,p,d,j,R,E,i,k⟩:=h;cases i⟩
theorem cH{st:Stmt}:QS X st aY:=⟨λa4z s σ H D I h=>by
 obtain⟨q,r,p,l,j,i,R,E,d,k⟩:=h;cases d⟩
theorem tG{g:MG}(l:∀d j μ,g d j μ=b8):QG X e g:=⟨λa4z s σ H v u Q I r h=>by
 obtain⟨q,j,μ,d,p,R,E,hd,i,k⟩:=h;rw[l]at i;cases i⟩
theorem nU(h1:QE X e m1)(p:QE X e m2)(h:∀i μ r,m i μ=b6 r->m1 i μ=b6 r\/m2 i μ=b6 r):QE X e m:=⟨λa4z s σ H Q I q=>by
 obtain⟨l,i,μ,d,j,R,E,u,k⟩:=q;rcases h i μ _ u with z|z
 ·exact h1.h a4z s σ H Q I ⟨l,i,μ,d,j,R,E,z,k⟩
 ·exact p.h a4z s σ H Q I ⟨l,i,μ,d,j,R,E,z,k⟩⟩
theorem tH{m m1 m2:MT}(h1:QT X e m1)(p:QT X e m2)(h:∀i μ r,m i μ=b6 r->m1 i μ=b6 r\/m2 i μ=b6 r):QT X e m:=⟨λa4z s σ H Q I q=>by
 obtain⟨l,i,μ,d,j,R,E,u,k⟩:=q;rcases h i μ _ u with z|z
 ·exact h1.h a4z s σ H Q I ⟨l,i,μ,d,j,R,E,z,k⟩
 ·exact p.h a4z s σ H Q I ⟨l,i,μ,d,j,R,E,z,k⟩⟩
theorem iN{f j l:D->D->Hm->Option (D×Hm)}(h:∀x y μ r,f x y μ=b6 r->j x y μ=b6 r\/l x y μ=b6 r) :
  ∀i μ r,aC f ma mb i μ=b6 r->aC j ma mb i μ=b6 r\/aC l ma mb i μ=b6 r:=by
 intro i μ r d;obtain⟨p,s,d⟩:=TZ.mp d;obtain⟨q,u,d⟩:=TZ.mp d;rcases h _ _ _ _ d with z|z
 ·exact .inl (TZ.mpr ⟨p,s,TZ.mpr ⟨q,u,z⟩⟩)
 ·exact .inr (TZ.mpr ⟨p,s,TZ.mpr ⟨q,u,z⟩⟩)
theorem tI(h:∀d μ r,m d μ=b6 r->m1 d μ=b6 r\/m2 d μ=b6 r):∀d μ r,aP m d μ=b6 r->aP m1 d μ=b6 r\/aP m2 d μ=b6 r:=by
 intro d μ r i;obtain⟨p,j,i⟩:=TZ.mp i;rcases h _ _ _ j with z|z
 ·exact .inl (TZ.mpr ⟨p,z,i⟩)
 ·exact .inr (TZ.mpr ⟨p,z,i⟩)
noncomputable def yF:List D->Option (List Int)
 |[]=>b6 []|.int i::r=>(yF r).map (i::·)|_=>b8
noncomputable def dS:D->Option (List Int)
 |.tup ds=>yF ds|_=>b8
noncomputable def bY(kvs:List (List Int×D))(k:List Int):Option D:=(kvs.find? λp=>decide (p.1=k)).map (·.2)
noncomputable def jM(kvs:List (List Int×D))(k:List Int)(d:D):List (List Int×D):=if(bY kvs k).isSome then kvs.map (λp=>if p.1=k then(p.1,d)else p)else kvs++[(k,d)]
noncomputable def aH:D->D->Hm->Option (D×Hm):=λx y μ=>match x with
 |.loc a=>match μ[a]? with
  |some (.dK kvs)=>(kF y).bind λk=>(fU kvs k).map λd=>(d,μ)|some (.dT kvs)=>(dS y).bind λk=>(bY kvs k).map λd=>(d,μ)|some (.dF kvs)=>(dS y).bind λk=>(bY kvs k).map λd=>(d,μ)|_=>dU x y μ
 |_=>dU x y μ
structure TabOk(X:Cx)(x:Str)(kvs:List (aK×D)):Prop where
 ex:∃(p:Addr)(vs:List (aK×V))(ws:List (aK×Value)),X.mg x=b6 (.ref p)/\(∀h:Vb,X.K.In h->h.DictOf (d5 X.prog X.w) p ws)/\KV vs ws/\∀π n H,IsKs X.K π n H vs kvs
theorem Dq{a4z:List (Addr×Obj)}{σ:St}{H:Hp}{s:T6}(I:Inv X a4z σ H s){p:Addr}{d:Obj}(h:X.K.lookup p=b6 d):H p=none:=(I.bs p d (I.mod.kin p d h)).2
theorem Dr{K:T3}{π:Nat->Addr}{H:Hp}{μ:Hm}(R:Rp K π H μ){d:Nat}(s:d<μ.length):∃u,H (π d)=b6 u/\(∀vs,u≠.tup vs)/\∀j v,(∀l,v≠HO.ext l)->u≠.frz j v:=by
 cases q:μ[d]? with
 |none=>exact absurd (WW.mp q) (by omega)|some p=>
  cases p with
  |lst i=>obtain⟨vs,h,_⟩:=R.lst d i q;exact⟨_,h,(λ_ z=>nomatch z),λ_ _ _ z=>nomatch z⟩|dK i=>obtain⟨vs,h,_⟩:=R.dK d i q;exact⟨_,h,(λ_ z=>nomatch z),λ_ _ _ z=>nomatch z⟩|st i=>obtain⟨vs,h,_⟩:=R.st d i q;exact⟨_,h,(λ_ z=>nomatch z),λ_ _ _ z=>nomatch z⟩|dT i=>obtain⟨vs,h,_⟩:=R.dT d i q;exact⟨_,h,(λ_ z=>nomatch z),λ_ _ _ z=>nomatch z⟩|dF i=>obtain⟨j,vs,h,_⟩:=R.dF d i q;exact⟨_,h,(λ_ z=>nomatch z),λ_ _ n z=>n _ (by cases z;rfl)⟩|exc x r ds=>obtain⟨j,l,h,_⟩:=R.exc d x r ds q;exact⟨_,h,(λ_ z=>nomatch z),λ_ _ n z=>n _ (by cases z;rfl)⟩
section
variable{a4z:List (Addr×Obj)}{σ:St}{H:Hp}{s:T6}{π:Nat->Addr}{μ:Hm}
theorem Ds(I:Inv X a4z σ H s)(R:Rp X.K π H μ){i:Nat}(p:i<μ.length){vs:List V}(h:SqT X.K H (π i) vs):False:=by
 obtain⟨u,d,j,l⟩:=Dr R p;rcases h with(h|⟨v,h⟩)|⟨v,r,n,q,_⟩
 ·rw[d]at h;exact j _ (Ux h)
 ·rw[d]at h;exact l _ (.tup vs) (λw z=>nomatch z) (Ux h)
 ·rw[Dq I q]at d;cases d
theorem Dt(I:Inv X a4z σ H s)(R:Rp X.K π H μ){i:Nat}(l:i<μ.length){vs:List V}(h:RoL X.K H (π i) vs):False:=by
 obtain⟨u,d,v,j⟩:=Dr R l;rcases h with⟨r,h⟩|⟨r,q,n,p,_⟩
 ·rw[d]at h;exact j _ (.lst vs) (λw z=>nomatch z) (Ux h)
 ·rw[Dq I p]at d;cases d
theorem Du(I:Inv X a4z σ H s){p:Addr}{vs ws:List V}(h:SqT X.K H p vs)(h':RoL X.K H p ws):False:=by obtain⟨i,_,t,_⟩:=I.tuple h;obtain⟨d,_,l,_⟩:=I.list h'.sq;exact absurd rfl (Wl l.isList t)
mutual
theorem Dv(I:Inv X a4z σ H s)(R:Rp X.K π H μ){v:V}{d d':D}:IsD X.K π μ.length H v d->IsD X.K π μ.length H v d'->d=d'
 |.non,h'=>by cases h';rfl
 |.bl _,h'=>by cases h';rfl
 |.int _,h'=>by cases h';rfl
 |.str _,h'=>by cases h';rfl
 |.ty _,h'=>by cases h';rfl
 |.tup h t,h'=>by
  cases h' with
  |tup i j=>have:=I.tuple_inj h i;subst this;rw[yG I R t j]|rol i j=>exact(Du I h i).elim|loc i=>exact(Ds I R i h).elim
 |.rol h t,h'=>by
  cases h' with
  |tup i j=>exact(Du I i h).elim|rol i j=>have:=I.list_inj h.sq i.sq;subst this;rw[yG I R t j]|loc i=>exact(Dt I R i h).elim
 |.loc (a:=a1) ha,h'=>by
  generalize hz:V.ref (π a1)=z at h';cases h' with
  |tup i j=>cases hz;exact(Ds I R ha i).elim|rol i j=>cases hz;exact(Dt I R ha i).elim|loc i=>have:=R.inj _ _ ha i (V.ref.inj hz);rw[this]|_=>cases hz
theorem yG(I:Inv X a4z σ H s)(R:Rp X.K π H μ){vs:List V}{ds d:List D}:IsDs X.K π μ.length H vs ds->IsDs X.K π μ.length H vs d->ds=d
 |.nil,h'=>by cases h';rfl
 |.cons h t,h'=>by
  cases h' with
  |cons i j=>rw[Dv I R h i,yG I R t j]
end
end
noncomputable def kL(μ:Hm)(x:D):List D->Option Bool
 |[]=>b6 b9|y::r=>(cV 8 μ y x).bind λb=>(kL μ x r).map λc=>b||c
noncomputable def kM(a:Bool):D->D->Hm->Option (D×Hm):=λx y μ=>(bJ μ y).bind λys=>(kL μ x ys).map λb=>(.bl (if a then !b else b),μ)
noncomputable def yH(K:T3)(a:Bool):R2:=λx y H Q=>∃π μ c d ys b,Rp K π H μ/\IsD K π μ.length H x c/\IsD K π μ.length H y d/\bJ μ d=b6 ys/\kL μ c ys=b6 b/\Q (.bl (if a then !b else b)) H
theorem tJ{K:T3}{c:Bool}:cT K (kM c) (yH K c):=by intro e H q x y d n o p Q R j l a k;obtain⟨m,h,a⟩:=TZ.mp a;obtain⟨b,i,a⟩:=T7.mp a;cases a;exact⟨e,_,x,y,m,b,R,j,l,h,i,k e _ H .refl R (.bl _)⟩
theorem tK{a4z:List (Addr×Obj)}{σ:St}{H:Hp}{s:T6}{π:Nat->Addr}{μ:Hm}(I:Inv X a4z σ H s)(R:Rp X.K π H μ){A:UD}(T:A.units+8<Wi){x:V}{v:Value}{l:D}(rx:RelV x v)(ix:IsD X.K π μ.length H x l) :
  ∀{ys:List D}{vs:List V}{us:List Value}{b:Bool},IsDs X.K π μ.length H vs ys->Vals vs us->kL μ l ys=b6 b->
   ∃g:Value->Bool,(∀u∈us,a0h A s u v (g u))/\us.any g=b:=by
 classical
 intro ys vs us b i j d
 have n:∀{ys:List D}{vs:List V}{us:List Value}{b:Bool},IsDs X.K π μ.length H vs ys->Vals vs us->kL μ l ys=b6 b->(∀u∈us,∃c,a0h A s u v c/\∃w m,RelV w u/\IsD X.K π μ.length H w m/\cV 8 μ m l=b6 c):=by
  intro ys
  induction ys with
  |nil=>
   intro vs us b i j d u a
   cases i
   cases j
   cases a
  |cons y ys G=>
   intro vs us b i j d u a
   cases i with
   |cons h t=>
    cases j with
    |cons r rt=>
     obtain⟨c,q,d⟩:=TZ.mp d
     obtain⟨N,B,d⟩:=T7.mp d
     rcases UX.mp a with rfl|a
     ·exact⟨c,CD I R 8 T r rx h ix q,_,_,r,h,q⟩
     ·exact G t rt B u a
 have o:=n i j d
 refine⟨λu=>if h:u∈us then Zw (o u h)else b9,λu a=>?_,?_⟩
 ·simp only[dif_pos a]
  exact(a0s (o u a)).1
 ·have K:∀u (h:u∈us) w m c,RelV w u->IsD X.K π μ.length H w m->cV 8 μ m l=b6 c->Zw (o u h)=c:=by
   intro u h w m c L Z M
   obtain⟨_,w2,O,r2,Y,Q⟩:=a0s (o u h)
   have:w2=w:=r2.inj L
   subst this
   have:=Dv I R Y Z
   subst this
   rw[Q]at M
   exact Ux M
  have p:∀{ys:List D}{vs:List V}{e:List Value}{b:Bool},(∀u∈e,u∈us)->IsDs X.K π μ.length H vs ys->Vals vs e->kL μ l ys=b6 b->e.any (λu=>if h:u∈us then Zw (o u h)else b9)=b:=by
   intro ys
   induction ys with
   |nil=>
    intro vs e b E i j d
    cases i
    cases j
    cases d
    rfl
   |cons y ys G=>
    intro vs e b E i j d
    cases i with
    |cons h t=>
     cases j with
     |@cons _ u _ us2 r rt=>
      obtain⟨c,q,d⟩:=TZ.mp d
      obtain⟨N,B,d⟩:=T7.mp d
      have iA:u∈us:=E u (UZ ..)
      rw[YN,G (λz U=>E z (UO _ U)) t rt B,dif_pos iA,K u iA _ _ c r h q]
      exact d
  exact p (λ_ h=>h) i j d
theorem tL{k:Nat}{A:UD}(r:Room k A):A.units+9<Wi:=by have:=r.un;omega
theorem Dw(K:X.A.units+9<Wi):OpR X (VN .In) (yH X.K b9):=by
 intro n s T H x y v u Q I m B h;obtain⟨O,N,E,G,M,b,R,l,A,o,j,q⟩:=h;obtain⟨p,L,rfl,c,hd⟩:=nQ R A o;cases B;rcases c with c|c
 ·obtain⟨a,r,i,z⟩:=I.list c;obtain⟨g,d,e⟩:=tK I R (A:=X.A.in1) (by rw[nM];omega) m l hd r j;refine SeqAt.in_listAt g i.isList (λw hw=>d w (by simpa using hw)) ⟨.bl _,H,I,rfl,?_⟩;rw[show a.toArray.any g=a.any g by simp,e];exact q
 ·obtain⟨a,r,i,z⟩:=I.tuple c;obtain⟨g,d,e⟩:=tK I R (A:=X.A.in1) (by rw[nM];omega) m l hd r j;refine SeqAt.in_tupleAt g i (λw hw=>d w (by simpa using hw)) ⟨.bl _,H,I,rfl,?_⟩;rw[show a.toArray.any g=a.any g by simp,e];exact q
theorem Dx(K:X.A.units+9<Wi):OpR X (VN .NotIn) (yH X.K c4):=by
 intro n s T H x y v u Q I m B h;obtain⟨O,N,E,G,M,b,R,l,A,o,j,q⟩:=h;obtain⟨p,L,rfl,c,hd⟩:=nQ R A o;cases B;rcases c with c|c
 ·obtain⟨a,r,i,z⟩:=I.list c;obtain⟨g,d,e⟩:=tK I R (A:=X.A.in1) (by rw[nM];omega) m l hd r j;refine SeqAt.notIn_listAt g i.isList (λw hw=>d w (by simpa using hw)) ⟨.bl _,H,I,rfl,?_⟩;rw[show a.toArray.any g=a.any g by simp,e];exact q
 ·obtain⟨a,r,i,z⟩:=I.tuple c;obtain⟨g,d,e⟩:=tK I R (A:=X.A.in1) (by rw[nM];omega) m l hd r j;refine SeqAt.notIn_tupleAt g i (λw hw=>d w (by simpa using hw)) ⟨.bl _,H,I,rfl,?_⟩;rw[show a.toArray.any g=a.any g by simp,e];exact q
noncomputable def bZ(b:Bool):D->D->Hm->Option (D×Hm)
 |.str i,.str j,μ=>b6 (.bl (if b then !(!(VF j i 0 j.length 1).isEmpty)else !(VF j i 0 j.length 1).isEmpty),μ)|x,.loc a,μ=>match μ[a]? with
  |some (.dT kvs)=>(dS x).map λk=>(.bl (if b then !(bY kvs k).isSome else(bY kvs k).isSome),μ)|some (.dF kvs)=>(dS x).map λk=>(.bl (if b then !(bY kvs k).isSome else(bY kvs k).isSome),μ)|_=>kM b x (.loc a) μ
 |x,y,μ=>kM b x y μ
noncomputable def yI:D->D->Hm->Option (D×Hm)
 |.str i,.str j,μ=>b6 (.bl (!(!(VF j i 0 j.length 1).isEmpty)),μ)|_,_,_=>b8
theorem Dy{K:T3}:cT K yI (λx y H Q=>∃i j,x=.str i/\y=.str j/\Q (.bl (!(!(VF j i 0 j.length 1).isEmpty))) H):=by
 intro h H n x y d e l m Q R b c a k;unfold yI at a;split at a
 ·cases a;cases b;cases c;exact⟨_,_,rfl,rfl,k h _ H .refl R (.bl _)⟩
 ·cases a
end
end L3
namespace L3
open PySem L2
section
variable{X:Cx}{e a b c o:Expr}{m m1 m2 ma mb mc mo:ME}{pos apos cpos:VW}{mt mu:MT}{rest es:List Expr}{ms:MA}{n:Nat}
noncomputable def nV(μ:Hm):D->Bool
 |.rol _=>c4|.loc a=>match μ[a]? with|some (.lst _)=>c4|_=>b9
 |_=>b9
noncomputable def nW(f:D->List D->Hm->Option (D×Hm))(mo:ME)(ms:MA):ME:=λd μ=>(mo d μ).bind λp=>match nV p.2 p.1 with
 |true=>(ms d p.2).bind λq=>f p.1 q.1 q.2|false=>b8
noncomputable def yJ(K:T3)(f:D->List D->Hm->Option (D×Hm))(r:V->List V->Hp->VK->Prop):Prop:=
 ∀j H h x p d i v l Q,Rp K j H h->IsD K j h.length H v x->IsDs K j h.length H l p->f x p h=b6 (d,i)->KC K Q j h.length H d i->r v l H Q
theorem MK{K:T3}{π:Nat->Addr}{H:Hp}{μ:Hm}{v:V}{x:D}(R:Rp K π H μ)(h:IsD K π μ.length H v x)(e:nV μ x=c4):w8 K "list" v H:=by
 cases h with
 |rol h t=>exact .inl ⟨rfl,_,h.sq⟩|@loc a p=>
  simp only[nV]at e;split at e
  ·rename_i l i;obtain⟨j,d,_⟩:=R.lst a l i;exact .inl ⟨rfl,j,.of d⟩
  ·cases e
 |_=>cases e
theorem ML{K:T3}{f:D->List D->Hm->Option (D×Hm)}{r:V->List V->Hp->VK->Prop}(I:yJ K f r):∀σ H Q,tM K (nW f mo ms) σ H Q->B6 K "list" r (tM K mo) (tMA K ms) σ H Q:=by
 rintro σ H Q ⟨U,z,T,d,l,R,E,h,k⟩;obtain⟨⟨x,i⟩,B,h⟩:=TZ.mp h;dsimp only at h;split at h
 ·rename_i L;obtain⟨⟨y,j⟩,G,h⟩:=TZ.mp h;refine⟨U,z,T,x,i,R,E,B,λp N Y u s w=>⟨MK s w L,p,z,i,y,j,s,E.mono u,G,λq O A v R2 M=>?_⟩⟩;exact I q A j x y d l N O Q R2 (w.mono v) M h (k.after (u.trans v))
 ·cases h
noncomputable def kN:Expr->Bool
 |.Call (.Name _ _) [] [] _=>b9|_=>c4
theorem nX{o:Expr}{j:Str}{env:YD}{d:a1B Value}(h:kN o=c4):Yo o j env d=d:=by
 cases o with
 |Call f i l p=>
  cases f with
  |Name id q=>
   cases i with
   |nil=>
    cases l with
    |nil=>cases h|cons _ _=>rfl
   |cons _ _=>rfl
  |_=>rfl
 |_=>rfl
theorem MM{e:Expr}{es:List Expr}{env:YD}{cpos:VW}(h:(e::es).all cC=c4)(j:(e::es).length<30) :
  ((W6 cpos (UW (e::es) env)).all (λx=>!x.1)&&(a1f cpos (ZF [] env)).all (λx=>x.1.isSome)
   && decide ((e::es).length+([]:List Xs).length+(if([]:List Xs).isEmpty then 0 else 1)<30))=true:=by
 have d:(W6 cpos (UW (e::es) env)).all (λx=>!x.1)=true:=by have:=kG (pos:=cpos) (env:=env) h;rw[List.all_eq_not_any_not];simpa using this
 rw[d];have i:(e::es).length+([]:List Xs).length+(if([]:List Xs).isEmpty then 0 else 1)<30:=by show(e::es).length+0+0<30;omega
 rw[decide_eq_true i];rfl
theorem MN{f:D->List D->Hm->Option (D×Hm)}{r:V->List V->Hp->VK->Prop}{name:Str}{id:String}(i:Slot "list" name id) (j:typeOf (.builtin id)=pure (.type "method_descriptor")) (s:B7 X id r)(p:yJ X.K f r)
  (v:QE X o mo)(l:QA X (e::es) ms n)(w:kN o=c4)(q:(apos.endLine==cpos.line)=c4)(u:(e::es).length<30):QE X (.Call (.Attribute o name apos) (e::es) [] cpos) (nW f mo ms):=by
 have h:=l.s;have d:=h;rw[Va,T4]at d;exact⟨cS (JR PySem.F.plainAttrs_list i j s v.h l.h (nX w) (MM h u) q (dR d.1) (kG d.2)) (ML p)⟩
noncomputable def nY:D->List D->Hm->Option (D×Hm)
 |.loc a,[y],μ=>(nP μ a y).map λd=>(.non,d)|_,_,_=>b8
theorem MP{K:T3}:yJ K nY B8:=by
 intro L H O x N d G v M Q R B j i k;unfold nY at i;split at i
 ·rename_i a y;obtain⟨I,h,i⟩:=T7.mp i;cases i;unfold nP at h;split at h
  ·rename_i s r;split at h
   ·rename_i z;cases h;obtain⟨l,p,q⟩:=R.lst a s r;cases B;cases j with
    |cons E A=>cases A;obtain⟨w,u⟩:=R.put (a:=a) (c:=.lst (s++[y])) (o:=.lst (l++[_])) (T8.mp r).1 p (.inl ⟨l,rfl⟩) (q.append (.cons E .nil));exact⟨_,l,_,rfl,rfl,p,by rw[q.length];exact z,k L _ _ w u .non⟩
   ·cases h
  ·cases h
 ·cases i
noncomputable def nZ(μ:Hm):D->Option Bool
 |.non=>b6 b9|.bl b=>b6 b|.int i=>b6 (i != 0)|.str z=>if z.length<=Uo then b6 ((z.length:Int) != 0)else b8|.tup xs=>b6 (!xs.isEmpty)|.rol xs=>b6 (!xs.isEmpty)|.loc a=>match μ[a]? with|some (.lst xs)=>b6 (!xs.isEmpty)|some (.dK kvs)=>b6 (!kvs.isEmpty)|_=>b8
 |.ty _=>b8
theorem tP{d i:Type}{xs:List d}{ys:List i}(h:xs.length=ys.length):xs.isEmpty=ys.isEmpty:=by cases xs<;>cases ys<;>first|rfl|cases h
theorem MQ{K:T3}{π:Nat->Addr}{H:Hp}{μ:Hm}{v:V}{x:D}{b:Bool}(R:Rp K π H μ)(h:IsD K π μ.length H v x)(e:nZ μ x=b6 b):wR K v H b:=by
 cases h with
 |non=>cases e;rfl|bl c=>cases e;rfl|int i=>cases e;rfl|str z=>
  simp only[nZ]at e;split at e
  ·rename_i r;cases e;exact⟨r,rfl⟩
  ·cases e
 |tup h t=>cases e;exact .inr (.inl ⟨_,h,by rw[tP t.length]⟩)|rol h t=>cases e;exact .inl ⟨_,h.sq,by rw[tP t.length]⟩|@loc a u=>
  simp only[nZ]at e;split at e
  ·rename_i s l;cases e;obtain⟨q,d,j⟩:=R.lst a s l;exact .inl ⟨q,.of d,by rw[tP j.length]⟩
  ·rename_i p l;cases e;obtain⟨q,d,j,_⟩:=R.dK a p l;refine .inr (.inr ⟨q,d,?_⟩);have:=congrArg Wh j;rw[Uc,Uc]at this;rw[tP this]
  ·cases e
 |ty n=>cases e
noncomputable def bK(m:ME):MT:=λd μ=>(m d μ).bind λp=>(nZ p.2 p.1).map λb=>(b,p.2)
theorem MU(h:QE X e m)(s:jL e=c4):QT X e (bK m):=⟨qA (IS h.h (Df s)) (by
 rintro I H Q ⟨z,A,v,b,w,R,E,d,k⟩;obtain⟨⟨x,y⟩,q,d⟩:=TZ.mp d;obtain⟨B,r,d⟩:=T7.mp d;cases d;exact⟨z,A,v,x,_,R,E,q,λi G l p j u=>⟨_,MQ j u r,k i l p j⟩⟩)⟩
theorem MV{k:Nat}{f:Addr}{l:VQ}{ps:List Str}{q:MF}{x:Str}{p:VW}(F:FnOk X.prog X.w X.K X.mg X.base cY k f l ps (eM X.K 0 q))(w:Room k X.A)(h:X.mg x=b6 (.ref f))
  (v:U9 X.K (.ref f)=c4)(s:Binds X.K l ps [])(u:Gl X x)(i:(x==("__debug__":Str))=b9):QE X (.Call (.Name x p) [] [] pos) (aE q aD):=
 ⟨cS (Jc F w u h v s .nil (E:=E0) Cf i) (by
  rintro I H Q ⟨A,G,y,d,j,R,E,h,k⟩;obtain⟨⟨B,z⟩,r,h⟩:=TZ.mp h;cases r;exact⟨rfl,A,[],y,d,j,R,.nil,h,k⟩)⟩
theorem MW:QS X (.Return b8 pos) (aX (mC .non)):=⟨jF Ie (by
 rintro E s H ⟨i,r,q,p,j,h,R,l,d,k⟩;cases d;exact k i .non H .refl R .non)⟩
end
end L3
namespace L3
open PySem L2
noncomputable def n6:List D->Option (List Bool)
 |[]=>b6 []|.bl b::r=>(n6 r).map (b::·)|_=>b8
noncomputable def tQ:MF:=λds μ=>match ds with
 |[x]=>(bJ μ x).bind λa=>(n6 a).map λbs=>(.bl (bs.all id),μ)|_=>b8
theorem Dz{K:T3}{π:Nat->Addr}{n:Nat}{H:Hp}:∀{xs:List D}{vs:List V}{bs:List Bool},IsDs K π n H vs xs->n6 xs=b6 bs->vs=bs.map V.bl
 |[],_,bs,h,e=>by cases h;cases e;rfl
 |x::xs,vs,bs,h,e=>by
  cases h with
  |cons h t=>
   cases x with
   |bl b=>obtain⟨a,c,d⟩:=T7.mp e;subst d;cases h;rw[Dz t c];rfl|_=>cases e
noncomputable def DA(K:T3)(g:List Bool->Bool):List V->Hp->VK->Prop:=λxs H Q=>∃p bs,xs=[.ref p]/\(SqL K H p (bs.map V.bl)\/SqT K H p (bs.map V.bl))/\Q (.bl (g bs)) H
theorem MX{K:T3}{g:List Bool->Bool}{f:MF}(e:f=λds μ=>match ds with|[x]=>(bJ μ x).bind λxs=>(n6 xs).map λbs=>(.bl (g bs),μ)|_=>b8):eN K f (DA K g):=by
 subst e;intro j H μ xs d h l Q R i a k;dsimp only at a;split at a
 ·obtain⟨n,b,a⟩:=TZ.mp a;obtain⟨bs,c,a⟩:=T7.mp a;cases a;cases i with
  |cons i t=>cases t;obtain⟨p,m,rfl,q,hd⟩:=nQ R i b;have:=Dz hd c;subst this;exact⟨p,bs,rfl,q,k j _ H .refl R (.bl _)⟩
 ·cases a
theorem DB{bs:List Bool}{n:Nat}(a:n=bs.length):(Vv n).all (λi=>bs.getD i b9)=bs.all id:=by
 subst a;induction bs with
 |nil=>rfl|cons b bs c=>rw[UA,a0R,Va,a3x,Va,<- c];rfl
section
variable{X:Cx}
theorem DC{prog:Ur}{w:UJ}{A:UD}{bs:List Bool}{a:List Value}(r:Vals (bs.map V.bl) a):TruthOf prog w A (λi v=>a.toArray[i]?=b6 v) (λi=>bs.getD i b9):=by
 intro i v s Q E l c;have b:a[i]?=b6 v:=by simpa using l
 have h:i<bs.length:=by have:=(T8.mp b).1;have:=r.length;rw[Uc]at this;omega
 obtain⟨u,d,j⟩:=r.get (i:=i) (x:=.bl bs[i]) (by rw[UU,T9 h];rfl);rw[b]at d;cases d;cases j;have e:bs.getD i b9=bs[i]:=by simp[Vr,h]
 dsimp only at c;rw[e]at c;exact Wc c
theorem MY(hc:X.calm=c4):CallR X (.builtin "all") (DA X.K (·.all id)):=by
 intro z s L H K G Q I r h;obtain⟨p,bs,rfl,l,q⟩:=h;obtain⟨u,rfl,E⟩:=iI r;cases E;have y:X.A.in1.handled=none:=I.ok.hd hc;rcases l with l|l
 ·obtain⟨a,m,j,B⟩:=I.list l;refine call_all_walk (a0c j.isList ?_);have d:p≠s.heap.objs.size:=by obtain⟨o,v,_⟩:=j.isList;exact UB (Uh v)
  refine⟨s.heap.objs.size,_,_,_,_,_,λi=>bs.getD i b9,rfl,Walks.list y _ p d a.toArray,⟨⟨_,UC _ rfl,rfl,rfl⟩,j.isList.push _⟩,DC m,λA x w=>?_⟩;have c:a.toArray.size=bs.length:=by rw[Ue,<- m.length,Uc]
  refine⟨.bl _,H,I.kept (t':=x) λb o e=>w b o ?_ (Ua _ e),rfl,?_⟩
  ·intro n;have:b=s.heap.objs.size:=by simpa using n
   exact UB (Uh e) this
  ·rw[DB c];exact q
 ·obtain⟨a,m,j,B⟩:=I.tuple l;refine call_all_walk (a2U (show s.heap.IsTuple p a.toArray from j) ?_);have d:p≠s.heap.objs.size:=by obtain⟨o,v,_⟩:=j;exact UB (Uh v)
  refine⟨s.heap.objs.size,_,_,_,_,_,λi=>bs.getD i b9,rfl,Walks.tuple y _ p d a.toArray,⟨⟨_,UC _ rfl,rfl,rfl⟩,a2q j _⟩,DC m,λA x w=>?_⟩;have c:a.toArray.size=bs.length:=by rw[Ue,<- m.length,Uc]
  refine⟨.bl _,H,I.kept (t':=x) λb o e=>w b o ?_ (Ua _ e),rfl,?_⟩
  ·intro n;have:b=s.heap.objs.size:=by simpa using n
   exact UB (Uh e) this
  ·rw[DB c];exact q
end
end L3
namespace L3
open PySem L2
open PyProof.Rows (IntsAre)
open PySem.W (KasT kas_asc kas_desc kas_tail3 kas_descPart kas_count kas_place kas_bin kas_sort kas_rev kas_ask)
noncomputable def cI(lt:Nat->Nat->Bool)(n:Nat):List Nat:=(Vv n).mergeSort λi j=>!(lt j i)
theorem MZ(lt:Nat->Nat->Bool){n:Nat}(_:0<n):(cI lt n).Perm (Vv n):=List.mergeSort_perm _ _
section
variable{X:Cx}{a4z:List (Addr×Obj)}{σ:St}{H:Hp}{s:T6}
theorem M3{P:Ur}{w:UJ}{H:Hp}{h:Vb}{a:Addr}{o:HO}(x:ObjOk P w H h a o):∃c,h.get? a=b6 c:=by
 cases o with
 |lst d=>obtain⟨_,_,_,_,e⟩:=x;exact⟨_,e⟩|tup d=>obtain⟨_,_,_,c,e,_⟩:=x;exact⟨_,e⟩|dK b=>obtain⟨_,_,_,_,o,_,_,e,_⟩:=x;exact⟨_,e⟩|dT b=>obtain⟨_,_,_,_,o,_,_,e,_⟩:=x;exact⟨_,e⟩|set S n=>obtain⟨o,_,_,_,e,_⟩:=x;exact⟨_,e⟩|ins C i fs=>obtain⟨_,_,_,e,_⟩:=x;exact⟨_,e⟩|own y=>exact x|xd fs=>obtain⟨_,⟨_,_,_,e,_⟩,_⟩:=x;exact⟨_,e⟩|rng l j=>obtain⟨_,_,_,e⟩:=x;exact⟨_,e⟩|frz c u=>exact⟨_,x.1⟩|tbl m=>exact⟨_,x⟩|met f y=>exact⟨_,x⟩|ext p=>exact x.2.1
end
section
open PyProof.Rows
variable{prog:Ur}{w:UJ}{A:UD}{E:Value->T6->Prop}{s:T6}
theorem DD{c:Addr}{us:List Value}{z:Nat}{R:Fin->T6->Prop}(h:us.length<2)(g:s.heap.get? c=b6 (Wa "list" us.toArray z)) (q:R (.done (.ret .none)) {s with heap:=Z4 s.heap c us us.toArray}) :
  Uu (Ut prog w) A (Builtin.«list.sort» ⟨[.ref c],[]⟩) R E s:=by
 rw[a3Q];have lt:c<s.heap.objs.size:=Uh g;refine T5 (listItems_at g rfl (T5 (Z0 g rfl ?_)));obtain⟨y,d⟩:∃y,(s.heap.update c (Wg λ_=>#[])).get? c=b6 (Wa "list" #[] y):=⟨_,a3S g _⟩;refine T5 (a0G d rfl (T5 (a0V (T5 (ZX (Vx ?_))))));have e:(((s.heap.update c (Wg λ_=>#[])).push (Wa "tuple" us.toArray 0)).push (Wa "list" #[] 0)).get? c=b6 (Wa "list" #[] y):=
  Ua _ (Ua _ d)
 show Uu (Ut prog w) A _ R E ⟨((s.heap.update c (Wg λ_=>#[])).push (Wa "tuple" us.toArray 0)).push (Wa "list" #[] 0),s.gens,s.drawn,s.toks,s.os⟩;dsimp only;have a:us.toArray.size<2:=by simpa using h
 rw[if_pos a,if_pos a];refine T5 (Ui ?_);rw[StateT.run_pure];refine T5 (Ui ?_);dsimp only;have b:a4p (λx=>x.2) (a2H (UE general' (us.toArray.zip us.toArray) #[] 7 b8))=us.toArray:=by show a4p (λx=>x.2) (us.toArray.zip us.toArray)=us.toArray;exact Array.ext (by simp) (λi j l=>by simp)
 refine T5 (a0G e rfl (T5 (Z0 e rfl ?_ (hsz2:=by rw[b,Vm];omega))));rw[b];simp only[bne_self_eq_false,Ud,if_false];exact Ui q
end
theorem DE(lt:Nat->Nat->Bool):cI lt 1=[0]:=List.mergeSort_singleton ..
theorem yK(lt:Nat->Nat->Bool):cI lt 0=[]:=List.mergeSort_nil
theorem gM(lt:Nat->Nat->Bool)(n:Nat):(cI lt n).Perm (Vv n):=by
 cases n with
 |zero=>rw[yK];exact .nil|succ n=>exact MZ lt (Nat.succ_pos n)
theorem DF{ns:List Int}{us:List Value}(h:Vals (ns.map V.int) us):XR us ns:=JA h
end L3
namespace L3
open PySem L2 PySem.Spec PyProof.Rows
structure XRec(h:Vb)(e:Addr)(cls:Value)(dc:Option Addr)(T:Option (Addr×Value)):Prop where
 ob:∃o vs,h.get? e=b6 o/\o.cls=cls/\o.dict=dc/\o.data=.fields vs/\vs[1]?=b6 (match T with|none=>US|some p=>.ref p.1)/\vs[2]?=b6 US
 tb:∀p,T=b6 p->p.1≠e/\∃oT ts,h.get? p.1=b6 oT/\oT.data=.fields ts/\ts[3]?=b6 p.2
structure XKept(fs:List Addr)(e:Addr)(T:Option (Addr×Value))(h h':Vb):Prop where
 keep:∀b o,h.get? b=b6 o->b≠e->(∀p,T=b6 p->b≠p.1)->b∉fs->h'.get? b=b6 o
 slot:∀b o,h.get? b=b6 o->b≠e->(∀p,T=b6 p->b≠p.1)->∃sl,h'.get? b=b6 {o with slots:=sl}
theorem DG(o:Obj) (f):(o.mapFields f).dict=o.dict:=by
 cases o with
 |mk c d a b=>cases a<;>rfl
section
variable{M:YX}{A:UD}{E:Value->T6->Prop}{s:T6}{base:Vb}{env:YD}{outer:List YD}{L e:Addr}{cls:Value}{dc:Option Addr}
theorem XRec.noFrame{h:Vb}{T:Option (Addr×Value)}{l:List YD}(x:XRec h e cls dc T)(d:h.FunFrames base l):e∉cR l/\∀p,T=b6 p->p.1∉cR l:=by
 obtain⟨o,v,m,_,_,n,_,_⟩:=x.ob;refine⟨λc=>?_,λp q c=>?_⟩
 ·obtain⟨_,r,a,b⟩:=d.mem c;rw[m]at a;cases a;exact b v n
 ·obtain⟨_,w,u,i,j,_⟩:=x.tb p q;obtain⟨_,r,a,b⟩:=d.mem c;rw[i]at a;cases a;exact b u j
theorem DH{T:Option (Addr×Value)}{hd:Value}{nx:Bool}{Q:Unit->T6->Prop}(j:A.frames=b6 (env::outer))(v:s.heap.FunFrames base (env::outer))(U:env.frame=b6 L)(x:XRec s.heap e cls dc T)
  (k:∀d m,XRec d e cls dc (b6 (m,WE L))->s.heap.objs.size<=m->XKept (cR (env::outer)) e T s.heap d->Q () {s with heap:=d}) :
  Uu M A (do a0Z (.ref e) 1 (<- a0E hd (<- frameOf env) .none (WE L) .none (<- entryPlaceOf L nx))) Q E s:=by
 obtain⟨o,Z,H,I,K,u,N,O⟩:=x.ob;have y:1<Z.size:=(Vt.mp N).1;have ne:=(x.noFrame v).1;refine T5 (wpAny_frameOf_fun j v U λa c=>?_);refine T5 (wpAny_entryPlaceOf λG w=>?_);unfold a0E newFields;refine T5 (VP ?_ (w.sizeOk5 _ _ _ _ _));have q:a.get? e=b6 o:=(c.2.1 e ne).trans H;generalize hob:({cls:=.type "traceback",dict:=b8,data:=.fields ([hd,.ref L,.none,WE L,.none]++(if G.isEmpty then Wq 6 US else G)).toArray}:Obj)=tb;have r:(a.push tb).get? e=b6 o:=Ua _ q;refine Xb r u y (k _ a.objs.size ?_ ?_ ?_)
 ·have z:a.objs.size≠e:=Wf (Uh q);have n:=WQ u (·.setIfInBounds 1 (Ug a.objs.size));refine⟨⟨_,_,Vu _ r (WU n),by rw[ZU];exact I,?_,n,by simp[y],by simp[O]⟩,λp l=>?_⟩
  ·rw[<- K,DG]
  ·cases l;refine⟨z,tb,_,?_,by rw[<- hob],?_⟩
   ·rw[U4 _ _ (Vf z)];exact UC _ (by rw[<- hob];rfl)
   ·first|(simp;done)|(rcases w with rfl|⟨_,_,_,_,_,_,_,rfl⟩<;>simp)
 ·rw[c.1];exact Up _
 ·refine⟨λb B i h _ R=>?_,λb B i h _=>?_⟩
  ·rw[U4 _ _ (Vf h)];exact Ua _ ((c.2.1 b R).trans i)
  ·obtain⟨Y,X⟩:=c.2.2 b B i;refine⟨Y,?_⟩;rw[U4 _ _ (Vf h)];exact Ua _ X
theorem yL{T:Option (Addr×Value)}{Q:Unit->T6->Prop}(i:∀p,T=b6 p->p.2=.none\/p.2=WE L)(l:A.frames=b6 (env::outer))(I:s.heap.FunFrames base (env::outer))(H:env.frame=b6 L)(x:XRec s.heap e cls dc T)
  (k:∀h d,XRec h e cls dc (b6 (d,WE L))->(s.heap.objs.size<=d\/∃p,T=b6 p/\d=p.1)->XKept (cR (env::outer)) e T s.heap h->Q () {s with heap:=h}):Uu M A (a0y (.ref e) env) Q E s:=by
 obtain⟨o,vs,w,X,Y,y,B,Z⟩:=x.ob;unfold a0y;simp only[H];refine T5 (V4 w y B ?_);cases T with
 |none=>rw[if_neg (by decide)];exact DH l I H x λh d R N u=>k h d R (.inl N) u|some p=>
  obtain⟨O,oT,ts,n,r,v⟩:=x.tb p rfl;rw[if_pos (show(Ug p.1 != US)=c4 by simp)];refine T5 (V4 n r v ?_);rcases i p rfl with i|i;case inr=>rw[i,if_pos (beq_self_eq_true _)];exact Ui (k s.heap p.1 ⟨⟨o,vs,w,X,Y,y,B,Z⟩,λq K=>by cases K;exact⟨O,oT,ts,n,r,by rw[<- i];exact v⟩⟩ (.inr ⟨p,rfl,rfl⟩) ⟨λb o c _ _ _=>c,λb o c _ _=>⟨o.slots,c⟩⟩)
  rw[i,if_neg (show ¬ (US==WE L)=c4 by simp[WE])];refine T5 (Xb n r (Vt.mp v).1 ?_);have a:∀b,b≠p.1->(s.heap.update p.1 (Xc (·.setIfInBounds 3 US))).get? b=s.heap.get? b:=λb c=>U4 _ _ (Vf c);have nfr:=(x.noFrame I).2 p rfl;refine DH (T:=b6 p) l (I.of_keeps λb m c nf=>⟨m,(a b λz=>by rw[z,n]at c;cases c;exact nf ts r).trans c,rfl⟩) H ⟨⟨o,vs,(a e (Vf O)).trans w,X,Y,y,B,Z⟩,λq K=>?_⟩ λh d R N u=>k h d R (.inl (by simpa using N)) ⟨λb m c G j h3=>?_,λb m c G j=>?_⟩
  ·cases K;have U:=WQ r (·.setIfInBounds 3 US);exact⟨O,_,_,Vu _ n (WU U),U,by rw[i];simp[(Vt.mp v).1]⟩
  ·exact u.keep b m ((a b (j p rfl)).trans c) G j h3
  ·exact u.slot b m ((a b (j p rfl)).trans c) G j
theorem kP{h:Vb}{b:Addr}{o:Obj}{T:Option (Addr×Value)}{a:Addr}(c:h.get? b=b6 o)(i:∀p,T=b6 p->b≠p.1)(z:h.objs.size<=a\/∃p,T=b6 p/\a=p.1):b≠a:=by
 rcases z with z|⟨p,d,rfl⟩
 ·exact UB (UM (Uh c) z)
 ·exact i p d
theorem yM{T:Addr}{q:Value}{Q:Unit->T6->Prop}(x:XRec s.heap e cls dc (b6 (T,q)))(k:∀h',XRec h' e cls dc (b6 (T,.none))->h'.objs.size=s.heap.objs.size->(∀b,b≠T->h'.get? b=s.heap.get? b)->Q () {s with heap:=h'}) :
  Uu M A (ZJ (.ref e) b8) Q E s:=by
 obtain⟨o,z,d,r,u,h,i,v⟩:=x.ob;obtain⟨j,B,G,l,m,n⟩:=x.tb _ rfl;unfold ZJ;refine T5 (V4 d h i ?_);rw[if_pos (show(Ug T != US)=c4 by simp)];have a:∀b,b≠T->(s.heap.update T (Xc (·.setIfInBounds 3 US))).get? b=s.heap.get? b:=λb w=>U4 _ _ (Vf w);have c:=WQ m (·.setIfInBounds 3 US);refine Xb l m (Vt.mp n).1 (k _ ⟨⟨o,z,(a e (Vf j)).trans d,r,u,h,i,v⟩,λp y=>?_⟩ (by simp) a);cases y;exact⟨j,_,_,Vu _ l (WU c),c,by simp[(Vt.mp n).1]⟩
theorem M4{T:Option (Addr×Value)}{Q:Unit->T6->Prop}(w:∀p,T=b6 p->p.2=.none\/p.2=WE L)(i:A.frames=b6 (env::outer))(z:s.heap.FunFrames base (env::outer))(y:env.frame=b6 L)(x:XRec s.heap e cls dc T)
  (k:∀h d,XRec h e cls dc (b6 (d,.none))->(s.heap.objs.size<=d\/∃p,T=b6 p/\d=p.1)->XKept (cR (env::outer)) e T s.heap h->Q () {s with heap:=h}):Uu M A (a3o env (.ref e)) Q E s:=by
 unfold a3o;refine T5 (yL w i z y x λr q H l m=>?_);refine yM (s:={s with heap:=r}) H λu I _ n=>k u q I l ⟨λb o a j c B=>?_,λb o a j c=>?_⟩
 ·rw[n b (kP a c l)];exact m.keep b o a j c B
 ·obtain⟨G,v⟩:=m.slot b o a j c;refine⟨G,?_⟩;rw[n b (kP a c l)];exact v
end
end L3
namespace L3
open PySem L2 PySem.Spec PyProof.Rows
structure Ex(X:Cx)(a4z:List (Addr×Obj))(H:Hp)(s:T6)(e:Addr)(cls:Value)(dc:Option Addr)(T:Option (Addr×Value)):Prop where
 rc:XRec s.heap e cls dc T
 hT:∀p,T=b6 p->p.2=.none\/∃L,X.env.frame=b6 L/\p.2=WE L
 lo:X.s₀.heap.get? e=b8/\∀p,T=b6 p->X.s₀.heap.get? p.1=b8
 fr:H e=b8/\∀p,T=b6 p->H p.1=b8
 pn:∀q∈X.pn++a4z,q.1≠e/\∀p,T=b6 p->q.1≠p.1
noncomputable def iC(P:Ur)(w:UJ):fQ:=λouter H s E e a=>∃b H' cls c T,e=.ref b/\a.os=s.os/\YY a.gens/\Un (cR outer) [] H H' s.heap a.heap/\HOk P w H' a.heap /\
 XRec a.heap b cls c (b6 (T,.none))/\s.heap.get? b=b8/\s.heap.get? T=b8/\H' b=b8/\H' T=b8/\E cls c H'
section
variable{X:Cx}{a4z:List (Addr×Obj)}{σ:L2.St}{H H':Hp}{s s':T6}{e:Addr}{cls:Value}{dc:Option Addr}{T:Option (Addr×Value)}
theorem XKept.hok{P:Ur}{w:UJ}{h h':Vb}{fs:List Addr}(k:XKept fs e T h h')(ok:HOk P w H h)(l:H e=b8)(j:∀p,T=b6 p->H p.1=b8)(m:∀b∈fs,H b=b8):HOk P w H h':=λb u q=>by
 have ne:∀c v,H c=b6 v->c≠e/\(∀p,T=b6 p->c≠p.1)/\c∉fs:=λc v hc=>⟨(λz=>by rw[z,l]at hc;cases hc),(λp n z=>by rw[z,j p n]at hc;cases hc),(λz=>by rw[m c z]at hc;cases hc)⟩;refine(ok b u q).stay (λc v hc g=>?_) (λ_ g=>g) λ_ _ g=>g;rcases hc with rfl|hc
 ·obtain⟨a,d,i⟩:=ne c u q;exact k.keep c v g a d i
 ·obtain⟨a,d,i⟩:=ne c _ hc;exact k.keep c v g a d i
theorem M5{E:XK}{v:Value}(l:X.ex=[])(I:Inv X a4z σ H s)(h:iC X.prog X.w X.stack H s E v s'):∃e H' cls dc T,v=.ref e/\Inv X a4z σ H' s'/\Ex X a4z H' s' e cls dc (b6 (T,.none))/\E cls dc H':=by
 obtain⟨e,H',cls,dc,T,rfl,A,i,un,hok,B,m,n,r,u,w⟩:=h;have j:∀a,s.heap.get? a=b8->X.s₀.heap.get? a=none:=λa x=>by
  cases q:X.s₀.heap.get? a with
  |none=>rfl|some o=>obtain⟨G,g⟩:=I.base.there a o q (by rw[l];simp);rw[x]at g;cases g
 refine⟨e,H',cls,dc,T,rfl,I.call' (ch:=[]) A un hok i (λb z=>absurd z (by simp)),⟨B,(λp d=>by cases d;exact .inl rfl),⟨j e m,(λp d=>by cases d;exact j T n)⟩,⟨r,(λp d=>by cases d;exact u)⟩,λq y=>?_⟩,w⟩;have c:=(I.pin q y).1;exact⟨(λz=>by rw[z,m]at c;cases c),(λp d z=>by cases d;rw[z,n]at c;cases c)⟩
theorem DI{ch:List Addr}(I:Inv X a4z σ H s)(l:X.ex=[])(h1:∀b∈ch,X.s₀.heap.get? b=b8)(q:∀b∈ch,∃o vs,s.heap.get? b=b6 o/\o.data=.fields vs):Inv {X with ex:=ch} a4z σ H s:=by
 have i:∀b o,X.s₀.heap.get? b=b6 o->b∉ch:=λb o a z=>by rw[h1 b z]at a;cases a
 have o:=I.ok;refine⟨⟨o.mod,o.kind,o.glob,o.blt,o.above,o.inj,o.has,o.cab,o.hd,o.frames,o.stk,λb a=>?_,o.bs,o.bsz,λb j a=>i b j (o.bs b j a).1,λb a r=>?_,o.funs,o.frf⟩,I.os,I.bare,?_,I.loc,I.cell,I.free,I.freeC,I.pin,I.hok,I.len⟩
 ·obtain⟨j,vs,n,p⟩:=q b a;refine⟨λz=>?_,λy c hc z=>?_⟩
  ·obtain⟨m,⟨A,x,w,d,h,_⟩,_⟩:=I.loc;have z:b=X.env.locals:=z;rw[<- z,n]at d;cases d;rw[p]at h;cases h
  ·obtain⟨v,B,d,h⟩:=I.cell y c hc;rw[z,n]at d;cases d;rw[p]at h;cases h
 ·obtain⟨_,j,d,_⟩:=o.funs.mem r;exact i b j d a
 ·have u:=I.base;rw[l]at u;exact u.mono (λ_ z=>z) (by simp)
theorem DJ{ch:List Addr}(I:Inv {X with ex:=ch} a4z σ H s)(h:X.ex=[])(h1:∀b∈ch,X.s₀.heap.get? b=b8):Inv X a4z σ H s:=by
 have d:∀b o,X.s₀.heap.get? b=b6 o->b∉ch:=λb o a z=>by rw[h1 b z]at a;cases a
 have o:=I.ok;have u:=I.base;refine⟨⟨o.mod,o.kind,o.glob,o.blt,o.above,o.inj,o.has,o.cab,o.hd,o.frames,o.stk,(by rw[h];intro b z;cases z),o.bs,o.bsz,(by rw[h];intro b _ _ z;cases z),(by rw[h];intro b z;cases z),o.funs,o.frf⟩,I.os,I.bare,?_,I.loc,I.cell,I.free,I.freeC,I.pin,I.hok,I.len⟩;exact⟨λb c a n i _=>u.keep b c a n i (d b c a),λb c a n i _=>u.slot b c a n i (d b c a),λb c a n _=>u.free b c a n (d b c a),λb c a _=>u.there b c a (d b c a),u.tups,u.frzs,u.tbls⟩
noncomputable def mI(e:Addr)(T:Option (Addr×Value)):List Addr:=e::(match T with|none=>[]|some p=>[p.1])
theorem mem_ch{b:Addr}:b∈mI e T↔b=e\/∃p,T=b6 p/\b=p.1:=by
 unfold mI;cases T with
 |none=>simp|some p=>simp
theorem Ex.kept(h:X.ex=[])(I:Inv X a4z σ H s)(x:Ex X a4z H s e cls dc T){h':Vb}(k:XKept (cR X.stack) e T s.heap h'):Inv X a4z σ H {s with heap:=h'}:=by
 have r:∀b∈mI e T,X.s₀.heap.get? b=none:=λb a=>by
  rcases mem_ch.mp a with rfl|⟨p,d,rfl⟩
  ·exact x.lo.1
  ·exact x.lo.2 p d
 have G:∀b∈mI e T,∃o l,s.heap.get? b=b6 o/\o.data=.fields l:=λb a=>by
  rcases mem_ch.mp a with rfl|⟨p,d,rfl⟩
  ·obtain⟨o,l,j,_,_,E,_,_⟩:=x.rc.ob
   exact⟨o,l,j,E⟩
  ·obtain⟨_,Q,R,j,B,_⟩:=x.rc.tb p d
   exact⟨Q,R,j,B⟩
 have ne:∀b,b∉mI e T->b≠e/\∀p,T=b6 p->b≠p.1:=λb a=>⟨λz=>a (mem_ch.mpr (.inl z)),λp d z=>a (mem_ch.mpr (.inr ⟨p,d,z⟩))⟩
 have i:=DI I h r G
 have w:=i.step (H':=H) (h':=h') (g':=s.gens) (d':=s.drawn) (t':=s.toks) (ch:=mI e T) (λb a=>⟨.inl a,(i.ok.exf b a).1,(i.ok.exf b a).2,λq u=>?_⟩)
  (λb o N O c g _=>k.keep b o g (ne b c).1 (ne b c).2 λz=>(UX.mp (I.stkSub b z)).elim N O)
  (λb o _ _ c g _=>k.slot b o g (ne b c).1 (ne b c).2) (λ_ _ _ _ n=>n) (λb o c g=>let⟨_,z⟩:=k.slot b o g (ne b c).1 (ne b c).2;⟨_,z⟩)
  (λ_ _ g=>g) (λ_ _ _ g=>g) (λb Y g=>⟨#[],by rw[g];simp⟩) (λm K=>?_) (k.hok I.hok x.fr.1 x.fr.2 I.stkFree) I.bare
 ·exact DJ w h r
 ·rcases mem_ch.mp a with rfl|⟨p,d,rfl⟩
  ·exact(x.pn q u).1
  ·exact(x.pn q u).2 p d
 ·obtain⟨U,A,y,L,M⟩:=K
  have v:X.env.locals∉mI e T:=λz=>(i.ok.exf _ z).1 rfl
  obtain⟨Z,g⟩:=k.slot _ _ L (ne _ v).1 (ne _ v).2
  exact⟨_,A,y,g,M⟩
end
theorem M6{P:Ur}{w:UJ}{K:T3}{mg:Str->Option Value}{base:Vb}{N:List Str}{qual:Str}{scope:WB}{f:Addr}{i:Value}{A:UD}{outer:List YD}{s₀ s:T6}{H₀ H:Hp}{E:XK}{a4z:List (Addr×Obj)}{σ:L2.St}{e:Addr}{cls:Value}{r:Option Addr}{T:Option (Addr×Value)}
  (I:Inv (dA (iC P w) P w K mg base N qual scope f i A outer s₀ H₀ E) a4z σ H s)(x:Ex (dA (iC P w) P w K mg base N qual scope f i A outer s₀ H₀ E) a4z H s e cls r T)(h:E cls r H) :
  (dA (iC P w) P w K mg base N qual scope f i A outer s₀ H₀ E).xe (.ref e) s:=by
 have c:∀b o,s₀.heap.get? b=b6 o->b≠e/\(∀p,T=b6 p->b≠p.1)/\b≠s₀.heap.objs.size:=λb o a=>⟨(λz=>by rw[z]at a;rw[show s₀.heap.get? e=b8 from x.lo.1]at a;cases a),(λp d z=>by rw[z]at a;rw[show s₀.heap.get? p.1=b8 from x.lo.2 p d]at a;cases a),UB (Uh a)⟩;have v:cR (envOfC qual scope s₀.heap.objs.size f i::outer)=s₀.heap.objs.size::cR outer:=rfl;show Uu (Ut P w) (A.deeper (envOfC qual scope s₀.heap.objs.size f i)) (a3o (envOfC qual scope s₀.heap.objs.size f i) (.ref e)) _ _ s;refine M4 (λp d=>(x.hT p d).imp id λ⟨L,O,q⟩=>by cases O;exact q) I.ok.frames I.stack rfl x.rc λX M U G k=>?_;refine⟨e,H,cls,r,M,rfl,I.os,I.bare,⟨λb o a n m _=>?_,λb o a n m _=>?_,λb o a n _=>I.base.free b o a n (by simp[dA]),λb o a _=>?_,I.base.tups,I.base.frzs,I.base.tbls⟩,k.hok I.hok x.fr.1 x.fr.2 I.stkFree,U,x.lo.1,G.elim (λz=>Xm (VD I.sz z)) (λ⟨p,d,q⟩=>q▸x.lo.2 p d),x.fr.1,G.elim (λz=>I.hok.fresh z) (λ⟨p,d,q⟩=>q▸x.fr.2 p d),h⟩
 ·obtain⟨j,l,y⟩:=c b o a;refine k.keep b o (I.base.keep b o a n m (by simp[dA])) j l ?_;rw[v];intro z;rcases UX.mp z with z|z
  ·exact y z
  ·exact m z
 ·obtain⟨j,l,y⟩:=c b o a;obtain⟨R,g⟩:=I.base.slot b o a n m (by simp[dA]);obtain⟨B,u⟩:=k.slot b _ g j l;exact⟨B,u⟩
 ·obtain⟨j,l,y⟩:=c b o a;obtain⟨Q,g⟩:=I.base.there b o a (by simp[dA]);obtain⟨R,u⟩:=k.slot b Q g j l;exact⟨_,u⟩
end L3
namespace L3
open PySem L2
noncomputable abbrev Xn:=Str×List (Str×D)
noncomputable abbrev MR:=aF->Hm->Option (Xn×aF×Hm)
noncomputable abbrev RF:=List D->Hm->Option (Xn×Hm)
noncomputable def M7(K:T3)(cls:Value)(x:Str):Prop:=Vj K U1 x=b6 (b6 cls)
noncomputable def tR(K:T3)(π:Nat->Addr)(n:Nat)(H:Hp)(cls:Value)(a:Option Addr)(x:Xn):Prop:=
 M7 K cls x.1/\(x.2=[]/\a=b8\/∃(b:Addr)(c:Obj)(vs:List (Str×V)),a=b6 b/\H b=b6 (.frz c (.xd vs))/\vs.map (·.1)=x.2.map (·.1)/\IsDs K π n H (vs.map (·.2)) (x.2.map (·.2)))
noncomputable def Wish(X:Cx)(a4z:List (Addr×Obj))(π:Nat->Addr)(n:Nat)(H:Hp)(x:Xn)(i:aF)(a:Hm):Prop:=
 ∀b d c h e cls j T,Ext π n H b a.length c->Rp X.K b c a->En X.K b a.length c d i->Inv X a4z d c h->Ex X a4z c h e cls j T->tR X.K b a.length c cls j x->X.xe (.ref e) h
theorem Wish.after{X:Cx}{a4z:List (Addr×Obj)}{π c:Nat->Addr}{n m:Nat}{H l:Hp}{x:Xn}{d:aF}{b:Hm}(h:Wish X a4z π n H x d b)(e:Ext π n H c m l):Wish X a4z c m l x d b:=
 λi j o r a cls p T q=>h i j o r a cls p T (e.trans q)
structure QRE(X:Cx)(e:Expr)(r:MR):Prop where
 h:∀a4z s σ H π ρ μ x ρ' μ',Inv X a4z σ H s->Rp X.K π H μ->En X.K π μ.length H σ ρ->r ρ μ=b6 (x,ρ',μ')->Wish X a4z π μ.length H x ρ' μ'->Uu (Ut X.prog X.w) X.A (eval e X.env) (λ_ _=>False) X.xe s
structure QR(X:Cx)(st:Stmt)(r:MR):Prop where
 h:∀a4z s σ H π ρ μ x ρ' μ',Inv X a4z σ H s->Rp X.K π H μ->En X.K π μ.length H σ ρ->r ρ μ=b6 (x,ρ',μ')->Wish X a4z π μ.length H x ρ' μ'->Uu (Ut X.prog X.w) X.A (exec st X.env) (λ_ _=>False) X.xe s
structure QRB(X:Cx)(st:List Stmt)(r:MR):Prop where
 h:∀a4z s σ H π ρ μ x ρ' μ',Inv X a4z σ H s->Rp X.K π H μ->En X.K π μ.length H σ ρ->r ρ μ=b6 (x,ρ',μ')->Wish X a4z π μ.length H x ρ' μ'->Uu (Ut X.prog X.w) X.A (execs st X.env) (λ_ _=>False) X.xe s
noncomputable def bF:MR:=λ_ _=>b8
theorem fW{X:Cx}{st:Stmt}:QR X st bF:=⟨λ_ _ _ _ _ _ _ _ _ _ _ _ _ h=>by cases h⟩
theorem yN{X:Cx}{e:Expr}:QRE X e bF:=⟨λ_ _ _ _ _ _ _ _ _ _ _ _ _ h=>by cases h⟩
theorem M8{X:Cx}{st:List Stmt}:QRB X st bF:=⟨λ_ _ _ _ _ _ _ _ _ _ _ _ _ h=>by cases h⟩
section
variable{X:Cx}{e:Expr}{st:Stmt}{rest a b:List Stmt}{r ra rb:MR}{m:MS}{pos:VW}
theorem M9(j:QRE X e r)(h:dX e=c4):QR X (.Expr e pos) r:=
 ⟨λc s q H o p n x i d I R E l w=>a0Y (aM (j.h c s q H o p n x i d I R E l w) λ_ _ z=>z.elim) I.quiet (mH h)⟩
theorem Na(i:QRE X e r):QR X (.Return (b6 e) pos) r:=
 ⟨λc s p H n o l x h d I R E j w=>a3k (aM (i.h c s p H n o l x h d I R E j w) λ_ _ z=>z.elim)⟩
theorem Nb{y:Str}{c:VW}(l:QRE X e r)(h:dX e=c4):QR X (.Assign [.Name y c] e pos) r:=
 ⟨λd s u H p q o x j i I R E n w=>a3l (aM (l.h d s u H p q o x j i I R E n w) λ_ _ z=>z.elim) (mH h)⟩
noncomputable def bP(m:MS)(ra rb:MR):MR:=λc μ=>match ra c μ with
 |some p=>b6 p|none=>match m c μ with
  |some (.nx,ρ1,μ1)=>rb ρ1 μ1|_=>b8
theorem Nc(U:QS X.nox st m)(Q:QR X st ra)(T:QRB X rest rb):QRB X (st::rest) (bP m ra rb):=by
 refine⟨λi s M H K L G x v o I R E n w=>Yk ?_⟩;unfold bP at n;split at n
 ·rename_i p Y;cases n;exact aM (Q.h i s M H K L G x v o I R E Y w) λ_ _ z=>z.elim
 ·split at n
  ·rename_i j d O;have k:=U.h i s M H {nx:=λh l=>∃c,Ext K G.length H c d.length l/\Rp X.K c l d/\En X.K c d.length l h j,rt:=λ_ _=>False} (I.wish _)
    ⟨K,L,G,.nx,j,d,R,E,O,λc h l B A y=>⟨c,B,A,y⟩⟩
   refine UK k (λf Z q=>?_) λ_ _ z=>UT z;cases f with
   |next=>obtain⟨h,l,N,c,B,A,y⟩:=q;exact T.h i Z h l c j d x v o N.unwish A y n (w.after B)|ret u=>obtain⟨_,_,_,_,_,q⟩:=q;exact q.elim|brk=>obtain⟨_,_,_,q⟩:=q;exact q.elim|cont=>obtain⟨_,_,_,q⟩:=q;exact q.elim
  ·cases n
theorem Nd:QRB X [] bF:=M8
noncomputable def fX(t:MT)(ra rb:MR):MR:=λc μ=>(t c μ).bind λp=>if p.1=c4 then ra c p.2 else rb c p.2
theorem Nf{c:Expr}{t:MT}(hc:QT X.nox c t)(O:QRB X a ra)(Q:QRB X b rb):QR X (.If c a b pos) (fX t ra rb):=by
 refine⟨λj s B H M A L x u p I R E l w=>wpAny_If ?_⟩;obtain⟨⟨d,i⟩,N,l⟩:=TZ.mp l;have k:=hc.h j s B H (λy n=>y=d/\∃h,Ext M L.length H h i.length n/\Rp X.K h n i) (I.wish _) ⟨M,A,L,d,i,R,E,N,λh n o v=>⟨rfl,h,o,v⟩⟩;refine UK k (λy K q=>?_) λ_ _ z=>UT z;obtain⟨n,G,rfl,h,o,v⟩:=q;dsimp only at l;cases y with
 |true=>rw[if_pos rfl]at l;exact O.h j K B n h A i x u p G.unwish v (E.mono o) l (w.after o)|false=>rw[if_neg (by decide)]at l;exact Q.h j K B n h A i x u p G.unwish v (E.mono o) l (w.after o)
end
inductive spR0 (K:T3)(r:RF)(vs:List V)(H:Hp)(E:XK):Prop
 |mk (π:Nat->Addr)(ds:List D)(μ:Hm)(x:Xn)(μ':Hm)(R:Rp K π H μ)(i:IsDs K π μ.length H vs ds)(hm:r ds μ=b6 (x,μ'))(k:∀π' H' cls dc,Ext π μ.length H π' μ'.length H'->Rp K π' H' μ'->tR K π' μ'.length H' cls dc x->E cls dc H'):spR0 K r vs H E
noncomputable def n9(K:T3)(n:Nat)(r:RF):Sp:=λvs H _ E=>vs.length=n/\spR0 K r vs H E
noncomputable def gN(r:RF)(b:MA):MR:=λa μ=>(b a μ).bind λp=>(r p.1 p.2).map λq=>(q.1,a,q.2)
section
variable{X:Cx}{k n:Nat}{f:Addr}{fd:VQ}{ps:List Str}{x:Str}{p pos:VW}{e:Expr}{es:List Expr}{ms:MA}{r:RF}
theorem Ng(hex:X.ex=[])(F:FnOk X.prog X.w X.K X.mg X.base (iC X.prog X.w) k f fd ps (n9 X.K n r))(hr:Room k X.A)(hg:Gl X x)(hm:X.mg x=b6 (.ref f))(hk:U9 X.K (.ref f)=c4)(hb:Binds X.K fd ps [])(Y:QA X.nox (e::es) ms n)
  (Z:(x==("__debug__":Str))=b9):QRE X (.Call (.Name x p) (e::es) [] pos) (gN r ms):=by
 refine⟨λU s σ H π ρ μ y ρ' μ' I R E h w=>?_⟩;obtain⟨⟨ds,b⟩,h1,h⟩:=TZ.mp h;obtain⟨⟨y',i⟩,h2,h⟩:=T7.mp h;cases h;have hst:=Y.s;have d:=hst;rw[Va,T4]at d;refine VG (f9 I hg hm ?_ Z);have k1:=Y.h pos U s σ H (λo j=>∃a,Ext π μ.length H a b.length j/\Rp X.K a j b/\IsDs X.K a b.length j o ds) (I.wish _) ⟨π,ρ,μ,ds,b,R,E,h1,λa o j L Q M=>⟨a,L,Q,M⟩⟩;refine XB (h₀:=X.base) I.ok.mod.kin hk (UK k1 (λN s1 ⟨o,j,m,rv,a,L,Q,M⟩=>⟨m.unwish.kIn,?_⟩) λ_ _ z=>UT z) (dR d.1) (kG d.2);have m:=m.unwish;have hn:o.length=n:=by rw[M.length];exact Y.l ρ μ ds b h1
 have B:n9 X.K n r o j (λ_ _=>False) (λcls G l=>∃c,Ext a b.length j c i.length l/\Rp X.K c l i/\tR X.K c i.length l cls G y'):=
  ⟨hn,a,ds,b,y',i,Q,M,h2,λc l cls G K O ix=>⟨c,K,O,ix⟩⟩
 have hl:N.length=ps.length:=by rw[<- rv.length];exact F.len _ _ _ _ B
 refine YQ (X9 (F.run X.A X.stack s1 j ⟨N,[]⟩ N o _ _ hr m.env0 (by have:=hb s1 N m.kIn (by simpa using hl);rwa [VB]at this) rv B) λrr s' A=>?_);cases rr with
 |error v=>obtain⟨ee,l,cls,G,T,rfl,I',x',c,K,O,ix⟩:=M5 hex m A;exact w c σ l s' ee cls G (b6 (T,.none)) (L.trans K) O ((E.mono L).mono K) I' x' ix|ok fl=>
  cases fl with
  |ret u=>obtain⟨_,_,_,_,_,_,_,q⟩:=A;exact q|next=>exact UT A|brk=>exact UT A|cont=>exact UT A
end
noncomputable def yO(n:Nat)(r:MR):RF:=λds μ=>(r (qB n ds) μ).map λp=>(p.1,p.2.2)
theorem Nh{P:Ur}{w:UJ}{K:T3}{mg:Str->Option Value}{base:Vb}{x qual:Str}{st:Stmt}{f:Addr}{B:VQ}{N ps:List Str}{k:Nat}{body:List Stmt}{r:MR}(F:Fun K x qual st f B)(S:FnScope N ps (bC st))(o:ps.length<=N.length)(l:cD st=body)
  (b:∀(a:Value)(A:UD)(outer:List YD)(s:T6)(H:Hp)(E:XK),Room k (A.deeper (XW qual (bC st) s.heap.objs.size f a))->
   QRB (dA (iC P w) P w K mg base N qual (bC st) f a A outer s H E) body r):FnOk P w K mg base (iC P w) (k+1) f B ps (n9 K ps.length (yO N.length r)):=by
 obtain⟨oc,od,dV,kV,U,pm,an,a,ct,osl,rfl,lk,m⟩:=F.ex;refine wW (CX:=iC P w) (sp:=n9 K ps.length (yO N.length r)) lk m S (λG H Q E h=>h.1) λA outer s H G Q E Z h=>⟨λ_ c d=>c=L2.start N G/\d=H,?_,rfl,rfl⟩;obtain⟨hv,π,ds,μ,y,μ',R,i,n,kc⟩:=h;obtain⟨⟨y',u,p⟩,Y,n⟩:=T7.mp n;cases n;rintro j s1 σ v D I ⟨rfl,rfl⟩;rw[l];refine aM ((b a A outer s v E Z).h j s1 _ v π _ μ y' u p I R (xF i (by rw[hv];exact o)) Y λq c d s' e cls O T X M E' L x' ix=>?_) λ_ _ z=>UT z;exact M6 L x' (kc q d cls O X M ix)
end L3
namespace L3
open PySem L2
noncomputable abbrev mJ:List Value:=[.type "ValueError",.type "Exception",.type "BaseException",.type "object"]
structure ClsK(K:T3)(x:Str)(C:Addr):Prop where
 exc:Zg K C mJ "ValueError.__new__"=c4
 nm:Vj K U1 x=b6 (b6 (.ref C))
theorem Ni{K:T3}{h:Vb}{C:Addr}{c:List Value}{newId:String}(X:K.In h)(q:Zg K C c newId=c4) :
  ∃bm N nm r bs hd s b o a p d i j l m u,h.get? C=b6 (Wj nm r C N bs bm hd s b o a p d i j l m newId)/\h.Ns N u/\u "__init__"=b8/\a0i h c bm:=by
 unfold Zg at q;split at q
 ·rename_i p w O z;split at q
  ·rename_i Q bm d i j l n m y A;rw[T4,T4,T4,T4,T4,beq_iff_eq,beq_iff_eq,beq_iff_eq,Xi]at q;obtain⟨⟨⟨⟨⟨G,H⟩,I⟩,L⟩,v⟩,M⟩:=q;subst G H;cases w with
   |mk nm bs B E r hd s b o a x=>cases y;cases I;have e:O=#[d,i,j,l,b6 (.builtin n),m]:=VS.mp A;subst e;exact⟨bm,E,nm,r,bs,hd,s,b,o,a,p,d,i,j,l,m,_,X _ _ z,.of_isNs (a1h X v),PySem.W.nsMap_none_of_in X v M,a1g X L⟩
  ·cases q
 ·cases q
noncomputable def kQ(x:Str)(b:MA):MR:=λa μ=>(b a μ).map λp=>((x,[]),a,p.2)
theorem Nj{P:Ur}{w:UJ}{H:Hp}{h:Vb}(ok:HOk P w H h){a:Addr}(b:h.get? a=b8):H a=none:=by
 cases q:H a with
 |none=>rfl|some u=>obtain⟨o,g⟩:=M3 (ok a u q);rw[b]at g;cases g
theorem DK{X:Cx}{a4z:List (Addr×Obj)}{σ:L2.St}{H:Hp}{s:T6}(I:Inv X a4z σ H s)(b:X.ex=[]){a:Addr}(c:s.heap.get? a=b8):X.s₀.heap.get? a=none:=by
 cases q:X.s₀.heap.get? a with
 |none=>rfl|some o=>obtain⟨d,g⟩:=I.base.there a o q (by rw[b];simp);rw[c]at g;cases g
theorem Nk{X:Cx}{x:Str}{C:Addr}{e:Expr}{es:List Expr}{ms:MA}{n:Nat}{np a pos:VW}(c:ClsK X.K x C)(M:X.ex=[])(hc:X.calm=c4)(hg:Gl X x)(K:QA X.nox (e::es) ms n)(hn:n<=30)
  (L:(x==("__debug__":Str))=b9):QR X (.Raise (b6 (.Call (.Name x np) (e::es) [] a)) b8 pos) (kQ x ms):=by
 refine⟨λo s σ H π ρ Z y ρ' μ' I R E h w=>?_⟩;obtain⟨⟨ds,l⟩,h1,h⟩:=T7.mp h;cases h;have Q:=K.s;have d:=Q;rw[Va,T4]at d;have he:UW (e::es) X.env=_:=dR d.1;have O:(W6 a (UW es X.env)).any (·.1)=false:=kG d.2;obtain⟨bm,N,nm,qn,bs,hd,sn,U,ab,G,dd,k0,T,k2,k3,k5,mN,o1,o2,o3,o4⟩:=Ni I.mod.kin c.exc;refine wpAny_Raise_call_subT (C:=C) (nm:=nm) (q:=qn) (N:=N) (bs:=bs) (bm:=bm) (hdct:=hd) (sn:=sn) (sub:=U) (ab:=ab) (col:=G) (dd:=dd) (k0:=k0) (k1:=T) (k2:=k2) (k3:=k3) (k5:=k5) WL (mN:=mN)
  (o4.hasType WL.hasBase) (I.ok.hd hc) (by rw[he];show(b9||(W6 a (UW es X.env)).any (·.1))=b9;rw[O];rfl) o3 (f9 I hg (WI I.mod.kin I.mod.glob c.nm) ⟨rfl,?_⟩ L)
 have T:=K.h a o s σ H (λY m=>∃b,Ext π Z.length H b l.length m/\Rp X.K b m l/\Y.length=n) (I.wish _) ⟨π,ρ,Z,ds,l,R,E,h1,λb Y m A B i1=>⟨b,A,B,by rw[i1.length];exact K.l ρ Z ds l h1⟩⟩;have u:Uu (Ut X.prog X.w) X.A (spliced (W6 a (UW (e::es) X.env))) _ _ s:=T;rw[he]at u ⊢;refine a1n (UK u (λus s1 ⟨Y,m,i,rv,b,A,B,hl⟩=>?_) λ_ _ z=>UT z);have i:=i.unwish;have v:us.length<=Uo:=by have:=rv.length;rw[<- this,hl,Vm];omega
 refine⟨rfl,v,i.bk _ _ o1,o2.keeps i.bk,o4.keeps i.bk,λh' ea r=>?_⟩;obtain⟨t,t1,_,_⟩:=r.there;have I2:Inv X o σ m {s1 with heap:=h'}:=i.kept (t':=s1.toks) r.keeps;refine w b σ m _ ea (.ref C) b8 b8 A B (E.mono A) I2 ⟨⟨⟨_,_,t1,rfl,rfl,rfl,rfl,rfl⟩,λp j=>nomatch j⟩,(λp j=>nomatch j),⟨DK i M r.new,λp j=>nomatch j⟩,⟨Nj i.hok r.new,λp j=>nomatch j⟩,λq hq=>⟨λz=>?_,λp j=>nomatch j⟩⟩ ⟨c.nm,.inl ⟨rfl,rfl⟩⟩;have:=(i.pin q hq).1;rw[z,r.new]at this;cases this
end L3
namespace L3
open PySem L2 PySem.Spec PyProof.Rows
noncomputable def oA(K:T3)(C:Addr):Option (List Value):=match K.lookup C with
 |some ⟨.type "type",_,.cls cd,sl⟩=>(match cd.mro,sl.toList with
  |.ref C'::bm,[_,_,_,_,b6 (.builtin n),_]=>if(C'==C&&n=="ValueError.__new__" && !cd.hasDel&&bm.contains (.type "BaseException")&&cd.hasDict)=c4 then b6 bm else b8
  |_,_=>b8)
 |_=>b8
theorem oB{K:T3}{h:Vb}{C:Addr}{bm:List Value}(X:K.In h)(q:oA K C=b6 bm) :
  (∃N nm r bs s b o a p d i j l m,h.get? C=b6 (Wj nm r C N bs bm c4 s b o a p d i j l m "ValueError.__new__"))/\bm.contains (.type "BaseException")=true:=by
 unfold oA at q;split at q
 ·rename_i p A M G;split at q
  ·rename_i O u d i j l n m E H;split at q
   ·rename_i c;cases q;rw[T4,T4,T4,T4,beq_iff_eq,beq_iff_eq,Xi]at c;obtain⟨⟨⟨⟨v,w⟩,x⟩,y⟩,z⟩:=c;subst v w;cases A with
    |mk nm bs I L r hd s b o a B=>cases E;cases x;cases z;have e:M=#[d,i,j,l,b6 (.builtin "ValueError.__new__"),m]:=VS.mp H;subst e;exact⟨⟨L,nm,r,bs,s,b,o,a,p,d,i,j,l,m,X _ _ G⟩,y⟩
   ·cases q
  ·cases q
 ·cases q
noncomputable def fY(K:T3)(x:Str):Option Addr:=match Vj K U1 x with
 |some (b6 (.ref C))=>b6 C|_=>b8
theorem kR{K:T3}{x:Str}{C:Addr}(h:fY K x=b6 C):Vj K U1 x=b6 (b6 (.ref C)):=by
 unfold fY at h;split at h
 ·cases h;assumption
 ·cases h
noncomputable def qI(K:T3)(x y:Str):Option Bool:=(fY K x).bind λB=>(fY K y).bind λC=>(oA K B).bind λb1=>(oA K C).map λ_=>(Ug B::b1).contains (.ref C)
section
variable{M:YX}{A:UD}{E:Value->T6->Prop}
theorem Nl{s:T6}{B C e:Addr}{nm q G R:Str}{N L:Addr}{bs bm p a:List Value}{hdct i:Bool}{sn H:List Str}{sub m:List Value}{ab o:Bool}{col j:Option Bool}{dd r:Option Addr}{k0 k1 k2 k3 k5 v w x y z:Option Value}{K:Obj}{Q:Bool->T6->Prop}
  (hB:s.heap.get? B=b6 (Wj nm q B N bs bm hdct sn sub ab col dd k0 k1 k2 k3 k5 "ValueError.__new__")) (hC:s.heap.get? C=b6 (Wj G R C L p a i H m o j r v w x y z "ValueError.__new__"))
  (O:s.heap.get? e=b6 K)(l:K.cls=.ref B)(c:a.contains (.type "BaseException")=c4) (I:Q ((Ug B::bm).contains (.ref C)) s):Uu M A (excMatches (.ref e) (.ref C)) Q E s:=by
 obtain⟨h,g,d,t,T⟩:=s;have u:(Ug C::a).contains (.type "BaseException")=true:=by rw[Yu,c,ZQ]
 have f:=tc_notTuple;have n:∃b,(Ug B::bm).contains (.ref C)=b:=⟨_,rfl⟩;obtain⟨b,n⟩:=n;rw[n]at I;unfold excMatches;repeat (first|(with_reducible refine Vh O ?_;rw[l])|with_reducible refine Vh hC ?_|(with_reducible refine W9 hC ?_;rw[u])|(with_reducible refine W9 hB ?_;rw[n])|wp_step)
 cases b<;>(wp_walk;exact I)
end
noncomputable def Nm(o:Obj):Prop:=∃vs,o.data=.fields vs/\vs[2]?=b6 US
noncomputable def mK(e:Addr)(H:Hp):Prop:=∃o u,H e=b6 (.frz o u)/\Nm o
structure QBh(X:Cx)(e:Addr)(st:List Stmt)(m:MS):Prop where
 h:∀(a4z:List (Addr×Obj))(s:T6)(σ:L2.St)(H:Hp)(D:Ends),mK e H->Inv X a4z σ H s->tMS X.K m D σ H->Uu (Ut X.prog X.w) X.A (execs st X.env) (SP X a4z D) X.xe s
theorem QB.soft{X:Cx}{e:Addr}{st:List Stmt}{m:MS}(h:QB X st m):QBh X e st m:=⟨λa4z s σ H D _ I t=>h.h a4z s σ H D I t⟩
noncomputable abbrev _root_.L2.Cx.hnd(X:Cx)(e:Value):Cx:={X with A:=X.A.mark (b6 e),calm:=b9,xe:=λ_ _=>False}
section
variable{X:Cx}{a4z:List (Addr×Obj)}{σ:L2.St}{H H':Hp}{s s':T6}{e:Addr}{cls:Value}{dc:Option Addr}{T:Option (Addr×Value)}
theorem DL(I:Inv X a4z σ H s)(v:Value):Inv (X.hnd v) a4z σ H s:=
 ⟨⟨I.ok.mod,I.ok.kind,I.ok.glob,I.ok.blt,I.ok.above,I.ok.inj,I.ok.has,I.ok.cab,(λz=>nomatch z),I.ok.frames,I.ok.stk,I.ok.exf,I.ok.bs,I.ok.bsz,I.ok.noex,I.ok.exfs,I.ok.funs,I.ok.frf⟩,I.os,I.bare,I.base,I.loc,I.cell,I.free,I.freeC,I.pin,I.hok,I.len⟩
theorem tS(ok:X.Ok){v:Value}(I:Inv (X.hnd v) a4z σ H s):Inv X a4z σ H s:=⟨ok,I.os,I.bare,I.base,I.loc,I.cell,I.free,I.freeC,I.pin,I.hok,I.len⟩
theorem Nn{M:YX}{E:Value->T6->Prop}{Q:Unit->T6->Prop}{L:Addr}(l:X.ex=[])(c:X.stack=X.env::X.outer)(v:X.env.frame=b6 L)(I:Inv X a4z σ H s)(x:Ex X a4z H s e cls dc T)
  (k:∀s' A,Inv X a4z σ H s'->Ex X a4z H s' e cls dc (b6 (A,.none))->Q () s'):Uu M X.A (a0y (.ref e) X.env) (λ_ i=>Uu M X.A (ZJ (.ref e) b8) Q E i) E s:=by
 refine yL (λp a=>(x.hT p a).imp id λ⟨L,u,q⟩=>by rw[v]at u;cases u;exact q) (by rw[<- c];exact I.ok.frames) (by rw[<- c];exact I.stack) v x.rc λG B U j w=>?_;refine yM (s:={s with heap:=G}) U λr Y _ y=>?_;have N:XKept (cR X.stack) e T s.heap r:=by
  rw[c];refine⟨λb o d n h O=>?_,λb o d n h=>?_⟩
  ·rw[y b (kP d h j)];exact w.keep b o d n h O
  ·obtain⟨R,K⟩:=w.slot b o d n h;refine⟨R,?_⟩;rw[y b (kP d h j)];exact K
 refine k {s with heap:=r} B (x.kept l I N) ⟨Y,(λp a=>by cases a;exact .inl rfl),⟨x.lo.1,λp a=>?_⟩,⟨x.fr.1,λp a=>?_⟩,λq m=>⟨(x.pn q m).1,λp a=>?_⟩⟩
 ·cases a;exact j.elim (λz=>Xm (VD I.sz z)) (λ⟨p,a,q⟩=>q▸x.lo.2 p a)
 ·cases a;exact j.elim (λz=>I.hok.fresh z) (λ⟨p,a,q⟩=>q▸x.fr.2 p a)
 ·cases a;exact kP (I.pin q m).1 (x.pn q m).2 j
theorem Np{M:YX}{A:UD}{E:Value->T6->Prop}{Q:Unit->T6->Prop}{T:Addr}(c:X.ex=[])(I:Inv X a4z σ H s)(x:Ex X a4z H s e cls dc (b6 (T,.none)))
  (k:∀s',Inv X a4z σ H s'->Ex X a4z H s' e cls dc (b6 (T,.none))->Q () s'):Uu M A (ZJ (.ref e) b8) Q E s:=by
 refine yM x.rc λh i _ d=>k {s with heap:=h} (x.kept c I ⟨λb o a _ n _=>?_,λb o a _ n=>⟨o.slots,?_⟩⟩) ⟨i,x.hT,x.lo,x.fr,x.pn⟩
 ·rw[d b (n _ rfl)];exact a
 ·rw[d b (n _ rfl)];exact a
theorem Ex.cell{π:Nat->Addr}{μ:Hm}{y:Xn}(i:X.ex=[])(I:Inv X a4z σ H s)(x:Ex X a4z H s e cls dc T)(R:Rp X.K π H μ)(A:tR X.K π μ.length H cls dc y) :
  ∃d H',Ext π μ.length H d (μ++[C.exc y.1 (y.2.map (·.1)) (y.2.map (·.2))]).length H'/\Rp X.K d H' (μ++[C.exc y.1 (y.2.map (·.1)) (y.2.map (·.2))])/\Inv X a4z σ H' s/\d μ.length=e/\mK e H':=by
 obtain⟨o,r,m,K,v,q,g5,L⟩:=x.rc.ob;have hc:lY X.K π μ.length H e (C.exc y.1 (y.2.map (·.1)) (y.2.map (·.2))) (.frz o (.ext λ_=>True)):=by
  refine⟨o,_,rfl,by rw[K];exact A.1,⟨r,q⟩,?_⟩;rcases A.2 with⟨h,U⟩|⟨E,od,us,M,N,O,Q⟩
  ·rw[h];exact .inl ⟨rfl,rfl,v.trans U⟩
  ·exact .inr ⟨E,od,us,by rw[v];exact M,N,O,Q⟩
 obtain⟨G,B,p1⟩:=R.alloc x.fr.1 hc;refine⟨_,_,G,B,?_,p1,o,_,bO,r,q,L⟩;have j:∀b u,H b=b6 u->b≠e:=λb u h z=>by rw[z,x.fr.1]at h;cases h
 have w:∀b∈[e],X.s₀.heap.get? b=none:=λb a=>by cases U6.mp a;exact x.lo.1
 have l:=DI I i w λb a=>by cases U6.mp a;exact⟨o,r,m,q⟩
 have k:=l.step (H':=aG H e (.frz o (.ext λ_=>True))) (h':=s.heap) (g':=s.gens) (d':=s.drawn) (t':=s.toks) (ch:=[e]) (λb a=>?_) (λb o _ _ _ g _=>g) (λb o _ _ _ g _=>⟨o.slots,g⟩)
  (λb o Z g n=>?_) (λb o _ g=>⟨o,g⟩) (λb xs h=>by rw[aS (j _ _ h)];exact h) (λb o u h=>by rw[aS (j _ _ h)];exact h) (λb ps h=>⟨#[],by rw[aS (j _ _ h),h];simp⟩) (λ_ h=>h) ?_ I.bare
 ·exact DJ k i w
 ·refine⟨.inl a,(l.ok.exf b a).1,(l.ok.exf b a).2,λp Y=>?_⟩;cases U6.mp a;exact(x.pn p Y).1
 ·rw[aS (λz=>Z (by rw[z];exact U6.mpr rfl))];exact n
 ·intro b u h;by_cases a:b=e
  ·subst a;rw[bO]at h;cases h;exact⟨m,trivial,⟨o,m⟩,λ_ _ _ _=>trivial⟩
  ·rw[aS a]at h;exact(I.hok b u h).stay (λ_ _ _ g=>g) (λc g=>by rw[aS (j _ _ g)];exact g) (λc xs g=>by rw[aS (j _ _ g)];exact g)
theorem En.unset{K:T3}{π:Nat->Addr}{n:Nat}{H:Hp}{σ:L2.St}{b:aF}(E:En K π n H σ b)(i:Nat):En K π n H (σ.set i b8) (b.set i b8):=by
 refine⟨by rw[Vz,Vz];exact E.len,λj c e=>?_⟩;rw[a2j]at e ⊢;by_cases a:i=j
 ·rw[if_pos a]at e;split at e<;>cases e
 ·rw[if_neg a]at e ⊢;exact E.get j c e
theorem tT{M:YX}{A:UD}{E:Value->T6->Prop}{Q:Unit->T6->Prop}{i:Nat}{y:Str}{pos:VW}(I:Inv X a4z σ H s)(Z:X.N.Nodup)(O:X.N[i]?=b6 y)(R:X.env.scope.names.lookup y=b6 .local)
  (h:∀s',Inv X a4z (σ.set i b8) H s'->Q () s'):Uu M A (do bindName X.env y .none;a2D X.env y pos) Q E s:=by
 have hk:X.env.kindOf y=b6 .local:=R;have G:(X.env.scope.kind==.class||(X.env.scope.kind==.module&&X.env.locals != X.env.globals))=false:=by rw[I.ok.kind];rfl
 refine T5 (wpAny_bindName (sE (v:=.non) I Z O (.inl R) rfl (λs1 a _=>?_) (.inr R)));unfold a2D;refine wpAny_onRaise ?_;unfold unbindName;refine T5 (wpAny_point (T5 ?_));unfold deleteName;simp only[hk,G];rw[if_neg (by decide)];obtain⟨m,hn,hl⟩:=id a.loc;have r:i<(σ.set i (b6 V.non)).length:=by rw[a.len];exact(T8.mp O).1
 have my:(m y).isSome=true:=by
  obtain⟨u,_,q⟩:=hl i y .non O (by rw[Vc (by simpa using r)]) (.inl R);rcases q with⟨_,q⟩|⟨q,_⟩
  ·rw[q];rfl
  ·rw[hk]at q;rcases q with q|q<;>cases q
 refine T5 (wpAny_nsDel_keeps hn λh2 v Y x=>?_);simp only[my,U3,Ud,if_false];refine Ui (wpAny_point (h _ ?_));have cne:=a.cne;obtain⟨oL,_,_,hoL,_⟩:=id hn;refine⟨I.ok,a.os,a.bare,⟨λb o e n U L=>?_,λb o e n U L=>?_,a.base.free,λb o e L=>?_,a.base.tups,a.base.frzs,a.base.tbls⟩,⟨_,Y,λj z v' B N e3=>?_⟩,λy c e=>?_,a.free,a.freeC,λp hp=>?_,λb ob e=>?_,by rw[Vz];exact I.len⟩
 ·exact(x.2 b (UB (UM (Uh e) I.ok.above))).trans (a.base.keep b o e n U L)
 ·obtain⟨sl,B⟩:=a.base.slot b o e n U L;exact⟨sl,(x.2 b (UB (UM (Uh e) I.ok.above))).trans B⟩
 ·obtain⟨o',B⟩:=a.base.there b o e L;exact⟨o',(x.2 b (UB (UM (Uh e) I.ok.above))).trans B⟩
 ·have K:j≠i:=λK=>by subst K;rw[Vc (by simpa using r)]at N;cases N
  rw[Vd (Vf K)]at N;obtain⟨u',r',q⟩:=hl j z v' B (by rw[Vd (Vf K)];exact N) e3;refine⟨u',r',?_⟩;rcases q with⟨k,e⟩|⟨k,c,e,w⟩
  ·refine .inl ⟨k,?_⟩;have:z≠y:=λe=>K (wF Z B (e▸O));simp[this,e]
  ·exact .inr ⟨k,c,e,w.sameBut x (cne z c e)⟩
 ·obtain⟨w',z⟩:=a.cell y c e;exact⟨w',z.sameBut x (cne y c e)⟩
 ·obtain⟨e,n,ne,nf,d⟩:=a.pin p hp;exact⟨(x.2 p.1 ne).trans e,n,ne,nf,d⟩
 ·refine(a.hok b ob e).stay (λc w' hc q=>(x.2 c ?_).trans q) (λ_ q=>q) λ_ _ q=>q;intro z;have l:=a.free;rw[<- z]at l;rcases hc with hc|hc
  ·rw[hc,e]at l;cases l
  ·rw[l]at hc;cases hc
end
noncomputable def kS(m:MS)(r:MR)(sup:Str->Option Bool)(i:Nat)(b:MS):MS:=λa μ=>match r a μ with
 |some p=>if sup p.1.1=b6 c4 then(b (p.2.1.set i (b6 (.loc p.2.2.length))) (p.2.2++[C.exc p.1.1 (p.1.2.map (·.1)) (p.1.2.map (·.2))])).map λq=>(q.1,q.2.1.set i b8,q.2.2)else b8|none=>m a μ
theorem Nq{X:Cx}{body hb:List Stmt}{l:Stmt}{c y:Str}{cp hp pos:VW}{L:Addr}{i:Nat}{m mh:MS}{r:MR}{sup:Str->Option Bool}(Q:X.ex=[])(hst:X.stack=X.env::X.outer)(hf:X.env.frame=b6 L)(hN:X.N.Nodup)
  (hi:X.N[i]?=b6 y)(hy:X.env.scope.names.lookup y=b6 .local)(hg:Gl X c)(hdb:(c==("__debug__":Str))=b9) (hs:∀x b,sup x=b6 b->qI X.K x c=b6 b)
  (hm:QB X.nox body m)(hr:∀E,QRB (X.wish E) body r)(hh:∀e,QBh (X.hnd (.ref e)) e (l::hb) mh) :
  QS X (.Try body [.ExceptHandler (b6 (.Name c cp)) (b6 y) (l::hb) hp] [] [] pos) (kS m r sup i mh):=by
 refine⟨λj s A H D I t=>wpAny_Try_except ?_⟩;obtain⟨π,ρ,μ,fl,ρ',μ',R,En0,o,n⟩:=t;unfold kS at o;split at o
 ·rename_i p hp';obtain⟨x,ρ1,Z⟩:=p;dsimp only at o;split at o
  ·rename_i w;obtain⟨⟨fl2,ρ2,μ2⟩,hq,o⟩:=T7.mp o;cases o;refine aM ((hr (λe s₁=>Uu (Ut X.prog X.w) X.A (a0y e X.env) (λ_ s₂=>Uu (Ut X.prog X.w) X.A (ZJ e b8) (λ_ s₃=>Uu (Ut X.prog X.w) X.A (handleBy e X.env [.ExceptHandler (b6 (.Name c cp)) (b6 y) (l::hb) hp]) (SP X j D) X.xe s₃) X.xe s₂) X.xe s₁)).h j s A H π ρ μ x ρ1 Z (I.wish _) R En0 hp' ?_) λ_ _ z=>z.elim;intro π1 σ1 H1 s1 e cls dc T e1 R1 E1 I1 Y ix;have I1:=I1.unwish;have Y:Ex X j H1 s1 e cls dc T:=⟨Y.rc,Y.hT,Y.lo,Y.fr,Y.pn⟩;refine Nn Q hst hf I1 Y λs2 T2 I2 x2=>?_;obtain⟨B,hB⟩:∃B,fY X.K x.1=b6 B:=by have:=hs _ _ w;unfold qI at this;obtain⟨B,hB,_⟩:=TZ.mp this;exact⟨B,hB⟩
   have a:=hs _ _ w;unfold qI at a;rw[hB,UG]at a;obtain⟨Ca,hC,a⟩:=TZ.mp a;obtain⟨b1,hb1,a⟩:=TZ.mp a;obtain⟨b2,hb2,a⟩:=T7.mp a;have hcls:cls=.ref B:=by have h1:Vj X.K U1 x.1=b6 (b6 cls):=ix.1;rw[kR hB]at h1;cases h1;rfl
   subst hcls;have hmg:X.mg c=b6 (.ref Ca):=WI I.mod.kin I.mod.glob (kR hC);have kin:=I2.kIn;obtain⟨⟨N1,lE,q1,bs1,sn1,su1,ab1,col1,dd1,a0,a1,a2,a3,a5,o1⟩,_⟩:=oB kin hb1;obtain⟨⟨N2,nm2,q2,bs2,sn2,su2,ab2,col2,dd2,c0,c1,c2,c3,c5,o2⟩,ob2⟩:=oB kin hb2;obtain⟨oe,vs,g1,g2,_⟩:=x2.rc.ob;refine wpAny_handleBy_cons (codeAny_handlers_test ?_) (by intro q;cases q);refine f9 (X:=X.hnd (.ref e)) (DL I2 (.ref e)) hg hmg ?_ hdb;refine Nl o1 o2 g1 g2 ob2 ?_;rw[a];dsimp only[if_true];refine codeAny_handlers_suite_as ?_;refine Np Q I2 x2 λs3 I3 x3=>?_;obtain⟨π4,H4,e4,R4,I4,p4,sf⟩:=x3.cell Q I3 R1 ix;refine sE (v:=.ref e) I4 hN hi (.inl hy) rfl (λs5 I5 _=>?_) (.inr hy);have dl:IsD X.K π4 (Z++[C.exc x.1 (x.2.map (·.1)) (x.2.map (·.2))]).length H4 (.ref e) (.loc Z.length):=by rw[<- p4];exact .loc (by simp)
   have k:=(hh e).h j s5 _ H4 {nx:=λA H=>D.nx (A.set i b8) H,bk:=λA H=>D.bk (A.set i b8) H,ct:=λA H=>D.ct (A.set i b8) H,rt:=D.rt} sf (DL I5 (.ref e))
    ⟨π4,_,_,fl2,ρ2,μ2,R4,(E1.mono e4).set dl i,hq,?_⟩
   ·refine UK k (λf s6 q=>?_) λ_ _ z=>UT z;cases f with
    |next=>obtain⟨σ6,K,M,U⟩:=q;exact tT (tS I.ok M) hN hi hy λs7 N=>⟨_,K,N,U⟩|brk=>obtain⟨σ6,K,M,U⟩:=q;exact tT (tS I.ok M) hN hi hy λs7 N=>⟨_,K,N,U⟩|cont=>obtain⟨σ6,K,M,U⟩:=q;exact tT (tS I.ok M) hN hi hy λs7 N=>⟨_,K,N,U⟩|ret u=>obtain⟨v6,σ6,K,M,r6,U⟩:=q;exact tT (tS I.ok M) hN hi hy λs7 N=>⟨v6,_,K,N,r6,U⟩
   ·have ee:=e1.trans e4;cases fl2 with
    |nx=>exact λh σ' G O R' E'=>n h _ G (ee.trans O) R' (E'.unset i)|bk=>exact λh σ' G O R' E'=>n h _ G (ee.trans O) R' (E'.unset i)|ct=>exact λh σ' G O R' E'=>n h _ G (ee.trans O) R' (E'.unset i)|rt d=>exact λh v G O=>n h v G (ee.trans O)
  ·cases o
 ·refine UK (hm.h j s A H D (I.wish _) ⟨π,ρ,μ,fl,ρ',μ',R,En0,o,n⟩) (λf s1 q=>?_) λ_ _ z=>UT z;cases f with
  |next=>exact Yx (SP.unwish (f:=.next) q)|brk=>exact SP.unwish (f:=.brk) q|cont=>exact SP.unwish (f:=.cont) q|ret u=>exact SP.unwish (f:=.ret u) q
end L3
namespace L3
open PySem L2 PySem.Spec PyProof.Rows
noncomputable abbrev oC(h:Vb)(C:Addr)(rest:List Value):Vb:=(h.push {cls:=.type "tuple",data:=.seq rest.toArray}).push {cls:=.ref C,data:=.fields #[.ref h.objs.size,.none,.none,.none,.bool b9,.none]}
theorem tU{h:Vb}{C:Addr}{rest:List Value}:∀b o,h.get? b=b6 o->(oC h C rest).get? b=b6 o:=λb o q=>Ua _ (Ua _ q)
theorem DM(h:Vb)(C:Addr)(rest:List Value):(oC h C rest).get? (h.objs.size+1)=b6 {cls:=.ref C,data:=.fields #[.ref h.objs.size,.none,.none,.none,.bool b9,.none]}:=by heap_get
section
variable{prog:Ur}{w:UJ}{A:UD}{E:Value->T6->Prop}{s:T6}
variable{nm q:Str}{C N fI:Addr}{bs bm bmB:List Value}{hdct:Bool}{sn:List Str}{sub:List Value}{ab:Bool}{col:Option Bool}{dd:Option Addr}{k0 k1 k2 k3 k5:Option Value}{B newId initId:String}{mN:Str->Option Value}{rest:List Value}
theorem Nr(F:ExcBaseFacts B newId initId bmB)(T:a0i s.heap bmB bm){l:Obj}{Q:Fin->T6->Prop}(hC:s.heap.get? C=b6 (Wj nm q C N bs bm hdct sn sub ab col dd k0 k1 k2 k3 k5 newId))(y:s.heap.Ns N mN)(u:mN "__init__"=b6 (.ref fI))
  (p:s.heap.get? fI=b6 l)(e:l.cls=.type "function") (v:rest.length<=Uo)
  (z:Uu (Ut prog w) A (call (.ref fI) (.ref (s.heap.objs.size+1)::rest)) (λr m=>r=.none/\Q (.done (.ret (.ref (s.heap.objs.size+1)))) m) E {s with heap:=oC s.heap C rest}) :
  Uu (Ut prog w) A (Builtin.«type.__call__» ⟨.ref C::rest,[]⟩) Q E s:=by
 obtain⟨h,g,d,t,G⟩:=s;repeat (first|with_reducible refine Vh hC ?_|with_reducible refine wpAny_madeBy_exc hC ?_|wp_step)
 refine codeAny_call_builtin_code (a1R _ F.quiet) (wpAny_check_new_subT F T hC (codeAny_exc_new_subT F T hC ?_ v));show Uu _ _ _ _ _ (⟨oC h C rest,g,d,t,G⟩:T6);have a:=tU (C:=C) (rest:=rest) _ _ hC;have i:=y.keeps (tU (h:=h) (C:=C) (rest:=rest));have c:=tU (C:=C) (rest:=rest) _ _ p;have n:=T.keeps (tU (h:=h) (C:=C) (rest:=rest));have o:=DM h C rest;have b:(Ug C::bm).contains (.ref C)=true:=by simp
 unfold a2Y;repeat (first|with_reducible refine Vh o ?_|(with_reducible refine W9 a ?_;rw[b])|wp_step)
 show Uu _ _ (Xw (.ref C) _) _ _ _;refine wpAny_typeLookup_tail a i n F.mroIs F.init.lookup ?_;rw[u];refine Vx (T5 ?_);unfold bindSpecial;refine T5 (wpAny_typeOf (T:="function") ⟨_,c,e⟩ ?_);rw[if_pos (by decide)];refine Ui (T5 (UK z (λr m j=>?_) λ_ _ x=>x));obtain⟨rfl,j⟩:=j;wp_walk;exact j
theorem Nt(F:ExcBaseFacts B newId initId bmB)(T:a0i s.heap bmB bm){b:Obj}{Q:Value->T6->Prop}(hC:s.heap.get? C=b6 (Wj nm q C N bs bm hdct sn sub ab col dd k0 k1 k2 k3 k5 newId))(j:s.heap.Ns N mN)(e:mN "__init__"=b6 (.ref fI))
  (c:s.heap.get? fI=b6 b)(a:b.cls=.type "function") (i:rest.length<=Uo)
  (l:Uu (Ut prog w) (A.under (.builtin "type.__call__" ⟨.ref C::rest,[]⟩)) (call (.ref fI) (.ref (s.heap.objs.size+1)::rest)) (λr m=>r=.none/\Q (.ref (s.heap.objs.size+1)) m) E {s with heap:=oC s.heap C rest}) :
  Uu (Ut prog w) A (call (.ref C) rest) Q E s:=by
 have n:=tc_lookup;have o:=tc_bind (.ref C);have p:s.TypeIs (.ref C) "type":=⟨_,hC,rfl⟩;obtain⟨h,g,d,t,u⟩:=s;refine YQ (codeAny_of_tree ?_);show Uu _ _ (callAny (.ref C) _) _ _ _;repeat (any_goals (first|assumption|with_reducible refine Vh hC ?_|wp_step))
 refine⟨rfl,?_⟩;exact codeAny_call_builtin_at (a1R _ (by decide +kernel)) entry_typeCall (wpAny_check_type_call_sub hC (Nr F T hC j e c a i l))
theorem Nu{env:YD}{x:a1B Value}{Q:Flow->T6->Prop}(b:bm.contains (.type "BaseException")=c4) (r:A.handled=b8)
  (h:Uu (Ut prog w) A x (λv a=>∃e i l,v=.ref e/\a.heap.get? C=b6 (Wj nm q C N bs bm hdct sn sub ab col dd k0 k1 k2 k3 k5 newId)/\a.heap.get? e=b6 i/\i.cls=.ref C/\i.data=.fields l/\l[1]?=b6 .none/\E (.ref e) a) E s) :
  Uu (Ut prog w) A (raiseStmt env (b6 x) b8) Q E s:=by
 have j:(Ug C::bm).contains (.type "BaseException")=true:=by rw[Yu,b,ZQ]
 unfold raiseStmt;refine T5 (UK h (λv a c=>?_) λ_ _ x=>x);obtain⟨e,i,l,rfl,m,n,hc,hd,o,p⟩:=c;obtain⟨G,H,u,y⟩:=i;cases hc;cases hd;obtain⟨z,g,d,K,I⟩:=a;repeat (first|with_reducible refine Vh n ?_|with_reducible refine Vh m ?_|(with_reducible refine W9 m ?_;rw[j])|with_reducible refine V4 n rfl o ?_|wp_step)
 exact wpAny_raiseNew_none r p
theorem Nv{M:YX}{o:Obj}{x:Addr}{a v:Value}{Q:Unit->T6->Prop}(T:a0i s.heap mJ bm)(hC:s.heap.get? C=b6 (Wj nm q C N bs bm c4 sn sub ab col dd k0 k1 k2 k3 k5 newId))(i:s.heap.get? x=b6 o)(hc:o.cls=.ref C)(e:Q () s) :
  Uu M A (Zd "object.__setattr__" ⟨[.ref x,a,v],[]⟩) Q E s:=by
 have b:=Yz;have c:(Ug C::bm).contains (.type "object")=true:=by rw[Yu,T.hasType b.hasOwner,ZQ]
 have j:=b.args (.ref x) a v;obtain⟨h,g,d,t,l⟩:=s;simp only[Zd,b.kind,b.split];refine T5 ?_;unfold a2Y;repeat (first|(with_reducible refine Vh i ?_;rw[hc])|(with_reducible refine W9 hC ?_;rw[c])|wp_step)
 exact e
theorem Nw{name:Str}{tk:a2J}{v:Value}{x:Addr}{o:Obj}{vs:Array Value}{Q:Fin->T6->Prop}(T:a0i s.heap mJ bm)(hC:s.heap.get? C=b6 (Wj nm q C N bs bm c4 sn sub ab col dd k0 k1 k2 k3 k5 newId))
  (R:Xv (Ut prog w) s.heap (Xw (.ref C) name) b8)(G:s.heap.get? x=b6 o)(hc:o.cls=.ref C)(hd:o.data=.fields vs)(hnd:o.dict=b8)
  (M:∀a U K,a.get? x=b6 {o with dict:=b6 s.heap.objs.size}->a.get? s.heap.objs.size=b6 U->a.Ns1 s.heap.objs.size (λy=>if y=name then b6 v else b8)->(∀b I,b≠x->s.heap.get? b=b6 I->a.get? b=b6 I)->Q (.done (.ret .none)) {s with heap:=a,toks:=K}) :
  Uu (Ut prog w) A (Builtin.«object.__setattr__» ⟨[.ref x,.str name tk,v],[]⟩) Q E s:=by
 have X:=Yz;have c:refuseLoop (.ref x) "__setattr__" (.ref C::bm)=pure ():=by
  rw[a4s];clear hC R M;induction T with
  |base=>exact X.passes _|own _ _ _ _ ih=>rw[a4s];exact ih
 obtain⟨h,g,d,t,os⟩:=s;unfold Builtin.«object.__setattr__»;repeat (first|rw[refuse_eq]|rw[c]|(with_reducible refine Vh G ?_;rw[hc])|with_reducible refine wpAny_mroOf_exc hC ?_|with_reducible refine V6 (s:=⟨h,g,d,_,os⟩) R ?_|wp_step)
 rw[hnd,if_neg (by simp[typeHasDict])];rw[hd];have l:(h.push {cls:=.type "dict",data:=.dict #[]}).get? x=b6 o:=Ua _ G;have m:x≠h.objs.size:=UB (Uh G);refine T5 (wpAny_alloc' ?_);refine T5 (wpAny_update' l (Ui ?_));have H:((h.push {cls:=.type "dict",data:=.dict #[]}).update x λo=>{cls:=o.cls,dict:=b6 h.objs.size,data:=o.data,slots:=o.slots}).get? x=b6 {o with dict:=b6 h.objs.size}:=by refine Vu _ l ?_;obtain⟨oc,U,odt,osl⟩:=o;cases hd;rfl
 have u:((h.push {cls:=.type "dict",data:=.dict #[]}).update x λo=>{cls:=o.cls,dict:=b6 h.objs.size,data:=o.data,slots:=o.slots}).get? h.objs.size=b6 {cls:=.type "dict",data:=.dict #[]}:=
  (a1G _ _ _ _ m.symm).trans (Heap.get?_push_at rfl rfl)
 have z:((h.push {cls:=.type "dict",data:=.dict #[]}).update x λo=>{cls:=o.cls,dict:=b6 h.objs.size,data:=o.data,slots:=o.slots}).Ns h.objs.size (λ_=>b8):=⟨_,#[],_,u,rfl,(λe he=>absurd he (by simp)),λ_=>rfl⟩;show Uu _ _ (YV h.objs.size (.str name tk) name v) _ _ _;unfold YV a2x;refine T5 (Ui (T5 (wpAny_nsSet1 (Heap.Ns1.of_empty z) λa i O=>?_)));obtain⟨oD,Z,Y,j,r,p⟩:=i.count (Within.cons name v Within.nil);refine T5 (wpAny_lookBehind j (by rw[r];exact pastItsLine_dict (VD p (by rw[UA,VR,Vm];omega))) ?_);wp_walk;exact M a oD _ ((O.2 x m).trans H) j i λb I n L=>(O.2 b (UB (Uh L))).trans ((a1G _ _ _ _ n).trans (Ua _ L))
theorem Nx{name:Str}{v:Value}{x:Addr}{o:Obj}{vs:Array Value}{Q:Unit->T6->Prop}(T:a0i s.heap mJ bm)(hC:s.heap.get? C=b6 (Wj nm q C N bs bm c4 sn sub ab col dd k0 k1 k2 k3 k5 newId))
  (G:Xv (Ut prog w) s.heap (Xw (.ref C) "__setattr__") (b6 (.builtin "object.__setattr__"))) (H:Xv (Ut prog w) s.heap (Xw (.ref C) name) b8)
  (i:s.heap.get? x=b6 o)(hc:o.cls=.ref C)(hd:o.data=.fields vs)(hnd:o.dict=b8)
  (z:∀a j c,a.get? x=b6 {o with dict:=b6 s.heap.objs.size}->a.get? s.heap.objs.size=b6 j->a.Ns1 s.heap.objs.size (λy=>if y=name then b6 v else b8)->(∀b m,b≠x->s.heap.get? b=b6 m->a.get? b=b6 m)->Q () {s with heap:=a,toks:=c}) :
  Uu (Ut prog w) A (setAttr (.ref x) name v) Q E s:=by
 have e:=Yz;have I:=e.slot.bind (.ref x);obtain⟨h,g,d,t,l⟩:=s;unfold setAttr callSpecial? specialOf;repeat (any_goals (first|assumption|(with_reducible refine Vh i ?_;rw[hc])|with_reducible refine V6 (s:=⟨h,g,d,_,l⟩) G ?_|wp_step))
 refine Yq e.slot.plain e.entry (Nv (s:=⟨h,g,d,t+1,l⟩) T hC i hc (Nw (s:=⟨h,g,d,t+1,l⟩) T hC H i hc hd hnd λa j c n p r u=>?_));repeat (any_goals (first|assumption|wp_step))
 exact z a j c n p r u
end
end L3
namespace L3
open PySem L2 PySem.Spec PyProof.Rows
noncomputable def XO(e C:Addr)(a:Option Addr):HO:=.ext λh=>∃o vs,h.get? e=b6 o/\o.cls=.ref C/\o.dict=a/\o.data=.fields vs/\(vs[1]?=b6 .none/\vs[2]?=b6 .none)/\∃t,vs[0]?=b6 (.ref t)
theorem yP{P:Ur}{w:UJ}{H:Hp}{h:Vb}{e C:Addr}{b:Option Addr}{o:Obj}{vs:Array Value}{t:Addr}(h1:h.get? e=b6 o)(d:o.cls=.ref C)(i:o.dict=b)(j:o.data=.fields vs)(l:vs[1]?=b6 .none/\vs[2]?=b6 .none)(m:vs[0]?=b6 (.ref t)):ObjOk P w H h e (XO e C b):=
 ⟨⟨o,vs,h1,d,i,j,l,t,m⟩,⟨o,h1⟩,λ_ _ ⟨n,a,c,g⟩ k=>⟨n,a,k _ c,g⟩⟩
noncomputable def tV(K:T3)(C f:Addr):Bool:=match K.lookup C with
 |some ⟨.type "type",_,.cls cd,sl⟩=>(match cd.mro,sl.toList with
  |.ref C'::bm,[_,_,_,_,b6 (.builtin n),_]=>C'==C&&n=="ValueError.__new__" && !cd.hasDel&&cd.hasDict&&PySem.W.tailIn K mJ bm&&PySem.W.nsOkIn K cd.ns&&Vj K cd.ns "__init__"==b6 (b6 (.ref f))
  |_,_=>b9)
 |_=>b9
theorem Ny{K:T3}{h:Vb}{N:Addr}{m:Str->Option Value}{n:Str}{v:Value}(X:K.In h)(G:h.Ns N m)(e:Vj K N n=b6 (b6 v)):m n=b6 v:=by
 obtain⟨o,r,p,j,hd,_,i⟩:=G;unfold Vj at e;split at e
 ·rename_i c d b s u q;have g:=X _ _ q;rw[j]at g;cases g;cases hd;split at e
  ·rename_i l a;cases e;rw[<- i n];unfold nsFind findBy;rw[<- Array.find?_toList,a];rfl
  ·split at e<;>cases e
 ·cases e
theorem tW{K:T3}{h:Vb}{C f:Addr}(X:K.In h)(q:tV K C f=c4) :
  ∃bm N nm r bs s b o a p d i j l m u,h.get? C=b6 (Wj nm r C N bs bm c4 s b o a p d i j l m "ValueError.__new__")/\h.Ns N u/\u "__init__"=b6 (.ref f)/\a0i h mJ bm:=by
 unfold tV at q;split at q
 ·rename_i p v Q y;split at q
  ·rename_i R bm d i j l n m x z;rw[T4,T4,T4,T4,T4,T4,beq_iff_eq,beq_iff_eq,beq_iff_eq,Xi]at q;obtain⟨⟨⟨⟨⟨⟨E,G⟩,H⟩,O⟩,I⟩,L⟩,M⟩:=q;subst E G;cases v with
   |mk nm bs A B r hd s b o a w=>cases x;cases H;cases O;have e:Q=#[d,i,j,l,b6 (.builtin "ValueError.__new__"),m]:=VS.mp z;subst e;have c:=a1h X L;exact⟨bm,B,nm,r,bs,s,b,o,a,p,d,i,j,l,m,_,X _ _ y,.of_isNs c,Ny X (.of_isNs c) M,a1g X I⟩
  ·cases q
 ·cases q
noncomputable def yQ(K:T3)(B:Addr):Bool:=PySem.W.readsIn K B (.type "type")&&(match a1M K (.ref B) (.type "type") "__init__" with|some (.val (.builtin n))=>n=="ValueError.__init__" |_=>b9) &&
 Ys K (.ref B) "__getattribute__"==b6 (b6 (.builtin "type.__getattribute__"))
noncomputable def kT(C:Addr)(b:Str):Sp:=λvs H Q _=>∃e v,vs=[V.ref e,v]/\H e=b6 (XO e C b8)/\∀a c,H a=b8->a≠e->Q .non (aG (aG H e (XO e C (b6 a))) a (.frz c (.xd [(b,v)])))
structure InitK(K:T3)(C f B:Addr)(bn at':Str):Prop where
 cls:tV K C f=c4
 base:yQ K B=c4
 bnm:Vj K U1 bn=b6 (b6 (.ref B))
 set:VI K (.ref C) "__setattr__"=b6 (b6 (.builtin "object.__setattr__"))
 none:VI K (.ref C) at'=b6 b8
section
variable{X:Cx}{a4z:List (Addr×Obj)}{σ:L2.St}{H:Hp}{s:T6}{e C f B:Addr}{bn at':Str}
theorem Nz{Q:Value->T6->Prop}{E:Value->T6->Prop}{us:List Value}(c:InitK X.K C f B bn at')(I:Inv X a4z σ H s)(l:H e=b6 (XO e C b8))(hl:us.length<=Uo)
  (k:∀A,Inv X a4z σ H A->Q .none A):Uu (Ut X.prog X.w) X.A (call (.builtin "ValueError.__init__") (.ref e::us)) Q E s:=by
 obtain⟨bm,N,nm,qn,bs,sn,U,Z,K,dd,k0,k1,k2,k3,k5,mN,M,hn,_,T⟩:=tW I.kIn c.cls;have F:=WL;obtain⟨⟨o,Y,r,v,L,j,w,ta,x⟩,_⟩:=I.hok e _ l;obtain⟨h,g,d,t,R⟩:=s;refine YQ (Yq F.init.plain F.initEntry (wpAny_check_init_subT F T M r v ?_));have a:(h.push {cls:=.type "tuple",data:=.seq us.toArray}).get? e=b6 o:=Ua _ r;have y:0<Y.size:=(Vt.mp x).1;unfold Builtin.«BaseException.__init__»;repeat (first|with_reducible refine V4 a j x ?_|with_reducible refine Xb a j y ?_|wp_step)
 have i:aG H e (XO e C b8)=H:=by
  funext b;unfold aG;split
  ·rename_i z;rw[z,l]
  ·rfl
 have G:Inv X a4z σ H ⟨h.push {cls:=.type "tuple",data:=.seq us.toArray},g,d,t,R⟩:=I.kept (t':=t) λb u q=>Ua _ q;have n:=WQ j (·.setIfInBounds 0 (Ug h.objs.size));have p:=Vu (Xc (·.setIfInBounds 0 (Ug h.objs.size))) a (WU n);have m:=G.write (x:=e) (e:=e) (o:=XO e C b8) (h':=(h.push {cls:=.type "tuple",data:=.seq us.toArray}).update e (Xc (·.setIfInBounds 0 (Ug h.objs.size)))) (t':=t) (by rw[l];trivial) (.inl rfl) (λb u O q=>by rw[U4 _ _ (Vf O)];exact q) ⟨_,p⟩
  (yP p (by rw[ZU];exact v) (by rw[DG];exact L) n ⟨by rw[Yg];simpa using w.1,by rw[Yg];simpa using w.2⟩ (t:=h.objs.size) (by rw[Yg];simp[y]))
 rw[i]at m;exact k _ m
theorem NA {env:YD}{bn sf l:Str} {kk} {c d i j b:VW}(m:(d.endLine == b.line)=c4):eval (.Call (.Attribute (.Name bn c) "__init__" d) [.Name sf i,.Constant (.str l) kk j] [] b) env=(do
   let h <- eval (.Name bn c) env
   a1U d.atName
   let (f,first) <- holding [h] (getMethod h "__init__" (do return (<- importBound (.Name bn c) env).getD c4))
   callWith b f first (W6 b (UW [.Name sf i,.Constant (.str l) kk j] env)) (a1f b (ZF [] env))):=by
 rw [arm_eval_Call]
 have n:∀ a,methodCallPos a (.Name bn c) env d b=pure b:=fun a=>by
  unfold methodCallPos
  rw [m]
  cases a<;>rfl
 simp only [methodCall,n,pure_bind]
 rfl
theorem NB{v:V}{u:Value}{Q:Unit->T6->Prop}{E:Value->T6->Prop}(c:InitK X.K C f B bn at')(I:Inv X a4z σ H s)(j:H e=b6 (XO e C b8))(r:RelV v u)
  (k:∀s' G A,H G=b8->G≠e->Inv X a4z σ (aG (aG H e (XO e C (b6 G))) G (.frz A (.xd [(at',v)]))) s'->Q () s'):Uu (Ut X.prog X.w) X.A (setAttr (.ref e) at' u) Q E s:=by
 obtain⟨bm,N,nm,qn,bs,sn,sub,ab,col,dd,k0,k1,k2,k3,k5,mN,hC,hn,_,T⟩:=tW I.kIn c.cls
 obtain⟨⟨o,vs,U,Y,g3,Z,g5,ta,g6⟩,_⟩:=I.hok e _ j
 refine Nx T hC (Wx I.kIn c.set) (Wx I.kIn c.none) U Y Z g3 λh' A M R a2 a3 p=>?_
 have ne:s.heap.objs.size≠e:=Wf (Uh U)
 have nd:H s.heap.objs.size=none:=I.hok.fresh (Up _)
 refine k _ s.heap.objs.size A nd ne ?_
 have x:∀b z,H b=b6 z->b≠s.heap.objs.size:=λb z q O=>by rw[O,nd]at q;cases q
 have l:∀b,b≠e->b≠s.heap.objs.size->aG (aG H e (XO e C (b6 s.heap.objs.size))) s.heap.objs.size (.frz A (.xd [(at',v)])) b=H b:=λb h1 h2=>by rw[aS h2,aS h1]
 have nx:∀b z,H b=b6 z->z≠XO e C b8->b≠e:=λb z q K O=>by rw[O,j]at q;cases q;exact K rfl
 refine I.step (H':=aG (aG H e (XO e C (b6 s.heap.objs.size))) s.heap.objs.size (.frz A (.xd [(at',v)]))) (h':=h') (g':=s.gens) (d':=s.drawn) (t':=M) (ch:=[]) (λb h=>nomatch h)
  (λb i _ _ _ q n=>p b i (λz=>by rw[z,j]at n;cases n) q) (λb i _ _ _ q n=>⟨i.slots,p b i (λz=>by rw[z,j]at n;cases n) q⟩)
  (λb i _ q n=>?_) (λb i _ q=>?_) (λb xs q=>?_) (λb i z q=>?_) (λb ps q=>⟨#[],?_⟩) (λm hm=>?_) ?_ I.bare
 ·rw[l b (λz=>by rw[z,j]at n;cases n) (UB (Uh q))]
  exact n
 ·by_cases h:b=e
  ·exact⟨_,by rw[h];exact R⟩
  ·exact⟨_,p b i h q⟩
 ·rw[l b (nx _ _ q (by intro z;cases z)) (x _ _ q)]
  exact q
 ·rw[l b (nx _ _ q (by intro z;cases z)) (x _ _ q)]
  exact q
 ·rw[l b (nx _ _ q (by intro z;cases z)) (x _ _ q)]
  simpa using q
 ·obtain⟨oL,es,ep,q1,q2⟩:=hm
  exact⟨oL,es,ep,p _ _ (λz=>by have:=I.free;rw[z,j]at this;cases this) q1,q2⟩
 ·intro b z q
  by_cases hd:b=s.heap.objs.size
  ·subst hd
   rw[bO]at q
   cases q
   refine⟨a2,_,a3,λy=>?_⟩
   by_cases L:y=at'
   ·subst L
    simp[RelO,r]
   ·have:(y==at')=false:=beq_eq_false_iff_ne.mpr L
    simp[XI,this,L,RelO]
  ·rw[aS hd]at q
   by_cases h:b=e
   ·subst h
    rw[bO]at q
    cases q
    exact yP R Y rfl Z g5 g6
   ·rw[aS h]at q
    refine(I.hok b z q).stay (λw u' a d=>p w u' (λK=>?_) d) (λw d=>?_) λw xs d=>?_
    ·rcases a with a|a
     ·exact h (a.symm.trans K)
     ·rw[K,j]at a;cases a
    ·rw[l w (nx _ _ d (by intro z;cases z)) (x _ _ d)]
     exact d
    ·rw[l w (nx _ _ d (by intro z;cases z)) (x _ _ d)]
     exact d
end
theorem NC{CX:fQ}{P:Ur}{w:UJ}{K:T3}{mg:Str->Option Value}{base:Vb}{k:Nat}{x qual sf ar bn a T:Str}{st:Stmt}{f C B:Addr}{Z:VQ} {kk} {p1 p2 p3 p4 R p6 p7 p8 p9 O:VW}(F:Fun K x qual st f Z)(S:FnScope [sf,ar] [sf,ar] (bC st))
  (G:cD st=[.Expr (.Call (.Attribute (.Name bn p1) "__init__" p2) [.Name sf p3,.Constant (.str T) kk p4] [] R) p6,.Assign [.Attribute (.Name sf p7) a p8] (.Name ar p9) O]) (hl:(p2.endLine==R.line)=c4)
  (c:InitK K C f B bn a)(hg:(bC st).names.lookup bn=b6 .globalImplicit)(M:((bn==("__debug__":Str))||(sf==("__debug__":Str))||(ar==("__debug__":Str))||(sf==("__classdict__":Str))||(ar==("__classdict__":Str)))=b9) :
  FnOk P w K mg base CX (k+1) f Z [sf,ar] (kT C a):=by
 obtain⟨oc,od,dV,kV,doc,pm,an,b,ct,osl,rfl,lk,L⟩:=F.ex;have M:((((bn==("__debug__":Str))=b9/\(sf==("__debug__":Str))=b9)/\(ar==("__debug__":Str))=b9)/\(sf==("__classdict__":Str))=b9)/\(ar==("__classdict__":Str))=false:=by simpa[Bool.or_eq_false_iff,and_assoc]using M
 obtain⟨⟨⟨⟨n1,n2⟩,n3⟩,n4⟩,n5⟩:=M;refine wW (sp:=kT C a) lk L S (λu H Q E h=>by obtain⟨e,v,rfl,_⟩:=h;rfl) λA outer s H u Q E hr h=>?_;obtain⟨e,v,rfl,he,h⟩:=h;refine⟨λD r H'=>r=L2.start [sf,ar] [V.ref e,v]/\H'=H/\∀l od,H l=b8->l≠e->D.nx r (aG (aG H e (XO e C (b6 l))) l (.frz od (.xd [(a,v)]))),?_,rfl,rfl,h⟩;rintro i s1 σ d D I ⟨rfl,rfl,hD⟩;rw[G];have Y:InitK (dA CX P w K mg base [sf,ar] qual (bC st) f b A outer s d E).K C f B bn a:=c;have y:=c.base;unfold yQ at y;rw[T4,T4,beq_iff_eq]at y;obtain⟨⟨b1,o⟩,b3⟩:=y;have o:a1M K (.ref B) (.type "type") "__init__"=b6 (.val (.builtin "ValueError.__init__")):=by
  split at o
  ·rename_i n q;rw[q,beq_iff_eq.mp o]
  ·cases o
 have vS:PE (dA CX P w K mg base [sf,ar] qual (bC st) f b A outer s d E) (.Name sf p3) (m8 0):=pO rfl ((S.par sf (by simp)).elim .inl λz=>.inr (.inl z)) n2 n4;have X:PE (dA CX P w K mg base [sf,ar] qual (bC st) f b A outer s d E) (.Name sf p7) (m8 0):=pO rfl ((S.par sf (by simp)).elim .inl λz=>.inr (.inl z)) n2 n4;have vA:PE (dA CX P w K mg base [sf,ar] qual (bC st) f b A outer s d E) (.Name ar p9) (m8 1):=pO rfl ((S.par ar (by simp)).elim .inl λz=>.inr (.inl z)) n3 n5;have m:=pT vS (pT (Bs (x:=T) (j:=kk) (pos:=p4)) sI);refine Yk (a0Y ?_ I.quiet (mH rfl));refine PySem.W.methodCall_KW (pl:=(do return(<- importBound (.Name bn p1) _).getD c4)) (f9 I hg (WI I.mod.kin I.mod.glob c.bnm) ?_ n1) (NA hl);refine PySem.W.method_cls I.kIn b3 (PySem.W.cls_value I.kIn b1 o rfl ?_);refine Wn (aM (m R i _ _ d (λu j=>[V.ref e,V.str T]=u/\d=j) (I.tok _) ⟨V.ref e,rfl,rfl,rfl⟩) λus s2 ⟨u,j,I2,p,e1,e2⟩=>?_);subst e1 e2;cases p with
 |cons r1 p=>
  rename_i u1 us _;obtain rfl:u1=Ug e:=r1;cases p with
  |cons r2 p=>cases p;refine Nz Y I2 he (by rw[Vm];simp) λs3 I3=>?_;refine Yk (plainObj_wpAny_Assign_Attribute (aM (vA i _ _ _ (λU j=>v=U/\d=j) I3 ⟨v,rfl,rfl,rfl⟩) λu4 s4 ⟨v4,H4,I4,r4,e3,e4⟩=>?_));subst e3 e4;refine aM (X i _ _ _ (λU j=>V.ref e=U/\d=j) I4 ⟨V.ref e,rfl,rfl,rfl⟩) λu5 s5 ⟨v5,H5,I5,r5,e5,e6⟩=>?_;subst e5 e6;obtain rfl:u5=Ug e:=r5;exact NB Y I5 he r4 λs6 l N z1 z2 I6=>Yx ⟨_,_,I6,hD l N z1 z2⟩
end L3
namespace L3
open PySem L2 PySem.Spec PyProof.Rows
theorem Inv.untrack{X:Cx}{a4z:List (Addr×Obj)}{σ:L2.St}{H H':Hp}{s:T6}{e:Addr}{G:Vb->Prop}(I:Inv X a4z σ H s)(w:H e=b6 (.ext G))(h1:H' e=b8)(j:∀b,b≠e->H' b=H b):Inv X a4z σ H' s:=by
 have a:∀b,H b=b8->H' b=none:=λb q=>by
  by_cases i:b=e
  ·rw[i];exact h1
  ·rw[j b i];exact q
 have h:∀b z,H b=b6 z->(∀K,z≠.ext K)->H' b=b6 z:=λb z q n=>by rw[j b λE=>by rw[E,w]at q;cases q;exact n _ rfl];exact q
 refine⟨I.ok,I.os,I.bare,⟨I.base.keep,I.base.slot,λb o q n A=>a b (I.base.free b o q n A),I.base.there,λb l q=>h _ _ (I.base.tups b l q) (λ_ z=>nomatch z),λb o u q=>h _ _ (I.base.frzs b o u q) (λ_ z=>nomatch z),λb B q=>?_⟩,I.loc,I.cell,a _ I.free,λy c q=>a _ (I.freeC y c q),λp x=>?_,λb u q=>?_,I.len⟩
 ·obtain⟨d,z⟩:=I.base.tbls b B q;exact⟨d,h _ _ z (λ_ z=>nomatch z)⟩
 ·obtain⟨m,r,v⟩:=I.pin p x;exact⟨m,a _ r,v⟩
 ·have i:b≠e:=λz=>by rw[z,h1]at q;cases q
  rw[j b i]at q;exact(I.hok b u q).stay (λ_ _ _ z=>z) (λc z=>h _ _ z (λ_ z=>nomatch z)) λc l z=>h _ _ z (λ_ z=>nomatch z)
theorem DN{X:Cx}{bn e sf ar:Str}{C f B:Addr}{M:VQ}{k:Nat}(c:InitK X.K C f B bn e)(F:FnOk X.prog X.w X.K X.mg X.base cY k f M [sf,ar] (kT C e))(hb:Binds X.K M [sf,ar] [])(A:∃H,X.K.lookup f=b6 H/\H.cls=.type "function") (hr:Room (k+1) X.A)
  {a4z:List (Addr×Obj)}{σ:L2.St}{h:Hp}{s1:T6}(j:Inv X a4z σ h s1){v:V}{u:Value}(rv:RelV v u){E:Value->T6->Prop}{Q:Value->T6->Prop}
  (K:∀(a d:Addr)(i o:Obj)(vs:Array Value)(p:T6),s1.heap.get? a=b8->h a=b8->h d=b8->d≠a->Inv X a4z σ (aG (aG (aG h a (XO a C b8)) a (XO a C (b6 d))) d (.frz i (.xd [(e,v)]))) p->p.heap.get? a=b6 o->o.cls=.ref C->o.dict=b6 d->o.data=.fields vs->(vs[1]?=b6 .none/\vs[2]?=b6 .none)->Q (.ref a) p) :
  Uu (Ut X.prog X.w) X.A (call (.ref C) [u]) Q E s1:=by
 obtain⟨bm,N,nm',qn,bs,sn,sub,ab,U,dd,k0,k1,k2,k3,k5,mN,hC,hn,hi,T⟩:=tW j.mod.kin c.cls;obtain⟨H,lI,fI⟩:=A;have l:s1.heap.get? (s1.heap.objs.size+1)=none:=Xm (Zn _);have m:h (s1.heap.objs.size+1)=none:=j.hok.fresh (Zn _);have s:Inv X a4z σ (aG h (s1.heap.objs.size+1) (XO (s1.heap.objs.size+1) C b8)) {s1 with heap:=oC s1.heap C [u]}:=by refine Inv.laid (t':=s1.toks) (s:={s1 with heap:=s1.heap.push {cls:=.type "tuple",data:=.seq [u].toArray}}) (j.kept (t':=s1.toks) λb o q=>Ua _ q) (λb o q=>Ua _ q) (by show(s1.heap.push _).objs.size<=_;rw[XS];exact Up _) ?_;exact yP (DM s1.heap C [u]) rfl rfl rfl ⟨rfl,rfl⟩ rfl
 refine Nt WL (T.keeps j.bk) (j.bk _ _ hC) (hn.keeps j.bk) hi (j.kIn _ _ lI) fI (by rw[Vm];simp) ?_;generalize hea:s1.heap.objs.size+1=a at l m s ⊢;have G:kT C e [V.ref a,v] (aG h a (XO a C b8)) (λO R=>O=.non/\∃d i,aG h a (XO a C b8) d=b8/\d≠a/\aG (aG (aG h a (XO a C b8)) a (XO a C (b6 d))) d (.frz i (.xd [(e,v)]))=R) (λ_ _ _=>False):=
  ⟨a,v,rfl,bO,λd i w r=>⟨rfl,d,i,w,r,rfl⟩⟩
 have r2:Vals [V.ref a,v] [Ug a,u]:=.cons rfl (.cons rv .nil);refine YQ (X9 (F.run _ X.stack _ _ ⟨[Ug a,u],[]⟩ [Ug a,u] _ _ (λ_ _ _=>False) (hr.make C [u] []) (s.env0.make C [u] []) (by have:=hb _ [Ug a,u] s.kIn rfl;rwa [VB]at this) r2 G) λrr p n=>?_);cases rr with
 |error z=>exact UT n|ok fl=>
  cases fl with
  |next=>exact UT n|brk=>exact UT n|cont=>exact UT n|ret u'=>
   obtain⟨O,H3,L,I,Z,d,i,w,r,Y⟩:=s.after n;subst Z Y;refine⟨I,?_⟩;have y:h d=none:=by rw[aS r]at w;exact w
   have x:aG (aG (aG h a (XO a C b8)) a (XO a C (b6 d))) d (.frz i (.xd [(e,v)])) a=b6 (XO a C (b6 d)):=by rw[aS (Vf r),bO]
   obtain⟨⟨o,vs,g1,g2,g3,g4,g5,ta,g6⟩,_⟩:=L.hok a _ x;exact K a d i o vs p l m y r L g1 g2 g3 g4 g5
noncomputable def kU(x a:Str)(m:ME):MR:=λb μ=>(m b μ).map λp=>((x,[(a,p.1)]),b,p.2)
theorem ND{X:Cx}{x bn i sf ar:Str}{C f B:Addr}{fd:VQ}{k:Nat}{a:Expr}{m:ME}{np U pos:VW}(c:InitK X.K C f B bn i)(nm:Vj X.K U1 x=b6 (b6 (.ref C)))(hk:U9 X.K (.ref C)=c4)(F:FnOk X.prog X.w X.K X.mg X.base cY k f fd [sf,ar] (kT C i))(hb:Binds X.K fd [sf,ar] [])(hfn:∃oI,X.K.lookup f=b6 oI/\oI.cls=.type "function")
  (hr:Room (k+1) X.A)(hex:X.ex=[])(hc:X.calm=c4)(hg:Gl X x)(ha:QE X.nox a m)(hs:cC a=c4)(hdb:(x==("__debug__":Str))=b9):QR X (.Raise (b6 (.Call (.Name x np) [a] [] U)) b8 pos) (kU x i m):=by
 refine⟨λO s σ H π ρ μ y ρ' μ' I R E h w=>?_⟩;obtain⟨⟨d,r⟩,h1,h⟩:=T7.mp h;cases h;have hst:UW [a] X.env=(b9,eval a X.env)::UW [] X.env:=dR hs;obtain⟨bm,N,nm',qn,bs,sn,sub,ab,Q,dd,k0,k1,k2,k3,k5,mN,hC,hn,hi,T⟩:=tW I.mod.kin c.cls;rw[arm_exec_Raise];refine T5 (YZ (Nu (C:=C) (nm:=nm') (q:=qn) (N:=N) (bs:=bs) (bm:=bm) (hdct:=c4) (sn:=sn) (sub:=sub) (ab:=ab) (col:=Q) (dd:=dd) (k0:=k0) (k1:=k1) (k2:=k2) (k3:=k3) (k5:=k5) (newId:="ValueError.__new__") (T.hasType WL.hasBase) (I.ok.hd hc) (T5 (aM (Q:=λv l=>∃e oe vs,v=.ref e/\l.heap.get? C=b6 (Wj nm' qn C N bs bm c4 sn sub ab Q dd k0 k1 k2 k3 k5 "ValueError.__new__")/\l.heap.get? e=b6 oe/\oe.cls=.ref C/\oe.data=.fields vs/\vs[1]?=b6 .none/\X.xe (.ref e) l) (VG (f9 I hg (WI I.mod.kin I.mod.glob nm) ?_ hdb)) (λv s₃ h₃=>T5 (YZ (Ui h₃)))))));have k1:=ha.h O s σ H (λv G=>∃j,Ext π μ.length H j r.length G/\Rp X.K j G r/\IsD X.K j r.length G v d) (I.wish _) ⟨π,ρ,μ,d,r,R,E,h1,λj v G e1 R1 i1=>⟨j,e1,R1,i1⟩⟩;refine XB (h₀:=X.base) I.ok.mod.kin hk (ZK (UK k1 (λu s1 ⟨v,G,M,rv,j,e1,R1,i1⟩=>a2I ⟨M.unwish.kIn,?_⟩) λ_ _ z=>UT z) hst) hst rfl;have M:=M.unwish;refine DN c F hb hfn hr M rv λA K od o vs s' Z hne hd1 z2 I3 g1 g2 g3 g4 g5=>?_;have hE3:aG (aG (aG G A (XO A C b8)) A (XO A C (b6 K))) K (.frz od (.xd [(i,v)])) A=b6 (XO A C (b6 K)):=by rw[aS (Vf z2),bO]
 have I4:Inv X O σ (aG G K (.frz od (.xd [(i,v)]))) s':=Inv.untrack I3 hE3 (by rw[aS (Vf z2)];exact hne) λb Y=>by
  by_cases L:b=K
  ·rw[L,bO,bO]
  ·rw[aS L,aS L,aS Y,aS Y]
 obtain⟨e4,R4⟩:=R1.fresh (o:=.frz od (.xd [(i,v)])) hd1;refine⟨A,o,vs,rfl,I4.bk _ _ hC,g1,g2,g4,g5.1,?_⟩;refine w j σ _ s' A (.ref C) (b6 K) b8 (e1.trans e4) R4 ((E.mono e1).mono e4) I4 ⟨⟨⟨o,vs,g1,g2,g3,g4,g5.1,g5.2⟩,λp n=>nomatch n⟩,(λp n=>nomatch n),⟨DK M hex Z,λp n=>nomatch n⟩,⟨by rw[aS (Vf z2)];exact hne,λp n=>nomatch n⟩,λq hq=>⟨λz=>?_,λp n=>nomatch n⟩⟩
  ⟨nm,.inr ⟨K,od,[(i,v)],rfl,bO,rfl,.cons (i1.mono e4) .nil⟩⟩
 have:=(M.pin q hq).1;rw[z,Z]at this;cases this
end L3
namespace L3
open PySem L2 PySem.Spec PyProof.Rows
section
variable{prog:Ur}{w:UJ}{A:UD}{E:Value->T6->Prop}{s:T6}
variable{nm q:Str}{C N x dx:Addr}{bs bm:List Value}{sn:List Str}{sub:List Value}{ab:Bool}{col:Option Bool}{dd:Option Addr}{k0 k1 k2 k3 k5:Option Value}{newId:String}{name:Str}{v:Value}{o:Obj}{vs:Array Value}{mA:Str->Option Value}
theorem DO{M:YX}{a:Value}{Q:Unit->T6->Prop}(e:bm.contains (.type "BaseException")=c4) (hC:s.heap.get? C=b6 (Wj nm q C N bs bm c4 sn sub ab col dd k0 k1 k2 k3 k5 newId))(l:s.heap.get? x=b6 o)(hc:o.cls=.ref C)(j:Q () s) :
  Uu M A (Zd "BaseException.__getattribute__" ⟨[.ref x,a],[]⟩) Q E s:=by
 have i:builtinKind "BaseException.__getattribute__"=b6 .slot:=by decide +kernel
 have c:splitId "BaseException.__getattribute__"=b6 ("BaseException","__getattribute__"):=by decide +kernel
 have b:(Ug C::bm).contains (.type "BaseException")=true:=by rw[Yu,e,ZQ]
 have m:=PySem.F.args_bexc_ga (.ref x) a;obtain⟨h,g,d,t,n⟩:=s;simp only[Zd,i,c];refine T5 ?_;unfold a2Y;repeat (first|(with_reducible refine Vh l ?_;rw[hc])|(with_reducible refine W9 hC ?_;rw[b])|wp_step)
 exact j
theorem NF{tk:a2J}{Q:Fin->T6->Prop}(hC:s.heap.get? C=b6 (Wj nm q C N bs bm c4 sn sub ab col dd k0 k1 k2 k3 k5 newId))(j:Xv (Ut prog w) s.heap (Xw (.ref C) name) b8)
  (c:s.heap.get? x=b6 o)(hc:o.cls=.ref C)(hd:o.data=.fields vs)(a:o.dict=b6 dx)(b:s.heap.Ns1 dx mA)(i:mA name=b6 v)(e:Q (.done (.ret v)) s) :
  Uu (Ut prog w) A (Builtin.«object.__getattribute__» ⟨[.ref x,.str name tk],[]⟩) Q E s:=by
 obtain⟨h,g,d,t,l⟩:=s;unfold Builtin.«object.__getattribute__»;repeat (first|(with_reducible refine Vh c ?_;rw[hc])|with_reducible refine V6 (s:=⟨h,g,d,_,l⟩) j ?_|wp_step)
 rw[hd];unfold instanceDict;repeat (first|(with_reducible refine Vh c ?_;rw[hc])|with_reducible refine Vh hC ?_|wp_step)
 rw[a];repeat (first|(with_reducible refine wpAny_nsGet b.ns ?_;rw[i])|wp_step)
 exact e
theorem NG{a:Bool}{Q:Value->T6->Prop}(m:bm.contains (.type "BaseException")=c4) (hC:s.heap.get? C=b6 (Wj nm q C N bs bm c4 sn sub ab col dd k0 k1 k2 k3 k5 newId))
  (y:Xv (Ut prog w) s.heap (Xw (.ref C) "__getattribute__") (b6 (.builtin "BaseException.__getattribute__"))) (z:Xv (Ut prog w) s.heap (Xw (.ref C) "__getattr__") b8) (B:Xv (Ut prog w) s.heap (Xw (.ref C) name) b8)
  (i:s.heap.get? x=b6 o)(hc:o.cls=.ref C)(hd:o.data=.fields vs)(c:o.dict=b6 dx)(e:s.heap.Ns1 dx mA)(p:mA name=b6 v)(n:handedOut v=pure v)(H:Q v {s with toks:=s.toks+1}) :
  Uu (Ut prog w) A (getAttr (.ref x) name a) Q E s:=by
 have l:=Z2;have G:=l.ga.bind (.ref x);have r:(a&&a1I (Ve "BaseException.__getattribute__"))=false:=by cases a<;>rfl
 have j:(Ve "BaseException.__getattribute__"==Ve "object.__getattribute__")=false:=by decide +kernel
 have u:(a1I (Ug C)&&Ve "BaseException.__getattribute__"==Ve "object.__getattribute__")=false:=by rw[j];rfl
 obtain⟨h,g,d,t,b⟩:=s;unfold getAttr;repeat (any_goals (first|assumption|(with_reducible refine Vh i ?_;rw[hc])|with_reducible refine V6 (s:=⟨h,g,d,_,b⟩) y ?_|with_reducible refine V6 (s:=⟨h,g,d,_,b⟩) z ?_|wp_step))
 refine Yq l.ga.plain a0H (DO (s:=⟨h,g,d,t+1,b⟩) m hC i hc (NF (s:=⟨h,g,d,t+1,b⟩) hC B i hc hd c e p ?_));repeat (any_goals (first|assumption|(rw[n])|wp_step))
end
noncomputable def eU(b:Str)(ok:Str->Bool)(m:ME):ME:=λc μ=>(m c μ).bind λp=>match p.1 with
 |.loc a=>(match p.2[a]? with
  |some (.exc x ns ds)=>if ok x=c4 then((ns.zip ds).lookup b).map λd=>(d,p.2)else b8
  |_=>b8)
 |_=>b8
noncomputable def tX(K:T3)(a x:Str):Bool:=match fY K x with
 |some C=>(oA K C).isSome&&VI K (.ref C) "__getattribute__"==b6 (b6 (.builtin "BaseException.__getattribute__"))&&VI K (.ref C) "__getattr__"==b6 b8&&VI K (.ref C) a==b6 b8|none=>b9
theorem DP{K:T3}{π:Nat->Addr}{n:Nat}{H:Hp}{k:Str}{d:D}:∀(us:List (Str×V))(ns:List Str)(ds:List D),us.map (·.1)=ns->IsDs K π n H (us.map (·.2)) ds->(ns.zip ds).lookup k=b6 d->∃v,us.lookup k=b6 v/\IsD K π n H v d
 |[],_,_,e,_,h=>by subst e;cases h
 |(y,v)::us,_,_,e,i,h=>by
  subst e;cases i with
  |cons c j=>
   rename_i l b;simp only[Uv,ZA,XI]at h ⊢;cases a:k==y with
   |true=>rw[a]at h;cases h;exact⟨v,rfl,c⟩|false=>rw[a]at h;exact DP us _ _ rfl j h
theorem DQ{X:Cx}{o:Expr}{c:Str}{ok:Str->Bool}{m:ME}{pos:VW}(ho:QE X o m)(hs:kN o=c4)(hok:∀x,ok x=c4->tX X.K c x=c4):QE X (.Attribute o c pos) (eU c ok m):=by
 refine⟨λr s σ H Q I t=>?_⟩;obtain⟨Y,ρ,U,d,L,R,E,h,kc⟩:=t;unfold eU at h;obtain⟨⟨d1,e⟩,h1,h⟩:=TZ.mp h;dsimp only at h;split at h
 ·rename_i a;split at h
  ·rename_i x T ds hx;split at h
   ·rename_i G;obtain⟨d2,O,h⟩:=T7.mp h;obtain⟨rfl,rfl⟩:d2=d/\e=L:=by cases h;exact⟨rfl,rfl⟩
    refine IV (nX hs) (aM (ho.h r s σ H (λv i=>∃b,Ext Y U.length H b e.length i/\Rp X.K b i e/\IsD X.K b e.length i v (.loc a)) I ⟨Y,ρ,U,_,e,R,E,h1,λb v i y p K=>⟨b,y,p,K⟩⟩) λu s1 ⟨v,i,j,rv,b,y,p,K⟩=>?_);cases K;obtain rfl:u=Ug (b a):=rv;obtain⟨ob,φ,g1,N,⟨vs,g3⟩,z⟩:=p.exc a x T ds hx;rcases z with⟨rfl,rfl,_⟩|⟨dx,od,us,z,g5,g6,g7⟩
    ·cases O
    obtain⟨w,lw,iw⟩:=DP us T ds g6 g7 O;have n:=hok x G;unfold tX at n;split at n
    ·rename_i C hC;rw[T4,T4,T4,beq_iff_eq,beq_iff_eq,beq_iff_eq]at n;obtain⟨⟨⟨q,Z⟩,a3⟩,a4⟩:=n;obtain⟨bm,q⟩:=U8.mp q;have A:ob.cls=.ref C:=by rw[kR hC]at N;exact(Ux (Ux N)).symm
     obtain⟨⟨N1,lE,q1,bs1,sn1,su1,ab1,M,dd1,b0,b1,b2,b3,b5,o1⟩,hB⟩:=oB j.kIn q;obtain⟨y1,_⟩:=j.hok _ _ g1;obtain⟨y2,mA,y3,y4⟩:=j.hok _ _ g5;have l:=y4 c;rw[lw]at l;cases B:mA c with
     |none=>rw[B]at l;exact l.elim|some u=>rw[B]at l;exact NG hB o1 (Wx j.kIn Z) (Wx j.kIn a3) (Wx j.kIn a4) y1 A g3 z y3 B (PySem.W.handedOut_of (IU l)) ⟨w,i,j.tok _,l,kc b w i y p iw⟩
    ·cases n
   ·cases h
  ·cases h
 ·cases h
end L3
namespace L3
open PySem L2 PySem.Spec PyProof.Rows
noncomputable def mL(K:T3)(C:Addr):Bool:=(oA K C).isSome&&VI K (.ref C) "__getattribute__"==b6 (b6 (.builtin "BaseException.__getattribute__"))&&VI K (.ref C) "__getattr__"==b6 b8 &&
 (PySem.W.clsIn K C).isSome&&VI K (.ref C) "__class__"==b6 (b6 (.builtin "object.__class__"))&&Ys K (.builtin "object.__class__") "__get__"==b6 (b6 (.builtin "getset_descriptor.__get__")) &&
 a1J K (.builtin "object.__class__")==b6 c4&&a2o K C (.type "object")==b6 c4
section
variable{prog:Ur}{w:UJ}{A:UD}{E:Value->T6->Prop}{s:T6}{K:T3}{x C:Addr}{ox:Obj}{od:Option Obj}
theorem NH{Q:Option Value->T6->Prop}(c:mL K C=c4)(X:K.In s.heap)(I:Y2 s.heap x ox C od)(h:Q (b6 (.ref C)) {s with toks:=s.toks+1}):Uu (Ut prog w) A (getAttr? (.ref x) "__class__") Q E s:=by
 unfold mL at c;rw[T4,T4,T4,T4,T4,T4,T4,beq_iff_eq,beq_iff_eq,beq_iff_eq,beq_iff_eq,beq_iff_eq,beq_iff_eq]at c;obtain⟨⟨⟨⟨⟨⟨⟨e,r⟩,u⟩,i⟩,y⟩,B⟩,G⟩,H⟩:=c;obtain⟨bm,e⟩:=U8.mp e;obtain⟨⟨N1,lE,q1,q,sn1,su1,p,m,L,b0,b1,b2,b3,b5,M⟩,O⟩:=oB X e;have R:a1L K C od "__class__"=b6 (.bind (.builtin "getset_descriptor.__get__") (.builtin "object.__class__")):=by obtain⟨cd,i⟩:=U8.mp i;unfold a1L;rw[i,UG,y,UG];simp[B,G]
 have l:=Z2;have f3:=l.ga.bind (.ref x);have T:(b9&&a1I (Ve "BaseException.__getattribute__"))=false:=rfl;have j:(Ve "BaseException.__getattribute__"==Ve "object.__getattribute__")=false:=by decide +kernel
 have U:(a1I (Ug C)&&Ve "BaseException.__getattribute__"==Ve "object.__getattribute__")=false:=by rw[j];rfl
 obtain⟨a,g,d,t,b⟩:=s;have Z:=Wx (M:=Ut prog w) X r;have l2:=Wx (M:=Ut prog w) X u;have l4:=PySem.W.looks_find (M:=Ut prog w) X I R;have Y:=I.type (M:=Ut prog w);have n:=I.at_;have hc:=I.cls;unfold getAttr? getAttrBy?;repeat (any_goals (first|assumption|(with_reducible refine Vh n ?_;rw[hc])|with_reducible refine V6 (s:=⟨a,g,d,_,b⟩) Z ?_|with_reducible refine V6 (s:=⟨a,g,d,_,b⟩) l2 ?_|wp_step))
 refine Yq l.ga.plain a0H (DO (s:=⟨a,g,d,t+1,b⟩) O M n hc ?_);have N:Uu (Ut prog w) A.in1 (call (.builtin "getset_descriptor.__get__") [.builtin "object.__class__",.ref x,.ref C]) (λv o=>v=.ref C/\o=⟨a,g,d,t+1,b⟩) (λ_ _=>False) ⟨a,g,d,t+1,b⟩:=
  YQ (PySem.W.class_get (s:=⟨a,g,d,t+1,b⟩) X I H ⟨rfl,rfl⟩)
 refine T5 (Ui (T5 (Ui (T5 (V6 (s:=⟨a,g,d,t+1,b⟩) Y (T5 (V6 (s:=⟨a,g,d,t+1,b⟩) l4 ?_)))))));refine T5 (Vx (UK N (λv o z=>?_) λ_ _ z=>z.elim));obtain⟨rfl,rfl⟩:=z;repeat (any_goals (first|assumption|wp_step))
end
theorem DR{K:T3}{x C:Addr}{o:Obj}(c:mL K C=c4)(hc:o.cls=.ref C)(hd:∃vs,o.data=.fields vs):PySem.W.KitX K (.ref x) (.ref C) (λh=>∃E,Y2 h x o C E) where
 ty:=λ_ _ _ ⟨_,I⟩=>I.type
 it:=λM h X _=>by unfold mL at c;rw[T4,T4,T4,T4,T4,T4,T4]at c;obtain⟨bm,j⟩:=U8.mp c.1.1.1.1.1.1.1;obtain⟨⟨s,lE,G,i,p,r,d,b,l,u,v,w,y,z,a⟩,A⟩:=oB X j;intro L O N R k q;unfold isType loadHead;exact T5 (wpAny_loadPart (k _ _ a) (Ui q))
 ne:=λh H Q B n T X m=>by unfold mL at c;rw[T4,T4,T4,T4,T4,T4,T4]at c;obtain⟨bm,j⟩:=U8.mp c.1.1.1.1.1.1.1;obtain⟨⟨s,lE,G,i,p,r,d,b,l,u,v,w,y,z,a⟩,A⟩:=oB X j;refine Bool.eq_false_iff.mpr λq=>?_;have e:C=H:=Value.ref.inj (beq_iff_eq.mp q);subst e;rw[m]at a;injection a with a;injection a with h1;injection h1 with h2;exact absurd h2 (by decide)
 ca:=λX ⟨_,I⟩ k=>NH c X I k
end L3
namespace L3
open PySem L2 PySem.Spec PyProof.Rows
noncomputable def dN(sup:Str->Option Bool)(m:ME):ME:=λc μ=>(m c μ).bind λp=>match p.1 with
 |.loc a=>(match p.2[a]? with
  |some (.exc x _ _)=>(sup x).map λb=>(.bl b,p.2)
  |_=>b8)
 |_=>b8
noncomputable def gO(K:T3)(cv:Value)(x:Str):Option Bool:=(fY K x).bind λB=>if mL K B=c4 then Yl K (.ref B) cv else b8
theorem DS{X:Cx}{a:Expr}{c:Str}{cv:Value}{m:ME}{p K pos:VW}{sup:Str->Option Bool}(ha:QE X a m)(hs:cC a=c4)(hg:Gl X "isinstance") (hm:X.mg "isinstance"=b8)
  (N:∀l s L H Q,Inv X l L H s->Q cv s->Uu (Ut X.prog X.w) X.A (eval (.Name c K) X.env) Q X.xe s)(A:∀x b,sup x=b6 b->gO X.K cv x=b6 b) :
  QE X (.Call (.Name "isinstance" p) [a,.Name c K] [] pos) (dN sup m):=by
 refine⟨λl s L H Q I t=>?_⟩;obtain⟨π,ρ,μ,d,Z,R,E,h,kc⟩:=t;unfold dN at h;obtain⟨⟨d1,j⟩,h1,h⟩:=TZ.mp h;dsimp only at h;split at h
 ·rename_i i;split at h
  ·rename_i x ns ds hx;obtain⟨b,h2,h⟩:=T7.mp h;obtain⟨rfl,rfl⟩:D.bl b=d/\j=Z:=by cases h;exact⟨rfl,rfl⟩
   have y:UW [a,.Name c K] X.env=(b9,eval a X.env)::UW [.Name c K] X.env:=dR hs;refine VG (iH I hg hm Xq ?_);refine Wn (ZK (aM (ha.h l s L H (λv n=>∃e,Ext π μ.length H e j.length n/\Rp X.K e n j/\IsD X.K e j.length n v (.loc i)) I ⟨π,ρ,μ,_,j,R,E,h1,λe v n M G T=>⟨e,M,G,T⟩⟩) λu s1 ⟨v,n,r,rv,e,M,G,T⟩=>ZK (N l s1 L n _ r (a2I ?_))) y) y rfl;cases T;obtain rfl:u=Ug (e i):=rv;obtain⟨U,φ,g1,g2,⟨vs,g3⟩,w⟩:=G.exc i x ns ds hx;have q:=A x b h2;unfold gO at q;obtain⟨B,hB,q⟩:=TZ.mp q;split at q
   ·rename_i hI;have o:U.cls=.ref B:=by rw[kR hB]at g2;exact(Ux (Ux g2)).symm
    obtain⟨y1,_⟩:=r.hok _ _ g1;have O:∃Y,Y2 s1.heap (e i) U B Y:=by
     have no:Y1 U=true:=by unfold Y1;rw[g3]
     rcases w with⟨_,_,w⟩|⟨dx,Y,us,w,g5,_⟩
     ·exact⟨b8,y1,o,no,by rw[w];trivial⟩
     ·obtain⟨y2,_⟩:=r.hok _ _ g5;exact⟨b6 Y,y1,o,no,by rw[w];exact y2⟩
    exact Wm (DR hI o ⟨vs,g3⟩) r.kIn O q (λz=>nomatch z) λtk=>⟨.bl b,n,r.tok tk,rfl,kc e _ n M G (.bl b)⟩
   ·cases q
  ·cases h
 ·cases h
end L3
namespace L3
open PySem L2 PySem.Spec PyProof.Rows
noncomputable def Soft(X:Cx):Prop:=∃e,X.A.handled=b6 (.ref e)/\mK e X.H₀
structure FnU(l:Bool)(P:Ur)(w:UJ)(K:T3)(mg:Str->Option Value)(base:Vb)(f:Addr)(fd:VQ)(ps:List Str)(sp:Sp):Prop where
 len:∀vs H Q E,sp vs H Q E->vs.length=ps.length
 run:∀(A:UD)(outer:List YD)(s:T6)(H:Hp)(args:Args)(us:List Value)(vs:List V)(Q:VK)(E:XK),A.depth<YR->(l=c4->∃e,A.handled=b6 (.ref e)/\mK e H)->Env0 P w K mg base A outer s H->ZR s fd args (ps.zip us)->Vals vs us->sp vs H Q E->
  YW (Ut P w) A (.call (.ref f) args) (CR cY outer P w H s Q E) s
noncomputable abbrev kW(P:Ur)(w:UJ)(K:T3)(mg:Str->Option Value)(base:Vb)(N:List Str)(qual:Str)(scope:WB)(f:Addr)(a:Value)(A:UD)(outer:List YD)(s:T6)(H:Hp):Cx:=
 {dA cY P w K mg base N qual scope f a A outer s H (λ_ _ _=>False)with calm:=b9,xe:=λ_ _=>False}
section
variable{P:Ur}{w:UJ}{K:T3}{mg:Str->Option Value}{base:Vb}{l:Bool}
theorem NI{N ps:List Str}{qual:Str}{scope:WB}{f:Addr}{b:Value}{A:UD}{outer:List YD}{s s1:T6}{H:Hp}{us:List Value}{vs:List V}
  (S:FnScope N ps scope)(a:Env0 P w K mg base A outer s H)(c:vs.length=ps.length)(r:Vals vs us)
  (x:InCallC s s.heap.objs.size (a1c (envOfC qual scope s.heap.objs.size f b).kindOf (ps.zip us) λ_=>b8) (a0A (s.heap.objs.size+1) scope.names []) (a1d (envOfC qual scope s.heap.objs.size f b).kindOf (ps.zip us) λ_=>b8) s1) :
  Inv (kW P w K mg base N qual scope f b A outer s H) [] (L2.start N vs) H s1:=by
 have I:=BO (CX:=cY) (A:={A with handled:=b8}) (E:=λ_ _ _=>False) S rfl ⟨a.frames,a.mod,a.bs,a.bsz,a.funs,a.frf,a.hok,a.bare⟩ c r x;exact⟨⟨I.ok.mod,I.ok.kind,I.ok.glob,I.ok.blt,I.ok.above,I.ok.inj,I.ok.has,I.ok.cab,(λz=>nomatch z),a0U a.frames,I.ok.stk,I.ok.exf,I.ok.bs,I.ok.bsz,I.ok.noex,I.ok.exfs,I.ok.funs,I.ok.frf⟩,I.os,I.bare,I.base,I.loc,I.cell,I.free,I.freeC,I.pin,I.hok,I.len⟩
theorem NJ{f:Addr}{name qual:Str}{a:a3M}{body:List Stmt}{scope:WB}{X kV m Y c ct oc:Value}{an od:Option Addr}
  {O:Array (Option Value)}{N ps:List Str}{sp:Sp}(lk:K.lookup f=b6 ⟨oc,od,.func (VO name qual a body scope X kV m Y an c ct),O⟩)(G:XH K c qual=c4)(S:FnScope N ps scope)
  (len:∀vs H Q E,sp vs H Q E->vs.length=ps.length)
  (d:∀(A:UD)(outer:List YD)(s:T6)(H:Hp)(vs:List V)(Q:VK)(E:XK),(l=c4->Soft (kW P w K mg base N qual scope f c A outer s H))->sp vs H Q E->
   ∃t,PSs (kW P w K mg base N qual scope f c A outer s H) body t/\t {nx:=λ_ j=>Q .non j,rt:=Q} (L2.start N vs) H) :
  FnU l P w K mg base f (VO name qual a body scope X kV m Y an c ct) ps sp:=by
 refine⟨len,λA outer s H U us vs Q E hr L p hb r B=>?_⟩;have hl:=len _ _ _ _ B;have T:K.In s.heap:=p.mod.kin.keeps λb o e=>(p.bs b o e).1;have M:s.heap.NoLimit:=p.mod.nolimit.keeps λb o e=>(p.bs b o e).1;have h:∀y∈ps.zip us,scope.names.lookup y.1=b6 .local\/(scope.names.lookup y.1=b6 .cell/\((a0A (s.heap.objs.size+1) scope.names []).lookup y.1).isSome=c4):=λ⟨n,v⟩ hy=>by
  rcases S.par n (Y5 hy).1 with q|q
  ·exact .inl q
  ·exact .inr ⟨q,YS _ _ _ (.inl q)⟩
 refine a2n hr (T _ _ lk) rfl S.co S.gen rfl (a1i T G) (hb _ _ _ _ ?_);refine a0W S.kind h λenv he Z x=>?_;subst he;refine⟨M.keeps x.toInCall.keep,codeAny_func ?_⟩;obtain⟨t,ht,hq⟩:=d A outer s H vs Q E (λz=>L z) B;have I:Inv (kW P w K mg base N qual scope f c A outer s H) [] (L2.start N vs) H Z:=NI S p hl r x;refine UK (ht [] Z (L2.start N vs) H _ I hq) (λfl s' i=>?_) λe s' i=>i.elim;cases fl with
 |ret u=>obtain⟨v,R,j,J,rv,q⟩:=i;exact⟨v,j,J.os,J.bare,J.base,J.hok,rv,q⟩|next=>obtain⟨R,j,J,q⟩:=i;exact⟨.non,j,J.os,J.bare,J.base,J.hok,rfl,q⟩|brk=>obtain⟨_,_,_,q⟩:=i;exact UT q|cont=>obtain⟨_,_,_,q⟩:=i;exact UT q
theorem NK{x qual:Str}{st:Stmt}{f:Addr}{r:VQ}{N ps:List Str}{m:MS}(F:Fun K x qual st f r)(S:FnScope N ps (bC st))(j:ps.length<=N.length)
  (b:∀(a:Value)(A:UD)(outer:List YD)(s:T6)(H:Hp),(l=c4->Soft (kW P w K mg base N qual (bC st) f a A outer s H))->QB (kW P w K mg base N qual (bC st) f a A outer s H) (cD st) m):FnU l P w K mg base f r ps (eM K ps.length (qC N.length m)):=by
 obtain⟨oc,od,dV,kV,B,pm,an,a,ct,M,rfl,lk,e⟩:=F.ex;refine NJ lk e S (λO H Q E h=>h.1) λA outer s H O Q E n h=>⟨_,(b a A outer s H n).h,?_⟩;obtain⟨L,X,ds,T,d,U,R,i,c,v⟩:=h;obtain⟨⟨u,q,o⟩,I,c⟩:=TZ.mp c;refine⟨X,_,T,u,q,o,R,xF i (by rw[L];exact j),I,?_⟩;cases u with
 |rt d'=>cases c;exact v|nx=>cases c;exact λp Y y G z Z=>v p .non y G z .non|bk=>cases c|ct=>cases c
end
section
variable{X:Cx}
theorem NL{f e:Addr}{B:VQ}{ps:List Str}{j:MF}{x:Str}{p pos:VW}{i:Nat}{y:Str}{py:VW}(F:FnU c4 X.prog X.w X.K X.mg X.base f B ps (eM X.K 1 j))(hr:X.A.depth<YR)(hm:X.mg x=b6 (.ref f))
  (hk:U9 X.K (.ref f)=c4)(Y:Binds X.K B ps [])(hi:X.N[i]?=b6 y)(hN:X.N.Nodup)(hv:lS X.env.scope y)(hy:(y==("__debug__":Str))=b9) (w:(y==("__classdict__":Str))=b9) (Z:Gl X x)(m:(x==("__debug__":Str))=b9) (hh:X.A.handled=b6 (.ref e))
  (a4z:List (Addr×Obj))(s:T6)(σ:L2.St)(H:Hp)(Q:VK)(sf:mK e H)(I:Inv X a4z σ H s)(t:tM X.K (aE j (aA (aB i) aD)) σ H Q) :
  Uu (Ut X.prog X.w) X.A (eval (.Call (.Name x p) [.Name y py] [] pos) X.env) (EP X a4z σ Q) X.xe s:=by
 have U:PA X [.Name y py] (BG (m8 i) wU):=pT (pO hi hv hy w) sI (dR rfl);obtain⟨π,ρ,μ,d,z,R,E,n,k⟩:=t;obtain⟨⟨xs,μ1⟩,l,o⟩:=TZ.mp n;obtain⟨⟨A,μ2⟩,M,l⟩:=TZ.mp l;cases l;obtain⟨N,rfl⟩:=Cq M;obtain⟨v,O,T⟩:=E.get i A N;refine VG (f9 I Z hm ?_ m);refine XB (h₀:=X.base) I.ok.mod.kin hk (aM (U pos a4z s σ H (λK c=>K=[v]/\c=H) I ⟨v,O,rfl,rfl⟩) λb G ⟨K,c,h,r,q1,q2⟩=>⟨h.kIn,?_⟩) (dR rfl) rfl;subst q1 q2;have q:eM X.K 1 j [v] c Q E0:=⟨rfl,π,[A],_,d,z,R,.cons T .nil,o,k⟩;have hl:(b++[]).length=ps.length:=by rw[VB,<- r.length];exact F.len _ _ _ _ q
 have r2:Vals [v] (b++[]):=by rw[VB];exact r
 refine YQ (X9 (F.run X.A X.stack G c ⟨b,[]⟩ (b++[]) [v] Q E0 hr (λ_=>⟨e,hh,sf⟩) h.env0 (Y G b h.kIn hl) r2 q) λr s' a=>?_);cases r with
 |error e=>exact a.elim|ok L=>
  cases L with
  |ret u=>exact h.after a|next=>exact UT a|brk=>exact UT a|cont=>exact UT a
noncomputable def tY(X:Cx):List Expr->List Addr->Prop
 |[],[]=>True|.Name x _::r,C::l=>Gl X x/\X.mg x=b6 (.ref C)/\(x==("__debug__":Str))=b9/\tY X r l|_,_=>False
theorem NM{es:List Expr}:∀{l:List Addr},tY X es l->PA X es (λ_ H Q=>Q (l.map V.ref) H)/\es.all cC=true:=by
 induction es with
 |nil=>
  intro l h;cases l with
  |nil=>exact⟨sI,rfl⟩|cons=>exact h.elim
 |cons e r n=>
  intro l h;cases e with
  |Name x p=>
   cases l with
   |nil=>exact h.elim|cons C l=>obtain⟨b,c,d,i⟩:=h;obtain⟨m,j⟩:=n i;refine⟨?_,by rw[Va,j];rfl⟩;have k:=pT (X:=X) (e:=.Name x p) (te:=λ_ H Q=>Q (V.ref C) H) (λa s o H Q I h=>f9 I b c ⟨V.ref C,H,I,rfl,h⟩ d) m (dR rfl);exact k
  |_=>exact h.elim
end
theorem DT:∀{l:List Addr}{us:List Value},Vals (l.map V.ref) us->us=l.map Ug
 |[],_,.nil=>rfl|C::l,_,.cons ra rb=>by rw[Uv,<- DT rb,show _=Ug C from ra]
theorem NN{K:T3}{B:Addr}{b:List Bool}{l:List Addr}(h:l.map (λC=>Yl K (.ref B) (.ref C))=b.map b6):a1W K (.ref B) (l.map Ug)=b6 (b.any id):=by
 induction l generalizing b with
 |nil=>cases b with
  |nil=>rfl|cons=>cases h
 |cons C l a=>cases b with
  |nil=>cases h|cons c b=>
   rw[Uv,Uv,ZH]at h;rw[Uv];unfold a1W;rw[h.1];cases c
   ·exact(a (b:=b) h.2)
   ·rfl
theorem NO{X:Cx}{a:Expr}{es:List Expr}{l:List Addr}{m:ME}{p pos tp:VW}{kt:Nat}{sup:Str->Option (List Bool)}(ha:QE X a m)(hs:cC a=c4)(hg:Gl X "isinstance") (hm:X.mg "isinstance"=b8)
  (hl:tY X es l)(hz:l.length<=Uo)(U:∀x b,sup x=b6 b->l.map (λC=>gO X.K (.ref C) x)=b.map b6/\b≠[]) :
  QE X (.Call (.Name "isinstance" p) [a,.Tuple es kt tp] [] pos) (dN (λx=>(sup x).map λb=>b.any id) m):=by
 refine⟨λK s σ H Q I t=>?_⟩;obtain⟨π,ρ,μ,d,μ',R,E,h,kc⟩:=t;unfold dN at h;obtain⟨⟨d1,j⟩,h1,h⟩:=TZ.mp h;dsimp only at h;split at h
 ·rename_i i;split at h
  ·rename_i x ns ds hx;obtain⟨b0,h2,h⟩:=T7.mp h;obtain⟨rfl,rfl⟩:D.bl b0=d/\j=μ':=by cases h;exact⟨rfl,rfl⟩
   obtain⟨b,h3,rfl⟩:=T7.mp h2;have T:UW [a,.Tuple es kt tp] X.env=(b9,eval a X.env)::UW [.Tuple es kt tp] X.env:=dR hs;refine VG (iH I hg hm Xq ?_);have tpl:=BH (x1:=kt) (pos:=tp) (NM hl).1;refine Wn (ZK (aM (ha.h K s σ H (λv w=>∃e,Ext π μ.length H e j.length w/\Rp X.K e w j/\IsD X.K e j.length w v (.loc i)) I ⟨π,ρ,μ,_,j,R,E,h1,λe v w e1 R1 i1=>⟨e,e1,R1,i1⟩⟩) λu s1 ⟨v,w,I1,rv,e,e1,R1,i1⟩=>
    ZK (aM (tpl K s1 σ w (λv2 H2=>∃q,v2=.ref q/\w q=b8/\H2=aG w q (.tup (l.map V.ref))) I1 ⟨by rw[Uc];exact hz,λq hq=>⟨q,rfl,hq,rfl⟩⟩) λu2 s2 ⟨v2,H2,G,rv2,q,hv2,hq,hH2⟩=>a2I ?_)) T) T rfl
   subst hv2 hH2;obtain rfl:u2=Ug q:=rv2;cases i1;obtain rfl:u=Ug (e i):=rv;obtain⟨e2,R2⟩:=R1.fresh (o:=.tup (l.map V.ref)) hq;obtain⟨ob,φ,g1,g2,⟨vs,g3⟩,L⟩:=R2.exc i x ns ds hx;obtain⟨A,hne⟩:=U x b h3;obtain⟨B,Y,Z,A⟩:∃B,fY X.K x=b6 B/\mL X.K B=c4/\l.map (λC=>Yl X.K (.ref B) (.ref C))=b.map some:=by
    cases l with
    |nil=>cases b with
     |nil=>exact absurd rfl hne|cons=>cases A
    |cons C l=>
     cases b with
     |nil=>cases A|cons c b=>
      have N:=A;rw[Uv,Uv,ZH]at N;have M:=N.1;unfold gO at M;obtain⟨B,Y,M⟩:=TZ.mp M;split at M
      ·rename_i Z;refine⟨B,Y,Z,?_⟩;rw[<- A];refine V7 λC' _=>?_;unfold gO;rw[Y,UG,if_pos Z]
      ·cases M
   have y:ob.cls=.ref B:=by rw[kR Y]at g2;exact(Ux (Ux g2)).symm
   obtain⟨y1,_⟩:=G.hok _ _ g1;have hin:∃od,Y2 s2.heap (e i) ob B od:=by
    have no:Y1 ob=true:=by unfold Y1;rw[g3]
    rcases L with⟨_,_,L⟩|⟨dx,od,us,L,g5,_⟩
    ·exact⟨b8,y1,y,no,by rw[L];trivial⟩
    ·obtain⟨y2,_⟩:=G.hok _ _ g5;exact⟨b6 od,y1,y,no,by rw[L];exact y2⟩
   obtain⟨z,its,r,o,t1,t2,n,t3,t4⟩:=(show ObjOk X.prog X.w _ s2.heap q (.tup (l.map V.ref))from G.hok q _ bO);have O:its=l.map Ug:=DT r;subst O;have ho:s2.heap.get? q=b6 ⟨.type "tuple",o.dict,.seq (l.map Ug).toArray n,o.slots⟩:=by rw[t1];cases o;cases t2;cases t3;rfl
   exact PySem.W.kia_tup (DR Z y ⟨vs,g3⟩) G.kIn hin ho (NN A) (λz=>nomatch z) λtk=>⟨.bl _,_,G.tok tk,rfl,kc e _ _ (e1.trans e2) R2 (.bl _)⟩
  ·cases h
 ·cases h
end L3
namespace L3
open PySem L2 PySem.Spec PyProof.Rows
theorem NP:entryFor table "proto.unchain"=b6 Builtin.«proto.unchain»:=entryFor_of_fast (by kernel_rfl)
section
variable{prog:Ur}{w:UJ}{A:UD}{E:Value->T6->Prop}{s:T6}
theorem NQ{c e:Addr}{x left step:Int}{o:Obj}{vs:Array Value}{Q:Option Value->T6->Prop}(l:A.handled=b6 (.ref e))(m:s.heap.get? e=b6 o)(hd:o.data=.fields vs)(y:vs[2]?=b6 US)
  (hit:X0 s.heap c x left step)(a:left<=0)(v:∀i,Zk c s.heap i->Q b8 {s with heap:=i}):Uu (Ut prog w) A (Y0 (.ref c)) Q E s:=by
 have j:s.TypeIs (.ref c) "range_iterator":=⟨_,hit,rfl⟩;unfold Y0;refine T5 (ZY (Zb (name:=We "__next__") j F.slot_range_iterator_next
  (Wz F.slot_range_iterator_next j F.entry_range_iterator_next ?_ (F.args_range_iterator_next_1 _))))
 show Uu _ _ (field (.ref c) 0 >>= _) _ _ s;refine T5 (V4 hit rfl (x:=WE x) rfl ?_);show Uu _ _ (field (.ref c) 1 >>= _) _ _ s;refine T5 (V4 hit rfl (x:=WE left) rfl ?_);show Uu _ _ (field (.ref c) 2 >>= _) _ _ s;refine T5 (V4 hit rfl (x:=WE step) rfl ?_);show Uu _ _ (if left<=0 then _ else _) _ _ s;rw[if_pos a];refine T5 (XU ?_);refine T5 ?_;show Uu _ _ (a1V (.type "StopIteration") [] >>= _) _ _ _;refine T5 ?_;simp only[a1V,a4u];refine T5 (VP ?_ (by size_fits));refine T5 (m:=X7 _ _) (a2C (a:=US) (by first|rfl|(simp only[X7];rfl)) ?_);refine VP ?_ (by size_fits);simp only[a4t];refine T5 (a1y ?_);first|rw[show A.in1.handled=b6 (.ref e)from l]|rw[l]
 have h:(Ug e != Ug (s.heap.push {cls:=Uw "tuple",data:=ZO #[]}).objs.size)=true:=by have p:=Uh m;have r:(s.heap.push {cls:=Uw "tuple",data:=ZO #[]}).objs.size=s.heap.objs.size+1:=XS ..;have u:e≠(s.heap.push {cls:=Uw "tuple",data:=ZO #[]}).objs.size:=UB (r▸YM p);rw[bne_iff_ne];intro z;injection z with z;exact u z
 dsimp only;rw[if_pos h];have n:=λ(z:Obj)=>Ua z (Ua {cls:=Uw "tuple",data:=ZO #[]} m);refine T5 (Vx (a4q (Yy NP ?_)));show Uu _ _ (field (.ref e) 2 >>= _) _ _ _;refine T5 (V4 (n _) hd y ?_);rw[if_pos (by rfl)];refine Ui ?_;show Uu _ _ (updateField _ 2 (Ug e) >>= _) _ _ _;simp only[updateField];refine T5 (T5 (a0X (UC _ rfl) ?_));dsimp only;rw[if_pos (by rw[Array.size_append];show 2<6+_;omega)];refine wpAny_update (UC _ rfl) (a2A ?_);refine T5 (a0v (T:="StopIteration") (b:=c4) ⟨_,Vu _ (UC _ rfl) rfl,rfl⟩ a1b ?_);refine Ui (v _ λb G B q=>?_);have d:=Uh q;rw[U4 _ _ (Wf (by rw[XS];exact YM d))];exact Ua _ (Ua _ q)
end
theorem Soft.at{X:Cx}{a4z:List (Addr×Obj)}{σ:L2.St}{H:Hp}{s:T6}(S:Soft X)(I:Inv X a4z σ H s):∃e,X.A.handled=b6 (.ref e)/\mK e H/\∃o vs,s.heap.get? e=b6 o/\o.data=.fields vs/\vs[2]?=b6 US:=by obtain⟨e,d,o,u,h,vs,a,b⟩:=S;have c:=I.base.frzs _ _ _ h;exact⟨e,d,⟨o,u,c,vs,a,b⟩,o,vs,(I.hok _ _ c).1,a,b⟩
theorem NR{P:Ur}{w:UJ}{K:T3}{tg:Expr}(a:Addr)(lo:Int)(n:Nat):Turn Soft P w K tg (jD lo n) [a] a (λi h=>X0 h a (lo+(i:Nat)*1) ((n:Int)-(i:Nat)) 1) where
 mem:=(nB (P:=P) (w:=w) (K:=K) (tg:=tg) a lo n).mem
 obj:=(nB (P:=P) (w:=w) (K:=K) (tg:=tg) a lo n).obj
 keep:=(nB (P:=P) (w:=w) (K:=K) (tg:=tg) a lo n).keep
 item:=by
  intro X A hw z hc i c s G H E I p st q;subst A hw z;obtain⟨r,u,Q,v,x,y⟩:=p a (by simp);have q:i<n:=q;refine wpAny_pyNext_range_item st (by omega) λm j B=>?_;have L:Inv X c G H {s with heap:=m,toks:=s.toks+1}:=I.turned (λb o d e=>B.extBut b o (by simpa using d) e) r u v x y;have l:X0 m a (lo+((i+1:Nat):Int)*1) ((n:Int)-((i+1:Nat):Int)) 1:=by
   have M:lo+((i+1:Nat):Int)*1=lo+(i:Int)*1+1:=by omega
   have N:(n:Int)-((i+1:Nat):Int)=(n:Int)-(i:Int)-1:=by omega
   rw[M,N];exact j
  refine⟨_,rfl,pR (s:={s with heap:=m,toks:=s.toks+1}) (n:="range_iterator") l rfl rfl (by decide) ⟨.int (lo+i),H,L,⟨s.toks,?_⟩,⟨rfl,rfl⟩,l,λb d=>(p b d).1⟩⟩;rw[a4k]
 done:=by intro X A hw z hc i c s G H E I p st q;subst A hw z;obtain⟨r,u,Q,v,x,y⟩:=p a (by simp);obtain⟨e,R,_,o,Z,T,U,Y⟩:=hc.at I;exact NQ R T U Y st (by have:n<=i:=q;omega) λm O=>⟨rfl,I.turned (t':=s.toks) (λb o d e=>O b o d e) r u v x y⟩
 self:=(nB (P:=P) (w:=w) (K:=K) (tg:=tg) a lo n).self
end L3
namespace L3
open PySem L2 PySem.Spec PyProof.Rows
noncomputable def fG(a:Hm->Nat->Option (Option D))(g:MG)(b:MS)(r:MR):Nat->Nat->MR
 |0,_,_,_=>b8|n+1,i,ρ,μ=>(a μ i).bind λo=>match o with
  |none=>b8|some d=>(g d ρ μ).bind λc=>match r c μ with
   |some p=>b6 p|none=>(b c μ).bind λp=>match p.1 with
    |.nx=>fG a g b r n (i+1) p.2.1 p.2.2|.ct=>fG a g b r n (i+1) p.2.1 p.2.2|_=>b8
noncomputable def qJ(c:MI)(g:MG)(b:MS)(r:MR):MR:=λa μ=>(c a μ).bind λp=>fG p.1 g b r p.2.1 0 a p.2.2
section
variable{X:Cx}{a4z:List (Addr×Obj)}{σ:L2.St}{H H':Hp}{s s':T6}{e:Addr}{cls:Value}{dc:Option Addr}{T:Option (Addr×Value)}
theorem NS{M:YX}{Q:Value->T6->Prop}{L:Addr}(w:X.ex=[])(h:X.stack=X.env::X.outer)(m:X.env.frame=b6 L)(I:Inv X a4z σ H s)(x:Ex X a4z H s e cls dc T)
  (k:∀s' Y,Inv X a4z σ H s'->Ex X a4z H s' e cls dc Y->Q (.ref e) s'):notedBy M X.A X.env (a3a M X.A X.env Q) (.ref e) s:=by
 refine yL (λp a=>(x.hT p a).imp id λ⟨L,E,q⟩=>by rw[m]at E;cases E;exact q) (by rw[<- h];exact I.ok.frames) (by rw[<- h];exact I.stack) m x.rc λv i U l G=>?_;obtain⟨o,vs,n,Z,g3,r,u,g6⟩:=U.ob;obtain⟨K,oT,ts,N,O,R⟩:=U.tb _ rfl;unfold a3a;refine T5 (V4 n r u ?_);rw[if_neg (show ¬ (Ug i==US)=c4 by simp)];unfold ZJ;refine T5 (V4 n r u ?_);rw[if_pos (show(Ug i != US)=c4 by simp)];have c:∀b,b≠i->(v.update i (Xc (·.setIfInBounds 3 (X.env.frame.elim US λf=>WE f)))).get? b=v.get? b:=λb d=>U4 _ _ (Vf d);have B:=WQ O (·.setIfInBounds 3 (X.env.frame.elim US λf=>WE f));refine Xb N O (Vt.mp R).1 ?_;have kk:XKept (cR X.stack) e T s.heap (v.update i (Xc (·.setIfInBounds 3 (X.env.frame.elim US λf=>WE f)))):=by
  rw[h];refine⟨λb o d A j n3=>?_,λb o d A j=>?_⟩
  ·rw[c b (kP d j l)];exact G.keep b o d A j n3
  ·obtain⟨sl,h3⟩:=G.slot b o d A j;refine⟨sl,?_⟩;rw[c b (kP d j l)];exact h3
 refine k {s with heap:=_} (b6 (i,WE L)) (x.kept w I kk) ⟨⟨⟨o,vs,(c e (Vf K)).trans n,Z,g3,r,u,g6⟩,λp a=>?_⟩,(λp a=>by cases a;exact .inr ⟨L,m,rfl⟩),⟨x.lo.1,λp a=>?_⟩,⟨x.fr.1,λp a=>?_⟩,λq y=>⟨(x.pn q y).1,λp a=>?_⟩⟩
 ·cases a;exact⟨K,_,_,Vu _ N (WU B),B,by rw[m];simp[(Vt.mp R).1]⟩
 ·cases a;exact l.elim (λz=>Xm (VD I.sz z)) (λ⟨p,a,q⟩=>q▸x.lo.2 p a)
 ·cases a;exact l.elim (λz=>I.hok.fresh z) (λ⟨p,a,q⟩=>q▸x.fr.2 p a)
 ·cases a;exact kP (I.pin q y).1 (x.pn q y).2 l
theorem NT{tg iter:Expr}{body:List Stmt}{mi:MI}{g:MG}{mb:MS}{r:MR}{L:Addr}{pos:VW}(hex:X.ex=[])(hst:X.stack=X.env::X.outer)(hf:X.env.frame=b6 L)(hc:X.calm=c4)(hi:PI X.nox tg iter (tMI X.K mi))(hg:QG X.nox tg g)(hb:QB X.nox body mb)(hr:∀E,QRB (X.wish E) body r)(hs:dW iter=c4) :
  QR X (.For tg iter body [] pos) (qJ mi g mb r):=by
 refine⟨λa4z s σ H π ρ μ x Y U I R EN h w=>?_⟩;obtain⟨⟨O,nn,M⟩,h1,h⟩:=TZ.mp h;have k:=hi a4z s σ H (λJ H1=>∃B,Ext π μ.length H B M.length H1/\Rp X.K B H1 M/\Wk X.K J O B M.length H1) (I.wish _) ⟨π,ρ,μ,O,nn,M,R,EN,h1,λB H1 J e1 R1 W=>⟨B,e1,R1,W⟩⟩;refine wpAny_For (UK k (λv s1 q=>UK q (λitv s2 q2=>?_) λ_ _ z=>UT z) λ_ _ z=>UT z) (by intro z;cases iter<;>first|rfl|cases hs);obtain⟨it,fp,tn,J,H2,e,I2,T,st2,f2,B,e1,R1,W⟩:=q2;subst e;have stat:∀{H':Hp},(∀b∈fp,H' b=b8)->∀b∈fp,gY X.nox a4z H' b:=λhn b hb=>⟨hn b hb,(f2 b hb).2⟩;refine a2S (λn s'=>∃i K H' c a G,Inv X.nox a4z K H' s'/\tn i s'.heap/\(∀b∈fp,H' b=b8)/\Ext B M.length H2 c a.length H'/\Rp X.K c H' a/\En X.K c a.length H' K G/\fG O g mb r n i G a=b6 (x,Y,U)) ?_ nn
  ⟨0,σ,H2,B,M,ρ,I2,st2,λb hb=>(f2 b hb).1,.refl,R1,EN.mono e1,h⟩
 rintro n s3 ⟨i,σ3,H3,c,a,G,I3,st3,fr3,e2,R2,E2,hgo⟩;cases n with
 |zero=>cases hgo|succ n=>
  obtain⟨o,h3,h4⟩:=TZ.mp hgo;cases o with
  |none=>cases h4|some d'=>
   obtain⟨g1,g2⟩:=W.go c a H3 i d' e2 R2 h3;obtain⟨ρ3,h5,h6⟩:=TZ.mp h4;refine UK (T.item X.nox rfl rfl rfl hc i a4z s3 σ3 H3 (λ_ _=>False) I3 (stat fr3) st3 g1) (λrr s4 ⟨u,hu,h7⟩=>?_) λ_ _ z=>UT z;subst hu;refine UK h7 (λ_ s5 ⟨x5,H5,I5,r5,y5,st5,fr5⟩=>?_) λ_ _ z=>UT z;have I5':=I5.pinned (stat fr5) (T.obj _ _ st5);obtain⟨ex,Rx,hx⟩:=g2 x5 H5 y5;have k6:=hg.h _ s5 σ3 H5 x5 u (λσ6 H6=>H6=H5/\En X.K c a.length H5 σ6 ρ3) I5' r5 ⟨c,G,a,d',ρ3,Rx,E2.mono ex,hx,h5,λσ6 E6=>⟨rfl,E6⟩⟩;refine UK k6 (λ_ s6 ⟨σ6,H6,I6,e6,E6⟩=>?_) λ_ _ z=>UT z;subst e6;split at h6
   ·rename_i p hp;cases h6;refine UK ((hr (notedBy (Ut X.prog X.w) X.A X.env (a3a (Ut X.prog X.w) X.A X.env X.xe))).h (a4z++j7 fp s5.heap) s6 σ6 H6 c ρ3 a x Y U (I6.unwish.wish _) Rx E6 hp λπ' K H' s' ea cls dc T' e' R' E' I' x' ix=>?_) (λ_ _ z=>UT z) λ_ _ z=>z;refine NS hex hst hf I'.unwish.unpinned (⟨x'.rc,x'.hT,x'.lo,x'.fr,λq hq=>x'.pn q ?_⟩:Ex X a4z H' s' ea cls dc T') λs2 T2 I2 x2=>w π' K H' s2 ea cls dc T2 (((e1.trans e2).trans ex).trans e') R' E' I2 x2 ix;rcases Vk.mp hq with z|z
    ·exact Xk _ z
    ·exact U0 _ (Xk _ z)
   ·obtain⟨⟨f7,Q,y⟩,h7,h8⟩:=TZ.mp h6;have on:∀{N:L2.St->Hp->Prop},(N=λl A=>∃j,Ext c a.length H6 j y.length A/\Rp X.K j A y/\En X.K j y.length A l Q)->fG O g mb r n (i+1) Q y=b6 (x,Y,U)->∀f s7,SP X.nox (a4z++j7 fp s5.heap) {nx:=N,rt:=λ_ _=>False,ct:=N} f s7->(match f with
      |.next|.cont=>∃m,m<n+1/\∃i K H' c a G,Inv X.nox a4z K H' s7/\tn i s7.heap/\(∀b∈fp,H' b=b8)/\Ext B M.length H2 c a.length H'/\Rp X.K c H' a/\En X.K c a.length H' K G/\fG O g mb r m i G a=b6 (x,Y,U)
      |_=>False):=λ{N} hN h8 f s7 q7=>by
     have Z:∀{l:L2.St}{A:Hp},Inv X.nox (a4z++j7 fp s5.heap) l A s7->N l A->∃m,m<n+1/\∃i K H' c a G,Inv X.nox a4z K H' s7/\tn i s7.heap/\(∀b∈fp,H' b=b8)/\Ext B M.length H2 c a.length H'/\Rp X.K c H' a/\En X.K c a.length H' K G/\fG O g mb r m i G a=b6 (x,Y,U):=λ{l A} I7 n7=>by rw[hN]at n7;obtain⟨j,e7,R7,E7⟩:=n7;refine⟨n,W8 _,i+1,l,A,j,y,Q,I7.unpinned,T.keep _ _ _ st5 λb hb o e=>(I7.pin (b,o) (U0 _ (U0 _ (nC hb e)))).1,λb hb=>?_,(e2.trans ex).trans e7,R7,E7,h8⟩;obtain⟨o,e,_⟩:=T.obj _ _ st5 b hb;exact(I7.pin (b,o) (U0 _ (U0 _ (nC hb e)))).2.1
     cases f with
     |next=>obtain⟨l,A,I7,n7⟩:=q7;exact Z I7 n7|cont=>obtain⟨l,A,I7,n7⟩:=q7;exact Z I7 n7|brk=>obtain⟨l,A,I7,q7⟩:=q7;exact q7|ret v=>obtain⟨x7,l,A,I7,r7,q7⟩:=q7;exact q7
    obtain⟨hfl,h9⟩:(f7=Fl.nx\/f7=Fl.ct)/\fG O g mb r n (i+1) Q y=b6 (x,Y,U):=by
     cases f7 with
     |nx=>exact⟨.inl rfl,h8⟩|ct=>exact⟨.inr rfl,h8⟩|bk=>cases h8|rt d=>cases h8
    refine UK (hb.h _ s6 σ6 H6 {nx:=λl A=>∃j,Ext c a.length H6 j y.length A/\Rp X.K j A y/\En X.K j y.length A l Q,rt:=λ_ _=>False,ct:=λl A=>∃j,Ext c a.length H6 j y.length A/\Rp X.K j A y/\En X.K j y.length A l Q} I6
      ⟨c,ρ3,a,f7,Q,y,Rx,E6,h7,by rcases hfl with rfl|rfl<;>exact λj l A e7 R7 E7=>⟨j,e7,R7,E7⟩⟩) (λf s7 q7=>?_) λ_ _ z=>UT z
    have:=on rfl h9 f s7 q7;cases f with
    |next=>exact this|cont=>exact this|brk=>exact this.elim|ret v=>exact this.elim
end
end L3
namespace L3
open PySem L2 PySem.Spec PyProof.Rows
noncomputable def iO(x a:Str)(m:ME):ME:=λb μ=>(m b μ).map λp=>(.loc p.2.length,p.2++[C.exc x [a] [p.1]])
theorem NU{X:Cx}{x bn e sf ar:Str}{C f B:Addr}{fd:VQ}{k:Nat}{a:Expr}{m:ME}{np G:VW}(c:InitK X.K C f B bn e)(nm:Vj X.K U1 x=b6 (b6 (.ref C)))(hk:U9 X.K (.ref C)=c4)(F:FnOk X.prog X.w X.K X.mg X.base cY k f fd [sf,ar] (kT C e))(hb:Binds X.K fd [sf,ar] [])(Z:∃oI,X.K.lookup f=b6 oI/\oI.cls=.type "function")
  (hr:Room (k+1) X.A)(hg:Gl X x)(ha:QE X a m)(hs:cC a=c4)(Y:(x==("__debug__":Str))=b9):QE X (.Call (.Name x np) [a] [] G) (iO x e m):=by
 refine⟨λM s σ H Q I t=>?_⟩;obtain⟨π,ρ,μ,d0,μ',R,E,h,kc⟩:=t;obtain⟨⟨d,i⟩,h1,h⟩:=T7.mp h;cases h;have K:UW [a] X.env=(b9,eval a X.env)::UW [] X.env:=dR hs;refine VG (f9 I hg (WI I.mod.kin I.mod.glob nm) ?_ Y);have k1:=ha.h M s σ H (λv p=>∃l,Ext π μ.length H l i.length p/\Rp X.K l p i/\IsD X.K l i.length p v d) I ⟨π,ρ,μ,d,i,R,E,h1,λl v p N L i1=>⟨l,N,L,i1⟩⟩;refine XB (h₀:=X.base) I.ok.mod.kin hk (ZK (UK k1 (λu s1 ⟨v,p,I1,rv,l,N,L,i1⟩=>a2I ⟨I1.kIn,?_⟩) λ_ _ z=>z) K) K rfl;refine DN c F hb Z hr I1 rv λj r A o vs s' he0 hne U z2 I3 O g2 g3 g4 g5=>?_;have T:aG (aG (aG p j (XO j C b8)) j (XO j C (b6 r))) r (.frz A (.xd [(e,v)])) j=b6 (XO j C (b6 r)):=by rw[aS (Vf z2),bO]
 have I4:=I3.write (x:=j) (e:=j) (o:=.frz o (.ext λ_=>True)) (h':=s'.heap) (t':=s'.toks) (by rw[T];trivial) (.inl rfl) (λb u _ q=>q) ⟨_,O⟩ ⟨O,trivial,⟨o,O⟩,λ_ _ _ _=>trivial⟩;have eH:aG (aG (aG (aG p j (XO j C b8)) j (XO j C (b6 r))) r (.frz A (.xd [(e,v)]))) j (.frz o (.ext λ_=>True))=aG (aG p r (.frz A (.xd [(e,v)]))) j (.frz o (.ext λ_=>True)):=by
  funext b;by_cases n:b=j
  ·rw[n,bO,bO]
  ·by_cases w:b=r
   ·rw[aS n,aS n,w,bO,bO]
   ·rw[aS n,aS n,aS w,aS w,aS n,aS n]
 rw[eH]at I4;obtain⟨e4,R4⟩:=L.fresh (o:=.frz A (.xd [(e,v)])) U;have y:lY X.K l i.length (aG p r (.frz A (.xd [(e,v)]))) j (L3.C.exc x [e] [d]) (.frz o (.ext λ_=>True)):=
  ⟨o,_,rfl,by rw[g2];exact nm,⟨vs,g4⟩,.inr ⟨r,A,[(e,v)],g3,bO,rfl,.cons (i1.mono e4) .nil⟩⟩
 obtain⟨e5,R5,p5⟩:=R4.alloc (by rw[aS (Vf z2)];exact hne) y;refine⟨V.ref j,_,I4,rfl,kc _ _ _ ((N.trans e4).trans e5) R5 ?_⟩;have il:IsD X.K (fC l i.length j) (i++[L3.C.exc x [e] [d]]).length (aG (aG p r (.frz A (.xd [(e,v)]))) j (.frz o (.ext λ_=>True))) (V.ref (fC l i.length j i.length)) (.loc i.length):=IsD.loc (by rw[Uj];exact W8 _);rw[p5]at il;exact il
end L3
namespace L3
open PySem L2 PySem.W PyProof.Rows
noncomputable def tZ:Bool->Keyed->Array Keyed->Nat->Nat->Nat->StateT Ww a1B (Option Nat):=sortPriv% PySem.Builtin.gallop
section
variable{M:YX}{A:UD}{E:Value->T6->Prop}{σ:Type}
theorem jN{a:Type}{f:Nat->a->StateT σ a1B (ForInStep a)}{st:σ}{s:T6}{Q:a->σ->T6->Prop}(d:Nat->a->Prop)(m:a->Prop)(n:Nat)
  (step:∀i x b,i<n->d i b->Xo M A E (f x b) (λr j v=>j=st/\v=s/\match r with|.done c=>m c|.yield c=>d (i+1) c) st s)(fin:∀b,d n b->m b)(k:∀b,m b->Q b st s) :
  ∀(l:List Nat)(i:Nat)(b:a),i+l.length=n->d i b->Xo M A E (forIn l b f) Q st s
 |[],i,b,h,hI=>kasC_nil (k b (fin b (by simp at h;subst h;exact hI)))|x::l,i,b,h,hI=>by
  rw[UA]at h;refine kasC_cons (UK (step i x b (by omega) hI) (λr v q=>?_) λ_ _ e=>e);obtain⟨r,j⟩:=r;obtain⟨o,p,u⟩:=q;dsimp only at o p;subst o p;cases r with
  |done c=>exact k c u|yield c=>exact jN d m n step fin k l (i+1) c (by omega) u
end
section
variable{prog:Ur}{w:UJ}{A:UD}{E:Value->T6->Prop}{κ:XM}{st:Ww}{s:T6}
noncomputable def fH(prog:Ur)(w:UJ)(A:UD)(κ:XM)(s:T6)(X:Keyed->Prop)(an:Keyed->Keyed->Bool):Prop:=
 ∀(x y:Keyed)(C:Bool->T6->Prop),X x->X y->C (an x y) s->Uu (Ut prog w) A (a2X κ x.1 y.1) C (λ_ _=>False) s
theorem qK{X:Keyed->Prop}{an:Keyed->Keyed->Bool}(hC:fH prog w A κ s X an)(c:kindOf st=κ){x y:Keyed}(d:X x)(e:X y){Q:Option Bool->Ww->T6->Prop}(q:Q (b6 (an x y)) st s):Xo (Ut prog w) A E (lt' x y) Q st s:=by rw[lt'_eq];refine Uk (X6 ?_);rw[c];exact Uk (Zc (ZY (UK (hC x y (λb a=>b=an x y/\a=s) d e ⟨rfl,rfl⟩) (λb a z=>by obtain⟨rfl,rfl⟩:=z;exact Uq q) λ_ _ f=>f.elim)))
theorem NV{x:Ww}{Q:PUnit->Ww->T6->Prop}(h:Q ⟨⟩ x s):Xo (Ut prog w) A E (set x:StateT Ww a1B PUnit) Q st s:=by unfold Xo;rw[StateT.run_set];exact Ui h
theorem yR{ar:Array Keyed}{i:Nat}{x:Keyed}{Q:Keyed->Ww->T6->Prop}(h:ar[i]?=b6 x)(q:Q x st s):Xo (Ut prog w) A E (elem' ar i) Q st s:=by rw[elem'_eq,h];exact Uq q
noncomputable def DU:Array Keyed->Array Keyed->StateT Ww a1B (Array Keyed):=sortPriv% PySem.Builtin.mergeLo
noncomputable def DV:Array Keyed->Array Keyed->StateT Ww a1B (Array Keyed):=sortPriv% PySem.Builtin.mergeHi
theorem DW:∀(l:List Keyed)(ar:Array Keyed)(o k:Nat),o+k+l.length<=ar.size->((l.zipIdx k).foldl (λ(a:Array Keyed)(x:Keyed×Nat)=>a.setIfInBounds (o+x.2) x.1) ar).toList=ar.toList.take (o+k)++l++ar.toList.drop (o+k+l.length)
 |[],ar,o,k,h=>by simp
 |x::l,ar,o,k,h=>by
  rw[List.zipIdx_cons,List.foldl_cons,DW l _ o (k+1) (by rw[Array.size_setIfInBounds];rw[UA]at h;omega)];rw[UA]at h;have b:o+k<ar.toList.length:=by simp;omega
  rw[a0l,UA];dsimp only;rw[show o+(k+1)=o+k+1 by omega,a2f,Vc b,a1C (Up _),List.drop_set_of_lt (by omega)];simp[show o+k+1+l.length=o+k+(l.length+1) by omega]
theorem NW{X:Keyed->Prop}{an:Keyed->Keyed->Bool}(hC:fH prog w A κ s X an)(c:a4b st=κ){i j:Nat}{x y:Keyed}(a:(a2H st)[i]?=b6 x)(b:(a2H st)[j]?=b6 y)(d:X x)(e:X y){Q:Option Bool->Ww->T6->Prop}(q:Q (b6 (an x y)) st s):Xo (Ut prog w) A E (ltAt' i j) Q st s:=by rw[ltAt'_eq];refine Uk (X6 ?_);refine Uk (yR a (Uk (yR b (qK hC c d e q))))
end
section
variable{prog:Ur}{w:UJ}{A:UD}{E:Value->T6->Prop}{s:T6}
theorem NX(us:List Value):(us.toArray.zip us.toArray).toList=us.map λu=>(u,u):=by
 simp only[Array.toList_zip];induction us with
 |nil=>rfl|cons u us a=>simpa using a
structure Near(us:List Value)(n K:Nat)(an:Value->Value->Bool):Prop where
 len:us.length=n+1
 le:K<=n
 asc:∀(i:Nat)(x z:Value),i+1<n->us[i+1]?=b6 x->us[i]?=b6 z->an x z=b9
 ris:∀x z,us[0]?=b6 x->us[n-1]?=b6 z->an x z=c4
 at_:∀(i:Nat)(x z:Value),i<n->us[i]?=b6 x->us[n]?=b6 z->an z x=decide (K<=i)
noncomputable def DX(prog:Ur)(w:UJ)(A:UD)(us:List Value)(an:Value->Value->Bool)(s:T6):Prop:=
 Uu (Ut prog w) A (keyKind' us.toArray) (λb a=>a=s/\∀(x y:Value)(C:Bool->T6->Prop),x∈us->y∈us->C (an x y) s->Uu (Ut prog w) A (a2X b x y) C (λ_ _=>False) s) (λ_ _=>False) s
end
section
variable{X:Cx}{a4z:List (Addr×Obj)}{σ:L2.St}{H:Hp}{s:T6}
theorem NY(I:L2.Inv X a4z σ H s){a:Addr}{t t':List Int}(h:SqT X.K H a (t.map V.int))(h':SqT X.K H a (t'.map V.int)):t=t':=
 (List.map_inj_right λx y h=>by cases h;rfl).mp (I.tuple_inj h h')
open Classical in
noncomputable def tv(K:T3)(H:Hp):Value->List Int
 |.ref a=>if h:∃t:List Int,SqT K H a (t.map V.int)then h.choose else[]|_=>[]
end
end L3
namespace L3
open PySem PySem.Spec
namespace Tb
section
variable{prog:Ur}{w:UJ}{A:UD}{E:Value->T6->Prop}{s:T6}
noncomputable abbrev IsT(prog:Ur)(w:UJ)(h:Vb)(k:List Int)(b:Addr):Prop:=IsTupleKey (Zm prog w) h k b
end
section
variable{prog:Ur}{w:UJ}{A:UD}{R:a3d->T6->Prop}{I:Addr}{fp wr:List Addr}{G:Array a2R->Array a2R->Prop}{n:Nat}{P:Nat->Value->Prop}{St:Nat->T6->Prop}
end
section
variable{prog:Ur}{w:UJ}{A:UD}{E:Value->T6->Prop}{s:T6}
noncomputable abbrev dW(a:Bool):Obj:={cls:=.type "set",dict:=b8,data:=.set #[] 0 (.fresh 0 0 a)}
end
end Tb
end L3
namespace L3
open PySem L2
open PyProof.Rows (IntsAre)
theorem DY:∀{ds:List D}{k:List Int},yF ds=b6 k->ds=k.map D.int
 |[],k,h=>by cases h;rfl
 |d::ds,k,h=>by
  cases d with
  |int i=>obtain⟨c,a,b⟩:=T7.mp h;subst b;rw[DY a];rfl|_=>cases h
theorem DZ{x:D}{k:List Int}(h:dS x=b6 k):x=.tup (k.map D.int):=by
 cases x with
 |tup ds=>rw[DY h]|_=>cases h
noncomputable def t6(μ:Hm):D->Option (List D)
 |.rol xs=>b6 xs|.loc a=>match μ[a]? with
  |some (.lst xs)=>b6 xs|_=>b8
 |_=>b8
section
variable{K:T3}{π:Nat->Addr}{n:Nat}{H:Hp}{μ:Hm}
theorem NZ{v:V}{x:D}{xs:List D}(R:Rp K π H μ)(h:IsD K π μ.length H v x)(e:t6 μ x=b6 xs):∃p vs,v=.ref p/\SqL K H p vs/\IsDs K π μ.length H vs xs:=by
 cases h with
 |rol q t=>cases e;exact⟨_,_,rfl,q.sq,t⟩|@loc a i=>
  simp only[t6]at e;split at e
  ·rename_i j d;cases e;obtain⟨vs,b,c⟩:=R.lst a xs d;exact⟨_,vs,rfl,.of b,c⟩
  ·cases e
 |_=>cases e
theorem ints_of':∀{vs:List V}{k:List Int},IsDs K π n H vs (k.map D.int)->vs=k.map V.int
 |_,[],h=>by cases h;rfl
 |_,i::k,h=>by
  cases h with
  |cons h t=>cases h;rw[ints_of' t];rfl
theorem yS:∀(k:List Int),IsDs K π n H (k.map V.int) (k.map D.int)
 |[]=>.nil|i::k=>.cons (.int i) (yS k)
end
theorem D0{X:Cx}:∀{k:List Int}{xs:List Value},Vals (k.map V.int) xs->ItemsAre (Zm X.prog X.w) k xs
 |[],_,h=>by cases h;exact .nil
 |i::k,_,h=>by
  cases h with
  |cons h t=>obtain⟨a,rfl⟩:=h;exact .cons (intKind_is _ _ _ _) (D0 t)
section
variable{X:Cx}{a4z:List (Addr×Obj)}{σ:St}{H:Hp}{s:T6}
theorem mM(I:Inv X a4z σ H s){b:Addr}{k:List Int}(h:SqT X.K H b (k.map V.int)):Tb.IsT X.prog X.w s.heap k b:=by obtain⟨j,i,⟨a,e,c,n,d⟩,_⟩:=I.tuple h;exact⟨a,j.toArray,n,e,c,d,by simpa using D0 i⟩
theorem call_lenT:CallR X (.builtin "len") (λxs H Q=>∃a L,xs=[V.ref a]/\H a=b6 (sP a L)/\Q (.int L.length) H):=by
 intro a4z s σ H xs A Q I r h;obtain⟨a,L,rfl,e,q⟩:=h;obtain⟨u,rfl,y⟩:=iI r;cases y;obtain⟨⟨o,p,x,d,z,t,R,c,hd,i,ok,v,hnd,m,j,w,l⟩,_,_⟩:=I.hok a _ e;have b:d.size=L.length:=by have:=v.length_eq;simpa using this
 have n:t.mask<=511:=by rcases m with h|h|h|h<;>omega
 refine call_len_set p c hd (Tb.fits_of ok i) (by rw[b];omega) ?_;rw[b];exact⟨.int L.length,H,I.tok _,⟨_,rfl⟩,q⟩
end
end L3
namespace L3
open PySem L2
noncomputable def mO(ks:List (List Int)):Nat->Nat->Bool:=λi j=>HT.lexLt (ks.getD i []) (ks.getD j [])
theorem D1{K:T3}{π:Nat->Addr}{n:Nat}{H:Hp}:∀{vs:List V}{xs:List D}(i:Nat),IsDs K π n H vs xs->IsD K π n H (vs.getD i .non) (xs.getD i .non)
 |_,_,i,.nil=>by simp;exact .non
 |_,_,0,.cons h _=>h|_,_,i+1,.cons _ t=>by simpa using D1 i t
theorem D2{K:T3}{π:Nat->Addr}{n:Nat}{H:Hp}{vs:List V}{xs:List D}(h:IsDs K π n H vs xs):∀(l:List Nat),IsDs K π n H (l.map λi=>vs.getD i .non) (l.map λi=>xs.getD i .non)
 |[]=>.nil|i::l=>.cons (D1 i h) (D2 h l)
end L3
namespace L3
open PySem L2 PySem.W PyProof.Rows
section
variable{prog:Ur}{w:UJ}{A:UD}{E:Value->T6->Prop}{κ:XM}{st:Ww}{s:T6}
theorem N0{i j:Nat}{Q:Unit->Ww->T6->Prop}(q:Q () (setArr st (a4v (a2H st) i j ((j-i)/2))) s):Xo (Ut prog w) A E (reverseSlice' i j) Q st s:=by rw[reverseSlice'_eq];exact W2 q
end
end L3
namespace L3
open PySem L2 PySem.W PyProof.Rows
section
variable{M:YX}{A:UD}{E:Value->T6->Prop}{σ:Type}
theorem iD{j:Type}{f:Nat->j->StateT σ a1B (ForInStep j)}{s:T6}{Q:j->σ->T6->Prop}(l:Nat->j->σ->Prop)(o:j->σ->Prop)(a n:Nat)
  (step:∀i b st,i<n->l i b st->Xo M A E (f (a+i) b) (λr d u=>u=s/\match r with|.done c=>o c d|.yield c=>l (i+1) c d) st s)(fin:∀b st,l n b st->o b st)(k:∀b st,o b st->Q b st s) :
  ∀(m i:Nat)(b:j)(st:σ),i+m=n->l i b st->Xo M A E (forIn (YI (a+i) m) b f) Q st s
 |0,i,b,st,h,hI=>kasC_nil (k b st (fin b st (by simp at h;subst h;exact hI)))|m+1,i,b,st,h,hI=>by
  rw[Z3];refine kasC_cons (UK (step i b st (by omega) hI) (λr u q=>?_) λ_ _ e=>e);obtain⟨r,d⟩:=r;obtain⟨v,p⟩:=q;subst v;cases r with
  |done c=>exact k c _ p|yield c=>exact iD l o a n step fin k m (i+1) c d (by omega) p
end
section
variable{prog:Ur}{w:UJ}{A:UD}{E:Value->T6->Prop}{κ:XM}{st:Ww}{s:T6}
theorem D3{X:Keyed->Prop}{an:Keyed->Keyed->Bool}(hC:fH prog w A κ s X an)(Y:kindOf st=κ){N:Bool}{H:Keyed}{ar:Array Keyed}{b n h:Nat}(hn:h<n)(y:Nat->Keyed)(ha:∀i,i<n->ar[b+i]?=b6 (y i))(U:∀i,i<n->X (y i))(Z:X H)(K:Nat)(hK:K<=n)
  (hB:∀i,i<n->(if N then an (y i) H else !(an H (y i)))=decide (i<K)){Q:Option Nat->Ww->T6->Prop}(q:Q (b6 K) st s):Xo (Ut prog w) A E (tZ N H ar b n h) Q st s:=by
 have be:∀{i:Nat}{R:Option Bool->Ww->T6->Prop},i<n->R (b6 (decide (i<K))) st s->Xo (Ut prog w) A E (do let x <- elem' ar (b+i);if N then lt' x H else return(<- lt' H x).map (!·)) R st s:=by
  intro i R z r;rw[elem'_eq,ha i z];refine Uk (Uq ?_);have:=hB i z;cases N with
  |true=>simp only[if_true]at this ⊢;exact qK hC Y (U i z) Z (by rw[this];exact r)|false=>simp only[Ud,if_false]at this ⊢;refine Uk (qK hC Y Z (U i z) (Uq ?_));show R (b6 (!(an H (y i)))) st s;rw[this];exact r
 unfold tZ;refine Uk (be hn ?_);by_cases d:h<K
 ·simp only[d,decide_true,if_true];refine Uk (Wb (jN (λi c=>c.1=b8/\h+c.2.1<K/\c.2.1<c.2.2/\i+1<=c.2.2) (λc=>c.1=b8/\h+c.2.1<K/\c.2.1<c.2.2/\K<=h+min c.2.2 (n-h)) n (λi x c z a=>?_) (λc a=>⟨a.1,a.2.1,a.2.2.1,by omega⟩) (λc G=>?_) _ 0 _ (by simp) ⟨rfl,d,by decide,Up _⟩))
  ·obtain⟨B,T,of⟩:=c;obtain⟨v,o,p,I⟩:=a;dsimp only at v o p I ⊢;by_cases l:of >= n-h
   ·rw[if_pos l];exact Uq ⟨rfl,rfl,rfl,o,p,by dsimp only;omega⟩
   ·rw[if_neg l];refine Uk (be (i:=h+of) (by omega) ?_);by_cases m:h+of<K
    ·simp only[m,decide_true,U3,Ud,if_false];exact Uq ⟨rfl,rfl,rfl,by dsimp only;omega,by dsimp only;omega,by dsimp only;omega⟩
    ·simp only[m,decide_false,Wt,if_true];exact Uq ⟨rfl,rfl,rfl,o,p,by dsimp only;omega⟩
  ·obtain⟨B,T,of⟩:=c;obtain⟨v,o,p,I⟩:=G;dsimp only at v o p I ⊢;subst v;dsimp only;refine Uk (Wb (jN (λi c=>c.1=b8/\c.2.1<=K/\K<=c.2.2/\c.2.2<=n/\c.2.2-c.2.1<=n-i) (λc=>c.1=b8/\c.2.2=K) n (λi x c z a=>?_) (λc a=>⟨a.1,by omega⟩) (λc G=>?_) _ 0 _ (by simp) ⟨rfl,by dsimp only;omega,by dsimp only;omega,by dsimp only;omega,by dsimp only;omega⟩))
   ·obtain⟨B,e,u⟩:=c;obtain⟨d,j,L,M,O⟩:=a;dsimp only at d j L M O ⊢;by_cases l:e >= u
    ·rw[if_pos l];exact Uq ⟨rfl,rfl,rfl,by dsimp only;omega⟩
    ·rw[if_neg l];refine Uk (be (i:=e+(u-e)/2) (by omega) ?_);by_cases m:e+(u-e)/2<K
     ·simp only[m,decide_true,if_true];exact Uq ⟨rfl,rfl,rfl,by dsimp only;omega,L,M,by dsimp only;omega⟩
     ·simp only[m,decide_false,Ud,if_false];exact Uq ⟨rfl,rfl,rfl,j,by dsimp only;omega,by dsimp only;omega,by dsimp only;omega⟩
   ·obtain⟨B,e,u⟩:=c;obtain⟨d,j⟩:=G;dsimp only at d j ⊢;subst d j;exact Uq q
 ·simp only[d,decide_false,Ud,if_false];refine Uk (Wb (jN (λi c=>c.1=b8/\K+c.2.1<=h/\c.2.1<c.2.2/\i+1<=c.2.2) (λc=>c.1=b8/\K+c.2.1<=h/\c.2.1<c.2.2/\h+1<=K+min c.2.2 (h+1)) n (λi x c z a=>?_) (λc a=>⟨a.1,a.2.1,a.2.2.1,by omega⟩) (λc G=>?_) _ 0 _ (by simp) ⟨rfl,by dsimp only;omega,by decide,Up _⟩))
  ·obtain⟨B,T,of⟩:=c;obtain⟨v,o,p,I⟩:=a;dsimp only at v o p I ⊢;by_cases l:of >= h+1
   ·rw[if_pos l];exact Uq ⟨rfl,rfl,rfl,o,p,by dsimp only;omega⟩
   ·rw[if_neg l];refine Uk (be (i:=h-of) (by omega) ?_);by_cases m:h-of<K
    ·simp only[m,decide_true,if_true];exact Uq ⟨rfl,rfl,rfl,o,p,by dsimp only;omega⟩
    ·simp only[m,decide_false,Ud,if_false];exact Uq ⟨rfl,rfl,rfl,by dsimp only;omega,by dsimp only;omega,by dsimp only;omega⟩
  ·obtain⟨B,T,of⟩:=c;obtain⟨v,o,p,I⟩:=G;dsimp only at v o p I ⊢;subst v;dsimp only;refine Uk (Wb (jN (λi c=>c.1=b8/\c.2.1<=K/\K<=c.2.2/\c.2.2<=n/\c.2.2-c.2.1<=n-i) (λc=>c.1=b8/\c.2.2=K) n (λi x c z a=>?_) (λc a=>⟨a.1,by omega⟩) (λc G=>?_) _ 0 _ (by simp) ⟨rfl,by dsimp only;omega,by dsimp only;omega,by dsimp only;omega,by dsimp only;omega⟩))
   ·obtain⟨B,e,u⟩:=c;obtain⟨d,j,L,M,O⟩:=a;dsimp only at d j L M O ⊢;by_cases l:e >= u
    ·rw[if_pos l];exact Uq ⟨rfl,rfl,rfl,by dsimp only;omega⟩
    ·rw[if_neg l];refine Uk (be (i:=e+(u-e)/2) (by omega) ?_);by_cases m:e+(u-e)/2<K
     ·simp only[m,decide_true,if_true];exact Uq ⟨rfl,rfl,rfl,by dsimp only;omega,L,M,by dsimp only;omega⟩
     ·simp only[m,decide_false,Ud,if_false];exact Uq ⟨rfl,rfl,rfl,j,by dsimp only;omega,by dsimp only;omega,by dsimp only;omega⟩
   ·obtain⟨B,e,u⟩:=c;obtain⟨d,j⟩:=G;dsimp only at d j ⊢;subst d j;exact Uq q
end
section
variable{α:Type}{r:α->Int}{A B O:List α}{ia ib:Nat}
noncomputable def Sr(r:α->Int)(l:List α):Prop:=l.Pairwise λx y=>r x<=r y
structure J(r:α->Int)(A B O:List α)(ia ib:Nat):Prop where
 sa:Sr r (O++A.drop ia)
 sb:Sr r (O++B.drop ib)
 pm:O.Perm (A.take ia++B.take ib)
theorem J.swap(h:J r A B O ia ib):J r B A O ib ia:=⟨h.sb,h.sa,h.pm.trans WR⟩
theorem J.blockB(h:J r A B O ia ib){k:Nat}(j:∀x∈(B.drop ib).take k,∀y∈A.drop ia,r x<=r y):J r A B (O++(B.drop ib).take k) ia (ib+k):=by
 obtain⟨a,b,i⟩:=h;have e:O++(B.drop ib).take k++B.drop (ib+k)=O++B.drop ib:=by rw[Uy,<- Zj,UR]
 refine⟨?_,by rw[e];exact b,?_⟩
 ·unfold Sr at a b ⊢;rw[Uy,VY];rw[VY]at a b;refine⟨a.1,?_,λx d y c=>?_⟩
  ·rw[VY];exact⟨b.2.1.sublist (Xg _ _),a.2.1,j⟩
  ·rcases Vk.mp c with c|c
   ·exact b.2.2 x d y (Yc c)
   ·exact a.2.2 x d y c
 ·rw[List.take_add];exact((i.append_right _).trans (by rw[Uy]))
theorem J.blockA(h:J r A B O ia ib){k:Nat}(a:∀x∈(A.drop ia).take k,∀y∈B.drop ib,r x<=r y):J r A B (O++(A.drop ia).take k) (ia+k) ib:=(h.swap.blockB a).swap
theorem qL{l:List α}{i:Nat}{x:α}(h:l[i]?=b6 x):l.drop i=x::l.drop (i+1):=by obtain⟨a,rfl⟩:=T8.mp h;exact Wv a
theorem Sr.head{l:List α}{x:α}(h:Sr r (x::l)):∀y∈x::l,r x<=r y:=λy a=>by
 rcases UX.mp a with rfl|a
 ·exact a0b _
 ·exact List.rel_of_pairwise_cons h a
theorem J.lowA(h:J r A B O ia ib){x:α}(a:A[ia]?=b6 x):∀y∈A.drop ia,r x<=r y:=by have:=(VY.mp h.sa).2.1;rw[qL a]at this ⊢;exact Sr.head this
theorem J.lowB(h:J r A B O ia ib){x:α}(a:B[ib]?=b6 x):∀y∈B.drop ib,r x<=r y:=h.swap.lowA a
theorem J.pushB(h:J r A B O ia ib){x y:α}(d:A[ia]?=b6 x)(a:B[ib]?=b6 y)(e:r y<=r x):J r A B (O++[y]) ia (ib+1):=by
 have:=h.blockB (k:=1) (by
  rw[qL a];intro z b u c;rw[Zt,Yt,U6]at b;subst b;have:=h.lowA d u c;omega)
 rwa [qL a,Zt,Yt]at this
theorem J.pushA(h:J r A B O ia ib){x y:α}(b:A[ia]?=b6 x)(c:B[ib]?=b6 y)(a:r x<=r y):J r A B (O++[x]) (ia+1) ib:=(h.swap.pushB c b a).swap
theorem D4{l:List α}{i k:Nat}{x:α}(h:x∈(l.drop i).take k):∃j,j<k/\l[i+j]?=b6 x:=by obtain⟨j,a,e⟩:=Yn h;rw[UN]at a;refine⟨j,by omega,?_⟩;rw[<- e,ZN,a2i,T9]
theorem J.gallA(h:J r A B O ia ib){k:Nat}{y:α}(d:B[ib]?=b6 y)(b:∀j x,j<k->A[ia+j]?=b6 x->r x<=r y):J r A B (O++(A.drop ia).take k) (ia+k) ib:=h.blockA λx c z hz=>by obtain⟨j,a,e⟩:=D4 c;have i:=b j x a e;have l:=h.lowB d z hz;omega
theorem J.gallB(h:J r A B O ia ib){k:Nat}{x:α}(b:A[ia]?=b6 x)(a:∀j y,j<k->B[ib+j]?=b6 y->r y<=r x):J r A B (O++(B.drop ib).take k) ia (ib+k):=(h.swap.gallA b a).swap
noncomputable def Fi(r:α->Int)(A B R:List α):Prop:=R.Perm (A++B)/\Sr r R
theorem J.endB(h:J r A B O ia ib)(a:B.length<=ib):Fi r A B (O++A.drop ia++B.drop ib):=by rw[Ws a,VB];refine⟨?_,h.sa⟩;have:=h.pm.append_right (A.drop ia);refine this.trans ?_;rw[Wo a];refine WR.trans ?_;rw[<- Uy];refine(List.Perm.append_right B (WR)).trans ?_;rw[UR]
theorem J.endA(h:J r A B O ia ib)(a:A.length<=ia):Fi r A B (O++A.drop ia++B.drop ib):=by have:=h.swap.endB a;rw[Ws a,VB]at this ⊢;exact⟨this.1.trans WR,this.2⟩
theorem J.last(h:J r A B O ia ib)(d:A.length=ia+1)(b:∀x,A[ia]?=b6 x->∀y∈B,r y<=r x):Fi r A B (O++B.drop ib++A.drop ia):=by have a:A[ia]?=b6 A[ia]:=T9 (by omega);have g:=h.gallB (k:=B.length-ib) a λj y _ c=>b _ a y (UL c);have e:(B.drop ib).take (B.length-ib)=B.drop ib:=Wo (by rw[U2];exact Up _);rw[e]at g;have:=g.endB (by omega);rwa [Ws (l:=B) (i:=ib+(B.length-ib)) (by omega),VB]at this
end
end L3
namespace L3
open PySem L2 PySem.W PyProof.Rows
section
variable{prog:Ur}{w:UJ}{A₀:UD}{E:Value->T6->Prop}{κ:XM}{st:Ww}{s:T6}{A B:List Keyed}
theorem D5(A:List Keyed)(i:Nat):(A.toArray.extract i A.toArray.size).toList=A.drop i:=by rw[a1q,a0C,VL,Ue,Wo (by rw[U2];exact Up _)]
theorem qM(A:List Keyed)(i j:Nat):(A.toArray.extract i j).toList=(A.drop i).take (j-i):=by rw[a1q,a0C,VL]
theorem yT(A:List Keyed)(i k:Nat):(A.toArray.extract i (i+k)).toList=(A.drop i).take k:=by rw[qM,WD]
theorem dO{i:Nat}{x:Keyed}{Q:Keyed->Ww->T6->Prop}(h:A[i]?=b6 x)(q:Q x st s):Xo (Ut prog w) A₀ E (elem' A.toArray i) Q st s:=yR (by rw[Vg];exact h) q
noncomputable def oE(p:Keyed->Bool)(l:List Keyed):Nat:=(l.takeWhile p).length
theorem D6(p:Keyed->Bool)(l:List Keyed):oE p l<=l.length:=a4j (List.takeWhile_sublist _)
theorem yU{p:Keyed->Bool}:∀{l:List Keyed},l.Pairwise (λx y=>p y=c4->p x=c4)->∀(i:Nat)(x:Keyed),l[i]?=b6 x->p x=decide (i<oE p l)
 |[],_,i,x,h=>by cases h
 |a::l,hp,i,x,h=>by
  unfold oE;rw[ZC]at hp;cases b:p a with
  |true=>
   rw[a1D,b,if_pos rfl,UA];cases i with
   |zero=>cases h;rw[b];simp|succ i=>have:=yU hp.2 i x h;unfold oE at this;rw[this];simp
  |false=>
   rw[a1D,b,if_neg Vl,VR];cases i with
   |zero=>cases h;rw[b];simp|succ i=>
    cases c:p x with
    |false=>simp|true=>have:=hp.1 x (UL h) c;rw[b]at this;cases this
variable{X:Keyed->Prop}{r:Keyed->Int}
noncomputable abbrev lr(r:Keyed->Int)(x y:Keyed):Bool:=decide (r x<r y)
theorem Sr.le{l:List Keyed}(h:Sr r l)(b:Int):l.Pairwise (λx y=>decide (r y<=b)=c4->decide (r x<=b)=c4):=h.imp λ{x y} h1 a=>by rw[decide_eq_true_eq]at a ⊢;omega
theorem Sr.lt{l:List Keyed}(h:Sr r l)(b:Int):l.Pairwise (λx y=>decide (r y<b)=c4->decide (r x<b)=c4):=h.imp λ{x y} h1 a=>by rw[decide_eq_true_eq]at a ⊢;omega
theorem Sr.part{l:List Keyed}(h:Sr r l)(i k:Nat):Sr r ((l.drop i).take k):=(V1 (Xg _ _) (V1 (YJ _ _) h))
theorem yV(hC:fH prog w A₀ κ s X (lr r))(u:kindOf st=κ){a:Keyed}{b n h:Nat}(v:h<n)(z:b+n<=A.length)(p:∀x∈A,X x)(y:X a)(o:Sr r ((A.drop b).take n))
  {Q:Option Nat->Ww->T6->Prop}(q:∀K,K<=n->(∀j x,j<n->A[b+j]?=b6 x->(r x<=r a↔j<K))->Q (b6 K) st s):Xo (Ut prog w) A₀ E (tZ b9 a A.toArray b n h) Q st s:=by
 have e:∀i,i<n->A[b+i]?=b6 (A.getD (b+i) (.none,.none)):=λi c=>by rw[UH,T9 (by omega)];rfl
 have hc:=yU (o.le (r a));have m:=D6 (λx=>decide (r x<=r a)) ((A.drop b).take n);rw[UN,U2]at m;have d:∀j x,j<n->A[b+j]?=b6 x->((A.drop b).take n)[j]?=b6 x:=λj x l h=>by rw[VE l,WN];exact h
 refine D3 hC u v (λi=>A.getD (b+i) (.none,.none)) (λi c=>by rw[Vg];exact e i c) (λi c=>p _ (UL (e i c))) y _ (by omega) (λi c=>?_) (q (oE (λx=>decide (r x<=r a)) ((A.drop b).take n)) (by omega) λj x l h=>?_)
 ·have:=hc i _ (d i _ c (e i c));rw[if_neg Vl,<- this];unfold lr;by_cases h:r a<r (A.getD (b+i) (.none,.none))
  ·rw[decide_eq_true h,decide_eq_false (by omega)];rfl
  ·rw[decide_eq_false h,decide_eq_true (by omega)];rfl
 ·have:=hc j x (d j x l h);rw[<- decide_eq_true_eq (p:=r x<=r a),this,decide_eq_true_eq]
theorem yW(hC:fH prog w A₀ κ s X (lr r))(u:kindOf st=κ){c:Keyed}{b n h:Nat}(v:h<n)(z:b+n<=A.length)(p:∀x∈A,X x)(y:X c)(o:Sr r ((A.drop b).take n))
  {Q:Option Nat->Ww->T6->Prop}(q:∀K,K<=n->(∀j x,j<n->A[b+j]?=b6 x->(r x<r c↔j<K))->Q (b6 K) st s):Xo (Ut prog w) A₀ E (tZ c4 c A.toArray b n h) Q st s:=by
 have e:∀i,i<n->A[b+i]?=b6 (A.getD (b+i) (.none,.none)):=λi a=>by rw[UH,T9 (by omega)];rfl
 have hc:=yU (o.lt (r c));have m:=D6 (λx=>decide (r x<r c)) ((A.drop b).take n);rw[UN,U2]at m;have d:∀j x,j<n->A[b+j]?=b6 x->((A.drop b).take n)[j]?=b6 x:=λj x l h=>by rw[VE l,WN];exact h
 refine D3 hC u v (λi=>A.getD (b+i) (.none,.none)) (λi a=>by rw[Vg];exact e i a) (λi a=>p _ (UL (e i a))) y _ (by omega) (λi a=>?_) (q (oE (λx=>decide (r x<r c)) ((A.drop b).take n)) (by omega) λj x l h=>?_)
 ·have:=hc i _ (d i _ a (e i a));rw[if_pos rfl,<- this]
 ·have:=hc j x (d j x l h);rw[<- decide_eq_true_eq (p:=r x<r c),this,decide_eq_true_eq]
end
end L3
namespace L3
open PySem L2 PySem.W PyProof.Rows
section
variable{prog:Ur}{w:UJ}{A₀:UD}{E:Value->T6->Prop}{κ:XM}{s:T6}{A B:List Keyed}{X:Keyed->Prop}{r:Keyed->Int}
theorem bL{σ j:Type}{M:YX}{d:UD}{e:Value->T6->Prop}{i:T6}{Q:j->σ->T6->Prop}{st:σ}{c:Prop} [Decidable c] {a b:StateT σ a1B j}(l:¬ c->Xo M d e b Q st i)(h1:c->Xo M d e a Q st i):Xo M d e (if c then a else b) Q st i:=by
 by_cases h:c
 ·rw[if_pos h];exact h1 h
 ·rw[if_neg h];exact l h
theorem D7{σ i:Type}{M:YX}{b:UD}{c:Value->T6->Prop}{d:T6}{Q:i->σ->T6->Prop}{st:σ}{a:StateT σ a1B i}(h:∀e,(∀x y z,Q x y z->e x y z)->Xo M b c a e st d):Xo M b c a Q st d:=h Q λ_ _ _ x=>x
theorem jO(out:Array Keyed)(i j:Nat):(out++A.toArray.extract i A.toArray.size++B.toArray.extract j B.toArray.size).toList=out.toList++A.drop i++B.drop j:=by rw[WH,WH,D5,D5]
noncomputable def Go(r:Keyed->Int)(A B:List Keyed)(n:Nat)(out:Array Keyed)(a b:Nat):Prop:=J r A B out.toList a b/\a+1<A.length/\b<B.length/\n<=a+b
theorem N3(hC:fH prog w A₀ κ s X (lr r))(hXA:∀x∈A,X x)(hXB:∀x∈B,X x)(hA:Sr r A)(hB:Sr r B)(hA0:0<A.length)(hB0:0<B.length)(hf:∀y,B[0]?=b6 y->∀x∈A,r y<=r x)(hl:∀x,A[A.length-1]?=b6 x->∀y∈B,r y<=r x)
  {ar:Array Keyed}{pd:Array (Nat×Nat×Nat)}{mg:Nat}{Q:Array Keyed->Ww->T6->Prop}(q:∀R n,Fi r A B R.toList->Q R (UE κ ar pd n b8) s) :
  Xo (Ut prog w) A₀ E (DU A.toArray B.toArray) Q (UE κ ar pd mg b8) s:=by
 have getA:∀i,i<A.length->∃x,A[i]?=b6 x/\X x:=λi hi=>⟨A[i],T9 hi,hXA _ (WM hi)⟩;have H:∀i,i<B.length->∃x,B[i]?=b6 x/\X x:=λi hi=>⟨B[i],T9 hi,hXB _ (WM hi)⟩;have last:∀{O:List Keyed}{l d:Nat},J r A B O l d->l+1=A.length->Fi r A B (O++B.drop d++A.drop l):=λ{O l d} h e=>h.last e.symm λx p=>hl x (by rw[show A.length-1=l by omega];exact p);unfold DU;refine Uk (Zc (XU ?_));obtain⟨y0,N,_⟩:=H 0 hB0;refine Uk (dO N ?_);have j0:J r A B [y0] 0 1:=by
  refine⟨?_,?_,?_⟩
  ·show Sr r (y0::A.drop 0);unfold Sr;rw[Wy,ZC];exact⟨λx p=>hf y0 N x p,hA⟩
  ·show Sr r (y0::B.drop 1);rw[<- qL N,Wy];exact hB
  ·rw[Yt,VZ];cases B with
   |nil=>cases N|cons b B=>cases N;exact Yd _
 refine bL (λL=>bL (λT=>?_) λT=>?_) λL=>?_;rotate_left
 ·have T:A.length=1:=by have T:(0+1==A.toArray.size)=true:=T;rw[Ue,beq_iff_eq]at T;exact T.symm
  refine Uq (q _ _ ?_);rw[jO];exact last j0 (by omega)
 ·have L:B.length=1:=by have L:(1==B.toArray.size)=true:=L;rw[Ue,beq_iff_eq]at L;exact L.symm
  refine Uq (q _ _ ?_);rw[jO];exact j0.endB (by omega)
 have L:¬ B.length=1:=λe=>L (by rw[Ue,e];rfl);have T:¬ A.length=1:=λe=>T (by rw[Ue,e];rfl);refine Uk (X6 ?_);have M:A.toArray.size+B.toArray.size=A.length+B.length:=by rw[Ue,Ue]
 refine Uk (Wb (iD (λi c st=>(∃n,st=UE κ ar pd n b8)/\∃a l d m,c=(b8,a,l,d,m)/\Go r A B (i+1) a l d) (λc st=>(∃n,st=UE κ ar pd n b8)/\∃R:Array Keyed,c.1=b6 R/\Fi r A B R.toList) 0 (A.length+B.length) (λi c st hi hI=>?_) (λc st hI=>?_) (λc st U=>?_) (A.toArray.size+B.toArray.size-0) 0 _ _ (by rw[M];omega) ⟨⟨_,rfl⟩,_,_,_,_,rfl,j0,by omega,by omega,by omega⟩))
 ·obtain⟨⟨mg1,rfl⟩,a,l,d,m,rfl,hG⟩:=hI
    -- one by one
  refine Uk (Wb (iD (λj c st=>st=UE κ ar pd mg1 b8/\∃a l d I K,c=(b8,a,l,d,I,K)/\Go r A B (i+1+j) a l d) (λc st=>st=UE κ ar pd mg1 b8/\((∃R:Array Keyed,c.1=b6 R/\Fi r A B R.toList)\/∃a l d I K,c=(b8,a,l,d,I,K)/\Go r A B (i+2) a l d)) 0 (A.length+B.length) (λj c st hj hJ=>?_) (λc st hJ=>?_) (λc st U=>?_) (A.toArray.size+B.toArray.size-0) 0 _ _ (by rw[M];omega) ⟨rfl,_,_,_,_,_,rfl,hG⟩))
  ·obtain⟨rfl,a,l,d,I,K,rfl,Z,g2,g3,g4⟩:=hJ;obtain⟨x,p,Xx⟩:=getA l (by omega);obtain⟨y,Y,Xy⟩:=H d g3;refine Uk (dO Y (Uk (dO p (Uk (qK hC rfl Xy Xx ?_)))));refine bL (λhc=>?_) λhc=>?_;rotate_left
   ·have hc:r y<r x:=of_decide_eq_true hc;refine Uk (dO Y ?_);have G:=Z.pushB p Y (Y7 hc);rw[<- V8]at G;refine bL (λo=>?_) λo=>?_;rotate_left
    ·have o:d+1=B.length:=by simpa using o
     refine Uq ⟨rfl,rfl,.inl ⟨_,rfl,?_⟩⟩;rw[jO];exact G.endB (by omega)
    ·have o:¬ d+1=B.length:=λe=>o (by rw[Ue,beq_iff_eq];exact e);exact bL (λ_=>Uq ⟨rfl,rfl,_,l,d+1,_,_,rfl,G,g2,by omega,by omega⟩) λ_=>Uq ⟨rfl,rfl,.inr ⟨_,l,d+1,_,_,rfl,G,g2,by omega,by omega⟩⟩
   ·have hc:¬ r y<r x:=λe=>hc (decide_eq_true e);refine Uk (dO p ?_);have G:=Z.pushA p Y (by omega);rw[<- V8]at G;refine bL (λo=>?_) λo=>?_;rotate_left
    ·have o:l+1+1=A.length:=by simpa using o
     refine Uq ⟨rfl,rfl,.inl ⟨_,rfl,?_⟩⟩;rw[jO];exact last G o
    ·have o:¬ l+1+1=A.length:=λe=>o (by rw[Ue,beq_iff_eq];exact e);exact bL (λ_=>Uq ⟨rfl,rfl,_,l+1,d,_,_,rfl,G,by omega,g3,by omega⟩) λ_=>Uq ⟨rfl,rfl,.inr ⟨_,l+1,d,_,_,rfl,G,by omega,g3,by omega⟩⟩
  ·obtain⟨rfl,a,l,d,I,K,rfl,Z,g2,g3,g4⟩:=hJ;exact⟨rfl,.inr ⟨_,_,_,_,_,rfl,Z,g2,g3,by omega⟩⟩
  ·obtain⟨rfl,U⟩:=U;rcases U with⟨R,e,hR⟩|⟨a,l,d,I,K,rfl,hG⟩
   ·obtain⟨c0,c1⟩:=c;cases e;exact Uq ⟨rfl,⟨_,rfl⟩,R,rfl,hR⟩
   refine Uk (Zc (XU ?_))
      -- by leaps
   refine Uk (Wb (iD (λj c st=>(∃n,st=UE κ ar pd n b8)/\∃a l d m I K,c=(b8,a,l,d,m,I,K)/\Go r A B (i+2) a l d) (λc st=>(∃n,st=UE κ ar pd n b8)/\((∃R:Array Keyed,c.1=b6 R/\Fi r A B R.toList)\/∃a l d m I K,c=(b8,a,l,d,m,I,K)/\Go r A B (i+2) a l d)) 0 (A.length+B.length) (λj c st hj hJ=>?_) (λc st hJ=>?_) (λc st U=>?_) (A.toArray.size+B.toArray.size-0) 0 _ _ (by rw[M];omega) ⟨⟨_,rfl⟩,_,_,_,_,_,_,rfl,hG⟩))
   ·obtain⟨⟨mg2,rfl⟩,a,l,d,m,I,K,rfl,Z,g2,g3,g4⟩:=hJ;refine D7 λQ' hQ=>?_;obtain⟨y,Y,Xy⟩:=H d g3;extract_lets z1 o1 z2 a1 z3 b1 z4 m1 z5 ac1 bc1 jb1 jp mm;have hj:∀m' n,Xo (Ut prog w) A₀ E (jp () m') Q' (UE κ ar pd n b8) s:=by
     intro m' n;clear_value m1 ac1;dsimp -zeta -zetaHave only[jp];refine Uk (W2 ?_);refine Uk (dO Y ?_);refine Uk (yV hC rfl (b:=l) (n:=A.toArray.size-l) (h:=0) (by rw[Ue];omega) (by rw[Ue];omega) hXA Xy (hA.part _ _) λk hk1 hk2=>?_);rw[Ue]at hk1;have G:=Z.gallA (k:=k) Y λj x hj p=>(hk2 j x (by rw[Ue];omega) p).mpr hj;have nx:∀x,A[l+k]?=b6 x->r y<r x:=λx p=>by have L:=(T8.mp p).1;have:=hk2 k x (by rw[Ue];omega) p;omega
     have e1:(a++A.toArray.extract l (l+k)).toList=a.toList++(A.drop l).take k:=by rw[WH,yT]
     rw[<- e1]at G;dsimp -zeta -zetaHave only;extract_lets ac2 jp2 o2 a2;have hj2:∀v u,l<=u->J r A B v.toList u d->u+1<A.length->(∀x,A[u]?=b6 x->r y<r x)->Xo (Ut prog w) A₀ E (jp2 () v u) Q' (UE κ ar pd m' b8) s:=by
      intro v u t0 t1 t2 t3;obtain⟨x,p,Xx⟩:=getA u (by omega);have t5:=t1.pushB p Y (Y7 (t3 x p));rw[<- V8]at t5;clear_value ac2;dsimp -zeta -zetaHave only[jp2];refine Uk (dO Y ?_);extract_lets o3 a3;have hjb:jb1=d+1:=rfl;refine bL (λo=>?_) λo=>?_;rotate_left
      ·rw[Ue,beq_iff_eq]at o;refine Uq (hQ _ _ _ ⟨rfl,⟨_,rfl⟩,.inl ⟨_,rfl,?_⟩⟩);rw[jO];exact t5.endB (by omega)
      rw[Ue,beq_iff_eq]at o;refine Uk (dO p ?_);refine Uk (yW hC rfl (b:=d+1) (n:=B.toArray.size-(d+1)) (h:=0) (by rw[Ue];omega) (by rw[Ue];omega) hXB Xx (hB.part _ _) λk' hm1 hm2=>?_);rw[Ue]at hm1;have u5:=t5.gallB (k:=k') p λj z hj hz=>Y7 ((hm2 j z (by rw[Ue];omega) hz).mpr hj);have nz:∀z,B[d+1+k']?=b6 z->r x<=r z:=λz hz=>by have L:=(T8.mp hz).1;have:=hm2 k' z (by rw[Ue];omega) hz;omega
      have e2:(v.push y++B.toArray.extract (d+1) (d+1+k')).toList=(v.push y).toList++(B.drop (d+1)).take k':=by rw[WH,yT]
      rw[<- e2]at u5;dsimp -zeta -zetaHave only;extract_lets bc2 jp3 o4 b4;have hj3:∀ou jb,J r A B ou.toList u jb->jb<B.length->(∀z,B[jb]?=b6 z->r x<=r z)->d<jb->Xo (Ut prog w) A₀ E (jp3 () ou jb) Q' (UE κ ar pd m' b8) s:=by
       intro ou jb v1 v2 v3 v4;obtain⟨z,hz,Xz⟩:=H jb v2;have v5:=v1.pushA p hz (v3 z hz);rw[<- V8]at v5;clear_value bc2;dsimp -zeta -zetaHave only[jp3];refine Uk (dO p ?_);extract_lets o5;have ha3:a3=u+1:=rfl;refine bL (λhf=>?_) λhf=>?_
       ·rw[Ue,beq_iff_eq]at hf;exact bL (λ_=>Uq (hQ _ _ _ ⟨rfl,⟨_,rfl⟩,_,_,_,_,_,_,rfl,v5,by omega,v2,by omega⟩)) λ_=>Uq (hQ _ _ _ ⟨rfl,⟨_,rfl⟩,.inr ⟨_,_,_,_,_,_,rfl,v5,by omega,v2,by omega⟩⟩)
       ·rw[Ue,beq_iff_eq]at hf;refine Uq (hQ _ _ _ ⟨rfl,⟨_,rfl⟩,.inl ⟨_,rfl,?_⟩⟩);rw[jO];exact last v5 hf
      clear_value jp3;refine bL (λhk0=>hj3 _ _ t5 (by omega) (by rw[show k'=0 by omega]at nz;exact nz) (by omega)) λhk0=>bL (λhb=>?_) λhb=>?_
      ·rw[Ue,beq_iff_eq]at hb;have hb4:b4=d+1+k':=rfl;exact hj3 _ _ u5 (by omega) nz (by omega)
      ·rw[Ue,beq_iff_eq]at hb;have hb4:b4=d+1+k':=rfl;refine Uq (hQ _ _ _ ⟨rfl,⟨_,rfl⟩,.inl ⟨_,rfl,?_⟩⟩);rw[jO];exact u5.endB (by omega)
     clear_value jp2;refine bL (λhk0=>hj2 _ _ (Up _) Z g2 (by rw[show k=0 by omega]at nx;exact nx)) λhk0=>bL (λo=>bL (λhe2=>?_) λhe2=>?_) λo=>?_
     ·rw[Ue,beq_iff_eq]at o he2;have ha2:a2=l+k:=rfl;exact hj2 _ _ (by omega) G (by omega) nx
     ·rw[Ue,beq_iff_eq]at he2;have ha2:a2=l+k:=rfl;refine Uq (hQ _ _ _ ⟨rfl,⟨_,rfl⟩,.inl ⟨_,rfl,?_⟩⟩);rw[jO];exact G.endA (by omega)
     ·rw[Ue,beq_iff_eq]at o;refine Uq (hQ _ _ _ ⟨rfl,⟨_,rfl⟩,.inl ⟨_,rfl,?_⟩⟩);rw[jO];exact last G o
    clear_value jp;exact bL (λ_=>hj _ _) λ_=>hj _ _
   ·obtain⟨L,T⟩:=hJ;exact⟨L,.inr T⟩
   ·obtain⟨⟨mg2,rfl⟩,U⟩:=U;rcases U with⟨R,e,hR⟩|⟨a,l,d,m,I,K,rfl,hG⟩
    ·obtain⟨c0,c1⟩:=c;cases e;exact Uq ⟨rfl,⟨_,rfl⟩,R,rfl,hR⟩
    exact Uk (W2 (Uq ⟨rfl,⟨_,rfl⟩,_,_,_,_,rfl,hG⟩))
 ·obtain⟨_,a,l,d,m,rfl,Z,g2,g3,g4⟩:=hI;omega
 ·obtain⟨⟨mg1,rfl⟩,R,e,hR⟩:=U;obtain⟨c0,c1⟩:=c;dsimp only at e ⊢;subst e;exact Uq (q R _ hR)
end
end L3
namespace L3
open PySem L2 PySem.W PyProof.Rows
section
variable{r:Keyed->Int}{A B O:List Keyed}{na nb:Nat}
noncomputable def JH(r:Keyed->Int)(A B O:List Keyed)(na nb:Nat):Prop:=na<=A.length/\nb<=B.length/\J (λx=>-r x) B.reverse A.reverse O (B.length-nb) (A.length-na)
theorem oF{l:List Keyed}{n:Nat}{x:Keyed}(h:l[n-1]?=b6 x)(h1:1<=n)(a:n<=l.length):l.reverse[l.length-n]?=b6 x:=by rw[VT (by omega),<- h];congr 1;omega
theorem JH.pushA(h:JH r A B O na nb){x y:Keyed}(e:A[na-1]?=b6 x)(i:B[nb-1]?=b6 y)(h1:1<=na)(d:1<=nb)(j:r y<=r x):JH r A B (O++[x]) (na-1) nb:=by obtain⟨b,a,c⟩:=h;refine⟨by omega,a,?_⟩;have:=c.pushB (oF i d a) (oF e h1 b) (by omega);rw[show A.length-(na-1)=A.length-na+1 by omega];exact this
theorem JH.pushB(h:JH r A B O na nb){x y:Keyed}(e:A[na-1]?=b6 x)(i:B[nb-1]?=b6 y)(h1:1<=na)(d:1<=nb)(j:r x<=r y):JH r A B (O++[y]) na (nb-1):=by obtain⟨a,b,c⟩:=h;refine⟨a,by omega,?_⟩;have:=c.pushA (oF i d b) (oF e h1 a) (by omega);rw[show B.length-(nb-1)=B.length-nb+1 by omega];exact this
theorem D8{l:List Keyed}{n t:Nat}(h1:t<=n)(b:n<=l.length):(l.reverse.drop (l.length-n)).take (n-t)=((l.drop t).take (n-t)).reverse:=by
 apply XQ;intro i;have a:((l.drop t).take (n-t)).length=n-t:=by rw[UN,U2];omega
 by_cases h:i<n-t
 ·rw[VE h,WN,VT (by omega),VT (by omega),a,VE (by omega),WN];congr 1;omega
 ·rw[VU (by rw[UN,U2,Wu];omega),VU (by rw[Wu,a];omega)]
theorem JH.gallA(h:JH r A B O na nb){t:Nat}{y:Keyed}(m:B[nb-1]?=b6 y)(e:1<=nb)(l:t<=na)(i:∀j x,t<=j->j<na->A[j]?=b6 x->r y<=r x):JH r A B (O++((A.drop t).take (na-t)).reverse) t nb:=by
 obtain⟨c,b,d⟩:=h;refine⟨by omega,b,?_⟩;have:=d.gallB (k:=na-t) (oF m e b) λj z o n=>by
  have a:A[A.length-1-(A.length-na+j)]?=b6 z:=by rw[<- n,VT (by omega)]
  have:=i _ z (by omega) (by omega) a;omega
 rw[D8 l c]at this;rw[show A.length-t=A.length-na+(na-t) by omega];exact this
theorem JH.gallB(h:JH r A B O na nb){t:Nat}{x:Keyed}(l:A[na-1]?=b6 x)(h1:1<=na)(i:t<=nb)(e:∀j y,t<=j->j<nb->B[j]?=b6 y->r x<=r y):JH r A B (O++((B.drop t).take (nb-t)).reverse) na t:=by
 obtain⟨b,c,d⟩:=h;refine⟨b,by omega,?_⟩;have:=d.gallA (k:=nb-t) (oF l h1 b) λj z n m=>by
  have a:B[B.length-1-(B.length-nb+j)]?=b6 z:=by rw[<- m,VT (by omega)]
  have:=e _ z (by omega) (by omega) a;omega
 rw[D8 i c]at this;rw[show B.length-t=B.length-nb+(nb-t) by omega];exact this
theorem oG{l:List Keyed}{n:Nat}:l.reverse.drop (l.length-n)=(l.take n).reverse:=by rw[List.reverse_take]
theorem Fi.rev{R:List Keyed}(h:Fi (λx=>-r x) B.reverse A.reverse R):Fi r A B R.reverse:=by refine⟨(YH R).trans (h.1.trans ((List.Perm.append (YH B) (YH A)).trans WR)),?_⟩;unfold Sr;rw[Za];exact h.2.imp λ{x y} h=>by dsimp only at h;omega
theorem JH.endA(h:JH r A B O na nb)(d:na=0):Fi r A B (A.take na++B.take nb++O.reverse):=by obtain⟨b,c,a⟩:=h;have:=(a.endB (by rw[Wu];omega)).rev;rw[oG,oG]at this;simpa using this
theorem JH.endB(h:JH r A B O na nb)(d:nb=0):Fi r A B (A.take na++B.take nb++O.reverse):=by obtain⟨b,c,a⟩:=h;have:=(a.endA (by rw[Wu];omega)).rev;rw[oG,oG]at this;simpa using this
theorem JH.last(h:JH r A B O na nb)(l:nb=1)(c:∀y,B[0]?=b6 y->∀x∈A,r y<=r x):Fi r A B (B.take nb++A.take na++O.reverse):=by
 obtain⟨i,j,b⟩:=h;have:=(b.last (by rw[Wu];omega) λy e x d=>by
  have a:B[0]?=b6 y:=by rw[<- e,VT (by omega)];congr 1;omega
  have:=c y a x (a2u.mp d);omega).rev
 rw[oG,oG]at this;simpa using this
variable{prog:Ur}{w:UJ}{A₀:UD}{E:Value->T6->Prop}{κ:XM}{s:T6}{X:Keyed->Prop}
theorem jP(out:Array Keyed)(i j:Nat):(A.toArray.extract 0 i++B.toArray.extract 0 j++out.reverse).toList=A.take i++B.take j++out.toList.reverse:=by rw[WH,WH,qM,qM,a1p,Wy,Wy,ZV,ZV]
theorem D9(out:Array Keyed)(A:List Keyed)(t n:Nat):(out++(A.toArray.extract t n).reverse).toList=out.toList++((A.drop t).take (n-t)).reverse:=by rw[WH,a1p,qM]
noncomputable def qN(r:Keyed->Int)(A B:List Keyed)(n:Nat)(out:Array Keyed)(na nb:Nat):Prop:=JH r A B out.toList na nb/\1<=na/\2<=nb/\n+na+nb<=A.length+B.length
theorem N4(hC:fH prog w A₀ κ s X (lr r))(hXA:∀x∈A,X x)(hXB:∀x∈B,X x)(hA:Sr r A)(hB:Sr r B)(hA0:0<A.length)(hB0:0<B.length)(hf:∀y,B[0]?=b6 y->∀x∈A,r y<=r x)(hl:∀x,A[A.length-1]?=b6 x->∀y∈B,r y<=r x)
  {ar:Array Keyed}{pd:Array (Nat×Nat×Nat)}{mg:Nat}{Q:Array Keyed->Ww->T6->Prop}(q:∀R b,Fi r A B R.toList->Q R (UE κ ar pd b b8) s) :
  Xo (Ut prog w) A₀ E (DV A.toArray B.toArray) Q (UE κ ar pd mg b8) s:=by
 have G:∀i,i<A.length->∃x,A[i]?=b6 x/\X x:=λi hi=>⟨A[i],T9 hi,hXA _ (WM hi)⟩;have H:∀i,i<B.length->∃x,B[i]?=b6 x/\X x:=λi hi=>⟨B[i],T9 hi,hXB _ (WM hi)⟩;unfold DV;refine Uk (Zc (XU ?_));obtain⟨x0,hx0,_⟩:=G (A.length-1) (by omega);refine Uk (dO (by rw[Ue];exact hx0) ?_);have j0:JH r A B [x0] (A.length-1) B.length:=by
  refine⟨by omega,Up _,?_⟩;have e:A.reverse=x0::A.reverse.drop 1:=by have:=qL (l:=A.reverse) (i:=0) (x:=x0) (by rw[VT (by omega)];exact hx0);rwa [Wy]at this
  rw[XX,show A.length-(A.length-1)=1 by omega];refine⟨?_,?_,?_⟩
  ·unfold Sr;rw[Wy];show(x0::B.reverse).Pairwise _;rw[ZC];refine⟨λy I=>?_,?_⟩
   ·have:=hl x0 hx0 y (a2u.mp I);dsimp only;omega
   ·rw[Za];exact hB.imp λ{x y} h=>by dsimp only;omega
  ·show Sr _ (x0::A.reverse.drop 1);rw[<- e];unfold Sr;rw[Za];exact hA.imp λ{x y} h=>by dsimp only;omega
  ·rw[Yt,VZ,e];exact Yd _
 try dsimp -zeta -zetaHave only
 rw[Ue,Ue];refine bL (λK=>bL (λL=>?_) λL=>?_) λK=>?_;rotate_left
 ·rw[beq_iff_eq]at L;refine Uq (q _ _ ?_);rw[jP];exact j0.last L hf
 ·rw[beq_iff_eq]at K;refine Uq (q _ _ ?_);rw[jP];exact j0.endA K
 rw[beq_iff_eq]at K L;refine Uk (X6 ?_);refine Uk (Wb (iD (λi c st=>(∃b,st=UE κ ar pd b b8)/\∃na nb a m,c=(b8,na,nb,a,m)/\qN r A B (i+1) a na nb) (λc st=>(∃b,st=UE κ ar pd b b8)/\∃R:Array Keyed,c.1=b6 R/\Fi r A B R.toList) 0 (A.length+B.length) (λi c st hi hI=>?_) (λc st hI=>?_) (λc st N=>?_) (A.length+B.length-0) 0 _ _ (by omega) ⟨⟨_,rfl⟩,_,_,_,_,rfl,j0,by omega,by omega,by omega⟩))
 ·obtain⟨⟨mg1,rfl⟩,na,nb,a,m,rfl,hG⟩:=hI;try dsimp -zeta -zetaHave only
  refine Uk (Wb (iD (λj c st=>st=UE κ ar pd mg1 b8/\∃na nb a o p,c=(b8,na,nb,a,o,p)/\qN r A B (i+1+j) a na nb) (λc st=>st=UE κ ar pd mg1 b8/\((∃R:Array Keyed,c.1=b6 R/\Fi r A B R.toList)\/∃na nb a o p,c=(b8,na,nb,a,o,p)/\qN r A B (i+2) a na nb)) 0 (A.length+B.length) (λj c st hj hJ=>?_) (λc st hJ=>?_) (λc st N=>?_) (A.length+B.length-0) 0 _ _ (by omega) ⟨rfl,_,_,_,_,_,rfl,hG⟩))
  ·obtain⟨rfl,na,nb,a,o,p,rfl,v,g2,g3,g4⟩:=hJ;try dsimp -zeta -zetaHave only
   have l1:=v.1;have l2:=v.2.1;obtain⟨x,d,Xx⟩:=G (na-1) (by omega);obtain⟨y,I,Xy⟩:=H (nb-1) (by omega);refine Uk (dO I (Uk (dO d (Uk (qK hC rfl Xy Xx ?_)))));try dsimp -zeta -zetaHave only
   refine bL (λhc=>?_) λhc=>?_
   ·unfold lr at hc;rw[decide_eq_true_eq]at hc;have n:=v.pushB d I (by omega) (by omega) (by omega);rw[<- V8]at n;refine Uk (dO I ?_);refine bL (λl=>?_) λl=>?_
    ·rw[beq_iff_eq]at l;exact bL (λ_=>Uq ⟨rfl,rfl,_,_,_,_,_,rfl,n,by omega,by omega,by omega⟩) λ_=>Uq ⟨rfl,rfl,.inr ⟨_,_,_,_,_,rfl,n,by omega,by omega,by omega⟩⟩
    ·rw[beq_iff_eq]at l;refine Uq ⟨rfl,rfl,.inl ⟨_,rfl,?_⟩⟩;rw[jP];exact n.last l hf
   ·unfold lr at hc;rw[decide_eq_true_eq]at hc;have n:=v.pushA d I (by omega) (by omega) (by omega);rw[<- V8]at n;refine Uk (dO d ?_);refine bL (λl=>?_) λl=>?_
    ·rw[beq_iff_eq]at l;exact bL (λ_=>Uq ⟨rfl,rfl,_,_,_,_,_,rfl,n,by omega,by omega,by omega⟩) λ_=>Uq ⟨rfl,rfl,.inr ⟨_,_,_,_,_,rfl,n,by omega,by omega,by omega⟩⟩
    ·rw[beq_iff_eq]at l;refine Uq ⟨rfl,rfl,.inl ⟨_,rfl,?_⟩⟩;rw[jP];exact n.endA l
  ·obtain⟨rfl,na,nb,a,o,p,rfl,v,g2,g3,g4⟩:=hJ;exact⟨rfl,.inr ⟨_,_,_,_,_,rfl,v,g2,g3,by omega⟩⟩
  ·obtain⟨rfl,N⟩:=N;rcases N with⟨R,e,hR⟩|⟨na,nb,a,o,p,rfl,hG⟩
   ·obtain⟨c0,c1⟩:=c;cases e;exact Uq ⟨rfl,⟨_,rfl⟩,R,rfl,hR⟩
   refine Uk (Zc (XU ?_));refine Uk (Wb (iD (λj c st=>(∃b,st=UE κ ar pd b b8)/\∃na nb a m o p,c=(b8,na,nb,a,m,o,p)/\qN r A B (i+2) a na nb) (λc st=>(∃b,st=UE κ ar pd b b8)/\((∃R:Array Keyed,c.1=b6 R/\Fi r A B R.toList)\/∃na nb a m o p,c=(b8,na,nb,a,m,o,p)/\qN r A B (i+2) a na nb)) 0 (A.length+B.length) (λj c st hj hJ=>?_) (λc st hJ=>?_) (λc st N=>?_) (A.length+B.length-0) 0 _ _ (by omega) ⟨⟨_,rfl⟩,_,_,_,_,_,_,rfl,hG⟩))
   ·obtain⟨⟨mg2,rfl⟩,na,nb,a,m,o,p,rfl,v,g2,g3,g4⟩:=hJ;have l1:=v.1;have l2:=v.2.1;refine D7 λQ' hQ=>?_;obtain⟨y,I,Xy⟩:=H (nb-1) (by omega);extract_lets z1 o1 z2 a1 z3 b1 z4 m1 z5 ac1 bc1 jb1 jp mm;have hj:∀m' b,Xo (Ut prog w) A₀ E (jp () m') Q' (UE κ ar pd b b8) s:=by
     intro m' b;clear_value m1 ac1;dsimp -zeta -zetaHave only[jp];refine Uk (W2 ?_);refine Uk (dO I ?_);refine Uk (yV hC rfl (b:=0) (n:=na) (h:=na-1) (by omega) (by omega) hXA Xy (hA.part _ _) λt ht1 ht2=>?_);have n:=v.gallA (t:=t) I (by omega) ht1 λj x K L d=>by have:=ht2 j x L (by rw[WZ];exact d);omega
     have nx:∀x,1<=t->A[t-1]?=b6 x->r x<=r y:=λx K d=>(ht2 (t-1) x (by omega) (by rw[WZ];exact d)).mpr (by omega);rw[<- D9]at n;dsimp -zeta -zetaHave only;extract_lets k2 ac2 jp2 o2 Z;have hjb:jb1=nb-1:=rfl;have hk2:k2=na-t:=rfl;have hj2:∀Y ou,Y<=na->JH r A B ou.toList Y nb->1<=Y->(∀x,A[Y-1]?=b6 x->r x<=r y)->Xo (Ut prog w) A₀ E (jp2 () Y ou) Q' (UE κ ar pd m' b8) s:=by
      intro Y ou t0 t1 t2 t3;obtain⟨x,d,Xx⟩:=G (Y-1) (by omega);have t5:=t1.pushB d I t2 (by omega) (t3 x d);rw[<- V8]at t5;clear_value ac2 k2;dsimp -zeta -zetaHave only[jp2];refine Uk (dO I ?_);extract_lets o3 a3;refine bL (λhq=>?_) λhq=>?_;rotate_left
      ·rw[beq_iff_eq]at hq;refine Uq (hQ _ _ _ ⟨rfl,⟨_,rfl⟩,.inl ⟨_,rfl,?_⟩⟩);rw[jP];exact t5.last hq hf
      rw[beq_iff_eq]at hq;refine Uk (dO d ?_);refine Uk (yW hC rfl (b:=0) (n:=nb-1) (h:=nb-1-1) (by omega) (by omega) hXB Xx (hB.part _ _) λu iA hu2=>?_);have u5:=t5.gallB (t:=u) d t2 iA λj z K L M=>by have:=hu2 j z L (by rw[WZ];exact M);omega
      have nz:∀z,1<=u->B[u-1]?=b6 z->r z<=r x:=λz K M=>Y7 ((hu2 (u-1) z (by omega) (by rw[WZ];exact M)).mpr (by omega));rw[<- D9]at u5;dsimp -zeta -zetaHave only;extract_lets k3 bc2 jp3 o4 b4;have hk3:k3=nb-1-u:=rfl;have hj3:∀Z oz,Z<nb->JH r A B oz.toList Y Z->2<=Z->(∀z,B[Z-1]?=b6 z->r z<=r x)->Xo (Ut prog w) A₀ E (jp3 () Z oz) Q' (UE κ ar pd m' b8) s:=by
       intro Z oz v0 v1 v2 v3;have l3:=v1.2.1;obtain⟨z,M,Xz⟩:=H (Z-1) (by omega);have v5:=v1.pushA d M t2 (by omega) (v3 z M);rw[<- V8]at v5;clear_value bc2 k3;dsimp -zeta -zetaHave only[jp3];have ha3:a3=Y-1:=rfl;refine Uk (dO d ?_);extract_lets o5;refine bL (λhw=>?_) λhw=>?_
       ·rw[beq_iff_eq]at hw;exact bL (λ_=>Uq (hQ _ _ _ ⟨rfl,⟨_,rfl⟩,_,_,_,_,_,_,rfl,v5,by omega,v2,by omega⟩)) λ_=>Uq (hQ _ _ _ ⟨rfl,⟨_,rfl⟩,.inr ⟨_,_,_,_,_,_,rfl,v5,by omega,v2,by omega⟩⟩)
       ·rw[beq_iff_eq]at hw;refine Uq (hQ _ _ _ ⟨rfl,⟨_,rfl⟩,.inl ⟨_,rfl,?_⟩⟩);rw[jP];exact v5.endA hw
      clear_value jp3;refine bL (λhk1=>hj3 _ _ (by omega) t5 (by omega) λz M=>?_) λhk1=>bL (λT=>bL (λU=>?_) λU=>?_) λT=>?_
      ·have e:u=nb-1:=by omega
       rw[e]at nz;exact nz z (by omega) M
      ·rw[beq_iff_eq]at T U;have hb4:b4=u:=rfl;exact hj3 _ _ (by omega) u5 (by omega) λz M=>nz z (by omega) M
      ·rw[beq_iff_eq]at U;refine Uq (hQ _ _ _ ⟨rfl,⟨_,rfl⟩,.inl ⟨_,rfl,?_⟩⟩);rw[jP];exact u5.endB U
      ·rw[beq_iff_eq]at T;refine Uq (hQ _ _ _ ⟨rfl,⟨_,rfl⟩,.inl ⟨_,rfl,?_⟩⟩);rw[jP];exact u5.last T hf
     clear_value jp2;refine bL (λhk0=>hj2 _ _ (Up _) v g2 λx d=>?_) λhk0=>bL (λl=>?_) λl=>?_
     ·have e:t=na:=by omega
      rw[e]at nx;exact nx x g2 d
     ·rw[beq_iff_eq]at l;have hn2:Z=t:=rfl;exact hj2 _ _ ht1 n (by omega) λx d=>nx x (by omega) d
     ·rw[beq_iff_eq]at l;refine Uq (hQ _ _ _ ⟨rfl,⟨_,rfl⟩,.inl ⟨_,rfl,?_⟩⟩);rw[jP];exact n.endA l
    clear_value jp;exact bL (λ_=>hj _ _) λ_=>hj _ _
   ·obtain⟨K,L⟩:=hJ;exact⟨K,.inr L⟩
   ·obtain⟨⟨mg2,rfl⟩,N⟩:=N;rcases N with⟨R,e,hR⟩|⟨na,nb,a,m,o,p,rfl,hG⟩
    ·obtain⟨c0,c1⟩:=c;cases e;exact Uq ⟨rfl,⟨_,rfl⟩,R,rfl,hR⟩
    exact Uk (W2 (Uq ⟨rfl,⟨_,rfl⟩,_,_,_,_,rfl,hG⟩))
 ·obtain⟨_,na,nb,a,m,rfl,v,g2,g3,g4⟩:=hI;omega
 ·obtain⟨⟨mg1,rfl⟩,R,e,hR⟩:=N;obtain⟨c0,c1⟩:=c;dsimp only at e ⊢;subst e;exact Uq (q R _ hR)
end
end L3
namespace L3
open PySem L2 PySem.W PyProof.Rows
section
variable{prog:Ur}{w:UJ}{A₀:UD}{E:Value->T6->Prop}{κ:XM}{s:T6}{X:Keyed->Prop}{r:Keyed->Int}{P S c1 c2:List Keyed}
theorem Ea{i:Nat}(h:i<c1.length):(P++c1++c2++S)[P.length+i]?=c1[i]?:=by rw[Uy,Uy,Uz (by omega),Ul (by omega)];congr 1;omega
theorem Eb{i:Nat}(h:i<c2.length):(P++c1++c2++S)[P.length+c1.length+i]?=c2[i]?:=by rw[Uy,Uz (by rw[Uj];omega),Ul (by rw[Uj];omega)];congr 1;rw[Uj];omega
theorem N5:((P++c1++c2++S).drop P.length).take c1.length=c1:=by rw[Uy,Uy,a0q,a0o]
theorem N6:((P++c1++c2++S).drop (P.length+c1.length)).take c2.length=c2:=by rw[Uy,a2P (by rw[Uj]),a0o]
theorem N7{k:Nat}(a:k<=c1.length):(P++c1++c2++S).toArray.extract (P.length+k) (P.length+c1.length)=(c1.drop k).toArray:=by apply VS.mp;rw[qM,<- Zj,Uy,Uy,a0q,Z8 a,VL,List.take_left' (by rw[U2];omega)]
theorem N8{k:Nat}(a:k<=c2.length):(P++c1++c2++S).toArray.extract (P.length+c1.length) (P.length+c1.length+k)=(c2.take k).toArray:=by apply VS.mp;rw[yT,Uy,a2P (by rw[Uj]),VL,Z7 a]
theorem N9{k l:Nat}{R:List Keyed}(e:k<=c1.length)(h:l<=c2.length)(d:R.length=c1.length-k+l):(R.zipIdx.foldl (λ(a:Array Keyed)(x:Keyed×Nat)=>a.setIfInBounds (P.length+k+x.2) x.1) (P++c1++c2++S).toArray)=(P++(c1.take k++R++c2.drop l)++S).toArray:=by
 apply VS.mp;have:=DW R (P++c1++c2++S).toArray (P.length+k) 0 (by simp;omega);rw[this,VL,VL,a3F,d];have b:(P++c1++c2++S).take (P.length+k)=P++c1.take k:=by rw[Uy,Uy,List.take_append,Wo (by omega),WD,Z7 e]
 have c:(P++c1++c2++S).drop (P.length+k+(c1.length-k+l))=c2.drop l++S:=by rw[show P.length+k+(c1.length-k+l)=(P++c1).length+l by rw[Uj];omega,Uy,<- Zj,a0q,Z8 h]
 rw[b,c];simp
theorem Sr.both{U R V:List Keyed}(e:Sr r R)(h:Sr r U)(i:Sr r V)(h1:∀x∈U,∀y∈R,r x<=r y)(c:∀x∈R,∀y∈V,r x<=r y)(d:∀x∈U,∀y∈V,r x<=r y):Sr r (U++R++V):=by
 unfold Sr at *;rw[Uy,VY];refine⟨h,?_,λx b y a=>?_⟩
 ·rw[VY];exact⟨e,i,c⟩
 ·rcases Vk.mp a with a|a
  ·exact h1 x b y a
  ·exact d x b y a
theorem Sr.at{l:List Keyed}(h:Sr r l){i j:Nat}{x y:Keyed}(c:i<=j)(d:l[i]?=b6 x)(m:l[j]?=b6 y):r x<=r y:=by
 obtain⟨a,rfl⟩:=T8.mp d;obtain⟨b,rfl⟩:=T8.mp m;by_cases e:i=j
 ·subst e;exact a0b _
 ·exact U7.mp h i j a b (by omega)
theorem oH{l:List Keyed}{k:Nat}{x:Keyed}(h:x∈l.take k):∃j,j<k/\l[j]?=b6 x:=by have:=D4 (l:=l) (i:=0) (k:=k) (x:=x) (by rw[Wy];exact h);obtain⟨j,b,a⟩:=this;exact⟨j,b,by rw[WZ]at a;exact a⟩
theorem oJ{l:List Keyed}{k:Nat}{x:Keyed}(h:x∈l.drop k):∃j,k<=j/\l[j]?=b6 x:=by obtain⟨j,a,e⟩:=Yn h;exact⟨k+j,by omega,by rw[<- e,a2i,T9]⟩
theorem Oa(hC:fH prog w A₀ κ s X (lr r))(hX:∀x∈P++c1++c2++S,X x)(h1:Sr r c1)(B:Sr r c2)(l1:0<c1.length)(l2:0<c2.length){pd:Array (Nat×Nat×Nat)}{mg i w1 w2:Nat}(p1:pd[i]?=b6 (P.length,c1.length,w1))(p2:pd[i+1]?=b6 (P.length+c1.length,c2.length,w2))
  {Q:Bool->Ww->T6->Prop}(q:∀c n,Sr r c->c.Perm (c1++c2)->Q c4 (UE κ (P++c++S).toArray ((pd.setIfInBounds i (P.length,c1.length+c2.length,w1)).eraseIdxIfInBounds (i+1)) n b8) s) :
  Xo (Ut prog w) A₀ E (a2E i) Q (UE κ (P++c1++c2++S).toArray pd mg b8) s:=by
 unfold a2E;refine Uk (X6 ?_);dsimp only;simp only[p1,p2];refine Uk (NV ?_);have gA:∀j,j<c1.length->c1[j]?=b6 (c1.getD j (.none,.none)):=λj d=>by rw[UH,T9 d];rfl
 have gB:∀j,j<c2.length->c2[j]?=b6 (c2.getD j (.none,.none)):=λj d=>by rw[UH,T9 d];rfl
 have H:∀x∈c1,X x:=λx b=>hX x (by simp[b]);have I:∀x∈c2,X x:=λx b=>hX x (by simp[b]);have hlen:(P++c1++c2++S).length=P.length+c1.length+c2.length+S.length:=by simp;omega
 have L:=gB 0 l2;refine Uk (dO (x:=c2.getD 0 (.none,.none)) (by rw[<- L];exact Eb l2) ?_);refine Uk (yV hC rfl (b:=P.length) (n:=c1.length) (h:=0) l1 (by omega) hX (I _ (UL L)) (by rw[N5];exact h1) λk O hk2=>?_);have u:∀j x,c1[j]?=b6 x->(r x<=r (c2.getD 0 (.none,.none))↔j<k):=λj x b=>by have d:=(T8.mp b).1;exact hk2 j x d (by rw[Ea d];exact b)
 generalize c2.getD 0 (.none,.none)=y0 at *;dsimp only;have e0:(P++c1++c2++S)=P++(c1++c2)++S:=by simp
  -- all as it is
 have G:(∀x∈c1,∀y∈c2,r x<=r y)->Q c4 (UE κ (P++c1++c2++S).toArray ((pd.setIfInBounds i (P.length,c1.length+c2.length,w1)).eraseIdxIfInBounds (i+1)) mg b8) s:=λh=>by rw[e0];exact q _ _ (by unfold Sr at *;rw[VY];exact⟨h1,B,h⟩) (Yd _)
 refine bL (λhe=>?_) λhe=>?_;rotate_left
 ·rw[beq_iff_eq]at he;refine Uq (G λx b y m=>?_);obtain⟨j,d⟩:=Xl b;obtain⟨p,o⟩:=Xl m;have a1:=(u j x d).mpr (by have:=(T8.mp d).1;omega);have a2:=B.at (WA p) L o;omega
 rw[beq_iff_eq]at he;have Z:=gA (c1.length-1) (by omega);generalize c1.getD (c1.length-1) (.none,.none)=x1 at *;refine Uk (dO (x:=x1) (by rw[show P.length+k+(c1.length-k)-1=P.length+(c1.length-1) by omega,Ea (by omega)];exact Z) ?_);refine Uk (yW hC rfl (b:=P.length+c1.length) (n:=c2.length) (h:=c2.length-1) (by omega) (by omega) hX (H _ (UL Z)) (by rw[N6];exact B) λl T hl2=>?_);have K:∀j x,c2[j]?=b6 x->(r x<r x1↔j<l):=λj x b=>by have d:=(T8.mp b).1;exact hl2 j x d (by rw[Eb d];exact b)
 dsimp only;refine bL (λhf=>?_) λhf=>?_;rotate_left
 ·rw[beq_iff_eq]at hf;refine Uq (G λx b y m=>?_);obtain⟨j,d⟩:=Xl b;obtain⟨p,o⟩:=Xl m;have a1:=h1.at (by have:=(T8.mp d).1;omega) d Z;have a2:=K p y o;omega
 rw[beq_iff_eq]at hf;rw[N7 O,N8 T];have hA:Sr r (c1.drop k):=V1 (YJ _ _) h1;have hB:Sr r (c2.take l):=V1 (Xg _ _) B;have N:∀y,(c2.take l)[0]?=b6 y->∀x∈c1.drop k,r y<=r x:=λy m x b=>by rw[VE (by omega),L]at m;cases m;obtain⟨j,d,e⟩:=oJ b;have:=u j x e;omega
 have U:∀x,(c1.drop k)[(c1.drop k).length-1]?=b6 x->∀y∈c2.take l,r y<=r x:=λx b y m=>by rw[U2,WN,show k+(c1.length-k-1)=c1.length-1 by omega,Z]at b;cases b;obtain⟨j,d,e⟩:=oH m;have:=K j y e;omega
 have v:∀(R:Array Keyed)(n:Nat),Fi r (c1.drop k) (c2.take l) R.toList->Q c4 (UE κ (R.toList.zipIdx.foldl (λ(a:Array Keyed)(x:Keyed×Nat)=>a.setIfInBounds (P.length+k+x.2) x.1) (P++c1++c2++S).toArray) ((pd.setIfInBounds i (P.length,c1.length+c2.length,w1)).eraseIdxIfInBounds (i+1)) n b8) s:=λR n M=>by
  obtain⟨f1,f2⟩:=M;have hRl:=f1.length_eq;rw[Uj,U2,UN]at hRl;rw[N9 O T (by omega)];have Y:∀z∈R.toList,z∈c1.drop k\/z∈c2.take l:=λz hz=>Vk.mp (f1.mem_iff.mp hz);refine q _ _ (f2.both (V1 (Xg _ _) h1) (V1 (YJ _ _) B) (λx b y m=>?_) (λx b y m=>?_) λx b y m=>?_) ?_
  ·obtain⟨j,d,e⟩:=oH b;rcases Y y m with m|m
   ·obtain⟨p,o,A⟩:=oJ m;exact h1.at (by omega) e A
   ·obtain⟨p,o,A⟩:=oH m;have a1:=(u j x e).mpr d;have a2:=B.at (WA p) L A;omega
  ·obtain⟨p,o,A⟩:=oJ m;rcases Y x b with b|b
   ·obtain⟨j,d,e⟩:=oJ b;have a1:=h1.at (by have:=(T8.mp e).1;omega) e Z;have a2:=K p y A;omega
   ·obtain⟨j,d,e⟩:=oH b;exact B.at (by omega) e A
  ·obtain⟨j,d,e⟩:=oH b;obtain⟨p,o,A⟩:=oJ m;have a1:=(u j x e).mpr d;have a2:=B.at (WA p) L A;omega
  ·have e1:c1++c2=c1.take k++(c1.drop k++c2.take l)++c2.drop l:=by rw[<- Uy,UR,Uy,UR]
   rw[e1];exact((f1.append_left _).append_right _)
 have d1:0<(c1.drop k).length:=by rw[U2];omega
 have d2:0<(c2.take l).length:=by rw[UN];omega
 refine bL (λ_=>?_) λ_=>?_
 ·exact Uk (N4 hC (λx b=>H x (Zh b)) (λx b=>I x (Yc b)) hA hB d1 d2 N U λR n M=>Uk (W2 (Uk (X6 (Uq (v R n M))))))
 ·exact Uk (N3 hC (λx b=>H x (Zh b)) (λx b=>I x (Yc b)) hA hB d1 d2 N U λR n M=>Uk (W2 (Uk (X6 (Uq (v R n M))))))
end
end L3
namespace L3
open PySem L2 PySem.W PyProof.Rows
section
variable{prog:Ur}{w:UJ}{A₀:UD}{E:Value->T6->Prop}{κ:XM}{s:T6}{X:Keyed->Prop}{r:Keyed->Int}{P T S:List Keyed}{pd:Array (Nat×Nat×Nat)}{mg:Nat}
noncomputable def kr(r:Keyed->Int)(T:List Keyed)(i:Nat):Int:=r (T.getD i (.none,.none))
theorem jQ{i:Nat}{x:Keyed}(h:T[i]?=b6 x):kr r T i=r x:=by unfold kr;rw[UH,h];rfl
theorem yX{i:Nat}(h:i<T.length):T[i]?=b6 (T.getD i (.none,.none)):=by rw[UH,T9 h];rfl
theorem oK(hC:fH prog w A₀ κ s X (lr r))(b:∀x∈T,X x){i j:Nat}(a:i<T.length)(c:j<T.length){Q:Option Bool->Ww->T6->Prop}(q:Q (b6 (decide (kr r T i<kr r T j))) (UE κ (P++T).toArray pd mg b8) s) :
  Xo (Ut prog w) A₀ E (ltAt' (P.length+i) (P.length+j)) Q (UE κ (P++T).toArray pd mg b8) s:=by
 have e:∀i,i<T.length->(a2H (UE κ (P++T).toArray pd mg b8))[P.length+i]?=b6 (T.getD i (.none,.none)):=λi a=>by show(P++T).toArray[P.length+i]?=_;rw[Vg,Uz (by omega),WD];exact yX a
 exact NW hC rfl (e i a) (e j c) (b _ (UL (yX a))) (b _ (UL (yX c))) q
theorem yY{n:Nat}(h:∀j,j+1<n->kr r T j<=kr r T (j+1)):∀{i j:Nat},i<=j->j<n->kr r T i<=kr r T j
 |i,0,h1,_=>by rw[Nat.le_zero.mp h1];exact a0b _
 |i,j+1,h1,h2=>by
  by_cases e:i=j+1
  ·rw[e];exact a0b _
  ·have a:=yY h (i:=i) (j:=j) (by omega) (by omega);have b:=h j h2;omega
theorem Ec{n:Nat}(d:n<=T.length)(h:∀j,j+1<n->kr r T j<=kr r T (j+1)):Sr r (T.take n):=by refine U7.mpr λi j a c b=>?_;rw[UN]at a c;have:=yY h (i:=i) (j:=j) (by omega) (by omega);rw[jQ (T9 (show i<T.length by omega)),jQ (T9 (show j<T.length by omega))]at this;rw[ZN,ZN];exact this
theorem Ob(P U V:List Keyed):a4v (P++U++V).toArray P.length (P.length+U.length) ((P.length+U.length-P.length)/2)=(P++U.reverse++V).toArray:=by
 apply VS.mp;apply XQ;intro k;rw[WO,getElem?_mirror_all (by simp),VL];by_cases h:P.length<=k/\k<P.length+U.length
 ·have b:∀(W:List Keyed)(m:Nat),W.length=U.length->P.length<=m->m<P.length+U.length->(P++W++V)[m]?=W[m-P.length]?:=λW m d a c=>by rw[Uy,Uz a,Ul (by omega)]
  rw[if_pos h,Vg,b U _ rfl (by omega) (by omega),b U.reverse k (by rw[Wu]) h.1 h.2,VT (by omega)];congr 1;omega
 ·rw[if_neg h,Vg];by_cases a:k<P.length
  ·rw[Uy,Uy,Ul a,Ul a]
  ·rw[Uz (by rw[Uj];omega),Uz (by rw[Uj,Wu];omega)];simp
noncomputable def Dis(r:Keyed->Int)(T:List Keyed):Prop:=T.Pairwise λx y=>r x≠r y
theorem Dis.at(h:Dis r T){i j:Nat}(a:i<T.length)(b:j<T.length)(c:i≠j):kr r T i≠kr r T j:=by
 rw[jQ (T9 a),jQ (T9 b)];have:=U7.mp h;by_cases l:i<j
 ·exact this i j a b l
 ·exact(this j i b a (by omega)).symm
theorem Od(hC:fH prog w A₀ κ s X (lr r))(A:∀x∈T,X x)(hD:Dis r T)(hT:0<T.length){Q:Option Nat->Ww->T6->Prop}
  (q:∀c t,0<c.length->Sr r c->(c++t).Perm T->Q (b6 c.length) (UE κ (P++(c++t)).toArray pd mg b8) s):Xo (Ut prog w) A₀ E (countRun' P.length T.length) Q (UE κ (P++T).toArray pd mg b8) s:=by
 have o:∀n,0<n->n<=T.length->(∀j,j+1<n->kr r T j<=kr r T (j+1))->Q (b6 n) (UE κ (P++T).toArray pd mg b8) s:=λn I y h=>by
  have:=q (T.take n) (T.drop n) (by rw[UN];omega) (Ec y h) (by rw[UR])
  rwa [UR,UN,Y8 y]at this
 unfold countRun'
 refine Uk (Wb (jN (λi c=>c=(b8,i+1)/\∀j,j+1<i+1->kr r T j<=kr r T (j+1)) (λc=>∃n,c=(b8,n)/\0<n/\n<=T.length/\(∀j,j+1<n->kr r T j<=kr r T (j+1))/\(n<T.length->kr r T n<kr r T (n-1))) (T.length-1) (λi x c L d=>?_) (λc d=>?_) (λc l=>?_) _ 0 _ (by simp) ⟨rfl,λj p=>by omega⟩))
 ·obtain⟨rfl,d⟩:=d
  dsimp only
  refine Uk (oK hC A (i:=i+1) (j:=i) (by omega) (by omega) ?_)
  dsimp only
  refine bL (λhc=>?_) λhc=>?_
  ·rw[decide_eq_true_eq]at hc
   refine Uq ⟨rfl,rfl,rfl,λj p=>?_⟩
   by_cases e:j=i
   ·subst e;omega
   ·exact d j (by omega)
  ·rw[decide_eq_true_eq]at hc
   exact Uq ⟨rfl,rfl,i+1,rfl,by omega,by omega,d,λ_=>hc⟩
 ·obtain⟨rfl,d⟩:=d
  exact⟨_,rfl,by omega,by omega,d,λh=>by omega⟩
 ·obtain⟨n,rfl,I,y,d,O⟩:=l
  dsimp only
  refine bL (λZ=>?_) λZ=>?_
  rotate_left
  ·exact Uq (o n I y d)
  rw[beq_iff_eq]at Z
  refine bL (λh1=>?_) λh1=>?_
  rotate_left
  ·-- it rose
   have G:kr r T 0<kr r T (n-1):=by
    have a:=yY d (i:=0) (j:=n-1) (by omega) (by omega)
    have b:=hD.at (i:=0) (j:=n-1) (by omega) (by omega) (by omega)
    omega
   have R:Xo (Ut prog w) A₀ E (ltAt' P.length (P.length+n-1)) (λb st v=>b=b6 c4/\st=UE κ (P++T).toArray pd mg b8/\v=s) (UE κ (P++T).toArray pd mg b8) s:=by
    have:=oK (prog:=prog) (w:=w) (A₀:=A₀) (E:=E) (P:=P) (pd:=pd) (mg:=mg) hC A (i:=0) (j:=n-1) (by omega) (by omega) (Q:=λb st v=>b=b6 c4/\st=UE κ (P++T).toArray pd mg b8/\v=s) ⟨by rw[decide_eq_true G],rfl,rfl⟩
    rw[show P.length+n-1=P.length+(n-1) by omega]
    exact this
   refine Uk (UK R (λb v K=>?_) λ_ _ e=>e)
   obtain⟨b,Y⟩:=b
   obtain⟨rfl,rfl,rfl⟩:=K
   dsimp only
   rw[if_pos rfl]
   exact Uq (o n I y d)
  have e1:n=1:=by omega
  subst e1
  have N:=O (by omega)
  refine Uk (Zc (XU ?_))
  refine Uk (Wb (jN (λi c=>c=(b8,i+2,0)/\∀j,j+1<i+2->kr r T (j+1)<kr r T j) (λc=>∃n,c=(b8,n,0)/\2<=n/\n<=T.length/\∀j,j+1<n->kr r T (j+1)<kr r T j) (T.length-2) (λi x c L d=>?_) (λc d=>?_) (λc l=>?_) _ 0 _ (by simp) ⟨rfl,λj p=>by rw[show j=0 by omega];exact N⟩))
  ·obtain⟨rfl,d⟩:=d
   dsimp only
   refine Uk (oK hC A (i:=i+2) (j:=i+1) (by omega) (by omega) ?_)
   dsimp only
   by_cases hc:kr r T (i+2)<kr r T (i+1)
   ·rw[decide_eq_true hc,if_pos rfl,if_neg (by omega)]
    refine Uq ⟨rfl,rfl,rfl,λj p=>?_⟩
    by_cases e:j=i+1
    ·subst e;exact hc
    ·exact d j (by omega)
   ·rw[decide_eq_false hc,if_neg Vl]
    have K:=hD.at (i:=i+1) (j:=i+2) (by omega) (by omega) (by omega)
    refine Uk (oK hC A (i:=i+1) (j:=i+2) (by omega) (by omega) ?_)
    dsimp only
    rw[decide_eq_true (show kr r T (i+1)<kr r T (i+2) by omega),if_pos rfl]
    exact Uq ⟨rfl,rfl,i+2,rfl,by omega,by omega,d⟩
  ·obtain⟨rfl,d⟩:=d
   exact⟨T.length,by rw[show T.length-2+2=T.length by omega],by omega,Up _,λj p=>d j (by omega)⟩
  ·obtain⟨n,rfl,h2,y,d⟩:=l
   dsimp only
   rw[if_neg (by omega)]
   refine Uk (N0 ?_)
      -- turned about
   have eT:P++T=P++T.take n++T.drop n:=by rw[Uy,UR]
   have u:(T.take n).length=n:=by rw[UN];omega
   have em:a4v (P++T).toArray P.length (P.length+n) ((P.length+n-P.length)/2)=(P++((T.take n).reverse++T.drop n)).toArray:=by
    have:=Ob P (T.take n) (T.drop n)
    rw[u]at this
    rw[eT,this,Uy]
   show Xo _ _ _ _ _ (UE κ (a4v (P++T).toArray P.length (P.length+n) ((P.length+n-P.length)/2)) pd mg b8) s
   rw[em]
   have hU:((T.take n).reverse++T.drop n).length=T.length:=by simp;omega
   have H:((T.take n).reverse++T.drop n).Perm T:=by
    refine((YH _).append_right _).trans ?_
    rw[UR]
   have M:∀x∈(T.take n).reverse++T.drop n,X x:=λx hx=>A x (H.mem_iff.mp hx)
   have B:∀j,j+1<n->kr r ((T.take n).reverse++T.drop n) j<=kr r ((T.take n).reverse++T.drop n) (j+1):=λj p=>by
    have z:∀i,i<n->kr r ((T.take n).reverse++T.drop n) i=kr r T (n-1-i):=λi L=>by
     have:((T.take n).reverse++T.drop n)[i]?=T[n-1-i]?:=by
      rw[Ul (by rw[Wu,u];exact L),VT (by omega),u,VE (by omega)]
     unfold kr
     rw[UH,UH,this]
    rw[z j (by omega),z (j+1) p]
    have:=d (n-1-(j+1)) (by omega)
    rw[show n-1-(j+1)+1=n-1-j by omega]at this
    omega
   generalize(T.take n).reverse++T.drop n=U at *
   refine Uk (Wb (jN (λi c=>c=(b8,n+i)/\∀j,j+1<n+i->kr r U j<=kr r U (j+1)) (λc=>∃m,c=(b8,m)/\0<m/\m<=T.length/\∀j,j+1<m->kr r U j<=kr r U (j+1)) (T.length-n) (λi x c L d=>?_) (λc d=>?_) (λc l=>?_) _ 0 _ (by simp) ⟨rfl,B⟩))
   ·obtain⟨rfl,d⟩:=d
    dsimp only
    have R:Xo (Ut prog w) A₀ E (ltAt' (P.length+(n+i)) (P.length+(n+i)-1)) (λb st v=>b=b6 (decide (kr r U (n+i)<kr r U (n+i-1)))/\st=UE κ (P++U).toArray pd mg b8/\v=s) (UE κ (P++U).toArray pd mg b8) s:=by
     rw[show P.length+(n+i)-1=P.length+(n+i-1) by omega]
     exact oK hC M (by omega) (by omega) ⟨rfl,rfl,rfl⟩
    refine Uk (UK R (λb v K=>?_) λ_ _ e=>e)
    obtain⟨b,Y⟩:=b
    obtain⟨rfl,rfl,rfl⟩:=K
    dsimp only
    refine bL (λhc=>?_) λhc=>?_
    ·rw[decide_eq_true_eq]at hc
     refine Uq ⟨rfl,rfl,rfl,λj p=>?_⟩
     by_cases e:j+1=n+i
     ·rw[show j=n+i-1 by omega,show n+i-1+1=n+i by omega];omega
     ·exact d j (by omega)
    ·exact Uq ⟨rfl,rfl,_,rfl,by omega,by omega,d⟩
   ·obtain⟨rfl,d⟩:=d
    exact⟨_,rfl,by omega,by omega,d⟩
   ·obtain⟨m,rfl,I,hm,d⟩:=l
    dsimp only
    have:=q (U.take m) (U.drop m) (by rw[UN];omega) (Ec (by omega) d) (by rw[UR];exact H)
    rw[UR,UN,Y8 (by omega)]at this
    exact Uq this
end
end L3
namespace L3
open PySem L2 PySem.W PyProof.Rows
section
variable{prog:Ur}{w:UJ}{A₀:UD}{E:Value->T6->Prop}{κ:XM}{s:T6}{X:Keyed->Prop}{r:Keyed->Int}{P:List Keyed}{pd:Array (Nat×Nat×Nat)}{mg:Nat}
theorem Oe(P C V:List Keyed)(x:Keyed){l:Nat}(i:l<=C.length):bubble (P++(C++x::V)).toArray (P.length+C.length) (P.length+C.length-(P.length+l))=(P++(C.take l++x::C.drop l++V)).toArray:=by
 apply VS.mp;apply XQ;intro k;rw[WO,getElem?_bubble (by simp) _ (by omega),VL];have b:∀(W:List Keyed)(m:Nat),(P++W)[P.length+m]?=W[m]?:=λW m=>by rw[Uz (by omega),WD]
 have a:(C.take l).length=l:=by rw[UN];omega
 by_cases c:k<P.length
 ·rw[if_neg (by omega),if_neg (by omega),Vg,Ul c,Ul c]
 obtain⟨m,rfl⟩:∃m,k=P.length+m:=⟨k-P.length,by omega⟩;rw[b];by_cases d:m=l
 ·subst d;rw[if_pos (by omega),Vg,b,Uz (Up _),XX,Uy,Uz (by omega),a,XX];rfl
 rw[if_neg (by omega)];by_cases h:l<m/\m<=C.length
 ·rw[if_pos (by omega),Vg,show P.length+m-1=P.length+(m-1) by omega,b,Ul (by omega),Uy,Uz (by omega),a,Vs,show m-l=(m-l-1)+1 by omega,WC,Ul (by rw[U2];omega),WN];congr 1;omega
 rw[if_neg (by omega),Vg,b];by_cases e:m<l
 ·rw[Ul (by omega),Uy,Ul (by omega),VE e]
 ·rw[Uz (by omega),Uy,Uz (by omega),a,Vs,show m-C.length=(m-C.length-1)+1 by omega,show m-l=(m-l-1)+1 by omega,WC,WC,Uz (by rw[U2];omega),U2];congr 1;omega
theorem Of(hC:fH prog w A₀ κ s X (lr r)){c D t:List Keyed}(hX:∀x∈c++D++t,X x)(hc:Sr r c)(h0:0<c.length){Q:Bool->Ww->T6->Prop}
  (q:∀a,Sr r a->a.Perm (c++D)->Q c4 (UE κ (P++(a++t)).toArray pd mg b8) s):Xo (Ut prog w) A₀ E (binarySort' P.length (c.length+D.length) c.length) Q (UE κ (P++(c++D++t)).toArray pd mg b8) s:=by
 unfold binarySort';refine Uk (Wb ?_);rw[Nat.max_eq_left h0];refine(iD (λi b st=>b=(b8,())/\∃a d,st=UE κ (P++(a++(d++t))).toArray pd mg b8/\Sr r a/\a.length=c.length+i/\(a++d).Perm (c++D)) (λb st=>b=(b8,())/\∃a,st=UE κ (P++(a++t)).toArray pd mg b8/\Sr r a/\a.Perm (c++D)) c.length D.length (λi b st hi N=>?_) (λb st N=>?_) (λb st v=>?_) (c.length+D.length-c.length) 0 _ _ (by omega) ⟨rfl,c,D,by rw[Uy],hc,rfl,Yd _⟩)
 ·obtain⟨rfl,a,d,rfl,p,h2,n⟩:=N;have A:=n.length_eq;rw[Uj,Uj]at A;match d,A,n with
  |[],A,_=>rw[VR]at A;omega|x::d,A,n=>
   dsimp only;have R:∀z∈a++x::(d++t),X z:=λz o=>hX z (by
    have:z∈(a++x::d)++t:=by simpa using o
    rcases Vk.mp this with h|h
    ·exact Vk.mpr (.inl (n.mem_iff.mp h))
    ·exact Vk.mpr (.inr h))
   have hk:c.length+i=a.length:=h2.symm;rw[hk];have U:kr r (a++x::(d++t)) a.length=r x:=jQ (by rw[Uz (Up _),XX];rfl);have T:∀m,m<a.length->kr r (a++x::(d++t)) m=kr r a m:=λm B=>by unfold kr;rw[UH,UH,Ul B]
   have eL:a++(x::d++t)=a++x::(d++t):=rfl;have mono:∀{m m':Nat},m<=m'->m'<a.length->kr r a m<=kr r a m':=λ{m m'} h M=>by rw[jQ (T9 (show m<a.length by omega)),jQ (T9 M)];exact p.at h (T9 _) (T9 _)
   refine Uk (Wb (jN (λj b=>∃l u,b=(b8,l,u)/\l<=u/\u<=a.length/\u-l<=a.length-j/\(∀m,m<l->kr r a m<=r x)/\∀m,u<=m->m<a.length->r x<kr r a m) (λb=>∃l,b=(b8,l,l)/\l<=a.length/\(∀m,m<l->kr r a m<=r x)/\∀m,l<=m->m<a.length->r x<kr r a m) a.length (λj y b hj O=>?_) (λb O=>?_) (λb v=>?_) _ 0 _ (by simp) ⟨0,a.length,rfl,by omega,Up _,by omega,λm B=>by omega,λm h M=>by omega⟩))
   ·obtain⟨l,u,rfl,j1,G,j3,H,I⟩:=O;dsimp only;refine bL (λY=>?_) λY=>?_
    ·refine Uk (oK hC R (i:=a.length) (j:=(l+u)/2) (by simp) (by simp;omega) ?_);rw[U,T _ (by omega)];dsimp only;refine bL (λhc=>?_) λhc=>?_
     ·rw[decide_eq_true_eq]at hc;exact Uq ⟨rfl,rfl,(l+u)/2+1,u,rfl,by omega,G,by omega,λm B=>by have:=mono (m:=m) (m':=(l+u)/2) (by omega) (by omega);omega,I⟩
     ·rw[decide_eq_true_eq]at hc;exact Uq ⟨rfl,rfl,l,(l+u)/2,rfl,by omega,by omega,by omega,H,λm h M=>by have:=mono (m:=(l+u)/2) (m':=m) h M;omega⟩
    ·have e:u=l:=by omega
     subst e;exact Uq ⟨rfl,rfl,_,rfl,G,H,I⟩
   ·obtain⟨l,u,rfl,j1,G,j3,H,I⟩:=O;have e:u=l:=by omega
    subst e;exact⟨_,rfl,G,H,I⟩
   ·obtain⟨l,rfl,G,H,I⟩:=v;dsimp only;have mv:∀{L:Unit->Ww->T6->Prop},L () (UE κ (P++((a.take l++x::a.drop l)++(d++t))).toArray pd mg b8) s->Xo (Ut prog w) A₀ E (moveDown' (P.length+a.length) (P.length+l)) L (UE κ (P++(a++x::(d++t))).toArray pd mg b8) s:=λ{L} h=>by rw[moveDown'_eq];refine W2 ?_;show L () (UE κ (bubble (P++(a++x::(d++t))).toArray (P.length+a.length) (P.length+a.length-(P.length+l))) pd mg b8) s;rw[Oe P a (d++t) x G];exact h
    refine Uk (mv (Uq ⟨rfl,rfl,a.take l++x::a.drop l,d,rfl,?_,?_,?_⟩))
    ·have Z:∀z∈a.take l,r z<=r x:=λz o=>by obtain⟨m,B,e⟩:=oH o;rw[<- jQ (r:=r) e];exact H m B
     have a2:∀z∈a.drop l,r x<=r z:=λz o=>by obtain⟨m,B,e⟩:=oJ o;rw[<- jQ (r:=r) e];exact Y7 (I m B (T8.mp e).1)
     have:=Sr.both (r:=r) (U:=a.take l) (R:=[x]) (V:=a.drop l) (by unfold Sr;simp) (V1 (Xg _ _) p) (V1 (YJ _ _) p) (λy K z o=>by rw[U6.mp o];exact Z y K) (λy K z o=>by rw[U6.mp K];exact a2 z o) (λy K z o=>by have:=Z y K;have:=a2 z o;omega);simpa using this
    ·simp;omega
    ·refine a1w ?_ n;have:(a.take l++x::a.drop l).Perm (a++[x]):=by refine List.perm_middle.trans ?_;rw[UR];exact WR (l₁:=[x])
     have:=this.append_right d;simpa using this
 ·obtain⟨rfl,a,d,rfl,p,h2,n⟩:=N;have A:=n.length_eq;rw[Uj,Uj]at A;have:d=[]:=W4.mp (by omega);subst this;rw[VB]at n;exact⟨rfl,a,rfl,p,n⟩
 ·obtain⟨rfl,a,rfl,p,n⟩:=v;exact Uq (q a p n)
end
end L3
namespace L3
open PySem L2 PySem.W PyProof.Rows
noncomputable abbrev eV:=List Keyed×Nat
noncomputable def a9(a:List eV):List Keyed:=(a.map (·.1)).flatten
noncomputable def pos:Nat->List eV->List (Nat×Nat×Nat)
 |_,[]=>[]|p,(c,w)::t=>(p,c.length,w)::pos (p+c.length) t
theorem iP(c:List Keyed)(w:Nat)(t:List eV):a9 ((c,w)::t)=c++a9 t:=rfl
theorem mP(a b:List eV):a9 (a++b)=a9 a++a9 b:=by unfold a9;simp
theorem mQ:∀(a b:List eV)(p:Nat),pos p (a++b)=pos p a++pos (p+(a9 a).length) b
 |[],b,p=>rfl|(c,w)::a,b,p=>by show(p,c.length,w)::pos (p+c.length) (a++b)=_;rw[mQ a b,iP,Uj,a3v];rfl
theorem jR:∀(a:List eV)(p:Nat),(pos p a).length=a.length
 |[],_=>rfl|(c,w)::a,p=>by show(pos (p+c.length) a).length+1=_;rw[jR a];rfl
structure Rn(r:Keyed->Int)(L rest:List Keyed)(rs:List eV):Prop where
 ok:∀p∈rs,Sr r p.1/\0<p.1.length
 pm:(a9 rs++rest).Perm L
section
variable{prog:Ur}{w:UJ}{A₀:UD}{E:Value->T6->Prop}{κ:XM}{s:T6}{X:Keyed->Prop}{r:Keyed->Int}{L rest:List Keyed}{mg:Nat}
noncomputable abbrev eD(κ:XM)(rest:List Keyed)(a:List eV)(mg:Nat):Ww:=UE κ (a9 a++rest).toArray (pos 0 a).toArray mg b8
theorem Og(hC:fH prog w A₀ κ s X (lr r))(H:∀x∈L,X x){a b:List eV}{d e:List Keyed}{w1 w2:Nat}(h:Rn r L rest (a++(d,w1)::(e,w2)::b)){Q:Bool->Ww->T6->Prop}
  (q:∀c l,Rn r L rest (a++(c,w1)::b)->c.length=d.length+e.length->Q c4 (eD κ rest (a++(c,w1)::b) l) s){i:Nat}(I:i=a.length) :
  Xo (Ut prog w) A₀ E (a2E i) Q (eD κ rest (a++(d,w1)::(e,w2)::b) mg) s:=by
 subst I;obtain⟨m,y⟩:=h;have o1:=m (d,w1) (by simp);have z:=m (e,w2) (by simp);have n:a9 (a++(d,w1)::(e,w2)::b)++rest=a9 a++d++e++(a9 b++rest):=by rw[mP,iP,iP];simp
 have B:pos 0 (a++(d,w1)::(e,w2)::b)=pos 0 a++((a9 a).length,d.length,w1)::((a9 a).length+d.length,e.length,w2)::pos ((a9 a).length+d.length+e.length) b:=by rw[mQ,WZ];rfl
 unfold eD;rw[n,B];refine Oa hC (λx K=>H x (y.mem_iff.mp (by rw[n];exact K))) o1.1 z.1 o1.2 z.2 (w1:=w1) (w2:=w2) ?_ ?_ λc l G v=>?_
 ·rw[Vg,Uz (by rw[jR];exact Up _),jR,XX];rfl
 ·rw[Vg,Uz (by rw[jR];omega),jR,WD];rfl
 ·have o:=v.length_eq;rw[Uj]at o;have u:a9 a++c++(a9 b++rest)=a9 (a++(c,w1)::b)++rest:=by rw[mP,iP];simp
  have A:((pos 0 a++((a9 a).length,d.length,w1)::((a9 a).length+d.length,e.length,w2)::pos ((a9 a).length+d.length+e.length) b).toArray.setIfInBounds a.length ((a9 a).length,d.length+e.length,w1)).eraseIdxIfInBounds (a.length+1)=(pos 0 (a++(c,w1)::b)).toArray:=by apply VS.mp;have j:(pos 0 a).length=a.length:=jR _ _;rw[Array.toList_eraseIdxIfInBounds,a0l,VL,VL,mQ,WZ,<- j,Y9 _ _ (Up _),XX,Um,List.eraseIdx_append_of_length_le (by omega),WD];show _=pos 0 a++((a9 a).length,c.length,w1)::pos ((a9 a).length+c.length) b;rw[o,<- a3v];rfl
  rw[u,A];refine q c l ⟨λp j=>?_,?_⟩ o
  ·rcases Vk.mp j with j|j
   ·exact m p (by simp[j])
   ·rcases UX.mp j with rfl|j
    ·have:=o1.2;dsimp only at this;exact⟨G,by dsimp only;omega⟩
    ·exact m p (by simp[j])
  ·rw[<- u];refine a1w ?_ y;rw[n];have:=(v.append_left (a9 a)).append_right (a9 b++rest);simpa using this
theorem Ed(hC:fH prog w A₀ κ s X (lr r))(B:∀x∈L,X x){a:List eV}(h:Rn r L rest a){i:Nat}(I:i+1<a.length){Q:Bool->Ww->T6->Prop}
  (q:∀b j,Rn r L rest b->b.length+1=a.length->(a9 b).length=(a9 a).length->Q c4 (eD κ rest b j) s):Xo (Ut prog w) A₀ E (a2E i) Q (eD κ rest a mg) s:=by
 have e:a=a.take i++(a[i].1,a[i].2)::(a[i+1].1,a[i+1].2)::a.drop (i+1+1):=by have y:=Wv (l:=a) (i:=i) (by omega);have z:=Wv (l:=a) (i:=i+1) (by omega);have o:=UR i a;rw[y,z]at o;exact o.symm
 obtain⟨l,m,p,n,u,d,v,G⟩:∃l m p n u d,a=l++(m,p)::(n,u)::d/\i=l.length:=⟨_,_,_,_,_,_,e,by rw[UN];omega⟩;subst v;refine Og hC B h (λc j A H=>q _ j A ?_ ?_) G
 ·simp;omega
 ·rw[mP,mP,iP,iP,iP];simp;omega
theorem Ee{b:Type}(f:b->b):∀(l:List b)(x:b),(l++[x]).modify l.length f=l++[f x]
 |[],x=>rfl|a::l,x=>by show a::(l++[x]).modify l.length f=_;rw[Ee f l x];rfl
theorem Oh(a:List eV)(c:List Keyed)(w:Nat):(pos 0 a).toArray.push ((a9 a).length,c.length,w)=(pos 0 (a++[(c,w)])).toArray:=by rw[mQ,WZ];apply VS.mp;rw[V8];rfl
theorem Oi(a:List eV)(c:List Keyed)(w b:Nat):((pos 0 (a++[(c,w)])).toArray.modify ((pos 0 (a++[(c,w)])).toArray.size-1) λx=>(x.1,x.2.1,b))=(pos 0 (a++[(c,b)])).toArray:=by rw[mQ,mQ,WZ];apply VS.mp;have:=Ee (λx:Nat×Nat×Nat=>(x.1,x.2.1,b)) (pos 0 a) ((a9 a).length,c.length,w);simp[pos];exact this
theorem Oj(a:List eV)(c:List Keyed)(w:Nat):(pos 0 (a++[(c,w)])).toArray.back?=b6 ((a9 a).length,c.length,w):=by rw[mQ,WZ];simp[pos]
theorem Ol(hC:fH prog w A₀ κ s X (lr r))(hX:∀x∈L,X x)(hD:Dis r L)(h2:2<=L.length){Q:Unit->Ww->T6->Prop}
  (q:∀(R:List Keyed)(pd:Array (Nat×Nat×Nat))(m:Nat),Sr r R->R.Perm L->Q () (UE κ R.toArray pd m b8) s):Xo (Ut prog w) A₀ E sortRuns' Q (UE κ L.toArray #[] mg b8) s:=by
 have hsz:(a2H (UE κ L.toArray #[] mg b8)).size=L.length:=Ue;rw[sortRuns'_eq];refine Uk (X6 ?_);dsimp only;simp only[hsz];generalize minRun' L.length L.length 0=mr;refine Uk (Wb (iD (λi b st=>∃l rest m,b=(b8,(a9 l).length)/\st=eD κ rest l m/\Rn r L rest l/\i<=(a9 l).length) (λb st=>∃l m n,b=(b8,n)/\st=eD κ [] l m/\Rn r L [] l) 0 L.length (λi b st hi hI=>?_) (λb st hI=>?_) (λb st N=>?_) (L.length-0) 0 _ _ (by omega) ⟨[],L,mg,rfl,rfl,⟨λp z=>(by cases z),Yd _⟩,WA _⟩))
 ·obtain⟨l,rest,A,rfl,rfl,v,hle⟩:=hI;have B:=v.pm.length_eq;rw[Uj]at B;dsimp only;refine bL (λhlo=>?_) λhlo=>?_;rotate_left
  ·have:rest=[]:=W4.mp (by omega);subst this;exact Uq ⟨rfl,l,A,_,rfl,rfl,v⟩
  have hXr:∀x∈rest,X x:=λx hx=>hX x (v.pm.mem_iff.mp (Vk.mpr (.inr hx)));have hDr:Dis r rest:=by have:Dis r (a9 l++rest):=hD.perm v.pm.symm λh=>h.symm;exact(VY.mp this).2.1
  rw[show L.length-(a9 l).length=rest.length by omega];refine Uk (Od hC hXr hDr (by omega) λc t U h2 h3=>?_);dsimp only;have hct:=h3.length_eq;rw[Uj]at hct;refine bL (λhmr=>?_) λhmr=>?_;rotate_left;refine Uk (Zc (XU ?_));have ht:t=t.take (min rest.length mr-c.length)++t.drop (min rest.length mr-c.length):=(UR _ _).symm;have hD1:(t.take (min rest.length mr-c.length)).length=min rest.length mr-c.length:=by rw[UN];omega
  generalize t.take (min rest.length mr-c.length)=D at ht hD1;generalize t.drop (min rest.length mr-c.length)=t' at ht;subst ht;rw[<- Uy c D t',show min rest.length mr=c.length+D.length by omega];refine Uk (Of hC (λx hx=>hXr x (h3.mem_iff.mp (by rw[<- Uy];exact hx))) h2 U λc' G K=>?_);have hc':=K.length_eq;rw[Uj]at hc';rw[<- hc',if_neg (by decide)];have k1:0<c'.length:=by omega
  have k2:=G;have k3:(c'++t').Perm rest:=(K.append_right t').trans (by rw[Uy];exact h3);clear hc' K G h3 hct;revert k1 k2 k3;revert t';revert c';intro y M k1 k2 k3;rotate_left;have k1:=U;have k2:=h2;have k3:=h3;clear U h2 h3 hct hmr;revert k1 k2 k3;revert t;revert c;intro y M k1 k2 k3;all_goals
   have hcc:=k3.length_eq;rw[Uj]at hcc;refine Uk (X6 ?_);have fin:∀(d:List eV)(m:Nat),Rn r L (y++M) d->(a9 d).length=(a9 l).length->∃I T mg'',((b8,(a9 l).length+y.length):Option Unit×Nat)=(b8,(a9 I).length)/\UE κ (a9 d++(y++M)).toArray ((pos 0 d).toArray.push ((a9 l).length,y.length,0)) m b8=eD κ T I mg''/\Rn r L T I/\i+1<=(a9 I).length:=λd m G K=>by
    have e1:a9 (d++[(y,0)])=a9 d++y:=by rw[mP,iP];show _++(y++[])=_;rw[VB]
    refine⟨d++[(y,0)],M,m,?_,?_,⟨λp z=>?_,?_⟩,?_⟩
    ·rw[e1,Uj,K]
    ·unfold eD;rw[<- Oh,e1,K,Uy]
    ·rcases Vk.mp z with z|z
     ·exact G.ok p z
     ·rw[U6.mp z];exact⟨k2,k1⟩
    ·rw[e1,Uy];exact G.pm
    ·rw[e1,Uj];omega
   have hR':Rn r L (y++M) l:=⟨v.ok,(k3.append_left _).trans v.pm⟩;rcases a1l l with O|⟨Z,⟨cl,wl⟩,O⟩
   ·have Y:(a0x (UE κ (a9 l++(y++M)).toArray (pos 0 l).toArray A b8)).back?=none:=by rw[O];rfl
    simp only[Y];exact Uk (W2 (Uq ⟨rfl,fin l A hR' rfl⟩))
   ·rw[a1m]at O;have Y:(a0x (UE κ (a9 l++(y++M)).toArray (pos 0 l).toArray A b8)).back?=b6 ((a9 Z).length,cl.length,wl):=by rw[O];exact Oj Z cl wl
    simp only[Y];generalize power' L.length (2*(a9 Z).length+cl.length) (2*(a9 Z).length+cl.length+cl.length+y.length) L.length=pw;refine Uk (Wb (iD (λj b st=>b=(b8,())/\∃d m,st=eD κ (y++M) d m/\Rn r L (y++M) d/\d≠[]/\(a9 d).length=(a9 l).length) (λb st=>b=(b8,())/\∃d m,st=eD κ (y++M) d m/\Rn r L (y++M) d/\d≠[]/\(a9 d).length=(a9 l).length) 0 L.length (λj b st hj hJ=>?_) (λb st hJ=>hJ) (λb st N=>?_) (L.length-0) 0 _ _ (by omega) ⟨rfl,l,A,rfl,hR',by rw[O];simp,rfl⟩))
    ·obtain⟨rfl,d,u,rfl,G,K,g3⟩:=hJ;refine Uk (X6 ?_);have hps:(a0x (eD κ (y++M) d u)).size=d.length:=by show(pos 0 d).toArray.size=_;rw[Ue,jR]
     rw[hps];have hn0:0<d.length:=List.length_pos_iff.mpr K;by_cases U:d.length>1
     ·rw[if_pos U];obtain⟨⟨o1,o2,o3⟩,ho⟩:∃o,(a0x (eD κ (y++M) d u))[d.length-2]?=b6 o:=by show ∃o,(pos 0 d).toArray[d.length-2]?=b6 o;rw[Vg];exact⟨_,T9 (by rw[jR];omega)⟩
      rw[ho];dsimp only;refine bL (λz=>?_) λz=>?_
      ·refine Uk (Ed hC hX G (by omega) λrs2 mg3 a1 a2 a3=>?_);rw[if_neg (by decide)];exact Uq ⟨rfl,rfl,rs2,mg3,rfl,a1,λe=>by rw[e]at a2;simp at a2;omega,by omega⟩
      ·exact Uq ⟨rfl,rfl,d,u,rfl,G,K,g3⟩
     ·rw[if_neg U];exact Uq ⟨rfl,rfl,d,u,rfl,G,K,g3⟩
    ·obtain⟨rfl,d,u,rfl,G,K,g3⟩:=N;dsimp only;refine Uk (W2 ?_);rcases a1l d with H|⟨rs1,⟨cm,wm⟩,H⟩
     ·exact absurd H K
     rw[a1m]at H;subst H;have f1:a9 (rs1++[(cm,wm)])=a9 (rs1++[(cm,pw)]):=by rw[mP,mP];rfl
     refine Uk (W2 (Uq ⟨rfl,?_⟩));have:=fin (rs1++[(cm,pw)]) u ⟨λp z=>?_,by rw[<- f1];exact G.pm⟩ (by rw[<- f1];exact g3)
     ·rw[<- Oi rs1 cm wm pw,<- f1]at this;exact this
     ·rcases Vk.mp z with z|z
      ·exact G.ok p (by simp[z])
      ·rw[U6.mp z];exact G.ok (cm,wm) (by simp)
 ·obtain⟨l,rest,A,rfl,rfl,v,hle⟩:=hI;have B:=v.pm.length_eq;rw[Uj]at B;have:rest=[]:=W4.mp (by omega);subst this;exact⟨l,A,_,rfl,rfl,v⟩
 ·obtain⟨l,A,n,rfl,rfl,v⟩:=N;dsimp only;have hfl:l.length<=(a9 l).length:=by
   have:∀l:List eV,(∀p∈l,0<p.1.length)->l.length<=(a9 l).length:=by
    intro l;induction l with
    |nil=>intro _;exact Up _|cons p l ih=>intro h;obtain⟨c,w⟩:=p;have a:=ih λp z=>h p (by simp[z]);have b:=h (c,w) (by simp);dsimp only at b;rw[iP,Uj,UA];omega
   exact this l λp z=>(v.ok p z).2
  have B:=v.pm.length_eq;rw[Uj,VR]at B;refine Uk (Wb (iD (λi b st=>b=(b8,())/\∃l m,st=eD κ [] l m/\Rn r L [] l/\l.length+i<=L.length) (λb st=>b=(b8,())/\∃l m,st=eD κ [] l m/\Rn r L [] l/\l.length<=1) 0 L.length (λi b st hi hI=>?_) (λb st hI=>?_) (λb st N=>?_) (L.length-0) 0 _ _ (by omega) ⟨rfl,l,A,rfl,v,by omega⟩))
  ·obtain⟨rfl,l,u,rfl,v,Y⟩:=hI;refine Uk (X6 ?_);have hps:(a0x (eD κ [] l u)).size=l.length:=by show(pos 0 l).toArray.size=_;rw[Ue,jR]
   rw[hps];refine bL (λU=>?_) λU=>?_
   ·refine Uk (Ed hC hX v ?_ λd m G K g3=>?_)
    ·split<;>(try split)<;>omega
    ·rw[if_neg (by decide)];exact Uq ⟨rfl,rfl,d,m,rfl,G,by omega⟩
   ·exact Uq ⟨rfl,rfl,l,u,rfl,v,U⟩
  ·obtain⟨rfl,l,u,rfl,v,Y⟩:=hI;exact⟨rfl,l,u,rfl,v,by omega⟩
  ·obtain⟨rfl,l,u,rfl,v,Y⟩:=N;dsimp only;have hpm:=v.pm;rw[VB]at hpm;refine Uq ?_;have:=q (a9 l++[]) (pos 0 l).toArray u ?_ (by rw[VB];exact hpm)
   ·exact this
   ·rw[VB];match l,Y,v with
    |[],_,_=>exact Y6|[(c,w)],_,v=>have:=(v.ok (c,w) (by simp)).1;rw[iP];show Sr r (c++[]);rw[VB];exact this|_::_::_,Y,_=>simp at Y
end
end L3
namespace L3
open PySem L2 PySem.W PyProof.Rows
section
variable{prog:Ur}{w:UJ}{A:UD}{E:Value->T6->Prop}{s:T6}
theorem Om{c:Addr}{us:List Value}{z:Nat}{rk:Value->Int}(N:us.Pairwise λx y=>rk x≠rk y)(h1:2<=us.length)(h2:us.length<=Uo){R:a3T->T6->Prop}(g:s.heap.get? c=b6 (Wa "list" us.toArray z))
  (H:∀m:Vb,(∀b o,b≠c->s.heap.get? b=b6 o->m.get? b=b6 o)->DX prog w A us (λx y=>decide (rk x<rk y)) {s with heap:=m})
  (q:∀a:List Value,a.Perm us->a.Pairwise (λx y=>rk x<=rk y)->R (.done (.ret .none)) {s with heap:=Z4 s.heap c us a.toArray}) :
  Uu (Ut prog w) A (Builtin.«list.sort» ⟨[.ref c],[]⟩) R E s:=by
 rw[a3Q]
 have lt:c<s.heap.objs.size:=Uh g
 refine T5 (listItems_at g rfl (T5 (Z0 g rfl ?_ (by rw[Ue];omega) (WA _))))
 obtain⟨y,O⟩:∃y,(s.heap.update c (Wg λ_=>#[])).get? c=b6 (Wa "list" #[] y):=⟨_,a3S g _⟩
 refine T5 (a0G O rfl (T5 (a0V (T5 (ZX (Vx ?_) (WA _))) (by show us.length<=_;omega))))
 have Q:(((s.heap.update c (Wg λ_=>#[])).push (Wa "tuple" us.toArray 0)).push (Wa "list" #[] 0)).get? c=b6 (Wa "list" #[] y):=
  Ua _ (Ua _ O)
 have n:=H (((s.heap.update c (Wg λ_=>#[])).push (Wa "tuple" us.toArray 0)).push (Wa "list" #[] 0)) λb o Z e=>Ua _ (Ua _ ((U4 _ _ (Vf Z)).trans e))
 show Uu (Ut prog w) A _ R E ⟨((s.heap.update c (Wg λ_=>#[])).push (Wa "tuple" us.toArray 0)).push (Wa "list" #[] 0),s.gens,s.drawn,s.toks,s.os⟩
 dsimp only
 have i:¬ us.toArray.size<2:=by rw[Ue];omega
 rw[if_neg i,if_neg i]
 refine T5 (UK n (λκ M G=>?_) λ_ _ x=>x.elim)
 obtain⟨rfl,G⟩:=G
 have Y:us.toArray.zip us.toArray=(us.map λu=>(u,u)).toArray:=by
  apply VS.mp
  rw[NX,VL]
 have run:=Ol (prog:=prog) (w:=w) (A₀:=A) (E:=E) (κ:=κ) (X:=λp=>∃u∈us,p=(u,u)) (r:=λp=>rk p.1)
  (s:={s with heap:=((s.heap.update c (Wg λ_=>#[])).push (Wa "tuple" us.toArray 0)).push (Wa "list" #[] 0)}) (L:=us.map λu=>(u,u)) (mg:=7)
  (λx y C l L hc=>by
   obtain⟨u,K,rfl⟩:=l
   obtain⟨v,hv,rfl⟩:=L
   exact G u v C K hv hc) (λx l=>by
   obtain⟨u,K,rfl⟩:=VM.mp l
   exact⟨u,K,rfl⟩) (by unfold Dis;rw[Xh];exact N) (by rw[Uc];exact h1)
  (Q:=λ_ j M=>M={s with heap:=((s.heap.update c (Wg λ_=>#[])).push (Wa "tuple" us.toArray 0)).push (Wa "list" #[] 0)}/\failedOf j=b8/\∃a:List Value,(a2H j).map (·.2)=a.toArray/\a.Perm us/\a.Pairwise (λx y=>rk x<=rk y)) (λT pd mg' m B=>⟨rfl,rfl,T.map (·.2),by
   show T.toArray.map (·.2)=_
   rw[List.map_toArray],by
   have:=B.map (·.2)
   rw[Vo]at this
   exact this.trans (by rw[show((λp:Keyed=>p.2)∘λu:Value=>(u,u))=id from rfl,a1v]),by
   rw[Xh]
   refine Ye (R:=λx y:Keyed=>rk x.1<=rk y.1) (λ{x y} l L h=>?_) m
   obtain⟨u,_,rfl⟩:=VM.mp (B.mem_iff.mp l)
   obtain⟨v,_,rfl⟩:=VM.mp (B.mem_iff.mp L)
   exact h⟩)
 rw[Y]
 refine T5 (UK run (λr M hr=>?_) λ_ _ e=>e)
 obtain⟨⟨⟩,j⟩:=r
 obtain⟨rfl,U,a,d,X,I⟩:=hr
 dsimp only at U d ⊢
 rw[d]
 have hol:=X.length_eq
 refine T5 (a0G Q rfl (T5 (Z0 Q rfl ?_ (hsz2:=by rw[Ue];omega))))
 rw[U]
 simp only[bne_self_eq_false,Ud,if_false]
 exact Ui (q a X I)
end
section
variable{α:Type}{lt:α->α->Bool}
structure Ord1(lt:α->α->Bool):Prop where
 ir:∀x,lt x x=b9
 tr:∀x y z,lt x y=c4->lt y z=c4->lt x z=c4
 to:∀x y,lt x y=b9->lt y x=b9->x=y
noncomputable def iQ(lt:α->α->Bool)(l:List α)(x:α):Int:=(l.countP λy=>lt y x:Nat)
theorem Ef(h:Ord1 lt){l:List α}{x y:α}(b:x∈l):lt x y=c4->iQ lt l x<iQ lt l y:=λe=>by
 unfold iQ;have:∀l:List α,l.countP (λz=>lt z x)<=l.countP (λz=>lt z y):=λl=>List.countP_mono_left λz _ d=>h.tr z x y d e;have j:l.countP (λz=>lt z x)<l.countP (λz=>lt z y):=by
  induction l with
  |nil=>cases b|cons a l i=>
   rw[a2w,a2w];rcases UX.mp b with rfl|b
   ·rw[h.ir,e,if_neg Vl,if_pos rfl];have:=this l;omega
   ·have:=i b;by_cases c:lt a x=c4
    ·rw[if_pos c,if_pos (h.tr _ _ _ c e)];omega
    ·rw[if_neg c];split<;>omega
 omega
theorem t7(h:Ord1 lt){l:List α}{x y:α}(b:x∈l)(c:y∈l):lt x y=decide (iQ lt l x<iQ lt l y):=by
 cases e:lt x y with
 |true=>rw[decide_eq_true (Ef h b e)]|false=>
  symm;rw[decide_eq_false_iff_not];cases a:lt y x with
  |true=>have:=Ef h c a;omega|false=>rw[h.to x y e a];omega
theorem Eg(h:Ord1 lt){l:List α}{x y:α}(c:x∈l)(d:y∈l)(i:x≠y):iQ lt l x≠iQ lt l y:=λe=>by have a:=t7 h c d;have b:=t7 h d c;rw[e,decide_eq_false (by omega)]at a;rw[e,decide_eq_false (by omega)]at b;exact i (h.to x y a b)
end
end L3
namespace L3
open PySem L2 PySem.W PyProof.Rows
end L3
namespace L3
open PySem L2
open PyProof.Rows (IntsAre Fr News seqObj)
theorem t8:∀a:List Int,HT.lexLt a a=b9
 |[]=>rfl|x::a=>by rw[HT.lexLt_cons,if_pos rfl];exact t8 a
theorem Eh:∀{a b:List Int},a≠b->HT.lexLt a b=!HT.lexLt b a
 |[],[],h=>absurd rfl h|[],_::_,_=>rfl|_::_,[],_=>rfl|x::a,y::b,h=>by
  rw[HT.lexLt_cons,HT.lexLt_cons];by_cases e:x=y
  ·subst e;rw[if_pos rfl,if_pos rfl];exact Eh λz=>h (by rw[z])
  ·rw[if_neg e,if_neg (Vf e)];rcases Int.lt_or_gt_of_ne e with z|z
   ·rw[decide_eq_true z,decide_eq_false (by omega)];rfl
   ·rw[decide_eq_false (by omega),decide_eq_true z];rfl
theorem t9:∀{a b c:List Int},HT.lexLt a b=c4->HT.lexLt b c=c4->HT.lexLt a c=c4
 |_,[],[],_,h=>absurd h (by intro z;cases z)|_,_::_,[],_,h=>absurd h (by intro z;cases z)|[],_,_::_,_,_=>rfl|_::_,[],_::_,h,_=>absurd h (by intro z;cases z)|x::a,y::b,z::c,h1,h2=>by
  rw[HT.lexLt_cons]at h1 h2 ⊢;by_cases e:x=y
  ·subst e;rw[if_pos rfl]at h1;by_cases d:x=z
   ·subst d;rw[if_pos rfl]at h2 ⊢;exact t9 h1 h2
   ·rw[if_neg d]at h2 ⊢;exact h2
  ·rw[if_neg e]at h1;by_cases d:y=z
   ·subst d;rw[if_neg e];exact h1
   ·rw[if_neg d]at h2;rw[decide_eq_true_eq]at h1 h2;rw[if_neg (by omega),decide_eq_true_eq];omega
end L3
namespace L3
open PySem
open PySem.W (KasT kas_asc kas_desc kas_tail3 kas_descPart kas_count kas_place kas_bin kas_sort kas_rev)
open PyProof.Rows (mirror bubble getElem?_bubble getElem?_mirror_all mirror_size bubble_size)
section
variable{α:Type}{lt:α->α->Bool}(irr:∀a,lt a a=b9)(tr:∀a b c,lt a b=c4->lt b c=c4->lt a c=c4)(nt:∀a b c,lt a b=c4->lt a c=c4\/lt c b=c4)
include irr tr nt in
theorem Oo(d:α)(xs:List α){n:Nat}(_:1<=n):(cI (λi j=>lt (xs.getD i d) (xs.getD j d)) n).Pairwise λi j=>lt (xs.getD j d) (xs.getD i d)=false:=by
 have h:=List.pairwise_mergeSort (le:=λi j=>!(lt (xs.getD j d) (xs.getD i d))) (λa b c l m=>by
  rw[Xi]at l m ⊢;cases e:lt (xs.getD c d) (xs.getD a d)with
  |false=>rfl|true=>
   rcases nt _ _ (xs.getD b d) e with z|z
   ·rw[z]at m;cases m
   ·rw[z]at l;cases l) (λa b=>by
  cases e:lt (xs.getD b d) (xs.getD a d)with
  |false=>rfl|true=>
   cases o:lt (xs.getD a d) (xs.getD b d)with
   |false=>rfl
   |true=>have:=tr _ _ _ e o;rw[irr]at this;cases this) (Vv n)
 exact h.imp λh=>by simpa using h
end
end L3
namespace L3
open PySem L2 PySem.W PyProof.Rows
theorem Ei:Ord1 HT.lexLt:=⟨t8,λ_ _ _=>t9,λa b h1 c=>Classical.byContradiction λd=>by
 have:=Eh d;rw[h1,c]at this;cases this⟩
section
variable{X:Cx}{a4z:List (Addr×Obj)}{σ:L2.St}{H:Hp}{s:T6}
end
end L3
namespace L3
open PySem L2
section
variable{X:Cx}{a b c:Expr}{ma mb mc:ME}{pos:VW}
noncomputable def iR(f g:D->D->Hm->Option (D×Hm))(a b c:ME):ME:=λd μ=>(a d μ).bind λp=>(b d p.2).bind λq=>(f p.1 q.1 q.2).bind λr=>match r.1 with
 |.bl c4=>(c d r.2).bind λt=>g q.1 t.1 t.2|.bl b9=>b6 (.bl b9,r.2)|_=>b8
theorem Ej{f g:D->D->Hm->Option (D×Hm)}{r L:R2}{K:T3}(hf:cT K f r)(hg:cT K g L):∀σ H Q,tM K (iR f g ma mb mc) σ H Q->wQ r L (tM K ma) (tM K mb) (tM K mc) σ H Q:=by
 rintro σ H Q ⟨π,w,μ,d,q,R,E,e,k⟩;obtain⟨⟨x,h⟩,Z,e⟩:=TZ.mp e;obtain⟨⟨y,i⟩,h2,e⟩:=TZ.mp e;obtain⟨⟨z,j⟩,h3,e⟩:=TZ.mp e;refine⟨π,w,μ,x,h,R,E,Z,λs v1 H1 n U i1=>⟨s,w,h,y,i,U,E.mono n,h2,λu M N o R2 I=>?_⟩⟩;refine hf u N i x y z j v1 M _ R2 (i1.mono o) I h3 λm v3 O p A i3=>?_;cases z with
 |bl B=>
  cases i3;refine⟨B,rfl,?_⟩;cases B with
  |true=>refine lX ?_;obtain⟨⟨t,l⟩,h4,e⟩:=TZ.mp e;exact⟨m,w,j,t,l,A,((E.mono n).mono o).mono p,h4,λv v4 T G Y i4=>hg v T l y t d q M v4 Q Y ((I.mono p).mono G) i4 e (k.after (((n.trans o).trans p).trans G))⟩|false=>refine lW ?_;cases e;exact k m _ O ((n.trans o).trans p) A (.bl b9)
 |_=>cases e
noncomputable def jS:Yi->Option (Int->Int->Bool)
 |.Lt=>b6 λi j=>decide (i<j)|.LtE=>b6 λi j=>decide (i<=j)|.Gt=>b6 λi j=>decide (j<i)|.GtE=>b6 λi j=>decide (j<=i)|_=>b8
theorem oM{op:Yi}{p:Int->Int->Bool}(h:jS op=b6 p):OpR X (VN op) (fN λi j=>.bl (p i j))/\(op=.Lt\/op=.LtE\/op=.Gt\/op=.GtE):=by cases op<;>first|(cases h;first|exact⟨wL,by simp⟩|exact⟨wM,by simp⟩|exact⟨wN,by simp⟩|exact⟨wO,by simp⟩)|cases h
theorem Ek{op d:Yi}(h':d=.Lt\/d=.LtE\/d=.Gt\/d=.GtE):a3A [op,d] [b,c]=false:=by show Xj d c=b9;rcases h' with rfl|rfl|rfl|rfl<;>exact fP _
theorem Oq{op d:Yi}{p q:Int->Int->Bool}(h:jS op=b6 p)(h':jS d=b6 q)(e:QE X a ma)(i:QE X b mb)(hc:QE X c mc):QE X (.Compare a [op,d] [b,c] pos) (iR (fD p) (fD q) ma mb mc):=
 ⟨cS (IL (oM h).1 (oM h').1 e.h i.h hc.h (Ek (oM (X:=X) h').2)) (Ej gJ gJ)⟩
theorem Ot{op d:Yi}{p q:Int->Int->Bool}(h:jS op=b6 p)(h':jS d=b6 q)(i:QE X a ma)(j:QE X b mb)(hc:QE X c mc):QT X (.Compare a [op,d] [b,c] pos) (aP (iR (fD p) (fD q) ma mb mc)):=
 ⟨qA (IM (oM h).1 (oM h').1 i.h j.h hc.h (Ek (oM (X:=X) h').2)) λe H Q h=>Ej gJ gJ e H _ (xB e H Q h)⟩
end
section
variable{X:Cx}
end
section
variable{X:Cx}{e:Expr}{te:TE}{lo hi:Option Expr}{st:Expr}{tl th tt:TO}{pos p2:VW}
end
section
variable{X:Cx}{a4z:List (Addr×Obj)}{σ:St}{H:Hp}{s:T6}{h':Vb}
end
structure QJT(X:Cx)(e:Expr)(m:MI):Prop where
 h:∀es k p,PI X (.Tuple es k p) e (tMI X.K m)
theorem QJ.t{X:Cx}{e:Expr}{m:MI}(h:QJ X e m):QJT X e m:=⟨λes k p=>h.h _⟩
section
variable{X:Cx}{pos:VW}
theorem yZ{tg iter:Expr}{w:MI}{g:MG}{v:MS}{body:List Stmt}(I:PI X tg iter (tMI X.K w))(G:QG X tg g)(B:QB X body v)(K:a3D (Ut X.prog X.w) X.A X.env X.xe)(hc:X.calm=c4)(L:dW iter=c4) :
  QS X (.For tg iter body [] pos) (eC w g v):=⟨jF (Iz K hc I G.h B.h (by intro z;cases iter<;>first|rfl|cases L)) (by
 rintro E T H ⟨O,Q,N,u,r,p,R,s,m,k⟩;obtain⟨⟨o,n,l⟩,A,m⟩:=TZ.mp m;refine⟨O,Q,N,o,n,l,R,s,A,λq x J i y W=>?_⟩;have M:nF X.K E q l.length x u r p:=by
  cases u with
  |nx=>exact λa b e j h c=>k a b e (i.trans j) h c|bk=>exact λa b e j h c=>k a b e (i.trans j) h c|ct=>exact λa b e j h c=>k a b e (i.trans j) h c|rt d=>exact KC.after k i
 exact Li W M .refl y (s.mono i) m)⟩
noncomputable def zA(put:D->D->D->Hm->Option Hm)(o i v:ME):MS:=λa μ=>(v a μ).bind λp=>(o a p.2).bind λq=>(i a q.2).bind λr=>(put q.1 r.1 p.1 r.2).map λb=>(.nx,a,b)
noncomputable def qO:D->D->D->Hm->Option Hm
 |.loc a,y,d,μ=>match μ[a]? with
  |some (.dT kvs)=>(dS y).bind λk=>if kvs.length<Uo then b6 (μ.set a (.dT (jM kvs k d)))else b8|_=>b8
 |_,_,_,_=>b8
noncomputable def qP:D->D->D->Hm->Option Hm:=qO
noncomputable def fJ:=zA qP
theorem Em{st:Stmt}{i:Nat}:QS X st (aQ i aZ):=⟨λa4z s σ H D I q=>by
 obtain⟨h,j,e,d,c,b,R,E,a,k⟩:=q;cases a⟩
end
end L3
namespace L3
open PySem L2
section
variable{X:Cx}
end
section
variable{X:Cx}
end
section
variable{X:Cx}{e o:Expr}{mo:ME}{apos cpos:VW}{es:List Expr}{ms:MA}{n:Nat}
end
end L3
namespace L3
open PySem L2
section
variable{prog:Ur}{w:UJ}{A:UD}{E:Value->T6->Prop}{s:T6}{r:Addr}{Q:Bool->T6->Prop}
end
section
variable{prog:Ur}{w:UJ}{A:UD}{E:Value->T6->Prop}{s:T6}{p a:Addr}{its:Array Value}
end
end L3
namespace L3
open PySem L2
end L3
namespace L3
open PySem L2
noncomputable abbrev bT:=List (List Int×Addr×V)
noncomputable def bU(ps:bT)(ws:List Value):List (List Int×Addr×Value):=a0Q (λp w=>(p.1,p.2.1,w)) ps ws
theorem uA{P:Ur}{w:UJ}:∀(ps:bT)(ws:List Value),a0Q Cm ps ws=(bU ps ws).map (entryOfKey (XY (Zm P w)))
 |[],_=>by simp[bU]
 |p::ps,[]=>by simp[bU]
 |p::ps,u::ws=>by have a:=uA (P:=P) (w:=w) ps ws;unfold bU at a ⊢;rw[Vi,Vi,Uv,a];rfl
theorem qQ:∀{ps:bT}{ws:List Value},Vals (ps.map (·.2.2)) ws->(bU ps ws).map (·.1)=ps.map (·.1)
 |[],_,_=>by simp[bU]
 |p::ps,_,.cons r t=>by have a:=qQ (ps:=ps) t;unfold bU at a ⊢;rw[Vi,Uv,Uv,a]
theorem Eo:∀{ps:bT}{ws:List Value}{x:List Int×Addr×Value},x∈bU ps ws->∃p∈ps,p.1=x.1/\p.2.1=x.2.1
 |[],_,x,h=>by simp[bU]at h
 |p::ps,[],x,h=>by simp[bU]at h
 |p::ps,u::ws,x,h=>by
  unfold bU at h;rw[Vi]at h;rcases UX.mp h with e|h
  ·subst e;exact⟨p,UZ ..,rfl,rfl⟩
  ·obtain⟨q,a,e⟩:=Eo (ps:=ps) (ws:=ws) h;exact⟨q,UO _ a,e⟩
noncomputable def eE(ps:bT)(k:List Int):Option V:=(ps.find? λp=>decide (p.1=k)).map (·.2.2)
noncomputable def iS(ps:bT)(k:List Int)(b:Addr)(v:V):bT:=if(eE ps k).isSome then ps.map (λp=>if p.1=k then(p.1,p.2.1,v)else p)else ps++[(k,b,v)]
theorem qR:∀{ps:bT}{ws:List Value},Vals (ps.map (·.2.2)) ws->∀k,RelO (eE ps k) ((Zs (bU ps ws) k).map (·.2))
 |[],_,.nil,k=>by simp[eE,bU,Zs];exact Xa
 |p::ps,_,.cons r t,k=>by
  have a:=qR (ps:=ps) t k;unfold eE Zs bU at a ⊢;rw[Vi,VA,VA];by_cases e:p.1=k
  ·simp only[e,decide_true];exact r
  ·simp only[e,decide_false];exact a
theorem Ou(ps:bT)(k:List Int)(b:Addr)(v:V):(iS ps k b v).length<=ps.length+1:=by unfold iS;split<;>simp
theorem Ep{k:List Int}{v:V}{u:Value}(d:RelV v u):∀{ps:bT}{ws:List Value},Vals (ps.map (·.2.2)) ws->
  ∃a,Vals ((ps.map λp=>if p.1=k then(p.1,p.2.1,v)else p).map (·.2.2)) a/\(bU ps ws).map (putAt k u)=bU (ps.map λp=>if p.1=k then(p.1,p.2.1,v)else p) a
 |[],_,.nil=>⟨[],.nil,by simp[bU]⟩|p::ps,_,.cons (b:=w) r t=>by
  obtain⟨a,c,b⟩:=Ep d (ps:=ps) t;by_cases e:p.1=k
  ·refine⟨u::a,?_,?_⟩
   ·rw[Uv,Uv,if_pos e];exact .cons d c
   ·unfold bU at b ⊢;rw[Vi,Uv,b,Uv,if_pos e,Vi];unfold putAt;rw[if_pos e]
  ·refine⟨w::a,?_,?_⟩
   ·rw[Uv,Uv,if_neg e];exact .cons r c
   ·unfold bU at b ⊢;rw[Vi,Uv,b,Uv,if_neg e,Vi];unfold putAt;rw[if_neg e]
theorem Er{k:List Int}{b:Addr}{v:V}{u:Value}:∀{ps:bT}{ws:List Value},Vals (ps.map (·.2.2)) ws->bU ps ws++[(k,b,u)]=bU (ps++[(k,b,v)]) (ws++[u])
 |[],_,.nil=>by simp[bU]
 |p::ps,_,.cons r t=>by have a:=Er (k:=k) (b:=b) (v:=v) (u:=u) (ps:=ps) t;unfold bU at a ⊢;rw[Vi,Vs,a,Vs,Vs,Vi]
theorem Ov{ps:bT}{ws:List Value}(r:Vals (ps.map (·.2.2)) ws)(k:List Int)(b:Addr){v:V}{u:Value}(c:RelV v u) :
  ∃a,Vals ((iS ps k b v).map (·.2.2)) a/\storedH (bU ps ws) k b u=bU (iS ps k b v) a:=by
 have e:=(qR r k).isSome_eq;rw[YB]at e;unfold iS storedH;rw[e];by_cases h:(Zs (bU ps ws) k).isSome=c4
 ·rw[if_pos h,if_pos h];exact Ep c r
 ·rw[if_neg h,if_neg h];refine⟨ws++[u],?_,Er r⟩;rw[WX];exact a0P r c
section
variable{X:Cx}{a4z:List (Addr×Obj)}{σ:St}{H:Hp}{s:T6}{a:Addr}{ps:bT}
noncomputable def eW(K:T3)(H:Hp)(ps:bT):Prop:=∀p∈ps,SqT K H p.2.1 (p.1.map V.int)
theorem mR(I:Inv X a4z σ H s)(e:Rd H a (a7 a ps))(u:eW X.K H ps):(a==VX)=b9/\ps.length<=Uo /\
  ∃b,Vals (ps.map (·.2.2)) b/\s.heap.DictOfH (XY (Zm X.prog X.w)) a (bU ps b):=by
 obtain⟨⟨b,r,y,v,o,i,h,j,l,m,n,q⟩,_⟩:=(show ObjOk X.prog X.w H s.heap a (a7 a ps)from e.ok I.hok);refine⟨y,v,b,r,o,i,h,j,l,m,by rw[n];exact uA ps b,λx z=>?_,by rw[qQ r];exact q⟩;obtain⟨p,w,c,d⟩:=Eo z;rw[<- c,<- d];exact mM I (u p w)
theorem Es{P:Ur}{w:UJ}{H':Hp}{h':Vb}{ws:List Value}(n:(a==VX)=b9)(m:ps.length<=Uo)(r:Vals (ps.map (·.2.2)) ws)(d:h'.DictOfH (XY (Zm P w)) a (bU ps ws)):ObjOk P w H' h' a (a7 a ps):=by obtain⟨o,e,c,b,h,i,j,_,l⟩:=d;refine⟨⟨ws,r,n,m,o,e,c,b,h,i,by rw[j,uA (P:=P) (w:=w)],by rw[<- qQ r];exact l⟩,⟨o,b⟩,?_⟩;rintro q u ⟨ws,r,n,m,o,e,c,b,h,i,j,l⟩ p;exact⟨ws,r,n,m,o,e,c,p o b,h,i,j,l⟩
theorem Ox(I:Inv X a4z σ H s)(e:Rd H a (a7 a ps))(b:eW X.K H ps):s.TypeIs (.ref a) "dict":=by obtain⟨_,_,c,_,d⟩:=mR I e b;exact d.typeIs
theorem uB{A:UD}(b:A.units+1<Wi):(XY (Zm X.prog X.w)).room A.in1:=by show A.in1.units<Wi;rw[nM];omega
variable{A:UD}{E:Value->T6->Prop}{b:Addr}{k:List Int}{v:V}
theorem Oy{Q:Value->T6->Prop}(q:A.units+1<Wi)(I:Inv X a4z σ H s)(e:Rd H a (a7 a ps))(n:eW X.K H ps)(m:SqT X.K H b (k.map V.int))(u:eE ps k=b6 v)
  (h:∀c l,Inv X a4z σ H l->RelV v c->Q c l):Uu (Ut X.prog X.w) A (a0f (.ref a) (.ref b)) Q E s:=by
 obtain⟨y,x,w,r,d⟩:=mR I e n;obtain⟨c,hw,j⟩:=RelO.some_of (v:=v) (o:=(Zs (bU ps w) k).map (·.2)) (by rw[<- u];exact qR r k);obtain⟨p,o,i⟩:=T7.mp hw;refine a2V (uB q) (mM I m) d o ?_;rw[i];exact h c _ (I.tok _) j
theorem Oz{Q:Value->T6->Prop}(m:A.units+1<Wi)(I:Inv X a4z σ H s)(e:Rd H a (a7 a ps))(j:eW X.K H ps)(i:SqT X.K H b (k.map V.int))
  (h:∀c,Inv X a4z σ H c->Q (.bool (eE ps k).isSome) c):Uu (Ut X.prog X.w) A (VN .In (.ref b) (.ref a)) Q E s:=by
 obtain⟨l,n,o,r,d⟩:=mR I e j;refine wpAny_in_heap (uB m) (mM I i) l d ?_;have q:=(qR r k).isSome_eq;rw[YB]at q;rw[<- q];exact h _ (I.tok _)
theorem OA{Q:Value->T6->Prop}(m:A.units+1<Wi)(I:Inv X a4z σ H s)(e:Rd H a (a7 a ps))(j:eW X.K H ps)(i:SqT X.K H b (k.map V.int))
  (h:∀c,Inv X a4z σ H c->Q (.bool (!(eE ps k).isSome)) c):Uu (Ut X.prog X.w) A (VN .NotIn (.ref b) (.ref a)) Q E s:=by
 obtain⟨l,n,o,r,d⟩:=mR I e j;refine a3U (uB m) (mM I i) l d ?_;have q:=(qR r k).isSome_eq;rw[YB]at q;rw[<- q];exact h _ (I.tok _)
theorem OB{Q:Unit->T6->Prop}{u:Value}(y:A.units+1<Wi)(I:Inv X a4z σ H s)(e:H a=b6 (a7 a ps))(p:eW X.K H ps)(n:SqT X.K H b (k.map V.int))(hz:ps.length<Uo)(G:RelV v u)
  (h:∀j,Inv X a4z σ (aG H a (a7 a (iS ps k b v))) j->Q () j):Uu (Ut X.prog X.w) A (setItem (.ref a) (.ref b) u) Q E s:=by
 obtain⟨x,M,K,r,d⟩:=mR I (.of e) p;have z:(bU ps K).length<=Uo:=by have:=congrArg Wh (qQ r);rw[Uc,Uc]at this;omega
 refine wpAny_setItem_heap (hsz:=z) (uB y) (mM I n) d λm c i=>h _ ?_;obtain⟨L,B,l⟩:=Ov r k b G;rw[l]at c;have o:∃q,m.get? a=b6 q:=let⟨q,_,_,w,_⟩:=c;⟨q,w⟩;exact BW I (by rw[e];exact Xa) i o (Es x (by have:=Ou ps k b v;omega) B c)
end
noncomputable def IsTs(K:T3)(π:Nat->Addr)(n:Nat)(H:Hp):bT->List (List Int×D)->Prop:=YA λp q=>p.1=q.1/\SqT K H p.2.1 (p.1.map V.int)/\IsD K π n H p.2.2 q.2
section
variable{K:T3}{π:Nat->Addr}{n:Nat}{H:Hp}{μ:Hm}
theorem OC{b:Addr}{k:List Int}(h:IsD K π n H (.ref b) (.tup (k.map D.int))):SqT K H b (k.map V.int):=by
 cases h with
 |tup q t=>rw[ints_of' t]at q;exact q
theorem IsTs.of:∀{ps:bT}{kvs:List (List Int×D)},ps.map (·.1)=kvs.map (·.1)->IsDs K π n H (ps.map λp=>V.ref p.2.1) (kvs.map λk=>D.tup (k.1.map D.int))->IsDs K π n H (ps.map (·.2.2)) (kvs.map (·.2))->IsTs K π n H ps kvs
 |[],[],_,_,_=>.nil|[],_::_,h,_,_=>by cases h
 |_::_,[],h,_,_=>by cases h
 |p::ps,q::kvs,h,h2,h3=>by
  cases h2 with
  |cons a b=>
   cases h3 with
   |cons c d=>rw[Uv,Uv,ZH]at h;refine .cons ⟨h.1,?_,c⟩ (IsTs.of h.2 b d);rw[h.1];exact OC a
theorem IsTs.keys:∀{ps:bT}{kvs:List (List Int×D)},IsTs K π n H ps kvs->eW K H ps
 |_,_,.nil=>λp a=>nomatch a|_,_,.cons h t=>λp a=>by
  rcases UX.mp a with e|a
  ·subst e;exact h.2.1
  ·exact IsTs.keys t p a
theorem IsTs.to:∀{ps:bT}{kvs:List (List Int×D)},IsTs K π n H ps kvs->ps.map (·.1)=kvs.map (·.1)/\IsDs K π n H (ps.map λp=>V.ref p.2.1) (kvs.map λk=>D.tup (k.1.map D.int))/\IsDs K π n H (ps.map (·.2.2)) (kvs.map (·.2))
 |_,_,.nil=>⟨rfl,.nil,.nil⟩|_,_,.cons (a:=p) (b:=q) h t=>by obtain⟨a,b,c⟩:=IsTs.to t;refine⟨by rw[Uv,Uv,h.1,a],.cons ?_ b,.cons h.2.2 c⟩;show IsD K π n H (.ref p.2.1) (.tup (q.1.map D.int));rw[<- h.1];exact .tup h.2.1 (yS p.1)
theorem IsTs.val(k:List Int):∀{ps:bT}{kvs:List (List Int×D)},IsTs K π n H ps kvs->(eE ps k=b8/\bY kvs k=b8)\/∃v d,eE ps k=b6 v/\bY kvs k=b6 d/\IsD K π n H v d
 |_,_,.nil=>.inl ⟨rfl,rfl⟩|_,_,.cons (a:=p) (b:=q) h t=>by
  have a:=IsTs.val k t;unfold eE bY at a ⊢;rw[VA,VA,<- h.1];by_cases e:p.1=k
  ·simp only[e,decide_true];exact .inr ⟨_,_,rfl,rfl,h.2.2⟩
  ·simp only[e,decide_false];exact a
theorem IsTs.put{ps:bT}{kvs:List (List Int×D)}(h:IsTs K π n H ps kvs)(k:List Int){b:Addr}{v:V}{d:D}(j:SqT K H b (k.map V.int))(i:IsD K π n H v d):IsTs K π n H (iS ps k b v) (jM kvs k d):=by
 have e:(eE ps k).isSome=(bY kvs k).isSome:=by rcases h.val k with⟨a,c⟩|⟨v,d,a,c,_⟩<;>rw[a,c]<;>rfl
 have repl:∀{ps:bT}{kvs:List (List Int×D)},IsTs K π n H ps kvs->IsTs K π n H (ps.map λp=>if p.1=k then(p.1,p.2.1,v)else p) (kvs.map λp=>if p.1=k then(p.1,d)else p):=by
  intro ps kvs h;unfold IsTs at h;induction h with
  |nil=>exact .nil|@cons p q ps m h t l=>
   rw[Uv,Uv];refine .cons ?_ l;by_cases z:p.1=k
   ·rw[if_pos z,if_pos (h.1.symm.trans z)];exact⟨h.1,h.2.1,i⟩
   ·rw[if_neg z,if_neg λy=>z (h.1.trans y)];exact h
 unfold iS jM;rw[e];split
 ·exact repl h
 ·exact a0P h ⟨rfl,j,i⟩
theorem mS{a:Nat}{kvs:List (List Int×D)}(R:Rp K π H μ)(h:μ[a]?=b6 (.dT kvs)):∃ps,H (π a)=b6 (a7 (π a) ps)/\IsTs K π μ.length H ps kvs:=by obtain⟨ps,b,c,d,e⟩:=R.dT a kvs h;exact⟨ps,b,.of c d e⟩
theorem uC{a:Nat}{kvs:List (List Int×D)}(R:Rp K π H μ)(h:μ[a]?=b6 (.dF kvs)):∃b ps,H (π a)=b6 (.frz b (a7 (π a) ps))/\IsTs K π μ.length H ps kvs:=by obtain⟨b,ps,c,d,e,i⟩:=R.dF a kvs h;exact⟨b,ps,c,.of d e i⟩
theorem qS{v:V}{x:D}{k:List Int}(h:IsD K π n H v x)(e:dS x=b6 k):∃b,v=.ref b/\SqT K H b (k.map V.int):=by
 have:=DZ e;subst this;cases h with
 |tup q t=>rw[ints_of' t]at q;exact⟨_,rfl,q⟩
end
noncomputable def iT:ME:=λ_ μ=>b6 (.loc μ.length,μ++[.dT []])
section
variable{X:Cx}{pos:VW}
theorem OD{P:Ur}{w:UJ}{H:Hp}(h:Vb)(a:VX<h.objs.size):ObjOk P w H (h.push {cls:=.type "dict",data:=.dict #[]}) h.objs.size (a7 h.objs.size []):=
 Es (ws:=[]) (beq_eq_false_iff_ne.mpr (Vf (UB a))) (WA _) .nil (a4l h)
noncomputable def OE:TE:=λ_ H Q=>∀p,H p=b8->Q (.ref p) (aG H p (a7 p []))
theorem OF:PE X (.Dict [] [] pos) OE:=λa4z s σ H Q I h=>wpAny_Dict_empty ⟨.ref s.heap.objs.size,_,I.laid (a:=s.heap.objs.size) (o:=a7 s.heap.objs.size []) (t':=s.toks) (λ_ _ q=>Ua _ q) (Up _) (OD s.heap I.big),rfl,h _ (I.hok.fresh (Up _))⟩
theorem OG:QE X (.Dict [] [] pos) iT:=⟨cS OF (by
 rintro n H Q ⟨l,m,j,d,h,R,E,c,k⟩ p e;cases c;obtain⟨b,a,i⟩:=R.alloc (c:=.dT []) (o:=a7 p []) e ⟨[],rfl,rfl,.nil,.nil⟩;exact k _ _ _ b a lZ)⟩
end
noncomputable def mT:D->D->Hm->Option (D×Hm)
 |.loc a,y,μ=>match μ[a]? with
  |some (.dT kvs)=>(dS y).bind λk=>(bY kvs k).map λd=>(d,μ)|some (.dF kvs)=>(dS y).bind λk=>(bY kvs k).map λd=>(d,μ)|_=>b8
 |_,_,_=>b8
section
variable{X:Cx}{a b e:Expr}{ma mb me:ME}{pos tpos:VW}{td ty tv:TE}
noncomputable def Et(K:T3):R2:=λx y H Q=>∃a b ps k v,x=.ref a/\y=.ref b/\Rd H a (a7 a ps)/\eW K H ps/\SqT K H b (k.map V.int)/\eE ps k=b6 v/\Q v H
theorem OH(B:X.A.units+1<Wi)(z:PE X a td)(w:PE X b ty)(A:sM b):PE X (.Subscript a b pos) (λσ H Q=>td σ H λx d=>ty σ d λy i=>Et X.K x y i Q):=by intro c s σ H Q I h;refine BX a0a.lookup A (aM (z c s σ H _ I h) λu O ⟨x,d,n,M,K⟩=>aM (w c O σ d _ n K) λG T ⟨y,i,l,N,a,b,R,k,v,p,q,e,m,r,E,L⟩=>?_);subst p q;obtain rfl:u=Ug a:=M;obtain rfl:G=Ug b:=N;exact⟨Ox l e m,Oy B l e m r E λY U o j=>⟨v,i,o,j,L⟩⟩
theorem OI{K:T3}:cT K mT (Et K):=by
 intro w H M x y d G I L Q R s u c k;unfold mT at c;split at c
 ·split at c
  ·rename_i n hc;obtain⟨i,l,c⟩:=TZ.mp c;obtain⟨A,h,c⟩:=T7.mp c;cases c;cases s;obtain⟨o,j,T⟩:=mS R hc;obtain⟨b,rfl,m⟩:=qS u l;rcases T.val i with⟨_,z⟩|⟨v,B,p,q,r⟩
   ·rw[z]at h;cases h
   ·rw[q]at h;cases h;exact⟨_,b,o,i,v,rfl,rfl,.of j,T.keys,m,p,k w _ H .refl R r⟩
  ·rename_i n hc;obtain⟨i,l,c⟩:=TZ.mp c;obtain⟨A,h,c⟩:=T7.mp c;cases c;cases s;obtain⟨E,o,j,T⟩:=uC R hc;obtain⟨b,rfl,m⟩:=qS u l;rcases T.val i with⟨_,z⟩|⟨v,B,p,q,r⟩
   ·rw[z]at h;cases h
   ·rw[q]at h;cases h;exact⟨_,b,o,i,v,rfl,rfl,.inr ⟨E,j⟩,T.keys,m,p,k w _ H .refl R r⟩
  ·cases c
 ·cases c
theorem OJ{k:Nat}(i:Room k X.A)(c:QE X a ma)(d:QE X b mb)(h:kH b=c4):QE X (.Subscript a b pos) (aC mT ma mb):=⟨cS (OH (iA i) c.h d.h (xY h)) (nH OI)⟩
end
section
variable{X:Cx}{o i e:Expr}{mo mi me:ME}{pos tpos:VW}{td ty tv:TE}
noncomputable def OK(K:T3)(td ty tv:TE):TS:=λD σ H=>tv σ H λv d=>td σ d λx h=>ty σ h λy c=>∃a b ps k,x=.ref a/\y=.ref b/\c a=b6 (a7 a ps)/\eW K c ps/\SqT K c b (k.map V.int)/\ps.length<Uo/\D.nx σ (aG c a (a7 a (iS ps k b v)))
theorem OL(L:X.A.units+1<Wi)(G:PE X o td)(B:PE X i ty)(M:PE X e tv)(K:YK e (b6 (.Subscript o i tpos)) pos.line X.env=pure b9) :
  PS X (.Assign [.Subscript o i tpos] e pos) (OK X.K td ty tv):=by
 intro c s d H D I h;refine wpAny_Assign_Subscript (aM (M c s d H _ I h) λr s1 ⟨v,j,m,U,Q⟩=>aM (G c s1 d j _ m Q) λu s2 ⟨x,l,n,Y,R⟩=>aM (B c s2 d l _ n R) λO s3 ⟨y,H3,p,Z,a,b,ps,k,w,z,e,E,A,N,T⟩=>?_) K;subst w z;obtain rfl:u=Ug a:=Y;obtain rfl:O=Ug b:=Z;exact OB L p e E A N U λs4 q=>⟨d,_,q,T⟩
theorem OM{j:Nat}(hr:Room j X.A)(ho:QE X o mo)(hi:QE X i mi)(he:QE X e me)(h:dX e=c4):QS X (.Assign [.Subscript o i tpos] e pos) (zA qO mo mi me):=
 ⟨jF (OL (JU hr) ho.h hi.h he.h (mH h)) (by
 rintro E σ H ⟨π,L,μ,fl,ρ',μ',R,n,d,k⟩;obtain⟨⟨x,l⟩,h1,d⟩:=TZ.mp d;obtain⟨⟨y,m⟩,h2,d⟩:=TZ.mp d;obtain⟨⟨z,B⟩,h3,d⟩:=TZ.mp d;obtain⟨μ4,c,d⟩:=T7.mp d;cases d;refine⟨π,L,μ,x,l,R,n,h1,λG v1 H1 p U i1=>⟨G,L,l,y,m,U,n.mono p,h2,λI v2 H2 q R2 i2=>⟨I,L,m,z,B,R2,(n.mono p).mono q,h3,λK v3 H3 r M i3=>?_⟩⟩⟩;cases y with
 |loc a=>
  simp only[qO]at c;split at c
  ·rename_i w hc;obtain⟨j,h5,c⟩:=TZ.mp c;split at c
   ·rename_i hz;cases c;have v:=i2.mono r;cases v with
    |loc s=>
     obtain⟨A,O,T⟩:=mS M hc;obtain⟨b,rfl,Q⟩:=qS i3 h5;have hv:=(i1.mono q).mono r;have Z:=T.put j Q hv;obtain⟨g1,g2,g3⟩:=Z.to;have u:A.length<Uo:=by have:=congrArg Wh (T.to).1;rw[Uc,Uc]at this;omega
     refine⟨_,b,A,j,rfl,rfl,O,T.keys,Q,u,?_⟩;obtain⟨N,Y⟩:=M.put (c:=.dT (jM w j x)) (o:=a7 _ (iS A j b v1)) s O (.inr (.inr ⟨_,rfl⟩)) ⟨_,rfl,g1,g2,g3⟩;exact k K σ _ (((p.trans q).trans r).trans N) Y ((((n.mono p).mono q).mono r).mono N)
   ·cases c
  ·cases c
 |_=>simp[qO]at c)⟩
end
noncomputable def qT(b:Bool):D->D->Hm->Option (D×Hm)
 |x,.loc a,μ=>match μ[a]? with
  |some (.dT kvs)=>(dS x).map λk=>(.bl (if b then !(bY kvs k).isSome else(bY kvs k).isSome),μ)|some (.dF kvs)=>(dS x).map λk=>(.bl (if b then !(bY kvs k).isSome else(bY kvs k).isSome),μ)|_=>b8
 |_,_,_=>b8
noncomputable def zB(K:T3)(c:Bool):R2:=λx y H Q=>∃a b ps k,x=.ref b/\y=.ref a/\Rd H a (a7 a ps)/\eW K H ps/\SqT K H b (k.map V.int)/\Q (.bl (if c then !(eE ps k).isSome else(eE ps k).isSome)) H
theorem Eu{X:Cx}(l:X.A.units+1<Wi):OpR X (VN .In) (zB X.K b9):=by intro d s r H x y v u Q I m n h;obtain⟨a,b,o,k,rfl,rfl,e,j,i,q⟩:=h;obtain rfl:v=Ug b:=m;obtain rfl:u=Ug a:=n;exact Oz l I e j i λp c=>⟨.bl _,H,c,rfl,q⟩
theorem Ew{X:Cx}(l:X.A.units+1<Wi):OpR X (VN .NotIn) (zB X.K c4):=by intro d s r H x y v u Q I m n h;obtain⟨a,b,o,k,rfl,rfl,e,j,i,q⟩:=h;obtain rfl:v=Ug b:=m;obtain rfl:u=Ug a:=n;exact OA l I e j i λp c=>⟨.bl _,H,c,rfl,q⟩
theorem uD{K:T3}{l:Bool}:cT K (qT l) (zB K l):=by
 intro r H A x y d u w z Q R p q a k;unfold qT at a;split at a
 ·split at a
  ·rename_i i hc;obtain⟨h,c,a⟩:=T7.mp a;cases a;cases q;obtain⟨m,n,T⟩:=mS R hc;obtain⟨b,rfl,o⟩:=qS p c;have e:(eE m h).isSome=(bY i h).isSome:=by rcases T.val h with⟨c,j⟩|⟨v,d,c,j,_⟩<;>rw[c,j]<;>rfl
   refine⟨_,b,m,h,rfl,rfl,.of n,T.keys,o,?_⟩;rw[e];exact k r _ H .refl R (.bl _)
  ·rename_i i hc;obtain⟨h,c,a⟩:=T7.mp a;cases a;cases q;obtain⟨s,m,n,T⟩:=uC R hc;obtain⟨b,rfl,o⟩:=qS p c;have e:(eE m h).isSome=(bY i h).isSome:=by rcases T.val h with⟨c,j⟩|⟨v,d,c,j,_⟩<;>rw[c,j]<;>rfl
   refine⟨_,b,m,h,rfl,rfl,.inr ⟨s,n⟩,T.keys,o,?_⟩;rw[e];exact k r _ H .refl R (.bl _)
  ·cases a
 ·cases a
section
variable{X:Cx}{a b:Expr}{ma mb:ME}{pos:VW}
end
end L3
namespace L3
open PySem L2
noncomputable def RawD(h:Vb)(d:Addr)(es:Array DictEntry)(ep:Nat):Prop:=∃z,h.get? d=b6 z/\z.ExactDict/\z.data=.dict es ep
theorem RawD.ty{s:T6}{d:Addr} {es ep} (g:RawD s.heap d es ep):s.TypeIs (.ref d) "dict":=let⟨z,a,b,_⟩:=g;⟨z,a,b.1⟩
theorem RawD.stay{h h':Vb}{d:Addr} {es ep} (g:RawD h d es ep)(k:∀o,h.get? d=b6 o->h'.get? d=b6 o):RawD h' d es ep:=let⟨z,a,b⟩:=g;⟨z,k z a,b⟩
theorem RawD.lt{h:Vb}{d:Addr} {es ep} (g:RawD h d es ep):d<h.objs.size:=let⟨_,a,_⟩:=g;Uh a
section
variable{P:Ur}{w:UJ}{A:UD}{E:Value->T6->Prop}{s:T6}{d it:Addr}{i ep:Nat}{es:Array DictEntry}
theorem Ey{Q:Value->T6->Prop}(lo:(d==VX)=b9)(g:RawD s.heap d es ep)
  (q:Q (.ref s.heap.objs.size) {s with heap:=s.heap.push {cls:=.type "dict_keyiterator",data:=.fields #[.ref d,.int 0 0,.int es.size 0,.int ep 0]}}):Uu (Ut P w) A (a1a (.ref d)) Q E s:=by
 obtain⟨z,a,c,b⟩:=id g;refine a3i g.ty F.slot_dict_iter (Wz F.slot_dict_iter g.ty F.entry_dict_iter ?_ (F.args_dict_iter_1 _));unfold Builtin.«dict.__iter__» a4o;refine T5 (T5 (a2l g.ty ?_));show Uu _ _ (pure (Ug d)) _ _ _;refine Ui ?_;show Uu _ _ (XE d >>= _) _ _ _;unfold XE;rw[if_neg (λx=>Vl (lo.symm.trans x))];refine T5 (Ui (T5 (X4 a b (T5 (Zo a b (T5 (VP (Ui ?_))))))));exact⟨_,rfl,"dict_keyiterator",_,⟨_,UC _ rfl,rfl⟩,F.slot_dict_keyiterator_next.lookup,by simpa[WE]using q⟩
theorem uE{Q:Option Value->T6->Prop}(o:A.handled=b8)(j:s.heap.IsKeyIter it d i es.size ep)(g:RawD s.heap d es ep)
  (r:∀e a,es[i]?=b6 e->a.IsKeyIter it d (i+1) es.size ep->XT it s.heap a->Q (b6 e.key) {s with heap:=a})
  (v:es[i]?=b8->∀a,Zk it s.heap a->Q b8 {s with heap:=a}):Uu (Ut P w) A (Y0 (.ref it)) Q E s:=by
 obtain⟨y,c,p,b⟩:=id j;obtain⟨z,l,B,m⟩:=id g;have nm:∀{Q:String->T6->Prop}{A:UD}{E:Value->T6->Prop},Q "dict_keyiterator" s->Uu (Ut P w) A (a3P (.ref it)) Q E s:=λq=>wpAny_typeNameOfWhole_keyiter j.typeIs q;unfold Y0;refine T5 (ZY (Zb (name:=We "__next__") j.typeIs F.slot_dict_keyiterator_next (Wz F.slot_dict_keyiterator_next j.typeIs F.entry_dict_keyiterator_next ?_ (F.args_dict_keyiterator_next_1 _))));refine T5 (Ui (T5 (T5 (T5 (nm (Ui (T5 (a4r c b ?_))))))));simp only[show XD "dict_keyiterator"=b9 by decide,Ud,if_false];show Uu _ _ (if(Ug d==US)=c4 then _ else _) _ _ _;rw[if_neg (show ¬ (Ug d==US)=c4 from λx=>Vl x)];refine T5 (Ui (T5 (X4 l m ?_)));rw[if_neg (λx=>by simp at x)];refine T5 (Ui (T5 (Zo l m ?_)));rw[if_neg (λx=>by simp at x)];refine Ui ?_;simp only[if_neg (show ¬ ((i:Int)<0) by omega),W0];cases n:es[i]? with
 |some e=>
  refine T5 (T5 (nm (Ui (T5 (a2m j.typeIs ?_)))));show Uu _ _ (a0Z (.ref it) 1 (WE ((i:Int)+1)) >>= _) _ _ _;refine T5 (Xb c b (by simp) ?_);have h:(s.heap.update it (Xc (·.setIfInBounds 1 (WE ((i:Int)+1))))).IsKeyIter it d (i+1) es.size ep:=
   ⟨_,Vu _ c (WU (WQ b _)),(ZU ..).trans p,by simp[WQ b,WE]⟩
  generalize hu:s.heap.update it (Xc (·.setIfInBounds 1 (WE ((i:Int)+1))))=u at h;refine T5 (Vx (T5 (a2m (s:={s with heap:=u}) h.typeIs ?_)));show Uu _ _ (pure e.key) _ _ _;exact Ui (Ui ⟨_,rfl,Ui (r e u n h (hu▸YU ..))⟩)
 |none=>refine T5 (T5 (nm (Ui ?_)));show Uu _ _ (a0Z (.ref it) 0 .none >>= _) _ _ _;refine T5 (Xb c b (by simp) ?_);show Uu _ _ (a1V (.type "StopIteration") [] >>= _) _ _ _;simp only[a1V,a4u];refine T5 (T5 (VP ?_ (by size_fits)));refine T5 (m:=X7 _ _) (a2C (a:=US) (by first|rfl|(simp only[X7];rfl)) (VP ?_ (by size_fits)));simp only[a4t];refine T5 (a1y ?_);rw[show A.in1.handled=b8 from o];refine T5 (Ui (a2A ?thrown));case thrown=>exact T5 (a0v (T:="StopIteration") (b:=c4) ⟨_,UC _ rfl,rfl⟩ a1b (Ui (v n _ (((YU ..).extBut.push _).push _))))
theorem ON(n:A.handled=b8)(m:d≠it)(es:Array DictEntry)(ep:Nat):Walks P w A it [it,d] [it] es.size (λi v=>∃e,es[i]?=b6 e/\v=e.key) (λi h=>h.IsKeyIter it d i es.size ep/\RawD h d es ep) where
 sub:=λb a=>by rw[U6.mp a];exact UZ ..
 frame:=λ_ _ _ st k=>⟨st.1.at λo e=>k it (by simp) o e,st.2.stay λo e=>k d (by simp) o e⟩
 item:=λi s Q E u st q=>uE n st.1 st.2 (λe l c r p=>q _ l s.toks ⟨e,c,rfl⟩ ⟨r,st.2.stay λo j=>p.extBut d o m j⟩ λb o a j=>p.extBut b o (λz=>a (by simp[z])) j) (λc=>by simp at c;omega)
 done:=λs Q E st q=>uE n st.1 st.2 (λe l c=>by simp at c) (λ_ l x=>q l s.toks λb o a j=>x b o (λz=>a (by simp[z])) j)
 self:=λ_ _ _ _ st q=>a2B st.1 q
theorem OO(lo:(d==VX)=b9):PySem.W.KdlSrc P w "dict" d d es.size (λi v=>∃e,es[i]?=b6 e/\v=e.key) (λh=>RawD h d es ep) where
 type:=λ_ g=>g.ty
 there:=λ_ g=>⟨g.lt,g.lt⟩
 keep:=λ_ _ g k=>g.stay λo e=>k d (.inl rfl) o e
 notList:=by decide
 notTuple:=by decide
 hint:=λ_ _ _ _ g q=>PySem.W.kdl_hint_dict g.ty q
 iter:=λ_ _ a g=>⟨_,_,(λ_ _ q=>Ey lo g q),ON a (UB g.lt) es ep,⟨⟨_,UC _ rfl,rfl,rfl⟩,g.stay λo e=>Ua _ e⟩⟩
theorem OP(lo:(d==VX)=b9):MeetsIn P w (Builtin.«dict.__len__» ⟨[.ref d],[]⟩) (λ_ R s=>∃es ep,RawD s.heap d es ep/\R (.ok (.ret (.int (es.size:Nat) s.toks))) {s with toks:=s.toks+1}):=
 .of_wp λA R s ⟨es,ep,⟨z,a,c,b⟩,q⟩=>by show Uu _ _ (dictSize d >>= _) _ _ _;unfold dictSize;refine T5 (T5 (X4 a b (Ui ?_)));show Uu _ _ (a4m d >>= _) _ _ _;refine T5 (wpAny_pendingCount_other lo (wpAny_ret_mkInt ?_));rw[a3F];exact q
theorem OQ{Q:Value->T6->Prop}(lo:(d==VX)=b9)(g:RawD s.heap d es ep)(hz:es.size<=Uo)(q:Q (.int (es.size:Nat) (s.toks+1)) {s with toks:=s.toks+1+1}):Uu (Ut P w) A (call (.builtin "len") [.ref d]) Q E s:=
 a4f g.ty F.slot_dict_len (λb a=>call_meetsIn F.slot_dict_len g.ty F.entry_dict_len (F.args_dict_len_1 _) (OP lo) ⟨es,ep,g,a⟩) (by omega) (by rw[Vm]at hz;omega) q
end
theorem zC:∀{ps:bT}{ws:List Value},Vals (ps.map (·.2.2)) ws->(bU ps ws).map (λx=>Ug x.2.1)=ps.map λp=>Ug p.2.1
 |[],_,_=>by simp[bU]
 |p::ps,_,.cons r t=>by have a:=zC (ps:=ps) t;unfold bU at a ⊢;rw[Vi,Uv,Uv,a]
theorem Ez:∀ps:bT,Vals (ps.map λp=>V.ref p.2.1) (ps.map λp=>Ug p.2.1)
 |[]=>.nil|p::ps=>.cons rfl (Ez ps)
section
variable{X:Cx}{a4z:List (Addr×Obj)}{σ:St}{H:Hp}{s:T6}{a:Addr}{ps:bT}
theorem zD(I:Inv X a4z σ H s)(e:H a=b6 (a7 a ps))(i:eW X.K H ps):(a==VX)=b9/\ps.length<=Uo/\∃es ep,RawD s.heap a es ep/\es.toList.map (·.key)=ps.map λp=>Ug p.2.1:=by obtain⟨l,j,m,r,z,es,ep,b,c,d,h,_⟩:=mR I (.of e) i;refine⟨l,j,es,ep,⟨z,b,c,d⟩,?_⟩;rw[h,Vo,<- zC r];rfl
noncomputable def EA(K:T3):List V->Hp->VK->Prop:=λxs H Q=>∃a ps,xs=[V.ref a]/\H a=b6 (a7 a ps)/\eW K H ps/\Q (.int ps.length) H
theorem OR:CallR X (.builtin "len") (EA X.K):=by
 intro a4z s σ H p o Q I r h;obtain⟨a,ps,rfl,c,e,q⟩:=h;obtain⟨u,rfl,l⟩:=iI r;cases l;obtain⟨j,n,b,m,g,d⟩:=zD I c e;have i:b.size=ps.length:=by have:=congrArg Wh d;simpa using this
 refine OQ j g (by omega) ?_;rw[i];exact⟨.int ps.length,H,(I.tok _).tok _,⟨_,rfl⟩,q⟩
noncomputable def EB(K:T3):List V->Hp->VK->Prop:=λxs H Q=>∃a ps,xs=[V.ref a]/\H a=b6 (a7 a ps)/\eW K H ps/\∀l,H l=b8->Q (.ref l) (aG H l (.lst (ps.map λp=>V.ref p.2.1)))
theorem OS(hc:X.calm=c4):CallR X (.type "list") (EB X.K):=by
 intro a4z s σ H R O Q I r h;obtain⟨a,ps,rfl,y,z,q⟩:=h;obtain⟨u,rfl,G⟩:=iI r;cases G;obtain⟨E,A,n,L,g,d⟩:=zD I y z;have N:n.size=ps.length:=by have:=congrArg Wh d;simpa using this
 refine PySem.W.kdl_call (OO E) (I.ok.hd hc) g (by omega) λM K b l B x c=>?_;refine⟨.ref s.heap.objs.size,_,I.laid (t':=K) (a:=s.heap.objs.size) (o:=.lst (ps.map λp=>V.ref p.2.1)) B (Up _) ?_,rfl,q _ (I.hok.fresh (Up _))⟩;refine⟨by rw[Uc];exact A,b.toList,l,?_,by simpa using x⟩;have m:b.toList=ps.map λp=>Ug p.2.1:=by
  rw[<- d];refine XQ λi=>?_;rw[UU,WO,WO];cases j:b[i]? with
  |some v=>obtain⟨e,o,w⟩:=c.2 i v j;rw[o,w];rfl|none=>
   have:b.size<=i:=by simpa using j
   rw[a0O (by rw[<- c.1];exact this)];rfl
 rw[m];exact Ez ps
end
section
variable{X:Cx}{a b o i e:Expr}{ma mb mo mi me:ME}{pos tpos:VW}{k:Nat}
theorem OT(n:Room k X.A)(l:QE X a ma)(m:QE X b mb)(h:kH b=c4):QE X (.Subscript a b pos) (aC aH ma mb):=
 nU (nU (m:=aC (λx y j=>match mT x y j with|some r=>b6 r|none=>qH x y j) ma mb) (OJ n l m h) (LW n l m h) (iN λx y j r c=>by
  split at c
  ·rename_i z;rw[z];exact .inl c
  ·exact .inr c)) (Dd l m h) (iN λx y j r c=>by
  unfold aH at c;split at c
  ·split at c
   ·rename_i d hc;refine .inl ?_;simp only[mT,qH,hc];exact c
   ·rename_i d hc;refine .inl ?_;simp only[mT,hc];rw[c]
   ·rename_i d hc;refine .inl ?_;simp only[mT,hc];rw[c]
   ·exact .inr c
  ·exact .inr c)
noncomputable def oN(c:Bool):D->D->Hm->Option (D×Hm):=λx y μ=>match qT c x y μ with
 |some r=>b6 r|none=>kM c x y μ
theorem uF{c:Bool}(x y:D)(μ:Hm)(r:D×Hm)(h:oN c x y μ=b6 r):qT c x y μ=b6 r\/kM c x y μ=b6 r:=by
 unfold oN at h;split at h
 ·rename_i z;rw[z];exact .inl h
 ·exact .inr h
theorem EC{l:Bool}(x y:D)(μ:Hm)(r:D×Hm)(h:bZ l x y μ=b6 r):(∃i j,x=.str i/\y=.str j)\/oN l x y μ=b6 r:=by
 cases y with
 |loc a=>
  refine .inr ?_;have e:bZ l x (.loc a) μ=(match μ[a]? with
   |some (.dT d)=>(dS x).map λk=>(D.bl (if l then !(bY d k).isSome else(bY d k).isSome),μ)|some (.dF d)=>(dS x).map λk=>(D.bl (if l then !(bY d k).isSome else(bY d k).isSome),μ)
   |_=>kM l x (.loc a) μ):=by cases x<;>rfl
  rw[e]at h;unfold oN;simp only[qT];cases hc:μ[a]? with
  |none=>rw[hc]at h;exact h|some c=>
   rw[hc]at h;cases c with
   |dT d=>dsimp only at h ⊢;rw[h]|dF d=>dsimp only at h ⊢;rw[h]|_=>exact h
 |str j=>
  cases x with
  |str i=>exact .inl ⟨i,j,rfl,rfl⟩|_=>exact .inr h
 |_=>cases x<;>exact .inr h
theorem ED(x y:D)(μ:Hm)(r:D×Hm)(h:bZ b9 x y μ=b6 r):xT x y μ=b6 r\/oN b9 x y μ=b6 r:=by
 rcases EC x y μ r h with⟨i,j,rfl,rfl⟩|z
 ·exact .inl h
 ·exact .inr z
theorem EE(x y:D)(μ:Hm)(r:D×Hm)(h:bZ c4 x y μ=b6 r):yI x y μ=b6 r\/oN c4 x y μ=b6 r:=by
 rcases EC x y μ r h with⟨i,j,rfl,rfl⟩|z
 ·exact .inl h
 ·exact .inr z
theorem OU(j:Room k X.A)(c:QE X a ma)(d:QE X b mb)(h:dW b=c4):QE X (.Compare a [.In] [b] pos) (aC (bZ b9) ma mb):=
 nU ⟨gC BC CM c.h d.h (gK h)⟩ (nU ⟨gC (Eu (iA j)) uD c.h d.h (gK h)⟩ ⟨gC (Dw (tL j)) tJ c.h d.h (gK h)⟩ (iN uF)) (iN ED)
theorem OV(j:Room k X.A)(c:QE X a ma)(d:QE X b mb)(h:dW b=c4):QE X (.Compare a [.NotIn] [b] pos) (aC (bZ c4) ma mb):=
 nU ⟨gC B4 Dy c.h d.h (gK h)⟩ (nU ⟨gC (Ew (iA j)) uD c.h d.h (gK h)⟩ ⟨gC (Dx (tL j)) tJ c.h d.h (gK h)⟩ (iN uF)) (iN EE)
theorem OW(j:Room k X.A)(c:QE X a ma)(d:QE X b mb)(h:dW b=c4):QT X (.Compare a [.In] [b] pos) (aP (aC (bZ b9) ma mb)):=
 tH ⟨gD BC CM c.h d.h (gK h)⟩ (tH ⟨gD (Eu (iA j)) uD c.h d.h (gK h)⟩ ⟨gD (Dw (tL j)) tJ c.h d.h (gK h)⟩ (tI (iN uF))) (tI (iN ED))
theorem OX(j:Room k X.A)(c:QE X a ma)(d:QE X b mb)(h:dW b=c4):QT X (.Compare a [.NotIn] [b] pos) (aP (aC (bZ c4) ma mb)):=
 tH ⟨gD B4 Dy c.h d.h (gK h)⟩ (tH ⟨gD (Ew (iA j)) uD c.h d.h (gK h)⟩ ⟨gD (Dx (tL j)) tJ c.h d.h (gK h)⟩ (tI (iN uF))) (tI (iN EE))
theorem OY(l:Room k X.A)(j:QE X o mo)(d:QE X i mi)(c:QE X e me)(h:dX e=c4):QS X (.Assign [.Subscript o i tpos] e pos) (fJ mo mi me):=OM l j d c h
end
end L3
namespace L3
open PySem L2
end L3
namespace L3
open PySem L2
end L3
namespace L3
open PySem L2
noncomputable def ItI(h:Vb)(c d S:Addr)(i n ep:Nat):Prop:=∃(b ok j:Value)(e:Bool),h.get? c=b6 {cls:=.type "dict_itemiterator",dict:=b8,data:=.fields #[b,.bool e,.ref d,.int i 0,.int n 0,.int ep 0,ok,j],slots:=#[]} /\
 (b=.none\/∃(a:Addr)(o:Obj),b=WE a/\h.get? a=b6 o/\a≠c/\a≠S)
theorem ItI.ty{s:T6}{a d S:Addr} {i n ep} (j:ItI s.heap a d S i n ep):s.TypeIs (.ref a) "dict_itemiterator":=let⟨_,_,_,_,e,_⟩:=j;⟨_,e,rfl⟩
theorem ItI.stay{h h':Vb}{c d S:Addr} {i n ep} (j:ItI h c d S i n ep)(p:c≠S)(k:∀b o,b≠S->h.get? b=b6 o->h'.get? b=b6 o):ItI h' c d S i n ep:=by
 obtain⟨w,ok,q,m,e,r⟩:=j;refine⟨w,ok,q,m,k _ _ p e,?_⟩;rcases r with r|⟨a,o,s,u,v,l⟩
 ·exact .inl r
 ·exact .inr ⟨a,o,s,k _ _ l u,v,l⟩
section
variable{P:Ur}{w:UJ}{A:UD}{E:Value->T6->Prop}{s:T6}{d it S:Addr}{i ep:Nat}{es:Array DictEntry}
theorem EF{Q:Option Value->T6->Prop}(hh:A.handled=b8)(j:ItI s.heap it d S i es.size ep)(g:RawD s.heap d es ep)(hS:S<s.heap.objs.size)
  (q1:∀e m,es[i]?=b6 e->ItI m it d S (i+1) es.size ep->m.get? s.heap.objs.size=b6 {cls:=.type "tuple",data:=.seq #[e.key,e.val]}->m.objs.size=s.heap.objs.size+1->(∀b o,b≠it->s.heap.get? b=b6 o->m.get? b=b6 o)->Q (b6 (.ref s.heap.objs.size)) {s with heap:=m})
  (q2:es[i]?=b8->∀m,Zk it s.heap m->Q b8 {s with heap:=m}):Uu (Ut P w) A (Y0 (.ref it)) Q E s:=by
 obtain⟨z,g1,g2,g3⟩:=id g;have ty:=j.ty;obtain⟨h,y,r,G,B⟩:=s;obtain⟨wn,ok,N,T,M,jr⟩:=j;have nm:∀{Q:String->T6->Prop}{A:UD}{E:Value->T6->Prop},Q "dict_itemiterator" ⟨h,y,r,G,B⟩->Uu (Ut P w) A (a3P (.ref it)) Q E ⟨h,y,r,G,B⟩:=λq=>wpAny_typeNameOfWhole_itemiter ty q;unfold Y0;refine T5 (ZY (Zb (name:=We "__next__") ty F.slot_dict_itemiterator_next (Wz F.slot_dict_itemiterator_next ty F.entry_dict_itemiterator_next ?_ (F.args_dict_itemiterator_next_1 _))));refine T5 (Ui (T5 (T5 (T5 (nm (Ui (T5 (a4r M rfl ?_))))))));simp only[show XD "dict_itemiterator"=c4 by decide,if_true];show Uu _ _ (if(Ug d==US)=c4 then _ else _) _ _ _;rw[if_neg (show ¬ (Ug d==US)=c4 from λx=>Vl x)];refine T5 (Ui (T5 (X4 g1 g3 ?_)));rw[if_neg (λx=>by simp at x)];refine T5 (Ui (T5 (Zo g1 g3 ?_)));rw[if_neg (λx=>by simp at x)];refine Ui ?_;simp only[if_neg (show ¬ ((i:Int)<0) by omega),W0];have U:it<h.objs.size:=Uh M;cases he:es[i]? with
 |some e=>
  refine T5 (T5 (nm (Ui (T5 (Zl ty ?_)))));show Uu _ _ (a0Z (.ref it) 3 (WE ((i:Int)+1)) >>= _) _ _ _;refine T5 (Xf M (by simp) λu O R=>?_);replace R:XT it h u:=R;replace O:u.get? it=b6 {cls:=.type "dict_itemiterator",dict:=b8,data:=.fields #[wn,.bool T,.ref d,.int ((i+1:Nat):Int) 0,.int es.size 0,.int ep 0,ok,N],slots:=#[]}:=by rw[show((i+1:Nat):Int)=(i:Int)+1 by omega];simpa[WE]using O
  have H:Shared.TypeIs ⟨u,y,r,G,B⟩ (.ref it) "dict_itemiterator":=⟨_,O,rfl⟩;refine T5 (Vx (T5 (Zl H (T5 (Zl H ?_)))));show Uu _ _ (YO (.ref it) 6 e.key e.val) _ _ _;unfold YO;refine T5 (a0V ?_);have zu:u.objs.size=h.objs.size:=R.1;have l:=Ua {cls:=.type "tuple",data:=.seq #[e.key,e.val]} O;have Z:(u.push {cls:=.type "tuple",data:=.seq #[e.key,e.val]}).get? h.objs.size=b6 {cls:=.type "tuple",data:=.seq #[e.key,e.val]}:=zu▸UC u rfl;have vz:(u.push {cls:=.type "tuple",data:=.seq #[e.key,e.val]}).objs.size=h.objs.size+1:=by rw[XS,zu]
  have I:∀b o,b≠it->h.get? b=b6 o->(u.push {cls:=.type "tuple",data:=.seq #[e.key,e.val]}).get? b=b6 o:=λb o L x=>Ua _ (R.extBut b o L x);show Uu _ _ (YE (.ref it) >>= _) _ _ ⟨u.push {cls:=.type "tuple",data:=.seq #[e.key,e.val]},y,r,G,B⟩;rw[zu];generalize u.push {cls:=.type "tuple",data:=.seq #[e.key,e.val]}=v at l Z vz I;have c:h.objs.size≠it:=Wf U;have fin:∀p:Vb,ItI p it d S (i+1) es.size ep->XT it v p->Q (b6 (.ref h.objs.size)) ⟨p,y,r,G,B⟩:=λp j' Y=>q1 e p he j' (Y.extBut _ _ c Z) (by show p.objs.size=_;rw[Y.1,vz]) λb o L x=>Y.extBut b o L (I b o L x);refine T5 ?_;unfold YE;rcases jr with rfl|⟨a,o,rfl,X,n,r4⟩
  ·refine T5 (V4 l rfl (x:=.none) rfl (Ui ?_));simp only[if_true];refine T5 (V4 l rfl (x:=ok) rfl (T5 (V4 l rfl (x:=N) rfl ?_)));refine T5 (Xf l (by simp) λv3 x3 K=>T5 (Xf x3 (by simp) λv4 x4 y4=>T5 (Xf x4 (by simp) λv5 x5 y5=>T5 (Xf x5 (by simp) λv6 x6 y6=>?_))));refine T5 (wpAny_letGo (Ui (Ui ⟨_,rfl,Ui (fin v6 ?_ ?_)⟩)))
   ·refine⟨WE h.objs.size,e.key,e.val,b9,by simpa using x6,.inr ⟨h.objs.size,_,rfl,y6.extBut _ _ c (y5.extBut _ _ c (y4.extBut _ _ c (K.extBut _ _ c Z))),c,Wf hS⟩⟩
   ·exact((K.trans y4).trans y5).trans y6
  ·refine T5 (V4 l rfl (x:=WE a) rfl ?_);show Uu _ _ (loadIfAlive ((a:Int).toNat) >>= _) _ _ _;rw[W0];refine T5 (PySem.W.kdx_alive (I a o n X) ?_);simp only[Option.isNone_some,Ud,if_false];refine T5 (V4 l rfl (x:=.bool T) rfl ?_);cases T with
   |true=>rw[if_neg (show ¬ ((V5 c4 != V5 c4)=c4)from λx=>Vl x)];refine Ui ?_;simp only[Ud,if_false];exact Ui (Ui ⟨_,rfl,Ui (fin v ⟨_,ok,N,c4,l,.inr ⟨a,o,rfl,I a o n X,n,r4⟩⟩ (a0D _ _))⟩)|false=>rw[if_pos (show(V5 b9 != V5 c4)=c4 from rfl)];refine T5 (Xf l (by simp) λv3 x3 K=>Ui ?_);simp only[Ud,if_false];exact Ui (Ui ⟨_,rfl,Ui (fin v3 ⟨_,ok,N,c4,by simpa using x3,.inr ⟨a,o,rfl,K.extBut a o n (I a o n X),n,r4⟩⟩ K)⟩)
 |none=>refine T5 (T5 (nm (Ui ?_)));show Uu _ _ (a0Z (.ref it) 2 .none >>= _) _ _ _;refine T5 (Xb M rfl (by simp) ?_);show Uu _ _ (a1V (.type "StopIteration") [] >>= _) _ _ _;simp only[a1V,a4u];refine T5 (T5 (VP ?_ (by size_fits)));refine T5 (m:=X7 _ _) (a2C (a:=US) (by first|rfl|(simp only[X7];rfl)) (VP ?_ (by size_fits)));simp only[a4t];refine T5 (a1y ?_);rw[show A.in1.handled=b8 from hh];refine T5 (Ui (a2A ?thrown));case thrown=>exact T5 (a0v (T:="StopIteration") (b:=c4) ⟨_,UC _ rfl,rfl⟩ a1b (Ui (q2 he _ (((YU ..).extBut.push _).push _))))
theorem OZ{r:Addr}{Q:Value->T6->Prop}(a:s.heap.IsItemsView r d)(g:RawD s.heap d es ep)
  (q:Q (.ref s.heap.objs.size) {s with heap:=s.heap.push {cls:=.type "dict_itemiterator",data:=.fields #[.none,.bool b9,.ref d,.int 0 0,.int es.size 0,.int ep 0,.none,.none]}}):Uu (Ut P w) A (a1a (.ref r)) Q E s:=by
 obtain⟨y,e,l,h⟩:=id a;obtain⟨z,b,j,c⟩:=id g;refine a3i a.typeIs F.slot_dict_items_iter (Wz F.slot_dict_items_iter a.typeIs F.entry_dict_items_iter ?_ (F.args_dict_items_iter_1 _));unfold Builtin.«dict_items.__iter__» a2z a2y;refine T5 (Ui (T5 (T5 (V4 e h (x:=.ref d) rfl (Ui (T5 (T5 (X4 b c (T5 (Zo b c ?_))))))))));simp only[show XD "dict_itemiterator"=c4 by decide,if_true];refine VP (Ui ⟨_,rfl,"dict_itemiterator",_,⟨_,UC _ rfl,rfl⟩,F.slot_dict_itemiterator_next.lookup,?_⟩) (by simp only[sizeOk,YF,Ue,Uj,UA,VR];rw[Vm];omega);simpa[WE,YF]using q
end
structure PrsAt(es:Array DictEntry)(lo:Addr)(h:Vb)(as:List Addr):Prop where
 up:as.Pairwise (·<·)
 over:∀a∈as,lo<a
 prs:∀(j:Nat)(a:Addr),as[j]?=b6 a->∃e,es[j]?=b6 e/\h.get? a=b6 {cls:=.type "tuple",data:=.seq #[e.key,e.val]}
theorem PrsAt.stay{es:Array DictEntry}{lo:Addr}{h h':Vb}{as:List Addr}(p:PrsAt es lo h as)(k:∀b o,lo<b->h.get? b=b6 o->h'.get? b=b6 o):PrsAt es lo h' as:=
 ⟨p.up,p.over,λj a c=>let⟨e,d,i⟩:=p.prs j a c;⟨e,d,k a _ (p.over a (UL c)) i⟩⟩
theorem PrsAt.lt{es:Array DictEntry}{lo:Addr}{h:Vb}{as:List Addr}(p:PrsAt es lo h as){a:Addr}(b:a∈as):a<h.objs.size:=by obtain⟨j,c⟩:=Xe.mp b;obtain⟨_,_,e⟩:=p.prs j a c;exact Uh e
theorem PrsAt.snoc{es:Array DictEntry}{lo:Addr}{h:Vb}{as:List Addr}{b:Addr}{e:DictEntry}(p:PrsAt es lo h as)(m:∀a∈as,a<b)(o:lo<b)(n:es[as.length]?=b6 e)(q:h.get? b=b6 {cls:=.type "tuple",data:=.seq #[e.key,e.val]}):PrsAt es lo h (as++[b]):=by
 refine⟨VY.mpr ⟨p.up,List.pairwise_singleton _ _,λa d c hc=>by rw[U6.mp hc];exact m a d⟩,λa d=>?_,λj a i=>?_⟩
 ·rcases Vk.mp d with d|d
  ·exact p.over a d
  ·rw[U6.mp d];exact o
 ·rcases YL j as.length with l|l|l
  ·rw[Ul l]at i;exact p.prs j a i
  ·subst l;have:b=a:=by simpa using i
   subst this;exact⟨e,n,q⟩
  ·rw[VU (by simp;omega)]at i;cases i
section
variable{P:Ur}{w:UJ}{A:UD}{s:T6}{R:a3d->T6->Prop}{es:Array DictEntry}{ep:Nat}{S I d:Addr}
theorem O0(T:A.handled=b8)(y:S<I)(L:d≠S)(K:d≠I)(hn:es.size<=Uo)(res:Value){h1:Vb}
  (U:∀(h':Vb)(tk:Nat)(l:Array Value)(c:Nat)(as:List Addr),(∀b o,b≠S->b≠I->h1.get? b=b6 o->h'.get? b=b6 o)->h'.get? S=b6 {cls:=.type "list",dict:=b8,data:=.seq l c,slots:=#[]}->as.length=es.size->PrsAt es I h' as->l.toList=as.map Ug->R (.ok (.ret res)) {s with heap:=h',toks:=tk}) :
  ∀(k i:Nat)(h:Vb)(tk c:Nat)(l:Array Value)(as:List Addr),es.size-i=k->i<=es.size->ItI h I d S i es.size ep->RawD h d es ep->(∀b o,b≠S->b≠I->h1.get? b=b6 o->h.get? b=b6 o)->h.get? S=b6 {cls:=.type "list",dict:=b8,data:=.seq l c,slots:=#[]}->
   l.toList=as.map Ug->as.length=i->PrsAt es I h as->I<h.objs.size->YW (Ut P w) A (.builtin "list.extend.loop" ⟨[.ref S,.ref I,res],[]⟩) R {s with heap:=h,toks:=tk}:=by
 have ne:S≠I:=UB y;intro k;induction k with
 |zero=>intro i h tk c l as Y X j g O p G B H lt;refine Yy F.entry_extend_loop ?_;rw[X3 F.plain_extend_loop _];refine T5 (m:=Y0 (.ref I)) (EF (s:={s with heap:=h,toks:=tk}) (A:=A.in1) T j g (Uh p) (λe h' n=>?_) λ_ h' x=>Ui (U h' tk l c as (λb o E u z=>x b o u (O b o E u z)) (x S _ ne p) (by omega) (H.stay λb o q z=>x b o (Wf q) z) G));rw[a0O (by omega)]at n;cases n|succ k ih=>
  intro i h tk c l as Y X j g O p G B H lt;have sz:l.size=i:=by rw[<- Yj,G,Uc,B]
  refine Yy F.entry_extend_loop ?_;rw[X3 F.plain_extend_loop _];refine T5 (m:=Y0 (.ref I)) (EF (s:={s with heap:=h,toks:=tk}) (A:=A.in1) T j g (Uh p) (λe h' n j' N Z m=>?_) λn=>?_)
  ·dsimp only at N Z m ⊢;have v:=m S _ ne p;have Q:S<h.objs.size:=Uh p;have r:∀b o,b≠S->h'.get? b=b6 o->(h'.update S (Wg (·.push (Ug h.objs.size)))).get? b=b6 o:=λb o q z=>(U4 _ _ (Vf q)).trans z;refine T5 (m:=updateSeq S (·.push (Ug h.objs.size))) (a0L v rfl (Ui ⟨ZZ F.plain_extend_loop _,?_⟩) (by rw[sz];omega) (by show(l.push (Ug h.objs.size)).size<=Uo+1;rw[Array.size_push,sz];omega));refine ih (i+1) _ tk _ (l.push (Ug h.objs.size)) (as++[h.objs.size]) (by omega) (by omega) (j'.stay (Vf ne) r) (g.stay λo z=>r d o L (m d o K z)) (λb o E u z=>r b o E (m b o u (O b o E u z))) (Vu _ v rfl) (by rw[V8,G,WX];rfl) (by rw[Uj,B];rfl) ?_ ?_
   ·exact((H.stay λb o q z=>r b o (Wf (ZW y q)) (m b o (Wf q) z))).snoc (λa M=>H.lt M) lt (by rw[B];exact n) (r _ _ (Wf Q) N)
   ·exact ZW lt (Uh (r _ _ (Wf Q) N))
  ·rw[Array.getElem?_eq_getElem (by omega)]at n;cases n
theorem O1{r:Addr}{res:Value}{c0:Nat}(L:A.handled=b8)(u:s.heap.IsItemsView r d)(g:RawD s.heap d es ep)(Sr:S≠r)(z:d≠S)(E:s.heap.get? S=b6 {cls:=.type "list",data:=.seq #[] c0}) (N:es.size<=Uo)
  (H:∀(h':Vb)(tk:Nat)(l:Array Value)(c:Nat)(as:List Addr),(∀b o,b≠S->s.heap.get? b=b6 o->h'.get? b=b6 o)->h'.get? S=b6 {cls:=.type "list",dict:=b8,data:=.seq l c,slots:=#[]}->as.length=es.size->PrsAt es s.heap.objs.size h' as->l.toList=as.map Ug->R (.ok (.ret res)) {s with heap:=h',toks:=tk}) :
  Uu (Ut P w) A.in1 (Zy (.ref S) (.ref r) res) (λfin p=>match fin with|.done f=>R (.ok f) p|.again c'=>c'.quiet=c4/\YW (Ut P w) A c' R p) (λe p=>R (.error e) p) s:=by
 have y:S<s.heap.objs.size:=Uh E;have G:d<s.heap.objs.size:=g.lt;have run:∀(h:Vb)(q tk:Nat),(∀b o,b≠S->(s.heap.push {cls:=.type "dict_itemiterator",data:=.fields #[.none,.bool b9,.ref d,.int 0 0,.int es.size 0,.int ep 0,.none,.none]}).get? b=b6 o->h.get? b=b6 o)->h.get? S=b6 {cls:=.type "list",data:=.seq #[] q}->
   YW (Ut P w) A (.builtin "list.extend.loop" ⟨[.ref S,.ref s.heap.objs.size,res],[]⟩) R {s with heap:=h,toks:=tk}:=by
  intro h q tk v i;have B:=v s.heap.objs.size _ (Wf y) (UC _ rfl);exact O0 (s:=s) (h1:=s.heap) (ep:=ep) L y z (UB G) N res (λh' x l c as Q T U X Y=>H h' x l c as (λb o m e=>Q b o m (UB (Uh e)) e) T U X Y) es.size 0 h tk q #[] [] (ZV _) (WA _)
   ⟨.none,.none,.none,b9,B,.inl rfl⟩ (g.stay λo e=>v d o z (Ua _ e)) (λb o m _ e=>v b o m (Ua _ e)) i rfl rfl ⟨Y6,λ_ K=>(by cases K),λj a M=>(by simp at M)⟩ (Uh B)
 unfold Zy;refine T5 (wpAny_typeOf (T:="dict_items") u.typeIs ?_);simp only[show ZP (.ref S) (.ref r)=b9 by simp[ZP,Sr],show(Uw "dict_items"==Uw "list")=b9 by decide,show(Uw "dict_items"==Uw "tuple")=b9 by decide,a3g,Ud,if_false];refine T5 (OZ u g ?_);have i:=Ua {cls:=.type "dict_itemiterator",data:=.fields #[.none,.bool b9,.ref d,.int 0 0,.int es.size 0,.int ep 0,.none,.none]} E;refine T5 (Vx (PySem.W.kdx_hint (let⟨o,O,hc,_⟩:=u;⟨o,Ua _ O,hc⟩) ?_));refine wpAny_ite_split (λ_=>?_) (λ_=>Ui ⟨ZZ F.plain_extend_loop _,run _ c0 _ (λb o _ e=>e) i⟩);refine T5 (XU (T5 ?_));refine T5 (m:=updateSeq S (·.push .none)) (a0L i rfl ?_);have n:=Vu (Wg (·.push US)) i rfl;refine a0L (hz:=by seq_fits) n rfl (Ui ⟨ZZ F.plain_extend_loop _,run _ _ _ (λb o m e=>?_) (Vu (Wg (·.pop)) n rfl)⟩);exact(U4 _ _ (Vf m)).trans ((U4 _ _ (Vf m)).trans e)
theorem O2{r:Addr}{E:Value->T6->Prop}{T:List Value->T6->Prop}(H:A.handled=b8)(v:s.heap.IsItemsView r d)(g:RawD s.heap d es ep)(K:es.size<=Uo)
  (q:∀(h':Vb)(tk:Nat)(as:List Addr),(∀b o,s.heap.get? b=b6 o->h'.get? b=b6 o)->as.length=es.size->PrsAt es s.heap.objs.size h' as->s.heap.objs.size<=h'.objs.size->T (as.map Ug) {s with heap:=h',toks:=tk}):Uu (Ut P w) A (collect (.ref r)) T E s:=by
 have L:r<s.heap.objs.size:=let⟨_,p,_⟩:=v;Uh p
 unfold collect
 refine T5 (a4q (Yy a4d ?_))
 rw[X3 F.plain_proto_collect _]
 refine T5 (m:=newList []) (VP (Ui ⟨ZZ F.plain_list_iadd _,Yy a4e ?_⟩))
 rw[X3 F.plain_list_iadd _]
 have B:(s.heap.push {cls:=.type "list",data:=.seq ([]:List Value).toArray}).get? s.heap.objs.size=b6 {cls:=.type "list",data:=.seq #[]}:=UC _ rfl
 have all:=O1 (A:=A) (s:={s with heap:=s.heap.push {cls:=.type "list",data:=.seq ([]:List Value).toArray}}) (P:=P) (w:=w) (es:=es) (ep:=ep) (res:=.ref s.heap.objs.size) (c0:=0)
  (R:=λ(q:a3d)(u:T6)=>∃(h':Vb)(tk:Nat)(h:Array Value)(c:Nat)(as:List Addr),q=.ok (.ret (.ref s.heap.objs.size))/\u={s with heap:=h',toks:=tk}/\(∀b o,s.heap.get? b=b6 o->h'.get? b=b6 o)/\h'.get? s.heap.objs.size=b6 {cls:=.type "list",dict:=b8,data:=.seq h c,slots:=#[]}/\as.length=es.size/\PrsAt es s.heap.objs.size h' as/\h.toList=as.map Ug)
  H (let⟨o,p,x⟩:=v;⟨o,Ua _ p,x⟩) (g.stay λo e=>Ua _ e) (Wf L) (UB g.lt) B K
  (λh' tk h c as l i m j n=>⟨h',tk,h,c,as,rfl,rfl,λb o e=>l b o (UB (Uh e)) (Ua _ e),i,m,⟨j.up,λa G=>ZW (W8 _) (by have:=j.over a G;rw[XS]at this;exact this),j.prs⟩,n⟩)
 refine UK all (λfin u x=>?_) λe u x=>?_
 ·cases fin with
  |done f=>
   obtain⟨h',tk,h,c,as,e,rfl,l,i,m,j,n⟩:=x
   cases e
   refine T5 (m:=load s.heap.objs.size) (a0X i (Ui ?_))
   show T h.toList _
   rw[n]
   exact q h' tk as l m j (Yr (Uh i))
  |again M=>
   refine⟨x.1,X9 x.2 λy N x=>?_⟩
   obtain⟨h',tk,h,c,as,rfl,rfl,l,i,m,j,n⟩:=x
   refine T5 (m:=load s.heap.objs.size) (a0X i (Ui ?_))
   show T h.toList _
   rw[n]
   exact q h' tk as l m j (Yr (Uh i))
 ·obtain⟨_,_,_,_,_,z,_⟩:=x
  cases z
end
end L3
namespace L3
open PySem L2 PySem.W PyProof.Rows
section
variable{P:Ur}{w:UJ}{A:UD}{E:Value->T6->Prop}{s:T6}
theorem EG{v:Value}{Q:Bool->T6->Prop}(q:Q c4 s):Uu (Ut P w) A (eqBool v v) Q E s:=by unfold eqBool;refine Vx ?_;rw[if_pos (by simp)];exact T5 (XU (Ui q))
theorem zE:∀k:List Int,HT.lexLt k k=b9
 |[]=>rfl|a::k=>by simp[HT.lexLt,zE k]
noncomputable def kX(P:Ur)(w:UJ)(h:Vb)(b:Addr)(k:List Int):Prop:=Tb.IsT P w h k b/\∃xs:List Value,a4x h b xs.toArray/\XR xs k
theorem O3{a h b i:Addr}{v m:Value}{k k':List Int}{C:Bool->T6->Prop}(l:A.units<Wi)(n:s.heap.get? a=b6 {cls:=.type "tuple",data:=.seq #[.ref b,v]}) (d:s.heap.get? h=b6 {cls:=.type "tuple",data:=.seq #[.ref i,m]})
  (j:kX P w s.heap b k)(c:kX P w s.heap i k')(o:k=k'->v=m)(q:C (HT.lexLt k k') s):Uu (Ut P w) A (a2X (tuples' b9) (.ref a) (.ref h)) C (λ_ _=>False) s:=by
 refine kat_lt n rfl d rfl ?_;refine a2G ((XY (Zm P w)).eqBool l j.1 c.1 ?_);by_cases e:k=k'
 ·obtain rfl:=o e;subst e;rw[decide_eq_true rfl];refine a3p (a2G (EG (a3p (kat_nil ?_))));rw[zE]at q;exact q
 ·rw[decide_eq_false e];obtain⟨y,u,p⟩:=j.2;obtain⟨z,x,r⟩:=c.2;refine kat_no (kat_one _ _ (HT.lt_tupInts u x (by simpa using p) (by simpa using r) l ?_));exact q
noncomputable def kY(P:Ur)(w:UJ)(A:UD)(us:List Value)(an:Nat->Nat->Bool)(s:T6):Prop:=
 Uu (Ut P w) A (keyKind' us.toArray) (λb a=>a=s/\∀(i j:Nat)(C:Bool->T6->Prop),i<us.length->j<us.length->C (an i j) s->Uu (Ut P w) A (a2X b (us.getD i .none) (us.getD j .none)) C (λ_ _=>False) s) (λ_ _=>False) s
theorem O4{es:Array DictEntry}{lo:Addr}{as bs:List Addr}{ks:List (List Int)}(hu:A.units<Wi)(p:PrsAt es lo s.heap as)(h0:0<as.length)(hl:as.length=es.size)(hk:ks.length=es.size)(hbl:bs.length=es.size)(key:∀(j:Nat)(e:DictEntry),es[j]?=b6 e->e.key=.ref (bs.getD j 0)/\kX P w s.heap (bs.getD j 0) (ks.getD j []))
  (O:ks.Nodup):kY P w A (as.map Ug) (λi j=>HT.lexLt (ks.getD i []) (ks.getD j [])) s:=by
 have l:∀i,i<as.length->∃(e:DictEntry),es[i]?=b6 e/\s.heap.get? (as.getD i 0)=b6 {cls:=.type "tuple",data:=.seq #[.ref (bs.getD i 0),e.val]}/\kX P w s.heap (bs.getD i 0) (ks.getD i []):=λi d=>by
  have R:as[i]?=b6 (as.getD i 0):=by simp[Vr,d]
  obtain⟨e,B,r⟩:=p.prs i _ R;obtain⟨k1,G⟩:=key i e B;rw[k1]at r;exact⟨e,B,r,G⟩
 unfold kY;have u:KatTups s.heap (as.map Ug) (bs.map Ug):=by
  have Z:∀(n:Nat)(a c:List Addr),a.length=n->c.length=n->(∀i,i<n->∃v:Value,s.heap.get? (a.getD i 0)=b6 {cls:=.type "tuple",data:=.seq #[.ref (c.getD i 0),v]})->KatTups s.heap (a.map Ug) (c.map Ug):=by
   intro n;induction n with
   |zero=>intro a c m q _;rw[W4.mp m,W4.mp q];exact .nil|succ n ih=>
    intro a c m q N;match a,c,m,q with
    |x::a,y::c,m,q=>obtain⟨v,L⟩:=N 0 (by omega);refine .cons L rfl rfl (by simp) (ih a c (by simpa using m) (by simpa using q) λi d=>?_);have:=N (i+1) (by omega);simpa using this
  refine Z as.length as bs rfl (by omega) λi d=>?_;obtain⟨e,_,r,_⟩:=l i d;exact⟨_,r⟩
 refine kat_kind (T:=.type "tuple") u (by rw[Uc];omega) (λv L=>?_) (by decide) ⟨rfl,λi j C d K hC=>?_⟩
 ·obtain⟨b,hb,rfl⟩:=VM.mp L;obtain⟨i,d⟩:=Xe.mp hb;have H:i<as.length:=by have:=(T8.mp d).1;omega
  obtain⟨e,_,_,G⟩:=l i H;have:bs.getD i 0=b:=by simp[Vr,d]
  rw[this]at G;obtain⟨xs,⟨o,o1,o2,_⟩,_⟩:=G.2;exact kitAt_ty _ _ ⟨o,o1,o2⟩
 ·rw[Uc]at d K;obtain⟨e,B,r,Q⟩:=l i d;obtain⟨e',M,T,U⟩:=l j K;have X:(as.map Ug).getD i .none=.ref (as.getD i 0):=by simp[Vr,d]
  have Y:(as.map Ug).getD j .none=.ref (as.getD j 0):=by simp[Vr,K]
  rw[X,Y];refine O3 hu r T Q U (λz=>?_) hC;have I:i=j:=by
   have m:ks.getD i []=ks[i]:=by simp[Vr,show i<ks.length by omega]
   have q:ks.getD j []=ks[j]:=by simp[Vr,show j<ks.length by omega]
   rw[m,q]at z;rcases YL i j with h|h|h
   ·exact absurd z ((U7.mp O) i j (by omega) (by omega) h)
   ·exact h
   ·exact absurd z.symm ((U7.mp O) j i (by omega) (by omega) h)
  subst I;rw[B]at M;cases M;rfl
end
end L3
namespace L3
open PySem L2 PySem.W PyProof.Rows
section
variable{P:Ur}{w:UJ}{A:UD}{E:Value->T6->Prop}{s:T6}
end
end L3
namespace L3
open PySem L2 PySem.W PyProof.Rows
section
variable{P:Ur}{w:UJ}{A:UD}{E:Value->T6->Prop}{s:T6}
open Classical in
noncomputable def eX(us:List Value)(v:Value):Nat:=if h:∃i,us[i]?=b6 v then h.choose else 0
theorem uG{us:List Value}(m:us.Nodup){i:Nat}{v:Value}(h:us[i]?=b6 v):eX us v=i:=by
 unfold eX;have b:∃i,us[i]?=b6 v:=⟨i,h⟩;rw[dif_pos b];have l:=b.choose_spec;obtain⟨e,c⟩:=T8.mp h;obtain⟨j,d⟩:=T8.mp l;have:=U7.mp m;rcases YL i b.choose with a|a|a
 ·exact absurd (c.trans d.symm) (this _ _ e j a)
 ·exact a.symm
 ·exact absurd (d.trans c.symm) (this _ _ j e a)
theorem EH{Z:Type}{lt:Z->Z->Bool}(O:Ord1 lt)(d:Z){ks:List Z}{c:Addr}{us:List Value}{z:Nat}{R:a3T->T6->Prop}(hk:ks.length=us.length)(nk:ks.Nodup)(Y:us.Nodup)(h2:2<=us.length)(hz:us.length<=Uo)(g:s.heap.get? c=b6 (Wa "list" us.toArray z))
  (H:∀X:Vb,(∀b o,b≠c->s.heap.get? b=b6 o->X.get? b=b6 o)->kY P w A us (λi j=>lt (ks.getD i d) (ks.getD j d)) {s with heap:=X})
  (q:R (.done (.ret .none)) {s with heap:=Z4 s.heap c us ((cI (λi j=>lt (ks.getD i d) (ks.getD j d)) us.length).map λi=>us.getD i US).toArray}):Uu (Ut P w) A (Builtin.«list.sort» ⟨[.ref c],[]⟩) R E s:=by
 have u:∀i,i<us.length->ks.getD i d∈ks:=λi l=>by rw[UH,T9 (by omega)];exact WM _
 have kn:∀i j,i<us.length->j<us.length->i≠j->ks.getD i d≠ks.getD j d:=λi j l G M=>by
  rw[UH,UH,T9 (by omega),T9 (by omega)];have:=U7.mp nk;rcases Nat.lt_or_gt_of_ne M with h|h
  ·exact this i j (by omega) (by omega) h
  ·exact(this j i (by omega) (by omega) h).symm
 have r:∀v∈us,∃i,i<us.length/\us[i]?=b6 v/\eX us v=i:=λv Q=>by obtain⟨i,l⟩:=Xl Q;exact⟨i,(T8.mp l).1,l,uG Y l⟩
 refine Om (rk:=λv=>iQ lt ks (ks.getD (eX us v) d)) ?_ h2 hz g (λX kp=>?_) λm o1 o2=>?_
 ·refine U7.mpr λi j l G M=>?_;rw[uG Y (T9 l),uG Y (T9 G)];exact Eg O (u i l) (u j G) (kn i j l G (by omega))
 ·have a:=H X kp;unfold kY at a;unfold DX;refine UK a (λκ s' hq=>?_) λ_ _ x=>x;obtain⟨e,hq⟩:=hq;refine⟨e,λx y C hx hy hC=>?_⟩;obtain⟨i,B,U,L⟩:=r x hx;obtain⟨j,I,gj,ej⟩:=r y hy;dsimp only at hC;rw[L,ej,<- t7 O (u i B) (u j I)]at hC;have:=hq i j C B I hC;have e1:us.getD i .none=x:=by rw[UH,U];rfl
  have K:us.getD j .none=y:=by rw[UH,gj];rfl
  rw[e1,K]at this;exact this
 ·have N:∀i∈cI (λi j=>lt (ks.getD i d) (ks.getD j d)) us.length,i<us.length:=λi l=>Wr.mp ((gM _ _).mem_iff.mp l);have hgd:∀i,i<us.length->us[i]?=b6 (us.getD i .none):=λi l=>by rw[UH,T9 l];rfl
  have e:m=(cI (λi j=>lt (ks.getD i d) (ks.getD j d)) us.length).map λi=>us.getD i US:=by
   have hm:∀v∈m,v∈us:=λv Q=>o1.mem_iff.mp Q
      -- the places of what came m
   have p:m.map (eX us)=cI (λi j=>lt (ks.getD i d) (ks.getD j d)) us.length:=by
    have n:(m.map (eX us)).Perm (Vv us.length):=by
     refine(o1.map (eX us)).trans ?_;have:us.map (eX us)=Vv us.length:=by
      apply XQ;intro i;rw[UU];by_cases l:i<us.length
      ·rw[T9 l,a1E l];exact congrArg b6 (uG Y (T9 l))
      ·rw[VU (by omega),VU (by simp;omega)];rfl
     rw[this]
    have s1:(m.map (eX us)).Pairwise λi j=>lt (ks.getD i d) (ks.getD j d)=true:=by rw[Xh];have T:(m.map (eX us)).Nodup:=n.nodup_iff.mpr a2t;unfold a1Q at T;rw[Xh]at T;refine Ye (R:=λx y=>iQ lt ks (ks.getD (eX us x) d)<=iQ lt ks (ks.getD (eX us y) d)/\eX us x≠eX us y) (λ{x y} hx hy h=>?_) (o2.and T);obtain⟨i,B,U,L⟩:=r x (hm x hx);obtain⟨j,I,gj,ej⟩:=r y (hm y hy);rw[L,ej]at h ⊢;rw[t7 O (u i B) (u j I),decide_eq_true_eq];have:=Eg O (u i B) (u j I) (kn i j B I h.2);have:=h.1;omega
    have s2:(cI (λi j=>lt (ks.getD i d) (ks.getD j d)) us.length).Pairwise λi j=>lt (ks.getD i d) (ks.getD j d)=true:=by
     have a:=Oo (lt:=lt) O.ir O.tr (λa b c h=>by
      cases e:lt a c with
      |true=>exact .inl rfl|false=>
       cases K:lt c b with
       |true=>exact .inr rfl|false=>
        cases e3:lt c a with
        |true=>rw[O.tr _ _ _ e3 h]at K;cases K
        |false=>rw[O.to _ _ e e3,K]at h;cases h) d ks (n:=us.length) (by omega)
     have T:(cI (λi j=>lt (ks.getD i d) (ks.getD j d)) us.length).Nodup:=(gM _ _).nodup_iff.mpr a2t;refine Ye (R:=λi j=>lt (ks.getD j d) (ks.getD i d)=b9/\i≠j) (λ{i j} l G h=>?_) (a.and T);cases e:lt (ks.getD i d) (ks.getD j d)with
     |true=>rfl|false=>exact absurd (O.to _ _ e h.1) (kn i j (N i l) (N j G) h.2)
    exact List.Perm.eq_of_pairwise (le:=λi j=>lt (ks.getD i d) (ks.getD j d)=c4) (λi j _ _ h1 h2=>by
     have:=O.tr _ _ _ h1 h2;rw[O.ir]at this;cases this) s1 s2 (n.trans (gM _ _).symm)
   rw[<- p,Vo];symm;conv=>rhs;rw[<- a1v m]
   refine V7 λv Q=>?_;obtain⟨i,B,U,L⟩:=r v (hm v Q);show us.getD (eX us v) .none=v;rw[L,UH,U];rfl
  rw[e];exact q
end
end L3
namespace L3
open PySem L2 PySem.W PyProof.Rows
section
variable{P:Ur}{w:UJ}{A:UD}{E:Value->T6->Prop}{s:T6}
theorem O5{B:Type}{lt:B->B->Bool}(O:Ord1 lt)(m:B){ks:List B}{an:Nat->Nat->Bool}(G:an=λi j=>lt (ks.getD i m) (ks.getD j m)){r d:Addr}{es:Array DictEntry}{ep:Nat}{Q:Value->T6->Prop}(Z:ks.length=es.size)(nk:ks.Nodup)(Y:A.handled=b8)(hv:s.heap.IsItemsView r d)(g:RawD s.heap d es ep)(T:es.size<=Uo)
  (H:2<=es.size->∀(l:Vb)(tk:Nat)(as:List Addr),(∀b o,s.heap.get? b=b6 o->l.get? b=b6 o)->as.length=es.size->PrsAt es s.heap.objs.size l as->kY P w A.in1.in1 (as.map Ug) an {s with heap:=l,toks:=tk})
  (q:∀(l:Vb)(tk:Nat)(as:List Addr)(L e:Nat),(∀b o,s.heap.get? b=b6 o->l.get? b=b6 o)->as.length=es.size->PrsAt es s.heap.objs.size l as->s.heap.objs.size<=L->(∀a∈as,a≠L)->l.get? L=b6 (Wa "list" ((cI an es.size).map λi=>Ug (as.getD i 0)).toArray e)->Q (.ref L) {s with heap:=l,toks:=tk}) :
  Uu (Ut P w) A (call (.builtin "sorted") [.ref r]) Q E s:=by
 refine a0t kind_sorted plain_sorted entry_sorted (args_sorted1 _) ?_;unfold a1o;refine T5 (m:=checkCount "sorted" 1 1 _) (Ui (T5 (O2 (A:=A.in1) Y hv g (by omega) λc tk as R y z u=>?_)));have M:(as.map Ug).length=es.size:=by rw[Uc,y]
 refine T5 (ZX ?_ (by rw[M];omega));have nu:(as.map Ug).Nodup:=by unfold a1Q;rw[Xh];exact z.up.imp λh e=>by cases e;exact absurd h (Xd _)
 subst G;have p:(c.push (Wa "list" (as.map Ug).toArray 0)).get? c.objs.size=b6 (Wa "list" (as.map Ug).toArray 0):=UC _ rfl;have fin:∀n:List Value,n=((cI (λi j=>lt (ks.getD i m) (ks.getD j m)) es.size).map λi=>Ug (as.getD i 0))->Q (.ref c.objs.size) {s with heap:=Z4 (c.push (Wa "list" (as.map Ug).toArray 0)) c.objs.size (as.map Ug) n.toArray,toks:=tk}:=by
  rintro n rfl;obtain⟨e,X⟩:=sortedHeap_at (h:=c.push (Wa "list" (as.map Ug).toArray 0)) (out:=((cI (λi j=>lt (ks.getD i m) (ks.getD j m)) es.size).map λi=>Ug (as.getD i 0)).toArray) p;have v:∀b o,c.get? b=b6 o->(Z4 (c.push (Wa "list" (as.map Ug).toArray 0)) c.objs.size (as.map Ug) ((cI (λi j=>lt (ks.getD i m) (ks.getD j m)) es.size).map λi=>Ug (as.getD i 0)).toArray).get? b=b6 o:=λb o x=>by rw[sortedHeap_old (UB (Uh x)) (by rw[XS];exact YM (Uh x))];exact Ua _ x
  exact q _ tk as c.objs.size e (λb o x=>v b o (R b o x)) y (z.stay λb o _ x=>v b o x) u (λa U=>UB (z.lt U)) X
 by_cases I:2<=es.size
 ·refine T5 (Vx (Wz ZE (s:={s with heap:=c.push (Wa "list" (as.map Ug).toArray 0),toks:=tk}) ⟨_,p,rfl⟩ Zq (EH O m (by rw[M];exact Z) nk nu (by omega) (by omega) p (λl N=>?_) ⟨_,rfl,?_⟩) (ZG _)))
  ·exact H I l tk as (λb o e=>N b o (UB (UM (Uh e) u)) (Ua _ (R b o e))) y (z.stay λb o hb e=>N b o (UB (Uh e)) (Ua _ e))
  ·refine Ui ⟨_,rfl,fin _ ?_⟩;rw[M];refine V7 λi K=>?_;have K:i<as.length:=by have:=Wr.mp ((gM _ es.size).mem_iff.mp K);omega
   simp[Vr,K]
 ·refine T5 (Vx (Wz ZE (s:={s with heap:=c.push (Wa "list" (as.map Ug).toArray 0),toks:=tk}) ⟨_,p,rfl⟩ Zq (DD (by omega) p ⟨_,rfl,?_⟩) (ZG _)));refine Ui ⟨_,rfl,fin (as.map Ug) ?_⟩;match as,y with
  |[],e=>rw[<- e];show[]=(cI _ 0).map _;rw[yK];rfl|[b],e=>rw[<- e];show[Ug b]=(cI _ 1).map _;rw[DE];rfl|_::_::_,e=>rw[<- e]at I;simp at I
end
end L3
namespace L3
open PySem L2
end L3
namespace L3
open PySem L2
section
variable{P:Ur}{w:UJ}
theorem O6(d:Addr)(hd:(d==VX)=b9):MeetsIn P w (Builtin.«dict.items» ⟨[.ref d],[]⟩) (λ_ R s=>(∃es ep,RawD s.heap d es ep) /\
   R (.ok (.ret (.ref s.heap.objs.size))) {s with heap:=s.heap.push {cls:=.type "dict_items",data:=.fields #[.ref d]}}):=
 .of_wp λA R s ⟨⟨es,ep,g⟩,h⟩=>by unfold Builtin.«dict.items»;refine T5 ?_;unfold a4n;refine T5 (a2l g.ty ?_);show Uu _ _ (pure d) _ _ s;refine Ui ?_;show Uu _ _ (XE d >>= _) _ _ s;unfold XE;rw[if_neg (by rw[hd];exact Vl)];refine T5 (Ui ?_);exact T5 (VP (Ui ⟨_,rfl,h⟩))
end
noncomputable def uH(kvs:List (List Int×D)):List (List Int×D):=(cI (λi j=>HT.lexLt ((kvs.map (·.1)).getD i []) ((kvs.map (·.1)).getD j [])) kvs.length).map λi=>kvs.getD i ([],.non)
theorem O7{b c:Type}{R:b->c->Prop}{as:List b}{bs:List c}(h:YA R as bs)(d:b)(j:c):∀i,i<as.length->R (as.getD i d) (bs.getD i j):=by
 induction h with
 |nil=>exact λi a=>nomatch a|cons e t l=>
  intro i a;cases i with
  |zero=>exact e|succ i=>exact l i (by simpa using a)
theorem EI{a b:Type}{R:a->b->Prop}{f:Nat->a}{g:Nat->b}:∀{l:List Nat},(∀i∈l,R (f i) (g i))->YA R (l.map f) (l.map g)
 |[],_=>.nil|i::l,h=>.cons (h i (UZ ..)) (EI λj c=>h j (UO _ c))
end L3
namespace L3
open PySem L2
section
variable{X:Cx}{a4z pins0:List (Addr×Obj)}{σ σ0:St}{H H0:Hp}{s s0:T6}{a:Addr}{ps ps0:bT}{ob:Obj}
theorem Inv.freeze(I:Inv X a4z σ H s)(e:H a=b6 (a7 a ps))(c:s.heap.get? a=b6 ob):Inv X a4z σ (aG H a (.frz ob (a7 a ps))) s:=by have ok:ObjOk X.prog X.w H s.heap a (a7 a ps):=I.hok a _ e;exact I.write (x:=a) (e:=a) (h':=s.heap) (t':=s.toks) (by rw[e];exact Xa) (.inl rfl) (λb q _ z=>z) ⟨ob,c⟩ ⟨c,ok⟩
theorem Inv.thaw(v:Inv X pins0 σ0 H0 s0)(w:H0 a=b6 (a7 a ps0))(I:Inv X a4z σ H s)(e:H a=b6 (.frz ob (a7 a ps))):Inv X a4z σ (aG H a (a7 a ps)) s:=by
 have ne:∀{b:Addr},H b=b8->b≠a:=λ{b} h z=>by rw[z,e]at h;cases h
 refine⟨I.ok,I.os,I.bare,⟨I.base.keep,I.base.slot,λb o d j l=>?_,I.base.there,λb n h=>?_,λb o u h=>?_,λb A h=>?_⟩,I.loc,I.cell,?_,λx c h=>?_,λp y=>?_,λb u q=>?_,I.len⟩
 ·have:=I.base.free b o d j l;rw[aS (ne this)];exact this
 ·have:=I.base.tups b n h;rw[aS λz=>by rw[z,e]at this;cases this];exact this
 ·have:=I.base.frzs b o u h;rw[aS λz=>by
   have r:=v.base.frzs b o u h;rw[z,w]at r;cases r]
  exact this
 ·obtain⟨i,d⟩:=I.base.tbls b A h;exact⟨i,by rw[aS λz=>by rw[z,e]at d;cases d];exact d⟩
 ·rw[aS (ne I.free)];exact I.free
 ·have:=I.freeC x c h;rw[aS (ne this)];exact this
 ·obtain⟨d,j,l⟩:=I.pin p y;exact⟨d,by rw[aS (ne j)];exact j,l⟩
 ·by_cases m:b=a
  ·subst m;rw[bO]at q;cases q;exact(show ObjOk X.prog X.w H s.heap b (.frz ob (a7 b ps))from I.hok b _ e).2
  ·rw[aS m]at q;exact(I.hok b u q).stay (λ_ _ _ z=>z) (λc h=>by rw[aS λz=>by rw[z,e]at h;cases h];exact h) λc n h=>by rw[aS λz=>by rw[z,e]at h;cases h];exact h
end
noncomputable def oO(i:Nat)(b:aF)(μ:Hm):Option (Nat×List (List Int×D)):=match b[i]? with
 |some (b6 (.loc a))=>match μ[a]? with
  |some (.dT kvs)=>b6 (a,kvs)|_=>b8
 |_=>b8
theorem EJ{i:Nat}{b:aF}{μ:Hm}{a:Nat}{kvs:List (List Int×D)}(h:oO i b μ=b6 (a,kvs)):μ[a]?=b6 (.dT kvs):=by
 unfold oO at h;split at h
 ·split at h
  ·rename_i hc;cases h;exact hc
  ·cases h
 ·cases h
noncomputable def zF(i:Nat)(c d:ME):ME:=λb μ=>match oO i b μ with
 |some (a,kvs)=>(c b (μ.set a (.dF kvs))).bind λr=>match r.2[a]? with
  |some (.dF kvs')=>b6 (r.1,r.2.set a (.dT kvs'))|_=>b8
 |none=>d b μ
noncomputable def jT(i:Nat)(c d:MS):MS:=λb μ=>match oO i b μ with
 |some (a,kvs)=>(c b (μ.set a (.dF kvs))).bind λr=>match r.2.2[a]? with
  |some (.dF kvs')=>b6 (r.1,r.2.1,r.2.2.set a (.dT kvs'))|_=>b8
 |none=>d b μ
section
variable{X:Cx}{a4z:List (Addr×Obj)}{σ:St}{H:Hp}{s:T6}{π:Nat->Addr}{ρ:aF}{μ:Hm}{a:Nat}{kvs:List (List Int×D)}
theorem EK(I:Inv X a4z σ H s)(R:Rp X.K π H μ)(E:En X.K π μ.length H σ ρ)(hc:μ[a]?=b6 (.dT kvs)):∃b ps,H (π a)=b6 (a7 (π a) ps)/\Inv X a4z σ (aG H (π a) (.frz b (a7 (π a) ps))) s /\
  Rp X.K π (aG H (π a) (.frz b (a7 (π a) ps))) (μ.set a (.dF kvs))/\En X.K π (μ.set a (.dF kvs)).length (aG H (π a) (.frz b (a7 (π a) ps))) σ ρ:=by
 obtain⟨ps,c,T⟩:=mS R hc;obtain⟨_,⟨b,e⟩,_⟩:=(show ObjOk X.prog X.w H s.heap (π a) (a7 (π a) ps)from I.hok _ _ c);obtain⟨d,R2⟩:=R.put (c:=.dF kvs) (o:=.frz b (a7 (π a) ps)) (T8.mp hc).1 c (.inr (.inr ⟨_,rfl⟩)) ⟨b,ps,rfl,T.to⟩;exact⟨b,ps,c,Inv.freeze I c e,R2,E.mono d⟩
theorem qU{j:List (Addr×Obj)}{q:St}{H':Hp}{y:T6}{c:Nat->Addr}{i:Hm}{G:Obj}{ps:bT}{d:List (List Int×D)}(I:Inv X a4z σ H s)(e:H (π a)=b6 (a7 (π a) ps))(B:a<μ.length)
  (A:Inv X j q H' y)(x:Rp X.K c H' i)(m:Ext π (μ.set a (.dF kvs)).length (aG H (π a) (.frz G (a7 (π a) ps))) c i.length H')(hc:i[a]?=b6 (.dF d)) :
  ∃r,Inv X j q r y/\Ext π μ.length H c (i.set a (.dT d)).length r/\Rp X.K c r (i.set a (.dT d))/\Ext0 c i.length H' c (i.set a (.dT d)).length r:=by
 have v:c a=π a:=m.pi a (by rw[Vz];exact B);obtain⟨K,l,w,T⟩:=uC x hc;obtain⟨M,R2⟩:=x.put0 (c:=.dT d) (o:=a7 (c a) l) (T8.mp hc).1 w (.inr (.inr (.inr ⟨_,_,rfl⟩))) ⟨l,rfl,T.to⟩;rw[v]at w;refine⟨aG H' (c a) (a7 (c a) l),?_,⟨?_,λb E=>m.pi b (by rw[Vz];exact E),λp L h=>?_,λp o u h=>?_⟩,R2,M⟩
 ·rw[v];exact Inv.thaw I e A w
 ·have:=m.le;rw[Vz]at this ⊢;exact this
 ·have n:p≠π a:=λz=>by rw[z,e]at h;cases h
  have:=m.tup p L (by rw[aS n];exact h);rw[v,aS n];exact this
 ·have n:p≠π a:=λz=>by rw[z,e]at h;cases h
  have:=m.frz p o u (by rw[aS n];exact h);rw[v,aS n];exact this
theorem En.mono0{K:T3}{b:Nat->Addr}{n c:Nat}{H':Hp}(E:En K π n H σ ρ)(e:Ext0 π n H b c H'):En K b c H' σ ρ:=
 ⟨E.len,λi d h=>let⟨v,j,l⟩:=E.get i d h;⟨v,j,l.mono0 e⟩⟩
end
section
variable{X:Cx}{e:Expr}{st:Stmt}{i:Nat}
theorem O8{z A:ME}(h1:QE X e z)(h2:QE X e A):QE X e (zF i z A):=⟨by
 intro l s K H Q I hw;obtain⟨m,G,B,d,r,R,E,c,k⟩:=hw;unfold zF at c;split at c
 ·rename_i a q hv;obtain⟨⟨x,h⟩,g1,c⟩:=TZ.mp c;dsimp only at c;split at c
  ·rename_i y o;cases c;have hc:=EJ hv;obtain⟨ob,ps,Y,M,T,L⟩:=EK I R E hc;refine aM (h1.h l s K _ (λv j=>∃b,Ext m (B.set a (.dF q)).length (aG H (m a) (.frz ob (a7 (m a) ps))) b h.length j/\Rp X.K b j h/\IsD X.K b h.length j v d) M ⟨m,G,_,d,h,T,L,g1,λb v j n R2 p=>⟨b,n,R2,p⟩⟩) λu s2 ⟨v,j,N,rv,b,n,R2,p⟩=>?_;obtain⟨w,O,Z,U,x3⟩:=qU I Y (T8.mp hc).1 N R2 n o;exact⟨v,w,O,rv,k b v w Z U (p.mono0 x3)⟩
  ·cases c
 ·exact h2.h l s K H Q I ⟨m,G,B,d,r,R,E,c,k⟩⟩
theorem EL{m1 m2:MS}(h1:QS X st m1)(h2:QS X st m2):QS X st (jT i m1 m2):=⟨by
 intro L s σ H D I hw;obtain⟨m,ρ,M,G,p,Y,R,E,w,k⟩:=hw;unfold jT at w;split at w
 ·rename_i a x hv;obtain⟨⟨fl1,ρ1,h⟩,g1,w⟩:=TZ.mp w;dsimp only at w;split at w
  ·rename_i Z r;cases w;have hc:=EJ hv;have O:=(T8.mp hc).1;obtain⟨Q,T,N,I1,R1,E1⟩:=EK I R E hc;refine aM (h1.h L s σ _ ⟨λc j=>G=.nx/\∃b,Ext m (M.set a (.dF x)).length (aG H (m a) (.frz Q (a7 (m a) T))) b h.length j/\Rp X.K b j h/\En X.K b h.length j c p,
     λv j=>∃d,G=.rt d/\∃b,Ext m (M.set a (.dF x)).length (aG H (m a) (.frz Q (a7 (m a) T))) b h.length j/\Rp X.K b j h/\IsD X.K b h.length j v d,
     λc j=>G=.bk/\∃b,Ext m (M.set a (.dF x)).length (aG H (m a) (.frz Q (a7 (m a) T))) b h.length j/\Rp X.K b j h/\En X.K b h.length j c p,
     λc j=>G=.ct/\∃b,Ext m (M.set a (.dF x)).length (aG H (m a) (.frz Q (a7 (m a) T))) b h.length j/\Rp X.K b j h/\En X.K b h.length j c p⟩ I1 ⟨m,ρ,_,G,p,h,R1,E1,g1,?_⟩) λf s2 q=>?_
   ·cases G with
    |nx=>exact λb c j l R2 n=>⟨rfl,b,l,R2,n⟩|bk=>exact λb c j l R2 n=>⟨rfl,b,l,R2,n⟩|ct=>exact λb c j l R2 n=>⟨rfl,b,l,R2,n⟩|rt d=>exact λb v j l R2 U=>⟨d,rfl,b,l,R2,U⟩
   ·cases f with
    |next=>obtain⟨c,j,y,rfl,b,l,R2,n⟩:=q;obtain⟨o,z,B,A,K⟩:=qU I N O y R2 l r;exact⟨c,o,z,k b c o B A (En.mono0 n K)⟩|brk=>obtain⟨c,j,y,rfl,b,l,R2,n⟩:=q;obtain⟨o,z,B,A,K⟩:=qU I N O y R2 l r;exact⟨c,o,z,k b c o B A (En.mono0 n K)⟩|cont=>obtain⟨c,j,y,rfl,b,l,R2,n⟩:=q;obtain⟨o,z,B,A,K⟩:=qU I N O y R2 l r;exact⟨c,o,z,k b c o B A (En.mono0 n K)⟩|ret u=>obtain⟨v,c,j,y,rv,d,rfl,b,l,R2,U⟩:=q;obtain⟨o,z,B,A,K⟩:=qU I N O y R2 l r;exact⟨v,c,o,z,rv,k b v o B A (U.mono0 K)⟩
  ·cases w
 ·exact h2.h L s σ H D I ⟨m,ρ,M,G,p,Y,R,E,w,k⟩⟩
end
noncomputable def zG(d:Addr)(a:Obj)(ps:bT):It:=⟨λi H=>H d=b6 (.frz a (a7 d ps))/\i<ps.length,λi H x H'=>H'=H/\∃p,ps[i]?=b6 p/\x=.ref p.2.1,λi H=>H d=b6 (.frz a (a7 d ps))/\ps.length<=i⟩
theorem zH{X:Cx}{a4z:List (Addr×Obj)}{σ:St}{H:Hp}{s:T6}{d:Addr}{c:Obj}{ps:bT}(I:Inv X a4z σ H s)(e:H d=b6 (.frz c (a7 d ps))) :
  (d==VX)=b9/\ps.length<=Uo/\∃a b,RawD s.heap d a b/\c.data=.dict a b/\a.toList.map (·.key)=ps.map λp=>Ug p.2.1:=by
 obtain⟨h,⟨v,r,q,n,o,a,b,i,l,j,m,u⟩,_⟩:=(show ObjOk X.prog X.w H s.heap d (.frz c (a7 d ps))from I.hok d _ e);rw[h]at i;cases i;refine⟨q,n,a,b,⟨c,h,l,j⟩,j,?_⟩;rw[m,uA (P:=X.prog) (w:=X.w),Vo,<- zC r];rfl
theorem O9{P:Ur}{w:UJ}{K:T3}{tg:Expr}{d n:Addr}{Y:Obj}{ps:bT}{es:Array DictEntry}{ep:Nat}(hd:Y.data=.dict es ep):Turn Qc P w K tg (zG d Y ps) [n] n (λi h=>h.IsKeyIter n d i es.size ep) where
 mem:=by simp
 obj:=λi h st b j=>by
  have e:b=n:=by simpa using j
  subst e;obtain⟨o,e,c,d⟩:=st;exact⟨o,e,λv z=>by rw[d]at z;cases z⟩
 keep:=λi h q st k=>st.at λo e=>k n (by simp) o e;item:=by
  intro X Q hw O hc i p s Z H E I x st R;subst Q hw O;obtain⟨m,r⟩:=R;obtain⟨lo,hl,A,y,g,a,u⟩:=zH I m;rw[hd]at a;cases a;have hs:es.size=ps.length:=by have:=congrArg Wh u;simpa using this
  obtain⟨B,G,f2,L,M,N⟩:=x n (by simp);refine uE (I.ok.hd hc) st g (λe q l U sb=>?_) λhn=>by simp at hn;omega
  have I1:Inv X p Z H {s with heap:=q}:=I.turned (t':=s.toks) (λb o j e=>(sb.2 b j).trans e) B G L M N;obtain⟨o,e1,c,d1⟩:=id U;have T:ps[i]?=b6 ps[i]:=T9 r;have ek:e.key=.ref (ps[i]).2.1:=by have:=congrArg (·[i]?) u;simp only[UU,WO,l,T,UQ]at this;exact Ux this
  exact⟨e.key,rfl,pR (s:={s with heap:=q}) e1 c d1 (by decide) ⟨.ref (ps[i]).2.1,H,I1,ek,⟨rfl,ps[i],T,rfl⟩,U,λb j=>(x b j).1⟩⟩
 done:=by
  intro X Q hw O hc i p s Z H E I x st R;subst Q hw O;obtain⟨m,r⟩:=R;obtain⟨lo,hl,A,y,g,a,u⟩:=zH I m;rw[hd]at a;cases a;have hs:es.size=ps.length:=by have:=congrArg Wh u;simpa using this
  obtain⟨B,G,f2,L,M,N⟩:=x n (by simp);exact uE (I.ok.hd hc) st g (λe q l=>by
   have:=(Vt.mp l).1;omega) λ_ q eb=>⟨rfl,I.turned (t':=s.toks) (λb o j e=>eb b o j e) B G L M N⟩
 self:=λ_ _ _ _ _ st h=>a2B st h
theorem Pa{X:Cx}{l tg:Expr}{p:TE}(n:PE X l p):PI X tg l (λσ H R=>p σ H λv a=>∃d m ps,v=.ref d/\a d=b6 (.frz m (a7 d ps))/\R (zG d m ps) a):=by
 intro j s σ H R I h;refine aM (n j s σ H _ I h) λv i ⟨y,a,c,z,x⟩=>?_;obtain⟨d,m,ps,e,u,q⟩:=x;subst e;obtain rfl:v=Ug d:=z;obtain⟨w,n,B,A,g,hd,E⟩:=zH c u;refine Ey w g ⟨i.heap.objs.size,[i.heap.objs.size],_,_,a,rfl,c.kept (t':=i.toks) λb o e=>Ua _ e,O9 hd,⟨_,UC _ rfl,rfl,rfl⟩,λb r=>?_,q⟩;have e:b=i.heap.objs.size:=by simpa using r
 subst e;exact c.fpOk (Up _) (c.hok.fresh (Up _))
noncomputable def kZ(kvs:List (List Int×D)):List D:=kvs.map λk=>D.tup (k.1.map D.int)
theorem Pb{K:T3}{π:Nat->Addr}{n:Nat}{H:Hp}{d:Addr}{j:Obj}{ps:bT}{kvs:List (List Int×D)}(c:H d=b6 (.frz j (a7 d ps)))(T:IsTs K π n H ps kvs):Wk K (zG d j ps) (cL (.tup (kZ kvs))) π n H:=by
 have x:ps.length=kvs.length:=by have:=congrArg Wh T.to.1;simpa using this
 refine⟨λb u l i e R z=>?_,λb u l i m e R z=>?_⟩
 ·have a:(kZ kvs)[i]?=none:=Ux z;have:=WW.mp a;rw[kZ,Uc]at this;exact⟨e.frz _ _ _ c,by omega⟩
 ·have a:(kZ kvs)[i]?=b6 m:=Ux z;have y:i<kvs.length:=by have:=(T8.mp a).1;rwa [kZ,Uc]at this
  refine⟨⟨e.frz _ _ _ c,by omega⟩,λv w ⟨o,p,q,r⟩=>?_⟩;subst o r;obtain⟨A,h,s⟩:=(T.to.2.1.mono e).get a;rw[UU,q]at h;cases h;exact⟨.refl,R,s⟩
noncomputable def jU(m:ME):MI:=λb μ=>(m b μ).bind λp=>match p.1 with
 |.loc a=>match p.2[a]? with
  |some (.dF kvs)=>b6 (cL (.tup (kZ kvs)),kvs.length+1,p.2)|_=>b8
 |_=>b8
theorem zI{X:Cx}{e:Expr}{m:ME}(h:QE X e m):QJ X e (jU m):=⟨λtg a4z s σ H R I hw=>by
 obtain⟨A,B,w,v,n,y,j,E,a,k⟩:=hw;obtain⟨⟨x,z⟩,o,a⟩:=TZ.mp a;dsimp only at a;split at a
 ·split at a
  ·rename_i q hc;cases a;refine Pa h.h a4z s σ H R I ⟨A,B,w,_,_,j,E,o,λb G i l c p=>?_⟩;cases p;obtain⟨r,u,d,T⟩:=uC c hc;exact⟨_,r,u,rfl,d,k b i _ l c (Pb d T)⟩
  ·cases a
 ·cases a⟩
end L3
namespace L3
open PySem L2 PySem.W PyProof.Rows
section
variable{P:Ur}{w:UJ}{A:UD}{E:Value->T6->Prop}{s:T6}
end
end L3
namespace L3
open PySem L2
noncomputable def Pc(μ:Hm):D->Bool
 |.loc a=>match μ[a]? with|some (.dT _)=>c4|_=>b9
 |_=>b9
noncomputable def Pd(f:D->List D->Hm->Option (D×Hm))(b:ME)(c:MA):ME:=λa μ=>(b a μ).bind λp=>match Pc p.2 p.1 with
 |true=>(c a p.2).bind λq=>f p.1 q.1 q.2|false=>b8
section
variable{X:Cx}{e o:Expr}{mo:ME}{to:TE}{t:TA}{apos cpos:VW}{es:List Expr}{ms:MA}{n:Nat}{r:V->List V->Hp->VK->Prop}{f:D->List D->Hm->Option (D×Hm)}{name:Str}{id:String}
end
end L3
namespace L3
open PySem L2
section
variable{P:Ur}{w:UJ}{K:Type} [DecidableEq K] {knd:HeapKind P w K}{A:UD}{E:Value->T6->Prop}{s:T6}{d a:Addr}{k:K}{xs:List (K×Addr×Value)}
end
end L3
namespace L3
open PySem L2
section
variable{P:Ur}{w:UJ}{A:UD}{E:Value->T6->Prop}{s:T6}
end
section
variable{X:Cx}
end
end L3
namespace L3
open PySem L2
noncomputable abbrev qV:=List (List Int×Addr×Value)
inductive Hits (A:UD)(s:T6)(ys:qV):qV->Bool->Prop
 |nil:Hits A s ys [] c4
 |miss {x:List Int×Addr×Value}{r:qV}:Zs ys x.1=b8->Hits A s ys (x::r) b9
 |hit {x:List Int×Addr×Value}{p:Addr×Value}{r:qV}{e b:Bool}:Zs ys x.1=b6 p->a0h A s x.2.2 p.2 e->Hits A s ys r b->Hits A s ys (x::r) (e&&b)
section
variable{P:Ur}{w:UJ}{A:UD}{E:Value->T6->Prop}{s:T6}{a b:Addr}{xs ys:qV}{r:Bool}
end
section
variable{X:Cx}{a b:Expr}{ma mb:ME}{pos:VW}{k:Nat}
end
end L3
namespace L3
open PySem L2
noncomputable abbrev zJ(_:Nat):Prop:=True
section
variable{X:Cx}{a4z:List (Addr×Obj)}{σ:St}{H H':Hp}{s:T6}{h':Vb}
theorem Pe{t':Nat}(I:Inv X a4z σ H s)(k:∀b u,s.heap.get? b=b6 u->h'.get? b=b6 u)(d:∀b,b<s.heap.objs.size->H' b=H b)(new:∀b o,s.heap.objs.size<=b->H' b=b6 o->ObjOk X.prog X.w H' h' b o) :
  Inv X a4z σ H' {s with heap:=h',toks:=t'}:=by
 have lt:∀b u,H b=b6 u->b<s.heap.objs.size:=λb u e=>Nat.lt_of_not_le λz=>by rw[I.hok.fresh z]at e;cases e
 have a:∀b u,H b=b6 u->H' b=b6 u:=λb u e=>by rw[d b (lt b u e)];exact e
 refine I.un ⟨λb u q _ _ _=>k b u q,λb u q _ _ _=>⟨u.slots,k b u q⟩,λb u q n _=>by rw[d b (Uh q)];exact n,λb u q _=>⟨u,k b u q⟩,λb i q=>a b _ q,λb u i q=>a b _ q,λb j q=>⟨#[],by rw[a b _ q];simp⟩⟩ λb u e=>?_;by_cases h:b<s.heap.objs.size
 ·rw[d b h]at e;exact(I.hok b u e).stay (λc v _ q=>k c v q) (λc q=>a c _ q) λc i q=>a c _ q
 ·exact new b u (a2N h) e
noncomputable def eF(H:Hp):List Addr->bT->Hp
 |a::as,p::ps=>eF (aG H a (.tup [.ref p.2.1,p.2.2])) as ps|_,_=>H
theorem mU:∀{as:List Addr}{ps:bT}{H:Hp}{b:Addr},b∉as->eF H as ps b=H b
 |[],_,_,_,_=>by simp[eF]
 |a::as,[],_,_,_=>rfl|a::as,p::ps,H,b,h=>by rw[UX,not_or]at h;show eF (aG H a _) as ps b=H b;rw[mU h.2,aS h.1]
theorem uI:∀{as:List Addr}{ps:bT}{H:Hp}{i:Nat}{a:Addr}{p:List Int×Addr×V},as.Nodup->as[i]?=b6 a->ps[i]?=b6 p->eF H as ps a=b6 (.tup [.ref p.2.1,p.2.2])
 |[],_,_,_,_,_,_,h,_=>by simp at h
 |_::_,[],_,_,_,_,_,_,h=>by simp at h
 |x::as,y::ps,H,0,a,p,nd,h1,h2=>by
  obtain rfl:x=a:=by simpa using h1
  obtain rfl:y=p:=by simpa using h2
  rw[Vy]at nd;show eF (aG H x _) as ps x=_;rw[mU nd.1,bO]
 |x::as,y::ps,H,i+1,a,p,nd,h1,h2=>by rw[Vy]at nd;exact uI (as:=as) (ps:=ps) (i:=i) nd.2 (by simpa using h1) (by simpa using h2)
noncomputable def qW(ps:bT):List Nat:=cI (λi j=>HT.lexLt ((ps.map (·.1)).getD i []) ((ps.map (·.1)).getD j [])) ps.length
noncomputable def d6(as:List Addr)(ps:bT):List V:=(qW ps).map λi=>V.ref (as.getD i 0)
theorem Pf(hc:X.calm=c4)(hun:X.A.units+64<Wi)(I:Inv X a4z σ H s){d r:Addr}{ps:bT}{Q:VK}(e:H d=b6 (a7 d ps))(hk:eW X.K H ps)(h64:zJ ps.length)(hv:s.heap.IsItemsView r d)
  (k:∀(as:List Addr)(L l:Addr),as.length=ps.length->(l::L::as).Nodup->(∀a∈l::L::as,H a=b8)->Q (.ref l) (aG (aG (eF H as ps) L (.lst (d6 as ps))) l (.tup (d6 as ps)))) :
  Uu (Ut X.prog X.w) X.A (call (.builtin "sorted") [.ref r]) (λv s'=>Uu (Ut X.prog X.w) X.A (call (.type "tuple") [v]) (EP X a4z σ Q) X.xe s') X.xe s:=by
 obtain⟨lo,hl,ws,rv,z,es,ep,z1,z2,z3,z4,z5,z6⟩:=mR I (.of e) hk;have hwl:ws.length=ps.length:=by have:=rv.length;rw[Uc]at this;exact this.symm
 have hxl:(bU ps ws).length=ps.length:=by unfold bU;rw[List.length_zipWith,hwl,Nat.min_self]
 have n:es.size=ps.length:=by rw[<- Yj,z4,Uc,hxl]
 have nd:(ps.map (·.1)).Nodup:=by rw[qQ rv]at z6;exact z6
 have N:∀(j:Nat)(w:DictEntry),es[j]?=b6 w->∃p u,ps[j]?=b6 p/\ws[j]?=b6 u/\w.key=.ref p.2.1/\w.val=u:=λj w h=>by
  rw[<- WO,z4,UU]at h;obtain⟨x,y,rfl⟩:=T7.mp h;unfold bU at y;rw[List.getElem?_zipWith]at y;cases B:ps[j]? with
  |none=>rw[B]at y;simp at y|some p=>
   cases hw:ws[j]? with
   |none=>rw[B,hw]at y;simp at y|some u=>
    rw[B,hw]at y;have:(p.1,p.2.1,u)=x:=by simpa using y
    subst this;exact⟨p,u,rfl,rfl,rfl,rfl⟩
 refine O5 Ei [] (ks:=ps.map (·.1)) (an:=λi j=>HT.lexLt ((ps.map (·.1)).getD i []) ((ps.map (·.1)).getD j [])) rfl (by rw[Uc,n]) nd (I.ok.hd hc) hv ⟨z,z1,z2,z3⟩ (by omega) (λh22 Z M as kp Y K=>?_) (λZ M as L w kp Y K hL nL gL=>?_)
 ·have I3:Inv X a4z σ H {s with heap:=Z,toks:=M}:=I.kept (t':=M) kp;refine O4 (A:=X.A.in1.in1) (s:={s with heap:=Z,toks:=M}) (bs:=ps.map (·.2.1)) (ks:=ps.map (·.1)) (by show X.A.units+1+1<Wi;omega) K (by omega) Y (by rw[Uc,n]) (by rw[Uc,n]) (λj w A=>?_) nd;obtain⟨p,u,G,p2,p3,p4⟩:=N j w A;have q:j<ps.length:=(T8.mp G).1;have m:(ps.map (·.2.1)).getD j 0=p.2.1:=by simp[Vr,G]
  have ek:(ps.map (·.1)).getD j []=p.1:=by simp[Vr,G]
  rw[m,ek];have sq:=hk p (UL G);refine⟨p3,mM I3 sq,?_⟩;obtain⟨xs,rx,t,_⟩:=I3.tuple sq;exact⟨xs,t,DF rx⟩
 ·rw[n]at gL Y;have E:as.Nodup:=K.up.imp λh=>UB h;have hin:∀i∈qW ps,i<ps.length:=λi hi=>Wr.mp ((gM _ _).mem_iff.mp hi);have U:(qW ps).length=ps.length:=by have:=(gM (λi j=>HT.lexLt ((ps.map (·.1)).getD i []) ((ps.map (·.1)).getD j [])) ps.length).length_eq;rw[a2h]at this;exact this
  have nLa:L∉as:=λh=>nL L h rfl;have I1:Inv X a4z σ (aG (eF H as ps) L (.lst (d6 as ps))) {s with heap:=Z,toks:=M}:=by
   refine Pe (t':=M) I kp (λb hb=>?_) λb o hb m=>?_
   ·rw[aS (UB (UM hb hL)),mU λh=>Nat.lt_asymm hb (K.over b h)]
   ·by_cases R:b=L
    ·subst R;rw[bO]at m;cases m;refine⟨by unfold d6;rw[Uc,U];exact hl,(qW ps).map λi=>Ug (as.getD i 0),w,?_,gL⟩;unfold d6;exact EI λi _=>rfl
    ·rw[aS R]at m;by_cases T:b∈as
     ·obtain⟨j,A⟩:=Xe.mp T;have q:j<ps.length:=by have:=(T8.mp A).1;omega
      have B:ps[j]?=b6 ps[j]:=T9 q;rw[uI E A B]at m;cases m;obtain⟨x,x1,x2⟩:=K.prs j _ A;obtain⟨p,u,G,p2,p3,p4⟩:=N j x x1;rw[B]at G;cases G;obtain⟨u',g1,g2⟩:=rv.get (i:=j) (x:=ps[j].2.2) (by rw[UU,B];rfl);rw[p2]at g1;cases g1;rw[p3,p4]at x2;exact⟨by show(2:Nat)<=Uo;decide,[.ref ps[j].2.1,u],.cons rfl (.cons g2 .nil),_,x2,rfl,0,rfl,rfl⟩
     ·rw[mU T,I.hok.fresh hb]at m;cases m
  refine B5 a4z _ σ _ [.ref L] [.ref L] Q I1 (.cons rfl .nil) ⟨L,d6 as ps,rfl,.inl ⟨.inl (.inl bO),λl c=>?_⟩⟩;have lL:l≠L:=λh=>by rw[h,bO]at c;cases c
  rw[aS lL]at c;have la:l∉as:=λh=>by
   obtain⟨j,A⟩:=Xe.mp h;have q:j<ps.length:=by have:=(T8.mp A).1;omega
   rw[uI E A (T9 q)]at c;cases c
  rw[mU la]at c;refine k as L l Y ?_ λa O=>?_
  ·rw[Vy,Vy];exact⟨λh=>(UX.mp h).elim lL la,nLa,E⟩
  ·rcases UX.mp O with rfl|O
   ·exact c
   rcases UX.mp O with rfl|O
   ·exact I.hok.fresh hL
   ·exact I.hok.fresh (Yr (K.over a O))
end
noncomputable def zK(k:List Int×D):D:=.tup [.tup (k.1.map D.int),k.2]
noncomputable def uJ:D->Hm->Option (D×Hm)
 |.loc a,μ=>match μ[a]? with
  |some (.dT kvs)=>if zJ kvs.length then b6 (.tup ((uH kvs).map zK),μ)else b8|_=>b8
 |_,_=>b8
noncomputable def oP(m:ME):ME:=λa μ=>(m a μ).bind λr=>uJ r.1 r.2
noncomputable def EM(K:T3):V->Hp->VK->Prop:=λx H Q=>∃a ps,x=.ref a/\H a=b6 (a7 a ps)/\eW K H ps/\zJ ps.length /\
 ∀(as:List Addr)(L l:Addr),as.length=ps.length->(l::L::as).Nodup->(∀a∈l::L::as,H a=b8)->Q (.ref l) (aG (aG (eF H as ps) L (.lst (d6 as ps))) l (.tup (d6 as ps)))
section
variable{X:Cx}{o:Expr}{to:TE}{apos cpos p p2 pos pos2:VW}
theorem Pg(hc:X.calm=c4)(y:X.A.units+64<Wi)(u:X.mg "sorted"=b8) (w:X.mg "tuple"=b8) (n:Gl X "sorted") (r:Gl X "tuple") (T:PE X o to)
  (c:Yo o "items" X.env (eval o X.env)=eval o X.env) (d:(apos.endLine==cpos.line)=c4) :
  PE X (.Call (.Name "tuple" p) [.Call (.Name "sorted" p2) [.Call (.Attribute o "items" apos) [] [] cpos] [] pos2] [] pos) (λj H Q=>to j H λx l=>EM X.K x l Q):=by
 intro i s j H Q I h;refine VG (iH I r w XN ?_);refine W7 ?_ rfl rfl;refine Zx ?_;refine VG (iH I n u Y3 ?_);refine Wn ?_ rfl rfl;refine Zx ?_;refine wpAny_Call_method0_late c d (aM (T i s j H _ I h) λv A ⟨x,l,B,Z,a,ps,N,e,E,m,q⟩=>?_);subst N;obtain rfl:v=Ug a:=Z;obtain⟨Y,hl,M,L,g,he⟩:=zD B e E;refine⟨"dict","dict.items",PySem.F.plainAttrs_dict,a0m,PySem.F.type_dict_items,g.ty,λb K=>?_,a0N rfl (PySem.evalArgs_none ?_)⟩
 ·cases K;obtain⟨z,O,R,_⟩:=g;exact⟨z,O,R.2.1⟩
 refine call_meetsIn a0m g.ty PySem.F.entry_dict_items (PySem.F.args_dict_items_1 _) (O6 a Y) ⟨⟨M,L,g⟩,?_⟩;refine ZI ?_;have G:Inv X i j l {A with heap:=A.heap.push {cls:=.type "dict_items",data:=.fields #[.ref a]}}:=B.kept (t':=A.toks) λb o e=>Ua _ e;refine aM (Pf hc y G e E m ⟨_,UC _ rfl,rfl,rfl⟩ q) λv s' U=>ZI U
end
theorem EO{K:T3}{π:Nat->Addr}{μ:Hm}:∀{as:List Addr}{ps:bT}{H:Hp},Rp K π H μ->as.Nodup->(∀a∈as,H a=b8)->Ext π μ.length H π μ.length (eF H as ps)/\Rp K π (eF H as ps) μ
 |[],_,H,R,_,_=>by simp only[eF];exact⟨.refl,R⟩
 |a::as,[],H,R,_,_=>⟨.refl,R⟩|a::as,p::ps,H,R,nd,hf=>by
  rw[Vy]at nd;obtain⟨e,d⟩:=R.fresh (o:=.tup [.ref p.2.1,p.2.2]) (hf a (UZ ..));obtain⟨h,R2⟩:=EO (as:=as) (ps:=ps) d nd.2 λb c=>by rw[aS (λw:b=a=>nd.1 (w▸c))];exact hf b (UO _ c)
  exact⟨e.trans h,R2⟩
theorem Ph{K:T3}{Z:ME}:∀σ H Q,tM K (oP Z) σ H Q->tM K Z σ H λx o=>EM K x o Q:=by
 rintro σ H Q ⟨π,ρ,μ,d,p,R,E,h,k⟩;obtain⟨⟨x,G⟩,h1,h⟩:=TZ.mp h;refine⟨π,ρ,μ,x,G,R,E,h1,λm v1 o e1 I i1=>?_⟩;have k1:=k.after e1;dsimp only at h;unfold uJ at h;split at h
 ·split at h
  ·rename_i b hc;split at h
   ·rename_i hb;cases h;cases i1;obtain⟨c,e2,T⟩:=mS I hc;have Y:c.length=b.length:=by have:=congrArg Wh T.to.1;simpa using this
    refine⟨_,c,rfl,e2,T.keys,by rw[Y];exact hb,λe L l al n y=>?_⟩;rw[Vy,Vy]at n;obtain⟨M,R3⟩:=EO (ps:=c) I n.2.2 λa ha=>y a (UO _ (UO _ ha));have hL:eF o e c L=none:=by rw[mU n.2.1];exact y L (UO _ (UZ ..))
    obtain⟨N,R4⟩:=R3.fresh (o:=.lst (d6 e c)) hL;have hl:aG (eF o e c) L (.lst (d6 e c)) l=none:=by rw[aS (λw:l=L=>n.1 (by rw[w];exact UZ ..)),mU λw=>n.1 (UO _ w)];exact y l (UZ ..)
    obtain⟨O,R5⟩:=R4.fresh (o:=.tup (d6 e c)) hl;refine k1 m _ _ ((M.trans N).trans O) R5 (.tup (.of bO) ?_);have A:c.map (·.1)=b.map (·.1):=T.to.1;have B:∀q:List Nat,(∀i∈q,i<b.length)->IsDs K m p.length (aG (aG (eF o e c) L (.lst (d6 e c))) l (.tup (d6 e c))) (q.map λi=>V.ref (e.getD i 0)) (q.map (zK∘λi=>b.getD i ([],.non))):=λq s=>by
     induction q with
     |nil=>exact .nil|cons i q ih=>
      have u:=s i (UZ ..);have r:e[i]?=b6 (e.getD i 0):=by simp[Vr,show i<e.length by omega]
      have z:c[i]?=b6 c[i]:=T9 (by omega);have hik:b[i]?=b6 b[i]:=T9 u;have U:b.getD i ([],.non)=b[i]:=by simp[Vr,u]
      have ep:c.getD i ([],0,.non)=c[i]:=by simp[Vr,show i<c.length by omega]
      have pa:=O7 T ([],0,.non) ([],.non) i (by omega);rw[ep,U]at pa;obtain⟨q1,q2,q3⟩:=pa;refine .cons ?_ (ih λj hj=>s j (UO _ hj));have v:aG (aG (eF o e c) L (.lst (d6 e c))) l (.tup (d6 e c)) (e.getD i 0)=b6 (.tup [.ref c[i].2.1,c[i].2.2]):=by have h:=UL r;rw[aS (λw:e.getD i 0=l=>n.1 (by rw[<- w];exact UO _ h)),aS (λw:e.getD i 0=L=>n.2.1 (by rw[<- w];exact h))];exact uI n.2.2 r z
      show IsD K m p.length _ (.ref (e.getD i 0)) (zK (b.getD i ([],.non)));rw[U];have X:=(M.trans N).trans O;have ik:IsD K m p.length o (.ref c[i].2.1) (.tup (b[i].1.map D.int)):=by rw[<- q1];exact .tup q2 (yS _)
      exact .tup (.of v) (.cons (ik.mono X) (.cons (q3.mono X) .nil))
    have ey:d6 e c=(cI (λi j=>HT.lexLt ((b.map (·.1)).getD i []) ((b.map (·.1)).getD j [])) b.length).map λi=>V.ref (e.getD i 0):=by unfold d6 qW;rw[A,Y]
    have fin:=B (cI (λi j=>HT.lexLt ((b.map (·.1)).getD i []) ((b.map (·.1)).getD j [])) b.length) λi u=>Wr.mp ((gM _ _).mem_iff.mp u);rw[<- ey]at fin;unfold uH;rw[Vo];exact fin
   ·cases h
  ·cases h
 ·cases h
theorem Pj{X:Cx}{o:Expr}{l:ME}{a b p r pos c:VW}(hc:X.calm=c4)(j:X.A.units+64<Wi)(h:X.mg "sorted"=b8) (i:X.mg "tuple"=b8) (d:Gl X "sorted") (e:Gl X "tuple") (n:QE X o l)(q:kN o=c4)(m:(a.endLine==b.line)=c4) :
  QE X (.Call (.Name "tuple" p) [.Call (.Name "sorted" r) [.Call (.Attribute o "items" a) [] [] b] [] c] [] pos) (oP l):=
 ⟨cS (Pg hc j h i d e n.h (nX q) m) Ph⟩
end L3
namespace L3
open PySem L2 PySem.W PyProof.Rows
section
variable{P:Ur}{w:UJ}{A:UD}{E:Value->T6->Prop}{s:T6}
theorem Pk{a i b j:Addr}{o p:Obj}{n G:Nat}{v r:Value}{k k':List Int}{C:Bool->T6->Prop}(m:A.units<Wi)(x:s.heap.get? a=b6 o)(u:o.data=.seq #[.ref b,v] n)(h:s.heap.get? i=b6 p)(d:p.data=.seq #[.ref j,r] G)
  (l:kX P w s.heap b k)(c:kX P w s.heap j k')(y:k=k'->v=r)(q:C (HT.lexLt k k') s):Uu (Ut P w) A (a2X (tuples' b9) (.ref a) (.ref i)) C (λ_ _=>False) s:=by
 refine kat_lt x u h d ?_;refine a2G ((XY (Zm P w)).eqBool m l.1 c.1 ?_);by_cases e:k=k'
 ·obtain rfl:=y e;subst e;rw[decide_eq_true rfl];refine a3p (a2G (EG (a3p (kat_nil ?_))));rw[zE]at q;exact q
 ·rw[decide_eq_false e];obtain⟨K,H,z⟩:=l.2;obtain⟨L,I,B⟩:=c.2;refine kat_no (kat_one _ _ (HT.lt_tupInts H I (by simpa using z) (by simpa using B) m ?_));exact q
noncomputable def Pl(P:Ur)(w:UJ)(h:Vb)(a:Addr)(k:List Int):Prop:=∃(o:Obj)(n:Nat)(b:Addr)(v:Value),h.get? a=b6 o/\o.cls=.type "tuple"/\o.data=.seq #[.ref b,v] n/\kX P w h b k
theorem Pm{as:List Addr}{ks:List (List Int)}(X:A.units<Wi)(Q:0<as.length)(H:ks.length=as.length)(c:∀i,i<as.length->Pl P w s.heap (as.getD i 0) (ks.getD i []))
  (I:ks.Nodup):kY P w A (as.map Ug) (λi j=>HT.lexLt (ks.getD i []) (ks.getD j [])) s:=by
 unfold kY;have m:∃fs:List Value,fs.length=as.length/\KatTups s.heap (as.map Ug) fs/\∀v∈fs,∃b k,v=Ug b/\kX P w s.heap b k:=by
  clear Q I;induction as generalizing ks with
  |nil=>exact⟨[],rfl,.nil,λv d=>nomatch d⟩|cons a as Y=>
   match ks,H with
   |k::ks,H=>
    obtain⟨fs,L,x,y⟩:=Y (ks:=ks) (by simpa using H) λi l=>by simpa using c (i+1) (by simpa using l)
    obtain⟨o,n,b,v,e,K,p,q⟩:=c 0 (by simp);simp only[List.getD_cons_zero]at e q;refine⟨.ref b::fs,by simp[L],.cons e K p (by simp) x,λv d=>?_⟩;rcases UX.mp d with rfl|d
    ·exact⟨b,k,rfl,q⟩
    ·exact y v d
 obtain⟨fs,L,x,y⟩:=m;refine kat_kind (T:=.type "tuple") x (by omega) (λv d=>?_) (by decide) ⟨rfl,λi j C l G U=>?_⟩
 ·obtain⟨b,k,rfl,Z⟩:=y v d;obtain⟨xs,⟨o,o1,o2,_⟩,_⟩:=Z.2;exact kitAt_ty _ _ ⟨o,o1,o2⟩
 ·rw[Uc]at l G;have N:(as.map Ug).getD i .none=.ref (as.getD i 0):=by simp[Vr,l]
  have O:(as.map Ug).getD j .none=.ref (as.getD j 0):=by simp[Vr,G]
  rw[N,O];obtain⟨o,n,b,v,e,K,p,q⟩:=c i l;obtain⟨o',n',b',v',r,f2,u,M⟩:=c j G;refine Pk X e p r u q M (λz=>?_) U;have B:i=j:=by
   have R:ks.getD i []=ks[i]:=by simp[Vr,show i<ks.length by omega]
   have T:ks.getD j []=ks[j]:=by simp[Vr,show j<ks.length by omega]
   rw[R,T]at z;rcases YL i j with h|h|h
   ·exact absurd z ((U7.mp I) i j (by omega) (by omega) h)
   ·exact h
   ·exact absurd z.symm ((U7.mp I) j i (by omega) (by omega) h)
  subst B;rw[e]at r;cases r;rw[p]at u;cases u;rfl
theorem Pn{h:Type}{lt:h->h->Bool}(O:Ord1 lt)(d:h){ks:List h}{l:Addr}{us:List Value}{Q:Value->T6->Prop}(m:ks.length=us.length)(r:ks.Nodup)(u:us.Nodup)(hz:us.length<=Uo)(n:s.heap.IsList l us.toArray)
  (H:2<=us.length->∀c:Vb,(∀b o,s.heap.get? b=b6 o->c.get? b=b6 o)->kY P w A.in1.in1 us (λi j=>lt (ks.getD i d) (ks.getD j d)) {s with heap:=c})
  (q:Q (.ref (s.heap.objs.size+1)) {s with heap:=sortedAll s.heap us ((cI (λi j=>lt (ks.getD i d) (ks.getD j d)) us.length).map λi=>us.getD i US).toArray}):Uu (Ut P w) A (call (.builtin "sorted") [.ref l]) Q E s:=by
 refine a0t kind_sorted plain_sorted entry_sorted (args_sorted1 _) ?_;unfold a1o;refine T5 (m:=checkCount "sorted" 1 1 _) (Ui (T5 (collect_list n (T5 (ZX ?_ (by omega))) (by omega))));have z:((s.heap.push (Wa "list" #[] 0)).update s.heap.objs.size (Wg (·++us.toArray))).objs.size=s.heap.objs.size+1:=by rw[Heap.size_update,size_push']
 have g:(((s.heap.push (Wa "list" #[] 0)).update s.heap.objs.size (Wg (·++us.toArray))).push (Wa "list" us.toArray 0)).get? (s.heap.objs.size+1)=b6 (Wa "list" us.toArray 0):=z▸UC _ rfl;show Uu _ _ _ _ _ ⟨((s.heap.push (Wa "list" #[] 0)).update s.heap.objs.size (Wg (·++us.toArray))).push (Wa "list" us.toArray 0),s.gens,s.drawn,s.toks,s.os⟩;rw[z];by_cases a:2<=us.length
 ·refine T5 (Vx (Wz ZE ⟨_,g,rfl⟩ Zq (EH O d m r u a hz g (λc p=>H a c λb o e=>p b o ?_ ?_) ⟨_,rfl,?_⟩) (ZG _)))
  ·exact UB (YM (Uh e))
  ·exact Ua _ ((U4 _ _ (Wf (Uh e))).trans (Ua _ e))
  ·exact Ui ⟨_,rfl,q⟩
 ·refine T5 (Vx (Wz ZE ⟨_,g,rfl⟩ Zq (DD (us:=us) (by omega) g ⟨_,rfl,?_⟩) (ZG _)));refine Ui ⟨_,rfl,?_⟩;match us,a,q with
  |[],_,q=>rw[VR,yK]at q;exact q|[b],_,q=>rw[X1,DE]at q;exact q|_::_::_,a,_=>simp at a
end
noncomputable def k4:List D->Option (List (List Int))
 |[]=>b6 []|.tup [x,_]::r=>(dS x).bind λk=>(k4 r).map (k::·)|_=>b8
noncomputable def k7:MF:=λds μ=>match ds with
 |[x]=>(t6 μ x).bind λb=>(k4 b).bind λa=>if a.Nodup then b6 (.loc μ.length,μ++[.lst ((cI (mO a) a.length).map λi=>b.getD i .non)])else b8|_=>b8
noncomputable abbrev PrsV(K:T3)(H:Hp):List V->List (List Int)->Prop:=YA λv t=>∃a b y,v=V.ref a/\SqT K H a [V.ref b,y]/\SqT K H b (t.map V.int)
theorem PrsV.get{K:T3}{H:Hp}:∀{vs:List V}{c:List (List Int)}{i:Nat},PrsV K H vs c->i<vs.length->∃a b y,vs[i]?=b6 (V.ref a)/\SqT K H a [V.ref b,y]/\SqT K H b ((c.getD i []).map V.int)
 |_,_,_,.nil,h=>by simp at h
 |_,_,0,.cons ⟨a,b,y,e,q,q2⟩ _,_=>⟨a,b,y,by rw[e];rfl,q,q2⟩|_,_,i+1,.cons _ t,h=>by obtain⟨a,b,y,e,q⟩:=PrsV.get (i:=i) t (by simpa using h);exact⟨a,b,y,by simpa using e,q⟩
theorem ER:∀{xs:List D}{ks:List (List Int)},k4 xs=b6 ks->ks.length=xs.length
 |[],ks,h=>by cases h;rfl
 |x::xs,ks,h=>by
  unfold k4 at h;split at h
  ·rename_i a;cases a
  ·rename_i a;cases a;obtain⟨k,e,h⟩:=TZ.mp h;obtain⟨d,b,c⟩:=T7.mp h;subst c;rw[UA,UA,ER b]
  ·cases h
theorem ES{K:T3}{π:Nat->Addr}{n:Nat}{H:Hp}:∀{xs:List D}{vs:List V}{ks:List (List Int)},IsDs K π n H vs xs->k4 xs=b6 ks->PrsV K H vs ks
 |[],_,ks,h,e=>by cases h;cases e;exact .nil
 |x::xs,_,ks,h,e=>by
  cases h with
  |cons h t=>
   unfold k4 at e;split at e
   ·rename_i a;cases a
   ·rename_i a;cases a;obtain⟨k,m,e⟩:=TZ.mp e;obtain⟨s,o,q⟩:=T7.mp e;subst q;cases h with
    |@tup p v ds r hd=>
     cases hd with
     |cons d i=>
      cases i with
      |cons i j=>
       cases j;rw[DZ m]at d;cases d with
       |@tup u w l c b=>have:=ints_of' b;subst this;exact .cons ⟨p,u,_,rfl,r,c⟩ (ES t o)
   ·cases e
noncomputable def ET(K:T3):List V->Hp->VK->Prop:=λxs H Q=>∃q ws ks,xs=[V.ref q]/\SqL K H q ws/\PrsV K H ws ks/\ks.Nodup/\∀l,H l=b8->Q (.ref l) (aG H l (.lst ((cI (mO ks) ws.length).map λi=>ws.getD i .non)))
theorem Po{K:T3}:eN K k7 (ET K):=by
 intro x H w v d s u Q R i a k;unfold k7 at a;split at a
 ·obtain⟨r,m,a⟩:=TZ.mp a;obtain⟨b,h,a⟩:=TZ.mp a;split at a
  ·rename_i n;cases a;cases i with
   |cons i t=>
    cases t;obtain⟨p,c,rfl,q,hd⟩:=NZ R i m;have o:c.length=b.length:=by rw[hd.length,ER h]
    refine⟨p,c,b,rfl,q,ES hd h,n,λl e=>?_⟩;obtain⟨j,R2,_⟩:=R.alloc (c:=.lst ((cI (mO b) b.length).map λi=>r.getD i .non)) (o:=.lst ((cI (mO b) c.length).map λi=>c.getD i .non)) e (by
     show IsDs _ _ _ _ _ _;rw[o];exact D2 hd _)
    exact k _ _ _ j R2 lZ
  ·cases a
 ·cases a
theorem Pp{X:Cx}(hun:X.A.units+64<Wi):CallR X (.builtin "sorted") (ET X.K):=by
 intro a4z s σ H xs us Q I r h;obtain⟨q,x,p,rfl,hq,hp,hnd,k⟩:=h;obtain⟨u,rfl,ru⟩:=iI r;cases ru;obtain⟨m,O,pl,hz⟩:=I.list hq;have E:=O.length;have hkl:p.length=x.length:=hp.length.symm
  -- the values are G
 have K:∀i,i<m.length->∃a b y,m[i]?=b6 (.ref a)/\SqT X.K H a [V.ref b,y]/\SqT X.K H b ((p.getD i []).map V.int):=λi w=>by obtain⟨a,b,y,ea,sa,sb⟩:=hp.get (i:=i) (by omega);obtain⟨u,A,B⟩:=O.get ea;cases B;exact⟨a,b,y,A,sa,sb⟩
 have G:∃v:List Addr,m=v.map Ug:=by
  clear K hz pl hnd k hq I E hkl;induction hp generalizing m with
  |nil=>cases O;exact⟨[],rfl⟩|cons h _ ih=>
   cases O with
   |cons r1 r2=>obtain⟨v,e⟩:=ih _ r2;obtain⟨a,b,y,rfl,_⟩:=h;cases r1;exact⟨a::v,by rw[e];rfl⟩
 obtain⟨v,T⟩:=G;have hal:v.length=m.length:=by rw[T,Uc]
 have pr:∀i,i<v.length->∃b y,SqT X.K H (v.getD i 0) [V.ref b,y]/\SqT X.K H b ((p.getD i []).map V.int):=λi w=>by
  obtain⟨a,b,y,A,B,U⟩:=K i (by omega);have:v.getD i 0=a:=by rw[T,UU]at A;obtain⟨a',M,N⟩:=T7.mp A;cases N;simp[Vr,M]
  rw[this];exact⟨b,y,B,U⟩
 have nda:v.Nodup:=by
  refine U7.mpr λi j w Y hij e=>?_;obtain⟨b,y,A,B⟩:=pr i w;obtain⟨b',y',f1,f2⟩:=pr j Y;have e1:v.getD i 0=v[i]:=by simp[Vr,w]
  have e2:v.getD j 0=v[j]:=by simp[Vr,Y]
  rw[e1]at A;rw[e2,<- e]at f1;obtain⟨x1,r1,t1,_⟩:=I.tuple A;obtain⟨x2,r2,t2,_⟩:=I.tuple f1;obtain⟨o1,a1,_,n1,d1⟩:=t1;obtain⟨o2,a2,_,n2,R⟩:=t2;rw[a1]at a2;cases a2;rw[d1]at R;have hx:x1=x2:=by injection R with R;simpa using R
  subst hx;cases r1 with
  |cons p1 _=>
   cases r2 with
   |cons Z _=>
    cases p1;cases Z;have hk:=NY I B f2;have M:p.getD i []=p[i]:=by simp[Vr,show i<p.length by omega]
    have N:p.getD j []=p[j]:=by simp[Vr,show j<p.length by omega]
    rw[M,N]at hk;exact(U7.mp hnd) i j (by omega) (by omega) hij hk
 have ndi:m.Nodup:=by rw[T];unfold a1Q;rw[Xh];exact nda.imp λh e=>h (by cases e;rfl)
 refine Pn Ei [] (ks:=p) (by omega) hnd ndi (by omega) pl.isList (λh22 U kp=>?_) ?_
 ·have I3:Inv X a4z σ H {s with heap:=U,toks:=s.toks}:=I.kept (t':=s.toks) kp;rw[T];refine Pm (A:=X.A.in1.in1) (s:={s with heap:=U}) (by show X.A.units+1+1<Wi;omega) (by omega) (by omega) (λi w=>?_) hnd;obtain⟨b,y,A,B⟩:=pr i w;obtain⟨xs,rx,⟨o,e,c,n,d⟩,_⟩:=I3.tuple A;cases rx with
  |cons p1 Z=>
   cases p1;cases Z with
   |cons Z p3=>cases p3;obtain⟨ys,ry,t,_⟩:=I3.tuple B;exact⟨o,n,b,_,e,c,d,mM I3 B,ys,t,DF ry⟩
 ·obtain⟨e,he⟩:=a3W s.heap m ((cI (λi j=>HT.lexLt (p.getD i []) (p.getD j [])) m.length).map λi=>m.getD i US).toArray;refine⟨.ref (s.heap.objs.size+1),_,I.laid (t':=s.toks) (a:=s.heap.objs.size+1) (o:=.lst ((cI (mO p) x.length).map λi=>x.getD i .non)) (λb ob z=>a3V z) (Zn _) ?_,rfl,k _ (I.hok.fresh (Zn _))⟩;refine⟨?_,_,e,?_,he⟩
  ·rw[Uc,(gM _ _).length_eq,a2h];exact hz
  ·rw[<- E];have hin:∀i∈cI (mO p) x.length,i<x.length:=λi w=>Wr.mp ((gM _ _).mem_iff.mp w);have L:∀l:List Nat,(∀i∈l,i<x.length)->Vals (l.map λi=>x.getD i .non) (l.map λi=>m.getD i US):=λl=>by
    induction l with
    |nil=>intro _;exact .nil|cons i l ih=>
     intro hl;refine .cons ?_ (ih λj Y=>hl j (UO _ Y));have w:=hl i (UZ ..);obtain⟨u,M,N⟩:=O.get (T9 w);have e1:x.getD i .non=x[i]:=by simp[Vr,w]
     have e2:m.getD i US=u:=by simp[Vr,M]
     show RelV (x.getD i .non) (m.getD i US);rw[e1,e2];exact N
   exact L _ hin
end L3
namespace L3
open PySem L2
structure Sig where
 fn:List (Str×Nat)
 con:List (Str×D)
 tab:List (Str×List (aK×D))
 no:List Str
 dIt:List Str
 dEq:List Str
 dMe:List Str
 cls:List (Str×Str):=[]
 sup:List (Str×List Str):=[]
 rz:List Str:=[]
 mx:Bool:=b9
 uf:List (Str×Stmt):=[]
 ul:List (Str×Stmt):=[]
structure Cs where
 N:List Str
 ks:List (Str×W3)
noncomputable def dY(x:Str):List Str->Option Nat
 |[]=>b8|y::r=>if x=y then b6 0 else(dY x r).map (·+1)
theorem iU{x:Str}:∀{N:List Str}{i:Nat},dY x N=b6 i->N[i]?=b6 x
 |[],_,h=>by cases h
 |y::r,i,h=>by
  unfold dY at h;split at h
  ·rename_i e;cases h;subst e;rfl
  ·obtain⟨j,a,b⟩:=T7.mp h;subst b;have:=iU a;simpa using this
noncomputable def glob(c:Cs)(x:Str):Bool:=decide (c.ks.lookup x=b6 .globalImplicit)&&!(x==("__debug__":Str))
noncomputable def seen(c:Cs)(x:Str):Bool:=(decide (c.ks.lookup x=b6 .local)||decide (c.ks.lookup x=b6 .cell)||decide (c.ks.lookup x=b6 .free))&&!(x==("__debug__":Str))&&!(x==("__classdict__":Str))
noncomputable def fK(c:Cs)(x:Str):Bool:=decide (c.ks.lookup x=b6 .local)||decide (c.ks.lookup x=b6 .cell)
noncomputable def zL(x:Str):Option String:=
 if x="int" then b6 "int" else if x="bool" then b6 "bool" else if x="str" then b6 "str" else if x="list" then b6 "list" else if x="tuple" then b6 "tuple" else if x="dict" then b6 "dict" else b8
theorem Pq{x:Str}{n:String}(h:zL x=b6 n):V9 x=b6 (.type n)/\x ≠ "__name__":=by
 unfold zL at h;split at h
 ·rename_i e;subst e;cases h;exact⟨a1Z,by decide⟩
 split at h
 ·rename_i e;subst e;cases h;exact⟨a2b,by decide⟩
 split at h
 ·rename_i e;subst e;cases h;exact⟨a1X,by decide⟩
 split at h
 ·rename_i e;subst e;cases h;exact⟨Ze,by decide⟩
 split at h
 ·rename_i e;subst e;cases h;exact⟨XN,by decide⟩
 split at h
 ·rename_i e;subst e;cases h;exact⟨a2a,by decide⟩
 ·cases h
noncomputable def zM(S:Sig)(c:Cs)(x:Str):ME:=
 if seen c x=c4 then(match dY x c.N with|some i=>aB i|none=>aZ)
 else if glob c x=c4 then(match S.con.lookup x with
  |some d=>mC d
  |none=>if S.no.contains x=c4 then(match zL x with|some n=>mC (.ty n)|none=>aZ)else aZ)
 else aZ
noncomputable def eY(r:Expr->ME):List Expr->MA
 |[]=>aD|e::es=>aA (r e) (eY r es)
noncomputable def qX(op:BoolOp):List ME->ME
 |[]=>aZ|[m]=>m|m::r=>match op with
  |.And=>dH m (qX op r)|.Or=>xC m (qX op r)
noncomputable def qZ(op:BoolOp):List MT->MT
 |[]=>iM|[m]=>m|m::r=>match op with
  |.And=>gE m (qZ op r)|.Or=>cP m (qZ op r)
noncomputable def EU(op:a1j)(a b:ME):ME:=match op with
 |.Add=>aC bM a b|.Sub=>aC l6 a b|.Mult=>aC c9 a b|.FloorDiv=>aC cG a b|.Mod=>aC bB a b|.Pow=>aC l7 a b|_=>aZ
noncomputable def k8(op:Yi)(ns:Bool)(a b:ME):ME:=match op with
 |.Eq=>aC (a8 b9) a b|.NotEq=>aC (a8 c4) a b|.Lt=>aC fE a b|.LtE=>aC nN a b|.Gt=>aC xQ a b|.GtE=>aC xR a b|.In=>if ns=c4 then aC (bZ b9) a b else aZ|.NotIn=>if ns=c4 then aC (bZ c4) a b else aZ|_=>aZ
noncomputable def zN(r:Expr->ME):List (Option Expr)->List Expr->Option (List (ME×ME))
 |[],[]=>b6 []|some k::ks,v::vs=>(zN r ks vs).map λt=>(r k,r v)::t|_,_=>b8
noncomputable def zO(r:Expr->ME):Option Expr->MO
 |none=>dJ|some e=>cZ (r e)
noncomputable def cK:MF:=λds μ=>match ds with
 |[.loc a]=>match μ[a]? with
  |some (.lst xs)=>b6 (.int xs.length,μ)|some (.dK kvs)=>b6 (.int kvs.length,μ)|some (.st ks)=>b6 (.int ks.length,μ)|some (.dT kvs)=>b6 (.int kvs.length,μ)|_=>b8
 |_=>qE ds μ
noncomputable def mV:MF:=λds μ=>match ds with
 |[x]=>(bJ μ x).map λa=>(.tup a,μ)|_=>b8
theorem Pr{K:T3}:eN K mV (λxs H Q=>∃p ys,xs=[.ref p]/\((SqL K H p ys/\∀l,H l=b8->Q (.ref l) (aG H l (.tup ys)))\/(SqT K H p ys/\Q (.ref p) H))):=by
 intro e H r xs d n o Q R i a k;unfold mV at a;split at a
 ·obtain⟨ys,h,j⟩:=T7.mp a;cases j;cases i with
  |cons i t=>
   cases t;obtain⟨p,c,rfl,q,hd⟩:=nQ R i h;refine⟨p,c,rfl,?_⟩;rcases q with q|q
   ·refine .inl ⟨q,λl m=>?_⟩;obtain⟨b,R2⟩:=R.fresh (o:=.tup c) m;exact k e _ _ b R2 (.tup (.of bO) (hd.mono b))
   ·exact .inr ⟨q,k e _ H .refl R (.tup q hd)⟩
 ·cases a
noncomputable def fL:MF:=λds μ=>match ds with
 |[.loc a]=>match μ[a]? with
  |some (.dT kvs)=>b6 (.loc μ.length,μ++[.lst (kvs.map λk=>D.tup (k.1.map D.int))])|_=>qF [.loc a] μ
 |ds=>qF ds μ
theorem Pt{K:T3}:eN K fL (λxs H Q=>(∃p ys,xs=[.ref p]/\(SqL K H p ys\/SqT K H p ys)/\∀l,H l=b8->Q (.ref l) (aG H l (.lst ys)))\/EB K xs H Q):=by
 intro n H m xs d c j Q R i b k;unfold fL at b;split at b
 ·rename_i a;split at b
  ·rename_i e s;cases b;cases i with
   |cons i t=>cases t;cases i;obtain⟨h,q,T⟩:=mS R s;refine .inr ⟨_,h,rfl,q,T.keys,λl r=>?_⟩;obtain⟨o,R2,_⟩:=R.alloc (c:=.lst (e.map λk:List Int×D=>D.tup (k.1.map D.int))) (o:=.lst (h.map λp:List Int×Addr×V=>V.ref p.2.1)) r T.to.2.1;exact k _ _ _ o R2 lZ
  ·exact .inl (CU n H m _ d c j Q R i b k)
 ·exact .inl (CU n H m _ d c j Q R i b k)
noncomputable def zP(x:Str):Option MF:=
 if x="len" then b6 cK
 else if x="isinstance" then b6 bX
 else if x="list" then b6 fL
 else if x="tuple" then b6 mV
 else if x="all" then b6 tQ
 else b8
noncomputable def Pu(K:T3):List V->Hp->VK->Prop:=λxs H Q=>xW K xs H Q\/(∃a kvs,xs=[V.ref a]/\H a=b6 (.dK kvs)/\Q (.int kvs.length) H)\/(∃a L,xs=[V.ref a]/\H a=b6 (sP a L)/\Q (.int L.length) H)\/EA K xs H Q
theorem Pw{K:T3}:eN K cK (Pu K):=by
 intro l H o s d j n Q R i b k;unfold cK at b;split at b
 ·rename_i a;split at b
  ·rename_i u c;refine .inl (CT l H o _ d j n Q R i ?_ k);simp only[qE,bJ,c];exact b
  ·rename_i h c;cases b;cases i with
   |cons i t=>cases t;cases i;obtain⟨r,e,m,_⟩:=R.dK a h c;refine .inr (.inl ⟨_,r,rfl,e,?_⟩);have:=congrArg Wh m;rw[Uc,Uc]at this;rw[this];exact k l _ H .refl R (.int _)
  ·rename_i p c;cases b;cases i with
   |cons i t=>cases t;cases i;obtain⟨L,e,m,_⟩:=R.st a p c;have:=congrArg Wh m;rw[Uc]at this;refine .inr (.inr (.inl ⟨_,L,rfl,e,?_⟩));rw[this];exact k l _ H .refl R (.int _)
  ·rename_i h c;cases b;cases i with
   |cons i t=>cases t;cases i;obtain⟨q,e,T⟩:=mS R c;have:=congrArg Wh T.to.1;rw[Uc,Uc]at this;refine .inr (.inr (.inr ⟨_,q,rfl,e,T.keys,?_⟩));rw[this];exact k l _ H .refl R (.int _)
  ·cases b
 ·exact .inl (CT l H o _ d j n Q R i b k)
theorem Px{X:Cx}{x:Str}{f:MF}(a:X.calm=c4)(b:X.A.units+64<Wi)(h:zP x=b6 f):∃v r,V9 x=b6 v/\((∃id,v=.builtin id)\/∃T,v=.type T)/\CallR X v r/\eN X.K f r/\x ≠ "__name__":=by
 unfold zP at h;split at h
 ·rename_i e;subst e;cases h;exact⟨_,_,a1Y,.inl ⟨_,rfl⟩,call_lenM.or (call_lenD.or (call_lenT.or OR)),Pw,by decide⟩
 split at h
 ·rename_i e;subst e;cases h;exact⟨_,_,Xq,.inl ⟨_,rfl⟩,Ls,Lr,by decide⟩
 split at h
 ·rename_i e;subst e;cases h;exact⟨_,_,Ze,.inr ⟨_,rfl⟩,call_list_of.or (OS a),Pt,by decide⟩
 split at h
 ·rename_i e;subst e;cases h;exact⟨_,_,XN,.inr ⟨_,rfl⟩,B5,Pr,by decide⟩
 split at h
 ·rename_i e;subst e;cases h;exact⟨_,_,a2c,.inl ⟨_,rfl⟩,MY a,MX rfl,by decide⟩
 ·cases h
noncomputable def zQ(x:Str):Option MF:=
 zP x
theorem Py{X:Cx}{x:Str}{f:MF}(a:X.calm=c4)(b:X.A.units+64<Wi)(h:zQ x=b6 f):∃v r,V9 x=b6 v/\((∃id,v=.builtin id)\/∃T,v=.type T)/\CallR X v r/\eN X.K f r/\x ≠ "__name__":=by unfold zQ at h;exact Px a b h
noncomputable def EV(m:Str)(n:Nat):Option (D->List D->Hm->Option (D×Hm)):=
 if n=1 then(if m="append" then b6 nY
  else b8)
 else b8
noncomputable def EW(S:Sig):Expr->List Expr->Option Expr
 |.Name x _,[.Name y p]=>if S.dEq.contains y=c4 then(if x="sorted" then b6 (.Name y p)else b8)else b8|_,_=>b8
noncomputable def EX(S:Sig)(o:Expr)(m:Str)(n:Nat):Option (D->List D->Hm->Option (D×Hm)):=
 b8
noncomputable def zR(S:Sig)(c:Cs)(tg:Expr):Expr->Option Nat
 |.Name x _=>match tg with
  |.Name _ _=>if S.dIt.contains x=c4 then dY x c.N else b8|_=>b8
 |_=>b8
noncomputable def zS(S:Sig)(F:Str->MF)(r:Expr->ME)(c:Cs)(f:Expr)(args:List Expr)(a:VW):ME:=match f with
 |.Name x _=>if glob c x&&args.all cC then(match S.fn.lookup x with
   |some n=>if args.length=n then aE (F x) (eY r args)else aZ|none=>
   if S.no.contains x&&!args.isEmpty then(match zQ x with|some g=>aE g (eY r args)|none=>aZ)else aZ)
  else aZ
 |.Attribute o m apos=>if kN o&&(apos.endLine==a.line)&&args.all cC then(
   match EX S o m args.length with
   |some g=>Pd g (r o) (eY r args)|none=>
   match EV m args.length with
   |some g=>nW g (r o) (eY r args)|none=>
    aZ)
  else aZ
 |_=>aZ
noncomputable def zT:Expr->Option (Expr×List Expr)
 |.Call f as [] _=>b6 (f,as)|_=>b8
theorem Pz{e f:Expr}{as:List Expr}(h:zT e=b6 (f,as)):∃pos,e=.Call f as [] pos:=by
 unfold zT at h;split at h
 ·cases h;exact⟨_,rfl⟩
 ·cases h
noncomputable def fM:Expr->Option Str
 |.Name x _=>b6 x|_=>b8
theorem iV{e:Expr}{x:Str}(h:fM e=b6 x):∃p,e=.Name x p:=by
 unfold fM at h;split at h
 ·cases h;exact⟨_,rfl⟩
 ·cases h
noncomputable def o1:List Expr->Option Expr
 |[e]=>b6 e|_=>b8
theorem EY{l:List Expr}{e:Expr}(h:o1 l=b6 e):l=[e]:=by
 unfold o1 at h;split at h
 ·cases h;rfl
 ·cases h
noncomputable def EZ(f:Expr)(args:List Expr):Option (Str×Str×Expr):=(fM f).bind λx=>(o1 args).bind λa=>(zT a).bind λg=>(fM g.1).bind λy=>(o1 g.2).map λe=>(x,y,e)
theorem PB{f:Expr}{args:List Expr}{x y:Str}{e:Expr}(h:EZ f args=b6 (x,y,e)):∃p c pos,f=.Name x p/\args=[.Call (.Name y c) [e] [] pos]:=by obtain⟨n,d,h⟩:=TZ.mp h;obtain⟨a,i,h⟩:=TZ.mp h;obtain⟨g,j,h⟩:=TZ.mp h;obtain⟨o,b,h⟩:=TZ.mp h;obtain⟨m,l,h⟩:=T7.mp h;cases h;obtain⟨p,rfl⟩:=iV d;obtain⟨pos,rfl⟩:=Pz j;obtain⟨c,b⟩:=iV b;exact⟨p,c,pos,rfl,by rw[EY i,b,EY l]⟩
noncomputable def zU(S:Sig)(F:Str->MF)(r:Expr->ME)(c:Cs)(f:Expr)(args:List Expr)(a:VW):ME:=
 zS S F r c f args a
noncomputable def zV:Expr->Option (Expr×VW×VW)
 |.Call g [] [] cpos=>match g with
  |.Attribute o m apos=>if m="items" then b6 (o,apos,cpos)else b8|_=>b8
 |_=>b8
theorem PC{e o:Expr}{a b:VW}(h:zV e=b6 (o,a,b)):e=.Call (.Attribute o "items" a) [] [] b:=by
 unfold zV at h;split at h
 ·split at h
  ·split at h
   ·rename_i c;cases h;rw[c]
   ·cases h
  ·cases h
 ·cases h
noncomputable def PD(f:Expr)(args:List Expr):Option (Expr×VW×VW):=(EZ f args).bind λt=>if t.1="tuple"/\t.2.1="sorted" then zV t.2.2 else b8
noncomputable def zW(S:Sig)(F:Str->MF)(r:Expr->ME)(c:Cs)(f:Expr)(args:List Expr)(a:VW):ME:=
 match PD f args with
 |some q=>if glob c "sorted" && glob c "tuple" && S.no.contains "sorted" && S.no.contains "tuple" && kN q.1&&(q.2.1.endLine==q.2.2.line)then oP (r q.1)else aZ|none=>
 match EW S f args with
 |some e=>if glob c "sorted" && S.no.contains "sorted" then aE k7 (eY r [e])else aZ|none=>
 zU S F r c f args a
noncomputable def mW(c:Cs)(scope:WB)(xs:List Str):Bool:=
 (scope.names.all λy=>decide (y.2≠.cell))&&decide (scope.kind=.function)&&(scope.names.all λy=>decide (y.2≠.local)||decide (scope.names.lookup y.1=b6 .local)) &&
 (xs.all λx=>decide (scope.names.lookup x=b6 .local))&&decide xs.Nodup&&(scope.names.all λy=>decide (y.2≠.free)||decide (c.ks.lookup y.1=b6 .cell)||decide (c.ks.lookup y.1=b6 .free)) &&
 (scope.names.all λy=>decide (y.2≠.local)||!(bE xs c.N).contains y.1)&&decide (bE xs c.N).Nodup&&(c.N.all λy=>!xs.contains y||decide (scope.names.lookup (nO y)=b8))
noncomputable def k9(c:Cs)(scope:WB)(xs:List Str):Cs:=
 ⟨bE xs c.N++xs,scope.names.map λ(n,k)=>if(k==WG&&c.ks.lookup n==b6 .cell)then(n,WV)else(n,k)⟩
noncomputable def zX(r:Expr->MT):List Expr->MT
 |[]=>fT|[t]=>r t|_=>iM
noncomputable def oQ(S:Sig)(c:Cs):Expr->Option (List Expr)
 |.Call (.Name x _) args [] _=>if x="range" then(if glob c x&&S.no.contains x&&args.all cC then b6 args else b8)else b8|_=>b8
noncomputable def uK(S:Sig)(r:Expr->ME)(c:Cs)(e:Expr):MI:=match oQ S c e with
 |some [a]=>iB (eY r [a])|some [a,b]=>kJ (eY r [a,b])|some _=>yE|none=>dM (r e)
noncomputable def zY(S:Sig)(c:Cs):Expr->Option Expr
 |.Call (.Name x _) [a] [] _=>if x="enumerate" then(if glob c x&&S.no.contains x&&cC a then b6 a else b8)else b8|_=>b8
noncomputable def zZ(S:Sig)(r:Expr->ME)(c:Cs)(e:Expr):MI:=match zY S c e with
 |some _=>yE|none=>uK S r c e
noncomputable def z7(S:Sig)(r:Expr->ME)(c:Cs)(e:Expr):MI:=zZ S r c e
noncomputable def z8:Expr->Option (List Str)
 |.Name x _=>b6 [x]|.Tuple es _ _=>es.mapM λe=>match e with|.Name x _=>b6 x|_=>b8
 |_=>b8
noncomputable def z9:Expr->Nat->BD
 |.Tuple ..,n=>CQ n|_,_=>l9
noncomputable def jV(S:Sig)(r:Expr->ME)(c:Cs)(tg e:Expr):MI:=match tg with
 |.Tuple ..=>z7 S r c e|_=>uK S r c e
noncomputable def iW(b:MI)(d:Cs->Expr->ME)(e:Cs->Expr->MT)(c:Cs)(elt tg iter:Expr)(ifs:List Expr)(scope:WB):ME:=match z8 tg with
 |some a=>if mW c scope a&&dW iter then kK (z9 tg a.length) b (zX (e (k9 c scope a)) ifs) (d (k9 c scope a) elt)else aZ|none=>aZ
noncomputable def Aa(S:Sig)(a:Cs->Expr->ME)(b:Cs->Expr->MT)(c:Cs)(elt tg iter:Expr)(ifs:List Expr)(scope:WB):ME:=
 match zR S c tg iter with
 |some i=>zF i (iW (jU (a c iter)) a b c elt tg iter ifs scope) (iW (jV S (a c) c tg iter) a b c elt tg iter ifs scope)|none=>
 iW (jV S (a c) c tg iter) a b c elt tg iter ifs scope
noncomputable def uL:Const->ME
 |.int i=>mC (.int i)|.bool b=>mC (.bl b)|.str s=>mC (.str s)|.none=>mC .non|_=>aZ
noncomputable def E4(m:ME):UnaryOp->ME
 |.USub=>iL m|.Not=>j9 m|_=>aZ
noncomputable def Ab(S:Sig)(r:Expr->ME)(a:Expr):List Yi->List Expr->ME
 |[op],[b]=>k8 op (dW b) (r a) (r b)
 |[op,op'],[b,b']=>(match jS op,jS op' with
  |some p,b6 q=>iR (fD p) (fD q) (r a) (r b) (r b')
  |_,_=>aZ)
 |_,_=>aZ
noncomputable def Ac(r:Expr->ME)(keys:List (Option Expr))(a:List Expr):ME:=match zN r keys a with
 |some b=>if !keys.isEmpty&&decide (keys.length<=15)then mG b else aZ|none=>aZ
noncomputable def Ad(r:Expr->ME):List (Option Expr)->List Expr->ME
 |[],[]=>iT|keys,values=>Ac r keys values
noncomputable def Ae(S:Sig)(r:Expr->ME)(c:Cs)(a b:Expr):ME:=match b with
 |.Slice lo hi b8 _=>cU (r a) (zO r lo) (zO r hi)|b=>if kH b then aC aH (r a) (r b)else aZ
noncomputable def Af(r:Expr->ME)(es:List Expr):ME:=if es.all cC then aW (eY r es)else aZ
noncomputable def Ag(r:Expr->ME)(es:List Expr):ME:=if es.all cC then bI (eY r es)else aZ
noncomputable def uM(S:Sig)(F:Str->MF)(r:Expr->ME)(c:Cs)(f:Expr)(args:List Expr)(a:VW):List Xs->ME
 |[]=>zW S F r c f args a|_=>aZ
noncomputable def Ah(S:Sig)(a:Cs->Expr->ME)(b:Cs->Expr->MT)(c:Cs)(elt:Expr)(scope:WB):List Comprehension->ME
 |[⟨tg,iter,ifs,0⟩]=>Aa S a b c elt tg iter ifs scope|_=>aZ
noncomputable def uN(S:Sig)(f:Expr)(args:List Expr):Option (Expr×Str):=match f with
 |.Name x _=>(match args with
  |[a,b]=>(match b with
   |.Name cn _=>if(x=="isinstance" && ((S.sup.lookup cn).isSome||(cn=="ValueError" && !S.sup.isEmpty)))=c4 then b6 (a,cn)else b8
   |_=>b8)
  |_=>b8)
 |_=>b8
theorem Fb{S:Sig}{f:Expr}{args:List Expr}{a:Expr}{b:Str}(h:uN S f args=b6 (a,b)):(∃p q,f=.Name "isinstance" p/\args=[a,.Name b q])/\((S.sup.lookup b).isSome=c4\/b="ValueError"):=by
 unfold uN at h;split at h
 ·split at h
  ·split at h
   ·split at h
    ·rename_i hc;cases h;rw[T4,beq_iff_eq,XF,T4,beq_iff_eq]at hc;rw[hc.1];exact⟨⟨_,_,rfl,rfl⟩,hc.2.imp id (·.1)⟩
    ·cases h
   ·cases h
  ·cases h
 ·cases h
noncomputable def Ai(S:Sig)(f:Expr)(args:List Expr):Option (Str×Str×Expr):=match f with
 |.Name x _=>(match args with
  |[a]=>(S.cls.lookup x).map λb=>(x,b,a)
  |_=>b8)
 |_=>b8
theorem PF{S:Sig}{f:Expr}{args:List Expr}{x c:Str}{a:Expr}(h:Ai S f args=b6 (x,c,a)):(∃p,f=.Name x p)/\args=[a]/\S.cls.lookup x=b6 c:=by
 unfold Ai at h;split at h
 ·split at h
  ·obtain⟨b,d,h⟩:=T7.mp h;cases h;exact⟨⟨_,rfl⟩,rfl,d⟩
  ·cases h
 ·cases h
noncomputable def Aj(S:Sig)(F:Str->MF)(r:Expr->ME)(c:Cs)(f:Expr)(args:List Expr)(a:VW)(b:List Xs):ME:=match b with
 |[]=>(match uN S f args with
  |some q=>if glob c "isinstance" && S.no.contains "isinstance" && glob c q.2&&cC q.1&&(!(q.2=="ValueError")||S.no.contains "ValueError")then dN (λx=>(S.sup.lookup x).map λd=>d.contains q.2) (r q.1)else aZ|none=>
   match Ai S f args with
   |some q=>if S.mx&&glob c q.1&&cC q.2.2 then iO q.1 q.2.1 (r q.2.2)else aZ|none=>
   uM S F r c f args a [])
 |b=>uM S F r c f args a b
noncomputable def Fc(S:Sig)(F:Str->MF)(d:Cs->Expr->ME)(e:Cs->Expr->MT)(c:Cs):Expr->ME
 |.Name x _=>zM S c x|.Constant v _ _=>uL v|.BinOp a op b _=>EU op (d c a) (d c b)|.UnaryOp op a _=>E4 (d c a) op|.Compare a ops bs _=>Ab S (d c) a ops bs|.BoolOp op vs _=>qX op (vs.map (d c))|.IfExp t a b _=>xD (e c t) (d c a) (d c b)|.Tuple es _ _=>Af (d c) es|.List es _=>Ag (d c) es|.Dict keys values _=>Ad (d c) keys values|.Subscript a b _=>Ae S (d c) c a b|.Call f args kws cpos=>Aj S F (d c) c f args cpos kws|.Attribute o a _=>if kN o then
   eU a (λx=>S.cls.lookup x==b6 a) (d c o)else aZ
 |.ListComp elt gs scope _=>Ah S d e c elt scope gs|_=>aZ
noncomputable def q0(r:Expr->ME)(e:Expr):MT:=if jL e then bK (r e)else iM
noncomputable def Ak(S:Sig)(r:Expr->ME)(a:Expr)(ops:List Yi)(bs:List Expr)(p:VW):MT:=match ops,bs with
 |[op],[b]=>aP (k8 op (dW b) (r a) (r b))
 |[op,op'],[b,b']=>(match jS op,jS op' with
  |some p,b6 q=>aP (iR (fD p) (fD q) (r a) (r b) (r b'))
  |_,_=>iM)
 |ops,bs=>q0 r (.Compare a ops bs p)
noncomputable def PH(r:Expr->ME)(t:MT)(a:Expr)(p:VW):UnaryOp->MT
 |.Not=>t|op=>q0 r (.UnaryOp op a p)
noncomputable def Fd(S:Sig)(b:Cs->Expr->ME)(d:Cs->Expr->MT)(c:Cs):Expr->MT
 |.BoolOp op vs _=>qZ op (vs.map (d c))|.UnaryOp op a p=>PH (b c) (bN (d c a)) a p op|.Compare a ops bs p=>Ak S (b c) a ops bs p|e=>q0 (b c) e
noncomputable def tr(S:Sig)(F:Str->MF):Nat->(Cs->Expr->ME)×(Cs->Expr->MT)
 |0=>(λ_ _=>aZ,λ_ _=>iM)|n+1=>(Fc S F (tr S F n).1 (tr S F n).2,Fd S (tr S F n).1 (tr S F n).2)
structure XcOk(S:Sig)(K:T3):Prop where
 att:∀x a,S.cls.lookup x=b6 a->tX K a x=c4
 sub:∀x ys c,S.sup.lookup x=b6 ys->(S.sup.lookup c).isSome=c4->qI K x c=b6 (ys.contains c)
 isx:∀x ys c,S.sup.lookup x=b6 ys->(S.sup.lookup c).isSome=c4->∃C,fY K c=b6 C/\gO K (.ref C) x=b6 (ys.contains c)
 isv:∀x ys,S.sup.lookup x=b6 ys->gO K (.type "ValueError") x=b6 (ys.contains "ValueError")
 plain:∀x ys,S.sup.lookup x=b6 ys->S.cls.lookup x=b8->∃C,ClsK K x C
 init:∀x a,S.cls.lookup x=b6 a->∃C f B bn fd sf ar,InitK K C f B bn a/\Vj K U1 x=b6 (b6 (.ref C))/\U9 K (.ref C)=c4/\(∀P w mg base k,FnOk P w K mg base cY (k+1) f fd [sf,ar] (kT C a))/\Binds K fd [sf,ar] []/\∃oI,K.lookup f=b6 oI/\oI.cls=.type "function"
structure Okx(S:Sig)(F:Str->MF)(k:Nat)(c:Cs)(X:Cx):Prop where
 N:X.N=c.N
 nd:X.N.Nodup
 ks:X.env.scope.names=c.ks
 kind:X.env.scope.kind=.function
 calm:X.calm=c4
 room:Room k X.A
 never:a3D (Ut X.prog X.w) X.A X.env X.xe
 fn:∀x n,S.fn.lookup x=b6 n->∃(f:Addr)(fd:VQ)(ps:List Str),FnOk X.prog X.w X.K X.mg X.base cY k f fd ps (eM X.K n (F x))/\X.mg x=b6 (.ref f)/\U9 X.K (.ref f)=c4/\Binds X.K fd ps []
 con:∀x d,S.con.lookup x=b6 d->∃v u,X.mg x=b6 u/\RelV v u/\∀π n H,IsD X.K π n H v d
 tab:∀x kvs,S.tab.lookup x=b6 kvs->TabOk X x kvs
 no:∀x,S.no.contains x=c4->X.mg x=b8
 xc:XcOk S X.K
 rm:S.mx=c4->2<=k
section
variable{S:Sig}{F:Str->MF}{k:Nat}{c:Cs}{X:Cx}
theorem q8(ks:X.env.scope.names=c.ks){x:Str}(h:glob c x=c4):Gl X x/\(x==("__debug__":Str))=false:=by unfold glob at h;rw[T4]at h;refine⟨?_,by simpa using h.2⟩;show X.env.scope.names.lookup x=_;rw[ks];exact of_decide_eq_true h.1
theorem Fe(ks:X.env.scope.names=c.ks){x:Str}(h:seen c x=c4):lS X.env.scope x/\(x==("__debug__":Str))=b9/\(x==("__classdict__":Str))=false:=by
 unfold seen at h;rw[T4,T4,XF,XF]at h;obtain⟨⟨a,b⟩,d⟩:=h;refine⟨?_,by simpa using b,by simpa using d⟩;unfold lS;rw[ks];rcases a with(a|a)|a
 ·exact .inl (of_decide_eq_true a)
 ·exact .inr (.inl (of_decide_eq_true a))
 ·exact .inr (.inr (of_decide_eq_true a))
theorem Okx.gl(O:Okx S F k c X){x:Str}(h:glob c x=c4):Gl X x/\(x==("__debug__":Str))=false:=q8 O.ks h
theorem Okx.vis(O:Okx S F k c X){x:Str}(h:seen c x=c4):lS X.env.scope x/\(x==("__debug__":Str))=b9/\(x==("__classdict__":Str))=false:=Fe O.ks h
theorem PJ(O:Okx S F k c X)(x:Str)(pos:VW):QE X (.Name x pos) (zM S c x):=by
 unfold zM;split
 ·rename_i h;obtain⟨a,b,l⟩:=O.vis h;split
  ·rename_i i o;exact C2 i (by rw[O.N];exact iU o) a b l
  ·exact bD
 split
 ·rename_i h;obtain⟨a,b⟩:=O.gl h;split
  ·rename_i d hd;obtain⟨v,u,m,r,i⟩:=O.con x d hd;exact⟨nG (Hw a m r b) i⟩
  ·split
   ·rename_i p;split
    ·rename_i n q;obtain⟨e,j⟩:=Pq q;exact L4 (O.no x p) e a j b
    ·exact bD
   ·exact bD
 ·exact bD
theorem gP{r:Expr->ME}(a:∀e,QE X e (r e)):∀(es:List Expr),es.all cC=c4->QA X es (eY r es) es.length
 |[],_=>LS|e::es,h=>by rw[Va,T4]at h;exact LU (a e) (gP a es h.2) h.1
theorem Al{r:Expr->ME}(a:∀e,QE X e (r e))(op:BoolOp)(pos:VW):∀(vs:List Expr),QE X (.BoolOp op vs pos) (qX op (vs.map r))
 |[]=>bD|[e]=>LO (a e)|e::d::es=>by
  have b:=Al a op pos (d::es);cases op with
  |And=>exact LP (a e) b|Or=>exact LQ (a e) b
theorem Am{r:Expr->MT}(a:∀e,QT X e (r e))(op:BoolOp)(pos:VW):∀(vs:List Expr),QW X (.BoolOp op vs pos) (qZ op (vs.map r))
 |[]=>MJ|[e]=>by
  cases op with
  |And=>exact Mf (a e)|Or=>exact Mg (a e)
 |e::d::es=>by
  have b:=Am a op pos (d::es);cases op with
  |And=>exact Mh (a e) b|Or=>exact Mi (a e) b
theorem PK{a b:Expr}{h i:ME}(d:QE X a h)(e:QE X b i)(op:a1j)(pos:VW):QE X (.BinOp a op b pos) (EU op h i):=by
 cases op with
 |Add=>exact C7 d e|Sub=>exact LB d e|Mult=>exact LC d e|FloorDiv=>exact LD d e|Mod=>exact LF d e|Pow=>exact LG d e|_=>exact bD
theorem PL(O:Okx S F k c X){a b:Expr}{i j:ME}(d:QE X a i)(e:QE X b j)(op:Yi)(pos:VW):QE X (.Compare a [op] [b] pos) (k8 op (dW b) i j):=by
 cases op with
 |Eq=>exact LI O.room d e|NotEq=>exact LJ O.room d e|Lt=>exact LK d e|LtE=>exact LL d e|Gt=>exact LM d e|GtE=>exact LN d e|In=>
  simp only[k8];split
  ·rename_i h;exact OU O.room d e h
  ·exact bD
 |NotIn=>
  simp only[k8];split
  ·rename_i h;exact OV O.room d e h
  ·exact bD
 |_=>exact bD
theorem An{e:Expr}:QT X e (aP aZ):=⟨λa4z s σ H Q I h=>by
 obtain⟨j,l,i,d,b,R,E,a,k⟩:=h;cases a⟩
theorem PM(O:Okx S F k c X){a b:Expr}{i j:ME}(d:QE X a i)(e:QE X b j)(op:Yi)(pos:VW):QT X (.Compare a [op] [b] pos) (aP (k8 op (dW b) i j)):=by
 cases op with
 |Eq=>exact L8 O.room d e|NotEq=>exact L9 O.room d e|Lt=>exact Ma d e|LtE=>exact Mb d e|Gt=>exact Mc d e|GtE=>exact Md d e|In=>
  simp only[k8];split
  ·rename_i h;exact OW O.room d e h
  ·exact An
 |NotIn=>
  simp only[k8];split
  ·rename_i h;exact OX O.room d e h
  ·exact An
 |_=>exact An
theorem Ff{r:Expr->ME}(b:∀e,QE X e (r e))(pos:VW):∀(ks:List (Option Expr))(vs:List Expr)(a:List (ME×ME)),zN r ks vs=b6 a->QP X pos ks vs a
 |[],[],a,h=>by cases h;exact L5
 |some k::ks,v::vs,a,h=>by obtain⟨t,d,i⟩:=T7.mp h;subst i;exact L6 (b k) (b v) (Ff b pos ks vs t d)
 |none::ks,vs,a,h=>by cases vs<;>cases h
 |some k::ks,[],a,h=>by cases h
 |[],v::vs,a,h=>by cases h
theorem Fg{r:Expr->ME}(a:∀e,QE X e (r e)):∀o:Option Expr,QO X o (zO r o)
 |none=>LX|some e=>LY (a e)
theorem PN(O:Okx S F k c X){r:Expr->ME}(y:∀e,QE X e (r e))(f:Expr)(args:List Expr)(d:VW):QE X (.Call f args [] d) (zS S F r c f args d):=by
 unfold zS;split
 ·rename_i x p;split
  ·rename_i h;rw[T4]at h;obtain⟨j,l⟩:=O.gl h.1;have i:=gP y args h.2;split
   ·rename_i n w;split
    ·rename_i s;obtain⟨R,U,Y,z,a,I,q⟩:=O.fn x n w;subst s;cases args with
     |nil=>exact MV z O.room a I q j l|cons e u=>exact L0 z O.room a I q i j l
    ·exact bD
   ·skip;split
    ·rename_i b;rw[T4]at b;split
     ·rename_i g q;obtain⟨v,Z,B,K,E,G,H⟩:=Py (X:=X) O.calm O.room.units q;cases args with
      |nil=>exact absurd b.2 (by simp)|cons e u=>
       rcases K with⟨id,rfl⟩|⟨T,rfl⟩
       ·exact De E G (O.no x b.1) B i j H l
       ·exact L1 E G (O.no x b.1) B i j H l
     ·exact bD
    ·exact bD
  ·exact bD
 ·rename_i o m A;split
  ·rename_i h;rw[T4,T4]at h;obtain⟨⟨M,N⟩,Q⟩:=h;have i:=gP y args Q;split
   ·rename_i g a;unfold EX at a;cases a
   split
   ·rename_i g a;unfold EV at a;split at a
    ·rename_i s;cases args with
     |nil=>cases s|cons e u=>
      have w:(e::u).length<30:=by rw[s];decide
      split at a
      ·rename_i L;subst L;cases a;exact MN PySem.F.slot_list_append PySem.F.type_list_append B9 MP (y o) i M N w
      ·cases a
    ·cases a
   ·skip
    ·exact bD
  ·exact bD
 ·exact bD
theorem PQ(O:Okx S F k c X){r:Expr->ME}(b:∀e,QE X e (r e))(f:Expr)(args:List Expr)(a:VW):QE X (.Call f args [] a) (zU S F r c f args a):=by unfold zU;exact PN O b f args a
theorem Fh(u:X.N.Nodup)(e:X.N=c.N)(ks:X.env.scope.names=c.ks){scope:WB}{xs:List Str}(h:mW c scope xs=c4):CompSt X.env.scope X.N scope xs/\xs.Nodup:=by
 unfold mW at h;rw[T4,T4]at h;obtain⟨⟨h,b⟩,r⟩:=h;have b:=of_decide_eq_true b;have d:∀y∈c.N,xs.contains y=c4->scope.names.lookup (nO y)=none:=λy a hc=>by have:=V3.mp r y a;rw[hc]at this;simpa using this
 simp only[T4,V3,decide_eq_true_eq,XF,Xi,List.contains_eq_mem,decide_eq_false_iff_not]at h;obtain⟨⟨⟨⟨⟨⟨j,l⟩,m⟩,n⟩,q⟩,o⟩,p⟩:=h;refine⟨⟨j,l,λy a i=>(m y a).resolve_left (λz=>z i),n,λy a s=>?_,λy a i=>?_,u,by rw[e];exact b,by rw[e];exact d⟩,q⟩
 ·rw[ks];rcases o y a with(z|z)|z
  ·exact absurd s z
  ·exact .inl z
  ·exact .inr z
 ·rw[e];have:=(p y a).resolve_left (λz=>z i);exact this
theorem rA(O:Okx S F k c X){scope:WB}{xs:List Str}(h:mW c scope xs=c4):CompSt X.env.scope X.N scope xs/\xs.Nodup:=Fh O.nd O.N O.ks h
theorem Fj{N xs:List Str}(h:N.Nodup)(d:xs.Nodup)(i:∀x∈xs,x∉N):(N++xs).Nodup:=by rw[a2g];exact⟨h,d,λa j b l e=>by subst e;exact i _ l j⟩
theorem Ao{scope:WB}{xs:List Str}(Q:CompSt X.env.scope X.N scope xs/\xs.Nodup):(bE xs X.N++xs).Nodup:=Fj Q.1.hnd Q.2 λx a=>Q.1.own (x,.local) (VH (Q.1.here x a)) rfl
theorem Fm(a:X.env.scope.kind=.function)(ks:X.env.scope.names=c.ks)(scope:WB)(xs:List Str):(a3n scope X.env).names=(k9 c scope xs).ks:=by
 unfold a3n k9;dsimp only;refine V7 λy _=>?_;obtain⟨n,b⟩:=y;dsimp only;have:(X.env.scope.kind==ScopeKind.function)=true:=by rw[a];rfl
 rw[this,Zz];show(if(b==WG&&X.env.scope.names.lookup n==b6 WV)=c4 then _ else _)=_;rw[ks]
theorem Okx.comp(O:Okx S F k c X){scope:WB}{xs:List Str}(h:mW c scope xs=c4){b:List (Str×Addr)}{C:Addr}{s₀:T6}{H₀:Hp}{d:List Addr}:Okx S F k (k9 c scope xs) (cE X scope b C (bE xs X.N++xs) s₀ H₀ d):=
 ⟨show bE xs X.N++xs=bE xs c.N++xs by rw[O.N],Ao (rA O h),Fm O.kind O.ks scope xs,(rA O h).1.kind,O.calm,O.room,a1t,O.fn,O.con,λy a q=>⟨(O.tab y a q).ex⟩,O.no
  ,O.xc
  ,O.rm
  ⟩
theorem Ap{r:Expr->MT}(l:∀e,QT X e (r e)):∀es:List Expr,QI X es (zX r es)
 |[]=>Mj|[t]=>Ml (l t)
 |a::b::es=>⟨λi s q H Q I h=>by
   obtain⟨o,p,n,d,m,R,E,j,k⟩:=h;cases j⟩
theorem Fn(O:Okx S F k c X){e:Expr}{args:List Expr}(h:oQ S c e=b6 args):∃p pos,e=.Call (.Name "range" p) args [] pos/\Gl X "range"/\X.mg "range"=b8/\args.all cC=true:=by
 unfold oQ at h;split at h
 ·split at h
  ·rename_i b;subst b;split at h
   ·rename_i a;cases h;rw[T4,T4]at a;exact⟨_,_,rfl,(O.gl a.1.1).1,O.no _ a.1.2,a.2⟩
   ·cases h
  ·cases h
 ·cases h
theorem Fo(O:Okx S F k c X){r:Expr->ME}(l:∀e,QE X e (r e))(e:Expr):QJ X e (uK S r c e):=by
 unfold uK;split
 ·rename_i a h;obtain⟨p,pos,rfl,d,i,j⟩:=Fn O h;exact Mw d i (gP l [a] j)
 ·rename_i a b h;obtain⟨p,pos,rfl,d,i,j⟩:=Fn O h;exact Mx d i (gP l [a,b] j)
 ·exact j_bad
 ·exact Mv (l e)
theorem PR(O:Okx S F k c X){e a:Expr}(h:zY S c e=b6 a):∃p pos,e=.Call (.Name "enumerate" p) [a] [] pos/\Gl X "enumerate"/\X.mg "enumerate"=b8/\cC a=true:=by
 unfold zY at h;split at h
 ·split at h
  ·rename_i d;subst d;split at h
   ·rename_i b;cases h;rw[T4,T4]at b;exact⟨_,_,rfl,(O.gl b.1.1).1,O.no _ b.1.2,b.2⟩
   ·cases h
  ·cases h
 ·cases h
theorem PU(O:Okx S F k c X){r:Expr->ME}(b:∀e,QE X e (r e))(e:Expr):QJT X e (zZ S r c e):=by
 unfold zZ;split
 ·rename_i a h;obtain⟨p,pos,rfl,d,i,j⟩:=PR O h;exact j_bad.t
 ·exact(Fo O b e).t
theorem PV(O:Okx S F k c X){r:Expr->ME}(a:∀e,QE X e (r e))(e:Expr):QJT X e (z7 S r c e):=by unfold z7;exact PU O a e
theorem mX(O:Okx S F k c X){r:Expr->ME}(a:∀e,QE X e (r e))(tg e:Expr):PI X tg e (tMI X.K (jV S r c tg e)):=by
 unfold jV;split
 ·exact(PV O a e).h _ _ _
 ·exact(Fo O a e).h _
theorem Aq{iter:Expr}{env:YD}(h:dW iter=c4):∀x,Xr iter env x=pure x:=by intro z;cases iter<;>first|rfl|cases h
end
theorem Fp{X:Cx}(c:X.N.Nodup):∀(es:List Expr)(xs:List Str)(n:Nat),(es.mapM λe=>match e with|.Name x _=>b6 x|_=>b8)=b6 xs->(∀j x,xs[j]?=b6 x->X.N[n+j]?=b6 x/\X.env.scope.names.lookup x=b6 .local)->QGs X es (YI n xs.length)
 |[],xs,n,h,hx=>by cases h;exact Di
 |e::es,xs,n,h,hx=>by
  rw[List.mapM_cons]at h;obtain⟨x,b,h⟩:=TZ.mp h;obtain⟨l,d,h⟩:=TZ.mp h;cases h;cases e with
  |Name y p=>cases b;rw[UA,Z3];have a:=hx 0 x rfl;refine Dj n c (Fp c es l (n+1) d λj z i=>?_) (by simpa using a.1) (.inl a.2) (.inr a.2);have:=hx (j+1) z (by simpa using i);rw[show n+1+j=n+(j+1) by omega];exact this|_=>cases b
theorem Fq{c:Cs}{X:Cx}{scope:WB}{x:Str}{p:VW}(Q:CompSt X.env.scope X.N scope [x]/\[x].Nodup)(a:List (Str×Addr))(C:Addr)(s₀:T6)(H₀:Hp)(b:List Addr):PG (cE X scope a C (bE [x] X.N++[x]) s₀ H₀ b) (.Name x p) (tMG X.K (gB X.N.length l9)):=by have e:=Ao Q;have d:(a3n scope X.env).names.lookup x=b6 .local:=a2F (Q.1.here x (by simp));exact My (X:=cE X scope a C (bE [x] X.N++[x]) s₀ H₀ b) (by show(bE [x] X.N++[x]).length=_;rw[Uj,l8];rfl) (CN (X:=cE X scope a C (bE [x] X.N++[x]) s₀ H₀ b) e (by show(bE [x] X.N++[x])[X.N.length]?=_;rw[<- l8 [x] X.N];simp) (.inl d) (.inr d))
theorem uO{S:Sig}{F:Str->MF}{k:Nat}{c:Cs}{X:Cx}(O:Okx S F k c X){scope:WB}{tg:Expr}{xs:List Str}(a:z8 tg=b6 xs)(h:mW c scope xs=c4)(b:List (Str×Addr))(C:Addr)(s₀:T6)(H₀:Hp)(e:List Addr) :
  PG (cE X scope b C (bE xs X.N++xs) s₀ H₀ e) tg (tMG X.K (gB X.N.length (z9 tg xs.length)))/\∀d n z,z9 tg xs.length d n=b6 z->z.length=xs.length:=by
 obtain⟨St,hnd⟩:=rA O h;have r:(bE xs X.N++xs).Nodup:=Fj St.hnd hnd λx a=>St.own (x,.local) (VH (St.here x a)) rfl;have i:∀x∈xs,(a3n scope X.env).names.lookup x=b6 .local:=λx a=>a2F (St.here x a);unfold z8 at a;split at a
 ·rename_i x p;cases a;refine⟨Fq (c:=c) ⟨St,hnd⟩ b C s₀ H₀ e,λd n z m=>?_⟩;cases m;rfl
 ·rename_i q v pt;refine⟨Mz (X:=cE X scope b C (bE xs X.N++xs) s₀ H₀ e) (by show(bE xs X.N++xs).length=_;rw[Uj,l8]) (yC (X:=cE X scope b C (bE xs X.N++xs) s₀ H₀ e) (Fp (X:=cE X scope b C (bE xs X.N++xs) s₀ H₀ e) r q xs X.N.length a λj x o=>⟨?_,i x (UL o)⟩) O.calm).h,λd n z m=>?_⟩
  ·show(bE xs X.N++xs)[X.N.length+j]?=b6 x;rw[Uz (by rw[l8];omega),l8,show X.N.length+j-X.N.length=j by omega];exact o
  ·obtain⟨w,u,l⟩:=TZ.mp m;split at l
   ·rename_i s;cases l;rw[Uc];exact s
   ·cases l
 ·cases a
theorem PX(O:Okx S F k c X){r:Expr->ME}(j:∀e,QE X e (r e))(f:Expr)(args:List Expr)(a:VW):QE X (.Call f args [] a) (zW S F r c f args a):=by
 unfold zW;split
 ·rename_i q h;split
  ·rename_i b;rw[T4,T4,T4,T4,T4]at b;obtain⟨⟨⟨⟨⟨m,n⟩,u⟩,v⟩,st⟩,s⟩:=b;obtain⟨t,o,i⟩:=TZ.mp h;split at i
   ·rename_i d;obtain⟨p,w,pos,rfl,rfl⟩:=PB o;rw[d.1,d.2,PC i];exact Pj O.calm O.room.units (O.no _ u) (O.no _ v) (O.gl m).1 (O.gl n).1 (j _) st s
   ·cases i
  ·exact bD
 split
 ·rename_i e h;split
  ·rename_i b;rw[T4]at b;unfold EW at h;split at h
   ·split at h
    ·split at h
     ·rename_i l;subst l;cases h;exact De (Pp O.room.units) Po (O.no _ b.2) Y3 (gP j _ rfl) (O.gl b.1).1 (by decide) (O.gl b.1).2
     ·cases h
    ·cases h
   ·cases h
  ·exact bD
 exact PQ O j _ _ _
theorem uP{S:Sig}{F:Str->MF}{k:Nat}{n:Cs->Expr->ME}{o:Cs->Expr->MT}(p:∀c X,Okx S F k c X->∀e,QE X e (n c e))(r:∀c X,Okx S F k c X->∀e,QT X e (o c e))(c:Cs)(X:Cx)(O:Okx S F k c X)
  (elt tg iter:Expr)(ifs:List Expr)(scope:WB)(pos:VW){m:MI}(u:PI X tg iter (tMI X.K m)):QE X (.ListComp elt [⟨tg,iter,ifs,0⟩] scope pos) (iW m n o c elt tg iter ifs scope):=by
 unfold iW;split
 ·rename_i x l;split
  ·rename_i h;rw[T4]at h;refine⟨λi s w H Q I q=>?_⟩;exact MC ((rA O h.1).1.ok I.ok) O.calm u (λd v z=>(uO O l h.1 [] 0 s H []).2 d v z) (λC b a j=>(uO O l h.1 _ C b a j).1) (λC b a j=>(Ap (r _ _ (O.comp h.1)) _).h) (λC b a j=>(p _ _ (O.comp h.1) _).h) (Aq h.2) i s w H Q I q
  ·exact bD
 ·exact bD
theorem PY{S:Sig}{F:Str->MF}{k:Nat}{d:Cs->Expr->ME}{h:Cs->Expr->MT}(a:∀c X,Okx S F k c X->∀e,QE X e (d c e))(b:∀c X,Okx S F k c X->∀e,QT X e (h c e))(c:Cs)(X:Cx)(O:Okx S F k c X)
  (elt tg iter:Expr)(ifs:List Expr)(scope:WB)(pos:VW):QE X (.ListComp elt [⟨tg,iter,ifs,0⟩] scope pos) (Aa S d h c elt tg iter ifs scope):=by
 unfold Aa;split
 ·exact O8 (uP a b c X O elt tg iter ifs scope pos ((zI (a c X O iter)).h tg)) (uP a b c X O elt tg iter ifs scope pos (mX O (a c X O) tg iter))
 exact uP a b c X O elt tg iter ifs scope pos (mX O (a c X O) tg iter)
theorem PZ{X:Cx}{pos:VW}{keys:List (Option Expr)}{a:List Expr}{b:List (ME×ME)}(h:QP X pos keys a b)(d:(!keys.isEmpty)=c4)(c:keys.length<=15):QE X (.Dict keys a pos) (mG b):=by
 cases keys with
 |nil=>exact absurd d (by simp)|cons e i=>exact L7 h c
section
variable{S:Sig}{F:Str->MF}{k:Nat}{c:Cs}{X:Cx}{r:Expr->ME}
theorem P0(v:Const)(n:Nat)(p:VW):QE X (.Constant v n p) (uL v):=by cases v<;>first|exact C3|exact C4|exact C5|exact C6|exact bD
theorem P1(b:∀e,QE X e (r e))(op:UnaryOp)(a:Expr)(p:VW):QE X (.UnaryOp op a p) (E4 (r a) op):=by cases op<;>first|exact LH (b _)|exact C8 (b _)|exact bD
theorem P2(O:Okx S F k c X)(b:∀e,QE X e (r e))(a:Expr)(ops:List Yi)(bs:List Expr)(p:VW):QE X (.Compare a ops bs p) (Ab S r a ops bs):=by
 unfold Ab;split
 ·exact PL O (b _) (b _) _ _
 ·split
  ·rename_i d h;exact Oq d h (b _) (b _) (b _)
  ·exact bD
 ·exact bD
theorem P4(b:∀e,QE X e (r e))(ks:List (Option Expr))(vs:List Expr)(p:VW):QE X (.Dict ks vs p) (Ac r ks vs):=by
 unfold Ac;split
 ·rename_i d h;split
  ·rename_i a;rw[T4]at a;exact PZ (Ff b _ _ _ _ h) a.1 (of_decide_eq_true a.2)
  ·exact bD
 ·exact bD
theorem P5(O:Okx S F k c X)(a:∀e,QE X e (r e))(ks:List (Option Expr))(vs:List Expr)(p:VW):QE X (.Dict ks vs p) (Ad r ks vs):=by
 unfold Ad;try split
 ·exact OG
 ·exact P4 a _ _ _
theorem P6(O:Okx S F k c X)(d:∀e,QE X e (r e))(a b:Expr)(p:VW):QE X (.Subscript a b p) (Ae S r c a b):=by
 unfold Ae;split
 ·exact LZ (d _) (Fg d _) (Fg d _)
 ·split
  ·rename_i h
   ·exact OT O.room (d _) (d _) h
  ·exact bD
theorem Ar(a:∀e,QE X e (r e))(e:Expr):QT X e (q0 r e):=by
 unfold q0;split
 ·rename_i h;exact MU (a _) h
 ·exact tF
theorem P7(O:Okx S F k c X)(b:∀e,QE X e (r e))(a:Expr)(ops:List Yi)(bs:List Expr)(p:VW):QT X (.Compare a ops bs p) (Ak S r a ops bs p):=by
 unfold Ak;split
 ·exact PM O (b _) (b _) _ _
 ·split
  ·rename_i d h;exact Ot d h (b _) (b _) (b _)
  ·exact tF
 ·exact Ar b _
theorem P8(a:∀e,QE X e (r e))(es:List Expr)(n:Nat)(p:VW):QE X (.Tuple es n p) (Af r es):=by
 unfold Af;split
 ·rename_i h;exact LV (gP a _ h)
 ·exact bD
theorem P9(a:∀e,QE X e (r e))(es:List Expr)(p:VW):QE X (.List es p) (Ag r es):=by
 unfold Ag;split
 ·rename_i h;exact C9 (gP a _ h)
 ·exact bD
theorem Fs(O:Okx S F k c X)(b:∀e,QE X e (r e))(f:Expr)(args:List Expr)(a:List Xs)(p:VW):QE X (.Call f args a p) (uM S F r c f args p a):=by
 unfold uM;split
 ·exact PX O b _ _ _
 ·exact bD
theorem Ft(gl:∀{x:Str},glob c x=c4->Gl X x/\(x==("__debug__":Str))=b9) (no:∀x,S.no.contains x=c4->X.mg x=b8)(xc:XcOk S X.K){a:Expr}{m:ME}(G:QE X a m){d:Str}{T U p:VW}(q:(S.sup.lookup d).isSome=c4\/d="ValueError") :
  QE X (.Call (.Name "isinstance" T) [a,.Name d U] [] p) (if glob c "isinstance" && S.no.contains "isinstance" && glob c d&&cC a&&(!(d=="ValueError")||S.no.contains "ValueError")then dN (λx=>(S.sup.lookup x).map λe=>e.contains d) m else aZ):=by
 split
 ·rename_i h;rw[T4,T4,T4,T4]at h;obtain⟨⟨⟨⟨y,A⟩,o⟩,B⟩,O⟩:=h;have K:∀n,(∀x e,S.sup.lookup x=b6 e->gO X.K n x=b6 (e.contains d))->∀x b,(S.sup.lookup x).map (λe=>e.contains d)=b6 b->gO X.K n x=b6 b:=λn j x b R=>by obtain⟨e,M,N⟩:=T7.mp R;rw[<- N];exact j x e M
  by_cases j:d="ValueError"
  ·subst j;refine DS (cv:=.type "ValueError") G B (gl y).1 (no _ A) (λl s Y H Q I z=>?_) (K _ λx e g=>xc.isv x e g);have u:S.no.contains "ValueError"=true:=by simpa using O
   exact iH I (gl o).1 (no _ u) a2d z
  ·have hc:=q.resolve_right j;obtain⟨w,v⟩:=U8.mp hc;obtain⟨C,E,_⟩:=xc.isx d w d v hc;refine DS (cv:=.ref C) G B (gl y).1 (no _ A) (λl s Y H Q I z=>?_) (K _ λx e g=>?_)
   ·exact f9 I (gl o).1 (WI I.mod.kin I.mod.glob (kR E)) z (gl o).2
   ·obtain⟨Z,i,L⟩:=xc.isx x e d g hc;rw[E]at i;cases i;exact L
 ·exact bD
theorem Qa(O:Okx S F k c X)(d:∀e,QE X e (r e))(f:Expr)(args:List Expr)(b:List Xs)(p:VW):QE X (.Call f args b p) (Aj S F r c f args p b):=by
 unfold Aj;split
 ·split
  ·rename_i q l;obtain⟨a,E⟩:=q;obtain⟨⟨y,H,rfl,rfl⟩,j⟩:=Fb l;exact Ft O.gl O.no O.xc (d a) j
  ·split
   ·rename_i q l;obtain⟨x,i,a⟩:=q;obtain⟨⟨y,rfl⟩,rfl,m⟩:=PF l;split
    ·rename_i h;rw[T4,T4]at h;obtain⟨C,f,B,A,G,I,z,n,o,s,u,v,w⟩:=O.xc.init x i m;match k,O.rm h.1.1,O with
     |k+2,_,O=>exact NU (k:=k+1) n o s (u _ _ _ _ k) v w O.room (O.gl h.1.2).1 (d _) h.2 (O.gl h.1.2).2
    ·exact bD
   ·exact Fs O d _ _ _ _
 ·exact Fs O d _ _ _ _
end
theorem Fu{S:Sig}{F:Str->MF}{k:Nat}{r:Cs->Expr->ME}{s:Cs->Expr->MT}(B:∀c X,Okx S F k c X->∀e,QE X e (r c e))(E:∀c X,Okx S F k c X->∀e,QT X e (s c e))(c:Cs)(X:Cx)(O:Okx S F k c X) :
  (∀e,QE X e (Fc S F r s c e))/\∀e,QT X e (Fd S r s c e):=by
 have d:=B c X O;have y:=E c X O;constructor
 ·intro e;cases e with
  |Name x p=>exact PJ O _ _|Constant v n p=>exact P0 v n p|BinOp a l b p=>exact PK (d _) (d _) _ _|UnaryOp l a p=>exact P1 d l a p|Compare a i bs p=>exact P2 O d a i bs p|BoolOp l A p=>exact Al d _ _ _|IfExp t a b p=>exact LR (y _) (d _) (d _)|Tuple w n p=>exact P8 d w n p|List w p=>exact P9 d w p|Dict I A p=>exact P5 O d I A p|Subscript a b p=>exact P6 O d a b p|Call f m z q=>exact Qa O d f m z q|Attribute o a p=>
   show QE X _ (if kN o then _ else aZ);split
   ·rename_i h;exact DQ (d _) h λx H=>O.xc.att x a (beq_iff_eq.mp H)
   ·exact bD
  |ListComp u G j p=>
   show QE X _ (Ah S r s c u j G);unfold Ah;split
   ·exact PY B E c X O _ _ _ _ _ _
   ·exact bD
  |_=>exact bD
 ·intro e;cases e with
  |BoolOp l A p=>exact Dg (Am y _ _ _)|UnaryOp l a p=>
   cases l;case Not=>exact Me (y _)
   all_goals exact Ar d _
  |Compare a i bs p=>exact P7 O d a i bs p|_=>exact Ar d _
theorem oR{S:Sig}{F:Str->MF}{k:Nat}:∀(n:Nat),(∀c X,Okx S F k c X->∀e,QE X e ((tr S F n).1 c e))/\∀c X,Okx S F k c X->∀e,QT X e ((tr S F n).2 c e)
 |0=>⟨λc X O e=>bD,λc X O e=>tF⟩|n+1=>by have a:=oR (S:=S) (F:=F) (k:=k) n;exact⟨λc X O e=>(Fu a.1 a.2 c X O).1 e,λc X O e=>(Fu a.1 a.2 c X O).2 e⟩
end L3
namespace L3
open PySem L2
noncomputable def uQ:MG:=λ_ _ _=>b8
noncomputable def rB(c:Cs):List Expr->Option (List Nat)
 |[]=>b6 []|.Name x _::r=>if fK c x then(dY x c.N).bind λi=>(rB c r).map (i::·)else b8|_=>b8
noncomputable def oS(c:Cs):Expr->MG
 |.Name x _=>if fK c x then(match dY x c.N with|some i=>dE i|none=>uQ)else uQ|.Tuple es _ _=>match rB c es with|some a=>mE a|none=>uQ
 |_=>uQ
noncomputable def d7(r:Stmt->MS):List Stmt->MS
 |[]=>bA|[s]=>r s|s::t=>aJ (r s) (d7 r t)
noncomputable def Au(S:Sig)(E:Cs->Expr->ME)(T:Cs->Expr->MT)(c:Cs)(i:Nat):Expr->MS
 |.ListComp elt [⟨tg,iter,ifs,0⟩] scope _=>match zR S c tg iter with
  |some j=>jT j (aQ i (iW (jU (E c iter)) E T c elt tg iter ifs scope)) (aQ i (iW (jV S (E c) c tg iter) E T c elt tg iter ifs scope))|none=>aQ i (iW (jV S (E c) c tg iter) E T c elt tg iter ifs scope)
 |_=>aY
noncomputable def Av(S:Sig)(E:Cs->Expr->ME)(T:Cs->Expr->MT)(c:Cs)(tg e:Expr):MS:=match tg with
 |.Name y _=>if fK c y then(match dY y c.N with
   |some i=>if dX e then aQ i (E c e)else Au S E T c i e
   |none=>aY)else aY
 |.Tuple es _ _=>if yD e then(match rB c es with|some a=>xV (E c e) (mE a)|none=>aY)
   else aY
 |.Subscript o i _=>if dX e&&kH i then fJ (E c o) (E c i) (E c e)else aY|_=>aY
noncomputable def Fv(S:Sig)(E:Cs->Expr->ME)(T:Cs->Expr->MT)(c:Cs)(r:Stmt->MS):Stmt->MS
 |.Return (b6 e) _=>aX (E c e)|.Return b8 _=>aX (mC .non)|.If t a b _=>a6 (T c t) (d7 r a) (d7 r b)|.Assign [tg] e _=>Av S E T c tg e|.Expr e _=>if dX e then fR (E c e)else aY|.For tg iter body [] _=>if dW iter then
  (match zR S c tg iter with
  |some j=>jT j (eC (jU (E c iter)) (oS c tg) (d7 r body)) (eC (jV S (E c) c tg iter) (oS c tg) (d7 r body))
  |none=>eC (jV S (E c) c tg iter) (oS c tg) (d7 r body))
  else aY
 |.Pass _=>bA|_=>aY
section
variable{S:Sig}{F:Str->MF}{k:Nat}{c:Cs}{X:Cx}
theorem Fw(ks:X.env.scope.names=c.ks){x:Str}(h:fK c x=c4):L2.Loc X.env.scope x:=by unfold fK at h;rw[XF]at h;unfold L2.Loc;rw[ks];exact h.imp of_decide_eq_true of_decide_eq_true
theorem Okx.own(O:Okx S F k c X){x:Str}(h:fK c x=c4):L2.Loc X.env.scope x:=Fw O.ks h
theorem Aw(O:Okx S F k c X)(b:∀x,X.fn x=c4):∀(es:List Expr)(a:List Nat),rB c es=b6 a->QGs X es a
 |[],a,h=>by cases h;exact Di
 |e::es,a,h=>by
  cases e with
  |Name x p=>
   unfold rB at h;split at h
   ·rename_i l;obtain⟨i,d,h⟩:=TZ.mp h;obtain⟨m,j,h⟩:=T7.mp h;subst h;exact Dj i O.nd (Aw O b es m j) (by rw[O.N];exact iU d) (O.own l) (.inl (b x))
   ·cases h
  |_=>cases h
theorem uR(O:Okx S F k c X)(b:∀x,X.fn x=c4)(e:Expr):QG X e (oS c e):=by
 unfold oS;split
 ·split
  ·rename_i d;split
   ·rename_i i a;exact Mr i O.nd (by rw[O.N];exact iU a) (O.own d) (.inl (b _))
   ·exact tG λ_ _ _=>rfl
  ·exact tG λ_ _ _=>rfl
 ·split
  ·rename_i h a;exact yC (Aw O b _ h a) O.calm
  ·exact tG λ_ _ _=>rfl
 ·exact tG λ_ _ _=>rfl
theorem eG{r:Stmt->MS}(a:∀s,QS X s (r s)):∀b:List Stmt,QB X b (d7 r b)
 |[]=>Mm|[s]=>Mo (a s)|s::t::ts=>Mn (a s) (eG a (t::ts))
theorem Qb{elt tg iter:Expr}{ifs:List Expr}{scope:WB}{pos py:VW}{y:Str}{n:Nat}{env:YD} :
  ∃b:Bool,YK (.ListComp elt [⟨tg,iter,ifs,0⟩] scope pos) (b6 (.Name y py)) n env=pure b/\(b=c4->env.kindOf y=b6 .local):=by
 refine⟨env.blockKind==.function&&env.kindOf y==b6 .local&&py.line==pos.line&&!(scope.names.any λ(n,k)=>n==y&&(k==.local||k==.cell)),rfl,λh=>?_⟩;simp only[T4,beq_iff_eq]at h;exact h.1.1.2
theorem Ax(O:Okx S F k c X)(G:∀x,X.fn x=c4){E:Cs->Expr->ME}{T:Cs->Expr->MT}(u:∀c X,Okx S F k c X->∀e,QE X e (E c e))(v:∀c X,Okx S F k c X->∀e,QT X e (T c e))
  {i:Nat}{y:Str}{py l:VW}(w:X.N[i]?=b6 y)(K:fK c y=c4)(elt tg iter:Expr)(ifs:List Expr)(scope:WB)(pos:VW){B:MI}(n:PI X tg iter (tMI X.K B)):QS X (.Assign [.Name y py] (.ListComp elt [⟨tg,iter,ifs,0⟩] scope pos) l) (aQ i (iW B E T c elt tg iter ifs scope)):=by
  obtain⟨b,m,r⟩:=Qb (elt:=elt) (tg:=tg) (iter:=iter) (ifs:=ifs) (scope:=scope) (pos:=pos) (py:=py) (y:=y) (n:=l.line) (env:=X.env);cases b with
  |false=>exact⟨Cw O.nd w (O.own K) (uP u v c X O elt tg iter ifs scope pos n).h m (.inl (G y))⟩|true=>
   unfold iW;split
   ·rename_i N A;split
    ·rename_i h;rw[T4]at h;refine⟨λo s M H D I q=>?_⟩;exact MH ((rA O h.1).1.ok I.ok) O.nd O.calm n (λd L z=>(uO O A h.1 [] 0 s H []).2 d L z) (λC j a p=>(uO O A h.1 _ C j a p).1) (λC j a p=>(Ap (v _ _ (O.comp h.1)) _).h) (λC j a p=>(u _ _ (O.comp h.1) _).h) (Aq h.2) w (r rfl) m o s M H D I q
    ·exact Em
   ·exact Em
theorem Qd(O:Okx S F k c X)(h:∀x,X.fn x=c4){E:Cs->Expr->ME}{T:Cs->Expr->MT}(a:∀c X,Okx S F k c X->∀e,QE X e (E c e))(d:∀c X,Okx S F k c X->∀e,QT X e (T c e))
  {i:Nat}{y:Str}{py b:VW}(j:X.N[i]?=b6 y)(l:fK c y=c4)(e:Expr):QS X (.Assign [.Name y py] e b) (Au S E T c i e):=by
 unfold Au;split
 ·split
  ·exact EL (Ax O h a d j l _ _ _ _ _ _ ((zI (a c X O _)).h _)) (Ax O h a d j l _ _ _ _ _ _ (mX O (a c X O) _ _))
  ·exact Ax O h a d j l _ _ _ _ _ _ (mX O (a c X O) _ _)
 ·exact cH
theorem Qe(O:Okx S F k c X)(d:∀x,X.fn x=c4){E:Cs->Expr->ME}{T:Cs->Expr->MT}(b:∀c X,Okx S F k c X->∀e,QE X e (E c e))(n:∀c X,Okx S F k c X->∀e,QT X e (T c e))(tg e:Expr)(pos:VW) :
  QS X (.Assign [tg] e pos) (Av S E T c tg e):=by
 unfold Av;split
 ·split
  ·rename_i m;split
   ·rename_i i j;have a:=iU j;rw[<- O.N]at a;split
    ·rename_i l;exact yB i O.nd (b c X O e) l a (O.own m) (.inl (d _))
    ·exact Qd O d b n a m e
   ·exact cH
  ·exact cH
 ·split
  ·rename_i l;split
   ·rename_i o j;exact Mt (b c X O e) (yC (Aw O d _ o j) O.calm) l
   ·exact cH
  ·exact cH
 ·split
  ·rename_i h;rw[T4]at h;exact OY O.room (b c X O _) (b c X O _) (b c X O _) h.1
  ·exact cH
 ·exact cH
theorem Qf(O:Okx S F k c X)(m:∀x,X.fn x=c4){E:Cs->Expr->ME}{T:Cs->Expr->MT}(i:∀c X,Okx S F k c X->∀e,QE X e (E c e))(u:∀c X,Okx S F k c X->∀e,QT X e (T c e)){r:Stmt->MS}(j:∀s,QS X s (r s))(st:Stmt) :
  QS X st (Fv S E T c r st):=by
 cases st with
 |Return o p=>
  cases o with
  |none=>exact MW|some e=>exact Dh (i c X O _)
 |If t a b p=>exact yA (u c X O _) (eG j _) (eG j _)|Assign n e p=>
  cases n with
  |nil=>exact cH|cons v w=>
   cases w with
   |nil=>exact Qe O m i u _ _ _|cons _ _=>exact cH
 |Expr e p=>
  show QS X _ (if dX e then fR (E c e)else aY);split
  ·rename_i h;exact Mq (i c X O _) h
  ·exact cH
 |For v l q d p=>
  cases d with
  |cons _ _=>exact cH|nil=>
   show QS X _ (if dW l then _ else aY);split
   ·rename_i h;split
    ·exact EL (yZ ((zI (i c X O _)).h _) (uR O m _) (eG j _) O.never O.calm h) (yZ (mX O (i c X O) _ _) (uR O m _) (eG j _) O.never O.calm h)
    exact yZ (mX O (i c X O) _ _) (uR O m _) (eG j _) O.never O.calm h
   ·exact cH
 |Pass p=>exact Mp|_=>exact cH
end
noncomputable def cF(st:Stmt):List Str:=(fB st).args.map (·.arg)
noncomputable def dC(st:Stmt):List Str:=cF st++(bC st).names.filterMap λy=>if(y.2==NameKind.local||y.2==WV)&&!(cF st).contains y.1 then b6 y.1 else b8
noncomputable def jW(st:Stmt):Bool:=
 decide ((bC st).kind=.function)&&!(bC st).isCoroutine&&!(bC st).isGenerator&&decide (dC st).Nodup &&
 ((cF st).all λx=>decide ((bC st).names.lookup x=b6 .local)||decide ((bC st).names.lookup x=b6 .cell))&&((bC st).names.all λy=>decide (y.2≠.free))
theorem Ay{st:Stmt}(h:jW st=c4):FnScope (dC st) (cF st) (bC st):=by unfold jW at h;simp only[T4,decide_eq_true_eq,Xi,V3,XF]at h;obtain⟨⟨⟨⟨⟨a,b⟩,c⟩,d⟩,e⟩,i⟩:=h;exact⟨a,b,c,d,by unfold dC;simp,e,i⟩
noncomputable def oU:Nat:=40
noncomputable def oV:Nat:=40
noncomputable def Az(S:Sig)(G:Str->RF)(E:Expr->ME)(c:Cs):Expr->MR
 |.Call f args kws p=>(match f,args,kws with
  |.Name x _,e::es,[]=>if glob c x&&decide (S.fn.lookup x=b6 (e::es).length)&&(e::es).all cC&&S.rz.contains x then gN (G x) (eY E (e::es))else
   bF
  |_,_,_=>bF)
 |_=>bF
noncomputable abbrev oW:=@Az
noncomputable def uS:Option Expr->Option (Str×List Expr)
 |some (.Call f args kws _)=>(match f,kws with
  |.Name x _,[]=>b6 (x,args)
  |_,_=>b8)
 |_=>b8
theorem Qg{e:Option Expr}{x:Str}{args:List Expr}(h:uS e=b6 (x,args)):∃p q,e=b6 (.Call (.Name x p) args [] q):=by
 unfold uS at h;split at h
 ·split at h
  ·cases h;exact⟨_,_,rfl⟩
  ·cases h
 ·cases h
noncomputable def Qh:Nat->Bool
 |_+2=>c4|_=>b9
noncomputable def uT(S:Sig)(k:Nat)(E:Expr->ME)(c:Cs)(x:Str)(args:List Expr):MR:=
 if glob c x then(match S.cls.lookup x with
  |some a=>(match args with
   |[e]=>if Qh k&&cC e then kU x a (E e)else bF
   |_=>bF)
  |none=>(match args with
   |e::es=>if(S.sup.lookup x).isSome&&(e::es).all cC&&decide ((e::es).length<=30)then kQ x (eY E (e::es))else bF
   |[]=>bF)
  )else bF
noncomputable def mY(N:Stmt->MS)(r:Stmt->MR):List Stmt->MR
 |[]=>bF|s::t=>bP (N s) (r s) (mY N r t)
noncomputable def lE:List Expr->Bool
 |[t]=>(fM t).isSome|_=>b9
theorem Qi{tg:List Expr}(h:lE tg=c4):∃x p,tg=[.Name x p]:=by
 cases tg with
 |nil=>cases h|cons t a=>
  cases a with
  |cons _ _=>cases h|nil=>
   cases t with
   |Name x p=>exact⟨x,p,rfl⟩|_=>cases h
noncomputable def AA(S:Sig)(G:Str->RF)(k:Nat)(E:Expr->ME)(T:Expr->MT)(c:Cs)(N:Stmt->MS)(r:Stmt->MR):Stmt->MR
 |.Expr e _=>if dX e then oW S G E c e else bF|.Return (b6 e) _=>oW S G E c e|.Assign tg e _=>if lE tg&&dX e then oW S G E c e else bF|.If t a b _=>fX (T t) (mY N r a) (mY N r b)
 |.Raise e o _=>if o.isNone then(match uS e with
  |some q=>uT S k E c q.1 q.2
  |none=>bF)else bF
 |_=>bF
noncomputable def AB(S:Sig)(c:Cs):Expr->ME
 |.Name x _=>if seen c x then(match dY x c.N with|some i=>aB i|none=>aZ)else aZ
 |.Attribute o a _=>(match o with
  |.Name x _=>if seen c x then(match dY x c.N with|some i=>eU a (λx=>S.cls.lookup x==b6 a) (aB i)|none=>aZ)else aZ
  |_=>aZ)
 |_=>aZ
noncomputable def uU:List Expr->Option (List Str)
 |[]=>b6 []|e::r=>(fM e).bind λx=>(uU r).map (x::·)
noncomputable def AD(f:Expr)(args:List Expr):Option (Expr×List Str):=match f with
 |.Name x _=>if(x=="isinstance")=c4 then(match args with
  |[a,b]=>(match b with
   |.Tuple es _ _=>(uU es).map λl=>(a,l)
   |_=>b8)
  |_=>b8)else b8
 |_=>b8
noncomputable def Fx(S:Sig)(U:Str->MF)(c:Cs)(r:Expr->ME)(f:Expr)(args:List Expr):ME:=match uN S f args with
 |some q=>if glob c "isinstance" && S.no.contains "isinstance" && glob c q.2&&cC q.1&&(!(q.2=="ValueError")||S.no.contains "ValueError")then dN (λx=>(S.sup.lookup x).map λa=>a.contains q.2) (r q.1)else aZ
 |none=>(match AD f args with
  |some q=>if glob c "isinstance" && S.no.contains "isinstance" && cC q.1&&(q.2.all λn=>glob c n&&(S.sup.lookup n).isSome)&&decide (q.2.length<=Uo)&&!q.2.isEmpty then dN (λx=>((S.sup.lookup x).map λa=>q.2.map λn=>a.contains n).map λb=>b.any id) (r q.1)else aZ
  |none=>aZ)
noncomputable def AE(r:Expr->ME):Expr->MT
 |.BoolOp op es _=>qZ op (es.map λe=>if jL e then aP (r e)else iM)|e=>if jL e then aP (r e)else iM
noncomputable def Fy(S:Sig)(b:Cs->Expr->ME)(r:Expr->ME)(c:Cs)(elt:Expr)(scope:WB):List Comprehension->ME
 |[⟨tg,iter,ifs,0⟩]=>(match fM tg with
  |some x=>(match oQ S c iter with
   |some [a]=>if mW c scope [x]&&dW iter then kK l9 (iB (eY r [a])) (zX (AE (b (k9 c scope [x]))) ifs) (b (k9 c scope [x]) elt)else aZ
   |_=>aZ)
  |none=>aZ)
 |_=>aZ
noncomputable def AF(S:Sig)(U:Str->MF)(q:Bool)(c:Cs)(d:Cs->Expr->ME)(r:Expr->ME):Expr->ME
 |.Constant v _ _=>uL v
 |.UnaryOp op a _=>(match op with
  |.Not=>j9 (r a)
  |_=>aZ)
 |.BoolOp op es _=>qX op (es.map r)
 |.Call f args kws _=>(match kws with
  |[]=>Fx S U c r f args
  |_=>aZ)
 |.List es _=>if es.all cC then bI (eY r es)else aZ
 |.BinOp a op b _=>(match op with
  |.Add=>aC bM (r a) (r b)
  |_=>aZ)
 |.Subscript a b _=>if kH b then aC dU (r a) (r b)else aZ|.ListComp elt gs scope _=>if q then Fy S d r c elt scope gs else aZ|e=>AB S c e
noncomputable def iX(S:Sig)(U:Str->MF):Nat->Bool->Cs->Expr->ME
 |0=>λ_ _ _=>aZ|n+1=>λq c=>AF S U q c (iX S U n b9) (iX S U n q c)
noncomputable def rC(c:Cs)(r:Expr->ME):Nat->Stmt->MS
 |0=>λ_=>aY|n+1=>λst=>match st with
  |.Return (b6 e) _=>aX (r e)|.If t a b _=>if jL t then a6 (aP (r t)) (d7 (rC c r n) a) (d7 (rC c r n) b)else aY
  |.Assign tg e _=>(match tg with
   |[t]=>(match fM t with
    |some y=>if fK c y&&dX e then(match dY y c.N with|some i=>aQ i (r e)|none=>aY)else aY
    |none=>aY)
   |_=>aY)
  |_=>aY
noncomputable def iY:Nat:=9
noncomputable def uV(S:Sig)(q:Bool)(st:Stmt):MF:=qC (dC st).length (d7 (rC ⟨dC st,(bC st).names⟩ (iX {S with uf:=[]} (λ_ _ _=>b8) iY q ⟨dC st,(bC st).names⟩) iY) (cD st))
noncomputable def lF(S:Sig)(x:Str):MF:=match S.uf.lookup x with
 |some st=>uV S b9 st|none=>λ_ _=>b8
noncomputable def iZ(S:Sig)(x:Str):MF:=match S.ul.lookup x with
 |some st=>uV S c4 st|none=>λ_ _=>b8
noncomputable def uW(S:Sig)(c:Cs):Stmt->MS
 |.Assign tg e _=>(match tg with
  |[t]=>(match fM t with
   |some y=>if fK c y&&dX e then(match dY y c.N with|some i=>aQ i (iX S (lF S) iY b9 c e)|none=>aY)else aY
   |none=>aY)
  |_=>aY)
 |_=>aY
noncomputable def AG(S:Sig)(c:Cs)(y:Str):List Stmt->Option (Str×Str)
 |[.Assign [t] e _]=>(fM t).bind λz=>(match e with
  |.Call f args kws _=>(match f,args,kws with
   |.Name g _,[.Name x _],[]=>if(S.ul.lookup g).isSome&&glob c g&&fK c z&&seen c x&&(x==y)then b6 (z,g)else b8
   |_,_,_=>b8)
  |_=>b8)
 |_=>b8
noncomputable def uX(S:Sig)(c:Cs):Stmt->MS
 |.If t a b _=>if jL t then a6 (aP (iX S (lF S) iY b9 c t)) (d7 (uW S c) a) (d7 (uW S c) b)else aY|st=>uW S c st
noncomputable def AH(S:Sig)(c:Cs)(y:Str)(st:List Stmt):MS:=
 match AG S c y (st.take 1)with
 |some q=>(match dY q.1 c.N,dY y c.N with
  |some i,b6 j=>aJ (aQ i (aE (iZ S q.2) (aA (aB j) aD))) (d7 (uX S c) (st.drop 1))
  |_,_=>aY)
 |none=>d7 (uX S c) st
noncomputable def AI:List a1H->Option (Str×Str×List Stmt)
 |[.ExceptHandler (b6 t) (b6 y) (b::bs) _]=>(match t with
  |.Name cn _=>b6 (cn,y,b::bs)
  |_=>b8)
 |_=>b8
theorem Qj{a:List a1H}{q:Str×Str×List Stmt}(h:AI a=b6 q):∃p c b bs,a=[.ExceptHandler (b6 (.Name q.1 p)) (b6 q.2.1) (b::bs) c]/\q.2.2=b::bs:=by
 unfold AI at h;split at h
 ·split at h
  ·cases h;exact⟨_,_,_,_,rfl,rfl⟩
  ·cases h
 ·cases h
noncomputable def Fz(S:Sig)(c:Cs)(N:Stmt->MS)(r:Stmt->MR)(body:List Stmt)(a:List a1H):MS:=match AI a with
 |some q=>if glob c q.1&&(S.sup.lookup q.1).isSome&&decide (c.ks.lookup q.2.1=b6 .local)then(match dY q.2.1 c.N with
  |some i=>kS (d7 N body) (mY N r body) (λx=>(S.sup.lookup x).map λb=>b.contains q.1) i (AH S c q.2.1 q.2.2)
  |none=>aY)else aY
 |none=>aY
noncomputable def AJ(S:Sig)(E:Cs->Expr->ME)(T:Cs->Expr->MT)(c:Cs)(N:Stmt->MS)(r:Stmt->MR):Stmt->MS
 |.Try body hs [] [] _=>Fz S c N r body hs|st=>Fv S E T c N st
noncomputable def AK(S:Sig)(G:Str->RF)(k:Nat)(E:Expr->ME)(T:Expr->MT)(c:Cs)(N:Stmt->MS)(r:Stmt->MR):Stmt->MR
 |.For tg iter body [] _=>if dW iter then qJ (jV S E c tg iter) (oS c tg) (d7 N body) (mY N r body)else bF|st=>AA S G k E T c N r st
noncomputable def eZ(S:Sig)(F:Str->MF)(G:Str->RF)(k m:Nat)(c:Cs):Nat->(Stmt->MS)×(Stmt->MR)
 |0=>(λ_=>aY,λ_=>bF)|n+1=>(AJ S (tr S F m).1 (tr S F m).2 c (eZ S F G k m c n).1 (eZ S F G k m c n).2,AK S G k ((tr S F m).1 c) ((tr S F m).2 c) c (eZ S F G k m c n).1 (eZ S F G k m c n).2)
noncomputable abbrev oX(l:Bool)(L:List (Str×Stmt))(U:Str->MF)(X:Cx):Prop:=∀x,(L.lookup x).isSome=c4->∃(f:Addr)(a:VQ)(ps:List Str),FnU l X.prog X.w X.K X.mg X.base f a ps (eM X.K 1 (U x))/\X.mg x=b6 (.ref f)/\U9 X.K (.ref f)=c4/\Binds X.K a ps []
structure Okr(S:Sig)(F:Str->MF)(G:Str->RF)(k:Nat)(c:Cs)(Y:Cx):Prop where
 o:Okx S F k c Y.nox
 ex:Y.ex=[]
 st:Y.stack=Y.env::Y.outer
 fr:∃L,Y.env.frame=b6 L
 own:∀x,Y.fn x=c4
 rf:∀x n,S.fn.lookup x=b6 n->∃(f:Addr)(fd:VQ)(ps:List Str),FnOk Y.prog Y.w Y.K Y.mg Y.base (iC Y.prog Y.w) k f fd ps (n9 Y.K n (G x))/\Y.mg x=b6 (.ref f)/\U9 Y.K (.ref f)=c4/\Binds Y.K fd ps []
 uf:oX b9 S.uf (lF S) Y
 ul:oX c4 S.ul (iZ S) Y
section
variable{S:Sig}{F:Str->MF}{G:Str->RF}{k:Nat}{c:Cs}{Y:Cx}
theorem Qk(O:Okr S F G k c Y){E:Expr->ME}(n:∀e,QE Y.nox e (E e))(e:Expr):QRE Y e (Az S G E c e):=by
 unfold Az;split
 ·split
  ·split
   ·rename_i h;rw[T4,T4,T4,decide_eq_true_eq]at h;obtain⟨⟨⟨a,b⟩,d⟩,_⟩:=h;obtain⟨f,o,p,i,j,l,m⟩:=O.rf _ _ b;exact Ng O.ex i O.o.room (O.o.gl a).1 j l m (gP n _ d) (O.o.gl a).2
   ·exact yN
  ·exact yN
 ·exact yN
theorem AL(O:Okr S F G k c Y){E:Expr->ME}(a:∀e,QE Y.nox e (E e))(e:Expr):QRE Y e (oW S G E c e):=Qk O a e
theorem Ql(O:Okr S F G k c Y){E:Expr->ME}(d:∀e,QE Y.nox e (E e))(x:Str)(args:List Expr)(p q pos:VW):QR Y (.Raise (b6 (.Call (.Name x p) args [] q)) b8 pos) (uT S k E c x args):=by
 unfold uT;split
 ·rename_i b;split
  ·rename_i a n;split
   ·split
    ·rename_i h;rw[T4]at h;obtain⟨C,f,B,I,K,L,H,s,u,v,w,y,z⟩:=O.o.xc.init x a n;match k,h.1,O with
     |k+2,_,O=>exact ND (k:=k+1) s u v (w _ _ _ _ k) y z O.o.room O.ex O.o.calm (O.o.gl b).1 (d _) h.2 (O.o.gl b).2
    ·exact fW
   ·exact fW
  ·rename_i o;split
   ·split
    ·rename_i h;rw[T4,T4,decide_eq_true_eq]at h;obtain⟨⟨i,j⟩,l⟩:=h;obtain⟨A,r⟩:=U8.mp i;obtain⟨C,m⟩:=O.o.xc.plain x A r o;exact Nk m O.ex O.o.calm (O.o.gl b).1 (gP d _ j) l (O.o.gl b).2
    ·exact fW
   ·exact fW
 ·exact fW
theorem oY{N:Stmt->MS}{r:Stmt->MR}(a:∀s,QS Y.nox s (N s))(b:∀s,QR Y s (r s)):∀d:List Stmt,QRB Y d (mY N r d)
 |[]=>Nd|s::t=>Nc (a s) (b s) (oY a b t)
theorem Qm(O:Okr S F G k c Y){E:Expr->ME}{T:Expr->MT}(d:∀e,QE Y.nox e (E e))(m:∀e,QT Y.nox e (T e)){N:Stmt->MS}{r:Stmt->MR}(j:∀s,QS Y.nox s (N s))(l:∀s,QR Y s (r s))(st:Stmt):QR Y st (AA S G k E T c N r st):=by
 cases st with
 |Expr e p=>
  show QR Y _ (if dX e then oW S G E c e else bF);split
  ·rename_i h;exact M9 (AL O d _) h
  ·exact fW
 |Return o p=>
  cases o with
  |none=>exact fW|some e=>exact Na (AL O d _)
 |Assign u e p=>
  show QR Y _ (if lE u&&dX e then oW S G E c e else bF);split
  ·rename_i h;rw[T4]at h;obtain⟨x,p,rfl⟩:=Qi h.1;exact Nb (AL O d _) h.2
  ·exact fW
 |If t a b p=>exact Nf (m _) (oY j l _) (oY j l _)|Raise e o p=>
  cases o with
  |some _=>exact fW|none=>
   show QR Y _ (match uS e with
    |some q=>uT S k E c q.1 q.2
    |none=>bF)
   split
   ·rename_i q n;obtain⟨x,i⟩:=q;obtain⟨v,w,rfl⟩:=Qg n;exact Ql O d _ _ _ _ _
   ·exact fW
 |_=>exact fW
theorem Qn{X:Cx}(l:X.N=c.N)(ks:X.env.scope.names=c.ks)(xc:XcOk S X.K)(e:Expr):QE X e (AB S c e):=by
 have nm:∀x p i,seen c x=c4->dY x c.N=b6 i->QE X (.Name x p) (aB i):=λx p i h a=>by obtain⟨b,d,j⟩:=Fe ks h;exact C2 i (by rw[l];exact iU a) b d j
 unfold AB;split
 ·split
  ·rename_i h;split
   ·rename_i i a;exact nm _ _ i h a
   ·exact bD
  ·exact bD
 ·split
  ·split
   ·rename_i h;split
    ·rename_i i a;exact DQ (nm _ _ i h a) rfl λx m=>xc.att x _ (beq_iff_eq.mp m)
    ·exact bD
   ·exact bD
  ·exact bD
 ·exact bD
theorem Qo{f:Expr}{args:List Expr}{a:Expr}{l:List Str}(h:AD f args=b6 (a,l)):∃p es i j,f=.Name "isinstance" p/\args=[a,.Tuple es i j]/\uU es=b6 l:=by
 unfold AD at h;split at h
 ·split at h
  ·rename_i e;cases beq_iff_eq.mp e;split at h
   ·split at h
    ·obtain⟨m,b,d⟩:=T7.mp h;cases d;exact⟨_,_,_,_,rfl,rfl,b⟩
    ·cases h
   ·cases h
  ·cases h
 ·cases h
theorem FA{X:Cx}(ks:X.env.scope.names=c.ks)(b:X.K.In X.base)(m:X.base.Ns U1 X.mg)(xc:XcOk S X.K):∀{es:List Expr}{l:List Str},uU es=b6 l->(l.all λn=>glob c n&&(S.sup.lookup n).isSome)=c4->
  ∃Cs,tY X es Cs/\Cs.length=l.length/\∀x d,S.sup.lookup x=b6 d->Cs.map (λC=>gO X.K (.ref C) x)=(l.map λn=>d.contains n).map b6
 |[],l,h,_=>by cases h;exact⟨[],trivial,rfl,λ_ _ _=>rfl⟩
 |e::r,l,h,ha=>by obtain⟨x,w,h⟩:=TZ.mp h;obtain⟨H,u,v⟩:=T7.mp h;cases v;obtain⟨p,rfl⟩:=iV w;rw[Va,T4,T4]at ha;obtain⟨Cs,z,A,B⟩:=FA ks b m xc u ha.2;obtain⟨j,i⟩:=U8.mp ha.1.2;obtain⟨C,o,_⟩:=xc.isx x j x i ha.1.2;have g:=q8 (X:=X) ks ha.1.1;refine⟨C::Cs,⟨g.1,WI b m (kR o),g.2,z⟩,by rw[UA,UA,A],λy d q=>?_⟩;obtain⟨E,a,s⟩:=xc.isx y d x q ha.1.2;rw[o]at a;cases a;rw[Uv,Uv,Uv,s,B y d q]
structure Okw(S:Sig)(U:Str->MF)(q:Bool)(c:Cs)(X:Cx):Prop where
 N:X.N=c.N
 nd:X.N.Nodup
 ks:X.env.scope.names=c.ks
 kind:X.env.scope.kind=.function
 no:∀x,S.no.contains x=c4->X.mg x=b8
 xc:XcOk S X.K
 uf:oX b9 S.uf U X
 hd:S.uf≠[]->X.A.depth<YR
 sf:q=c4->Soft X
theorem trK_ok'{X:Cx}(v:Const)(j:Nat)(pos:VW):QE X (.Constant v j pos) (uL v):=by
 cases v with
 |int i=>exact C3|bool b=>exact C4|str s=>exact C5|none=>exact C6|_=>exact bD
theorem Qp{c:Cs}{iter a:Expr}(h:oQ S c iter=b6 [a]):∃d e,iter=.Call (.Name "range" d) [a] [] e/\glob c "range"=c4/\S.no.contains "range"=c4/\[a].all cC=true:=by
 unfold oQ at h;split at h
 ·split at h
  ·rename_i b;subst b;split at h
   ·rename_i hc;cases h;rw[T4,T4]at hc;exact⟨_,_,rfl,hc.1.1,hc.1.2,hc.2⟩
   ·cases h
  ·cases h
 ·cases h
theorem Qq{X:Cx}{r:Expr->ME}(b:∀e,QE X e (r e))(e:Expr):QT X e (AE r e):=by
 have one:∀e,QT X e (if jL e then aP (r e)else iM):=λe=>by
  split
  ·rename_i a;exact xZ (b e) a
  ·exact tF
 unfold AE;split
 ·exact Dg (Am one _ _ _)
 ·exact one _
theorem oZ{U:Str->MF}:∀(n:Nat)(q:Bool)(c:Cs)(X:Cx),Okw S U q c X->∀e:Expr,QE X e (iX S U n q c e)
 |0,_,_,_,_,_=>bD|n+1,q,c,X,O,e=>by
  have m:=oZ (U:=U) n q c X O;show QE X e (AF S U q c (iX S U n b9) (iX S U n q c) e);unfold AF;split
  ·exact trK_ok' _ _ _
  ·split
   ·exact C8 (m _)
   ·exact bD
  ·exact Al m _ _ _
  ·split
   ·unfold Fx;split
    ·rename_i q u;obtain⟨a,cn⟩:=q;obtain⟨⟨p1,p2,rfl,rfl⟩,E⟩:=Fb u;exact Ft (q8 O.ks) O.no O.xc (m a) E
    ·split
     ·rename_i q u;obtain⟨a,l⟩:=q;obtain⟨p,es,kt,tp,rfl,rfl,hl⟩:=Qo u;split
      ·rename_i h;rw[T4,T4,T4,T4,T4,decide_eq_true_eq]at h;obtain⟨⟨⟨⟨⟨y,A⟩,T⟩,Z⟩,h5⟩,h6⟩:=h;refine⟨λo s v H Q I t=>?_⟩;obtain⟨Cs,t1,t2,t3⟩:=FA O.ks I.mod.kin I.mod.glob O.xc hl Z;refine(NO (sup:=λx=>(S.sup.lookup x).map λK=>l.map λn=>K.contains n) (m a) T (q8 O.ks y).1 (O.no _ A) t1 (by rw[t2];exact h5) λx b hb=>?_).h o s v H Q I t;obtain⟨K,w,rfl⟩:=T7.mp hb;refine⟨t3 x K w,λz=>?_⟩;rw[List.map_eq_nil_iff]at z;subst z;cases h6
      ·exact bD
     ·exact bD
   ·exact bD
  ·split
   ·rename_i h;exact C9 (gP m _ h)
   ·exact bD
  ·split
   ·exact C7 (m _) (m _)
   ·exact bD
  ·split
   ·rename_i h;exact Dd (m _) (m _) h
   ·exact bD
  ·split
   ·rename_i u;subst u;unfold Fy;split
    ·split
     ·rename_i x hx;obtain⟨px,rfl⟩:=iV hx;split
      ·rename_i a ha;split
       ·rename_i h;rw[T4]at h;obtain⟨p1,p2,rfl,w,N,R⟩:=Qp ha;have B:=Fh O.nd O.N O.ks h.1;have L:∀M C j i r,Okw S U b9 (k9 c _ [x]) (cE X _ M C (bE [x] X.N++[x]) j i r):=λM C j i r=>⟨show bE [x] X.N++[x]=bE [x] c.N++[x] by rw[O.N],Ao B,Fm O.kind O.ks _ _,B.1.kind,O.no,O.xc,O.uf,O.hd,λz=>nomatch z⟩;refine⟨λo s v H Q I t=>?_⟩;refine Dp (q:=Soft) (B.1.ok I.ok) (λo v H s r I=>?_) (Dk NR (q8 O.ks w).1 (O.no _ N) (gP m [a] R)) (λd μ z hz=>by cases hz;rfl) (λC j i r=>Fq (c:=c) B _ C j i r) (λC j i r=>(Ap (λe=>?_) _).h) (λC j i r=>(oZ n b9 _ _ (L _ C j i r) _).h) (Aq h.2) o s v H Q I t
        ·obtain⟨e,y,A,_⟩:=(O.sf rfl).at I;exact⟨e,y,A⟩
        ·exact Qq (oZ n b9 _ _ (L _ C j i r)) e
       ·exact bD
      ·exact bD
     ·exact bD
    ·exact bD
   ·exact bD
  ·exact Qn O.N O.ks O.xc _
theorem AM{X:Cx}{c:Cs}{r:Expr->ME}(b:X.N=c.N)(d:X.N.Nodup)(j:∀{y:Str},fK c y=c4->Loc X.env.scope y)(fn:∀x,X.fn x=c4)(a:∀e,QE X e (r e)):∀(n:Nat)(st:Stmt),QS X st (rC c r n st)
 |0,_=>cH|n+1,st=>by
  unfold rC;split
  ·exact Dh (a _)
  ·split
   ·rename_i h;exact yA (xZ (a _) h) (eG (AM b d j fn a n) _) (eG (AM b d j fn a n) _)
   ·exact cH
  ·split
   ·split
    ·rename_i y m;obtain⟨p,rfl⟩:=iV m;split
     ·rename_i h;rw[T4]at h;split
      ·rename_i i l;exact yB i d (a _) h.2 (by rw[b];exact iU l) (j h.1) (.inl (fn _))
      ·exact cH
     ·exact cH
    ·exact cH
   ·exact cH
  ·exact cH
theorem AN(O:Okr S F G k c Y)(v:Value)(st:Stmt):QS (Y.hnd v) st (uW S c st):=by
 have a:∀e,QE (Y.hnd v) e (iX S (lF S) iY b9 c e):=oZ iY b9 c (Y.hnd v) ⟨O.o.N,O.o.nd,O.o.ks,O.o.kind,O.o.no,O.o.xc,O.uf,λ_=>O.o.room.depth,λz=>nomatch z⟩;cases st with
 |Assign d e p=>
  cases d with
  |nil=>exact cH|cons t j=>
   cases j with
   |cons _ _=>exact cH|nil=>
    cases t with
    |Name y p=>
     show QS _ _ (if fK c y&&dX e then(match dY y c.N with|some i=>aQ i _|none=>aY)else aY);split
     ·rename_i h;rw[T4]at h;split
      ·rename_i i b;exact yB (X:=Y.hnd v) i O.o.nd (a _) h.2 (by show Y.N[i]?=_;rw[show Y.N=c.N from O.o.N];exact iU b) (O.o.own h.1) (.inl (O.own _))
      ·exact cH
     ·exact cH
    |_=>exact cH
 |_=>exact cH
theorem Qr{c:Cs}{y z g:Str}{st:List Stmt}(h:AG S c y st=b6 (z,g)):∃b o py m n,st=[.Assign [.Name z b] (.Call (.Name g o) [.Name y py] [] m) n]/\(S.ul.lookup g).isSome=c4/\glob c g=c4/\fK c z=c4/\seen c y=true:=by
 unfold AG at h;split at h
 ·obtain⟨p,l,a⟩:=TZ.mp h;clear h;obtain⟨b,rfl⟩:=iV l;split at a
  ·split at a
   ·split at a
    ·rename_i hc;cases a;rw[T4,T4,T4,T4,beq_iff_eq]at hc;obtain⟨⟨⟨⟨d,e⟩,i⟩,j⟩,rfl⟩:=hc;exact⟨_,_,_,_,_,rfl,d,e,i,j⟩
    ·cases a
   ·cases a
  ·cases a
 ·cases h
theorem FC(O:Okr S F G k c Y)(v:Value)(st:Stmt):QS (Y.hnd v) st (uX S c st):=by
 have a:∀e,QE (Y.hnd v) e (iX S (lF S) iY b9 c e):=oZ iY b9 c (Y.hnd v) ⟨O.o.N,O.o.nd,O.o.ks,O.o.kind,O.o.no,O.o.xc,O.uf,λ_=>O.o.room.depth,λz=>nomatch z⟩;unfold uX;split
 ·split
  ·rename_i h;exact yA (xZ (a _) h) (eG (AN O v) _) (eG (AN O v) _)
  ·exact cH
 ·exact AN O v _
theorem Qs(O:Okr S F G k c Y)(y:Str)(e:Addr)(st:List Stmt):QBh (Y.hnd (.ref e)) e st (AH S c y st):=by
 unfold AH;split
 ·rename_i q hq;obtain⟨z,g⟩:=q;obtain⟨pz,pg,py,p1,p2,K,a1,U,a3,a4⟩:=Qr hq;have a:st=.Assign [.Name z pz] (.Call (.Name g pg) [.Name y py] [] p1) p2::st.drop 1:=by
   conv=>lhs;rw[<- UR 1 st,K]
   rfl
  generalize st.drop 1=rest at a ⊢;subst a;split
  ·rename_i i j hi hj;obtain⟨f,fd,ps,g1,g2,g3,g4⟩:=O.ul _ a1;obtain⟨v1,v2,v3⟩:=O.o.vis a4;refine⟨λm s o H D sf I t=>?_⟩;have Z:∀{n:Nat}{x:Str},dY x c.N=b6 n->Y.N[n]?=b6 x:=λh=>by rw[show Y.N=c.N from O.o.N];exact iU h
   have E:PE (Y.hnd (.ref e)) (.Call (.Name g pg) [.Name y py] [] p1) (λo H Q=>mK e H/\tM Y.K (aE (iZ S g) (aA (aB j) aD)) o H Q):=λm s o H Q I t=>NL (X:=Y.hnd (.ref e)) g1 O.o.room.depth g2 g3 g4 (Z hj) O.o.nd v1 v2 v3 (O.o.gl U).1 (O.o.gl U).2 rfl m s o H Q t.1 I t.2;refine Bu (Bz (X:=Y.hnd (.ref e)) O.o.nd (Z hi) (O.o.own a3) E (mH rfl) (.inl (O.own _))) (eG (FC O (.ref e)) rest).h m s o H D I ⟨sf,?_⟩;obtain⟨π,ρ,μ,X,N,L,R,T,w,k⟩:=t;obtain⟨⟨f1,ρ1,μ1⟩,B,w⟩:=TZ.mp w;obtain⟨⟨x,A⟩,h1,B⟩:=T7.mp B;cases B;refine⟨π,ρ,μ,x,A,R,T,h1,λM v1 H1 u R1 i1=>⟨M,_,A,X,N,L,R1,(T.mono u).set i1 i,w,?_⟩⟩;cases X with
   |nx=>exact λb l r v R2 p=>k b l r (u.trans v) R2 p|bk=>exact λb l r v R2 p=>k b l r (u.trans v) R2 p|ct=>exact λb l r v R2 p=>k b l r (u.trans v) R2 p|rt d=>exact KC.after k u
  ·exact⟨λm s o H D sf I t=>by obtain⟨_,_,_,_,_,_,_,_,w,_⟩:=t;cases w⟩
 ·exact(eG (FC O (.ref e)) st).soft
theorem uY{m:Nat}:∀(n:Nat)(Y:Cx),Okr S F G k c Y->(∀st,QS Y.nox st ((eZ S F G k m c n).1 st))/\∀st,QR Y st ((eZ S F G k m c n).2 st)
 |0,Y,O=>⟨λ_=>cH,λ_=>fW⟩|n+1,Y,O=>by
  have a:=uY (m:=m) n;refine⟨λst=>?_,λst=>?_⟩;rotate_left
  ·have e:QR Y st (AA S G k ((tr S F m).1 c) ((tr S F m).2 c) c (eZ S F G k m c n).1 (eZ S F G k m c n).2 st):=Qm O ((oR m).1 c _ O.o) ((oR m).2 c _ O.o) (a Y O).1 (a Y O).2 st;show QR Y st (AK S G k ((tr S F m).1 c) ((tr S F m).2 c) c (eZ S F G k m c n).1 (eZ S F G k m c n).2 st);unfold AK;split
   ·split
    ·rename_i h;obtain⟨L,j⟩:=O.fr;refine NT O.ex O.st j O.o.calm (mX O.o ((oR m).1 c _ O.o) _ _) (uR O.o O.own _) (eG (a Y O).1 _) (λE=>?_) h;have d:Okr S F G k c (Y.wish E):=⟨O.o,O.ex,O.st,O.fr,O.own,O.rf
      ,O.uf
      ,O.ul
      ⟩
     exact oY (a _ d).1 (a _ d).2 _
    ·exact fW
   ·exact e
  show QS Y.nox st (AJ S (tr S F m).1 (tr S F m).2 c (eZ S F G k m c n).1 (eZ S F G k m c n).2 st);unfold AJ;split
  ·unfold Fz;split
   ·rename_i q y;obtain⟨H,I,b,bs,rfl,u⟩:=Qj y;split
    ·rename_i h;rw[T4,T4,decide_eq_true_eq]at h;obtain⟨⟨l,r⟩,s⟩:=h;split
     ·rename_i i w;obtain⟨L,j⟩:=O.fr;refine Nq (X:=Y.nox) O.ex O.st j O.o.nd (by show Y.N[i]?=_;rw[show Y.N=c.N from O.o.N];exact iU w) (by rw[<- s,<- O.o.ks]) (O.o.gl l).1 (O.o.gl l).2 (λx B z=>?_) (eG (a Y O).1 _) (λE=>?_) (λv=>?_)
      ·obtain⟨A,o,p⟩:=T7.mp z;rw[<- p];exact O.o.xc.sub x A _ o r
      ·have d:Okr S F G k c (Y.nox.wish E):=⟨O.o,O.ex,O.st,O.fr,O.own,O.rf
        ,O.uf
        ,O.ul
        ⟩
       exact oY (a _ d).1 (a _ d).2 _
      ·rw[u];exact Qs O _ v (b::bs)
     ·exact cH
    ·exact cH
   ·exact cH
  ·exact Qf O.o O.own (oR m).1 (oR m).2 (a Y O).1 st
end
noncomputable abbrev lk(_:Sig)(ds:List (Str×Stmt))(x:Str):Option Stmt:=ds.lookup x
noncomputable abbrev Sig.at(S:Sig)(k:Nat):Sig:={S with mx:=S.mx&&decide (2<=k)}
noncomputable def AO(S:Sig)(F:Str->MF)(G:Str->RF)(k:Nat)(st:Stmt):MF:=qC (dC st).length (d7 (eZ (S.at k) F G k oU ⟨dC st,(bC st).names⟩ oV).1 (cD st))
noncomputable def AQ(S:Sig)(F:Str->MF)(G:Str->RF)(k:Nat)(st:Stmt):RF:=yO (dC st).length (mY (eZ (S.at k) F G k oU ⟨dC st,(bC st).names⟩ oV).1 (eZ (S.at k) F G k oU ⟨dC st,(bC st).names⟩ oV).2 (cD st))
noncomputable def o6(S:Sig)(ds:List (Str×Stmt)):Nat->(Str->MF)×(Str->RF)
 |0=>(λ_ _ _=>b8,λ_ _ _=>b8)
 |k+1=>(λx=>match lk S ds x with
   |none=>λ_ _=>b8|some st=>AO S (o6 S ds k).1 (o6 S ds k).2 k st,λx=>match lk S ds x with
   |none=>λ_ _=>b8
   |some st=>AQ S (o6 S ds k).1 (o6 S ds k).2 k st)
noncomputable def gQ(S:Sig)(ds:List (Str×Stmt))(k:Nat):Str->MF:=(o6 S ds k).1
noncomputable def lG(S:Sig)(ds:List (Str×Stmt))(k:Nat):Str->RF:=(o6 S ds k).2
structure DefAt(K:T3)(mg:Str->Option Value)(x:Str)(st:Stmt):Prop where
 ex:∃f fd,Fun K x x st f fd/\mg x=b6 (.ref f)/\Binds K fd (cF st) []
structure TxtOk(P:Ur)(w:UJ)(K:T3)(mg:Str->Option Value)(S:Sig)(ds:List (Str×Stmt)):Prop where
 fns:∀x n,S.fn.lookup x=b6 n->∃st,ds.lookup x=b6 st/\(cF st).length=n
 defs:∀x st,ds.lookup x=b6 st->DefAt K mg x st/\jW st=c4
 con:∀x d,S.con.lookup x=b6 d->∃v u,mg x=b6 u/\RelV v u/\∀π n H,IsD K π n H v d
 tab:∀x kvs,S.tab.lookup x=b6 kvs->∃(p:Addr)(vs:List (aK×V))(ws:List (aK×Value)),mg x=b6 (.ref p)/\(∀h:Vb,K.In h->h.DictOf (d5 P w) p ws)/\KV vs ws/\∀π n H,IsKs K π n H vs kvs
 no:∀x,S.no.contains x=c4->mg x=b8
 xc:XcOk S K
 uf:∀x st,S.uf.lookup x=b6 st->ds.lookup x=b6 st/\(cF st).length=1
 ul:∀x st,S.ul.lookup x=b6 st->ds.lookup x=b6 st/\(cF st).length=1
theorem FD{P:Ur}{w:UJ}{K:T3}{mg:Str->Option Value}{S:Sig}{ds:List (Str×Stmt)}(T:TxtOk P w K mg S ds)(l:Bool)(L:List (Str×Stmt))(u:∀x st,L.lookup x=b6 st->ds.lookup x=b6 st/\(cF st).length=1)(U:Str->MF)(v:∀x st,L.lookup x=b6 st->U x=uV S l st)
  (X:Cx)(h1:X.prog=P)(n:X.w=w)(o:X.K=K)(p:X.mg=mg):oX l L U X:=λx G=>by
 subst h1 n o p;obtain⟨st,i⟩:=U8.mp G;obtain⟨B,E⟩:=u x st i;obtain⟨r,q⟩:=T.defs x st B;obtain⟨f,j,F,m,b⟩:=r.ex;have c:=Ay q;refine⟨f,j,cF st,?_,m,F.kp,b⟩;rw[v x st i,<- E];unfold uV;refine NK F c (by unfold dC;simp) λa A outer s H d=>?_;refine eG (AM (X:=kW X.prog X.w X.K X.mg X.base (dC st) x (bC st) f a A outer s H) (c:=⟨dC st,(bC st).names⟩) rfl c.nd (λ{y} h=>Fw (c:=⟨dC st,(bC st).names⟩) rfl h) (λ_=>rfl) (λe=>?_) iY) (cD st);exact oZ (S:={S with uf:=[]}) iY l ⟨dC st,(bC st).names⟩ (kW X.prog X.w X.K X.mg X.base (dC st) x (bC st) f a A outer s H) ⟨rfl,c.nd,rfl,c.kind,T.no,{T.xc with},(λy I=>nomatch I),(λz=>absurd rfl z),d⟩ e
theorem Qt{P:Ur}{w:UJ}{K:T3}{mg:Str->Option Value}{S:Sig}{ds:List (Str×Stmt)}(T:TxtOk P w K mg S ds)(X:Cx)(h1:X.prog=P)(a:X.w=w)(b:X.K=K)(c:X.mg=mg):oX b9 S.uf (lF S) X:=
 FD T b9 S.uf T.uf (lF S) (λx st d=>by unfold lF;rw[d]) X h1 a b c
theorem Qu{P:Ur}{w:UJ}{K:T3}{mg:Str->Option Value}{S:Sig}{ds:List (Str×Stmt)}(T:TxtOk P w K mg S ds)(X:Cx)(h1:X.prog=P)(a:X.w=w)(b:X.K=K)(c:X.mg=mg):oX c4 S.ul (iZ S) X:=
 FD T c4 S.ul T.ul (iZ S) (λx st d=>by unfold iZ;rw[d]) X h1 a b c
theorem TxtOk.at{P:Ur}{w:UJ}{K:T3}{mg:Str->Option Value}{S:Sig}{ds:List (Str×Stmt)}(T:TxtOk P w K mg S ds)(k:Nat):TxtOk P w K mg (S.at k) ds:=
 {T with xc:={T.xc with}}
theorem AR{S:Sig}{ds:List (Str×Stmt)}{x:Str}{st:Stmt}(h:ds.lookup x=b6 st):lk S ds x=b6 st:=by unfold lk;rw[h]
theorem TxtOk.sc{P:Ur}{w:UJ}{K:T3}{mg:Str->Option Value}{S:Sig}{ds:List (Str×Stmt)}(T:TxtOk P w K mg S ds){x:Str}{st:Stmt}(h:lk S ds x=b6 st):jW st=true:=(T.defs _ _ h).2
theorem Qv{P:Ur}{w:UJ}{K:T3}{mg:Str->Option Value}{base:Vb}{S:Sig}{ds:List (Str×Stmt)}(T:TxtOk P w K mg S ds)(k:Nat):∀(x:Str)(st:Stmt)(nm q:Str)(f:Addr)(v:VQ),lk S ds x=b6 st->Fun K nm q st f v->
  FnOk P w K mg base cY k f v (cF st) (eM K (cF st).length (gQ S ds k x))/\FnOk P w K mg base (iC P w) k f v (cF st) (n9 K (cF st).length (lG S ds k x)):=by
 induction k using Nat.strongRecOn with
 |_ k X=>
 intro x st nm q f v L hF;cases k with
 |zero=>exact⟨⟨λvs H Q E h=>h.1,λA outer s H m us vs Q E j he hb hv N=>by
   obtain⟨_,π,G,μ,d,μ',R,i,M,kc⟩:=N;cases M⟩,⟨λvs H Q E h=>h.1,λA outer s H m us vs Q E j he hb hv N=>by
   obtain⟨_,π,G,μ,d,μ',R,i,M,kc⟩:=N;cases M⟩⟩
 |succ k=>
  have ih:=X k (W8 k);have e:gQ S ds (k+1) x=AO S (gQ S ds k) (lG S ds k) k st:=by show(match lk S ds x with|none=>_|some st=>AO S (gQ S ds k) (lG S ds k) k st)=_;rw[L]
  have e2:lG S ds (k+1) x=AQ S (gQ S ds k) (lG S ds k) k st:=by show(match lk S ds x with|none=>_|some st=>AQ S (gQ S ds k) (lG S ds k) k st)=_;rw[L]
  rw[e,e2];have u:=Ay (T.sc L);have O:∀(CX:fQ)(a:Value)(A:UD)(outer:List YD)(s:T6)(H:Hp)(E:XK),Room k (A.deeper (XW q (bC st) s.heap.objs.size f a))->Okr (S.at k) (gQ S ds k) (lG S ds k) k ⟨dC st,(bC st).names⟩ (dA CX P w K mg base (dC st) q (bC st) f a A outer s H E):=λCX a A outer s H E j=>by
   refine⟨⟨rfl,u.nd,rfl,u.kind,rfl,j,a1t,λy n U=>?_,T.con,λy Y q=>⟨T.tab y Y q⟩,T.no,(T.at k).xc
    ,(λz=>of_decide_eq_true (WY.mp z).2)
    ⟩,rfl,rfl,⟨_,rfl⟩,λ_=>rfl,λy n U=>?_
    ,Qt (T.at k) _ rfl rfl rfl rfl
    ,Qu (T.at k) _ rfl rfl rfl rfl
    ⟩
   ·obtain⟨b,r,I⟩:=T.fns y n U;obtain⟨p,c,l,Z,B⟩:=(T.defs y b r).1.ex;subst I;exact⟨p,c,cF b,(ih y b _ _ p c (AR r) l).1,Z,l.kp,B⟩
   ·obtain⟨b,r,I⟩:=T.fns y n U;obtain⟨p,c,l,Z,B⟩:=(T.defs y b r).1.ex;subst I;exact⟨p,c,cF b,(ih y b _ _ p c (AR r) l).2,Z,l.kp,B⟩
  refine⟨Mu hF u (by unfold dC;simp) rfl λa A outer s H E j=>?_,Nh hF u (by unfold dC;simp) rfl λa A outer s H E j=>?_⟩
  ·exact eG (uY (m:=oU) oV _ (O cY a A outer s H E j)).1 (cD st)
  ·have o:=O (iC P w) a A outer s H E j;exact oY (uY (m:=oU) oV _ o).1 (uY (m:=oU) oV _ o).2 (cD st)
theorem Qw{P:Ur}{w:UJ}{K:T3}{mg:Str->Option Value}{base:Vb}{S:Sig}{ds:List (Str×Stmt)}(T:TxtOk P w K mg S ds)(k:Nat)(x:Str)(st:Stmt)(f:Addr)(a:VQ)(c:ds.lookup x=b6 st)(b:Fun K x x st f a) :
  FnOk P w K mg base cY k f a (cF st) (eM K (cF st).length (gQ S ds k x)):=(Qv T k x st x x f a (AR c) b).1
theorem FE:∀{ns:List Int}{b:Nat},Ym (ns.map Yb)<=b->∀n∈ns,UY n<=b
 |[],_,_,n,a=>nomatch a|m::ns,b,h,n,a=>by
  have e:Ym ((m::ns).map Yb)=Z6 (.int m)+1+Ym (ns.map Yb):=rfl;have c:Z6 (.int m)=UY m:=rfl;rw[e,c]at h;rcases UX.mp a with rfl|a
  ·omega
  ·exact FE (b:=b) (by omega) n a
section
open PySem PySem.W PySem.Calls PyProof.Rows
theorem Qx{l:a1N}{n:Nat}{q:Ur}{loose:List Str}{XP:(Str->Option Value)->Vb->Prop}{YP:UJ->Vb->Prop}{d:DefRec}
  (Z:l.most=b6 n)(z:d.params.defaults=[])
  (call:∀(w:UJ)(s₀ b:T6)(mg E:Str->Option Value)(h:Addr)(o:Obj)(H u c:Value)(a:Addr)(vs:List Value)(ns:List Int),
   Ground q loose [] XP w s₀ mg E b.heap->YP w b.heap->
   b.heap.get? h=b6 o->o.data=.func (docDef d.name d.params d.body d.scope H u c)->b.heap.CodeRec u d.name->mg d.name=b6 (.ref h)->
   b.heap.get? a=b6 {cls:=.type "list",data:=.seq vs.toArray}->XR vs ns->ns.length<=n->(∀m∈ns,UY m<=2^20)->b.gens=#[]->
   YW (Ut l.prog w) a0g (.call (.ref h) ⟨[.ref a],[]⟩) (λr v=>r=.ok (.ret (.bool c4))/\OldK b.heap v.heap/\v.os=b.os/\YY v.gens) b) :
  a2p q loose XP YP l.row.toRowW d [] (λf vs=>a3B f vs):=by
 intro w s₀ b mg E G Y h o H u c M kV ho hd y K A T I L as s i hrd B U;obtain rfl:M=.none:=Dflts.none K z;obtain rfl:kV=.none:=Dflts.noKw K;obtain⟨a,vs,ns,rfl,rfl,p,e,j⟩:=Att.script_of Z s B;have R:∀m∈ns,UY m<=2^20:=by
  have x:Z1 (.list (ns.map Yb))=true:=by have:=i;unfold a3C at this;simpa using this
  unfold Z1 at x;rw[T4]at x;exact FE (of_decide_eq_true x.2)
 refine enter_call (X9 (call w s₀ b mg E h o H u c a vs ns G Y ho (fd_plain hd) y A p e j R T) λr v hq=>?_);obtain⟨rfl,N,O,Q⟩:=hq;exact⟨.inl ⟨.bool c4,.bool c4,[],rfl,λ_=>rfl,.bool c4,Att.post_true l _,λ_=>⟨Y6,λ_ X=>(nomatch X)⟩⟩,N,O,Q⟩
end
theorem walkM{l:a1N}{q:Ur}{loose:List Str}{XP:(Str->Option Value)->Vb->Prop}{YP:UJ->Vb->Prop}{d:DefRec}{K:VJ->T3}{S:Sig}{ds:List (Str×Stmt)}{k:Nat}{st:Stmt}{x:Str}(hn:l.most=b6 63)(N:d.params.defaults=[])
  (hr:Room k a0g)(hY:∀(w:UJ)(h:Vb),YP w h->(K w.params).In h)(hl:ds.lookup d.name=b6 st)(hx:cF st=[x])
  (T:∀(w:UJ)(mg:Str->Option Value)(h:Vb),(K w.params).In h->h.Ns U1 mg->TxtOk l.prog w (K w.params) mg S ds/\∃f I,Fun (K w.params) d.name d.name st f I/\mg d.name=b6 (.ref f)/\∀(s:T6)(u:Value),ZR s I ⟨[u],[]⟩ [(x,u)])
  (M:∀b:List Int,b.length<=63->(∀m∈b,UY m<=2^20)->∃y,gQ S ds k d.name [.rol (b.map D.int)] []=b6 (.bl c4,y)) :
  a2p q loose XP YP l.row.toRowW d [] (λf vs=>a3B f vs):=by
 refine Qx hn N λw Z s₁ mg mb fa o pm cd doc a vs b G Y ho hd hcd Q B p c L hg=>?_;have U:=hY w _ Y;obtain⟨hT,f,I,hF,X,hb⟩:=T w mg _ U G.T.g;rw[Q]at X;cases X;refine L2.law_call (CX:=cY) (sp:=eM (K w.params) 1 (gQ S ds k d.name)) U G.T.g G.T.b G.T.builtins G.T.nolimit hg B p (VD c (by decide)) hr (λA hb1 hb2=>?_) hb (λH hO hS=>?_) λH e s' z=>z
 ·have:=Qw (base:=A) hT k d.name st fa I hl hF;rw[hx]at this;exact this
 ·obtain⟨y,hM⟩:=M b c L;have R:RoL (K w.params) H a (b.map V.int):=by
   rcases hS with(h|h)|h
   ·rcases hO a with z|⟨o,E,z⟩
    ·rw[z]at h;cases h
    ·rw[z]at h;cases h
   ·exact .inl h
   ·exact .inr h
  refine⟨rfl,λ_=>0,[.rol (b.map D.int)],[],.bl c4,y,⟨λi j O=>absurd O (a0j _),λi O=>absurd O (a0j _),λi E h=>(by cases h),λi E h=>(by cases h),λi E h=>(by cases h)
   ,λi E h=>(by cases h)
   ,λi E h=>(by cases h)
   ,λi x b ds h=>(by cases h)
   ⟩,.cons (.rol R ?_) .nil,hM,λπ' v H' _ _ hv=>?_⟩
  ·have:∀b:List Int,IsDs (K w.params) (λ_=>0) ([]:Hm).length H (b.map V.int) (b.map D.int):=λb=>by
    induction b with
    |nil=>exact .nil|cons n r ih=>exact .cons (.int n) ih
   exact this b
  ·cases hv;rfl
end L3
namespace L3
open PySem L2
theorem gR{a:Type}:∀{l:List (Str×a)}{x:Str}{b:a},l.lookup x=b6 b->(x,b)∈l:=λh=>VH h
theorem Qy{S:Sig}{ds:List (Str×Stmt)}(h:(S.fn.all λp=>match ds.lookup p.1 with|some st=>decide ((cF st).length=p.2)|none=>b9)=c4):∀x n,S.fn.lookup x=b6 n->∃st,ds.lookup x=b6 st/\(cF st).length=n:=by
 intro x n e;have:=V3.mp h (x,n) (gR e);dsimp only at this;split at this
 ·rename_i st a;exact⟨st,a,of_decide_eq_true this⟩
 ·cases this
theorem Qz{K:T3}{mg:Str->Option Value}{ds:List (Str×Stmt)}(h:∀p∈ds,DefAt K mg p.1 p.2/\jW p.2=c4):∀x st,ds.lookup x=b6 st->DefAt K mg x st/\jW st=true:=λx st e=>h (x,st) (gR e)
theorem QC{K:T3}{mg:Str->Option Value}{a:List (Str×D)}(h:∀p∈a,∃v u,mg p.1=b6 u/\RelV v u/\∀π n H,IsD K π n H v p.2):∀x d,a.lookup x=b6 d->∃v u,mg x=b6 u/\RelV v u/\∀π n H,IsD K π n H v d:=λx d e=>h (x,d) (gR e)
theorem FF{L ds:List (Str×Stmt)}(h:L.map (λp=>ds.lookup p.1)=L.map λp=>b6 p.2)(a:(L.all λp=>decide ((cF p.2).length=1))=c4):∀x st,L.lookup x=b6 st->ds.lookup x=b6 st/\(cF st).length=1:=
 λx st e=>⟨ZM.mp h (x,st) (gR e),of_decide_eq_true (V3.mp a (x,st) (gR e))⟩
inductive EntsOf (w:UJ):List DictEntry->List (aK×Value)->Prop where
 |nil:EntsOf w [] []
 |cons {e:DictEntry}{k:aK}{v:Value}{es:List DictEntry}{kvs:List (aK×Value)}(h:lQ k e.key=c4)(hh:e.hash=Bq w k)(hv:e.val=v)(t:EntsOf w es kvs):EntsOf w (e::es) ((k,v)::kvs)
theorem QD{mg:Str->Option Value}{ns:List Str}(h:∀x∈ns,mg x=b8):∀x,ns.contains x=c4->mg x=none:=λx e=>h x (by simpa using e)
noncomputable def uZ:Nat->(Nat->Value)->List Value
 |0,_=>[]|n+1,u=>u 0::uZ n λi=>u (i+1)
theorem FG:∀us:List Value,∃u,us=uZ us.length u
 |[]=>⟨λ_=>.none,rfl⟩|v::us=>let⟨u,a⟩:=FG us;⟨λi=>match i with|0=>v|i+1=>u i,congrArg (v::·) a⟩
noncomputable abbrev FH:Type:=Value->Value->Value->Option Addr->Value->Value->(Nat->Value)->a1B (List (Str×Value))
noncomputable def QF(x:Str)(st:Stmt)(m:Value)(c:Addr):Obj:=⟨Uw "function",b8,.func (VO x x (fB st) (cD st) (bC st) .none .none .none m b8 (.ref c) .none),#[]⟩
noncomputable def FI(K:T3)(d:(Str×Stmt)×Value×Addr×Addr):Option (Option Value)×Option Obj×Bool×Bool×Bool×FH:=(Vj K U1 d.1.1,K.lookup d.2.2.2,XH K (.ref d.2.2.1) d.1.1,U9 K (.ref d.2.2.2),jW d.1.2,λkV b c an a ct u=>a1e (VO d.1.1 d.1.1 (fB d.1.2) (cD d.1.2) (bC d.1.2) .none kV b c an a ct) ⟨uZ (cF d.1.2).length u,[]⟩)
noncomputable def FJ(d:(Str×Stmt)×Value×Addr×Addr):Option (Option Value)×Option Obj×Bool×Bool×Bool×FH:=(b6 (b6 (.ref d.2.2.2)),b6 (QF d.1.1 d.1.2 d.2.1 d.2.2.1),c4,c4,c4,λ_ _ _ _ _ _ u=>pure ((cF d.1.2).zip (uZ (cF d.1.2).length u)))
noncomputable def u3(K:T3)(d:Str×Stmt):(Str×Stmt)×Value×Addr×Addr:=(d,match Vj K U1 d.1 with
 |some (b6 (.ref f))=>(match K.lookup f with
  |some ⟨_,_,.func fd,_⟩=>(match fd.code with
   |.ref c=>(fd.pyModule,c,f)
   |_=>(.none,0,0))
  |_=>(.none,0,0))
 |_=>(.none,0,0))
noncomputable def u6(K:T3)(ds:List (Str×Stmt)):Prop:=ds.map (λd=>FI K (u3 K d))=ds.map λd=>FJ (u3 K d)
theorem FK{K:T3}{h:Vb}{mg:Str->Option Value}(X:K.In h)(G:h.Ns U1 mg){ds:List (Str×Stmt)}(q:u6 K ds):∀p∈ds,(DefAt K mg p.1 p.2/\jW p.2=c4)/\∃f j,Fun K p.1 p.1 p.2 f j/\mg p.1=b6 (.ref f)/\∀us:List Value,us.length=(cF p.2).length->a1e j ⟨us,[]⟩=pure ((cF p.2).zip us):=by
 intro i r;have t:=ZM.mp q i r;have e:(u3 K i).1=i:=rfl;generalize u3 K i=d at t e;obtain⟨p,m,c,f⟩:=d;cases e;unfold FI FJ at t;obtain⟨a,t⟩:=Y4 t;obtain⟨l,t⟩:=Y4 t;obtain⟨c,t⟩:=Y4 t;obtain⟨k,t⟩:=Y4 t;obtain⟨s,b⟩:=Y4 t;have F:=Cg (st:=p.2) l c k;have D:=λkV doc pm an cdv ct (us:List Value)(o:us.length=(cF p.2).length)=>(by
  obtain⟨u,n⟩:=FG us;rw[o]at n;rw[n];exact congrFun (congrFun (congrFun (congrFun (congrFun (congrFun (congrFun b kV) doc) pm) an) cdv) ct) u:a1e (VO p.1 p.1 (fB p.2) (cD p.2) (bC p.2) .none kV doc pm an cdv ct) ⟨us,[]⟩=pure ((cF p.2).zip us))
 exact⟨⟨⟨_,_,F,WI X G a,Binds.all (D _ _ _ _ _ _)⟩,s⟩,_,_,F,WI X G a,D _ _ _ _ _ _⟩
theorem QH{K:T3}{h:Vb}{mg:Str->Option Value}(X:K.In h)(G:h.Ns U1 mg){ds:List (Str×Stmt)}(q:u6 K ds){x y:Str}{st:Stmt}(c:ds.lookup x=b6 st)(d:cF st=[y]):∃f a,Fun K x x st f a/\mg x=b6 (.ref f)/\∀(s:T6)(u:Value),ZR s a ⟨[u],[]⟩ [(y,u)]:=by obtain⟨f,a,F,m,b⟩:=(FK X G q (x,st) (gR c)).2;dsimp only at b;rw[d]at b;exact⟨f,a,F,m,λs u=>.of_eq (b [u] rfl)⟩
theorem QK{K:T3}{h:Vb}{mg:Str->Option Value}(X:K.In h)(G:h.Ns U1 mg){ns:List Str}(q:ns.map (Vj K U1)=ns.map λ_=>b6 b8):∀x∈ns,mg x=none:=λx a=>PySem.W.mg_none_of X G (ZM.mp q x a)
noncomputable def rD{c d:Type}(f:c->d->Bool):List c->List d->Bool
 |[],[]=>c4|a::as,b::bs=>f a b&&rD f as bs|_,_=>b9
noncomputable def rF(K:T3):Nat->Value->D->Bool
 |0,_,_=>b9|k+1,u,d=>match d with
  |.non=>(match u with|.none=>c4|_=>b9)|.bl b=>(match u with|.bool c=>decide (b=c)|_=>b9)|.int i=>(match u with|.int j _=>decide (i=j)|_=>b9)|.str x=>(match u with|.str y _=>decide (x=y)|_=>b9)
  |.tup ds=>(match u with
   |.ref p=>(match K.lookup p with
    |some ⟨.type t,b8,.seq its _,_⟩=>decide (t="tuple")&&decide (its.size<=1000)&&rD (rF K k) its.toList ds
    |_=>b9)
   |_=>b9)
  |.rol ds=>(match u with
   |.ref p=>(match K.lookup p with
    |some ⟨.type t,b8,.seq its _,_⟩=>decide (t="list")&&decide (its.size<=1000)&&rD (rF K k) its.toList ds
    |_=>b9)
   |_=>b9)
  |_=>b9
theorem FL{K:T3}{f:Value->D->Bool}(h:∀u d,f u d=c4->∃v,RelV v u/\∀π n H,IsD K π n H v d):∀us ds,rD f us ds=c4->∃vs,Vals vs us/\∀π n H,IsDs K π n H vs ds
 |[],[],_=>⟨[],.nil,λ_ _ _=>.nil⟩|u::us,d::ds,e=>by obtain⟨a,b⟩:=WY.mp e;obtain⟨v,r,q⟩:=h u d a;obtain⟨vs,i,c⟩:=FL h us ds b;exact⟨v::vs,.cons r i,λ_ _ _=>.cons (q _ _ _) (c _ _ _)⟩
 |[],_::_,e=>nomatch e|_::_,[],e=>nomatch e
theorem FN{K:T3}:∀(k:Nat)(u:Value)(d:D),rF K k u d=c4->∃v,RelV v u/\∀π n H,IsD K π n H v d
 |0,_,_,e=>nomatch e|k+1,u,d,e=>by
  have seq:∀{p:Addr}{ds:List D}{c:String},(match K.lookup p with|some ⟨.type t,b8,.seq h _,_⟩=>decide (t=c)&&decide (h.size<=1000)&&rD (rF K k) h.toList ds|_=>b9)=c4->∃j h n m,K.lookup p=b6 ⟨.type c,b8,.seq h n,m⟩/\h.size<=Uo/\Vals j h.toList/\∀π n H,IsDs K π n H j ds:=λ{p ds c} e=>by
   split at e
   ·rename_i t h n m l;obtain⟨e,q⟩:=WY.mp e;obtain⟨a,b⟩:=WY.mp e;cases of_decide_eq_true a;obtain⟨j,r,i⟩:=FL (FN k) _ _ q;exact⟨j,h,n,m,l,VD (of_decide_eq_true b) (by decide),r,i⟩
   ·cases e
  cases d with
  |non=>cases u with
   |none=>exact⟨.non,rfl,λ_ _ _=>.non⟩|_=>cases e
  |bl b=>cases u with
   |bool c=>cases of_decide_eq_true e;exact⟨.bl b,rfl,λ_ _ _=>.bl _⟩|_=>cases e
  |int b=>cases u with
   |int c=>cases of_decide_eq_true e;exact⟨.int b,⟨_,rfl⟩,λ_ _ _=>.int _⟩|_=>cases e
  |str b=>cases u with
   |str c=>cases of_decide_eq_true e;exact⟨.str b,⟨_,rfl⟩,λ_ _ _=>.str _⟩|_=>cases e
  |tup ds=>cases u with
   |ref p=>obtain⟨j,h,n,m,l,o,r,i⟩:=seq e;exact⟨.ref p,rfl,λ_ _ _=>.tup (vs:=j) (.inr ⟨_,h,n,l,rfl,rfl,rfl,o,r⟩) (i _ _ _)⟩|_=>cases e
  |rol ds=>cases u with
   |ref p=>obtain⟨j,h,n,m,l,o,r,i⟩:=seq e;exact⟨.ref p,rfl,λ_ _ _=>.rol (vs:=j) (.inr ⟨_,h,n,l,rfl,rfl,rfl,o,r⟩) (i _ _ _)⟩|_=>cases e
  |_=>cases e
noncomputable def FP(K:T3)(a:List (Str×D)):Bool:=a.all λc=>match Vj K U1 c.1 with|some (b6 u)=>rF K 8 u c.2|_=>b9
theorem QL{K:T3}{h:Vb}{mg:Str->Option Value}(X:K.In h)(G:h.Ns U1 mg){a:List (Str×D)}(q:FP K a=c4):∀p∈a,∃v u,mg p.1=b6 u/\RelV v u/\∀π n H,IsD K π n H v p.2:=λp b=>by
 have t:=V3.mp q p b;split at t
 ·rename_i u c;obtain⟨v,r,i⟩:=FN _ _ _ t;exact⟨v,u,WI X G c,r,i⟩
 ·cases t
end L3
namespace L3
open PySem L2
noncomputable def FQ:Expr->Option Str
 |.Constant v _ _=>(match v with
  |.str s=>b6 s
  |_=>b8)
 |_=>b8
theorem QM{e:Expr}{s:Str}(h:FQ e=b6 s):∃k p,e=.Constant (.str s) k p:=by
 cases e with
 |Constant v k p=>
  cases v with
  |str t=>cases h;exact⟨_,_,rfl⟩|_=>cases h
 |_=>cases h
noncomputable def AS:Expr->Option (Expr×Str×VW)
 |.Attribute o m p=>b6 (o,m,p)|_=>b8
theorem FR{e:Expr}{q:Expr×Str×VW}(h:AS e=b6 q):e=.Attribute q.1 q.2.1 q.2.2:=by
 cases e with
 |Attribute o m p=>cases h;rfl|_=>cases h
noncomputable def FT(f:Expr)(args:List Expr)(a:List Xs)(c:VW):Option (Str×Str):=
 match args with
 |[a1,a2]=>(match a with
  |[]=>(fM a1).bind λd=>(FQ a2).bind λ_=>(AS f).bind λq=>(fM q.1).bind λb=>if(q.2.1=="__init__" && (q.2.2.endLine==c.line))=c4 then b6 (b,d)else b8
  |_::_=>b8)
 |_=>b8
noncomputable def FU:Stmt->Option (Str×Str)
 |.Expr e _=>(match e with
  |.Call f args kws p5=>FT f args kws p5
  |_=>b8)
 |_=>b8
noncomputable def FV:Stmt->Option (Str×Str×Str)
 |.Assign ts e _=>(match ts with
  |[t]=>(AS t).bind λq=>(fM q.1).bind λb=>(fM e).bind λa=>b6 (b,q.2.1,a)
  |_=>b8)
 |_=>b8
theorem QN{st:Stmt}{bn sf:Str}(h:FU st=b6 (bn,sf)):∃r j l m n o c p,st=.Expr (.Call (.Attribute (.Name bn l) "__init__" m) [.Name sf n,.Constant (.str r) j o] [] c) p/\(m.endLine==c.line)=true:=by
 cases st with
 |Expr e p=>
  cases e with
  |Call f a b c=>
   have h:FT f a b c=b6 (bn,sf):=h;match a,h with
   |[a1,a2],h=>
    cases b with
    |cons _ _=>cases h|nil=>
     obtain⟨z,v,h⟩:=TZ.mp h;obtain⟨r,w,h⟩:=TZ.mp h;obtain⟨q,x,h⟩:=TZ.mp h;obtain⟨s,y,d⟩:=TZ.mp h;obtain⟨n,rfl⟩:=iV v;obtain⟨j,o,rfl⟩:=QM w;obtain⟨l,u⟩:=iV y;have i:=FR x;rw[u]at i;subst i;by_cases hc:(q.2.1=="__init__" && (q.2.2.endLine==c.line))=c4
     ·rw[if_pos hc]at d;cases d;rw[T4,beq_iff_eq]at hc;rw[hc.1];exact⟨_,_,_,_,_,_,_,_,rfl,hc.2⟩
     ·rw[if_neg hc]at d;cases d
  |_=>cases h
 |_=>cases h
theorem QU{st:Stmt}{sf a ar:Str}(h:FV st=b6 (sf,a,ar)):∃c p d b,st=.Assign [.Attribute (.Name sf c) a p] (.Name ar d) b:=by
 cases st with
 |Assign s e b=>
  match s,h with
  |[t],h=>obtain⟨q,m,h⟩:=TZ.mp h;obtain⟨r,n,h⟩:=TZ.mp h;obtain⟨j,o,h⟩:=TZ.mp h;cases h;obtain⟨c,l⟩:=iV n;obtain⟨d,rfl⟩:=iV o;have i:=FR m;rw[l]at i;exact⟨c,_,d,b,by rw[i]⟩
 |_=>cases h
noncomputable def rG(K:T3)(x bn:Str):Addr×Addr×Addr×Value×Addr:=
 let C:=(fY K x).getD 0
 let f:=(match K.lookup C with
  |some ⟨_,_,.cls cd,_⟩=>(match Vj K cd.ns "__init__" with
   |some (b6 (.ref f))=>f
   |_=>0)
  |_=>0)
 let q:=(match K.lookup f with
  |some ⟨_,_,.func fd,_⟩=>(match fd.code with
   |.ref c=>(fd.pyModule,c)
   |_=>(.none,0))
  |_=>(.none,0))
 (C,f,(fY K bn).getD 0,q.1,q.2)
noncomputable def QV(x qual:Str)(st:Stmt)(m:Value)(c:Addr):Obj:=⟨Uw "function",b8,.func (VO x qual (fB st) (cD st) (bC st) .none .none .none m b8 (.ref c) .none),#[]⟩
noncomputable def FW(K:T3)(x a bn qual:Str)(st:Stmt):Bool:=
 let q:=rG K x bn
 Vj K U1 x==b6 (b6 (.ref q.1))&&tV K q.1 q.2.1&&yQ K q.2.2.1&&Vj K U1 bn==b6 (b6 (.ref q.2.2.1))&&VI K (.ref q.1) "__setattr__"==b6 (b6 (.builtin "object.__setattr__")) &&
 VI K (.ref q.1) a==b6 b8&&U9 K (.ref q.1)&&XH K (.ref q.2.2.2.2) qual&&U9 K (.ref q.2.1)&&jW st
noncomputable abbrev rH(K:T3)(x a:Str):Prop:=∃C f B bn b sf ar,InitK K C f B bn a/\Vj K U1 x=b6 (b6 (.ref C))/\U9 K (.ref C)=c4/\(∀P w mg base k,FnOk P w K mg base cY (k+1) f b [sf,ar] (kT C a))/\Binds K b [sf,ar] []/\∃c,K.lookup f=b6 c/\c.cls=.type "function"
theorem AU{K:T3}{x a bn qual sf ar:Str}{st s1 s2:Stmt}(hB:FW K x a bn qual st=c4)(b:K.lookup (rG K x bn).2.1=b6 (QV "__init__" qual st (rG K x bn).2.2.2.1 (rG K x bn).2.2.2.2)) (M:cD st=[s1,s2])(h1:FU s1=b6 (bn,sf))(G:FV s2=b6 (sf,a,ar))
  (H:dC st=[sf,ar])(L:cF st=[sf,ar])(N:(bC st).names.lookup bn=b6 .globalImplicit)(O:((bn==("__debug__":Str))||(sf==("__debug__":Str))||(ar==("__debug__":Str))||(sf==("__classdict__":Str))||(ar==("__classdict__":Str)))=b9)
  (hD:∀(kV h R:Value)(an:Option Addr)(e ct u v:Value),a1e (VO "__init__" qual (fB st) (cD st) (bC st) .none kV h R an e ct) ⟨[u,v],[]⟩=pure [(sf,u),(ar,v)]) :
  rH K x a:=by
 unfold FW at hB;generalize rG K x bn=q at hB b;obtain⟨C,f,B,m,c⟩:=q;dsimp only at hB b;rw[T4,T4,T4,T4,T4,T4,T4,T4,T4,beq_iff_eq,beq_iff_eq,beq_iff_eq,beq_iff_eq]at hB;obtain⟨⟨⟨⟨⟨⟨⟨⟨⟨o,p⟩,r⟩,s⟩,y⟩,z⟩,b7⟩,A⟩,E⟩,d⟩:=hB;have I:InitK K C f B bn a:=⟨p,r,s,y,z⟩;have F:=Cg (st:=st) b A E;obtain⟨tx,U,Y,Z,p3,p4,p5,p6,rfl,j⟩:=QN h1;obtain⟨p7,p8,p9,Q,rfl⟩:=QU G;have l:=Ay d;rw[H,L]at l;refine⟨C,f,B,bn,_,sf,ar,I,o,b7,λP w X n k=>NC F l M j I N O,Binds.all λT i=>?_,_,b,rfl⟩;match T,i with
 |[u,v],_=>exact hD _ _ _ _ _ _ u v
theorem QX{S:Sig}{K:T3}
  (h1:(S.cls.all λp=>tX K p.2 p.1)=c4)
  (o:(S.sup.all λp=>S.sup.all λq=>qI K p.1 q.1==b6 (p.2.contains q.1))=c4)
  (r:(S.sup.all λp=>S.sup.all λq=>match fY K q.1 with|some C=>gO K (.ref C) p.1==b6 (p.2.contains q.1)|none=>b9)=c4)(s:(S.sup.all λp=>gO K (.type "ValueError") p.1==b6 (p.2.contains "ValueError"))=c4)
  (u:(S.sup.all λp=>(S.cls.lookup p.1).isSome||match fY K p.1 with|some C=>Zg K C mJ "ValueError.__new__" |none=>b9)=c4)
  (v:∀p∈S.cls,rH K p.1 p.2)
  : XcOk S K:=by
 have i:∀{g:Str×List Str->Str×List Str->Bool},(S.sup.all λp=>S.sup.all λq=>g p q)=c4->∀x b c d,S.sup.lookup x=b6 b->S.sup.lookup c=b6 d->g (x,b) (c,d)=true:=λ{g} h x b c d m n=>V3.mp (V3.mp h (x,b) (gR m)) (c,d) (gR n);refine⟨λx a e=>V3.mp h1 (x,a) (gR e),λx b c e hc=>?_,λx b c e hc=>?_,λx b e=>?_,λx b e w=>?_,λx a e=>v (x,a) (gR e)⟩
 ·obtain⟨d,l⟩:=U8.mp hc;exact beq_iff_eq.mp (i o x b c d e l)
 ·obtain⟨d,l⟩:=U8.mp hc;have:=i r x b c d e l;dsimp only at this;split at this
  ·rename_i C j;exact⟨C,j,beq_iff_eq.mp this⟩
  ·cases this
 ·exact beq_iff_eq.mp (V3.mp s (x,b) (gR e))
 ·have:=V3.mp u (x,b) (gR e);dsimp only at this;rw[w]at this;split at this
  ·rename_i C j;exact⟨C,by simpa using this,kR j⟩
  ·simp at this
end L3
namespace L3
open PySem L2
noncomputable def W{a:Type}(o:Option a)(Q:a->Prop):Prop:=∃r,o=b6 r/\Q r
section
variable{α β:Type}{o:Option α}{Q:α->Prop}
theorem W_some{r:α}{Q:α->Prop}:W (b6 r) Q↔Q r:=⟨λ⟨_,h,q⟩=>by cases h;exact q,λq=>⟨r,rfl,q⟩⟩
theorem W_none{Q:α->Prop}:W b8 Q↔False:=⟨λ⟨_,h,_⟩=>(by cases h),λh=>h.elim⟩
theorem W_bind{g:α->Option β}{Q:β->Prop}:W (o.bind g) Q↔W o λr=>W (g r) Q:=by
 cases o with
 |none=>exact⟨λ⟨_,h,_⟩=>(by cases h),λ⟨_,h,_⟩=>(by cases h)⟩|some a=>simp[W_some]
theorem W_map{g:α->β}{Q:β->Prop}:W (o.map g) Q↔W o λr=>Q (g r):=by
 cases o with
 |none=>exact⟨λ⟨_,h,_⟩=>(by cases h),λ⟨_,h,_⟩=>(by cases h)⟩|some a=>simp[W_some]
theorem bQ{a:α->Prop}(h:W o Q)(k:∀r,Q r->a r):W o a:=let⟨r,e,q⟩:=h;⟨r,e,k r q⟩
theorem u7{c:Prop} [Decidable c] {a b:Option α}:W (if c then a else b) Q↔if c then W a Q else W b Q:=by split<;>rfl
end
noncomputable def fin:Option (Fl×aF×Hm)->Option (D×Hm):=λo=>o.bind λp=>match p.1 with|.rt d=>b6 (d,p.2.2)|.nx=>b6 (.non,p.2.2)|_=>b8
noncomputable def u9:Option (Xn×aF×Hm)->Option (Xn×Hm):=λo=>o.map λp=>(p.1,p.2.2)
theorem W_fin{o:Option (Fl×aF×Hm)}{Q:D×Hm->Prop}:W (fin o) Q↔W o λp=>match p.1 with|.rt d=>Q (d,p.2.2)|.nx=>Q (.non,p.2.2)|_=>False:=by
 unfold fin;rw[W_bind];constructor
 ·exact λh=>bQ h λp q=>by obtain⟨a,c,b⟩:=p;cases a<;>simpa[W_some,W_none]using q
 ·exact λh=>bQ h λp q=>by obtain⟨a,c,b⟩:=p;cases a<;>simpa[W_some,W_none]using q
theorem aU{μ b:Hm}(h:μ<+:b){a:Nat}{c:C}(e:μ[a]?=b6 c):b[a]?=b6 c:=by obtain⟨t,rfl⟩:=h;have d:=(T8.mp e).1;rw[Ul d];exact e
theorem AV{μ a:Hm}(h:μ<+:a):μ.length<=a.length:=h.length_le
theorem aT(μ:Hm)(c:C):μ<+:μ++[c]:=⟨[c],rfl⟩
theorem rJ{μ b:Hm}(h:μ<+:b){a:Nat}(d:μ.length<=a)(c:C):μ<+:b.set a c:=by obtain⟨t,rfl⟩:=h;rw[Y9 _ _ d];exact⟨_,rfl⟩
theorem w_mSeq{a b:MS}{c:aF}{μ:Hm} {Q}:W (aJ a b c μ) Q↔W (a c μ) λp=>match p.1 with|.nx=>W (b p.2.1 p.2.2) Q|_=>Q p:=by
 unfold aJ;rw[W_bind];constructor
 ·exact λh=>bQ h λp q=>by obtain⟨d,c,μ⟩:=p;cases d<;>simpa[W_some,W_none]using q
 ·exact λh=>bQ h λp q=>by obtain⟨d,c,μ⟩:=p;cases d<;>simpa[W_some,W_none]using q
theorem w_mRet{m:ME}{a:aF}{μ:Hm} {Q}:W (aX m a μ) Q↔W (m a μ) λp=>Q (.rt p.1,a,p.2):=W_map
theorem w_mDrop{m:ME}{a:aF}{μ:Hm} {Q}:W (fR m a μ) Q↔W (m a μ) λp=>Q (.nx,a,p.2):=W_map
theorem w_mSet{i:Nat}{m:ME}{a:aF}{μ:Hm} {Q}:W (aQ i m a μ) Q↔W (m a μ) λp=>Q (.nx,a.set i (b6 p.1),p.2):=W_map
theorem w_mNext{a:aF}{μ:Hm} {Q}:W (bA a μ) Q↔Q (.nx,a,μ):=W_some
theorem w_mIfS{t:MT}{a b:MS}{c:aF}{μ:Hm} {Q}:W (a6 t a b c μ) Q↔W (t c μ) λp=>if p.1=c4 then W (a c p.2) Q else W (b c p.2) Q:=by unfold a6;rw[W_bind];constructor<;>exact λh=>bQ h λp q=>by obtain⟨x,μ⟩:=p;cases x<;>simpa using q
theorem w_mAndT{a b:MT}{c:aF}{μ:Hm} {Q}:W (gE a b c μ) Q↔W (a c μ) λp=>if p.1=c4 then W (b c p.2) Q else Q (b9,p.2):=by unfold gE;rw[W_bind];constructor<;>exact λh=>bQ h λp q=>by obtain⟨x,μ⟩:=p;cases x<;>simpa[W_some]using q
theorem w_mOrT{a b:MT}{c:aF}{μ:Hm} {Q}:W (cP a b c μ) Q↔W (a c μ) λp=>if p.1=c4 then Q (c4,p.2)else W (b c p.2) Q:=by unfold cP;rw[W_bind];constructor<;>exact λh=>bQ h λp q=>by obtain⟨x,μ⟩:=p;cases x<;>simpa[W_some]using q
theorem w_mNotT{a:MT}{b:aF}{μ:Hm} {Q}:W (bN a b μ) Q↔W (a b μ) λp=>Q (!p.1,p.2):=W_map
theorem w_mOp{f:D->D->Hm->Option (D×Hm)}{a b:ME}{c:aF}{μ:Hm} {Q}:W (aC f a b c μ) Q↔W (a c μ) λp=>W (b c p.2) λq=>W (f p.1 q.1 q.2) Q:=by unfold aC;rw[W_bind];simp only[W_bind]
theorem aR{d:D}{a:aF}{μ:Hm} {Q}:W (mC d a μ) Q↔Q (d,μ):=W_some
theorem aI{d:D}{a:aF}{μ:Hm} {Q}:W (aB 0 (b6 d::a) μ) Q↔Q (d,μ):=by show W (b6 (d,μ)) Q↔_;exact W_some
theorem aL{i:Nat}{x:Option D}{a:aF}{μ:Hm} {Q}:W (aB (i+1) (x::a) μ) Q↔W (aB i a μ) Q:=by unfold aB;rw[WC]
theorem aN{a:aF}{μ:Hm} {Q}:W (aD a μ) Q↔Q ([],μ):=W_some
theorem w_mCons{a:ME}{r:MA}{b:aF}{μ:Hm} {Q}:W (aA a r b μ) Q↔W (a b μ) λp=>W (r b p.2) λq=>Q (p.1::q.1,q.2):=by unfold aA;simp only[W_bind,W_some]
theorem w_mTup {a:MA}{b:aF}{μ:Hm} {Q}:W (aW a b μ) Q↔W (a b μ) fun p=>p.1.length<=Uo/\Q (.tup p.1,p.2):=by
 unfold aW
 rw [W_bind]
 constructor<;>exact fun h=>bQ h fun p q=>by
  first
  | (rw [u7] at q;split at q
     ·exact ⟨by assumption,W_some.mp q⟩
     ·exact (W_none.mp q).elim)
  | (rw [if_pos q.1];exact W_some.mpr q.2)
theorem gT {a:MA}{b:aF}{μ:Hm} {Q}:W (bI a b μ) Q↔W (a b μ) fun p=>p.1.length<=Uo/\Q (.loc p.2.length,p.2++[.lst p.1]):=by
 unfold bI
 rw [W_bind]
 constructor<;>exact fun h=>bQ h fun p q=>by
  first
  | (rw [u7] at q;split at q
     ·exact ⟨by assumption,W_some.mp q⟩
     ·exact (W_none.mp q).elim)
  | (rw [if_pos q.1];exact W_some.mpr q.2)
theorem w_mCall {f:MF}{a:MA}{b:aF}{μ:Hm} {Q}:W (aE f a b μ) Q↔W (a b μ) fun p=>W (f p.1 p.2) Q:=W_bind
theorem w_mTest{m:ME}{a:aF}{μ:Hm} {Q}:W (aP m a μ) Q↔W (m a μ) λp=>match p.1 with|.bl b=>Q (b,p.2)|_=>False:=by unfold aP;rw[W_bind];constructor<;>exact λh=>bQ h λp q=>by obtain⟨d,μ⟩:=p;cases d<;>simpa[W_some,W_none]using q
theorem w_mTru{m:ME}{a:aF}{μ:Hm} {Q}:W (bK m a μ) Q↔W (m a μ) λp=>W (nZ p.2 p.1) λb=>Q (b,p.2):=by unfold bK;simp only[W_bind,W_map]
theorem QY{a:ME}{b:aF}{μ:Hm} {Q}:W (iL a b μ) Q↔W (a b μ) λp=>match p.1 with|.int i=>Q (.int (-i),p.2)|_=>False:=by unfold iL;rw[W_bind];constructor<;>exact λh=>bQ h λp q=>by obtain⟨d,μ⟩:=p;cases d<;>simpa[W_some,W_none,W_map,xK]using q
theorem vB{a:ME}{c:aF}{μ:Hm} {Q}:W (j9 a c μ) Q↔W (a c μ) λp=>match p.1 with|.bl b=>Q (.bl (!b),p.2)|_=>False:=by unfold j9;rw[W_bind];constructor<;>exact λh=>bQ h λp q=>by obtain⟨d,μ⟩:=p;cases d<;>simpa[W_some,W_none]using q
theorem cN{a b:ME}{e:aF}{μ:Hm} {Q}:W (dH a b e μ) Q↔W (a e μ) λp=>match p.1 with|.bl c=>if c=c4 then W (b e p.2) Q else Q (.bl b9,p.2)|_=>False:=by
 unfold dH;rw[W_bind];constructor<;>exact λh=>bQ h λp q=>by
  obtain⟨d,μ⟩:=p;cases d with
  |bl c=>cases c<;>simpa[W_some]using q|_=>simpa[W_none]using q
section
variable{i j:Int}{μ:Hm}{Q:D×Hm->Prop}{a b c d e g:D}
theorem w_addI:W (bM (.int i) (.int j) μ) Q↔Q (.int (i+j),μ):=W_some
theorem QZ:W (l6 (.int i) (.int j) μ) Q↔Q (.int (i-j),μ):=W_some
theorem cM(h:0<j):W (bB (.int i) (.int j) μ) Q↔Q (.int (i%j),μ):=by show W ((if 0<j then b6 (i%j)else b8).map λz=>(D.int z,μ)) Q↔_;rw[if_pos h];exact W_some
theorem Q0:(1073741824:Int)<2^4000:=by decide +kernel
theorem Q1(h:0<j)(l:j<2^4000):W (cG (.int i) (.int j) μ) Q↔Q (.int (i/j),μ):=by show W ((if 0<j/\j<2^4000 then b6 (i/j)else b8).map λz=>(D.int z,μ)) Q↔_;rw[if_pos ⟨h,l⟩];exact W_some
theorem fZ(h:0<j)(l:j<1073741824):W (cG (.int i) (.int j) μ) Q↔Q (.int (i/j),μ):=Q1 h (Int.lt_trans l Q0)
theorem o7(h:(-(2^64)<i/\i<2^64)\/(-(2^64)<j/\j<2^64)):W (c9 (.int i) (.int j) μ) Q↔Q (.int (i*j),μ):=by show W ((if((-(2^64)<i/\i<2^64)\/(-(2^64)<j/\j<2^64))\/(i.natAbs<2^4000/\j.natAbs<2^4000)\/UY i+UY j<=134217728 then b6 (i*j)else b8).map λz=>(D.int z,μ)) Q↔_;rw[if_pos (.inl h)];exact W_some
theorem FX(h:0<=j/\j<=1000000/\i.natAbs<2^64):W (l7 (.int i) (.int j) μ) Q↔Q (.int (i^j.toNat),μ):=by show W ((if(0<=j/\j<=1000000/\i.natAbs<2^64)\/(0<=j/\j<=100/\i.natAbs<2^4000)then b6 (i^j.toNat)else b8).map λz=>(D.int z,μ)) Q↔_;rw[if_pos (.inl h)];exact W_some
theorem w_eqI:W (a8 b9 (.int i) (.int j) μ) Q↔Q (.bl (i==j),μ):=W_some
theorem o8:W (a8 c4 (.int i) (.int j) μ) Q↔Q (.bl (!(i==j)),μ):=W_some
theorem vC:W (fE (.int i) (.int j) μ) Q↔Q (.bl (decide (i<j)),μ):=W_some
theorem AW:W (nN (.int i) (.int j) μ) Q↔Q (.bl (decide (i<=j)),μ):=W_some
theorem d8:W (aH (.tup [a,b]) (.int 0) μ) Q↔Q (a,μ):=W_some
theorem eI:W (aH (.tup [a,b]) (.int 1) μ) Q↔Q (b,μ):=W_some
theorem w_truB{b:Bool}{Q:Bool->Prop}:W (nZ μ (.bl b)) Q↔Q b:=W_some
end
theorem eJ{μ:Hm}{a:Nat}{xs:List D}{i:Int}{d:D}{Q:D×Hm->Prop}(h:μ[a]?=b6 (.lst xs))(b:atI xs i=b6 d):W (aH (.loc a) (.int i) μ) Q↔Q (d,μ):=by
 have:aH (.loc a) (.int i) μ=b6 (d,μ):=by simp only[aH,dU,bJ,h,UG,b,UQ]
 rw[this];exact W_some
end L3
namespace L3
open PySem L2
theorem w_iSeq{m:ME}{a:aF}{μ:Hm}{Q:kI×Nat×Hm->Prop}:W (dM m a μ) Q↔W (m a μ) λp=>W (fV p.2 p.1) λxs=>Q (cL p.1,xs.length+1,p.2):=by unfold dM;simp only[W_bind,W_map]
theorem w_mForI{c:MI}{g:MG}{b:MS}{a:aF}{μ:Hm} {Q}:W (eC c g b a μ) Q↔W (c a μ) λp=>W (fS p.1 g b p.2.1 0 a p.2.2) Q:=W_bind
theorem FY {j:Int}{c:MA}{e:aF}{μ:Hm}{Q:kI×Nat×Hm->Prop}:W (iB c e μ) Q↔W (c e μ) fun p=>match p.1 with|[.int j]=>(-(2 ^ 62)<=j/\j<2 ^ 62)/\Q (hZ 0 j.toNat,j.toNat+1,p.2)|_=>False:=by
 unfold iB
 rw [W_bind]
 constructor<;>exact fun h=>bQ h fun p q=>by
  obtain ⟨l,μ⟩:=p
  match l,q with
  | [],q=>simpa [W_none] using q
  | [d],q=>
   cases d with
   | int j=>
    first
    | (dsimp only at q;rw [u7] at q;split at q
       ·rename_i i;exact ⟨i,W_some.mp q⟩
       ·exact (W_none.mp q).elim)
    | (dsimp only;rw [if_pos q.1];exact W_some.mpr q.2)
   | _=>simpa [W_none] using q
  | a::b::l,q=>simpa [W_none] using q
theorem AX {a:MA}{b:aF}{μ:Hm}{Q:kI×Nat×Hm->Prop}:W (kJ a b μ) Q↔W (a b μ) fun p=>match p.1 with|[.int i,.int j]=>(-(2 ^ 62)<=i/\i<2 ^ 62/\-(2 ^ 62)<=j/\j<2 ^ 62)/\Q (hZ i (j - i).toNat,(j - i).toNat+1,p.2)|_=>False:=by
 unfold kJ
 rw [W_bind]
 constructor<;>exact fun h=>bQ h fun p q=>by
  split at q
  ·rename_i e
   try rw [e]
   first
   | (rw [u7] at q;split at q
      ·rename_i c;exact ⟨c,W_some.mp q⟩
      ·exact (W_none.mp q).elim)
   | ((try dsimp only);rw [if_pos q.1];exact W_some.mpr q.2)
  ·first
   | exact (W_none.mp q).elim
   | exact q.elim
theorem rK {e:kI}{g:MG}{b:MS}{N:Nat}{Q:Fl×aF×Hm->Prop}(I:Nat->aF->Hm->Prop)
  (o:∀ i a μ,i<N->I i a μ->∃ d j,e μ i=b6 (b6 d)/\g d a μ=b6 j/\W (b j μ) fun p=>match p.1 with|.nx=>I (i+1) p.2.1 p.2.2|.ct=>I (i+1) p.2.1 p.2.2|.bk=>Q (.nx,p.2.1,p.2.2)|.rt d=>Q (.rt d,p.2.1,p.2.2))
  (c:∀ a μ,I N a μ->e μ N=b6 b8/\Q (.nx,a,μ)):∀ (m i:Nat)(a:aF)(μ:Hm),i+m=N->I i a μ->W (fS e g b (m+1) i a μ) Q
 | 0,i,a,μ,h,hI=>by
  have:i=N:=by omega
  subst this
  obtain ⟨r,s⟩:=c a μ hI
  unfold fS
  rw [r]
  exact W_some.mpr s
 | m+1,i,a,μ,h,hI=>by
  obtain ⟨d,j,r,s,v⟩:=o i a μ (by omega) hI
  unfold fS
  rw [r]
  simp only [UG,s]
  rw [W_bind]
  refine bQ v fun p q=>?_
  obtain ⟨u,n,l⟩:=p
  cases u with
  | nx=>exact rK I o c m (i+1) n l (by omega) q
  | ct=>exact rK I o c m (i+1) n l (by omega) q
  | bk=>exact W_some.mpr q
  | rt d=>exact W_some.mpr q
theorem AY{a:Nat}{xs:List D}{g:MG}{b:MS}{c:aF}{μ:Hm}{Q:Fl×aF×Hm->Prop}(I:Nat->aF->Hm->Prop)(o:I 0 c μ)(m:∀i c μ,I i c μ->μ[a]?=b6 (.lst xs))
  (n:∀i d c μ,xs[i]?=b6 d->I i c μ->∃h,g d c μ=b6 h/\W (b h μ) λp=>match p.1 with|.nx=>I (i+1) p.2.1 p.2.2|.ct=>I (i+1) p.2.1 p.2.2|.bk=>Q (.nx,p.2.1,p.2.2)|.rt d=>Q (.rt d,p.2.1,p.2.2))
  (l:∀c μ,I xs.length c μ->Q (.nx,c,μ)):W (fS (cL (.loc a)) g b (xs.length+1) 0 c μ) Q:=by
 refine rK (N:=xs.length) I (λi c μ s j=>?_) (λc μ j=>⟨?_,l c μ j⟩) xs.length 0 c μ (by omega) o
 ·have e:xs[i]?=b6 xs[i]:=T9 s;obtain⟨h,q,r⟩:=n i xs[i] c μ e j;refine⟨xs[i],h,?_,q,r⟩;simp only[cL,fV,bJ,m i c μ j,UQ,e]
 ·simp only[cL,fV,bJ,m _ c μ j,UQ];simp
theorem Q2{x:D}{xs:List D}(l:∀μ,fV μ x=b6 xs){g:MG}{b:MS}{a:aF}{μ:Hm}{Q:Fl×aF×Hm->Prop}(I:Nat->aF->Hm->Prop)(n:I 0 a μ)
  (m:∀i d a μ,xs[i]?=b6 d->I i a μ->∃c,g d a μ=b6 c/\W (b c μ) λp=>match p.1 with|.nx=>I (i+1) p.2.1 p.2.2|.ct=>I (i+1) p.2.1 p.2.2|.bk=>Q (.nx,p.2.1,p.2.2)|.rt d=>Q (.rt d,p.2.1,p.2.2))
  (h:∀a μ,I xs.length a μ->Q (.nx,a,μ)):W (fS (cL x) g b (xs.length+1) 0 a μ) Q:=by
 refine rK (N:=xs.length) I (λi a μ r j=>?_) (λa μ j=>⟨?_,h a μ j⟩) xs.length 0 a μ (by omega) n
 ·have e:xs[i]?=b6 xs[i]:=T9 r;obtain⟨c,o,q⟩:=m i xs[i] a μ e j;refine⟨xs[i],c,?_,o,q⟩;simp only[cL,l,UQ,e]
 ·simp only[cL,l,UQ];simp
theorem vD{lo:Int}{n:Nat}{g:MG}{b:MS}{a:aF}{μ:Hm}{Q:Fl×aF×Hm->Prop}(I:Nat->aF->Hm->Prop)(m:I 0 a μ)
  (l:∀(i:Nat) a μ,i<n->I i a μ->∃c,g (.int (lo+i)) a μ=b6 c/\W (b c μ) λp=>match p.1 with|.nx=>I (i+1) p.2.1 p.2.2|.ct=>I (i+1) p.2.1 p.2.2|.bk=>Q (.nx,p.2.1,p.2.2)|.rt d=>Q (.rt d,p.2.1,p.2.2))
  (e:∀a μ,I n a μ->Q (.nx,a,μ)):W (fS (hZ lo n) g b (n+1) 0 a μ) Q:=by
 refine rK (N:=n) I (λi a μ j h=>?_) (λa μ h=>⟨?_,e a μ h⟩) n 0 a μ (by omega) m
 ·obtain⟨c,o,q⟩:=l i a μ j h;exact⟨_,c,by simp only[hZ,if_pos j],o,q⟩
 ·simp only[hZ,Xd,if_false]
theorem FZ{μ:Hm}{a:Nat}{ys:List D}{y:D}(h:μ[a]?=b6 (.lst ys))(b:ys.length<Uo):nP μ a y=b6 (μ.set a (.lst (ys++[y]))):=by unfold nP;rw[h];exact if_pos b
theorem AZ{x:kI}{c:MT}{e:ME}{I:aF}{a:Hm}{xs:List D}{p:D->Bool}{v:D->D}{Q:Hm->Prop}(A:∀μ i,a<+:μ->x μ i=b6 xs[i]?)(K:xs.length<=Uo)
  (hc:∀d μ,d∈xs->a<+:μ->W (c (I++[b6 d]) μ) λr=>r.1=p d/\μ<+:r.2)
  (B:∀d μ,d∈xs->p d=c4->a<+:μ->W (e (I++[b6 d]) μ) λr=>r.1=v d/\μ<+:r.2)
  (fin:∀μ,a<+:μ->μ[a.length]?=b6 (.lst ((xs.filter p).map v))->Q μ) :
  ∀(m i:Nat)(μ:Hm),i+m=xs.length->a<+:μ->μ[a.length]?=b6 (.lst (((xs.take i).filter p).map v))->W (jK x l9 c e I a.length (m+1) i μ) Q
 |0,i,μ,hi,hp,ha=>by
  have:i=xs.length:=by omega
  subst this;unfold jK;rw[A μ _ hp];rw[VU (Up _)];simp only[UG];refine W_some.mpr (fin μ hp ?_);simpa using ha
 |m+1,i,μ,hi,hp,ha=>by
  have u:i<xs.length:=by omega
  have L:xs[i]?=b6 xs[i]:=T9 u;have j:xs[i]∈xs:=WM u;unfold jK;rw[A μ _ hp,L];simp only[UG,l9];rw[W_bind];refine bQ (hc _ μ j hp) λr q=>?_;obtain⟨b,z⟩:=r;obtain⟨M,w⟩:=q;dsimp only at M w ⊢;subst M;have h:xs.take (i+1)=xs.take i++[xs[i]]:=by rw[List.take_succ,L];rfl
  have n:=aU w ha;cases l:p xs[i]with
  |false=>refine AZ A K hc B fin m (i+1) z (by omega) (hp.trans w) ?_;rw[n,h,ZD];simp[l]|true=>
   dsimp only;rw[W_bind];refine bQ (B _ z j l (hp.trans w)) λr q=>?_;obtain⟨y,H⟩:=r;obtain⟨N,G⟩:=q;dsimp only at N G ⊢;subst N;have o:=aU G n;have s:(((xs.take i).filter p).map v).length<Uo:=by have O:=WT p (xs.take i);rw[Uc];rw[UN]at O;omega
   rw[FZ o s,UG];have E:a<+:H:=(hp.trans w).trans G;refine AZ A K hc B fin m (i+1) _ (by omega) (rJ E (Up _) _) ?_;rw[Vc (T8.mp o).1,h,ZD];simp[l]
theorem o9{x:MI}{c:MT}{e:ME}{b:aF}{μ:Hm}{xs:List D}{p:D->Bool}{v:D->D}{Q:D×Hm->Prop}
  (hit:W (x b μ) λr=>(∀a i,r.2.2<+:a->r.1 a i=b6 xs[i]?)/\r.2.1=xs.length+1/\xs.length<=Uo /\
   (∀d a,d∈xs->r.2.2<+:a->W (c (b++[b6 d]) a) λs=>s.1=p d/\a<+:s.2)/\(∀d a,d∈xs->p d=c4->r.2.2<+:a->W (e (b++[b6 d]) a) λs=>s.1=v d/\a<+:s.2) /\
   ∀a,r.2.2<+:a->a[r.2.2.length]?=b6 (.lst ((xs.filter p).map v))->Q (.loc r.2.2.length,a)):W (eS x c e b μ) Q:=by
 unfold eS kK;rw[W_bind];refine bQ hit λr q=>?_;obtain⟨y,n,h⟩:=r;obtain⟨j,l,m,o,u,w⟩:=q;dsimp only at j l m o u w ⊢;subst l;rw[W_map];exact AZ j m o u w xs.length 0 (h++[.lst []]) (by omega) (aT _ _) (by simp)
theorem Q3{μ:Hm}{a:Nat}{xs:List D}(h:μ[a]?=b6 (.lst xs)):∀b i,μ<+:b->cL (.loc a) b i=b6 xs[i]?:=λb i c=>by simp only[cL,fV,bJ,aU c h,UQ]
theorem A0{xs:List D}{μ:Hm}:∀a i,μ<+:a->cL (.tup xs) a i=b6 xs[i]?:=λa i b=>rfl
noncomputable def f6(lo:Int)(n:Nat):List D:=(Vv n).map λ(i:Nat)=>.int (lo+(i:Int))
theorem F0{lo:Int}{n:Nat}{μ:Hm}:∀a i,μ<+:a->hZ lo n a i=b6 (f6 lo n)[i]?:=λa i _=>by
 unfold hZ f6;rw[UU];by_cases h:i<n
 ·rw[if_pos h,a1E h];rfl
 ·rw[if_neg h,VU (by simpa using YC.mp h)];rfl
noncomputable abbrev P(x y:Int):D:=.tup [.int x,.int y]
noncomputable abbrev PP(p:Int×Int):D:=P p.1 p.2
theorem A1(n:Nat)(μ:Hm)(p q:Int×Int):cV (n+2) μ (PP p) (PP q)=b6 (p==q):=by obtain⟨a,b⟩:=p;obtain⟨c,d⟩:=q;show b6 (a==c&&(b==d&&c4))=b6 ((a,b)==(c,d));rw[Zz];rfl
theorem F1(n:Nat)(μ:Hm):∀ps a:List (Int×Int),eB (cJ (n+2) μ) (ps.map PP) (a.map PP)=b6 (ps==a)
 |[],[]=>rfl|[],_::_=>rfl|_::_,[]=>rfl|p::ps,q::a=>by rw[Uv,Uv];show(cV (n+2) μ (PP p) (PP q)).bind (λb=>(eB (cJ (n+2) μ) (ps.map PP) (a.map PP)).map λc=>b&&c)=_;rw[A1,F1 n μ ps a];rfl
theorem Q4{μ:Hm}{a b:Nat}{ps c:List (Int×Int)}(h:μ[a]?=b6 (.lst (ps.map PP)))(i:μ[b]?=b6 (.lst (c.map PP))):cV 8 μ (.loc a) (.loc b)=b6 (ps==c):=by
 have d:dB μ (.loc a)=b6 (.lst (ps.map PP)):=by simp only[dB,h]
 have e:dB μ (.loc b)=b6 (.lst (c.map PP)):=by simp only[dB,i]
 show(dB μ (.loc a)).bind (λx=>(dB μ (.loc b)).bind λy=>gG (cJ 7 μ) x y)=_;rw[d,e];exact F1 5 μ ps c
theorem Q5{μ:Hm}{a b:Nat}{ps c:List (Int×Int)}{ne:Bool}{Q:D×Hm->Prop}(d:μ[a]?=b6 (.lst (ps.map PP)))(e:μ[b]?=b6 (.lst (c.map PP))):W (a8 ne (.loc a) (.loc b) μ) Q↔Q (.bl (if ne then !(ps==c)else ps==c),μ):=by unfold a8;rw[Q4 d e];exact W_some
theorem pI{μ:Hm}{a b:Nat}{xs ys:List D}{Q:D×Hm->Prop}(c:μ[a]?=b6 (.lst xs))(d:μ[b]?=b6 (.lst ys))(e:xs.length+ys.length<=Uo):W (bM (.loc a) (.loc b) μ) Q↔Q (.loc μ.length,μ++[.lst (xs++ys)]):=by simp only[bM,c,d,if_pos e];exact W_some
theorem Q6{a:aF}{μ:Hm}{Q:List (aK×D)×Hm->Prop}:W (mF [] a μ) Q↔Q ([],μ):=W_some
theorem Q7{k v:ME}{r:List (ME×ME)}{a:aF}{μ:Hm}{Q:List (aK×D)×Hm->Prop}:W (mF ((k,v)::r) a μ) Q↔W (k a μ) λp=>W (v a p.2) λq=>W (kF p.1) λb=>W (mF r a q.2) λt=>Q ((b,q.1)::t.1,t.2):=by show W ((k a μ).bind _) Q↔_;simp only[W_bind,W_map]
theorem Q8{x:Str}{Q:aK->Prop}:W (kF (.str x)) Q↔Q (.inr x):=W_some
theorem Q9{a:List (ME×ME)}{b:aF}{μ:Hm}{Q:D×Hm->Prop}(h:W (mF a b (μ++[.dK []])) λp=>p.2[μ.length]?=b6 (.dK [])/\p.1.length<=15/\Q (.loc μ.length,p.2.set μ.length (.dK (qG [] p.1)))):W (mG a b μ) Q:=by unfold mG;rw[W_bind];refine bQ h λp q=>?_;obtain⟨c,d,e⟩:=q;rw[c];dsimp only;rw[if_pos d];exact W_some.mpr e
theorem Ra{μ:Hm}{a:Nat}{kvs:List (aK×D)}{y d:D}{k:aK}{Q:D×Hm->Prop}(h:μ[a]?=b6 (.dK kvs))(b:kF y=b6 k)(c:fU kvs k=b6 d):W (aH (.loc a) y μ) Q↔Q (d,μ):=by
 have:aH (.loc a) y μ=b6 (d,μ):=by simp only[aH,h,b,UG,c,UQ]
 rw[this];exact W_some
theorem Rb{f:D->List D->Hm->Option (D×Hm)}{b:ME}{c:MA}{a:aF}{μ:Hm}{Q:D×Hm->Prop}(h:W (b a μ) λp=>nV p.2 p.1=c4/\W (c a p.2) λq=>W (f p.1 q.1 q.2) Q):W (nW f b c a μ) Q:=by unfold nW;rw[W_bind];refine bQ h λp q=>?_;rw[q.1];exact W_bind.mpr q.2
theorem Rc{μ:Hm}{a:Nat}{xs:List D}(h:μ[a]?=b6 (.lst xs)):nV μ (.loc a)=true:=by simp only[nV,h]
theorem Rf{μ:Hm}{a:Nat}{xs:List D}{y:D}{Q:D×Hm->Prop}(h:μ[a]?=b6 (.lst xs))(b:xs.length<Uo):W (nY (.loc a) [y] μ) Q↔Q (.non,μ.set a (.lst (xs++[y]))):=by simp only[nY,FZ h b,UQ];exact W_some
theorem jX{μ:Hm}{xs:List D}{Q:D×Hm->Prop}:W (bX [.tup xs,.ty "tuple"] μ) Q↔Q (.bl c4,μ):=W_some
theorem F2{μ:Hm}{i:Int}{Q:D×Hm->Prop}:W (bX [.int i,.ty "bool"] μ) Q↔Q (.bl b9,μ):=W_some
theorem F3{μ:Hm}{i:Int}{Q:D×Hm->Prop}:W (bX [.int i,.ty "int"] μ) Q↔Q (.bl c4,μ):=W_some
theorem Rg{μ:Hm}{b:Bool}{Q:D×Hm->Prop}:W (bX [.bl b,.ty "bool"] μ) Q↔Q (.bl c4,μ):=W_some
theorem rL{μ:Hm}{b:Str}{Q:D×Hm->Prop}:W (bX [.str b,.ty "str"] μ) Q↔Q (.bl c4,μ):=W_some
theorem Rh{μ:Hm}{a:Nat}{xs:List D}{Q:D×Hm->Prop}(h:μ[a]?=b6 (.lst xs)):W (bX [.loc a,.ty "list"] μ) Q↔Q (.bl c4,μ):=by
 have:bX [.loc a,.ty "list"] μ=b6 (.bl c4,μ):=by simp only[bX,jH,h,UG];rfl
 rw[this];exact W_some
theorem F4{μ:Hm}{xs:List D}{Q:D×Hm->Prop}:W (cK [.tup xs] μ) Q↔Q (.int xs.length,μ):=W_some
theorem mZ{μ:Hm}{a:Nat}{xs:List D}{Q:D×Hm->Prop}(h:μ[a]?=b6 (.lst xs)):W (cK [.loc a] μ) Q↔Q (.int xs.length,μ):=by simp only[cK,qE,bJ,h,UQ];exact W_some
theorem vF{μ:Hm}{a:Nat}{xs:List D}{Q:List D->Prop}(h:μ[a]?=b6 (.lst xs)):W (fV μ (.loc a)) Q↔Q xs:=by simp only[fV,bJ,h];exact W_some
theorem A2{μ:Hm}{xs:List D}{Q:List D->Prop}:W (fV μ (.tup xs)) Q↔Q xs:=W_some
theorem F5{a:aF}{μ:Hm}{Q:Option Int×Hm->Prop}:W (dJ a μ) Q↔Q (b8,μ):=W_some
theorem A3{m:ME}{a:aF}{μ:Hm}{Q:Option Int×Hm->Prop}:W (cZ m a μ) Q↔W (m a μ) λp=>match p.1 with|.int i=>Q (b6 i,p.2)|_=>False:=by unfold cZ;rw[W_bind];constructor<;>exact λh=>bQ h λp q=>by obtain⟨d,μ⟩:=p;cases d<;>simpa[W_some,W_none]using q
theorem F6{a:ME}{lo c:MO}{b:aF}{μ:Hm}{Q:D×Hm->Prop}(h:W (a b μ) λp=>∃xs,p.1=.rol xs/\W (lo b p.2) λq=>W (c b q.2) λr=>Q (.loc r.2.length,r.2++[.lst (eQ xs q.1 r.1)])):W (cU a lo c b μ) Q:=by unfold cU;rw[W_bind];refine bQ h λp q=>?_;obtain⟨d,j⟩:=p;obtain⟨xs,e,i⟩:=q;dsimp only at e i ⊢;subst e;rw[W_bind];refine bQ i λs q=>?_;rw[W_bind];refine bQ q λr q=>?_;exact W_some.mpr q
theorem F7{a:ME}{lo c:MO}{b:aF}{μ:Hm}{Q:D×Hm->Prop}(h:W (a b μ) λp=>∃l,p.1=.loc l/\W (lo b p.2) λq=>W (c b q.2) λr=>∃xs,r.2[l]?=b6 (.lst xs)/\Q (.loc r.2.length,r.2++[.lst (eQ xs q.1 r.1)])):W (cU a lo c b μ) Q:=by unfold cU;rw[W_bind];refine bQ h λp q=>?_;obtain⟨d,n⟩:=p;obtain⟨l,e,i⟩:=q;dsimp only at e i ⊢;subst e;rw[W_bind];refine bQ i λs q=>?_;rw[W_bind];refine bQ q λr q=>?_;obtain⟨xs,j,m⟩:=q;simp only[bJ,j,UG];exact W_some.mpr m
theorem bH(μ:Hm)(c:C):(μ++[c])[μ.length]?=b6 c:=by simp
end L3
namespace L3
open PySem L2
theorem vG{f g:D->D->Hm->Option (D×Hm)}{a b c:ME}{e:aF}{μ:Hm} {Q}:W (iR f g a b c e μ) Q↔W (a e μ) λp=>W (b e p.2) λq=>W (f p.1 q.1 q.2) λr=>match r.1 with|.bl k=>if k=c4 then W (c e r.2) λt=>W (g q.1 t.1 t.2) Q else Q (.bl b9,r.2)|_=>False:=by
 unfold iR;simp only[W_bind];constructor<;>exact λh=>bQ h λp q=>bQ q λl j=>bQ j λr i=>by
  obtain⟨d,μ⟩:=r;cases d with
  |bl k=>cases k<;>simpa[W_some,W_bind]using i|_=>simpa[W_none]using i
section
variable{i j:Int}{μ:Hm}{Q:D×Hm->Prop}
theorem F8{a:Nat}{bs:List Bool}(h:μ[a]?=b6 (.lst (bs.map D.bl))):W (tQ [.loc a] μ) Q↔Q (.bl (bs.all id),μ):=by
 have e:∀bs:List Bool,n6 (bs.map D.bl)=b6 bs:=λbs=>by
  induction bs with
  |nil=>rfl|cons b bs c=>show(n6 (bs.map D.bl)).map (b::·)=_;rw[c];rfl
 simp only[tQ,bJ,h,UG,e,UQ];exact W_some
end
theorem w_mTrue{a:aF}{μ:Hm}{Q:Bool×Hm->Prop}:W (fT a μ) Q↔Q (c4,μ):=W_some
theorem vH{o i v:ME}{a:aF}{μ:Hm} {Q}:W (fJ o i v a μ) Q↔W (v a μ) λp=>W (o a p.2) λq=>W (i a q.2) λr=>W (qP q.1 r.1 p.1 r.2) λb=>Q (.nx,a,b):=by unfold fJ zA;simp only[W_bind,W_map]
theorem Ri{μ:Hm}{a:Nat}{xs:List D}{Q:D×Hm->Prop}(h:μ[a]?=b6 (.lst xs)):W (mV [.loc a] μ) Q↔Q (.tup xs,μ):=by simp only[mV,bJ,h,UQ];exact W_some
section
variable{μ:Hm}{a:Nat}{kvs:List (List Int×D)}{k:List Int}{d y:D}{ρ:aF}{Q:D×Hm->Prop}
theorem vJ:W (iT ρ μ) Q↔Q (.loc μ.length,μ++[.dT []]):=W_some
theorem rM{b:Bool}(h:μ[a]?=b6 (.dT kvs))(c:dS y=b6 k):W (bZ b y (.loc a) μ) Q↔Q (.bl (if b then !(bY kvs k).isSome else(bY kvs k).isSome),μ):=by
 have:bZ b y (.loc a) μ=b6 (.bl (if b then !(bY kvs k).isSome else(bY kvs k).isSome),μ):=by simp only[bZ,h,c,UQ]
 rw[this];exact W_some
theorem A4{Q:Hm->Prop}(h:μ[a]?=b6 (.dT kvs))(b:dS y=b6 k)(c:kvs.length<Uo):W (qP (.loc a) y d μ) Q↔Q (μ.set a (.dT (jM kvs k d))):=by simp only[qP,qO,h,b,UG,if_pos c];exact W_some
theorem vK{xs:List D}(h:μ[a]?=b6 (.lst xs)):W (fL [.loc a] μ) Q↔Q (.loc μ.length,μ++[.lst xs]):=by simp only[fL,h,qF,bJ,UQ];exact W_some
end
theorem F9{m c:MS}{r:MR}{sup:Str->Option Bool}{i:Nat}{d b:aF}{μ a:Hm}{x:Xn}{Q:Fl×aF×Hm->Prop}(h:r d μ=b6 (x,b,a))(e:sup x.1=b6 c4) :
  W (kS m r sup i c d μ) Q↔W (c (b.set i (b6 (.loc a.length))) (a++[C.exc x.1 (x.2.map (·.1)) (x.2.map (·.2))])) λq=>Q (q.1,q.2.1.set i b8,q.2.2):=by
 unfold kS;rw[h];dsimp only;rw[if_pos e];exact W_map
theorem Rj{m b:MS}{r:MR}{sup:Str->Option Bool}{i:Nat}{a:aF}{μ:Hm}{Q:Fl×aF×Hm->Prop}(h:r a μ=b8):W (kS m r sup i b a μ) Q↔W (m a μ) Q:=by unfold kS;rw[h]
theorem A5{c:Str}{ok:Str->Bool}{m:ME}{i:aF}{μ:Hm}{Q:D×Hm->Prop}:W (eU c ok m i μ) Q↔W (m i μ) λp=>∃a x ns ds d,p.1=.loc a/\p.2[a]?=b6 (.exc x ns ds)/\ok x=c4/\(ns.zip ds).lookup c=b6 d/\Q (d,p.2):=by
 unfold eU;rw[W_bind];constructor
 ·rintro⟨p,h,a,b,e⟩;refine⟨p,h,?_⟩;split at b
  ·rename_i j q;split at b
   ·rename_i x ns ds s;split at b
    ·rename_i r;obtain⟨d,hd,rfl⟩:=T7.mp b;exact⟨j,x,ns,ds,d,q,s,r,hd,e⟩
    ·cases b
   ·cases b
  ·cases b
 ·rintro⟨p,h,a,x,ns,ds,d,b,e,l,n,o⟩;refine⟨p,h,_,?_,o⟩;rw[b];dsimp only;rw[e];dsimp only;rw[if_pos l,n];rfl
theorem w_rCall{r:RF}{b:MA}{a:aF}{μ:Hm}{Q:Xn×aF×Hm->Prop}:W (gN r b a μ) Q↔W (b a μ) λp=>W (r p.1 p.2) λq=>Q (q.1,a,q.2):=by unfold gN;rw[W_bind];exact⟨λ⟨p,h,k⟩=>⟨p,h,W_map.mp k⟩,λ⟨p,h,k⟩=>⟨p,h,W_map.mpr k⟩⟩
theorem w_rRaiseI{x a:Str}{m:ME}{b:aF}{μ:Hm}{Q:Xn×aF×Hm->Prop}:W (kU x a m b μ) Q↔W (m b μ) λp=>Q ((x,[(a,p.1)]),b,p.2):=by unfold kU;exact W_map
theorem w_rRaise{x:Str}{b:MA}{a:aF}{μ:Hm}{Q:Xn×aF×Hm->Prop}:W (kQ x b a μ) Q↔W (b a μ) λp=>Q ((x,[]),a,p.2):=by unfold kQ;exact W_map
theorem w_rIf{t:MT}{b c:MR}{a:aF}{μ:Hm}{Q:Xn×aF×Hm->Prop}:W (fX t b c a μ) Q↔W (t a μ) λp=>W (if p.1=c4 then b a p.2 else c a p.2) Q:=by unfold fX;exact W_bind
theorem i0{m:MS}{a e:MR}{b:aF}{μ:Hm}{Q:Xn×aF×Hm->Prop}(h:W (a b μ) Q):W (bP m a e b μ) Q:=by obtain⟨p,c,d⟩:=h;refine⟨p,?_,d⟩;unfold bP;rw[c]
theorem lH{m:MS}{b c:MR}{a:aF}{μ:Hm}{Q:Xn×aF×Hm->Prop}(h:b a μ=b8)(k:W (m a μ) λp=>p.1=.nx/\W (c p.2.1 p.2.2) Q):W (bP m b c a μ) Q:=by obtain⟨⟨f,n,l⟩,d,e,p,i,j⟩:=k;cases e;refine⟨p,?_,j⟩;unfold bP;rw[h,d];exact i
theorem W_finR{o:Option (Xn×aF×Hm)}{Q:Xn×Hm->Prop}:W (u9 o) Q↔W o λp=>Q (p.1,p.2.2):=W_map
end L3
namespace Lw
open PySem L2 L3
noncomputable def ds:List (Str×Stmt):=[("is_whole",aO 16),("is_place",aO 17),("is_edge",aO 18),("is_size",aO 21),("check_size",aO 22),("is_mark",aO 23),("is_within",aO 24),("is_inner_edge",aO 25),("sheet_of",aO 26),("_law_draw",aO 28),("_law_kind",aO 29),("_law_int",aO 30),("_law_are",aO 31),("_law_amid",aO 32),("_law_size",aO 33),("_law_line",aO 34),("_law_creases",aO 35),("_law_is_sheet",aO 36),("_law_bad_edge",aO 37),("_law_bad_mark",aO 38),("_law_spoiled",aO 39),("_law_inner",aO 40),("_law_due",aO 41),("_law_classes",aO 42),("_law_refused",aO 43),("law",aO 44)]
noncomputable def vL:D:=(.tup [(.str "h"),(.str "v"),(.str "o")])
noncomputable def S:Sig:={fn:=[("is_whole",1),("is_place",1),("is_edge",1),("is_size",1),("check_size",2),("is_mark",1),("is_within",3),("is_inner_edge",3),("sheet_of",3),("_law_draw",2),("_law_kind",1),("_law_int",1),("_law_are",2),("_law_amid",3),("_law_size",1),("_law_line",1),("_law_creases",3),("_law_is_sheet",2),("_law_bad_edge",3),("_law_bad_mark",1),("_law_spoiled",4),("_law_inner",3),("_law_due",3),("_law_classes",1),("_law_refused",3),("law",1)],con:=[("MARKS",vL)],tab:=[],no:=["ValueError","all","bool","int","isinstance","len","list","range","sorted","str","tuple"],dIt:=["_law_marks"],dEq:=["_law_good"],dMe:=[],cls:=[("NoEdge","edge"),("Twice","edge"),("Barred","corner")],sup:=[("CreaseError",["CreaseError","ValueError"]),("NoSize",["NoSize","CreaseError","ValueError"]),("NoMark",["NoMark","CreaseError","ValueError"]),("NoText",["NoText","CreaseError","ValueError"]),("NoRound",["NoRound","CreaseError","ValueError"]),("NoOrder",["NoOrder","CreaseError","ValueError"]),("TooMany",["TooMany","CreaseError","ValueError"]),("NoFold",["NoFold","CreaseError","ValueError"]),("NoRow",["NoRow","CreaseError","ValueError"]),("NoName",["NoName","CreaseError","ValueError"]),("Taken",["Taken","CreaseError","ValueError"]),("NoEdge",["NoEdge","CreaseError","ValueError"]),("Twice",["Twice","CreaseError","ValueError"]),("Barred",["Barred","CreaseError","ValueError"])],rz:=["sheet_of","check_size"],ul:=[("_law_classes",aO 42)],mx:=c4}
@[irreducible] noncomputable def f(k:Nat)(x:Str):MF:=gQ S ds k x
@[irreducible] noncomputable def g(k:Nat)(x:Str):RF:=lG S ds k x
noncomputable abbrev sup(c x:Str):Option Bool:=(S.sup.lookup x).map λys=>ys.contains c
noncomputable abbrev vM(a:List Str)(x:Str):Option Bool:=((S.sup.lookup x).map λys=>a.map λn=>ys.contains n).map λb=>b.any id
noncomputable abbrev att(a x:Str):Bool:=S.cls.lookup x==b6 a
end Lw
namespace Lw
open PySem L2 L3
theorem vO(k:Nat)(a:D)(μ:Hm):f (k+1) "is_whole" [a] μ=fin ((aX (dH (aE bX (aA (aB 0) (aA (mC (.ty "int")) aD))) (j9 (aE bX (aA (aB 0) (aA (mC (.ty "bool")) aD)))))) [b6 a] μ):=by kernel_rfl
theorem rN(k:Nat)(a:D)(μ:Hm):f (k+1) "is_place" [a] μ=fin ((aX (dH (aE bX (aA (aB 0) (aA (mC (.ty "tuple")) aD))) (dH (aC (a8 b9) (aE cK (aA (aB 0) aD)) (mC (.int 2))) (dH (aE (f k "is_whole") (aA (aC aH (aB 0) (mC (.int 0))) aD)) (aE (f k "is_whole") (aA (aC aH (aB 0) (mC (.int 1))) aD)))))) [b6 a] μ):=by kernel_rfl
theorem Rk(k:Nat)(a:D)(μ:Hm):f (k+1) "is_edge" [a] μ=fin ((aJ (a6 (aP (aC (a8 b9) (aC bB (aC aH (aB 0) (mC (.int 0))) (mC (.int 2))) (mC (.int 1)))) (aX (aC (a8 b9) (aC bB (aC aH (aB 0) (mC (.int 1))) (mC (.int 2))) (mC (.int 1)))) bA) (aX (dH (aC (a8 b9) (aC bB (aC aH (aB 0) (mC (.int 1))) (mC (.int 2))) (mC (.int 0))) (aC (a8 c4) (aC bB (aC aH (aB 0) (mC (.int 0))) (mC (.int 4))) (aC bB (aC aH (aB 0) (mC (.int 1))) (mC (.int 4))))))) [b6 a] μ):=by kernel_rfl
theorem vP(k:Nat)(a:D)(μ:Hm):f (k+1) "is_size" [a] μ=fin ((aX (dH (aE (f k "is_whole") (aA (aB 0) aD)) (iR nN nN (mC (.int 1)) (aB 0) (mC (.int 6))))) [b6 a] μ):=by kernel_rfl
theorem Rl(k:Nat)(a b:D)(μ:Hm):f (k+1) "check_size" [a,b] μ=fin ((a6 (bN (gE (bK (aE (f k "is_size") (aA (aB 0) aD))) (bK (aE (f k "is_size") (aA (aB 1) aD))))) aY bA) [b6 a,b6 b] μ):=by kernel_rfl
theorem Ga(k:Nat)(a b:D)(μ:Hm):g (k+3) "check_size" [a,b] μ=u9 ((bP (a6 (bN (gE (bK (aE (f (k+2) "is_size") (aA (aB 0) aD))) (bK (aE (f (k+2) "is_size") (aA (aB 1) aD))))) aY bA) (fX (bN (gE (bK (aE (f (k+2) "is_size") (aA (aB 0) aD))) (bK (aE (f (k+2) "is_size") (aA (aB 1) aD))))) (bP aY (kQ "NoSize" (aA (mC (.str "a sheet is from 1 to 6 squares wide and high")) aD)) bF) bF) bF) [b6 a,b6 b] μ):=by kernel_rfl
theorem Gb(k:Nat)(a:D)(μ:Hm):f (k+1) "is_mark" [a] μ=fin ((aX (dH (aE bX (aA (aB 0) (aA (mC (.ty "str")) aD))) (aC (bZ b9) (aB 0) (mC vL)))) [b6 a] μ):=by kernel_rfl
theorem Gd(k:Nat)(a b c:D)(μ:Hm):f (k+1) "is_within" [a,b,c] μ=fin ((aX (dH (iR fE fE (mC (.int 0)) (aC aH (aB 2) (mC (.int 0))) (aC c9 (mC (.int 4)) (aB 0))) (iR fE fE (mC (.int 0)) (aC aH (aB 2) (mC (.int 1))) (aC c9 (mC (.int 4)) (aB 1))))) [b6 a,b6 b,b6 c] μ):=by kernel_rfl
theorem rO(k:Nat)(a b c:D)(μ:Hm):f (k+1) "is_inner_edge" [a,b,c] μ=fin ((aX (dH (aE (f k "is_place") (aA (aB 2) aD)) (dH (aE (f k "is_within") (aA (aB 0) (aA (aB 1) (aA (aB 2) aD)))) (aE (f k "is_edge") (aA (aB 2) aD))))) [b6 a,b6 b,b6 c] μ):=by kernel_rfl
theorem Rm(k:Nat)(a b c:D)(μ:Hm):f (k+1) "sheet_of" [a,b,c] μ=fin ((aJ (fR (aE (f k "check_size") (aA (aB 0) (aA (aB 1) aD)))) (aJ (aQ 3 iT) (aJ (eC (dM (aB 2)) (dE 4) (aJ (aQ 5 (aC aH (aB 4) (mC (.int 0)))) (aJ (a6 (bN (bK (aE (f k "is_inner_edge") (aA (aB 0) (aA (aB 1) (aA (aB 5) aD)))))) aY bA) (aJ (a6 (bN (bK (aE (f k "is_mark") (aA (aC aH (aB 4) (mC (.int 1))) aD)))) aY bA) (aJ (a6 (aP (aC (bZ b9) (aB 5) (aB 3))) aY bA) (fJ (aB 3) (aB 5) (aC aH (aB 4) (mC (.int 1))))))))) (aX (aW (aA (aB 0) (aA (aB 1) (aA (oP (aB 3)) aD)))))))) [b6 a,b6 b,b6 c,b8,b8,b8] μ):=by kernel_rfl
theorem Ge(k:Nat)(a b c:D)(μ:Hm):g (k+3) "sheet_of" [a,b,c] μ=u9 ((bP (fR (aE (f (k+2) "check_size") (aA (aB 0) (aA (aB 1) aD)))) (gN (g (k+2) "check_size") (aA (aB 0) (aA (aB 1) aD))) (bP (aQ 3 iT) bF (bP (eC (dM (aB 2)) (dE 4) (aJ (aQ 5 (aC aH (aB 4) (mC (.int 0)))) (aJ (a6 (bN (bK (aE (f (k+2) "is_inner_edge") (aA (aB 0) (aA (aB 1) (aA (aB 5) aD)))))) aY bA) (aJ (a6 (bN (bK (aE (f (k+2) "is_mark") (aA (aC aH (aB 4) (mC (.int 1))) aD)))) aY bA) (aJ (a6 (aP (aC (bZ b9) (aB 5) (aB 3))) aY bA) (fJ (aB 3) (aB 5) (aC aH (aB 4) (mC (.int 1))))))))) (qJ (dM (aB 2)) (dE 4) (aJ (aQ 5 (aC aH (aB 4) (mC (.int 0)))) (aJ (a6 (bN (bK (aE (f (k+2) "is_inner_edge") (aA (aB 0) (aA (aB 1) (aA (aB 5) aD)))))) aY bA) (aJ (a6 (bN (bK (aE (f (k+2) "is_mark") (aA (aC aH (aB 4) (mC (.int 1))) aD)))) aY bA) (aJ (a6 (aP (aC (bZ b9) (aB 5) (aB 3))) aY bA) (fJ (aB 3) (aB 5) (aC aH (aB 4) (mC (.int 1)))))))) (bP (aQ 5 (aC aH (aB 4) (mC (.int 0)))) bF (bP (a6 (bN (bK (aE (f (k+2) "is_inner_edge") (aA (aB 0) (aA (aB 1) (aA (aB 5) aD)))))) aY bA) (fX (bN (bK (aE (f (k+2) "is_inner_edge") (aA (aB 0) (aA (aB 1) (aA (aB 5) aD)))))) (bP aY (kU "NoEdge" "edge" (aB 5)) bF) bF) (bP (a6 (bN (bK (aE (f (k+2) "is_mark") (aA (aC aH (aB 4) (mC (.int 1))) aD)))) aY bA) (fX (bN (bK (aE (f (k+2) "is_mark") (aA (aC aH (aB 4) (mC (.int 1))) aD)))) (bP aY (kQ "NoMark" (aA (mC (.str "a mark is h, v or o")) aD)) bF) bF) (bP (a6 (aP (aC (bZ b9) (aB 5) (aB 3))) aY bA) (fX (aP (aC (bZ b9) (aB 5) (aB 3))) (bP aY (kU "Twice" "edge" (aB 5)) bF) bF) (bP (fJ (aB 3) (aB 5) (aC aH (aB 4) (mC (.int 1)))) bF bF)))))) (bP (aX (aW (aA (aB 0) (aA (aB 1) (aA (oP (aB 3)) aD))))) bF bF)))) [b6 a,b6 b,b6 c,b8,b8,b8] μ):=by kernel_rfl
theorem Ro(k:Nat)(a b:D)(μ:Hm):f (k+1) "_law_draw" [a,b] μ=fin ((aX (aC aH (aC bM (bI (aA (mC (.int 0)) aD)) (cU (aB 0) (cZ (aB 1)) (cZ (aC bM (aB 1) (mC (.int 1)))))) (iL (mC (.int 1))))) [b6 a,b6 b] μ):=by kernel_rfl
theorem Rq(k:Nat)(a:D)(μ:Hm):f (k+1) "_law_kind" [a] μ=fin ((aX (aC aH (aC aH (bI (aA (mC (.str "c.l.")) (aA (mC (.str ".fqr")) (aA (mC (.str "uqcq")) (aA (mC (.str ".rqf")) aD))))) (aC bB (aC aH (aB 0) (mC (.int 1))) (mC (.int 4)))) (aC bB (aC aH (aB 0) (mC (.int 0))) (mC (.int 4))))) [b6 a] μ):=by kernel_rfl
theorem Gf(k:Nat)(a:D)(μ:Hm):f (k+1) "_law_int" [a] μ=fin ((aX (dH (j9 (aE bX (aA (aB 0) (aA (mC (.ty "bool")) aD)))) (aE bX (aA (aB 0) (aA (mC (.ty "int")) aD))))) [b6 a] μ):=by kernel_rfl
theorem Rt(k:Nat)(a b:D)(μ:Hm):f (k+1) "_law_are" [a,b] μ=fin ((aJ (a6 (cP (bN (bK (aE bX (aA (aB 0) (aA (mC (.ty "list")) aD))))) (aP (aC (a8 c4) (aB 0) (aB 1)))) (aX (mC (.bl b9))) bA) (aJ (eC (dM (aB 0)) (dE 2) (a6 (cP (bN (bK (aE bX (aA (aB 2) (aA (mC (.ty "tuple")) aD))))) (cP (aP (aC (a8 c4) (aE cK (aA (aB 2) aD)) (mC (.int 2)))) (cP (bN (bK (aE (f k "_law_int") (aA (aC aH (aB 2) (mC (.int 0))) aD)))) (bN (bK (aE (f k "_law_int") (aA (aC aH (aB 2) (mC (.int 1))) aD))))))) (aX (mC (.bl b9))) bA)) (aX (mC (.bl c4))))) [b6 a,b6 b,b8] μ):=by kernel_rfl
theorem Ru(k:Nat)(a b c:D)(μ:Hm):f (k+1) "_law_amid" [a,b,c] μ=fin ((aJ (aQ 3 (bI aD)) (aJ (eC (kJ (aA (mC (.int 1)) (aA (aC c9 (mC (.int 4)) (aB 0)) aD))) (dE 4) (aQ 3 (aC bM (aB 3) (eS (kJ (aA (mC (.int 1)) (aA (aC c9 (mC (.int 4)) (aB 1)) aD))) (aP (aC (bZ b9) (aE (f k "_law_kind") (aA (aW (aA (aB 4) (aA (aB 5) aD))) aD)) (aB 2))) (aW (aA (aB 4) (aA (aB 5) aD))))))) (aX (aB 3)))) [b6 a,b6 b,b6 c,b8,b8] μ):=by kernel_rfl
theorem Rv(k:Nat)(a:D)(μ:Hm):f (k+1) "_law_size" [a] μ=fin ((aX (aC aH (bI (aA (mC (.int 1)) (aA (mC (.int 2)) (aA (mC (.int 3)) (aA (aC bM (mC (.int 1)) (aC bB (aC cG (aB 0) (mC (.int 4))) (mC (.int 6)))) aD))))) (aC bB (aB 0) (mC (.int 4))))) [b6 a] μ):=by kernel_rfl
theorem Rw(k:Nat)(a:D)(μ:Hm):f (k+1) "_law_line" [a] μ=fin ((aJ (aQ 1 (aE (f k "_law_kind") (aA (aB 0) aD))) (aX (aW (aA (aB 1) (aA (aC aH (mG [((mC (.str "l")),(aC aH (aB 0) (mC (.int 1)))),((mC (.str "u")),(aC aH (aB 0) (mC (.int 0)))),((mC (.str "f")),(aC l6 (aC aH (aB 0) (mC (.int 0))) (aC aH (aB 0) (mC (.int 1))))),((mC (.str "r")),(aC bM (aC aH (aB 0) (mC (.int 0))) (aC aH (aB 0) (mC (.int 1)))))]) (aB 1)) aD))))) [b6 a,b8] μ):=by kernel_rfl
theorem Ry(k:Nat)(a b c:D)(μ:Hm):f (k+1) "_law_creases" [a,b,c] μ=fin ((aJ (aQ 3 (aE (f k "_law_amid") (aA (aB 0) (aA (aB 1) (aA (mC (.str "lufr")) aD))))) (aJ (aQ 4 iT) (aJ (eC (iB (aA (aE cK (aA (aB 2) aD)) aD)) (dE 5) (aJ (aQ 6 (aC bB (aC bM (aC bM (aC c9 (aC aH (aB 2) (aB 5)) (mC (.int 48271))) (aC c9 (aC c9 (aB 5) (aB 5)) (mC (.int 40693)))) (mC (.int 7919))) (mC (.int 2147483647)))) (aJ (aQ 6 (aC bB (aC c9 (aB 6) (aB 6)) (mC (.int 2147483563)))) (aJ (aQ 7 (aC aH (aB 3) (aC bB (aC cG (aB 6) (mC (.int 9))) (aE cK (aA (aB 3) aD))))) (a6 (aP (aC fE (aC bB (aB 6) (mC (.int 9))) (mC (.int 7)))) (fJ (aB 4) (aB 7) (aC aH (mC (.str "hvo")) (aC bB (aC cG (aB 6) (mC (.int 2003))) (mC (.int 3))))) (aJ (aQ 8 (eS (dM (aB 3)) (aP (aC (a8 b9) (aE (f k "_law_line") (aA (aB 10) aD)) (aE (f k "_law_line") (aA (aB 7) aD)))) (aB 10))) (eC (iB (aA (aE cK (aA (aB 8) aD)) aD)) (dE 9) (fJ (aB 4) (aC aH (aB 8) (aB 9)) (aC aH (mC (.str "hvo")) (aC bB (aC bM (aC cG (aB 6) (mC (.int 2003))) (aC c9 (aB 9) (aC bB (aB 6) (mC (.int 2))))) (mC (.int 3)))))))))))) (aX (aB 4))))) [b6 a,b6 b,b6 c,b8,b8,b8,b8,b8,b8,b8] μ):=by kernel_rfl
theorem Rz(k:Nat)(a b:D)(μ:Hm):f (k+1) "_law_is_sheet" [a,b] μ=fin ((aJ (a6 (cP (bN (bK (aE bX (aA (aB 0) (aA (mC (.ty "tuple")) aD))))) (cP (aP (aC (a8 c4) (aE cK (aA (aB 0) aD)) (mC (.int 3)))) (cP (bN (bK (aE bX (aA (aC aH (aB 0) (mC (.int 2))) (aA (mC (.ty "tuple")) aD))))) (aP (aC (a8 c4) (aB 0) (aB 1)))))) (aX (mC (.bl b9))) bA) (aJ (a6 (cP (bN (bK (aE (f k "_law_int") (aA (aC aH (aB 0) (mC (.int 0))) aD)))) (bN (bK (aE (f k "_law_int") (aA (aC aH (aB 0) (mC (.int 1))) aD))))) (aX (mC (.bl b9))) bA) (aJ (eC (dM (aC aH (aB 0) (mC (.int 2)))) (dE 2) (a6 (cP (bN (bK (aE bX (aA (aB 2) (aA (mC (.ty "tuple")) aD))))) (cP (aP (aC (a8 c4) (aE cK (aA (aB 2) aD)) (mC (.int 2)))) (bN (bK (aE bX (aA (aC aH (aB 2) (mC (.int 1))) (aA (mC (.ty "str")) aD))))))) (aX (mC (.bl b9))) bA)) (aX (aE (f k "_law_are") (aA (eS (dM (aC aH (aB 0) (mC (.int 2)))) fT (aC aH (aB 3) (mC (.int 0)))) (aA (eS (dM (aC aH (aB 1) (mC (.int 2)))) fT (aC aH (aB 3) (mC (.int 0)))) aD))))))) [b6 a,b6 b,b8] μ):=by kernel_rfl
theorem RA(k:Nat)(a b c:D)(μ:Hm):f (k+1) "_law_bad_edge" [a,b,c] μ=fin ((aJ (aQ 3 (aC bB (aC cG (aB 2) (mC (.int 23))) (aC l7 (mC (.int 10)) (mC (.int 20))))) (aJ (aQ 4 (bI (aA (aW (aA (mC (.int 0)) (aA (mC (.int 2)) aD))) (aA (aW (aA (mC (.int 2)) (aA (mC (.int 0)) aD))) (aA (aW (aA (aC c9 (mC (.int 4)) (aB 0)) (aA (mC (.int 2)) aD))) (aA (aW (aA (mC (.int 2)) (aA (aC c9 (mC (.int 4)) (aB 1)) aD))) (aA (aW (aA (mC (.int 2)) (aA (mC (.int 2)) aD))) (aA (aW (aA (mC (.int 0)) (aA (mC (.int 0)) aD))) (aA (aW (aA (mC (.int 4)) (aA (mC (.int 4)) aD))) (aA (aW (aA (mC (.int 2)) (aA (mC (.int 1)) aD))) (aA (aW (aA (mC (.int 1)) (aA (mC (.int 2)) aD))) (aA (aW (aA (mC (.int 0)) (aA (mC (.int 1)) aD))) (aA (aW (aA (mC (.int 1)) (aA (mC (.int 4)) aD))) aD))))))))))))) (aJ (aQ 4 (aC bM (aB 4) (bI (aA (aW (aA (iL (mC (.int 1))) (aA (iL (mC (.int 1))) aD))) (aA (aW (aA (aC bM (aC bM (aC c9 (mC (.int 4)) (aB 0)) (mC (.int 1))) (aC c9 (mC (.int 4)) (aB 3))) (aA (mC (.int 1)) aD))) (aA (aW (aA (mC (.int 1)) (aA (aC bM (aC bM (aC c9 (mC (.int 4)) (aB 1)) (mC (.int 3))) (aC c9 (mC (.int 4)) (aB 3))) aD))) (aA (aW (aA (mC (.int 2)) (aA (iL (mC (.int 4))) aD))) (aA (mC .non) (aA (mC (.str "1,1")) (aA (mC (.int 5)) aD)))))))))) (aX (aC aH (aC bM (aB 4) (bI (aA (bI (aA (mC (.int 1)) (aA (mC (.int 1)) aD))) (aA (aW (aA (mC (.int 1)) aD)) (aA (aW (aA (mC (.int 1)) (aA (mC (.int 1)) (aA (mC (.int 1)) aD)))) (aA (aW (aA (mC (.str "1")) (aA (mC (.int 1)) aD))) (aA iT aD))))))) (aC bB (aB 2) (mC (.int 23)))))))) [b6 a,b6 b,b6 c,b8,b8] μ):=by kernel_rfl
theorem RB(k:Nat)(a:D)(μ:Hm):f (k+1) "_law_bad_mark" [a] μ=fin ((aX (aC aH (bI (aA (mC .non) (aA (mC (.str "")) (aA (mC (.str "x")) (aA (mC (.str "H")) (aA (mC (.str "hv")) (aA (mC (.int 1)) (aA (mC (.bl c4)) (aA (bI (aA (mC (.str "h")) aD)) (aA (aW (aA (mC (.str "h")) aD)) (aA iT (aA (mC (.str " ")) (aA (mC (.str "h ")) (aA (mC (.str "ho")) (aA (mC (.str "V")) (aA (mC (.int 0)) aD)))))))))))))))) (aC bB (aB 0) (mC (.int 15))))) [b6 a] μ):=by kernel_rfl
theorem RC(k:Nat)(a b c d:D)(μ:Hm):f (k+1) "_law_spoiled" [a,b,c,d] μ=fin ((aJ (aQ 4 (aC cG (aB 3) (mC (.int 5)))) (aJ (aQ 5 (aC bB (aB 4) (aC bM (aE cK (aA (aB 2) aD)) (mC (.int 1))))) (aJ (aQ 4 (aC cG (aB 4) (aC bM (aE cK (aA (aB 2) aD)) (mC (.int 1))))) (aJ (a6 (aP (aC (a8 b9) (aC bB (aB 3) (mC (.int 5))) (mC (.int 1)))) (aX (aC bM (aC bM (cU (aB 2) dJ (cZ (aB 5))) (bI (aA (aW (aA (aE (f k "_law_bad_edge") (aA (aB 0) (aA (aB 1) (aA (aB 4) aD)))) (aA (aC aH (bI (aA (mC (.str "h")) (aA (mC (.str "q")) aD))) (aC bB (aC cG (aB 4) (mC (.int 23))) (mC (.int 2)))) aD))) aD))) (cU (aB 2) (cZ (aB 5)) dJ))) bA) (aJ (a6 (aP (aC (a8 b9) (aC bB (aB 3) (mC (.int 5))) (mC (.int 2)))) (aJ (aQ 6 (aE (f k "_law_amid") (aA (aB 0) (aA (aB 1) (aA (mC (.str "lufr")) aD))))) (aX (aC bM (aC bM (cU (aB 2) dJ (cZ (aB 5))) (bI (aA (aW (aA (aC aH (aB 6) (aC bB (aC cG (aB 4) (mC (.int 15))) (aE cK (aA (aB 6) aD)))) (aA (aE (f k "_law_bad_mark") (aA (aB 4) aD)) aD))) aD))) (cU (aB 2) (cZ (aB 5)) dJ)))) bA) (aJ (a6 (gE (aP (aC (a8 b9) (aC bB (aB 3) (mC (.int 5))) (mC (.int 3)))) (aP (aC (a8 c4) (aB 2) (bI aD)))) (aX (aC bM (aC bM (cU (aB 2) dJ (cZ (aB 5))) (bI (aA (aW (aA (aC aH (aC aH (aB 2) (aC bB (aB 4) (aE cK (aA (aB 2) aD)))) (mC (.int 0))) (aA (aC aH (mC (.str "hvo")) (aC bB (aC cG (aB 4) (mC (.int 61))) (mC (.int 3)))) aD))) aD))) (cU (aB 2) (cZ (aB 5)) dJ))) bA) (aX (aB 2)))))))) [b6 a,b6 b,b6 c,b6 d,b8,b8,b8] μ):=by kernel_rfl
theorem A6(k:Nat)(a b c:D)(μ:Hm):f (k+1) "_law_inner" [a,b,c] μ=fin ((aJ (a6 (cP (bN (bK (aE bX (aA (aB 2) (aA (mC (.ty "tuple")) aD))))) (cP (aP (aC (a8 c4) (aE cK (aA (aB 2) aD)) (mC (.int 2)))) (bN (bK (aE tQ (aA (eS (dM (aB 2)) fT (aE (f k "_law_int") (aA (aB 4) aD))) aD)))))) (aX (mC (.bl b9))) bA) (aJ (aQ 3 (dH (aC fE (mC (.int 0)) (aC aH (aB 2) (mC (.int 0)))) (dH (aC fE (aC aH (aB 2) (mC (.int 0))) (aC c9 (mC (.int 4)) (aB 0))) (dH (aC fE (mC (.int 0)) (aC aH (aB 2) (mC (.int 1)))) (aC fE (aC aH (aB 2) (mC (.int 1))) (aC c9 (mC (.int 4)) (aB 1))))))) (aX (dH (aB 3) (aC (bZ b9) (aE (f k "_law_kind") (aA (aB 2) aD)) (mC (.str "lufr"))))))) [b6 a,b6 b,b6 c,b8] μ):=by kernel_rfl
theorem RD(k:Nat)(a b c:D)(μ:Hm):f (k+1) "_law_due" [a,b,c] μ=fin ((aJ (aQ 3 (bI aD)) (aJ (eC (dM (aB 2)) (mE [4,5]) (aJ (a6 (bN (bK (aE (f k "_law_inner") (aA (aB 0) (aA (aB 1) (aA (aB 4) aD)))))) (aX (aW (aA (mC (.str "edge")) (aA (aB 4) aD)))) bA) (aJ (a6 (cP (bN (bK (aE bX (aA (aB 5) (aA (mC (.ty "str")) aD))))) (aP (aC (bZ c4) (aB 5) (bI (aA (mC (.str "h")) (aA (mC (.str "v")) (aA (mC (.str "o")) aD))))))) (aX (aW (aA (mC (.str "mark")) (aA (mC .non) aD)))) bA) (aJ (a6 (aP (aC (bZ b9) (aB 4) (aB 3))) (aX (aW (aA (mC (.str "twice")) (aA (aB 4) aD)))) bA) (fR (nW nY (aB 3) (aA (aB 4) aD))))))) (aX (aW (aA (mC (.str "made")) (aA (mC .non) aD)))))) [b6 a,b6 b,b6 c,b8,b8,b8] μ):=by kernel_rfl
theorem RE(a:D)(μ:Hm):iZ S "_law_classes" [a] μ=fin ((aJ (aQ 1 (bI (aA (dN (sup "NoSize") (aB 0)) (aA (dN (sup "NoEdge") (aB 0)) (aA (dN (sup "NoMark") (aB 0)) (aA (dN (sup "Twice") (aB 0)) aD)))))) (aJ (a6 (aP (dN (vM ["Barred","NoFold","NoName","NoOrder","NoRound","NoRow","NoText","Taken","TooMany"]) (aB 0))) (aX (bI aD)) bA) (aX (eS (iB (aA (mC (.int 4)) aD)) (gE (aP (aC dU (aB 1) (aB 2))) (aP (dN (sup "ValueError") (aB 0)))) (aC dU (bI (aA (mC (.str "size")) (aA (mC (.str "edge")) (aA (mC (.str "mark")) (aA (mC (.str "twice")) aD))))) (aB 2)))))) [b6 a,b8] μ):=by kernel_rfl
theorem Gg(k:Nat)(a b c:D)(μ:Hm):f (k+3) "_law_refused" [a,b,c] μ=fin ((aJ (aQ 3 (bI (aA (mC (.str "made")) aD))) (aJ (aQ 4 (mC .non)) (aJ (kS (fR (aE (f (k+2) "sheet_of") (aA (aB 0) (aA (aB 1) (aA (aB 2) aD))))) (bP (fR (aE (f (k+2) "sheet_of") (aA (aB 0) (aA (aB 1) (aA (aB 2) aD))))) (gN (g (k+2) "sheet_of") (aA (aB 0) (aA (aB 1) (aA (aB 2) aD)))) bF) (sup "CreaseError") 5 (aJ (aQ 3 (aE (iZ S "_law_classes") (aA (aB 5) aD))) (a6 (aP (dN (vM ["NoEdge","Twice"]) (aB 5))) (aQ 4 (eU "edge" (att "edge") (aB 5))) bA))) (aX (aW (aA (aB 3) (aA (aB 4) aD))))))) [b6 a,b6 b,b6 c,b8,b8,b8] μ):=by kernel_rfl
theorem RG(k:Nat)(a:D)(μ:Hm):f (k+3) "law" [a] μ=fin ((aJ (aQ 1 (aE (f (k+2) "_law_size") (aA (aE (f (k+2) "_law_draw") (aA (aB 0) (aA (mC (.int 0)) aD))) aD))) (aJ (aQ 2 (aE (f (k+2) "_law_size") (aA (aE (f (k+2) "_law_draw") (aA (aB 0) (aA (mC (.int 1)) aD))) aD))) (aJ (aQ 3 (aE (f (k+2) "_law_creases") (aA (aB 1) (aA (aB 2) (aA (cU (aB 0) (cZ (mC (.int 9))) dJ) aD))))) (aJ (jT 3 (aQ 4 (eS (jU (aB 3)) fT (aW (aA (aB 13) (aA (aC aH (aB 3) (aB 13)) aD))))) (aQ 4 (eS (dM (aB 3)) fT (aW (aA (aB 13) (aA (aC aH (aB 3) (aB 13)) aD)))))) (aJ (aQ 5 (aE fL (aA (aB 4) aD))) (aJ (eC (kJ (aA (mC (.int 2)) (aA (mC (.int 5)) aD))) (dE 6) (aQ 5 (aE (f (k+2) "_law_spoiled") (aA (aB 1) (aA (aB 2) (aA (aB 5) (aA (aE (f (k+2) "_law_draw") (aA (aB 0) (aA (aB 6) aD))) aD))))))) (aJ (aQ 7 (aE fL (aA (aB 5) aD))) (aJ (aQ 8 (aE (f (k+2) "_law_due") (aA (aB 1) (aA (aB 2) (aA (aB 5) aD))))) (aJ (a6 (cP (aP (aC (a8 c4) (aE (f (k+2) "_law_refused") (aA (aB 1) (aA (aB 2) (aA (aB 7) aD)))) (aW (aA (bI (aA (aC aH (aB 8) (mC (.int 0))) aD)) (aA (aC aH (aB 8) (mC (.int 1))) aD))))) (aP (aC (a8 c4) (aB 7) (aB 5)))) (aX (mC (.bl b9))) bA) (aJ (a6 (cP (aP (aC (a8 c4) (eU "edge" (att "edge") (iO "NoEdge" "edge" (aW (aA (mC (.int 1)) (aA (mC (.int 1)) aD))))) (aW (aA (mC (.int 1)) (aA (mC (.int 1)) aD))))) (cP (aP (aC (a8 c4) (eU "edge" (att "edge") (iO "Twice" "edge" (aW (aA (mC (.int 3)) (aA (mC (.int 1)) aD))))) (aW (aA (mC (.int 3)) (aA (mC (.int 1)) aD))))) (aP (aC (a8 c4) (eU "corner" (att "corner") (iO "Barred" "corner" (aW (aA (mC (.int 2)) (aA (mC (.int 2)) aD))))) (aW (aA (mC (.int 2)) (aA (mC (.int 2)) aD))))))) (aX (mC (.bl b9))) bA) (aJ (aQ 9 (aE (f (k+2) "_law_draw") (aA (aB 0) (aA (mC (.int 5)) aD)))) (aJ (aQ 10 (aC bB (aC cG (aB 9) (mC (.int 110))) (aC l7 (mC (.int 10)) (mC (.int 20))))) (aJ (a6 (aP (aC (a8 b9) (aC bB (aB 9) (mC (.int 5))) (mC (.int 1)))) (aJ (aQ 11 (aC aH (bI (aA (mC (.int 0)) (aA (mC (.int 7)) (aA (aC l6 (iL (mC (.int 1))) (aB 10)) (aA (aC bM (mC (.int 7)) (aB 10)) (aA (mC (.bl c4)) (aA (mC .non) (aA (mC (.str "2")) (aA (bI (aA (mC (.int 3)) aD)) (aA (aW (aA (mC (.int 1)) aD)) (aA iT (aA (mC (.bl b9)) aD)))))))))))) (aC bB (aC cG (aB 9) (mC (.int 5))) (mC (.int 11))))) (aJ (aQ 12 (aC aH (bI (aA (bI (aA (aB 11) (aA (aB 2) aD))) (aA (bI (aA (aB 1) (aA (aB 11) aD))) aD))) (aC bB (aC cG (aB 9) (mC (.int 55))) (mC (.int 2))))) (a6 (aP (aC (a8 c4) (aE (f (k+2) "_law_refused") (aA (aC aH (aB 12) (mC (.int 0))) (aA (aC aH (aB 12) (mC (.int 1))) (aA (aE fL (aA (aB 5) aD)) aD)))) (aW (aA (bI (aA (mC (.str "size")) aD)) (aA (mC .non) aD))))) (aX (mC (.bl b9))) bA))) bA) (aX (aE (f (k+2) "_law_is_sheet") (aA (aE (f (k+2) "sheet_of") (aA (aB 1) (aA (aB 2) (aA (aE fL (aA (aB 4) aD)) aD)))) (aA (aW (aA (aB 1) (aA (aB 2) (aA (aE mV (aA (aE k7 (aA (aB 4) aD)) aD)) aD)))) aD))))))))))))))))) [b6 a,b8,b8,b8,b8,b8,b8,b8,b8,b8,b8,b8,b8] μ):=by kernel_rfl
end Lw
namespace Lw
open PySem L2 L3
theorem rP{z:Int}{μ:Hm}{Q:D×Hm->Prop}:W (c9 (.int 4) (.int z) μ) Q↔Q (.int (4*z),μ):=o7 (.inl ⟨by decide,by decide⟩)
theorem Gh{z:Int}{μ:Hm}{Q:D×Hm->Prop}:W (bB (.int z) (.int 2) μ) Q↔Q (.int (z%2),μ):=cM (by decide)
theorem Gi{z:Int}{μ:Hm}{Q:D×Hm->Prop}:W (bB (.int z) (.int 4) μ) Q↔Q (.int (z%4),μ):=cM (by decide)
theorem RH{z:Int}{μ:Hm}{Q:D×Hm->Prop}:W (bB (.int z) (.int 6) μ) Q↔Q (.int (z%6),μ):=cM (by decide)
theorem RI{z:Int}{μ:Hm}{Q:D×Hm->Prop}:W (cG (.int z) (.int 4) μ) Q↔Q (.int (z/4),μ):=fZ (by decide) (by decide)
theorem RJ:(2:Nat)<=Uo:=by decide
theorem gU{a b:D}:([a,b]:List D).length<=Uo:=RJ
theorem RK{z:Int}{μ:Hm}{Q:D×Hm->Prop}:W (cG (.int z) (.int 9) μ) Q↔Q (.int (z/9),μ):=fZ (by decide) (by decide)
theorem RL{z:Int}{μ:Hm}{Q:D×Hm->Prop}:W (bB (.int z) (.int 9) μ) Q↔Q (.int (z%9),μ):=cM (by decide)
noncomputable def gZ:D->Int
 |.int i=>i|_=>0
theorem vQ{lo:Int}{n:Nat}{d:D}(h:d∈f6 lo n):∃j:Nat,j<n/\d=.int (lo+(j:Int)):=by unfold f6 at h;obtain⟨j,a,rfl⟩:=VM.mp h;exact⟨j,Wr.mp a,rfl⟩
noncomputable def lJ(i j:Int):Str:=
 if j=0 then(if i=0 then "c" else if i=2 then "l" else ".")else if j=1 then(if i=1 then "f" else if i=2 then "q" else if i=3 then "r" else ".")
 else if j=2 then(if i=0 then "u" else if i=2 then "c" else "q")else(if i=1 then "r" else if i=2 then "q" else if i=3 then "f" else ".")
noncomputable def cA(x y:Int):Str:=lJ (x%4) (y%4)
theorem rQ(x:Int):x%4=0\/x%4=1\/x%4=2\/x%4=3:=by omega
noncomputable def vT:List D:=[.str "c.l.",.str ".fqr",.str "uqcq",.str ".rqf"]
theorem RM(i j:Int)(a:i=0\/i=1\/i=2\/i=3)(b:j=0\/j=1\/j=2\/j=3)(μ:Hm):∃r,atI vT j=b6 r/\aH r (.int i) μ=b6 (.str (lJ i j),μ):=by rcases b with rfl|rfl|rfl|rfl<;>rcases a with rfl|rfl|rfl|rfl<;>exact⟨_,rfl,by kernel_rfl⟩
theorem A7(k:Nat)(x y:Int)(μ:Hm)(Q:D×Hm->Prop)(h:∀a,μ<+:a->Q (.str (cA x y),a)):W (f (k+1) "_law_kind" [P x y] μ) Q:=by rw[Rq,W_fin];simp only[w_mRet,w_mOp,aR,aI,aN,w_mCons,gT,d8,eI,cM (show(0:Int)<4 by decide)];refine⟨by decide,?_⟩;obtain⟨r,b,c⟩:=RM (x%4) (y%4) (rQ x) (rQ y) (μ++[.lst vT]);refine(eJ (xs:=vT) (bH μ _) b).mpr ?_;show W (aH r (.int (x%4)) (μ++[.lst vT])) _;rw[c];exact W_some.mpr (h _ (aT _ _))
noncomputable def dP(s t:Str):Bool:=!(VF t s 0 t.length 1).isEmpty
theorem Gj{s t:Str}{μ:Hm}{Q:D×Hm->Prop}:W (bZ b9 (.str s) (.str t) μ) Q↔Q (.bl (dP s t),μ):=W_some
noncomputable def cell(ns:List Int)(i:Int):Int:=ns.getD i.toNat 0
theorem RN(ns:List Int)(i:Nat):eQ (ns.map D.int) (b6 (i:Int)) (b6 ((i:Int)+1))=((ns.drop i).take 1).map D.int:=by
 have c:((i:Int)+1)=((i+1:Nat):Int):=by omega
 unfold eQ;rw[c,HT.sIx_nat,HT.sIx_nat];by_cases h:i<ns.length
 ·have a:min i (ns.map D.int).length=i:=by rw[Uc];omega
  have b:min (i+1) (ns.map D.int).length-i=1:=by rw[Uc];omega
  rw[a,b,a3e,a0I]
 ·have a:min i (ns.map D.int).length=ns.length:=by rw[Uc];omega
  rw[a,Ws (by rw[Uc];omega),Ws (by omega)];simp
theorem RO(ns:List Int)(i:Nat):atI ((.int 0:D)::((ns.drop i).take 1).map D.int) (-1)=b6 (.int (ns.getD i 0)):=by
 by_cases h:i<ns.length
 ·have e:(ns.drop i).take 1=[ns[i]]:=by rw[Wv h];rfl
  rw[e];have:ns.getD i 0=ns[i]:=by simp[Vr,h]
  rw[this];rfl
 ·have e:ns.drop i=[]:=Ws (by omega);rw[e];have:ns.getD i 0=0:=by simp[Vr,VU (YC.mp h)]
  rw[this];rfl
theorem vU(k:Nat)(ns:List Int)(i:Int)(m:0<=i)(μ:Hm)(Q:D×Hm->Prop)(h:∀b,μ<+:b->Q (.int (cell ns i),b)):W (f (k+1) "_law_draw" [.rol (ns.map D.int),.int i] μ) Q:=by
 rw[Ro,W_fin];simp only[w_mRet,w_mOp,aR,aI,aL,aN,w_mCons,gT];refine⟨by decide,?_⟩;refine F6 ?_;simp only[aI];refine⟨_,rfl,?_⟩;simp only[A3,w_mOp,aR,aI,aL,w_addI];obtain⟨n,rfl⟩:∃n:Nat,i=n:=⟨i.toNat,by omega⟩;rw[RN];generalize hl:(ns.drop n).take 1=l;have c:l.length<=1:=by rw[<- hl,UN];omega
 have j:(1:Nat)+(l.map D.int).length<=Uo:=by rw[Uc,Vm];omega
 have d:(μ++[C.lst [D.int 0]]++[C.lst (l.map D.int)])[μ.length]?=b6 (C.lst [D.int 0]):=aU (aT _ _) (bH _ _);have e:(μ++[C.lst [D.int 0]]++[C.lst (l.map D.int)])[(μ++[C.lst [D.int 0]]).length]?=b6 (C.lst (l.map D.int)):=bH _ _;rw[pI d e j];simp only[QY,aR];have a:=RO ns n;rw[hl]at a;refine(eJ (bH _ _) a).mpr ?_;exact h _ ((aT _ _).trans ((aT _ _).trans (aT _ _)))
noncomputable def dZ:D->Int×Int
 |.tup [.int x,.int y]=>(x,y)|_=>(0,0)
theorem RP{d:D}{l:List (Int×Int)}(h:d∈l.map PP):∃x y,d=P x y:=by obtain⟨p,_,rfl⟩:=VM.mp h;exact⟨p.1,p.2,rfl⟩
theorem A8(k:Nat)(i:Int)(μ:Hm)(Q:D×Hm->Prop):W (f (k+1) "_law_int" [.int i] μ) Q↔Q (.bl c4,μ):=by rw[Gf,W_fin];simp only[w_mRet,cN,vB,w_mCall,w_mCons,aN,aI,aR,F2,F3];simp
theorem RQ(k:Nat)(a b:Nat)(ps m:List (Int×Int))(μ:Hm)(Q:D×Hm->Prop)(j:μ[a]?=b6 (.lst (ps.map PP)))(p:μ[b]?=b6 (.lst (m.map PP)))(h:Q (.bl (ps==m),μ)):W (f (k+2) "_law_are" [.loc a,.loc b] μ) Q:=by
 rw[Rt,W_fin];simp only[w_mSeq,w_mIfS,w_mOrT,w_mNotT,w_mTru,w_mCall,w_mCons,aN,aI,aL,aR,w_mTest,w_mOp];refine(Rh j).mpr ?_;simp only[w_truB,U3,Ud,if_false];refine(Q5 j p).mpr ?_;dsimp only;cases e:ps==m with
 |false=>simp only[if_true,Wt,w_mRet,aR];rw[e]at h;exact h|true=>
  simp only[if_true,U3,Ud,if_false,w_mNext];rw[e]at h;simp only[w_mForI,w_iSeq,aI];refine(vF j).mpr ?_;refine AY (λi l c=>c=μ/\∃o,l=[b6 (.loc a),b6 (.loc b),o]) ⟨rfl,b8,rfl⟩ (λi l c n=>by rw[n.1];exact j) ?_ ?_
  ·rintro i d l c hd ⟨rfl,o,rfl⟩;obtain⟨u,v,rfl⟩:=RP (UL hd);refine⟨_,rfl,?_⟩;simp only[Um,Us,w_mIfS,w_mOrT,w_mNotT,w_mTru,w_mCall,w_mCons,aN,aI,aL,aR,w_mTest,w_mOp,jX,w_truB,F4,o8,d8,eI,A8,w_mNext,U3,Ud,if_false];exact⟨trivial,_,rfl⟩
  ·rintro l c ⟨rfl,o,rfl⟩;simp only[w_mRet,aR];exact h
theorem Gk{M:Int->Int->Prop}(h:∀i j:Int,(i=0\/i=1\/i=2\/i=3)->(j=0\/j=1\/j=2\/j=3)->M i j)(x y:Int):M (x%4) (y%4):=h _ _ (rQ x) (rQ y)
theorem Gm(x:Int):x%2=x%4%2:=by omega
theorem kE(x y:Int):dP (cA x y) "lufr"=(if x%2=1 then y%2==1 else(y%2==0&&!(x%4==y%4))):=by unfold cA;rw[Gm x,Gm y];refine Gk (M:=λi j=>dP (lJ i j) "lufr"=(if i%2=1 then j%2==1 else(j%2==0&&!(i==j)))) (λi j a b=>?_) x y;rcases a with rfl|rfl|rfl|rfl<;>rcases b with rfl|rfl|rfl|rfl<;>decide +kernel
theorem Gn(k:Nat)(x y:Int)(μ:Hm)(Q:D×Hm->Prop):W (f (k+1) "is_edge" [P x y] μ) Q↔Q (.bl (dP (cA x y) "lufr"),μ):=by
 rw[Rk,W_fin,kE];simp only[w_mSeq,w_mRet,w_mNext,w_mIfS,w_mTest,cN,w_mOp,aR,aI,d8,eI,w_eqI,o8,Gh,Gi];by_cases h:x%2=1
 ·simp[h]
 ·by_cases g:y%2=0
  ·simp[h,g]
  ·have e:(y%2==0)=false:=by simpa using g
   simp only[e,Yv];simp[h]
noncomputable def i7(h:Int)(x:Int):List (Int×Int):=(Vv (4*h-1).toNat).map λ(j:Nat)=>(x,1+(j:Int))
noncomputable def gX(h:Int)(n:Nat):List (Int×Int):=(Vv n).flatMap λ(i:Nat)=>i7 h (1+(i:Int))
noncomputable def lK(w h:Int):List (Int×Int):=gX h (4*w-1).toNat
noncomputable def bR(w h:Int)(s:Str):List (Int×Int):=(lK w h).filter λp=>dP (cA p.1 p.2) s
theorem Gp(h:Int)(n:Nat):gX h (n+1)=gX h n++i7 h (1+(n:Int)):=by unfold gX;rw[List.range_succ,List.flatMap_append];simp
theorem Gq(h x:Int):(i7 h x).length=(4*h-1).toNat:=by unfold i7;simp
theorem A9(h:Int):∀n:Nat,(gX h n).length=n*(4*h-1).toNat
 |0=>by simp[gX]
 |n+1=>by rw[Gp,Uj,A9 h n,Gq,a3E]
theorem Gr{h:Int}(b:h<=6){n:Nat}(a:n<=23):n*(4*h-1).toNat<=529:=by have:n*(4*h-1).toNat<=23*23:=Nat.mul_le_mul a (by omega);omega
theorem Gs{w h:Int}(hw:w<=6)(a:h<=6):(lK w h).length<=529:=by unfold lK;rw[A9];exact Gr a (by omega)
theorem RR(h:Int)(p:Int×Int->Bool)(n:Nat):(gX h (n+1)).filter p=(gX h n).filter p++(i7 h (1+(n:Int))).filter p:=by rw[Gp,ZD]
theorem RS(h x:Int)(s:Str):((f6 1 (4*h-1).toNat).filter λd=>dP (cA x (gZ d)) s).map (λd=>P x (gZ d))=((i7 h x).filter λp=>dP (cA p.1 p.2) s).map PP:=by unfold f6 i7;rw[a2O,a2O,Vo,Vo];rfl
theorem Gu(k:Nat)(w h:Int)(s:Str)(hw:1<=w/\w<=6)(A:1<=h/\h<=6)(μ:Hm)(Q:D×Hm->Prop)(H:∀a b,μ<+:b->b[a]?=b6 (.lst ((bR w h s).map PP))->μ.length<=a->Q (.loc a,b)):W (f (k+2) "_law_amid" [.int w,.int h,.str s] μ) Q:=by
 rw[Ru,W_fin];simp only[w_mSeq,w_mSet,gT,aN];refine⟨WA _,?_⟩;simp only[Um,Us,w_mForI,AX,w_mCons,aN,aR,w_mOp,aI,aL,rP];refine⟨by omega,?_⟩;refine vD (lo:=1) (λi u b=>μ<+:b/\∃a o,μ.length<=a/\b[a]?=b6 (.lst (((gX h i).filter λp=>dP (cA p.1 p.2) s).map PP))/\u=[b6 (.int w),b6 (.int h),b6 (.str s),b6 (.loc a),o]) ⟨aT _ _,μ.length,b8,Up _,bH _ _,rfl⟩ ?_ ?_
 ·rintro i u q G ⟨e,a,o,v,n,rfl⟩;refine⟨_,rfl,?_⟩;simp only[Um,Us,w_mSet,w_mOp,aI,aL];refine o9 (xs:=f6 1 (4*h-1).toNat) (p:=λd=>dP (cA (1+(i:Int)) (gZ d)) s) (v:=λd=>P (1+(i:Int)) (gZ d)) ?_;simp only[AX,w_mCons,aN,aR,w_mOp,aI,aL,rP];refine⟨by omega,F0,by simp[f6],by rw[Vm];simp[f6];omega,?_,?_,?_⟩
  ·intro d b hd e;obtain⟨j,B,rfl⟩:=vQ hd;simp only[Vs,VZ,w_mTest,w_mOp,w_mCall,w_mTup,w_mCons,aN,aI,aL,gU,true_and];refine A7 _ _ _ _ _ λr E=>?_;refine(Gj).mpr ?_;exact⟨rfl,E⟩
  ·intro d b hd _ e;obtain⟨j,B,rfl⟩:=vQ hd;simp only[Vs,VZ,w_mTup,w_mCons,aN,aI,aL,gU,true_and];exact⟨rfl,UP _⟩
  ·intro r c l;rw[RS]at l;have m:(((gX h i).filter λp=>dP (cA p.1 p.2) s).map PP).length+(((i7 h (1+(i:Int))).filter λp=>dP (cA p.1 p.2) s).map PP).length<=Uo:=by have x:=Gr (h:=h) A.2 (n:=i+1) (by omega);have y:=WT (λp=>dP (cA p.1 p.2) s) (gX h i);have z:=WT (λp=>dP (cA p.1 p.2) s) (i7 h (1+(i:Int)));rw[A9]at y;rw[Gq]at z;rw[a3E]at x;rw[Uc,Uc,Vm];omega
   refine(pI (aU c n) l m).mpr ?_;refine⟨(e.trans c).trans (aT _ _),_,_,VD (AV e) (AV c),?_,rfl⟩;rw[bH,RR,WX]
 ·rintro u q ⟨e,a,o,v,n,rfl⟩;simp only[w_mRet,aI,aL];exact H _ _ e n v
noncomputable def vV(p:Int×Int):Bool:=if p.1%2=1 then p.2%2==1 else(p.2%2==0&&!(p.1%4==p.2%4))
theorem RT(w h:Int):bR w h "lufr"=(lK w h).filter vV:=by unfold bR vV;refine List.filter_congr λp _=>?_;rw[kE]
noncomputable def cQ(p:Int×Int):List Int:=[p.1,p.2]
theorem RU{a:Type}(l:List a)(d:a):(Vv l.length).map (λi=>l.getD i d)=l:=by refine List.ext_getElem (by simp) λi c b=>?_;simp[Vr,b]
theorem jY(q:Int×Int):dS (PP q)=b6 (cQ q):=rfl
theorem RV{l:List (List Int×D)}(a:(l.map (·.1)).Nodup){k:List Int}{d:D}(h:(k,d)∈l):bY l k=b6 d:=by
 induction l with
 |nil=>cases h|cons p l b=>
  rw[Uv,Vy]at a;unfold bY;rw[VA];rcases UX.mp h with h|h
  ·rw[<- h];simp
  ·have:decide (p.1=k)=false:=decide_eq_false λz=>a.1 (VM.mpr ⟨_,h,z.symm⟩);rw[this];exact b a.2 h
theorem vW{p q:Int×Int}(h:cQ p=cQ q):p=q:=by unfold cQ at h;injection h with h1 h2;injection h2 with h2;exact Prod.ext h1 h2
theorem pJ{μ:Hm}{a:Nat}{c b:C}(h:μ[a]?=b6 c):(μ.set a b)[a]?=b6 b:=by rw[Vc (T8.mp h).1]
theorem RW{μ:Hm}{a:Nat}{c:C}(h:μ[a]?=b6 c):μ.set a c=μ:=by obtain⟨b,rfl⟩:=T8.mp h;exact List.set_getElem_self b
noncomputable abbrev Zr:=List ((Int×Int)×List (Int×Int)×Nat)
noncomputable def Gv(Z:Zr):List (List Int×D):=Z.map λz=>(cQ z.1,D.loc z.2.2)
structure GI(μ0 μ:Hm)(a:Nat)(Z:Zr):Prop where
 pre:μ0<+:μ
 lo:μ0.length<=a
 dic:μ[a]?=b6 (.dT (Gv Z))
 kd:(Z.map (·.1)).Nodup
 bd:(Z.map (·.2.2)).Nodup
 at_:∀z∈Z,μ0.length<=z.2.2/\μ[z.2.2]?=b6 (.lst (z.2.1.map PP))
theorem t9:∀a b c:List Int,HT.lexLt a b=c4->HT.lexLt b c=c4->HT.lexLt a c=c4
 |[],[],_,h,_=>by cases h
 |[],_::_,[],_,h=>by cases h
 |[],_::_,_::_,_,_=>rfl|_::_,[],_,h,_=>by cases h
 |_::_,_::_,[],_,h=>by cases h
 |x::xs,y::ys,z::zs,e,d=>by
  rw[HT.lexLt_cons]at e d ⊢;by_cases j:x=y
  ·subst j;rw[if_pos rfl]at e;by_cases i:x=z
   ·rw[if_pos i]at d ⊢;exact t9 xs ys zs e d
   ·rw[if_neg i]at d ⊢;exact d
  ·rw[if_neg j]at e;have e:=of_decide_eq_true e;by_cases i:y=z
   ·subst i;rw[if_neg j];exact decide_eq_true e
   ·rw[if_neg i]at d;have d:=of_decide_eq_true d;rw[if_neg (by omega)];exact decide_eq_true (by omega)
theorem t8:∀k:List Int,HT.lexLt k k=b9
 |[]=>rfl|a::k=>by rw[HT.lexLt_cons,if_pos rfl];exact t8 k
noncomputable def Dc(μ:Hm)(a:Nat)(kvs:List (List Int×D)):Prop:=μ[a]?=b6 (.dT kvs)\/μ[a]?=b6 (.dF kvs)
theorem RX{μ:Hm}{a:Nat}{kvs:List (List Int×D)}{y d:D}{k:List Int}{Q:D×Hm->Prop}(h:Dc μ a kvs)(b:dS y=b6 k)(c:bY kvs k=b6 d):W (aH (.loc a) y μ) Q↔Q (d,μ):=by
 have:aH (.loc a) y μ=b6 (d,μ):=by rcases h with h|h<;>simp only[aH,h,b,UG,c,UQ]
 rw[this];exact W_some
theorem RY{i:Nat}{c d:MS}{b:aF}{μ:Hm}{a:Nat}{kvs:List (List Int×D)}{Q:Fl×aF×Hm->Prop}(h:b[i]?=b6 (b6 (.loc a)))(hc:μ[a]?=b6 (.dT kvs))
  (H:W (c b (μ.set a (.dF kvs))) λr=>r.2.2[a]?=b6 (.dF kvs)/\Q (r.1,r.2.1,r.2.2.set a (.dT kvs))):W (jT i c d b μ) Q:=by
 have e:oO i b μ=b6 (a,kvs):=by simp only[oO,h,hc]
 unfold jT;rw[e];rw[W_bind];refine bQ H λr q=>?_;rw[q.1];exact W_some.mpr q.2
structure HI(μ:Hm)(a:Nat)(Z:Zr):Prop where
 dic:Dc μ a (Gv Z)
 kd:(Z.map (·.1)).Nodup
 at_:∀z∈Z,μ[z.2.2]?=b6 (.lst (z.2.1.map PP))
theorem RZ{μ b:Hm}{a:Nat}{kvs:List (List Int×D)}(hc:μ[a]?=b6 (.dT kvs))(h:μ.set a (.dF kvs)<+:b):μ<+:b.set a (.dT kvs):=by obtain⟨t,rfl⟩:=h;have c:a<μ.length:=(T8.mp hc).1;rw[List.set_append_left _ _ (by rw[Vz];exact c),List.set_set,RW hc];exact List.prefix_append _ _
theorem R0{a:Type}{l:List a}{n:Nat}{x:a}(h:l[n]?=b6 x):l.take (n+1)=l.take n++[x]:=by rw[a2f,h];rfl
theorem R6{c:Type}{l:List c}(m:l.Nodup){n:Nat}{x:c}(h:l[n]?=b6 x):x∉l.take n:=λi=>by
 obtain⟨j,a⟩:=Xe.mp i;have b:j<n:=by have:=(T8.mp a).1;rw[UN]at this;omega
 rw[VE b]at a;have o:n<l.length:=(T8.mp h).1;have d:=(T8.mp a).2;have e:=(T8.mp h).2;exact absurd ((a2v m).mp (d.trans e.symm)) (by omega)
noncomputable abbrev bS(v:Int×Int->D)(ps:List (Int×Int)):List (List Int×D):=ps.map λp=>(cQ p,v p)
theorem Gw{v:Int×Int->D}{ps:List (Int×Int)}(d:ps.Nodup){p:Int×Int}(h:p∈ps):bY (bS v ps) (cQ p)=b6 (v p):=by refine RV ?_ (VM.mpr ⟨p,h,rfl⟩);rw[Vo];exact a0r _ (λa b c x=>c (vW x)) d
theorem pK{v:Int×Int->D}{ps:List (Int×Int)}{p:Int×Int}(h:p∉ps):bY (bS v ps) (cQ p)=none:=by
 unfold bY;rw[List.find?_eq_none.mpr]
 ·rfl
 ·intro x a;obtain⟨z,b,rfl⟩:=VM.mp a;rw[decide_eq_true_iff];exact λe=>h (vW e▸b)
theorem R8{v:Int×Int->D}{ps:List (Int×Int)}{p:Int×Int}(h:p∉ps):jM (bS v ps) (cQ p) (v p)=bS v (ps++[p]):=by unfold jM;rw[pK h,if_neg (by simp)];show _=List.map _ _;rw[WX];rfl
noncomputable def jZ(ps:List (Int×Int)):List (Int×Int):=(cI (λi j=>HT.lexLt ((ps.map cQ).getD i []) ((ps.map cQ).getD j [])) ps.length).map λi=>ps.getD i (0,0)
theorem Sa(ps:List (Int×Int)):(jZ ps).Perm ps:=by have p:=(gM (λi j=>HT.lexLt ((ps.map cQ).getD i []) ((ps.map cQ).getD j [])) ps.length).map λi=>ps.getD i (0,0);rw[RU]at p;exact p
theorem Sb(v:Int×Int->D)(ps:List (Int×Int)):uH (bS v ps)=bS v (jZ ps):=by
 unfold uH jZ bS;have b:(ps.map λp=>(cQ p,v p)).map (·.1)=ps.map cQ:=by rw[Vo];rfl
 rw[b,Uc,Vo];refine V7 λi a=>?_;have a:i<ps.length:=Wr.mp ((gM _ _).mem_iff.mp a);simp[Vr,a]
noncomputable def bV(m:Int×Int->Str)(p:Int×Int):D:=.str (m p)
noncomputable def i8(s:Str):Prop:=s="o"\/s="v"\/s="h"
noncomputable abbrev MD(p:(Int×Int)×Str):D:=.tup [PP p.1,.str p.2]
noncomputable abbrev SH(w h:Int)(a:List ((Int×Int)×Str)):D:=.tup [.int w,.int h,.tup (a.map MD)]
noncomputable def cW(m:Int×Int->Str)(ps:List (Int×Int)):List ((Int×Int)×Str):=ps.map λp=>(p,m p)
theorem Gx{l:List ((Int×Int)×Str)}{i:Nat}{d:D}(h:(l.map MD)[i]?=b6 d):∃p,l[i]?=b6 p/\d=MD p:=by rw[UU]at h;obtain⟨p,a,b⟩:=T7.mp h;exact⟨p,a,b.symm⟩
theorem Gy(m:Int×Int->Str)(ps:List (Int×Int))(p:Int×Int)(c:Str):jM (bS (bV m) ps) (cQ p) (.str c)=bS (bV λq=>if q=p then c else m q) (if p∈ps then ps else ps++[p]):=by
 unfold jM;by_cases h:p∈ps
 ·have e:(bY (bS (bV m) ps) (cQ p)).isSome=true:=by unfold bY;rw[YB,List.find?_isSome];exact⟨_,VM.mpr ⟨p,h,rfl⟩,by simp⟩
  rw[if_pos e,if_pos h];unfold bS;rw[Vo];refine V7 λq _=>?_;show(if cQ q=cQ p then(cQ q,D.str c)else(cQ q,bV m q))=(cQ q,bV _ q);unfold bV;dsimp only;by_cases e:q=p
  ·rw[if_pos (by rw[e]),if_pos e]
  ·rw[if_neg (λz=>e (vW z)),if_neg e]
 ·rw[pK h,if_neg (by simp),if_neg h];unfold bS;rw[WX];congr 1
  ·refine V7 λq a=>?_;unfold bV;dsimp only;rw[if_neg (λz:q=p=>h (z▸a))]
  ·show[_]=[(cQ p,bV _ p)];unfold bV;dsimp only;rw[if_pos rfl]
theorem Gz{c:Type} [DecidableEq c]:∀{l t:List c},l.Nodup->(∀x∈l,x∈t)->l.length<=t.length
 |[],_,_,_=>WA _|x::l,t,nd,h=>by rw[Vy]at nd;have a:=h x (UZ ..);have:=Gz (l:=l) (t:=t.erase x) nd.2 λy b=>(List.mem_erase_of_ne (λe:y=x=>nd.1 (e▸b))).mpr (h y (UO _ b));rw[List.length_erase_of_mem a]at this;have:0<t.length:=List.length_pos_of_mem a;rw[UA];omega
structure Mk(w h:Int)(ps:List (Int×Int))(m:Int×Int->Str):Prop where
 nd:ps.Nodup
 ed:∀p∈ps,p∈bR w h "lufr"
 ok:∀p,i8 (m p)
theorem Mk.len{w h:Int}{ps:List (Int×Int)}{m:Int×Int->Str}(M:Mk w h ps m)(hw:w<=6)(a:h<=6):ps.length<=529:=
 VD (Gz M.nd M.ed) (VD (WT _ _) (Gs hw a))
theorem Mk.put{w h:Int}{ps:List (Int×Int)}{m:Int×Int->Str}(M:Mk w h ps m){p:Int×Int}(l:p∈bR w h "lufr") {c:Str}(hc:i8 c):Mk w h (if p∈ps then ps else ps++[p]) λq=>if q=p then c else m q:=by
 refine⟨?_,λq d=>?_,λq=>?_⟩
 ·split
  ·exact M.nd
  ·rename_i h;refine a2g.mpr ⟨M.nd,by simp,λa j b i e=>?_⟩;rw[U6]at i;exact h (by rw[<- i,<- e];exact j)
 ·split at d
  ·exact M.ed q d
  ·rcases Vk.mp d with d|d
   ·exact M.ed q d
   ·rw[U6.mp d];exact l
 ·split
  ·exact hc
  ·exact M.ok q
theorem vX(m:Int×Int->Str)(ps:List (Int×Int)):(cW m ps).map MD=ps.map λp=>D.tup [PP p,bV m p]:=by unfold cW;rw[Vo];rfl
theorem Se{n i:Nat}(h:i<n):lV n (i:Int)=b6 i:=by unfold lV;rw[if_pos (by omega),if_pos (by omega)];rfl
theorem m3{a:Type}{xs:List a}{i:Int}{x:a}(c:0<=i)(h:xs[i.toNat]?=b6 x):atI xs i=b6 x:=by
 have b:i.toNat<xs.length:=(T8.mp h).1;unfold atI;have e:i=((i.toNat:Nat):Int):=by omega
 rw[e,Se b];exact h
noncomputable def lO(c:Int):Int:=if c%4=0 then 1 else if c%4=1 then 2 else if c%4=2 then 3 else 1+c/4%6
theorem GA(c:Int):1<=lO c/\lO c<=6:=by
 unfold lO
 repeat' split
 all_goals omega
theorem GB(k:Nat)(c:Int)(μ:Hm)(Q:D×Hm->Prop)(H:∀a,μ<+:a->Q (.int (lO c),a)):W (f (k+1) "_law_size" [.int c] μ) Q:=by
 rw[Rv,W_fin];simp only[w_mRet,w_mOp,gT,w_mCons,aN,aR,aI,RI,RH,Gi,w_addI];refine⟨by show(4:Nat)<=Uo;decide,?_⟩;have e:atI [D.int 1,D.int 2,D.int 3,D.int (1+c/4%6)] (c%4)=b6 (.int (lO c)):=by unfold lO;have:=rQ c;rcases this with h|h|h|h<;>rw[h]<;>rfl
 refine(eJ (bH _ _) e).mpr ?_;exact H _ (aT _ _)
theorem Sf(a b c d:D):qG [] [(.inr "l",a),(.inr "u",b),(.inr "f",c),(.inr "r",d)]=[(.inr "l",a),(.inr "u",b),(.inr "f",c),(.inr "r",d)]:=by kernel_rfl
noncomputable abbrev Ba(x y:Int):List (aK×D):=[(.inr "l",D.int y),(.inr "u",D.int x),(.inr "f",D.int (x-y)),(.inr "r",D.int (x+y))]
noncomputable def iE(x y:Int):Int:=match fU (Ba x y) (.inr (cA x y))with|some (.int i)=>i|_=>0
theorem Sg{x y:Int}:dP (cA x y) "lufr"=c4->cA x y="l"\/cA x y="u"\/cA x y="f"\/cA x y="r":=by unfold cA;refine Gk (M:=λi j=>dP (lJ i j) "lufr"=c4->lJ i j="l"\/lJ i j="u"\/lJ i j="f"\/lJ i j="r") (λi j a b=>?_) x y;rcases a with rfl|rfl|rfl|rfl<;>rcases b with rfl|rfl|rfl|rfl<;>decide +kernel
theorem Sh{x y:Int}(h:dP (cA x y) "lufr"=c4):fU (Ba x y) (.inr (cA x y))=b6 (.int (iE x y)):=by unfold iE;rcases Sg h with h|h|h|h<;>rw[h]<;>kernel_rfl
theorem GC(k:Nat)(p:Int×Int)(b:dP (cA p.1 p.2) "lufr"=c4) (μ:Hm)(Q:D×Hm->Prop)(H:∀a,μ<+:a->Q (.tup [.str (cA p.1 p.2),.int (iE p.1 p.2)],a)):W (f (k+2) "_law_line" [PP p] μ) Q:=by rw[Rw,W_fin,w_mSeq];simp only[w_mSet,w_mCall,w_mCons,aN,aI,PP];refine A7 k p.1 p.2 _ _ λd c=>?_;simp only[Um,Us,w_mRet,w_mTup,w_mCons,aN,w_mOp,aI,aL];refine Q9 ?_;simp only[Q7,Q6,aR,aI,aL,w_mOp,d8,eI,QZ,w_addI,Q8];refine⟨bH _ _,by show(4:Nat)<=15;decide,?_⟩;rw[Sf];refine(Ra (kvs:=Ba p.1 p.2) (by simp) rfl (Sh b)).mpr ⟨gU,?_⟩;exact H _ (c.trans (rJ (aT _ _) (Up _) _))
theorem Si{a b:Str}{i j:Int}{μ:Hm}{Q:D×Hm->Prop}:W (a8 b9 (.tup [.str a,.int i]) (.tup [.str b,.int j]) μ) Q↔Q (.bl ((a==b)&&((i==j)&&c4)),μ):=W_some
theorem Sj{w h:Int}{p:Int×Int}(a:p∈lK w h):(0<p.1/\p.1<4*w)/\0<p.2/\p.2<4*h:=by unfold lK gX i7 at a;obtain⟨i,b,a⟩:=List.mem_flatMap.mp a;obtain⟨j,c,rfl⟩:=VM.mp a;have b:=Wr.mp b;have c:=Wr.mp c;dsimp only;omega
theorem vY{w h:Int}{s:Str}{p:Int×Int}(a:p∈bR w h s):((0<p.1/\p.1<4*w)/\0<p.2/\p.2<4*h)/\dP (cA p.1 p.2) s=true:=
 ⟨Sj (Yh.mp a).1,(Yh.mp a).2⟩
theorem vZ(k:Nat)(i:Int)(μ:Hm)(Q:D×Hm->Prop):W (f (k+1) "is_whole" [.int i] μ) Q↔Q (.bl c4,μ):=by rw[vO,W_fin];simp only[w_mRet,cN,vB,w_mCall,w_mCons,aN,aI,aR,F2,F3];simp
theorem rR(k:Nat){i:Int}(h:1<=i/\i<=6)(μ:Hm)(Q:D×Hm->Prop)(H:Q (.bl c4,μ)):W (f (k+2) "is_size" [.int i] μ) Q:=by rw[vP,W_fin];simp only[w_mRet,cN,w_mCall,w_mCons,aN,aI,vZ,if_true,vG,aR,AW,decide_eq_true h.1,decide_eq_true h.2];exact H
theorem GD(k:Nat){w h:Int}(hw:1<=w/\w<=6)(a:1<=h/\h<=6)(μ:Hm)(Q:D×Hm->Prop)(H:Q (.non,μ)):W (f (k+3) "check_size" [.int w,.int h] μ) Q:=by rw[Rl,W_fin];simp only[w_mIfS,w_mNotT,w_mAndT,w_mTru,w_mCall,w_mCons,aN,aI,aL];refine rR k hw _ _ ?_;simp only[w_truB,if_true];refine rR k a _ _ ?_;simp only[w_truB,U3,Ud,if_false,w_mNext];exact H
theorem Bb(k:Nat){s:Str}(h:i8 s)(μ:Hm)(Q:D×Hm->Prop)(H:Q (.bl c4,μ)):W (f (k+1) "is_mark" [.str s] μ) Q:=by
 rw[Gb,W_fin];simp only[w_mRet,cN,w_mCall,w_mCons,aN,aI,aR,rL,if_true,w_mOp];have e:bZ b9 (.str s) vL μ=b6 (.bl c4,μ):=by rcases h with rfl|rfl|rfl<;>rfl
 rw[e,W_some];exact H
theorem rS(k:Nat){w h:Int}{e:Int×Int}(d:e∈bR w h "lufr") (μ:Hm)(Q:D×Hm->Prop)(H:Q (.bl c4,μ)):W (f (k+3) "is_inner_edge" [.int w,.int h,PP e] μ) Q:=by obtain⟨⟨a,b⟩,c⟩:=vY d;rw[rO,W_fin];simp only[w_mRet,cN,w_mCall,w_mCons,aN,aI,aL];rw[rN,W_fin];simp only[w_mRet,cN,w_mCall,w_mCons,aN,aI,aL,aR,w_mOp,jX,if_true];rw[show cK [PP e] μ=b6 (.int 2,μ)from rfl,W_some];simp only[w_eqI,beq_self_eq_true,if_true,PP,P,d8,eI,vZ];rw[Gd,W_fin];simp only[w_mRet,cN,vG,aI,aL,aR,w_mOp,d8,eI,rP,vC,decide_eq_true a.1,decide_eq_true a.2,decide_eq_true b.1,decide_eq_true b.2,if_true];refine(Gn (k+1) e.1 e.2 _ _).mpr ?_;rw[c];exact H
theorem GF(k:Nat){w h:Int}(hw:1<=w/\w<=6)(u:1<=h/\h<=6){ps:List (Int×Int)}{m:Int×Int->Str}(M:Mk w h ps m)
  {μ:Hm}{a:Nat}(s:μ[a]?=b6 (.lst ((cW m ps).map MD)))(Q:D×Hm->Prop)(H:∀b,μ<+:b->Q (SH w h (cW m (jZ ps)),b)):W (f (k+4) "sheet_of" [.int w,.int h,.loc a] μ) Q:=by
 have lp:=M.len hw.2 u.2;rw[Rm,W_fin,w_mSeq];simp only[w_mDrop,w_mCall,w_mCons,aN,aI,aL];refine GD k hw u _ _ ?_;rw[w_mSeq];simp only[w_mSet,vJ,Um,Us];rw[w_mSeq];simp only[w_mForI,w_iSeq,aI,aL];refine(vF (aU (aT _ _) s)).mpr ?_;refine AY (λi j b=>∃x y,j=[b6 (.int w),b6 (.int h),b6 (.loc a),b6 (.loc μ.length),x,y]/\μ<+:b/\b[μ.length]?=b6 (.dT (bS (bV m) (ps.take i))))
  ⟨b8,b8,rfl,aT _ _,by rw[Yt];exact bH _ _⟩ (λ_ _ _ ⟨_,_,_,p,_⟩=>aU p s) ?_ ?_
 ·rintro i d j b hd ⟨x,y,rfl,r,l⟩;obtain⟨c,hc,rfl⟩:=Gx hd;unfold cW at hc;rw[UU]at hc;obtain⟨p,o,rfl⟩:=T7.mp hc;refine⟨_,rfl,?_⟩;have q:p∈ps:=UL o;simp only[Um,Us];rw[w_mSeq];simp only[w_mSet,w_mOp,aI,aL,aR,MD,d8,Um,Us];rw[w_mSeq];simp only[w_mIfS,w_mNotT,w_mTru,w_mCall,w_mCons,aN,aI,aL];refine rS k (M.ed p q) _ _ ?_;simp only[w_truB,U3,Ud,if_false,w_mNext];rw[w_mSeq];simp only[w_mIfS,w_mNotT,w_mTru,w_mCall,w_mCons,aN,w_mOp,aI,aL,aR,eI];refine Bb (k+2) (M.ok p) _ _ ?_;simp only[w_truB,U3,Ud,if_false,w_mNext];rw[w_mSeq];have n:p∉ps.take i:=R6 M.nd o;simp only[w_mIfS,w_mTest,w_mOp,aI,aL];refine(rM l (jY p)).mpr ?_;rw[pK n];simp only[XC,Ud,if_false,w_mNext,vH,w_mOp,aI,aL,aR,eI];have v:(bS (bV m) (ps.take i)).length<Uo:=by rw[Uc,UN,Vm];omega
  refine(A4 l (jY p) v).mpr ⟨_,_,rfl,rJ r (Up _) _,?_⟩;rw[pJ l,show D.str (m p)=bV m p from rfl,R8 n,R0 o]
 ·rintro j b ⟨x,y,rfl,r,l⟩;rw[Uc,cW,Uc,List.take_length]at l;simp only[w_mRet,w_mTup,w_mCons,aN,aI,aL];have e:uJ (.loc μ.length) b=b6 (.tup ((cW m (jZ ps)).map MD),b):=by simp only[uJ,l];rw[if_pos trivial,Sb,vX];unfold bS;rw[Vo];rfl
  unfold oP;simp only[W_bind,aI,aL];rw[e,W_some];exact⟨by show(3:Nat)<=Uo;decide,H _ r⟩
theorem Sk(v:Int×Int->D)(ps:List (Int×Int)):kZ (bS v ps)=ps.map PP:=by unfold kZ bS;rw[Vo];rfl
theorem GG(m:Int×Int->Str):∀ps:List (Int×Int),k4 ((cW m ps).map MD)=b6 (ps.map cQ)
 |[]=>rfl|p::ps=>by show(dS (PP p)).bind (λk=>(k4 ((cW m ps).map MD)).map (k::·))=_;rw[GG m ps];rfl
theorem Sm{μ:Hm}{a:Nat}{m:Int×Int->Str}{ps:List (Int×Int)}{Q:D×Hm->Prop}(h:μ[a]?=b6 (.lst ((cW m ps).map MD)))(l:ps.Nodup):W (k7 [.loc a] μ) Q↔Q (.loc μ.length,μ++[.lst ((cW m (jZ ps)).map MD)]):=by
 have e:k7 [.loc a] μ=b6 (.loc μ.length,μ++[.lst ((cW m (jZ ps)).map MD)]):=by
  have n:(ps.map cQ).Nodup:=a0r _ (λa b c x=>c (vW x)) l;simp only[k7,t6,h,UG,GG];rw[if_pos n,Uc];have j:(cI (mO (ps.map cQ)) ps.length).map (λi=>((cW m ps).map MD).getD i .non)=(cW m (jZ ps)).map MD:=by rw[vX];unfold jZ;rw[vX,Vo];refine V7 λi d=>?_;have d:i<ps.length:=Wr.mp ((gM _ _).mem_iff.mp d);simp[Vr,d]
  rw[j]
 rw[e];exact W_some
theorem GH{z:Int}{μ:Hm}{Q:D×Hm->Prop}:W (bB (.int z) (.int 3) μ) Q↔Q (.int (z%3),μ):=cM (by decide)
theorem Bc{i:Int}(h:0<=i/\i<3):∃s,i8 s/\∀μ,aH (.str "hvo") (.int i) μ=b6 (.str s,μ):=by
 have:i=0\/i=1\/i=2:=by omega
 rcases this with rfl|rfl|rfl
 ·exact⟨"h",.inr (.inr rfl),λμ=>rfl⟩
 ·exact⟨"v",.inr (.inl rfl),λμ=>rfl⟩
 ·exact⟨"o",.inl rfl,λμ=>rfl⟩
theorem Sn:∀w∈[(1:Int),2,3,4,5,6],∀h∈[(1:Int),2,3,4,5,6],((lK w h).filter vV).isEmpty=false:=by decide +kernel
theorem GJ{w:Int}(h:1<=w/\w<=6):w∈[(1:Int),2,3,4,5,6]:=by
 have:w=1\/w=2\/w=3\/w=4\/w=5\/w=6:=by omega
 rcases this with rfl|rfl|rfl|rfl|rfl|rfl<;>decide
theorem GK{w h:Int}(hw:1<=w/\w<=6)(a:1<=h/\h<=6):0<(bR w h "lufr").length:=by
 have:=Sn w (GJ hw) h (GJ a);rw[RT];cases e:(lK w h).filter vV with
 |nil=>rw[e]at this;cases this|cons _ _=>exact a2M _
theorem GL{w h:Int}(hw:w<=6)(a:h<=6)(s:Str):(bR w h s).length<=529:=VD (WT _ _) (Gs hw a)
theorem GN{w h:Int}(hw:w<=6)(e:h<=6){ps:List (Int×Int)}{m:Int×Int->Str}(M:Mk w h ps m){μ:Hm}{a:Nat}(d:μ[a]?=b6 (.dT (bS (bV m) ps))){p:Int×Int}(i:p∈bR w h "lufr") {s:Str}(j:i8 s)(Q:Hm->Prop)
  (H:∀b c,Mk w h b c->Q (μ.set a (.dT (bS (bV c) b)))):W (qP (.loc a) (PP p) (.str s) μ) Q:=by
 have lp:=M.len hw e;refine(A4 d (jY p) (by rw[Uc,Vm];omega)).mpr ?_;rw[Gy];exact H _ _ (M.put i j)
noncomputable abbrev So(k:Nat):MS:=a6 (aP (aC fE (aC bB (aB 6) (mC (.int 9))) (mC (.int 7)))) (fJ (aB 4) (aB 7) (aC aH (mC (.str "hvo")) (aC bB (aC cG (aB 6) (mC (.int 2003))) (mC (.int 3))))) (aJ (aQ 8 (eS (dM (aB 3)) (aP (aC (a8 b9) (aE (f k "_law_line") (aA (aB 10) aD)) (aE (f k "_law_line") (aA (aB 7) aD)))) (aB 10))) (eC (iB (aA (aE cK (aA (aB 8) aD)) aD)) (dE 9) (fJ (aB 4) (aC aH (aB 8) (aB 9)) (aC aH (mC (.str "hvo")) (aC bB (aC bM (aC cG (aB 6) (mC (.int 2003))) (aC c9 (aB 9) (aC bB (aB 6) (mC (.int 2))))) (mC (.int 3)))))))
theorem Sq(k:Nat){w h:Int}(hw:1<=w/\w<=6)(O:1<=h/\h<=6){x0 x1 x2 x5 x8 x9:Option D}{ps:List (Int×Int)}{m:Int×Int->Str}(M:Mk w h ps m){μ:Hm}{a b:Nat}(hb:μ[b]?=b6 (.lst ((bR w h "lufr").map PP))) (L:μ[a]?=b6 (.dT (bS (bV m) ps)))(n:Int)(hn:0<=n/\n<2147483647){e:Int×Int}(he:e∈bR w h "lufr") (Q:Fl×aF×Hm->Prop)
  (H:∀o u y8 G p,Mk w h o u->(∀l,l<=a->μ.take l<+:p)->μ.length<=p.length->(∀c,c<μ.length->c≠a->p[c]?=μ[c]?)->p[a]?=b6 (.dT (bS (bV u) o))->Q (.nx,[x0,x1,x2,b6 (.loc b),b6 (.loc a),x5,b6 (.int n),b6 (PP e),y8,G],p)) :
  W (So (k+2) [x0,x1,x2,b6 (.loc b),b6 (.loc a),x5,b6 (.int n),b6 (PP e),x8,x9] μ) Q:=by
 have hal:a<μ.length:=(T8.mp L).1;simp only[w_mIfS,w_mTest,w_mOp,aI,aL,aR,RL,vC];cases decide (n%9<7)with
 |true=>simp only[if_true,vH,w_mOp,aI,aL,aR];rw[fZ (by decide) (by decide),GH];obtain⟨s,ok,R⟩:=Bc (i:=n/2003%3) (by omega);rw[R,W_some];refine GN hw.2 O.2 M L he ok _ λo u M'=>H o u _ _ _ M' (λl U=>?_) (by simp) (λc _ hc=>by rw[Vd (Vf hc)]) (pJ L);rw[<- a1C (a:=C.dT (bS (bV u) o)) U];exact a2s _ _|false=>
  simp only[Ud,if_false];rw[w_mSeq,w_mSet];have hE:=(vY he).2;refine o9 (xs:=(bR w h "lufr").map PP) (p:=λd=>(cA (dZ d).1 (dZ d).2==cA e.1 e.2)&&((iE (dZ d).1 (dZ d).2==iE e.1 e.2)&&c4)) (v:=λd=>d) ?_;simp only[w_iSeq,aI,aL];refine(vF hb).mpr ⟨Q3 hb,rfl,?_,λd p hd A=>?_,λd p hd _ A=>?_,λp A N=>?_⟩
  ·have:=GL (w:=w) (h:=h) hw.2 O.2 "lufr";rw[Uc,Vm];omega
  ·obtain⟨q,B,rfl⟩:=VM.mp hd;simp only[Vs,VZ,w_mTest,w_mOp,w_mCall,w_mCons,aN,aI,aL];refine GC k q (vY B).2 _ _ λμ2 p2=>?_;refine GC k e hE _ _ λμ3 p3=>?_;rw[Si];exact⟨rfl,p2.trans p3⟩
  ·simp only[Vs,VZ,aI,aL];exact⟨trivial,UP _⟩
  ·simp only[Um,Us];have x:∀d∈(((bR w h "lufr").map PP).filter λd=>(cA (dZ d).1 (dZ d).2==cA e.1 e.2)&&((iE (dZ d).1 (dZ d).2==iE e.1 e.2)&&c4)).map (λd=>d),∃q∈bR w h "lufr",d=PP q:=λd hd=>by rw[List.map_id']at hd;obtain⟨q,B,rfl⟩:=VM.mp (Yh.mp hd).1;exact⟨q,B,rfl⟩
   have z:((((bR w h "lufr").map PP).filter λd=>(cA (dZ d).1 (dZ d).2==cA e.1 e.2)&&((iE (dZ d).1 (dZ d).2==iE e.1 e.2)&&c4)).map (λd=>d)).length<=529:=by rw[Uc];refine VD (WT _ _) ?_;rw[Uc];exact GL hw.2 O.2 _
   generalize(((bR w h "lufr").map PP).filter λd=>(cA (dZ d).1 (dZ d).2==cA e.1 e.2)&&((iE (dZ d).1 (dZ d).2==iE e.1 e.2)&&c4)).map (λd=>d)=row at N x z;have X:=(T8.mp N).1;simp only[w_mForI,FY (j:=0),w_mCons,aN,w_mCall,aI,aL];refine(mZ N).mpr ⟨by omega,?_⟩;rw[W0];refine vD (lo:=0) (λi y r=>∃G o u,y=[x0,x1,x2,b6 (.loc b),b6 (.loc a),x5,b6 (.int n),b6 (PP e),b6 (.loc μ.length),G]/\Mk w h o u/\(∀l,l<=a->μ.take l<+:r)/\μ.length<r.length/\(∀c,c<r.length->c≠a->r[c]?=p[c]?)/\r[a]?=b6 (.dT (bS (bV u) o)))
    ⟨x9,ps,m,rfl,M,λl _=>(a2s _ _).trans A,X,λ_ _ _=>rfl,aU A L⟩ ?_ ?_
   ·rintro i y r hi ⟨G,o,u,rfl,M1,t1,Y,I,K⟩;refine⟨_,rfl,?_⟩;simp only[Um,Us,vH,w_mOp,aI,aL,aR,Gh];rw[fZ (by decide) (by decide)];rw[o7 (.inr (by omega)),w_addI,GH];obtain⟨s,ok,R⟩:=Bc (i:=(n/2003+(0+(i:Int))*(n%2))%3) ⟨V2 _ (by decide),V0 _ (by decide)⟩;rw[R,W_some];have E:row[i]?=b6 row[i]:=T9 hi;obtain⟨q,B,eq⟩:=x _ (WM hi);rw[eq]at E;have gr:r[μ.length]?=b6 (.lst row):=by rw[I _ Y (by omega)];exact N
    refine(eJ gr (m3 (by omega) (by rw[show(0+(i:Int)).toNat=i by omega];exact E))).mpr ?_;refine GN hw.2 O.2 M1 K B ok _ λZ m2 M2=>?_;refine⟨_,Z,m2,rfl,M2,λl U=>?_,by simpa using Y,λc hc v=>?_,pJ K⟩
    ·obtain⟨t,ht⟩:=t1 l U;rw[<- ht];refine(List.prefix_iff_getElem?).mpr λj T=>?_;have hjl:j<l:=by rw[UN]at T;omega
     rw[Vd (by omega),Ul T,T9 T]
    ·rw[Vz]at hc;rw[Vd (Vf v)];exact I c hc v
   ·rintro y r ⟨G,o,u,rfl,M1,t1,Y,I,K⟩;refine H o u _ _ r M1 t1 (by omega) (λc hc v=>?_) K;rw[I c (by omega) v];obtain⟨t,rfl⟩:=A;exact Ul hc
theorem Ss(k:Nat){w h:Int}(hw:1<=w/\w<=6)(A:1<=h/\h<=6){ns:List Int}(hl:ns.length<=63){μ:Hm}{c:Nat}(hc:μ[c]?=b6 (.lst (ns.map D.int)))(Q:D×Hm->Prop)
  (H:∀a o m d,μ<+:d->μ.length<=a->Mk w h o m->d[a]?=b6 (.dT (bS (bV m) o))->Q (.loc a,d)):W (f (k+3) "_law_creases" [.int w,.int h,.loc c] μ) Q:=by
 rw[Ry,W_fin,w_mSeq];simp only[w_mSet,w_mCall,w_mCons,aN,aI,aL,aR];refine Gu k w h "lufr" hw A _ _ λb l u R lb=>?_;simp only[Um,Us];rw[w_mSeq];simp only[w_mSet,vJ,Um,Us];rw[w_mSeq];have hcl:c<μ.length:=(T8.mp hc).1;have hbl:b<l.length:=(T8.mp R).1;have q1:=AV u;have y:=aU (u.trans (aT l (C.dT []))) hc;have hE:=GK hw A;simp only[w_mForI,FY (j:=0),w_mCons,aN,w_mCall,aI,aL];refine(mZ y).mpr ?_;rw[Uc];refine⟨by omega,?_⟩;rw[W0];refine vD (lo:=0) (λi q d=>∃G I K L N o m,q=[b6 (.int w),b6 (.int h),b6 (.loc c),b6 (.loc b),b6 (.loc l.length),G,I,K,L,N]/\Mk w h o m/\l<+:d/\d[l.length]?=b6 (.dT (bS (bV m) o)))
  ⟨_,_,_,_,_,[],λ_=>"h",rfl,⟨a0p,(λ_ z=>nomatch z),λ_=>.inr (.inr rfl)⟩,aT _ _,bH _ _⟩ ?_ ?_
 ·rintro i q d hi ⟨G,I,K,L,N,o,m,rfl,M,s,x⟩;refine⟨_,rfl,?_⟩;simp only[Um,Us];rw[w_mSeq];simp only[w_mSet,w_mOp,aI,aL,aR];have r:ns[i]?=b6 ns[i]:=T9 hi;generalize ns[i]=v at r;refine(eJ (aU (u.trans s) hc) (d:=.int v) (m3 (by omega) (by rw[show(0+(i:Int)).toNat=i by omega,UU,r];rfl))).mpr ?_;rw[o7 (.inr (by decide)),o7 (.inl (by omega)),o7 (.inr (by decide)),w_addI,w_addI,cM (by decide)];have X:=V2 (v*48271+(0+(i:Int))*(0+(i:Int))*40693+7919) (show(2147483647:Int)≠0 by decide);have Y:=V0 (v*48271+(0+(i:Int))*(0+(i:Int))*40693+7919) (show(0:Int)<2147483647 by decide);generalize(v*48271+(0+(i:Int))*(0+(i:Int))*40693+7919)%2147483647=n0 at X Y;simp only[Um,Us];rw[w_mSeq];simp only[w_mSet,w_mOp,aI,aL,aR];rw[o7 (.inl (by omega)),cM (by decide)];have O:=V2 (n0*n0) (show(2147483563:Int)≠0 by decide);have Z:=V0 (n0*n0) (show(0:Int)<2147483563 by decide);generalize n0*n0%2147483563=n at O Z;simp only[Um,Us];rw[w_mSeq];simp only[w_mSet,w_mOp,aI,aL,aR,RK,w_mCall,w_mCons,aN];have p:=aU s R;refine(mZ p).mpr ?_;rw[Uc,cM (by omega)];have U:=V2 (n/9) (show((bR w h "lufr").length:Int)≠0 by omega);have j1:=V0 (n/9) (show(0:Int)<((bR w h "lufr").length:Int) by omega);generalize n/9%((bR w h "lufr").length:Int)=j at U j1;have B:(bR w h "lufr")[j.toNat]?=b6 (bR w h "lufr")[j.toNat]:=T9 (by omega);have T:=UL B;generalize(bR w h "lufr")[j.toNat]=e at B T;refine(eJ p (d:=PP e) (m3 U (by rw[UU,B];rfl))).mpr ?_;simp only[Um,Us];refine Sq k hw A M p x n ⟨O,by omega⟩ T _ λE m' y8 y9 μ2 M2 t2 l2 c2 g3=>?_;refine⟨_,_,_,_,_,E,m',rfl,M2,?_,g3⟩;have:=t2 l.length (Up _);rwa [<- List.prefix_iff_eq_take.mp s]at this
 ·rintro q d ⟨G,I,K,L,N,o,m,rfl,M,s,x⟩;simp only[w_mRet,aI,aL];exact H _ o m _ (u.trans s) q1 M x
theorem Su(μ:Hm)(n:Nat)(p:(Int×Int)×Str):cV (n+3) μ (MD p) (MD p)=b6 true:=by obtain⟨⟨x,y⟩,s⟩:=p;have e:cV (n+3) μ (MD ((x,y),s)) (MD ((x,y),s))=b6 ((x==x&&(y==y&&c4))&&((s==s)&&c4)):=rfl;rw[e];simp
theorem GO(μ:Hm)(n:Nat):∀T:List ((Int×Int)×Str),eB (cJ (n+3) μ) (T.map MD) (T.map MD)=b6 c4
 |[]=>rfl|p::T=>by show(cV (n+3) μ (MD p) (MD p)).bind (λb=>(eB (cJ (n+3) μ) (T.map MD) (T.map MD)).map λc=>b&&c)=_;rw[Su,GO μ n T];rfl
theorem Sv{μ:Hm}{w h:Int}{T:List ((Int×Int)×Str)}{Q:D×Hm->Prop}:W (a8 c4 (SH w h T) (SH w h T) μ) Q↔Q (.bl b9,μ):=by
 have e:cV 8 μ (SH w h T) (SH w h T)=b6 true:=by show(b6 (w==w)).bind (λb=>((b6 (h==h)).bind λa=>((eB (cJ 6 μ) (T.map MD) (T.map MD)).bind λd=>(b6 c4).map λc=>d&&c).map λc=>a&&c).map λc=>b&&c)=_;rw[GO μ 3 T];simp
 unfold a8;rw[e];exact W_some
theorem Sw{a b c:D}{μ:Hm}{Q:D×Hm->Prop}:W (cK [.tup [a,b,c]] μ) Q↔Q (.int 3,μ):=W_some
theorem v7{a b c:D}{μ:Hm}{Q:D×Hm->Prop}:W (aH (.tup [a,b,c]) (.int 2) μ) Q↔Q (c,μ):=W_some
theorem Sx{a b c:D}{μ:Hm}{Q:D×Hm->Prop}:W (aH (.tup [a,b,c]) (.int 0) μ) Q↔Q (a,μ):=W_some
theorem Sy{a b c:D}{μ:Hm}{Q:D×Hm->Prop}:W (aH (.tup [a,b,c]) (.int 1) μ) Q↔Q (b,μ):=W_some
theorem GP{c:ME}{h x1 i:Option D}{T:List ((Int×Int)×Str)}{μ:Hm}(m:T.length<=600)(j:∀Q:D×Hm->Prop,W (c [h,x1,i] μ) Q↔Q (.tup (T.map MD),μ))(Q:D×Hm->Prop)(H:∀b,μ<+:b->b[μ.length]?=b6 (.lst ((T.map (·.1)).map PP))->Q (.loc μ.length,b)) :
  W (eS (dM c) fT (aC aH (aB 3) (mC (.int 0))) [h,x1,i] μ) Q:=by
 refine o9 (xs:=T.map MD) (p:=λ_=>c4) (v:=λd=>match d with|.tup [a,_]=>a|_=>.non) ?_;simp only[w_iSeq,j];rw[A2];refine⟨A0,rfl,by rw[Uc,Vm];omega,λd b _ _=>w_mTrue.mpr ⟨rfl,UP _⟩,λd b hd _ e=>?_,λb e l=>?_⟩
 ·obtain⟨p,_,rfl⟩:=VM.mp hd;simp only[Vs,VZ,w_mOp,aI,aL,aR,MD,d8];exact⟨trivial,UP _⟩
 ·refine H b e ?_;rw[l,a1F.mpr (λ_ _=>rfl),Vo,Vo];rfl
theorem Sz(k:Nat){w h:Int}{T:List ((Int×Int)×Str)}(c:T.length<=600)(μ:Hm)(Q:D×Hm->Prop)(H:∀a,μ<+:a->Q (.bl c4,a)):W (f (k+3) "_law_is_sheet" [SH w h T,SH w h T] μ) Q:=by
 rw[Rz,W_fin,w_mSeq];simp only[w_mIfS,w_mOrT,w_mNotT,w_mTru,w_mTest,w_mCall,w_mCons,aN,aI,aL,aR,w_mOp,jX,w_truB,U3,Ud,if_false,Sw,o8,beq_self_eq_true,v7];rw[Sv];simp only[Ud,if_false,w_mNext];rw[w_mSeq];simp only[w_mIfS,w_mOrT,w_mNotT,w_mTru,w_mCall,w_mCons,aN,aI,aL,aR,w_mOp,Sx,Sy,A8,w_truB,U3,Ud,if_false,w_mNext];rw[w_mSeq];simp only[w_mForI,w_iSeq,w_mOp,aI,aL,aR,v7];rw[A2];refine Q2 (xs:=T.map MD) (λ_=>rfl) (λi b a=>μ=a/\∃o,b=[b6 (SH w h T),b6 (SH w h T),o]) ⟨rfl,b8,rfl⟩ ?_ ?_
 ·rintro i d b a hd ⟨rfl,o,rfl⟩;obtain⟨p,_,rfl⟩:=Gx hd;refine⟨_,rfl,?_⟩;simp only[Um,Us,w_mIfS,w_mOrT,w_mNotT,w_mTru,w_mCall,w_mCons,aN,aI,aL,aR,w_mTest,w_mOp,jX,w_truB,F4,o8,MD,eI,rL,w_mNext,U3,Ud,if_false];exact⟨trivial,_,rfl⟩
 ·rintro b a ⟨rfl,o,rfl⟩;simp only[w_mRet,w_mCall,w_mCons,aN];refine GP c (λQ=>by simp only[w_mOp,aI,aR,v7]) _ λn m j=>?_;refine GP c (λQ=>by simp only[w_mOp,aI,aL,aR,v7]) _ λq e l=>?_;refine RQ k _ _ _ _ _ _ (aU e j) l ?_;rw[beq_self_eq_true];exact H _ (m.trans e)
theorem SA(m:Int×Int->Str)(ps:List (Int×Int)):(cW m ps).length=ps.length:=Uc ..
section
variable{α:Type}{i:Nat}{m:ME}{ms:MA}{g:MF}{t:MT}{A B C:MS}{ρ:aF}{μ μ':Hm}{ds:List D}{Q:D×Hm->Prop}{R:Fl×aF×Hm->Prop}
theorem aV{o:Option α}{r:α}{Q:α->Prop}(h:o=b6 r)(q:Q r):W o Q:=⟨r,h,q⟩
theorem rV{o:Option (D×Hm)}{a:Option (Fl×aF×Hm)}(e:o=fin a)(h:W a λp=>match p.1 with|.rt d=>Q (d,p.2.2)|.nx=>Q (.non,p.2.2)|_=>False):W o Q:=e▸W_fin.mpr h
theorem d4(h:W (m ρ μ) λp=>W (C (ρ.set i (b6 p.1)) p.2) R):W (aJ (aQ i m) C ρ μ) R:=w_mSeq.mpr (w_mSet.mpr h)
theorem Bd(h:W (A ρ μ) λp=>p.1=.nx/\W (C p.2.1 p.2.2) R):W (aJ A C ρ μ) R:=w_mSeq.mpr (bQ h λp q=>by rw[q.1];exact q.2)
theorem rW(h:W (m ρ μ) λp=>R (.rt p.1,ρ,p.2)):W (aX m ρ μ) R:=w_mRet.mpr h
theorem dQ(h:ms ρ μ=b6 (ds,μ'))(k:W (g ds μ') Q):W (aE g ms ρ μ) Q:=w_mCall.mpr ⟨_,h,k⟩
theorem rX(h:W (ms ρ μ) λp=>W (g p.1 p.2) Q):W (aE g ms ρ μ) Q:=w_mCall.mpr h
theorem dD{Q:List D×Hm->Prop}(h:W (m ρ μ) λp=>W (ms ρ p.2) λq=>Q (p.1::q.1,q.2)):W (aA m ms ρ μ) Q:=w_mCons.mpr h
theorem GQ(h:W (m ρ μ) λp=>W (g [p.1] p.2) Q):W (aE g (aA m aD) ρ μ) Q:=w_mCall.mpr (w_mCons.mpr (bQ h λ_ q=>⟨_,rfl,q⟩))
theorem m4(h:W (t ρ μ) λp=>p.1=c4/\W (aJ A C ρ p.2) R):W (aJ (a6 t A B) C ρ μ) R:=w_mSeq.mpr (w_mIfS.mpr (bQ h λp q=>by rw[if_pos q.1];exact w_mSeq.mp q.2))
theorem iF(h:W (t ρ μ) λp=>p.1=b9/\W (aJ B C ρ p.2) R):W (aJ (a6 t A B) C ρ μ) R:=w_mSeq.mpr (w_mIfS.mpr (bQ h λp q=>by rw[if_neg (by rw[q.1];exact Vl)];exact w_mSeq.mp q.2))
theorem Be(h:W (aJ A (aJ B C) ρ μ) R):W (aJ (aJ A B) C ρ μ) R:=w_mSeq.mpr (w_mSeq.mpr (bQ (w_mSeq.mp h) λp q=>by
 obtain⟨x,y⟩:=p;cases x with
 |nx=>exact w_mSeq.mp q
 |_=>exact q))
theorem Bf{T:Bool×Hm->Prop}(h:W (t ρ μ) λp=>T (!p.1,p.2)):W (bN t ρ μ) T:=w_mNotT.mpr h
theorem Bg{T:Bool×Hm->Prop}{b:Bool}(h:W (m ρ μ) λp=>p.1=.bl b/\T (b,p.2)):W (bK m ρ μ) T:=w_mTru.mpr (bQ h λp ⟨e,q⟩=>by rw[e];exact w_truB.mpr q)
theorem pL(h:W (m ρ μ) λp=>R (.rt p.1,ρ,p.2)):W (aJ (aX m) C ρ μ) R:=w_mSeq.mpr (w_mRet.mpr h)
theorem iG(h:W (C ρ μ) R):W (aJ bA C ρ μ) R:=w_mSeq.mpr (w_mNext.mpr h)
theorem e8{T:Bool×Hm->Prop}(h:W (m ρ μ) λp=>∃b,p.1=.bl b/\T (b,p.2)):W (aP m ρ μ) T:=w_mTest.mpr (bQ h λp ⟨b,e,q⟩=>by rw[e];exact q)
theorem Bh{s t:MT}{T:Bool×Hm->Prop}(h:W (s ρ μ) λp=>p.1=b9/\W (t ρ p.2) T):W (cP s t ρ μ) T:=w_mOrT.mpr (bQ h λp q=>by rw[if_neg (by rw[q.1];exact Vl)];exact q.2)
theorem cX{h:D->D->Hm->Option (D×Hm)}{a b:ME}{c d:Hm}{x y:D}(h1:a ρ μ=b6 (x,c))(e:b ρ c=b6 (y,d))(k:W (h x y d) Q):W (aC h a b ρ μ) Q:=w_mOp.mpr ⟨_,h1,_,e,k⟩
theorem cB{h:D->D->Hm->Option (D×Hm)}{a b:ME}(k:W (a ρ μ) λp=>W (b ρ p.2) λq=>W (h p.1 q.1 q.2) Q):W (aC h a b ρ μ) Q:=w_mOp.mpr k
end
noncomputable def fA(w h:Int)(p:Int×Int):Bool:=((decide (0<p.1)&&decide (p.1<4*w))&&(decide (0<p.2)&&decide (p.2<4*h)))&&dP (cA p.1 p.2) "lufr"
theorem SD{w h:Int}{p:Int×Int}(i:p∈bR w h "lufr"):fA w h p=true:=by obtain⟨⟨⟨a,b⟩,c,d⟩,e⟩:=vY i;unfold fA;rw[decide_eq_true a,decide_eq_true b,decide_eq_true c,decide_eq_true d,e];rfl
theorem SE(k:Nat)(w h:Int)(p:Int×Int)(μ:Hm)(Q:D×Hm->Prop)(H:Q (.bl (fA w h p),μ)):W (f (k+3) "is_inner_edge" [.int w,.int h,PP p] μ) Q:=by rw[rO,W_fin];simp only[w_mRet,cN,w_mCall,w_mCons,aN,aI,aL];rw[rN,W_fin];simp only[w_mRet,cN,w_mCall,w_mCons,aN,aI,aL,aR,w_mOp,jX,if_true];rw[show cK [PP p] μ=b6 (.int 2,μ)from rfl,W_some];simp only[w_eqI,beq_self_eq_true,if_true,PP,P,d8,eI,vZ];rw[Gd,W_fin];simp only[w_mRet,cN,vG,aI,aL,aR,w_mOp,d8,eI,rP,vC];unfold fA at H;cases a:decide (0<p.1)<;>cases b:decide (p.1<4*w)<;>cases c:decide (0<p.2)<;>cases d:decide (p.2<4*h)<;>simp only[a,b,c,d,a3f,Yv,a0u,Zz,a0J,Ud,if_false,if_true]at H ⊢<;>first|exact H|exact(Gn (k+1) p.1 p.2 _ _).mpr H
noncomputable def SG:D->D
 |.int _=>.bl c4|_=>.bl b9
theorem SJ(k:Nat)(s:Str)(μ:Hm)(Q:D×Hm->Prop):W (f (k+1) "_law_int" [.str s] μ) Q↔Q (.bl b9,μ):=by rw[Gf,W_fin];simp only[w_mRet,cN,vB,w_mCall,w_mCons,aN,aI,aR];rw[show bX [.str s,.ty "bool"] μ=b6 (.bl b9,μ)from rfl,W_some];simp only[Wt,if_true];rw[show bX [.str s,.ty "int"] μ=b6 (.bl b9,μ)from rfl,W_some]
theorem Bi(k:Nat)(w h:Int)(a b:D)(l:(∃i,a=.int i)\/∃s,a=.str s)(r:∃i,b=.int i)(μ:Hm)(Q:D×Hm->Prop)(H:∀c,μ<+:c->Q (.bl (match a,b with|.int x,.int y=>fA w h (x,y)|_,_=>b9),c)):W (f (k+2) "_law_inner" [.int w,.int h,.tup [a,b]] μ) Q:=by
 obtain⟨y,rfl⟩:=r;rw[A6,W_fin,w_mSeq];simp only[w_mIfS,w_mOrT,w_mNotT,w_mTru,w_mTest,w_mCall,w_mCons,aN,aI,aL,aR,w_mOp,jX,w_truB,U3,Ud,if_false];rw[show cK [D.tup [a,.int y]] μ=b6 (.int 2,μ)from rfl,W_some];simp only[o8,beq_self_eq_true,U3,Ud,if_false];refine o9 (xs:=[a,.int y]) (p:=λ_=>c4) (v:=SG) ?_;simp only[w_iSeq,aI,aL];rw[A2];refine⟨A0,rfl,by show(2:Nat)<=Uo;decide,λd c _ _=>w_mTrue.mpr ⟨rfl,UP _⟩,λd c hd _ e=>?_,λc e m=>?_⟩
 ·simp only[Vs,VZ,w_mCall,w_mCons,aN,aI,aL];have j:(∃i,d=.int i)\/∃s,d=.str s:=by
   rcases UX.mp hd with rfl|hd
   ·exact l
   ·exact .inl ⟨y,U6.mp hd⟩
  rcases j with⟨i,rfl⟩|⟨s,rfl⟩
  ·exact(A8 _ _ _ _).mpr ⟨rfl,UP _⟩
  ·exact(SJ _ _ _ _).mpr ⟨rfl,UP _⟩
 ·rcases l with⟨x,rfl⟩|⟨s,rfl⟩
  ·refine(F8 (bs:=[c4,c4]) m).mpr ?_;simp only[Va,a3w,id,a0J,w_truB,U3,Ud,if_false,w_mNext];rw[w_mSeq];simp only[w_mSet,cN,aI,aL,aR,w_mOp,d8,eI,rP,vC];simp only[fA]at H;cases n:decide (0<x)<;>cases o:decide (x<4*w)<;>cases p:decide (0<y)<;>cases q:decide (y<4*h)<;>simp only[n,o,p,q,a3f,Yv,a0u,Zz,a0J,Ud,if_false,if_true,w_mRet,cN,aI,aL,w_mOp,w_mCall,w_mCons,aN,aR,Um,Us]at H ⊢<;>first|exact H _ e|(refine A7 k x y _ _ λv u=>?_;rw[Gj];exact H _ (e.trans u))
  ·refine(F8 (bs:=[b9,c4]) m).mpr ?_;simp only[Va,a3w,id,Yv,w_truB,Wt,if_true,w_mRet,aR];exact H c e
inductive It where
 |be (e m:D)
 |bm (p:Int×Int)(m:D)
 |ok (p:Int×Int)(s:Str)
noncomputable def bG:It->D
 |.be e m=>.tup [e,m]|.bm p m=>.tup [PP p,m]|.ok p s=>.tup [PP p,.str s]
structure BadE(w h:Int)(e:D)(μ:Hm):Prop where
 c:(∀μ',μ<+:μ'->bX [e,.ty "tuple"] μ'=b6 (.bl b9,μ'))\/(∃ds,e=.tup ds/\ds.length≠2)\/e=.tup [.str "1",.int 1]\/∃p,e=PP p/\fA w h p=b9
 sf:∀n μ',cJ (n+3) μ' e e=b6 c4
structure BadK(m:D)(μ:Hm):Prop where
 c:(∀μ',μ<+:μ'->bX [m,.ty "str"] μ'=b6 (.bl b9,μ'))\/∃s,m=.str s/\s ≠ "h"/\s ≠ "v"/\s ≠ "o"
 sf:∀n μ',cJ (n+3) μ' m m=b6 c4
noncomputable def ItOk(w h:Int)(μ:Hm):It->Prop
 |.be e m=>BadE w h e μ/\∀n a,cJ (n+3) a m m=b6 c4|.bm p m=>p∈bR w h "lufr"/\BadK m μ|.ok p s=>p∈bR w h "lufr"/\i8 s
theorem BadE.mono{w h:Int}{e:D}{μ a:Hm}(B:BadE w h e μ)(p:μ<+:a):BadE w h e a:=⟨B.c.imp (λz b c=>z b (p.trans c)) id,B.sf⟩
theorem BadK.mono{m:D}{μ a:Hm}(B:BadK m μ)(p:μ<+:a):BadK m a:=⟨B.c.imp (λz b c=>z b (p.trans c)) id,B.sf⟩
theorem ItOk.mono{w h:Int}{μ a:Hm}{x:It}(I:ItOk w h μ x)(p:μ<+:a):ItOk w h a x:=by
 cases x with
 |be e m=>exact⟨I.1.mono p,I.2⟩|bm q m=>exact⟨I.1,I.2.mono p⟩|ok q s=>exact I
theorem SK(k:Nat){w h:Int}{e:D}{μ:Hm}(B:BadE w h e μ)(Q:D×Hm->Prop)(H:Q (.bl b9,μ)):W (f (k+3) "is_inner_edge" [.int w,.int h,e] μ) Q:=by
 rcases B.c with hc|⟨ds,rfl,b⟩|rfl|⟨p,rfl,a⟩
 ·rw[rO,W_fin];simp only[w_mRet,cN,w_mCall,w_mCons,aN,aI,aL];rw[rN,W_fin];simp only[w_mRet,cN,w_mCall,w_mCons,aN,aI,aL,aR];rw[hc μ (UP _),W_some];simp only[Ud,if_false];exact H
 ·rw[rO,W_fin];simp only[w_mRet,cN,w_mCall,w_mCons,aN,aI,aL];rw[rN,W_fin];simp only[w_mRet,cN,w_mCall,w_mCons,aN,aI,aL,aR,w_mOp,jX,if_true];rw[show cK [D.tup ds] μ=b6 (.int ds.length,μ)from rfl,W_some];simp only[w_eqI];rw[show((ds.length:Int)==2)=b9 from beq_eq_false_iff_ne.mpr (by omega)];simp only[Ud,if_false];exact H
 ·rw[rO,W_fin];simp only[w_mRet,cN,w_mCall,w_mCons,aN,aI,aL];rw[rN,W_fin];simp only[w_mRet,cN,w_mCall,w_mCons,aN,aI,aL,aR,w_mOp,jX,if_true];rw[show cK [D.tup [.str "1",.int 1]] μ=b6 (.int 2,μ)from rfl,W_some];simp only[w_eqI,beq_self_eq_true,if_true,d8];rw[vO,W_fin];simp only[w_mRet,cN,w_mCall,w_mCons,aN,aI,aR];rw[show bX [.str "1",.ty "int"] μ=b6 (.bl b9,μ)from rfl,W_some];simp only[Ud,if_false];exact H
 ·refine SE k w h p μ Q ?_;rw[a];exact H
theorem SM(k:Nat){w h:Int}{e:D}{μ:Hm}(B:BadE w h e μ)(Q:D×Hm->Prop)(H:∀a,μ<+:a->Q (.bl b9,a)):W (f (k+2) "_law_inner" [.int w,.int h,e] μ) Q:=by
 rcases B.c with hc|⟨ds,rfl,c⟩|rfl|⟨p,rfl,b⟩
 ·rw[A6,W_fin,w_mSeq];simp only[w_mIfS,w_mOrT,w_mNotT,w_mTru,w_mCall,w_mCons,aN,aI,aL,aR];rw[hc μ (UP _),W_some];simp only[w_truB,Wt,if_true,w_mRet,aR];exact H _ (UP _)
 ·rw[A6,W_fin,w_mSeq];simp only[w_mIfS,w_mOrT,w_mNotT,w_mTru,w_mTest,w_mCall,w_mCons,aN,aI,aL,aR,w_mOp,jX,w_truB,U3,Ud,if_false];rw[show cK [D.tup ds] μ=b6 (.int ds.length,μ)from rfl,W_some];simp only[o8];rw[show((ds.length:Int)==2)=b9 from beq_eq_false_iff_ne.mpr (by omega)];simp only[Wt,if_true,w_mRet,aR];exact H _ (UP _)
 ·exact Bi k w h _ _ (.inr ⟨_,rfl⟩) ⟨_,rfl⟩ μ Q H
 ·refine Bi k w h (.int p.1) (.int p.2) (.inl ⟨_,rfl⟩) ⟨_,rfl⟩ μ Q λa q=>?_;have:fA w h (p.1,p.2)=false:=b;dsimp only;rw[this];exact H a q
theorem GR(k:Nat){w h:Int}{p:Int×Int}(b:p∈bR w h "lufr") (μ:Hm)(Q:D×Hm->Prop)(H:∀a,μ<+:a->Q (.bl c4,a)):W (f (k+2) "_law_inner" [.int w,.int h,PP p] μ) Q:=by refine Bi k w h (.int p.1) (.int p.2) (.inl ⟨_,rfl⟩) ⟨_,rfl⟩ μ Q λa q=>?_;have:fA w h (p.1,p.2)=true:=SD b;dsimp only;rw[this];exact H a q
theorem SN(k:Nat){m:D}{μ:Hm}(B:BadK m μ)(Q:D×Hm->Prop)(H:Q (.bl b9,μ)):W (f (k+1) "is_mark" [m] μ) Q:=by
 rw[Gb,W_fin];simp only[w_mRet,cN,w_mCall,w_mCons,aN,aI,aR];rcases B.c with hc|⟨s,rfl,a,b,c⟩
 ·rw[hc μ (UP _),W_some];simp only[Ud,if_false];exact H
 ·simp only[rL,if_true,w_mOp,aI,aR];have e:bZ b9 (.str s) vL μ=b6 (.bl (("h"==s)||(("v"==s)||(("o"==s)||false))),μ):=rfl;rw[e,W_some,beq_eq_false_iff_ne.mpr (Vf a),beq_eq_false_iff_ne.mpr (Vf b),beq_eq_false_iff_ne.mpr (Vf c)];exact H
inductive Due where
 |made
 |edge (e:D)
 |mark
 |twice (p:Int×Int)
noncomputable def bW:List It->List (Int×Int)->Due
 |[],_=>.made|.be e _::_,_=>.edge e|.bm _ _::_,_=>.mark|.ok p _::r,seen=>if p∈seen then .twice p else bW r (seen++[p])
noncomputable def Due.nm:Due->Str
 |.made=>"made"|.edge _=>"edge"|.mark=>"mark"|.twice _=>"twice"
noncomputable def Due.th:Due->D
 |.edge e=>e|.twice p=>PP p|_=>.non
noncomputable abbrev xE(c:Str)(d:D):Xn:=(c,[("edge",d)])
noncomputable abbrev xN(c:Str):Xn:=(c,[])
noncomputable def Due.xn:Due->Xn
 |.edge e=>xE "NoEdge" e|.twice p=>xE "Twice" (PP p)|_=>xN "NoMark"
theorem m5{m:MT}{b c:MR}{a:aF}{μ:Hm}(h:W (m a μ) λp=>(if p.1=c4 then b a p.2 else c a p.2)=b8):fX m b c a μ=none:=by obtain⟨p,d,e⟩:=h;unfold fX;rw[d];exact e
theorem m7{m:MS}{b c:MR}{a:aF}{μ:Hm}(h1:b a μ=b8)(d:W (m a μ) λp=>c p.2.1 p.2.2=b8):bP m b c a μ=none:=by obtain⟨⟨f,i,h⟩,e,q⟩:=d;unfold bP;rw[h1,e];cases f<;>first|rfl|exact q
theorem rSeq_no'{m:MS}{b c:MR}{a:aF}{μ:Hm}(h1:b a μ=b8)(d:∀p,m a μ=b6 p->p.1=.nx->c p.2.1 p.2.2=b8):bP m b c a μ=none:=by
 unfold bP;rw[h1];dsimp only;split
 ·rename_i i h e;exact d _ e rfl
 ·rfl
theorem rSeq_t'{m:MS}(a:aF)(μ:Hm):bP m bF bF a μ=none:=rSeq_no' rfl λp _ _=>rfl
theorem GS{o:Option (Xn×aF×Hm)}(h:o=b8):u9 o=none:=by rw[h];rfl
noncomputable abbrev sB(k:Nat):MS:=aJ (aQ 5 (aC aH (aB 4) (mC (.int 0)))) (aJ (a6 (bN (bK (aE (f k "is_inner_edge") (aA (aB 0) (aA (aB 1) (aA (aB 5) aD)))))) aY bA) (aJ (a6 (bN (bK (aE (f k "is_mark") (aA (aC aH (aB 4) (mC (.int 1))) aD)))) aY bA) (aJ (a6 (aP (aC (bZ b9) (aB 5) (aB 3))) aY bA) (fJ (aB 3) (aB 5) (aC aH (aB 4) (mC (.int 1)))))))
noncomputable abbrev sR(k:Nat):MR:=bP (aQ 5 (aC aH (aB 4) (mC (.int 0)))) bF (bP (a6 (bN (bK (aE (f k "is_inner_edge") (aA (aB 0) (aA (aB 1) (aA (aB 5) aD)))))) aY bA) (fX (bN (bK (aE (f k "is_inner_edge") (aA (aB 0) (aA (aB 1) (aA (aB 5) aD)))))) (bP aY (kU "NoEdge" "edge" (aB 5)) bF) bF) (bP (a6 (bN (bK (aE (f k "is_mark") (aA (aC aH (aB 4) (mC (.int 1))) aD)))) aY bA) (fX (bN (bK (aE (f k "is_mark") (aA (aC aH (aB 4) (mC (.int 1))) aD)))) (bP aY (kQ "NoMark" (aA (mC (.str "a mark is h, v or o")) aD)) bF) bF) (bP (a6 (aP (aC (bZ b9) (aB 5) (aB 3))) aY bA) (fX (aP (aC (bZ b9) (aB 5) (aB 3))) (bP aY (kU "Twice" "edge" (aB 5)) bF) bF) (bP (fJ (aB 3) (aB 5) (aC aH (aB 4) (mC (.int 1)))) bF bF))))
section
variable{w h:Int}{a d:Nat}{x5:Option D}{ps:List (Int×Int)}{m:Int×Int->Str}{μ:Hm}
theorem SO(k:Nat){e y:D}(B:BadE w h e μ):W (sR (k+3) [b6 (.int w),b6 (.int h),b6 (.loc a),b6 (.loc d),b6 (.tup [e,y]),x5] μ) λq=>q.1=xE "NoEdge" e/\q.2.2=μ:=by refine lH rfl ?_;simp only[w_mSet,w_mOp,aI,aL,aR,d8,Um,Us];refine⟨trivial,i0 (w_rIf.mpr ?_)⟩;simp only[w_mNotT,w_mTru,w_mCall,w_mCons,aN,aI,aL];refine SK k B _ ?_;simp only[w_truB,Wt,if_true];refine i0 (w_rRaiseI.mpr ?_);simp only[aI,aL];exact⟨trivial,trivial⟩
theorem SQ(k:Nat){p:Int×Int}{y:D}(b:p∈bR w h "lufr") (B:BadK y μ):W (sR (k+3) [b6 (.int w),b6 (.int h),b6 (.loc a),b6 (.loc d),b6 (.tup [PP p,y]),x5] μ) λq=>q.1=xN "NoMark"/\q.2.2=μ:=by
 refine lH rfl ?_;simp only[w_mSet,w_mOp,aI,aL,aR,d8,Um,Us];refine⟨trivial,lH (m5 ?_) ?_⟩
 ·simp only[w_mNotT,w_mTru,w_mCall,w_mCons,aN,aI,aL];refine rS k b _ _ ?_;simp only[w_truB,U3,Ud,if_false];rfl
 ·simp only[w_mIfS,w_mNotT,w_mTru,w_mCall,w_mCons,aN,aI,aL];refine rS k b _ _ ?_;simp only[w_truB,U3,Ud,if_false,w_mNext];refine⟨trivial,i0 (w_rIf.mpr ?_)⟩;simp only[w_mNotT,w_mTru,w_mCall,w_mCons,aN,w_mOp,aI,aL,aR,eI];refine SN (k+2) B _ ?_;simp only[w_truB,Wt,if_true];refine i0 (w_rRaise.mpr ?_);simp only[w_mCons,aN,aR];exact⟨trivial,trivial⟩
theorem SR(k:Nat){p:Int×Int}{s:Str}(o:p∈bR w h "lufr") (r:i8 s)(M:Mk w h ps m)(hd:μ[d]?=b6 (.dT (bS (bV m) ps))) :
  (p∈ps->W (sR (k+3) [b6 (.int w),b6 (.int h),b6 (.loc a),b6 (.loc d),b6 (.tup [PP p,.str s]),x5] μ) λq=>q.1=xE "Twice" (PP p)/\q.2.2=μ)/\(p∉ps->sR (k+3) [b6 (.int w),b6 (.int h),b6 (.loc a),b6 (.loc d),b6 (.tup [PP p,.str s]),x5] μ=b8):=by
 have c:∀{Q:Bool×Hm->Prop}{j:Option D},Q (b9,μ)->W (bN (bK (aE (f (k+3) "is_inner_edge") (aA (aB 0) (aA (aB 1) (aA (aB 5) aD))))) [b6 (.int w),b6 (.int h),b6 (.loc a),b6 (.loc d),j,b6 (PP p)] μ) Q:=λ{Q j} H=>by simp only[w_mNotT,w_mTru,w_mCall,w_mCons,aN,aI,aL];refine rS k o _ _ ?_;simp only[w_truB,U3];exact H
 have e:∀{Q:Bool×Hm->Prop},Q (b9,μ)->W (bN (bK (aE (f (k+3) "is_mark") (aA (aC aH (aB 4) (mC (.int 1))) aD))) [b6 (.int w),b6 (.int h),b6 (.loc a),b6 (.loc d),b6 (.tup [PP p,.str s]),b6 (PP p)] μ) Q:=λ{Q} H=>by simp only[w_mNotT,w_mTru,w_mCall,w_mCons,aN,w_mOp,aI,aL,aR,eI];refine Bb (k+2) r _ _ ?_;simp only[w_truB,U3];exact H
 have nx:∀{t:MT}{i:aF}{Q:Fl×aF×Hm->Prop},(∀{R:Bool×Hm->Prop},R (b9,μ)->W (t i μ) R)->Q (.nx,i,μ)->W (a6 t aY bA i μ) Q:=λ{t i Q} l n=>by rw[w_mIfS];refine l ?_;simp only[Ud,if_false,w_mNext];exact n
 constructor
 ·intro b;refine lH rfl ?_;simp only[w_mSet,w_mOp,aI,aL,aR,d8,Um,Us];refine⟨trivial,lH (m5 (c rfl)) (nx c ⟨rfl,lH (m5 (e rfl)) (nx e ⟨rfl,i0 (w_rIf.mpr ?_)⟩)⟩)⟩;simp only[w_mTest,w_mOp,aI,aL];refine(rM hd (jY p)).mpr ?_;rw[Gw M.nd b];simp only[Option.isSome_some,Ud,if_false,if_true];refine i0 (w_rRaiseI.mpr ?_);simp only[aI,aL];exact⟨trivial,trivial⟩
 ·intro b;refine m7 rfl ?_;simp only[w_mSet,w_mOp,aI,aL,aR,d8,Um,Us];refine m7 (m5 (c rfl)) (nx c (m7 (m5 (e rfl)) (nx e (m7 (m5 ?_) ?_))))
  ·simp only[w_mTest,w_mOp,aI,aL];refine(rM hd (jY p)).mpr ?_;rw[pK b];simp only[XC,Ud,if_false];rfl
  ·simp only[w_mIfS,w_mTest,w_mOp,aI,aL];refine(rM hd (jY p)).mpr ?_;rw[pK b];simp only[XC,Ud,if_false,w_mNext];unfold bP bF;dsimp only;split<;>rfl
theorem SS(k:Nat)(hw:w<=6)(j:h<=6){p:Int×Int}{s:Str}(e:p∈bR w h "lufr") (i:i8 s)(M:Mk w h ps m)(hd:μ[d]?=b6 (.dT (bS (bV m) ps)))(b:p∉ps)(Q:Fl×aF×Hm->Prop)(H:∀m',Mk w h (ps++[p]) m'->Q (.nx,[b6 (.int w),b6 (.int h),b6 (.loc a),b6 (.loc d),b6 (.tup [PP p,.str s]),b6 (PP p)],μ.set d (.dT (bS (bV m') (ps++[p]))))) :
  W (sB (k+3) [b6 (.int w),b6 (.int h),b6 (.loc a),b6 (.loc d),b6 (.tup [PP p,.str s]),x5] μ) Q:=by
 rw[w_mSeq];simp only[w_mSet,w_mOp,aI,aL,aR,d8,Um,Us];rw[w_mSeq];simp only[w_mIfS,w_mNotT,w_mTru,w_mCall,w_mCons,aN,aI,aL];refine rS k e _ _ ?_;simp only[w_truB,U3,Ud,if_false,w_mNext];rw[w_mSeq];simp only[w_mIfS,w_mNotT,w_mTru,w_mCall,w_mCons,aN,w_mOp,aI,aL,aR,eI];refine Bb (k+2) i _ _ ?_;simp only[w_truB,U3,Ud,if_false,w_mNext];rw[w_mSeq];simp only[w_mIfS,w_mTest,w_mOp,aI,aL];refine(rM hd (jY p)).mpr ?_;rw[pK b];simp only[XC,Ud,if_false,w_mNext,vH,w_mOp,aI,aL,aR,eI];have lp:=M.len hw j;refine(A4 hd (jY p) (by rw[Uc,Vm];omega)).mpr ?_;have c:=M.put e i;rw[Gy];rw[if_neg b]at c ⊢;exact H _ c
end
theorem GU(k:Nat){w h:Int}(hw:w<=6)(O:h<=6){a d:Nat}{L:List It}{b:Hm}(G:b[a]?=b6 (.lst (L.map bG)))(K:∀x∈L,ItOk w h b x)(hd:b.length<=d):∀(R:List It)(i n:Nat)(ps:List (Int×Int))(m:Int×Int->Str)(o x5:Option D)(μ:Hm),L.drop i=R->R.length<n->b<+:μ->Mk w h ps m->μ[d]?=b6 (.dT (bS (bV m) ps))->
  (bW R ps=.made->fG (cL (.loc a)) (dE 4) (sB (k+3)) (sR (k+3)) n i [b6 (.int w),b6 (.int h),b6 (.loc a),b6 (.loc d),o,x5] μ=b8) /\
  (bW R ps≠.made->W (fG (cL (.loc a)) (dE 4) (sB (k+3)) (sR (k+3)) n i [b6 (.int w),b6 (.int h),b6 (.loc a),b6 (.loc d),o,x5] μ) λq=>q.1=(bW R ps).xn/\b<+:q.2.2)
 |[],i,n,ps,m,o,x5,μ,hR,hn,p,M,g=>by
  refine⟨λ_=>?_,λz=>absurd rfl z⟩;obtain⟨n,rfl⟩:∃H,n=H+1:=⟨n-1,by omega⟩;have e:cL (.loc a) μ i=b6 none:=by simp only[cL,fV,bJ,aU p G,UQ];rw[VU (by rw[Uc];exact List.drop_eq_nil_iff.mp hR)]
  show(cL (.loc a) μ i).bind _=b8;rw[e];rfl
 |x::R,i,n,ps,m,o,x5,μ,hR,hn,p,M,g=>by
  obtain⟨n,rfl⟩:∃H,n=H+1:=⟨n-1,by omega⟩;have Q:L[i]?=b6 x:=by
   have:(L.drop i)[0]?=b6 x:=by rw[hR];rfl
   rw[WN]at this;exact this
  have E:L.drop (i+1)=R:=by
   have:(L.drop i).drop 1=R:=by rw[hR];rfl
   rw[Zj]at this;exact this
  have I:=(K x (UL Q)).mono p;have e:cL (.loc a) μ i=b6 (b6 (bG x)):=by simp only[cL,fV,bJ,aU p G,UQ];rw[UU,Q];rfl
  have st:∀r,sR (k+3) [b6 (.int w),b6 (.int h),b6 (.loc a),b6 (.loc d),b6 (bG x),x5] μ=b6 r->fG (cL (.loc a)) (dE 4) (sB (k+3)) (sR (k+3)) (n+1) i [b6 (.int w),b6 (.int h),b6 (.loc a),b6 (.loc d),o,x5] μ=b6 r:=λr hr=>by show(cL (.loc a) μ i).bind _=b6 r;rw[e];show(match sR (k+3) [b6 (.int w),b6 (.int h),b6 (.loc a),b6 (.loc d),b6 (bG x),x5] μ with|some p=>b6 p|none=>_)=b6 r;rw[hr]
  have j:∀{y:Xn},(W (sR (k+3) [b6 (.int w),b6 (.int h),b6 (.loc a),b6 (.loc d),b6 (bG x),x5] μ) λq=>q.1=y/\q.2.2=μ)->W (fG (cL (.loc a)) (dE 4) (sB (k+3)) (sR (k+3)) (n+1) i [b6 (.int w),b6 (.int h),b6 (.loc a),b6 (.loc d),o,x5] μ) λq=>q.1=y/\b<+:q.2.2:=λ{y} ⟨q,X,Y,Z⟩=>⟨q,st q X,Y,by rw[Z];exact p⟩;cases x with
  |be e y=>exact⟨(λz=>nomatch z),λ_=>j (SO k I.1)⟩|bm q y=>exact⟨(λz=>nomatch z),λ_=>j (SQ k I.1 I.2)⟩|ok q s=>
   obtain⟨o1,o2⟩:=SR (a:=a) (x5:=x5) k I.1 I.2 M g;by_cases c:q∈ps
   ·have B:bW (.ok q s::R) ps=.twice q:=by rw[bW,if_pos c]
    rw[B];exact⟨(λz=>nomatch z),λ_=>j (o1 c)⟩
   ·have B:bW (.ok q s::R) ps=bW R (ps++[q]):=by rw[bW,if_neg c]
    rw[B];obtain⟨⟨f1,ρ1,μ1⟩,T,N,v,l,A,u⟩:=SS (a:=a) (x5:=x5) k hw O I.1 I.2 M g c (λr=>r.1=.nx/\r.2.1=[b6 (.int w),b6 (.int h),b6 (.loc a),b6 (.loc d),b6 (.tup [PP q,.str s]),b6 (PP q)]/\∃l,Mk w h (ps++[q]) l/\r.2.2=μ.set d (.dT (bS (bV l) (ps++[q])))) λl A=>⟨rfl,rfl,l,A,rfl⟩;dsimp only at N v u;subst N v u;have U:fG (cL (.loc a)) (dE 4) (sB (k+3)) (sR (k+3)) (n+1) i [b6 (.int w),b6 (.int h),b6 (.loc a),b6 (.loc d),o,x5] μ=fG (cL (.loc a)) (dE 4) (sB (k+3)) (sR (k+3)) n (i+1) [b6 (.int w),b6 (.int h),b6 (.loc a),b6 (.loc d),b6 (.tup [PP q,.str s]),b6 (PP q)] (μ.set d (.dT (bS (bV l) (ps++[q])))):=by show(cL (.loc a) μ i).bind _=_;rw[e];show(match sR (k+3) [b6 (.int w),b6 (.int h),b6 (.loc a),b6 (.loc d),b6 (.tup [PP q,.str s]),x5] μ with|some p=>b6 p|none=>(sB (k+3) [b6 (.int w),b6 (.int h),b6 (.loc a),b6 (.loc d),b6 (.tup [PP q,.str s]),x5] μ).bind _)=_;rw[o2 c];dsimp only;rw[T];rfl
    rw[U];exact GU k hw O G K hd R (i+1) n (ps++[q]) l _ _ _ E (by rw[UA]at hn;omega) (rJ p hd _) A (pJ g)
theorem GV(k:Nat){w h:Int}(hw:1<=w/\w<=6)(a:1<=h/\h<=6)(μ:Hm):g (k+3) "check_size" [.int w,.int h] μ=none:=by
 rw[Ga];have t:∀{Q:Bool×Hm->Prop},Q (b9,μ)->W (bN (gE (bK (aE (f (k+2) "is_size") (aA (aB 0) aD))) (bK (aE (f (k+2) "is_size") (aA (aB 1) aD)))) [b6 (.int w),b6 (.int h)] μ) Q:=λ{Q} H=>by simp only[w_mNotT,w_mAndT,w_mTru,w_mCall,w_mCons,aN,aI,aL];refine rR k hw _ _ ?_;simp only[w_truB,if_true];refine rR k a _ _ ?_;simp only[w_truB,U3];exact H
 refine GS (m7 (m5 (t rfl)) ?_);rw[w_mIfS];refine t ?_;simp only[Ud,if_false,w_mNext];rfl
theorem Bj{r:RF}{b:MA}{c:aF}{μ a:Hm}{ds:List D}(h:b c μ=b6 (ds,a))(d:r ds a=b8):gN r b c μ=none:=by unfold gN;rw[h];show(r ds a).map _=b8;rw[d];rfl
theorem SU(k:Nat){w h:Int}(hw:1<=w/\w<=6)(b:1<=h/\h<=6){a:Nat}{L:List It}{μ:Hm}(e:μ[a]?=b6 (.lst (L.map bG)))(l:∀x∈L,ItOk w h μ x) :
  (bW L []=.made->g (k+4) "sheet_of" [.int w,.int h,.loc a] μ=b8)/\(bW L []≠.made->W (g (k+4) "sheet_of" [.int w,.int h,.loc a] μ) λq=>q.1=(bW L []).xn/\μ<+:q.2):=by
 have j:Mk w h [] λ_=>"h":=⟨a0p,(λ_ z=>nomatch z),λ_=>.inr (.inr rfl)⟩;obtain⟨o1,m⟩:=GU k hw.2 b.2 (d:=μ.length) e l (Up _) L 0 (L.length+1) [] (λ_=>"h") b8 b8 (μ++[.dT []]) (Wy ..) (W8 _) (aT _ _) j (bH _ _);have i:dM (aB 2) [b6 (.int w),b6 (.int h),b6 (.loc a),b6 (.loc μ.length),b8,b8] (μ++[.dT []])=b6 (cL (.loc a),L.length+1,μ++[.dT []]):=by have:=aU (aT μ (C.dT [])) e;simp only[dM,aB,fV,bJ,this,WC,a0M,UG,UQ,Uc]
 have d:=Ge (k+1) (.int w) (.int h) (.loc a) μ;have c:∀{Q:Fl×aF×Hm->Prop},Q (.nx,[b6 (.int w),b6 (.int h),b6 (.loc a),b8,b8,b8],μ)->W (fR (aE (f (k+3) "check_size") (aA (aB 0) (aA (aB 1) aD))) [b6 (.int w),b6 (.int h),b6 (.loc a),b8,b8,b8] μ) Q:=λ{Q} H=>by simp only[w_mDrop,w_mCall,w_mCons,aN,aI,aL];exact GD k hw b _ _ H
 constructor
 ·intro z;refine d.trans (GS (m7 (Bj rfl (GV k hw b μ)) (c (m7 rfl ?_))));simp only[w_mSet,vJ,Um,Us];refine rSeq_no' ?_ λp _ _=>rSeq_t' _ _;unfold qJ;rw[i];exact o1 z
 ·intro z;refine(congrArg (λo=>W o _) d).mpr (W_finR.mpr (lH (Bj rfl (GV k hw b μ)) (c ⟨rfl,lH rfl ?_⟩)));simp only[w_mSet,vJ,Um,Us];refine⟨trivial,i0 ?_⟩;unfold qJ;rw[i];exact m z
theorem GW(q:Int×Int)(μ:Hm):∀ps:List (Int×Int),kL μ (PP q) (ps.map PP)=b6 (ps.any λp=>p==q)
 |[]=>rfl|p::ps=>by show(cV 8 μ (PP p) (PP q)).bind (λb=>(kL μ (PP q) (ps.map PP)).map λc=>b||c)=_;rw[A1,GW q μ ps];rfl
theorem GX{μ:Hm}{a:Nat}{ps:List (Int×Int)}{q:Int×Int}{Q:D×Hm->Prop}(h:μ[a]?=b6 (.lst (ps.map PP))):W (bZ b9 (PP q) (.loc a) μ) Q↔Q (.bl (ps.any λp=>p==q),μ):=by
 have e:bZ b9 (PP q) (.loc a) μ=b6 (.bl (ps.any λp=>p==q),μ):=by simp only[bZ,kM,bJ,h,UG,GW,UQ];rfl
 rw[e];exact W_some
noncomputable abbrev GY:MT:=cP (bN (bK (aE bX (aA (aB 5) (aA (mC (.ty "str")) aD))))) (aP (aC (bZ c4) (aB 5) (bI (aA (mC (.str "h")) (aA (mC (.str "v")) (aA (mC (.str "o")) aD))))))
theorem GZ(s:Str)(μ:Hm):bZ c4 (.str s) (.loc μ.length) (μ++[.lst [.str "h",.str "v",.str "o"]])=b6 (.bl (!(("h"==s)||(("v"==s)||(("o"==s)||false)))),μ++[.lst [.str "h",.str "v",.str "o"]]):=by simp only[bZ,kM,bJ,bH,UG];rfl
theorem SV{s:Str}(b:i8 s){c x1 d h i:Option D}{μ:Hm}(Q:Bool×Hm->Prop)(H:∀a,μ<+:a->Q (b9,a)):W (GY [c,x1,d,h,i,b6 (.str s)] μ) Q:=by
 simp only[w_mOrT,w_mNotT,w_mTru,w_mTest,w_mCall,w_mCons,aN,w_mOp,aI,aL,aR,rL,w_truB,U3,Ud,if_false,gT];refine⟨by show(3:Nat)<=Uo;decide,?_⟩;rw[GZ,W_some];have e:(!(("h"==s)||(("v"==s)||(("o"==s)||false))))=false:=by rcases b with rfl|rfl|rfl<;>decide +kernel
 rw[e];exact H _ (aT _ _)
theorem SW{m:D}{e x1 h i j:Option D}{μ:Hm}(B:BadK m μ)(Q:Bool×Hm->Prop)(H:∀a,μ<+:a->Q (c4,a)):W (GY [e,x1,h,i,j,b6 m] μ) Q:=by
 simp only[w_mOrT,w_mNotT,w_mTru,w_mTest,w_mCall,w_mCons,aN,w_mOp,aI,aL,aR];rcases B.c with hc|⟨s,rfl,b,c,d⟩
 ·rw[hc μ (UP _),W_some];simp only[w_truB,Wt,if_true];exact H _ (UP _)
 ·simp only[rL,w_truB,U3,Ud,if_false,gT,w_mCons,aN,aR];refine⟨by show(3:Nat)<=Uo;decide,?_⟩;rw[GZ,W_some,beq_eq_false_iff_ne.mpr (Vf b),beq_eq_false_iff_ne.mpr (Vf c),beq_eq_false_iff_ne.mpr (Vf d)];exact H _ (aT _ _)
theorem G0(ps:List (Int×Int))(q:Int×Int):(ps.any λp=>p==q)=decide (q∈ps):=by
 rw[Bool.eq_iff_iff,List.any_eq_true,decide_eq_true_eq];constructor
 ·rintro⟨p,a,b⟩;rw[<- beq_iff_eq.mp b];exact a
 ·exact λh=>⟨q,h,beq_self_eq_true _⟩
theorem SX(k:Nat){w h:Int}{a:Nat}{L:List It}(hz:L.length<=1000){μ:Hm}(K:μ[a]?=b6 (.lst (L.map bG)))(U:∀x∈L,ItOk w h μ x)(Q:D×Hm->Prop)(H:∀b,μ<+:b->Q (.tup [.str (bW L []).nm,(bW L []).th],b)):W (f (k+3) "_law_due" [.int w,.int h,.loc a] μ) Q:=by
 refine rV (RD (k+2) _ _ _ μ) (d4 (aV (show _=b6 (D.loc μ.length,μ++[C.lst []])from rfl) (w_mSeq.mpr (w_mForI.mpr (w_iSeq.mpr (aV rfl ((vF (aU (aT _ _) K)).mpr ?_)))))));refine AY (λi o b=>∃seen A B,o=[b6 (.int w),b6 (.int h),b6 (.loc a),b6 (.loc μ.length),A,B]/\μ<+:b/\b[μ.length]?=b6 (.lst (seen.map PP))/\bW L []=bW (L.drop i) seen/\seen.length=i)
  ⟨[],b8,b8,rfl,aT _ _,bH _ _,rfl,rfl⟩ (λ_ _ _ ⟨_,_,_,_,p,_⟩=>aU p K) ?_ ?_
 ·rintro i d o b hd ⟨seen,A,B,rfl,n,G,c,N⟩;rw[UU]at hd;obtain⟨x,z,rfl⟩:=T7.mp hd;have M:i<L.length:=(T8.mp z).1;have O:L.drop i=x::L.drop (i+1):=by rw[Wv M];rw[T9 M]at z;rw[Ux z]
  rw[O]at c;have I:=(U x (UL z)).mono n;have m:∀{b:Hm},μ<+:b->∀{nm:Str}{th:D},(bW L []).nm=nm->(bW L []).th=th->Q (.tup [.str nm,th],b):=λp=>by intro nm th R T;rw[<- R,<- T];exact H _ p
  cases x with
  |be e y=>refine⟨[b6 (.int w),b6 (.int h),b6 (.loc a),b6 (.loc μ.length),b6 e,b6 y],rfl,?_⟩;refine m4 (Bf (Bg (dQ rfl (SM k I.1 _ λv l=>⟨rfl,rfl,pL (aV rfl ?_)⟩))));exact m (n.trans l) (by rw[c];rfl) (by rw[c];rfl)|bm q y=>refine⟨[b6 (.int w),b6 (.int h),b6 (.loc a),b6 (.loc μ.length),b6 (PP q),b6 y],rfl,?_⟩;refine iF (Bf (Bg (dQ rfl (GR k I.1 _ _ λv l=>⟨rfl,rfl,iG (m4 (SW (I.2.mono l) _ λE u=>⟨rfl,pL (aV rfl ?_)⟩))⟩))));exact m ((n.trans l).trans u) (by rw[c];rfl) (by rw[c];rfl)|ok q s=>
   refine⟨[b6 (.int w),b6 (.int h),b6 (.loc a),b6 (.loc μ.length),b6 (PP q),b6 (.str s)],rfl,?_⟩;refine iF (Bf (Bg (dQ rfl (GR k I.1 _ _ λv l=>⟨rfl,rfl,iG (iF (SV I.2 _ λE u=>⟨rfl,iG ?_⟩))⟩))));have r:=aU (l.trans u) G;by_cases j:q∈seen
   ·refine m4 (e8 (cX rfl rfl ((GX r).mpr ⟨_,rfl,by rw[G0,decide_eq_true j],pL (aV rfl ?_)⟩)));exact m ((n.trans l).trans u) (by rw[c,bW,if_pos j];rfl) (by rw[c,bW,if_pos j];rfl)
   ·refine iF (e8 (cX rfl rfl ((GX r).mpr ⟨_,rfl,by rw[G0,decide_eq_false j],iG ?_⟩)));refine w_mDrop.mpr (Rb (aV rfl ⟨Rc r,aV rfl ((Rf r (by rw[Uc,Vm];omega)).mpr ?_)⟩));refine⟨seen++[q],_,_,rfl,rJ ((n.trans l).trans u) (Up _) _,?_,?_,by rw[Uj,N];rfl⟩
    ·rw[pJ r,WX];rfl
    ·rw[c,bW,if_neg j]
 ·rintro o b ⟨seen,A,B,rfl,n,G,c,N⟩;rw[Uc,List.drop_length]at c;refine rW (aV rfl ?_);have:=H b n;rw[c]at this;exact this
theorem rY{s:Str->Option Bool}{x:Str}{ns:List Str}{ds:List D}{b:Bool}{i a:Nat}{c:aF}{μ:Hm}{Q:D×Hm->Prop}(j:c[i]?=b6 (b6 (.loc a)))(d:μ[a]?=b6 (.exc x ns ds))(h:s x=b6 b):W (dN s (aB i) c μ) Q↔Q (.bl b,μ):=by
 have e:dN s (aB i) c μ=b6 (.bl b,μ):=by simp[dN,aB,j,d,h]
 rw[e];exact W_some
theorem G1{μ:Hm}{a:Nat}{xs:List D}{i:Int}{d:D}{Q:D×Hm->Prop}(h:μ[a]?=b6 (.lst xs))(b:atI xs i=b6 d):W (dU (.loc a) (.int i) μ) Q↔Q (d,μ):=by
 have e:dU (.loc a) (.int i) μ=b6 (d,μ):=by simp only[dU,bJ,h,UG,b,UQ]
 rw[e];exact W_some
theorem G2{a:Type}{g:a->D}{bs:List a}{i:Nat}{z:a}(h:i<bs.length):atI (bs.map g) (i:Int)=b6 (g (bs.getD i z)):=by refine m3 (by omega) ?_;rw[W0,UU,UH,T9 h];rfl
noncomputable def nms4:List Str:=["size","edge","mark","twice"]
theorem v8{x:Str}{ns:List Str}{ds:List D}{b1 b2 b3 b4:Bool}(n:sup "ValueError" x=b6 c4) (h1:sup "NoSize" x=b6 b1) (u:sup "NoEdge" x=b6 b2) (v:sup "NoMark" x=b6 b3) (w:sup "Twice" x=b6 b4)
  (y:vM ["Barred","NoFold","NoName","NoOrder","NoRound","NoRow","NoText","Taken","TooMany"] x=b6 b9) {a:Nat}{μ:Hm}(h:μ[a]?=b6 (C.exc x ns ds))(Q:D×Hm->Prop)
  (H:∀r c,μ<+:c->c[r]?=b6 (.lst (((f6 0 4).filter λd=>[b1,b2,b3,b4].getD (gZ d).toNat b9).map λd=>.str (nms4.getD (gZ d).toNat "")))->Q (.loc r,c)):W (iZ S "_law_classes" [.loc a] μ) Q:=by
 rw[RE,W_fin];have one:∀{s:Str->Option Bool}{b:Bool}{B:aF}{c:Hm}{q:D×Hm->Prop},c[a]?=b6 (C.exc x ns ds)->s x=b6 b->(W (dN s (aB 0) (b6 (.loc a)::B) c) q↔q (.bl b,c)):=λn A=>rY rfl n A;rw[w_mSeq];simp only[w_mSet,gT,w_mCons,aN];rw[one h h1,one h u,one h v,one h w];refine⟨by show(4:Nat)<=Uo;decide,?_⟩;simp only[Um,Us];have p:=aT μ (C.lst ([b1,b2,b3,b4].map D.bl));have m:=bH μ (C.lst ([b1,b2,b3,b4].map D.bl));have l:=aU p h;show W (aJ _ _ _ (μ++[C.lst ([b1,b2,b3,b4].map D.bl)])) _;generalize μ++[C.lst ([b1,b2,b3,b4].map D.bl)]=μ1 at p m l;generalize μ.length=n1 at m;rw[w_mSeq,w_mIfS,w_mTest,one l y];simp only[Ud,if_false,w_mNext,w_mRet];refine o9 (xs:=f6 0 4) (p:=λd=>[b1,b2,b3,b4].getD (gZ d).toNat b9) (v:=λd=>.str (nms4.getD (gZ d).toNat "")) ?_;have hit:iB (aA (mC (.int 4)) aD) [b6 (.loc a),b6 (.loc n1)] μ1=b6 (hZ 0 4,5,μ1):=rfl;rw[hit,W_some];refine⟨F0,by simp[f6],by rw[Vm];simp[f6],λd c hd j=>?_,λd c hd _ j=>?_,λc j z=>?_⟩
 ·obtain⟨i,o,rfl⟩:=vQ hd;simp only[Vs,VZ,w_mAndT,w_mTest,w_mOp,aI,aL];rw[a3G,G1 (aU j m) (G2 (g:=D.bl) (bs:=[b1,b2,b3,b4]) (z:=b9) (by show i<4;exact o))];show if([b1,b2,b3,b4].getD i b9)=c4 then _ else _
  have e:(gZ (.int (i:Int))).toNat=i:=rfl;rw[e];cases E:[b1,b2,b3,b4].getD i b9 with
  |true=>rw[if_pos rfl,one (aU j l) n];exact⟨rfl,UP _⟩|false=>rw[if_neg (by decide)];exact⟨rfl,UP _⟩
 ·obtain⟨i,o,rfl⟩:=vQ hd;simp only[Vs,VZ,w_mOp,gT,w_mCons,aN,aR,aI,aL];refine⟨by show(4:Nat)<=Uo;decide,?_⟩;rw[a3G];exact(G1 (bH _ _) (G2 (g:=D.str) (bs:=nms4) (z:="") (by show i<4;exact o))).mpr ⟨rfl,aT _ _⟩
 ·exact H _ _ (p.trans j) z
theorem SY{T:List ((Int×Int)×Str)}(c:(T.map (·.1)).Nodup):∀t∈T,T.find? (λu=>u.1==t.1)=b6 t:=by
 induction T with
 |nil=>exact λt h=>nomatch h|cons u T d=>
  intro t a;rw[Uv,Vy]at c;rcases UX.mp a with rfl|a
  ·exact List.find?_cons_of_pos (p:=λu:(Int×Int)×Str=>u.1==t.1) (beq_self_eq_true _)
  ·have b:(u.1==t.1)=false:=beq_eq_false_iff_ne.mpr λe=>c.1 (e▸List.mem_map_of_mem a);rw[List.find?_cons_of_neg (by rw[b];decide)];exact d c.2 t a
theorem G3{w h:Int}{μ:Hm}:∀(L:List It)(seen:List (Int×Int)),(∀x∈L,ItOk w h μ x)->bW L seen=.made->∃T:List ((Int×Int)×Str),L.map bG=T.map MD/\(T.map (·.1)).Nodup/\∀t∈T,t.1∉seen/\t.1∈bR w h "lufr"/\i8 t.2
 |[],_,_,_=>⟨[],rfl,a0p,λ_ z=>nomatch z⟩|.be _ _::_,_,_,z=>nomatch z|.bm _ _::_,_,_,z=>nomatch z|.ok p s::r,seen,hL,z=>by
  by_cases a:p∈seen
  ·rw[bW,if_pos a]at z;cases z
  ·rw[bW,if_neg a]at z;obtain⟨T,d,i,c⟩:=G3 r (seen++[p]) (λx l=>hL x (UO _ l)) z;have I:=hL _ (UZ ..);refine⟨(p,s)::T,by rw[Uv,Uv,d];rfl,?_,λt b=>?_⟩
   ·rw[Uv,Vy];refine⟨λj=>?_,i⟩;obtain⟨t,b,e⟩:=VM.mp j;exact(c t b).1 (by rw[e];exact U0 _ (U6.mpr rfl))
   ·rcases UX.mp b with rfl|b
    ·exact⟨a,I.1,I.2⟩
    ·exact⟨λq=>(c t b).1 (Xk _ q),(c t b).2⟩
theorem S0{w h:Int}{μ:Hm}{L:List It}(i:∀x∈L,ItOk w h μ x)(z:bW L []=.made):∃ps m,Mk w h ps m/\L.map bG=(cW m ps).map MD:=by
 obtain⟨T,d,b,c⟩:=G3 L [] i z;refine⟨T.map (·.1),λp=>((T.find? λu=>u.1==p).map (·.2)).getD "h",⟨b,λp j=>?_,λp=>?_⟩,?_⟩
 ·obtain⟨t,a,rfl⟩:=VM.mp j;exact(c t a).2.1
 ·cases e:T.find? λu=>u.1==p with
  |none=>exact .inr (.inr rfl)|some t=>exact(c t (List.mem_of_find?_eq_some e)).2.2
 ·rw[d];congr 1;unfold cW;rw[Vo];conv=>lhs;rw[<- a1v T]
  refine V7 λt a=>?_;show t=(t.1,((T.find? λu=>u.1==t.1).map (·.2)).getD ("h":Str));rw[SY b t a];rfl
noncomputable abbrev G4:MS:=aJ (aQ 3 (aE (iZ S "_law_classes") (aA (aB 5) aD))) (a6 (aP (dN (vM ["NoEdge","Twice"]) (aB 5))) (aQ 4 (eU "edge" (att "edge") (aB 5))) bA)
theorem G5{c n:Str}{d x1 h i:Option D}{e:Nat}{μ:Hm}(b:μ[e]?=b6 (C.exc c [] []))(hc:(c="NoSize"/\n="size")\/(c="NoMark"/\n="mark")) (Q:Fl×aF×Hm->Prop)(H:∀r a,μ<+:a->a[r]?=b6 (.lst [.str n])->Q (.nx,[d,x1,h,b6 (.loc r),b6 .non,b6 (.loc e)],a)) :
  W (G4 [d,x1,h,i,b6 .non,b6 (.loc e)] μ) Q:=by
 rw[w_mSeq];simp only[w_mSet,w_mCall,w_mCons,aN,aI,aL];rcases hc with⟨rfl,rfl⟩|⟨rfl,rfl⟩
 ·refine v8 (b1:=c4) (b2:=b9) (b3:=b9) (b4:=b9) (by decide +kernel) (by decide +kernel) (by decide +kernel) (by decide +kernel) (by decide +kernel) (by decide +kernel) b _ λr a p g=>?_;simp only[Um,Us];rw[w_mIfS,w_mTest,rY (x:="NoSize") (b:=b9) rfl (aU p b) (by decide +kernel)];simp only[Ud,if_false,w_mNext];exact H r a p g
 ·refine v8 (b1:=b9) (b2:=b9) (b3:=c4) (b4:=b9) (by decide +kernel) (by decide +kernel) (by decide +kernel) (by decide +kernel) (by decide +kernel) (by decide +kernel) b _ λr a p g=>?_;simp only[Um,Us];rw[w_mIfS,w_mTest,rY (x:="NoMark") (b:=b9) rfl (aU p b) (by decide +kernel)];simp only[Ud,if_false,w_mNext];exact H r a p g
theorem G6{c n:Str}{d:D}{h x1 i j:Option D}{e:Nat}{μ:Hm}(b:μ[e]?=b6 (C.exc c ["edge"] [d])) (hc:(c="NoEdge"/\n="edge")\/(c="Twice"/\n="twice")) (Q:Fl×aF×Hm->Prop)(H:∀r a,μ<+:a->a[r]?=b6 (.lst [.str n])->Q (.nx,[h,x1,i,b6 (.loc r),b6 d,b6 (.loc e)],a)) :
  W (G4 [h,x1,i,j,b6 .non,b6 (.loc e)] μ) Q:=by
 rw[w_mSeq];simp only[w_mSet,w_mCall,w_mCons,aN,aI,aL];rcases hc with⟨rfl,rfl⟩|⟨rfl,rfl⟩
 ·refine v8 (b1:=b9) (b2:=c4) (b3:=b9) (b4:=b9) (by decide +kernel) (by decide +kernel) (by decide +kernel) (by decide +kernel) (by decide +kernel) (by decide +kernel) b _ λr a p g=>?_;simp only[Um,Us];rw[w_mIfS,w_mTest,rY (x:="NoEdge") (b:=c4) rfl (aU p b) (by decide +kernel)];simp only[if_true,w_mSet,A5,aI,aL];exact⟨_,_,_,_,d,rfl,aU p b,by decide +kernel,rfl,H r a p g⟩
 ·refine v8 (b1:=b9) (b2:=b9) (b3:=b9) (b4:=c4) (by decide +kernel) (by decide +kernel) (by decide +kernel) (by decide +kernel) (by decide +kernel) (by decide +kernel) b _ λr a p g=>?_;simp only[Um,Us];rw[w_mIfS,w_mTest,rY (x:="Twice") (b:=c4) rfl (aU p b) (by decide +kernel)];simp only[if_true,w_mSet,A5,aI,aL];exact⟨_,_,_,_,d,rfl,aU p b,by decide +kernel,rfl,H r a p g⟩
theorem S1(k:Nat){w h:Int}(hw:1<=w/\w<=6)(G:1<=h/\h<=6){a:Nat}{L:List It}{μ:Hm}(X:μ[a]?=b6 (.lst (L.map bG)))(E:∀x∈L,ItOk w h μ x)(Q:D×Hm->Prop)
  (H:∀r b,μ<+:b->b[r]?=b6 (.lst [.str (bW L []).nm])->Q (.tup [.loc r,(bW L []).th],b)):W (f (k+5) "_law_refused" [.int w,.int h,.loc a] μ) Q:=by
 have R:=Gg (k+2) (.int w) (.int h) (.loc a) μ;refine(congrArg (λo=>W o Q) R).mpr ?_;rw[W_fin,w_mSeq];simp only[w_mSet,gT,w_mCons,aN,aR];refine⟨by show(1:Nat)<=Uo;decide,?_⟩;simp only[Um,Us];rw[w_mSeq];simp only[w_mSet,aR,Um,Us];rw[w_mSeq];have j:=aT μ (C.lst [.str "made"]);have v:=bH μ (C.lst [.str "made"]);have n:=aU j X;generalize μ++[C.lst [.str "made"]]=μ1 at j v n;generalize μ.length=n1 at v;have y:∀x∈L,ItOk w h μ1 x:=λx hx=>(E x hx).mono j;obtain⟨o1,o2⟩:=SU k hw G n y;have fin:∀{r:Nat}{d:D}{x5:Option D}{b:Hm},Q (.tup [.loc r,d],b)->W (aX (aW (aA (aB 3) (aA (aB 4) aD))) [b6 (.int w),b6 (.int h),b6 (.loc a),b6 (.loc r),b6 d,x5] b) λq=>match q.1 with|.rt d=>Q (d,q.2.2)|.nx=>Q (.non,q.2.2)|_=>False:=λ{r d x5 b} Y=>by simp only[w_mRet,w_mTup,w_mCons,aN,aI,aL];exact⟨gU,Y⟩
 by_cases z:bW L []=.made
 ·refine(Rj (rSeq_no' (Bj rfl (o1 z)) λp _ _=>rfl)).mpr ?_;obtain⟨ps,m,M,N⟩:=S0 E z;rw[N]at n;simp only[w_mDrop,w_mCall,w_mCons,aN,aI,aL];refine GF k hw G M n _ λc l=>?_;refine fin ?_;rw[z]at H;exact H n1 c (j.trans l) (aU l v)
 ·obtain⟨⟨x,c⟩,K,u,l⟩:=o2 z;dsimp only at u l;have O:bP (fR (aE (f (k+4) "sheet_of") (aA (aB 0) (aA (aB 1) (aA (aB 2) aD))))) (gN (g (k+4) "sheet_of") (aA (aB 0) (aA (aB 1) (aA (aB 2) aD)))) bF [b6 (.int w),b6 (.int h),b6 (.loc a),b6 (.loc n1),b6 .non,b8] μ1=b6 (x,[b6 (.int w),b6 (.int h),b6 (.loc a),b6 (.loc n1),b6 .non,b8],c):=by unfold bP gN;have ms:(aA (aB 0) (aA (aB 1) (aA (aB 2) aD))) [b6 (.int w),b6 (.int h),b6 (.loc a),b6 (.loc n1),b6 .non,b8] μ1=b6 ([.int w,.int h,.loc a],μ1):=rfl;rw[ms];dsimp only[UG];rw[K];rfl
  have i:=bH c (C.exc x.1 (x.2.map (·.1)) (x.2.map (·.2)));have I:=aT c (C.exc x.1 (x.2.map (·.1)) (x.2.map (·.2)));have Z:sup "CreaseError" x.1=b6 true:=by
   rw[u];have T:sup "CreaseError" "NoEdge"=b6 true:=by decide +kernel
   have B:sup "CreaseError" "NoMark"=b6 true:=by decide +kernel
   have U:sup "CreaseError" "Twice"=b6 true:=by decide +kernel
   cases bW L []with
   |made=>exact B|mark=>exact B|edge e=>exact T|twice q=>exact U
  refine(F9 O Z).mpr ?_;simp only[Um,Us];generalize c++[C.exc x.1 (x.2.map (·.1)) (x.2.map (·.2))]=μ3 at i I;generalize c.length=n2 at i;rw[u]at i;have A:=j.trans (l.trans I);cases s:bW L []with
  |made=>exact absurd s z|edge e=>rw[s]at i H;refine G6 (n:="edge") i (.inl ⟨rfl,rfl⟩) _ λr b p g=>?_;exact fin (H r b (A.trans p) g)|mark=>rw[s]at i H;refine G5 (n:="mark") i (.inr ⟨rfl,rfl⟩) _ λr b p g=>?_;exact fin (H r b (A.trans p) g)|twice q=>rw[s]at i H;refine G6 (n:="twice") i (.inr ⟨rfl,rfl⟩) _ λr b p g=>?_;exact fin (H r b (A.trans p) g)
noncomputable def BadS(d:D)(μ:Hm):Prop:=∀a,μ<+:a->∀(k:Nat)(Q:D×Hm->Prop),Q (.bl b9,a)->W (f (k+2) "is_size" [d] a) Q
theorem rZ{d:D}{μ:Hm}(h:∀a,μ<+:a->bX [d,.ty "int"] a=b6 (.bl b9,a)):BadS d μ:=λa p k Q H=>by rw[vP,W_fin];simp only[w_mRet,cN,w_mCall,w_mCons,aN,aI];rw[vO,W_fin];simp only[w_mRet,cN,w_mCall,w_mCons,aN,aI,aR];rw[h a p,W_some];simp only[Ud,if_false];exact H
theorem G7(b:Bool)(μ:Hm):BadS (.bl b) μ:=λa p k Q H=>by rw[vP,W_fin];simp only[w_mRet,cN,w_mCall,w_mCons,aN,aI];rw[vO,W_fin];simp only[w_mRet,cN,vB,w_mCall,w_mCons,aN,aI,aR];rw[show bX [.bl b,.ty "int"] a=b6 (.bl c4,a)from rfl,W_some];simp only[if_true,Rg,U3,Ud,if_false];exact H
theorem v9{i:Int}(h:i<1\/6<i)(μ:Hm):BadS (.int i) μ:=λb p k Q H=>by
 rw[vP,W_fin];simp only[w_mRet,cN,w_mCall,w_mCons,aN,aI,vZ,if_true,vG,aR,AW];by_cases a:1<=i
 ·simp only[decide_eq_true a,if_true,AW,decide_eq_false (show ¬ i<=6 by omega)];exact H
 ·simp only[decide_eq_false a,Ud,if_false];exact H
theorem S2(k:Nat){b c:D}{μ:Hm}(a:BadS b μ\/(∃i,b=.int i/\1<=i/\i<=6)/\BadS c μ):W (g (k+3) "check_size" [b,c] μ) λq=>q.1=xN "NoSize"/\q.2=μ:=by
 rw[Ga,W_finR];refine i0 (w_rIf.mpr ?_);simp only[w_mNotT,w_mAndT,w_mTru,w_mCall,w_mCons,aN,aI,aL];have fin:W (bP aY (kQ "NoSize" (aA (mC (.str "a sheet is from 1 to 6 squares wide and high")) aD)) bF [b6 b,b6 c] μ) λp=>p.1=xN "NoSize"/\p.2.2=μ:=by refine i0 (w_rRaise.mpr ?_);simp only[w_mCons,aN,aR];exact⟨trivial,trivial⟩
 rcases a with a|⟨⟨i,rfl,d,e⟩,a⟩
 ·refine a μ (UP _) k _ ?_;simp only[w_truB,Ud,if_false,Wt,if_true];exact fin
 ·refine rR k ⟨d,e⟩ _ _ ?_;simp only[w_truB,if_true];refine a μ (UP _) k _ ?_;simp only[w_truB,Wt,if_true];exact fin
theorem S3(k:Nat){b c d:D}{μ:Hm}(y:BadS b μ\/(∃i,b=.int i/\1<=i/\i<=6)/\BadS c μ)(Q:D×Hm->Prop)(H:∀r a,μ<+:a->a[r]?=b6 (.lst [.str "size"])->Q (.tup [.loc r,.non],a)):W (f (k+5) "_law_refused" [b,c,d] μ) Q:=by
 have u:=Gg (k+2) b c d μ;refine(congrArg (λo=>W o Q) u).mpr ?_;rw[W_fin,w_mSeq];simp only[w_mSet,gT,w_mCons,aN,aR];refine⟨by show(1:Nat)<=Uo;decide,?_⟩;simp only[Um,Us];rw[w_mSeq];simp only[w_mSet,aR,Um,Us];rw[w_mSeq];have e:=aT μ (C.lst [.str "made"]);generalize μ++[C.lst [.str "made"]]=μ1 at e;generalize μ.length=n1;have h:BadS b μ1\/(∃i,b=.int i/\1<=i/\i<=6)/\BadS c μ1:=y.imp (λz a p=>z a (e.trans p)) λz=>⟨z.1,λa p=>z.2 a (e.trans p)⟩;have E:W (g (k+4) "sheet_of" [b,c,d] μ1) λq=>q.1=xN "NoSize"/\μ1<+:q.2:=by refine(congrArg (λo=>W o _) (Ge (k+1) b c d μ1)).mpr (W_finR.mpr (i0 (w_rCall.mpr ?_)));simp only[w_mCons,aN,aI,aL];exact bQ (S2 k h) λq ⟨v,w⟩=>⟨v,by rw[w];exact UP _⟩
 obtain⟨⟨x,j⟩,n,l,m⟩:=E;dsimp only at l m;subst l;have s:bP (fR (aE (f (k+4) "sheet_of") (aA (aB 0) (aA (aB 1) (aA (aB 2) aD))))) (gN (g (k+4) "sheet_of") (aA (aB 0) (aA (aB 1) (aA (aB 2) aD)))) bF [b6 b,b6 c,b6 d,b6 (.loc n1),b6 .non,b8] μ1=b6 (xN "NoSize",[b6 b,b6 c,b6 d,b6 (.loc n1),b6 .non,b8],j):=by unfold bP gN;have B:(aA (aB 0) (aA (aB 1) (aA (aB 2) aD))) [b6 b,b6 c,b6 d,b6 (.loc n1),b6 .non,b8] μ1=b6 ([b,c,d],μ1):=rfl;rw[B];dsimp only[UG];rw[n];rfl
 have A:sup "CreaseError" (xN "NoSize").1=b6 true:=by decide +kernel
 refine(F9 s A).mpr ?_;simp only[Um,Us];refine G5 (n:="size") (bH _ _) (.inl ⟨rfl,rfl⟩) _ λr a p g=>?_;simp only[Um,Us,w_mRet,w_mTup,w_mCons,aN,aI,aL];exact⟨gU,H r a (e.trans (m.trans ((aT _ _).trans p))) g⟩
noncomputable abbrev j6(d:D):Prop:=∀n a,cJ (n+3) a d d=b6 c4
theorem wA(p:Int×Int):j6 (PP p):=λn a=>by show cV (n+3) a (PP p) (PP p)=_;rw[A1,beq_self_eq_true]
theorem r8(s:Str):j6 (.str s):=λn a=>by show b6 (s==s)=_;rw[beq_self_eq_true]
theorem Bk(i:Int):j6 (.int i):=λn a=>by show b6 (i==i)=_;rw[beq_self_eq_true]
theorem S4(b:Bool):j6 (.bl b):=λn a=>by show b6 (b==b)=_;rw[beq_self_eq_true]
theorem wB(a:Nat):j6 (.loc a):=λn b=>by show(if a=a then b6 c4 else _)=_;rw[if_pos rfl]
theorem d9{d:D}{μ:Hm}{t c:String}(h:∀a,μ<+:a->jH a d=b6 t)(b:qD t c=b6 b9):∀a,μ<+:a->bX [d,.ty c] a=b6 (.bl b9,a):=λa p=>by simp only[bX,h a p,UG,b,UQ]
theorem Bl{a:Nat}{xs:List D}{μ:Hm}(h:μ[a]?=b6 (.lst xs)):∀b,μ<+:b->jH b (.loc a)=b6 "list":=λb p=>by simp only[jH,aU p h]
theorem Bm{a:Nat}{kvs:List (List Int×D)}{μ:Hm}(h:μ[a]?=b6 (.dT kvs)):∀b,μ<+:b->jH b (.loc a)=b6 "dict":=λb p=>by simp only[jH,aU p h]
theorem i9{w h:Int}{p:Int×Int}(e:¬ (0<p.1/\p.1<4*w/\0<p.2/\p.2<4*h)):fA w h p=false:=by
 unfold fA;cases a:decide (0<p.1)with
 |false=>rfl|true=>
  cases b:decide (p.1<4*w)with
  |false=>rfl|true=>
   cases c:decide (0<p.2)with
   |false=>rfl|true=>
    cases d:decide (p.2<4*h)with
    |false=>rfl|true=>exact absurd ⟨of_decide_eq_true a,of_decide_eq_true b,of_decide_eq_true c,of_decide_eq_true d⟩ e
theorem r9{w h:Int}{p:Int×Int}(a:dP (cA p.1 p.2) "lufr"=b9):fA w h p=false:=by unfold fA;rw[a,a0u]
theorem S5{w h:Int}(p:Int×Int)(a:fA w h p=b9)(μ:Hm):BadE w h (PP p) μ:=⟨.inr (.inr (.inr ⟨p,rfl,a⟩)),wA p⟩
noncomputable abbrev jA(w h:Int):List D:=[P 0 2,P 2 0,P (4*w) 2,P 2 (4*h),P 2 2,P 0 0,P 4 4,P 2 1,P 1 2,P 0 1,P 1 4]
noncomputable abbrev b7(w h a:Int):List D:=[P (-1) (-1),P (4*w+1+4*a) 1,P 1 (4*h+3+4*a),P 2 (-4),.non,.str "1,1",.int 5]
noncomputable def wC(w h c:Int)(a b:Nat):List D:=jA w h++b7 w h c++[.loc a,.tup [.int 1],.tup [.int 1,.int 1,.int 1],.tup [.str "1",.int 1],.loc b]
theorem S6{w h d:Int}(m:0<=d){a b:Nat}{xs:List D}{μ:Hm}(j:μ[a]?=b6 (.lst xs))(l:μ[b]?=b6 (.dT [])):∀e∈wC w h d a b,BadE w h e μ:=by
 intro e i;have c:∀x y:Int,fA w h (x,y)=b9->BadE w h (P x y) μ:=λx y z=>S5 (x,y) z μ;simp only[wC,jA,b7,Vs,VZ,UX,YT,or_false]at i;rcases i with rfl|rfl|rfl|rfl|rfl|rfl|rfl|rfl|rfl|rfl|rfl|rfl|rfl|rfl|rfl|rfl|rfl|rfl|rfl|rfl|rfl|rfl|rfl
 ·exact c _ _ (i9 (by dsimp only;omega))
 ·exact c _ _ (i9 (by dsimp only;omega))
 ·exact c _ _ (i9 (by dsimp only;omega))
 ·exact c _ _ (i9 (by dsimp only;omega))
 ·exact c _ _ (r9 (by decide +kernel))
 ·exact c _ _ (i9 (by dsimp only;omega))
 ·exact c _ _ (r9 (by decide +kernel))
 ·exact c _ _ (r9 (by decide +kernel))
 ·exact c _ _ (r9 (by decide +kernel))
 ·exact c _ _ (i9 (by dsimp only;omega))
 ·exact c _ _ (r9 (by decide +kernel))
 ·exact c _ _ (i9 (by dsimp only;omega))
 ·exact c _ _ (i9 (by dsimp only;omega))
 ·exact c _ _ (i9 (by dsimp only;omega))
 ·exact c _ _ (i9 (by dsimp only;omega))
 ·exact⟨.inl (d9 (t:="NoneType") (λ_ _=>rfl) (by decide +kernel)),λ_ _=>rfl⟩
 ·exact⟨.inl (d9 (t:="str") (λ_ _=>rfl) (by decide +kernel)),r8 _⟩
 ·exact⟨.inl (d9 (t:="int") (λ_ _=>rfl) (by decide +kernel)),Bk _⟩
 ·exact⟨.inl (d9 (t:="list") (Bl j) (by decide +kernel)),wB _⟩
 ·exact⟨.inr (.inl ⟨_,rfl,by decide⟩),λ_ _=>rfl⟩
 ·exact⟨.inr (.inl ⟨_,rfl,by decide⟩),λ_ _=>rfl⟩
 ·exact⟨.inr (.inr (.inl rfl)),λ_ _=>rfl⟩
 ·exact⟨.inl (d9 (t:="dict") (Bm l) (by decide +kernel)),wB _⟩
theorem wD{xs:List D}{i:Int}(b:0<=i)(h1:i<xs.length):∃e∈xs,atI xs i=b6 e:=by
 have a:i.toNat<xs.length:=by omega
 exact⟨xs[i.toNat],WM a,m3 b (T9 a)⟩
theorem S7(k:Nat)(w h c:Int)(μ:Hm)(Q:D×Hm->Prop)(H:∀e b,μ<+:b->BadE w h e b->Q (e,b)):W (f (k+1) "_law_bad_edge" [.int w,.int h,.int c] μ) Q:=by refine rV (RA k _ _ _ μ) (d4 (cB (cX rfl rfl ((fZ (by decide) (by decide)).mpr (cX rfl rfl ((FX (by decide)).mpr ((cM (by decide)).mpr ?_)))))));have n:0<=c/23%(10:Int)^(20:Int).toNat:=V2 _ (by decide);generalize c/23%(10:Int)^(20:Int).toNat=far at n;refine d4 (aV (show _=b6 (D.loc μ.length,μ++[C.lst (jA w h)])from rfl) ?_);have o:=aT μ (C.lst (jA w h));have d:=bH μ (C.lst (jA w h));generalize μ++[C.lst (jA w h)]=μ1 at o d;generalize μ.length=n1 at d;refine d4 (cB (aV rfl (aV (show _=b6 (D.loc μ1.length,μ1++[C.lst (b7 w h far)])from rfl) ?_)));refine(pI (xs:=jA w h) (ys:=b7 w h far) (aU (aT _ _) d) (bH _ _) (by show(18:Nat)<=Uo;decide)).mpr ?_;have p:=o.trans ((aT μ1 (C.lst (b7 w h far))).trans (aT _ (C.lst (jA w h++b7 w h far))));have i:=bH (μ1++[C.lst (b7 w h far)]) (C.lst (jA w h++b7 w h far));generalize(μ1++[C.lst (b7 w h far)]++[C.lst (jA w h++b7 w h far)])=μ2 at p i;generalize(μ1++[C.lst (b7 w h far)]).length=n2 at i;refine rW (cB (cB (aV rfl (aV (show _=b6 (D.loc (μ2++[C.lst [.int 1,.int 1]]++[C.dT []]).length,μ2++[C.lst [.int 1,.int 1]]++[C.dT []]++[C.lst [.loc μ2.length,.tup [.int 1],.tup [.int 1,.int 1,.int 1],.tup [.str "1",.int 1],.loc (μ2++[C.lst [.int 1,.int 1]]).length]])from rfl) ?_))));have s:=bH μ2 (C.lst [.int 1,.int 1]);have j:=bH (μ2++[C.lst [.int 1,.int 1]]) (C.dT []);have a:=aU (aT _ (C.dT [])) s;have q:=p.trans ((aT μ2 (C.lst [.int 1,.int 1])).trans (aT _ (C.dT [])));have m:=aU ((aT μ2 (C.lst [.int 1,.int 1])).trans (aT _ (C.dT []))) i;generalize(μ2++[C.lst [.int 1,.int 1]]++[C.dT []])=μ3 at j a q m;generalize(μ2++[C.lst [.int 1,.int 1]]).length=nb at j;generalize μ2.length=na at a;refine(pI (aU (aT _ _) m) (bH _ _) (by show(23:Nat)<=Uo;decide)).mpr (cX rfl rfl ((cM (by decide)).mpr ?_));obtain⟨e,u,r⟩:=wD (xs:=wC w h far na nb) (i:=c%23) (V2 _ (by decide)) (V0 _ (by decide));refine(eJ (bH _ _) r).mpr ?_;have l:=(aT μ3 (C.lst [.loc na,.tup [.int 1],.tup [.int 1,.int 1,.int 1],.tup [.str "1",.int 1],.loc nb])).trans (aT _ (C.lst (wC w h far na nb)));exact H e _ (q.trans l) (S6 n (aU l a) (aU l j) e u)
noncomputable def sA(a b:Nat):List D:=[.non,.str "",.str "x",.str "H",.str "hv",.int 1,.bl c4,.loc a,.tup [.str "h"],.loc b,.str " ",.str "h ",.str "ho",.str "V",.int 0]
theorem lP(s:Str)(μ:Hm)(h:((s=="h")||(s=="v")||(s=="o"))=b9):BadK (.str s) μ:=by refine⟨.inr ⟨s,rfl,?_,?_,?_⟩,r8 _⟩<;>(intro e;rw[e]at h;revert h;decide +kernel)
theorem S8{a b:Nat}{xs:List D}{μ:Hm}(d:μ[a]?=b6 (.lst xs))(e:μ[b]?=b6 (.dT [])):∀m∈sA a b,BadK m μ:=by
 intro m c;simp only[sA,UX,YT,or_false]at c;rcases c with rfl|rfl|rfl|rfl|rfl|rfl|rfl|rfl|rfl|rfl|rfl|rfl|rfl|rfl|rfl
 ·exact⟨.inl (d9 (t:="NoneType") (λ_ _=>rfl) (by decide +kernel)),λ_ _=>rfl⟩
 ·exact lP _ _ (by decide +kernel)
 ·exact lP _ _ (by decide +kernel)
 ·exact lP _ _ (by decide +kernel)
 ·exact lP _ _ (by decide +kernel)
 ·exact⟨.inl (d9 (t:="int") (λ_ _=>rfl) (by decide +kernel)),Bk _⟩
 ·exact⟨.inl (d9 (t:="bool") (λ_ _=>rfl) (by decide +kernel)),S4 _⟩
 ·exact⟨.inl (d9 (t:="list") (Bl d) (by decide +kernel)),wB _⟩
 ·exact⟨.inl (d9 (t:="tuple") (λ_ _=>rfl) (by decide +kernel)),λ_ _=>rfl⟩
 ·exact⟨.inl (d9 (t:="dict") (Bm e) (by decide +kernel)),wB _⟩
 ·exact lP _ _ (by decide +kernel)
 ·exact lP _ _ (by decide +kernel)
 ·exact lP _ _ (by decide +kernel)
 ·exact lP _ _ (by decide +kernel)
 ·exact⟨.inl (d9 (t:="int") (λ_ _=>rfl) (by decide +kernel)),Bk _⟩
theorem S9(k:Nat)(c:Int)(μ:Hm)(Q:D×Hm->Prop)(H:∀m b,μ<+:b->BadK m b->Q (m,b)):W (f (k+1) "_law_bad_mark" [.int c] μ) Q:=by refine rV (RB k _ μ) (rW (cB (aV (show _=b6 (D.loc (μ++[C.lst [.str "h"]]++[C.dT []]).length,μ++[C.lst [.str "h"]]++[C.dT []]++[C.lst (sA μ.length (μ++[C.lst [.str "h"]]).length)])from rfl) ?_)));have l:=bH μ (C.lst [.str "h"]);have d:=bH (μ++[C.lst [.str "h"]]) (C.dT []);have a:=aU (aT _ (C.dT [])) l;have i:=(aT μ (C.lst [.str "h"])).trans (aT _ (C.dT []));generalize(μ++[C.lst [.str "h"]]++[C.dT []])=μ3 at d a i;generalize(μ++[C.lst [.str "h"]]).length=nb at d;generalize μ.length=na at a;refine cX rfl rfl ((cM (by decide)).mpr ?_);obtain⟨e,n,j⟩:=wD (xs:=sA na nb) (i:=c%15) (V2 _ (by decide)) (V0 _ (by decide));refine(eJ (bH _ _) j).mpr ?_;have h:=aT μ3 (C.lst (sA na nb));exact H e _ (i.trans h) (S8 (aU h a) (aU h d) e n)
theorem Ta(xs:List D){j:Int}(h:0<=j/\j<=xs.length):eQ xs (b6 j) b8=xs.drop j.toNat:=by
 unfold eQ;have a:HT.sIx xs.length 0 (b6 j)=j.toNat:=by show(if j<0 then(j+(xs.length:Int)).toNat else min j.toNat xs.length)=j.toNat;rw[if_neg (by omega)];omega
 have b:HT.sIx xs.length xs.length b8=xs.length:=HT.sIx_none _ _;rw[a,b,Wo (by rw[U2];exact Up _)]
theorem Tc(xs:List D){j:Int}(h:0<=j/\j<=xs.length):eQ xs b8 (b6 j)=xs.take j.toNat:=by
 unfold eQ;have a:HT.sIx xs.length 0 b8=0:=HT.sIx_none _ _;have b:HT.sIx xs.length xs.length (b6 j)=j.toNat:=by show(if j<0 then(j+(xs.length:Int)).toNat else min j.toNat xs.length)=j.toNat;rw[if_neg (by omega)];omega
 rw[a,b,Wy,ZV]
theorem G8{μ:Hm}{A B:Nat}{ds:List D}{Q:D×Hm->Prop}(hA:μ[A]?=b6 (.lst ds))(hB:μ[B]?=b6 (.lst [])):W (a8 c4 (.loc A) (.loc B) μ) Q↔Q (.bl (!ds.isEmpty),μ):=by
 have a:∀{x:Nat}{xs:List D},μ[x]?=b6 (.lst xs)->dB μ (.loc x)=b6 (.lst xs):=λh=>by simp only[dB,h]
 have e:cV 8 μ (.loc A) (.loc B)=b6 ds.isEmpty:=by show(dB μ (.loc A)).bind (λu=>(dB μ (.loc B)).bind λv=>gG (cJ 7 μ) u v)=_;rw[a hA,a hB];show eB (cJ 7 μ) ds []=_;cases ds<;>rfl
 unfold a8;rw[e];exact W_some
theorem Bn{ex:ME}{B x1 E G I:Option D}{a:Nat}{L:List It}{t:Int}{μ:Hm}{w h:Int}(hz:L.length<=1000)(z:0<=t/\t<=L.length)(v:μ[a]?=b6 (.lst (L.map bG)))(u:∀x∈L,ItOk w h μ x)
  (K:∀d,μ<+:d->∀R:D×Hm->Prop,(∀x c,d<+:c->ItOk w h c x->R (bG x,c))->W (ex [B,x1,b6 (.loc a),E,G,b6 (.int t),I] d) R)(Q:D×Hm->Prop)
  (H:∀(b:Nat)(n:List It)(i:Hm),μ<+:i->i[b]?=b6 (.lst (n.map bG))->(∀x∈n,ItOk w h i x)->n.length<=L.length+1->Q (.loc b,i)) :
  W (aC bM (aC bM (cU (aB 2) dJ (cZ (aB 5))) (bI (aA ex aD))) (cU (aB 2) (cZ (aB 5)) dJ) [B,x1,b6 (.loc a),E,G,b6 (.int t),I] μ) Q:=by
 have j:(L.map bG).length=L.length:=Uc ..;rw[w_mOp,w_mOp];refine F7 ?_;simp only[aI,aL,F5,A3];refine⟨a,rfl,_,v,?_⟩;rw[Tc _ (by rw[j];exact z)];simp only[gT,w_mCons,aN];have r:=aT μ (C.lst ((L.map bG).take t.toNat));have o:=bH μ (C.lst ((L.map bG).take t.toNat));generalize μ++[C.lst ((L.map bG).take t.toNat)]=d at r o;generalize μ.length=n1 at o;refine K d r _ λx c A q=>?_;refine⟨by show(1:Nat)<=Uo;decide,?_⟩;refine(pI (aU (A.trans (aT _ _)) o) (bH _ _) (by rw[UN,j,Vm];simp only[UA,VR];omega)).mpr ?_;have s:=(aT c (C.lst [bG x])).trans (aT _ (C.lst ((L.map bG).take t.toNat++[bG x])));have p:=bH (c++[C.lst [bG x]]) (C.lst ((L.map bG).take t.toNat++[bG x]));generalize(c++[C.lst [bG x]]++[C.lst ((L.map bG).take t.toNat++[bG x])])=μ3 at s p;generalize(c++[C.lst [bG x]]).length=n3 at p;refine F7 ?_;simp only[aI,aL,F5,A3];have m:=r.trans (A.trans s);refine⟨a,rfl,_,aU m v,?_⟩;rw[Ta _ (by rw[j];exact z)];refine(pI (aU (aT _ _) p) (bH _ _) (by rw[Uj,UN,U2,j,Vm];simp only[UA,VR];omega)).mpr ?_;have l:=(aT μ3 (C.lst ((L.map bG).drop t.toNat))).trans (aT _ (C.lst ((L.map bG).take t.toNat++[bG x]++(L.map bG).drop t.toNat)));refine H _ (L.take t.toNat++[x]++L.drop t.toNat) _ (m.trans l) ?_ (λy e=>?_) ?_
 ·rw[bH,WX,WX,a3e,a0I];rfl
 ·rcases Vk.mp e with e|e
  ·rcases Vk.mp e with e|e
   ·exact(u y (Yc e)).mono (m.trans l)
   ·rw[U6.mp e];exact q.mono (s.trans l)
  ·exact(u y (Zh e)).mono (m.trans l)
 ·rw[Uj,Uj,UN,U2,X1];omega
noncomputable def Td(k:Nat):MS:=aX (aB 2)
noncomputable def Te(k:Nat):MS:=aJ (a6 (gE (aP (aC (a8 b9) (aC bB (aB 3) (mC (.int 5))) (mC (.int 3)))) (aP (aC (a8 c4) (aB 2) (bI aD)))) (aX (aC bM (aC bM (cU (aB 2) dJ (cZ (aB 5))) (bI (aA (aW (aA (aC aH (aC aH (aB 2) (aC bB (aB 4) (aE cK (aA (aB 2) aD)))) (mC (.int 0))) (aA (aC aH (mC (.str "hvo")) (aC bB (aC cG (aB 4) (mC (.int 61))) (mC (.int 3)))) aD))) aD))) (cU (aB 2) (cZ (aB 5)) dJ))) bA) (Td k)
noncomputable def Tf(k:Nat):MS:=aJ (a6 (aP (aC (a8 b9) (aC bB (aB 3) (mC (.int 5))) (mC (.int 2)))) (aJ (aQ 6 (aE (f k "_law_amid") (aA (aB 0) (aA (aB 1) (aA (mC (.str "lufr")) aD))))) (aX (aC bM (aC bM (cU (aB 2) dJ (cZ (aB 5))) (bI (aA (aW (aA (aC aH (aB 6) (aC bB (aC cG (aB 4) (mC (.int 15))) (aE cK (aA (aB 6) aD)))) (aA (aE (f k "_law_bad_mark") (aA (aB 4) aD)) aD))) aD))) (cU (aB 2) (cZ (aB 5)) dJ)))) bA) (Te k)
noncomputable def Tg(k:Nat):MS:=aJ (a6 (aP (aC (a8 b9) (aC bB (aB 3) (mC (.int 5))) (mC (.int 1)))) (aX (aC bM (aC bM (cU (aB 2) dJ (cZ (aB 5))) (bI (aA (aW (aA (aE (f k "_law_bad_edge") (aA (aB 0) (aA (aB 1) (aA (aB 4) aD)))) (aA (aC aH (bI (aA (mC (.str "h")) (aA (mC (.str "q")) aD))) (aC bB (aC cG (aB 4) (mC (.int 23))) (mC (.int 2)))) aD))) aD))) (cU (aB 2) (cZ (aB 5)) dJ))) bA) (Tf k)
noncomputable def Th(k:Nat):MS:=aJ (aQ 4 (aC cG (aB 4) (aC bM (aE cK (aA (aB 2) aD)) (mC (.int 1))))) (Tg k)
noncomputable def Ti(k:Nat):MS:=aJ (aQ 5 (aC bB (aB 4) (aC bM (aE cK (aA (aB 2) aD)) (mC (.int 1))))) (Th k)
theorem Tj(k:Nat)(a b c d:D)(μ:Hm):f (k+1) "_law_spoiled" [a,b,c,d] μ=fin ((aJ (aQ 4 (aC cG (aB 3) (mC (.int 5)))) (Ti k)) [b6 a,b6 b,b6 c,b6 d,b8,b8,b8] μ):=RC k a b c d μ
theorem Tn(k:Nat){w h:Int}(hw:1<=w/\w<=6)(hh:1<=h/\h<=6){a:Nat}{L:List It}(hz:L.length<=900){μ:Hm}(o:μ[a]?=b6 (.lst (L.map bG)))(E:∀x∈L,ItOk w h μ x)(c:Int)(Q:D×Hm->Prop)
  (H:∀(b:Nat)(v:List It)(i:Hm),μ<+:i->i[b]?=b6 (.lst (v.map bG))->(∀x∈v,ItOk w h i x)->v.length<=L.length+1->Q (.loc b,i)):W (f (k+3) "_law_spoiled" [.int w,.int h,.loc a,.int c] μ) Q:=by
 refine rV (Tj (k+2) _ _ _ _ μ) (d4 (cX rfl rfl ((fZ (by decide) (by decide)).mpr ?_)));refine d4 (cB (aV rfl (cB (dQ rfl ((mZ o).mpr (aV rfl (w_addI.mpr ((cM (by omega)).mpr ?_))))))));rw[Uc];have t0:0<=c/5%((L.length:Int)+1):=V2 _ (by omega);have t1:c/5%((L.length:Int)+1)<(L.length:Int)+1:=V0 _ (by omega);generalize c/5%((L.length:Int)+1)=t at t0 t1;have Z:0<=t/\t<=L.length:=⟨t0,by omega⟩;refine d4 (cB (aV rfl (cB (dQ rfl ((mZ o).mpr (aV rfl (w_addI.mpr ((fZ (by omega) (by rw[Uc];omega)).mpr ?_))))))));generalize c/5/(((L.map bG).length:Int)+1)=n;by_cases c1:c%5=1
 ·refine m4 (e8 (cB (cX rfl rfl ((cM (by decide)).mpr (aV rfl (w_eqI.mpr ⟨_,rfl,beq_iff_eq.mpr c1,pL ?_⟩))))));refine Bn (by omega) Z o E (λl O R G=>?_) _ H;refine w_mTup.mpr (dD (dQ rfl (S7 _ w h n _ _ λe u p2 Y=>dD (cB (aV (show _=b6 (D.loc u.length,u++[C.lst [.str "h",.str "q"]])from rfl) (cB (cX rfl rfl ((fZ (by decide) (by decide)).mpr (aV rfl ((cM (by decide)).mpr ?_))))))))));obtain⟨m,K,em⟩:=wD (xs:=[.str "h",.str "q"]) (i:=n/23%2) (by omega) (by show n/23%2<2;omega);refine(eJ (bH _ _) em).mpr (aV rfl ⟨gU,G (.be e m) _ (p2.trans (aT _ _)) ⟨Y.mono (aT _ _),?_⟩⟩);simp only[UX,YT,or_false]at K;rcases K with rfl|rfl<;>exact r8 _
 refine iF (e8 (cB (cX rfl rfl ((cM (by decide)).mpr (aV rfl (w_eqI.mpr ⟨_,rfl,beq_eq_false_iff_ne.mpr c1,iG ?_⟩))))));by_cases c2:c%5=2
 ·refine m4 (e8 (cB (cX rfl rfl ((cM (by decide)).mpr (aV rfl (w_eqI.mpr ⟨_,rfl,beq_iff_eq.mpr c2,Be (d4 (dQ rfl ?_))⟩))))));refine Gu k w h "lufr" hw hh _ _ λb μ0 r gb _=>pL ?_;refine Bn (by omega) Z (aU r o) (λx M=>(E x M).mono r) (λl O R G=>?_) _ λb v i p=>H b v i (r.trans p);have B:=aU O gb;have T:=GK hw hh;refine w_mTup.mpr (dD (cB (aV rfl (cB (cX rfl rfl ((fZ (by decide) (by decide)).mpr (dQ rfl ((mZ B).mpr ((cM (by rw[Uc];omega)).mpr ?_)))))))));rw[Uc];have N:0<=n/15%((bR w h "lufr").length:Int):=V2 _ (by omega);have j1:n/15%((bR w h "lufr").length:Int)<((bR w h "lufr").length:Int):=V0 _ (by omega);generalize n/15%((bR w h "lufr").length:Int)=j at N j1;have z:(bR w h "lufr")[j.toNat]?=b6 (bR w h "lufr")[j.toNat]:=T9 (by omega);have he:=UL z;generalize(bR w h "lufr")[j.toNat]=e at z he;refine(eJ B (d:=PP e) (m3 N (by rw[UU,z];rfl))).mpr (dD (dQ rfl ?_));exact S9 _ n _ _ λm u p2 Y=>aV rfl ⟨gU,G (.bm e m) u p2 ⟨he,Y⟩⟩
 refine iF (e8 (cB (cX rfl rfl ((cM (by decide)).mpr (aV rfl (w_eqI.mpr ⟨_,rfl,beq_eq_false_iff_ne.mpr c2,iG ?_⟩))))));have last:∀i,μ<+:i->W (aX (aB 2) [b6 (.int w),b6 (.int h),b6 (.loc a),b6 (.int c),b6 (.int n),b6 (.int t),b8] i) λq=>match q.1 with|.rt d=>Q (d,q.2.2)|.nx=>Q (.non,q.2.2)|_=>False:=λi p=>rW (aV rfl (H a L i p (aU p o) (λx M=>(E x M).mono p) (by omega)));by_cases U:c%5=3
 ·cases T:(L.map bG).isEmpty with
  |true=>refine iF (w_mAndT.mpr (e8 (cB (cX rfl rfl ((cM (by decide)).mpr (aV rfl (w_eqI.mpr ⟨_,rfl,?_⟩)))))));rw[beq_iff_eq.mpr U,if_pos rfl];exact e8 (cB (aV rfl (aV (show _=b6 (D.loc μ.length,μ++[C.lst []])from rfl) ((G8 (aU (aT _ _) o) (bH _ _)).mpr ⟨_,rfl,by rw[T];rfl,iG (last _ (aT _ _))⟩))))|false=>
   refine m4 (w_mAndT.mpr (e8 (cB (cX rfl rfl ((cM (by decide)).mpr (aV rfl (w_eqI.mpr ⟨_,rfl,?_⟩)))))));rw[beq_iff_eq.mpr U,if_pos rfl];refine e8 (cB (aV rfl (aV (show _=b6 (D.loc μ.length,μ++[C.lst []])from rfl) ((G8 (aU (aT _ _) o) (bH _ _)).mpr ⟨_,rfl,by rw[T];rfl,pL ?_⟩))));have r:=aT μ (C.lst []);have hne:0<L.length:=by
    cases L with
    |nil=>cases T|cons _ _=>exact a2M _
   refine Bn (by omega) Z (aU r o) (λx M=>(E x M).mono r) (λl O R G=>?_) _ λb v i p=>H b v i (r.trans p);have A:=aU (r.trans O) o;refine w_mTup.mpr (dD (cB (cB (aV rfl (cB (aV rfl (dQ rfl ((mZ A).mpr ((cM (by rw[Uc];omega)).mpr ?_)))))))));rw[Uc];have N:0<=n%(L.length:Int):=V2 _ (by omega);have j1:n%(L.length:Int)<(L.length:Int):=V0 _ (by omega);generalize n%(L.length:Int)=j at N j1;have z:L[j.toNat]?=b6 L[j.toNat]:=T9 (by omega);have K:=UL z;generalize L[j.toNat]=x at z K;refine(eJ A (d:=bG x) (m3 N (by rw[UU,z];rfl))).mpr (aV rfl ?_);have I:=(E x K).mono (r.trans O);obtain⟨s,ok,es⟩:=Bc (i:=n/61%3) (by omega);have fin:∀{d:D}{y:It},bG y=.tup [d,.str s]->ItOk w h l y->W (aA (aC aH (mC (.str "hvo")) (aC bB (aC cG (aB 4) (mC (.int 61))) (mC (.int 3)))) aD [b6 (.int w),b6 (.int h),b6 (.loc a),b6 (.int c),b6 (.int n),b6 (.int t),b8] l) λq=>(d::q.1).length<=Uo/\R (.tup (d::q.1),q.2):=λ{d y} e ok'=>by refine dD (cB (aV rfl (cB (cX rfl rfl ((fZ (by decide) (by decide)).mpr (aV rfl ((cM (by decide)).mpr ?_)))))));have X:=es (μ:=l);exact aV X (aV rfl ⟨gU,by have:=G y l (UP _) ok';rw[e]at this;exact this⟩)
   cases x with
   |be e m=>exact aV rfl (fin (y:=.be e (.str s)) rfl ⟨I.1,r8 _⟩)|bm p m=>exact aV rfl (fin (y:=.ok p s) rfl ⟨I.1,ok⟩)|ok p s'=>exact aV rfl (fin (y:=.ok p s) rfl ⟨I.1,ok⟩)
 ·refine iF (w_mAndT.mpr (e8 (cB (cX rfl rfl ((cM (by decide)).mpr (aV rfl (w_eqI.mpr ⟨_,rfl,?_⟩)))))));rw[beq_eq_false_iff_ne.mpr U];exact⟨rfl,iG (last _ (UP _))⟩
theorem To{w h:Int}{μ:Hm}{x:It}(I:ItOk w h μ x)(n:Nat)(a:Hm):cJ (n+4) a (bG x) (bG x)=b6 true:=by
 have d:∀{e m:D},j6 e->j6 m->cJ (n+4) a (.tup [e,m]) (.tup [e,m])=b6 true:=λ{e m} j l=>by show(cJ (n+3) a e e).bind (λb=>((cJ (n+3) a m m).bind λi=>(b6 c4).map λc=>i&&c).map λc=>b&&c)=_;rw[j,l];rfl
 cases x with
 |be e m=>exact d I.1.sf I.2|bm p m=>exact d (wA p) I.2.sf|ok p s=>exact d (wA p) (r8 s)
theorem G9{w h:Int}{μ a:Hm}(n:Nat):∀L:List It,(∀x∈L,ItOk w h μ x)->eB (cJ (n+4) a) (L.map bG) (L.map bG)=b6 c4
 |[],_=>rfl|x::L,hL=>by show(cJ (n+4) a (bG x) (bG x)).bind (λb=>(eB (cJ (n+4) a) (L.map bG) (L.map bG)).map λc=>b&&c)=_;rw[To (hL x (UZ ..)),G9 n L λy d=>hL y (UO _ d)];rfl
theorem Tp{w h:Int}{c μ:Hm}{a b:Nat}{L:List It}(i:∀x∈L,ItOk w h c x){Q:D×Hm->Prop}(j:μ[a]?=b6 (.lst (L.map bG)))(l:μ[b]?=b6 (.lst (L.map bG))):W (a8 c4 (.loc a) (.loc b) μ) Q↔Q (.bl b9,μ):=by
 have d:∀{x:Nat}{xs:List D},μ[x]?=b6 (.lst xs)->dB μ (.loc x)=b6 (.lst xs):=λh=>by simp only[dB,h]
 have e:cV 8 μ (.loc a) (.loc b)=b6 true:=by show(dB μ (.loc a)).bind (λu=>(dB μ (.loc b)).bind λv=>gG (cJ 7 μ) u v)=_;rw[d j,d l];exact G9 3 L i
 unfold a8;rw[e];exact W_some
theorem Ha{μ:Hm}{r q:Nat}{s:Str}{d:D}(hd:j6 d){Q:D×Hm->Prop}(m:μ[r]?=b6 (.lst [.str s]))(l:μ[q]?=b6 (.lst [.str s])):W (a8 c4 (.tup [.loc r,d]) (.tup [.loc q,d]) μ) Q↔Q (.bl b9,μ):=by
 have a:∀{x:Nat}{xs:List D},μ[x]?=b6 (.lst xs)->dB μ (.loc x)=b6 (.lst xs):=λh=>by simp only[dB,h]
 have j:cJ 7 μ (.loc r) (.loc q)=b6 true:=by
  show(if r=q then b6 c4 else cV 7 μ (.loc r) (.loc q))=_;split
  ·rfl
  ·show(dB μ (.loc r)).bind (λu=>(dB μ (.loc q)).bind λv=>gG (cJ 6 μ) u v)=_;rw[a m,a l];show(b6 (s==s)).bind (λb=>(b6 c4).map λc=>b&&c)=_;rw[beq_self_eq_true];rfl
 have e:cV 8 μ (.tup [.loc r,d]) (.tup [.loc q,d])=b6 true:=by show(cJ 7 μ (.loc r) (.loc q)).bind (λb=>((cJ 7 μ d d).bind λi=>(b6 c4).map λc=>i&&c).map λc=>b&&c)=_;rw[j,hd 4 μ];rfl
 unfold a8;rw[e];exact W_some
theorem Tq(ns:List Int):eQ (ns.map D.int) (b6 9) b8=(ns.drop 9).map D.int:=by
 unfold eQ;have a:HT.sIx (ns.map D.int).length 0 (b6 9)=min 9 ns.length:=by have:=HT.sIx_nat (ns.map D.int).length 0 9;rw[Uc]at this;rw[Uc];exact this
 rw[a,HT.sIx_none,Uc];by_cases h:9<=ns.length
 ·rw[Y8 h,<- a0I,Wo (by rw[Uc,U2];exact Up _)]
 ·rw[Nat.min_eq_right (by omega),a0S (by rw[Uc];exact Up _),a0S (by omega)];simp
theorem Tr{x a:Str}{m:ME}{b:aF}{μ:Hm}{Q:D×Hm->Prop}:W (iO x a m b μ) Q↔W (m b μ) λp=>Q (.loc p.2.length,p.2++[C.exc x [a] [p.1]]):=W_map
theorem Hb{w h:Int}{μ:Hm}:∀(L:List It)(seen:List (Int×Int)),(∀x∈L,ItOk w h μ x)->j6 (bW L seen).th
 |[],_,_=>λ_ _=>rfl|.be e m::_,_,hL=>(hL _ (UZ ..)).1.sf|.bm _ _::_,_,_=>λ_ _=>rfl|.ok p s::r,seen,hL=>by
  rw[bW];split
  ·exact wA p
  ·exact Hb r _ λx a=>hL x (UO _ a)
noncomputable def sC(m:Int×Int->Str)(ps:List (Int×Int)):List It:=ps.map λp=>.ok p (m p)
theorem Ts(m:Int×Int->Str)(ps:List (Int×Int)):(sC m ps).map bG=(cW m ps).map MD:=by unfold sC cW;rw[Vo,Vo];rfl
theorem Tt{w h:Int}{ps:List (Int×Int)}{m:Int×Int->Str}(M:Mk w h ps m)(μ:Hm):∀x∈sC m ps,ItOk w h μ x:=λx b=>by obtain⟨p,a,rfl⟩:=VM.mp b;exact⟨M.ed p a,M.ok p⟩
theorem Tu{w h:Int}(hw:w<=6)(E:h<=6){ps:List (Int×Int)}{m:Int×Int->Str}(M:Mk w h ps m){n x1 o z x5 q r s u v x xc:Option D}{μ:Hm}{a:Nat}(e:μ[a]?=b6 (.dT (bS (bV m) ps))){G:MS}(Q:Fl×aF×Hm->Prop)
  (H:∀b c,μ<+:c->c[b]?=b6 (.lst ((cW m ps).map MD))->Q (.nx,[n,x1,o,b6 (.loc a),b6 (.loc b),x5,q,r,s,u,v,x,xc],c)) :
  W (jT 3 (aQ 4 (eS (jU (aB 3)) fT (aW (aA (aB 13) (aA (aC aH (aB 3) (aB 13)) aD))))) G [n,x1,o,b6 (.loc a),z,x5,q,r,s,u,v,x,xc] μ) Q:=by
 have lp:=M.len hw E;have j:(μ.set a (.dF (bS (bV m) ps)))[a]?=b6 (.dF (bS (bV m) ps)):=pJ e;refine RY (a:=a) (kvs:=bS (bV m) ps) rfl e ?_;rw[w_mSet];refine o9 (xs:=ps.map PP) (p:=λ_=>c4) (v:=λd=>.tup [d,bV m (dZ d)]) ?_;have hit:jU (aB 3) [n,x1,o,b6 (.loc a),z,x5,q,r,s,u,v,x,xc] (μ.set a (.dF (bS (bV m) ps)))=b6 (cL (.tup (ps.map PP)),ps.length+1,μ.set a (.dF (bS (bV m) ps))):=by simp only[jU,aB,a0M,WC,UG,j,Sk,Uc]
 rw[hit,W_some];refine⟨A0,by rw[Uc],by rw[Uc,Vm];omega,λd c _ _=>?_,λd c hd _ i=>?_,λc i y=>?_⟩
 ·exact w_mTrue.mpr ⟨rfl,UP _⟩
 ·obtain⟨p,l,rfl⟩:=VM.mp hd;simp only[Vs,VZ,w_mTup,w_mCons,aN,w_mOp,aI,aL];refine(RX (.inr (aU i j)) (jY p) (Gw M.nd l)).mpr ⟨gU,rfl,UP _⟩
 ·refine⟨aU i j,?_⟩;dsimp only;have I:μ<+:c.set a (.dT (bS (bV m) ps)):=RZ e i;have A:((ps.map PP).filter λ_=>c4).map (λd=>D.tup [d,bV m (dZ d)])=(cW m ps).map MD:=by rw[a1F.mpr (λ_ _=>rfl),Vo,vX];rfl
  rw[A,Vz]at y;have B:a<μ.length:=(T8.mp e).1;refine H _ _ I ?_;rw[Vz,Vd (by omega)];exact y
noncomputable def pM(c:Int)(a b:Nat):List D:=[.int 0,.int 7,.int (-1-c),.int (7+c),.bl c4,.non,.str "2",.loc a,.tup [.int 1],.loc b,.bl b9]
theorem Tv{c:Int}(i:0<=c){a b:Nat}{xs:List D}{μ:Hm}(e:μ[a]?=b6 (.lst xs))(h:μ[b]?=b6 (.dT [])):∀d∈pM c a b,BadS d μ:=by
 intro d hd;simp only[pM,UX,YT,or_false]at hd;rcases hd with rfl|rfl|rfl|rfl|rfl|rfl|rfl|rfl|rfl|rfl|rfl
 ·exact v9 (by omega) μ
 ·exact v9 (by omega) μ
 ·exact v9 (by omega) μ
 ·exact v9 (by omega) μ
 ·exact G7 _ μ
 ·exact rZ (d9 (t:="NoneType") (λ_ _=>rfl) (by decide +kernel))
 ·exact rZ (d9 (t:="str") (λ_ _=>rfl) (by decide +kernel))
 ·exact rZ (d9 (t:="list") (Bl e) (by decide +kernel))
 ·exact rZ (d9 (t:="tuple") (λ_ _=>rfl) (by decide +kernel))
 ·exact rZ (d9 (t:="dict") (Bm h) (by decide +kernel))
 ·exact G7 _ μ
theorem BadS.mono{d:D}{μ a:Hm}(B:BadS d μ)(p:μ<+:a):BadS d a:=λb c=>B b (p.trans c)
theorem Bo{x b:Str}{i j:Int}{c:aF}{μ:Hm}(hok:att b x=c4)(Q:Bool×Hm->Prop)(H:∀a,μ<+:a->Q (b9,a)):W (aP (aC (a8 c4) (eU b (att b) (iO x b (aW (aA (mC (.int i)) (aA (mC (.int j)) aD))))) (aW (aA (mC (.int i)) (aA (mC (.int j)) aD)))) c μ) Q:=by
 simp only[w_mTest,w_mOp,A5,Tr,w_mTup,w_mCons,aN,aR];refine⟨gU,_,_,_,_,P i j,rfl,bH _ _,hok,?_,gU,?_⟩
 ·simp[XI]
 ·have e:∀a,a8 c4 (P i j) (P i j) a=b6 (.bl (!(i==i&&(j==j&&c4))),a):=λ_=>rfl;rw[e,W_some,beq_self_eq_true,beq_self_eq_true];exact H _ (aT _ _)
theorem Hc(k:Nat){j x1 l m n o p q s u v:Option D}{b z:Nat}{c d:D}{xs:List D}{μ:Hm}(hz:μ[z]?=b6 (.lst [c,d]))(x:μ[b]?=b6 (.lst xs))(h:BadS c μ\/(∃i,c=.int i/\1<=i/\i<=6)/\BadS d μ)(Q:Fl×aF×Hm->Prop)
  (H:∀a,μ<+:a->Q (.nx,[j,x1,l,m,n,b6 (.loc b),o,p,q,s,u,v,b6 (.loc z)],a)) :
  W (a6 (aP (aC (a8 c4) (aE (f (k+5) "_law_refused") (aA (aC aH (aB 12) (mC (.int 0))) (aA (aC aH (aB 12) (mC (.int 1))) (aA (aE fL (aA (aB 5) aD)) aD)))) (aW (aA (bI (aA (mC (.str "size")) aD)) (aA (mC .non) aD))))) (aX (mC (.bl b9))) bA [j,x1,l,m,n,b6 (.loc b),o,p,q,s,u,v,b6 (.loc z)] μ) Q:=by
 simp only[w_mIfS,w_mTest,w_mOp,w_mCall,w_mCons,aN,aI,aL,aR];refine(eJ hz (d:=c) rfl).mpr ((eJ hz (d:=d) rfl).mpr ((vK x).mpr ?_));have e:=aT μ (C.lst xs);refine S3 k (h.imp (λB=>B.mono e) λB=>⟨B.1,B.2.mono e⟩) _ λr A y w=>?_;simp only[w_mTup,gT,w_mCons,aN,aR];refine⟨by show(1:Nat)<=Uo;decide,gU,?_⟩;refine(Ha (d:=.non) (s:="size") (λ_ _=>rfl) (aU (aT _ _) w) (bH _ _)).mpr ?_;simp only[Ud,if_false,w_mNext];exact H _ (e.trans (y.trans (aT _ _)))
noncomputable def Bp(k:Nat):MS:=aX (aE (f (k+2) "_law_is_sheet") (aA (aE (f (k+2) "sheet_of") (aA (aB 1) (aA (aB 2) (aA (aE fL (aA (aB 4) aD)) aD)))) (aA (aW (aA (aB 1) (aA (aB 2) (aA (aE mV (aA (aE k7 (aA (aB 4) aD)) aD)) aD)))) aD)))
noncomputable def Tw(k:Nat):MS:=aJ (a6 (aP (aC (a8 b9) (aC bB (aB 9) (mC (.int 5))) (mC (.int 1)))) (aJ (aQ 11 (aC aH (bI (aA (mC (.int 0)) (aA (mC (.int 7)) (aA (aC l6 (iL (mC (.int 1))) (aB 10)) (aA (aC bM (mC (.int 7)) (aB 10)) (aA (mC (.bl c4)) (aA (mC .non) (aA (mC (.str "2")) (aA (bI (aA (mC (.int 3)) aD)) (aA (aW (aA (mC (.int 1)) aD)) (aA iT (aA (mC (.bl b9)) aD)))))))))))) (aC bB (aC cG (aB 9) (mC (.int 5))) (mC (.int 11))))) (aJ (aQ 12 (aC aH (bI (aA (bI (aA (aB 11) (aA (aB 2) aD))) (aA (bI (aA (aB 1) (aA (aB 11) aD))) aD))) (aC bB (aC cG (aB 9) (mC (.int 55))) (mC (.int 2))))) (a6 (aP (aC (a8 c4) (aE (f (k+2) "_law_refused") (aA (aC aH (aB 12) (mC (.int 0))) (aA (aC aH (aB 12) (mC (.int 1))) (aA (aE fL (aA (aB 5) aD)) aD)))) (aW (aA (bI (aA (mC (.str "size")) aD)) (aA (mC .non) aD))))) (aX (mC (.bl b9))) bA))) bA) (Bp k)
noncomputable def Tx(k:Nat):MS:=aJ (aQ 10 (aC bB (aC cG (aB 9) (mC (.int 110))) (aC l7 (mC (.int 10)) (mC (.int 20))))) (Tw k)
noncomputable def Tz(k:Nat):MS:=aJ (aQ 9 (aE (f (k+2) "_law_draw") (aA (aB 0) (aA (mC (.int 5)) aD)))) (Tx k)
noncomputable def TB(k:Nat):MS:=aJ (a6 (cP (aP (aC (a8 c4) (eU "edge" (att "edge") (iO "NoEdge" "edge" (aW (aA (mC (.int 1)) (aA (mC (.int 1)) aD))))) (aW (aA (mC (.int 1)) (aA (mC (.int 1)) aD))))) (cP (aP (aC (a8 c4) (eU "edge" (att "edge") (iO "Twice" "edge" (aW (aA (mC (.int 3)) (aA (mC (.int 1)) aD))))) (aW (aA (mC (.int 3)) (aA (mC (.int 1)) aD))))) (aP (aC (a8 c4) (eU "corner" (att "corner") (iO "Barred" "corner" (aW (aA (mC (.int 2)) (aA (mC (.int 2)) aD))))) (aW (aA (mC (.int 2)) (aA (mC (.int 2)) aD))))))) (aX (mC (.bl b9))) bA) (Tz k)
noncomputable def TC(k:Nat):MS:=aJ (a6 (cP (aP (aC (a8 c4) (aE (f (k+2) "_law_refused") (aA (aB 1) (aA (aB 2) (aA (aB 7) aD)))) (aW (aA (bI (aA (aC aH (aB 8) (mC (.int 0))) aD)) (aA (aC aH (aB 8) (mC (.int 1))) aD))))) (aP (aC (a8 c4) (aB 7) (aB 5)))) (aX (mC (.bl b9))) bA) (TB k)
noncomputable def TF(k:Nat):MS:=aJ (aQ 8 (aE (f (k+2) "_law_due") (aA (aB 1) (aA (aB 2) (aA (aB 5) aD))))) (TC k)
noncomputable def TH(k:Nat):MS:=aJ (aQ 7 (aE fL (aA (aB 5) aD))) (TF k)
noncomputable def Hd(k:Nat):MS:=aJ (eC (kJ (aA (mC (.int 2)) (aA (mC (.int 5)) aD))) (dE 6) (aQ 5 (aE (f (k+2) "_law_spoiled") (aA (aB 1) (aA (aB 2) (aA (aB 5) (aA (aE (f (k+2) "_law_draw") (aA (aB 0) (aA (aB 6) aD))) aD))))))) (TH k)
noncomputable def TJ(k:Nat):MS:=aJ (aQ 5 (aE fL (aA (aB 4) aD))) (Hd k)
noncomputable def TK(k:Nat):MS:=aJ (jT 3 (aQ 4 (eS (jU (aB 3)) fT (aW (aA (aB 13) (aA (aC aH (aB 3) (aB 13)) aD))))) (aQ 4 (eS (dM (aB 3)) fT (aW (aA (aB 13) (aA (aC aH (aB 3) (aB 13)) aD)))))) (TJ k)
noncomputable def TL(k:Nat):MS:=aJ (aQ 3 (aE (f (k+2) "_law_creases") (aA (aB 1) (aA (aB 2) (aA (cU (aB 0) (cZ (mC (.int 9))) dJ) aD))))) (TK k)
noncomputable def TM(k:Nat):MS:=aJ (aQ 2 (aE (f (k+2) "_law_size") (aA (aE (f (k+2) "_law_draw") (aA (aB 0) (aA (mC (.int 1)) aD))) aD))) (TL k)
theorem TN(k:Nat)(a:D)(μ:Hm):f (k+3) "law" [a] μ=fin ((aJ (aQ 1 (aE (f (k+2) "_law_size") (aA (aE (f (k+2) "_law_draw") (aA (aB 0) (aA (mC (.int 0)) aD))) aD))) (TM k)) [b6 a,b8,b8,b8,b8,b8,b8,b8,b8,b8,b8,b8,b8] μ):=RG k a μ
theorem TQ(k:Nat)(ns:List Int)(hns:ns.length<=63)(μ:Hm):W (f (k+6) "law" [.rol (ns.map D.int)] μ) λr=>r.1=.bl true:=by
 refine rV (TN (k+3) (.rol (ns.map D.int)) μ) ?_;refine d4 (GQ (dQ rfl (vU (k+4) ns 0 (by decide) _ _ λμ1 p1=>GB (k+4) _ _ _ λμ2 p2=>?_)));refine d4 (GQ (dQ rfl (vU (k+4) ns 1 (by decide) _ _ λμ3 p3=>GB (k+4) _ _ _ λμ4 p4=>?_)));have hw:=GA (cell ns 0);have v:=GA (cell ns 1);generalize lO (cell ns 0)=w at hw;generalize lO (cell ns 1)=h at v;refine d4 (rX (dD (aV rfl (dD (aV rfl (dD (F6 (aV rfl ⟨_,rfl,aV rfl (aV rfl (aV rfl ?_))⟩))))))));rw[Tq];refine Ss (k+2) hw v (ns:=ns.drop 9) (by rw[U2];omega) (bH _ _) _ λa3 B m μ5 p5 l5 M g3=>?_;have lp:=M.len hw.2 v.2;refine Bd (Tu hw.2 v.2 M g3 _ λa4 l p6 p=>⟨rfl,?_⟩);refine d4 (dQ rfl ((vK p).mpr ?_));have p7:=aT l (C.lst ((cW m B).map MD));have G:=bH l (C.lst ((cW m B).map MD));generalize l++[C.lst ((cW m B).map MD)]=μ7 at p7 G;generalize l.length=n7 at G;have E:=aU p7 p;rw[<- Ts]at G;unfold Hd;rw[w_mSeq];simp only[w_mForI,AX,w_mCons,aN,aR];refine⟨by decide,?_⟩;refine vD (lo:=2) (n:=3) (λi z a=>∃b L x6,z=[b6 (.rol (ns.map D.int)),b6 (.int w),b6 (.int h),b6 (.loc a3),b6 (.loc a4),b6 (.loc b),x6,b8,b8,b8,b8,b8,b8]/\μ7<+:a/\a[b]?=b6 (.lst (L.map bG))/\(∀x∈L,ItOk w h a x)/\L.length<=B.length+i)
  ⟨n7,sC m B,b8,rfl,UP _,G,Tt M _,by unfold sC;rw[Uc];exact Up _⟩ ?_ ?_
 ·rintro i z a hi ⟨b,L,x6,rfl,pp,A,K,hz⟩;refine⟨_,rfl,w_mSet.mpr (rX (dD (aV rfl (dD (aV rfl (dD (aV rfl (dD (dQ rfl ?_)))))))))⟩;refine vU (k+4) ns (2+(i:Int)) (by omega) _ _ λY j=>aV rfl ?_;refine Tn (k+2) hw v (by omega) (aU j A) (λx O=>(K x O).mono j) _ _ λb' L' μ9 n g9 hL9 hz9=>?_;exact⟨b',L',_,rfl,pp.trans (j.trans n),g9,hL9,by omega⟩
 ·rintro z a ⟨b,L,x6,rfl,pp,A,K,hz⟩;have p:=aU pp E;clear E G p7;refine d4 (dQ rfl ((vK A).mpr ?_));have j:=aT a (C.lst (L.map bG));have H:=bH a (C.lst (L.map bG));generalize a++[C.lst (L.map bG)]=Y at j H;generalize a.length=n8 at H;have u:∀x∈L,ItOk w h Y x:=λx O=>(K x O).mono j;refine d4 (dQ rfl (SX (k+2) (by omega) (aU j A) u _ λμ9 n=>?_));refine iF (Bh (e8 (cB (dQ rfl ?_))));refine S1 k hw v (aU n H) (λx O=>(u x O).mono n) _ λr Z pA gr=>?_;refine aV rfl ((Ha (Hb L [] K) (aU (aT _ _) gr) (bH _ _)).mpr ⟨_,rfl,rfl,?_⟩);have R:=pA.trans (aT Z (C.lst [.str (bW L []).nm]));generalize Z++[C.lst [.str (bW L []).nm]]=μB at R;refine e8 (cX rfl rfl ((Tp K (aU (n.trans R) H) (aU (j.trans (n.trans R)) A)).mpr ⟨_,rfl,rfl,iG ?_⟩));have q1:a<+:μB:=j.trans (n.trans R);generalize(bW L []).nm=nm;generalize(bW L []).th=th;refine iF (Bh (Bo (by decide +kernel) _ λμC pC=>⟨rfl,Bh (Bo (by decide +kernel) _ λμD pD=>⟨rfl,Bo (by decide +kernel) _ λμE pE=>⟨rfl,iG ?_⟩⟩)⟩));have q2:a<+:μE:=q1.trans (pC.trans (pD.trans pE));refine d4 (dQ rfl (vU (k+4) ns 5 (by decide) _ _ λe pF=>?_));generalize cell ns 5=c;have q3:=q2.trans pF;clear q1 q2 pC pD pE pF R pA gr n u H j;refine d4 (cB (cX rfl rfl ((fZ (by decide) (by decide)).mpr (cX rfl rfl ((FX (by decide)).mpr ((cM (by decide)).mpr ?_))))));have hf:0<=c/110%(10:Int)^(20:Int).toNat:=V2 _ (by decide);generalize c/110%(10:Int)^(20:Int).toNat=far at hf;have last:∀U X a,e<+:a->W (Bp (k+3) [b6 (.rol (ns.map D.int)),b6 (.int w),b6 (.int h),b6 (.loc a3),b6 (.loc a4),b6 (.loc b),x6,b6 (.loc n8),b6 (.tup [.str nm,th]),b6 (.int c),b6 (.int far),U,X] a) λq=>match q.1 with|.rt d=>(d,q.2.2).1=.bl c4|.nx=>(D.non,q.2.2).1=.bl c4|_=>False:=λU X μG pG=>by unfold Bp;have p:=aU (q3.trans pG) p;refine rW (rX (dD (rX (dD (aV rfl (dD (aV rfl (dD (dQ rfl ((vK p).mpr (aV rfl ?_)))))))))));refine GF (k+1) hw v M (bH _ _) _ λμH pH=>?_;refine dD (w_mTup.mpr (dD (aV rfl (dD (aV rfl (dD (rX (dD (dQ rfl ?_)))))))));refine(Sm (aU ((aT _ _).trans pH) p) M.nd).mpr (aV rfl ?_);refine(Ri (bH _ _)).mpr (aV rfl ⟨by show(3:Nat)<=Uo;decide,aV rfl ?_⟩);exact Sz (k+2) (by rw[SA,(Sa B).length_eq];omega) _ _ λμI _=>rfl
  by_cases c1:c%5=1
  ·refine m4 (e8 (cB (cX rfl rfl ((cM (by decide)).mpr (aV rfl (w_eqI.mpr ⟨_,rfl,beq_iff_eq.mpr c1,Be (d4 (cB ?_))⟩))))));refine aV (show _=b6 (D.loc (e++[C.lst [.int 3]]++[C.dT []]).length,e++[C.lst [.int 3]]++[C.dT []]++[C.lst (pM far e.length (e++[C.lst [.int 3]]).length)])from rfl) ?_;have ga:=bH e (C.lst [.int 3]);have gd:=bH (e++[C.lst [.int 3]]) (C.dT []);have s:=aU (aT _ (C.dT [])) ga;have pX:=(aT e (C.lst [.int 3])).trans (aT _ (C.dT []));generalize(e++[C.lst [.int 3]]++[C.dT []])=μX at gd s pX;generalize(e++[C.lst [.int 3]]).length=nd at gd;generalize e.length=na at s;refine cB (cX rfl rfl ((fZ (by decide) (by decide)).mpr (aV rfl ((cM (by decide)).mpr ?_))));obtain⟨d,hd,ed⟩:=wD (xs:=pM far na nd) (i:=c/5%11) (V2 _ (by decide)) (V0 _ (by decide));refine(eJ (bH _ _) ed).mpr ?_;have pY:=aT μX (C.lst (pM far na nd));have hb:=Tv hf (aU pY s) (aU pY gd) d hd;have qY:=pX.trans pY;generalize μX++[C.lst (pM far na nd)]=μY at hb qY;refine Be (d4 (cB ?_));refine aV (show _=b6 (D.loc (μY++[C.lst [d,.int h]]++[C.lst [.int w,d]]).length,μY++[C.lst [d,.int h]]++[C.lst [.int w,d]]++[C.lst [.loc μY.length,.loc (μY++[C.lst [d,.int h]]).length]])from rfl) ?_;refine cB (cX rfl rfl ((fZ (by decide) (by decide)).mpr (aV rfl ((cM (by decide)).mpr ?_))));have g1:=bH μY (C.lst [d,.int h]);have g2:=bH (μY++[C.lst [d,.int h]]) (C.lst [.int w,d]);have o:=aU (aT _ (C.lst [.int w,d])) g1;have T:=(aT μY (C.lst [d,.int h])).trans (aT _ (C.lst [.int w,d]));generalize(μY++[C.lst [d,.int h]]++[C.lst [.int w,d]])=μZ at o g2 T;generalize(μY++[C.lst [d,.int h]]).length=z2 at g2;generalize μY.length=z1 at o;have y:=aT μZ (C.lst [.loc z1,.loc z2]);have gW:=bH μZ (C.lst [.loc z1,.loc z2]);generalize μZ++[C.lst [.loc z1,.loc z2]]=μW at y gW;have I:=aU (q3.trans (qY.trans (T.trans y))) A;have N:=hb.mono (T.trans y);have Q:c/55%2=0\/c/55%2=1:=by omega
   rcases Q with Q|Q
   ·refine(eJ gW (d:=.loc z1) (by rw[Q];rfl)).mpr (Bd (Hc k (aU y o) I (.inl N) _ λμV pV=>⟨rfl,?_⟩));exact last _ _ _ (qY.trans (T.trans (y.trans pV)))
   ·refine(eJ gW (d:=.loc z2) (by rw[Q];rfl)).mpr (Bd (Hc k (aU y g2) I (.inr ⟨⟨w,rfl,hw⟩,N⟩) _ λμV pV=>⟨rfl,?_⟩));exact last _ _ _ (qY.trans (T.trans (y.trans pV)))
  ·refine iF (e8 (cB (cX rfl rfl ((cM (by decide)).mpr (aV rfl (w_eqI.mpr ⟨_,rfl,beq_eq_false_iff_ne.mpr c1,iG ?_⟩))))));exact last _ _ _ (UP _)
theorem TR:∀ns:List Int,ns.length<=63->∃a,gQ S ds 6 "law" [.rol (ns.map D.int)] []=b6 (.bl c4,a):=λns b=>by obtain⟨⟨d,a⟩,c,e⟩:=TQ 0 ns b [];dsimp only at e;subst e;refine⟨a,?_⟩;unfold f at c;exact c
end Lw
namespace Lw
open PySem L2 L3
theorem TU(Q:VJ):rH (Kx Q) "NoEdge" "edge":=AU (K:=Kx Q) (x:="NoEdge") (a:="edge") (bn:="CreaseError") (qual:="NoEdge.__init__") (sf:="self") (ar:="edge") (st:=eK 12 0) (s1:=(cD (eK 12 0)).getD 0 (.Pass ⟨0,0,0,0⟩)) (s2:=(cD (eK 12 0)).getD 1 (.Pass ⟨0,0,0,0⟩)) (by kernel_rfl) (by kernel_rfl) (by kernel_rfl) (by kernel_rfl) (by kernel_rfl) (by kernel_rfl) (by kernel_rfl) (by kernel_rfl) (by kernel_rfl) (λkV b c an a ct u v=>by kernel_rfl)
theorem TV(Q:VJ):rH (Kx Q) "Twice" "edge":=AU (K:=Kx Q) (x:="Twice") (a:="edge") (bn:="CreaseError") (qual:="Twice.__init__") (sf:="self") (ar:="edge") (st:=eK 13 0) (s1:=(cD (eK 13 0)).getD 0 (.Pass ⟨0,0,0,0⟩)) (s2:=(cD (eK 13 0)).getD 1 (.Pass ⟨0,0,0,0⟩)) (by kernel_rfl) (by kernel_rfl) (by kernel_rfl) (by kernel_rfl) (by kernel_rfl) (by kernel_rfl) (by kernel_rfl) (by kernel_rfl) (by kernel_rfl) (λkV b c an a ct u v=>by kernel_rfl)
theorem TX(Q:VJ):rH (Kx Q) "Barred" "corner":=AU (K:=Kx Q) (x:="Barred") (a:="corner") (bn:="CreaseError") (qual:="Barred.__init__") (sf:="self") (ar:="corner") (st:=eK 14 0) (s1:=(cD (eK 14 0)).getD 0 (.Pass ⟨0,0,0,0⟩)) (s2:=(cD (eK 14 0)).getD 1 (.Pass ⟨0,0,0,0⟩)) (by kernel_rfl) (by kernel_rfl) (by kernel_rfl) (by kernel_rfl) (by kernel_rfl) (by kernel_rfl) (by kernel_rfl) (by kernel_rfl) (by kernel_rfl) (λkV b c an a ct u v=>by kernel_rfl)
theorem xz(Q:VJ):XcOk S (Kx Q):=QX (by kernel_rfl) (by kernel_rfl) (by kernel_rfl) (by kernel_rfl) (by kernel_rfl) (Zi.mpr ⟨TU Q,Zi.mpr ⟨TV Q,Zi.mpr ⟨TX Q,λ_ z=>nomatch z⟩⟩⟩)
theorem dz(Q:VJ):u6 (Kx Q) ds:=by unfold u6;kernel_rfl
theorem cz(Q:VJ):FP (Kx Q) S.con=true:=by kernel_rfl
theorem nz(Q:VJ):S.no.map (Vj (Kx Q) U1)=S.no.map λ_=>b6 none:=by kernel_rfl
theorem TY{P:Ur}{w:UJ}{Q:VJ}
  {h:Vb}{mg:Str → Option Value}(X:(Kx Q).In h)(G:h.Ns U1 mg):TxtOk P w (Kx Q) mg S ds ∧ ∃f a,Fun (Kx Q) "law" "law" (aO 44) f a ∧ mg "law"=b6 (.ref f) ∧ ∀(s:T6)(u:Value),ZR s a ⟨[u],[]⟩ [("_law_script",u)]:=by
 refine⟨⟨Qy (by decide +kernel),Qz λp b=>(FK X G (dz Q) p b).1,QC (QL X G (cz Q)),λx c e=>?_,QD (QK X G (nz Q)),xz Q,FF (by kernel_rfl) (by kernel_rfl),FF (by kernel_rfl) (by kernel_rfl)⟩,QH X G (dz Q) (by kernel_rfl) (by kernel_rfl)⟩
 ·cases e
end Lw
open PySem PySem.W PyProof.Rows
set_option maxRecDepth 100000 in
set_option maxHeartbeats 0 in
theorem PySem.Challenge.cw_creasecourt_k23_sheets_refused_holds : PySem.Challenge.rw_creasecourt_k23_sheets_refused.Holds := by
 w_on
 refine holds_law (by decide +kernel) fun a=>?_
 refine holds_open (q:=Lw.Vw) (loose:=[]) (Xt:=fun s=>xlAt Lw.Vw [] s&&recOk (a3u (a2e (Vn Ub))) s) (XP:=XL Lw.Vw []) (Yf:=Hook.obs (a4w Lw.Kx Lw.As Lw.pU)) (Ya:=Hook.val (a4w Lw.Kx Lw.As Lw.pU)) (YP:=Hook.says (a4w Lw.Kx Lw.As Lw.pU)) (N:=7866) Lw.run (Hook.of _) (Hook.keeps _) (fun s e=>xl_of s (WY.mp e).1) XL.keeps (by rfl) (by rfl) (by rfl) (fun s e=>recFacts_of (WY.mp e).2) (by rfl) (by first|assumption|decide +kernel) (by decide +kernel) ⟨rfl,rfl,rfl,rfl,rfl,by decide +kernel⟩ ?hw ?hc
 case hw=>w_witness2
 k_fill
 refine L3.walkM (l:=Ub) (S:=Lw.S) (ds:=Lw.ds) (k:=6) (st:=Lw.aO 44) (x:="_law_script") rfl rfl ⟨rfl,by decide,by decide⟩ (fun w h Y=>PySem.W.kIn_of Y) (by kernel_rfl) (by kernel_rfl) ?F (fun c h _=>Lw.TR c h)
 case F=>
  intro w d h b G
  refine' Lw.TY (P:=Vp) (w:=w)  b G
