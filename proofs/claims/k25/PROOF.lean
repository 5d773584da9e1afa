import PyProof.Rows.All
import Wide.All
import OpenK.AllK
import Wide.FinOn
import PyProof.EqAt
import PyProof.EqKinds
import PyProof.TupleCall
import KE.KDictSum
import PyProof.SliceStr2
import PyProof.NeKinds
import PyProof.StrWalks
import PyProof.ConsumeWalk
import KE.KSortTup
import PyProof.StationsW
import OpenK.KOwn
import PyProof.RulesAs
import PyProof.NsDelKeeps
import PyProof.InstStoreFacts
import OpenK.KCls
import PyProof.ExcArgs
import PyProof.ExcAttrAll.ValueError
import KE.KIsAll
import PyProof.Rows.SetFrom
import PyProof.Rows.SortStr
import PyProof.SumAny
import PyProof.EnumMake
import KE.KRevIter
import PyProof.MeetsStr
import PyProof.ListRange
import PyProof.Rows.Range3
import KE.KDictList
import PyProof.PureStr
import PyProof.WalkInts
import PyProof.ConsumeS
import PyProof.ZipIter
import PyProof.AttrMissHeap
import KE.KDictOf
import PyProof.DictItems
import KE.KItemsList
import KE.KEqDict
import PyProof.DictValues
import PyProof.DictWalks
import PyProof.Rows.StrNews
import PySem.Challenge.RW_creasecourt_k25_texts_refused
open Array renaming mk->UP,toList_inj->UY,toList_push->U8,toList_append->Vu,getElem?_eq_some_iff->VR,getD->WA,length_toList->Xe,getElem?_toList->Yb,replicate->Zf,toList_setIfInBounds->Zs,getElem?_eq_getElem->ZF,size_setIfInBounds->ZR,toList_reverse->a0o,toList_extract->a0p,append_assoc->a0K,toList->a2k,map->a3l
open Bool renaming and_eq_true->SW,false_eq_true->S6,not_true->UA,false_ne_true->UN,not_false->Vt,or_eq_true->V3,not_eq_true'->Wi,and_eq_true_iff->Wm,or_false->ZW,false_and->a1X,false_or->a2i,and_true->a2j,or_true->a2z
open Classical renaming byContradiction->Xl,choose->Yz,choose_spec->ZE,not_not->Z5
open False renaming elim->Um
open ForInStep renaming yield->Wr
open Int renaming emod_lt_of_pos->Vg,emod_nonneg->VL,toNat_natCast->WS,le_of_lt->X9,le_refl->Zj
open List renaming getElem?_eq_getElem->S1,getElem?_eq_some_iff->S2,length_map->S3,size_toArray->S5,map_cons->S7,set_cons_zero->S8,set_cons_succ->Ta,length_append->Te,getElem?_append_left->Ti,mem_map->Tp,append_assoc->Ts,mem_cons_of_mem->Tu,getElem?_append_right->Tv,length_cons->Tw,getD_eq_getElem?_getD->Tz,prefix_refl->TB,mem_cons_self->TC,mem_cons->TN,mem_of_getElem?->TQ,length_take->TR,cons_append->TU,getElem?_set_ne->TY,map_map->T8,take_append_drop->Ua,nil_append->Ub,mem_singleton->Ud,getElem?_set_self->Ue,length_drop->Uh,mem_append->Uj,all_cons->Ul,getElem?_map->Uo,pairwise_iff_getElem->Up,getElem?_toArray->Uq,range->Ur,nodup_cons->Uu,map_congr_left->Uv,zipWith_cons_cons->Uy,map_append->UI,find?_cons->UJ,append_nil->UK,pairwise_map->UL,mem_append_right->US,toList_toArray->UT,pairwise_append->UX,getElem?_take_of_lt->UZ,getElem?_reverse->U0,getElem_of_mem->U7,getElem?_eq_none->Vb,mem_range->Vc,length_eq_zero_iff->Vh,length->Vi,getD->Vj,all_eq_true->Vk,take_sublist->Vp,take_of_length_le->Vq,replicate->Vr,drop_of_length_le->Vs,length_reverse->Vv,drop_eq_getElem_cons->Vy,length_filter_le->Vz,getElem_mem->VA,length_set->VG,length_nil->VH,sum_cons->VQ,drop_zero->VS,perm_append_comm->VT,length_replicate->VU,mem_filter->V2,getElem?_replicate->V8,pairwise_cons->Wb,getElem?_drop->Wc,nodup_append->Wf,drop_sublist->Wg,getElem?_of_mem->Wl,filter_cons->Wq,getElem?_eq_none_iff->Wv,map_eq_nil_iff->Ww,getElem?_cons_succ->WD,mem_iff_getElem?->WV,length_singleton->WW,lookup_cons->WX,any_cons->W5,mem_of_mem_take->W7,mem_of_mem_drop->W8,filter_eq_self->Xk,map_nil->Xp,take_zero->Xv,filter_append->Xw,reverse_perm->XG,range'->XH,getElem_take->XI,ext_getElem?->XJ,nodup_range->XW,of_mem_zip->X7,set_append_right->Yc,pairwise_reverse->Yd,lookup->Ym,take_succ_cons->Yu,filterMap_cons->Yv,map_take->Yx,map_drop->Yy,mem_filterMap->YC,map_inj_left->YM,length_range->YN,getElem_drop->YO,take_prefix->Y3,range'_succ->Y4,take_append_of_le_length->Zb,drop_append_of_le_length->Zc,foldl_cons->Zh,filter_map->Zi,take_left->Zx,nodup_nil->Zy,drop_left->Zz,drop_drop->ZA,extract_eq_drop_take->ZO,pairwise_singleton->Z0,zipWith->Z2,map_id'->Z3,filter_eq_nil_iff->Z4,eq_nil_or_concat->a0m,concat_eq_append->a0n,mem_append_left->a0v,map_id->a0w,take_set_of_le->a0F,takeWhile_cons->a0G,length_pos_iff->a0H,getElem?_range->a0I,zip_cons_cons->a0T,foldl_toArray->a0U,find?_eq_none->a0V,contains_cons->a0W,Nodup->a0X,reverse_cons->a1t,isEmpty_cons->a1u,getElem?_set->a1v,mem_reverse->a1D,isEmpty_nil->a1E,countP_cons->a1F,take_left'->a1P,range_succ->a1Q,filter_nil->a1R,drop_left'->a1S,take_succ->a1W
open List.Pairwise renaming sublist->U4,imp_of_mem->Xb,nil->X8,map->ZC,filterMap->a2F
open List.Perm renaming refl->Xa,eq_of_pairwise->Zd,trans->a0x
open List.Sublist renaming length_le->a3e
open List.cons renaming injEq->YK
open Nat renaming le_refl->Th,lt_of_lt_of_le->TF,ne_of_lt->TL,le_trans->Uk,zero_le->UD,lt_irrefl->VD,add_sub_cancel_left->VF,zero_add->VO,ne_of_gt->VP,lt_trans->Wt,lt_or_ge->Wu,sub_self->WQ,lt_trichotomy->WR,not_lt->W4,not_lt_zero->Xi,min_eq_left->Xj,le_of_lt->Xs,add_zero->X6,mul_le_mul->Yr,succ_mul->YY,lt_succ_self->Za,lt_succ_iff->Zp,add_assoc->ZZ,exists_eq_add_of_le->Z1,succ_pos->a0j,sub_zero->a0k,le_of_eq->a0l,mul_le_mul_right->a0E,le_of_lt_succ->a1C,le_of_not_lt->a1O,log2_lt->a3d,mod_lt->a3x
open Ne renaming symm->UH
open Option renaming bind_eq_some_iff->SS,map_eq_some_iff->SY,bind_some->Uc,map_some->Us,isSome_iff_exists->Ut,isSome_map->WG,isSome_some->a0u,getD_none->a0S,none->a2h
open Option.some renaming inj->T3
open Or renaming inr->a0t,inl->a1B
open Prod.mk renaming inj->X5
open PyProof.Rows renaming SortSt->VB,seqObj->VE,callWith_builtin1->VX,callWith_type1->V9,SortKind->WI,IntsAre->WL,envOfC->WN,AllBare->X2,listUpdate_at->Y0,split_pos->Y2,sortedHeap->Y6,pendingOf->ZI,seqEpoch_at->ZT,subscriptTail->a0C,args_cons->a0N,subscriptTail_builtinR->a1c,mergeAt'->a1K,arrOf->a1M,Subscript_->a2g,list_sort_plain->a2N,get?_update_seq->a2P,entry_list_sort->a2Q,wpAny_notIn_heap->a2S,mul_int->a2T,lt_int->a2U,kindOf->a2V,floordiv_int->a2W,entry_proto_collect'->a2X,entry_list_iadd'->a2Y,call_len_slot->a2Z,assign_Tuple_tuple->a3a,assign_Tuple->a3b,IsTup->a3c,slot_list_sort->a3n,mirror->a3s,keyLt'->a3t,args_list_sort->a3w
open PyProof.Rows.Boot renaming isinstance->Wn,tuple->WJ,dict->Yi,str->a1l,sorted->a1m,list->a1n,len->a1o,int->a1p,bool->a1q,ValueError->a1r
open PyProof.Rows.SortSt renaming mk'->TX
open PySem renaming Shared->SX,wpAny_bind->S0,sizeLine->Td,wpAny_pure->Tn,Program->Tt,model->TH,Around->TJ,wpAny->TK,sizeLine_eq->TM,World->TV,starEach->T5,wpAny_mono->T9,Heap->Uw,mainGlobals->Ux,compareOp->UC,mem_of_lookup->UQ,FuncData->U1,wpAny_holding->U2,DictEntry->U5,wpAny_Call_Name_kw->U6,bootBuiltins->U9,Pos->Va,cLine->Vf,sysModules->Vl,wpAny_truthy_bool->Vx,Params->VM,assignEach->VN,backTo->V0,Scope->V1,treeTable->V4,wpAny_newObj_type->V5,NameKind->V7,wpAny_setField_rec->We,behindInMarks->Wj,foldedSetIterable->Wo,wpAny_field->Wx,tupleKind->Wy,Keyword->Wz,rawInt->WC,binaryOp->WH,codeAny_builtin->WK,wpAny_rule->WM,Paired->WO,compEnvC->W0,CmpOp->Xc,plainId_quiet->Xm,attributeBase->Xo,sliceBounds->Xr,wpAny_passesOwn->XA,atKey->XD,codeAny_mono->XE,codeAny->XF,swapsWith->XM,Env->XN,typeIs_str->XQ,recursionLimit->XS,call_meets->XT,wpAny_loadPart_at->XZ,intKind->X0,wpAny_call_entry->Ye,SetTable->Yh,wpAny_isOneOf_itemiter->Yo,OsState->Yq,wpAny_execs_nil->Ys,letOwnedTupleGo->Yt,wpAny_setField->YD,pyNext->YE,keywordEach->YF,excClassObj->YG,Model->YJ,BindsTo->YR,wpAny_isSubtype_exc->YS,assign->Y7,wpAny_dictEntries->Zk,valueAt->Zl,getItem->Zm,callerA->Zn,wpAny_execs_cons->ZG,setFlight->ZH,noteFrame->ZJ,isTrue->ZK,cellsFrom->ZM,subscripted->ZS,IsRangeIter->ZV,wpAny_updateSeq->ZX,wpAny_newTuple->Z7,wpAny_newFunctionEnv_cells->Z8,wpAny_load->Z9,wpAny_call->a0a,size_glued->a0b,bindL->a0c,bindC->a0d,bindArgs->a0e,backToKw->a0f,Operator->a0i,wpAny_standAt->a0z,wpAny_newList->a0A,swappedStores->a0B,ExceptHandler->a0J,wpAny_pyNext_tuple_item->a0L,strValues->a0M,wpAny_typeOf->a0Y,wpAny_pyNext_tuple_end->a0Z,wpAny_pyNext_list_item->a1a,wpAny_Call_method_late->a1b,pyIter->a1e,call_meetsIn->a1f,Tok->a1g,Sem->a1i,Result->a1j,wpAny_pyNext_list_end->a1w,wpAny_notOrdered_dict->a1x,codeAny_call_function->a1y,unbindBehindTheSuite->a1I,getAttr?->a1L,IntMulOk->a1T,GenState->a1U,wpAny_pyIter_tuple->a1Y,wpAny_getItem_heap->a1Z,wpAny_Name->a2a,typeOf->a2b,typeLookup->a2c,getattributeRaised->a2d,closureFor->a2e,builtinsNs->a2f,wpAny_pyIter_list->a2l,wpAny_assign_Name->a2m,wpAny_Return_some->a2n,wpAny_Assign_Name->a2o,storedH->a2p,standAt->a2q,slot_list_getitem->a2r,relabel->a2s,leaving->a2t,lastMarks->a2A,checkBuiltinCall->a2B,call->a2C,PassesOwn->a2E,Arguments->a2J,wpAny_specialOf->a2K,wpAny_loadPart'->a2L,wpAny_dictEpoch->a2M,importedModules->a2O,Fin->a2R,wpAny_Expr_any->a3m,sliceRange_one->a3o,setField->a3p,putAt->a3q,numbered_texts->a3r,firstArgMember->a3v,IsPart->a3y
open PySem.Around renaming under_plainId->VZ,frames_deeper->Z6
open PySem.Builtin.Dict renaming updateFrom->YZ,pairItems->Y5,showsAll->Ze,selfAndRest->a3h,pendingCount->a3i,noArgs->a3j,addKeywords->a3k
open PySem.Builtin.Dict_items renaming ownedTupleIsFree->XB,ownedTupleFields->XC,pairFromOwner->XO,ownsTuple->X1,newIterator->a1G,dictOf->a1H
open PySem.Builtin.Int renaming intBits->Ug,intTooBig->WB
open PySem.Builtin.List renaming listTooLong->Xd,listExtendWith->YB,listSameRef->YQ
open PySem.Builtin.Range renaming rangeSize->a2I
open PySem.Builtin.Str renaming glued->Ui,occurrences->UO,strSliceIndices->Vd,tooLong->Wh
open PySem.Builtin.Tuple renaming tupleHashOf->a2G,tupleCompareSizes->a2H
open PySem.Calls renaming callWith_builtin->XY,evalArgs_plain->Yk,spliced_cons->YA,spliced_nil->YL,Name_function_global->Zq
open PySem.Challenge renaming rw_creasecourt_k25_texts_refused->S4,pw_creasecourt_k25_texts_refused->UB
open PySem.Data renaming fields->To,dict->T4,cls->UU
open PySem.EntryCells renaming newEntry->ZQ
open PySem.F renaming excBase_ValueError->Y9,slot_dict_getitem->Zg,slot_dict_items->Zu,plainAttrs_dict->Zv,slot_dict_get->ZU
open PySem.Heap renaming get?_push_of_some->S9,lt_size->Tg,get?_push_size->TZ,get?_update_other->UM,get?_update_self->VW,SameBut->Xq,get?_none_of_le->Yn,size_push->ZD,ExtBut->a0y
open PySem.Heap.DictOf renaming new->a3z
open PySem.Heap.DictOfH renaming new->a3g
open PySem.Heap.IsSliceOf renaming new->a2y
open PySem.Heap.SameBut renaming refl->ZP,update->a3f
open PySem.NameKind renaming free->VJ,cell->VY
open PySem.Obj renaming mapSeq->VI,isFreed_of_fields->Yj,data_mapFields->YI,mapFields->a2x
open PySem.Paired renaming snoc->YX,length->Zw
open PySem.PassesOwn renaming never->a0s
open PySem.SeqAt renaming ne_of_list_tuple->Vn,EqAt->Zo
open PySem.SetTable renaming below->UG,has->Zt,slot->a1h
open PySem.SetTable.below renaming go->W3
open PySem.SetTable.layClean renaming free->W9
open PySem.SetTable.probe renaming go->W2
open PySem.Str renaming ofString->Tj,length->YH,join->YW
open PySem.StrLaws renaming glued_eq_join->XX,join_split->a0g
open PySem.Txt renaming split->WE
open PySem.Value renaming type->SU,builtin->Tc,ref->Tr,bool->Tx,int->T7,none->UE,str->YT,isStrOf->a1V,isInt->a2v
open PySem.W renaming Frag->SV,kasC_bind->Tf,kasC_pure->Tq,behindTheImports->T6,fnOf->Uz,keepIn->UR,boot_drawn->U3,kasC_range->Ve,nsIn->Vm,kia_one->Vo,findIn->VC,kasC_modify->V6,mg_of->Ws,boot_heap->WT,kasC_get->WY,kasC->WZ,kitOne->Xf,codeIn->Xg,specialIn->Xu,topFrame->XR,cellsFrom_some->XU,notCls->X3,InstAt->X4,kasC_lift->Yg,excIn->Yl,callWith_K->Yp,methodObj->Yw,hashAt->ZL,boot_toks->ZN,looks_findIn->ZY,codeRec_of->a0h,kitx_list->a0q,kitx_dict->a0r,plainGet->a0D,takesIn->a0O,instObj->a0P,findObj->a0Q,OpenLaw->a0R,segRun->a1d,kitAny->a1k,mroIn->a1z,WalkO->a1A,piecesOf->a1J,isFn->a1N,kHook->a3u
open PySem.W.Looks renaming here->WU
open PySem.W.OpenLaw renaming row->UW
open PySem.W.OpenRow renaming toRowW->a1s
open PySem.W.RowW renaming records->a2w
open PySem.W.WData renaming int->W6,weightAll->Xh,layable->Y1,weight->Y8,layableAll->a2D
open PySem.W.WShape renaming has->a2u
open Sum renaming inr->YU,inl->YV
open True renaming intro->Wa
local macro_rules|`(tactic| omega) => `(tactic| lia)
set_option compiler.extract_closed false
set_option bootstrap.genMatcherCode false
set_option Elab.async false
set_option linter.all false
set_option maxRecDepth 100000
set_option linter.all false
namespace L2
open PySem PySem.Spec PyProof.Rows
noncomputable abbrev aI:=Sum Int Str
noncomputable def lI:aI->Value->Bool
 | .inl k,v=>a2v k v
 | .inr x,v=>a1V x v
noncomputable def AD (w:TV):aI->Int
 | .inl k=>hashInt k
 | .inr x=>hashStr w x
theorem jJ:∀ {k:aI}{v:Value},lI k v=true->(∃ i t,k=YV i/\v=T7 i t)\/(∃ x t,k=YU x/\v=YT x t)
 | .inl i,v,h=>by
  obtain ⟨t,e⟩:=Value.isInt_shape (k:=i) (v:=v) h
  exact .inl ⟨i,t,rfl,e⟩
 | .inr x,v,h=>by
  obtain ⟨t,e⟩:=Value.isStrOf_shape (x:=x) (v:=v) h
  exact .inr ⟨x,t,rfl,e⟩
theorem Gn (i:Int)(t:a1g):lI (.inl i) (.int i t)=true:=by simp [lI,a2v]
theorem Gp (x:Str)(t:a1g):lI (.inr x) (.str x t)=true:=by simp [lI,a1V]
theorem Gq (a b:Int):decide ((YV a:aI)=YV b)=(a == b):=by
 by_cases e:a=b
 ·subst e;simp
 ·have h:¬ (YV a:aI)=YV b:=fun q=>e (Sum.inl.inj q)
  rw [decide_eq_false h]
  exact (beq_eq_false_iff_ne.mpr e).symm
theorem Gr (a b:Str):decide ((YU a:aI)=YU b)=decide (a=b):=by
 by_cases e:a=b
 ·subst e;simp
 ·have h:¬ (YU a:aI)=YU b:=fun q=>e (Sum.inr.inj q)
  rw [decide_eq_false h,decide_eq_false e]
theorem Gs (a:Int)(b:Str):decide ((YV a:aI)=YU b)=false:=decide_eq_false (fun q=>nomatch q)
theorem Gu (a:Str)(b:Int):decide ((YU a:aI)=YV b)=false:=decide_eq_false (fun q=>nomatch q)
noncomputable def dW (prog:Tt)(w:TV):PySem.KeyKind prog w aI where
 is:=lI
 hash:=AD w
 inj:=fun v a b l d=>by
  rcases jJ l with ⟨i,t,rfl,rfl⟩|⟨x,t,rfl,rfl⟩
  ·rcases jJ d with ⟨j,u,rfl,e⟩|⟨y,u,rfl,e⟩
   ·injection e with e1 _;rw [e1]
   ·exact nomatch e
  ·rcases jJ d with ⟨j,u,rfl,e⟩|⟨y,u,rfl,e⟩
   ·exact nomatch e
   ·injection e with e1 _;rw [e1]
 byValue:=fun k v h=>by
  rcases jJ h with ⟨i,t,rfl,rfl⟩|⟨x,t,rfl,rfl⟩<;>rfl
 pyHash:=fun c h=>by
  rcases jJ c with ⟨i,t,rfl,rfl⟩|⟨x,t,rfl,rfl⟩
  ·exact wpAny_pyHash_int h
  ·exact wpAny_pyHash_str h
 eqBool:=fun m c h=>by
  rcases jJ m with ⟨i,t,rfl,rfl⟩|⟨x,t,rfl,rfl⟩
  ·rcases jJ c with ⟨j,u,rfl,rfl⟩|⟨y,u,rfl,rfl⟩
   ·rw [Gq] at h;exact wpAny_eqBool_int h
   ·rw [Gs] at h;exact SeqAt.EqAt.int_str i t y u _ _ _ _ h
  ·rcases jJ c with ⟨j,u,rfl,rfl⟩|⟨y,u,rfl,rfl⟩
   ·rw [Gu] at h;exact SeqAt.EqAt.str_int x t j u _ _ _ _ h
   ·rw [Gr] at h;exact wpAny_eqBool_str h
 «strs»:=fun k x t v h=>by
  rcases jJ h with ⟨i,u,rfl,e⟩|⟨y,u,rfl,e⟩
  ·exact nomatch e
  ·injection e with e1 _
   subst e1
   cases v<;>rfl
theorem Gv (prog:Tt)(w:TV)(i:Int)(t:a1g):(dW prog w).is (.inl i) (.int i t)=true:=Gn i t
theorem Gw (prog:Tt)(w:TV)(x:Str)(t:a1g):(dW prog w).is (.inr x) (.str x t)=true:=Gp x t
end L2
namespace L2
open PySem PySem.Spec PyProof.Rows
inductive V where
 | non|bl (b:Bool)|int (i:Int)|str (x:Str)|byt (b:Array UInt8)|flt (b:UInt64)|ref (a:Addr)|ty (n:String)
 deriving DecidableEq
noncomputable def RelV:V->Value->Prop
 | .non,u=>u=UE
 | .bl b,u=>u=Tx b
 | .int i,u=>∃ t,u=T7 i t
 | .str x,u=>∃ t,u=YT x t
 | .byt b,u=>∃ t,u=Value.bytes b t
 | .flt b,u=>∃ t,u=Value.float b t
 | .ref a,u=>u=Tr a
 | .ty n,u=>u=SU n
noncomputable abbrev Vals:List V->List Value->Prop:=WO RelV
theorem Vals.length {xs:List V}{us:List Value}(r:Vals xs us):xs.length=us.length:=Zw r
theorem Vals.get:∀ {xs:List V}{us:List Value}{i:Nat}{x:V},Vals xs us->xs[i]? = some x->∃ u,us[i]? = some u/\RelV x u
 | _,_,_,_,.nil,e=>by simp at e
 | _,_,0,_,.cons r _,e=>by simp at e;subst e;exact ⟨_,rfl,r⟩
 | _,_,i+1,x,.cons _ t,e=>by
  obtain ⟨u,a,b⟩:=Vals.get (i:=i) (x:=x) t (by simpa using e)
  exact ⟨u,by simpa using a,b⟩
theorem Vals.append:∀ {xs a:List V}{us ws:List Value},Vals xs us->Vals a ws->Vals (xs++a) (us++ws)
 | _,_,_,_,.nil,s=>s
 | _,_,_,_,.cons r t,s=>.cons r (Vals.append t s)
theorem Vals.take:∀ {xs:List V}{us:List Value}(n:Nat),Vals xs us->Vals (xs.take n) (us.take n)
 | _,_,0,_=>.nil
 | _,_,_+1,.nil=>.nil
 | _,_,n+1,.cons r t=>.cons r (Vals.take n t)
theorem Vals.drop:∀ {xs:List V}{us:List Value}(n:Nat),Vals xs us->Vals (xs.drop n) (us.drop n)
 | _,_,0,r=>r
 | _,_,_+1,.nil=>.nil
 | _,_,n+1,.cons _ t=>Vals.drop n t
noncomputable def RelO:Option V->Option Value->Prop
 | some v,some u=>RelV v u
 | none,none=>True
 | _,_=>False
noncomputable def KV {κ:Type}:List (κ×V)->List (κ×Value)->Prop:=WO fun (p:κ×V)(q:κ×Value)=>p.1=q.1/\RelV p.2 q.2
noncomputable def kV:aI->V
 | .inl i=>.int i
 | .inr x=>.str x
inductive HO where
 | lst (xs:List V)
 | tup (xs:List V)
 | dK (kvs:List (aI×V))|dT (kvs:List (List aI×V))
 | set (S:Int->Bool)(n:Nat)
 | ins (C dx:Addr)(fs:List (Str×V))
 | own (x:Addr)
 | xd (fs:List (Str×V))
 | met (f x:Addr)
 | rng (lo hi:Int)
 | frz (o:Obj)(u:HO)
 | tbl (ps:Array Value)
 | ext (φ:Uw->Prop)
noncomputable abbrev Hp:=Addr->Option HO
noncomputable def aQ (H:Hp)(a:Addr)(o:HO):Hp:=fun b=>if b=a then some o else H b
theorem cQ {H:Hp}{a:Addr}{o:HO}:aQ H a o a=some o:=by unfold aQ;rw [if_pos rfl]
theorem bH {H:Hp}{a b:Addr}{o:HO}(h:b≠a):aQ H a o b=H b:=by unfold aQ;rw [if_neg h]
theorem lJ {H:Hp}{a b:Addr}{o:HO}(h:H a=some o)(h':H b=none):a≠b:=by
 intro e;subst e;rw [h] at h';cases h'
section
variable (P:Tt)(w:TV)
noncomputable def TupN (h:Uw)(a:Addr)(xs:Array Value):Prop:=∃ o,h.get? a=some o/\o.cls=.type "tuple"/\∃ n,o.data=.seq xs n/\o.dict=none
theorem TupN.tup {h:Uw}{a:Addr}{xs:Array Value}(x:TupN h a xs):a3c h a xs:=let ⟨o,e,c,n,d,_⟩:=x;⟨o,e,c,n,d⟩
theorem TupN.new (h:Uw)(items:Array Value):TupN (h.push { cls:=.type "tuple",data:=.seq items }) h.objs.size items:=⟨_,TZ _ rfl,rfl,_,rfl,rfl⟩
noncomputable def ObjOk (H:Hp)(h:Uw)(a:Addr):HO->Prop
 | .lst c=>c.length<=Td/\∃ (b:List Value)(n:Nat),Vals c b/\h.get? a=some { cls:=.type "list",data:=.seq b.toArray n }
 | .tup c=>c.length<=Td/\∃ b:List Value,Vals c b/\TupN h a b.toArray
 | .dK kvs=>kvs.length<=Td/\(a == Vl)=false/\∃ l,KV kvs l/\h.DictOf (dW P w) a l
 | .dT kvs=>kvs.length<=Td/\(a == Vl)=false/\∃ c:List (List aI×Addr×Value),
   WO (fun (p:List aI×V)(q:List aI×Addr×Value)=>p.1=q.1/\H q.2.1=some (.tup (p.1.map kV))/\RelV p.2 q.2.2) kvs c /\
   ∃ o e m,h.get? a=some o/\o.ExactDict/\o.data=.dict e m/\e.toList=c.map (entryOfKey (Wy (dW P w)))/\(c.map (·.1)).Nodup
 | .set S n=>h.SetOf (X0 P w) a S n
 | .ins C dx fs=>H dx=some (.own a)/\fs.length<=1000/\dx≠a/\h.get? a=some (a0P C dx) /\
   ∃ d,h.Ns1 dx d/\(∀ f,RelO (fs.lookup f) (d f))/\PySem.Within d (fs.map (·.1))
 | .own _=>∃ o,h.get? a=some o
 | .xd fs=>∃ d,h.Ns1 a d/\∀ f,RelO (fs.lookup f) (d f)
 | .rng lo hi=>∃ t u v,h.get? a=some { cls:=.type "range",data:=.fields #[.int lo t,.int hi u,.int 1 v] }
 | .frz o u=>h.get? a=some o/\ObjOk H h a u
 | .tbl ps=>h.get? a=some { cls:=.none,data:=.fields ps }
 | .met f x=>h.get? a=some (Yw (.ref f) (.ref x))
 | .ext φ=>φ h/\(∃ o,h.get? a=some o)/\∀ i j:Uw,φ i->(∀ o,i.get? a=some o->j.get? a=some o)->φ j
noncomputable def HOk (H:Hp)(h:Uw):Prop:=∀ a o,H a=some o->ObjOk P w H h a o
end
section
variable {P:Tt}{w:TV}{H H':Hp}{h h':Uw}{a:Addr}{o:HO}
theorem ObjOk.lt (x:ObjOk P w H h a o):a<h.objs.size:=by
 cases o with
 | lst c=>obtain ⟨_,_,_,_,e⟩:=x;exact Tg e
 | tup c=>obtain ⟨_,_,_,p⟩:=x;exact p.tup.lt
 | dK b=>obtain ⟨_,_,_,_,o,_,_,e,_⟩:=x;exact Tg e
 | dT b=>obtain ⟨_,_,_,_,o,_,_,e,_⟩:=x;exact Tg e
 | set S n=>obtain ⟨o,_,_,_,e,_⟩:=x;exact Tg e
 | ins C d fs=>obtain ⟨_,_,_,e,_⟩:=x;exact Tg e
 | own y=>obtain ⟨_,e⟩:=x;exact Tg e
 | xd fs=>obtain ⟨_,⟨_,_,_,e,_⟩,_⟩:=x;exact Tg e
 | rng j i=>obtain ⟨_,_,_,e⟩:=x;exact Tg e
 | frz l u=>obtain ⟨e,_⟩:=x;exact Tg e
 | tbl m=>exact Tg (show h.get? a=some _ from x)
 | met f y=>exact Tg (show h.get? a=some _ from x)
 | ext q=>obtain ⟨_,⟨_,e⟩,_⟩:=x;exact Tg e
theorem WO.mapP {c d:Type}{F G:c->d->Prop}:∀ {l₁:List c}{l₂:List d},WO F l₁ l₂->(∀ a b,F a b->G a b)->WO G l₁ l₂
 | _,_,.nil,_=>.nil
 | _,_,.cons r t,f=>.cons (f _ _ r) (WO.mapP t f)
theorem ObjOk.stay (x:ObjOk P w H h a o)(k:∀ b u,(b=a\/H b=some (.own a))->h.get? b=some u->h'.get? b=some u)
  (K:∀ b,H b=some (.own a)->H' b=some (.own a))(L:∀ b s,H b=some (.tup s)->H' b=some (.tup s)):ObjOk P w H' h' a o:=by
 induction o with
 | lst s=>obtain ⟨z,m,n,r,e⟩:=x;exact ⟨z,m,n,r,k _ _ (.inl rfl) e⟩
 | tup s=>obtain ⟨z,m,r,i,e,c⟩:=x;exact ⟨z,m,r,i,k _ _ (.inl rfl) e,c⟩
 | dK A=>obtain ⟨z,y,N,r,i,l,j,e,c⟩:=x;exact ⟨z,y,N,r,i,l,j,k _ _ (.inl rfl) e,c⟩
 | dT A=>
  obtain ⟨z,y,s,r,i,l,j,e,c⟩:=x
  exact ⟨z,y,s,WO.mapP r fun p q z=>⟨z.1,L _ _ z.2.1,z.2.2⟩,i,l,j,k _ _ (.inl rfl) e,c⟩
 | set S n=>obtain ⟨i,l,j,t,e,c⟩:=x;exact ⟨i,l,j,t,k _ _ (.inl rfl) e,c⟩
 | ins C O fs=>
  obtain ⟨d,z,ne,e,B,⟨E,l,j,I,c⟩,r⟩:=x
  exact ⟨K _ d,z,ne,k _ _ (.inl rfl) e,B,⟨E,l,j,k _ _ (.inr d) I,c⟩,r⟩
 | own y=>obtain ⟨i,e⟩:=x;exact ⟨i,k _ _ (.inl rfl) e⟩
 | xd fs=>obtain ⟨B,⟨E,l,j,e,c⟩,r⟩:=x;exact ⟨B,⟨E,l,j,k _ _ (.inl rfl) e,c⟩,r⟩
 | rng R Q=>obtain ⟨t,u,v,e⟩:=x;exact ⟨t,u,v,k _ _ (.inl rfl) e⟩
 | frz i u M=>obtain ⟨e,q⟩:=x;exact ⟨k _ _ (.inl rfl) e,M q⟩
 | tbl G=>
  have e:h.get? a=some { cls:=.none,data:=.fields G }:=x
  show h'.get? a=some { cls:=.none,data:=.fields G }
  exact k a _ (.inl rfl) e
 | met f y=>
  have e:h.get? a=some (Yw (.ref f) (.ref y)):=x
  show h'.get? a=some (Yw (.ref f) (.ref y))
  exact k a _ (.inl rfl) e
 | ext T=>obtain ⟨p,⟨o,e⟩,st⟩:=x;exact ⟨st _ _ p fun o q=>k _ _ (.inl rfl) q,⟨o,k _ _ (.inl rfl) e⟩,st⟩
theorem HOk.lt (x:HOk P w H h)(e:H a=some o):a<h.objs.size:=(x a o e).lt
theorem HOk.fresh (x:HOk P w H h)(e:h.objs.size<=a):H a=none:=by
 cases q:H a with
 | none=>rfl
 | some u=>exact absurd (TF (x.lt q) e) (VD _)
theorem HOk.kept (x:HOk P w H h)(k:∀ b u,h.get? b=some u->h'.get? b=some u):HOk P w H h':=fun a o e=>
 (x a o e).stay (fun b u _ q=>k b u q) (fun _ q=>q) fun _ _ q=>q
theorem HOk.laid (x:HOk P w H h)(k:∀ b u,h.get? b=some u->h'.get? b=some u)(j:h.objs.size<=a)(new:ObjOk P w (aQ H a o) h' a o):HOk P w (aQ H a o) h':=fun b u e=>by
 have i:=x.fresh j
 by_cases d:b=a
 ·subst d;rw [cQ] at e;cases e;exact new
 ·rw [bH d] at e
  exact (x b u e).stay (fun c v _ q=>k c v q) (fun c q=>by rw [bH (lJ q i)];exact q) fun c l q=>by rw [bH (lJ q i)];exact q
end
noncomputable def Rd (H:Hp)(a:Addr)(u:HO):Prop:=H a=some u\/∃ o,H a=some (.frz o u)
theorem Rd.of {H:Hp}{a:Addr}{u:HO}(h:H a=some u):Rd H a u:=.inl h
theorem Rd.ok {P:Tt}{w:TV}{H:Hp}{h:Uw}{a:Addr}{u:HO}(r:Rd H a u)(x:HOk P w H h):ObjOk P w H h a u:=by
 rcases r with r|⟨o,r⟩
 ·exact x a u r
 ·obtain ⟨_,q⟩:=x a _ r
  exact q
noncomputable def pM:Option HO->Prop
 | some (.lst _)=>True
 | some (.dK _)=>True
 | some (.dT _)=>True
 | some (.set _ _)=>True
 | some (.ins _ _ _)=>True
 | some (.ext _)=>True
 | _=>False
section
variable {P:Tt}{w:TV}{H:Hp}{h h':Uw}{x e:Addr}{o':HO}
theorem HOk.write (ok:HOk P w H h)(l:pM (H x))(o:e=x\/H e=some (.own x))(k:∀ b u,b≠e->h.get? b=some u->h'.get? b=some u)(n:∃ u,h'.get? e=some u)
  (new:ObjOk P w (aQ H x o') h' x o'):HOk P w (aQ H x o') h':=fun b u q=>by
 have d:∀ c y,H c=some (.own y)->c≠x:=fun c y r z=>by subst z;rw [r] at l;exact l
 have i:∀ c m,H c=some (.tup m)->c≠x:=fun c m r z=>by subst z;rw [r] at l;exact l
 by_cases j:b=x
 ·subst j;rw [cQ] at q;cases q;exact new
 ·rw [bH j] at q
  by_cases a:b=e
  ·have p:H b=some (.own x):=by
    rcases o with z|z
    ·exact absurd (a.trans z) j
    ·rw [a];exact z
   rw [q] at p;cases p
   obtain ⟨v,s⟩:=n
   exact ⟨v,by rw [a];exact s⟩
  ·refine (ok b u q).stay (fun c v hc r=>k c v ?_ r) (fun c r=>by rw [bH (d c b r)];exact r) fun c m r=>by rw [bH (i c m r)];exact r
   rcases hc with rfl|hc
   ·exact a
   ·rintro rfl
    rcases o with z|z
    ·exact d c b hc z
    ·rw [hc] at z;cases z;exact j rfl
end
structure Un (fs ex:List Addr)(H H':Hp)(h h':Uw):Prop where
 keep:∀ b o,h.get? b=some o->H b=none->b∉fs->b∉ex->h'.get? b=some o
 slot:∀ b o,h.get? b=some o->H b=none->b∈fs->b∉ex->∃ sl,h'.get? b=some { o with slots:=sl }
 free:∀ b o,h.get? b=some o->H b=none->b∉ex->H' b=none
 there:∀ b o,h.get? b=some o->b∉ex->∃ o',h'.get? b=some o'
 tups:∀ b xs,H b=some (.tup xs)->H' b=some (.tup xs)
 frzs:∀ b o u,H b=some (.frz o u)->H' b=some (.frz o u)
 tbls:∀ b ps,H b=some (.tbl ps)->∃ more,H' b=some (.tbl (ps++more))
section
variable {fs fs' ex ex':List Addr}{H H1 H2:Hp}{h h1 h2 h':Uw}{a x e:Addr}{o:HO}
theorem Un.any (u:Un fs ex H H1 h h1){b:Addr}{c:Obj}(q:h.get? b=some c)(n:H b=none)(i:b∉ex):∃ j,h1.get? b=some { c with slots:=j }:=by
 by_cases d:b∈fs
 ·exact u.slot b c q n d i
 ·exact ⟨c.slots,u.keep b c q n d i⟩
theorem Un.kept (k:∀ b u,h.get? b=some u->h'.get? b=some u):Un fs ex H H h h':=
 ⟨fun b c q _ _ _=>k b c q,fun b c q _ _ _=>⟨c.slots,k b c q⟩,fun _ _ _ n _=>n,fun b c q _=>⟨c,k b c q⟩,fun _ _ q=>q,fun _ _ _ q=>q,fun _ d q=>⟨#[],by rw [q];simp⟩⟩
theorem Un.refl:Un fs ex H H h h:=Un.kept fun _ _ q=>q
theorem Un.laid (k:∀ b u,h.get? b=some u->h'.get? b=some u)(d:h.objs.size<=a)(c:H a=none):Un fs ex H (aQ H a o) h h' where
 keep:=fun b u q _ _ _=>k b u q
 slot:=fun b u q _ _ _=>⟨u.slots,k b u q⟩
 free:=fun b u q n _=>by rw [bH (TL (TF (Tg q) d))];exact n
 there:=fun b u q _=>⟨u,k b u q⟩
 tups:=fun b i q=>by rw [bH (lJ q c)];exact q
 frzs:=fun b u i q=>by rw [bH (lJ q c)];exact q
 tbls:=fun b j q=>⟨#[],by rw [bH (lJ q c),q];simp⟩
theorem Un.write (d:pM (H x))(p:e=x\/H e=some (.own x))(k:∀ b u,b≠e->h.get? b=some u->h'.get? b=some u)(i:∃ u,h'.get? e=some u):Un fs ex H (aQ H x o) h h':=by
 have m:∀ b,H b=none->b≠x:=fun b n z=>by subst z;rw [n] at d;exact d
 have l:∀ b,H b=none->b≠e:=fun b n z=>by
  subst z
  rcases p with r|r
  ·exact m b n r
  ·rw [n] at r;cases r
 have j:∀ b u,H b=some u->¬ pM (some u)->b≠x:=fun b u q s z=>by subst z;rw [q] at d;exact s d
 refine ⟨fun b u q n _ _=>k b u (l b n) q,fun b u q n _ _=>⟨u.slots,k b u (l b n) q⟩,fun b u q n _=>by rw [bH (m b n)];exact n,fun b u q _=>?_,
  fun b v q=>by rw [bH (j b _ q fun z=>z)];exact q,fun b u v q=>by rw [bH (j b _ q fun z=>z)];exact q,fun b w q=>⟨#[],by rw [bH (j b _ q fun z=>z),q];simp⟩⟩
 by_cases c:b=e
 ·subst c;exact i
 ·exact ⟨u,k b u c q⟩
theorem Un.mono (u:Un fs ex H H1 h h1)(l:∀ b∈fs,b∈fs')(i:∀ b∈ex,b∈ex'):Un fs' ex' H H1 h h1:=
 ⟨fun b d q n j c=>u.keep b d q n (fun z=>j (l b z)) fun z=>c (i b z),fun _ _ q n _ c=>u.any q n fun z=>c (i _ z),fun b d q n c=>u.free b d q n fun z=>c (i b z),fun b d q c=>u.there b d q fun z=>c (i b z),u.tups,u.frzs,u.tbls⟩
end
noncomputable def rZ (h:Uw)(H:Hp):List Addr:=(Ur h.objs.size).filter fun a=>(H a).isSome
noncomputable def jK (h:Uw)(H:Hp):Uw:=PySem.W.hideAll h (rZ h H)
theorem Gx (h:Uw)(H:Hp):(jK h H).objs.size=h.objs.size:=PySem.W.hideAll_size _ _
theorem Gy {h:Uw}{H:Hp}{b:Addr}{o:Obj}(e:h.get? b=some o)(n:H b=none):(jK h H).get? b=some o:=
 PySem.W.hideAll_get _ e fun a=>by
  have q:(H b).isSome=true:=(V2.mp a).2
  rw [n] at q;simp at q
theorem Gz {h:Uw}{H:Hp}{b:Addr}{o:Obj}(e:(jK h H).get? b=some o):h.get? b=some o/\H b=none:=by
 have a:h.get? b=some o:=PySem.W.of_hideAll (rZ h H) e
 refine ⟨a,?_⟩
 cases q:H b with
 | none=>rfl
 | some x=>
  have c:b∈rZ h H:=V2.mpr ⟨Vc.mpr (Tg a),by simp [q]⟩
  have z:(jK h H).get? b=none:=PySem.W.hideAll_none (rZ h H) c
  rw [z] at e;cases e
noncomputable def GA (g h:Uw)(L:Addr):List (Addr×Obj):=(Ur h.objs.size).filterMap fun a=>if a=L\/(g.get? a).isSome=true then none else (h.get? a).map fun o=>(a,o)
noncomputable def rest (g h:Uw)(L d:Addr):List (Addr×Obj):=(GA g h L).filter fun p=>decide (p.1≠d)
end L2
namespace L2
open PySem PySem.Spec PyProof.Rows
structure Mod (K:SV)(mg:Str->Option Value)(base:Uw):Prop where
 kin:K.In base
 glob:base.Ns Ux mg
 blt:∃ mb,base.Ns a2f mb/\∀ x:Str,x ≠ "__name__"->mb x=U9 x
 nolimit:base.NoLimit
structure Cx where
 prog:Tt
 w:TV
 K:SV
 mg:Str->Option Value
 base:Uw
 A:TJ
 N:List Str
 s₀:SX
 H₀:Hp
 env:XN
 outer:List XN
 stack:List XN
 ex:List Addr
 fn:Str->Bool
 calm:Bool
 pn:List (Addr×Obj)
 xe:Value->SX->Prop
noncomputable def dB (l:List XN):List Addr:=l.filterMap (·.frame)
noncomputable abbrev Cx.fs (X:Cx):List Addr:=dB X.outer
noncomputable def m9 (a:V1)(x:Str):Prop:=a.names.lookup x=some .local\/a.names.lookup x=some .cell\/a.names.lookup x=some .free
noncomputable def Loc (a:V1)(x:Str):Prop:=a.names.lookup x=some .local\/a.names.lookup x=some .cell
noncomputable def GB (env:XN)(h:Uw)(m:Str->Option Value)(x:Str)(u:Value):Prop:=
 (env.kindOf x=some .local/\m x=some u)\/((env.kindOf x=some .cell\/env.kindOf x=some .free)/\∃ c,env.cells.lookup x=some c/\h.IsCell c (some u))
structure Cx.Ok (X:Cx):Prop where
 mod:Mod X.K X.mg X.base
 kind:X.env.scope.kind=.function
 glob:X.env.globals=Ux
 blt:X.env.builtins=a2f
 above:X.s₀.heap.objs.size<=X.env.locals
 inj:∀ x y c,X.env.cells.lookup x=some c->X.env.cells.lookup y=some c->x=y
 has:∀ x,(X.env.kindOf x=some .cell\/X.env.kindOf x=some .free)->∃ c,X.env.cells.lookup x=some c
 cab:∀ x c,X.fn x=true->X.env.cells.lookup x=some c->X.s₀.heap.objs.size<=c
 hd:X.calm=true->X.A.handled=none
 frames:X.A.frames=some X.stack
 stk:X.stack=X.outer\/(X.stack=X.env::X.outer/\X.env.frame=some X.env.locals)
 exf:∀ b∈X.ex,b≠X.env.locals/\∀ x c,X.env.cells.lookup x=some c->c≠b
 bs:∀ b o,X.base.get? b=some o->X.s₀.heap.get? b=some o/\X.H₀ b=none
 bsz:X.base.objs.size<=X.s₀.heap.objs.size
 noex:∀ b o,X.base.get? b=some o->b∉X.ex
 exfs:∀ b∈X.ex,b∉X.fs
 funs:X.s₀.heap.FunFrames X.base X.outer
 frf:∀ b∈X.fs,X.H₀ b=none
structure Inv (X:Cx)(a3A:List (Addr×Obj))(σ:List (Option V))(H:Hp)(s:SX):Prop where
 ok:X.Ok
 os:s.os=X.s₀.os
 bare:X2 s.gens
 base:Un X.fs X.ex X.H₀ H X.s₀.heap s.heap
 loc:∃ m,s.heap.Ns X.env.locals m/\∀ (i:Nat)(x:Str)(v:V),X.N[i]? = some x->σ[i]? = some (some v)->m9 X.env.scope x->∃ u,RelV v u/\GB X.env s.heap m x u
 cell:∀ x c,X.env.cells.lookup x=some c->∃ v,s.heap.IsCell c v
 free:H X.env.locals=none
 freeC:∀ x c,X.env.cells.lookup x=some c->H c=none
 pin:∀ p∈X.pn++a3A,s.heap.get? p.1=some p.2/\H p.1=none/\p.1≠X.env.locals/\p.1∉X.fs/\∀ v,p.2.data≠.cell v
 hok:HOk X.prog X.w H s.heap
 len:σ.length=X.N.length
section
variable {X:Cx}{a3A:List (Addr×Obj)}{σ:List (Option V)}{H H':Hp}{s:SX}{h':Uw}
theorem Cx.Ok.nofr (ok:X.Ok){b:Addr}{o:Obj}(e:X.base.get? b=some o):b∉X.fs:=fun a=>by
 have:=(ok.funs.mem a).1
 rw [e] at this;cases this
theorem Inv.bs (I:Inv X a3A σ H s):∀ b o,X.base.get? b=some o->s.heap.get? b=some o/\H b=none:=fun b o e=>
 ⟨I.base.keep b o (I.ok.bs b o e).1 (I.ok.bs b o e).2 (I.ok.nofr e) (I.ok.noex b o e),I.base.free b o (I.ok.bs b o e).1 (I.ok.bs b o e).2 (I.ok.noex b o e)⟩
theorem Inv.bk (I:Inv X a3A σ H s):∀ b o,X.base.get? b=some o->s.heap.get? b=some o:=fun b o e=>(I.bs b o e).1
theorem Inv.mod (I:Inv X a3A σ H s):Mod X.K X.mg X.base:=I.ok.mod
theorem Inv.kIn (I:Inv X a3A σ H s):X.K.In s.heap:=I.ok.mod.kin.keeps I.bk
theorem Inv.lt (I:Inv X a3A σ H s):X.env.locals<s.heap.objs.size:=let ⟨_,a,_⟩:=I.loc;a.lt
theorem Inv.sz (I:Inv X a3A σ H s):X.s₀.heap.objs.size<=s.heap.objs.size:=Uk I.ok.above (Xs I.lt)
theorem Inv.nofs (I:Inv X a3A σ H s){a:Addr}(h:s.heap.objs.size<=a):a∉X.fs:=fun b=>by
 obtain ⟨_,o,c,_⟩:=I.ok.funs.mem b
 exact absurd (TF (Tg c) (Uk I.sz h)) (VD _)
theorem Inv.cne (I:Inv X a3A σ H s):∀ x c,X.env.cells.lookup x=some c->c≠X.env.locals:=fun x c e z=>by
 obtain ⟨v,o,d,hd⟩:=I.cell x c e
 obtain ⟨m,⟨j,i,h,b,a,_⟩,_⟩:=I.loc
 rw [z,b] at d;cases d;rw [a] at hd;cases hd
theorem Inv.funs (I:Inv X a3A σ H s):s.heap.FunFrames X.base X.outer:=by
 have all:∀ (l:List XN),(∀ b∈dB l,b∈X.fs)->X.s₀.heap.FunFrames X.base l->s.heap.FunFrames X.base l:=by
  intro l
  induction l with
  | nil=>intro _ _;trivial
  | cons i r u=>
   intro h m
   obtain ⟨j,⟨L,o,d,n,p,hd⟩,q⟩:=m
   have a:L∈X.fs:=h L (by unfold dB;rw [Yv,d];exact TC)
   obtain ⟨v,e⟩:=I.base.slot L o p (I.ok.frf L a) a fun z=>I.ok.exfs L z a
   exact ⟨j,⟨L,_,d,n,e,hd⟩,u (fun b c=>h b (by unfold dB;rw [Yv,d];exact Tu _ c)) q⟩
 exact all X.outer (fun _ c=>c) I.ok.funs
theorem Inv.stack (I:Inv X a3A σ H s):s.heap.FunFrames X.base X.stack:=by
 rcases I.ok.stk with e|⟨e,a⟩
 ·rw [e];exact I.funs
 ·rw [e]
  obtain ⟨m,b,_⟩:=I.loc
  refine .cons (by rw [I.ok.kind];decide) a b ?_ I.funs
  exact Yn (Uk I.ok.bsz I.ok.above)
theorem Inv.stkSub (I:Inv X a3A σ H s):∀ b∈dB X.stack,b∈X.env.locals::X.fs:=fun b a=>by
 rcases I.ok.stk with e|⟨e,c⟩
 ·rw [e] at a;exact Tu _ a
 ·rw [e] at a
  unfold dB at a
  rw [Yv,c] at a
  exact a
theorem Inv.stkFree (I:Inv X a3A σ H s):∀ b∈dB X.stack,H b=none:=fun b a=>by
 rcases TN.mp (I.stkSub b a) with e|a
 ·rw [e];exact I.free
 ·obtain ⟨_,o,c,_⟩:=I.ok.funs.mem a
  exact I.base.free b o c (I.ok.frf b a) fun z=>I.ok.exfs b z a
theorem Inv.step {g':Array a1U}{t':Nat}{d':Drawn}{ch:List Addr}(I:Inv X a3A σ H s)
  (j:∀ b∈ch,(b∈X.ex\/X.s₀.heap.objs.size<=b)/\b≠X.env.locals/\(∀ x c,X.env.cells.lookup x=some c->c≠b)/\∀ p∈X.pn++a3A,p.1≠b)
  (w:∀ b o,b≠X.env.locals->b∉X.fs->b∉ch->s.heap.get? b=some o->H b=none->h'.get? b=some o)
  (slot:∀ b o,b≠X.env.locals->b∈X.fs->b∉ch->s.heap.get? b=some o->H b=none->∃ Y,h'.get? b=some { o with slots:=Y })(free:∀ b o,b∉ch->s.heap.get? b=some o->H b=none->H' b=none)
  (K:∀ b o,b∉ch->s.heap.get? b=some o->∃ Q,h'.get? b=some Q)
  (T:∀ b E,H b=some (.tup E)->H' b=some (.tup E))(N:∀ b o u,H b=some (.frz o u)->H' b=some (.frz o u))(R:∀ b U,H b=some (.tbl U)->∃ more,H' b=some (.tbl (U++more)))
  (ns:∀ m,s.heap.Ns X.env.locals m->h'.Ns X.env.locals m)(hok:HOk X.prog X.w H' h')(hg:X2 g') :
  Inv X a3A σ H' { s with heap:=h',gens:=g',drawn:=d',toks:=t' }:=by
 have O:∀ b o,X.s₀.heap.get? b=some o->b≠X.env.locals:=fun b o e=>TL (TF (Tg e) I.ok.above)
 have B:∀ b o,X.s₀.heap.get? b=some o->b∉X.ex->b∉ch:=fun b o e a G=>by
  rcases (j b G).1 with z|z
  ·exact a z
  ·exact absurd (TF (Tg e) z) (VD _)
 have h:∀ x c,X.env.cells.lookup x=some c->∀ v,s.heap.IsCell c v->h'.IsCell c v:=fun x c e v ⟨o,L,hd⟩=>by
  have y:c∉ch:=fun z=>(j c z).2.2.1 x c e rfl
  by_cases hc:c∈X.fs
  ·obtain ⟨Y,q⟩:=slot c o (I.cne x c e) hc y L (I.freeC x c e)
   exact ⟨_,q,hd⟩
  ·exact ⟨o,w c o (I.cne x c e) hc y L (I.freeC x c e),hd⟩
 refine ⟨I.ok,I.os,hg,⟨fun b o e n G a=>?_,fun b o e n G a=>?_,fun b o e n a=>?_,fun b o e a=>?_,fun b E e=>T b E (I.base.tups b E e),fun b o E e=>N b o E (I.base.frzs b o E e),fun b U e=>?_⟩,?_,fun x c e=>?_,?_,fun x c e=>?_,fun p hp=>?_,hok,I.len⟩
 ·exact w b o (O b o e) G (B b o e a) (I.base.keep b o e n G a) (I.base.free b o e n a)
 ·obtain ⟨Y,A⟩:=I.base.slot b o e n G a
  obtain ⟨Z,M⟩:=slot b _ (O b o e) G (B b o e a) A (I.base.free b o e n a)
  exact ⟨Z,M⟩
 ·obtain ⟨Q,A⟩:=I.base.there b o e a
  exact free b Q (B b o e a) A (I.base.free b o e n a)
 ·obtain ⟨Q,A⟩:=I.base.there b o e a
  exact K b Q (B b o e a) A
 ·obtain ⟨m1,A⟩:=I.base.tbls b U e
  obtain ⟨m2,M⟩:=R b _ A
  exact ⟨m1++m2,by rw [M,a0K]⟩
 ·obtain ⟨m,hn,hl⟩:=I.loc
  refine ⟨m,ns m hn,fun i x v A M e3=>?_⟩
  obtain ⟨u,r,l⟩:=hl i x v A M e3
  refine ⟨u,r,?_⟩
  rcases l with l|⟨k,c,e,z⟩
  ·exact .inl l
  ·exact .inr ⟨k,c,e,h x c e _ z⟩
 ·obtain ⟨v,z⟩:=I.cell x c e
  exact ⟨v,h x c e v z⟩
 ·obtain ⟨m,⟨o,_,_,L,_⟩,_⟩:=I.loc
  exact free _ o (fun z=>(j _ z).2.1 rfl) L I.free
 ·obtain ⟨v,o,L,hd⟩:=I.cell x c e
  exact free c o (fun z=>(j c z).2.2.1 x c e rfl) L (I.freeC x c e)
 ·obtain ⟨e,n,ne,nf,d⟩:=I.pin p hp
  have y:p.1∉ch:=fun z=>(j p.1 z).2.2.2 p hp rfl
  exact ⟨w p.1 p.2 ne nf y e n,free p.1 p.2 y e n,ne,nf,d⟩
theorem Inv.un {t':Nat}(I:Inv X a3A σ H s)(u:Un X.fs [] H H' s.heap h')(hok:HOk X.prog X.w H' h'):Inv X a3A σ H' { s with heap:=h',toks:=t' }:=by
 obtain ⟨m,⟨o,v,q,i,r⟩,_⟩:=id I.loc
 obtain ⟨y,j⟩:=u.any i I.free (by simp)
 exact I.step (g':=s.gens) (d':=s.drawn) (ch:=[]) (fun _ z=>nomatch z) (fun b o _ h _ e n=>u.keep b o e n h (by simp)) (fun b o _ h _ e n=>u.slot b o e n h (by simp)) (fun b o _ e n=>u.free b o e n (by simp)) (fun b o _ e=>u.there b o e (by simp)) u.tups u.frzs u.tbls (fun w l=>by
  obtain ⟨x,d,c,a,p⟩:=l
  rw [i] at a;cases a
  exact ⟨_,d,c,j,p⟩) hok I.bare
theorem Inv.call {g':Array a1U}{t':Nat}{d':Drawn}{ch:List Addr}(I:Inv X a3A σ H s)(u:Un (dB X.stack) ch H H' s.heap h')(hok:HOk X.prog X.w H' h')(v:X2 g')
  (a:∀ b∈ch,(b∈X.ex\/X.s₀.heap.objs.size<=b)/\b≠X.env.locals/\(∀ x c,X.env.cells.lookup x=some c->c≠b)/\∀ p∈X.pn++a3A,p.1≠b) :
  Inv X a3A σ H' { s with heap:=h',gens:=g',drawn:=d',toks:=t' }:=by
 obtain ⟨m,⟨o,B,A,l,r⟩,_⟩:=id I.loc
 obtain ⟨K,j⟩:=u.any l I.free fun z=>(a _ z).2.1 rfl
 exact I.step (ch:=ch) a (fun b o j q hc e n=>u.keep b o e n (fun z=>(TN.mp (I.stkSub b z)).elim j q) hc) (fun b o _ _ hc e n=>u.any e n hc) (fun b o hc e n=>u.free b o e n hc) (fun b o hc e=>u.there b o e hc) u.tups u.frzs u.tbls (fun E w=>by
  obtain ⟨G,i,h,d,y⟩:=w
  rw [l] at d;cases d
  exact ⟨_,i,h,j,y⟩) hok v
theorem Inv.turned {t':Nat}{a:Addr}(I:Inv X a3A σ H s)(k:∀ b o,b≠a->s.heap.get? b=some o->h'.get? b=some o)(B:H a=none)(h:a≠X.env.locals)
  (h1:a∈X.ex\/X.s₀.heap.objs.size<=a)(l:∀ x c,X.env.cells.lookup x=some c->c≠a)(w:∀ p∈X.pn++a3A,p.1≠a):Inv X a3A σ H { s with heap:=h',toks:=t' }:=by
 have d:∀ b u,H b=some u->b≠a:=fun b u e z=>by rw [z,B] at e;cases e
 refine I.step (g':=s.gens) (d':=s.drawn) (ch:=[a]) (fun b y=>?_) (fun b o _ _ hc e _=>k b o (fun z=>hc (by simp [z])) e) (fun b o _ _ hc e _=>⟨o.slots,k b o (fun z=>hc (by simp [z])) e⟩) (fun _ _ _ _ n=>n)
  (fun b o hc e=>⟨o,k b o (fun z=>hc (by simp [z])) e⟩) (fun _ _ e=>e) (fun _ _ _ e=>e) (fun b G e=>⟨#[],by rw [e];simp⟩) (fun m A=>?_) (fun b u e=>?_) I.bare
 ·have e:b=a:=by simpa using y
  subst e
  exact ⟨h1,h,l,w⟩
 ·obtain ⟨o,j,i,E,r⟩:=A
  exact ⟨o,j,i,k _ o (UH h) E,r⟩
 ·refine (I.hok b u e).stay (fun c v hc q=>k c v ?_ q) (fun _ q=>q) fun _ _ q=>q
  rcases hc with z|z
  ·rw [z];exact d b u e
  ·exact d c _ z
theorem Inv.tok (I:Inv X a3A σ H s)(t:Nat):Inv X a3A σ H { s with toks:=t }:=I.un (h':=s.heap) (t':=t) Un.refl I.hok
theorem Inv.kept {t':Nat}(I:Inv X a3A σ H s)(k:∀ b u,s.heap.get? b=some u->h'.get? b=some u):Inv X a3A σ H { s with heap:=h',toks:=t' }:=I.un (Un.kept k) (I.hok.kept k)
theorem Inv.laid {a:Addr}{o:HO}{t':Nat}(I:Inv X a3A σ H s)(k:∀ b u,s.heap.get? b=some u->h'.get? b=some u)(c:s.heap.objs.size<=a)(new:ObjOk X.prog X.w (aQ H a o) h' a o) :
  Inv X a3A σ (aQ H a o) { s with heap:=h',toks:=t' }:=I.un (Un.laid k c (I.hok.fresh c)) (I.hok.laid k c new)
theorem Inv.write {x e:Addr}{o:HO}{t':Nat}(I:Inv X a3A σ H s)(d:pM (H x))(c:e=x\/H e=some (.own x))(k:∀ b u,b≠e->s.heap.get? b=some u->h'.get? b=some u)(a:∃ u,h'.get? e=some u)
  (new:ObjOk X.prog X.w (aQ H x o) h' x o):Inv X a3A σ (aQ H x o) { s with heap:=h',toks:=t' }:=I.un (Un.write d c k a) (I.hok.write d c k a new)
theorem Inv.pins_of {a:List (Addr×Obj)}(I:Inv X a3A σ H s)(h:∀ p∈a,s.heap.get? p.1=some p.2/\H p.1=none/\p.1≠X.env.locals/\p.1∉X.fs/\∀ v,p.2.data≠.cell v):Inv X a σ H s:=
 ⟨I.ok,I.os,I.bare,I.base,I.loc,I.cell,I.free,I.freeC,fun p b=>(Uj.mp b).elim (fun z=>I.pin p (a0v _ z)) (h p),I.hok,I.len⟩
theorem vC {N:List Str}(e:N.Nodup){i j:Nat}{x:Str}(a:N[i]? = some x)(b:N[j]? = some x):i=j:=by
 obtain ⟨h,c⟩:=S2.mp a
 obtain ⟨l,d⟩:=S2.mp b
 exact (List.getElem_inj e).mp (c.trans d.symm)
theorem r8 {M:YJ}{A:TJ}{E:Value->SX->Prop}{i:Nat}{x:Str}{v:V}{u:Value}{Q:Unit->SX->Prop}(I:Inv X a3A σ H s)(hN:X.N.Nodup)(hi:X.N[i]? = some x)(G:Loc X.env.scope x)(r:RelV v u)
  (h:∀ s',Inv X a3A (σ.set i (some v)) H s'->(∃ a,Xq a s.heap s'.heap/\(a=X.env.locals\/X.env.cells.lookup x=some a))->Q () s')(hf:X.fn x=true\/X.env.scope.names.lookup x=some .local:=by first|exact .inl rfl|exact .inr rfl|assumption):TK M A (storeName X.env x u) Q E s:=by
 obtain ⟨m,hn,hl⟩:=id I.loc
 have hcls:(X.env.scope.kind == .class||(X.env.scope.kind == .module&&X.env.locals != X.env.globals))=false:=by rw [I.ok.kind];rfl
 have N:i<σ.length:=by rw [I.len];exact (S2.mp hi).1
 have cne:=I.cne
 have B:∀ {a:Addr}{h':Uw},(∃ o,s.heap.get? a=some o/\H a=none)->Xq a s.heap h'->HOk X.prog X.w H h':=fun {a h'} ha l b ob e=>by
  obtain ⟨_,_,K⟩:=ha
  refine (I.hok b ob e).stay (fun c w' hc q=>(l.2 c ?_).trans q) (fun _ q=>q) fun _ _ q=>q
  rintro rfl
  rcases hc with rfl|hc
  ·rw [K] at e;cases e
  ·rw [K] at hc;cases hc
 rcases G with O|O
 ·refine wpAny_storeName_local O hn (fun h' hn' l=>?_) hcls
  obtain ⟨oL,_,_,hoL,_⟩:=id hn
  refine h _ ⟨I.ok,I.os,I.bare,⟨fun b o e n R G=>?_,fun b o e n R G=>?_,I.base.free,fun b o e G=>?_,I.base.tups,I.base.frzs,I.base.tbls⟩,⟨_,hn',fun j y v' w L e3=>?_⟩,fun y c e=>?_,I.free,I.freeC,fun p hp=>?_,B ⟨oL,hoL,I.free⟩ l,by simpa using I.len⟩ ⟨_,l,.inl rfl⟩
  ·exact (l.2 b (TL (TF (Tg e) I.ok.above))).trans (I.base.keep b o e n R G)
  ·obtain ⟨sl,w⟩:=I.base.slot b o e n R G
   exact ⟨sl,(l.2 b (TL (TF (Tg e) I.ok.above))).trans w⟩
  ·obtain ⟨o',w⟩:=I.base.there b o e G
   exact ⟨o',(l.2 b (TL (TF (Tg e) I.ok.above))).trans w⟩
  ·by_cases U:j=i
   ·subst U
    rw [hi] at w;cases w
    rw [Ue N] at L
    cases L
    exact ⟨u,r,.inl ⟨O,by simp⟩⟩
   ·rw [TY (UH U)] at L
    obtain ⟨u',r',q⟩:=hl j y v' w L e3
    refine ⟨u',r',?_⟩
    rcases q with ⟨k,e⟩|⟨k,c,e,z⟩
    ·refine .inl ⟨k,?_⟩
     have:y≠x:=fun e=>U (vC hN w (e ▸ hi))
     simp [this,e]
    ·exact .inr ⟨k,c,e,z.sameBut l (cne y c e)⟩
  ·obtain ⟨w',z⟩:=I.cell y c e
   exact ⟨w',z.sameBut l (cne y c e)⟩
  ·obtain ⟨e,n,ne,nf,d⟩:=I.pin p hp
   exact ⟨(l.2 p.1 ne).trans e,n,ne,nf,d⟩
 ·have T:X.fn x=true:=by
   rcases hf with z|z
   ·exact z
   ·rw [z] at O;cases O
  obtain ⟨c,hc⟩:=I.ok.has x (.inl O)
  obtain ⟨w',z⟩:=I.cell x c hc
  refine wpAny_storeName_cell I.ok.kind O hc z (fun h' Y l=>?_)
  obtain ⟨oc,hoc,hocd⟩:=id z
  refine h { s with heap:=h' } ⟨I.ok,I.os,I.bare,⟨fun b o e n R G=>?_,fun b o e n R G=>?_,I.base.free,fun b o e G=>?_,I.base.tups,I.base.frzs,I.base.tbls⟩,⟨m,hn.sameBut l (UH (cne x c hc)),fun j y v' w L e3=>?_⟩,fun y c' e=>?_,I.free,I.freeC,fun p hp=>?_,B ⟨oc,hoc,I.freeC x c hc⟩ l,by simpa using I.len⟩ ⟨c,l,.inr hc⟩
  ·exact (l.2 b (TL (TF (Tg e) (I.ok.cab x c T hc)))).trans (I.base.keep b o e n R G)
  ·obtain ⟨sl,w⟩:=I.base.slot b o e n R G
   exact ⟨sl,(l.2 b (TL (TF (Tg e) (I.ok.cab x c T hc)))).trans w⟩
  ·obtain ⟨o',w⟩:=I.base.there b o e G
   exact ⟨o',(l.2 b (TL (TF (Tg e) (I.ok.cab x c T hc)))).trans w⟩
  ·by_cases U:j=i
   ·subst U
    rw [hi] at w;cases w
    rw [Ue N] at L
    cases L
    exact ⟨u,r,.inr ⟨.inl O,c,hc,Y⟩⟩
   ·rw [TY (UH U)] at L
    obtain ⟨u',r',q⟩:=hl j y v' w L e3
    refine ⟨u',r',?_⟩
    rcases q with q|⟨k,c',e,z'⟩
    ·exact .inl q
    ·refine .inr ⟨k,c',e,z'.sameBut l ?_⟩
     rintro rfl
     exact U (vC hN w (I.ok.inj _ _ _ e hc ▸ hi))
  ·by_cases Z:c'=c
   ·subst Z;exact ⟨_,Y⟩
   ·obtain ⟨w2,z2⟩:=I.cell y c' e
    exact ⟨w2,z2.sameBut l Z⟩
  ·obtain ⟨e,n,ne,nf,d⟩:=I.pin p hp
   refine ⟨(l.2 p.1 ?_).trans e,n,ne,nf,d⟩
   intro q
   rw [q,hoc] at e
   have q':oc=p.2:=T3 e
   exact d w' (by rw [<- q'];exact hocd)
theorem AE {M:YJ}{A:TJ}{E:Value->SX->Prop}{i:Nat}{x:Str}{v:V}{u:Value}{Q:Unit->SX->Prop}(I:Inv X a3A σ H s)(c:X.N.Nodup)(e:X.N[i]? = some x)(j:Loc X.env.scope x)(r:RelV v u)
  (h:∀ a,Inv X a3A (σ.set i (some v)) H a->Q () a)(d:X.fn x=true\/X.env.scope.names.lookup x=some .local:=by first|exact .inl rfl|exact .inr rfl|assumption):TK M A (storeName X.env x u) Q E s:=
 r8 I c e j r (fun a b _=>h a b) d
theorem Inv.call' {a:SX}{ch:List Addr}(I:Inv X a3A σ H s)(l:a.os=s.os)(u:Un (dB X.stack) ch H H' s.heap a.heap)(hok:HOk X.prog X.w H' a.heap)(j:X2 a.gens)
  (d:∀ b∈ch,(b∈X.ex\/X.s₀.heap.objs.size<=b)/\b≠X.env.locals/\(∀ x c,X.env.cells.lookup x=some c->c≠b)/\∀ p∈X.pn++a3A,p.1≠b):Inv X a3A σ H' a:=by
 obtain ⟨h',i,h,n,m⟩:=a
 have e:m=s.os:=l
 subst e
 exact I.call (g':=i) (t':=n) (d':=h) u hok j d
end
noncomputable abbrev XK:=Value->Option Addr->Hp->Prop
noncomputable abbrev St:=List (Option V)
noncomputable abbrev VK:=V->Hp->Prop
noncomputable abbrev TE:=St->Hp->VK->Prop
noncomputable abbrev TT:=St->Hp->(Bool->Hp->Prop)->Prop
noncomputable abbrev TA:=St->Hp->(List V->Hp->Prop)->Prop
structure Ends where
 nx:St->Hp->Prop
 rt:VK
 bk:St->Hp->Prop:=fun _ _=>False
 ct:St->Hp->Prop:=fun _ _=>False
noncomputable abbrev TS:=Ends->St->Hp->Prop
noncomputable def EP (X:Cx)(a3A:List (Addr×Obj))(σ:St)(Q:VK)(u:Value)(a:SX):Prop:=∃ v H',Inv X a3A σ H' a/\RelV v u/\Q v H'
noncomputable def TP (X:Cx)(a3A:List (Addr×Obj))(σ:St)(Q:Bool->Hp->Prop)(b:Bool)(a:SX):Prop:=∃ H',Inv X a3A σ H' a/\Q b H'
noncomputable def AP (X:Cx)(a3A:List (Addr×Obj))(σ:St)(Q:List V->Hp->Prop)(us:List Value)(a:SX):Prop:=∃ vs H',Inv X a3A σ H' a/\Vals vs us/\Q vs H'
noncomputable def SP (X:Cx)(a3A:List (Addr×Obj))(D:Ends)(f:Flow)(c:SX):Prop:=
 match f with
 | .next=>∃ a b,Inv X a3A a b c/\D.nx a b
 | .brk=>∃ a b,Inv X a3A a b c/\D.bk a b
 | .cont=>∃ a b,Inv X a3A a b c/\D.ct a b
 | .ret u=>∃ v a b,Inv X a3A a b c/\RelV v u/\D.rt v b
noncomputable def PE (X:Cx)(e:Expr)(t:TE):Prop:=
 ∀ (a3A:List (Addr×Obj))(s:SX)(σ:St)(H:Hp)(Q:VK),Inv X a3A σ H s->t σ H Q->TK (TH X.prog X.w) X.A (eval e X.env) (EP X a3A σ Q) X.xe s
noncomputable def PT (X:Cx)(e:Expr)(t:TT):Prop:=
 ∀ (a3A:List (Addr×Obj))(s:SX)(σ:St)(H:Hp)(Q:Bool->Hp->Prop),Inv X a3A σ H s->t σ H Q->TK (TH X.prog X.w) X.A (ZK e X.env (eval e X.env)) (TP X a3A σ Q) X.xe s
noncomputable def PW (X:Cx)(e:Expr)(t:TT):Prop:=
 ∀ (a:a1i Value)(a3A:List (Addr×Obj))(s:SX)(σ:St)(H:Hp)(Q:Bool->Hp->Prop),Inv X a3A σ H s->t σ H Q->TK (TH X.prog X.w) X.A (ZK e X.env a) (TP X a3A σ Q) X.xe s
theorem PW.pt {X:Cx}{e:Expr}{t:TT}(h:PW X e t):PT X e t:=h _
noncomputable def PA (X:Cx)(es:List Expr)(t:TA):Prop:=
 ∀ (pos:Va)(a3A:List (Addr×Obj))(s:SX)(σ:St)(H:Hp)(Q:List V->Hp->Prop),Inv X a3A σ H s->t σ H Q->TK (TH X.prog X.w) X.A (spliced (V0 pos (T5 es X.env))) (AP X a3A σ Q) X.xe s
noncomputable def PS (X:Cx)(st:Stmt)(t:TS):Prop:=
 ∀ (a3A:List (Addr×Obj))(s:SX)(σ:St)(H:Hp)(D:Ends),Inv X a3A σ H s->t D σ H->TK (TH X.prog X.w) X.A (exec st X.env) (SP X a3A D) X.xe s
noncomputable def PSs (X:Cx)(st:List Stmt)(t:TS):Prop:=
 ∀ (a3A:List (Addr×Obj))(s:SX)(σ:St)(H:Hp)(D:Ends),Inv X a3A σ H s->t D σ H->TK (TH X.prog X.w) X.A (execs st X.env) (SP X a3A D) X.xe s
theorem aU {c:Type}{t:a1i c}{Q b:c->SX->Prop}{M:YJ}{A:TJ}{E:Value->SX->Prop}{s:SX}(h:TK M A t Q E s)(d:∀ a s,Q a s->b a s):TK M A t b E s:=T9 h d fun _ _ x=>x
end L2
namespace L2
open PySem PySem.Spec PyProof.Rows
section
variable {X:Cx}
noncomputable def AF (i:Nat):TE:=fun σ H Q=>∃ v,σ[i]? = some (some v)/\Q v H
noncomputable def tC (v:V):TE:=fun _ H Q=>Q v H
theorem GC {i:Nat}{x:Str}{pos:Va}(n:X.N[i]? = some x)(w:m9 X.env.scope x)(hd:(x == ("__debug__":Str))=false:=by decide) (j:(x == ("__classdict__":Str))=false:=by decide):PE X (.Name x pos) (AF i):=by
 intro d s y H Q I h
 obtain ⟨v,e,h⟩:=h
 obtain ⟨m,q,o⟩:=I.loc
 obtain ⟨u,r,l⟩:=o i x v n e w
 have fin:EP X d y Q u s:=⟨v,H,I,r,h⟩
 rcases l with ⟨b,p⟩|⟨b,c,hc,a⟩
 ·exact a2a (wpAny_loadName_local I.ok.kind b q p fin) hd
 ·rcases b with b|b
  ·exact a2a (wpAny_loadName_cell I.ok.kind b hc a fin) hd
  ·exact a2a (wpAny_loadName_free I.ok.kind b hc a fin j) hd
theorem GD {i j pos}:PE X (.Constant (.int i) j pos) (tC (.int i)):=fun _ _ _ H _ I h=>wpAny_Constant_int ⟨.int i,H,I.tok _,⟨_,rfl⟩,h⟩
theorem GF {b j pos}:PE X (.Constant (.bool b) j pos) (tC (.bl b)):=fun _ _ _ H _ I h=>Constant_bool ⟨.bl b,H,I,rfl,h⟩
theorem GG {j pos}:PE X (.Constant .none j pos) (tC .non):=fun _ _ _ H _ I h=>Constant_none ⟨.non,H,I,rfl,h⟩
theorem GH {x j pos}:PE X (.Constant (.str x) j pos) (tC (.str x)):=fun _ _ _ H _ I h=>Calls.Constant_str ⟨.str x,H,I.tok _,⟨_,rfl⟩,h⟩
noncomputable def Gl (X:Cx)(x:Str):Prop:=X.env.kindOf x=some .globalImplicit
theorem jL {E:Value->SX->Prop}{a3A:List (Addr×Obj)}{s:SX}{σ:St}{H:Hp}{x:Str}{u:Value}{pos:Va}{Q:Value->SX->Prop}(I:Inv X a3A σ H s)(a:Gl X x)(b:X.mg x=some u)(h:Q u s)
  (hd:(x == ("__debug__":Str))=false:=by decide):TK (TH X.prog X.w) X.A (eval (.Name x pos) X.env) Q E s:=
 Zq I.ok.kind a (Calls.loadGlobal_global (by rw [I.ok.glob];exact I.mod.glob.keeps I.bk) b h) hd
theorem iT {E:Value->SX->Prop}{a3A:List (Addr×Obj)}{s:SX}{σ:St}{H:Hp}{x:Str}{u:Value}{pos:Va}{Q:Value->SX->Prop}(I:Inv X a3A σ H s)(c:Gl X x)(d:X.mg x=none)(i:U9 x=some u)(h:Q u s)
  (e:x ≠ "__name__":=by decide) (hd:(x == ("__debug__":Str))=false:=by decide):TK (TH X.prog X.w) X.A (eval (.Name x pos) X.env) Q E s:=by
 obtain ⟨j,a,b⟩:=I.mod.blt
 exact Zq I.ok.kind c (Calls.loadGlobal_builtin (by rw [I.ok.glob];exact I.mod.glob.keeps I.bk) d (by rw [I.ok.blt];exact a.keeps I.bk) ((b x e).trans i) h) hd
theorem GJ {x:Str}{v:V}{u:Value}{pos:Va}(a:Gl X x)(b:X.mg x=some u)(r:RelV v u)(hd:(x == ("__debug__":Str))=false:=by decide):PE X (.Name x pos) (tC v):=
 fun _ _ _ H _ I h=>jL I a b ⟨v,H,I,r,h⟩ hd
theorem GK {x:Str}{v:V}{u:Value}{pos:Va}(a:Gl X x)(b:X.mg x=none)(d:U9 x=some u)(r:RelV v u)(c:x ≠ "__name__":=by decide) (hd:(x == ("__debug__":Str))=false:=by decide):PE X (.Name x pos) (tC v):=
 fun _ _ _ H _ I h=>iT I a b d ⟨v,H,I,r,h⟩ c hd
variable {a b:Expr}{ta tb:TE}{pos:Va}
noncomputable def tB (t:TE):TT:=fun σ H Q=>t σ H fun x d=>∃ c,x=.bl c/\Q c d
theorem GL {e:Expr}{t:TE}(h:PE X e t)(m:∀ c,ZK e X.env c=(do let v <- c;a2q e.pos;holding [v] (truthy v)):=by intro _;rfl):PT X e (tB t):=by
 intro i s p H Q I hw
 refine isTrue_plain (aU (h i s p H _ I hw) fun v r ⟨x,j,l,o,n⟩=>?_) (m _)
 obtain ⟨d,rfl,q⟩:=n
 cases o
 exact Vx ⟨j,l,q⟩
variable {tA tB':TT}{rest:List Expr}
noncomputable def GN (t u:TT):TT:=fun σ H Q=>t σ H fun c d=>if c=true then u σ d Q else Q false d
noncomputable def GO (t u:TT):TT:=fun σ H Q=>t σ H fun c d=>if c=true then Q true d else u σ d Q
noncomputable def GP (t:TT):TT:=fun σ H Q=>t σ H fun c d=>Q (!c) d
theorem GQ (i:PT X a tA):PW X (.BoolOp .And [a] pos) tA:=by
 intro m d s j H Q I h
 refine isTrue_and (aU (i d s j H Q I h) fun c l e=>?_)
 cases c with
 | true=>exact isTrue_and_nil e
 | false=>exact e
theorem GR (i:PT X a tA):PW X (.BoolOp .Or [a] pos) tA:=by
 intro m d s j H Q I h
 refine isTrue_or (aU (i d s j H Q I h) fun c l e=>?_)
 cases c with
 | false=>exact isTrue_or_nil e
 | true=>exact e
theorem GS (m:PT X a tA)(n:PW X (.BoolOp .And (b::rest) pos) tB'):PW X (.BoolOp .And (a::b::rest) pos) (GN tA tB'):=by
 intro p d s l H Q I h
 refine isTrue_and (aU (m d s l H _ I h) fun c o ⟨e,i,j⟩=>?_)
 cases c with
 | true=>exact n p d o l e Q i j
 | false=>exact ⟨e,i,j⟩
theorem GU (m:PT X a tA)(n:PW X (.BoolOp .Or (b::rest) pos) tB'):PW X (.BoolOp .Or (a::b::rest) pos) (GO tA tB'):=by
 intro p d s l H Q I h
 refine isTrue_or (aU (m d s l H _ I h) fun c o ⟨e,i,j⟩=>?_)
 cases c with
 | true=>exact ⟨e,i,j⟩
 | false=>exact n p d o l e Q i j
theorem GV (i:PT X a tA):PT X (.UnaryOp .Not a pos) (GP tA):=by
 intro d s j H Q I h
 exact isTrue_not (i d s j H (fun c e=>Q (!c) e) I h)
noncomputable def GW (ta tb:TE):TE:=fun σ H Q=>ta σ H fun x d=>∃ c,x=.bl c/\if c=true then tb σ d Q else Q (.bl false) d
noncomputable def GX (ta tb:TE):TE:=fun σ H Q=>ta σ H fun x d=>∃ c,x=.bl c/\if c=true then Q (.bl true) d else tb σ d Q
noncomputable def GY (ta:TE):TE:=fun σ H Q=>ta σ H fun x d=>∃ c,x=.bl c/\Q (.bl (!c)) d
theorem GZ {op} {t:TE}(h:PE X a t):PE X (.BoolOp op [a] pos) t:=fun a3A s σ H Q I hw=>BoolOp_one (h a3A s σ H Q I hw)
theorem G0 (m:PE X a ta)(n:PE X (.BoolOp .And (b::rest) pos) tb):PE X (.BoolOp .And (a::b::rest) pos) (GW ta tb):=by
 intro d s l H Q I h
 refine BoolOp_and (aU (m d s l H _ I h) fun v p ⟨x,i,j,o,e⟩=>?_)
 obtain ⟨c,rfl,e⟩:=e
 cases o
 refine Vx ?_
 cases c with
 | true=>exact n d p l i Q j e
 | false=>exact ⟨.bl false,i,j,rfl,e⟩
theorem G1 (m:PE X a ta)(n:PE X (.BoolOp .Or (b::rest) pos) tb):PE X (.BoolOp .Or (a::b::rest) pos) (GX ta tb):=by
 intro d s l H Q I h
 refine BoolOp_or (aU (m d s l H _ I h) fun v p ⟨x,i,j,o,e⟩=>?_)
 obtain ⟨c,rfl,e⟩:=e
 cases o
 refine Vx ?_
 cases c with
 | false=>exact n d p l i Q j e
 | true=>exact ⟨.bl true,i,j,rfl,e⟩
theorem G2 (l:PE X a ta):PE X (.UnaryOp .Not a pos) (GY ta):=by
 intro d s n H Q I h
 refine UnaryOp_ (aU (l d s n H _ I h) fun v o ⟨x,i,j,m,e⟩=>?_)
 obtain ⟨c,rfl,e⟩:=e
 cases m
 exact not_of (Vx ⟨.bl (!c),i,j,rfl,e⟩)
noncomputable def G3 (t:TT)(ta tb:TE):TE:=fun σ H Q=>t σ H fun c d=>if c=true then ta σ d Q else tb σ d Q
theorem G4 {c:Expr}(hc:PT X c tA)(o:PE X a ta)(p:PE X b tb):PE X (.IfExp c a b pos) (G3 tA ta tb):=by
 intro e s i H Q I h
 refine wpAny_IfExp (aU (hc e s i H _ I h) fun d n ⟨j,l,m⟩=>?_)
 cases d with
 | true=>exact o e n i j Q l m
 | false=>exact p e n i j Q l m
end
end L2
namespace L2
open PySem PySem.Spec PyProof.Rows
noncomputable def SqL (K:SV)(H:Hp)(a:Addr)(xs:List V):Prop:=
 Rd H a (.lst xs) \/
  ∃ (o:Obj)(b:Array Value)(n:Nat),K.lookup a=some o/\o.cls=.type "list"/\o.dict=none/\o.data=.seq b n/\b.size<=Td/\Vals xs b.toList
noncomputable def SqT (K:SV)(H:Hp)(a:Addr)(xs:List V):Prop:=
 Rd H a (.tup xs) \/
  ∃ (o:Obj)(b:Array Value)(n:Nat),K.lookup a=some o/\o.cls=.type "tuple"/\o.dict=none/\o.data=.seq b n/\b.size<=Td/\Vals xs b.toList
noncomputable def G5:Value->Option V
 | .none=>some .non
 | .bool b=>some (.bl b)
 | .int i _=>some (.int i)
 | .str x _=>some (.str x)
 | .bytes b _=>some (.byt b)
 | .float b _=>some (.flt b)
 | .ref a=>some (.ref a)
 | .type n=>some (.ty n)
 | _=>none
theorem RelV.abs {x:V}{u:Value}(r:RelV x u):G5 u=some x:=by
 cases x with
 | non=>cases r;rfl
 | bl _=>cases r;rfl
 | int _=>obtain ⟨t,rfl⟩:=r;rfl
 | str _=>obtain ⟨t,rfl⟩:=r;rfl
 | byt _=>obtain ⟨t,rfl⟩:=r;rfl
 | flt _=>obtain ⟨t,rfl⟩:=r;rfl
 | ref _=>cases r;rfl
 | ty _=>cases r;rfl
theorem RelV.inj {x y:V}{u:Value}(r:RelV x u)(q:RelV y u):x=y:=T3 (r.abs.symm.trans q.abs)
theorem Vals.inj:∀ {xs a:List V}{us:List Value},Vals xs us->Vals a us->xs=a
 | _,_,_,.nil,.nil=>rfl
 | _,_,_,.cons r t,.cons r' t'=>by rw [r.inj r',Vals.inj t t']
section
variable {X:Cx}{a3A:List (Addr×Obj)}{σ:St}{H:Hp}{s:SX}{a:Addr}{xs ys:List V}
theorem SqL.of {K:SV}(h:H a=some (.lst xs)):SqL K H a xs:=.inl (.inl h)
theorem SqT.of {K:SV}(h:H a=some (.tup xs)):SqT K H a xs:=.inl (.inl h)
theorem Inv.list (I:Inv X a3A σ H s)(h:SqL X.K H a xs):∃ b:List Value,Vals xs b/\PlainL s.heap a b.toArray/\xs.length<=Td:=by
 rcases h with h|⟨o,b,n,c,hc,hd,d,i,r⟩
 ·obtain ⟨z,b,n,r,e⟩:=h.ok I.hok
  exact ⟨b,r,⟨_,n,e,rfl,rfl,rfl⟩,z⟩
 ·refine ⟨b.toList,r,⟨o,n,I.kIn a o c,hc,hd,by simpa using d⟩,?_⟩
  have e:=r.length
  simp only [Xe] at e
  omega
theorem Inv.tuple (I:Inv X a3A σ H s)(h:SqT X.K H a xs):∃ b:List Value,Vals xs b/\a3c s.heap a b.toArray/\xs.length<=Td:=by
 rcases h with h|⟨o,b,n,c,hc,hd,d,i,r⟩
 ·obtain ⟨z,b,r,p⟩:=h.ok I.hok
  exact ⟨b,r,p.tup,z⟩
 ·refine ⟨b.toList,r,⟨o,I.kIn a o c,hc,n,by simpa using d⟩,?_⟩
  have e:=r.length
  simp only [Xe] at e
  omega
theorem Inv.tupN (I:Inv X a3A σ H s)(h:SqT X.K H a xs):∃ b:List Value,Vals xs b/\TupN s.heap a b.toArray:=by
 rcases h with h|⟨o,b,n,c,hc,hd,d,e,r⟩
 ·obtain ⟨z,b,r,p⟩:=h.ok I.hok
  exact ⟨b,r,p⟩
 ·exact ⟨b.toList,r,o,I.kIn a o c,hc,n,by simpa using d,hd⟩
theorem Inv.list_inj (I:Inv X a3A σ H s)(h:SqL X.K H a xs)(h':SqL X.K H a ys):xs=ys:=by
 obtain ⟨c,r,⟨o,n,e,_,_,d⟩,_⟩:=I.list h
 obtain ⟨b,l,⟨p,m,j,_,_,i⟩,_⟩:=I.list h'
 rw [e] at j;cases j
 rw [d] at i
 injection i with d1 _
 have:c=b:=by simpa using congrArg a2k d1
 subst this
 exact r.inj l
theorem Inv.tuple_inj (I:Inv X a3A σ H s)(h:SqT X.K H a xs)(h':SqT X.K H a ys):xs=ys:=by
 obtain ⟨c,r,⟨o,e,_,n,d⟩,_⟩:=I.tuple h
 obtain ⟨b,l,⟨p,j,_,m,i⟩,_⟩:=I.tuple h'
 rw [e] at j;cases j
 rw [d] at i
 injection i with d1 _
 have:c=b:=by simpa using congrArg a2k d1
 subst this
 exact r.inj l
end
noncomputable abbrev Cx.wish (X:Cx)(E:Value->SX->Prop):Cx:={ X with xe:=E }
noncomputable abbrev Cx.nox (X:Cx):Cx:=X.wish fun _ _=>False
theorem Cx.Ok.wish {X:Cx}(ok:X.Ok)(E:Value->SX->Prop):(X.wish E).Ok:=
 ⟨ok.mod,ok.kind,ok.glob,ok.blt,ok.above,ok.inj,ok.has,ok.cab,ok.hd,ok.frames,ok.stk,ok.exf,ok.bs,ok.bsz,ok.noex,ok.exfs,ok.funs,ok.frf⟩
theorem Cx.Ok.unwish {X:Cx}{E:Value->SX->Prop}(ok:(X.wish E).Ok):X.Ok:=
 ⟨ok.mod,ok.kind,ok.glob,ok.blt,ok.above,ok.inj,ok.has,ok.cab,ok.hd,ok.frames,ok.stk,ok.exf,ok.bs,ok.bsz,ok.noex,ok.exfs,ok.funs,ok.frf⟩
section
variable {X:Cx}{a3A:List (Addr×Obj)}{σ:St}{H:Hp}{s:SX}{E:Value->SX->Prop}
theorem Inv.wish (I:Inv X a3A σ H s)(E:Value->SX->Prop):Inv (X.wish E) a3A σ H s:=⟨I.ok.wish E,I.os,I.bare,I.base,I.loc,I.cell,I.free,I.freeC,I.pin,I.hok,I.len⟩
theorem Inv.unwish (I:Inv (X.wish E) a3A σ H s):Inv X a3A σ H s:=⟨I.ok.unwish,I.os,I.bare,I.base,I.loc,I.cell,I.free,I.freeC,I.pin,I.hok,I.len⟩
theorem SP.unwish {D:Ends}{f:Flow}{c:SX}(h:SP (X.wish E) a3A D f c):SP X a3A D f c:=by
 cases f with
 | next=>obtain ⟨a,b,I,q⟩:=h;exact ⟨a,b,I.unwish,q⟩
 | brk=>obtain ⟨a,b,I,q⟩:=h;exact ⟨a,b,I.unwish,q⟩
 | cont=>obtain ⟨a,b,I,q⟩:=h;exact ⟨a,b,I.unwish,q⟩
 | ret u=>obtain ⟨v,a,b,I,r,q⟩:=h;exact ⟨v,a,b,I.unwish,r,q⟩
theorem PSs.nox {st:List Stmt}{t:TS}(h:PSs X.nox st t):PSs X st t:=fun a3A s σ H D I hw=>
 T9 (h a3A s σ H D (I.wish _) hw) (fun _ _ q=>q.unwish) fun _ _ z=>Um z
end
section
variable {X:Cx}{st:Stmt}{rest:List Stmt}{t u:TS}{e:Expr}{te:TE}{pos:Va}
noncomputable def AG:TS:=fun D σ H=>D.nx σ H
noncomputable def G6 (t u:TS):TS:=fun D σ H=>t { D with nx:=u D } σ H
theorem G7:PSs X [] AG:=fun _ _ σ H _ I h=>Ys ⟨σ,H,I,h⟩
theorem G8 (h1:PS X st t)(i:PSs X rest u):PSs X (st::rest) (G6 t u):=by
 intro a s l H D I h
 refine ZG (aU (h1 a s l H { D with nx:=u D } I h) fun f j q=>?_)
 cases f with
 | next=>
  obtain ⟨b,c,d,q⟩:=q
  exact i a j b c D d q
 | ret v=>exact q
 | brk=>exact q
 | cont=>exact q
theorem G9 (h1:PS X st t):PSs X [st] t:=by
 intro a s b H D I h
 refine ZG (aU (h1 a s b H D I h) fun f c q=>?_)
 cases f with
 | next=>exact Ys q
 | ret v=>exact q
 | brk=>exact q
 | cont=>exact q
theorem Ha:PS X (.Pass pos) AG:=fun _ _ σ H _ I h=>wpAny_Pass ⟨σ,H,I,h⟩
theorem Inv.quiet {a3A:List (Addr×Obj)}{σ:St}{H:Hp}{s:SX}(I:Inv X a3A σ H s):interactive X.env=false:=by simp [interactive,I.ok.kind]
noncomputable def Hb (te:TE):TS:=fun D σ H=>te σ H fun _ a=>D.nx σ a
theorem Hc (i:PE X e te)(j:XM e none pos.line X.env=pure false:=by rfl):PS X (.Expr e pos) (Hb te):=by
 intro a s b H D I h
 exact a3m (aU (i a s b H _ I h) fun v n ⟨x,c,d,m,l⟩=>⟨b,c,d,l⟩) I.quiet j
noncomputable def Hd (te:TE):TS:=fun D σ H=>te σ H D.rt
theorem He (i:PE X e te):PS X (.Return (some e) pos) (Hd te):=by
 intro a s b H D I h
 exact a2n (aU (i a s b H _ I h) fun v m ⟨x,c,d,l,j⟩=>⟨x,b,c,d,l,j⟩)
noncomputable def Hf:TS:=fun D _ H=>D.rt .non H
theorem Hg:PS X (.Return none pos) Hf:=fun _ _ σ H _ I h=>wpAny_Return_none ⟨.non,σ,H,I,rfl,h⟩
noncomputable def Hh (c:TT)(t u:TS):TS:=fun D σ H=>c σ H fun b a=>if b=true then t D σ a else u D σ a
theorem Hi {c:Expr}{a b:List Stmt}{p:TT}(hc:PT X c p)(q:PSs X a t)(r:PSs X b u):PS X (.If c a b pos) (Hh p t u):=by
 intro i s j H D I h
 refine wpAny_If (aU (hc i s j H _ I h) fun d o ⟨l,m,n⟩=>?_)
 cases d with
 | true=>exact q i o j l D m n
 | false=>exact r i o j l D m n
end
noncomputable abbrev TG:=V->St->Hp->(St->Hp->Prop)->Prop
noncomputable abbrev nB:=List V->St->Hp->(St->Hp->Prop)->Prop
noncomputable def PG (X:Cx)(a:Expr)(t:TG):Prop:=
 ∀ (a3A:List (Addr×Obj))(s:SX)(σ:St)(H:Hp)(v:V)(u:Value)(Q:St->Hp->Prop),Inv X a3A σ H s->RelV v u->t v σ H Q->
  TK (TH X.prog X.w) X.A (Y7 a X.env u) (fun _ d=>∃ b c,Inv X a3A b c d/\Q b c) X.xe s
noncomputable def pN (X:Cx)(d:List Expr)(t:nB):Prop:=
 ∀ (a3A:List (Addr×Obj))(s:SX)(σ:St)(H:Hp)(vs:List V)(us:List Value)(Q:St->Hp->Prop),Inv X a3A σ H s->Vals vs us->t vs σ H Q->
  TK (TH X.prog X.w) X.A (assignInOrder ((VN d X.env).map (·.2)) us) (fun _ c=>∃ a b,Inv X a3A a b c/\Q a b) X.xe s
section
variable {X:Cx}{pos:Va}
noncomputable def vD (i:Nat):TG:=fun v σ H Q=>Q (σ.set i (some v)) H
theorem AH {i:Nat}{x:Str}(c:X.N.Nodup)(e:X.N[i]? = some x)(j:Loc X.env.scope x)(d:X.fn x=true\/X.env.scope.names.lookup x=some .local:=by first|exact .inl rfl|exact .inr rfl|assumption):PG X (.Name x pos) (vD i):=by
 intro b s m H v u Q I r h
 exact a2m (AE I c e j r (fun l a=>⟨_,H,a,h⟩) d)
noncomputable def AI:nB:=fun vs σ H Q=>vs=[]/\Q σ H
noncomputable def AJ (t:TG)(u:nB):nB:=fun vs σ H Q=>∃ v r,vs=v::r/\t v σ H fun a H'=>u r a H' Q
theorem Hj:pN X [] AI:=by
 intro a s b H d c Q I r h
 obtain ⟨e,h⟩:=h
 subst e
 cases r
 exact assignInOrder_nil ⟨b,H,I,h⟩
theorem Hk {e:Expr}{es:List Expr}{t:TG}{u:nB}(h1:PG X e t)(j:pN X es u)
  (l:(VN (e::es) X.env).map (·.2)=Y7 e X.env::(VN es X.env).map (·.2):=by rfl):pN X (e::es) (AJ t u):=by
 intro a s p H x q Q I r h
 obtain ⟨v,w,i,h⟩:=h
 subst i
 cases r with
 | cons r n=>
  rw [l]
  refine assignInOrder_cons (aU (h1 a s p H _ _ _ I r h) fun _ o ⟨b,c,d,m⟩=>?_)
  exact j a o b c _ _ Q d n m
noncomputable def AK (te:TE)(g:TG):TS:=fun D σ H=>te σ H fun x a=>g x σ a D.nx
theorem Hl {tg e:Expr}{te:TE}{g:TG}(i:PE X e te)(j:PG X tg g)(l:swapsWithSole [tg] e pos.line X.env=pure false:=by rfl)(hw:a0B [tg] e X.env=pure none:=by rfl)
  (h1:(VN [tg] X.env).map (·.2)=[Y7 tg X.env]:=by rfl):PS X (.Assign [tg] e pos) (AK te g):=by
 intro a s b H D I h
 refine wpAny_Assign_stores (aU (i a s b H _ I h) fun v o ⟨x,c,d,n,m⟩=>?_) l hw
 rw [h1]
 exact aU (j a o b c x v _ d n m) fun _ p q=>q
theorem Hn {i:Nat}{x:Str}{e:Expr}{te:TE}{a:Va}(l:X.N.Nodup)(o:X.N[i]? = some x)(q:Loc X.env.scope x)(m:PE X e te)(p:XM e (some (.Name x a)) pos.line X.env=pure false:=by rfl)(n:X.fn x=true\/X.env.scope.names.lookup x=some .local:=by first|exact .inl rfl|exact .inr rfl|assumption) :
  PS X (.Assign [.Name x a] e pos) (AK te (vD i)):=by
 intro b s w H D I h
 refine a2o (aU (m b s w H _ I h) fun v z ⟨y,c,d,u,r⟩=>?_) p
 exact AE d l o q u (fun A j=>⟨_,c,j,r⟩) n
end
section
variable {X:Cx}{pos:Va}
end
structure It where
 go:Nat->Hp->Prop
 yld:Nat->Hp->V->Hp->Prop
 stop:Nat->Hp->Prop
noncomputable def iA (X:Cx)(a3A:List (Addr×Obj))(H:Hp)(b:Addr):Prop:=
 H b=none/\b≠X.env.locals/\b∉X.fs/\(b∈X.ex\/X.s₀.heap.objs.size<=b)/\(∀ x c,X.env.cells.lookup x=some c->c≠b)/\∀ p∈X.pn++a3A,p.1≠b
theorem Inv.fpOk {X:Cx}{a3A:List (Addr×Obj)}{σ:St}{H H':Hp}{s:SX}{b:Addr}(I:Inv X a3A σ H s)(a:s.heap.objs.size<=b)(d:H' b=none):iA X a3A H' b:=by
 refine ⟨d,VP (TF I.lt a),I.nofs a,.inr (Uk I.sz a),fun x c e z=>?_,fun p h z=>?_⟩
 ·obtain ⟨v,q⟩:=I.cell x c e
  exact absurd (TF q.lt (by rw [z];exact a)) (VD _)
 ·exact absurd (TF (Tg (I.pin p h).1) (by rw [z];exact a)) (VD _)
noncomputable abbrev Qc (X:Cx):Prop:=X.calm=true
structure Turn (q:Cx->Prop)(P:Tt)(w:TV)(K:SV)(tg:Expr)(J:It)(fp:List Addr)(it:Addr)(tn:Nat->Uw->Prop):Prop where
 mem:it∈fp
 obj:∀ i h,tn i h->∀ b∈fp,∃ o,h.get? b=some o/\∀ v,o.data≠.cell v
 keep:∀ i h h',tn i h->(∀ b∈fp,∀ o,h.get? b=some o->h'.get? b=some o)->tn i h'
 item:∀ (X:Cx),X.prog=P->X.w=w->X.K=K->q X->∀ (i:Nat)(a3A:List (Addr×Obj))(s:SX)(σ:St)(H:Hp)(E:Value->SX->Prop),Inv X a3A σ H s->(∀ b∈fp,iA X a3A H b)->tn i s.heap->J.go i H->
  TK (TH P w) X.A (YE (.ref it)) (fun r s1=>∃ u,r=some u /\
   TK (TH P w) X.A (Yt tg (.ref it) u) (fun _ s2=>∃ x H',Inv X a3A σ H' s2/\RelV x u/\J.yld i H x H'/\tn (i+1) s2.heap/\∀ b∈fp,H' b=none) E s1) E s
 done:∀ (X:Cx),X.prog=P->X.w=w->X.K=K->q X->∀ (i:Nat)(a3A:List (Addr×Obj))(s:SX)(σ:St)(H:Hp)(E:Value->SX->Prop),Inv X a3A σ H s->(∀ b∈fp,iA X a3A H b)->tn i s.heap->J.stop i H->
  TK (TH P w) X.A (YE (.ref it)) (fun r s1=>r=none/\Inv X a3A σ H s1) E s
 self:∀ (A:TJ)(i:Nat)(s:SX)(Q:Value->SX->Prop)(E:Value->SX->Prop),tn i s.heap->Q (.ref it) s->TK (TH P w) A (a1e (.ref it)) Q E s
noncomputable abbrev TI:=St->Hp->(It->Hp->Prop)->Prop
noncomputable def r9 (q:Cx->Prop)(X:Cx)(a3A:List (Addr×Obj))(σ:St)(tg:Expr)(R:It->Hp->Prop)(a:Value)(e:SX):Prop:=
 ∃ (d:Addr)(c:List Addr)(h:Nat->Uw->Prop)(J:It)(H':Hp),a=.ref d/\Inv X a3A σ H' e/\Turn q X.prog X.w X.K tg J c d h/\h 0 e.heap/\(∀ b∈c,iA X a3A H' b)/\R J H'
noncomputable abbrev Ho:=r9 Qc
noncomputable def sA (q:Cx->Prop)(X:Cx)(tg iter:Expr)(b:TI):Prop:=
 ∀ (a3A:List (Addr×Obj))(s:SX)(σ:St)(H:Hp)(R:It->Hp->Prop),Inv X a3A σ H s->b σ H R->
  TK (TH X.prog X.w) X.A (eval iter X.env) (fun v a=>TK (TH X.prog X.w) X.A (a1e v) (r9 q X a3A σ tg R) X.xe a) X.xe s
noncomputable abbrev PI:=sA Qc
theorem vF {M:YJ}{A:TJ}{E:Value->SX->Prop}{s:SX}{tg:Expr}{b:Addr}{u:Value}{o:Obj}{n:String}{vs:Array Value}{Q:Unit->SX->Prop}(d:s.heap.get? b=some o)(hc:o.cls=.type n)(hd:o.data=.fields vs)
  (c:["enumerate","zip","dict_itemiterator","dict_reverseitemiterator","odict_iterator","itertools.zip_longest","itertools.pairwise"].contains n=false) (a:Q () s):TK M A (Yt tg (.ref b) u) Q E s:=by
 unfold Yt
 cases tg<;>first
  | exact Tn a
  | (cases u<;>first
    | exact Tn a
    | (refine S0 (Z9 d ?_)
       rw [hc,hd]
       show TK M A (if (["enumerate","zip","dict_itemiterator","dict_reverseitemiterator","odict_iterator","itertools.zip_longest","itertools.pairwise"].contains n&&vs[0]? == some (WC _))=true then _ else _) Q E s
       rw [if_neg (by intro h;rw [c,a1X] at h;cases h)]
       exact Tn a))
noncomputable def vG (K:SV)(a:Addr):It:=
 ⟨fun i H=>∃ b x,SqL K H a b/\b[i]? = some x,fun i H x c=>c=H/\∀ b,SqL K H a b->b[i]? = some x,fun i H=>∃ b,SqL K H a b/\b.length<=i⟩
noncomputable def vH (K:SV)(a:Addr):It:=
 ⟨fun i H=>∃ b x,SqT K H a b/\b[i]? = some x,fun i H x c=>c=H/\∀ b,SqT K H a b->b[i]? = some x,fun i H=>∃ b,SqT K H a b/\b.length<=i⟩
noncomputable def lK (lo:Int)(n:Nat):It:=⟨fun i _=>i<n,fun i H x H'=>H'=H/\x=.int (lo+i),fun i _=>n<=i⟩
theorem Hq {P:Tt}{w:TV}{K:SV}{tg:Expr}(a l:Addr):Turn Qc P w K tg (vG K a) [l] l (fun i h=>h.IsListIter l a i) where
 mem:=by simp
 obj:=fun i h st b j=>by
  have e:b=l:=by simpa using j
  subst e
  obtain ⟨o,e,c,d⟩:=st
  exact ⟨o,e,fun v z=>by rw [d] at z;cases z⟩
 keep:=fun i h q st k=>st.at fun o e=>k l (by simp) o e
 item:=by
  intro X O hw N hc i m s Y H E I r st Q
  subst O hw N
  obtain ⟨xs,x,y,R⟩:=Q
  obtain ⟨T,U,p,hz⟩:=I.list y
  obtain ⟨u,hu,ru⟩:=U.get R
  obtain ⟨A,B,f2,G,L,M⟩:=r l (by simp)
  refine a1a st p.isList (x:=u) (by simpa using hu) fun q n sb=>?_
  have Z:Inv X m Y H { s with heap:=q }:=I.turned (t':=s.toks) (fun b o j e=>(sb.2 b j).trans e) A B G L M
  obtain ⟨o,e,c,d⟩:=id n
  exact ⟨u,rfl,vF (s:={ s with heap:=q }) e c d (by decide) ⟨x,H,Z,ru,⟨rfl,fun ys hy=>by rw [I.list_inj hy y];exact R⟩,n,fun b j=>(r b j).1⟩⟩
 done:=by
  intro X O hw N hc i m s Y H E I r st Q
  subst O hw N
  obtain ⟨xs,y,R⟩:=Q
  obtain ⟨T,U,p,hz⟩:=I.list y
  obtain ⟨A,B,f2,G,L,M⟩:=r l (by simp)
  have hl:=U.length
  exact a1w (I.ok.hd hc) st p.isList (by simp;omega) fun q eb=>⟨rfl,I.turned (t':=s.toks) (fun b o j e=>eb b o j e) A B G L M⟩
 self:=fun _ _ _ _ _ st h=>wpAny_pyIter_listiter st h
theorem Hr {P:Tt}{w:TV}{K:SV}{tg:Expr}(a l:Addr):Turn Qc P w K tg (vH K a) [l] l (fun i h=>h.IsTupleIter l a i) where
 mem:=by simp
 obj:=fun i h st b j=>by
  have e:b=l:=by simpa using j
  subst e
  obtain ⟨o,e,c,d⟩:=st
  exact ⟨o,e,fun v z=>by rw [d] at z;cases z⟩
 keep:=fun i h r st k=>st.at fun o e=>k l (by simp) o e
 item:=by
  intro X Q hw O hc i n s Y H E I y st R
  subst Q hw O
  obtain ⟨xs,x,A,T⟩:=R
  obtain ⟨m,U,p,hz⟩:=I.tuple A
  obtain ⟨u,hu,ru⟩:=U.get T
  obtain ⟨B,G,f2,L,M,N⟩:=y l (by simp)
  refine a0L st (show s.heap.IsTuple a m.toArray from p) (x:=u) (by simpa using hu) fun r q sb=>?_
  have Z:Inv X n Y H { s with heap:=r }:=I.turned (t':=s.toks) (fun b o j e=>(sb.2 b j).trans e) B G L M N
  obtain ⟨o,e,c,d⟩:=id q
  exact ⟨u,rfl,vF (s:={ s with heap:=r }) e c d (by decide) ⟨x,H,Z,ru,⟨rfl,fun ys hy=>by rw [I.tuple_inj hy A];exact T⟩,q,fun b j=>(y b j).1⟩⟩
 done:=by
  intro X Q hw O hc i n s Y H E I y st R
  subst Q hw O
  obtain ⟨xs,A,T⟩:=R
  obtain ⟨m,U,p,hz⟩:=I.tuple A
  obtain ⟨B,G,f2,L,M,N⟩:=y l (by simp)
  have hl:=U.length
  exact a0Z (I.ok.hd hc) st (show s.heap.IsTuple a m.toArray from p) (by simp;omega) fun r eb=>⟨rfl,I.turned (t':=s.toks) (fun b o j e=>eb b o j e) B G L M N⟩
 self:=fun _ _ _ _ _ st h=>wpAny_pyIter_tupleiter st h
theorem AL {P:Tt}{w:TV}{K:SV}{tg:Expr}(a:Addr)(lo:Int)(n:Nat):Turn Qc P w K tg (lK lo n) [a] a (fun i h=>ZV h a (lo+(i:Nat) * 1) ((n:Int) - (i:Nat)) 1) where
 mem:=by simp
 obj:=fun i h st b c=>by
  have e:b=a:=by simpa using c
  subst e
  exact ⟨_,st,fun v z=>by
   have T:To _=Data.cell v:=z
   cases T⟩
 keep:=fun i h l st k=>k a (by simp) _ st
 item:=by
  intro X A hw y hc i d s L H E I m st B
  subst A hw y
  obtain ⟨p,q,O,r,u,x⟩:=m a (by simp)
  have W:=Walks.range (prog:=X.prog) (w:=X.w) (I.ok.hd hc) a lo 1 n
  refine W.item i s _ _ B st fun v l G Q j R=>?_
  obtain ⟨t,rfl⟩:=Q
  have M:Inv X d L H { s with heap:=l,toks:=G }:=I.turned (fun b o c e=>R b o (by simpa using c) e) p q r u x
  refine ⟨_,rfl,vF (s:={ s with heap:=l,toks:=G }) (n:="range_iterator") j rfl rfl (by decide) ⟨.int (lo+i),H,M,⟨t,?_⟩,⟨rfl,rfl⟩,j,fun b c=>(m b c).1⟩⟩
  rw [Int.mul_one]
 done:=by
  intro X A hw y hc i d s L H E I m st B
  subst A hw y
  obtain ⟨p,q,O,r,u,x⟩:=m a (by simp)
  exact wpAny_pyNext_range_end (I.ok.hd hc) st (by have:n<=i:=B;omega) fun l N=>⟨rfl,I.turned (t':=s.toks) (fun b o c e=>N b o c e) p q r u x⟩
 self:=fun _ _ _ _ _ st h=>wpAny_pyIter_rangeiter st h
end L2
namespace L2
open PySem PySem.Spec PyProof.Rows
section
variable {X:Cx}{tg:Expr}
theorem AM {q:Cx->Prop}(tr:∀ (d:Addr)(lo:Int)(n:Nat),Turn q X.prog X.w X.K tg (lK lo n) [d] d (fun i h=>ZV h d (lo+(i:Nat) * 1) ((n:Int) - (i:Nat)) 1)){a3A:List (Addr×Obj)}{σ:St}{H:Hp}{s:SX}{R:It->Hp->Prop}{E:Value->SX->Prop}{lo a:Int}{t u v:a1g}{tk:Nat}(I:Inv X a3A σ H s)(h1:-(2 ^ 62)<=lo)(m:lo<2 ^ 62)(p:-(2 ^ 62)<=a)(r:a<2 ^ 62)
  (w:R (lK lo (a - lo).toNat) H):TK (TH X.prog X.w) X.A (a1e (.ref s.heap.objs.size)) (r9 q X a3A σ tg R) E { s with heap:=s.heap.push { cls:=.type "range",data:=.fields #[.int lo t,.int a u,.int 1 v] },toks:=tk }:=by
 refine wpAny_pyIter_range (IsRange.new ..) (small_one h1 m p r) ?_
 have c:Inv X a3A σ H { s with heap:=s.heap.push { cls:=.type "range",data:=.fields #[.int lo t,.int a u,.int 1 v] },toks:=tk }:=I.kept fun b o e=>S9 _ e
 refine ⟨(s.heap.push { cls:=.type "range",data:=.fields #[.int lo t,.int a u,.int 1 v] }).objs.size,[(s.heap.push { cls:=.type "range",data:=.fields #[.int lo t,.int a u,.int 1 v] }).objs.size],_,_,H,rfl,
  c.kept (t':=tk) fun b o e=>S9 _ e,tr _ lo (a - lo).toNat,?_,fun b x=>?_,w⟩
 ·have j:lo+((0:Nat):Int) * 1=lo:=by simp
  have l:(((a - lo).toNat:Nat):Int) - ((0:Nat):Int)=a2I lo a 1:=by rw [rangeSize_one];split<;>omega
  show ZV _ _ (lo+((0:Nat):Int) * 1) ((((a - lo).toNat:Nat):Int) - ((0:Nat):Int)) 1
  rw [j,l]
  exact TZ _ rfl
 ·have e:b=(s.heap.push { cls:=.type "range",data:=.fields #[.int lo t,.int a u,.int 1 v] }).objs.size:=by simpa using x
  subst e
  exact c.fpOk (Th _) (c.hok.fresh (Th _))
noncomputable def AN (b:TA):TI:=fun σ H R=>b σ H fun vs a=>∃ j:Int,vs=[.int j]/\-(2 ^ 62)<=j/\j<2 ^ 62/\R (lK 0 j.toNat) a
noncomputable def Hs (b:TA):TI:=fun σ H R=>b σ H fun vs a=>∃ i j:Int,vs=[.int i,.int j]/\(-(2 ^ 62)<=i/\i<2 ^ 62/\-(2 ^ 62)<=j/\j<2 ^ 62)/\R (lK i (j - i).toNat) a
theorem Ht {q:Cx->Prop}(tr:∀ (c:Addr)(lo:Int)(n:Nat),Turn q X.prog X.w X.K tg (lK lo n) [c] c (fun i h=>ZV h c (lo+(i:Nat) * 1) ((n:Int) - (i:Nat)) 1)){a:Expr}{l:TA}{p pos:Va}(u:Gl X "range") (v:X.mg "range" = none) (o:PA X [a] l)(w:T5 [a] X.env=[(false,eval a X.env)]:=by rfl):sA q X tg (.Call (.Name "range" p) [a] [] pos) (AN l):=by
 intro b s B H R I h
 refine Call_ (iT I u v boot_range (V9 (aU (o pos b s B H _ I h) fun K G ⟨L,E,m,z,d⟩=>?_) w rfl))
 obtain ⟨j,e,d,x,y⟩:=d
 subst e
 cases z with
 | cons r A=>
  cases A
  obtain ⟨t,rfl⟩:=r
  exact call_range_1 (AM tr m (by omega) (by omega) d x (by simpa using y))
theorem Hu {a:Expr}{b:TA}{p pos:Va}(d:Gl X "range") (e:X.mg "range" = none) (c:PA X [a] b)(h:T5 [a] X.env=[(false,eval a X.env)]:=by rfl):PI X tg (.Call (.Name "range" p) [a] [] pos) (AN b):=Ht AL d e c h
theorem Hv {a b:Expr}{n:TA}{p pos:Va}(v:Gl X "range") (w:X.mg "range" = none) (u:PA X [a,b] n)(x:T5 [a,b] X.env=[(false,eval a X.env),(false,eval b X.env)]:=by rfl)(c:T5 [b] X.env=[(false,eval b X.env)]:=by rfl) :
  PI X tg (.Call (.Name "range" p) [a,b] [] pos) (Hs n):=by
 intro d s G H R I h
 refine Call_ (iT I v w boot_range (V9 (aU (u pos d s G H _ I h) fun N L ⟨O,K,o,E,l⟩=>?_) (by rw [x,c]) (by rw [c];rfl)))
 obtain ⟨i,j,e,⟨l,y,z,A⟩,q⟩:=l
 subst e
 cases E with
 | cons r m=>
  cases m with
  | cons B m=>
   cases m
   obtain ⟨t,rfl⟩:=r
   obtain ⟨M,rfl⟩:=B
   exact call_range_2 (AM AL o l y z A q)
noncomputable def Hw (l:TI)(g:TG)(j:TS):TS:=fun D σ H=>l σ H fun J e=>∃ W:Nat->Nat->St->Hp->Prop,(∃ m,W 0 m σ e)/\∀ i m σ H,W i m σ H->
 (J.stop i H/\D.nx σ H)\/(J.go i H/\∃ N:St->Hp->Prop,(∀ b a,N b a->∃ d,d<m/\W (i+1) d b a)/\∀ x a,J.yld i H x a->g x σ a fun c h=>j { D with nx:=N,ct:=N,bk:=D.nx } c h)
noncomputable def pO (a:List Addr)(h:Uw):List (Addr×Obj):=a.filterMap fun b=>(h.get? b).map fun o=>(b,o)
theorem sC {a:List Addr}{h:Uw}{b:Addr}{o:Obj}(c:b∈a)(e:h.get? b=some o):(b,o)∈pO a h:=YC.mpr ⟨b,c,by rw [e];rfl⟩
theorem Hx {a:List Addr}{h:Uw}{p:Addr×Obj}(i:p∈pO a h):p.1∈a/\h.get? p.1=some p.2:=by
 obtain ⟨b,d,e⟩:=YC.mp i
 cases q:h.get? b with
 | none=>rw [q] at e;cases e
 | some o=>
  rw [q] at e
  have c:(b,o)=p:=T3 e
  subst c
  exact ⟨d,q⟩
theorem Inv.pinned {a3A:List (Addr×Obj)}{σ:St}{H:Hp}{s:SX}{a:List Addr}(I:Inv X a3A σ H s)(m:∀ b∈a,iA X a3A H b)(n:∀ b∈a,∃ o,s.heap.get? b=some o/\∀ v,o.data≠.cell v):Inv X (a3A++pO a s.heap) σ H s:=
 I.pins_of fun p q=>(Uj.mp q).elim (fun z=>I.pin p (US _ z)) fun z=>by
  obtain ⟨h,e⟩:=Hx z
  obtain ⟨i,j,l,_⟩:=m p.1 h
  obtain ⟨o,c,d⟩:=n p.1 h
  rw [e] at c;cases c
  exact ⟨e,i,j,l,d⟩
theorem Inv.unpinned {a3A b:List (Addr×Obj)}{σ:St}{H:Hp}{s:SX}(I:Inv X (a3A++b) σ H s):Inv X a3A σ H s:=I.pins_of fun p a=>I.pin p (US _ (a0v _ a))
theorem Hy {iter:Expr}{body:List Stmt}{wi:TI}{g:TG}{tb:TS}{pos:Va}(K:a2E (TH X.prog X.w) X.A X.env X.xe)(hc:X.calm=true)(hi:PI X tg iter wi)(hg:PG X tg g)(q:PSs X body tb)
  (hs:∀ x,Wo iter X.env x=pure x:=by intro _;rfl):PS X (.For tg iter body [] pos) (Hw wi g tb):=by
 intro c s σ H D I h
 refine wpAny_For (aU (hi c s σ H _ I h) fun v s1 h1=>aU h1 fun itv s2 h2=>?_) hs
 obtain ⟨it,E,tn,J,H2,e,I2,T,st2,f2,W,⟨m0,w0⟩,turn⟩:=h2
 subst e
  -- what stays true of the iterator's objects through the loop
 have w:∀ {H':Hp},(∀ b∈E,H' b=none)->∀ b∈E,iA X c H' b:=fun hn b q=>⟨hn b q,(f2 b q).2⟩
 refine codeAny_forLoop_any (fun n s'=>∃ i y H',Inv X c y H' s'/\tn i s'.heap/\(∀ b∈E,H' b=none)/\W i n y H') ?_ m0 ⟨0,σ,H2,I2,st2,fun b q=>(f2 b q).1,w0⟩
 rintro n s3 ⟨i,z,Q,I3,M,G,w3⟩
 rcases turn i n z Q w3 with ⟨O,qn⟩|⟨go,N,hN,step⟩
 ·refine XA K (aU (T.done X rfl rfl rfl hc i c s3 z Q X.xe I3 (w G) M O) fun r s4 ⟨Y,I4⟩=>?_)
  subst Y
  exact Ys ⟨z,Q,I4,qn⟩
 ·refine XA K (aU (T.item X rfl rfl rfl hc i c s3 z Q X.xe I3 (w G) M go) fun r s4 ⟨u,Y,h4⟩=>?_)
  subst Y
  refine XA K (aU h4 fun _ s5 ⟨x,H5,I5,r5,y5,B,U⟩=>?_)
  have R:=I5.pinned (w U) (T.obj _ _ B)
  refine XA K (aU (hg _ s5 z H5 x u _ R r5 (step x H5 y5)) fun _ s6 ⟨σ6,H6,I6,q6⟩=>?_)
  refine XA K (aU (q _ s6 σ6 H6 _ I6 q6) fun f Z A=>?_)
  have p:∀ {a:St}{j:Hp},Inv X (c++pO E s5.heap) a j Z->N a j->∃ m,m<n/\∃ i y H',Inv X c y H' Z/\tn i Z.heap/\(∀ b∈E,H' b=none)/\W i m y H':=fun {a j} l L=>by
   obtain ⟨m',hm,w7⟩:=hN a j L
   refine ⟨m',hm,i+1,a,j,l.unpinned,T.keep _ _ _ B fun b q o e=>(l.pin (b,o) (US _ (US _ (sC q e)))).1,fun b q=>?_,w7⟩
   obtain ⟨o,e,d⟩:=T.obj _ _ B b q
   exact (l.pin (b,o) (US _ (US _ (sC q e)))).2.1
  cases f with
  | next=>obtain ⟨a,j,l,L⟩:=A;exact p l L
  | cont=>obtain ⟨a,j,l,L⟩:=A;exact p l L
  | brk=>obtain ⟨a,j,l,A⟩:=A;exact ⟨a,j,l.unpinned,A⟩
  | ret v=>obtain ⟨x7,a,j,l,r7,A⟩:=A;exact ⟨x7,a,j,l.unpinned,r7,A⟩
end
end L2
namespace L2
open PySem PySem.Spec PyProof.Rows
noncomputable abbrev R2:=V->V->Hp->VK->Prop
noncomputable def OpR (X:Cx)(f:Value->Value->a1i Value)(r:R2):Prop:=
 ∀ (a3A:List (Addr×Obj))(s:SX)(σ:St)(H:Hp)(x y:V)(v u:Value)(Q:VK),Inv X a3A σ H s->RelV x v->RelV y u->r x y H Q->
  TK (TH X.prog X.w) X.A (f v u) (EP X a3A σ Q) X.xe s
noncomputable def vJ (X:Cx)(f:Value->a1i Value)(r:V->Hp->VK->Prop):Prop:=
 ∀ (a3A:List (Addr×Obj))(s:SX)(σ:St)(H:Hp)(x:V)(v:Value)(Q:VK),Inv X a3A σ H s->RelV x v->r x H Q->
  TK (TH X.prog X.w) X.A (f v) (EP X a3A σ Q) X.xe s
noncomputable def CallR (X:Cx)(f:Value)(r:List V->Hp->VK->Prop):Prop:=
 ∀ (a3A:List (Addr×Obj))(s:SX)(σ:St)(H:Hp)(xs:List V)(us:List Value)(Q:VK),Inv X a3A σ H s->Vals xs us->r xs H Q->
  TK (TH X.prog X.w) X.A (call f us) (EP X a3A σ Q) X.xe s
noncomputable def Hz (X:Cx)(r:V->Hp->(Bool->Hp->Prop)->Prop):Prop:=
 ∀ (a3A:List (Addr×Obj))(s:SX)(σ:St)(H:Hp)(x:V)(v:Value)(Q:Bool->Hp->Prop),Inv X a3A σ H s->RelV x v->r x H Q->
  TK (TH X.prog X.w) X.A (truthy v) (TP X a3A σ Q) X.xe s
noncomputable def pP (r:R2)(c d:TE):TE:=fun σ H Q=>c σ H fun x a=>d σ a fun y b=>r x y b Q
noncomputable def HA (r:V->Hp->VK->Prop)(b:TE):TE:=fun σ H Q=>b σ H fun x a=>r x a Q
noncomputable def rI (C:Int->Int->Prop)(g:Int->Int->V):R2:=fun x y H Q=>∃ i j,x=.int i/\y=.int j/\C i j/\Q (g i j) H
noncomputable def f7 (g:Int->Int->V):R2:=fun x y H Q=>∃ i j,x=.int i/\y=.int j/\Q (g i j) H
noncomputable def rU (g:Int->V):V->Hp->VK->Prop:=fun x H Q=>∃ i,x=.int i/\Q (g i) H
section
variable {X:Cx}{a b c:Expr}{ta tb tc:TE}{pos:Va}
theorem vK (o:PE X a ta)(p:PE X b tb){a3A:List (Addr×Obj)}{s:SX}{σ:St}{H:Hp}{R:V->V->Hp->Prop}(I:Inv X a3A σ H s)
  (h:ta σ H fun x l=>tb σ l fun y d=>R x y d){Q:Value->SX->Prop}{f:Value->Value->a1i Value}
  (q:∀ v u j x y d,Inv X a3A σ d j->RelV x v->RelV y u->R x y d->TK (TH X.prog X.w) X.A (f v u) Q X.xe j) :
  TK (TH X.prog X.w) X.A (eval a X.env) (fun v e=>TK (TH X.prog X.w) X.A (eval b X.env) (fun u i=>TK (TH X.prog X.w) X.A (f v u) Q X.xe i) X.xe e) X.xe s:=by
 refine aU (o a3A s σ H _ I h) fun v B ⟨x,l,m,z,r⟩=>?_
 refine aU (p a3A B σ l _ m r) fun u j ⟨y,d,n,A,w⟩=>?_
 exact q v u j x y d n z A w
theorem HB {op:a0i}{r:R2}(m:OpR X (WH op) r)(j:PE X a ta)(l:PE X b tb):PE X (.BinOp a op b pos) (pP r ta tb):=by
 intro d s w H Q I h
 exact wpAny_BinOp (vK j l I h fun v u p x y e i n o q=>m d p w e x y v u Q i n o q)
theorem HC {op:UnaryOp}{r:V->Hp->VK->Prop}(m:vJ X (unaryOp op) r)(l:PE X a ta):PE X (.UnaryOp op a pos) (HA r ta):=by
 intro d s e H Q I h
 exact UnaryOp_ (aU (l d s e H _ I h) fun v p ⟨x,i,j,o,n⟩=>m d p e i x v Q j o n)
theorem vL {f:Value->Value->a1i Value}{C:Int->Int->Prop}{g:Int->Int->Int}
  (d:∀ (i j:Int)(t u:a1g)(s:SX)(Q:Value->SX->Prop)(E:Value->SX->Prop),C i j->Q (.int (g i j) s.toks) { s with toks:=s.toks+1 }->TK (TH X.prog X.w) X.A (f (.int i t) (.int j u)) Q E s) :
  OpR X f (rI C fun i j=>.int (g i j)):=by
 intro e s o H x y v u Q I l m h
 obtain ⟨i,j,rfl,rfl,hc,q⟩:=h
 obtain ⟨t,rfl⟩:=l
 obtain ⟨n,rfl⟩:=m
 exact d i j t n s _ _ hc ⟨.int (g i j),H,I.tok _,⟨_,rfl⟩,q⟩
theorem AO {f:Value->Value->a1i Value}{g:Int->Int->Int}
  (d:∀ (i j:Int)(t u:a1g)(s:SX)(Q:Value->SX->Prop)(E:Value->SX->Prop),Q (.int (g i j) s.toks) { s with toks:=s.toks+1 }->TK (TH X.prog X.w) X.A (f (.int i t) (.int j u)) Q E s) :
  OpR X f (f7 fun i j=>.int (g i j)):=by
 intro e s o H x y v u Q I l m h
 obtain ⟨i,j,rfl,rfl,q⟩:=h
 obtain ⟨t,rfl⟩:=l
 obtain ⟨n,rfl⟩:=m
 exact d i j t n s _ _ ⟨.int (g i j),H,I.tok _,⟨_,rfl⟩,q⟩
theorem sD {f:Value->Value->a1i Value}{g:Int->Int->Bool}
  (d:∀ (i j:Int)(t u:a1g)(s:SX)(Q:Value->SX->Prop)(E:Value->SX->Prop),Q (.bool (g i j)) s->TK (TH X.prog X.w) X.A (f (.int i t) (.int j u)) Q E s) :
  OpR X f (f7 fun i j=>.bl (g i j)):=by
 intro e s o H x y v u Q I l m h
 obtain ⟨i,j,rfl,rfl,q⟩:=h
 obtain ⟨t,rfl⟩:=l
 obtain ⟨n,rfl⟩:=m
 exact d i j t n s _ _ ⟨.bl (g i j),H,I,rfl,q⟩
noncomputable def CMul (i j:Int):Prop:=(-(2 ^ 64)<i/\i<2 ^ 64)\/(-(2 ^ 64)<j/\j<2 ^ 64)
theorem CMul.ok {i j:Int}(h:CMul i j):a1T i j:=by
 rcases h with ⟨d,e⟩|⟨d,e⟩
 ·exact .of_left (intBits_le_64 d e)
 ·exact .of_right (intBits_le_64 d e)
theorem op_add:OpR X (WH .Add) (f7 fun i j=>.int (i+j)):=AO fun _ _ _ _ _ _ _ q=>add_int q
theorem HD:OpR X (WH .Sub) (f7 fun i j=>.int (i - j)):=AO fun _ _ _ _ _ _ _ q=>sub_int q
theorem HE:OpR X (WH .Mod) (rI (fun _ j=>0<j) fun i j=>.int (i % j)):=vL fun i j _ _ _ _ _ hc q=>by
 have d:(0:Int)<j:=hc
 exact mod_int' (by omega) (by rw [Int.fmod_eq_emod_of_nonneg i (by omega)];exact q)
theorem eM {f:Value->a1i Value}{g:Int->Int}
  (d:∀ (i:Int)(t:a1g)(s:SX)(Q:Value->SX->Prop)(E:Value->SX->Prop),Q (.int (g i) s.toks) { s with toks:=s.toks+1 }->TK (TH X.prog X.w) X.A (f (.int i t)) Q E s) :
  vJ X f (rU fun i=>.int (g i)):=by
 intro e s l H x v Q I j h
 obtain ⟨i,rfl,q⟩:=h
 obtain ⟨t,rfl⟩:=j
 exact d i t s _ _ ⟨.int (g i),H,I.tok _,⟨_,rfl⟩,q⟩
theorem HF:vJ X (unaryOp .USub) (rU fun i=>.int (-i)):=eM fun _ _ _ _ _ q=>neg_int q
end
section
variable {X:Cx}{a b c:Expr}{ta tb tc:TE}{pos:Va}
theorem lM {a3A:List (Addr×Obj)}{σ:St}{H:Hp}{s:SX}{Q:VK}{k k':Bool}(I:Inv X a3A σ H s)(q:Q (.bl k) H)(e:k=k'):EP X a3A σ Q (.bool k') s:=by
 subst e
 exact ⟨.bl k,H,I,rfl,q⟩
theorem vO:OpR X (UC .Lt) (f7 fun i j=>.bl (decide (i<j))):=sD fun _ _ _ _ _ _ _ q=>lt_int q
theorem vP:OpR X (UC .LtE) (f7 fun i j=>.bl (decide (i<=j))):=sD fun _ _ _ _ _ _ _ q=>le_int q
theorem vQ:OpR X (UC .Gt) (f7 fun i j=>.bl (decide (j<i))):=sD fun _ _ _ _ _ _ _ q=>gt_int q
theorem vT:OpR X (UC .GtE) (f7 fun i j=>.bl (decide (j<=i))):=sD fun _ _ _ _ _ _ _ q=>ge_int q
theorem AQ:OpR X (UC .In) (fun x y H Q=>∃ i j,x=.str i/\y=.str j/\Q (.bl (!(UO j i 0 j.length 1).isEmpty)) H):=by
 intro d s n H x y v u Q I e l h
 obtain ⟨i,j,rfl,rfl,q⟩:=h
 obtain ⟨t,rfl⟩:=e
 obtain ⟨m,rfl⟩:=l
 exact in_str (lM I q rfl)
theorem AR:OpR X (UC .Is) (fun x y H Q=>y=.non/\Q (.bl (decide (x=.non))) H):=by
 intro e s j H x y v u Q I d i h
 obtain ⟨rfl,q⟩:=h
 cases i
 refine is_none_gen (lM I q ?_)
 cases x<;>first
  | (cases d;rfl)
  | (obtain ⟨t,rfl⟩:=d;rfl)
theorem AS:OpR X (UC .IsNot) (fun x y H Q=>y=.non/\Q (.bl (!decide (x=.non))) H):=by
 intro e s j H x y v u Q I d i h
 obtain ⟨rfl,q⟩:=h
 cases i
 refine isnot_none_gen (lM I q ?_)
 cases x<;>first
  | (cases d;rfl)
  | (obtain ⟨t,rfl⟩:=d;rfl)
theorem OpR.or {f:Value->Value->a1i Value}{r e:R2}(h:OpR X f r)(h':OpR X f e):OpR X f (fun x y H Q=>r x y H Q\/e x y H Q):=by
 intro d s l H x y v u Q I i j q
 rcases q with q|q
 ·exact h d s l H x y v u Q I i j q
 ·exact h' d s l H x y v u Q I i j q
theorem dM (b:Expr){op:Xc}(h:op≠.In:=by decide)(i:op≠.NotIn:=by decide):Wj op b=false:=by
 have d:(op == CmpOp.In)=false:=by cases op<;>first|rfl|exact absurd rfl h
 have e:(op == CmpOp.NotIn)=false:=by cases op<;>first|rfl|exact absurd rfl i
 cases b<;>simp [Wj,d,e]
theorem HG {op:Xc}{r:R2}(n:OpR X (UC op) r)(j:PE X a ta)(l:PE X b tb)(m:Wj op b=false):PE X (.Compare a [op] [b] pos) (pP r ta tb):=by
 intro d s z H Q I h
 exact wpAny_Compare1 (vK j l I h fun v u w x y e i o p q=>n d w z e x y v u Q i o p q) m
noncomputable def AU (t:TE):TT:=fun σ H Q=>t σ H fun x H'=>∃ k,x=.bl k/\Q k H'
theorem HH {op:Xc}{r:R2}(B:OpR X (UC op) r)(q:PE X a ta)(w:PE X b tb)(A:Wj op b=false):PT X (.Compare a [op] [b] pos) (AU (pP r ta tb)):=by
 intro d s i H Q I h
 refine wpAny_isTrue_Compare1 (aU (q d s i H _ I h) fun v O ⟨x,j,n,L,E⟩=>aU (w d O i j _ n E) fun u R ⟨y,l,o,M,G⟩=>
  aU (B d R i l x y v u _ o L M G) fun c T ⟨z,m,p,N,k,e,K⟩=>?_) A
 subst e
 cases N
 exact Vx ⟨m,p,K⟩
noncomputable def vU (r j:R2)(ta tb tc:TE):TE:=fun σ H Q=>ta σ H fun x e=>tb σ e fun y h=>r x y h fun z d=>∃ k,z=.bl k /\
 (if k=true then tc σ d fun l i=>j y l i Q else Q (.bl false) d)
theorem HI {op j:Xc}{r q:R2}(R:OpR X (UC op) r)(m:OpR X (UC j) q)(M:PE X a ta)(N:PE X b tb)(hc:PE X c tc)
  (O:a2A [op,j] [b,c]=false:=by with_unfolding_all rfl):PE X (.Compare a [op,j] [b,c] pos) (vU r q ta tb tc):=by
 intro i s l H Q I h
 refine Compare_chain (aU (M i s l H _ I h) fun v s1 ⟨x,A,G,Z,T⟩=>chain_link (aU (N i s1 l A _ G T) fun u s2 ⟨y,B,K,w,U⟩=>
  aU (R i s2 l B x y v u _ K Z w U) fun d s3 ⟨z,n,o,r3,k,e,p⟩=>?_)) O
 subst e
 cases r3
 refine Vx ?_
 cases k with
 | false=>exact ite_ff ⟨.bl false,n,o,rfl,p⟩
 | true=>exact ite_tt (chain_last (aU (hc i s3 l n _ o p) fun w' s4 ⟨z',E,L,r4,Y⟩=>m i s4 l E y z' u w' Q L w r4 Y))
theorem HJ {op j:Xc}{r q:R2}(Z:OpR X (UC op) r)(m:OpR X (UC j) q)(T:PE X a ta)(U:PE X b tb)(hc:PE X c tc)
  (Y:a2A [op,j] [b,c]=false:=by with_unfolding_all rfl):PT X (.Compare a [op,j] [b,c] pos) (AU (vU r q ta tb tc)):=by
 intro i s l H Q I h
 refine isTrue_chain (aU (T i s l H _ I h) fun v s1 ⟨x,A,K,r1,q1⟩=>test_link (aU (U i s1 l A _ K q1) fun u s2 ⟨y,B,L,w,q2⟩=>
  aU (Z i s2 l B x y v u _ L r1 w q2) fun d s3 ⟨z,n,o,r3,k,e,p⟩=>?_)) Y
 subst e
 cases r3
 refine Vx ?_
 cases k with
 | false=>
  obtain ⟨k',O,q'⟩:=p
  cases O
  exact ite_ff ⟨n,o,q'⟩
 | true=>
  refine ite_tt (test_last (aU (hc i s3 l n _ o p) fun w' s4 ⟨z',E,M,r4,q4⟩=>aU (m i s4 l E y z' u w' _ M w r4 q4) fun d' s5 ⟨z2,G,N,r5,k2,R,q5⟩=>?_))
  subst R
  cases r5
  exact Vx ⟨G,N,q5⟩
noncomputable def vV (K:SV)(x:V)(H:Hp)(k:Bool):Prop:=
 match x with
 | .non=>k=false
 | .bl b=>k=b
 | .int i=>k=(i != 0)
 | .str y=>y.length<=Td/\k=((y.length:Int) != 0)
 | .byt y=>y.size<=Td/\k=((y.size:Int) != 0)
 | .ref p=>(∃ e,SqL K H p e/\k = !e.isEmpty)\/(∃ e,SqT K H p e/\k = !e.isEmpty)\/∃ d,H p=some (.dK d)/\k = !d.isEmpty
 | _=>False
theorem HK {κ:Type}{kvs:List (κ×V)}{vs:List (κ×Value)}(r:KV kvs vs):(!vs.isEmpty) = !kvs.isEmpty:=by
 cases r<;>rfl
theorem AV {xs:List V}{d:List Value}(r:Vals xs d):(!d.toArray.isEmpty) = !xs.isEmpty:=by
 cases r<;>simp
theorem nC:(Td:Nat)<2 ^ 63:=by rw [TM];decide
theorem HL:Hz X (fun x H Q=>∃ k,vV X.K x H k/\Q k H):=by
 intro E s N H x v Q I o h
 obtain ⟨k,e,q⟩:=h
 have L:=nC
 have M:Td=16777216:=TM
 cases x with
 | non=>
  cases o
  have d:k=false:=e
  subst d
  exact truthy_none ⟨H,I,q⟩
 | bl b=>
  cases o
  have d:k=b:=e
  subst d
  exact Vx ⟨H,I,q⟩
 | int i=>
  obtain ⟨t,rfl⟩:=o
  have d:k=(i != 0):=e
  subst d
  exact PySem.P.truthy_int ⟨H,I,q⟩
 | str y=>
  obtain ⟨t,rfl⟩:=o
  obtain ⟨K,d⟩:y.length<=Td/\k=((y.length:Int) != 0):=e
  subst d
  exact PySem.P.truthy_str (by omega) ⟨H,I.tok _,q⟩
 | byt y=>
  obtain ⟨t,rfl⟩:=o
  obtain ⟨K,d⟩:y.size<=Td/\k=((y.size:Int) != 0):=e
  subst d
  exact PySem.W.truthy_bytes (by omega) ⟨H,I.tok _,q⟩
 | ref p=>
  cases o
  have d:(∃ n,SqL X.K H p n/\k = !n.isEmpty)\/(∃ n,SqT X.K H p n/\k = !n.isEmpty)\/∃ j,H p=some (.dK j)/\k = !j.isEmpty:=e
  rcases d with ⟨n,u,d⟩|⟨n,u,d⟩|⟨j,u,d⟩
  ·subst d
   obtain ⟨z,r,A,B⟩:=I.list u
   have l:=r.length
   exact wpAny_truthy_list A.isList (by simp only [S5];omega) ⟨H,I.tok _,by rw [AV r];exact q⟩
  ·subst d
   obtain ⟨z,r,A,B⟩:=I.tuple u
   have l:=r.length
   exact truthy_tuple A (by simp only [S5];omega) ⟨H,I.tok _,by rw [AV r];exact q⟩
  ·subst d
   obtain ⟨B,G,w,r,m⟩:j.length<=Td/\(p == Vl)=false/\∃ w,KV j w/\s.heap.DictOf (dW X.prog X.w) p w:=I.hok p _ u
   have l:j.length=w.length:=Zw r
   exact wpAny_truthy_dict G m (by omega) ⟨H,I.tok _,by rw [HK r];exact q⟩
 | _=>exact (show False from e).elim
theorem HM (n:PE X a ta)(o:∀ d,ZK a X.env d=(do let v <- d;a2q a.pos;holding [v] (truthy v))) :
  PT X a (fun i H Q=>ta i H fun x j=>∃ k,vV X.K x j k/\Q k j):=by
 intro e s i H Q I h
 exact isTrue_plain (aU (n e s i H _ I h) fun v r ⟨x,l,m,q,p⟩=>HL e r i l x v Q m q p) (o _)
theorem op_add_str:OpR X (WH .Add) (fun x y H Q=>∃ i j,x=.str i/\y=.str j/\i.length+j.length<=Td/\Q (.str (i++j)) H):=by
 intro d s p H x y v u Q I l m h
 obtain ⟨i,j,rfl,rfl,e,q⟩:=h
 obtain ⟨t,rfl⟩:=l
 obtain ⟨n,rfl⟩:=m
 exact add_str (fun n o=>⟨.str (i++j),H,I.tok _,⟨_,rfl⟩,q⟩) e
theorem lN {x:V}{us:List Value}(r:Vals [x] us):∃ u,us=[u]/\RelV x u:=by
 cases r with
 | cons d e=>cases e;exact ⟨_,rfl,d⟩
theorem HN {x y:V}{us:List Value}(r:Vals [x,y] us):∃ u d,us=[u,d]/\RelV x u/\RelV y d:=by
 cases r with
 | cons e h=>
  cases h with
  | cons i j=>cases j;exact ⟨_,_,rfl,e,i⟩
end
end L2
namespace L2
open PySem PySem.Spec PyProof.Rows
structure ObjM (h:Uw)(x dx C:Addr)(mA:Str->Option Value):Prop where
 obj:h.get? x=some (a0P C dx)
 ns:h.Ns1 dx mA
 ne:dx≠x
section
variable {prog:Tt}{w:TV}{A:TJ}{E:Value->SX->Prop}{s:SX}{K:SV}{x dx C f:Addr}{mA:Str->Option Value}{name:Str}{v:Value}
end
theorem RelO.some_of {v:V}{o:Option Value}(r:RelO (some v) o):∃ u,o=some u/\RelV v u:=by
 cases o with
 | none=>exact (show False from r).elim
 | some u=>exact ⟨u,rfl,r⟩
section
variable {P:Tt}{w:TV}{H H':Hp}{h h':Uw}{a C dx:Addr}{fs fs':List (Str×V)}
end
structure Cls (K:SV)(C:Addr):Prop where
 pg:a0D K C Str.empty=true
 hd:PySem.W.hasDictIn K C=true
 po:PySem.W.plainOver K C=true
 sa:VC K (.ref C) "__setattr__" = some (some (.builtin "object.__setattr__"))
structure Con (K:SV)(C:Addr)(f:Str)(v:V)(u:Value):Prop where
 at_:VC K (.ref C) f=some (some u)
 rel:RelV v u
 get:Xu K u "__get__" = some none
 cp:PySem.W.copiedNames.contains f=false
structure Meth (K:SV)(C:Addr)(m:Str)(f:Addr):Prop where
 at_:VC K (.ref C) m=some (some (.ref f))
 fn:a1N K (.ref f)=true
 kp:UR K (.ref f)=true
section
variable {X:Cx}{a3A:List (Addr×Obj)}{σ:St}{H:Hp}{s:SX}{a C dx:Addr}{fs:List (Str×V)}{f:Str}{v:V}{A:TJ}{E:Value->SX->Prop}
end
section
variable {X:Cx}{o e value:Expr}{f:Str}{pos pos' tpos:Va}{ta tv:TE}
end
section
variable {X:Cx}{a3A:List (Addr×Obj)}{σ:St}{H:Hp}{s:SX}{A:TJ}{E:Value->SX->Prop}{Q:Value->SX->Prop}{c:Value}{b:Bool}
inductive TyOf (K:SV)(H:Hp):V->Value->Prop where
 | non:TyOf K H .non (.type "NoneType")
 | bl (x:Bool):TyOf K H (.bl x) (.type "bool")
 | int (i:Int):TyOf K H (.int i) (.type "int")
 | str (x:Str):TyOf K H (.str x) (.type "str")
 | flt (x:UInt64):TyOf K H (.flt x) (.type "float")
 | lst {a:Addr}{xs:List V}(e:H a=some (.lst xs)):TyOf K H (.ref a) (.type "list")
 | frz {a:Addr}{o:Obj}{xs:List V}(e:H a=some (.frz o (.lst xs))):TyOf K H (.ref a) (.type "list")
 | tup {a:Addr}{xs:List V}(e:H a=some (.tup xs)):TyOf K H (.ref a) (.type "tuple")
 | dK {a:Addr}{kvs:List (aI×V)}(e:H a=some (.dK kvs)):TyOf K H (.ref a) (.type "dict")
 | dT {a:Addr}{kvs:List (List aI×V)}(e:H a=some (.dT kvs)):TyOf K H (.ref a) (.type "dict")
 | ins {a C dx:Addr}{fs:List (Str×V)}(e:H a=some (.ins C dx fs))(cl:Cls K C)(ha:VC K (.ref C) "__class__" = some (some (.builtin "object.__class__")))
   (hn:Xu K (.builtin "object.__class__") "__get__" = some (some (.builtin "getset_descriptor.__get__"))) (htk:a0O K (.builtin "object.__class__")=some true)
   (hm:a1z K C (.type "object")=some true):TyOf K H (.ref a) (.ref C)
end
end L2
namespace L2
open PySem PySem.Spec PyProof.Rows
structure Room (k:Nat)(A:TJ):Prop where
 hd:A.handled=none
 dp:A.depth+3 * k+5<XS
 un:A.units+16 * k+200<Vf
theorem Room.deeper {k:Nat}{A:TJ}(r:Room (k+1) A)(env:XN):Room k (A.deeper env):=
 ⟨r.hd,by have:=r.dp;show A.depth+1+3 * k+5<_;omega,by have:=r.un;show A.units+3+16 * k+200<_;omega⟩
theorem Room.depth {k:Nat}{A:TJ}(r:Room k A):A.depth<XS:=by have:=r.dp;omega
theorem Room.units {k:Nat}{A:TJ}(r:Room k A):A.units+64<Vf:=by have:=r.un;omega
noncomputable def AW:TA:=fun _ H Q=>Q [] H
noncomputable def HP (c:TE)(tr:TA):TA:=fun σ H Q=>c σ H fun x a=>tr σ a fun xs b=>Q (x::xs) b
section
variable {X:Cx}{e:Expr}{es:List Expr}{te:TE}{t:TA}{pos:Va}
theorem AX:PA X [] AW:=fun _ _ _ _ H Q I h=>YL ⟨[],H,I,.nil,h⟩
theorem AY (l:PE X e te)(m:PA X es t)(n:T5 (e::es) X.env=(false,eval e X.env)::T5 es X.env:=by rfl):PA X (e::es) (HP te t):=by
 intro pos a s b H Q I h
 rw [n]
 show TK _ _ (spliced ((false,eval e X.env)::V0 pos (T5 es X.env))) _ _ s
 refine YA (aU (l a s b H _ I h) fun u v ⟨x,c,i,q,o⟩=>?_)
 exact aU (m pos a v b c _ i o) fun z y ⟨w,d,j,r,p⟩=>⟨x::w,d,j,.cons q r,p⟩
noncomputable def HQ (t:TA):TE:=fun σ H Q=>t σ H fun xs a=>xs.length<=Td/\∀ p,a p=none->Q (.ref p) (aQ a p (.tup xs))
noncomputable def HR (t:TA):TE:=fun σ H Q=>t σ H fun xs a=>xs.length<=Td/\∀ p,a p=none->Q (.ref p) (aQ a p (.lst xs))
theorem AZ {x1} (h:PA X es t):PE X (.Tuple es x1 pos) (HQ t):=by
 intro c s o H Q I l
 refine wpAny_Tuple_spliced (aU (h pos c s o H _ I l) fun m a ⟨n,d,i,r,z,q⟩=>⟨by rw [<- r.length];exact z,?_⟩)
 have j:d a.heap.objs.size=none:=i.hok.fresh (Th _)
 refine ⟨.ref a.heap.objs.size,aQ d a.heap.objs.size (.tup n),i.laid (t':=a.toks) (fun b u e=>S9 _ e) (Th _) ?_,rfl,q _ j⟩
 exact ⟨z,m,r,⟨_,TZ _ rfl,rfl,_,rfl,rfl⟩⟩
theorem HS (h:PA X es t):PE X (.List es pos) (HR t):=by
 intro c s o H Q I l
 refine wpAny_List_spliced (aU (h pos c s o H _ I l) fun m a ⟨n,d,i,r,z,q⟩=>⟨by rw [<- r.length];exact z,?_⟩)
 have j:d a.heap.objs.size=none:=i.hok.fresh (Th _)
 refine ⟨.ref a.heap.objs.size,aQ d a.heap.objs.size (.lst n),i.laid (t':=a.toks) (fun b u e=>S9 _ e) (Th _) ?_,rfl,q _ j⟩
 exact ⟨z,m,0,r,TZ _ rfl⟩
end
noncomputable abbrev Sp:=List V->Hp->VK->XK->Prop
noncomputable abbrev fL:=List XN->Hp->SX->XK->Value->SX->Prop
structure Env0 (P:Tt)(w:TV)(K:SV)(mg:Str->Option Value)(base:Uw)(A:TJ)(outer:List XN)(s:SX)(H:Hp):Prop where
 frames:A.frames=some outer
 mod:Mod K mg base
 bs:∀ b o,base.get? b=some o->s.heap.get? b=some o/\H b=none
 bsz:base.objs.size<=s.heap.objs.size
 funs:s.heap.FunFrames base outer
 frf:∀ b∈dB outer,H b=none
 hok:HOk P w H s.heap
 bare:X2 s.gens
noncomputable def CE (outer:List XN)(P:Tt)(w:TV)(H:Hp)(s:SX)(Q:VK)(u:Value)(a:SX):Prop:=
 ∃ v b,a.os=s.os/\X2 a.gens/\Un (dB outer) [] H b s.heap a.heap/\HOk P w b a.heap/\RelV v u/\Q v b
noncomputable def CR (CX:fL)(outer:List XN)(P:Tt)(w:TV)(H:Hp)(s:SX)(Q:VK)(E:XK)(r:a1j)(a:SX):Prop:=
 match r with
 | .ok (.ret u)=>CE outer P w H s Q u a
 | .ok _=>False
 | .error e=>CX outer H s E e a
structure FnOk (P:Tt)(w:TV)(K:SV)(mg:Str->Option Value)(base:Uw)(CX:fL)(k:Nat)(f:Addr)(fd:U1)(ps:List Str)(sp:Sp):Prop where
 len:∀ vs H Q E,sp vs H Q E->vs.length=ps.length
 run:∀ (A:TJ)(outer:List XN)(s:SX)(H:Hp)(args:Args)(us:List Value)(vs:List V)(Q:VK)(E:XK),Room k A->Env0 P w K mg base A outer s H->YR s fd args (ps.zip us)->Vals vs us->sp vs H Q E->
  XF (TH P w) A (.call (.ref f) args) (CR CX outer P w H s Q E) s
section
variable {X:Cx}{a3A:List (Addr×Obj)}{σ:St}{H:Hp}{s s':SX}
theorem Inv.env0 (I:Inv X a3A σ H s):Env0 X.prog X.w X.K X.mg X.base X.A X.stack s H:=
 ⟨I.ok.frames,I.ok.mod,I.bs,Uk I.ok.bsz I.sz,I.stack,I.stkFree,I.hok,I.bare⟩
theorem Inv.after {Q:VK}{u:Value}(I:Inv X a3A σ H s)(h:CE X.stack X.prog X.w H s Q u s'):EP X a3A σ Q u s':=by
 obtain ⟨v,e,j,a,un,hok,r,q⟩:=h
 obtain ⟨i,g,d,t,c⟩:=s'
 obtain rfl:c=s.os:=j
 exact ⟨v,e,I.call (h':=i) (g':=g) (d':=d) (t':=t) (ch:=[]) un hok a (fun b z=>absurd z (by simp)),r,q⟩
end
noncomputable def sE (sp:Sp)(a:List V)(E:XK)(t:TA):TE:=fun σ H Q=>t σ H fun vs b=>sp (vs++a) b Q E
noncomputable def Binds (K:SV)(a:U1)(ps:List Str)(ds:List Value):Prop:=
 ∀ (s:SX)(us:List Value),K.In s.heap->(us++ds).length=ps.length->YR s a ⟨us,[]⟩ (ps.zip (us++ds))
theorem Binds.all {K:SV}{a:U1}{ps:List Str}(h:∀ us:List Value,us.length=ps.length->a0e a ⟨us,[]⟩=pure (ps.zip us)):Binds K a ps []:=fun s us _ b=>by
 rw [UK] at b ⊢
 exact .of_eq (h us b)
noncomputable def sF (CX:fL)(X:Cx)(E:XK):Prop:=∀ (a3A:List (Addr×Obj))(σ:St)(H:Hp)(s:SX)(e:Value)(a:SX),Inv X a3A σ H s->CX X.stack H s E e a->X.xe e a
section
variable {X:Cx}{CX:fL}{k:Nat}{f C:Addr}{fd:U1}{ps:List Str}{sp:Sp}{dvs:List V}{ds:List Value}{E:XK}{x m:Str}{p pos apos:Va}{e o:Expr}{es:List Expr}{ta:TE}{t:TA}
theorem A0 {a3A:List (Addr×Obj)}{σ:St}{H:Hp}{s:SX}{Q:VK}{us:List Value}{vs:List V}(F:FnOk X.prog X.w X.K X.mg X.base CX k f fd ps sp)(j:Room k X.A)(d:Binds X.K fd ps ds)(hd:Vals dvs ds)(l:sF CX X E)
  (I:Inv X a3A σ H s)(r:Vals vs us)(h:sp (vs++dvs) H Q E):TK (TH X.prog X.w) X.A (call (.ref f) us) (EP X a3A σ Q) X.xe s:=by
 have b:Vals (vs++dvs) (us++ds):=r.append hd
 have i:(us++ds).length=ps.length:=by rw [<- b.length];exact F.len _ _ _ _ h
 refine a0a (XE (F.run X.A X.stack s H ⟨us,[]⟩ (us++ds) (vs++dvs) Q E j I.env0 (d s us I.kIn i) b h) fun r n a=>?_)
 cases r with
 | error e=>exact l a3A σ H s e n I a
 | ok c=>
  cases c with
  | ret u=>exact I.after a
  | next=>exact Um a
  | brk=>exact Um a
  | cont=>exact Um a
theorem HU (F:FnOk X.prog X.w X.K X.mg X.base CX k f fd ps sp)(w:Room k X.A)(n:Gl X x)(v:X.mg x=some (.ref f))(u:UR X.K (.ref f)=true)(j:Binds X.K fd ps ds)(hd:Vals dvs ds)(y:sF CX X E)
  (i:PA X (e::es) t)(b:(x == ("__debug__":Str))=false:=by decide) (l:T5 (e::es) X.env=(false,eval e X.env)::T5 es X.env:=by rfl)(c:(V0 pos (T5 es X.env)).any (·.1)=false:=by rfl) :
  PE X (.Call (.Name x p) (e::es) [] pos) (sE sp dvs E t):=by
 intro a s z H Q I h
 refine U6 (jL I n v ?_ b)
 refine Yp (h₀:=X.base) I.ok.mod.kin u (aU (i pos a s z H _ I h) fun G B ⟨K,A,d,r,q⟩=>⟨d.kIn,?_⟩) l c
 exact A0 F w j hd y d r q
theorem HV (F:FnOk X.prog X.w X.K X.mg X.base CX k f fd ps sp)(l:Room k X.A)(d:Gl X x)(j:X.mg x=some (.ref f))(i:UR X.K (.ref f)=true)(c:Binds X.K fd ps ds)(hd:Vals dvs ds)(n:sF CX X E)
  (a:(x == ("__debug__":Str))=false:=by decide):PE X (.Call (.Name x p) [] [] pos) (sE sp dvs E AW):=by
 intro b s q H Q I h
 refine U6 (jL I d j ?_ a)
 exact PySem.W.callWith_K0 I.kIn i (A0 (us:=[]) F l c hd n I .nil h)
structure Mk (K:SV)(C f:Addr):Prop where
 makes:PySem.W.makesIn K C=true
 init:VC K (.ref C) "__init__" = some (some (.ref f))
 fn:a1N K (.ref f)=true
 kp:UR K (.ref C)=true
end
section
variable {X:Cx}{CX:fL}{k:Nat}{f C:Addr}{fd:U1}{ps ks:List Str}{sp:Sp}{E:XK}{x m:Str}{p pos apos kpos:Va}{e o:Expr}{es:List Expr}{kws:List Wz}{te ta:TE}{t tk:TA}{nm:Option Str}
structure KBinds (K:SV)(fd:U1)(ps ks:List Str)(g:List Value->List Value->List Value)(gV:List V->List V->List V):Prop where
 to:∀ (s:SX)(us ws:List Value),K.In s.heap->(g us ws).length=ps.length->YR s fd ⟨us,ks.zip ws⟩ (ps.zip (g us ws))
 rel:∀ {vs:List V}{us:List Value}{zs:List V}{ws:List Value},Vals vs us->Vals zs ws->Vals (gV vs zs) (g us ws)
variable {g:List Value->List Value->List Value}{gV:List V->List V->List V}
end
structure FnScope (N P:List Str)(sc:V1):Prop where
 kind:sc.kind=.function
 co:sc.isCoroutine=false
 gen:sc.isGenerator=false
 nd:N.Nodup
 pre:N.take P.length=P
 par:∀ x∈P,sc.names.lookup x=some .local\/sc.names.lookup x=some .cell
 nofree:∀ y∈sc.names,y.2≠.free
theorem A1 {kindOf:Str->Option V7}{x:Str}:∀ {binds:List (Str×Value)}{m:Str->Option Value},(∀ v,(x,v)∉binds)->a0c kindOf binds m x=m x
 | [],_,_=>rfl
 | (n,v)::r,m,h=>by
  unfold a0c
  rw [A1 fun w hw=>h w (Tu _ hw)]
  split
  ·have:x≠n:=by rintro rfl;exact h v TC
   simp [this]
  ·rfl
theorem A2 {kindOf:Str->Option V7}{x:Str}:∀ {binds:List (Str×Value)}{m:Str->Option Value},(∀ v,(x,v)∉binds)->a0d kindOf binds m x=m x
 | [],_,_=>rfl
 | (n,v)::r,m,h=>by
  unfold a0d
  rw [A2 fun w hw=>h w (Tu _ hw)]
  split
  ·rfl
  ·have:x≠n:=by rintro rfl;exact h v TC
   simp [this]
theorem A3 {kindOf:Str->Option V7}{x:Str}{v:Value}:∀ {P:List Str}{vs:List Value}{i:Nat}{m:Str->Option Value},P.Nodup->P[i]? = some x->vs[i]? = some v->kindOf x=some .local->
  a0c kindOf (P.zip vs) m x=some v
 | [],_,_,_,_,h,_,_=>by simp at h
 | _::_,[],_,_,_,_,h,_=>by simp at h
 | p::P,w::vs,0,m,nd,h1,h2,hk=>by
  simp at h1 h2;subst h1;subst h2
  show a0c kindOf ((p,w)::P.zip vs) m p=_
  unfold a0c
  rw [A1 fun v a=>(Uu.mp nd).1 (X7 a).1,if_pos hk]
  simp
 | p::P,w::vs,i+1,m,nd,h1,h2,hk=>by
  show a0c kindOf ((p,w)::P.zip vs) m x=_
  unfold a0c
  exact A3 (i:=i) (Uu.mp nd).2 (by simpa using h1) (by simpa using h2) hk
theorem A4 {kindOf:Str->Option V7}{x:Str}{v:Value}:∀ {P:List Str}{vs:List Value}{i:Nat}{m:Str->Option Value},P.Nodup->P[i]? = some x->vs[i]? = some v->kindOf x≠some .local->
  a0d kindOf (P.zip vs) m x=some v
 | [],_,_,_,_,h,_,_=>by simp at h
 | _::_,[],_,_,_,_,h,_=>by simp at h
 | p::P,w::vs,0,m,nd,h1,h2,hk=>by
  simp at h1 h2;subst h1;subst h2
  show a0d kindOf ((p,w)::P.zip vs) m p=_
  unfold a0d
  rw [A2 fun v a=>(Uu.mp nd).1 (X7 a).1,if_neg hk]
  simp
 | p::P,w::vs,i+1,m,nd,h1,h2,hk=>by
  show a0d kindOf ((p,w)::P.zip vs) m x=_
  unfold a0d
  exact A4 (i:=i) (Uu.mp nd).2 (by simpa using h1) (by simpa using h2) hk
noncomputable def start (N:List Str)(vs:List V):St:=vs.map some++Vr (N.length - vs.length) none
noncomputable def d4 (CX:fL)(P:Tt)(w:TV)(K:SV)(mg:Str->Option Value)(base:Uw)(N:List Str)(a:Str)(scope:V1)(f:Addr)(c:Value)(A:TJ)(outer:List XN)(s:SX)(H:Hp)(E:XK):Cx where
 prog:=P
 w:=w
 K:=K
 mg:=mg
 base:=base
 A:=A.deeper (envOfC a scope s.heap.objs.size f c)
 N:=N
 s₀:=s
 H₀:=H
 env:=envOfC a scope s.heap.objs.size f c
 outer:=outer
 stack:=envOfC a scope s.heap.objs.size f c::outer
 ex:=[]
 calm:=true
 fn:=fun _=>true
 pn:=[]
 xe:=fun e h=>TK (TH P w) (A.deeper (envOfC a scope s.heap.objs.size f c)) (a2t (envOfC a scope s.heap.objs.size f c) e) (fun _ b=>CX outer H s E e b) (fun d b=>CX outer H s E d b) h
theorem A5 {a:V1}{n:Nat}{x:Str}(h:a.names.lookup x=some .cell):∃ c,(ZM n a.names []).lookup x=some c:=by
 have q:=XU a.names n [] (.inl h)
 exact Ut.mp q
theorem A6 {CX:fL}{P:Tt}{w:TV}{K:SV}{mg:Str->Option Value}{base:Uw}{N ps:List Str}{d:Str}{scope:V1}{f:Addr}{G:Value}{A:TJ}{outer:List XN}{s Q:SX}{H:Hp}{E:XK}{us:List Value}{vs:List V}
  (S:FnScope N ps scope)(hd:A.handled=none)(l:Env0 P w K mg base A outer s H)(Y:vs.length=ps.length)(r:Vals vs us)
  (x:InCallC s s.heap.objs.size (a0c (envOfC d scope s.heap.objs.size f G).kindOf (ps.zip us) fun _=>none) (ZM (s.heap.objs.size+1) scope.names []) (a0d (envOfC d scope s.heap.objs.size f G).kindOf (ps.zip us) fun _=>none) Q) :
  Inv (d4 CX P w K mg base N d scope f G A outer s H E) [] (start N vs) H Q:=by
 have T:ps.length<=N.length:=by have:=congrArg Vi S.pre;rw [TR] at this;omega
 obtain ⟨I,Z,rfl,M⟩:=x.done
 have n:∀ b:Addr,b∉(d4 CX P w K mg base N d scope f G A outer s H E).ex:=fun b z=>absurd (show b∈([]:List Addr) from z) (by simp)
 refine ⟨⟨l.mod,S.kind,rfl,rfl,Th _,fun y z c I j=>?_,fun y m=>?_,fun y c _ h=>?_,fun _=>hd,Z6 l.frames,.inr ⟨rfl,rfl⟩,fun b z=>absurd z (n b),l.bs,l.bsz,fun b _ _=>n b,fun b z=>absurd z (n b),l.funs,l.frf⟩,
  rfl,l.bare,Un.kept M,⟨_,x.toInCall.ns,fun i y v I j X=>?_⟩,fun y c h=>⟨_,x.cell y c h⟩,l.hok.fresh (Th _),fun y c h=>?_,fun p o=>absurd (show p∈([]:List (Addr×Obj)) from o) (by simp),l.hok.kept M,?_⟩
 ·exact name_of_addr x.apart (UQ I) (UQ j)
 ·have m:scope.names.lookup y=some .cell\/scope.names.lookup y=some .free:=m
  rcases m with m|m
  ·exact A5 m
  ·exact absurd rfl (S.nofree _ (UQ m))
 ·exact Xs (x.above y c (UQ h))
 ·have L:i<vs.length:=by
   unfold start at j
   by_cases L:i<vs.length
   ·exact L
   ·rw [Tv (by simpa using L)] at j
    rw [V8] at j
    split at j<;>cases j
  have R:vs[i]? = some v:=by
   unfold start at j
   rw [Ti (by simpa using L),Uo] at j
   cases e:vs[i]? with
   | none=>rw [e] at j;cases j
   | some a=>rw [e] at j;cases j;rfl
  obtain ⟨u,O,U⟩:=r.get R
  have o:ps[i]? = some y:=by
   rw [<- S.pre,UZ (by omega)];exact I
  have B:ps.Nodup:=by rw [<- S.pre];exact S.nd.sublist (Vp _ _)
  refine ⟨u,U,?_⟩
  rcases S.par y (TQ o) with k|k
  ·exact .inl ⟨k,A3 B o O k⟩
  ·obtain ⟨c,e⟩:=A5 (n:=s.heap.objs.size+1) k
   refine .inr ⟨.inl k,c,e,?_⟩
   have q:=x.cell y c e
   rw [A4 B o O (by show scope.names.lookup y≠_;rw [k];decide)] at q
   exact q
 ·exact l.hok.fresh (Xs (x.above y c (UQ h)))
 ·unfold start
  show _=N.length
  rw [Te,S3,VU]
  omega
theorem A7 {CX:fL}{P:Tt}{w:TV}{K:SV}{mg:Str->Option Value}{base:Uw}{k:Nat}{f:Addr}{name a:Str}{d:a2J}{body:List Stmt}{scope:V1}{X kV m Y c ct oc:Value}{an od:Option Addr}
  {M:Array (Option Value)}{N ps:List Str}{sp:Sp}(lk:K.lookup f=some ⟨oc,od,.func (Uz name a d body scope X kV m Y an c ct),M⟩)(B:Xg K c a=true)(S:FnScope N ps scope)
  (len:∀ vs H Q E,sp vs H Q E->vs.length=ps.length)
  (i:∀ (A:TJ)(outer:List XN)(s:SX)(H:Hp)(vs:List V)(Q:VK)(E:XK),Room k (A.deeper (envOfC a scope s.heap.objs.size f c))->sp vs H Q E->
   ∃ t,PSs (d4 CX P w K mg base N a scope f c A outer s H E) body t/\t { nx:=fun _ H'=>Q .non H',rt:=Q } (start N vs) H) :
  FnOk P w K mg base CX (k+1) f (Uz name a d body scope X kV m Y an c ct) ps sp:=by
 refine ⟨len,fun A outer s H U us vs Q E G p hb r z=>?_⟩
 have hl:=len _ _ _ _ z
 have T:K.In s.heap:=p.mod.kin.keeps fun b o e=>(p.bs b o e).1
 have L:s.heap.NoLimit:=p.mod.nolimit.keeps fun b o e=>(p.bs b o e).1
 have j:∀ y∈ps.zip us,scope.names.lookup y.1=some .local\/(scope.names.lookup y.1=some .cell/\((ZM (s.heap.objs.size+1) scope.names []).lookup y.1).isSome=true):=fun ⟨n,v⟩ hy=>by
  rcases S.par n (X7 hy).1 with q|q
  ·exact .inl q
  ·exact .inr ⟨q,XU _ _ _ (.inl q)⟩
 refine a1y G.depth (T _ _ lk) rfl S.co S.gen rfl (a0h T B) (hb _ _ _ _ ?_)
 refine Z8 S.kind j fun env he Z x=>?_
 subst he
 refine ⟨L.keeps x.toInCall.keep,codeAny_func ?_⟩
 obtain ⟨t,ht,hq⟩:=i A outer s H vs Q E (G.deeper _) z
 have I:Inv (d4 CX P w K mg base N a scope f c A outer s H E) [] (start N vs) H Z:=A6 S G.hd p hl r x
 refine T9 (ht [] Z (start N vs) H _ I hq) (fun fl R l=>?_) fun e R l=>l
 have fin:∀ {h:St}{H':Hp}{v:V}{u:Value},Inv (d4 CX P w K mg base N a scope f c A outer s H E) [] h H' R->RelV v u->Q v H'->CE outer P w H s Q u R:=
  fun {h H' v u} J O q=>⟨v,H',J.os,J.bare,J.base,J.hok,O,q⟩
 cases fl with
 | ret u=>
  obtain ⟨v,h,H',J,O,q⟩:=l
  exact fin J O q
 | next=>
  obtain ⟨h,H',J,q⟩:=l
  exact fin (v:=V.non) (u:=UE) J rfl q
 | brk=>
  obtain ⟨_,_,_,q⟩:=l
  exact Um q
 | cont=>
  obtain ⟨_,_,_,q⟩:=l
  exact Um q
end L2
namespace L2
open PySem PySem.Spec PyProof.Rows
section
variable {X:Cx}{x:Str}{p pos:Va}{e:Expr}{es:List Expr}{t:TA}{id T:String}{r:List V->Hp->VK->Prop}
noncomputable def vX (r:List V->Hp->VK->Prop)(t:TA):TE:=fun σ H Q=>t σ H fun vs a=>r vs a Q
theorem HW (hc:CallR X (.builtin id) r)(n:Gl X x)(o:X.mg x=none)(u:U9 x=some (.builtin id))(l:PA X (e::es) t)(q:x ≠ "__name__":=by decide) (b:(x == ("__debug__":Str))=false:=by decide)
  (m:T5 (e::es) X.env=(false,eval e X.env)::T5 es X.env:=by rfl)(c:(V0 pos (T5 es X.env)).any (·.1)=false:=by rfl):PE X (.Call (.Name x p) (e::es) [] pos) (vX r t):=by
 intro a s d H Q I h
 refine U6 (iT I n o u ?_ q b)
 exact VX (aU (l pos a s d H _ I h) fun z y ⟨A,i,j,w,v⟩=>hc a y d i A z Q j w v) m c
theorem HX (hc:CallR X (.type T) r)(n:Gl X x)(o:X.mg x=none)(u:U9 x=some (.type T))(l:PA X (e::es) t)(q:x ≠ "__name__":=by decide) (b:(x == ("__debug__":Str))=false:=by decide)
  (m:T5 (e::es) X.env=(false,eval e X.env)::T5 es X.env:=by rfl)(c:(V0 pos (T5 es X.env)).any (·.1)=false:=by rfl):PE X (.Call (.Name x p) (e::es) [] pos) (vX r t):=by
 intro a s d H Q I h
 refine U6 (iT I n o u ?_ q b)
 exact V9 (aU (l pos a s d H _ I h) fun z y ⟨A,i,j,w,v⟩=>hc a y d i A z Q j w v) m c
end
end L2
namespace L2
open PySem PySem.Spec PyProof.Rows
section
variable {κ:Type} [DecidableEq κ]
noncomputable def d5 (kvs:List (κ×V))(k:κ):Option V:=(kvs.find? fun a=>decide (a.1=k)).map (·.2)
noncomputable def eQ (kvs:List (κ×V))(k:κ)(v:V):List (κ×V):=
 if (kvs.any fun a=>decide (a.1=k))=true then kvs.map (fun a=>if a.1=k then (a.1,v) else a) else kvs++[(k,v)]
theorem vY {p:κ×V}{r:List (κ×V)}{k:κ}(e:p.1=k):d5 (p::r) k=some p.2:=by simp [d5,UJ,e]
theorem vZ {p:κ×V}{r:List (κ×V)}{k:κ}(e:¬ p.1=k):d5 (p::r) k=d5 r k:=by simp [d5,UJ,e]
theorem HY (kvs:List (κ×V))(k:κ)(v:V):(eQ kvs k v).length<=kvs.length+1:=by
 unfold eQ
 split
 ·rw [S3];omega
 ·rw [Te,Tw,VH];omega
theorem RelO.isSome_eq {o:Option V}{u:Option Value}(r:RelO o u):o.isSome=u.isSome:=by
 cases o with
 | none=>cases u with
  | none=>rfl
  | some _=>exact (show False from r).elim
 | some _=>cases u with
  | none=>exact (show False from r).elim
  | some _=>rfl
theorem RelO.getD {o:Option V}{u:Option Value}{d:V}{d':Value}(r:RelO o u)(a:RelV d d'):RelV (o.getD d) (u.getD d'):=by
 cases o with
 | none=>cases u with
  | none=>exact a
  | some _=>exact (show False from r).elim
 | some _=>cases u with
  | none=>exact (show False from r).elim
  | some _=>exact r
theorem KV.val {kvs:List (κ×V)}{vs:List (κ×Value)}(r:KV kvs vs)(k:κ):RelO (d5 kvs k) (Zl vs k):=by
 unfold KV at r
 induction r with
 | nil=>exact Wa
 | @cons p q l c h t j=>
  obtain ⟨d,i⟩:=h
  by_cases e:p.1=k
  ·have a:q.1=k:=d.symm.trans e
   have b:Zl (q::c) k=some q.2:=by simp [Zl,UJ,a]
   rw [vY e,b];exact i
  ·have a:¬ q.1=k:=fun z=>e (d.trans z)
   have b:Zl (q::c) k=Zl c k:=by simp [Zl,UJ,a]
   rw [vZ e,b];exact j
theorem KV.any {kvs:List (κ×V)}{vs:List (κ×Value)}(r:KV kvs vs)(k:κ):(kvs.any fun a=>decide (a.1=k))=vs.any fun a=>decide (a.1=k):=by
 unfold KV at r
 induction r with
 | nil=>rfl
 | cons h t b=>rw [W5,W5,b,h.1]
theorem KV.repl {kvs:List (κ×V)}{vs:List (κ×Value)}(r:KV kvs vs)(k:κ){y:V}{u:Value}(i:RelV y u) :
  KV (kvs.map fun a=>if a.1=k then (a.1,y) else a) (vs.map fun a=>if a.1=k then (a.1,u) else a):=by
 unfold KV at r ⊢
 induction r with
 | nil=>exact .nil
 | @cons p q j l h t d=>
  rw [S7,S7]
  refine .cons ?_ d
  obtain ⟨b,c⟩:=h
  by_cases e:p.1=k
  ·rw [if_pos e,if_pos (b.symm.trans e)];exact ⟨b,i⟩
  ·rw [if_neg e,if_neg (fun z=>e (b.trans z))];exact ⟨b,c⟩
theorem KV.put {kvs:List (κ×V)}{vs:List (κ×Value)}(r:KV kvs vs)(k:κ){y:V}{u:Value}(a:RelV y u):KV (eQ kvs k y) (stored vs k u):=by
 unfold eQ stored
 rw [r.any k]
 by_cases e:(vs.any fun b=>decide (b.1=k))=true
 ·rw [if_pos e,if_pos e];exact r.repl k a
 ·rw [if_neg e,if_neg e];exact YX r ⟨rfl,a⟩
theorem KV.length {kvs:List (κ×V)}{vs:List (κ×Value)}(r:KV kvs vs):kvs.length=vs.length:=Zw r
end
theorem v7 {P:Tt}{w:TV}{k:aI}{u:Value}(r:RelV (kV k) u):(dW P w).is k u=true:=by
 cases k with
 | inl i=>obtain ⟨t,e⟩:=(show ∃ t,u=T7 i t from r);subst e;exact Gv P w i t
 | inr x=>obtain ⟨t,e⟩:=(show ∃ t,u=YT x t from r);subst e;exact Gw P w x t
theorem Ba {P:Tt}{w:TV}:∀ {ks:List aI}{us:List Value},Vals (ks.map kV) us->ItemsAre (dW P w) ks us
 | [],_,r=>by rw [Xp] at r;cases r;exact .nil
 | k::ks,_,r=>by
  rw [S7] at r
  cases r with
  | cons h t=>exact .cons (v7 h) (Ba t)
noncomputable abbrev KT (H:Hp):List (List aI×V)->List (List aI×Addr×Value)->Prop:=WO fun p q=>p.1=q.1/\H q.2.1=some (.tup (p.1.map kV))/\RelV p.2 q.2.2
theorem KT.val {H:Hp}{kvs:List (List aI×V)}{xs:List (List aI×Addr×Value)}(r:KT H kvs xs)(k:List aI):RelO (d5 kvs k) ((XD xs k).map (·.2)):=by
 induction r with
 | nil=>exact Wa
 | @cons p q l c h t j=>
  obtain ⟨d,_,i⟩:=h
  by_cases e:p.1=k
  ·have a:q.1=k:=d.symm.trans e
   have b:XD (q::c) k=some q.2:=by simp [XD,UJ,a]
   rw [vY e,b];exact i
  ·have a:¬ q.1=k:=fun z=>e (d.trans z)
   have b:XD (q::c) k=XD c k:=by simp [XD,UJ,a]
   rw [vZ e,b];exact j
section
variable {P:Tt}{w:TV}{H:Hp}{h:Uw}{a:Addr}
theorem Bb {u:HO}(ok:HOk P w H h)(e:Rd H a u):ObjOk P w H h a u:=e.ok ok
theorem sG {kvs:List (aI×V)}(ok:HOk P w H h)(e:Rd H a (.dK kvs)):kvs.length<=Td/\(a == Vl)=false/\∃ vs,KV kvs vs/\h.DictOf (dW P w) a vs:=
 show ObjOk P w H h a (.dK kvs) from Bb ok e
theorem HZ {kvs:List (aI×V)}(ok:HOk P w H h)(e:H a=some (.dK kvs)):kvs.length<=Td/\(a == Vl)=false/\∃ vs,KV kvs vs/\h.DictOf (dW P w) a vs:=sG ok (.inl e)
theorem Bc {ks:List aI}(ok:HOk P w H h)(e:H a=some (.tup (ks.map kV))):(Wy (dW P w)).is h ks a:=by
 obtain ⟨_,b,r,o,c,d,n,i,_⟩:=(show ObjOk P w H h a (.tup (ks.map kV)) from ok a _ e)
 exact ⟨o,b.toArray,n,c,d,i,by simpa using Ba r⟩
theorem Bd {kvs:List (List aI×V)}(ok:HOk P w H h)(e:Rd H a (.dT kvs)):kvs.length<=Td/\(a == Vl)=false /\
  ∃ c,KT H kvs c/\h.DictOfH (Wy (dW P w)) a c:=by
 obtain ⟨z,y,c,r,o,j,i,n,s,u,v,A⟩:=(show ObjOk P w H h a (.dT kvs) from Bb ok e)
 refine ⟨z,y,c,r,o,j,i,n,s,u,v,fun x b=>?_,A⟩
 have all:∀ {l:List (List aI×V)}{m:List (List aI×Addr×Value)},KT H l m->∀ x∈m,(Wy (dW P w)).is h x.1 x.2.1:=by
  intro l m q
  induction q with
  | nil=>intro x b;exact nomatch b
  | @cons p q E G d t B=>
   intro x b
   rcases TN.mp b with e|b
   ·subst e
    exact Bc ok (by rw [<- d.1];exact d.2.1)
   ·exact B x b
 exact all r x b
end
noncomputable def DGet (H:Hp)(a:Addr)(y:V)(r:Option V):Prop:=
 (∃ c k,Rd H a (.dK c)/\y=kV k/\r=d5 c k)\/∃ c k b,Rd H a (.dT c)/\y=.ref b/\H b=some (.tup (k.map kV))/\r=d5 c k
theorem DGet.k {H:Hp}{a:Addr}{kvs:List (aI×V)}{k:aI}(e:H a=some (.dK kvs)):DGet H a (kV k) (d5 kvs k):=.inl ⟨kvs,k,.inl e,rfl,rfl⟩
section
variable {X:Cx}{a3A:List (Addr×Obj)}{σ:St}{H:Hp}{s:SX}{a:Addr}{y v:V}{u r:Value}{o:Option V}{A:TJ}{E:Value->SX->Prop}
theorem Inv.big (I:Inv X a3A σ H s):Vl<s.heap.objs.size:=by
 have h:Ux<s.heap.objs.size:=(I.mod.glob.keeps I.bk).lt
 exact Wt (by decide) h
theorem Ia {Q:Value->SX->Prop}(K:A.units+1<Vf)(I:Inv X a3A σ H s)(g:DGet H a y (some v))(w:RelV y u)(h:∀ i x,Inv X a3A σ H x->RelV v i->Q i x) :
  TK (TH X.prog X.w) A (Zm (.ref a) u) Q E s:=by
 rcases g with ⟨q,k,e,m,l⟩|⟨q,k,b,e,m,B,l⟩
 ·subst m
  obtain ⟨z,hd,L,c,j⟩:=sG I.hok e
  obtain ⟨i,hw,d⟩:=RelO.some_of (v:=v) (o:=Zl L k) (by rw [l];exact c.val k)
  exact wpAny_getItem_of (v7 w) j.mapOf hw (h i _ (I.tok _) d)
 ·subst m
  cases (show u=Tr b from w)
  obtain ⟨z,hd,M,c,j⟩:=Bd I.hok e
  obtain ⟨i,hw,d⟩:=RelO.some_of (v:=v) (o:=(XD M k).map (·.2)) (by rw [l];exact c.val k)
  obtain ⟨p,G,n⟩:=SY.mp hw
  refine a1Z (tupleKind_room_in1 K) (Bc I.hok B) j G ?_
  rw [n]
  exact h i _ (I.tok _) d
theorem v8 {h':Uw}{t':Nat}{c:HO}(I:Inv X a3A σ H s)(i:pM (H a))(h:Xq a s.heap h')(e:∃ q,h'.get? a=some q)(new:ObjOk X.prog X.w (aQ H a c) h' a c) :
  Inv X a3A σ (aQ H a c) { s with heap:=h',toks:=t' }:=
 I.write (x:=a) (e:=a) i (.inl rfl) (fun b q d z=>(h.2 b d).trans z) e new
theorem Ib {P:Tt}{w:TV}{H':Hp}{h':Uw}{kvs:List (aI×V)}{vs:List (aI×Value)}(z:kvs.length<=Td)(hd:(a == Vl)=false)(b:KV kvs vs)(dd:h'.DictOf (dW P w) a vs) :
  ObjOk P w H' h' a (.dK kvs):=⟨z,hd,vs,b,dd⟩
end
section
variable {X:Cx}{a3A:List (Addr×Obj)}{σ:St}{H:Hp}{s:SX}{a:Addr}{kvs:List (aI×V)}{k:aI}{u:Value}{A:TJ}{E:Value->SX->Prop}
theorem Ic {Q:Value->SX->Prop}(I:Inv X a3A σ H s)(e:Rd H a (.dK kvs))(h:∀ t c,Inv X a3A σ H c->Q (.int kvs.length t) c):TK (TH X.prog X.w) A (call (.builtin "len") [.ref a]) Q E s:=by
 obtain ⟨z,hd,i,b,d⟩:=sG I.hok e
 refine call_len_dict hd d (by rw [<- b.length];rw [TM] at z;omega) ?_
 rw [<- b.length]
 exact h _ _ (I.tok _)
end
noncomputable def sH (i:Expr):Prop:=∀ b a,ZS i false b a=operate [b,a] (Zm b a)
theorem Be {prog:Tt}{w:TV}{A:TJ}{E:Value->SX->Prop}{s:SX}{env:XN}{b a:Expr}{pos:Va}{T id:String}{Q:Value->SX->Prop}
  (p:a2c (.type T) "__getitem__" = pure (some (.builtin id))) (q:sH a)
  (h:TK (TH prog w) A (eval b env) (fun o e=>TK (TH prog w) A (eval a env) (fun i c=>c.TypeIs o T/\TK (TH prog w) A (Zm o i) Q E c) E e) E s) :
  TK (TH prog w) A (eval (.Subscript b a pos) env) Q E s:=by
 refine a2g (T9 h (fun o e l=>T9 l (fun i c d=>?_) fun _ _ x=>x) fun _ _ x=>x)
 obtain ⟨n,d⟩:=d
 unfold a0C
 refine S0 ?_
 rw [getitemInPython_of_ne n.not_modules]
 refine S0 (a2K n p ?_)
 have fin:TK (TH prog w) A (ZS a false o i) (fun r j=>TK (TH prog w) A (letTemporaryGo b o r >>= fun _=>pure r) Q E j) E c:=by
  rw [q o i]
  exact wpAny_operating (T9 d (fun r j m=>S0 (wpAny_letTemporaryGo (Tn m))) fun _ _ x=>x)
 first
  | exact Tn (S0 fin)
  | exact S0 (Tn (S0 fin))
  | exact S0 fin
theorem Ie {X:Cx}{a3A:List (Addr×Obj)}{σ:St}{H:Hp}{s:SX}{a:Addr}{y:V}{o:Option V}(I:Inv X a3A σ H s)(g:DGet H a y o):s.TypeIs (.ref a) "dict":=by
 rcases g with ⟨d,k,e,_,_⟩|⟨d,k,b,e,_,_,_⟩
 ·obtain ⟨_,_,h,_,c⟩:=sG I.hok e
  exact c.typeIs
 ·obtain ⟨_,_,i,_,c⟩:=Bd I.hok e
  exact c.typeIs
noncomputable def Ig (d ty:TE):TE:=fun σ H Q=>d σ H fun x c=>ty σ c fun y b=>∃ a v,x=.ref a/\DGet b a y (some v)/\Q v b
section
variable {X:Cx}{o i e value:Expr}{pos pos' tpos:Va}{td ty tv:TE}
theorem Ih (A:X.A.units+1<Vf)(w:PE X o td)(r:PE X i ty)(z:sH i):PE X (.Subscript o i pos) (Ig td ty):=by
 intro b s j H Q I h
 refine Be Zg.lookup z (aU (w b s j H _ I h) fun u L ⟨x,l,n,G,B⟩=>aU (r b L j l _ n B) fun M N ⟨y,m,d,K,a,v,q,g,E⟩=>?_)
 subst q
 obtain rfl:u=Tr a:=G
 exact ⟨Ie d g,Ia A d g K fun R O p c=>⟨v,m,p,c,E⟩⟩
end
theorem Ii {P:Tt}{w:TV}{H:Hp}(h:Uw)(a:Vl<h.objs.size):ObjOk P w H (h.push { cls:=.type "dict",data:=.dict #[] }) h.objs.size (.dK []):=
 ⟨UD _,beq_eq_false_iff_ne.mpr (UH (TL a)),[],.nil,a3z h⟩
section
variable {X:Cx}{pos:Va}
end
noncomputable def sI:List (TE×TE)->St->Hp->(List (V×V)->Hp->Prop)->Prop
 | [],_,H,Q=>Q [] H
 | (tk,tv)::r,σ,H,Q=>tk σ H fun x a=>tv σ a fun y b=>sI r σ b fun d c=>Q ((x,y)::d) c
noncomputable abbrev VV:List (V×V)->List (Value×Value)->Prop:=WO fun p q=>RelV p.1 q.1/\RelV p.2 q.2
noncomputable def jM (X:Cx)(pos:Va)(keys:List (Option Expr))(a:List Expr)(b:List (TE×TE)):Prop:=
 ∀ (a3A:List (Addr×Obj))(s:SX)(σ:St)(H:Hp)(Q:List (V×V)->Hp->Prop),Inv X a3A σ H s->sI b σ H Q->
  TK (TH X.prog X.w) X.A (evalPairs (pairTrees keys a X.env pos)) (fun h e=>∃ d c,Inv X a3A σ c e/\VV d h/\Q d c) X.xe s
theorem Ij {X:Cx}{pos:Va}:jM X pos [] [] []:=fun a3A s σ H Q I h=>pairTrees_nil_walk ⟨[],H,I,.nil,h⟩
theorem Ik {X:Cx}{pos:Va}{k v:Expr}{ks:List (Option Expr)}{vs:List Expr}{tk tv:TE}{b:List (TE×TE)}(o:PE X k tk)(q:PE X v tv)(p:jM X pos ks vs b) :
  jM X pos (some k::ks) (v::vs) ((tk,tv)::b):=fun a s d H Q I h=>
 pairTrees_cons_walk (aU (o a s d H _ I h) fun u G ⟨x,e,l,B,w⟩=>aU (q a G d e _ l w) fun M K ⟨y,i,m,E,z⟩=>
  aU (p a K d i _ m z) fun N L ⟨r,j,n,c,A⟩=>⟨(x,y)::r,j,n,.cons ⟨B,E⟩ c,A⟩)
noncomputable def lO (kvs more:List (aI×V)):List (aI×V):=more.foldl (fun a b=>eQ a b.1 b.2) kvs
theorem KV.merge:∀ {more:List (aI×V)}{a:List (aI×Value)}{kvs:List (aI×V)}{vs:List (aI×Value)},KV more a->KV kvs vs->KV (lO kvs more) (merged vs a):=by
 intro more a kvs vs r
 unfold KV at r
 induction r generalizing kvs vs with
 | nil=>intro q;exact q
 | @cons p q d i h t b=>
  intro c
  have e:KV (eQ kvs p.1 p.2) (stored vs q.1 q.2):=by
   have:=c.put p.1 h.2
   rw [<- h.1];exact this
  exact b e
theorem Bf:∀ (more kvs:List (aI×V)),(lO kvs more).length<=kvs.length+more.length
 | [],kvs=>by show kvs.length<=kvs.length+0;omega
 | p::r,kvs=>by
  have a:=Bf r (eQ kvs p.1 p.2)
  have b:=HY kvs p.1 p.2
  show (lO (eQ kvs p.1 p.2) r).length<=_
  rw [Tw];omega
theorem Bg {P:Tt}{w:TV}:∀ {kvs:List (aI×V)}{ws:List (Value×Value)},VV (kvs.map fun e=>(kV e.1,e.2)) ws->∃ d,Carries (dW P w) ws d/\KV kvs d
 | [],_,r=>by rw [Xp] at r;cases r;exact ⟨[],Wa,.nil⟩
 | p::kvs,_,r=>by
  rw [S7] at r
  cases r with
  | @cons a b j bs h t=>
   obtain ⟨d,c,q⟩:=Bg (P:=P) (w:=w) t
   obtain ⟨l,i⟩:=b
   exact ⟨(p.1,i)::d,⟨v7 h.1,rfl,c⟩,.cons ⟨rfl,h.2⟩ q⟩
noncomputable def Il (a:List (TE×TE)):TE:=fun σ H Q=>∀ p,H p=none->sI a σ (aQ H p (.dK [])) fun ps b=>b p=some (.dK [])/\∃ kvs:List (aI×V),ps=kvs.map (fun c=>(kV c.1,c.2))/\kvs.length<=15/\Q (.ref p) (aQ b p (.dK (lO [] kvs)))
theorem Im {X:Cx}{pos:Va}{keys:List (Option Expr)}{a:List Expr}{j:List (TE×TE)}(h:jM X pos keys a j)(d:keys.all (·.isSome)=true)(A:keys.length=a.length)(w:keys≠[])
  (m:keys.length<=15):PE X (.Dict keys a pos) (Il j):=by
 intro l s T H Q I q
 have B:=I.hok.fresh (Th s.heap.objs.size)
 have p:=I.laid (a:=s.heap.objs.size) (o:=.dK []) (h':=s.heap.push { cls:=.type "dict",data:=.dict #[] }) (t':=s.toks) (fun _ _ q=>S9 _ q) (Th _) (Ii s.heap I.big)
 refine wpAny_Dict_walk (knd:=dW X.prog X.w) d A w m (aU (h l _ T _ _ p (q _ B)) fun ws s2 ⟨Z,U,o,n,e,i,u,Y,L⟩=>?_)
 subst u
 obtain ⟨O,c,N⟩:=Bg (P:=X.prog) (w:=X.w) n
 obtain ⟨z,hd,R,M,r⟩:=HZ o.hok e
 cases M
 refine ⟨O,c,r,fun v b G=>⟨.ref s.heap.objs.size,_,?_,rfl,L⟩⟩
 have K:(lO [] i).length<=Td:=by
  have x:=Bf i []
  rw [VH] at x
  rw [TM];omega
 have y:∃ q,v.get? s.heap.objs.size=some q:=let ⟨q,_,_,E,_⟩:=b;⟨q,E⟩
 exact v8 o (by rw [e];exact Wa) G y (Ib K hd (N.merge .nil) b)
structure M1 (X:Cx)(o:Expr)(m:Str)(apos:Va)(e:Expr)(cpos:Va):Prop where
 base:Xo o m X.env (eval o X.env)=eval o X.env
 few:((V0 cpos (T5 [e] X.env)).all (fun x=>!x.1)&&(a0f cpos (YF [] X.env)).all (fun x=>x.1.isSome)
  && decide (([e]:List Expr).length+([]:List Wz).length+(if ([]:List Wz).isEmpty then 0 else 1)<30))=true
 line:(apos.endLine == cpos.line)=true
 trees:V0 cpos (T5 [e] X.env)=[(false,eval e X.env)]
structure M2 (X:Cx)(o:Expr)(m:Str)(apos:Va)(e f:Expr)(cpos:Va):Prop where
 base:Xo o m X.env (eval o X.env)=eval o X.env
 few:((V0 cpos (T5 [e,f] X.env)).all (fun x=>!x.1)&&(a0f cpos (YF [] X.env)).all (fun x=>x.1.isSome)
  && decide (([e,f]:List Expr).length+([]:List Wz).length+(if ([]:List Wz).isEmpty then 0 else 1)<30))=true
 line:(apos.endLine == cpos.line)=true
 trees:V0 cpos (T5 [e,f] X.env)=[(false,eval e X.env),(false,eval f X.env)]
noncomputable def IsD (H:Hp)(a:Addr):Prop:=(∃ kvs,Rd H a (.dK kvs))\/∃ kvs,Rd H a (.dT kvs)
section
variable {X:Cx}{a3A:List (Addr×Obj)}{σ:St}{H:Hp}{s:SX}{a:Addr}{y d:V}{u r:Value}{o:Option V}{A:TJ}{E:Value->SX->Prop}
end
section
variable {X:Cx}{o e f:Expr}{apos cpos:Va}{td ty tx:TE}
end
section
variable {X:Cx}{a3A:List (Addr×Obj)}{σ:St}{H:Hp}{s:SX}{a:Addr}{kvs:List (aI×V)}{A:TJ}{E:Value->SX->Prop}
end
section
variable {X:Cx}{a3A:List (Addr×Obj)}{σ:St}{H:Hp}{s:SX}{a:Addr}{y:V}{u:Value}{A:TJ}{E:Value->SX->Prop}
end
end L2
namespace HT
open PySem PyProof.Rows
noncomputable def lexLt:List Int->List Int->Bool
 | [],[]=>false
 | [],_::_=>true
 | _::_,[]=>false
 | x::xs,y::ys=>if x=y then lexLt xs ys else decide (x<y)
theorem lexLt_cons (x y:Int)(xs a:List Int):lexLt (x::xs) (y::a)=if x=y then lexLt xs a else decide (x<y):=rfl
theorem Io:lexLt [] []=false:=rfl
theorem Ip (y:Int)(a:List Int):lexLt [] (y::a)=true:=rfl
theorem Iq (x:Int)(xs:List Int):lexLt (x::xs) []=false:=rfl
theorem Ir (A:TJ)(s:SX)(a:Int)(t:a1g)(c:Int)(u:a1g):∃ e,Zo A s (.int a t) (.int c u) e/\(e=true↔a=c):=
 ⟨(a == c),SeqAt.EqAt.int_int a t c u,by simp⟩
theorem Iu (A:TJ)(s:SX)(a:Int)(t:a1g)(c:Int)(u:a1g)(prog:Tt)(w:TV)(E:Value->SX->Prop)(Q:Value->SX->Prop)(h:Q (.bool (decide (a<c))) s) :
  TK (TH prog w) A (richCompare .Lt (.int a t) (.int c u)) Q E s:=
 (a2U h:TK (TH prog w) A (UC .Lt (.int a t) (.int c u)) Q E s)
section
open PySem.SeqAt
open PySem.AutoSeq1 (wpAny_loadPart')
open PySem.MeetsSeq PySem.MeetsSeq2 PySem.MeetsSeq3
theorem Iw (l b:Addr)(items i:Array Value)(n n2:Nat)(dd O:Option Addr)(sl U:Array (Option Value))(ns L:List Int)(X:WL items.toList ns)(Y:WL i.toList L) :
  Meets (Builtin.«tuple.__lt__» ⟨[.ref l,.ref b],[]⟩)
   (fun _ R s=>s.heap.get? l=some { cls:=.type "tuple",dict:=dd,data:=.seq items n,slots:=sl }/\s.heap.get? b=some { cls:=.type "tuple",dict:=O,data:=.seq i n2,slots:=U } /\
    R (.ok (.ret (.bool (lexLt ns L)))) s):=
 .of_wp fun B w A R s h=>by
  obtain ⟨K,g,d,N,M⟩:=s;obtain ⟨hl,hb,h⟩:=h
  have f2:=AutoSeq1.sub_tuple_tuple
  have z1:items.size=ns.length:=by rw [<- X.length];simp
  have z2:i.size=L.length:=by rw [<- Y.length];simp
  wp_walk using a2L hl,a2L hb,wpAny_forIn_list _ (fun rest b T=>b.1=none/\T=⟨K,g,d,N,M⟩/\∃ (vs ws:List Value)(o m:List Int),rest=vs.zip ws /\
   WL vs o/\WL ws m/\o.length+i.size=m.length+items.size/\R (.ok (.ret (.bool (lexLt o m)))) ⟨K,g,d,N,M⟩) _
  case turn=>
   rintro ⟨y,x⟩ rest b T ⟨E,rfl,vs,ws,o,m,r,G,p,j,v⟩
   cases G with
   | nil=>rw [List.zip_nil_left] at r;cases r
   | cons a t H=>
    cases p with
    | nil=>rw [List.zip_nil_right] at r;cases r
    | cons c u I=>
     rw [a0T] at r
     injection r with hyx hrest
     injection hyx with hy hx
     subst hy hx
     rw [lexLt_cons] at v
     simp only [Tw] at j
     obtain ⟨e,he,z⟩:=Ir A.in1 ⟨K,g,d,N,M⟩ a t c u
     refine S0 (he B w _ _ ?_)
     cases e with
     | true=>
      rw [if_pos (z.mp rfl)] at v
      wp_walk
      exact ⟨rfl,rfl,_,_,_,_,hrest,H,I,by omega,v⟩
     | false=>
      rw [if_neg (fun q=>absurd (z.mpr q) UN)] at v
      have Q:=Iu A.in1 ⟨K,g,d,N,M⟩ a t c u B w
      wp_walk using Q
      exact ⟨_,rfl,by simpa using v⟩
  case fin=>
   rintro ⟨b1,b2⟩ T ⟨E,rfl,vs,ws,o,m,r,G,p,j,v⟩
   simp only at E
   subst E
   have Z:lexLt o m=decide (items.size<i.size):=by
    cases G with
    | nil=>
     cases p with
     | nil=>
      simp only [VH] at j
      rw [Io]
      exact (decide_eq_false (by omega)).symm
     | cons c u hw=>
      simp only [VH,Tw] at j
      rw [Ip]
      exact (decide_eq_true (by omega)).symm
    | cons a t Z=>
     cases p with
     | nil=>
      simp only [VH,Tw] at j
      rw [Iq]
      exact (decide_eq_false (by omega)).symm
     | cons c u hw=>
      rw [a0T] at r
      cases r
   rw [Z] at v
   wp_walk
   exact ⟨_,rfl,by simpa [a2H] using v⟩
  case h=>
   exact ⟨rfl,rfl,items.toList,i.toList,ns,L,rfl,X,Y,by omega,h⟩
end
section
variable {prog:Tt}{w:TV}{A:TJ}{E:Value->SX->Prop}{s:SX}
theorem lt_tupInts {l b:Addr}{items a:Array Value}{ns i:List Int}{Q:Value->SX->Prop}(B:a3c s.heap l items)(v:a3c s.heap b a)(y:WL items.toList ns)(z:WL a.toList i)
  (G:A.units<Vf)(h:Q (.bool (lexLt ns i)) s):TK (TH prog w) A (UC .Lt (.ref l) (.ref b)) Q E s:=by
 obtain ⟨⟨cls,u,q,I⟩,r,hc,n,hd⟩:=id B
 obtain ⟨⟨p,m,j,o⟩,e,c,H,d⟩:=id v
 simp only at hc hd c d
 subst hc hd c d
 exact richCompare_meets_room (op:=.Lt) ⟨_,r,rfl⟩ ⟨_,e,rfl⟩ PySem.F.slot_tuple_lt PySem.F.entry_tuple_lt (PySem.F.args_tuple_lt_2 _ _) (Iw l b items a n H u m I o ns i y z)
  ⟨r,e,show Tx (lexLt ns i)≠Value.notImplemented/\Q (.bool (lexLt ns i)) s from ⟨(fun x=>nomatch x),h⟩⟩ G
noncomputable def sIx (n d:Nat):Option Int->Nat
 | none=>d
 | some v=>if v<0 then (v+(n:Int)).toNat else min v.toNat n
theorem sIx_nat (n d k:Nat):sIx n d (some (k:Int))=min k n:=by
 show (if (k:Int)<0 then ((k:Int)+(n:Int)).toNat else min (k:Int).toNat n)=min k n
 rw [if_neg (by omega),WS]
theorem pQ (n d:Nat)(hd:d<=n)(o:Option Int):sIx n d o<=n:=by
 cases o with
 | none=>exact hd
 | some v=>
  show (if v<0 then (v+(n:Int)).toNat else min v.toNat n)<=n
  by_cases a:v<0
  ·rw [if_pos a];omega
  ·rw [if_neg a];exact Nat.min_le_right _ _
end
end HT
namespace L2
open PySem PySem.Spec PyProof.Rows
noncomputable abbrev TO:=St->Hp->(Option Int->Hp->Prop)->Prop
noncomputable def PO (X:Cx)(e:Option Expr)(t:TO):Prop:=
 ∀ (a3A:List (Addr×Obj))(s:SX)(σ:St)(H:Hp)(Q:Option Int->Hp->Prop),Inv X a3A σ H s->t σ H Q->
  TK (TH X.prog X.w) X.A (evalPart e X.env) (fun u b=>∃ o a,Inv X a3A σ a b/\a3y u o/\Q o a) X.xe s
noncomputable def Iy:TO:=fun _ H Q=>Q none H
noncomputable def Iz (t:TE):TO:=fun σ H Q=>t σ H fun x a=>∃ i,x=.int i/\Q (some i) a
theorem IA {ns:List Int}:∀ {us:List Value},Vals (ns.map V.int) us->WL us ns:=by
 induction ns with
 | nil=>intro us r;rw [Xp] at r;cases r;exact .nil
 | cons n ns a=>
  intro us r
  rw [S7] at r
  cases r with
  | cons b c=>
   obtain ⟨t,e⟩:=b
   subst e
   exact .cons n t (a c)
section
variable {X:Cx}{e:Expr}{te:TE}{lo hi:Option Expr}{tl th:TO}{pos p2:Va}
theorem IB:PO X none Iy:=by
 intro a s b H Q I h
 rw [evalPart_none]
 exact Tn ⟨none,H,I,.none,h⟩
theorem IC (h:PE X e te):PO X (some e) (Iz te):=by
 intro a s l H Q I hw
 rw [evalPart_some]
 refine aU (h a s l H _ I hw) fun u m ⟨x,b,c,j,d⟩=>?_
 obtain ⟨i,rfl,q⟩:=d
 obtain ⟨t,rfl⟩:=j
 exact ⟨some i,b,c,.int i t,q⟩
noncomputable def SlR (X:Cx)(r:V->Option Int->Option Int->Hp->VK->Prop):Prop:=
 ∀ (a3A:List (Addr×Obj))(s:SX)(σ:St)(H:Hp)(x:V)(v b c:Value)(lo hi:Option Int)(a:Addr)(Q:VK),Inv X a3A σ H s->RelV x v->s.heap.IsSliceOf a b c .none->a3y b lo->a3y c hi->r x lo hi H Q->
  ∃ T id,a2c (.type T) "__getitem__" = pure (some (.builtin id))/\s.TypeIs v T/\TK (TH X.prog X.w) X.A (Zm v (.ref a)) (EP X a3A σ Q) X.xe s
theorem SlR.or {r i:V->Option Int->Option Int->Hp->VK->Prop}(h:SlR X r)(h':SlR X i):SlR X (fun x lo hi H Q=>r x lo hi H Q\/i x lo hi H Q):=by
 intro a s o H x v m n lo hi l Q I j b c d q
 rcases q with q|q
 ·exact h a s o H x v m n lo hi l Q I j b c d q
 ·exact h' a s o H x v m n lo hi l Q I j b c d q
noncomputable def ID (r:V->Option Int->Option Int->Hp->VK->Prop)(te:TE)(tl th:TO):TE:=fun σ H Q=>te σ H fun x a=>tl σ a fun l b=>th σ b fun u c=>r x l u c Q
theorem IE {r:V->Option Int->Option Int->Hp->VK->Prop}(K:SlR X r)(B:PE X e te)(G:PO X lo tl)(M:PO X hi th):PE X (.Subscript e (.Slice lo hi none p2) pos) (ID r te tl th):=by
 intro a s d H Q I h
 refine a2g (aU (B a s d H _ I h) fun v s1 ⟨x,n,p,Z,R⟩=>?_)
 refine wpAny_Slice (aU (G a s1 d n _ p R) fun i s2 ⟨l,o,w,N,U⟩=>aU (M a s2 d o _ w U) fun j c ⟨u,m,y,O,Y⟩=>?_)
 rw [evalPart_none]
 refine Tn ?_
 have z:Inv X a d m { c with heap:=c.heap.push { cls:=.type "slice",data:=.fields #[i,j,.none] } }:=y.kept (t':=c.toks) fun b ob q=>S9 _ q
 obtain ⟨T,id,A,L,E⟩:=K a { c with heap:=c.heap.push { cls:=.type "slice",data:=.fields #[i,j,.none] } } d m x v i j l u c.heap.objs.size Q z Z (a2y ..) N O Y
 show TK (TH X.prog X.w) X.A (a0C e (.Slice lo hi none p2) v (.ref c.heap.objs.size)) (EP X a d Q) X.xe { c with heap:=c.heap.push { cls:=.type "slice",data:=.fields #[i,j,.none] } }
 exact tail_any (ops:=[.ref c.heap.objs.size,v]) L A E (by with_unfolding_all rfl)
noncomputable def kR (xs:List V)(lo hi:Option Int):List V:=(xs.drop (HT.sIx xs.length 0 lo)).take (HT.sIx xs.length xs.length hi - HT.sIx xs.length 0 lo)
theorem IF (xs:List V)(lo hi:Option Int):(kR xs lo hi).length<=xs.length:=by
 unfold kR
 rw [TR,Uh]
 omega
end
end L2
namespace L2
open PySem PySem.Spec PyProof.Rows
noncomputable def lP (n:Nat)(i:Int):Option Nat:=if 0<=i then (if i<n then some i.toNat else none) else if -(n:Int)<=i then some (i+n).toNat else none
noncomputable def atI {a:Type}(xs:List a)(i:Int):Option a:=(lP xs.length i).bind fun j=>xs[j]?
theorem IG {n:Nat}{i:Int}{j:Nat}(h:lP n i=some j):seqIndex? i n=some j/\j<n/\-(n:Int)<=i/\i<n:=by
 unfold lP at h
 by_cases b:0<=i
 ·rw [if_pos b] at h
  by_cases a:i<n
  ·rw [if_pos a] at h
   have e:i.toNat=j:=T3 h
   exact ⟨by rw [seqIndex_of b a,e],by omega,by omega,a⟩
  ·rw [if_neg a] at h;cases h
 ·rw [if_neg b] at h
  by_cases a:-(n:Int)<=i
  ·rw [if_pos a] at h
   have e:(i+n).toNat=j:=T3 h
   exact ⟨by rw [seqIndex_neg (by omega) a,e],by omega,a,by omega⟩
  ·rw [if_neg a] at h;cases h
theorem v9 {a:Type}{xs:List a}{i:Int}{v:a}(h:atI xs i=some v):∃ j,seqIndex? i xs.length=some j/\xs[j]? = some v/\j<xs.length/\-(xs.length:Int)<=i/\i<xs.length:=by
 unfold atI at h
 cases e:lP xs.length i with
 | none=>rw [e] at h;cases h
 | some j=>
  rw [e] at h
  obtain ⟨b,c,d,l⟩:=IG e
  exact ⟨j,b,h,c,d,l⟩
noncomputable def wA (b:Expr):Prop:=∀ o i,ZS b false o i=operate [o,i] (Zm o i)
noncomputable def IxR (X:Cx)(r:R2):Prop:=
 ∀ (b a:Expr)(a3A:List (Addr×Obj))(s:SX)(σ:St)(H:Hp)(x y:V)(v u:Value)(Q:VK),Inv X a3A σ H s->RelV x v->RelV y u->r x y H Q->
  ZS a false v u=operate [v,u] (Zm v u)->TK (TH X.prog X.w) X.A (a0C b a v u) (EP X a3A σ Q) X.xe s
noncomputable def MtR (X:Cx)(id:String)(r:V->List V->Hp->VK->Prop):Prop:=
 ∀ (a3A:List (Addr×Obj))(s:SX)(σ:St)(H:Hp)(x:V)(xs:List V)(v:Value)(us:List Value)(Q:VK),Inv X a3A σ H s->RelV x v->Vals xs us->r x xs H Q->
  TK (TH X.prog X.w) X.A (call (.builtin id) (v::us)) (EP X a3A σ Q) X.xe s
section
variable {X:Cx}{a b:Expr}{ta tb:TE}{pos:Va}
theorem IxR.or {r j:R2}(h:IxR X r)(h':IxR X j):IxR X (fun x y H Q=>r x y H Q\/j x y H Q):=by
 intro d c e s n H x y v u Q I l m q i
 rcases q with q|q
 ·exact h d c e s n H x y v u Q I l m q i
 ·exact h' d c e s n H x y v u Q I l m q i
theorem IH {r:R2}(l:IxR X r)(i:PE X a ta)(j:PE X b tb)(m:wA b):PE X (.Subscript a b pos) (pP r ta tb):=by
 intro c s w H Q I h
 exact a2g (vK i j I h fun v u p x y d e n o q=>l a b c p w d x y v u Q e n o q (m _ _))
noncomputable def Bh (K:SV):R2:=fun x y H Q=>∃ p xs i v,x=.ref p/\y=.int i/\SqL K H p xs/\atI xs i=some v/\Q v H
noncomputable def Bi (K:SV):R2:=fun x y H Q=>∃ p xs i v,x=.ref p/\y=.int i/\SqT K H p xs/\atI xs i=some v/\Q v H
noncomputable def Bj:R2:=fun x y H Q=>∃ z i c,x=.str z/\y=.int i/\z.length<=Td/\atI z.cps.toList i=some c/\Q (.str ⟨#[c]⟩) H
theorem ix_list:IxR X (Bh X.K):=by
 intro A o c s K H x y v u Q I U Y h G
 obtain ⟨p,xs,i,z,rfl,rfl,T,O,q⟩:=h
 cases U
 obtain ⟨t,rfl⟩:=Y
 obtain ⟨l,r,m,hz⟩:=I.list T
 obtain ⟨j,d,L,h3,M,N⟩:=v9 O
 obtain ⟨w,B,n⟩:=r.get L
 have R:=r.length
 have hn:=nC
 have fin:EP X c K Q w s:=⟨z,H,I,n,q⟩
 by_cases E:0<=i
 ·have e:i.toNat=j:=by
   rw [seqIndex_of E N] at d
   exact T3 d
  exact item_listR m.isList E (by omega) (by rw [e];simpa using B) fin G
 ·have e:(i+(l.toArray.size:Int)).toNat=j:=by
   rw [seqIndex_neg (by omega) M] at d
   rw [S5,<- R]
   exact T3 d
  exact a1c (x:=w) m.isList.typeIs a2r.lookup
   (wpAny_getItem_list_neg (Q:=fun r Z=>r=w/\EP X c K Q r Z) m.isList (by omega) (by rw [S5]<;>omega) (by omega) (by rw [e];simpa using B) ⟨rfl,fin⟩) G
theorem ix_tup:IxR X (Bi X.K):=by
 intro l e c s n H x y v u Q I N O h L
 obtain ⟨p,xs,i,z,rfl,rfl,K,E,q⟩:=h
 cases N
 obtain ⟨t,rfl⟩:=O
 obtain ⟨M,r,m,hz⟩:=I.tuple K
 obtain ⟨j,A,B,T,U,Y⟩:=v9 E
 obtain ⟨w,o,d⟩:=r.get B
 have G:=r.length
 have Z:=nC
 have fin:EP X c n Q w s:=⟨z,H,I,d,q⟩
 exact a1c (x:=w) m.typeIs slot_tuple_getitem.lookup
  (getItem_tuple (j:=j) (Q:=fun r R=>r=w/\EP X c n Q r R) m (by omega) (by omega) (by rw [S5,<- G];exact A) (by simpa using o) ⟨rfl,fin⟩) L
theorem II:IxR X Bj:=by
 intro e d m s R H x y v u Q I G K h E
 obtain ⟨z,i,c,rfl,rfl,N,A,q⟩:=h
 obtain ⟨t,rfl⟩:=G
 obtain ⟨O,rfl⟩:=K
 obtain ⟨j,l,p,L,r,w⟩:=v9 A
 have B:z.cps.toList.length=z.length:=by simp [YH]
 rw [B] at l r w
 have M:=nC
 exact tail_any (XQ s z t) slot_str_getitem.lookup (getItem_str (c:=c) (by
  have n:decide (i < -(2 ^ 63:Int))=false:=decide_eq_false (by omega)
  have o:decide (i >= 2 ^ 63)=false:=decide_eq_false (by omega)
  rw [n,o,ZW]) (by rw [l];simpa using p) ⟨.str ⟨#[c]⟩,H,I.tok _,⟨_,rfl⟩,q⟩) E
noncomputable def Bk (K:SV):R2:=fun x y H Q=>Bh K x y H Q\/Bi K x y H Q\/Bj x y H Q
theorem IJ:IxR X (Bk X.K):=ix_list.or (ix_tup.or II)
theorem IK (lo c:Option Int)(n:Nat):(Xr lo c none n).1=((HT.sIx n 0 lo:Nat):Int)/\(Xr lo c none n).2.1=((HT.sIx n n c:Nat):Int)/\(Xr lo c none n).2.2=1:=by
 refine ⟨?_,?_,rfl⟩
 ·cases lo with
  | none=>simp [Xr,HT.sIx]
  | some i=>
   simp only [Xr,HT.sIx,a0S,show (1:Int)>0 by decide,if_true]
   by_cases h:i<0
   ·simp only [h,if_true]<;>omega
   ·simp only [h,if_false]<;>omega
 ·cases c with
  | none=>simp [Xr,HT.sIx]
  | some i=>
   simp only [Xr,HT.sIx,a0S,show (1:Int)>0 by decide,if_true]
   by_cases h:i<0
   ·simp only [h,if_true]<;>omega
   ·simp only [h,if_false]<;>omega
theorem IL (c:List Value)(lo d:Option Int):slicePick c.toArray lo d none=((c.drop (HT.sIx c.length 0 lo)).take (HT.sIx c.length c.length d - HT.sIx c.length 0 lo)).toArray:=by
 obtain ⟨e,h,i⟩:=IK lo d c.toArray.size
 unfold slicePick
 rw [e,h,i]
 simp only [a3o,pick_run,S5]<;>rfl
noncomputable def wB (K:SV):V->Option Int->Option Int->Hp->VK->Prop:=fun x lo c H Q=>∃ a xs,x=.ref a/\SqL K H a xs/\∀ p,H p=none->Q (.ref p) (aQ H p (.lst (kR xs lo c)))
theorem sl_list:SlR X (wB X.K):=by
 intro l s G H x v B E e i A Q I y m u w h
 obtain ⟨a,c,rfl,n,q⟩:=h
 cases y
 obtain ⟨p,r,j,o⟩:=I.list n
 have d:=r.length
 refine ⟨"list",_,a2r.lookup,j.isList.typeIs,?_⟩
 refine wpAny_getItem_list_slice j.isList m u w .none (by simp) ?_ (by rw [S5]<;>omega)
 rw [IL,<- d]
 refine ⟨.ref s.heap.objs.size,_,I.laid (t':=s.toks) (o:=.lst (kR c e i)) (fun b z q=>S9 _ q) (Th _) ?_,rfl,q _ (I.hok.fresh (Th _))⟩
 exact ⟨Uk (IF c e i) o,_,0,(r.drop (HT.sIx c.length 0 e)).take (HT.sIx c.length c.length i - HT.sIx c.length 0 e),TZ _ rfl⟩
theorem Bl:OpR X (UC .NotIn) (fun x y H Q=>∃ i j,x=.str i/\y=.str j/\Q (.bl (!(!(UO j i 0 j.length 1).isEmpty))) H):=by
 intro c s m H x y v u Q I d e h
 obtain ⟨i,j,rfl,rfl,q⟩:=h
 obtain ⟨t,rfl⟩:=d
 obtain ⟨l,rfl⟩:=e
 exact notIn_str ⟨.bl _,H,I,rfl,q⟩
theorem call_len_seq:CallR X (.builtin "len") (fun xs H Q=>∃ p d,xs=[.ref p]/\(SqL X.K H p d\/SqT X.K H p d)/\Q (.int d.length) H):=by
 intro m s x H xs w Q I r h
 obtain ⟨p,d,rfl,e,q⟩:=h
 obtain ⟨u,rfl,o⟩:=lN r
 cases o
 have v:=nC
 rcases e with e|e
 ·obtain ⟨i,l,j,n⟩:=I.list e
  have c:=l.length
  exact Calls.call_len_list j.isList (by simp only [S5]<;>omega) ⟨.int d.length,H,I.tok _,⟨s.toks+1,by rw [S5,c]⟩,q⟩
 ·obtain ⟨i,l,j,n⟩:=I.tuple e
  have c:=l.length
  exact len_tuple j (by simp only [S5]<;>omega) ⟨.int d.length,H,I.tok _,⟨s.toks+1,by rw [S5,c]⟩,q⟩
theorem IM:CallR X (.builtin "len") (fun xs H Q=>∃ z,xs=[.str z]/\z.length<=Td/\Q (.int z.length) H):=by
 intro c s j H xs i Q I r h
 obtain ⟨z,rfl,e,q⟩:=h
 obtain ⟨u,rfl,t,rfl⟩:=lN r
 have d:=nC
 exact len_str (by omega) ⟨.int z.length,H,I.tok _,⟨_,rfl⟩,q⟩
theorem CallR.or {f:Value}{r d:List V->Hp->VK->Prop}(h:CallR X f r)(h':CallR X f d):CallR X f (fun xs H Q=>r xs H Q\/d xs H Q):=by
 intro c s j H xs i Q I e q
 rcases q with q|q
 ·exact h c s j H xs i Q I e q
 ·exact h' c s j H xs i Q I e q
theorem Bm:CallR X (.type "tuple") (fun xs H Q=>∃ p d,xs=[.ref p]/\((SqL X.K H p d/\∀ l,H l=none->Q (.ref l) (aQ H l (.tup d)))\/(SqT X.K H p d/\Q (.ref p) H))):=by
 intro i s z H xs G Q I r h
 obtain ⟨p,d,rfl,h⟩:=h
 obtain ⟨u,rfl,E⟩:=lN r
 cases E
 rcases h with ⟨m,q⟩|⟨m,q⟩
 ·obtain ⟨c,v,n,y⟩:=I.list m
  have x:=v.length
  refine call_tuple_list n.isList (fun j B=>?_) (by simp only [S5]<;>omega)
  have w:Inv X i z H { s with heap:=j }:=I.kept (t':=s.toks) B
  have A:Inv X i z (aQ H j.objs.size (.tup d)) { s with heap:=j.push { cls:=.type "tuple",data:=.seq c.toArray } }:=
   w.laid (t':=s.toks) (fun b o e=>S9 _ e) (Th _) (show ObjOk X.prog X.w _ _ _ (.tup d) from ⟨y,c,v,TupN.new _ _⟩)
  exact ⟨.ref j.objs.size,_,A,rfl,q _ (w.hok.fresh (Th _))⟩
 ·obtain ⟨c,v,n,y⟩:=I.tuple m
  exact call_tuple_same n ⟨.ref p,H,I,rfl,q⟩
noncomputable def wC (K:SV)(T:String)(x:V)(H:Hp):Prop:=match x with
 | .str _=>T = "str"
 | .int _=>T = "int"
 | .ref p=>(T = "list"/\∃ d,SqL K H p d)\/(T = "tuple"/\∃ o,K.lookup p=some o/\o.cls=.type "tuple"/\o.dict=none) \/
   (T = "dict"/\((∃ c,H p=some (.dK c))\/∃ c,H p=some (.dT c)))\/(T = "set"/\∃ S n,H p=some (.set S n))
 | _=>False
theorem IP {a3A:List (Addr×Obj)}{σ:St}{H:Hp}{s:SX}{T:String}{x:V}{v:Value}(I:Inv X a3A σ H s)(r:RelV x v)(ty:wC X.K T x H) :
  s.TypeIs v T/\∀ a,v=.ref a->∃ m,s.heap.get? a=some m/\m.dict=none:=by
 cases x with
 | str z=>
  obtain ⟨t,rfl⟩:=r
  cases (show T = "str" from ty)
  exact ⟨XQ s z t,fun _ e=>nomatch e⟩
 | int i=>
  obtain ⟨t,rfl⟩:=r
  cases (show T = "int" from ty)
  exact ⟨typeIs_int s i t,fun _ e=>nomatch e⟩
 | ref p=>
  cases r
  rcases ty with ⟨rfl,y,u⟩|⟨rfl,o,d,hc,hd⟩|⟨rfl,d⟩|⟨rfl,S,n,d⟩
  ·obtain ⟨w,_,q,_⟩:=I.list u
   refine ⟨q.isList.typeIs,fun a e=>?_⟩
   cases e
   obtain ⟨o,n,e,c,hd,_⟩:=q
   exact ⟨o,e,hd⟩
  ·refine ⟨⟨o,I.kIn p o d,hc⟩,fun a e=>?_⟩
   cases e
   exact ⟨o,I.kIn _ o d,hd⟩
  ·have z:∃ o,s.heap.get? p=some o/\o.ExactDict:=by
    rcases d with ⟨l,d⟩|⟨l,d⟩
    ·obtain ⟨_,_,_,_,o,_,_,e,h,_⟩:=I.hok p _ d
     exact ⟨o,e,h⟩
    ·obtain ⟨_,_,_,_,o,_,_,e,h,_⟩:=I.hok p _ d
     exact ⟨o,e,h⟩
   obtain ⟨o,e,h⟩:=z
   refine ⟨⟨o,e,h.1⟩,fun a j=>?_⟩
   cases j
   exact ⟨o,e,h.2.1⟩
  ·obtain ⟨o,_,_,_,e,h,_⟩:=I.hok p _ d
   refine ⟨⟨o,e,h.1⟩,fun a j=>?_⟩
   cases j
   exact ⟨o,e,h.2.1⟩
 | _=>exact Um ty
noncomputable def wD (K:SV)(T:String)(r:V->List V->Hp->VK->Prop)(to:TE)(t:TA):TE:=fun σ H Q=>to σ H fun x c=>wC K T x c/\t σ c fun xs d=>r x xs d Q
variable {o e:Expr}{es:List Expr}{to:TE}{t:TA}{name:Str}{apos cpos:Va}{T id:String}{r:V->List V->Hp->VK->Prop}
theorem Bn (M:PlainAttrs T)(slot:Slot T name id)(m:a2b (.builtin id)=pure (.type "method_descriptor")) (G:MtR X id r)(K:PE X o to)(E:PA X (e::es) t)
  (i:Xo o name X.env (eval o X.env)=eval o X.env:=by rfl)
  (l:((V0 cpos (T5 (e::es) X.env)).all (fun x=>!x.1)&&(a0f cpos (YF [] X.env)).all (fun x=>x.1.isSome)
   && decide ((e::es).length+([]:List Wz).length+(if ([]:List Wz).isEmpty then 0 else 1)<30))=true:=by rfl)
  (j:(apos.endLine == cpos.line)=true:=by rfl)(L:T5 (e::es) X.env=(false,eval e X.env)::T5 es X.env:=by rfl)(c:(V0 cpos (T5 es X.env)).any (·.1)=false:=by rfl) :
  PE X (.Call (.Attribute o name apos) (e::es) [] cpos) (wD X.K T r to t):=by
 intro d s n H Q I h
 refine a1b i l j rfl (aU (K d s n H _ I h) fun v U ⟨x,w,p,u,ty,N⟩=>?_)
 obtain ⟨A,B⟩:=IP p u ty
 refine ⟨T,id,M,slot,m,A,B,?_⟩
 have q:=E cpos d U n w _ p N
 rw [L] at q ⊢
 refine XY (by show (false||(V0 cpos (T5 es X.env)).any (·.1))=false;rw [c]<;>rfl) (Yk ?_)
 exact aU q fun Z Y ⟨vs,y,z,R,O⟩=>G d Y n y x vs v Z Q z u R O
end
end L2
namespace L2
open PySem PySem.Spec PyProof.Rows
noncomputable def jN (X:Cx)(id:String)(r:V->List V->Hp->VK->Prop):Prop:=
 ∀ (a3A:List (Addr×Obj))(s:SX)(σ:St)(H:Hp)(x:V)(xs:List V)(v:Value)(us:List Value)(Q:VK),Inv X a3A σ H s->RelV x v->Vals xs us->r x xs H Q->
  TK (TH X.prog X.w) X.A (call (.builtin id) (v::us)) (EP X a3A σ Q) X.xe s
theorem Vals.one:∀ {x:V}{us:List Value},Vals [x] us->∃ u,us=[u]/\RelV x u
 | _,_,.cons r .nil=>⟨_,rfl,r⟩
theorem Vals.two:∀ {x y:V}{us:List Value},Vals [x,y] us->∃ u v,us=[u,v]/\RelV x u/\RelV y v
 | _,_,_,.cons r (.cons q .nil)=>⟨_,_,rfl,r,q⟩
section
variable {X:Cx}{a3A:List (Addr×Obj)}{σ:St}{H:Hp}{s:SX}{l b:Addr}{xs ys zs:List V}
theorem Inv.lset {a its':List Value}{n:Nat}{f:Array Value->Array Value}{t':Nat}(I:Inv X a3A σ H s)(c:H l=some (.lst xs))
  (e:s.heap.get? l=some { cls:=.type "list",data:=.seq a.toArray n }) (h:f a.toArray=its'.toArray)(j:Vals ys its')(hz:ys.length<=Td) :
  Inv X a3A σ (aQ H l (.lst ys)) { s with heap:=s.heap.update l (VI f),toks:=t' }:=by
 have q:=PySem.IsL.update e f
 rw [h] at q
 refine I.write (x:=l) (e:=l) (by rw [c];exact trivial) (.inl rfl) (fun m u d i=>(UM s.heap (VI f) (UH d)).trans i) ⟨_,q⟩ ?_
 exact ⟨hz,its',_,j,q⟩
theorem Inv.lnew {a:List Value}{t':Nat}(I:Inv X a3A σ H s)(c:Vals ys a)(hz:ys.length<=Td) :
  Inv X a3A σ (aQ H s.heap.objs.size (.lst ys)) { s with heap:=s.heap.push { cls:=.type "list",data:=.seq a.toArray },toks:=t' }:=
 I.laid (fun _ _ q=>S9 _ q) (Th _) ⟨hz,a,0,c,TZ _ rfl⟩
theorem Inv.fresh (I:Inv X a3A σ H s):H s.heap.objs.size=none:=I.hok.fresh (Th _)
theorem Inv.lstM (I:Inv X a3A σ H s)(c:H l=some (.lst xs)):xs.length<=Td/\∃ (a:List Value)(n:Nat),Vals xs a/\xs.length=a.length/\s.heap.get? l=some { cls:=.type "list",data:=.seq a.toArray n }:=by
 obtain ⟨z,a,n,r,e⟩:=I.hok l _ c
 exact ⟨z,a,n,r,r.length,e⟩
theorem IQ {n:Nat}(h:n<=Td):Xd n=false:=by
 unfold Xd
 exact decide_eq_false (by omega)
end
section
variable {X:Cx}
noncomputable def Bo:V->List V->Hp->VK->Prop:=fun x vs H Q=>∃ l xs y,x=.ref l/\vs=[y]/\H l=some (.lst xs)/\xs.length<Td/\Q .non (aQ H l (.lst (xs++[y])))
theorem Bp:jN X "list.append" Bo:=by
 intro c s B H x w v p Q I j i h
 obtain ⟨l,A,y,rfl,rfl,b,o,q⟩:=h
 cases j
 obtain ⟨u,rfl,d⟩:=i.one
 obtain ⟨z,a,n,r,m,e⟩:=I.lstM b
 refine XT F.slot_list_append ⟨_,e,rfl⟩ F.entry_list_append (F.args_list_append_2 _ _) (PySem.list_append l a.toArray n u (by rw [S5];omega)) ⟨e,?_⟩
 refine ⟨.non,_,I.lset (its':=a++[u]) b e (by simp) (r.append (.cons d .nil)) ?_,rfl,q⟩
 rw [Te,WW]
 omega
noncomputable def Bq:V->List V->Hp->VK->Prop:=fun x vs H Q=>∃ l b xs a,x=.ref l/\vs=[.ref b]/\H l=some (.lst xs)/\H b=some (.lst a)/\xs.length+a.length<=Td/\Q .non (aQ H l (.lst (xs++a)))
theorem IS:jN X "list.extend" Bq:=by
 intro m s U H x N v M Q I G E h
 obtain ⟨l,b,O,T,rfl,rfl,j,p,L,q⟩:=h
 cases G
 obtain ⟨u,rfl,B⟩:=E.one
 cases B
 obtain ⟨z,c,n,r,K,e⟩:=I.lstM j
 obtain ⟨R,a,y,A,w,o⟩:=I.lstM p
 have i:c.toArray.size+a.toArray.size<=Td:=by rw [S5,S5];omega
 have d:¬ (!c.toArray.isEmpty&&Xd (c.toArray.size+a.toArray.size))=true:=by
  rw [IQ i,Bool.and_false]
  exact UN
 refine XT F.slot_list_extend ⟨_,e,rfl⟩ F.entry_list_extend (F.args_list_extend_2 _ _)
  (AutoSeq1.list_extend_list_list_0 l c.toArray n b a.toArray y d (by rw [S5];omega) (by omega)) ⟨e,o,?_⟩
 refine ⟨.non,_,I.lset (its':=c++a) j e (by simp) (r.append A) ?_,rfl,q⟩
 rw [Te]
 omega
noncomputable def Br:R2:=fun x y H Q=>∃ l b xs a,x=.ref l/\y=.ref b/\H l=some (.lst xs)/\H b=some (.lst a)/\xs.length+a.length<=Td/\∀ p,H p=none->Q (.ref p) (aQ H p (.lst (xs++a)))
theorem IT:OpR X (WH .Add) Br:=by
 intro d s O H x y v u Q I A B h
 obtain ⟨l,b,L,N,rfl,rfl,o,m,G,q⟩:=h
 cases A
 cases B
 obtain ⟨z,c,n,r,E,e⟩:=I.lstM o
 obtain ⟨M,a,K,w,p,i⟩:=I.lstM m
 refine PySem.P.add_list e i ?_ (by rw [S5,S5];omega)
 have j:c.toArray++a.toArray=(c++a).toArray:=by simp
 rw [j]
 exact ⟨.ref _,_,I.lnew (t':=s.toks) (r.append w) (by rw [Te];omega),rfl,q _ I.fresh⟩
end
section
variable {prog:Tt}{w:TV}{A:TJ}{E:Value->SX->Prop}{s:SX}
end
section
variable {X:Cx}
end
end L2
namespace Att
open PySem PySem.W PySem.Calls PyProof.Rows
theorem IU {P:VM}{h:Uw}:∀ (ns:List Int)(vs:List Value),WellAll P h vs (ns.map W6)->WL vs ns:=by
 intro ns
 induction ns with
 | nil=>
  intro vs w
  rw [Xp] at w
  cases w
  exact .nil
 | cons n ns c=>
  intro vs w
  rw [S7] at w
  cases w with
  | cons a b=>
   cases a
   exact .cons _ _ (c _ b)
theorem script_of {l:OpenLaw}{n:Nat}(y:l.most=some n){P:VM}{h:Uw}{args:List WData}{e:List Value}
  (c:l.row.toRowW.claim.pre args=true)(s:WellAll P h e args) :
  ∃ a u b,e=[Tr a]/\args=[WData.list (b.map W6)]/\h.get? a=some { cls:=.type "list",data:=.seq u.toArray }/\WL u b/\b.length<=n:=by
 have p:WShape.hasAll [] args [.list .int]=true:=(pre_splitW c).1
 have hc:l.pre.holds [] { args:=args } = true:=(pre_splitW c).2
 obtain ⟨d,r,rfl,v,w⟩:=hasAllW_cons p
 obtain rfl:=hasAllW_nil w
 obtain ⟨G,rfl,x⟩:=hasW_list v
 obtain ⟨b,rfl⟩:=items_int x
 have j:b.length<=n:=by
  unfold OpenLaw.pre at hc
  have m:(WTm.not (.lt (.lit (.int (n:Int))) (.len (.arg 0)))).holds [] { args:=[.list (b.map .int)] } = true:=by
   have m:=(holds_andW hc).1
   rw [y] at m
   exact m
  have o:=condW_of m (w_not (w_lt w_lit (w_len_list (w_arg rfl))))
  rw [S3] at o
  refine a1O fun q=>?_
  have A:(n:Int)<((b.length:Nat):Int):=by omega
  first
   | (rw [decide_eq_true A] at o;exact absurd o (by decide))
   | (simp at o;omega)
 cases s with
 | cons B E=>
  cases E
  cases B with
  | list z i=>exact ⟨_,_,b,rfl,rfl,z,IU b _ i,j⟩
theorem post_true (l:OpenLaw)(args:List WData):l.row.toRowW.claim.post args (.bool true) args=true:=
 postW_of (r:=l.row.toRowW) (X:=(true == true))
  (show a2u [] (.bool true) .bool=true by first|rfl|decide|simp [a2u,WShape.arms,WShape.armsAll])
  (show (WTm.eq .res (.lit (.bool true))).value [] { args:=args,res:=some (.bool true),after:=args } = some (.bool (true == true)) from w_eq_bool (w_res rfl) w_lit) rfl
section
variable {prog:Tt}{w:TV}{A:TJ}{E:Value->SX->Prop}{s:SX}{K:Frag}
end
end Att
namespace L2
open PySem PySem.Spec PyProof.Rows
theorem Bs:∀ {vs:List Value}{ns:List Int},WL vs ns->Vals (ns.map V.int) vs
 | _,_,.nil=>.nil
 | _,_,.cons n t h=>.cons ⟨t,rfl⟩ (Bs h)
noncomputable def Bt (H:Hp):Prop:=∀ b,H b=none\/∃ o xs,H b=some (.frz o (.lst xs))
theorem law_call {P:Tt}{w:TV}{K:SV}{mg Z:Str->Option Value}{CX:fL}{k:Nat}{R a:Addr}{fd:U1}{x:Str}{sp:Sp}{c:SX}{vs:List Value}{ns:List Int}
  (KX:K.In c.heap)(I:c.heap.Ns Ux mg)(i:c.heap.Ns a2f Z)(U:∀ x:Str,x ≠ "__name__"->Z x=U9 x) (G:c.heap.NoLimit)(hg:c.gens = #[])
  (O:c.heap.get? a=some { cls:=.type "list",data:=.seq vs.toArray }) (hi:WL vs ns)(hl:ns.length<=Td)(hr:Room k Zn)
  (F:∀ j:Uw,K.In j->j.Ns Ux mg->FnOk P w K mg j CX k R fd [x] sp)(A:∀ (s:SX)(u:Value),YR s fd ⟨[u],[]⟩ [(x,u)])
  (Y:∀ H:Hp,Bt H->SqL K H a (ns.map V.int)->sp [.ref a] H (fun v _=>v=.bl true) fun _ _ _=>False)
  (T:∀ H e l,CX [] H c (fun _ _ _=>False) e l->False) :
  XF (TH P w) Zn (.call (.ref R) ⟨[.ref a],[]⟩) (fun r l=>r=.ok (.ret (.bool true))/\OldK c.heap l.heap/\l.os=c.os/\X2 l.gens) c:=by
 have rv:=Bs hi
 have M:=hi.length
  -- from an abstract heap in which nothing but the script may be tracked
 have y:∀ H:Hp,Bt H->SqL K H a (ns.map V.int)->HOk P w H c.heap->(∀ b,H b≠none->b=a)->(H a≠none->K.lookup a=none)->
   XF (TH P w) Zn (.call (.ref R) ⟨[.ref a],[]⟩) (fun r l=>r=.ok (.ret (.bool true))/\OldK c.heap l.heap/\l.os=c.os/\X2 l.gens) c:=by
  intro H hO hS hok hA hK
  have mE:∀ {b:Addr}{o:Obj},c.heap.get? b=some o->H b=none->(jK c.heap H).get? b=some o:=fun e n=>Gy e n
  have noA:∀ {b:Addr}{o:Obj}{es:Array U5}{ep:Nat},c.heap.get? b=some o->o.data=.dict es ep->H b=none:=fun {b o es ep} e d=>by
   cases q:H b with
   | none=>rfl
   | some u=>
    have Q:b=a:=hA b (by rw [q];simp)
    subst Q
    rw [O] at e;cases e
    have d':Data.seq vs.toArray _=T4 es ep:=d
    cases d'
  have p:∀ {b:Addr}{m:Str->Option Value},c.heap.Ns b m->(jK c.heap H).Ns b m:=fun {b m} ⟨o,es,ep,e,d,r⟩=>⟨o,es,ep,mE e (noA e d),d,r⟩
  have E:K.In (jK c.heap H):=fun b o e=>mE (KX b o e) (by
   cases q:H b with
   | none=>rfl
   | some u=>
    have Q:b=a:=hA b (by rw [q];simp)
    subst Q
    rw [hK (by rw [q];simp)] at e;cases e)
  have hM:Mod K mg (jK c.heap H):=⟨E,p I,⟨Z,p i,U⟩,let ⟨mc,h1,h2⟩:=G;⟨mc,p h1,h2⟩⟩
  have e0:Env0 P w K mg (jK c.heap H) Zn [] c H:=⟨rfl,hM,fun b o e=>Gz e,a0l (Gx _ _),trivial,fun b i=>absurd (show b∈([]:List Addr) from i) (by simp),hok,.of_eq hg⟩
  refine XE ((F _ E (p I)).run Zn [] c H ⟨[.ref a],[]⟩ [.ref a] [.ref a] _ _ hr e0 (A c (.ref a)) (.cons rfl .nil) (Y H hO hS)) fun r l h=>?_
  cases r with
  | error e=>exact (T H e l h).elim
  | ok fl=>
   cases fl with
   | next=>exact Um h
   | brk=>exact Um h
   | cont=>exact Um h
   | ret u=>
    obtain ⟨v,H',os,B,un,L,r',q⟩:=h
    have q':v=.bl true:=q
    subst q'
    obtain rfl:u=Tx true:=r'
    refine ⟨rfl,OldK.of_keep fun b o e=>?_,os,B⟩
    cases q:H b with
    | none=>exact un.keep b o e q (by intro z;exact absurd (show b∈([]:List Addr) from z) (by simp)) (by simp)
    | some u=>
     rcases hO b with z|⟨ob,xs,z⟩
     ·rw [q] at z;cases z
     ·have z2:=un.frzs b ob _ z
      obtain ⟨e1,_⟩:=hok b _ z
      obtain ⟨e2,_⟩:=L b _ z2
      rw [e] at e1;cases e1
      exact e2
 cases X:K.lookup a with
 | some o=>
    -- the script is one of the module's own objects
  have e:=KX a o X
  rw [O] at e
  cases e
  refine y (fun _=>none) (fun _=>.inl rfl) (.inr ⟨_,vs.toArray,_,X,rfl,rfl,rfl,by rw [S5,M];exact hl,by simpa using rv⟩) (fun b u z=>by have N:(none:Option HO)=some u:=z;cases N) (fun b z=>absurd rfl z) fun z=>absurd rfl z
 | none=>
  refine y (fun b=>if b=a then some (.frz { cls:=.type "list",data:=.seq vs.toArray } (.lst (ns.map V.int))) else none) (fun b=>?_) (.inl (.inr ⟨{ cls:=.type "list",data:=.seq vs.toArray },if_pos rfl⟩)) (fun b u z=>?_) (fun b z=>?_) fun _=>X
  ·by_cases i:b=a
   ·exact .inr ⟨_,_,if_pos i⟩
   ·exact .inl (if_neg i)
  ·by_cases i:b=a
   ·have N:=(if_pos i).symm.trans z
    cases N
    subst i
    exact ⟨O,by rw [S3];exact hl,vs,_,rv,O⟩
   ·have N:=(if_neg i).symm.trans z
    cases N
  ·by_cases i:b=a
   ·exact i
   ·exact absurd (if_neg i) z
end L2
namespace L2
open PySem PySem.Spec PyProof.Rows
end L2
namespace L2
open PySem PySem.Spec PyProof.Rows
noncomputable def d6 (s:Stmt):a2J:=match s with
 | .FunctionDef _ a _ _ _ _ _ _ _ _=>a
 | _=>{ posonlyargs:=[],args:=[],vararg:=none,kwonlyargs:=[],kw_defaults:=[],kwarg:=none,defaults:=[] }
noncomputable def cH (s:Stmt):List Stmt:=match s with
 | .FunctionDef _ _ b _ _ _ _ _ _ _=>b
 | _=>[]
noncomputable def bF (s:Stmt):V1:=match s with
 | .FunctionDef _ _ _ _ _ _ sc _ _ _=>sc
 | _=>{ kind:=.function,names:=[],isGenerator:=false,isCoroutine:=false }
noncomputable abbrev d7:fL:=fun _ _ _ _ _ _=>False
noncomputable abbrev E0:XK:=fun _ _ _=>False
theorem Bu {X:Cx}:sF d7 X E0:=fun _ _ _ _ _ _ _ h=>h.elim
structure Fun (K:SV)(x qual:Str)(st:Stmt)(f:Addr)(fd:U1):Prop where
 ex:∃ (oc:Value)(od:Option Addr)(kV doc pm:Value)(an:Option Addr)(cdv ct:Value)(osl:Array (Option Value)),
  fd=Uz x qual (d6 st) (cH st) (bF st) .none kV doc pm an cdv ct/\K.lookup f=some ⟨oc,od,.func fd,osl⟩/\Xg K cdv qual=true
 kp:UR K (.ref f)=true
section
variable {P:Tt}{w:TV}{K:SV}{mg:Str->Option Value}{base:Uw}
theorem Fun.ok {x a:Str}{st:Stmt}{f:Addr}{i:U1}{N ps:List Str}{k:Nat}{sp:Sp}(F:Fun K x a st f i)(S:FnScope N ps (bF st))(len:∀ vs H Q E,sp vs H Q E->vs.length=ps.length)
  (c:∀ (b:Value)(A:TJ)(outer:List XN)(s:SX)(H:Hp)(vs:List V)(Q:VK)(E:XK),Room k (A.deeper (envOfC a (bF st) s.heap.objs.size f b))->sp vs H Q E->
   ∃ t,PSs (d4 d7 P w K mg base N a (bF st) f b A outer s H E).nox (cH st) t/\t { nx:=fun _ j=>Q .non j,rt:=Q } (start N vs) H):FnOk P w K mg base d7 (k+1) f i ps sp:=by
 obtain ⟨r,u,kV,l,v,p,b,ct,o,rfl,n,d⟩:=F.ex
 refine A7 n d S len fun A outer s H vs Q E m e=>?_
 obtain ⟨t,h,q⟩:=c b A outer s H vs Q E m e
 exact ⟨t,h.nox,q⟩
theorem Fun.binds {x a:Str}{st:Stmt}{f:Addr}{e:U1}{ps:List Str}(F:Fun K x a st f e)
  (h:∀ (kV c d:Value)(an:Option Addr)(b ct:Value)(us:List Value),us.length=ps.length->a0e (Uz x a (d6 st) (cH st) (bF st) .none kV c d an b ct) ⟨us,[]⟩=pure (ps.zip us)):Binds K e ps []:=by
 obtain ⟨m,n,kV,c,d,an,b,ct,j,rfl,l,i⟩:=F.ex
 exact .all (h kV c d an b ct)
theorem IV {x a:Str}{st:Stmt}{f:Addr}{i:Value}{j an:Option Addr}{e:Array (Option Value)}{kV d h b ct:Value}(l:K.lookup f=some ⟨i,j,.func (Uz x a (d6 st) (cH st) (bF st) .none kV d h an b ct),e⟩)
  (c:Xg K b a=true)(k:UR K (.ref f)=true):Fun K x a st f (Uz x a (d6 st) (cH st) (bF st) .none kV d h an b ct):=⟨⟨i,j,kV,d,h,an,b,ct,e,rfl,l,c⟩,k⟩
end
theorem IW {A:TJ}{k:Nat}(a:Room k A):A.units+1<Vf:=Nat.lt_of_le_of_lt (Nat.add_le_add_left (by decide:1<=64) _) a.units
section
variable {X:Cx}
theorem call_lenD:CallR X (.builtin "len") (fun xs H Q=>∃ a kvs,xs=[V.ref a]/\H a=some (.dK kvs)/\Q (.int kvs.length) H):=by
 intro c s l H xs j Q I r h
 obtain ⟨a,kvs,rfl,d,q⟩:=h
 obtain ⟨u,rfl,e⟩:=lN r
 cases e
 exact Ic I (.inl d) fun t i b=>⟨.int kvs.length,H,b,⟨t,rfl⟩,q⟩
end
theorem lQ {A B:Prop}(h:B):if false=true then A else B:=by
 rw [if_neg UN]
 exact h
theorem lR {A B:Prop}(h:A):if true=true then A else B:=by
 rw [if_pos rfl]
 exact h
section
variable {κ:Type} [DecidableEq κ]
end
end L2
namespace L3
open PySem PySem.W
theorem left_cut {p q:Tt}{loose:List Str}{Xt:SX → Bool}{L:Type}{Yf:SX → L}{Ya:TV → L}{N:Nat}{z:Bool}{hA hB hC:VM → Uw}{kA A B a:Nat}{i:Option Value}{o l m n n3:Nat}{env:XN}{v E u G H:Va}{i1 i2:Nat}
  (j:∀ w:TV,(fencedOpening V4 p w N).map (fun s=>(s.heap,s.gens,s.drawn,s.toks))=some (WT w.params,UP [],U3,ZN))
  (size:∀ w:TV,((WT w.params).isNs Ux,(WT w.params).objs.size,(WT w.params).nsMap Ux "__annotations__")=(true,a,i))
  (y:∀ (w:TV)(b:Yq),topGo V4 p w a i o ⟨WT w.params,UP [],U3,ZN,b⟩ (topStub p)=some (⟨hA w.params,UP [],U3,kA,b⟩,⟨denote V4 (.body (T6 p) env),.body (T6 p) env,E,[XR v]⟩))
  (x:∀ (w:TV)(b:Yq),a1d V4 p w a i 1 l ⟨hA w.params,UP [],U3,kA,b⟩ (blockOf (T6 p) env (.body (T6 p) env) E [XR v])=some (.next,⟨hA w.params,UP [],U3,kA,b⟩,.body (T6 p) env,u))
  (Y:∀ (w:TV)(b:Yq),a1d V4 p w a i 1 m ⟨hA w.params,UP [],U3,kA,b⟩ (a1J ((T6 p).take i1) env (.body (T6 p) env) u [XR v])=some (.next,⟨hB w.params,UP [],U3,A,b⟩,.body (T6 p) env,G))
  (Z:∀ (w:TV)(b:Yq),a1d V4 p w a i 1 n ⟨hB w.params,UP [],U3,A,b⟩ (a1J (((T6 p).drop i1).take i2) env (.body (T6 p) env) G [XR v])=some (.next,⟨hC w.params,UP [],U3,B,b⟩,.body (T6 p) env,H))
  (fin:∀ (w:TV)(b:Yq),((topRun V4 p w a i n3 ⟨hC w.params,UP [],U3,B,b⟩ (restOf (((T6 p).drop i1).drop i2) env (.body (T6 p) env) H [XR v])).bind fun c=>match staticsOk (a2O p.main.body) (WT w.params) c.heap&&namesBound p c.heap&&gensDone c&&laidKept (WT w.params) c.heap with
   | true=>some c
   | false=>none).map (fun s=>(openSeen q loose (a2O p.main.body) Xt z s,Yf s))=some (openGood q loose,Ya w))
  (le:Nat.ble (o+(l+(m+(n+n3)))) N=true):LeftO p q loose Xt Yf Ya N z:=fun w=>by
 obtain ⟨⟨h,O,d,k,b⟩,e,M⟩:=SY.mp (j w)
 obtain ⟨rfl,rfl,rfl,rfl⟩:h=WT w.params ∧ O=UP [] ∧ d=U3 ∧ k=ZN:=by simpa using M
 obtain ⟨z1,z2,z3⟩:_ ∧ _ ∧ _:=by simpa only [Prod.mk.injEq] using size w
 obtain ⟨s,T,U⟩:=SY.mp (fin w b)
 obtain ⟨c,Q,R⟩:=SS.mp T
 have K:=piece_app (Z w b) Q
 rw [Ua] at K
 have I:=piece_app (Y w b) K
 rw [Ua] at I
 have X:=go_top (y w b) (piece_block (x w b) I)
 have r:=topRun_mono (N - (o+(l+(m+(n+n3))))) _ _ _ _ X
 rw [show o+(l+(m+(n+n3)))+(N - (o+(l+(m+(n+n3)))))=N by have:=Nat.le_of_ble_eq_true le;omega] at r
 have t:topFrom V4 p w N ⟨WT w.params,UP [],U3,ZN,b⟩=some s:=by
  unfold topFrom
  dsimp only
  rw [z1,z2,z3,r]
  exact R
 unfold openEnds
 rw [e]
 show (topFrom V4 p w N _).map _=_
 rw [t]
 exact congrArg some U
end L3
namespace Lw
open PySem L2
noncomputable def aT (i:Nat):Stmt:=UB.main.body.getD i (.Pass ⟨0,0,0,0⟩)
noncomputable def Vw:Tt:={ UB with main:={ UB.main with body:=aT 1::aT 2::aT 3::aT 4::aT 5::aT 6::aT 7::aT 8::aT 9::aT 10::aT 11::aT 12::aT 13::aT 14::aT 16::aT 17::aT 18::aT 20::aT 21::aT 22::aT 23::aT 24::aT 25::aT 26::aT 28::aT 29::aT 30::aT 31::aT 32::aT 34::aT 35::aT 36::aT 37::aT 38::aT 39::aT 40::aT 41::aT 42::aT 43::aT 44::aT 45::aT 46::aT 47::aT 48::aT 49::aT 50::[] } }
noncomputable abbrev vS (x:String)(n:Nat):Value:=YT (Tj x) n
noncomputable abbrev vI (i:Int):Value:=T7 i 0
noncomputable abbrev vR (a:Addr):Value:=Tr a
noncomputable abbrev vN:Value:=UE
noncomputable abbrev cO (fs:Array Value):Obj:={ cls:=SU "code",data:=To fs }
noncomputable abbrev kO (x y:String)(a b c:Nat)(l n i j k:Int)(r:Addr)(q:Int)(vs:Array Value)(t d:Int)(e:Nat):Obj:={ cls:=SU "code",data:=To (#[vS x a,vS x b,vS y c,vI l,vI n,vI i,vI j,vI k,vR r,Tx true,vI q]++vs++#[vI t,vI d,vS y e]) }
noncomputable abbrev tO (fs:Array Value):Obj:={ cls:=SU "tuple",data:=Data.seq fs }
noncomputable abbrev fO (x:Str)(n:Nat)(m:Value)(c:Addr):Obj:=⟨SU "function",none,.func (Uz x x (d6 (aT n)) (cH (aT n)) (bF (aT n)) UE UE UE m none (Tr c) UE),#[]⟩
noncomputable abbrev eO (P:VM)(x:String)(n:Nat)(v:Value):U5:={ hash:=PyData.keyHash P (Tj x),key:=YT (Tj x) n,val:=v }
noncomputable abbrev eR (P:VM)(x:String)(n:Nat)(a:Addr):U5:=eO P x n (vR a)
noncomputable abbrev kA (p:Addr×Obj)(R:SV):SV:=p::R
noncomputable abbrev vM (n:Nat):Value:=[vS "creasecourt.places" 442,vS "creasecourt.sheets" 465,vS "creasecourt.drawings" 513,vS "law_creasecourt_k25_texts_refused" 555].getD n vN
noncomputable abbrev kF (x:String)(r a:Nat)(l n:Int)(t i:Nat)(m:Value)(R:SV):SV:=(r+5,kO x "/claim/cut.py" a (a+1) (a+2) l n 0 0 3 r 181 #[vR (r+1),vN,vR (r+2),vR (r+3),vR (r+4)] t l (t+1))::(r+6,fO x i m (r+5))::R
noncomputable abbrev kG (x:String)(r a:Nat)(l n:Int)(t i:Nat)(m:Value)(R:SV):SV:=(r+3,kO x "/claim/cut.py" a (a+1) (a+2) l n 0 0 3 r 181 #[vR (r+1),vN,vN,vN,vR (r+2)] t l (t+1))::(r+4,fO x i m (r+3))::R
noncomputable def cK (i j:Nat):Stmt:=match aT i with|.ClassDef _ _ _ b _ _ _ _ _ _ _=>b.getD j (.Pass ⟨0,0,0,0⟩)|_=>.Pass ⟨0,0,0,0⟩
noncomputable def Kx:VM → SV:=fun P=>kA (3,{ cls:=SU "dict",data:=T4 #[eO P "__name__" 165 (vS "law_creasecourt_k25_texts_refused" 555),eO P "__doc__" 166 vN,eO P "__package__" 167 vN,eO P "__loader__" 168 (Tc "__main__.__loader__#opaque"),eO P "__spec__" 169 vN,eR P "__annotations__" 170 6,eR P "__builtins__" 171 4,eO P "__file__" 173 (vS "/claim/cut.py" 172),eO P "__cached__" 174 vN,eR P "CreaseError" 206 24,eR P "NoSize" 222 37,eR P "NoMark" 238 49,eR P "NoText" 254 61,eR P "NoRound" 270 73,eR P "NoOrder" 286 85,eR P "TooMany" 302 97,eR P "NoFold" 318 109,eR P "NoRow" 334 121,eR P "NoName" 350 133,eR P "Taken" 366 145,eR P "NoEdge" 391 164,eR P "Twice" 416 183,eR P "Barred" 441 202,eR P "is_whole" 450 211,eR P "is_edge" 457 218,eR P "line_of" 464 225,eR P "MARKS" 470 226,eR P "is_size" 477 233,eR P "is_mark" 484 240,eR P "is_within" 493 247,eR P "places_within" 499 252,eR P "edges_in" 505 257,eR P "marks_in" 512 264,eR P "sign_at" 523 271,eR P "drawn" 529 276,eR P "sign_in" 537 283,eR P "creases_in" 543 288,eR P "read_sheet" 554 295,eR P "_law_draw" 564 302,eR P "_law_kind" 571 309,eR P "_law_int" 578 316,eR P "_law_are" 587 323,eR P "_law_amid" 593 328,eR P "_law_size" 600 335,eR P "_law_line" 608 342,eR P "_law_creases" 614 347,eR P "_law_is_sheet" 620 352,eR P "_law_sign" 631 359,eR P "_law_drawing" 637 364,eR P "_law_row_spoiled" 643 369,eR P "_law_spoiled" 655 376,eR P "_law_read_here" 661 381,eR P "_law_refused" 670 388,eR P "_law_other" 677 395,eR P "law" 692 402] 55 }) <|
 kA (2,{ cls:=vN,data:=T4 #[] }) <|
 kA (22,tO #[]) <|
 kA (23,{ cls:=SU "dict",data:=T4 #[eO P "__module__" 196 (vS "creasecourt.errors" 187),eO P "__firstlineno__" 200 (T7 2 199),eR P "__static_attributes__" 201 22,eR P "__weakref__" 203 25,eO P "__doc__" 204 vN] 3 }) <|
 kA (24,{ cls:=SU "type",data:=UU { name:=Tj "CreaseError",bases:=[SU "ValueError"],mro:=[vR 24,SU "ValueError",SU "Exception",SU "BaseException",SU "object"],ns:=23,qualname:=Tj "CreaseError",subclasses:=[vR 37,vR 49,vR 61,vR 73,vR 85,vR 97,vR 109,vR 121,vR 133,vR 145,vR 164,vR 183,vR 202] },slots:=#[some (vR 15),none,some (vS "CreaseError" 189),some (vS "CreaseError" 197),some (Tc "ValueError.__new__"),some (Tx true)] }) <|
 kA (25,{ cls:=SU "getset_descriptor",data:=To #[vS "__weakref__" 202,vR 24,Tc "ExceptionGroup.__weakref__",vN] }) <|
 kA (35,tO #[]) <|
 kA (36,{ cls:=SU "dict",data:=T4 #[eO P "__module__" 214 (vS "creasecourt.errors" 187),eO P "__firstlineno__" 218 (T7 4 217),eR P "__static_attributes__" 219 35,eO P "__doc__" 220 vN] 2 }) <|
 kA (37,{ cls:=SU "type",data:=UU { name:=Tj "NoSize",bases:=[vR 24],mro:=[vR 37,vR 24,SU "ValueError",SU "Exception",SU "BaseException",SU "object"],ns:=36,qualname:=Tj "NoSize" },slots:=#[some (vR 28),none,some (vS "NoSize" 207),some (vS "NoSize" 215),some (Tc "ValueError.__new__"),some (Tx true)] }) <|
 kA (47,tO #[]) <|
 kA (48,{ cls:=SU "dict",data:=T4 #[eO P "__module__" 230 (vS "creasecourt.errors" 187),eO P "__firstlineno__" 234 (T7 6 233),eR P "__static_attributes__" 235 47,eO P "__doc__" 236 vN] 2 }) <|
 kA (49,{ cls:=SU "type",data:=UU { name:=Tj "NoMark",bases:=[vR 24],mro:=[vR 49,vR 24,SU "ValueError",SU "Exception",SU "BaseException",SU "object"],ns:=48,qualname:=Tj "NoMark" },slots:=#[some (vR 40),none,some (vS "NoMark" 223),some (vS "NoMark" 231),some (Tc "ValueError.__new__"),some (Tx true)] }) <|
 kA (59,tO #[]) <|
 kA (60,{ cls:=SU "dict",data:=T4 #[eO P "__module__" 246 (vS "creasecourt.errors" 187),eO P "__firstlineno__" 250 (T7 8 249),eR P "__static_attributes__" 251 59,eO P "__doc__" 252 vN] 2 }) <|
 kA (61,{ cls:=SU "type",data:=UU { name:=Tj "NoText",bases:=[vR 24],mro:=[vR 61,vR 24,SU "ValueError",SU "Exception",SU "BaseException",SU "object"],ns:=60,qualname:=Tj "NoText" },slots:=#[some (vR 52),none,some (vS "NoText" 239),some (vS "NoText" 247),some (Tc "ValueError.__new__"),some (Tx true)] }) <|
 kA (71,tO #[]) <|
 kA (72,{ cls:=SU "dict",data:=T4 #[eO P "__module__" 262 (vS "creasecourt.errors" 187),eO P "__firstlineno__" 266 (T7 10 265),eR P "__static_attributes__" 267 71,eO P "__doc__" 268 vN] 2 }) <|
 kA (73,{ cls:=SU "type",data:=UU { name:=Tj "NoRound",bases:=[vR 24],mro:=[vR 73,vR 24,SU "ValueError",SU "Exception",SU "BaseException",SU "object"],ns:=72,qualname:=Tj "NoRound" },slots:=#[some (vR 64),none,some (vS "NoRound" 255),some (vS "NoRound" 263),some (Tc "ValueError.__new__"),some (Tx true)] }) <|
 kA (83,tO #[]) <|
 kA (84,{ cls:=SU "dict",data:=T4 #[eO P "__module__" 278 (vS "creasecourt.errors" 187),eO P "__firstlineno__" 282 (T7 12 281),eR P "__static_attributes__" 283 83,eO P "__doc__" 284 vN] 2 }) <|
 kA (85,{ cls:=SU "type",data:=UU { name:=Tj "NoOrder",bases:=[vR 24],mro:=[vR 85,vR 24,SU "ValueError",SU "Exception",SU "BaseException",SU "object"],ns:=84,qualname:=Tj "NoOrder" },slots:=#[some (vR 76),none,some (vS "NoOrder" 271),some (vS "NoOrder" 279),some (Tc "ValueError.__new__"),some (Tx true)] }) <|
 kA (95,tO #[]) <|
 kA (96,{ cls:=SU "dict",data:=T4 #[eO P "__module__" 294 (vS "creasecourt.errors" 187),eO P "__firstlineno__" 298 (T7 14 297),eR P "__static_attributes__" 299 95,eO P "__doc__" 300 vN] 2 }) <|
 kA (97,{ cls:=SU "type",data:=UU { name:=Tj "TooMany",bases:=[vR 24],mro:=[vR 97,vR 24,SU "ValueError",SU "Exception",SU "BaseException",SU "object"],ns:=96,qualname:=Tj "TooMany" },slots:=#[some (vR 88),none,some (vS "TooMany" 287),some (vS "TooMany" 295),some (Tc "ValueError.__new__"),some (Tx true)] }) <|
 kA (107,tO #[]) <|
 kA (108,{ cls:=SU "dict",data:=T4 #[eO P "__module__" 310 (vS "creasecourt.errors" 187),eO P "__firstlineno__" 314 (T7 16 313),eR P "__static_attributes__" 315 107,eO P "__doc__" 316 vN] 2 }) <|
 kA (109,{ cls:=SU "type",data:=UU { name:=Tj "NoFold",bases:=[vR 24],mro:=[vR 109,vR 24,SU "ValueError",SU "Exception",SU "BaseException",SU "object"],ns:=108,qualname:=Tj "NoFold" },slots:=#[some (vR 100),none,some (vS "NoFold" 303),some (vS "NoFold" 311),some (Tc "ValueError.__new__"),some (Tx true)] }) <|
 kA (119,tO #[]) <|
 kA (120,{ cls:=SU "dict",data:=T4 #[eO P "__module__" 326 (vS "creasecourt.errors" 187),eO P "__firstlineno__" 330 (T7 18 329),eR P "__static_attributes__" 331 119,eO P "__doc__" 332 vN] 2 }) <|
 kA (121,{ cls:=SU "type",data:=UU { name:=Tj "NoRow",bases:=[vR 24],mro:=[vR 121,vR 24,SU "ValueError",SU "Exception",SU "BaseException",SU "object"],ns:=120,qualname:=Tj "NoRow" },slots:=#[some (vR 112),none,some (vS "NoRow" 319),some (vS "NoRow" 327),some (Tc "ValueError.__new__"),some (Tx true)] }) <|
 kA (131,tO #[]) <|
 kA (132,{ cls:=SU "dict",data:=T4 #[eO P "__module__" 342 (vS "creasecourt.errors" 187),eO P "__firstlineno__" 346 (T7 20 345),eR P "__static_attributes__" 347 131,eO P "__doc__" 348 vN] 2 }) <|
 kA (133,{ cls:=SU "type",data:=UU { name:=Tj "NoName",bases:=[vR 24],mro:=[vR 133,vR 24,SU "ValueError",SU "Exception",SU "BaseException",SU "object"],ns:=132,qualname:=Tj "NoName" },slots:=#[some (vR 124),none,some (vS "NoName" 335),some (vS "NoName" 343),some (Tc "ValueError.__new__"),some (Tx true)] }) <|
 kA (143,tO #[]) <|
 kA (144,{ cls:=SU "dict",data:=T4 #[eO P "__module__" 358 (vS "creasecourt.errors" 187),eO P "__firstlineno__" 362 (T7 22 361),eR P "__static_attributes__" 363 143,eO P "__doc__" 364 vN] 2 }) <|
 kA (145,{ cls:=SU "type",data:=UU { name:=Tj "Taken",bases:=[vR 24],mro:=[vR 145,vR 24,SU "ValueError",SU "Exception",SU "BaseException",SU "object"],ns:=144,qualname:=Tj "Taken" },slots:=#[some (vR 136),none,some (vS "Taken" 351),some (vS "Taken" 359),some (Tc "ValueError.__new__"),some (Tx true)] }) <|
 kA (160,cO #[vS "__init__" 379,vS "NoEdge.__init__" 380,vS "/claim/cut.py" 381,vI 26,vI 2,vI 0,vI 0,vI 3,vR 155,Tx true,vI 181,vR 156,vN,vR 157,vR 158,vR 159,vI 384,vI 26,vS "/claim/cut.py" 385]) <|
 kA (161,⟨SU "function",none,.func (Uz "__init__" "NoEdge.__init__" (d6 (cK 12 0)) (cH (cK 12 0)) (bF (cK 12 0)) vN vN vN (vS "creasecourt.errors" 187) (none) (vR 160) vN),#[]⟩) <|
 kA (162,tO #[vS "edge" 387]) <|
 kA (163,{ cls:=SU "dict",data:=T4 #[eO P "__module__" 374 (vS "creasecourt.errors" 187),eO P "__firstlineno__" 378 (T7 24 377),eR P "__init__" 386 161,eR P "__static_attributes__" 388 162,eO P "__doc__" 389 vN] 2 }) <|
 kA (164,{ cls:=SU "type",data:=UU { name:=Tj "NoEdge",bases:=[vR 24],mro:=[vR 164,vR 24,SU "ValueError",SU "Exception",SU "BaseException",SU "object"],ns:=163,qualname:=Tj "NoEdge" },slots:=#[some (vR 148),none,some (vS "NoEdge" 367),some (vS "NoEdge" 375),some (Tc "ValueError.__new__"),some (Tx true)] }) <|
 kA (179,cO #[vS "__init__" 404,vS "Twice.__init__" 405,vS "/claim/cut.py" 406,vI 31,vI 2,vI 0,vI 0,vI 3,vR 174,Tx true,vI 181,vR 175,vN,vR 176,vR 177,vR 178,vI 409,vI 31,vS "/claim/cut.py" 410]) <|
 kA (180,⟨SU "function",none,.func (Uz "__init__" "Twice.__init__" (d6 (cK 13 0)) (cH (cK 13 0)) (bF (cK 13 0)) vN vN vN (vS "creasecourt.errors" 187) (none) (vR 179) vN),#[]⟩) <|
 kA (181,tO #[vS "edge" 412]) <|
 kA (182,{ cls:=SU "dict",data:=T4 #[eO P "__module__" 399 (vS "creasecourt.errors" 187),eO P "__firstlineno__" 403 (T7 29 402),eR P "__init__" 411 180,eR P "__static_attributes__" 413 181,eO P "__doc__" 414 vN] 2 }) <|
 kA (183,{ cls:=SU "type",data:=UU { name:=Tj "Twice",bases:=[vR 24],mro:=[vR 183,vR 24,SU "ValueError",SU "Exception",SU "BaseException",SU "object"],ns:=182,qualname:=Tj "Twice" },slots:=#[some (vR 167),none,some (vS "Twice" 392),some (vS "Twice" 400),some (Tc "ValueError.__new__"),some (Tx true)] }) <|
 kA (198,cO #[vS "__init__" 429,vS "Barred.__init__" 430,vS "/claim/cut.py" 431,vI 36,vI 2,vI 0,vI 0,vI 3,vR 193,Tx true,vI 181,vR 194,vN,vR 195,vR 196,vR 197,vI 434,vI 36,vS "/claim/cut.py" 435]) <|
 kA (199,⟨SU "function",none,.func (Uz "__init__" "Barred.__init__" (d6 (cK 14 0)) (cH (cK 14 0)) (bF (cK 14 0)) vN vN vN (vS "creasecourt.errors" 187) (none) (vR 198) vN),#[]⟩) <|
 kA (200,tO #[vS "corner" 437]) <|
 kA (201,{ cls:=SU "dict",data:=T4 #[eO P "__module__" 424 (vS "creasecourt.errors" 187),eO P "__firstlineno__" 428 (T7 34 427),eR P "__init__" 436 199,eR P "__static_attributes__" 438 200,eO P "__doc__" 439 vN] 2 }) <|
 kA (202,{ cls:=SU "type",data:=UU { name:=Tj "Barred",bases:=[vR 24],mro:=[vR 202,vR 24,SU "ValueError",SU "Exception",SU "BaseException",SU "object"],ns:=201,qualname:=Tj "Barred" },slots:=#[some (vR 186),none,some (vS "Barred" 417),some (vS "Barred" 425),some (Tc "ValueError.__new__"),some (Tx true)] }) <|
 kF "is_whole" 205 444 40 1 448 16 (vM 0) <|
 kF "is_edge" 212 451 42 1 455 17 (vM 0) <|
 kF "line_of" 219 458 46 1 462 18 (vM 0) <|
 kA (226,tO #[vS "h" 467,vS "v" 468,vS "o" 469]) <|
 kF "is_size" 227 471 52 1 475 21 (vM 1) <|
 kF "is_mark" 234 478 54 1 482 22 (vM 1) <|
 kF "is_within" 241 485 56 3 491 23 (vM 1) <|
 kG "places_within" 248 494 58 2 497 24 (vM 1) <|
 kG "edges_in" 253 500 63 2 503 25 (vM 1) <|
 kF "marks_in" 258 506 65 1 510 26 (vM 1) <|
 kF "sign_at" 265 515 68 3 521 28 (vM 2) <|
 kG "drawn" 272 524 76 1 527 29 (vM 2) <|
 kF "sign_in" 277 530 82 2 535 30 (vM 2) <|
 kG "creases_in" 284 538 84 3 541 31 (vM 2) <|
 kF "read_sheet" 289 544 87 1 552 32 (vM 2) <|
 kF "_law_draw" 296 557 100 2 562 34 (vM 3) <|
 kF "_law_kind" 303 565 102 1 569 35 (vM 3) <|
 kF "_law_int" 310 572 104 1 576 36 (vM 3) <|
 kF "_law_are" 317 579 106 2 585 37 (vM 3) <|
 kG "_law_amid" 324 588 113 3 591 38 (vM 3) <|
 kF "_law_size" 329 594 118 1 598 39 (vM 3) <|
 kF "_law_line" 336 601 120 1 606 40 (vM 3) <|
 kG "_law_creases" 343 609 123 3 612 41 (vM 3) <|
 kG "_law_is_sheet" 348 615 137 2 618 42 (vM 3) <|
 kF "_law_sign" 353 621 146 4 629 43 (vM 3) <|
 kG "_law_drawing" 360 632 155 3 635 44 (vM 3) <|
 kG "_law_row_spoiled" 365 638 160 3 641 45 (vM 3) <|
 kF "_law_spoiled" 370 644 174 2 653 46 (vM 3) <|
 kG "_law_read_here" 377 656 190 1 659 47 (vM 3) <|
 kF "_law_refused" 382 662 204 1 668 48 (vM 3) <|
 kF "_law_other" 389 671 211 1 675 49 (vM 3) <|
 kF "law" 396 678 215 1 690 50 (vM 3) <| []
noncomputable def As:List Addr:=[3,2,22,23,24,25,35,36,37,47,48,49,59,60,61,71,72,73,83,84,85,95,96,97,107,108,109,119,120,121,131,132,133,143,144,145,160,161,162,163,164,179,180,181,182,183,198,199,200,201,202,210,211,217,218,224,225,226,232,233,239,240,246,247,251,252,256,257,263,264,270,271,275,276,282,283,287,288,294,295,301,302,308,309,315,316,322,323,327,328,334,335,341,342,346,347,351,352,358,359,363,364,368,369,375,376,380,381,387,388,394,395,401,402]
theorem pR:∀ P,As=(Kx P).map (·.1):=fun _=>by kernel_rfl
open PySem.W in
noncomputable def lA (P:VM):List Obj:=((boot_o_0 P)::(boot_o_1 P)::(boot_o_2 P)::(boot_o_3 P)::(boot_o_4 P)::(boot_o_5 P)::(boot_o_6 P)::(boot_o_7 P)::(boot_o_8 P)::(boot_o_9 P)::(boot_o_10 P)::(tO #[])::({ cls:=vN,data:=To #[] })::(cO #[vS "<module>" 182,vS "<module>" 183,vS "/claim/cut.py" 184,vI 1,vI 0,vI 0,vI 0,vI 0,vR 11,Tx false,vI 181,vR 12,vN,vN,vN,vN,vI 185,vI 1,vS "/claim/cut.py" 186])::({ cls:=SU "frame",slots:=#[some (vR 13),some (vR 3),some (vR 3),none,some (vS "__main__" 164),none,some (vR 0)] })::[])
open PySem.W in
noncomputable def lB (P:VM):List Obj:=(((lA P).set 3 ({ cls:=SU "dict",data:=T4 #[eO P "__name__" 165 (vS "creasecourt.errors" 187),eO P "__doc__" 166 vN,eO P "__package__" 167 vN,eO P "__loader__" 168 (Tc "__main__.__loader__#opaque"),eO P "__spec__" 169 vN,eR P "__annotations__" 170 6,eR P "__builtins__" 171 4,eO P "__file__" 173 (vS "/claim/cut.py" 172),eO P "__cached__" 174 vN,eR P "CreaseError" 206 24,eR P "NoSize" 222 37,eR P "NoMark" 238 49,eR P "NoText" 254 61,eR P "NoRound" 270 73,eR P "NoOrder" 286 85,eR P "TooMany" 302 97] 16 })).set 12 ({ cls:=vN,data:=To #[vI 2,vI 0,vR 20,vI 4,vI 0,vR 33,vI 6,vI 0,vR 45,vI 8,vI 0,vR 57,vI 10,vI 0,vR 69,vI 12,vI 0,vR 81,vI 14,vI 0,vR 93] }))++((tO #[SU "ValueError"])::({ cls:=SU "builtin_function_or_method",data:=To #[Tc "type.__prepare__",SU "type"] })::({ cls:=SU "dict",data:=T4 #[eO P "__module__" 196 (vS "creasecourt.errors" 187),eO P "__qualname__" 198 (vS "CreaseError" 197),eO P "__firstlineno__" 200 (T7 2 199),eR P "__static_attributes__" 201 22] 4 })::(tO #[])::({ cls:=vN,data:=To #[] })::(cO #[vS "CreaseError" 191,vS "CreaseError" 192,vS "/claim/cut.py" 193,vI 2,vI 0,vI 0,vI 0,vI 0,vR 18,Tx false,vI 181,vR 19,vN,vN,vN,vN,vI 194,vI 2,vS "/claim/cut.py" 195])::({ cls:=SU "frame",slots:=#[some (vR 20),some (vR 3),some (vR 17),none,some (vS "creasecourt.errors" 187),none,some (vR 0)] })::(tO #[])::({ cls:=SU "dict",data:=T4 #[eO P "__module__" 196 (vS "creasecourt.errors" 187),eO P "__firstlineno__" 200 (T7 2 199),eR P "__static_attributes__" 201 22,eR P "__weakref__" 203 25,eO P "__doc__" 204 vN] 3 })::({ cls:=SU "type",data:=UU { name:=Tj "CreaseError",bases:=[SU "ValueError"],mro:=[vR 24,SU "ValueError",SU "Exception",SU "BaseException",SU "object"],ns:=23,qualname:=Tj "CreaseError",subclasses:=[vR 37,vR 49,vR 61,vR 73,vR 85,vR 97] },slots:=#[some (vR 15),none,some (vS "CreaseError" 189),some (vS "CreaseError" 197),some (Tc "ValueError.__new__"),some (Tx true)] })::({ cls:=SU "getset_descriptor",data:=To #[vS "__weakref__" 202,vR 24,Tc "ExceptionGroup.__weakref__",vN] })::({ cls:=SU "super",data:=To #[vR 24,vR 24,vR 24] })::({ cls:=SU "builtin_function_or_method",data:=To #[Tc "object.__init_subclass__",vR 24] })::(tO #[vR 24])::({ cls:=SU "builtin_function_or_method",data:=To #[Tc "type.__prepare__",SU "type"] })::({ cls:=SU "dict",data:=T4 #[eO P "__module__" 214 (vS "creasecourt.errors" 187),eO P "__qualname__" 216 (vS "NoSize" 215),eO P "__firstlineno__" 218 (T7 4 217),eR P "__static_attributes__" 219 35] 4 })::(tO #[])::({ cls:=vN,data:=To #[] })::(cO #[vS "NoSize" 209,vS "NoSize" 210,vS "/claim/cut.py" 211,vI 4,vI 0,vI 0,vI 0,vI 0,vR 31,Tx false,vI 181,vR 32,vN,vN,vN,vN,vI 212,vI 4,vS "/claim/cut.py" 213])::({ cls:=SU "frame",slots:=#[some (vR 33),some (vR 3),some (vR 30),none,some (vS "creasecourt.errors" 187),none,some (vR 0)] })::(tO #[])::({ cls:=SU "dict",data:=T4 #[eO P "__module__" 214 (vS "creasecourt.errors" 187),eO P "__firstlineno__" 218 (T7 4 217),eR P "__static_attributes__" 219 35,eO P "__doc__" 220 vN] 2 })::({ cls:=SU "type",data:=UU { name:=Tj "NoSize",bases:=[vR 24],mro:=[vR 37,vR 24,SU "ValueError",SU "Exception",SU "BaseException",SU "object"],ns:=36,qualname:=Tj "NoSize" },slots:=#[some (vR 28),none,some (vS "NoSize" 207),some (vS "NoSize" 215),some (Tc "ValueError.__new__"),some (Tx true)] })::({ cls:=SU "super",data:=To #[vR 37,vR 37,vR 37] })::({ cls:=SU "builtin_function_or_method",data:=To #[Tc "object.__init_subclass__",vR 37] })::(tO #[vR 24])::({ cls:=SU "builtin_function_or_method",data:=To #[Tc "type.__prepare__",SU "type"] })::({ cls:=SU "dict",data:=T4 #[eO P "__module__" 230 (vS "creasecourt.errors" 187),eO P "__qualname__" 232 (vS "NoMark" 231),eO P "__firstlineno__" 234 (T7 6 233),eR P "__static_attributes__" 235 47] 4 })::(tO #[])::({ cls:=vN,data:=To #[] })::(cO #[vS "NoMark" 225,vS "NoMark" 226,vS "/claim/cut.py" 227,vI 6,vI 0,vI 0,vI 0,vI 0,vR 43,Tx false,vI 181,vR 44,vN,vN,vN,vN,vI 228,vI 6,vS "/claim/cut.py" 229])::({ cls:=SU "frame",slots:=#[some (vR 45),some (vR 3),some (vR 42),none,some (vS "creasecourt.errors" 187),none,some (vR 0)] })::(tO #[])::({ cls:=SU "dict",data:=T4 #[eO P "__module__" 230 (vS "creasecourt.errors" 187),eO P "__firstlineno__" 234 (T7 6 233),eR P "__static_attributes__" 235 47,eO P "__doc__" 236 vN] 2 })::({ cls:=SU "type",data:=UU { name:=Tj "NoMark",bases:=[vR 24],mro:=[vR 49,vR 24,SU "ValueError",SU "Exception",SU "BaseException",SU "object"],ns:=48,qualname:=Tj "NoMark" },slots:=#[some (vR 40),none,some (vS "NoMark" 223),some (vS "NoMark" 231),some (Tc "ValueError.__new__"),some (Tx true)] })::({ cls:=SU "super",data:=To #[vR 49,vR 49,vR 49] })::({ cls:=SU "builtin_function_or_method",data:=To #[Tc "object.__init_subclass__",vR 49] })::(tO #[vR 24])::({ cls:=SU "builtin_function_or_method",data:=To #[Tc "type.__prepare__",SU "type"] })::({ cls:=SU "dict",data:=T4 #[eO P "__module__" 246 (vS "creasecourt.errors" 187),eO P "__qualname__" 248 (vS "NoText" 247),eO P "__firstlineno__" 250 (T7 8 249),eR P "__static_attributes__" 251 59] 4 })::(tO #[])::({ cls:=vN,data:=To #[] })::(cO #[vS "NoText" 241,vS "NoText" 242,vS "/claim/cut.py" 243,vI 8,vI 0,vI 0,vI 0,vI 0,vR 55,Tx false,vI 181,vR 56,vN,vN,vN,vN,vI 244,vI 8,vS "/claim/cut.py" 245])::({ cls:=SU "frame",slots:=#[some (vR 57),some (vR 3),some (vR 54),none,some (vS "creasecourt.errors" 187),none,some (vR 0)] })::(tO #[])::({ cls:=SU "dict",data:=T4 #[eO P "__module__" 246 (vS "creasecourt.errors" 187),eO P "__firstlineno__" 250 (T7 8 249),eR P "__static_attributes__" 251 59,eO P "__doc__" 252 vN] 2 })::({ cls:=SU "type",data:=UU { name:=Tj "NoText",bases:=[vR 24],mro:=[vR 61,vR 24,SU "ValueError",SU "Exception",SU "BaseException",SU "object"],ns:=60,qualname:=Tj "NoText" },slots:=#[some (vR 52),none,some (vS "NoText" 239),some (vS "NoText" 247),some (Tc "ValueError.__new__"),some (Tx true)] })::({ cls:=SU "super",data:=To #[vR 61,vR 61,vR 61] })::({ cls:=SU "builtin_function_or_method",data:=To #[Tc "object.__init_subclass__",vR 61] })::(tO #[vR 24])::({ cls:=SU "builtin_function_or_method",data:=To #[Tc "type.__prepare__",SU "type"] })::({ cls:=SU "dict",data:=T4 #[eO P "__module__" 262 (vS "creasecourt.errors" 187),eO P "__qualname__" 264 (vS "NoRound" 263),eO P "__firstlineno__" 266 (T7 10 265),eR P "__static_attributes__" 267 71] 4 })::(tO #[])::({ cls:=vN,data:=To #[] })::(cO #[vS "NoRound" 257,vS "NoRound" 258,vS "/claim/cut.py" 259,vI 10,vI 0,vI 0,vI 0,vI 0,vR 67,Tx false,vI 181,vR 68,vN,vN,vN,vN,vI 260,vI 10,vS "/claim/cut.py" 261])::({ cls:=SU "frame",slots:=#[some (vR 69),some (vR 3),some (vR 66),none,some (vS "creasecourt.errors" 187),none,some (vR 0)] })::(tO #[])::({ cls:=SU "dict",data:=T4 #[eO P "__module__" 262 (vS "creasecourt.errors" 187),eO P "__firstlineno__" 266 (T7 10 265),eR P "__static_attributes__" 267 71,eO P "__doc__" 268 vN] 2 })::({ cls:=SU "type",data:=UU { name:=Tj "NoRound",bases:=[vR 24],mro:=[vR 73,vR 24,SU "ValueError",SU "Exception",SU "BaseException",SU "object"],ns:=72,qualname:=Tj "NoRound" },slots:=#[some (vR 64),none,some (vS "NoRound" 255),some (vS "NoRound" 263),some (Tc "ValueError.__new__"),some (Tx true)] })::({ cls:=SU "super",data:=To #[vR 73,vR 73,vR 73] })::({ cls:=SU "builtin_function_or_method",data:=To #[Tc "object.__init_subclass__",vR 73] })::(tO #[vR 24])::({ cls:=SU "builtin_function_or_method",data:=To #[Tc "type.__prepare__",SU "type"] })::({ cls:=SU "dict",data:=T4 #[eO P "__module__" 278 (vS "creasecourt.errors" 187),eO P "__qualname__" 280 (vS "NoOrder" 279),eO P "__firstlineno__" 282 (T7 12 281),eR P "__static_attributes__" 283 83] 4 })::(tO #[])::({ cls:=vN,data:=To #[] })::(cO #[vS "NoOrder" 273,vS "NoOrder" 274,vS "/claim/cut.py" 275,vI 12,vI 0,vI 0,vI 0,vI 0,vR 79,Tx false,vI 181,vR 80,vN,vN,vN,vN,vI 276,vI 12,vS "/claim/cut.py" 277])::({ cls:=SU "frame",slots:=#[some (vR 81),some (vR 3),some (vR 78),none,some (vS "creasecourt.errors" 187),none,some (vR 0)] })::(tO #[])::({ cls:=SU "dict",data:=T4 #[eO P "__module__" 278 (vS "creasecourt.errors" 187),eO P "__firstlineno__" 282 (T7 12 281),eR P "__static_attributes__" 283 83,eO P "__doc__" 284 vN] 2 })::({ cls:=SU "type",data:=UU { name:=Tj "NoOrder",bases:=[vR 24],mro:=[vR 85,vR 24,SU "ValueError",SU "Exception",SU "BaseException",SU "object"],ns:=84,qualname:=Tj "NoOrder" },slots:=#[some (vR 76),none,some (vS "NoOrder" 271),some (vS "NoOrder" 279),some (Tc "ValueError.__new__"),some (Tx true)] })::({ cls:=SU "super",data:=To #[vR 85,vR 85,vR 85] })::({ cls:=SU "builtin_function_or_method",data:=To #[Tc "object.__init_subclass__",vR 85] })::(tO #[vR 24])::({ cls:=SU "builtin_function_or_method",data:=To #[Tc "type.__prepare__",SU "type"] })::({ cls:=SU "dict",data:=T4 #[eO P "__module__" 294 (vS "creasecourt.errors" 187),eO P "__qualname__" 296 (vS "TooMany" 295),eO P "__firstlineno__" 298 (T7 14 297),eR P "__static_attributes__" 299 95] 4 })::(tO #[])::({ cls:=vN,data:=To #[] })::(cO #[vS "TooMany" 289,vS "TooMany" 290,vS "/claim/cut.py" 291,vI 14,vI 0,vI 0,vI 0,vI 0,vR 91,Tx false,vI 181,vR 92,vN,vN,vN,vN,vI 292,vI 14,vS "/claim/cut.py" 293])::({ cls:=SU "frame",slots:=#[some (vR 93),some (vR 3),some (vR 90),none,some (vS "creasecourt.errors" 187),none,some (vR 0)] })::(tO #[])::({ cls:=SU "dict",data:=T4 #[eO P "__module__" 294 (vS "creasecourt.errors" 187),eO P "__firstlineno__" 298 (T7 14 297),eR P "__static_attributes__" 299 95,eO P "__doc__" 300 vN] 2 })::({ cls:=SU "type",data:=UU { name:=Tj "TooMany",bases:=[vR 24],mro:=[vR 97,vR 24,SU "ValueError",SU "Exception",SU "BaseException",SU "object"],ns:=96,qualname:=Tj "TooMany" },slots:=#[some (vR 88),none,some (vS "TooMany" 287),some (vS "TooMany" 295),some (Tc "ValueError.__new__"),some (Tx true)] })::({ cls:=SU "super",data:=To #[vR 97,vR 97,vR 97] })::({ cls:=SU "builtin_function_or_method",data:=To #[Tc "object.__init_subclass__",vR 97] })::[])
open PySem.W in
noncomputable def lC (P:VM):List Obj:=((((lB P).set 3 ({ cls:=SU "dict",data:=T4 #[eO P "__name__" 165 (vS "creasecourt.errors" 187),eO P "__doc__" 166 vN,eO P "__package__" 167 vN,eO P "__loader__" 168 (Tc "__main__.__loader__#opaque"),eO P "__spec__" 169 vN,eR P "__annotations__" 170 6,eR P "__builtins__" 171 4,eO P "__file__" 173 (vS "/claim/cut.py" 172),eO P "__cached__" 174 vN,eR P "CreaseError" 206 24,eR P "NoSize" 222 37,eR P "NoMark" 238 49,eR P "NoText" 254 61,eR P "NoRound" 270 73,eR P "NoOrder" 286 85,eR P "TooMany" 302 97,eR P "NoFold" 318 109,eR P "NoRow" 334 121,eR P "NoName" 350 133,eR P "Taken" 366 145,eR P "NoEdge" 391 164,eR P "Twice" 416 183,eR P "Barred" 441 202] 23 })).set 12 ({ cls:=vN,data:=To #[vI 2,vI 0,vR 20,vI 4,vI 0,vR 33,vI 6,vI 0,vR 45,vI 8,vI 0,vR 57,vI 10,vI 0,vR 69,vI 12,vI 0,vR 81,vI 14,vI 0,vR 93,vI 16,vI 0,vR 105,vI 18,vI 0,vR 117,vI 20,vI 0,vR 129,vI 22,vI 0,vR 141,vI 24,vI 0,vR 153,vI 29,vI 0,vR 172,vI 34,vI 0,vR 191] })).set 24 ({ cls:=SU "type",data:=UU { name:=Tj "CreaseError",bases:=[SU "ValueError"],mro:=[vR 24,SU "ValueError",SU "Exception",SU "BaseException",SU "object"],ns:=23,qualname:=Tj "CreaseError",subclasses:=[vR 37,vR 49,vR 61,vR 73,vR 85,vR 97,vR 109,vR 121,vR 133,vR 145,vR 164,vR 183,vR 202] },slots:=#[some (vR 15),none,some (vS "CreaseError" 189),some (vS "CreaseError" 197),some (Tc "ValueError.__new__"),some (Tx true)] }))++((tO #[vR 24])::({ cls:=SU "builtin_function_or_method",data:=To #[Tc "type.__prepare__",SU "type"] })::({ cls:=SU "dict",data:=T4 #[eO P "__module__" 310 (vS "creasecourt.errors" 187),eO P "__qualname__" 312 (vS "NoFold" 311),eO P "__firstlineno__" 314 (T7 16 313),eR P "__static_attributes__" 315 107] 4 })::(tO #[])::({ cls:=vN,data:=To #[] })::(cO #[vS "NoFold" 305,vS "NoFold" 306,vS "/claim/cut.py" 307,vI 16,vI 0,vI 0,vI 0,vI 0,vR 103,Tx false,vI 181,vR 104,vN,vN,vN,vN,vI 308,vI 16,vS "/claim/cut.py" 309])::({ cls:=SU "frame",slots:=#[some (vR 105),some (vR 3),some (vR 102),none,some (vS "creasecourt.errors" 187),none,some (vR 0)] })::(tO #[])::({ cls:=SU "dict",data:=T4 #[eO P "__module__" 310 (vS "creasecourt.errors" 187),eO P "__firstlineno__" 314 (T7 16 313),eR P "__static_attributes__" 315 107,eO P "__doc__" 316 vN] 2 })::({ cls:=SU "type",data:=UU { name:=Tj "NoFold",bases:=[vR 24],mro:=[vR 109,vR 24,SU "ValueError",SU "Exception",SU "BaseException",SU "object"],ns:=108,qualname:=Tj "NoFold" },slots:=#[some (vR 100),none,some (vS "NoFold" 303),some (vS "NoFold" 311),some (Tc "ValueError.__new__"),some (Tx true)] })::({ cls:=SU "super",data:=To #[vR 109,vR 109,vR 109] })::({ cls:=SU "builtin_function_or_method",data:=To #[Tc "object.__init_subclass__",vR 109] })::(tO #[vR 24])::({ cls:=SU "builtin_function_or_method",data:=To #[Tc "type.__prepare__",SU "type"] })::({ cls:=SU "dict",data:=T4 #[eO P "__module__" 326 (vS "creasecourt.errors" 187),eO P "__qualname__" 328 (vS "NoRow" 327),eO P "__firstlineno__" 330 (T7 18 329),eR P "__static_attributes__" 331 119] 4 })::(tO #[])::({ cls:=vN,data:=To #[] })::(cO #[vS "NoRow" 321,vS "NoRow" 322,vS "/claim/cut.py" 323,vI 18,vI 0,vI 0,vI 0,vI 0,vR 115,Tx false,vI 181,vR 116,vN,vN,vN,vN,vI 324,vI 18,vS "/claim/cut.py" 325])::({ cls:=SU "frame",slots:=#[some (vR 117),some (vR 3),some (vR 114),none,some (vS "creasecourt.errors" 187),none,some (vR 0)] })::(tO #[])::({ cls:=SU "dict",data:=T4 #[eO P "__module__" 326 (vS "creasecourt.errors" 187),eO P "__firstlineno__" 330 (T7 18 329),eR P "__static_attributes__" 331 119,eO P "__doc__" 332 vN] 2 })::({ cls:=SU "type",data:=UU { name:=Tj "NoRow",bases:=[vR 24],mro:=[vR 121,vR 24,SU "ValueError",SU "Exception",SU "BaseException",SU "object"],ns:=120,qualname:=Tj "NoRow" },slots:=#[some (vR 112),none,some (vS "NoRow" 319),some (vS "NoRow" 327),some (Tc "ValueError.__new__"),some (Tx true)] })::({ cls:=SU "super",data:=To #[vR 121,vR 121,vR 121] })::({ cls:=SU "builtin_function_or_method",data:=To #[Tc "object.__init_subclass__",vR 121] })::(tO #[vR 24])::({ cls:=SU "builtin_function_or_method",data:=To #[Tc "type.__prepare__",SU "type"] })::({ cls:=SU "dict",data:=T4 #[eO P "__module__" 342 (vS "creasecourt.errors" 187),eO P "__qualname__" 344 (vS "NoName" 343),eO P "__firstlineno__" 346 (T7 20 345),eR P "__static_attributes__" 347 131] 4 })::(tO #[])::({ cls:=vN,data:=To #[] })::(cO #[vS "NoName" 337,vS "NoName" 338,vS "/claim/cut.py" 339,vI 20,vI 0,vI 0,vI 0,vI 0,vR 127,Tx false,vI 181,vR 128,vN,vN,vN,vN,vI 340,vI 20,vS "/claim/cut.py" 341])::({ cls:=SU "frame",slots:=#[some (vR 129),some (vR 3),some (vR 126),none,some (vS "creasecourt.errors" 187),none,some (vR 0)] })::(tO #[])::({ cls:=SU "dict",data:=T4 #[eO P "__module__" 342 (vS "creasecourt.errors" 187),eO P "__firstlineno__" 346 (T7 20 345),eR P "__static_attributes__" 347 131,eO P "__doc__" 348 vN] 2 })::({ cls:=SU "type",data:=UU { name:=Tj "NoName",bases:=[vR 24],mro:=[vR 133,vR 24,SU "ValueError",SU "Exception",SU "BaseException",SU "object"],ns:=132,qualname:=Tj "NoName" },slots:=#[some (vR 124),none,some (vS "NoName" 335),some (vS "NoName" 343),some (Tc "ValueError.__new__"),some (Tx true)] })::({ cls:=SU "super",data:=To #[vR 133,vR 133,vR 133] })::({ cls:=SU "builtin_function_or_method",data:=To #[Tc "object.__init_subclass__",vR 133] })::(tO #[vR 24])::({ cls:=SU "builtin_function_or_method",data:=To #[Tc "type.__prepare__",SU "type"] })::({ cls:=SU "dict",data:=T4 #[eO P "__module__" 358 (vS "creasecourt.errors" 187),eO P "__qualname__" 360 (vS "Taken" 359),eO P "__firstlineno__" 362 (T7 22 361),eR P "__static_attributes__" 363 143] 4 })::(tO #[])::({ cls:=vN,data:=To #[] })::(cO #[vS "Taken" 353,vS "Taken" 354,vS "/claim/cut.py" 355,vI 22,vI 0,vI 0,vI 0,vI 0,vR 139,Tx false,vI 181,vR 140,vN,vN,vN,vN,vI 356,vI 22,vS "/claim/cut.py" 357])::({ cls:=SU "frame",slots:=#[some (vR 141),some (vR 3),some (vR 138),none,some (vS "creasecourt.errors" 187),none,some (vR 0)] })::(tO #[])::({ cls:=SU "dict",data:=T4 #[eO P "__module__" 358 (vS "creasecourt.errors" 187),eO P "__firstlineno__" 362 (T7 22 361),eR P "__static_attributes__" 363 143,eO P "__doc__" 364 vN] 2 })::({ cls:=SU "type",data:=UU { name:=Tj "Taken",bases:=[vR 24],mro:=[vR 145,vR 24,SU "ValueError",SU "Exception",SU "BaseException",SU "object"],ns:=144,qualname:=Tj "Taken" },slots:=#[some (vR 136),none,some (vS "Taken" 351),some (vS "Taken" 359),some (Tc "ValueError.__new__"),some (Tx true)] })::({ cls:=SU "super",data:=To #[vR 145,vR 145,vR 145] })::({ cls:=SU "builtin_function_or_method",data:=To #[Tc "object.__init_subclass__",vR 145] })::(tO #[vR 24])::({ cls:=SU "builtin_function_or_method",data:=To #[Tc "type.__prepare__",SU "type"] })::({ cls:=SU "dict",data:=T4 #[eO P "__module__" 374 (vS "creasecourt.errors" 187),eO P "__qualname__" 376 (vS "NoEdge" 375),eO P "__firstlineno__" 378 (T7 24 377),eR P "__init__" 386 161,eR P "__static_attributes__" 388 162] 5 })::(tO #[])::({ cls:=vN,data:=To #[vI 26,vI 4,vR 160] })::(cO #[vS "NoEdge" 369,vS "NoEdge" 370,vS "/claim/cut.py" 371,vI 24,vI 0,vI 0,vI 0,vI 0,vR 151,Tx false,vI 181,vR 152,vN,vN,vN,vN,vI 372,vI 24,vS "/claim/cut.py" 373])::({ cls:=SU "frame",slots:=#[some (vR 153),some (vR 3),some (vR 150),none,some (vS "creasecourt.errors" 187),none,some (vR 0)] })::(tO #[])::({ cls:=vN,data:=To #[] })::(tO #[vS "self" 382,vS "edge" 383])::(tO #[])::(⟨vN,none,.func ({ Uz "__init__" "NoEdge.__init__" (d6 (cK 12 0)) (cH (cK 12 0)) (bF (cK 12 0)) vN vN vN vN (none) vN vN with globals:=0 }),#[]⟩)::(cO #[vS "__init__" 379,vS "NoEdge.__init__" 380,vS "/claim/cut.py" 381,vI 26,vI 2,vI 0,vI 0,vI 3,vR 155,Tx true,vI 181,vR 156,vN,vR 157,vR 158,vR 159,vI 384,vI 26,vS "/claim/cut.py" 385])::(⟨SU "function",none,.func (Uz "__init__" "NoEdge.__init__" (d6 (cK 12 0)) (cH (cK 12 0)) (bF (cK 12 0)) vN vN vN (vS "creasecourt.errors" 187) (none) (vR 160) vN),#[]⟩)::(tO #[vS "edge" 387])::({ cls:=SU "dict",data:=T4 #[eO P "__module__" 374 (vS "creasecourt.errors" 187),eO P "__firstlineno__" 378 (T7 24 377),eR P "__init__" 386 161,eR P "__static_attributes__" 388 162,eO P "__doc__" 389 vN] 2 })::({ cls:=SU "type",data:=UU { name:=Tj "NoEdge",bases:=[vR 24],mro:=[vR 164,vR 24,SU "ValueError",SU "Exception",SU "BaseException",SU "object"],ns:=163,qualname:=Tj "NoEdge" },slots:=#[some (vR 148),none,some (vS "NoEdge" 367),some (vS "NoEdge" 375),some (Tc "ValueError.__new__"),some (Tx true)] })::({ cls:=SU "super",data:=To #[vR 164,vR 164,vR 164] })::({ cls:=SU "builtin_function_or_method",data:=To #[Tc "object.__init_subclass__",vR 164] })::(tO #[vR 24])::({ cls:=SU "builtin_function_or_method",data:=To #[Tc "type.__prepare__",SU "type"] })::({ cls:=SU "dict",data:=T4 #[eO P "__module__" 399 (vS "creasecourt.errors" 187),eO P "__qualname__" 401 (vS "Twice" 400),eO P "__firstlineno__" 403 (T7 29 402),eR P "__init__" 411 180,eR P "__static_attributes__" 413 181] 5 })::(tO #[])::({ cls:=vN,data:=To #[vI 31,vI 4,vR 179] })::(cO #[vS "Twice" 394,vS "Twice" 395,vS "/claim/cut.py" 396,vI 29,vI 0,vI 0,vI 0,vI 0,vR 170,Tx false,vI 181,vR 171,vN,vN,vN,vN,vI 397,vI 29,vS "/claim/cut.py" 398])::({ cls:=SU "frame",slots:=#[some (vR 172),some (vR 3),some (vR 169),none,some (vS "creasecourt.errors" 187),none,some (vR 0)] })::(tO #[])::({ cls:=vN,data:=To #[] })::(tO #[vS "self" 407,vS "edge" 408])::(tO #[])::(⟨vN,none,.func ({ Uz "__init__" "Twice.__init__" (d6 (cK 13 0)) (cH (cK 13 0)) (bF (cK 13 0)) vN vN vN vN (none) vN vN with globals:=0 }),#[]⟩)::(cO #[vS "__init__" 404,vS "Twice.__init__" 405,vS "/claim/cut.py" 406,vI 31,vI 2,vI 0,vI 0,vI 3,vR 174,Tx true,vI 181,vR 175,vN,vR 176,vR 177,vR 178,vI 409,vI 31,vS "/claim/cut.py" 410])::(⟨SU "function",none,.func (Uz "__init__" "Twice.__init__" (d6 (cK 13 0)) (cH (cK 13 0)) (bF (cK 13 0)) vN vN vN (vS "creasecourt.errors" 187) (none) (vR 179) vN),#[]⟩)::(tO #[vS "edge" 412])::({ cls:=SU "dict",data:=T4 #[eO P "__module__" 399 (vS "creasecourt.errors" 187),eO P "__firstlineno__" 403 (T7 29 402),eR P "__init__" 411 180,eR P "__static_attributes__" 413 181,eO P "__doc__" 414 vN] 2 })::({ cls:=SU "type",data:=UU { name:=Tj "Twice",bases:=[vR 24],mro:=[vR 183,vR 24,SU "ValueError",SU "Exception",SU "BaseException",SU "object"],ns:=182,qualname:=Tj "Twice" },slots:=#[some (vR 167),none,some (vS "Twice" 392),some (vS "Twice" 400),some (Tc "ValueError.__new__"),some (Tx true)] })::({ cls:=SU "super",data:=To #[vR 183,vR 183,vR 183] })::({ cls:=SU "builtin_function_or_method",data:=To #[Tc "object.__init_subclass__",vR 183] })::(tO #[vR 24])::({ cls:=SU "builtin_function_or_method",data:=To #[Tc "type.__prepare__",SU "type"] })::({ cls:=SU "dict",data:=T4 #[eO P "__module__" 424 (vS "creasecourt.errors" 187),eO P "__qualname__" 426 (vS "Barred" 425),eO P "__firstlineno__" 428 (T7 34 427),eR P "__init__" 436 199,eR P "__static_attributes__" 438 200] 5 })::(tO #[])::({ cls:=vN,data:=To #[vI 36,vI 4,vR 198] })::(cO #[vS "Barred" 419,vS "Barred" 420,vS "/claim/cut.py" 421,vI 34,vI 0,vI 0,vI 0,vI 0,vR 189,Tx false,vI 181,vR 190,vN,vN,vN,vN,vI 422,vI 34,vS "/claim/cut.py" 423])::({ cls:=SU "frame",slots:=#[some (vR 191),some (vR 3),some (vR 188),none,some (vS "creasecourt.errors" 187),none,some (vR 0)] })::(tO #[])::({ cls:=vN,data:=To #[] })::(tO #[vS "self" 432,vS "corner" 433])::(tO #[])::(⟨vN,none,.func ({ Uz "__init__" "Barred.__init__" (d6 (cK 14 0)) (cH (cK 14 0)) (bF (cK 14 0)) vN vN vN vN (none) vN vN with globals:=0 }),#[]⟩)::(cO #[vS "__init__" 429,vS "Barred.__init__" 430,vS "/claim/cut.py" 431,vI 36,vI 2,vI 0,vI 0,vI 3,vR 193,Tx true,vI 181,vR 194,vN,vR 195,vR 196,vR 197,vI 434,vI 36,vS "/claim/cut.py" 435])::(⟨SU "function",none,.func (Uz "__init__" "Barred.__init__" (d6 (cK 14 0)) (cH (cK 14 0)) (bF (cK 14 0)) vN vN vN (vS "creasecourt.errors" 187) (none) (vR 198) vN),#[]⟩)::(tO #[vS "corner" 437])::({ cls:=SU "dict",data:=T4 #[eO P "__module__" 424 (vS "creasecourt.errors" 187),eO P "__firstlineno__" 428 (T7 34 427),eR P "__init__" 436 199,eR P "__static_attributes__" 438 200,eO P "__doc__" 439 vN] 2 })::({ cls:=SU "type",data:=UU { name:=Tj "Barred",bases:=[vR 24],mro:=[vR 202,vR 24,SU "ValueError",SU "Exception",SU "BaseException",SU "object"],ns:=201,qualname:=Tj "Barred" },slots:=#[some (vR 186),none,some (vS "Barred" 417),some (vS "Barred" 425),some (Tc "ValueError.__new__"),some (Tx true)] })::({ cls:=SU "super",data:=To #[vR 202,vR 202,vR 202] })::({ cls:=SU "builtin_function_or_method",data:=To #[Tc "object.__init_subclass__",vR 202] })::[])
noncomputable def vE:XN:={ scope:=UB.main.scope,locals:=mainNs,globals:=mainNs,cells:=[],code:=Tr 13,frame:=some 14 }
open PySem.W PyProof.Rows in
set_option maxRecDepth 100000 in
set_option maxHeartbeats 0 in
theorem IX (w:TV)(a:Yq):topGo V4 (UW S4).prog w 11 (some (Tr 6)) 12 ⟨WT w.params,UP [],U3,ZN,a⟩ (topStub (UW S4).prog)=some (⟨⟨UP (lA w.params),{}⟩,UP [],U3,187,a⟩,⟨denote V4 (.body (T6 (UW S4).prog) vE),(.body (T6 (UW S4).prog) vE),⟨0,0,0,0⟩,[XR ⟨0,0,0,0⟩]⟩):=by kernel_rfl
open PySem.W PyProof.Rows in
set_option maxRecDepth 100000 in
set_option maxHeartbeats 0 in
theorem IY (w:TV)(a:Yq):a1d V4 (UW S4).prog w 11 (some (Tr 6)) 1 1 ⟨⟨UP (lA w.params),{}⟩,UP [],U3,187,a⟩ (blockOf (T6 (UW S4).prog) vE (.body (T6 (UW S4).prog) vE) ⟨0,0,0,0⟩ [XR ⟨0,0,0,0⟩])=some (.next,⟨⟨UP (lA w.params),{}⟩,UP [],U3,187,a⟩,(.body (T6 (UW S4).prog) vE),⟨0,0,0,0⟩):=by kernel_rfl
open PySem.W PyProof.Rows in
set_option maxRecDepth 100000 in
set_option maxHeartbeats 0 in
theorem IZ (w:TV)(a:Yq):a1d V4 (UW S4).prog w 11 (some (Tr 6)) 1 1474 ⟨⟨UP (lA w.params),{}⟩,UP [],U3,187,a⟩ (a1J ((T6 (UW S4).prog).take 8) vE (.body (T6 (UW S4).prog) vE) ⟨0,0,0,0⟩ [XR ⟨0,0,0,0⟩])=some (.next,⟨⟨UP (lB w.params),{}⟩,UP [],U3,303,a⟩,(.body (T6 (UW S4).prog) vE),⟨14,0,15,8⟩):=by kernel_rfl
open PySem.W PyProof.Rows in
set_option maxRecDepth 100000 in
set_option maxHeartbeats 0 in
theorem Ja (w:TV)(a:Yq):a1d V4 (UW S4).prog w 11 (some (Tr 6)) 1 1588 ⟨⟨UP (lB w.params),{}⟩,UP [],U3,303,a⟩ (a1J (((T6 (UW S4).prog).drop 8).take 7) vE (.body (T6 (UW S4).prog) vE) ⟨14,0,15,8⟩ [XR ⟨0,0,0,0⟩])=some (.next,⟨⟨UP (lC w.params),{}⟩,UP [],U3,442,a⟩,(.body (T6 (UW S4).prog) vE),⟨34,0,38,28⟩):=by kernel_rfl
open PySem.W PyProof.Rows in
set_option maxRecDepth 100000 in
set_option maxHeartbeats 0 in
theorem run:LeftO (UW S4).prog Vw [] (fun s=>xlAt Vw [] s&&recOk (a2w (a1s (UW S4))) s) (Hook.obs (a3u Kx As pR)) (Hook.val (a3u Kx As pR)) 8146:=
 L3.left_cut (hA:=fun P=>⟨UP (lA P),{}⟩) (hB:=fun P=>⟨UP (lB P),{}⟩) (hC:=fun P=>⟨UP (lC P),{}⟩) (n3:=1151) (i1:=8) (i2:=7) (env:=vE) (boot_open (by kernel_rfl) (by kernel_rfl) (fun _=>by kernel_rfl)) (fun w=>by kernel_rfl) IX IY IZ Ja (fun w a=>by kernel_rfl) (by kernel_rfl)
end Lw
set_option maxHeartbeats 4000000
namespace L3
open PySem
open PySem.SetTable (Probe Met Slot bits runEnd leap turns insertAt sizeAbove)
namespace Tb
noncomputable def lS (m:Nat)(p:Probe):Probe:=
 if p.more>0 then { p with j:=p.j+1,more:=p.more - 1 } else
 { p with j:=(leap m p.i p.perturb).1,more:=runEnd m (leap m p.i p.perturb).1 - (leap m p.i p.perturb).1,i:=(leap m p.i p.perturb).1,perturb:=(leap m p.i p.perturb).2 }
noncomputable def Jb (m:Nat)(b:Nat):Probe:={ j:=b % (m+1),more:=runEnd m (b % (m+1)) - b % (m+1),i:=b % (m+1),perturb:=b,dummy:=none }
noncomputable def cA (m b:Nat):Nat->Probe
 | 0=>Jb m b
 | k+1=>lS m (cA m b k)
noncomputable def lp (m b:Nat):Nat->Nat×Nat
 | 0=>(b % (m+1),b)
 | n+1=>leap m (lp m b n).1 (lp m b n).2
noncomputable def hd (m i q:Nat):Probe:={ j:=i,more:=runEnd m i - i,i:=i,perturb:=q,dummy:=none }
noncomputable def nx (m i:Nat):Nat:=(i * 5+1) % (m+1)
noncomputable def iB (m:Nat):Nat->Nat->Nat
 | 0,i=>i
 | n+1,i=>iB m n (nx m i)
noncomputable def iU (m:Nat):Nat->Nat->Nat->Nat
 | 0,_,acc=>acc
 | f+1,i,acc=>iU m f (nx m i) (acc ||| (1 <<< i))
noncomputable def nD (m:Nat):Bool:=iU m (m+1) 0 0 == 2 ^ (m+1) - 1&&iB m (m+1) 0 == 0
noncomputable def Reach (m:Nat)(S:List Nat)(b j:Nat):Prop:=∃ k,(cA m b k).j=j/\∀ k',k'<k->(cA m b k').j∈S
noncomputable abbrev nE:=Nat×Int×Value
structure Ok (t:Yh)(R:List nE):Prop where
 place:t.place.toList=R.map (·.1)
 dum:t.dummies = #[]
 rise:(R.map (·.1)).Pairwise (·<·)
 le:∀ r∈R,r.1<=t.mask
 cov:nD t.mask=true
 odd:t.mask % 2=1
 room:R.length<=t.mask
 road:∀ r∈R,Reach t.mask (R.map (·.1)) (bits r.2.1) r.1
section
variable {t:Yh}{R:List nE}
theorem Ok.size (o:Ok t R):t.place.size=R.length:=by
 have:=congrArg Vi o.place
 simpa using this
theorem Ok.getD (o:Ok t R){i:Nat}(a:i<R.length):t.place.getD i 0=(R[i]).1:=by
 have h:t.place.toList[i]? = (R.map (·.1))[i]?:=by rw [o.place]
 have b:i<t.place.size:=by rw [o.size];exact a
 simp [a,b] at h
 simp [WA,b,h]
end
noncomputable def lv (m:Nat)(a:Array (Option Nat)):List (Nat×Nat):=(Ur (m+1)).filterMap fun j=>(a.getD j none).map (j,·)
structure Ow (m:Nat)(ds:List Int)(ow:Array (Option Nat)):Prop where
 size:ow.size=m+1
 lt:∀ j i,ow.getD j none=some i->i<ds.length
 all:∀ i,i<ds.length->∃ j,ow.getD j none=some i
 inj:∀ j j' i,ow.getD j none=some i->ow.getD j' none=some i->j=j'
 road:∀ j i,ow.getD j none=some i->Reach m ((lv m ow).map (·.1)) (bits (ds.getD i 0)) j
section
variable {m:Nat}{ds:List Int}{ow:Array (Option Nat)}
end
theorem Ow.nil (m:Nat):Ow m [] (Zf (m+1) none):=by
 have e:∀ j,(Zf (m+1) (none:Option Nat)).getD j none=none:=fun j=>by
  simp [WA]
 have a:∀ {P:Prop}(j i:Nat),(Zf (m+1) (none:Option Nat)).getD j none=some i->P:=fun j i h=>by
  rw [e] at h;exact nomatch h
 exact ⟨by simp,fun j i h=>a j i h,fun i h=>absurd h (Xi _),fun j b i h _=>a j i h,fun j i h=>a j i h⟩
end Tb
end L3
namespace L3
open PySem
open PySem.SetTable (Probe Met Slot bits runEnd leap turns insertAt sizeAbove)
namespace Tb
section
variable {prog:Tt}{w:TV}{K:Type} [DecidableEq K] {knd:KeyKind prog w K}{A:TJ}{E:Value->SX->Prop}{s:SX}
theorem fits_of {t:Yh}{R:List nE}{es:Array (Int×Value)}(o:Ok t R)(c:es.toList=R.map (·.2)):t.fits es.size=true:=by
 have a:es.size=R.length:=by simpa using congrArg Vi c
 have b:=o.room
 unfold SetTable.fits SetTable.fill
 rw [o.size,a,o.dum]
 simp;exact b
end
section
variable {prog:Tt}{w:TV}{A:TJ}{E:Value->SX->Prop}{s:SX}
noncomputable abbrev El:=List Int×Addr
noncomputable def hashT (k:List Int):Int:=reduceHash (a2G (k.map hashInt))
noncomputable def Jk (p:El):Int×Value:=(hashT p.1,Tr p.2)
noncomputable def Msk (m:Nat):Prop:=m=7\/m=31\/m=127\/m=511
noncomputable def BC (w:TV):Bool:=w.params.followText "set-order"
noncomputable def Jl (a:Bool)(L:List El)(o:Obj):Prop:=∃ es ep t R,o.ExactSet/\o.data=.set es ep t/\es.toList=R.map (·.2)/\Ok t R/\es.toList.Perm (L.map Jk)/\(L.map (·.1)).Nodup/\Msk t.mask/\L.length * 5<t.mask * 3/\t.plain=true/\t.led=a
noncomputable def SObj (L:List El)(o:Obj):Prop:=∃ a,Jl a L o
end
end Tb
end L3
namespace L3
open PySem
namespace Tb
section
variable {prog:Tt}{w:TV}{A:TJ}{E:Value->SX->Prop}{s:SX}
structure SAt (w:TV)(h:Uw)(a:Addr)(es:Array (Int×Value))(ep:Nat)(t:Yh)(R:List nE):Prop where
 at_:∃ o,h.get? a=some o/\o.cls=.type "set"/\o.data=.set es ep t
 he:es.toList=R.map (·.2)
 ok:Ok t R
 pl:t.plain=true
 led:t.led = !BC w
end
end Tb
end L3
namespace L3
open PySem L2
inductive D where
 | non|bl (b:Bool)|int (i:Int)|str (x:Str)|tup (xs:List D)|rol (xs:List D)|loc (a:Nat)|ty (n:String)
 deriving Inhabited
inductive C where
 | lst (xs:List D)
 | dK (kvs:List (aI×D))
 | st (ks:List (List Int))
 | dT (kvs:List (List Int×D))
 | exc (x:Str)(ns:List Str)(ds:List D)
 deriving Inhabited
noncomputable abbrev Hm:=List C
noncomputable abbrev aG:=List (Option D)
noncomputable abbrev ME:=aG->Hm->Option (D×Hm)
noncomputable abbrev MT:=aG->Hm->Option (Bool×Hm)
noncomputable abbrev MA:=aG->Hm->Option (List D×Hm)
inductive Fl where
 | nx|rt (d:D)|bk|ct
noncomputable abbrev MS:=aG->Hm->Option (Fl×aG×Hm)
noncomputable abbrev MF:=List D->Hm->Option (D×Hm)
noncomputable def RoL (K:SV)(H:Hp)(p:Addr)(xs:List V):Prop:=
 (∃ o,H p=some (.frz o (.lst xs))) \/
  ∃ (o:Obj)(a:Array Value)(n:Nat),K.lookup p=some o/\o.cls=.type "list"/\o.dict=none/\o.data=.seq a n/\a.size<=Td/\Vals xs a.toList
theorem RoL.sq {K:SV}{H:Hp}{p:Addr}{xs:List V}(h:RoL K H p xs):SqL K H p xs:=by
 rcases h with ⟨o,h⟩|h
 ·exact .inl (.inr ⟨o,h⟩)
 ·exact .inr h
mutual
inductive IsD (K:SV)(π:Nat->Addr)(n:Nat)(H:Hp):V->D->Prop where
 | non:IsD K π n H .non .non
 | bl (b:Bool):IsD K π n H (.bl b) (.bl b)
 | int (i:Int):IsD K π n H (.int i) (.int i)
 | str (x:Str):IsD K π n H (.str x) (.str x)
 | tup {p:Addr}{vs:List V}{ds:List D}(h:SqT K H p vs)(t:IsDs K π n H vs ds):IsD K π n H (.ref p) (.tup ds)
 | rol {p:Addr}{vs:List V}{ds:List D}(h:RoL K H p vs)(t:IsDs K π n H vs ds):IsD K π n H (.ref p) (.rol ds)
 | loc {a:Nat}(h:a<n):IsD K π n H (.ref (π a)) (.loc a)
 | ty (x:String):IsD K π n H (.ty x) (.ty x)
inductive IsDs (K:SV)(π:Nat->Addr)(n:Nat)(H:Hp):List V->List D->Prop where
 | nil:IsDs K π n H [] []
 | cons {v:V}{d:D}{vs:List V}{ds:List D}(h:IsD K π n H v d)(t:IsDs K π n H vs ds):IsDs K π n H (v::vs) (d::ds)
end
structure Ext (π:Nat->Addr)(n:Nat)(H:Hp)(π':Nat->Addr)(n':Nat)(H':Hp):Prop where
 le:n<=n'
 pi:∀ a,a<n->π' a=π a
 tup:∀ p vs,H p=some (.tup vs)->H' p=some (.tup vs)
 frz:∀ p o u,H p=some (.frz o u)->H' p=some (.frz o u)
structure Ext0 (π:Nat->Addr)(n:Nat)(H:Hp)(π':Nat->Addr)(n':Nat)(H':Hp):Prop where
 le:n<=n'
 pi:∀ a,a<n->π' a=π a
 tup:∀ p vs,H p=some (.tup vs)->H' p=some (.tup vs)
 frz:∀ p o u,(∀ φ,u≠HO.ext φ)->H p=some (.frz o u)->H' p=some (.frz o u)
section
variable {K:SV}{π π' π2:Nat->Addr}{n n' n2:Nat}{H H' H2:Hp}
theorem Ext.weak (e:Ext π n H π' n' H'):Ext0 π n H π' n' H':=⟨e.le,e.pi,e.tup,fun p o u _ h=>e.frz p o u h⟩
theorem Ext.refl:Ext π n H π n H:=⟨Th _,fun _ _=>rfl,fun _ _ h=>h,fun _ _ _ h=>h⟩
theorem Ext.trans (a:Ext π n H π' n' H')(b:Ext π' n' H' π2 n2 H2):Ext π n H π2 n2 H2:=
 ⟨Uk a.le b.le,fun i h=>(b.pi i (TF h a.le)).trans (a.pi i h),fun p c h=>b.tup p c (a.tup p c h),fun p o u h=>b.frz p o u (a.frz p o u h)⟩
theorem Ext0.sqT (e:Ext0 π n H π' n' H'){p:Addr}{vs:List V}(h:SqT K H p vs):SqT K H' p vs:=by
 rcases h with h|h
 ·rcases h with h|⟨o,h⟩
  ·exact .inl (.inl (e.tup _ _ h))
  ·exact .inl (.inr ⟨o,e.frz _ _ _ (fun _ z=>nomatch z) h⟩)
 ·exact .inr h
theorem Ext.sqT (e:Ext π n H π' n' H'){p:Addr}{vs:List V}(h:SqT K H p vs):SqT K H' p vs:=e.weak.sqT h
theorem Ext0.roL (e:Ext0 π n H π' n' H'){p:Addr}{vs:List V}(h:RoL K H p vs):RoL K H' p vs:=by
 rcases h with ⟨o,h⟩|h
 ·exact .inl ⟨o,e.frz _ _ _ (fun _ z=>nomatch z) h⟩
 ·exact .inr h
theorem Ext.roL (e:Ext π n H π' n' H'){p:Addr}{vs:List V}(h:RoL K H p vs):RoL K H' p vs:=e.weak.roL h
mutual
theorem IsD.mono0 {v:V}{d:D}(e:Ext0 π n H π' n' H'):IsD K π n H v d->IsD K π' n' H' v d
 | .non=>.non
 | .bl b=>.bl b
 | .int i=>.int i
 | .str x=>.str x
 | .ty x=>.ty x
 | .tup h t=>.tup (e.sqT h) (IsDs.mono0 e t)
 | .rol h t=>.rol (e.roL h) (IsDs.mono0 e t)
 | .loc h=>by
  rw [<- e.pi _ h]
  exact .loc (TF h e.le)
theorem IsDs.mono0 {vs:List V}{ds:List D}(e:Ext0 π n H π' n' H'):IsDs K π n H vs ds->IsDs K π' n' H' vs ds
 | .nil=>.nil
 | .cons h t=>.cons (IsD.mono0 e h) (IsDs.mono0 e t)
end
theorem IsD.mono {v:V}{d:D}(e:Ext π n H π' n' H')(h:IsD K π n H v d):IsD K π' n' H' v d:=h.mono0 e.weak
theorem IsDs.mono {vs:List V}{ds:List D}(e:Ext π n H π' n' H')(h:IsDs K π n H vs ds):IsDs K π' n' H' vs ds:=h.mono0 e.weak
theorem IsDs.length {vs:List V}{ds:List D}(h:IsDs K π n H vs ds):vs.length=ds.length:=by
 induction ds generalizing vs with
 | nil=>cases h;rfl
 | cons d ds a=>
  cases h with
  | cons h t=>rw [Tw,Tw,a t]
theorem IsDs.get {vs:List V}{ds:List D}(h:IsDs K π n H vs ds){i:Nat}{d:D}(e:ds[i]? = some d):∃ v,vs[i]? = some v/\IsD K π n H v d:=by
 induction ds generalizing vs i with
 | nil=>simp at e
 | cons j ds c=>
  cases h with
  | cons h t=>
   cases i with
   | zero=>
    simp at e
    subst e
    exact ⟨_,rfl,h⟩
   | succ i=>
    obtain ⟨v,a,b⟩:=c t (by simpa using e)
    exact ⟨v,by simpa using a,b⟩
theorem IsDs.append {vs ws:List V}{ds es:List D}(h:IsDs K π n H vs ds)(a:IsDs K π n H ws es):IsDs K π n H (vs++ws) (ds++es):=by
 induction ds generalizing vs with
 | nil=>cases h;exact a
 | cons d ds b=>
  cases h with
  | cons h t=>exact .cons h (b t)
theorem IsDs.drop {vs:List V}{ds:List D}(h:IsDs K π n H vs ds)(k:Nat):IsDs K π n H (vs.drop k) (ds.drop k):=by
 induction ds generalizing vs k with
 | nil=>cases h;simpa using IsDs.nil
 | cons d ds a=>
  cases h with
  | cons h t=>
   cases k with
   | zero=>exact .cons h t
   | succ k=>exact a t k
theorem IsDs.take {vs:List V}{ds:List D}(h:IsDs K π n H vs ds)(k:Nat):IsDs K π n H (vs.take k) (ds.take k):=by
 induction ds generalizing vs k with
 | nil=>cases h;simpa using IsDs.nil
 | cons d ds a=>
  cases h with
  | cons h t=>
   cases k with
   | zero=>exact .nil
   | succ k=>exact .cons h (a t k)
theorem IsDs.atI {vs:List V}{ds:List D}(h:IsDs K π n H vs ds){i:Int}{d:D}(e:L2.atI ds i=some d):∃ v,L2.atI vs i=some v/\IsD K π n H v d:=by
 unfold L2.atI at e ⊢
 rw [h.length]
 cases q:lP ds.length i with
 | none=>rw [q] at e;cases e
 | some j=>
  rw [q] at e
  exact h.get e
end
noncomputable def sJ (p:Addr)(L:List Tb.El):HO:=.ext fun h=>∃ o,h.get? p=some o/\Tb.SObj L o
noncomputable def BE (p:List Int×Addr×V)(w:Value):U5:=⟨Tb.hashT p.1,.ref p.2.1,w⟩
noncomputable def bL (a:Addr)(ps:List (List Int×Addr×V)):HO:=.ext fun h=>∃ ws:List Value,Vals (ps.map (·.2.2)) ws/\(a == Vl)=false/\ps.length<=Td /\
 ∃ o b c,h.get? a=some o/\o.ExactDict/\o.data=.dict b c/\b.toList=Z2 BE ps ws/\(ps.map (·.1)).Nodup
noncomputable def ExcIs (K:SV)(π:Nat->Addr)(n:Nat)(H:Hp)(b:Obj)(x:Str)(ns:List Str)(ds:List D):Prop:=
 Vm K Ux x=some (some b.cls)/\(∃ a,b.data=.fields a) /\
  (ns=[]/\ds=[]/\b.dict=none\/∃ c d a,b.dict=some c/\H c=some (.frz d (.xd a))/\a.map (·.1)=ns/\IsDs K π n H (a.map (·.2)) ds)
theorem ExcIs.mono0 {K:SV}{π a:Nat->Addr}{n c:Nat}{H H':Hp}{d:Obj}{x:Str}{ns:List Str}{ds:List D}(e:Ext0 π n H a c H')(h:ExcIs K π n H d x ns ds):ExcIs K a c H' d x ns ds:=by
 obtain ⟨p,q,b⟩:=h
 refine ⟨p,q,?_⟩
 rcases b with b|⟨i,r,s,j,l,m,o⟩
 ·exact .inl b
 ·exact .inr ⟨i,r,s,j,e.frz _ _ _ (fun _ z=>nomatch z) l,m,o.mono0 e⟩
theorem ExcIs.mono {K:SV}{π a:Nat->Addr}{n b:Nat}{H H':Hp}{c:Obj}{x:Str}{ns:List Str}{ds:List D}(e:Ext π n H a b H')(h:ExcIs K π n H c x ns ds):ExcIs K a b H' c x ns ds:=h.mono0 e.weak
structure Rp (K:SV)(π:Nat->Addr)(H:Hp)(μ:Hm):Prop where
 inj:∀ a b,a<μ.length->b<μ.length->π a=π b->a=b
 has:∀ a,a<μ.length->(H (π a)).isSome=true
 lst:∀ a xs,μ[a]? = some (.lst xs)->∃ vs,H (π a)=some (.lst vs)/\IsDs K π μ.length H vs xs
 dK:∀ a kvs,μ[a]? = some (.dK kvs)->∃ vs,H (π a)=some (.dK vs)/\vs.map (·.1)=kvs.map (·.1)/\IsDs K π μ.length H (vs.map (·.2)) (kvs.map (·.2))
 st:∀ a ks,μ[a]? = some (.st ks)->∃ L:List Tb.El,H (π a)=some (sJ (π a) L)/\L.map (·.1)=ks/\IsDs K π μ.length H (L.map fun p=>V.ref p.2) (ks.map fun k=>D.tup (k.map D.int))
 dT:∀ a kvs,μ[a]? = some (.dT kvs)->∃ ps:List (List Int×Addr×V),H (π a)=some (bL (π a) ps)/\ps.map (·.1)=kvs.map (·.1)/\IsDs K π μ.length H (ps.map fun p=>V.ref p.2.1) (kvs.map fun k=>D.tup (k.1.map D.int))/\IsDs K π μ.length H (ps.map (·.2.2)) (kvs.map (·.2))
 exc:∀ a x ns ds,μ[a]? = some (.exc x ns ds)->∃ (ob:Obj)(φ:Uw->Prop),H (π a)=some (.frz ob (.ext φ))/\ExcIs K π μ.length H ob x ns ds
structure En (K:SV)(π:Nat->Addr)(n:Nat)(H:Hp)(σ:St)(ρ:aG):Prop where
 len:σ.length=ρ.length
 get:∀ (i:Nat)(d:D),ρ[i]? = some (some d)->∃ v,σ[i]? = some (some v)/\IsD K π n H v d
section
variable {K:SV}{π π' π2:Nat->Addr}{n n' n2:Nat}{H H' H2:Hp}{μ μ':Hm}{σ:St}{ρ:aG}
theorem En.mono (E:En K π n H σ ρ)(e:Ext π n H π' n' H'):En K π' n' H' σ ρ:=
 ⟨E.len,fun i d h=>let ⟨v,a,b⟩:=E.get i d h;⟨v,a,b.mono e⟩⟩
theorem En.set (E:En K π n H σ ρ){v:V}{d:D}(h:IsD K π n H v d)(i:Nat):En K π n H (σ.set i (some v)) (ρ.set i (some d)):=by
 refine ⟨by rw [VG,VG];exact E.len,fun j c e=>?_⟩
 rw [a1v] at e ⊢
 by_cases a:i=j
 ·subst a
  rw [if_pos rfl] at e ⊢
  rw [E.len]
  by_cases b:i<ρ.length
  ·rw [if_pos b] at e ⊢
   cases e
   exact ⟨v,rfl,h⟩
  ·rw [if_neg b] at e
   cases e
 ·rw [if_neg a] at e ⊢
  exact E.get j c e
theorem Rp.ne {p:Addr}(R:Rp K π H μ)(h:H p=none){a:Nat}(b:a<μ.length):π a≠p:=fun e=>by
 have:=R.has a b
 rw [e,h] at this
 cases this
theorem Rp.fresh {p:Addr}{o:HO}(R:Rp K π H μ)(h:H p=none):Ext π μ.length H π μ.length (aQ H p o)/\Rp K π (aQ H p o) μ:=by
 have c:∀ b u,H b=some u->aQ H p o b=some u:=fun b u e=>by
  rw [bH (lJ e h)]
  exact e
 have e:Ext π μ.length H π μ.length (aQ H p o):=⟨Th _,fun _ _=>rfl,fun q l e=>c q _ e,fun q o u e=>c q _ e⟩
 refine ⟨e,R.inj,fun a d=>?_,fun a z d=>?_,fun a m d=>?_,fun a v d=>?_
  ,fun a m d=>?_
  ,fun a x w ds d=>?_
  ⟩
 ·rw [bH (R.ne h d)]
  exact R.has a d
 ·obtain ⟨l,i,j⟩:=R.lst a z d
  exact ⟨l,c _ _ i,j.mono e⟩
 ·obtain ⟨l,i,j,r⟩:=R.dK a m d
  exact ⟨l,c _ _ i,j,r.mono e⟩
 ·obtain ⟨l,i,j,r⟩:=R.st a v d
  exact ⟨l,c _ _ i,j,r.mono e⟩
 ·obtain ⟨l,i,j,r,s⟩:=R.dT a m d
  exact ⟨l,c _ _ i,j,r.mono e,s.mono e⟩
 ·obtain ⟨y,A,i,j⟩:=R.exc a x w ds d
  exact ⟨y,A,c _ _ i,j.mono e⟩
noncomputable def sL (K:SV)(π:Nat->Addr)(n:Nat)(H:Hp)(p:Addr):C->HO->Prop
 | .lst xs,.lst vs=>IsDs K π n H vs xs
 | .dK kvs,.dK vs=>vs.map (·.1)=kvs.map (·.1)/\IsDs K π n H (vs.map (·.2)) (kvs.map (·.2))
 | .st ks,o=>∃ L:List Tb.El,o=sJ p L/\L.map (·.1)=ks/\IsDs K π n H (L.map fun p=>V.ref p.2) (ks.map fun k=>D.tup (k.map D.int))
 | .dT kvs,o=>∃ a:List (List Int×Addr×V),o=bL p a/\a.map (·.1)=kvs.map (·.1)/\IsDs K π n H (a.map fun p=>V.ref p.2.1) (kvs.map fun k=>D.tup (k.1.map D.int))/\IsDs K π n H (a.map (·.2.2)) (kvs.map (·.2))
 | .exc x ns ds,o=>∃ (b:Obj)(c:Uw->Prop),o=.frz b (.ext c)/\ExcIs K π n H b x ns ds
 | _,_=>False
noncomputable def gO (π:Nat->Addr)(n:Nat)(p:Addr):Nat->Addr:=fun a=>if a=n then p else π a
theorem Rp.alloc {p:Addr}{c:C}{o:HO}(R:Rp K π H μ)(h:H p=none)(hc:sL K π μ.length H p c o) :
  Ext π μ.length H (gO π μ.length p) (μ++[c]).length (aQ H p o)/\Rp K (gO π μ.length p) (aQ H p o) (μ++[c])/\gO π μ.length p μ.length=p:=by
 have M:(μ++[c]).length=μ.length+1:=by simp
 have i:∀ b u,H b=some u->aQ H p o b=some u:=fun b u e=>by
  rw [bH (lJ e h)]
  exact e
 have z:gO π μ.length p μ.length=p:=if_pos rfl
 have v:∀ a,a<μ.length->gO π μ.length p a=π a:=fun a d=>if_neg (TL d)
 have e:Ext π μ.length H (gO π μ.length p) (μ++[c]).length (aQ H p o):=⟨by rw [M];exact Nat.le_succ _,v,fun q s e=>i q _ e,fun q o u e=>i q _ e⟩
 have split:∀ a,a<(μ++[c]).length->a<μ.length\/a=μ.length:=fun a d=>by rw [M] at d;omega
 have get:∀ a,a<μ.length->(μ++[c])[a]? = μ[a]?:=fun a d=>Ti d
 have l:(μ++[c])[μ.length]? = some c:=by simp
 refine ⟨e,⟨fun a b d B q=>?_,fun a d=>?_,fun a Q d=>?_,fun a A d=>?_,fun a N d=>?_
  ,fun a A d=>?_
  ,fun a x O ds d=>?_
  ⟩,z⟩
 ·rcases split a d with d|rfl<;>rcases split b B with B|rfl
  ·rw [v a d,v b B] at q
   exact R.inj a b d B q
  ·rw [v a d,z] at q
   exact absurd q (R.ne h d)
  ·rw [z,v b B] at q
   exact absurd q.symm (R.ne h B)
  ·rfl
 ·rcases split a d with d|rfl
  ·rw [v a d,bH (R.ne h d)]
   exact R.has a d
  ·rw [z,cQ]
   rfl
 ·have j:a<(μ++[c]).length:=(S2.mp d).1
  rcases split a j with r|rfl
  ·rw [get a r] at d
   obtain ⟨s,w,m⟩:=R.lst a Q d
   rw [v a r]
   exact ⟨s,i _ _ w,m.mono e⟩
  ·rw [l] at d
   cases d
   cases o with
   | lst s=>
    rw [z]
    exact ⟨s,cQ,IsDs.mono e hc⟩
   | _=>exact Um hc
 ·have j:a<(μ++[c]).length:=(S2.mp d).1
  rcases split a j with r|rfl
  ·rw [get a r] at d
   obtain ⟨s,w,m,y⟩:=R.dK a A d
   rw [v a r]
   exact ⟨s,i _ _ w,m,y.mono e⟩
  ·rw [l] at d
   cases d
   cases o with
   | dK s=>
    rw [z]
    exact ⟨s,cQ,hc.1,IsDs.mono e hc.2⟩
   | _=>exact Um hc
 ·have j:a<(μ++[c]).length:=(S2.mp d).1
  rcases split a j with r|rfl
  ·rw [get a r] at d
   obtain ⟨s,w,m,y⟩:=R.st a N d
   rw [v a r]
   exact ⟨s,i _ _ w,m,y.mono e⟩
  ·rw [l] at d
   cases d
   obtain ⟨L,rfl,m,y⟩:=hc
   rw [z]
   exact ⟨L,cQ,m,y.mono e⟩
 ·have j:a<(μ++[c]).length:=(S2.mp d).1
  rcases split a j with r|rfl
  ·rw [get a r] at d
   obtain ⟨s,w,m,y,E⟩:=R.dT a A d
   rw [v a r]
   exact ⟨s,i _ _ w,m,y.mono e,E.mono e⟩
  ·rw [l] at d
   cases d
   obtain ⟨L,rfl,m,y,E⟩:=hc
   rw [z]
   exact ⟨L,cQ,m,y.mono e,E.mono e⟩
 ·have j:a<(μ++[c]).length:=(S2.mp d).1
  rcases split a j with r|rfl
  ·rw [get a r] at d
   obtain ⟨G,I,w,m⟩:=R.exc a x O ds d
   rw [v a r]
   exact ⟨G,I,i _ _ w,m.mono e⟩
  ·rw [l] at d
   cases d
   obtain ⟨G,I,rfl,m⟩:=hc
   rw [z]
   exact ⟨G,I,cQ,m.mono e⟩
theorem Rp.put0 {a:Nat}{c:C}{o u:HO}(R:Rp K π H μ)(N:a<μ.length)(G:H (π a)=some u)(I:(∃ vs,u=.lst vs)\/(∃ vs,u=.dK vs)\/(∃ y,u=.ext y)\/∃ v y,u=.frz v (.ext y))(hc:sL K π μ.length H (π a) c o) :
  Ext0 π μ.length H π (μ.set a c).length (aQ H (π a) o)/\Rp K π (aQ H (π a) o) (μ.set a c):=by
 have m:(μ.set a c).length=μ.length:=VG ..
 have e:Ext0 π μ.length H π (μ.set a c).length (aQ H (π a) o):=by
  refine ⟨a0l m.symm,fun _ _=>rfl,fun q vs z=>?_,fun q U X nx z=>?_⟩
  ·rw [bH]
   ·exact z
   ·intro e
    subst e
    rw [G] at z
    rcases I with ⟨w,rfl⟩|⟨w,rfl⟩|⟨w,rfl⟩|⟨v,w,rfl⟩<;>cases z
  ·rw [bH]
   ·exact z
   ·intro e
    subst e
    rw [G] at z
    rcases I with ⟨w,rfl⟩|⟨w,rfl⟩|⟨w,rfl⟩|⟨v,w,rfl⟩<;>cases z
    exact nx _ rfl
 have j:∀ b,b<μ.length->b≠a->aQ H (π a) o (π b)=H (π b):=fun b d E=>bH fun q=>E (R.inj b a d N q)
 refine ⟨e,⟨fun b M d B=>R.inj b M (m ▸ d) (m ▸ B),fun b d=>?_,fun b T d=>?_,fun b s d=>?_,fun b O d=>?_
  ,fun b s d=>?_
  ,fun b x Q ds d=>?_
  ⟩⟩
 ·by_cases h:b=a
  ·subst h
   rw [cQ]
   rfl
  ·rw [j b (m ▸ d) h]
   exact R.has b (m ▸ d)
 ·have i:b<μ.length:=m ▸ (S2.mp d).1
  by_cases h:b=a
  ·subst h
   rw [Ue i] at d
   cases d
   cases o with
   | lst vs=>exact ⟨vs,cQ,IsDs.mono0 e hc⟩
   | _=>exact Um hc
  ·rw [TY (UH h)] at d
   obtain ⟨vs,p,l⟩:=R.lst b T d
   exact ⟨vs,by rw [j b i h];exact p,l.mono0 e⟩
 ·have i:b<μ.length:=m ▸ (S2.mp d).1
  by_cases h:b=a
  ·subst h
   rw [Ue i] at d
   cases d
   cases o with
   | dK vs=>exact ⟨vs,cQ,hc.1,IsDs.mono0 e hc.2⟩
   | _=>exact Um hc
  ·rw [TY (UH h)] at d
   obtain ⟨vs,p,l,r⟩:=R.dK b s d
   exact ⟨vs,by rw [j b i h];exact p,l,r.mono0 e⟩
 ·have i:b<μ.length:=m ▸ (S2.mp d).1
  by_cases h:b=a
  ·subst h
   rw [Ue i] at d
   cases d
   obtain ⟨L,rfl,l,r⟩:=hc
   exact ⟨L,cQ,l,r.mono0 e⟩
  ·rw [TY (UH h)] at d
   obtain ⟨vs,p,l,r⟩:=R.st b O d
   exact ⟨vs,by rw [j b i h];exact p,l,r.mono0 e⟩
 ·have i:b<μ.length:=m ▸ (S2.mp d).1
  by_cases h:b=a
  ·subst h
   rw [Ue i] at d
   cases d
   obtain ⟨L,rfl,l,r,A⟩:=hc
   exact ⟨L,cQ,l,r.mono0 e,A.mono0 e⟩
  ·rw [TY (UH h)] at d
   obtain ⟨vs,p,l,r,A⟩:=R.dT b s d
   exact ⟨vs,by rw [j b i h];exact p,l,r.mono0 e,A.mono0 e⟩
 ·have i:b<μ.length:=m ▸ (S2.mp d).1
  by_cases h:b=a
  ·subst h
   rw [Ue i] at d
   cases d
   obtain ⟨v,y,rfl,l⟩:=hc
   exact ⟨v,y,cQ,l.mono0 e⟩
  ·rw [TY (UH h)] at d
   obtain ⟨v,y,p,l⟩:=R.exc b x Q ds d
   exact ⟨v,y,by rw [j b i h];exact p,l.mono0 e⟩
theorem Rp.put {a:Nat}{c:C}{o u:HO}(R:Rp K π H μ)(i:a<μ.length)(b:H (π a)=some u)(d:(∃ vs,u=.lst vs)\/(∃ vs,u=.dK vs)\/∃ l,u=.ext l)(hc:sL K π μ.length H (π a) c o) :
  Ext π μ.length H π (μ.set a c).length (aQ H (π a) o)/\Rp K π (aQ H (π a) o) (μ.set a c):=by
 have j:(μ.set a c).length=μ.length:=VG ..
 have e:Ext π μ.length H π (μ.set a c).length (aQ H (π a) o):=by
  refine ⟨a0l j.symm,fun _ _=>rfl,fun q vs z=>?_,fun q m p z=>?_⟩
  ·rw [bH]
   ·exact z
   ·intro e
    subst e
    rw [b] at z
    rcases d with ⟨w,rfl⟩|⟨w,rfl⟩|⟨w,rfl⟩<;>cases z
  ·rw [bH]
   ·exact z
   ·intro e
    subst e
    rw [b] at z
    rcases d with ⟨w,rfl⟩|⟨w,rfl⟩|⟨w,rfl⟩<;>cases z
 exact ⟨e,(R.put0 i b (d.imp_right fun h=>h.imp_right .inl) hc).2⟩
end
noncomputable def KC (K:SV)(Q:VK)(π:Nat->Addr)(n:Nat)(H:Hp)(d:D)(a:Hm):Prop:=
 ∀ b v c,Ext π n H b a.length c->Rp K b c a->IsD K b a.length c v d->Q v c
theorem KC.after {K:SV}{Q:VK}{π b:Nat->Addr}{n j:Nat}{H h:Hp}{d:D}{a:Hm}(k:KC K Q π n H d a)(e:Ext π n H b j h):KC K Q b j h d a:=
 fun c v l m R i=>k c v l (e.trans m) R i
noncomputable def tM (K:SV)(m:ME):TE:=fun σ H Q=>∃ π c b d a,Rp K π H b/\En K π b.length H σ c/\m c b=some (d,a)/\KC K Q π b.length H d a
noncomputable def cV (K:SV)(m:MT):TT:=fun σ H Q=>∃ π e d b a,Rp K π H d/\En K π d.length H σ e/\m e d=some (b,a)/\∀ c H',Ext π d.length H c a.length H'->Rp K c H' a->Q b H'
noncomputable def eC (K:SV)(m:MA):TA:=fun σ H Q=>∃ π d c ds a,Rp K π H c/\En K π c.length H σ d/\m d c=some (ds,a)/\∀ b vs H',Ext π c.length H b a.length H'->Rp K b H' a->IsDs K b a.length H' vs ds->Q vs H'
noncomputable def nF (K:SV)(E:Ends)(π:Nat->Addr)(n:Nat)(H:Hp)(i:Fl)(h:aG)(b:Hm):Prop:=
 match i with
 | .nx=>∀ a c e,Ext π n H a b.length e->Rp K a e b->En K a b.length e c h->E.nx c e
 | .bk=>∀ a c e,Ext π n H a b.length e->Rp K a e b->En K a b.length e c h->E.bk c e
 | .ct=>∀ a c e,Ext π n H a b.length e->Rp K a e b->En K a b.length e c h->E.ct c e
 | .rt d=>KC K E.rt π n H d b
noncomputable def cZ (K:SV)(m:MS):TS:=fun E σ H=>∃ π e c d b a,Rp K π H c/\En K π c.length H σ e/\m e c=some (d,b,a)/\nF K E π c.length H d b a
noncomputable def e8 (K:SV)(k:Nat)(f:MF):Sp:=fun vs H Q _=>vs.length=k/\∃ π ds b d a,Rp K π H b/\IsDs K π b.length H vs ds/\f ds b=some (d,a)/\KC K Q π b.length H d a
section
variable {X:Cx}{e a b c:Expr}{t:TE}{m ma mb mc:ME}{pos:Va}
theorem cL (h:PE X e t)(hw:∀ σ H Q,tM X.K m σ H Q->t σ H Q):PE X e (tM X.K m):=fun a3A s σ H Q I q=>h a3A s σ H Q I (hw σ H Q q)
theorem pU {t:TT}{m:MT}(h:PT X e t)(hw:∀ σ H Q,cV X.K m σ H Q->t σ H Q):PT X e (cV X.K m):=fun a3A s σ H Q I q=>h a3A s σ H Q I (hw σ H Q q)
theorem BF {t:TT}{m:MT}(h:PW X e t)(hw:∀ σ H Q,cV X.K m σ H Q->t σ H Q):PW X e (cV X.K m):=fun d a3A s σ H Q I q=>h d a3A s σ H Q I (hw σ H Q q)
theorem BG {es:List Expr}{t:TA}{m:MA}(h:PA X es t)(hw:∀ σ H Q,eC X.K m σ H Q->t σ H Q):PA X es (eC X.K m):=fun p a3A s σ H Q I q=>h p a3A s σ H Q I (hw σ H Q q)
theorem jO {st:Stmt}{t:TS}{m:MS}(h:PS X st t)(hw:∀ E σ H,cZ X.K m E σ H->t E σ H):PS X st (cZ X.K m):=fun a3A s σ H E I q=>h a3A s σ H E I (hw E σ H q)
theorem BH {st:List Stmt}{t:TS}{m:MS}(h:PSs X st t)(hw:∀ E σ H,cZ X.K m E σ H->t E σ H):PSs X st (cZ X.K m):=fun a3A s σ H E I q=>h a3A s σ H E I (hw E σ H q)
noncomputable def aA (i:Nat):ME:=fun j h=>match j[i]? with|some (some d)=>some (d,h)|_=>none
noncomputable def mC (d:D):ME:=fun _ h=>some (d,h)
theorem Jn {i:Nat}{n:aG}{l j:Hm}{d:D}(h:aA i n l=some (d,j)):n[i]? = some (some d)/\j=l:=by
 unfold aA at h
 split at h
 ·rename_i o e
  cases h
  exact ⟨e,rfl⟩
 ·cases h
theorem Jo {x:Str}(i:Nat)(h:PE X (.Name x pos) (AF i)):PE X (.Name x pos) (tM X.K (aA i)):=cL h (by
 rintro u H Q ⟨q,s,r,d,p,R,E,o,k⟩
 obtain ⟨j,rfl⟩:=Jn o
 obtain ⟨v,l,n⟩:=E.get i d j
 exact ⟨v,l,k q v H .refl R n⟩)
theorem nG {v:V}{d:D}(h:PE X e (tC v))(hd:∀ π n H,IsD X.K π n H v d):PE X e (tM X.K (mC d)):=cL h (by
 rintro q H Q ⟨π,p,o,l,j,R,E,i,k⟩
 cases i
 exact k π v H .refl R (hd _ _ _))
theorem Jp {i:Int}{j:Nat}:PE X (.Constant (.int i) j pos) (tM X.K (mC (.int i))):=nG GD fun _ _ _=>.int i
theorem Jq {i:Bool}{j:Nat}:PE X (.Constant (.bool i) j pos) (tM X.K (mC (.bl i))):=nG GF fun _ _ _=>.bl i
theorem Jr {i:Str}{j:Nat}:PE X (.Constant (.str i) j pos) (tM X.K (mC (.str i))):=nG GH fun _ _ _=>.str i
theorem Js {j:Nat}:PE X (.Constant .none j pos) (tM X.K (mC .non)):=nG GG fun _ _ _=>.non
noncomputable def aB (f:D->D->Hm->Option (D×Hm))(a b:ME):ME:=fun d h=>(a d h).bind fun p=>(b d p.2).bind fun q=>f p.1 q.1 q.2
noncomputable def cR (K:SV)(f:D->D->Hm->Option (D×Hm))(r:R2):Prop:=
 ∀ j H h x y d i l n Q,Rp K j H h->IsD K j h.length H l x->IsD K j h.length H n y->f x y h=some (d,i)->KC K Q j h.length H d i->r l n H Q
theorem nH {f:D->D->Hm->Option (D×Hm)}{r:R2}{K:SV}(A:cR K f r):∀ σ H Q,tM K (aB f ma mb) σ H Q->pP r (tM K ma) (tM K mb) σ H Q:=by
 rintro σ H Q ⟨N,s,M,d,l,R,E,h,k⟩
 obtain ⟨⟨x,i⟩,w,h⟩:=SS.mp h
 obtain ⟨⟨y,j⟩,z,h⟩:=SS.mp h
 exact ⟨N,s,M,x,i,R,E,w,fun n I O p v B=>⟨n,s,i,y,j,v,E.mono p,z,fun o L u q R2 G=>A o u j x y d l I L Q R2 (B.mono q) G h (k.after (p.trans q))⟩⟩
theorem Jt {op:a0i}{r:R2}{f:D->D->Hm->Option (D×Hm)}(j:OpR X (WH op) r)(i:cR X.K f r)(d:PE X a (tM X.K ma))(h:PE X b (tM X.K mb)):PE X (.BinOp a op b pos) (tM X.K (aB f ma mb)):=
 cL (HB j d h) (nH i)
theorem eS {op:Xc}{r:R2}{f:D->D->Hm->Option (D×Hm)}(l:OpR X (UC op) r)(i:cR X.K f r)(d:PE X a (tM X.K ma))(h:PE X b (tM X.K mb))(j:Wj op b=false):PE X (.Compare a [op] [b] pos) (tM X.K (aB f ma mb)):=
 cL (HG l d h j) (nH i)
noncomputable def aO (m:ME):MT:=fun h d=>(m h d).bind fun p=>match p.1 with|.bl b=>some (b,p.2)|_=>none
theorem wG {K:SV}:∀ σ H Q,cV K (aO m) σ H Q->tM K m σ H fun x H'=>∃ k,x=.bl k/\Q k H':=by
 rintro σ H Q ⟨r,s,o,b,p,R,E,d,k⟩
 obtain ⟨⟨x,q⟩,l,d⟩:=SS.mp d
 cases x with
 | bl c=>
  cases d
  refine ⟨r,s,o,_,_,R,E,l,fun h v H' j i n=>?_⟩
  cases n
  exact ⟨_,rfl,k h H' j i⟩
 | _=>cases d
theorem eU {op:Xc}{r:R2}{f:D->D->Hm->Option (D×Hm)}(o:OpR X (UC op) r)(l:cR X.K f r)(i:PE X a (tM X.K ma))(j:PE X b (tM X.K mb))(n:Wj op b=false):PT X (.Compare a [op] [b] pos) (cV X.K (aO (aB f ma mb))):=
 pU (HH o i j n) fun d H Q h=>nH l d H _ (wG d H Q h)
theorem Ju (h:PE X e (tM X.K m))(i:∀ d,ZK e X.env d=(do let v <- d;a2q e.pos;holding [v] (truthy v)):=by intro _;rfl):PT X e (cV X.K (aO m)):=
 pU (GL h i) fun j H Q h=>wG j H Q h
end
end L3
namespace L3
open PySem L2
section
variable {X:Cx}{e a b c:Expr}{m ma mb mc:ME}{pos:Va}{mt mu:MT}{rest:List Expr}
noncomputable def dF (a b:MT):MT:=fun d h=>(a d h).bind fun p=>match p.1 with|true=>b d p.2|false=>some (false,p.2)
noncomputable def eD (a b:MT):MT:=fun d h=>(a d h).bind fun p=>match p.1 with|true=>some (true,p.2)|false=>b d p.2
noncomputable def dC (a:MT):MT:=fun h d=>(a h d).map fun p=>(!p.1,p.2)
theorem Jv (d:PT X a (cV X.K mt)):PW X (.BoolOp .And [a] pos) (cV X.K mt):=GQ d
theorem Jw (d:PT X a (cV X.K mt)):PW X (.BoolOp .Or [a] pos) (cV X.K mt):=GR d
theorem Jx (w:PT X a (cV X.K mt))(y:PW X (.BoolOp .And (b::rest) pos) (cV X.K mu)):PW X (.BoolOp .And (a::b::rest) pos) (cV X.K (dF mt mu)):=BF (GS w y) (by
 rintro B H Q ⟨A,q,z,d,n,R,E,j,k⟩
 obtain ⟨⟨x,h⟩,v,j⟩:=SS.mp j
 refine ⟨A,q,z,x,h,R,E,v,fun i r l p=>?_⟩
 cases x with
 | true=>
  refine lR ?_
  exact ⟨i,q,h,d,n,p,E.mono l,j,fun o s u R2=>k o s (l.trans u) R2⟩
 | false=>
  refine lQ ?_
  cases j
  exact k i r l p)
theorem Jy (w:PT X a (cV X.K mt))(y:PW X (.BoolOp .Or (b::rest) pos) (cV X.K mu)):PW X (.BoolOp .Or (a::b::rest) pos) (cV X.K (eD mt mu)):=BF (GU w y) (by
 rintro B H Q ⟨A,q,z,d,n,R,E,j,k⟩
 obtain ⟨⟨x,h⟩,v,j⟩:=SS.mp j
 refine ⟨A,q,z,x,h,R,E,v,fun i r l p=>?_⟩
 cases x with
 | true=>
  refine lR ?_
  cases j
  exact k i r l p
 | false=>
  refine lQ ?_
  exact ⟨i,q,h,d,n,p,E.mono l,j,fun o s u R2=>k o s (l.trans u) R2⟩)
theorem Jz (q:PT X a (cV X.K mt)):PT X (.UnaryOp .Not a pos) (cV X.K (dC mt)):=pU (GV q) (by
 rintro w H Q ⟨u,v,r,d,s,R,E,h,k⟩
 obtain ⟨⟨x,i⟩,p,h⟩:=SY.mp h
 cases h
 exact ⟨u,v,r,x,i,R,E,p,fun j l o n=>k j l o n⟩)
noncomputable def f9 (a b:ME):ME:=fun d h=>(a d h).bind fun p=>match p.1 with|.bl true=>b d p.2|.bl false=>some (.bl false,p.2)|_=>none
noncomputable def wH (a b:ME):ME:=fun d h=>(a d h).bind fun p=>match p.1 with|.bl true=>some (.bl true,p.2)|.bl false=>b d p.2|_=>none
noncomputable def jP (a:ME):ME:=fun h d=>(a h d).bind fun p=>match p.1 with|.bl b=>some (.bl (!b),p.2)|_=>none
theorem JA {op:BoolOp}(h:PE X a (tM X.K m)):PE X (.BoolOp op [a] pos) (tM X.K m):=GZ h
theorem JB (s:PE X a (tM X.K ma))(u:PE X (.BoolOp .And (b::rest) pos) (tM X.K mb)):PE X (.BoolOp .And (a::b::rest) pos) (tM X.K (f9 ma mb)):=cL (G0 s u) (by
 rintro A H Q ⟨y,p,w,d,n,R,E,h,k⟩
 obtain ⟨⟨x,i⟩,r,h⟩:=SS.mp h
 cases x with
 | bl c=>
  refine ⟨y,p,w,.bl c,i,R,E,r,fun j z q l o v=>?_⟩
  cases v
  refine ⟨c,rfl,?_⟩
  cases c with
  | true=>
   refine lR ?_
   exact ⟨j,p,i,d,n,o,E.mono l,h,k.after l⟩
  | false=>
   refine lQ ?_
   cases h
   exact k j _ q l o (.bl false)
 | _=>cases h)
theorem JC (s:PE X a (tM X.K ma))(u:PE X (.BoolOp .Or (b::rest) pos) (tM X.K mb)):PE X (.BoolOp .Or (a::b::rest) pos) (tM X.K (wH ma mb)):=cL (G1 s u) (by
 rintro A H Q ⟨y,p,w,d,n,R,E,h,k⟩
 obtain ⟨⟨x,i⟩,r,h⟩:=SS.mp h
 cases x with
 | bl c=>
  refine ⟨y,p,w,.bl c,i,R,E,r,fun j z q l o v=>?_⟩
  cases v
  refine ⟨c,rfl,?_⟩
  cases c with
  | true=>
   refine lR ?_
   cases h
   exact k j _ q l o (.bl true)
  | false=>
   refine lQ ?_
   exact ⟨j,p,i,d,n,o,E.mono l,h,k.after l⟩
 | _=>cases h)
theorem JD (p:PE X a (tM X.K ma)):PE X (.UnaryOp .Not a pos) (tM X.K (jP ma)):=cL (G2 p) (by
 rintro z H Q ⟨v,w,r,d,s,R,E,h,k⟩
 obtain ⟨⟨x,u⟩,o,h⟩:=SS.mp h
 cases x with
 | bl c=>
  cases h
  refine ⟨v,w,r,_,_,R,E,o,fun i y j n l q=>?_⟩
  cases q
  exact ⟨_,rfl,k i _ j n l (.bl _)⟩
 | _=>cases h)
noncomputable def iV (t:MT)(a b:ME):ME:=fun d h=>(t d h).bind fun p=>match p.1 with|true=>a d p.2|false=>b d p.2
theorem JE (hc:PT X c (cV X.K mt))(r:PE X a (tM X.K ma))(s:PE X b (tM X.K mb)):PE X (.IfExp c a b pos) (tM X.K (iV mt ma mb)):=cL (G4 hc r s) (by
 rintro y H Q ⟨v,o,u,d,i,R,E,n,k⟩
 obtain ⟨⟨x,h⟩,q,n⟩:=SS.mp n
 refine ⟨v,o,u,x,h,R,E,q,fun j w l p=>?_⟩
 cases x with
 | true=>
  refine lR ?_
  exact ⟨j,o,h,d,i,p,E.mono l,n,k.after l⟩
 | false=>
  refine lQ ?_
  exact ⟨j,o,h,d,i,p,E.mono l,n,k.after l⟩)
noncomputable def aD:MA:=fun _ d=>some ([],d)
noncomputable def aC (a:ME)(r:MA):MA:=fun d h=>(a d h).bind fun p=>(r d p.2).bind fun q=>some (p.1::q.1,q.2)
variable {es:List Expr}{ms:MA}
theorem JF:PA X [] (eC X.K aD):=BG AX (by
 rintro o H Q ⟨j,n,l,d,i,R,E,h,k⟩
 cases h
 exact k j [] H .refl R .nil)
theorem JG (w:PE X e (tM X.K m))(y:PA X es (eC X.K ms))(z:T5 (e::es) X.env=(false,eval e X.env)::T5 es X.env:=by rfl):PA X (e::es) (eC X.K (aC m ms)):=BG (AY w y z) (by
 rintro T H Q ⟨L,q,I,d,K,R,E,h,k⟩
 obtain ⟨⟨x,i⟩,u,h⟩:=SS.mp h
 obtain ⟨⟨G,j⟩,v,h⟩:=SS.mp h
 cases h
 exact ⟨L,q,I,x,i,R,E,u,fun l N M o s A=>⟨l,q,i,G,j,s,E.mono o,v,fun n O r p R2 B=>k n _ r (o.trans p) R2 (.cons (A.mono p) B)⟩⟩)
noncomputable def eE (ms:MA):ME:=fun h d=>(ms h d).bind fun p=>if p.1.length<=Td then some (.tup p.1,p.2) else none
noncomputable def dG (ms:MA):ME:=fun h d=>(ms h d).bind fun p=>if p.1.length<=Td then some (.loc p.2.length,p.2++[.lst p.1]) else none
theorem JI {x1:Nat}(h:PA X es (eC X.K ms)):PE X (.Tuple es x1 pos) (tM X.K (eE ms)):=cL (AZ h) (by
 rintro I H Q ⟨z,A,w,d,x,R,E,i,k⟩
 obtain ⟨⟨G,y⟩,r,i⟩:=SS.mp i
 split at i
 ·rename_i s
  cases i
  refine ⟨z,A,w,_,_,R,E,r,fun j v B q o n=>⟨by rw [n.length];exact s,fun p u=>?_⟩⟩
  obtain ⟨l,R2⟩:=o.fresh (o:=.tup v) u
  exact k j _ _ (q.trans l) R2 (.tup (.of cQ) (n.mono l))
 ·cases i)
theorem JJ (h:PA X es (eC X.K ms)):PE X (.List es pos) (tM X.K (dG ms)):=cL (HS h) (by
 rintro L H Q ⟨I,K,B,d,G,R,E,j,k⟩
 obtain ⟨⟨n,i⟩,x,j⟩:=SS.mp j
 split at j
 ·rename_i y
  cases j
  refine ⟨I,K,B,n,i,R,E,x,fun l o r v u s=>⟨by rw [s.length];exact y,fun p z=>?_⟩⟩
  obtain ⟨w,R2,q⟩:=u.alloc (c:=.lst n) (o:=.lst o) z s
  have A:IsD X.K (gO l i.length p) (i++[C.lst n]).length (aQ r p (.lst o)) (.ref p) (.loc i.length):=by
   have:=IsD.loc (K:=X.K) (π:=gO l i.length p) (n:=(i++[C.lst n]).length) (H:=aQ r p (.lst o)) (a:=i.length) (by simp)
   rw [q] at this
   exact this
  exact k _ _ _ (v.trans w) R2 A
 ·cases j)
noncomputable def aK (f:MF)(ms:MA):ME:=fun h d=>(ms h d).bind fun p=>f p.1 p.2
theorem BI {K:SV}{f:MF}{n:Nat}{E:XK}(x:∀ l j ds h,ms l j=some (ds,h)->ds.length=n):∀ σ H Q,tM K (aK f ms) σ H Q->sE (e8 K n f) [] E (eC K ms) σ H Q:=by
 rintro σ H Q ⟨z,l,j,d,h,R,E,o,k⟩
 obtain ⟨⟨p,i⟩,r,o⟩:=SS.mp o
 refine ⟨z,l,j,p,i,R,E,r,fun q y u w v s=>?_⟩
 show e8 K n f (y++[]) u Q _
 rw [UK]
 exact ⟨by rw [s.length];exact x l j p i r,q,p,i,d,h,v,s,o,k.after w⟩
theorem JK:∀ j i ds d,aD j i=some (ds,d)->ds.length=0:=by
 intro j i ds d h
 cases h
 rfl
theorem JL {n:Nat}(h:∀ j l ds d,ms j l=some (ds,d)->ds.length=n):∀ j l ds d,aC m ms j l=some (ds,d)->ds.length=n+1:=by
 intro j l ds d i
 obtain ⟨⟨x,o⟩,s,i⟩:=SS.mp i
 obtain ⟨⟨q,r⟩,p,i⟩:=SS.mp i
 cases i
 rw [Tw,h j o q _ p]
theorem JM {k:Nat}{f:Addr}{j:U1}{ps:List Str}{l:MF}{x:Str}{p:Va}{n:Nat}(F:FnOk X.prog X.w X.K X.mg X.base d7 k f j ps (e8 X.K n l))(y:Room k X.A)(s:Gl X x)(v:X.mg x=some (.ref f))
  (u:UR X.K (.ref f)=true)(q:Binds X.K j ps [])(o:PA X (e::es) (eC X.K ms))(w:∀ A z ds i,ms A z=some (ds,i)->ds.length=n)(d:(x == ("__debug__":Str))=false:=by decide)
  (r:T5 (e::es) X.env=(false,eval e X.env)::T5 es X.env:=by rfl)(h:(V0 pos (T5 es X.env)).any (·.1)=false:=by rfl) :
  PE X (.Call (.Name x p) (e::es) [] pos) (tM X.K (aK l ms)):=
 cL (HU F y s v u q .nil (E:=E0) Bu o d r h) (BI w)
noncomputable def gP (K:SV)(f:MF)(r:List V->Hp->VK->Prop):Prop:=
 ∀ j H i n d h l Q,Rp K j H i->IsDs K j i.length H l n->f n i=some (d,h)->KC K Q j i.length H d h->r l H Q
theorem BJ {K:SV}{f:MF}{r:List V->Hp->VK->Prop}(u:gP K f r):∀ σ H Q,tM K (aK f ms) σ H Q->vX r (eC K ms) σ H Q:=by
 rintro σ H Q ⟨y,z,x,d,j,R,E,i,k⟩
 obtain ⟨⟨n,h⟩,s,i⟩:=SS.mp i
 exact ⟨y,z,x,n,h,R,E,s,fun l w o q p v=>u l o h n d j w Q p v i (k.after q)⟩
theorem JN {f:MF}{r:List V->Hp->VK->Prop}{id:String}{x:Str}{p:Va}(hc:CallR X (.builtin id) r)(l:gP X.K f r)(n:Gl X x)(o:X.mg x=none)(s:U9 x=some (.builtin id))(i:PA X (e::es) (eC X.K ms))
  (q:x ≠ "__name__":=by decide) (d:(x == ("__debug__":Str))=false:=by decide)
  (j:T5 (e::es) X.env=(false,eval e X.env)::T5 es X.env:=by rfl)(h:(V0 pos (T5 es X.env)).any (·.1)=false:=by rfl):PE X (.Call (.Name x p) (e::es) [] pos) (tM X.K (aK f ms)):=
 cL (HW hc n o s i q d j h) (BJ l)
theorem JO {f:MF}{r:List V->Hp->VK->Prop}{T:String}{x:Str}{p:Va}(hc:CallR X (.type T) r)(l:gP X.K f r)(n:Gl X x)(o:X.mg x=none)(s:U9 x=some (.type T))(i:PA X (e::es) (eC X.K ms))
  (q:x ≠ "__name__":=by decide) (d:(x == ("__debug__":Str))=false:=by decide)
  (j:T5 (e::es) X.env=(false,eval e X.env)::T5 es X.env:=by rfl)(h:(V0 pos (T5 es X.env)).any (·.1)=false:=by rfl):PE X (.Call (.Name x p) (e::es) [] pos) (tM X.K (aK f ms)):=
 cL (HX hc n o s i q d j h) (BJ l)
noncomputable def bQ (d:Hm):D->Option (List D)
 | .tup xs=>some xs
 | .rol xs=>some xs
 | .loc a=>match d[a]? with|some (.lst xs)=>some xs|_=>none
 | _=>none
noncomputable def gC:D->D->Hm->Option (D×Hm)
 | .str z,.int i,μ=>if z.length<=Td then (atI z.cps.toList i).map fun c=>(.str ⟨#[c]⟩,μ) else none
 | x,.int i,μ=>(bQ μ x).bind fun h=>(atI h i).map fun d=>(d,μ)
 | _,_,_=>none
theorem JP {K:SV}:cR K gC (Bk K):=by
 intro q H T x y d I N O Q R s E j k
 cases E with
 | int i=>
  cases s with
  | str z=>
   simp only [gC] at j
   split at j
   ·rename_i A
    obtain ⟨c,l,n⟩:=SY.mp j
    cases n
    exact .inr (.inr ⟨z,i,c,rfl,rfl,A,l,k q _ H .refl R (.str _)⟩)
   ·cases j
  | tup h t=>
   simp only [gC,bQ,Uc] at j
   obtain ⟨r,l,n⟩:=SY.mp j
   cases n
   obtain ⟨v,o,p⟩:=t.atI l
   exact .inr (.inl ⟨_,_,i,v,rfl,rfl,h,o,k q _ H .refl R p⟩)
  | rol h t=>
   simp only [gC,bQ,Uc] at j
   obtain ⟨r,l,n⟩:=SY.mp j
   cases n
   obtain ⟨v,o,p⟩:=t.atI l
   exact .inl ⟨_,_,i,v,rfl,rfl,h.sq,o,k q _ H .refl R p⟩
  | @loc a L=>
   simp only [gC,bQ] at j
   split at j
   ·rename_i G B
    simp only [Uc] at j
    obtain ⟨r,l,n⟩:=SY.mp j
    cases n
    obtain ⟨M,u,w⟩:=R.lst a G B
    obtain ⟨v,o,p⟩:=w.atI l
    exact .inl ⟨_,_,i,v,rfl,rfl,.of u,o,k q _ H .refl R p⟩
   ·cases j
  | _=>simp [gC,bQ] at j
 | _=>cases s<;>simp [gC] at j
theorem JQ (d:PE X a (tM X.K ma))(h:PE X b (tM X.K mb))(i:wA b):PE X (.Subscript a b pos) (tM X.K (aB gC ma mb)):=cL (IH IJ d h i) (nH JP)
noncomputable def gD (xs:List D)(lo d:Option Int):List D:=(xs.drop (HT.sIx xs.length 0 lo)).take (HT.sIx xs.length xs.length d - HT.sIx xs.length 0 lo)
noncomputable abbrev MO:=aG->Hm->Option (Option Int×Hm)
noncomputable def dX:MO:=fun _ d=>some (none,d)
noncomputable def c9 (m:ME):MO:=fun h d=>(m h d).bind fun p=>match p.1 with|.int i=>some (some i,p.2)|_=>none
noncomputable def pV (K:SV)(m:MO):TO:=fun σ H Q=>∃ π j i o d,Rp K π H i/\En K π i.length H σ j/\m j i=some (o,d)/\∀ h H',Ext π i.length H h d.length H'->Rp K h H' d->Q o H'
theorem JR:PO X none (pV X.K dX):=fun a3A s σ H Q I q=>IB a3A s σ H Q I (by
 obtain ⟨i,l,j,o,h,R,E,d,k⟩:=q
 cases d
 exact k i H .refl R)
theorem JS (h:PE X e (tM X.K m)):PO X (some e) (pV X.K (c9 m)):=fun a3A s σ H Q I q=>IC h a3A s σ H Q I (by
 obtain ⟨z,A,v,o,w,R,E,d,k⟩:=q
 obtain ⟨⟨x,y⟩,r,d⟩:=SS.mp d
 cases x with
 | int i=>
  cases d
  refine ⟨z,A,v,_,_,R,E,r,fun j B l p n u=>?_⟩
  cases u
  exact ⟨_,rfl,k j l p n⟩
 | _=>cases d)
noncomputable def d8 (z:Str)(lo d:Option Int):Str:=⟨((z.cps.toList.drop (HT.sIx z.length 0 lo)).take (HT.sIx z.length z.length d - HT.sIx z.length 0 lo)).toArray⟩
theorem BK (lo l:Option Int)(n:Nat):Vd lo l 1 n=(Ur (HT.sIx n n l - HT.sIx n 0 lo)).map (HT.sIx n 0 lo+·):=by
 rw [<- a3o]
 have d:∀ i:Int,max 0 (min (if i<0 then i+(n:Int) else i) (n:Int))=(((if i<0 then (i+(n:Int)).toNat else min i.toNat n:Nat)):Int):=fun i=>by
  by_cases h:i<0
  ·simp only [h,if_true];omega
  ·simp only [h,if_false];omega
 unfold Vd HT.sIx
 simp only [show ((1:Int)>0)=True from by simp,if_true]
 cases lo with
 | none=>
  cases l with
  | none=>rfl
  | some j=>dsimp only;rw [d j];rfl
 | some i=>
  cases l with
  | none=>dsimp only;rw [d i]
  | some j=>dsimp only;rw [d i,d j]
theorem pQ {n d:Nat}(hd:d<=n)(v:Option Int):HT.sIx n d v<=n:=by
 unfold HT.sIx
 cases v with
 | none=>exact hd
 | some i=>simp only;split<;>omega
theorem JT (z:Str)(lo d:Option Int):(⟨((Vd lo d 1 z.length).filterMap (z.cps[·]?)).toArray⟩:Str)=d8 z lo d:=by
 unfold d8
 have i:z.cps.toList.length=z.length:=by simp [YH]
 have j:=pQ (UD z.length) lo
 have l:=pQ (Th z.length) d
 rw [BK]
 have h:=StrLaws.picks z.cps.toList (HT.sIx z.length z.length d - HT.sIx z.length 0 lo) (HT.sIx z.length 0 lo)
 by_cases c:HT.sIx z.length 0 lo<=HT.sIx z.length z.length d
 ·have h:=h (by rw [i];omega)
  have e:(fun x:Nat=>z.cps.toList[x]?)=(fun x:Nat=>z.cps[x]?):=by funext x;simp
  rw [e] at h
  rw [<- h]
 ·rw [show HT.sIx z.length z.length d - HT.sIx z.length 0 lo=0 by omega]
  simp
theorem JU {z:Str}{lo d:Option Int}(h:(Vd lo d 1 z.length).length=z.length):d8 z lo d=z:=by
 have i:z.cps.toList.length=z.length:=by simp [YH]
 have j:=pQ (UD z.length) lo
 have l:=pQ (Th z.length) d
 rw [BK,S3,YN] at h
 unfold d8
 have:(z.cps.toList.drop (HT.sIx z.length 0 lo)).take (HT.sIx z.length z.length d - HT.sIx z.length 0 lo)=z.cps.toList:=by
  by_cases c:z.length=0
  ·have:z.cps.toList=[]:=Vh.mp (by rw [i];exact c)
   rw [this];simp
  ·rw [show HT.sIx z.length 0 lo=0 by omega,VS,Vq (by rw [i];omega)]
 rw [this]
noncomputable def BL:V->Option Int->Option Int->Hp->VK->Prop:=fun x lo d H Q=>∃ z,x=.str z/\z.length<=Td/\Q (.str (d8 z lo d)) H
theorem BM {v:Value}{o:Option Int}(p:a3y v o):∃ l:Option (Int×a1g),v=partValue l/\l.map (·.1)=o:=by
 cases p with
 | none=>exact ⟨none,rfl,rfl⟩
 | int i t=>exact ⟨some (i,t),rfl,rfl⟩
theorem JV {X:Cx}:SlR X BL:=by
 intro n s U H x v R T d j O Q I M G K L h
 obtain ⟨z,rfl,N,q⟩:=h
 obtain ⟨t,rfl⟩:=M
 obtain ⟨l,rfl,p⟩:=BM K
 obtain ⟨u,rfl,r⟩:=BM L
 refine ⟨"str",_,F.slot_str_getitem.lookup,XQ s z t,?_⟩
 obtain ⟨o,w,y,A⟩:=G
 refine wpAny_getItem_str_slice (l:=l) (u:=u) (st:=none) ⟨o,w,y,A⟩ rfl ?_
 have E:slicePicked z l u none=Vd d j 1 z.length:=by
  unfold slicePicked;rw [p,r];rfl
 unfold sliceMade
 rw [E]
 split
 ·rename_i hc
  have i:(Vd d j 1 z.length).length=z.length:=by
   simp only [SW,beq_iff_eq] at hc
   exact hc.2
  rw [JU i] at q
  exact ⟨.str z,H,I,⟨t,rfl⟩,q⟩
 ·rw [JT]
  refine ⟨?_,.str _,H,I.tok _,⟨_,rfl⟩,q⟩
  have B:z.cps.toList.length=z.length:=by simp [YH]
  show ((z.cps.toList.drop (HT.sIx z.length 0 d)).take (HT.sIx z.length z.length j - HT.sIx z.length 0 d)).toArray.size<=Td
  rw [S5,TR,Uh,B]
  omega
noncomputable def BN (K:SV):V->Option Int->Option Int->Hp->VK->Prop:=fun x lo d H Q=>wB K x lo d H Q\/BL x lo d H Q
theorem JW {X:Cx}:SlR X (BN X.K):=sl_list.or JV
theorem BO {K:SV}{x:V}{lo d:Option Int}{H:Hp}{Q:VK}(h:wB K x lo d H Q):BN K x lo d H Q:=.inl h
noncomputable def cI (a:ME)(lo h:MO):ME:=fun d j=>(a d j).bind fun p=>(lo d p.2).bind fun q=>(h d q.2).bind fun r=>
 match p.1 with
 | .tup _=>none
 | .str z=>if z.length<=Td then some (.str (d8 z q.1 r.1),r.2) else none
 | x=>(bQ r.2 x).bind fun i=>some (.loc r.2.length,r.2++[.lst (gD i q.1 r.1)])
theorem BP {K:SV}{π:Nat->Addr}{n:Nat}{H:Hp}{vs:List V}{ds:List D}(h:IsDs K π n H vs ds)(lo d:Option Int):IsDs K π n H (kR vs lo d) (gD ds lo d):=by
 unfold kR gD
 rw [h.length]
 exact (h.drop _).take _
theorem nI {K:SV}{π:Nat->Addr}{d:Hm}{p:Addr}{c:C}{H:Hp}:IsD K (gO π d.length p) (d++[c]).length H (.ref p) (.loc d.length):=by
 have:=IsD.loc (K:=K) (π:=gO π d.length p) (n:=(d++[c]).length) (H:=H) (a:=d.length) (by simp)
 rw [show gO π d.length p d.length=p from if_pos rfl] at this
 exact this
theorem JX {lo M:Option Expr}{O N:MO}{p2:Va}(ha:PE X a (tM X.K ma))(hl:PO X lo (pV X.K O))(hu:PO X M (pV X.K N)):PE X (.Subscript a (.Slice lo M none p2) pos) (tM X.K (cI ma O N)):=cL (IE JW ha hl hu) (by
 rintro σ H Q ⟨π,L,μ,d,μ',R,E,j,k⟩
 obtain ⟨⟨x,r⟩,Y,j⟩:=SS.mp j
 obtain ⟨⟨l,s⟩,Z,j⟩:=SS.mp j
 obtain ⟨⟨u,G⟩,h3,j⟩:=SS.mp j
 refine ⟨π,L,μ,x,r,R,E,Y,fun I v1 H1 n U i1=>⟨I,L,r,l,s,U,E.mono n,Z,fun K H2 o R2=>⟨K,L,s,u,G,R2,(E.mono n).mono o,h3,fun π3 H3 w v=>?_⟩⟩⟩
 have i3:=(i1.mono o).mono w
 cases i3 with
 | rol h t=>
  simp only [bQ,Uc] at j
  cases j
  refine BO ⟨_,_,rfl,h.sq,fun p B=>?_⟩
  obtain ⟨A,y,q⟩:=v.alloc (c:=.lst (gD _ l u)) (o:=.lst (kR _ l u)) B (BP t l u)
  exact k _ _ _ (((n.trans o).trans w).trans A) y nI
 | @loc i hi'=>
  simp only [bQ] at j
  split at j
  ·rename_i T hx
   simp only [Uc] at j
   cases j
   obtain ⟨vs,h5,h6⟩:=v.lst i T hx
   refine BO ⟨_,_,rfl,.of h5,fun p B=>?_⟩
   obtain ⟨A,y,q⟩:=v.alloc (c:=.lst (gD T l u)) (o:=.lst (kR vs l u)) B (BP h6 l u)
   exact k _ _ _ (((n.trans o).trans w).trans A) y nI
  ·cases j
 | tup h t=>simp at j
 | str z=>
  simp only at j
  split at j
  ·rename_i hz
   cases j
   exact .inr ⟨z,rfl,hz,k _ _ _ ((n.trans o).trans w) v (.str _)⟩
  ·cases j
 | _=>simp [bQ] at j)
end
section
variable {X:Cx}{e a b c:Expr}{m:ME}{pos:Va}{mt:MT}{st:Stmt}{rest body orelse:List Stmt}{ms mr mu:MS}
noncomputable def a8:MS:=fun h d=>some (.nx,h,d)
noncomputable def aR (a b:MS):MS:=fun h d=>(a h d).bind fun p=>match p.1 with|.nx=>b p.2.1 p.2.2|_=>some p
noncomputable def aV (m:ME):MS:=fun d h=>(m d h).map fun p=>(.rt p.1,d,p.2)
noncomputable def gQ (m:ME):MS:=fun d h=>(m d h).map fun p=>(.nx,d,p.2)
noncomputable def a9 (t:MT)(a b:MS):MS:=fun d h=>(t d h).bind fun p=>match p.1 with|true=>a d p.2|false=>b d p.2
noncomputable def aW (i:Nat)(m:ME):MS:=fun d h=>(m d h).map fun p=>(.nx,d.set i (some p.1),p.2)
theorem JY:PSs X [] (cZ X.K a8):=BH G7 (by
 rintro E n H ⟨j,q,p,o,l,i,R,d,h,k⟩
 cases h
 exact k j n H .refl R d)
theorem JZ (h1:PS X st (cZ X.K ms))(B:PSs X rest (cZ X.K mr)):PSs X (st::rest) (cZ X.K (aR ms mr)):=BH (G8 h1 B) (by
 rintro E N H ⟨I,K,G,x,v,s,R,z,j,k⟩
 obtain ⟨⟨w,q,p⟩,h1,j⟩:=SS.mp j
 refine ⟨I,K,G,w,q,p,R,z,h1,?_⟩
 cases w with
 | nx=>
  intro u L M r A y
  refine ⟨u,q,p,x,v,s,A,y,j,?_⟩
  cases x with
  | nx=>exact fun h i n o R2 l=>k h i n (r.trans o) R2 l
  | bk=>exact fun h i n o R2 l=>k h i n (r.trans o) R2 l
  | ct=>exact fun h i n o R2 l=>k h i n (r.trans o) R2 l
  | rt d=>exact KC.after k r
 | rt d=>cases j;exact k
 | bk=>cases j;exact k
 | ct=>cases j;exact k)
theorem J0 (h1:PS X st (cZ X.K ms)):PSs X [st] (cZ X.K ms):=G9 h1
theorem J1:PS X (.Pass pos) (cZ X.K a8):=jO Ha (by
 rintro E n H ⟨j,q,p,o,l,i,R,d,h,k⟩
 cases h
 exact k j n H .refl R d)
theorem J2 (l:PE X e (tM X.K m)):PS X (.Return (some e) pos) (cZ X.K (aV m)):=jO (He l) (by
 rintro E u H ⟨p,q,n,s,r,o,R,i,d,k⟩
 obtain ⟨⟨x,h⟩,j,d⟩:=SY.mp d
 cases d
 exact ⟨p,q,n,x,h,R,i,j,k⟩)
theorem J3 (q:PE X e (tM X.K m))(r:XM e none pos.line X.env=pure false:=by rfl):PS X (.Expr e pos) (cZ X.K (gQ m)):=jO (Hc q r) (by
 rintro E z H ⟨v,w,s,A,y,u,R,j,d,k⟩
 obtain ⟨⟨x,h⟩,p,d⟩:=SY.mp d
 cases d
 exact ⟨v,w,s,x,h,R,j,p,fun i G n l o B=>k i z n l o (j.mono l)⟩)
theorem J4 (hc:PT X c (cV X.K mt))(I:PSs X body (cZ X.K ms))(K:PSs X orelse (cZ X.K mu)):PS X (.If c body orelse pos) (cZ X.K (a9 mt ms mu)):=jO (Hi hc I K) (by
 rintro E N H ⟨M,y,L,u,o,l,R,w,v,k⟩
 obtain ⟨⟨x,j⟩,G,v⟩:=SS.mp v
 refine ⟨M,y,L,x,j,R,w,G,fun n B p z=>?_⟩
 have A:nF X.K E n j.length B u o l:=by
  cases u with
  | nx=>exact fun h i r s R2 q=>k h i r (p.trans s) R2 q
  | bk=>exact fun h i r s R2 q=>k h i r (p.trans s) R2 q
  | ct=>exact fun h i r s R2 q=>k h i r (p.trans s) R2 q
  | rt d=>exact KC.after k p
 cases x with
 | true=>
  refine lR ?_
  exact ⟨n,y,j,u,o,l,z,w.mono p,v,A⟩
 | false=>
  refine lQ ?_
  exact ⟨n,y,j,u,o,l,z,w.mono p,v,A⟩)
theorem BQ {i:Nat}{x:Str}{d:Va}(s:X.N.Nodup)(w:X.N[i]? = some x)(z:Loc X.env.scope x)(u:PE X e (tM X.K m))(y:XM e (some (.Name x d)) pos.line X.env=pure false:=by rfl)
  (v:X.fn x=true\/X.env.scope.names.lookup x=some .local:=by first|exact .inl rfl|exact .inr rfl|assumption):PS X (.Assign [.Name x d] e pos) (cZ X.K (aW i m)):=jO (Hn s w z u y v) (by
 rintro E O H ⟨I,K,B,M,L,G,R,n,h,k⟩
 obtain ⟨⟨x,j⟩,r,h⟩:=SY.mp h
 cases h
 exact ⟨I,K,B,x,j,R,n,r,fun l N p o q A=>k l _ p o q ((n.mono o).set A i)⟩)
end
noncomputable def pW (n:Nat)(ds:List D):aG:=ds.map some++Vr (n - ds.length) none
noncomputable def pX (n:Nat)(m:MS):MF:=fun ds a=>(m (pW n ds) a).bind fun p=>match p.1 with|.rt d=>some (d,p.2.2)|.nx=>some (.non,p.2.2)|_=>none
theorem wI {K:SV}{π:Nat->Addr}{n:Nat}{H:Hp}{N:List Str}{vs:List V}{ds:List D}(h:IsDs K π n H vs ds)(p:vs.length<=N.length):En K π n H (L2.start N vs) (pW N.length ds):=by
 have a:=h.length
 refine ⟨by simp [L2.start,pW,a],fun i d e=>?_⟩
 unfold pW at e
 unfold L2.start
 by_cases b:i<ds.length
 ·rw [Ti (by simpa using b),Uo] at e
  obtain ⟨o,c,j⟩:=SY.mp e
  cases j
  obtain ⟨v,l,m⟩:=h.get c
  exact ⟨v,by rw [Ti (by rw [S3,a];exact b),Uo,l];rfl,m⟩
 ·rw [Tv (by simpa using W4.mp b)] at e
  have:=V8 (n:=N.length - ds.length) (a:=(none:Option D)) (i:=i - (ds.map some).length)
  rw [this] at e
  split at e<;>simp at e
section
variable {P:Tt}{w:TV}{K:SV}{mg:Str->Option Value}{base:Uw}
theorem J5 {x a:Str}{st:Stmt}{f:Addr}{p:U1}{N ps:List Str}{k:Nat}{m:MS}(F:Fun K x a st f p)(S:FnScope N ps (bF st))(j:ps.length<=N.length)
  (c:∀ (b:Value)(A:TJ)(outer:List XN)(s:SX)(H:Hp)(E:XK),Room k (A.deeper (WN a (bF st) s.heap.objs.size f b))->
   PSs (d4 d7 P w K mg base N a (bF st) f b A outer s H E).nox (cH st) (cZ K m)):FnOk P w K mg base d7 (k+1) f p ps (e8 K ps.length (pX N.length m)):=by
 refine F.ok S (fun I H Q E h=>h.1) fun b A outer s H I Q E B h=>⟨_,c b A outer s H E B,?_⟩
 obtain ⟨G,O,ds,L,d,M,R,i,e,r⟩:=h
 obtain ⟨⟨q,o,l⟩,z,e⟩:=SS.mp e
 refine ⟨O,_,L,q,o,l,R,wI i (by rw [G];exact j),z,?_⟩
 cases q with
 | rt X=>cases e;exact r
 | nx=>cases e;exact fun n T u y v U=>r n .non u y v .non
 | bk=>cases e
 | ct=>cases e
end
end L3
namespace L3
open PySem L2
open SeqAt (EqAt RcAt RcNeAt)
inductive KD where
 | non|bl (b:Bool)|int (i:Int)|str (x:Str)|tup (n:Nat)|lst (n:Nat)
inductive IsK (s:SX):Value->KD->Prop where
 | non:IsK s .none .non
 | bl (b:Bool):IsK s (.bool b) (.bl b)
 | int (i:Int)(t:a1g):IsK s (.int i t) (.int i)
 | str (x:Str)(t:a1g):IsK s (.str x t) (.str x)
 | tup {l:Addr}{its:List Value}(h:s.heap.IsTuple l its.toArray):IsK s (.ref l) (.tup its.length)
 | lst {l:Addr}{its:List Value}(h:s.heap.IsList l its.toArray):IsK s (.ref l) (.lst its.length)
noncomputable def nJ (e:Nat->Bool):KD->KD->Bool
 | .non,.non=>true
 | .bl a,.bl b=>a == b
 | .bl a,.int b=>(if a then 1 else 0) == b
 | .int a,.bl b=>a == (if b then 1 else 0)
 | .int a,.int b=>a == b
 | .str a,.str b=>a == b
 | .tup n,.tup k=>(Ur (min n k)).all e&&n == k
 | .lst n,.lst k=>(Ur (min n k)).all e&&n == k
 | _,_=>false
noncomputable def sM (A:TJ)(s:SX)(u v:Value)(e:Nat->Bool):Prop:=
 (∀ l b c a,u=.ref l->v=.ref b->s.heap.IsTuple l c->s.heap.IsTuple b a->∀ j (h1:j<c.size)(d:j<a.size),EqAt A.in1 s c[j] a[j] (e j)) /\
 (∀ l b c a,u=.ref l->v=.ref b->s.heap.IsList l c->s.heap.IsList b a->∀ j (h1:j<c.size)(d:j<a.size),EqAt A.in1 s c[j] a[j] (e j))
section
variable {A:TJ}{s:SX}{u v:Value}{k k':KD}{e:Nat->Bool}
theorem BR {n k:Nat}(e:Nat->Bool)(h:n=k):((Ur (min n k)).all e&&n == k)=(Ur n).all e:=by
 subst h
 simp
theorem BS {n k:Nat}(e:Nat->Bool)(h:n≠k):((Ur (min n k)).all e&&n == k)=false:=by
 simp [h]
theorem wJ (h:IsK s u k)(h':IsK s v k')(c:A.units<Vf)(o:sM A s u v e):RcAt A s u v (nJ e k k'):=by
 cases h with
 | non=>
  cases h' with
  | non=>exact RcAt.none_none
  | bl b=>exact RcAt.none_bool b
  | int i t=>exact RcAt.none_int i t
  | str x t=>exact RcAt.none_str x t
  | tup h=>exact RcAt.none_tuple h c
  | lst h=>exact RcAt.none_list h c
 | bl a=>
  cases h' with
  | non=>exact RcAt.bool_none a
  | bl b=>exact RcAt.bool_bool a b
  | int i t=>exact RcAt.bool_int a i t
  | str x t=>exact RcAt.bool_str a x t
  | tup h=>exact RcAt.bool_tuple a h c
  | lst h=>exact RcAt.bool_list a h c
 | int a j=>
  cases h' with
  | non=>exact RcAt.int_none a j
  | bl b=>exact RcAt.int_bool a j b
  | int i t=>exact RcAt.int_int a j i t
  | str x t=>exact RcAt.int_str a j x t
  | tup h=>exact RcAt.int_tuple a j h c
  | lst h=>exact RcAt.int_list a j h c
 | str a j=>
  cases h' with
  | non=>exact RcAt.str_none a j
  | bl b=>exact RcAt.str_bool a j b
  | int i t=>exact RcAt.str_int a j i t
  | str x t=>exact RcAt.str_str a j x t
  | tup h=>exact RcAt.str_tuple a j h c
  | lst h=>exact RcAt.str_list a j h c
 | tup g=>
  cases h' with
  | non=>exact RcAt.tuple_none g c
  | bl b=>exact RcAt.tuple_bool b g c
  | int i t=>exact RcAt.tuple_int i t g c
  | str x t=>exact RcAt.tuple_str x t g c
  | tup h=>
   have:=RcAt.tuples (e:=e) g h c (o.1 _ _ _ _ rfl rfl g h)
   simpa [nJ] using this
  | lst h=>exact RcAt.tuple_list g h c
 | lst g=>
  cases h' with
  | non=>exact RcAt.list_none g c
  | bl b=>exact RcAt.list_bool b g c
  | int i t=>exact RcAt.list_int i t g c
  | str x t=>exact RcAt.list_str x t g c
  | tup h=>exact RcAt.list_tuple g h c
  | @lst b d h=>
   rename_i l m
   by_cases n:m.length=d.length
   ·have:=RcAt.lists (e:=e) g h (by simpa using n) c (o.2 _ _ _ _ rfl rfl g h)
    show RcAt A s _ _ ((Ur (min m.length d.length)).all e&&m.length == d.length)
    rw [BR e n]
    simpa using this
   ·have:=RcAt.lists_lengths g h (by simpa using n) c
    show RcAt A s _ _ ((Ur (min m.length d.length)).all e&&m.length == d.length)
    rw [BS e n]
    exact this
theorem J6 (h:IsK s u k)(h':IsK s v k')(c:A.units<Vf)(o:sM A s u v e):RcNeAt A s u v (!nJ e k k'):=by
 cases h with
 | non=>
  cases h' with
  | non=>exact RcNeAt.none_none
  | bl b=>exact RcNeAt.none_bool b
  | int i t=>exact RcNeAt.none_int i t
  | str x t=>exact RcNeAt.none_str x t
  | tup h=>exact RcNeAt.none_tuple h c
  | lst h=>exact RcNeAt.none_list h c
 | bl a=>
  cases h' with
  | non=>exact RcNeAt.bool_none a
  | bl b=>exact RcNeAt.bool_bool a b
  | int i t=>exact RcNeAt.bool_int a i t
  | str x t=>exact RcNeAt.bool_str a x t
  | tup h=>exact RcNeAt.bool_tuple a h c
  | lst h=>exact RcNeAt.bool_list a h c
 | int a j=>
  cases h' with
  | non=>exact RcNeAt.int_none a j
  | bl b=>exact RcNeAt.int_bool a j b
  | int i t=>exact RcNeAt.int_int a j i t
  | str x t=>exact RcNeAt.int_str a j x t
  | tup h=>exact RcNeAt.int_tuple a j h c
  | lst h=>exact RcNeAt.int_list a j h c
 | str a j=>
  cases h' with
  | non=>exact RcNeAt.str_none a j
  | bl b=>exact RcNeAt.str_bool a j b
  | int i t=>exact RcNeAt.str_int a j i t
  | str x t=>exact RcNeAt.str_str a j x t
  | tup h=>exact RcNeAt.str_tuple a j h c
  | lst h=>exact RcNeAt.str_list a j h c
 | tup g=>
  cases h' with
  | non=>exact RcNeAt.tuple_none g c
  | bl b=>exact RcNeAt.tuple_bool b g c
  | int i t=>exact RcNeAt.tuple_int i t g c
  | str x t=>exact RcNeAt.tuple_str x t g c
  | tup h=>
   have:=RcNeAt.tuples (e:=e) g h c (o.1 _ _ _ _ rfl rfl g h)
   simpa [nJ] using this
  | lst h=>exact RcNeAt.tuple_list g h c
 | lst g=>
  cases h' with
  | non=>exact RcNeAt.list_none g c
  | bl b=>exact RcNeAt.list_bool b g c
  | int i t=>exact RcNeAt.list_int i t g c
  | str x t=>exact RcNeAt.list_str x t g c
  | tup h=>exact RcNeAt.list_tuple g h c
  | @lst b d h=>
   rename_i l m
   by_cases n:m.length=d.length
   ·have:=RcNeAt.lists (e:=e) g h (by simpa using n) c (o.2 _ _ _ _ rfl rfl g h)
    show RcNeAt A s _ _ (!((Ur (min m.length d.length)).all e&&m.length == d.length))
    rw [BR e n]
    simpa using this
   ·have:=RcNeAt.lists_lengths g h (by simpa using n) c
    show RcNeAt A s _ _ (!((Ur (min m.length d.length)).all e&&m.length == d.length))
    rw [BS e n]
    exact this
theorem J7 (h:IsK s u k)(h':IsK s v k')(c:A.units<Vf)(o:sM A s u v e)(n:∀ l b,u=.ref l->v=.ref b->l≠b):EqAt A s u v (nJ e k k'):=by
 cases h with
 | non=>
  cases h' with
  | non=>exact EqAt.same _
  | bl b=>exact EqAt.none_bool b
  | int i t=>exact EqAt.none_int i t
  | str x t=>exact EqAt.none_str x t
  | tup h=>exact EqAt.none_tuple h c
  | lst h=>exact EqAt.none_list h c
 | bl a=>
  cases h' with
  | non=>exact EqAt.bool_none a
  | bl b=>exact EqAt.bool_bool a b
  | int i t=>exact EqAt.bool_int a i t
  | str x t=>exact EqAt.bool_str a x t
  | tup h=>exact EqAt.bool_tuple a h c
  | lst h=>exact EqAt.bool_list a h c
 | int a d=>
  cases h' with
  | non=>exact EqAt.int_none a d
  | bl b=>exact EqAt.int_bool a d b
  | int i t=>exact EqAt.int_int a d i t
  | str x t=>exact EqAt.int_str a d x t
  | tup h=>exact EqAt.int_tuple a d h c
  | lst h=>exact EqAt.int_list a d h c
 | str a d=>
  cases h' with
  | non=>exact EqAt.str_none a d
  | bl b=>exact EqAt.str_bool a d b
  | int i t=>exact EqAt.str_int a d i t
  | str x t=>exact EqAt.str_str a d x t
  | tup h=>exact EqAt.str_tuple a d h c
  | lst h=>exact EqAt.str_list a d h c
 | @tup l m g=>
  cases h' with
  | non=>exact EqAt.tuple_none g c
  | bl b=>exact EqAt.tuple_bool b g c
  | int i t=>exact EqAt.tuple_int i t g c
  | str x t=>exact EqAt.tuple_str x t g c
  | @tup b j h=>exact EqAt.of_refs (n l b rfl rfl) (wJ (k:=.tup m.length) (k':=.tup j.length) (.tup g) (.tup h) c o)
  | lst h=>exact EqAt.tuple_list g h c
 | @lst l m g=>
  cases h' with
  | non=>exact EqAt.list_none g c
  | bl b=>exact EqAt.list_bool b g c
  | int i t=>exact EqAt.list_int i t g c
  | str x t=>exact EqAt.list_str x t g c
  | tup h=>exact EqAt.list_tuple g h c
  | @lst b j h=>exact EqAt.of_refs (n l b rfl rfl) (wJ (k:=.lst m.length) (k':=.lst j.length) (.lst g) (.lst h) c o)
end
inductive KdD where
 | non|bl (b:Bool)|int (i:Int)|str (x:Str)|tup (xs:List D)|lst (xs:List D)
noncomputable def fM (c:Hm):D->Option KdD
 | .non=>some .non
 | .bl b=>some (.bl b)
 | .int i=>some (.int i)
 | .str x=>some (.str x)
 | .tup xs=>some (.tup xs)
 | .rol xs=>some (.lst xs)
 | .loc a=>match c[a]? with|some (.lst xs)=>some (.lst xs)|_=>none
 | .ty _=>none
noncomputable def fN (f:D->D->Option Bool):List D->List D->Option Bool
 | x::xs,y::ys=>(f x y).bind fun b=>(fN f xs ys).map fun c=>b&&c
 | [],[]=>some true
 | _,_=>some false
noncomputable def iW (f:D->D->Option Bool):KdD->KdD->Option Bool
 | .non,.non=>some true
 | .bl a,.bl b=>some (a == b)
 | .bl a,.int b=>some ((if a then 1 else 0) == b)
 | .int a,.bl b=>some (a == (if b then 1 else 0))
 | .int a,.int b=>some (a == b)
 | .str a,.str b=>some (a == b)
 | .tup xs,.tup ys=>fN f xs ys
 | .lst xs,.lst ys=>fN f xs ys
 | _,_=>some false
noncomputable def cB:Nat->Hm->D->D->Option Bool
 | 0,_,_,_=>none
 | n+1,μ,x,y=>(fM μ x).bind fun a=>(fM μ y).bind fun b=>iW (cB n μ) a b
noncomputable def wK:KdD->KD
 | .non=>.non|.bl b=>.bl b|.int i=>.int i|.str x=>.str x|.tup xs=>.tup xs.length|.lst xs=>.lst xs.length
noncomputable def nK:KdD->List D
 | .tup xs=>xs|.lst xs=>xs|_=>[]
section
variable {X:Cx}{a3A:List (Addr×Obj)}{σ:St}{H:Hp}{s:SX}{π:Nat->Addr}{μ:Hm}
inductive KdAt (X:Cx)(π:Nat->Addr)(n:Nat)(H:Hp)(s:SX)(u:Value):KdD->Prop where
 | non (h:u=.none):KdAt X π n H s u .non
 | bl (b:Bool)(h:u=.bool b):KdAt X π n H s u (.bl b)
 | int (i:Int)(t:a1g)(h:u=.int i t):KdAt X π n H s u (.int i)
 | str (x:Str)(t:a1g)(h:u=.str x t):KdAt X π n H s u (.str x)
 | tup {xs:List D}(p:Addr)(vs:List V)(its:List Value)(h:u=.ref p)(q:SqT X.K H p vs)(i:IsDs X.K π n H vs xs)(r:Vals vs its)(t:s.heap.IsTuple p its.toArray):KdAt X π n H s u (.tup xs)
 | lst {xs:List D}(p:Addr)(vs:List V)(its:List Value)(h:u=.ref p)(q:SqL X.K H p vs)(i:IsDs X.K π n H vs xs)(r:Vals vs its)(t:s.heap.IsList p its.toArray):KdAt X π n H s u (.lst xs)
theorem nM (I:Inv X a3A σ H s)(R:Rp X.K π H μ){v:V}{d:D}{u:Value}(h:IsD X.K π μ.length H v d)(r:RelV v u){k:KdD}(e:fM μ d=some k):KdAt X π μ.length H s u k:=by
 cases h with
 | non=>cases e;exact .non r
 | bl b=>cases e;exact .bl b r
 | int i=>cases e;obtain ⟨t,q⟩:=r;exact .int i t q
 | str x=>cases e;obtain ⟨t,q⟩:=r;exact .str x t q
 | ty x=>cases e
 | tup q t=>
  cases e
  obtain ⟨c,j,p,_⟩:=I.tuple q
  exact .tup _ _ c r q t j p
 | rol q t=>
  cases e
  obtain ⟨c,j,p,_⟩:=I.list q.sq
  exact .lst _ _ c r q.sq t j p.isList
 | @loc a y=>
  simp only [fM] at e
  split at e
  ·rename_i w n
   cases e
   obtain ⟨o,l,m⟩:=R.lst a w n
   have q:SqL X.K H (π a) o:=.of l
   obtain ⟨c,j,p,_⟩:=I.list q
   exact .lst _ _ c r q m j p.isList
  ·cases e
theorem KdAt.isK {u:Value}{k:KdD}{n:Nat}(h:KdAt X π n H s u k):IsK s u (wK k):=by
 cases h with
 | non h=>subst h;exact .non
 | bl b h=>subst h;exact .bl b
 | int i t h=>subst h;exact .int i t
 | str x t h=>subst h;exact .str x t
 | tup p c a h q i r t=>
  subst h
  have:a.length=_:=r.length.symm.trans i.length
  show IsK s (.ref p) (.tup _)
  rw [<- this]
  exact .tup t
 | lst p c a h q i r t=>
  subst h
  have:a.length=_:=r.length.symm.trans i.length
  show IsK s (.ref p) (.lst _)
  rw [<- this]
  exact .lst t
noncomputable def gR (f:D->D->Option Bool)(xs a:List D)(j:Nat):Bool:=match xs[j]?,a[j]? with
 | some x,some y=>(f x y).getD false
 | _,_=>false
theorem wL {f:D->D->Option Bool}:∀ {xs a:List D}{b:Bool},fN f xs a=some b->b=((Ur (min xs.length a.length)).all (gR f xs a)&&xs.length == a.length)/\∀ (j:Nat) x y,xs[j]? = some x->a[j]? = some y->f x y=some (gR f xs a j)
 | [],[],b,h=>by
  cases h
  exact ⟨rfl,fun j x y e=>by simp at e⟩
 | x::xs,[],b,h=>by
  cases h
  exact ⟨by simp,fun j x y _ e=>by simp at e⟩
 | [],y::a,b,h=>by
  cases h
  exact ⟨by simp,fun j x y e=>by simp at e⟩
 | x::xs,y::a,b,h=>by
  simp only [fN] at h
  obtain ⟨c,n,p⟩:=SS.mp h
  obtain ⟨d,q,r⟩:=SY.mp p
  obtain ⟨u,v⟩:=wL q
  have m:gR f (x::xs) (y::a) 0=c:=by simp [gR,n]
  have o:∀ j,gR f (x::xs) (y::a) (j+1)=gR f xs a j:=fun j=>by simp [gR]
  refine ⟨?_,fun j w z i l=>?_⟩
  ·subst r
   rw [u]
   simp only [Tw,Nat.add_min_add_right]
   rw [List.range_succ_eq_map,Ul,List.all_map,m]
   have:(gR f (x::xs) (y::a) ∘ Nat.succ)=gR f xs a:=funext fun j=>o j
   rw [this]
   simp [Bool.and_assoc]
  ·cases j with
   | zero=>
    simp at i l
    subst i;subst l
    rw [m,n]
   | succ j=>
    rw [o j]
    exact v j w z (by simpa using i) (by simpa using l)
theorem BU {f:D->D->Option Bool}{k k':KdD}{b:Bool}(h:iW f k k'=some b):b=nJ (gR f (nK k) (nK k')) (wK k) (wK k'):=by
 cases k<;>cases k'<;>simp only [iW] at h<;>first
  | (have a:=T3 h;subst a;rfl)
  | (obtain ⟨c,_⟩:=wL h;rw [c];rfl)
theorem J8 (I:Inv X a3A σ H s)(R:Rp X.K π H μ):∀ (n:Nat){v:V}{u:Value}{x y:D}{b:Bool},RelV v u->IsD X.K π μ.length H v x->IsD X.K π μ.length H v y->cB n μ x y=some b->b=true:=by
 intro n
 induction n with
 | zero=>intro v u x y b _ _ _ h;cases h
 | succ n ih=>
  intro v u x y b r hx hy h
  obtain ⟨k,Y,h⟩:=SS.mp h
  obtain ⟨k',h2,h⟩:=SS.mp h
  have a1:=nM I R hx r Y
  have A:=nM I R hy r h2
  have l:∀ {vs:List V}{xs U:List D}{c:Bool},(∀ v∈vs,∃ u,RelV v u)->IsDs X.K π μ.length H vs xs->IsDs X.K π μ.length H vs U->fN (cB n μ) xs U=some c->c=true:=by
   intro vs
   induction vs with
   | nil=>intro xs U c _ i1 o h;cases i1;cases o;cases h;rfl
   | cons w vs ihv=>
    intro xs U c hr i1 o h
    cases i1 with
    | cons p1 t1=>
     cases o with
     | cons M E=>
      simp only [fN] at h
      obtain ⟨c1,Y,h3⟩:=SS.mp h
      obtain ⟨c2,h4,h5⟩:=SY.mp h3
      obtain ⟨T,O⟩:=hr w (TC ..)
      have a:=ih O p1 M Y
      have m:=ihv (fun v K=>hr v (Tu _ K)) t1 E h4
      subst a;subst m
      exact h5.symm
  cases a1 with
  | non a=>
   subst a
   cases A with
   | non _=>simp only [iW] at h;exact (T3 h).symm
   | bl _ e=>cases e
   | int _ _ e=>cases e
   | str _ _ e=>cases e
   | tup _ _ _ e=>cases e
   | lst _ _ _ e=>cases e
  | bl c a=>
   subst a
   cases A with
   | non e=>cases e
   | bl _ e=>cases e;simp only [iW,beq_self_eq_true] at h;exact (T3 h).symm
   | int _ _ e=>cases e
   | str _ _ e=>cases e
   | tup _ _ _ e=>cases e
   | lst _ _ _ e=>cases e
  | int c t a=>
   subst a
   cases A with
   | non e=>cases e
   | bl _ e=>cases e
   | int _ _ e=>cases e;simp only [iW,beq_self_eq_true] at h;exact (T3 h).symm
   | str _ _ e=>cases e
   | tup _ _ _ e=>cases e
   | lst _ _ _ e=>cases e
  | str c t a=>
   subst a
   cases A with
   | non e=>cases e
   | bl _ e=>cases e
   | int _ _ e=>cases e
   | str _ _ e=>cases e;simp only [iW,beq_self_eq_true] at h;exact (T3 h).symm
   | tup _ _ _ e=>cases e
   | lst _ _ _ e=>cases e
  | tup p vs L a q i Q t=>
   have z:KdAt X π μ.length H s (.ref p) _:=a ▸ KdAt.tup p vs L a q i Q t
   rw [a] at A
   cases A with
   | non e=>cases e
   | bl _ e=>cases e
   | int _ _ e=>cases e
   | str _ _ e=>cases e
   | tup M G d m N o B E=>
    cases m
    have:=I.tuple_inj q N
    subst this
    exact l (fun v K=>by
     obtain ⟨j,Z,rfl⟩:=U7 K
     obtain ⟨T,_,O⟩:=Q.get (S1 Z)
     exact ⟨T,O⟩) i o h
   | lst M G d m N o B E=>
    cases m
    exact absurd rfl (Vn E t)
  | lst p vs L a q i Q t=>
   rw [a] at A
   cases A with
   | non e=>cases e
   | bl _ e=>cases e
   | int _ _ e=>cases e
   | str _ _ e=>cases e
   | tup M G d m N o B E=>
    cases m
    exact absurd rfl (Vn t E)
   | lst M G d m N o B E=>
    cases m
    have:=I.list_inj q N
    subst this
    exact l (fun v K=>by
     obtain ⟨j,Z,rfl⟩:=U7 K
     obtain ⟨T,_,O⟩:=Q.get (S1 Z)
     exact ⟨T,O⟩) i o h
theorem nN (A:TJ):A.in1.units=A.units+1:=rfl
theorem BV (I:Inv X a3A σ H s){A:TJ}{n:Nat}(ih:∀ {A:TJ}{v v':V}{u u':Value}{x y:D}{b:Bool},A.units+n<Vf->RelV v u->RelV v' u'->IsD X.K π μ.length H v x->IsD X.K π μ.length H v' y->cB n μ x y=some b->EqAt A s u u' b)
  (hu:A.units+(n+1)<Vf){u u':Value}{k k':KdD}{b:Bool}(a1:KdAt X π μ.length H s u k)(a2:KdAt X π μ.length H s u' k')(h:iW (cB n μ) k k'=some b):sM A s u u' (gR (cB n μ) (nK k) (nK k')):=by
 have K:∀ {vs R:List V}{z its':List Value}{xs Y:List D}{c:Bool},Vals vs z->Vals R its'->IsDs X.K π μ.length H vs xs->IsDs X.K π μ.length H R Y->fN (cB n μ) xs Y=some c->
   ∀ j (h1:j<z.length)(U:j<its'.length),EqAt A.in1 s z[j] its'[j] (gR (cB n μ) xs Y j):=by
  intro vs R z its' xs Y c r r' i i' e j h1 U
  have l1:=r.length
  have l2:=r'.length
  have l3:=i.length
  have l4:=i'.length
  have hx:xs[j]? = some (xs[j]'(by omega)):=S1 _
  have hy:Y[j]? = some (Y[j]'(by omega)):=S1 _
  obtain ⟨v,v1,v2⟩:=i.get hx
  obtain ⟨v',v1',v2'⟩:=i'.get hy
  obtain ⟨w,w1,w2⟩:=r.get v1
  obtain ⟨w',w1',w2'⟩:=r'.get v1'
  rw [S1 h1] at w1
  rw [S1 U] at w1'
  cases w1
  cases w1'
  exact ih (by rw [nN];omega) w2 w2' v2 v2' ((wL e).2 j _ _ hx hy)
 constructor
 ·intro l b' G B e1 e2 t1 t2 j h1 U
  subst e1;subst e2
  cases a1 with
  | tup p vs z e q i r t=>
   cases e
   cases a2 with
   | tup p2 T E a q2 Z r2 Q=>
    cases a
    have z1:G=z.toArray:=by
     obtain ⟨o,L,g2,n1,N⟩:=t1
     obtain ⟨o',d,M,O,m⟩:=t
     rw [L] at d;cases d
     rw [N] at m
     injection m
    have z2:B=E.toArray:=by
     obtain ⟨o,L,g2,n1,N⟩:=t2
     obtain ⟨o',d,M,O,m⟩:=Q
     rw [L] at d;cases d
     rw [N] at m
     injection m
    subst z1;subst z2
    have:=K r r2 i Z h j (by simpa using h1) (by simpa using U)
    simpa [nK] using this
   | lst p2 T E a q2 Z r2 Q=>
    cases a
    exact absurd rfl (Vn Q t2)
   | non a=>cases a
   | bl _ a=>cases a
   | int _ _ a=>cases a
   | str _ _ a=>cases a
  | lst p vs z e q i r t=>
   cases e
   exact absurd rfl (Vn t t1)
  | non e=>cases e
  | bl _ e=>cases e
  | int _ _ e=>cases e
  | str _ _ e=>cases e
 ·intro l b' G B e1 e2 t1 t2 j h1 U
  subst e1;subst e2
  cases a1 with
  | lst p vs z e q i r t=>
   cases e
   cases a2 with
   | lst p2 T E a q2 Z r2 Q=>
    cases a
    have z1:G=z.toArray:=by
     obtain ⟨o,L,g2,n1,N⟩:=t1
     obtain ⟨o',d,M,O,m⟩:=t
     rw [L] at d;cases d
     rw [N] at m
     injection m
    have z2:B=E.toArray:=by
     obtain ⟨o,L,g2,n1,N⟩:=t2
     obtain ⟨o',d,M,O,m⟩:=Q
     rw [L] at d;cases d
     rw [N] at m
     injection m
    subst z1;subst z2
    have:=K r r2 i Z h j (by simpa using h1) (by simpa using U)
    simpa [nK] using this
   | tup p2 T E a q2 Z r2 Q=>
    cases a
    exact absurd rfl (Vn t2 Q)
   | non a=>cases a
   | bl _ a=>cases a
   | int _ _ a=>cases a
   | str _ _ a=>cases a
  | tup p vs z e q i r t=>
   cases e
   exact absurd rfl (Vn t1 t)
  | non e=>cases e
  | bl _ e=>cases e
  | int _ _ e=>cases e
  | str _ _ e=>cases e
theorem BW (I:Inv X a3A σ H s)(R:Rp X.K π H μ):∀ (n:Nat){A:TJ}{v c:V}{u a:Value}{x y:D}{b:Bool},A.units+n<Vf->RelV v u->RelV c a->IsD X.K π μ.length H v x->IsD X.K π μ.length H c y->cB n μ x y=some b->EqAt A s u a b:=by
 intro n
 induction n with
 | zero=>intro A v c u a x y b _ _ _ _ _ h;cases h
 | succ n L=>
  intro A v c u a x y b K r o j m h
  have w:=h
  obtain ⟨k,B,h⟩:=SS.mp h
  obtain ⟨N,E,h⟩:=SS.mp h
  have d:=nM I R j r B
  have e:=nM I R m o E
  by_cases i:u=a
  ·subst i
   have:v=c:=r.inj o
   subst this
   have:=J8 I R (n+1) r j m w
   subst this
   exact EqAt.same _
  ·have G:=BV I L K d e h
   rw [BU h]
   exact J7 d.isK e.isK (by omega) G fun l M p q z=>i (by rw [p,q,z])
theorem BX (I:Inv X a3A σ H s)(R:Rp X.K π H μ)(n:Nat){A:TJ}{v i:V}{u d:Value}{x y:D}{b:Bool}(m:A.units+n<Vf)(r:RelV v u)(q:RelV i d)(o:IsD X.K π μ.length H v x)(p:IsD X.K π μ.length H i y)(h:cB n μ x y=some b) :
  RcAt A s u d b/\RcNeAt A s u d (!b):=by
 cases n with
 | zero=>cases h
 | succ n=>
  obtain ⟨k,j,h⟩:=SS.mp h
  obtain ⟨w,l,h⟩:=SS.mp h
  have a:=nM I R o r j
  have c:=nM I R p q l
  have e:=BV I (A:=A) (BW I R n) m a c h
  rw [BU h]
  exact ⟨wJ a.isK c.isK (by omega) e,J6 a.isK c.isK (by omega) e⟩
end
end L3
namespace L3
open PySem L2
open SeqAt (EqAt RcAt RcNeAt)
section
variable {K:SV}
noncomputable def kS (g:Int->Int->Option Int):D->D->Hm->Option (D×Hm)
 | .int i,.int j,μ=>(g i j).map fun z=>(.int z,μ)
 | _,_,_=>none
theorem BY {g:Int->Int->Option Int}{x y d:D}{b a:Hm}(h:kS g x y b=some (d,a)):∃ i j z,x=.int i/\y=.int j/\g i j=some z/\d=.int z/\a=b:=by
 unfold kS at h
 split at h
 ·rename_i i j
  obtain ⟨z,c,e⟩:=SY.mp h
  cases e
  exact ⟨i,j,z,rfl,rfl,c,rfl,rfl⟩
 ·cases h
theorem wM {a:Int->Int->Prop}{g:Int->Int->Option Int}{g':Int->Int->Int}(e:∀ i j z,g i j=some z->a i j/\z=g' i j):cR K (kS g) (rI a fun i j=>.int (g' i j)):=by
 intro o H r x y d n p q Q R l m h k
 obtain ⟨i,j,z,rfl,rfl,b,rfl,rfl⟩:=BY h
 cases l
 cases m
 obtain ⟨c,rfl⟩:=e i j z b
 exact ⟨i,j,rfl,rfl,c,k o _ H .refl R (.int _)⟩
theorem J9 {g':Int->Int->Int}:cR K (kS fun i j=>some (g' i j)) (f7 fun i j=>.int (g' i j)):=by
 intro l H o x y d h m n Q R c e b k
 obtain ⟨i,j,z,rfl,rfl,a,rfl,rfl⟩:=BY b
 cases c
 cases e
 cases a
 exact ⟨i,j,rfl,rfl,k l _ H .refl R (.int _)⟩
noncomputable def lU:=kS fun i j=>some (i - j)
noncomputable def BZ:=kS fun i j=>if ((-(2 ^ 64)<i/\i<2 ^ 64)\/(-(2 ^ 64)<j/\j<2 ^ 64))\/(i.natAbs<2 ^ 4000/\j.natAbs<2 ^ 4000)\/Ug i+Ug j<=134217728 then some (i * j) else none
noncomputable def cM:D->D->Hm->Option (D×Hm)
 | x,y,μ=>BZ x y μ
noncomputable def cJ:=kS fun i j=>if 0<j/\j<2 ^ 4000 then some (i / j) else none
noncomputable def bI:=kS fun i j=>if 0<j then some (i % j) else none
noncomputable def CMulB (i j:Int):Prop:=CMul i j\/(i.natAbs<2 ^ 4000/\j.natAbs<2 ^ 4000)\/Ug i+Ug j<=134217728
noncomputable def B0 (i j:Int):Prop:=0<j/\j<2 ^ 4000
theorem B1 {i:Int}(h:i.natAbs<2 ^ 4000):Ug i<=4000:=by
 unfold Ug
 split
 ·exact UD _
 ·rename_i b
  have a:i.natAbs≠0:=by
   intro z
   exact b (by simpa using z)
  have:=(a3d a).mpr h
  omega
theorem CMulB.ok {i j:Int}(h:CMulB i j):a1T i j:=by
 rcases h with h|⟨b,c⟩|h
 ·exact h.ok
 rotate_left
 ·have a:WB (Ug i+Ug j)=false:=by
   unfold WB
   rw [decide_eq_false]
   have:bitsLine=134217728:=by decide
   omega
  unfold a1T
  rw [a]
  simp
 ·have d:=B1 b
  have e:=B1 c
  have a:WB (Ug i+Ug j)=false:=by
   unfold WB
   rw [decide_eq_false]
   have:(8000:Int)<=bitsLine:=by decide
   omega
  unfold a1T
  rw [a]
  simp
section
variable {X:Cx}
theorem Ka:OpR X (WH .Mult) (rI CMulB fun i j=>.int (i * j)):=vL fun _ _ _ _ _ _ _ hc q=>a2T q hc.ok
theorem Kb:OpR X (WH .FloorDiv) (rI B0 fun i j=>.int (i / j)):=vL fun i j _ _ _ _ _ hc q=>by
 have c:(0:Int)<j:=hc.1
 have d:j<2 ^ 4000:=hc.2
 have a:j.natAbs≠0:=by omega
 have b:j.natAbs<2 ^ 4000:=by
  have:((2 ^ 4000:Nat):Int)=2 ^ 4000:=by decide
  omega
 have e:=(a3d a).mpr b
 exact a2W (by omega) (by rw [Int.fdiv_eq_ediv_of_nonneg i (by omega)];exact q) (.inl (PyProof.noPylong_of_log2 (by omega)))
end
theorem wN {c:Prop} [Decidable c] {a z:Int}(h:(if c then some a else none)=some z):c/\z=a:=by
 split at h
 ·cases h;exact ⟨by assumption,rfl⟩
 ·cases h
theorem Kc:cR K lU (f7 fun i j=>.int (i - j)):=J9
theorem Kd:cR K BZ (rI CMulB fun i j=>.int (i * j)):=wM fun i j z h=>by
 have:=wN h
 exact this
theorem Ke:cR K cM (rI CMulB fun i j=>.int (i * j)):=Kd
theorem Kf:cR K cJ (rI B0 fun i j=>.int (i / j)):=wM fun i j z h=>by
 have:=wN h
 exact this
theorem Kg:cR K bI (rI (fun _ j=>0<j) fun i j=>.int (i % j)):=wM fun _ _ _ h=>wN h
noncomputable def wO:D->Option D
 | .int i=>some (.int (-i))
 | _=>none
noncomputable def bM:D->D->Hm->Option (D×Hm)
 | .int i,.int j,μ=>some (.int (i+j),μ)
 | .str x,.str y,μ=>if x.length+y.length<=Td then some (.str (x++y),μ) else none
 | .loc a,.loc b,μ=>match μ[a]?,μ[b]? with
  | some (.lst xs),some (.lst ys)=>if xs.length+ys.length<=Td then some (.loc μ.length,μ++[.lst (xs++ys)]) else none
  | _,_=>none
 | _,_,_=>none
noncomputable def wQ (K:SV):R2:=fun x y H Q=>f7 (fun i j=>.int (i+j)) x y H Q\/(∃ i j,x=.str i/\y=.str j/\i.length+j.length<=Td/\Q (.str (i++j)) H)\/Br x y H Q
theorem Kh {X:Cx}:OpR X (WH .Add) (wQ X.K):=op_add.or (op_add_str.or IT)
noncomputable abbrev wR (K:SV):R2:=wQ K
theorem Ki {X:Cx}:OpR X (WH .Add) (wR X.K):=Kh
theorem wU {K:SV}{x y:V}{H:Hp}{Q:VK}(h:wQ K x y H Q):wR K x y H Q:=h
theorem Kj:cR K bM (wR K):=by
 intro r H G x y d A B E Q R c e a k
 unfold bM at a
 split at a
 ·cases a
  cases c
  cases e
  exact wU (.inl ⟨_,_,rfl,rfl,k r _ H .refl R (.int _)⟩)
 ·split at a
  ·rename_i b
   cases a
   cases c
   cases e
   exact wU (.inr (.inl ⟨_,_,rfl,rfl,b,k r _ H .refl R (.str _)⟩))
  ·cases a
 ·split at a
  ·rename_i n o v w
   split at a
   ·rename_i b
    cases a
    cases c
    cases e
    obtain ⟨l,h,i⟩:=R.lst _ n v
    obtain ⟨m,u,j⟩:=R.lst _ o w
    refine wU (.inr (.inr ⟨_,_,l,m,rfl,rfl,by first|exact h|exact .inl (.inl h),u,by rw [i.length,j.length];exact b,fun p z=>?_⟩))
    obtain ⟨s,R2,q⟩:=R.alloc (c:=.lst (n++o)) (o:=.lst (l++m)) z (i.append j)
    exact k _ _ _ s R2 nI
   ·cases a
  ·cases a
 ·cases a
noncomputable def fP (p:Int->Int->Bool):D->D->Hm->Option (D×Hm)
 | .int i,.int j,μ=>some (.bl (p i j),μ)
 | _,_,_=>none
theorem gT {p:Int->Int->Bool}:cR K (fP p) (f7 fun i j=>.bl (p i j)):=by
 intro h H n x y d e l m Q R b c a k
 unfold fP at a
 split at a
 ·cases a
  cases b
  cases c
  exact ⟨_,_,rfl,rfl,k h _ H .refl R (.bl _)⟩
 ·cases a
noncomputable def dA:=fP fun i j=>decide (i<j)
noncomputable def nO:=fP fun i j=>decide (i<=j)
noncomputable def nP:=fP fun i j=>decide (j<i)
noncomputable def wV:=fP fun i j=>decide (j<=i)
noncomputable def wW (K:SV)(ne:Bool):R2:=fun x y H Q=>∃ π a c d b,Rp K π H a/\IsD K π a.length H x c/\IsD K π a.length H y d/\cB 8 a c d=some b/\Q (.bl (if ne then !b else b)) H
theorem B2 {X:Cx}(c:X.A.units+8<Vf):OpR X (UC .Eq) (wW X.K false):=by
 intro a s r H x y v u Q I j l h
 obtain ⟨p,o,m,n,b,R,d,i,e,q⟩:=h
 exact (BX I R 8 c j l d i e).1 _ _ _ _ ⟨.bl b,H,I,rfl,q⟩
theorem B3 {X:Cx}(c:X.A.units+8<Vf):OpR X (UC .NotEq) (wW X.K true):=by
 intro a s r H x y v u Q I j l h
 obtain ⟨p,o,m,n,b,R,d,i,e,q⟩:=h
 exact (BX I R 8 c j l d i e).2 _ _ _ _ ⟨.bl (!b),H,I,rfl,q⟩
noncomputable def aX (ne:Bool):D->D->Hm->Option (D×Hm):=fun x y a=>(cB 8 a x y).map fun b=>(.bl (if ne then !b else b),a)
theorem sN {ne:Bool}:cR K (aX ne) (wW K ne):=by
 intro a H l x y d m n o Q R i j h k
 obtain ⟨b,c,e⟩:=SY.mp h
 cases e
 exact ⟨a,l,x,y,b,R,i,j,c,k a _ H .refl R (.bl _)⟩
noncomputable def wX:D->D->Hm->Option (D×Hm)
 | .str i,.str j,μ=>some (.bl (!(UO j i 0 j.length 1).isEmpty),μ)
 | _,_,_=>none
theorem B4:cR K wX (fun x y H Q=>∃ i j,x=.str i/\y=.str j/\Q (.bl (!(UO j i 0 j.length 1).isEmpty)) H):=by
 intro h H n x y d e l m Q R b c a k
 unfold wX at a
 split at a
 ·cases a
  cases b
  cases c
  exact ⟨_,_,rfl,rfl,k h _ H .refl R (.bl _)⟩
 ·cases a
end
section
variable {X:Cx}{a b c:Expr}{ma mb mc:ME}{pos:Va}
theorem sO {k:Nat}{A:TJ}(r:Room k A):A.units+8<Vf:=by have:=r.un;omega
theorem Kk (u:PE X a (tM X.K ma)):PE X (.UnaryOp .USub a pos) (tM X.K (fun l h=>(ma l h).bind fun p=>(wO p.1).map fun d=>(d,p.2))):=cL (HC HF u) (by
 rintro G H Q ⟨A,l,h,d,w,R,E,e,k⟩
 obtain ⟨⟨x,z⟩,r,e⟩:=SS.mp e
 obtain ⟨y,m,s⟩:=SY.mp e
 cases s
 cases x with
 | int i=>
  cases m
  refine ⟨A,l,h,_,_,R,E,r,fun j B n q o v=>?_⟩
  cases v
  exact ⟨_,rfl,k j _ n q o (.int _)⟩
 | _=>cases m)
theorem Kl {x:Str}{n:String}(d:Gl X x)(e:X.mg x=none)(i:U9 x=some (.type n))(h:x ≠ "__name__":=by decide) (hd:(x == ("__debug__":Str))=false:=by decide):PE X (.Name x pos) (tM X.K (mC (.ty n))):=
 nG (GK (v:=.ty n) d e i rfl h hd) fun _ _ _=>.ty n
end
noncomputable def jQ (b:Hm):D->Option String
 | .non=>some "NoneType"
 | .bl _=>some "bool"
 | .int _=>some "int"
 | .str _=>some "str"
 | .tup _=>some "tuple"
 | .rol _=>some "list"
 | .loc a=>match b[a]? with
  | some (.lst _)=>some "list"
  | some (.dK _)=>some "dict"
  | some (.dT _)=>some "dict"
  | _=>none
 | .ty _=>none
noncomputable def pY (t c:String):Option Bool:=match c with
 | "int"=>some (t == "int" || t == "bool")
 | "bool"=>some (t == "bool")
 | "str"=>some (t == "str")
 | "list"=>some (t == "list")
 | "tuple"=>some (t == "tuple")
 | "dict"=>some (t == "dict")
 | _=>none
noncomputable def cW:MF:=fun ds a=>match ds with
 | [x,.ty c]=>(jQ a x).bind fun t=>(pY t c).map fun b=>(.bl b,a)
 | _=>none
theorem jR (K:SV){t c:String}{b:Bool}(d:t = "NoneType"\/t = "bool"\/t = "int"\/t = "str"\/t = "tuple"\/t = "list"\/t = "dict") (h:pY t c=some b):Xf K (.type t) (.type c)=some b:=by
 unfold pY at h
 split at h<;>first
  | cases h;done
  | (have a:=T3 h;subst a
     rcases d with rfl|rfl|rfl|rfl|rfl|rfl|rfl<;>first|rfl|decide +kernel|(unfold Xf;simp;rfl))
end L3
namespace L3
open PySem L2
noncomputable abbrev MG:=D->aG->Hm->Option aG
noncomputable def fQ (K:SV)(g:MG):TG:=fun v σ H Q=>∃ π e a d b,Rp K π H a/\En K π a.length H σ e/\IsD K π a.length H v d/\g d e a=some b/\∀ c,En K π a.length H c b->Q c H
noncomputable def eF (i:Nat):MG:=fun d a _=>some (a.set i (some d))
section
variable {X:Cx}{pos:Va}
theorem B5 {i:Nat}{x:Str}(b:X.N.Nodup)(e:X.N[i]? = some x)(l:Loc X.env.scope x)(c:X.fn x=true\/X.env.scope.names.lookup x=some .local:=by first|exact .inl rfl|exact .inr rfl|assumption):PG X (.Name x pos) (fQ X.K (eF i)):=by
 intro a s n H v u Q I r h
 obtain ⟨p,q,o,d,m,R,E,hd,j,k⟩:=h
 cases j
 exact AH b e l c a s n H v u Q I r (k _ (E.set hd i))
noncomputable def Km (K:SV)(c:TE):TI:=fun σ H R=>c σ H fun x b=>∃ a,x=.ref a/\(((∃ xs,SqL K b a xs)/\R (vG K a) b)\/((∃ xs,SqT K b a xs)/\R (vH K a) b))
theorem Kn {l tg:Expr}{u:TE}(w:PE X l u):PI X tg l (Km X.K u):=by
 intro j s G H R I h
 refine aU (w j s G H _ I h) fun v c ⟨x,r,d,A,z⟩=>?_
 obtain ⟨a,e,q⟩:=z
 subst e
 cases A
 rcases q with ⟨⟨E,n⟩,q⟩|⟨⟨E,n⟩,q⟩
 ·obtain ⟨i,B,p,y⟩:=d.list n
  refine a2l p.isList ?_
  refine ⟨c.heap.objs.size,[c.heap.objs.size],_,_,r,rfl,d.kept (t':=c.toks) fun b o e=>S9 _ e,Hq a _,⟨_,TZ _ rfl,rfl,rfl⟩,fun b m=>?_,q⟩
  have e:b=c.heap.objs.size:=by simpa using m
  subst e
  exact d.fpOk (Th _) (d.hok.fresh (Th _))
 ·obtain ⟨i,B,p,y⟩:=d.tuple n
  refine a1Y (show c.heap.IsTuple a i.toArray from p) ?_
  refine ⟨c.heap.objs.size,[c.heap.objs.size],_,_,r,rfl,d.kept (t':=c.toks) fun b o e=>S9 _ e,Hr a _,⟨_,TZ _ rfl,rfl,rfl⟩,fun b m=>?_,q⟩
  have e:b=c.heap.objs.size:=by simpa using m
  subst e
  exact d.fpOk (Th _) (d.hok.fresh (Th _))
end
structure Wk (K:SV)(J:It)(src:Hm->Nat->Option (Option D))(π:Nat->Addr)(n:Nat)(H:Hp):Prop where
 stop:∀ π' μ H' i,Ext π n H π' μ.length H'->Rp K π' H' μ->src μ i=some none->J.stop i H'
 go:∀ π' μ H' i d,Ext π n H π' μ.length H'->Rp K π' H' μ->src μ i=some (some d)->J.go i H'/\∀ x H2,J.yld i H' x H2->Ext π' μ.length H' π' μ.length H2/\Rp K π' H2 μ/\IsD K π' μ.length H2 x d
noncomputable def jS (x:D):Hm->Nat->Option (Option D):=fun a i=>(bQ a x).map fun xs=>xs[i]?
theorem Ko {K:SV}{π:Nat->Addr}{E:Hm}{H:Hp}{v:V}{x:D}{xs:List D}(R:Rp K π H E)(h:IsD K π E.length H v x)(G:bQ E x=some xs) :
  ∃ a,v=.ref a/\(((∃ b,SqL K H a b)/\Wk K (vG K a) (jS x) π E.length H)\/((∃ b,SqT K H a b)/\Wk K (vH K a) (jS x) π E.length H)):=by
 cases h with
 | @tup p b ds q t=>
  refine ⟨p,rfl,.inr ⟨⟨b,q⟩,⟨fun m l s i e n z=>?_,fun m l s i d e n z=>?_⟩⟩⟩
  ·simp only [jS,bQ,Us] at z
   have j:ds[i]? = none:=T3 z
   exact ⟨b,e.sqT q,by rw [t.length];exact Wv.mp j⟩
  ·simp only [jS,bQ,Us] at z
   have j:ds[i]? = some d:=T3 z
   obtain ⟨w,c,o⟩:=t.get j
   refine ⟨⟨b,w,e.sqT q,c⟩,fun y M ⟨u,A⟩=>?_⟩
   subst u
   have:=A b (e.sqT q)
   rw [c] at this
   cases this
   exact ⟨.refl,n,o.mono e⟩
 | @rol p b ds q t=>
  refine ⟨p,rfl,.inl ⟨⟨b,q.sq⟩,⟨fun m l s i e n z=>?_,fun m l s i d e n z=>?_⟩⟩⟩
  ·simp only [jS,bQ,Us] at z
   have j:ds[i]? = none:=T3 z
   exact ⟨b,(e.roL q).sq,by rw [t.length];exact Wv.mp j⟩
  ·simp only [jS,bQ,Us] at z
   have j:ds[i]? = some d:=T3 z
   obtain ⟨w,c,o⟩:=t.get j
   refine ⟨⟨b,w,(e.roL q).sq,c⟩,fun y M ⟨u,A⟩=>?_⟩
   subst u
   have:=A b (e.roL q).sq
   rw [c] at this
   cases this
   exact ⟨.refl,n,o.mono e⟩
 | @loc a O=>
  have hc:∃ b,H (π a)=some (.lst b):=by
   simp only [bQ] at G
   split at G
   ·rename_i r B
    obtain ⟨b,c,_⟩:=R.lst a r B
    exact ⟨b,c⟩
   ·cases G
  obtain ⟨L,I⟩:=hc
  refine ⟨π a,rfl,.inl ⟨⟨L,.of I⟩,⟨fun m l s i e n z=>?_,fun m l s i d e n z=>?_⟩⟩⟩
  ·simp only [jS,bQ] at z
   split at z
   ·rename_i r B
    obtain ⟨b,c,o⟩:=n.lst a r B
    rw [e.pi a O] at c
    have j:r[i]? = none:=T3 z
    exact ⟨b,.of c,by rw [o.length];exact Wv.mp j⟩
   ·cases z
  ·simp only [jS,bQ] at z
   split at z
   ·rename_i r B
    obtain ⟨b,c,o⟩:=n.lst a r B
    rw [e.pi a O] at c
    have j:r[i]? = some d:=T3 z
    obtain ⟨w,N,Q⟩:=o.get j
    refine ⟨⟨b,w,.of c,N⟩,fun y M ⟨u,A⟩=>?_⟩
    subst u
    have:=A b (.of c)
    rw [N] at this
    cases this
    exact ⟨.refl,n,Q⟩
   ·cases z
 | _=>cases G
noncomputable def fA (a:Hm->Nat->Option (Option D))(g:MG)(b:MS):Nat->Nat->MS
 | 0,_,_,_=>none
 | n+1,i,ρ,μ=>(a μ i).bind fun o=>match o with
  | none=>some (.nx,ρ,μ)
  | some d=>(g d ρ μ).bind fun c=>(b c μ).bind fun p=>match p.1 with
   | .nx=>fA a g b n (i+1) p.2.1 p.2.2
   | .ct=>fA a g b n (i+1) p.2.1 p.2.2
   | .bk=>some (.nx,p.2.1,p.2.2)
   | .rt d=>some (.rt d,p.2.1,p.2.2)
theorem Kp {K:SV}{J:It}{B:Hm->Nat->Option (Option D)}{g:MG}{b:MS}{π:Nat->Addr}{Q:Nat}{O:Hp}(W:Wk K J B π Q O){E:Ends}{A:Fl}{p:aG}{j:Hm}(hE:nF K E π Q O A p j)
  {G:Nat->Addr}{u:Hm}{H1:Hp}{T:aG}{σ1:St}{n:Nat}(e1:Ext π Q O G u.length H1)(R1:Rp K G H1 u)(E1:En K G u.length H1 σ1 T)(h:fA B g b n 0 T u=some (A,p,j)) :
  ∃ Wd:Nat->Nat->St->Hp->Prop,(∃ m,Wd 0 m σ1 H1)/\∀ i m X H,Wd i m X H->
   (J.stop i H/\E.nx X H)\/(J.go i H/\∃ N:St->Hp->Prop,(∀ w s,N w s->∃ m',m'<m/\Wd (i+1) m' w s)/\∀ x s,J.yld i H x s->fQ K g x X s fun σ2 H2=>cZ K b { E with nx:=N,ct:=N,bk:=E.nx } σ2 H2):=by
 have lift:∀ {a:Nat->Addr}{n2:Nat}{H2:Hp}(e:Ext π Q O a n2 H2){A:Fl}{p:aG}{j:Hm},nF K E π Q O A p j->nF K E a n2 H2 A p j:=fun {a n2 H2} e {A p j} k=>by
  cases A with
  | nx=>exact fun v r H3 e3 R3 M=>k v r H3 (e.trans e3) R3 M
  | bk=>exact fun v r H3 e3 R3 M=>k v r H3 (e.trans e3) R3 M
  | ct=>exact fun v r H3 e3 R3 M=>k v r H3 (e.trans e3) R3 M
  | rt d=>exact KC.after k e
 refine ⟨fun i m X H=>∃ a l I,Ext π Q O a l.length H/\Rp K a H l/\En K a l.length H X I/\fA B g b m i I l=some (A,p,j),⟨n,G,u,T,e1,R1,E1,h⟩,?_⟩
 rintro i m X H ⟨a,l,I,z,R2,E2,h2⟩
 cases m with
 | zero=>cases h2
 | succ m=>
  obtain ⟨o,h3,h4⟩:=SS.mp h2
  cases o with
  | none=>
   cases h4
   exact .inl ⟨W.stop a _ H i z R2 h3,hE a X H z R2 E2⟩
  | some d=>
   obtain ⟨g1,g2⟩:=W.go a l H i d z R2 h3
   obtain ⟨ρ3,h5,h6⟩:=SS.mp h4
   obtain ⟨⟨f4,U,R⟩,h7,h8⟩:=SS.mp h6
   refine .inr ⟨g1,fun w s=>∃ c L q,Ext π Q O c q.length s/\Rp K c s q/\En K c q.length s w L/\fA B g b m (i+1) L q=some (A,p,j),
    fun w s ⟨c,L,q,a1,a2,a3,a4⟩=>⟨m,Za _,c,q,L,a1,a2,a3,a4⟩,fun x s y=>?_⟩
   obtain ⟨ex,Rx,hx⟩:=g2 x s y
   have z:=z.trans ex
   refine ⟨a,I,l,d,ρ3,Rx,E2.mono ex,hx,h5,fun r M=>⟨a,ρ3,l,f4,U,R,Rx,M,h7,?_⟩⟩
   cases f4 with
   | nx=>exact fun c Y H5 e5 R5 Z=>⟨c,U,R,z.trans e5,R5,Z,h8⟩
   | ct=>exact fun c Y H5 e5 R5 Z=>⟨c,U,R,z.trans e5,R5,Z,h8⟩
   | bk=>
    cases h8
    exact fun c Y H5 e5 R5 Z=>hE c Y H5 (z.trans e5) R5 Z
   | rt d'=>
    cases h8
    exact KC.after hE z
section
variable {X:Cx}{pos:Va}{tg iter:Expr}{body:List Stmt}{mi:ME}{g:MG}{mb:MS}
noncomputable def gE (lo:Int)(n:Nat):Hm->Nat->Option (Option D):=fun _ i=>some (if i<n then some (.int (lo+i)) else none)
theorem B6 {K:SV}{lo:Int}{k:Nat}{π:Nat->Addr}{n:Nat}{H:Hp}:Wk K (lK lo k) (gE lo k) π n H:=by
 refine ⟨fun b m c i e R z=>?_,fun b m c i d e R z=>?_⟩
 ·have a:=T3 z
  split at a
  ·cases a
  ·exact W4.mp (by assumption)
 ·have a:=T3 z
  split at a
  ·cases a
   rename_i h
   exact ⟨h,fun x o ⟨j,l⟩=>by subst j;rw [l];exact ⟨.refl,R,.int _⟩⟩
  ·cases a
end
end L3
namespace L3
open PySem L2
noncomputable def nQ (y:Str):Str:="#"++y
noncomputable def bC (xs N:List Str):List Str:=N.map fun y=>if xs.contains y then nQ y else y
theorem lV (xs N:List Str):(bC xs N).length=N.length:=by unfold bC;simp
theorem Kq {xs N:List Str}{i:Nat}{y:Str}(h:(bC xs N)[i]? = some y):∃ a,N[i]? = some a/\((xs.contains a=true/\y=nQ a)\/(xs.contains a=false/\y=a)):=by
 unfold bC at h
 rw [Uo] at h
 obtain ⟨a,c,b⟩:=SY.mp h
 refine ⟨a,c,?_⟩
 cases hc:xs.contains a with
 | true=>rw [hc] at b;exact .inl ⟨rfl,by simpa using b.symm⟩
 | false=>rw [hc] at b;exact .inr ⟨rfl,by simpa using b.symm⟩
noncomputable def cF (X:Cx)(scope:V1)(a:List (Str×Addr))(C:Addr)(N:List Str)(s₀:SX)(H₀:Hp)(b:List Addr):Cx:=
 { X with N:=N,s₀:=s₀,H₀:=H₀,env:=W0 scope a C X.env,outer:=X.stack,stack:=X.stack,ex:=b,fn:=fun _=>false,pn:=[],xe:=fun _ _=>False }
theorem B7 {env:XN}:∀ (names:List (Str×V7))(x:Str),(names.map fun (n,k)=>if (k == VJ&&env.scope.kind == .function&&env.kindOf n == some .cell) then (n,VY) else (n,k)).lookup x
  = (names.lookup x).map fun k=>if (k == VJ&&env.scope.kind == .function&&env.kindOf x == some .cell) then VY else k
 | [],_=>rfl
 | (n,k)::r,x=>by
  have d:=B7 (env:=env) r x
  rw [S7]
  by_cases c:x=n
  ·subst c
   have a:∀ (k':V7)(l:List (Str×V7)),Ym x ((x,k')::l)=some k':=fun k' l=>by simp [WX]
   rw [a]
   show Ym x ((if (k == VJ&&env.scope.kind == .function&&env.kindOf x == some .cell)=true then (x,VY) else (x,k))::_)=some (if (k == VJ&&env.scope.kind == .function&&env.kindOf x == some .cell)=true then VY else k)
   split
   ·rw [a]
   ·rw [a]
  ·have b:(x == n)=false:=by simpa using c
   have a:∀ (k':V7)(l:List (Str×V7)),Ym x ((n,k')::l)=Ym x l:=fun k' l=>by simp only [WX,b]
   rw [a]
   show Ym x ((if (k == VJ&&env.scope.kind == .function&&env.kindOf n == some .cell)=true then (n,VY) else (n,k))::_)=_
   split
   ·rw [a]
    exact d
   ·rw [a]
    exact d
structure CompOk (X:Cx)(scope:V1)(cl:List (Str×Addr))(xs:List Str):Prop where
 clos:a2e scope X.env=pure cl
 nocell:∀ y∈scope.names,y.2≠.cell
 kind:scope.kind=.function
 names:∀ y∈scope.names,y.2=.local->scope.names.lookup y.1=some .local
 here:∀ x∈xs,scope.names.lookup x=some .local
 sub:∀ y c,cl.lookup y=some c->X.env.cells.lookup y=some c
 free:∀ y,scope.names.lookup y=some .free->(X.env.kindOf y=some .cell\/X.env.kindOf y=some .free)/\∃ c,cl.lookup y=some c
 own:∀ y,scope.names.lookup y=some .local->y∉bC xs X.N
 hidn:∀ y∈X.N,xs.contains y=true->scope.names.lookup (nQ y)=none
section
variable {X:Cx}{scope:V1}{cl:List (Str×Addr)}{xs:List Str}
theorem CompOk.kindOf (O:CompOk X scope cl xs)(C:Addr)(y:Str):(W0 scope cl C X.env).kindOf y=(scope.names.lookup y).map fun k=>if (k == VJ&&X.env.scope.kind == .function&&X.env.kindOf y == some .cell) then VY else k:=
 B7 scope.names y
theorem CompOk.outer (O:CompOk X scope cl xs){C:Addr}{y:Str}(h:(W0 scope cl C X.env).kindOf y=some .cell\/(W0 scope cl C X.env).kindOf y=some .free):scope.names.lookup y=some .free:=by
 rw [O.kindOf] at h
 cases q:scope.names.lookup y with
 | none=>rw [q] at h;rcases h with h|h<;>cases h
 | some k=>
  rw [q] at h
  cases k with
  | free=>rfl
  | cell=>exact absurd rfl (O.nocell _ (UQ q))
  | «local»=>rcases h with h|h<;>simp at h
  | globalExplicit=>rcases h with h|h<;>simp at h
  | globalImplicit=>rcases h with h|h<;>simp at h
theorem CompOk.inv {a3A:List (Addr×Obj)}{σ:St}{H:Hp}{s:SX}{fp:List Addr}{d:Uw}{tk:Nat}(O:CompOk X scope cl xs)(I:Inv X a3A σ H s)(E:∀ b∈fp,iA X a3A H b)(hob:∀ b∈fp,∃ o,s.heap.get? b=some o){m:Str->Option Value}
  (hns:d.Ns s.heap.objs.size m)(Q:∀ b o,s.heap.get? b=some o->d.get? b=some o) :
  Inv (cF X scope cl s.heap.objs.size (bC xs X.N++xs) s H fp) [] (σ++Vr xs.length none) H { s with heap:=d,toks:=tk }:=by
 refine ⟨⟨I.ok.mod,O.kind,I.ok.glob,I.ok.blt,Th _,fun y z c h1 B=>?_,fun y hy=>?_,(fun y c h=>by cases h),I.ok.hd,I.ok.frames,.inl rfl,fun b K=>?_,fun b o e=>I.bs b o e,Uk I.ok.bsz I.sz,fun b o e K=>?_,fun b K hb2=>?_,I.stack,I.stkFree⟩,
  rfl,I.bare,Un.kept Q,⟨m,hns,fun i y v h1 B x=>?_⟩,fun y c h=>?_,I.hok.fresh (Th _),fun y c h=>I.freeC y c (O.sub y c h),fun p hp=>absurd (show p∈([]:List (Addr×Obj)) from hp) (by simp),I.hok.kept Q,?_⟩
 ·exact I.ok.inj y z c (O.sub y c h1) (O.sub z c B)
 ·exact (O.free y (O.outer hy)).2
 ·obtain ⟨f0,U,Y,A,Z,f5⟩:=E b K
  obtain ⟨o,N⟩:=hob b K
  exact ⟨TL (Tg N),fun y c h=>Z y c (O.sub y c h)⟩
 ·obtain ⟨f0,U,Y,A,Z,f5⟩:=E b K
  rcases A with A|A
  ·exact I.ok.noex b o e A
  ·exact absurd (TF (Tg (I.ok.bs b o e).1) A) (VD _)
 ·obtain ⟨f0,U,Y,A,Z,f5⟩:=E b K
  rcases TN.mp (I.stkSub b hb2) with z|z
  ·exact U z
  ·exact Y z
 ·have M:i<σ.length:=by
   by_cases M:i<σ.length
   ·exact M
   ·rw [Tv (W4.mp M),V8] at B
    split at B<;>cases B
  rw [Ti M] at B
  have L:(bC xs X.N)[i]? = some y:=by
   have w:(bC xs X.N++xs)[i]? = some y:=h1
   rw [Ti (by rw [lV,<- I.len];exact M)] at w
   exact w
  have n:scope.names.lookup y≠some .local:=fun z=>O.own y z (TQ L)
  have G:=O.kindOf s.heap.objs.size y
  have h1':X.N[i]? = some y:=by
   obtain ⟨y0,q1,T⟩:=Kq L
   rcases T with ⟨T,q3⟩|⟨T,q3⟩
   ·exfalso
    have hz:=O.hidn y0 (TQ q1) T
    rw [<- q3] at hz
    rw [hz] at G
    have a:(W0 scope cl s.heap.objs.size X.env).kindOf y=some .local\/(W0 scope cl s.heap.objs.size X.env).kindOf y=some .cell\/(W0 scope cl s.heap.objs.size X.env).kindOf y=some .free:=x
    rw [G] at a
    rcases a with a|a|a<;>cases a
   ·rw [q3];exact q1
  have a:(W0 scope cl s.heap.objs.size X.env).kindOf y=some .cell\/(W0 scope cl s.heap.objs.size X.env).kindOf y=some .free:=by
   rcases x with x|x|x
   ·exfalso
    have a:(W0 scope cl s.heap.objs.size X.env).kindOf y=some .local:=x
    rw [G] at a
    cases q:scope.names.lookup y with
    | none=>rw [q] at a;cases a
    | some k=>
     rw [q] at a
     cases k with
     | «local»=>exact n q
     | cell=>simp at a
     | free=>
      simp only [Us] at a
      split at a<;>cases a
     | globalExplicit=>simp at a
     | globalImplicit=>simp at a
   ·exact .inl x
   ·exact .inr x
  obtain ⟨j,c,hc⟩:=O.free y (O.outer a)
  obtain ⟨m0,hn0,hl0⟩:=I.loc
  obtain ⟨u,r,l⟩:=hl0 i y v h1' B (by rcases j with j|j;exact .inr (.inl j);exact .inr (.inr j))
  refine ⟨u,r,.inr ⟨a,c,hc,?_⟩⟩
  rcases l with ⟨R,_⟩|⟨_,c',e',z⟩
  ·exfalso
   rcases j with j|j
   ·rw [j] at R;cases R
   ·rw [j] at R;cases R
  ·rw [O.sub y c hc] at e'
   cases e'
   obtain ⟨o,N,hd⟩:=z
   exact ⟨o,Q c o N,hd⟩
 ·obtain ⟨v,q⟩:=I.cell y c (O.sub y c h)
  exact ⟨v,by obtain ⟨o,N,hd⟩:=q;exact ⟨o,Q c o N,hd⟩⟩
 ·show (σ++Vr xs.length none).length=(bC xs X.N++xs).length
  rw [Te,Te,I.len,VU,lV]
theorem CompOk.back {a3A Q:List (Addr×Obj)}{σ E:St}{H H':Hp}{s i:SX}{j:List Addr}{h':Uw}{N:List Str}(I:Inv X a3A σ H s)(x:∀ b∈j,iA X a3A H b)
  (J:Inv (cF X scope cl s.heap.objs.size N s H j) Q E H' i)(p:∀ b o,b≠s.heap.objs.size->i.heap.get? b=some o->h'.get? b=some o):Inv X a3A σ H' { i with heap:=h' }:=by
 have u:Un (dB X.stack) j H H' s.heap h':=by
  have h:Un (dB X.stack) j H H' s.heap i.heap:=J.base
  have ne:∀ b o,s.heap.get? b=some o->b≠s.heap.objs.size:=fun b o e=>TL (Tg e)
  refine ⟨fun b o e n l m=>p b o (ne b o e) (h.keep b o e n l m),fun b o e n l m=>?_,h.free,fun b o e m=>?_,h.tups,h.frzs,h.tbls⟩
  ·obtain ⟨R,q⟩:=h.slot b o e n l m
   exact ⟨R,p b _ (ne b o e) q⟩
  ·obtain ⟨O,q⟩:=h.there b o e m
   exact ⟨O,p b _ (ne b o e) q⟩
 have a:H' s.heap.objs.size=none:=J.free
 have hok:HOk X.prog X.w H' h':=fun b v e=>by
  refine (J.hok b v e).stay (fun c w hc q=>p c w ?_ q) (fun _ q=>q) fun _ _ q=>q
  rcases hc with z|z
  ·rw [z]
   intro B
   rw [B,a] at e
   cases e
  ·intro B
   rw [B,a] at z
   cases z
 have y:i.os=s.os:=J.os
 obtain ⟨Y,g,d,t,A⟩:=i
 obtain rfl:A=s.os:=y
 have r:=Inv.call (X:=X) (a3A:=a3A) (σ:=σ) (H:=H) (s:=s) (h':=h') (g':=g) (d':=d) (t':=t) (ch:=j) I u hok J.bare fun b l=>let ⟨T,G,U,K,L,M⟩:=x b l;⟨K,G,L,M⟩
 exact r
end
theorem Kr {prog:Tt}{w:TV}{A:TJ}{R:a1j->SX->Prop}{s:SX}{elt a iter:Expr}{ifs:List Expr}{scope:V1}{pos:Va}{G u:Value}{env:XN}(I:Nat->SX->Prop)
  (turn:∀ n s,I n s->TK (TH prog w) A (YE G) (fun r d=>match r with
   | none=>R (.ok .next) d
   | some v=>TK (TH prog w) A (Yt a G v) (fun _ e=>TK (TH prog w) A (Y7 a env v) (fun _ o=>
     TK (TH prog w) A (forIn ifs true fun c r=>if r=true then do let ok <- ZK c env (eval c env);pure (Wr ok) else pure (Wr r)) (fun ok i=>
      if ok=true then TK (TH prog w) A (eval elt env) (fun x p=>
       TK (TH prog w) A (call (.builtin "list.append") [u,x]) (fun _ q=>∃ m,m<n/\I m q) (fun _ _=>False) p) (fun _ _=>False) i
      else ∃ m,m<n/\I m i) (fun _ _=>False) o) (fun _ _=>False) e) (fun _ _=>False) d) (fun _ _=>False) s)
  (n:Nat)(h:I n s) :
  XF (TH prog w) A (.compLoop (.ListComp elt [⟨a,iter,ifs,0⟩] scope pos) 0 G u env) R s:=by
 refine codeAny_loop rfl I (fun n s H=>?_) n h
 show TK _ A ((compTurn (.ListComp elt [⟨a,iter,ifs,0⟩] scope pos) 0 G u env).onRaise (fun x=>do ZJ x env;theTreesLotGoes x)) _ _ s
 refine wpAny_noted ?_
 rw [compTurn_list]
 refine S0 (a0z (S0 (T9 (turn n s H) (fun r d j=>?_) fun _ _ b=>b.elim)))
 cases r with
 | none=>exact Tn j
 | some v=>
  refine S0 (T9 j (fun _ e y=>?_) fun _ _ b=>b.elim)
  refine S0 (T9 y (fun _ o z=>S0 (T9 z (fun ok i l=>?_) fun _ _ b=>b.elim)) fun _ _ b=>b.elim)
  cases ok with
  | false=>exact Tn ⟨rfl,l⟩
  | true=>
   exact S0 (S0 (T9 l (fun x p B=>S0 (T9 B (fun _ q E=>Tn (Tn ⟨rfl,E⟩)) fun _ _ b=>b.elim)) fun _ _ b=>b.elim))
noncomputable def nR (b:Hm)(a:Nat)(y:D):Option Hm:=match b[a]? with
 | some (.lst xs)=>if xs.length<Td then some (b.set a (.lst (xs++[y]))) else none
 | _=>none
noncomputable abbrev BD:=D->Hm->Option aG
noncomputable def pZ:BD:=fun d _=>some [some d]
noncomputable def B8 (k:Nat):BD:=fun d a=>(bQ a d).bind fun xs=>if xs.length=k then some (xs.map some) else none
noncomputable def jT (a:Hm->Nat->Option (Option D))(j:BD)(c:MT)(e:ME)(b:aG)(h:Nat):Nat->Nat->Hm->Option Hm
 | 0,_,_=>none
 | n+1,i,μ=>(a μ i).bind fun o=>match o with
  | none=>some μ
  | some d=>(j d μ).bind fun x=>(c (b++x) μ).bind fun p=>match p.1 with
   | true=>(e (b++x) p.2).bind fun q=>(nR q.2 h q.1).bind fun l=>jT a j c e b h n (i+1) l
   | false=>jT a j c e b h n (i+1) p.2
noncomputable def eV:MT:=fun _ a=>some (true,a)
noncomputable def lW (X:Cx)(ifs:List Expr)(m:MT):Prop:=
 ∀ (a3A:List (Addr×Obj))(s:SX)(σ:St)(H:Hp)(Q:Bool->Hp->Prop),Inv X a3A σ H s->cV X.K m σ H Q->
  TK (TH X.prog X.w) X.A (forIn ifs true fun c r=>if r=true then do let ok <- ZK c X.env (eval c X.env);pure (Wr ok) else pure (Wr r)) (TP X a3A σ Q) X.xe s
theorem Ks {X:Cx}:lW X [] eV:=by
 intro a s l H Q I h
 obtain ⟨e,j,i,b,d,R,E,c,k⟩:=h
 cases c
 exact wpAny_tests_nil ⟨H,I,k e H .refl R⟩
theorem Kt {X:Cx}{c:Expr}{m:MT}(h:PT X c (cV X.K m)):lW X [c] m:=fun a3A s σ H Q I q=>wpAny_tests_one (h a3A s σ H Q I q)
end L3
namespace L3
open PySem L2
section
variable {prog:Tt}{w:TV}{A:TJ}{E:Value->SX->Prop}{s:SX}
theorem B9 {e t:Addr}{items:Array Value}(j:t≠e):∀ (n i:Nat)(s:SX)(Q:List Value->SX->Prop),s.heap.IsListIter e t i->s.heap.IsList t items->i+n<=items.size->
  (∀ m,m.IsListIter e t (i+n)->Xq e s.heap m->Q ((items.toList.drop i).take n) { s with heap:=m })->TK (TH prog w) A (draw (.ref e) n) Q E s
 | 0,i,s,Q,hit,_,_,hQ=>by
  show TK _ _ (pure []) Q E s
  exact Tn (by simpa using hQ s.heap hit (ZP ..))
 | n+1,i,s,Q,hit,ht,hle,hQ=>by
  have h:i<items.size:=by omega
  show TK _ _ (YE (.ref e) >>= _) Q E s
  refine S0 (a1a hit ht (x:=items[i]) (by simp [h]) fun o b a=>?_)
  refine S0 (U2 (B9 j n (i+1) _ _ b (ht.extBut a.extBut j) (by omega) fun l c d=>Tn ?_))
  have hd:items.toList.drop i=items[i]::items.toList.drop (i+1):=by simp [Vy,h]
  have:=hQ l (by rw [show i+(n+1)=i+1+n by omega];exact c) (a.trans d)
  rw [hd,Yu] at this
  exact this
theorem Ku {t:Addr}{items:Array Value}{Q:List Value->SX->Prop}(u:A.handled=none)(l:s.heap.IsList t items)
  (r:∀ p,a0y s.heap.objs.size s.heap p->Q items.toList { s with heap:=p }):TK (TH prog w) A (unpackItems (.ref t) items.size none) Q E s:=by
 have j:t≠s.heap.objs.size:=by obtain ⟨o,v,_⟩:=l;exact TL (Tg v)
 unfold unpackItems
 refine S0 ?_
 ·unfold notIterableAtAll
  refine S0 (a2K l.typeIs slot_list_iter.lookup ?_)
  refine Tn ?_
  simp only [S6,if_false]
  refine S0 (U2 (a2l l ?_))
  refine S0 (U2 (B9 j items.size 0 _ _ ⟨_,TZ _ rfl,rfl,rfl⟩ (l.push _) (by omega) fun m c a=>?_))
  have i:List.take items.size (List.drop 0 items.toList)=items.toList:=by
   rw [VS];exact Vq (by simp)
  rw [i]
  rw [if_neg (by simp)]
  have h:m.IsList t items:=(l.push _).extBut a.extBut j
  refine S0 (U2 (a1w u c h (by simp) fun n d=>?_))
  simp only [Option.isSome_none,S6,if_false]
  refine Tn (r n fun b o q e=>d b o q (a.extBut b o q (S9 _ e)))
theorem Kv {env:XN}{a:List Expr} {x1} {pos:Va}{t:Addr}{items:Array Value}{Q:Unit->SX->Prop}(d:A.handled=none)(i:s.heap.IsList t items)
  (e:(VN a env).length=items.size)(b:(VN a env).findIdx? (·.1)=none)
  (h:∀ c,a0y s.heap.objs.size s.heap c->TK (TH prog w) A (assignInOrder ((VN a env).map (·.2)) items.toList) Q E { s with heap:=c }) :
  TK (TH prog w) A (Y7 (.Tuple a x1 pos) env (.ref t)) Q E s:=by
 rw [a3b]
 refine S0 (a0z ?_)
 unfold unpack
 rw [e,b]
 exact S0 (U2 (Ku d i h))
end
noncomputable def lX:aG->List Nat->List D->aG
 | ρ,i::is,x::xs=>lX (ρ.set i (some x)) is xs
 | ρ,_,_=>ρ
noncomputable def nS (is:List Nat):MG:=fun d b a=>(bQ a d).bind fun xs=>if xs.length=is.length then some (lX b is xs) else none
noncomputable def sP:List Nat->nB
 | []=>AI
 | i::r=>AJ (vD i) (sP r)
theorem wY {K:SV}{π:Nat->Addr}{n:Nat}{H:Hp}:∀ (is:List Nat){vs:List V}{xs:List D}{σ:St}{b:aG}{Q:St->Hp->Prop},IsDs K π n H vs xs->En K π n H σ b->xs.length=is.length->(∀ a,En K π n H a (lX b is xs)->Q a H)->sP is vs σ H Q
 | [],vs,xs,σ,b,Q,h,E,hl,k=>by
  cases h with
  | nil=>exact ⟨rfl,k σ E⟩
  | cons h t=>cases hl
 | i::is,vs,xs,σ,b,Q,h,E,hl,k=>by
  cases h with
  | nil=>cases hl
  | cons h t=>exact ⟨_,_,rfl,wY is t (E.set h i) (by simpa using hl) k⟩
section
variable {X:Cx}{pos:Va}
theorem Kw {es:List Expr}{k:Nat}{is:List Nat}(hc:X.calm=true)(h:pN X es (sP is))(L:(VN es X.env).length=is.length:=by rfl)(n:(VN es X.env).findIdx? (·.1)=none:=by rfl) :
  PG X (.Tuple es k pos) (fQ X.K (nS is)):=by
 intro j s x H v u Q I r hw
 obtain ⟨O,ρ,N,d,ρ',R,E,hd,Y,M⟩:=hw
 obtain ⟨K,l,A⟩:=SS.mp Y
 split at A
 ·rename_i w
  cases A
  have both:(∃ a i,v=.ref a/\SqT X.K H a i/\IsDs X.K O N.length H i K)\/(∃ a i,v=.ref a/\SqL X.K H a i/\IsDs X.K O N.length H i K):=by
   cases hd with
   | tup q t=>cases l;exact .inl ⟨_,_,rfl,q,t⟩
   | rol q t=>cases l;exact .inr ⟨_,_,rfl,q.sq,t⟩
   | @loc a ha=>
    simp only [bQ] at l
    split at l
    ·rename_i ys Z
     cases l
     obtain ⟨i,T,U⟩:=R.lst a K Z
     exact .inr ⟨_,i,rfl,.of T,U⟩
    ·cases l
   | _=>cases l
  rcases both with ⟨a,i,rfl,q,t⟩|⟨a,i,rfl,q,t⟩
  ·cases r
   obtain ⟨m,p,B,hz⟩:=I.tuple q
   have c:m.length=is.length:=by rw [<- p.length,t.length];exact w
   refine a3a (I.ok.hd hc) B (by simp [L,c]) n fun z G=>?_
   have y:Inv X j x H { s with heap:=z }:=I.kept (t':=s.toks) fun b o e=>G b o (TL (Tg e)) e
   exact h j _ x H i _ Q y (by simpa using p) (wY is t E w M)
  ·cases r
   obtain ⟨m,p,B,hz⟩:=I.list q
   have c:m.length=is.length:=by rw [<- p.length,t.length];exact w
   refine Kv (I.ok.hd hc) B.isList (by simp [L,c]) n fun z G=>?_
   have y:Inv X j x H { s with heap:=z }:=I.kept (t':=s.toks) fun b o e=>G b o (TL (Tg e)) e
   exact h j _ x H i _ Q y (by simpa using p) (wY is t E w M)
 ·cases A
noncomputable def wZ (m:ME)(g:MG):MS:=fun b c=>(m b c).bind fun p=>(g p.1 b p.2).map fun a=>(.nx,a,p.2)
theorem Ky {tg e:Expr}{m:ME}{g:MG}(q:PE X e (tM X.K m))(r:PG X tg (fQ X.K g))(s:swapsWithSole [tg] e pos.line X.env=pure false:=by rfl)(hw:a0B [tg] e X.env=pure none:=by rfl)
  (h1:(VN [tg] X.env).map (·.2)=[Y7 tg X.env]:=by rfl):PS X (.Assign [tg] e pos) (cZ X.K (wZ m g)):=jO (Hl q r s hw h1) (by
 rintro E I H ⟨y,l,v,B,z,w,R,h,a,k⟩
 obtain ⟨⟨x,c⟩,h1,a⟩:=SS.mp a
 obtain ⟨A,p,a⟩:=SY.mp a
 cases a
 exact ⟨y,l,v,x,c,R,h,h1,fun b G o j i u=>⟨b,l,_,x,_,i,h.mono j,u,p,fun d n=>k b d o j i n⟩⟩)
end
section
variable {X:Cx}{K:SV}
noncomputable def p5:MF:=fun ds a=>match ds with
 | [.str z]=>if z.length<=Td then some (.int z.length,a) else none
 | [x]=>(bQ a x).map fun b=>(.int b.length,a)
 | _=>none
noncomputable def w4 (K:SV):List V->Hp->VK->Prop:=fun xs H Q=>(∃ p a,xs=[.ref p]/\(SqL K H p a\/SqT K H p a)/\Q (.int a.length) H)\/(∃ z,xs=[.str z]/\z.length<=Td/\Q (.int z.length) H)
theorem call_lenM:CallR X (.builtin "len") (w4 X.K):=call_len_seq.or IM
theorem sQ {π:Nat->Addr}{b:Hm}{H:Hp}{v:V}{x:D}{xs:List D}(R:Rp K π H b)(h:IsD K π b.length H v x)(e:bQ b x=some xs):∃ p vs,v=.ref p/\(SqL K H p vs\/SqT K H p vs)/\IsDs K π b.length H vs xs:=by
 cases h with
 | tup q t=>cases e;exact ⟨_,_,rfl,.inr q,t⟩
 | rol q t=>cases e;exact ⟨_,_,rfl,.inl q.sq,t⟩
 | @loc a j=>
  simp only [bQ] at e
  split at e
  ·rename_i l i
   cases e
   obtain ⟨vs,c,d⟩:=R.lst a xs i
   exact ⟨_,vs,rfl,.inl (.of c),d⟩
  ·cases e
 | _=>cases e
theorem Cb:gP K p5 (w4 K):=by
 intro b H r n d l m Q R i a k
 unfold p5 at a
 split at a
 ·split at a
  ·rename_i h
   cases a
   cases i with
   | cons i t=>cases i;cases t;exact .inr ⟨_,rfl,h,k b _ H .refl R (.int _)⟩
  ·cases a
 ·obtain ⟨o,c,e⟩:=SY.mp a
  cases e
  cases i with
  | cons i t=>
   cases t
   obtain ⟨p,j,rfl,q,hd⟩:=sQ R i c
   refine .inl ⟨p,j,rfl,q,?_⟩
   rw [hd.length]
   exact k b _ H .refl R (.int _)
 ·cases a
noncomputable def Cd (K:SV):List V->Hp->VK->Prop:=fun vs H Q=>∃ π a x v t c b,vs=[v,.ty c]/\Rp K π H a/\IsD K π a.length H v x/\jQ a x=some t/\pY t c=some b/\Q (.bl b) H
theorem Kz:gP K cW (Cd K):=by
 intro c H q p d n o Q R i a k
 unfold cW at a
 split at a
 ·obtain ⟨t,e,a⟩:=SS.mp a
  obtain ⟨b,h,a⟩:=SY.mp a
  cases a
  cases i with
  | cons i l=>
   cases l with
   | cons j m=>
    cases m
    cases j
    exact ⟨c,_,_,_,t,_,b,rfl,R,i,e,h,k c _ H .refl R (.bl _)⟩
 ·cases a
theorem KA:CallR X (.builtin "isinstance") (Cd X.K):=by
 intro L s σ H T us Q I r h
 obtain ⟨N,μ,x,v,t,c,b,rfl,R,i,d,l,q⟩:=h
 obtain ⟨u,u2,rfl,w,Z⟩:=HN r
 cases Z
 have fin:∀ M,EP X L σ Q (.bool b) { s with toks:=M }:=fun M=>⟨.bl b,H,I.tok M,rfl,q⟩
 cases i with
 | non=>cases d;cases w;exact Vo PySem.W.kitx_none I.kIn Wa (jR X.K (by simp) l) (fun z=>nomatch z) fin
 | bl y=>cases d;cases w;exact Vo PySem.W.kitx_bool I.kIn Wa (jR X.K (by simp) l) (fun z=>nomatch z) fin
 | int y=>cases d;obtain ⟨t,rfl⟩:=w;exact Vo PySem.W.kitx_int I.kIn Wa (jR X.K (by simp) l) (fun z=>nomatch z) fin
 | str y=>cases d;obtain ⟨t,rfl⟩:=w;exact Vo PySem.W.kitx_str I.kIn Wa (jR X.K (by simp) l) (fun z=>nomatch z) fin
 | tup g t=>
  cases d
  cases w
  obtain ⟨E,O,p,_⟩:=I.tuple g
  obtain ⟨o,e,j,_⟩:=p
  exact Vo PySem.W.kitx_tuple I.kIn ⟨o,e,j⟩ (jR X.K (by simp) l) (fun z=>nomatch z) fin
 | rol g t=>
  cases d
  cases w
  obtain ⟨E,O,p,_⟩:=I.list g.sq
  obtain ⟨o,e,j,_⟩:=p.isList
  exact Vo a0q I.kIn ⟨o,e,j⟩ (jR X.K (by simp) l) (fun z=>nomatch z) fin
 | @loc a ha=>
  cases w
  simp only [jQ] at d
  split at d
  ·rename_i T B
   cases d
   obtain ⟨G,A,h4⟩:=R.lst a T B
   obtain ⟨E,O,p,_⟩:=I.list (SqL.of (K:=X.K) A)
   obtain ⟨o,e,j,_⟩:=p.isList
   exact Vo a0q I.kIn ⟨o,e,j⟩ (jR X.K (by simp) l) (fun z=>nomatch z) fin
  ·rename_i m B
   cases d
   obtain ⟨G,A,_⟩:=R.dK a m B
   obtain ⟨_,_,ws,_,p⟩:=(show ObjOk X.prog X.w H s.heap (N a) (.dK G) from I.hok _ _ A)
   obtain ⟨o,Y,U,e,j,_⟩:=p
   exact Vo a0r I.kIn ⟨o,e,j.1⟩ (jR X.K (by simp) l) (fun z=>nomatch z) fin
  ·rename_i m B
   cases d
   obtain ⟨G,A,_⟩:=R.dT a m B
   obtain ⟨⟨ws,_,_,_,o,Y,U,e,j,_⟩,_⟩:=(show ObjOk X.prog X.w H s.heap (N a) (bL (N a) G) from I.hok _ _ A)
   exact Vo a0r I.kIn ⟨o,e,j.1⟩ (jR X.K (by simp) l) (fun z=>nomatch z) fin
  ·cases d
 | ty n=>cases d
end
noncomputable def kT:D->Option aI
 | .int i=>some (.inl i)
 | .str x=>some (.inr x)
 | _=>none
noncomputable def w5 (kvs:List (aI×D))(k:aI)(d:D):List (aI×D):=
 if (kvs.any fun a=>decide (a.1=k))=true then kvs.map (fun a=>if a.1=k then (a.1,d) else a) else kvs++[(k,d)]
noncomputable def nU (kvs more:List (aI×D)):List (aI×D):=more.foldl (fun a b=>w5 a b.1 b.2) kvs
noncomputable def fR (kvs:List (aI×D))(k:aI):Option D:=(kvs.find? fun a=>decide (a.1=k)).map (·.2)
inductive IsKs (K:SV)(π:Nat->Addr)(n:Nat)(H:Hp):List (aI×V)->List (aI×D)->Prop where
 | nil:IsKs K π n H [] []
 | cons {k:aI}{v:V}{d:D}{vs:List (aI×V)}{ds:List (aI×D)}(h:IsD K π n H v d)(t:IsKs K π n H vs ds):IsKs K π n H ((k,v)::vs) ((k,d)::ds)
section
variable {K:SV}{π π':Nat->Addr}{n n':Nat}{H H':Hp}
theorem IsKs.maps {vs:List (aI×V)}{ds:List (aI×D)}(h:IsKs K π n H vs ds):vs.map (·.1)=ds.map (·.1)/\IsDs K π n H (vs.map (·.2)) (ds.map (·.2)):=by
 induction h with
 | nil=>exact ⟨rfl,.nil⟩
 | cons h t a=>exact ⟨by rw [S7,S7,a.1],.cons h a.2⟩
theorem IsKs.of:∀ {vs:List (aI×V)}{ds:List (aI×D)},vs.map (·.1)=ds.map (·.1)->IsDs K π n H (vs.map (·.2)) (ds.map (·.2))->IsKs K π n H vs ds
 | [],[],_,_=>.nil
 | [],_::_,h,_=>by cases h
 | _::_,[],h,_=>by cases h
 | (k,v)::vs,(k',d)::ds,h,t=>by
  rw [S7,S7] at h t
  injection h with h1 h2
  dsimp only at h1
  subst h1
  cases t with
  | cons a b=>exact .cons a (IsKs.of h2 b)
theorem IsKs.append {vs ws:List (aI×V)}{ds es:List (aI×D)}(h:IsKs K π n H vs ds)(a:IsKs K π n H ws es):IsKs K π n H (vs++ws) (ds++es):=by
 induction h with
 | nil=>exact a
 | cons h t b=>exact .cons h b
theorem IsKs.any {vs:List (aI×V)}{ds:List (aI×D)}(h:IsKs K π n H vs ds)(k:aI):(vs.any fun a=>decide (a.1=k))=ds.any fun a=>decide (a.1=k):=by
 induction h with
 | nil=>rfl
 | cons h t b=>rw [W5,W5,b]
theorem IsKs.repl {vs:List (aI×V)}{ds:List (aI×D)}(h:IsKs K π n H vs ds){v:V}{d:D}(c:IsD K π n H v d)(k:aI):IsKs K π n H (vs.map fun a=>if a.1=k then (a.1,v) else a) (ds.map fun a=>if a.1=k then (a.1,d) else a):=by
 induction h with
 | nil=>exact .nil
 | @cons i l j vs ds h t b=>
  rw [S7,S7]
  by_cases e:i=k
  ·simp only [e,if_true]
   exact .cons c b
  ·simp only [e,if_false]
   exact .cons h b
theorem IsKs.put {vs:List (aI×V)}{ds:List (aI×D)}(h:IsKs K π n H vs ds){v:V}{d:D}(a:IsD K π n H v d)(k:aI):IsKs K π n H (eQ vs k v) (w5 ds k d):=by
 unfold eQ w5
 rw [h.any k]
 split
 ·exact h.repl a k
 ·exact h.append (.cons a .nil)
theorem IsKs.merge {ws:List (aI×V)}{es:List (aI×D)}(a:IsKs K π n H ws es):∀ {vs:List (aI×V)}{ds:List (aI×D)},IsKs K π n H vs ds->IsKs K π n H (lO vs ws) (nU ds es):=by
 induction a with
 | nil=>exact fun h=>h
 | cons h t c=>exact fun b=>c (b.put h _)
theorem IsKs.val {vs:List (aI×V)}{ds:List (aI×D)}(h:IsKs K π n H vs ds)(k:aI):(fR ds k=none/\d5 vs k=none)\/∃ v d,fR ds k=some d/\d5 vs k=some v/\IsD K π n H v d:=by
 induction h with
 | nil=>exact .inl ⟨rfl,rfl⟩
 | @cons a c b vs ds h t l=>
  by_cases e:a=k
  ·exact .inr ⟨c,b,by simp [fR,UJ,e],by simp [d5,UJ,e],h⟩
  ·have i:fR ((a,b)::ds) k=fR ds k:=by simp [fR,UJ,e]
   have j:d5 ((a,c)::vs) k=d5 vs k:=by simp [d5,UJ,e]
   rw [i,j]
   exact l
theorem IsKs.length {vs:List (aI×V)}{ds:List (aI×D)}(h:IsKs K π n H vs ds):vs.length=ds.length:=by
 induction h with
 | nil=>rfl
 | cons h t a=>rw [Tw,Tw,a]
theorem Ce {y:V}{d:D}{k:aI}(h:IsD K π n H y d)(e:kT d=some k):y=kV k:=by
 cases h<;>first|cases e;done|(cases e;rfl)
end
noncomputable def lY:List (ME×ME)->aG->Hm->Option (List (aI×D)×Hm)
 | [],_,μ=>some ([],μ)
 | (k,v)::r,ρ,μ=>(k ρ μ).bind fun p=>(v ρ p.2).bind fun q=>(kT p.1).bind fun a=>(lY r ρ q.2).map fun t=>((a,q.1)::t.1,t.2)
noncomputable def jU (b:List (ME×ME)):ME:=fun c a=>(lY b c (a++[.dK []])).bind fun p=>match p.2[a.length]? with
 | some (.dK [])=>if p.1.length<=15 then some (.loc a.length,p.2.set a.length (.dK (nU [] p.1))) else none
 | _=>none
noncomputable def nV (K:SV)(a:List (ME×ME)):List (TE×TE):=a.map fun p=>(tM K p.1,tM K p.2)
theorem Cf {K:SV}:∀ (h:List (ME×ME)){π:Nat->Addr}{e:aG}{c a:Hm}{H:Hp}{σ:St}{kvs:List (aI×D)}{Q:List (V×V)->Hp->Prop},Rp K π H c->En K π c.length H σ e->lY h e c=some (kvs,a)->
  (∀ d j l,Ext π c.length H d a.length j->Rp K d j a->IsKs K d a.length j l kvs->Q (l.map fun u=>(kV u.1,u.2)) j)->sI (nV K h) σ H Q
 | [],π,e,c,a,H,σ,kvs,Q,R,E,b,k=>by
  cases b
  exact k π H [] .refl R .nil
 | (mk,mv)::r,π,e,c,a,H,σ,kvs,Q,R,E,b,k=>by
  obtain ⟨⟨x,i⟩,A,b⟩:=SS.mp b
  obtain ⟨⟨y,n⟩,B,b⟩:=SS.mp b
  obtain ⟨O,G,b⟩:=SS.mp b
  obtain ⟨⟨ts,U⟩,I,b⟩:=SY.mp b
  cases b
  refine ⟨π,e,c,x,i,R,E,A,fun o v1 Y m w L=>⟨o,e,i,y,n,w,E.mono m,B,fun X T Z q R2 M=>?_⟩⟩
  refine Cf r R2 ((E.mono m).mono q) I fun p v l s z N=>?_
  have:=Ce L G
  subst this
  exact k p v ((O,T)::l) ((m.trans q).trans s) z (.cons (M.mono s) N)
section
variable {X:Cx}{a b c:Expr}{ma mb mc:ME}{pos:Va}
theorem KG:jM X pos [] [] (nV X.K []):=Ij
theorem KH {k v:Expr}{mk e:ME}{ks:List (Option Expr)}{vs:List Expr}{d:List (ME×ME)}(h:PE X k (tM X.K mk))(j:PE X v (tM X.K e))(i:jM X pos ks vs (nV X.K d)):jM X pos (some k::ks) (v::vs) (nV X.K ((mk,e)::d)):=Ik h j i
theorem KI {keys:List (Option Expr)}{e:List Expr}{j:List (ME×ME)}(h:jM X pos keys e (nV X.K j))(l:keys.all (·.isSome)=true)(T:keys.length=e.length)(M:keys≠[])
  (s:keys.length<=15):PE X (.Dict keys e pos) (tM X.K (jU j)):=cL (Im h l T M s) (by
 rintro σ H Q ⟨π,ρ,q,d,Z,R,E,i,k⟩ p U
 obtain ⟨⟨v,w⟩,N,i⟩:=SS.mp i
 split at i
 ·rename_i hc
  split at i
  ·rename_i m
   cases i
   obtain ⟨y,L,Y⟩:=R.alloc (c:=.dK []) (o:=.dK []) U ⟨rfl,.nil⟩
   refine Cf j L (E.mono y) N fun r H2 I A R2 G=>?_
   have n:q.length<w.length:=(S2.mp hc).1
   have o:r q.length=p:=by rw [A.pi q.length (by simp),Y]
   obtain ⟨K,u,O,h5⟩:=R2.dK q.length [] hc
   have hw:K=[]:=by
    cases K with
    | nil=>rfl
    | cons z zs=>cases O
   subst hw
   obtain ⟨B,x⟩:=R2.put (a:=q.length) (c:=.dK (nU [] v)) (o:=.dK (lO [] I)) n u (.inr (.inl ⟨_,rfl⟩)) (IsKs.maps (G.merge .nil))
   rw [o] at u B x
   refine ⟨u,I,rfl,by rw [G.length];exact m,k r _ _ ((y.trans A).trans B) x ?_⟩
   rw [<- o]
   exact .loc (by rw [VG];exact n)
  ·cases i
 ·cases i)
noncomputable def qA:D->D->Hm->Option (D×Hm)
 | .loc a,y,μ=>match μ[a]? with
  | some (.dK kvs)=>(kT y).bind fun k=>(fR kvs k).map fun d=>(d,μ)
  | _=>none
 | _,_,_=>none
theorem KJ {K:SV}{π:Nat->Addr}{i:Hm}{H:Hp}{a:Nat}{kvs:List (aI×D)}(R:Rp K π H i)(h:i[a]? = some (.dK kvs)){y:V}{m:D}{k:aI}(r:IsD K π i.length H y m)(q:kT m=some k) :
  (fR kvs k=none/\DGet H (π a) y none)\/∃ v d,fR kvs k=some d/\DGet H (π a) y (some v)/\IsD K π i.length H v d:=by
 obtain ⟨u,n,o,p⟩:=R.dK a kvs h
 have e:=Ce r q
 subst e
 have g:=DGet.k (k:=k) n
 rcases (IsKs.of o p).val k with ⟨j,l⟩|⟨v,d,j,l,s⟩
 ·exact .inl ⟨j,by rw [<- l];exact g⟩
 ·exact .inr ⟨v,d,j,by rw [<- l];exact g,s⟩
theorem KL (p:X.A.units+1<Vf)(m:PE X a (tM X.K ma))(n:PE X b (tM X.K mb))(o:sH b):PE X (.Subscript a b pos) (tM X.K (aB qA ma mb)):=cL (Ih p m n o) (by
 intro B H Q h
 refine nH (r:=fun x y H Q=>∃ a v,x=.ref a/\DGet H a y (some v)/\Q v H) ?_ B H Q h
 intro A H M x y d z K L Q R q r e k
 unfold qA at e
 split at e
 ·split at e
  ·rename_i s hc
   obtain ⟨I,l,e⟩:=SS.mp e
   obtain ⟨E,i,e⟩:=SY.mp e
   cases e
   cases q
   rcases KJ R hc r l with ⟨j,_⟩|⟨v,G,j,u,w⟩
   ·rw [j] at i;cases i
   ·rw [j] at i
    cases i
    exact ⟨_,v,rfl,u,k A _ H .refl R w⟩
  ·cases e
 ·cases e)
end
theorem gF {k:Nat}{A:TJ}(r:Room k A):A.units+1<Vf:=by have:=r.un;omega
noncomputable def qB (a:ME):ME:=fun c b=>(a c b).bind fun p=>(wO p.1).map fun d=>(d,p.2)
end L3
namespace L3
open PySem L2
noncomputable def fS (cells:List (Str×Addr)):List (Str×V7)->List (Str×Addr)->List (Str×Addr)
 | [],acc=>acc
 | (n,k)::r,acc=>if k=.free then (match cells.lookup n with|some c=>fS cells r ((n,c)::acc)|none=>fS cells r acc) else fS cells r acc
theorem Cg {env:XN}:∀ (names:List (Str×V7))(a:List (Str×Addr)),(∀ y∈names,y.2=.free->∃ c,env.cells.lookup y.1=some c)->
  (forIn names a fun (x:Str×V7)(d:List (Str×Addr))=>(do
   if x.2 == .free then (do let c <- cellOf env x.1;pure (Wr ((x.1,c)::d))) else pure (Wr d):a1i (ForInStep (List (Str×Addr)))))=pure (fS env.cells names a)
 | [],a,_=>rfl
 | (n,k)::r,a,h=>by
  have i:=fun a=>Cg r a fun y j=>h y (Tu _ j)
  rw [List.forIn_cons]
  by_cases b:k=.free
  ·subst b
   obtain ⟨c,hc⟩:=h (n,.free) (TC ..) rfl
   dsimp only at hc
   have e:cellOf env n=pure c:=by unfold cellOf;rw [hc]
   simp only [fS,hc,e,beq_self_eq_true,if_true,pure_bind]
   exact i _
  ·have e:(k == VJ)=false:=by simpa using b
   simp only [fS,e,b,if_false,S6,pure_bind]
   exact i _
theorem KN {scope:V1}{env:XN}(h:∀ y∈scope.names,y.2=.free->∃ c,env.cells.lookup y.1=some c):a2e scope env=pure (fS env.cells scope.names []):=by
 have:=Cg (env:=env) scope.names [] h
 unfold a2e
 simp only [bind_pure] at *
 exact this
theorem sR {cells:List (Str×Addr)}:∀ (names:List (Str×V7))(a:List (Str×Addr)),(∀ y c,a.lookup y=some c->cells.lookup y=some c)->∀ y c,(fS cells names a).lookup y=some c->cells.lookup y=some c
 | [],a,h=>h
 | (n,k)::r,a,h=>by
  unfold fS
  split
  ·split
   ·rename_i d hc
    refine sR r _ fun y c e=>?_
    rw [WX] at e
    by_cases b:y=n
    ·subst b
     simp only [beq_self_eq_true] at e
     cases e
     exact hc
    ·have:(y == n)=false:=by simpa using b
     rw [this] at e
     exact h y c e
   ·exact sR r a h
  ·exact sR r a h
theorem sS {cells:List (Str×Addr)}:∀ (names:List (Str×V7))(a:List (Str×Addr))(y:Str),(∃ c,a.lookup y=some c)->∃ c,(fS cells names a).lookup y=some c
 | [],a,y,h=>h
 | (n,k)::r,a,y,h=>by
  unfold fS
  split
  ·split
   ·refine sS r _ y ?_
    rw [WX]
    by_cases b:(y == n)=true
    ·rw [b];exact ⟨_,rfl⟩
    ·have:(y == n)=false:=by simpa using b
     rw [this]
     exact h
   ·exact sS r a y h
  ·exact sS r a y h
theorem sT {cells:List (Str×Addr)}:∀ (names:List (Str×V7))(a:List (Str×Addr))(y:Str),(y,VJ)∈names->(∃ c,cells.lookup y=some c)->∃ c,(fS cells names a).lookup y=some c
 | [],a,y,h,_=>by cases h
 | (n,k)::r,a,y,h,hc=>by
  unfold fS
  rcases TN.mp h with h|h
  ·cases h
   obtain ⟨c,hc⟩:=hc
   rw [if_pos rfl,hc]
   exact sS r _ _ ⟨c,by simp [WX]⟩
  ·split
   ·split
    ·exact sT r _ y h hc
    ·exact sT r _ y h hc
   ·exact sT r _ y h hc
structure CompSt (osc:V1)(N:List Str)(scope:V1)(xs:List Str):Prop where
 nocell:∀ y∈scope.names,y.2≠.cell
 kind:scope.kind=.function
 names:∀ y∈scope.names,y.2=.local->scope.names.lookup y.1=some .local
 here:∀ x∈xs,scope.names.lookup x=some .local
 free:∀ y∈scope.names,y.2=.free->osc.names.lookup y.1=some .cell\/osc.names.lookup y.1=some .free
 own:∀ y∈scope.names,y.2=.local->y.1∉bC xs N
 nd:N.Nodup
 hnd:(bC xs N).Nodup
 hidn:∀ y∈N,xs.contains y=true->scope.names.lookup (nQ y)=none
theorem CompSt.ok {X:Cx}{scope:V1}{xs:List Str}(S:CompSt X.env.scope X.N scope xs)(ok:X.Ok):CompOk X scope (fS X.env.cells scope.names []) xs:=by
 have has:∀ y∈scope.names,y.2=.free->∃ c,X.env.cells.lookup y.1=some c:=fun y d b=>ok.has y.1 (S.free y d b)
 refine ⟨KN has,S.nocell,S.kind,S.names,S.here,sR scope.names [] (fun y c e=>by cases e),fun y e=>?_,fun y e=>?_,S.hidn⟩
 ·have a:=UQ e
  exact ⟨S.free _ a rfl,sT scope.names [] y a (has _ a rfl)⟩
 ·exact S.own _ (UQ e) rfl
end L3
namespace L3
open PySem L2
section
variable {X:Cx}{pos:Va}
end
end L3
namespace L3
open PySem L2
noncomputable def cN (e:Expr):Bool:=!(e.ctorIdx == 22)
theorem d9 {e:Expr}{es:List Expr}{env:XN}(h:cN e=true):T5 (e::es) env=(false,eval e env)::T5 es env:=by
 cases e<;>first|rfl|cases h
theorem iC {pos:Va}{env:XN}:∀ {es:List Expr},es.all cN=true->(V0 pos (T5 es env)).any (·.1)=false
 | [],_=>rfl
 | e::es,h=>by
  rw [Ul,SW] at h
  rw [d9 h.1]
  have:=iC (pos:=pos) (env:=env) h.2
  simpa [V0] using this
theorem sU {e:Expr}{es:List Expr}{env:XN}(h:cN e=true):VN (e::es) env=(false,Y7 e env)::VN es env:=by
 cases e<;>first|rfl|cases h
theorem Ci {env:XN}:∀ {es:List Expr},es.all cN=true->(VN es env).length=es.length
 | [],_=>rfl
 | e::es,h=>by
  rw [Ul,SW] at h
  rw [sU h.1,Tw,Tw,Ci h.2]
theorem Cj {env:XN}:∀ {es:List Expr},es.all cN=true->(VN es env).findIdx? (·.1)=none
 | [],_=>rfl
 | e::es,h=>by
  rw [Ul,SW] at h
  rw [sU h.1,List.findIdx?_cons,Cj h.2]
  rfl
section
variable {X:Cx}{e a b c:Expr}{es:List Expr}{m:ME}{ms:MA}{pos:Va}
end
end L3
namespace L3
open PySem L2
structure QE (X:Cx)(e:Expr)(m:ME):Prop where
 h:PE X e (tM X.K m)
structure QT (X:Cx)(e:Expr)(m:MT):Prop where
 h:PT X e (cV X.K m)
structure QW (X:Cx)(e:Expr)(m:MT):Prop where
 h:PW X e (cV X.K m)
structure QA (X:Cx)(es:List Expr)(m:MA)(n:Nat):Prop where
 h:PA X es (eC X.K m)
 l:∀ ρ μ ds μ',m ρ μ=some (ds,μ')->ds.length=n
 s:es.all cN=true
structure QO (X:Cx)(e:Option Expr)(m:MO):Prop where
 h:PO X e (pV X.K m)
structure QS (X:Cx)(st:Stmt)(m:MS):Prop where
 h:PS X st (cZ X.K m)
structure QB (X:Cx)(st:List Stmt)(m:MS):Prop where
 h:PSs X st (cZ X.K m)
structure QG (X:Cx)(e:Expr)(g:MG):Prop where
 h:PG X e (fQ X.K g)
structure QGs (X:Cx)(es:List Expr)(is:List Nat):Prop where
 h:pN X es (sP is)
 n:es.length=is.length
 s:es.all cN=true
structure QI (X:Cx)(ifs:List Expr)(m:MT):Prop where
 h:lW X ifs m
structure QP (X:Cx)(pos:Va)(keys:List (Option Expr))(values:List Expr)(prs:List (ME×ME)):Prop where
 h:jM X pos keys values (nV X.K prs)
 a:keys.all (·.isSome)=true
 l:keys.length=values.length
section
variable {X:Cx}{e a b c:Expr}{m ma mb mc:ME}{pos:Va}{mt mu:MT}{rest es:List Expr}{ms:MA}{n:Nat}
theorem Ck {x:Str}(i:Nat)(h:X.N[i]? = some x:=by rfl)(j:m9 X.env.scope x:=by first|exact a1B rfl|exact a0t (a1B rfl)|exact a0t (a0t rfl))(hd:(x == ("__debug__":Str))=false:=by decide)
  (d:(x == ("__classdict__":Str))=false:=by decide):QE X (.Name x pos) (aA i):=⟨Jo i (GC h j hd d)⟩
theorem KO {i:Int}{j:Nat}:QE X (.Constant (.int i) j pos) (mC (.int i)):=⟨Jp⟩
theorem Cm {i:Bool}{j:Nat}:QE X (.Constant (.bool i) j pos) (mC (.bl i)):=⟨Jq⟩
theorem KP {i:Str}{j:Nat}:QE X (.Constant (.str i) j pos) (mC (.str i)):=⟨Jr⟩
theorem KQ {j:Nat}:QE X (.Constant .none j pos) (mC .non):=⟨Js⟩
theorem qC {op:a0i}{r:R2}{f:D->D->Hm->Option (D×Hm)}(j:OpR X (WH op) r)(i:cR X.K f r)(d:QE X a ma)(h:QE X b mb):QE X (.BinOp a op b pos) (aB f ma mb):=⟨Jt j i d.h h.h⟩
theorem KR (d:QE X a ma)(h:QE X b mb):QE X (.BinOp a .Add b pos) (aB bM ma mb):=qC Ki Kj d h
theorem KS (d:QE X a ma)(h:QE X b mb):QE X (.BinOp a .Sub b pos) (aB lU ma mb):=qC HD Kc d h
theorem KU (d:QE X a ma)(h:QE X b mb):QE X (.BinOp a .Mult b pos) (aB cM ma mb):=qC Ka Ke d h
theorem KW (d:QE X a ma)(h:QE X b mb):QE X (.BinOp a .FloorDiv b pos) (aB cJ ma mb):=qC Kb Kf d h
theorem KY (d:QE X a ma)(h:QE X b mb):QE X (.BinOp a .Mod b pos) (aB bI ma mb):=qC HE Kg d h
theorem KZ (d:QE X a ma):QE X (.UnaryOp .USub a pos) (qB ma):=⟨Kk d.h⟩
theorem Cn (d:QE X a ma):QE X (.UnaryOp .Not a pos) (jP ma):=⟨JD d.h⟩
theorem K0 {k:Nat}(i:Room k X.A)(d:QE X a ma)(h:QE X b mb):QE X (.Compare a [.Eq] [b] pos) (aB (aX false) ma mb):=⟨eS (B2 (sO i)) sN d.h h.h (dM _)⟩
theorem K1 {k:Nat}(i:Room k X.A)(d:QE X a ma)(h:QE X b mb):QE X (.Compare a [.NotEq] [b] pos) (aB (aX true) ma mb):=⟨eS (B3 (sO i)) sN d.h h.h (dM _)⟩
theorem K2 (d:QE X a ma)(h:QE X b mb):QE X (.Compare a [.Lt] [b] pos) (aB dA ma mb):=⟨eS vO gT d.h h.h (dM _)⟩
theorem K3 (d:QE X a ma)(h:QE X b mb):QE X (.Compare a [.LtE] [b] pos) (aB nO ma mb):=⟨eS vP gT d.h h.h (dM _)⟩
theorem K4 (d:QE X a ma)(h:QE X b mb):QE X (.Compare a [.Gt] [b] pos) (aB nP ma mb):=⟨eS vQ gT d.h h.h (dM _)⟩
theorem K5 (d:QE X a ma)(h:QE X b mb):QE X (.Compare a [.GtE] [b] pos) (aB wV ma mb):=⟨eS vT gT d.h h.h (dM _)⟩
noncomputable def fB (e:Expr):Bool:=!(e.ctorIdx == 7)
theorem gU {op:Xc}{b:Expr}(h:fB b=true):Wj op b=false:=by
 cases b<;>first|rfl|cases h
theorem K6 {op:BoolOp}(h:QE X a m):QE X (.BoolOp op [a] pos) m:=⟨JA h.h⟩
theorem K7 (d:QE X a ma)(h:QE X (.BoolOp .And (b::rest) pos) mb):QE X (.BoolOp .And (a::b::rest) pos) (f9 ma mb):=⟨JB d.h h.h⟩
theorem K8 (d:QE X a ma)(h:QE X (.BoolOp .Or (b::rest) pos) mb):QE X (.BoolOp .Or (a::b::rest) pos) (wH ma mb):=⟨JC d.h h.h⟩
theorem K9 (hc:QT X c mt)(d:QE X a ma)(h:QE X b mb):QE X (.IfExp c a b pos) (iV mt ma mb):=⟨JE hc.h d.h h.h⟩
theorem La:QA X [] aD 0:=⟨JF,JK,rfl⟩
theorem Lb (i:QE X e m)(d:QA X es ms n)(h:cN e=true:=by rfl):QA X (e::es) (aC m ms) (n+1):=⟨JG i.h d.h (d9 h),JL d.l,by rw [Ul,h,d.s];rfl⟩
theorem Lc {x1:Nat}(h:QA X es ms n):QE X (.Tuple es x1 pos) (eE ms):=⟨JI h.h⟩
theorem Ld (h:QA X es ms n):QE X (.List es pos) (dG ms):=⟨JJ h.h⟩
noncomputable def lZ (e:Expr):Bool:=!(e.ctorIdx == 26)
theorem w6 {b:Expr}(h:lZ b=true):wA b:=by
 intro o i
 cases b<;>first|rfl|cases h
theorem Le (d:QE X a ma)(i:QE X b mb)(h:lZ b=true:=by rfl):QE X (.Subscript a b pos) (aB gC ma mb):=⟨JQ d.h i.h (w6 h)⟩
theorem Lf {k:Nat}(j:Room k X.A)(d:QE X a ma)(i:QE X b mb)(h:lZ b=true:=by rfl):QE X (.Subscript a b pos) (aB qA ma mb):=⟨KL (gF j) d.h i.h (w6 h)⟩
theorem Lg:QO X none dX:=⟨JR⟩
theorem Lh (h:QE X e m):QO X (some e) (c9 m):=⟨JS h.h⟩
theorem Li {lo d:Option Expr}{i h:MO}{p:Va}(j:QE X a ma)(l:QO X lo i)(o:QO X d h):QE X (.Subscript a (.Slice lo d none p) pos) (cI ma i h):=⟨JX j.h l.h o.h⟩
theorem Lj {k:Nat}{f:Addr}{j:U1}{ps:List Str}{l:MF}{x:Str}{p:Va}(F:FnOk X.prog X.w X.K X.mg X.base d7 k f j ps (e8 X.K n l))(u:Room k X.A)(s:X.mg x=some (.ref f))
  (r:UR X.K (.ref f)=true)(o:Binds X.K j ps [])(d:QA X (e::es) ms n)(q:Gl X x:=by rfl)(h:(x == ("__debug__":Str))=false:=by decide):QE X (.Call (.Name x p) (e::es) [] pos) (aK l ms):=by
 have i:=d.s
 rw [Ul,SW] at i
 exact ⟨JM F u q s r o d.h d.l h (d9 i.1) (iC i.2)⟩
theorem Lk {f:MF}{r:List V->Hp->VK->Prop}{id:String}{x:Str}{p:Va}(hc:CallR X (.builtin id) r)(j:gP X.K f r)(o:X.mg x=none)(s:U9 x=some (.builtin id))(i:QA X (e::es) ms n)
  (l:Gl X x:=by rfl)(q:x ≠ "__name__":=by decide) (d:(x == ("__debug__":Str))=false:=by decide):QE X (.Call (.Name x p) (e::es) [] pos) (aK f ms):=by
 have h:=i.s
 rw [Ul,SW] at h
 exact ⟨JN hc j l o s i.h q d (d9 h.1) (iC h.2)⟩
theorem Ll {f:MF}{r:List V->Hp->VK->Prop}{T:String}{x:Str}{p:Va}(hc:CallR X (.type T) r)(j:gP X.K f r)(o:X.mg x=none)(s:U9 x=some (.type T))(i:QA X (e::es) ms n)
  (l:Gl X x:=by rfl)(q:x ≠ "__name__":=by decide) (d:(x == ("__debug__":Str))=false:=by decide):QE X (.Call (.Name x p) (e::es) [] pos) (aK f ms):=by
 have h:=i.s
 rw [Ul,SW] at h
 exact ⟨JO hc j l o s i.h q d (d9 h.1) (iC h.2)⟩
theorem Lm {x:Str}{n:String}(h:X.mg x=none)(j:U9 x=some (.type n))(d:Gl X x:=by rfl)(i:x ≠ "__name__":=by decide) (hd:(x == ("__debug__":Str))=false:=by decide):QE X (.Name x pos) (mC (.ty n)):=⟨Kl d h j i hd⟩
theorem Ln:QP X pos [] [] []:=⟨KG,rfl,rfl⟩
theorem Lo {k v:Expr}{mk i:ME}{ks:List (Option Expr)}{vs:List Expr}{d:List (ME×ME)}(j:QE X k mk)(l:QE X v i)(h:QP X pos ks vs d):QP X pos (some k::ks) (v::vs) ((mk,i)::d):=
 ⟨KH j.h l.h h.h,by rw [Ul,h.a];rfl,by rw [Tw,Tw,h.l]⟩
theorem Lp {k:Option Expr}{keys:List (Option Expr)}{d:List Expr}{i:List (ME×ME)}(h:QP X pos (k::keys) d i)(j:(k::keys).length<=15:=by decide):QE X (.Dict (k::keys) d pos) (jU i):=⟨KI h.h h.a h.l (by simp) j⟩
theorem Lq {k:Nat}(i:Room k X.A)(d:QE X a ma)(h:QE X b mb):QT X (.Compare a [.Eq] [b] pos) (aO (aB (aX false) ma mb)):=⟨eU (B2 (sO i)) sN d.h h.h (dM _)⟩
theorem Lr {k:Nat}(i:Room k X.A)(d:QE X a ma)(h:QE X b mb):QT X (.Compare a [.NotEq] [b] pos) (aO (aB (aX true) ma mb)):=⟨eU (B3 (sO i)) sN d.h h.h (dM _)⟩
theorem Ls (d:QE X a ma)(h:QE X b mb):QT X (.Compare a [.Lt] [b] pos) (aO (aB dA ma mb)):=⟨eU vO gT d.h h.h (dM _)⟩
theorem Lu (d:QE X a ma)(h:QE X b mb):QT X (.Compare a [.LtE] [b] pos) (aO (aB nO ma mb)):=⟨eU vP gT d.h h.h (dM _)⟩
theorem Lv (d:QE X a ma)(h:QE X b mb):QT X (.Compare a [.Gt] [b] pos) (aO (aB nP ma mb)):=⟨eU vQ gT d.h h.h (dM _)⟩
theorem Lx (d:QE X a ma)(h:QE X b mb):QT X (.Compare a [.GtE] [b] pos) (aO (aB wV ma mb)):=⟨eU vT gT d.h h.h (dM _)⟩
noncomputable def qD:Expr->Bool
 | .UnaryOp .Not ..=>false
 | .BoolOp ..=>false
 | .IfExp ..=>false
 | .Compare ..=>false
 | _=>true
theorem Co {e:Expr}{env:XN}(h:qD e=true):∀ d,ZK e env d=(do let v <- d;a2q e.pos;holding [v] (truthy v)):=by
 intro d
 cases e<;>first|rfl|cases h|skip
 rename_i i x p
 cases i<;>first|rfl|cases h
theorem Ly (h:QE X e m)(d:qD e=true:=by rfl):QT X e (aO m):=⟨Ju h.h (Co d)⟩
theorem Lz (d:QT X a mt):QT X (.UnaryOp .Not a pos) (dC mt):=⟨Jz d.h⟩
theorem LA (d:QT X a mt):QW X (.BoolOp .And [a] pos) mt:=⟨Jv d.h⟩
theorem LB (d:QT X a mt):QW X (.BoolOp .Or [a] pos) mt:=⟨Jw d.h⟩
theorem LC (d:QT X a mt)(h:QW X (.BoolOp .And (b::rest) pos) mu):QW X (.BoolOp .And (a::b::rest) pos) (dF mt mu):=⟨Jx d.h h.h⟩
theorem LD (d:QT X a mt)(h:QW X (.BoolOp .Or (b::rest) pos) mu):QW X (.BoolOp .Or (a::b::rest) pos) (eD mt mu):=⟨Jy d.h h.h⟩
theorem LF (h:QW X e mt):QT X e mt:=⟨h.h.pt⟩
theorem LG:QI X [] eV:=⟨Ks⟩
theorem LH (h:QT X c mt):QI X [c] mt:=⟨Kt h.h⟩
end
section
variable {X:Cx}{e a b c:Expr}{m:ME}{pos:Va}{mt:MT}{st:Stmt}{rest body orelse:List Stmt}{ms mr mu:MS}{n:Nat}{is:List Nat}{es:List Expr}{g:MG}
theorem LI:QB X [] a8:=⟨JY⟩
theorem LJ (h1:QS X st ms)(d:QB X rest mr):QB X (st::rest) (aR ms mr):=⟨JZ h1.h d.h⟩
theorem LK (h1:QS X st ms):QB X [st] ms:=⟨J0 h1.h⟩
theorem LL:QS X (.Pass pos) a8:=⟨J1⟩
theorem Cp (d:QE X e m):QS X (.Return (some e) pos) (aV m):=⟨J2 d.h⟩
noncomputable def eG (e:Expr):Bool:=!(e.ctorIdx == 8||e.ctorIdx == 9||e.ctorIdx == 10)
theorem qE {e:Expr}{t:Option Expr}{n:Nat}{env:XN}(h:eG e=true):XM e t n env=pure false:=by
 cases e<;>first|rfl|cases h
theorem LM (d:QE X e m)(h:eG e=true:=by rfl):QS X (.Expr e pos) (gQ m):=⟨J3 d.h (qE h)⟩
theorem Cq (hc:QT X c mt)(d:QB X body ms)(h:QB X orelse mu):QS X (.If c body orelse pos) (a9 mt ms mu):=⟨J4 hc.h d.h h.h⟩
theorem Cr (i:Nat){x:Str}{d:Va}(j:X.N.Nodup)(l:QE X e m)(h:eG e=true:=by rfl)(p:X.N[i]? = some x:=by rfl)(q:Loc X.env.scope x:=by first|exact a1B rfl|exact a0t rfl)
  (o:X.fn x=true\/X.env.scope.names.lookup x=some .local:=by first|exact .inl rfl|exact .inr rfl):QS X (.Assign [.Name x d] e pos) (aW i m):=⟨BQ j p q l.h (qE h) o⟩
theorem LN (i:Nat){x:Str}(d:X.N.Nodup)(j:X.N[i]? = some x:=by rfl)(l:Loc X.env.scope x:=by first|exact a1B rfl|exact a0t rfl)
  (h:X.fn x=true\/X.env.scope.names.lookup x=some .local:=by first|exact .inl rfl|exact .inr rfl):QG X (.Name x pos) (eF i):=⟨B5 d j l h⟩
theorem Ct:QGs X [] []:=⟨Hj,rfl,rfl⟩
theorem Cu (i:Nat){x:Str}(h:X.N.Nodup)(d:QGs X es is)(l:X.N[i]? = some x:=by rfl)(o:Loc X.env.scope x:=by first|exact a1B rfl|exact a0t rfl)
  (j:X.fn x=true\/X.env.scope.names.lookup x=some .local:=by first|exact .inl rfl|exact .inr rfl):QGs X (.Name x pos::es) (i::is):=
 ⟨Hk (AH h l o j) d.h (by rw [sU (e:=.Name x pos) rfl];rfl),by rw [Tw,Tw,d.n],by rw [Ul,d.s];rfl⟩
theorem w8 {k:Nat}(h:QGs X es is)(hc:X.calm=true:=by rfl):QG X (.Tuple es k pos) (nS is):=⟨Kw hc h.h ((Ci h.s).trans h.n) (Cj h.s)⟩
noncomputable def w9 (e:Expr):Bool:=!(e.ctorIdx == 25)
theorem LO {es:List Expr}{k:Nat}{pt:Va}{e:Expr}{env:XN}(h:w9 e=true):a0B [.Tuple es k pt] e env=pure none:=by
 cases e<;>first|rfl|cases h
theorem LP {k:Nat}{pt:Va}(d:QE X e m)(i:QG X (.Tuple es k pt) g)(h:w9 e=true:=by rfl):QS X (.Assign [.Tuple es k pt] e pos) (wZ m g):=
 ⟨Ky d.h i.h (by cases e<;>rfl) (LO h) (by rw [sU (e:=.Tuple es k pt) rfl];rfl)⟩
end
section
variable {P:Tt}{w:TV}{K:SV}{mg:Str->Option Value}{base:Uw}
theorem LQ {x a:Str}{st:Stmt}{f:Addr}{h:U1}{N ps:List Str}{k:Nat}{body:List Stmt}{m:MS}(F:Fun K x a st f h)(S:FnScope N ps (bF st))(e:ps.length<=N.length)(d:cH st=body)
  (c:∀ (b:Value)(A:TJ)(outer:List XN)(s:SX)(H:Hp)(E:XK),Room k (A.deeper (WN a (bF st) s.heap.objs.size f b))->
   QB (d4 d7 P w K mg base N a (bF st) f b A outer s H E).nox body m):FnOk P w K mg base d7 (k+1) f h ps (e8 K ps.length (pX N.length m)):=
 J5 F S e fun b A outer s H E i=>by
  rw [d]
  exact (c b A outer s H E i).h
end
end L3
namespace L3
open PySem L2
noncomputable abbrev l7:=Hm->Nat->Option (Option D)
noncomputable abbrev MI:=aG->Hm->Option (l7×Nat×Hm)
noncomputable def iX (K:SV)(m:MI):TI:=fun σ H R=>∃ π h e c n a,Rp K π H e/\En K π e.length H σ h/\m h e=some (c,n,a) /\
 ∀ b d J,Ext π e.length H b a.length d->Rp K b d a->Wk K J c b a.length d->R J d
structure QJ (X:Cx)(e:Expr)(m:MI):Prop where
 h:∀ tg,PI X tg e (iX X.K m)
section
variable {X:Cx}{pos:Va}{e:Expr}{m:ME}
noncomputable def xA:MI:=fun _ _=>none
theorem j_bad:QJ X e xA:=⟨fun tg a3A s σ H R I hw=>by
 obtain ⟨i,j,h,b,n,c,d,E,a,k⟩:=hw
 cases a⟩
noncomputable def iY (a:Hm):D->Option (List D)
 | d=>bQ a d
noncomputable def gG (x:D):l7:=fun a i=>(iY a x).map fun xs=>xs[i]?
noncomputable def dN (m:ME):MI:=fun b a=>(m b a).bind fun p=>(iY p.2 p.1).map fun xs=>(gG p.1,xs.length+1,p.2)
theorem LR (h:QE X e m):QJ X e (dN m):=⟨fun tg a3A s σ H R I hw=>by
 obtain ⟨N,O,L,G,n,M,w,E,b,k⟩:=hw
 obtain ⟨⟨x,l⟩,y,b⟩:=SS.mp b
 obtain ⟨K,z,b⟩:=SY.mp b
 cases b
 have i:∀ (r:bQ l x=some K)(u:gG x=jS x),TK (TH X.prog X.w) X.A (eval e X.env) (fun v B=>TK (TH X.prog X.w) X.A (a1e v) (Ho X a3A σ tg R) X.xe B) X.xe s:=fun r u=>by
  refine Kn h.h a3A s σ H R I ⟨N,O,L,x,_,w,E,y,fun c Q o p d A=>?_⟩
  obtain ⟨a,e,q⟩:=Ko d A r
  subst e
  refine ⟨a,rfl,?_⟩
  dsimp only at k
  rw [u] at k
  rcases q with ⟨j,W⟩|⟨j,W⟩
  ·exact .inl ⟨j,k c o _ p d W⟩
  ·exact .inr ⟨j,k c o _ p d W⟩
 cases x with
 | _=>exact i z rfl⟩
noncomputable def iD (a:MA):MI:=fun c b=>(a c b).bind fun p=>match p.1 with
 | [.int j]=>if -(2 ^ 62)<=j/\j<2 ^ 62 then some (gE 0 j.toNat,j.toNat+1,p.2) else none
 | _=>none
theorem LS {a:Expr}{u:MA}{n:Nat}{p:Va}(c:Gl X "range") (d:X.mg "range" = none) (o:QA X [a] u n):QJ X (.Call (.Name "range" p) [a] [] pos) (iD u):=⟨fun tg a3A s σ H R I hw=>by
 have r:=o.s
 rw [Ul,SW] at r
 obtain ⟨M,N,K,B,O,L,y,E,b,k⟩:=hw
 obtain ⟨⟨x,i⟩,A,b⟩:=SS.mp b
 refine Hu c d o.h (d9 r.1) a3A s σ H R I ⟨M,N,K,x,i,y,E,A,fun l Q v z w h=>?_⟩
 dsimp only at b
 split at b
 ·rename_i j
  split at b
  ·rename_i q
   cases b
   cases h with
   | cons h G=>
    cases h
    cases G
    exact ⟨j,rfl,q.1,q.2,k l v _ z w B6⟩
  ·cases b
 ·cases b⟩
noncomputable def jV (a:MA):MI:=fun c b=>(a c b).bind fun p=>match p.1 with
 | [.int i,.int j]=>if -(2 ^ 62)<=i/\i<2 ^ 62/\-(2 ^ 62)<=j/\j<2 ^ 62 then some (gE i (j - i).toNat,(j - i).toNat+1,p.2) else none
 | _=>none
theorem LU {a b:Expr}{v:MA}{n:Nat}{p:Va}(h:Gl X "range") (l:X.mg "range" = none) (u:QA X [a,b] v n):QJ X (.Call (.Name "range" p) [a,b] [] pos) (jV v):=⟨fun tg a3A s σ H R I hw=>by
 have d:=u.s
 rw [Ul,SW,Ul,SW] at d
 obtain ⟨T,U,O,L,Y,Q,z,E,c,k⟩:=hw
 obtain ⟨⟨x,q⟩,B,c⟩:=SS.mp c
 refine Hv h l u.h (by rw [d9 d.1,d9 d.2.1];rfl) (by rw [d9 d.2.1];rfl) a3A s σ H R I ⟨T,U,O,x,q,z,E,B,fun r Z w A y o=>?_⟩
 dsimp only at c
 split at c
 ·rename_i i j
  split at c
  ·rename_i G
   cases c
   cases o with
   | cons o M=>
    cases o
    cases M with
    | cons K N=>
     cases K
     cases N
     exact ⟨i,j,rfl,G,k r w _ A y B6⟩
  ·cases c
 ·cases c⟩
noncomputable def fT (c:MI)(g:MG)(b:MS):MS:=fun a d=>(c a d).bind fun p=>fA p.1 g b p.2.1 0 a p.2.2
end
noncomputable def l8 (d:BD)(h:MI)(c:MT)(e:ME):ME:=fun b i=>(h b i).bind fun p=>
 (jT p.1 d c e b p.2.2.length p.2.1 0 (p.2.2++[.lst []])).map fun a=>(.loc p.2.2.length,a)
noncomputable abbrev dH (a:MI)(c:MT)(e:ME):ME:=l8 pZ a c e
noncomputable def gB (n:Nat)(a:BD):MG:=fun d c b=>(a d b).map fun x=>c.take n++x
theorem LV {X:Cx}{n:Nat}{x:Str}{j:Va}(l:X.N.length=n+1)(h:PG X (.Name x j) (fQ X.K (eF n))):PG X (.Name x j) (fQ X.K (gB n pZ)):=by
 intro b s y H v u Q I r hw
 obtain ⟨q,a,p,d,w,R,E,hd,m,k⟩:=hw
 cases m
 refine h b s y H v u Q I r ⟨q,a,p,d,_,R,E,hd,rfl,fun c i=>k c ?_⟩
 have o:a.length=n+1:=by rw [<- E.len,I.len,l]
 have e:a.set n (some d)=a.take n++[some d]:=by
  rw [List.set_eq_take_append_cons_drop,if_pos (by omega),Vs (by omega)]
 rw [e] at i
 exact i
theorem Cv:∀ (xs:List D)(a b:aG),b.length=xs.length->lX (a++b) (XH a.length xs.length) xs=a++xs.map some
 | [],a,[],_=>by simp [lX]
 | x::xs,a,y::b,h=>by
  have c:=Cv xs (a++[some x]) b (by simpa using h)
  rw [Tw,Y4]
  show lX ((a++y::b).set a.length (some x)) (XH (a.length+1) xs.length) xs=_
  rw [Yc _ _ (Th _),WQ,S8]
  rw [Te,WW] at c
  rw [Ts,List.singleton_append] at c
  rw [c]
  simp
theorem LW {X:Cx}{n k:Nat}{tg:Expr}(w:X.N.length=n+k)(h:PG X tg (fQ X.K (nS (XH n k)))):PG X tg (fQ X.K (gB n (B8 k))):=by
 intro b s L H v u Q I r hw
 obtain ⟨G,a,B,d,K,R,E,hd,x,A⟩:=hw
 obtain ⟨y,o,p⟩:=SY.mp x
 obtain ⟨m,q,c⟩:=SS.mp o
 split at c
 ·rename_i l
  cases c
  subst p
  have z:a.length=n+k:=by rw [<- E.len,I.len,w]
  refine h b s L H v u Q I r ⟨G,a,B,d,lX a (XH n k) m,R,E,hd,(by simp only [nS,q,Uc,List.length_range',if_pos l]),fun i j=>A i ?_⟩
  have e:=Cv m (a.take n) (a.drop n) (by rw [Uh];omega)
  rw [Ua,TR,Xj (by omega),l] at e
  rw [e] at j
  exact j
 ·cases c
section
variable {X:Cx}{scope:V1}{cl:List (Str×Addr)}{xs:List Str}{tg elt iter:Expr}{ifs:List Expr}{pos ppos:Va}{mi:MI}{me:ME}{mc:MT}{bd:BD}
theorem LX {K:SV}{π:Nat->Addr}{n:Nat}{H:Hp}{σ:St}{b o:aG}{k:Nat}(E:En K π n H σ (b++o))(c:o.length=k):En K π n H σ (b++Vr k none):=by
 refine ⟨by rw [E.len,Te,Te,VU,c],fun i d q=>?_⟩
 by_cases a:i<b.length
 ·rw [Ti a] at q
  exact E.get i d (by rw [Ti a];exact q)
 ·rw [Tv (W4.mp a),V8] at q
  split at q<;>cases q
theorem Cw {q:Cx->Prop}(O:CompOk X scope cl xs)(hq:∀ a3A σ H s l,Inv X a3A σ H s->q (cF X scope cl s.heap.objs.size (bC xs X.N++xs) s H l))(hi:sA q X tg iter (iX X.K mi))(hb':∀ d μ z,bd d μ=some z->z.length=xs.length)(hg:∀ C s₀ H₀ l,PG (cF X scope cl C (bC xs X.N++xs) s₀ H₀ l) tg (fQ X.K (gB X.N.length bd)))
  (hc:∀ C s₀ H₀ l,lW (cF X scope cl C (bC xs X.N++xs) s₀ H₀ l) ifs mc)(he:∀ C s₀ H₀ l,PE (cF X scope cl C (bC xs X.N++xs) s₀ H₀ l) elt (tM X.K me))
  (hs:∀ x,Wo iter X.env x=pure x){use:Option (Value->a1i Unit)}{QQ:Value->SX->Prop}{a3A:List (Addr×Obj)}{s:SX}{σ:St}{H:Hp}{π:Nat->Addr}{Y:aG}{μ Z:Hm}{d:D}
  (I:Inv X a3A σ H s)(R:Rp X.K π H μ)(E:En X.K π μ.length H σ Y)(hm:l8 bd mi mc me Y μ=some (d,Z))
  (fin:∀ (p C:Addr)(w:Nat->Addr)(H':Hp)(s':SX),Ext π μ.length H w Z.length H'->Rp X.K w H' Z->IsD X.K w Z.length H' (.ref p) d->(∃ m,s'.heap.Ns C m)->X.s₀.heap.objs.size<=C->C≠X.env.locals->H' C=none->
   (∀ y c,X.env.cells.lookup y=some c->c≠C)->(∀ q∈X.pn++a3A,q.1≠C)->(∀ h',(∀ b o,b≠C->s'.heap.get? b=some o->h'.get? b=some o)->Inv X a3A σ H' { s' with heap:=h' })->
   compPost (TH X.prog X.w) X.A X.xe use QQ (.ref p) C (.ok .next) s') :
  TK (TH X.prog X.w) X.A (comprehension (.ListComp elt [⟨tg,iter,ifs,0⟩] scope pos) scope X.env ppos (newList []) false (eval iter X.env) use) QQ X.xe s:=by
 obtain ⟨⟨src,nt,a⟩,h1,hm⟩:=SS.mp hm
 obtain ⟨μ2,h3,hm⟩:=SY.mp hm
 cases hm
 have hit:TK (TH X.prog X.w) X.A (eval iter X.env) (fun v s1=>TK (TH X.prog X.w) X.A (a1e v) (r9 q X a3A σ tg fun J H1=>∃ π1,Ext π μ.length H π1 a.length H1/\Rp X.K π1 H1 a/\Wk X.K J src π1 a.length H1) X.xe s1) X.xe s:=
  hi a3A s σ H _ I ⟨π,Y,μ,src,nt,a,R,E,h1,fun π1 H1 J e1 R1 W=>⟨π1,e1,R1,W⟩⟩
 refine wpAny_comprehension_free rfl hs O.clos O.kind O.names (T9 hit (fun v s1 hv=>T9 hv (fun itv G h4=>?_) fun _ _ z=>z) fun _ _ z=>z)
 obtain ⟨it,l,tn,J,H2,rfl,I2,T,st2,f2,π1,e1,R1,W⟩:=h4
 refine V5 (wpAny_newFunctionEnv O.nocell (by intro y hy;simp at hy) (fun h₁ L M=>?_) O.kind)
 dsimp only at L M ⊢
 have hfr:H2 G.heap.objs.size=none:=I2.hok.fresh (Th _)
 have I3:Inv X a3A σ (aQ H2 G.heap.objs.size (.lst [])) { G with heap:=G.heap.push { cls:=.type "list",dict:=none,data:=.seq ([]:List Value).toArray } }:=
  I2.laid (t':=G.toks) (fun b u e=>S9 _ e) (Th _) ⟨UD _,[],0,.nil,TZ _ rfl⟩
 obtain ⟨e2,R2,q2⟩:=R1.alloc (c:=.lst []) (o:=.lst []) hfr .nil
 generalize hs3:({ G with heap:=G.heap.push { cls:=.type "list",dict:=none,data:=.seq ([]:List Value).toArray } }:SX)=s3 at I3
 have K:G.heap.push { cls:=.type "list",dict:=none,data:=.seq ([]:List Value).toArray } = s3.heap:=by rw [<- hs3]
 have e12:=e1.trans e2
 generalize hH3:aQ H2 G.heap.objs.size (.lst [])=H3 at I3 e2 R2 e12
 generalize hπ3:gO π1 a.length G.heap.objs.size=π3 at e2 R2 q2 e12
 have hob:∀ b∈l,∃ o,s3.heap.get? b=some o:=fun b B=>by
  obtain ⟨o,ho,_⟩:=T.obj 0 _ st2 b B
  exact ⟨o,by rw [<- K];exact S9 _ ho⟩
 have f3:∀ b∈l,iA X a3A H3 b:=fun b B=>by
  obtain ⟨o,ho,_⟩:=T.obj 0 _ st2 b B
  refine ⟨?_,(f2 b B).2⟩
  rw [<- hH3,bH (TL (Tg ho))]
  exact (f2 b B).1
 have st3:tn 0 s3.heap:=T.keep 0 _ _ st2 fun b B o e=>by rw [<- K];exact S9 _ e
 have hC:(G.heap.push { cls:=.type "list",dict:=none,data:=.seq ([]:List Value).toArray }).objs.size=s3.heap.objs.size:=by rw [K]
 rw [K] at L M
 have hk1:∀ b o,s3.heap.get? b=some o->h₁.get? b=some o:=fun b o e=>M.extBut b o (TL (Tg e)) (S9 _ e)
 have E3:En X.K π3 (a++[C.lst []]).length H3 (σ++Vr xs.length none) (Y++Vr xs.length none):=by
  have E':=E.mono e12
  refine ⟨by rw [Te,Te,E'.len,VU,VU],fun i d' q=>?_⟩
  by_cases hi:i<Y.length
  ·rw [Ti hi] at q
   obtain ⟨v,h5,h6⟩:=E'.get i d' q
   exact ⟨v,by rw [Ti (by rw [E'.len];exact hi)];exact h5,h6⟩
  ·rw [Tv (W4.mp hi),V8] at q
   split at q<;>cases q
 have hlen:Y.length=X.N.length:=by rw [<- E.len];exact I.len
 have stat:∀ {H':Hp}{pl:List (Addr×Obj)},(∀ b∈l,H' b=none)->pl=[]->∀ b∈l,iA (cF X scope cl s3.heap.objs.size (bC xs X.N++xs) s3 H3 l) pl H' b:=fun {H' pl} hn hpl b B=>by
  obtain ⟨f0,f1,f2',f3',f4,f5⟩:=f3 b B
  obtain ⟨o,ho⟩:=hob b B
  refine ⟨hn b B,TL (Tg ho),fun z=>?_,.inl B,fun y c h=>f4 y c (O.sub y c h),fun p hp=>?_⟩
  ·rcases TN.mp (I3.stkSub b z) with z|z
   ·exact f1 z
   ·exact f2' z
  ·subst hpl
   exact absurd (show p∈([]:List (Addr×Obj)) from hp) (by simp)
 have loop:∀ s4:SX,(∃ tk,s4 = { s3 with heap:=h₁,toks:=tk })->
   XF (TH X.prog X.w) X.A (.compLoop (.ListComp elt [⟨tg,iter,ifs,0⟩] scope pos) 0 (.ref it) (.ref G.heap.objs.size) (W0 scope cl s3.heap.objs.size X.env))
    (compPost (TH X.prog X.w) X.A X.xe use QQ (.ref G.heap.objs.size) s3.heap.objs.size) s4:=by
  rintro s4 ⟨tk,rfl⟩
  have I4:=O.inv (tk:=tk) I3 f3 hob L hk1
  refine Kr (fun n s'=>∃ i U H' w N o,Inv (cF X scope cl s3.heap.objs.size (bC xs X.N++xs) s3 H3 l) [] U H' s'/\tn i s'.heap/\(∀ b∈l,H' b=none)/\Ext π3 (a++[C.lst []]).length H3 w N.length H'/\Rp X.K w H' N /\
   En X.K w N.length H' U (Y++o)/\o.length=xs.length/\jT src bd mc me Y a.length n i N=some Z) ?_ nt
   ⟨0,_,H3,π3,a++[C.lst []],Vr xs.length none,I4,T.keep 0 _ _ st3 fun b B o e=>hk1 b o e,fun b B=>(f3 b B).1,.refl,R2,E3,VU,h3⟩
  rintro n s5 ⟨i,σ5,H5,Q,μ5,o5,I5,st5,fr5,e5,R5,E5,l5,g5⟩
  cases n with
  | zero=>cases g5
  | succ n=>
   obtain ⟨o,h6,h7⟩:=SS.mp g5
   cases o with
   | none=>
    cases h7
    have stop:=W.stop Q _ H5 i (e2.trans e5) R5 h6
    refine T9 (T.done (cF X scope cl s3.heap.objs.size (bC xs X.N++xs) s3 H3 l) rfl rfl rfl (hq a3A σ H3 s3 l I3) i [] s5 σ5 H5 (fun _ _=>False) I5 (stat fr5 rfl) st5 stop) (fun r s6 ⟨hr,I6⟩=>?_) fun _ _ z=>z
    subst hr
    obtain ⟨m6,hn6,_⟩:=id I6.loc
    have hp:Q a.length=G.heap.objs.size:=by rw [e5.pi a.length (by simp),q2]
    refine fin G.heap.objs.size s3.heap.objs.size Q H5 s6 (e12.trans e5) R5 ?_ ⟨m6,hn6⟩ I3.sz (UH (TL I3.lt)) I6.free (fun y c hc z=>?_) (fun q hq z=>?_) fun h' hh=>CompOk.back I3 f3 I6 hh
    ·rw [<- hp]
     exact .loc (TF (by simp) e5.le)
    ·obtain ⟨v,o,ho,_⟩:=I3.cell y c hc
     exact TL (Tg ho) z
    ·exact TL (Tg (I3.pin q hq).1) z
   | some d=>
    obtain ⟨z,hz,h7⟩:=SS.mp h7
    obtain ⟨⟨b,μ6⟩,h8,h9⟩:=SS.mp h7
    obtain ⟨g1,g2⟩:=W.go Q μ5 H5 i d (e2.trans e5) R5 h6
    refine T9 (T.item (cF X scope cl s3.heap.objs.size (bC xs X.N++xs) s3 H3 l) rfl rfl rfl (hq a3A σ H3 s3 l I3) i [] s5 σ5 H5 (fun _ _=>False) I5 (stat fr5 rfl) st5 g1) (fun r s6 ⟨u,hr,h10⟩=>?_) fun _ _ z=>z
    subst hr
    refine T9 h10 (fun _ s7 ⟨v,H7,I7,r7,y7,st7,fr7⟩=>?_) fun _ _ z=>z
    obtain ⟨e7,R7,hd⟩:=g2 v H7 y7
    have I7':=I7.pinned (stat fr7 rfl) (T.obj _ _ st7)
    have e5:=e5.trans e7
    refine T9 (hg _ _ _ _ _ s7 σ5 H7 v u (fun U H'=>En X.K Q μ5.length H7 U (Y++z)/\H'=H7) I7' r7
     ⟨Q,Y++Vr xs.length none,μ5,d,Y++z,R7,LX (E5.mono e7) l5,hd,(by
      show (bd d μ5).map (fun x=>(Y++Vr xs.length none).take X.N.length++x)=_
      rw [hz,<- hlen,Zx]
      rfl),fun U E'=>⟨E',rfl⟩⟩) (fun _ s8 ⟨σ8,H8,I8,E8,z2⟩=>?_) fun _ _ z=>z
    subst z2
    have again:∀ {s9:SX}{H9:Hp}{j:Nat->Addr}{μ9:Hm},Inv (cF X scope cl s3.heap.objs.size (bC xs X.N++xs) s3 H3 l) ([]++pO l s7.heap) σ8 H9 s9->Ext π3 (a++[C.lst []]).length H3 j μ9.length H9->Rp X.K j H9 μ9->
      En X.K j μ9.length H9 σ8 (Y++z)->jT src bd mc me Y a.length n (i+1) μ9=some Z->
      ∃ m,m<n+1/\∃ i U H' w N o,Inv (cF X scope cl s3.heap.objs.size (bC xs X.N++xs) s3 H3 l) [] U H' s9/\tn i s9.heap/\(∀ b∈l,H' b=none)/\Ext π3 (a++[C.lst []]).length H3 w N.length H'/\Rp X.K w H' N /\
       En X.K w N.length H' U (Y++o)/\o.length=xs.length/\jT src bd mc me Y a.length m i N=some Z:=fun {s9 H9 j μ9} I9 e9 R9 E9 g9=>by
     refine ⟨n,Za _,i+1,_,H9,j,μ9,z,I9.unpinned,T.keep _ _ _ st7 fun b B o e=>(I9.pin (b,o) (US _ (US _ (sC B e)))).1,fun b B=>?_,e9,R9,E9,hb' _ _ _ hz,g9⟩
     obtain ⟨o,e,_⟩:=T.obj _ _ st7 b B
     exact (I9.pin (b,o) (US _ (US _ (sC B e)))).2.1
    refine T9 (hc _ _ _ _ _ s8 _ H8 (fun b' H'=>∃ j,b'=b/\Ext Q μ5.length H8 j μ6.length H'/\Rp X.K j H' μ6) I8 ⟨Q,_,μ5,b,μ6,R7,E8,h8,fun j H9 e9 R9=>⟨j,rfl,e9,R9⟩⟩) (fun ok s9 ⟨H9,I9,j,B,e9,R9⟩=>?_) fun _ _ z=>z
    subst B
    cases ok with
    | false=>
     rw [if_neg UN]
     exact again I9 (e5.trans e9) R9 (E8.mono e9) h9
    | true=>
     rw [if_pos rfl]
     obtain ⟨⟨dy,μ7⟩,h11,h12⟩:=SS.mp h9
     obtain ⟨μ8,h13,h14⟩:=SS.mp h12
     refine T9 (he _ _ _ _ _ s9 _ H9 (fun y H'=>∃ A,Ext j μ6.length H9 A μ7.length H'/\Rp X.K A H' μ7/\IsD X.K A μ7.length H' y dy) I9 ⟨j,_,μ6,dy,μ7,R9,E8.mono e9,h11,fun A y H10 e10 R10 i10=>⟨A,e10,R10,i10⟩⟩)
      (fun u' s10 ⟨y,H10,I10,ry,A,e10,R10,i10⟩=>?_) fun _ _ z=>z
     unfold nR at h13
     split at h13
     ·rename_i zs hz
      split at h13
      ·rename_i hl
       cases h13
       obtain ⟨vs,h15,h16⟩:=R10.lst _ zs hz
       have eall:=(e5.trans e9).trans e10
       have hp:A a.length=G.heap.objs.size:=by rw [eall.pi a.length (by simp),q2]
       obtain ⟨e11,R11⟩:=R10.put (a:=a.length) (c:=.lst (zs++[dy])) (o:=.lst (vs++[y])) (S2.mp hz).1 h15 (.inl ⟨vs,rfl⟩) (h16.append (.cons i10 .nil))
       rw [hp] at h15 e11 R11
       refine T9 (Bp (X:=cF X scope cl s3.heap.objs.size (bC xs X.N++xs) s3 H3 l) _ s10 _ H10 (.ref G.heap.objs.size) [y] (.ref G.heap.objs.size) [u'] (fun _ H'=>H'=aQ H10 G.heap.objs.size (.lst (vs++[y]))) I10 rfl (.cons ry .nil)
        ⟨G.heap.objs.size,vs,y,rfl,rfl,h15,by rw [h16.length];exact hl,rfl⟩) (fun _ s11 ⟨_,H11,I11,_,z⟩=>?_) fun _ _ z=>z
       subst z
       exact again I11 (eall.trans e11) R11 ((E8.mono (e9.trans e10)).mono e11) h14
      ·cases h13
     ·cases h13
 have l4:=loop { s3 with heap:=h₁,toks:=G.toks+([]:List (Str×Value)).length } ⟨_,rfl⟩
 have hst4:tn 0 h₁:=T.keep 0 _ _ st3 fun b B o e=>hk1 b o e
 subst hs3
 exact codeAny_compStart_list l4 (T.self _ 0 _ _ _ hst4 l4)
theorem LY {q:Cx->Prop}(O:CompOk X scope cl xs)(T:∀ a3A σ H s a,Inv X a3A σ H s->q (cF X scope cl s.heap.objs.size (bC xs X.N++xs) s H a))(K:sA q X tg iter (iX X.K mi))(c:∀ d u z,bd d u=some z->z.length=xs.length)(G:∀ C s₀ H₀ a,PG (cF X scope cl C (bC xs X.N++xs) s₀ H₀ a) tg (fQ X.K (gB X.N.length bd)))
  (hc:∀ C s₀ H₀ a,lW (cF X scope cl C (bC xs X.N++xs) s₀ H₀ a) ifs mc)(B:∀ C s₀ H₀ a,PE (cF X scope cl C (bC xs X.N++xs) s₀ H₀ a) elt (tM X.K me))
  (U:∀ x,Wo iter X.env x=pure x):PE X (.ListComp elt [⟨tg,iter,ifs,0⟩] scope pos) (tM X.K (l8 bd mi mc me)):=by
 intro a3A s σ H Q I hw
 obtain ⟨π,ρ,u,d,μ',R,E,L,k⟩:=hw
 rw [eval_ListComp]
 refine Cw (use:=none) O T K c G hc B U I R E L fun p C j l s' w v Z i Y N h n r back=>?_
 obtain ⟨m,M⟩:=i
 exact ⟨m,M,fun y sb=>⟨.ref p,l,back y (fun b o A e=>(sb.2 b A).trans e),rfl,k j _ l w v Z⟩⟩
theorem LZ (O:CompOk X scope cl xs)(a:X.calm=true)(i:PI X tg iter (iX X.K mi))(c:∀ d l z,bd d l=some z->z.length=xs.length)(h:∀ C s₀ H₀ b,PG (cF X scope cl C (bC xs X.N++xs) s₀ H₀ b) tg (fQ X.K (gB X.N.length bd)))
  (hc:∀ C s₀ H₀ b,lW (cF X scope cl C (bC xs X.N++xs) s₀ H₀ b) ifs mc)(e:∀ C s₀ H₀ b,PE (cF X scope cl C (bC xs X.N++xs) s₀ H₀ b) elt (tM X.K me))
  (j:∀ x,Wo iter X.env x=pure x):PE X (.ListComp elt [⟨tg,iter,ifs,0⟩] scope pos) (tM X.K (l8 bd mi mc me)):=LY O (fun _ _ _ _ _ _=>a) i c h hc e j
theorem L0 {i:Nat}{y:Str}{py h:Va}(O:CompOk X scope cl xs)(hN:X.N.Nodup)(j:X.calm=true)(hi:PI X tg iter (iX X.K mi))(G:∀ d μ z,bd d μ=some z->z.length=xs.length)(hg:∀ C s₀ H₀ q,PG (cF X scope cl C (bC xs X.N++xs) s₀ H₀ q) tg (fQ X.K (gB X.N.length bd)))
  (hc:∀ C s₀ H₀ q,lW (cF X scope cl C (bC xs X.N++xs) s₀ H₀ q) ifs mc)(he:∀ C s₀ H₀ q,PE (cF X scope cl C (bC xs X.N++xs) s₀ H₀ q) elt (tM X.K me))
  (hs:∀ x,Wo iter X.env x=pure x)(hy:X.N[i]? = some y)(Z:X.env.scope.names.lookup y=some .local)
  (M:XM (.ListComp elt [⟨tg,iter,ifs,0⟩] scope pos) (some (.Name y py)) h.line X.env=pure true) :
  PS X (.Assign [.Name y py] (.ListComp elt [⟨tg,iter,ifs,0⟩] scope pos) h) (cZ X.K (aW i (l8 bd mi mc me))):=by
 intro n s σ H EN I hw
 obtain ⟨π,ρ,μ,fl,ρ',μ',R,E,K,k⟩:=hw
 obtain ⟨⟨d,μ1⟩,h1,K⟩:=SY.mp K
 cases K
 rw [exec_Assign_Name_used _ _ _ _ M]
 refine S0 (a0z ?_)
 refine S0 (S0 ?_)
 refine Cw (use:=some (Y7 (.Name y py) X.env)) (QQ:=fun _ v=>TK (TH X.prog X.w) X.A (pure ()) (fun _ Q=>TK (TH X.prog X.w) X.A (pure Flow.next) (SP X n EN) X.xe Q) X.xe v) O (fun _ _ _ _ _ _=>j) hi G hg hc he hs I R E h1 fun p C U w v Y R1 i1 L N r l c u back=>?_
 obtain ⟨m,hn⟩:=L
 have I1:Inv X n σ w v:=back v.heap fun b o _ e=>e
 show TK (TH X.prog X.w) X.A (Y7 (.Name y py) X.env (.ref p)) _ X.xe v
 refine a2m ?_
 refine r8 I1 hN hy (.inl Z) (show RelV (.ref p) (.ref p) from rfl) (fun s2 I2 ⟨a,sb,B⟩=>?_) (.inr Z)
 have A:C≠a:=by
  rcases B with rfl|B
  ·exact r
  ·exact UH (c _ _ B)
 refine ⟨m,hn.sameBut sb A,fun h' T=>Tn (Tn ?_)⟩
 refine ⟨σ.set i (some (.ref p)),w,I2.turned (t':=s2.toks) (fun b o hb e=>(T.2 b hb).trans e) l r (.inr N) c u,?_⟩
 exact k U _ w Y R1 ((E.mono Y).set i1 i)
end
end L3
namespace L3
open PySem L2
noncomputable def bE:ME:=fun _ _=>none
noncomputable def l9:MT:=fun _ _=>none
noncomputable def bY:MS:=fun _ _=>none
section
variable {X:Cx}{e a b c o:Expr}{m m1 m2 ma mb mc:ME}{pos:Va}{mt mu:MT}{rest es:List Expr}{ms:MA}{n:Nat}
theorem bG:QE X e bE:=⟨fun a3A s σ H Q I h=>by
 obtain ⟨p,q,l,d,j,R,E,i,k⟩:=h
 cases i⟩
theorem xB:QT X e l9:=⟨fun a3A s σ H Q I h=>by
 obtain ⟨p,q,l,d,j,R,E,i,k⟩:=h
 cases i⟩
theorem L1:QW X e l9:=⟨fun l a3A s σ H Q I h=>by
 obtain ⟨q,r,p,d,j,R,E,i,k⟩:=h
 cases i⟩
theorem cS {st:Stmt}:QS X st bY:=⟨fun a3A s σ H D I h=>by
 obtain ⟨q,r,p,l,j,i,R,E,d,k⟩:=h
 cases d⟩
theorem sV {g:MG}(p:∀ d l j,g d l j=none):QG X e g:=⟨fun a3A s σ H v u Q I r h=>by
 obtain ⟨w,l,j,d,q,R,E,hd,i,k⟩:=h
 rw [p] at i
 cases i⟩
theorem kU (h1:QE X e m1)(u:QE X e m2)(h:∀ j i r,m j i=some r->m1 j i=some r\/m2 j i=some r):QE X e m:=⟨fun a3A s σ H Q I q=>by
 obtain ⟨p,j,i,d,l,R,E,v,k⟩:=q
 rcases h j i _ v with z|z
 ·exact h1.h a3A s σ H Q I ⟨p,j,i,d,l,R,E,z,k⟩
 ·exact u.h a3A s σ H Q I ⟨p,j,i,d,l,R,E,z,k⟩⟩
theorem nW {m m1 m2:MT}(h1:QT X e m1)(u:QT X e m2)(h:∀ j i r,m j i=some r->m1 j i=some r\/m2 j i=some r):QT X e m:=⟨fun a3A s σ H Q I q=>by
 obtain ⟨p,j,i,d,l,R,E,v,k⟩:=q
 rcases h j i _ v with z|z
 ·exact h1.h a3A s σ H Q I ⟨p,j,i,d,l,R,E,z,k⟩
 ·exact u.h a3A s σ H Q I ⟨p,j,i,d,l,R,E,z,k⟩⟩
theorem fU {f l s:D->D->Hm->Option (D×Hm)}(h:∀ x y d r,f x y d=some r->l x y d=some r\/s x y d=some r) :
  ∀ j d r,aB f ma mb j d=some r->aB l ma mb j d=some r\/aB s ma mb j d=some r:=by
 intro j d r i
 obtain ⟨p,u,i⟩:=SS.mp i
 obtain ⟨q,v,i⟩:=SS.mp i
 rcases h _ _ _ _ i with z|z
 ·exact .inl (SS.mpr ⟨p,u,SS.mpr ⟨q,v,z⟩⟩)
 ·exact .inr (SS.mpr ⟨p,u,SS.mpr ⟨q,v,z⟩⟩)
theorem nY (h:∀ i d r,m i d=some r->m1 i d=some r\/m2 i d=some r):∀ i d r,aO m i d=some r->aO m1 i d=some r\/aO m2 i d=some r:=by
 intro i d r j
 obtain ⟨p,l,j⟩:=SS.mp j
 rcases h _ _ _ l with z|z
 ·exact .inl (SS.mpr ⟨p,z,j⟩)
 ·exact .inr (SS.mpr ⟨p,z,j⟩)
noncomputable def xC:List D->Option (List Int)
 | []=>some []
 | .int i::r=>(xC r).map (i::·)
 | _=>none
noncomputable def gH:D->Option (List Int)
 | .tup ds=>xC ds
 | _=>none
noncomputable def cX (kvs:List (List Int×D))(k:List Int):Option D:=(kvs.find? fun p=>decide (p.1=k)).map (·.2)
noncomputable def dQ (kvs:List (List Int×D))(k:List Int)(d:D):List (List Int×D):=if (cX kvs k).isSome then kvs.map (fun p=>if p.1=k then (p.1,d) else p) else kvs++[(k,d)]
noncomputable def aH:D->D->Hm->Option (D×Hm):=fun x y h=>match x with
 | .loc a=>match h[a]? with
  | some (.dK kvs)=>(kT y).bind fun k=>(fR kvs k).map fun d=>(d,h)
  | some (.dT kvs)=>(gH y).bind fun k=>(cX kvs k).map fun d=>(d,h)
  | _=>gC x y h
 | _=>gC x y h
structure TabOk (X:Cx)(x:Str)(kvs:List (aI×D)):Prop where
 ex:∃ (p:Addr)(vs:List (aI×V))(ws:List (aI×Value)),X.mg x=some (.ref p)/\(∀ h:Uw,X.K.In h->h.DictOf (dW X.prog X.w) p ws)/\KV vs ws/\∀ π n H,IsKs X.K π n H vs kvs
theorem Cy {a3A:List (Addr×Obj)}{σ:St}{H:Hp}{s:SX}(I:Inv X a3A σ H s){p:Addr}{d:Obj}(h:X.K.lookup p=some d):H p=none:=(I.bs p d (I.mod.kin p d h)).2
theorem Cz {K:SV}{π:Nat->Addr}{H:Hp}{p:Hm}(R:Rp K π H p){d:Nat}(u:d<p.length):(∃ vs,H (π d)=some (.lst vs))\/(∃ vs,H (π d)=some (.dK vs))\/(∃ j,H (π d)=some (.ext j))\/∃ l j,H (π d)=some (.frz l (.ext j)):=by
 cases q:p[d]? with
 | none=>exact absurd (Wv.mp q) (by omega)
 | some r=>
  cases r with
  | lst i=>obtain ⟨vs,h,_⟩:=R.lst d i q;exact .inl ⟨vs,h⟩
  | dK i=>obtain ⟨vs,h,_⟩:=R.dK d i q;exact .inr (.inl ⟨vs,h⟩)
  | st i=>obtain ⟨vs,h,_⟩:=R.st d i q;exact .inr (.inr (.inl ⟨_,h⟩))
  | dT i=>obtain ⟨vs,h,_⟩:=R.dT d i q;exact .inr (.inr (.inl ⟨_,h⟩))
  | exc x s ds=>obtain ⟨l,j,h,_⟩:=R.exc d x s ds q;exact .inr (.inr (.inr ⟨l,_,h⟩))
section
variable {a3A:List (Addr×Obj)}{σ:St}{H:Hp}{s:SX}{π:Nat->Addr}{μ:Hm}
theorem CA (I:Inv X a3A σ H s)(R:Rp X.K π H μ){i:Nat}(j:i<μ.length){vs:List V}(h:SqT X.K H (π i) vs):False:=by
 have hc:=Cz R j
 rcases h with h|h
 ·rcases h with h|⟨q,h⟩<;>rcases hc with ⟨d,z⟩|⟨d,z⟩|⟨d,z⟩|⟨_,d,z⟩<;>(rw [h] at z;cases z)
 ·obtain ⟨q,p,n,l,_⟩:=h
  have:=Cy I l
  rcases hc with ⟨d,z⟩|⟨d,z⟩|⟨d,z⟩|⟨_,d,z⟩<;>(rw [this] at z;cases z)
theorem CB (I:Inv X a3A σ H s)(R:Rp X.K π H μ){i:Nat}(j:i<μ.length){vs:List V}(h:RoL X.K H (π i) vs):False:=by
 have hc:=Cz R j
 rcases h with ⟨q,h⟩|h
 ·rcases hc with ⟨d,z⟩|⟨d,z⟩|⟨d,z⟩|⟨_,d,z⟩<;>(rw [h] at z;cases z)
 ·obtain ⟨q,p,n,l,_⟩:=h
  have:=Cy I l
  rcases hc with ⟨d,z⟩|⟨d,z⟩|⟨d,z⟩|⟨_,d,z⟩<;>(rw [this] at z;cases z)
theorem CC (I:Inv X a3A σ H s){p:Addr}{vs ws:List V}(h:SqT X.K H p vs)(h':RoL X.K H p ws):False:=by
 obtain ⟨i,_,t,_⟩:=I.tuple h
 obtain ⟨d,_,l,_⟩:=I.list h'.sq
 exact absurd rfl (Vn l.isList t)
mutual
theorem CD (I:Inv X a3A σ H s)(R:Rp X.K π H μ){v:V}{d d':D}:IsD X.K π μ.length H v d->IsD X.K π μ.length H v d'->d=d'
 | .non,h'=>by cases h';rfl
 | .bl _,h'=>by cases h';rfl
 | .int _,h'=>by cases h';rfl
 | .str _,h'=>by cases h';rfl
 | .ty _,h'=>by cases h';rfl
 | .tup h t,h'=>by
  cases h' with
  | tup i j=>
   have:=I.tuple_inj h i
   subst this
   rw [xD I R t j]
  | rol i j=>exact (CC I h i).elim
  | loc i=>exact (CA I R i h).elim
 | .rol h t,h'=>by
  cases h' with
  | tup i j=>exact (CC I i h).elim
  | rol i j=>
   have:=I.list_inj h.sq i.sq
   subst this
   rw [xD I R t j]
  | loc i=>exact (CB I R i h).elim
 | .loc (a:=a1) ha,h'=>by
  generalize hz:V.ref (π a1)=z at h'
  cases h' with
  | tup i j=>cases hz;exact (CA I R ha i).elim
  | rol i j=>cases hz;exact (CB I R ha i).elim
  | loc i=>
   have:=R.inj _ _ ha i (V.ref.inj hz)
   rw [this]
  | _=>cases hz
theorem xD (I:Inv X a3A σ H s)(R:Rp X.K π H μ){vs:List V}{ds d:List D}:IsDs X.K π μ.length H vs ds->IsDs X.K π μ.length H vs d->ds=d
 | .nil,h'=>by cases h';rfl
 | .cons h t,h'=>by
  cases h' with
  | cons i j=>rw [CD I R h i,xD I R t j]
end
end
noncomputable def nZ (a:Hm)(x:D):List D->Option Bool
 | []=>some false
 | y::r=>(cB 8 a y x).bind fun b=>(nZ a x r).map fun c=>b||c
noncomputable def mB (a:Bool):D->D->Hm->Option (D×Hm):=fun x y c=>(bQ c y).bind fun d=>(nZ c x d).map fun b=>(.bl (if a then !b else b),c)
noncomputable def xE (K:SV)(c:Bool):R2:=fun x y H Q=>∃ π a d e h b,Rp K π H a/\IsD K π a.length H x d/\IsD K π a.length H y e/\bQ a e=some h/\nZ a d h=some b/\Q (.bl (if c then !b else b)) H
theorem sW {K:SV}{c:Bool}:cR K (mB c) (xE K c):=by
 intro e H q x y d n o p Q R j l a k
 obtain ⟨m,h,a⟩:=SS.mp a
 obtain ⟨b,i,a⟩:=SY.mp a
 cases a
 exact ⟨e,_,x,y,m,b,R,j,l,h,i,k e _ H .refl R (.bl _)⟩
theorem sX {a3A:List (Addr×Obj)}{σ:St}{H:Hp}{s:SX}{π:Nat->Addr}{i:Hm}(I:Inv X a3A σ H s)(R:Rp X.K π H i){A:TJ}(Y:A.units+8<Vf){x:V}{v:Value}{n:D}(rx:RelV x v)(ix:IsD X.K π i.length H x n) :
  ∀ {e:List D}{vs:List V}{us:List Value}{b:Bool},IsDs X.K π i.length H vs e->Vals vs us->nZ i n e=some b->
   ∃ g:Value->Bool,(∀ u∈us,Zo A s u v (g u))/\us.any g=b:=by
 classical
 intro e vs us b l m d
 have p:∀ {e:List D}{vs:List V}{us:List Value}{b:Bool},IsDs X.K π i.length H vs e->Vals vs us->nZ i n e=some b->(∀ u∈us,∃ c,Zo A s u v c/\∃ w o,RelV w u/\IsD X.K π i.length H w o/\cB 8 i o n=some c):=by
  intro e
  induction e with
  | nil=>
   intro vs us b l m d u a
   cases l
   cases m
   cases a
  | cons y e L=>
   intro vs us b l m d u a
   cases l with
   | cons h t=>
    cases m with
    | cons r rt=>
     obtain ⟨c,E,d⟩:=SS.mp d
     obtain ⟨Q,G,d⟩:=SY.mp d
     rcases TN.mp a with rfl|a
     ·exact ⟨c,BW I R 8 Y r rx h ix E,_,_,r,h,E⟩
     ·exact L t rt G u a
 have q:=p l m d
 refine ⟨fun u=>if h:u∈us then Yz (q u h) else false,fun u a=>?_,?_⟩
 ·simp only [dif_pos a]
  exact (ZE (q u a)).1
 ·have M:∀ u (h:u∈us) w o c,RelV w u->IsD X.K π i.length H w o->cB 8 i o n=some c->Yz (q u h)=c:=by
   intro u h w o c N iw O
   obtain ⟨_,w2,T,r2,i2,U⟩:=ZE (q u h)
   have:w2=w:=r2.inj N
   subst this
   have:=CD I R i2 iw
   subst this
   rw [U] at O
   exact T3 O
  have B:∀ {e:List D}{vs:List V}{j:List Value}{b:Bool},(∀ u∈j,u∈us)->IsDs X.K π i.length H vs e->Vals vs j->nZ i n e=some b->j.any (fun u=>if h:u∈us then Yz (q u h) else false)=b:=by
   intro e
   induction e with
   | nil=>
    intro vs j b K l m d
    cases l
    cases m
    cases d
    rfl
   | cons y e L=>
    intro vs j b K l m d
    cases l with
    | cons h t=>
     cases m with
     | @cons _ u _ us2 r rt=>
      obtain ⟨c,E,d⟩:=SS.mp d
      obtain ⟨Q,G,d⟩:=SY.mp d
      have gF:u∈us:=K u (TC ..)
      rw [W5,L (fun z Z=>K z (Tu _ Z)) t rt G,dif_pos gF,M u gF _ _ c r h E]
      exact d
  exact B (fun _ h=>h) l m d
theorem sY {k:Nat}{A:TJ}(r:Room k A):A.units+9<Vf:=by have:=r.un;omega
theorem CF (K:X.A.units+9<Vf):OpR X (UC .In) (xE X.K false):=by
 intro n s T H x y v u Q I m B h
 obtain ⟨O,N,E,G,M,b,R,l,A,o,j,q⟩:=h
 obtain ⟨p,L,rfl,c,hd⟩:=sQ R A o
 cases B
 rcases c with c|c
 ·obtain ⟨a,r,i,z⟩:=I.list c
  obtain ⟨g,d,e⟩:=sX I R (A:=X.A.in1) (by rw [nN];omega) m l hd r j
  refine SeqAt.in_listAt g i.isList (fun w hw=>d w (by simpa using hw)) ⟨.bl _,H,I,rfl,?_⟩
  rw [show a.toArray.any g=a.any g by simp,e]
  exact q
 ·obtain ⟨a,r,i,z⟩:=I.tuple c
  obtain ⟨g,d,e⟩:=sX I R (A:=X.A.in1) (by rw [nN];omega) m l hd r j
  refine SeqAt.in_tupleAt g i (fun w hw=>d w (by simpa using hw)) ⟨.bl _,H,I,rfl,?_⟩
  rw [show a.toArray.any g=a.any g by simp,e]
  exact q
theorem CG (K:X.A.units+9<Vf):OpR X (UC .NotIn) (xE X.K true):=by
 intro n s T H x y v u Q I m B h
 obtain ⟨O,N,E,G,M,b,R,l,A,o,j,q⟩:=h
 obtain ⟨p,L,rfl,c,hd⟩:=sQ R A o
 cases B
 rcases c with c|c
 ·obtain ⟨a,r,i,z⟩:=I.list c
  obtain ⟨g,d,e⟩:=sX I R (A:=X.A.in1) (by rw [nN];omega) m l hd r j
  refine SeqAt.notIn_listAt g i.isList (fun w hw=>d w (by simpa using hw)) ⟨.bl _,H,I,rfl,?_⟩
  rw [show a.toArray.any g=a.any g by simp,e]
  exact q
 ·obtain ⟨a,r,i,z⟩:=I.tuple c
  obtain ⟨g,d,e⟩:=sX I R (A:=X.A.in1) (by rw [nN];omega) m l hd r j
  refine SeqAt.notIn_tupleAt g i (fun w hw=>d w (by simpa using hw)) ⟨.bl _,H,I,rfl,?_⟩
  rw [show a.toArray.any g=a.any g by simp,e]
  exact q
noncomputable def dD (b:Bool):D->D->Hm->Option (D×Hm)
 | .str i,.str j,μ=>some (.bl (if b then !(!(UO j i 0 j.length 1).isEmpty) else !(UO j i 0 j.length 1).isEmpty),μ)
 | x,.loc a,μ=>match μ[a]? with
  | some (.dT kvs)=>(gH x).map fun k=>(.bl (if b then !(cX kvs k).isSome else (cX kvs k).isSome),μ)
  | _=>mB b x (.loc a) μ
 | x,y,μ=>mB b x y μ
noncomputable def xF:D->D->Hm->Option (D×Hm)
 | .str i,.str j,μ=>some (.bl (!(!(UO j i 0 j.length 1).isEmpty)),μ)
 | _,_,_=>none
theorem CH {K:SV}:cR K xF (fun x y H Q=>∃ i j,x=.str i/\y=.str j/\Q (.bl (!(!(UO j i 0 j.length 1).isEmpty))) H):=by
 intro h H n x y d e l m Q R b c a k
 unfold xF at a
 split at a
 ·cases a
  cases b
  cases c
  exact ⟨_,_,rfl,rfl,k h _ H .refl R (.bl _)⟩
 ·cases a
noncomputable def iZ (a:Bool):D->D->Hm->Option (D×Hm)
 | x,.non,μ=>some (.bl (match x with|.non=>!a|_=>a),μ)
 | _,_,_=>none
theorem CI {K:SV}:cR K (iZ false) (fun x y H Q=>y=.non/\Q (.bl (decide (x=.non))) H):=by
 intro h H l x y d e i j Q R b c a k
 unfold iZ at a
 split at a
 ·cases a
  cases c
  refine ⟨rfl,?_⟩
  cases b<;>exact k h _ H .refl R (.bl _)
 ·cases a
theorem CJ {K:SV}:cR K (iZ true) (fun x y H Q=>y=.non/\Q (.bl (!decide (x=.non))) H):=by
 intro h H l x y d e i j Q R b c a k
 unfold iZ at a
 split at a
 ·cases a
  cases c
  refine ⟨rfl,?_⟩
  cases b<;>exact k h _ H .refl R (.bl _)
 ·cases a
theorem L4 (c:QE X a ma)(d:QE X b mb):QE X (.Compare a [.Is] [b] pos) (aB (iZ false) ma mb):=⟨eS AR CI c.h d.h (dM _)⟩
theorem L5 (c:QE X a ma)(d:QE X b mb):QE X (.Compare a [.IsNot] [b] pos) (aB (iZ true) ma mb):=⟨eS AS CJ c.h d.h (dM _)⟩
theorem L6 (c:QE X a ma)(d:QE X b mb):QT X (.Compare a [.Is] [b] pos) (aO (aB (iZ false) ma mb)):=⟨eU AR CI c.h d.h (dM _)⟩
theorem L7 (c:QE X a ma)(d:QE X b mb):QT X (.Compare a [.IsNot] [b] pos) (aO (aB (iZ true) ma mb)):=⟨eU AS CJ c.h d.h (dM _)⟩
end
end L3
namespace L3
open PySem L2
section
variable {X:Cx}{e a b c o:Expr}{m m1 m2 ma mb mc mo:ME}{pos apos cpos:Va}{mt mu:MT}{rest es:List Expr}{ms:MA}{n:Nat}
noncomputable def n4 (d:Hm):D->Bool
 | .rol _=>true
 | .loc a=>match d[a]? with|some (.lst _)=>true|_=>false
 | _=>false
noncomputable def jW (f:D->List D->Hm->Option (D×Hm))(mo:ME)(ms:MA):ME:=fun d h=>(mo d h).bind fun p=>match n4 p.2 p.1 with
 | true=>(ms d p.2).bind fun q=>f p.1 q.1 q.2
 | false=>none
noncomputable def iE (K:SV)(f:D->List D->Hm->Option (D×Hm))(r:V->List V->Hp->VK->Prop):Prop:=
 ∀ j H h x p d i v l Q,Rp K j H h->IsD K j h.length H v x->IsDs K j h.length H l p->f x p h=some (d,i)->KC K Q j h.length H d i->r v l H Q
theorem L8 {K:SV}{π:Nat->Addr}{H:Hp}{d:Hm}{v:V}{x:D}(R:Rp K π H d)(h:IsD K π d.length H v x)(e:n4 d x=true):wC K "list" v H:=by
 cases h with
 | rol h t=>exact .inl ⟨rfl,_,h.sq⟩
 | @loc a q=>
  simp only [n4] at e
  split at e
  ·rename_i p j
   obtain ⟨l,i,_⟩:=R.lst a p j
   exact .inl ⟨rfl,l,.of i⟩
  ·cases e
 | _=>cases e
theorem L9 {K:SV}{f:D->List D->Hm->Option (D×Hm)}{r:V->List V->Hp->VK->Prop}(I:iE K f r):∀ σ H Q,tM K (jW f mo ms) σ H Q->wD K "list" r (tM K mo) (eC K ms) σ H Q:=by
 rintro σ H Q ⟨U,z,T,d,l,R,E,h,k⟩
 obtain ⟨⟨x,i⟩,B,h⟩:=SS.mp h
 dsimp only at h
 split at h
 ·rename_i L
  obtain ⟨⟨y,j⟩,G,h⟩:=SS.mp h
  refine ⟨U,z,T,x,i,R,E,B,fun p N Y u s w=>⟨L8 s w L,p,z,i,y,j,s,E.mono u,G,fun q O A v R2 M=>?_⟩⟩
  exact I q A j x y d l N O Q R2 (w.mono v) M h (k.after (u.trans v))
 ·cases h
noncomputable def mD:Expr->Bool
 | .Call (.Name _ _) [] [] _=>false
 | _=>true
theorem mE {o:Expr}{j:Str}{env:XN}{d:a1i Value}(h:mD o=true):Xo o j env d=d:=by
 cases o with
 | Call f i l p=>
  cases f with
  | Name id q=>
   cases i with
   | nil=>
    cases l with
    | nil=>cases h
    | cons _ _=>rfl
   | cons _ _=>rfl
  | _=>rfl
 | _=>rfl
theorem xG {e:Expr}{es:List Expr}{env:XN}{cpos:Va}(h:(e::es).all cN=true)(j:(e::es).length<30) :
  ((V0 cpos (T5 (e::es) env)).all (fun x=>!x.1)&&(a0f cpos (YF [] env)).all (fun x=>x.1.isSome)
   && decide ((e::es).length+([]:List Wz).length+(if ([]:List Wz).isEmpty then 0 else 1)<30))=true:=by
 have d:(V0 cpos (T5 (e::es) env)).all (fun x=>!x.1)=true:=by
  have:=iC (pos:=cpos) (env:=env) h
  rw [List.all_eq_not_any_not]
  simpa using this
 rw [d]
 have i:(e::es).length+([]:List Wz).length+(if ([]:List Wz).isEmpty then 0 else 1)<30:=by
  show (e::es).length+0+0<30
  omega
 rw [decide_eq_true i]
 rfl
theorem CK {f:D->List D->Hm->Option (D×Hm)}{r:V->List V->Hp->VK->Prop}{name:Str}{id:String}(slot:Slot "list" name id) (i:a2b (.builtin id)=pure (.type "method_descriptor")) (q:jN X id r)(l:iE X.K f r)
  (u:QE X o mo)(j:QA X (e::es) ms n)(v:mD o=true)(p:(apos.endLine == cpos.line)=true)(s:(e::es).length<30):QE X (.Call (.Attribute o name apos) (e::es) [] cpos) (jW f mo ms):=by
 have h:=j.s
 have d:=h
 rw [Ul,SW] at d
 exact ⟨cL (Bn PySem.F.plainAttrs_list slot i q u.h j.h (mE v) (xG h s) p (d9 d.1) (iC d.2)) (L9 l)⟩
noncomputable def kW:D->List D->Hm->Option (D×Hm)
 | .loc a,[y],μ=>(nR μ a y).map fun d=>(.non,d)
 | _,_,_=>none
noncomputable def n5:D->List D->Hm->Option (D×Hm)
 | .loc a,[.loc b],μ=>match μ[a]?,μ[b]? with
  | some (.lst xs),some (.lst ys)=>if xs.length+ys.length<=Td then some (.non,μ.set a (.lst (xs++ys))) else none
  | _,_=>none
 | _,_,_=>none
theorem Ma {K:SV}:iE K kW Bo:=by
 intro L H O x N d G v M Q R B j i k
 unfold kW at i
 split at i
 ·rename_i a y
  obtain ⟨I,h,i⟩:=SY.mp i
  cases i
  unfold nR at h
  split at h
  ·rename_i s r
   split at h
   ·rename_i z
    cases h
    obtain ⟨l,p,q⟩:=R.lst a s r
    cases B
    cases j with
    | cons E A=>
     cases A
     obtain ⟨w,u⟩:=R.put (a:=a) (c:=.lst (s++[y])) (o:=.lst (l++[_])) (S2.mp r).1 p (.inl ⟨l,rfl⟩) (q.append (.cons E .nil))
     exact ⟨_,l,_,rfl,rfl,p,by rw [q.length];exact z,k L _ _ w u .non⟩
   ·cases h
  ·cases h
 ·cases i
theorem Mb {K:SV}:iE K n5 Bq:=by
 intro N H U x T d M v O Q R I i h k
 unfold n5 at h
 split at h
 ·rename_i a b
  split at h
  ·rename_i w u r E
   split at h
   ·rename_i B
    cases h
    obtain ⟨j,l,p⟩:=R.lst a w r
    obtain ⟨s,A,q⟩:=R.lst b u E
    cases I
    cases i with
    | cons L G=>
     cases G
     cases L
     obtain ⟨z,y⟩:=R.put (a:=a) (c:=.lst (w++u)) (o:=.lst (j++s)) (S2.mp r).1 l (.inl ⟨j,rfl⟩) (p.append q)
     exact ⟨_,_,j,s,rfl,rfl,l,A,by rw [p.length,q.length];exact B,k N _ _ z y .non⟩
   ·cases h
  ·cases h
 ·cases h
noncomputable def n6 (d:Hm):D->Option Bool
 | .non=>some false
 | .bl b=>some b
 | .int i=>some (i != 0)
 | .str z=>if z.length<=Td then some ((z.length:Int) != 0) else none
 | .tup xs=>some (!xs.isEmpty)
 | .rol xs=>some (!xs.isEmpty)
 | .loc a=>match d[a]? with|some (.lst xs)=>some (!xs.isEmpty)|some (.dK kvs)=>some (!kvs.isEmpty)|_=>none
 | .ty _=>none
theorem sZ {i j:Type}{xs:List i}{d:List j}(h:xs.length=d.length):xs.isEmpty=d.isEmpty:=by
 cases xs<;>cases d<;>first|rfl|cases h
theorem Mc {K:SV}{π:Nat->Addr}{H:Hp}{r:Hm}{v:V}{x:D}{b:Bool}(R:Rp K π H r)(h:IsD K π r.length H v x)(e:n6 r x=some b):vV K v H b:=by
 cases h with
 | non=>cases e;rfl
 | bl c=>cases e;rfl
 | int i=>cases e;rfl
 | str z=>
  simp only [n6] at e
  split at e
  ·rename_i s;cases e;exact ⟨s,rfl⟩
  ·cases e
 | tup h t=>cases e;exact .inr (.inl ⟨_,h,by rw [sZ t.length]⟩)
 | rol h t=>cases e;exact .inl ⟨_,h.sq,by rw [sZ t.length]⟩
 | @loc a w=>
  simp only [n6] at e
  split at e
  ·rename_i u l
   cases e
   obtain ⟨q,d,j⟩:=R.lst a u l
   exact .inl ⟨q,.of d,by rw [sZ j.length]⟩
  ·rename_i p l
   cases e
   obtain ⟨q,d,j,_⟩:=R.dK a p l
   refine .inr (.inr ⟨q,d,?_⟩)
   have:=congrArg Vi j
   rw [S3,S3] at this
   rw [sZ this]
  ·cases e
 | ty n=>cases e
noncomputable def cC (m:ME):MT:=fun h d=>(m h d).bind fun p=>(n6 p.2 p.1).map fun b=>(b,p.2)
theorem Md (h:QE X e m)(s:qD e=true):QT X e (cC m):=⟨pU (HM h.h (Co s)) (by
 rintro I H Q ⟨z,A,v,b,w,R,E,d,k⟩
 obtain ⟨⟨x,y⟩,q,d⟩:=SS.mp d
 obtain ⟨B,r,d⟩:=SY.mp d
 cases d
 exact ⟨z,A,v,x,_,R,E,q,fun i G l p j u=>⟨_,Mc j u r,k i l p j⟩⟩)⟩
theorem Me {k:Nat}{f:Addr}{l:U1}{ps:List Str}{q:MF}{x:Str}{p:Va}(F:FnOk X.prog X.w X.K X.mg X.base d7 k f l ps (e8 X.K 0 q))(w:Room k X.A)(h:X.mg x=some (.ref f))
  (v:UR X.K (.ref f)=true)(s:Binds X.K l ps [])(u:Gl X x)(i:(x == ("__debug__":Str))=false):QE X (.Call (.Name x p) [] [] pos) (aK q aD):=
 ⟨cL (HV F w u h v s .nil (E:=E0) Bu i) (by
  rintro I H Q ⟨A,G,y,d,j,R,E,h,k⟩
  obtain ⟨⟨B,z⟩,r,h⟩:=SS.mp h
  cases r
  exact ⟨rfl,A,[],y,d,j,R,.nil,h,k⟩)⟩
theorem Mf:QS X (.Return none pos) (aV (mC .non)):=⟨jO Hg (by
 rintro E s H ⟨i,r,q,p,j,h,R,l,d,k⟩
 cases d
 exact k i .non H .refl R .non)⟩
end
end L3
namespace L3
open PySem L2
section
variable {X:Cx}
end
end L3
namespace L3
open PySem L2
open PyProof.Rows (IntsAre)
open PySem.W (KasT kas_asc kas_desc kas_tail3 kas_descPart kas_count kas_place kas_bin kas_sort kas_rev kas_ask)
noncomputable def dE (lt:Nat->Nat->Bool)(n:Nat):List Nat:=(Ur n).mergeSort fun i j=>!(lt j i)
theorem Mg (lt:Nat->Nat->Bool){n:Nat}(_:0<n):(dE lt n).Perm (Ur n):=List.mergeSort_perm _ _
section
variable {X:Cx}{a3A:List (Addr×Obj)}{σ:St}{H:Hp}{s:SX}
theorem Mh {P:Tt}{w:TV}{H:Hp}{h:Uw}{a:Addr}{o:HO}(x:ObjOk P w H h a o):∃ c,h.get? a=some c:=by
 cases o with
 | lst d=>obtain ⟨_,_,_,_,e⟩:=x;exact ⟨_,e⟩
 | tup d=>obtain ⟨_,_,_,c,e,_⟩:=x;exact ⟨_,e⟩
 | dK b=>obtain ⟨_,_,_,_,o,_,_,e,_⟩:=x;exact ⟨_,e⟩
 | dT b=>obtain ⟨_,_,_,_,o,_,_,e,_⟩:=x;exact ⟨_,e⟩
 | set S n=>obtain ⟨o,_,_,_,e,_⟩:=x;exact ⟨_,e⟩
 | ins C i fs=>obtain ⟨_,_,_,e,_⟩:=x;exact ⟨_,e⟩
 | own y=>exact x
 | xd fs=>obtain ⟨_,⟨_,_,_,e,_⟩,_⟩:=x;exact ⟨_,e⟩
 | rng l j=>obtain ⟨_,_,_,e⟩:=x;exact ⟨_,e⟩
 | frz c u=>exact ⟨_,x.1⟩
 | tbl m=>exact ⟨_,x⟩
 | met f y=>exact ⟨_,x⟩
 | ext p=>exact x.2.1
end
noncomputable abbrev TupsV (K:SV)(H:Hp):List V->List (List Int)->Prop:=WO fun v t=>∃ a,v=V.ref a/\SqT K H a (t.map V.int)
section
open PyProof.Rows
variable {prog:Tt}{w:TV}{A:TJ}{E:Value->SX->Prop}{s:SX}
theorem Mi {c:Addr}{us:List Value}{z:Nat}{R:Fin->SX->Prop}(h:us.length<2)(g:s.heap.get? c=some (VE "list" us.toArray z)) (q:R (.done (.ret .none)) { s with heap:=Y6 s.heap c us us.toArray }) :
  TK (TH prog w) A (Builtin.«list.sort» ⟨[.ref c],[]⟩) R E s:=by
 rw [a2N]
 have lt:c<s.heap.objs.size:=Tg g
 refine S0 (listItems_at g rfl (S0 (Y0 g rfl ?_)))
 obtain ⟨y,d⟩:∃ y,(s.heap.update c (VI fun _=>#[])).get? c=some (VE "list" #[] y):=⟨_,a2P g _⟩
 refine S0 (ZT d rfl (S0 (Z7 (S0 (a0A (U2 ?_))))))
 have e:(((s.heap.update c (VI fun _=>#[])).push (VE "tuple" us.toArray 0)).push (VE "list" #[] 0)).get? c=some (VE "list" #[] y):=
  S9 _ (S9 _ d)
 show TK (TH prog w) A _ R E ⟨((s.heap.update c (VI fun _=>#[])).push (VE "tuple" us.toArray 0)).push (VE "list" #[] 0),s.gens,s.drawn,s.toks,s.os⟩
 dsimp only
 have a:us.toArray.size<2:=by simpa using h
 rw [if_pos a,if_pos a]
 refine S0 (Tn ?_)
 rw [StateT.run_pure]
 refine S0 (Tn ?_)
 dsimp only
 have b:a3l (fun x=>x.2) (a1M (TX general' (us.toArray.zip us.toArray) #[] 7 none))=us.toArray:=by
  show a3l (fun x=>x.2) (us.toArray.zip us.toArray)=us.toArray
  exact Array.ext (by simp) (fun i j l=>by simp)
 refine S0 (ZT e rfl (S0 (Y0 e rfl ?_ (hsz2:=by rw [b,TM];omega))))
 rw [b]
 simp only [bne_self_eq_false,S6,if_false]
 exact Tn q
end
theorem Mj (lt:Nat->Nat->Bool):dE lt 1=[0]:=List.mergeSort_singleton ..
theorem CL (lt:Nat->Nat->Bool):dE lt 0=[]:=List.mergeSort_nil
theorem i5 (lt:Nat->Nat->Bool)(n:Nat):(dE lt n).Perm (Ur n):=by
 cases n with
 | zero=>rw [CL];exact .nil
 | succ n=>exact Mg lt (a0j n)
theorem Ml {ns:List Int}{us:List Value}(h:Vals (ns.map V.int) us):WL us ns:=IA h
end L3
namespace L3
open PySem L2 PySem.Spec PyProof.Rows
structure XRec (h:Uw)(e:Addr)(cls:Value)(dc:Option Addr)(T:Option (Addr×Value)):Prop where
 ob:∃ o vs,h.get? e=some o/\o.cls=cls/\o.dict=dc/\o.data=.fields vs/\vs[1]? = some (match T with|none=>UE|some p=>.ref p.1)/\vs[2]? = some UE
 tb:∀ p,T=some p->p.1≠e/\∃ oT ts,h.get? p.1=some oT/\oT.data=.fields ts/\ts[3]? = some p.2
structure XKept (fs:List Addr)(e:Addr)(T:Option (Addr×Value))(h h':Uw):Prop where
 keep:∀ b o,h.get? b=some o->b≠e->(∀ p,T=some p->b≠p.1)->b∉fs->h'.get? b=some o
 slot:∀ b o,h.get? b=some o->b≠e->(∀ p,T=some p->b≠p.1)->∃ sl,h'.get? b=some { o with slots:=sl }
theorem Mm (o:Obj) (f):(o.mapFields f).dict=o.dict:=by
 cases o with
 | mk c d a b=>cases a<;>rfl
section
variable {M:YJ}{A:TJ}{E:Value->SX->Prop}{s:SX}{base:Uw}{env:XN}{outer:List XN}{L e:Addr}{cls:Value}{dc:Option Addr}
theorem XRec.noFrame {h:Uw}{T:Option (Addr×Value)}{l:List XN}(x:XRec h e cls dc T)(d:h.FunFrames base l):e∉dB l/\∀ p,T=some p->p.1∉dB l:=by
 obtain ⟨o,v,m,_,_,n,_,_⟩:=x.ob
 refine ⟨fun c=>?_,fun p q c=>?_⟩
 ·obtain ⟨_,r,a,b⟩:=d.mem c
  rw [m] at a;cases a
  exact b v n
 ·obtain ⟨_,w,u,i,j,_⟩:=x.tb p q
  obtain ⟨_,r,a,b⟩:=d.mem c
  rw [i] at a;cases a
  exact b u j
theorem CM {T:Option (Addr×Value)}{hd:Value}{nx:Bool}{Q:Unit->SX->Prop}(j:A.frames=some (env::outer))(v:s.heap.FunFrames base (env::outer))(U:env.frame=some L)(x:XRec s.heap e cls dc T)
  (k:∀ d m,XRec d e cls dc (some (m,WC L))->s.heap.objs.size<=m->XKept (dB (env::outer)) e T s.heap d->Q () { s with heap:=d }) :
  TK M A (do a3p (.ref e) 1 (<- ZQ hd (<- frameOf env) .none (WC L) .none (<- entryPlaceOf L nx))) Q E s:=by
 obtain ⟨o,Z,H,I,K,u,N,O⟩:=x.ob
 have y:1<Z.size:=(VR.mp N).1
 have ne:=(x.noFrame v).1
 refine S0 (wpAny_frameOf_fun j v U fun a c=>?_)
 refine S0 (wpAny_entryPlaceOf fun G w=>?_)
 unfold ZQ newFields
 refine S0 (V5 ?_ (w.sizeOk5 _ _ _ _ _))
 have q:a.get? e=some o:=(c.2.1 e ne).trans H
 generalize hob:({ cls:=.type "traceback",dict:=none,data:=.fields ([hd,.ref L,.none,WC L,.none]++(if G.isEmpty then Vr 6 UE else G)).toArray }:Obj)=tb
 have r:(a.push tb).get? e=some o:=S9 _ q
 refine YD r u y (k _ a.objs.size ?_ ?_ ?_)
 ·have z:a.objs.size≠e:=VP (Tg q)
  have n:=YI u (·.setIfInBounds 1 (Tr a.objs.size))
  refine ⟨⟨_,_,VW _ r (Yj n),by rw [Obj.cls_mapFields];exact I,?_,n,by simp [y],by simp [O]⟩,fun p l=>?_⟩
  ·rw [<- K,Mm]
  ·cases l
   refine ⟨z,tb,_,?_,by rw [<- hob],?_⟩
   ·rw [UM _ _ (UH z)]
    exact TZ _ (by rw [<- hob];rfl)
   ·first|(simp;done)|(rcases w with rfl|⟨_,_,_,_,_,_,_,rfl⟩<;>simp)
 ·rw [c.1]
  exact Th _
 ·refine ⟨fun b B i h _ R=>?_,fun b B i h _=>?_⟩
  ·rw [UM _ _ (UH h)]
   exact S9 _ ((c.2.1 b R).trans i)
  ·obtain ⟨Y,X⟩:=c.2.2 b B i
   refine ⟨Y,?_⟩
   rw [UM _ _ (UH h)]
   exact S9 _ X
theorem CN {T:Option (Addr×Value)}{Q:Unit->SX->Prop}(I:∀ p,T=some p->p.2=.none)(i:A.frames=some (env::outer))(v:s.heap.FunFrames base (env::outer))(u:env.frame=some L)(x:XRec s.heap e cls dc T)
  (k:∀ d l,XRec d e cls dc (some (l,WC L))->s.heap.objs.size<=l->XKept (dB (env::outer)) e T s.heap d->Q () { s with heap:=d }):TK M A (ZJ (.ref e) env) Q E s:=by
 obtain ⟨o,vs,B,O,R,G,H,U⟩:=x.ob
 unfold ZJ
 simp only [u]
 refine S0 (Wx B G H ?_)
 cases T with
 | none=>
  rw [if_neg (by decide)]
  exact CM i v u x k
 | some p=>
  obtain ⟨N,oT,ts,m,n,w⟩:=x.tb p rfl
  rw [if_pos (show (Tr p.1 != UE)=true by simp)]
  refine S0 (Wx m n w ?_)
  rw [I p rfl,if_neg (show ¬ (UE == WC L)=true by simp [WC])]
  refine S0 (YD m n (VR.mp w).1 ?_)
  have a:∀ b,b≠p.1->(s.heap.update p.1 (a2x (·.setIfInBounds 3 UE))).get? b=s.heap.get? b:=fun b c=>UM _ _ (UH c)
  have nfr:=(x.noFrame v).2 p rfl
  refine CM (T:=some p) i (v.of_keeps fun b j c nf=>⟨j,(a b fun z=>by rw [z,m] at c;cases c;exact nf ts n).trans c,rfl⟩) u ⟨⟨o,vs,(a e (UH N)).trans B,O,R,G,H,U⟩,fun q Y=>?_⟩ fun d l x' Z K=>k d l x' (by simpa using Z) ⟨fun b j c r h X=>?_,fun b j c r h=>?_⟩
  ·cases Y
   have y:=YI n (·.setIfInBounds 3 UE)
   exact ⟨N,_,_,VW _ m (Yj y),y,by rw [I p rfl];simp [(VR.mp w).1]⟩
  ·exact K.keep b j ((a b (h p rfl)).trans c) r h X
  ·exact K.slot b j ((a b (h p rfl)).trans c) r h
theorem xH {T:Addr}{q:Value}{Q:Unit->SX->Prop}(x:XRec s.heap e cls dc (some (T,q)))(k:∀ h',XRec h' e cls dc (some (T,.none))->h'.objs.size=s.heap.objs.size->(∀ b,b≠T->h'.get? b=s.heap.get? b)->Q () { s with heap:=h' }) :
  TK M A (ZH (.ref e) none) Q E s:=by
 obtain ⟨o,z,d,r,u,h,i,v⟩:=x.ob
 obtain ⟨j,B,G,l,m,n⟩:=x.tb _ rfl
 unfold ZH
 refine S0 (Wx d h i ?_)
 rw [if_pos (show (Tr T != UE)=true by simp)]
 have a:∀ b,b≠T->(s.heap.update T (a2x (·.setIfInBounds 3 UE))).get? b=s.heap.get? b:=fun b w=>UM _ _ (UH w)
 have c:=YI m (·.setIfInBounds 3 UE)
 refine YD l m (VR.mp n).1 (k _ ⟨⟨o,z,(a e (UH j)).trans d,r,u,h,i,v⟩,fun p y=>?_⟩ (by simp) a)
 cases y
 exact ⟨j,_,_,VW _ l (Yj c),c,by simp [(VR.mp n).1]⟩
theorem Mn {T:Option (Addr×Value)}{Q:Unit->SX->Prop}(w:∀ p,T=some p->p.2=.none)(d:A.frames=some (env::outer))(z:s.heap.FunFrames base (env::outer))(y:env.frame=some L)(x:XRec s.heap e cls dc T)
  (k:∀ c l,XRec c e cls dc (some (l,.none))->s.heap.objs.size<=l->XKept (dB (env::outer)) e T s.heap c->Q () { s with heap:=c }):TK M A (a2t env (.ref e)) Q E s:=by
 unfold a2t
 refine S0 (CN w d z y x fun r q H j m=>?_)
 refine xH (s:={ s with heap:=r }) H fun u I _ n=>k u q I j ⟨fun b o a h i B=>?_,fun b o a h i=>?_⟩
 ·rw [n b (TL (TF (Tg a) j))]
  exact m.keep b o a h i B
 ·obtain ⟨G,v⟩:=m.slot b o a h i
  refine ⟨G,?_⟩
  rw [n b (TL (TF (Tg a) j))]
  exact v
end
end L3
namespace L3
open PySem L2 PySem.Spec PyProof.Rows
structure Ex (X:Cx)(a3A:List (Addr×Obj))(H:Hp)(s:SX)(e:Addr)(cls:Value)(dc:Option Addr)(T:Option (Addr×Value)):Prop where
 rc:XRec s.heap e cls dc T
 hT:∀ p,T=some p->p.2=.none
 lo:X.s₀.heap.get? e=none/\∀ p,T=some p->X.s₀.heap.get? p.1=none
 fr:H e=none/\∀ p,T=some p->H p.1=none
 pn:∀ q∈X.pn++a3A,q.1≠e/\∀ p,T=some p->q.1≠p.1
noncomputable def iF (P:Tt)(w:TV):fL:=fun outer H s E e a=>∃ b H' cls c T,e=.ref b/\a.os=s.os/\X2 a.gens/\Un (dB outer) [] H H' s.heap a.heap/\HOk P w H' a.heap /\
 XRec a.heap b cls c (some (T,.none))/\s.heap.get? b=none/\s.heap.get? T=none/\H' b=none/\H' T=none/\E cls c H'
section
variable {X:Cx}{a3A:List (Addr×Obj)}{σ:L2.St}{H H':Hp}{s s':SX}{e:Addr}{cls:Value}{dc:Option Addr}{T:Option (Addr×Value)}
theorem XKept.hok {P:Tt}{w:TV}{h h':Uw}{fs:List Addr}(k:XKept fs e T h h')(ok:HOk P w H h)(l:H e=none)(j:∀ p,T=some p->H p.1=none)(m:∀ b∈fs,H b=none):HOk P w H h':=fun b u q=>by
 have ne:∀ c v,H c=some v->c≠e/\(∀ p,T=some p->c≠p.1)/\c∉fs:=fun c v hc=>
  ⟨(fun z=>by rw [z,l] at hc;cases hc),(fun p n z=>by rw [z,j p n] at hc;cases hc),(fun z=>by rw [m c z] at hc;cases hc)⟩
 refine (ok b u q).stay (fun c v hc g=>?_) (fun _ g=>g) fun _ _ g=>g
 rcases hc with rfl|hc
 ·obtain ⟨a,d,i⟩:=ne c u q
  exact k.keep c v g a d i
 ·obtain ⟨a,d,i⟩:=ne c _ hc
  exact k.keep c v g a d i
theorem Mo {E:XK}{v:Value}(l:X.ex=[])(I:Inv X a3A σ H s)(h:iF X.prog X.w X.stack H s E v s'):∃ e H' cls dc T,v=.ref e/\Inv X a3A σ H' s'/\Ex X a3A H' s' e cls dc (some (T,.none))/\E cls dc H':=by
 obtain ⟨e,H',cls,dc,T,rfl,A,i,un,hok,B,m,n,r,u,w⟩:=h
 have j:∀ a,s.heap.get? a=none->X.s₀.heap.get? a=none:=fun a x=>by
  cases q:X.s₀.heap.get? a with
  | none=>rfl
  | some o=>
   obtain ⟨G,g⟩:=I.base.there a o q (by rw [l];simp)
   rw [x] at g;cases g
 refine ⟨e,H',cls,dc,T,rfl,I.call' (ch:=[]) A un hok i (fun b z=>absurd z (by simp)),⟨B,(fun p d=>by cases d;rfl),⟨j e m,(fun p d=>by cases d;exact j T n)⟩,⟨r,(fun p d=>by cases d;exact u)⟩,fun q y=>?_⟩,w⟩
 have c:=(I.pin q y).1
 exact ⟨(fun z=>by rw [z,m] at c;cases c),(fun p d z=>by cases d;rw [z,n] at c;cases c)⟩
theorem CO {ch:List Addr}(I:Inv X a3A σ H s)(l:X.ex=[])(h1:∀ b∈ch,X.s₀.heap.get? b=none)(q:∀ b∈ch,∃ o vs,s.heap.get? b=some o/\o.data=.fields vs):Inv { X with ex:=ch } a3A σ H s:=by
 have i:∀ b o,X.s₀.heap.get? b=some o->b∉ch:=fun b o a z=>by rw [h1 b z] at a;cases a
 have o:=I.ok
 refine ⟨⟨o.mod,o.kind,o.glob,o.blt,o.above,o.inj,o.has,o.cab,o.hd,o.frames,o.stk,fun b a=>?_,o.bs,o.bsz,fun b j a=>i b j (o.bs b j a).1,fun b a r=>?_,o.funs,o.frf⟩,I.os,I.bare,?_,I.loc,I.cell,I.free,I.freeC,I.pin,I.hok,I.len⟩
 ·obtain ⟨j,vs,n,p⟩:=q b a
  refine ⟨fun z=>?_,fun y c hc z=>?_⟩
  ·obtain ⟨m,⟨A,x,w,d,h,_⟩,_⟩:=I.loc
   have z:b=X.env.locals:=z
   rw [<- z,n] at d
   cases d
   rw [p] at h
   cases h
  ·obtain ⟨v,B,d,h⟩:=I.cell y c hc
   rw [z,n] at d
   cases d
   rw [p] at h
   cases h
 ·obtain ⟨_,j,d,_⟩:=o.funs.mem r
  exact i b j d a
 ·have u:=I.base
  rw [l] at u
  exact u.mono (fun _ z=>z) (by simp)
theorem CP {ch:List Addr}(I:Inv { X with ex:=ch } a3A σ H s)(h:X.ex=[])(h1:∀ b∈ch,X.s₀.heap.get? b=none):Inv X a3A σ H s:=by
 have d:∀ b o,X.s₀.heap.get? b=some o->b∉ch:=fun b o a z=>by rw [h1 b z] at a;cases a
 have o:=I.ok
 have u:=I.base
 refine ⟨⟨o.mod,o.kind,o.glob,o.blt,o.above,o.inj,o.has,o.cab,o.hd,o.frames,o.stk,(by rw [h];intro b z;cases z),o.bs,o.bsz,(by rw [h];intro b _ _ z;cases z),(by rw [h];intro b z;cases z),o.funs,o.frf⟩,I.os,I.bare,?_,I.loc,I.cell,I.free,I.freeC,I.pin,I.hok,I.len⟩
 exact ⟨fun b c a n i _=>u.keep b c a n i (d b c a),fun b c a n i _=>u.slot b c a n i (d b c a),fun b c a n _=>u.free b c a n (d b c a),fun b c a _=>u.there b c a (d b c a),u.tups,u.frzs,u.tbls⟩
noncomputable def mF (e:Addr)(T:Option (Addr×Value)):List Addr:=e::(match T with|none=>[]|some p=>[p.1])
theorem mem_ch {b:Addr}:b∈mF e T↔b=e\/∃ p,T=some p/\b=p.1:=by
 unfold mF
 cases T with
 | none=>simp
 | some p=>simp
theorem Ex.kept (h:X.ex=[])(I:Inv X a3A σ H s)(x:Ex X a3A H s e cls dc T){h':Uw}(k:XKept (dB X.stack) e T s.heap h'):Inv X a3A σ H { s with heap:=h' }:=by
 have r:∀ b∈mF e T,X.s₀.heap.get? b=none:=fun b a=>by
  rcases mem_ch.mp a with rfl|⟨p,d,rfl⟩
  ·exact x.lo.1
  ·exact x.lo.2 p d
 have G:∀ b∈mF e T,∃ o l,s.heap.get? b=some o/\o.data=.fields l:=fun b a=>by
  rcases mem_ch.mp a with rfl|⟨p,d,rfl⟩
  ·obtain ⟨o,l,j,_,_,E,_,_⟩:=x.rc.ob
   exact ⟨o,l,j,E⟩
  ·obtain ⟨_,Q,R,j,B,_⟩:=x.rc.tb p d
   exact ⟨Q,R,j,B⟩
 have ne:∀ b,b∉mF e T->b≠e/\∀ p,T=some p->b≠p.1:=fun b a=>⟨fun z=>a (mem_ch.mpr (.inl z)),fun p d z=>a (mem_ch.mpr (.inr ⟨p,d,z⟩))⟩
 have i:=CO I h r G
 have w:=i.step (H':=H) (h':=h') (g':=s.gens) (d':=s.drawn) (t':=s.toks) (ch:=mF e T) (fun b a=>⟨.inl a,(i.ok.exf b a).1,(i.ok.exf b a).2,fun q u=>?_⟩)
  (fun b o N O c g _=>k.keep b o g (ne b c).1 (ne b c).2 fun z=>(TN.mp (I.stkSub b z)).elim N O)
  (fun b o _ _ c g _=>k.slot b o g (ne b c).1 (ne b c).2) (fun _ _ _ _ n=>n) (fun b o c g=>let ⟨_,z⟩:=k.slot b o g (ne b c).1 (ne b c).2;⟨_,z⟩)
  (fun _ _ g=>g) (fun _ _ _ g=>g) (fun b Y g=>⟨#[],by rw [g];simp⟩) (fun m K=>?_) (k.hok I.hok x.fr.1 x.fr.2 I.stkFree) I.bare
 ·exact CP w h r
 ·rcases mem_ch.mp a with rfl|⟨p,d,rfl⟩
  ·exact (x.pn q u).1
  ·exact (x.pn q u).2 p d
 ·obtain ⟨U,A,y,L,M⟩:=K
  have v:X.env.locals∉mF e T:=fun z=>(i.ok.exf _ z).1 rfl
  obtain ⟨Z,g⟩:=k.slot _ _ L (ne _ v).1 (ne _ v).2
  exact ⟨_,A,y,g,M⟩
end
theorem Mp {P:Tt}{w:TV}{K:SV}{mg:Str->Option Value}{base:Uw}{N:List Str}{a:Str}{scope:V1}{f:Addr}{i:Value}{A:TJ}{outer:List XN}{s₀ s:SX}{H₀ H:Hp}{E:XK}{a3A:List (Addr×Obj)}{σ:L2.St}{e:Addr}{cls:Value}{q:Option Addr}{T:Option (Addr×Value)}
  (I:Inv (d4 (iF P w) P w K mg base N a scope f i A outer s₀ H₀ E) a3A σ H s)(x:Ex (d4 (iF P w) P w K mg base N a scope f i A outer s₀ H₀ E) a3A H s e cls q T)(h:E cls q H) :
  (d4 (iF P w) P w K mg base N a scope f i A outer s₀ H₀ E).xe (.ref e) s:=by
 have d:∀ b o,s₀.heap.get? b=some o->b≠e/\(∀ p,T=some p->b≠p.1)/\b≠s₀.heap.objs.size:=fun b o c=>
  ⟨(fun z=>by rw [z] at c;rw [show s₀.heap.get? e=none from x.lo.1] at c;cases c),(fun p L z=>by rw [z] at c;rw [show s₀.heap.get? p.1=none from x.lo.2 p L] at c;cases c),TL (Tg c)⟩
 have u:dB (envOfC a scope s₀.heap.objs.size f i::outer)=s₀.heap.objs.size::dB outer:=rfl
 show TK (TH P w) (A.deeper (envOfC a scope s₀.heap.objs.size f i)) (a2t (envOfC a scope s₀.heap.objs.size f i) (.ref e)) _ _ s
 refine Mn x.hT I.ok.frames I.stack rfl x.rc fun R G Q B k=>?_
 refine ⟨e,H,cls,q,G,rfl,I.os,I.bare,⟨fun b o c n m _=>?_,fun b o c n m _=>?_,fun b o c n _=>I.base.free b o c n (by simp [d4]),fun b o c _=>?_,I.base.tups,I.base.frzs,I.base.tbls⟩,k.hok I.hok x.fr.1 x.fr.2 I.stkFree,Q,x.lo.1,Yn (Uk I.sz B),x.fr.1,I.hok.fresh B,h⟩
 ·obtain ⟨j,l,v⟩:=d b o c
  refine k.keep b o (I.base.keep b o c n m (by simp [d4])) j l ?_
  rw [u]
  intro z
  rcases TN.mp z with z|z
  ·exact v z
  ·exact m z
 ·obtain ⟨j,l,v⟩:=d b o c
  obtain ⟨O,g⟩:=I.base.slot b o c n m (by simp [d4])
  obtain ⟨y,r⟩:=k.slot b _ g j l
  exact ⟨y,r⟩
 ·obtain ⟨j,l,v⟩:=d b o c
  obtain ⟨M,g⟩:=I.base.there b o c (by simp [d4])
  obtain ⟨O,r⟩:=k.slot b M g j l
  exact ⟨_,r⟩
end L3
namespace L3
open PySem L2
noncomputable abbrev Xn:=Str×List (Str×D)
noncomputable abbrev MR:=aG->Hm->Option (Xn×aG×Hm)
noncomputable abbrev RF:=List D->Hm->Option (Xn×Hm)
noncomputable def Mq (K:SV)(cls:Value)(x:Str):Prop:=Vm K Ux x=some (some cls)
noncomputable def tD (K:SV)(π:Nat->Addr)(n:Nat)(H:Hp)(cls:Value)(a:Option Addr)(x:Xn):Prop:=
 Mq K cls x.1/\(x.2=[]/\a=none\/∃ (b:Addr)(c:Obj)(vs:List (Str×V)),a=some b/\H b=some (.frz c (.xd vs))/\vs.map (·.1)=x.2.map (·.1)/\IsDs K π n H (vs.map (·.2)) (x.2.map (·.2)))
noncomputable def Wish (X:Cx)(a3A:List (Addr×Obj))(π:Nat->Addr)(n:Nat)(H:Hp)(x:Xn)(i:aG)(a:Hm):Prop:=
 ∀ b d c h e cls j T,Ext π n H b a.length c->Rp X.K b c a->En X.K b a.length c d i->Inv X a3A d c h->Ex X a3A c h e cls j T->tD X.K b a.length c cls j x->X.xe (.ref e) h
theorem Wish.after {X:Cx}{a3A:List (Addr×Obj)}{π c:Nat->Addr}{n m:Nat}{H l:Hp}{x:Xn}{d:aG}{b:Hm}(h:Wish X a3A π n H x d b)(e:Ext π n H c m l):Wish X a3A c m l x d b:=
 fun i j o r a cls p T q=>h i j o r a cls p T (e.trans q)
structure QRE (X:Cx)(e:Expr)(r:MR):Prop where
 h:∀ a3A s σ H π ρ μ x ρ' μ',Inv X a3A σ H s->Rp X.K π H μ->En X.K π μ.length H σ ρ->r ρ μ=some (x,ρ',μ')->Wish X a3A π μ.length H x ρ' μ'->TK (TH X.prog X.w) X.A (eval e X.env) (fun _ _=>False) X.xe s
structure QR (X:Cx)(st:Stmt)(r:MR):Prop where
 h:∀ a3A s σ H π ρ μ x ρ' μ',Inv X a3A σ H s->Rp X.K π H μ->En X.K π μ.length H σ ρ->r ρ μ=some (x,ρ',μ')->Wish X a3A π μ.length H x ρ' μ'->TK (TH X.prog X.w) X.A (exec st X.env) (fun _ _=>False) X.xe s
structure QRB (X:Cx)(st:List Stmt)(r:MR):Prop where
 h:∀ a3A s σ H π ρ μ x ρ' μ',Inv X a3A σ H s->Rp X.K π H μ->En X.K π μ.length H σ ρ->r ρ μ=some (x,ρ',μ')->Wish X a3A π μ.length H x ρ' μ'->TK (TH X.prog X.w) X.A (execs st X.env) (fun _ _=>False) X.xe s
noncomputable def bZ:MR:=fun _ _=>none
theorem iG {X:Cx}{st:Stmt}:QR X st bZ:=⟨fun _ _ _ _ _ _ _ _ _ _ _ _ _ h=>by cases h⟩
theorem xI {X:Cx}{e:Expr}:QRE X e bZ:=⟨fun _ _ _ _ _ _ _ _ _ _ _ _ _ h=>by cases h⟩
theorem Mr {X:Cx}{st:List Stmt}:QRB X st bZ:=⟨fun _ _ _ _ _ _ _ _ _ _ _ _ _ h=>by cases h⟩
section
variable {X:Cx}{e:Expr}{st:Stmt}{rest a b:List Stmt}{r ra rb:MR}{m:MS}{pos:Va}
theorem Ms (j:QRE X e r)(h:eG e=true):QR X (.Expr e pos) r:=
 ⟨fun c s q H o p n x i d I R E l w=>a3m (aU (j.h c s q H o p n x i d I R E l w) fun _ _ z=>z.elim) I.quiet (qE h)⟩
theorem Mt (i:QRE X e r):QR X (.Return (some e) pos) r:=
 ⟨fun c s p H n o l x h d I R E j w=>a2n (aU (i.h c s p H n o l x h d I R E j w) fun _ _ z=>z.elim)⟩
theorem Mu {y:Str}{c:Va}(l:QRE X e r)(h:eG e=true):QR X (.Assign [.Name y c] e pos) r:=
 ⟨fun d s u H p q o x j i I R E n w=>a2o (aU (l.h d s u H p q o x j i I R E n w) fun _ _ z=>z.elim) (qE h)⟩
noncomputable def dO (m:MS)(ra rb:MR):MR:=fun d c=>match ra d c with
 | some p=>some p
 | none=>match m d c with
  | some (.nx,ρ1,μ1)=>rb ρ1 μ1
  | _=>none
theorem Mv (U:QS X.nox st m)(Q:QR X st ra)(T:QRB X rest rb):QRB X (st::rest) (dO m ra rb):=by
 refine ⟨fun i s M H K L G x v o I R E n w=>ZG ?_⟩
 unfold dO at n
 split at n
 ·rename_i p Y
  cases n
  exact aU (Q.h i s M H K L G x v o I R E Y w) fun _ _ z=>z.elim
 ·split at n
  ·rename_i j d O
   have k:=U.h i s M H { nx:=fun h l=>∃ c,Ext K G.length H c d.length l/\Rp X.K c l d/\En X.K c d.length l h j,rt:=fun _ _=>False } (I.wish _)
    ⟨K,L,G,.nx,j,d,R,E,O,fun c h l B A y=>⟨c,B,A,y⟩⟩
   refine T9 k (fun f Z q=>?_) fun _ _ z=>Um z
   cases f with
   | next=>
    obtain ⟨h,l,N,c,B,A,y⟩:=q
    exact T.h i Z h l c j d x v o N.unwish A y n (w.after B)
   | ret u=>obtain ⟨_,_,_,_,_,q⟩:=q;exact q.elim
   | brk=>obtain ⟨_,_,_,q⟩:=q;exact q.elim
   | cont=>obtain ⟨_,_,_,q⟩:=q;exact q.elim
  ·cases n
theorem Mw:QRB X [] bZ:=Mr
noncomputable def jX (t:MT)(ra rb:MR):MR:=fun c d=>(t c d).bind fun p=>if p.1=true then ra c p.2 else rb c p.2
theorem Mx {c:Expr}{t:MT}(hc:QT X.nox c t)(O:QRB X a ra)(Q:QRB X b rb):QR X (.If c a b pos) (jX t ra rb):=by
 refine ⟨fun j s B H M A L x u p I R E l w=>wpAny_If ?_⟩
 obtain ⟨⟨d,i⟩,N,l⟩:=SS.mp l
 have k:=hc.h j s B H (fun y n=>y=d/\∃ h,Ext M L.length H h i.length n/\Rp X.K h n i) (I.wish _) ⟨M,A,L,d,i,R,E,N,fun h n o v=>⟨rfl,h,o,v⟩⟩
 refine T9 k (fun y K q=>?_) fun _ _ z=>Um z
 obtain ⟨n,G,rfl,h,o,v⟩:=q
 dsimp only at l
 cases y with
 | true=>
  rw [if_pos rfl] at l
  exact O.h j K B n h A i x u p G.unwish v (E.mono o) l (w.after o)
 | false=>
  rw [if_neg (by decide)] at l
  exact Q.h j K B n h A i x u p G.unwish v (E.mono o) l (w.after o)
end
noncomputable def n8 (K:SV)(n:Nat)(r:RF):Sp:=fun vs H _ E=>vs.length=n/\∃ π ds d x a,Rp K π H d/\IsDs K π d.length H vs ds/\r ds d=some (x,a) /\
 ∀ b c cls e,Ext π d.length H b a.length c->Rp K b c a->tD K b a.length c cls e x->E cls e c
noncomputable def qF (r:RF)(b:MA):MR:=fun a c=>(b a c).bind fun p=>(r p.1 p.2).map fun q=>(q.1,a,q.2)
section
variable {X:Cx}{k n:Nat}{f:Addr}{fd:U1}{ps:List Str}{x:Str}{p pos:Va}{e:Expr}{es:List Expr}{ms:MA}{r:RF}
theorem My (hex:X.ex=[])(F:FnOk X.prog X.w X.K X.mg X.base (iF X.prog X.w) k f fd ps (n8 X.K n r))(hr:Room k X.A)(hg:Gl X x)(hm:X.mg x=some (.ref f))(hk:UR X.K (.ref f)=true)(hb:Binds X.K fd ps [])(Y:QA X.nox (e::es) ms n)
  (Z:(x == ("__debug__":Str))=false):QRE X (.Call (.Name x p) (e::es) [] pos) (qF r ms):=by
 refine ⟨fun U s σ H π ρ μ y ρ' μ' I R E h w=>?_⟩
 obtain ⟨⟨ds,b⟩,h1,h⟩:=SS.mp h
 obtain ⟨⟨y',i⟩,h2,h⟩:=SY.mp h
 cases h
 have hst:=Y.s
 have d:=hst
 rw [Ul,SW] at d
 refine U6 (jL I hg hm ?_ Z)
 have k1:=Y.h pos U s σ H (fun o j=>∃ a,Ext π μ.length H a b.length j/\Rp X.K a j b/\IsDs X.K a b.length j o ds) (I.wish _) ⟨π,ρ,μ,ds,b,R,E,h1,fun a o j L Q M=>⟨a,L,Q,M⟩⟩
 refine Yp (h₀:=X.base) I.ok.mod.kin hk (T9 k1 (fun N s1 ⟨o,j,m,rv,a,L,Q,M⟩=>⟨m.unwish.kIn,?_⟩) fun _ _ z=>Um z) (d9 d.1) (iC d.2)
 have m:=m.unwish
 have hn:o.length=n:=by
  rw [M.length]
  exact Y.l ρ μ ds b h1
 have B:n8 X.K n r o j (fun _ _=>False) (fun cls G l=>∃ c,Ext a b.length j c i.length l/\Rp X.K c l i/\tD X.K c i.length l cls G y'):=
  ⟨hn,a,ds,b,y',i,Q,M,h2,fun c l cls G K O ix=>⟨c,K,O,ix⟩⟩
 have hl:N.length=ps.length:=by rw [<- rv.length];exact F.len _ _ _ _ B
 refine a0a (XE (F.run X.A X.stack s1 j ⟨N,[]⟩ N o _ _ hr m.env0 (by have:=hb s1 N m.kIn (by simpa using hl);rwa [UK] at this) rv B) fun rr s' A=>?_)
 cases rr with
 | error v=>
  obtain ⟨ee,l,cls,G,T,rfl,I',x',c,K,O,ix⟩:=Mo hex m A
  exact w c σ l s' ee cls G (some (T,.none)) (L.trans K) O ((E.mono L).mono K) I' x' ix
 | ok fl=>
  cases fl with
  | ret u=>obtain ⟨_,_,_,_,_,_,_,q⟩:=A;exact q
  | next=>exact Um A
  | brk=>exact Um A
  | cont=>exact Um A
end
noncomputable def xJ (n:Nat)(r:MR):RF:=fun ds a=>(r (pW n ds) a).map fun p=>(p.1,p.2.2)
theorem Mz {P:Tt}{w:TV}{K:SV}{mg:Str->Option Value}{base:Uw}{x a:Str}{st:Stmt}{f:Addr}{G:U1}{N ps:List Str}{k:Nat}{body:List Stmt}{r:MR}(F:Fun K x a st f G)(S:FnScope N ps (bF st))(p:ps.length<=N.length)(m:cH st=body)
  (c:∀ (b:Value)(A:TJ)(outer:List XN)(s:SX)(H:Hp)(E:XK),Room k (A.deeper (WN a (bF st) s.heap.objs.size f b))->
   QRB (d4 (iF P w) P w K mg base N a (bF st) f b A outer s H E) body r):FnOk P w K mg base (iF P w) (k+1) f G ps (n8 K ps.length (xJ N.length r)):=by
 obtain ⟨oc,od,kV,X,pm,an,b,ct,osl,rfl,lk,n⟩:=F.ex
 refine A7 (CX:=iF P w) (sp:=n8 K ps.length (xJ N.length r)) lk n S (fun L H Q E h=>h.1) fun A outer s H L Q E hr h=>⟨fun _ d j=>d=L2.start N L/\j=H,?_,rfl,rfl⟩
 obtain ⟨hv,π,ds,μ,y,μ',R,i,o,kc⟩:=h
 obtain ⟨⟨y',v,q⟩,Z,o⟩:=SY.mp o
 cases o
 rintro l s1 σ B D I ⟨rfl,rfl⟩
 rw [m]
 refine aU ((c b A outer s B E hr).h l s1 _ B π _ μ y' v q I R (wI i (by rw [hv];exact p)) Z fun u d j s' e cls U T Y O E' M x' ix=>?_) fun _ _ z=>Um z
 exact Mp M x' (kc u j cls U Y O ix)
end L3
namespace L3
open PySem L2
noncomputable abbrev xK:List Value:=[.type "ValueError",.type "Exception",.type "BaseException",.type "object"]
structure ClsK (K:SV)(x:Str)(C:Addr):Prop where
 exc:Yl K C xK "ValueError.__new__" = true
 nm:Vm K Ux x=some (some (.ref C))
theorem MB {K:SV}{h:Uw}{C:Addr}{d:List Value}{a:String}(X:K.In h)(q:Yl K C d a=true) :
  ∃ i N u v bs hd w c r b s j l m o p x,h.get? C=some (YG u v C N bs i hd w c r b s j l m o p a)/\h.Ns N x/\x "__init__" = none/\OwnTail h d i:=by
 unfold Yl at q
 split at q
 ·rename_i s z T E
  split at q
  ·rename_i U i j l m o n p B G
   rw [SW,SW,SW,SW,SW,beq_iff_eq,beq_iff_eq,beq_iff_eq,Wi] at q
   obtain ⟨⟨⟨⟨⟨L,M⟩,O⟩,Q⟩,y⟩,R⟩:=q
   subst L M
   cases z with
   | mk u bs H I v hd w c r b A=>
    cases B
    cases O
    have e:T = #[j,l,m,o,some (.builtin n),p]:=UY.mp G
    subst e
    exact ⟨i,I,u,v,bs,hd,w,c,r,b,s,j,l,m,o,p,_,X _ _ E,.of_isNs (PySem.W.isNs_of_in X y),PySem.W.nsMap_none_of_in X y R,PySem.W.tail_of_in X Q⟩
  ·cases q
 ·cases q
noncomputable def mG (x:Str)(b:MA):MR:=fun a c=>(b a c).map fun p=>((x,[]),a,p.2)
theorem MC {P:Tt}{w:TV}{H:Hp}{h:Uw}(ok:HOk P w H h){a:Addr}(b:h.get? a=none):H a=none:=by
 cases q:H a with
 | none=>rfl
 | some u=>
  obtain ⟨o,g⟩:=Mh (ok a u q)
  rw [b] at g;cases g
theorem MH {X:Cx}{a3A:List (Addr×Obj)}{σ:L2.St}{H:Hp}{s:SX}(I:Inv X a3A σ H s)(b:X.ex=[]){a:Addr}(c:s.heap.get? a=none):X.s₀.heap.get? a=none:=by
 cases q:X.s₀.heap.get? a with
 | none=>rfl
 | some o=>
  obtain ⟨d,g⟩:=I.base.there a o q (by rw [b];simp)
  rw [c] at g;cases g
theorem MJ {X:Cx}{x:Str}{C:Addr}{e:Expr}{es:List Expr}{ms:MA}{n:Nat}{np a pos:Va}(c:ClsK X.K x C)(M:X.ex=[])(hc:X.calm=true)(hg:Gl X x)(K:QA X.nox (e::es) ms n)(hn:n<=30)
  (L:(x == ("__debug__":Str))=false):QR X (.Raise (some (.Call (.Name x np) (e::es) [] a)) none pos) (mG x ms):=by
 refine ⟨fun o s σ H π ρ Z y ρ' μ' I R E h w=>?_⟩
 obtain ⟨⟨ds,l⟩,h1,h⟩:=SY.mp h
 cases h
 have Q:=K.s
 have d:=Q
 rw [Ul,SW] at d
 have he:T5 (e::es) X.env=_:=d9 d.1
 have O:(V0 a (T5 es X.env)).any (·.1)=false:=iC d.2
 obtain ⟨bm,N,nm,qn,bs,hd,sn,U,ab,G,dd,k0,T,k2,k3,k5,mN,o1,o2,o3,o4⟩:=MB I.mod.kin c.exc
 refine wpAny_Raise_call_subT (C:=C) (nm:=nm) (q:=qn) (N:=N) (bs:=bs) (bm:=bm) (hdct:=hd) (sn:=sn) (sub:=U) (ab:=ab) (col:=G) (dd:=dd) (k0:=k0) (k1:=T) (k2:=k2) (k3:=k3) (k5:=k5) Y9 (mN:=mN)
  (o4.hasType Y9.hasBase) (I.ok.hd hc) (by rw [he];show (false||(V0 a (T5 es X.env)).any (·.1))=false;rw [O];rfl) o3 (jL I hg (Ws I.mod.kin I.mod.glob c.nm) ⟨rfl,?_⟩ L)
 have T:=K.h a o s σ H (fun Y m=>∃ b,Ext π Z.length H b l.length m/\Rp X.K b m l/\Y.length=n) (I.wish _) ⟨π,ρ,Z,ds,l,R,E,h1,fun b Y m A B i1=>⟨b,A,B,by rw [i1.length];exact K.l ρ Z ds l h1⟩⟩
 have u:TK (TH X.prog X.w) X.A (spliced (V0 a (T5 (e::es) X.env))) _ _ s:=T
 rw [he] at u ⊢
 refine Yk (T9 u (fun us s1 ⟨Y,m,i,rv,b,A,B,hl⟩=>?_) fun _ _ z=>Um z)
 have i:=i.unwish
 have v:us.length<=Td:=by
  have:=rv.length
  rw [<- this,hl,TM]
  omega
 refine ⟨rfl,v,i.bk _ _ o1,o2.keeps i.bk,o4.keeps i.bk,fun h' ea r=>?_⟩
 obtain ⟨t,t1,_,_⟩:=r.there
 have I2:Inv X o σ m { s1 with heap:=h' }:=i.kept (t':=s1.toks) r.keeps
 refine w b σ m _ ea (.ref C) none none A B (E.mono A) I2 ⟨⟨⟨_,_,t1,rfl,rfl,rfl,rfl,rfl⟩,fun p j=>nomatch j⟩,(fun p j=>nomatch j),⟨MH i M r.new,fun p j=>nomatch j⟩,⟨MC i.hok r.new,fun p j=>nomatch j⟩,fun q hq=>⟨fun z=>?_,fun p j=>nomatch j⟩⟩ ⟨c.nm,.inl ⟨rfl,rfl⟩⟩
 have:=(i.pin q hq).1
 rw [z,r.new] at this
 cases this
end L3
namespace L3
open PySem L2 PySem.Spec PyProof.Rows
noncomputable def qG (K:SV)(C:Addr):Option (List Value):=match K.lookup C with
 | some ⟨.type "type",_,.cls cd,sl⟩=>(match cd.mro,sl.toList with
  | .ref C'::bm,[_,_,_,_,some (.builtin n),_]=>if (C' == C&&n == "ValueError.__new__" && !cd.hasDel&&bm.contains (.type "BaseException")&&cd.hasDict)=true then some bm else none
  | _,_=>none)
 | _=>none
theorem qH {K:SV}{h:Uw}{C:Addr}{bm:List Value}(X:K.In h)(q:qG K C=some bm) :
  (∃ N r s bs u b o a p d i j l m,h.get? C=some (YG r s C N bs bm true u b o a p d i j l m "ValueError.__new__"))/\bm.contains (.type "BaseException")=true:=by
 unfold qG at q
 split at q
 ·rename_i p B O H
  split at q
  ·rename_i Q v d i j l n m G I
   split at q
   ·rename_i c
    cases q
    rw [SW,SW,SW,SW,beq_iff_eq,beq_iff_eq,Wi] at c
    obtain ⟨⟨⟨⟨w,x⟩,y⟩,z⟩,A⟩:=c
    subst w x
    cases B with
    | mk r bs L M s hd u b o a E=>
     cases G
     cases y
     cases A
     have e:O = #[d,i,j,l,some (.builtin "ValueError.__new__"),m]:=UY.mp I
     subst e
     exact ⟨⟨M,r,s,bs,u,b,o,a,p,d,i,j,l,m,X _ _ H⟩,z⟩
   ·cases q
  ·cases q
 ·cases q
noncomputable def i6 (K:SV)(x:Str):Option Addr:=match Vm K Ux x with
 | some (some (.ref C))=>some C
 | _=>none
theorem mH {K:SV}{x:Str}{C:Addr}(h:i6 K x=some C):Vm K Ux x=some (some (.ref C)):=by
 unfold i6 at h
 split at h
 ·cases h;assumption
 ·cases h
noncomputable def qI (K:SV)(x y:Str):Option Bool:=(i6 K x).bind fun B=>(i6 K y).bind fun C=>(qG K B).bind fun a=>(qG K C).map fun _=>(Tr B::a).contains (.ref C)
section
variable {M:YJ}{A:TJ}{E:Value->SX->Prop}
theorem MK {s:SX}{B C e:Addr}{nm q G R:Str}{N L:Addr}{bs bm p a:List Value}{hdct i:Bool}{sn H:List Str}{sub m:List Value}{ab o:Bool}{col j:Option Bool}{dd r:Option Addr}{k0 k1 k2 k3 k5 v w x y z:Option Value}{K:Obj}{Q:Bool->SX->Prop}
  (hB:s.heap.get? B=some (YG nm q B N bs bm hdct sn sub ab col dd k0 k1 k2 k3 k5 "ValueError.__new__")) (hC:s.heap.get? C=some (YG G R C L p a i H m o j r v w x y z "ValueError.__new__"))
  (O:s.heap.get? e=some K)(l:K.cls=.ref B)(c:a.contains (.type "BaseException")=true) (I:Q ((Tr B::bm).contains (.ref C)) s):TK M A (excMatches (.ref e) (.ref C)) Q E s:=by
 obtain ⟨h,g,d,t,T⟩:=s
 have u:(Tr C::a).contains (.type "BaseException")=true:=by rw [a0W,c,a2z]
 have f:=tc_notTuple
 have n:∃ b,(Tr B::bm).contains (.ref C)=b:=⟨_,rfl⟩
 obtain ⟨b,n⟩:=n
 rw [n] at I
 unfold excMatches
 repeat (first|(with_reducible refine XZ O ?_;rw [l])|with_reducible refine XZ hC ?_|(with_reducible refine YS hC ?_;rw [u])|(with_reducible refine YS hB ?_;rw [n])|wp_step)
 cases b<;>(wp_walk;exact I)
end
noncomputable def ML (o:Obj):Prop:=∃ vs,o.data=.fields vs/\vs[2]? = some UE
noncomputable def CQ (e:Addr)(H:Hp):Prop:=∃ o u,H e=some (.frz o u)/\ML o
structure QBh (X:Cx)(e:Addr)(st:List Stmt)(m:MS):Prop where
 h:∀ (a3A:List (Addr×Obj))(s:SX)(σ:L2.St)(H:Hp)(D:Ends),CQ e H->Inv X a3A σ H s->cZ X.K m D σ H->TK (TH X.prog X.w) X.A (execs st X.env) (SP X a3A D) X.xe s
theorem QB.soft {X:Cx}{e:Addr}{st:List Stmt}{m:MS}(h:QB X st m):QBh X e st m:=⟨fun a3A s σ H D _ I t=>h.h a3A s σ H D I t⟩
noncomputable abbrev _root_.L2.Cx.hnd (X:Cx)(e:Value):Cx:={ X with A:=X.A.mark (some e),calm:=false,xe:=fun _ _=>False }
section
variable {X:Cx}{a3A:List (Addr×Obj)}{σ:L2.St}{H H':Hp}{s s':SX}{e:Addr}{cls:Value}{dc:Option Addr}{T:Option (Addr×Value)}
theorem CS (I:Inv X a3A σ H s)(v:Value):Inv (X.hnd v) a3A σ H s:=
 ⟨⟨I.ok.mod,I.ok.kind,I.ok.glob,I.ok.blt,I.ok.above,I.ok.inj,I.ok.has,I.ok.cab,(fun z=>nomatch z),I.ok.frames,I.ok.stk,I.ok.exf,I.ok.bs,I.ok.bsz,I.ok.noex,I.ok.exfs,I.ok.funs,I.ok.frf⟩,I.os,I.bare,I.base,I.loc,I.cell,I.free,I.freeC,I.pin,I.hok,I.len⟩
theorem tE (ok:X.Ok){v:Value}(I:Inv (X.hnd v) a3A σ H s):Inv X a3A σ H s:=⟨ok,I.os,I.bare,I.base,I.loc,I.cell,I.free,I.freeC,I.pin,I.hok,I.len⟩
theorem MM {M:YJ}{E:Value->SX->Prop}{Q:Unit->SX->Prop}{L:Addr}(j:X.ex=[])(c:X.stack=X.env::X.outer)(B:X.env.frame=some L)(I:Inv X a3A σ H s)(x:Ex X a3A H s e cls dc T)
  (k:∀ s' w,Inv X a3A σ H s'->Ex X a3A H s' e cls dc (some (w,.none))->Q () s'):TK M X.A (ZJ (.ref e) X.env) (fun _ h=>TK M X.A (ZH (.ref e) none) Q E h) E s:=by
 refine CN x.hT (by rw [<- c];exact I.ok.frames) (by rw [<- c];exact I.stack) B x.rc fun z y O i u=>?_
 refine xH (s:={ s with heap:=z }) O fun n R _ v=>?_
 have G:XKept (dB X.stack) e T s.heap n:=by
  rw [c]
  refine ⟨fun b o d l m K=>?_,fun b o d l m=>?_⟩
  ·rw [v b (TL (TF (Tg d) i))]
   exact u.keep b o d l m K
  ·obtain ⟨N,A⟩:=u.slot b o d l m
   refine ⟨N,?_⟩
   rw [v b (TL (TF (Tg d) i))]
   exact A
 refine k { s with heap:=n } y (x.kept j I G) ⟨R,(fun p a=>by cases a;rfl),⟨x.lo.1,fun p a=>?_⟩,⟨x.fr.1,fun p a=>?_⟩,fun q r=>⟨(x.pn q r).1,fun p a=>?_⟩⟩
 ·cases a
  exact Yn (Uk I.sz i)
 ·cases a
  exact I.hok.fresh i
 ·cases a
  exact TL (TF (Tg (I.pin q r).1) i)
theorem MN {M:YJ}{A:TJ}{E:Value->SX->Prop}{Q:Unit->SX->Prop}{T:Addr}(c:X.ex=[])(I:Inv X a3A σ H s)(x:Ex X a3A H s e cls dc (some (T,.none)))
  (k:∀ s',Inv X a3A σ H s'->Ex X a3A H s' e cls dc (some (T,.none))->Q () s'):TK M A (ZH (.ref e) none) Q E s:=by
 refine xH x.rc fun h i _ d=>k { s with heap:=h } (x.kept c I ⟨fun b o a _ n _=>?_,fun b o a _ n=>⟨o.slots,?_⟩⟩) ⟨i,x.hT,x.lo,x.fr,x.pn⟩
 ·rw [d b (n _ rfl)];exact a
 ·rw [d b (n _ rfl)];exact a
theorem Ex.cell {π:Nat->Addr}{d:Hm}{y:Xn}(j:X.ex=[])(I:Inv X a3A σ H s)(x:Ex X a3A H s e cls dc T)(R:Rp X.K π H d)(B:tD X.K π d.length H cls dc y) :
  ∃ i H',Ext π d.length H i (d++[C.exc y.1 (y.2.map (·.1)) (y.2.map (·.2))]).length H'/\Rp X.K i H' (d++[C.exc y.1 (y.2.map (·.1)) (y.2.map (·.2))])/\Inv X a3A σ H' s/\i d.length=e/\CQ e H':=by
 obtain ⟨o,v,q,L,w,r,g5,M⟩:=x.rc.ob
 have hc:sL X.K π d.length H e (C.exc y.1 (y.2.map (·.1)) (y.2.map (·.2))) (.frz o (.ext fun _=>True)):=by
  refine ⟨o,_,rfl,by rw [L];exact B.1,⟨v,r⟩,?_⟩
  rcases B.2 with ⟨h,Y⟩|⟨G,od,us,N,O,Q,U⟩
  ·rw [h];exact .inl ⟨rfl,rfl,w.trans Y⟩
  ·exact .inr ⟨G,od,us,by rw [w];exact N,O,Q,U⟩
 obtain ⟨K,E,p1⟩:=R.alloc x.fr.1 hc
 refine ⟨_,_,K,E,?_,p1,o,_,cQ,v,r,M⟩
 have l:∀ b u,H b=some u->b≠e:=fun b u h z=>by rw [z,x.fr.1] at h;cases h
 have A:∀ b∈[e],X.s₀.heap.get? b=none:=fun b a=>by cases Ud.mp a;exact x.lo.1
 have m:=CO I j A fun b a=>by cases Ud.mp a;exact ⟨o,v,q,r⟩
 have k:=m.step (H':=aQ H e (.frz o (.ext fun _=>True))) (h':=s.heap) (g':=s.gens) (d':=s.drawn) (t':=s.toks) (ch:=[e]) (fun b a=>?_) (fun b o _ _ _ g _=>g) (fun b o _ _ _ g _=>⟨o.slots,g⟩)
  (fun b o nc g n=>?_) (fun b o _ g=>⟨o,g⟩) (fun b xs h=>by rw [bH (l _ _ h)];exact h) (fun b o u h=>by rw [bH (l _ _ h)];exact h) (fun b ps h=>⟨#[],by rw [bH (l _ _ h),h];simp⟩) (fun _ h=>h) ?_ I.bare
 ·exact CP k j A
 ·refine ⟨.inl a,(m.ok.exf b a).1,(m.ok.exf b a).2,fun p Z=>?_⟩
  cases Ud.mp a
  exact (x.pn p Z).1
 ·rw [bH (fun z=>nc (by rw [z];exact Ud.mpr rfl))]
  exact n
 ·intro b u h
  by_cases a:b=e
  ·subst a
   rw [cQ] at h
   cases h
   exact ⟨q,trivial,⟨o,q⟩,fun _ _ _ _=>trivial⟩
  ·rw [bH a] at h
   exact (I.hok b u h).stay (fun _ _ _ g=>g) (fun c g=>by rw [bH (l _ _ g)];exact g) (fun c xs g=>by rw [bH (l _ _ g)];exact g)
theorem En.unset {K:SV}{π:Nat->Addr}{n:Nat}{H:Hp}{σ:L2.St}{b:aG}(E:En K π n H σ b)(i:Nat):En K π n H (σ.set i none) (b.set i none):=by
 refine ⟨by rw [VG,VG];exact E.len,fun j c e=>?_⟩
 rw [a1v] at e ⊢
 by_cases a:i=j
 ·rw [if_pos a] at e
  split at e<;>cases e
 ·rw [if_neg a] at e ⊢
  exact E.get j c e
theorem tF {M:YJ}{A:TJ}{E:Value->SX->Prop}{Q:Unit->SX->Prop}{i:Nat}{y:Str}{pos:Va}(I:Inv X a3A σ H s)(Z:X.N.Nodup)(O:X.N[i]? = some y)(R:X.env.scope.names.lookup y=some .local)
  (h:∀ s',Inv X a3A (σ.set i none) H s'->Q () s'):TK M A (do bindName X.env y .none;a1I X.env y pos) Q E s:=by
 have hk:X.env.kindOf y=some .local:=R
 have G:(X.env.scope.kind == .class||(X.env.scope.kind == .module&&X.env.locals != X.env.globals))=false:=by rw [I.ok.kind];rfl
 refine S0 (wpAny_bindName (r8 (v:=.non) I Z O (.inl R) rfl (fun s1 a _=>?_) (.inr R)))
 unfold a1I
 refine wpAny_onRaise ?_
 unfold unbindName
 refine S0 (wpAny_point (S0 ?_))
 unfold deleteName
 simp only [hk,G]
 rw [if_neg (by decide)]
 obtain ⟨m,hn,hl⟩:=id a.loc
 have r:i<(σ.set i (some V.non)).length:=by rw [a.len];exact (S2.mp O).1
 have my:(m y).isSome=true:=by
  obtain ⟨u,_,q⟩:=hl i y .non O (by rw [Ue (by simpa using r)]) (.inl R)
  rcases q with ⟨_,q⟩|⟨q,_⟩
  ·rw [q];rfl
  ·rw [hk] at q;rcases q with q|q<;>cases q
 refine S0 (wpAny_nsDel_keeps hn fun h2 v Y x=>?_)
 simp only [my,UA,S6,if_false]
 refine Tn (wpAny_point (h _ ?_))
 have cne:=a.cne
 obtain ⟨oL,_,_,hoL,_⟩:=id hn
 refine ⟨I.ok,a.os,a.bare,⟨fun b o e n U L=>?_,fun b o e n U L=>?_,a.base.free,fun b o e L=>?_,a.base.tups,a.base.frzs,a.base.tbls⟩,⟨_,Y,fun j z v' B N e3=>?_⟩,fun y c e=>?_,a.free,a.freeC,fun p hp=>?_,fun b ob e=>?_,by rw [VG];exact I.len⟩
 ·exact (x.2 b (TL (TF (Tg e) I.ok.above))).trans (a.base.keep b o e n U L)
 ·obtain ⟨sl,B⟩:=a.base.slot b o e n U L
  exact ⟨sl,(x.2 b (TL (TF (Tg e) I.ok.above))).trans B⟩
 ·obtain ⟨o',B⟩:=a.base.there b o e L
  exact ⟨o',(x.2 b (TL (TF (Tg e) I.ok.above))).trans B⟩
 ·have K:j≠i:=fun K=>by
   subst K
   rw [Ue (by simpa using r)] at N
   cases N
  rw [TY (UH K)] at N
  obtain ⟨u',r',q⟩:=hl j z v' B (by rw [TY (UH K)];exact N) e3
  refine ⟨u',r',?_⟩
  rcases q with ⟨k,e⟩|⟨k,c,e,w⟩
  ·refine .inl ⟨k,?_⟩
   have:z≠y:=fun e=>K (vC Z B (e ▸ O))
   simp [this,e]
  ·exact .inr ⟨k,c,e,w.sameBut x (cne z c e)⟩
 ·obtain ⟨w',z⟩:=a.cell y c e
  exact ⟨w',z.sameBut x (cne y c e)⟩
 ·obtain ⟨e,n,ne,nf,d⟩:=a.pin p hp
  exact ⟨(x.2 p.1 ne).trans e,n,ne,nf,d⟩
 ·refine (a.hok b ob e).stay (fun c w' hc q=>(x.2 c ?_).trans q) (fun _ q=>q) fun _ _ q=>q
  intro z
  have l:=a.free
  rw [<- z] at l
  rcases hc with hc|hc
  ·rw [hc,e] at l;cases l
  ·rw [l] at hc;cases hc
end
noncomputable def n9 (m:MS)(r:MR)(sup:Str->Option Bool)(i:Nat)(c:MS):MS:=fun b a=>match r b a with
 | some p=>if sup p.1.1=some true then (c (p.2.1.set i (some (.loc p.2.2.length))) (p.2.2++[C.exc p.1.1 (p.1.2.map (·.1)) (p.1.2.map (·.2))])).map fun q=>(q.1,q.2.1.set i none,q.2.2) else none
 | none=>m b a
theorem MP {X:Cx}{body hb:List Stmt}{l:Stmt}{c y:Str}{cp hp pos:Va}{L:Addr}{i:Nat}{m mh:MS}{r:MR}{sup:Str->Option Bool}(Q:X.ex=[])(hst:X.stack=X.env::X.outer)(hf:X.env.frame=some L)(hN:X.N.Nodup)
  (hi:X.N[i]? = some y)(hy:X.env.scope.names.lookup y=some .local)(hg:Gl X c)(hdb:(c == ("__debug__":Str))=false) (hs:∀ x b,sup x=some b->qI X.K x c=some b)
  (hm:QB X.nox body m)(hr:∀ E,QRB (X.wish E) body r)(hh:∀ e,QBh (X.hnd (.ref e)) e (l::hb) mh) :
  QS X (.Try body [.ExceptHandler (some (.Name c cp)) (some y) (l::hb) hp] [] [] pos) (n9 m r sup i mh):=by
 refine ⟨fun j s A H D I t=>wpAny_Try_except ?_⟩
 obtain ⟨π,ρ,μ,fl,ρ',μ',R,En0,o,n⟩:=t
 unfold n9 at o
 split at o
 ·rename_i p hp'
  obtain ⟨x,ρ1,Z⟩:=p
  dsimp only at o
  split at o
  ·rename_i w
   obtain ⟨⟨fl2,ρ2,μ2⟩,hq,o⟩:=SY.mp o
   cases o
   refine aU ((hr (fun e s₁=>TK (TH X.prog X.w) X.A (ZJ e X.env) (fun _ s₂=>TK (TH X.prog X.w) X.A (ZH e none) (fun _ s₃=>TK (TH X.prog X.w) X.A (handleBy e X.env [.ExceptHandler (some (.Name c cp)) (some y) (l::hb) hp]) (SP X j D) X.xe s₃) X.xe s₂) X.xe s₁)).h j s A H π ρ μ x ρ1 Z (I.wish _) R En0 hp' ?_) fun _ _ z=>z.elim
   intro π1 σ1 H1 s1 e cls dc T e1 R1 E1 I1 Y ix
   have I1:=I1.unwish
   have Y:Ex X j H1 s1 e cls dc T:=⟨Y.rc,Y.hT,Y.lo,Y.fr,Y.pn⟩
   refine MM Q hst hf I1 Y fun s2 T2 I2 x2=>?_
   obtain ⟨B,hB⟩:∃ B,i6 X.K x.1=some B:=by
    have:=hs _ _ w
    unfold qI at this
    obtain ⟨B,hB,_⟩:=SS.mp this
    exact ⟨B,hB⟩
   have a:=hs _ _ w
   unfold qI at a
   rw [hB,Uc] at a
   obtain ⟨Ca,hC,a⟩:=SS.mp a
   obtain ⟨b1,hb1,a⟩:=SS.mp a
   obtain ⟨b2,hb2,a⟩:=SY.mp a
   have hcls:cls=.ref B:=by
    have h1:Vm X.K Ux x.1=some (some cls):=ix.1
    rw [mH hB] at h1
    cases h1;rfl
   subst hcls
   have hmg:X.mg c=some (.ref Ca):=Ws I.mod.kin I.mod.glob (mH hC)
   have kin:=I2.kIn
   obtain ⟨⟨N1,mW,q1,bs1,sn1,su1,ab1,col1,dd1,a0,a1,a2,a3,a5,o1⟩,_⟩:=qH kin hb1
   obtain ⟨⟨N2,nm2,q2,bs2,sn2,su2,ab2,col2,dd2,c0,c1,c2,c3,c5,o2⟩,ob2⟩:=qH kin hb2
   obtain ⟨oe,vs,g1,g2,_⟩:=x2.rc.ob
   refine wpAny_handleBy_cons (codeAny_handlers_test ?_) (by intro q;cases q)
   refine jL (X:=X.hnd (.ref e)) (CS I2 (.ref e)) hg hmg ?_ hdb
   refine MK o1 o2 g1 g2 ob2 ?_
   rw [a]
   dsimp only [if_true]
   refine codeAny_handlers_suite_as ?_
   refine MN Q I2 x2 fun s3 I3 x3=>?_
   obtain ⟨π4,H4,e4,R4,I4,p4,sf⟩:=x3.cell Q I3 R1 ix
   refine r8 (v:=.ref e) I4 hN hi (.inl hy) rfl (fun s5 I5 _=>?_) (.inr hy)
   have dl:IsD X.K π4 (Z++[C.exc x.1 (x.2.map (·.1)) (x.2.map (·.2))]).length H4 (.ref e) (.loc Z.length):=by
    rw [<- p4]
    exact .loc (by simp)
   have k:=(hh e).h j s5 _ H4 { nx:=fun A H=>D.nx (A.set i none) H,bk:=fun A H=>D.bk (A.set i none) H,ct:=fun A H=>D.ct (A.set i none) H,rt:=D.rt } sf (CS I5 (.ref e))
    ⟨π4,_,_,fl2,ρ2,μ2,R4,(E1.mono e4).set dl i,hq,?_⟩
   ·refine T9 k (fun f s6 q=>?_) fun _ _ z=>Um z
    cases f with
    | next=>
     obtain ⟨σ6,K,M,U⟩:=q
     exact tF (tE I.ok M) hN hi hy fun s7 N=>⟨_,K,N,U⟩
    | brk=>
     obtain ⟨σ6,K,M,U⟩:=q
     exact tF (tE I.ok M) hN hi hy fun s7 N=>⟨_,K,N,U⟩
    | cont=>
     obtain ⟨σ6,K,M,U⟩:=q
     exact tF (tE I.ok M) hN hi hy fun s7 N=>⟨_,K,N,U⟩
    | ret u=>
     obtain ⟨v6,σ6,K,M,r6,U⟩:=q
     exact tF (tE I.ok M) hN hi hy fun s7 N=>⟨v6,_,K,N,r6,U⟩
   ·have ee:=e1.trans e4
    cases fl2 with
    | nx=>exact fun h σ' G O R' E'=>n h _ G (ee.trans O) R' (E'.unset i)
    | bk=>exact fun h σ' G O R' E'=>n h _ G (ee.trans O) R' (E'.unset i)
    | ct=>exact fun h σ' G O R' E'=>n h _ G (ee.trans O) R' (E'.unset i)
    | rt d=>exact fun h v G O=>n h v G (ee.trans O)
  ·cases o
 ·refine T9 (hm.h j s A H D (I.wish _) ⟨π,ρ,μ,fl,ρ',μ',R,En0,o,n⟩) (fun f s1 q=>?_) fun _ _ z=>Um z
  cases f with
  | next=>exact Ys (SP.unwish (f:=.next) q)
  | brk=>exact SP.unwish (f:=.brk) q
  | cont=>exact SP.unwish (f:=.cont) q
  | ret u=>exact SP.unwish (f:=.ret u) q
end L3
namespace L3
open PySem L2 PySem.Spec PyProof.Rows
section
variable {prog:Tt}{w:TV}{A:TJ}{E:Value->SX->Prop}{s:SX}
variable {nm q:Str}{C N fI:Addr}{bs bm bmB:List Value}{hdct:Bool}{sn:List Str}{sub:List Value}{ab:Bool}{col:Option Bool}{dd:Option Addr}{k0 k1 k2 k3 k5:Option Value}{B newId initId:String}{mN:Str->Option Value}{rest:List Value}
end
end L3
namespace L3
open PySem L2 PySem.Spec PyProof.Rows
noncomputable def MQ (K:SV)(C f:Addr):Bool:=match K.lookup C with
 | some ⟨.type "type",_,.cls cd,sl⟩=>(match cd.mro,sl.toList with
  | .ref C'::bm,[_,_,_,_,some (.builtin n),_]=>C' == C&&n == "ValueError.__new__" && !cd.hasDel&&cd.hasDict&&PySem.W.tailIn K xK bm&&PySem.W.nsOkIn K cd.ns&&Vm K cd.ns "__init__" == some (some (.ref f))
  | _,_=>false)
 | _=>false
noncomputable def MU (K:SV)(B:Addr):Bool:=PySem.W.readsIn K B (.type "type")&&(match PySem.W.findCls K (.ref B) (.type "type") "__init__" with|some (.val (.builtin n))=>n == "ValueError.__init__" | _=>false) &&
 Xu K (.ref B) "__getattribute__" == some (some (.builtin "type.__getattribute__"))
structure InitK (K:SV)(C f B:Addr)(bn at':Str):Prop where
 cls:MQ K C f=true
 base:MU K B=true
 bnm:Vm K Ux bn=some (some (.ref B))
 set:VC K (.ref C) "__setattr__" = some (some (.builtin "object.__setattr__"))
 none:VC K (.ref C) at'=some none
section
variable {X:Cx}{a3A:List (Addr×Obj)}{σ:L2.St}{H:Hp}{s:SX}{e C f B:Addr}{bn at':Str}
end
end L3
namespace L3
open PySem L2 PySem.Spec PyProof.Rows
end L3
namespace L3
open PySem L2 PySem.Spec PyProof.Rows
section
variable {prog:Tt}{w:TV}{A:TJ}{E:Value->SX->Prop}{s:SX}
variable {nm q:Str}{C N x dx:Addr}{bs bm:List Value}{sn:List Str}{sub:List Value}{ab:Bool}{col:Option Bool}{dd:Option Addr}{k0 k1 k2 k3 k5:Option Value}{newId:String}{name:Str}{v:Value}{o:Obj}{vs:Array Value}{mA:Str->Option Value}
theorem MV {M:YJ}{a:Value}{Q:Unit->SX->Prop}(e:bm.contains (.type "BaseException")=true) (hC:s.heap.get? C=some (YG nm q C N bs bm true sn sub ab col dd k0 k1 k2 k3 k5 newId))(l:s.heap.get? x=some o)(hc:o.cls=.ref C)(j:Q () s) :
  TK M A (a2B "BaseException.__getattribute__" ⟨[.ref x,a],[]⟩) Q E s:=by
 have i:builtinKind "BaseException.__getattribute__" = some .slot:=by decide +kernel
 have c:splitId "BaseException.__getattribute__" = some ("BaseException","__getattribute__"):=by decide +kernel
 have b:(Tr C::bm).contains (.type "BaseException")=true:=by rw [a0W,e,a2z]
 have m:=PySem.F.args_bexc_ga (.ref x) a
 obtain ⟨h,g,d,t,n⟩:=s
 simp only [a2B,i,c]
 refine S0 ?_
 unfold isInstance
 repeat (first|(with_reducible refine XZ l ?_;rw [hc])|(with_reducible refine YS hC ?_;rw [b])|wp_step)
 exact j
end
end L3
namespace L3
open PySem L2 PySem.Spec PyProof.Rows
noncomputable def mI (K:SV)(C:Addr):Bool:=(qG K C).isSome&&VC K (.ref C) "__getattribute__" == some (some (.builtin "BaseException.__getattribute__"))&&VC K (.ref C) "__getattr__" == some none &&
 (PySem.W.clsIn K C).isSome&&VC K (.ref C) "__class__" == some (some (.builtin "object.__class__"))&&Xu K (.builtin "object.__class__") "__get__" == some (some (.builtin "getset_descriptor.__get__")) &&
 a0O K (.builtin "object.__class__") == some true&&a1z K C (.type "object") == some true
section
variable {prog:Tt}{w:TV}{A:TJ}{E:Value->SX->Prop}{s:SX}{K:SV}{x C:Addr}{ox:Obj}{od:Option Obj}
theorem MW {Q:Option Value->SX->Prop}(c:mI K C=true)(X:K.In s.heap)(I:X4 s.heap x ox C od)(h:Q (some (.ref C)) { s with toks:=s.toks+1 }):TK (TH prog w) A (a1L (.ref x) "__class__") Q E s:=by
 unfold mI at c
 rw [SW,SW,SW,SW,SW,SW,SW,beq_iff_eq,beq_iff_eq,beq_iff_eq,beq_iff_eq,beq_iff_eq,beq_iff_eq] at c
 obtain ⟨⟨⟨⟨⟨⟨⟨e,r⟩,u⟩,i⟩,y⟩,B⟩,G⟩,H⟩:=c
 obtain ⟨bm,e⟩:=Ut.mp e
 obtain ⟨⟨N1,mW,q1,q,sn1,su1,p,m,L,b0,b1,b2,b3,b5,M⟩,O⟩:=qH X e
 have R:a0Q K C od "__class__" = some (.bind (.builtin "getset_descriptor.__get__") (.builtin "object.__class__")):=by
  obtain ⟨cd,i⟩:=Ut.mp i
  unfold a0Q
  rw [i,Uc,y,Uc]
  simp [B,G]
 have l:=PySem.F.attrBase_ValueError
 have f3:=l.ga.bind (.ref x)
 have T:(false&&onTheHeap (Tc "BaseException.__getattribute__"))=false:=rfl
 have j:(Tc "BaseException.__getattribute__" == Tc "object.__getattribute__")=false:=by decide +kernel
 have U:(onTheHeap (Tr C)&&Tc "BaseException.__getattribute__" == Tc "object.__getattribute__")=false:=by rw [j];rfl
 obtain ⟨a,g,d,t,b⟩:=s
 have Z:=ZY (M:=TH prog w) X r
 have l2:=ZY (M:=TH prog w) X u
 have l4:=PySem.W.looks_find (M:=TH prog w) X I R
 have Y:=I.type (M:=TH prog w)
 have n:=I.at_
 have hc:=I.cls
 unfold a1L getAttrBy?
 repeat (any_goals (first|assumption|(with_reducible refine XZ n ?_;rw [hc])|with_reducible refine WU (s:=⟨a,g,d,_,b⟩) Z ?_|with_reducible refine WU (s:=⟨a,g,d,_,b⟩) l2 ?_|wp_step))
 refine codeAny_call_builtin l.ga.plain PySem.F.entry_bexc_ga (MV (s:=⟨a,g,d,t+1,b⟩) O M n hc ?_)
 have N:TK (TH prog w) A.in1 (call (.builtin "getset_descriptor.__get__") [.builtin "object.__class__",.ref x,.ref C]) (fun v o=>v=.ref C/\o=⟨a,g,d,t+1,b⟩) (fun _ _=>False) ⟨a,g,d,t+1,b⟩:=
  a0a (PySem.W.class_get (s:=⟨a,g,d,t+1,b⟩) X I H ⟨rfl,rfl⟩)
 refine S0 (Tn (S0 (Tn (S0 (WU (s:=⟨a,g,d,t+1,b⟩) Y (S0 (WU (s:=⟨a,g,d,t+1,b⟩) l4 ?_)))))))
 refine S0 (U2 (T9 N (fun v o z=>?_) fun _ _ z=>z.elim))
 obtain ⟨rfl,rfl⟩:=z
 repeat (any_goals (first|assumption|wp_step))
end
theorem CT {K:SV}{x C:Addr}{o:Obj}(c:mI K C=true)(hc:o.cls=.ref C)(hd:∃ vs,o.data=.fields vs):PySem.W.KitX K (.ref x) (.ref C) (fun h=>∃ G,X4 h x o C G) where
 ty:=fun _ _ _ ⟨_,I⟩=>I.type
 it:=fun M h X _=>by
  unfold mI at c
  rw [SW,SW,SW,SW,SW,SW,SW] at c
  obtain ⟨A,j⟩:=Ut.mp c.1.1.1.1.1.1.1
  obtain ⟨⟨s,mW,H,i,p,r,d,b,l,u,v,w,y,z,a⟩,B⟩:=qH X j
  intro N Q O T k q
  unfold isType loadHead
  exact S0 (wpAny_loadPart (k _ _ a) (Tn q))
 ne:=fun h L R E n U X m=>by
  unfold mI at c
  rw [SW,SW,SW,SW,SW,SW,SW] at c
  obtain ⟨A,j⟩:=Ut.mp c.1.1.1.1.1.1.1
  obtain ⟨⟨s,mW,H,i,p,r,d,b,l,u,v,w,y,z,a⟩,B⟩:=qH X j
  refine Bool.eq_false_iff.mpr fun q=>?_
  have e:C=L:=Value.ref.inj (beq_iff_eq.mp q)
  subst e
  rw [m] at a
  injection a with a
  injection a with h1
  injection h1 with h2
  exact absurd h2 (by decide)
 ca:=fun X ⟨_,I⟩ k=>MW c X I k
end L3
namespace L3
open PySem L2 PySem.Spec PyProof.Rows
noncomputable def fV (sup:Str->Option Bool)(m:ME):ME:=fun d c=>(m d c).bind fun p=>match p.1 with
 | .loc a=>(match p.2[a]? with
  | some (.exc x _ _)=>(sup x).map fun b=>(.bl b,p.2)
  | _=>none)
 | _=>none
noncomputable def gW (K:SV)(cv:Value)(x:Str):Option Bool:=(i6 K x).bind fun B=>if mI K B=true then Xf K (.ref B) cv else none
theorem CU {X:Cx}{a:Expr}{c:Str}{cv:Value}{m:ME}{p K pos:Va}{sup:Str->Option Bool}(ha:QE X a m)(hs:cN a=true)(hg:Gl X "isinstance") (hm:X.mg "isinstance" = none)
  (N:∀ l s L H Q,Inv X l L H s->Q cv s->TK (TH X.prog X.w) X.A (eval (.Name c K) X.env) Q X.xe s)(A:∀ x b,sup x=some b->gW X.K cv x=some b) :
  QE X (.Call (.Name "isinstance" p) [a,.Name c K] [] pos) (fV sup m):=by
 refine ⟨fun l s L H Q I t=>?_⟩
 obtain ⟨π,ρ,μ,d,Z,R,E,h,kc⟩:=t
 unfold fV at h
 obtain ⟨⟨d1,j⟩,h1,h⟩:=SS.mp h
 dsimp only at h
 split at h
 ·rename_i i
  split at h
  ·rename_i x ns ds hx
   obtain ⟨b,h2,h⟩:=SY.mp h
   obtain ⟨rfl,rfl⟩:D.bl b=d/\j=Z:=by cases h;exact ⟨rfl,rfl⟩
   have y:T5 [a,.Name c K] X.env=(false,eval a X.env)::T5 [.Name c K] X.env:=d9 hs
   refine U6 (iT I hg hm Wn ?_)
   refine VX (a0N (aU (ha.h l s L H (fun v n=>∃ e,Ext π μ.length H e j.length n/\Rp X.K e n j/\IsD X.K e j.length n v (.loc i)) I ⟨π,ρ,μ,_,j,R,E,h1,fun e v n M G T=>⟨e,M,G,T⟩⟩) fun u s1 ⟨v,n,r,rv,e,M,G,T⟩=>a0N (N l s1 L n _ r (args_nil ?_))) y) y rfl
   cases T
   obtain rfl:u=Tr (e i):=rv
   obtain ⟨U,φ,g1,g2,⟨vs,g3⟩,w⟩:=G.exc i x ns ds hx
   have q:=A x b h2
   unfold gW at q
   obtain ⟨B,hB,q⟩:=SS.mp q
   split at q
   ·rename_i hI
    have o:U.cls=.ref B:=by
     rw [mH hB] at g2
     exact (T3 (T3 g2)).symm
    obtain ⟨y1,_⟩:=r.hok _ _ g1
    have O:∃ Y,X4 s1.heap (e i) U B Y:=by
     have no:X3 U=true:=by
      unfold X3
      rw [g3]
     rcases w with ⟨_,_,w⟩|⟨dx,Y,us,w,g5,_⟩
     ·exact ⟨none,y1,o,no,by rw [w];trivial⟩
     ·obtain ⟨y2,_⟩:=r.hok _ _ g5
      exact ⟨some Y,y1,o,no,by rw [w];exact y2⟩
    exact Vo (CT hI o ⟨vs,g3⟩) r.kIn O q (fun z=>nomatch z) fun tk=>⟨.bl b,n,r.tok tk,rfl,kc e _ n M G (.bl b)⟩
   ·cases q
  ·cases h
 ·cases h
end L3
namespace L3
open PySem L2 PySem.Spec PyProof.Rows
structure FnU (P:Tt)(w:TV)(K:SV)(mg:Str->Option Value)(base:Uw)(f:Addr)(fd:U1)(ps:List Str)(sp:Sp):Prop where
 len:∀ vs H Q E,sp vs H Q E->vs.length=ps.length
 run:∀ (A:TJ)(outer:List XN)(s:SX)(H:Hp)(args:Args)(us:List Value)(vs:List V)(Q:VK)(E:XK),A.depth<XS->Env0 P w K mg base A outer s H->YR s fd args (ps.zip us)->Vals vs us->sp vs H Q E->
  XF (TH P w) A (.call (.ref f) args) (CR d7 outer P w H s Q E) s
noncomputable abbrev qJ (P:Tt)(w:TV)(K:SV)(mg:Str->Option Value)(base:Uw)(N:List Str)(a:Str)(scope:V1)(f:Addr)(b:Value)(A:TJ)(outer:List XN)(s:SX)(H:Hp):Cx:=
 { d4 d7 P w K mg base N a scope f b A outer s H (fun _ _ _=>False) with calm:=false,xe:=fun _ _=>False }
section
variable {P:Tt}{w:TV}{K:SV}{mg:Str->Option Value}{base:Uw}
theorem MX {N ps:List Str}{a:Str}{scope:V1}{f:Addr}{c:Value}{A:TJ}{outer:List XN}{s d:SX}{H:Hp}{us:List Value}{vs:List V}
  (S:FnScope N ps scope)(b:Env0 P w K mg base A outer s H)(e:vs.length=ps.length)(r:Vals vs us)
  (x:InCallC s s.heap.objs.size (a0c (envOfC a scope s.heap.objs.size f c).kindOf (ps.zip us) fun _=>none) (ZM (s.heap.objs.size+1) scope.names []) (a0d (envOfC a scope s.heap.objs.size f c).kindOf (ps.zip us) fun _=>none) d) :
  Inv (qJ P w K mg base N a scope f c A outer s H) [] (L2.start N vs) H d:=by
 have I:=A6 (CX:=d7) (A:={ A with handled:=none }) (E:=fun _ _ _=>False) S rfl ⟨b.frames,b.mod,b.bs,b.bsz,b.funs,b.frf,b.hok,b.bare⟩ e r x
 exact ⟨⟨I.ok.mod,I.ok.kind,I.ok.glob,I.ok.blt,I.ok.above,I.ok.inj,I.ok.has,I.ok.cab,(fun z=>nomatch z),Z6 b.frames,I.ok.stk,I.ok.exf,I.ok.bs,I.ok.bsz,I.ok.noex,I.ok.exfs,I.ok.funs,I.ok.frf⟩,I.os,I.bare,I.base,I.loc,I.cell,I.free,I.freeC,I.pin,I.hok,I.len⟩
theorem MY {f:Addr}{name a:Str}{c:a2J}{body:List Stmt}{scope:V1}{T kV m U d ct oc:Value}{an od:Option Addr}
  {L:Array (Option Value)}{N ps:List Str}{sp:Sp}(lk:K.lookup f=some ⟨oc,od,.func (Uz name a c body scope T kV m U an d ct),L⟩)(B:Xg K d a=true)(S:FnScope N ps scope)
  (len:∀ vs H Q E,sp vs H Q E->vs.length=ps.length)
  (h:∀ (A:TJ)(outer:List XN)(s:SX)(H:Hp)(vs:List V)(Q:VK)(E:XK),sp vs H Q E->
   ∃ t,PSs (qJ P w K mg base N a scope f d A outer s H) body t/\t { nx:=fun _ l=>Q .non l,rt:=Q } (L2.start N vs) H) :
  FnU P w K mg base f (Uz name a c body scope T kV m U an d ct) ps sp:=by
 refine ⟨len,fun A outer s H R us vs Q E hr p hb r z=>?_⟩
 have hl:=len _ _ _ _ z
 have O:K.In s.heap:=p.mod.kin.keeps fun b o e=>(p.bs b o e).1
 have G:s.heap.NoLimit:=p.mod.nolimit.keeps fun b o e=>(p.bs b o e).1
 have i:∀ y∈ps.zip us,scope.names.lookup y.1=some .local\/(scope.names.lookup y.1=some .cell/\((ZM (s.heap.objs.size+1) scope.names []).lookup y.1).isSome=true):=fun ⟨n,v⟩ hy=>by
  rcases S.par n (X7 hy).1 with q|q
  ·exact .inl q
  ·exact .inr ⟨q,XU _ _ _ (.inl q)⟩
 refine a1y hr (O _ _ lk) rfl S.co S.gen rfl (a0h O B) (hb _ _ _ _ ?_)
 refine Z8 S.kind i fun Y he X x=>?_
 subst he
 refine ⟨G.keeps x.toInCall.keep,codeAny_func ?_⟩
 obtain ⟨t,ht,hq⟩:=h A outer s H vs Q E z
 have I:Inv (qJ P w K mg base N a scope f d A outer s H) [] (L2.start N vs) H X:=MX S p hl r x
 refine T9 (ht [] X (L2.start N vs) H _ I hq) (fun Z s' j=>?_) fun e s' j=>j.elim
 cases Z with
 | ret u=>
  obtain ⟨v,M,l,J,rv,q⟩:=j
  exact ⟨v,l,J.os,J.bare,J.base,J.hok,rv,q⟩
 | next=>
  obtain ⟨M,l,J,q⟩:=j
  exact ⟨.non,l,J.os,J.bare,J.base,J.hok,rfl,q⟩
 | brk=>
  obtain ⟨_,_,_,q⟩:=j
  exact Um q
 | cont=>
  obtain ⟨_,_,_,q⟩:=j
  exact Um q
theorem MZ {x a:Str}{st:Stmt}{f:Addr}{q:U1}{N ps:List Str}{m:MS}(F:Fun K x a st f q)(S:FnScope N ps (bF st))(l:ps.length<=N.length)
  (c:∀ (b:Value)(A:TJ)(outer:List XN)(s:SX)(H:Hp),QB (qJ P w K mg base N a (bF st) f b A outer s H) (cH st) m):FnU P w K mg base f q ps (e8 K ps.length (pX N.length m)):=by
 obtain ⟨oc,od,kV,z,pm,an,b,ct,M,rfl,L,j⟩:=F.ex
 refine MY L j S (fun O H Q E h=>h.1) fun A outer s H O Q E h=>⟨_,(c b A outer s H).h,?_⟩
 obtain ⟨I,X,ds,T,d,U,R,i,e,u⟩:=h
 obtain ⟨⟨r,p,n⟩,G,e⟩:=SS.mp e
 refine ⟨X,_,T,r,p,n,R,wI i (by rw [I];exact l),G,?_⟩
 cases r with
 | rt d'=>cases e;exact u
 | nx=>cases e;exact fun o Y v B y Z=>u o .non v B y .non
 | bk=>cases e
 | ct=>cases e
end
section
variable {X:Cx}
theorem M0 {f:Addr}{w:U1}{ps:List Str}{i:MF}{x:Str}{p pos:Va}{e:Expr}{es:List Expr}{v:MA}{n:Nat}(F:FnU X.prog X.w X.K X.mg X.base f w ps (e8 X.K n i))(R:X.A.depth<XS)(O:X.mg x=some (.ref f))
  (M:UR X.K (.ref f)=true)(G:Binds X.K w ps [])(j:QA X (e::es) v n)(L:Gl X x)(l:(x == ("__debug__":Str))=false):QE X (.Call (.Name x p) (e::es) [] pos) (aK i v):=by
 have o:=j.s
 rw [Ul,SW] at o
 have K:=d9 (env:=X.env) o.1 (es:=es)
 have m:=iC (env:=X.env) o.2 (pos:=pos)
 refine ⟨cL (t:=sE (e8 X.K n i) [] E0 (eC X.K v)) (fun d s T H Q I h=>?_) (BI j.l)⟩
 refine U6 (jL I L O ?_ l)
 refine Yp (h₀:=X.base) I.ok.mod.kin M (aU (j.h pos d s T H _ I h) fun b z ⟨A,B,c,r,q⟩=>⟨c.kIn,?_⟩) K m
 have y:Vals (A++[]) (b++[]):=r.append .nil
 have N:(b++[]).length=ps.length:=by rw [<- y.length];exact F.len _ _ _ _ q
 refine a0a (XE (F.run X.A X.stack z B ⟨b,[]⟩ (b++[]) (A++[]) Q E0 R c.env0 (G z b c.kIn N) y q) fun r U a=>?_)
 cases r with
 | error e=>exact a.elim
 | ok E=>
  cases E with
  | ret u=>exact c.after a
  | next=>exact Um a
  | brk=>exact Um a
  | cont=>exact Um a
noncomputable def tG (X:Cx):List Expr->List Addr->Prop
 | [],[]=>True
 | .Name x _::r,C::l=>Gl X x/\X.mg x=some (.ref C)/\(x == ("__debug__":Str))=false/\tG X r l
 | _,_=>False
theorem CV:∀ {es:List Expr}{l:List Addr},tG X es l->PA X es (fun _ H Q=>Q (l.map V.ref) H)/\es.all cN=true
 | [],[],_=>⟨AX,rfl⟩
 | .Name x p::r,C::l,⟨h1,h2,h3,h4⟩=>by
  obtain ⟨c,b⟩:=CV h4
  refine ⟨?_,by rw [Ul,b];rfl⟩
  have k:=AY (X:=X) (e:=.Name x p) (te:=fun _ H Q=>Q (V.ref C) H) (fun a s d H Q I h=>jL I h1 h2 ⟨V.ref C,H,I,rfl,h⟩ h3) c (d9 rfl)
  exact k
 | [],_::_,h=>h.elim
 | .Name _ _::_,[],h=>h.elim
end
theorem CW:∀ {l:List Addr}{us:List Value},Vals (l.map V.ref) us->us=l.map Tr
 | [],_,.nil=>rfl
 | C::l,_,.cons ra rb=>by rw [S7,<- CW rb,show _=Tr C from ra]
theorem M3 {K:SV}{B:Addr}{b:List Bool}{l:List Addr}(h:l.map (fun C=>Xf K (.ref B) (.ref C))=b.map some):a1k K (.ref B) (l.map Tr)=some (b.any id):=by
 induction l generalizing b with
 | nil=>cases b with
  | nil=>rfl
  | cons=>cases h
 | cons C l a=>cases b with
  | nil=>cases h
  | cons c b=>
   rw [S7,S7,YK] at h
   rw [S7]
   unfold a1k
   rw [h.1]
   cases c
   ·exact (a (b:=b) h.2)
   ·rfl
theorem M4 {X:Cx}{a:Expr}{es:List Expr}{l:List Addr}{m:ME}{p pos tp:Va}{kt:Nat}{sup:Str->Option (List Bool)}(ha:QE X a m)(hs:cN a=true)(hg:Gl X "isinstance") (hm:X.mg "isinstance" = none)
  (hl:tG X es l)(hz:l.length<=Td)(U:∀ x b,sup x=some b->l.map (fun C=>gW X.K (.ref C) x)=b.map some/\b≠[]) :
  QE X (.Call (.Name "isinstance" p) [a,.Tuple es kt tp] [] pos) (fV (fun x=>(sup x).map fun b=>b.any id) m):=by
 refine ⟨fun K s σ H Q I t=>?_⟩
 obtain ⟨π,ρ,μ,d,μ',R,E,h,kc⟩:=t
 unfold fV at h
 obtain ⟨⟨d1,j⟩,h1,h⟩:=SS.mp h
 dsimp only at h
 split at h
 ·rename_i i
  split at h
  ·rename_i x ns ds hx
   obtain ⟨b0,h2,h⟩:=SY.mp h
   obtain ⟨rfl,rfl⟩:D.bl b0=d/\j=μ':=by cases h;exact ⟨rfl,rfl⟩
   obtain ⟨b,h3,rfl⟩:=SY.mp h2
   have T:T5 [a,.Tuple es kt tp] X.env=(false,eval a X.env)::T5 [.Tuple es kt tp] X.env:=d9 hs
   refine U6 (iT I hg hm Wn ?_)
   have tpl:=AZ (x1:=kt) (pos:=tp) (CV hl).1
   refine VX (a0N (aU (ha.h K s σ H (fun v w=>∃ e,Ext π μ.length H e j.length w/\Rp X.K e w j/\IsD X.K e j.length w v (.loc i)) I ⟨π,ρ,μ,_,j,R,E,h1,fun e v w e1 R1 i1=>⟨e,e1,R1,i1⟩⟩) fun u s1 ⟨v,w,I1,rv,e,e1,R1,i1⟩=>
    a0N (aU (tpl K s1 σ w (fun v2 H2=>∃ q,v2=.ref q/\w q=none/\H2=aQ w q (.tup (l.map V.ref))) I1 ⟨by rw [S3];exact hz,fun q hq=>⟨q,rfl,hq,rfl⟩⟩) fun u2 s2 ⟨v2,H2,G,rv2,q,hv2,hq,hH2⟩=>args_nil ?_)) T) T rfl
   subst hv2 hH2
   obtain rfl:u2=Tr q:=rv2
   cases i1
   obtain rfl:u=Tr (e i):=rv
   obtain ⟨e2,R2⟩:=R1.fresh (o:=.tup (l.map V.ref)) hq
   obtain ⟨ob,φ,g1,g2,⟨vs,g3⟩,L⟩:=R2.exc i x ns ds hx
   obtain ⟨A,hne⟩:=U x b h3
   obtain ⟨B,Y,Z,A⟩:∃ B,i6 X.K x=some B/\mI X.K B=true/\l.map (fun C=>Xf X.K (.ref B) (.ref C))=b.map some:=by
    cases l with
    | nil=>cases b with
     | nil=>exact absurd rfl hne
     | cons=>cases A
    | cons C l=>
     cases b with
     | nil=>cases A
     | cons c b=>
      have N:=A
      rw [S7,S7,YK] at N
      have M:=N.1
      unfold gW at M
      obtain ⟨B,Y,M⟩:=SS.mp M
      split at M
      ·rename_i Z
       refine ⟨B,Y,Z,?_⟩
       rw [<- A]
       refine Uv fun C' _=>?_
       unfold gW
       rw [Y,Uc,if_pos Z]
      ·cases M
   have y:ob.cls=.ref B:=by
    rw [mH Y] at g2
    exact (T3 (T3 g2)).symm
   obtain ⟨y1,_⟩:=G.hok _ _ g1
   have hin:∃ od,X4 s2.heap (e i) ob B od:=by
    have no:X3 ob=true:=by
     unfold X3
     rw [g3]
    rcases L with ⟨_,_,L⟩|⟨dx,od,us,L,g5,_⟩
    ·exact ⟨none,y1,y,no,by rw [L];trivial⟩
    ·obtain ⟨y2,_⟩:=G.hok _ _ g5
     exact ⟨some od,y1,y,no,by rw [L];exact y2⟩
   obtain ⟨z,its,r,o,t1,t2,n,t3,t4⟩:=(show ObjOk X.prog X.w _ s2.heap q (.tup (l.map V.ref)) from G.hok q _ cQ)
   have O:its=l.map Tr:=CW r
   subst O
   have ho:s2.heap.get? q=some ⟨.type "tuple",o.dict,.seq (l.map Tr).toArray n,o.slots⟩:=by rw [t1];cases o;cases t2;cases t3;rfl
   exact PySem.W.kia_tup (CT Z y ⟨vs,g3⟩) G.kIn hin ho (M3 A) (fun z=>nomatch z) fun tk=>⟨.bl _,_,G.tok tk,rfl,kc e _ _ (e1.trans e2) R2 (.bl _)⟩
  ·cases h
 ·cases h
end L3
namespace L3
open PySem L2 PySem.W PyProof.Rows
noncomputable def tH:Bool->Keyed->Array Keyed->Nat->Nat->Nat->StateT VB a1i (Option Nat):=sortPriv% PySem.Builtin.gallop
section
variable {M:YJ}{A:TJ}{E:Value->SX->Prop}{σ:Type}
theorem jY {a:Type}{f:Nat->a->StateT σ a1i (ForInStep a)}{st:σ}{s:SX}{Q:a->σ->SX->Prop}(d:Nat->a->Prop)(m:a->Prop)(n:Nat)
  (step:∀ i x b,i<n->d i b->WZ M A E (f x b) (fun r j v=>j=st/\v=s/\match r with|.done c=>m c|.yield c=>d (i+1) c) st s)(fin:∀ b,d n b->m b)(k:∀ b,m b->Q b st s) :
  ∀ (l:List Nat)(i:Nat)(b:a),i+l.length=n->d i b->WZ M A E (forIn l b f) Q st s
 | [],i,b,h,hI=>kasC_nil (k b (fin b (by simp at h;subst h;exact hI)))
 | x::l,i,b,h,hI=>by
  rw [Tw] at h
  refine kasC_cons (T9 (step i x b (by omega) hI) (fun r v q=>?_) fun _ _ e=>e)
  obtain ⟨r,j⟩:=r
  obtain ⟨o,p,u⟩:=q
  dsimp only at o p
  subst o p
  cases r with
  | done c=>exact k c u
  | yield c=>exact jY d m n step fin k l (i+1) c (by omega) u
end
section
variable {prog:Tt}{w:TV}{A:TJ}{E:Value->SX->Prop}{κ:WI}{st:VB}{s:SX}
noncomputable def fW (prog:Tt)(w:TV)(A:TJ)(κ:WI)(s:SX)(X:Keyed->Prop)(an:Keyed->Keyed->Bool):Prop:=
 ∀ (x y:Keyed)(C:Bool->SX->Prop),X x->X y->C (an x y) s->TK (TH prog w) A (a3t κ x.1 y.1) C (fun _ _=>False) s
theorem qK {X:Keyed->Prop}{an:Keyed->Keyed->Bool}(hC:fW prog w A κ s X an)(c:kindOf st=κ){x y:Keyed}(d:X x)(e:X y){Q:Option Bool->VB->SX->Prop}(q:Q (some (an x y)) st s):WZ (TH prog w) A E (lt' x y) Q st s:=by
 rw [lt'_eq]
 refine Tf (WY ?_)
 rw [c]
 exact Tf (Yg (wpAny_attempt (T9 (hC x y (fun b a=>b=an x y/\a=s) d e ⟨rfl,rfl⟩) (fun b a z=>by obtain ⟨rfl,rfl⟩:=z;exact Tq q) fun _ _ f=>f.elim)))
theorem M5 {x:VB}{Q:PUnit->VB->SX->Prop}(h:Q ⟨⟩ x s):WZ (TH prog w) A E (set x:StateT VB a1i PUnit) Q st s:=by
 unfold WZ;rw [StateT.run_set];exact Tn h
theorem xM {a:Array Keyed}{i:Nat}{x:Keyed}{Q:Keyed->VB->SX->Prop}(h:a[i]? = some x)(q:Q x st s):WZ (TH prog w) A E (elem' a i) Q st s:=by
 rw [elem'_eq,h];exact Tq q
noncomputable def CY:Array Keyed->Array Keyed->StateT VB a1i (Array Keyed):=sortPriv% PySem.Builtin.mergeLo
noncomputable def CZ:Array Keyed->Array Keyed->StateT VB a1i (Array Keyed):=sortPriv% PySem.Builtin.mergeHi
theorem C0:∀ (l:List Keyed)(b:Array Keyed)(o k:Nat),o+k+l.length<=b.size->((l.zipIdx k).foldl (fun (a:Array Keyed)(x:Keyed×Nat)=>a.setIfInBounds (o+x.2) x.1) b).toList=b.toList.take (o+k)++l++b.toList.drop (o+k+l.length)
 | [],b,o,k,h=>by simp
 | x::l,b,o,k,h=>by
  rw [List.zipIdx_cons,Zh,C0 l _ o (k+1) (by rw [ZR];rw [Tw] at h;omega)]
  rw [Tw] at h
  have c:o+k<b.toList.length:=by simp;omega
  rw [Zs,Tw]
  dsimp only
  rw [show o+(k+1)=o+k+1 by omega,List.take_add_one,Ue c,a0F (Th _),List.drop_set_of_lt (by omega)]
  simp [show o+k+1+l.length=o+k+(l.length+1) by omega]
theorem M6 {X:Keyed->Prop}{an:Keyed->Keyed->Bool}(hC:fW prog w A κ s X an)(c:a2V st=κ){i j:Nat}{x y:Keyed}(a:(a1M st)[i]? = some x)(b:(a1M st)[j]? = some y)(d:X x)(e:X y){Q:Option Bool->VB->SX->Prop}(q:Q (some (an x y)) st s):WZ (TH prog w) A E (ltAt' i j) Q st s:=by
 rw [ltAt'_eq]
 refine Tf (WY ?_)
 refine Tf (xM a (Tf (xM b (qK hC c d e q))))
end
section
variable {prog:Tt}{w:TV}{A:TJ}{E:Value->SX->Prop}{s:SX}
theorem M7 (us:List Value):(us.toArray.zip us.toArray).toList=us.map fun u=>(u,u):=by
 simp only [Array.toList_zip]
 induction us with
 | nil=>rfl
 | cons u us a=>simpa using a
structure Near (us:List Value)(n K:Nat)(an:Value->Value->Bool):Prop where
 len:us.length=n+1
 le:K<=n
 asc:∀ (i:Nat)(x z:Value),i+1<n->us[i+1]? = some x->us[i]? = some z->an x z=false
 ris:∀ x z,us[0]? = some x->us[n - 1]? = some z->an x z=true
 at_:∀ (i:Nat)(x z:Value),i<n->us[i]? = some x->us[n]? = some z->an z x=decide (K<=i)
noncomputable def C1 (prog:Tt)(w:TV)(A:TJ)(us:List Value)(an:Value->Value->Bool)(s:SX):Prop:=
 TK (TH prog w) A (keyKind' us.toArray) (fun b a=>a=s/\∀ (x y:Value)(C:Bool->SX->Prop),x∈us->y∈us->C (an x y) s->TK (TH prog w) A (a3t b x y) C (fun _ _=>False) s) (fun _ _=>False) s
end
section
variable {X:Cx}{a3A:List (Addr×Obj)}{σ:L2.St}{H:Hp}{s:SX}
open Classical in
noncomputable def tv (K:SV)(H:Hp):Value->List Int
 | .ref a=>if h:∃ t:List Int,SqT K H a (t.map V.int) then h.choose else []
 | _=>[]
end
end L3
namespace L3
open PySem PySem.Spec
namespace Tb
section
variable {prog:Tt}{w:TV}{A:TJ}{E:Value->SX->Prop}{s:SX}
noncomputable abbrev IsT (prog:Tt)(w:TV)(h:Uw)(k:List Int)(b:Addr):Prop:=IsTupleKey (X0 prog w) h k b
end
section
variable {prog:Tt}{w:TV}{A:TJ}{R:a1j->SX->Prop}{I:Addr}{fp wr:List Addr}{G:Array a1U->Array a1U->Prop}{n:Nat}{P:Nat->Value->Prop}{St:Nat->SX->Prop}
end
section
variable {prog:Tt}{w:TV}{A:TJ}{E:Value->SX->Prop}{s:SX}
noncomputable abbrev fB (a:Bool):Obj:={ cls:=.type "set",dict:=none,data:=.set #[] 0 (.fresh 0 0 a) }
end
end Tb
end L3
namespace L3
open PySem L2
open PyProof.Rows (IntsAre)
theorem C2:∀ {ds:List D}{k:List Int},xC ds=some k->ds=k.map D.int
 | [],k,h=>by cases h;rfl
 | d::ds,k,h=>by
  cases d with
  | int i=>
   obtain ⟨c,a,b⟩:=SY.mp h
   subst b
   rw [C2 a];rfl
  | _=>cases h
theorem M8 {x:D}{k:List Int}(h:gH x=some k):x=.tup (k.map D.int):=by
 cases x with
 | tup ds=>rw [C2 h]
 | _=>cases h
noncomputable def tI (b:Hm):D->Option (List D)
 | .rol xs=>some xs
 | .loc a=>match b[a]? with
  | some (.lst xs)=>some xs
  | _=>none
 | _=>none
section
variable {K:SV}{π:Nat->Addr}{n:Nat}{H:Hp}{μ:Hm}
theorem M9 {v:V}{x:D}{xs:List D}(R:Rp K π H μ)(h:IsD K π μ.length H v x)(e:tI μ x=some xs):∃ p vs,v=.ref p/\SqL K H p vs/\IsDs K π μ.length H vs xs:=by
 cases h with
 | rol q t=>cases e;exact ⟨_,_,rfl,q.sq,t⟩
 | @loc a i=>
  simp only [tI] at e
  split at e
  ·rename_i j d
   cases e
   obtain ⟨vs,b,c⟩:=R.lst a xs d
   exact ⟨_,vs,rfl,.of b,c⟩
  ·cases e
 | _=>cases e
theorem ints_of':∀ {vs:List V}{k:List Int},IsDs K π n H vs (k.map D.int)->vs=k.map V.int
 | _,[],h=>by cases h;rfl
 | _,i::k,h=>by
  cases h with
  | cons h t=>cases h;rw [ints_of' t];rfl
theorem xN:∀ (k:List Int),IsDs K π n H (k.map V.int) (k.map D.int)
 | []=>.nil
 | i::k=>.cons (.int i) (xN k)
end
theorem C3 {X:Cx}:∀ {k:List Int}{xs:List Value},Vals (k.map V.int) xs->ItemsAre (X0 X.prog X.w) k xs
 | [],_,h=>by cases h;exact .nil
 | i::k,_,h=>by
  cases h with
  | cons h t=>
   obtain ⟨a,rfl⟩:=h
   exact .cons (intKind_is _ _ _ _) (C3 t)
section
variable {X:Cx}{a3A:List (Addr×Obj)}{σ:St}{H:Hp}{s:SX}
theorem kX (I:Inv X a3A σ H s){b:Addr}{k:List Int}(h:SqT X.K H b (k.map V.int)):Tb.IsT X.prog X.w s.heap k b:=by
 obtain ⟨j,i,⟨a,e,c,n,d⟩,_⟩:=I.tuple h
 exact ⟨a,j.toArray,n,e,c,d,by simpa using C3 i⟩
theorem call_lenT:CallR X (.builtin "len") (fun xs H Q=>∃ a L,xs=[V.ref a]/\H a=some (sJ a L)/\Q (.int L.length) H):=by
 intro a3A s σ H xs A Q I r h
 obtain ⟨a,L,rfl,e,q⟩:=h
 obtain ⟨u,rfl,y⟩:=lN r
 cases y
 obtain ⟨⟨o,p,x,d,z,t,R,c,hd,i,ok,v,hnd,m,j,w,l⟩,_,_⟩:=I.hok a _ e
 have b:d.size=L.length:=by
  have:=v.length_eq
  simpa using this
 have n:t.mask<=511:=by rcases m with h|h|h|h<;>omega
 refine call_len_set p c hd (Tb.fits_of ok i) (by rw [b];omega) ?_
 rw [b]
 exact ⟨.int L.length,H,I.tok _,⟨_,rfl⟩,q⟩
end
end L3
namespace L3
open PySem L2
end L3
namespace L3
open PySem L2 PySem.W PyProof.Rows
section
variable {prog:Tt}{w:TV}{A:TJ}{E:Value->SX->Prop}{κ:WI}{st:VB}{s:SX}
theorem Na {i j:Nat}{Q:Unit->VB->SX->Prop}(q:Q () (setArr st (a3s (a1M st) i j ((j - i) / 2))) s):WZ (TH prog w) A E (reverseSlice' i j) Q st s:=by
 rw [reverseSlice'_eq];exact V6 q
end
end L3
namespace L3
open PySem L2 PySem.W PyProof.Rows
section
variable {M:YJ}{A:TJ}{E:Value->SX->Prop}{σ:Type}
theorem iH {j:Type}{f:Nat->j->StateT σ a1i (ForInStep j)}{s:SX}{Q:j->σ->SX->Prop}(l:Nat->j->σ->Prop)(o:j->σ->Prop)(a n:Nat)
  (step:∀ i b st,i<n->l i b st->WZ M A E (f (a+i) b) (fun r d u=>u=s/\match r with|.done c=>o c d|.yield c=>l (i+1) c d) st s)(fin:∀ b st,l n b st->o b st)(k:∀ b st,o b st->Q b st s) :
  ∀ (m i:Nat)(b:j)(st:σ),i+m=n->l i b st->WZ M A E (forIn (XH (a+i) m) b f) Q st s
 | 0,i,b,st,h,hI=>kasC_nil (k b st (fin b st (by simp at h;subst h;exact hI)))
 | m+1,i,b,st,h,hI=>by
  rw [Y4]
  refine kasC_cons (T9 (step i b st (by omega) hI) (fun r u q=>?_) fun _ _ e=>e)
  obtain ⟨r,d⟩:=r
  obtain ⟨v,p⟩:=q
  subst v
  cases r with
  | done c=>exact k c _ p
  | yield c=>exact iH l o a n step fin k m (i+1) c d (by omega) p
end
section
variable {prog:Tt}{w:TV}{A:TJ}{E:Value->SX->Prop}{κ:WI}{st:VB}{s:SX}
theorem C4 {X:Keyed->Prop}{an:Keyed->Keyed->Bool}(hC:fW prog w A κ s X an)(hk:kindOf st=κ){O:Bool}{H:Keyed}{T:Array Keyed}{b n h:Nat}(hn:h<n)(y:Nat->Keyed)(ha:∀ i,i<n->T[b+i]? = some (y i))(Z:∀ i,i<n->X (y i))(hy:X H)(K:Nat)(hK:K<=n)
  (hB:∀ i,i<n->(if O then an (y i) H else !(an H (y i)))=decide (i<K)){Q:Option Nat->VB->SX->Prop}(q:Q (some K) st s):WZ (TH prog w) A E (tH O H T b n h) Q st s:=by
 have L:∀ {i:Nat}{R:Option Bool->VB->SX->Prop},i<n->R (some (decide (i<K))) st s->WZ (TH prog w) A E (do let x <- elem' T (b+i);if O then lt' x H else return (<- lt' H x).map (!·)) R st s:=by
  intro i R z r
  rw [elem'_eq,ha i z]
  refine Tf (Tq ?_)
  have:=hB i z
  cases O with
  | true=>
   simp only [if_true] at this ⊢
   exact qK hC hk (Z i z) hy (by rw [this];exact r)
  | false=>
   simp only [S6,if_false] at this ⊢
   refine Tf (qK hC hk hy (Z i z) (Tq ?_))
   show R (some (!(an H (y i)))) st s
   rw [this]
   exact r
 unfold tH
 refine Tf (L hn ?_)
 by_cases d:h<K
 ·simp only [d,decide_true,if_true]
  refine Tf (Ve (jY (fun i c=>c.1=none/\h+c.2.1<K/\c.2.1<c.2.2/\i+1<=c.2.2) (fun c=>c.1=none/\h+c.2.1<K/\c.2.1<c.2.2/\K<=h+min c.2.2 (n - h)) n (fun i x c z a=>?_) (fun c a=>⟨a.1,a.2.1,a.2.2.1,by omega⟩) (fun c G=>?_) _ 0 _ (by simp) ⟨rfl,d,by decide,Th _⟩))
  ·obtain ⟨B,Y,of⟩:=c
   obtain ⟨v,o,p,I⟩:=a
   dsimp only at v o p I ⊢
   by_cases l:of >= n - h
   ·rw [if_pos l]
    exact Tq ⟨rfl,rfl,rfl,o,p,by dsimp only;omega⟩
   ·rw [if_neg l]
    refine Tf (L (i:=h+of) (by omega) ?_)
    by_cases m:h+of<K
    ·simp only [m,decide_true,UA,S6,if_false]
     exact Tq ⟨rfl,rfl,rfl,by dsimp only;omega,by dsimp only;omega,by dsimp only;omega⟩
    ·simp only [m,decide_false,Vt,if_true]
     exact Tq ⟨rfl,rfl,rfl,o,p,by dsimp only;omega⟩
  ·obtain ⟨B,Y,of⟩:=c
   obtain ⟨v,o,p,I⟩:=G
   dsimp only at v o p I ⊢
   subst v
   dsimp only
   refine Tf (Ve (jY (fun i c=>c.1=none/\c.2.1<=K/\K<=c.2.2/\c.2.2<=n/\c.2.2 - c.2.1<=n - i) (fun c=>c.1=none/\c.2.2=K) n (fun i x c z a=>?_) (fun c a=>⟨a.1,by omega⟩) (fun c G=>?_) _ 0 _ (by simp) ⟨rfl,by dsimp only;omega,by dsimp only;omega,by dsimp only;omega,by dsimp only;omega⟩))
   ·obtain ⟨B,e,u⟩:=c
    obtain ⟨d,j,M,N,U⟩:=a
    dsimp only at d j M N U ⊢
    by_cases l:e >= u
    ·rw [if_pos l]
     exact Tq ⟨rfl,rfl,rfl,by dsimp only;omega⟩
    ·rw [if_neg l]
     refine Tf (L (i:=e+(u - e) / 2) (by omega) ?_)
     by_cases m:e+(u - e) / 2<K
     ·simp only [m,decide_true,if_true]
      exact Tq ⟨rfl,rfl,rfl,by dsimp only;omega,M,N,by dsimp only;omega⟩
     ·simp only [m,decide_false,S6,if_false]
      exact Tq ⟨rfl,rfl,rfl,j,by dsimp only;omega,by dsimp only;omega,by dsimp only;omega⟩
   ·obtain ⟨B,e,u⟩:=c
    obtain ⟨d,j⟩:=G
    dsimp only at d j ⊢
    subst d j
    exact Tq q
 ·simp only [d,decide_false,S6,if_false]
  refine Tf (Ve (jY (fun i c=>c.1=none/\K+c.2.1<=h/\c.2.1<c.2.2/\i+1<=c.2.2) (fun c=>c.1=none/\K+c.2.1<=h/\c.2.1<c.2.2/\h+1<=K+min c.2.2 (h+1)) n (fun i x c z a=>?_) (fun c a=>⟨a.1,a.2.1,a.2.2.1,by omega⟩) (fun c G=>?_) _ 0 _ (by simp) ⟨rfl,by dsimp only;omega,by decide,Th _⟩))
  ·obtain ⟨B,Y,of⟩:=c
   obtain ⟨v,o,p,I⟩:=a
   dsimp only at v o p I ⊢
   by_cases l:of >= h+1
   ·rw [if_pos l]
    exact Tq ⟨rfl,rfl,rfl,o,p,by dsimp only;omega⟩
   ·rw [if_neg l]
    refine Tf (L (i:=h - of) (by omega) ?_)
    by_cases m:h - of<K
    ·simp only [m,decide_true,if_true]
     exact Tq ⟨rfl,rfl,rfl,o,p,by dsimp only;omega⟩
    ·simp only [m,decide_false,S6,if_false]
     exact Tq ⟨rfl,rfl,rfl,by dsimp only;omega,by dsimp only;omega,by dsimp only;omega⟩
  ·obtain ⟨B,Y,of⟩:=c
   obtain ⟨v,o,p,I⟩:=G
   dsimp only at v o p I ⊢
   subst v
   dsimp only
   refine Tf (Ve (jY (fun i c=>c.1=none/\c.2.1<=K/\K<=c.2.2/\c.2.2<=n/\c.2.2 - c.2.1<=n - i) (fun c=>c.1=none/\c.2.2=K) n (fun i x c z a=>?_) (fun c a=>⟨a.1,by omega⟩) (fun c G=>?_) _ 0 _ (by simp) ⟨rfl,by dsimp only;omega,by dsimp only;omega,by dsimp only;omega,by dsimp only;omega⟩))
   ·obtain ⟨B,e,u⟩:=c
    obtain ⟨d,j,M,N,U⟩:=a
    dsimp only at d j M N U ⊢
    by_cases l:e >= u
    ·rw [if_pos l]
     exact Tq ⟨rfl,rfl,rfl,by dsimp only;omega⟩
    ·rw [if_neg l]
     refine Tf (L (i:=e+(u - e) / 2) (by omega) ?_)
     by_cases m:e+(u - e) / 2<K
     ·simp only [m,decide_true,if_true]
      exact Tq ⟨rfl,rfl,rfl,by dsimp only;omega,M,N,by dsimp only;omega⟩
     ·simp only [m,decide_false,S6,if_false]
      exact Tq ⟨rfl,rfl,rfl,j,by dsimp only;omega,by dsimp only;omega,by dsimp only;omega⟩
   ·obtain ⟨B,e,u⟩:=c
    obtain ⟨d,j⟩:=G
    dsimp only at d j ⊢
    subst d j
    exact Tq q
end
section
variable {α:Type}{r:α->Int}{A B O:List α}{ia ib:Nat}
noncomputable def Sr (r:α->Int)(l:List α):Prop:=l.Pairwise fun x y=>r x<=r y
structure J (r:α->Int)(A B O:List α)(ia ib:Nat):Prop where
 sa:Sr r (O++A.drop ia)
 sb:Sr r (O++B.drop ib)
 pm:O.Perm (A.take ia++B.take ib)
theorem J.swap (h:J r A B O ia ib):J r B A O ib ia:=⟨h.sb,h.sa,h.pm.trans VT⟩
theorem J.blockB (h:J r A B O ia ib){k:Nat}(j:∀ x∈(B.drop ib).take k,∀ y∈A.drop ia,r x<=r y):J r A B (O++(B.drop ib).take k) ia (ib+k):=by
 obtain ⟨a,b,i⟩:=h
 have e:O++(B.drop ib).take k++B.drop (ib+k)=O++B.drop ib:=by rw [Ts,<- ZA,Ua]
 refine ⟨?_,by rw [e];exact b,?_⟩
 ·unfold Sr at a b ⊢
  rw [Ts,UX]
  rw [UX] at a b
  refine ⟨a.1,?_,fun x d y c=>?_⟩
  ·rw [UX]
   exact ⟨b.2.1.sublist (Vp _ _),a.2.1,j⟩
  ·rcases Uj.mp c with c|c
   ·exact b.2.2 x d y (W7 c)
   ·exact a.2.2 x d y c
 ·rw [List.take_add]
  exact ((i.append_right _).trans (by rw [Ts]))
theorem J.blockA (h:J r A B O ia ib){k:Nat}(a:∀ x∈(A.drop ia).take k,∀ y∈B.drop ib,r x<=r y):J r A B (O++(A.drop ia).take k) (ia+k) ib:=(h.swap.blockB a).swap
theorem qL {l:List α}{i:Nat}{x:α}(h:l[i]? = some x):l.drop i=x::l.drop (i+1):=by
 obtain ⟨a,rfl⟩:=S2.mp h
 exact Vy a
theorem Sr.head {l:List α}{x:α}(h:Sr r (x::l)):∀ y∈x::l,r x<=r y:=fun y a=>by
 rcases TN.mp a with rfl|a
 ·exact Zj _
 ·exact List.rel_of_pairwise_cons h a
theorem J.lowA (h:J r A B O ia ib){x:α}(a:A[ia]? = some x):∀ y∈A.drop ia,r x<=r y:=by
 have:=(UX.mp h.sa).2.1
 rw [qL a] at this ⊢
 exact Sr.head this
theorem J.lowB (h:J r A B O ia ib){x:α}(a:B[ib]? = some x):∀ y∈B.drop ib,r x<=r y:=h.swap.lowA a
theorem J.pushB (h:J r A B O ia ib){x y:α}(d:A[ia]? = some x)(a:B[ib]? = some y)(e:r y<=r x):J r A B (O++[y]) ia (ib+1):=by
 have:=h.blockB (k:=1) (by
  rw [qL a]
  intro z b u c
  rw [Yu,Xv,Ud] at b
  subst b
  have:=h.lowA d u c
  omega)
 rwa [qL a,Yu,Xv] at this
theorem J.pushA (h:J r A B O ia ib){x y:α}(b:A[ia]? = some x)(c:B[ib]? = some y)(a:r x<=r y):J r A B (O++[x]) (ia+1) ib:=(h.swap.pushB c b a).swap
theorem C5 {l:List α}{i k:Nat}{x:α}(h:x∈(l.drop i).take k):∃ j,j<k/\l[i+j]? = some x:=by
 obtain ⟨j,a,e⟩:=U7 h
 rw [TR] at a
 refine ⟨j,by omega,?_⟩
 rw [<- e,XI,YO,S1]
theorem J.gallA (h:J r A B O ia ib){k:Nat}{y:α}(d:B[ib]? = some y)(b:∀ j x,j<k->A[ia+j]? = some x->r x<=r y):J r A B (O++(A.drop ia).take k) (ia+k) ib:=h.blockA fun x c z hz=>by
 obtain ⟨j,a,e⟩:=C5 c
 have i:=b j x a e
 have l:=h.lowB d z hz
 omega
theorem J.gallB (h:J r A B O ia ib){k:Nat}{x:α}(b:A[ia]? = some x)(a:∀ j y,j<k->B[ib+j]? = some y->r y<=r x):J r A B (O++(B.drop ib).take k) ia (ib+k):=(h.swap.gallA b a).swap
noncomputable def Fi (r:α->Int)(A B R:List α):Prop:=R.Perm (A++B)/\Sr r R
theorem J.endB (h:J r A B O ia ib)(a:B.length<=ib):Fi r A B (O++A.drop ia++B.drop ib):=by
 rw [Vs a,UK]
 refine ⟨?_,h.sa⟩
 have:=h.pm.append_right (A.drop ia)
 refine this.trans ?_
 rw [Vq a]
 refine VT.trans ?_
 rw [<- Ts]
 refine (List.Perm.append_right B (VT)).trans ?_
 rw [Ua]
theorem J.endA (h:J r A B O ia ib)(a:A.length<=ia):Fi r A B (O++A.drop ia++B.drop ib):=by
 have:=h.swap.endB a
 rw [Vs a,UK] at this ⊢
 exact ⟨this.1.trans VT,this.2⟩
theorem J.last (h:J r A B O ia ib)(d:A.length=ia+1)(b:∀ x,A[ia]? = some x->∀ y∈B,r y<=r x):Fi r A B (O++B.drop ib++A.drop ia):=by
 have a:A[ia]? = some A[ia]:=S1 (by omega)
 have g:=h.gallB (k:=B.length - ib) a fun j y _ c=>b _ a y (TQ c)
 have e:(B.drop ib).take (B.length - ib)=B.drop ib:=Vq (by rw [Uh];exact Th _)
 rw [e] at g
 have:=g.endB (by omega)
 rwa [Vs (l:=B) (i:=ib+(B.length - ib)) (by omega),UK] at this
end
end L3
namespace L3
open PySem L2 PySem.W PyProof.Rows
section
variable {prog:Tt}{w:TV}{A₀:TJ}{E:Value->SX->Prop}{κ:WI}{st:VB}{s:SX}{A B:List Keyed}
theorem C6 (A:List Keyed)(i:Nat):(A.toArray.extract i A.toArray.size).toList=A.drop i:=by
 rw [a0p,ZO,UT,S5,Vq (by rw [Uh];exact Th _)]
theorem qM (A:List Keyed)(i j:Nat):(A.toArray.extract i j).toList=(A.drop i).take (j - i):=by
 rw [a0p,ZO,UT]
theorem xO (A:List Keyed)(i k:Nat):(A.toArray.extract i (i+k)).toList=(A.drop i).take k:=by
 rw [qM,VF]
theorem dR {i:Nat}{x:Keyed}{Q:Keyed->VB->SX->Prop}(h:A[i]? = some x)(q:Q x st s):WZ (TH prog w) A₀ E (elem' A.toArray i) Q st s:=xM (by rw [Uq];exact h) q
noncomputable def oA (p:Keyed->Bool)(l:List Keyed):Nat:=(l.takeWhile p).length
theorem C7 (p:Keyed->Bool)(l:List Keyed):oA p l<=l.length:=a3e (List.takeWhile_sublist _)
theorem xP {p:Keyed->Bool}:∀ {l:List Keyed},l.Pairwise (fun x y=>p y=true->p x=true)->∀ (i:Nat)(x:Keyed),l[i]? = some x->p x=decide (i<oA p l)
 | [],_,i,x,h=>by cases h
 | a::l,hp,i,x,h=>by
  unfold oA
  rw [Wb] at hp
  cases b:p a with
  | true=>
   rw [a0G,b,if_pos rfl,Tw]
   cases i with
   | zero=>cases h;rw [b];simp
   | succ i=>
    have:=xP hp.2 i x h
    unfold oA at this
    rw [this]
    simp
  | false=>
   rw [a0G,b,if_neg UN,VH]
   cases i with
   | zero=>cases h;rw [b];simp
   | succ i=>
    cases c:p x with
    | false=>simp
    | true=>
     have:=hp.1 x (TQ h) c
     rw [b] at this
     cases this
variable {X:Keyed->Prop}{r:Keyed->Int}
noncomputable abbrev lr (r:Keyed->Int)(x y:Keyed):Bool:=decide (r x<r y)
theorem Sr.le {l:List Keyed}(h:Sr r l)(b:Int):l.Pairwise (fun x y=>decide (r y<=b)=true->decide (r x<=b)=true):=h.imp fun {x y} h1 a=>by
 rw [decide_eq_true_eq] at a ⊢;omega
theorem Sr.lt {l:List Keyed}(h:Sr r l)(b:Int):l.Pairwise (fun x y=>decide (r y<b)=true->decide (r x<b)=true):=h.imp fun {x y} h1 a=>by
 rw [decide_eq_true_eq] at a ⊢;omega
theorem Sr.part {l:List Keyed}(h:Sr r l)(i k:Nat):Sr r ((l.drop i).take k):=(U4 (Vp _ _) (U4 (Wg _ _) h))
theorem xQ (hC:fW prog w A₀ κ s X (lr r))(u:kindOf st=κ){a:Keyed}{b n h:Nat}(v:h<n)(z:b+n<=A.length)(p:∀ x∈A,X x)(y:X a)(o:Sr r ((A.drop b).take n))
  {Q:Option Nat->VB->SX->Prop}(q:∀ K,K<=n->(∀ j x,j<n->A[b+j]? = some x->(r x<=r a↔j<K))->Q (some K) st s):WZ (TH prog w) A₀ E (tH false a A.toArray b n h) Q st s:=by
 have e:∀ i,i<n->A[b+i]? = some (A.getD (b+i) (.none,.none)):=fun i c=>by
  rw [Tz,S1 (by omega)];rfl
 have hc:=xP (o.le (r a))
 have m:=C7 (fun x=>decide (r x<=r a)) ((A.drop b).take n)
 rw [TR,Uh] at m
 have d:∀ j x,j<n->A[b+j]? = some x->((A.drop b).take n)[j]? = some x:=fun j x l h=>by
  rw [UZ l,Wc];exact h
 refine C4 hC u v (fun i=>A.getD (b+i) (.none,.none)) (fun i c=>by rw [Uq];exact e i c) (fun i c=>p _ (TQ (e i c))) y _ (by omega) (fun i c=>?_) (q (oA (fun x=>decide (r x<=r a)) ((A.drop b).take n)) (by omega) fun j x l h=>?_)
 ·have:=hc i _ (d i _ c (e i c))
  rw [if_neg UN,<- this]
  unfold lr
  by_cases h:r a<r (A.getD (b+i) (.none,.none))
  ·rw [decide_eq_true h,decide_eq_false (by omega)];rfl
  ·rw [decide_eq_false h,decide_eq_true (by omega)];rfl
 ·have:=hc j x (d j x l h)
  rw [<- decide_eq_true_eq (p:=r x<=r a),this,decide_eq_true_eq]
theorem xR (hC:fW prog w A₀ κ s X (lr r))(u:kindOf st=κ){c:Keyed}{b n h:Nat}(v:h<n)(z:b+n<=A.length)(p:∀ x∈A,X x)(y:X c)(o:Sr r ((A.drop b).take n))
  {Q:Option Nat->VB->SX->Prop}(q:∀ K,K<=n->(∀ j x,j<n->A[b+j]? = some x->(r x<r c↔j<K))->Q (some K) st s):WZ (TH prog w) A₀ E (tH true c A.toArray b n h) Q st s:=by
 have e:∀ i,i<n->A[b+i]? = some (A.getD (b+i) (.none,.none)):=fun i a=>by
  rw [Tz,S1 (by omega)];rfl
 have hc:=xP (o.lt (r c))
 have m:=C7 (fun x=>decide (r x<r c)) ((A.drop b).take n)
 rw [TR,Uh] at m
 have d:∀ j x,j<n->A[b+j]? = some x->((A.drop b).take n)[j]? = some x:=fun j x l h=>by
  rw [UZ l,Wc];exact h
 refine C4 hC u v (fun i=>A.getD (b+i) (.none,.none)) (fun i a=>by rw [Uq];exact e i a) (fun i a=>p _ (TQ (e i a))) y _ (by omega) (fun i a=>?_) (q (oA (fun x=>decide (r x<r c)) ((A.drop b).take n)) (by omega) fun j x l h=>?_)
 ·have:=hc i _ (d i _ a (e i a))
  rw [if_pos rfl,<- this]
 ·have:=hc j x (d j x l h)
  rw [<- decide_eq_true_eq (p:=r x<r c),this,decide_eq_true_eq]
end
end L3
namespace L3
open PySem L2 PySem.W PyProof.Rows
section
variable {prog:Tt}{w:TV}{A₀:TJ}{E:Value->SX->Prop}{κ:WI}{s:SX}{A B:List Keyed}{X:Keyed->Prop}{r:Keyed->Int}
theorem bT {σ j:Type}{M:YJ}{d:TJ}{e:Value->SX->Prop}{i:SX}{Q:j->σ->SX->Prop}{st:σ}{c:Prop} [Decidable c] {a b:StateT σ a1i j}(l:¬ c->WZ M d e b Q st i)(h1:c->WZ M d e a Q st i):WZ M d e (if c then a else b) Q st i:=by
 by_cases h:c
 ·rw [if_pos h];exact h1 h
 ·rw [if_neg h];exact l h
theorem jZ (out:Array Keyed)(i j:Nat):(out++A.toArray.extract i A.toArray.size++B.toArray.extract j B.toArray.size).toList=out.toList++A.drop i++B.drop j:=by
 rw [Vu,Vu,C6,C6]
noncomputable def Go (r:Keyed->Int)(A B:List Keyed)(n:Nat)(out:Array Keyed)(a b:Nat):Prop:=J r A B out.toList a b/\a+1<A.length/\b<B.length/\n<=a+b
theorem Nb (hC:fW prog w A₀ κ s X (lr r))(hXA:∀ x∈A,X x)(hXB:∀ x∈B,X x)(hA:Sr r A)(hB:Sr r B)(hA0:0<A.length)(hB0:0<B.length)(hf:∀ y,B[0]? = some y->∀ x∈A,r y<=r x)(hl:∀ x,A[A.length - 1]? = some x->∀ y∈B,r y<=r x)
  {Z:Array Keyed}{pd:Array (Nat×Nat×Nat)}{mg:Nat}{Q:Array Keyed->VB->SX->Prop}(q:∀ R p,Fi r A B R.toList->Q R (TX κ Z pd p none) s) :
  WZ (TH prog w) A₀ E (CY A.toArray B.toArray) Q (TX κ Z pd mg none) s:=by
 have getA:∀ i,i<A.length->∃ x,A[i]? = some x/\X x:=fun i hi=>⟨A[i],S1 hi,hXA _ (VA hi)⟩
 have G:∀ i,i<B.length->∃ x,B[i]? = some x/\X x:=fun i hi=>⟨B[i],S1 hi,hXB _ (VA hi)⟩
 have last:∀ {O:List Keyed}{d l:Nat},J r A B O d l->d+1=A.length->Fi r A B (O++B.drop l++A.drop d):=fun {O d l} h e=>h.last e.symm fun x o=>hl x (by rw [show A.length - 1=d by omega];exact o)
 unfold CY
 refine Tf (Yg (WM ?_))
 obtain ⟨y0,L,_⟩:=G 0 hB0
 refine Tf (dR L ?_)
 have j0:J r A B [y0] 0 1:=by
  refine ⟨?_,?_,?_⟩
  ·show Sr r (y0::A.drop 0)
   unfold Sr
   rw [VS,Wb]
   exact ⟨fun x o=>hf y0 L x o,hA⟩
  ·show Sr r (y0::B.drop 1)
   rw [<- qL L,VS]
   exact hB
  ·rw [Xv,Ub]
   cases B with
   | nil=>cases L
   | cons b B=>cases L;exact Xa _
 dsimp only
 by_cases h1:B.length=1
 ·rw [if_pos (by rw [S5,h1];rfl)]
  refine Tq (q _ _ ?_)
  rw [jZ]
  exact j0.endB (by omega)
 rw [if_neg (by rw [S5,beq_iff_eq];omega)]
 by_cases h2:A.length=1
 ·rw [if_pos (by rw [S5,h2];rfl)]
  refine Tq (q _ _ ?_)
  rw [jZ]
  exact last j0 (by omega)
 rw [if_neg (by rw [S5,beq_iff_eq];omega)]
 refine Tf (WY ?_)
 have K:A.toArray.size+B.toArray.size=A.length+B.length:=by rw [S5,S5]
 refine Tf (Ve (iH (fun i c st=>(∃ p,st=TX κ Z pd p none)/\∃ a d l m,c=(none,a,d,l,m)/\Go r A B (i+1) a d l) (fun c st=>(∃ p,st=TX κ Z pd p none)/\∃ R:Array Keyed,c.1=some R/\Fi r A B R.toList) 0 (A.length+B.length) (fun i c st hi hI=>?_) (fun c st hI=>?_) (fun c st T=>?_) (A.toArray.size+B.toArray.size - 0) 0 _ _ (by rw [K];omega) ⟨⟨_,rfl⟩,_,_,_,_,rfl,j0,by omega,by omega,by omega⟩))
 ·obtain ⟨⟨mg1,rfl⟩,a,d,l,m,rfl,hG⟩:=hI
  dsimp only
    -- one by one
  refine Tf (Ve (iH (fun j c st=>st=TX κ Z pd mg1 none/\∃ a d l H I,c=(none,a,d,l,H,I)/\Go r A B (i+1+j) a d l) (fun c st=>st=TX κ Z pd mg1 none/\((∃ R:Array Keyed,c.1=some R/\Fi r A B R.toList)\/∃ a d l H I,c=(none,a,d,l,H,I)/\Go r A B (i+2) a d l)) 0 (A.length+B.length) (fun j c st hj hJ=>?_) (fun c st hJ=>?_) (fun c st T=>?_) (A.toArray.size+B.toArray.size - 0) 0 _ _ (by rw [K];omega) ⟨rfl,_,_,_,_,_,rfl,hG⟩))
  ·obtain ⟨rfl,a,d,l,H,I,rfl,N,g2,g3,g4⟩:=hJ
   dsimp only
   obtain ⟨x,o,Xx⟩:=getA d (by omega)
   obtain ⟨y,U,Xy⟩:=G l g3
   refine Tf (dR U (Tf (dR o (Tf (qK hC rfl Xy Xx ?_)))))
   dsimp only
   by_cases hc:r y<r x
   ·rw [if_pos (by unfold lr;exact decide_eq_true hc)]
    refine Tf (dR U ?_)
    have v:=N.pushB o U (X9 hc)
    rw [<- U8] at v
    by_cases u:l+1=B.length
    ·rw [if_pos (by rw [S5,beq_iff_eq];exact u)]
     refine Tq ⟨rfl,rfl,.inl ⟨_,rfl,?_⟩⟩
     rw [jZ]
     exact v.endB (by omega)
    ·rw [if_neg (by rw [S5,beq_iff_eq];exact u)]
     split
     ·exact Tq ⟨rfl,rfl,.inr ⟨_,_,_,_,_,rfl,v,g2,by omega,by omega⟩⟩
     ·exact Tq ⟨rfl,rfl,_,_,_,_,_,rfl,v,g2,by omega,by omega⟩
   ·rw [if_neg (by unfold lr;rw [decide_eq_true_eq];exact hc)]
    refine Tf (dR o ?_)
    have v:=N.pushA o U (by omega)
    rw [<- U8] at v
    by_cases u:d+1+1=A.length
    ·rw [if_pos (by rw [S5,beq_iff_eq];exact u)]
     refine Tq ⟨rfl,rfl,.inl ⟨_,rfl,?_⟩⟩
     rw [jZ]
     exact last v u
    ·rw [if_neg (by rw [S5,beq_iff_eq];exact u)]
     split
     ·exact Tq ⟨rfl,rfl,.inr ⟨_,_,_,_,_,rfl,v,by omega,g3,by omega⟩⟩
     ·exact Tq ⟨rfl,rfl,_,_,_,_,_,rfl,v,by omega,g3,by omega⟩
  ·obtain ⟨rfl,a,d,l,H,I,rfl,N,g2,g3,g4⟩:=hJ
   exact ⟨rfl,.inr ⟨_,_,_,_,_,rfl,N,g2,g3,by omega⟩⟩
  ·obtain ⟨rfl,T⟩:=T
   obtain ⟨c0,a,d,l,H,I⟩:=c
   dsimp only
   rcases T with ⟨R,e,hR⟩|⟨n,Y,ib',ac',bc',e,hG⟩
   ·dsimp only at e
    subst e
    exact Tq ⟨rfl,⟨_,rfl⟩,R,rfl,hR⟩
   cases e
   dsimp only
   refine Tf (Yg (WM ?_))
      -- by leaps
   refine Tf (Ve (iH (fun j c st=>(∃ p,st=TX κ Z pd p none)/\∃ a d l m H I,c=(none,a,d,l,m,H,I)/\Go r A B (i+2) a d l) (fun c st=>(∃ p,st=TX κ Z pd p none)/\((∃ R:Array Keyed,c.1=some R/\Fi r A B R.toList)\/∃ a d l m H I,c=(none,a,d,l,m,H,I)/\Go r A B (i+2) a d l)) 0 (A.length+B.length) (fun j c st hj hJ=>?_) (fun c st hJ=>?_) (fun c st T=>?_) (A.toArray.size+B.toArray.size - 0) 0 _ _ (by rw [K];omega) ⟨⟨_,rfl⟩,_,_,_,_,_,_,rfl,hG⟩))
   ·obtain ⟨⟨mg2,rfl⟩,a,d,l,m,H,I,rfl,N,g2,g3,g4⟩:=hJ
    dsimp only
    obtain ⟨y,U,Xy⟩:=G l g3
    refine bT (fun hm=>?_) fun hm=>?_
    all_goals
     refine Tf (V6 ?_)
     refine Tf (dR U ?_)
     refine Tf (xQ hC rfl (b:=d) (n:=A.toArray.size - d) (h:=0) (by rw [S5];omega) (by rw [S5];omega) hXA Xy (hA.part _ _) fun k hk1 hk2=>?_)
     rw [S5] at hk1
     dsimp only
     have v:=N.gallA (k:=k) U fun j x hj o=>(hk2 j x (by rw [S5];omega) o).mpr hj
     have nx:∀ x,A[d+k]? = some x->r y<r x:=fun x o=>by
      have h1:=(S2.mp o).1
      have:=hk2 k x (by rw [S5];omega) o
      omega
     have g6:k=0->J r A B a.toList (d+k) l:=fun e=>by rw [e];exact N
     have e1:(a++A.toArray.extract d (d+k)).toList=a.toList++(A.drop d).take k:=by rw [Vu,xO]
     rw [<- e1] at v
     refine bT (fun hk0=>?_) fun hk0=>bT (fun u=>bT (fun he2=>?_) fun he2=>?_) fun u=>?_
     rotate_left 2
     ·rw [S5,beq_iff_eq] at he2
      refine Tq ⟨rfl,⟨_,rfl⟩,.inl ⟨_,rfl,?_⟩⟩
      rw [jZ]
      exact v.endA (by omega)
     ·rw [S5,beq_iff_eq] at u
      refine Tq ⟨rfl,⟨_,rfl⟩,.inl ⟨_,rfl,?_⟩⟩
      rw [jZ]
      exact last v u
     have t0:d<=d:=Th _
     have t1:=N
     have t2:=g2
     have t3:∀ x,A[d]? = some x->r y<r x:=by rw [show k=0 by omega] at nx;exact nx
     generalize hout:a=n at t1 ⊢
     generalize hia:(d:Nat)=Y at t0 t1 t2 t3 ⊢
     rw [<- hia] at t0
     rotate_left
     rw [S5,beq_iff_eq] at u he2
     have t0:d<=d+k:=by omega
     have t1:=v
     have t2:d+k+1<A.length:=by omega
     have t3:=nx
     generalize a++A.toArray.extract d (d+k)=n at t1 ⊢
     generalize d+k=Y at t0 t1 t2 t3 ⊢
     all_goals
      obtain ⟨x,o,Xx⟩:=getA Y (by omega)
      have t5:=t1.pushB o U (X9 (t3 x o))
      rw [<- U8] at t5
      refine Tf (dR U ?_)
      refine bT (fun u=>?_) fun u=>?_
      rotate_left
      ·rw [S5,beq_iff_eq] at u
       refine Tq ⟨rfl,⟨_,rfl⟩,.inl ⟨_,rfl,?_⟩⟩
       rw [jZ]
       exact t5.endB (by omega)
      rw [S5,beq_iff_eq] at u
      refine Tf (dR o ?_)
      refine Tf (xR hC rfl (b:=l+1) (n:=B.toArray.size - (l+1)) (h:=0) (by rw [S5];omega) (by rw [S5];omega) hXB Xx (hB.part _ _) fun M hm1 hm2=>?_)
      rw [S5] at hm1
      dsimp only
      have u5:=t5.gallB (k:=M) o fun j z hj hz=>X9 ((hm2 j z (by rw [S5];omega) hz).mpr hj)
      have nz:∀ z,B[l+1+M]? = some z->r x<=r z:=fun z hz=>by
       have h1:=(S2.mp hz).1
       have:=hm2 M z (by rw [S5];omega) hz
       omega
      have e2:(n.push y++B.toArray.extract (l+1) (l+1+M)).toList=(n.push y).toList++(B.drop (l+1)).take M:=by rw [Vu,xO]
      rw [<- e2] at u5
      refine bT (fun hk1'=>?_) fun hk1'=>bT (fun hb=>?_) fun hb=>?_
      rotate_left 2
      ·rw [S5,beq_iff_eq] at hb
       refine Tq ⟨rfl,⟨_,rfl⟩,.inl ⟨_,rfl,?_⟩⟩
       rw [jZ]
       exact u5.endB (by omega)
      have v1:=t5
      have v2:l+1<B.length:=by omega
      have v3:∀ z,B[l+1]? = some z->r x<=r z:=by rw [show M=0 by omega] at nz;exact nz
      have v4:l<l+1:=by omega
      generalize n.push y=ou at v1 ⊢
      generalize l+1=jb at v1 v2 v3 v4 ⊢
      rotate_left
      rw [S5,beq_iff_eq] at hb
      have v1:=u5
      have v2:l+1+M<B.length:=by omega
      have v3:=nz
      have v4:l<l+1+M:=by omega
      generalize n.push y++B.toArray.extract (l+1) (l+1+M)=ou at v1 ⊢
      generalize l+1+M=jb at v1 v2 v3 v4 ⊢
      all_goals
       obtain ⟨z,hz,Xz⟩:=G jb v2
       have v5:=v1.pushA o hz (v3 z hz)
       rw [<- U8] at v5
       refine Tf (dR o ?_)
       refine bT (fun hf=>?_) fun hf=>?_
       ·rw [S5,beq_iff_eq] at hf
        exact bT (fun _=>Tq ⟨rfl,⟨_,rfl⟩,_,_,_,_,_,_,rfl,v5,by omega,v2,by omega⟩) fun _=>Tq ⟨rfl,⟨_,rfl⟩,.inr ⟨_,_,_,_,_,_,rfl,v5,by omega,v2,by omega⟩⟩
       ·rw [S5,beq_iff_eq] at hf
        refine Tq ⟨rfl,⟨_,rfl⟩,.inl ⟨_,rfl,?_⟩⟩
        rw [jZ]
        exact last v5 hf
   ·obtain ⟨h1,h2⟩:=hJ
    exact ⟨h1,.inr h2⟩
   ·obtain ⟨⟨mg2,rfl⟩,T⟩:=T
    obtain ⟨c0,a,d,l,m,H,I⟩:=c
    dsimp only
    rcases T with ⟨R,e,hR⟩|⟨n,Y,ib',m',ac',bc',e,hG⟩
    ·dsimp only at e
     subst e
     exact Tq ⟨rfl,⟨_,rfl⟩,R,rfl,hR⟩
    cases e
    dsimp only
    exact Tf (V6 (Tq ⟨rfl,⟨_,rfl⟩,_,_,_,_,rfl,hG⟩))
 ·obtain ⟨_,a,d,l,m,rfl,N,g2,g3,g4⟩:=hI
  omega
 ·obtain ⟨⟨mg1,rfl⟩,R,e,hR⟩:=T
  obtain ⟨c0,c1⟩:=c
  dsimp only at e ⊢
  subst e
  exact Tq (q R _ hR)
end
end L3
namespace L3
open PySem L2 PySem.W PyProof.Rows
section
variable {r:Keyed->Int}{A B O:List Keyed}{na nb:Nat}
noncomputable def JH (r:Keyed->Int)(A B O:List Keyed)(na nb:Nat):Prop:=na<=A.length/\nb<=B.length/\J (fun x=>-r x) B.reverse A.reverse O (B.length - nb) (A.length - na)
theorem oB {l:List Keyed}{n:Nat}{x:Keyed}(h:l[n - 1]? = some x)(h1:1<=n)(a:n<=l.length):l.reverse[l.length - n]? = some x:=by
 rw [U0 (by omega),<- h]
 congr 1
 omega
theorem JH.pushA (h:JH r A B O na nb){x y:Keyed}(e:A[na - 1]? = some x)(i:B[nb - 1]? = some y)(h1:1<=na)(d:1<=nb)(j:r y<=r x):JH r A B (O++[x]) (na - 1) nb:=by
 obtain ⟨b,a,c⟩:=h
 refine ⟨by omega,a,?_⟩
 have:=c.pushB (oB i d a) (oB e h1 b) (by omega)
 rw [show A.length - (na - 1)=A.length - na+1 by omega]
 exact this
theorem JH.pushB (h:JH r A B O na nb){x y:Keyed}(e:A[na - 1]? = some x)(i:B[nb - 1]? = some y)(h1:1<=na)(d:1<=nb)(j:r x<=r y):JH r A B (O++[y]) na (nb - 1):=by
 obtain ⟨a,b,c⟩:=h
 refine ⟨a,by omega,?_⟩
 have:=c.pushA (oB i d b) (oB e h1 a) (by omega)
 rw [show B.length - (nb - 1)=B.length - nb+1 by omega]
 exact this
theorem C8 {l:List Keyed}{n t:Nat}(h1:t<=n)(b:n<=l.length):(l.reverse.drop (l.length - n)).take (n - t)=((l.drop t).take (n - t)).reverse:=by
 apply XJ
 intro i
 have a:((l.drop t).take (n - t)).length=n - t:=by rw [TR,Uh];omega
 by_cases h:i<n - t
 ·rw [UZ h,Wc,U0 (by omega),U0 (by omega),a,UZ (by omega),Wc]
  congr 1
  omega
 ·rw [Vb (by rw [TR,Uh,Vv];omega),Vb (by rw [Vv,a];omega)]
theorem JH.gallA (h:JH r A B O na nb){t:Nat}{y:Keyed}(m:B[nb - 1]? = some y)(e:1<=nb)(l:t<=na)(i:∀ j x,t<=j->j<na->A[j]? = some x->r y<=r x):JH r A B (O++((A.drop t).take (na - t)).reverse) t nb:=by
 obtain ⟨c,b,d⟩:=h
 refine ⟨by omega,b,?_⟩
 have:=d.gallB (k:=na - t) (oB m e b) fun j z o n=>by
  have a:A[A.length - 1 - (A.length - na+j)]? = some z:=by rw [<- n,U0 (by omega)]
  have:=i _ z (by omega) (by omega) a
  omega
 rw [C8 l c] at this
 rw [show A.length - t=A.length - na+(na - t) by omega]
 exact this
theorem JH.gallB (h:JH r A B O na nb){t:Nat}{x:Keyed}(l:A[na - 1]? = some x)(h1:1<=na)(i:t<=nb)(e:∀ j y,t<=j->j<nb->B[j]? = some y->r x<=r y):JH r A B (O++((B.drop t).take (nb - t)).reverse) na t:=by
 obtain ⟨b,c,d⟩:=h
 refine ⟨b,by omega,?_⟩
 have:=d.gallA (k:=nb - t) (oB l h1 b) fun j z n m=>by
  have a:B[B.length - 1 - (B.length - nb+j)]? = some z:=by rw [<- m,U0 (by omega)]
  have:=e _ z (by omega) (by omega) a
  omega
 rw [C8 i c] at this
 rw [show B.length - t=B.length - nb+(nb - t) by omega]
 exact this
theorem oC {l:List Keyed}{n:Nat}:l.reverse.drop (l.length - n)=(l.take n).reverse:=by
 rw [List.reverse_take]
theorem Fi.rev {R:List Keyed}(h:Fi (fun x=>-r x) B.reverse A.reverse R):Fi r A B R.reverse:=by
 refine ⟨(XG R).trans (h.1.trans ((List.Perm.append (XG B) (XG A)).trans VT)),?_⟩
 unfold Sr
 rw [Yd]
 exact h.2.imp fun {x y} h=>by dsimp only at h;omega
theorem JH.endA (h:JH r A B O na nb)(d:na=0):Fi r A B (A.take na++B.take nb++O.reverse):=by
 obtain ⟨b,c,a⟩:=h
 have:=(a.endB (by rw [Vv];omega)).rev
 rw [oC,oC] at this
 simpa using this
theorem JH.endB (h:JH r A B O na nb)(d:nb=0):Fi r A B (A.take na++B.take nb++O.reverse):=by
 obtain ⟨b,c,a⟩:=h
 have:=(a.endA (by rw [Vv];omega)).rev
 rw [oC,oC] at this
 simpa using this
theorem JH.last (h:JH r A B O na nb)(l:nb=1)(c:∀ y,B[0]? = some y->∀ x∈A,r y<=r x):Fi r A B (B.take nb++A.take na++O.reverse):=by
 obtain ⟨i,j,b⟩:=h
 have:=(b.last (by rw [Vv];omega) fun y e x d=>by
  have a:B[0]? = some y:=by rw [<- e,U0 (by omega)];congr 1;omega
  have:=c y a x (a1D.mp d)
  omega).rev
 rw [oC,oC] at this
 simpa using this
variable {prog:Tt}{w:TV}{A₀:TJ}{E:Value->SX->Prop}{κ:WI}{s:SX}{X:Keyed->Prop}
theorem j6 (out:Array Keyed)(i j:Nat):(A.toArray.extract 0 i++B.toArray.extract 0 j++out.reverse).toList=A.take i++B.take j++out.toList.reverse:=by
 rw [Vu,Vu,qM,qM,a0o,VS,VS,a0k,a0k]
theorem C9 (out:Array Keyed)(A:List Keyed)(t n:Nat):(out++(A.toArray.extract t n).reverse).toList=out.toList++((A.drop t).take (n - t)).reverse:=by
 rw [Vu,a0o,qM]
noncomputable def qN (r:Keyed->Int)(A B:List Keyed)(n:Nat)(out:Array Keyed)(na nb:Nat):Prop:=JH r A B out.toList na nb/\1<=na/\2<=nb/\n+na+nb<=A.length+B.length
theorem Nc (hC:fW prog w A₀ κ s X (lr r))(hXA:∀ x∈A,X x)(hXB:∀ x∈B,X x)(hA:Sr r A)(hB:Sr r B)(hA0:0<A.length)(hB0:0<B.length)(hf:∀ y,B[0]? = some y->∀ x∈A,r y<=r x)(hl:∀ x,A[A.length - 1]? = some x->∀ y∈B,r y<=r x)
  {Y:Array Keyed}{pd:Array (Nat×Nat×Nat)}{mg:Nat}{Q:Array Keyed->VB->SX->Prop}(q:∀ R d,Fi r A B R.toList->Q R (TX κ Y pd d none) s) :
  WZ (TH prog w) A₀ E (CZ A.toArray B.toArray) Q (TX κ Y pd mg none) s:=by
 have G:∀ i,i<A.length->∃ x,A[i]? = some x/\X x:=fun i hi=>⟨A[i],S1 hi,hXA _ (VA hi)⟩
 have H:∀ i,i<B.length->∃ x,B[i]? = some x/\X x:=fun i hi=>⟨B[i],S1 hi,hXB _ (VA hi)⟩
 unfold CZ
 refine Tf (Yg (WM ?_))
 obtain ⟨x0,hx0,_⟩:=G (A.length - 1) (by omega)
 refine Tf (dR (by rw [S5];exact hx0) ?_)
 have j0:JH r A B [x0] (A.length - 1) B.length:=by
  refine ⟨by omega,Th _,?_⟩
  have e:A.reverse=x0::A.reverse.drop 1:=by
   have:=qL (l:=A.reverse) (i:=0) (x:=x0) (by rw [U0 (by omega)];exact hx0)
   rwa [VS] at this
  rw [WQ,show A.length - (A.length - 1)=1 by omega]
  refine ⟨?_,?_,?_⟩
  ·unfold Sr
   rw [VS]
   show (x0::B.reverse).Pairwise _
   rw [Wb]
   refine ⟨fun y I=>?_,?_⟩
   ·have:=hl x0 hx0 y (a1D.mp I)
    dsimp only
    omega
   ·rw [Yd]
    exact hB.imp fun {x y} h=>by dsimp only;omega
  ·show Sr _ (x0::A.reverse.drop 1)
   rw [<- e]
   unfold Sr
   rw [Yd]
   exact hA.imp fun {x y} h=>by dsimp only;omega
  ·rw [Xv,Ub,e]
   exact Xa _
 dsimp only
 rw [S5,S5]
 refine bT (fun K=>bT (fun L=>?_) fun L=>?_) fun K=>?_
 rotate_left
 ·rw [beq_iff_eq] at L
  refine Tq (q _ _ ?_)
  rw [j6]
  exact j0.last L hf
 ·rw [beq_iff_eq] at K
  refine Tq (q _ _ ?_)
  rw [j6]
  exact j0.endA K
 rw [beq_iff_eq] at K L
 refine Tf (WY ?_)
 refine Tf (Ve (iH (fun i c st=>(∃ d,st=TX κ Y pd d none)/\∃ na nb a m,c=(none,na,nb,a,m)/\qN r A B (i+1) a na nb) (fun c st=>(∃ d,st=TX κ Y pd d none)/\∃ R:Array Keyed,c.1=some R/\Fi r A B R.toList) 0 (A.length+B.length) (fun i c st hi hI=>?_) (fun c st hI=>?_) (fun c st N=>?_) (A.length+B.length - 0) 0 _ _ (by omega) ⟨⟨_,rfl⟩,_,_,_,_,rfl,j0,by omega,by omega,by omega⟩))
 ·obtain ⟨⟨mg1,rfl⟩,na,nb,a,m,rfl,hG⟩:=hI
  dsimp only
  refine Tf (Ve (iH (fun j c st=>st=TX κ Y pd mg1 none/\∃ na nb a o p,c=(none,na,nb,a,o,p)/\qN r A B (i+1+j) a na nb) (fun c st=>st=TX κ Y pd mg1 none/\((∃ R:Array Keyed,c.1=some R/\Fi r A B R.toList)\/∃ na nb a o p,c=(none,na,nb,a,o,p)/\qN r A B (i+2) a na nb)) 0 (A.length+B.length) (fun j c st hj Z=>?_) (fun c st Z=>?_) (fun c st N=>?_) (A.length+B.length - 0) 0 _ _ (by omega) ⟨rfl,_,_,_,_,_,rfl,hG⟩))
  ·obtain ⟨rfl,na,nb,a,o,p,rfl,v,g2,g3,g4⟩:=Z
   dsimp only
   have l1:=v.1
   have l2:=v.2.1
   obtain ⟨x,b,Xx⟩:=G (na - 1) (by omega)
   obtain ⟨y,I,Xy⟩:=H (nb - 1) (by omega)
   refine Tf (dR I (Tf (dR b (Tf (qK hC rfl Xy Xx ?_)))))
   dsimp only
   refine bT (fun hc=>?_) fun hc=>?_
   ·unfold lr at hc
    rw [decide_eq_true_eq] at hc
    have n:=v.pushB b I (by omega) (by omega) (by omega)
    rw [<- U8] at n
    refine Tf (dR I ?_)
    refine bT (fun l=>?_) fun l=>?_
    ·rw [beq_iff_eq] at l
     exact bT (fun _=>Tq ⟨rfl,rfl,_,_,_,_,_,rfl,n,by omega,by omega,by omega⟩) fun _=>Tq ⟨rfl,rfl,.inr ⟨_,_,_,_,_,rfl,n,by omega,by omega,by omega⟩⟩
    ·rw [beq_iff_eq] at l
     refine Tq ⟨rfl,rfl,.inl ⟨_,rfl,?_⟩⟩
     rw [j6]
     exact n.last l hf
   ·unfold lr at hc
    rw [decide_eq_true_eq] at hc
    have n:=v.pushA b I (by omega) (by omega) (by omega)
    rw [<- U8] at n
    refine Tf (dR b ?_)
    refine bT (fun l=>?_) fun l=>?_
    ·rw [beq_iff_eq] at l
     exact bT (fun _=>Tq ⟨rfl,rfl,_,_,_,_,_,rfl,n,by omega,by omega,by omega⟩) fun _=>Tq ⟨rfl,rfl,.inr ⟨_,_,_,_,_,rfl,n,by omega,by omega,by omega⟩⟩
    ·rw [beq_iff_eq] at l
     refine Tq ⟨rfl,rfl,.inl ⟨_,rfl,?_⟩⟩
     rw [j6]
     exact n.endA l
  ·obtain ⟨rfl,na,nb,a,o,p,rfl,v,g2,g3,g4⟩:=Z
   exact ⟨rfl,.inr ⟨_,_,_,_,_,rfl,v,g2,g3,by omega⟩⟩
  ·obtain ⟨rfl,N⟩:=N
   obtain ⟨c0,na,nb,a,o,p⟩:=c
   dsimp only
   rcases N with ⟨R,e,hR⟩|⟨na',nb',out',ac',bc',e,hG⟩
   ·dsimp only at e
    subst e
    exact Tq ⟨rfl,⟨_,rfl⟩,R,rfl,hR⟩
   cases e
   dsimp only
   refine Tf (Yg (WM ?_))
   refine Tf (Ve (iH (fun j c st=>(∃ d,st=TX κ Y pd d none)/\∃ na nb a m o p,c=(none,na,nb,a,m,o,p)/\qN r A B (i+2) a na nb) (fun c st=>(∃ d,st=TX κ Y pd d none)/\((∃ R:Array Keyed,c.1=some R/\Fi r A B R.toList)\/∃ na nb a m o p,c=(none,na,nb,a,m,o,p)/\qN r A B (i+2) a na nb)) 0 (A.length+B.length) (fun j c st hj Z=>?_) (fun c st Z=>?_) (fun c st N=>?_) (A.length+B.length - 0) 0 _ _ (by omega) ⟨⟨_,rfl⟩,_,_,_,_,_,_,rfl,hG⟩))
   ·obtain ⟨⟨mg2,rfl⟩,na,nb,a,m,o,p,rfl,v,g2,g3,g4⟩:=Z
    dsimp only
    have l1:=v.1
    have l2:=v.2.1
    obtain ⟨y,I,Xy⟩:=H (nb - 1) (by omega)
    refine bT (fun hm=>?_) fun hm=>?_
    all_goals
     refine Tf (V6 ?_)
     refine Tf (dR I ?_)
     refine Tf (xQ hC rfl (b:=0) (n:=na) (h:=na - 1) (by omega) (by omega) hXA Xy (hA.part _ _) fun t ht1 ht2=>?_)
     dsimp only
     have n:=v.gallA (t:=t) I (by omega) ht1 fun j x K L b=>by
      have:=ht2 j x L (by rw [VO];exact b)
      omega
     have nx:∀ x,1<=t->A[t - 1]? = some x->r x<=r y:=fun x K b=>(ht2 (t - 1) x (by omega) (by rw [VO];exact b)).mpr (by omega)
     rw [<- C9] at n
     refine bT (fun hk0=>?_) fun hk0=>bT (fun l=>?_) fun l=>?_
     rotate_left 2
     ·rw [beq_iff_eq] at l
      refine Tq ⟨rfl,⟨_,rfl⟩,.inl ⟨_,rfl,?_⟩⟩
      rw [j6]
      exact n.endA l
     have t0:na<=na:=Th _
     have t1:=v
     have t2:=g2
     have t3:∀ x,A[na - 1]? = some x->r x<=r y:=fun x b=>by
      have e:t=na:=by omega
      rw [e] at nx
      exact nx x g2 b
     generalize hout:a=ou at t1 ⊢
     generalize hna:(na:Nat)=n1 at t0 t1 t2 t3 ⊢
     rw [<- hna] at t0
     rotate_left
     rw [beq_iff_eq] at l
     have t0:t<=na:=ht1
     have t1:=n
     have t2:1<=t:=by omega
     have t3:∀ x,A[t - 1]? = some x->r x<=r y:=fun x b=>nx x t2 b
     generalize a++(A.toArray.extract t na).reverse=ou at t1 ⊢
     generalize ht':(t:Nat)=n1 at t0 t1 t2 t3 ⊢
     all_goals
      obtain ⟨x,b,Xx⟩:=G (n1 - 1) (by omega)
      have t5:=t1.pushB b I t2 (by omega) (t3 x b)
      rw [<- U8] at t5
      refine Tf (dR I ?_)
      refine bT (fun hq=>?_) fun hq=>?_
      rotate_left
      ·rw [beq_iff_eq] at hq
       refine Tq ⟨rfl,⟨_,rfl⟩,.inl ⟨_,rfl,?_⟩⟩
       rw [j6]
       exact t5.last hq hf
      rw [beq_iff_eq] at hq
      refine Tf (dR b ?_)
      refine Tf (xR hC rfl (b:=0) (n:=nb - 1) (h:=nb - 1 - 1) (by omega) (by omega) hXB Xx (hB.part _ _) fun u gF hu2=>?_)
      dsimp only
      have u5:=t5.gallB (t:=u) b t2 gF fun j z K L M=>by
       have:=hu2 j z L (by rw [VO];exact M)
       omega
      have nz:∀ z,1<=u->B[u - 1]? = some z->r z<=r x:=fun z K M=>X9 ((hu2 (u - 1) z (by omega) (by rw [VO];exact M)).mpr (by omega))
      rw [<- C9] at u5
      refine bT (fun hk1=>?_) fun hk1=>bT (fun T=>bT (fun U=>?_) fun U=>?_) fun T=>?_
      rotate_left 2
      ·rw [beq_iff_eq] at U
       refine Tq ⟨rfl,⟨_,rfl⟩,.inl ⟨_,rfl,?_⟩⟩
       rw [j6]
       exact u5.endB U
      ·rw [beq_iff_eq] at T
       refine Tq ⟨rfl,⟨_,rfl⟩,.inl ⟨_,rfl,?_⟩⟩
       rw [j6]
       exact u5.last T hf
      have v0:nb - 1<nb:=by omega
      have v1:=t5
      have v2:2<=nb - 1:=by omega
      have v3:∀ z,B[nb - 1 - 1]? = some z->r z<=r x:=fun z M=>by
       have e:u=nb - 1:=by omega
       rw [e] at nz
       exact nz z (by omega) M
      generalize ou.push y=oz at v1 ⊢
      generalize nb - 1=n2 at v0 v1 v2 v3 ⊢
      rotate_left
      rw [beq_iff_eq] at T U
      have v0:u<nb:=by omega
      have v1:=u5
      have v2:2<=u:=by omega
      have v3:∀ z,B[u - 1]? = some z->r z<=r x:=fun z M=>nz z (by omega) M
      generalize ou.push y++(B.toArray.extract u (nb - 1)).reverse=oz at v1 ⊢
      generalize hu':(u:Nat)=n2 at v0 v1 v2 v3 ⊢
      all_goals
       have l3:=v1.2.1
       obtain ⟨z,M,Xz⟩:=H (n2 - 1) (by omega)
       have v5:=v1.pushA b M t2 (by omega) (v3 z M)
       rw [<- U8] at v5
       refine Tf (dR b ?_)
       refine bT (fun hw=>?_) fun hw=>?_
       ·rw [beq_iff_eq] at hw
        exact bT (fun _=>Tq ⟨rfl,⟨_,rfl⟩,_,_,_,_,_,_,rfl,v5,by omega,v2,by omega⟩) fun _=>Tq ⟨rfl,⟨_,rfl⟩,.inr ⟨_,_,_,_,_,_,rfl,v5,by omega,v2,by omega⟩⟩
       ·rw [beq_iff_eq] at hw
        refine Tq ⟨rfl,⟨_,rfl⟩,.inl ⟨_,rfl,?_⟩⟩
        rw [j6]
        exact v5.endA hw
   ·obtain ⟨K,L⟩:=Z
    exact ⟨K,.inr L⟩
   ·obtain ⟨⟨mg2,rfl⟩,N⟩:=N
    obtain ⟨c0,na,nb,a,m,o,p⟩:=c
    dsimp only
    rcases N with ⟨R,e,hR⟩|⟨na',nb',out',m',ac',bc',e,hG⟩
    ·dsimp only at e
     subst e
     exact Tq ⟨rfl,⟨_,rfl⟩,R,rfl,hR⟩
    cases e
    dsimp only
    exact Tf (V6 (Tq ⟨rfl,⟨_,rfl⟩,_,_,_,_,rfl,hG⟩))
 ·obtain ⟨_,na,nb,a,m,rfl,v,g2,g3,g4⟩:=hI
  omega
 ·obtain ⟨⟨mg1,rfl⟩,R,e,hR⟩:=N
  obtain ⟨c0,c1⟩:=c
  dsimp only at e ⊢
  subst e
  exact Tq (q R _ hR)
end
end L3
namespace L3
open PySem L2 PySem.W PyProof.Rows
section
variable {prog:Tt}{w:TV}{A₀:TJ}{E:Value->SX->Prop}{κ:WI}{s:SX}{X:Keyed->Prop}{r:Keyed->Int}{P S c1 c2:List Keyed}
theorem Dc {i:Nat}(h:i<c1.length):(P++c1++c2++S)[P.length+i]? = c1[i]?:=by
 rw [Ts,Ts,Tv (by omega),Ti (by omega)]
 congr 1;omega
theorem Dd {i:Nat}(h:i<c2.length):(P++c1++c2++S)[P.length+c1.length+i]? = c2[i]?:=by
 rw [Ts,Tv (by rw [Te];omega),Ti (by rw [Te];omega)]
 congr 1;rw [Te];omega
theorem Nd:((P++c1++c2++S).drop P.length).take c1.length=c1:=by
 rw [Ts,Ts,Zz,Zx]
theorem Nf:((P++c1++c2++S).drop (P.length+c1.length)).take c2.length=c2:=by
 rw [Ts,a1S (by rw [Te]),Zx]
theorem Ng {k:Nat}(a:k<=c1.length):(P++c1++c2++S).toArray.extract (P.length+k) (P.length+c1.length)=(c1.drop k).toArray:=by
 apply UY.mp
 rw [qM,<- ZA,Ts,Ts,Zz,Zc a,UT,a1P (by rw [Uh];omega)]
theorem Nh {k:Nat}(a:k<=c2.length):(P++c1++c2++S).toArray.extract (P.length+c1.length) (P.length+c1.length+k)=(c2.take k).toArray:=by
 apply UY.mp
 rw [xO,Ts,a1S (by rw [Te]),UT,Zb a]
theorem Ni {k l:Nat}{R:List Keyed}(e:k<=c1.length)(h:l<=c2.length)(d:R.length=c1.length - k+l):(R.zipIdx.foldl (fun (a:Array Keyed)(x:Keyed×Nat)=>a.setIfInBounds (P.length+k+x.2) x.1) (P++c1++c2++S).toArray)=(P++(c1.take k++R++c2.drop l)++S).toArray:=by
 apply UY.mp
 have:=C0 R (P++c1++c2++S).toArray (P.length+k) 0 (by simp;omega)
 rw [this,UT,UT,X6,d]
 have b:(P++c1++c2++S).take (P.length+k)=P++c1.take k:=by
  rw [Ts,Ts,List.take_append,Vq (by omega),VF,Zb e]
 have c:(P++c1++c2++S).drop (P.length+k+(c1.length - k+l))=c2.drop l++S:=by
  rw [show P.length+k+(c1.length - k+l)=(P++c1).length+l by rw [Te];omega,Ts,<- ZA,Zz,Zc h]
 rw [b,c]
 simp
theorem Sr.both {U R V:List Keyed}(e:Sr r R)(h:Sr r U)(i:Sr r V)(h1:∀ x∈U,∀ y∈R,r x<=r y)(c:∀ x∈R,∀ y∈V,r x<=r y)(d:∀ x∈U,∀ y∈V,r x<=r y):Sr r (U++R++V):=by
 unfold Sr at *
 rw [Ts,UX]
 refine ⟨h,?_,fun x b y a=>?_⟩
 ·rw [UX]
  exact ⟨e,i,c⟩
 ·rcases Uj.mp a with a|a
  ·exact h1 x b y a
  ·exact d x b y a
theorem Sr.at {l:List Keyed}(h:Sr r l){i j:Nat}{x y:Keyed}(c:i<=j)(d:l[i]? = some x)(m:l[j]? = some y):r x<=r y:=by
 obtain ⟨a,rfl⟩:=S2.mp d
 obtain ⟨b,rfl⟩:=S2.mp m
 by_cases e:i=j
 ·subst e;exact Zj _
 ·exact Up.mp h i j a b (by omega)
theorem oD {l:List Keyed}{k:Nat}{x:Keyed}(h:x∈l.take k):∃ j,j<k/\l[j]? = some x:=by
 have:=C5 (l:=l) (i:=0) (k:=k) (x:=x) (by rw [VS];exact h)
 obtain ⟨j,b,a⟩:=this
 exact ⟨j,b,by rw [VO] at a;exact a⟩
theorem oE {l:List Keyed}{k:Nat}{x:Keyed}(h:x∈l.drop k):∃ j,k<=j/\l[j]? = some x:=by
 obtain ⟨j,a,e⟩:=U7 h
 exact ⟨k+j,by omega,by rw [<- e,YO,S1]⟩
theorem Nj (hC:fW prog w A₀ κ s X (lr r))(hX:∀ x∈P++c1++c2++S,X x)(h1:Sr r c1)(B:Sr r c2)(l1:0<c1.length)(l2:0<c2.length){pd:Array (Nat×Nat×Nat)}{mg i w1 w2:Nat}(p1:pd[i]? = some (P.length,c1.length,w1))(p2:pd[i+1]? = some (P.length+c1.length,c2.length,w2))
  {Q:Bool->VB->SX->Prop}(q:∀ c n,Sr r c->c.Perm (c1++c2)->Q true (TX κ (P++c++S).toArray ((pd.setIfInBounds i (P.length,c1.length+c2.length,w1)).eraseIdxIfInBounds (i+1)) n none) s) :
  WZ (TH prog w) A₀ E (a1K i) Q (TX κ (P++c1++c2++S).toArray pd mg none) s:=by
 unfold a1K
 refine Tf (WY ?_)
 dsimp only
 simp only [p1,p2]
 refine Tf (M5 ?_)
 have gA:∀ j,j<c1.length->c1[j]? = some (c1.getD j (.none,.none)):=fun j d=>by
  rw [Tz,S1 d];rfl
 have gB:∀ j,j<c2.length->c2[j]? = some (c2.getD j (.none,.none)):=fun j d=>by
  rw [Tz,S1 d];rfl
 have H:∀ x∈c1,X x:=fun x b=>hX x (by simp [b])
 have I:∀ x∈c2,X x:=fun x b=>hX x (by simp [b])
 have hlen:(P++c1++c2++S).length=P.length+c1.length+c2.length+S.length:=by simp;omega
 have L:=gB 0 l2
 refine Tf (dR (x:=c2.getD 0 (.none,.none)) (by rw [<- L];exact Dd l2) ?_)
 refine Tf (xQ hC rfl (b:=P.length) (n:=c1.length) (h:=0) l1 (by omega) hX (I _ (TQ L)) (by rw [Nd];exact h1) fun k O hk2=>?_)
 have u:∀ j x,c1[j]? = some x->(r x<=r (c2.getD 0 (.none,.none))↔j<k):=fun j x b=>by
  have d:=(S2.mp b).1
  exact hk2 j x d (by rw [Dc d];exact b)
 generalize c2.getD 0 (.none,.none)=y0 at *
 dsimp only
 have e0:(P++c1++c2++S)=P++(c1++c2)++S:=by simp
  -- all as it is
 have G:(∀ x∈c1,∀ y∈c2,r x<=r y)->Q true (TX κ (P++c1++c2++S).toArray ((pd.setIfInBounds i (P.length,c1.length+c2.length,w1)).eraseIdxIfInBounds (i+1)) mg none) s:=fun h=>by
  rw [e0]
  exact q _ _ (by unfold Sr at *;rw [UX];exact ⟨h1,B,h⟩) (Xa _)
 refine bT (fun he=>?_) fun he=>?_
 rotate_left
 ·rw [beq_iff_eq] at he
  refine Tq (G fun x b y m=>?_)
  obtain ⟨j,d⟩:=Wl b
  obtain ⟨p,o⟩:=Wl m
  have a1:=(u j x d).mpr (by have:=(S2.mp d).1;omega)
  have a2:=B.at (UD p) L o
  omega
 rw [beq_iff_eq] at he
 have Z:=gA (c1.length - 1) (by omega)
 generalize c1.getD (c1.length - 1) (.none,.none)=x1 at *
 refine Tf (dR (x:=x1) (by rw [show P.length+k+(c1.length - k) - 1=P.length+(c1.length - 1) by omega,Dc (by omega)];exact Z) ?_)
 refine Tf (xR hC rfl (b:=P.length+c1.length) (n:=c2.length) (h:=c2.length - 1) (by omega) (by omega) hX (H _ (TQ Z)) (by rw [Nf];exact B) fun l T hl2=>?_)
 have K:∀ j x,c2[j]? = some x->(r x<r x1↔j<l):=fun j x b=>by
  have d:=(S2.mp b).1
  exact hl2 j x d (by rw [Dd d];exact b)
 dsimp only
 refine bT (fun hf=>?_) fun hf=>?_
 rotate_left
 ·rw [beq_iff_eq] at hf
  refine Tq (G fun x b y m=>?_)
  obtain ⟨j,d⟩:=Wl b
  obtain ⟨p,o⟩:=Wl m
  have a1:=h1.at (by have:=(S2.mp d).1;omega) d Z
  have a2:=K p y o
  omega
 rw [beq_iff_eq] at hf
 rw [Ng O,Nh T]
 have hA:Sr r (c1.drop k):=U4 (Wg _ _) h1
 have hB:Sr r (c2.take l):=U4 (Vp _ _) B
 have N:∀ y,(c2.take l)[0]? = some y->∀ x∈c1.drop k,r y<=r x:=fun y m x b=>by
  rw [UZ (by omega),L] at m
  cases m
  obtain ⟨j,d,e⟩:=oE b
  have:=u j x e
  omega
 have U:∀ x,(c1.drop k)[(c1.drop k).length - 1]? = some x->∀ y∈c2.take l,r y<=r x:=fun x b y m=>by
  rw [Uh,Wc,show k+(c1.length - k - 1)=c1.length - 1 by omega,Z] at b
  cases b
  obtain ⟨j,d,e⟩:=oD m
  have:=K j y e
  omega
 have v:∀ (R:Array Keyed)(n:Nat),Fi r (c1.drop k) (c2.take l) R.toList->Q true (TX κ (R.toList.zipIdx.foldl (fun (a:Array Keyed)(x:Keyed×Nat)=>a.setIfInBounds (P.length+k+x.2) x.1) (P++c1++c2++S).toArray) ((pd.setIfInBounds i (P.length,c1.length+c2.length,w1)).eraseIdxIfInBounds (i+1)) n none) s:=fun R n M=>by
  obtain ⟨f1,f2⟩:=M
  have hRl:=f1.length_eq
  rw [Te,Uh,TR] at hRl
  rw [Ni O T (by omega)]
  have Y:∀ z∈R.toList,z∈c1.drop k\/z∈c2.take l:=fun z hz=>Uj.mp (f1.mem_iff.mp hz)
  refine q _ _ (f2.both (U4 (Vp _ _) h1) (U4 (Wg _ _) B) (fun x b y m=>?_) (fun x b y m=>?_) fun x b y m=>?_) ?_
  ·obtain ⟨j,d,e⟩:=oD b
   rcases Y y m with m|m
   ·obtain ⟨p,o,A⟩:=oE m
    exact h1.at (by omega) e A
   ·obtain ⟨p,o,A⟩:=oD m
    have a1:=(u j x e).mpr d
    have a2:=B.at (UD p) L A
    omega
  ·obtain ⟨p,o,A⟩:=oE m
   rcases Y x b with b|b
   ·obtain ⟨j,d,e⟩:=oE b
    have a1:=h1.at (by have:=(S2.mp e).1;omega) e Z
    have a2:=K p y A
    omega
   ·obtain ⟨j,d,e⟩:=oD b
    exact B.at (by omega) e A
  ·obtain ⟨j,d,e⟩:=oD b
   obtain ⟨p,o,A⟩:=oE m
   have a1:=(u j x e).mpr d
   have a2:=B.at (UD p) L A
   omega
  ·have e1:c1++c2=c1.take k++(c1.drop k++c2.take l)++c2.drop l:=by
    rw [<- Ts,Ua,Ts,Ua]
   rw [e1]
   exact ((f1.append_left _).append_right _)
 have d1:0<(c1.drop k).length:=by rw [Uh];omega
 have d2:0<(c2.take l).length:=by rw [TR];omega
 refine bT (fun _=>?_) fun _=>?_
 ·exact Tf (Nc hC (fun x b=>H x (W8 b)) (fun x b=>I x (W7 b)) hA hB d1 d2 N U fun R n M=>Tf (V6 (Tf (WY (Tq (v R n M))))))
 ·exact Tf (Nb hC (fun x b=>H x (W8 b)) (fun x b=>I x (W7 b)) hA hB d1 d2 N U fun R n M=>Tf (V6 (Tf (WY (Tq (v R n M))))))
end
end L3
namespace L3
open PySem L2 PySem.W PyProof.Rows
section
variable {prog:Tt}{w:TV}{A₀:TJ}{E:Value->SX->Prop}{κ:WI}{s:SX}{X:Keyed->Prop}{r:Keyed->Int}{P T S:List Keyed}{pd:Array (Nat×Nat×Nat)}{mg:Nat}
noncomputable def kr (r:Keyed->Int)(T:List Keyed)(i:Nat):Int:=r (T.getD i (.none,.none))
theorem j7 {i:Nat}{x:Keyed}(h:T[i]? = some x):kr r T i=r x:=by
 unfold kr
 rw [Tz,h]
 rfl
theorem xS {i:Nat}(h:i<T.length):T[i]? = some (T.getD i (.none,.none)):=by
 rw [Tz,S1 h];rfl
theorem oF (hC:fW prog w A₀ κ s X (lr r))(b:∀ x∈T,X x){i j:Nat}(a:i<T.length)(c:j<T.length){Q:Option Bool->VB->SX->Prop}(q:Q (some (decide (kr r T i<kr r T j))) (TX κ (P++T).toArray pd mg none) s) :
  WZ (TH prog w) A₀ E (ltAt' (P.length+i) (P.length+j)) Q (TX κ (P++T).toArray pd mg none) s:=by
 have e:∀ i,i<T.length->(a1M (TX κ (P++T).toArray pd mg none))[P.length+i]? = some (T.getD i (.none,.none)):=fun i a=>by
  show (P++T).toArray[P.length+i]? = _
  rw [Uq,Tv (by omega),VF]
  exact xS a
 exact M6 hC rfl (e i a) (e j c) (b _ (TQ (xS a))) (b _ (TQ (xS c))) q
theorem xT {n:Nat}(h:∀ j,j+1<n->kr r T j<=kr r T (j+1)):∀ {i j:Nat},i<=j->j<n->kr r T i<=kr r T j
 | i,0,h1,_=>by rw [Nat.le_zero.mp h1];exact Zj _
 | i,j+1,h1,h2=>by
  by_cases e:i=j+1
  ·rw [e];exact Zj _
  ·have a:=xT h (i:=i) (j:=j) (by omega) (by omega)
   have b:=h j h2
   omega
theorem De {n:Nat}(d:n<=T.length)(h:∀ j,j+1<n->kr r T j<=kr r T (j+1)):Sr r (T.take n):=by
 refine Up.mpr fun i j a c b=>?_
 rw [TR] at a c
 have:=xT h (i:=i) (j:=j) (by omega) (by omega)
 rw [j7 (S1 (show i<T.length by omega)),j7 (S1 (show j<T.length by omega))] at this
 rw [XI,XI]
 exact this
theorem Nk (P U V:List Keyed):a3s (P++U++V).toArray P.length (P.length+U.length) ((P.length+U.length - P.length) / 2)=(P++U.reverse++V).toArray:=by
 apply UY.mp
 apply XJ
 intro k
 rw [Yb,getElem?_mirror_all (by simp),UT]
 by_cases h:P.length<=k/\k<P.length+U.length
 ·have b:∀ (W:List Keyed)(m:Nat),W.length=U.length->P.length<=m->m<P.length+U.length->(P++W++V)[m]? = W[m - P.length]?:=fun W m d a c=>by
   rw [Ts,Tv a,Ti (by omega)]
  rw [if_pos h,Uq,b U _ rfl (by omega) (by omega),b U.reverse k (by rw [Vv]) h.1 h.2,U0 (by omega)]
  congr 1
  omega
 ·rw [if_neg h,Uq]
  by_cases a:k<P.length
  ·rw [Ts,Ts,Ti a,Ti a]
  ·rw [Tv (by rw [Te];omega),Tv (by rw [Te,Vv];omega)]
   simp
noncomputable def Dis (r:Keyed->Int)(T:List Keyed):Prop:=T.Pairwise fun x y=>r x≠r y
theorem Dis.at (h:Dis r T){i j:Nat}(a:i<T.length)(b:j<T.length)(c:i≠j):kr r T i≠kr r T j:=by
 rw [j7 (S1 a),j7 (S1 b)]
 have:=Up.mp h
 by_cases l:i<j
 ·exact this i j a b l
 ·exact (this j i b a (by omega)).symm
theorem Nl (hC:fW prog w A₀ κ s X (lr r))(A:∀ x∈T,X x)(Z:Dis r T)(hT:0<T.length){Q:Option Nat->VB->SX->Prop}
  (q:∀ c t,0<c.length->Sr r c->(c++t).Perm T->Q (some c.length) (TX κ (P++(c++t)).toArray pd mg none) s):WZ (TH prog w) A₀ E (countRun' P.length T.length) Q (TX κ (P++T).toArray pd mg none) s:=by
 have o:∀ n,0<n->n<=T.length->(∀ j,j+1<n->kr r T j<=kr r T (j+1))->Q (some n) (TX κ (P++T).toArray pd mg none) s:=fun n I y h=>by
  have:=q (T.take n) (T.drop n) (by rw [TR];omega) (De y h) (by rw [Ua])
  rwa [Ua,TR,Xj y] at this
 unfold countRun'
 refine Tf (Ve (jY (fun i c=>c=(none,i+1)/\∀ j,j+1<i+1->kr r T j<=kr r T (j+1)) (fun c=>∃ n,c=(none,n)/\0<n/\n<=T.length/\(∀ j,j+1<n->kr r T j<=kr r T (j+1))/\(n<T.length->kr r T n<kr r T (n - 1))) (T.length - 1) (fun i x c L d=>?_) (fun c d=>?_) (fun c l=>?_) _ 0 _ (by simp) ⟨rfl,fun j p=>by omega⟩))
 ·obtain ⟨rfl,d⟩:=d
  dsimp only
  refine Tf (oF hC A (i:=i+1) (j:=i) (by omega) (by omega) ?_)
  dsimp only
  refine bT (fun hc=>?_) fun hc=>?_
  ·rw [decide_eq_true_eq] at hc
   refine Tq ⟨rfl,rfl,rfl,fun j p=>?_⟩
   by_cases e:j=i
   ·subst e;omega
   ·exact d j (by omega)
  ·rw [decide_eq_true_eq] at hc
   exact Tq ⟨rfl,rfl,i+1,rfl,by omega,by omega,d,fun _=>hc⟩
 ·obtain ⟨rfl,d⟩:=d
  exact ⟨_,rfl,by omega,by omega,d,fun h=>by omega⟩
 ·obtain ⟨n,rfl,I,y,d,O⟩:=l
  dsimp only
  refine bT (fun he=>?_) fun he=>?_
  rotate_left
  ·exact Tq (o n I y d)
  rw [beq_iff_eq] at he
  refine bT (fun h1=>?_) fun h1=>?_
  rotate_left
  ·-- it rose
   have G:kr r T 0<kr r T (n - 1):=by
    have a:=xT d (i:=0) (j:=n - 1) (by omega) (by omega)
    have b:=Z.at (i:=0) (j:=n - 1) (by omega) (by omega) (by omega)
    omega
   have R:WZ (TH prog w) A₀ E (ltAt' P.length (P.length+n - 1)) (fun b st v=>b=some true/\st=TX κ (P++T).toArray pd mg none/\v=s) (TX κ (P++T).toArray pd mg none) s:=by
    have:=oF (prog:=prog) (w:=w) (A₀:=A₀) (E:=E) (P:=P) (pd:=pd) (mg:=mg) hC A (i:=0) (j:=n - 1) (by omega) (by omega) (Q:=fun b st v=>b=some true/\st=TX κ (P++T).toArray pd mg none/\v=s) ⟨by rw [decide_eq_true G],rfl,rfl⟩
    rw [show P.length+n - 1=P.length+(n - 1) by omega]
    exact this
   refine Tf (T9 R (fun b v K=>?_) fun _ _ e=>e)
   obtain ⟨b,Y⟩:=b
   obtain ⟨rfl,rfl,rfl⟩:=K
   dsimp only
   rw [if_pos rfl]
   exact Tq (o n I y d)
  have e1:n=1:=by omega
  subst e1
  have N:=O (by omega)
  refine Tf (Yg (WM ?_))
  refine Tf (Ve (jY (fun i c=>c=(none,i+2,0)/\∀ j,j+1<i+2->kr r T (j+1)<kr r T j) (fun c=>∃ n,c=(none,n,0)/\2<=n/\n<=T.length/\∀ j,j+1<n->kr r T (j+1)<kr r T j) (T.length - 2) (fun i x c L d=>?_) (fun c d=>?_) (fun c l=>?_) _ 0 _ (by simp) ⟨rfl,fun j p=>by rw [show j=0 by omega];exact N⟩))
  ·obtain ⟨rfl,d⟩:=d
   dsimp only
   refine Tf (oF hC A (i:=i+2) (j:=i+1) (by omega) (by omega) ?_)
   dsimp only
   by_cases hc:kr r T (i+2)<kr r T (i+1)
   ·rw [decide_eq_true hc,if_pos rfl,if_neg (by omega)]
    refine Tq ⟨rfl,rfl,rfl,fun j p=>?_⟩
    by_cases e:j=i+1
    ·subst e;exact hc
    ·exact d j (by omega)
   ·rw [decide_eq_false hc,if_neg UN]
    have K:=Z.at (i:=i+1) (j:=i+2) (by omega) (by omega) (by omega)
    refine Tf (oF hC A (i:=i+1) (j:=i+2) (by omega) (by omega) ?_)
    dsimp only
    rw [decide_eq_true (show kr r T (i+1)<kr r T (i+2) by omega),if_pos rfl]
    exact Tq ⟨rfl,rfl,i+2,rfl,by omega,by omega,d⟩
  ·obtain ⟨rfl,d⟩:=d
   exact ⟨T.length,by rw [show T.length - 2+2=T.length by omega],by omega,Th _,fun j p=>d j (by omega)⟩
  ·obtain ⟨n,rfl,h2,y,d⟩:=l
   dsimp only
   rw [if_neg (by omega)]
   refine Tf (Na ?_)
      -- turned about
   have eT:P++T=P++T.take n++T.drop n:=by rw [Ts,Ua]
   have u:(T.take n).length=n:=by rw [TR];omega
   have em:a3s (P++T).toArray P.length (P.length+n) ((P.length+n - P.length) / 2)=(P++((T.take n).reverse++T.drop n)).toArray:=by
    have:=Nk P (T.take n) (T.drop n)
    rw [u] at this
    rw [eT,this,Ts]
   show WZ _ _ _ _ _ (TX κ (a3s (P++T).toArray P.length (P.length+n) ((P.length+n - P.length) / 2)) pd mg none) s
   rw [em]
   have hU:((T.take n).reverse++T.drop n).length=T.length:=by simp;omega
   have H:((T.take n).reverse++T.drop n).Perm T:=by
    refine ((XG _).append_right _).trans ?_
    rw [Ua]
   have M:∀ x∈(T.take n).reverse++T.drop n,X x:=fun x hx=>A x (H.mem_iff.mp hx)
   have B:∀ j,j+1<n->kr r ((T.take n).reverse++T.drop n) j<=kr r ((T.take n).reverse++T.drop n) (j+1):=fun j p=>by
    have z:∀ i,i<n->kr r ((T.take n).reverse++T.drop n) i=kr r T (n - 1 - i):=fun i L=>by
     have:((T.take n).reverse++T.drop n)[i]? = T[n - 1 - i]?:=by
      rw [Ti (by rw [Vv,u];exact L),U0 (by omega),u,UZ (by omega)]
     unfold kr
     rw [Tz,Tz,this]
    rw [z j (by omega),z (j+1) p]
    have:=d (n - 1 - (j+1)) (by omega)
    rw [show n - 1 - (j+1)+1=n - 1 - j by omega] at this
    omega
   generalize (T.take n).reverse++T.drop n=U at *
   refine Tf (Ve (jY (fun i c=>c=(none,n+i)/\∀ j,j+1<n+i->kr r U j<=kr r U (j+1)) (fun c=>∃ m,c=(none,m)/\0<m/\m<=T.length/\∀ j,j+1<m->kr r U j<=kr r U (j+1)) (T.length - n) (fun i x c L d=>?_) (fun c d=>?_) (fun c l=>?_) _ 0 _ (by simp) ⟨rfl,B⟩))
   ·obtain ⟨rfl,d⟩:=d
    dsimp only
    have R:WZ (TH prog w) A₀ E (ltAt' (P.length+(n+i)) (P.length+(n+i) - 1)) (fun b st v=>b=some (decide (kr r U (n+i)<kr r U (n+i - 1)))/\st=TX κ (P++U).toArray pd mg none/\v=s) (TX κ (P++U).toArray pd mg none) s:=by
     rw [show P.length+(n+i) - 1=P.length+(n+i - 1) by omega]
     exact oF hC M (by omega) (by omega) ⟨rfl,rfl,rfl⟩
    refine Tf (T9 R (fun b v K=>?_) fun _ _ e=>e)
    obtain ⟨b,Y⟩:=b
    obtain ⟨rfl,rfl,rfl⟩:=K
    dsimp only
    refine bT (fun hc=>?_) fun hc=>?_
    ·rw [decide_eq_true_eq] at hc
     refine Tq ⟨rfl,rfl,rfl,fun j p=>?_⟩
     by_cases e:j+1=n+i
     ·rw [show j=n+i - 1 by omega,show n+i - 1+1=n+i by omega];omega
     ·exact d j (by omega)
    ·exact Tq ⟨rfl,rfl,_,rfl,by omega,by omega,d⟩
   ·obtain ⟨rfl,d⟩:=d
    exact ⟨_,rfl,by omega,by omega,d⟩
   ·obtain ⟨m,rfl,I,hm,d⟩:=l
    dsimp only
    have:=q (U.take m) (U.drop m) (by rw [TR];omega) (De (by omega) d) (by rw [Ua];exact H)
    rw [Ua,TR,Xj (by omega)] at this
    exact Tq this
end
end L3
namespace L3
open PySem L2 PySem.W PyProof.Rows
section
variable {prog:Tt}{w:TV}{A₀:TJ}{E:Value->SX->Prop}{κ:WI}{s:SX}{X:Keyed->Prop}{r:Keyed->Int}{P:List Keyed}{pd:Array (Nat×Nat×Nat)}{mg:Nat}
theorem Nm (P C V:List Keyed)(x:Keyed){l:Nat}(i:l<=C.length):bubble (P++(C++x::V)).toArray (P.length+C.length) (P.length+C.length - (P.length+l))=(P++(C.take l++x::C.drop l++V)).toArray:=by
 apply UY.mp
 apply XJ
 intro k
 rw [Yb,getElem?_bubble (by simp) _ (by omega),UT]
 have b:∀ (W:List Keyed)(m:Nat),(P++W)[P.length+m]? = W[m]?:=fun W m=>by
  rw [Tv (by omega),VF]
 have a:(C.take l).length=l:=by rw [TR];omega
 by_cases c:k<P.length
 ·rw [if_neg (by omega),if_neg (by omega),Uq,Ti c,Ti c]
 obtain ⟨m,rfl⟩:∃ m,k=P.length+m:=⟨k - P.length,by omega⟩
 rw [b]
 by_cases d:m=l
 ·subst d
  rw [if_pos (by omega),Uq,b,Tv (Th _),WQ,Ts,Tv (by omega),a,WQ]
  rfl
 rw [if_neg (by omega)]
 by_cases h:l<m/\m<=C.length
 ·rw [if_pos (by omega),Uq,show P.length+m - 1=P.length+(m - 1) by omega,b,Ti (by omega),Ts,Tv (by omega),a,TU,show m - l=(m - l - 1)+1 by omega,WD,Ti (by rw [Uh];omega),Wc]
  congr 1
  omega
 rw [if_neg (by omega),Uq,b]
 by_cases e:m<l
 ·rw [Ti (by omega),Ts,Ti (by omega),UZ e]
 ·rw [Tv (by omega),Ts,Tv (by omega),a,TU,show m - C.length=(m - C.length - 1)+1 by omega,show m - l=(m - l - 1)+1 by omega,WD,WD,Tv (by rw [Uh];omega),Uh]
  congr 1
  omega
theorem Nn (hC:fW prog w A₀ κ s X (lr r)){c D t:List Keyed}(hX:∀ x∈c++D++t,X x)(hc:Sr r c)(h0:0<c.length){Q:Bool->VB->SX->Prop}
  (q:∀ a,Sr r a->a.Perm (c++D)->Q true (TX κ (P++(a++t)).toArray pd mg none) s):WZ (TH prog w) A₀ E (binarySort' P.length (c.length+D.length) c.length) Q (TX κ (P++(c++D++t)).toArray pd mg none) s:=by
 unfold binarySort'
 refine Tf (Ve ?_)
 rw [Nat.max_eq_left h0]
 refine (iH (fun i b st=>b=(none,())/\∃ a d,st=TX κ (P++(a++(d++t))).toArray pd mg none/\Sr r a/\a.length=c.length+i/\(a++d).Perm (c++D)) (fun b st=>b=(none,())/\∃ a,st=TX κ (P++(a++t)).toArray pd mg none/\Sr r a/\a.Perm (c++D)) c.length D.length (fun i b st hi N=>?_) (fun b st N=>?_) (fun b st v=>?_) (c.length+D.length - c.length) 0 _ _ (by omega) ⟨rfl,c,D,by rw [Ts],hc,rfl,Xa _⟩)
 ·obtain ⟨rfl,a,d,rfl,p,h2,n⟩:=N
  have A:=n.length_eq
  rw [Te,Te] at A
  match d,A,n with
  | [],A,_=>rw [VH] at A;omega
  | x::d,A,n=>
   dsimp only
   have R:∀ z∈a++x::(d++t),X z:=fun z o=>hX z (by
    have:z∈(a++x::d)++t:=by simpa using o
    rcases Uj.mp this with h|h
    ·exact Uj.mpr (.inl (n.mem_iff.mp h))
    ·exact Uj.mpr (.inr h))
   have hk:c.length+i=a.length:=h2.symm
   rw [hk]
   have U:kr r (a++x::(d++t)) a.length=r x:=j7 (by rw [Tv (Th _),WQ];rfl)
   have T:∀ m,m<a.length->kr r (a++x::(d++t)) m=kr r a m:=fun m B=>by
    unfold kr
    rw [Tz,Tz,Ti B]
   have eL:a++(x::d++t)=a++x::(d++t):=rfl
   have mono:∀ {m m':Nat},m<=m'->m'<a.length->kr r a m<=kr r a m':=fun {m m'} h M=>by
    rw [j7 (S1 (show m<a.length by omega)),j7 (S1 M)]
    exact p.at h (S1 _) (S1 _)
   refine Tf (Ve (jY (fun j b=>∃ l u,b=(none,l,u)/\l<=u/\u<=a.length/\u - l<=a.length - j/\(∀ m,m<l->kr r a m<=r x)/\∀ m,u<=m->m<a.length->r x<kr r a m) (fun b=>∃ l,b=(none,l,l)/\l<=a.length/\(∀ m,m<l->kr r a m<=r x)/\∀ m,l<=m->m<a.length->r x<kr r a m) a.length (fun j y b hj O=>?_) (fun b O=>?_) (fun b v=>?_) _ 0 _ (by simp) ⟨0,a.length,rfl,by omega,Th _,by omega,fun m B=>by omega,fun m h M=>by omega⟩))
   ·obtain ⟨l,u,rfl,j1,G,j3,H,I⟩:=O
    dsimp only
    refine bT (fun Y=>?_) fun Y=>?_
    ·refine Tf (oF hC R (i:=a.length) (j:=(l+u) / 2) (by simp) (by simp;omega) ?_)
     rw [U,T _ (by omega)]
     dsimp only
     refine bT (fun hc=>?_) fun hc=>?_
     ·rw [decide_eq_true_eq] at hc
      exact Tq ⟨rfl,rfl,(l+u) / 2+1,u,rfl,by omega,G,by omega,fun m B=>by have:=mono (m:=m) (m':=(l+u) / 2) (by omega) (by omega);omega,I⟩
     ·rw [decide_eq_true_eq] at hc
      exact Tq ⟨rfl,rfl,l,(l+u) / 2,rfl,by omega,by omega,by omega,H,fun m h M=>by have:=mono (m:=(l+u) / 2) (m':=m) h M;omega⟩
    ·have e:u=l:=by omega
     subst e
     exact Tq ⟨rfl,rfl,_,rfl,G,H,I⟩
   ·obtain ⟨l,u,rfl,j1,G,j3,H,I⟩:=O
    have e:u=l:=by omega
    subst e
    exact ⟨_,rfl,G,H,I⟩
   ·obtain ⟨l,rfl,G,H,I⟩:=v
    dsimp only
    have mv:∀ {L:Unit->VB->SX->Prop},L () (TX κ (P++((a.take l++x::a.drop l)++(d++t))).toArray pd mg none) s->WZ (TH prog w) A₀ E (moveDown' (P.length+a.length) (P.length+l)) L (TX κ (P++(a++x::(d++t))).toArray pd mg none) s:=fun {L} h=>by
     rw [moveDown'_eq]
     refine V6 ?_
     show L () (TX κ (bubble (P++(a++x::(d++t))).toArray (P.length+a.length) (P.length+a.length - (P.length+l))) pd mg none) s
     rw [Nm P a (d++t) x G]
     exact h
    refine Tf (mv (Tq ⟨rfl,rfl,a.take l++x::a.drop l,d,rfl,?_,?_,?_⟩))
    ·have Z:∀ z∈a.take l,r z<=r x:=fun z o=>by
      obtain ⟨m,B,e⟩:=oD o
      rw [<- j7 (r:=r) e]
      exact H m B
     have a2:∀ z∈a.drop l,r x<=r z:=fun z o=>by
      obtain ⟨m,B,e⟩:=oE o
      rw [<- j7 (r:=r) e]
      exact X9 (I m B (S2.mp e).1)
     have:=Sr.both (r:=r) (U:=a.take l) (R:=[x]) (V:=a.drop l) (by unfold Sr;simp) (U4 (Vp _ _) p) (U4 (Wg _ _) p) (fun y K z o=>by rw [Ud.mp o];exact Z y K) (fun y K z o=>by rw [Ud.mp K];exact a2 z o) (fun y K z o=>by have:=Z y K;have:=a2 z o;omega)
     simpa using this
    ·simp;omega
    ·refine a0x ?_ n
     have:(a.take l++x::a.drop l).Perm (a++[x]):=by
      refine List.perm_middle.trans ?_
      rw [Ua]
      exact VT (l₁:=[x])
     have:=this.append_right d
     simpa using this
 ·obtain ⟨rfl,a,d,rfl,p,h2,n⟩:=N
  have A:=n.length_eq
  rw [Te,Te] at A
  have:d=[]:=Vh.mp (by omega)
  subst this
  rw [UK] at n
  exact ⟨rfl,a,rfl,p,n⟩
 ·obtain ⟨rfl,a,rfl,p,n⟩:=v
  exact Tq (q a p n)
end
end L3
namespace L3
open PySem L2 PySem.W PyProof.Rows
noncomputable abbrev fC:=List Keyed×Nat
noncomputable def aZ (a:List fC):List Keyed:=(a.map (·.1)).flatten
noncomputable def pos:Nat->List fC->List (Nat×Nat×Nat)
 | _,[]=>[]
 | p,(c,w)::t=>(p,c.length,w)::pos (p+c.length) t
theorem i7 (c:List Keyed)(w:Nat)(t:List fC):aZ ((c,w)::t)=c++aZ t:=rfl
theorem mJ (a b:List fC):aZ (a++b)=aZ a++aZ b:=by unfold aZ;simp
theorem mK:∀ (a b:List fC)(p:Nat),pos p (a++b)=pos p a++pos (p+(aZ a).length) b
 | [],b,p=>rfl
 | (c,w)::a,b,p=>by
  show (p,c.length,w)::pos (p+c.length) (a++b)=_
  rw [mK a b,i7,Te,ZZ]
  rfl
theorem j8:∀ (a:List fC)(p:Nat),(pos p a).length=a.length
 | [],_=>rfl
 | (c,w)::a,p=>by show (pos (p+c.length) a).length+1=_;rw [j8 a];rfl
structure Rn (r:Keyed->Int)(L rest:List Keyed)(rs:List fC):Prop where
 ok:∀ p∈rs,Sr r p.1/\0<p.1.length
 pm:(aZ rs++rest).Perm L
section
variable {prog:Tt}{w:TV}{A₀:TJ}{E:Value->SX->Prop}{κ:WI}{s:SX}{X:Keyed->Prop}{r:Keyed->Int}{L rest:List Keyed}{mg:Nat}
noncomputable abbrev eW (κ:WI)(rest:List Keyed)(a:List fC)(mg:Nat):VB:=TX κ (aZ a++rest).toArray (pos 0 a).toArray mg none
theorem Np (hC:fW prog w A₀ κ s X (lr r))(H:∀ x∈L,X x){a b:List fC}{d e:List Keyed}{w1 w2:Nat}(h:Rn r L rest (a++(d,w1)::(e,w2)::b)){Q:Bool->VB->SX->Prop}
  (q:∀ c l,Rn r L rest (a++(c,w1)::b)->c.length=d.length+e.length->Q true (eW κ rest (a++(c,w1)::b) l) s){i:Nat}(I:i=a.length) :
  WZ (TH prog w) A₀ E (a1K i) Q (eW κ rest (a++(d,w1)::(e,w2)::b) mg) s:=by
 subst I
 obtain ⟨m,y⟩:=h
 have o1:=m (d,w1) (by simp)
 have z:=m (e,w2) (by simp)
 have n:aZ (a++(d,w1)::(e,w2)::b)++rest=aZ a++d++e++(aZ b++rest):=by
  rw [mJ,i7,i7];simp
 have B:pos 0 (a++(d,w1)::(e,w2)::b)=pos 0 a++((aZ a).length,d.length,w1)::((aZ a).length+d.length,e.length,w2)::pos ((aZ a).length+d.length+e.length) b:=by
  rw [mK,VO];rfl
 unfold eW
 rw [n,B]
 refine Nj hC (fun x K=>H x (y.mem_iff.mp (by rw [n];exact K))) o1.1 z.1 o1.2 z.2 (w1:=w1) (w2:=w2) ?_ ?_ fun c l G v=>?_
 ·rw [Uq,Tv (by rw [j8];exact Th _),j8,WQ]
  rfl
 ·rw [Uq,Tv (by rw [j8];omega),j8,VF]
  rfl
 ·have o:=v.length_eq
  rw [Te] at o
  have u:aZ a++c++(aZ b++rest)=aZ (a++(c,w1)::b)++rest:=by
   rw [mJ,i7];simp
  have A:((pos 0 a++((aZ a).length,d.length,w1)::((aZ a).length+d.length,e.length,w2)::pos ((aZ a).length+d.length+e.length) b).toArray.setIfInBounds a.length ((aZ a).length,d.length+e.length,w1)).eraseIdxIfInBounds (a.length+1)=(pos 0 (a++(c,w1)::b)).toArray:=by
   apply UY.mp
   have j:(pos 0 a).length=a.length:=j8 _ _
   rw [Array.toList_eraseIdxIfInBounds,Zs,UT,UT,mK,VO,<- j,Yc _ _ (Th _),WQ,S8,List.eraseIdx_append_of_length_le (by omega),VF]
   show _=pos 0 a++((aZ a).length,c.length,w1)::pos ((aZ a).length+c.length) b
   rw [o,<- ZZ]
   rfl
  rw [u,A]
  refine q c l ⟨fun p j=>?_,?_⟩ o
  ·rcases Uj.mp j with j|j
   ·exact m p (by simp [j])
   ·rcases TN.mp j with rfl|j
    ·have:=o1.2
     dsimp only at this
     exact ⟨G,by dsimp only;omega⟩
    ·exact m p (by simp [j])
  ·rw [<- u]
   refine a0x ?_ y
   rw [n]
   have:=(v.append_left (aZ a)).append_right (aZ b++rest)
   simpa using this
theorem Df (hC:fW prog w A₀ κ s X (lr r))(B:∀ x∈L,X x){a:List fC}(h:Rn r L rest a){i:Nat}(I:i+1<a.length){Q:Bool->VB->SX->Prop}
  (q:∀ b j,Rn r L rest b->b.length+1=a.length->(aZ b).length=(aZ a).length->Q true (eW κ rest b j) s):WZ (TH prog w) A₀ E (a1K i) Q (eW κ rest a mg) s:=by
 have e:a=a.take i++(a[i].1,a[i].2)::(a[i+1].1,a[i+1].2)::a.drop (i+1+1):=by
  have y:=Vy (l:=a) (i:=i) (by omega)
  have z:=Vy (l:=a) (i:=i+1) (by omega)
  have o:=Ua i a
  rw [y,z] at o
  exact o.symm
 obtain ⟨l,m,p,n,u,d,v,G⟩:∃ l m p n u d,a=l++(m,p)::(n,u)::d/\i=l.length:=⟨_,_,_,_,_,_,e,by rw [TR];omega⟩
 subst v
 refine Np hC B h (fun c j A H=>q _ j A ?_ ?_) G
 ·simp
  omega
 ·rw [mJ,mJ,i7,i7,i7]
  simp
  omega
theorem Dg {b:Type}(f:b->b):∀ (l:List b)(x:b),(l++[x]).modify l.length f=l++[f x]
 | [],x=>rfl
 | a::l,x=>by
  show a::(l++[x]).modify l.length f=_
  rw [Dg f l x]
  rfl
theorem Nq (a:List fC)(c:List Keyed)(w:Nat):(pos 0 a).toArray.push ((aZ a).length,c.length,w)=(pos 0 (a++[(c,w)])).toArray:=by
 rw [mK,VO]
 apply UY.mp
 rw [U8]
 rfl
theorem Nr (a:List fC)(c:List Keyed)(w b:Nat):((pos 0 (a++[(c,w)])).toArray.modify ((pos 0 (a++[(c,w)])).toArray.size - 1) fun x=>(x.1,x.2.1,b))=(pos 0 (a++[(c,b)])).toArray:=by
 rw [mK,mK,VO]
 apply UY.mp
 have:=Dg (fun x:Nat×Nat×Nat=>(x.1,x.2.1,b)) (pos 0 a) ((aZ a).length,c.length,w)
 simp [pos]
 exact this
theorem Nt (a:List fC)(c:List Keyed)(w:Nat):(pos 0 (a++[(c,w)])).toArray.back? = some ((aZ a).length,c.length,w):=by
 rw [mK,VO]
 simp [pos]
theorem Nu (hC:fW prog w A₀ κ s X (lr r))(hX:∀ x∈L,X x)(hD:Dis r L)(h2:2<=L.length){Q:Unit->VB->SX->Prop}
  (q:∀ (R:List Keyed)(pd:Array (Nat×Nat×Nat))(m:Nat),Sr r R->R.Perm L->Q () (TX κ R.toArray pd m none) s):WZ (TH prog w) A₀ E sortRuns' Q (TX κ L.toArray #[] mg none) s:=by
 have hsz:(a1M (TX κ L.toArray #[] mg none)).size=L.length:=S5
 rw [sortRuns'_eq]
 refine Tf (WY ?_)
 dsimp only
 simp only [hsz]
 generalize minRun' L.length L.length 0=mr
 refine Tf (Ve (iH (fun i b st=>∃ l rest m,b=(none,(aZ l).length)/\st=eW κ rest l m/\Rn r L rest l/\i<=(aZ l).length) (fun b st=>∃ l m n,b=(none,n)/\st=eW κ [] l m/\Rn r L [] l) 0 L.length (fun i b st hi hI=>?_) (fun b st hI=>?_) (fun b st N=>?_) (L.length - 0) 0 _ _ (by omega) ⟨[],L,mg,rfl,rfl,⟨fun p z=>(by cases z),Xa _⟩,UD _⟩))
 ·obtain ⟨l,rest,A,rfl,rfl,v,hle⟩:=hI
  have B:=v.pm.length_eq
  rw [Te] at B
  dsimp only
  refine bT (fun hlo=>?_) fun hlo=>?_
  rotate_left
  ·have:rest=[]:=Vh.mp (by omega)
   subst this
   exact Tq ⟨rfl,l,A,_,rfl,rfl,v⟩
  have hXr:∀ x∈rest,X x:=fun x hx=>hX x (v.pm.mem_iff.mp (Uj.mpr (.inr hx)))
  have hDr:Dis r rest:=by
   have:Dis r (aZ l++rest):=hD.perm v.pm.symm fun h=>h.symm
   exact (UX.mp this).2.1
  rw [show L.length - (aZ l).length=rest.length by omega]
  refine Tf (Nl hC hXr hDr (by omega) fun c t U h2 h3=>?_)
  dsimp only
  have hct:=h3.length_eq
  rw [Te] at hct
  refine bT (fun hmr=>?_) fun hmr=>?_
  rotate_left
  refine Tf (Yg (WM ?_))
  have ht:t=t.take (min rest.length mr - c.length)++t.drop (min rest.length mr - c.length):=(Ua _ _).symm
  have hD1:(t.take (min rest.length mr - c.length)).length=min rest.length mr - c.length:=by rw [TR];omega
  generalize t.take (min rest.length mr - c.length)=D at ht hD1
  generalize t.drop (min rest.length mr - c.length)=t' at ht
  subst ht
  rw [<- Ts c D t',show min rest.length mr=c.length+D.length by omega]
  refine Tf (Nn hC (fun x hx=>hXr x (h3.mem_iff.mp (by rw [<- Ts];exact hx))) h2 U fun c' G K=>?_)
  have hc':=K.length_eq
  rw [Te] at hc'
  rw [<- hc',if_neg (by decide)]
  have k1:0<c'.length:=by omega
  have k2:=G
  have k3:(c'++t').Perm rest:=(K.append_right t').trans (by rw [Ts];exact h3)
  clear hc' K G h3 hct
  revert k1 k2 k3
  revert t'
  revert c'
  intro y M k1 k2 k3
  rotate_left
  have k1:=U
  have k2:=h2
  have k3:=h3
  clear U h2 h3 hct hmr
  revert k1 k2 k3
  revert t
  revert c
  intro y M k1 k2 k3
  all_goals
   have hcc:=k3.length_eq
   rw [Te] at hcc
   refine Tf (WY ?_)
   have fin:∀ (d:List fC)(m:Nat),Rn r L (y++M) d->(aZ d).length=(aZ l).length->∃ I T mg'',((none,(aZ l).length+y.length):Option Unit×Nat)=(none,(aZ I).length)/\TX κ (aZ d++(y++M)).toArray ((pos 0 d).toArray.push ((aZ l).length,y.length,0)) m none=eW κ T I mg''/\Rn r L T I/\i+1<=(aZ I).length:=fun d m G K=>by
    have e1:aZ (d++[(y,0)])=aZ d++y:=by rw [mJ,i7];show _++(y++[])=_;rw [UK]
    refine ⟨d++[(y,0)],M,m,?_,?_,⟨fun p z=>?_,?_⟩,?_⟩
    ·rw [e1,Te,K]
    ·unfold eW
     rw [<- Nq,e1,K,Ts]
    ·rcases Uj.mp z with z|z
     ·exact G.ok p z
     ·rw [Ud.mp z]
      exact ⟨k2,k1⟩
    ·rw [e1,Ts]
     exact G.pm
    ·rw [e1,Te]
     omega
   have hR':Rn r L (y++M) l:=⟨v.ok,(k3.append_left _).trans v.pm⟩
   rcases a0m l with O|⟨Z,⟨cl,wl⟩,O⟩
   ·have Y:(ZI (TX κ (aZ l++(y++M)).toArray (pos 0 l).toArray A none)).back? = none:=by rw [O];rfl
    simp only [Y]
    exact Tf (V6 (Tq ⟨rfl,fin l A hR' rfl⟩))
   ·rw [a0n] at O
    have Y:(ZI (TX κ (aZ l++(y++M)).toArray (pos 0 l).toArray A none)).back? = some ((aZ Z).length,cl.length,wl):=by rw [O];exact Nt Z cl wl
    simp only [Y]
    generalize power' L.length (2 * (aZ Z).length+cl.length) (2 * (aZ Z).length+cl.length+cl.length+y.length) L.length=pw
    refine Tf (Ve (iH (fun j b st=>b=(none,())/\∃ d m,st=eW κ (y++M) d m/\Rn r L (y++M) d/\d≠[]/\(aZ d).length=(aZ l).length) (fun b st=>b=(none,())/\∃ d m,st=eW κ (y++M) d m/\Rn r L (y++M) d/\d≠[]/\(aZ d).length=(aZ l).length) 0 L.length (fun j b st hj hJ=>?_) (fun b st hJ=>hJ) (fun b st N=>?_) (L.length - 0) 0 _ _ (by omega) ⟨rfl,l,A,rfl,hR',by rw [O];simp,rfl⟩))
    ·obtain ⟨rfl,d,u,rfl,G,K,g3⟩:=hJ
     refine Tf (WY ?_)
     have hps:(ZI (eW κ (y++M) d u)).size=d.length:=by
      show (pos 0 d).toArray.size=_
      rw [S5,j8]
     rw [hps]
     have hn0:0<d.length:=a0H.mpr K
     by_cases U:d.length>1
     ·rw [if_pos U]
      obtain ⟨⟨o1,o2,o3⟩,ho⟩:∃ o,(ZI (eW κ (y++M) d u))[d.length - 2]? = some o:=by
       show ∃ o,(pos 0 d).toArray[d.length - 2]? = some o
       rw [Uq]
       exact ⟨_,S1 (by rw [j8];omega)⟩
      rw [ho]
      dsimp only
      refine bT (fun z=>?_) fun z=>?_
      ·refine Tf (Df hC hX G (by omega) fun rs2 mg3 a1 a2 a3=>?_)
       rw [if_neg (by decide)]
       exact Tq ⟨rfl,rfl,rs2,mg3,rfl,a1,fun e=>by rw [e] at a2;simp at a2;omega,by omega⟩
      ·exact Tq ⟨rfl,rfl,d,u,rfl,G,K,g3⟩
     ·rw [if_neg U]
      exact Tq ⟨rfl,rfl,d,u,rfl,G,K,g3⟩
    ·obtain ⟨rfl,d,u,rfl,G,K,g3⟩:=N
     dsimp only
     refine Tf (V6 ?_)
     rcases a0m d with H|⟨rs1,⟨cm,wm⟩,H⟩
     ·exact absurd H K
     rw [a0n] at H
     subst H
     have f1:aZ (rs1++[(cm,wm)])=aZ (rs1++[(cm,pw)]):=by rw [mJ,mJ];rfl
     refine Tf (V6 (Tq ⟨rfl,?_⟩))
     have:=fin (rs1++[(cm,pw)]) u ⟨fun p z=>?_,by rw [<- f1];exact G.pm⟩ (by rw [<- f1];exact g3)
     ·rw [<- Nr rs1 cm wm pw,<- f1] at this
      exact this
     ·rcases Uj.mp z with z|z
      ·exact G.ok p (by simp [z])
      ·rw [Ud.mp z]
       exact G.ok (cm,wm) (by simp)
 ·obtain ⟨l,rest,A,rfl,rfl,v,hle⟩:=hI
  have B:=v.pm.length_eq
  rw [Te] at B
  have:rest=[]:=Vh.mp (by omega)
  subst this
  exact ⟨l,A,_,rfl,rfl,v⟩
 ·obtain ⟨l,A,n,rfl,rfl,v⟩:=N
  dsimp only
  have hfl:l.length<=(aZ l).length:=by
   have:∀ l:List fC,(∀ p∈l,0<p.1.length)->l.length<=(aZ l).length:=by
    intro l
    induction l with
    | nil=>intro _;exact Th _
    | cons p l ih=>
     intro h
     obtain ⟨c,w⟩:=p
     have a:=ih fun p z=>h p (by simp [z])
     have b:=h (c,w) (by simp)
     dsimp only at b
     rw [i7,Te,Tw]
     omega
   exact this l fun p z=>(v.ok p z).2
  have B:=v.pm.length_eq
  rw [Te,VH] at B
  refine Tf (Ve (iH (fun i b st=>b=(none,())/\∃ l m,st=eW κ [] l m/\Rn r L [] l/\l.length+i<=L.length) (fun b st=>b=(none,())/\∃ l m,st=eW κ [] l m/\Rn r L [] l/\l.length<=1) 0 L.length (fun i b st hi hI=>?_) (fun b st hI=>?_) (fun b st N=>?_) (L.length - 0) 0 _ _ (by omega) ⟨rfl,l,A,rfl,v,by omega⟩))
  ·obtain ⟨rfl,l,u,rfl,v,Y⟩:=hI
   refine Tf (WY ?_)
   have hps:(ZI (eW κ [] l u)).size=l.length:=by
    show (pos 0 l).toArray.size=_
    rw [S5,j8]
   rw [hps]
   refine bT (fun U=>?_) fun U=>?_
   ·refine Tf (Df hC hX v ?_ fun d m G K g3=>?_)
    ·split<;>(try split)<;>omega
    ·rw [if_neg (by decide)]
     exact Tq ⟨rfl,rfl,d,m,rfl,G,by omega⟩
   ·exact Tq ⟨rfl,rfl,l,u,rfl,v,U⟩
  ·obtain ⟨rfl,l,u,rfl,v,Y⟩:=hI
   exact ⟨rfl,l,u,rfl,v,by omega⟩
  ·obtain ⟨rfl,l,u,rfl,v,Y⟩:=N
   dsimp only
   have hpm:=v.pm
   rw [UK] at hpm
   refine Tq ?_
   have:=q (aZ l++[]) (pos 0 l).toArray u ?_ (by rw [UK];exact hpm)
   ·exact this
   ·rw [UK]
    match l,Y,v with
    | [],_,_=>exact X8
    | [(c,w)],_,v=>
     have:=(v.ok (c,w) (by simp)).1
     rw [i7]
     show Sr r (c++[])
     rw [UK]
     exact this
    | _::_::_,Y,_=>simp at Y
end
end L3
namespace L3
open PySem L2 PySem.W PyProof.Rows
section
variable {prog:Tt}{w:TV}{A:TJ}{E:Value->SX->Prop}{s:SX}
theorem Nv {c:Addr}{us:List Value}{z:Nat}{rk:Value->Int}(N:us.Pairwise fun x y=>rk x≠rk y)(h1:2<=us.length)(h2:us.length<=Td){R:a2R->SX->Prop}(g:s.heap.get? c=some (VE "list" us.toArray z))
  (H:∀ m:Uw,(∀ b o,b≠c->s.heap.get? b=some o->m.get? b=some o)->C1 prog w A us (fun x y=>decide (rk x<rk y)) { s with heap:=m })
  (q:∀ a:List Value,a.Perm us->a.Pairwise (fun x y=>rk x<=rk y)->R (.done (.ret .none)) { s with heap:=Y6 s.heap c us a.toArray }) :
  TK (TH prog w) A (Builtin.«list.sort» ⟨[.ref c],[]⟩) R E s:=by
 rw [a2N]
 have lt:c<s.heap.objs.size:=Tg g
 refine S0 (listItems_at g rfl (S0 (Y0 g rfl ?_ (by rw [S5];omega) (UD _))))
 obtain ⟨y,O⟩:∃ y,(s.heap.update c (VI fun _=>#[])).get? c=some (VE "list" #[] y):=⟨_,a2P g _⟩
 refine S0 (ZT O rfl (S0 (Z7 (S0 (a0A (U2 ?_) (UD _))) (by show us.length<=_;omega))))
 have Q:(((s.heap.update c (VI fun _=>#[])).push (VE "tuple" us.toArray 0)).push (VE "list" #[] 0)).get? c=some (VE "list" #[] y):=
  S9 _ (S9 _ O)
 have n:=H (((s.heap.update c (VI fun _=>#[])).push (VE "tuple" us.toArray 0)).push (VE "list" #[] 0)) fun b o Z e=>S9 _ (S9 _ ((UM _ _ (UH Z)).trans e))
 show TK (TH prog w) A _ R E ⟨((s.heap.update c (VI fun _=>#[])).push (VE "tuple" us.toArray 0)).push (VE "list" #[] 0),s.gens,s.drawn,s.toks,s.os⟩
 dsimp only
 have i:¬ us.toArray.size<2:=by rw [S5];omega
 rw [if_neg i,if_neg i]
 refine S0 (T9 n (fun κ M G=>?_) fun _ _ x=>x.elim)
 obtain ⟨rfl,G⟩:=G
 have Y:us.toArray.zip us.toArray=(us.map fun u=>(u,u)).toArray:=by
  apply UY.mp
  rw [M7,UT]
 have run:=Nu (prog:=prog) (w:=w) (A₀:=A) (E:=E) (κ:=κ) (X:=fun p=>∃ u∈us,p=(u,u)) (r:=fun p=>rk p.1)
  (s:={ s with heap:=((s.heap.update c (VI fun _=>#[])).push (VE "tuple" us.toArray 0)).push (VE "list" #[] 0) }) (L:=us.map fun u=>(u,u)) (mg:=7)
  (fun x y C l L hc=>by
   obtain ⟨u,K,rfl⟩:=l
   obtain ⟨v,hv,rfl⟩:=L
   exact G u v C K hv hc) (fun x l=>by
   obtain ⟨u,K,rfl⟩:=Tp.mp l
   exact ⟨u,K,rfl⟩) (by unfold Dis;rw [UL];exact N) (by rw [S3];exact h1)
  (Q:=fun _ j M=>M = { s with heap:=((s.heap.update c (VI fun _=>#[])).push (VE "tuple" us.toArray 0)).push (VE "list" #[] 0) }/\failedOf j=none/\∃ a:List Value,(a1M j).map (·.2)=a.toArray/\a.Perm us/\a.Pairwise (fun x y=>rk x<=rk y)) (fun T pd mg' m B=>⟨rfl,rfl,T.map (·.2),by
   show T.toArray.map (·.2)=_
   rw [List.map_toArray],by
   have:=B.map (·.2)
   rw [T8] at this
   exact this.trans (by rw [show ((fun p:Keyed=>p.2) ∘ fun u:Value=>(u,u))=id from rfl,a0w]),by
   rw [UL]
   refine Xb (R:=fun x y:Keyed=>rk x.1<=rk y.1) (fun {x y} l L h=>?_) m
   obtain ⟨u,_,rfl⟩:=Tp.mp (B.mem_iff.mp l)
   obtain ⟨v,_,rfl⟩:=Tp.mp (B.mem_iff.mp L)
   exact h⟩)
 rw [Y]
 refine S0 (T9 run (fun r M hr=>?_) fun _ _ e=>e)
 obtain ⟨⟨⟩,j⟩:=r
 obtain ⟨rfl,U,a,d,X,I⟩:=hr
 dsimp only at U d ⊢
 rw [d]
 have hol:=X.length_eq
 refine S0 (ZT Q rfl (S0 (Y0 Q rfl ?_ (hsz2:=by rw [S5];omega))))
 rw [U]
 simp only [bne_self_eq_false,S6,if_false]
 exact Tn (q a X I)
end
section
variable {α:Type}{lt:α->α->Bool}
structure Ord1 (lt:α->α->Bool):Prop where
 ir:∀ x,lt x x=false
 tr:∀ x y z,lt x y=true->lt y z=true->lt x z=true
 to:∀ x y,lt x y=false->lt y x=false->x=y
noncomputable def i8 (lt:α->α->Bool)(l:List α)(x:α):Int:=(l.countP fun y=>lt y x:Nat)
theorem Dh (h:Ord1 lt){l:List α}{x y:α}(b:x∈l):lt x y=true->i8 lt l x<i8 lt l y:=fun e=>by
 unfold i8
 have:∀ l:List α,l.countP (fun z=>lt z x)<=l.countP (fun z=>lt z y):=fun l=>List.countP_mono_left fun z _ d=>h.tr z x y d e
 have j:l.countP (fun z=>lt z x)<l.countP (fun z=>lt z y):=by
  induction l with
  | nil=>cases b
  | cons a l i=>
   rw [a1F,a1F]
   rcases TN.mp b with rfl|b
   ·rw [h.ir,e,if_neg UN,if_pos rfl]
    have:=this l
    omega
   ·have:=i b
    by_cases c:lt a x=true
    ·rw [if_pos c,if_pos (h.tr _ _ _ c e)];omega
    ·rw [if_neg c];split<;>omega
 omega
theorem tJ (h:Ord1 lt){l:List α}{x y:α}(b:x∈l)(c:y∈l):lt x y=decide (i8 lt l x<i8 lt l y):=by
 cases e:lt x y with
 | true=>rw [decide_eq_true (Dh h b e)]
 | false=>
  symm
  rw [decide_eq_false_iff_not]
  cases a:lt y x with
  | true=>have:=Dh h c a;omega
  | false=>rw [h.to x y e a];omega
theorem Di (h:Ord1 lt){l:List α}{x y:α}(c:x∈l)(d:y∈l)(i:x≠y):i8 lt l x≠i8 lt l y:=fun e=>by
 have a:=tJ h c d
 have b:=tJ h d c
 rw [e,decide_eq_false (by omega)] at a
 rw [e,decide_eq_false (by omega)] at b
 exact i (h.to x y a b)
end
end L3
namespace L3
open PySem L2 PySem.W PyProof.Rows
end L3
namespace L3
open PySem L2
open PyProof.Rows (IntsAre Fr News seqObj)
theorem mL:∀ a:List Int,HT.lexLt a a=false
 | []=>rfl
 | x::a=>by rw [HT.lexLt_cons,if_pos rfl];exact mL a
theorem Dj:∀ {a b:List Int},a≠b->HT.lexLt a b = !HT.lexLt b a
 | [],[],h=>absurd rfl h
 | [],_::_,_=>rfl
 | _::_,[],_=>rfl
 | x::a,y::b,h=>by
  rw [HT.lexLt_cons,HT.lexLt_cons]
  by_cases e:x=y
  ·subst e
   rw [if_pos rfl,if_pos rfl]
   exact Dj fun z=>h (by rw [z])
  ·rw [if_neg e,if_neg (UH e)]
   rcases Int.lt_or_gt_of_ne e with z|z
   ·rw [decide_eq_true z,decide_eq_false (by omega)];rfl
   ·rw [decide_eq_false (by omega),decide_eq_true z];rfl
theorem mM:∀ {a b c:List Int},HT.lexLt a b=true->HT.lexLt b c=true->HT.lexLt a c=true
 | _,[],[],_,h=>absurd h (by intro z;cases z)
 | _,_::_,[],_,h=>absurd h (by intro z;cases z)
 | [],_,_::_,_,_=>rfl
 | _::_,[],_::_,h,_=>absurd h (by intro z;cases z)
 | x::a,y::b,z::c,h1,h2=>by
  rw [HT.lexLt_cons] at h1 h2 ⊢
  by_cases e:x=y
  ·subst e
   rw [if_pos rfl] at h1
   by_cases d:x=z
   ·subst d
    rw [if_pos rfl] at h2 ⊢
    exact mM h1 h2
   ·rw [if_neg d] at h2 ⊢
    exact h2
  ·rw [if_neg e] at h1
   by_cases d:y=z
   ·subst d
    rw [if_neg e];exact h1
   ·rw [if_neg d] at h2
    rw [decide_eq_true_eq] at h1 h2
    rw [if_neg (by omega),decide_eq_true_eq];omega
end L3
namespace L3
open PySem
open PySem.W (KasT kas_asc kas_desc kas_tail3 kas_descPart kas_count kas_place kas_bin kas_sort kas_rev)
open PyProof.Rows (mirror bubble getElem?_bubble getElem?_mirror_all mirror_size bubble_size)
section
variable {α:Type}{lt:α->α->Bool}(irr:∀ a,lt a a=false)(tr:∀ a b c,lt a b=true->lt b c=true->lt a c=true)(nt:∀ a b c,lt a b=true->lt a c=true\/lt c b=true)
include irr tr nt in
theorem Dk (d:α)(xs:List α){n:Nat}(_:1<=n):(dE (fun i j=>lt (xs.getD i d) (xs.getD j d)) n).Pairwise fun i j=>lt (xs.getD j d) (xs.getD i d)=false:=by
 have h:=List.pairwise_mergeSort (le:=fun i j=>!(lt (xs.getD j d) (xs.getD i d))) (fun a b c l m=>by
  rw [Wi] at l m ⊢
  cases e:lt (xs.getD c d) (xs.getD a d) with
  | false=>rfl
  | true=>
   rcases nt _ _ (xs.getD b d) e with z|z
   ·rw [z] at m;cases m
   ·rw [z] at l;cases l) (fun a b=>by
  cases e:lt (xs.getD b d) (xs.getD a d) with
  | false=>rfl
  | true=>
   cases o:lt (xs.getD a d) (xs.getD b d) with
   | false=>rfl
   | true=>have:=tr _ _ _ e o;rw [irr] at this;cases this) (Ur n)
 exact h.imp fun h=>by simpa using h
end
end L3
namespace L3
open PySem L2 PySem.W PyProof.Rows
theorem Nw:Ord1 HT.lexLt:=⟨mL,fun _ _ _=>mM,fun a b h1 c=>Xl fun d=>by
 have:=Dj d
 rw [h1,c] at this
 cases this⟩
section
variable {X:Cx}{a3A:List (Addr×Obj)}{σ:L2.St}{H:Hp}{s:SX}
end
end L3
namespace L3
open PySem L2
section
variable {X:Cx}{a b c:Expr}{ma mb mc:ME}{pos:Va}
noncomputable def i9 (f g:D->D->Hm->Option (D×Hm))(a b c:ME):ME:=fun d e=>(a d e).bind fun p=>(b d p.2).bind fun q=>(f p.1 q.1 q.2).bind fun r=>match r.1 with
 | .bl true=>(c d r.2).bind fun t=>g q.1 t.1 t.2
 | .bl false=>some (.bl false,r.2)
 | _=>none
theorem Dl {f g:D->D->Hm->Option (D×Hm)}{r L:R2}{K:SV}(hf:cR K f r)(hg:cR K g L):∀ σ H Q,tM K (i9 f g ma mb mc) σ H Q->vU r L (tM K ma) (tM K mb) (tM K mc) σ H Q:=by
 rintro σ H Q ⟨π,w,μ,d,q,R,E,e,k⟩
 obtain ⟨⟨x,h⟩,Z,e⟩:=SS.mp e
 obtain ⟨⟨y,i⟩,h2,e⟩:=SS.mp e
 obtain ⟨⟨z,j⟩,h3,e⟩:=SS.mp e
 refine ⟨π,w,μ,x,h,R,E,Z,fun s v1 H1 n U i1=>⟨s,w,h,y,i,U,E.mono n,h2,fun u M N o R2 I=>?_⟩⟩
 refine hf u N i x y z j v1 M _ R2 (i1.mono o) I h3 fun m v3 O p A i3=>?_
 cases z with
 | bl B=>
  cases i3
  refine ⟨B,rfl,?_⟩
  cases B with
  | true=>
   refine lR ?_
   obtain ⟨⟨t,l⟩,h4,e⟩:=SS.mp e
   exact ⟨m,w,j,t,l,A,((E.mono n).mono o).mono p,h4,fun v v4 T G Y i4=>hg v T l y t d q M v4 Q Y ((I.mono p).mono G) i4 e (k.after (((n.trans o).trans p).trans G))⟩
  | false=>
   refine lQ ?_
   cases e
   exact k m _ O ((n.trans o).trans p) A (.bl false)
 | _=>cases e
noncomputable def j9:Xc->Option (Int->Int->Bool)
 | .Lt=>some fun i j=>decide (i<j)
 | .LtE=>some fun i j=>decide (i<=j)
 | .Gt=>some fun i j=>decide (j<i)
 | .GtE=>some fun i j=>decide (j<=i)
 | _=>none
theorem oG {op:Xc}{p:Int->Int->Bool}(h:j9 op=some p):OpR X (UC op) (f7 fun i j=>.bl (p i j))/\(op=.Lt\/op=.LtE\/op=.Gt\/op=.GtE):=by
 cases op<;>first|(cases h;first|exact ⟨vO,by simp⟩|exact ⟨vP,by simp⟩|exact ⟨vQ,by simp⟩|exact ⟨vT,by simp⟩)|cases h
theorem Dm {op d:Xc}(h':d=.Lt\/d=.LtE\/d=.Gt\/d=.GtE):a2A [op,d] [b,c]=false:=by
 show Wj d c=false
 rcases h' with rfl|rfl|rfl|rfl<;>exact dM _
theorem Nx {op d:Xc}{p q:Int->Int->Bool}(h:j9 op=some p)(h':j9 d=some q)(e:QE X a ma)(i:QE X b mb)(hc:QE X c mc):QE X (.Compare a [op,d] [b,c] pos) (i9 (fP p) (fP q) ma mb mc):=
 ⟨cL (HI (oG h).1 (oG h').1 e.h i.h hc.h (Dm (oG (X:=X) h').2)) (Dl gT gT)⟩
theorem Ny {op d:Xc}{p q:Int->Int->Bool}(h:j9 op=some p)(h':j9 d=some q)(i:QE X a ma)(j:QE X b mb)(hc:QE X c mc):QT X (.Compare a [op,d] [b,c] pos) (aO (i9 (fP p) (fP q) ma mb mc)):=
 ⟨pU (HJ (oG h).1 (oG h').1 i.h j.h hc.h (Dm (oG (X:=X) h').2)) fun e H Q h=>Dl gT gT e H _ (wG e H Q h)⟩
noncomputable def tK (d:Bool):D->D->Hm->Option (D×Hm)
 | .bl b,.bl c,μ=>some (.bl (if d then !(b == c) else b == c),μ)
 | .int _,.bl _,μ=>some (.bl d,μ)
 | _,_,_=>none
noncomputable def iI (d:Bool):D->D->Hm->Option (D×Hm):=fun x y e=>match y with
 | .bl _=>tK d x y e
 | _=>iZ d x y e
noncomputable def xU (d:Bool):R2:=fun x y H Q=>∃ c,y=.bl c/\((∃ b,x=.bl b/\Q (.bl (if d then !(b == c) else b == c)) H)\/((∃ i,x=.int i)/\Q (.bl d) H))
theorem tL {K:SV}{h:Bool}:cR K (tK h) (xU h):=by
 intro l H p x y d m n o Q R i j e k
 unfold tK at e
 split at e
 ·cases e;cases i;cases j
  exact ⟨_,rfl,.inl ⟨_,rfl,k l _ H .refl R (.bl _)⟩⟩
 ·cases e;cases i;cases j
  exact ⟨_,rfl,.inr ⟨⟨_,rfl⟩,k l _ H .refl R (.bl _)⟩⟩
 ·cases e
theorem Dp:OpR X (UC .Is) (xU false):=by
 intro e s l H x y v u Q I d j h
 obtain ⟨c,rfl,h⟩:=h
 cases j
 rcases h with ⟨b,rfl,q⟩|⟨⟨i,rfl⟩,q⟩
 ·cases d
  exact Tn (lM I q (by cases b<;>cases c<;>rfl))
 ·obtain ⟨t,rfl⟩:=d
  exact Tn (lM I q rfl)
theorem Dq:OpR X (UC .IsNot) (xU true):=by
 intro e s l H x y v u Q I d j h
 obtain ⟨c,rfl,h⟩:=h
 cases j
 rcases h with ⟨b,rfl,q⟩|⟨⟨i,rfl⟩,q⟩
 ·cases d
  exact Tn (lM I q (by cases b<;>cases c<;>rfl))
 ·obtain ⟨t,rfl⟩:=d
  exact Tn (lM I q rfl)
theorem tN {d:Bool}(x y:D)(e:Hm)(r:D×Hm)(h:iI d x y e=some r):tK d x y e=some r\/iZ d x y e=some r:=by
 unfold iI at h
 split at h
 ·exact .inl h
 ·exact .inr h
theorem Nz (d:QE X a ma)(e:QE X b mb):QE X (.Compare a [.Is] [b] pos) (aB (iI false) ma mb):=kU ⟨eS Dp tL d.h e.h (dM _)⟩ (L4 d e) (fU tN)
theorem NA (d:QE X a ma)(e:QE X b mb):QE X (.Compare a [.IsNot] [b] pos) (aB (iI true) ma mb):=kU ⟨eS Dq tL d.h e.h (dM _)⟩ (L5 d e) (fU tN)
theorem NB (d:QE X a ma)(e:QE X b mb):QT X (.Compare a [.Is] [b] pos) (aO (aB (iI false) ma mb)):=nW ⟨eU Dp tL d.h e.h (dM _)⟩ (L6 d e) (nY (fU tN))
theorem NC (d:QE X a ma)(e:QE X b mb):QT X (.Compare a [.IsNot] [b] pos) (aO (aB (iI true) ma mb)):=nW ⟨eU Dq tL d.h e.h (dM _)⟩ (L7 d e) (nY (fU tN))
end
section
variable {X:Cx}
end
section
variable {X:Cx}{e:Expr}{te:TE}{lo hi:Option Expr}{st:Expr}{tl th tt:TO}{pos p2:Va}
end
section
variable {X:Cx}{a3A:List (Addr×Obj)}{σ:St}{H:Hp}{s:SX}{h':Uw}
end
structure QJT (X:Cx)(e:Expr)(m:MI):Prop where
 h:∀ es k p,PI X (.Tuple es k p) e (iX X.K m)
theorem QJ.t {X:Cx}{e:Expr}{m:MI}(h:QJ X e m):QJT X e m:=⟨fun es k p=>h.h _⟩
section
variable {X:Cx}{pos:Va}
theorem ND {tg iter:Expr}{w:MI}{g:MG}{v:MS}{body:List Stmt}(I:PI X tg iter (iX X.K w))(G:QG X tg g)(B:QB X body v)(K:a2E (TH X.prog X.w) X.A X.env X.xe)(hc:X.calm=true)(L:fB iter=true) :
  QS X (.For tg iter body [] pos) (fT w g v):=⟨jO (Hy K hc I G.h B.h (by intro z;cases iter<;>first|rfl|cases L)) (by
 rintro E T H ⟨O,Q,N,u,r,p,R,s,m,k⟩
 obtain ⟨⟨o,n,l⟩,A,m⟩:=SS.mp m
 refine ⟨O,Q,N,o,n,l,R,s,A,fun q x J i y W=>?_⟩
 have M:nF X.K E q l.length x u r p:=by
  cases u with
  | nx=>exact fun a b e j h c=>k a b e (i.trans j) h c
  | bk=>exact fun a b e j h c=>k a b e (i.trans j) h c
  | ct=>exact fun a b e j h c=>k a b e (i.trans j) h c
  | rt d=>exact KC.after k i
 exact Kp W M .refl y (s.mono i) m)⟩
noncomputable def xV (put:D->D->D->Hm->Option Hm)(o i v:ME):MS:=fun a c=>(v a c).bind fun p=>(o a p.2).bind fun q=>(i a q.2).bind fun r=>(put q.1 r.1 p.1 r.2).map fun b=>(.nx,a,b)
noncomputable def qO:D->D->D->Hm->Option Hm
 | .loc a,y,d,μ=>match μ[a]? with
  | some (.dT kvs)=>(gH y).bind fun k=>if kvs.length<Td then some (μ.set a (.dT (dQ kvs k d))) else none
  | _=>none
 | _,_,_,_=>none
noncomputable def qP:D->D->D->Hm->Option Hm:=qO
noncomputable def jA:=xV qP
theorem Dr {st:Stmt}{i:Nat}:QS X st (aW i bE):=⟨fun a3A s σ H D I q=>by
 obtain ⟨h,j,e,d,c,b,R,E,a,k⟩:=q
 cases a⟩
end
end L3
namespace L3
open PySem L2
section
variable {X:Cx}
end
section
variable {X:Cx}
end
noncomputable def qQ:List D->Option (List Str)
 | []=>some []
 | .str x::r=>(qQ r).map (x::·)
 | _=>none
noncomputable def dJ (f:D->List D->Hm->Option (D×Hm))(b:ME)(c:MA):ME:=fun a d=>(b a d).bind fun p=>match p.1 with
 | .str x=>(c a p.2).bind fun q=>f (.str x) q.1 q.2
 | _=>none
section
variable {X:Cx}{e o:Expr}{mo:ME}{apos cpos:Va}{es:List Expr}{ms:MA}{n:Nat}
theorem NF {K:SV}{f:D->List D->Hm->Option (D×Hm)}{r:V->List V->Hp->VK->Prop}(y:iE K f r):∀ σ H Q,tM K (dJ f mo ms) σ H Q->wD K "str" r (tM K mo) (eC K ms) σ H Q:=by
 rintro σ H Q ⟨L,p,I,d,h,R,E,a,k⟩
 obtain ⟨⟨x,b⟩,v,a⟩:=SS.mp a
 cases x with
 | str z=>
  obtain ⟨⟨m,c⟩,w,a⟩:=SS.mp a
  refine ⟨L,p,I,_,b,R,E,v,fun i N M l s A=>?_⟩
  cases A
  refine ⟨rfl,i,p,b,m,c,s,E.mono l,w,fun j G q u R2 B=>?_⟩
  exact y j q c _ m d h _ G Q R2 (.str _) B a (k.after (l.trans u))
 | _=>cases a
theorem Dt {f:D->List D->Hm->Option (D×Hm)}{r:V->List V->Hp->VK->Prop}{name:Str}{id:String}(slot:Slot "str" name id) (c:a2b (.builtin id)=pure (.type "method_descriptor")) (j:jN X id r)(h:iE X.K f r)
  (m:QE X o mo)(d:QA X (e::es) ms n)(p:mD o=true)(i:(apos.endLine == cpos.line)=true)(l:(e::es).length<30):QE X (.Call (.Attribute o name apos) (e::es) [] cpos) (dJ f mo ms):=by
 have b:=d.s
 have a:=b
 rw [Ul,SW] at a
 exact ⟨cL (Bn PySem.F.plainAttrs_str slot c j m.h d.h (mE p) (xG b l) i (d9 a.1) (iC a.2)) (NF h)⟩
end
noncomputable def fD:D->List D->Hm->Option (D×Hm)
 | .str sep,[y],μ=>(tI μ y).bind fun b=>(qQ b).bind fun a=>if Wh (a.toArray.foldl (·+·.length+sep.length) 0)=false/\(Ui sep a).length<=Td then some (.str (Ui sep a),μ) else none
 | _,_,_=>none
noncomputable def Du (K:SV):V->List V->Hp->VK->Prop:=fun x vs H Q=>∃ (a:Str)(p:Addr)(ss:List Str),x=.str a/\vs=[.ref p]/\SqL K H p (ss.map V.str)/\Wh (ss.toArray.foldl (·+·.length+a.length) 0)=false/\(Ui a ss).length<=Td/\Q (.str (Ui a ss)) H
theorem Dv:∀ {ds:List D}{k:List Str},qQ ds=some k->ds=k.map D.str
 | [],k,h=>by cases h;rfl
 | d::ds,k,h=>by
  cases d with
  | str i=>
   obtain ⟨c,a,b⟩:=SY.mp h
   subst b
   rw [Dv a];rfl
  | _=>cases h
theorem strs_of' {K:SV}{π:Nat->Addr}{n:Nat}{H:Hp}:∀ {vs:List V}{k:List Str},IsDs K π n H vs (k.map D.str)->vs=k.map V.str
 | _,[],h=>by cases h;rfl
 | _,i::k,h=>by
  cases h with
  | cons h t=>cases h;rw [strs_of' t];rfl
theorem NG {K:SV}:iE K fD (Du K):=by
 intro n H u x ds d m v o Q R i is a k
 unfold fD at a
 split at a
 ·obtain ⟨s,c,a⟩:=SS.mp a
  obtain ⟨j,e,a⟩:=SS.mp a
  split at a
  ·rename_i b
   cases a
   cases i
   cases is with
   | cons h l=>
    cases l
    obtain ⟨p,r,rfl,q,hd⟩:=M9 R h c
    rw [Dv e] at hd
    have:=strs_of' hd
    subst this
    exact ⟨_,p,j,rfl,rfl,q,b.1,b.2,k n _ H .refl R (.str _)⟩
  ·cases a
 ·cases a
theorem Dw:∀ {ss:List Str}{a:List Value},Vals (ss.map V.str) a->∃ l:List (Str×a1g),a=a0M l/\l.map (·.1)=ss
 | [],_,h=>by cases h;exact ⟨[],rfl,rfl⟩
 | x::ss,_,h=>by
  cases h with
  | cons h t=>
   obtain ⟨b,rfl⟩:=h
   obtain ⟨l,rfl,e⟩:=Dw t
   exact ⟨(x,b)::l,rfl,by rw [S7,e]⟩
theorem NH {X:Cx}:jN X "str.join" (Du X.K):=by
 intro e s G H x E v B Q I y w h
 obtain ⟨d,p,A,rfl,rfl,j,i,c,q⟩:=h
 obtain ⟨t,rfl⟩:=y
 obtain ⟨u,rfl,o⟩:=w.one
 cases o
 obtain ⟨m,r,n,z⟩:=I.list j
 obtain ⟨l,rfl,rfl⟩:=Dw r
 refine XT F.slot_str_join (XQ _ _ _) F.entry_str_join (F.args_str_join_2 _ _) (meets_str_join_list d t p l i) ⟨n.isList,?_⟩
 match l,c,q with
 | [],c,q=>exact ⟨c,.str _,H,I.tok _,⟨_,rfl⟩,q⟩
 | [a],c,q=>exact ⟨.str _,H,I,⟨_,rfl⟩,q⟩
 | a::b::r,c,q=>exact ⟨c,.str _,H,I.tok _,⟨_,rfl⟩,q⟩
end L3
namespace L3
open PySem L2
section
variable {prog:Tt}{w:TV}{A:TJ}{E:Value->SX->Prop}{s:SX}{r:Addr}{Q:Bool->SX->Prop}
end
section
variable {prog:Tt}{w:TV}{A:TJ}{E:Value->SX->Prop}{s:SX}{p a:Addr}{its:Array Value}
end
end L3
namespace L3
open PySem L2
end L3
namespace L3
open PySem L2
noncomputable abbrev bV:=List (List Int×Addr×V)
noncomputable def bR (ps:bV)(ws:List Value):List (List Int×Addr×Value):=Z2 (fun p w=>(p.1,p.2.1,w)) ps ws
theorem xW {P:Tt}{w:TV}:∀ (ps:bV)(ws:List Value),Z2 BE ps ws=(bR ps ws).map (entryOfKey (Wy (X0 P w)))
 | [],_=>by simp [bR]
 | p::ps,[]=>by simp [bR]
 | p::ps,u::ws=>by
  have a:=xW (P:=P) (w:=w) ps ws
  unfold bR at a ⊢
  rw [Uy,Uy,S7,a]
  rfl
theorem oH:∀ {ps:bV}{ws:List Value},Vals (ps.map (·.2.2)) ws->(bR ps ws).map (·.1)=ps.map (·.1)
 | [],_,_=>by simp [bR]
 | p::ps,_,.cons r t=>by
  have a:=oH (ps:=ps) t
  unfold bR at a ⊢
  rw [Uy,S7,S7,a]
theorem Dx:∀ {ps:bV}{ws:List Value}{x:List Int×Addr×Value},x∈bR ps ws->∃ p∈ps,p.1=x.1/\p.2.1=x.2.1
 | [],_,x,h=>by simp [bR] at h
 | p::ps,[],x,h=>by simp [bR] at h
 | p::ps,u::ws,x,h=>by
  unfold bR at h
  rw [Uy] at h
  rcases TN.mp h with e|h
  ·subst e;exact ⟨p,TC ..,rfl,rfl⟩
  ·obtain ⟨q,a,e⟩:=Dx (ps:=ps) (ws:=ws) h
   exact ⟨q,Tu _ a,e⟩
noncomputable def eA (ps:bV)(k:List Int):Option V:=(ps.find? fun p=>decide (p.1=k)).map (·.2.2)
noncomputable def eB (ps:bV)(k:List Int)(b:Addr)(v:V):bV:=if (eA ps k).isSome then ps.map (fun p=>if p.1=k then (p.1,p.2.1,v) else p) else ps++[(k,b,v)]
theorem oI:∀ {ps:bV}{ws:List Value},Vals (ps.map (·.2.2)) ws->∀ k,RelO (eA ps k) ((XD (bR ps ws) k).map (·.2))
 | [],_,.nil,k=>by simp [eA,bR,XD];exact Wa
 | p::ps,_,.cons r t,k=>by
  have a:=oI (ps:=ps) t k
  unfold eA XD bR at a ⊢
  rw [Uy,UJ,UJ]
  by_cases e:p.1=k
  ·simp only [e,decide_true]
   exact r
  ·simp only [e,decide_false]
   exact a
theorem xX (ps:bV)(k:List Int)(b:Addr)(v:V):(eB ps k b v).length<=ps.length+1:=by
 unfold eB;split<;>simp
theorem Dy {k:List Int}{v:V}{u:Value}(d:RelV v u):∀ {ps:bV}{ws:List Value},Vals (ps.map (·.2.2)) ws->
  ∃ a,Vals ((ps.map fun p=>if p.1=k then (p.1,p.2.1,v) else p).map (·.2.2)) a/\(bR ps ws).map (a3q k u)=bR (ps.map fun p=>if p.1=k then (p.1,p.2.1,v) else p) a
 | [],_,.nil=>⟨[],.nil,by simp [bR]⟩
 | p::ps,_,.cons (b:=w) r t=>by
  obtain ⟨a,c,b⟩:=Dy d (ps:=ps) t
  by_cases e:p.1=k
  ·refine ⟨u::a,?_,?_⟩
   ·rw [S7,S7,if_pos e]
    exact .cons d c
   ·unfold bR at b ⊢
    rw [Uy,S7,b,S7,if_pos e,Uy]
    unfold a3q
    rw [if_pos e]
  ·refine ⟨w::a,?_,?_⟩
   ·rw [S7,S7,if_neg e]
    exact .cons r c
   ·unfold bR at b ⊢
    rw [Uy,S7,b,S7,if_neg e,Uy]
    unfold a3q
    rw [if_neg e]
theorem Dz {k:List Int}{b:Addr}{v:V}{u:Value}:∀ {ps:bV}{ws:List Value},Vals (ps.map (·.2.2)) ws->bR ps ws++[(k,b,u)]=bR (ps++[(k,b,v)]) (ws++[u])
 | [],_,.nil=>by simp [bR]
 | p::ps,_,.cons r t=>by
  have a:=Dz (k:=k) (b:=b) (v:=v) (u:=u) (ps:=ps) t
  unfold bR at a ⊢
  rw [Uy,TU,a,TU,TU,Uy]
theorem DA {ps:bV}{ws:List Value}(r:Vals (ps.map (·.2.2)) ws)(k:List Int)(b:Addr){v:V}{u:Value}(c:RelV v u) :
  ∃ a,Vals ((eB ps k b v).map (·.2.2)) a/\a2p (bR ps ws) k b u=bR (eB ps k b v) a:=by
 have e:=(oI r k).isSome_eq
 rw [WG] at e
 unfold eB a2p
 rw [e]
 by_cases h:(XD (bR ps ws) k).isSome=true
 ·rw [if_pos h,if_pos h]
  exact Dy c r
 ·rw [if_neg h,if_neg h]
  refine ⟨ws++[u],?_,Dz r⟩
  rw [UI]
  exact YX r c
section
variable {X:Cx}{a3A:List (Addr×Obj)}{σ:St}{H:Hp}{s:SX}{a:Addr}{ps:bV}
noncomputable def dS (K:SV)(H:Hp)(ps:bV):Prop:=∀ p∈ps,SqT K H p.2.1 (p.1.map V.int)
theorem kD (I:Inv X a3A σ H s)(e:Rd H a (bL a ps))(u:dS X.K H ps):(a == Vl)=false/\ps.length<=Td /\
  ∃ b,Vals (ps.map (·.2.2)) b/\s.heap.DictOfH (Wy (X0 X.prog X.w)) a (bR ps b):=by
 obtain ⟨⟨b,r,y,v,o,i,h,j,l,m,n,q⟩,_⟩:=(show ObjOk X.prog X.w H s.heap a (bL a ps) from e.ok I.hok)
 refine ⟨y,v,b,r,o,i,h,j,l,m,by rw [n];exact xW ps b,fun x z=>?_,by rw [oH r];exact q⟩
 obtain ⟨p,w,c,d⟩:=Dx z
 rw [<- c,<- d]
 exact kX I (u p w)
theorem xY {P:Tt}{w:TV}{H':Hp}{h':Uw}{ws:List Value}(n:(a == Vl)=false)(m:ps.length<=Td)(r:Vals (ps.map (·.2.2)) ws)(d:h'.DictOfH (Wy (X0 P w)) a (bR ps ws)):ObjOk P w H' h' a (bL a ps):=by
 obtain ⟨o,e,c,b,h,i,j,_,l⟩:=d
 refine ⟨⟨ws,r,n,m,o,e,c,b,h,i,by rw [j,xW (P:=P) (w:=w)],by rw [<- oH r];exact l⟩,⟨o,b⟩,?_⟩
 rintro q u ⟨ws,r,n,m,o,e,c,b,h,i,j,l⟩ p
 exact ⟨ws,r,n,m,o,e,c,p o b,h,i,j,l⟩
theorem NI (I:Inv X a3A σ H s)(e:Rd H a (bL a ps))(b:dS X.K H ps):s.TypeIs (.ref a) "dict":=by
 obtain ⟨_,_,c,_,d⟩:=kD I e b
 exact d.typeIs
theorem qR {A:TJ}(b:A.units+1<Vf):(Wy (X0 X.prog X.w)).room A.in1:=by
 show A.in1.units<Vf
 rw [nN];omega
variable {A:TJ}{E:Value->SX->Prop}{b:Addr}{k:List Int}{v:V}
theorem NJ {Q:Value->SX->Prop}(q:A.units+1<Vf)(I:Inv X a3A σ H s)(e:Rd H a (bL a ps))(n:dS X.K H ps)(m:SqT X.K H b (k.map V.int))(u:eA ps k=some v)
  (h:∀ c l,Inv X a3A σ H l->RelV v c->Q c l):TK (TH X.prog X.w) A (Zm (.ref a) (.ref b)) Q E s:=by
 obtain ⟨y,x,w,r,d⟩:=kD I e n
 obtain ⟨c,hw,j⟩:=RelO.some_of (v:=v) (o:=(XD (bR ps w) k).map (·.2)) (by rw [<- u];exact oI r k)
 obtain ⟨p,o,i⟩:=SY.mp hw
 refine a1Z (qR q) (kX I m) d o ?_
 rw [i]
 exact h c _ (I.tok _) j
theorem NK {Q:Value->SX->Prop}(m:A.units+1<Vf)(I:Inv X a3A σ H s)(e:Rd H a (bL a ps))(j:dS X.K H ps)(i:SqT X.K H b (k.map V.int))
  (h:∀ c,Inv X a3A σ H c->Q (.bool (eA ps k).isSome) c):TK (TH X.prog X.w) A (UC .In (.ref b) (.ref a)) Q E s:=by
 obtain ⟨l,n,o,r,d⟩:=kD I e j
 refine wpAny_in_heap (qR m) (kX I i) l d ?_
 have q:=(oI r k).isSome_eq
 rw [WG] at q
 rw [<- q]
 exact h _ (I.tok _)
theorem NL {Q:Value->SX->Prop}(m:A.units+1<Vf)(I:Inv X a3A σ H s)(e:Rd H a (bL a ps))(j:dS X.K H ps)(i:SqT X.K H b (k.map V.int))
  (h:∀ c,Inv X a3A σ H c->Q (.bool (!(eA ps k).isSome)) c):TK (TH X.prog X.w) A (UC .NotIn (.ref b) (.ref a)) Q E s:=by
 obtain ⟨l,n,o,r,d⟩:=kD I e j
 refine a2S (qR m) (kX I i) l d ?_
 have q:=(oI r k).isSome_eq
 rw [WG] at q
 rw [<- q]
 exact h _ (I.tok _)
theorem NM {Q:Unit->SX->Prop}{u:Value}(y:A.units+1<Vf)(I:Inv X a3A σ H s)(e:H a=some (bL a ps))(p:dS X.K H ps)(n:SqT X.K H b (k.map V.int))(hz:ps.length<Td)(G:RelV v u)
  (h:∀ j,Inv X a3A σ (aQ H a (bL a (eB ps k b v))) j->Q () j):TK (TH X.prog X.w) A (setItem (.ref a) (.ref b) u) Q E s:=by
 obtain ⟨x,M,K,r,d⟩:=kD I (.of e) p
 have z:(bR ps K).length<=Td:=by
  have:=congrArg Vi (oH r)
  rw [S3,S3] at this
  omega
 refine wpAny_setItem_heap (hsz:=z) (qR y) (kX I n) d fun m c i=>h _ ?_
 obtain ⟨L,B,l⟩:=DA r k b G
 rw [l] at c
 have o:∃ q,m.get? a=some q:=let ⟨q,_,_,w,_⟩:=c;⟨q,w⟩
 exact v8 I (by rw [e];exact Wa) i o (xY x (by have:=xX ps k b v;omega) B c)
end
noncomputable def IsTs (K:SV)(π:Nat->Addr)(n:Nat)(H:Hp):bV->List (List Int×D)->Prop:=WO fun p q=>p.1=q.1/\SqT K H p.2.1 (p.1.map V.int)/\IsD K π n H p.2.2 q.2
section
variable {K:SV}{π:Nat->Addr}{n:Nat}{H:Hp}{μ:Hm}
theorem NN {b:Addr}{k:List Int}(h:IsD K π n H (.ref b) (.tup (k.map D.int))):SqT K H b (k.map V.int):=by
 cases h with
 | tup q t=>rw [ints_of' t] at q;exact q
theorem IsTs.of:∀ {ps:bV}{kvs:List (List Int×D)},ps.map (·.1)=kvs.map (·.1)->IsDs K π n H (ps.map fun p=>V.ref p.2.1) (kvs.map fun k=>D.tup (k.1.map D.int))->IsDs K π n H (ps.map (·.2.2)) (kvs.map (·.2))->IsTs K π n H ps kvs
 | [],[],_,_,_=>.nil
 | [],_::_,h,_,_=>by cases h
 | _::_,[],h,_,_=>by cases h
 | p::ps,q::kvs,h,h2,h3=>by
  cases h2 with
  | cons a b=>
   cases h3 with
   | cons c d=>
    rw [S7,S7,YK] at h
    refine .cons ⟨h.1,?_,c⟩ (IsTs.of h.2 b d)
    rw [h.1]
    exact NN a
theorem IsTs.keys:∀ {ps:bV}{kvs:List (List Int×D)},IsTs K π n H ps kvs->dS K H ps
 | _,_,.nil=>fun p a=>nomatch a
 | _,_,.cons h t=>fun p a=>by
  rcases TN.mp a with e|a
  ·subst e;exact h.2.1
  ·exact IsTs.keys t p a
theorem IsTs.to:∀ {ps:bV}{kvs:List (List Int×D)},IsTs K π n H ps kvs->ps.map (·.1)=kvs.map (·.1)/\IsDs K π n H (ps.map fun p=>V.ref p.2.1) (kvs.map fun k=>D.tup (k.1.map D.int))/\IsDs K π n H (ps.map (·.2.2)) (kvs.map (·.2))
 | _,_,.nil=>⟨rfl,.nil,.nil⟩
 | _,_,.cons (a:=p) (b:=q) h t=>by
  obtain ⟨a,b,c⟩:=IsTs.to t
  refine ⟨by rw [S7,S7,h.1,a],.cons ?_ b,.cons h.2.2 c⟩
  show IsD K π n H (.ref p.2.1) (.tup (q.1.map D.int))
  rw [<- h.1]
  exact .tup h.2.1 (xN p.1)
theorem IsTs.val (k:List Int):∀ {ps:bV}{kvs:List (List Int×D)},IsTs K π n H ps kvs->(eA ps k=none/\cX kvs k=none)\/∃ v d,eA ps k=some v/\cX kvs k=some d/\IsD K π n H v d
 | _,_,.nil=>.inl ⟨rfl,rfl⟩
 | _,_,.cons (a:=p) (b:=q) h t=>by
  have a:=IsTs.val k t
  unfold eA cX at a ⊢
  rw [UJ,UJ,<- h.1]
  by_cases e:p.1=k
  ·simp only [e,decide_true]
   exact .inr ⟨_,_,rfl,rfl,h.2.2⟩
  ·simp only [e,decide_false]
   exact a
theorem IsTs.put {ps:bV}{kvs:List (List Int×D)}(h:IsTs K π n H ps kvs)(k:List Int){b:Addr}{v:V}{d:D}(j:SqT K H b (k.map V.int))(i:IsD K π n H v d):IsTs K π n H (eB ps k b v) (dQ kvs k d):=by
 have e:(eA ps k).isSome=(cX kvs k).isSome:=by
  rcases h.val k with ⟨a,c⟩|⟨v,d,a,c,_⟩<;>rw [a,c]<;>rfl
 have repl:∀ {ps:bV}{kvs:List (List Int×D)},IsTs K π n H ps kvs->IsTs K π n H (ps.map fun p=>if p.1=k then (p.1,p.2.1,v) else p) (kvs.map fun p=>if p.1=k then (p.1,d) else p):=by
  intro ps kvs h
  unfold IsTs at h
  induction h with
  | nil=>exact .nil
  | @cons p q ps m h t l=>
   rw [S7,S7]
   refine .cons ?_ l
   by_cases z:p.1=k
   ·rw [if_pos z,if_pos (h.1.symm.trans z)]
    exact ⟨h.1,h.2.1,i⟩
   ·rw [if_neg z,if_neg fun y=>z (h.1.trans y)]
    exact h
 unfold eB dQ
 rw [e]
 split
 ·exact repl h
 ·exact YX h ⟨rfl,j,i⟩
theorem mO {a:Nat}{kvs:List (List Int×D)}(R:Rp K π H μ)(h:μ[a]? = some (.dT kvs)):∃ ps,H (π a)=some (bL (π a) ps)/\IsTs K π μ.length H ps kvs:=by
 obtain ⟨ps,b,c,d,e⟩:=R.dT a kvs h
 exact ⟨ps,b,.of c d e⟩
theorem qS {v:V}{x:D}{k:List Int}(h:IsD K π n H v x)(e:gH x=some k):∃ b,v=.ref b/\SqT K H b (k.map V.int):=by
 have:=M8 e
 subst this
 cases h with
 | tup q t=>rw [ints_of' t] at q;exact ⟨_,rfl,q⟩
end
noncomputable def kY:ME:=fun _ a=>some (.loc a.length,a++[.dT []])
section
variable {X:Cx}{pos:Va}
theorem DB {P:Tt}{w:TV}{H:Hp}(h:Uw)(a:Vl<h.objs.size):ObjOk P w H (h.push { cls:=.type "dict",data:=.dict #[] }) h.objs.size (bL h.objs.size []):=
 xY (ws:=[]) (beq_eq_false_iff_ne.mpr (UH (TL a))) (UD _) .nil (a3g h)
noncomputable def NO:TE:=fun _ H Q=>∀ p,H p=none->Q (.ref p) (aQ H p (bL p []))
theorem NP:PE X (.Dict [] [] pos) NO:=fun a3A s σ H Q I h=>
 wpAny_Dict_empty ⟨.ref s.heap.objs.size,_,I.laid (a:=s.heap.objs.size) (o:=bL s.heap.objs.size []) (t':=s.toks) (fun _ _ q=>S9 _ q) (Th _) (DB s.heap I.big),rfl,h _ (I.hok.fresh (Th _))⟩
theorem NQ:QE X (.Dict [] [] pos) kY:=⟨cL NP (by
 rintro n H Q ⟨l,m,j,d,h,R,E,c,k⟩ p e
 cases c
 obtain ⟨b,a,i⟩:=R.alloc (c:=.dT []) (o:=bL p []) e ⟨[],rfl,rfl,.nil,.nil⟩
 exact k _ _ _ b a nI)⟩
end
noncomputable def oJ:D->D->Hm->Option (D×Hm)
 | .loc a,y,μ=>match μ[a]? with
  | some (.dT kvs)=>(gH y).bind fun k=>(cX kvs k).map fun d=>(d,μ)
  | _=>none
 | _,_,_=>none
section
variable {X:Cx}{a b e:Expr}{ma mb me:ME}{pos tpos:Va}{td ty tv:TE}
noncomputable def DC (K:SV):R2:=fun x y H Q=>∃ a b ps k v,x=.ref a/\y=.ref b/\Rd H a (bL a ps)/\dS K H ps/\SqT K H b (k.map V.int)/\eA ps k=some v/\Q v H
theorem NR (B:X.A.units+1<Vf)(z:PE X a td)(w:PE X b ty)(A:sH b):PE X (.Subscript a b pos) (fun σ H Q=>td σ H fun x d=>ty σ d fun y i=>DC X.K x y i Q):=by
 intro c s σ H Q I h
 refine Be Zg.lookup A (aU (z c s σ H _ I h) fun u O ⟨x,d,n,M,K⟩=>aU (w c O σ d _ n K) fun G T ⟨y,i,l,N,a,b,R,k,v,p,q,e,m,r,E,L⟩=>?_)
 subst p q
 obtain rfl:u=Tr a:=M
 obtain rfl:G=Tr b:=N
 exact ⟨NI l e m,NJ B l e m r E fun Y U o j=>⟨v,i,o,j,L⟩⟩
theorem NS {K:SV}:cR K oJ (DC K):=by
 intro A H L x y d w G I Q R n o c k
 unfold oJ at c
 split at c
 ·split at c
  ·rename_i p hc
   obtain ⟨i,l,c⟩:=SS.mp c
   obtain ⟨B,h,c⟩:=SY.mp c
   cases c
   cases n
   obtain ⟨q,j,T⟩:=mO R hc
   obtain ⟨b,rfl,m⟩:=qS o l
   rcases T.val i with ⟨_,z⟩|⟨v,E,r,s,u⟩
   ·rw [z] at h;cases h
   ·rw [s] at h
    cases h
    exact ⟨_,b,q,i,v,rfl,rfl,.of j,T.keys,m,r,k A _ H .refl R u⟩
  ·cases c
 ·cases c
theorem NT {k:Nat}(i:Room k X.A)(c:QE X a ma)(d:QE X b mb)(h:lZ b=true):QE X (.Subscript a b pos) (aB oJ ma mb):=⟨cL (NR (gF i) c.h d.h (w6 h)) (nH NS)⟩
end
section
variable {X:Cx}{o i e:Expr}{mo mi me:ME}{pos tpos:Va}{td ty tv:TE}
noncomputable def NU (K:SV)(td ty tv:TE):TS:=fun D σ H=>tv σ H fun v d=>td σ d fun x h=>ty σ h fun y c=>∃ a b ps k,x=.ref a/\y=.ref b/\c a=some (bL a ps)/\dS K c ps/\SqT K c b (k.map V.int)/\ps.length<Td/\D.nx σ (aQ c a (bL a (eB ps k b v)))
theorem NV (L:X.A.units+1<Vf)(G:PE X o td)(B:PE X i ty)(M:PE X e tv)(K:XM e (some (.Subscript o i tpos)) pos.line X.env=pure false) :
  PS X (.Assign [.Subscript o i tpos] e pos) (NU X.K td ty tv):=by
 intro c s d H D I h
 refine wpAny_Assign_Subscript (aU (M c s d H _ I h) fun r s1 ⟨v,j,m,U,Q⟩=>aU (G c s1 d j _ m Q) fun u s2 ⟨x,l,n,Y,R⟩=>aU (B c s2 d l _ n R) fun O s3 ⟨y,H3,p,Z,a,b,ps,k,w,z,e,E,A,N,T⟩=>?_) K
 subst w z
 obtain rfl:u=Tr a:=Y
 obtain rfl:O=Tr b:=Z
 exact NM L p e E A N U fun s4 q=>⟨d,_,q,T⟩
theorem NW {j:Nat}(hr:Room j X.A)(ho:QE X o mo)(hi:QE X i mi)(he:QE X e me)(h:eG e=true):QS X (.Assign [.Subscript o i tpos] e pos) (xV qO mo mi me):=
 ⟨jO (NV (IW hr) ho.h hi.h he.h (qE h)) (by
 rintro E σ H ⟨π,L,μ,fl,ρ',μ',R,n,d,k⟩
 obtain ⟨⟨x,l⟩,h1,d⟩:=SS.mp d
 obtain ⟨⟨y,m⟩,h2,d⟩:=SS.mp d
 obtain ⟨⟨z,B⟩,h3,d⟩:=SS.mp d
 obtain ⟨μ4,c,d⟩:=SY.mp d
 cases d
 refine ⟨π,L,μ,x,l,R,n,h1,fun G v1 H1 p U i1=>⟨G,L,l,y,m,U,n.mono p,h2,fun I v2 H2 q R2 i2=>⟨I,L,m,z,B,R2,(n.mono p).mono q,h3,fun K v3 H3 r M i3=>?_⟩⟩⟩
 cases y with
 | loc a=>
  simp only [qO] at c
  split at c
  ·rename_i w hc
   obtain ⟨j,h5,c⟩:=SS.mp c
   split at c
   ·rename_i hz
    cases c
    have v:=i2.mono r
    cases v with
    | loc s=>
     obtain ⟨A,O,T⟩:=mO M hc
     obtain ⟨b,rfl,Q⟩:=qS i3 h5
     have hv:=(i1.mono q).mono r
     have Z:=T.put j Q hv
     obtain ⟨g1,g2,g3⟩:=Z.to
     have u:A.length<Td:=by
      have:=congrArg Vi (T.to).1
      rw [S3,S3] at this
      omega
     refine ⟨_,b,A,j,rfl,rfl,O,T.keys,Q,u,?_⟩
     obtain ⟨N,Y⟩:=M.put (c:=.dT (dQ w j x)) (o:=bL _ (eB A j b v1)) s O (.inr (.inr ⟨_,rfl⟩)) ⟨_,rfl,g1,g2,g3⟩
     exact k K σ _ (((p.trans q).trans r).trans N) Y ((((n.mono p).mono q).mono r).mono N)
   ·cases c
  ·cases c
 | _=>simp [qO] at c)⟩
end
noncomputable def qT (b:Bool):D->D->Hm->Option (D×Hm)
 | x,.loc a,μ=>match μ[a]? with
  | some (.dT kvs)=>(gH x).map fun k=>(.bl (if b then !(cX kvs k).isSome else (cX kvs k).isSome),μ)
  | _=>none
 | _,_,_=>none
noncomputable def xZ (K:SV)(c:Bool):R2:=fun x y H Q=>∃ a b ps k,x=.ref b/\y=.ref a/\Rd H a (bL a ps)/\dS K H ps/\SqT K H b (k.map V.int)/\Q (.bl (if c then !(eA ps k).isSome else (eA ps k).isSome)) H
theorem DD {X:Cx}(l:X.A.units+1<Vf):OpR X (UC .In) (xZ X.K false):=by
 intro d s r H x y v u Q I m n h
 obtain ⟨a,b,o,k,rfl,rfl,e,j,i,q⟩:=h
 obtain rfl:v=Tr b:=m
 obtain rfl:u=Tr a:=n
 exact NK l I e j i fun p c=>⟨.bl _,H,c,rfl,q⟩
theorem DE {X:Cx}(l:X.A.units+1<Vf):OpR X (UC .NotIn) (xZ X.K true):=by
 intro d s r H x y v u Q I m n h
 obtain ⟨a,b,o,k,rfl,rfl,e,j,i,q⟩:=h
 obtain rfl:v=Tr b:=m
 obtain rfl:u=Tr a:=n
 exact NL l I e j i fun p c=>⟨.bl _,H,c,rfl,q⟩
theorem tP {K:SV}{c:Bool}:cR K (qT c) (xZ K c):=by
 intro s H z x y d r u w Q R p q a k
 unfold qT at a
 split at a
 ·split at a
  ·rename_i j hc
   obtain ⟨i,h,a⟩:=SY.mp a
   cases a
   cases q
   obtain ⟨m,n,T⟩:=mO R hc
   obtain ⟨b,rfl,o⟩:=qS p h
   have e:(eA m i).isSome=(cX j i).isSome:=by
    rcases T.val i with ⟨h,l⟩|⟨v,d,h,l,_⟩<;>rw [h,l]<;>rfl
   refine ⟨_,b,m,i,rfl,rfl,.of n,T.keys,o,?_⟩
   rw [e]
   exact k s _ H .refl R (.bl _)
  ·cases a
 ·cases a
section
variable {X:Cx}{a b:Expr}{ma mb:ME}{pos:Va}
end
end L3
namespace L3
open PySem L2
noncomputable def RawD (h:Uw)(d:Addr)(es:Array U5)(ep:Nat):Prop:=∃ z,h.get? d=some z/\z.ExactDict/\z.data=.dict es ep
theorem RawD.ty {s:SX}{d:Addr} {es ep} (g:RawD s.heap d es ep):s.TypeIs (.ref d) "dict":=let ⟨z,a,b,_⟩:=g;⟨z,a,b.1⟩
theorem RawD.stay {h h':Uw}{d:Addr} {es ep} (g:RawD h d es ep)(k:∀ o,h.get? d=some o->h'.get? d=some o):RawD h' d es ep:=let ⟨z,a,b⟩:=g;⟨z,k z a,b⟩
theorem RawD.lt {h:Uw}{d:Addr} {es ep} (g:RawD h d es ep):d<h.objs.size:=let ⟨_,a,_⟩:=g;Tg a
section
variable {P:Tt}{w:TV}{A:TJ}{E:Value->SX->Prop}{s:SX}{d it:Addr}{i ep:Nat}{es:Array U5}
theorem NX (lo:(d == Vl)=false):MeetsIn P w (Builtin.«dict.__len__» ⟨[.ref d],[]⟩) (fun _ R s=>∃ es ep,RawD s.heap d es ep/\R (.ok (.ret (.int (es.size:Nat) s.toks))) { s with toks:=s.toks+1 }):=
 .of_wp fun A R s ⟨es,ep,⟨z,a,c,b⟩,q⟩=>by
  show TK _ _ (dictSize d >>= _) _ _ _
  unfold dictSize
  refine S0 (S0 (Zk a b (Tn ?_)))
  show TK _ _ (a3i d >>= _) _ _ _
  refine S0 (wpAny_pendingCount_other lo (wpAny_ret_mkInt ?_))
  rw [X6];exact q
theorem NY {Q:Value->SX->Prop}(lo:(d == Vl)=false)(g:RawD s.heap d es ep)(hz:es.size<=Td)(q:Q (.int (es.size:Nat) (s.toks+1)) { s with toks:=s.toks+1+1 }):TK (TH P w) A (call (.builtin "len") [.ref d]) Q E s:=
 a2Z g.ty F.slot_dict_len (fun b a=>a1f F.slot_dict_len g.ty F.entry_dict_len (F.args_dict_len_1 _) (NX lo) ⟨es,ep,g,a⟩) (by omega) (by rw [TM] at hz;omega) q
end
theorem DF:∀ {ps:bV}{ws:List Value},Vals (ps.map (·.2.2)) ws->(bR ps ws).map (fun x=>Tr x.2.1)=ps.map fun p=>Tr p.2.1
 | [],_,_=>by simp [bR]
 | p::ps,_,.cons r t=>by
  have a:=DF (ps:=ps) t
  unfold bR at a ⊢
  rw [Uy,S7,S7,a]
section
variable {X:Cx}{a3A:List (Addr×Obj)}{σ:St}{H:Hp}{s:SX}{a:Addr}{ps:bV}
theorem yA (I:Inv X a3A σ H s)(e:H a=some (bL a ps))(i:dS X.K H ps):(a == Vl)=false/\ps.length<=Td/\∃ es ep,RawD s.heap a es ep/\es.toList.map (·.key)=ps.map fun p=>Tr p.2.1:=by
 obtain ⟨l,j,m,r,z,es,ep,b,c,d,h,_⟩:=kD I (.of e) i
 refine ⟨l,j,es,ep,⟨z,b,c,d⟩,?_⟩
 rw [h,T8,<- DF r]
 rfl
noncomputable def DG (K:SV):List V->Hp->VK->Prop:=fun xs H Q=>∃ a ps,xs=[V.ref a]/\H a=some (bL a ps)/\dS K H ps/\Q (.int ps.length) H
theorem NZ:CallR X (.builtin "len") (DG X.K):=by
 intro a3A s σ H p o Q I r h
 obtain ⟨a,ps,rfl,c,e,q⟩:=h
 obtain ⟨u,rfl,l⟩:=lN r
 cases l
 obtain ⟨j,n,b,m,g,d⟩:=yA I c e
 have i:b.size=ps.length:=by
  have:=congrArg Vi d
  simpa using this
 refine NY j g (by omega) ?_
 rw [i]
 exact ⟨.int ps.length,H,(I.tok _).tok _,⟨_,rfl⟩,q⟩
end
section
variable {X:Cx}{a b o i e:Expr}{ma mb mo mi me:ME}{pos tpos:Va}{k:Nat}
theorem N0 (n:Room k X.A)(j:QE X a ma)(l:QE X b mb)(h:lZ b=true):QE X (.Subscript a b pos) (aB aH ma mb):=
 kU (kU (m:=aB (fun x y d=>match oJ x y d with|some r=>some r|none=>qA x y d) ma mb) (NT n j l h) (Lf n j l h) (fU fun x y d r c=>by
  split at c
  ·rename_i z;rw [z];exact .inl c
  ·exact .inr c)) (Le j l h) (fU fun x y d r c=>by
  unfold aH at c
  split at c
  ·split at c
   ·rename_i m hc
    refine .inl ?_
    simp only [oJ,qA,hc]
    exact c
   ·rename_i m hc
    refine .inl ?_
    simp only [oJ,hc]
    rw [c]
   ·exact .inr c
  ·exact .inr c)
noncomputable def oK (c:Bool):D->D->Hm->Option (D×Hm):=fun x y d=>match qT c x y d with
 | some r=>some r
 | none=>mB c x y d
theorem tQ {c:Bool}(x y:D)(d:Hm)(r:D×Hm)(h:oK c x y d=some r):qT c x y d=some r\/mB c x y d=some r:=by
 unfold oK at h
 split at h
 ·rename_i z;rw [z];exact .inl h
 ·exact .inr h
theorem DH {d:Bool}(x y:D)(m:Hm)(r:D×Hm)(h:dD d x y m=some r):(∃ i j,x=.str i/\y=.str j)\/oK d x y m=some r:=by
 cases y with
 | loc a=>
  refine .inr ?_
  have e:dD d x (.loc a) m=(match m[a]? with
   | some (.dT l)=>(gH x).map fun k=>(D.bl (if d then !(cX l k).isSome else (cX l k).isSome),m)
   | _=>mB d x (.loc a) m):=by cases x<;>rfl
  rw [e] at h
  unfold oK
  simp only [qT]
  cases hc:m[a]? with
  | none=>rw [hc] at h;exact h
  | some c=>
   rw [hc] at h
   cases c with
   | dT l=>dsimp only at h ⊢;rw [h]
   | _=>exact h
 | str j=>
  cases x with
  | str i=>exact .inl ⟨i,j,rfl,rfl⟩
  | _=>exact .inr h
 | _=>cases x<;>exact .inr h
theorem DI (x y:D)(c:Hm)(r:D×Hm)(h:dD false x y c=some r):wX x y c=some r\/oK false x y c=some r:=by
 rcases DH x y c r h with ⟨i,j,rfl,rfl⟩|z
 ·exact .inl h
 ·exact .inr z
theorem DJ (x y:D)(c:Hm)(r:D×Hm)(h:dD true x y c=some r):xF x y c=some r\/oK true x y c=some r:=by
 rcases DH x y c r h with ⟨i,j,rfl,rfl⟩|z
 ·exact .inl h
 ·exact .inr z
theorem N3 (j:Room k X.A)(c:QE X a ma)(d:QE X b mb)(h:fB b=true):QE X (.Compare a [.In] [b] pos) (aB (dD false) ma mb):=
 kU ⟨eS AQ B4 c.h d.h (gU h)⟩ (kU ⟨eS (DD (gF j)) tP c.h d.h (gU h)⟩ ⟨eS (CF (sY j)) sW c.h d.h (gU h)⟩ (fU tQ)) (fU DI)
theorem N4 (j:Room k X.A)(c:QE X a ma)(d:QE X b mb)(h:fB b=true):QE X (.Compare a [.NotIn] [b] pos) (aB (dD true) ma mb):=
 kU ⟨eS Bl CH c.h d.h (gU h)⟩ (kU ⟨eS (DE (gF j)) tP c.h d.h (gU h)⟩ ⟨eS (CG (sY j)) sW c.h d.h (gU h)⟩ (fU tQ)) (fU DJ)
theorem N5 (j:Room k X.A)(c:QE X a ma)(d:QE X b mb)(h:fB b=true):QT X (.Compare a [.In] [b] pos) (aO (aB (dD false) ma mb)):=
 nW ⟨eU AQ B4 c.h d.h (gU h)⟩ (nW ⟨eU (DD (gF j)) tP c.h d.h (gU h)⟩ ⟨eU (CF (sY j)) sW c.h d.h (gU h)⟩ (nY (fU tQ))) (nY (fU DI))
theorem N6 (j:Room k X.A)(c:QE X a ma)(d:QE X b mb)(h:fB b=true):QT X (.Compare a [.NotIn] [b] pos) (aO (aB (dD true) ma mb)):=
 nW ⟨eU Bl CH c.h d.h (gU h)⟩ (nW ⟨eU (DE (gF j)) tP c.h d.h (gU h)⟩ ⟨eU (CG (sY j)) sW c.h d.h (gU h)⟩ (nY (fU tQ))) (nY (fU DJ))
theorem N7 (l:Room k X.A)(j:QE X o mo)(d:QE X i mi)(c:QE X e me)(h:eG e=true):QS X (.Assign [.Subscript o i tpos] e pos) (jA mo mi me):=NW l j d c h
end
end L3
namespace L3
open PySem L2
end L3
namespace L3
open PySem L2
section
variable {P:Tt}{w:TV}{A:TJ}{E:Value->SX->Prop}{s:SX}{a:Addr}
theorem N8:a2c (.type "tuple") "keys" = pure none:=by rw [typeLookup_type,builtinLookup_eq_fast];kernel_rfl
theorem N9 {o:Obj}{xs:Array Value}{k:Nat}{Q:Option Value->SX->Prop}(g:s.heap.get? a=some o)(j:o.cls=.type "tuple") (l:o.data=.seq xs k)(m:o.dict=none)(hA:A.handled=none)
  (q:∀ h n,(∀ b u,s.heap.get? b=some u->h.get? b=some u)->Q none { s with heap:=h,toks:=n }):TK (TH P w) A (a1L (.ref a) "keys") Q E s:=by
 obtain ⟨c,r,p,B⟩:=o
 dsimp only at j l m
 subst j l m
 obtain ⟨y,x,v,n,z⟩:=s
 have ty:∀ d,(⟨y,x,v,d,z⟩:SX).TypeIs (.ref a) "tuple":=fun _=>⟨_,g,rfl⟩
 have G:=sub_AttributeError
 have H:=F.slot_tuple_getattribute.lookup
 have I:=F.slot_tuple_getattribute.bind (.ref a)
 have K:=am_tuple_getattr_none
 unfold a1L getAttrBy? getAttrBy
 repeat (any_goals (first|assumption|exact ty _|((with_reducible show TK _ _ (call (Tc "tuple.__getattribute__") _ _) _ _ _);refine XT F.slot_tuple_getattribute (ty _) am_entry_tuple_getattribute (F.args_tuple_getattribute_2 _ _) (meets_getattribute_miss_tuple a xs k B "keys" _ N8 (by decide +kernel)) ⟨g,hA,fun h d e ne=>?_⟩)|wp_step))
 obtain ⟨L,M,i⟩:=ne.there
 show TK _ _ (a2d _ _ _ _ none false false) _ _ _
 unfold a2d
 repeat (any_goals (first|assumption|wp_step))
 exact q _ _ ne.of.keeps
end
theorem DK:entryFor table "dict.update.loop" = some Builtin.«dict.update.loop»:=entryFor_of_tree (by kernel_rfl)
theorem tR:plainId "dict.update.loop" = true:=by decide +kernel
noncomputable def mP (ps:bV):List (Addr×List Int×Addr×V)->bV
 | []=>ps
 | r::L=>mP (eB ps r.2.1 r.2.2.1 r.2.2.2) L
section
variable {X:Cx}{a3A:List (Addr×Obj)}{σ:St}{A:TJ}{E:Value->SX->Prop}{d:Addr}
theorem Oa {H:Hp}{s:SX}{b:Addr}{k:List Int}{v:V}{u:Value}{ps:bV}{Q:Unit->SX->Prop}(B:A.units<Vf)(I:Inv X a3A σ H s)(e:H d=some (bL d ps))(x:dS X.K H ps)(p:SqT X.K H b (k.map V.int))(hz:ps.length<Td)(L:RelV v u)
  (h:∀ j,Inv X a3A σ (aQ H d (bL d (eB ps k b v))) j->(∀ c o,c≠d->s.heap.get? c=some o->j.heap.get? c=some o)->Q () j):TK (TH X.prog X.w) A (dictSet d (.ref b) u) Q E s:=by
 obtain ⟨z,O,M,r,l⟩:=kD I (.of e) x
 have G:(bR ps M).length<=Td:=by
  have:=congrArg Vi (oH r)
  rw [S3,S3] at this
  omega
 refine wpAny_dictSet_heap (hsz:=G) (show (Wy (X0 X.prog X.w)).room A from B) (kX I p) l fun n i a=>h _ ?_ fun c o hc e=>a.extBut c o hc e
 obtain ⟨N,K,m⟩:=DA r k b L
 rw [m] at i
 have w:∃ q,n.get? d=some q:=let ⟨q,_,_,y,_⟩:=i;⟨q,y⟩
 exact v8 I (by rw [e];exact Wa) a w (xY z (by have:=xX ps k b v;omega) K i)
end
theorem qU {K:SV}{H:Hp}{d b:Addr}{o:HO}{ps:bV}{vs:List V}(e:H d=some (bL d ps))(h:SqT K H b vs):SqT K (aQ H d o) b vs:=by
 have ne:∀ {u},H b=some u->(∀ c,u≠bL d c)->b≠d:=fun z f y=>by
  rw [y,e] at z
  cases z
  exact f ps rfl
 rcases h with (h|⟨a,h⟩)|h
 ·exact .inl (.inl (by rw [bH (ne h fun _ z=>by cases z)];exact h))
 ·exact .inl (.inr ⟨a,by rw [bH (ne h fun _ z=>by cases z)];exact h⟩)
 ·exact .inr h
theorem Ob {K:SV}{H:Hp}{ps:bV}{k:List Int}{b:Addr}{v:V}(h:dS K H ps)(i:SqT K H b (k.map V.int)):dS K H (eB ps k b v):=by
 intro p a
 unfold eB at a
 split at a
 ·obtain ⟨d,c,e⟩:=Tp.mp a
  by_cases z:d.1=k
  ·rw [if_pos z] at e
   subst e
   exact h d c
  ·rw [if_neg z] at e
   subst e
   exact h d c
 ·rcases Uj.mp a with a|a
  ·exact h p a
  ·rw [Ud.mp a]
   exact i
theorem DL {H:Hp}{d:Addr}{o a:HO}:aQ (aQ H d o) d a=aQ H d a:=by
 funext b
 unfold aQ
 split
 ·rfl
 ·rfl
theorem Oc {P:Tt}{w:TV}{A:TJ}{E:Value->SX->Prop}{s:SX}{p:Addr}{xs:Array Value}{Q:List Value->SX->Prop}(h:a3c s.heap p xs)(q:Q xs.toList s):TK (TH P w) A (Y5 (.ref p)) Q E s:=by
 obtain ⟨o,g,c,n,a⟩:=h
 have ty:s.TypeIs (.ref p) "tuple":=⟨o,g,c⟩
 unfold Y5
 refine S0 (a0Y ty ?_)
 rw [if_pos (by decide)]
 unfold seqItems?
 refine S0 (S0 (Z9 g ?_))
 rw [a]
 exact Tn (Tn q)
section
variable {X:Cx}{a3A:List (Addr×Obj)}{σ:St}{A:TJ}{d t it:Addr}{ys:List V}{R:a1j->SX->Prop}
theorem Od (hh:A.handled=none)(hu:A.in1.units<Vf):∀ (L:List (Addr×List Int×Addr×V))(i:Nat)(ps:bV)(H:Hp)(s:SX),Inv X a3A σ H s->H d=some (bL d ps)->dS X.K H ps->SqT X.K H t ys->ys.drop i=L.map (fun r=>V.ref r.1)->
  (∀ r∈L,SqT X.K H r.1 [.ref r.2.2.1,r.2.2.2]/\SqT X.K H r.2.2.1 (r.2.1.map V.int))->iA X a3A H it->s.heap.IsTupleIter it t i->ps.length+L.length<=Td->
  (∀ K,Inv X a3A σ (aQ H d (bL d (mP ps L))) K->R (.ok (.ret .none)) K)->XF (TH X.prog X.w) A (.builtin "dict.update.loop" ⟨[.ref d,.ref it,WC i,.none],[]⟩) R s:=by
 intro L
 induction L with
 | nil=>
  intro i ps H s I e T B hd E Q st Y q
  obtain ⟨h,rv,p,Z⟩:=I.tuple B
  obtain ⟨l,n,f2,v,w,y⟩:=Q
  have hl:=rv.length
  have hlen:ys.length<=i:=by
   have:=congrArg Vi hd
   simp at this
   omega
  refine WK DK ?_
  rw [VZ tR _]
  show TK _ A.in1 (YE (.ref it) >>= _) _ _ s
  refine S0 (a0Z hh st (show s.heap.IsTuple t h.toArray from p) (by simp;omega) fun M eb=>?_)
  have m:Inv X a3A σ H { s with heap:=M }:=I.turned (t':=s.toks) (fun b o N e=>eb b o N e) l n v w y
  show TK _ _ (a3k d [] >>= _) _ _ _
  refine S0 (Tn (Tn (q _ ?_)))
  have:aQ H d (bL d (mP ps []))=H:=by
   funext b
   unfold aQ
   split
   ·rename_i z;rw [z];exact e.symm
   ·rfl
  rw [this]
  exact m
 | cons r L ih=>
  intro i ps H s I e T B hd E Q st Y q
  obtain ⟨h,rv,p,Z⟩:=I.tuple B
  obtain ⟨l,n,f2,v,w,y⟩:=id Q
  have G:ys[i]? = some (.ref r.1):=by
   have:=congrArg (·[0]?) hd
   simpa using this
  obtain ⟨u,gF,ru⟩:=rv.get G
  cases ru
  refine WK DK ?_
  rw [VZ tR _]
  show TK _ A.in1 (YE (.ref it) >>= _) _ _ s
  refine S0 (a0L st (show s.heap.IsTuple t h.toArray from p) (x:=.ref r.1) (by simpa using gF) fun M st' sb=>?_)
  have m:Inv X a3A σ H { s with heap:=M }:=I.turned (t':=s.toks) (fun b o N e=>(sb.2 b N).trans e) l n v w y
  have a:=E r (TC ..)
  obtain ⟨its2,rv2,p2,_⟩:=m.tuple a.1
  cases rv2 with
  | cons rk rr=>
   cases rr with
   | cons rw' rr=>
    cases rr
    cases rk
    rename_i w0
    refine S0 (U2 (S0 (wpAny_tryCatch (Oc p2 ?_))))
    have U:ps.length<Td:=by
     rw [Tw] at Y
     omega
    refine U2 (Oa hu m e T a.2 U rw' fun K I2 kp=>?_)
    refine Tn ⟨Xm tR _,?_⟩
    have bC:it≠d:=fun z=>by
     rw [<- z,l] at e
     cases e
    have c:∀ x∈L,SqT X.K (aQ H d (bL d (eB ps r.2.1 r.2.2.1 r.2.2.2))) x.1 [.ref x.2.2.1,x.2.2.2]/\SqT X.K (aQ H d (bL d (eB ps r.2.1 r.2.2.1 r.2.2.2))) x.2.2.1 (x.2.1.map V.int):=fun x G=>
     ⟨qU e (E x (Tu _ G)).1,qU e (E x (Tu _ G)).2⟩
    have O:ys.drop (i+1)=L.map (fun r=>V.ref r.1):=by
     have:=congrArg List.tail hd
     simpa [List.tail_drop] using this
    refine ih (i+1) (eB ps r.2.1 r.2.2.1 r.2.2.2) _ K I2 cQ (Ob (fun p hp=>qU e (T p hp)) (qU e a.2)) (qU e B) O c ⟨by rw [bH bC];exact l,n,f2,v,w,y⟩ (st'.at fun o ho=>kp it o bC ho) ?_ fun s'' j=>q s'' ?_
    ·have:=xX ps r.2.1 r.2.2.1 r.2.2.2
     rw [Tw] at Y
     omega
    ·rw [DL] at j
     exact j
end
section
variable {X:Cx}
noncomputable def DM (K:SV):List V->Hp->VK->Prop:=fun xs H Q=>∃ (t:Addr)(L:List (Addr×List Int×Addr×V)),xs=[V.ref t]/\SqT K H t (L.map fun r=>V.ref r.1) /\
 (∀ r∈L,SqT K H r.1 [.ref r.2.2.1,r.2.2.2]/\SqT K H r.2.2.1 (r.2.1.map V.int))/\∀ d,H d=none->Q (.ref d) (aQ H d (bL d (mP [] L)))
theorem Oe (hc:X.calm=true)(Z:X.A.units+64<Vf):CallR X (.type "dict") (DM X.K):=by
 intro d s O H xs us Q I r h
 obtain ⟨t,L,rfl,w,N,k⟩:=h
 obtain ⟨u,rfl,ru⟩:=lN r
 cases ru
 have M:H s.heap.objs.size=none:=I.hok.fresh (Th _)
 refine callType_codes (Q₁:=fun j c=>j=.ref s.heap.objs.size/\c = { s with heap:=s.heap.push { cls:=.type "dict",data:=.dict #[] } }) F.kt_called_dict (F.kt_typeCall_dict_1 _) F.entry_dict_init (kt_code_dict_new _ ⟨rfl,rfl⟩) ?_
 rintro j c ⟨rfl,rfl⟩
 have E:Inv X d O (aQ H s.heap.objs.size (bL s.heap.objs.size [])) { s with heap:=s.heap.push { cls:=.type "dict",data:=.dict #[] } }:=I.laid (a:=s.heap.objs.size) (o:=bL s.heap.objs.size []) (t':=s.toks) (fun _ _ q=>S9 _ q) (Th _) (DB s.heap I.big)
 have ty:({ s with heap:=s.heap.push { cls:=.type "dict",data:=.dict #[] } }:SX).TypeIs (.ref s.heap.objs.size) "dict":=⟨_,TZ _ rfl,rfl⟩
 refine ⟨ty,F.args_dict_init_2 _ _,?_⟩
 unfold Builtin.«dict.__init__»
 refine S0 ?_
 unfold a3h
 refine S0 (a1x ty ?_)
 show TK _ _ (pure (s.heap.objs.size,[Tr t])) _ _ _
 refine Tn ?_
 show TK _ _ (YZ "dict.__init__" s.heap.objs.size (.ref t) [] .none) _ _ _
 unfold YZ
 have mono:∀ {b:Addr}{vs:List V},SqT X.K H b vs->SqT X.K (aQ H s.heap.objs.size (bL s.heap.objs.size [])) b vs:=fun {b vs} z=>by
  have ne:H b≠none->b≠s.heap.objs.size:=fun f y=>by rw [y] at f;exact f M
  rcases z with (z|⟨A,z⟩)|z
  ·exact .inl (.inl (by rw [bH (ne (by rw [z];exact fun y=>nomatch y))];exact z))
  ·exact .inl (.inr ⟨A,by rw [bH (ne (by rw [z];exact fun y=>nomatch y))];exact z⟩)
  ·exact .inr z
 obtain ⟨its,rv,A,G,K,n,T,U⟩:=E.tupN (mono w)
 refine S0 (a0Y ⟨A,G,K⟩ ?_)
 rw [if_pos (by decide)]
 refine S0 (N9 G K T U (I.ok.hd hc) fun v m kp=>?_)
 have l:Inv X d O (aQ H s.heap.objs.size (bL s.heap.objs.size [])) { s with heap:=v,toks:=m }:=E.kept (t':=m) kp
 show TK _ _ (rule _ >>= _) _ _ _
 refine S0 (WM ?_)
 obtain ⟨a,rv',p',x⟩:=l.tuple (mono w)
 refine S0 (a1Y (t:=t) (items:=a.toArray) (show ({ s with heap:=v,toks:=m }:SX).heap.IsTuple t a.toArray from p') ?_)
 have R:=l.kept (t':=m) (h':=v.push { cls:=.type "tuple_iterator",data:=.fields #[.ref t,.int 0 0] }) fun b o e=>S9 _ e
 refine Tn ⟨Xm tR _,?_⟩
 refine Od (A:=X.A.in1) (I.ok.hd hc) ?_ L 0 [] _ _ R cQ (fun p Y=>nomatch Y) (mono w) rfl (fun r i=>⟨mono (N r i).1,mono (N r i).2⟩) (l.fpOk (Th _) (l.hok.fresh (Th _))) ⟨_,TZ _ rfl,rfl,rfl⟩ ?_ fun s' B=>?_
 ·show X.A.units+1+1<Vf
  omega
 ·have:=x
  simp at this ⊢
  exact this
 ·rw [DL] at B
  exact ⟨rfl,.ref s.heap.objs.size,_,B,rfl,k _ M⟩
end
noncomputable def oM:List D->Option (List (List Int×D))
 | []=>some []
 | .tup [x,v]::r=>(gH x).bind fun k=>(oM r).map fun l=>(k,v)::l
 | _::_=>none
noncomputable def mQ:MF:=fun ds a=>match ds with
 | [.tup xs]=>(oM xs).map fun l=>(.loc a.length,a++[.dT (l.foldl (fun q p=>dQ q p.1 p.2) [])])
 | _=>none
section
variable {K:SV}{π:Nat->Addr}{n:Nat}{H:Hp}
noncomputable abbrev DN (K:SV)(π:Nat->Addr)(n:Nat)(H:Hp):List (Addr×List Int×Addr×V)->List (List Int×D)->Prop:=
 WO fun r p=>r.2.1=p.1/\SqT K H r.1 [.ref r.2.2.1,r.2.2.2]/\SqT K H r.2.2.1 (r.2.1.map V.int)/\IsD K π n H r.2.2.2 p.2
theorem DO:∀ {xs:List D}{ws:List V}{l:List (List Int×D)},IsDs K π n H ws xs->oM xs=some l->∃ L,ws=L.map (fun r=>V.ref r.1)/\DN K π n H L l
 | [],_,_,.nil,h=>by cases h;exact ⟨[],rfl,.nil⟩
 | x::xs,_,l,.cons i t,h=>by
  unfold oM at h
  split at h
  ·rename_i a;cases a
  ·rename_i y v r a
   cases a
   obtain ⟨k,d,h⟩:=SS.mp h
   obtain ⟨o,e,rfl⟩:=SY.mp h
   obtain ⟨L,rfl,P⟩:=DO t e
   cases i with
   | tup q z=>
    cases z with
    | cons j z=>
     cases z with
     | cons m z=>
      cases z
      obtain ⟨b,rfl,c⟩:=qS j d
      exact ⟨(_,k,b,_)::L,rfl,.cons ⟨rfl,q,c,m⟩ P⟩
  ·cases h
theorem DP:∀ {L:List (Addr×List Int×Addr×V)}{l:List (List Int×D)},DN K π n H L l->∀ {ps:bV}{kvs:List (List Int×D)},IsTs K π n H ps kvs->IsTs K π n H (mP ps L) (l.foldl (fun q p=>dQ q p.1 p.2) kvs)
 | _,_,.nil,_,_,h=>h
 | r::L,p::l,.cons e t,ps,kvs,h=>by
  obtain ⟨a,_,b,c⟩:=e
  show IsTs K π n H (mP (eB ps r.2.1 r.2.2.1 r.2.2.2) L) (l.foldl _ (dQ kvs p.1 p.2))
  rw [<- a]
  exact DP t (h.put r.2.1 b c)
end
theorem Of {K:SV}:gP K mQ (DM K):=by
 intro x H w o d s v Q R i a k
 unfold mQ at a
 split at a
 ·rename_i o
  obtain ⟨l,c,m⟩:=SY.mp a
  cases m
  cases i with
  | cons i t=>
   cases t
   cases i with
   | tup q z=>
    obtain ⟨L,rfl,P⟩:=DO z c
    refine ⟨_,L,rfl,q,?_,fun d hd=>?_⟩
    ·clear q z k a c
     induction P with
     | nil=>exact fun r b=>nomatch b
     | cons e t n=>
      intro r b
      rcases TN.mp b with rfl|b
      ·exact ⟨e.2.1,e.2.2.1⟩
      ·exact n r b
    ·have T:=DP P (ps:=[]) (kvs:=[]) .nil
     obtain ⟨j,h,u⟩:=R.alloc (c:=.dT (l.foldl (fun q p=>dQ q p.1 p.2) [])) (o:=bL d (mP [] L)) hd ⟨_,rfl,T.to.1,T.to.2.1,T.to.2.2⟩
     exact k _ _ _ j h nI
 ·cases a
end L3
namespace L3
open PySem L2
noncomputable def ItI (h:Uw)(c d S:Addr)(i n ep:Nat):Prop:=∃ (b ok j:Value)(e:Bool),h.get? c=some { cls:=.type "dict_itemiterator",dict:=none,data:=.fields #[b,.bool e,.ref d,.int i 0,.int n 0,.int ep 0,ok,j],slots:=#[] } /\
 (b=.none\/∃ (a:Addr)(o:Obj),b=WC a/\h.get? a=some o/\a≠c/\a≠S)
theorem ItI.ty {s:SX}{a d S:Addr} {i n ep} (j:ItI s.heap a d S i n ep):s.TypeIs (.ref a) "dict_itemiterator":=let ⟨_,_,_,_,e,_⟩:=j;⟨_,e,rfl⟩
theorem ItI.stay {h h':Uw}{c d S:Addr} {i n ep} (j:ItI h c d S i n ep)(p:c≠S)(k:∀ b o,b≠S->h.get? b=some o->h'.get? b=some o):ItI h' c d S i n ep:=by
 obtain ⟨w,ok,q,m,e,r⟩:=j
 refine ⟨w,ok,q,m,k _ _ p e,?_⟩
 rcases r with r|⟨a,o,s,u,v,l⟩
 ·exact .inl r
 ·exact .inr ⟨a,o,s,k _ _ l u,v,l⟩
section
variable {P:Tt}{w:TV}{A:TJ}{E:Value->SX->Prop}{s:SX}{d it S:Addr}{i ep:Nat}{es:Array U5}
theorem DQ {Q:Option Value->SX->Prop}(hh:A.handled=none)(j:ItI s.heap it d S i es.size ep)(g:RawD s.heap d es ep)(hS:S<s.heap.objs.size)
  (q1:∀ e m,es[i]? = some e->ItI m it d S (i+1) es.size ep->m.get? s.heap.objs.size=some { cls:=.type "tuple",data:=.seq #[e.key,e.val] }->m.objs.size=s.heap.objs.size+1->(∀ b o,b≠it->s.heap.get? b=some o->m.get? b=some o)->Q (some (.ref s.heap.objs.size)) { s with heap:=m })
  (q2:es[i]? = none->∀ m,a0y it s.heap m->Q none { s with heap:=m }):TK (TH P w) A (YE (.ref it)) Q E s:=by
 obtain ⟨z,g1,g2,g3⟩:=id g
 have ty:=j.ty
 obtain ⟨h,y,r,G,B⟩:=s
 obtain ⟨wn,ok,N,T,M,jr⟩:=j
 have X:∀ {Q:String->SX->Prop}{A:TJ}{E:Value->SX->Prop},Q "dict_itemiterator" ⟨h,y,r,G,B⟩->TK (TH P w) A (typeNameOfWhole (.ref it)) Q E ⟨h,y,r,G,B⟩:=fun q=>wpAny_typeNameOfWhole_itemiter ty q
 unfold YE
 refine S0 (wpAny_attempt (wpAny_callSpecial?_slot (name:=Tj "__next__") ty F.slot_dict_itemiterator_next (Ye F.slot_dict_itemiterator_next ty F.entry_dict_itemiterator_next ?_ (F.args_dict_itemiterator_next_1 _))))
 refine S0 (Tn (S0 (S0 (S0 (X (Tn (S0 (wpAny_fieldsOf M rfl ?_))))))))
 simp only [show X1 "dict_itemiterator" = true by decide,if_true]
 show TK _ _ (if (Tr d == UE)=true then _ else _) _ _ _
 rw [if_neg (show ¬ (Tr d == UE)=true from fun x=>UN x)]
 refine S0 (Tn (S0 (Zk g1 g3 ?_)))
 rw [if_neg (fun x=>by simp at x)]
 refine S0 (Tn (S0 (a2M g1 g3 ?_)))
 rw [if_neg (fun x=>by simp at x)]
 refine Tn ?_
 simp only [if_neg (show ¬ ((i:Int)<0) by omega),WS]
 have U:it<h.objs.size:=Tg M
 cases he:es[i]? with
 | some e=>
  refine S0 (S0 (X (Tn (S0 (Yo ty ?_)))))
  show TK _ _ (a3p (.ref it) 3 (WC ((i:Int)+1)) >>= _) _ _ _
  refine S0 (We M (by simp) fun u O R=>?_)
  replace R:Xq it h u:=R
  replace O:u.get? it=some { cls:=.type "dict_itemiterator",dict:=none,data:=.fields #[wn,.bool T,.ref d,.int ((i+1:Nat):Int) 0,.int es.size 0,.int ep 0,ok,N],slots:=#[] }:=by
   rw [show ((i+1:Nat):Int)=(i:Int)+1 by omega]
   simpa [WC] using O
  have H:Shared.TypeIs ⟨u,y,r,G,B⟩ (.ref it) "dict_itemiterator":=⟨_,O,rfl⟩
  refine S0 (U2 (S0 (Yo H (S0 (Yo H ?_)))))
  show TK _ _ (XO (.ref it) 6 e.key e.val) _ _ _
  unfold XO
  refine S0 (Z7 ?_)
  have zu:u.objs.size=h.objs.size:=R.1
  have l:=S9 { cls:=.type "tuple",data:=.seq #[e.key,e.val] } O
  have vt:(u.push { cls:=.type "tuple",data:=.seq #[e.key,e.val] }).get? h.objs.size=some { cls:=.type "tuple",data:=.seq #[e.key,e.val] }:=zu ▸ TZ u rfl
  have vz:(u.push { cls:=.type "tuple",data:=.seq #[e.key,e.val] }).objs.size=h.objs.size+1:=by rw [ZD,zu]
  have I:∀ b o,b≠it->h.get? b=some o->(u.push { cls:=.type "tuple",data:=.seq #[e.key,e.val] }).get? b=some o:=fun b o L x=>S9 _ (R.extBut b o L x)
  show TK _ _ (XB (.ref it) >>= _) _ _ ⟨u.push { cls:=.type "tuple",data:=.seq #[e.key,e.val] },y,r,G,B⟩
  rw [zu]
  generalize u.push { cls:=.type "tuple",data:=.seq #[e.key,e.val] } = v at l vt vz I
  have c:h.objs.size≠it:=VP U
  have fin:∀ p:Uw,ItI p it d S (i+1) es.size ep->Xq it v p->Q (some (.ref h.objs.size)) ⟨p,y,r,G,B⟩:=fun p j' Z=>
   q1 e p he j' (Z.extBut _ _ c vt) (by show p.objs.size=_;rw [Z.1,vz]) fun b o L x=>Z.extBut b o L (I b o L x)
  refine S0 ?_
  unfold XB
  rcases jr with rfl|⟨a,o,rfl,Y,n,r4⟩
  ·refine S0 (Wx l rfl (x:=.none) rfl (Tn ?_))
   simp only [if_true]
   refine S0 (Wx l rfl (x:=ok) rfl (S0 (Wx l rfl (x:=N) rfl ?_)))
   refine S0 (We l (by simp) fun v3 x3 K=>S0 (We x3 (by simp) fun v4 x4 y4=>S0 (We x4 (by simp) fun v5 x5 y5=>S0 (We x5 (by simp) fun v6 x6 y6=>?_))))
   refine S0 (wpAny_letGo (Tn (Tn ⟨_,rfl,Tn (fin v6 ?_ ?_)⟩)))
   ·refine ⟨WC h.objs.size,e.key,e.val,false,by simpa using x6,.inr ⟨h.objs.size,_,rfl,y6.extBut _ _ c (y5.extBut _ _ c (y4.extBut _ _ c (K.extBut _ _ c vt))),c,VP hS⟩⟩
   ·exact ((K.trans y4).trans y5).trans y6
  ·refine S0 (Wx l rfl (x:=WC a) rfl ?_)
   show TK _ _ (loadIfAlive ((a:Int).toNat) >>= _) _ _ _
   rw [WS]
   refine S0 (PySem.W.kdx_alive (I a o n Y) ?_)
   simp only [Option.isNone_some,S6,if_false]
   refine S0 (Wx l rfl (x:=.bool T) rfl ?_)
   cases T with
   | true=>
    rw [if_neg (show ¬ ((Tx true != Tx true)=true) from fun x=>UN x)]
    refine Tn ?_
    simp only [S6,if_false]
    exact Tn (Tn ⟨_,rfl,Tn (fin v ⟨_,ok,N,true,l,.inr ⟨a,o,rfl,I a o n Y,n,r4⟩⟩ (ZP _ _))⟩)
   | false=>
    rw [if_pos (show (Tx false != Tx true)=true from rfl)]
    refine S0 (We l (by simp) fun v3 x3 K=>Tn ?_)
    simp only [S6,if_false]
    exact Tn (Tn ⟨_,rfl,Tn (fin v3 ⟨_,ok,N,true,by simpa using x3,.inr ⟨a,o,rfl,K.extBut a o n (I a o n Y),n,r4⟩⟩ K)⟩)
 | none=>
  refine S0 (S0 (X (Tn ?_)))
  show TK _ _ (a3p (.ref it) 2 .none >>= _) _ _ _
  refine S0 (YD M rfl (by simp) ?_)
  show TK _ _ (newExc (.type "StopIteration") [] >>= _) _ _ _
  simp only [newExc,newTuple]
  refine S0 (S0 (V5 ?_ (by size_fits)))
  refine S0 (m:=a3v _ _) (wpAny_of_eq (a:=UE) (by first|rfl|(simp only [a3v];rfl)) (V5 ?_ (by size_fits)))
  simp only [raiseNew]
  refine S0 (wpAny_handled ?_)
  rw [show A.in1.handled=none from hh]
  refine S0 (Tn (wpAny_throw ?thrown))
  case thrown=>exact S0 (wpAny_isInstance (T:="StopIteration") (b:=true) ⟨_,TZ _ rfl,rfl⟩ isSubtype_stop (Tn (q2 he _ (((a3f ..).extBut.push _).push _))))
theorem Og {r:Addr}{Q:Value->SX->Prop}(a:s.heap.IsItemsView r d)(g:RawD s.heap d es ep)
  (q:Q (.ref s.heap.objs.size) { s with heap:=s.heap.push { cls:=.type "dict_itemiterator",data:=.fields #[.none,.bool false,.ref d,.int 0 0,.int es.size 0,.int ep 0,.none,.none] } }):TK (TH P w) A (a1e (.ref r)) Q E s:=by
 obtain ⟨y,e,l,h⟩:=id a
 obtain ⟨z,b,j,c⟩:=id g
 refine wpAny_pyIter_slot a.typeIs F.slot_dict_items_iter (Ye F.slot_dict_items_iter a.typeIs F.entry_dict_items_iter ?_ (F.args_dict_items_iter_1 _))
 unfold Builtin.«dict_items.__iter__» a1H a1G
 refine S0 (Tn (S0 (S0 (Wx e h (x:=.ref d) rfl (Tn (S0 (S0 (Zk b c (S0 (a2M b c ?_))))))))))
 simp only [show X1 "dict_itemiterator" = true by decide,if_true]
 refine V5 (Tn ⟨_,rfl,"dict_itemiterator",_,⟨_,TZ _ rfl,rfl⟩,F.slot_dict_itemiterator_next.lookup,?_⟩) (by simp only [sizeOk,XC,S5,Te,Tw,VH];rw [TM];omega)
 simpa [WC,XC] using q
end
structure PrsAt (es:Array U5)(lo:Addr)(h:Uw)(as:List Addr):Prop where
 up:as.Pairwise (·<·)
 over:∀ a∈as,lo<a
 prs:∀ (j:Nat)(a:Addr),as[j]? = some a->∃ e,es[j]? = some e/\h.get? a=some { cls:=.type "tuple",data:=.seq #[e.key,e.val] }
theorem PrsAt.stay {es:Array U5}{lo:Addr}{h h':Uw}{as:List Addr}(p:PrsAt es lo h as)(k:∀ b o,lo<b->h.get? b=some o->h'.get? b=some o):PrsAt es lo h' as:=
 ⟨p.up,p.over,fun j a c=>let ⟨e,d,i⟩:=p.prs j a c;⟨e,d,k a _ (p.over a (TQ c)) i⟩⟩
theorem PrsAt.lt {es:Array U5}{lo:Addr}{h:Uw}{as:List Addr}(p:PrsAt es lo h as){a:Addr}(b:a∈as):a<h.objs.size:=by
 obtain ⟨j,c⟩:=WV.mp b
 obtain ⟨_,_,e⟩:=p.prs j a c
 exact Tg e
theorem PrsAt.snoc {es:Array U5}{lo:Addr}{h:Uw}{as:List Addr}{b:Addr}{e:U5}(p:PrsAt es lo h as)(m:∀ a∈as,a<b)(o:lo<b)(n:es[as.length]? = some e)(q:h.get? b=some { cls:=.type "tuple",data:=.seq #[e.key,e.val] }):PrsAt es lo h (as++[b]):=by
 refine ⟨UX.mpr ⟨p.up,Z0 _ _,fun a d c hc=>by rw [Ud.mp hc];exact m a d⟩,fun a d=>?_,fun j a i=>?_⟩
 ·rcases Uj.mp d with d|d
  ·exact p.over a d
  ·rw [Ud.mp d];exact o
 ·rcases WR j as.length with l|l|l
  ·rw [Ti l] at i
   exact p.prs j a i
  ·subst l
   have:b=a:=by simpa using i
   subst this
   exact ⟨e,n,q⟩
  ·rw [Vb (by simp;omega)] at i
   cases i
section
variable {P:Tt}{w:TV}{A:TJ}{s:SX}{R:a1j->SX->Prop}{es:Array U5}{ep:Nat}{S I d:Addr}
theorem Oh (T:A.handled=none)(y:S<I)(L:d≠S)(K:d≠I)(hn:es.size<=Td)(res:Value){h1:Uw}
  (U:∀ (h':Uw)(tk:Nat)(l:Array Value)(c:Nat)(as:List Addr),(∀ b o,b≠S->b≠I->h1.get? b=some o->h'.get? b=some o)->h'.get? S=some { cls:=.type "list",dict:=none,data:=.seq l c,slots:=#[] }->as.length=es.size->PrsAt es I h' as->l.toList=as.map Tr->R (.ok (.ret res)) { s with heap:=h',toks:=tk }) :
  ∀ (k i:Nat)(h:Uw)(tk c:Nat)(l:Array Value)(as:List Addr),es.size - i=k->i<=es.size->ItI h I d S i es.size ep->RawD h d es ep->(∀ b o,b≠S->b≠I->h1.get? b=some o->h.get? b=some o)->h.get? S=some { cls:=.type "list",dict:=none,data:=.seq l c,slots:=#[] }->
   l.toList=as.map Tr->as.length=i->PrsAt es I h as->I<h.objs.size->XF (TH P w) A (.builtin "list.extend.loop" ⟨[.ref S,.ref I,res],[]⟩) R { s with heap:=h,toks:=tk }:=by
 have ne:S≠I:=TL y
 intro k
 induction k with
 | zero=>
  intro i h tk c l as Y X j g O p G B H lt
  refine WK F.entry_extend_loop ?_
  rw [VZ F.plain_extend_loop _]
  refine S0 (m:=YE (.ref I)) (DQ (s:={ s with heap:=h,toks:=tk }) (A:=A.in1) T j g (Tg p) (fun e h' n=>?_) fun _ h' x=>Tn (U h' tk l c as (fun b o E u z=>x b o u (O b o E u z)) (x S _ ne p) (by omega) (H.stay fun b o q z=>x b o (VP q) z) G))
  rw [Array.getElem?_eq_none (by omega)] at n
  cases n
 | succ k ih=>
  intro i h tk c l as Y X j g O p G B H lt
  have sz:l.size=i:=by rw [<- Xe,G,S3,B]
  refine WK F.entry_extend_loop ?_
  rw [VZ F.plain_extend_loop _]
  refine S0 (m:=YE (.ref I)) (DQ (s:={ s with heap:=h,toks:=tk }) (A:=A.in1) T j g (Tg p) (fun e h' n j' N Z m=>?_) fun n=>?_)
  ·dsimp only at N Z m ⊢
   have v:=m S _ ne p
   have Q:S<h.objs.size:=Tg p
   have r:∀ b o,b≠S->h'.get? b=some o->(h'.update S (VI (·.push (Tr h.objs.size)))).get? b=some o:=fun b o q z=>(UM _ _ (UH q)).trans z
   refine S0 (m:=updateSeq S (·.push (Tr h.objs.size))) (ZX v rfl (Tn ⟨Xm F.plain_extend_loop _,?_⟩) (by rw [sz];omega) (by show (l.push (Tr h.objs.size)).size<=Td+1;rw [Array.size_push,sz];omega))
   refine ih (i+1) _ tk _ (l.push (Tr h.objs.size)) (as++[h.objs.size]) (by omega) (by omega) (j'.stay (UH ne) r) (g.stay fun o z=>r d o L (m d o K z)) (fun b o E u z=>r b o E (m b o u (O b o E u z))) (VW _ v rfl) (by rw [U8,G,UI];rfl) (by rw [Te,B];rfl) ?_ ?_
   ·exact ((H.stay fun b o q z=>r b o (VP (Wt y q)) (m b o (VP q) z))).snoc (fun a M=>H.lt M) lt (by rw [B];exact n) (r _ _ (VP Q) N)
   ·exact Wt lt (Tg (r _ _ (VP Q) N))
  ·rw [ZF (by omega)] at n
   cases n
theorem Oi {r:Addr}{res:Value}{c0:Nat}(L:A.handled=none)(u:s.heap.IsItemsView r d)(g:RawD s.heap d es ep)(Sr:S≠r)(z:d≠S)(E:s.heap.get? S=some { cls:=.type "list",data:=.seq #[] c0 }) (N:es.size<=Td)
  (H:∀ (h':Uw)(tk:Nat)(l:Array Value)(c:Nat)(as:List Addr),(∀ b o,b≠S->s.heap.get? b=some o->h'.get? b=some o)->h'.get? S=some { cls:=.type "list",dict:=none,data:=.seq l c,slots:=#[] }->as.length=es.size->PrsAt es s.heap.objs.size h' as->l.toList=as.map Tr->R (.ok (.ret res)) { s with heap:=h',toks:=tk }) :
  TK (TH P w) A.in1 (YB (.ref S) (.ref r) res) (fun fin p=>match fin with|.done f=>R (.ok f) p|.again c'=>c'.quiet=true/\XF (TH P w) A c' R p) (fun e p=>R (.error e) p) s:=by
 have y:S<s.heap.objs.size:=Tg E
 have G:d<s.heap.objs.size:=g.lt
 have run:∀ (h:Uw)(q tk:Nat),(∀ b o,b≠S->(s.heap.push { cls:=.type "dict_itemiterator",data:=.fields #[.none,.bool false,.ref d,.int 0 0,.int es.size 0,.int ep 0,.none,.none] }).get? b=some o->h.get? b=some o)->h.get? S=some { cls:=.type "list",data:=.seq #[] q }->
   XF (TH P w) A (.builtin "list.extend.loop" ⟨[.ref S,.ref s.heap.objs.size,res],[]⟩) R { s with heap:=h,toks:=tk }:=by
  intro h q tk v i
  have B:=v s.heap.objs.size _ (VP y) (TZ _ rfl)
  exact Oh (s:=s) (h1:=s.heap) (ep:=ep) L y z (TL G) N res (fun h' x l c as Q T U X Y=>H h' x l c as (fun b o m e=>Q b o m (TL (Tg e)) e) T U X Y) es.size 0 h tk q #[] [] (a0k _) (UD _)
   ⟨.none,.none,.none,false,B,.inl rfl⟩ (g.stay fun o e=>v d o z (S9 _ e)) (fun b o m _ e=>v b o m (S9 _ e)) i rfl rfl ⟨X8,fun _ K=>(by cases K),fun j a M=>(by simp at M)⟩ (Tg B)
 unfold YB
 refine S0 (a0Y (T:="dict_items") u.typeIs ?_)
 simp only [show YQ (.ref S) (.ref r)=false by simp [YQ,Sr],show (SU "dict_items" == SU "list")=false by decide,show (SU "dict_items" == SU "tuple")=false by decide,ZW,S6,if_false]
 refine S0 (Og u g ?_)
 have i:=S9 { cls:=.type "dict_itemiterator",data:=.fields #[.none,.bool false,.ref d,.int 0 0,.int es.size 0,.int ep 0,.none,.none] } E
 refine S0 (U2 (PySem.W.kdx_hint (let ⟨o,O,hc,_⟩:=u;⟨o,S9 _ O,hc⟩) ?_))
 refine wpAny_ite_split (fun _=>?_) (fun _=>Tn ⟨Xm F.plain_extend_loop _,run _ c0 _ (fun b o _ e=>e) i⟩)
 refine S0 (WM (S0 ?_))
 refine S0 (m:=updateSeq S (·.push .none)) (ZX i rfl ?_)
 have n:=VW (VI (·.push UE)) i rfl
 refine ZX (hz:=by seq_fits) n rfl (Tn ⟨Xm F.plain_extend_loop _,run _ _ _ (fun b o m e=>?_) (VW (VI (·.pop)) n rfl)⟩)
 exact (UM _ _ (UH m)).trans ((UM _ _ (UH m)).trans e)
theorem Oj {r:Addr}{E:Value->SX->Prop}{T:List Value->SX->Prop}(H:A.handled=none)(v:s.heap.IsItemsView r d)(g:RawD s.heap d es ep)(K:es.size<=Td)
  (q:∀ (h':Uw)(tk:Nat)(as:List Addr),(∀ b o,s.heap.get? b=some o->h'.get? b=some o)->as.length=es.size->PrsAt es s.heap.objs.size h' as->s.heap.objs.size<=h'.objs.size->T (as.map Tr) { s with heap:=h',toks:=tk }):TK (TH P w) A (collect (.ref r)) T E s:=by
 have L:r<s.heap.objs.size:=let ⟨_,p,_⟩:=v;Tg p
 unfold collect
 refine S0 (wpAny_runValue (WK a2X ?_))
 rw [VZ F.plain_proto_collect _]
 refine S0 (m:=newList []) (V5 (Tn ⟨Xm F.plain_list_iadd _,WK a2Y ?_⟩))
 rw [VZ F.plain_list_iadd _]
 have B:(s.heap.push { cls:=.type "list",data:=.seq ([]:List Value).toArray }).get? s.heap.objs.size=some { cls:=.type "list",data:=.seq #[] }:=TZ _ rfl
 have all:=Oi (A:=A) (s:={ s with heap:=s.heap.push { cls:=.type "list",data:=.seq ([]:List Value).toArray } }) (P:=P) (w:=w) (es:=es) (ep:=ep) (res:=.ref s.heap.objs.size) (c0:=0)
  (R:=fun (q:a1j)(u:SX)=>∃ (h':Uw)(tk:Nat)(h:Array Value)(c:Nat)(as:List Addr),q=.ok (.ret (.ref s.heap.objs.size))/\u = { s with heap:=h',toks:=tk }/\(∀ b o,s.heap.get? b=some o->h'.get? b=some o)/\h'.get? s.heap.objs.size=some { cls:=.type "list",dict:=none,data:=.seq h c,slots:=#[] }/\as.length=es.size/\PrsAt es s.heap.objs.size h' as/\h.toList=as.map Tr)
  H (let ⟨o,p,x⟩:=v;⟨o,S9 _ p,x⟩) (g.stay fun o e=>S9 _ e) (VP L) (TL g.lt) B K
  (fun h' tk h c as l i m j n=>⟨h',tk,h,c,as,rfl,rfl,fun b o e=>l b o (TL (Tg e)) (S9 _ e),i,m,⟨j.up,fun a G=>Wt (Za _) (by have:=j.over a G;rw [ZD] at this;exact this),j.prs⟩,n⟩)
 refine T9 all (fun fin u x=>?_) fun e u x=>?_
 ·cases fin with
  | done f=>
   obtain ⟨h',tk,h,c,as,e,rfl,l,i,m,j,n⟩:=x
   cases e
   refine S0 (m:=load s.heap.objs.size) (Z9 i (Tn ?_))
   show T h.toList _
   rw [n]
   exact q h' tk as l m j (Xs (Tg i))
  | again M=>
   refine ⟨x.1,XE x.2 fun y N x=>?_⟩
   obtain ⟨h',tk,h,c,as,rfl,rfl,l,i,m,j,n⟩:=x
   refine S0 (m:=load s.heap.objs.size) (Z9 i (Tn ?_))
   show T h.toList _
   rw [n]
   exact q h' tk as l m j (Xs (Tg i))
 ·obtain ⟨_,_,_,_,_,z,_⟩:=x
  cases z
end
end L3
namespace L3
open PySem L2 PySem.W PyProof.Rows
section
variable {P:Tt}{w:TV}{A:TJ}{E:Value->SX->Prop}{s:SX}
theorem Ol {v:Value}{Q:Bool->SX->Prop}(q:Q true s):TK (TH P w) A (eqBool v v) Q E s:=by
 unfold eqBool
 refine U2 ?_
 rw [if_pos (by simp)]
 exact S0 (WM (Tn q))
theorem DR:∀ k:List Int,HT.lexLt k k=false
 | []=>rfl
 | a::k=>by simp [HT.lexLt,DR k]
noncomputable def tS (P:Tt)(w:TV)(h:Uw)(b:Addr)(k:List Int):Prop:=Tb.IsT P w h k b/\∃ xs:List Value,a3c h b xs.toArray/\WL xs k
theorem Om {a h b i:Addr}{v m:Value}{k k':List Int}{C:Bool->SX->Prop}(l:A.units<Vf)(n:s.heap.get? a=some { cls:=.type "tuple",data:=.seq #[.ref b,v] }) (d:s.heap.get? h=some { cls:=.type "tuple",data:=.seq #[.ref i,m] })
  (j:tS P w s.heap b k)(c:tS P w s.heap i k')(o:k=k'->v=m)(q:C (HT.lexLt k k') s):TK (TH P w) A (a3t (tuples' false) (.ref a) (.ref h)) C (fun _ _=>False) s:=by
 refine kat_lt n rfl d rfl ?_
 refine kat_cons ((Wy (X0 P w)).eqBool l j.1 c.1 ?_)
 by_cases e:k=k'
 ·obtain rfl:=o e
  subst e
  rw [decide_eq_true rfl]
  refine kat_yes (kat_cons (Ol (kat_yes (kat_nil ?_))))
  rw [DR] at q
  exact q
 ·rw [decide_eq_false e]
  obtain ⟨y,u,p⟩:=j.2
  obtain ⟨z,x,r⟩:=c.2
  refine kat_no (kat_one _ _ (HT.lt_tupInts u x (by simpa using p) (by simpa using r) l ?_))
  exact q
noncomputable def qV (P:Tt)(w:TV)(A:TJ)(us:List Value)(an:Nat->Nat->Bool)(s:SX):Prop:=
 TK (TH P w) A (keyKind' us.toArray) (fun b a=>a=s/\∀ (i j:Nat)(C:Bool->SX->Prop),i<us.length->j<us.length->C (an i j) s->TK (TH P w) A (a3t b (us.getD i .none) (us.getD j .none)) C (fun _ _=>False) s) (fun _ _=>False) s
theorem Oo {es:Array U5}{lo:Addr}{as bs:List Addr}{ks:List (List Int)}(hu:A.units<Vf)(p:PrsAt es lo s.heap as)(h0:0<as.length)(hl:as.length=es.size)(hk:ks.length=es.size)(hbl:bs.length=es.size)(key:∀ (j:Nat)(e:U5),es[j]? = some e->e.key=.ref (bs.getD j 0)/\tS P w s.heap (bs.getD j 0) (ks.getD j []))
  (O:ks.Nodup):qV P w A (as.map Tr) (fun i j=>HT.lexLt (ks.getD i []) (ks.getD j [])) s:=by
 have l:∀ i,i<as.length->∃ (e:U5),es[i]? = some e/\s.heap.get? (as.getD i 0)=some { cls:=.type "tuple",data:=.seq #[.ref (bs.getD i 0),e.val] }/\tS P w s.heap (bs.getD i 0) (ks.getD i []):=fun i d=>by
  have R:as[i]? = some (as.getD i 0):=by simp [Vj,d]
  obtain ⟨e,B,r⟩:=p.prs i _ R
  obtain ⟨k1,G⟩:=key i e B
  rw [k1] at r
  exact ⟨e,B,r,G⟩
 unfold qV
 have u:KatTups s.heap (as.map Tr) (bs.map Tr):=by
  have go:∀ (n:Nat)(a c:List Addr),a.length=n->c.length=n->(∀ i,i<n->∃ v:Value,s.heap.get? (a.getD i 0)=some { cls:=.type "tuple",data:=.seq #[.ref (c.getD i 0),v] })->KatTups s.heap (a.map Tr) (c.map Tr):=by
   intro n
   induction n with
   | zero=>
    intro a c m q _
    rw [Vh.mp m,Vh.mp q]
    exact .nil
   | succ n ih=>
    intro a c m q N
    match a,c,m,q with
    | x::a,y::c,m,q=>
     obtain ⟨v,L⟩:=N 0 (by omega)
     refine .cons L rfl rfl (by simp) (ih a c (by simpa using m) (by simpa using q) fun i d=>?_)
     have:=N (i+1) (by omega)
     simpa using this
  refine go as.length as bs rfl (by omega) fun i d=>?_
  obtain ⟨e,_,r,_⟩:=l i d
  exact ⟨_,r⟩
 refine kat_kind (T:=.type "tuple") u (by rw [S3];omega) (fun v L=>?_) (by decide) ⟨rfl,fun i j C d K Z=>?_⟩
 ·obtain ⟨b,hb,rfl⟩:=Tp.mp L
  obtain ⟨i,d⟩:=WV.mp hb
  have H:i<as.length:=by
   have:=(S2.mp d).1
   omega
  obtain ⟨e,_,_,G⟩:=l i H
  have:bs.getD i 0=b:=by simp [Vj,d]
  rw [this] at G
  obtain ⟨xs,⟨o,o1,o2,_⟩,_⟩:=G.2
  exact kitAt_ty _ _ ⟨o,o1,o2⟩
 ·rw [S3] at d K
  obtain ⟨e,B,r,Q⟩:=l i d
  obtain ⟨e',M,T,U⟩:=l j K
  have X:(as.map Tr).getD i .none=.ref (as.getD i 0):=by simp [Vj,d]
  have Y:(as.map Tr).getD j .none=.ref (as.getD j 0):=by simp [Vj,K]
  rw [X,Y]
  refine Om hu r T Q U (fun z=>?_) Z
  have I:i=j:=by
   have m:ks.getD i []=ks[i]:=by simp [Vj,show i<ks.length by omega]
   have q:ks.getD j []=ks[j]:=by simp [Vj,show j<ks.length by omega]
   rw [m,q] at z
   rcases WR i j with h|h|h
   ·exact absurd z ((Up.mp O) i j (by omega) (by omega) h)
   ·exact h
   ·exact absurd z.symm ((Up.mp O) j i (by omega) (by omega) h)
  subst I
  rw [B] at M
  cases M
  rfl
end
end L3
namespace L3
open PySem L2 PySem.W PyProof.Rows
section
variable {P:Tt}{w:TV}{A:TJ}{E:Value->SX->Prop}{s:SX}
end
end L3
namespace L3
open PySem L2 PySem.W PyProof.Rows
section
variable {P:Tt}{w:TV}{A:TJ}{E:Value->SX->Prop}{s:SX}
open Classical in
noncomputable def fE (us:List Value)(v:Value):Nat:=if h:∃ i,us[i]? = some v then h.choose else 0
theorem tT {us:List Value}(m:us.Nodup){i:Nat}{v:Value}(h:us[i]? = some v):fE us v=i:=by
 unfold fE
 have b:∃ i,us[i]? = some v:=⟨i,h⟩
 rw [dif_pos b]
 have l:=b.choose_spec
 obtain ⟨e,c⟩:=S2.mp h
 obtain ⟨j,d⟩:=S2.mp l
 have:=Up.mp m
 rcases WR i b.choose with a|a|a
 ·exact absurd (c.trans d.symm) (this _ _ e j a)
 ·exact a.symm
 ·exact absurd (d.trans c.symm) (this _ _ j e a)
theorem Oq {Z:Type}{lt:Z->Z->Bool}(O:Ord1 lt)(d:Z){ks:List Z}{c:Addr}{us:List Value}{z:Nat}{R:a2R->SX->Prop}(hk:ks.length=us.length)(nk:ks.Nodup)(Y:us.Nodup)(h2:2<=us.length)(hz:us.length<=Td)(g:s.heap.get? c=some (VE "list" us.toArray z))
  (H:∀ X:Uw,(∀ b o,b≠c->s.heap.get? b=some o->X.get? b=some o)->qV P w A us (fun i j=>lt (ks.getD i d) (ks.getD j d)) { s with heap:=X })
  (q:R (.done (.ret .none)) { s with heap:=Y6 s.heap c us ((dE (fun i j=>lt (ks.getD i d) (ks.getD j d)) us.length).map fun i=>us.getD i UE).toArray }):TK (TH P w) A (Builtin.«list.sort» ⟨[.ref c],[]⟩) R E s:=by
 have u:∀ i,i<us.length->ks.getD i d∈ks:=fun i l=>by
  rw [Tz,S1 (by omega)]
  exact VA _
 have kn:∀ i j,i<us.length->j<us.length->i≠j->ks.getD i d≠ks.getD j d:=fun i j l G M=>by
  rw [Tz,Tz,S1 (by omega),S1 (by omega)]
  have:=Up.mp nk
  rcases Nat.lt_or_gt_of_ne M with h|h
  ·exact this i j (by omega) (by omega) h
  ·exact (this j i (by omega) (by omega) h).symm
 have r:∀ v∈us,∃ i,i<us.length/\us[i]? = some v/\fE us v=i:=fun v Q=>by
  obtain ⟨i,l⟩:=Wl Q
  exact ⟨i,(S2.mp l).1,l,tT Y l⟩
 refine Nv (rk:=fun v=>i8 lt ks (ks.getD (fE us v) d)) ?_ h2 hz g (fun X kp=>?_) fun m o1 o2=>?_
 ·refine Up.mpr fun i j l G M=>?_
  rw [tT Y (S1 l),tT Y (S1 G)]
  exact Di O (u i l) (u j G) (kn i j l G (by omega))
 ·have a:=H X kp
  unfold qV at a
  unfold C1
  refine T9 a (fun κ s' hq=>?_) fun _ _ x=>x
  obtain ⟨e,hq⟩:=hq
  refine ⟨e,fun x y C hx hy hC=>?_⟩
  obtain ⟨i,B,U,L⟩:=r x hx
  obtain ⟨j,I,gj,ej⟩:=r y hy
  dsimp only at hC
  rw [L,ej,<- tJ O (u i B) (u j I)] at hC
  have:=hq i j C B I hC
  have e1:us.getD i .none=x:=by rw [Tz,U];rfl
  have K:us.getD j .none=y:=by rw [Tz,gj];rfl
  rw [e1,K] at this
  exact this
 ·have N:∀ i∈dE (fun i j=>lt (ks.getD i d) (ks.getD j d)) us.length,i<us.length:=fun i l=>Vc.mp ((i5 _ _).mem_iff.mp l)
  have hgd:∀ i,i<us.length->us[i]? = some (us.getD i .none):=fun i l=>by
   rw [Tz,S1 l];rfl
  have e:m=(dE (fun i j=>lt (ks.getD i d) (ks.getD j d)) us.length).map fun i=>us.getD i UE:=by
   have hm:∀ v∈m,v∈us:=fun v Q=>o1.mem_iff.mp Q
      -- the places of what came m
   have p:m.map (fE us)=dE (fun i j=>lt (ks.getD i d) (ks.getD j d)) us.length:=by
    have n:(m.map (fE us)).Perm (Ur us.length):=by
     refine (o1.map (fE us)).trans ?_
     have:us.map (fE us)=Ur us.length:=by
      apply XJ
      intro i
      rw [Uo]
      by_cases l:i<us.length
      ·rw [S1 l,a0I l]
       exact congrArg some (tT Y (S1 l))
      ·rw [Vb (by omega),Vb (by simp;omega)]
       rfl
     rw [this]
    have s1:(m.map (fE us)).Pairwise fun i j=>lt (ks.getD i d) (ks.getD j d)=true:=by
     rw [UL]
     have T:(m.map (fE us)).Nodup:=n.nodup_iff.mpr XW
     unfold a0X at T
     rw [UL] at T
     refine Xb (R:=fun x y=>i8 lt ks (ks.getD (fE us x) d)<=i8 lt ks (ks.getD (fE us y) d)/\fE us x≠fE us y) (fun {x y} hx hy h=>?_) (o2.and T)
     obtain ⟨i,B,U,L⟩:=r x (hm x hx)
     obtain ⟨j,I,gj,ej⟩:=r y (hm y hy)
     rw [L,ej] at h ⊢
     rw [tJ O (u i B) (u j I),decide_eq_true_eq]
     have:=Di O (u i B) (u j I) (kn i j B I h.2)
     have:=h.1
     omega
    have s2:(dE (fun i j=>lt (ks.getD i d) (ks.getD j d)) us.length).Pairwise fun i j=>lt (ks.getD i d) (ks.getD j d)=true:=by
     have a:=Dk (lt:=lt) O.ir O.tr (fun a b c h=>by
      cases e:lt a c with
      | true=>exact .inl rfl
      | false=>
       cases K:lt c b with
       | true=>exact .inr rfl
       | false=>
        cases e3:lt c a with
        | true=>rw [O.tr _ _ _ e3 h] at K;cases K
        | false=>rw [O.to _ _ e e3,K] at h;cases h) d ks (n:=us.length) (by omega)
     have T:(dE (fun i j=>lt (ks.getD i d) (ks.getD j d)) us.length).Nodup:=(i5 _ _).nodup_iff.mpr XW
     refine Xb (R:=fun i j=>lt (ks.getD j d) (ks.getD i d)=false/\i≠j) (fun {i j} l G h=>?_) (a.and T)
     cases e:lt (ks.getD i d) (ks.getD j d) with
     | true=>rfl
     | false=>exact absurd (O.to _ _ e h.1) (kn i j (N i l) (N j G) h.2)
    exact Zd (le:=fun i j=>lt (ks.getD i d) (ks.getD j d)=true) (fun i j _ _ h1 h2=>by
     have:=O.tr _ _ _ h1 h2
     rw [O.ir] at this;cases this) s1 s2 (n.trans (i5 _ _).symm)
   rw [<- p,T8]
   symm
   conv=>rhs;rw [<- a0w m]
   refine Uv fun v Q=>?_
   obtain ⟨i,B,U,L⟩:=r v (hm v Q)
   show us.getD (fE us v) .none=v
   rw [L,Tz,U]
   rfl
  rw [e]
  exact q
end
end L3
namespace L3
open PySem L2 PySem.W PyProof.Rows
section
variable {P:Tt}{w:TV}{A:TJ}{E:Value->SX->Prop}{s:SX}
theorem Ot {B:Type}{lt:B->B->Bool}(O:Ord1 lt)(m:B){ks:List B}{an:Nat->Nat->Bool}(G:an=fun i j=>lt (ks.getD i m) (ks.getD j m)){r d:Addr}{es:Array U5}{ep:Nat}{Q:Value->SX->Prop}(Z:ks.length=es.size)(nk:ks.Nodup)(Y:A.handled=none)(hv:s.heap.IsItemsView r d)(g:RawD s.heap d es ep)(T:es.size<=Td)
  (H:2<=es.size->∀ (l:Uw)(tk:Nat)(as:List Addr),(∀ b o,s.heap.get? b=some o->l.get? b=some o)->as.length=es.size->PrsAt es s.heap.objs.size l as->qV P w A.in1.in1 (as.map Tr) an { s with heap:=l,toks:=tk })
  (q:∀ (l:Uw)(tk:Nat)(as:List Addr)(L e:Nat),(∀ b o,s.heap.get? b=some o->l.get? b=some o)->as.length=es.size->PrsAt es s.heap.objs.size l as->s.heap.objs.size<=L->(∀ a∈as,a≠L)->l.get? L=some (VE "list" ((dE an es.size).map fun i=>Tr (as.getD i 0)).toArray e)->Q (.ref L) { s with heap:=l,toks:=tk }) :
  TK (TH P w) A (call (.builtin "sorted") [.ref r]) Q E s:=by
 refine Calls.call_function_entry kind_sorted plain_sorted entry_sorted (args_sorted1 _) ?_
 unfold Builtin.«sorted»
 refine S0 (m:=checkCount "sorted" 1 1 _) (Tn (S0 (Oj (A:=A.in1) Y hv g (by omega) fun c tk as R y z u=>?_)))
 have M:(as.map Tr).length=es.size:=by rw [S3,y]
 refine S0 (a0A ?_ (by rw [M];omega))
 have nu:(as.map Tr).Nodup:=by
  unfold a0X
  rw [UL]
  exact z.up.imp fun h e=>by cases e;exact absurd h (VD _)
 subst G
 have p:(c.push (VE "list" (as.map Tr).toArray 0)).get? c.objs.size=some (VE "list" (as.map Tr).toArray 0):=TZ _ rfl
 have fin:∀ n:List Value,n=((dE (fun i j=>lt (ks.getD i m) (ks.getD j m)) es.size).map fun i=>Tr (as.getD i 0))->Q (.ref c.objs.size) { s with heap:=Y6 (c.push (VE "list" (as.map Tr).toArray 0)) c.objs.size (as.map Tr) n.toArray,toks:=tk }:=by
  rintro n rfl
  obtain ⟨e,X⟩:=sortedHeap_at (h:=c.push (VE "list" (as.map Tr).toArray 0)) (out:=((dE (fun i j=>lt (ks.getD i m) (ks.getD j m)) es.size).map fun i=>Tr (as.getD i 0)).toArray) p
  have v:∀ b o,c.get? b=some o->(Y6 (c.push (VE "list" (as.map Tr).toArray 0)) c.objs.size (as.map Tr) ((dE (fun i j=>lt (ks.getD i m) (ks.getD j m)) es.size).map fun i=>Tr (as.getD i 0)).toArray).get? b=some o:=fun b o x=>by
   rw [sortedHeap_old (TL (Tg x)) (by rw [ZD];exact Nat.lt_succ_of_lt (Tg x))]
   exact S9 _ x
  exact q _ tk as c.objs.size e (fun b o x=>v b o (R b o x)) y (z.stay fun b o _ x=>v b o x) u (fun a U=>TL (z.lt U)) X
 by_cases I:2<=es.size
 ·refine S0 (U2 (Ye a3n (s:={ s with heap:=c.push (VE "list" (as.map Tr).toArray 0),toks:=tk }) ⟨_,p,rfl⟩ a2Q (Oq O m (by rw [M];exact Z) nk nu (by omega) (by omega) p (fun l N=>?_) ⟨_,rfl,?_⟩) (a3w _)))
  ·exact H I l tk as (fun b o e=>N b o (TL (TF (Tg e) u)) (S9 _ (R b o e))) y (z.stay fun b o hb e=>N b o (TL (Tg e)) (S9 _ e))
  ·refine Tn ⟨_,rfl,fin _ ?_⟩
   rw [M]
   refine Uv fun i K=>?_
   have K:i<as.length:=by
    have:=Vc.mp ((i5 _ es.size).mem_iff.mp K)
    omega
   simp [Vj,K]
 ·refine S0 (U2 (Ye a3n (s:={ s with heap:=c.push (VE "list" (as.map Tr).toArray 0),toks:=tk }) ⟨_,p,rfl⟩ a2Q (Mi (by omega) p ⟨_,rfl,?_⟩) (a3w _)))
  refine Tn ⟨_,rfl,fin (as.map Tr) ?_⟩
  match as,y with
  | [],e=>rw [<- e];show []=(dE _ 0).map _;rw [CL];rfl
  | [b],e=>rw [<- e];show [Tr b]=(dE _ 1).map _;rw [Mj];rfl
  | _::_::_,e=>rw [<- e] at I;simp at I
end
end L3
namespace L3
open PySem L2
end L3
namespace L3
open PySem L2
section
variable {P:Tt}{w:TV}
theorem Ou (d:Addr)(hd:(d == Vl)=false):MeetsIn P w (Builtin.«dict.items» ⟨[.ref d],[]⟩) (fun _ R s=>(∃ es ep,RawD s.heap d es ep) /\
   R (.ok (.ret (.ref s.heap.objs.size))) { s with heap:=s.heap.push { cls:=.type "dict_items",data:=.fields #[.ref d] } }):=
 .of_wp fun A R s ⟨⟨es,ep,g⟩,h⟩=>by
  unfold Builtin.«dict.items»
  refine S0 ?_
  unfold a3j
  refine S0 (a1x g.ty ?_)
  show TK _ _ (pure d) _ _ s
  refine Tn ?_
  show TK _ _ (Ze d >>= _) _ _ s
  unfold Ze
  rw [if_neg (by rw [hd];exact UN)]
  refine S0 (Tn ?_)
  exact S0 (V5 (Tn ⟨_,rfl,h⟩))
end
noncomputable def tU (kvs:List (List Int×D)):List (List Int×D):=(dE (fun i j=>HT.lexLt ((kvs.map (·.1)).getD i []) ((kvs.map (·.1)).getD j [])) kvs.length).map fun i=>kvs.getD i ([],.non)
theorem Ov {b c:Type}{R:b->c->Prop}{as:List b}{bs:List c}(h:WO R as bs)(d:b)(j:c):∀ i,i<as.length->R (as.getD i d) (bs.getD i j):=by
 induction h with
 | nil=>exact fun i a=>nomatch a
 | cons e t l=>
  intro i a
  cases i with
  | zero=>exact e
  | succ i=>exact l i (by simpa using a)
theorem DS {a b:Type}{R:a->b->Prop}{f:Nat->a}{g:Nat->b}:∀ {l:List Nat},(∀ i∈l,R (f i) (g i))->WO R (l.map f) (l.map g)
 | [],_=>.nil
 | i::l,h=>.cons (h i (TC ..)) (DS fun j c=>h j (Tu _ c))
end L3
namespace L3
open PySem L2 PySem.W PyProof.Rows
section
variable {P:Tt}{w:TV}{A:TJ}{E:Value->SX->Prop}{s:SX}
end
end L3
namespace L3
open PySem L2
noncomputable def oN (b:Hm):D->Bool
 | .loc a=>match b[a]? with|some (.dT _)=>true|_=>false
 | _=>false
noncomputable def kH (f:D->List D->Hm->Option (D×Hm))(b:ME)(c:MA):ME:=fun a d=>(b a d).bind fun p=>match oN p.2 p.1 with
 | true=>(c a p.2).bind fun q=>f p.1 q.1 q.2
 | false=>none
noncomputable def yB (K:SV)(x:V)(H:Hp):Prop:=∃ a ps,x=.ref a/\H a=some (bL a ps)/\dS K H ps
theorem Ox {K:SV}{π:Nat->Addr}{H:Hp}{b:Hm}{v:V}{x:D}(R:Rp K π H b)(h:IsD K π b.length H v x)(e:oN b x=true):yB K v H:=by
 cases h with
 | @loc a j=>
  simp only [oN] at e
  split at e
  ·rename_i l d
   obtain ⟨i,c,T⟩:=mO R d
   exact ⟨_,i,rfl,c,T.keys⟩
  ·cases e
 | _=>cases e
section
variable {X:Cx}{e o:Expr}{mo:ME}{to:TE}{t:TA}{apos cpos:Va}{es:List Expr}{ms:MA}{n:Nat}{r:V->List V->Hp->VK->Prop}{f:D->List D->Hm->Option (D×Hm)}{name:Str}{id:String}
theorem Oy (slot:Slot "dict" name id) (w:a2b (.builtin id)=pure (.type "method_descriptor")) (O:jN X id r)(R:PE X o to)(M:PA X (e::es) t)(i:Xo o name X.env (eval o X.env)=eval o X.env)
  (m:((V0 cpos (T5 (e::es) X.env)).all (fun x=>!x.1)&&(a0f cpos (YF [] X.env)).all (fun x=>x.1.isSome)&&decide ((e::es).length+([]:List Wz).length+(if ([]:List Wz).isEmpty then 0 else 1)<30))=true)
  (j:(apos.endLine == cpos.line)=true)(T:T5 (e::es) X.env=(false,eval e X.env)::T5 es X.env)(c:(V0 cpos (T5 es X.env)).any (·.1)=false) :
  PE X (.Call (.Attribute o name apos) (e::es) [] cpos) (fun l H Q=>to l H fun x p=>yB X.K x p/\t l p fun q u=>r x q u Q):=by
 intro d s l H Q I h
 refine a1b i m j rfl (aU (R d s l H _ I h) fun v s1 ⟨x,p,y,Z,ty,U⟩=>?_)
 obtain ⟨a,ps,rfl,G,N⟩:=ty
 obtain rfl:v=Tr a:=Z
 obtain ⟨lo,hl,q,ep,g,_⟩:=yA y G N
 refine ⟨"dict",id,Zv,slot,w,g.ty,fun b E=>?_,?_⟩
 ·cases E
  obtain ⟨z,K,L,_⟩:=g
  exact ⟨z,K,L.2.1⟩
 have A:=M cpos d s1 l p _ y U
 rw [T] at A ⊢
 refine XY (by show (false||(V0 cpos (T5 es X.env)).any (·.1))=false;rw [c]<;>rfl) (Yk ?_)
 exact aU A fun us s2 ⟨q,u,B,r2,Y⟩=>O d s2 l u (.ref a) q _ us Q B rfl r2 Y
theorem Oz {K:SV}(A:iE K f r):∀ σ H Q,tM K (kH f mo ms) σ H Q->tM K mo σ H fun x h=>yB K x h/\eC K ms σ h fun vs i=>r x vs i Q:=by
 rintro σ H Q ⟨M,w,L,d,j,R,E,a,k⟩
 obtain ⟨⟨x,b⟩,y,a⟩:=SS.mp a
 dsimp only at a
 split at a
 ·rename_i B
  obtain ⟨⟨v,c⟩,z,a⟩:=SS.mp a
  refine ⟨M,w,L,x,b,R,E,y,fun l I h q p u=>⟨Ox p u B,l,w,b,v,c,p,E.mono q,z,fun m vs i s R2 G=>?_⟩⟩
  exact A m i c x v d j I vs Q R2 (u.mono s) G a (k.after (q.trans s))
 ·cases a
theorem OA (slot:Slot "dict" name id) (c:a2b (.builtin id)=pure (.type "method_descriptor")) (j:jN X id r)(h:iE X.K f r)
  (m:QE X o mo)(d:QA X (e::es) ms n)(p:mD o=true)(i:(apos.endLine == cpos.line)=true)(l:(e::es).length<30):QE X (.Call (.Attribute o name apos) (e::es) [] cpos) (kH f mo ms):=by
 have b:=d.s
 have a:=b
 rw [Ul,SW] at a
 exact ⟨cL (Oy slot c j m.h d.h (mE p) (xG b l) i (d9 a.1) (iC a.2)) (Oz h)⟩
end
noncomputable def jB:D->List D->Hm->Option (D×Hm)
 | .loc a,[y,z],μ=>match μ[a]? with
  | some (.dT kvs)=>(gH y).map fun k=>((cX kvs k).getD z,μ)
  | _=>none
 | _,_,_=>none
noncomputable def DT (K:SV):V->List V->Hp->VK->Prop:=fun x vs H Q=>∃ a b ps k z,x=.ref a/\vs=[.ref b,z]/\H a=some (bL a ps)/\dS K H ps/\SqT K H b (k.map V.int)/\Q ((eA ps k).getD z) H
theorem OB {K:SV}:iE K jB (DT K):=by
 intro w H B x A d u v z Q R n c a k
 unfold jB at a
 split at a
 ·split at a
  ·rename_i q hc
   obtain ⟨i,l,a⟩:=SY.mp a
   cases a
   cases n
   cases c with
   | cons o t=>
    cases t with
    | cons p t=>
     cases t
     obtain ⟨r,j,T⟩:=mO R hc
     obtain ⟨b,rfl,m⟩:=qS o l
     refine ⟨_,b,r,i,_,rfl,rfl,j,T.keys,m,k w _ H .refl R ?_⟩
     rcases T.val i with ⟨e,h⟩|⟨v,y,e,h,s⟩
     ·rw [e,h];exact p
     ·rw [e,h];exact s
  ·cases a
 ·cases a
theorem OC {X:Cx}(A:X.A.units+1<Vf):jN X "dict.get" (DT X.K):=by
 intro n s R H x N v M Q I G E h
 obtain ⟨a,b,i,k,z,rfl,rfl,e,p,o,q⟩:=h
 cases G
 obtain ⟨u,K,rfl,B,j⟩:=E.two
 obtain rfl:u=Tr b:=B
 obtain ⟨w,L,m,r,d⟩:=kD I (.of e) p
 refine a1f ZU d.typeIs PySem.F.entry_dict_get (PySem.F.args_dict_get_3 _ _ _) (meetsH_dict_get_default (Wy (X0 X.prog X.w)) a b w K) ⟨qR A,k,_,kX I o,d,?_⟩
 refine ⟨(eA i k).getD z,H,I.tok _,?_,q⟩
 have:=oI r k
 cases l:eA i k with
 | none=>
  rw [l] at this
  cases c:(XD (bR i m) k).map (·.2) with
  | none=>exact j
  | some y=>rw [c] at this;exact this.elim
 | some O=>
  rw [l] at this
  cases c:(XD (bR i m) k).map (·.2) with
  | none=>rw [c] at this;exact this.elim
  | some y=>rw [c] at this;exact this
end L3
namespace L3
open PySem L2
section
variable {P:Tt}{w:TV}{K:Type} [DecidableEq K] {knd:HeapKind P w K}{A:TJ}{E:Value->SX->Prop}{s:SX}{d a:Addr}{k:K}{xs:List (K×Addr×Value)}
end
end L3
namespace L3
open PySem L2
section
variable {P:Tt}{w:TV}{A:TJ}{E:Value->SX->Prop}{s:SX}
end
section
variable {X:Cx}
end
end L3
namespace L3
open PySem L2
noncomputable abbrev qW:=List (List Int×Addr×Value)
inductive Hits (A:TJ)(s:SX)(ys:qW):qW->Bool->Prop
 | nil:Hits A s ys [] true
 | miss {x:List Int×Addr×Value}{r:qW}:XD ys x.1=none->Hits A s ys (x::r) false
 | hit {x:List Int×Addr×Value}{p:Addr×Value}{r:qW}{e b:Bool}:XD ys x.1=some p->Zo A s x.2.2 p.2 e->Hits A s ys r b->Hits A s ys (x::r) (e&&b)
section
variable {P:Tt}{w:TV}{A:TJ}{E:Value->SX->Prop}{s:SX}{a b:Addr}{xs ys:qW}{r:Bool}
end
section
variable {X:Cx}{a b:Expr}{ma mb:ME}{pos:Va}{k:Nat}
end
end L3
namespace L3
open PySem L2
noncomputable abbrev yC (_:Nat):Prop:=True
section
variable {X:Cx}{a3A:List (Addr×Obj)}{σ:St}{H H':Hp}{s:SX}{h':Uw}
theorem OD {t':Nat}(I:Inv X a3A σ H s)(k:∀ b u,s.heap.get? b=some u->h'.get? b=some u)(d:∀ b,b<s.heap.objs.size->H' b=H b)(new:∀ b o,s.heap.objs.size<=b->H' b=some o->ObjOk X.prog X.w H' h' b o) :
  Inv X a3A σ H' { s with heap:=h',toks:=t' }:=by
 have lt:∀ b u,H b=some u->b<s.heap.objs.size:=fun b u e=>Nat.lt_of_not_le fun z=>by rw [I.hok.fresh z] at e;cases e
 have a:∀ b u,H b=some u->H' b=some u:=fun b u e=>by rw [d b (lt b u e)];exact e
 refine I.un ⟨fun b u q _ _ _=>k b u q,fun b u q _ _ _=>⟨u.slots,k b u q⟩,fun b u q n _=>by rw [d b (Tg q)];exact n,fun b u q _=>⟨u,k b u q⟩,fun b i q=>a b _ q,fun b u i q=>a b _ q,fun b j q=>⟨#[],by rw [a b _ q];simp⟩⟩ fun b u e=>?_
 by_cases h:b<s.heap.objs.size
 ·rw [d b h] at e
  exact (I.hok b u e).stay (fun c v _ q=>k c v q) (fun c q=>a c _ q) fun c i q=>a c _ q
 ·exact new b u (a1O h) e
noncomputable def eX (H:Hp):List Addr->bV->Hp
 | a::as,p::ps=>eX (aQ H a (.tup [.ref p.2.1,p.2.2])) as ps
 | _,_=>H
theorem mS:∀ {as:List Addr}{ps:bV}{H:Hp}{b:Addr},b∉as->eX H as ps b=H b
 | [],_,_,_,_=>by simp [eX]
 | a::as,[],_,_,_=>rfl
 | a::as,p::ps,H,b,h=>by
  rw [TN,not_or] at h
  show eX (aQ H a _) as ps b=H b
  rw [mS h.2,bH h.1]
theorem tV:∀ {as:List Addr}{ps:bV}{H:Hp}{i:Nat}{a:Addr}{p:List Int×Addr×V},as.Nodup->as[i]? = some a->ps[i]? = some p->eX H as ps a=some (.tup [.ref p.2.1,p.2.2])
 | [],_,_,_,_,_,_,h,_=>by simp at h
 | _::_,[],_,_,_,_,_,_,h=>by simp at h
 | x::as,y::ps,H,0,a,p,nd,h1,h2=>by
  obtain rfl:x=a:=by simpa using h1
  obtain rfl:y=p:=by simpa using h2
  rw [Uu] at nd
  show eX (aQ H x _) as ps x=_
  rw [mS nd.1,cQ]
 | x::as,y::ps,H,i+1,a,p,nd,h1,h2=>by
  rw [Uu] at nd
  exact tV (as:=as) (ps:=ps) (i:=i) nd.2 (by simpa using h1) (by simpa using h2)
noncomputable def qX (ps:bV):List Nat:=dE (fun i j=>HT.lexLt ((ps.map (·.1)).getD i []) ((ps.map (·.1)).getD j [])) ps.length
noncomputable def eH (as:List Addr)(ps:bV):List V:=(qX ps).map fun i=>V.ref (as.getD i 0)
theorem OE (hc:X.calm=true)(hun:X.A.units+64<Vf)(I:Inv X a3A σ H s){d r:Addr}{ps:bV}{Q:VK}(e:H d=some (bL d ps))(hk:dS X.K H ps)(h64:yC ps.length)(hv:s.heap.IsItemsView r d)
  (k:∀ (as:List Addr)(L l:Addr),as.length=ps.length->(l::L::as).Nodup->(∀ a∈l::L::as,H a=none)->Q (.ref l) (aQ (aQ (eX H as ps) L (.lst (eH as ps))) l (.tup (eH as ps)))) :
  TK (TH X.prog X.w) X.A (call (.builtin "sorted") [.ref r]) (fun v s'=>TK (TH X.prog X.w) X.A (call (.type "tuple") [v]) (EP X a3A σ Q) X.xe s') X.xe s:=by
 obtain ⟨lo,hl,ws,rv,z,es,ep,z1,z2,z3,z4,z5,z6⟩:=kD I (.of e) hk
 have hwl:ws.length=ps.length:=by
  have:=rv.length
  rw [S3] at this
  exact this.symm
 have hxl:(bR ps ws).length=ps.length:=by unfold bR;rw [List.length_zipWith,hwl,Nat.min_self]
 have n:es.size=ps.length:=by rw [<- Xe,z4,S3,hxl]
 have nd:(ps.map (·.1)).Nodup:=by rw [oH rv] at z6;exact z6
 have N:∀ (j:Nat)(w:U5),es[j]? = some w->∃ p u,ps[j]? = some p/\ws[j]? = some u/\w.key=.ref p.2.1/\w.val=u:=fun j w h=>by
  rw [<- Yb,z4,Uo] at h
  obtain ⟨x,y,rfl⟩:=SY.mp h
  unfold bR at y
  rw [List.getElem?_zipWith] at y
  cases B:ps[j]? with
  | none=>rw [B] at y;simp at y
  | some p=>
   cases hw:ws[j]? with
   | none=>rw [B,hw] at y;simp at y
   | some u=>
    rw [B,hw] at y
    have:(p.1,p.2.1,u)=x:=by simpa using y
    subst this
    exact ⟨p,u,rfl,rfl,rfl,rfl⟩
 refine Ot Nw [] (ks:=ps.map (·.1)) (an:=fun i j=>HT.lexLt ((ps.map (·.1)).getD i []) ((ps.map (·.1)).getD j [])) rfl (by rw [S3,n]) nd (I.ok.hd hc) hv ⟨z,z1,z2,z3⟩ (by omega) (fun h22 Z M as kp Y K=>?_) (fun Z M as L w kp Y K hL nL gL=>?_)
 ·have I3:Inv X a3A σ H { s with heap:=Z,toks:=M }:=I.kept (t':=M) kp
  refine Oo (A:=X.A.in1.in1) (s:={ s with heap:=Z,toks:=M }) (bs:=ps.map (·.2.1)) (ks:=ps.map (·.1)) (by show X.A.units+1+1<Vf;omega) K (by omega) Y (by rw [S3,n]) (by rw [S3,n]) (fun j w A=>?_) nd
  obtain ⟨p,u,G,p2,p3,p4⟩:=N j w A
  have q:j<ps.length:=(S2.mp G).1
  have m:(ps.map (·.2.1)).getD j 0=p.2.1:=by simp [Vj,G]
  have ek:(ps.map (·.1)).getD j []=p.1:=by simp [Vj,G]
  rw [m,ek]
  have sq:=hk p (TQ G)
  refine ⟨p3,kX I3 sq,?_⟩
  obtain ⟨xs,rx,t,_⟩:=I3.tuple sq
  exact ⟨xs,t,Ml rx⟩
 ·rw [n] at gL Y
  have E:as.Nodup:=K.up.imp fun h=>TL h
  have hin:∀ i∈qX ps,i<ps.length:=fun i hi=>Vc.mp ((i5 _ _).mem_iff.mp hi)
  have U:(qX ps).length=ps.length:=by
   have:=(i5 (fun i j=>HT.lexLt ((ps.map (·.1)).getD i []) ((ps.map (·.1)).getD j [])) ps.length).length_eq
   rw [YN] at this
   exact this
  have nLa:L∉as:=fun h=>nL L h rfl
  have I1:Inv X a3A σ (aQ (eX H as ps) L (.lst (eH as ps))) { s with heap:=Z,toks:=M }:=by
   refine OD (t':=M) I kp (fun b hb=>?_) fun b o hb m=>?_
   ·rw [bH (TL (TF hb hL)),mS fun h=>Nat.lt_asymm hb (K.over b h)]
   ·by_cases R:b=L
    ·subst R
     rw [cQ] at m
     cases m
     refine ⟨by unfold eH;rw [S3,U];exact hl,(qX ps).map fun i=>Tr (as.getD i 0),w,?_,gL⟩
     unfold eH
     exact DS fun i _=>rfl
    ·rw [bH R] at m
     by_cases T:b∈as
     ·obtain ⟨j,A⟩:=WV.mp T
      have q:j<ps.length:=by
       have:=(S2.mp A).1
       omega
      have B:ps[j]? = some ps[j]:=S1 q
      rw [tV E A B] at m
      cases m
      obtain ⟨x,x1,x2⟩:=K.prs j _ A
      obtain ⟨p,u,G,p2,p3,p4⟩:=N j x x1
      rw [B] at G
      cases G
      obtain ⟨u',g1,g2⟩:=rv.get (i:=j) (x:=ps[j].2.2) (by rw [Uo,B];rfl)
      rw [p2] at g1
      cases g1
      rw [p3,p4] at x2
      exact ⟨by show (2:Nat)<=Td;decide,[.ref ps[j].2.1,u],.cons rfl (.cons g2 .nil),_,x2,rfl,0,rfl,rfl⟩
     ·rw [mS T,I.hok.fresh hb] at m
      cases m
  refine Bm a3A _ σ _ [.ref L] [.ref L] Q I1 (.cons rfl .nil) ⟨L,eH as ps,rfl,.inl ⟨.inl (.inl cQ),fun l c=>?_⟩⟩
  have lL:l≠L:=fun h=>by rw [h,cQ] at c;cases c
  rw [bH lL] at c
  have la:l∉as:=fun h=>by
   obtain ⟨j,A⟩:=WV.mp h
   have q:j<ps.length:=by
    have:=(S2.mp A).1
    omega
   rw [tV E A (S1 q)] at c
   cases c
  rw [mS la] at c
  refine k as L l Y ?_ fun a O=>?_
  ·rw [Uu,Uu]
   exact ⟨fun h=>(TN.mp h).elim lL la,nLa,E⟩
  ·rcases TN.mp O with rfl|O
   ·exact c
   rcases TN.mp O with rfl|O
   ·exact I.hok.fresh hL
   ·exact I.hok.fresh (Xs (K.over a O))
end
noncomputable def yD (k:List Int×D):D:=.tup [.tup (k.1.map D.int),k.2]
noncomputable def tW:D->Hm->Option (D×Hm)
 | .loc a,μ=>match μ[a]? with
  | some (.dT kvs)=>if yC kvs.length then some (.tup ((tU kvs).map yD),μ) else none
  | _=>none
 | _,_=>none
noncomputable def oO (m:ME):ME:=fun b a=>(m b a).bind fun r=>tW r.1 r.2
noncomputable def DU (K:SV):V->Hp->VK->Prop:=fun x H Q=>∃ a ps,x=.ref a/\H a=some (bL a ps)/\dS K H ps/\yC ps.length /\
 ∀ (as:List Addr)(L l:Addr),as.length=ps.length->(l::L::as).Nodup->(∀ a∈l::L::as,H a=none)->Q (.ref l) (aQ (aQ (eX H as ps) L (.lst (eH as ps))) l (.tup (eH as ps)))
section
variable {X:Cx}{o:Expr}{to:TE}{apos cpos p p2 pos pos2:Va}
theorem OF (hc:X.calm=true)(y:X.A.units+64<Vf)(u:X.mg "sorted" = none) (w:X.mg "tuple" = none) (n:Gl X "sorted") (r:Gl X "tuple") (T:PE X o to)
  (c:Xo o "items" X.env (eval o X.env)=eval o X.env) (d:(apos.endLine == cpos.line)=true) :
  PE X (.Call (.Name "tuple" p) [.Call (.Name "sorted" p2) [.Call (.Attribute o "items" apos) [] [] cpos] [] pos2] [] pos) (fun j H Q=>to j H fun x l=>DU X.K x l Q):=by
 intro i s j H Q I h
 refine U6 (iT I r w WJ ?_)
 refine V9 ?_ rfl rfl
 refine YA ?_
 refine U6 (iT I n u a1m ?_)
 refine VX ?_ rfl rfl
 refine YA ?_
 refine wpAny_Call_method0_late c d (aU (T i s j H _ I h) fun v A ⟨x,l,B,Z,a,ps,N,e,E,m,q⟩=>?_)
 subst N
 obtain rfl:v=Tr a:=Z
 obtain ⟨Y,hl,M,L,g,he⟩:=yA B e E
 refine ⟨"dict","dict.items",Zv,Zu,PySem.F.type_dict_items,g.ty,fun b K=>?_,XY rfl (PySem.evalArgs_none ?_)⟩
 ·cases K
  obtain ⟨z,O,R,_⟩:=g
  exact ⟨z,O,R.2.1⟩
 refine a1f Zu g.ty PySem.F.entry_dict_items (PySem.F.args_dict_items_1 _) (Ou a Y) ⟨⟨M,L,g⟩,?_⟩
 refine YL ?_
 have G:Inv X i j l { A with heap:=A.heap.push { cls:=.type "dict_items",data:=.fields #[.ref a] } }:=B.kept (t':=A.toks) fun b o e=>S9 _ e
 refine aU (OE hc y G e E m ⟨_,TZ _ rfl,rfl,rfl⟩ q) fun v s' U=>YL U
end
theorem DV {K:SV}{π:Nat->Addr}{c:Hm}:∀ {as:List Addr}{ps:bV}{H:Hp},Rp K π H c->as.Nodup->(∀ a∈as,H a=none)->Ext π c.length H π c.length (eX H as ps)/\Rp K π (eX H as ps) c
 | [],_,H,R,_,_=>by simp only [eX];exact ⟨.refl,R⟩
 | a::as,[],H,R,_,_=>⟨.refl,R⟩
 | a::as,p::ps,H,R,nd,hf=>by
  rw [Uu] at nd
  obtain ⟨h,e⟩:=R.fresh (o:=.tup [.ref p.2.1,p.2.2]) (hf a (TC ..))
  obtain ⟨i,R2⟩:=DV (as:=as) (ps:=ps) e nd.2 fun b d=>by
   rw [bH (fun w:b=a=>nd.1 (w ▸ d))]
   exact hf b (Tu _ d)
  exact ⟨h.trans i,R2⟩
theorem OG {K:SV}{Z:ME}:∀ σ H Q,tM K (oO Z) σ H Q->tM K Z σ H fun x o=>DU K x o Q:=by
 rintro σ H Q ⟨π,ρ,μ,d,p,R,E,h,k⟩
 obtain ⟨⟨x,G⟩,h1,h⟩:=SS.mp h
 refine ⟨π,ρ,μ,x,G,R,E,h1,fun m v1 o e1 I i1=>?_⟩
 have k1:=k.after e1
 dsimp only at h
 unfold tW at h
 split at h
 ·split at h
  ·rename_i b hc
   split at h
   ·rename_i hb
    cases h
    cases i1
    obtain ⟨c,e2,T⟩:=mO I hc
    have Y:c.length=b.length:=by
     have:=congrArg Vi T.to.1
     simpa using this
    refine ⟨_,c,rfl,e2,T.keys,by rw [Y];exact hb,fun e L l al n y=>?_⟩
    rw [Uu,Uu] at n
    obtain ⟨M,R3⟩:=DV (ps:=c) I n.2.2 fun a ha=>y a (Tu _ (Tu _ ha))
    have hL:eX o e c L=none:=by rw [mS n.2.1];exact y L (Tu _ (TC ..))
    obtain ⟨N,R4⟩:=R3.fresh (o:=.lst (eH e c)) hL
    have hl:aQ (eX o e c) L (.lst (eH e c)) l=none:=by
     rw [bH (fun w:l=L=>n.1 (by rw [w];exact TC ..)),mS fun w=>n.1 (Tu _ w)]
     exact y l (TC ..)
    obtain ⟨O,R5⟩:=R4.fresh (o:=.tup (eH e c)) hl
    refine k1 m _ _ ((M.trans N).trans O) R5 (.tup (.of cQ) ?_)
    have A:c.map (·.1)=b.map (·.1):=T.to.1
    have B:∀ q:List Nat,(∀ i∈q,i<b.length)->IsDs K m p.length (aQ (aQ (eX o e c) L (.lst (eH e c))) l (.tup (eH e c))) (q.map fun i=>V.ref (e.getD i 0)) (q.map (yD ∘ fun i=>b.getD i ([],.non))):=fun q s=>by
     induction q with
     | nil=>exact .nil
     | cons i q ih=>
      have u:=s i (TC ..)
      have r:e[i]? = some (e.getD i 0):=by simp [Vj,show i<e.length by omega]
      have z:c[i]? = some c[i]:=S1 (by omega)
      have hik:b[i]? = some b[i]:=S1 u
      have U:b.getD i ([],.non)=b[i]:=by simp [Vj,u]
      have ep:c.getD i ([],0,.non)=c[i]:=by simp [Vj,show i<c.length by omega]
      have pa:=Ov T ([],0,.non) ([],.non) i (by omega)
      rw [ep,U] at pa
      obtain ⟨q1,q2,q3⟩:=pa
      refine .cons ?_ (ih fun j hj=>s j (Tu _ hj))
      have v:aQ (aQ (eX o e c) L (.lst (eH e c))) l (.tup (eH e c)) (e.getD i 0)=some (.tup [.ref c[i].2.1,c[i].2.2]):=by
       have h:=TQ r
       rw [bH (fun w:e.getD i 0=l=>n.1 (by rw [<- w];exact Tu _ h)),bH (fun w:e.getD i 0=L=>n.2.1 (by rw [<- w];exact h))]
       exact tV n.2.2 r z
      show IsD K m p.length _ (.ref (e.getD i 0)) (yD (b.getD i ([],.non)))
      rw [U]
      have X:=(M.trans N).trans O
      have ik:IsD K m p.length o (.ref c[i].2.1) (.tup (b[i].1.map D.int)):=by
       rw [<- q1]
       exact .tup q2 (xN _)
      exact .tup (.of v) (.cons (ik.mono X) (.cons (q3.mono X) .nil))
    have ey:eH e c=(dE (fun i j=>HT.lexLt ((b.map (·.1)).getD i []) ((b.map (·.1)).getD j [])) b.length).map fun i=>V.ref (e.getD i 0):=by
     unfold eH qX
     rw [A,Y]
    have fin:=B (dE (fun i j=>HT.lexLt ((b.map (·.1)).getD i []) ((b.map (·.1)).getD j [])) b.length) fun i u=>Vc.mp ((i5 _ _).mem_iff.mp u)
    rw [<- ey] at fin
    unfold tU
    rw [T8]
    exact fin
   ·cases h
  ·cases h
 ·cases h
theorem OH {X:Cx}{o:Expr}{l:ME}{a b p r pos c:Va}(hc:X.calm=true)(j:X.A.units+64<Vf)(h:X.mg "sorted" = none) (i:X.mg "tuple" = none) (d:Gl X "sorted") (e:Gl X "tuple") (n:QE X o l)(q:mD o=true)(m:(a.endLine == b.line)=true) :
  QE X (.Call (.Name "tuple" p) [.Call (.Name "sorted" r) [.Call (.Attribute o "items" a) [] [] b] [] c] [] pos) (oO l):=
 ⟨cL (OF hc j h i d e n.h (mE q) m) OG⟩
end L3
namespace L3
open PySem L2 PySem.W PyProof.Rows
section
variable {P:Tt}{w:TV}{A:TJ}{E:Value->SX->Prop}{s:SX}
end
noncomputable abbrev PrsV (K:SV)(H:Hp):List V->List (List Int)->Prop:=WO fun v t=>∃ a b y,v=V.ref a/\SqT K H a [V.ref b,y]/\SqT K H b (t.map V.int)
end L3
namespace L3
open PySem L2 PySem.Builtin PySem.Builtin.Str
noncomputable def fF:D->List D->Hm->Option (D×Hm)
 | .str x,[.str y],μ=>if (y.length == 0)=false/\x.length+2<=Td then some (.loc μ.length,μ++[.lst ((WE x y).map D.str)]) else none
 | _,_,_=>none
noncomputable def DW:V->List V->Hp->VK->Prop:=fun x vs H Q=>∃ (a b:Str),x=.str a/\vs=[.str b]/\(b.length == 0)=false/\a.length+2<=Td/\∀ l,H l=none->Q (.ref l) (aQ H l (.lst ((WE a b).map V.str)))
theorem isStrs' {K:SV}{π:Nat->Addr}{n:Nat}{H:Hp}:∀ (k:List Str),IsDs K π n H (k.map V.str) (k.map D.str)
 | []=>.nil
 | x::k=>.cons (.str x) (isStrs' k)
theorem OI {K:SV}:iE K fF DW:=by
 intro q H p x o d m v n Q R j b a k
 unfold fF at a
 split at a
 ·split at a
  ·rename_i c
   cases a
   cases j
   cases b with
   | cons i t=>
    cases i
    cases t
    refine ⟨_,_,rfl,rfl,c.1,c.2,fun l h=>?_⟩
    obtain ⟨e,R2,_⟩:=R.alloc (c:=.lst ((WE _ _).map D.str)) (o:=.lst ((WE _ _).map V.str)) h (isStrs' _)
    exact k _ _ _ e R2 nI
  ·cases a
 ·cases a
theorem DX:∀ l:List (Str×a1g),Vals ((l.map (·.1)).map V.str) (a0M l)
 | []=>.nil
 | p::l=>.cons ⟨p.2,rfl⟩ (DX l)
theorem OJ {X:Cx}:jN X "str.split" DW:=by
 intro i s p H x L v K Q I B A h
 obtain ⟨a,b,rfl,rfl,o,w,q⟩:=h
 obtain ⟨t,rfl⟩:=B
 obtain ⟨u,rfl,y⟩:=A.one
 obtain ⟨m,rfl⟩:=y
 have fin:∀ (l:List (Str×a1g))(tk:Nat),l.map (·.1)=WE a b->l.length<=Td->EP X i p Q (.ref s.heap.objs.size) { s with heap:=s.heap.push { cls:=.type "list",data:=.seq (a0M l).toArray },toks:=tk }:=fun l tk e r=>by
  refine ⟨.ref s.heap.objs.size,_,I.laid (t':=tk) (a:=s.heap.objs.size) (o:=.lst ((WE a b).map V.str)) (fun c G z=>S9 _ z) (Th _) ?_,rfl,q _ (I.hok.fresh (Th _))⟩
  rw [<- e]
  exact ⟨by rw [S3,S3];exact r,a0M l,0,DX l,TZ _ rfl⟩
 have n:(partsBetween a (occurrences a b 0 a.length (a.length+1)) b.length).length<=Td:=by
  have E:=StrLaws.occ_length_le a b 0 a.length (a.length+1)
  rw [length_partsBetween];omega
 have one:(1:Nat)<=Td:=by rw [TM];decide
 cases d:(decide (a.length<b.length)||decide (strKind a<strKind b))
 ·cases j:(occurrences a b 0 a.length (a.length+1)).isEmpty
  ·refine XT F.slot_str_split (XQ _ _ _) F.entry_str_split (F.args_str_split_2 _ _) (meets_str_split_sep a b t m d o j (by omega) n) ?_
   show wants (EP X i p Q) X.xe _ { s with toks:=_,heap:=s.heap.push { cls:=.type "list",data:=.seq (strsFrom s.toks (partsBetween a (occurrences a b 0 a.length (a.length+1)) b.length)).toArray } }
   rw [strsFrom_eq]
   refine fin (numbered s.toks _) _ ((a3r _ _).trans ((if_neg (ne_true_of_eq_false d)).trans (if_neg (ne_true_of_eq_false j))).symm) ?_
   have:=congrArg Vi (a3r s.toks (partsBetween a (occurrences a b 0 a.length (a.length+1)) b.length))
   rw [S3] at this
   rw [this]
   exact n
  ·exact XT F.slot_str_split (XQ _ _ _) F.entry_str_split (F.args_str_split_2 _ _) (meets_str_split_not_found a b t m d o j) (fin [(a,t)] s.toks ((if_neg (ne_true_of_eq_false d)).trans (if_pos j)).symm one)
 ·exact XT F.slot_str_split (XQ _ _ _) F.entry_str_split (F.args_str_split_2 _ _) (meets_str_split_cannot_occur a b t m d) (fin [(a,t)] s.toks (if_pos d).symm one)
end L3
namespace L3
open PySem L2
structure Sig where
 fn:List (Str×Nat)
 con:List (Str×D)
 tab:List (Str×List (aI×D))
 no:List Str
 dIt:List Str
 dEq:List Str
 dMe:List Str
 cls:List (Str×Str):=[]
 sup:List (Str×List Str):=[]
 rz:List Str:=[]
 uf:List (Str×Stmt):=[]
structure Cs where
 N:List Str
 ks:List (Str×V7)
noncomputable def gX (x:Str):List Str->Option Nat
 | []=>none
 | y::r=>if x=y then some 0 else (gX x r).map (·+1)
theorem kZ {x:Str}:∀ {N:List Str}{i:Nat},gX x N=some i->N[i]? = some x
 | [],_,h=>by cases h
 | y::r,i,h=>by
  unfold gX at h
  split at h
  ·rename_i e;cases h;subst e;rfl
  ·obtain ⟨j,a,b⟩:=SY.mp h
   subst b
   have:=kZ a
   simpa using this
noncomputable def glob (c:Cs)(x:Str):Bool:=decide (c.ks.lookup x=some .globalImplicit)&&!(x == ("__debug__":Str))
noncomputable def iU (c:Cs)(x:Str):Bool:=(decide (c.ks.lookup x=some .local)||decide (c.ks.lookup x=some .cell)||decide (c.ks.lookup x=some .free))&&!(x == ("__debug__":Str))&&!(x == ("__classdict__":Str))
noncomputable def kI (c:Cs)(x:Str):Bool:=decide (c.ks.lookup x=some .local)||decide (c.ks.lookup x=some .cell)
noncomputable def yE (x:Str):Option String:=
 if x = "int" then some "int" else if x = "bool" then some "bool" else if x = "str" then some "str" else if x = "list" then some "list" else if x = "tuple" then some "tuple" else if x = "dict" then some "dict" else none
theorem OK {x:Str}{n:String}(h:yE x=some n):U9 x=some (.type n)/\x ≠ "__name__":=by
 unfold yE at h
 split at h
 ·rename_i e;subst e;cases h;exact ⟨a1p,by decide⟩
 split at h
 ·rename_i e;subst e;cases h;exact ⟨a1q,by decide⟩
 split at h
 ·rename_i e;subst e;cases h;exact ⟨a1l,by decide⟩
 split at h
 ·rename_i e;subst e;cases h;exact ⟨a1n,by decide⟩
 split at h
 ·rename_i e;subst e;cases h;exact ⟨WJ,by decide⟩
 split at h
 ·rename_i e;subst e;cases h;exact ⟨Yi,by decide⟩
 ·cases h
noncomputable def yF (S:Sig)(c:Cs)(x:Str):ME:=
 if iU c x=true then (match gX x c.N with|some i=>aA i|none=>bE)
 else if glob c x=true then (match S.con.lookup x with
  | some d=>mC d
  | none=>if S.no.contains x=true then (match yE x with|some n=>mC (.ty n)|none=>bE) else bE)
 else bE
noncomputable def fX (r:Expr->ME):List Expr->MA
 | []=>aD
 | e::es=>aC (r e) (fX r es)
noncomputable def qY (op:BoolOp):List ME->ME
 | []=>bE
 | [m]=>m
 | m::r=>match op with
  | .And=>f9 m (qY op r)
  | .Or=>wH m (qY op r)
noncomputable def tX (op:BoolOp):List MT->MT
 | []=>l9
 | [m]=>m
 | m::r=>match op with
  | .And=>dF m (tX op r)
  | .Or=>eD m (tX op r)
noncomputable def DY (op:a0i)(a b:ME):ME:=match op with
 | .Add=>aB bM a b
 | .Sub=>aB lU a b
 | .Mult=>aB cM a b
 | .FloorDiv=>aB cJ a b
 | .Mod=>aB bI a b
 | _=>bE
noncomputable def k4 (op:Xc)(ns:Bool)(a b:ME):ME:=match op with
 | .Eq=>aB (aX false) a b
 | .NotEq=>aB (aX true) a b
 | .Lt=>aB dA a b
 | .LtE=>aB nO a b
 | .Gt=>aB nP a b
 | .GtE=>aB wV a b
 | .In=>if ns=true then aB (dD false) a b else bE
 | .NotIn=>if ns=true then aB (dD true) a b else bE
 | .Is=>aB (iI false) a b
 | .IsNot=>aB (iI true) a b
noncomputable def yG (r:Expr->ME):List (Option Expr)->List Expr->Option (List (ME×ME))
 | [],[]=>some []
 | some k::ks,v::vs=>(yG r ks vs).map fun t=>(r k,r v)::t
 | _,_=>none
noncomputable def yH (r:Expr->ME):Option Expr->MO
 | none=>dX
 | some e=>c9 (r e)
noncomputable def cP:MF:=fun ds b=>match ds with
 | [.loc a]=>match b[a]? with
  | some (.lst xs)=>some (.int xs.length,b)
  | some (.dK kvs)=>some (.int kvs.length,b)
  | some (.st ks)=>some (.int ks.length,b)
  | some (.dT kvs)=>some (.int kvs.length,b)
  | _=>none
 | _=>p5 ds b
noncomputable def oP:MF:=fun ds a=>match ds with
 | [x]=>(bQ a x).map fun b=>(.tup b,a)
 | _=>none
theorem OL {K:SV}:gP K oP (fun xs H Q=>∃ p b,xs=[.ref p]/\((SqL K H p b/\∀ l,H l=none->Q (.ref l) (aQ H l (.tup b)))\/(SqT K H p b/\Q (.ref p) H))):=by
 intro h H s xs d o r Q R i a k
 unfold oP at a
 split at a
 ·obtain ⟨b,j,m⟩:=SY.mp a
  cases m
  cases i with
  | cons i t=>
   cases t
   obtain ⟨p,e,rfl,q,hd⟩:=sQ R i j
   refine ⟨p,e,rfl,?_⟩
   rcases q with q|q
   ·refine .inl ⟨q,fun l n=>?_⟩
    obtain ⟨c,R2⟩:=R.fresh (o:=.tup e) n
    exact k h _ _ c R2 (.tup (.of cQ) (hd.mono c))
   ·exact .inr ⟨q,k h _ H .refl R (.tup q hd)⟩
 ·cases a
noncomputable def yI (x:Str):Option MF:=
 if x = "len" then some cP
 else if x = "isinstance" then some cW
 else if x = "tuple" then some oP
 else none
noncomputable def OM (K:SV):List V->Hp->VK->Prop:=fun xs H Q=>w4 K xs H Q\/(∃ a kvs,xs=[V.ref a]/\H a=some (.dK kvs)/\Q (.int kvs.length) H)\/(∃ a L,xs=[V.ref a]/\H a=some (sJ a L)/\Q (.int L.length) H)\/DG K xs H Q
theorem ON {K:SV}:gP K cP (OM K):=by
 intro l H o s d j n Q R i b k
 unfold cP at b
 split at b
 ·rename_i a
  split at b
  ·rename_i u c
   refine .inl (Cb l H o _ d j n Q R i ?_ k)
   simp only [p5,bQ,c]
   exact b
  ·rename_i h c
   cases b
   cases i with
   | cons i t=>
    cases t
    cases i
    obtain ⟨r,e,m,_⟩:=R.dK a h c
    refine .inr (.inl ⟨_,r,rfl,e,?_⟩)
    have:=congrArg Vi m
    rw [S3,S3] at this
    rw [this]
    exact k l _ H .refl R (.int _)
  ·rename_i p c
   cases b
   cases i with
   | cons i t=>
    cases t
    cases i
    obtain ⟨L,e,m,_⟩:=R.st a p c
    have:=congrArg Vi m
    rw [S3] at this
    refine .inr (.inr (.inl ⟨_,L,rfl,e,?_⟩))
    rw [this]
    exact k l _ H .refl R (.int _)
  ·rename_i h c
   cases b
   cases i with
   | cons i t=>
    cases t
    cases i
    obtain ⟨q,e,T⟩:=mO R c
    have:=congrArg Vi T.to.1
    rw [S3,S3] at this
    refine .inr (.inr (.inr ⟨_,q,rfl,e,T.keys,?_⟩))
    rw [this]
    exact k l _ H .refl R (.int _)
  ·cases b
 ·exact .inl (Cb l H o _ d j n Q R i b k)
theorem OO {X:Cx}{x:Str}{f:MF}(a:X.calm=true)(b:X.A.units+64<Vf)(h:yI x=some f):∃ v r,U9 x=some v/\((∃ id,v=.builtin id)\/∃ T,v=.type T)/\CallR X v r/\gP X.K f r/\x ≠ "__name__":=by
 unfold yI at h
 split at h
 ·rename_i e;subst e;cases h;exact ⟨_,_,a1o,.inl ⟨_,rfl⟩,call_lenM.or (call_lenD.or (call_lenT.or NZ)),ON,by decide⟩
 split at h
 ·rename_i e;subst e;cases h;exact ⟨_,_,Wn,.inl ⟨_,rfl⟩,KA,Kz,by decide⟩
 split at h
 ·rename_i e;subst e;cases h;exact ⟨_,_,WJ,.inr ⟨_,rfl⟩,Bm,OL,by decide⟩
 ·cases h
noncomputable def yJ (x:Str):Option MF:=
 if x = "dict" then some mQ else
 yI x
theorem OP {X:Cx}{x:Str}{f:MF}(a:X.calm=true)(b:X.A.units+64<Vf)(h:yJ x=some f):∃ v r,U9 x=some v/\((∃ id,v=.builtin id)\/∃ T,v=.type T)/\CallR X v r/\gP X.K f r/\x ≠ "__name__":=by
 unfold yJ at h
 split at h
 ·rename_i e;subst e;cases h;exact ⟨_,_,Yi,.inr ⟨_,rfl⟩,Oe a b,Of,by decide⟩
 exact OO a b h
noncomputable def DZ (m:Str)(n:Nat):Option (D->List D->Hm->Option (D×Hm)):=
 if n=1 then (if m = "append" then some kW
  else if m = "extend" then some n5
  else none)
 else none
noncomputable def D0 (S:Sig)(o:Expr)(m:Str)(n:Nat):Option (D->List D->Hm->Option (D×Hm)):=
 if m = "get"/\n=2 then some jB else
 none
noncomputable def yK (S:Sig)(F:Str->MF)(r:Expr->ME)(c:Cs)(f:Expr)(args:List Expr)(a:Va):ME:=match f with
 | .Name x _=>if glob c x&&args.all cN then (match S.fn.lookup x with
   | some n=>if args.length=n then aK (F x) (fX r args) else bE
   | none=>if S.no.contains x&&!args.isEmpty then (match yJ x with|some g=>aK g (fX r args)|none=>bE) else bE)
  else bE
 | .Attribute o m apos=>if mD o&&(apos.endLine == a.line)&&args.all cN then (
   match D0 S o m args.length with
   | some g=>kH g (r o) (fX r args)
   | none=>
   if m = "split" then (match args with|[b]=>dJ fF (r o) (fX r [b])|_=>bE) else
   match DZ m args.length with
   | some g=>jW g (r o) (fX r args)
   | none=>
    if m = "join" then (match args with|[b]=>dJ fD (r o) (fX r [b])|_=>bE) else
    bE)
  else bE
 | _=>bE
noncomputable def yL:Expr->Option (Expr×List Expr)
 | .Call f as [] _=>some (f,as)
 | _=>none
theorem OQ {e f:Expr}{as:List Expr}(h:yL e=some (f,as)):∃ pos,e=.Call f as [] pos:=by
 unfold yL at h
 split at h
 ·cases h;exact ⟨_,rfl⟩
 ·cases h
noncomputable def mT:Expr->Option Str
 | .Name x _=>some x
 | _=>none
theorem yM {e:Expr}{x:Str}(h:mT e=some x):∃ p,e=.Name x p:=by
 unfold mT at h
 split at h
 ·cases h;exact ⟨_,rfl⟩
 ·cases h
noncomputable def o1:List Expr->Option Expr
 | [e]=>some e
 | _=>none
theorem D1 {l:List Expr}{e:Expr}(h:o1 l=some e):l=[e]:=by
 unfold o1 at h
 split at h
 ·cases h;rfl
 ·cases h
noncomputable def D2 (f:Expr)(args:List Expr):Option (Str×Str×Expr):=(mT f).bind fun x=>(o1 args).bind fun a=>(yL a).bind fun g=>(mT g.1).bind fun y=>(o1 g.2).map fun e=>(x,y,e)
theorem OR {f:Expr}{args:List Expr}{x y:Str}{e:Expr}(h:D2 f args=some (x,y,e)):∃ p c pos,f=.Name x p/\args=[.Call (.Name y c) [e] [] pos]:=by
 obtain ⟨n,d,h⟩:=SS.mp h
 obtain ⟨a,i,h⟩:=SS.mp h
 obtain ⟨g,j,h⟩:=SS.mp h
 obtain ⟨o,b,h⟩:=SS.mp h
 obtain ⟨m,l,h⟩:=SY.mp h
 cases h
 obtain ⟨p,rfl⟩:=yM d
 obtain ⟨pos,rfl⟩:=OQ j
 obtain ⟨c,b⟩:=yM b
 exact ⟨p,c,pos,rfl,by rw [D1 i,b,D1 l]⟩
noncomputable def yN (S:Sig)(F:Str->MF)(r:Expr->ME)(c:Cs)(f:Expr)(args:List Expr)(a:Va):ME:=
 yK S F r c f args a
noncomputable def yO:Expr->Option (Expr×Va×Va)
 | .Call g [] [] cpos=>match g with
  | .Attribute o m apos=>if m = "items" then some (o,apos,cpos) else none
  | _=>none
 | _=>none
theorem OS {e o:Expr}{a b:Va}(h:yO e=some (o,a,b)):e=.Call (.Attribute o "items" a) [] [] b:=by
 unfold yO at h
 split at h
 ·split at h
  ·split at h
   ·rename_i c;cases h;rw [c]
   ·cases h
  ·cases h
 ·cases h
noncomputable def OT (f:Expr)(args:List Expr):Option (Expr×Va×Va):=(D2 f args).bind fun t=>if t.1 = "tuple"/\t.2.1 = "sorted" then yO t.2.2 else none
noncomputable def yP (S:Sig)(F:Str->MF)(r:Expr->ME)(c:Cs)(f:Expr)(args:List Expr)(a:Va):ME:=
 match OT f args with
 | some q=>if glob c "sorted" && glob c "tuple" && S.no.contains "sorted" && S.no.contains "tuple" && mD q.1&&(q.2.1.endLine == q.2.2.line) then oO (r q.1) else bE
 | none=>
 yN S F r c f args a
noncomputable def qZ (c:Cs)(scope:V1)(xs:List Str):Bool:=
 (scope.names.all fun y=>decide (y.2≠.cell))&&decide (scope.kind=.function)&&(scope.names.all fun y=>decide (y.2≠.local)||decide (scope.names.lookup y.1=some .local)) &&
 (xs.all fun x=>decide (scope.names.lookup x=some .local))&&decide xs.Nodup&&(scope.names.all fun y=>decide (y.2≠.free)||decide (c.ks.lookup y.1=some .cell)||decide (c.ks.lookup y.1=some .free)) &&
 (scope.names.all fun y=>decide (y.2≠.local)||!(bC xs c.N).contains y.1)&&decide (bC xs c.N).Nodup&&(c.N.all fun y=>!xs.contains y||decide (scope.names.lookup (nQ y)=none))
noncomputable def q8 (c:Cs)(scope:V1)(xs:List Str):Cs:=
 ⟨bC xs c.N++xs,scope.names.map fun (n,k)=>if (k == VJ&&c.ks.lookup n == some .cell) then (n,VY) else (n,k)⟩
noncomputable def D3 (r:Expr->MT):List Expr->MT
 | []=>eV
 | [t]=>r t
 | _=>l9
noncomputable def yQ (S:Sig)(c:Cs):Expr->Option (List Expr)
 | .Call (.Name x _) args [] _=>if x = "range" then (if glob c x&&S.no.contains x&&args.all cN then some args else none) else none
 | _=>none
noncomputable def tY (S:Sig)(r:Expr->ME)(c:Cs)(e:Expr):MI:=match yQ S c e with
 | some [a]=>iD (fX r [a])
 | some [a,b]=>jV (fX r [a,b])
 | some _=>xA
 | none=>dN (r e)
noncomputable def yR (S:Sig)(c:Cs):Expr->Option Expr
 | .Call (.Name x _) [a] [] _=>if x = "enumerate" then (if glob c x&&S.no.contains x&&cN a then some a else none) else none
 | _=>none
noncomputable def yS (S:Sig)(r:Expr->ME)(c:Cs)(e:Expr):MI:=match yR S c e with
 | some _=>xA
 | none=>tY S r c e
noncomputable def yT (S:Sig)(r:Expr->ME)(c:Cs)(e:Expr):MI:=yS S r c e
noncomputable def yU:Expr->Option (List Str)
 | .Name x _=>some [x]
 | .Tuple es _ _=>es.mapM fun e=>match e with|.Name x _=>some x|_=>none
 | _=>none
noncomputable def yV:Expr->Nat->BD
 | .Tuple ..,n=>B8 n
 | _,_=>pZ
noncomputable def tZ (S:Sig)(r:Expr->ME)(c:Cs)(tg e:Expr):MI:=match tg with
 | .Tuple ..=>yT S r c e
 | _=>tY S r c e
noncomputable def rB (b:MI)(d:Cs->Expr->ME)(e:Cs->Expr->MT)(c:Cs)(elt tg iter:Expr)(ifs:List Expr)(scope:V1):ME:=match yU tg with
 | some a=>if qZ c scope a&&fB iter then l8 (yV tg a.length) b (D3 (e (q8 c scope a)) ifs) (d (q8 c scope a) elt) else bE
 | none=>bE
noncomputable def t6 (S:Sig)(a:Cs->Expr->ME)(b:Cs->Expr->MT)(c:Cs)(elt tg iter:Expr)(ifs:List Expr)(scope:V1):ME:=
 rB (tZ S (a c) c tg iter) a b c elt tg iter ifs scope
noncomputable def D4:Const->ME
 | .int i=>mC (.int i)
 | .bool b=>mC (.bl b)
 | .str s=>mC (.str s)
 | .none=>mC .non
 | _=>bE
noncomputable def D5 (m:ME):UnaryOp->ME
 | .USub=>qB m
 | .Not=>jP m
 | _=>bE
noncomputable def yW (S:Sig)(r:Expr->ME)(a:Expr):List Xc->List Expr->ME
 | [op],[b]=>k4 op (fB b) (r a) (r b)
 | [op,op'],[b,b']=>(match j9 op,j9 op' with
  | some p,some q=>i9 (fP p) (fP q) (r a) (r b) (r b')
  | _,_=>bE)
 | _,_=>bE
noncomputable def yX (r:Expr->ME)(keys:List (Option Expr))(a:List Expr):ME:=match yG r keys a with
 | some b=>if !keys.isEmpty&&decide (keys.length<=15) then jU b else bE
 | none=>bE
noncomputable def yY (r:Expr->ME):List (Option Expr)->List Expr->ME
 | [],[]=>kY
 | keys,values=>yX r keys values
noncomputable def yZ (S:Sig)(r:Expr->ME)(c:Cs)(a b:Expr):ME:=match b with
 | .Slice lo hi none _=>cI (r a) (yH r lo) (yH r hi)
 | b=>if lZ b then aB aH (r a) (r b) else bE
noncomputable def zA (r:Expr->ME)(es:List Expr):ME:=if es.all cN then eE (fX r es) else bE
noncomputable def zB (r:Expr->ME)(es:List Expr):ME:=if es.all cN then dG (fX r es) else bE
noncomputable def zC (S:Sig)(F:Str->MF)(r:Expr->ME)(c:Cs)(f:Expr)(args:List Expr)(a:Va):List Wz->ME
 | []=>yP S F r c f args a
 | _=>bE
noncomputable def zD (S:Sig)(a:Cs->Expr->ME)(b:Cs->Expr->MT)(c:Cs)(elt:Expr)(scope:V1):List Comprehension->ME
 | [⟨tg,iter,ifs,0⟩]=>t6 S a b c elt tg iter ifs scope
 | _=>bE
noncomputable def zE (S:Sig)(f:Expr)(args:List Expr):Option (Expr×Str):=match f with
 | .Name x _=>(match args with
  | [a,b]=>(match b with
   | .Name cn _=>if (x == "isinstance" && ((S.sup.lookup cn).isSome||(cn == "ValueError" && !S.sup.isEmpty)))=true then some (a,cn) else none
   | _=>none)
  | _=>none)
 | _=>none
theorem OU {S:Sig}{f:Expr}{args:List Expr}{a:Expr}{b:Str}(h:zE S f args=some (a,b)):(∃ p q,f=.Name "isinstance" p/\args=[a,.Name b q])/\((S.sup.lookup b).isSome=true\/b = "ValueError"):=by
 unfold zE at h
 split at h
 ·split at h
  ·split at h
   ·split at h
    ·rename_i hc
     cases h
     rw [SW,beq_iff_eq,V3,SW,beq_iff_eq] at hc
     rw [hc.1]
     exact ⟨⟨_,_,rfl,rfl⟩,hc.2.imp id (·.1)⟩
    ·cases h
   ·cases h
  ·cases h
 ·cases h
noncomputable def D6 (S:Sig)(F:Str->MF)(d:Cs->Expr->ME)(e:Cs->Expr->MT)(c:Cs):Expr->ME
 | .Name x _=>yF S c x
 | .Constant v _ _=>D4 v
 | .BinOp a op b _=>DY op (d c a) (d c b)
 | .UnaryOp op a _=>D5 (d c a) op
 | .Compare a ops bs _=>yW S (d c) a ops bs
 | .BoolOp op vs _=>qY op (vs.map (d c))
 | .IfExp t a b _=>iV (e c t) (d c a) (d c b)
 | .Tuple es _ _=>zA (d c) es
 | .List es _=>zB (d c) es
 | .Dict keys values _=>yY (d c) keys values
 | .Subscript a b _=>yZ S (d c) c a b
 | .Call f args kws cpos=>zC S F (d c) c f args cpos kws
 | .ListComp elt gs scope _=>zD S d e c elt scope gs
 | _=>bE
noncomputable def rC (r:Expr->ME)(e:Expr):MT:=if qD e then cC (r e) else l9
noncomputable def zF (S:Sig)(r:Expr->ME)(a:Expr)(ops:List Xc)(bs:List Expr)(p:Va):MT:=match ops,bs with
 | [op],[b]=>aO (k4 op (fB b) (r a) (r b))
 | [op,op'],[b,b']=>(match j9 op,j9 op' with
  | some p,some q=>aO (i9 (fP p) (fP q) (r a) (r b) (r b'))
  | _,_=>l9)
 | ops,bs=>rC r (.Compare a ops bs p)
noncomputable def OV (r:Expr->ME)(t:MT)(a:Expr)(p:Va):UnaryOp->MT
 | .Not=>t
 | op=>rC r (.UnaryOp op a p)
noncomputable def D7 (S:Sig)(b:Cs->Expr->ME)(d:Cs->Expr->MT)(c:Cs):Expr->MT
 | .BoolOp op vs _=>tX op (vs.map (d c))
 | .UnaryOp op a p=>OV (b c) (dC (d c a)) a p op
 | .Compare a ops bs p=>zF S (b c) a ops bs p
 | e=>rC (b c) e
noncomputable def tr (S:Sig)(F:Str->MF):Nat->(Cs->Expr->ME)×(Cs->Expr->MT)
 | 0=>(fun _ _=>bE,fun _ _=>l9)
 | n+1=>(D6 S F (tr S F n).1 (tr S F n).2,D7 S (tr S F n).1 (tr S F n).2)
structure XcOk (S:Sig)(K:SV):Prop where
 sub:∀ x ys c,S.sup.lookup x=some ys->(S.sup.lookup c).isSome=true->qI K x c=some (ys.contains c)
 isx:∀ x ys c,S.sup.lookup x=some ys->(S.sup.lookup c).isSome=true->∃ C,i6 K c=some C/\gW K (.ref C) x=some (ys.contains c)
 isv:∀ x ys,S.sup.lookup x=some ys->gW K (.type "ValueError") x=some (ys.contains "ValueError")
 plain:∀ x ys,S.sup.lookup x=some ys->S.cls.lookup x=none->∃ C,ClsK K x C
structure Okx (S:Sig)(F:Str->MF)(k:Nat)(c:Cs)(X:Cx):Prop where
 N:X.N=c.N
 nd:X.N.Nodup
 ks:X.env.scope.names=c.ks
 kind:X.env.scope.kind=.function
 calm:X.calm=true
 room:Room k X.A
 never:a2E (TH X.prog X.w) X.A X.env X.xe
 fn:∀ x n,S.fn.lookup x=some n->∃ (f:Addr)(fd:U1)(ps:List Str),FnOk X.prog X.w X.K X.mg X.base d7 k f fd ps (e8 X.K n (F x))/\X.mg x=some (.ref f)/\UR X.K (.ref f)=true/\Binds X.K fd ps []
 con:∀ x d,S.con.lookup x=some d->∃ v u,X.mg x=some u/\RelV v u/\∀ π n H,IsD X.K π n H v d
 tab:∀ x kvs,S.tab.lookup x=some kvs->TabOk X x kvs
 no:∀ x,S.no.contains x=true->X.mg x=none
 xc:XcOk S X.K
section
variable {S:Sig}{F:Str->MF}{k:Nat}{c:Cs}{X:Cx}
theorem oQ (ks:X.env.scope.names=c.ks){x:Str}(h:glob c x=true):Gl X x/\(x == ("__debug__":Str))=false:=by
 unfold glob at h
 rw [SW] at h
 refine ⟨?_,by simpa using h.2⟩
 show X.env.scope.names.lookup x=_
 rw [ks]
 exact of_decide_eq_true h.1
theorem D8 (ks:X.env.scope.names=c.ks){x:Str}(h:iU c x=true):m9 X.env.scope x/\(x == ("__debug__":Str))=false/\(x == ("__classdict__":Str))=false:=by
 unfold iU at h
 rw [SW,SW,V3,V3] at h
 obtain ⟨⟨a,b⟩,d⟩:=h
 refine ⟨?_,by simpa using b,by simpa using d⟩
 unfold m9
 rw [ks]
 rcases a with (a|a)|a
 ·exact .inl (of_decide_eq_true a)
 ·exact .inr (.inl (of_decide_eq_true a))
 ·exact .inr (.inr (of_decide_eq_true a))
theorem Okx.gl (O:Okx S F k c X){x:Str}(h:glob c x=true):Gl X x/\(x == ("__debug__":Str))=false:=oQ O.ks h
theorem Okx.vis (O:Okx S F k c X){x:Str}(h:iU c x=true):m9 X.env.scope x/\(x == ("__debug__":Str))=false/\(x == ("__classdict__":Str))=false:=D8 O.ks h
theorem OW (O:Okx S F k c X)(x:Str)(pos:Va):QE X (.Name x pos) (yF S c x):=by
 unfold yF
 split
 ·rename_i h
  obtain ⟨a,b,l⟩:=O.vis h
  split
  ·rename_i i o
   exact Ck i (by rw [O.N];exact kZ o) a b l
  ·exact bG
 split
 ·rename_i h
  obtain ⟨a,b⟩:=O.gl h
  split
  ·rename_i d hd
   obtain ⟨v,u,m,r,i⟩:=O.con x d hd
   exact ⟨nG (GJ a m r b) i⟩
  ·split
   ·rename_i p
    split
    ·rename_i n q
     obtain ⟨e,j⟩:=OK q
     exact Lm (O.no x p) e a j b
    ·exact bG
   ·exact bG
 ·exact bG
theorem jC {r:Expr->ME}(a:∀ e,QE X e (r e)):∀ (es:List Expr),es.all cN=true->QA X es (fX r es) es.length
 | [],_=>La
 | e::es,h=>by
  rw [Ul,SW] at h
  exact Lb (a e) (jC a es h.2) h.1
theorem zG {r:Expr->ME}(a:∀ e,QE X e (r e))(op:BoolOp)(pos:Va):∀ (vs:List Expr),QE X (.BoolOp op vs pos) (qY op (vs.map r))
 | []=>bG
 | [e]=>K6 (a e)
 | e::d::es=>by
  have b:=zG a op pos (d::es)
  cases op with
  | And=>exact K7 (a e) b
  | Or=>exact K8 (a e) b
theorem D9 {r:Expr->MT}(a:∀ e,QT X e (r e))(op:BoolOp)(pos:Va):∀ (vs:List Expr),QW X (.BoolOp op vs pos) (tX op (vs.map r))
 | []=>L1
 | [e]=>by
  cases op with
  | And=>exact LA (a e)
  | Or=>exact LB (a e)
 | e::d::es=>by
  have b:=D9 a op pos (d::es)
  cases op with
  | And=>exact LC (a e) b
  | Or=>exact LD (a e) b
theorem OX {a b:Expr}{h i:ME}(d:QE X a h)(e:QE X b i)(op:a0i)(pos:Va):QE X (.BinOp a op b pos) (DY op h i):=by
 cases op with
 | Add=>exact KR d e
 | Sub=>exact KS d e
 | Mult=>exact KU d e
 | FloorDiv=>exact KW d e
 | Mod=>exact KY d e
 | _=>exact bG
theorem OY (O:Okx S F k c X){a b:Expr}{i j:ME}(d:QE X a i)(e:QE X b j)(op:Xc)(pos:Va):QE X (.Compare a [op] [b] pos) (k4 op (fB b) i j):=by
 cases op with
 | Eq=>exact K0 O.room d e
 | NotEq=>exact K1 O.room d e
 | Lt=>exact K2 d e
 | LtE=>exact K3 d e
 | Gt=>exact K4 d e
 | GtE=>exact K5 d e
 | In=>
  simp only [k4]
  split
  ·rename_i h;exact N3 O.room d e h
  ·exact bG
 | NotIn=>
  simp only [k4]
  split
  ·rename_i h;exact N4 O.room d e h
  ·exact bG
 | Is=>exact Nz d e
 | IsNot=>exact NA d e
theorem Ea {e:Expr}:QT X e (aO bE):=⟨fun a3A s σ H Q I h=>by
 obtain ⟨j,l,i,d,b,R,E,a,k⟩:=h
 cases a⟩
theorem OZ (O:Okx S F k c X){a b:Expr}{i j:ME}(d:QE X a i)(e:QE X b j)(op:Xc)(pos:Va):QT X (.Compare a [op] [b] pos) (aO (k4 op (fB b) i j)):=by
 cases op with
 | Eq=>exact Lq O.room d e
 | NotEq=>exact Lr O.room d e
 | Lt=>exact Ls d e
 | LtE=>exact Lu d e
 | Gt=>exact Lv d e
 | GtE=>exact Lx d e
 | In=>
  simp only [k4]
  split
  ·rename_i h;exact N5 O.room d e h
  ·exact Ea
 | NotIn=>
  simp only [k4]
  split
  ·rename_i h;exact N6 O.room d e h
  ·exact Ea
 | Is=>exact NB d e
 | IsNot=>exact NC d e
theorem Eb {r:Expr->ME}(b:∀ e,QE X e (r e))(pos:Va):∀ (ks:List (Option Expr))(vs:List Expr)(a:List (ME×ME)),yG r ks vs=some a->QP X pos ks vs a
 | [],[],a,h=>by cases h;exact Ln
 | some k::ks,v::vs,a,h=>by
  obtain ⟨t,d,i⟩:=SY.mp h
  subst i
  exact Lo (b k) (b v) (Eb b pos ks vs t d)
 | none::ks,vs,a,h=>by cases vs<;>cases h
 | some k::ks,[],a,h=>by cases h
 | [],v::vs,a,h=>by cases h
theorem Ec {r:Expr->ME}(a:∀ e,QE X e (r e)):∀ o:Option Expr,QO X o (yH r o)
 | none=>Lg
 | some e=>Lh (a e)
theorem O0 (O:Okx S F k c X){r:Expr->ME}(l:∀ e,QE X e (r e))(f:Expr)(args:List Expr)(i:Va):QE X (.Call f args [] i) (yK S F r c f args i):=by
 unfold yK
 split
 ·rename_i x p
  split
  ·rename_i q
   rw [SW] at q
   obtain ⟨y,z⟩:=O.gl q.1
   have b:=jC l args q.2
   split
   ·rename_i n B
    split
    ·rename_i d
     obtain ⟨R,U,Y,E,a,M,A⟩:=O.fn x n B
     subst d
     cases args with
     | nil=>exact Me E O.room a M A y z
     | cons e w=>exact Lj E O.room a M A b y z
    ·exact bG
   ·split
    ·rename_i h
     rw [SW] at h
     split
     ·rename_i g A
      obtain ⟨v,Z,H,N,I,K,L⟩:=OP (X:=X) O.calm O.room.units A
      cases args with
      | nil=>exact absurd h.2 (by simp)
      | cons e w=>
       rcases N with ⟨id,rfl⟩|⟨T,rfl⟩
       ·exact Lk I K (O.no x h.1) H b y L z
       ·exact Ll I K (O.no x h.1) H b y L z
     ·exact bG
    ·exact bG
  ·exact bG
 ·rename_i o m G
  split
  ·rename_i q
   rw [SW,SW] at q
   obtain ⟨⟨s,u⟩,Q⟩:=q
   have b:=jC l args Q
   split
   ·rename_i g a
    unfold D0 at a
    split at a
    ·rename_i d
     obtain ⟨rfl,d⟩:=d
     cases a
     cases args with
     | nil=>cases d
     | cons e w=>exact OA ZU PySem.F.type_dict_get (OC (by have:=O.room.units;omega)) OB (l o) b s u (by rw [d];decide)
    cases a
   split
   ·rename_i j
    subst j
    split
    ·exact Dt PySem.F.slot_str_split PySem.F.type_str_split OJ OI (l o) b s u (by show 1<30;decide)
    ·exact bG
   split
   ·rename_i g a
    unfold DZ at a
    split at a
    ·rename_i d
     cases args with
     | nil=>cases d
     | cons e w=>
      have B:(e::w).length<30:=by rw [d];decide
      split at a
      ·rename_i j;subst j;cases a
       exact CK PySem.F.slot_list_append PySem.F.type_list_append Bp Ma (l o) b s u B
      split at a
      ·rename_i j;subst j;cases a
       exact CK PySem.F.slot_list_extend PySem.F.type_list_extend IS Mb (l o) b s u B
      ·cases a
    ·cases a
   ·skip
    split
    ·rename_i j
     subst j
     split
     ·exact Dt PySem.F.slot_str_join PySem.F.type_str_join NH NG (l o) b s u (by show 1<30;decide)
     ·exact bG
    ·exact bG
  ·exact bG
 ·exact bG
theorem O1 (O:Okx S F k c X){r:Expr->ME}(b:∀ e,QE X e (r e))(f:Expr)(args:List Expr)(a:Va):QE X (.Call f args [] a) (yN S F r c f args a):=by
 unfold yN
 exact O0 O b f args a
theorem t7 (O:Okx S F k c X){scope:V1}{xs:List Str}(h:qZ c scope xs=true):CompSt X.env.scope X.N scope xs/\xs.Nodup:=by
 unfold qZ at h
 rw [SW,SW] at h
 obtain ⟨⟨h,b⟩,q⟩:=h
 have b:=of_decide_eq_true b
 have d:∀ y∈c.N,xs.contains y=true->scope.names.lookup (nQ y)=none:=fun y a hc=>by
  have:=Vk.mp q y a
  rw [hc] at this
  simpa using this
 simp only [SW,Vk,decide_eq_true_eq,V3,Wi,List.contains_eq_mem,decide_eq_false_iff_not] at h
 obtain ⟨⟨⟨⟨⟨⟨i,j⟩,l⟩,m⟩,p⟩,n⟩,o⟩:=h
 refine ⟨⟨i,j,fun y a e=>(l y a).resolve_left (fun z=>z e),m,fun y a r=>?_,fun y a e=>?_,O.nd,by rw [O.N];exact b,by rw [O.N];exact d⟩,p⟩
 ·rw [O.ks]
  rcases n y a with (z|z)|z
  ·exact absurd r z
  ·exact .inl z
  ·exact .inr z
 ·rw [O.N]
  have:=(o y a).resolve_left (fun z=>z e)
  exact this
theorem Ed {N xs:List Str}(h:N.Nodup)(d:xs.Nodup)(i:∀ x∈xs,x∉N):(N++xs).Nodup:=by
 rw [Wf]
 exact ⟨h,d,fun a j b l e=>by subst e;exact i _ l j⟩
theorem Okx.comp (O:Okx S F k c X){scope:V1}{xs:List Str}(h:qZ c scope xs=true){b:List (Str×Addr)}{C:Addr}{s₀:SX}{H₀:Hp}{d:List Addr}:Okx S F k (q8 c scope xs) (cF X scope b C (bC xs X.N++xs) s₀ H₀ d):=by
 obtain ⟨St,hnd⟩:=t7 O h
 refine ⟨show bC xs X.N++xs=bC xs c.N++xs by rw [O.N],?_,?_,?_,O.calm,O.room,a0s,O.fn,O.con,fun y a q=>⟨(O.tab y a q).ex⟩,O.no
  ,O.xc
  ⟩
 ·show (bC xs X.N++xs).Nodup
  exact Ed St.hnd hnd fun x e=>St.own (x,.local) (UQ (St.here x e)) rfl
 ·show (a2s scope X.env).names=(q8 c scope xs).ks
  unfold a2s q8
  dsimp only
  refine Uv fun y _=>?_
  obtain ⟨n,i⟩:=y
  dsimp only
  have:(X.env.scope.kind == ScopeKind.function)=true:=by rw [O.kind];rfl
  rw [this,a2j]
  show (if (i == VJ&&X.env.scope.names.lookup n == some VY)=true then _ else _)=_
  rw [O.ks]
 ·show (a2s scope X.env).kind=.function
  exact St.kind
theorem Ee {r:Expr->MT}(l:∀ e,QT X e (r e)):∀ es:List Expr,QI X es (D3 r es)
 | []=>LG
 | [t]=>LH (l t)
 | a::b::es=>⟨fun i s q H Q I h=>by
   obtain ⟨o,p,n,d,m,R,E,j,k⟩:=h
   cases j⟩
theorem Ef (O:Okx S F k c X){e:Expr}{args:List Expr}(h:yQ S c e=some args):∃ p pos,e=.Call (.Name "range" p) args [] pos/\Gl X "range"/\X.mg "range" = none/\args.all cN=true:=by
 unfold yQ at h
 split at h
 ·split at h
  ·rename_i b
   subst b
   split at h
   ·rename_i a
    cases h
    rw [SW,SW] at a
    exact ⟨_,_,rfl,(O.gl a.1.1).1,O.no _ a.1.2,a.2⟩
   ·cases h
  ·cases h
 ·cases h
theorem Eg (O:Okx S F k c X){r:Expr->ME}(l:∀ e,QE X e (r e))(e:Expr):QJ X e (tY S r c e):=by
 unfold tY
 split
 ·rename_i a h
  obtain ⟨p,pos,rfl,d,i,j⟩:=Ef O h
  exact LS d i (jC l [a] j)
 ·rename_i a b h
  obtain ⟨p,pos,rfl,d,i,j⟩:=Ef O h
  exact LU d i (jC l [a,b] j)
 ·exact j_bad
 ·exact LR (l e)
theorem O2 (O:Okx S F k c X){e a:Expr}(h:yR S c e=some a):∃ p pos,e=.Call (.Name "enumerate" p) [a] [] pos/\Gl X "enumerate"/\X.mg "enumerate" = none/\cN a=true:=by
 unfold yR at h
 split at h
 ·split at h
  ·rename_i d
   subst d
   split at h
   ·rename_i b
    cases h
    rw [SW,SW] at b
    exact ⟨_,_,rfl,(O.gl b.1.1).1,O.no _ b.1.2,b.2⟩
   ·cases h
  ·cases h
 ·cases h
theorem O3 (O:Okx S F k c X){r:Expr->ME}(b:∀ e,QE X e (r e))(e:Expr):QJT X e (yS S r c e):=by
 unfold yS
 split
 ·rename_i a h
  obtain ⟨p,pos,rfl,d,i,j⟩:=O2 O h
  exact j_bad.t
 ·exact (Eg O b e).t
theorem O4 (O:Okx S F k c X){r:Expr->ME}(a:∀ e,QE X e (r e))(e:Expr):QJT X e (yT S r c e):=by
 unfold yT
 exact O3 O a e
theorem zH (O:Okx S F k c X){r:Expr->ME}(a:∀ e,QE X e (r e))(tg e:Expr):PI X tg e (iX X.K (tZ S r c tg e)):=by
 unfold tZ
 split
 ·exact (O4 O a e).h _ _ _
 ·exact (Eg O a e).h _
theorem Eh {iter:Expr}{env:XN}(h:fB iter=true):∀ x,Wo iter env x=pure x:=by
 intro z
 cases iter<;>first|rfl|cases h
end
theorem Ei {X:Cx}(c:X.N.Nodup):∀ (es:List Expr)(xs:List Str)(n:Nat),(es.mapM fun e=>match e with|.Name x _=>some x|_=>none)=some xs->(∀ j x,xs[j]? = some x->X.N[n+j]? = some x/\X.env.scope.names.lookup x=some .local)->QGs X es (XH n xs.length)
 | [],xs,n,h,hx=>by
  cases h
  exact Ct
 | e::es,xs,n,h,hx=>by
  rw [List.mapM_cons] at h
  obtain ⟨x,b,h⟩:=SS.mp h
  obtain ⟨l,d,h⟩:=SS.mp h
  cases h
  cases e with
  | Name y p=>
   cases b
   rw [Tw,Y4]
   have a:=hx 0 x rfl
   refine Cu n c (Ei c es l (n+1) d fun j z i=>?_) (by simpa using a.1) (.inl a.2) (.inr a.2)
   have:=hx (j+1) z (by simpa using i)
   rw [show n+1+j=n+(j+1) by omega]
   exact this
  | _=>cases b
theorem t8 {S:Sig}{F:Str->MF}{k:Nat}{c:Cs}{X:Cx}(O:Okx S F k c X){scope:V1}{tg:Expr}{xs:List Str}(b:yU tg=some xs)(h:qZ c scope xs=true)(e:List (Str×Addr))(C:Addr)(s₀:SX)(H₀:Hp)(i:List Addr) :
  PG (cF X scope e C (bC xs X.N++xs) s₀ H₀ i) tg (fQ X.K (gB X.N.length (yV tg xs.length)))/\∀ d n z,yV tg xs.length d n=some z->z.length=xs.length:=by
 obtain ⟨St,hnd⟩:=t7 O h
 have o:(bC xs X.N++xs).Nodup:=Ed St.hnd hnd fun x b=>St.own (x,.local) (UQ (St.here x b)) rfl
 have a:∀ x∈xs,(a2s scope X.env).names.lookup x=some .local:=fun x b=>lookup_relabel_local (St.here x b)
 unfold yU at b
 split at b
 ·rename_i x p
  cases b
  refine ⟨LV (X:=cF X scope e C (bC [x] X.N++[x]) s₀ H₀ i) (by show (bC [x] X.N++[x]).length=_;rw [Te,lV];rfl) (B5 (X:=cF X scope e C (bC [x] X.N++[x]) s₀ H₀ i) o (by show (bC [x] X.N++[x])[X.N.length]? = _;rw [<- lV [x] X.N];simp) (.inl (a x (by simp))) (.inr (a x (by simp)))),fun d n z m=>?_⟩
  cases m
  rfl
 ·rename_i r v pt
  refine ⟨LW (X:=cF X scope e C (bC xs X.N++xs) s₀ H₀ i) (by show (bC xs X.N++xs).length=_;rw [Te,lV]) (w8 (X:=cF X scope e C (bC xs X.N++xs) s₀ H₀ i) (Ei (X:=cF X scope e C (bC xs X.N++xs) s₀ H₀ i) o r xs X.N.length b fun j x q=>⟨?_,a x (TQ q)⟩) O.calm).h,fun d n z m=>?_⟩
  ·show (bC xs X.N++xs)[X.N.length+j]? = some x
   rw [Tv (by rw [lV];omega),lV,show X.N.length+j - X.N.length=j by omega]
   exact q
  ·obtain ⟨w,u,l⟩:=SS.mp m
   split at l
   ·rename_i s
    cases l
    rw [S3];exact s
   ·cases l
 ·cases b
theorem O5 (O:Okx S F k c X){r:Expr->ME}(j:∀ e,QE X e (r e))(f:Expr)(args:List Expr)(a:Va):QE X (.Call f args [] a) (yP S F r c f args a):=by
 unfold yP
 split
 ·rename_i q h
  split
  ·rename_i i
   rw [SW,SW,SW,SW,SW] at i
   obtain ⟨⟨⟨⟨⟨l,m⟩,s⟩,u⟩,st⟩,o⟩:=i
   obtain ⟨t,n,d⟩:=SS.mp h
   split at d
   ·rename_i b
    obtain ⟨p,v,pos,rfl,rfl⟩:=OR n
    rw [b.1,b.2,OS d]
    exact OH O.calm O.room.units (O.no _ s) (O.no _ u) (O.gl l).1 (O.gl m).1 (j _) st o
   ·cases d
  ·exact bG
 exact O1 O j _ _ _
theorem Ej {S:Sig}{F:Str->MF}{k:Nat}{n:Cs->Expr->ME}{o:Cs->Expr->MT}(p:∀ c X,Okx S F k c X->∀ e,QE X e (n c e))(r:∀ c X,Okx S F k c X->∀ e,QT X e (o c e))(c:Cs)(X:Cx)(O:Okx S F k c X)
  (elt tg iter:Expr)(ifs:List Expr)(scope:V1)(pos:Va){m:MI}(u:PI X tg iter (iX X.K m)):QE X (.ListComp elt [⟨tg,iter,ifs,0⟩] scope pos) (rB m n o c elt tg iter ifs scope):=by
 unfold rB
 split
 ·rename_i x l
  split
  ·rename_i h
   rw [SW] at h
   refine ⟨fun i s w H Q I q=>?_⟩
   exact LZ ((t7 O h.1).1.ok I.ok) O.calm u (fun d v z=>(t8 O l h.1 [] 0 s H []).2 d v z) (fun C b a j=>(t8 O l h.1 _ C b a j).1) (fun C b a j=>(Ee (r _ _ (O.comp h.1)) _).h) (fun C b a j=>(p _ _ (O.comp h.1) _).h) (Eh h.2) i s w H Q I q
  ·exact bG
 ·exact bG
theorem O6 {S:Sig}{F:Str->MF}{k:Nat}{b:Cs->Expr->ME}{d:Cs->Expr->MT}(a:∀ c X,Okx S F k c X->∀ e,QE X e (b c e))(h:∀ c X,Okx S F k c X->∀ e,QT X e (d c e))(c:Cs)(X:Cx)(O:Okx S F k c X)
  (elt tg iter:Expr)(ifs:List Expr)(scope:V1)(pos:Va):QE X (.ListComp elt [⟨tg,iter,ifs,0⟩] scope pos) (t6 S b d c elt tg iter ifs scope):=by
 unfold t6
 exact Ej a h c X O elt tg iter ifs scope pos (zH O (a c X O) tg iter)
theorem O7 {X:Cx}{pos:Va}{keys:List (Option Expr)}{a:List Expr}{b:List (ME×ME)}(h:QP X pos keys a b)(d:(!keys.isEmpty)=true)(c:keys.length<=15):QE X (.Dict keys a pos) (jU b):=by
 cases keys with
 | nil=>exact absurd d (by simp)
 | cons e i=>exact Lp h c
section
variable {S:Sig}{F:Str->MF}{k:Nat}{c:Cs}{X:Cx}{r:Expr->ME}
theorem O8 (v:Const)(n:Nat)(p:Va):QE X (.Constant v n p) (D4 v):=by
 cases v<;>first|exact KO|exact Cm|exact KP|exact KQ|exact bG
theorem O9 (b:∀ e,QE X e (r e))(op:UnaryOp)(a:Expr)(p:Va):QE X (.UnaryOp op a p) (D5 (r a) op):=by
 cases op<;>first|exact KZ (b _)|exact Cn (b _)|exact bG
theorem Pa (O:Okx S F k c X)(b:∀ e,QE X e (r e))(a:Expr)(ops:List Xc)(bs:List Expr)(p:Va):QE X (.Compare a ops bs p) (yW S r a ops bs):=by
 unfold yW
 split
 ·exact OY O (b _) (b _) _ _
 ·split
  ·rename_i d h
   exact Nx d h (b _) (b _) (b _)
  ·exact bG
 ·exact bG
theorem Pb (b:∀ e,QE X e (r e))(ks:List (Option Expr))(vs:List Expr)(p:Va):QE X (.Dict ks vs p) (yX r ks vs):=by
 unfold yX
 split
 ·rename_i d h
  split
  ·rename_i a
   rw [SW] at a
   exact O7 (Eb b _ _ _ _ h) a.1 (of_decide_eq_true a.2)
  ·exact bG
 ·exact bG
theorem Pc (O:Okx S F k c X)(a:∀ e,QE X e (r e))(ks:List (Option Expr))(vs:List Expr)(p:Va):QE X (.Dict ks vs p) (yY r ks vs):=by
 unfold yY
 try split
 ·exact NQ
 ·exact Pb a _ _ _
theorem Pd (O:Okx S F k c X)(d:∀ e,QE X e (r e))(a b:Expr)(p:Va):QE X (.Subscript a b p) (yZ S r c a b):=by
 unfold yZ
 split
 ·exact Li (d _) (Ec d _) (Ec d _)
 ·split
  ·rename_i h
   ·exact N0 O.room (d _) (d _) h
  ·exact bG
theorem zI (a:∀ e,QE X e (r e))(e:Expr):QT X e (rC r e):=by
 unfold rC
 split
 ·rename_i h;exact Md (a _) h
 ·exact xB
theorem Pe (O:Okx S F k c X)(b:∀ e,QE X e (r e))(a:Expr)(ops:List Xc)(bs:List Expr)(p:Va):QT X (.Compare a ops bs p) (zF S r a ops bs p):=by
 unfold zF
 split
 ·exact OZ O (b _) (b _) _ _
 ·split
  ·rename_i d h
   exact Ny d h (b _) (b _) (b _)
  ·exact xB
 ·exact zI b _
theorem Pf (a:∀ e,QE X e (r e))(es:List Expr)(n:Nat)(p:Va):QE X (.Tuple es n p) (zA r es):=by
 unfold zA
 split
 ·rename_i h;exact Lc (jC a _ h)
 ·exact bG
theorem Pg (a:∀ e,QE X e (r e))(es:List Expr)(p:Va):QE X (.List es p) (zB r es):=by
 unfold zB
 split
 ·rename_i h;exact Ld (jC a _ h)
 ·exact bG
theorem Ph (O:Okx S F k c X)(b:∀ e,QE X e (r e))(f:Expr)(args:List Expr)(a:List Wz)(p:Va):QE X (.Call f args a p) (zC S F r c f args p a):=by
 unfold zC
 split
 ·exact O5 O b _ _ _
 ·exact bG
theorem Pj (gl:∀ {x:Str},glob c x=true->Gl X x/\(x == ("__debug__":Str))=false) (no:∀ x,S.no.contains x=true->X.mg x=none)(w:XcOk S X.K){a:Expr}{m:ME}(K:QE X a m){d:Str}{U Y p:Va}(q:(S.sup.lookup d).isSome=true\/d = "ValueError") :
  QE X (.Call (.Name "isinstance" U) [a,.Name d Y] [] p) (if glob c "isinstance" && S.no.contains "isinstance" && glob c d&&cN a&&(!(d == "ValueError")||S.no.contains "ValueError") then fV (fun x=>(S.sup.lookup x).map fun e=>e.contains d) m else bE):=by
 split
 ·rename_i h
  rw [SW,SW,SW,SW] at h
  obtain ⟨⟨⟨⟨A,B⟩,o⟩,E⟩,R⟩:=h
  have L:∀ n,(∀ x e,S.sup.lookup x=some e->gW X.K n x=some (e.contains d))->∀ x b,(S.sup.lookup x).map (fun e=>e.contains d)=some b->gW X.K n x=some b:=fun n j x b T=>by
   obtain ⟨e,N,O⟩:=SY.mp T
   rw [<- O]
   exact j x e N
  by_cases j:d = "ValueError"
  ·subst j
   refine CU (cv:=.type "ValueError") K E (gl A).1 (no _ B) (fun l s Z H Q I z=>?_) (L _ fun x e g=>w.isv x e g)
   have u:S.no.contains "ValueError" = true:=by simpa using R
   exact iT I (gl o).1 (no _ u) a1r z
  ·have hc:=q.resolve_right j
   obtain ⟨y,v⟩:=Ut.mp hc
   obtain ⟨C,G,_⟩:=w.isx d y d v hc
   refine CU (cv:=.ref C) K E (gl A).1 (no _ B) (fun l s Z H Q I z=>?_) (L _ fun x e g=>?_)
   ·exact jL I (gl o).1 (Ws I.mod.kin I.mod.glob (mH G)) z (gl o).2
   ·obtain ⟨C',i,M⟩:=w.isx x e d g hc
    rw [G] at i
    cases i
    exact M
 ·exact bG
end
theorem Ek {S:Sig}{F:Str->MF}{k:Nat}{o:Cs->Expr->ME}{q:Cs->Expr->MT}(z:∀ c X,Okx S F k c X->∀ e,QE X e (o c e))(A:∀ c X,Okx S F k c X->∀ e,QT X e (q c e))(c:Cs)(X:Cx)(O:Okx S F k c X) :
  (∀ e,QE X e (D6 S F o q c e))/\∀ e,QT X e (D7 S o q c e):=by
 have d:=z c X O
 have u:=A c X O
 constructor
 ·intro e
  cases e with
  | Name x p=>exact OW O _ _
  | Constant v n p=>exact O8 v n p
  | BinOp a j b p=>exact OX (d _) (d _) _ _
  | UnaryOp j a p=>exact O9 d j a p
  | Compare a h bs p=>exact Pa O d a h bs p
  | BoolOp j y p=>exact zG d _ _ _
  | IfExp t a b p=>exact K9 (u _) (d _) (d _)
  | Tuple s n p=>exact Pf d s n p
  | List s p=>exact Pg d s p
  | Dict E y p=>exact Pc O d E y p
  | Subscript a b p=>exact Pd O d a b p
  | Call f l w m=>exact Ph O d f l w m
  | ListComp r B i p=>
   show QE X _ (zD S o q c r i B)
   unfold zD
   split
   ·exact O6 z A c X O _ _ _ _ _ _
   ·exact bG
  | _=>exact bG
 ·intro e
  cases e with
  | BoolOp j y p=>exact LF (D9 u _ _ _)
  | UnaryOp j a p=>
   cases j
   case Not=>exact Lz (u _)
   all_goals exact zI d _
  | Compare a h bs p=>exact Pe O d a h bs p
  | _=>exact zI d _
theorem rD {S:Sig}{F:Str->MF}{k:Nat}:∀ (n:Nat),(∀ c X,Okx S F k c X->∀ e,QE X e ((tr S F n).1 c e))/\∀ c X,Okx S F k c X->∀ e,QT X e ((tr S F n).2 c e)
 | 0=>⟨fun c X O e=>bG,fun c X O e=>xB⟩
 | n+1=>by
  have a:=rD (S:=S) (F:=F) (k:=k) n
  exact ⟨fun c X O e=>(Ek a.1 a.2 c X O).1 e,fun c X O e=>(Ek a.1 a.2 c X O).2 e⟩
end L3
namespace L3
open PySem L2
noncomputable def t9:MG:=fun _ _ _=>none
noncomputable def rF (c:Cs):List Expr->Option (List Nat)
 | []=>some []
 | .Name x _::r=>if kI c x then (gX x c.N).bind fun i=>(rF c r).map (i::·) else none
 | _=>none
noncomputable def zJ (c:Cs):Expr->MG
 | .Name x _=>if kI c x then (match gX x c.N with|some i=>eF i|none=>t9) else t9
 | .Tuple es _ _=>match rF c es with|some is=>nS is|none=>t9
 | _=>t9
noncomputable def iJ (r:Stmt->MS):List Stmt->MS
 | []=>a8
 | [s]=>r s
 | s::t=>aR (r s) (iJ r t)
noncomputable def zK (S:Sig)(E:Cs->Expr->ME)(T:Cs->Expr->MT)(c:Cs)(i:Nat):Expr->MS
 | .ListComp elt [⟨tg,iter,ifs,0⟩] scope _=>aW i (t6 S E T c elt tg iter ifs scope)
 | _=>bY
noncomputable def zL (S:Sig)(E:Cs->Expr->ME)(T:Cs->Expr->MT)(c:Cs)(tg e:Expr):MS:=match tg with
 | .Name y _=>if kI c y then (match gX y c.N with
   | some i=>if eG e then aW i (E c e) else zK S E T c i e
   | none=>bY) else bY
 | .Tuple es _ _=>if w9 e then (match rF c es with|some is=>wZ (E c e) (nS is)|none=>bY)
   else bY
 | .Subscript o i _=>if eG e&&lZ i then jA (E c o) (E c i) (E c e) else bY
 | _=>bY
noncomputable def Em (S:Sig)(E:Cs->Expr->ME)(T:Cs->Expr->MT)(c:Cs)(r:Stmt->MS):Stmt->MS
 | .Return (some e) _=>aV (E c e)
 | .Return none _=>aV (mC .non)
 | .If t a b _=>a9 (T c t) (iJ r a) (iJ r b)
 | .Assign [tg] e _=>zL S E T c tg e
 | .Expr e _=>if eG e then gQ (E c e) else bY
 | .For tg iter body [] _=>if fB iter then fT (tZ S (E c) c tg iter) (zJ c tg) (iJ r body) else bY
 | .Pass _=>a8
 | _=>bY
section
variable {S:Sig}{F:Str->MF}{k:Nat}{c:Cs}{X:Cx}
theorem Okx.own (O:Okx S F k c X){x:Str}(h:kI c x=true):L2.Loc X.env.scope x:=by
 unfold kI at h
 rw [V3] at h
 unfold L2.Loc
 rw [O.ks]
 exact h.imp of_decide_eq_true of_decide_eq_true
theorem zM (O:Okx S F k c X)(a:∀ x,X.fn x=true):∀ (es:List Expr)(is:List Nat),rF c es=some is->QGs X es is
 | [],is,h=>by cases h;exact Ct
 | e::es,is,h=>by
  cases e with
  | Name x p=>
   unfold rF at h
   split at h
   ·rename_i j
    obtain ⟨i,b,h⟩:=SS.mp h
    obtain ⟨l,d,h⟩:=SY.mp h
    subst h
    exact Cu i O.nd (zM O a es l d) (by rw [O.N];exact kZ b) (O.own j) (.inl (a x))
   ·cases h
  | _=>cases h
theorem Pk (O:Okx S F k c X)(b:∀ x,X.fn x=true)(e:Expr):QG X e (zJ c e):=by
 unfold zJ
 split
 ·split
  ·rename_i d
   split
   ·rename_i i a
    exact LN i O.nd (by rw [O.N];exact kZ a) (O.own d) (.inl (b _))
   ·exact sV fun _ _ _=>rfl
  ·exact sV fun _ _ _=>rfl
 ·split
  ·rename_i is a
   exact w8 (zM O b _ is a) O.calm
  ·exact sV fun _ _ _=>rfl
 ·exact sV fun _ _ _=>rfl
theorem jD {r:Stmt->MS}(a:∀ s,QS X s (r s)):∀ ss:List Stmt,QB X ss (iJ r ss)
 | []=>LI
 | [s]=>LK (a s)
 | s::t::ts=>LJ (a s) (jD a (t::ts))
theorem Pl {elt tg iter:Expr}{ifs:List Expr}{scope:V1}{pos py:Va}{y:Str}{n:Nat}{env:XN} :
  ∃ b:Bool,XM (.ListComp elt [⟨tg,iter,ifs,0⟩] scope pos) (some (.Name y py)) n env=pure b/\(b=true->env.kindOf y=some .local):=by
 refine ⟨env.blockKind == .function&&env.kindOf y == some .local&&py.line == pos.line&&!(scope.names.any fun (n,k)=>n == y&&(k == .local||k == .cell)),rfl,fun h=>?_⟩
 simp only [SW,beq_iff_eq] at h
 exact h.1.1.2
theorem Pm (O:Okx S F k c X)(G:∀ x,X.fn x=true){E:Cs->Expr->ME}{T:Cs->Expr->MT}(u:∀ c X,Okx S F k c X->∀ e,QE X e (E c e))(v:∀ c X,Okx S F k c X->∀ e,QT X e (T c e))
  {i:Nat}{y:Str}{py l:Va}(w:X.N[i]? = some y)(K:kI c y=true)(elt tg iter:Expr)(ifs:List Expr)(scope:V1)(pos:Va){B:MI}(n:PI X tg iter (iX X.K B)):QS X (.Assign [.Name y py] (.ListComp elt [⟨tg,iter,ifs,0⟩] scope pos) l) (aW i (rB B E T c elt tg iter ifs scope)):=by
  obtain ⟨b,m,r⟩:=Pl (elt:=elt) (tg:=tg) (iter:=iter) (ifs:=ifs) (scope:=scope) (pos:=pos) (py:=py) (y:=y) (n:=l.line) (env:=X.env)
  cases b with
  | false=>exact ⟨BQ O.nd w (O.own K) (Ej u v c X O elt tg iter ifs scope pos n).h m (.inl (G y))⟩
  | true=>
   unfold rB
   split
   ·rename_i N A
    split
    ·rename_i h
     rw [SW] at h
     refine ⟨fun o s M H D I q=>?_⟩
     exact L0 ((t7 O h.1).1.ok I.ok) O.nd O.calm n (fun d L z=>(t8 O A h.1 [] 0 s H []).2 d L z) (fun C j a p=>(t8 O A h.1 _ C j a p).1) (fun C j a p=>(Ee (v _ _ (O.comp h.1)) _).h) (fun C j a p=>(u _ _ (O.comp h.1) _).h) (Eh h.2) w (r rfl) m o s M H D I q
    ·exact Dr
   ·exact Dr
theorem Pn (O:Okx S F k c X)(h:∀ x,X.fn x=true){E:Cs->Expr->ME}{T:Cs->Expr->MT}(b:∀ c X,Okx S F k c X->∀ e,QE X e (E c e))(d:∀ c X,Okx S F k c X->∀ e,QT X e (T c e))
  {i:Nat}{y:Str}{py a:Va}(j:X.N[i]? = some y)(l:kI c y=true)(e:Expr):QS X (.Assign [.Name y py] e a) (zK S E T c i e):=by
 unfold zK
 split
 ·exact Pm O h b d j l _ _ _ _ _ _ (zH O (b c X O) _ _)
 ·exact cS
theorem Po (O:Okx S F k c X)(d:∀ x,X.fn x=true){E:Cs->Expr->ME}{T:Cs->Expr->MT}(b:∀ c X,Okx S F k c X->∀ e,QE X e (E c e))(n:∀ c X,Okx S F k c X->∀ e,QT X e (T c e))(tg e:Expr)(pos:Va) :
  QS X (.Assign [tg] e pos) (zL S E T c tg e):=by
 unfold zL
 split
 ·split
  ·rename_i m
   split
   ·rename_i i j
    have a:=kZ j
    rw [<- O.N] at a
    split
    ·rename_i l
     exact Cr i O.nd (b c X O e) l a (O.own m) (.inl (d _))
    ·exact Pn O d b n a m e
   ·exact cS
  ·exact cS
 ·split
  ·rename_i l
   split
   ·rename_i is j
    exact LP (b c X O e) (w8 (zM O d _ is j) O.calm) l
   ·exact cS
  ·exact cS
 ·split
  ·rename_i h
   rw [SW] at h
   exact N7 O.room (b c X O _) (b c X O _) (b c X O _) h.1
  ·exact cS
 ·exact cS
theorem Pp (O:Okx S F k c X)(u:∀ x,X.fn x=true){E:Cs->Expr->ME}{T:Cs->Expr->MT}(j:∀ c X,Okx S F k c X->∀ e,QE X e (E c e))(q:∀ c X,Okx S F k c X->∀ e,QT X e (T c e)){r:Stmt->MS}(l:∀ s,QS X s (r s))(st:Stmt) :
  QS X st (Em S E T c r st):=by
 cases st with
 | Return o p=>
  cases o with
  | none=>exact Mf
  | some e=>exact Cp (j c X O _)
 | If t a b p=>exact Cq (q c X O _) (jD l _) (jD l _)
 | Assign m e p=>
  cases m with
  | nil=>exact cS
  | cons v w=>
   cases w with
   | nil=>exact Po O u j q _ _ _
   | cons _ _=>exact cS
 | Expr e p=>
  show QS X _ (if eG e then gQ (E c e) else bY)
  split
  ·rename_i h;exact LM (j c X O _) h
  ·exact cS
 | For v i n d p=>
  cases d with
  | cons _ _=>exact cS
  | nil=>
   show QS X _ (if fB i then _ else bY)
   split
   ·rename_i h
    exact ND (zH O (j c X O) _ _) (Pk O u _) (jD l _) O.never O.calm h
   ·exact cS
 | Pass p=>exact LL
 | _=>exact cS
end
noncomputable def cG (st:Stmt):List Str:=(d6 st).args.map (·.arg)
noncomputable def eI (st:Stmt):List Str:=cG st++(bF st).names.filterMap fun y=>if (y.2 == NameKind.local||y.2 == VY)&&!(cG st).contains y.1 then some y.1 else none
noncomputable def mU (st:Stmt):Bool:=
 decide ((bF st).kind=.function)&&!(bF st).isCoroutine&&!(bF st).isGenerator&&decide (eI st).Nodup &&
 ((cG st).all fun x=>decide ((bF st).names.lookup x=some .local)||decide ((bF st).names.lookup x=some .cell))&&((bF st).names.all fun y=>decide (y.2≠.free))
theorem Eo {st:Stmt}(h:mU st=true):FnScope (eI st) (cG st) (bF st):=by
 unfold mU at h
 simp only [SW,decide_eq_true_eq,Wi,Vk,V3] at h
 obtain ⟨⟨⟨⟨⟨a,b⟩,c⟩,d⟩,e⟩,i⟩:=h
 exact ⟨a,b,c,d,by unfold eI;simp,e,i⟩
noncomputable def oR:Nat:=40
noncomputable def oS:Nat:=40
noncomputable def mV (S:Sig)(G:Str->RF)(E:Expr->ME)(c:Cs):Expr->MR
 | .Call f args kws _=>(match f,args,kws with
  | .Name x _,e::es,[]=>if glob c x&&decide (S.fn.lookup x=some (e::es).length)&&(e::es).all cN&&S.rz.contains x then qF (G x) (fX E (e::es)) else bZ
  | _,_,_=>bZ)
 | _=>bZ
noncomputable def uA:Option Expr->Option (Str×List Expr)
 | some (.Call f args kws _)=>(match f,kws with
  | .Name x _,[]=>some (x,args)
  | _,_=>none)
 | _=>none
theorem Pq {e:Option Expr}{x:Str}{args:List Expr}(h:uA e=some (x,args)):∃ p q,e=some (.Call (.Name x p) args [] q):=by
 unfold uA at h
 split at h
 ·split at h
  ·cases h;exact ⟨_,_,rfl⟩
  ·cases h
 ·cases h
noncomputable def uB (S:Sig)(k:Nat)(E:Expr->ME)(c:Cs)(x:Str)(args:List Expr):MR:=
 if glob c x then (match S.cls.lookup x with
  | some _=>bZ
  | none=>(match args with
   | e::es=>if (S.sup.lookup x).isSome&&(e::es).all cN&&decide ((e::es).length<=30) then mG x (fX E (e::es)) else bZ
   | []=>bZ)
  ) else bZ
noncomputable def oU (N:Stmt->MS)(r:Stmt->MR):List Stmt->MR
 | []=>bZ
 | s::t=>dO (N s) (r s) (oU N r t)
noncomputable def mW:List Expr->Bool
 | [t]=>(mT t).isSome
 | _=>false
theorem Pr {tg:List Expr}(h:mW tg=true):∃ x p,tg=[.Name x p]:=by
 cases tg with
 | nil=>cases h
 | cons t a=>
  cases a with
  | cons _ _=>cases h
  | nil=>
   cases t with
   | Name x p=>exact ⟨x,p,rfl⟩
   | _=>cases h
noncomputable def Ep (S:Sig)(G:Str->RF)(k:Nat)(E:Expr->ME)(T:Expr->MT)(c:Cs)(N:Stmt->MS)(r:Stmt->MR):Stmt->MR
 | .Expr e _=>if eG e then mV S G E c e else bZ
 | .Return (some e) _=>mV S G E c e
 | .Assign tg e _=>if mW tg&&eG e then mV S G E c e else bZ
 | .If t a b _=>jX (T t) (oU N r a) (oU N r b)
 | .Raise e o _=>if o.isNone then (match uA e with
  | some q=>uB S k E c q.1 q.2
  | none=>bZ) else bZ
 | _=>bZ
noncomputable def zN (S:Sig)(c:Cs):Expr->ME
 | .Name x _=>if iU c x then (match gX x c.N with|some i=>aA i|none=>bE) else bE
 | _=>bE
noncomputable def uC:List Expr->Option (List Str)
 | []=>some []
 | e::r=>(mT e).bind fun x=>(uC r).map (x::·)
noncomputable def zO (f:Expr)(args:List Expr):Option (Expr×List Str):=match f with
 | .Name x _=>if (x == "isinstance")=true then (match args with
  | [a,b]=>(match b with
   | .Tuple es _ _=>(uC es).map fun l=>(a,l)
   | _=>none)
  | _=>none) else none
 | _=>none
noncomputable def Er (S:Sig)(U:Str->MF)(c:Cs)(r:Expr->ME)(f:Expr)(args:List Expr):ME:=match zE S f args with
 | some q=>if glob c "isinstance" && S.no.contains "isinstance" && glob c q.2&&cN q.1&&(!(q.2 == "ValueError")||S.no.contains "ValueError") then fV (fun x=>(S.sup.lookup x).map fun d=>d.contains q.2) (r q.1) else bE
 | none=>(match zO f args with
  | some q=>if glob c "isinstance" && S.no.contains "isinstance" && cN q.1&&(q.2.all fun n=>glob c n&&(S.sup.lookup n).isSome)&&decide (q.2.length<=Td)&&!q.2.isEmpty then fV (fun x=>((S.sup.lookup x).map fun d=>q.2.map fun n=>d.contains n).map fun b=>b.any id) (r q.1) else bE
  | none=>(match f with
   | .Name g _=>(match args with
    | [a]=>if glob c g&&cN a&&(S.uf.lookup g).isSome then aK (U g) (aC (r a) aD) else bE
    | _=>bE)
   | _=>bE))
noncomputable def zP (S:Sig)(U:Str->MF)(c:Cs)(r:Expr->ME):Expr->ME
 | .Constant v _ _=>(match v with
  | .bool b=>mC (.bl b)
  | _=>bE)
 | .UnaryOp op a _=>(match op with
  | .Not=>jP (r a)
  | _=>bE)
 | .BoolOp op es _=>qY op (es.map r)
 | .Call f args kws _=>(match kws with
  | []=>Er S U c r f args
  | _=>bE)
 | e=>zN S c e
noncomputable def oV (S:Sig)(U:Str->MF)(c:Cs):Nat->Expr->ME
 | 0=>fun _=>bE
 | n+1=>zP S U c (oV S U c n)
noncomputable def rG (r:Expr->ME):Nat->Stmt->MS
 | 0=>fun _=>bY
 | n+1=>fun st=>match st with
  | .Return (some e) _=>aV (r e)
  | .If t a b _=>if qD t then a9 (aO (r t)) (iJ (rG r n) a) (iJ (rG r n) b) else bY
  | _=>bY
noncomputable def mX:Nat:=9
noncomputable def k6 (S:Sig)(x:Str):MF:=match S.uf.lookup x with
 | some st=>pX (eI st).length (iJ (rG (oV { S with uf:=[] } (fun _ _ _=>none) ⟨eI st,(bF st).names⟩ mX) mX) (cH st))
 | none=>fun _ _=>none
noncomputable def Es (S:Sig)(c:Cs):Stmt->MS
 | .Assign tg e _=>(match tg with
  | [t]=>(match mT t with
   | some y=>if kI c y&&eG e then (match gX y c.N with|some i=>aW i (oV S (k6 S) c mX e)|none=>bY) else bY
   | none=>bY)
  | _=>bY)
 | _=>bY
noncomputable def zQ:List a0J->Option (Str×Str×List Stmt)
 | [.ExceptHandler (some t) (some y) (b::bs) _]=>(match t with
  | .Name cn _=>some (cn,y,b::bs)
  | _=>none)
 | _=>none
theorem Pt {a:List a0J}{q:Str×Str×List Stmt}(h:zQ a=some q):∃ p c b bs,a=[.ExceptHandler (some (.Name q.1 p)) (some q.2.1) (b::bs) c]/\q.2.2=b::bs:=by
 unfold zQ at h
 split at h
 ·split at h
  ·cases h;exact ⟨_,_,_,_,rfl,rfl⟩
  ·cases h
 ·cases h
noncomputable def Et (S:Sig)(c:Cs)(N:Stmt->MS)(r:Stmt->MR)(body:List Stmt)(a:List a0J):MS:=match zQ a with
 | some q=>if glob c q.1&&(S.sup.lookup q.1).isSome&&decide (c.ks.lookup q.2.1=some .local) then (match gX q.2.1 c.N with
  | some i=>n9 (iJ N body) (oU N r body) (fun x=>(S.sup.lookup x).map fun b=>b.contains q.1) i (iJ (Es S c) q.2.2)
  | none=>bY) else bY
 | none=>bY
noncomputable def zR (S:Sig)(E:Cs->Expr->ME)(T:Cs->Expr->MT)(c:Cs)(N:Stmt->MS)(r:Stmt->MR):Stmt->MS
 | .Try body hs [] [] _=>Et S c N r body hs
 | st=>Em S E T c N st
noncomputable def iK (S:Sig)(F:Str->MF)(G:Str->RF)(k m:Nat)(c:Cs):Nat->(Stmt->MS)×(Stmt->MR)
 | 0=>(fun _=>bY,fun _=>bZ)
 | n+1=>(zR S (tr S F m).1 (tr S F m).2 c (iK S F G k m c n).1 (iK S F G k m c n).2,Ep S G k ((tr S F m).1 c) ((tr S F m).2 c) c (iK S F G k m c n).1 (iK S F G k m c n).2)
noncomputable abbrev zS (S:Sig)(U:Str->MF)(X:Cx):Prop:=∀ x,(S.uf.lookup x).isSome=true->∃ (f:Addr)(a:U1)(ps:List Str),FnU X.prog X.w X.K X.mg X.base f a ps (e8 X.K 1 (U x))/\X.mg x=some (.ref f)/\UR X.K (.ref f)=true/\Binds X.K a ps []
structure Okr (S:Sig)(F:Str->MF)(G:Str->RF)(k:Nat)(c:Cs)(Y:Cx):Prop where
 o:Okx S F k c Y.nox
 ex:Y.ex=[]
 st:Y.stack=Y.env::Y.outer
 fr:∃ L,Y.env.frame=some L
 own:∀ x,Y.fn x=true
 rf:∀ x n,S.fn.lookup x=some n->∃ (f:Addr)(fd:U1)(ps:List Str),FnOk Y.prog Y.w Y.K Y.mg Y.base (iF Y.prog Y.w) k f fd ps (n8 Y.K n (G x))/\Y.mg x=some (.ref f)/\UR Y.K (.ref f)=true/\Binds Y.K fd ps []
 uf:zS S (k6 S) Y
section
variable {S:Sig}{F:Str->MF}{G:Str->RF}{k:Nat}{c:Cs}{Y:Cx}
theorem zT (O:Okr S F G k c Y){E:Expr->ME}(n:∀ e,QE Y.nox e (E e))(e:Expr):QRE Y e (mV S G E c e):=by
 unfold mV
 split
 ·split
  ·split
   ·rename_i h
    rw [SW,SW,SW,decide_eq_true_eq] at h
    obtain ⟨⟨⟨a,b⟩,d⟩,_⟩:=h
    obtain ⟨f,o,p,i,j,l,m⟩:=O.rf _ _ b
    exact My O.ex i O.o.room (O.o.gl a).1 j l m (jC n _ d) (O.o.gl a).2
   ·exact xI
  ·exact xI
 ·exact xI
theorem Pu (O:Okr S F G k c Y){E:Expr->ME}(l:∀ e,QE Y.nox e (E e))(x:Str)(args:List Expr)(p q pos:Va):QR Y (.Raise (some (.Call (.Name x p) args [] q)) none pos) (uB S k E c x args):=by
 unfold uB
 split
 ·rename_i a
  split
  ·exact iG
  ·rename_i m
   split
   ·split
    ·rename_i h
     rw [SW,SW,decide_eq_true_eq] at h
     obtain ⟨⟨b,d⟩,i⟩:=h
     obtain ⟨o,n⟩:=Ut.mp b
     obtain ⟨C,j⟩:=O.o.xc.plain x o n m
     exact MJ j O.ex O.o.calm (O.o.gl a).1 (jC l _ d) i (O.o.gl a).2
    ·exact iG
   ·exact iG
 ·exact iG
theorem rH {N:Stmt->MS}{r:Stmt->MR}(a:∀ s,QS Y.nox s (N s))(b:∀ s,QR Y s (r s)):∀ ss:List Stmt,QRB Y ss (oU N r ss)
 | []=>Mw
 | s::t=>Mv (a s) (b s) (rH a b t)
theorem Pw (O:Okr S F G k c Y){E:Expr->ME}{T:Expr->MT}(d:∀ e,QE Y.nox e (E e))(m:∀ e,QT Y.nox e (T e)){N:Stmt->MS}{r:Stmt->MR}(j:∀ s,QS Y.nox s (N s))(l:∀ s,QR Y s (r s))(st:Stmt):QR Y st (Ep S G k E T c N r st):=by
 cases st with
 | Expr e p=>
  show QR Y _ (if eG e then mV S G E c e else bZ)
  split
  ·rename_i h;exact Ms (zT O d _) h
  ·exact iG
 | Return o p=>
  cases o with
  | none=>exact iG
  | some e=>exact Mt (zT O d _)
 | Assign u e p=>
  show QR Y _ (if mW u&&eG e then mV S G E c e else bZ)
  split
  ·rename_i h
   rw [SW] at h
   obtain ⟨x,p,rfl⟩:=Pr h.1
   exact Mu (zT O d _) h.2
  ·exact iG
 | If t a b p=>exact Mx (m _) (rH j l _) (rH j l _)
 | Raise e o p=>
  cases o with
  | some _=>exact iG
  | none=>
   show QR Y _ (match uA e with
    | some q=>uB S k E c q.1 q.2
    | none=>bZ)
   split
   ·rename_i q n
    obtain ⟨x,i⟩:=q
    obtain ⟨v,w,rfl⟩:=Pq n
    exact Pu O d _ _ _ _ _
   ·exact iG
 | _=>exact iG
theorem Px {X:Cx}(l:X.N=c.N)(ks:X.env.scope.names=c.ks)(n:XcOk S X.K)(e:Expr):QE X e (zN S c e):=by
 have m:∀ x p i,iU c x=true->gX x c.N=some i->QE X (.Name x p) (aA i):=fun x p i h a=>by
  obtain ⟨b,d,j⟩:=D8 ks h
  exact Ck i (by rw [l];exact kZ a) b d j
 unfold zN
 split
 ·split
  ·rename_i h
   split
   ·rename_i i a;exact m _ _ i h a
   ·exact bG
  ·exact bG
 ·exact bG
theorem Py {f:Expr}{args:List Expr}{a:Expr}{l:List Str}(h:zO f args=some (a,l)):∃ p es i j,f=.Name "isinstance" p/\args=[a,.Tuple es i j]/\uC es=some l:=by
 unfold zO at h
 split at h
 ·split at h
  ·rename_i e
   cases beq_iff_eq.mp e
   split at h
   ·split at h
    ·obtain ⟨m,b,d⟩:=SY.mp h
     cases d
     exact ⟨_,_,_,_,rfl,rfl,b⟩
    ·cases h
   ·cases h
  ·cases h
 ·cases h
theorem Eu {X:Cx}(ks:X.env.scope.names=c.ks)(b:X.K.In X.base)(o:X.base.Ns Ux X.mg)(j:XcOk S X.K):∀ {es:List Expr}{l:List Str},uC es=some l->(l.all fun n=>glob c n&&(S.sup.lookup n).isSome)=true->
  ∃ Cs,tG X es Cs/\Cs.length=l.length/\∀ x d,S.sup.lookup x=some d->Cs.map (fun C=>gW X.K (.ref C) x)=(l.map fun n=>d.contains n).map some
 | [],l,h,_=>by cases h;exact ⟨[],trivial,rfl,fun _ _ _=>rfl⟩
 | e::r,l,h,ha=>by
  obtain ⟨x,z,h⟩:=SS.mp h
  obtain ⟨I,v,w⟩:=SY.mp h
  cases w
  obtain ⟨p,rfl⟩:=yM z
  rw [Ul,SW,SW] at ha
  obtain ⟨Cs,A,B,E⟩:=Eu ks b o j v ha.2
  obtain ⟨m,i⟩:=Ut.mp ha.1.2
  obtain ⟨C,q,_⟩:=j.isx x m x i ha.1.2
  have g:=oQ (X:=X) ks ha.1.1
  refine ⟨C::Cs,⟨g.1,Ws b o (mH q),g.2,A⟩,by rw [Tw,Tw,B],fun y d s=>?_⟩
  obtain ⟨H,a,u⟩:=j.isx y d x s ha.1.2
  rw [q] at a
  cases a
  rw [S7,S7,S7,u,E y d s]
theorem zU {X:Cx}{U:Str->MF}(v:X.N=c.N)(ks:X.env.scope.names=c.ks)(no:∀ x,S.no.contains x=true->X.mg x=none)(i:XcOk S X.K)(w:zS S U X)(hd:S.uf≠[]->X.A.depth<XS):∀ (n:Nat)(e:Expr),QE X e (oV S U c n e)
 | 0,_=>bG
 | n+1,e=>by
  have d:=zU v ks no i w hd n
  show QE X e (zP S U c (oV S U c n) e)
  unfold zP
  split
  ·split
   ·exact Cm
   ·exact bG
  ·split
   ·exact Cn (d _)
   ·exact bG
  ·exact zG d _ _ _
  ·split
   ·unfold Er
    split
    ·rename_i q r
     obtain ⟨a,cn⟩:=q
     obtain ⟨⟨p1,p2,rfl,rfl⟩,o⟩:=OU r
     exact Pj (oQ ks) no i (d a) o
    ·split
     ·rename_i q r
      obtain ⟨a,l⟩:=q
      obtain ⟨p,es,kt,tp,rfl,rfl,T⟩:=Py r
      split
      ·rename_i h
       rw [SW,SW,SW,SW,SW,decide_eq_true_eq] at h
       obtain ⟨⟨⟨⟨⟨E,K⟩,L⟩,M⟩,N⟩,O⟩:=h
       refine ⟨fun j s σ H Q I t=>?_⟩
       obtain ⟨Cs,Z,t2,t3⟩:=Eu ks I.mod.kin I.mod.glob i T M
       refine (M4 (sup:=fun x=>(S.sup.lookup x).map fun u=>l.map fun n=>u.contains n) (d a) L (oQ ks E).1 (no _ K) Z (by rw [t2];exact N) fun x b R=>?_).h j s σ H Q I t
       obtain ⟨u,m,rfl⟩:=SY.mp R
       refine ⟨t3 x u m,fun z=>?_⟩
       rw [Ww] at z
       subst z
       cases O
      ·exact bG
     ·split
      ·split
       ·split
        ·rename_i h
         rw [SW,SW] at h
         obtain ⟨f,fd,ps,m,y,A,B⟩:=w _ h.2
         exact M0 m (hd fun z=>by rw [z] at h;cases h.2) y A B (jC d [_] (by rw [Ul,h.1.2];rfl)) (oQ ks h.1.1).1 (oQ ks h.1.1).2
        ·exact bG
       ·exact bG
      ·exact bG
   ·exact bG
  ·exact Px v ks i _
theorem zV {X:Cx}{r:Expr->ME}(a:∀ e,QE X e (r e)):∀ (n:Nat)(st:Stmt),QS X st (rG r n st)
 | 0,_=>cS
 | n+1,st=>by
  unfold rG
  split
  ·exact Cp (a _)
  ·split
   ·rename_i h
    exact Cq (Ly (a _) h) (jD (zV a n) _) (jD (zV a n) _)
   ·exact cS
  ·exact cS
theorem Pz (O:Okr S F G k c Y)(v:Value)(st:Stmt):QS (Y.hnd v) st (Es S c st):=by
 have a:∀ e,QE (Y.hnd v) e (oV S (k6 S) c mX e):=zU (X:=Y.hnd v) O.o.N O.o.ks O.o.no O.o.xc O.uf (fun _=>O.o.room.depth) mX
 cases st with
 | Assign d e p=>
  cases d with
  | nil=>exact cS
  | cons t j=>
   cases j with
   | cons _ _=>exact cS
   | nil=>
    cases t with
    | Name y p=>
     show QS _ _ (if kI c y&&eG e then (match gX y c.N with|some i=>aW i _|none=>bY) else bY)
     split
     ·rename_i h
      rw [SW] at h
      split
      ·rename_i i b
       exact Cr (X:=Y.hnd v) i O.o.nd (a _) h.2 (by show Y.N[i]? = _;rw [show Y.N=c.N from O.o.N];exact kZ b) (O.o.own h.1) (.inl (O.own _))
      ·exact cS
     ·exact cS
    | _=>exact cS
 | _=>exact cS
theorem uD {m:Nat}:∀ (n:Nat)(Y:Cx),Okr S F G k c Y->(∀ st,QS Y.nox st ((iK S F G k m c n).1 st))/\∀ st,QR Y st ((iK S F G k m c n).2 st)
 | 0,Y,O=>⟨fun _=>cS,fun _=>iG⟩
 | n+1,Y,O=>by
  have a:=uD (m:=m) n
  refine ⟨fun st=>?_,fun st=>Pw O ((rD m).1 c _ O.o) ((rD m).2 c _ O.o) (a Y O).1 (a Y O).2 st⟩
  show QS Y.nox st (zR S (tr S F m).1 (tr S F m).2 c (iK S F G k m c n).1 (iK S F G k m c n).2 st)
  unfold zR
  split
  ·unfold Et
   split
   ·rename_i q w
    obtain ⟨B,H,b,bs,rfl,s⟩:=Pt w
    split
    ·rename_i h
     rw [SW,SW,decide_eq_true_eq] at h
     obtain ⟨⟨e,o⟩,p⟩:=h
     split
     ·rename_i i u
      obtain ⟨L,r⟩:=O.fr
      refine MP (X:=Y.nox) O.ex O.st r O.o.nd (by show Y.N[i]? = _;rw [show Y.N=c.N from O.o.N];exact kZ u) (by rw [<- p,<- O.o.ks]) (O.o.gl e).1 (O.o.gl e).2 (fun x A y=>?_) (jD (a Y O).1 _) (fun E=>?_) (fun v=>?_)
      ·obtain ⟨z,j,l⟩:=SY.mp y
       rw [<- l]
       exact O.o.xc.sub x z _ j o
      ·have d:Okr S F G k c (Y.nox.wish E):=⟨O.o,O.ex,O.st,O.fr,O.own,O.rf
        ,O.uf
        ⟩
       exact rH (a _ d).1 (a _ d).2 _
      ·rw [s]
       exact (jD (Pz O (.ref v)) (b::bs)).soft
     ·exact cS
    ·exact cS
   ·exact cS
  ·exact Pp O.o O.own (rD m).1 (rD m).2 (a Y O).1 st
end
noncomputable def zW (S:Sig)(F:Str->MF)(G:Str->RF)(k:Nat)(st:Stmt):MF:=pX (eI st).length (iJ (iK S F G k oR ⟨eI st,(bF st).names⟩ oS).1 (cH st))
noncomputable def zX (S:Sig)(F:Str->MF)(G:Str->RF)(k:Nat)(st:Stmt):RF:=xJ (eI st).length (oU (iK S F G k oR ⟨eI st,(bF st).names⟩ oS).1 (iK S F G k oR ⟨eI st,(bF st).names⟩ oS).2 (cH st))
noncomputable def oW (S:Sig)(ds:List (Str×Stmt)):Nat->(Str->MF)×(Str->RF)
 | 0=>(fun _ _ _=>none,fun _ _ _=>none)
 | k+1=>(fun x=>match ds.lookup x with
   | none=>fun _ _=>none
   | some st=>zW S (oW S ds k).1 (oW S ds k).2 k st,fun x=>match ds.lookup x with
   | none=>fun _ _=>none
   | some st=>zX S (oW S ds k).1 (oW S ds k).2 k st)
noncomputable def gY (S:Sig)(ds:List (Str×Stmt))(k:Nat):Str->MF:=(oW S ds k).1
noncomputable def k7 (S:Sig)(ds:List (Str×Stmt))(k:Nat):Str->RF:=(oW S ds k).2
structure DefAt (K:SV)(mg:Str->Option Value)(x:Str)(st:Stmt):Prop where
 ex:∃ f fd,Fun K x x st f fd/\mg x=some (.ref f)/\Binds K fd (cG st) []
structure TxtOk (P:Tt)(w:TV)(K:SV)(mg:Str->Option Value)(S:Sig)(ds:List (Str×Stmt)):Prop where
 fns:∀ x n,S.fn.lookup x=some n->∃ st,ds.lookup x=some st/\(cG st).length=n
 defs:∀ x st,ds.lookup x=some st->DefAt K mg x st/\mU st=true
 con:∀ x d,S.con.lookup x=some d->∃ v u,mg x=some u/\RelV v u/\∀ π n H,IsD K π n H v d
 tab:∀ x kvs,S.tab.lookup x=some kvs->∃ (p:Addr)(vs:List (aI×V))(ws:List (aI×Value)),mg x=some (.ref p)/\(∀ h:Uw,K.In h->h.DictOf (dW P w) p ws)/\KV vs ws/\∀ π n H,IsKs K π n H vs kvs
 no:∀ x,S.no.contains x=true->mg x=none
 xc:XcOk S K
 uf:∀ x st,S.uf.lookup x=some st->ds.lookup x=some st/\(cG st).length=1
theorem PB {P:Tt}{w:TV}{K:SV}{mg:Str->Option Value}{S:Sig}{ds:List (Str×Stmt)}(T:TxtOk P w K mg S ds)(X:Cx)(h1:X.prog=P)(i:X.w=w)(j:X.K=K)(l:X.mg=mg):zS S (k6 S) X:=fun x r=>by
 subst h1 i j l
 obtain ⟨st,c⟩:=Ut.mp r
 obtain ⟨p,q⟩:=T.uf x st c
 obtain ⟨o,n⟩:=T.defs x st p
 obtain ⟨f,h,F,m,b⟩:=o.ex
 have d:=Eo n
 refine ⟨f,h,cG st,?_,m,F.kp,b⟩
 unfold k6
 rw [c,<- q]
 refine MZ F d (by unfold eI;simp) fun a A outer s H=>?_
 refine jD (zV (fun e=>?_) mX) (cH st)
 exact zU (X:=qJ X.prog X.w X.K X.mg X.base (eI st) x (bF st) f a A outer s H) (S:={ S with uf:=[] }) (c:=⟨eI st,(bF st).names⟩) rfl rfl T.no { T.xc with } (fun y u=>nomatch u) (fun z=>absurd rfl z) mX e
theorem Ew {P:Tt}{w:TV}{K:SV}{mg:Str->Option Value}{base:Uw}{S:Sig}{ds:List (Str×Stmt)}(T:TxtOk P w K mg S ds):∀ (k:Nat)(x:Str)(st:Stmt)(f:Addr)(r:U1),ds.lookup x=some st->Fun K x x st f r->
  FnOk P w K mg base d7 k f r (cG st) (e8 K (cG st).length (gY S ds k x))/\FnOk P w K mg base (iF P w) k f r (cG st) (n8 K (cG st).length (k7 S ds k x))
 | 0,x,st,f,r,hl,hF=>⟨⟨fun X H Q E h=>h.1,fun A outer s H m us X Q E j he hb hv L=>by
   obtain ⟨_,π,B,μ,d,Y,R,i,I,kc⟩:=L
   cases I⟩,⟨fun X H Q E h=>h.1,fun A outer s H m us X Q E j he hb hv L=>by
   obtain ⟨_,π,B,μ,d,Y,R,i,I,kc⟩:=L
   cases I⟩⟩
 | k+1,x,st,f,r,hl,hF=>by
  have Z:=Ew (base:=base) T k
  have e:gY S ds (k+1) x=zW S (gY S ds k) (k7 S ds k) k st:=by
   show (match ds.lookup x with|none=>fun _ _=>none|some st=>zW S (gY S ds k) (k7 S ds k) k st)=_
   rw [hl]
  have e2:k7 S ds (k+1) x=zX S (gY S ds k) (k7 S ds k) k st:=by
   show (match ds.lookup x with|none=>fun _ _=>none|some st=>zX S (gY S ds k) (k7 S ds k) k st)=_
   rw [hl]
  rw [e,e2]
  have v:=Eo (T.defs x st hl).2
  have O:∀ (CX:fL)(a:Value)(A:TJ)(outer:List XN)(s:SX)(H:Hp)(E:XK),Room k (A.deeper (WN x (bF st) s.heap.objs.size f a))->Okr S (gY S ds k) (k7 S ds k) k ⟨eI st,(bF st).names⟩ (d4 CX P w K mg base (eI st) x (bF st) f a A outer s H E):=fun CX a A outer s H E j=>by
   refine ⟨⟨rfl,v.nd,rfl,v.kind,rfl,j,a0s,fun y n M=>?_,T.con,fun y N q=>⟨T.tab y N q⟩,T.no,T.xc⟩,rfl,rfl,⟨_,rfl⟩,fun _=>rfl,fun y n M=>?_
    ,PB T _ rfl rfl rfl rfl
    ⟩
   ·obtain ⟨b,u,G⟩:=T.fns y n M
    obtain ⟨p,c,l,U,z⟩:=(T.defs y b u).1.ex
    subst G
    exact ⟨p,c,cG b,(Z y b p c u l).1,U,l.kp,z⟩
   ·obtain ⟨b,u,G⟩:=T.fns y n M
    obtain ⟨p,c,l,U,z⟩:=(T.defs y b u).1.ex
    subst G
    exact ⟨p,c,cG b,(Z y b p c u l).2,U,l.kp,z⟩
  refine ⟨LQ hF v (by unfold eI;simp) rfl fun a A outer s H E j=>?_,Mz hF v (by unfold eI;simp) rfl fun a A outer s H E j=>?_⟩
  ·exact jD (uD (m:=oR) oS _ (O d7 a A outer s H E j)).1 (cH st)
  ·have o:=O (iF P w) a A outer s H E j
   exact rH (uD (m:=oR) oS _ o).1 (uD (m:=oR) oS _ o).2 (cH st)
theorem PC {P:Tt}{w:TV}{K:SV}{mg:Str->Option Value}{base:Uw}{S:Sig}{ds:List (Str×Stmt)}(T:TxtOk P w K mg S ds)(k:Nat)(x:Str)(st:Stmt)(f:Addr)(a:U1)(c:ds.lookup x=some st)(b:Fun K x x st f a) :
  FnOk P w K mg base d7 k f a (cG st) (e8 K (cG st).length (gY S ds k x)):=(Ew T k x st f a c b).1
theorem Ey:∀ {ns:List Int}{b:Nat},Xh (ns.map W6)<=b->∀ n∈ns,Ug n<=b
 | [],_,_,n,a=>nomatch a
 | m::ns,b,h,n,a=>by
  have e:Xh ((m::ns).map W6)=Y8 (.int m)+1+Xh (ns.map W6):=rfl
  have c:Y8 (.int m)=Ug m:=rfl
  rw [e,c] at h
  rcases TN.mp a with rfl|a
  ·omega
  ·exact Ey (b:=b) (by omega) n a
section
open PySem PySem.W PySem.Calls PyProof.Rows
theorem PD {l:a0R}{n:Nat}{q:Tt}{loose:List Str}{XP:(Str->Option Value)->Uw->Prop}{YP:TV->Uw->Prop}{d:DefRec}
  (Z:l.most=some n)(z:d.params.defaults=[])
  (call:∀ (w:TV)(s₀ b:SX)(mg E:Str->Option Value)(h:Addr)(o:Obj)(H u c:Value)(a:Addr)(vs:List Value)(ns:List Int),
   Ground q loose [] XP w s₀ mg E b.heap->YP w b.heap->
   b.heap.get? h=some o->o.data=.func (docDef d.name d.params d.body d.scope H u c)->b.heap.CodeRec u d.name->mg d.name=some (.ref h)->
   b.heap.get? a=some { cls:=.type "list",data:=.seq vs.toArray }->WL vs ns->ns.length<=n->(∀ m∈ns,Ug m<=2 ^ 20)->b.gens = #[]->
   XF (TH l.prog w) Zn (.call (.ref h) ⟨[.ref a],[]⟩) (fun r v=>r=.ok (.ret (.bool true))/\OldK b.heap v.heap/\v.os=b.os/\X2 v.gens) b) :
  a1A q loose XP YP l.row.toRowW d [] (fun f vs=>a2C f vs):=by
 intro w s₀ b mg E G Y h o H u c M kV ho hd y K A T I L as s i hrd B U
 obtain rfl:M=.none:=Dflts.none K z
 obtain rfl:kV=.none:=Dflts.noKw K
 obtain ⟨a,vs,ns,rfl,rfl,p,e,j⟩:=Att.script_of Z s B
 have R:∀ m∈ns,Ug m<=2 ^ 20:=by
  have x:Y1 (.list (ns.map W6))=true:=by
   have:=i
   unfold a2D at this
   simpa using this
  unfold Y1 at x
  rw [SW] at x
  exact Ey (of_decide_eq_true x.2)
 refine enter_call (XE (call w s₀ b mg E h o H u c a vs ns G Y ho (fd_plain hd) y A p e j R T) fun r v hq=>?_)
 obtain ⟨rfl,N,O,Q⟩:=hq
 exact ⟨.inl ⟨.bool true,.bool true,[],rfl,fun _=>rfl,.bool true,Att.post_true l _,fun _=>⟨X8,fun _ X=>(nomatch X)⟩⟩,N,O,Q⟩
end
theorem walkM {l:a0R}{q:Tt}{loose:List Str}{XP:(Str->Option Value)->Uw->Prop}{YP:TV->Uw->Prop}{d:DefRec}{K:VM->SV}{S:Sig}{ds:List (Str×Stmt)}{k:Nat}{st:Stmt}{x:Str}(hn:l.most=some 63)(N:d.params.defaults=[])
  (hr:Room k Zn)(hY:∀ (w:TV)(h:Uw),YP w h->(K w.params).In h)(hl:ds.lookup d.name=some st)(hx:cG st=[x])
  (T:∀ (w:TV)(mg:Str->Option Value)(h:Uw),(K w.params).In h->h.Ns Ux mg->TxtOk l.prog w (K w.params) mg S ds/\∃ f E,Fun (K w.params) d.name d.name st f E/\mg d.name=some (.ref f)/\∀ (s:SX)(u:Value),YR s E ⟨[u],[]⟩ [(x,u)])
  (M:∀ b:List Int,b.length<=63->(∀ m∈b,Ug m<=2 ^ 20)->∃ y,gY S ds k d.name [.rol (b.map D.int)] []=some (.bl true,y)) :
  a1A q loose XP YP l.row.toRowW d [] (fun f vs=>a2C f vs):=by
 refine PD hn N fun w Z s₁ mg mb fa o pm cd doc a vs b G Y ho hd hcd Q B p c L hg=>?_
 have U:=hY w _ Y
 obtain ⟨hT,f,E,hF,X,hb⟩:=T w mg _ U G.T.g
 rw [Q] at X
 cases X
 refine L2.law_call (CX:=d7) (sp:=e8 (K w.params) 1 (gY S ds k d.name)) U G.T.g G.T.b G.T.builtins G.T.nolimit hg B p (Uk c (by decide)) hr (fun A hb1 hb2=>?_) hb (fun H hO hS=>?_) fun H e s' z=>z
 ·have:=PC (base:=A) hT k d.name st fa E hl hF
  rw [hx] at this
  exact this
 ·refine ⟨rfl,fun _=>0,[.rol (b.map D.int)],[],.bl true,?_⟩
  obtain ⟨y,hM⟩:=M b c L
  have R:RoL (K w.params) H a (b.map V.int):=by
   rcases hS with (h|h)|h
   ·rcases hO a with z|⟨o,I,z⟩
    ·rw [z] at h;cases h
    ·rw [z] at h;cases h
   ·exact .inl h
   ·exact .inr h
  refine ⟨y,⟨fun i j O=>absurd O (Xi _),fun i O=>absurd O (Xi _),fun i I h=>(by cases h),fun i I h=>(by cases h),fun i I h=>(by cases h)
   ,fun i I h=>(by cases h)
   ,fun i x b ds h=>(by cases h)
   ⟩,.cons (.rol R ?_) .nil,hM,fun π' v H' _ _ hv=>?_⟩
  ·have:∀ b:List Int,IsDs (K w.params) (fun _=>0) ([]:Hm).length H (b.map V.int) (b.map D.int):=fun b=>by
    induction b with
    | nil=>exact .nil
    | cons n r ih=>exact .cons (.int n) ih
   exact this b
  ·cases hv
   rfl
end L3
namespace L3
open PySem L2
theorem jE {a:Type}:∀ {l:List (Str×a)}{x:Str}{b:a},l.lookup x=some b->(x,b)∈l:=fun h=>UQ h
theorem PF {S:Sig}{ds:List (Str×Stmt)}(h:(S.fn.all fun p=>match ds.lookup p.1 with|some st=>decide ((cG st).length=p.2)|none=>false)=true):∀ x n,S.fn.lookup x=some n->∃ st,ds.lookup x=some st/\(cG st).length=n:=by
 intro x n e
 have:=Vk.mp h (x,n) (jE e)
 dsimp only at this
 split at this
 ·rename_i st a
  exact ⟨st,a,of_decide_eq_true this⟩
 ·cases this
theorem PH {K:SV}{mg:Str->Option Value}{ds:List (Str×Stmt)}(h:∀ p∈ds,DefAt K mg p.1 p.2/\mU p.2=true):∀ x st,ds.lookup x=some st->DefAt K mg x st/\mU st=true:=fun x st e=>h (x,st) (jE e)
theorem PJ {K:SV}{mg:Str->Option Value}{a:List (Str×D)}(h:∀ p∈a,∃ v u,mg p.1=some u/\RelV v u/\∀ π n H,IsD K π n H v p.2):∀ x d,a.lookup x=some d->∃ v u,mg x=some u/\RelV v u/\∀ π n H,IsD K π n H v d:=fun x d e=>h (x,d) (jE e)
theorem PK {S:Sig}{ds:List (Str×Stmt)}(h:S.uf.map (fun p=>ds.lookup p.1)=S.uf.map fun p=>some p.2)(a:(S.uf.all fun p=>decide ((cG p.2).length=1))=true):∀ x st,S.uf.lookup x=some st->ds.lookup x=some st/\(cG st).length=1:=
 fun x st e=>⟨YM.mp h (x,st) (jE e),of_decide_eq_true (Vk.mp a (x,st) (jE e))⟩
inductive EntsOf (w:TV):List U5->List (aI×Value)->Prop where
 | nil:EntsOf w [] []
 | cons {e:U5}{k:aI}{v:Value}{es:List U5}{kvs:List (aI×Value)}(h:lI k e.key=true)(hh:e.hash=AD w k)(hv:e.val=v)(t:EntsOf w es kvs):EntsOf w (e::es) ((k,v)::kvs)
theorem PL {mg:Str->Option Value}{ns:List Str}(h:∀ x∈ns,mg x=none):∀ x,ns.contains x=true->mg x=none:=fun x e=>h x (by simpa using e)
noncomputable def uE:Nat->(Nat->Value)->List Value
 | 0,_=>[]
 | n+1,u=>u 0::uE n fun i=>u (i+1)
theorem Ez:∀ us:List Value,∃ u,us=uE us.length u
 | []=>⟨fun _=>.none,rfl⟩
 | v::us=>let ⟨u,a⟩:=Ez us;⟨fun i=>match i with|0=>v|i+1=>u i,congrArg (v::·) a⟩
noncomputable abbrev EA:Type:=Value->Value->Value->Option Addr->Value->Value->(Nat->Value)->a1i (List (Str×Value))
noncomputable def PM (x:Str)(st:Stmt)(m:Value)(c:Addr):Obj:=⟨SU "function",none,.func (Uz x x (d6 st) (cH st) (bF st) .none .none .none m none (.ref c) .none),#[]⟩
noncomputable def EB (K:SV)(d:(Str×Stmt)×Value×Addr×Addr):Option (Option Value)×Option Obj×Bool×Bool×Bool×EA:=(Vm K Ux d.1.1,K.lookup d.2.2.2,Xg K (.ref d.2.2.1) d.1.1,UR K (.ref d.2.2.2),mU d.1.2,fun kV b c an a ct u=>a0e (Uz d.1.1 d.1.1 (d6 d.1.2) (cH d.1.2) (bF d.1.2) .none kV b c an a ct) ⟨uE (cG d.1.2).length u,[]⟩)
noncomputable def EC (d:(Str×Stmt)×Value×Addr×Addr):Option (Option Value)×Option Obj×Bool×Bool×Bool×EA:=(some (some (.ref d.2.2.2)),some (PM d.1.1 d.1.2 d.2.1 d.2.2.1),true,true,true,fun _ _ _ _ _ _ u=>pure ((cG d.1.2).zip (uE (cG d.1.2).length u)))
noncomputable def uF (K:SV)(d:Str×Stmt):(Str×Stmt)×Value×Addr×Addr:=(d,match Vm K Ux d.1 with
 | some (some (.ref f))=>(match K.lookup f with
  | some ⟨_,_,.func fd,_⟩=>(match fd.code with
   | .ref c=>(fd.pyModule,c,f)
   | _=>(.none,0,0))
  | _=>(.none,0,0))
 | _=>(.none,0,0))
noncomputable def uG (K:SV)(ds:List (Str×Stmt)):Prop:=ds.map (fun d=>EB K (uF K d))=ds.map fun d=>EC (uF K d)
theorem ED {K:SV}{h:Uw}{mg:Str->Option Value}(X:K.In h)(G:h.Ns Ux mg){ds:List (Str×Stmt)}(q:uG K ds):∀ p∈ds,(DefAt K mg p.1 p.2/\mU p.2=true)/\∃ f j,Fun K p.1 p.1 p.2 f j/\mg p.1=some (.ref f)/\∀ us:List Value,us.length=(cG p.2).length->a0e j ⟨us,[]⟩=pure ((cG p.2).zip us):=by
 intro i r
 have t:=YM.mp q i r
 have e:(uF K i).1=i:=rfl
 generalize uF K i=d at t e
 obtain ⟨p,m,c,f⟩:=d
 cases e
 unfold EB EC at t
 obtain ⟨a,t⟩:=X5 t
 obtain ⟨l,t⟩:=X5 t
 obtain ⟨c,t⟩:=X5 t
 obtain ⟨k,t⟩:=X5 t
 obtain ⟨s,b⟩:=X5 t
 have F:=IV (st:=p.2) l c k
 have D:=fun kV doc pm an cdv ct (us:List Value)(o:us.length=(cG p.2).length)=>(by
  obtain ⟨u,n⟩:=Ez us
  rw [o] at n
  rw [n]
  exact congrFun (congrFun (congrFun (congrFun (congrFun (congrFun (congrFun b kV) doc) pm) an) cdv) ct) u:a0e (Uz p.1 p.1 (d6 p.2) (cH p.2) (bF p.2) .none kV doc pm an cdv ct) ⟨us,[]⟩=pure ((cG p.2).zip us))
 exact ⟨⟨⟨_,_,F,Ws X G a,F.binds D⟩,s⟩,_,_,F,Ws X G a,D _ _ _ _ _ _⟩
theorem PN {K:SV}{h:Uw}{mg:Str->Option Value}(X:K.In h)(G:h.Ns Ux mg){ds:List (Str×Stmt)}(q:uG K ds){x y:Str}{st:Stmt}(c:ds.lookup x=some st)(d:cG st=[y]):∃ f a,Fun K x x st f a/\mg x=some (.ref f)/\∀ (s:SX)(u:Value),YR s a ⟨[u],[]⟩ [(y,u)]:=by
 obtain ⟨f,a,F,m,b⟩:=(ED X G q (x,st) (jE c)).2
 dsimp only at b
 rw [d] at b
 exact ⟨f,a,F,m,fun s u=>.of_eq (b [u] rfl)⟩
theorem PQ {K:SV}{h:Uw}{mg:Str->Option Value}(X:K.In h)(G:h.Ns Ux mg){ns:List Str}(q:ns.map (Vm K Ux)=ns.map fun _=>some none):∀ x∈ns,mg x=none:=fun x a=>PySem.W.mg_none_of X G (YM.mp q x a)
noncomputable def rJ {c d:Type}(f:c->d->Bool):List c->List d->Bool
 | [],[]=>true
 | a::as,b::bs=>f a b&&rJ f as bs
 | _,_=>false
noncomputable def rK (K:SV):Nat->Value->D->Bool
 | 0,_,_=>false
 | k+1,u,d=>match d with
  | .non=>(match u with|.none=>true|_=>false)
  | .bl b=>(match u with|.bool c=>decide (b=c)|_=>false)
  | .int i=>(match u with|.int j _=>decide (i=j)|_=>false)
  | .str x=>(match u with|.str y _=>decide (x=y)|_=>false)
  | .tup ds=>(match u with
   | .ref p=>(match K.lookup p with
    | some ⟨.type t,none,.seq its _,_⟩=>decide (t = "tuple")&&decide (its.size<=1000)&&rJ (rK K k) its.toList ds
    | _=>false)
   | _=>false)
  | .rol ds=>(match u with
   | .ref p=>(match K.lookup p with
    | some ⟨.type t,none,.seq its _,_⟩=>decide (t = "list")&&decide (its.size<=1000)&&rJ (rK K k) its.toList ds
    | _=>false)
   | _=>false)
  | _=>false
theorem EE {K:SV}{f:Value->D->Bool}(h:∀ u d,f u d=true->∃ v,RelV v u/\∀ π n H,IsD K π n H v d):∀ us ds,rJ f us ds=true->∃ vs,Vals vs us/\∀ π n H,IsDs K π n H vs ds
 | [],[],_=>⟨[],.nil,fun _ _ _=>.nil⟩
 | u::us,d::ds,e=>by
  obtain ⟨a,b⟩:=Wm.mp e
  obtain ⟨v,r,q⟩:=h u d a
  obtain ⟨vs,i,c⟩:=EE h us ds b
  exact ⟨v::vs,.cons r i,fun _ _ _=>.cons (q _ _ _) (c _ _ _)⟩
 | [],_::_,e=>nomatch e
 | _::_,[],e=>nomatch e
theorem EF {K:SV}:∀ (k:Nat)(u:Value)(d:D),rK K k u d=true->∃ v,RelV v u/\∀ π n H,IsD K π n H v d
 | 0,_,_,e=>nomatch e
 | k+1,u,d,e=>by
  have seq:∀ {p:Addr}{ds:List D}{c:String},(match K.lookup p with|some ⟨.type t,none,.seq h _,_⟩=>decide (t=c)&&decide (h.size<=1000)&&rJ (rK K k) h.toList ds|_=>false)=true->∃ j h n m,K.lookup p=some ⟨.type c,none,.seq h n,m⟩/\h.size<=Td/\Vals j h.toList/\∀ π n H,IsDs K π n H j ds:=fun {p ds c} e=>by
   split at e
   ·rename_i t h n m l
    obtain ⟨e,q⟩:=Wm.mp e
    obtain ⟨a,b⟩:=Wm.mp e
    cases of_decide_eq_true a
    obtain ⟨j,r,i⟩:=EE (EF k) _ _ q
    exact ⟨j,h,n,m,l,Uk (of_decide_eq_true b) (by decide),r,i⟩
   ·cases e
  cases d with
  | non=>cases u with
   | none=>exact ⟨.non,rfl,fun _ _ _=>.non⟩
   | _=>cases e
  | bl b=>cases u with
   | bool c=>cases of_decide_eq_true e;exact ⟨.bl b,rfl,fun _ _ _=>.bl _⟩
   | _=>cases e
  | int b=>cases u with
   | int c=>cases of_decide_eq_true e;exact ⟨.int b,⟨_,rfl⟩,fun _ _ _=>.int _⟩
   | _=>cases e
  | str b=>cases u with
   | str c=>cases of_decide_eq_true e;exact ⟨.str b,⟨_,rfl⟩,fun _ _ _=>.str _⟩
   | _=>cases e
  | tup ds=>cases u with
   | ref p=>
    obtain ⟨j,h,n,m,l,o,r,i⟩:=seq e
    exact ⟨.ref p,rfl,fun _ _ _=>.tup (vs:=j) (.inr ⟨_,h,n,l,rfl,rfl,rfl,o,r⟩) (i _ _ _)⟩
   | _=>cases e
  | rol ds=>cases u with
   | ref p=>
    obtain ⟨j,h,n,m,l,o,r,i⟩:=seq e
    exact ⟨.ref p,rfl,fun _ _ _=>.rol (vs:=j) (.inr ⟨_,h,n,l,rfl,rfl,rfl,o,r⟩) (i _ _ _)⟩
   | _=>cases e
  | _=>cases e
noncomputable def EG (K:SV)(a:List (Str×D)):Bool:=a.all fun c=>match Vm K Ux c.1 with|some (some u)=>rK K 8 u c.2|_=>false
theorem PR {K:SV}{h:Uw}{mg:Str->Option Value}(X:K.In h)(G:h.Ns Ux mg){a:List (Str×D)}(q:EG K a=true):∀ p∈a,∃ v u,mg p.1=some u/\RelV v u/\∀ π n H,IsD K π n H v p.2:=fun p b=>by
 have t:=Vk.mp q p b
 split at t
 ·rename_i u c
  obtain ⟨v,r,i⟩:=EF _ _ _ t
  exact ⟨v,u,Ws X G c,r,i⟩
 ·cases t
end L3
namespace L3
open PySem L2
theorem PU {S:Sig}{K:SV}
  (m:(S.sup.all fun p=>S.sup.all fun q=>qI K p.1 q.1 == some (p.2.contains q.1))=true)
  (n:(S.sup.all fun p=>S.sup.all fun q=>match i6 K q.1 with|some C=>gW K (.ref C) p.1 == some (p.2.contains q.1)|none=>false)=true)(o:(S.sup.all fun p=>gW K (.type "ValueError") p.1 == some (p.2.contains "ValueError"))=true)
  (r:(S.sup.all fun p=>(S.cls.lookup p.1).isSome||match i6 K p.1 with|some C=>Yl K C xK "ValueError.__new__" | none=>false)=true)
  : XcOk S K:=by
 have two:∀ {g:Str×List Str->Str×List Str->Bool},(S.sup.all fun p=>S.sup.all fun q=>g p q)=true->∀ x a c b,S.sup.lookup x=some a->S.sup.lookup c=some b->g (x,a) (c,b)=true:=fun {g} h x a c b j l=>
  Vk.mp (Vk.mp h (x,a) (jE j)) (c,b) (jE l)
 refine ⟨fun x a c e hc=>?_,fun x a c e hc=>?_,fun x a e=>?_,fun x a e s=>?_⟩
 ·obtain ⟨b,i⟩:=Ut.mp hc
  exact beq_iff_eq.mp (two m x a c b e i)
 ·obtain ⟨b,i⟩:=Ut.mp hc
  have:=two n x a c b e i
  dsimp only at this
  split at this
  ·rename_i C d
   exact ⟨C,d,beq_iff_eq.mp this⟩
  ·cases this
 ·exact beq_iff_eq.mp (Vk.mp o (x,a) (jE e))
 ·have:=Vk.mp r (x,a) (jE e)
  dsimp only at this
  rw [s] at this
  split at this
  ·rename_i C d
   exact ⟨C,by simpa using this,mH d⟩
  ·simp at this
end L3
namespace L3
open PySem L2
noncomputable def W {a:Type}(o:Option a)(Q:a->Prop):Prop:=∃ r,o=some r/\Q r
section
variable {α β:Type}{o:Option α}{Q:α->Prop}
theorem W_some {r:α}{Q:α->Prop}:W (some r) Q↔Q r:=⟨fun ⟨_,h,q⟩=>by cases h;exact q,fun q=>⟨r,rfl,q⟩⟩
theorem W_none {Q:α->Prop}:W none Q↔False:=⟨fun ⟨_,h,_⟩=>(by cases h),fun h=>h.elim⟩
theorem W_bind {g:α->Option β}{Q:β->Prop}:W (o.bind g) Q↔W o fun r=>W (g r) Q:=by
 cases o with
 | none=>exact ⟨fun ⟨_,h,_⟩=>(by cases h),fun ⟨_,h,_⟩=>(by cases h)⟩
 | some a=>simp [W_some]
theorem gJ {g:α->β}{Q:β->Prop}:W (o.map g) Q↔W o fun r=>Q (g r):=by
 cases o with
 | none=>exact ⟨fun ⟨_,h,_⟩=>(by cases h),fun ⟨_,h,_⟩=>(by cases h)⟩
 | some a=>simp [W_some]
theorem b6 {a:α->Prop}(h:W o Q)(k:∀ r,Q r->a r):W o a:=let ⟨r,e,q⟩:=h;⟨r,e,k r q⟩
theorem uH {c:Prop} [Decidable c] {a b:Option α}:W (if c then a else b) Q↔if c then W a Q else W b Q:=by split<;>rfl
end
noncomputable def fin:Option (Fl×aG×Hm)->Option (D×Hm):=fun o=>o.bind fun p=>match p.1 with|.rt d=>some (d,p.2.2)|.nx=>some (.non,p.2.2)|_=>none
noncomputable def EH:Option (Xn×aG×Hm)->Option (Xn×Hm):=fun o=>o.map fun p=>(p.1,p.2.2)
theorem cD {o:Option (Fl×aG×Hm)}{Q:D×Hm->Prop}:W (fin o) Q↔W o fun p=>match p.1 with|.rt d=>Q (d,p.2.2)|.nx=>Q (.non,p.2.2)|_=>False:=by
 unfold fin
 rw [W_bind]
 constructor
 ·exact fun h=>b6 h fun p q=>by
   obtain ⟨a,c,b⟩:=p
   cases a<;>simpa [W_some,W_none] using q
 ·exact fun h=>b6 h fun p q=>by
   obtain ⟨a,c,b⟩:=p
   cases a<;>simpa [W_some,W_none] using q
theorem bA {d b:Hm}(h:d <+: b){a:Nat}{c:C}(e:d[a]? = some c):b[a]? = some c:=by
 obtain ⟨t,rfl⟩:=h
 have i:=(S2.mp e).1
 rw [Ti i]
 exact e
theorem uI {b a:Hm}(h:b <+: a):b.length<=a.length:=h.length_le
theorem bO (a:Hm)(c:C):a <+: a++[c]:=⟨[c],rfl⟩
theorem kJ {d b:Hm}(h:d <+: b){a:Nat}(e:d.length<=a)(c:C):d <+: b.set a c:=by
 obtain ⟨t,rfl⟩:=h
 rw [Yc _ _ e]
 exact ⟨_,rfl⟩
theorem aN {a b:MS}{d:aG}{c:Hm} {Q}:W (aR a b d c) Q↔W (a d c) fun p=>match p.1 with|.nx=>W (b p.2.1 p.2.2) Q|_=>Q p:=by
 unfold aR
 rw [W_bind]
 constructor
 ·exact fun h=>b6 h fun p q=>by
   obtain ⟨e,d,c⟩:=p
   cases e<;>simpa [W_some,W_none] using q
 ·exact fun h=>b6 h fun p q=>by
   obtain ⟨e,d,c⟩:=p
   cases e<;>simpa [W_some,W_none] using q
theorem bD {m:ME}{a:aG}{b:Hm} {Q}:W (aV m a b) Q↔W (m a b) fun p=>Q (.rt p.1,a,p.2):=gJ
theorem EI {m:ME}{a:aG}{b:Hm} {Q}:W (gQ m a b) Q↔W (m a b) fun p=>Q (.nx,a,p.2):=gJ
theorem bN {i:Nat}{m:ME}{a:aG}{b:Hm} {Q}:W (aW i m a b) Q↔W (m a b) fun p=>Q (.nx,a.set i (some p.1),p.2):=gJ
theorem cE {b:aG}{a:Hm} {Q}:W (a8 b a) Q↔Q (.nx,b,a):=W_some
theorem b7 {t:MT}{a b:MS}{c:aG}{d:Hm} {Q}:W (a9 t a b c d) Q↔W (t c d) fun p=>if p.1=true then W (a c p.2) Q else W (b c p.2) Q:=by
 unfold a9
 rw [W_bind]
 constructor<;>exact fun h=>b6 h fun p q=>by
   obtain ⟨x,d⟩:=p
   cases x<;>simpa using q
theorem EJ {t:MT}{a b:ME}{c:aG}{d:Hm} {Q}:W (iV t a b c d) Q↔W (t c d) fun p=>if p.1=true then W (a c p.2) Q else W (b c p.2) Q:=by
 unfold iV
 rw [W_bind]
 constructor<;>exact fun h=>b6 h fun p q=>by
   obtain ⟨x,d⟩:=p
   cases x<;>simpa using q
theorem oX {a b:MT}{d:aG}{c:Hm} {Q}:W (dF a b d c) Q↔W (a d c) fun p=>if p.1=true then W (b d p.2) Q else Q (false,p.2):=by
 unfold dF
 rw [W_bind]
 constructor<;>exact fun h=>b6 h fun p q=>by
   obtain ⟨x,c⟩:=p
   cases x<;>simpa [W_some] using q
theorem oY {a b:MT}{d:aG}{c:Hm} {Q}:W (eD a b d c) Q↔W (a d c) fun p=>if p.1=true then Q (true,p.2) else W (b d p.2) Q:=by
 unfold eD
 rw [W_bind]
 constructor<;>exact fun h=>b6 h fun p q=>by
   obtain ⟨x,c⟩:=p
   cases x<;>simpa [W_some] using q
theorem iL {a:MT}{c:aG}{b:Hm} {Q}:W (dC a c b) Q↔W (a c b) fun p=>Q (!p.1,p.2):=gJ
theorem aS {f:D->D->Hm->Option (D×Hm)}{a b:ME}{c:aG}{d:Hm} {Q}:W (aB f a b c d) Q↔W (a c d) fun p=>W (b c p.2) fun q=>W (f p.1 q.1 q.2) Q:=by
 unfold aB
 rw [W_bind]
 simp only [W_bind]
theorem aL {d:D}{b:aG}{a:Hm} {Q}:W (mC d b a) Q↔Q (d,a):=W_some
theorem aF {d:D}{b:aG}{a:Hm} {Q}:W (aA 0 (some d::b) a) Q↔Q (d,a):=by
 show W (some (d,a)) Q↔_
 exact W_some
theorem aJ {i:Nat}{x:Option D}{b:aG}{a:Hm} {Q}:W (aA (i+1) (x::b) a) Q↔W (aA i b a) Q:=by
 unfold aA
 rw [WD]
theorem aM {b:aG}{a:Hm} {Q}:W (aD b a) Q↔Q ([],a):=W_some
theorem aP {a:ME}{r:MA}{b:aG}{c:Hm} {Q}:W (aC a r b c) Q↔W (a b c) fun p=>W (r b p.2) fun q=>Q (p.1::q.1,q.2):=by
 unfold aC
 simp only [W_bind,W_some]
theorem jF {a:MA}{c:aG}{b:Hm} {Q}:W (eE a c b) Q↔W (a c b) fun p=>p.1.length<=Td/\Q (.tup p.1,p.2):=by
 unfold eE
 rw [W_bind]
 constructor<;>exact fun h=>b6 h fun p q=>by
  first
  | (rw [uH] at q;split at q
     ·exact ⟨by assumption,W_some.mp q⟩
     ·exact (W_none.mp q).elim)
  | (rw [if_pos q.1];exact W_some.mpr q.2)
theorem fG {a:MA}{c:aG}{b:Hm} {Q}:W (dG a c b) Q↔W (a c b) fun p=>p.1.length<=Td/\Q (.loc p.2.length,p.2++[.lst p.1]):=by
 unfold dG
 rw [W_bind]
 constructor<;>exact fun h=>b6 h fun p q=>by
  first
  | (rw [uH] at q;split at q
     ·exact ⟨by assumption,W_some.mp q⟩
     ·exact (W_none.mp q).elim)
  | (rw [if_pos q.1];exact W_some.mpr q.2)
theorem aY {f:MF}{a:MA}{c:aG}{b:Hm} {Q}:W (aK f a c b) Q↔W (a c b) fun p=>W (f p.1 p.2) Q:=W_bind
theorem b8 {m:ME}{c:aG}{a:Hm} {Q}:W (aO m c a) Q↔W (m c a) fun p=>match p.1 with|.bl b=>Q (b,p.2)|_=>False:=by
 unfold aO
 rw [W_bind]
 constructor<;>exact fun h=>b6 h fun p q=>by
  obtain ⟨d,a⟩:=p
  cases d<;>simpa [W_some,W_none] using q
theorem fY {m:ME}{c:aG}{a:Hm} {Q}:W (cC m c a) Q↔W (m c a) fun p=>W (n6 p.2 p.1) fun b=>Q (b,p.2):=by
 unfold cC
 simp only [W_bind,gJ]
theorem PV {a:ME}{c:aG}{b:Hm} {Q}:W (qB a c b) Q↔W (a c b) fun p=>match p.1 with|.int i=>Q (.int (-i),p.2)|_=>False:=by
 unfold qB
 rw [W_bind]
 constructor<;>exact fun h=>b6 h fun p q=>by
  obtain ⟨d,b⟩:=p
  cases d<;>simpa [W_some,W_none,gJ,wO] using q
theorem zY {a:ME}{e:aG}{c:Hm} {Q}:W (jP a e c) Q↔W (a e c) fun p=>match p.1 with|.bl b=>Q (.bl (!b),p.2)|_=>False:=by
 unfold jP
 rw [W_bind]
 constructor<;>exact fun h=>b6 h fun p q=>by
  obtain ⟨d,c⟩:=p
  cases d<;>simpa [W_some,W_none] using q
theorem k8 {a b:ME}{i:aG}{e:Hm} {Q}:W (f9 a b i e) Q↔W (a i e) fun p=>match p.1 with|.bl c=>if c=true then W (b i p.2) Q else Q (.bl false,p.2)|_=>False:=by
 unfold f9
 rw [W_bind]
 constructor<;>exact fun h=>b6 h fun p q=>by
  obtain ⟨d,e⟩:=p
  cases d with
  | bl c=>cases c<;>simpa [W_some] using q
  | _=>simpa [W_none] using q
section
variable {i j:Int}{μ:Hm}{Q:D×Hm->Prop}{a b c d e g:D}
theorem gZ:W (bM (.int i) (.int j) μ) Q↔Q (.int (i+j),μ):=W_some
theorem EK:W (lU (.int i) (.int j) μ) Q↔Q (.int (i - j),μ):=W_some
theorem fZ (h:0<j):W (bI (.int i) (.int j) μ) Q↔Q (.int (i % j),μ):=by
 show W ((if 0<j then some (i % j) else none).map fun z=>(D.int z,μ)) Q↔_
 rw [if_pos h]
 exact W_some
theorem PX:(1073741824:Int)<2 ^ 4000:=by decide +kernel
theorem PY (h:0<j)(l:j<2 ^ 4000):W (cJ (.int i) (.int j) μ) Q↔Q (.int (i / j),μ):=by
 show W ((if 0<j/\j<2 ^ 4000 then some (i / j) else none).map fun z=>(D.int z,μ)) Q↔_
 rw [if_pos ⟨h,l⟩]
 exact W_some
theorem mY (h:0<j)(l:j<1073741824):W (cJ (.int i) (.int j) μ) Q↔Q (.int (i / j),μ):=PY h (Int.lt_trans l PX)
theorem oZ (h:(-(2 ^ 64)<i/\i<2 ^ 64)\/(-(2 ^ 64)<j/\j<2 ^ 64)):W (cM (.int i) (.int j) μ) Q↔Q (.int (i * j),μ):=by
 show W ((if ((-(2 ^ 64)<i/\i<2 ^ 64)\/(-(2 ^ 64)<j/\j<2 ^ 64))\/(i.natAbs<2 ^ 4000/\j.natAbs<2 ^ 4000)\/Ug i+Ug j<=134217728 then some (i * j) else none).map fun z=>(D.int z,μ)) Q↔_
 rw [if_pos (.inl h)]
 exact W_some
theorem iM:W (aX false (.int i) (.int j) μ) Q↔Q (.bl (i == j),μ):=W_some
theorem o6:W (aX true (.int i) (.int j) μ) Q↔Q (.bl (!(i == j)),μ):=W_some
theorem rL:W (dA (.int i) (.int j) μ) Q↔Q (.bl (decide (i<j)),μ):=W_some
theorem PZ:W (nO (.int i) (.int j) μ) Q↔Q (.bl (decide (i<=j)),μ):=W_some
theorem EL:W (nP (.int i) (.int j) μ) Q↔Q (.bl (decide (j<i)),μ):=W_some
theorem g8:W (aH (.tup [a,b]) (.int 0) μ) Q↔Q (a,μ):=W_some
theorem gK:W (aH (.tup [a,b]) (.int 1) μ) Q↔Q (b,μ):=W_some
theorem fH {b:Bool}{Q:Bool->Prop}:W (n6 μ (.bl b)) Q↔Q b:=W_some
end
theorem dP {b:Hm}{a:Nat}{xs:List D}{i:Int}{d:D}{Q:D×Hm->Prop}(h:b[a]? = some (.lst xs))(c:atI xs i=some d):W (aH (.loc a) (.int i) b) Q↔Q (d,b):=by
 have:aH (.loc a) (.int i) b=some (d,b):=by
  simp only [aH,gC,bQ,h,Uc,c,Us]
 rw [this]
 exact W_some
end L3
namespace L3
open PySem L2
theorem iN {m:ME}{b:aG}{a:Hm}{Q:l7×Nat×Hm->Prop}:W (dN m b a) Q↔W (m b a) fun p=>W (iY p.2 p.1) fun xs=>Q (gG p.1,xs.length+1,p.2):=by
 unfold dN
 simp only [W_bind,gJ]
theorem jG {c:MI}{g:MG}{b:MS}{a:aG}{d:Hm} {Q}:W (fT c g b a d) Q↔W (c a d) fun p=>W (fA p.1 g b p.2.1 0 a p.2.2) Q:=W_bind
theorem o7 {j:Int}{e:MA}{i:aG}{c:Hm}{Q:l7×Nat×Hm->Prop}:W (iD e i c) Q↔W (e i c) fun p=>match p.1 with|[.int j]=>(-(2 ^ 62)<=j/\j<2 ^ 62)/\Q (gE 0 j.toNat,j.toNat+1,p.2)|_=>False:=by
 unfold iD
 rw [W_bind]
 constructor<;>exact fun h=>b6 h fun p q=>by
  obtain ⟨l,c⟩:=p
  match l,q with
  | [],q=>simpa [W_none] using q
  | [d],q=>
   cases d with
   | int j=>
    first
    | (dsimp only at q;rw [uH] at q;split at q
       ·rename_i m;exact ⟨m,W_some.mp q⟩
       ·exact (W_none.mp q).elim)
    | (dsimp only;rw [if_pos q.1];exact W_some.mpr q.2)
   | _=>simpa [W_none] using q
  | a::b::l,q=>simpa [W_none] using q
theorem rM {a:MA}{c:aG}{b:Hm}{Q:l7×Nat×Hm->Prop}:W (jV a c b) Q↔W (a c b) fun p=>match p.1 with|[.int i,.int j]=>(-(2 ^ 62)<=i/\i<2 ^ 62/\-(2 ^ 62)<=j/\j<2 ^ 62)/\Q (gE i (j - i).toNat,(j - i).toNat+1,p.2)|_=>False:=by
 unfold jV
 rw [W_bind]
 constructor<;>exact fun h=>b6 h fun p q=>by
  split at q
  ·rename_i e
   try rw [e]
   first
   | (rw [uH] at q;split at q
      ·rename_i d;exact ⟨d,W_some.mp q⟩
      ·exact (W_none.mp q).elim)
   | ((try dsimp only);rw [if_pos q.1];exact W_some.mpr q.2)
  ·first
   | exact (W_none.mp q).elim
   | exact q.elim
theorem rN {j:l7}{g:MG}{b:MS}{N:Nat}{Q:Fl×aG×Hm->Prop}(I:Nat->aG->Hm->Prop)
  (go:∀ i c a,i<N->I i c a->∃ d l,j a i=some (some d)/\g d c a=some l/\W (b l a) fun p=>match p.1 with|.nx=>I (i+1) p.2.1 p.2.2|.ct=>I (i+1) p.2.1 p.2.2|.bk=>Q (.nx,p.2.1,p.2.2)|.rt d=>Q (.rt d,p.2.1,p.2.2))
  (e:∀ c a,I N c a->j a N=some none/\Q (.nx,c,a)):∀ (m i:Nat)(c:aG)(a:Hm),i+m=N->I i c a->W (fA j g b (m+1) i c a) Q
 | 0,i,c,a,h,hI=>by
  have:i=N:=by omega
  subst this
  obtain ⟨r,s⟩:=e c a hI
  unfold fA
  rw [r]
  exact W_some.mpr s
 | m+1,i,c,a,h,hI=>by
  obtain ⟨d,l,r,s,v⟩:=go i c a (by omega) hI
  unfold fA
  rw [r]
  simp only [Uc,s]
  rw [W_bind]
  refine b6 v fun p q=>?_
  obtain ⟨u,o,n⟩:=p
  cases u with
  | nx=>exact rN I go e m (i+1) o n (by omega) q
  | ct=>exact rN I go e m (i+1) o n (by omega) q
  | bk=>exact W_some.mpr q
  | rt d=>exact W_some.mpr q
theorem EM {a:Nat}{xs:List D}{g:MG}{b:MS}{h:aG}{c:Hm}{Q:Fl×aG×Hm->Prop}(I:Nat->aG->Hm->Prop)(o:I 0 h c)(n:∀ i h c,I i h c->c[a]? = some (.lst xs))
  (go:∀ i d h c,xs[i]? = some d->I i h c->∃ j,g d h c=some j/\W (b j c) fun p=>match p.1 with|.nx=>I (i+1) p.2.1 p.2.2|.ct=>I (i+1) p.2.1 p.2.2|.bk=>Q (.nx,p.2.1,p.2.2)|.rt d=>Q (.rt d,p.2.1,p.2.2))
  (m:∀ h c,I xs.length h c->Q (.nx,h,c)):W (fA (gG (.loc a)) g b (xs.length+1) 0 h c) Q:=by
 refine rN (N:=xs.length) I (fun i h c s l=>?_) (fun h c l=>⟨?_,m h c l⟩) xs.length 0 h c (by omega) o
 ·have e:xs[i]? = some xs[i]:=S1 s
  obtain ⟨j,q,r⟩:=go i xs[i] h c e l
  refine ⟨xs[i],j,?_,q,r⟩
  simp only [gG,iY,bQ,n i h c l,Us,e]
 ·simp only [gG,iY,bQ,n _ h c l,Us]
  simp
theorem P0 {x:D}{xs:List D}(m:∀ a,iY a x=some xs){g:MG}{b:MS}{c:aG}{a:Hm}{Q:Fl×aG×Hm->Prop}(I:Nat->aG->Hm->Prop)(n:I 0 c a)
  (go:∀ i d c a,xs[i]? = some d->I i c a->∃ h,g d c a=some h/\W (b h a) fun p=>match p.1 with|.nx=>I (i+1) p.2.1 p.2.2|.ct=>I (i+1) p.2.1 p.2.2|.bk=>Q (.nx,p.2.1,p.2.2)|.rt d=>Q (.rt d,p.2.1,p.2.2))
  (j:∀ c a,I xs.length c a->Q (.nx,c,a)):W (fA (gG x) g b (xs.length+1) 0 c a) Q:=by
 refine rN (N:=xs.length) I (fun i c a r l=>?_) (fun c a l=>⟨?_,j c a l⟩) xs.length 0 c a (by omega) n
 ·have e:xs[i]? = some xs[i]:=S1 r
  obtain ⟨h,o,q⟩:=go i xs[i] c a e l
  refine ⟨xs[i],h,?_,o,q⟩
  simp only [gG,m,Us,e]
 ·simp only [gG,m,Us]
  simp
theorem o8 {lo:Int}{n:Nat}{g:MG}{b:MS}{c:aG}{a:Hm}{Q:Fl×aG×Hm->Prop}(I:Nat->aG->Hm->Prop)(m:I 0 c a)
  (go:∀ (i:Nat) c a,i<n->I i c a->∃ e,g (.int (lo+i)) c a=some e/\W (b e a) fun p=>match p.1 with|.nx=>I (i+1) p.2.1 p.2.2|.ct=>I (i+1) p.2.1 p.2.2|.bk=>Q (.nx,p.2.1,p.2.2)|.rt d=>Q (.rt d,p.2.1,p.2.2))
  (h:∀ c a,I n c a->Q (.nx,c,a)):W (fA (gE lo n) g b (n+1) 0 c a) Q:=by
 refine rN (N:=n) I (fun i c a l j=>?_) (fun c a j=>⟨?_,h c a j⟩) n 0 c a (by omega) m
 ·obtain ⟨e,o,q⟩:=go i c a l j
  exact ⟨_,e,by simp only [gE,if_pos l],o,q⟩
 ·simp only [gE,VD,if_false]
theorem EO {c:Hm}{a:Nat}{b:List D}{y:D}(h:c[a]? = some (.lst b))(d:b.length<Td):nR c a y=some (c.set a (.lst (b++[y]))):=by
 unfold nR
 rw [h]
 exact if_pos d
theorem zZ {z:l7}{c:MT}{e:ME}{K:aG}{h:Hm}{xs:List D}{p:D->Bool}{v:D->D}{Q:Hm->Prop}(B:∀ a i,h <+: a->z a i=some xs[i]?)(L:xs.length<=Td)
  (hc:∀ d a,d∈xs->h <+: a->W (c (K++[some d]) a) fun r=>r.1=p d/\a <+: r.2)
  (E:∀ d a,d∈xs->p d=true->h <+: a->W (e (K++[some d]) a) fun r=>r.1=v d/\a <+: r.2)
  (fin:∀ a,h <+: a->a[h.length]? = some (.lst ((xs.filter p).map v))->Q a) :
  ∀ (m i:Nat)(a:Hm),i+m=xs.length->h <+: a->a[h.length]? = some (.lst (((xs.take i).filter p).map v))->W (jT z pZ c e K h.length (m+1) i a) Q
 | 0,i,a,hi,hp,ha=>by
  have:i=xs.length:=by omega
  subst this
  unfold jT
  rw [B a _ hp]
  rw [Vb (Th _)]
  simp only [Uc]
  refine W_some.mpr (fin a hp ?_)
  simpa using ha
 | m+1,i,a,hi,hp,ha=>by
  have w:i<xs.length:=by omega
  have M:xs[i]? = some xs[i]:=S1 w
  have l:xs[i]∈xs:=VA w
  unfold jT
  rw [B a _ hp,M]
  simp only [Uc,pZ]
  rw [W_bind]
  refine b6 (hc _ a l hp) fun r q=>?_
  obtain ⟨b,A⟩:=r
  obtain ⟨N,x⟩:=q
  dsimp only at N x ⊢
  subst N
  have j:xs.take (i+1)=xs.take i++[xs[i]]:=by rw [a1W,M];rfl
  have o:=bA x ha
  cases n:p xs[i] with
  | false=>
   refine zZ B L hc E fin m (i+1) A (by omega) (hp.trans x) ?_
   rw [o,j,Xw]
   simp [n]
  | true=>
   dsimp only
   rw [W_bind]
   refine b6 (E _ A l n (hp.trans x)) fun r q=>?_
   obtain ⟨y,I⟩:=r
   obtain ⟨O,H⟩:=q
   dsimp only at O H ⊢
   subst O
   have s:=bA H o
   have u:(((xs.take i).filter p).map v).length<Td:=by
    have R:=Vz p (xs.take i)
    rw [S3]
    rw [TR] at R
    omega
   rw [EO s u,Uc]
   have G:h <+: I:=(hp.trans x).trans H
   refine zZ B L hc E fin m (i+1) _ (by omega) (kJ G (Th _) _) ?_
   rw [Ue (S2.mp s).1,j,Xw]
   simp [n]
theorem iO {x:MI}{c:MT}{e:ME}{b:aG}{y:Hm}{xs:List D}{p:D->Bool}{v:D->D}{Q:D×Hm->Prop}
  (hit:W (x b y) fun r=>(∀ a i,r.2.2 <+: a->r.1 a i=some xs[i]?)/\r.2.1=xs.length+1/\xs.length<=Td /\
   (∀ d a,d∈xs->r.2.2 <+: a->W (c (b++[some d]) a) fun s=>s.1=p d/\a <+: s.2)/\(∀ d a,d∈xs->p d=true->r.2.2 <+: a->W (e (b++[some d]) a) fun s=>s.1=v d/\a <+: s.2) /\
   ∀ a,r.2.2 <+: a->a[r.2.2.length]? = some (.lst ((xs.filter p).map v))->Q (.loc r.2.2.length,a)):W (dH x c e b y) Q:=by
 unfold dH l8
 rw [W_bind]
 refine b6 hit fun r q=>?_
 obtain ⟨z,n,h⟩:=r
 obtain ⟨j,l,m,o,u,w⟩:=q
 dsimp only at j l m o u w ⊢
 subst l
 rw [gJ]
 exact zZ j m o u w xs.length 0 (h++[.lst []]) (by omega) (bO _ _) (by simp)
theorem mZ {c:Hm}{a:Nat}{xs:List D}(h:c[a]? = some (.lst xs)):∀ b i,c <+: b->gG (.loc a) b i=some xs[i]?:=fun b i d=>by
 simp only [gG,iY,bQ,bA d h,Us]
theorem P1 {xs:List D}{b:Hm}:∀ a i,b <+: a->gG (.tup xs) a i=some xs[i]?:=fun a i c=>rfl
noncomputable def dY (lo:Int)(n:Nat):List D:=(Ur n).map fun (i:Nat)=>.int (lo+(i:Int))
theorem z7 {lo:Int}{n:Nat}{b:Hm}:∀ a i,b <+: a->gE lo n a i=some (dY lo n)[i]?:=fun a i _=>by
 unfold gE dY
 rw [Uo]
 by_cases h:i<n
 ·rw [if_pos h,a0I h];rfl
 ·rw [if_neg h,Vb (by simpa using W4.mp h)];rfl
noncomputable abbrev P (x y:Int):D:=.tup [.int x,.int y]
noncomputable abbrev PP (p:Int×Int):D:=P p.1 p.2
theorem P2 (n:Nat)(e:Hm)(p q:Int×Int):cB (n+2) e (PP p) (PP q)=some (p == q):=by
 obtain ⟨a,b⟩:=p
 obtain ⟨c,d⟩:=q
 show some (a == c&&(b == d&&true))=some ((a,b) == (c,d))
 rw [a2j]
 rfl
theorem ER (n:Nat)(d:Hm):∀ ps a:List (Int×Int),fN (cB (n+2) d) (ps.map PP) (a.map PP)=some (ps == a)
 | [],[]=>rfl
 | [],_::_=>rfl
 | _::_,[]=>rfl
 | p::ps,q::a=>by
  rw [S7,S7]
  show (cB (n+2) d (PP p) (PP q)).bind (fun b=>(fN (cB (n+2) d) (ps.map PP) (a.map PP)).map fun c=>b&&c)=_
  rw [P2,ER n d ps a]
  rfl
theorem P4 {c:Hm}{a b:Nat}{ps d:List (Int×Int)}(i:c[a]? = some (.lst (ps.map PP)))(j:c[b]? = some (.lst (d.map PP))):cB 8 c (.loc a) (.loc b)=some (ps == d):=by
 have e:fM c (.loc a)=some (.lst (ps.map PP)):=by simp only [fM,i]
 have h:fM c (.loc b)=some (.lst (d.map PP)):=by simp only [fM,j]
 show (fM c (.loc a)).bind (fun x=>(fM c (.loc b)).bind fun y=>iW (cB 7 c) x y)=_
 rw [e,h]
 exact ER 5 c ps d
theorem P5 {c:Hm}{a b:Nat}{ps d:List (Int×Int)}{ne:Bool}{Q:D×Hm->Prop}(e:c[a]? = some (.lst (ps.map PP)))(h:c[b]? = some (.lst (d.map PP))):W (aX ne (.loc a) (.loc b) c) Q↔Q (.bl (if ne then !(ps == d) else ps == d),c):=by
 unfold aX
 rw [P4 e h]
 exact W_some
theorem uJ {c:Hm}{a b:Nat}{xs d:List D}{Q:D×Hm->Prop}(e:c[a]? = some (.lst xs))(h:c[b]? = some (.lst d))(i:xs.length+d.length<=Td):W (bM (.loc a) (.loc b) c) Q↔Q (.loc c.length,c++[.lst (xs++d)]):=by
 simp only [bM,e,h,if_pos i]
 exact W_some
theorem ES {b:aG}{a:Hm}{Q:List (aI×D)×Hm->Prop}:W (lY [] b a) Q↔Q ([],a):=W_some
theorem ET {k v:ME}{r:List (ME×ME)}{a:aG}{b:Hm}{Q:List (aI×D)×Hm->Prop}:W (lY ((k,v)::r) a b) Q↔W (k a b) fun p=>W (v a p.2) fun q=>W (kT p.1) fun c=>W (lY r a q.2) fun t=>Q ((c,q.1)::t.1,t.2):=by
 show W ((k a b).bind _) Q↔_
 simp only [W_bind,gJ]
theorem EU {x:Str}{Q:aI->Prop}:W (kT (.str x)) Q↔Q (.inr x):=W_some
theorem EV {a:List (ME×ME)}{c:aG}{b:Hm}{Q:D×Hm->Prop}(h:W (lY a c (b++[.dK []])) fun p=>p.2[b.length]? = some (.dK [])/\p.1.length<=15/\Q (.loc b.length,p.2.set b.length (.dK (nU [] p.1)))):W (jU a c b) Q:=by
 unfold jU
 rw [W_bind]
 refine b6 h fun p q=>?_
 obtain ⟨d,e,i⟩:=q
 rw [d]
 dsimp only
 rw [if_pos e]
 exact W_some.mpr i
theorem EW {b:Hm}{a:Nat}{kvs:List (aI×D)}{y d:D}{k:aI}{Q:D×Hm->Prop}(h:b[a]? = some (.dK kvs))(c:kT y=some k)(e:fR kvs k=some d):W (aH (.loc a) y b) Q↔Q (d,b):=by
 have:aH (.loc a) y b=some (d,b):=by
  simp only [aH,h,c,Uc,e,Us]
 rw [this]
 exact W_some
theorem EX {f:D->List D->Hm->Option (D×Hm)}{b:ME}{c:MA}{a:aG}{d:Hm}{Q:D×Hm->Prop}(h:W (b a d) fun p=>n4 p.2 p.1=true/\W (c a p.2) fun q=>W (f p.1 q.1 q.2) Q):W (jW f b c a d) Q:=by
 unfold jW
 rw [W_bind]
 refine b6 h fun p q=>?_
 rw [q.1]
 exact W_bind.mpr q.2
theorem EY {b:Hm}{a:Nat}{xs:List D}(h:b[a]? = some (.lst xs)):n4 b (.loc a)=true:=by
 simp only [n4,h]
theorem P6 {b:Hm}{a:Nat}{xs:List D}{y:D}{Q:D×Hm->Prop}(h:b[a]? = some (.lst xs))(c:xs.length<Td):W (kW (.loc a) [y] b) Q↔Q (.non,b.set a (.lst (xs++[y]))):=by
 simp only [kW,EO h c,Us]
 exact W_some
theorem P7 {c:Hm}{a b:Nat}{xs d:List D}{Q:D×Hm->Prop}(h:c[a]? = some (.lst xs))(e:c[b]? = some (.lst d))(i:xs.length+d.length<=Td):W (n5 (.loc a) [.loc b] c) Q↔Q (.non,c.set a (.lst (xs++d))):=by
 simp only [n5,h,e,if_pos i]
 exact W_some
theorem z8 {a:Hm}{xs:List D}{Q:D×Hm->Prop}:W (cW [.tup xs,.ty "tuple"] a) Q↔Q (.bl true,a):=W_some
theorem EZ {a:Hm}{i:Int}{Q:D×Hm->Prop}:W (cW [.int i,.ty "bool"] a) Q↔Q (.bl false,a):=W_some
theorem E4 {a:Hm}{i:Int}{Q:D×Hm->Prop}:W (cW [.int i,.ty "int"] a) Q↔Q (.bl true,a):=W_some
theorem rO {a:Hm}{b:Str}{Q:D×Hm->Prop}:W (cW [.str b,.ty "str"] a) Q↔Q (.bl true,a):=W_some
theorem P8 {b:Hm}{a:Nat}{xs:List D}{Q:D×Hm->Prop}(h:b[a]? = some (.lst xs)):W (cW [.loc a,.ty "list"] b) Q↔Q (.bl true,b):=by
 have:cW [.loc a,.ty "list"] b=some (.bl true,b):=by
  simp only [cW,jQ,h,Uc]
  rfl
 rw [this]
 exact W_some
theorem E6 {a:Hm}{xs:List D}{Q:D×Hm->Prop}:W (cP [.tup xs] a) Q↔Q (.int xs.length,a):=W_some
theorem o9 {b:Hm}{a:Nat}{xs:List D}{Q:D×Hm->Prop}(h:b[a]? = some (.lst xs)):W (cP [.loc a] b) Q↔Q (.int xs.length,b):=by
 simp only [cP,p5,bQ,h,Us]
 exact W_some
theorem kK {b:Hm}{a:Nat}{xs:List D}{Q:List D->Prop}(h:b[a]? = some (.lst xs)):W (iY b (.loc a)) Q↔Q xs:=by
 simp only [iY,bQ,h]
 exact W_some
theorem E7 {a:Hm}{xs:List D}{Q:List D->Prop}:W (iY a (.tup xs)) Q↔Q xs:=W_some
theorem z9 {b:aG}{a:Hm}{Q:Option Int×Hm->Prop}:W (dX b a) Q↔Q (none,a):=W_some
theorem rP {m:ME}{b:aG}{a:Hm}{Q:Option Int×Hm->Prop}:W (c9 m b a) Q↔W (m b a) fun p=>match p.1 with|.int i=>Q (some i,p.2)|_=>False:=by
 unfold c9
 rw [W_bind]
 constructor<;>exact fun h=>b6 h fun p q=>by
  obtain ⟨d,a⟩:=p
  cases d<;>simpa [W_some,W_none] using q
theorem Fb {a:ME}{lo c:MO}{b:aG}{j:Hm}{Q:D×Hm->Prop}(h:W (a b j) fun p=>∃ xs,p.1=.rol xs/\W (lo b p.2) fun q=>W (c b q.2) fun r=>Q (.loc r.2.length,r.2++[.lst (gD xs q.1 r.1)])):W (cI a lo c b j) Q:=by
 unfold cI
 rw [W_bind]
 refine b6 h fun p q=>?_
 obtain ⟨d,l⟩:=p
 obtain ⟨xs,e,i⟩:=q
 dsimp only at e i ⊢
 subst e
 rw [W_bind]
 refine b6 i fun s q=>?_
 rw [W_bind]
 refine b6 q fun r q=>?_
 exact W_some.mpr q
theorem P9 {a:ME}{lo c:MO}{b:aG}{j:Hm}{Q:D×Hm->Prop}(h:W (a b j) fun p=>∃ l,p.1=.loc l/\W (lo b p.2) fun q=>W (c b q.2) fun r=>∃ xs,r.2[l]? = some (.lst xs)/\Q (.loc r.2.length,r.2++[.lst (gD xs q.1 r.1)])):W (cI a lo c b j) Q:=by
 unfold cI
 rw [W_bind]
 refine b6 h fun p q=>?_
 obtain ⟨d,o⟩:=p
 obtain ⟨l,e,i⟩:=q
 dsimp only at e i ⊢
 subst e
 rw [W_bind]
 refine b6 i fun s q=>?_
 rw [W_bind]
 refine b6 q fun r q=>?_
 obtain ⟨xs,m,n⟩:=q
 simp only [bQ,m,Uc]
 exact W_some.mpr n
theorem bW (a:Hm)(c:C):(a++[c])[a.length]? = some c:=by simp
end L3
namespace L3
open PySem L2
theorem Fc {f g:D->D->Hm->Option (D×Hm)}{a b c:ME}{e:aG}{i:Hm} {Q}:W (i9 f g a b c e i) Q↔W (a e i) fun p=>W (b e p.2) fun q=>W (f p.1 q.1 q.2) fun r=>match r.1 with|.bl k=>if k=true then W (c e r.2) fun t=>W (g q.1 t.1 t.2) Q else Q (.bl false,r.2)|_=>False:=by
 unfold i9
 simp only [W_bind]
 constructor<;>exact fun h=>b6 h fun p q=>b6 q fun m l=>b6 l fun r j=>by
  obtain ⟨d,i⟩:=r
  cases d with
  | bl k=>cases k<;>simpa [W_some,W_bind] using j
  | _=>simpa [W_none] using j
section
variable {i j:Int}{μ:Hm}{Q:D×Hm->Prop}
theorem Qa:W (iI false .non .non μ) Q↔Q (.bl true,μ):=W_some
theorem Qb {xs:List D}:W (iI false (.tup xs) .non μ) Q↔Q (.bl false,μ):=W_some
end
theorem w_mTrue {b:aG}{a:Hm}{Q:Bool×Hm->Prop}:W (eV b a) Q↔Q (true,a):=W_some
theorem w_mPut {o i v:ME}{a:aG}{c:Hm} {Q}:W (jA o i v a c) Q↔W (v a c) fun p=>W (o a p.2) fun q=>W (i a q.2) fun r=>W (qP q.1 r.1 p.1 r.2) fun b=>Q (.nx,a,b):=by
 unfold jA xV
 simp only [W_bind,gJ]
theorem Qd {b:Hm}{a:Nat}{xs:List D}{Q:D×Hm->Prop}(h:b[a]? = some (.lst xs)):W (oP [.loc a] b) Q↔Q (.tup xs,b):=by
 simp only [oP,bQ,h,Us]
 exact W_some
section
variable {μ:Hm}{a:Nat}{kvs:List (List Int×D)}{k:List Int}{d y:D}{ρ:aG}{Q:D×Hm->Prop}
theorem uK:W (kY ρ μ) Q↔Q (.loc μ.length,μ++[.dT []]):=W_some
theorem Fd {Q:Hm->Prop}(h:μ[a]? = some (.dT kvs))(b:gH y=some k)(c:kvs.length<Td):W (qP (.loc a) y d μ) Q↔Q (μ.set a (.dT (dQ kvs k d))):=by
 simp only [qP,qO,h,b,Uc,if_pos c]
 exact W_some
end
theorem m3 {f:D->List D->Hm->Option (D×Hm)}{i:ME}{j:MA}{a:aG}{l:Hm}{Q:D×Hm->Prop}(h:W (i a l) fun p=>∃ x,p.1=.str x/\W (j a p.2) fun q=>W (f (.str x) q.1 q.2) Q):W (dJ f i j a l) Q:=by
 obtain ⟨⟨d,s⟩,m,x,b,⟨v,u⟩,c,e⟩:=h
 dsimp only at b c e
 subst b
 obtain ⟨r,n,o⟩:=e
 refine ⟨r,?_,o⟩
 simp only [dJ,m,Uc,c]
 exact n
theorem Fe:∀ ss:List Str,qQ (ss.map D.str)=some ss
 | []=>rfl
 | x::ss=>by
  rw [S7]
  simp only [qQ,Fe ss,Us]
theorem Ff {c:Hm}{a:Nat}{b:Str}{ss:List Str}{Q:D×Hm->Prop}(h:c[a]? = some (.lst (ss.map D.str)))(h1:Wh (ss.toArray.foldl (·+·.length+b.length) 0)=false)(d:(Ui b ss).length<=Td) :
  W (fD (.str b) [.loc a] c) Q↔Q (.str (Ui b ss),c):=by
 simp only [fD,tI,h,Uc,Fe]
 rw [if_pos ⟨h1,d⟩]
 exact W_some
theorem Fg {z:Str}{i:Int}{c:Nat}{a:Hm}{Q:D×Hm->Prop}(hz:z.length<=Td)(h:atI z.cps.toList i=some c):W (aH (.str z) (.int i) a) Q↔Q (.str ⟨#[c]⟩,a):=by
 have:aH (.str z) (.int i) a=some (.str ⟨#[c]⟩,a):=by
  simp only [aH,gC]
  rw [if_pos hz,h];rfl
 rw [this]
 exact W_some
theorem m4 {x y:Str}{a:Hm}{Q:D×Hm->Prop}(h:x.length+y.length<=Td):W (bM (.str x) (.str y) a) Q↔Q (.str (x++y),a):=by
 have:bM (.str x) (.str y) a=some (.str (x++y),a):=by
  simp only [bM];rw [if_pos h]
 rw [this]
 exact W_some
theorem Qe {m c:MS}{r:MR}{sup:Str->Option Bool}{i:Nat}{e b:aG}{d a:Hm}{x:Xn}{Q:Fl×aG×Hm->Prop}(h:r e d=some (x,b,a))(j:sup x.1=some true) :
  W (n9 m r sup i c e d) Q↔W (c (b.set i (some (.loc a.length))) (a++[C.exc x.1 (x.2.map (·.1)) (x.2.map (·.2))])) fun q=>Q (q.1,q.2.1.set i none,q.2.2):=by
 unfold n9
 rw [h]
 dsimp only
 rw [if_pos j]
 exact gJ
theorem w_rRaise {x:Str}{b:MA}{a:aG}{c:Hm}{Q:Xn×aG×Hm->Prop}:W (mG x b a c) Q↔W (b a c) fun p=>Q ((x,[]),a,p.2):=by
 unfold mG
 exact gJ
theorem w_rIf {t:MT}{b c:MR}{a:aG}{d:Hm}{Q:Xn×aG×Hm->Prop}:W (jX t b c a d) Q↔W (t a d) fun p=>W (if p.1=true then b a p.2 else c a p.2) Q:=by
 unfold jX
 exact W_bind
theorem pF {m:MS}{a i:MR}{c:aG}{b:Hm}{Q:Xn×aG×Hm->Prop}(h:W (a c b) Q):W (dO m a i c b) Q:=by
 obtain ⟨p,d,e⟩:=h
 refine ⟨p,?_,e⟩
 unfold dO
 rw [d]
theorem pG {m:MS}{c d:MR}{b:aG}{a:Hm}{Q:Xn×aG×Hm->Prop}(h:c b a=none)(k:W (m b a) fun p=>p.1=.nx/\W (d p.2.1 p.2.2) Q):W (dO m c d b a) Q:=by
 obtain ⟨⟨f,o,n⟩,e,i,p,j,l⟩:=k
 cases i
 refine ⟨p,?_,l⟩
 unfold dO
 rw [h,e]
 exact j
theorem Fh {o:Option (Xn×aG×Hm)}{Q:Xn×Hm->Prop}:W (EH o) Q↔W o fun p=>Q (p.1,p.2.2):=gJ
end L3
namespace Lw
open PySem L2 L3
noncomputable def ds:List (Str×Stmt):=(("is_whole",aT 16)::("is_edge",aT 17)::("line_of",aT 18)::("is_size",aT 21)::("is_mark",aT 22)::("is_within",aT 23)::("places_within",aT 24)::("edges_in",aT 25)::("marks_in",aT 26)::("sign_at",aT 28)::("drawn",aT 29)::("sign_in",aT 30)::("creases_in",aT 31)::("read_sheet",aT 32)::("_law_draw",aT 34)::("_law_kind",aT 35)::("_law_int",aT 36)::("_law_are",aT 37)::("_law_amid",aT 38)::("_law_size",aT 39)::("_law_line",aT 40)::("_law_creases",aT 41)::("_law_is_sheet",aT 42)::("_law_sign",aT 43)::("_law_drawing",aT 44)::("_law_row_spoiled",aT 45)::("_law_spoiled",aT 46)::("_law_read_here",aT 47)::("_law_refused",aT 48)::("_law_other",aT 49)::("law",aT 50)::[])
noncomputable def Aa:D:=(.tup [(.str "h"),(.str "v"),(.str "o")])
noncomputable def S:Sig:={ fn:=(("is_whole",1)::("is_edge",1)::("line_of",1)::("is_size",1)::("is_mark",1)::("is_within",3)::("places_within",2)::("edges_in",2)::("marks_in",1)::("sign_at",3)::("drawn",1)::("sign_in",2)::("creases_in",3)::("read_sheet",1)::("_law_draw",2)::("_law_kind",1)::("_law_int",1)::("_law_are",2)::("_law_amid",3)::("_law_size",1)::("_law_line",1)::("_law_creases",3)::("_law_is_sheet",2)::("_law_sign",4)::("_law_drawing",3)::("_law_row_spoiled",3)::("_law_spoiled",2)::("_law_read_here",1)::("_law_refused",1)::("_law_other",1)::("law",1)::[]),con:=[("MARKS",Aa)],tab:=[],no:=["ValueError","bool","dict","int","isinstance","len","list","range","sorted","str","tuple"],dIt:=[],dEq:=[],dMe:=[],cls:=[("NoEdge","edge"),("Twice","edge"),("Barred","corner")],sup:=[("CreaseError",["CreaseError","ValueError"]),("NoSize",["NoSize","CreaseError","ValueError"]),("NoMark",["NoMark","CreaseError","ValueError"]),("NoText",["NoText","CreaseError","ValueError"]),("NoRound",["NoRound","CreaseError","ValueError"]),("NoOrder",["NoOrder","CreaseError","ValueError"]),("TooMany",["TooMany","CreaseError","ValueError"]),("NoFold",["NoFold","CreaseError","ValueError"]),("NoRow",["NoRow","CreaseError","ValueError"]),("NoName",["NoName","CreaseError","ValueError"]),("Taken",["Taken","CreaseError","ValueError"]),("NoEdge",["NoEdge","CreaseError","ValueError"]),("Twice",["Twice","CreaseError","ValueError"]),("Barred",["Barred","CreaseError","ValueError"])],rz:=["read_sheet"],uf:=[("_law_other",aT 49)] }
@[irreducible] noncomputable def f (k:Nat)(x:Str):MF:=gY S ds k x
@[irreducible] noncomputable def g (k:Nat)(x:Str):RF:=k7 S ds k x
noncomputable abbrev sup (c x:Str):Option Bool:=(S.sup.lookup x).map fun a=>a.contains c
noncomputable abbrev Fj (a:List Str)(x:Str):Option Bool:=((S.sup.lookup x).map fun c=>a.map fun n=>c.contains n).map fun b=>b.any id
end Lw
namespace Lw
open PySem L2 L3
theorem Qf (k:Nat)(a:D)(b:Hm):f (k+1) "is_whole" [a] b=fin ((aV (f9 (aK cW (aC (aA 0) (aC (mC (.ty "int")) aD))) (jP (aK cW (aC (aA 0) (aC (mC (.ty "bool")) aD)))))) [some a] b):=by
 kernel_rfl
theorem Qg (k:Nat)(a:D)(b:Hm):f (k+1) "is_edge" [a] b=fin ((aR (a9 (aO (aB (aX false) (aB bI (aB aH (aA 0) (mC (.int 0))) (mC (.int 2))) (mC (.int 1)))) (aV (aB (aX false) (aB bI (aB aH (aA 0) (mC (.int 1))) (mC (.int 2))) (mC (.int 1)))) a8) (aV (f9 (aB (aX false) (aB bI (aB aH (aA 0) (mC (.int 1))) (mC (.int 2))) (mC (.int 0))) (aB (aX true) (aB bI (aB aH (aA 0) (mC (.int 0))) (mC (.int 4))) (aB bI (aB aH (aA 0) (mC (.int 1))) (mC (.int 4))))))) [some a] b):=by
 kernel_rfl
theorem Qh (k:Nat)(a:D)(b:Hm):f (k+1) "line_of" [a] b=fin ((aR (a9 (aO (aB (aX false) (aB bI (aB aH (aA 0) (mC (.int 0))) (mC (.int 2))) (mC (.int 1)))) (aV (iV (aO (aB (aX false) (aB bI (aB aH (aA 0) (mC (.int 0))) (mC (.int 4))) (aB bI (aB aH (aA 0) (mC (.int 1))) (mC (.int 4))))) (mC (.str "falling")) (mC (.str "rising")))) a8) (aV (iV (aO (aB (aX false) (aB bI (aB aH (aA 0) (mC (.int 1))) (mC (.int 4))) (mC (.int 0)))) (mC (.str "level")) (mC (.str "upright"))))) [some a] b):=by
 kernel_rfl
theorem Qi (k:Nat)(a:D)(b:Hm):f (k+1) "is_size" [a] b=fin ((aV (f9 (aK (f k "is_whole") (aC (aA 0) aD)) (i9 nO nO (mC (.int 1)) (aA 0) (mC (.int 6))))) [some a] b):=by
 kernel_rfl
theorem Qj (k:Nat)(a:D)(b:Hm):f (k+1) "is_mark" [a] b=fin ((aV (f9 (aK cW (aC (aA 0) (aC (mC (.ty "str")) aD))) (aB (dD false) (aA 0) (mC Aa)))) [some a] b):=by
 kernel_rfl
theorem Qk (k:Nat)(a b c:D)(d:Hm):f (k+1) "is_within" [a,b,c] d=fin ((aV (f9 (i9 dA dA (mC (.int 0)) (aB aH (aA 2) (mC (.int 0))) (aB cM (mC (.int 4)) (aA 0))) (i9 dA dA (mC (.int 0)) (aB aH (aA 2) (mC (.int 1))) (aB cM (mC (.int 4)) (aA 1))))) [some a,some b,some c] d):=by
 kernel_rfl
theorem Ql (k:Nat)(a b:D)(c:Hm):f (k+1) "places_within" [a,b] c=fin ((aR (aW 2 (dG aD)) (aR (fT (jV (aC (mC (.int 1)) (aC (aB cM (mC (.int 4)) (aA 0)) aD))) (eF 3) (gQ (jW n5 (aA 2) (aC (dH (jV (aC (mC (.int 1)) (aC (aB cM (mC (.int 4)) (aA 1)) aD))) eV (eE (aC (aA 3) (aC (aA 4) aD)))) aD)))) (aV (aA 2)))) [some a,some b,none,none] c):=by
 kernel_rfl
theorem Qm (k:Nat)(a b:D)(c:Hm):f (k+1) "edges_in" [a,b] c=fin ((aV (dH (dN (aK (f k "places_within") (aC (aA 0) (aC (aA 1) aD)))) (cC (aK (f k "is_edge") (aC (aA 2) aD))) (aA 2))) [some a,some b] c):=by
 kernel_rfl
theorem Qn (k:Nat)(a:D)(b:Hm):f (k+1) "marks_in" [a] b=fin ((aV (aK mQ (aC (aB aH (aA 0) (mC (.int 2))) aD))) [some a] b):=by
 kernel_rfl
theorem Qo (k:Nat)(a b c:D)(d:Hm):f (k+1) "sign_at" [a,b,c] d=fin ((aR (a9 (dF (aO (aB (aX false) (aB bI (aB aH (aA 2) (mC (.int 0))) (mC (.int 4))) (mC (.int 0)))) (aO (aB (aX false) (aB bI (aB aH (aA 2) (mC (.int 1))) (mC (.int 4))) (mC (.int 0))))) (aV (mC (.str "+"))) a8) (aR (a9 (dC (cC (aK (f k "is_edge") (aC (aA 2) aD)))) (aV (mC (.str " "))) a8) (aR (a9 (cC (aK (f k "is_within") (aC (aB aH (aA 0) (mC (.int 0))) (aC (aB aH (aA 0) (mC (.int 1))) (aC (aA 2) aD))))) (aV (kH jB (aA 1) (aC (aA 2) (aC (mC (.str ".")) aD)))) a8) (aV (iV (aO (aB (aX false) (aK (f k "line_of") (aC (aA 2) aD)) (mC (.str "level")))) (mC (.str "-")) (mC (.str "|"))))))) [some a,some b,some c] d):=by
 kernel_rfl
theorem Qp (k:Nat)(a:D)(b:Hm):f (k+1) "drawn" [a] b=fin ((aR (aW 1 (aK (f k "marks_in") (aC (aA 0) aD))) (aR (aW 2 (dG aD)) (aR (fT (iD (aC (aB bM (aB cM (mC (.int 4)) (aB aH (aA 0) (mC (.int 1)))) (mC (.int 1))) aD)) (eF 3) (gQ (jW kW (aA 2) (aC (dJ fD (mC (.str "")) (aC (dH (iD (aC (aB bM (aB cM (mC (.int 4)) (aB aH (aA 0) (mC (.int 0)))) (mC (.int 1))) aD)) eV (aK (f k "sign_at") (aC (aA 0) (aC (aA 1) (aC (eE (aC (aA 4) (aC (aA 3) aD))) aD))))) aD)) aD)))) (aV (dJ fD (mC (.str "\n")) (aC (aA 2) aD)))))) [some a,none,none,none] b):=by
 kernel_rfl
theorem Qq (k:Nat)(a b:D)(c:Hm):f (k+1) "sign_in" [a,b] c=fin ((aV (cI (aB aH (aA 0) (aB aH (aA 1) (mC (.int 1)))) (c9 (aB aH (aA 1) (mC (.int 0)))) (c9 (aB bM (aB aH (aA 1) (mC (.int 0))) (mC (.int 1)))))) [some a,some b] c):=by
 kernel_rfl
theorem Qr (k:Nat)(a b c:D)(d:Hm):f (k+1) "creases_in" [a,b,c] d=fin ((aR (aW 3 (dH (dN (aK (f k "edges_in") (aC (aA 1) (aC (aA 2) aD)))) eV (eE (aC (aA 4) (aC (aK (f k "sign_in") (aC (aA 0) (aC (aA 4) aD))) aD))))) (aV (aK oP (aC (dH (dN (aA 3)) (cC (aK (f k "is_mark") (aC (aB aH (aA 4) (mC (.int 1))) aD))) (aA 4)) aD)))) [some a,some b,some c,none] d):=by
 kernel_rfl
theorem Qs (k:Nat)(a:D)(b:Hm):f (k+1) "read_sheet" [a] b=fin ((aR (a9 (dC (cC (aK cW (aC (aA 0) (aC (mC (.ty "str")) aD))))) bY a8) (aR (aW 1 (dJ fF (aA 0) (aC (mC (.str "\n")) aD))) (aR (aW 2 (aB cJ (aK cP (aC (aB aH (aA 1) (mC (.int 0))) aD)) (mC (.int 4)))) (aR (aW 3 (aB cJ (aK cP (aC (aA 1) aD)) (mC (.int 4)))) (aR (a9 (dC (dF (cC (aK (f k "is_size") (aC (aA 2) aD))) (cC (aK (f k "is_size") (aC (aA 3) aD))))) bY a8) (aR (aW 4 (eE (aC (aA 2) (aC (aA 3) (aC (aK (f k "creases_in") (aC (aA 1) (aC (aA 2) (aC (aA 3) aD)))) aD))))) (aR (a9 (aO (aB (aX true) (aK (f k "drawn") (aC (aA 4) aD)) (aA 0))) bY a8) (aV (aA 4))))))))) [some a,none,none,none,none] b):=by
 kernel_rfl
theorem Fm (k:Nat)(a:D)(b:Hm):g (k+3) "read_sheet" [a] b=EH ((dO (a9 (dC (cC (aK cW (aC (aA 0) (aC (mC (.ty "str")) aD))))) bY a8) (jX (dC (cC (aK cW (aC (aA 0) (aC (mC (.ty "str")) aD))))) (dO bY (mG "NoText" (aC (mC (.str "a drawing is a text")) aD)) bZ) bZ) (dO (aW 1 (dJ fF (aA 0) (aC (mC (.str "\n")) aD))) bZ (dO (aW 2 (aB cJ (aK cP (aC (aB aH (aA 1) (mC (.int 0))) aD)) (mC (.int 4)))) bZ (dO (aW 3 (aB cJ (aK cP (aC (aA 1) aD)) (mC (.int 4)))) bZ (dO (a9 (dC (dF (cC (aK (f (k+2) "is_size") (aC (aA 2) aD))) (cC (aK (f (k+2) "is_size") (aC (aA 3) aD))))) bY a8) (jX (dC (dF (cC (aK (f (k+2) "is_size") (aC (aA 2) aD))) (cC (aK (f (k+2) "is_size") (aC (aA 3) aD))))) (dO bY (mG "NoText" (aC (mC (.str "no sheet has a drawing of this size")) aD)) bZ) bZ) (dO (aW 4 (eE (aC (aA 2) (aC (aA 3) (aC (aK (f (k+2) "creases_in") (aC (aA 1) (aC (aA 2) (aC (aA 3) aD)))) aD))))) bZ (dO (a9 (aO (aB (aX true) (aK (f (k+2) "drawn") (aC (aA 4) aD)) (aA 0))) bY a8) (jX (aO (aB (aX true) (aK (f (k+2) "drawn") (aC (aA 4) aD)) (aA 0))) (dO bY (mG "NoText" (aC (mC (.str "no sheet is drawn so")) aD)) bZ) bZ) (dO (aV (aA 4)) bZ bZ)))))))) [some a,none,none,none,none] b):=by
 kernel_rfl
theorem Qt (k:Nat)(a b:D)(c:Hm):f (k+1) "_law_draw" [a,b] c=fin ((aV (aB aH (aB bM (dG (aC (mC (.int 0)) aD)) (cI (aA 0) (c9 (aA 1)) (c9 (aB bM (aA 1) (mC (.int 1)))))) (qB (mC (.int 1))))) [some a,some b] c):=by
 kernel_rfl
theorem Qu (k:Nat)(a:D)(b:Hm):f (k+1) "_law_kind" [a] b=fin ((aV (aB aH (aB aH (dG (aC (mC (.str "c.l.")) (aC (mC (.str ".fqr")) (aC (mC (.str "uqcq")) (aC (mC (.str ".rqf")) aD))))) (aB bI (aB aH (aA 0) (mC (.int 1))) (mC (.int 4)))) (aB bI (aB aH (aA 0) (mC (.int 0))) (mC (.int 4))))) [some a] b):=by
 kernel_rfl
theorem Qv (k:Nat)(a:D)(b:Hm):f (k+1) "_law_int" [a] b=fin ((aV (f9 (jP (aK cW (aC (aA 0) (aC (mC (.ty "bool")) aD)))) (aK cW (aC (aA 0) (aC (mC (.ty "int")) aD))))) [some a] b):=by
 kernel_rfl
theorem Qw (k:Nat)(a b:D)(c:Hm):f (k+1) "_law_are" [a,b] c=fin ((aR (a9 (eD (dC (cC (aK cW (aC (aA 0) (aC (mC (.ty "list")) aD))))) (aO (aB (aX true) (aA 0) (aA 1)))) (aV (mC (.bl false))) a8) (aR (fT (dN (aA 0)) (eF 2) (a9 (eD (dC (cC (aK cW (aC (aA 2) (aC (mC (.ty "tuple")) aD))))) (eD (aO (aB (aX true) (aK cP (aC (aA 2) aD)) (mC (.int 2)))) (eD (dC (cC (aK (f k "_law_int") (aC (aB aH (aA 2) (mC (.int 0))) aD)))) (dC (cC (aK (f k "_law_int") (aC (aB aH (aA 2) (mC (.int 1))) aD))))))) (aV (mC (.bl false))) a8)) (aV (mC (.bl true))))) [some a,some b,none] c):=by
 kernel_rfl
theorem Qx (k:Nat)(a b c:D)(d:Hm):f (k+1) "_law_amid" [a,b,c] d=fin ((aR (aW 3 (dG aD)) (aR (fT (jV (aC (mC (.int 1)) (aC (aB cM (mC (.int 4)) (aA 0)) aD))) (eF 4) (aW 3 (aB bM (aA 3) (dH (jV (aC (mC (.int 1)) (aC (aB cM (mC (.int 4)) (aA 1)) aD))) (aO (aB (dD false) (aK (f k "_law_kind") (aC (eE (aC (aA 4) (aC (aA 5) aD))) aD)) (aA 2))) (eE (aC (aA 4) (aC (aA 5) aD))))))) (aV (aA 3)))) [some a,some b,some c,none,none] d):=by
 kernel_rfl
theorem Qy (k:Nat)(a:D)(b:Hm):f (k+1) "_law_size" [a] b=fin ((aV (aB aH (dG (aC (mC (.int 1)) (aC (mC (.int 2)) (aC (mC (.int 3)) (aC (aB bM (mC (.int 1)) (aB bI (aB cJ (aA 0) (mC (.int 4))) (mC (.int 6)))) aD))))) (aB bI (aA 0) (mC (.int 4))))) [some a] b):=by
 kernel_rfl
theorem Qz (k:Nat)(a:D)(b:Hm):f (k+1) "_law_line" [a] b=fin ((aR (aW 1 (aK (f k "_law_kind") (aC (aA 0) aD))) (aV (eE (aC (aA 1) (aC (aB aH (jU [((mC (.str "l")),(aB aH (aA 0) (mC (.int 1)))),((mC (.str "u")),(aB aH (aA 0) (mC (.int 0)))),((mC (.str "f")),(aB lU (aB aH (aA 0) (mC (.int 0))) (aB aH (aA 0) (mC (.int 1))))),((mC (.str "r")),(aB bM (aB aH (aA 0) (mC (.int 0))) (aB aH (aA 0) (mC (.int 1)))))]) (aA 1)) aD))))) [some a,none] b):=by
 kernel_rfl
theorem QC (k:Nat)(a b c:D)(d:Hm):f (k+1) "_law_creases" [a,b,c] d=fin ((aR (aW 3 (aK (f k "_law_amid") (aC (aA 0) (aC (aA 1) (aC (mC (.str "lufr")) aD))))) (aR (aW 4 kY) (aR (fT (iD (aC (aK cP (aC (aA 2) aD)) aD)) (eF 5) (aR (aW 6 (aB bI (aB bM (aB bM (aB cM (aB aH (aA 2) (aA 5)) (mC (.int 48271))) (aB cM (aB cM (aA 5) (aA 5)) (mC (.int 40693)))) (mC (.int 7919))) (mC (.int 2147483647)))) (aR (aW 6 (aB bI (aB cM (aA 6) (aA 6)) (mC (.int 2147483563)))) (aR (aW 7 (aB aH (aA 3) (aB bI (aB cJ (aA 6) (mC (.int 9))) (aK cP (aC (aA 3) aD))))) (a9 (aO (aB dA (aB bI (aA 6) (mC (.int 9))) (mC (.int 7)))) (jA (aA 4) (aA 7) (aB aH (mC (.str "hvo")) (aB bI (aB cJ (aA 6) (mC (.int 2003))) (mC (.int 3))))) (aR (aW 8 (dH (dN (aA 3)) (aO (aB (aX false) (aK (f k "_law_line") (aC (aA 10) aD)) (aK (f k "_law_line") (aC (aA 7) aD)))) (aA 10))) (fT (iD (aC (aK cP (aC (aA 8) aD)) aD)) (eF 9) (jA (aA 4) (aB aH (aA 8) (aA 9)) (aB aH (mC (.str "hvo")) (aB bI (aB bM (aB cJ (aA 6) (mC (.int 2003))) (aB cM (aA 9) (aB bI (aA 6) (mC (.int 2))))) (mC (.int 3)))))))))))) (aV (aA 4))))) [some a,some b,some c,none,none,none,none,none,none,none] d):=by
 kernel_rfl
theorem QD (k:Nat)(a b:D)(c:Hm):f (k+1) "_law_is_sheet" [a,b] c=fin ((aR (a9 (eD (dC (cC (aK cW (aC (aA 0) (aC (mC (.ty "tuple")) aD))))) (eD (aO (aB (aX true) (aK cP (aC (aA 0) aD)) (mC (.int 3)))) (eD (dC (cC (aK cW (aC (aB aH (aA 0) (mC (.int 2))) (aC (mC (.ty "tuple")) aD))))) (aO (aB (aX true) (aA 0) (aA 1)))))) (aV (mC (.bl false))) a8) (aR (a9 (eD (dC (cC (aK (f k "_law_int") (aC (aB aH (aA 0) (mC (.int 0))) aD)))) (dC (cC (aK (f k "_law_int") (aC (aB aH (aA 0) (mC (.int 1))) aD))))) (aV (mC (.bl false))) a8) (aR (fT (dN (aB aH (aA 0) (mC (.int 2)))) (eF 2) (a9 (eD (dC (cC (aK cW (aC (aA 2) (aC (mC (.ty "tuple")) aD))))) (eD (aO (aB (aX true) (aK cP (aC (aA 2) aD)) (mC (.int 2)))) (dC (cC (aK cW (aC (aB aH (aA 2) (mC (.int 1))) (aC (mC (.ty "str")) aD))))))) (aV (mC (.bl false))) a8)) (aV (aK (f k "_law_are") (aC (dH (dN (aB aH (aA 0) (mC (.int 2)))) eV (aB aH (aA 3) (mC (.int 0)))) (aC (dH (dN (aB aH (aA 1) (mC (.int 2)))) eV (aB aH (aA 3) (mC (.int 0)))) aD))))))) [some a,some b,none] c):=by
 kernel_rfl
theorem QF (k:Nat)(a b c d:D)(e:Hm):f (k+1) "_law_sign" [a,b,c,d] e=fin ((aR (aW 4 (aK (f k "_law_kind") (aC (aA 0) aD))) (aR (a9 (dF (aO (aB (aX false) (aB bI (aB aH (aA 0) (mC (.int 0))) (mC (.int 4))) (mC (.int 0)))) (aO (aB (aX false) (aB bI (aB aH (aA 0) (mC (.int 1))) (mC (.int 4))) (mC (.int 0))))) (aV (mC (.str "+"))) a8) (aR (a9 (aO (aB (dD true) (aA 4) (mC (.str "lufr")))) (aV (mC (.str " "))) a8) (aR (a9 (dF (aO (aB dA (mC (.int 0)) (aB aH (aA 0) (mC (.int 0))))) (dF (aO (aB dA (aB aH (aA 0) (mC (.int 0))) (aB cM (mC (.int 4)) (aA 1)))) (dF (aO (aB dA (mC (.int 0)) (aB aH (aA 0) (mC (.int 1))))) (aO (aB dA (aB aH (aA 0) (mC (.int 1))) (aB cM (mC (.int 4)) (aA 2))))))) (aV (kH jB (aA 3) (aC (aA 0) (aC (mC (.str ".")) aD)))) a8) (aV (aB aH (jU [((mC (.str "l")),(mC (.str "-"))),((mC (.str "u")),(mC (.str "|")))]) (aA 4))))))) [some a,some b,some c,some d,none] e):=by
 kernel_rfl
theorem QH (k:Nat)(a b c:D)(d:Hm):f (k+1) "_law_drawing" [a,b,c] d=fin ((aR (aW 3 (dG aD)) (aR (fT (iD (aC (aB bM (aB cM (mC (.int 4)) (aA 1)) (mC (.int 1))) aD)) (eF 4) (gQ (jW kW (aA 3) (aC (dJ fD (mC (.str "")) (aC (dH (iD (aC (aB bM (aB cM (mC (.int 4)) (aA 0)) (mC (.int 1))) aD)) eV (aK (f k "_law_sign") (aC (eE (aC (aA 5) (aC (aA 4) aD))) (aC (aA 0) (aC (aA 1) (aC (aA 2) aD)))))) aD)) aD)))) (aV (dJ fD (mC (.str "\n")) (aC (aA 3) aD))))) [some a,some b,some c,none,none] d):=by
 kernel_rfl
theorem QK (k:Nat)(a b c:D)(d:Hm):f (k+1) "_law_row_spoiled" [a,b,c] d=fin ((aR (aW 3 (dJ fF (aA 0) (aC (mC (.str "\n")) aD))) (aR (aW 4 (aB bI (aA 2) (aK cP (aC (aA 3) aD)))) (aR (a9 (aO (aB (aX false) (aA 1) (mC (.int 3)))) (aW 3 (aB bM (cI (aA 3) dX (c9 (aA 4))) (cI (aA 3) (c9 (aB bM (aA 4) (mC (.int 1)))) dX))) a8) (aR (a9 (aO (aB (aX false) (aA 1) (mC (.int 4)))) (aW 3 (aB bM (aB bM (cI (aA 3) dX (c9 (aA 4))) (dG (aC (aB aH (aA 3) (aA 4)) aD))) (cI (aA 3) (c9 (aA 4)) dX))) a8) (aR (a9 (dF (aO (aB (aX false) (aA 1) (mC (.int 5)))) (aO (aB nP (aA 4) (mC (.int 0))))) (aW 3 (aB bM (aB bM (cI (aA 3) dX (c9 (aB lU (aA 4) (mC (.int 1))))) (dG (aC (aB aH (aA 3) (aA 4)) (aC (aB aH (aA 3) (aB lU (aA 4) (mC (.int 1)))) aD)))) (cI (aA 3) (c9 (aB bM (aA 4) (mC (.int 1)))) dX))) a8) (aR (a9 (aO (aB (aX false) (aA 1) (mC (.int 6)))) (aW 3 (dH (dN (aA 3)) eV (aB bM (cI (aA 5) dX (c9 (mC (.int 4)))) (aA 5)))) a8) (aR (a9 (aO (aB (aX false) (aA 1) (mC (.int 7)))) (aW 3 (dH (dN (aA 3)) eV (cI (aA 5) (c9 (mC (.int 4))) dX))) a8) (aV (dJ fD (mC (.str "\n")) (aC (aA 3) aD)))))))))) [some a,some b,some c,none,none] d):=by
 kernel_rfl
theorem QL (k:Nat)(a b:D)(c:Hm):f (k+1) "_law_spoiled" [a,b] c=fin ((aR (aW 2 (aB bI (aA 1) (mC (.int 11)))) (aR (aW 3 (aB cJ (aA 1) (mC (.int 11)))) (aR (aW 4 (aB aH (mC (.str " .+-|hvoHxO_\n")) (aB bI (aA 3) (mC (.int 13))))) (aR (aW 5 (aB bI (aB cJ (aA 3) (mC (.int 13))) (aB bM (aK cP (aC (aA 0) aD)) (mC (.int 1))))) (aR (a9 (aO (aB (aX false) (aA 2) (mC (.int 0)))) (aV (aB bM (aB bM (cI (aA 0) dX (c9 (aA 5))) (aA 4)) (cI (aA 0) (c9 (aB bM (aA 5) (mC (.int 1)))) dX))) a8) (aR (a9 (aO (aB (aX false) (aA 2) (mC (.int 1)))) (aV (aB bM (aB bM (cI (aA 0) dX (c9 (aA 5))) (aA 4)) (cI (aA 0) (c9 (aA 5)) dX))) a8) (aR (a9 (aO (aB (aX false) (aA 2) (mC (.int 2)))) (aV (aB bM (cI (aA 0) dX (c9 (aA 5))) (cI (aA 0) (c9 (aB bM (aA 5) (mC (.int 1)))) dX))) a8) (aR (a9 (aO (aB (aX false) (aA 2) (mC (.int 8)))) (aV (aB bM (aA 0) (mC (.str "\n")))) a8) (aR (a9 (aO (aB dA (aA 2) (mC (.int 8)))) (aV (aK (f k "_law_row_spoiled") (aC (aA 0) (aC (aA 2) (aC (aA 3) aD))))) a8) (aV (aA 0))))))))))) [some a,some b,none,none,none,none] c):=by
 kernel_rfl
theorem QM (k:Nat)(a:D)(b:Hm):f (k+1) "_law_read_here" [a] b=fin ((aR (aW 1 (dJ fF (aA 0) (aC (mC (.str "\n")) aD))) (aR (aW 2 (dG (aC (aK cP (aC (aB aH (aA 1) (mC (.int 0))) aD)) (aC (aK cP (aC (aA 1) aD)) aD)))) (aR (a9 (aO (aB (aX true) (dH (dN (aA 2)) (eD (aO (aB (aX true) (aB bI (aA 5) (mC (.int 4))) (mC (.int 1)))) (eD (aO (aB dA (aA 5) (mC (.int 5)))) (aO (aB nP (aA 5) (mC (.int 25)))))) (aA 5)) (dG aD))) (aV (mC .non)) a8) (aR (a9 (aO (aB (aX true) (dH (dN (aA 1)) (aO (aB (aX true) (aK cP (aC (aA 5) aD)) (aB aH (aA 2) (mC (.int 0))))) (aA 5)) (dG aD))) (aV (mC .non)) a8) (aR (aW 3 kY) (aR (fT (dN (aK (f k "_law_amid") (aC (aB cJ (aB aH (aA 2) (mC (.int 0))) (mC (.int 4))) (aC (aB cJ (aB aH (aA 2) (mC (.int 1))) (mC (.int 4))) (aC (mC (.str "lufr")) aD))))) (eF 4) (a9 (aO (aB (dD false) (aB aH (aB aH (aA 1) (aB aH (aA 4) (mC (.int 1)))) (aB aH (aA 4) (mC (.int 0)))) (dG (aC (mC (.str "h")) (aC (mC (.str "v")) (aC (mC (.str "o")) aD)))))) (jA (aA 3) (aA 4) (aB aH (aB aH (aA 1) (aB aH (aA 4) (mC (.int 1)))) (aB aH (aA 4) (mC (.int 0))))) a8)) (aR (a9 (aO (aB (aX true) (aK (f k "_law_drawing") (aC (aB cJ (aB aH (aA 2) (mC (.int 0))) (mC (.int 4))) (aC (aB cJ (aB aH (aA 2) (mC (.int 1))) (mC (.int 4))) (aC (aA 3) aD)))) (aA 0))) (aV (mC .non)) a8) (aV (eE (aC (aB cJ (aB aH (aA 2) (mC (.int 0))) (mC (.int 4))) (aC (aB cJ (aB aH (aA 2) (mC (.int 1))) (mC (.int 4))) (aC (oO (aA 3)) aD)))))))))))) [some a,none,none,none,none] b):=by
 kernel_rfl
theorem QN (k:Nat)(a:D)(b:Hm):f (k+1) "_law_refused" [a] b=fin ((aR (aW 1 (mC (.bl false))) (aR (n9 (gQ (aK (f k "read_sheet") (aC (aA 0) aD))) (dO (gQ (aK (f k "read_sheet") (aC (aA 0) aD))) (qF (g k "read_sheet") (aC (aA 0) aD)) bZ) (sup "CreaseError") 2 (aW 1 (f9 (fV (sup "NoText") (aA 2)) (f9 (fV (sup "ValueError") (aA 2)) (jP (aK (k6 S "_law_other") (aC (aA 2) aD))))))) (aV (aA 1)))) [some a,none,none] b):=by
 kernel_rfl
theorem QU (a:D)(b:Hm):k6 S "_law_other" [a] b=fin ((aR (a9 (aO (fV (Fj ["Barred","NoEdge","NoFold","NoMark","NoName","NoOrder","NoRound"]) (aA 0))) (aV (mC (.bl true))) a8) (aV (fV (Fj ["NoRow","NoSize","Taken","TooMany","Twice"]) (aA 0)))) [some a] b):=by
 kernel_rfl
theorem QV (k:Nat)(a:D)(b:Hm):f (k+1) "law" [a] b=fin ((aR (aW 1 (aK (f k "_law_size") (aC (aK (f k "_law_draw") (aC (aA 0) (aC (mC (.int 0)) aD))) aD))) (aR (aW 2 (aK (f k "_law_size") (aC (aK (f k "_law_draw") (aC (aA 0) (aC (mC (.int 1)) aD))) aD))) (aR (aW 3 (aK (f k "_law_creases") (aC (aA 1) (aC (aA 2) (aC (cI (aA 0) (c9 (mC (.int 7))) dX) aD))))) (aR (aW 4 (aK (f k "_law_drawing") (aC (aA 1) (aC (aA 2) (aC (aA 3) aD))))) (aR (aW 5 (aK (f k "_law_draw") (aC (aA 0) (aC (mC (.int 2)) aD)))) (aR (a9 (aO (aB (aX false) (aB bI (aA 5) (mC (.int 6))) (mC (.int 1)))) (aR (aW 6 (dG (aC (mC .non) (aC (mC (.int 5)) (aC (mC (.bl true)) (aC (dG (aC (aA 4) aD)) (aC (eE (aC (aA 4) aD)) (aC kY (aC (dJ fF (aA 4) (aC (mC (.str "\n")) aD)) (aC (mC (.str "")) (aC (mC (.str "+")) (aC (mC (.str "\n")) (aC (mC (.str "h")) (aC (mC (.str "+---+")) (aC (mC (.str "+\n|\n|\n|\n+")) aD))))))))))))))) (aR (aW 6 (aB bM (aA 6) (dG (aC (mC (.str " ")) (aC (mC (.str ".\n.\n.\n.\n.")) (aC (aK (f k "_law_drawing") (aC (mC (.int 7)) (aC (aA 2) (aC kY aD)))) (aC (aK (f k "_law_drawing") (aC (aA 1) (aC (mC (.int 7)) (aC kY aD)))) aD))))))) (aV (aK (f k "_law_refused") (aC (aB aH (aA 6) (aB bI (aB cJ (aA 5) (mC (.int 6))) (mC (.int 17)))) aD))))) a8) (aR (fT (jV (aC (mC (.int 3)) (aC (mC (.int 6)) aD))) (eF 7) (aW 4 (aK (f k "_law_spoiled") (aC (aA 4) (aC (aK (f k "_law_draw") (aC (aA 0) (aC (aA 7) aD))) aD))))) (aR (aW 8 (aK (f k "_law_read_here") (aC (aA 4) aD))) (aR (a9 (aO (aB (iI false) (aA 8) (mC .non))) (aV (aK (f k "_law_refused") (aC (aA 4) aD))) a8) (aV (aK (f k "_law_is_sheet") (aC (aK (f k "read_sheet") (aC (aA 4) aD)) (aC (aA 8) aD))))))))))))) [some a,none,none,none,none,none,none,none,none] b):=by
 kernel_rfl
end Lw
namespace Lw
open PySem L2 L3
theorem jH {z:Int}{a:Hm}{Q:D×Hm->Prop}:W (cM (.int 4) (.int z) a) Q↔Q (.int (4 * z),a):=oZ (.inl ⟨by decide,by decide⟩)
theorem Ab {z:Int}{a:Hm}{Q:D×Hm->Prop}:W (bI (.int z) (.int 2) a) Q↔Q (.int (z % 2),a):=fZ (by decide)
theorem pH {z:Int}{a:Hm}{Q:D×Hm->Prop}:W (bI (.int z) (.int 4) a) Q↔Q (.int (z % 4),a):=fZ (by decide)
theorem Fn {z:Int}{a:Hm}{Q:D×Hm->Prop}:W (bI (.int z) (.int 6) a) Q↔Q (.int (z % 6),a):=fZ (by decide)
theorem kL {z:Int}{a:Hm}{Q:D×Hm->Prop}:W (cJ (.int z) (.int 4) a) Q↔Q (.int (z / 4),a):=mY (by decide) (by decide)
theorem QX:(2:Nat)<=Td:=by decide
theorem kM {a b:D}:([a,b]:List D).length<=Td:=QX
theorem QY {z:Int}{a:Hm}{Q:D×Hm->Prop}:W (cJ (.int z) (.int 9) a) Q↔Q (.int (z / 9),a):=mY (by decide) (by decide)
theorem QZ {z:Int}{a:Hm}{Q:D×Hm->Prop}:W (bI (.int z) (.int 9) a) Q↔Q (.int (z % 9),a):=fZ (by decide)
noncomputable def eM:D->Int
 | .int i=>i
 | _=>0
theorem uL {lo:Int}{n:Nat}{d:D}(h:d∈dY lo n):∃ j:Nat,j<n/\d=.int (lo+(j:Int)):=by
 unfold dY at h
 obtain ⟨j,a,rfl⟩:=Tp.mp h
 exact ⟨j,Vc.mp a,rfl⟩
noncomputable def k9 (i j:Int):Str:=
 if j=0 then (if i=0 then "c" else if i=2 then "l" else ".") else if j=1 then (if i=1 then "f" else if i=2 then "q" else if i=3 then "r" else ".")
 else if j=2 then (if i=0 then "u" else if i=2 then "c" else "q") else (if i=1 then "r" else if i=2 then "q" else if i=3 then "f" else ".")
noncomputable def bJ (x y:Int):Str:=k9 (x % 4) (y % 4)
theorem rQ (x:Int):x % 4=0\/x % 4=1\/x % 4=2\/x % 4=3:=by omega
noncomputable def uM:List D:=[.str "c.l.",.str ".fqr",.str "uqcq",.str ".rqf"]
theorem Q0 (i j:Int)(b:i=0\/i=1\/i=2\/i=3)(c:j=0\/j=1\/j=2\/j=3)(a:Hm):∃ r,atI uM j=some r/\aH r (.int i) a=some (.str (k9 i j),a):=by
 rcases c with rfl|rfl|rfl|rfl<;>rcases b with rfl|rfl|rfl|rfl<;>exact ⟨_,rfl,by kernel_rfl⟩
theorem Ac (k:Nat)(x y:Int)(a:Hm)(Q:D×Hm->Prop)(h:∀ b,a <+: b->Q (.str (bJ x y),b)):W (f (k+1) "_law_kind" [P x y] a) Q:=by
 rw [Qu,cD]
 simp only [bD,aS,aL,aF,aM,aP,fG,g8,gK,fZ (show (0:Int)<4 by decide)]
 refine ⟨by decide,?_⟩
 obtain ⟨r,c,d⟩:=Q0 (x % 4) (y % 4) (rQ x) (rQ y) (a++[.lst uM])
 refine (dP (xs:=uM) (bW a _) c).mpr ?_
 show W (aH r (.int (x % 4)) (a++[.lst uM])) _
 rw [d]
 exact W_some.mpr (h _ (bO _ _))
noncomputable def cT (s t:Str):Bool:=!(UO t s 0 t.length 1).isEmpty
theorem Q1 {s t:Str}{a:Hm}{Q:D×Hm->Prop}:W (dD false (.str s) (.str t) a) Q↔Q (.bl (cT s t),a):=W_some
noncomputable def cell (ns:List Int)(i:Int):Int:=ns.getD i.toNat 0
theorem Q3 (ns:List Int)(i:Nat):gD (ns.map D.int) (some (i:Int)) (some ((i:Int)+1))=((ns.drop i).take 1).map D.int:=by
 have c:((i:Int)+1)=((i+1:Nat):Int):=by omega
 unfold gD
 rw [c,HT.sIx_nat,HT.sIx_nat]
 by_cases h:i<ns.length
 ·have a:min i (ns.map D.int).length=i:=by rw [S3];omega
  have b:min (i+1) (ns.map D.int).length - i=1:=by rw [S3];omega
  rw [a,b,Yx,Yy]
 ·have a:min i (ns.map D.int).length=ns.length:=by rw [S3];omega
  rw [a,Vs (by rw [S3];omega),Vs (by omega)]
  simp
theorem Q4 (ns:List Int)(i:Nat):atI ((.int 0:D)::((ns.drop i).take 1).map D.int) (-1)=some (.int (ns.getD i 0)):=by
 by_cases h:i<ns.length
 ·have e:(ns.drop i).take 1=[ns[i]]:=by
   rw [Vy h];rfl
  rw [e]
  have:ns.getD i 0=ns[i]:=by simp [Vj,h]
  rw [this]
  rfl
 ·have e:ns.drop i=[]:=Vs (by omega)
  rw [e]
  have:ns.getD i 0=0:=by simp [Vj,Vb (W4.mp h)]
  rw [this]
  rfl
theorem uN (k:Nat)(ns:List Int)(i:Int)(o:0<=i)(a:Hm)(Q:D×Hm->Prop)(h:∀ c,a <+: c->Q (.int (cell ns i),c)):W (f (k+1) "_law_draw" [.rol (ns.map D.int),.int i] a) Q:=by
 rw [Qt,cD]
 simp only [bD,aS,aL,aF,aJ,aM,aP,fG]
 refine ⟨by decide,?_⟩
 refine Fb ?_
 simp only [aF]
 refine ⟨_,rfl,?_⟩
 simp only [rP,aS,aL,aF,aJ,gZ]
 obtain ⟨n,rfl⟩:∃ n:Nat,i=n:=⟨i.toNat,by omega⟩
 rw [Q3]
 generalize hl:(ns.drop n).take 1=l
 have d:l.length<=1:=by rw [<- hl,TR];omega
 have m:(1:Nat)+(l.map D.int).length<=Td:=by
  rw [S3,TM];omega
 have e:(a++[C.lst [D.int 0]]++[C.lst (l.map D.int)])[a.length]? = some (C.lst [D.int 0]):=bA (bO _ _) (bW _ _)
 have j:(a++[C.lst [D.int 0]]++[C.lst (l.map D.int)])[(a++[C.lst [D.int 0]]).length]? = some (C.lst (l.map D.int)):=bW _ _
 rw [uJ e j m]
 simp only [PV,aL]
 have b:=Q4 ns n
 rw [hl] at b
 refine (dP (bW _ _) b).mpr ?_
 exact h _ ((bO _ _).trans ((bO _ _).trans (bO _ _)))
noncomputable def cU:D->Int×Int
 | .tup [.int x,.int y]=>(x,y)
 | _=>(0,0)
theorem Q5 (p:Int×Int->Bool)(l:List (Int×Int)):((l.map PP).filter fun d=>p (cU d)).map (fun d=>d)=(l.filter p).map PP:=by
 rw [Z3]
 induction l with
 | nil=>rfl
 | cons a l b=>
  have e:(List.map PP (a::l)).filter (fun d=>p (cU d))=if p a then PP a::(l.map PP).filter (fun d=>p (cU d)) else (l.map PP).filter fun d=>p (cU d):=by
   rw [S7,Wq];rfl
  rw [e,b,Wq]
  split<;>rfl
theorem Fo {d:D}{l:List (Int×Int)}(h:d∈l.map PP):∃ x y,d=P x y:=by
 obtain ⟨p,_,rfl⟩:=Tp.mp h
 exact ⟨p.1,p.2,rfl⟩
theorem Fp (k:Nat)(i:Int)(a:Hm)(Q:D×Hm->Prop):W (f (k+1) "_law_int" [.int i] a) Q↔Q (.bl true,a):=by
 rw [Qv,cD]
 simp only [bD,k8,zY,aY,aP,aM,aF,aL,EZ,E4]
 simp
theorem Q6 (k:Nat)(a b:Nat)(ps n:List (Int×Int))(j:Hm)(Q:D×Hm->Prop)(l:j[a]? = some (.lst (ps.map PP)))(q:j[b]? = some (.lst (n.map PP)))(h:Q (.bl (ps == n),j)):W (f (k+2) "_law_are" [.loc a,.loc b] j) Q:=by
 rw [Qw,cD]
 simp only [aN,b7,oY,iL,fY,aY,aP,aM,aF,aJ,aL,b8,aS]
 refine (P8 l).mpr ?_
 simp only [fH,UA,S6,if_false]
 refine (P5 l q).mpr ?_
 dsimp only
 cases e:ps == n with
 | false=>
  simp only [if_true,Vt,bD,aL]
  rw [e] at h
  exact h
 | true=>
  simp only [if_true,UA,S6,if_false,cE]
  rw [e] at h
  simp only [jG,iN,aF]
  refine (kK l).mpr ?_
  refine EM (fun i m c=>c=j/\∃ o,m=[some (.loc a),some (.loc b),o]) ⟨rfl,none,rfl⟩ (fun i m c p=>by rw [p.1];exact l) ?_ ?_
  ·rintro i d m c hd ⟨rfl,o,rfl⟩
   obtain ⟨u,v,rfl⟩:=Fo (TQ hd)
   refine ⟨_,rfl,?_⟩
   simp only [S8,Ta,b7,oY,iL,fY,aY,aP,aM,aF,aJ,aL,b8,aS,z8,fH,E6,o6,g8,gK,Fp,cE,UA,S6,if_false]
   exact ⟨trivial,_,rfl⟩
  ·rintro m c ⟨rfl,o,rfl⟩
   simp only [bD,aL]
   exact h
theorem Fq {M:Int->Int->Prop}(h:∀ i j:Int,(i=0\/i=1\/i=2\/i=3)->(j=0\/j=1\/j=2\/j=3)->M i j)(x y:Int):M (x % 4) (y % 4):=h _ _ (rQ x) (rQ y)
theorem Fs (x:Int):x % 2=x % 4 % 2:=by omega
theorem kE (x y:Int):cT (bJ x y) "lufr" = (if x % 2=1 then y % 2 == 1 else (y % 2 == 0&&!(x % 4 == y % 4))):=by
 unfold bJ
 rw [Fs x,Fs y]
 refine Fq (M:=fun i j=>cT (k9 i j) "lufr" = (if i % 2=1 then j % 2 == 1 else (j % 2 == 0&&!(i == j)))) (fun i j a b=>?_) x y
 rcases a with rfl|rfl|rfl|rfl<;>rcases b with rfl|rfl|rfl|rfl<;>decide +kernel
theorem Ft (k:Nat)(x y:Int)(a:Hm)(Q:D×Hm->Prop):W (f (k+1) "is_edge" [P x y] a) Q↔Q (.bl (cT (bJ x y) "lufr"),a):=by
 rw [Qg,cD,kE]
 simp only [aN,bD,cE,b7,b8,k8,aS,aL,aF,g8,gK,iM,o6,Ab,pH]
 by_cases h:x % 2=1
 ·simp [h]
 ·by_cases g:y % 2=0
  ·simp [h,g]
  ·have e:(y % 2 == 0)=false:=by simpa using g
   simp only [e,a1X]
   simp [h]
noncomputable def gM (h:Int)(x:Int):List (Int×Int):=(Ur (4 * h - 1).toNat).map fun (j:Nat)=>(x,1+(j:Int))
noncomputable def f6 (h:Int)(n:Nat):List (Int×Int):=(Ur n).flatMap fun (i:Nat)=>gM h (1+(i:Int))
noncomputable def iP (w h:Int):List (Int×Int):=f6 h (4 * w - 1).toNat
noncomputable def bK (w h:Int)(s:Str):List (Int×Int):=(iP w h).filter fun p=>cT (bJ p.1 p.2) s
theorem Ad (h:Int)(n:Nat):f6 h (n+1)=f6 h n++gM h (1+(n:Int)):=by
 unfold f6;rw [a1Q,List.flatMap_append];simp
theorem Ae (h x:Int):(gM h x).length=(4 * h - 1).toNat:=by unfold gM;simp
theorem uO (h:Int):∀ n:Nat,(f6 h n).length=n * (4 * h - 1).toNat
 | 0=>by simp [f6]
 | n+1=>by rw [Ad,Te,uO h n,Ae,YY]
theorem Af {h:Int}(b:h<=6){n:Nat}(a:n<=23):n * (4 * h - 1).toNat<=529:=by
 have:n * (4 * h - 1).toNat<=23 * 23:=Yr a (by omega)
 omega
theorem Q7 (h x:Int):((dY 1 (4 * h - 1).toNat).filter fun _=>true).map (fun d=>P x (eM d))=(gM h x).map PP:=by
 unfold dY gM
 rw [show ∀ l:List D,l.filter (fun _=>true)=l from fun l=>by simp,T8,T8]
 rfl
theorem Q8 (k:Nat)(w h:Int)(hw:1<=w/\w<=6)(u:1<=h/\h<=6)(e:Hm)(Q:D×Hm->Prop)(H:∀ a b,e <+: b->b[a]? = some (.lst ((iP w h).map PP))->e.length<=a->Q (.loc a,b)):W (f (k+1) "places_within" [.int w,.int h] e) Q:=by
 rw [Ql,cD]
 simp only [aN,bN,fG,aM]
 refine ⟨UD _,?_⟩
 simp only [S8,Ta,jG,rM,aP,aM,aL,aS,aF,aJ,jH]
 refine ⟨by omega,?_⟩
 refine o8 (lo:=1) (fun i r b=>e <+: b/\b[e.length]? = some (.lst ((f6 h i).map PP))/\∃ o,r=[some (.int w),some (.int h),some (.loc e.length),o]) ⟨bO _ _,bW _ _,none,rfl⟩ ?_ ?_
 ·rintro i r q x ⟨p,l,o,rfl⟩
  refine ⟨_,rfl,?_⟩
  simp only [S8,Ta,EI]
  refine EX ?_
  simp only [aF,aJ]
  refine ⟨EY l,?_⟩
  simp only [aP,aM]
  refine iO (xs:=dY 1 (4 * h - 1).toNat) (p:=fun _=>true) (v:=fun d=>P (1+(i:Int)) (eM d)) ?_
  simp only [rM,aP,aM,aL,aS,aF,aJ,jH]
  refine ⟨by omega,z7,by simp [dY],by rw [TM];simp [dY];omega,?_,?_,?_⟩
  ·intro d b hd p
   exact w_mTrue.mpr ⟨rfl,TB _⟩
  ·intro d b hd _ p
   obtain ⟨j,y,rfl⟩:=uL hd
   simp only [TU,Ub,jF,aP,aM,aF,aJ,kM,true_and]
   exact ⟨rfl,TB _⟩
  ·intro v c m
   rw [Q7] at m
   have n:((f6 h i).map PP).length+((gM h (1+(i:Int))).map PP).length<=Td:=by
    have s:=Af (h:=h) u.2 (n:=i+1) (by omega)
    rw [YY] at s
    rw [S3,S3,uO,Ae,TM]
    omega
   refine (P7 (bA c l) m n).mpr ?_
   refine ⟨kJ (p.trans c) (Th _) _,?_,_,rfl⟩
   rw [Ue (S2.mp (bA c l)).1,Ad,UI]
 ·rintro r q ⟨p,l,o,rfl⟩
  simp only [bD,aF,aJ]
  exact H _ _ p l (Th _)
theorem Ag {w h:Int}(hw:w<=6)(a:h<=6):(iP w h).length<=529:=by
 unfold iP
 rw [uO]
 exact Af a (by omega)
theorem Q9 (k:Nat)(w h:Int)(hw:1<=w/\w<=6)(l:1<=h/\h<=6)(s:Str)(c:MT)(hc:∀ (u v:Int)(e:Hm),W (c [some (.int w),some (.int h),some (P u v)] e) fun r=>r.1=cT (bJ u v) s/\e <+: r.2)(e:Hm)(Q:D×Hm->Prop)
  (H:∀ a b,e <+: b->b[a]? = some (.lst ((bK w h s).map PP))->e.length<=a->Q (.loc a,b)):W (dH (dN (aK (f (k+1) "places_within") (aC (aA 0) (aC (aA 1) aD)))) c (aA 2) [some (.int w),some (.int h)] e) Q:=by
 refine iO (xs:=(iP w h).map PP) (p:=fun d=>cT (bJ (cU d).1 (cU d).2) s) (v:=fun d=>d) ?_
 simp only [iN,aY,aP,aM,aF,aJ]
 refine Q8 _ w h hw l _ _ fun a o m j q=>?_
 refine (kK j).mpr ?_
 refine ⟨mZ j,rfl,?_,fun d b hd i=>?_,fun d b hd _ i=>?_,fun b i n=>?_⟩
 ·have:=Ag (w:=w) (h:=h) hw.2 l.2
  rw [S3,TM];omega
 ·obtain ⟨u,v,rfl⟩:=Fo hd
  exact hc u v b
 ·simp only [TU,Ub,aF,aJ]
  exact ⟨trivial,TB _⟩
 ·refine H _ _ (m.trans i) ?_ (uI m)
  rw [n,Q5 fun p=>cT (bJ p.1 p.2) s]
  rfl
theorem Ra (k:Nat)(w h:Int)(hw:1<=w/\w<=6)(d:1<=h/\h<=6)(c:Hm)(Q:D×Hm->Prop)(H:∀ a b,c <+: b->b[a]? = some (.lst ((bK w h "lufr").map PP))->c.length<=a->Q (.loc a,b)):W (f (k+2) "edges_in" [.int w,.int h] c) Q:=by
 rw [Qm,cD]
 simp only [bD]
 refine Q9 k w h hw d "lufr" _ (fun u v b=>?_) c _ H
 simp only [fY,aY,aP,aM,aF,aJ,Ft,fH]
 exact ⟨trivial,TB _⟩
theorem Rb (h:Int)(p:Int×Int->Bool)(n:Nat):(f6 h (n+1)).filter p=(f6 h n).filter p++(gM h (1+(n:Int))).filter p:=by
 rw [Ad,Xw]
theorem Rc (h x:Int)(s:Str):((dY 1 (4 * h - 1).toNat).filter fun d=>cT (bJ x (eM d)) s).map (fun d=>P x (eM d))=((gM h x).filter fun p=>cT (bJ p.1 p.2) s).map PP:=by
 unfold dY gM
 rw [Zi,Zi,T8,T8]
 rfl
theorem Fu (k:Nat)(w h:Int)(s:Str)(hw:1<=w/\w<=6)(B:1<=h/\h<=6)(l:Hm)(Q:D×Hm->Prop)(H:∀ a b,l <+: b->b[a]? = some (.lst ((bK w h s).map PP))->l.length<=a->Q (.loc a,b)):W (f (k+2) "_law_amid" [.int w,.int h,.str s] l) Q:=by
 rw [Qx,cD]
 simp only [aN,bN,fG,aM]
 refine ⟨UD _,?_⟩
 simp only [S8,Ta,jG,rM,aP,aM,aL,aS,aF,aJ,jH]
 refine ⟨by omega,?_⟩
 refine o8 (lo:=1) (fun i v b=>l <+: b/\∃ a o,l.length<=a/\b[a]? = some (.lst (((f6 h i).filter fun p=>cT (bJ p.1 p.2) s).map PP))/\v=[some (.int w),some (.int h),some (.str s),some (.loc a),o]) ⟨bO _ _,l.length,none,Th _,bW _ _,rfl⟩ ?_ ?_
 ·rintro i v r I ⟨e,a,o,x,q,rfl⟩
  refine ⟨_,rfl,?_⟩
  simp only [S8,Ta,bN,aS,aF,aJ]
  refine iO (xs:=dY 1 (4 * h - 1).toNat) (p:=fun d=>cT (bJ (1+(i:Int)) (eM d)) s) (v:=fun d=>P (1+(i:Int)) (eM d)) ?_
  simp only [rM,aP,aM,aL,aS,aF,aJ,jH]
  refine ⟨by omega,z7,by simp [dY],by rw [TM];simp [dY];omega,?_,?_,?_⟩
  ·intro d b hd e
   obtain ⟨j,E,rfl⟩:=uL hd
   simp only [TU,Ub,b8,aS,aY,jF,aP,aM,aF,aJ,kM,true_and]
   refine Ac _ _ _ _ _ fun u G=>?_
   refine (Q1).mpr ?_
   exact ⟨rfl,G⟩
  ·intro d b hd _ e
   obtain ⟨j,E,rfl⟩:=uL hd
   simp only [TU,Ub,jF,aP,aM,aF,aJ,kM,true_and]
   exact ⟨rfl,TB _⟩
  ·intro u c m
   rw [Rc] at m
   have n:(((f6 h i).filter fun p=>cT (bJ p.1 p.2) s).map PP).length+(((gM h (1+(i:Int))).filter fun p=>cT (bJ p.1 p.2) s).map PP).length<=Td:=by
    have y:=Af (h:=h) B.2 (n:=i+1) (by omega)
    have z:=Vz (fun p=>cT (bJ p.1 p.2) s) (f6 h i)
    have A:=Vz (fun p=>cT (bJ p.1 p.2) s) (gM h (1+(i:Int)))
    rw [uO] at z
    rw [Ae] at A
    rw [YY] at y
    rw [S3,S3,TM]
    omega
   refine (uJ (bA c q) m n).mpr ?_
   refine ⟨(e.trans c).trans (bO _ _),_,_,Uk (uI e) (uI c),?_,rfl⟩
   rw [bW,Rb,UI]
 ·rintro v r ⟨e,a,o,x,q,rfl⟩
  simp only [bD,aF,aJ]
  exact H _ _ e q x
noncomputable def rR (p:Int×Int):Bool:=if p.1 % 2=1 then p.2 % 2 == 1 else (p.2 % 2 == 0&&!(p.1 % 4 == p.2 % 4))
theorem Fv (w h:Int):bK w h "lufr" = (iP w h).filter rR:=by
 unfold bK rR;refine List.filter_congr fun p _=>?_;rw [kE]
noncomputable def bB (p:Int×Int):List Int:=[p.1,p.2]
theorem Rf {a:Type}(l:List a)(d:a):(Ur l.length).map (fun i=>l.getD i d)=l:=by
 refine List.ext_getElem (by simp) fun i c b=>?_
 simp [Vj,b]
theorem Ah (q:Int×Int):gH (PP q)=some (bB q):=rfl
theorem Fw {l:List (List Int×D)}(a:(l.map (·.1)).Nodup){k:List Int}{d:D}(h:(k,d)∈l):cX l k=some d:=by
 induction l with
 | nil=>cases h
 | cons p l b=>
  rw [S7,Uu] at a
  unfold cX
  rw [UJ]
  rcases TN.mp h with h|h
  ·rw [<- h]
   simp
  ·have:decide (p.1=k)=false:=decide_eq_false fun z=>a.1 (Tp.mpr ⟨_,h,z.symm⟩)
   rw [this]
   exact b a.2 h
theorem m5 {p q:Int×Int}(h:bB p=bB q):p=q:=by
 unfold bB at h
 injection h with h1 h2
 injection h2 with h2
 exact Prod.ext h1 h2
theorem pI {d:Hm}{a:Nat}{c b:C}(h:d[a]? = some c):(d.set a b)[a]? = some b:=by
 rw [Ue (S2.mp h).1]
noncomputable abbrev Zr:=List ((Int×Int)×List (Int×Int)×Nat)
noncomputable def eY (Z:Zr):List (List Int×D):=Z.map fun z=>(bB z.1,D.loc z.2.2)
structure GI (μ0 μ:Hm)(a:Nat)(Z:Zr):Prop where
 pre:μ0 <+: μ
 lo:μ0.length<=a
 dic:μ[a]? = some (.dT (eY Z))
 kd:(Z.map (·.1)).Nodup
 bd:(Z.map (·.2.2)).Nodup
 at_:∀ z∈Z,μ0.length<=z.2.2/\μ[z.2.2]? = some (.lst (z.2.1.map PP))
theorem mM:∀ a b c:List Int,HT.lexLt a b=true->HT.lexLt b c=true->HT.lexLt a c=true
 | [],[],_,h,_=>by cases h
 | [],_::_,[],_,h=>by cases h
 | [],_::_,_::_,_,_=>rfl
 | _::_,[],_,h,_=>by cases h
 | _::_,_::_,[],_,h=>by cases h
 | x::xs,y::ys,z::zs,e,d=>by
  rw [HT.lexLt_cons] at e d ⊢
  by_cases j:x=y
  ·subst j
   rw [if_pos rfl] at e
   by_cases i:x=z
   ·rw [if_pos i] at d ⊢
    exact mM xs ys zs e d
   ·rw [if_neg i] at d ⊢
    exact d
  ·rw [if_neg j] at e
   have e:=of_decide_eq_true e
   by_cases i:y=z
   ·subst i
    rw [if_neg j]
    exact decide_eq_true e
   ·rw [if_neg i] at d
    have d:=of_decide_eq_true d
    rw [if_neg (by omega)]
    exact decide_eq_true (by omega)
theorem Fx:∀ a b c:List Int,HT.lexLt a b=true->HT.lexLt a c=true\/HT.lexLt c b=true
 | [],[],_,h=>by cases h
 | [],_::_,[],_=>.inr rfl
 | [],_::_,_::_,_=>.inl rfl
 | _::_,[],_,h=>by cases h
 | _::_,_::_,[],_=>.inr rfl
 | x::xs,y::ys,z::zs,h=>by
  rw [HT.lexLt_cons] at h ⊢
  rw [HT.lexLt_cons]
  by_cases e:x=y
  ·subst e
   rw [if_pos rfl] at h
   by_cases d:x=z
   ·subst d
    rw [if_pos rfl,if_pos rfl]
    exact Fx xs ys zs h
   ·rw [if_neg d,if_neg (UH d),decide_eq_true_iff,decide_eq_true_iff]
    omega
  ·rw [if_neg e] at h
   have h:=of_decide_eq_true h
   by_cases d:x=z
   ·subst d
    rw [if_neg e]
    exact .inr (decide_eq_true h)
   ·rw [if_neg d,decide_eq_true_iff]
    by_cases i:z=y
    ·subst i
     exact .inl h
    ·rw [if_neg i,decide_eq_true_iff]
     omega
theorem mL:∀ k:List Int,HT.lexLt k k=false
 | []=>rfl
 | a::k=>by rw [HT.lexLt_cons,if_pos rfl];exact mL k
theorem Fy:∀ a b:List Int,HT.lexLt a b=false->HT.lexLt b a=false->a=b
 | [],[],_,_=>rfl
 | [],_::_,h,_=>by cases h
 | _::_,[],_,h=>by cases h
 | x::xs,y::ys,c,d=>by
  rw [HT.lexLt_cons] at c d
  by_cases e:x=y
  ·subst e
   rw [if_pos rfl] at c d
   rw [Fy xs ys c d]
  ·rw [if_neg e] at c
   rw [if_neg (UH e)] at d
   have c:=of_decide_eq_false c
   have d:=of_decide_eq_false d
   omega
theorem Fz {f:D->List D->Hm->Option (D×Hm)}{b:ME}{c:MA}{a:aG}{d:Hm}{Q:D×Hm->Prop}(h:W (b a d) fun p=>oN p.2 p.1=true/\W (c a p.2) fun q=>W (f p.1 q.1 q.2) Q):W (kH f b c a d) Q:=by
 unfold kH
 rw [W_bind]
 refine b6 h fun p q=>?_
 rw [q.1]
 exact W_bind.mpr q.2
theorem FA {b:Hm}{a:Nat}{kvs:List (List Int×D)}(h:b[a]? = some (.dT kvs)):oN b (.loc a)=true:=by
 simp only [oN,h]
noncomputable def uP:List (List Int)->Bool
 | x::y::r=>HT.lexLt x y&&uP (y::r)
 | _=>true
theorem FC:∀ {l:List (List Int)},uP l=true->l.Pairwise fun x y=>HT.lexLt x y=true
 | [],_=>.nil
 | [x],_=>Z0 _ _
 | x::y::r,h=>by
  unfold uP at h
  rw [SW] at h
  have b:=FC h.2
  refine Wb.mpr ⟨fun z a=>?_,b⟩
  rcases TN.mp a with rfl|a
  ·exact h.1
  ·exact mM _ _ _ h.1 ((Wb.mp b).1 z a)
theorem Ro {a b:List Int}(h:HT.lexLt a b=true):HT.lexLt b a=false:=by
 cases e:HT.lexLt b a with
 | false=>rfl
 | true=>
  have:=mM _ _ _ h e
  rw [mL] at this
  exact this.symm
theorem uQ {i:Nat}{b:aG}{a:Hm}{d:D}{Q:D×Hm->Prop}(h:b[i]? = some (some d)):W (aA i b a) Q↔Q (d,a):=by
 have:aA i b a=some (d,a):=by simp only [aA,h]
 rw [this]
 exact W_some
noncomputable abbrev bX (v:Int×Int->D)(ps:List (Int×Int)):List (List Int×D):=ps.map fun p=>(bB p,v p)
theorem Rq {v:Int×Int->D}{ps:List (Int×Int)}(d:ps.Nodup){p:Int×Int}(h:p∈ps):cX (bX v ps) (bB p)=some (v p):=by
 refine Fw ?_ (Tp.mpr ⟨p,h,rfl⟩)
 rw [T8]
 exact ZC _ (fun a b c x=>c (m5 x)) d
theorem Ai {v:Int×Int->D}{ps:List (Int×Int)}{p:Int×Int}(h:p∉ps):cX (bX v ps) (bB p)=none:=by
 unfold cX
 rw [a0V.mpr]
 ·rfl
 ·intro x a
  obtain ⟨z,b,rfl⟩:=Tp.mp a
  rw [decide_eq_true_iff]
  exact fun e=>h (m5 e ▸ b)
theorem FD {v:Int×Int->D}{ps:List (Int×Int)}{p:Int×Int}(h:p∉ps):dQ (bX v ps) (bB p) (v p)=bX v (ps++[p]):=by
 unfold dQ
 rw [Ai h,if_neg (by simp)]
 show _=List.map _ _
 rw [UI]
 rfl
noncomputable def srt (ps:List (Int×Int)):List (Int×Int):=(dE (fun i j=>HT.lexLt ((ps.map bB).getD i []) ((ps.map bB).getD j [])) ps.length).map fun i=>ps.getD i (0,0)
theorem Aj (ps:List (Int×Int)):(srt ps).Perm ps:=by
 have p:=(i5 (fun i j=>HT.lexLt ((ps.map bB).getD i []) ((ps.map bB).getD j [])) ps.length).map fun i=>ps.getD i (0,0)
 rw [Rf] at p
 exact p
theorem Rt (v:Int×Int->D)(ps:List (Int×Int)):tU (bX v ps)=bX v (srt ps):=by
 unfold tU srt bX
 have b:(ps.map fun p=>(bB p,v p)).map (·.1)=ps.map bB:=by rw [T8];rfl
 rw [b,S3,T8]
 refine Uv fun i a=>?_
 have a:i<ps.length:=Vc.mp ((i5 _ _).mem_iff.mp a)
 simp [Vj,a]
theorem Ru (ps:List (Int×Int)):((srt ps).map bB).Pairwise fun x y=>HT.lexLt y x=false:=by
 by_cases h:ps=[]
 ·subst h
  have:srt []=[]:=by
   have:=(Aj []).length_eq
   exact Vh.mp this
  rw [this]
  exact .nil
 have c:0<ps.length:=a0H.mpr h
 have S:=Dk (lt:=HT.lexLt) mL mM Fx [] (ps.map bB) (n:=ps.length) c
 unfold srt
 rw [T8,UL]
 have b:∀ i∈dE (fun i j=>HT.lexLt ((ps.map bB).getD i []) ((ps.map bB).getD j [])) ps.length,bB (ps.getD i (0,0))=(ps.map bB).getD i []:=fun i a=>by
  have a:i<ps.length:=Vc.mp ((i5 _ _).mem_iff.mp a)
  simp [Vj,a]
 exact S.imp_of_mem fun {i j} a d h=>by
  show HT.lexLt (bB (ps.getD j (0,0))) (bB (ps.getD i (0,0)))=false
  rw [b i a,b j d]
  exact h
noncomputable def b9 (m:Int×Int->Str)(p:Int×Int):D:=.str (m p)
noncomputable def kN (s:Str):Prop:=s = "o"\/s = "v"\/s = "h"
noncomputable abbrev MD (p:(Int×Int)×Str):D:=.tup [PP p.1,.str p.2]
noncomputable abbrev SH (w h:Int)(a:List ((Int×Int)×Str)):D:=.tup [.int w,.int h,.tup (a.map MD)]
noncomputable def gN (m:Int×Int->Str)(ps:List (Int×Int)):List ((Int×Int)×Str):=ps.map fun p=>(p,m p)
theorem Rv {l:List ((Int×Int)×Str)}{i:Nat}{d:D}(h:(l.map MD)[i]? = some d):∃ p,l[i]? = some p/\d=MD p:=by
 rw [Uo] at h
 obtain ⟨p,a,b⟩:=SY.mp h
 exact ⟨p,a,b.symm⟩
theorem Rw (m:Int×Int->Str)(ps:List (Int×Int))(p:Int×Int)(c:Str):dQ (bX (b9 m) ps) (bB p) (.str c)=bX (b9 fun q=>if q=p then c else m q) (if p∈ps then ps else ps++[p]):=by
 unfold dQ
 by_cases h:p∈ps
 ·have e:(cX (bX (b9 m) ps) (bB p)).isSome=true:=by
   unfold cX
   rw [WG,List.find?_isSome]
   exact ⟨_,Tp.mpr ⟨p,h,rfl⟩,by simp⟩
  rw [if_pos e,if_pos h]
  unfold bX
  rw [T8]
  refine Uv fun q _=>?_
  show (if bB q=bB p then (bB q,D.str c) else (bB q,b9 m q))=(bB q,b9 _ q)
  unfold b9
  dsimp only
  by_cases e:q=p
  ·rw [if_pos (by rw [e]),if_pos e]
  ·rw [if_neg (fun z=>e (m5 z)),if_neg e]
 ·rw [Ai h,if_neg (by simp),if_neg h]
  unfold bX
  rw [UI]
  congr 1
  ·refine Uv fun q a=>?_
   unfold b9
   dsimp only
   rw [if_neg (fun z:q=p=>h (z ▸ a))]
  ·show [_]=[(bB p,b9 _ p)]
   unfold b9
   dsimp only
   rw [if_pos rfl]
theorem FE {c:Type} [DecidableEq c]:∀ {l t:List c},l.Nodup->(∀ x∈l,x∈t)->l.length<=t.length
 | [],_,_,_=>UD _
 | x::l,t,nd,h=>by
  rw [Uu] at nd
  have a:=h x (TC ..)
  have:=FE (l:=l) (t:=t.erase x) nd.2 fun y b=>(List.mem_erase_of_ne (fun e:y=x=>nd.1 (e ▸ b))).mpr (h y (Tu _ b))
  rw [List.length_erase_of_mem a] at this
  have:0<t.length:=List.length_pos_of_mem a
  rw [Tw]
  omega
structure Mk (w h:Int)(ps:List (Int×Int))(m:Int×Int->Str):Prop where
 nd:ps.Nodup
 ed:∀ p∈ps,p∈bK w h "lufr"
 ok:∀ p,kN (m p)
theorem Mk.len {w h:Int}{ps:List (Int×Int)}{m:Int×Int->Str}(M:Mk w h ps m)(hw:w<=6)(a:h<=6):ps.length<=529:=
 Uk (FE M.nd M.ed) (Uk (Vz _ _) (Ag hw a))
theorem Mk.put {w h:Int}{ps:List (Int×Int)}{m:Int×Int->Str}(M:Mk w h ps m){p:Int×Int}(l:p∈bK w h "lufr") {c:Str}(hc:kN c):Mk w h (if p∈ps then ps else ps++[p]) fun q=>if q=p then c else m q:=by
 refine ⟨?_,fun q d=>?_,fun q=>?_⟩
 ·split
  ·exact M.nd
  ·rename_i h
   refine Wf.mpr ⟨M.nd,by simp,fun a j b i e=>?_⟩
   rw [Ud] at i
   exact h (by rw [<- i,<- e];exact j)
 ·split at d
  ·exact M.ed q d
  ·rcases Uj.mp d with d|d
   ·exact M.ed q d
   ·rw [Ud.mp d]
    exact l
 ·split
  ·exact hc
  ·exact M.ok q
theorem Ry (m:Int×Int->Str)(ps:List (Int×Int)):(gN m ps).map MD=ps.map fun p=>D.tup [PP p,b9 m p]:=by
 unfold gN
 rw [T8]
 rfl
theorem Rz {n i:Nat}(h:i<n):lP n (i:Int)=some i:=by
 unfold lP
 rw [if_pos (by omega),if_pos (by omega)]
 rfl
theorem iQ {a:Type}{xs:List a}{i:Int}{x:a}(c:0<=i)(h:xs[i.toNat]? = some x):atI xs i=some x:=by
 have b:i.toNat<xs.length:=(S2.mp h).1
 unfold atI
 have e:i=((i.toNat:Nat):Int):=by omega
 rw [e,Rz b]
 exact h
noncomputable def lD (c:Int):Int:=if c % 4=0 then 1 else if c % 4=1 then 2 else if c % 4=2 then 3 else 1+c / 4 % 6
theorem FF (c:Int):1<=lD c/\lD c<=6:=by
 unfold lD
 repeat' split
 all_goals omega
theorem FG (k:Nat)(c:Int)(b:Hm)(Q:D×Hm->Prop)(H:∀ a,b <+: a->Q (.int (lD c),a)):W (f (k+1) "_law_size" [.int c] b) Q:=by
 rw [Qy,cD]
 simp only [bD,aS,fG,aP,aM,aL,aF,kL,Fn,pH,gZ]
 refine ⟨by show (4:Nat)<=Td;decide,?_⟩
 have e:atI [D.int 1,D.int 2,D.int 3,D.int (1+c / 4 % 6)] (c % 4)=some (.int (lD c)):=by
  unfold lD
  have:=rQ c
  rcases this with h|h|h|h<;>rw [h]<;>rfl
 refine (dP (bW _ _) e).mpr ?_
 exact H _ (bO _ _)
theorem RA (a b c d:D):nU [] [(.inr "l",a),(.inr "u",b),(.inr "f",c),(.inr "r",d)]=[(.inr "l",a),(.inr "u",b),(.inr "f",c),(.inr "r",d)]:=by kernel_rfl
noncomputable abbrev Ak (x y:Int):List (aI×D):=[(.inr "l",D.int y),(.inr "u",D.int x),(.inr "f",D.int (x - y)),(.inr "r",D.int (x+y))]
noncomputable def iR (x y:Int):Int:=match fR (Ak x y) (.inr (bJ x y)) with|some (.int i)=>i|_=>0
theorem RB {x y:Int}:cT (bJ x y) "lufr" = true->bJ x y = "l"\/bJ x y = "u"\/bJ x y = "f"\/bJ x y = "r":=by
 unfold bJ
 refine Fq (M:=fun i j=>cT (k9 i j) "lufr" = true->k9 i j = "l"\/k9 i j = "u"\/k9 i j = "f"\/k9 i j = "r") (fun i j a b=>?_) x y
 rcases a with rfl|rfl|rfl|rfl<;>rcases b with rfl|rfl|rfl|rfl<;>decide +kernel
theorem RC {x y:Int}(h:cT (bJ x y) "lufr" = true):fR (Ak x y) (.inr (bJ x y))=some (.int (iR x y)):=by
 unfold iR
 rcases RB h with h|h|h|h<;>rw [h]<;>kernel_rfl
theorem FH (k:Nat)(p:Int×Int)(c:cT (bJ p.1 p.2) "lufr" = true) (b:Hm)(Q:D×Hm->Prop)(H:∀ a,b <+: a->Q (.tup [.str (bJ p.1 p.2),.int (iR p.1 p.2)],a)):W (f (k+2) "_law_line" [PP p] b) Q:=by
 rw [Qz,cD,aN]
 simp only [bN,aY,aP,aM,aF,PP]
 refine Ac k p.1 p.2 _ _ fun e d=>?_
 simp only [S8,Ta,bD,jF,aP,aM,aS,aF,aJ]
 refine EV ?_
 simp only [ET,ES,aL,aF,aJ,aS,g8,gK,EK,gZ,EU]
 refine ⟨bW _ _,by show (4:Nat)<=15;decide,?_⟩
 rw [RA]
 refine (EW (kvs:=Ak p.1 p.2) (by simp) rfl (RC c)).mpr ⟨kM,?_⟩
 exact H _ (d.trans (kJ (bO _ _) (Th _) _))
theorem RD {a b:Str}{i j:Int}{c:Hm}{Q:D×Hm->Prop}:W (aX false (.tup [.str a,.int i]) (.tup [.str b,.int j]) c) Q↔Q (.bl ((a == b)&&((i == j)&&true)),c):=W_some
theorem RE {w h:Int}{p:Int×Int}(a:p∈iP w h):(0<p.1/\p.1<4 * w)/\0<p.2/\p.2<4 * h:=by
 unfold iP f6 gM at a
 obtain ⟨i,b,a⟩:=List.mem_flatMap.mp a
 obtain ⟨j,c,rfl⟩:=Tp.mp a
 have b:=Vc.mp b
 have c:=Vc.mp c
 dsimp only
 omega
theorem uR {w h:Int}{s:Str}{p:Int×Int}(a:p∈bK w h s):((0<p.1/\p.1<4 * w)/\0<p.2/\p.2<4 * h)/\cT (bJ p.1 p.2) s=true:=
 ⟨RE (V2.mp a).1,(V2.mp a).2⟩
theorem RG (k:Nat)(i:Int)(a:Hm)(Q:D×Hm->Prop):W (f (k+1) "is_whole" [.int i] a) Q↔Q (.bl true,a):=by
 rw [Qf,cD]
 simp only [bD,k8,zY,aY,aP,aM,aF,aL,EZ,E4]
 simp
theorem FI {z:Int}{a:Hm}{Q:D×Hm->Prop}:W (bI (.int z) (.int 3) a) Q↔Q (.int (z % 3),a):=fZ (by decide)
theorem FJ {i:Int}(h:0<=i/\i<3):∃ s,kN s/\∀ a,aH (.str "hvo") (.int i) a=some (.str s,a):=by
 have:i=0\/i=1\/i=2:=by omega
 rcases this with rfl|rfl|rfl
 ·exact ⟨"h",.inr (.inr rfl),fun a=>rfl⟩
 ·exact ⟨"v",.inr (.inl rfl),fun a=>rfl⟩
 ·exact ⟨"o",.inl rfl,fun a=>rfl⟩
theorem RH:∀ w∈[(1:Int),2,3,4,5,6],∀ h∈[(1:Int),2,3,4,5,6],((iP w h).filter rR).isEmpty=false:=by decide +kernel
theorem uS {w:Int}(h:1<=w/\w<=6):w∈[(1:Int),2,3,4,5,6]:=by
 have:w=1\/w=2\/w=3\/w=4\/w=5\/w=6:=by omega
 rcases this with rfl|rfl|rfl|rfl|rfl|rfl<;>decide
theorem RI {w h:Int}(hw:1<=w/\w<=6)(a:1<=h/\h<=6):0<(bK w h "lufr").length:=by
 have:=RH w (uS hw) h (uS a)
 rw [Fv]
 cases e:(iP w h).filter rR with
 | nil=>rw [e] at this;cases this
 | cons _ _=>exact Nat.zero_lt_succ _
theorem uT {w h:Int}(hw:w<=6)(a:h<=6)(s:Str):(bK w h s).length<=529:=Uk (Vz _ _) (Ag hw a)
theorem FK {w h:Int}(hw:w<=6)(i:h<=6){ps:List (Int×Int)}{m:Int×Int->Str}(M:Mk w h ps m){c:Hm}{a:Nat}(e:c[a]? = some (.dT (bX (b9 m) ps))){p:Int×Int}(j:p∈bK w h "lufr") {s:Str}(l:kN s)(Q:Hm->Prop)
  (H:∀ b d,Mk w h b d->Q (c.set a (.dT (bX (b9 d) b)))):W (qP (.loc a) (PP p) (.str s) c) Q:=by
 have lp:=M.len hw i
 refine (Fd e (Ah p) (by rw [S3,TM];omega)).mpr ?_
 rw [Rw]
 exact H _ _ (M.put j l)
noncomputable abbrev RJ (k:Nat):MS:=a9 (aO (aB dA (aB bI (aA 6) (mC (.int 9))) (mC (.int 7)))) (jA (aA 4) (aA 7) (aB aH (mC (.str "hvo")) (aB bI (aB cJ (aA 6) (mC (.int 2003))) (mC (.int 3))))) (aR (aW 8 (dH (dN (aA 3)) (aO (aB (aX false) (aK (f k "_law_line") (aC (aA 10) aD)) (aK (f k "_law_line") (aC (aA 7) aD)))) (aA 10))) (fT (iD (aC (aK cP (aC (aA 8) aD)) aD)) (eF 9) (jA (aA 4) (aB aH (aA 8) (aA 9)) (aB aH (mC (.str "hvo")) (aB bI (aB bM (aB cJ (aA 6) (mC (.int 2003))) (aB cM (aA 9) (aB bI (aA 6) (mC (.int 2))))) (mC (.int 3)))))))
theorem RK (k:Nat){w h:Int}(hw:1<=w/\w<=6)(R:1<=h/\h<=6){x0 x1 x2 x5 x8 x9:Option D}{ps:List (Int×Int)}{m:Int×Int->Str}(M:Mk w h ps m){u:Hm}{a b:Nat}(hb:u[b]? = some (.lst ((bK w h "lufr").map PP))) (N:u[a]? = some (.dT (bX (b9 m) ps)))(n:Int)(hn:0<=n/\n<2147483647){e:Int×Int}(he:e∈bK w h "lufr") (Q:Fl×aG×Hm->Prop)
  (H:∀ o v y8 I p,Mk w h o v->(∀ l,l<=a->u.take l <+: p)->u.length<=p.length->(∀ c,c<u.length->c≠a->p[c]? = u[c]?)->p[a]? = some (.dT (bX (b9 v) o))->Q (.nx,[x0,x1,x2,some (.loc b),some (.loc a),x5,some (.int n),some (PP e),y8,I],p)) :
  W (RJ (k+2) [x0,x1,x2,some (.loc b),some (.loc a),x5,some (.int n),some (PP e),x8,x9] u) Q:=by
 have hal:a<u.length:=(S2.mp N).1
 simp only [b7,b8,aS,aF,aJ,aL,QZ,rL]
 cases decide (n % 9<7) with
 | true=>
  simp only [if_true,w_mPut,aS,aF,aJ,aL]
  rw [mY (by decide) (by decide),FI]
  obtain ⟨s,ok,T⟩:=FJ (i:=n / 2003 % 3) (by omega)
  rw [T,W_some]
  refine FK hw.2 R.2 M N he ok _ fun o v M'=>H o v _ _ _ M' (fun l X=>?_) (by simp) (fun c _ hc=>by rw [TY (UH hc)]) (pI N)
  rw [<- a0F (a:=C.dT (bX (b9 v) o)) X]
  exact Y3 _ _
 | false=>
  simp only [S6,if_false]
  rw [aN,bN]
  have hE:=(uR he).2
  refine iO (xs:=(bK w h "lufr").map PP) (p:=fun d=>(bJ (cU d).1 (cU d).2 == bJ e.1 e.2)&&((iR (cU d).1 (cU d).2 == iR e.1 e.2)&&true)) (v:=fun d=>d) ?_
  simp only [iN,aF,aJ]
  refine (kK hb).mpr ⟨mZ hb,rfl,?_,fun d p hd B=>?_,fun d p hd _ B=>?_,fun p B O=>?_⟩
  ·have:=uT (w:=w) (h:=h) hw.2 R.2 "lufr"
   rw [S3,TM];omega
  ·obtain ⟨q,E,rfl⟩:=Tp.mp hd
   simp only [TU,Ub,b8,aS,aY,aP,aM,aF,aJ]
   refine FH k q (uR E).2 _ _ fun μ2 p2=>?_
   refine FH k e hE _ _ fun μ3 p3=>?_
   rw [RD]
   exact ⟨rfl,p2.trans p3⟩
  ·simp only [TU,Ub,aF,aJ]
   exact ⟨trivial,TB _⟩
  ·simp only [S8,Ta]
   have y:∀ d∈(((bK w h "lufr").map PP).filter fun d=>(bJ (cU d).1 (cU d).2 == bJ e.1 e.2)&&((iR (cU d).1 (cU d).2 == iR e.1 e.2)&&true)).map (fun d=>d),∃ q∈bK w h "lufr",d=PP q:=fun d hd=>by
    rw [Z3] at hd
    obtain ⟨q,E,rfl⟩:=Tp.mp (V2.mp hd).1
    exact ⟨q,E,rfl⟩
   have A:((((bK w h "lufr").map PP).filter fun d=>(bJ (cU d).1 (cU d).2 == bJ e.1 e.2)&&((iR (cU d).1 (cU d).2 == iR e.1 e.2)&&true)).map (fun d=>d)).length<=529:=by
    rw [S3]
    refine Uk (Vz _ _) ?_
    rw [S3]
    exact uT hw.2 R.2 _
   generalize (((bK w h "lufr").map PP).filter fun d=>(bJ (cU d).1 (cU d).2 == bJ e.1 e.2)&&((iR (cU d).1 (cU d).2 == iR e.1 e.2)&&true)).map (fun d=>d)=row at O y A
   have Y:=(S2.mp O).1
   simp only [jG,o7 (j:=0),aP,aM,aY,aF,aJ]
   refine (o9 O).mpr ⟨by omega,?_⟩
   rw [WS]
   refine o8 (lo:=0) (fun i z r=>∃ I o v,z=[x0,x1,x2,some (.loc b),some (.loc a),x5,some (.int n),some (PP e),some (.loc u.length),I]/\Mk w h o v/\(∀ l,l<=a->u.take l <+: r)/\u.length<r.length/\(∀ c,c<r.length->c≠a->r[c]? = p[c]?)/\r[a]? = some (.dT (bX (b9 v) o)))
    ⟨x9,ps,m,rfl,M,fun l _=>(Y3 _ _).trans B,Y,fun _ _ _=>rfl,bA B N⟩ ?_ ?_
   ·rintro i z r hi ⟨I,o,v,rfl,M1,t1,Z,K,L⟩
    refine ⟨_,rfl,?_⟩
    simp only [S8,Ta,w_mPut,aS,aF,aJ,aL,Ab]
    rw [mY (by decide) (by decide)]
    rw [oZ (.inr (by omega)),gZ,FI]
    obtain ⟨s,ok,T⟩:=FJ (i:=(n / 2003+(0+(i:Int)) * (n % 2)) % 3) ⟨VL _ (by decide),Vg _ (by decide)⟩
    rw [T,W_some]
    have G:row[i]? = some row[i]:=S1 hi
    obtain ⟨q,E,eq⟩:=y _ (VA hi)
    rw [eq] at G
    have gr:r[u.length]? = some (.lst row):=by rw [K _ Z (by omega)];exact O
    refine (dP gr (iQ (by omega) (by rw [show (0+(i:Int)).toNat=i by omega];exact G))).mpr ?_
    refine FK hw.2 R.2 M1 L E ok _ fun ps2 m2 M2=>?_
    refine ⟨_,ps2,m2,rfl,M2,fun l X=>?_,by simpa using Z,fun c hc x=>?_,pI L⟩
    ·obtain ⟨t,ht⟩:=t1 l X
     rw [<- ht]
     refine (List.prefix_iff_getElem?).mpr fun j U=>?_
     have hjl:j<l:=by rw [TR] at U;omega
     rw [TY (by omega),Ti U,S1 U]
    ·rw [VG] at hc
     rw [TY (UH x)]
     exact K c hc x
   ·rintro z r ⟨I,o,v,rfl,M1,t1,Z,K,L⟩
    refine H o v _ _ r M1 t1 (by omega) (fun c hc x=>?_) L
    rw [K c (by omega) x]
    obtain ⟨t,rfl⟩:=B
    exact Ti hc
theorem RL (k:Nat){w h:Int}(hw:1<=w/\w<=6)(B:1<=h/\h<=6){ns:List Int}(hl:ns.length<=63){u:Hm}{c:Nat}(hc:u[c]? = some (.lst (ns.map D.int)))(Q:D×Hm->Prop)
  (H:∀ a o m d,u <+: d->u.length<=a->Mk w h o m->d[a]? = some (.dT (bX (b9 m) o))->Q (.loc a,d)):W (f (k+3) "_law_creases" [.int w,.int h,.loc c] u) Q:=by
 rw [QC,cD,aN]
 simp only [bN,aY,aP,aM,aF,aJ,aL]
 refine Fu k w h "lufr" hw B _ _ fun b l x T lb=>?_
 simp only [S8,Ta]
 rw [aN]
 simp only [bN,uK,S8,Ta]
 rw [aN]
 have hcl:c<u.length:=(S2.mp hc).1
 have hbl:b<l.length:=(S2.mp T).1
 have q1:=uI x
 have A:=bA (x.trans (bO l (C.dT []))) hc
 have hE:=RI hw B
 simp only [jG,o7 (j:=0),aP,aM,aY,aF,aJ]
 refine (o9 A).mpr ?_
 rw [S3]
 refine ⟨by omega,?_⟩
 rw [WS]
 refine o8 (lo:=0) (fun i q d=>∃ I K L N O o m,q=[some (.int w),some (.int h),some (.loc c),some (.loc b),some (.loc l.length),I,K,L,N,O]/\Mk w h o m/\l <+: d/\d[l.length]? = some (.dT (bX (b9 m) o)))
  ⟨_,_,_,_,_,[],fun _=>"h",rfl,⟨Zy,(fun _ z=>nomatch z),fun _=>.inr (.inr rfl)⟩,bO _ _,bW _ _⟩ ?_ ?_
 ·rintro i q d hi ⟨I,K,L,N,O,o,m,rfl,M,s,y⟩
  refine ⟨_,rfl,?_⟩
  simp only [S8,Ta]
  rw [aN]
  simp only [bN,aS,aF,aJ,aL]
  have r:ns[i]? = some ns[i]:=S1 hi
  generalize ns[i]=v at r
  refine (dP (bA (x.trans s) hc) (d:=.int v) (iQ (by omega) (by rw [show (0+(i:Int)).toNat=i by omega,Uo,r];rfl))).mpr ?_
  rw [oZ (.inr (by decide)),oZ (.inl (by omega)),oZ (.inr (by decide)),gZ,gZ,fZ (by decide)]
  have Y:=VL (v * 48271+(0+(i:Int)) * (0+(i:Int)) * 40693+7919) (show (2147483647:Int)≠0 by decide)
  have Z:=Vg (v * 48271+(0+(i:Int)) * (0+(i:Int)) * 40693+7919) (show (0:Int)<2147483647 by decide)
  generalize (v * 48271+(0+(i:Int)) * (0+(i:Int)) * 40693+7919) % 2147483647=n0 at Y Z
  simp only [S8,Ta]
  rw [aN]
  simp only [bN,aS,aF,aJ,aL]
  rw [oZ (.inl (by omega)),fZ (by decide)]
  have R:=VL (n0 * n0) (show (2147483563:Int)≠0 by decide)
  have b3:=Vg (n0 * n0) (show (0:Int)<2147483563 by decide)
  generalize n0 * n0 % 2147483563=n at R b3
  simp only [S8,Ta]
  rw [aN]
  simp only [bN,aS,aF,aJ,aL,QY,aY,aP,aM]
  have p:=bA s T
  refine (o9 p).mpr ?_
  rw [S3,fZ (by omega)]
  have X:=VL (n / 9) (show ((bK w h "lufr").length:Int)≠0 by omega)
  have j1:=Vg (n / 9) (show (0:Int)<((bK w h "lufr").length:Int) by omega)
  generalize n / 9 % ((bK w h "lufr").length:Int)=j at X j1
  have E:(bK w h "lufr")[j.toNat]? = some (bK w h "lufr")[j.toNat]:=S1 (by omega)
  have U:=TQ E
  generalize (bK w h "lufr")[j.toNat]=e at E U
  refine (dP p (d:=PP e) (iQ X (by rw [Uo,E];rfl))).mpr ?_
  simp only [S8,Ta]
  refine RK k hw B M p y n ⟨R,by omega⟩ U _ fun G m' y8 y9 μ2 M2 t2 l2 c2 g3=>?_
  refine ⟨_,_,_,_,_,G,m',rfl,M2,?_,g3⟩
  have:=t2 l.length (Th _)
  rwa [<- List.prefix_iff_eq_take.mp s] at this
 ·rintro q d ⟨I,K,L,N,O,o,m,rfl,M,s,y⟩
  simp only [bD,aF,aJ]
  exact H _ o m _ (x.trans s) q1 M y
noncomputable def One (s:Str):Prop:=∃ c:Nat,s=⟨#[c]⟩/\c≠10
noncomputable def uU (s:Str):Nat:=s.cps.toList.headD 0
theorem One.is {s:Str}(h:One s):s=⟨#[uU s]⟩/\uU s≠10:=by
 obtain ⟨c,rfl,h⟩:=h
 exact ⟨rfl,h⟩
theorem One.len {s:Str}(h:One s):s.length=1:=by
 obtain ⟨c,rfl,_⟩:=h
 rfl
theorem Al (x y:Str):(x++y).cps.toList=x.cps.toList++y.cps.toList:=by
 show (x.cps++y.cps).toList=_
 exact Vu
theorem RM {x y:Str}(h:x.cps.toList=y.cps.toList):x=y:=by
 obtain ⟨a⟩:=x
 obtain ⟨b⟩:=y
 congr 1
 exact UY.mp h
noncomputable def jn (c:List Nat):List (List Nat)->List Nat
 | []=>[]
 | [x]=>x
 | x::y::r=>x++c++jn c (y::r)
theorem uV (a:Str):∀ ss:List Str,(YW a ss).cps.toList=jn a.cps.toList (ss.map fun s=>s.cps.toList)
 | []=>rfl
 | [x]=>rfl
 | x::y::r=>by
  show (x++a++YW a (y::r)).cps.toList=_
  rw [Al,Al,uV a (y::r)]
  rfl
theorem FL:∀ a:List (List Nat),jn [] a=a.flatten
 | []=>rfl
 | [x]=>by simp [jn]
 | x::y::r=>by
  show x++[]++jn [] (y::r)=_
  rw [FL (y::r),UK]
  rfl
theorem FN:∀ ss:List Str,(∀ s∈ss,One s)->(ss.map fun s=>s.cps.toList).flatten=ss.map uU
 | [],_=>rfl
 | s::ss,h=>by
  rw [S7,List.flatten_cons,FN ss fun t a=>h t (Tu _ a),S7]
  obtain ⟨c,rfl,_⟩:=h s (TC ..)
  rfl
theorem FP {ss:List Str}(h:∀ s∈ss,One s):(Ui "" ss).cps.toList=ss.map uU:=by
 rw [XX,uV]
 show jn [] _=_
 rw [FL,FN ss h]
theorem m7 (x:Str):x.length=x.cps.toList.length:=by
 unfold YH
 simp
theorem Am {ss:List Str}(h:∀ s∈ss,One s):(Ui "" ss).length=ss.length:=by
 rw [m7,FP h,S3]
theorem FQ {c:Nat}:∀ {a b X Y:List Nat},c∉a->c∉b->a++c::X=b++c::Y->a=b/\X=Y
 | [],[],X,Y,_,_,h=>⟨rfl,by injection h⟩
 | [],y::b,X,Y,_,hb,h=>by
  rw [Ub,TU] at h
  injection h with h1 _
  exact absurd (by rw [h1];exact TC ..) hb
 | x::a,[],X,Y,ha,_,h=>by
  rw [Ub,TU] at h
  injection h with h1 _
  exact absurd (by rw [h1];exact TC ..) ha
 | x::a,y::b,X,Y,ha,hb,h=>by
  rw [TU,TU] at h
  injection h with h1 h2
  obtain ⟨d,e⟩:=FQ (fun z=>ha (Tu _ z)) (fun z=>hb (Tu _ z)) h2
  exact ⟨by rw [h1,d],e⟩
theorem FR {c:Nat}:∀ {as bs:List (List Nat)},as≠[]->bs≠[]->(∀ a∈as,c∉a)->(∀ b∈bs,c∉b)->jn [c] as=jn [c] bs->as=bs
 | [],_,h,_,_,_,_=>absurd rfl h
 | _,[],_,h,_,_,_=>absurd rfl h
 | [x],[y],_,_,_,_,h=>by rw [show x=y from h]
 | [x],y::z::r,_,_,ha,_,h=>by
  refine absurd ?_ (ha x (TC ..))
  rw [show x=y++[c]++jn [c] (z::r) from h]
  simp
 | x::z::r,[y],_,_,_,hb,h=>by
  refine absurd ?_ (hb y (TC ..))
  rw [<- show x++[c]++jn [c] (z::r)=y from h]
  simp
 | x::d::r,y::e::r2,_,_,ha,hb,h=>by
  have l:x++c::jn [c] (d::r)=y++c::jn [c] (e::r2):=by
   have:x++[c]++jn [c] (d::r)=y++[c]++jn [c] (e::r2):=h
   simpa using this
  obtain ⟨i,j⟩:=FQ (ha x (TC ..)) (hb y (TC ..)) l
  rw [i,FR (by simp) (by simp) (fun a h=>ha a (Tu _ h)) (fun b h=>hb b (Tu _ h)) j]
theorem RN:("\n":Str)=⟨#[10]⟩:=rfl
theorem FT {c:List Str}(m:c≠[])(h:∀ r∈c,10∉r.cps.toList):WE (Ui "\n" c) "\n" = c:=by
 rw [XX,RN]
 have e:=a0g (YW ⟨#[10]⟩ c) ⟨#[10]⟩
 have fr:=StrLaws.split_free (YW ⟨#[10]⟩ c) 10
 have d:1<=(WE (YW ⟨#[10]⟩ c) ⟨#[10]⟩).length:=Y2 _ _
 generalize WE (YW ⟨#[10]⟩ c) ⟨#[10]⟩=parts at e fr d
 have i:=congrArg (fun s:Str=>s.cps.toList) e
 (try dsimp only at i)
 rw [uV,uV] at i
 have:=FR (c:=10) (by
  intro z
  rw [Ww] at z
  rw [z] at d
  exact absurd d (by decide)) (by
  intro z
  exact m (Ww.mp z)) (fun a j=>by
  obtain ⟨p,d,rfl⟩:=Tp.mp j
  exact fr p d) (fun a j=>by
  obtain ⟨p,d,rfl⟩:=Tp.mp j
  exact h p d) i
 exact (List.map_inj_right fun a b l=>RM l).mp this
theorem FU {ss:List Str}(h:∀ s∈ss,One s):10∉(Ui "" ss).cps.toList:=by
 rw [FP h]
 intro z
 obtain ⟨s,a,e⟩:=Tp.mp z
 exact (h s a).is.2 e
theorem An (n:Nat):∀ (ss:List Str)(m:Nat),ss.foldl (fun a s=>a+s.length+n) m=m+(ss.map fun s=>s.length+n).sum
 | [],m=>by simp
 | s::ss,m=>by
  rw [Zh,An n ss]
  simp
  omega
theorem uW {k:Nat}:∀ {ss:List Str},(∀ s∈ss,s.length<=k)->∀ n,(ss.map fun s=>s.length+n).sum<=ss.length * (k+n)
 | [],_,_=>by simp
 | s::ss,h,n=>by
  rw [S7,VQ,Tw,YY]
  have:=uW (ss:=ss) (fun t a=>h t (Tu _ a)) n
  have:=h s (TC ..)
  omega
theorem RO {ps:List (Int×Int)}(h:(ps.map bB).Pairwise fun x y=>HT.lexLt y x=false):srt ps=ps:=by
 have e:(srt ps).map bB=ps.map bB:=Zd (le:=fun x y=>HT.lexLt y x=false) (fun a b _ _ c d=>(Fy b a c d).symm) (Ru ps) h ((Aj ps).map _)
 have inj:∀ {a b:List (Int×Int)},a.map bB=b.map bB->a=b:=fun {a}=>by
  induction a with
  | nil=>intro b h;cases b with
   | nil=>rfl
   | cons=>cases h
  | cons x a i=>intro b h;cases b with
   | nil=>cases h
   | cons y b=>
    rw [S7,S7] at h
    injection h with c d
    rw [m5 c,i d]
 exact inj e
theorem uX {a:ME}{lo c:MO}{b:aG}{e:Hm}{Q:D×Hm->Prop}(h:W (a b e) fun p=>∃ z,p.1=.str z/\W (lo b p.2) fun q=>W (c b q.2) fun r=>z.length<=Td/\Q (.str (d8 z q.1 r.1),r.2)):W (cI a lo c b e) Q:=by
 unfold cI
 rw [W_bind]
 refine b6 h fun p q=>?_
 obtain ⟨d,j⟩:=p
 obtain ⟨z,rfl,q⟩:=q
 rw [W_bind]
 refine b6 q fun p q=>?_
 rw [W_bind]
 refine b6 q fun p q=>?_
 obtain ⟨i,q⟩:=q
 dsimp only
 rw [if_pos i]
 exact W_some.mpr q
theorem FV {a:Type}{o:Option a}{r:a}(h:∀ Q:a->Prop,W o Q↔Q r):o=some r:=by
 obtain ⟨_,e,b⟩:=(h fun x=>x=r).mpr rfl
 rw [e,b]
noncomputable def hZ (w h:Int)(v:Int×Int->Str)(x y:Int):Str:=
 if (x % 4 == 0&&y % 4 == 0)=true then "+" else if cT (bJ x y) "lufr" = false then " " else if (0<x/\x<4 * w)/\0<y/\y<4 * h then v (x,y) else if (y % 4 == 0)=true then "-" else "|"
noncomputable def vW (m:Int×Int->Str)(ps:List (Int×Int))(p:Int×Int):Str:=if p∈ps then m p else "."
noncomputable def kP (w h:Int)(v:Int×Int->Str)(y:Int):List Str:=(Ur (4 * w+1).toNat).map fun (i:Nat)=>hZ w h v (0+(i:Int)) y
noncomputable def eJ (w h:Int)(v:Int×Int->Str)(n:Nat):List Str:=(Ur n).map fun (j:Nat)=>Ui "" (kP w h v (0+(j:Int)))
noncomputable def cY (w h:Int)(v:Int×Int->Str):Str:=Ui "\n" (eJ w h v (4 * h+1).toNat)
noncomputable def jI (v:Int×Int->Str):Prop:=∀ p,One (v p)
theorem RP {s:Str}(h:kN s):One s:=by
 rcases h with rfl|rfl|rfl
 ·exact ⟨111,rfl,by decide⟩
 ·exact ⟨118,rfl,by decide⟩
 ·exact ⟨104,rfl,by decide⟩
theorem rS {m:Int×Int->Str}(h:∀ p,kN (m p))(ps:List (Int×Int)):jI (vW m ps):=fun p=>by
 unfold vW
 split
 ·exact RP (h p)
 ·exact ⟨46,rfl,by decide⟩
theorem RQ {w h:Int}{v:Int×Int->Str}(a:jI v)(x y:Int):One (hZ w h v x y):=by
 unfold hZ
 split
 ·exact ⟨43,rfl,by decide⟩
 split
 ·exact ⟨32,rfl,by decide⟩
 split
 ·exact a _
 split
 ·exact ⟨45,rfl,by decide⟩
 ·exact ⟨124,rfl,by decide⟩
theorem pJ {w h:Int}{v:Int×Int->Str}(b:jI v)(y:Int):∀ s∈kP w h v y,One s:=fun s a=>by
 unfold kP at a
 obtain ⟨i,_,rfl⟩:=Tp.mp a
 exact RQ b _ _
theorem uY (w h:Int)(v:Int×Int->Str)(y:Int):(kP w h v y).length=(4 * w+1).toNat:=by unfold kP;simp
theorem RR (w h:Int)(v:Int×Int->Str)(n:Nat):eJ w h v (n+1)=eJ w h v n++[Ui "" (kP w h v (0+(n:Int)))]:=by unfold eJ;rw [a1Q,UI];rfl
theorem lF (w h:Int)(v:Int×Int->Str)(n:Nat):(eJ w h v n).length=n:=by unfold eJ;simp
theorem RS {s t:Str}{a:Hm}{Q:D×Hm->Prop}:W (dD true (.str s) (.str t) a) Q↔Q (.bl (!cT s t),a):=W_some
theorem FW {m:Int×Int->Str}{ps:List (Int×Int)}(h:ps.Nodup){b:Hm}{a:Nat}(d:b[a]? = some (.dT (bX (b9 m) ps)))(p:Int×Int){Q:D×Hm->Prop}:W (jB (.loc a) [PP p,.str "."] b) Q↔Q (.str (vW m ps p),b):=by
 have e:jB (.loc a) [PP p,.str "."] b=some (.str (vW m ps p),b):=by
  simp only [jB,d,Ah,Us]
  unfold vW
  by_cases c:p∈ps
  ·rw [Rq h c,if_pos c];rfl
  ·rw [Ai c,if_neg c];rfl
 rw [e]
 exact W_some
theorem RT (k:Nat){x y:Int}(b:¬ x % 2=1)(a:Hm)(Q:D×Hm->Prop):W (f (k+1) "line_of" [P x y] a) Q↔Q (.str (if (y % 4 == 0)=true then "level" else "upright"),a):=by
 rw [Qh,cD]
 have e:(x % 2 == 1)=false:=by simpa using b
 simp only [aN,b7,b8,aS,aF,aL,g8,gK,Ab,pH,iM,e,S6,if_false,cE,bD,EJ]
 cases y % 4 == 0<;>simp only [if_true,S6,if_false,aL]
theorem RU (k:Nat)(w h x y:Int)(a:Hm)(Q:D×Hm->Prop):W (f (k+1) "is_within" [.int w,.int h,P x y] a) Q↔Q (.bl (decide ((0<x/\x<4 * w)/\0<y/\y<4 * h)),a):=by
 rw [Qk,cD]
 simp only [bD,k8,Fc,aF,aJ,aL,aS,g8,gK,jH,rL]
 by_cases b:0<x<;>by_cases c:x<4 * w<;>by_cases d:0<y<;>by_cases e:y<4 * h<;>simp [b,c,d,e]
theorem FX {w h x y:Int}(e:0<=x/\x<=4 * w)(i:0<=y/\y<=4 * h)(a:cT (bJ x y) "lufr" = true) (d:¬ ((0<x/\x<4 * w)/\0<y/\y<4 * h)):¬ x % 2=1/\((y % 4=0/\x % 4=2)\/(y % 4=2/\x % 4=0)):=by
 rw [kE] at a
 have c:x % 4=0\/y % 4=0:=by omega
 by_cases b:x % 2=1
 ·rw [if_pos b] at a
  have:y % 2=1:=by simpa using a
  omega
 ·rw [if_neg b,SW,beq_iff_eq,Wi,beq_eq_false_iff_ne] at a
  refine ⟨b,?_⟩
  omega
theorem RV (k:Nat){w h:Int}{T:D}{m:Int×Int->Str}{ps:List (Int×Int)}(I:ps.Nodup){b:Hm}{a:Nat}(l:b[a]? = some (.dT (bX (b9 m) ps))){x y:Int}(s:0<=x/\x<=4 * w)(u:0<=y/\y<=4 * h)(Q:D×Hm->Prop)(H:Q (.str (hZ w h (vW m ps) x y),b)) :
  W (f (k+2) "sign_at" [.tup [.int w,.int h,T],.loc a,P x y] b) Q:=by
 rw [Qo,cD,aN]
 simp only [b7,oX,b8,aS,aF,aJ,aL,g8,gK,pH,iM]
 unfold hZ at H
 cases c:(x % 4 == 0&&y % 4 == 0) with
 | true=>
  rw [c,if_pos rfl] at H
  rw [SW] at c
  simp only [c.1,c.2,if_true,bD,aL]
  exact H
 | false=>
  rw [c,if_neg (by decide)] at H
  have G:∀ {A B:Prop},B->(if (x % 4 == 0)=true then (if (y % 4 == 0)=true then A else B) else B):=fun {A B} n=>by
   split
   ·rw [if_neg (fun z=>by rename_i K;rw [K,z] at c;cases c)]
    exact n
   ·exact n
  have nx:∀ {R:Prop},(W (a8 [some (.tup [.int w,.int h,T]),some (.loc a),some (P x y)] b) fun p=>match p.1 with|.nx=>R|_=>R)↔R:=fun {R}=>by rw [cE]
  have go:W (aR (a9 (dC (cC (aK (f (k+1) "is_edge") (aC (aA 2) aD)))) (aV (mC (.str " "))) a8) (aR (a9 (cC (aK (f (k+1) "is_within") (aC (aB aH (aA 0) (mC (.int 0))) (aC (aB aH (aA 0) (mC (.int 1))) (aC (aA 2) aD))))) (aV (kH jB (aA 1) (aC (aA 2) (aC (mC (.str ".")) aD)))) a8) (aV (iV (aO (aB (aX false) (aK (f (k+1) "line_of") (aC (aA 2) aD)) (mC (.str "level")))) (mC (.str "-")) (mC (.str "|"))))) [some (.tup [.int w,.int h,T]),some (.loc a),some (P x y)] b) (fun p=>match p.1 with|.rt d=>Q (d,p.2.2)|.nx=>Q (.non,p.2.2)|_=>False):=by
   rw [aN]
   simp only [b7,iL,fY,aY,aP,aM,aF,aJ]
   rw [Ft,fH]
   cases i:cT (bJ x y) "lufr" with
   | false=>
    rw [i,if_pos rfl] at H
    simp only [Vt,if_true,bD,aL]
    exact H
   | true=>
    rw [i,if_neg (by decide)] at H
    simp only [UA,S6,if_false,cE]
    rw [aN]
    simp only [b7,fY,aY,aP,aM,aS,aF,aJ,aL]
    have v:∀ (b:Hm)(Q:D×Hm->Prop),W (aH (.tup [.int w,.int h,T]) (.int 0) b) Q↔Q (.int w,b):=fun _ _=>W_some
    have E:∀ (b:Hm)(Q:D×Hm->Prop),W (aH (.tup [.int w,.int h,T]) (.int 1) b) Q↔Q (.int h,b):=fun _ _=>W_some
    simp only [v,E]
    rw [RU]
    by_cases e:(0<x/\x<4 * w)/\0<y/\y<4 * h
    ·rw [if_pos e] at H
     simp only [decide_eq_true e,if_true,fH,bD]
     refine Fz ?_
     simp only [aF,aJ,aP,aM,aL]
     exact ⟨FA l,(FW I l (x,y)).mpr H⟩
    ·rw [if_neg e] at H
     obtain ⟨o,L⟩:=FX s u i e
     have fin:W (aV (iV (aO (aB (aX false) (aK (f (k+1) "line_of") (aC (aA 2) aD)) (mC (.str "level")))) (mC (.str "-")) (mC (.str "|"))) [some (.tup [.int w,.int h,T]),some (.loc a),some (P x y)] b) (fun p=>match p.1 with|.rt d=>Q (d,p.2.2)|.nx=>Q (.non,p.2.2)|_=>False):=by
      simp only [bD,EJ,b8,aS,aY,aP,aM,aF,aJ,aL]
      rw [RT k o]
      cases j:(y % 4 == 0) with
      | true=>
       rw [j,if_pos rfl] at H
       rw [show aX false (.str (if true=true then "level" else "upright")) (.str "level") b=some (.bl true,b) from by kernel_rfl,W_some]
       simp only [if_true,aL]
       exact H
      | false=>
       rw [j,if_neg (by decide)] at H
       rw [show aX false (.str (if false=true then "level" else "upright")) (.str "level") b=some (.bl false,b) from by kernel_rfl,W_some]
       simp only [S6,if_false,aL]
       exact H
     simp only [decide_eq_false e,S6,if_false,fH,cE]
     exact fin
  simp only [cE]
  cases q:(x % 4 == 0)<;>cases r:(y % 4 == 0)
  ·simp only [S6,if_false];exact go
  ·simp only [S6,if_false];exact go
  ·simp only [if_true,S6,if_false];exact go
  ·rw [q,r] at c;cases c
theorem RW (k:Nat){w h:Int}{m:Int×Int->Str}{ps:List (Int×Int)}(R:ps.Nodup){q:Hm}{a:Nat}(u:q[a]? = some (.dT (bX (b9 m) ps))){x y:Int}(N:0<=x/\x<=4 * w)(O:0<=y/\y<=4 * h)(Q:D×Hm->Prop)(H:∀ b,q <+: b->Q (.str (hZ w h (vW m ps) x y),b)) :
  W (f (k+2) "_law_sign" [P x y,.int w,.int h,.loc a] q) Q:=by
 rw [QF,cD,aN]
 simp only [bN,aY,aP,aM,aF]
 refine Ac k x y _ _ fun c n=>?_
 have j:=bA n u
 replace H:∀ b,c <+: b->Q (.str (hZ w h (vW m ps) x y),b):=fun b L=>H b (n.trans L)
 clear n u
 simp only [S8,Ta]
 rw [aN]
 simp only [b7,oX,b8,aS,aF,aJ,aL,g8,gK,pH,iM]
 unfold hZ at H
 cases e:(x % 4 == 0&&y % 4 == 0) with
 | true=>
  rw [e,if_pos rfl] at H
  rw [SW] at e
  simp only [e.1,e.2,if_true,bD,aL]
  exact H _ (TB _)
 | false=>
  rw [e,if_neg (by decide)] at H
  have go:W (aR (a9 (aO (aB (dD true) (aA 4) (mC (.str "lufr")))) (aV (mC (.str " "))) a8) (aR (a9 (dF (aO (aB dA (mC (.int 0)) (aB aH (aA 0) (mC (.int 0))))) (dF (aO (aB dA (aB aH (aA 0) (mC (.int 0))) (aB cM (mC (.int 4)) (aA 1)))) (dF (aO (aB dA (mC (.int 0)) (aB aH (aA 0) (mC (.int 1))))) (aO (aB dA (aB aH (aA 0) (mC (.int 1))) (aB cM (mC (.int 4)) (aA 2))))))) (aV (kH jB (aA 3) (aC (aA 0) (aC (mC (.str ".")) aD)))) a8) (aV (aB aH (jU [((mC (.str "l")),(mC (.str "-"))),((mC (.str "u")),(mC (.str "|")))]) (aA 4)))) [some (P x y),some (.int w),some (.int h),some (.loc a),some (.str (bJ x y))] c) (fun p=>match p.1 with|.rt d=>Q (d,p.2.2)|.nx=>Q (.non,p.2.2)|_=>False):=by
   rw [aN]
   simp only [b7,b8,aS,aF,aJ,aL]
   rw [RS]
   cases l:cT (bJ x y) "lufr" with
   | false=>
    rw [l,if_pos rfl] at H
    simp only [Vt,if_true,bD,aL]
    exact H _ (TB _)
   | true=>
    rw [l,if_neg (by decide)] at H
    simp only [UA,S6,if_false,cE]
    rw [aN]
    have o:∀ Q:Bool×Hm->Prop,W ((dF (aO (aB dA (mC (.int 0)) (aB aH (aA 0) (mC (.int 0))))) (dF (aO (aB dA (aB aH (aA 0) (mC (.int 0))) (aB cM (mC (.int 4)) (aA 1)))) (dF (aO (aB dA (mC (.int 0)) (aB aH (aA 0) (mC (.int 1))))) (aO (aB dA (aB aH (aA 0) (mC (.int 1))) (aB cM (mC (.int 4)) (aA 2))))))) [some (P x y),some (.int w),some (.int h),some (.loc a),some (.str (bJ x y))] c) Q↔Q (decide ((0<x/\x<4 * w)/\0<y/\y<4 * h),c):=fun Q=>by
     simp only [oX,b8,aS,aF,aJ,aL,g8,gK,jH,rL]
     by_cases v:0<x<;>by_cases z:x<4 * w<;>by_cases A:0<y<;>by_cases B:y<4 * h<;>simp [v,z,A,B]
    rw [b7,o]
    by_cases i:(0<x/\x<4 * w)/\0<y/\y<4 * h
    ·rw [if_pos i] at H
     simp only [decide_eq_true i,if_true,bD]
     refine Fz ?_
     simp only [aF,aJ,aP,aM,aL]
     exact ⟨FA j,(FW R j (x,y)).mpr (H _ (TB _))⟩
    ·rw [if_neg i] at H
     obtain ⟨T,E⟩:=FX N O l i
     simp only [decide_eq_false i,S6,if_false,cE,bD,aS]
     refine EV ?_
     simp only [ET,ES,aL,EU]
     refine ⟨bW _ _,by show (2:Nat)<=15;decide,?_⟩
     simp only [aF,aJ]
     have M:fR (nU [] [(.inr "l",D.str "-"),(.inr "u",D.str "|")]) (.inr (bJ x y))=some (.str (if (y % 4 == 0)=true then "-" else "|")):=by
      unfold bJ
      rcases E with ⟨r,s⟩|⟨r,s⟩<;>rw [r,s]<;>kernel_rfl
     refine (EW (Ue (by simp)) rfl M).mpr ?_
     cases G:(y % 4 == 0)<;>rw [G] at H<;>exact H _ (kJ (bO _ _) (Th _) _)
  simp only [cE]
  cases I:(x % 4 == 0)<;>cases K:(y % 4 == 0)
  ·simp only [S6,if_false];exact go
  ·simp only [S6,if_false];exact go
  ·simp only [if_true,S6,if_false];exact go
  ·rw [I,K] at e;cases e
theorem Ao {d:Hm}{a:Nat}{c:Str}{ss:List Str}{Q:D×Hm->Prop}(j:c.length<=1)(h:d[a]? = some (.lst (ss.map D.str)))(h1:ss.length<=29)(e:∀ s∈ss,s.length<=29):W (fD (.str c) [.loc a] d) Q↔Q (.str (Ui c ss),d):=by
 have b:ss.length * (29+c.length)<=29 * 30:=Yr h1 (by omega)
 refine Ff h ?_ ?_
 ·rw [a0U,An]
  unfold Wh
  have:=uW e c.length
  rw [TM]
  exact decide_eq_false (by omega)
 ·rw [a0b]
  have i:=uW e 0
  simp only [X6] at i
  have l:ss.length * 29<=29 * 29:=a0E _ h1
  have m:(ss.length - 1) * c.length<=29 * 1:=Yr (by omega) j
  rw [TM]
  omega
theorem RX {a:Str}{ss:List Str}(d:a.length<=1)(h1:ss.length<=29)(b:∀ s∈ss,s.length<=29):(Ui a ss).length<=870:=by
 rw [a0b]
 have c:=uW b 0
 simp only [X6] at c
 have e:ss.length * 29<=29 * 29:=a0E _ h1
 have h:(ss.length - 1) * a.length<=29 * 1:=Yr (by omega) d
 omega
theorem Ap {w h:Int}(hw:w<=7){v:Int×Int->Str}(b:jI v){n:Nat}:∀ s∈eJ w h v n,s.length<=29:=fun s a=>by
 unfold eJ at a
 obtain ⟨j,_,rfl⟩:=Tp.mp a
 rw [Am (pJ b _),uY]
 omega
theorem eZ {i:Int}(h:1<=i/\i<=6):1<=i/\i<=7:=⟨h.1,Int.le_trans h.2 (by decide)⟩
theorem RY {j:aG}{m:MI}{e:ME}{w h:Int}(hw:1<=w/\w<=7){v:Int×Int->Str}(r:jI v){y:Int}{b:Hm}(hit:m j b=some (gE 0 (4 * w+1).toNat,(4 * w+1).toNat+1,b))
  (o:∀ (i:Nat) a,i<(4 * w+1).toNat->b <+: a->W (e (j++[some (.int (0+(i:Int)))]) a) fun s=>s.1=.str (hZ w h v (0+(i:Int)) y)/\a <+: s.2)(Q:D×Hm->Prop)
  (H:∀ a,b <+: a->Q (.str (Ui "" (kP w h v y)),a)):W (dJ fD (mC (.str "")) (aC (dH m eV e) aD) j b) Q:=by
 refine m3 ?_
 simp only [aL,aP,aM]
 refine ⟨_,rfl,?_⟩
 refine iO (xs:=dY 0 (4 * w+1).toNat) (p:=fun _=>true) (v:=fun d=>.str (hZ w h v (eM d) y)) ?_
 rw [hit,W_some]
 refine ⟨z7,by simp [dY],by rw [TM];simp [dY];omega,fun d a _ _=>w_mTrue.mpr ⟨rfl,TB _⟩,fun d a hd _ c=>?_,fun a c l=>?_⟩
 ·obtain ⟨i,p,rfl⟩:=uL hd
  exact o i a p c
 ·have n:((dY 0 (4 * w+1).toNat).filter fun _=>true).map (fun d=>D.str (hZ w h v (eM d) y))=(kP w h v y).map D.str:=by
   unfold dY kP
   rw [Xk.mpr (fun _ _=>rfl),T8,T8]
   rfl
  rw [n] at l
  refine (Ao (by decide) l (by rw [uY];omega) fun s q=>?_).mpr (H _ c)
  rw [(pJ r y s q).len]
  decide
theorem FY {r j:Nat}{d:aG}{A:MI}{e:ME}{w h:Int}(hw:1<=w/\w<=7)(U:1<=h/\h<=7){v:Int×Int->Str}(N:jI v){b u:Hm}{c:Nat}(M:d[r]? = some (some (.loc c)))(K:j<d.length)(R:j≠r)(q:b <+: u)(lo:b.length<=c)(E:u[c]? = some (.lst []))
  (hit:∀ o a,A (d.set j o) a=some (gE 0 (4 * w+1).toNat,(4 * w+1).toNat+1,a))
  (G:∀ (y i:Nat) a,y<(4 * h+1).toNat->i<(4 * w+1).toNat->b <+: a->W (e (d.set j (some (.int (0+(y:Int))))++[some (.int (0+(i:Int)))]) a) fun s=>s.1=.str (hZ w h v (0+(i:Int)) (0+(y:Int)))/\a <+: s.2)(Q:Fl×aG×Hm->Prop)
  (H:∀ o a,b <+: a->a[c]? = some (.lst ((eJ w h v (4 * h+1).toNat).map D.str))->Q (.nx,d.set j o,a)) :
  W (fA (gE 0 (4 * h+1).toNat) (eF j) (gQ (jW kW (aA r) (aC (dJ fD (mC (.str "")) (aC (dH A eV e) aD)) aD))) ((4 * h+1).toNat+1) 0 d u) Q:=by
 refine o8 (lo:=0) (fun i l a=>∃ o,l=d.set j o/\b <+: a/\a[c]? = some (.lst ((eJ w h v i).map D.str))) ⟨d[j],(List.set_getElem_self K).symm,q,E⟩ ?_ ?_
 ·rintro i l a I ⟨o,rfl,p,n⟩
  refine ⟨_,rfl,?_⟩
  rw [List.set_set,EI]
  have T:(d.set j (some (.int (0+(i:Int)))))[r]? = some (some (.loc c)):=by rw [TY R];exact M
  refine EX ?_
  rw [uQ T]
  refine ⟨EY n,?_⟩
  simp only [aP,aM]
  refine RY hw N (hit _ _) (fun x m O L=>G i x m I O (p.trans L)) _ fun m B=>?_
  have z:=bA B n
  refine (P6 z (by rw [S3,lF,TM];omega)).mpr ⟨_,rfl,kJ (p.trans B) lo _,?_⟩
  rw [pI z,RR,UI]
  rfl
 ·rintro l a ⟨o,rfl,p,n⟩
  exact H o a p n
theorem pK {w:Int}(hw:1<=w/\w<=7):((4 * w+1).toNat:Int)=4 * w+1:=by omega
theorem uZ (k:Nat){w h:Int}(hw:1<=w/\w<=7)(e:1<=h/\h<=7){m:Int×Int->Str}(ok:∀ p,kN (m p)){ps:List (Int×Int)}(q:ps.Nodup){c:Hm}{a:Nat}(l:c[a]? = some (.dT (bX (b9 m) ps)))(Q:D×Hm->Prop)(H:∀ b,c <+: b->Q (.str (cY w h (vW m ps)),b)) :
  W (f (k+3) "_law_drawing" [.int w,.int h,.loc a] c) Q:=by
 have j:=rS ok ps
 rw [QH,cD,aN]
 simp only [bN,fG,aM]
 refine ⟨UD _,?_⟩
 simp only [S8,Ta]
 rw [aN]
 simp only [jG,o7 (j:=0),aP,aM,aL,aS,aF,aJ,jH,gZ]
 refine ⟨by omega,?_⟩
 refine FY (r:=3) (j:=4) hw e j rfl (by show (4:Nat)<5;decide) (by decide) (bO c _) (Th _) (bW _ _) (fun o b=>?_) (fun y i b v u d=>?_) _ fun o b d n=>?_
 ·refine FV fun Q=>?_
  simp only [S8,Ta,o7 (j:=0),aP,aM,aL,aS,aF,jH,gZ]
  exact and_iff_right (by omega)
 ·have x:=pK hw
  have z:=pK e
  simp only [S8,Ta,TU,Ub,aY,aP,aM,jF,aF,aJ,kM,true_and]
  exact RW k q (bA d l) (by omega) (by omega) _ fun s r=>⟨rfl,r⟩
 ·simp only [S8,Ta,bD]
  refine m3 ?_
  simp only [aL,aP,aM,aF,aJ]
  refine ⟨_,rfl,(Ao (by decide) n (by rw [lF];omega) (Ap hw.2 j)).mpr (H _ d)⟩
theorem FZ {a b c:D}{d:Hm}{Q:D×Hm->Prop}:W (aH (.tup [a,b,c]) (.int 0) d) Q↔Q (a,d):=W_some
theorem F0 {a b c:D}{d:Hm}{Q:D×Hm->Prop}:W (aH (.tup [a,b,c]) (.int 1) d) Q↔Q (b,d):=W_some
theorem rV {a b c:D}{d:Hm}{Q:D×Hm->Prop}:W (aH (.tup [a,b,c]) (.int 2) d) Q↔Q (c,d):=W_some
theorem F1:∀ a:List ((Int×Int)×Str),oM (a.map MD)=some (a.map fun m=>(bB m.1,D.str m.2))
 | []=>rfl
 | m::a=>by
  rw [S7,S7]
  show (gH (PP m.1)).bind (fun k=>(oM (a.map MD)).map fun l=>(k,D.str m.2)::l)=_
  rw [F1 a]
  rfl
theorem F2 (v:Int×Int->D):∀ (l ps:List (Int×Int)),(ps++l).Nodup->(l.map fun p=>(bB p,v p)).foldl (fun q p=>dQ q p.1 p.2) (bX v ps)=bX v (ps++l)
 | [],ps,_=>by rw [UK];rfl
 | p::l,ps,nd=>by
  have a:p∉ps:=fun h=>by
   rw [Wf] at nd
   exact nd.2.2 p h p (TC ..) rfl
  rw [S7,Zh]
  dsimp only
  rw [FD a,F2 v l (ps++[p]) (by rw [Ts];exact nd),Ts]
  rfl
theorem RZ {m:Int×Int->Str}{ps:List (Int×Int)}(b:ps.Nodup){a:Hm}{Q:D×Hm->Prop}:W (mQ [.tup ((gN m ps).map MD)] a) Q↔Q (.loc a.length,a++[.dT (bX (b9 m) ps)]):=by
 have e:mQ [.tup ((gN m ps).map MD)] a=some (.loc a.length,a++[.dT (bX (b9 m) ps)]):=by
  simp only [mQ,F1,Us]
  have:=F2 (b9 m) ps [] (by simpa using b)
  rw [Ub] at this
  rw [<- this]
  unfold gN
  rw [T8]
  rfl
 rw [e]
 exact W_some
theorem R0 (k:Nat){w h:Int}(hw:1<=w/\w<=7)(e:1<=h/\h<=7){m:Int×Int->Str}(ok:∀ p,kN (m p)){ps:List (Int×Int)}(l:ps.Nodup)(b:Hm)(Q:D×Hm->Prop)(H:∀ a,b <+: a->Q (.str (cY w h (vW m ps)),a)) :
  W (f (k+3) "drawn" [SH w h (gN m ps)] b) Q:=by
 have j:=rS ok ps
 rw [Qp,cD,aN]
 simp only [bN,aY,aP,aM,aF]
 rw [Qn,cD]
 simp only [bD,aY,aP,aM,aS,aF,aL,rV,RZ l]
 simp only [S8,Ta]
 rw [aN]
 simp only [bN,fG,aM]
 refine ⟨UD _,?_⟩
 simp only [S8,Ta]
 have d:(b++[C.dT (bX (b9 m) ps)])[b.length]? = some (.dT (bX (b9 m) ps)):=bW _ _
 have n:b <+: b++[C.dT (bX (b9 m) ps)]:=bO _ _
 generalize b++[C.dT (bX (b9 m) ps)]=μ1 at d n
 rw [aN]
 simp only [jG,o7 (j:=0),aP,aM,aL,aS,aF,aJ,F0,jH,gZ]
 refine ⟨by omega,?_⟩
 refine FY (r:=2) (j:=3) hw e j rfl (by show (3:Nat)<4;decide) (by decide) (bO μ1 _) (Th _) (bW _ _) (fun o a=>?_) (fun y i a s r c=>?_) _ fun o a c q=>?_
 ·refine FV fun Q=>?_
  simp only [S8,Ta,o7 (j:=0),aP,aM,aL,aS,aF,FZ,jH,gZ]
  exact and_iff_right (by omega)
 ·have u:=pK hw
  have v:=pK e
  simp only [S8,Ta,TU,Ub,aY,aP,aM,jF,aF,aJ,kM,true_and]
  exact RV k l (bA c d) (by omega) (by omega) _ ⟨rfl,TB _⟩
 ·simp only [S8,Ta,bD]
  refine m3 ?_
  simp only [aL,aP,aM,aF,aJ]
  refine ⟨_,rfl,(Ao (by decide) q (by rw [lF];omega) (Ap hw.2 j)).mpr (H _ (n.trans c))⟩
theorem R6:∀ w∈[(1:Int),2,3,4,5,6],∀ h∈[(1:Int),2,3,4,5,6],uP (((iP w h).filter rR).map bB)=true:=by decide +kernel
theorem F3 {w h:Int}(hw:1<=w/\w<=6)(a:1<=h/\h<=6):((bK w h "lufr").map bB).Pairwise fun x y=>HT.lexLt x y=true:=by
 rw [Fv]
 exact FC (R6 w (uS hw) h (uS a))
theorem F4 {w h:Int}(hw:1<=w/\w<=6)(a:1<=h/\h<=6):(bK w h "lufr").Nodup:=by
 have:=F3 hw a
 rw [UL] at this
 exact this.imp fun {x y} h e=>by
  rw [e,mL] at h
  exact UN h
theorem u1 {z:Str}(hz:z.length<=Td){a:Hm}{Q:D×Hm->Prop}:W (cP [.str z] a) Q↔Q (.int z.length,a):=by
 have e:cP [.str z] a=some (.int z.length,a):=by
  show (if z.length<=Td then some (D.int z.length,a) else none)=_
  rw [if_pos hz]
 rw [e]
 exact W_some
theorem R8 (a:Hm)(n:Nat)(p:(Int×Int)×Str):cB (n+3) a (MD p) (MD p)=some true:=by
 obtain ⟨⟨x,y⟩,s⟩:=p
 have e:cB (n+3) a (MD ((x,y),s)) (MD ((x,y),s))=some ((x == x&&(y == y&&true))&&((s == s)&&true)):=rfl
 rw [e]
 simp
theorem F5 (a:Hm)(n:Nat):∀ T:List ((Int×Int)×Str),fN (cB (n+3) a) (T.map MD) (T.map MD)=some true
 | []=>rfl
 | p::T=>by
  show (cB (n+3) a (MD p) (MD p)).bind (fun b=>(fN (cB (n+3) a) (T.map MD) (T.map MD)).map fun c=>b&&c)=_
  rw [R8,F5 a n T]
  rfl
theorem Sa {a:Hm}{w h:Int}{T:List ((Int×Int)×Str)}{Q:D×Hm->Prop}:W (aX true (SH w h T) (SH w h T) a) Q↔Q (.bl false,a):=by
 have e:cB 8 a (SH w h T) (SH w h T)=some true:=by
  show (some (w == w)).bind (fun b=>((some (h == h)).bind fun d=>((fN (cB 6 a) (T.map MD) (T.map MD)).bind fun i=>(some true).map fun c=>i&&c).map fun c=>d&&c).map fun c=>b&&c)=_
  rw [F5 a 3 T]
  simp
 unfold aX
 rw [e]
 exact W_some
theorem Sb {a b c:D}{d:Hm}{Q:D×Hm->Prop}:W (cP [.tup [a,b,c]] d) Q↔Q (.int 3,d):=W_some
theorem F6 {e:ME}{i x1 j:Option D}{T:List ((Int×Int)×Str)}{c:Hm}(n:T.length<=600)(l:∀ Q:D×Hm->Prop,W (e [i,x1,j] c) Q↔Q (.tup (T.map MD),c))(Q:D×Hm->Prop)(H:∀ b,c <+: b->b[c.length]? = some (.lst ((T.map (·.1)).map PP))->Q (.loc c.length,b)) :
  W (dH (dN e) eV (aB aH (aA 3) (mC (.int 0))) [i,x1,j] c) Q:=by
 refine iO (xs:=T.map MD) (p:=fun _=>true) (v:=fun d=>match d with|.tup [a,_]=>a|_=>.non) ?_
 simp only [iN,l]
 rw [E7]
 refine ⟨P1,rfl,by rw [S3,TM];omega,fun d b _ _=>w_mTrue.mpr ⟨rfl,TB _⟩,fun d b hd _ h=>?_,fun b h m=>?_⟩
 ·obtain ⟨p,_,rfl⟩:=Tp.mp hd
  simp only [TU,Ub,aS,aF,aJ,aL,MD,g8]
  exact ⟨trivial,TB _⟩
 ·refine H b h ?_
  rw [m,Xk.mpr (fun _ _=>rfl),T8,T8]
  rfl
theorem Se (k:Nat){w h:Int}{T:List ((Int×Int)×Str)}(e:T.length<=600)(c:Hm)(Q:D×Hm->Prop)(H:∀ a,c <+: a->Q (.bl true,a)):W (f (k+3) "_law_is_sheet" [SH w h T,SH w h T] c) Q:=by
 rw [QD,cD,aN]
 simp only [b7,oY,iL,fY,b8,aY,aP,aM,aF,aJ,aL,aS,z8,fH,UA,S6,if_false,Sb,o6,beq_self_eq_true,rV]
 rw [Sa]
 simp only [S6,if_false,cE]
 rw [aN]
 simp only [b7,oY,iL,fY,aY,aP,aM,aF,aJ,aL,aS,FZ,F0,Fp,fH,UA,S6,if_false,cE]
 rw [aN]
 simp only [jG,iN,aS,aF,aJ,aL,rV]
 rw [E7]
 refine P0 (xs:=T.map MD) (fun _=>rfl) (fun i b a=>c=a/\∃ o,b=[some (SH w h T),some (SH w h T),o]) ⟨rfl,none,rfl⟩ ?_ ?_
 ·rintro i d b a hd ⟨rfl,o,rfl⟩
  obtain ⟨p,_,rfl⟩:=Rv hd
  refine ⟨_,rfl,?_⟩
  simp only [S8,Ta,b7,oY,iL,fY,aY,aP,aM,aF,aJ,aL,b8,aS,z8,fH,E6,o6,MD,gK,rO,cE,UA,S6,if_false]
  exact ⟨trivial,_,rfl⟩
 ·rintro b a ⟨rfl,o,rfl⟩
  simp only [bD,aY,aP,aM]
  refine F6 e (fun Q=>by simp only [aS,aF,aL,rV]) _ fun q n l=>?_
  refine F6 e (fun Q=>by simp only [aS,aF,aJ,aL,rV]) _ fun r j m=>?_
  refine Q6 k _ _ _ _ _ _ (bA j l) m ?_
  rw [beq_self_eq_true]
  exact H _ (n.trans j)
theorem Sf (m:Int×Int->Str)(ps:List (Int×Int)):(gN m ps).length=ps.length:=S3 ..
theorem Sg {m:ME}{c:aG}{b:Hm}{a:Nat}{mk:Int×Int->Str}{ps:List (Int×Int)}(h:b[a]? = some (.dT (bX (b9 mk) ps)))(d:∀ Q:D×Hm->Prop,W (m c b) Q↔Q (.loc a,b)){Q:D×Hm->Prop}:W (oO m c b) Q↔Q (.tup ((gN mk (srt ps)).map MD),b):=by
 have e:tW (.loc a) b=some (.tup ((gN mk (srt ps)).map MD),b):=by
  simp only [tW,h]
  rw [if_pos trivial,Rt,Ry]
  unfold bX
  rw [T8]
  rfl
 unfold oO
 rw [W_bind,d]
 dsimp only
 rw [e]
 exact W_some
noncomputable abbrev aE (t:Str):List Str:=WE t "\n"
theorem Sh (t:Str):Ui "\n" (aE t)=t:=by rw [XX];exact a0g t "\n"
theorem Aq (t:Str):1<=(aE t).length:=Y2 _ _
theorem F7:∀ {ss:List Str}{r:Str},r∈ss->r.length<=(ss.map fun s=>s.length).sum
 | s::ss,r,h=>by
  rw [S7,VQ]
  rcases TN.mp h with rfl|h
  ·omega
  ·have:=F7 h;omega
theorem Ar (t:Str):((aE t).map fun s=>s.length).sum+((aE t).length - 1)=t.length:=by
 have h:=a0b "\n" (aE t)
 rw [Sh,show ("\n":Str).length=1 from rfl,Nat.mul_one] at h
 exact h.symm
theorem m8 {t r:Str}(h:r∈aE t):r.length<=t.length:=by
 have:=Ar t
 have:=F7 h
 omega
theorem Si (t:Str):(aE t).length<=t.length+1:=by
 have:=Ar t
 omega
theorem u3 {t:Str}(h:t.length<=100000){a:Hm}{Q:D×Hm->Prop}:W (fF (.str t) [.str "\n"] a) Q↔Q (.loc a.length,a++[.lst ((aE t).map D.str)]):=by
 have e:fF (.str t) [.str "\n"] a=some (.loc a.length,a++[.lst ((aE t).map D.str)]):=by
  unfold fF
  dsimp only
  rw [if_pos ⟨rfl,by rw [TM];omega⟩]
 rw [e]
 exact W_some
noncomputable def dU (R:List Str)(e:Int×Int):Str:=d8 (R.getD e.2.toNat "") (some e.1) (some (e.1+1))
noncomputable def fJ (s:Str):Bool:="h" == s||("v" == s||("o" == s||false))
theorem Sj {s:Str}(h:fJ s=true):kN s:=by
 unfold fJ at h
 rw [ZW,V3,V3,beq_iff_eq,beq_iff_eq,beq_iff_eq] at h
 rcases h with h|h|h
 ·exact .inr (.inr h.symm)
 ·exact .inr (.inl h.symm)
 ·exact .inl h.symm
noncomputable def fK (w h:Int)(R:List Str):List (Int×Int):=(bK w h "lufr").filter fun e=>fJ (dU R e)
noncomputable def mR (R:List Str)(e:Int×Int):Str:=if fJ (dU R e)=true then dU R e else "h"
theorem u4 {w h:Int}(hw:1<=w/\w<=6)(a:1<=h/\h<=6)(R:List Str):Mk w h (fK w h R) (mR R):=by
 refine ⟨(F4 hw a).filter _,fun p b=>(V2.mp b).1,fun p=>?_⟩
 unfold mR
 split
 ·rename_i h;exact Sj h
 ·exact .inr (.inr rfl)
theorem Sk {w h:Int}(hw:1<=w/\w<=6)(b:1<=h/\h<=6)(R:List Str):srt (fK w h R)=fK w h R:=by
 refine RO ?_
 have:=(F3 hw b).sublist ((List.filter_sublist (p:=fun e=>fJ (dU R e)) (l:=bK w h "lufr")).map bB)
 exact this.imp fun a=>Ro a
theorem Sm (k:Nat)(s:Str)(a:Hm)(Q:D×Hm->Prop):W (f (k+1) "is_mark" [.str s] a) Q↔Q (.bl (fJ s),a):=by
 rw [Qj,cD]
 simp only [bD,k8,aY,aP,aM,aF,aL,rO,if_true,aS]
 have b:dD false (.str s) Aa a=some (.bl (fJ s),a):=rfl
 rw [b,W_some]
theorem Sn (k:Nat){w h:Int}{R:List Str}(l:4 * h<=R.length)(j:∀ r∈R,r.length<=100000){b:Hm}{a:Nat}(d:b[a]? = some (.lst (R.map D.str))){e:Int×Int}(i:e∈bK w h "lufr") (Q:D×Hm->Prop)(H:Q (.str (dU R e),b)):W (f (k+1) "sign_in" [.loc a,PP e] b) Q:=by
 obtain ⟨m,n⟩:=uR i
 rw [Qq,cD]
 simp only [bD]
 refine uX ?_
 simp only [aS,aF,aJ,aL,PP,gK]
 have c:R[e.2.toNat]? = some (R.getD e.2.toNat ""):=by
  rw [Tz,S1 (by omega)]
  rfl
 refine (dP d (iQ (by omega) (by rw [Uo,c];rfl))).mpr ?_
 refine ⟨_,rfl,?_⟩
 simp only [rP,aS,aF,aJ,aL,g8,gZ]
 refine ⟨?_,H⟩
 have:=j _ (TQ c)
 rw [TM]
 omega
theorem So (k:Nat){w h:Int}(hw:1<=w/\w<=6)(p:1<=h/\h<=6){R:List Str}(x:4 * h<=R.length)(z:∀ r∈R,r.length<=100000){m:Hm}{a:Nat}(y:m[a]? = some (.lst (R.map D.str)))(Q:D×Hm->Prop)(H:∀ c,m <+: c->Q (.tup ((gN (mR R) (fK w h R)).map MD),c)) :
  W (f (k+3) "creases_in" [.loc a,.int w,.int h] m) Q:=by
 have L:=uT (w:=w) (h:=h) hw.2 p.2 "lufr"
 rw [Qr,cD,aN,bN]
 refine iO (xs:=(bK w h "lufr").map PP) (p:=fun _=>true) (v:=fun d=>.tup [d,.str (dU R (cU d))]) ?_
 simp only [iN,aY,aP,aM,aF,aJ]
 refine Ra k w h hw p _ _ fun b E s n K=>?_
 refine (kK n).mpr ⟨mZ n,rfl,by rw [S3,TM];omega,fun d c _ _=>w_mTrue.mpr ⟨rfl,TB _⟩,fun d c hd _ l=>?_,fun G A j=>?_⟩
 ·obtain ⟨e,i,rfl⟩:=Tp.mp hd
  simp only [TU,Ub,jF,aP,aM,aY,aF,aJ]
  exact Sn (k+1) x z (bA (s.trans l) y) i _ ⟨kM,rfl,TB _⟩
 ·have u:(((bK w h "lufr").map PP).filter fun _=>true).map (fun d=>D.tup [d,.str (dU R (cU d))])=(bK w h "lufr").map fun e=>MD (e,dU R e):=by
   rw [Xk.mpr (fun _ _=>rfl),T8]
   rfl
  rw [u] at j
  simp only [S8,Ta,bD,aY,aP,aM]
  refine iO (xs:=(bK w h "lufr").map fun e=>MD (e,dU R e)) (p:=fun d=>match d with|.tup [q,_]=>fJ (dU R (cU q))|_=>false) (v:=fun d=>d) ?_
  simp only [iN,aF,aJ]
  refine (kK j).mpr ⟨mZ j,rfl,by rw [S3,TM];omega,fun d c hd l=>?_,fun d c hd _ l=>?_,fun I B o=>?_⟩
  ·obtain ⟨e,i,rfl⟩:=Tp.mp hd
   simp only [TU,Ub,fY,aY,aP,aM,aS,aF,aJ,aL,MD,gK]
   rw [Sm (k+1),fH]
   exact ⟨rfl,TB _⟩
  ·simp only [TU,Ub,aF,aJ]
   exact ⟨trivial,TB _⟩
  ·have v:(((bK w h "lufr").map fun e=>MD (e,dU R e)).filter fun d=>match d with|.tup [q,_]=>fJ (dU R (cU q))|_=>false).map (fun d=>d)=(gN (mR R) (fK w h R)).map MD:=by
    rw [Z3,Zi]
    unfold gN fK
    rw [T8]
    refine Uv fun e i=>?_
    have i:=(V2.mp i).2
    show MD (e,dU R e)=MD (e,mR R e)
    unfold mR
    rw [if_pos (show fJ (dU R e)=true from i)]
   rw [v] at o
   exact (Qd o).mpr (H _ (s.trans (A.trans B)))
noncomputable abbrev bS (t:Str):Int:=(((aE t).getD 0 "").length:Int) / 4
noncomputable abbrev bP (t:Str):Int:=((aE t).length:Int) / 4
noncomputable def dZ (t:Str):Prop:=(1<=bS t/\bS t<=6)/\1<=bP t/\bP t<=6
noncomputable abbrev iS (t:Str):Str:=cY (bS t) (bP t) (vW (mR (aE t)) (fK (bS t) (bP t) (aE t)))
noncomputable abbrev rW (t:Str):D:=SH (bS t) (bP t) (gN (mR (aE t)) (fK (bS t) (bP t) (aE t)))
theorem Sq (k:Nat)(i:Int)(c:Hm)(Q:D×Hm->Prop):W (f (k+2) "is_size" [.int i] c) Q↔Q (.bl (decide (1<=i/\i<=6)),c):=by
 rw [Qi,cD]
 simp only [bD,k8,aY,aP,aM,aF,RG,if_true,Fc,aL,PZ]
 by_cases a:1<=i<;>by_cases b:i<=6<;>simp [a,b]
theorem Au (t:Str):(aE t)[0]? = some ((aE t).getD 0 ""):=by
 have:=Aq t
 rw [Tz,S1 (by omega)]
 rfl
theorem rX (t:Str):(aE t).getD 0 "" ∈ aE t:=TQ (Au t)
noncomputable abbrev rA (t:Str)(a:Nat):aG:=[some (.str t),some (.loc a),some (.int (bS t)),some (.int (bP t)),none]
theorem Av {t:Str}(h:t.length<=100000){a:Hm}{Q:Fl×aG×Hm->Prop}:W (aW 1 (dJ fF (aA 0) (aC (mC (.str "\n")) aD)) [some (.str t),none,none,none,none] a) Q↔Q (.nx,[some (.str t),some (.loc a.length),none,none,none],a++[.lst ((aE t).map D.str)]):=by
 rw [bN]
 constructor
 ·intro z
  obtain ⟨p,b,c⟩:=z
  have:dJ fF (aA 0) (aC (mC (.str "\n")) aD) [some (.str t),none,none,none,none] a=fF (.str t) [.str "\n"] a:=rfl
  rw [this] at b
  have k:=(u3 (Q:=fun q=>q=p) h).mp ⟨p,b,rfl⟩
  rw [<- k] at c
  exact c
 ·intro z
  refine m3 ?_
  simp only [aF,aP,aM,aL]
  exact ⟨_,rfl,(u3 h).mpr z⟩
theorem F8 {t:Str}(h:t.length<=100000){b:Hm}{a:Nat}(g:b[a]? = some (.lst ((aE t).map D.str))){Q:Fl×aG×Hm->Prop}(H:Q (.nx,[some (.str t),some (.loc a),some (.int (bS t)),none,none],b)):W (aW 2 (aB cJ (aK cP (aC (aB aH (aA 1) (mC (.int 0))) aD)) (mC (.int 4))) [some (.str t),some (.loc a),none,none,none] b) Q:=by
 simp only [bN,aS,aY,aP,aM,aF,aJ,aL]
 refine (dP g (iQ (by decide) (by rw [Uo];show ((aE t)[0]?).map D.str=_;rw [Au];rfl))).mpr ?_
 have:=m8 (rX t)
 rw [u1 (by rw [TM];omega),kL]
 exact H
theorem F9 {t:Str}{b:Hm}{a:Nat}(g:b[a]? = some (.lst ((aE t).map D.str))){Q:Fl×aG×Hm->Prop}(H:Q (.nx,rA t a,b)):W (aW 3 (aB cJ (aK cP (aC (aA 1) aD)) (mC (.int 4))) [some (.str t),some (.loc a),some (.int (bS t)),none,none] b) Q:=by
 simp only [bN,aS,aY,aP,aM,aF,aJ,aL]
 refine (o9 g).mpr ?_
 rw [S3,kL]
 exact H
noncomputable instance (t:Str):Decidable (dZ t):=by unfold dZ;infer_instance
theorem u6 (k:Nat){t:Str}{d:Hm}{a:Nat}{Q:Bool×Hm->Prop}(H:Q (!decide (dZ t),d)):W (dC (dF (cC (aK (f (k+2) "is_size") (aC (aA 2) aD))) (cC (aK (f (k+2) "is_size") (aC (aA 3) aD)))) (rA t a) d) Q:=by
 simp only [iL,oX,fY,aY,aP,aM,aF,aJ,Sq,fH]
 by_cases b:1<=bS t/\bS t<=6
 ·by_cases c:1<=bP t/\bP t<=6
  ·rw [decide_eq_true (show dZ t from ⟨b,c⟩)] at H
   simp only [decide_eq_true b,decide_eq_true c,if_true]
   exact H
  ·rw [decide_eq_false (show ¬ dZ t from fun z=>c z.2)] at H
   simp only [decide_eq_true b,decide_eq_false c,if_true]
   exact H
 ·rw [decide_eq_false (show ¬ dZ t from fun z=>b z.1)] at H
  simp only [decide_eq_false b,S6,if_false]
  exact H
theorem Ga (t:Str):4 * bP t<=((aE t).length:Int):=by unfold bP;omega
theorem Gb (k:Nat){t:Str}(h:t.length<=100000)(hz:dZ t){c:Hm}{a:Nat}(g:c[a]? = some (.lst ((aE t).map D.str))){Q:Fl×aG×Hm->Prop}(H:∀ b,c <+: b->Q (.nx,[some (.str t),some (.loc a),some (.int (bS t)),some (.int (bP t)),some (rW t)],b)) :
  W (aW 4 (eE (aC (aA 2) (aC (aA 3) (aC (aK (f (k+3) "creases_in") (aC (aA 1) (aC (aA 2) (aC (aA 3) aD)))) aD)))) (rA t a) c) Q:=by
 simp only [bN,jF,aY,aP,aM,aF,aJ]
 refine So k hz.1 hz.2 (Ga t) (fun r e=>Uk (m8 e) h) g _ fun d i=>?_
 exact ⟨by show (3:Nat)<=Td;decide,H d i⟩
theorem Gd {x y:Str}{a:Hm}{Q:D×Hm->Prop}:W (aX true (.str x) (.str y) a) Q↔Q (.bl (!(x == y)),a):=W_some
theorem Ge (k:Nat){t:Str}(hz:dZ t){c:Hm}{a:Nat}{Q:Bool×Hm->Prop}(H:∀ b,c <+: b->Q (!(iS t == t),b)):W (aO (aB (aX true) (aK (f (k+3) "drawn") (aC (aA 4) aD)) (aA 0)) [some (.str t),some (.loc a),some (.int (bS t)),some (.int (bP t)),some (rW t)] c) Q:=by
 have M:=u4 hz.1 hz.2 (aE t)
 simp only [b8,aS,aY,aP,aM,aF,aJ]
 refine R0 k (eZ hz.1) (eZ hz.2) M.ok M.nd _ _ fun e d=>?_
 rw [Gd]
 exact H _ d
theorem Ss (k:Nat){t:Str}(h:t.length<=100000)(hz:dZ t)(e:iS t=t)(a:Hm)(Q:D×Hm->Prop)(H:∀ b,a <+: b->Q (rW t,b)):W (f (k+4) "read_sheet" [.str t] a) Q:=by
 rw [Qs,cD,aN]
 simp only [b7,iL,fY,aY,aP,aM,aF,aJ,aL,rO,fH,UA,S6,if_false,cE]
 rw [aN,Av h]
 have c:=bW a (C.lst ((aE t).map D.str))
 have d:=bO a (C.lst ((aE t).map D.str))
 generalize a++[C.lst ((aE t).map D.str)]=μ1 at c d
 rw [aN]
 refine F8 h c ?_
 rw [aN]
 refine F9 c ?_
 rw [aN,b7]
 refine u6 (k+1) ?_
 rw [decide_eq_true hz]
 simp only [UA,S6,if_false,cE]
 rw [aN]
 refine Gb k h hz c fun l i=>?_
 rw [aN,b7]
 refine Ge k hz fun m j=>?_
 rw [e,beq_self_eq_true]
 simp only [UA,S6,if_false,cE,bD,aF,aJ]
 exact H _ (d.trans (i.trans j))
noncomputable abbrev nX:Xn:=(("NoText":Str),[])
theorem Gf {m:MT}{i:MR}{d:aG}{c:Hm}(h:W (m d c) fun p=>p.1=false):jX m i bZ d c=none:=by
 obtain ⟨⟨b,j⟩,e,a⟩:=h
 dsimp only at a
 subst a
 unfold jX
 rw [e]
 rfl
theorem Su (k:Nat){d:D}{a:Hm}(h:cW [d,.ty "str"] a=some (.bl false,a)):W (g (k+3) "read_sheet" [d] a) fun q=>q.1=nX/\a <+: q.2:=by
 rw [Fm,Fh]
 refine pF (w_rIf.mpr ?_)
 simp only [iL,fY,aY,aP,aM,aF,aJ,aL,h,W_some,fH,Vt,if_true]
 refine pF (w_rRaise.mpr ?_)
 simp only [aP,aM,aL]
 exact ⟨trivial,TB _⟩
theorem Gg (k:Nat){t:Str}(h:t.length<=100000)(hz:¬ (dZ t/\iS t=t))(b:Hm):W (g (k+4) "read_sheet" [.str t] b) fun q=>q.1=nX/\b <+: q.2:=by
 have e:=Fm (k+1) (.str t) b
 rw [show k+1+3=k+4 from rfl,show k+1+2=k+3 from rfl] at e
 rw [e,Fh]
 refine pG (Gf ?_) ?_
 ·simp only [iL,fY,aY,aP,aM,aF,aJ,aL,rO,fH,UA]
 simp only [b7,iL,fY,aY,aP,aM,aF,aJ,aL,rO,fH,UA,S6,if_false,cE]
 refine ⟨trivial,pG rfl ?_⟩
 rw [Av h]
 have c:=bW b (C.lst ((aE t).map D.str))
 have d:=bO b (C.lst ((aE t).map D.str))
 generalize b++[C.lst ((aE t).map D.str)]=μ1 at c d
 refine ⟨rfl,pG rfl (F8 h c ⟨rfl,pG rfl (F9 c ⟨rfl,?_⟩)⟩)⟩
 by_cases a:dZ t
 ·refine pG (Gf (u6 (k+1) ?_)) ?_
  ·rw [decide_eq_true a];rfl
  rw [b7]
  refine u6 (k+1) ?_
  rw [decide_eq_true a]
  simp only [UA,S6,if_false,cE]
  refine ⟨trivial,pG rfl (Gb k h a c fun l i=>⟨rfl,pF (w_rIf.mpr (Ge k a fun m j=>?_))⟩)⟩
  rw [show (iS t == t)=false from beq_eq_false_iff_ne.mpr fun z=>hz ⟨a,z⟩]
  simp only [Vt,if_true]
  refine pF (w_rRaise.mpr ?_)
  simp only [aP,aM,aL]
  exact ⟨trivial,d.trans (i.trans j)⟩
 ·refine pF (w_rIf.mpr (u6 (k+1) ?_))
  rw [decide_eq_false a]
  simp only [Vt,if_true]
  refine pF (w_rRaise.mpr ?_)
  simp only [aP,aM,aL]
  exact ⟨trivial,d⟩
theorem u7 {s:Str->Option Bool}{x:Str}{ns:List Str}{ds:List D}{b:Bool}{i a:Nat}{d:aG}{c:Hm}{Q:D×Hm->Prop}(l:d[i]? = some (some (.loc a)))(h:c[a]? = some (.exc x ns ds))(j:s x=some b):W (fV s (aA i) d c) Q↔Q (.bl b,c):=by
 have e:fV s (aA i) d c=some (.bl b,c):=by simp [fV,aA,l,h,j]
 rw [e]
 exact W_some
theorem Sv {a:Nat}{b:Hm}(c:b[a]? = some (C.exc "NoText" [] [])) (Q:D×Hm->Prop)(H:Q (.bl false,b)):W (k6 S "_law_other" [.loc a] b) Q:=by
 rw [QU,cD,aN,b7,b8]
 refine (u7 (b:=false) rfl c rfl).mpr ?_
 simp only [S6,if_false,cE,bD]
 exact (u7 (b:=false) rfl c rfl).mpr H
theorem Gh (k:Nat){d:D}{b:Hm}(h:W (g (k+4) "read_sheet" [d] b) fun q=>q.1=nX/\b <+: q.2) (Q:D×Hm->Prop)(H:∀ c,b <+: c->Q (.bl true,c)):W (f (k+5) "_law_refused" [d] b) Q:=by
 obtain ⟨⟨x,a⟩,m,j,l⟩:=h
 dsimp only at j l
 subst j
 rw [QN,cD,aN]
 simp only [bN,aL,S8,Ta]
 rw [aN]
 have e:dO (gQ (aK (f (k+4) "read_sheet") (aC (aA 0) aD))) (qF (g (k+4) "read_sheet") (aC (aA 0) aD)) bZ [some d,some (.bl false),none] b=some (nX,[some d,some (.bl false),none],a):=by
  have:qF (g (k+4) "read_sheet") (aC (aA 0) aD) [some d,some (.bl false),none] b=some (nX,[some d,some (.bl false),none],a):=by
   show ((g (k+4) "read_sheet" [d] b).map fun q=>(q.1,[some d,some (.bl false),none],q.2))=_
   rw [m]
   rfl
  unfold dO
  rw [this]
 refine (Qe e rfl).mpr ?_
 have i:=bW a (C.exc "NoText" [] [])
 have n:=bO a (C.exc "NoText" [] [])
 show W (aW 1 _ [some d,some (.bl false),some (.loc a.length)] (a++[C.exc "NoText" [] []])) _
 rw [bN,k8]
 refine (u7 (b:=true) rfl i rfl).mpr ?_
 dsimp only
 rw [if_pos rfl,k8]
 refine (u7 (b:=true) rfl i rfl).mpr ?_
 dsimp only
 rw [if_pos rfl,zY]
 simp only [aY,aP,aM,aF,aJ]
 refine Sv i _ ?_
 simp only [S8,Ta,bD,aF,aJ,Vt]
 exact H _ (l.trans n)
theorem Sw {z:Str}{i:Int}(b:0<=i)(h1:i<z.length):∃ c,atI z.cps.toList i=some c/\d8 z (some i) (some (i+1))=⟨#[c]⟩:=by
 have d:=m7 z
 obtain ⟨n,rfl⟩:∃ n:Nat,i=n:=⟨i.toNat,by omega⟩
 have a:n<z.cps.toList.length:=by omega
 refine ⟨z.cps.toList[n],iQ (by omega) (S1 a),?_⟩
 unfold d8
 rw [show ((n:Int)+1)=((n+1:Nat):Int) by omega,HT.sIx_nat,HT.sIx_nat,Xj (by omega),Xj (by omega),show n+1 - n=1 by omega,Vy a]
 rfl
noncomputable def eK (n:Int):Bool:=n % 4 == 1&&(decide (5<=n)&&decide (n<=25))
noncomputable abbrev bU (t:Str):Nat:=((aE t).getD 0 "").length
structure CdT (t:Str):Prop where
 w:eK (bU t)=true
 h:eK (aE t).length=true
 r:∀ r∈aE t,r.length=bU t
theorem Aw {n:Nat}(h:eK n=true):1<=(n:Int) / 4/\(n:Int) / 4<=6/\(n:Int)=4 * ((n:Int) / 4)+1:=by
 unfold eK at h
 rw [SW,SW,beq_iff_eq,decide_eq_true_iff,decide_eq_true_iff] at h
 omega
theorem CdT.sz {t:Str}(c:CdT t):dZ t:=by
 have a:=Aw c.w
 have b:=Aw c.h
 exact ⟨⟨a.1,a.2.1⟩,b.1,b.2.1⟩
theorem Ax {t:Str}(hz:dZ t)(l:iS t=t):CdT t:=by
 have d:=rS (u4 hz.1 hz.2 (aE t)).ok (fK (bS t) (bP t) (aE t))
 have e:aE t=eJ (bS t) (bP t) (vW (mR (aE t)) (fK (bS t) (bP t) (aE t))) (4 * bP t+1).toNat:=by
  have c:aE (iS t)=eJ (bS t) (bP t) (vW (mR (aE t)) (fK (bS t) (bP t) (aE t))) (4 * bP t+1).toNat:=by
   refine FT ?_ ?_
   ·intro z
    have h:=lF (bS t) (bP t) (vW (mR (aE t)) (fK (bS t) (bP t) (aE t))) (4 * bP t+1).toNat
    rw [z] at h
    have:=hz.2.1
    have:(0:Nat)=(4 * bP t+1).toNat:=h
    omega
   ·intro r a
    unfold eJ at a
    obtain ⟨j,_,rfl⟩:=Tp.mp a
    exact FU (pJ d _)
  rw [l] at c
  exact c
 have b:∀ r∈aE t,(r.length:Int)=4 * bS t+1:=fun r a=>by
  rw [e] at a
  unfold eJ at a
  obtain ⟨j,_,rfl⟩:=Tp.mp a
  rw [Am (pJ d _),uY]
  exact pK (eZ hz.1)
 have m:((aE t).length:Int)=4 * bP t+1:=by
  have:=congrArg Vi e
  rw [lF] at this
  rw [this]
  exact pK (eZ hz.2)
 have o:(bU t:Int)=4 * bS t+1:=b _ (rX t)
 have sz:∀ {n i:Int},n=4 * i+1->1<=i->i<=6->eK n=true:=fun p q s=>by
  unfold eK
  rw [SW,SW,beq_iff_eq,decide_eq_true_iff,decide_eq_true_iff]
  omega
 exact ⟨sz o hz.1.1 hz.1.2,sz m hz.2.1 hz.2.2,fun r a=>by have:=b r a;omega⟩
theorem Gi {a:Hm}{A B:Nat}{ds:List D}{Q:D×Hm->Prop}(hA:a[A]? = some (.lst ds))(hB:a[B]? = some (.lst [])):W (aX true (.loc A) (.loc B) a) Q↔Q (.bl (!ds.isEmpty),a):=by
 have b:∀ {x:Nat}{xs:List D},a[x]? = some (.lst xs)->fM a (.loc x)=some (.lst xs):=fun h=>by simp only [fM,h]
 have e:cB 8 a (.loc A) (.loc B)=some ds.isEmpty:=by
  show (fM a (.loc A)).bind (fun u=>(fM a (.loc B)).bind fun v=>iW (cB 7 a) u v)=_
  rw [b hA,b hB]
  show fN (cB 7 a) ds []=_
  cases ds<;>rfl
 unfold aX
 rw [e]
 exact W_some
noncomputable def Sx (s:Str)(a:Hm):dD false (.str s) (.loc a.length) (a++[.lst [.str "h",.str "v",.str "o"]])=some (.bl (fJ s),a++[.lst [.str "h",.str "v",.str "o"]]):=by
 have h:(a++[C.lst [D.str "h",.str "v",.str "o"]])[a.length]? = some (.lst [.str "h",.str "v",.str "o"]):=bW _ _
 simp only [dD,h,mB,bQ,Uc]
 rfl
theorem Sy {t:Str}(c:CdT t)(hT:t.length<=100000){N O x4:Option D}{w:Hm}{a b l:Nat}(ha:w[a]? = some (.lst ((aE t).map D.str)))(hb:w[b]? = some (.dT []))(hl:w[l]? = some (.lst ((bK (bS t) (bP t) "lufr").map PP))) (Z:b≠l)(Y:b≠a){n:Nat}(hn:n<=b)(Q:Fl×aG×Hm->Prop)
  (H:∀ o j,w.take n <+: j->j[b]? = some (.dT (bX (b9 (mR (aE t))) (fK (bS t) (bP t) (aE t))))->Q (.nx,[N,some (.loc a),O,some (.loc b),o],j)) :
  W (fA (gG (.loc l)) (eF 4) (a9 (aO (aB (dD false) (aB aH (aB aH (aA 1) (aB aH (aA 4) (mC (.int 1)))) (aB aH (aA 4) (mC (.int 0)))) (dG (aC (mC (.str "h")) (aC (mC (.str "v")) (aC (mC (.str "o")) aD)))))) (jA (aA 3) (aA 4) (aB aH (aB aH (aA 1) (aB aH (aA 4) (mC (.int 1)))) (aB aH (aA 4) (mC (.int 0))))) a8) (((bK (bS t) (bP t) "lufr").map PP).length+1) 0 [N,some (.loc a),O,some (.loc b),x4] w) Q:=by
 have L:=c.sz
 have lE:=uT (w:=bS t) (h:=bP t) L.1.2 L.2.2 "lufr"
 have nd:=F4 L.1 L.2
 have hal:a<w.length:=(S2.mp ha).1
 have hll:l<w.length:=(S2.mp hl).1
 have hbl':b<w.length:=(S2.mp hb).1
 refine EM (fun i R j=>(∃ o,R=[N,some (.loc a),O,some (.loc b),o])/\w.take n <+: j/\j[a]? = some (.lst ((aE t).map D.str))/\j[l]? = some (.lst ((bK (bS t) (bP t) "lufr").map PP))/\j[b]? = some (.dT (bX (b9 (mR (aE t))) (((bK (bS t) (bP t) "lufr").take i).filter fun e=>fJ (dU (aE t) e))))) ⟨⟨x4,rfl⟩,Y3 _ _,ha,hl,by rw [Xv];exact hb⟩ (fun i R j h=>h.2.2.2.1) ?_ ?_
 ·rintro i d R j hd ⟨⟨o,rfl⟩,T,U,h3,K⟩
  rw [Uo] at hd
  obtain ⟨e,G,rfl⟩:=SY.mp hd
  have he:=TQ G
  obtain ⟨hb',hk⟩:=uR he
  refine ⟨_,rfl,?_⟩
  simp only [S8,Ta]
  have hR:=Ga t
  have hy:(aE t)[e.2.toNat]? = some ((aE t).getD e.2.toNat ""):=by
   rw [Tz,S1 (by omega)]
   rfl
  have rl:=c.r _ (TQ hy)
  have wz:=Aw c.w
  obtain ⟨ch,hc1,hc2⟩:=Sw (z:=(aE t).getD e.2.toNat "") (i:=e.1) (by omega) (by rw [rl];have:bS t=(bU t:Int) / 4:=rfl;omega)
  have sg:∀ {E:aG}{s:Hm}{I:D×Hm->Prop},E=[N,some (.loc a),O,some (.loc b),some (PP e)]->s[a]? = some (.lst ((aE t).map D.str))->(W (aB aH (aB aH (aA 1) (aB aH (aA 4) (mC (.int 1)))) (aB aH (aA 4) (mC (.int 0))) E s) I↔I (.str (dU (aE t) e),s)):=fun {E s I} hρ hμ=>by
   subst hρ
   simp only [aS,aF,aJ,aL,PP,gK,g8]
   rw [dP hμ (iQ (by omega) (by rw [Uo,hy];rfl)),Fg (by rw [TM,rl];have:=m8 (rX t);omega) hc1]
   show _↔I (.str (d8 _ _ _),s)
   rw [hc2]
  rw [b7,b8,show ∀ (A B:ME)(r:aG)(m:Hm),aB (dD false) A B r m=((A r m).bind fun p=>(B r p.2).bind fun q=>dD false p.1 q.1 q.2) from fun _ _ _ _=>rfl,W_bind,sg rfl U,W_bind]
  simp only [fG,aP,aM,aL]
  refine ⟨by show (3:Nat)<=Td;decide,?_⟩
  rw [Sx,W_some]
  have M:=bO j (C.lst [D.str "h",.str "v",.str "o"])
  have x:=T.trans M
  have u:=bA M U
  have y:=bA M h3
  have v:=bA M K
  generalize j++[C.lst [D.str "h",.str "v",.str "o"]]=s at x u y v
  have et:(bK (bS t) (bP t) "lufr").take (i+1)=(bK (bS t) (bP t) "lufr").take i++[e]:=by rw [a1W,G];rfl
  dsimp only
  rw [et,Xw]
  cases hm:fJ (dU (aE t) e) with
  | false=>
   rw [if_neg (by decide),cE,Wq,hm]
   simp only [S6,if_false,a1R,UK]
   exact ⟨⟨_,rfl⟩,x,u,y,v⟩
  | true=>
   rw [if_pos rfl]
   rw [Wq,hm]
   simp only [if_true,a1R]
   have hne:e∉((bK (bS t) (bP t) "lufr").take i).filter fun e=>fJ (dU (aE t) e):=fun z=>by
    have z:=(V2.mp z).1
    have n1:=nd.sublist (Vp (i+1) _)
    rw [et,Wf] at n1
    exact n1.2.2 e z e (TC ..) rfl
   refine w_mPut.mpr ?_
   simp only [aF,aJ]
   rw [sg rfl u]
   refine (Fd v (Ah e) ?_).mpr ?_
   ·unfold bX
    rw [S3]
    have:=Vz (fun e=>fJ (dU (aE t) e)) ((bK (bS t) (bP t) "lufr").take i)
    have:=List.length_take_le i (bK (bS t) (bP t) "lufr")
    rw [TM]
    have:=List.length_take_le' i (bK (bS t) (bP t) "lufr")
    omega
   ·have hmr:D.str (dU (aE t) e)=b9 (mR (aE t)) e:=by
     show _=D.str (mR (aE t) e)
     unfold mR
     rw [if_pos hm]
    rw [hmr,FD hne]
    have X:b<s.length:=(S2.mp v).1
    refine ⟨⟨_,rfl⟩,kJ x (by rw [TR];omega) _,?_,?_,?_⟩
    ·rw [TY Y];exact u
    ·rw [TY Z];exact y
    ·rw [Ue X]
 ·rintro R j ⟨⟨o,rfl⟩,T,U,h3,K⟩
  rw [S3,List.take_length] at K
  exact H o j T K
theorem Sz (k:Nat){t:Str}(hT:t.length<=100000)(p:Hm)(Q:D×Hm->Prop)(H1:dZ t->iS t=t->∀ e,p <+: e->Q (rW t,e))(X:¬ (dZ t/\iS t=t)->∀ e,p <+: e->Q (.non,e)):W (f (k+4) "_law_read_here" [.str t] p) Q:=by
 rw [QM,cD,aN]
 have sp:∀ {Q':Fl×aG×Hm->Prop},Q' (.nx,[some (.str t),some (.loc p.length),none,none,none],p++[.lst ((aE t).map D.str)])->W (aW 1 (dJ fF (aA 0) (aC (mC (.str "\n")) aD)) [some (.str t),none,none,none,none] p) Q':=fun q=>(Av hT).mpr q
 refine sp ?_
 have Z:=bW p (C.lst ((aE t).map D.str))
 have pa:=bO p (C.lst ((aE t).map D.str))
 have la:p.length<(p++[C.lst ((aE t).map D.str)]).length:=by simp
 generalize p++[C.lst ((aE t).map D.str)]=μ1 at Z pa la
 generalize p.length=a at Z la
 replace H1:dZ t->iS t=t->∀ e,μ1 <+: e->Q (rW t,e):=fun h1 h2 e A=>H1 h1 h2 e (pa.trans A)
 replace X:¬ (dZ t/\iS t=t)->∀ e,μ1 <+: e->Q (.non,e):=fun h e A=>X h e (pa.trans A)
 clear sp pa
 have lr:=m8 (rX t)
 have ln:=Si t
 rw [aN]
 simp only [bN,fG,aS,aY,aP,aM,aF,aJ,aL]
 refine (dP Z (iQ (by decide) (by rw [Uo];show ((aE t)[0]?).map D.str=_;rw [Au];rfl))).mpr ?_
 rw [u1 (by rw [TM];omega)]
 refine (o9 Z).mpr ⟨kM,?_⟩
 rw [S3]
 simp only [S8,Ta]
 have T:=bW μ1 (C.lst [D.int (bU t),.int (aE t).length])
 have pb:=bO μ1 (C.lst [D.int (bU t),.int (aE t).length])
 show W (aR _ _ [some (.str t),some (.loc a),some (.loc μ1.length),none,none] (μ1++[C.lst [D.int (bU t),.int (aE t).length]])) _
 have I:=bA pb Z
 have lb:a<μ1.length:=la
 have O:μ1.length<(μ1++[C.lst [D.int (bU t),.int (aE t).length]]).length:=by simp
 generalize μ1++[C.lst [D.int (bU t),.int (aE t).length]]=μ2 at T pb I O
 generalize hbd:μ1.length=b at T lb O
 rw [aN,b7]
 simp only [b8,aS]
 refine iO (xs:=[D.int (bU t),.int (aE t).length]) (p:=fun d=>!eK (eM d)) (v:=fun d=>d) ?_
 simp only [iN,aF,aJ]
 refine (kK T).mpr ⟨mZ T,rfl,by show (2:Nat)<=Td;decide,fun d e hd A=>?_,fun d e hd _ A=>?_,fun i p3 Y=>?_⟩
 ·obtain ⟨n,rfl⟩:∃ n:Int,d=.int n:=by
   rcases TN.mp hd with rfl|hd
   ·exact ⟨_,rfl⟩
   ·rcases Ud.mp hd with rfl
    exact ⟨_,rfl⟩
  simp only [TU,Ub,oY,b8,aS,aF,aJ,aL,pH,o6,rL,EL]
  show (if (!(n % 4 == 1))=true then _ else _)
  unfold eM eK
  dsimp only
  by_cases E:n % 4=1
  ·by_cases c2:n<5
   ·rw [if_neg (by rw [E];decide),if_pos (by simpa using c2)]
    refine ⟨?_,TB _⟩
    simp [E];omega
   ·rw [if_neg (by rw [E];decide),if_neg (by simpa using c2)]
    refine ⟨?_,TB _⟩
    by_cases c3:25<n
    ·simp [E,c3]
    ·simp [E,c3];omega
  ·rw [if_pos (by simpa using E)]
   refine ⟨?_,TB _⟩
   simp [E]
 ·simp only [TU,Ub,aF,aJ]
  exact ⟨trivial,TB _⟩
 simp only [fG,aM]
 refine ⟨UD _,?_⟩
 have m:=p3.trans (bO i (C.lst []))
 refine (Gi (bA (bO i _) Y) (bW _ _)).mpr ?_
 have G:([D.int (bU t),.int (aE t).length].filter fun d=>!eK (eM d)).map (fun d=>d)=[]↔eK (bU t)=true/\eK (aE t).length=true:=by
  rw [Ww,Z4]
  constructor
  ·intro z
   have B:=z (D.int (bU t)) (TC ..)
   have U:=z (D.int (aE t).length) (Tu _ (TC ..))
   unfold eM at B U
   dsimp only at B U
   simp at B U
   exact ⟨B,U⟩
  ·rintro ⟨B,U⟩ d hd
   rcases TN.mp hd with rfl|hd
   ·show ¬ (!eK (bU t))=true
    rw [B];decide
   ·rcases Ud.mp hd with rfl
    show ¬ (!eK (aE t).length)=true
    rw [U];decide
 by_cases N:¬ (eK (bU t)=true/\eK (aE t).length=true)
 ·have:([D.int (bU t),.int (aE t).length].filter fun d=>!eK (eM d)).map (fun d=>d)≠[]:=fun z=>N (G.mp z)
  cases hl:(([D.int (bU t),.int (aE t).length].filter fun d=>!eK (eM d)).map (fun d=>d)) with
  | nil=>exact absurd hl this
  | cons x y=>
   simp only [a1u,Vt,if_true,bD,aL]
   exact X (fun z=>N ⟨(Ax z.1 z.2).w,(Ax z.1 z.2).h⟩) _ (pb.trans m)
 replace N:=Z5.mp N
 rw [G.mpr N]
 simp only [a1E,UA,S6,if_false,cE]
 have s:=bA m I
 have u:=bA m T
 have w:=pb.trans m
 have lb4:b<(i++[C.lst []]).length:=by
  have:=m.length_le
  omega
 generalize i++[C.lst []]=μ4 at s u w lb4
 clear Y p3 m G pb I T O i
 rw [aN,b7]
 simp only [b8,aS]
 refine iO (xs:=(aE t).map D.str) (p:=fun d=>match d with|.str r=>!decide (r.length=bU t)|_=>false) (v:=fun d=>d) ?_
 simp only [iN,aF,aJ]
 refine (kK s).mpr ⟨mZ s,rfl,by rw [S3,TM];omega,fun d e hd A=>?_,fun d e hd _ A=>?_,fun i p3 Y=>?_⟩
 ·obtain ⟨r,j,rfl⟩:=Tp.mp hd
  have:=m8 j
  simp only [TU,Ub,b8,aS,aY,aP,aM,aF,aJ,aL]
  rw [u1 (by rw [TM];omega),dP (bA A u) (show atI [D.int (bU t),.int (aE t).length] 0=some (.int (bU t)) from rfl),o6]
  refine ⟨?_,TB _⟩
  by_cases z:r.length=bU t
  ·rw [z];simp
  ·have:¬ ((r.length:Int)=(bU t:Int)):=by omega
   simp [z,this]
 ·simp only [TU,Ub,aF,aJ]
  exact ⟨trivial,TB _⟩
 simp only [fG,aM]
 refine ⟨UD _,?_⟩
 have m:=p3.trans (bO i (C.lst []))
 refine (Gi (bA (bO i _) Y) (bW _ _)).mpr ?_
 have G:(((aE t).map D.str).filter fun d=>match d with|.str r=>!decide (r.length=bU t)|_=>false).map (fun d=>d)=[]↔∀ r∈aE t,r.length=bU t:=by
  rw [Ww,Z4]
  constructor
  ·intro z r j
   have B:=z (D.str r) (Tp.mpr ⟨r,j,rfl⟩)
   simpa using B
  ·intro z d hd
   obtain ⟨r,j,rfl⟩:=Tp.mp hd
   simp [z r j]
 by_cases j:¬ ∀ r∈aE t,r.length=bU t
 ·have:(((aE t).map D.str).filter fun d=>match d with|.str r=>!decide (r.length=bU t)|_=>false).map (fun d=>d)≠[]:=fun z=>j (G.mp z)
  cases hl:((((aE t).map D.str).filter fun d=>match d with|.str r=>!decide (r.length=bU t)|_=>false).map (fun d=>d)) with
  | nil=>exact absurd hl this
  | cons x y=>
   simp only [a1u,Vt,if_true,bD,aL]
   exact X (fun z=>j (Ax z.1 z.2).r) _ (w.trans m)
 replace j:=Z5.mp j
 rw [G.mpr j]
 simp only [a1E,UA,S6,if_false,cE]
 have c:CdT t:=⟨N.1,N.2,j⟩
 have v:=c.sz
 have M:=u4 v.1 v.2 (aE t)
 have ga5:=bA m s
 have K:=bA m u
 have R:=w.trans m
 have lb5:b<(i++[C.lst []]).length:=by
  have:=m.length_le
  omega
 generalize i++[C.lst []]=μ5 at ga5 K R lb5
 clear Y p3 m G w s u lb4 i
 rw [aN]
 simp only [bN,uK,S8,Ta]
 have gd:=bW μ5 (C.dT [])
 have pd:=bO μ5 (C.dT [])
 have ga6:=bA pd ga5
 have gb6:=bA pd K
 rw [aN,jG]
 simp only [iN,aY,aP,aM,aS,aF,aJ,aL]
 rw [dP gb6 (show atI [D.int (bU t),.int (aE t).length] 0=some (.int (bU t)) from rfl),kL,dP gb6 (show atI [D.int (bU t),.int (aE t).length] 1=some (.int (aE t).length) from rfl),kL]
 refine Fu (k+1) (bS t) (bP t) "lufr" v.1 v.2 _ _ fun l μ6 p6 gl ll=>?_
 refine (kK gl).mpr ?_
 have lab:b<μ5.length:=lb5
 have hl5:μ5.length≠l:=by
  have h5:(μ5++[C.dT []]).length=μ5.length+1:=by simp
  have ll:(μ5++[C.dT []]).length<=l:=ll
  omega
 refine Sy c hT (n:=μ5.length) (bA p6 ga6) (bA p6 gd) gl hl5 (by omega) (Th _) _ fun o μ7 p7 g7=>?_
 have H:μ5 <+: μ7:=by
  have:μ6.take μ5.length=μ5:=by
   obtain ⟨r,j⟩:=pd.trans p6
   rw [<- j,a1P]
   rfl
  rw [this] at p7
  exact p7
 have L:=bA H K
 rw [aN,b7]
 simp only [b8,aS,aY,aP,aM,aF,aJ,aL]
 rw [dP L (show atI [D.int (bU t),.int (aE t).length] 0=some (.int (bU t)) from rfl),kL,dP L (show atI [D.int (bU t),.int (aE t).length] 1=some (.int (aE t).length) from rfl),kL]
 refine uZ k (eZ v.1) (eZ v.2) M.ok M.nd g7 _ fun μ8 p8=>?_
 rw [Gd]
 by_cases he:iS t=t
 ·rw [show (cY ((bU t:Int) / 4) (((aE t).length:Int) / 4) (vW (mR (aE t)) (fK (bS t) (bP t) (aE t))) == t)=true from beq_iff_eq.mpr he]
  simp only [UA,S6,if_false,cE,bD,jF,aP,aM,aS,aF,aJ,aL]
  have gb8:=bA p8 L
  rw [dP gb8 (show atI [D.int (bU t),.int (aE t).length] 0=some (.int (bU t)) from rfl),kL,dP gb8 (show atI [D.int (bU t),.int (aE t).length] 1=some (.int (aE t).length) from rfl),kL]
  rw [Sg (bA p8 g7) (fun Q=>by simp only [aF,aJ]),Sk v.1 v.2]
  exact ⟨by show (3:Nat)<=Td;decide,H1 v he _ (R.trans (H.trans p8))⟩
 ·rw [show (cY ((bU t:Int) / 4) (((aE t).length:Int) / 4) (vW (mR (aE t)) (fK (bS t) (bP t) (aE t))) == t)=false from beq_eq_false_iff_ne.mpr he]
  simp only [Vt,if_true,bD,aL]
  exact X (fun z=>he z.2) _ (R.trans (H.trans p8))
noncomputable def wt (R:List Str):Nat:=(R.map fun s=>s.length+1).sum
theorem lG (A B:List Str):wt (A++B)=wt A+wt B:=by unfold wt;rw [UI,List.sum_append]
theorem Gj {A B:List Str}(h:A.Sublist B):wt A<=wt B:=by
 induction h with
 | slnil=>exact Th _
 | cons a _ b=>exact Uk b (by unfold wt;rw [S7,VQ];omega)
 | cons_cons a _ b=>unfold wt at b ⊢;rw [S7,VQ,S7,VQ];omega
theorem Ay {R:List Str}{x:Str}(h:x∈R):wt [x]<=wt R:=Gj (List.singleton_sublist.mpr h)
theorem u9:∀ R:List Str,R.length<=wt R
 | []=>Th _
 | s::R=>by
  have:=u9 R
  unfold wt at this ⊢
  rw [S7,VQ,Tw]
  omega
theorem Az:∀ R:List Str,wt R=(R.map fun s=>s.length).sum+R.length
 | []=>rfl
 | s::R=>by
  have:=Az R
  unfold wt at this ⊢
  rw [S7,VQ,S7,VQ,Tw,this]
  omega
theorem SA (t:Str):wt (aE t)=t.length+1:=by
 rw [Az]
 have:=Ar t
 have:=Aq t
 omega
noncomputable def lH (R:List Str)(lo a:Option Int):List Str:=(R.drop (HT.sIx R.length 0 lo)).take (HT.sIx R.length R.length a - HT.sIx R.length 0 lo)
theorem SD (R:List Str)(lo a:Option Int):gD (R.map D.str) lo a=(lH R lo a).map D.str:=by
 unfold gD lH
 rw [S3,Yx,Yy]
theorem SE (R:List Str)(lo a:Option Int):wt (lH R lo a)<=wt R:=Gj ((Vp _ _).trans (Wg _ _))
theorem vA (z:Str)(lo a:Option Int):(d8 z lo a).length<=z.length:=by
 rw [m7,m7 z]
 unfold d8
 rw [TR,Uh]
 omega
theorem SF {b:Hm}{a:Nat}{R:List Str}{Q:D×Hm->Prop}(h:b[a]? = some (.lst (R.map D.str)))(hw:wt R<=100000)(H:∀ t':Str,t'.length<=wt R->Q (.str t',b)):W (fD (.str "\n") [.loc a] b) Q:=by
 have e:(Ui "\n" R).length<=wt R:=by
  rw [a0b,Az,show ("\n":Str).length=1 from rfl]
  omega
 refine (Ff h ?_ ?_).mpr (H _ e)
 ·rw [a0U,An]
  unfold Wh
  have:wt R=(R.map fun s=>s.length+("\n":Str).length).sum:=rfl
  rw [TM]
  exact decide_eq_false (by omega)
 ·rw [TM];omega
theorem rY {R A:List Str}{X Y:ME}{j:aG}{i:Hm}{Q:D×Hm->Prop}{B:List Str}(hA:wt A<=50000)(hB:wt B<=50000)(p:∀ h:D×Hm->Prop,(∀ a d,i <+: d->d[a]? = some (.lst (A.map D.str))->h (.loc a,d))->W (X j i) h)
  (q:∀ e,i <+: e->∀ h:D×Hm->Prop,(∀ b d,e <+: d->d[b]? = some (.lst (B.map D.str))->h (.loc b,d))->W (Y j e) h)(H:∀ c d,i <+: d->d[c]? = some (.lst ((A++B).map D.str))->Q (.loc c,d)):W (aB bM X Y j i) Q:=by
 rw [aS]
 refine p _ fun a e l n=>?_
 refine q e l _ fun b r m o=>?_
 have:=u9 A
 have:=u9 B
 refine (uJ (bA m n) o (by rw [S3,S3,TM];omega)).mpr ?_
 refine H _ _ (l.trans (m.trans (bO _ _))) ?_
 rw [UI]
 exact bW _ _
theorem pL {R:List Str}{lo m:MO}{l h:Option Int}{e:aG}{c:Hm}{a:Nat}(n:e[3]? = some (some (.loc a)))(g:c[a]? = some (.lst (R.map D.str)))(j:lo e c=some (l,c))(i:m e c=some (h,c))(Q:D×Hm->Prop)
  (H:∀ b d,c <+: d->d[b]? = some (.lst ((lH R l h).map D.str))->Q (.loc b,d)):W (cI (aA 3) lo m e c) Q:=by
 refine P9 ?_
 rw [uQ n]
 refine ⟨a,rfl,?_⟩
 rw [j,W_some,i,W_some]
 refine ⟨_,g,H _ _ (bO _ _) ?_⟩
 rw [SD]
 exact bW _ _
theorem Gk {R:List Str}{e:ME}{v:Str->Str}{i:aG}{h:Hm}{a:Nat}(o:i[3]? = some (some (.loc a)))(g:h[a]? = some (.lst (R.map D.str)))(p:wt R<=100000)(l:∀ r c,r∈R->W (e (i++[some (.str r)]) c) fun s=>s.1=.str (v r)/\c <+: s.2)(Q:D×Hm->Prop)
  (H:∀ b c,h <+: c->c[b]? = some (.lst ((R.map v).map D.str))->Q (.loc b,c)):W (dH (dN (aA 3)) eV e i h) Q:=by
 refine iO (xs:=R.map D.str) (p:=fun _=>true) (v:=fun d=>match d with|.str r=>.str (v r)|d=>d) ?_
 rw [iN,uQ o]
 have:=u9 R
 refine (kK g).mpr ⟨mZ g,rfl,by rw [S3,TM];omega,fun d c _ _=>w_mTrue.mpr ⟨rfl,TB _⟩,fun d c hd _ j=>?_,fun c j m=>?_⟩
 ·obtain ⟨r,n,rfl⟩:=Tp.mp hd
  exact l r c n
 ·refine H _ c j ?_
  rw [m,Xk.mpr (fun _ _=>rfl),T8,T8]
  rfl
theorem AA {v:Str->Str}:∀ {R:List Str},(∀ r∈R,(v r).length<=2 * r.length)->wt (R.map v)<=2 * wt R
 | [],_=>UD _
 | s::R,h=>by
  have b:=AA (R:=R) fun r a=>h r (Tu _ a)
  have:=h s (TC ..)
  unfold wt at b ⊢
  rw [S7,S7,VQ,S7,VQ]
  omega
theorem kQ (x y:Str):(x++y).length=x.length+y.length:=by
 rw [m7,m7 x,m7 y,Al,Te]
theorem SG (k:Nat){t:Str}(ht:t.length<=14000){u n:Int}(hw:u=3\/u=4\/u=5\/u=6\/u=7)(K:Hm)(Q:D×Hm->Prop)(H:∀ t':Str,t'.length<=4 * t.length+4->∀ d,K <+: d->Q (.str t',d)):W (f (k+1) "_law_row_spoiled" [.str t,.int u,.int n] K) Q:=by
 have hp:=Aq t
 have hwt:=SA t
 rw [QK,cD,aN,bN]
 refine m3 ?_
 simp only [aF,aP,aM,aL]
 refine ⟨_,rfl,(u3 (by omega)).mpr ?_⟩
 simp only [S8,Ta]
 have q:=bW K (C.lst ((aE t).map D.str))
 have p1:=bO K (C.lst ((aE t).map D.str))
 generalize K++[C.lst ((aE t).map D.str)]=μ1 at q p1
 generalize K.length=a at q
 rw [aN]
 simp only [bN,aS,aY,aP,aM,aF,aJ]
 refine (o9 q).mpr ?_
 rw [S3,fZ (by omega)]
 simp only [S8,Ta]
 have i0:0<=n % ((aE t).length:Int):=VL _ (by omega)
 have i1:n % ((aE t).length:Int)<(aE t).length:=Vg _ (by omega)
 generalize n % ((aE t).length:Int)=i at i0 i1
 have fin:∀ {U:List Str}{b:Nat}{d:Hm},μ1 <+: d->d[b]? = some (.lst (U.map D.str))->wt U<=4 * wt (aE t)->W (dJ fD (mC (.str "\n")) (aC (aA 3) aD) [some (.str t),some (.int u),some (.int n),some (.loc b),some (.int i)] d) fun p=>Q (p.1,p.2):=fun {U b d} pp gg ww=>by
  refine m3 ?_
  simp only [aL,aP,aM,aF,aJ]
  exact ⟨_,rfl,SF gg (by omega) fun t' h'=>H t' (by omega) _ (p1.trans pp)⟩
 have s:∀ {j:Int},0<=j->j<(aE t).length->∃ r,r∈aE t/\atI ((aE t).map D.str) j=some (.str r):=fun {j} h0 I=>by
  have hj:j.toNat<(aE t).length:=by omega
  exact ⟨_,VA hj,iQ h0 (by rw [Uo,S1 hj];rfl)⟩
 have le:=SE (aE t)
 have e:∀ {A B:ME}{m:MS}{x y:Int}{o:aG}{d:Hm}{R:Fl×aG×Hm->Prop},(x == y)=false->A o d=some (.int x,d)->B o d=some (.int y,d)->R (.nx,o,d)->W (a9 (aO (aB (aX false) A B)) m a8 o d) R:=fun {A B m x y o d R} I L M N=>by
  rw [b7,b8,aS,L,W_some,M,W_some,iM,I]
  simp only [S6,if_false,cE]
  exact N
 have E:∀ {A B:ME}{m:MS}{x y:Int}{o:aG}{d:Hm}{R:Fl×aG×Hm->Prop},(x == y)=true->A o d=some (.int x,d)->B o d=some (.int y,d)->W (m o d) R->W (a9 (aO (aB (aX false) A B)) m a8 o d) R:=fun {A B m x y o d R} I L M N=>by
  rw [b7,b8,aS,L,W_some,M,W_some,iM,I]
  simp only [if_true]
  exact N
 have z:∀ {A B:ME}{T:MT}{m:MS}{x y:Int}{o:aG}{d:Hm}{R:Fl×aG×Hm->Prop},(x == y)=false->A o d=some (.int x,d)->B o d=some (.int y,d)->R (.nx,o,d)->W (a9 (dF (aO (aB (aX false) A B)) T) m a8 o d) R:=fun {A B T m x y o d R} I L M N=>by
  rw [b7,oX,b8,aS,L,W_some,M,W_some,iM,I]
  simp only [S6,if_false,cE]
  exact N
 rcases hw with rfl|rfl|rfl|rfl|rfl
 ·rw [aN]
  refine E rfl rfl rfl ?_
  rw [bN]
  refine rY (R:=aE t) (by have:=le none (some i);omega) (by have:=le (some (i+1)) none;omega) (pL rfl q rfl rfl) (fun l h=>pL rfl (bA h q) rfl rfl) fun c l h w=>?_
  simp only [S8,Ta]
  rw [aN];refine e rfl rfl rfl ?_
  rw [aN];refine z rfl rfl rfl ?_
  rw [aN];refine e rfl rfl rfl ?_
  rw [aN];refine e rfl rfl rfl ?_
  rw [bD]
  refine fin h w ?_
  rw [lG]
  have:=le none (some i)
  have:=le (some (i+1)) none
  omega
 ·rw [aN];refine e rfl rfl rfl ?_
  rw [aN]
  refine E rfl rfl rfl ?_
  rw [bN]
  obtain ⟨r,v,X⟩:=s i0 i1
  have hm:=Ay v
  have l1:=le none (some i)
  have l2:=le (some i) none
  refine rY (R:=aE t) (A:=lH (aE t) none (some i)++[r]) (B:=lH (aE t) (some i) none) (by rw [lG];omega) (by omega) (fun Q' Z=>rY (R:=aE t) (by omega) (by omega) (pL rfl q rfl rfl) (fun l h Q2 G=>?_) Z) (fun l h=>pL rfl (bA h q) rfl rfl) fun c l h w=>?_
  ·simp only [fG,aP,aM,aS,aF,aJ]
   refine (dP (bA h q) X).mpr ⟨by show (1:Nat)<=Td;decide,?_⟩
   exact G _ _ (bO _ _) (bW _ _)
  ·simp only [S8,Ta]
   rw [aN];refine z rfl rfl rfl ?_
   rw [aN];refine e rfl rfl rfl ?_
   rw [aN];refine e rfl rfl rfl ?_
   rw [bD]
   refine fin h w ?_
   rw [lG,lG]
   omega
 ·rw [aN];refine e rfl rfl rfl ?_
  rw [aN];refine e rfl rfl rfl ?_
  rw [aN,b7,oX,b8]
  simp only [aS,aF,aJ,aL,iM,b8,EL]
  by_cases hi:0<i
  ·obtain ⟨r,v,X⟩:=s i0 i1
   obtain ⟨O,hr2,Y⟩:=s (j:=i - 1) (by omega) (by omega)
   have hm:=Ay v
   have hm2:=Ay hr2
   have l1:=le none (some (i - 1))
   have l2:=le (some (i+1)) none
   have w2:wt [r,O]=wt [r]+wt [O]:=lG [r] [O]
   rw [show ((5:Int) == 5)=true from rfl,decide_eq_true hi]
   simp only [if_true]
   rw [bN]
   refine rY (R:=aE t) (A:=lH (aE t) none (some (i - 1))++[r,O]) (B:=lH (aE t) (some (i+1)) none) (by rw [lG];omega) (by omega) (fun Q' Z=>rY (R:=aE t) (by omega) (by omega) (pL rfl q rfl rfl) (fun l h Q2 G=>?_) Z) (fun l h=>pL rfl (bA h q) rfl rfl) fun c l h w=>?_
   ·simp only [fG,aP,aM,aS,aF,aJ,aL,EK]
    rw [dP (bA h q) X,dP (bA h q) Y]
    exact ⟨kM,G _ _ (bO _ _) (bW _ _)⟩
   ·simp only [S8,Ta]
    rw [aN];refine e rfl rfl rfl ?_
    rw [aN];refine e rfl rfl rfl ?_
    rw [bD]
    refine fin h w ?_
    rw [lG,lG]
    omega
  ·rw [show ((5:Int) == 5)=true from rfl,decide_eq_false hi]
   simp only [if_true,S6,if_false,cE]
   rw [aN];refine e rfl rfl rfl ?_
   rw [aN];refine e rfl rfl rfl ?_
   rw [bD]
   exact fin (TB _) q (by omega)
 ·rw [aN];refine e rfl rfl rfl ?_
  rw [aN];refine e rfl rfl rfl ?_
  rw [aN];refine z rfl rfl rfl ?_
  rw [aN];refine E rfl rfl rfl ?_
  rw [bN]
  have lr:∀ r∈aE t,r.length<=14000:=fun r v=>Uk (m8 v) ht
  refine Gk (v:=fun r=>d8 r none (some 4)++r) rfl q (by omega) (fun r d v=>?_) _ fun b l h w=>?_
  ·have:=lr r v
   have:=vA r none (some 4)
   simp only [TU,Ub,aS]
   refine uX ?_
   simp only [aF,aJ,z9,rP,aL]
   refine ⟨_,rfl,by rw [TM];omega,?_⟩
   rw [m4 (by rw [TM];omega)]
   exact ⟨rfl,TB _⟩
  ·simp only [S8,Ta]
   rw [aN];refine e rfl rfl rfl ?_
   rw [bD]
   refine fin h w ?_
   have:=AA (v:=fun r=>d8 r none (some 4)++r) (R:=aE t) fun r _=>by
    have:=vA r none (some 4)
    rw [kQ]
    omega
   omega
 ·rw [aN];refine e rfl rfl rfl ?_
  rw [aN];refine e rfl rfl rfl ?_
  rw [aN];refine z rfl rfl rfl ?_
  rw [aN];refine e rfl rfl rfl ?_
  rw [aN];refine E rfl rfl rfl ?_
  rw [bN]
  have lr:∀ r∈aE t,r.length<=14000:=fun r v=>Uk (m8 v) ht
  refine Gk (v:=fun r=>d8 r (some 4) none) rfl q (by omega) (fun r d v=>?_) _ fun b l h w=>?_
  ·have:=lr r v
   simp only [TU,Ub]
   refine uX ?_
   simp only [aF,aJ,z9,rP,aL]
   exact ⟨_,rfl,by rw [TM];omega,rfl,TB _⟩
  ·simp only [S8,Ta]
   rw [bD]
   refine fin h w ?_
   have:=AA (v:=fun r=>d8 r (some 4) none) (R:=aE t) fun r _=>by
    have:=vA r (some 4) none
    omega
   omega
theorem SJ (k:Nat){t:Str}(U:t.length<=14000)(c:Int)(O:Hm)(Q:D×Hm->Prop)(H:∀ t':Str,t'.length<=4 * t.length+4->∀ a,O <+: a->Q (.str t',a)):W (f (k+2) "_law_spoiled" [.str t,.int c] O) Q:=by
 have N:t.length<=Td:=by rw [TM];omega
 rw [QL,cD,aN]
 simp only [bN,aS,aF,aJ,aL]
 rw [fZ (by decide)]
 simp only [S8,Ta]
 have Z:0<=c % 11:=VL _ (by decide)
 have w1:c % 11<11:=Vg _ (by decide)
 generalize c % 11=way at Z w1
 rw [aN]
 simp only [bN,aS,aF,aJ,aL]
 rw [mY (by decide) (by decide)]
 simp only [S8,Ta]
 generalize c / 11=n
 rw [aN]
 simp only [bN,aS,aF,aJ,aL]
 rw [fZ (by decide)]
 have Y:0<=n % 13:=VL _ (by decide)
 have m1:n % 13<13:=Vg _ (by decide)
 obtain ⟨s,v⟩:∃ s,atI (" .+-|hvoHxO_\n":Str).cps.toList (n % 13)=some s:=by
  have T:(n % 13).toNat<(" .+-|hvoHxO_\n":Str).cps.toList.length:=by
   rw [show (" .+-|hvoHxO_\n":Str).cps.toList.length=13 from rfl];omega
  exact ⟨_,iQ Y (S1 T)⟩
 rw [Fg (by show (13:Nat)<=Td;decide) v]
 simp only [S8,Ta]
 rw [aN]
 simp only [bN,aS,aY,aP,aM,aF,aJ,aL]
 rw [mY (by decide) (by decide),u1 N,gZ,fZ (by omega)]
 simp only [S8,Ta]
 generalize n / 13 % ((t.length:Int)+1)=i
 have l1:(⟨#[s]⟩:Str).length=1:=rfl
 have j:=vA t
 have o:∀ {lo w:MO}{l h:Option Int}{b:aG}{a:Hm}{R:D×Hm->Prop},b[0]? = some (some (.str t))->lo b a=some (l,a)->w b a=some (h,a)->R (.str (d8 t l h),a)->W (cI (aA 0) lo w b a) R:=fun {lo w l h b a R} X p q r=>by
  refine uX ?_
  rw [uQ X]
  refine ⟨_,rfl,?_⟩
  rw [p,W_some,q,W_some]
  exact ⟨N,r⟩
 have d:∀ {A B:ME}{m:MS}{x y:Int}{b:aG}{a:Hm}{R:Fl×aG×Hm->Prop},x≠y->A b a=some (.int x,a)->B b a=some (.int y,a)->R (.nx,b,a)->W (a9 (aO (aB (aX false) A B)) m a8 b a) R:=fun {A B m x y b a R} p q r u=>by
  rw [b7,b8,aS,q,W_some,r,W_some,iM,beq_eq_false_iff_ne.mpr p]
  simp only [S6,if_false,cE]
  exact u
 have e:∀ {A B:ME}{m:MS}{x y:Int}{b:aG}{a:Hm}{R:Fl×aG×Hm->Prop},x=y->A b a=some (.int x,a)->B b a=some (.int y,a)->W (m b a) R->W (a9 (aO (aB (aX false) A B)) m a8 b a) R:=fun {A B m x y b a R} p q r u=>by
  rw [b7,b8,aS,q,W_some,r,W_some,iM,beq_iff_eq.mpr p]
  simp only [if_true]
  exact u
 rw [aN]
 by_cases G:way=0
 ·refine e G rfl rfl ?_
  rw [bD,aS,aS]
  refine o rfl rfl rfl ?_
  simp only [aF,aJ]
  have z:=j none (some i)
  have E:=j (some (i+1)) none
  rw [m4 (by rw [TM];omega)]
  refine o rfl rfl rfl ?_
  rw [m4 (by rw [TM,kQ];omega)]
  exact H _ (by rw [kQ,kQ];omega) _ (TB _)
 refine d G rfl rfl ?_
 rw [aN]
 by_cases I:way=1
 ·refine e I rfl rfl ?_
  rw [bD,aS,aS]
  refine o rfl rfl rfl ?_
  simp only [aF,aJ]
  have z:=j none (some i)
  have E:=j (some i) none
  rw [m4 (by rw [TM];omega)]
  refine o rfl rfl rfl ?_
  rw [m4 (by rw [TM,kQ];omega)]
  exact H _ (by rw [kQ,kQ];omega) _ (TB _)
 refine d I rfl rfl ?_
 rw [aN]
 by_cases K:way=2
 ·refine e K rfl rfl ?_
  rw [bD,aS]
  refine o rfl rfl rfl ?_
  have z:=j none (some i)
  have E:=j (some (i+1)) none
  refine o rfl rfl rfl ?_
  rw [m4 (by rw [TM];omega)]
  exact H _ (by rw [kQ];omega) _ (TB _)
 refine d K rfl rfl ?_
 rw [aN]
 by_cases M:way=8
 ·refine e M rfl rfl ?_
  simp only [bD,aS,aF,aJ,aL]
  rw [m4 (by rw [TM,show ("\n":Str).length=1 from rfl];omega)]
  exact H _ (by rw [kQ,show ("\n":Str).length=1 from rfl];omega) _ (TB _)
 refine d M rfl rfl ?_
 rw [aN,b7,b8]
 simp only [aS,aF,aJ,aL,rL]
 by_cases L:way<8
 ·rw [decide_eq_true L]
  simp only [if_true,bD,aY,aP,aM,aF,aJ]
  exact SG k U (by omega) _ _ H
 ·rw [decide_eq_false L]
  simp only [S6,if_false,cE,bD,aF]
  exact H _ (by omega) _ (TB _)
theorem AB {w h:Int}(hw:1<=w/\w<=7)(b:1<=h/\h<=7){v:Int×Int->Str}(a:jI v):(cY w h v).length<=870:=
 RX (by decide) (by rw [lF];omega) (Ap hw.2 a)
theorem SK {w h:Int}(d:1<=h/\h<=7){v:Int×Int->Str}(c:jI v):aE (cY w h v)=eJ w h v (4 * h+1).toNat:=by
 refine FT (fun z=>?_) fun r a=>?_
 ·have b:=lF w h v (4 * h+1).toNat
  rw [z] at b
  have:(0:Nat)=(4 * h+1).toNat:=b
  omega
 ·unfold eJ at a
  obtain ⟨j,_,rfl⟩:=Tp.mp a
  exact FU (pJ c _)
theorem Gm {w h:Int}(hw:1<=w/\w<=7)(i:1<=h/\h<=7)(d:w=7\/h=7){v:Int×Int->Str}(c:jI v):¬ dZ (cY w h v):=fun z=>by
 have e:=SK (w:=w) i c
 rcases d with rfl|rfl
 ·have b:=rX (cY 7 h v)
  have a:=z.1.2
  unfold bS at a
  generalize (aE (cY 7 h v)).getD 0 "" = r at b a
  rw [e] at b
  unfold eJ at b
  obtain ⟨j,_,rfl⟩:=Tp.mp b
  rw [Am (pJ c _),uY] at a
  exact absurd a (by decide)
 ·have a:=z.2.2
  unfold bP at a
  rw [e,lF] at a
  exact absurd a (by decide)
theorem SM (ns:List Int):∃ a:List Int,a.length<=ns.length/\gD (ns.map D.int) (some 7) none=a.map D.int:=by
 refine ⟨(ns.drop (HT.sIx ns.length 0 (some 7))).take (HT.sIx ns.length ns.length none - HT.sIx ns.length 0 (some 7)),?_,?_⟩
 ·rw [TR,Uh];omega
 ·unfold gD
  rw [S3,Yx,Yy]
theorem vB:jI (vW (fun _=>"h") []):=rS (fun _=>.inr (.inr rfl)) []
theorem SN (k:Nat){w h:Int}(hw:1<=w/\w<=6)(n:1<=h/\h<=6){T:D}{e:Hm}{a b c:Nat}{xs v:List D}(o:e[a]? = some (.lst xs))(p:e[b]? = some (.dT []))(r:e[c]? = some (.lst v)) :
  ∀ d∈[D.non,.int 5,.bl true,.loc a,.tup [T],.loc b,.loc c,.str "",.str "+",.str "\n",.str "h",.str "+---+",.str "+\n|\n|\n|\n+"]++[D.str " ",.str ".\n.\n.\n.\n.",.str (cY 7 h (vW (fun _=>"h") [])),.str (cY w 7 (vW (fun _=>"h") []))],W (g (k+4) "read_sheet" [d] e) fun q=>q.1=nX/\e <+: q.2:=by
 intro d hd
 have j:∀ {s:String},jQ e d=some s->s ≠ "str"->W (g (k+4) "read_sheet" [d] e) fun q=>q.1=nX/\e <+: q.2:=fun {s} l m=>by
  refine Su (k+1) ?_
  show (jQ e d).bind (fun t=>(pY t "str").map fun b=>(D.bl b,e))=_
  rw [l]
  show some (D.bl (s == "str"),e)=_
  rw [beq_eq_false_iff_ne.mpr m]
 have i:∀ {t:Str},d=.str t->t.length<=100000->¬ dZ t->W (g (k+4) "read_sheet" [d] e) fun q=>q.1=nX/\e <+: q.2:=fun {t} l m u=>by
  subst l
  exact Gg k m (fun z=>u z.1) e
 simp only [TU,Ub,TN,List.not_mem_nil,or_false] at hd
 rcases hd with h|h|h|h|h|h|h|h|h|h|h|h|h|h|h|h|h
 ·exact j (s:="NoneType") (by rw [h];rfl) (by decide)
 ·exact j (s:="int") (by rw [h];rfl) (by decide)
 ·exact j (s:="bool") (by rw [h];rfl) (by decide)
 ·exact j (s:="list") (by rw [h];simp only [jQ,o]) (by decide)
 ·exact j (s:="tuple") (by rw [h];rfl) (by decide)
 ·exact j (s:="dict") (by rw [h];simp only [jQ,p]) (by decide)
 ·exact j (s:="list") (by rw [h];simp only [jQ,r]) (by decide)
 ·exact i h (by decide +kernel) (by decide +kernel)
 ·exact i h (by decide +kernel) (by decide +kernel)
 ·exact i h (by decide +kernel) (by decide +kernel)
 ·exact i h (by decide +kernel) (by decide +kernel)
 ·exact i h (by decide +kernel) (by decide +kernel)
 ·exact i h (by decide +kernel) (by decide +kernel)
 ·exact i h (by decide +kernel) (by decide +kernel)
 ·exact i h (by decide +kernel) (by decide +kernel)
 ·exact i h (Uk (AB (by decide) (eZ n) vB) (by decide)) (Gm (by decide) (eZ n) (.inl rfl) vB)
 ·exact i h (Uk (AB (eZ hw) (by decide) vB) (by decide)) (Gm (eZ hw) (by decide) (.inr rfl) vB)
theorem SO (k:Nat)(ns:List Int)(hns:ns.length<=63)(μ:Hm):W (f (k+6) "law" [.rol (ns.map D.int)] μ) fun r=>r.1=.bl true:=by
 rw [QV,cD,aN]
 simp only [bN,aY,aP,aM,aF,aJ,aL]
 refine uN _ ns 0 (by decide) _ _ fun μ1 p1=>?_
 refine FG _ _ _ _ fun μ2 p2=>?_
 simp only [S8,Ta]
 rw [aN]
 simp only [bN,aY,aP,aM,aF,aJ,aL]
 refine uN _ ns 1 (by decide) _ _ fun μ3 p3=>?_
 refine FG _ _ _ _ fun μ4 p4=>?_
 simp only [S8,Ta]
 have hw:=FF (cell ns 0)
 have A:=FF (cell ns 1)
 generalize lD (cell ns 0)=w at hw
 generalize lD (cell ns 1)=h at A
 rw [aN]
 simp only [bN,aY,aP,aM,aF,aJ]
 refine Fb ?_
 simp only [aF]
 refine ⟨_,rfl,?_⟩
 simp only [rP,z9,aL]
 obtain ⟨ms,lm,O⟩:=SM ns
 rw [O]
 refine RL (k+2) hw A (ns:=ms) (by omega) (bW _ _) _ fun a4 ps m μ6 p6 l6 M Q=>?_
 simp only [S8,Ta]
 have U:=rS M.ok ps
 rw [aN]
 simp only [bN,aY,aP,aM,aF,aJ]
 refine uZ (k+2) (eZ hw) (eZ A) M.ok M.nd Q _ fun μ7 p7=>?_
 simp only [S8,Ta]
 have Y:=AB (eZ hw) (eZ A) U
 generalize cY w h (vW m ps)=t at Y
 clear U Q M p6 l6 p7 O
 rw [aN]
 simp only [bN,aY,aP,aM,aF,aJ,aL]
 refine uN _ ns 2 (by decide) _ _ fun y p8=>?_
 simp only [S8,Ta]
 generalize cell ns 2=ce
 rw [aN,b7,b8]
 simp only [aS,aF,aJ,aL,Fn,iM]
 cases hc:(ce % 6 == 1) with
 | true=>
  simp only [if_true]
  rw [aN]
  simp only [bN,fG,jF,aP,aM,aF,aJ,aL,uK]
  refine ⟨by show (1:Nat)<=Td;decide,by show (1:Nat)<=Td;decide,?_⟩
  refine m3 ?_
  simp only [aF,aJ,aP,aM,aL]
  refine ⟨_,rfl,(u3 (by omega)).mpr ⟨by show (13:Nat)<=Td;decide,?_⟩⟩
  simp only [S8,Ta]
  have q:=bW y (C.lst [D.str t])
  generalize ha:y.length=a at q
  generalize y++[C.lst [D.str t]]=n at q
  have v:=bW n (C.dT [])
  have q:=bA (bO n (C.dT [])) q
  generalize n.length=b at v
  generalize n++[C.dT []]=p at q v
  have z:=bW p (C.lst ((aE t).map D.str))
  have q:=bA (bO p (C.lst ((aE t).map D.str))) q
  have v:=bA (bO p (C.lst ((aE t).map D.str))) v
  generalize p.length=c at z
  generalize p++[C.lst ((aE t).map D.str)]=u at q v z
  have gl:=bW u (C.lst [D.non,.int 5,.bl true,.loc a,.tup [D.str t],.loc b,.loc c,.str "",.str "+",.str "\n",.str "h",.str "+---+",.str "+\n|\n|\n|\n+"])
  have K:=bO u (C.lst [D.non,.int 5,.bl true,.loc a,.tup [D.str t],.loc b,.loc c,.str "",.str "+",.str "\n",.str "h",.str "+---+",.str "+\n|\n|\n|\n+"])
  have q:=bA K q
  have v:=bA K v
  have z:=bA K z
  generalize u++[C.lst [D.non,.int 5,.bl true,.loc a,.tup [D.str t],.loc b,.loc c,.str "",.str "+",.str "\n",.str "h",.str "+---+",.str "+\n|\n|\n|\n+"]]=μC at gl q v z
  generalize u.length=l at gl
  rw [aN]
  simp only [bN,aS,fG,aY,aP,aM,aF,aJ,aL,uK]
  refine uZ (k+2) (w:=7) (by decide) (eZ A) (m:=fun _=>"h") (ps:=[]) (fun _=>.inr (.inr rfl)) Zy (bW _ _) _ fun μD pD=>?_
  refine uZ (k+2) (h:=7) (eZ hw) (by decide) (m:=fun _=>"h") (ps:=[]) (fun _=>.inr (.inr rfl)) Zy (bW _ _) _ fun E pE=>?_
  refine ⟨by show (4:Nat)<=Td;decide,?_⟩
  have G:=((bO _ _).trans pD).trans (((bO _ _).trans pE).trans (bO E (C.lst [D.str " ",.str ".\n.\n.\n.\n.",.str (cY 7 h (vW (fun _=>"h") [])),.str (cY w 7 (vW (fun _=>"h") []))])))
  refine (uJ (bA G gl) (bW _ _) (by show (17:Nat)<=Td;decide)).mpr ?_
  simp only [S8,Ta,bD,aY,aP,aM,aS,aF,aJ,aL]
  rw [mY (by decide) (by decide),fZ (by decide)]
  have X:0<=ce / 6 % 17:=VL _ (by decide)
  have j1:ce / 6 % 17<17:=Vg _ (by decide)
  generalize ce / 6 % 17=j at X j1
  have L:=bO (E++[C.lst [D.str " ",.str ".\n.\n.\n.\n.",.str (cY 7 h (vW (fun _=>"h") [])),.str (cY w 7 (vW (fun _=>"h") []))]]) (C.lst ([D.non,.int 5,.bl true,.loc a,.tup [D.str t],.loc b,.loc c,.str "",.str "+",.str "\n",.str "h",.str "+---+",.str "+\n|\n|\n|\n+"]++[D.str " ",.str ".\n.\n.\n.\n.",.str (cY 7 h (vW (fun _=>"h") [])),.str (cY w 7 (vW (fun _=>"h") []))]))
  have th:=SN k hw A (T:=.str t) (bA (G.trans L) q) (bA (G.trans L) v) (bA (G.trans L) z)
  obtain ⟨d,H,I⟩:∃ d,atI ([D.non,.int 5,.bl true,.loc a,.tup [D.str t],.loc b,.loc c,.str "",.str "+",.str "\n",.str "h",.str "+---+",.str "+\n|\n|\n|\n+"]++[D.str " ",.str ".\n.\n.\n.\n.",.str (cY 7 h (vW (fun _=>"h") [])),.str (cY w 7 (vW (fun _=>"h") []))]) j=some d/\d∈[D.non,.int 5,.bl true,.loc a,.tup [D.str t],.loc b,.loc c,.str "",.str "+",.str "\n",.str "h",.str "+---+",.str "+\n|\n|\n|\n+"]++[D.str " ",.str ".\n.\n.\n.\n.",.str (cY 7 h (vW (fun _=>"h") [])),.str (cY w 7 (vW (fun _=>"h") []))]:=by
   have T:j.toNat<([D.non,.int 5,.bl true,.loc a,.tup [D.str t],.loc b,.loc c,.str "",.str "+",.str "\n",.str "h",.str "+---+",.str "+\n|\n|\n|\n+"]++[D.str " ",.str ".\n.\n.\n.\n.",.str (cY 7 h (vW (fun _=>"h") [])),.str (cY w 7 (vW (fun _=>"h") []))]).length:=by
    show j.toNat<17
    omega
   exact ⟨_,iQ X (S1 T),VA T⟩
  refine (dP (bW _ _) H).mpr ?_
  exact Gh k (th d I) _ fun x _=>rfl
 | false=>
  simp only [S6,if_false,cE]
  rw [aN]
  simp only [jG,rM,aP,aM,aL]
  refine ⟨by decide,?_⟩
  refine o8 (lo:=3) (n:=3) (fun i N x=>∃ o s,N=[some (.rol (ns.map D.int)),some (.int w),some (.int h),some (.loc a4),some (.str s),some (.int ce),none,o,none]/\s.length<=[870,3484,13940,55764].getD i 0) ⟨none,t,rfl,Y⟩ ?_ ?_
  ·rintro i N x hi ⟨o,s,rfl,e⟩
   refine ⟨_,rfl,?_⟩
   simp only [S8,Ta,bN,aY,aP,aM,aF,aJ]
   refine uN _ ns (3+i) (by omega) _ _ fun n Z=>?_
   have R:s.length<=14000/\4 * s.length+4<=[870,3484,13940,55764].getD (i+1) 0:=by
    match i,hi,e with
    | 0,_,e=>have e:s.length<=870:=e;exact ⟨by omega,by show _<=3484;omega⟩
    | 1,_,e=>have e:s.length<=3484:=e;exact ⟨by omega,by show _<=13940;omega⟩
    | 2,_,e=>have e:s.length<=13940:=e;exact ⟨by omega,by show _<=55764;omega⟩
   refine SJ (k+3) R.1 _ _ _ fun t2 h2 p pA=>?_
   exact ⟨_,t2,rfl,Uk h2 R.2⟩
  ·rintro N x ⟨o,s,rfl,e⟩
   have e:s.length<=100000:=Uk e (by decide)
   rw [aN]
   simp only [bN,aY,aP,aM,aF,aJ]
   refine Sz (k+1) e _ _ (fun B he n Z=>?_) (fun hn n Z=>?_)
   ·simp only [S8,Ta]
    rw [aN]
    simp only [b7,b8,aS,aF,aJ,aL,Qb,S6,if_false,cE,bD,aY,aP,aM]
    refine Ss (k+1) e B he _ _ fun p pA=>?_
    refine Se (k+2) ?_ _ _ fun u pB=>rfl
    rw [Sf]
    have:=(u4 B.1 B.2 (aE s)).len B.1.2 B.2.2
    omega
   ·simp only [S8,Ta]
    rw [aN]
    simp only [b7,b8,aS,aF,aJ,aL,Qa,if_true,bD,aY,aP,aM]
    exact Gh k (Gg k e hn _) _ fun x _=>rfl
theorem SQ:∀ ns:List Int,ns.length<=63->∃ a,gY S ds 6 "law" [.rol (ns.map D.int)] []=some (.bl true,a):=fun ns b=>by
 obtain ⟨⟨d,a⟩,c,e⟩:=SO 0 ns b []
 dsimp only at e
 subst e
 refine ⟨a,?_⟩
 unfold f at c
 exact c
end Lw
namespace Lw
open PySem L2 L3
theorem xz (Q:VM):XcOk S (Kx Q):=PU (by kernel_rfl) (by kernel_rfl) (by kernel_rfl) (by kernel_rfl)
theorem dz (Q:VM):uG (Kx Q) ds:=by unfold uG;kernel_rfl
theorem cz (Q:VM):EG (Kx Q) S.con=true:=by kernel_rfl
theorem nz (Q:VM):S.no.map (Vm (Kx Q) Ux)=S.no.map fun _=>some none:=by kernel_rfl
theorem SR {P:Tt}{w:TV}{Q:VM}
  {h:Uw}{mg:Str → Option Value}(X:(Kx Q).In h)(G:h.Ns Ux mg):TxtOk P w (Kx Q) mg S ds ∧ ∃ f a,Fun (Kx Q) "law" "law" (aT 50) f a ∧ mg "law" = some (.ref f) ∧ ∀ (s:SX)(u:Value),YR s a ⟨[u],[]⟩ [("_law_script",u)]:=by
 refine ⟨⟨PF (by decide +kernel),PH fun p b=>(ED X G (dz Q) p b).1,PJ (PR X G (cz Q)),fun x c e=>?_,PL (PQ X G (nz Q)),xz Q,PK (by kernel_rfl) (by kernel_rfl)⟩,PN X G (dz Q) (by kernel_rfl) (by kernel_rfl)⟩
 ·cases e
end Lw
open PySem PySem.W PyProof.Rows
set_option maxRecDepth 100000 in
set_option maxHeartbeats 0 in
theorem PySem.Challenge.cw_creasecourt_k25_texts_refused_holds : PySem.Challenge.rw_creasecourt_k25_texts_refused.Holds := by
 w_on
 refine holds_law (by decide +kernel) fun a=>?_
 refine holds_open (q:=Lw.Vw) (loose:=[]) (Xt:=fun s=>xlAt Lw.Vw [] s&&recOk (a2w (a1s (UW S4))) s) (XP:=XL Lw.Vw []) (Yf:=Hook.obs (a3u Lw.Kx Lw.As Lw.pR)) (Ya:=Hook.val (a3u Lw.Kx Lw.As Lw.pR)) (YP:=Hook.says (a3u Lw.Kx Lw.As Lw.pR)) (N:=8146) Lw.run (Hook.of _) (Hook.keeps _) (fun s e=>xl_of s (Wm.mp e).1) XL.keeps (by rfl) (by rfl) (by rfl) (fun s e=>recFacts_of (Wm.mp e).2) (by rfl) (by first|assumption|decide +kernel) (by decide +kernel) ⟨rfl,rfl,rfl,rfl,rfl,by decide +kernel⟩ ?hw ?hc
 case hw=>w_witness2
 k_fill
 refine L3.walkM (l:=S4) (S:=Lw.S) (ds:=Lw.ds) (k:=6) (st:=Lw.aT 50) (x:="_law_script") rfl rfl ⟨rfl,by decide,by decide⟩ (fun w h Y=>PySem.W.kIn_of Y) (by kernel_rfl) (by kernel_rfl) ?F (fun c h _=>Lw.SQ c h)
 case F=>
  intro w d h b G
  refine' Lw.SR (P:=UB) (w:=w)  b G
