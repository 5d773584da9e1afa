import PyProof.Rows.All
import Wide.All
import OpenK.AllK
import Wide.FinOn
import PyProof.EqAt
import PyProof.EqKinds
import PyProof.TupleCall
import KE.KDictSum
import PyProof.SliceStr2
import PyProof.NeKinds
import PyProof.StrWalks
import PyProof.ConsumeWalk
import KE.KSortTup
import PyProof.StationsW
import OpenK.KOwn
import PyProof.Rows.SetFrom
import PyProof.Rows.SortStr
import PyProof.SumAny
import PyProof.EnumMake
import KE.KRevIter
import PyProof.MeetsStr
import PyProof.ListRange
import PyProof.Rows.Range3
import KE.KDictList
import PyProof.PureStr
import PyProof.WalkInts
import PyProof.ConsumeS
import PyProof.ZipIter
import PyProof.AttrMissHeap
import KE.KDictOf
import PyProof.DictItems
import KE.KItemsList
import KE.KEqDict
import PyProof.DictValues
import PyProof.DictWalks
import PyProof.Rows.StrNews
import PySem.Challenge.RW_creasecourt_k24_drawn_and_read
open Array renaming toList_push->So,toList_inj->Sy,toList_append->SJ,getD->Tp,getElem?_toList->Ux,length_toList->UW,replicate->WD,toList_setIfInBounds->WY,getElem?_eq_getElem->W8,toList_reverse->XQ,toList_extract->XR,append_assoc->Yd,toList->ZG,map->a0G
open Bool renaming false_eq_true->Qp,and_eq_true->Qy,false_ne_true->RB,not_true->RS,and_eq_true_iff->TY,or_eq_true->T9,not_eq_true'->Uo,not_false->VO,false_and->Zm,or_false->ZE,and_true->ZF
open Classical renaming choose->V1,choose_spec->W7
open False renaming elim->SV
open ForInStep renaming yield->T2
open Int renaming toNat_natCast->TR,emod_lt_of_pos->U7,le_of_lt->VB,emod_nonneg->VF,le_refl->WJ
open List renaming getElem?_eq_some_iff->Qi,getElem?_eq_getElem->Ql,length_map->Qm,size_toArray->Qn,set_cons_zero->Qu,set_cons_succ->Qv,length_append->Qx,map_cons->Qz,getElem?_append_left->QC,mem_cons_of_mem->QH,append_assoc->QK,getElem?_append_right->QM,mem_cons_self->QN,length_cons->QU,getD_eq_getElem?_getD->QZ,mem_of_getElem?->Q2,mem_map->Q4,pairwise_iff_getElem->Q5,getElem?_set_ne->Q6,length_take->Q8,mem_cons->Q9,getElem?_map->Ra,cons_append->Rh,prefix_refl->Ri,map_map->Rj,take_append_drop->Rq,length_drop->Rt,getElem?_toArray->Ru,nil_append->Rw,zipWith_cons_cons->Ry,getElem?_set_self->Rz,range->RA,getD->RC,nodup_cons->RD,mem_append->RE,mem_singleton->RF,find?_cons->RI,getElem?_take_of_lt->RJ,all_cons->RK,mem_append_right->RO,getElem?_eq_none->RP,toList_toArray->RQ,pairwise_map->RR,drop_of_length_le->RW,length_set->RX,append_nil->RY,map_congr_left->R0,getElem?_reverse->Sa,pairwise_append->Sh,length->Si,map_append->Sj,mem_range->Su,length_eq_zero_iff->Sz,take_of_length_le->SG,length_reverse->SK,drop_eq_getElem_cons->SN,replicate->SR,length_nil->SY,getElem_of_mem->S2,getElem_mem->S5,pairwise_cons->S7,drop_zero->S8,perm_append_comm->S9,length_replicate->Ta,length_filter_le->Tc,getElem?_eq_none_iff->Tf,getElem?_replicate->Tt,getElem?_cons_succ->Tu,getElem?_drop->Tw,mem_filter->TC,mem_iff_getElem?->TH,take_sublist->TN,getElem?_of_mem->TX,countP_cons->T1,getElem?_range->T4,nodup_append->Uk,lookup_cons->UA,all_eq_true->UB,any_cons->UM,filter_eq_self->UZ,map_nil->U2,take_zero->U4,rel_of_pairwise_cons->Vb,reverse_perm->Vc,range'->Vd,ext_getElem?->Ve,drop_sublist->Vf,filter_cons->Vo,set_append_right->VD,pairwise_reverse->VE,mem_of_mem_take->VL,lookup->VM,take_succ_cons->VW,filterMap_cons->VX,mem_filterMap->V5,filter_append->V6,Nodup->V7,length_range->We,getElem_take->Wf,range'_succ->Wu,take_append_of_le_length->WA,drop_append_of_le_length->WB,of_mem_zip->WG,foldl_cons->WH,filter_map->WI,take_left->W2,nodup_nil->W3,drop_left->W4,drop_drop->W5,extract_eq_drop_take->Xd,map_drop->Xk,pairwise_singleton->Xp,pairwise_mergeSort->Xq,zipWith->Xs,map_id'->Xu,set_getElem_self->XI,length_singleton->XJ,eq_nil_or_concat->XM,concat_eq_append->XN,mem_of_mem_drop->XZ,mem_append_left->X0,take_set_of_le->X7,takeWhile_cons->X8,mergeSort_perm->X9,map_eq_nil_iff->Yb,length_pos_iff->Yc,zip_cons_cons->Yo,map_inj_right->Yp,find?_eq_none->Yq,take_add_one->YO,map_inj_left->YQ,getElem_drop->YR,take_prefix->YY,nodup_range->YZ,mem_reverse->Y0,getElem_inj->Y1,range_succ->Ze,drop_left'->Zf,map_take->ZD,set_set->ZS,not_lt->Z1,map_id->Z2
open List.Pairwise renaming sublist->Sk,imp_of_mem->S6,nil->VA,map->Z3,imp₂->Z4
open List.Perm renaming eq_of_pairwise->TZ,refl->UQ,trans->Wb
open List.Sublist renaming length_le->a0z
open Nat renaming le_refl->Qq,ne_of_lt->Q7,lt_of_lt_of_le->Rc,zero_le->RV,le_trans->Sb,ne_of_gt->SQ,add_sub_cancel_left->SX,zero_add->To,not_lt->TB,lt_irrefl->TF,lt_trichotomy->TQ,lt_or_ge->T3,min_eq_left->Ua,sub_self->Us,lt_trans->Ut,le_of_lt->Uu,le_succ->UP,add_zero->Vz,not_lt_zero->VC,mul_le_mul->VS,succ_mul->Wo,lt_succ_of_lt->Wq,lt_succ_self->Wz,add_assoc->Xo,exists_eq_add_of_le->Xr,succ_pos->XF,sub_zero->XG,le_of_eq->XH,mul_le_mul_right->X6,le_of_lt_succ->YX,le_of_not_lt->Zc,lt_succ_iff->Zl,log2_lt->a0y,mod_lt->a0Q
open Ne renaming symm->Sn
open Option renaming bind_eq_some_iff->Qe,map_eq_some_iff->Qk,map_some->Rk,bind_some->Rm,isSome_map->Ud,isSome_none->XY,getD_none->Yn,none->ZC
open Option.some renaming inj->Q3
open Or renaming inr->XX,inl->YW
open Prod.mk renaming inj->Vy
open PyProof.Rows renaming seqObj->RZ,SortSt->SO,callWith_type1->Tv,SortKind->Ue,IntsAre->Ul,sortedAll_old->Uz,sortedAll_at->UO,entry_list_sort->U6,slot_list_sort->Vj,args_list_sort->Vl,callWith_builtin1->VJ,AllBare->Wi,listUpdate_at->Ws,sortedHeap->Ww,strOf->WL,envOfC->WV,pendingOf->W9,seqEpoch_at->Xg,subscriptTail->X4,subscriptTail_builtinR->Yv,plain_sorted->Yx,entry_sorted->Yz,args_sorted1->YA,mergeAt'->Y7,kind_sorted->Y8,arrOf->Za,getElem?_mirror_all->Zi,keyLt'->Zv,Subscript_->ZA,list_sort_plain->a0c,getElem?_bubble->a0d,get?_update_seq->a0e,wpAny_notIn_heap->a0g,split_pos->a0h,sorted_ints->a0i,pow_int_small->a0j,pow_int->a0k,mul_int->a0l,mirror_perm->a0m,lt_int->a0n,kindOf->a0o,floordiv_int->a0p,entry_proto_collect'->a0q,entry_list_iadd'->a0r,call_len_slot->a0s,bubble_perm->a0t,bubble->a0u,assign_Tuple_tuple->a0v,assign_Tuple->a0w,IsTup->a0x,mirror->a0N
open PyProof.Rows.Boot renaming sorted->Uc,tuple->Uh,dict->VI,str->YG,list->YH,len->YI,isinstance->YJ,int->YK,bool->YL
open PyProof.Rows.SortSt renaming mk'->Q1
open PySem renaming Value->Qg,wpAny_bind->Qh,Shared->Qj,Expr->Qr,sizeLine->Qs,wpAny_pure->Qt,Program->QR,wpAny->QV,model->QX,Around->Q0,World->Rg,starEach->Rl,sizeLine_eq->Ro,wpAny_mono->Rv,Heap->RG,wpAny_holding->RH,mem_of_lookup->RN,compareOp->RT,DictEntry->Se,cLine->Sf,sysModules->Sg,bootBuiltins->Ss,mainGlobals->Sx,Obj->SD,Pos->SE,wpAny_newObj_type->SM,wpAny_call_entry->SS,wpAny_truthy_bool->S3,assignEach->S4,FuncData->Th,tupleKind->Tq,NameKind->Ts,backTo->Tx,Scope->Tz,wpAny_setField_rec->TK,wpAny_Call_Name_kw->TL,behindInMarks->TV,binaryOp->T5,Keyword->T7,Params->Ug,codeAny_builtin->Ui,wpAny_rule->Up,rawInt->Uq,Paired->Ur,swapsWith->Uv,wpAny_dictEntries->UC,intKind->UG,foldedSetIterable->UH,compEnvC->UI,atKey->UR,CmpOp->UT,plainId_quiet->U0,attributeBase->U1,sliceBounds->U3,wpAny_passesOwn->U5,typeIs_str->Vi,call_meets->Vk,wpAny_field->Vr,codeAny->Vs,wpAny_newList->Vt,pyNext->Vu,SetTable->VH,wpAny_isOneOf_itemiter->VP,wpAny_Assign_Subscript->VQ,wpAny_dictEpoch->VT,letOwnedTupleGo->VU,wpAny_notOrdered_dict->VY,keywordEach->V8,firstArgMember->V9,Env->Wg,assign->Wx,valueAt->WK,getItem->WO,codeAny_mono->WQ,callerA->WR,call_meetsIn->WS,BindsTo->WX,subscripted->Xf,wpAny_updateSeq->Xl,wpAny_execs_nil->Xm,wpAny_setField->Xv,wpAny_newTuple->Xw,wpAny_load->XA,pyIter->XB,bindArgs->XC,backToKw->XD,Operator->XE,wpAny_standAt->X1,wpAny_attempt->X2,swappedStores->X3,wpAny_pyNext_tuple_item->Ye,wpAny_callSpecial?_slot->Yg,strValues->Yh,bindL->Yj,bindC->Yk,wpAny_typeOf->Yr,wpAny_pyNext_tuple_end->Ys,wpAny_pyNext_list_item->Yt,wpAny_Call_method_late->Yu,seqIndex_neg->Yw,isTrue->Yy,Tok->YB,Sem->YD,Result->YE,wpAny_pyNext_list_end->YS,wpAny_isOneOf_keyiter->YT,setField->Y5,seqIndex_of->Y6,Model->Zd,IntMulOk->Zg,GenState->Zh,wpAny_setItem_heap->Zn,wpAny_pyIter_tuple->Zo,wpAny_getItem_heap->Zp,wpAny_Name->Zq,typeOf->Zs,typeLookup->Zt,tupleKind_room_in1->Zu,getattributeRaised->Zw,closureFor->Zx,checkCount->Zy,builtinsNs->Zz,wpAny_pyIter_slot->ZH,wpAny_pyIter_list->ZI,wpAny_assign_Name->ZJ,storedH->ZK,slot_list_getitem->ZL,relabel->ZM,wpAny_isInstance->ZU,wpAny_execs_cons->ZV,lastMarks->ZW,cellsFrom->ZX,call->ZY,PassesOwn->Z0,wpAny_specialOf->Z9,wpAny_loadPart'->a0a,typeNameOfWhole->a0b,Fin->a0f,wpAny_fieldsOf->a0H,sliceRange_one->a0I,recursionLimit->a0J,putAt->a0K,numbered_texts->a0L,newExc->a0M,isSubtype_stop->a0P,IsPart->a0S
open PySem.Around renaming under_plainId->Tg
open PySem.Builtin renaming sorted->V3
open PySem.Builtin.Dict renaming showsAll->T8,updateFrom->Wr,pairItems->Wv,selfAndRest->a0B,pendingCount->a0C,noArgs->a0D,dictSlotNone->a0E,addKeywords->a0F
open PySem.Builtin.Dict_items renaming ownsTuple->T6,ownedTupleIsFree->U9,ownedTupleFields->Va,pairFromOwner->Vh,newIterator->Y3,dictOf->Y4
open PySem.Builtin.Int renaming intBits->Rf,intTooBig->Ub
open PySem.Builtin.List renaming listTooLong->UU,listExtendWith->V4,listSameRef->Wh
open PySem.Builtin.Range renaming rangeSize->Z8
open PySem.Builtin.Str renaming glued->Rb,occurrences->RM,strSliceIndices->Sv,tooLong->Uw
open PySem.Builtin.Tuple renaming tupleHashOf->Z6,tupleCompareSizes->Z7
open PySem.Calls renaming call_function_entry->U8,callWith_builtin->Vq,spliced_cons->V2,spliced_nil->Wc,Name_function_global->WW,evalArgs_plain->XO
open PySem.Challenge renaming rw_creasecourt_k24_drawn_and_read->R6,pw_creasecourt_k24_drawn_and_read->R8
open PySem.Data renaming fields->Z5,dict->a0U
open PySem.F renaming slot_dict_get->Uj,slot_dict_getitem->WE,slot_dict_items->WZ,plainAttrs_dict->W0,entry_dict_get->Xc,type_dict_get->Xj
open PySem.Heap renaming get?_push_of_some->Qo,lt_size->QD,get?_push_size->QY,get?_update_other->Sm,get?_update_self->TJ,SameBut->Um,ExtBut->WC,size_push->W6,size_update->Y2
open PySem.Heap.DictOf renaming new->a0T
open PySem.Heap.DictOfH renaming new->a0A
open PySem.Heap.IsSliceOf renaming new->ZT
open PySem.Heap.SameBut renaming update->Vp,refl->Xe
open PySem.NameKind renaming free->S1,cell->Te
open PySem.Obj renaming mapSeq->RL,data_mapFields->YN,mapFields->ZR
open PySem.Paired renaming length->VR,snoc->Wn
open PySem.PassesOwn renaming never->XW
open PySem.SeqAt renaming ne_of_list_tuple->SF,EqAt->WT
open PySem.SetTable renaming below->US,slot->YC,has->YU
open PySem.SetTable.below renaming go->UL
open PySem.SetTable.layClean renaming free->VZ
open PySem.SetTable.probe renaming go->UK
open PySem.Str renaming ofString->Vv,length->Wa,join->Wm
open PySem.StrLaws renaming glued_eq_join->Xi
open PySem.Txt renaming split->UJ
open PySem.Value renaming ref->QL,none->RU,type->TU,bool->Uy,str->Vm,int->Xh,isStrOf->Zj,builtin->Zk,isInt->ZP
open PySem.W renaming Frag->Qf,kasC_bind->Qw,kasC_pure->QF,kas_place->Sq,kasC_range->Sw,keepIn->SA,kia_one->SU,kas_desc->S0,fnOf->Td,kas_rev->Ti,kas_asc->Tj,kasC_modify->Tr,kas_descPart->TM,kasC_get->UD,kasC->UE,findIn->UX,kas_tail3->Vg,nsIn->Vn,codeIn->Vx,kasC_lift->VG,methodObj->V0,kas_sort->WM,kas_bin->WN,mg_of->WU,hashAt->Xa,cellsFrom_some->Xb,specialIn->XS,kitx_list->XT,kitx_dict->XU,plainGet->X5,kas_count->Yi,instObj->Yl,OpenLaw->Ym,kitOne->YF,WalkO->YV,kat_cons->Y9,isFn->Zb,kat_yes->ZN,kHook->a0O,KasT->a0R
open PySem.W.KasT renaming ret->Tn,ask->VN
open PySem.W.OpenLaw renaming row->Xn
open PySem.W.OpenRow renaming toRowW->YM
open PySem.W.RowW renaming records->ZQ
open PySem.W.WData renaming int->UN,weightAll->UY,layable->Wt,weight->Wy,layableAll->ZZ
open PySem.W.WShape renaming has->ZO
open Sum renaming inr->Wj,inl->Wl
open True renaming intro->SW
local macro_rules|`(tactic| omega) => `(tactic| lia)
set_option compiler.extract_closed false
set_option Elab.async false
set_option linter.all false
set_option maxRecDepth 100000
set_option linter.all false
namespace L2
open PySem PySem.Spec PyProof.Rows
noncomputable abbrev aF:=Sum Int Str
noncomputable def jZ:aF->Qg->Bool
 | .inl k,v=>ZP k v
 | .inr x,v=>Zj x v
noncomputable def yT (w:Rg):aF->Int
 | .inl k=>hashInt k
 | .inr x=>hashStr w x
theorem iE:∀ {k:aF}{v:Qg},jZ k v=true->(∃ i t,k=Wl i/\v=Xh i t)\/(∃ x t,k=Wj x/\v=Vm x t)
 | .inl i,v,h=>by
  obtain ⟨t,e⟩:=Value.isInt_shape (k:=i) (v:=v) h
  exact .inl ⟨i,t,rfl,e⟩
 | .inr x,v,h=>by
  obtain ⟨t,e⟩:=Value.isStrOf_shape (x:=x) (v:=v) h
  exact .inr ⟨x,t,rfl,e⟩
theorem EH (i:Int)(t:YB):jZ (.inl i) (.int i t)=true:=by simp [jZ,ZP]
theorem EI (x:Str)(t:YB):jZ (.inr x) (.str x t)=true:=by simp [jZ,Zj]
theorem EJ (a b:Int):decide ((Wl a:aF)=Wl b)=(a == b):=by
 by_cases e:a=b
 ·subst e;simp
 ·have h:¬ (Wl a:aF)=Wl b:=fun q=>e (Sum.inl.inj q)
  rw [decide_eq_false h]
  exact (beq_eq_false_iff_ne.mpr e).symm
theorem EK (a b:Str):decide ((Wj a:aF)=Wj b)=decide (a=b):=by
 by_cases e:a=b
 ·subst e;simp
 ·have h:¬ (Wj a:aF)=Wj b:=fun q=>e (Sum.inr.inj q)
  rw [decide_eq_false h,decide_eq_false e]
theorem EL (a:Int)(b:Str):decide ((Wl a:aF)=Wj b)=false:=decide_eq_false (fun q=>nomatch q)
theorem EM (a:Str)(b:Int):decide ((Wj a:aF)=Wl b)=false:=decide_eq_false (fun q=>nomatch q)
noncomputable def cS (prog:QR)(w:Rg):PySem.KeyKind prog w aF where
 is:=jZ
 hash:=yT w
 inj:=fun v a b ha hb=>by
  rcases iE ha with ⟨i,t,rfl,rfl⟩|⟨x,t,rfl,rfl⟩
  ·rcases iE hb with ⟨j,u,rfl,e⟩|⟨y,u,rfl,e⟩
   ·injection e with e1 _;rw [e1]
   ·exact nomatch e
  ·rcases iE hb with ⟨j,u,rfl,e⟩|⟨y,u,rfl,e⟩
   ·exact nomatch e
   ·injection e with e1 _;rw [e1]
 byValue:=fun k v h=>by
  rcases iE h with ⟨i,t,rfl,rfl⟩|⟨x,t,rfl,rfl⟩<;>rfl
 pyHash:=fun hv h=>by
  rcases iE hv with ⟨i,t,rfl,rfl⟩|⟨x,t,rfl,rfl⟩
  ·exact wpAny_pyHash_int h
  ·exact wpAny_pyHash_str h
 eqBool:=fun hu hv h=>by
  rcases iE hu with ⟨i,t,rfl,rfl⟩|⟨x,t,rfl,rfl⟩
  ·rcases iE hv with ⟨j,u,rfl,rfl⟩|⟨y,u,rfl,rfl⟩
   ·rw [EJ] at h;exact wpAny_eqBool_int h
   ·rw [EL] at h;exact SeqAt.EqAt.int_str i t y u _ _ _ _ h
  ·rcases iE hv with ⟨j,u,rfl,rfl⟩|⟨y,u,rfl,rfl⟩
   ·rw [EM] at h;exact SeqAt.EqAt.str_int x t j u _ _ _ _ h
   ·rw [EK] at h;exact wpAny_eqBool_str h
 «strs»:=fun k x t v h=>by
  rcases iE h with ⟨i,u,rfl,e⟩|⟨y,u,rfl,e⟩
  ·exact nomatch e
  ·injection e with e1 _
   subst e1
   cases v<;>rfl
theorem EO (prog:QR)(w:Rg)(i:Int)(t:YB):(cS prog w).is (.inl i) (.int i t)=true:=EH i t
theorem ER (prog:QR)(w:Rg)(x:Str)(t:YB):(cS prog w).is (.inr x) (.str x t)=true:=EI x t
end L2
namespace L2
open PySem PySem.Spec PyProof.Rows
inductive V where
 | non|bl (b:Bool)|int (i:Int)|str (x:Str)|byt (b:Array UInt8)|flt (b:UInt64)|ref (a:Addr)|ty (n:String)
 deriving DecidableEq
noncomputable def RelV:V->Qg->Prop
 | .non,u=>u=RU
 | .bl b,u=>u=Uy b
 | .int i,u=>∃ t,u=Xh i t
 | .str x,u=>∃ t,u=Vm x t
 | .byt b,u=>∃ t,u=Value.bytes b t
 | .flt b,u=>∃ t,u=Value.float b t
 | .ref a,u=>u=QL a
 | .ty n,u=>u=TU n
noncomputable abbrev Vals:List V->List Qg->Prop:=Ur RelV
theorem Vals.length {xs:List V}{us:List Qg}(r:Vals xs us):xs.length=us.length:=VR r
theorem Vals.get:∀ {xs:List V}{us:List Qg}{i:Nat}{x:V},Vals xs us->xs[i]? = some x->∃ u,us[i]? = some u/\RelV x u
 | _,_,_,_,.nil,e=>by simp at e
 | _,_,0,_,.cons r _,e=>by simp at e;subst e;exact ⟨_,rfl,r⟩
 | _,_,i+1,x,.cons _ t,e=>by
  obtain ⟨u,h1,h2⟩:=Vals.get (i:=i) (x:=x) t (by simpa using e)
  exact ⟨u,by simpa using h1,h2⟩
theorem Vals.set {x:V}{u:Qg}(r:RelV x u):∀ {xs:List V}{us:List Qg}(i:Nat),Vals xs us->Vals (xs.set i x) (us.set i u)
 | _,_,_,.nil=>.nil
 | _,_,0,.cons _ t=>.cons r t
 | _,_,i+1,.cons q t=>.cons q (Vals.set r i t)
theorem Vals.append:∀ {xs ys:List V}{us ws:List Qg},Vals xs us->Vals ys ws->Vals (xs++ys) (us++ws)
 | _,_,_,_,.nil,s=>s
 | _,_,_,_,.cons r t,s=>.cons r (Vals.append t s)
theorem Vals.take:∀ {xs:List V}{us:List Qg}(n:Nat),Vals xs us->Vals (xs.take n) (us.take n)
 | _,_,0,_=>.nil
 | _,_,_+1,.nil=>.nil
 | _,_,n+1,.cons r t=>.cons r (Vals.take n t)
theorem Vals.drop:∀ {xs:List V}{us:List Qg}(n:Nat),Vals xs us->Vals (xs.drop n) (us.drop n)
 | _,_,0,r=>r
 | _,_,_+1,.nil=>.nil
 | _,_,n+1,.cons _ t=>Vals.drop n t
noncomputable def RelO:Option V->Option Qg->Prop
 | some v,some u=>RelV v u
 | none,none=>True
 | _,_=>False
noncomputable def KV {κ:Type}:List (κ×V)->List (κ×Qg)->Prop:=Ur fun (p:κ×V)(q:κ×Qg)=>p.1=q.1/\RelV p.2 q.2
noncomputable def kV:aF->V
 | .inl i=>.int i
 | .inr x=>.str x
inductive HO where
 | lst (xs:List V)
 | tup (xs:List V)
 | dK (kvs:List (aF×V))|dT (kvs:List (List aF×V))
 | set (S:Int->Bool)(n:Nat)
 | ins (C dx:Addr)(fs:List (Str×V))
 | own (x:Addr)
 | xd (fs:List (Str×V))
 | met (f x:Addr)
 | rng (lo hi:Int)
 | frz (o:SD)(u:HO)
 | tbl (ps:Array Qg)
 | ext (φ:RG->Prop)
noncomputable abbrev Hp:=Addr->Option HO
noncomputable def aH (H:Hp)(a:Addr)(o:HO):Hp:=fun b=>if b=a then some o else H b
theorem cE {H:Hp}{a:Addr}{o:HO}:aH H a o a=some o:=by unfold aH;rw [if_pos rfl]
theorem a8 {H:Hp}{a b:Addr}{o:HO}(h:b≠a):aH H a o b=H b:=by unfold aH;rw [if_neg h]
theorem ES {H:Hp}{a b:Addr}{o u:HO}(h:H a=some o)(h':H b=some u)(d:o≠u):a≠b:=by
 intro e;subst e;rw [h] at h';exact d (Q3 h')
theorem j6 {H:Hp}{a b:Addr}{o:HO}(h:H a=some o)(h':H b=none):a≠b:=by
 intro e;subst e;rw [h] at h';cases h'
section
variable (P:QR)(w:Rg)
noncomputable def TupN (h:RG)(a:Addr)(xs:Array Qg):Prop:=∃ o,h.get? a=some o/\o.cls=.type "tuple"/\∃ n,o.data=.seq xs n/\o.dict=none
theorem TupN.tup {h:RG}{a:Addr}{xs:Array Qg}(x:TupN h a xs):a0x h a xs:=let ⟨o,e,c,n,d,_⟩:=x;⟨o,e,c,n,d⟩
theorem TupN.new (h:RG)(items:Array Qg):TupN (h.push { cls:=.type "tuple",data:=.seq items }) h.objs.size items:=⟨_,QY _ rfl,rfl,_,rfl,rfl⟩
noncomputable def ObjOk (H:Hp)(h:RG)(a:Addr):HO->Prop
 | .lst xs=>xs.length<=Qs/\∃ (its:List Qg)(n:Nat),Vals xs its/\h.get? a=some { cls:=.type "list",data:=.seq its.toArray n }
 | .tup xs=>xs.length<=Qs/\∃ its:List Qg,Vals xs its/\TupN h a its.toArray
 | .dK kvs=>kvs.length<=Qs/\(a == Sg)=false/\∃ vs,KV kvs vs/\h.DictOf (cS P w) a vs
 | .dT kvs=>kvs.length<=Qs/\(a == Sg)=false/\∃ xs:List (List aF×Addr×Qg),
   Ur (fun (p:List aF×V)(q:List aF×Addr×Qg)=>p.1=q.1/\H q.2.1=some (.tup (p.1.map kV))/\RelV p.2 q.2.2) kvs xs /\
   ∃ o es ep,h.get? a=some o/\o.ExactDict/\o.data=.dict es ep/\es.toList=xs.map (entryOfKey (Tq (cS P w)))/\(xs.map (·.1)).Nodup
 | .set S n=>h.SetOf (UG P w) a S n
 | .ins C dx fs=>H dx=some (.own a)/\fs.length<=1000/\dx≠a/\h.get? a=some (Yl C dx) /\
   ∃ mA,h.Ns1 dx mA/\(∀ f,RelO (fs.lookup f) (mA f))/\PySem.Within mA (fs.map (·.1))
 | .own _=>∃ o,h.get? a=some o
 | .xd fs=>∃ mA,h.Ns1 a mA/\∀ f,RelO (fs.lookup f) (mA f)
 | .rng lo hi=>∃ t u v,h.get? a=some { cls:=.type "range",data:=.fields #[.int lo t,.int hi u,.int 1 v] }
 | .frz o u=>h.get? a=some o/\ObjOk H h a u
 | .tbl ps=>h.get? a=some { cls:=.none,data:=.fields ps }
 | .met f x=>h.get? a=some (V0 (.ref f) (.ref x))
 | .ext φ=>φ h/\(∃ o,h.get? a=some o)/\∀ h1 h2:RG,φ h1->(∀ o,h1.get? a=some o->h2.get? a=some o)->φ h2
noncomputable def HOk (H:Hp)(h:RG):Prop:=∀ a o,H a=some o->ObjOk P w H h a o
end
section
variable {P:QR}{w:Rg}{H H':Hp}{h h':RG}{a:Addr}{o:HO}
theorem ObjOk.lt (x:ObjOk P w H h a o):a<h.objs.size:=by
 cases o with
 | lst xs=>obtain ⟨_,_,_,_,e⟩:=x;exact QD e
 | tup xs=>obtain ⟨_,_,_,p⟩:=x;exact p.tup.lt
 | dK kvs=>obtain ⟨_,_,_,_,o,_,_,e,_⟩:=x;exact QD e
 | dT kvs=>obtain ⟨_,_,_,_,o,_,_,e,_⟩:=x;exact QD e
 | set S n=>obtain ⟨o,_,_,_,e,_⟩:=x;exact QD e
 | ins C dx fs=>obtain ⟨_,_,_,e,_⟩:=x;exact QD e
 | own y=>obtain ⟨_,e⟩:=x;exact QD e
 | xd fs=>obtain ⟨_,⟨_,_,_,e,_⟩,_⟩:=x;exact QD e
 | rng lo hi=>obtain ⟨_,_,_,e⟩:=x;exact QD e
 | frz ob u=>obtain ⟨e,_⟩:=x;exact QD e
 | tbl ps=>exact QD (show h.get? a=some _ from x)
 | met f y=>exact QD (show h.get? a=some _ from x)
 | ext φ=>obtain ⟨_,⟨_,e⟩,_⟩:=x;exact QD e
theorem Ur.mapP {α β:Type}{F G:α->β->Prop}:∀ {l₁:List α}{l₂:List β},Ur F l₁ l₂->(∀ a b,F a b->G a b)->Ur G l₁ l₂
 | _,_,.nil,_=>.nil
 | _,_,.cons r t,f=>.cons (f _ _ r) (Ur.mapP t f)
theorem ObjOk.stay (x:ObjOk P w H h a o)(k:∀ b u,(b=a\/H b=some (.own a))->h.get? b=some u->h'.get? b=some u)
  (ho:∀ b,H b=some (.own a)->H' b=some (.own a))(ht:∀ b xs,H b=some (.tup xs)->H' b=some (.tup xs)):ObjOk P w H' h' a o:=by
 induction o with
 | lst xs=>obtain ⟨z,its,n,r,e⟩:=x;exact ⟨z,its,n,r,k _ _ (.inl rfl) e⟩
 | tup xs=>obtain ⟨z,its,r,ob,e,c⟩:=x;exact ⟨z,its,r,ob,k _ _ (.inl rfl) e,c⟩
 | dK kvs=>obtain ⟨z,y,vs,r,ob,es,ep,e,c⟩:=x;exact ⟨z,y,vs,r,ob,es,ep,k _ _ (.inl rfl) e,c⟩
 | dT kvs=>
  obtain ⟨z,y,xs,r,ob,es,ep,e,c⟩:=x
  exact ⟨z,y,xs,Ur.mapP r fun p q z=>⟨z.1,ht _ _ z.2.1,z.2.2⟩,ob,es,ep,k _ _ (.inl rfl) e,c⟩
 | set S n=>obtain ⟨ob,es,ep,t,e,c⟩:=x;exact ⟨ob,es,ep,t,k _ _ (.inl rfl) e,c⟩
 | ins C dx fs=>
  obtain ⟨d,z,ne,e,mA,⟨od,es,ep,e2,c⟩,r⟩:=x
  exact ⟨ho _ d,z,ne,k _ _ (.inl rfl) e,mA,⟨od,es,ep,k _ _ (.inr d) e2,c⟩,r⟩
 | own y=>obtain ⟨ob,e⟩:=x;exact ⟨ob,k _ _ (.inl rfl) e⟩
 | xd fs=>obtain ⟨mA,⟨od,es,ep,e,c⟩,r⟩:=x;exact ⟨mA,⟨od,es,ep,k _ _ (.inl rfl) e,c⟩,r⟩
 | rng lo hi=>obtain ⟨t,u,v,e⟩:=x;exact ⟨t,u,v,k _ _ (.inl rfl) e⟩
 | frz ob u ih=>obtain ⟨e,q⟩:=x;exact ⟨k _ _ (.inl rfl) e,ih q⟩
 | tbl ps=>
  have e:h.get? a=some { cls:=.none,data:=.fields ps }:=x
  show h'.get? a=some { cls:=.none,data:=.fields ps }
  exact k a _ (.inl rfl) e
 | met f y=>
  have e:h.get? a=some (V0 (.ref f) (.ref y)):=x
  show h'.get? a=some (V0 (.ref f) (.ref y))
  exact k a _ (.inl rfl) e
 | ext φ=>obtain ⟨p,⟨o,e⟩,st⟩:=x;exact ⟨st _ _ p fun o q=>k _ _ (.inl rfl) q,⟨o,k _ _ (.inl rfl) e⟩,st⟩
theorem HOk.lt (x:HOk P w H h)(e:H a=some o):a<h.objs.size:=(x a o e).lt
theorem HOk.fresh (x:HOk P w H h)(e:h.objs.size<=a):H a=none:=by
 cases q:H a with
 | none=>rfl
 | some u=>exact absurd (Rc (x.lt q) e) (TF _)
theorem HOk.kept (x:HOk P w H h)(k:∀ b u,h.get? b=some u->h'.get? b=some u):HOk P w H h':=fun a o e=>
 (x a o e).stay (fun b u _ q=>k b u q) (fun _ q=>q) fun _ _ q=>q
theorem HOk.laid (x:HOk P w H h)(k:∀ b u,h.get? b=some u->h'.get? b=some u)(hp:h.objs.size<=a)(new:ObjOk P w (aH H a o) h' a o):HOk P w (aH H a o) h':=fun b u e=>by
 have hn:=x.fresh hp
 by_cases hb:b=a
 ·subst hb;rw [cE] at e;cases e;exact new
 ·rw [a8 hb] at e
  exact (x b u e).stay (fun c v _ q=>k c v q) (fun c q=>by rw [a8 (j6 q hn)];exact q) fun c xs q=>by rw [a8 (j6 q hn)];exact q
end
noncomputable def Rd (H:Hp)(a:Addr)(u:HO):Prop:=H a=some u\/∃ o,H a=some (.frz o u)
theorem Rd.of {H:Hp}{a:Addr}{u:HO}(h:H a=some u):Rd H a u:=.inl h
theorem Rd.ok {P:QR}{w:Rg}{H:Hp}{h:RG}{a:Addr}{u:HO}(r:Rd H a u)(x:HOk P w H h):ObjOk P w H h a u:=by
 rcases r with r|⟨o,r⟩
 ·exact x a u r
 ·obtain ⟨_,q⟩:=x a _ r
  exact q
noncomputable def nH:Option HO->Prop
 | some (.lst _)=>True
 | some (.dK _)=>True
 | some (.dT _)=>True
 | some (.set _ _)=>True
 | some (.ins _ _ _)=>True
 | some (.ext _)=>True
 | _=>False
section
variable {P:QR}{w:Rg}{H:Hp}{h h':RG}{x e:Addr}{o':HO}
theorem HOk.write (ok:HOk P w H h)(mu:nH (H x))(he:e=x\/H e=some (.own x))(k:∀ b u,b≠e->h.get? b=some u->h'.get? b=some u)(heo:∃ u,h'.get? e=some u)
  (new:ObjOk P w (aH H x o') h' x o'):HOk P w (aH H x o') h':=fun b u q=>by
 have nown:∀ c y,H c=some (.own y)->c≠x:=fun c y r z=>by subst z;rw [r] at mu;exact mu
 have ntup:∀ c xs,H c=some (.tup xs)->c≠x:=fun c xs r z=>by subst z;rw [r] at mu;exact mu
 by_cases hb:b=x
 ·subst hb;rw [cE] at q;cases q;exact new
 ·rw [a8 hb] at q
  by_cases hbe:b=e
  ·have q':H b=some (.own x):=by
    rcases he with z|z
    ·exact absurd (hbe.trans z) hb
    ·rw [hbe];exact z
   rw [q] at q';cases q'
   obtain ⟨v,hv⟩:=heo
   exact ⟨v,by rw [hbe];exact hv⟩
  ·refine (ok b u q).stay (fun c v hc r=>k c v ?_ r) (fun c r=>by rw [a8 (nown c b r)];exact r) fun c xs r=>by rw [a8 (ntup c xs r)];exact r
   rcases hc with rfl|hc
   ·exact hbe
   ·rintro rfl
    rcases he with z|z
    ·exact nown c b hc z
    ·rw [hc] at z;cases z;exact hb rfl
end
structure Un (fs ex:List Addr)(H H':Hp)(h h':RG):Prop where
 keep:∀ b o,h.get? b=some o->H b=none->b∉fs->b∉ex->h'.get? b=some o
 slot:∀ b o,h.get? b=some o->H b=none->b∈fs->b∉ex->∃ sl,h'.get? b=some { o with slots:=sl }
 free:∀ b o,h.get? b=some o->H b=none->b∉ex->H' b=none
 there:∀ b o,h.get? b=some o->b∉ex->∃ o',h'.get? b=some o'
 tups:∀ b xs,H b=some (.tup xs)->H' b=some (.tup xs)
 frzs:∀ b o u,H b=some (.frz o u)->H' b=some (.frz o u)
 tbls:∀ b ps,H b=some (.tbl ps)->∃ more,H' b=some (.tbl (ps++more))
section
variable {fs fs' ex ex':List Addr}{H H1 H2:Hp}{h h1 h2 h':RG}{a x e:Addr}{o:HO}
theorem Un.any (u:Un fs ex H H1 h h1){b:Addr}{ob:SD}(q:h.get? b=some ob)(n:H b=none)(hx:b∉ex):∃ sl,h1.get? b=some { ob with slots:=sl }:=by
 by_cases hb:b∈fs
 ·exact u.slot b ob q n hb hx
 ·exact ⟨ob.slots,u.keep b ob q n hb hx⟩
theorem Un.trans (a:Un fs ex H H1 h h1)(b:Un fs ex H1 H2 h1 h2):Un fs ex H H2 h h2 where
 keep:=fun c ob q n hc hx=>b.keep c ob (a.keep c ob q n hc hx) (a.free c ob q n hx) hc hx
 slot:=fun c ob q n hc hx=>by
  obtain ⟨sl,e1⟩:=a.slot c ob q n hc hx
  obtain ⟨sl',e2⟩:=b.slot c _ e1 (a.free c ob q n hx) hc hx
  exact ⟨sl',e2⟩
 free:=fun c ob q n hx=>by
  obtain ⟨o',e1⟩:=a.there c ob q hx
  exact b.free c o' e1 (a.free c ob q n hx) hx
 there:=fun c ob q hx=>by
  obtain ⟨o',e1⟩:=a.there c ob q hx
  exact b.there c o' e1 hx
 tups:=fun c xs q=>b.tups c xs (a.tups c xs q)
 frzs:=fun c ob xs q=>b.frzs c ob xs (a.frzs c ob xs q)
 tbls:=fun c ps q=>by
  obtain ⟨m1,e1⟩:=a.tbls c ps q
  obtain ⟨m2,e2⟩:=b.tbls c _ e1
  exact ⟨m1++m2,by rw [e2,Yd]⟩
theorem Un.kept (k:∀ b u,h.get? b=some u->h'.get? b=some u):Un fs ex H H h h':=
 ⟨fun b ob q _ _ _=>k b ob q,fun b ob q _ _ _=>⟨ob.slots,k b ob q⟩,fun _ _ _ n _=>n,fun b ob q _=>⟨ob,k b ob q⟩,fun _ _ q=>q,fun _ _ _ q=>q,fun _ ps q=>⟨#[],by rw [q];simp⟩⟩
theorem Un.refl:Un fs ex H H h h:=Un.kept fun _ _ q=>q
theorem Un.laid (k:∀ b u,h.get? b=some u->h'.get? b=some u)(hp:h.objs.size<=a)(hn:H a=none):Un fs ex H (aH H a o) h h' where
 keep:=fun b u q _ _ _=>k b u q
 slot:=fun b u q _ _ _=>⟨u.slots,k b u q⟩
 free:=fun b u q n _=>by rw [a8 (Q7 (Rc (QD q) hp))];exact n
 there:=fun b u q _=>⟨u,k b u q⟩
 tups:=fun b xs q=>by rw [a8 (j6 q hn)];exact q
 frzs:=fun b u xs q=>by rw [a8 (j6 q hn)];exact q
 tbls:=fun b ps q=>⟨#[],by rw [a8 (j6 q hn),q];simp⟩
theorem Un.write (mu:nH (H x))(he:e=x\/H e=some (.own x))(k:∀ b u,b≠e->h.get? b=some u->h'.get? b=some u)(heo:∃ u,h'.get? e=some u):Un fs ex H (aH H x o) h h':=by
 have hx:∀ b,H b=none->b≠x:=fun b n z=>by subst z;rw [n] at mu;exact mu
 have hb:∀ b,H b=none->b≠e:=fun b n z=>by
  subst z
  rcases he with r|r
  ·exact hx b n r
  ·rw [n] at r;cases r
 have hm:∀ b u,H b=some u->¬ nH (some u)->b≠x:=fun b u q nm z=>by subst z;rw [q] at mu;exact nm mu
 refine ⟨fun b u q n _ _=>k b u (hb b n) q,fun b u q n _ _=>⟨u.slots,k b u (hb b n) q⟩,fun b u q n _=>by rw [a8 (hx b n)];exact n,fun b u q _=>?_,
  fun b xs q=>by rw [a8 (hm b _ q fun z=>z)];exact q,fun b u xs q=>by rw [a8 (hm b _ q fun z=>z)];exact q,fun b ps q=>⟨#[],by rw [a8 (hm b _ q fun z=>z),q];simp⟩⟩
 by_cases hbe:b=e
 ·subst hbe;exact heo
 ·exact ⟨u,k b u hbe q⟩
end
noncomputable def o4 (h:RG)(H:Hp):List Addr:=(RA h.objs.size).filter fun a=>(H a).isSome
noncomputable def iF (h:RG)(H:Hp):RG:=PySem.W.hideAll h (o4 h H)
theorem ET (h:RG)(H:Hp):(iF h H).objs.size=h.objs.size:=PySem.W.hideAll_size _ _
theorem EU {h:RG}{H:Hp}{b:Addr}{o:SD}(e:h.get? b=some o)(n:H b=none):(iF h H).get? b=some o:=
 PySem.W.hideAll_get _ e fun hm=>by
  have q:(H b).isSome=true:=(TC.mp hm).2
  rw [n] at q;simp at q
theorem EV {h:RG}{H:Hp}{b:Addr}{o:SD}(e:(iF h H).get? b=some o):h.get? b=some o/\H b=none:=by
 have e':h.get? b=some o:=PySem.W.of_hideAll (o4 h H) e
 refine ⟨e',?_⟩
 cases q:H b with
 | none=>rfl
 | some x=>
  have hm:b∈o4 h H:=TC.mpr ⟨Su.mpr (QD e'),by simp [q]⟩
  have z:(iF h H).get? b=none:=PySem.W.hideAll_none (o4 h H) hm
  rw [z] at e;cases e
noncomputable def EW (g h:RG)(L:Addr):List (Addr×SD):=(RA h.objs.size).filterMap fun a=>if a=L\/(g.get? a).isSome=true then none else (h.get? a).map fun o=>(a,o)
noncomputable def rest (g h:RG)(L d:Addr):List (Addr×SD):=(EW g h L).filter fun p=>decide (p.1≠d)
end L2
namespace L2
open PySem PySem.Spec PyProof.Rows
structure Mod (K:Qf)(mg:Str->Option Qg)(base:RG):Prop where
 kin:K.In base
 glob:base.Ns Sx mg
 blt:∃ mb,base.Ns Zz mb/\∀ x:Str,x ≠ "__name__"->mb x=Ss x
 nolimit:base.NoLimit
structure Cx where
 prog:QR
 w:Rg
 K:Qf
 mg:Str->Option Qg
 base:RG
 A:Q0
 N:List Str
 s₀:Qj
 H₀:Hp
 env:Wg
 outer:List Wg
 stack:List Wg
 ex:List Addr
 fn:Str->Bool
 calm:Bool
 pn:List (Addr×SD)
 xe:Qg->Qj->Prop
noncomputable def eZ (l:List Wg):List Addr:=l.filterMap (·.frame)
noncomputable abbrev Cx.fs (X:Cx):List Addr:=eZ X.outer
noncomputable def nI (sc:Tz)(x:Str):Prop:=sc.names.lookup x=some .local\/sc.names.lookup x=some .cell\/sc.names.lookup x=some .free
noncomputable def Loc (sc:Tz)(x:Str):Prop:=sc.names.lookup x=some .local\/sc.names.lookup x=some .cell
noncomputable def EX (env:Wg)(h:RG)(m:Str->Option Qg)(x:Str)(u:Qg):Prop:=
 (env.kindOf x=some .local/\m x=some u)\/((env.kindOf x=some .cell\/env.kindOf x=some .free)/\∃ c,env.cells.lookup x=some c/\h.IsCell c (some u))
structure Cx.Ok (X:Cx):Prop where
 mod:Mod X.K X.mg X.base
 kind:X.env.scope.kind=.function
 glob:X.env.globals=Sx
 blt:X.env.builtins=Zz
 above:X.s₀.heap.objs.size<=X.env.locals
 inj:∀ x y c,X.env.cells.lookup x=some c->X.env.cells.lookup y=some c->x=y
 has:∀ x,(X.env.kindOf x=some .cell\/X.env.kindOf x=some .free)->∃ c,X.env.cells.lookup x=some c
 cab:∀ x c,X.fn x=true->X.env.cells.lookup x=some c->X.s₀.heap.objs.size<=c
 hd:X.calm=true->X.A.handled=none
 frames:X.A.frames=some X.stack
 stk:X.stack=X.outer\/(X.stack=X.env::X.outer/\X.env.frame=some X.env.locals)
 exf:∀ b∈X.ex,b≠X.env.locals/\∀ x c,X.env.cells.lookup x=some c->c≠b
 bs:∀ b o,X.base.get? b=some o->X.s₀.heap.get? b=some o/\X.H₀ b=none
 bsz:X.base.objs.size<=X.s₀.heap.objs.size
 noex:∀ b o,X.base.get? b=some o->b∉X.ex
 exfs:∀ b∈X.ex,b∉X.fs
 funs:X.s₀.heap.FunFrames X.base X.outer
 frf:∀ b∈X.fs,X.H₀ b=none
structure Inv (X:Cx)(a0V:List (Addr×SD))(σ:List (Option V))(H:Hp)(s:Qj):Prop where
 ok:X.Ok
 os:s.os=X.s₀.os
 bare:Wi s.gens
 base:Un X.fs X.ex X.H₀ H X.s₀.heap s.heap
 loc:∃ m,s.heap.Ns X.env.locals m/\∀ (i:Nat)(x:Str)(v:V),X.N[i]? = some x->σ[i]? = some (some v)->nI X.env.scope x->∃ u,RelV v u/\EX X.env s.heap m x u
 cell:∀ x c,X.env.cells.lookup x=some c->∃ v,s.heap.IsCell c v
 free:H X.env.locals=none
 freeC:∀ x c,X.env.cells.lookup x=some c->H c=none
 pin:∀ p∈X.pn++a0V,s.heap.get? p.1=some p.2/\H p.1=none/\p.1≠X.env.locals/\p.1∉X.fs/\∀ v,p.2.data≠.cell v
 hok:HOk X.prog X.w H s.heap
 len:σ.length=X.N.length
section
variable {X:Cx}{a0V:List (Addr×SD)}{σ:List (Option V)}{H H':Hp}{s:Qj}{h':RG}
theorem Cx.Ok.nofr (ok:X.Ok){b:Addr}{o:SD}(e:X.base.get? b=some o):b∉X.fs:=fun hb=>by
 have:=(ok.funs.mem hb).1
 rw [e] at this;cases this
theorem Inv.bs (I:Inv X a0V σ H s):∀ b o,X.base.get? b=some o->s.heap.get? b=some o/\H b=none:=fun b o e=>
 ⟨I.base.keep b o (I.ok.bs b o e).1 (I.ok.bs b o e).2 (I.ok.nofr e) (I.ok.noex b o e),I.base.free b o (I.ok.bs b o e).1 (I.ok.bs b o e).2 (I.ok.noex b o e)⟩
theorem Inv.bk (I:Inv X a0V σ H s):∀ b o,X.base.get? b=some o->s.heap.get? b=some o:=fun b o e=>(I.bs b o e).1
theorem Inv.mod (I:Inv X a0V σ H s):Mod X.K X.mg X.base:=I.ok.mod
theorem Inv.kIn (I:Inv X a0V σ H s):X.K.In s.heap:=I.ok.mod.kin.keeps I.bk
theorem Inv.nolimit (I:Inv X a0V σ H s):s.heap.NoLimit:=I.ok.mod.nolimit.keeps I.bk
theorem Inv.lt (I:Inv X a0V σ H s):X.env.locals<s.heap.objs.size:=let ⟨_,hn,_⟩:=I.loc;hn.lt
theorem Inv.sz (I:Inv X a0V σ H s):X.s₀.heap.objs.size<=s.heap.objs.size:=Sb I.ok.above (Uu I.lt)
theorem Inv.nofs (I:Inv X a0V σ H s){a:Addr}(h:s.heap.objs.size<=a):a∉X.fs:=fun hb=>by
 obtain ⟨_,o,ho,_⟩:=I.ok.funs.mem hb
 exact absurd (Rc (QD ho) (Sb I.sz h)) (TF _)
theorem Inv.cne (I:Inv X a0V σ H s):∀ x c,X.env.cells.lookup x=some c->c≠X.env.locals:=fun x c e z=>by
 obtain ⟨v,o,ho,hd⟩:=I.cell x c e
 obtain ⟨m,⟨o',es,ep,ho',hd',_⟩,_⟩:=I.loc
 rw [z,ho'] at ho;cases ho;rw [hd'] at hd;cases hd
theorem Inv.funs (I:Inv X a0V σ H s):s.heap.FunFrames X.base X.outer:=by
 have all:∀ (l:List Wg),(∀ b∈eZ l,b∈X.fs)->X.s₀.heap.FunFrames X.base l->s.heap.FunFrames X.base l:=by
  intro l
  induction l with
  | nil=>intro _ _;trivial
  | cons env r ih=>
   intro hs hl
   obtain ⟨hk,⟨L,o,hf,hn,ho,hd⟩,hr⟩:=hl
   have hL:L∈X.fs:=hs L (by unfold eZ;rw [VX,hf];exact QN)
   obtain ⟨sl,e⟩:=I.base.slot L o ho (I.ok.frf L hL) hL fun z=>I.ok.exfs L z hL
   exact ⟨hk,⟨L,_,hf,hn,e,hd⟩,ih (fun b hb=>hs b (by unfold eZ;rw [VX,hf];exact QH _ hb)) hr⟩
 exact all X.outer (fun _ hb=>hb) I.ok.funs
theorem Inv.stack (I:Inv X a0V σ H s):s.heap.FunFrames X.base X.stack:=by
 rcases I.ok.stk with e|⟨e,hf⟩
 ·rw [e];exact I.funs
 ·rw [e]
  obtain ⟨m,hn,_⟩:=I.loc
  refine .cons (by rw [I.ok.kind];decide) hf hn ?_ I.funs
  exact Heap.get?_none_of_le (Sb I.ok.bsz I.ok.above)
theorem Inv.stkSub (I:Inv X a0V σ H s):∀ b∈eZ X.stack,b∈X.env.locals::X.fs:=fun b hb=>by
 rcases I.ok.stk with e|⟨e,hf⟩
 ·rw [e] at hb;exact QH _ hb
 ·rw [e] at hb
  unfold eZ at hb
  rw [VX,hf] at hb
  exact hb
theorem Inv.stkFree (I:Inv X a0V σ H s):∀ b∈eZ X.stack,H b=none:=fun b hb=>by
 rcases Q9.mp (I.stkSub b hb) with e|hb
 ·rw [e];exact I.free
 ·obtain ⟨_,o,ho,_⟩:=I.ok.funs.mem hb
  exact I.base.free b o ho (I.ok.frf b hb) fun z=>I.ok.exfs b z hb
theorem Inv.step {g':Array Zh}{t':Nat}{d':Drawn}{ch:List Addr}(I:Inv X a0V σ H s)
  (hch:∀ b∈ch,(b∈X.ex\/X.s₀.heap.objs.size<=b)/\b≠X.env.locals/\(∀ x c,X.env.cells.lookup x=some c->c≠b)/\∀ p∈X.pn++a0V,p.1≠b)
  (keep:∀ b o,b≠X.env.locals->b∉X.fs->b∉ch->s.heap.get? b=some o->H b=none->h'.get? b=some o)
  (slot:∀ b o,b≠X.env.locals->b∈X.fs->b∉ch->s.heap.get? b=some o->H b=none->∃ sl,h'.get? b=some { o with slots:=sl })(free:∀ b o,b∉ch->s.heap.get? b=some o->H b=none->H' b=none)
  (there:∀ b o,b∉ch->s.heap.get? b=some o->∃ o',h'.get? b=some o')
  (tups:∀ b xs,H b=some (.tup xs)->H' b=some (.tup xs))(frzs:∀ b o u,H b=some (.frz o u)->H' b=some (.frz o u))(tbls:∀ b ps,H b=some (.tbl ps)->∃ more,H' b=some (.tbl (ps++more)))
  (ns:∀ m,s.heap.Ns X.env.locals m->h'.Ns X.env.locals m)(hok:HOk X.prog X.w H' h')(hg:Wi g') :
  Inv X a0V σ H' { s with heap:=h',gens:=g',drawn:=d',toks:=t' }:=by
 have neL:∀ b o,X.s₀.heap.get? b=some o->b≠X.env.locals:=fun b o e=>Q7 (Rc (QD e) I.ok.above)
 have neC:∀ b o,X.s₀.heap.get? b=some o->b∉X.ex->b∉ch:=fun b o e hx hb=>by
  rcases (hch b hb).1 with z|z
  ·exact hx z
  ·exact absurd (Rc (QD e) z) (TF _)
 have cellK:∀ x c,X.env.cells.lookup x=some c->∀ v,s.heap.IsCell c v->h'.IsCell c v:=fun x c e v ⟨o,ho,hd⟩=>by
  have nch:c∉ch:=fun z=>(hch c z).2.2.1 x c e rfl
  by_cases hc:c∈X.fs
  ·obtain ⟨sl,q⟩:=slot c o (I.cne x c e) hc nch ho (I.freeC x c e)
   exact ⟨_,q,hd⟩
  ·exact ⟨o,keep c o (I.cne x c e) hc nch ho (I.freeC x c e),hd⟩
 refine ⟨I.ok,I.os,hg,⟨fun b o e n hb hx=>?_,fun b o e n hb hx=>?_,fun b o e n hx=>?_,fun b o e hx=>?_,fun b xs e=>tups b xs (I.base.tups b xs e),fun b o xs e=>frzs b o xs (I.base.frzs b o xs e),fun b ps e=>?_⟩,?_,fun x c e=>?_,?_,fun x c e=>?_,fun p hp=>?_,hok,I.len⟩
 ·exact keep b o (neL b o e) hb (neC b o e hx) (I.base.keep b o e n hb hx) (I.base.free b o e n hx)
 ·obtain ⟨sl,e1⟩:=I.base.slot b o e n hb hx
  obtain ⟨sl',e2⟩:=slot b _ (neL b o e) hb (neC b o e hx) e1 (I.base.free b o e n hx)
  exact ⟨sl',e2⟩
 ·obtain ⟨o',e1⟩:=I.base.there b o e hx
  exact free b o' (neC b o e hx) e1 (I.base.free b o e n hx)
 ·obtain ⟨o',e1⟩:=I.base.there b o e hx
  exact there b o' (neC b o e hx) e1
 ·obtain ⟨m1,e1⟩:=I.base.tbls b ps e
  obtain ⟨m2,e2⟩:=tbls b _ e1
  exact ⟨m1++m2,by rw [e2,Yd]⟩
 ·obtain ⟨m,hn,hl⟩:=I.loc
  refine ⟨m,ns m hn,fun i x v e1 e2 e3=>?_⟩
  obtain ⟨u,r,l⟩:=hl i x v e1 e2 e3
  refine ⟨u,r,?_⟩
  rcases l with l|⟨k,c,e,z⟩
  ·exact .inl l
  ·exact .inr ⟨k,c,e,cellK x c e _ z⟩
 ·obtain ⟨v,z⟩:=I.cell x c e
  exact ⟨v,cellK x c e v z⟩
 ·obtain ⟨m,⟨o,_,_,ho,_⟩,_⟩:=I.loc
  exact free _ o (fun z=>(hch _ z).2.1 rfl) ho I.free
 ·obtain ⟨v,o,ho,hd⟩:=I.cell x c e
  exact free c o (fun z=>(hch c z).2.2.1 x c e rfl) ho (I.freeC x c e)
 ·obtain ⟨e,n,ne,nf,d⟩:=I.pin p hp
  have nch:p.1∉ch:=fun z=>(hch p.1 z).2.2.2 p hp rfl
  exact ⟨keep p.1 p.2 ne nf nch e n,free p.1 p.2 nch e n,ne,nf,d⟩
theorem Inv.un {t':Nat}(I:Inv X a0V σ H s)(u:Un X.fs [] H H' s.heap h')(hok:HOk X.prog X.w H' h'):Inv X a0V σ H' { s with heap:=h',toks:=t' }:=by
 obtain ⟨m,⟨o,es,ep,ho,r⟩,_⟩:=id I.loc
 obtain ⟨sl,hL⟩:=u.any ho I.free (by simp)
 exact I.step (g':=s.gens) (d':=s.drawn) (ch:=[]) (fun _ z=>nomatch z) (fun b o _ hb _ e n=>u.keep b o e n hb (by simp)) (fun b o _ hb _ e n=>u.slot b o e n hb (by simp)) (fun b o _ e n=>u.free b o e n (by simp)) (fun b o _ e=>u.there b o e (by simp)) u.tups u.frzs u.tbls (fun m' hm=>by
  obtain ⟨o',es',ep',ho',r'⟩:=hm
  rw [ho] at ho';cases ho'
  exact ⟨_,es',ep',hL,r'⟩) hok I.bare
theorem Inv.call {g':Array Zh}{t':Nat}{d':Drawn}{ch:List Addr}(I:Inv X a0V σ H s)(u:Un (eZ X.stack) ch H H' s.heap h')(hok:HOk X.prog X.w H' h')(hg:Wi g')
  (hch:∀ b∈ch,(b∈X.ex\/X.s₀.heap.objs.size<=b)/\b≠X.env.locals/\(∀ x c,X.env.cells.lookup x=some c->c≠b)/\∀ p∈X.pn++a0V,p.1≠b) :
  Inv X a0V σ H' { s with heap:=h',gens:=g',drawn:=d',toks:=t' }:=by
 obtain ⟨m,⟨o,es,ep,ho,r⟩,_⟩:=id I.loc
 obtain ⟨sl,hL⟩:=u.any ho I.free fun z=>(hch _ z).2.1 rfl
 exact I.step (ch:=ch) hch (fun b o hL hb hc e n=>u.keep b o e n (fun z=>(Q9.mp (I.stkSub b z)).elim hL hb) hc) (fun b o _ _ hc e n=>u.any e n hc) (fun b o hc e n=>u.free b o e n hc) (fun b o hc e=>u.there b o e hc) u.tups u.frzs u.tbls (fun m' hm=>by
  obtain ⟨o',es',ep',ho',r'⟩:=hm
  rw [ho] at ho';cases ho'
  exact ⟨_,es',ep',hL,r'⟩) hok hg
theorem Inv.turned {t':Nat}{it:Addr}(I:Inv X a0V σ H s)(k:∀ b o,b≠it->s.heap.get? b=some o->h'.get? b=some o)(hn:H it=none)(hL:it≠X.env.locals)
  (h1:it∈X.ex\/X.s₀.heap.objs.size<=it)(h2:∀ x c,X.env.cells.lookup x=some c->c≠it)(h3:∀ p∈X.pn++a0V,p.1≠it):Inv X a0V σ H { s with heap:=h',toks:=t' }:=by
 have nit:∀ b u,H b=some u->b≠it:=fun b u e z=>by rw [z,hn] at e;cases e
 refine I.step (g':=s.gens) (d':=s.drawn) (ch:=[it]) (fun b hb=>?_) (fun b o _ _ hc e _=>k b o (fun z=>hc (by simp [z])) e) (fun b o _ _ hc e _=>⟨o.slots,k b o (fun z=>hc (by simp [z])) e⟩) (fun _ _ _ _ n=>n)
  (fun b o hc e=>⟨o,k b o (fun z=>hc (by simp [z])) e⟩) (fun _ _ e=>e) (fun _ _ _ e=>e) (fun b ps e=>⟨#[],by rw [e];simp⟩) (fun m hm=>?_) (fun b u e=>?_) I.bare
 ·have e:b=it:=by simpa using hb
  subst e
  exact ⟨h1,hL,h2,h3⟩
 ·obtain ⟨o,es,ep,ho,r⟩:=hm
  exact ⟨o,es,ep,k _ o (Sn hL) ho,r⟩
 ·refine (I.hok b u e).stay (fun c v hc q=>k c v ?_ q) (fun _ q=>q) fun _ _ q=>q
  rcases hc with z|z
  ·rw [z];exact nit b u e
  ·exact nit c _ z
theorem Inv.tok (I:Inv X a0V σ H s)(t:Nat):Inv X a0V σ H { s with toks:=t }:=I.un (h':=s.heap) (t':=t) Un.refl I.hok
theorem Inv.kept {t':Nat}(I:Inv X a0V σ H s)(k:∀ b u,s.heap.get? b=some u->h'.get? b=some u):Inv X a0V σ H { s with heap:=h',toks:=t' }:=I.un (Un.kept k) (I.hok.kept k)
theorem Inv.laid {a:Addr}{o:HO}{t':Nat}(I:Inv X a0V σ H s)(k:∀ b u,s.heap.get? b=some u->h'.get? b=some u)(hp:s.heap.objs.size<=a)(new:ObjOk X.prog X.w (aH H a o) h' a o) :
  Inv X a0V σ (aH H a o) { s with heap:=h',toks:=t' }:=I.un (Un.laid k hp (I.hok.fresh hp)) (I.hok.laid k hp new)
theorem Inv.write {x e:Addr}{o:HO}{t':Nat}(I:Inv X a0V σ H s)(mu:nH (H x))(he:e=x\/H e=some (.own x))(k:∀ b u,b≠e->s.heap.get? b=some u->h'.get? b=some u)(heo:∃ u,h'.get? e=some u)
  (new:ObjOk X.prog X.w (aH H x o) h' x o):Inv X a0V σ (aH H x o) { s with heap:=h',toks:=t' }:=I.un (Un.write mu he k heo) (I.hok.write mu he k heo new)
theorem Inv.pins_of {pins':List (Addr×SD)}(I:Inv X a0V σ H s)(h:∀ p∈pins',s.heap.get? p.1=some p.2/\H p.1=none/\p.1≠X.env.locals/\p.1∉X.fs/\∀ v,p.2.data≠.cell v):Inv X pins' σ H s:=
 ⟨I.ok,I.os,I.bare,I.base,I.loc,I.cell,I.free,I.freeC,fun p hp=>(RE.mp hp).elim (fun z=>I.pin p (X0 _ z)) (h p),I.hok,I.len⟩
theorem yU {N:List Str}(hN:N.Nodup){i j:Nat}{x:Str}(a:N[i]? = some x)(b:N[j]? = some x):i=j:=by
 obtain ⟨h1,e1⟩:=Qi.mp a
 obtain ⟨h2,e2⟩:=Qi.mp b
 exact (Y1 hN).mp (e1.trans e2.symm)
theorem yV {M:Zd}{A:Q0}{E:Qg->Qj->Prop}{i:Nat}{x:Str}{v:V}{u:Qg}{Q:Unit->Qj->Prop}(I:Inv X a0V σ H s)(hN:X.N.Nodup)(hi:X.N[i]? = some x)(hx:Loc X.env.scope x)(r:RelV v u)
  (h:∀ s',Inv X a0V (σ.set i (some v)) H s'->(∃ a,Um a s.heap s'.heap/\(a=X.env.locals\/X.env.cells.lookup x=some a))->Q () s')(hf:X.fn x=true\/X.env.scope.names.lookup x=some .local:=by first|exact .inl rfl|exact .inr rfl|assumption):QV M A (storeName X.env x u) Q E s:=by
 obtain ⟨m,hn,hl⟩:=id I.loc
 have hcls:(X.env.scope.kind == .class||(X.env.scope.kind == .module&&X.env.locals != X.env.globals))=false:=by rw [I.ok.kind];rfl
 have hiσ:i<σ.length:=by rw [I.len];exact (Qi.mp hi).1
 have cne:=I.cne
 have tracked:∀ {a:Addr}{h':RG},(∃ o,s.heap.get? a=some o/\H a=none)->Um a s.heap h'->HOk X.prog X.w H h':=fun {a h'} ha hs b ob e=>by
  obtain ⟨_,_,hfree⟩:=ha
  refine (I.hok b ob e).stay (fun c w' hc q=>(hs.2 c ?_).trans q) (fun _ q=>q) fun _ _ q=>q
  rintro rfl
  rcases hc with rfl|hc
  ·rw [hfree] at e;cases e
  ·rw [hfree] at hc;cases hc
 rcases hx with hk|hk
 ·refine wpAny_storeName_local hk hn (fun h' hn' hs=>?_) hcls
  obtain ⟨oL,_,_,hoL,_⟩:=id hn
  refine h _ ⟨I.ok,I.os,I.bare,⟨fun b o e n hb hx=>?_,fun b o e n hb hx=>?_,I.base.free,fun b o e hx=>?_,I.base.tups,I.base.frzs,I.base.tbls⟩,⟨_,hn',fun j y v' e1 e2 e3=>?_⟩,fun y c e=>?_,I.free,I.freeC,fun p hp=>?_,tracked ⟨oL,hoL,I.free⟩ hs,by simpa using I.len⟩ ⟨_,hs,.inl rfl⟩
  ·exact (hs.2 b (Q7 (Rc (QD e) I.ok.above))).trans (I.base.keep b o e n hb hx)
  ·obtain ⟨sl,e1⟩:=I.base.slot b o e n hb hx
   exact ⟨sl,(hs.2 b (Q7 (Rc (QD e) I.ok.above))).trans e1⟩
  ·obtain ⟨o',e1⟩:=I.base.there b o e hx
   exact ⟨o',(hs.2 b (Q7 (Rc (QD e) I.ok.above))).trans e1⟩
  ·by_cases hj:j=i
   ·subst hj
    rw [hi] at e1;cases e1
    rw [Rz hiσ] at e2
    cases e2
    exact ⟨u,r,.inl ⟨hk,by simp⟩⟩
   ·rw [Q6 (Sn hj)] at e2
    obtain ⟨u',r',q⟩:=hl j y v' e1 e2 e3
    refine ⟨u',r',?_⟩
    rcases q with ⟨k,e⟩|⟨k,c,e,z⟩
    ·refine .inl ⟨k,?_⟩
     have:y≠x:=fun e=>hj (yU hN e1 (e ▸ hi))
     simp [this,e]
    ·exact .inr ⟨k,c,e,z.sameBut hs (cne y c e)⟩
  ·obtain ⟨w',z⟩:=I.cell y c e
   exact ⟨w',z.sameBut hs (cne y c e)⟩
  ·obtain ⟨e,n,ne,nf,d⟩:=I.pin p hp
   exact ⟨(hs.2 p.1 ne).trans e,n,ne,nf,d⟩
 ·have hfn:X.fn x=true:=by
   rcases hf with z|z
   ·exact z
   ·rw [z] at hk;cases hk
  obtain ⟨c,hc⟩:=I.ok.has x (.inl hk)
  obtain ⟨w',z⟩:=I.cell x c hc
  refine wpAny_storeName_cell I.ok.kind hk hc z (fun h' hc' hs=>?_)
  obtain ⟨oc,hoc,hocd⟩:=id z
  refine h { s with heap:=h' } ⟨I.ok,I.os,I.bare,⟨fun b o e n hb hx=>?_,fun b o e n hb hx=>?_,I.base.free,fun b o e hx=>?_,I.base.tups,I.base.frzs,I.base.tbls⟩,⟨m,hn.sameBut hs (Sn (cne x c hc)),fun j y v' e1 e2 e3=>?_⟩,fun y c' e=>?_,I.free,I.freeC,fun p hp=>?_,tracked ⟨oc,hoc,I.freeC x c hc⟩ hs,by simpa using I.len⟩ ⟨c,hs,.inr hc⟩
  ·exact (hs.2 b (Q7 (Rc (QD e) (I.ok.cab x c hfn hc)))).trans (I.base.keep b o e n hb hx)
  ·obtain ⟨sl,e1⟩:=I.base.slot b o e n hb hx
   exact ⟨sl,(hs.2 b (Q7 (Rc (QD e) (I.ok.cab x c hfn hc)))).trans e1⟩
  ·obtain ⟨o',e1⟩:=I.base.there b o e hx
   exact ⟨o',(hs.2 b (Q7 (Rc (QD e) (I.ok.cab x c hfn hc)))).trans e1⟩
  ·by_cases hj:j=i
   ·subst hj
    rw [hi] at e1;cases e1
    rw [Rz hiσ] at e2
    cases e2
    exact ⟨u,r,.inr ⟨.inl hk,c,hc,hc'⟩⟩
   ·rw [Q6 (Sn hj)] at e2
    obtain ⟨u',r',q⟩:=hl j y v' e1 e2 e3
    refine ⟨u',r',?_⟩
    rcases q with q|⟨k,c',e,z'⟩
    ·exact .inl q
    ·refine .inr ⟨k,c',e,z'.sameBut hs ?_⟩
     rintro rfl
     exact hj (yU hN e1 (I.ok.inj _ _ _ e hc ▸ hi))
  ·by_cases hcc:c'=c
   ·subst hcc;exact ⟨_,hc'⟩
   ·obtain ⟨w2,z2⟩:=I.cell y c' e
    exact ⟨w2,z2.sameBut hs hcc⟩
  ·obtain ⟨e,n,ne,nf,d⟩:=I.pin p hp
   refine ⟨(hs.2 p.1 ?_).trans e,n,ne,nf,d⟩
   intro q
   rw [q,hoc] at e
   have q':oc=p.2:=Q3 e
   exact d w' (by rw [<- q'];exact hocd)
theorem yW {M:Zd}{A:Q0}{E:Qg->Qj->Prop}{i:Nat}{x:Str}{v:V}{u:Qg}{Q:Unit->Qj->Prop}(I:Inv X a0V σ H s)(hN:X.N.Nodup)(hi:X.N[i]? = some x)(hx:Loc X.env.scope x)(r:RelV v u)
  (h:∀ s',Inv X a0V (σ.set i (some v)) H s'->Q () s')(hf:X.fn x=true\/X.env.scope.names.lookup x=some .local:=by first|exact .inl rfl|exact .inr rfl|assumption):QV M A (storeName X.env x u) Q E s:=
 yV I hN hi hx r (fun s' I' _=>h s' I') hf
end
noncomputable abbrev XK:=Qg->Option Addr->Hp->Prop
noncomputable abbrev St:=List (Option V)
noncomputable abbrev VK:=V->Hp->Prop
noncomputable abbrev TE:=St->Hp->VK->Prop
noncomputable abbrev TT:=St->Hp->(Bool->Hp->Prop)->Prop
noncomputable abbrev TA:=St->Hp->(List V->Hp->Prop)->Prop
structure Ends where
 nx:St->Hp->Prop
 rt:VK
 bk:St->Hp->Prop:=fun _ _=>False
 ct:St->Hp->Prop:=fun _ _=>False
noncomputable abbrev TS:=Ends->St->Hp->Prop
noncomputable def EP (X:Cx)(a0V:List (Addr×SD))(σ:St)(Q:VK)(u:Qg)(s':Qj):Prop:=∃ v H',Inv X a0V σ H' s'/\RelV v u/\Q v H'
noncomputable def TP (X:Cx)(a0V:List (Addr×SD))(σ:St)(Q:Bool->Hp->Prop)(b:Bool)(s':Qj):Prop:=∃ H',Inv X a0V σ H' s'/\Q b H'
noncomputable def AP (X:Cx)(a0V:List (Addr×SD))(σ:St)(Q:List V->Hp->Prop)(us:List Qg)(s':Qj):Prop:=∃ vs H',Inv X a0V σ H' s'/\Vals vs us/\Q vs H'
noncomputable def SP (X:Cx)(a0V:List (Addr×SD))(D:Ends)(f:Flow)(s':Qj):Prop:=
 match f with
 | .next=>∃ σ' H',Inv X a0V σ' H' s'/\D.nx σ' H'
 | .brk=>∃ σ' H',Inv X a0V σ' H' s'/\D.bk σ' H'
 | .cont=>∃ σ' H',Inv X a0V σ' H' s'/\D.ct σ' H'
 | .ret u=>∃ v σ' H',Inv X a0V σ' H' s'/\RelV v u/\D.rt v H'
noncomputable def PE (X:Cx)(e:Qr)(t:TE):Prop:=
 ∀ (a0V:List (Addr×SD))(s:Qj)(σ:St)(H:Hp)(Q:VK),Inv X a0V σ H s->t σ H Q->QV (QX X.prog X.w) X.A (eval e X.env) (EP X a0V σ Q) X.xe s
noncomputable def PT (X:Cx)(e:Qr)(t:TT):Prop:=
 ∀ (a0V:List (Addr×SD))(s:Qj)(σ:St)(H:Hp)(Q:Bool->Hp->Prop),Inv X a0V σ H s->t σ H Q->QV (QX X.prog X.w) X.A (Yy e X.env (eval e X.env)) (TP X a0V σ Q) X.xe s
noncomputable def PW (X:Cx)(e:Qr)(t:TT):Prop:=
 ∀ (whole:YD Qg)(a0V:List (Addr×SD))(s:Qj)(σ:St)(H:Hp)(Q:Bool->Hp->Prop),Inv X a0V σ H s->t σ H Q->QV (QX X.prog X.w) X.A (Yy e X.env whole) (TP X a0V σ Q) X.xe s
theorem PW.pt {X:Cx}{e:Qr}{t:TT}(h:PW X e t):PT X e t:=h _
noncomputable def PA (X:Cx)(es:List Qr)(t:TA):Prop:=
 ∀ (pos:SE)(a0V:List (Addr×SD))(s:Qj)(σ:St)(H:Hp)(Q:List V->Hp->Prop),Inv X a0V σ H s->t σ H Q->QV (QX X.prog X.w) X.A (spliced (Tx pos (Rl es X.env))) (AP X a0V σ Q) X.xe s
noncomputable def PS (X:Cx)(st:Stmt)(t:TS):Prop:=
 ∀ (a0V:List (Addr×SD))(s:Qj)(σ:St)(H:Hp)(D:Ends),Inv X a0V σ H s->t D σ H->QV (QX X.prog X.w) X.A (exec st X.env) (SP X a0V D) X.xe s
noncomputable def PSs (X:Cx)(st:List Stmt)(t:TS):Prop:=
 ∀ (a0V:List (Addr×SD))(s:Qj)(σ:St)(H:Hp)(D:Ends),Inv X a0V σ H s->t D σ H->QV (QX X.prog X.w) X.A (execs st X.env) (SP X a0V D) X.xe s
theorem aN {α:Type}{t:YD α}{Q Q':α->Qj->Prop}{M:Zd}{A:Q0}{E:Qg->Qj->Prop}{s:Qj}(h:QV M A t Q E s)(hQ:∀ a s,Q a s->Q' a s):QV M A t Q' E s:=Rv h hQ fun _ _ x=>x
end L2
namespace L2
open PySem PySem.Spec PyProof.Rows
section
variable {X:Cx}
noncomputable def yX (i:Nat):TE:=fun σ H Q=>∃ v,σ[i]? = some (some v)/\Q v H
noncomputable def tC (v:V):TE:=fun _ H Q=>Q v H
theorem EY {i:Nat}{x:Str}{pos:SE}(hN:X.N[i]? = some x)(hv:nI X.env.scope x)(hd:(x == ("__debug__":Str))=false:=by decide) (hcd:(x == ("__classdict__":Str))=false:=by decide):PE X (.Name x pos) (yX i):=by
 intro a0V s σ H Q I h
 obtain ⟨v,e,h⟩:=h
 obtain ⟨m,hn,hl⟩:=I.loc
 obtain ⟨u,r,l⟩:=hl i x v hN e hv
 have fin:EP X a0V σ Q u s:=⟨v,H,I,r,h⟩
 rcases l with ⟨hk,hm⟩|⟨hk,c,hc,hcell⟩
 ·exact Zq (wpAny_loadName_local I.ok.kind hk hn hm fin) hd
 ·rcases hk with hk|hk
  ·exact Zq (wpAny_loadName_cell I.ok.kind hk hc hcell fin) hd
  ·exact Zq (wpAny_loadName_free I.ok.kind hk hc hcell fin hcd) hd
theorem EZ {i j pos}:PE X (.Constant (.int i) j pos) (tC (.int i)):=fun _ _ _ H _ I h=>wpAny_Constant_int ⟨.int i,H,I.tok _,⟨_,rfl⟩,h⟩
theorem E4 {b j pos}:PE X (.Constant (.bool b) j pos) (tC (.bl b)):=fun _ _ _ H _ I h=>Constant_bool ⟨.bl b,H,I,rfl,h⟩
theorem E6 {j pos}:PE X (.Constant .none j pos) (tC .non):=fun _ _ _ H _ I h=>Constant_none ⟨.non,H,I,rfl,h⟩
theorem E7 {x j pos}:PE X (.Constant (.str x) j pos) (tC (.str x)):=fun _ _ _ H _ I h=>Calls.Constant_str ⟨.str x,H,I.tok _,⟨_,rfl⟩,h⟩
noncomputable def Gl (X:Cx)(x:Str):Prop:=X.env.kindOf x=some .globalImplicit
theorem sR {E:Qg->Qj->Prop}{a0V:List (Addr×SD)}{s:Qj}{σ:St}{H:Hp}{x:Str}{u:Qg}{pos:SE}{Q:Qg->Qj->Prop}(I:Inv X a0V σ H s)(hg:Gl X x)(hm:X.mg x=some u)(h:Q u s)
  (hd:(x == ("__debug__":Str))=false:=by decide):QV (QX X.prog X.w) X.A (eval (.Name x pos) X.env) Q E s:=
 WW I.ok.kind hg (Calls.loadGlobal_global (by rw [I.ok.glob];exact I.mod.glob.keeps I.bk) hm h) hd
theorem j7 {E:Qg->Qj->Prop}{a0V:List (Addr×SD)}{s:Qj}{σ:St}{H:Hp}{x:Str}{u:Qg}{pos:SE}{Q:Qg->Qj->Prop}(I:Inv X a0V σ H s)(hg:Gl X x)(hm:X.mg x=none)(hv:Ss x=some u)(h:Q u s)
  (hn:x ≠ "__name__":=by decide) (hd:(x == ("__debug__":Str))=false:=by decide):QV (QX X.prog X.w) X.A (eval (.Name x pos) X.env) Q E s:=by
 obtain ⟨mb,h1,h2⟩:=I.mod.blt
 exact WW I.ok.kind hg (Calls.loadGlobal_builtin (by rw [I.ok.glob];exact I.mod.glob.keeps I.bk) hm (by rw [I.ok.blt];exact h1.keeps I.bk) ((h2 x hn).trans hv) h) hd
theorem Fb {x:Str}{v:V}{u:Qg}{pos:SE}(hg:Gl X x)(hm:X.mg x=some u)(r:RelV v u)(hd:(x == ("__debug__":Str))=false:=by decide):PE X (.Name x pos) (tC v):=
 fun _ _ _ H _ I h=>sR I hg hm ⟨v,H,I,r,h⟩ hd
theorem Fc {x:Str}{v:V}{u:Qg}{pos:SE}(hg:Gl X x)(hm:X.mg x=none)(hv:Ss x=some u)(r:RelV v u)(hn:x ≠ "__name__":=by decide) (hd:(x == ("__debug__":Str))=false:=by decide):PE X (.Name x pos) (tC v):=
 fun _ _ _ H _ I h=>j7 I hg hm hv ⟨v,H,I,r,h⟩ hn hd
variable {a b:Qr}{ta tb:TE}{pos:SE}
variable {tA tB':TT}{rest:List Qr}
noncomputable def Fd (t u:TT):TT:=fun σ H Q=>t σ H fun c H1=>if c=true then u σ H1 Q else Q false H1
noncomputable def Fe (t u:TT):TT:=fun σ H Q=>t σ H fun c H1=>if c=true then Q true H1 else u σ H1 Q
noncomputable def Ff (t:TT):TT:=fun σ H Q=>t σ H fun c H1=>Q (!c) H1
theorem Fg (ha:PT X a tA):PW X (.BoolOp .And [a] pos) tA:=by
 intro wh a0V s σ H Q I h
 refine isTrue_and (aN (ha a0V s σ H Q I h) fun c s1 e=>?_)
 cases c with
 | true=>exact isTrue_and_nil e
 | false=>exact e
theorem Fh (ha:PT X a tA):PW X (.BoolOp .Or [a] pos) tA:=by
 intro wh a0V s σ H Q I h
 refine isTrue_or (aN (ha a0V s σ H Q I h) fun c s1 e=>?_)
 cases c with
 | false=>exact isTrue_or_nil e
 | true=>exact e
theorem Fj (ha:PT X a tA)(hb:PW X (.BoolOp .And (b::rest) pos) tB'):PW X (.BoolOp .And (a::b::rest) pos) (Fd tA tB'):=by
 intro wh a0V s σ H Q I h
 refine isTrue_and (aN (ha a0V s σ H _ I h) fun c s1 ⟨H1,I1,q1⟩=>?_)
 cases c with
 | true=>exact hb wh a0V s1 σ H1 Q I1 q1
 | false=>exact ⟨H1,I1,q1⟩
theorem Fm (ha:PT X a tA)(hb:PW X (.BoolOp .Or (b::rest) pos) tB'):PW X (.BoolOp .Or (a::b::rest) pos) (Fe tA tB'):=by
 intro wh a0V s σ H Q I h
 refine isTrue_or (aN (ha a0V s σ H _ I h) fun c s1 ⟨H1,I1,q1⟩=>?_)
 cases c with
 | true=>exact ⟨H1,I1,q1⟩
 | false=>exact hb wh a0V s1 σ H1 Q I1 q1
theorem Fn (ha:PT X a tA):PT X (.UnaryOp .Not a pos) (Ff tA):=by
 intro a0V s σ H Q I h
 exact isTrue_not (ha a0V s σ H (fun c H1=>Q (!c) H1) I h)
noncomputable def Fo (ta tb:TE):TE:=fun σ H Q=>ta σ H fun x H1=>∃ c,x=.bl c/\if c=true then tb σ H1 Q else Q (.bl false) H1
noncomputable def Fp (ta tb:TE):TE:=fun σ H Q=>ta σ H fun x H1=>∃ c,x=.bl c/\if c=true then Q (.bl true) H1 else tb σ H1 Q
noncomputable def Fq (ta:TE):TE:=fun σ H Q=>ta σ H fun x H1=>∃ c,x=.bl c/\Q (.bl (!c)) H1
theorem Fs {op} {t:TE}(h:PE X a t):PE X (.BoolOp op [a] pos) t:=fun a0V s σ H Q I hw=>BoolOp_one (h a0V s σ H Q I hw)
theorem Ft (ha:PE X a ta)(hb:PE X (.BoolOp .And (b::rest) pos) tb):PE X (.BoolOp .And (a::b::rest) pos) (Fo ta tb):=by
 intro a0V s σ H Q I h
 refine BoolOp_and (aN (ha a0V s σ H _ I h) fun v s1 ⟨x,H1,I1,r1,q1⟩=>?_)
 obtain ⟨c,rfl,q1⟩:=q1
 cases r1
 refine S3 ?_
 cases c with
 | true=>exact hb a0V s1 σ H1 Q I1 q1
 | false=>exact ⟨.bl false,H1,I1,rfl,q1⟩
theorem Fu (ha:PE X a ta)(hb:PE X (.BoolOp .Or (b::rest) pos) tb):PE X (.BoolOp .Or (a::b::rest) pos) (Fp ta tb):=by
 intro a0V s σ H Q I h
 refine BoolOp_or (aN (ha a0V s σ H _ I h) fun v s1 ⟨x,H1,I1,r1,q1⟩=>?_)
 obtain ⟨c,rfl,q1⟩:=q1
 cases r1
 refine S3 ?_
 cases c with
 | false=>exact hb a0V s1 σ H1 Q I1 q1
 | true=>exact ⟨.bl true,H1,I1,rfl,q1⟩
theorem Fv (ha:PE X a ta):PE X (.UnaryOp .Not a pos) (Fq ta):=by
 intro a0V s σ H Q I h
 refine UnaryOp_ (aN (ha a0V s σ H _ I h) fun v s1 ⟨x,H1,I1,r1,q1⟩=>?_)
 obtain ⟨c,rfl,q1⟩:=q1
 cases r1
 exact not_of (S3 ⟨.bl (!c),H1,I1,rfl,q1⟩)
noncomputable def Fw (t:TT)(ta tb:TE):TE:=fun σ H Q=>t σ H fun c H1=>if c=true then ta σ H1 Q else tb σ H1 Q
theorem Fx {c:Qr}(hc:PT X c tA)(ha:PE X a ta)(hb:PE X b tb):PE X (.IfExp c a b pos) (Fw tA ta tb):=by
 intro a0V s σ H Q I h
 refine wpAny_IfExp (aN (hc a0V s σ H _ I h) fun d s1 ⟨H1,I1,q1⟩=>?_)
 cases d with
 | true=>exact ha a0V s1 σ H1 Q I1 q1
 | false=>exact hb a0V s1 σ H1 Q I1 q1
end
end L2
namespace L2
open PySem PySem.Spec PyProof.Rows
noncomputable def SqL (K:Qf)(H:Hp)(a:Addr)(xs:List V):Prop:=
 Rd H a (.lst xs) \/
  ∃ (o:SD)(its:Array Qg)(n:Nat),K.lookup a=some o/\o.cls=.type "list"/\o.dict=none/\o.data=.seq its n/\its.size<=Qs/\Vals xs its.toList
noncomputable def SqT (K:Qf)(H:Hp)(a:Addr)(xs:List V):Prop:=
 Rd H a (.tup xs) \/
  ∃ (o:SD)(its:Array Qg)(n:Nat),K.lookup a=some o/\o.cls=.type "tuple"/\o.dict=none/\o.data=.seq its n/\its.size<=Qs/\Vals xs its.toList
noncomputable def Fy:Qg->Option V
 | .none=>some .non
 | .bool b=>some (.bl b)
 | .int i _=>some (.int i)
 | .str x _=>some (.str x)
 | .bytes b _=>some (.byt b)
 | .float b _=>some (.flt b)
 | .ref a=>some (.ref a)
 | .type n=>some (.ty n)
 | _=>none
theorem RelV.abs {x:V}{u:Qg}(r:RelV x u):Fy u=some x:=by
 cases x with
 | non=>cases r;rfl
 | bl _=>cases r;rfl
 | int _=>obtain ⟨t,rfl⟩:=r;rfl
 | str _=>obtain ⟨t,rfl⟩:=r;rfl
 | byt _=>obtain ⟨t,rfl⟩:=r;rfl
 | flt _=>obtain ⟨t,rfl⟩:=r;rfl
 | ref _=>cases r;rfl
 | ty _=>cases r;rfl
theorem RelV.inj {x y:V}{u:Qg}(r:RelV x u)(q:RelV y u):x=y:=Q3 (r.abs.symm.trans q.abs)
theorem Vals.inj:∀ {xs ys:List V}{us:List Qg},Vals xs us->Vals ys us->xs=ys
 | _,_,_,.nil,.nil=>rfl
 | _,_,_,.cons r t,.cons r' t'=>by rw [r.inj r',Vals.inj t t']
section
variable {X:Cx}{a0V:List (Addr×SD)}{σ:St}{H:Hp}{s:Qj}{a:Addr}{xs ys:List V}
theorem SqL.of {K:Qf}(h:H a=some (.lst xs)):SqL K H a xs:=.inl (.inl h)
theorem SqT.of {K:Qf}(h:H a=some (.tup xs)):SqT K H a xs:=.inl (.inl h)
theorem Inv.list (I:Inv X a0V σ H s)(h:SqL X.K H a xs):∃ its:List Qg,Vals xs its/\PlainL s.heap a its.toArray/\xs.length<=Qs:=by
 rcases h with h|⟨o,its,n,hk,hc,hd,hs,hz,r⟩
 ·obtain ⟨z,its,n,r,e⟩:=h.ok I.hok
  exact ⟨its,r,⟨_,n,e,rfl,rfl,rfl⟩,z⟩
 ·refine ⟨its.toList,r,⟨o,n,I.kIn a o hk,hc,hd,by simpa using hs⟩,?_⟩
  have e:=r.length
  simp only [UW] at e
  omega
theorem Inv.tuple (I:Inv X a0V σ H s)(h:SqT X.K H a xs):∃ its:List Qg,Vals xs its/\a0x s.heap a its.toArray/\xs.length<=Qs:=by
 rcases h with h|⟨o,its,n,hk,hc,hd,hs,hz,r⟩
 ·obtain ⟨z,its,r,p⟩:=h.ok I.hok
  exact ⟨its,r,p.tup,z⟩
 ·refine ⟨its.toList,r,⟨o,I.kIn a o hk,hc,n,by simpa using hs⟩,?_⟩
  have e:=r.length
  simp only [UW] at e
  omega
theorem Inv.tupN (I:Inv X a0V σ H s)(h:SqT X.K H a xs):∃ its:List Qg,Vals xs its/\TupN s.heap a its.toArray:=by
 rcases h with h|⟨o,its,n,hk,hc,hd,hs,hz,r⟩
 ·obtain ⟨z,its,r,p⟩:=h.ok I.hok
  exact ⟨its,r,p⟩
 ·exact ⟨its.toList,r,o,I.kIn a o hk,hc,n,by simpa using hs,hd⟩
theorem Inv.list_inj (I:Inv X a0V σ H s)(h:SqL X.K H a xs)(h':SqL X.K H a ys):xs=ys:=by
 obtain ⟨its,r,⟨o,n,e,_,_,d⟩,_⟩:=I.list h
 obtain ⟨its',r',⟨o',n',e',_,_,d'⟩,_⟩:=I.list h'
 rw [e] at e';cases e'
 rw [d] at d'
 injection d' with d1 _
 have:its=its':=by simpa using congrArg ZG d1
 subst this
 exact r.inj r'
theorem Inv.tuple_inj (I:Inv X a0V σ H s)(h:SqT X.K H a xs)(h':SqT X.K H a ys):xs=ys:=by
 obtain ⟨its,r,⟨o,e,_,n,d⟩,_⟩:=I.tuple h
 obtain ⟨its',r',⟨o',e',_,n',d'⟩,_⟩:=I.tuple h'
 rw [e] at e';cases e'
 rw [d] at d'
 injection d' with d1 _
 have:its=its':=by simpa using congrArg ZG d1
 subst this
 exact r.inj r'
end
noncomputable abbrev Cx.wish (X:Cx)(E:Qg->Qj->Prop):Cx:={ X with xe:=E }
noncomputable abbrev Cx.nox (X:Cx):Cx:=X.wish fun _ _=>False
theorem Cx.Ok.wish {X:Cx}(ok:X.Ok)(E:Qg->Qj->Prop):(X.wish E).Ok:=
 ⟨ok.mod,ok.kind,ok.glob,ok.blt,ok.above,ok.inj,ok.has,ok.cab,ok.hd,ok.frames,ok.stk,ok.exf,ok.bs,ok.bsz,ok.noex,ok.exfs,ok.funs,ok.frf⟩
theorem Cx.Ok.unwish {X:Cx}{E:Qg->Qj->Prop}(ok:(X.wish E).Ok):X.Ok:=
 ⟨ok.mod,ok.kind,ok.glob,ok.blt,ok.above,ok.inj,ok.has,ok.cab,ok.hd,ok.frames,ok.stk,ok.exf,ok.bs,ok.bsz,ok.noex,ok.exfs,ok.funs,ok.frf⟩
section
variable {X:Cx}{a0V:List (Addr×SD)}{σ:St}{H:Hp}{s:Qj}{E:Qg->Qj->Prop}
theorem Inv.wish (I:Inv X a0V σ H s)(E:Qg->Qj->Prop):Inv (X.wish E) a0V σ H s:=⟨I.ok.wish E,I.os,I.bare,I.base,I.loc,I.cell,I.free,I.freeC,I.pin,I.hok,I.len⟩
theorem Inv.unwish (I:Inv (X.wish E) a0V σ H s):Inv X a0V σ H s:=⟨I.ok.unwish,I.os,I.bare,I.base,I.loc,I.cell,I.free,I.freeC,I.pin,I.hok,I.len⟩
theorem SP.unwish {D:Ends}{f:Flow}{s':Qj}(h:SP (X.wish E) a0V D f s'):SP X a0V D f s':=by
 cases f with
 | next=>obtain ⟨σ',H',I,q⟩:=h;exact ⟨σ',H',I.unwish,q⟩
 | brk=>obtain ⟨σ',H',I,q⟩:=h;exact ⟨σ',H',I.unwish,q⟩
 | cont=>obtain ⟨σ',H',I,q⟩:=h;exact ⟨σ',H',I.unwish,q⟩
 | ret u=>obtain ⟨v,σ',H',I,r,q⟩:=h;exact ⟨v,σ',H',I.unwish,r,q⟩
theorem PSs.nox {st:List Stmt}{t:TS}(h:PSs X.nox st t):PSs X st t:=fun a0V s σ H D I hw=>
 Rv (h a0V s σ H D (I.wish _) hw) (fun _ _ q=>q.unwish) fun _ _ z=>SV z
end
section
variable {X:Cx}{st:Stmt}{rest:List Stmt}{t u:TS}{e:Qr}{te:TE}{pos:SE}
noncomputable def yY:TS:=fun D σ H=>D.nx σ H
noncomputable def Fz (t u:TS):TS:=fun D σ H=>t { D with nx:=u D } σ H
theorem FA:PSs X [] yY:=fun _ _ σ H _ I h=>Xm ⟨σ,H,I,h⟩
theorem FC (h1:PS X st t)(h2:PSs X rest u):PSs X (st::rest) (Fz t u):=by
 intro a0V s σ H D I h
 refine ZV (aN (h1 a0V s σ H { D with nx:=u D } I h) fun f s1 q=>?_)
 cases f with
 | next=>
  obtain ⟨σ',H',I',q⟩:=q
  exact h2 a0V s1 σ' H' D I' q
 | ret v=>exact q
 | brk=>exact q
 | cont=>exact q
theorem FD (h1:PS X st t):PSs X [st] t:=by
 intro a0V s σ H D I h
 refine ZV (aN (h1 a0V s σ H D I h) fun f s1 q=>?_)
 cases f with
 | next=>exact Xm q
 | ret v=>exact q
 | brk=>exact q
 | cont=>exact q
theorem FE:PS X (.Pass pos) yY:=fun _ _ σ H _ I h=>wpAny_Pass ⟨σ,H,I,h⟩
theorem Inv.quiet {a0V:List (Addr×SD)}{σ:St}{H:Hp}{s:Qj}(I:Inv X a0V σ H s):interactive X.env=false:=by simp [interactive,I.ok.kind]
noncomputable def FF (te:TE):TS:=fun D σ H=>te σ H fun _ H1=>D.nx σ H1
theorem FG (he:PE X e te)(hs:Uv e none pos.line X.env=pure false:=by rfl):PS X (.Expr e pos) (FF te):=by
 intro a0V s σ H D I h
 exact wpAny_Expr_any (aN (he a0V s σ H _ I h) fun v s1 ⟨x,H1,I1,r1,q1⟩=>⟨σ,H1,I1,q1⟩) I.quiet hs
noncomputable def FH (te:TE):TS:=fun D σ H=>te σ H D.rt
theorem FI (he:PE X e te):PS X (.Return (some e) pos) (FH te):=by
 intro a0V s σ H D I h
 exact wpAny_Return_some (aN (he a0V s σ H _ I h) fun v s1 ⟨x,H1,I1,r1,q1⟩=>⟨x,σ,H1,I1,r1,q1⟩)
noncomputable def FJ:TS:=fun D _ H=>D.rt .non H
theorem FK:PS X (.Return none pos) FJ:=fun _ _ σ H _ I h=>wpAny_Return_none ⟨.non,σ,H,I,rfl,h⟩
noncomputable def FL (c:TT)(t u:TS):TS:=fun D σ H=>c σ H fun b H1=>if b=true then t D σ H1 else u D σ H1
theorem FN {c:Qr}{a b:List Stmt}{tc:TT}(hc:PT X c tc)(ha:PSs X a t)(hb:PSs X b u):PS X (.If c a b pos) (FL tc t u):=by
 intro a0V s σ H D I h
 refine wpAny_If (aN (hc a0V s σ H _ I h) fun d s1 ⟨H1,I1,q1⟩=>?_)
 cases d with
 | true=>exact ha a0V s1 σ H1 D I1 q1
 | false=>exact hb a0V s1 σ H1 D I1 q1
end
noncomputable abbrev TG:=V->St->Hp->(St->Hp->Prop)->Prop
noncomputable abbrev lG:=List V->St->Hp->(St->Hp->Prop)->Prop
noncomputable def PG (X:Cx)(target:Qr)(t:TG):Prop:=
 ∀ (a0V:List (Addr×SD))(s:Qj)(σ:St)(H:Hp)(v:V)(u:Qg)(Q:St->Hp->Prop),Inv X a0V σ H s->RelV v u->t v σ H Q->
  QV (QX X.prog X.w) X.A (Wx target X.env u) (fun _ s'=>∃ σ' H',Inv X a0V σ' H' s'/\Q σ' H') X.xe s
noncomputable def nJ (X:Cx)(ts:List Qr)(t:lG):Prop:=
 ∀ (a0V:List (Addr×SD))(s:Qj)(σ:St)(H:Hp)(vs:List V)(us:List Qg)(Q:St->Hp->Prop),Inv X a0V σ H s->Vals vs us->t vs σ H Q->
  QV (QX X.prog X.w) X.A (assignInOrder ((S4 ts X.env).map (·.2)) us) (fun _ s'=>∃ σ' H',Inv X a0V σ' H' s'/\Q σ' H') X.xe s
noncomputable abbrev yZ:=V->V->V->Hp->(Hp->Prop)->Prop
noncomputable def FP (X:Cx)(t:yZ):Prop:=
 ∀ (a0V:List (Addr×SD))(s:Qj)(σ:St)(H:Hp)(o i v:V)(ov iv u:Qg)(Q:Hp->Prop),Inv X a0V σ H s->RelV o ov->RelV i iv->RelV v u->t o i v H Q->
  QV (QX X.prog X.w) X.A (setItem ov iv u) (fun _ s'=>∃ H',Inv X a0V σ H' s'/\Q H') X.xe s
section
variable {X:Cx}{pos:SE}
noncomputable def sS (i:Nat):TG:=fun v σ H Q=>Q (σ.set i (some v)) H
theorem zA {i:Nat}{x:Str}(hN:X.N.Nodup)(hi:X.N[i]? = some x)(hx:Loc X.env.scope x)(hf:X.fn x=true\/X.env.scope.names.lookup x=some .local:=by first|exact .inl rfl|exact .inr rfl|assumption):PG X (.Name x pos) (sS i):=by
 intro a0V s σ H v u Q I r h
 exact ZJ (yW I hN hi hx r (fun s' I'=>⟨_,H,I',h⟩) hf)
noncomputable def zB:lG:=fun vs σ H Q=>vs=[]/\Q σ H
noncomputable def zC (t:TG)(u:lG):lG:=fun vs σ H Q=>∃ v r,vs=v::r/\t v σ H fun σ' H'=>u r σ' H' Q
theorem FQ:nJ X [] zB:=by
 intro a0V s σ H vs us Q I r h
 obtain ⟨e,h⟩:=h
 subst e
 cases r
 exact assignInOrder_nil ⟨σ,H,I,h⟩
theorem FR {e:Qr}{es:List Qr}{t:TG}{u:lG}(h1:PG X e t)(h2:nJ X es u)
  (hs:(S4 (e::es) X.env).map (·.2)=Wx e X.env::(S4 es X.env).map (·.2):=by rfl):nJ X (e::es) (zC t u):=by
 intro a0V s σ H vs us Q I r h
 obtain ⟨v,vr,e1,h⟩:=h
 subst e1
 cases r with
 | cons r rr=>
  rw [hs]
  refine assignInOrder_cons (aN (h1 a0V s σ H _ _ _ I r h) fun _ s1 ⟨σ1,H1,I1,q1⟩=>?_)
  exact h2 a0V s1 σ1 H1 _ _ Q I1 rr q1
noncomputable def zD (te:TE)(g:TG):TS:=fun D σ H=>te σ H fun x H1=>g x σ H1 D.nx
theorem FT {tg e:Qr}{te:TE}{g:TG}(he:PE X e te)(hg:PG X tg g)(hs:swapsWithSole [tg] e pos.line X.env=pure false:=by rfl)(hw:X3 [tg] e X.env=pure none:=by rfl)
  (h1:(S4 [tg] X.env).map (·.2)=[Wx tg X.env]:=by rfl):PS X (.Assign [tg] e pos) (zD te g):=by
 intro a0V s σ H D I h
 refine wpAny_Assign_stores (aN (he a0V s σ H _ I h) fun v s1 ⟨x,H1,I1,r1,q1⟩=>?_) hs hw
 rw [h1]
 exact aN (hg a0V s1 σ H1 x v _ I1 r1 q1) fun _ s2 q=>q
theorem FU {i:Nat}{x:Str}{e:Qr}{te:TE}{pos':SE}(hN:X.N.Nodup)(hi:X.N[i]? = some x)(hx:Loc X.env.scope x)(he:PE X e te)(hs:Uv e (some (.Name x pos')) pos.line X.env=pure false:=by rfl)(hf:X.fn x=true\/X.env.scope.names.lookup x=some .local:=by first|exact .inl rfl|exact .inr rfl|assumption) :
  PS X (.Assign [.Name x pos'] e pos) (zD te (sS i)):=by
 intro a0V s σ H D I h
 refine wpAny_Assign_Name (aN (he a0V s σ H _ I h) fun v s1 ⟨y,H1,I1,r1,q1⟩=>?_) hs
 exact yW I1 hN hi hx r1 (fun s2 I2=>⟨_,H1,I2,q1⟩) hf
end
section
variable {X:Cx}{pos:SE}
end
structure It where
 go:Nat->Hp->Prop
 yld:Nat->Hp->V->Hp->Prop
 stop:Nat->Hp->Prop
noncomputable def fN (X:Cx)(a0V:List (Addr×SD))(H:Hp)(b:Addr):Prop:=
 H b=none/\b≠X.env.locals/\b∉X.fs/\(b∈X.ex\/X.s₀.heap.objs.size<=b)/\(∀ x c,X.env.cells.lookup x=some c->c≠b)/\∀ p∈X.pn++a0V,p.1≠b
theorem Inv.fpOk {X:Cx}{a0V:List (Addr×SD)}{σ:St}{H H':Hp}{s:Qj}{b:Addr}(I:Inv X a0V σ H s)(hb:s.heap.objs.size<=b)(hn:H' b=none):fN X a0V H' b:=by
 refine ⟨hn,SQ (Rc I.lt hb),I.nofs hb,.inr (Sb I.sz hb),fun x c e z=>?_,fun p hp z=>?_⟩
 ·obtain ⟨v,q⟩:=I.cell x c e
  exact absurd (Rc q.lt (by rw [z];exact hb)) (TF _)
 ·exact absurd (Rc (QD (I.pin p hp).1) (by rw [z];exact hb)) (TF _)
structure Turn (P:QR)(w:Rg)(K:Qf)(tg:Qr)(J:It)(fp:List Addr)(it:Addr)(tn:Nat->RG->Prop):Prop where
 mem:it∈fp
 obj:∀ i h,tn i h->∀ b∈fp,∃ o,h.get? b=some o/\∀ v,o.data≠.cell v
 keep:∀ i h h',tn i h->(∀ b∈fp,∀ o,h.get? b=some o->h'.get? b=some o)->tn i h'
 item:∀ (X:Cx),X.prog=P->X.w=w->X.K=K->X.calm=true->∀ (i:Nat)(a0V:List (Addr×SD))(s:Qj)(σ:St)(H:Hp)(E:Qg->Qj->Prop),Inv X a0V σ H s->(∀ b∈fp,fN X a0V H b)->tn i s.heap->J.go i H->
  QV (QX P w) X.A (Vu (.ref it)) (fun r s1=>∃ u,r=some u /\
   QV (QX P w) X.A (VU tg (.ref it) u) (fun _ s2=>∃ x H',Inv X a0V σ H' s2/\RelV x u/\J.yld i H x H'/\tn (i+1) s2.heap/\∀ b∈fp,H' b=none) E s1) E s
 done:∀ (X:Cx),X.prog=P->X.w=w->X.K=K->X.calm=true->∀ (i:Nat)(a0V:List (Addr×SD))(s:Qj)(σ:St)(H:Hp)(E:Qg->Qj->Prop),Inv X a0V σ H s->(∀ b∈fp,fN X a0V H b)->tn i s.heap->J.stop i H->
  QV (QX P w) X.A (Vu (.ref it)) (fun r s1=>r=none/\Inv X a0V σ H s1) E s
 self:∀ (A:Q0)(i:Nat)(s:Qj)(Q:Qg->Qj->Prop)(E:Qg->Qj->Prop),tn i s.heap->Q (.ref it) s->QV (QX P w) A (XB (.ref it)) Q E s
noncomputable abbrev TI:=St->Hp->(It->Hp->Prop)->Prop
noncomputable def o6 (X:Cx)(a0V:List (Addr×SD))(σ:St)(tg:Qr)(R:It->Hp->Prop)(itv:Qg)(s2:Qj):Prop:=
 ∃ (it:Addr)(fp:List Addr)(tn:Nat->RG->Prop)(J:It)(H':Hp),itv=.ref it/\Inv X a0V σ H' s2/\Turn X.prog X.w X.K tg J fp it tn/\tn 0 s2.heap/\(∀ b∈fp,fN X a0V H' b)/\R J H'
noncomputable def PI (X:Cx)(tg iter:Qr)(wi:TI):Prop:=
 ∀ (a0V:List (Addr×SD))(s:Qj)(σ:St)(H:Hp)(R:It->Hp->Prop),Inv X a0V σ H s->wi σ H R->
  QV (QX X.prog X.w) X.A (eval iter X.env) (fun v s1=>QV (QX X.prog X.w) X.A (XB v) (o6 X a0V σ tg R) X.xe s1) X.xe s
theorem o7 {M:Zd}{A:Q0}{E:Qg->Qj->Prop}{s:Qj}{tg:Qr}{it:Addr}{u:Qg}{o:SD}{n:String}{vs:Array Qg}{Q:Unit->Qj->Prop}(ho:s.heap.get? it=some o)(hc:o.cls=.type n)(hd:o.data=.fields vs)
  (hn:["enumerate","zip","dict_itemiterator","dict_reverseitemiterator","odict_iterator","itertools.zip_longest","itertools.pairwise"].contains n=false) (hQ:Q () s):QV M A (VU tg (.ref it) u) Q E s:=by
 unfold VU
 cases tg<;>first
  | exact Qt hQ
  | (cases u<;>first
    | exact Qt hQ
    | (refine Qh (XA ho ?_)
       rw [hc,hd]
       show QV M A (if (["enumerate","zip","dict_itemiterator","dict_reverseitemiterator","odict_iterator","itertools.zip_longest","itertools.pairwise"].contains n&&vs[0]? == some (Uq _))=true then _ else _) Q E s
       rw [if_neg (by intro h;rw [hn,Zm] at h;cases h)]
       exact Qt hQ))
noncomputable def sT (K:Qf)(a:Addr):It:=
 ⟨fun i H=>∃ xs x,SqL K H a xs/\xs[i]? = some x,fun i H x H'=>H'=H/\∀ xs,SqL K H a xs->xs[i]? = some x,fun i H=>∃ xs,SqL K H a xs/\xs.length<=i⟩
noncomputable def sU (K:Qf)(a:Addr):It:=
 ⟨fun i H=>∃ xs x,SqT K H a xs/\xs[i]? = some x,fun i H x H'=>H'=H/\∀ xs,SqT K H a xs->xs[i]? = some x,fun i H=>∃ xs,SqT K H a xs/\xs.length<=i⟩
noncomputable def nK (lo:Int)(n:Nat):It:=⟨fun i _=>i<n,fun i H x H'=>H'=H/\x=.int (lo+i),fun i _=>n<=i⟩
theorem FV {P:QR}{w:Rg}{K:Qf}{tg:Qr}(a it:Addr):Turn P w K tg (sT K a) [it] it (fun i h=>h.IsListIter it a i) where
 mem:=by simp
 obj:=fun i h st b hb=>by
  have e:b=it:=by simpa using hb
  subst e
  obtain ⟨o,e,c,d⟩:=st
  exact ⟨o,e,fun v z=>by rw [d] at z;cases z⟩
 keep:=fun i h h' st k=>st.at fun o e=>k it (by simp) o e
 item:=by
  intro X hP hw hK hc i a0V s σ H E I hf st hg
  subst hP hw hK
  obtain ⟨xs,x,hq,hx⟩:=hg
  obtain ⟨its,rv,p,hz⟩:=I.list hq
  obtain ⟨u,hu,ru⟩:=rv.get hx
  obtain ⟨f0,f1,f2,f3,f4,f5⟩:=hf it (by simp)
  refine Yt st p.isList (x:=u) (by simpa using hu) fun h' st' sb=>?_
  have I1:Inv X a0V σ H { s with heap:=h' }:=I.turned (t':=s.toks) (fun b o hb e=>(sb.2 b hb).trans e) f0 f1 f3 f4 f5
  obtain ⟨o,e,c,d⟩:=id st'
  exact ⟨u,rfl,o7 (s:={ s with heap:=h' }) e c d (by decide) ⟨x,H,I1,ru,⟨rfl,fun ys hy=>by rw [I.list_inj hy hq];exact hx⟩,st',fun b hb=>(hf b hb).1⟩⟩
 done:=by
  intro X hP hw hK hc i a0V s σ H E I hf st hg
  subst hP hw hK
  obtain ⟨xs,hq,hx⟩:=hg
  obtain ⟨its,rv,p,hz⟩:=I.list hq
  obtain ⟨f0,f1,f2,f3,f4,f5⟩:=hf it (by simp)
  have hl:=rv.length
  exact YS (I.ok.hd hc) st p.isList (by simp;omega) fun h' eb=>⟨rfl,I.turned (t':=s.toks) (fun b o hb e=>eb b o hb e) f0 f1 f3 f4 f5⟩
 self:=fun _ _ _ _ _ st h=>wpAny_pyIter_listiter st h
theorem FW {P:QR}{w:Rg}{K:Qf}{tg:Qr}(a it:Addr):Turn P w K tg (sU K a) [it] it (fun i h=>h.IsTupleIter it a i) where
 mem:=by simp
 obj:=fun i h st b hb=>by
  have e:b=it:=by simpa using hb
  subst e
  obtain ⟨o,e,c,d⟩:=st
  exact ⟨o,e,fun v z=>by rw [d] at z;cases z⟩
 keep:=fun i h h' st k=>st.at fun o e=>k it (by simp) o e
 item:=by
  intro X hP hw hK hc i a0V s σ H E I hf st hg
  subst hP hw hK
  obtain ⟨xs,x,hq,hx⟩:=hg
  obtain ⟨its,rv,p,hz⟩:=I.tuple hq
  obtain ⟨u,hu,ru⟩:=rv.get hx
  obtain ⟨f0,f1,f2,f3,f4,f5⟩:=hf it (by simp)
  refine Ye st (show s.heap.IsTuple a its.toArray from p) (x:=u) (by simpa using hu) fun h' st' sb=>?_
  have I1:Inv X a0V σ H { s with heap:=h' }:=I.turned (t':=s.toks) (fun b o hb e=>(sb.2 b hb).trans e) f0 f1 f3 f4 f5
  obtain ⟨o,e,c,d⟩:=id st'
  exact ⟨u,rfl,o7 (s:={ s with heap:=h' }) e c d (by decide) ⟨x,H,I1,ru,⟨rfl,fun ys hy=>by rw [I.tuple_inj hy hq];exact hx⟩,st',fun b hb=>(hf b hb).1⟩⟩
 done:=by
  intro X hP hw hK hc i a0V s σ H E I hf st hg
  subst hP hw hK
  obtain ⟨xs,hq,hx⟩:=hg
  obtain ⟨its,rv,p,hz⟩:=I.tuple hq
  obtain ⟨f0,f1,f2,f3,f4,f5⟩:=hf it (by simp)
  have hl:=rv.length
  exact Ys (I.ok.hd hc) st (show s.heap.IsTuple a its.toArray from p) (by simp;omega) fun h' eb=>⟨rfl,I.turned (t':=s.toks) (fun b o hb e=>eb b o hb e) f0 f1 f3 f4 f5⟩
 self:=fun _ _ _ _ _ st h=>wpAny_pyIter_tupleiter st h
theorem FX {P:QR}{w:Rg}{K:Qf}{tg:Qr}(it:Addr)(lo:Int)(n:Nat):Turn P w K tg (nK lo n) [it] it (fun i h=>IsRangeIter h it (lo+(i:Nat) * 1) ((n:Int) - (i:Nat)) 1) where
 mem:=by simp
 obj:=fun i h st b hb=>by
  have e:b=it:=by simpa using hb
  subst e
  exact ⟨_,st,fun v z=>by
   have z':Z5 _=Data.cell v:=z
   cases z'⟩
 keep:=fun i h h' st k=>k it (by simp) _ st
 item:=by
  intro X hP hw hK hc i a0V s σ H E I hf st hg
  subst hP hw hK
  obtain ⟨f0,f1,f2,f3,f4,f5⟩:=hf it (by simp)
  have W:=Walks.range (prog:=X.prog) (w:=X.w) (I.ok.hd hc) it lo 1 n
  refine W.item i s _ _ hg st fun v h' tk hv st' kk=>?_
  obtain ⟨t,rfl⟩:=hv
  have I1:Inv X a0V σ H { s with heap:=h',toks:=tk }:=I.turned (fun b o hb e=>kk b o (by simpa using hb) e) f0 f1 f3 f4 f5
  refine ⟨_,rfl,o7 (s:={ s with heap:=h',toks:=tk }) (n:="range_iterator") st' rfl rfl (by decide) ⟨.int (lo+i),H,I1,⟨t,?_⟩,⟨rfl,rfl⟩,st',fun b hb=>(hf b hb).1⟩⟩
  rw [Int.mul_one]
 done:=by
  intro X hP hw hK hc i a0V s σ H E I hf st hg
  subst hP hw hK
  obtain ⟨f0,f1,f2,f3,f4,f5⟩:=hf it (by simp)
  exact wpAny_pyNext_range_end (I.ok.hd hc) st (by have:n<=i:=hg;omega) fun h' eb=>⟨rfl,I.turned (t':=s.toks) (fun b o hb e=>eb b o hb e) f0 f1 f3 f4 f5⟩
 self:=fun _ _ _ _ _ st h=>wpAny_pyIter_rangeiter st h
end L2
namespace L2
open PySem PySem.Spec PyProof.Rows
section
variable {X:Cx}{tg:Qr}
theorem zE {a0V:List (Addr×SD)}{σ:St}{H:Hp}{s:Qj}{R:It->Hp->Prop}{E:Qg->Qj->Prop}{lo hi:Int}{t u v:YB}{tk:Nat}(I:Inv X a0V σ H s)(h1:-(2 ^ 62)<=lo)(h2:lo<2 ^ 62)(h3:-(2 ^ 62)<=hi)(h4:hi<2 ^ 62)
  (q:R (nK lo (hi - lo).toNat) H):QV (QX X.prog X.w) X.A (XB (.ref s.heap.objs.size)) (o6 X a0V σ tg R) E { s with heap:=s.heap.push { cls:=.type "range",data:=.fields #[.int lo t,.int hi u,.int 1 v] },toks:=tk }:=by
 refine wpAny_pyIter_range (IsRange.new ..) (small_one h1 h2 h3 h4) ?_
 have I1:Inv X a0V σ H { s with heap:=s.heap.push { cls:=.type "range",data:=.fields #[.int lo t,.int hi u,.int 1 v] },toks:=tk }:=I.kept fun b o e=>Qo _ e
 refine ⟨(s.heap.push { cls:=.type "range",data:=.fields #[.int lo t,.int hi u,.int 1 v] }).objs.size,[(s.heap.push { cls:=.type "range",data:=.fields #[.int lo t,.int hi u,.int 1 v] }).objs.size],_,_,H,rfl,
  I1.kept (t':=tk) fun b o e=>Qo _ e,FX _ lo (hi - lo).toNat,?_,fun b hb=>?_,q⟩
 ·have e1:lo+((0:Nat):Int) * 1=lo:=by simp
  have e2:(((hi - lo).toNat:Nat):Int) - ((0:Nat):Int)=Z8 lo hi 1:=by rw [rangeSize_one];split<;>omega
  show IsRangeIter _ _ (lo+((0:Nat):Int) * 1) ((((hi - lo).toNat:Nat):Int) - ((0:Nat):Int)) 1
  rw [e1,e2]
  exact QY _ rfl
 ·have e:b=(s.heap.push { cls:=.type "range",data:=.fields #[.int lo t,.int hi u,.int 1 v] }).objs.size:=by simpa using hb
  subst e
  exact I1.fpOk (Qq _) (I1.hok.fresh (Qq _))
noncomputable def FY (ta:TA):TI:=fun σ H R=>ta σ H fun vs H1=>∃ j:Int,vs=[.int j]/\-(2 ^ 62)<=j/\j<2 ^ 62/\R (nK 0 j.toNat) H1
noncomputable def FZ (ta:TA):TI:=fun σ H R=>ta σ H fun vs H1=>∃ i j:Int,vs=[.int i,.int j]/\(-(2 ^ 62)<=i/\i<2 ^ 62/\-(2 ^ 62)<=j/\j<2 ^ 62)/\R (nK i (j - i).toNat) H1
theorem F0 {a:Qr}{ta:TA}{p pos:SE}(hg:Gl X "range") (hm:X.mg "range" = none) (ha:PA X [a] ta)(hs:Rl [a] X.env=[(false,eval a X.env)]:=by rfl):PI X tg (.Call (.Name "range" p) [a] [] pos) (FY ta):=by
 intro a0V s σ H R I h
 refine Call_ (j7 I hg hm boot_range (Tv (aN (ha pos a0V s σ H _ I h) fun us s1 ⟨vs,H1,I1,r1,q1⟩=>?_) hs rfl))
 obtain ⟨j,e,q1,q2,q⟩:=q1
 subst e
 cases r1 with
 | cons r rr=>
  cases rr
  obtain ⟨t,rfl⟩:=r
  exact call_range_1 (zE I1 (by omega) (by omega) q1 q2 (by simpa using q))
theorem F1 {a b:Qr}{ta:TA}{p pos:SE}(hg:Gl X "range") (hm:X.mg "range" = none) (ha:PA X [a,b] ta)(hs:Rl [a,b] X.env=[(false,eval a X.env),(false,eval b X.env)]:=by rfl)(hs2:Rl [b] X.env=[(false,eval b X.env)]:=by rfl) :
  PI X tg (.Call (.Name "range" p) [a,b] [] pos) (FZ ta):=by
 intro a0V s σ H R I h
 refine Call_ (j7 I hg hm boot_range (Tv (aN (ha pos a0V s σ H _ I h) fun us s1 ⟨vs,H1,I1,r1,q1⟩=>?_) (by rw [hs,hs2]) (by rw [hs2];rfl)))
 obtain ⟨i,j,e,⟨q1,q2,q3,q4⟩,q⟩:=q1
 subst e
 cases r1 with
 | cons r rr=>
  cases rr with
  | cons r' rr=>
   cases rr
   obtain ⟨t,rfl⟩:=r
   obtain ⟨t',rfl⟩:=r'
   exact call_range_2 (zE I1 q1 q2 q3 q4 q)
noncomputable def F2 (wi:TI)(g:TG)(tb:TS):TS:=fun D σ H=>wi σ H fun J H1=>∃ W:Nat->Nat->St->Hp->Prop,(∃ m,W 0 m σ H1)/\∀ i m σ H,W i m σ H->
 (J.stop i H/\D.nx σ H)\/(J.go i H/\∃ N:St->Hp->Prop,(∀ σ' H',N σ' H'->∃ m',m'<m/\W (i+1) m' σ' H')/\∀ x H',J.yld i H x H'->g x σ H' fun σ2 H2=>tb { D with nx:=N,ct:=N,bk:=D.nx } σ2 H2)
noncomputable def nM (fp:List Addr)(h:RG):List (Addr×SD):=fp.filterMap fun b=>(h.get? b).map fun o=>(b,o)
theorem o8 {fp:List Addr}{h:RG}{b:Addr}{o:SD}(hb:b∈fp)(e:h.get? b=some o):(b,o)∈nM fp h:=V5.mpr ⟨b,hb,by rw [e];rfl⟩
theorem F3 {fp:List Addr}{h:RG}{p:Addr×SD}(hp:p∈nM fp h):p.1∈fp/\h.get? p.1=some p.2:=by
 obtain ⟨b,hb,e⟩:=V5.mp hp
 cases q:h.get? b with
 | none=>rw [q] at e;cases e
 | some o=>
  rw [q] at e
  have e':(b,o)=p:=Q3 e
  subst e'
  exact ⟨hb,q⟩
theorem Inv.pinned {a0V:List (Addr×SD)}{σ:St}{H:Hp}{s:Qj}{fp:List Addr}(I:Inv X a0V σ H s)(hf:∀ b∈fp,fN X a0V H b)(ho:∀ b∈fp,∃ o,s.heap.get? b=some o/\∀ v,o.data≠.cell v):Inv X (a0V++nM fp s.heap) σ H s:=
 I.pins_of fun p hp=>(RE.mp hp).elim (fun z=>I.pin p (RO _ z)) fun z=>by
  obtain ⟨hb,e⟩:=F3 z
  obtain ⟨f0,f1,f2,_⟩:=hf p.1 hb
  obtain ⟨o,e',d⟩:=ho p.1 hb
  rw [e] at e';cases e'
  exact ⟨e,f0,f1,f2,d⟩
theorem Inv.unpinned {a0V pl:List (Addr×SD)}{σ:St}{H:Hp}{s:Qj}(I:Inv X (a0V++pl) σ H s):Inv X a0V σ H s:=I.pins_of fun p hp=>I.pin p (RO _ (X0 _ hp))
theorem F4 {iter:Qr}{body:List Stmt}{wi:TI}{g:TG}{tb:TS}{pos:SE}(hp:Z0 (QX X.prog X.w) X.A X.env X.xe)(hc:X.calm=true)(hi:PI X tg iter wi)(hg:PG X tg g)(hb:PSs X body tb)
  (hs:∀ x,UH iter X.env x=pure x:=by intro _;rfl):PS X (.For tg iter body [] pos) (F2 wi g tb):=by
 intro a0V s σ H D I h
 refine wpAny_For (aN (hi a0V s σ H _ I h) fun v s1 h1=>aN h1 fun itv s2 h2=>?_) hs
 obtain ⟨it,fp,tn,J,H2,e,I2,T,st2,f2,W,⟨m0,w0⟩,turn⟩:=h2
 subst e
  -- what stays true of the iterator's objects through the loop
 have stat:∀ {H':Hp},(∀ b∈fp,H' b=none)->∀ b∈fp,fN X a0V H' b:=fun hn b hb=>⟨hn b hb,(f2 b hb).2⟩
 refine codeAny_forLoop_any (fun n s'=>∃ i σ' H',Inv X a0V σ' H' s'/\tn i s'.heap/\(∀ b∈fp,H' b=none)/\W i n σ' H') ?_ m0 ⟨0,σ,H2,I2,st2,fun b hb=>(f2 b hb).1,w0⟩
 rintro n s3 ⟨i,σ3,H3,I3,st3,fr3,w3⟩
 rcases turn i n σ3 H3 w3 with ⟨stop,qn⟩|⟨go,N,hN,step⟩
 ·refine U5 hp (aN (T.done X rfl rfl rfl hc i a0V s3 σ3 H3 X.xe I3 (stat fr3) st3 stop) fun r s4 ⟨hr,I4⟩=>?_)
  subst hr
  exact Xm ⟨σ3,H3,I4,qn⟩
 ·refine U5 hp (aN (T.item X rfl rfl rfl hc i a0V s3 σ3 H3 X.xe I3 (stat fr3) st3 go) fun r s4 ⟨u,hr,h4⟩=>?_)
  subst hr
  refine U5 hp (aN h4 fun _ s5 ⟨x,H5,I5,r5,y5,st5,fr5⟩=>?_)
  have I5':=I5.pinned (stat fr5) (T.obj _ _ st5)
  refine U5 hp (aN (hg _ s5 σ3 H5 x u _ I5' r5 (step x H5 y5)) fun _ s6 ⟨σ6,H6,I6,q6⟩=>?_)
  refine U5 hp (aN (hb _ s6 σ6 H6 _ I6 q6) fun f s7 q7=>?_)
  have again:∀ {σ7:St}{H7:Hp},Inv X (a0V++nM fp s5.heap) σ7 H7 s7->N σ7 H7->∃ m,m<n/\∃ i σ' H',Inv X a0V σ' H' s7/\tn i s7.heap/\(∀ b∈fp,H' b=none)/\W i m σ' H':=fun {σ7 H7} I7 n7=>by
   obtain ⟨m',hm,w7⟩:=hN σ7 H7 n7
   refine ⟨m',hm,i+1,σ7,H7,I7.unpinned,T.keep _ _ _ st5 fun b hb o e=>(I7.pin (b,o) (RO _ (RO _ (o8 hb e)))).1,fun b hb=>?_,w7⟩
   obtain ⟨o,e,d⟩:=T.obj _ _ st5 b hb
   exact (I7.pin (b,o) (RO _ (RO _ (o8 hb e)))).2.1
  cases f with
  | next=>obtain ⟨σ7,H7,I7,n7⟩:=q7;exact again I7 n7
  | cont=>obtain ⟨σ7,H7,I7,n7⟩:=q7;exact again I7 n7
  | brk=>obtain ⟨σ7,H7,I7,q7⟩:=q7;exact ⟨σ7,H7,I7.unpinned,q7⟩
  | ret v=>obtain ⟨x7,σ7,H7,I7,r7,q7⟩:=q7;exact ⟨x7,σ7,H7,I7.unpinned,r7,q7⟩
end
end L2
namespace L2
open PySem PySem.Spec PyProof.Rows
noncomputable abbrev R2:=V->V->Hp->VK->Prop
noncomputable def OpR (X:Cx)(f:Qg->Qg->YD Qg)(r:R2):Prop:=
 ∀ (a0V:List (Addr×SD))(s:Qj)(σ:St)(H:Hp)(x y:V)(v u:Qg)(Q:VK),Inv X a0V σ H s->RelV x v->RelV y u->r x y H Q->
  QV (QX X.prog X.w) X.A (f v u) (EP X a0V σ Q) X.xe s
noncomputable def sV (X:Cx)(f:Qg->YD Qg)(r:V->Hp->VK->Prop):Prop:=
 ∀ (a0V:List (Addr×SD))(s:Qj)(σ:St)(H:Hp)(x:V)(v:Qg)(Q:VK),Inv X a0V σ H s->RelV x v->r x H Q->
  QV (QX X.prog X.w) X.A (f v) (EP X a0V σ Q) X.xe s
noncomputable def CallR (X:Cx)(f:Qg)(r:List V->Hp->VK->Prop):Prop:=
 ∀ (a0V:List (Addr×SD))(s:Qj)(σ:St)(H:Hp)(xs:List V)(us:List Qg)(Q:VK),Inv X a0V σ H s->Vals xs us->r xs H Q->
  QV (QX X.prog X.w) X.A (call f us) (EP X a0V σ Q) X.xe s
noncomputable def F5 (X:Cx)(r:V->Hp->(Bool->Hp->Prop)->Prop):Prop:=
 ∀ (a0V:List (Addr×SD))(s:Qj)(σ:St)(H:Hp)(x:V)(v:Qg)(Q:Bool->Hp->Prop),Inv X a0V σ H s->RelV x v->r x H Q->
  QV (QX X.prog X.w) X.A (truthy v) (TP X a0V σ Q) X.xe s
noncomputable def nN (r:R2)(ta tb:TE):TE:=fun σ H Q=>ta σ H fun x H1=>tb σ H1 fun y H2=>r x y H2 Q
noncomputable def F6 (r:V->Hp->VK->Prop)(ta:TE):TE:=fun σ H Q=>ta σ H fun x H1=>r x H1 Q
noncomputable def rI (C:Int->Int->Prop)(g:Int->Int->V):R2:=fun x y H Q=>∃ i j,x=.int i/\y=.int j/\C i j/\Q (g i j) H
noncomputable def eF (g:Int->Int->V):R2:=fun x y H Q=>∃ i j,x=.int i/\y=.int j/\Q (g i j) H
noncomputable def rU (g:Int->V):V->Hp->VK->Prop:=fun x H Q=>∃ i,x=.int i/\Q (g i) H
section
variable {X:Cx}{a b c:Qr}{ta tb tc:TE}{pos:SE}
theorem sW (ha:PE X a ta)(hb:PE X b tb){a0V:List (Addr×SD)}{s:Qj}{σ:St}{H:Hp}{R:V->V->Hp->Prop}(I:Inv X a0V σ H s)
  (h:ta σ H fun x H1=>tb σ H1 fun y H2=>R x y H2){Q:Qg->Qj->Prop}{f:Qg->Qg->YD Qg}
  (hf:∀ v u s2 x y H2,Inv X a0V σ H2 s2->RelV x v->RelV y u->R x y H2->QV (QX X.prog X.w) X.A (f v u) Q X.xe s2) :
  QV (QX X.prog X.w) X.A (eval a X.env) (fun v s₁=>QV (QX X.prog X.w) X.A (eval b X.env) (fun u s₂=>QV (QX X.prog X.w) X.A (f v u) Q X.xe s₂) X.xe s₁) X.xe s:=by
 refine aN (ha a0V s σ H _ I h) fun v s1 ⟨x,H1,I1,r1,q1⟩=>?_
 refine aN (hb a0V s1 σ H1 _ I1 q1) fun u s2 ⟨y,H2,I2,r2,q2⟩=>?_
 exact hf v u s2 x y H2 I2 r1 r2 q2
theorem F7 {op:XE}{r:R2}(ho:OpR X (T5 op) r)(ha:PE X a ta)(hb:PE X b tb):PE X (.BinOp a op b pos) (nN r ta tb):=by
 intro a0V s σ H Q I h
 exact wpAny_BinOp (sW ha hb I h fun v u s2 x y H2 I2 rx ry q=>ho a0V s2 σ H2 x y v u Q I2 rx ry q)
theorem F8 {op:UnaryOp}{r:V->Hp->VK->Prop}(ho:sV X (unaryOp op) r)(ha:PE X a ta):PE X (.UnaryOp op a pos) (F6 r ta):=by
 intro a0V s σ H Q I h
 exact UnaryOp_ (aN (ha a0V s σ H _ I h) fun v s1 ⟨x,H1,I1,r1,q1⟩=>ho a0V s1 σ H1 x v Q I1 r1 q1)
theorem o9 {f:Qg->Qg->YD Qg}{C:Int->Int->Prop}{g:Int->Int->Int}
  (rule:∀ (i j:Int)(t u:YB)(s:Qj)(Q:Qg->Qj->Prop)(E:Qg->Qj->Prop),C i j->Q (.int (g i j) s.toks) { s with toks:=s.toks+1 }->QV (QX X.prog X.w) X.A (f (.int i t) (.int j u)) Q E s) :
  OpR X f (rI C fun i j=>.int (g i j)):=by
 intro a0V s σ H x y v u Q I rx ry h
 obtain ⟨i,j,rfl,rfl,hc,q⟩:=h
 obtain ⟨t,rfl⟩:=rx
 obtain ⟨t',rfl⟩:=ry
 exact rule i j t t' s _ _ hc ⟨.int (g i j),H,I.tok _,⟨_,rfl⟩,q⟩
theorem zF {f:Qg->Qg->YD Qg}{g:Int->Int->Int}
  (rule:∀ (i j:Int)(t u:YB)(s:Qj)(Q:Qg->Qj->Prop)(E:Qg->Qj->Prop),Q (.int (g i j) s.toks) { s with toks:=s.toks+1 }->QV (QX X.prog X.w) X.A (f (.int i t) (.int j u)) Q E s) :
  OpR X f (eF fun i j=>.int (g i j)):=by
 intro a0V s σ H x y v u Q I rx ry h
 obtain ⟨i,j,rfl,rfl,q⟩:=h
 obtain ⟨t,rfl⟩:=rx
 obtain ⟨t',rfl⟩:=ry
 exact rule i j t t' s _ _ ⟨.int (g i j),H,I.tok _,⟨_,rfl⟩,q⟩
theorem pJ {f:Qg->Qg->YD Qg}{g:Int->Int->Bool}
  (rule:∀ (i j:Int)(t u:YB)(s:Qj)(Q:Qg->Qj->Prop)(E:Qg->Qj->Prop),Q (.bool (g i j)) s->QV (QX X.prog X.w) X.A (f (.int i t) (.int j u)) Q E s) :
  OpR X f (eF fun i j=>.bl (g i j)):=by
 intro a0V s σ H x y v u Q I rx ry h
 obtain ⟨i,j,rfl,rfl,q⟩:=h
 obtain ⟨t,rfl⟩:=rx
 obtain ⟨t',rfl⟩:=ry
 exact rule i j t t' s _ _ ⟨.bl (g i j),H,I,rfl,q⟩
noncomputable def F9 (i j:Int):Prop:=0<=j/\j<=1000000/\i.natAbs<2 ^ 64
noncomputable def CMul (i j:Int):Prop:=(-(2 ^ 64)<i/\i<2 ^ 64)\/(-(2 ^ 64)<j/\j<2 ^ 64)
theorem CMul.ok {i j:Int}(h:CMul i j):Zg i j:=by
 rcases h with ⟨h1,h2⟩|⟨h1,h2⟩
 ·exact .of_left (intBits_le_64 h1 h2)
 ·exact .of_right (intBits_le_64 h1 h2)
theorem op_add:OpR X (T5 .Add) (eF fun i j=>.int (i+j)):=zF fun _ _ _ _ _ _ _ q=>add_int q
theorem Ga:OpR X (T5 .Sub) (eF fun i j=>.int (i - j)):=zF fun _ _ _ _ _ _ _ q=>sub_int q
theorem Gb:OpR X (T5 .Mod) (rI (fun _ j=>0<j) fun i j=>.int (i % j)):=o9 fun i j _ _ _ _ _ hc q=>by
 have h1:(0:Int)<j:=hc
 exact mod_int' (by omega) (by rw [Int.fmod_eq_emod_of_nonneg i (by omega)];exact q)
theorem f6 {f:Qg->YD Qg}{g:Int->Int}
  (rule:∀ (i:Int)(t:YB)(s:Qj)(Q:Qg->Qj->Prop)(E:Qg->Qj->Prop),Q (.int (g i) s.toks) { s with toks:=s.toks+1 }->QV (QX X.prog X.w) X.A (f (.int i t)) Q E s) :
  sV X f (rU fun i=>.int (g i)):=by
 intro a0V s σ H x v Q I rx h
 obtain ⟨i,rfl,q⟩:=h
 obtain ⟨t,rfl⟩:=rx
 exact rule i t s _ _ ⟨.int (g i),H,I.tok _,⟨_,rfl⟩,q⟩
theorem Gd:sV X (unaryOp .USub) (rU fun i=>.int (-i)):=f6 fun _ _ _ _ _ q=>neg_int q
end
section
variable {X:Cx}{a b c:Qr}{ta tb tc:TE}{pos:SE}
theorem Ge {a0V:List (Addr×SD)}{σ:St}{H:Hp}{s:Qj}{Q:VK}{k k':Bool}(I:Inv X a0V σ H s)(q:Q (.bl k) H)(e:k=k'):EP X a0V σ Q (.bool k') s:=by
 subst e
 exact ⟨.bl k,H,I,rfl,q⟩
theorem sX:OpR X (RT .Lt) (eF fun i j=>.bl (decide (i<j))):=pJ fun _ _ _ _ _ _ _ q=>lt_int q
theorem sY:OpR X (RT .LtE) (eF fun i j=>.bl (decide (i<=j))):=pJ fun _ _ _ _ _ _ _ q=>le_int q
theorem sZ:OpR X (RT .Gt) (eF fun i j=>.bl (decide (j<i))):=pJ fun _ _ _ _ _ _ _ q=>gt_int q
theorem tB:OpR X (RT .GtE) (eF fun i j=>.bl (decide (j<=i))):=pJ fun _ _ _ _ _ _ _ q=>ge_int q
theorem zG:OpR X (RT .In) (fun x y H Q=>∃ i j,x=.str i/\y=.str j/\Q (.bl (!(RM j i 0 j.length 1).isEmpty)) H):=by
 intro a0V s σ H x y v u Q I rx ry h
 obtain ⟨i,j,rfl,rfl,q⟩:=h
 obtain ⟨t,rfl⟩:=rx
 obtain ⟨t',rfl⟩:=ry
 exact in_str (Ge I q rfl)
theorem OpR.or {f:Qg->Qg->YD Qg}{r r':R2}(h:OpR X f r)(h':OpR X f r'):OpR X f (fun x y H Q=>r x y H Q\/r' x y H Q):=by
 intro a0V s σ H x y v u Q I rx ry q
 rcases q with q|q
 ·exact h a0V s σ H x y v u Q I rx ry q
 ·exact h' a0V s σ H x y v u Q I rx ry q
theorem eG (b:Qr){op:UT}(h:op≠.In:=by decide)(h2:op≠.NotIn:=by decide):TV op b=false:=by
 have e1:(op == CmpOp.In)=false:=by cases op<;>first|rfl|exact absurd rfl h
 have e2:(op == CmpOp.NotIn)=false:=by cases op<;>first|rfl|exact absurd rfl h2
 cases b<;>simp [TV,e1,e2]
theorem Gf {op:UT}{r:R2}(ho:OpR X (RT op) r)(ha:PE X a ta)(hb:PE X b tb)(hm:TV op b=false):PE X (.Compare a [op] [b] pos) (nN r ta tb):=by
 intro a0V s σ H Q I h
 exact wpAny_Compare1 (sW ha hb I h fun v u s2 x y H2 I2 rx ry q=>ho a0V s2 σ H2 x y v u Q I2 rx ry q) hm
noncomputable def zH (t:TE):TT:=fun σ H Q=>t σ H fun x H'=>∃ k,x=.bl k/\Q k H'
theorem Gg {op:UT}{r:R2}(ho:OpR X (RT op) r)(ha:PE X a ta)(hb:PE X b tb)(hm:TV op b=false):PT X (.Compare a [op] [b] pos) (zH (nN r ta tb)):=by
 intro a0V s σ H Q I h
 refine wpAny_isTrue_Compare1 (aN (ha a0V s σ H _ I h) fun v s1 ⟨x,H1,I1,r1,q1⟩=>aN (hb a0V s1 σ H1 _ I1 q1) fun u s2 ⟨y,H2,I2,r2,q2⟩=>
  aN (ho a0V s2 σ H2 x y v u _ I2 r1 r2 q2) fun c s3 ⟨z,H3,I3,r3,k,e,q3⟩=>?_) hm
 subst e
 cases r3
 exact S3 ⟨H3,I3,q3⟩
noncomputable def tD (r r':R2)(ta tb tc:TE):TE:=fun σ H Q=>ta σ H fun x H1=>tb σ H1 fun y H2=>r x y H2 fun z H3=>∃ k,z=.bl k /\
 (if k=true then tc σ H3 fun w' H4=>r' y w' H4 Q else Q (.bl false) H3)
theorem Gh {op op':UT}{r r':R2}(ho:OpR X (RT op) r)(ho':OpR X (RT op') r')(ha:PE X a ta)(hb:PE X b tb)(hc:PE X c tc)
  (hm:ZW [op,op'] [b,c]=false:=by with_unfolding_all rfl):PE X (.Compare a [op,op'] [b,c] pos) (tD r r' ta tb tc):=by
 intro a0V s σ H Q I h
 refine Compare_chain (aN (ha a0V s σ H _ I h) fun v s1 ⟨x,H1,I1,r1,q1⟩=>chain_link (aN (hb a0V s1 σ H1 _ I1 q1) fun u s2 ⟨y,H2,I2,r2,q2⟩=>
  aN (ho a0V s2 σ H2 x y v u _ I2 r1 r2 q2) fun d s3 ⟨z,H3,I3,r3,k,e,q3⟩=>?_)) hm
 subst e
 cases r3
 refine S3 ?_
 cases k with
 | false=>exact ite_ff ⟨.bl false,H3,I3,rfl,q3⟩
 | true=>exact ite_tt (chain_last (aN (hc a0V s3 σ H3 _ I3 q3) fun w' s4 ⟨z',H4,I4,r4,q4⟩=>ho' a0V s4 σ H4 y z' u w' Q I4 r2 r4 q4))
theorem Gi {op op':UT}{r r':R2}(ho:OpR X (RT op) r)(ho':OpR X (RT op') r')(ha:PE X a ta)(hb:PE X b tb)(hc:PE X c tc)
  (hm:ZW [op,op'] [b,c]=false:=by with_unfolding_all rfl):PT X (.Compare a [op,op'] [b,c] pos) (zH (tD r r' ta tb tc)):=by
 intro a0V s σ H Q I h
 refine isTrue_chain (aN (ha a0V s σ H _ I h) fun v s1 ⟨x,H1,I1,r1,q1⟩=>test_link (aN (hb a0V s1 σ H1 _ I1 q1) fun u s2 ⟨y,H2,I2,r2,q2⟩=>
  aN (ho a0V s2 σ H2 x y v u _ I2 r1 r2 q2) fun d s3 ⟨z,H3,I3,r3,k,e,q3⟩=>?_)) hm
 subst e
 cases r3
 refine S3 ?_
 cases k with
 | false=>
  obtain ⟨k',e',q'⟩:=q3
  cases e'
  exact ite_ff ⟨H3,I3,q'⟩
 | true=>
  refine ite_tt (test_last (aN (hc a0V s3 σ H3 _ I3 q3) fun w' s4 ⟨z',H4,I4,r4,q4⟩=>aN (ho' a0V s4 σ H4 y z' u w' _ I4 r2 r4 q4) fun d' s5 ⟨z2,H5,I5,r5,k2,e2,q5⟩=>?_))
  subst e2
  cases r5
  exact S3 ⟨H5,I5,q5⟩
noncomputable def tE (K:Qf)(x:V)(H:Hp)(k:Bool):Prop:=
 match x with
 | .non=>k=false
 | .bl b=>k=b
 | .int i=>k=(i != 0)
 | .str y=>y.length<=Qs/\k=((y.length:Int) != 0)
 | .byt y=>y.size<=Qs/\k=((y.size:Int) != 0)
 | .ref p=>(∃ xs,SqL K H p xs/\k = !xs.isEmpty)\/(∃ xs,SqT K H p xs/\k = !xs.isEmpty)\/∃ kvs,H p=some (.dK kvs)/\k = !kvs.isEmpty
 | _=>False
theorem Gj {κ:Type}{kvs:List (κ×V)}{vs:List (κ×Qg)}(r:KV kvs vs):(!vs.isEmpty) = !kvs.isEmpty:=by
 cases r<;>rfl
theorem zI {xs:List V}{its:List Qg}(r:Vals xs its):(!its.toArray.isEmpty) = !xs.isEmpty:=by
 cases r<;>simp
theorem j8:(Qs:Nat)<2 ^ 63:=by rw [Ro];decide
theorem Gk:F5 X (fun x H Q=>∃ k,tE X.K x H k/\Q k H):=by
 intro a0V s σ H x v Q I rx h
 obtain ⟨k,e,q⟩:=h
 have hl:=j8
 have hs:Qs=16777216:=Ro
 cases x with
 | non=>
  cases rx
  have e':k=false:=e
  subst e'
  exact truthy_none ⟨H,I,q⟩
 | bl b=>
  cases rx
  have e':k=b:=e
  subst e'
  exact S3 ⟨H,I,q⟩
 | int i=>
  obtain ⟨t,rfl⟩:=rx
  have e':k=(i != 0):=e
  subst e'
  exact PySem.P.truthy_int ⟨H,I,q⟩
 | str y=>
  obtain ⟨t,rfl⟩:=rx
  obtain ⟨hy,e'⟩:y.length<=Qs/\k=((y.length:Int) != 0):=e
  subst e'
  exact PySem.P.truthy_str (by omega) ⟨H,I.tok _,q⟩
 | byt y=>
  obtain ⟨t,rfl⟩:=rx
  obtain ⟨hy,e'⟩:y.size<=Qs/\k=((y.size:Int) != 0):=e
  subst e'
  exact PySem.W.truthy_bytes (by omega) ⟨H,I.tok _,q⟩
 | ref p=>
  cases rx
  have e':(∃ xs,SqL X.K H p xs/\k = !xs.isEmpty)\/(∃ xs,SqT X.K H p xs/\k = !xs.isEmpty)\/∃ kvs,H p=some (.dK kvs)/\k = !kvs.isEmpty:=e
  rcases e' with ⟨xs,hx,e'⟩|⟨xs,hx,e'⟩|⟨kvs,hx,e'⟩
  ·subst e'
   obtain ⟨its,r,pl,hz⟩:=I.list hx
   have hlen:=r.length
   exact wpAny_truthy_list pl.isList (by simp only [Qn];omega) ⟨H,I.tok _,by rw [zI r];exact q⟩
  ·subst e'
   obtain ⟨its,r,pl,hz⟩:=I.tuple hx
   have hlen:=r.length
   exact truthy_tuple pl (by simp only [Qn];omega) ⟨H,I.tok _,by rw [zI r];exact q⟩
  ·subst e'
   obtain ⟨hz,hS,vs,r,m⟩:kvs.length<=Qs/\(p == Sg)=false/\∃ vs,KV kvs vs/\s.heap.DictOf (cS X.prog X.w) p vs:=I.hok p _ hx
   have hlen:kvs.length=vs.length:=VR r
   exact wpAny_truthy_dict hS m (by omega) ⟨H,I.tok _,by rw [Gj r];exact q⟩
 | _=>exact (show False from e).elim
theorem Gm (ha:PE X a ta)(he:∀ whole,Yy a X.env whole=(do let v <- whole;standAt a.pos;holding [v] (truthy v))) :
  PT X a (fun σ H Q=>ta σ H fun x H'=>∃ k,tE X.K x H' k/\Q k H'):=by
 intro a0V s σ H Q I h
 exact isTrue_plain (aN (ha a0V s σ H _ I h) fun v s1 ⟨x,H1,I1,r1,q1⟩=>Gk a0V s1 σ H1 x v Q I1 r1 q1) (he _)
theorem op_add_str:OpR X (T5 .Add) (fun x y H Q=>∃ i j,x=.str i/\y=.str j/\i.length+j.length<=Qs/\Q (.str (i++j)) H):=by
 intro a0V s σ H x y v u Q I rx ry h
 obtain ⟨i,j,rfl,rfl,hz,q⟩:=h
 obtain ⟨t,rfl⟩:=rx
 obtain ⟨t',rfl⟩:=ry
 exact add_str (fun t' tk=>⟨.str (i++j),H,I.tok _,⟨_,rfl⟩,q⟩) hz
theorem fP {x:V}{us:List Qg}(r:Vals [x] us):∃ u,us=[u]/\RelV x u:=by
 cases r with
 | cons r1 r2=>cases r2;exact ⟨_,rfl,r1⟩
theorem Gn {x y:V}{us:List Qg}(r:Vals [x,y] us):∃ u w',us=[u,w']/\RelV x u/\RelV y w':=by
 cases r with
 | cons r1 r2=>
  cases r2 with
  | cons r3 r4=>cases r4;exact ⟨_,_,rfl,r1,r3⟩
end
end L2
namespace L2
open PySem PySem.Spec PyProof.Rows
structure ObjM (h:RG)(x dx C:Addr)(mA:Str->Option Qg):Prop where
 obj:h.get? x=some (Yl C dx)
 ns:h.Ns1 dx mA
 ne:dx≠x
section
variable {prog:QR}{w:Rg}{A:Q0}{E:Qg->Qj->Prop}{s:Qj}{K:Qf}{x dx C f:Addr}{mA:Str->Option Qg}{name:Str}{v:Qg}
end
theorem RelO.some_of {v:V}{o:Option Qg}(r:RelO (some v) o):∃ u,o=some u/\RelV v u:=by
 cases o with
 | none=>exact (show False from r).elim
 | some u=>exact ⟨u,rfl,r⟩
section
variable {P:QR}{w:Rg}{H H':Hp}{h h':RG}{a C dx:Addr}{fs fs':List (Str×V)}
end
structure Cls (K:Qf)(C:Addr):Prop where
 pg:X5 K C Str.empty=true
 hd:PySem.W.hasDictIn K C=true
 po:PySem.W.plainOver K C=true
 sa:UX K (.ref C) "__setattr__" = some (some (.builtin "object.__setattr__"))
theorem Cls.get {K:Qf}{C:Addr}(c:Cls K C)(f:Str):X5 K C f=true:=c.pg
structure Con (K:Qf)(C:Addr)(f:Str)(v:V)(u:Qg):Prop where
 at_:UX K (.ref C) f=some (some u)
 rel:RelV v u
 get:XS K u "__get__" = some none
 cp:PySem.W.copiedNames.contains f=false
structure Meth (K:Qf)(C:Addr)(m:Str)(f:Addr):Prop where
 at_:UX K (.ref C) m=some (some (.ref f))
 fn:Zb K (.ref f)=true
 kp:SA K (.ref f)=true
section
variable {X:Cx}{a0V:List (Addr×SD)}{σ:St}{H:Hp}{s:Qj}{a C dx:Addr}{fs:List (Str×V)}{f:Str}{v:V}{A:Q0}{E:Qg->Qj->Prop}
end
section
variable {X:Cx}{o e value:Qr}{f:Str}{pos pos' tpos:SE}{ta tv:TE}
end
section
variable {X:Cx}{a0V:List (Addr×SD)}{σ:St}{H:Hp}{s:Qj}{A:Q0}{E:Qg->Qj->Prop}{Q:Qg->Qj->Prop}{c:Qg}{b:Bool}
inductive TyOf (K:Qf)(H:Hp):V->Qg->Prop where
 | non:TyOf K H .non (.type "NoneType")
 | bl (x:Bool):TyOf K H (.bl x) (.type "bool")
 | int (i:Int):TyOf K H (.int i) (.type "int")
 | str (x:Str):TyOf K H (.str x) (.type "str")
 | flt (x:UInt64):TyOf K H (.flt x) (.type "float")
 | lst {a:Addr}{xs:List V}(e:H a=some (.lst xs)):TyOf K H (.ref a) (.type "list")
 | frz {a:Addr}{o:SD}{xs:List V}(e:H a=some (.frz o (.lst xs))):TyOf K H (.ref a) (.type "list")
 | tup {a:Addr}{xs:List V}(e:H a=some (.tup xs)):TyOf K H (.ref a) (.type "tuple")
 | dK {a:Addr}{kvs:List (aF×V)}(e:H a=some (.dK kvs)):TyOf K H (.ref a) (.type "dict")
 | dT {a:Addr}{kvs:List (List aF×V)}(e:H a=some (.dT kvs)):TyOf K H (.ref a) (.type "dict")
 | ins {a C dx:Addr}{fs:List (Str×V)}(e:H a=some (.ins C dx fs))(cl:Cls K C)(ha:UX K (.ref C) "__class__" = some (some (.builtin "object.__class__")))
   (hn:XS K (.builtin "object.__class__") "__get__" = some (some (.builtin "getset_descriptor.__get__"))) (htk:PySem.W.takesIn K (.builtin "object.__class__")=some true)
   (hm:PySem.W.mroIn K C (.type "object")=some true):TyOf K H (.ref a) (.ref C)
end
end L2
namespace L2
open PySem PySem.Spec PyProof.Rows
structure Room (k:Nat)(A:Q0):Prop where
 hd:A.handled=none
 dp:A.depth+3 * k+5<a0J
 un:A.units+16 * k+200<Sf
theorem Room.deeper {k:Nat}{A:Q0}(r:Room (k+1) A)(env:Wg):Room k (A.deeper env):=
 ⟨r.hd,by have:=r.dp;show A.depth+1+3 * k+5<_;omega,by have:=r.un;show A.units+3+16 * k+200<_;omega⟩
theorem Room.depth {k:Nat}{A:Q0}(r:Room k A):A.depth<a0J:=by have:=r.dp;omega
theorem Room.units {k:Nat}{A:Q0}(r:Room k A):A.units+64<Sf:=by have:=r.un;omega
noncomputable def zJ:TA:=fun _ H Q=>Q [] H
noncomputable def Gp (ta:TE)(tr:TA):TA:=fun σ H Q=>ta σ H fun x H1=>tr σ H1 fun xs H2=>Q (x::xs) H2
section
variable {X:Cx}{e:Qr}{es:List Qr}{te:TE}{t:TA}{pos:SE}
theorem Gq:PA X [] zJ:=fun _ _ _ _ H Q I h=>Wc ⟨[],H,I,.nil,h⟩
theorem Gr (ha:PE X e te)(hr:PA X es t)(hs:Rl (e::es) X.env=(false,eval e X.env)::Rl es X.env:=by rfl):PA X (e::es) (Gp te t):=by
 intro pos a0V s σ H Q I h
 rw [hs]
 show QV _ _ (spliced ((false,eval e X.env)::Tx pos (Rl es X.env))) _ _ s
 refine V2 (aN (ha a0V s σ H _ I h) fun u s1 ⟨x,H1,I1,r1,q1⟩=>?_)
 exact aN (hr pos a0V s1 σ H1 _ I1 q1) fun us s2 ⟨xs,H2,I2,r2,q2⟩=>⟨x::xs,H2,I2,.cons r1 r2,q2⟩
noncomputable def Gs (t:TA):TE:=fun σ H Q=>t σ H fun xs H1=>xs.length<=Qs/\∀ p,H1 p=none->Q (.ref p) (aH H1 p (.tup xs))
noncomputable def Gu (t:TA):TE:=fun σ H Q=>t σ H fun xs H1=>xs.length<=Qs/\∀ p,H1 p=none->Q (.ref p) (aH H1 p (.lst xs))
theorem Gv {x1} (h:PA X es t):PE X (.Tuple es x1 pos) (Gs t):=by
 intro a0V s σ H Q I hq
 refine wpAny_Tuple_spliced (aN (h pos a0V s σ H _ I hq) fun us s1 ⟨xs,H1,I1,r,z,q⟩=>⟨by rw [<- r.length];exact z,?_⟩)
 have hf:H1 s1.heap.objs.size=none:=I1.hok.fresh (Qq _)
 refine ⟨.ref s1.heap.objs.size,aH H1 s1.heap.objs.size (.tup xs),I1.laid (t':=s1.toks) (fun b u e=>Qo _ e) (Qq _) ?_,rfl,q _ hf⟩
 exact ⟨z,us,r,⟨_,QY _ rfl,rfl,_,rfl,rfl⟩⟩
theorem Gw (h:PA X es t):PE X (.List es pos) (Gu t):=by
 intro a0V s σ H Q I hq
 refine wpAny_List_spliced (aN (h pos a0V s σ H _ I hq) fun us s1 ⟨xs,H1,I1,r,z,q⟩=>⟨by rw [<- r.length];exact z,?_⟩)
 have hf:H1 s1.heap.objs.size=none:=I1.hok.fresh (Qq _)
 refine ⟨.ref s1.heap.objs.size,aH H1 s1.heap.objs.size (.lst xs),I1.laid (t':=s1.toks) (fun b u e=>Qo _ e) (Qq _) ?_,rfl,q _ hf⟩
 exact ⟨z,us,0,r,QY _ rfl⟩
end
noncomputable abbrev Sp:=List V->Hp->VK->XK->Prop
noncomputable abbrev f7:=List Wg->Hp->Qj->XK->Qg->Qj->Prop
structure Env0 (P:QR)(w:Rg)(K:Qf)(mg:Str->Option Qg)(base:RG)(A:Q0)(outer:List Wg)(s:Qj)(H:Hp):Prop where
 frames:A.frames=some outer
 mod:Mod K mg base
 bs:∀ b o,base.get? b=some o->s.heap.get? b=some o/\H b=none
 bsz:base.objs.size<=s.heap.objs.size
 funs:s.heap.FunFrames base outer
 frf:∀ b∈eZ outer,H b=none
 hok:HOk P w H s.heap
 bare:Wi s.gens
noncomputable def CE (outer:List Wg)(P:QR)(w:Rg)(H:Hp)(s:Qj)(Q:VK)(u:Qg)(s':Qj):Prop:=
 ∃ v H',s'.os=s.os/\Wi s'.gens/\Un (eZ outer) [] H H' s.heap s'.heap/\HOk P w H' s'.heap/\RelV v u/\Q v H'
noncomputable def CR (CX:f7)(outer:List Wg)(P:QR)(w:Rg)(H:Hp)(s:Qj)(Q:VK)(E:XK)(r:YE)(s':Qj):Prop:=
 match r with
 | .ok (.ret u)=>CE outer P w H s Q u s'
 | .ok _=>False
 | .error e=>CX outer H s E e s'
structure FnOk (P:QR)(w:Rg)(K:Qf)(mg:Str->Option Qg)(base:RG)(CX:f7)(k:Nat)(f:Addr)(fd:Th)(ps:List Str)(sp:Sp):Prop where
 len:∀ vs H Q E,sp vs H Q E->vs.length=ps.length
 run:∀ (A:Q0)(outer:List Wg)(s:Qj)(H:Hp)(args:Args)(us:List Qg)(vs:List V)(Q:VK)(E:XK),Room k A->Env0 P w K mg base A outer s H->WX s fd args (ps.zip us)->Vals vs us->sp vs H Q E->
  Vs (QX P w) A (.call (.ref f) args) (CR CX outer P w H s Q E) s
section
variable {X:Cx}{a0V:List (Addr×SD)}{σ:St}{H:Hp}{s s':Qj}
theorem Inv.env0 (I:Inv X a0V σ H s):Env0 X.prog X.w X.K X.mg X.base X.A X.stack s H:=
 ⟨I.ok.frames,I.ok.mod,I.bs,Sb I.ok.bsz I.sz,I.stack,I.stkFree,I.hok,I.bare⟩
theorem Inv.after {Q:VK}{u:Qg}(I:Inv X a0V σ H s)(h:CE X.stack X.prog X.w H s Q u s'):EP X a0V σ Q u s':=by
 obtain ⟨v,H',os,bare,un,hok,r,q⟩:=h
 obtain ⟨hh,g,d,t,os'⟩:=s'
 obtain rfl:os'=s.os:=os
 exact ⟨v,H',I.call (h':=hh) (g':=g) (d':=d) (t':=t) (ch:=[]) un hok bare (fun b z=>absurd z (by simp)),r,q⟩
end
noncomputable def tF (sp:Sp)(dvs:List V)(E:XK)(t:TA):TE:=fun σ H Q=>t σ H fun vs H1=>sp (vs++dvs) H1 Q E
noncomputable def Binds (K:Qf)(fd:Th)(ps:List Str)(ds:List Qg):Prop:=
 ∀ (s:Qj)(us:List Qg),K.In s.heap->(us++ds).length=ps.length->WX s fd ⟨us,[]⟩ (ps.zip (us++ds))
theorem Binds.all {K:Qf}{fd:Th}{ps:List Str}(h:∀ us:List Qg,us.length=ps.length->XC fd ⟨us,[]⟩=pure (ps.zip us)):Binds K fd ps []:=fun s us _ hl=>by
 rw [RY] at hl ⊢
 exact .of_eq (h us hl)
noncomputable def pK (CX:f7)(X:Cx)(E:XK):Prop:=∀ (a0V:List (Addr×SD))(σ:St)(H:Hp)(s:Qj)(e:Qg)(s':Qj),Inv X a0V σ H s->CX X.stack H s E e s'->X.xe e s'
section
variable {X:Cx}{CX:f7}{k:Nat}{f C:Addr}{fd:Th}{ps:List Str}{sp:Sp}{dvs:List V}{ds:List Qg}{E:XK}{x m:Str}{p pos apos:SE}{e o:Qr}{es:List Qr}{ta:TE}{t:TA}
theorem zK {a0V:List (Addr×SD)}{σ:St}{H:Hp}{s:Qj}{Q:VK}{us:List Qg}{vs:List V}(F:FnOk X.prog X.w X.K X.mg X.base CX k f fd ps sp)(hr:Room k X.A)(hb:Binds X.K fd ps ds)(hd:Vals dvs ds)(hx:pK CX X E)
  (I:Inv X a0V σ H s)(r:Vals vs us)(h:sp (vs++dvs) H Q E):QV (QX X.prog X.w) X.A (call (.ref f) us) (EP X a0V σ Q) X.xe s:=by
 have r2:Vals (vs++dvs) (us++ds):=r.append hd
 have hl:(us++ds).length=ps.length:=by rw [<- r2.length];exact F.len _ _ _ _ h
 refine wpAny_call (WQ (F.run X.A X.stack s H ⟨us,[]⟩ (us++ds) (vs++dvs) Q E hr I.env0 (hb s us I.kIn hl) r2 h) fun r s' hq=>?_)
 cases r with
 | error e=>exact hx a0V σ H s e s' I hq
 | ok fl=>
  cases fl with
  | ret u=>exact I.after hq
  | next=>exact SV hq
  | brk=>exact SV hq
  | cont=>exact SV hq
theorem Gx (F:FnOk X.prog X.w X.K X.mg X.base CX k f fd ps sp)(hr:Room k X.A)(hg:Gl X x)(hm:X.mg x=some (.ref f))(hk:SA X.K (.ref f)=true)(hb:Binds X.K fd ps ds)(hd:Vals dvs ds)(hx:pK CX X E)
  (ha:PA X (e::es) t)(hdb:(x == ("__debug__":Str))=false:=by decide) (he:Rl (e::es) X.env=(false,eval e X.env)::Rl es X.env:=by rfl)(hpl:(Tx pos (Rl es X.env)).any (·.1)=false:=by rfl) :
  PE X (.Call (.Name x p) (e::es) [] pos) (tF sp dvs E t):=by
 intro a0V s σ H Q I h
 refine TL (sR I hg hm ?_ hdb)
 refine PySem.W.callWith_K (h₀:=X.base) I.ok.mod.kin hk (aN (ha pos a0V s σ H _ I h) fun us s1 ⟨vs,H1,I1,r,q⟩=>⟨I1.kIn,?_⟩) he hpl
 exact zK F hr hb hd hx I1 r q
theorem Gy (F:FnOk X.prog X.w X.K X.mg X.base CX k f fd ps sp)(hr:Room k X.A)(hg:Gl X x)(hm:X.mg x=some (.ref f))(hk:SA X.K (.ref f)=true)(hb:Binds X.K fd ps ds)(hd:Vals dvs ds)(hx:pK CX X E)
  (hdb:(x == ("__debug__":Str))=false:=by decide):PE X (.Call (.Name x p) [] [] pos) (tF sp dvs E zJ):=by
 intro a0V s σ H Q I h
 refine TL (sR I hg hm ?_ hdb)
 exact PySem.W.callWith_K0 I.kIn hk (zK (us:=[]) F hr hb hd hx I .nil h)
structure Mk (K:Qf)(C f:Addr):Prop where
 makes:PySem.W.makesIn K C=true
 init:UX K (.ref C) "__init__" = some (some (.ref f))
 fn:Zb K (.ref f)=true
 kp:SA K (.ref C)=true
end
section
variable {X:Cx}{CX:f7}{k:Nat}{f C:Addr}{fd:Th}{ps ks:List Str}{sp:Sp}{E:XK}{x m:Str}{p pos apos kpos:SE}{e o:Qr}{es:List Qr}{kws:List T7}{te ta:TE}{t tk:TA}{nm:Option Str}
structure KBinds (K:Qf)(fd:Th)(ps ks:List Str)(g:List Qg->List Qg->List Qg)(gV:List V->List V->List V):Prop where
 to:∀ (s:Qj)(us ws:List Qg),K.In s.heap->(g us ws).length=ps.length->WX s fd ⟨us,ks.zip ws⟩ (ps.zip (g us ws))
 rel:∀ {vs:List V}{us:List Qg}{zs:List V}{ws:List Qg},Vals vs us->Vals zs ws->Vals (gV vs zs) (g us ws)
variable {g:List Qg->List Qg->List Qg}{gV:List V->List V->List V}
end
structure FnScope (N P:List Str)(sc:Tz):Prop where
 kind:sc.kind=.function
 co:sc.isCoroutine=false
 gen:sc.isGenerator=false
 nd:N.Nodup
 pre:N.take P.length=P
 par:∀ x∈P,sc.names.lookup x=some .local\/sc.names.lookup x=some .cell
 nofree:∀ y∈sc.names,y.2≠.free
theorem zL {kindOf:Str->Option Ts}{x:Str}:∀ {binds:List (Str×Qg)}{m:Str->Option Qg},(∀ v,(x,v)∉binds)->Yj kindOf binds m x=m x
 | [],_,_=>rfl
 | (n,v)::r,m,h=>by
  unfold Yj
  rw [zL fun w hw=>h w (QH _ hw)]
  split
  ·have:x≠n:=by rintro rfl;exact h v QN
   simp [this]
  ·rfl
theorem zM {kindOf:Str->Option Ts}{x:Str}:∀ {binds:List (Str×Qg)}{m:Str->Option Qg},(∀ v,(x,v)∉binds)->Yk kindOf binds m x=m x
 | [],_,_=>rfl
 | (n,v)::r,m,h=>by
  unfold Yk
  rw [zM fun w hw=>h w (QH _ hw)]
  split
  ·rfl
  ·have:x≠n:=by rintro rfl;exact h v QN
   simp [this]
theorem zN {kindOf:Str->Option Ts}{x:Str}{v:Qg}:∀ {P:List Str}{vs:List Qg}{i:Nat}{m:Str->Option Qg},P.Nodup->P[i]? = some x->vs[i]? = some v->kindOf x=some .local->
  Yj kindOf (P.zip vs) m x=some v
 | [],_,_,_,_,h,_,_=>by simp at h
 | _::_,[],_,_,_,_,h,_=>by simp at h
 | p::P,w::vs,0,m,nd,h1,h2,hk=>by
  simp at h1 h2;subst h1;subst h2
  show Yj kindOf ((p,w)::P.zip vs) m p=_
  unfold Yj
  rw [zL fun v hv=>(RD.mp nd).1 (WG hv).1,if_pos hk]
  simp
 | p::P,w::vs,i+1,m,nd,h1,h2,hk=>by
  show Yj kindOf ((p,w)::P.zip vs) m x=_
  unfold Yj
  exact zN (i:=i) (RD.mp nd).2 (by simpa using h1) (by simpa using h2) hk
theorem zO {kindOf:Str->Option Ts}{x:Str}{v:Qg}:∀ {P:List Str}{vs:List Qg}{i:Nat}{m:Str->Option Qg},P.Nodup->P[i]? = some x->vs[i]? = some v->kindOf x≠some .local->
  Yk kindOf (P.zip vs) m x=some v
 | [],_,_,_,_,h,_,_=>by simp at h
 | _::_,[],_,_,_,_,h,_=>by simp at h
 | p::P,w::vs,0,m,nd,h1,h2,hk=>by
  simp at h1 h2;subst h1;subst h2
  show Yk kindOf ((p,w)::P.zip vs) m p=_
  unfold Yk
  rw [zM fun v hv=>(RD.mp nd).1 (WG hv).1,if_neg hk]
  simp
 | p::P,w::vs,i+1,m,nd,h1,h2,hk=>by
  show Yk kindOf ((p,w)::P.zip vs) m x=_
  unfold Yk
  exact zO (i:=i) (RD.mp nd).2 (by simpa using h1) (by simpa using h2) hk
noncomputable def start (N:List Str)(vs:List V):St:=vs.map some++SR (N.length - vs.length) none
noncomputable def iG (CX:f7)(P:QR)(w:Rg)(K:Qf)(mg:Str->Option Qg)(base:RG)(N:List Str)(qual:Str)(scope:Tz)(f:Addr)(cd:Qg)(A:Q0)(outer:List Wg)(s:Qj)(H:Hp)(E:XK):Cx where
 prog:=P
 w:=w
 K:=K
 mg:=mg
 base:=base
 A:=A.deeper (envOfC qual scope s.heap.objs.size f cd)
 N:=N
 s₀:=s
 H₀:=H
 env:=envOfC qual scope s.heap.objs.size f cd
 outer:=outer
 stack:=envOfC qual scope s.heap.objs.size f cd::outer
 ex:=[]
 calm:=true
 fn:=fun _=>true
 pn:=[]
 xe:=fun e s'=>QV (QX P w) (A.deeper (envOfC qual scope s.heap.objs.size f cd)) (leaving (envOfC qual scope s.heap.objs.size f cd) e) (fun _ s''=>CX outer H s E e s'') (fun e' s''=>CX outer H s E e' s'') s'
theorem zP {sc:Tz}{n:Nat}{x:Str}(h:sc.names.lookup x=some .cell):∃ c,(ZX n sc.names []).lookup x=some c:=by
 have q:=Xb sc.names n [] (.inl h)
 exact Option.isSome_iff_exists.mp q
theorem Gz {CX:f7}{P:QR}{w:Rg}{K:Qf}{mg:Str->Option Qg}{base:RG}{N ps:List Str}{qual:Str}{scope:Tz}{f:Addr}{cd:Qg}{A:Q0}{outer:List Wg}{s s1:Qj}{H:Hp}{E:XK}{us:List Qg}{vs:List V}
  (S:FnScope N ps scope)(hd:A.handled=none)(e0:Env0 P w K mg base A outer s H)(hl:vs.length=ps.length)(r:Vals vs us)
  (x:InCallC s s.heap.objs.size (Yj (envOfC qual scope s.heap.objs.size f cd).kindOf (ps.zip us) fun _=>none) (ZX (s.heap.objs.size+1) scope.names []) (Yk (envOfC qual scope s.heap.objs.size f cd).kindOf (ps.zip us) fun _=>none) s1) :
  Inv (iG CX P w K mg base N qual scope f cd A outer s H E) [] (start N vs) H s1:=by
 have hpl:ps.length<=N.length:=by have:=congrArg Si S.pre;rw [Q8] at this;omega
 obtain ⟨h1,tk,rfl,hk⟩:=x.done
 have noA:∀ b:Addr,b∉(iG CX P w K mg base N qual scope f cd A outer s H E).ex:=fun b z=>absurd (show b∈([]:List Addr) from z) (by simp)
 refine ⟨⟨e0.mod,S.kind,rfl,rfl,Qq _,fun y z c h1 h2=>?_,fun y hy=>?_,fun y c _ h=>?_,fun _=>hd,Around.frames_deeper e0.frames,.inr ⟨rfl,rfl⟩,fun b z=>absurd z (noA b),e0.bs,e0.bsz,fun b _ _=>noA b,fun b z=>absurd z (noA b),e0.funs,e0.frf⟩,
  rfl,e0.bare,Un.kept hk,⟨_,x.toInCall.ns,fun i y v h1 h2 h3=>?_⟩,fun y c h=>⟨_,x.cell y c h⟩,e0.hok.fresh (Qq _),fun y c h=>?_,fun p hp=>absurd (show p∈([]:List (Addr×SD)) from hp) (by simp),e0.hok.kept hk,?_⟩
 ·exact name_of_addr x.apart (RN h1) (RN h2)
 ·have hy:scope.names.lookup y=some .cell\/scope.names.lookup y=some .free:=hy
  rcases hy with hy|hy
  ·exact zP hy
  ·exact absurd rfl (S.nofree _ (RN hy))
 ·exact Uu (x.above y c (RN h))
 ·have hi:i<vs.length:=by
   unfold start at h2
   by_cases hi:i<vs.length
   ·exact hi
   ·rw [QM (by simpa using hi)] at h2
    rw [Tt] at h2
    split at h2<;>cases h2
  have ha:vs[i]? = some v:=by
   unfold start at h2
   rw [QC (by simpa using hi),Ra] at h2
   cases e:vs[i]? with
   | none=>rw [e] at h2;cases h2
   | some a=>rw [e] at h2;cases h2;rfl
  obtain ⟨u,hu,rv⟩:=r.get ha
  have hp:ps[i]? = some y:=by
   rw [<- S.pre,RJ (by omega)];exact h1
  have ndP:ps.Nodup:=by rw [<- S.pre];exact S.nd.sublist (TN _ _)
  refine ⟨u,rv,?_⟩
  rcases S.par y (Q2 hp) with k|k
  ·exact .inl ⟨k,zN ndP hp hu k⟩
  ·obtain ⟨c,e⟩:=zP (n:=s.heap.objs.size+1) k
   refine .inr ⟨.inl k,c,e,?_⟩
   have q:=x.cell y c e
   rw [zO ndP hp hu (by show scope.names.lookup y≠_;rw [k];decide)] at q
   exact q
 ·exact e0.hok.fresh (Uu (x.above y c (RN h)))
 ·unfold start
  show _=N.length
  rw [Qx,Qm,Ta]
  omega
theorem GA {CX:f7}{P:QR}{w:Rg}{K:Qf}{mg:Str->Option Qg}{base:RG}{k:Nat}{f:Addr}{name qual:Str}{params:Arguments}{body:List Stmt}{scope:Tz}{dV kV doc pm cdv ct oc:Qg}{an od:Option Addr}
  {osl:Array (Option Qg)}{N ps:List Str}{sp:Sp}(lk:K.lookup f=some ⟨oc,od,.func (Td name qual params body scope dV kV doc pm an cdv ct),osl⟩)(hcd:Vx K cdv qual=true)(S:FnScope N ps scope)
  (len:∀ vs H Q E,sp vs H Q E->vs.length=ps.length)
  (hbody:∀ (A:Q0)(outer:List Wg)(s:Qj)(H:Hp)(vs:List V)(Q:VK)(E:XK),Room k (A.deeper (envOfC qual scope s.heap.objs.size f cdv))->sp vs H Q E->
   ∃ t,PSs (iG CX P w K mg base N qual scope f cdv A outer s H E) body t/\t { nx:=fun _ H'=>Q .non H',rt:=Q } (start N vs) H) :
  FnOk P w K mg base CX (k+1) f (Td name qual params body scope dV kV doc pm an cdv ct) ps sp:=by
 refine ⟨len,fun A outer s H args us vs Q E hr e0 hb r hsp=>?_⟩
 have hl:=len _ _ _ _ hsp
 have KX:K.In s.heap:=e0.mod.kin.keeps fun b o e=>(e0.bs b o e).1
 have lim:s.heap.NoLimit:=e0.mod.nolimit.keeps fun b o e=>(e0.bs b o e).1
 have hkind:∀ y∈ps.zip us,scope.names.lookup y.1=some .local\/(scope.names.lookup y.1=some .cell/\((ZX (s.heap.objs.size+1) scope.names []).lookup y.1).isSome=true):=fun ⟨n,v⟩ hy=>by
  rcases S.par n (WG hy).1 with q|q
  ·exact .inl q
  ·exact .inr ⟨q,Xb _ _ _ (.inl q)⟩
 refine codeAny_call_function hr.depth (KX _ _ lk) rfl S.co S.gen rfl (PySem.W.codeRec_of KX hcd) (hb _ _ _ _ ?_)
 refine wpAny_newFunctionEnv_cells S.kind hkind fun env he s1 x=>?_
 subst he
 refine ⟨lim.keeps x.toInCall.keep,codeAny_func ?_⟩
 obtain ⟨t,ht,hq⟩:=hbody A outer s H vs Q E (hr.deeper _) hsp
 have I:Inv (iG CX P w K mg base N qual scope f cdv A outer s H E) [] (start N vs) H s1:=Gz S hr.hd e0 hl r x
 refine Rv (ht [] s1 (start N vs) H _ I hq) (fun fl s' hs=>?_) fun e s' hs=>hs
 have fin:∀ {σ':St}{H':Hp}{v:V}{u:Qg},Inv (iG CX P w K mg base N qual scope f cdv A outer s H E) [] σ' H' s'->RelV v u->Q v H'->CE outer P w H s Q u s':=
  fun {σ' H' v u} J rv q=>⟨v,H',J.os,J.bare,J.base,J.hok,rv,q⟩
 cases fl with
 | ret u=>
  obtain ⟨v,σ',H',J,rv,q⟩:=hs
  exact fin J rv q
 | next=>
  obtain ⟨σ',H',J,q⟩:=hs
  exact fin (v:=V.non) (u:=RU) J rfl q
 | brk=>
  obtain ⟨_,_,_,q⟩:=hs
  exact SV q
 | cont=>
  obtain ⟨_,_,_,q⟩:=hs
  exact SV q
end L2
namespace L2
open PySem PySem.Spec PyProof.Rows
section
variable {X:Cx}{x:Str}{p pos:SE}{e:Qr}{es:List Qr}{t:TA}{id T:String}{r:List V->Hp->VK->Prop}
noncomputable def tG (r:List V->Hp->VK->Prop)(t:TA):TE:=fun σ H Q=>t σ H fun vs H1=>r vs H1 Q
theorem GB (hc:CallR X (.builtin id) r)(hg:Gl X x)(hm:X.mg x=none)(hv:Ss x=some (.builtin id))(ha:PA X (e::es) t)(hn:x ≠ "__name__":=by decide) (hdb:(x == ("__debug__":Str))=false:=by decide)
  (he:Rl (e::es) X.env=(false,eval e X.env)::Rl es X.env:=by rfl)(hpl:(Tx pos (Rl es X.env)).any (·.1)=false:=by rfl):PE X (.Call (.Name x p) (e::es) [] pos) (tG r t):=by
 intro a0V s σ H Q I h
 refine TL (j7 I hg hm hv ?_ hn hdb)
 exact VJ (aN (ha pos a0V s σ H _ I h) fun us s1 ⟨vs,H1,I1,r1,q1⟩=>hc a0V s1 σ H1 vs us Q I1 r1 q1) he hpl
theorem GC (hc:CallR X (.type T) r)(hg:Gl X x)(hm:X.mg x=none)(hv:Ss x=some (.type T))(ha:PA X (e::es) t)(hn:x ≠ "__name__":=by decide) (hdb:(x == ("__debug__":Str))=false:=by decide)
  (he:Rl (e::es) X.env=(false,eval e X.env)::Rl es X.env:=by rfl)(hpl:(Tx pos (Rl es X.env)).any (·.1)=false:=by rfl):PE X (.Call (.Name x p) (e::es) [] pos) (tG r t):=by
 intro a0V s σ H Q I h
 refine TL (j7 I hg hm hv ?_ hn hdb)
 exact Tv (aN (ha pos a0V s σ H _ I h) fun us s1 ⟨vs,H1,I1,r1,q1⟩=>hc a0V s1 σ H1 vs us Q I1 r1 q1) he hpl
end
end L2
namespace L2
open PySem PySem.Spec PyProof.Rows
section
variable {κ:Type} [DecidableEq κ]
noncomputable def c9 (kvs:List (κ×V))(k:κ):Option V:=(kvs.find? fun kv=>decide (kv.1=k)).map (·.2)
noncomputable def cZ (kvs:List (κ×V))(k:κ)(v:V):List (κ×V):=
 if (kvs.any fun kv=>decide (kv.1=k))=true then kvs.map (fun kv=>if kv.1=k then (kv.1,v) else kv) else kvs++[(k,v)]
noncomputable def zQ (kvs:List (κ×V))(k:κ):List (κ×V):=kvs.filter fun kv=>decide (kv.1≠k)
theorem tH {p:κ×V}{r:List (κ×V)}{k:κ}(e:p.1=k):c9 (p::r) k=some p.2:=by simp [c9,RI,e]
theorem tI {p:κ×V}{r:List (κ×V)}{k:κ}(e:¬ p.1=k):c9 (p::r) k=c9 r k:=by simp [c9,RI,e]
theorem zR (k:κ):∀ kvs:List (κ×V),(kvs.any fun kv=>decide (kv.1=k))=(c9 kvs k).isSome
 | []=>rfl
 | p::r=>by
  rw [UM]
  by_cases e:p.1=k
  ·simp only [tH e,decide_eq_true e,Bool.true_or,Option.isSome_some]
  ·rw [tI e,decide_eq_false e,Bool.false_or];exact zR k r
theorem tJ (kvs:List (κ×V))(k:κ)(v:V):(cZ kvs k v).length<=kvs.length+1:=by
 unfold cZ
 split
 ·rw [Qm];omega
 ·rw [Qx,QU,SY];omega
theorem RelO.isSome_eq {o:Option V}{u:Option Qg}(r:RelO o u):o.isSome=u.isSome:=by
 cases o with
 | none=>cases u with
  | none=>rfl
  | some _=>exact (show False from r).elim
 | some _=>cases u with
  | none=>exact (show False from r).elim
  | some _=>rfl
theorem RelO.getD {o:Option V}{u:Option Qg}{d:V}{d':Qg}(r:RelO o u)(rd:RelV d d'):RelV (o.getD d) (u.getD d'):=by
 cases o with
 | none=>cases u with
  | none=>exact rd
  | some _=>exact (show False from r).elim
 | some _=>cases u with
  | none=>exact (show False from r).elim
  | some _=>exact r
theorem KV.val {kvs:List (κ×V)}{vs:List (κ×Qg)}(r:KV kvs vs)(k:κ):RelO (c9 kvs k) (WK vs k):=by
 unfold KV at r
 induction r with
 | nil=>exact SW
 | @cons p q ps qs h t ih=>
  obtain ⟨h1,h2⟩:=h
  by_cases e:p.1=k
  ·have e':q.1=k:=h1.symm.trans e
   have b:WK (q::qs) k=some q.2:=by simp [WK,RI,e']
   rw [tH e,b];exact h2
  ·have e':¬ q.1=k:=fun z=>e (h1.trans z)
   have b:WK (q::qs) k=WK qs k:=by simp [WK,RI,e']
   rw [tI e,b];exact ih
theorem KV.any {kvs:List (κ×V)}{vs:List (κ×Qg)}(r:KV kvs vs)(k:κ):(kvs.any fun kv=>decide (kv.1=k))=vs.any fun kv=>decide (kv.1=k):=by
 unfold KV at r
 induction r with
 | nil=>rfl
 | cons h t ih=>rw [UM,UM,ih,h.1]
theorem KV.repl {kvs:List (κ×V)}{vs:List (κ×Qg)}(r:KV kvs vs)(k:κ){y:V}{u:Qg}(ry:RelV y u) :
  KV (kvs.map fun kv=>if kv.1=k then (kv.1,y) else kv) (vs.map fun kv=>if kv.1=k then (kv.1,u) else kv):=by
 unfold KV at r ⊢
 induction r with
 | nil=>exact .nil
 | @cons p q ps qs h t ih=>
  rw [Qz,Qz]
  refine .cons ?_ ih
  obtain ⟨h1,h2⟩:=h
  by_cases e:p.1=k
  ·rw [if_pos e,if_pos (h1.symm.trans e)];exact ⟨h1,ry⟩
  ·rw [if_neg e,if_neg (fun z=>e (h1.trans z))];exact ⟨h1,h2⟩
theorem KV.put {kvs:List (κ×V)}{vs:List (κ×Qg)}(r:KV kvs vs)(k:κ){y:V}{u:Qg}(ry:RelV y u):KV (cZ kvs k y) (stored vs k u):=by
 unfold cZ stored
 rw [r.any k]
 by_cases e:(vs.any fun kv=>decide (kv.1=k))=true
 ·rw [if_pos e,if_pos e];exact r.repl k ry
 ·rw [if_neg e,if_neg e];exact Wn r ⟨rfl,ry⟩
theorem KV.drop {kvs:List (κ×V)}{vs:List (κ×Qg)}(r:KV kvs vs)(k:κ):KV (zQ kvs k) (without vs k):=by
 unfold KV at r ⊢
 unfold zQ without
 induction r with
 | nil=>exact .nil
 | @cons p q ps qs h t ih=>
  obtain ⟨h1,h2⟩:=h
  rw [Vo,Vo]
  by_cases e:p.1=k
  ·have a:¬ decide (p.1≠k)=true:=by simp [e]
   have b:¬ decide (q.1≠k)=true:=by simp [h1.symm.trans e]
   rw [if_neg a,if_neg b];exact ih
  ·have e':¬ q.1=k:=fun z=>e (h1.trans z)
   have a:decide (p.1≠k)=true:=by simp [e]
   have b:decide (q.1≠k)=true:=by simp [e']
   rw [if_pos a,if_pos b];exact .cons ⟨h1,h2⟩ ih
theorem KV.keys {kvs:List (κ×V)}{vs:List (κ×Qg)}(r:KV kvs vs):kvs.map (·.1)=vs.map (·.1):=by
 unfold KV at r
 induction r with
 | nil=>rfl
 | cons h t ih=>rw [Qz,Qz,ih,h.1]
theorem KV.length {kvs:List (κ×V)}{vs:List (κ×Qg)}(r:KV kvs vs):kvs.length=vs.length:=VR r
end
theorem pL {P:QR}{w:Rg}{k:aF}{u:Qg}(r:RelV (kV k) u):(cS P w).is k u=true:=by
 cases k with
 | inl i=>obtain ⟨t,e⟩:=(show ∃ t,u=Xh i t from r);subst e;exact EO P w i t
 | inr x=>obtain ⟨t,e⟩:=(show ∃ t,u=Vm x t from r);subst e;exact ER P w x t
theorem zS {P:QR}{w:Rg}:∀ {ks:List aF}{us:List Qg},Vals (ks.map kV) us->ItemsAre (cS P w) ks us
 | [],_,r=>by rw [U2] at r;cases r;exact .nil
 | k::ks,_,r=>by
  rw [Qz] at r
  cases r with
  | cons h t=>exact .cons (pL h) (zS t)
noncomputable abbrev KT (H:Hp):List (List aF×V)->List (List aF×Addr×Qg)->Prop:=Ur fun p q=>p.1=q.1/\H q.2.1=some (.tup (p.1.map kV))/\RelV p.2 q.2.2
theorem KT.val {H:Hp}{kvs:List (List aF×V)}{xs:List (List aF×Addr×Qg)}(r:KT H kvs xs)(k:List aF):RelO (c9 kvs k) ((UR xs k).map (·.2)):=by
 induction r with
 | nil=>exact SW
 | @cons p q ps qs h t ih=>
  obtain ⟨h1,_,h2⟩:=h
  by_cases e:p.1=k
  ·have e':q.1=k:=h1.symm.trans e
   have b:UR (q::qs) k=some q.2:=by simp [UR,RI,e']
   rw [tH e,b];exact h2
  ·have e':¬ q.1=k:=fun z=>e (h1.trans z)
   have b:UR (q::qs) k=UR qs k:=by simp [UR,RI,e']
   rw [tI e,b];exact ih
theorem KT.repl {H:Hp}{kvs:List (List aF×V)}{xs:List (List aF×Addr×Qg)}(r:KT H kvs xs)(k:List aF){y:V}{u:Qg}(ry:RelV y u) :
  KT H (kvs.map fun kv=>if kv.1=k then (kv.1,y) else kv) (xs.map (a0K k u)):=by
 induction r with
 | nil=>exact .nil
 | @cons p q ps qs h t ih=>
  rw [Qz,Qz]
  refine .cons ?_ ih
  obtain ⟨h1,h2,h3⟩:=h
  unfold a0K
  by_cases e:p.1=k
  ·rw [if_pos e,if_pos (h1.symm.trans e)];exact ⟨h1,h2,ry⟩
  ·rw [if_neg e,if_neg (fun z=>e (h1.trans z))];exact ⟨h1,h2,h3⟩
theorem KT.put {H:Hp}{kvs:List (List aF×V)}{xs:List (List aF×Addr×Qg)}(r:KT H kvs xs)(k:List aF){b:Addr}{y:V}{u:Qg}(hb:H b=some (.tup (k.map kV)))(ry:RelV y u) :
  KT H (cZ kvs k y) (ZK xs k b u):=by
 have e:(kvs.any fun kv=>decide (kv.1=k))=(UR xs k).isSome:=by
  rw [zR,(r.val k).isSome_eq,Ud]
 unfold cZ ZK
 rw [e]
 by_cases q:(UR xs k).isSome=true
 ·rw [if_pos q,if_pos q];exact r.repl k ry
 ·rw [if_neg q,if_neg q];exact Wn r ⟨rfl,hb,ry⟩
theorem KT.keeps {H H':Hp}{kvs:List (List aF×V)}{xs:List (List aF×Addr×Qg)}(r:KT H kvs xs)(ht:∀ b ys,H b=some (.tup ys)->H' b=some (.tup ys)):KT H' kvs xs:=
 Ur.mapP r fun _ _ z=>⟨z.1,ht _ _ z.2.1,z.2.2⟩
section
variable {P:QR}{w:Rg}{H:Hp}{h:RG}{a:Addr}
theorem zT {u:HO}(ok:HOk P w H h)(e:Rd H a u):ObjOk P w H h a u:=e.ok ok
theorem pM {kvs:List (aF×V)}(ok:HOk P w H h)(e:Rd H a (.dK kvs)):kvs.length<=Qs/\(a == Sg)=false/\∃ vs,KV kvs vs/\h.DictOf (cS P w) a vs:=
 show ObjOk P w H h a (.dK kvs) from zT ok e
theorem zU {kvs:List (aF×V)}(ok:HOk P w H h)(e:H a=some (.dK kvs)):kvs.length<=Qs/\(a == Sg)=false/\∃ vs,KV kvs vs/\h.DictOf (cS P w) a vs:=pM ok (.inl e)
theorem tK {ks:List aF}(ok:HOk P w H h)(e:H a=some (.tup (ks.map kV))):(Tq (cS P w)).is h ks a:=by
 obtain ⟨_,its,r,o,h1,h2,n,h3,_⟩:=(show ObjOk P w H h a (.tup (ks.map kV)) from ok a _ e)
 exact ⟨o,its.toArray,n,h1,h2,h3,by simpa using zS r⟩
theorem tL {kvs:List (List aF×V)}(ok:HOk P w H h)(e:Rd H a (.dT kvs)):kvs.length<=Qs/\(a == Sg)=false /\
  ∃ xs,KT H kvs xs/\h.DictOfH (Tq (cS P w)) a xs:=by
 obtain ⟨z,y,xs,r,o,es,ep,h1,h2,h3,h4,h5⟩:=(show ObjOk P w H h a (.dT kvs) from zT ok e)
 refine ⟨z,y,xs,r,o,es,ep,h1,h2,h3,h4,fun x hx=>?_,h5⟩
 have all:∀ {l:List (List aF×V)}{m:List (List aF×Addr×Qg)},KT H l m->∀ x∈m,(Tq (cS P w)).is h x.1 x.2.1:=by
  intro l m q
  induction q with
  | nil=>intro x hx;exact nomatch hx
  | @cons p q ps qs hq t ih=>
   intro x hx
   rcases Q9.mp hx with e|hx
   ·subst e
    exact tK ok (by rw [<- hq.1];exact hq.2.1)
   ·exact ih x hx
 exact all r x hx
theorem GD {kvs:List (List aF×V)}(ok:HOk P w H h)(e:H a=some (.dT kvs)):kvs.length<=Qs/\(a == Sg)=false /\
  ∃ xs,KT H kvs xs/\h.DictOfH (Tq (cS P w)) a xs:=tL ok (.inl e)
end
noncomputable def DGet (H:Hp)(a:Addr)(y:V)(r:Option V):Prop:=
 (∃ kvs k,Rd H a (.dK kvs)/\y=kV k/\r=c9 kvs k)\/∃ kvs k b,Rd H a (.dT kvs)/\y=.ref b/\H b=some (.tup (k.map kV))/\r=c9 kvs k
noncomputable def DPut (H:Hp)(a:Addr)(y v:V)(H':Hp):Prop:=
 (∃ kvs k,H a=some (.dK kvs)/\y=kV k/\kvs.length<Qs/\H'=aH H a (.dK (cZ kvs k v))) \/
 ∃ kvs k b,H a=some (.dT kvs)/\y=.ref b/\H b=some (.tup (k.map kV))/\kvs.length<Qs/\H'=aH H a (.dT (cZ kvs k v))
theorem DGet.k {H:Hp}{a:Addr}{kvs:List (aF×V)}{k:aF}(e:H a=some (.dK kvs)):DGet H a (kV k) (c9 kvs k):=.inl ⟨kvs,k,.inl e,rfl,rfl⟩
theorem DGet.t {H:Hp}{a b:Addr}{kvs:List (List aF×V)}{k:List aF}(e:H a=some (.dT kvs))(eb:H b=some (.tup (k.map kV))):DGet H a (.ref b) (c9 kvs k):=.inr ⟨kvs,k,b,.inl e,rfl,eb,rfl⟩
theorem DPut.k {H:Hp}{a:Addr}{kvs:List (aF×V)}{k:aF}{v:V}(e:H a=some (.dK kvs))(hl:kvs.length<Qs):DPut H a (kV k) v (aH H a (.dK (cZ kvs k v))):=.inl ⟨kvs,k,e,rfl,hl,rfl⟩
theorem DPut.t {H:Hp}{a b:Addr}{kvs:List (List aF×V)}{k:List aF}{v:V}(e:H a=some (.dT kvs))(eb:H b=some (.tup (k.map kV)))(hl:kvs.length<Qs) :
  DPut H a (.ref b) v (aH H a (.dT (cZ kvs k v))):=.inr ⟨kvs,k,b,e,rfl,eb,hl,rfl⟩
section
variable {X:Cx}{a0V:List (Addr×SD)}{σ:St}{H:Hp}{s:Qj}{a:Addr}{y v:V}{u r:Qg}{o:Option V}{A:Q0}{E:Qg->Qj->Prop}
theorem Inv.big (I:Inv X a0V σ H s):Sg<s.heap.objs.size:=by
 have h:Sx<s.heap.objs.size:=(I.mod.glob.keeps I.bk).lt
 exact Ut (by decide) h
theorem GF {Q:Qg->Qj->Prop}(hu:A.units+1<Sf)(I:Inv X a0V σ H s)(g:DGet H a y (some v))(ry:RelV y u)(h:∀ w' s',Inv X a0V σ H s'->RelV v w'->Q w' s') :
  QV (QX X.prog X.w) A (WO (.ref a) u) Q E s:=by
 rcases g with ⟨kvs,k,e,ey,l⟩|⟨kvs,k,b,e,ey,eb,l⟩
 ·subst ey
  obtain ⟨z,hd,vs,rel,dd⟩:=pM I.hok e
  obtain ⟨w',hw,rw'⟩:=RelO.some_of (v:=v) (o:=WK vs k) (by rw [l];exact rel.val k)
  exact wpAny_getItem_of (pL ry) dd.mapOf hw (h w' _ (I.tok _) rw')
 ·subst ey
  cases (show u=QL b from ry)
  obtain ⟨z,hd,xs,rel,dd⟩:=tL I.hok e
  obtain ⟨w',hw,rw'⟩:=RelO.some_of (v:=v) (o:=(UR xs k).map (·.2)) (by rw [l];exact rel.val k)
  obtain ⟨p,hp,hp2⟩:=Qk.mp hw
  refine Zp (Zu hu) (tK I.hok eb) dd hp ?_
  rw [hp2]
  exact h w' _ (I.tok _) rw'
theorem nO {h':RG}{t':Nat}{ob:HO}(I:Inv X a0V σ H s)(mu:nH (H a))(hs:Um a s.heap h')(he:∃ q,h'.get? a=some q)(new:ObjOk X.prog X.w (aH H a ob) h' a ob) :
  Inv X a0V σ (aH H a ob) { s with heap:=h',toks:=t' }:=
 I.write (x:=a) (e:=a) mu (.inl rfl) (fun b q hb z=>(hs.2 b hb).trans z) he new
theorem zV {P:QR}{w:Rg}{H':Hp}{h':RG}{kvs:List (aF×V)}{vs:List (aF×Qg)}(z:kvs.length<=Qs)(hd:(a == Sg)=false)(rel:KV kvs vs)(dd:h'.DictOf (cS P w) a vs) :
  ObjOk P w H' h' a (.dK kvs):=⟨z,hd,vs,rel,dd⟩
theorem GG {H':Hp}{Q:Unit->Qj->Prop}(hu:A.units+1<Sf)(I:Inv X a0V σ H s)(g:DPut H a y v H')(ry:RelV y u)(rv:RelV v r)(h:∀ s',Inv X a0V σ H' s'->Q () s') :
  QV (QX X.prog X.w) A (setItem (.ref a) u r) Q E s:=by
 rcases g with ⟨kvs,k,e,ey,l,eH⟩|⟨kvs,k,b,e,ey,eb,l,eH⟩
 ·subst ey eH
  obtain ⟨z,hd,vs,rel,dd⟩:=zU I.hok e
  have hz:vs.length<=Qs:=by rw [<- rel.length];exact z
  have hl:(cZ kvs k v).length<=Qs:=by have:=tJ kvs k v;omega
  refine wpAny_setItem_pairs (hsz:=hz) (pL ry) dd fun h' dd' hs=>h _ ?_
  have he:∃ q,h'.get? a=some q:=let ⟨q,_,_,hq,_⟩:=dd';⟨q,hq⟩
  exact nO I (by rw [e];exact SW) hs he (zV hl hd (rel.put k rv) dd')
 ·subst ey eH
  cases (show u=QL b from ry)
  obtain ⟨z,hd,xs,rel,dd⟩:=GD I.hok e
  have hz:xs.length<=Qs:=by rw [<- VR rel];exact z
  have hl:(cZ kvs k v).length<=Qs:=by have:=tJ kvs k v;omega
  refine Zn (hsz:=hz) (Zu hu) (tK I.hok eb) dd fun h' dd' hs=>h _ ?_
  obtain ⟨q,es,ep,hq,h2,h3,h4,_,h5⟩:=dd'
  refine nO I (by rw [e];exact SW) hs ⟨q,hq⟩ ⟨hl,hd,_,(rel.put k eb rv).keeps fun c ys ec=>?_,q,es,ep,hq,h2,h3,h4,h5⟩
  rw [a8 (ES ec e (fun z=>nomatch z))]
  exact ec
end
section
variable {X:Cx}{a0V:List (Addr×SD)}{σ:St}{H:Hp}{s:Qj}{a:Addr}{kvs:List (aF×V)}{k:aF}{u:Qg}{A:Q0}{E:Qg->Qj->Prop}
theorem GH {Q:Qg->Qj->Prop}(I:Inv X a0V σ H s)(e:Rd H a (.dK kvs))(h:∀ t s',Inv X a0V σ H s'->Q (.int kvs.length t) s'):QV (QX X.prog X.w) A (call (.builtin "len") [.ref a]) Q E s:=by
 obtain ⟨z,hd,vs,rel,dd⟩:=pM I.hok e
 refine call_len_dict hd dd (by rw [<- rel.length];rw [Ro] at z;omega) ?_
 rw [<- rel.length]
 exact h _ _ (I.tok _)
end
noncomputable def pN (i:Qr):Prop:=∀ ov iv,Xf i false ov iv=operate [ov,iv] (WO ov iv)
theorem zW {prog:QR}{w:Rg}{A:Q0}{E:Qg->Qj->Prop}{s:Qj}{env:Wg}{value slice:Qr}{pos:SE}{T id:String}{Q:Qg->Qj->Prop}
  (hl:Zt (.type T) "__getitem__" = pure (some (.builtin id))) (hs:pN slice)
  (h:QV (QX prog w) A (eval value env) (fun o s₁=>QV (QX prog w) A (eval slice env) (fun i s₂=>s₂.TypeIs o T/\QV (QX prog w) A (WO o i) Q E s₂) E s₁) E s) :
  QV (QX prog w) A (eval (.Subscript value slice pos) env) Q E s:=by
 refine ZA (Rv h (fun o s₁ h₁=>Rv h₁ (fun i s₂ h₂=>?_) fun _ _ x=>x) fun _ _ x=>x)
 obtain ⟨hT,h₂⟩:=h₂
 unfold X4
 refine Qh ?_
 rw [getitemInPython_of_ne hT.not_modules]
 refine Qh (Z9 hT hl ?_)
 have fin:QV (QX prog w) A (Xf slice false o i) (fun r s₃=>QV (QX prog w) A (letTemporaryGo value o r >>= fun _=>pure r) Q E s₃) E s₂:=by
  rw [hs o i]
  exact wpAny_operating (Rv h₂ (fun r s₃ h₃=>Qh (wpAny_letTemporaryGo (Qt h₃))) fun _ _ x=>x)
 first
  | exact Qt (Qh fin)
  | exact Qh (Qt (Qh fin))
  | exact Qh fin
theorem GJ {X:Cx}{a0V:List (Addr×SD)}{σ:St}{H:Hp}{s:Qj}{a:Addr}{y:V}{o:Option V}(I:Inv X a0V σ H s)(g:DGet H a y o):s.TypeIs (.ref a) "dict":=by
 rcases g with ⟨kvs,k,e,_,_⟩|⟨kvs,k,b,e,_,_,_⟩
 ·obtain ⟨_,_,vs,_,dd⟩:=pM I.hok e
  exact dd.typeIs
 ·obtain ⟨_,_,xs,_,dd⟩:=tL I.hok e
  exact dd.typeIs
noncomputable def GK (td ty:TE):TE:=fun σ H Q=>td σ H fun x H1=>ty σ H1 fun y H2=>∃ a v,x=.ref a/\DGet H2 a y (some v)/\Q v H2
noncomputable def GL (td ty tv:TE):TS:=fun D σ H=>tv σ H fun v H1=>td σ H1 fun x H2=>ty σ H2 fun y H3=>∃ a H4,x=.ref a/\DPut H3 a y v H4/\D.nx σ H4
section
variable {X:Cx}{o i e value:Qr}{pos pos' tpos:SE}{td ty tv:TE}
theorem GN (hu:X.A.units+1<Sf)(ho:PE X o td)(hi:PE X i ty)(hs:pN i):PE X (.Subscript o i pos) (GK td ty):=by
 intro a0V s σ H Q I h
 refine zW WE.lookup hs (aN (ho a0V s σ H _ I h) fun u s1 ⟨x,H1,I1,rx,q1⟩=>aN (hi a0V s1 σ H1 _ I1 q1) fun iv s2 ⟨y,H2,I2,ry,a,v,ex,g,q2⟩=>?_)
 subst ex
 obtain rfl:u=QL a:=rx
 exact ⟨GJ I2 g,GF hu I2 g ry fun w' s3 I3 rw'=>⟨v,H2,I3,rw',q2⟩⟩
theorem GO (hu:X.A.units+1<Sf)(ho:PE X o td)(hi:PE X i ty)(hv:PE X value tv)(hs:Uv value (some (.Subscript o i pos')) pos.line X.env=pure false) :
  PS X (.Assign [.Subscript o i pos'] value pos) (GL td ty tv):=by
 intro a0V s σ H D I h
 refine VQ (aN (hv a0V s σ H _ I h) fun r s1 ⟨v,H1,I1,rv,q1⟩=>aN (ho a0V s1 σ H1 _ I1 q1) fun u s2 ⟨x,H2,I2,rx,q2⟩=>aN (hi a0V s2 σ H2 _ I2 q2) fun iv s3 ⟨y,H3,I3,ry,a,H4,ex,g,q3⟩=>?_) hs
 subst ex
 obtain rfl:u=QL a:=rx
 exact GG hu I3 g ry rv fun s4 I4=>⟨σ,H4,I4,q3⟩
end
theorem GP {P:QR}{w:Rg}{H:Hp}(h:RG)(hb:Sg<h.objs.size):ObjOk P w H (h.push { cls:=.type "dict",data:=.dict #[] }) h.objs.size (.dK []):=
 ⟨RV _,beq_eq_false_iff_ne.mpr (Sn (Q7 hb)),[],.nil,a0T h⟩
section
variable {X:Cx}{pos:SE}
end
noncomputable def pO:List (TE×TE)->St->Hp->(List (V×V)->Hp->Prop)->Prop
 | [],_,H,Q=>Q [] H
 | (tk,tv)::r,σ,H,Q=>tk σ H fun x H1=>tv σ H1 fun y H2=>pO r σ H2 fun ps H3=>Q ((x,y)::ps) H3
noncomputable abbrev VV:List (V×V)->List (Qg×Qg)->Prop:=Ur fun p q=>RelV p.1 q.1/\RelV p.2 q.2
noncomputable def iH (X:Cx)(pos:SE)(keys:List (Option Qr))(values:List Qr)(trs:List (TE×TE)):Prop:=
 ∀ (a0V:List (Addr×SD))(s:Qj)(σ:St)(H:Hp)(Q:List (V×V)->Hp->Prop),Inv X a0V σ H s->pO trs σ H Q->
  QV (QX X.prog X.w) X.A (evalPairs (pairTrees keys values X.env pos)) (fun vs s'=>∃ ps H',Inv X a0V σ H' s'/\VV ps vs/\Q ps H') X.xe s
theorem GQ {X:Cx}{pos:SE}:iH X pos [] [] []:=fun a0V s σ H Q I h=>pairTrees_nil_walk ⟨[],H,I,.nil,h⟩
theorem GR {X:Cx}{pos:SE}{k v:Qr}{ks:List (Option Qr)}{vs:List Qr}{tk tv:TE}{trs:List (TE×TE)}(hk:PE X k tk)(hv:PE X v tv)(hr:iH X pos ks vs trs) :
  iH X pos (some k::ks) (v::vs) ((tk,tv)::trs):=fun a0V s σ H Q I h=>
 pairTrees_cons_walk (aN (hk a0V s σ H _ I h) fun u s1 ⟨x,H1,I1,rx,q1⟩=>aN (hv a0V s1 σ H1 _ I1 q1) fun w2 s2 ⟨y,H2,I2,ry,q2⟩=>
  aN (hr a0V s2 σ H2 _ I2 q2) fun ws s3 ⟨ps,H3,I3,rel,q3⟩=>⟨(x,y)::ps,H3,I3,.cons ⟨rx,ry⟩ rel,q3⟩)
noncomputable def j9 (kvs more:List (aF×V)):List (aF×V):=more.foldl (fun acc kv=>cZ acc kv.1 kv.2) kvs
theorem KV.merge:∀ {more:List (aF×V)}{rs:List (aF×Qg)}{kvs:List (aF×V)}{vs:List (aF×Qg)},KV more rs->KV kvs vs->KV (j9 kvs more) (merged vs rs):=by
 intro more rs kvs vs r
 unfold KV at r
 induction r generalizing kvs vs with
 | nil=>intro q;exact q
 | @cons p q ps qs h t ih=>
  intro r0
  have e:KV (cZ kvs p.1 p.2) (stored vs q.1 q.2):=by
   have:=r0.put p.1 h.2
   rw [<- h.1];exact this
  exact ih e
theorem zX:∀ (more kvs:List (aF×V)),(j9 kvs more).length<=kvs.length+more.length
 | [],kvs=>by show kvs.length<=kvs.length+0;omega
 | p::r,kvs=>by
  have h1:=zX r (cZ kvs p.1 p.2)
  have h2:=tJ kvs p.1 p.2
  show (j9 (cZ kvs p.1 p.2) r).length<=_
  rw [QU];omega
theorem zY {P:QR}{w:Rg}:∀ {kvs:List (aF×V)}{ws:List (Qg×Qg)},VV (kvs.map fun kv=>(kV kv.1,kv.2)) ws->∃ rs,Carries (cS P w) ws rs/\KV kvs rs
 | [],_,r=>by rw [U2] at r;cases r;exact ⟨[],SW,.nil⟩
 | p::kvs,_,r=>by
  rw [Qz] at r
  cases r with
  | @cons a b as bs h t=>
   obtain ⟨rs,c,q⟩:=zY (P:=P) (w:=w) t
   obtain ⟨b1,b2⟩:=b
   exact ⟨(p.1,b2)::rs,⟨pL h.1,rfl,c⟩,.cons ⟨rfl,h.2⟩ q⟩
noncomputable def GS (trs:List (TE×TE)):TE:=fun σ H Q=>∀ p,H p=none->pO trs σ (aH H p (.dK [])) fun ps H2=>H2 p=some (.dK [])/\∃ kvs:List (aF×V),ps=kvs.map (fun kv=>(kV kv.1,kv.2))/\kvs.length<=15/\Q (.ref p) (aH H2 p (.dK (j9 [] kvs)))
theorem GU {X:Cx}{pos:SE}{keys:List (Option Qr)}{values:List Qr}{trs:List (TE×TE)}(h:iH X pos keys values trs)(hall:keys.all (·.isSome)=true)(hl:keys.length=values.length)(h0:keys≠[])
  (h15:keys.length<=15):PE X (.Dict keys values pos) (GS trs):=by
 intro a0V s σ H Q I q
 have hn:=I.hok.fresh (Qq s.heap.objs.size)
 have I1:=I.laid (a:=s.heap.objs.size) (o:=.dK []) (h':=s.heap.push { cls:=.type "dict",data:=.dict #[] }) (t':=s.toks) (fun _ _ q=>Qo _ q) (Qq _) (GP s.heap I.big)
 refine wpAny_Dict_walk (knd:=cS X.prog X.w) hall hl h0 h15 (aN (h a0V _ σ _ _ I1 (q _ hn)) fun ws s2 ⟨ps,H2,I2,rel,e,kvs,ep,lk,q2⟩=>?_)
 subst ep
 obtain ⟨rs,c,rk⟩:=zY (P:=X.prog) (w:=X.w) rel
 obtain ⟨z,hd,vs0,r0,dd⟩:=zU I2.hok e
 cases r0
 refine ⟨rs,c,dd,fun h' dd' hs=>⟨.ref s.heap.objs.size,_,?_,rfl,q2⟩⟩
 have hz:(j9 [] kvs).length<=Qs:=by
  have h1:=zX kvs []
  rw [SY] at h1
  rw [Ro];omega
 have he:∃ q,h'.get? s.heap.objs.size=some q:=let ⟨q,_,_,hq,_⟩:=dd';⟨q,hq⟩
 exact nO I2 (by rw [e];exact SW) hs he (zV hz hd (rk.merge .nil) dd')
structure M1 (X:Cx)(o:Qr)(m:Str)(apos:SE)(e:Qr)(cpos:SE):Prop where
 base:U1 o m X.env (eval o X.env)=eval o X.env
 few:((Tx cpos (Rl [e] X.env)).all (fun x=>!x.1)&&(XD cpos (V8 [] X.env)).all (fun x=>x.1.isSome)
  && decide (([e]:List Qr).length+([]:List T7).length+(if ([]:List T7).isEmpty then 0 else 1)<30))=true
 line:(apos.endLine == cpos.line)=true
 trees:Tx cpos (Rl [e] X.env)=[(false,eval e X.env)]
structure M2 (X:Cx)(o:Qr)(m:Str)(apos:SE)(e f:Qr)(cpos:SE):Prop where
 base:U1 o m X.env (eval o X.env)=eval o X.env
 few:((Tx cpos (Rl [e,f] X.env)).all (fun x=>!x.1)&&(XD cpos (V8 [] X.env)).all (fun x=>x.1.isSome)
  && decide (([e,f]:List Qr).length+([]:List T7).length+(if ([]:List T7).isEmpty then 0 else 1)<30))=true
 line:(apos.endLine == cpos.line)=true
 trees:Tx cpos (Rl [e,f] X.env)=[(false,eval e X.env),(false,eval f X.env)]
noncomputable def IsD (H:Hp)(a:Addr):Prop:=(∃ kvs,Rd H a (.dK kvs))\/∃ kvs,Rd H a (.dT kvs)
section
variable {X:Cx}{a0V:List (Addr×SD)}{σ:St}{H:Hp}{s:Qj}{a:Addr}{y d:V}{u r:Qg}{o:Option V}{A:Q0}{E:Qg->Qj->Prop}
end
section
variable {X:Cx}{o e f:Qr}{apos cpos:SE}{td ty tx:TE}
end
section
variable {X:Cx}{a0V:List (Addr×SD)}{σ:St}{H:Hp}{s:Qj}{a:Addr}{kvs:List (aF×V)}{A:Q0}{E:Qg->Qj->Prop}
end
section
variable {X:Cx}{a0V:List (Addr×SD)}{σ:St}{H:Hp}{s:Qj}{a:Addr}{y:V}{u:Qg}{A:Q0}{E:Qg->Qj->Prop}
end
end L2
namespace HT
open PySem PyProof.Rows
noncomputable def lexLt:List Int->List Int->Bool
 | [],[]=>false
 | [],_::_=>true
 | _::_,[]=>false
 | x::xs,y::ys=>if x=y then lexLt xs ys else decide (x<y)
theorem lexLt_cons (x y:Int)(xs ys:List Int):lexLt (x::xs) (y::ys)=if x=y then lexLt xs ys else decide (x<y):=rfl
theorem GV:lexLt [] []=false:=rfl
theorem GW (y:Int)(ys:List Int):lexLt [] (y::ys)=true:=rfl
theorem GX (x:Int)(xs:List Int):lexLt (x::xs) []=false:=rfl
theorem GY (A:Q0)(s:Qj)(a:Int)(t:YB)(c:Int)(u:YB):∃ e,WT A s (.int a t) (.int c u) e/\(e=true↔a=c):=
 ⟨(a == c),SeqAt.EqAt.int_int a t c u,by simp⟩
theorem GZ (A:Q0)(s:Qj)(a:Int)(t:YB)(c:Int)(u:YB)(prog:QR)(w:Rg)(E:Qg->Qj->Prop)(Q:Qg->Qj->Prop)(h:Q (.bool (decide (a<c))) s) :
  QV (QX prog w) A (richCompare .Lt (.int a t) (.int c u)) Q E s:=
 (a0n h:QV (QX prog w) A (RT .Lt (.int a t) (.int c u)) Q E s)
section
open PySem.SeqAt
open PySem.AutoSeq1 (wpAny_loadPart')
open PySem.MeetsSeq PySem.MeetsSeq2 PySem.MeetsSeq3
theorem G0 (l b:Addr)(items items2:Array Qg)(n n2:Nat)(dd dd2:Option Addr)(sl sl2:Array (Option Qg))(ns ms:List Int)(hi:Ul items.toList ns)(hj:Ul items2.toList ms) :
  Meets (Builtin.«tuple.__lt__» ⟨[.ref l,.ref b],[]⟩)
   (fun _ R s=>s.heap.get? l=some { cls:=.type "tuple",dict:=dd,data:=.seq items n,slots:=sl }/\s.heap.get? b=some { cls:=.type "tuple",dict:=dd2,data:=.seq items2 n2,slots:=sl2 } /\
    R (.ok (.ret (.bool (lexLt ns ms)))) s):=
 .of_wp fun prog w A R s h=>by
  obtain ⟨hp,g,d,tk,os⟩:=s;obtain ⟨hl,hb,h⟩:=h
  have f2:=AutoSeq1.sub_tuple_tuple
  have z1:items.size=ns.length:=by rw [<- hi.length];simp
  have z2:items2.size=ms.length:=by rw [<- hj.length];simp
  wp_walk using a0a hl,a0a hb,wpAny_forIn_list _ (fun rest b s'=>b.1=none/\s'=⟨hp,g,d,tk,os⟩/\∃ (vs ws:List Qg)(ns' ms':List Int),rest=vs.zip ws /\
   Ul vs ns'/\Ul ws ms'/\ns'.length+items2.size=ms'.length+items.size/\R (.ok (.ret (.bool (lexLt ns' ms')))) ⟨hp,g,d,tk,os⟩) _
  case turn=>
   rintro ⟨y,x⟩ rest b s' ⟨hb',rfl,vs,ws,ns',ms',hz,hvi,hwi,hlen,hR⟩
   cases hvi with
   | nil=>rw [List.zip_nil_left] at hz;cases hz
   | cons a t hvi'=>
    cases hwi with
    | nil=>rw [List.zip_nil_right] at hz;cases hz
    | cons c u hwi'=>
     rw [Yo] at hz
     injection hz with hyx hrest
     injection hyx with hy hx
     subst hy hx
     rw [lexLt_cons] at hR
     simp only [QU] at hlen
     obtain ⟨e,he,hiff⟩:=GY A.in1 ⟨hp,g,d,tk,os⟩ a t c u
     refine Qh (he prog w _ _ ?_)
     cases e with
     | true=>
      rw [if_pos (hiff.mp rfl)] at hR
      wp_walk
      exact ⟨rfl,rfl,_,_,_,_,hrest,hvi',hwi',by omega,hR⟩
     | false=>
      rw [if_neg (fun q=>absurd (hiff.mpr q) RB)] at hR
      have hri:=GZ A.in1 ⟨hp,g,d,tk,os⟩ a t c u prog w
      wp_walk using hri
      exact ⟨_,rfl,by simpa using hR⟩
  case fin=>
   rintro ⟨b1,b2⟩ s' ⟨hb',rfl,vs,ws,ns',ms',hz,hvi,hwi,hlen,hR⟩
   simp only at hb'
   subst hb'
   have hv:lexLt ns' ms'=decide (items.size<items2.size):=by
    cases hvi with
    | nil=>
     cases hwi with
     | nil=>
      simp only [SY] at hlen
      rw [GV]
      exact (decide_eq_false (by omega)).symm
     | cons c u hw=>
      simp only [SY,QU] at hlen
      rw [GW]
      exact (decide_eq_true (by omega)).symm
    | cons a t hv=>
     cases hwi with
     | nil=>
      simp only [SY,QU] at hlen
      rw [GX]
      exact (decide_eq_false (by omega)).symm
     | cons c u hw=>
      rw [Yo] at hz
      cases hz
   rw [hv] at hR
   wp_walk
   exact ⟨_,rfl,by simpa [Z7] using hR⟩
  case h=>
   exact ⟨rfl,rfl,items.toList,items2.toList,ns,ms,rfl,hi,hj,by omega,h⟩
end
section
variable {prog:QR}{w:Rg}{A:Q0}{E:Qg->Qj->Prop}{s:Qj}
theorem lt_tupInts {l b:Addr}{items items2:Array Qg}{ns ms:List Int}{Q:Qg->Qj->Prop}(hl:a0x s.heap l items)(hb:a0x s.heap b items2)(hi:Ul items.toList ns)(hj:Ul items2.toList ms)
  (hu:A.units<Sf)(h:Q (.bool (lexLt ns ms)) s):QV (QX prog w) A (RT .Lt (.ref l) (.ref b)) Q E s:=by
 obtain ⟨⟨cls,dd,data,sl⟩,ho,hc,n,hd⟩:=id hl
 obtain ⟨⟨cls2,dd2,data2,sl2⟩,ho2,hc2,n2,hd2⟩:=id hb
 simp only at hc hd hc2 hd2
 subst hc hd hc2 hd2
 exact richCompare_meets_room (op:=.Lt) ⟨_,ho,rfl⟩ ⟨_,ho2,rfl⟩ PySem.F.slot_tuple_lt PySem.F.entry_tuple_lt (PySem.F.args_tuple_lt_2 _ _) (G0 l b items items2 n n2 dd dd2 sl sl2 ns ms hi hj)
  ⟨ho,ho2,show Uy (lexLt ns ms)≠Value.notImplemented/\Q (.bool (lexLt ns ms)) s from ⟨(fun x=>nomatch x),h⟩⟩ hu
noncomputable def sIx (n d:Nat):Option Int->Nat
 | none=>d
 | some v=>if v<0 then (v+(n:Int)).toNat else min v.toNat n
theorem sIx_none (n d:Nat):sIx n d none=d:=rfl
theorem sIx_nat (n d k:Nat):sIx n d (some (k:Int))=min k n:=by
 show (if (k:Int)<0 then ((k:Int)+(n:Int)).toNat else min (k:Int).toNat n)=min k n
 rw [if_neg (by omega),TR]
theorem nP (n d:Nat)(hd:d<=n)(o:Option Int):sIx n d o<=n:=by
 cases o with
 | none=>exact hd
 | some v=>
  show (if v<0 then (v+(n:Int)).toNat else min v.toNat n)<=n
  by_cases hv:v<0
  ·rw [if_pos hv];omega
  ·rw [if_neg hv];exact Nat.min_le_right _ _
end
end HT
namespace L2
open PySem PySem.Spec PyProof.Rows
noncomputable abbrev TO:=St->Hp->(Option Int->Hp->Prop)->Prop
noncomputable def PO (X:Cx)(e:Option Qr)(t:TO):Prop:=
 ∀ (a0V:List (Addr×SD))(s:Qj)(σ:St)(H:Hp)(Q:Option Int->Hp->Prop),Inv X a0V σ H s->t σ H Q->
  QV (QX X.prog X.w) X.A (evalPart e X.env) (fun u s'=>∃ o H',Inv X a0V σ H' s'/\a0S u o/\Q o H') X.xe s
noncomputable def G1:TO:=fun _ H Q=>Q none H
noncomputable def G2 (t:TE):TO:=fun σ H Q=>t σ H fun x H1=>∃ i,x=.int i/\Q (some i) H1
theorem zZ {ns:List Int}:∀ {us:List Qg},Vals (ns.map V.int) us->Ul us ns:=by
 induction ns with
 | nil=>intro us r;rw [U2] at r;cases r;exact .nil
 | cons n ns ih=>
  intro us r
  rw [Qz] at r
  cases r with
  | cons r1 r2=>
   obtain ⟨t,e⟩:=r1
   subst e
   exact .cons n t (ih r2)
section
variable {X:Cx}{e:Qr}{te:TE}{lo hi:Option Qr}{tl th:TO}{pos p2:SE}
theorem G3:PO X none G1:=by
 intro a0V s σ H Q I h
 rw [evalPart_none]
 exact Qt ⟨none,H,I,.none,h⟩
theorem G4 (h:PE X e te):PO X (some e) (G2 te):=by
 intro a0V s σ H Q I hw
 rw [evalPart_some]
 refine aN (h a0V s σ H _ I hw) fun u s1 ⟨x,H1,I1,r1,q1⟩=>?_
 obtain ⟨i,rfl,q⟩:=q1
 obtain ⟨t,rfl⟩:=r1
 exact ⟨some i,H1,I1,.int i t,q⟩
noncomputable def SlR (X:Cx)(r:V->Option Int->Option Int->Hp->VK->Prop):Prop:=
 ∀ (a0V:List (Addr×SD))(s:Qj)(σ:St)(H:Hp)(x:V)(v vl vu:Qg)(lo hi:Option Int)(sl:Addr)(Q:VK),Inv X a0V σ H s->RelV x v->s.heap.IsSliceOf sl vl vu .none->a0S vl lo->a0S vu hi->r x lo hi H Q->
  ∃ T id,Zt (.type T) "__getitem__" = pure (some (.builtin id))/\s.TypeIs v T/\QV (QX X.prog X.w) X.A (WO v (.ref sl)) (EP X a0V σ Q) X.xe s
theorem SlR.or {r r':V->Option Int->Option Int->Hp->VK->Prop}(h:SlR X r)(h':SlR X r'):SlR X (fun x lo hi H Q=>r x lo hi H Q\/r' x lo hi H Q):=by
 intro a0V s σ H x v vl vu lo hi sl Q I rx hs pl pu q
 rcases q with q|q
 ·exact h a0V s σ H x v vl vu lo hi sl Q I rx hs pl pu q
 ·exact h' a0V s σ H x v vl vu lo hi sl Q I rx hs pl pu q
noncomputable def G5 (r:V->Option Int->Option Int->Hp->VK->Prop)(te:TE)(tl th:TO):TE:=fun σ H Q=>te σ H fun x H1=>tl σ H1 fun l H2=>th σ H2 fun u H3=>r x l u H3 Q
theorem G6 {r:V->Option Int->Option Int->Hp->VK->Prop}(hr:SlR X r)(he:PE X e te)(hl:PO X lo tl)(hu:PO X hi th):PE X (.Subscript e (.Slice lo hi none p2) pos) (G5 r te tl th):=by
 intro a0V s σ H Q I h
 refine ZA (aN (he a0V s σ H _ I h) fun v s1 ⟨x,H1,I1,r1,q1⟩=>?_)
 refine wpAny_Slice (aN (hl a0V s1 σ H1 _ I1 q1) fun vl s2 ⟨l,H2,I2,pl,q2⟩=>aN (hu a0V s2 σ H2 _ I2 q2) fun vu s3 ⟨u,H3,I3,pu,q3⟩=>?_)
 rw [evalPart_none]
 refine Qt ?_
 have I4:Inv X a0V σ H3 { s3 with heap:=s3.heap.push { cls:=.type "slice",data:=.fields #[vl,vu,.none] } }:=I3.kept (t':=s3.toks) fun b ob q=>Qo _ q
 obtain ⟨T,id,hT,ht,hg⟩:=hr a0V { s3 with heap:=s3.heap.push { cls:=.type "slice",data:=.fields #[vl,vu,.none] } } σ H3 x v vl vu l u s3.heap.objs.size Q I4 r1 (ZT ..) pl pu q3
 show QV (QX X.prog X.w) X.A (X4 e (.Slice lo hi none p2) v (.ref s3.heap.objs.size)) (EP X a0V σ Q) X.xe { s3 with heap:=s3.heap.push { cls:=.type "slice",data:=.fields #[vl,vu,.none] } }
 exact tail_any (ops:=[.ref s3.heap.objs.size,v]) ht hT hg (by with_unfolding_all rfl)
noncomputable def jE (xs:List V)(lo hi:Option Int):List V:=(xs.drop (HT.sIx xs.length 0 lo)).take (HT.sIx xs.length xs.length hi - HT.sIx xs.length 0 lo)
theorem G7 (xs:List V)(lo hi:Option Int):(jE xs lo hi).length<=xs.length:=by
 unfold jE
 rw [Q8,Rt]
 omega
end
end L2
namespace L2
open PySem PySem.Spec PyProof.Rows
noncomputable def iI (n:Nat)(i:Int):Option Nat:=if 0<=i then (if i<n then some i.toNat else none) else if -(n:Int)<=i then some (i+n).toNat else none
noncomputable def atI {α:Type}(xs:List α)(i:Int):Option α:=(iI xs.length i).bind fun j=>xs[j]?
theorem z7 {n:Nat}{i:Int}{j:Nat}(h:iI n i=some j):seqIndex? i n=some j/\j<n/\-(n:Int)<=i/\i<n:=by
 unfold iI at h
 by_cases h0:0<=i
 ·rw [if_pos h0] at h
  by_cases h1:i<n
  ·rw [if_pos h1] at h
   have e:i.toNat=j:=Q3 h
   exact ⟨by rw [Y6 h0 h1,e],by omega,by omega,h1⟩
  ·rw [if_neg h1] at h;cases h
 ·rw [if_neg h0] at h
  by_cases h1:-(n:Int)<=i
  ·rw [if_pos h1] at h
   have e:(i+n).toNat=j:=Q3 h
   exact ⟨by rw [Yw (by omega) h1,e],by omega,h1,by omega⟩
  ·rw [if_neg h1] at h;cases h
theorem tN {α:Type}{xs:List α}{i:Int}{v:α}(h:atI xs i=some v):∃ j,seqIndex? i xs.length=some j/\xs[j]? = some v/\j<xs.length/\-(xs.length:Int)<=i/\i<xs.length:=by
 unfold atI at h
 cases e:iI xs.length i with
 | none=>rw [e] at h;cases h
 | some j=>
  rw [e] at h
  obtain ⟨h1,h2,h3,h4⟩:=z7 e
  exact ⟨j,h1,h,h2,h3,h4⟩
noncomputable def tP (b:Qr):Prop:=∀ o i,Xf b false o i=operate [o,i] (WO o i)
noncomputable def IxR (X:Cx)(r:R2):Prop:=
 ∀ (value slice:Qr)(a0V:List (Addr×SD))(s:Qj)(σ:St)(H:Hp)(x y:V)(v u:Qg)(Q:VK),Inv X a0V σ H s->RelV x v->RelV y u->r x y H Q->
  Xf slice false v u=operate [v,u] (WO v u)->QV (QX X.prog X.w) X.A (X4 value slice v u) (EP X a0V σ Q) X.xe s
noncomputable def MtR (X:Cx)(id:String)(r:V->List V->Hp->VK->Prop):Prop:=
 ∀ (a0V:List (Addr×SD))(s:Qj)(σ:St)(H:Hp)(x:V)(xs:List V)(v:Qg)(us:List Qg)(Q:VK),Inv X a0V σ H s->RelV x v->Vals xs us->r x xs H Q->
  QV (QX X.prog X.w) X.A (call (.builtin id) (v::us)) (EP X a0V σ Q) X.xe s
section
variable {X:Cx}{a b:Qr}{ta tb:TE}{pos:SE}
theorem IxR.or {r r':R2}(h:IxR X r)(h':IxR X r'):IxR X (fun x y H Q=>r x y H Q\/r' x y H Q):=by
 intro value slice a0V s σ H x y v u Q I rx ry q hs
 rcases q with q|q
 ·exact h value slice a0V s σ H x y v u Q I rx ry q hs
 ·exact h' value slice a0V s σ H x y v u Q I rx ry q hs
theorem MtR.or {id:String}{r r':V->List V->Hp->VK->Prop}(h:MtR X id r)(h':MtR X id r'):MtR X id (fun x xs H Q=>r x xs H Q\/r' x xs H Q):=by
 intro a0V s σ H x xs v us Q I rx rs q
 rcases q with q|q
 ·exact h a0V s σ H x xs v us Q I rx rs q
 ·exact h' a0V s σ H x xs v us Q I rx rs q
theorem G8 {r:R2}(hr:IxR X r)(ha:PE X a ta)(hb:PE X b tb)(hs:tP b):PE X (.Subscript a b pos) (nN r ta tb):=by
 intro a0V s σ H Q I h
 exact ZA (sW ha hb I h fun v u s2 x y H2 I2 rx ry q=>hr a b a0V s2 σ H2 x y v u Q I2 rx ry q (hs _ _))
noncomputable def z8 (K:Qf):R2:=fun x y H Q=>∃ p xs i v,x=.ref p/\y=.int i/\SqL K H p xs/\atI xs i=some v/\Q v H
noncomputable def z9 (K:Qf):R2:=fun x y H Q=>∃ p xs i v,x=.ref p/\y=.int i/\SqT K H p xs/\atI xs i=some v/\Q v H
noncomputable def Aa:R2:=fun x y H Q=>∃ z i c,x=.str z/\y=.int i/\z.length<=Qs/\atI z.cps.toList i=some c/\Q (.str ⟨#[c]⟩) H
theorem ix_list:IxR X (z8 X.K):=by
 intro value slice a0V s σ H x y v u Q I rx ry h hs
 obtain ⟨p,xs,i,z,rfl,rfl,hq,he,q⟩:=h
 cases rx
 obtain ⟨t,rfl⟩:=ry
 obtain ⟨its,r,pl,hz⟩:=I.list hq
 obtain ⟨j,h1,h2,h3,h4,h5⟩:=tN he
 obtain ⟨w,ew,rw'⟩:=r.get h2
 have hl:=r.length
 have hn:=j8
 have fin:EP X a0V σ Q w s:=⟨z,H,I,rw',q⟩
 by_cases h0:0<=i
 ·have hj:i.toNat=j:=by
   rw [Y6 h0 h5] at h1
   exact Q3 h1
  exact item_listR pl.isList h0 (by omega) (by rw [hj];simpa using ew) fin hs
 ·have hj:(i+(its.toArray.size:Int)).toNat=j:=by
   rw [Yw (by omega) h4] at h1
   rw [Qn,<- hl]
   exact Q3 h1
  exact Yv (x:=w) pl.isList.typeIs ZL.lookup
   (wpAny_getItem_list_neg (Q:=fun r s'=>r=w/\EP X a0V σ Q r s') pl.isList (by omega) (by rw [Qn]<;>omega) (by omega) (by rw [hj];simpa using ew) ⟨rfl,fin⟩) hs
theorem ix_tup:IxR X (z9 X.K):=by
 intro value slice a0V s σ H x y v u Q I rx ry h hs
 obtain ⟨p,xs,i,z,rfl,rfl,hq,he,q⟩:=h
 cases rx
 obtain ⟨t,rfl⟩:=ry
 obtain ⟨its,r,pl,hz⟩:=I.tuple hq
 obtain ⟨j,h1,h2,h3,h4,h5⟩:=tN he
 obtain ⟨w,ew,rw'⟩:=r.get h2
 have hl:=r.length
 have hn:=j8
 have fin:EP X a0V σ Q w s:=⟨z,H,I,rw',q⟩
 exact Yv (x:=w) pl.typeIs slot_tuple_getitem.lookup
  (getItem_tuple (j:=j) (Q:=fun r s'=>r=w/\EP X a0V σ Q r s') pl (by omega) (by omega) (by rw [Qn,<- hl];exact h1) (by simpa using ew) ⟨rfl,fin⟩) hs
theorem G9:IxR X Aa:=by
 intro value slice a0V s σ H x y v u Q I rx ry h hs
 obtain ⟨z,i,c,rfl,rfl,hz,he,q⟩:=h
 obtain ⟨t,rfl⟩:=rx
 obtain ⟨t',rfl⟩:=ry
 obtain ⟨j,h1,h2,h3,h4,h5⟩:=tN he
 have hl:z.cps.toList.length=z.length:=by simp [Wa]
 rw [hl] at h1 h4 h5
 have hn:=j8
 exact tail_any (Vi s z t) slot_str_getitem.lookup (getItem_str (c:=c) (by
  have e1:decide (i < -(2 ^ 63:Int))=false:=decide_eq_false (by omega)
  have e2:decide (i >= 2 ^ 63)=false:=decide_eq_false (by omega)
  rw [e1,e2,ZE]) (by rw [h1];simpa using h2) ⟨.str ⟨#[c]⟩,H,I.tok _,⟨_,rfl⟩,q⟩) hs
noncomputable def Ab (K:Qf):R2:=fun x y H Q=>z8 K x y H Q\/z9 K x y H Q\/Aa x y H Q
theorem Ha:IxR X (Ab X.K):=ix_list.or (ix_tup.or G9)
theorem Hb (its:List Qg)(n j:Nat)(u:Qg):RL (·.setIfInBounds j u) { cls:=.type "list",data:=.seq its.toArray n } = { cls:=.type "list",data:=.seq (its.set j u).toArray n }:=by
 simp [RL]
theorem Inv.lst {a0V:List (Addr×SD)}{σ:St}{H:Hp}{s:Qj}{p:Addr}{xs:List V}(I:Inv X a0V σ H s)(h:H p=some (.lst xs)) :
  ∃ (its:List Qg)(n:Nat),Vals xs its/\s.heap.get? p=some { cls:=.type "list",data:=.seq its.toArray n }/\xs.length<=Qs:=by
 obtain ⟨z,its,n,r,e⟩:=I.hok p _ h
 exact ⟨its,n,r,e,z⟩
theorem Inv.lstUpd {a0V:List (Addr×SD)}{σ:St}{H:Hp}{s:Qj}{p:Addr}{xs ys:List V}{its its':List Qg}{n n':Nat}{f:SD->SD}(I:Inv X a0V σ H s)(h:H p=some (.lst xs))
  (ho:s.heap.get? p=some { cls:=.type "list",data:=.seq its.toArray n }) (hf:f { cls:=.type "list",data:=.seq its.toArray n } = { cls:=.type "list",data:=.seq its'.toArray n' }) (r:Vals ys its')(hz:ys.length<=Qs)(t:Nat) :
  Inv X a0V σ (aH H p (.lst ys)) { s with heap:=s.heap.update p f,toks:=t }:=by
 have e:(s.heap.update p f).get? p=some { cls:=.type "list",data:=.seq its'.toArray n' }:=by
  rw [TJ f ho (by rw [hf]<;>rfl),hf]
 refine I.write (x:=p) (e:=p) (by rw [h];trivial) (.inl rfl) (fun b u hb q=>(Sm _ _ (Sn hb)).trans q) ⟨_,e⟩ ?_
 exact ⟨hz,its',n',r,e⟩
noncomputable def Ac:V->V->V->Hp->(Hp->Prop)->Prop:=fun o i v H Q=>∃ p xs k j,o=.ref p/\i=.int k/\H p=some (.lst xs)/\iI xs.length k=some j/\Q (aH H p (.lst (xs.set j v)))
theorem Hc:FP X Ac:=by
 intro a0V s σ H o i v ov iv u Q I ro ri rv h
 obtain ⟨p,xs,k,j,rfl,rfl,hp,hj,q⟩:=h
 cases ro
 obtain ⟨t,rfl⟩:=ri
 obtain ⟨its,n,r,ho,hz⟩:=I.lst hp
 obtain ⟨h1,h2,h3,h4⟩:=z7 hj
 have hl:=r.length
 have hn:=j8
 have I':Inv X a0V σ (aH H p (.lst (xs.set j v))) { s with heap:=s.heap.update p (RL (·.setIfInBounds j u)) }:=
  I.lstUpd hp ho (Hb its n j u) (r.set rv j) (by rw [RX];exact hz) s.toks
 by_cases h0:0<=k
 ·have hk:k.toNat=j:=by
   rw [Y6 h0 h4] at h1
   exact Q3 h1
  exact PySem.W.ki_setAt ho h0 (by omega) (by rw [Qn,<- hl];exact h4) (by rw [hk];exact ⟨_,I',q⟩)
 ·have hk:(k+(its.toArray.size:Int)).toNat=j:=by
   rw [Yw (by omega) h3] at h1
   rw [Qn,<- hl]
   exact Q3 h1
  exact PySem.W.ki_setBack ho (by omega) (by rw [Qn,<- hl];exact h3) (by omega) (by rw [hk];exact ⟨_,I',q⟩)
theorem Hd (lo hi:Option Int)(n:Nat):(U3 lo hi none n).1=((HT.sIx n 0 lo:Nat):Int)/\(U3 lo hi none n).2.1=((HT.sIx n n hi:Nat):Int)/\(U3 lo hi none n).2.2=1:=by
 refine ⟨?_,?_,rfl⟩
 ·cases lo with
  | none=>simp [U3,HT.sIx]
  | some i=>
   simp only [U3,HT.sIx,Yn,show (1:Int)>0 by decide,if_true]
   by_cases h:i<0
   ·simp only [h,if_true]<;>omega
   ·simp only [h,if_false]<;>omega
 ·cases hi with
  | none=>simp [U3,HT.sIx]
  | some i=>
   simp only [U3,HT.sIx,Yn,show (1:Int)>0 by decide,if_true]
   by_cases h:i<0
   ·simp only [h,if_true]<;>omega
   ·simp only [h,if_false]<;>omega
theorem He (its:List Qg)(lo hi:Option Int):slicePick its.toArray lo hi none=((its.drop (HT.sIx its.length 0 lo)).take (HT.sIx its.length its.length hi - HT.sIx its.length 0 lo)).toArray:=by
 obtain ⟨h1,h2,h3⟩:=Hd lo hi its.toArray.size
 unfold slicePick
 rw [h1,h2,h3]
 simp only [a0I,pick_run,Qn]<;>rfl
noncomputable def tQ (K:Qf):V->Option Int->Option Int->Hp->VK->Prop:=fun x lo hi H Q=>∃ a xs,x=.ref a/\SqL K H a xs/\∀ p,H p=none->Q (.ref p) (aH H p (.lst (jE xs lo hi)))
theorem sl_list:SlR X (tQ X.K):=by
 intro a0V s σ H x v vl vu lo hi sl Q I rx hs pl pu h
 obtain ⟨a,xs,rfl,hx,q⟩:=h
 cases rx
 obtain ⟨its,r,ht,hz⟩:=I.list hx
 have hlen:=r.length
 refine ⟨"list",_,ZL.lookup,ht.isList.typeIs,?_⟩
 refine wpAny_getItem_list_slice ht.isList hs pl pu .none (by simp) ?_ (by rw [Qn]<;>omega)
 rw [He,<- hlen]
 refine ⟨.ref s.heap.objs.size,_,I.laid (t':=s.toks) (o:=.lst (jE xs lo hi)) (fun b ob q=>Qo _ q) (Qq _) ?_,rfl,q _ (I.hok.fresh (Qq _))⟩
 exact ⟨Sb (G7 xs lo hi) hz,_,0,(r.drop (HT.sIx xs.length 0 lo)).take (HT.sIx xs.length xs.length hi - HT.sIx xs.length 0 lo),QY _ rfl⟩
theorem Ad:OpR X (RT .NotIn) (fun x y H Q=>∃ i j,x=.str i/\y=.str j/\Q (.bl (!(!(RM j i 0 j.length 1).isEmpty))) H):=by
 intro a0V s σ H x y v u Q I rx ry h
 obtain ⟨i,j,rfl,rfl,q⟩:=h
 obtain ⟨t,rfl⟩:=rx
 obtain ⟨t',rfl⟩:=ry
 exact notIn_str ⟨.bl _,H,I,rfl,q⟩
theorem call_len_seq:CallR X (.builtin "len") (fun xs H Q=>∃ p ys,xs=[.ref p]/\(SqL X.K H p ys\/SqT X.K H p ys)/\Q (.int ys.length) H):=by
 intro a0V s σ H xs us Q I r h
 obtain ⟨p,ys,rfl,hq,q⟩:=h
 obtain ⟨u,rfl,rx⟩:=fP r
 cases rx
 have hn:=j8
 rcases hq with hq|hq
 ·obtain ⟨its,r',pl,hz⟩:=I.list hq
  have hlen:=r'.length
  exact Calls.call_len_list pl.isList (by simp only [Qn]<;>omega) ⟨.int ys.length,H,I.tok _,⟨s.toks+1,by rw [Qn,hlen]⟩,q⟩
 ·obtain ⟨its,r',pl,hz⟩:=I.tuple hq
  have hlen:=r'.length
  exact len_tuple pl (by simp only [Qn]<;>omega) ⟨.int ys.length,H,I.tok _,⟨s.toks+1,by rw [Qn,hlen]⟩,q⟩
theorem Hf:CallR X (.builtin "len") (fun xs H Q=>∃ z,xs=[.str z]/\z.length<=Qs/\Q (.int z.length) H):=by
 intro a0V s σ H xs us Q I r h
 obtain ⟨z,rfl,hz,q⟩:=h
 obtain ⟨u,rfl,t,rfl⟩:=fP r
 have hn:=j8
 exact len_str (by omega) ⟨.int z.length,H,I.tok _,⟨_,rfl⟩,q⟩
theorem CallR.or {f:Qg}{r r':List V->Hp->VK->Prop}(h:CallR X f r)(h':CallR X f r'):CallR X f (fun xs H Q=>r xs H Q\/r' xs H Q):=by
 intro a0V s σ H xs us Q I rs q
 rcases q with q|q
 ·exact h a0V s σ H xs us Q I rs q
 ·exact h' a0V s σ H xs us Q I rs q
theorem Ae:CallR X (.type "tuple") (fun xs H Q=>∃ p ys,xs=[.ref p]/\((SqL X.K H p ys/\∀ l,H l=none->Q (.ref l) (aH H l (.tup ys)))\/(SqT X.K H p ys/\Q (.ref p) H))):=by
 intro a0V s σ H xs us Q I r h
 obtain ⟨p,ys,rfl,h⟩:=h
 obtain ⟨u,rfl,rx⟩:=fP r
 cases rx
 rcases h with ⟨hq,q⟩|⟨hq,q⟩
 ·obtain ⟨its,r',pl,hz⟩:=I.list hq
  have hlen:=r'.length
  refine call_tuple_list pl.isList (fun h' kp=>?_) (by simp only [Qn]<;>omega)
  have I1:Inv X a0V σ H { s with heap:=h' }:=I.kept (t':=s.toks) kp
  have I2:Inv X a0V σ (aH H h'.objs.size (.tup ys)) { s with heap:=h'.push { cls:=.type "tuple",data:=.seq its.toArray } }:=
   I1.laid (t':=s.toks) (fun b o e=>Qo _ e) (Qq _) (show ObjOk X.prog X.w _ _ _ (.tup ys) from ⟨hz,its,r',TupN.new _ _⟩)
  exact ⟨.ref h'.objs.size,_,I2,rfl,q _ (I1.hok.fresh (Qq _))⟩
 ·obtain ⟨its,r',pl,hz⟩:=I.tuple hq
  exact call_tuple_same pl ⟨.ref p,H,I,rfl,q⟩
noncomputable def tR (K:Qf)(T:String)(x:V)(H:Hp):Prop:=match x with
 | .str _=>T = "str"
 | .int _=>T = "int"
 | .ref p=>(T = "list"/\∃ xs,SqL K H p xs)\/(T = "tuple"/\∃ o,K.lookup p=some o/\o.cls=.type "tuple"/\o.dict=none) \/
   (T = "dict"/\((∃ kvs,H p=some (.dK kvs))\/∃ kvs,H p=some (.dT kvs)))\/(T = "set"/\∃ S n,H p=some (.set S n))
 | _=>False
theorem Hg {a0V:List (Addr×SD)}{σ:St}{H:Hp}{s:Qj}{T:String}{x:V}{v:Qg}(I:Inv X a0V σ H s)(r:RelV x v)(ty:tR X.K T x H) :
  s.TypeIs v T/\∀ a,v=.ref a->∃ ob,s.heap.get? a=some ob/\ob.dict=none:=by
 cases x with
 | str z=>
  obtain ⟨t,rfl⟩:=r
  cases (show T = "str" from ty)
  exact ⟨Vi s z t,fun _ e=>nomatch e⟩
 | int i=>
  obtain ⟨t,rfl⟩:=r
  cases (show T = "int" from ty)
  exact ⟨typeIs_int s i t,fun _ e=>nomatch e⟩
 | ref p=>
  cases r
  rcases ty with ⟨rfl,xs,hq⟩|⟨rfl,o,hk,hc,hd⟩|⟨rfl,hk⟩|⟨rfl,S,n,hk⟩
  ·obtain ⟨its,_,pl,_⟩:=I.list hq
   refine ⟨pl.isList.typeIs,fun a e=>?_⟩
   cases e
   obtain ⟨o,n,e,c,hd,_⟩:=pl
   exact ⟨o,e,hd⟩
  ·refine ⟨⟨o,I.kIn p o hk,hc⟩,fun a e=>?_⟩
   cases e
   exact ⟨o,I.kIn _ o hk,hd⟩
  ·have z:∃ o,s.heap.get? p=some o/\o.ExactDict:=by
    rcases hk with ⟨kvs,hk⟩|⟨kvs,hk⟩
    ·obtain ⟨_,_,_,_,o,_,_,e,ex,_⟩:=I.hok p _ hk
     exact ⟨o,e,ex⟩
    ·obtain ⟨_,_,_,_,o,_,_,e,ex,_⟩:=I.hok p _ hk
     exact ⟨o,e,ex⟩
   obtain ⟨o,e,ex⟩:=z
   refine ⟨⟨o,e,ex.1⟩,fun a e2=>?_⟩
   cases e2
   exact ⟨o,e,ex.2.1⟩
  ·obtain ⟨o,_,_,_,e,ex,_⟩:=I.hok p _ hk
   refine ⟨⟨o,e,ex.1⟩,fun a e2=>?_⟩
   cases e2
   exact ⟨o,e,ex.2.1⟩
 | _=>exact SV ty
noncomputable def tS (K:Qf)(T:String)(r:V->List V->Hp->VK->Prop)(to:TE)(t:TA):TE:=fun σ H Q=>to σ H fun x H1=>tR K T x H1/\t σ H1 fun xs H2=>r x xs H2 Q
variable {o e:Qr}{es:List Qr}{to:TE}{t:TA}{name:Str}{apos cpos:SE}{T id:String}{r:V->List V->Hp->VK->Prop}
theorem Af (pa:PlainAttrs T)(slot:Slot T name id)(hty:Zs (.builtin id)=pure (.type "method_descriptor")) (hm:MtR X id r)(ho:PE X o to)(ha:PA X (e::es) t)
  (hbase:U1 o name X.env (eval o X.env)=eval o X.env:=by rfl)
  (hfew:((Tx cpos (Rl (e::es) X.env)).all (fun x=>!x.1)&&(XD cpos (V8 [] X.env)).all (fun x=>x.1.isSome)
   && decide ((e::es).length+([]:List T7).length+(if ([]:List T7).isEmpty then 0 else 1)<30))=true:=by rfl)
  (hline:(apos.endLine == cpos.line)=true:=by rfl)(hs:Rl (e::es) X.env=(false,eval e X.env)::Rl es X.env:=by rfl)(hplain:(Tx cpos (Rl es X.env)).any (·.1)=false:=by rfl) :
  PE X (.Call (.Attribute o name apos) (e::es) [] cpos) (tS X.K T r to t):=by
 intro a0V s σ H Q I h
 refine Yu hbase hfew hline rfl (aN (ho a0V s σ H _ I h) fun v s1 ⟨x,H1,I1,r1,ty,q1⟩=>?_)
 obtain ⟨h1,h2⟩:=Hg I1 r1 ty
 refine ⟨T,id,pa,slot,hty,h1,h2,?_⟩
 have hA:=ha cpos a0V s1 σ H1 _ I1 q1
 rw [hs] at hA ⊢
 refine Vq (by show (false||(Tx cpos (Rl es X.env)).any (·.1))=false;rw [hplain]<;>rfl) (XO ?_)
 exact aN hA fun us s2 ⟨vs,H2,I2,r2,q2⟩=>hm a0V s2 σ H2 x vs v us Q I2 r1 r2 q2
end
end L2
namespace L2
open PySem PySem.Spec PyProof.Rows
noncomputable def f9 (X:Cx)(id:String)(r:V->List V->Hp->VK->Prop):Prop:=
 ∀ (a0V:List (Addr×SD))(s:Qj)(σ:St)(H:Hp)(x:V)(xs:List V)(v:Qg)(us:List Qg)(Q:VK),Inv X a0V σ H s->RelV x v->Vals xs us->r x xs H Q->
  QV (QX X.prog X.w) X.A (call (.builtin id) (v::us)) (EP X a0V σ Q) X.xe s
theorem Vals.one:∀ {x:V}{us:List Qg},Vals [x] us->∃ u,us=[u]/\RelV x u
 | _,_,.cons r .nil=>⟨_,rfl,r⟩
theorem Vals.two:∀ {x y:V}{us:List Qg},Vals [x,y] us->∃ u v,us=[u,v]/\RelV x u/\RelV y v
 | _,_,_,.cons r (.cons q .nil)=>⟨_,_,rfl,r,q⟩
section
variable {X:Cx}{a0V:List (Addr×SD)}{σ:St}{H:Hp}{s:Qj}{l b:Addr}{xs ys zs:List V}
theorem Inv.lset {its its':List Qg}{n:Nat}{f:Array Qg->Array Qg}{t':Nat}(I:Inv X a0V σ H s)(hH:H l=some (.lst xs))
  (e:s.heap.get? l=some { cls:=.type "list",data:=.seq its.toArray n }) (hf:f its.toArray=its'.toArray)(hv:Vals ys its')(hz:ys.length<=Qs) :
  Inv X a0V σ (aH H l (.lst ys)) { s with heap:=s.heap.update l (RL f),toks:=t' }:=by
 have q:=PySem.IsL.update e f
 rw [hf] at q
 refine I.write (x:=l) (e:=l) (by rw [hH];exact trivial) (.inl rfl) (fun b' u hb hu=>(Sm s.heap (RL f) (Sn hb)).trans hu) ⟨_,q⟩ ?_
 exact ⟨hz,its',_,hv,q⟩
theorem Inv.lnew {its:List Qg}{t':Nat}(I:Inv X a0V σ H s)(hv:Vals ys its)(hz:ys.length<=Qs) :
  Inv X a0V σ (aH H s.heap.objs.size (.lst ys)) { s with heap:=s.heap.push { cls:=.type "list",data:=.seq its.toArray },toks:=t' }:=
 I.laid (fun _ _ q=>Qo _ q) (Qq _) ⟨hz,its,0,hv,QY _ rfl⟩
theorem Inv.fresh (I:Inv X a0V σ H s):H s.heap.objs.size=none:=I.hok.fresh (Qq _)
theorem Inv.lstM (I:Inv X a0V σ H s)(hH:H l=some (.lst xs)):xs.length<=Qs/\∃ (its:List Qg)(n:Nat),Vals xs its/\xs.length=its.length/\s.heap.get? l=some { cls:=.type "list",data:=.seq its.toArray n }:=by
 obtain ⟨z,its,n,r,e⟩:=I.hok l _ hH
 exact ⟨z,its,n,r,r.length,e⟩
theorem Hh {n:Nat}(h:n<=Qs):UU n=false:=by
 unfold UU
 exact decide_eq_false (by omega)
end
section
variable {X:Cx}
noncomputable def Ag:V->List V->Hp->VK->Prop:=fun x vs H Q=>∃ l xs y,x=.ref l/\vs=[y]/\H l=some (.lst xs)/\xs.length<Qs/\Q .non (aH H l (.lst (xs++[y])))
theorem Ah:f9 X "list.append" Ag:=by
 intro a0V s σ H x vs v us Q I rx rv h
 obtain ⟨l,xs,y,rfl,rfl,hH,hz,q⟩:=h
 cases rx
 obtain ⟨u,rfl,ru⟩:=rv.one
 obtain ⟨z,its,n,r,hl,e⟩:=I.lstM hH
 refine Vk F.slot_list_append ⟨_,e,rfl⟩ F.entry_list_append (F.args_list_append_2 _ _) (PySem.list_append l its.toArray n u (by rw [Qn];omega)) ⟨e,?_⟩
 refine ⟨.non,_,I.lset (its':=its++[u]) hH e (by simp) (r.append (.cons ru .nil)) ?_,rfl,q⟩
 rw [Qx,XJ]
 omega
noncomputable def Ai:V->List V->Hp->VK->Prop:=fun x vs H Q=>∃ l b xs zs,x=.ref l/\vs=[.ref b]/\H l=some (.lst xs)/\H b=some (.lst zs)/\xs.length+zs.length<=Qs/\Q .non (aH H l (.lst (xs++zs)))
theorem Hi:f9 X "list.extend" Ai:=by
 intro a0V s σ H x vs v us Q I rx rv h
 obtain ⟨l,b,xs,zs,rfl,rfl,hH,hB,hz,q⟩:=h
 cases rx
 obtain ⟨u,rfl,ru⟩:=rv.one
 cases ru
 obtain ⟨z,its,n,r,hl,e⟩:=I.lstM hH
 obtain ⟨z2,its2,n2,r2,hl2,e2⟩:=I.lstM hB
 have hsz:its.toArray.size+its2.toArray.size<=Qs:=by rw [Qn,Qn];omega
 have hlong:¬ (!its.toArray.isEmpty&&UU (its.toArray.size+its2.toArray.size))=true:=by
  rw [Hh hsz,Bool.and_false]
  exact RB
 refine Vk F.slot_list_extend ⟨_,e,rfl⟩ F.entry_list_extend (F.args_list_extend_2 _ _)
  (AutoSeq1.list_extend_list_list_0 l its.toArray n b its2.toArray n2 hlong (by rw [Qn];omega) (by omega)) ⟨e,e2,?_⟩
 refine ⟨.non,_,I.lset (its':=its++its2) hH e (by simp) (r.append r2) ?_,rfl,q⟩
 rw [Qx]
 omega
noncomputable def Aj:R2:=fun x y H Q=>∃ l b xs zs,x=.ref l/\y=.ref b/\H l=some (.lst xs)/\H b=some (.lst zs)/\xs.length+zs.length<=Qs/\∀ p,H p=none->Q (.ref p) (aH H p (.lst (xs++zs)))
theorem Hj:OpR X (T5 .Add) Aj:=by
 intro a0V s σ H x y v u Q I rx ry h
 obtain ⟨l,b,xs,zs,rfl,rfl,hH,hB,hz,q⟩:=h
 cases rx
 cases ry
 obtain ⟨z,its,n,r,hl,e⟩:=I.lstM hH
 obtain ⟨z2,its2,n2,r2,hl2,e2⟩:=I.lstM hB
 refine PySem.P.add_list e e2 ?_ (by rw [Qn,Qn];omega)
 have ea:its.toArray++its2.toArray=(its++its2).toArray:=by simp
 rw [ea]
 exact ⟨.ref _,_,I.lnew (t':=s.toks) (r.append r2) (by rw [Qx];omega),rfl,q _ I.fresh⟩
end
section
variable {prog:QR}{w:Rg}{A:Q0}{E:Qg->Qj->Prop}{s:Qj}
end
section
variable {X:Cx}
end
end L2
namespace Att
open PySem PySem.W PySem.Calls PyProof.Rows
theorem Hk {P:Params}{h:RG}:∀ (ns:List Int)(vs:List Qg),WellAll P h vs (ns.map UN)->Ul vs ns:=by
 intro ns
 induction ns with
 | nil=>
  intro vs w
  rw [U2] at w
  cases w
  exact .nil
 | cons n ns ih=>
  intro vs w
  rw [Qz] at w
  cases w with
  | cons a b=>
   cases a
   exact .cons _ _ (ih _ b)
theorem script_of {l:OpenLaw}{n:Nat}(hn:l.most=some n){P:Params}{h:RG}{args:List WData}{vals:List Qg}
  (hpre:l.row.toRowW.claim.pre args=true)(hwl:WellAll P h vals args) :
  ∃ a vs ns,vals=[QL a]/\args=[WData.list (ns.map UN)]/\h.get? a=some { cls:=.type "list",data:=.seq vs.toArray }/\Ul vs ns/\ns.length<=n:=by
 have hsh:WShape.hasAll [] args [.list .int]=true:=(pre_splitW hpre).1
 have hc:l.pre.holds [] { args:=args } = true:=(pre_splitW hpre).2
 obtain ⟨d,r,rfl,h1,h2⟩:=hasAllW_cons hsh
 obtain rfl:=hasAllW_nil h2
 obtain ⟨xs,rfl,h3⟩:=hasW_list h1
 obtain ⟨ns,rfl⟩:=items_int h3
 have hlen:ns.length<=n:=by
  unfold OpenLaw.pre at hc
  have h4:(WTm.not (.lt (.lit (.int (n:Int))) (.len (.arg 0)))).holds [] { args:=[.list (ns.map .int)] } = true:=by
   have h4:=(holds_andW hc).1
   rw [hn] at h4
   exact h4
  have h5:=condW_of h4 (w_not (w_lt w_lit (w_len_list (w_arg rfl))))
  rw [Qm] at h5
  refine Zc fun q=>?_
  have q':(n:Int)<((ns.length:Nat):Int):=by omega
  first
   | (rw [decide_eq_true q'] at h5;exact absurd h5 (by decide))
   | (simp at h5;omega)
 cases hwl with
 | cons w1 w2=>
  cases w2
  cases w1 with
  | list ho hall=>exact ⟨_,_,ns,rfl,rfl,ho,Hk ns _ hall,hlen⟩
theorem post_true (l:OpenLaw)(args:List WData):l.row.toRowW.claim.post args (.bool true) args=true:=
 postW_of (r:=l.row.toRowW) (X:=(true == true))
  (show ZO [] (.bool true) .bool=true by first|rfl|decide|simp [ZO,WShape.arms,WShape.armsAll])
  (show (WTm.eq .res (.lit (.bool true))).value [] { args:=args,res:=some (.bool true),after:=args } = some (.bool (true == true)) from w_eq_bool (w_res rfl) w_lit) rfl
section
variable {prog:QR}{w:Rg}{A:Q0}{E:Qg->Qj->Prop}{s:Qj}{K:Frag}
end
end Att
namespace L2
open PySem PySem.Spec PyProof.Rows
theorem tT:∀ {vs:List Qg}{ns:List Int},Ul vs ns->Vals (ns.map V.int) vs
 | _,_,.nil=>.nil
 | _,_,.cons n t h=>.cons ⟨t,rfl⟩ (tT h)
noncomputable def Ak (H:Hp):Prop:=∀ b,H b=none\/∃ o xs,H b=some (.frz o (.lst xs))
theorem law_call {P:QR}{w:Rg}{K:Qf}{mg mb:Str->Option Qg}{CX:f7}{k:Nat}{fa a:Addr}{fd:Th}{x:Str}{sp:Sp}{s₁:Qj}{vs:List Qg}{ns:List Int}
  (KX:K.In s₁.heap)(hns:s₁.heap.Ns Sx mg)(hb:s₁.heap.Ns Zz mb)(hbb:∀ x:Str,x ≠ "__name__"->mb x=Ss x) (hlim:s₁.heap.NoLimit)(hg:s₁.gens = #[])
  (ha:s₁.heap.get? a=some { cls:=.type "list",data:=.seq vs.toArray }) (hi:Ul vs ns)(hl:ns.length<=Qs)(hr:Room k WR)
  (F:∀ base:RG,K.In base->base.Ns Sx mg->FnOk P w K mg base CX k fa fd [x] sp)(hbind:∀ (s:Qj)(u:Qg),WX s fd ⟨[u],[]⟩ [(x,u)])
  (hsp:∀ H:Hp,Ak H->SqL K H a (ns.map V.int)->sp [.ref a] H (fun v _=>v=.bl true) fun _ _ _=>False)
  (hCX:∀ H e s',CX [] H s₁ (fun _ _ _=>False) e s'->False) :
  Vs (QX P w) WR (.call (.ref fa) ⟨[.ref a],[]⟩) (fun r s'=>r=.ok (.ret (.bool true))/\OldK s₁.heap s'.heap/\s'.os=s₁.os/\Wi s'.gens) s₁:=by
 have rv:=tT hi
 have lenV:=hi.length
  -- from an abstract heap in which nothing but the script may be tracked
 have core:∀ H:Hp,Ak H->SqL K H a (ns.map V.int)->HOk P w H s₁.heap->(∀ b,H b≠none->b=a)->(H a≠none->K.lookup a=none)->
   Vs (QX P w) WR (.call (.ref fa) ⟨[.ref a],[]⟩) (fun r s'=>r=.ok (.ret (.bool true))/\OldK s₁.heap s'.heap/\s'.os=s₁.os/\Wi s'.gens) s₁:=by
  intro H hO hS hok hA hK
  have kQ:∀ {b:Addr}{o:SD},s₁.heap.get? b=some o->H b=none->(iF s₁.heap H).get? b=some o:=fun e n=>EU e n
  have noA:∀ {b:Addr}{o:SD}{es:Array Se}{ep:Nat},s₁.heap.get? b=some o->o.data=.dict es ep->H b=none:=fun {b o es ep} e d=>by
   cases q:H b with
   | none=>rfl
   | some u=>
    have e':b=a:=hA b (by rw [q];simp)
    subst e'
    rw [ha] at e;cases e
    have d':Data.seq vs.toArray _=a0U es ep:=d
    cases d'
  have nsK:∀ {b:Addr}{m:Str->Option Qg},s₁.heap.Ns b m->(iF s₁.heap H).Ns b m:=fun {b m} ⟨o,es,ep,e,d,r⟩=>⟨o,es,ep,kQ e (noA e d),d,r⟩
  have hKb:K.In (iF s₁.heap H):=fun b o e=>kQ (KX b o e) (by
   cases q:H b with
   | none=>rfl
   | some u=>
    have e':b=a:=hA b (by rw [q];simp)
    subst e'
    rw [hK (by rw [q];simp)] at e;cases e)
  have hM:Mod K mg (iF s₁.heap H):=⟨hKb,nsK hns,⟨mb,nsK hb,hbb⟩,let ⟨mc,h1,h2⟩:=hlim;⟨mc,nsK h1,h2⟩⟩
  have e0:Env0 P w K mg (iF s₁.heap H) WR [] s₁ H:=⟨rfl,hM,fun b o e=>EV e,XH (ET _ _),trivial,fun b hb=>absurd (show b∈([]:List Addr) from hb) (by simp),hok,.of_eq hg⟩
  refine WQ ((F _ hKb (nsK hns)).run WR [] s₁ H ⟨[.ref a],[]⟩ [.ref a] [.ref a] _ _ hr e0 (hbind s₁ (.ref a)) (.cons rfl .nil) (hsp H hO hS)) fun r s' h=>?_
  cases r with
  | error e=>exact (hCX H e s' h).elim
  | ok fl=>
   cases fl with
   | next=>exact SV h
   | brk=>exact SV h
   | cont=>exact SV h
   | ret u=>
    obtain ⟨v,H',os,bare,un,hok',r',q⟩:=h
    have q':v=.bl true:=q
    subst q'
    obtain rfl:u=Uy true:=r'
    refine ⟨rfl,OldK.of_keep fun b o e=>?_,os,bare⟩
    cases q:H b with
    | none=>exact un.keep b o e q (by intro z;exact absurd (show b∈([]:List Addr) from z) (by simp)) (by simp)
    | some u=>
     rcases hO b with z|⟨ob,xs,z⟩
     ·rw [q] at z;cases z
     ·have z2:=un.frzs b ob _ z
      obtain ⟨e1,_⟩:=hok b _ z
      obtain ⟨e2,_⟩:=hok' b _ z2
      rw [e] at e1;cases e1
      exact e2
 cases hk:K.lookup a with
 | some o=>
    -- the script is one of the module's own objects
  have e:=KX a o hk
  rw [ha] at e
  cases e
  refine core (fun _=>none) (fun _=>.inl rfl) (.inr ⟨_,vs.toArray,_,hk,rfl,rfl,rfl,by rw [Qn,lenV];exact hl,by simpa using rv⟩) (fun b u z=>by have z':(none:Option HO)=some u:=z;cases z') (fun b z=>absurd rfl z) fun z=>absurd rfl z
 | none=>
  refine core (fun b=>if b=a then some (.frz { cls:=.type "list",data:=.seq vs.toArray } (.lst (ns.map V.int))) else none) (fun b=>?_) (.inl (.inr ⟨{ cls:=.type "list",data:=.seq vs.toArray },if_pos rfl⟩)) (fun b u z=>?_) (fun b z=>?_) fun _=>hk
  ·by_cases hb:b=a
   ·exact .inr ⟨_,_,if_pos hb⟩
   ·exact .inl (if_neg hb)
  ·by_cases hb:b=a
   ·have z':=(if_pos hb).symm.trans z
    cases z'
    subst hb
    exact ⟨ha,by rw [Qm];exact hl,vs,_,rv,ha⟩
   ·have z':=(if_neg hb).symm.trans z
    cases z'
  ·by_cases hb:b=a
   ·exact hb
   ·exact absurd (if_neg hb) z
end L2
namespace L2
open PySem PySem.Spec PyProof.Rows
end L2
namespace L2
open PySem PySem.Spec PyProof.Rows
noncomputable def iJ (s:Stmt):Arguments:=match s with
 | .FunctionDef _ a _ _ _ _ _ _ _ _=>a
 | _=>{ posonlyargs:=[],args:=[],vararg:=none,kwonlyargs:=[],kw_defaults:=[],kwarg:=none,defaults:=[] }
noncomputable def eI (s:Stmt):List Stmt:=match s with
 | .FunctionDef _ _ b _ _ _ _ _ _ _=>b
 | _=>[]
noncomputable def bY (s:Stmt):Tz:=match s with
 | .FunctionDef _ _ _ _ _ _ sc _ _ _=>sc
 | _=>{ kind:=.function,names:=[],isGenerator:=false,isCoroutine:=false }
noncomputable abbrev d6:f7:=fun _ _ _ _ _ _=>False
noncomputable abbrev E0:XK:=fun _ _ _=>False
theorem Al {X:Cx}:pK d6 X E0:=fun _ _ _ _ _ _ _ h=>h.elim
structure Fun (K:Qf)(x qual:Str)(st:Stmt)(f:Addr)(fd:Th):Prop where
 ex:∃ (oc:Qg)(od:Option Addr)(kV doc pm:Qg)(an:Option Addr)(cdv ct:Qg)(osl:Array (Option Qg)),
  fd=Td x qual (iJ st) (eI st) (bY st) .none kV doc pm an cdv ct/\K.lookup f=some ⟨oc,od,.func fd,osl⟩/\Vx K cdv qual=true
 kp:SA K (.ref f)=true
section
variable {P:QR}{w:Rg}{K:Qf}{mg:Str->Option Qg}{base:RG}
theorem Fun.ok {x qual:Str}{st:Stmt}{f:Addr}{fd:Th}{N ps:List Str}{k:Nat}{sp:Sp}(F:Fun K x qual st f fd)(S:FnScope N ps (bY st))(len:∀ vs H Q E,sp vs H Q E->vs.length=ps.length)
  (hbody:∀ (cdv:Qg)(A:Q0)(outer:List Wg)(s:Qj)(H:Hp)(vs:List V)(Q:VK)(E:XK),Room k (A.deeper (envOfC qual (bY st) s.heap.objs.size f cdv))->sp vs H Q E->
   ∃ t,PSs (iG d6 P w K mg base N qual (bY st) f cdv A outer s H E).nox (eI st) t/\t { nx:=fun _ H'=>Q .non H',rt:=Q } (start N vs) H):FnOk P w K mg base d6 (k+1) f fd ps sp:=by
 obtain ⟨oc,od,kV,doc,pm,an,cdv,ct,osl,rfl,lk,hcd⟩:=F.ex
 refine GA lk hcd S len fun A outer s H vs Q E hr hsp=>?_
 obtain ⟨t,h,q⟩:=hbody cdv A outer s H vs Q E hr hsp
 exact ⟨t,h.nox,q⟩
theorem Fun.binds {x qual:Str}{st:Stmt}{f:Addr}{fd:Th}{ps:List Str}(F:Fun K x qual st f fd)
  (h:∀ (kV doc pm:Qg)(an:Option Addr)(cdv ct:Qg)(us:List Qg),us.length=ps.length->XC (Td x qual (iJ st) (eI st) (bY st) .none kV doc pm an cdv ct) ⟨us,[]⟩=pure (ps.zip us)):Binds K fd ps []:=by
 obtain ⟨oc,od,kV,doc,pm,an,cdv,ct,osl,rfl,lk,hcd⟩:=F.ex
 exact .all (h kV doc pm an cdv ct)
theorem Hl {x qual:Str}{st:Stmt}{f:Addr}{oc:Qg}{od an:Option Addr}{osl:Array (Option Qg)}{kV doc pm cdv ct:Qg}(l:K.lookup f=some ⟨oc,od,.func (Td x qual (iJ st) (eI st) (bY st) .none kV doc pm an cdv ct),osl⟩)
  (c:Vx K cdv qual=true)(k:SA K (.ref f)=true):Fun K x qual st f (Td x qual (iJ st) (eI st) (bY st) .none kV doc pm an cdv ct):=⟨⟨oc,od,kV,doc,pm,an,cdv,ct,osl,rfl,l,c⟩,k⟩
end
theorem Am {A:Q0}{k:Nat}(hr:Room k A):A.units+1<Sf:=Nat.lt_of_le_of_lt (Nat.add_le_add_left (by decide:1<=64) _) hr.units
section
variable {X:Cx}
theorem call_lenD:CallR X (.builtin "len") (fun xs H Q=>∃ a kvs,xs=[V.ref a]/\H a=some (.dK kvs)/\Q (.int kvs.length) H):=by
 intro a0V s σ H xs us Q I r h
 obtain ⟨a,kvs,rfl,ha,q⟩:=h
 obtain ⟨u,rfl,ru⟩:=fP r
 cases ru
 exact GH I (.inl ha) fun t s' I'=>⟨.int kvs.length,H,I',⟨t,rfl⟩,q⟩
end
theorem kB {A B:Prop}(h:B):if false=true then A else B:=by
 rw [if_neg RB]
 exact h
theorem kC {A B:Prop}(h:A):if true=true then A else B:=by
 rw [if_pos rfl]
 exact h
noncomputable def Same (H H':Hp):Prop:=∀ b o,H b=some o->H' b=some o
theorem Same.trans {H H1 H2:Hp}(a:Same H H1)(b:Same H1 H2):Same H H2:=fun c o h=>b c o (a c o h)
theorem Same.free {H H':Hp}(e:Same H H'){l:Addr}(h:H' l=ZC):H l=ZC:=by
 cases q:H l with
 | none=>rfl
 | some o=>
  rw [e l o q] at h
  cases h
theorem Same.seq {K:Qf}{H H':Hp}{a:Addr}{xs:List V}(e:Same H H')(h:SqL K H a xs):SqL K H' a xs:=by
 rcases h with (h|⟨o,h⟩)|h
 ·exact .inl (.inl (e _ _ h))
 ·exact .inl (.inr ⟨o,e _ _ h⟩)
 ·exact .inr h
section
variable {κ:Type} [DecidableEq κ]
end
end L2
namespace Lw
open PySem L2
noncomputable def aQ (i:Nat):Stmt:=R8.main.body.getD i (.Pass ⟨0,0,0,0⟩)
noncomputable def Vw:QR:={ R8 with main:={ R8.main with body:=aQ 1::aQ 2::aQ 3::aQ 4::aQ 5::aQ 6::aQ 8::aQ 9::aQ 10::aQ 11::aQ 13::aQ 14::aQ 15::aQ 16::aQ 17::aQ 18::aQ 19::aQ 20::aQ 21::aQ 22::aQ 23::aQ 25::aQ 26::aQ 27::aQ 28::aQ 29::aQ 31::aQ 32::aQ 33::aQ 34::aQ 35::aQ 36::aQ 37::aQ 38::aQ 39::aQ 40::aQ 41::aQ 42::[] } }
noncomputable abbrev vS (x:String)(n:Nat):Qg:=Vm (Vv x) n
noncomputable abbrev vI (i:Int):Qg:=Xh i 0
noncomputable abbrev vR (a:Addr):Qg:=QL a
noncomputable abbrev vN:Qg:=RU
noncomputable abbrev kO (x y:String)(a b c:Nat)(l n i j k:Int)(r:Addr)(q:Int)(vs:Array Qg)(t l2:Int)(e:Nat):SD:={ cls:=TU "code",data:=Z5 (#[vS x a,vS x b,vS y c,vI l,vI n,vI i,vI j,vI k,vR r,Uy true,vI q]++vs++#[vI t,vI l2,vS y e]) }
noncomputable abbrev tO (fs:Array Qg):SD:={ cls:=TU "tuple",data:=Data.seq fs }
noncomputable abbrev fO (x:Str)(n:Nat)(m:Qg)(c:Addr):SD:=⟨TU "function",none,.func (Td x x (iJ (aQ n)) (eI (aQ n)) (bY (aQ n)) RU RU RU m none (QL c) RU),#[]⟩
noncomputable abbrev eO (P:Ug)(x:String)(n:Nat)(v:Qg):Se:={ hash:=PyData.keyHash P (Vv x),key:=Vm (Vv x) n,val:=v }
noncomputable abbrev eR (P:Ug)(x:String)(n:Nat)(a:Addr):Se:=eO P x n (vR a)
noncomputable abbrev kA (p:Addr×SD)(R:Qf):Qf:=p::R
noncomputable abbrev vM (n:Nat):Qg:=[vS "creasecourt.places" 305,vS "creasecourt.sheets" 335,vS "creasecourt.drawings" 420,vS "law_creasecourt_k24_drawn_and_read" 462].getD n vN
noncomputable abbrev kF (x:String)(r a:Nat)(l n:Int)(t i:Nat)(m:Qg)(R:Qf):Qf:=(r+5,kO x "/claim/cut.py" a (a+1) (a+2) l n 0 0 3 r 181 #[vR (r+1),vN,vR (r+2),vR (r+3),vR (r+4)] t l (t+1))::(r+6,fO x i m (r+5))::R
noncomputable abbrev kG (x:String)(r a:Nat)(l n:Int)(t i:Nat)(m:Qg)(R:Qf):Qf:=(r+3,kO x "/claim/cut.py" a (a+1) (a+2) l n 0 0 3 r 181 #[vR (r+1),vN,vN,vN,vR (r+2)] t l (t+1))::(r+4,fO x i m (r+3))::R
noncomputable def Kx:Ug → Qf:=fun P=>kA (3,{ cls:=TU "dict",data:=a0U #[eO P "__name__" 165 (vS "law_creasecourt_k24_drawn_and_read" 462),eO P "__doc__" 166 vN,eO P "__package__" 167 vN,eO P "__loader__" 168 (Zk "__main__.__loader__#opaque"),eO P "__spec__" 169 vN,eR P "__annotations__" 170 6,eR P "__builtins__" 171 4,eO P "__file__" 173 (vS "/claim/cut.py" 172),eO P "__cached__" 174 vN,eR P "CreaseError" 206 24,eR P "NoSize" 222 37,eR P "NoMark" 238 49,eR P "NoText" 254 61,eR P "NoEdge" 279 80,eR P "Twice" 304 99,eR P "is_whole" 313 108,eR P "is_place" 320 115,eR P "is_edge" 327 122,eR P "line_of" 334 129,eR P "MARKS" 340 130,eR P "is_size" 347 137,eR P "check_size" 355 144,eR P "is_mark" 362 151,eR P "is_within" 371 158,eR P "places_within" 377 163,eR P "edges_in" 383 168,eR P "is_inner_edge" 392 175,eR P "sheet_of" 404 182,eR P "marks_in" 411 189,eR P "mark_at" 419 196,eR P "sign_at" 430 203,eR P "drawn" 436 208,eR P "sign_in" 444 215,eR P "creases_in" 450 220,eR P "read_sheet" 461 227,eR P "_law_draw" 471 234,eR P "_law_kind" 478 241,eR P "_law_int" 485 248,eR P "_law_are" 494 255,eR P "_law_amid" 500 260,eR P "_law_size" 507 267,eR P "_law_line" 515 274,eR P "_law_creases" 521 279,eR P "_law_is_sheet" 527 284,eR P "_law_sign" 538 291,eR P "_law_drawing" 544 296,eR P "law" 550 301] 47 }) <|
 kF "is_whole" 102 307 21 1 311 8 (vM 0) <|
 kF "is_place" 109 314 23 1 318 9 (vM 0) <|
 kF "is_edge" 116 321 25 1 325 10 (vM 0) <|
 kF "line_of" 123 328 29 1 332 11 (vM 0) <|
 kA (130,tO #[vS "h" 337,vS "v" 338,vS "o" 339]) <|
 kF "is_size" 131 341 35 1 345 14 (vM 1) <|
 kF "check_size" 138 348 37 2 353 15 (vM 1) <|
 kF "is_mark" 145 356 40 1 360 16 (vM 1) <|
 kF "is_within" 152 363 42 3 369 17 (vM 1) <|
 kG "places_within" 159 372 44 2 375 18 (vM 1) <|
 kG "edges_in" 164 378 49 2 381 19 (vM 1) <|
 kF "is_inner_edge" 169 384 51 3 390 20 (vM 1) <|
 kF "sheet_of" 176 393 53 3 402 21 (vM 1) <|
 kF "marks_in" 183 405 66 1 409 22 (vM 1) <|
 kF "mark_at" 190 412 68 2 417 23 (vM 1) <|
 kF "sign_at" 197 422 71 3 428 25 (vM 2) <|
 kG "drawn" 204 431 79 1 434 26 (vM 2) <|
 kF "sign_in" 209 437 85 2 442 27 (vM 2) <|
 kG "creases_in" 216 445 87 3 448 28 (vM 2) <|
 kF "read_sheet" 221 451 90 1 459 29 (vM 2) <|
 kF "_law_draw" 228 464 103 2 469 31 (vM 3) <|
 kF "_law_kind" 235 472 105 1 476 32 (vM 3) <|
 kF "_law_int" 242 479 107 1 483 33 (vM 3) <|
 kF "_law_are" 249 486 109 2 492 34 (vM 3) <|
 kG "_law_amid" 256 495 116 3 498 35 (vM 3) <|
 kF "_law_size" 261 501 121 1 505 36 (vM 3) <|
 kF "_law_line" 268 508 123 1 513 37 (vM 3) <|
 kG "_law_creases" 275 516 126 3 519 38 (vM 3) <|
 kG "_law_is_sheet" 280 522 140 2 525 39 (vM 3) <|
 kF "_law_sign" 285 528 149 4 536 40 (vM 3) <|
 kG "_law_drawing" 292 539 158 3 542 41 (vM 3) <|
 kG "law" 297 545 163 1 548 42 (vM 3) <| []
noncomputable def As:List Addr:=[3,107,108,114,115,121,122,128,129,130,136,137,143,144,150,151,157,158,162,163,167,168,174,175,181,182,188,189,195,196,202,203,207,208,214,215,219,220,226,227,233,234,240,241,247,248,254,255,259,260,266,267,273,274,278,279,283,284,290,291,295,296,300,301]
theorem nQ:∀ P,As=(Kx P).map (·.1):=fun _=>by kernel_rfl
open PySem.W PyProof.Rows in
theorem run:LeftO (Xn R6).prog Vw [] (fun s=>xlAt Vw [] s&&recOk (ZQ (YM (Xn R6))) s) (Hook.obs (a0O Kx As nQ)) (Hook.val (a0O Kx As nQ)) 4668:=fun w=>by kernel_rfl
end Lw
set_option maxHeartbeats 4000000
namespace L3
open PySem
open PySem.SetTable (Probe Met Slot bits runEnd leap turns insertAt sizeAbove)
namespace Tb
noncomputable def kD (m:Nat)(p:Probe):Probe:=
 if p.more>0 then { p with j:=p.j+1,more:=p.more - 1 } else
 { p with j:=(leap m p.i p.perturb).1,more:=runEnd m (leap m p.i p.perturb).1 - (leap m p.i p.perturb).1,i:=(leap m p.i p.perturb).1,perturb:=(leap m p.i p.perturb).2 }
noncomputable def Hn (m:Nat)(b:Nat):Probe:={ j:=b % (m+1),more:=runEnd m (b % (m+1)) - b % (m+1),i:=b % (m+1),perturb:=b,dummy:=none }
noncomputable def bU (m b:Nat):Nat->Probe
 | 0=>Hn m b
 | k+1=>kD m (bU m b k)
noncomputable def lp (m b:Nat):Nat->Nat×Nat
 | 0=>(b % (m+1),b)
 | n+1=>leap m (lp m b n).1 (lp m b n).2
noncomputable def hd (m i q:Nat):Probe:={ j:=i,more:=runEnd m i - i,i:=i,perturb:=q,dummy:=none }
theorem nR {m b k i q:Nat}(h:bU m b k=hd m i q):∀ r,r<=runEnd m i - i->bU m b (k+r) = { j:=i+r,more:=runEnd m i - i - r,i:=i,perturb:=q,dummy:=none }
 | 0,_=>by rw [Vz,h];rfl
 | r+1,hr=>by
  have e:=nR h r (by omega)
  show kD m (bU m b (k+r))=_
  rw [e]
  unfold kD
  rw [if_pos (show runEnd m i - i - r>0 by omega)]
  show Probe.mk (i+r+1) (runEnd m i - i - r - 1) i q none=_
  rw [Xo,Nat.sub_sub]
theorem Ho {m b k i q:Nat}(h:bU m b k=hd m i q):bU m b (k+(runEnd m i - i)+1)=hd m (leap m i q).1 (leap m i q).2:=by
 have e:=nR h (runEnd m i - i) (Qq _)
 show kD m (bU m b (k+(runEnd m i - i)))=_
 rw [e]
 unfold kD
 rw [if_neg (show ¬ (runEnd m i - i - (runEnd m i - i)>0) by omega)]
 rfl
noncomputable def nx (m i:Nat):Nat:=(i * 5+1) % (m+1)
noncomputable def An (m:Nat):Nat->Nat->Nat
 | 0,i=>i
 | n+1,i=>An m n (nx m i)
noncomputable def lH (m:Nat):Nat->Nat->Nat->Nat
 | 0,_,acc=>acc
 | f+1,i,acc=>lH m f (nx m i) (acc ||| (1 <<< i))
noncomputable def Ao (m:Nat):Bool:=lH m (m+1) 0 0 == 2 ^ (m+1) - 1&&An m (m+1) 0 == 0
theorem Hq (m b:Nat):∀ n,(lp m b n).1<=m
 | 0=>YX (a0Q _ (XF _))
 | n+1=>YX (a0Q _ (XF _))
noncomputable def tU (m:Nat)(S:List Nat)(b j:Nat):Prop:=∃ k,(bU m b k).j=j/\∀ k',k'<k->(bU m b k').j∈S
theorem tV {xs:Array Nat}{j:Nat}(hr:∀ a b,a<b->b<xs.size->xs.getD a 0<xs.getD b 0):∀ (f lo hi:Nat),hi - lo<=f->lo<=hi->hi<=xs.size->(∀ i,i<lo->xs.getD i 0<j)->(∀ i,hi<=i->i<xs.size->j<=xs.getD i 0)->
  UL xs j f lo hi<=xs.size/\(∀ i,i<UL xs j f lo hi->xs.getD i 0<j)/\∀ i,UL xs j f lo hi<=i->i<xs.size->j<=xs.getD i 0
 | 0,lo,hi,hf,h1,h2,a,b=>by
  have e:lo=hi:=by omega
  show lo<=xs.size/\(∀ i,i<lo->_)/\∀ i,lo<=i->_
  exact ⟨by omega,a,by rw [e];exact b⟩
 | f+1,lo,hi,hf,h1,h2,a,b=>by
  unfold UL
  by_cases q:lo<hi
  ·rw [if_pos q]
   dsimp only
   have hm:(lo+hi) / 2<xs.size:=by omega
   have e:xs.getD ((lo+hi) / 2) j=xs.getD ((lo+hi) / 2) 0:=by simp [Tp,hm]
   rw [e]
   by_cases c:xs.getD ((lo+hi) / 2) 0<j
   ·rw [if_pos c]
    refine tV hr f _ _ (by omega) (by omega) h2 (fun i hi'=>?_) b
    rcases T3 i ((lo+hi) / 2) with z|z
    ·exact Ut (hr _ _ z hm) c
    ·have:i=(lo+hi) / 2:=by omega
     rw [this];exact c
   ·rw [if_neg c]
    refine tV hr f _ _ (by omega) (by omega) (by omega) a fun i hi' hs=>?_
    rcases T3 ((lo+hi) / 2) i with z|z
    ·have:=hr _ _ z hs;omega
    ·have:i=(lo+hi) / 2:=by omega
     rw [this];omega
  ·rw [if_neg q]
   exact ⟨by omega,a,fun i h hs=>b i (by omega) hs⟩
theorem Ap {xs:Array Nat}(h:xs.toList.Pairwise (·<·)):∀ a b,a<b->b<xs.size->xs.getD a 0<xs.getD b 0:=fun a b hab hb=>by
 have:=Q5.mp h a b (by simpa using Ut hab hb) (by simpa using hb) hab
 simpa [Tp,hb,Ut hab hb] using this
theorem Hr {xs:Array Nat}(h:xs.toList.Pairwise (·<·))(j:Nat):US xs j<=xs.size/\(∀ i,i<US xs j->xs.getD i 0<j)/\∀ i,US xs j<=i->i<xs.size->j<=xs.getD i 0:=
 tV (Ap h) _ _ _ (by omega) (by omega) (Qq _) (fun i z=>absurd z (VC _)) fun i z z2=>by omega
noncomputable abbrev lI:=Nat×Int×Qg
structure Ok (t:VH)(R:List lI):Prop where
 place:t.place.toList=R.map (·.1)
 dum:t.dummies = #[]
 rise:(R.map (·.1)).Pairwise (·<·)
 le:∀ r∈R,r.1<=t.mask
 cov:Ao t.mask=true
 odd:t.mask % 2=1
 room:R.length<=t.mask
 road:∀ r∈R,tU t.mask (R.map (·.1)) (bits r.2.1) r.1
section
variable {t:VH}{R:List lI}
theorem Ok.size (o:Ok t R):t.place.size=R.length:=by
 have:=congrArg Si o.place
 simpa using this
theorem Ok.uniq (o:Ok t R){r r':lI}(h:r∈R)(h':r'∈R)(e:r.1=r'.1):r=r':=by
 have p:=RR.mp o.rise
 obtain ⟨i,hi,e1⟩:=S2 h
 obtain ⟨k,hk,e2⟩:=S2 h'
 rcases TQ i k with z|z|z
 ·have:=Q5.mp p i k hi hk z
  rw [e1,e2] at this;omega
 ·subst z;rw [<- e1,<- e2]
 ·have:=Q5.mp p k i hk hi z
  rw [e1,e2] at this;omega
theorem Ok.getD (o:Ok t R){i:Nat}(hi:i<R.length):t.place.getD i 0=(R[i]).1:=by
 have h:t.place.toList[i]? = (R.map (·.1))[i]?:=by rw [o.place]
 have hs:i<t.place.size:=by rw [o.size];exact hi
 simp [hi,hs] at h
 simp [Tp,hs,h]
theorem Ok.sorted (o:Ok t R):t.place.toList.Pairwise (·<·):=by rw [o.place];exact o.rise
theorem Hs (j:Nat):YU #[] j=false:=by
 unfold YU
 simp
theorem Ok.live (o:Ok t R){j:Nat}(h:j∈R.map (·.1)):∃ i r,t.slot j=.live i/\R[i]? = some r/\r.1=j:=by
 obtain ⟨r,hr,e⟩:=Q4.mp h
 obtain ⟨i,hi,ei⟩:=S2 hr
 have b:=Hr o.sorted j
 have hp:t.place.getD i 0=j:=by rw [o.getD hi,ei];exact e
 have hs:i<t.place.size:=by rw [o.size];exact hi
 have e2:US t.place j=i:=by
  rcases TQ (US t.place j) i with z|z|z
  ·have h1:=b.2.2 _ (Qq _) (by omega)
   have h2:=Ap o.sorted _ _ z hs
   omega
  ·exact z
  ·have:=b.2.1 i z;omega
 refine ⟨i,r,?_,by rw [<- ei];exact Ql hi,e⟩
 unfold YC
 dsimp only
 rw [e2,if_pos]
 have:t.place[i]? = some j:=by
  rw [W8 hs]
  simpa [Tp,hs] using hp
 rw [this]
 exact beq_self_eq_true _
theorem Ok.empty (o:Ok t R){j:Nat}(h:j∉R.map (·.1)):t.slot j=.empty:=by
 unfold YC
 dsimp only
 rw [if_neg,o.dum,Hs]
 ·rfl
 ·intro q
  rw [beq_iff_eq] at q
  apply h
  rw [<- o.place]
  exact Array.mem_toList_iff.mpr (Array.mem_of_getElem? q)
theorem Aq (m b:Nat):∀ k,(bU m b k).dummy=none
 | 0=>rfl
 | k+1=>by
  show (kD m (bU m b k)).dummy=none
  unfold kD
  split<;>exact Aq m b k
theorem Ok.go (o:Ok t R)(Xa:Nat->Int)(hh:∀ i r,R[i]? = some r->Xa i=r.2.1){h:Int}{K:Nat}(hK:(bU t.mask (bits h) K).j∉R.map (·.1))(hT:∀ k',k'<K->(bU t.mask (bits h) k').j∈R.map (·.1)) :
  ∀ (f k:Nat),k<=K->K<k+f->
   (UK t Xa h f (bU t.mask (bits h) k)=some (.empty (bU t.mask (bits h) K).j none)/\∀ k' r,k<=k'->k'<K->r∈R->r.1=(bU t.mask (bits h) k').j->r.2.1≠h) \/
   ∃ k' i r,k<=k'/\k'<K/\R[i]? = some r/\r.1=(bU t.mask (bits h) k').j/\r.2.1=h/\UK t Xa h f (bU t.mask (bits h) k)=some (.candidate (bU t.mask (bits h) k').j i (bU t.mask (bits h) (k'+1))) /\
    ∀ k'' r',k<=k''->k''<k'->r'∈R->r'.1=(bU t.mask (bits h) k'').j->r'.2.1≠h
 | 0,k,h1,h2=>by omega
 | f+1,k,h1,h2=>by
  rcases T3 k K with z|z
  ·obtain ⟨i,r,e,er,ej⟩:=o.live (hT k z)
   have eg:UK t Xa h (f+1) (bU t.mask (bits h) k)=if Xa i == h then some (.candidate (bU t.mask (bits h) k).j i (bU t.mask (bits h) (k+1))) else UK t Xa h f (bU t.mask (bits h) (k+1)):=by
    show (match t.slot (bU t.mask (bits h) k).j with|.empty=>_|.dummy=>_|.live i=>_)=_
    rw [e]
    rfl
   rw [eg,hh i r er]
   have hrm:r∈R:=Q2 er
   by_cases q:r.2.1=h
   ·refine .inr ⟨k,i,r,Qq _,z,er,ej,q,?_,fun k'' r' a b=>by omega⟩
    rw [q,if_pos (beq_self_eq_true _)]
   ·rw [if_neg (by simpa using q)]
    have here:∀ r',r'∈R->r'.1=(bU t.mask (bits h) k).j->r'.2.1≠h:=fun r' hr' e'=>by
     rw [o.uniq hr' hrm (e'.trans ej.symm)];exact q
    rcases Ok.go o Xa hh hK hT f (k+1) z (by omega) with ⟨a,b⟩|⟨k',i',r',a1,a2,a3,a4,a5,a6,a7⟩
    ·refine .inl ⟨a,fun k' r' c1 c2 hr' e'=>?_⟩
     rcases T3 k k' with y|y
     ·exact b k' r' y c2 hr' e'
     ·have:k'=k:=by omega
      subst this;exact here r' hr' e'
    ·refine .inr ⟨k',i',r',by omega,a2,a3,a4,a5,a6,fun k'' r'' c1 c2 hr' e'=>?_⟩
     rcases T3 k k'' with y|y
     ·exact a7 k'' r'' y c2 hr' e'
     ·have:k''=k:=by omega
      subst this;exact here r'' hr' e'
  ·have:k=K:=by omega
   subst this
   refine .inl ⟨?_,fun k' r a b=>by omega⟩
   show (match t.slot (bU t.mask (bits h) k).j with|.empty=>_|.dummy=>_|.live i=>_)=_
   rw [o.empty hK]
   show some (Met.empty _ (bU t.mask (bits h) k).dummy)=_
   rw [Aq]
end
noncomputable def lv (m:Nat)(ow:Array (Option Nat)):List (Nat×Nat):=(RA (m+1)).filterMap fun j=>(ow.getD j none).map (j,·)
theorem mem_lv {m:Nat}{ow:Array (Option Nat)}{j i:Nat}:(j,i)∈lv m ow↔j<=m/\ow.getD j none=some i:=by
 unfold lv
 rw [V5]
 constructor
 ·rintro ⟨a,ha,e⟩
  rw [Qk] at e
  obtain ⟨b,e1,e2⟩:=e
  cases e2
  exact ⟨by simpa [Zl] using ha,e1⟩
 ·rintro ⟨h1,h2⟩
  exact ⟨j,by simpa [Zl] using h1,by rw [h2];rfl⟩
structure Ow (m:Nat)(ds:List Int)(ow:Array (Option Nat)):Prop where
 size:ow.size=m+1
 lt:∀ j i,ow.getD j none=some i->i<ds.length
 all:∀ i,i<ds.length->∃ j,ow.getD j none=some i
 inj:∀ j j' i,ow.getD j none=some i->ow.getD j' none=some i->j=j'
 road:∀ j i,ow.getD j none=some i->tU m ((lv m ow).map (·.1)) (bits (ds.getD i 0)) j
section
variable {m:Nat}{ds:List Int}{ow:Array (Option Nat)}
theorem Ow.le (o:Ow m ds ow){j i:Nat}(h:ow.getD j none=some i):j<=m:=by
 rcases T3 j ow.size with z|z
 ·rw [o.size] at z;omega
 ·simp [Tp,TB.mpr z] at h
theorem Ow.taken (o:Ow m ds ow){j:Nat}(hj:j<=m):j∈(lv m ow).map (·.1)↔(ow.getD j (some 0)).isNone=false:=by
 have hs:j<ow.size:=by rw [o.size];omega
 have e:ow.getD j (some 0)=ow.getD j none:=by simp [Tp,hs]
 rw [e]
 constructor
 ·intro q
  obtain ⟨⟨a,i⟩,q2,rfl⟩:=Q4.mp q
  rw [(mem_lv.mp q2).2];rfl
 ·intro q
  cases z:ow.getD j none with
  | none=>rw [z] at q;cases q
  | some i=>exact Q4.mpr ⟨(j,i),mem_lv.mpr ⟨hj,z⟩,rfl⟩
theorem Ow.free (o:Ow m ds ow){b:Nat}:∀ (f n k0:Nat),bU m b k0=hd m (lp m b n).1 (lp m b n).2->(∀ k',k'<k0->(bU m b k').j∈(lv m ow).map (·.1))->(∃ N,n<=N/\N<n+f/\(lp m b N).1∉(lv m ow).map (·.1))->
  ∃ j,VZ m ow f (lp m b n).1 (lp m b n).2=some j/\j<=m/\j∉(lv m ow).map (·.1)/\tU m ((lv m ow).map (·.1)) b j
 | 0,n,k0,_,_,⟨N,h1,h2,_⟩=>by omega
 | f+1,n,k0,hk,ht,⟨N,h1,h2,hN⟩=>by
  have hi:=Hq m b n
  have hre:runEnd m (lp m b n).1<=m:=by unfold runEnd;split<;>omega
  have hri:(lp m b n).1<=runEnd m (lp m b n).1:=by unfold runEnd;split<;>omega
  unfold VZ
  cases z:(RA (runEnd m (lp m b n).1+1 - (lp m b n).1)).find? fun k=>(ow.getD ((lp m b n).1+k) (some 0)).isNone with
  | some r=>
   rw [List.find?_range_eq_some] at z
   obtain ⟨z1,z2,z3⟩:=z
   rw [Su] at z2
   refine ⟨(lp m b n).1+r,rfl,by omega,fun q=>?_,k0+r,by rw [nR hk r (by omega)],fun k' hk'=>?_⟩
   ·rw [o.taken (by omega)] at q
    rw [q] at z1;cases z1
   ·rcases T3 k' k0 with y|y
    ·exact ht k' y
    ·obtain ⟨d,rfl⟩:=Xr y
     rw [nR hk d (by omega)]
     show (lp m b n).1+d∈_
     rw [o.taken (by omega)]
     have:=z3 d (by omega)
     simpa using this
  | none=>
   rw [List.find?_range_eq_none] at z
   have tk:∀ r,r<runEnd m (lp m b n).1+1 - (lp m b n).1->(lp m b n).1+r∈(lv m ow).map (·.1):=fun r hr=>by
    rw [o.taken (by omega)]
    have:=z r hr
    simpa using this
   have ne:N≠n:=fun e=>hN (by rw [e];exact tk 0 (by omega))
   refine Ow.free o f (n+1) _ (Ho hk) (fun k' hk'=>?_) ⟨N,by omega,by omega,hN⟩
   rcases T3 k' k0 with y|y
   ·exact ht k' y
   ·obtain ⟨d,rfl⟩:=Xr y
    rw [nR hk d (by omega)]
    exact tk d (by omega)
end
theorem Ow.nil (m:Nat):Ow m [] (WD (m+1) none):=by
 have e:∀ j,(WD (m+1) (none:Option Nat)).getD j none=none:=fun j=>by
  simp [Tp]
 have no:∀ {P:Prop}(j i:Nat),(WD (m+1) (none:Option Nat)).getD j none=some i->P:=fun j i h=>by
  rw [e] at h;exact nomatch h
 exact ⟨by simp,fun j i h=>no j i h,fun i h=>absurd h (VC _),fun j j' i h _=>no j i h,fun j i h=>no j i h⟩
end Tb
end L3
namespace L3
open PySem
open PySem.SetTable (Probe Met Slot bits runEnd leap turns insertAt sizeAbove)
namespace Tb
section
variable {prog:QR}{w:Rg}{K:Type} [DecidableEq K] {knd:KeyKind prog w K}{A:Q0}{E:Qg->Qj->Prop}{s:Qj}
theorem fits_of {t:VH}{R:List lI}{es:Array (Int×Qg)}(o:Ok t R)(he:es.toList=R.map (·.2)):t.fits es.size=true:=by
 have h1:es.size=R.length:=by simpa using congrArg Si he
 have h2:=o.room
 unfold SetTable.fits SetTable.fill
 rw [o.size,h1,o.dum]
 simp;exact h2
end
section
variable {prog:QR}{w:Rg}{A:Q0}{E:Qg->Qj->Prop}{s:Qj}
noncomputable abbrev El:=List Int×Addr
noncomputable def hashT (k:List Int):Int:=reduceHash (Z6 (k.map hashInt))
noncomputable def Ht (p:El):Int×Qg:=(hashT p.1,QL p.2)
noncomputable def Msk (m:Nat):Prop:=m=7\/m=31\/m=127\/m=511
theorem Msk.cov {m:Nat}(h:Msk m):Ao m=true:=by
 rcases h with rfl|rfl|rfl|rfl<;>decide +kernel
theorem Msk.odd {m:Nat}(h:Msk m):m % 2=1:=by
 rcases h with rfl|rfl|rfl|rfl<;>rfl
noncomputable def tW (w:Rg):Bool:=w.params.followText "set-order"
noncomputable def Ar (led:Bool)(L:List El)(o:SD):Prop:=∃ es ep t R,o.ExactSet/\o.data=.set es ep t/\es.toList=R.map (·.2)/\Ok t R/\es.toList.Perm (L.map Ht)/\(L.map (·.1)).Nodup/\Msk t.mask/\L.length * 5<t.mask * 3/\t.plain=true/\t.led=led
noncomputable def SObj (L:List El)(o:SD):Prop:=∃ led,Ar led L o
noncomputable def yZ (prog:QR)(w:Rg)(h:RG)(a:Addr)(L:List El):Prop:=∃ o,h.get? a=some o/\Ar (!tW w) L o/\∀ p∈L,IsTupleKey (UG prog w) h p.1 p.2
end
end Tb
end L3
namespace L3
open PySem
namespace Tb
noncomputable def Hu (w:Rg)(t:VH):Nat->Nat
 | 0=>0
 | i+1=>if tW w then 0 else t.place.getD i 0+1
section
variable {prog:QR}{w:Rg}{A:Q0}{E:Qg->Qj->Prop}{s:Qj}
noncomputable def SIt (w:Rg)(h:RG)(I a:Addr)(t:VH)(i n ep:Nat):Prop:=∃ o,h.get? I=some o/\o.cls=.type "set_iterator"/\o.data=.fields #[Uq (Hu w t i),Uq i,.ref a,Uq n,Uq ep]
theorem SIt.ty {I a:Addr}{t:VH}{i n ep:Nat}(x:SIt w s.heap I a t i n ep):s.TypeIs (.ref I) "set_iterator":=let ⟨o,ho,hc,_⟩:=x;⟨o,ho,hc⟩
structure SAt (w:Rg)(h:RG)(a:Addr)(es:Array (Int×Qg))(ep:Nat)(t:VH)(R:List lI):Prop where
 at_:∃ o,h.get? a=some o/\o.cls=.type "set"/\o.data=.set es ep t
 he:es.toList=R.map (·.2)
 ok:Ok t R
 pl:t.plain=true
 led:t.led = !tW w
theorem SAt.ty {a:Addr}{es:Array (Int×Qg)}{ep:Nat}{t:VH}{R:List lI}(x:SAt w s.heap a es ep t R):s.TypeIs (.ref a) "set":=let ⟨o,ho,hc,_⟩:=x.at_;⟨o,ho,hc⟩
end
end Tb
end L3
namespace L3
open PySem L2
inductive D where
 | non|bl (b:Bool)|int (i:Int)|str (x:Str)|tup (xs:List D)|rol (xs:List D)|loc (a:Nat)|ty (n:String)
 deriving Inhabited
inductive C where
 | lst (xs:List D)
 | dK (kvs:List (aF×D))
 | st (ks:List (List Int))
 | dT (kvs:List (List Int×D))
 | dF (kvs:List (List Int×D))
 deriving Inhabited
noncomputable abbrev Hm:=List C
noncomputable abbrev aK:=List (Option D)
noncomputable abbrev ME:=aK->Hm->Option (D×Hm)
noncomputable abbrev MT:=aK->Hm->Option (Bool×Hm)
noncomputable abbrev MA:=aK->Hm->Option (List D×Hm)
inductive Fl where
 | nx|rt (d:D)|bk|ct
noncomputable abbrev MS:=aK->Hm->Option (Fl×aK×Hm)
noncomputable abbrev MF:=List D->Hm->Option (D×Hm)
noncomputable def RoL (K:Qf)(H:Hp)(p:Addr)(xs:List V):Prop:=
 (∃ o,H p=some (.frz o (.lst xs))) \/
  ∃ (o:SD)(its:Array Qg)(n:Nat),K.lookup p=some o/\o.cls=.type "list"/\o.dict=none/\o.data=.seq its n/\its.size<=Qs/\Vals xs its.toList
theorem RoL.sq {K:Qf}{H:Hp}{p:Addr}{xs:List V}(h:RoL K H p xs):SqL K H p xs:=by
 rcases h with ⟨o,h⟩|h
 ·exact .inl (.inr ⟨o,h⟩)
 ·exact .inr h
mutual
inductive IsD (K:Qf)(π:Nat->Addr)(n:Nat)(H:Hp):V->D->Prop where
 | non:IsD K π n H .non .non
 | bl (b:Bool):IsD K π n H (.bl b) (.bl b)
 | int (i:Int):IsD K π n H (.int i) (.int i)
 | str (x:Str):IsD K π n H (.str x) (.str x)
 | tup {p:Addr}{vs:List V}{ds:List D}(h:SqT K H p vs)(t:IsDs K π n H vs ds):IsD K π n H (.ref p) (.tup ds)
 | rol {p:Addr}{vs:List V}{ds:List D}(h:RoL K H p vs)(t:IsDs K π n H vs ds):IsD K π n H (.ref p) (.rol ds)
 | loc {a:Nat}(h:a<n):IsD K π n H (.ref (π a)) (.loc a)
 | ty (x:String):IsD K π n H (.ty x) (.ty x)
inductive IsDs (K:Qf)(π:Nat->Addr)(n:Nat)(H:Hp):List V->List D->Prop where
 | nil:IsDs K π n H [] []
 | cons {v:V}{d:D}{vs:List V}{ds:List D}(h:IsD K π n H v d)(t:IsDs K π n H vs ds):IsDs K π n H (v::vs) (d::ds)
end
structure Ext (π:Nat->Addr)(n:Nat)(H:Hp)(π':Nat->Addr)(n':Nat)(H':Hp):Prop where
 le:n<=n'
 pi:∀ a,a<n->π' a=π a
 tup:∀ p vs,H p=some (.tup vs)->H' p=some (.tup vs)
 frz:∀ p o u,H p=some (.frz o u)->H' p=some (.frz o u)
structure Ext0 (π:Nat->Addr)(n:Nat)(H:Hp)(π':Nat->Addr)(n':Nat)(H':Hp):Prop where
 le:n<=n'
 pi:∀ a,a<n->π' a=π a
 tup:∀ p vs,H p=some (.tup vs)->H' p=some (.tup vs)
 frz:∀ p o u,(∀ φ,u≠HO.ext φ)->H p=some (.frz o u)->H' p=some (.frz o u)
section
variable {K:Qf}{π π' π2:Nat->Addr}{n n' n2:Nat}{H H' H2:Hp}
theorem Ext.weak (e:Ext π n H π' n' H'):Ext0 π n H π' n' H':=⟨e.le,e.pi,e.tup,fun p o u _ h=>e.frz p o u h⟩
theorem Ext.refl:Ext π n H π n H:=⟨Qq _,fun _ _=>rfl,fun _ _ h=>h,fun _ _ _ h=>h⟩
theorem Ext.trans (a:Ext π n H π' n' H')(b:Ext π' n' H' π2 n2 H2):Ext π n H π2 n2 H2:=
 ⟨Sb a.le b.le,fun i h=>(b.pi i (Rc h a.le)).trans (a.pi i h),fun p vs h=>b.tup p vs (a.tup p vs h),fun p o u h=>b.frz p o u (a.frz p o u h)⟩
theorem Ext0.sqT (e:Ext0 π n H π' n' H'){p:Addr}{vs:List V}(h:SqT K H p vs):SqT K H' p vs:=by
 rcases h with h|h
 ·rcases h with h|⟨o,h⟩
  ·exact .inl (.inl (e.tup _ _ h))
  ·exact .inl (.inr ⟨o,e.frz _ _ _ (fun _ z=>nomatch z) h⟩)
 ·exact .inr h
theorem Ext.sqT (e:Ext π n H π' n' H'){p:Addr}{vs:List V}(h:SqT K H p vs):SqT K H' p vs:=e.weak.sqT h
theorem Ext0.roL (e:Ext0 π n H π' n' H'){p:Addr}{vs:List V}(h:RoL K H p vs):RoL K H' p vs:=by
 rcases h with ⟨o,h⟩|h
 ·exact .inl ⟨o,e.frz _ _ _ (fun _ z=>nomatch z) h⟩
 ·exact .inr h
theorem Ext.roL (e:Ext π n H π' n' H'){p:Addr}{vs:List V}(h:RoL K H p vs):RoL K H' p vs:=e.weak.roL h
mutual
theorem IsD.mono0 {v:V}{d:D}(e:Ext0 π n H π' n' H'):IsD K π n H v d->IsD K π' n' H' v d
 | .non=>.non
 | .bl b=>.bl b
 | .int i=>.int i
 | .str x=>.str x
 | .ty x=>.ty x
 | .tup h t=>.tup (e.sqT h) (IsDs.mono0 e t)
 | .rol h t=>.rol (e.roL h) (IsDs.mono0 e t)
 | .loc h=>by
  rw [<- e.pi _ h]
  exact .loc (Rc h e.le)
theorem IsDs.mono0 {vs:List V}{ds:List D}(e:Ext0 π n H π' n' H'):IsDs K π n H vs ds->IsDs K π' n' H' vs ds
 | .nil=>.nil
 | .cons h t=>.cons (IsD.mono0 e h) (IsDs.mono0 e t)
end
theorem IsD.mono {v:V}{d:D}(e:Ext π n H π' n' H')(h:IsD K π n H v d):IsD K π' n' H' v d:=h.mono0 e.weak
theorem IsDs.mono {vs:List V}{ds:List D}(e:Ext π n H π' n' H')(h:IsDs K π n H vs ds):IsDs K π' n' H' vs ds:=h.mono0 e.weak
theorem IsDs.length {vs:List V}{ds:List D}(h:IsDs K π n H vs ds):vs.length=ds.length:=by
 induction ds generalizing vs with
 | nil=>cases h;rfl
 | cons d ds ih=>
  cases h with
  | cons h t=>rw [QU,QU,ih t]
theorem IsDs.get {vs:List V}{ds:List D}(h:IsDs K π n H vs ds){i:Nat}{d:D}(e:ds[i]? = some d):∃ v,vs[i]? = some v/\IsD K π n H v d:=by
 induction ds generalizing vs i with
 | nil=>simp at e
 | cons d' ds ih=>
  cases h with
  | cons h t=>
   cases i with
   | zero=>
    simp at e
    subst e
    exact ⟨_,rfl,h⟩
   | succ i=>
    obtain ⟨v,h1,h2⟩:=ih t (by simpa using e)
    exact ⟨v,by simpa using h1,h2⟩
theorem IsDs.append {vs ws:List V}{ds es:List D}(h:IsDs K π n H vs ds)(h2:IsDs K π n H ws es):IsDs K π n H (vs++ws) (ds++es):=by
 induction ds generalizing vs with
 | nil=>cases h;exact h2
 | cons d ds ih=>
  cases h with
  | cons h t=>exact .cons h (ih t)
theorem IsDs.drop {vs:List V}{ds:List D}(h:IsDs K π n H vs ds)(k:Nat):IsDs K π n H (vs.drop k) (ds.drop k):=by
 induction ds generalizing vs k with
 | nil=>cases h;simpa using IsDs.nil
 | cons d ds ih=>
  cases h with
  | cons h t=>
   cases k with
   | zero=>exact .cons h t
   | succ k=>exact ih t k
theorem IsDs.take {vs:List V}{ds:List D}(h:IsDs K π n H vs ds)(k:Nat):IsDs K π n H (vs.take k) (ds.take k):=by
 induction ds generalizing vs k with
 | nil=>cases h;simpa using IsDs.nil
 | cons d ds ih=>
  cases h with
  | cons h t=>
   cases k with
   | zero=>exact .nil
   | succ k=>exact .cons h (ih t k)
theorem IsDs.atI {vs:List V}{ds:List D}(h:IsDs K π n H vs ds){i:Int}{d:D}(e:L2.atI ds i=some d):∃ v,L2.atI vs i=some v/\IsD K π n H v d:=by
 unfold L2.atI at e ⊢
 rw [h.length]
 cases q:iI ds.length i with
 | none=>rw [q] at e;cases e
 | some j=>
  rw [q] at e
  exact h.get e
end
noncomputable def pP (p:Addr)(L:List Tb.El):HO:=.ext fun h=>∃ o,h.get? p=some o/\Tb.SObj L o
noncomputable def Au (p:List Int×Addr×V)(w:Qg):Se:=⟨Tb.hashT p.1,.ref p.2.1,w⟩
noncomputable def aP (a:Addr)(ps:List (List Int×Addr×V)):HO:=.ext fun h=>∃ ws:List Qg,Vals (ps.map (·.2.2)) ws/\(a == Sg)=false/\ps.length<=Qs /\
 ∃ o es ep,h.get? a=some o/\o.ExactDict/\o.data=.dict es ep/\es.toList=Xs Au ps ws/\(ps.map (·.1)).Nodup
structure Rp (K:Qf)(π:Nat->Addr)(H:Hp)(μ:Hm):Prop where
 inj:∀ a b,a<μ.length->b<μ.length->π a=π b->a=b
 has:∀ a,a<μ.length->(H (π a)).isSome=true
 lst:∀ a xs,μ[a]? = some (.lst xs)->∃ vs,H (π a)=some (.lst vs)/\IsDs K π μ.length H vs xs
 dK:∀ a kvs,μ[a]? = some (.dK kvs)->∃ vs,H (π a)=some (.dK vs)/\vs.map (·.1)=kvs.map (·.1)/\IsDs K π μ.length H (vs.map (·.2)) (kvs.map (·.2))
 st:∀ a ks,μ[a]? = some (.st ks)->∃ L:List Tb.El,H (π a)=some (pP (π a) L)/\L.map (·.1)=ks/\IsDs K π μ.length H (L.map fun p=>V.ref p.2) (ks.map fun k=>D.tup (k.map D.int))
 dT:∀ a kvs,μ[a]? = some (.dT kvs)->∃ ps:List (List Int×Addr×V),H (π a)=some (aP (π a) ps)/\ps.map (·.1)=kvs.map (·.1)/\IsDs K π μ.length H (ps.map fun p=>V.ref p.2.1) (kvs.map fun k=>D.tup (k.1.map D.int))/\IsDs K π μ.length H (ps.map (·.2.2)) (kvs.map (·.2))
 dF:∀ a kvs,μ[a]? = some (.dF kvs)->∃ (ob:SD)(ps:List (List Int×Addr×V)),H (π a)=some (.frz ob (aP (π a) ps))/\ps.map (·.1)=kvs.map (·.1)/\IsDs K π μ.length H (ps.map fun p=>V.ref p.2.1) (kvs.map fun k=>D.tup (k.1.map D.int))/\IsDs K π μ.length H (ps.map (·.2.2)) (kvs.map (·.2))
structure En (K:Qf)(π:Nat->Addr)(n:Nat)(H:Hp)(σ:St)(ρ:aK):Prop where
 len:σ.length=ρ.length
 get:∀ (i:Nat)(d:D),ρ[i]? = some (some d)->∃ v,σ[i]? = some (some v)/\IsD K π n H v d
section
variable {K:Qf}{π π' π2:Nat->Addr}{n n' n2:Nat}{H H' H2:Hp}{μ μ':Hm}{σ:St}{ρ:aK}
theorem En.mono (E:En K π n H σ ρ)(e:Ext π n H π' n' H'):En K π' n' H' σ ρ:=
 ⟨E.len,fun i d h=>let ⟨v,h1,h2⟩:=E.get i d h;⟨v,h1,h2.mono e⟩⟩
theorem En.set (E:En K π n H σ ρ){v:V}{d:D}(h:IsD K π n H v d)(i:Nat):En K π n H (σ.set i (some v)) (ρ.set i (some d)):=by
 refine ⟨by rw [RX,RX];exact E.len,fun j d' e=>?_⟩
 rw [List.getElem?_set] at e ⊢
 by_cases hij:i=j
 ·subst hij
  rw [if_pos rfl] at e ⊢
  rw [E.len]
  by_cases hl:i<ρ.length
  ·rw [if_pos hl] at e ⊢
   cases e
   exact ⟨v,rfl,h⟩
  ·rw [if_neg hl] at e
   cases e
 ·rw [if_neg hij] at e ⊢
  exact E.get j d' e
theorem Rp.ne {p:Addr}(R:Rp K π H μ)(h:H p=none){a:Nat}(ha:a<μ.length):π a≠p:=fun e=>by
 have:=R.has a ha
 rw [e,h] at this
 cases this
theorem Rp.fresh {p:Addr}{o:HO}(R:Rp K π H μ)(h:H p=none):Ext π μ.length H π μ.length (aH H p o)/\Rp K π (aH H p o) μ:=by
 have keep:∀ b u,H b=some u->aH H p o b=some u:=fun b u e=>by
  rw [a8 (j6 e h)]
  exact e
 have e:Ext π μ.length H π μ.length (aH H p o):=⟨Qq _,fun _ _=>rfl,fun q vs e=>keep q _ e,fun q o u e=>keep q _ e⟩
 refine ⟨e,R.inj,fun a ha=>?_,fun a xs ha=>?_,fun a kvs ha=>?_,fun a ks ha=>?_
  ,fun a kvs ha=>?_
  ,fun a kvs ha=>?_
  ⟩
 ·rw [a8 (R.ne h ha)]
  exact R.has a ha
 ·obtain ⟨vs,h1,h2⟩:=R.lst a xs ha
  exact ⟨vs,keep _ _ h1,h2.mono e⟩
 ·obtain ⟨vs,h1,h2,h3⟩:=R.dK a kvs ha
  exact ⟨vs,keep _ _ h1,h2,h3.mono e⟩
 ·obtain ⟨vs,h1,h2,h3⟩:=R.st a ks ha
  exact ⟨vs,keep _ _ h1,h2,h3.mono e⟩
 ·obtain ⟨vs,h1,h2,h3,h4⟩:=R.dT a kvs ha
  exact ⟨vs,keep _ _ h1,h2,h3.mono e,h4.mono e⟩
 ·obtain ⟨ob,vs,h1,h2,h3,h4⟩:=R.dF a kvs ha
  exact ⟨ob,vs,keep _ _ h1,h2,h3.mono e,h4.mono e⟩
noncomputable def tX (K:Qf)(π:Nat->Addr)(n:Nat)(H:Hp)(p:Addr):C->HO->Prop
 | .lst xs,.lst vs=>IsDs K π n H vs xs
 | .dK kvs,.dK vs=>vs.map (·.1)=kvs.map (·.1)/\IsDs K π n H (vs.map (·.2)) (kvs.map (·.2))
 | .st ks,o=>∃ L:List Tb.El,o=pP p L/\L.map (·.1)=ks/\IsDs K π n H (L.map fun p=>V.ref p.2) (ks.map fun k=>D.tup (k.map D.int))
 | .dT kvs,o=>∃ ps:List (List Int×Addr×V),o=aP p ps/\ps.map (·.1)=kvs.map (·.1)/\IsDs K π n H (ps.map fun p=>V.ref p.2.1) (kvs.map fun k=>D.tup (k.1.map D.int))/\IsDs K π n H (ps.map (·.2.2)) (kvs.map (·.2))
 | .dF kvs,o=>∃ (ob:SD)(ps:List (List Int×Addr×V)),o=.frz ob (aP p ps)/\ps.map (·.1)=kvs.map (·.1)/\IsDs K π n H (ps.map fun p=>V.ref p.2.1) (kvs.map fun k=>D.tup (k.1.map D.int))/\IsDs K π n H (ps.map (·.2.2)) (kvs.map (·.2))
 | _,_=>False
noncomputable def e8 (π:Nat->Addr)(n:Nat)(p:Addr):Nat->Addr:=fun a=>if a=n then p else π a
theorem Rp.alloc {p:Addr}{c:C}{o:HO}(R:Rp K π H μ)(h:H p=none)(hc:tX K π μ.length H p c o) :
  Ext π μ.length H (e8 π μ.length p) (μ++[c]).length (aH H p o)/\Rp K (e8 π μ.length p) (aH H p o) (μ++[c])/\e8 π μ.length p μ.length=p:=by
 have hl:(μ++[c]).length=μ.length+1:=by simp
 have keep:∀ b u,H b=some u->aH H p o b=some u:=fun b u e=>by
  rw [a8 (j6 e h)]
  exact e
 have pn:e8 π μ.length p μ.length=p:=if_pos rfl
 have po:∀ a,a<μ.length->e8 π μ.length p a=π a:=fun a ha=>if_neg (Q7 ha)
 have e:Ext π μ.length H (e8 π μ.length p) (μ++[c]).length (aH H p o):=⟨by rw [hl];exact UP _,po,fun q vs e=>keep q _ e,fun q o u e=>keep q _ e⟩
 have split:∀ a,a<(μ++[c]).length->a<μ.length\/a=μ.length:=fun a ha=>by rw [hl] at ha;omega
 have get:∀ a,a<μ.length->(μ++[c])[a]? = μ[a]?:=fun a ha=>QC ha
 have getn:(μ++[c])[μ.length]? = some c:=by simp
 refine ⟨e,⟨fun a b ha hb q=>?_,fun a ha=>?_,fun a xs ha=>?_,fun a kvs ha=>?_,fun a ks ha=>?_
  ,fun a kvs ha=>?_
  ,fun a kvs ha=>?_
  ⟩,pn⟩
 ·rcases split a ha with ha|rfl<;>rcases split b hb with hb|rfl
  ·rw [po a ha,po b hb] at q
   exact R.inj a b ha hb q
  ·rw [po a ha,pn] at q
   exact absurd q (R.ne h ha)
  ·rw [pn,po b hb] at q
   exact absurd q.symm (R.ne h hb)
  ·rfl
 ·rcases split a ha with ha|rfl
  ·rw [po a ha,a8 (R.ne h ha)]
   exact R.has a ha
  ·rw [pn,cE]
   rfl
 ·have hlt:a<(μ++[c]).length:=(Qi.mp ha).1
  rcases split a hlt with h1|rfl
  ·rw [get a h1] at ha
   obtain ⟨vs,h2,h3⟩:=R.lst a xs ha
   rw [po a h1]
   exact ⟨vs,keep _ _ h2,h3.mono e⟩
  ·rw [getn] at ha
   cases ha
   cases o with
   | lst vs=>
    rw [pn]
    exact ⟨vs,cE,IsDs.mono e hc⟩
   | _=>exact SV hc
 ·have hlt:a<(μ++[c]).length:=(Qi.mp ha).1
  rcases split a hlt with h1|rfl
  ·rw [get a h1] at ha
   obtain ⟨vs,h2,h3,h4⟩:=R.dK a kvs ha
   rw [po a h1]
   exact ⟨vs,keep _ _ h2,h3,h4.mono e⟩
  ·rw [getn] at ha
   cases ha
   cases o with
   | dK vs=>
    rw [pn]
    exact ⟨vs,cE,hc.1,IsDs.mono e hc.2⟩
   | _=>exact SV hc
 ·have hlt:a<(μ++[c]).length:=(Qi.mp ha).1
  rcases split a hlt with h1|rfl
  ·rw [get a h1] at ha
   obtain ⟨vs,h2,h3,h4⟩:=R.st a ks ha
   rw [po a h1]
   exact ⟨vs,keep _ _ h2,h3,h4.mono e⟩
  ·rw [getn] at ha
   cases ha
   obtain ⟨L,rfl,h3,h4⟩:=hc
   rw [pn]
   exact ⟨L,cE,h3,h4.mono e⟩
 ·have hlt:a<(μ++[c]).length:=(Qi.mp ha).1
  rcases split a hlt with h1|rfl
  ·rw [get a h1] at ha
   obtain ⟨vs,h2,h3,h4,h5⟩:=R.dT a kvs ha
   rw [po a h1]
   exact ⟨vs,keep _ _ h2,h3,h4.mono e,h5.mono e⟩
  ·rw [getn] at ha
   cases ha
   obtain ⟨L,rfl,h3,h4,h5⟩:=hc
   rw [pn]
   exact ⟨L,cE,h3,h4.mono e,h5.mono e⟩
 ·have hlt:a<(μ++[c]).length:=(Qi.mp ha).1
  rcases split a hlt with h1|rfl
  ·rw [get a h1] at ha
   obtain ⟨ob,vs,h2,h3,h4,h5⟩:=R.dF a kvs ha
   rw [po a h1]
   exact ⟨ob,vs,keep _ _ h2,h3,h4.mono e,h5.mono e⟩
  ·rw [getn] at ha
   cases ha
   obtain ⟨ob,L,rfl,h3,h4,h5⟩:=hc
   rw [pn]
   exact ⟨ob,L,cE,h3,h4.mono e,h5.mono e⟩
theorem Rp.put0 {a:Nat}{c:C}{o u:HO}(R:Rp K π H μ)(ha:a<μ.length)(ho:H (π a)=some u)(hu:(∃ vs,u=.lst vs)\/(∃ vs,u=.dK vs)\/(∃ φ,u=.ext φ)\/∃ ob φ,u=.frz ob (.ext φ))(hc:tX K π μ.length H (π a) c o) :
  Ext0 π μ.length H π (μ.set a c).length (aH H (π a) o)/\Rp K π (aH H (π a) o) (μ.set a c):=by
 have hl:(μ.set a c).length=μ.length:=RX ..
 have e:Ext0 π μ.length H π (μ.set a c).length (aH H (π a) o):=by
  refine ⟨XH hl.symm,fun _ _=>rfl,fun q vs z=>?_,fun q o' u' nx z=>?_⟩
  ·rw [a8]
   ·exact z
   ·intro e
    subst e
    rw [ho] at z
    rcases hu with ⟨w,rfl⟩|⟨w,rfl⟩|⟨w,rfl⟩|⟨ob,w,rfl⟩<;>cases z
  ·rw [a8]
   ·exact z
   ·intro e
    subst e
    rw [ho] at z
    rcases hu with ⟨w,rfl⟩|⟨w,rfl⟩|⟨w,rfl⟩|⟨ob,w,rfl⟩<;>cases z
    exact nx _ rfl
 have other:∀ b,b<μ.length->b≠a->aH H (π a) o (π b)=H (π b):=fun b hb hne=>a8 fun q=>hne (R.inj b a hb ha q)
 refine ⟨e,⟨fun b b' hb hb'=>R.inj b b' (hl ▸ hb) (hl ▸ hb'),fun b hb=>?_,fun b xs hb=>?_,fun b kvs hb=>?_,fun b ks hb=>?_
  ,fun b kvs hb=>?_
  ,fun b kvs hb=>?_
  ⟩⟩
 ·by_cases h:b=a
  ·subst h
   rw [cE]
   rfl
  ·rw [other b (hl ▸ hb) h]
   exact R.has b (hl ▸ hb)
 ·have hlt:b<μ.length:=hl ▸ (Qi.mp hb).1
  by_cases h:b=a
  ·subst h
   rw [Rz hlt] at hb
   cases hb
   cases o with
   | lst vs=>exact ⟨vs,cE,IsDs.mono0 e hc⟩
   | _=>exact SV hc
  ·rw [Q6 (Sn h)] at hb
   obtain ⟨vs,h2,h3⟩:=R.lst b xs hb
   exact ⟨vs,by rw [other b hlt h];exact h2,h3.mono0 e⟩
 ·have hlt:b<μ.length:=hl ▸ (Qi.mp hb).1
  by_cases h:b=a
  ·subst h
   rw [Rz hlt] at hb
   cases hb
   cases o with
   | dK vs=>exact ⟨vs,cE,hc.1,IsDs.mono0 e hc.2⟩
   | _=>exact SV hc
  ·rw [Q6 (Sn h)] at hb
   obtain ⟨vs,h2,h3,h4⟩:=R.dK b kvs hb
   exact ⟨vs,by rw [other b hlt h];exact h2,h3,h4.mono0 e⟩
 ·have hlt:b<μ.length:=hl ▸ (Qi.mp hb).1
  by_cases h:b=a
  ·subst h
   rw [Rz hlt] at hb
   cases hb
   obtain ⟨L,rfl,h3,h4⟩:=hc
   exact ⟨L,cE,h3,h4.mono0 e⟩
  ·rw [Q6 (Sn h)] at hb
   obtain ⟨vs,h2,h3,h4⟩:=R.st b ks hb
   exact ⟨vs,by rw [other b hlt h];exact h2,h3,h4.mono0 e⟩
 ·have hlt:b<μ.length:=hl ▸ (Qi.mp hb).1
  by_cases h:b=a
  ·subst h
   rw [Rz hlt] at hb
   cases hb
   obtain ⟨L,rfl,h3,h4,h5⟩:=hc
   exact ⟨L,cE,h3,h4.mono0 e,h5.mono0 e⟩
  ·rw [Q6 (Sn h)] at hb
   obtain ⟨vs,h2,h3,h4,h5⟩:=R.dT b kvs hb
   exact ⟨vs,by rw [other b hlt h];exact h2,h3,h4.mono0 e,h5.mono0 e⟩
 ·have hlt:b<μ.length:=hl ▸ (Qi.mp hb).1
  by_cases h:b=a
  ·subst h
   rw [Rz hlt] at hb
   cases hb
   obtain ⟨ob,L,rfl,h3,h4,h5⟩:=hc
   exact ⟨ob,L,cE,h3,h4.mono0 e,h5.mono0 e⟩
  ·rw [Q6 (Sn h)] at hb
   obtain ⟨ob,vs,h2,h3,h4,h5⟩:=R.dF b kvs hb
   exact ⟨ob,vs,by rw [other b hlt h];exact h2,h3,h4.mono0 e,h5.mono0 e⟩
theorem Rp.put {a:Nat}{c:C}{o u:HO}(R:Rp K π H μ)(ha:a<μ.length)(ho:H (π a)=some u)(hu:(∃ vs,u=.lst vs)\/(∃ vs,u=.dK vs)\/∃ φ,u=.ext φ)(hc:tX K π μ.length H (π a) c o) :
  Ext π μ.length H π (μ.set a c).length (aH H (π a) o)/\Rp K π (aH H (π a) o) (μ.set a c):=by
 have hl:(μ.set a c).length=μ.length:=RX ..
 have e:Ext π μ.length H π (μ.set a c).length (aH H (π a) o):=by
  refine ⟨XH hl.symm,fun _ _=>rfl,fun q vs z=>?_,fun q o' u' z=>?_⟩
  ·rw [a8]
   ·exact z
   ·intro e
    subst e
    rw [ho] at z
    rcases hu with ⟨w,rfl⟩|⟨w,rfl⟩|⟨w,rfl⟩<;>cases z
  ·rw [a8]
   ·exact z
   ·intro e
    subst e
    rw [ho] at z
    rcases hu with ⟨w,rfl⟩|⟨w,rfl⟩|⟨w,rfl⟩<;>cases z
 exact ⟨e,(R.put0 ha ho (hu.imp_right fun h=>h.imp_right .inl) hc).2⟩
end
noncomputable def KC (K:Qf)(Q:VK)(π:Nat->Addr)(n:Nat)(H:Hp)(d:D)(μ':Hm):Prop:=
 ∀ π' v H',Ext π n H π' μ'.length H'->Rp K π' H' μ'->IsD K π' μ'.length H' v d->Q v H'
theorem KC.after {K:Qf}{Q:VK}{π π1:Nat->Addr}{n n1:Nat}{H H1:Hp}{d:D}{μ':Hm}(k:KC K Q π n H d μ')(e:Ext π n H π1 n1 H1):KC K Q π1 n1 H1 d μ':=
 fun π' v H' e' R i=>k π' v H' (e.trans e') R i
noncomputable def tM (K:Qf)(m:ME):TE:=fun σ H Q=>∃ π ρ μ d μ',Rp K π H μ/\En K π μ.length H σ ρ/\m ρ μ=some (d,μ')/\KC K Q π μ.length H d μ'
noncomputable def cF (K:Qf)(m:MT):TT:=fun σ H Q=>∃ π ρ μ b μ',Rp K π H μ/\En K π μ.length H σ ρ/\m ρ μ=some (b,μ')/\∀ π' H',Ext π μ.length H π' μ'.length H'->Rp K π' H' μ'->Q b H'
noncomputable def dM (K:Qf)(m:MA):TA:=fun σ H Q=>∃ π ρ μ ds μ',Rp K π H μ/\En K π μ.length H σ ρ/\m ρ μ=some (ds,μ')/\∀ π' vs H',Ext π μ.length H π' μ'.length H'->Rp K π' H' μ'->IsDs K π' μ'.length H' vs ds->Q vs H'
noncomputable def lJ (K:Qf)(E:Ends)(π:Nat->Addr)(n:Nat)(H:Hp)(fl:Fl)(ρ':aK)(μ':Hm):Prop:=
 match fl with
 | .nx=>∀ π' σ' H',Ext π n H π' μ'.length H'->Rp K π' H' μ'->En K π' μ'.length H' σ' ρ'->E.nx σ' H'
 | .bk=>∀ π' σ' H',Ext π n H π' μ'.length H'->Rp K π' H' μ'->En K π' μ'.length H' σ' ρ'->E.bk σ' H'
 | .ct=>∀ π' σ' H',Ext π n H π' μ'.length H'->Rp K π' H' μ'->En K π' μ'.length H' σ' ρ'->E.ct σ' H'
 | .rt d=>KC K E.rt π n H d μ'
noncomputable def cI (K:Qf)(m:MS):TS:=fun E σ H=>∃ π ρ μ fl ρ' μ',Rp K π H μ/\En K π μ.length H σ ρ/\m ρ μ=some (fl,ρ',μ')/\lJ K E π μ.length H fl ρ' μ'
noncomputable def gC (K:Qf)(k:Nat)(f:MF):Sp:=fun vs H Q _=>vs.length=k/\∃ π ds μ d μ',Rp K π H μ/\IsDs K π μ.length H vs ds/\f ds μ=some (d,μ')/\KC K Q π μ.length H d μ'
section
variable {X:Cx}{e a b c:Qr}{t:TE}{m ma mb mc:ME}{pos:SE}
theorem b9 (h:PE X e t)(hw:∀ σ H Q,tM X.K m σ H Q->t σ H Q):PE X e (tM X.K m):=fun a0V s σ H Q I q=>h a0V s σ H Q I (hw σ H Q q)
theorem pQ {t:TT}{m:MT}(h:PT X e t)(hw:∀ σ H Q,cF X.K m σ H Q->t σ H Q):PT X e (cF X.K m):=fun a0V s σ H Q I q=>h a0V s σ H Q I (hw σ H Q q)
theorem Av {t:TT}{m:MT}(h:PW X e t)(hw:∀ σ H Q,cF X.K m σ H Q->t σ H Q):PW X e (cF X.K m):=fun wh a0V s σ H Q I q=>h wh a0V s σ H Q I (hw σ H Q q)
theorem Aw {es:List Qr}{t:TA}{m:MA}(h:PA X es t)(hw:∀ σ H Q,dM X.K m σ H Q->t σ H Q):PA X es (dM X.K m):=fun p a0V s σ H Q I q=>h p a0V s σ H Q I (hw σ H Q q)
theorem fQ {st:Stmt}{t:TS}{m:MS}(h:PS X st t)(hw:∀ E σ H,cI X.K m E σ H->t E σ H):PS X st (cI X.K m):=fun a0V s σ H E I q=>h a0V s σ H E I (hw E σ H q)
theorem Ax {st:List Stmt}{t:TS}{m:MS}(h:PSs X st t)(hw:∀ E σ H,cI X.K m E σ H->t E σ H):PSs X st (cI X.K m):=fun a0V s σ H E I q=>h a0V s σ H E I (hw E σ H q)
noncomputable def aA (i:Nat):ME:=fun ρ μ=>match ρ[i]? with|some (some d)=>some (d,μ)|_=>none
noncomputable def mC (d:D):ME:=fun _ μ=>some (d,μ)
theorem Hv {i:Nat}{ρ:aK}{μ μ':Hm}{d:D}(h:aA i ρ μ=some (d,μ')):ρ[i]? = some (some d)/\μ'=μ:=by
 unfold aA at h
 split at h
 ·rename_i d' e
  cases h
  exact ⟨e,rfl⟩
 ·cases h
theorem Hw {x:Str}(i:Nat)(h:PE X (.Name x pos) (yX i)):PE X (.Name x pos) (tM X.K (aA i)):=b9 h (by
 rintro σ H Q ⟨π,ρ,μ,d,μ',R,E,hm,k⟩
 obtain ⟨h1,rfl⟩:=Hv hm
 obtain ⟨v,h2,h3⟩:=E.get i d h1
 exact ⟨v,h2,k π v H .refl R h3⟩)
theorem lK {v:V}{d:D}(h:PE X e (tC v))(hd:∀ π n H,IsD X.K π n H v d):PE X e (tM X.K (mC d)):=b9 h (by
 rintro σ H Q ⟨π,ρ,μ,d',μ',R,E,hm,k⟩
 cases hm
 exact k π v H .refl R (hd _ _ _))
theorem Hx {i:Int}{j:Nat}:PE X (.Constant (.int i) j pos) (tM X.K (mC (.int i))):=lK EZ fun _ _ _=>.int i
theorem Hy {i:Bool}{j:Nat}:PE X (.Constant (.bool i) j pos) (tM X.K (mC (.bl i))):=lK E4 fun _ _ _=>.bl i
theorem Hz {i:Str}{j:Nat}:PE X (.Constant (.str i) j pos) (tM X.K (mC (.str i))):=lK E7 fun _ _ _=>.str i
theorem HA {j:Nat}:PE X (.Constant .none j pos) (tM X.K (mC .non)):=lK E6 fun _ _ _=>.non
noncomputable def aB (f:D->D->Hm->Option (D×Hm))(a b:ME):ME:=fun ρ μ=>(a ρ μ).bind fun p=>(b ρ p.2).bind fun q=>f p.1 q.1 q.2
noncomputable def cG (K:Qf)(f:D->D->Hm->Option (D×Hm))(r:R2):Prop:=
 ∀ π H μ x y d μ' vx vy Q,Rp K π H μ->IsD K π μ.length H vx x->IsD K π μ.length H vy y->f x y μ=some (d,μ')->KC K Q π μ.length H d μ'->r vx vy H Q
theorem lM {f:D->D->Hm->Option (D×Hm)}{r:R2}{K:Qf}(hf:cG K f r):∀ σ H Q,tM K (aB f ma mb) σ H Q->nN r (tM K ma) (tM K mb) σ H Q:=by
 rintro σ H Q ⟨π,ρ,μ,d,μ',R,E,hm,k⟩
 obtain ⟨⟨x,μ1⟩,h1,hm⟩:=Qe.mp hm
 obtain ⟨⟨y,μ2⟩,h2,hm⟩:=Qe.mp hm
 exact ⟨π,ρ,μ,x,μ1,R,E,h1,fun π1 v1 H1 e1 R1 i1=>⟨π1,ρ,μ1,y,μ2,R1,E.mono e1,h2,fun π2 v2 H2 e2 R2 i2=>hf π2 H2 μ2 x y d μ' v1 v2 Q R2 (i1.mono e2) i2 hm (k.after (e1.trans e2))⟩⟩
theorem HB {op:XE}{r:R2}{f:D->D->Hm->Option (D×Hm)}(ho:OpR X (T5 op) r)(hf:cG X.K f r)(ha:PE X a (tM X.K ma))(hb:PE X b (tM X.K mb)):PE X (.BinOp a op b pos) (tM X.K (aB f ma mb)):=
 b9 (F7 ho ha hb) (lM hf)
theorem fA {op:UT}{r:R2}{f:D->D->Hm->Option (D×Hm)}(ho:OpR X (RT op) r)(hf:cG X.K f r)(ha:PE X a (tM X.K ma))(hb:PE X b (tM X.K mb))(hm:TV op b=false):PE X (.Compare a [op] [b] pos) (tM X.K (aB f ma mb)):=
 b9 (Gf ho ha hb hm) (lM hf)
noncomputable def aU (m:ME):MT:=fun ρ μ=>(m ρ μ).bind fun p=>match p.1 with|.bl b=>some (b,p.2)|_=>none
theorem Ay {K:Qf}:∀ σ H Q,cF K (aU m) σ H Q->tM K m σ H fun x H'=>∃ k,x=.bl k/\Q k H':=by
 rintro σ H Q ⟨π,ρ,μ,b,μ',R,E,hm,k⟩
 obtain ⟨⟨x,μ1⟩,h1,hm⟩:=Qe.mp hm
 cases x with
 | bl c=>
  cases hm
  refine ⟨π,ρ,μ,_,_,R,E,h1,fun π' v H' e' R' i'=>?_⟩
  cases i'
  exact ⟨_,rfl,k π' H' e' R'⟩
 | _=>cases hm
theorem fB {op:UT}{r:R2}{f:D->D->Hm->Option (D×Hm)}(ho:OpR X (RT op) r)(hf:cG X.K f r)(ha:PE X a (tM X.K ma))(hb:PE X b (tM X.K mb))(hm:TV op b=false):PT X (.Compare a [op] [b] pos) (cF X.K (aU (aB f ma mb))):=
 pQ (Gg ho ha hb hm) fun σ H Q h=>lM hf σ H _ (Ay σ H Q h)
end
end L3
namespace L3
open PySem L2
section
variable {X:Cx}{e a b c:Qr}{m ma mb mc:ME}{pos:SE}{mt mu:MT}{rest:List Qr}
noncomputable def dA (a b:MT):MT:=fun ρ μ=>(a ρ μ).bind fun p=>match p.1 with|true=>b ρ p.2|false=>some (false,p.2)
noncomputable def dN (a b:MT):MT:=fun ρ μ=>(a ρ μ).bind fun p=>match p.1 with|true=>some (true,p.2)|false=>b ρ p.2
noncomputable def cJ (a:MT):MT:=fun ρ μ=>(a ρ μ).map fun p=>(!p.1,p.2)
theorem HC (ha:PT X a (cF X.K mt)):PW X (.BoolOp .And [a] pos) (cF X.K mt):=Fg ha
theorem HD (ha:PT X a (cF X.K mt)):PW X (.BoolOp .Or [a] pos) (cF X.K mt):=Fh ha
theorem HE (ha:PT X a (cF X.K mt))(hb:PW X (.BoolOp .And (b::rest) pos) (cF X.K mu)):PW X (.BoolOp .And (a::b::rest) pos) (cF X.K (dA mt mu)):=Av (Fj ha hb) (by
 rintro σ H Q ⟨π,ρ,μ,d,μ',R,E,hm,k⟩
 obtain ⟨⟨x,μ1⟩,h1,hm⟩:=Qe.mp hm
 refine ⟨π,ρ,μ,x,μ1,R,E,h1,fun π1 H1 e1 R1=>?_⟩
 cases x with
 | true=>
  refine kC ?_
  exact ⟨π1,ρ,μ1,d,μ',R1,E.mono e1,hm,fun π2 H2 e2 R2=>k π2 H2 (e1.trans e2) R2⟩
 | false=>
  refine kB ?_
  cases hm
  exact k π1 H1 e1 R1)
theorem HF (ha:PT X a (cF X.K mt))(hb:PW X (.BoolOp .Or (b::rest) pos) (cF X.K mu)):PW X (.BoolOp .Or (a::b::rest) pos) (cF X.K (dN mt mu)):=Av (Fm ha hb) (by
 rintro σ H Q ⟨π,ρ,μ,d,μ',R,E,hm,k⟩
 obtain ⟨⟨x,μ1⟩,h1,hm⟩:=Qe.mp hm
 refine ⟨π,ρ,μ,x,μ1,R,E,h1,fun π1 H1 e1 R1=>?_⟩
 cases x with
 | true=>
  refine kC ?_
  cases hm
  exact k π1 H1 e1 R1
 | false=>
  refine kB ?_
  exact ⟨π1,ρ,μ1,d,μ',R1,E.mono e1,hm,fun π2 H2 e2 R2=>k π2 H2 (e1.trans e2) R2⟩)
theorem HG (ha:PT X a (cF X.K mt)):PT X (.UnaryOp .Not a pos) (cF X.K (cJ mt)):=pQ (Fn ha) (by
 rintro σ H Q ⟨π,ρ,μ,d,μ',R,E,hm,k⟩
 obtain ⟨⟨x,μ1⟩,h1,hm⟩:=Qk.mp hm
 cases hm
 exact ⟨π,ρ,μ,x,μ1,R,E,h1,fun π1 H1 e1 R1=>k π1 H1 e1 R1⟩)
noncomputable def dB (a b:ME):ME:=fun ρ μ=>(a ρ μ).bind fun p=>match p.1 with|.bl true=>b ρ p.2|.bl false=>some (.bl false,p.2)|_=>none
noncomputable def tY (a b:ME):ME:=fun ρ μ=>(a ρ μ).bind fun p=>match p.1 with|.bl true=>some (.bl true,p.2)|.bl false=>b ρ p.2|_=>none
noncomputable def kH (a:ME):ME:=fun ρ μ=>(a ρ μ).bind fun p=>match p.1 with|.bl b=>some (.bl (!b),p.2)|_=>none
theorem HH {op:BoolOp}(h:PE X a (tM X.K m)):PE X (.BoolOp op [a] pos) (tM X.K m):=Fs h
theorem HJ (ha:PE X a (tM X.K ma))(hb:PE X (.BoolOp .And (b::rest) pos) (tM X.K mb)):PE X (.BoolOp .And (a::b::rest) pos) (tM X.K (dB ma mb)):=b9 (Ft ha hb) (by
 rintro σ H Q ⟨π,ρ,μ,d,μ',R,E,hm,k⟩
 obtain ⟨⟨x,μ1⟩,h1,hm⟩:=Qe.mp hm
 cases x with
 | bl c=>
  refine ⟨π,ρ,μ,.bl c,μ1,R,E,h1,fun π1 v1 H1 e1 R1 i1=>?_⟩
  cases i1
  refine ⟨c,rfl,?_⟩
  cases c with
  | true=>
   refine kC ?_
   exact ⟨π1,ρ,μ1,d,μ',R1,E.mono e1,hm,k.after e1⟩
  | false=>
   refine kB ?_
   cases hm
   exact k π1 _ H1 e1 R1 (.bl false)
 | _=>cases hm)
theorem HK (ha:PE X a (tM X.K ma))(hb:PE X (.BoolOp .Or (b::rest) pos) (tM X.K mb)):PE X (.BoolOp .Or (a::b::rest) pos) (tM X.K (tY ma mb)):=b9 (Fu ha hb) (by
 rintro σ H Q ⟨π,ρ,μ,d,μ',R,E,hm,k⟩
 obtain ⟨⟨x,μ1⟩,h1,hm⟩:=Qe.mp hm
 cases x with
 | bl c=>
  refine ⟨π,ρ,μ,.bl c,μ1,R,E,h1,fun π1 v1 H1 e1 R1 i1=>?_⟩
  cases i1
  refine ⟨c,rfl,?_⟩
  cases c with
  | true=>
   refine kC ?_
   cases hm
   exact k π1 _ H1 e1 R1 (.bl true)
  | false=>
   refine kB ?_
   exact ⟨π1,ρ,μ1,d,μ',R1,E.mono e1,hm,k.after e1⟩
 | _=>cases hm)
theorem HL (ha:PE X a (tM X.K ma)):PE X (.UnaryOp .Not a pos) (tM X.K (kH ma)):=b9 (Fv ha) (by
 rintro σ H Q ⟨π,ρ,μ,d,μ',R,E,hm,k⟩
 obtain ⟨⟨x,μ1⟩,h1,hm⟩:=Qe.mp hm
 cases x with
 | bl c=>
  cases hm
  refine ⟨π,ρ,μ,_,_,R,E,h1,fun π1 v1 H1 e1 R1 i1=>?_⟩
  cases i1
  exact ⟨_,rfl,k π1 _ H1 e1 R1 (.bl _)⟩
 | _=>cases hm)
noncomputable def gD (t:MT)(a b:ME):ME:=fun ρ μ=>(t ρ μ).bind fun p=>match p.1 with|true=>a ρ p.2|false=>b ρ p.2
theorem HM (hc:PT X c (cF X.K mt))(ha:PE X a (tM X.K ma))(hb:PE X b (tM X.K mb)):PE X (.IfExp c a b pos) (tM X.K (gD mt ma mb)):=b9 (Fx hc ha hb) (by
 rintro σ H Q ⟨π,ρ,μ,d,μ',R,E,hm,k⟩
 obtain ⟨⟨x,μ1⟩,h1,hm⟩:=Qe.mp hm
 refine ⟨π,ρ,μ,x,μ1,R,E,h1,fun π1 H1 e1 R1=>?_⟩
 cases x with
 | true=>
  refine kC ?_
  exact ⟨π1,ρ,μ1,d,μ',R1,E.mono e1,hm,k.after e1⟩
 | false=>
  refine kB ?_
  exact ⟨π1,ρ,μ1,d,μ',R1,E.mono e1,hm,k.after e1⟩)
noncomputable def aD:MA:=fun _ μ=>some ([],μ)
noncomputable def aC (a:ME)(r:MA):MA:=fun ρ μ=>(a ρ μ).bind fun p=>(r ρ p.2).bind fun q=>some (p.1::q.1,q.2)
variable {es:List Qr}{ms:MA}
theorem HN:PA X [] (dM X.K aD):=Aw Gq (by
 rintro σ H Q ⟨π,ρ,μ,d,μ',R,E,hm,k⟩
 cases hm
 exact k π [] H .refl R .nil)
theorem HP (ha:PE X e (tM X.K m))(hr:PA X es (dM X.K ms))(hs:Rl (e::es) X.env=(false,eval e X.env)::Rl es X.env:=by rfl):PA X (e::es) (dM X.K (aC m ms)):=Aw (Gr ha hr hs) (by
 rintro σ H Q ⟨π,ρ,μ,d,μ',R,E,hm,k⟩
 obtain ⟨⟨x,μ1⟩,h1,hm⟩:=Qe.mp hm
 obtain ⟨⟨xs,μ2⟩,h2,hm⟩:=Qe.mp hm
 cases hm
 exact ⟨π,ρ,μ,x,μ1,R,E,h1,fun π1 v1 H1 e1 R1 i1=>⟨π1,ρ,μ1,xs,μ2,R1,E.mono e1,h2,fun π2 vs H2 e2 R2 i2=>k π2 _ H2 (e1.trans e2) R2 (.cons (i1.mono e2) i2)⟩⟩)
noncomputable def cT (ms:MA):ME:=fun ρ μ=>(ms ρ μ).bind fun p=>if p.1.length<=Qs then some (.tup p.1,p.2) else none
noncomputable def fC (ms:MA):ME:=fun ρ μ=>(ms ρ μ).bind fun p=>if p.1.length<=Qs then some (.loc p.2.length,p.2++[.lst p.1]) else none
theorem HQ {x1:Nat}(h:PA X es (dM X.K ms)):PE X (.Tuple es x1 pos) (tM X.K (cT ms)):=b9 (Gv h) (by
 rintro σ H Q ⟨π,ρ,μ,d,μ',R,E,hm,k⟩
 obtain ⟨⟨xs,μ1⟩,h1,hm⟩:=Qe.mp hm
 split at hm
 ·rename_i hl
  cases hm
  refine ⟨π,ρ,μ,_,_,R,E,h1,fun π1 vs H1 e1 R1 i1=>⟨by rw [i1.length];exact hl,fun p hp=>?_⟩⟩
  obtain ⟨e2,R2⟩:=R1.fresh (o:=.tup vs) hp
  exact k π1 _ _ (e1.trans e2) R2 (.tup (.of cE) (i1.mono e2))
 ·cases hm)
theorem HR (h:PA X es (dM X.K ms)):PE X (.List es pos) (tM X.K (fC ms)):=b9 (Gw h) (by
 rintro σ H Q ⟨π,ρ,μ,d,μ',R,E,hm,k⟩
 obtain ⟨⟨xs,μ1⟩,h1,hm⟩:=Qe.mp hm
 split at hm
 ·rename_i hl
  cases hm
  refine ⟨π,ρ,μ,xs,μ1,R,E,h1,fun π1 vs H1 e1 R1 i1=>⟨by rw [i1.length];exact hl,fun p hp=>?_⟩⟩
  obtain ⟨e2,R2,q⟩:=R1.alloc (c:=.lst xs) (o:=.lst vs) hp i1
  have i2:IsD X.K (e8 π1 μ1.length p) (μ1++[C.lst xs]).length (aH H1 p (.lst vs)) (.ref p) (.loc μ1.length):=by
   have:=IsD.loc (K:=X.K) (π:=e8 π1 μ1.length p) (n:=(μ1++[C.lst xs]).length) (H:=aH H1 p (.lst vs)) (a:=μ1.length) (by simp)
   rw [q] at this
   exact this
  exact k _ _ _ (e1.trans e2) R2 i2
 ·cases hm)
noncomputable def aI (f:MF)(ms:MA):ME:=fun ρ μ=>(ms ρ μ).bind fun p=>f p.1 p.2
theorem HS {K:Qf}{f:MF}{n:Nat}{E:XK}(hn:∀ ρ μ ds μ',ms ρ μ=some (ds,μ')->ds.length=n):∀ σ H Q,tM K (aI f ms) σ H Q->tF (gC K n f) [] E (dM K ms) σ H Q:=by
 rintro σ H Q ⟨π,ρ,μ,d,μ',R,E,hm,k⟩
 obtain ⟨⟨xs,μ1⟩,h1,hm⟩:=Qe.mp hm
 refine ⟨π,ρ,μ,xs,μ1,R,E,h1,fun π1 vs H1 e1 R1 i1=>?_⟩
 show gC K n f (vs++[]) H1 Q _
 rw [RY]
 exact ⟨by rw [i1.length];exact hn ρ μ xs μ1 h1,π1,xs,μ1,d,μ',R1,i1,hm,k.after e1⟩
theorem HU:∀ ρ μ ds μ',aD ρ μ=some (ds,μ')->ds.length=0:=by
 intro ρ μ ds μ' h
 cases h
 rfl
theorem HV {n:Nat}(h:∀ ρ μ ds μ',ms ρ μ=some (ds,μ')->ds.length=n):∀ ρ μ ds μ',aC m ms ρ μ=some (ds,μ')->ds.length=n+1:=by
 intro ρ μ ds μ' hm
 obtain ⟨⟨x,μ1⟩,h1,hm⟩:=Qe.mp hm
 obtain ⟨⟨xs,μ2⟩,h2,hm⟩:=Qe.mp hm
 cases hm
 rw [QU,h ρ μ1 xs _ h2]
theorem HW {k:Nat}{f:Addr}{fd:Th}{ps:List Str}{fm:MF}{x:Str}{p:SE}{n:Nat}(F:FnOk X.prog X.w X.K X.mg X.base d6 k f fd ps (gC X.K n fm))(hr:Room k X.A)(hg:Gl X x)(hm:X.mg x=some (.ref f))
  (hk:SA X.K (.ref f)=true)(hb:Binds X.K fd ps [])(ha:PA X (e::es) (dM X.K ms))(hn:∀ ρ μ ds μ',ms ρ μ=some (ds,μ')->ds.length=n)(hdb:(x == ("__debug__":Str))=false:=by decide)
  (he:Rl (e::es) X.env=(false,eval e X.env)::Rl es X.env:=by rfl)(hpl:(Tx pos (Rl es X.env)).any (·.1)=false:=by rfl) :
  PE X (.Call (.Name x p) (e::es) [] pos) (tM X.K (aI fm ms)):=
 b9 (Gx F hr hg hm hk hb .nil (E:=E0) Al ha hdb he hpl) (HS hn)
noncomputable def dO (K:Qf)(f:MF)(r:List V->Hp->VK->Prop):Prop:=
 ∀ π H μ xs d μ' vs Q,Rp K π H μ->IsDs K π μ.length H vs xs->f xs μ=some (d,μ')->KC K Q π μ.length H d μ'->r vs H Q
theorem Az {K:Qf}{f:MF}{r:List V->Hp->VK->Prop}(hf:dO K f r):∀ σ H Q,tM K (aI f ms) σ H Q->tG r (dM K ms) σ H Q:=by
 rintro σ H Q ⟨π,ρ,μ,d,μ',R,E,hm,k⟩
 obtain ⟨⟨xs,μ1⟩,h1,hm⟩:=Qe.mp hm
 exact ⟨π,ρ,μ,xs,μ1,R,E,h1,fun π1 vs H1 e1 R1 i1=>hf π1 H1 μ1 xs d μ' vs Q R1 i1 hm (k.after e1)⟩
theorem HX {f:MF}{r:List V->Hp->VK->Prop}{id:String}{x:Str}{p:SE}(hc:CallR X (.builtin id) r)(hf:dO X.K f r)(hg:Gl X x)(hm:X.mg x=none)(hv:Ss x=some (.builtin id))(ha:PA X (e::es) (dM X.K ms))
  (hn:x ≠ "__name__":=by decide) (hdb:(x == ("__debug__":Str))=false:=by decide)
  (he:Rl (e::es) X.env=(false,eval e X.env)::Rl es X.env:=by rfl)(hpl:(Tx pos (Rl es X.env)).any (·.1)=false:=by rfl):PE X (.Call (.Name x p) (e::es) [] pos) (tM X.K (aI f ms)):=
 b9 (GB hc hg hm hv ha hn hdb he hpl) (Az hf)
theorem HY {f:MF}{r:List V->Hp->VK->Prop}{T:String}{x:Str}{p:SE}(hc:CallR X (.type T) r)(hf:dO X.K f r)(hg:Gl X x)(hm:X.mg x=none)(hv:Ss x=some (.type T))(ha:PA X (e::es) (dM X.K ms))
  (hn:x ≠ "__name__":=by decide) (hdb:(x == ("__debug__":Str))=false:=by decide)
  (he:Rl (e::es) X.env=(false,eval e X.env)::Rl es X.env:=by rfl)(hpl:(Tx pos (Rl es X.env)).any (·.1)=false:=by rfl):PE X (.Call (.Name x p) (e::es) [] pos) (tM X.K (aI f ms)):=
 b9 (GC hc hg hm hv ha hn hdb he hpl) (Az hf)
noncomputable def bN (μ:Hm):D->Option (List D)
 | .tup xs=>some xs
 | .rol xs=>some xs
 | .loc a=>match μ[a]? with|some (.lst xs)=>some xs|_=>none
 | _=>none
noncomputable def fD:D->D->Hm->Option (D×Hm)
 | .str z,.int i,μ=>if z.length<=Qs then (atI z.cps.toList i).map fun c=>(.str ⟨#[c]⟩,μ) else none
 | x,.int i,μ=>(bN μ x).bind fun xs=>(atI xs i).map fun d=>(d,μ)
 | _,_,_=>none
theorem HZ {K:Qf}:cG K fD (Ab K):=by
 intro π H μ x y d μ' vx vy Q R ix iy hm k
 cases iy with
 | int i=>
  cases ix with
  | str z=>
   simp only [fD] at hm
   split at hm
   ·rename_i hl
    obtain ⟨c,h1,h2⟩:=Qk.mp hm
    cases h2
    exact .inr (.inr ⟨z,i,c,rfl,rfl,hl,h1,k π _ H .refl R (.str _)⟩)
   ·cases hm
  | tup h t=>
   simp only [fD,bN,Rm] at hm
   obtain ⟨d',h1,h2⟩:=Qk.mp hm
   cases h2
   obtain ⟨v,h3,h4⟩:=t.atI h1
   exact .inr (.inl ⟨_,_,i,v,rfl,rfl,h,h3,k π _ H .refl R h4⟩)
  | rol h t=>
   simp only [fD,bN,Rm] at hm
   obtain ⟨d',h1,h2⟩:=Qk.mp hm
   cases h2
   obtain ⟨v,h3,h4⟩:=t.atI h1
   exact .inl ⟨_,_,i,v,rfl,rfl,h.sq,h3,k π _ H .refl R h4⟩
  | @loc a ha=>
   simp only [fD,bN] at hm
   split at hm
   ·rename_i xs hx
    simp only [Rm] at hm
    obtain ⟨d',h1,h2⟩:=Qk.mp hm
    cases h2
    obtain ⟨vs,h5,h6⟩:=R.lst a xs hx
    obtain ⟨v,h3,h4⟩:=h6.atI h1
    exact .inl ⟨_,_,i,v,rfl,rfl,.of h5,h3,k π _ H .refl R h4⟩
   ·cases hm
  | _=>simp [fD,bN] at hm
 | _=>cases ix<;>simp [fD] at hm
theorem Ia (ha:PE X a (tM X.K ma))(hb:PE X b (tM X.K mb))(hs:tP b):PE X (.Subscript a b pos) (tM X.K (aB fD ma mb)):=b9 (G8 Ha ha hb hs) (lM HZ)
noncomputable def gE (xs:List D)(lo hi:Option Int):List D:=(xs.drop (HT.sIx xs.length 0 lo)).take (HT.sIx xs.length xs.length hi - HT.sIx xs.length 0 lo)
noncomputable abbrev MO:=aK->Hm->Option (Option Int×Hm)
noncomputable def nS:MO:=fun _ μ=>some (none,μ)
noncomputable def gG (m:ME):MO:=fun ρ μ=>(m ρ μ).bind fun p=>match p.1 with|.int i=>some (some i,p.2)|_=>none
noncomputable def nT (K:Qf)(m:MO):TO:=fun σ H Q=>∃ π ρ μ o μ',Rp K π H μ/\En K π μ.length H σ ρ/\m ρ μ=some (o,μ')/\∀ π' H',Ext π μ.length H π' μ'.length H'->Rp K π' H' μ'->Q o H'
theorem Ib:PO X none (nT X.K nS):=fun a0V s σ H Q I q=>G3 a0V s σ H Q I (by
 obtain ⟨π,ρ,μ,o,μ',R,E,hm,k⟩:=q
 cases hm
 exact k π H .refl R)
theorem Ic (h:PE X e (tM X.K m)):PO X (some e) (nT X.K (gG m)):=fun a0V s σ H Q I q=>G4 h a0V s σ H Q I (by
 obtain ⟨π,ρ,μ,o,μ',R,E,hm,k⟩:=q
 obtain ⟨⟨x,μ1⟩,h1,hm⟩:=Qe.mp hm
 cases x with
 | int i=>
  cases hm
  refine ⟨π,ρ,μ,_,_,R,E,h1,fun π1 v1 H1 e1 R1 i1=>?_⟩
  cases i1
  exact ⟨_,rfl,k π1 H1 e1 R1⟩
 | _=>cases hm)
noncomputable def iK (z:Str)(lo hi:Option Int):Str:=⟨((z.cps.toList.drop (HT.sIx z.length 0 lo)).take (HT.sIx z.length z.length hi - HT.sIx z.length 0 lo)).toArray⟩
theorem AA (lo hi:Option Int)(n:Nat):Sv lo hi 1 n=(RA (HT.sIx n n hi - HT.sIx n 0 lo)).map (HT.sIx n 0 lo+·):=by
 rw [<- a0I]
 have e':∀ i:Int,max 0 (min (if i<0 then i+(n:Int) else i) (n:Int))=(((if i<0 then (i+(n:Int)).toNat else min i.toNat n:Nat)):Int):=fun i=>by
  by_cases h:i<0
  ·simp only [h,if_true];omega
  ·simp only [h,if_false];omega
 unfold Sv HT.sIx
 simp only [show ((1:Int)>0)=True from by simp,if_true]
 cases lo with
 | none=>
  cases hi with
  | none=>rfl
  | some j=>dsimp only;rw [e' j];rfl
 | some i=>
  cases hi with
  | none=>dsimp only;rw [e' i]
  | some j=>dsimp only;rw [e' i,e' j]
theorem nP {n d:Nat}(hd:d<=n)(v:Option Int):HT.sIx n d v<=n:=by
 unfold HT.sIx
 cases v with
 | none=>exact hd
 | some i=>simp only;split<;>omega
theorem Ie (z:Str)(lo hi:Option Int):(⟨((Sv lo hi 1 z.length).filterMap (z.cps[·]?)).toArray⟩:Str)=iK z lo hi:=by
 unfold iK
 have hl:z.cps.toList.length=z.length:=by simp [Wa]
 have h1:=nP (RV z.length) lo
 have h2:=nP (Qq z.length) hi
 rw [AA]
 have h:=StrLaws.picks z.cps.toList (HT.sIx z.length z.length hi - HT.sIx z.length 0 lo) (HT.sIx z.length 0 lo)
 by_cases c:HT.sIx z.length 0 lo<=HT.sIx z.length z.length hi
 ·have h:=h (by rw [hl];omega)
  have e:(fun x:Nat=>z.cps.toList[x]?)=(fun x:Nat=>z.cps[x]?):=by funext x;simp
  rw [e] at h
  rw [<- h]
 ·rw [show HT.sIx z.length z.length hi - HT.sIx z.length 0 lo=0 by omega]
  simp
theorem Ig {z:Str}{lo hi:Option Int}(h:(Sv lo hi 1 z.length).length=z.length):iK z lo hi=z:=by
 have hl:z.cps.toList.length=z.length:=by simp [Wa]
 have h1:=nP (RV z.length) lo
 have h2:=nP (Qq z.length) hi
 rw [AA,Qm,We] at h
 unfold iK
 have:(z.cps.toList.drop (HT.sIx z.length 0 lo)).take (HT.sIx z.length z.length hi - HT.sIx z.length 0 lo)=z.cps.toList:=by
  by_cases c:z.length=0
  ·have:z.cps.toList=[]:=Sz.mp (by rw [hl];exact c)
   rw [this];simp
  ·rw [show HT.sIx z.length 0 lo=0 by omega,S8,SG (by rw [hl];omega)]
 rw [this]
noncomputable def AB:V->Option Int->Option Int->Hp->VK->Prop:=fun x lo hi H Q=>∃ z,x=.str z/\z.length<=Qs/\Q (.str (iK z lo hi)) H
theorem AD {v:Qg}{o:Option Int}(p:a0S v o):∃ l:Option (Int×YB),v=partValue l/\l.map (·.1)=o:=by
 cases p with
 | none=>exact ⟨none,rfl,rfl⟩
 | int i t=>exact ⟨some (i,t),rfl,rfl⟩
theorem Ih {X:Cx}:SlR X AB:=by
 intro a0V s σ H x v vl vu lo hi sl Q I rx hs pl pu h
 obtain ⟨z,rfl,hz,q⟩:=h
 obtain ⟨t,rfl⟩:=rx
 obtain ⟨l,rfl,el⟩:=AD pl
 obtain ⟨u,rfl,eu⟩:=AD pu
 refine ⟨"str",_,F.slot_str_getitem.lookup,Vi s z t,?_⟩
 obtain ⟨o,h1,h2,h3⟩:=hs
 refine wpAny_getItem_str_slice (l:=l) (u:=u) (st:=none) ⟨o,h1,h2,h3⟩ rfl ?_
 have hp:slicePicked z l u none=Sv lo hi 1 z.length:=by
  unfold slicePicked;rw [el,eu];rfl
 unfold sliceMade
 rw [hp]
 split
 ·rename_i hc
  have hc':(Sv lo hi 1 z.length).length=z.length:=by
   simp only [Qy,beq_iff_eq] at hc
   exact hc.2
  rw [Ig hc'] at q
  exact ⟨.str z,H,I,⟨t,rfl⟩,q⟩
 ·rw [Ie]
  refine ⟨?_,.str _,H,I.tok _,⟨_,rfl⟩,q⟩
  have hl:z.cps.toList.length=z.length:=by simp [Wa]
  show ((z.cps.toList.drop (HT.sIx z.length 0 lo)).take (HT.sIx z.length z.length hi - HT.sIx z.length 0 lo)).toArray.size<=Qs
  rw [Qn,Q8,Rt,hl]
  omega
noncomputable def AE (K:Qf):V->Option Int->Option Int->Hp->VK->Prop:=fun x lo hi H Q=>tQ K x lo hi H Q\/AB x lo hi H Q
theorem Ii {X:Cx}:SlR X (AE X.K):=sl_list.or Ih
theorem AF {K:Qf}{x:V}{lo hi:Option Int}{H:Hp}{Q:VK}(h:tQ K x lo hi H Q):AE K x lo hi H Q:=.inl h
noncomputable def gH (a:ME)(lo hi:MO):ME:=fun ρ μ=>(a ρ μ).bind fun p=>(lo ρ p.2).bind fun q=>(hi ρ q.2).bind fun r=>
 match p.1 with
 | .tup _=>none
 | .str z=>if z.length<=Qs then some (.str (iK z q.1 r.1),r.2) else none
 | x=>(bN r.2 x).bind fun xs=>some (.loc r.2.length,r.2++[.lst (gE xs q.1 r.1)])
theorem AG {K:Qf}{π:Nat->Addr}{n:Nat}{H:Hp}{vs:List V}{ds:List D}(h:IsDs K π n H vs ds)(lo hi:Option Int):IsDs K π n H (jE vs lo hi) (gE ds lo hi):=by
 unfold jE gE
 rw [h.length]
 exact (h.drop _).take _
theorem iL {K:Qf}{π:Nat->Addr}{μ:Hm}{p:Addr}{c:C}{H:Hp}:IsD K (e8 π μ.length p) (μ++[c]).length H (.ref p) (.loc μ.length):=by
 have:=IsD.loc (K:=K) (π:=e8 π μ.length p) (n:=(μ++[c]).length) (H:=H) (a:=μ.length) (by simp)
 rw [show e8 π μ.length p μ.length=p from if_pos rfl] at this
 exact this
theorem Ij {lo hi:Option Qr}{ml mh:MO}{p2:SE}(ha:PE X a (tM X.K ma))(hl:PO X lo (nT X.K ml))(hu:PO X hi (nT X.K mh)):PE X (.Subscript a (.Slice lo hi none p2) pos) (tM X.K (gH ma ml mh)):=b9 (G6 Ii ha hl hu) (by
 rintro σ H Q ⟨π,ρ,μ,d,μ',R,E,hm,k⟩
 obtain ⟨⟨x,μ1⟩,h1,hm⟩:=Qe.mp hm
 obtain ⟨⟨l,μ2⟩,h2,hm⟩:=Qe.mp hm
 obtain ⟨⟨u,μ3⟩,h3,hm⟩:=Qe.mp hm
 refine ⟨π,ρ,μ,x,μ1,R,E,h1,fun π1 v1 H1 e1 R1 i1=>⟨π1,ρ,μ1,l,μ2,R1,E.mono e1,h2,fun π2 H2 e2 R2=>⟨π2,ρ,μ2,u,μ3,R2,(E.mono e1).mono e2,h3,fun π3 H3 e3 R3=>?_⟩⟩⟩
 have i3:=(i1.mono e2).mono e3
 cases i3 with
 | rol h t=>
  simp only [bN,Rm] at hm
  cases hm
  refine AF ⟨_,_,rfl,h.sq,fun p hp=>?_⟩
  obtain ⟨e4,R4,q⟩:=R3.alloc (c:=.lst (gE _ l u)) (o:=.lst (jE _ l u)) hp (AG t l u)
  exact k _ _ _ (((e1.trans e2).trans e3).trans e4) R4 iL
 | @loc i hi'=>
  simp only [bN] at hm
  split at hm
  ·rename_i xs hx
   simp only [Rm] at hm
   cases hm
   obtain ⟨vs,h5,h6⟩:=R3.lst i xs hx
   refine AF ⟨_,_,rfl,.of h5,fun p hp=>?_⟩
   obtain ⟨e4,R4,q⟩:=R3.alloc (c:=.lst (gE xs l u)) (o:=.lst (jE vs l u)) hp (AG h6 l u)
   exact k _ _ _ (((e1.trans e2).trans e3).trans e4) R4 iL
  ·cases hm
 | tup h t=>simp at hm
 | str z=>
  simp only at hm
  split at hm
  ·rename_i hz
   cases hm
   exact .inr ⟨z,rfl,hz,k _ _ _ ((e1.trans e2).trans e3) R3 (.str _)⟩
  ·cases hm
 | _=>simp [bN] at hm)
end
section
variable {X:Cx}{e a b c:Qr}{m:ME}{pos:SE}{mt:MT}{st:Stmt}{rest body orelse:List Stmt}{ms mr mu:MS}
noncomputable def bJ:MS:=fun ρ μ=>some (.nx,ρ,μ)
noncomputable def aS (a b:MS):MS:=fun ρ μ=>(a ρ μ).bind fun p=>match p.1 with|.nx=>b p.2.1 p.2.2|_=>some p
noncomputable def aV (m:ME):MS:=fun ρ μ=>(m ρ μ).map fun p=>(.rt p.1,ρ,p.2)
noncomputable def iM (m:ME):MS:=fun ρ μ=>(m ρ μ).map fun p=>(.nx,ρ,p.2)
noncomputable def bO (t:MT)(a b:MS):MS:=fun ρ μ=>(t ρ μ).bind fun p=>match p.1 with|true=>a ρ p.2|false=>b ρ p.2
noncomputable def bF (i:Nat)(m:ME):MS:=fun ρ μ=>(m ρ μ).map fun p=>(.nx,ρ.set i (some p.1),p.2)
theorem Ik:PSs X [] (cI X.K bJ):=Ax FA (by
 rintro E σ H ⟨π,ρ,μ,fl,ρ',μ',R,EN,hm,k⟩
 cases hm
 exact k π σ H .refl R EN)
theorem Il (h1:PS X st (cI X.K ms))(h2:PSs X rest (cI X.K mr)):PSs X (st::rest) (cI X.K (aS ms mr)):=Ax (FC h1 h2) (by
 rintro E σ H ⟨π,ρ,μ,fl,ρ',μ',R,EN,hm,k⟩
 obtain ⟨⟨f1,ρ1,μ1⟩,h1,hm⟩:=Qe.mp hm
 refine ⟨π,ρ,μ,f1,ρ1,μ1,R,EN,h1,?_⟩
 cases f1 with
 | nx=>
  intro π1 σ1 H1 e1 R1 E1
  refine ⟨π1,ρ1,μ1,fl,ρ',μ',R1,E1,hm,?_⟩
  cases fl with
  | nx=>exact fun π2 σ2 H2 e2 R2 E2=>k π2 σ2 H2 (e1.trans e2) R2 E2
  | bk=>exact fun π2 σ2 H2 e2 R2 E2=>k π2 σ2 H2 (e1.trans e2) R2 E2
  | ct=>exact fun π2 σ2 H2 e2 R2 E2=>k π2 σ2 H2 (e1.trans e2) R2 E2
  | rt d=>exact KC.after k e1
 | rt d=>cases hm;exact k
 | bk=>cases hm;exact k
 | ct=>cases hm;exact k)
theorem Im (h1:PS X st (cI X.K ms)):PSs X [st] (cI X.K ms):=FD h1
theorem Io:PS X (.Pass pos) (cI X.K bJ):=fQ FE (by
 rintro E σ H ⟨π,ρ,μ,fl,ρ',μ',R,EN,hm,k⟩
 cases hm
 exact k π σ H .refl R EN)
theorem Ip (he:PE X e (tM X.K m)):PS X (.Return (some e) pos) (cI X.K (aV m)):=fQ (FI he) (by
 rintro E σ H ⟨π,ρ,μ,fl,ρ',μ',R,EN,hm,k⟩
 obtain ⟨⟨x,μ1⟩,h1,hm⟩:=Qk.mp hm
 cases hm
 exact ⟨π,ρ,μ,x,μ1,R,EN,h1,k⟩)
theorem Iq (he:PE X e (tM X.K m))(hs:Uv e none pos.line X.env=pure false:=by rfl):PS X (.Expr e pos) (cI X.K (iM m)):=fQ (FG he hs) (by
 rintro E σ H ⟨π,ρ,μ,fl,ρ',μ',R,EN,hm,k⟩
 obtain ⟨⟨x,μ1⟩,h1,hm⟩:=Qk.mp hm
 cases hm
 exact ⟨π,ρ,μ,x,μ1,R,EN,h1,fun π1 v1 H1 e1 R1 i1=>k π1 σ H1 e1 R1 (EN.mono e1)⟩)
theorem Ir (hc:PT X c (cF X.K mt))(ha:PSs X body (cI X.K ms))(hb:PSs X orelse (cI X.K mu)):PS X (.If c body orelse pos) (cI X.K (bO mt ms mu)):=fQ (FN hc ha hb) (by
 rintro E σ H ⟨π,ρ,μ,fl,ρ',μ',R,EN,hm,k⟩
 obtain ⟨⟨x,μ1⟩,h1,hm⟩:=Qe.mp hm
 refine ⟨π,ρ,μ,x,μ1,R,EN,h1,fun π1 H1 e1 R1=>?_⟩
 have k':lJ X.K E π1 μ1.length H1 fl ρ' μ':=by
  cases fl with
  | nx=>exact fun π2 σ2 H2 e2 R2 E2=>k π2 σ2 H2 (e1.trans e2) R2 E2
  | bk=>exact fun π2 σ2 H2 e2 R2 E2=>k π2 σ2 H2 (e1.trans e2) R2 E2
  | ct=>exact fun π2 σ2 H2 e2 R2 E2=>k π2 σ2 H2 (e1.trans e2) R2 E2
  | rt d=>exact KC.after k e1
 cases x with
 | true=>
  refine kC ?_
  exact ⟨π1,ρ,μ1,fl,ρ',μ',R1,EN.mono e1,hm,k'⟩
 | false=>
  refine kB ?_
  exact ⟨π1,ρ,μ1,fl,ρ',μ',R1,EN.mono e1,hm,k'⟩)
theorem AH {i:Nat}{x:Str}{pos':SE}(hN:X.N.Nodup)(hi:X.N[i]? = some x)(hx:Loc X.env.scope x)(he:PE X e (tM X.K m))(hs:Uv e (some (.Name x pos')) pos.line X.env=pure false:=by rfl)
  (hf:X.fn x=true\/X.env.scope.names.lookup x=some .local:=by first|exact .inl rfl|exact .inr rfl|assumption):PS X (.Assign [.Name x pos'] e pos) (cI X.K (bF i m)):=fQ (FU hN hi hx he hs hf) (by
 rintro E σ H ⟨π,ρ,μ,fl,ρ',μ',R,EN,hm,k⟩
 obtain ⟨⟨x,μ1⟩,h1,hm⟩:=Qk.mp hm
 cases hm
 exact ⟨π,ρ,μ,x,μ1,R,EN,h1,fun π1 v1 H1 e1 R1 i1=>k π1 _ H1 e1 R1 ((EN.mono e1).set i1 i)⟩)
end
noncomputable def pR (n:Nat)(ds:List D):aK:=ds.map some++SR (n - ds.length) none
noncomputable def tZ (n:Nat)(m:MS):MF:=fun ds μ=>(m (pR n ds) μ).bind fun p=>match p.1 with|.rt d=>some (d,p.2.2)|.nx=>some (.non,p.2.2)|_=>none
theorem Iu {K:Qf}{π:Nat->Addr}{n:Nat}{H:Hp}{N:List Str}{vs:List V}{ds:List D}(h:IsDs K π n H vs ds)(hl:vs.length<=N.length):En K π n H (L2.start N vs) (pR N.length ds):=by
 have hlen:=h.length
 refine ⟨by simp [L2.start,pR,hlen],fun i d e=>?_⟩
 unfold pR at e
 unfold L2.start
 by_cases hi:i<ds.length
 ·rw [QC (by simpa using hi),Ra] at e
  obtain ⟨d',h1,h2⟩:=Qk.mp e
  cases h2
  obtain ⟨v,h3,h4⟩:=h.get h1
  exact ⟨v,by rw [QC (by rw [Qm,hlen];exact hi),Ra,h3];rfl,h4⟩
 ·rw [QM (by simpa using TB.mp hi)] at e
  have:=Tt (n:=N.length - ds.length) (a:=(none:Option D)) (i:=i - (ds.map some).length)
  rw [this] at e
  split at e<;>simp at e
section
variable {P:QR}{w:Rg}{K:Qf}{mg:Str->Option Qg}{base:RG}
theorem Iw {x qual:Str}{st:Stmt}{f:Addr}{fd:Th}{N ps:List Str}{k:Nat}{m:MS}(F:Fun K x qual st f fd)(S:FnScope N ps (bY st))(hps:ps.length<=N.length)
  (hbody:∀ (cdv:Qg)(A:Q0)(outer:List Wg)(s:Qj)(H:Hp)(E:XK),Room k (A.deeper (WV qual (bY st) s.heap.objs.size f cdv))->
   PSs (iG d6 P w K mg base N qual (bY st) f cdv A outer s H E).nox (eI st) (cI K m)):FnOk P w K mg base d6 (k+1) f fd ps (gC K ps.length (tZ N.length m)):=by
 refine F.ok S (fun vs H Q E h=>h.1) fun cdv A outer s H vs Q E hr h=>⟨_,hbody cdv A outer s H E hr,?_⟩
 obtain ⟨hv,π,ds,μ,d,μ',R,i,hm,kc⟩:=h
 obtain ⟨⟨fl,ρ',μ1⟩,h1,hm⟩:=Qe.mp hm
 refine ⟨π,_,μ,fl,ρ',μ1,R,Iu i (by rw [hv];exact hps),h1,?_⟩
 cases fl with
 | rt d'=>cases hm;exact kc
 | nx=>cases hm;exact fun π1 σ1 H1 e1 R1 E1=>kc π1 .non H1 e1 R1 .non
 | bk=>cases hm
 | ct=>cases hm
end
end L3
namespace L3
open PySem L2
open SeqAt (EqAt RcAt RcNeAt)
inductive KD where
 | non|bl (b:Bool)|int (i:Int)|str (x:Str)|tup (n:Nat)|lst (n:Nat)
inductive IsK (s:Qj):Qg->KD->Prop where
 | non:IsK s .none .non
 | bl (b:Bool):IsK s (.bool b) (.bl b)
 | int (i:Int)(t:YB):IsK s (.int i t) (.int i)
 | str (x:Str)(t:YB):IsK s (.str x t) (.str x)
 | tup {l:Addr}{its:List Qg}(h:s.heap.IsTuple l its.toArray):IsK s (.ref l) (.tup its.length)
 | lst {l:Addr}{its:List Qg}(h:s.heap.IsList l its.toArray):IsK s (.ref l) (.lst its.length)
noncomputable def lN (e:Nat->Bool):KD->KD->Bool
 | .non,.non=>true
 | .bl a,.bl b=>a == b
 | .bl a,.int b=>(if a then 1 else 0) == b
 | .int a,.bl b=>a == (if b then 1 else 0)
 | .int a,.int b=>a == b
 | .str a,.str b=>a == b
 | .tup n,.tup k=>(RA (min n k)).all e&&n == k
 | .lst n,.lst k=>(RA (min n k)).all e&&n == k
 | _,_=>false
noncomputable def pS (A:Q0)(s:Qj)(u v:Qg)(e:Nat->Bool):Prop:=
 (∀ l b items items2,u=.ref l->v=.ref b->s.heap.IsTuple l items->s.heap.IsTuple b items2->∀ j (h1:j<items.size)(h2:j<items2.size),EqAt A.in1 s items[j] items2[j] (e j)) /\
 (∀ l b items items2,u=.ref l->v=.ref b->s.heap.IsList l items->s.heap.IsList b items2->∀ j (h1:j<items.size)(h2:j<items2.size),EqAt A.in1 s items[j] items2[j] (e j))
section
variable {A:Q0}{s:Qj}{u v:Qg}{k k':KD}{e:Nat->Bool}
theorem AI {n k:Nat}(e:Nat->Bool)(h:n=k):((RA (min n k)).all e&&n == k)=(RA n).all e:=by
 subst h
 simp
theorem AJ {n k:Nat}(e:Nat->Bool)(h:n≠k):((RA (min n k)).all e&&n == k)=false:=by
 simp [h]
theorem t4 (h:IsK s u k)(h':IsK s v k')(hu:A.units<Sf)(he:pS A s u v e):RcAt A s u v (lN e k k'):=by
 cases h with
 | non=>
  cases h' with
  | non=>exact RcAt.none_none
  | bl b=>exact RcAt.none_bool b
  | int i t=>exact RcAt.none_int i t
  | str x t=>exact RcAt.none_str x t
  | tup h=>exact RcAt.none_tuple h hu
  | lst h=>exact RcAt.none_list h hu
 | bl a=>
  cases h' with
  | non=>exact RcAt.bool_none a
  | bl b=>exact RcAt.bool_bool a b
  | int i t=>exact RcAt.bool_int a i t
  | str x t=>exact RcAt.bool_str a x t
  | tup h=>exact RcAt.bool_tuple a h hu
  | lst h=>exact RcAt.bool_list a h hu
 | int a ta=>
  cases h' with
  | non=>exact RcAt.int_none a ta
  | bl b=>exact RcAt.int_bool a ta b
  | int i t=>exact RcAt.int_int a ta i t
  | str x t=>exact RcAt.int_str a ta x t
  | tup h=>exact RcAt.int_tuple a ta h hu
  | lst h=>exact RcAt.int_list a ta h hu
 | str a ta=>
  cases h' with
  | non=>exact RcAt.str_none a ta
  | bl b=>exact RcAt.str_bool a ta b
  | int i t=>exact RcAt.str_int a ta i t
  | str x t=>exact RcAt.str_str a ta x t
  | tup h=>exact RcAt.str_tuple a ta h hu
  | lst h=>exact RcAt.str_list a ta h hu
 | tup g=>
  cases h' with
  | non=>exact RcAt.tuple_none g hu
  | bl b=>exact RcAt.tuple_bool b g hu
  | int i t=>exact RcAt.tuple_int i t g hu
  | str x t=>exact RcAt.tuple_str x t g hu
  | tup h=>
   have:=RcAt.tuples (e:=e) g h hu (he.1 _ _ _ _ rfl rfl g h)
   simpa [lN] using this
  | lst h=>exact RcAt.tuple_list g h hu
 | lst g=>
  cases h' with
  | non=>exact RcAt.list_none g hu
  | bl b=>exact RcAt.list_bool b g hu
  | int i t=>exact RcAt.list_int i t g hu
  | str x t=>exact RcAt.list_str x t g hu
  | tup h=>exact RcAt.list_tuple g h hu
  | @lst b its2 h=>
   rename_i l its
   by_cases hl:its.length=its2.length
   ·have:=RcAt.lists (e:=e) g h (by simpa using hl) hu (he.2 _ _ _ _ rfl rfl g h)
    show RcAt A s _ _ ((RA (min its.length its2.length)).all e&&its.length == its2.length)
    rw [AI e hl]
    simpa using this
   ·have:=RcAt.lists_lengths g h (by simpa using hl) hu
    show RcAt A s _ _ ((RA (min its.length its2.length)).all e&&its.length == its2.length)
    rw [AJ e hl]
    exact this
theorem Iy (h:IsK s u k)(h':IsK s v k')(hu:A.units<Sf)(he:pS A s u v e):RcNeAt A s u v (!lN e k k'):=by
 cases h with
 | non=>
  cases h' with
  | non=>exact RcNeAt.none_none
  | bl b=>exact RcNeAt.none_bool b
  | int i t=>exact RcNeAt.none_int i t
  | str x t=>exact RcNeAt.none_str x t
  | tup h=>exact RcNeAt.none_tuple h hu
  | lst h=>exact RcNeAt.none_list h hu
 | bl a=>
  cases h' with
  | non=>exact RcNeAt.bool_none a
  | bl b=>exact RcNeAt.bool_bool a b
  | int i t=>exact RcNeAt.bool_int a i t
  | str x t=>exact RcNeAt.bool_str a x t
  | tup h=>exact RcNeAt.bool_tuple a h hu
  | lst h=>exact RcNeAt.bool_list a h hu
 | int a ta=>
  cases h' with
  | non=>exact RcNeAt.int_none a ta
  | bl b=>exact RcNeAt.int_bool a ta b
  | int i t=>exact RcNeAt.int_int a ta i t
  | str x t=>exact RcNeAt.int_str a ta x t
  | tup h=>exact RcNeAt.int_tuple a ta h hu
  | lst h=>exact RcNeAt.int_list a ta h hu
 | str a ta=>
  cases h' with
  | non=>exact RcNeAt.str_none a ta
  | bl b=>exact RcNeAt.str_bool a ta b
  | int i t=>exact RcNeAt.str_int a ta i t
  | str x t=>exact RcNeAt.str_str a ta x t
  | tup h=>exact RcNeAt.str_tuple a ta h hu
  | lst h=>exact RcNeAt.str_list a ta h hu
 | tup g=>
  cases h' with
  | non=>exact RcNeAt.tuple_none g hu
  | bl b=>exact RcNeAt.tuple_bool b g hu
  | int i t=>exact RcNeAt.tuple_int i t g hu
  | str x t=>exact RcNeAt.tuple_str x t g hu
  | tup h=>
   have:=RcNeAt.tuples (e:=e) g h hu (he.1 _ _ _ _ rfl rfl g h)
   simpa [lN] using this
  | lst h=>exact RcNeAt.tuple_list g h hu
 | lst g=>
  cases h' with
  | non=>exact RcNeAt.list_none g hu
  | bl b=>exact RcNeAt.list_bool b g hu
  | int i t=>exact RcNeAt.list_int i t g hu
  | str x t=>exact RcNeAt.list_str x t g hu
  | tup h=>exact RcNeAt.list_tuple g h hu
  | @lst b its2 h=>
   rename_i l its
   by_cases hl:its.length=its2.length
   ·have:=RcNeAt.lists (e:=e) g h (by simpa using hl) hu (he.2 _ _ _ _ rfl rfl g h)
    show RcNeAt A s _ _ (!((RA (min its.length its2.length)).all e&&its.length == its2.length))
    rw [AI e hl]
    simpa using this
   ·have:=RcNeAt.lists_lengths g h (by simpa using hl) hu
    show RcNeAt A s _ _ (!((RA (min its.length its2.length)).all e&&its.length == its2.length))
    rw [AJ e hl]
    exact this
theorem Iz (h:IsK s u k)(h':IsK s v k')(hu:A.units<Sf)(he:pS A s u v e)(hne:∀ l b,u=.ref l->v=.ref b->l≠b):EqAt A s u v (lN e k k'):=by
 cases h with
 | non=>
  cases h' with
  | non=>exact EqAt.same _
  | bl b=>exact EqAt.none_bool b
  | int i t=>exact EqAt.none_int i t
  | str x t=>exact EqAt.none_str x t
  | tup h=>exact EqAt.none_tuple h hu
  | lst h=>exact EqAt.none_list h hu
 | bl a=>
  cases h' with
  | non=>exact EqAt.bool_none a
  | bl b=>exact EqAt.bool_bool a b
  | int i t=>exact EqAt.bool_int a i t
  | str x t=>exact EqAt.bool_str a x t
  | tup h=>exact EqAt.bool_tuple a h hu
  | lst h=>exact EqAt.bool_list a h hu
 | int a ta=>
  cases h' with
  | non=>exact EqAt.int_none a ta
  | bl b=>exact EqAt.int_bool a ta b
  | int i t=>exact EqAt.int_int a ta i t
  | str x t=>exact EqAt.int_str a ta x t
  | tup h=>exact EqAt.int_tuple a ta h hu
  | lst h=>exact EqAt.int_list a ta h hu
 | str a ta=>
  cases h' with
  | non=>exact EqAt.str_none a ta
  | bl b=>exact EqAt.str_bool a ta b
  | int i t=>exact EqAt.str_int a ta i t
  | str x t=>exact EqAt.str_str a ta x t
  | tup h=>exact EqAt.str_tuple a ta h hu
  | lst h=>exact EqAt.str_list a ta h hu
 | @tup l its g=>
  cases h' with
  | non=>exact EqAt.tuple_none g hu
  | bl b=>exact EqAt.tuple_bool b g hu
  | int i t=>exact EqAt.tuple_int i t g hu
  | str x t=>exact EqAt.tuple_str x t g hu
  | @tup b its2 h=>exact EqAt.of_refs (hne l b rfl rfl) (t4 (k:=.tup its.length) (k':=.tup its2.length) (.tup g) (.tup h) hu he)
  | lst h=>exact EqAt.tuple_list g h hu
 | @lst l its g=>
  cases h' with
  | non=>exact EqAt.list_none g hu
  | bl b=>exact EqAt.list_bool b g hu
  | int i t=>exact EqAt.list_int i t g hu
  | str x t=>exact EqAt.list_str x t g hu
  | tup h=>exact EqAt.list_tuple g h hu
  | @lst b its2 h=>exact EqAt.of_refs (hne l b rfl rfl) (t4 (k:=.lst its.length) (k':=.lst its2.length) (.lst g) (.lst h) hu he)
end
inductive KdD where
 | non|bl (b:Bool)|int (i:Int)|str (x:Str)|tup (xs:List D)|lst (xs:List D)
noncomputable def gJ (μ:Hm):D->Option KdD
 | .non=>some .non
 | .bl b=>some (.bl b)
 | .int i=>some (.int i)
 | .str x=>some (.str x)
 | .tup xs=>some (.tup xs)
 | .rol xs=>some (.lst xs)
 | .loc a=>match μ[a]? with|some (.lst xs)=>some (.lst xs)|_=>none
 | .ty _=>none
noncomputable def eJ (f:D->D->Option Bool):List D->List D->Option Bool
 | x::xs,y::ys=>(f x y).bind fun b=>(eJ f xs ys).map fun c=>b&&c
 | [],[]=>some true
 | _,_=>some false
noncomputable def iN (f:D->D->Option Bool):KdD->KdD->Option Bool
 | .non,.non=>some true
 | .bl a,.bl b=>some (a == b)
 | .bl a,.int b=>some ((if a then 1 else 0) == b)
 | .int a,.bl b=>some (a == (if b then 1 else 0))
 | .int a,.int b=>some (a == b)
 | .str a,.str b=>some (a == b)
 | .tup xs,.tup ys=>eJ f xs ys
 | .lst xs,.lst ys=>eJ f xs ys
 | _,_=>some false
noncomputable def bZ:Nat->Hm->D->D->Option Bool
 | 0,_,_,_=>none
 | n+1,μ,x,y=>(gJ μ x).bind fun a=>(gJ μ y).bind fun b=>iN (bZ n μ) a b
noncomputable def t6:KdD->KD
 | .non=>.non|.bl b=>.bl b|.int i=>.int i|.str x=>.str x|.tup xs=>.tup xs.length|.lst xs=>.lst xs.length
noncomputable def lO:KdD->List D
 | .tup xs=>xs|.lst xs=>xs|_=>[]
section
variable {X:Cx}{a0V:List (Addr×SD)}{σ:St}{H:Hp}{s:Qj}{π:Nat->Addr}{μ:Hm}
inductive KdAt (X:Cx)(π:Nat->Addr)(n:Nat)(H:Hp)(s:Qj)(u:Qg):KdD->Prop where
 | non (h:u=.none):KdAt X π n H s u .non
 | bl (b:Bool)(h:u=.bool b):KdAt X π n H s u (.bl b)
 | int (i:Int)(t:YB)(h:u=.int i t):KdAt X π n H s u (.int i)
 | str (x:Str)(t:YB)(h:u=.str x t):KdAt X π n H s u (.str x)
 | tup {xs:List D}(p:Addr)(vs:List V)(its:List Qg)(h:u=.ref p)(q:SqT X.K H p vs)(i:IsDs X.K π n H vs xs)(r:Vals vs its)(t:s.heap.IsTuple p its.toArray):KdAt X π n H s u (.tup xs)
 | lst {xs:List D}(p:Addr)(vs:List V)(its:List Qg)(h:u=.ref p)(q:SqL X.K H p vs)(i:IsDs X.K π n H vs xs)(r:Vals vs its)(t:s.heap.IsList p its.toArray):KdAt X π n H s u (.lst xs)
theorem lP (I:Inv X a0V σ H s)(R:Rp X.K π H μ){v:V}{d:D}{u:Qg}(h:IsD X.K π μ.length H v d)(r:RelV v u){k:KdD}(e:gJ μ d=some k):KdAt X π μ.length H s u k:=by
 cases h with
 | non=>cases e;exact .non r
 | bl b=>cases e;exact .bl b r
 | int i=>cases e;obtain ⟨t,q⟩:=r;exact .int i t q
 | str x=>cases e;obtain ⟨t,q⟩:=r;exact .str x t q
 | ty x=>cases e
 | tup q t=>
  cases e
  obtain ⟨its,r',p,_⟩:=I.tuple q
  exact .tup _ _ its r q t r' p
 | rol q t=>
  cases e
  obtain ⟨its,r',p,_⟩:=I.list q.sq
  exact .lst _ _ its r q.sq t r' p.isList
 | @loc a ha=>
  simp only [gJ] at e
  split at e
  ·rename_i xs hx
   cases e
   obtain ⟨vs,h1,h2⟩:=R.lst a xs hx
   have q:SqL X.K H (π a) vs:=.of h1
   obtain ⟨its,r',p,_⟩:=I.list q
   exact .lst _ _ its r q h2 r' p.isList
  ·cases e
theorem KdAt.isK {u:Qg}{k:KdD}{n:Nat}(h:KdAt X π n H s u k):IsK s u (t6 k):=by
 cases h with
 | non h=>subst h;exact .non
 | bl b h=>subst h;exact .bl b
 | int i t h=>subst h;exact .int i t
 | str x t h=>subst h;exact .str x t
 | tup p vs its h q i r t=>
  subst h
  have:its.length=_:=r.length.symm.trans i.length
  show IsK s (.ref p) (.tup _)
  rw [<- this]
  exact .tup t
 | lst p vs its h q i r t=>
  subst h
  have:its.length=_:=r.length.symm.trans i.length
  show IsK s (.ref p) (.lst _)
  rw [<- this]
  exact .lst t
noncomputable def fE (f:D->D->Option Bool)(xs ys:List D)(j:Nat):Bool:=match xs[j]?,ys[j]? with
 | some x,some y=>(f x y).getD false
 | _,_=>false
theorem t7 {f:D->D->Option Bool}:∀ {xs ys:List D}{b:Bool},eJ f xs ys=some b->b=((RA (min xs.length ys.length)).all (fE f xs ys)&&xs.length == ys.length)/\∀ (j:Nat) x y,xs[j]? = some x->ys[j]? = some y->f x y=some (fE f xs ys j)
 | [],[],b,h=>by
  cases h
  exact ⟨rfl,fun j x y e=>by simp at e⟩
 | x::xs,[],b,h=>by
  cases h
  exact ⟨by simp,fun j x y _ e=>by simp at e⟩
 | [],y::ys,b,h=>by
  cases h
  exact ⟨by simp,fun j x y e=>by simp at e⟩
 | x::xs,y::ys,b,h=>by
  simp only [eJ] at h
  obtain ⟨c,h1,h2⟩:=Qe.mp h
  obtain ⟨d,h3,h4⟩:=Qk.mp h2
  obtain ⟨i1,i2⟩:=t7 h3
  have h0:fE f (x::xs) (y::ys) 0=c:=by simp [fE,h1]
  have hs:∀ j,fE f (x::xs) (y::ys) (j+1)=fE f xs ys j:=fun j=>by simp [fE]
  refine ⟨?_,fun j x' y' e1 e2=>?_⟩
  ·subst h4
   rw [i1]
   simp only [QU,Nat.add_min_add_right]
   rw [List.range_succ_eq_map,RK,List.all_map,h0]
   have:(fE f (x::xs) (y::ys) ∘ Nat.succ)=fE f xs ys:=funext fun j=>hs j
   rw [this]
   simp [Bool.and_assoc]
  ·cases j with
   | zero=>
    simp at e1 e2
    subst e1;subst e2
    rw [h0,h1]
   | succ j=>
    rw [hs j]
    exact i2 j x' y' (by simpa using e1) (by simpa using e2)
theorem AK {f:D->D->Option Bool}{k k':KdD}{b:Bool}(h:iN f k k'=some b):b=lN (fE f (lO k) (lO k')) (t6 k) (t6 k'):=by
 cases k<;>cases k'<;>simp only [iN] at h<;>first
  | (have h':=Q3 h;subst h';rfl)
  | (obtain ⟨h1,_⟩:=t7 h;rw [h1];rfl)
theorem IA (I:Inv X a0V σ H s)(R:Rp X.K π H μ):∀ (n:Nat){v:V}{u:Qg}{x y:D}{b:Bool},RelV v u->IsD X.K π μ.length H v x->IsD X.K π μ.length H v y->bZ n μ x y=some b->b=true:=by
 intro n
 induction n with
 | zero=>intro v u x y b _ _ _ h;cases h
 | succ n ih=>
  intro v u x y b r hx hy h
  obtain ⟨k,h1,h⟩:=Qe.mp h
  obtain ⟨k',h2,h⟩:=Qe.mp h
  have a1:=lP I R hx r h1
  have a2:=lP I R hy r h2
  have lists:∀ {vs:List V}{xs ys:List D}{c:Bool},(∀ v∈vs,∃ u,RelV v u)->IsDs X.K π μ.length H vs xs->IsDs X.K π μ.length H vs ys->eJ (bZ n μ) xs ys=some c->c=true:=by
   intro vs
   induction vs with
   | nil=>intro xs ys c _ i1 i2 h;cases i1;cases i2;cases h;rfl
   | cons w vs ihv=>
    intro xs ys c hr i1 i2 h
    cases i1 with
    | cons p1 t1=>
     cases i2 with
     | cons p2 t2=>
      simp only [eJ] at h
      obtain ⟨c1,h1,h3⟩:=Qe.mp h
      obtain ⟨c2,h4,h5⟩:=Qk.mp h3
      obtain ⟨u',ru⟩:=hr w (QN ..)
      have e1:=ih ru p1 p2 h1
      have e2:=ihv (fun v hv=>hr v (QH _ hv)) t1 t2 h4
      subst e1;subst e2
      exact h5.symm
  cases a1 with
  | non e1=>
   subst e1
   cases a2 with
   | non _=>simp only [iN] at h;exact (Q3 h).symm
   | bl _ e=>cases e
   | int _ _ e=>cases e
   | str _ _ e=>cases e
   | tup _ _ _ e=>cases e
   | lst _ _ _ e=>cases e
  | bl c e1=>
   subst e1
   cases a2 with
   | non e=>cases e
   | bl _ e=>cases e;simp only [iN,beq_self_eq_true] at h;exact (Q3 h).symm
   | int _ _ e=>cases e
   | str _ _ e=>cases e
   | tup _ _ _ e=>cases e
   | lst _ _ _ e=>cases e
  | int c t e1=>
   subst e1
   cases a2 with
   | non e=>cases e
   | bl _ e=>cases e
   | int _ _ e=>cases e;simp only [iN,beq_self_eq_true] at h;exact (Q3 h).symm
   | str _ _ e=>cases e
   | tup _ _ _ e=>cases e
   | lst _ _ _ e=>cases e
  | str c t e1=>
   subst e1
   cases a2 with
   | non e=>cases e
   | bl _ e=>cases e
   | int _ _ e=>cases e
   | str _ _ e=>cases e;simp only [iN,beq_self_eq_true] at h;exact (Q3 h).symm
   | tup _ _ _ e=>cases e
   | lst _ _ _ e=>cases e
  | tup p vs its e1 q i rv t=>
   have z:KdAt X π μ.length H s (.ref p) _:=e1 ▸ KdAt.tup p vs its e1 q i rv t
   rw [e1] at a2
   cases a2 with
   | non e=>cases e
   | bl _ e=>cases e
   | int _ _ e=>cases e
   | str _ _ e=>cases e
   | tup p2 vs2 its2 e2 q2 i2 rv2 t2=>
    cases e2
    have:=I.tuple_inj q q2
    subst this
    exact lists (fun v hv=>by
     obtain ⟨j,hj,rfl⟩:=S2 hv
     obtain ⟨u',_,ru⟩:=rv.get (Ql hj)
     exact ⟨u',ru⟩) i i2 h
   | lst p2 vs2 its2 e2 q2 i2 rv2 t2=>
    cases e2
    exact absurd rfl (SF t2 t)
  | lst p vs its e1 q i rv t=>
   rw [e1] at a2
   cases a2 with
   | non e=>cases e
   | bl _ e=>cases e
   | int _ _ e=>cases e
   | str _ _ e=>cases e
   | tup p2 vs2 its2 e2 q2 i2 rv2 t2=>
    cases e2
    exact absurd rfl (SF t t2)
   | lst p2 vs2 its2 e2 q2 i2 rv2 t2=>
    cases e2
    have:=I.list_inj q q2
    subst this
    exact lists (fun v hv=>by
     obtain ⟨j,hj,rfl⟩:=S2 hv
     obtain ⟨u',_,ru⟩:=rv.get (Ql hj)
     exact ⟨u',ru⟩) i i2 h
theorem lQ (A:Q0):A.in1.units=A.units+1:=rfl
theorem AL (I:Inv X a0V σ H s){A:Q0}{n:Nat}(ih:∀ {A:Q0}{v v':V}{u u':Qg}{x y:D}{b:Bool},A.units+n<Sf->RelV v u->RelV v' u'->IsD X.K π μ.length H v x->IsD X.K π μ.length H v' y->bZ n μ x y=some b->EqAt A s u u' b)
  (hu:A.units+(n+1)<Sf){u u':Qg}{k k':KdD}{b:Bool}(a1:KdAt X π μ.length H s u k)(a2:KdAt X π μ.length H s u' k')(h:iN (bZ n μ) k k'=some b):pS A s u u' (fE (bZ n μ) (lO k) (lO k')):=by
 have core:∀ {vs vs':List V}{its its':List Qg}{xs ys:List D}{c:Bool},Vals vs its->Vals vs' its'->IsDs X.K π μ.length H vs xs->IsDs X.K π μ.length H vs' ys->eJ (bZ n μ) xs ys=some c->
   ∀ j (h1:j<its.length)(h2:j<its'.length),EqAt A.in1 s its[j] its'[j] (fE (bZ n μ) xs ys j):=by
  intro vs vs' its its' xs ys c r r' i i' e j h1 h2
  have l1:=r.length
  have l2:=r'.length
  have l3:=i.length
  have l4:=i'.length
  have hx:xs[j]? = some (xs[j]'(by omega)):=Ql _
  have hy:ys[j]? = some (ys[j]'(by omega)):=Ql _
  obtain ⟨v,v1,v2⟩:=i.get hx
  obtain ⟨v',v1',v2'⟩:=i'.get hy
  obtain ⟨w,w1,w2⟩:=r.get v1
  obtain ⟨w',w1',w2'⟩:=r'.get v1'
  rw [Ql h1] at w1
  rw [Ql h2] at w1'
  cases w1
  cases w1'
  exact ih (by rw [lQ];omega) w2 w2' v2 v2' ((t7 e).2 j _ _ hx hy)
 constructor
 ·intro l b' items items2 e1 e2 t1 t2 j h1 h2
  subst e1;subst e2
  cases a1 with
  | tup p vs its e q i r t=>
   cases e
   cases a2 with
   | tup p2 vs2 its2 e' q2 i2 r2 t'=>
    cases e'
    have z1:items=its.toArray:=by
     obtain ⟨o,g1,g2,n1,g3⟩:=t1
     obtain ⟨o',g1',g2',n1',g3'⟩:=t
     rw [g1] at g1';cases g1'
     rw [g3] at g3'
     injection g3'
    have z2:items2=its2.toArray:=by
     obtain ⟨o,g1,g2,n1,g3⟩:=t2
     obtain ⟨o',g1',g2',n1',g3'⟩:=t'
     rw [g1] at g1';cases g1'
     rw [g3] at g3'
     injection g3'
    subst z1;subst z2
    have:=core r r2 i i2 h j (by simpa using h1) (by simpa using h2)
    simpa [lO] using this
   | lst p2 vs2 its2 e' q2 i2 r2 t'=>
    cases e'
    exact absurd rfl (SF t' t2)
   | non e'=>cases e'
   | bl _ e'=>cases e'
   | int _ _ e'=>cases e'
   | str _ _ e'=>cases e'
  | lst p vs its e q i r t=>
   cases e
   exact absurd rfl (SF t t1)
  | non e=>cases e
  | bl _ e=>cases e
  | int _ _ e=>cases e
  | str _ _ e=>cases e
 ·intro l b' items items2 e1 e2 t1 t2 j h1 h2
  subst e1;subst e2
  cases a1 with
  | lst p vs its e q i r t=>
   cases e
   cases a2 with
   | lst p2 vs2 its2 e' q2 i2 r2 t'=>
    cases e'
    have z1:items=its.toArray:=by
     obtain ⟨o,g1,g2,n1,g3⟩:=t1
     obtain ⟨o',g1',g2',n1',g3'⟩:=t
     rw [g1] at g1';cases g1'
     rw [g3] at g3'
     injection g3'
    have z2:items2=its2.toArray:=by
     obtain ⟨o,g1,g2,n1,g3⟩:=t2
     obtain ⟨o',g1',g2',n1',g3'⟩:=t'
     rw [g1] at g1';cases g1'
     rw [g3] at g3'
     injection g3'
    subst z1;subst z2
    have:=core r r2 i i2 h j (by simpa using h1) (by simpa using h2)
    simpa [lO] using this
   | tup p2 vs2 its2 e' q2 i2 r2 t'=>
    cases e'
    exact absurd rfl (SF t2 t')
   | non e'=>cases e'
   | bl _ e'=>cases e'
   | int _ _ e'=>cases e'
   | str _ _ e'=>cases e'
  | tup p vs its e q i r t=>
   cases e
   exact absurd rfl (SF t1 t)
  | non e=>cases e
  | bl _ e=>cases e
  | int _ _ e=>cases e
  | str _ _ e=>cases e
theorem AM (I:Inv X a0V σ H s)(R:Rp X.K π H μ):∀ (n:Nat){A:Q0}{v v':V}{u u':Qg}{x y:D}{b:Bool},A.units+n<Sf->RelV v u->RelV v' u'->IsD X.K π μ.length H v x->IsD X.K π μ.length H v' y->bZ n μ x y=some b->EqAt A s u u' b:=by
 intro n
 induction n with
 | zero=>intro A v v' u u' x y b _ _ _ _ _ h;cases h
 | succ n ih=>
  intro A v v' u u' x y b hu r r' hx hy h
  have h0:=h
  obtain ⟨k,h1,h⟩:=Qe.mp h
  obtain ⟨k',h2,h⟩:=Qe.mp h
  have a1:=lP I R hx r h1
  have a2:=lP I R hy r' h2
  by_cases hs:u=u'
  ·subst hs
   have:v=v':=r.inj r'
   subst this
   have:=IA I R (n+1) r hx hy h0
   subst this
   exact EqAt.same _
  ·have he:=AL I ih hu a1 a2 h
   rw [AK h]
   exact Iz a1.isK a2.isK (by omega) he fun l b' e1 e2 z=>hs (by rw [e1,e2,z])
theorem AN (I:Inv X a0V σ H s)(R:Rp X.K π H μ)(n:Nat){A:Q0}{v v':V}{u u':Qg}{x y:D}{b:Bool}(hu:A.units+n<Sf)(r:RelV v u)(r':RelV v' u')(hx:IsD X.K π μ.length H v x)(hy:IsD X.K π μ.length H v' y)(h:bZ n μ x y=some b) :
  RcAt A s u u' b/\RcNeAt A s u u' (!b):=by
 cases n with
 | zero=>cases h
 | succ n=>
  obtain ⟨k,h1,h⟩:=Qe.mp h
  obtain ⟨k',h2,h⟩:=Qe.mp h
  have a1:=lP I R hx r h1
  have a2:=lP I R hy r' h2
  have he:=AL I (A:=A) (AM I R n) hu a1 a2 h
  rw [AK h]
  exact ⟨t4 a1.isK a2.isK (by omega) he,Iy a1.isK a2.isK (by omega) he⟩
end
end L3
namespace L3
open PySem L2
open SeqAt (EqAt RcAt RcNeAt)
section
variable {K:Qf}
noncomputable def iO (g:Int->Int->Option Int):D->D->Hm->Option (D×Hm)
 | .int i,.int j,μ=>(g i j).map fun z=>(.int z,μ)
 | _,_,_=>none
theorem AO {g:Int->Int->Option Int}{x y d:D}{μ μ':Hm}(h:iO g x y μ=some (d,μ')):∃ i j z,x=.int i/\y=.int j/\g i j=some z/\d=.int z/\μ'=μ:=by
 unfold iO at h
 split at h
 ·rename_i i j
  obtain ⟨z,h1,h2⟩:=Qk.mp h
  cases h2
  exact ⟨i,j,z,rfl,rfl,h1,rfl,rfl⟩
 ·cases h
theorem pT {Cc:Int->Int->Prop}{g:Int->Int->Option Int}{g':Int->Int->Int}(hg:∀ i j z,g i j=some z->Cc i j/\z=g' i j):cG K (iO g) (rI Cc fun i j=>.int (g' i j)):=by
 intro π H μ x y d μ' vx vy Q R ix iy hm k
 obtain ⟨i,j,z,rfl,rfl,h1,rfl,rfl⟩:=AO hm
 cases ix
 cases iy
 obtain ⟨c,rfl⟩:=hg i j z h1
 exact ⟨i,j,rfl,rfl,c,k π _ H .refl R (.int _)⟩
theorem IB {g':Int->Int->Int}:cG K (iO fun i j=>some (g' i j)) (eF fun i j=>.int (g' i j)):=by
 intro π H μ x y d μ' vx vy Q R ix iy hm k
 obtain ⟨i,j,z,rfl,rfl,h1,rfl,rfl⟩:=AO hm
 cases ix
 cases iy
 cases h1
 exact ⟨i,j,rfl,rfl,k π _ H .refl R (.int _)⟩
noncomputable def nU:=iO fun i j=>some (i - j)
noncomputable def AQ:=iO fun i j=>if ((-(2 ^ 64)<i/\i<2 ^ 64)\/(-(2 ^ 64)<j/\j<2 ^ 64))\/(i.natAbs<2 ^ 4000/\j.natAbs<2 ^ 4000)\/Rf i+Rf j<=134217728 then some (i * j) else none
noncomputable def b7:D->D->Hm->Option (D×Hm)
 | x,y,μ=>AQ x y μ
noncomputable def dX:=iO fun i j=>if 0<j/\j<2 ^ 4000 then some (i / j) else none
noncomputable def bK:=iO fun i j=>if 0<j then some (i % j) else none
noncomputable def t8:=iO fun i j=>if (0<=j/\j<=1000000/\i.natAbs<2 ^ 64)\/(0<=j/\j<=100/\i.natAbs<2 ^ 4000) then some (i ^ j.toNat) else none
noncomputable def CMulB (i j:Int):Prop:=CMul i j\/(i.natAbs<2 ^ 4000/\j.natAbs<2 ^ 4000)\/Rf i+Rf j<=134217728
noncomputable def AR (i j:Int):Prop:=0<j/\j<2 ^ 4000
noncomputable def AS (i j:Int):Prop:=F9 i j\/(0<=j/\j<=100/\i.natAbs<2 ^ 4000)
theorem t9 {i:Int}(h:i.natAbs<2 ^ 4000):Rf i<=4000:=by
 unfold Rf
 split
 ·exact RV _
 ·rename_i hz
  have h0:i.natAbs≠0:=by
   intro z
   exact hz (by simpa using z)
  have:=(a0y h0).mpr h
  omega
theorem CMulB.ok {i j:Int}(h:CMulB i j):Zg i j:=by
 rcases h with h|⟨h1,h2⟩|h
 ·exact h.ok
 rotate_left
 ·have hl:Ub (Rf i+Rf j)=false:=by
   unfold Ub
   rw [decide_eq_false]
   have:bitsLine=134217728:=by decide
   omega
  unfold Zg
  rw [hl]
  simp
 ·have b1:=t9 h1
  have b2:=t9 h2
  have hl:Ub (Rf i+Rf j)=false:=by
   unfold Ub
   rw [decide_eq_false]
   have:(8000:Int)<=bitsLine:=by decide
   omega
  unfold Zg
  rw [hl]
  simp
section
variable {X:Cx}
theorem IC:OpR X (T5 .Mult) (rI CMulB fun i j=>.int (i * j)):=o9 fun _ _ _ _ _ _ _ hc q=>a0l q hc.ok
theorem ID:OpR X (T5 .FloorDiv) (rI AR fun i j=>.int (i / j)):=o9 fun i j _ _ _ _ _ hc q=>by
 have h1:(0:Int)<j:=hc.1
 have h2:j<2 ^ 4000:=hc.2
 have h0:j.natAbs≠0:=by omega
 have h3:j.natAbs<2 ^ 4000:=by
  have:((2 ^ 4000:Nat):Int)=2 ^ 4000:=by decide
  omega
 have h4:=(a0y h0).mpr h3
 exact a0p (by omega) (by rw [Int.fdiv_eq_ediv_of_nonneg i (by omega)];exact q) (.inl (PyProof.noPylong_of_log2 (by omega)))
theorem IE:OpR X (T5 .Pow) (rI AS fun i j=>.int (i ^ j.toNat)):=o9 fun i j _ _ _ _ _ hc q=>by
 rcases hc with hc|⟨h1,h2,h3⟩
 ·exact a0j hc.1 hc.2.1 hc.2.2 q
 ·have b:=t9 h3
  refine a0k h1 ?_ q
  have:(Rf i:Int) * j<=4000 * 100:=Int.mul_le_mul (by omega) h2 h1 (by omega)
  omega
end
theorem pU {c:Prop} [Decidable c] {a z:Int}(h:(if c then some a else none)=some z):c/\z=a:=by
 split at h
 ·cases h;exact ⟨by assumption,rfl⟩
 ·cases h
theorem IF:cG K nU (eF fun i j=>.int (i - j)):=IB
theorem IG:cG K AQ (rI CMulB fun i j=>.int (i * j)):=pT fun i j z h=>by
 have:=pU h
 exact this
theorem IH:cG K b7 (rI CMulB fun i j=>.int (i * j)):=IG
theorem II:cG K dX (rI AR fun i j=>.int (i / j)):=pT fun i j z h=>by
 have:=pU h
 exact this
theorem IJ:cG K bK (rI (fun _ j=>0<j) fun i j=>.int (i % j)):=pT fun _ _ _ h=>pU h
theorem IK:cG K t8 (rI AS fun i j=>.int (i ^ j.toNat)):=pT fun i j z h=>by
 have:=pU h
 exact this
noncomputable def uA:D->Option D
 | .int i=>some (.int (-i))
 | _=>none
noncomputable def cQ:D->D->Hm->Option (D×Hm)
 | .int i,.int j,μ=>some (.int (i+j),μ)
 | .str x,.str y,μ=>if x.length+y.length<=Qs then some (.str (x++y),μ) else none
 | .loc a,.loc b,μ=>match μ[a]?,μ[b]? with
  | some (.lst xs),some (.lst ys)=>if xs.length+ys.length<=Qs then some (.loc μ.length,μ++[.lst (xs++ys)]) else none
  | _,_=>none
 | _,_,_=>none
noncomputable def uB (K:Qf):R2:=fun x y H Q=>eF (fun i j=>.int (i+j)) x y H Q\/(∃ i j,x=.str i/\y=.str j/\i.length+j.length<=Qs/\Q (.str (i++j)) H)\/Aj x y H Q
theorem IL {X:Cx}:OpR X (T5 .Add) (uB X.K):=op_add.or (op_add_str.or Hj)
noncomputable abbrev uC (K:Qf):R2:=uB K
theorem IM {X:Cx}:OpR X (T5 .Add) (uC X.K):=IL
theorem uD {K:Qf}{x y:V}{H:Hp}{Q:VK}(h:uB K x y H Q):uC K x y H Q:=h
theorem IP:cG K cQ (uC K):=by
 intro π H μ x y d μ' vx vy Q R ix iy hm k
 unfold cQ at hm
 split at hm
 ·cases hm
  cases ix
  cases iy
  exact uD (.inl ⟨_,_,rfl,rfl,k π _ H .refl R (.int _)⟩)
 ·split at hm
  ·rename_i hl
   cases hm
   cases ix
   cases iy
   exact uD (.inr (.inl ⟨_,_,rfl,rfl,hl,k π _ H .refl R (.str _)⟩))
  ·cases hm
 ·split at hm
  ·rename_i xs ys ha hb
   split at hm
   ·rename_i hl
    cases hm
    cases ix
    cases iy
    obtain ⟨vs,h1,h2⟩:=R.lst _ xs ha
    obtain ⟨ws,h3,h4⟩:=R.lst _ ys hb
    refine uD (.inr (.inr ⟨_,_,vs,ws,rfl,rfl,by first|exact h1|exact .inl (.inl h1),h3,by rw [h2.length,h4.length];exact hl,fun p hp=>?_⟩))
    obtain ⟨e2,R2,q⟩:=R.alloc (c:=.lst (xs++ys)) (o:=.lst (vs++ws)) hp (h2.append h4)
    exact k _ _ _ e2 R2 iL
   ·cases hm
  ·cases hm
 ·cases hm
noncomputable def d7 (p:Int->Int->Bool):D->D->Hm->Option (D×Hm)
 | .int i,.int j,μ=>some (.bl (p i j),μ)
 | _,_,_=>none
theorem fF {p:Int->Int->Bool}:cG K (d7 p) (eF fun i j=>.bl (p i j)):=by
 intro π H μ x y d μ' vx vy Q R ix iy hm k
 unfold d7 at hm
 split at hm
 ·cases hm
  cases ix
  cases iy
  exact ⟨_,_,rfl,rfl,k π _ H .refl R (.bl _)⟩
 ·cases hm
noncomputable def cK:=d7 fun i j=>decide (i<j)
noncomputable def lR:=d7 fun i j=>decide (i<=j)
noncomputable def uE:=d7 fun i j=>decide (j<i)
noncomputable def uF:=d7 fun i j=>decide (j<=i)
noncomputable def uG (K:Qf)(ne:Bool):R2:=fun x y H Q=>∃ π μ dx dy b,Rp K π H μ/\IsD K π μ.length H x dx/\IsD K π μ.length H y dy/\bZ 8 μ dx dy=some b/\Q (.bl (if ne then !b else b)) H
theorem AU {X:Cx}(hu:X.A.units+8<Sf):OpR X (RT .Eq) (uG X.K false):=by
 intro a0V s σ H x y v u Q I rx ry h
 obtain ⟨π,μ,dx,dy,b,R,ix,iy,e,q⟩:=h
 exact (AN I R 8 hu rx ry ix iy e).1 _ _ _ _ ⟨.bl b,H,I,rfl,q⟩
theorem AV {X:Cx}(hu:X.A.units+8<Sf):OpR X (RT .NotEq) (uG X.K true):=by
 intro a0V s σ H x y v u Q I rx ry h
 obtain ⟨π,μ,dx,dy,b,R,ix,iy,e,q⟩:=h
 exact (AN I R 8 hu rx ry ix iy e).2 _ _ _ _ ⟨.bl (!b),H,I,rfl,q⟩
noncomputable def a9 (ne:Bool):D->D->Hm->Option (D×Hm):=fun x y μ=>(bZ 8 μ x y).map fun b=>(.bl (if ne then !b else b),μ)
theorem pV {ne:Bool}:cG K (a9 ne) (uG K ne):=by
 intro π H μ x y d μ' vx vy Q R ix iy hm k
 obtain ⟨b,h1,h2⟩:=Qk.mp hm
 cases h2
 exact ⟨π,μ,x,y,b,R,ix,iy,h1,k π _ H .refl R (.bl _)⟩
noncomputable def uH:D->D->Hm->Option (D×Hm)
 | .str i,.str j,μ=>some (.bl (!(RM j i 0 j.length 1).isEmpty),μ)
 | _,_,_=>none
theorem AW:cG K uH (fun x y H Q=>∃ i j,x=.str i/\y=.str j/\Q (.bl (!(RM j i 0 j.length 1).isEmpty)) H):=by
 intro π H μ x y d μ' vx vy Q R ix iy hm k
 unfold uH at hm
 split at hm
 ·cases hm
  cases ix
  cases iy
  exact ⟨_,_,rfl,rfl,k π _ H .refl R (.bl _)⟩
 ·cases hm
end
section
variable {X:Cx}{a b c:Qr}{ma mb mc:ME}{pos:SE}
theorem pW {k:Nat}{A:Q0}(r:Room k A):A.units+8<Sf:=by have:=r.un;omega
theorem IQ (ha:PE X a (tM X.K ma)):PE X (.UnaryOp .USub a pos) (tM X.K (fun ρ μ=>(ma ρ μ).bind fun p=>(uA p.1).map fun d=>(d,p.2))):=b9 (F8 Gd ha) (by
 rintro σ H Q ⟨π,ρ,μ,d,μ',R,E,hm,k⟩
 obtain ⟨⟨x,μ1⟩,h1,hm⟩:=Qe.mp hm
 obtain ⟨y,h2,h3⟩:=Qk.mp hm
 cases h3
 cases x with
 | int i=>
  cases h2
  refine ⟨π,ρ,μ,_,_,R,E,h1,fun π1 v1 H1 e1 R1 i1=>?_⟩
  cases i1
  exact ⟨_,rfl,k π1 _ H1 e1 R1 (.int _)⟩
 | _=>cases h2)
theorem IS {x:Str}{n:String}(hg:Gl X x)(hm:X.mg x=none)(hv:Ss x=some (.type n))(hn:x ≠ "__name__":=by decide) (hd:(x == ("__debug__":Str))=false:=by decide):PE X (.Name x pos) (tM X.K (mC (.ty n))):=
 lK (Fc (v:=.ty n) hg hm hv rfl hn hd) fun _ _ _=>.ty n
end
noncomputable def pX (μ:Hm):D->Option String
 | .non=>some "NoneType"
 | .bl _=>some "bool"
 | .int _=>some "int"
 | .str _=>some "str"
 | .tup _=>some "tuple"
 | .rol _=>some "list"
 | .loc a=>match μ[a]? with
  | some (.lst _)=>some "list"
  | some (.dK _)=>some "dict"
  | some (.dT _)=>some "dict"
  | _=>none
 | .ty _=>none
noncomputable def pY (t c:String):Option Bool:=match c with
 | "int"=>some (t == "int" || t == "bool")
 | "bool"=>some (t == "bool")
 | "str"=>some (t == "str")
 | "list"=>some (t == "list")
 | "tuple"=>some (t == "tuple")
 | "dict"=>some (t == "dict")
 | _=>none
noncomputable def cH:MF:=fun ds μ=>match ds with
 | [x,.ty c]=>(pX μ x).bind fun t=>(pY t c).map fun b=>(.bl b,μ)
 | _=>none
theorem iP (K:Qf){t c:String}{b:Bool}(ht:t = "NoneType"\/t = "bool"\/t = "int"\/t = "str"\/t = "tuple"\/t = "list"\/t = "dict") (h:pY t c=some b):YF K (.type t) (.type c)=some b:=by
 unfold pY at h
 split at h<;>first
  | cases h;done
  | (have h':=Q3 h;subst h'
     rcases ht with rfl|rfl|rfl|rfl|rfl|rfl|rfl<;>first|rfl|decide +kernel|(unfold YF;simp;rfl))
end L3
namespace L3
open PySem L2
noncomputable abbrev MG:=D->aK->Hm->Option aK
noncomputable def eK (K:Qf)(g:MG):TG:=fun v σ H Q=>∃ π ρ μ d ρ',Rp K π H μ/\En K π μ.length H σ ρ/\IsD K π μ.length H v d/\g d ρ μ=some ρ'/\∀ σ',En K π μ.length H σ' ρ'->Q σ' H
noncomputable def c3 (i:Nat):MG:=fun d ρ _=>some (ρ.set i (some d))
section
variable {X:Cx}{pos:SE}
theorem AX {i:Nat}{x:Str}(hN:X.N.Nodup)(hi:X.N[i]? = some x)(hx:Loc X.env.scope x)(hf:X.fn x=true\/X.env.scope.names.lookup x=some .local:=by first|exact .inl rfl|exact .inr rfl|assumption):PG X (.Name x pos) (eK X.K (c3 i)):=by
 intro a0V s σ H v u Q I r h
 obtain ⟨π,ρ,μ,d,ρ',R,E,hd,hm,k⟩:=h
 cases hm
 exact zA hN hi hx hf a0V s σ H v u Q I r (k _ (E.set hd i))
noncomputable def IT (K:Qf)(tl:TE):TI:=fun σ H R=>tl σ H fun x H1=>∃ a,x=.ref a/\(((∃ xs,SqL K H1 a xs)/\R (sT K a) H1)\/((∃ xs,SqT K H1 a xs)/\R (sU K a) H1))
theorem IU {l tg:Qr}{tl:TE}(hl:PE X l tl):PI X tg l (IT X.K tl):=by
 intro a0V s σ H R I h
 refine aN (hl a0V s σ H _ I h) fun v s1 ⟨x,H1,I1,r1,q1⟩=>?_
 obtain ⟨a,e,q⟩:=q1
 subst e
 cases r1
 rcases q with ⟨⟨xs,hq⟩,q⟩|⟨⟨xs,hq⟩,q⟩
 ·obtain ⟨its,rv,p,hz⟩:=I1.list hq
  refine ZI p.isList ?_
  refine ⟨s1.heap.objs.size,[s1.heap.objs.size],_,_,H1,rfl,I1.kept (t':=s1.toks) fun b o e=>Qo _ e,FV a _,⟨_,QY _ rfl,rfl,rfl⟩,fun b hb=>?_,q⟩
  have e:b=s1.heap.objs.size:=by simpa using hb
  subst e
  exact I1.fpOk (Qq _) (I1.hok.fresh (Qq _))
 ·obtain ⟨its,rv,p,hz⟩:=I1.tuple hq
  refine Zo (show s1.heap.IsTuple a its.toArray from p) ?_
  refine ⟨s1.heap.objs.size,[s1.heap.objs.size],_,_,H1,rfl,I1.kept (t':=s1.toks) fun b o e=>Qo _ e,FW a _,⟨_,QY _ rfl,rfl,rfl⟩,fun b hb=>?_,q⟩
  have e:b=s1.heap.objs.size:=by simpa using hb
  subst e
  exact I1.fpOk (Qq _) (I1.hok.fresh (Qq _))
end
structure Wk (K:Qf)(J:It)(src:Hm->Nat->Option (Option D))(π:Nat->Addr)(n:Nat)(H:Hp):Prop where
 stop:∀ π' μ H' i,Ext π n H π' μ.length H'->Rp K π' H' μ->src μ i=some none->J.stop i H'
 go:∀ π' μ H' i d,Ext π n H π' μ.length H'->Rp K π' H' μ->src μ i=some (some d)->J.go i H'/\∀ x H2,J.yld i H' x H2->Ext π' μ.length H' π' μ.length H2/\Rp K π' H2 μ/\IsD K π' μ.length H2 x d
noncomputable def iQ (x:D):Hm->Nat->Option (Option D):=fun μ i=>(bN μ x).map fun xs=>xs[i]?
theorem IV {K:Qf}{π:Nat->Addr}{μ:Hm}{H:Hp}{v:V}{x:D}{xs:List D}(R:Rp K π H μ)(h:IsD K π μ.length H v x)(hs:bN μ x=some xs) :
  ∃ a,v=.ref a/\(((∃ vs,SqL K H a vs)/\Wk K (sT K a) (iQ x) π μ.length H)\/((∃ vs,SqT K H a vs)/\Wk K (sU K a) (iQ x) π μ.length H)):=by
 cases h with
 | @tup p vs ds q t=>
  refine ⟨p,rfl,.inr ⟨⟨vs,q⟩,⟨fun π' μ' H' i e R' z=>?_,fun π' μ' H' i d e R' z=>?_⟩⟩⟩
  ·simp only [iQ,bN,Rk] at z
   have z':ds[i]? = none:=Q3 z
   exact ⟨vs,e.sqT q,by rw [t.length];exact Tf.mp z'⟩
  ·simp only [iQ,bN,Rk] at z
   have z':ds[i]? = some d:=Q3 z
   obtain ⟨w,h1,h2⟩:=t.get z'
   refine ⟨⟨vs,w,e.sqT q,h1⟩,fun y H2 ⟨e1,e2⟩=>?_⟩
   subst e1
   have:=e2 vs (e.sqT q)
   rw [h1] at this
   cases this
   exact ⟨.refl,R',h2.mono e⟩
 | @rol p vs ds q t=>
  refine ⟨p,rfl,.inl ⟨⟨vs,q.sq⟩,⟨fun π' μ' H' i e R' z=>?_,fun π' μ' H' i d e R' z=>?_⟩⟩⟩
  ·simp only [iQ,bN,Rk] at z
   have z':ds[i]? = none:=Q3 z
   exact ⟨vs,(e.roL q).sq,by rw [t.length];exact Tf.mp z'⟩
  ·simp only [iQ,bN,Rk] at z
   have z':ds[i]? = some d:=Q3 z
   obtain ⟨w,h1,h2⟩:=t.get z'
   refine ⟨⟨vs,w,(e.roL q).sq,h1⟩,fun y H2 ⟨e1,e2⟩=>?_⟩
   subst e1
   have:=e2 vs (e.roL q).sq
   rw [h1] at this
   cases this
   exact ⟨.refl,R',h2.mono e⟩
 | @loc a ha=>
  have hc:∃ vs,H (π a)=some (.lst vs):=by
   simp only [bN] at hs
   split at hs
   ·rename_i ys hy
    obtain ⟨vs,h1,_⟩:=R.lst a ys hy
    exact ⟨vs,h1⟩
   ·cases hs
  obtain ⟨vs0,hv0⟩:=hc
  refine ⟨π a,rfl,.inl ⟨⟨vs0,.of hv0⟩,⟨fun π' μ' H' i e R' z=>?_,fun π' μ' H' i d e R' z=>?_⟩⟩⟩
  ·simp only [iQ,bN] at z
   split at z
   ·rename_i ys hy
    obtain ⟨vs,h1,h2⟩:=R'.lst a ys hy
    rw [e.pi a ha] at h1
    have z':ys[i]? = none:=Q3 z
    exact ⟨vs,.of h1,by rw [h2.length];exact Tf.mp z'⟩
   ·cases z
  ·simp only [iQ,bN] at z
   split at z
   ·rename_i ys hy
    obtain ⟨vs,h1,h2⟩:=R'.lst a ys hy
    rw [e.pi a ha] at h1
    have z':ys[i]? = some d:=Q3 z
    obtain ⟨w,h3,h4⟩:=h2.get z'
    refine ⟨⟨vs,w,.of h1,h3⟩,fun y H2 ⟨e1,e2⟩=>?_⟩
    subst e1
    have:=e2 vs (.of h1)
    rw [h3] at this
    cases this
    exact ⟨.refl,R',h4⟩
   ·cases z
 | _=>cases hs
noncomputable def d8 (src:Hm->Nat->Option (Option D))(g:MG)(b:MS):Nat->Nat->MS
 | 0,_,_,_=>none
 | n+1,i,ρ,μ=>(src μ i).bind fun o=>match o with
  | none=>some (.nx,ρ,μ)
  | some d=>(g d ρ μ).bind fun ρ1=>(b ρ1 μ).bind fun p=>match p.1 with
   | .nx=>d8 src g b n (i+1) p.2.1 p.2.2
   | .ct=>d8 src g b n (i+1) p.2.1 p.2.2
   | .bk=>some (.nx,p.2.1,p.2.2)
   | .rt d=>some (.rt d,p.2.1,p.2.2)
theorem IW {K:Qf}{J:It}{src:Hm->Nat->Option (Option D)}{g:MG}{b:MS}{π:Nat->Addr}{n0:Nat}{H0:Hp}(W:Wk K J src π n0 H0){E:Ends}{fl:Fl}{ρ':aK}{μ':Hm}(hE:lJ K E π n0 H0 fl ρ' μ')
  {π1:Nat->Addr}{μ1:Hm}{H1:Hp}{ρ1:aK}{σ1:St}{n:Nat}(e1:Ext π n0 H0 π1 μ1.length H1)(R1:Rp K π1 H1 μ1)(E1:En K π1 μ1.length H1 σ1 ρ1)(h:d8 src g b n 0 ρ1 μ1=some (fl,ρ',μ')) :
  ∃ Wd:Nat->Nat->St->Hp->Prop,(∃ m,Wd 0 m σ1 H1)/\∀ i m σ H,Wd i m σ H->
   (J.stop i H/\E.nx σ H)\/(J.go i H/\∃ N:St->Hp->Prop,(∀ σ' H',N σ' H'->∃ m',m'<m/\Wd (i+1) m' σ' H')/\∀ x H',J.yld i H x H'->eK K g x σ H' fun σ2 H2=>cI K b { E with nx:=N,ct:=N,bk:=E.nx } σ2 H2):=by
 have lift:∀ {π2:Nat->Addr}{n2:Nat}{H2:Hp}(e:Ext π n0 H0 π2 n2 H2){fl:Fl}{ρ':aK}{μ':Hm},lJ K E π n0 H0 fl ρ' μ'->lJ K E π2 n2 H2 fl ρ' μ':=fun {π2 n2 H2} e {fl ρ' μ'} k=>by
  cases fl with
  | nx=>exact fun π3 σ3 H3 e3 R3 E3=>k π3 σ3 H3 (e.trans e3) R3 E3
  | bk=>exact fun π3 σ3 H3 e3 R3 E3=>k π3 σ3 H3 (e.trans e3) R3 E3
  | ct=>exact fun π3 σ3 H3 e3 R3 E3=>k π3 σ3 H3 (e.trans e3) R3 E3
  | rt d=>exact KC.after k e
 refine ⟨fun i m σ H=>∃ π2 μ2 ρ2,Ext π n0 H0 π2 μ2.length H/\Rp K π2 H μ2/\En K π2 μ2.length H σ ρ2/\d8 src g b m i ρ2 μ2=some (fl,ρ',μ'),⟨n,π1,μ1,ρ1,e1,R1,E1,h⟩,?_⟩
 rintro i m σ H ⟨π2,μ2,ρ2,e2,R2,E2,h2⟩
 cases m with
 | zero=>cases h2
 | succ m=>
  obtain ⟨o,h3,h4⟩:=Qe.mp h2
  cases o with
  | none=>
   cases h4
   exact .inl ⟨W.stop π2 _ H i e2 R2 h3,hE π2 σ H e2 R2 E2⟩
  | some d=>
   obtain ⟨g1,g2⟩:=W.go π2 μ2 H i d e2 R2 h3
   obtain ⟨ρ3,h5,h6⟩:=Qe.mp h4
   obtain ⟨⟨f4,ρ4,μ4⟩,h7,h8⟩:=Qe.mp h6
   refine .inr ⟨g1,fun σ' H'=>∃ π5 ρ5 μ5,Ext π n0 H0 π5 μ5.length H'/\Rp K π5 H' μ5/\En K π5 μ5.length H' σ' ρ5/\d8 src g b m (i+1) ρ5 μ5=some (fl,ρ',μ'),
    fun σ' H' ⟨π5,ρ5,μ5,a1,a2,a3,a4⟩=>⟨m,Wz _,π5,μ5,ρ5,a1,a2,a3,a4⟩,fun x H' y=>?_⟩
   obtain ⟨ex,Rx,hx⟩:=g2 x H' y
   have e2:=e2.trans ex
   refine ⟨π2,ρ2,μ2,d,ρ3,Rx,E2.mono ex,hx,h5,fun σ3 E3=>⟨π2,ρ3,μ2,f4,ρ4,μ4,Rx,E3,h7,?_⟩⟩
   cases f4 with
   | nx=>exact fun π5 σ5 H5 e5 R5 E5=>⟨π5,ρ4,μ4,e2.trans e5,R5,E5,h8⟩
   | ct=>exact fun π5 σ5 H5 e5 R5 E5=>⟨π5,ρ4,μ4,e2.trans e5,R5,E5,h8⟩
   | bk=>
    cases h8
    exact fun π5 σ5 H5 e5 R5 E5=>hE π5 σ5 H5 (e2.trans e5) R5 E5
   | rt d'=>
    cases h8
    exact KC.after hE e2
section
variable {X:Cx}{pos:SE}{tg iter:Qr}{body:List Stmt}{mi:ME}{g:MG}{mb:MS}
noncomputable def eM (lo:Int)(n:Nat):Hm->Nat->Option (Option D):=fun _ i=>some (if i<n then some (.int (lo+i)) else none)
theorem AY {K:Qf}{lo:Int}{k:Nat}{π:Nat->Addr}{n:Nat}{H:Hp}:Wk K (nK lo k) (eM lo k) π n H:=by
 refine ⟨fun π' μ H' i e R z=>?_,fun π' μ H' i d e R z=>?_⟩
 ·have z':=Q3 z
  split at z'
  ·cases z'
  ·exact TB.mp (by assumption)
 ·have z':=Q3 z
  split at z'
  ·cases z'
   rename_i h
   exact ⟨h,fun x H2 ⟨e1,e2⟩=>by subst e1;rw [e2];exact ⟨.refl,R,.int _⟩⟩
  ·cases z'
end
end L3
namespace L3
open PySem L2
noncomputable def lS (y:Str):Str:="#"++y
noncomputable def bC (xs N:List Str):List Str:=N.map fun y=>if xs.contains y then lS y else y
theorem kI (xs N:List Str):(bC xs N).length=N.length:=by unfold bC;simp
theorem IX {xs N:List Str}{i:Nat}{y:Str}(h:(bC xs N)[i]? = some y):∃ y0,N[i]? = some y0/\((xs.contains y0=true/\y=lS y0)\/(xs.contains y0=false/\y=y0)):=by
 unfold bC at h
 rw [Ra] at h
 obtain ⟨y0,h1,h2⟩:=Qk.mp h
 refine ⟨y0,h1,?_⟩
 cases hc:xs.contains y0 with
 | true=>rw [hc] at h2;exact .inl ⟨rfl,by simpa using h2.symm⟩
 | false=>rw [hc] at h2;exact .inr ⟨rfl,by simpa using h2.symm⟩
noncomputable def cB (X:Cx)(scope:Tz)(cl:List (Str×Addr))(C:Addr)(N:List Str)(s₀:Qj)(H₀:Hp)(fp:List Addr):Cx:=
 { X with N:=N,s₀:=s₀,H₀:=H₀,env:=UI scope cl C X.env,outer:=X.stack,stack:=X.stack,ex:=fp,fn:=fun _=>false,pn:=[],xe:=fun _ _=>False }
theorem AZ {env:Wg}:∀ (names:List (Str×Ts))(x:Str),(names.map fun (n,k)=>if (k == S1&&env.scope.kind == .function&&env.kindOf n == some .cell) then (n,Te) else (n,k)).lookup x
  = (names.lookup x).map fun k=>if (k == S1&&env.scope.kind == .function&&env.kindOf x == some .cell) then Te else k
 | [],_=>rfl
 | (n,k)::r,x=>by
  have ih:=AZ (env:=env) r x
  rw [Qz]
  by_cases hx:x=n
  ·subst hx
   have key:∀ (k':Ts)(l:List (Str×Ts)),VM x ((x,k')::l)=some k':=fun k' l=>by simp [UA]
   rw [key]
   show VM x ((if (k == S1&&env.scope.kind == .function&&env.kindOf x == some .cell)=true then (x,Te) else (x,k))::_)=some (if (k == S1&&env.scope.kind == .function&&env.kindOf x == some .cell)=true then Te else k)
   split
   ·rw [key]
   ·rw [key]
  ·have hx':(x == n)=false:=by simpa using hx
   have key:∀ (k':Ts)(l:List (Str×Ts)),VM x ((n,k')::l)=VM x l:=fun k' l=>by simp only [UA,hx']
   rw [key]
   show VM x ((if (k == S1&&env.scope.kind == .function&&env.kindOf n == some .cell)=true then (n,Te) else (n,k))::_)=_
   split
   ·rw [key]
    exact ih
   ·rw [key]
    exact ih
structure CompOk (X:Cx)(scope:Tz)(cl:List (Str×Addr))(xs:List Str):Prop where
 clos:Zx scope X.env=pure cl
 nocell:∀ y∈scope.names,y.2≠.cell
 kind:scope.kind=.function
 names:∀ y∈scope.names,y.2=.local->scope.names.lookup y.1=some .local
 here:∀ x∈xs,scope.names.lookup x=some .local
 sub:∀ y c,cl.lookup y=some c->X.env.cells.lookup y=some c
 free:∀ y,scope.names.lookup y=some .free->(X.env.kindOf y=some .cell\/X.env.kindOf y=some .free)/\∃ c,cl.lookup y=some c
 own:∀ y,scope.names.lookup y=some .local->y∉bC xs X.N
 hidn:∀ y∈X.N,xs.contains y=true->scope.names.lookup (lS y)=none
section
variable {X:Cx}{scope:Tz}{cl:List (Str×Addr)}{xs:List Str}
theorem CompOk.kindOf (O:CompOk X scope cl xs)(C:Addr)(y:Str):(UI scope cl C X.env).kindOf y=(scope.names.lookup y).map fun k=>if (k == S1&&X.env.scope.kind == .function&&X.env.kindOf y == some .cell) then Te else k:=
 AZ scope.names y
theorem CompOk.outer (O:CompOk X scope cl xs){C:Addr}{y:Str}(h:(UI scope cl C X.env).kindOf y=some .cell\/(UI scope cl C X.env).kindOf y=some .free):scope.names.lookup y=some .free:=by
 rw [O.kindOf] at h
 cases q:scope.names.lookup y with
 | none=>rw [q] at h;rcases h with h|h<;>cases h
 | some k=>
  rw [q] at h
  cases k with
  | free=>rfl
  | cell=>exact absurd rfl (O.nocell _ (RN q))
  | «local»=>rcases h with h|h<;>simp at h
  | globalExplicit=>rcases h with h|h<;>simp at h
  | globalImplicit=>rcases h with h|h<;>simp at h
theorem CompOk.inv {a0V:List (Addr×SD)}{σ:St}{H:Hp}{s:Qj}{fp:List Addr}{h₁:RG}{tk:Nat}(O:CompOk X scope cl xs)(I:Inv X a0V σ H s)(hfp:∀ b∈fp,fN X a0V H b)(hob:∀ b∈fp,∃ o,s.heap.get? b=some o){m:Str->Option Qg}
  (hns:h₁.Ns s.heap.objs.size m)(hk:∀ b o,s.heap.get? b=some o->h₁.get? b=some o) :
  Inv (cB X scope cl s.heap.objs.size (bC xs X.N++xs) s H fp) [] (σ++SR xs.length none) H { s with heap:=h₁,toks:=tk }:=by
 refine ⟨⟨I.ok.mod,O.kind,I.ok.glob,I.ok.blt,Qq _,fun y z c h1 h2=>?_,fun y hy=>?_,(fun y c h=>by cases h),I.ok.hd,I.ok.frames,.inl rfl,fun b hb=>?_,fun b o e=>I.bs b o e,Sb I.ok.bsz I.sz,fun b o e hb=>?_,fun b hb hb2=>?_,I.stack,I.stkFree⟩,
  rfl,I.bare,Un.kept hk,⟨m,hns,fun i y v h1 h2 h3=>?_⟩,fun y c h=>?_,I.hok.fresh (Qq _),fun y c h=>I.freeC y c (O.sub y c h),fun p hp=>absurd (show p∈([]:List (Addr×SD)) from hp) (by simp),I.hok.kept hk,?_⟩
 ·exact I.ok.inj y z c (O.sub y c h1) (O.sub z c h2)
 ·exact (O.free y (O.outer hy)).2
 ·obtain ⟨f0,f1,f2,f3,f4,f5⟩:=hfp b hb
  obtain ⟨o,ho⟩:=hob b hb
  exact ⟨Q7 (QD ho),fun y c h=>f4 y c (O.sub y c h)⟩
 ·obtain ⟨f0,f1,f2,f3,f4,f5⟩:=hfp b hb
  rcases f3 with f3|f3
  ·exact I.ok.noex b o e f3
  ·exact absurd (Rc (QD (I.ok.bs b o e).1) f3) (TF _)
 ·obtain ⟨f0,f1,f2,f3,f4,f5⟩:=hfp b hb
  rcases Q9.mp (I.stkSub b hb2) with z|z
  ·exact f1 z
  ·exact f2 z
 ·have hi:i<σ.length:=by
   by_cases hi:i<σ.length
   ·exact hi
   ·rw [QM (TB.mp hi),Tt] at h2
    split at h2<;>cases h2
  rw [QC hi] at h2
  have h0':(bC xs X.N)[i]? = some y:=by
   have h1'':(bC xs X.N++xs)[i]? = some y:=h1
   rw [QC (by rw [kI,<- I.len];exact hi)] at h1''
   exact h1''
  have notown:scope.names.lookup y≠some .local:=fun z=>O.own y z (Q2 h0')
  have hk':=O.kindOf s.heap.objs.size y
  have h1':X.N[i]? = some y:=by
   obtain ⟨y0,q1,q2⟩:=IX h0'
   rcases q2 with ⟨q2,q3⟩|⟨q2,q3⟩
   ·exfalso
    have hz:=O.hidn y0 (Q2 q1) q2
    rw [<- q3] at hz
    rw [hz] at hk'
    have h3':(UI scope cl s.heap.objs.size X.env).kindOf y=some .local\/(UI scope cl s.heap.objs.size X.env).kindOf y=some .cell\/(UI scope cl s.heap.objs.size X.env).kindOf y=some .free:=h3
    rw [hk'] at h3'
    rcases h3' with h3'|h3'|h3'<;>cases h3'
   ·rw [q3];exact q1
  have h3':(UI scope cl s.heap.objs.size X.env).kindOf y=some .cell\/(UI scope cl s.heap.objs.size X.env).kindOf y=some .free:=by
   rcases h3 with h3|h3|h3
   ·exfalso
    have h3':(UI scope cl s.heap.objs.size X.env).kindOf y=some .local:=h3
    rw [hk'] at h3'
    cases q:scope.names.lookup y with
    | none=>rw [q] at h3';cases h3'
    | some k=>
     rw [q] at h3'
     cases k with
     | «local»=>exact notown q
     | cell=>simp at h3'
     | free=>
      simp only [Rk] at h3'
      split at h3'<;>cases h3'
     | globalExplicit=>simp at h3'
     | globalImplicit=>simp at h3'
   ·exact .inl h3
   ·exact .inr h3
  obtain ⟨hf,c,hc⟩:=O.free y (O.outer h3')
  obtain ⟨m0,hn0,hl0⟩:=I.loc
  obtain ⟨u,r,l⟩:=hl0 i y v h1' h2 (by rcases hf with hf|hf;exact .inr (.inl hf);exact .inr (.inr hf))
  refine ⟨u,r,.inr ⟨h3',c,hc,?_⟩⟩
  rcases l with ⟨lk,_⟩|⟨_,c',e',z⟩
  ·exfalso
   rcases hf with hf|hf
   ·rw [hf] at lk;cases lk
   ·rw [hf] at lk;cases lk
  ·rw [O.sub y c hc] at e'
   cases e'
   obtain ⟨o,ho,hd⟩:=z
   exact ⟨o,hk c o ho,hd⟩
 ·obtain ⟨v,q⟩:=I.cell y c (O.sub y c h)
  exact ⟨v,by obtain ⟨o,ho,hd⟩:=q;exact ⟨o,hk c o ho,hd⟩⟩
 ·show (σ++SR xs.length none).length=(bC xs X.N++xs).length
  rw [Qx,Qx,I.len,Ta,kI]
theorem CompOk.back {a0V pl:List (Addr×SD)}{σ σ':St}{H H':Hp}{s s1:Qj}{fp:List Addr}{h':RG}{N:List Str}(I:Inv X a0V σ H s)(hfp:∀ b∈fp,fN X a0V H b)
  (J:Inv (cB X scope cl s.heap.objs.size N s H fp) pl σ' H' s1)(hs:∀ b o,b≠s.heap.objs.size->s1.heap.get? b=some o->h'.get? b=some o):Inv X a0V σ H' { s1 with heap:=h' }:=by
 have u:Un (eZ X.stack) fp H H' s.heap h':=by
  have u0:Un (eZ X.stack) fp H H' s.heap s1.heap:=J.base
  have ne:∀ b o,s.heap.get? b=some o->b≠s.heap.objs.size:=fun b o e=>Q7 (QD e)
  refine ⟨fun b o e n hb hx=>hs b o (ne b o e) (u0.keep b o e n hb hx),fun b o e n hb hx=>?_,u0.free,fun b o e hx=>?_,u0.tups,u0.frzs,u0.tbls⟩
  ·obtain ⟨sl,q⟩:=u0.slot b o e n hb hx
   exact ⟨sl,hs b _ (ne b o e) q⟩
  ·obtain ⟨o',q⟩:=u0.there b o e hx
   exact ⟨o',hs b _ (ne b o e) q⟩
 have hfree:H' s.heap.objs.size=none:=J.free
 have hok:HOk X.prog X.w H' h':=fun b v e=>by
  refine (J.hok b v e).stay (fun c w hc q=>hs c w ?_ q) (fun _ q=>q) fun _ _ q=>q
  rcases hc with z|z
  ·rw [z]
   intro z2
   rw [z2,hfree] at e
   cases e
  ·intro z2
   rw [z2,hfree] at z
   cases z
 have hos:s1.os=s.os:=J.os
 obtain ⟨hh,g,d,t,os'⟩:=s1
 obtain rfl:os'=s.os:=hos
 have r:=Inv.call (X:=X) (a0V:=a0V) (σ:=σ) (H:=H) (s:=s) (h':=h') (g':=g) (d':=d) (t':=t) (ch:=fp) I u hok J.bare fun b hb=>let ⟨f0,f1,f2,f3,f4,f5⟩:=hfp b hb;⟨f3,f1,f4,f5⟩
 exact r
end
theorem IY {prog:QR}{w:Rg}{A:Q0}{R:YE->Qj->Prop}{s:Qj}{elt target iter:Qr}{ifs:List Qr}{scope:Tz}{pos:SE}{it acc:Qg}{env:Wg}(I:Nat->Qj->Prop)
  (turn:∀ n s,I n s->QV (QX prog w) A (Vu it) (fun r s₁=>match r with
   | none=>R (.ok .next) s₁
   | some v=>QV (QX prog w) A (VU target it v) (fun _ s₁'=>QV (QX prog w) A (Wx target env v) (fun _ s₂=>
     QV (QX prog w) A (forIn ifs true fun c r=>if r=true then do let ok <- Yy c env (eval c env);pure (T2 ok) else pure (T2 r)) (fun ok s₃=>
      if ok=true then QV (QX prog w) A (eval elt env) (fun x s₄=>
       QV (QX prog w) A (call (.builtin "list.append") [acc,x]) (fun _ s₅=>∃ m,m<n/\I m s₅) (fun _ _=>False) s₄) (fun _ _=>False) s₃
      else ∃ m,m<n/\I m s₃) (fun _ _=>False) s₂) (fun _ _=>False) s₁') (fun _ _=>False) s₁) (fun _ _=>False) s)
  (n:Nat)(h:I n s) :
  Vs (QX prog w) A (.compLoop (.ListComp elt [⟨target,iter,ifs,0⟩] scope pos) 0 it acc env) R s:=by
 refine codeAny_loop rfl I (fun n s hI=>?_) n h
 show QV _ A ((compTurn (.ListComp elt [⟨target,iter,ifs,0⟩] scope pos) 0 it acc env).onRaise (fun x=>do noteFrame x env;theTreesLotGoes x)) _ _ s
 refine wpAny_noted ?_
 rw [compTurn_list]
 refine Qh (X1 (Qh (Rv (turn n s hI) (fun r s₁ h₁=>?_) fun _ _ h'=>h'.elim)))
 cases r with
 | none=>exact Qt h₁
 | some v=>
  refine Qh (Rv h₁ (fun _ s₁' h₁'=>?_) fun _ _ h'=>h'.elim)
  refine Qh (Rv h₁' (fun _ s₂ h₂=>Qh (Rv h₂ (fun ok s₃ h₃=>?_) fun _ _ h'=>h'.elim)) fun _ _ h'=>h'.elim)
  cases ok with
  | false=>exact Qt ⟨rfl,h₃⟩
  | true=>
   exact Qh (Qh (Rv h₃ (fun x s₄ h₄=>Qh (Rv h₄ (fun _ s₅ h₅=>Qt (Qt ⟨rfl,h₅⟩)) fun _ _ h'=>h'.elim)) fun _ _ h'=>h'.elim))
noncomputable def lU (μ:Hm)(a:Nat)(y:D):Option Hm:=match μ[a]? with
 | some (.lst xs)=>if xs.length<Qs then some (μ.set a (.lst (xs++[y]))) else none
 | _=>none
noncomputable abbrev BD:=D->Hm->Option aK
noncomputable def nV:BD:=fun d _=>some [some d]
noncomputable def A0 (k:Nat):BD:=fun d μ=>(bN μ d).bind fun xs=>if xs.length=k then some (xs.map some) else none
noncomputable def iR (src:Hm->Nat->Option (Option D))(bd:BD)(c:MT)(e:ME)(ρ:aK)(a0:Nat):Nat->Nat->Hm->Option Hm
 | 0,_,_=>none
 | n+1,i,μ=>(src μ i).bind fun o=>match o with
  | none=>some μ
  | some d=>(bd d μ).bind fun x=>(c (ρ++x) μ).bind fun p=>match p.1 with
   | true=>(e (ρ++x) p.2).bind fun q=>(lU q.2 a0 q.1).bind fun μ3=>iR src bd c e ρ a0 n (i+1) μ3
   | false=>iR src bd c e ρ a0 n (i+1) p.2
noncomputable def dP:MT:=fun _ μ=>some (true,μ)
noncomputable def lV (X:Cx)(ifs:List Qr)(m:MT):Prop:=
 ∀ (a0V:List (Addr×SD))(s:Qj)(σ:St)(H:Hp)(Q:Bool->Hp->Prop),Inv X a0V σ H s->cF X.K m σ H Q->
  QV (QX X.prog X.w) X.A (forIn ifs true fun c r=>if r=true then do let ok <- Yy c X.env (eval c X.env);pure (T2 ok) else pure (T2 r)) (TP X a0V σ Q) X.xe s
theorem IZ {X:Cx}:lV X [] dP:=by
 intro a0V s σ H Q I h
 obtain ⟨π,ρ,μ,b,μ',R,E,hm,k⟩:=h
 cases hm
 exact wpAny_tests_nil ⟨H,I,k π H .refl R⟩
theorem Ja {X:Cx}{c:Qr}{m:MT}(h:PT X c (cF X.K m)):lV X [c] m:=fun a0V s σ H Q I q=>wpAny_tests_one (h a0V s σ H Q I q)
end L3
namespace L3
open PySem L2
section
variable {prog:QR}{w:Rg}{A:Q0}{E:Qg->Qj->Prop}{s:Qj}
theorem A1 {it t:Addr}{items:Array Qg}(hne:t≠it):∀ (n i:Nat)(s:Qj)(Q:List Qg->Qj->Prop),s.heap.IsListIter it t i->s.heap.IsList t items->i+n<=items.size->
  (∀ h',h'.IsListIter it t (i+n)->Um it s.heap h'->Q ((items.toList.drop i).take n) { s with heap:=h' })->QV (QX prog w) A (draw (.ref it) n) Q E s
 | 0,i,s,Q,hit,_,_,hQ=>by
  show QV _ _ (pure []) Q E s
  exact Qt (by simpa using hQ s.heap hit (Xe ..))
 | n+1,i,s,Q,hit,ht,hle,hQ=>by
  have hlt:i<items.size:=by omega
  show QV _ _ (Vu (.ref it) >>= _) Q E s
  refine Qh (Yt hit ht (x:=items[i]) (by simp [hlt]) fun h₁ hit₁ hs₁=>?_)
  refine Qh (RH (A1 hne n (i+1) _ _ hit₁ (ht.extBut hs₁.extBut hne) (by omega) fun h₂ hit₂ hs₂=>Qt ?_))
  have hd:items.toList.drop i=items[i]::items.toList.drop (i+1):=by simp [SN,hlt]
  have:=hQ h₂ (by rw [show i+(n+1)=i+1+n by omega];exact hit₂) (hs₁.trans hs₂)
  rw [hd,VW] at this
  exact this
theorem Jb {t:Addr}{items:Array Qg}{Q:List Qg->Qj->Prop}(hh:A.handled=none)(ht:s.heap.IsList t items)
  (hQ:∀ h',WC s.heap.objs.size s.heap h'->Q items.toList { s with heap:=h' }):QV (QX prog w) A (unpackItems (.ref t) items.size none) Q E s:=by
 have hlt:t≠s.heap.objs.size:=by obtain ⟨o,ho,_⟩:=ht;exact Q7 (QD ho)
 unfold unpackItems
 refine Qh ?_
 ·unfold notIterableAtAll
  refine Qh (Z9 ht.typeIs slot_list_iter.lookup ?_)
  refine Qt ?_
  simp only [Qp,if_false]
  refine Qh (RH (ZI ht ?_))
  refine Qh (RH (A1 hlt items.size 0 _ _ ⟨_,QY _ rfl,rfl,rfl⟩ (ht.push _) (by omega) fun h₁ hit₁ hs₁=>?_))
  have hall:List.take items.size (List.drop 0 items.toList)=items.toList:=by
   rw [S8];exact SG (by simp)
  rw [hall]
  rw [if_neg (by simp)]
  have ht₁:h₁.IsList t items:=(ht.push _).extBut hs₁.extBut hlt
  refine Qh (RH (YS hh hit₁ ht₁ (by simp) fun h₂ he₂=>?_))
  simp only [XY,Qp,if_false]
  refine Qt (hQ h₂ fun b o hb e=>he₂ b o hb (hs₁.extBut b o hb (Qo _ e)))
theorem Jc {env:Wg}{elts:List Qr} {x1} {pos:SE}{t:Addr}{items:Array Qg}{Q:Unit->Qj->Prop}(hh:A.handled=none)(ht:s.heap.IsList t items)
  (hn:(S4 elts env).length=items.size)(hstar:(S4 elts env).findIdx? (·.1)=none)
  (h:∀ h',WC s.heap.objs.size s.heap h'->QV (QX prog w) A (assignInOrder ((S4 elts env).map (·.2)) items.toList) Q E { s with heap:=h' }) :
  QV (QX prog w) A (Wx (.Tuple elts x1 pos) env (.ref t)) Q E s:=by
 rw [a0w]
 refine Qh (X1 ?_)
 unfold unpack
 rw [hn,hstar]
 exact Qh (RH (Jb hh ht h))
end
noncomputable def kJ:aK->List Nat->List D->aK
 | ρ,i::is,x::xs=>kJ (ρ.set i (some x)) is xs
 | ρ,_,_=>ρ
noncomputable def lW (is:List Nat):MG:=fun d ρ μ=>(bN μ d).bind fun xs=>if xs.length=is.length then some (kJ ρ is xs) else none
noncomputable def pZ:List Nat->lG
 | []=>zB
 | i::r=>zC (sS i) (pZ r)
theorem uI {K:Qf}{π:Nat->Addr}{n:Nat}{H:Hp}:∀ (is:List Nat){vs:List V}{xs:List D}{σ:St}{ρ:aK}{Q:St->Hp->Prop},IsDs K π n H vs xs->En K π n H σ ρ->xs.length=is.length->(∀ σ',En K π n H σ' (kJ ρ is xs)->Q σ' H)->pZ is vs σ H Q
 | [],vs,xs,σ,ρ,Q,h,E,hl,k=>by
  cases h with
  | nil=>exact ⟨rfl,k σ E⟩
  | cons h t=>cases hl
 | i::is,vs,xs,σ,ρ,Q,h,E,hl,k=>by
  cases h with
  | nil=>cases hl
  | cons h t=>exact ⟨_,_,rfl,uI is t (E.set h i) (by simpa using hl) k⟩
section
variable {X:Cx}{pos:SE}
theorem Jd {es:List Qr}{k:Nat}{is:List Nat}(hc:X.calm=true)(h:nJ X es (pZ is))(hn:(S4 es X.env).length=is.length:=by rfl)(hst:(S4 es X.env).findIdx? (·.1)=none:=by rfl) :
  PG X (.Tuple es k pos) (eK X.K (lW is)):=by
 intro a0V s σ H v u Q I r hw
 obtain ⟨π,ρ,μ,d,ρ',R,E,hd,hm,kk⟩:=hw
 obtain ⟨xs,h1,h2⟩:=Qe.mp hm
 split at h2
 ·rename_i hl
  cases h2
  have both:(∃ a vs,v=.ref a/\SqT X.K H a vs/\IsDs X.K π μ.length H vs xs)\/(∃ a vs,v=.ref a/\SqL X.K H a vs/\IsDs X.K π μ.length H vs xs):=by
   cases hd with
   | tup q t=>cases h1;exact .inl ⟨_,_,rfl,q,t⟩
   | rol q t=>cases h1;exact .inr ⟨_,_,rfl,q.sq,t⟩
   | @loc a ha=>
    simp only [bN] at h1
    split at h1
    ·rename_i ys hy
     cases h1
     obtain ⟨vs,h3,h4⟩:=R.lst a xs hy
     exact .inr ⟨_,vs,rfl,.of h3,h4⟩
    ·cases h1
   | _=>cases h1
  rcases both with ⟨a,vs,rfl,q,t⟩|⟨a,vs,rfl,q,t⟩
  ·cases r
   obtain ⟨its,rv,ht,hz⟩:=I.tuple q
   have hlen:its.length=is.length:=by rw [<- rv.length,t.length];exact hl
   refine a0v (I.ok.hd hc) ht (by simp [hn,hlen]) hst fun h' hx=>?_
   have I1:Inv X a0V σ H { s with heap:=h' }:=I.kept (t':=s.toks) fun b o e=>hx b o (Q7 (QD e)) e
   exact h a0V _ σ H vs _ Q I1 (by simpa using rv) (uI is t E hl kk)
  ·cases r
   obtain ⟨its,rv,ht,hz⟩:=I.list q
   have hlen:its.length=is.length:=by rw [<- rv.length,t.length];exact hl
   refine Jc (I.ok.hd hc) ht.isList (by simp [hn,hlen]) hst fun h' hx=>?_
   have I1:Inv X a0V σ H { s with heap:=h' }:=I.kept (t':=s.toks) fun b o e=>hx b o (Q7 (QD e)) e
   exact h a0V _ σ H vs _ Q I1 (by simpa using rv) (uI is t E hl kk)
 ·cases h2
noncomputable def uJ (m:ME)(g:MG):MS:=fun ρ μ=>(m ρ μ).bind fun p=>(g p.1 ρ p.2).map fun ρ'=>(.nx,ρ',p.2)
theorem Je {tg e:Qr}{m:ME}{g:MG}(he:PE X e (tM X.K m))(hg:PG X tg (eK X.K g))(hs:swapsWithSole [tg] e pos.line X.env=pure false:=by rfl)(hw:X3 [tg] e X.env=pure none:=by rfl)
  (h1:(S4 [tg] X.env).map (·.2)=[Wx tg X.env]:=by rfl):PS X (.Assign [tg] e pos) (cI X.K (uJ m g)):=fQ (FT he hg hs hw h1) (by
 rintro E σ H ⟨π,ρ,μ,fl,ρ',μ',R,EN,hm,k⟩
 obtain ⟨⟨x,μ1⟩,h1,hm⟩:=Qe.mp hm
 obtain ⟨ρ1,h2,hm⟩:=Qk.mp hm
 cases hm
 exact ⟨π,ρ,μ,x,μ1,R,EN,h1,fun π1 v1 H1 e1 R1 i1=>⟨π1,ρ,_,x,_,R1,EN.mono e1,i1,h2,fun σ' E'=>k π1 σ' H1 e1 R1 E'⟩⟩)
end
section
variable {X:Cx}{K:Qf}
noncomputable def nW:MF:=fun ds μ=>match ds with
 | [.str z]=>if z.length<=Qs then some (.int z.length,μ) else none
 | [x]=>(bN μ x).map fun xs=>(.int xs.length,μ)
 | _=>none
noncomputable def uK (K:Qf):List V->Hp->VK->Prop:=fun xs H Q=>(∃ p ys,xs=[.ref p]/\(SqL K H p ys\/SqT K H p ys)/\Q (.int ys.length) H)\/(∃ z,xs=[.str z]/\z.length<=Qs/\Q (.int z.length) H)
theorem call_lenM:CallR X (.builtin "len") (uK X.K):=call_len_seq.or Hf
theorem qA {π:Nat->Addr}{μ:Hm}{H:Hp}{v:V}{x:D}{xs:List D}(R:Rp K π H μ)(h:IsD K π μ.length H v x)(e:bN μ x=some xs):∃ p vs,v=.ref p/\(SqL K H p vs\/SqT K H p vs)/\IsDs K π μ.length H vs xs:=by
 cases h with
 | tup q t=>cases e;exact ⟨_,_,rfl,.inr q,t⟩
 | rol q t=>cases e;exact ⟨_,_,rfl,.inl q.sq,t⟩
 | @loc a ha=>
  simp only [bN] at e
  split at e
  ·rename_i ys hy
   cases e
   obtain ⟨vs,h3,h4⟩:=R.lst a xs hy
   exact ⟨_,vs,rfl,.inl (.of h3),h4⟩
  ·cases e
 | _=>cases e
theorem A2:dO K nW (uK K):=by
 intro π H μ xs d μ' vs Q R i hm k
 unfold nW at hm
 split at hm
 ·split at hm
  ·rename_i hl
   cases hm
   cases i with
   | cons i t=>cases i;cases t;exact .inr ⟨_,rfl,hl,k π _ H .refl R (.int _)⟩
  ·cases hm
 ·obtain ⟨ys,h1,h2⟩:=Qk.mp hm
  cases h2
  cases i with
  | cons i t=>
   cases t
   obtain ⟨p,ws,rfl,q,hd⟩:=qA R i h1
   refine .inl ⟨p,ws,rfl,q,?_⟩
   rw [hd.length]
   exact k π _ H .refl R (.int _)
 ·cases hm
noncomputable def A3 (K:Qf):List V->Hp->VK->Prop:=fun vs H Q=>∃ π μ x v t c b,vs=[v,.ty c]/\Rp K π H μ/\IsD K π μ.length H v x/\pX μ x=some t/\pY t c=some b/\Q (.bl b) H
theorem Jf:dO K cH (A3 K):=by
 intro π H μ xs d μ' vs Q R i hm k
 unfold cH at hm
 split at hm
 ·obtain ⟨t,h1,hm⟩:=Qe.mp hm
  obtain ⟨b,h2,hm⟩:=Qk.mp hm
  cases hm
  cases i with
  | cons i t1=>
   cases t1 with
   | cons i2 t2=>
    cases t2
    cases i2
    exact ⟨π,_,_,_,t,_,b,rfl,R,i,h1,h2,k π _ H .refl R (.bl _)⟩
 ·cases hm
theorem Jg:CallR X (.builtin "isinstance") (A3 X.K):=by
 intro a0V s σ H xs us Q I r h
 obtain ⟨π,μ,x,v,t,c,b,rfl,R,i,h1,h2,q⟩:=h
 obtain ⟨u,u2,rfl,r1,r2⟩:=Gn r
 cases r2
 have fin:∀ tk,EP X a0V σ Q (.bool b) { s with toks:=tk }:=fun tk=>⟨.bl b,H,I.tok tk,rfl,q⟩
 cases i with
 | non=>cases h1;cases r1;exact SU PySem.W.kitx_none I.kIn SW (iP X.K (by simp) h2) (fun z=>nomatch z) fin
 | bl y=>cases h1;cases r1;exact SU PySem.W.kitx_bool I.kIn SW (iP X.K (by simp) h2) (fun z=>nomatch z) fin
 | int y=>cases h1;obtain ⟨t,rfl⟩:=r1;exact SU PySem.W.kitx_int I.kIn SW (iP X.K (by simp) h2) (fun z=>nomatch z) fin
 | str y=>cases h1;obtain ⟨t,rfl⟩:=r1;exact SU PySem.W.kitx_str I.kIn SW (iP X.K (by simp) h2) (fun z=>nomatch z) fin
 | tup g t=>
  cases h1
  cases r1
  obtain ⟨its,r',p,_⟩:=I.tuple g
  obtain ⟨o,e1,e2,_⟩:=p
  exact SU PySem.W.kitx_tuple I.kIn ⟨o,e1,e2⟩ (iP X.K (by simp) h2) (fun z=>nomatch z) fin
 | rol g t=>
  cases h1
  cases r1
  obtain ⟨its,r',p,_⟩:=I.list g.sq
  obtain ⟨o,e1,e2,_⟩:=p.isList
  exact SU XT I.kIn ⟨o,e1,e2⟩ (iP X.K (by simp) h2) (fun z=>nomatch z) fin
 | @loc a ha=>
  cases r1
  simp only [pX] at h1
  split at h1
  ·rename_i xs hx
   cases h1
   obtain ⟨vs,h3,h4⟩:=R.lst a xs hx
   obtain ⟨its,r',p,_⟩:=I.list (SqL.of (K:=X.K) h3)
   obtain ⟨o,e1,e2,_⟩:=p.isList
   exact SU XT I.kIn ⟨o,e1,e2⟩ (iP X.K (by simp) h2) (fun z=>nomatch z) fin
  ·rename_i kvs hx
   cases h1
   obtain ⟨vs,h3,_⟩:=R.dK a kvs hx
   obtain ⟨_,_,ws,_,p⟩:=(show ObjOk X.prog X.w H s.heap (π a) (.dK vs) from I.hok _ _ h3)
   obtain ⟨o,es,ep,e1,e2,_⟩:=p
   exact SU XU I.kIn ⟨o,e1,e2.1⟩ (iP X.K (by simp) h2) (fun z=>nomatch z) fin
  ·rename_i kvs hx
   cases h1
   obtain ⟨vs,h3,_⟩:=R.dT a kvs hx
   obtain ⟨⟨ws,_,_,_,o,es,ep,e1,e2,_⟩,_⟩:=(show ObjOk X.prog X.w H s.heap (π a) (aP (π a) vs) from I.hok _ _ h3)
   exact SU XU I.kIn ⟨o,e1,e2.1⟩ (iP X.K (by simp) h2) (fun z=>nomatch z) fin
  ·cases h1
 | ty n=>cases h1
end
noncomputable def iS:D->Option aF
 | .int i=>some (.inl i)
 | .str x=>some (.inr x)
 | _=>none
noncomputable def nX (kvs:List (aF×D))(k:aF)(d:D):List (aF×D):=
 if (kvs.any fun kv=>decide (kv.1=k))=true then kvs.map (fun kv=>if kv.1=k then (kv.1,d) else kv) else kvs++[(k,d)]
noncomputable def lX (kvs more:List (aF×D)):List (aF×D):=more.foldl (fun acc kv=>nX acc kv.1 kv.2) kvs
noncomputable def d9 (kvs:List (aF×D))(k:aF):Option D:=(kvs.find? fun kv=>decide (kv.1=k)).map (·.2)
inductive IsKs (K:Qf)(π:Nat->Addr)(n:Nat)(H:Hp):List (aF×V)->List (aF×D)->Prop where
 | nil:IsKs K π n H [] []
 | cons {k:aF}{v:V}{d:D}{vs:List (aF×V)}{ds:List (aF×D)}(h:IsD K π n H v d)(t:IsKs K π n H vs ds):IsKs K π n H ((k,v)::vs) ((k,d)::ds)
section
variable {K:Qf}{π π':Nat->Addr}{n n':Nat}{H H':Hp}
theorem IsKs.maps {vs:List (aF×V)}{ds:List (aF×D)}(h:IsKs K π n H vs ds):vs.map (·.1)=ds.map (·.1)/\IsDs K π n H (vs.map (·.2)) (ds.map (·.2)):=by
 induction h with
 | nil=>exact ⟨rfl,.nil⟩
 | cons h t ih=>exact ⟨by rw [Qz,Qz,ih.1],.cons h ih.2⟩
theorem IsKs.of:∀ {vs:List (aF×V)}{ds:List (aF×D)},vs.map (·.1)=ds.map (·.1)->IsDs K π n H (vs.map (·.2)) (ds.map (·.2))->IsKs K π n H vs ds
 | [],[],_,_=>.nil
 | [],_::_,h,_=>by cases h
 | _::_,[],h,_=>by cases h
 | (k,v)::vs,(k',d)::ds,h,t=>by
  rw [Qz,Qz] at h t
  injection h with h1 h2
  dsimp only at h1
  subst h1
  cases t with
  | cons t1 t2=>exact .cons t1 (IsKs.of h2 t2)
theorem IsKs.append {vs ws:List (aF×V)}{ds es:List (aF×D)}(h:IsKs K π n H vs ds)(h2:IsKs K π n H ws es):IsKs K π n H (vs++ws) (ds++es):=by
 induction h with
 | nil=>exact h2
 | cons h t ih=>exact .cons h ih
theorem IsKs.any {vs:List (aF×V)}{ds:List (aF×D)}(h:IsKs K π n H vs ds)(k:aF):(vs.any fun kv=>decide (kv.1=k))=ds.any fun kv=>decide (kv.1=k):=by
 induction h with
 | nil=>rfl
 | cons h t ih=>rw [UM,UM,ih]
theorem IsKs.repl {vs:List (aF×V)}{ds:List (aF×D)}(h:IsKs K π n H vs ds){v:V}{d:D}(hv:IsD K π n H v d)(k:aF):IsKs K π n H (vs.map fun kv=>if kv.1=k then (kv.1,v) else kv) (ds.map fun kv=>if kv.1=k then (kv.1,d) else kv):=by
 induction h with
 | nil=>exact .nil
 | @cons k' v' d' vs ds h t ih=>
  rw [Qz,Qz]
  by_cases e:k'=k
  ·simp only [e,if_true]
   exact .cons hv ih
  ·simp only [e,if_false]
   exact .cons h ih
theorem IsKs.put {vs:List (aF×V)}{ds:List (aF×D)}(h:IsKs K π n H vs ds){v:V}{d:D}(hv:IsD K π n H v d)(k:aF):IsKs K π n H (cZ vs k v) (nX ds k d):=by
 unfold cZ nX
 rw [h.any k]
 split
 ·exact h.repl hv k
 ·exact h.append (.cons hv .nil)
theorem IsKs.merge {ws:List (aF×V)}{es:List (aF×D)}(h2:IsKs K π n H ws es):∀ {vs:List (aF×V)}{ds:List (aF×D)},IsKs K π n H vs ds->IsKs K π n H (j9 vs ws) (lX ds es):=by
 induction h2 with
 | nil=>exact fun h=>h
 | cons h t ih=>exact fun h3=>ih (h3.put h _)
theorem IsKs.val {vs:List (aF×V)}{ds:List (aF×D)}(h:IsKs K π n H vs ds)(k:aF):(d9 ds k=none/\c9 vs k=none)\/∃ v d,d9 ds k=some d/\c9 vs k=some v/\IsD K π n H v d:=by
 induction h with
 | nil=>exact .inl ⟨rfl,rfl⟩
 | @cons k' v' d' vs ds h t ih=>
  by_cases e:k'=k
  ·exact .inr ⟨v',d',by simp [d9,RI,e],by simp [c9,RI,e],h⟩
  ·have e1:d9 ((k',d')::ds) k=d9 ds k:=by simp [d9,RI,e]
   have e2:c9 ((k',v')::vs) k=c9 vs k:=by simp [c9,RI,e]
   rw [e1,e2]
   exact ih
theorem IsKs.length {vs:List (aF×V)}{ds:List (aF×D)}(h:IsKs K π n H vs ds):vs.length=ds.length:=by
 induction h with
 | nil=>rfl
 | cons h t ih=>rw [QU,QU,ih]
theorem uL {y:V}{d:D}{k:aF}(h:IsD K π n H y d)(e:iS d=some k):y=kV k:=by
 cases h<;>first|cases e;done|(cases e;rfl)
end
noncomputable def kK:List (ME×ME)->aK->Hm->Option (List (aF×D)×Hm)
 | [],_,μ=>some ([],μ)
 | (k,v)::r,ρ,μ=>(k ρ μ).bind fun p=>(v ρ p.2).bind fun q=>(iS p.1).bind fun kk=>(kK r ρ q.2).map fun t=>((kk,q.1)::t.1,t.2)
noncomputable def iT (prs:List (ME×ME)):ME:=fun ρ μ=>(kK prs ρ (μ++[.dK []])).bind fun p=>match p.2[μ.length]? with
 | some (.dK [])=>if p.1.length<=15 then some (.loc μ.length,p.2.set μ.length (.dK (lX [] p.1))) else none
 | _=>none
noncomputable def lY (K:Qf)(prs:List (ME×ME)):List (TE×TE):=prs.map fun p=>(tM K p.1,tM K p.2)
theorem A4 {K:Qf}:∀ (prs:List (ME×ME)){π:Nat->Addr}{ρ:aK}{μ μ':Hm}{H:Hp}{σ:St}{kvs:List (aF×D)}{Q:List (V×V)->Hp->Prop},Rp K π H μ->En K π μ.length H σ ρ->kK prs ρ μ=some (kvs,μ')->
  (∀ π' H' vs,Ext π μ.length H π' μ'.length H'->Rp K π' H' μ'->IsKs K π' μ'.length H' vs kvs->Q (vs.map fun kv=>(kV kv.1,kv.2)) H')->pO (lY K prs) σ H Q
 | [],π,ρ,μ,μ',H,σ,kvs,Q,R,E,hm,k=>by
  cases hm
  exact k π H [] .refl R .nil
 | (mk,mv)::r,π,ρ,μ,μ',H,σ,kvs,Q,R,E,hm,k=>by
  obtain ⟨⟨x,μ1⟩,h1,hm⟩:=Qe.mp hm
  obtain ⟨⟨y,μ2⟩,h2,hm⟩:=Qe.mp hm
  obtain ⟨kk,h3,hm⟩:=Qe.mp hm
  obtain ⟨⟨ts,μ3⟩,h4,hm⟩:=Qk.mp hm
  cases hm
  refine ⟨π,ρ,μ,x,μ1,R,E,h1,fun π1 v1 H1 e1 R1 i1=>⟨π1,ρ,μ1,y,μ2,R1,E.mono e1,h2,fun π2 v2 H2 e2 R2 i2=>?_⟩⟩
  refine A4 r R2 ((E.mono e1).mono e2) h4 fun π3 H3 vs e3 R3 i3=>?_
  have:=uL i1 h3
  subst this
  exact k π3 H3 ((kk,v2)::vs) ((e1.trans e2).trans e3) R3 (.cons (i2.mono e3) i3)
section
variable {X:Cx}{a b c:Qr}{ma mb mc:ME}{pos:SE}
theorem Jh:iH X pos [] [] (lY X.K []):=GQ
theorem Ji {k v:Qr}{mk mv:ME}{ks:List (Option Qr)}{vs:List Qr}{prs:List (ME×ME)}(hk:PE X k (tM X.K mk))(hv:PE X v (tM X.K mv))(hr:iH X pos ks vs (lY X.K prs)):iH X pos (some k::ks) (v::vs) (lY X.K ((mk,mv)::prs)):=GR hk hv hr
theorem Jj {keys:List (Option Qr)}{values:List Qr}{prs:List (ME×ME)}(h:iH X pos keys values (lY X.K prs))(hall:keys.all (·.isSome)=true)(hl:keys.length=values.length)(h0:keys≠[])
  (h15:keys.length<=15):PE X (.Dict keys values pos) (tM X.K (iT prs)):=b9 (GU h hall hl h0 h15) (by
 rintro σ H Q ⟨π,ρ,μ,d,μ',R,E,hm,k⟩ p hp
 obtain ⟨⟨kvs,μ1⟩,h1,hm⟩:=Qe.mp hm
 split at hm
 ·rename_i hc
  split at hm
  ·rename_i hlen
   cases hm
   obtain ⟨e1,R1,q1⟩:=R.alloc (c:=.dK []) (o:=.dK []) hp ⟨rfl,.nil⟩
   refine A4 prs R1 (E.mono e1) h1 fun π2 H2 vs e2 R2 i2=>?_
   have hlt:μ.length<μ1.length:=(Qi.mp hc).1
   have hpi:π2 μ.length=p:=by rw [e2.pi μ.length (by simp),q1]
   obtain ⟨ws,h3,h4,h5⟩:=R2.dK μ.length [] hc
   have hw:ws=[]:=by
    cases ws with
    | nil=>rfl
    | cons z zs=>cases h4
   subst hw
   obtain ⟨e3,R3⟩:=R2.put (a:=μ.length) (c:=.dK (lX [] kvs)) (o:=.dK (j9 [] vs)) hlt h3 (.inr (.inl ⟨_,rfl⟩)) (IsKs.maps (i2.merge .nil))
   rw [hpi] at h3 e3 R3
   refine ⟨h3,vs,rfl,by rw [i2.length];exact hlen,k π2 _ _ ((e1.trans e2).trans e3) R3 ?_⟩
   rw [<- hpi]
   exact .loc (by rw [RX];exact hlt)
  ·cases hm
 ·cases hm)
noncomputable def nY:D->D->Hm->Option (D×Hm)
 | .loc a,y,μ=>match μ[a]? with
  | some (.dK kvs)=>(iS y).bind fun k=>(d9 kvs k).map fun d=>(d,μ)
  | _=>none
 | _,_,_=>none
theorem Jk {K:Qf}{π:Nat->Addr}{μ:Hm}{H:Hp}{a:Nat}{kvs:List (aF×D)}(R:Rp K π H μ)(h:μ[a]? = some (.dK kvs)){y:V}{dy:D}{k:aF}(hy:IsD K π μ.length H y dy)(hk:iS dy=some k) :
  (d9 kvs k=none/\DGet H (π a) y none)\/∃ v d,d9 kvs k=some d/\DGet H (π a) y (some v)/\IsD K π μ.length H v d:=by
 obtain ⟨vs,h1,h2,h3⟩:=R.dK a kvs h
 have e:=uL hy hk
 subst e
 have g:=DGet.k (k:=k) h1
 rcases (IsKs.of h2 h3).val k with ⟨z1,z2⟩|⟨v,d,z1,z2,z3⟩
 ·exact .inl ⟨z1,by rw [<- z2];exact g⟩
 ·exact .inr ⟨v,d,z1,by rw [<- z2];exact g,z3⟩
theorem Jl (hu:X.A.units+1<Sf)(ha:PE X a (tM X.K ma))(hb:PE X b (tM X.K mb))(hs:pN b):PE X (.Subscript a b pos) (tM X.K (aB nY ma mb)):=b9 (GN hu ha hb hs) (by
 intro σ H Q h
 refine lM (r:=fun x y H Q=>∃ a v,x=.ref a/\DGet H a y (some v)/\Q v H) ?_ σ H Q h
 intro π H μ x y d μ' vx vy Q R ix iy hm k
 unfold nY at hm
 split at hm
 ·split at hm
  ·rename_i kvs hc
   obtain ⟨kk,h1,hm⟩:=Qe.mp hm
   obtain ⟨d',h2,hm⟩:=Qk.mp hm
   cases hm
   cases ix
   rcases Jk R hc iy h1 with ⟨z1,_⟩|⟨v,d2,z1,z2,z3⟩
   ·rw [z1] at h2;cases h2
   ·rw [z1] at h2
    cases h2
    exact ⟨_,v,rfl,z2,k π _ H .refl R z3⟩
  ·cases hm
 ·cases hm)
end
theorem eN {k:Nat}{A:Q0}(r:Room k A):A.units+1<Sf:=by have:=r.un;omega
noncomputable def nZ (ma:ME):ME:=fun ρ μ=>(ma ρ μ).bind fun p=>(uA p.1).map fun d=>(d,p.2)
end L3
namespace L3
open PySem L2
noncomputable def eA (cells:List (Str×Addr)):List (Str×Ts)->List (Str×Addr)->List (Str×Addr)
 | [],acc=>acc
 | (n,k)::r,acc=>if k=.free then (match cells.lookup n with|some c=>eA cells r ((n,c)::acc)|none=>eA cells r acc) else eA cells r acc
theorem A5 {env:Wg}:∀ (names:List (Str×Ts))(acc:List (Str×Addr)),(∀ y∈names,y.2=.free->∃ c,env.cells.lookup y.1=some c)->
  (forIn names acc fun (x:Str×Ts)(cs:List (Str×Addr))=>(do
   if x.2 == .free then (do let c <- cellOf env x.1;pure (T2 ((x.1,c)::cs))) else pure (T2 cs):YD (ForInStep (List (Str×Addr)))))=pure (eA env.cells names acc)
 | [],acc,_=>rfl
 | (n,k)::r,acc,h=>by
  have ih:=fun acc=>A5 r acc fun y hy=>h y (QH _ hy)
  rw [List.forIn_cons]
  by_cases hk:k=.free
  ·subst hk
   obtain ⟨c,hc⟩:=h (n,.free) (QN ..) rfl
   dsimp only at hc
   have e:cellOf env n=pure c:=by unfold cellOf;rw [hc]
   simp only [eA,hc,e,beq_self_eq_true,if_true,pure_bind]
   exact ih _
  ·have e:(k == S1)=false:=by simpa using hk
   simp only [eA,e,hk,if_false,Qp,pure_bind]
   exact ih _
theorem Jm {scope:Tz}{env:Wg}(h:∀ y∈scope.names,y.2=.free->∃ c,env.cells.lookup y.1=some c):Zx scope env=pure (eA env.cells scope.names []):=by
 have:=A5 (env:=env) scope.names [] h
 unfold Zx
 simp only [bind_pure] at *
 exact this
theorem qB {cells:List (Str×Addr)}:∀ (names:List (Str×Ts))(acc:List (Str×Addr)),(∀ y c,acc.lookup y=some c->cells.lookup y=some c)->∀ y c,(eA cells names acc).lookup y=some c->cells.lookup y=some c
 | [],acc,h=>h
 | (n,k)::r,acc,h=>by
  unfold eA
  split
  ·split
   ·rename_i c0 hc
    refine qB r _ fun y c e=>?_
    rw [UA] at e
    by_cases hy:y=n
    ·subst hy
     simp only [beq_self_eq_true] at e
     cases e
     exact hc
    ·have:(y == n)=false:=by simpa using hy
     rw [this] at e
     exact h y c e
   ·exact qB r acc h
  ·exact qB r acc h
theorem qC {cells:List (Str×Addr)}:∀ (names:List (Str×Ts))(acc:List (Str×Addr))(y:Str),(∃ c,acc.lookup y=some c)->∃ c,(eA cells names acc).lookup y=some c
 | [],acc,y,h=>h
 | (n,k)::r,acc,y,h=>by
  unfold eA
  split
  ·split
   ·refine qC r _ y ?_
    rw [UA]
    by_cases hy:(y == n)=true
    ·rw [hy];exact ⟨_,rfl⟩
    ·have:(y == n)=false:=by simpa using hy
     rw [this]
     exact h
   ·exact qC r acc y h
  ·exact qC r acc y h
theorem qD {cells:List (Str×Addr)}:∀ (names:List (Str×Ts))(acc:List (Str×Addr))(y:Str),(y,S1)∈names->(∃ c,cells.lookup y=some c)->∃ c,(eA cells names acc).lookup y=some c
 | [],acc,y,h,_=>by cases h
 | (n,k)::r,acc,y,h,hc=>by
  unfold eA
  rcases Q9.mp h with h|h
  ·cases h
   obtain ⟨c,hc⟩:=hc
   rw [if_pos rfl,hc]
   exact qC r _ _ ⟨c,by simp [UA]⟩
  ·split
   ·split
    ·exact qD r _ y h hc
    ·exact qD r _ y h hc
   ·exact qD r _ y h hc
structure CompSt (osc:Tz)(N:List Str)(scope:Tz)(xs:List Str):Prop where
 nocell:∀ y∈scope.names,y.2≠.cell
 kind:scope.kind=.function
 names:∀ y∈scope.names,y.2=.local->scope.names.lookup y.1=some .local
 here:∀ x∈xs,scope.names.lookup x=some .local
 free:∀ y∈scope.names,y.2=.free->osc.names.lookup y.1=some .cell\/osc.names.lookup y.1=some .free
 own:∀ y∈scope.names,y.2=.local->y.1∉bC xs N
 nd:N.Nodup
 hnd:(bC xs N).Nodup
 hidn:∀ y∈N,xs.contains y=true->scope.names.lookup (lS y)=none
theorem CompSt.ok {X:Cx}{scope:Tz}{xs:List Str}(S:CompSt X.env.scope X.N scope xs)(ok:X.Ok):CompOk X scope (eA X.env.cells scope.names []) xs:=by
 have has:∀ y∈scope.names,y.2=.free->∃ c,X.env.cells.lookup y.1=some c:=fun y hy hf=>ok.has y.1 (S.free y hy hf)
 refine ⟨Jm has,S.nocell,S.kind,S.names,S.here,qB scope.names [] (fun y c e=>by cases e),fun y e=>?_,fun y e=>?_,S.hidn⟩
 ·have hm:=RN e
  exact ⟨S.free _ hm rfl,qD scope.names [] y hm (has _ hm rfl)⟩
 ·exact S.own _ (RN e) rfl
end L3
namespace L3
open PySem L2
section
variable {X:Cx}{pos:SE}
end
end L3
namespace L3
open PySem L2
noncomputable def dC:Qr->Bool
 | .Starred ..=>false
 | _=>true
theorem fG {e:Qr}{es:List Qr}{env:Wg}(h:dC e=true):Rl (e::es) env=(false,eval e env)::Rl es env:=by
 cases e<;>first|rfl|cases h
theorem jF {pos:SE}{env:Wg}:∀ {es:List Qr},es.all dC=true->(Tx pos (Rl es env)).any (·.1)=false
 | [],_=>rfl
 | e::es,h=>by
  rw [RK,Qy] at h
  rw [fG h.1]
  have:=jF (pos:=pos) (env:=env) h.2
  simpa [Tx] using this
theorem qE {e:Qr}{es:List Qr}{env:Wg}(h:dC e=true):S4 (e::es) env=(false,Wx e env)::S4 es env:=by
 cases e<;>first|rfl|cases h
theorem A6 {env:Wg}:∀ {es:List Qr},es.all dC=true->(S4 es env).length=es.length
 | [],_=>rfl
 | e::es,h=>by
  rw [RK,Qy] at h
  rw [qE h.1,QU,QU,A6 h.2]
theorem A7 {env:Wg}:∀ {es:List Qr},es.all dC=true->(S4 es env).findIdx? (·.1)=none
 | [],_=>rfl
 | e::es,h=>by
  rw [RK,Qy] at h
  rw [qE h.1,List.findIdx?_cons,A7 h.2]
  rfl
section
variable {X:Cx}{e a b c:Qr}{es:List Qr}{m:ME}{ms:MA}{pos:SE}
end
end L3
namespace L3
open PySem L2
structure QE (X:Cx)(e:Qr)(m:ME):Prop where
 h:PE X e (tM X.K m)
structure QT (X:Cx)(e:Qr)(m:MT):Prop where
 h:PT X e (cF X.K m)
structure QW (X:Cx)(e:Qr)(m:MT):Prop where
 h:PW X e (cF X.K m)
structure QA (X:Cx)(es:List Qr)(m:MA)(n:Nat):Prop where
 h:PA X es (dM X.K m)
 l:∀ ρ μ ds μ',m ρ μ=some (ds,μ')->ds.length=n
 s:es.all dC=true
structure QO (X:Cx)(e:Option Qr)(m:MO):Prop where
 h:PO X e (nT X.K m)
structure QS (X:Cx)(st:Stmt)(m:MS):Prop where
 h:PS X st (cI X.K m)
structure QB (X:Cx)(st:List Stmt)(m:MS):Prop where
 h:PSs X st (cI X.K m)
structure QG (X:Cx)(e:Qr)(g:MG):Prop where
 h:PG X e (eK X.K g)
structure QGs (X:Cx)(es:List Qr)(is:List Nat):Prop where
 h:nJ X es (pZ is)
 n:es.length=is.length
 s:es.all dC=true
structure QI (X:Cx)(ifs:List Qr)(m:MT):Prop where
 h:lV X ifs m
structure QP (X:Cx)(pos:SE)(keys:List (Option Qr))(values:List Qr)(prs:List (ME×ME)):Prop where
 h:iH X pos keys values (lY X.K prs)
 a:keys.all (·.isSome)=true
 l:keys.length=values.length
section
variable {X:Cx}{e a b c:Qr}{m ma mb mc:ME}{pos:SE}{mt mu:MT}{rest es:List Qr}{ms:MA}{n:Nat}
theorem Jn {x:Str}(i:Nat)(hN:X.N[i]? = some x:=by rfl)(hv:nI X.env.scope x:=by first|exact YW rfl|exact XX (YW rfl)|exact XX (XX rfl))(hd:(x == ("__debug__":Str))=false:=by decide)
  (hcd:(x == ("__classdict__":Str))=false:=by decide):QE X (.Name x pos) (aA i):=⟨Hw i (EY hN hv hd hcd)⟩
theorem Jo {i:Int}{j:Nat}:QE X (.Constant (.int i) j pos) (mC (.int i)):=⟨Hx⟩
theorem Jp {i:Bool}{j:Nat}:QE X (.Constant (.bool i) j pos) (mC (.bl i)):=⟨Hy⟩
theorem Jq {i:Str}{j:Nat}:QE X (.Constant (.str i) j pos) (mC (.str i)):=⟨Hz⟩
theorem Jr {j:Nat}:QE X (.Constant .none j pos) (mC .non):=⟨HA⟩
theorem lZ {op:XE}{r:R2}{f:D->D->Hm->Option (D×Hm)}(ho:OpR X (T5 op) r)(hf:cG X.K f r)(ha:QE X a ma)(hb:QE X b mb):QE X (.BinOp a op b pos) (aB f ma mb):=⟨HB ho hf ha.h hb.h⟩
theorem Js (ha:QE X a ma)(hb:QE X b mb):QE X (.BinOp a .Add b pos) (aB cQ ma mb):=lZ IM IP ha hb
theorem Jt (ha:QE X a ma)(hb:QE X b mb):QE X (.BinOp a .Sub b pos) (aB nU ma mb):=lZ Ga IF ha hb
theorem Ju (ha:QE X a ma)(hb:QE X b mb):QE X (.BinOp a .Mult b pos) (aB b7 ma mb):=lZ IC IH ha hb
theorem Jv (ha:QE X a ma)(hb:QE X b mb):QE X (.BinOp a .FloorDiv b pos) (aB dX ma mb):=lZ ID II ha hb
theorem Jw (ha:QE X a ma)(hb:QE X b mb):QE X (.BinOp a .Mod b pos) (aB bK ma mb):=lZ Gb IJ ha hb
theorem Jx (ha:QE X a ma)(hb:QE X b mb):QE X (.BinOp a .Pow b pos) (aB t8 ma mb):=lZ IE IK ha hb
theorem Jy (ha:QE X a ma):QE X (.UnaryOp .USub a pos) (nZ ma):=⟨IQ ha.h⟩
theorem Jz (ha:QE X a ma):QE X (.UnaryOp .Not a pos) (kH ma):=⟨HL ha.h⟩
theorem JA {k:Nat}(hr:Room k X.A)(ha:QE X a ma)(hb:QE X b mb):QE X (.Compare a [.Eq] [b] pos) (aB (a9 false) ma mb):=⟨fA (AU (pW hr)) pV ha.h hb.h (eG _)⟩
theorem JB {k:Nat}(hr:Room k X.A)(ha:QE X a ma)(hb:QE X b mb):QE X (.Compare a [.NotEq] [b] pos) (aB (a9 true) ma mb):=⟨fA (AV (pW hr)) pV ha.h hb.h (eG _)⟩
theorem JC (ha:QE X a ma)(hb:QE X b mb):QE X (.Compare a [.Lt] [b] pos) (aB cK ma mb):=⟨fA sX fF ha.h hb.h (eG _)⟩
theorem JD (ha:QE X a ma)(hb:QE X b mb):QE X (.Compare a [.LtE] [b] pos) (aB lR ma mb):=⟨fA sY fF ha.h hb.h (eG _)⟩
theorem JE (ha:QE X a ma)(hb:QE X b mb):QE X (.Compare a [.Gt] [b] pos) (aB uE ma mb):=⟨fA sZ fF ha.h hb.h (eG _)⟩
theorem JF (ha:QE X a ma)(hb:QE X b mb):QE X (.Compare a [.GtE] [b] pos) (aB uF ma mb):=⟨fA tB fF ha.h hb.h (eG _)⟩
noncomputable def eB:Qr->Bool
 | .Set ..=>false
 | _=>true
theorem fH {op:UT}{b:Qr}(h:eB b=true):TV op b=false:=by
 cases b<;>first|rfl|cases h
theorem JG {op:BoolOp}(h:QE X a m):QE X (.BoolOp op [a] pos) m:=⟨HH h.h⟩
theorem JI (ha:QE X a ma)(hb:QE X (.BoolOp .And (b::rest) pos) mb):QE X (.BoolOp .And (a::b::rest) pos) (dB ma mb):=⟨HJ ha.h hb.h⟩
theorem JJ (ha:QE X a ma)(hb:QE X (.BoolOp .Or (b::rest) pos) mb):QE X (.BoolOp .Or (a::b::rest) pos) (tY ma mb):=⟨HK ha.h hb.h⟩
theorem JK (hc:QT X c mt)(ha:QE X a ma)(hb:QE X b mb):QE X (.IfExp c a b pos) (gD mt ma mb):=⟨HM hc.h ha.h hb.h⟩
theorem JL:QA X [] aD 0:=⟨HN,HU,rfl⟩
theorem JM (ha:QE X e m)(hr:QA X es ms n)(h:dC e=true:=by rfl):QA X (e::es) (aC m ms) (n+1):=⟨HP ha.h hr.h (fG h),HV hr.l,by rw [RK,h,hr.s];rfl⟩
theorem JN {x1:Nat}(h:QA X es ms n):QE X (.Tuple es x1 pos) (cT ms):=⟨HQ h.h⟩
theorem JO (h:QA X es ms n):QE X (.List es pos) (fC ms):=⟨HR h.h⟩
noncomputable def kL:Qr->Bool
 | .Slice ..=>false
 | _=>true
theorem uM {b:Qr}(h:kL b=true):tP b:=by
 intro o i
 cases b<;>first|rfl|cases h
theorem JP (ha:QE X a ma)(hb:QE X b mb)(h:kL b=true:=by rfl):QE X (.Subscript a b pos) (aB fD ma mb):=⟨Ia ha.h hb.h (uM h)⟩
theorem JQ {k:Nat}(hr:Room k X.A)(ha:QE X a ma)(hb:QE X b mb)(h:kL b=true:=by rfl):QE X (.Subscript a b pos) (aB nY ma mb):=⟨Jl (eN hr) ha.h hb.h (uM h)⟩
theorem JR:QO X none nS:=⟨Ib⟩
theorem JS (h:QE X e m):QO X (some e) (gG m):=⟨Ic h.h⟩
theorem JT {lo hi:Option Qr}{ml mh:MO}{p2:SE}(ha:QE X a ma)(hl:QO X lo ml)(hu:QO X hi mh):QE X (.Subscript a (.Slice lo hi none p2) pos) (gH ma ml mh):=⟨Ij ha.h hl.h hu.h⟩
theorem JU {k:Nat}{f:Addr}{fd:Th}{ps:List Str}{fm:MF}{x:Str}{p:SE}(F:FnOk X.prog X.w X.K X.mg X.base d6 k f fd ps (gC X.K n fm))(hr:Room k X.A)(hm:X.mg x=some (.ref f))
  (hk:SA X.K (.ref f)=true)(hb:Binds X.K fd ps [])(ha:QA X (e::es) ms n)(hg:Gl X x:=by rfl)(hdb:(x == ("__debug__":Str))=false:=by decide):QE X (.Call (.Name x p) (e::es) [] pos) (aI fm ms):=by
 have hs:=ha.s
 rw [RK,Qy] at hs
 exact ⟨HW F hr hg hm hk hb ha.h ha.l hdb (fG hs.1) (jF hs.2)⟩
theorem A8 {f:MF}{r:List V->Hp->VK->Prop}{id:String}{x:Str}{p:SE}(hc:CallR X (.builtin id) r)(hf:dO X.K f r)(hm:X.mg x=none)(hv:Ss x=some (.builtin id))(ha:QA X (e::es) ms n)
  (hg:Gl X x:=by rfl)(hn:x ≠ "__name__":=by decide) (hdb:(x == ("__debug__":Str))=false:=by decide):QE X (.Call (.Name x p) (e::es) [] pos) (aI f ms):=by
 have hs:=ha.s
 rw [RK,Qy] at hs
 exact ⟨HX hc hf hg hm hv ha.h hn hdb (fG hs.1) (jF hs.2)⟩
theorem JV {f:MF}{r:List V->Hp->VK->Prop}{T:String}{x:Str}{p:SE}(hc:CallR X (.type T) r)(hf:dO X.K f r)(hm:X.mg x=none)(hv:Ss x=some (.type T))(ha:QA X (e::es) ms n)
  (hg:Gl X x:=by rfl)(hn:x ≠ "__name__":=by decide) (hdb:(x == ("__debug__":Str))=false:=by decide):QE X (.Call (.Name x p) (e::es) [] pos) (aI f ms):=by
 have hs:=ha.s
 rw [RK,Qy] at hs
 exact ⟨HY hc hf hg hm hv ha.h hn hdb (fG hs.1) (jF hs.2)⟩
theorem JW {x:Str}{n:String}(hm:X.mg x=none)(hv:Ss x=some (.type n))(hg:Gl X x:=by rfl)(hn:x ≠ "__name__":=by decide) (hd:(x == ("__debug__":Str))=false:=by decide):QE X (.Name x pos) (mC (.ty n)):=⟨IS hg hm hv hn hd⟩
theorem JX:QP X pos [] [] []:=⟨Jh,rfl,rfl⟩
theorem JY {k v:Qr}{mk mv:ME}{ks:List (Option Qr)}{vs:List Qr}{prs:List (ME×ME)}(hk:QE X k mk)(hv:QE X v mv)(hr:QP X pos ks vs prs):QP X pos (some k::ks) (v::vs) ((mk,mv)::prs):=
 ⟨Ji hk.h hv.h hr.h,by rw [RK,hr.a];rfl,by rw [QU,QU,hr.l]⟩
theorem JZ {k:Option Qr}{keys:List (Option Qr)}{values:List Qr}{prs:List (ME×ME)}(h:QP X pos (k::keys) values prs)(h15:(k::keys).length<=15:=by decide):QE X (.Dict (k::keys) values pos) (iT prs):=⟨Jj h.h h.a h.l (by simp) h15⟩
theorem J0 {k:Nat}(hr:Room k X.A)(ha:QE X a ma)(hb:QE X b mb):QT X (.Compare a [.Eq] [b] pos) (aU (aB (a9 false) ma mb)):=⟨fB (AU (pW hr)) pV ha.h hb.h (eG _)⟩
theorem J1 {k:Nat}(hr:Room k X.A)(ha:QE X a ma)(hb:QE X b mb):QT X (.Compare a [.NotEq] [b] pos) (aU (aB (a9 true) ma mb)):=⟨fB (AV (pW hr)) pV ha.h hb.h (eG _)⟩
theorem J2 (ha:QE X a ma)(hb:QE X b mb):QT X (.Compare a [.Lt] [b] pos) (aU (aB cK ma mb)):=⟨fB sX fF ha.h hb.h (eG _)⟩
theorem J3 (ha:QE X a ma)(hb:QE X b mb):QT X (.Compare a [.LtE] [b] pos) (aU (aB lR ma mb)):=⟨fB sY fF ha.h hb.h (eG _)⟩
theorem J4 (ha:QE X a ma)(hb:QE X b mb):QT X (.Compare a [.Gt] [b] pos) (aU (aB uE ma mb)):=⟨fB sZ fF ha.h hb.h (eG _)⟩
theorem J5 (ha:QE X a ma)(hb:QE X b mb):QT X (.Compare a [.GtE] [b] pos) (aU (aB uF ma mb)):=⟨fB tB fF ha.h hb.h (eG _)⟩
noncomputable def uN:Qr->Bool
 | .UnaryOp .Not ..=>false
 | .BoolOp ..=>false
 | .IfExp ..=>false
 | .Compare ..=>false
 | _=>true
theorem J6 {e:Qr}{env:Wg}(h:uN e=true):∀ whole,Yy e env whole=(do let v <- whole;standAt e.pos;holding [v] (truthy v)):=by
 intro whole
 cases e<;>first|rfl|cases h|skip
 rename_i op x p
 cases op<;>first|rfl|cases h
theorem J7 (ha:QT X a mt):QT X (.UnaryOp .Not a pos) (cJ mt):=⟨HG ha.h⟩
theorem J8 (ha:QT X a mt):QW X (.BoolOp .And [a] pos) mt:=⟨HC ha.h⟩
theorem J9 (ha:QT X a mt):QW X (.BoolOp .Or [a] pos) mt:=⟨HD ha.h⟩
theorem Ka (ha:QT X a mt)(hb:QW X (.BoolOp .And (b::rest) pos) mu):QW X (.BoolOp .And (a::b::rest) pos) (dA mt mu):=⟨HE ha.h hb.h⟩
theorem Kb (ha:QT X a mt)(hb:QW X (.BoolOp .Or (b::rest) pos) mu):QW X (.BoolOp .Or (a::b::rest) pos) (dN mt mu):=⟨HF ha.h hb.h⟩
theorem Kc (h:QW X e mt):QT X e mt:=⟨h.h.pt⟩
theorem Kd:QI X [] dP:=⟨IZ⟩
theorem Ke (h:QT X c mt):QI X [c] mt:=⟨Ja h.h⟩
end
section
variable {X:Cx}{e a b c:Qr}{m:ME}{pos:SE}{mt:MT}{st:Stmt}{rest body orelse:List Stmt}{ms mr mu:MS}{n:Nat}{is:List Nat}{es:List Qr}{g:MG}
theorem Kf:QB X [] bJ:=⟨Ik⟩
theorem Kg (h1:QS X st ms)(h2:QB X rest mr):QB X (st::rest) (aS ms mr):=⟨Il h1.h h2.h⟩
theorem Kh (h1:QS X st ms):QB X [st] ms:=⟨Im h1.h⟩
theorem Ki:QS X (.Pass pos) bJ:=⟨Io⟩
theorem Kj (he:QE X e m):QS X (.Return (some e) pos) (aV m):=⟨Ip he.h⟩
noncomputable def gM:Qr->Bool
 | .ListComp ..=>false
 | .SetComp ..=>false
 | .DictComp ..=>false
 | _=>true
theorem n3 {e:Qr}{t:Option Qr}{n:Nat}{env:Wg}(h:gM e=true):Uv e t n env=pure false:=by
 cases e<;>first|rfl|cases h
theorem Kk (he:QE X e m)(h:gM e=true:=by rfl):QS X (.Expr e pos) (iM m):=⟨Iq he.h (n3 h)⟩
theorem Kl (hc:QT X c mt)(ha:QB X body ms)(hb:QB X orelse mu):QS X (.If c body orelse pos) (bO mt ms mu):=⟨Ir hc.h ha.h hb.h⟩
theorem Km (i:Nat){x:Str}{pos':SE}(hN:X.N.Nodup)(he:QE X e m)(h:gM e=true:=by rfl)(hi:X.N[i]? = some x:=by rfl)(hx:Loc X.env.scope x:=by first|exact YW rfl|exact XX rfl)
  (hf:X.fn x=true\/X.env.scope.names.lookup x=some .local:=by first|exact .inl rfl|exact .inr rfl):QS X (.Assign [.Name x pos'] e pos) (bF i m):=⟨AH hN hi hx he.h (n3 h) hf⟩
theorem Kn (i:Nat){x:Str}(hN:X.N.Nodup)(hi:X.N[i]? = some x:=by rfl)(hx:Loc X.env.scope x:=by first|exact YW rfl|exact XX rfl)
  (hf:X.fn x=true\/X.env.scope.names.lookup x=some .local:=by first|exact .inl rfl|exact .inr rfl):QG X (.Name x pos) (c3 i):=⟨AX hN hi hx hf⟩
theorem A9:QGs X [] []:=⟨FQ,rfl,rfl⟩
theorem Ba (i:Nat){x:Str}(hN:X.N.Nodup)(hr:QGs X es is)(hi:X.N[i]? = some x:=by rfl)(hx:Loc X.env.scope x:=by first|exact YW rfl|exact XX rfl)
  (hf:X.fn x=true\/X.env.scope.names.lookup x=some .local:=by first|exact .inl rfl|exact .inr rfl):QGs X (.Name x pos::es) (i::is):=
 ⟨FR (zA hN hi hx hf) hr.h (by rw [qE (e:=.Name x pos) rfl];rfl),by rw [QU,QU,hr.n],by rw [RK,hr.s];rfl⟩
theorem uO {k:Nat}(h:QGs X es is)(hc:X.calm=true:=by rfl):QG X (.Tuple es k pos) (lW is):=⟨Jd hc h.h ((A6 h.s).trans h.n) (A7 h.s)⟩
noncomputable def uP:Qr->Bool
 | .Tuple ..=>false
 | _=>true
theorem Ko {tg e:Qr}{env:Wg}(h:uP e=true):X3 [tg] e env=pure none:=by
 cases e<;>first|(cases tg<;>rfl)|cases h
theorem Kp {k:Nat}{pt:SE}(he:QE X e m)(hg:QG X (.Tuple es k pt) g)(h:uP e=true:=by rfl):QS X (.Assign [.Tuple es k pt] e pos) (uJ m g):=
 ⟨Je he.h hg.h (by cases e<;>rfl) (Ko h) (by rw [qE (e:=.Tuple es k pt) rfl];rfl)⟩
end
section
variable {P:QR}{w:Rg}{K:Qf}{mg:Str->Option Qg}{base:RG}
theorem Kq {x qual:Str}{st:Stmt}{f:Addr}{fd:Th}{N ps:List Str}{k:Nat}{body:List Stmt}{m:MS}(F:Fun K x qual st f fd)(S:FnScope N ps (bY st))(hps:ps.length<=N.length)(hbd:eI st=body)
  (hbody:∀ (cdv:Qg)(A:Q0)(outer:List Wg)(s:Qj)(H:Hp)(E:XK),Room k (A.deeper (WV qual (bY st) s.heap.objs.size f cdv))->
   QB (iG d6 P w K mg base N qual (bY st) f cdv A outer s H E).nox body m):FnOk P w K mg base d6 (k+1) f fd ps (gC K ps.length (tZ N.length m)):=
 Iw F S hps fun cdv A outer s H E hr=>by
  rw [hbd]
  exact (hbody cdv A outer s H E hr).h
end
end L3
namespace L3
open PySem L2
noncomputable abbrev kM:=Hm->Nat->Option (Option D)
noncomputable abbrev MI:=aK->Hm->Option (kM×Nat×Hm)
noncomputable def iU (K:Qf)(m:MI):TI:=fun σ H R=>∃ π ρ μ src n μ',Rp K π H μ/\En K π μ.length H σ ρ/\m ρ μ=some (src,n,μ') /\
 ∀ π' H' J,Ext π μ.length H π' μ'.length H'->Rp K π' H' μ'->Wk K J src π' μ'.length H'->R J H'
structure QJ (X:Cx)(e:Qr)(m:MI):Prop where
 h:∀ tg,PI X tg e (iU X.K m)
section
variable {X:Cx}{pos:SE}{e:Qr}{m:ME}
noncomputable def uQ:MI:=fun _ _=>none
theorem j_bad:QJ X e uQ:=⟨fun tg a0V s σ H R I hw=>by
 obtain ⟨π,ρ,μ,src,n,μ',Rr,E,hm,k⟩:=hw
 cases hm⟩
noncomputable def gN (μ:Hm):D->Option (List D)
 | d=>bN μ d
noncomputable def dQ (x:D):kM:=fun μ i=>(gN μ x).map fun xs=>xs[i]?
noncomputable def dD (m:ME):MI:=fun ρ μ=>(m ρ μ).bind fun p=>(gN p.2 p.1).map fun xs=>(dQ p.1,xs.length+1,p.2)
theorem Kr (h:QE X e m):QJ X e (dD m):=⟨fun tg a0V s σ H R I hw=>by
 obtain ⟨π,ρ,μ,src,n,μ',Rr,E,hm,k⟩:=hw
 obtain ⟨⟨x,μ1⟩,h1,hm⟩:=Qe.mp hm
 obtain ⟨xs,h2,hm⟩:=Qk.mp hm
 cases hm
 have key:∀ (hs:bN μ1 x=some xs)(hx:dQ x=iQ x),QV (QX X.prog X.w) X.A (eval e X.env) (fun v s1=>QV (QX X.prog X.w) X.A (XB v) (o6 X a0V σ tg R) X.xe s1) X.xe s:=fun hs hx=>by
  refine IU h.h a0V s σ H R I ⟨π,ρ,μ,x,_,Rr,E,h1,fun π1 v1 H1 e1 R1 i1=>?_⟩
  obtain ⟨a,e,q⟩:=IV R1 i1 hs
  subst e
  refine ⟨a,rfl,?_⟩
  dsimp only at k
  rw [hx] at k
  rcases q with ⟨q1,W⟩|⟨q1,W⟩
  ·exact .inl ⟨q1,k π1 H1 _ e1 R1 W⟩
  ·exact .inr ⟨q1,k π1 H1 _ e1 R1 W⟩
 cases x with
 | _=>exact key h2 rfl⟩
noncomputable def fR (ms:MA):MI:=fun ρ μ=>(ms ρ μ).bind fun p=>match p.1 with
 | [.int j]=>if -(2 ^ 62)<=j/\j<2 ^ 62 then some (eM 0 j.toNat,j.toNat+1,p.2) else none
 | _=>none
theorem Ks {a:Qr}{ms:MA}{n:Nat}{p:SE}(hgl:Gl X "range") (hmg:X.mg "range" = none) (ha:QA X [a] ms n):QJ X (.Call (.Name "range" p) [a] [] pos) (fR ms):=⟨fun tg a0V s σ H R I hw=>by
 have hs:=ha.s
 rw [RK,Qy] at hs
 obtain ⟨π,ρ,μ,src,n',μ',Rr,E,hm,k⟩:=hw
 obtain ⟨⟨x,μ1⟩,h1,hm⟩:=Qe.mp hm
 refine F0 hgl hmg ha.h (fG hs.1) a0V s σ H R I ⟨π,ρ,μ,x,μ1,Rr,E,h1,fun π1 vs H1 e1 R1 i1=>?_⟩
 dsimp only at hm
 split at hm
 ·rename_i j
  split at hm
  ·rename_i hb
   cases hm
   cases i1 with
   | cons i1 t1=>
    cases i1
    cases t1
    exact ⟨j,rfl,hb.1,hb.2,k π1 H1 _ e1 R1 AY⟩
  ·cases hm
 ·cases hm⟩
noncomputable def jG (ms:MA):MI:=fun ρ μ=>(ms ρ μ).bind fun p=>match p.1 with
 | [.int i,.int j]=>if -(2 ^ 62)<=i/\i<2 ^ 62/\-(2 ^ 62)<=j/\j<2 ^ 62 then some (eM i (j - i).toNat,(j - i).toNat+1,p.2) else none
 | _=>none
theorem Kt {a b:Qr}{ms:MA}{n:Nat}{p:SE}(hgl:Gl X "range") (hmg:X.mg "range" = none) (ha:QA X [a,b] ms n):QJ X (.Call (.Name "range" p) [a,b] [] pos) (jG ms):=⟨fun tg a0V s σ H R I hw=>by
 have hs:=ha.s
 rw [RK,Qy,RK,Qy] at hs
 obtain ⟨π,ρ,μ,src,n',μ',Rr,E,hm,k⟩:=hw
 obtain ⟨⟨x,μ1⟩,h1,hm⟩:=Qe.mp hm
 refine F1 hgl hmg ha.h (by rw [fG hs.1,fG hs.2.1];rfl) (by rw [fG hs.2.1];rfl) a0V s σ H R I ⟨π,ρ,μ,x,μ1,Rr,E,h1,fun π1 vs H1 e1 R1 i1=>?_⟩
 dsimp only at hm
 split at hm
 ·rename_i i j
  split at hm
  ·rename_i hb
   cases hm
   cases i1 with
   | cons i1 t1=>
    cases i1
    cases t1 with
    | cons i2 t2=>
     cases i2
     cases t2
     exact ⟨i,j,rfl,hb,k π1 H1 _ e1 R1 AY⟩
  ·cases hm
 ·cases hm⟩
noncomputable def c4 (it:MI)(g:MG)(b:MS):MS:=fun ρ μ=>(it ρ μ).bind fun p=>d8 p.1 g b p.2.1 0 ρ p.2.2
end
noncomputable def l7 (bd:BD)(it:MI)(c:MT)(e:ME):ME:=fun ρ μ=>(it ρ μ).bind fun p=>
 (iR p.1 bd c e ρ p.2.2.length p.2.1 0 (p.2.2++[.lst []])).map fun μ'=>(.loc p.2.2.length,μ')
noncomputable abbrev cU (it:MI)(c:MT)(e:ME):ME:=l7 nV it c e
noncomputable def gB (n:Nat)(bd:BD):MG:=fun d ρ μ=>(bd d μ).map fun x=>ρ.take n++x
theorem Ku {X:Cx}{n:Nat}{x:Str}{px:SE}(hl:X.N.length=n+1)(h:PG X (.Name x px) (eK X.K (c3 n))):PG X (.Name x px) (eK X.K (gB n nV)):=by
 intro a0V s σ H v u Q I r hw
 obtain ⟨π,ρ,μ,d,ρ',R,E,hd,hm,k⟩:=hw
 cases hm
 refine h a0V s σ H v u Q I r ⟨π,ρ,μ,d,_,R,E,hd,rfl,fun σ' E'=>k σ' ?_⟩
 have hρ:ρ.length=n+1:=by rw [<- E.len,I.len,hl]
 have e:ρ.set n (some d)=ρ.take n++[some d]:=by
  rw [List.set_eq_take_append_cons_drop,if_pos (by omega),RW (by omega)]
 rw [e] at E'
 exact E'
theorem Bb:∀ (xs:List D)(a b:aK),b.length=xs.length->kJ (a++b) (Vd a.length xs.length) xs=a++xs.map some
 | [],a,[],_=>by simp [kJ]
 | x::xs,a,y::b,h=>by
  have ih:=Bb xs (a++[some x]) b (by simpa using h)
  rw [QU,Wu]
  show kJ ((a++y::b).set a.length (some x)) (Vd (a.length+1) xs.length) xs=_
  rw [VD _ _ (Qq _),Us,Qu]
  rw [Qx,XJ] at ih
  rw [QK,List.singleton_append] at ih
  rw [ih]
  simp
theorem Kv {X:Cx}{n k:Nat}{tg:Qr}(hl:X.N.length=n+k)(h:PG X tg (eK X.K (lW (Vd n k)))):PG X tg (eK X.K (gB n (A0 k))):=by
 intro a0V s σ H v u Q I r hw
 obtain ⟨π,ρ,μ,d,ρ',R,E,hd,hm,kk⟩:=hw
 obtain ⟨y,h1,h2⟩:=Qk.mp hm
 obtain ⟨xs,h3,h4⟩:=Qe.mp h1
 split at h4
 ·rename_i hx
  cases h4
  subst h2
  have hρ:ρ.length=n+k:=by rw [<- E.len,I.len,hl]
  refine h a0V s σ H v u Q I r ⟨π,ρ,μ,d,kJ ρ (Vd n k) xs,R,E,hd,(by simp only [lW,h3,Rm,List.length_range',if_pos hx]),fun σ' E'=>kk σ' ?_⟩
  have e:=Bb xs (ρ.take n) (ρ.drop n) (by rw [Rt];omega)
  rw [Rq,Q8,Ua (by omega),hx] at e
  rw [e] at E'
  exact E'
 ·cases h4
section
variable {X:Cx}{scope:Tz}{cl:List (Str×Addr)}{xs:List Str}{tg elt iter:Qr}{ifs:List Qr}{pos ppos:SE}{mi:MI}{me:ME}{mc:MT}{bd:BD}
theorem Kw {K:Qf}{π:Nat->Addr}{n:Nat}{H:Hp}{σ:St}{ρ o:aK}{k:Nat}(E:En K π n H σ (ρ++o))(ho:o.length=k):En K π n H σ (ρ++SR k none):=by
 refine ⟨by rw [E.len,Qx,Qx,Ta,ho],fun i d q=>?_⟩
 by_cases hi:i<ρ.length
 ·rw [QC hi] at q
  exact E.get i d (by rw [QC hi];exact q)
 ·rw [QM (TB.mp hi),Tt] at q
  split at q<;>cases q
theorem Bc (O:CompOk X scope cl xs)(hcalm:X.calm=true)(hi:PI X tg iter (iU X.K mi))(hb':∀ d μ z,bd d μ=some z->z.length=xs.length)(hg:∀ C s₀ H₀ fp,PG (cB X scope cl C (bC xs X.N++xs) s₀ H₀ fp) tg (eK X.K (gB X.N.length bd)))
  (hc:∀ C s₀ H₀ fp,lV (cB X scope cl C (bC xs X.N++xs) s₀ H₀ fp) ifs mc)(he:∀ C s₀ H₀ fp,PE (cB X scope cl C (bC xs X.N++xs) s₀ H₀ fp) elt (tM X.K me))
  (hs:∀ x,UH iter X.env x=pure x){use:Option (Qg->YD Unit)}{QQ:Qg->Qj->Prop}{a0V:List (Addr×SD)}{s:Qj}{σ:St}{H:Hp}{π:Nat->Addr}{ρ:aK}{μ μ':Hm}{d:D}
  (I:Inv X a0V σ H s)(R:Rp X.K π H μ)(E:En X.K π μ.length H σ ρ)(hm:l7 bd mi mc me ρ μ=some (d,μ'))
  (fin:∀ (p C:Addr)(π':Nat->Addr)(H':Hp)(s':Qj),Ext π μ.length H π' μ'.length H'->Rp X.K π' H' μ'->IsD X.K π' μ'.length H' (.ref p) d->(∃ m,s'.heap.Ns C m)->X.s₀.heap.objs.size<=C->C≠X.env.locals->H' C=none->
   (∀ y c,X.env.cells.lookup y=some c->c≠C)->(∀ q∈X.pn++a0V,q.1≠C)->(∀ h',(∀ b o,b≠C->s'.heap.get? b=some o->h'.get? b=some o)->Inv X a0V σ H' { s' with heap:=h' })->
   compPost (QX X.prog X.w) X.A X.xe use QQ (.ref p) C (.ok .next) s') :
  QV (QX X.prog X.w) X.A (comprehension (.ListComp elt [⟨tg,iter,ifs,0⟩] scope pos) scope X.env ppos (newList []) false (eval iter X.env) use) QQ X.xe s:=by
 obtain ⟨⟨src,nt,μ1⟩,h1,hm⟩:=Qe.mp hm
 obtain ⟨μ2,h3,hm⟩:=Qk.mp hm
 cases hm
 have hit:QV (QX X.prog X.w) X.A (eval iter X.env) (fun v s1=>QV (QX X.prog X.w) X.A (XB v) (o6 X a0V σ tg fun J H1=>∃ π1,Ext π μ.length H π1 μ1.length H1/\Rp X.K π1 H1 μ1/\Wk X.K J src π1 μ1.length H1) X.xe s1) X.xe s:=
  hi a0V s σ H _ I ⟨π,ρ,μ,src,nt,μ1,R,E,h1,fun π1 H1 J e1 R1 W=>⟨π1,e1,R1,W⟩⟩
 refine wpAny_comprehension_free rfl hs O.clos O.kind O.names (Rv hit (fun v s1 hv=>Rv hv (fun itv s2 h4=>?_) fun _ _ z=>z) fun _ _ z=>z)
 obtain ⟨it,fp,tn,J,H2,rfl,I2,T,st2,f2,π1,e1,R1,W⟩:=h4
 refine SM (wpAny_newFunctionEnv O.nocell (by intro y hy;simp at hy) (fun h₁ hns₁ hsb₁=>?_) O.kind)
 dsimp only at hns₁ hsb₁ ⊢
 have hfr:H2 s2.heap.objs.size=none:=I2.hok.fresh (Qq _)
 have I3:Inv X a0V σ (aH H2 s2.heap.objs.size (.lst [])) { s2 with heap:=s2.heap.push { cls:=.type "list",dict:=none,data:=.seq ([]:List Qg).toArray } }:=
  I2.laid (t':=s2.toks) (fun b u e=>Qo _ e) (Qq _) ⟨RV _,[],0,.nil,QY _ rfl⟩
 obtain ⟨e2,R2,q2⟩:=R1.alloc (c:=.lst []) (o:=.lst []) hfr .nil
 generalize hs3:({ s2 with heap:=s2.heap.push { cls:=.type "list",dict:=none,data:=.seq ([]:List Qg).toArray } }:Qj)=s3 at I3
 have hheap:s2.heap.push { cls:=.type "list",dict:=none,data:=.seq ([]:List Qg).toArray } = s3.heap:=by rw [<- hs3]
 have e12:=e1.trans e2
 generalize hH3:aH H2 s2.heap.objs.size (.lst [])=H3 at I3 e2 R2 e12
 generalize hπ3:e8 π1 μ1.length s2.heap.objs.size=π3 at e2 R2 q2 e12
 have hob:∀ b∈fp,∃ o,s3.heap.get? b=some o:=fun b hb=>by
  obtain ⟨o,ho,_⟩:=T.obj 0 _ st2 b hb
  exact ⟨o,by rw [<- hheap];exact Qo _ ho⟩
 have f3:∀ b∈fp,fN X a0V H3 b:=fun b hb=>by
  obtain ⟨o,ho,_⟩:=T.obj 0 _ st2 b hb
  refine ⟨?_,(f2 b hb).2⟩
  rw [<- hH3,a8 (Q7 (QD ho))]
  exact (f2 b hb).1
 have st3:tn 0 s3.heap:=T.keep 0 _ _ st2 fun b hb o e=>by rw [<- hheap];exact Qo _ e
 have hC:(s2.heap.push { cls:=.type "list",dict:=none,data:=.seq ([]:List Qg).toArray }).objs.size=s3.heap.objs.size:=by rw [hheap]
 rw [hheap] at hns₁ hsb₁
 have hk1:∀ b o,s3.heap.get? b=some o->h₁.get? b=some o:=fun b o e=>hsb₁.extBut b o (Q7 (QD e)) (Qo _ e)
 have E3:En X.K π3 (μ1++[C.lst []]).length H3 (σ++SR xs.length none) (ρ++SR xs.length none):=by
  have E':=E.mono e12
  refine ⟨by rw [Qx,Qx,E'.len,Ta,Ta],fun i d' q=>?_⟩
  by_cases hi:i<ρ.length
  ·rw [QC hi] at q
   obtain ⟨v,h5,h6⟩:=E'.get i d' q
   exact ⟨v,by rw [QC (by rw [E'.len];exact hi)];exact h5,h6⟩
  ·rw [QM (TB.mp hi),Tt] at q
   split at q<;>cases q
 have hlen:ρ.length=X.N.length:=by rw [<- E.len];exact I.len
 have stat:∀ {H':Hp}{pl:List (Addr×SD)},(∀ b∈fp,H' b=none)->pl=[]->∀ b∈fp,fN (cB X scope cl s3.heap.objs.size (bC xs X.N++xs) s3 H3 fp) pl H' b:=fun {H' pl} hn hpl b hb=>by
  obtain ⟨f0,f1,f2',f3',f4,f5⟩:=f3 b hb
  obtain ⟨o,ho⟩:=hob b hb
  refine ⟨hn b hb,Q7 (QD ho),fun z=>?_,.inl hb,fun y c h=>f4 y c (O.sub y c h),fun p hp=>?_⟩
  ·rcases Q9.mp (I3.stkSub b z) with z|z
   ·exact f1 z
   ·exact f2' z
  ·subst hpl
   exact absurd (show p∈([]:List (Addr×SD)) from hp) (by simp)
 have loop:∀ s4:Qj,(∃ tk,s4 = { s3 with heap:=h₁,toks:=tk })->
   Vs (QX X.prog X.w) X.A (.compLoop (.ListComp elt [⟨tg,iter,ifs,0⟩] scope pos) 0 (.ref it) (.ref s2.heap.objs.size) (UI scope cl s3.heap.objs.size X.env))
    (compPost (QX X.prog X.w) X.A X.xe use QQ (.ref s2.heap.objs.size) s3.heap.objs.size) s4:=by
  rintro s4 ⟨tk,rfl⟩
  have I4:=O.inv (tk:=tk) I3 f3 hob hns₁ hk1
  refine IY (fun n s'=>∃ i σ' H' π' μi o,Inv (cB X scope cl s3.heap.objs.size (bC xs X.N++xs) s3 H3 fp) [] σ' H' s'/\tn i s'.heap/\(∀ b∈fp,H' b=none)/\Ext π3 (μ1++[C.lst []]).length H3 π' μi.length H'/\Rp X.K π' H' μi /\
   En X.K π' μi.length H' σ' (ρ++o)/\o.length=xs.length/\iR src bd mc me ρ μ1.length n i μi=some μ') ?_ nt
   ⟨0,_,H3,π3,μ1++[C.lst []],SR xs.length none,I4,T.keep 0 _ _ st3 fun b hb o e=>hk1 b o e,fun b hb=>(f3 b hb).1,.refl,R2,E3,Ta,h3⟩
  rintro n s5 ⟨i,σ5,H5,π5,μ5,o5,I5,st5,fr5,e5,R5,E5,l5,g5⟩
  cases n with
  | zero=>cases g5
  | succ n=>
   obtain ⟨o,h6,h7⟩:=Qe.mp g5
   cases o with
   | none=>
    cases h7
    have stop:=W.stop π5 _ H5 i (e2.trans e5) R5 h6
    refine Rv (T.done (cB X scope cl s3.heap.objs.size (bC xs X.N++xs) s3 H3 fp) rfl rfl rfl hcalm i [] s5 σ5 H5 (fun _ _=>False) I5 (stat fr5 rfl) st5 stop) (fun r s6 ⟨hr,I6⟩=>?_) fun _ _ z=>z
    subst hr
    obtain ⟨m6,hn6,_⟩:=id I6.loc
    have hp:π5 μ1.length=s2.heap.objs.size:=by rw [e5.pi μ1.length (by simp),q2]
    refine fin s2.heap.objs.size s3.heap.objs.size π5 H5 s6 (e12.trans e5) R5 ?_ ⟨m6,hn6⟩ I3.sz (Sn (Q7 I3.lt)) I6.free (fun y c hc z=>?_) (fun q hq z=>?_) fun h' hh=>CompOk.back I3 f3 I6 hh
    ·rw [<- hp]
     exact .loc (Rc (by simp) e5.le)
    ·obtain ⟨v,o,ho,_⟩:=I3.cell y c hc
     exact Q7 (QD ho) z
    ·exact Q7 (QD (I3.pin q hq).1) z
   | some d=>
    obtain ⟨z,hz,h7⟩:=Qe.mp h7
    obtain ⟨⟨b,μ6⟩,h8,h9⟩:=Qe.mp h7
    obtain ⟨g1,g2⟩:=W.go π5 μ5 H5 i d (e2.trans e5) R5 h6
    refine Rv (T.item (cB X scope cl s3.heap.objs.size (bC xs X.N++xs) s3 H3 fp) rfl rfl rfl hcalm i [] s5 σ5 H5 (fun _ _=>False) I5 (stat fr5 rfl) st5 g1) (fun r s6 ⟨u,hr,h10⟩=>?_) fun _ _ z=>z
    subst hr
    refine Rv h10 (fun _ s7 ⟨v,H7,I7,r7,y7,st7,fr7⟩=>?_) fun _ _ z=>z
    obtain ⟨e7,R7,hd⟩:=g2 v H7 y7
    have I7':=I7.pinned (stat fr7 rfl) (T.obj _ _ st7)
    have e5:=e5.trans e7
    refine Rv (hg _ _ _ _ _ s7 σ5 H7 v u (fun σ' H'=>En X.K π5 μ5.length H7 σ' (ρ++z)/\H'=H7) I7' r7
     ⟨π5,ρ++SR xs.length none,μ5,d,ρ++z,R7,Kw (E5.mono e7) l5,hd,(by
      show (bd d μ5).map (fun x=>(ρ++SR xs.length none).take X.N.length++x)=_
      rw [hz,<- hlen,W2]
      rfl),fun σ' E'=>⟨E',rfl⟩⟩) (fun _ s8 ⟨σ8,H8,I8,E8,z2⟩=>?_) fun _ _ z=>z
    subst z2
    have again:∀ {s9:Qj}{H9:Hp}{π9:Nat->Addr}{μ9:Hm},Inv (cB X scope cl s3.heap.objs.size (bC xs X.N++xs) s3 H3 fp) ([]++nM fp s7.heap) σ8 H9 s9->Ext π3 (μ1++[C.lst []]).length H3 π9 μ9.length H9->Rp X.K π9 H9 μ9->
      En X.K π9 μ9.length H9 σ8 (ρ++z)->iR src bd mc me ρ μ1.length n (i+1) μ9=some μ'->
      ∃ m,m<n+1/\∃ i σ' H' π' μi o,Inv (cB X scope cl s3.heap.objs.size (bC xs X.N++xs) s3 H3 fp) [] σ' H' s9/\tn i s9.heap/\(∀ b∈fp,H' b=none)/\Ext π3 (μ1++[C.lst []]).length H3 π' μi.length H'/\Rp X.K π' H' μi /\
       En X.K π' μi.length H' σ' (ρ++o)/\o.length=xs.length/\iR src bd mc me ρ μ1.length m i μi=some μ':=fun {s9 H9 π9 μ9} I9 e9 R9 E9 g9=>by
     refine ⟨n,Wz _,i+1,_,H9,π9,μ9,z,I9.unpinned,T.keep _ _ _ st7 fun b hb o e=>(I9.pin (b,o) (RO _ (RO _ (o8 hb e)))).1,fun b hb=>?_,e9,R9,E9,hb' _ _ _ hz,g9⟩
     obtain ⟨o,e,_⟩:=T.obj _ _ st7 b hb
     exact (I9.pin (b,o) (RO _ (RO _ (o8 hb e)))).2.1
    refine Rv (hc _ _ _ _ _ s8 _ H8 (fun b' H'=>∃ π9,b'=b/\Ext π5 μ5.length H8 π9 μ6.length H'/\Rp X.K π9 H' μ6) I8 ⟨π5,_,μ5,b,μ6,R7,E8,h8,fun π9 H9 e9 R9=>⟨π9,rfl,e9,R9⟩⟩) (fun ok s9 ⟨H9,I9,π9,hb,e9,R9⟩=>?_) fun _ _ z=>z
    subst hb
    cases ok with
    | false=>
     rw [if_neg RB]
     exact again I9 (e5.trans e9) R9 (E8.mono e9) h9
    | true=>
     rw [if_pos rfl]
     obtain ⟨⟨dy,μ7⟩,h11,h12⟩:=Qe.mp h9
     obtain ⟨μ8,h13,h14⟩:=Qe.mp h12
     refine Rv (he _ _ _ _ _ s9 _ H9 (fun y H'=>∃ π10,Ext π9 μ6.length H9 π10 μ7.length H'/\Rp X.K π10 H' μ7/\IsD X.K π10 μ7.length H' y dy) I9 ⟨π9,_,μ6,dy,μ7,R9,E8.mono e9,h11,fun π10 y H10 e10 R10 i10=>⟨π10,e10,R10,i10⟩⟩)
      (fun u' s10 ⟨y,H10,I10,ry,π10,e10,R10,i10⟩=>?_) fun _ _ z=>z
     unfold lU at h13
     split at h13
     ·rename_i zs hz
      split at h13
      ·rename_i hl
       cases h13
       obtain ⟨vs,h15,h16⟩:=R10.lst _ zs hz
       have eall:=(e5.trans e9).trans e10
       have hp:π10 μ1.length=s2.heap.objs.size:=by rw [eall.pi μ1.length (by simp),q2]
       obtain ⟨e11,R11⟩:=R10.put (a:=μ1.length) (c:=.lst (zs++[dy])) (o:=.lst (vs++[y])) (Qi.mp hz).1 h15 (.inl ⟨vs,rfl⟩) (h16.append (.cons i10 .nil))
       rw [hp] at h15 e11 R11
       refine Rv (Ah (X:=cB X scope cl s3.heap.objs.size (bC xs X.N++xs) s3 H3 fp) _ s10 _ H10 (.ref s2.heap.objs.size) [y] (.ref s2.heap.objs.size) [u'] (fun _ H'=>H'=aH H10 s2.heap.objs.size (.lst (vs++[y]))) I10 rfl (.cons ry .nil)
        ⟨s2.heap.objs.size,vs,y,rfl,rfl,h15,by rw [h16.length];exact hl,rfl⟩) (fun _ s11 ⟨_,H11,I11,_,z⟩=>?_) fun _ _ z=>z
       subst z
       exact again I11 (eall.trans e11) R11 ((E8.mono (e9.trans e10)).mono e11) h14
      ·cases h13
     ·cases h13
 have l4:=loop { s3 with heap:=h₁,toks:=s2.toks+([]:List (Str×Qg)).length } ⟨_,rfl⟩
 have hst4:tn 0 h₁:=T.keep 0 _ _ st3 fun b hb o e=>hk1 b o e
 subst hs3
 exact codeAny_compStart_list l4 (T.self _ 0 _ _ _ hst4 l4)
theorem Ky (O:CompOk X scope cl xs)(hcalm:X.calm=true)(hi:PI X tg iter (iU X.K mi))(hb':∀ d μ z,bd d μ=some z->z.length=xs.length)(hg:∀ C s₀ H₀ fp,PG (cB X scope cl C (bC xs X.N++xs) s₀ H₀ fp) tg (eK X.K (gB X.N.length bd)))
  (hc:∀ C s₀ H₀ fp,lV (cB X scope cl C (bC xs X.N++xs) s₀ H₀ fp) ifs mc)(he:∀ C s₀ H₀ fp,PE (cB X scope cl C (bC xs X.N++xs) s₀ H₀ fp) elt (tM X.K me))
  (hs:∀ x,UH iter X.env x=pure x):PE X (.ListComp elt [⟨tg,iter,ifs,0⟩] scope pos) (tM X.K (l7 bd mi mc me)):=by
 intro a0V s σ H Q I hw
 obtain ⟨π,ρ,μ,d,μ',R,E,hm,k⟩:=hw
 rw [eval_ListComp]
 refine Bc (use:=none) O hcalm hi hb' hg hc he hs I R E hm fun p C π' H' s' e1 R1 i1 hns hsz hne hfree hcel hpin back=>?_
 obtain ⟨m,hn⟩:=hns
 exact ⟨m,hn,fun h' sb=>⟨.ref p,H',back h' (fun b o hb e=>(sb.2 b hb).trans e),rfl,k π' _ H' e1 R1 i1⟩⟩
theorem Kz {i:Nat}{y:Str}{py spos:SE}(O:CompOk X scope cl xs)(hN:X.N.Nodup)(hcalm:X.calm=true)(hi:PI X tg iter (iU X.K mi))(hb':∀ d μ z,bd d μ=some z->z.length=xs.length)(hg:∀ C s₀ H₀ fp,PG (cB X scope cl C (bC xs X.N++xs) s₀ H₀ fp) tg (eK X.K (gB X.N.length bd)))
  (hc:∀ C s₀ H₀ fp,lV (cB X scope cl C (bC xs X.N++xs) s₀ H₀ fp) ifs mc)(he:∀ C s₀ H₀ fp,PE (cB X scope cl C (bC xs X.N++xs) s₀ H₀ fp) elt (tM X.K me))
  (hs:∀ x,UH iter X.env x=pure x)(hy:X.N[i]? = some y)(hl:X.env.scope.names.lookup y=some .local)
  (hsw:Uv (.ListComp elt [⟨tg,iter,ifs,0⟩] scope pos) (some (.Name y py)) spos.line X.env=pure true) :
  PS X (.Assign [.Name y py] (.ListComp elt [⟨tg,iter,ifs,0⟩] scope pos) spos) (cI X.K (bF i (l7 bd mi mc me))):=by
 intro a0V s σ H EN I hw
 obtain ⟨π,ρ,μ,fl,ρ',μ',R,E,hm,k⟩:=hw
 obtain ⟨⟨d,μ1⟩,h1,hm⟩:=Qk.mp hm
 cases hm
 rw [exec_Assign_Name_used _ _ _ _ hsw]
 refine Qh (X1 ?_)
 refine Qh (Qh ?_)
 refine Bc (use:=some (Wx (.Name y py) X.env)) (QQ:=fun _ s'=>QV (QX X.prog X.w) X.A (pure ()) (fun _ s''=>QV (QX X.prog X.w) X.A (pure Flow.next) (SP X a0V EN) X.xe s'') X.xe s') O hcalm hi hb' hg hc he hs I R E h1 fun p C π' H' s' e1 R1 i1 hns hsz hne hfree hcel hpin back=>?_
 obtain ⟨m,hn⟩:=hns
 have I1:Inv X a0V σ H' s':=back s'.heap fun b o _ e=>e
 show QV (QX X.prog X.w) X.A (Wx (.Name y py) X.env (.ref p)) _ X.xe s'
 refine ZJ ?_
 refine yV I1 hN hy (.inl hl) (show RelV (.ref p) (.ref p) from rfl) (fun s2 I2 ⟨a,sb,ha⟩=>?_) (.inr hl)
 have hCa:C≠a:=by
  rcases ha with rfl|ha
  ·exact hne
  ·exact Sn (hcel _ _ ha)
 refine ⟨m,hn.sameBut sb hCa,fun h' sb'=>Qt (Qt ?_)⟩
 refine ⟨σ.set i (some (.ref p)),H',I2.turned (t':=s2.toks) (fun b o hb e=>(sb'.2 b hb).trans e) hfree hne (.inr hsz) hcel hpin,?_⟩
 exact k π' _ H' e1 R1 ((E.mono e1).set i1 i)
end
end L3
namespace L3
open PySem L2
noncomputable def bL:ME:=fun _ _=>none
noncomputable def kN:MT:=fun _ _=>none
noncomputable def c5:MS:=fun _ _=>none
section
variable {X:Cx}{e a b c o:Qr}{m m1 m2 ma mb mc:ME}{pos:SE}{mt mu:MT}{rest es:List Qr}{ms:MA}{n:Nat}
theorem bR:QE X e bL:=⟨fun a0V s σ H Q I h=>by
 obtain ⟨π,ρ,μ,d,μ',R,E,hm,k⟩:=h
 cases hm⟩
theorem uR:QT X e kN:=⟨fun a0V s σ H Q I h=>by
 obtain ⟨π,ρ,μ,d,μ',R,E,hm,k⟩:=h
 cases hm⟩
theorem KA:QW X e kN:=⟨fun wh a0V s σ H Q I h=>by
 obtain ⟨π,ρ,μ,d,μ',R,E,hm,k⟩:=h
 cases hm⟩
theorem fS {st:Stmt}:QS X st c5:=⟨fun a0V s σ H D I h=>by
 obtain ⟨π,ρ,μ,fl,ρ',μ',R,E,hm,k⟩:=h
 cases hm⟩
theorem qF {g:MG}(hg:∀ d ρ μ,g d ρ μ=none):QG X e g:=⟨fun a0V s σ H v u Q I r h=>by
 obtain ⟨π,ρ,μ,d,ρ',R,E,hd,hm,k⟩:=h
 rw [hg] at hm
 cases hm⟩
theorem l8 (h1:QE X e m1)(h2:QE X e m2)(h:∀ ρ μ r,m ρ μ=some r->m1 ρ μ=some r\/m2 ρ μ=some r):QE X e m:=⟨fun a0V s σ H Q I q=>by
 obtain ⟨π,ρ,μ,d,μ',R,E,hm,k⟩:=q
 rcases h ρ μ _ hm with z|z
 ·exact h1.h a0V s σ H Q I ⟨π,ρ,μ,d,μ',R,E,z,k⟩
 ·exact h2.h a0V s σ H Q I ⟨π,ρ,μ,d,μ',R,E,z,k⟩⟩
theorem qG {m m1 m2:MT}(h1:QT X e m1)(h2:QT X e m2)(h:∀ ρ μ r,m ρ μ=some r->m1 ρ μ=some r\/m2 ρ μ=some r):QT X e m:=⟨fun a0V s σ H Q I q=>by
 obtain ⟨π,ρ,μ,d,μ',R,E,hm,k⟩:=q
 rcases h ρ μ _ hm with z|z
 ·exact h1.h a0V s σ H Q I ⟨π,ρ,μ,d,μ',R,E,z,k⟩
 ·exact h2.h a0V s σ H Q I ⟨π,ρ,μ,d,μ',R,E,z,k⟩⟩
theorem gO {f f1 f2:D->D->Hm->Option (D×Hm)}(h:∀ x y μ r,f x y μ=some r->f1 x y μ=some r\/f2 x y μ=some r) :
  ∀ ρ μ r,aB f ma mb ρ μ=some r->aB f1 ma mb ρ μ=some r\/aB f2 ma mb ρ μ=some r:=by
 intro ρ μ r hm
 obtain ⟨p,h1,hm⟩:=Qe.mp hm
 obtain ⟨q,h2,hm⟩:=Qe.mp hm
 rcases h _ _ _ _ hm with z|z
 ·exact .inl (Qe.mpr ⟨p,h1,Qe.mpr ⟨q,h2,z⟩⟩)
 ·exact .inr (Qe.mpr ⟨p,h1,Qe.mpr ⟨q,h2,z⟩⟩)
theorem qH (h:∀ ρ μ r,m ρ μ=some r->m1 ρ μ=some r\/m2 ρ μ=some r):∀ ρ μ r,aU m ρ μ=some r->aU m1 ρ μ=some r\/aU m2 ρ μ=some r:=by
 intro ρ μ r hm
 obtain ⟨p,h1,hm⟩:=Qe.mp hm
 rcases h _ _ _ h1 with z|z
 ·exact .inl (Qe.mpr ⟨p,z,hm⟩)
 ·exact .inr (Qe.mpr ⟨p,z,hm⟩)
noncomputable def qI:List D->Option (List Int)
 | []=>some []
 | .int i::r=>(qI r).map (i::·)
 | _=>none
noncomputable def cL:D->Option (List Int)
 | .tup ds=>qI ds
 | _=>none
noncomputable def bI (kvs:List (List Int×D))(k:List Int):Option D:=(kvs.find? fun p=>decide (p.1=k)).map (·.2)
noncomputable def dG (kvs:List (List Int×D))(k:List Int)(d:D):List (List Int×D):=if (bI kvs k).isSome then kvs.map (fun p=>if p.1=k then (p.1,d) else p) else kvs++[(k,d)]
noncomputable def aG:D->D->Hm->Option (D×Hm):=fun x y μ=>match x with
 | .loc a=>match μ[a]? with
  | some (.dK kvs)=>(iS y).bind fun k=>(d9 kvs k).map fun d=>(d,μ)
  | some (.dT kvs)=>(cL y).bind fun k=>(bI kvs k).map fun d=>(d,μ)
  | some (.dF kvs)=>(cL y).bind fun k=>(bI kvs k).map fun d=>(d,μ)
  | _=>fD x y μ
 | _=>fD x y μ
structure TabOk (X:Cx)(x:Str)(kvs:List (aF×D)):Prop where
 ex:∃ (p:Addr)(vs:List (aF×V))(ws:List (aF×Qg)),X.mg x=some (.ref p)/\(∀ h:RG,X.K.In h->h.DictOf (cS X.prog X.w) p ws)/\KV vs ws/\∀ π n H,IsKs X.K π n H vs kvs
theorem Bd {a0V:List (Addr×SD)}{σ:St}{H:Hp}{s:Qj}(I:Inv X a0V σ H s){p:Addr}{ob:SD}(h:X.K.lookup p=some ob):H p=none:=(I.bs p ob (I.mod.kin p ob h)).2
theorem Be {K:Qf}{π:Nat->Addr}{H:Hp}{μ:Hm}(R:Rp K π H μ){a':Nat}(ha:a'<μ.length):(∃ vs,H (π a')=some (.lst vs))\/(∃ vs,H (π a')=some (.dK vs))\/(∃ φ,H (π a')=some (.ext φ))\/∃ ob φ,H (π a')=some (.frz ob (.ext φ)):=by
 cases q:μ[a']? with
 | none=>exact absurd (Tf.mp q) (by omega)
 | some cl=>
  cases cl with
  | lst xs=>obtain ⟨vs,h,_⟩:=R.lst a' xs q;exact .inl ⟨vs,h⟩
  | dK xs=>obtain ⟨vs,h,_⟩:=R.dK a' xs q;exact .inr (.inl ⟨vs,h⟩)
  | st xs=>obtain ⟨vs,h,_⟩:=R.st a' xs q;exact .inr (.inr (.inl ⟨_,h⟩))
  | dT xs=>obtain ⟨vs,h,_⟩:=R.dT a' xs q;exact .inr (.inr (.inl ⟨_,h⟩))
  | dF xs=>obtain ⟨ob,vs,h,_⟩:=R.dF a' xs q;exact .inr (.inr (.inr ⟨ob,_,h⟩))
section
variable {a0V:List (Addr×SD)}{σ:St}{H:Hp}{s:Qj}{π:Nat->Addr}{μ:Hm}
theorem Bf (I:Inv X a0V σ H s)(R:Rp X.K π H μ){a':Nat}(ha:a'<μ.length){vs:List V}(h:SqT X.K H (π a') vs):False:=by
 have hc:=Be R ha
 rcases h with h|h
 ·rcases h with h|⟨ob,h⟩<;>rcases hc with ⟨ws,z⟩|⟨ws,z⟩|⟨ws,z⟩|⟨_,ws,z⟩<;>(rw [h] at z;cases z)
 ·obtain ⟨ob,its,n,hk,_⟩:=h
  have:=Bd I hk
  rcases hc with ⟨ws,z⟩|⟨ws,z⟩|⟨ws,z⟩|⟨_,ws,z⟩<;>(rw [this] at z;cases z)
theorem Bg (I:Inv X a0V σ H s)(R:Rp X.K π H μ){a':Nat}(ha:a'<μ.length){vs:List V}(h:RoL X.K H (π a') vs):False:=by
 have hc:=Be R ha
 rcases h with ⟨ob,h⟩|h
 ·rcases hc with ⟨ws,z⟩|⟨ws,z⟩|⟨ws,z⟩|⟨_,ws,z⟩<;>(rw [h] at z;cases z)
 ·obtain ⟨ob,its,n,hk,_⟩:=h
  have:=Bd I hk
  rcases hc with ⟨ws,z⟩|⟨ws,z⟩|⟨ws,z⟩|⟨_,ws,z⟩<;>(rw [this] at z;cases z)
theorem Bh (I:Inv X a0V σ H s){p:Addr}{vs ws:List V}(h:SqT X.K H p vs)(h':RoL X.K H p ws):False:=by
 obtain ⟨its,_,t,_⟩:=I.tuple h
 obtain ⟨its',_,l,_⟩:=I.list h'.sq
 exact absurd rfl (SF l.isList t)
mutual
theorem Bi (I:Inv X a0V σ H s)(R:Rp X.K π H μ){v:V}{d d':D}:IsD X.K π μ.length H v d->IsD X.K π μ.length H v d'->d=d'
 | .non,h'=>by cases h';rfl
 | .bl _,h'=>by cases h';rfl
 | .int _,h'=>by cases h';rfl
 | .str _,h'=>by cases h';rfl
 | .ty _,h'=>by cases h';rfl
 | .tup h t,h'=>by
  cases h' with
  | tup h2 t2=>
   have:=I.tuple_inj h h2
   subst this
   rw [uS I R t t2]
  | rol h2 t2=>exact (Bh I h h2).elim
  | loc h2=>exact (Bf I R h2 h).elim
 | .rol h t,h'=>by
  cases h' with
  | tup h2 t2=>exact (Bh I h2 h).elim
  | rol h2 t2=>
   have:=I.list_inj h.sq h2.sq
   subst this
   rw [uS I R t t2]
  | loc h2=>exact (Bg I R h2 h).elim
 | .loc (a:=a1) ha,h'=>by
  generalize hz:V.ref (π a1)=z at h'
  cases h' with
  | tup h2 t2=>cases hz;exact (Bf I R ha h2).elim
  | rol h2 t2=>cases hz;exact (Bg I R ha h2).elim
  | loc h2=>
   have:=R.inj _ _ ha h2 (V.ref.inj hz)
   rw [this]
  | _=>cases hz
theorem uS (I:Inv X a0V σ H s)(R:Rp X.K π H μ){vs:List V}{ds ds':List D}:IsDs X.K π μ.length H vs ds->IsDs X.K π μ.length H vs ds'->ds=ds'
 | .nil,h'=>by cases h';rfl
 | .cons h t,h'=>by
  cases h' with
  | cons h2 t2=>rw [Bi I R h h2,uS I R t t2]
end
end
noncomputable def l9 (μ:Hm)(x:D):List D->Option Bool
 | []=>some false
 | y::r=>(bZ 8 μ y x).bind fun b=>(l9 μ x r).map fun c=>b||c
noncomputable def mB (neg:Bool):D->D->Hm->Option (D×Hm):=fun x y μ=>(bN μ y).bind fun ys=>(l9 μ x ys).map fun b=>(.bl (if neg then !b else b),μ)
noncomputable def uT (K:Qf)(neg:Bool):R2:=fun x y H Q=>∃ π μ dx dy ys b,Rp K π H μ/\IsD K π μ.length H x dx/\IsD K π μ.length H y dy/\bN μ dy=some ys/\l9 μ dx ys=some b/\Q (.bl (if neg then !b else b)) H
theorem qJ {K:Qf}{neg:Bool}:cG K (mB neg) (uT K neg):=by
 intro π H μ x y d μ' vx vy Q R ix iy hm k
 obtain ⟨ys,h1,hm⟩:=Qe.mp hm
 obtain ⟨b,h2,hm⟩:=Qk.mp hm
 cases hm
 exact ⟨π,_,x,y,ys,b,R,ix,iy,h1,h2,k π _ H .refl R (.bl _)⟩
theorem qK {a0V:List (Addr×SD)}{σ:St}{H:Hp}{s:Qj}{π:Nat->Addr}{μ:Hm}(I:Inv X a0V σ H s)(R:Rp X.K π H μ){A:Q0}(hu:A.units+8<Sf){x:V}{v:Qg}{dx:D}(rx:RelV x v)(ix:IsD X.K π μ.length H x dx) :
  ∀ {ys:List D}{vs:List V}{us:List Qg}{b:Bool},IsDs X.K π μ.length H vs ys->Vals vs us->l9 μ dx ys=some b->
   ∃ g:Qg->Bool,(∀ u∈us,WT A s u v (g u))/\us.any g=b:=by
 classical
 intro ys vs us b hi hv hm
 have each:∀ {ys:List D}{vs:List V}{us:List Qg}{b:Bool},IsDs X.K π μ.length H vs ys->Vals vs us->l9 μ dx ys=some b->(∀ u∈us,∃ c,WT A s u v c/\∃ w dy,RelV w u/\IsD X.K π μ.length H w dy/\bZ 8 μ dy dx=some c):=by
  intro ys
  induction ys with
  | nil=>
   intro vs us b hi hv hm u hu'
   cases hi
   cases hv
   cases hu'
  | cons y ys ih=>
   intro vs us b hi hv hm u hu'
   cases hi with
   | cons h t=>
    cases hv with
    | cons r rt=>
     obtain ⟨c,h1,hm⟩:=Qe.mp hm
     obtain ⟨c2,h2,hm⟩:=Qk.mp hm
     rcases Q9.mp hu' with rfl|hu'
     ·exact ⟨c,AM I R 8 hu r rx h ix h1,_,_,r,h,h1⟩
     ·exact ih t rt h2 u hu'
 have ec:=each hi hv hm
 refine ⟨fun u=>if h:u∈us then V1 (ec u h) else false,fun u hu'=>?_,?_⟩
 ·simp only [dif_pos hu']
  exact (W7 (ec u hu')).1
 ·have key:∀ u (h:u∈us) w dy c,RelV w u->IsD X.K π μ.length H w dy->bZ 8 μ dy dx=some c->V1 (ec u h)=c:=by
   intro u h w dy c rw' iw ew
   obtain ⟨_,w2,dy2,r2,i2,e2⟩:=W7 (ec u h)
   have:w2=w:=r2.inj rw'
   subst this
   have:=Bi I R i2 iw
   subst this
   rw [e2] at ew
   exact Q3 ew
  have main:∀ {ys:List D}{vs:List V}{us':List Qg}{b:Bool},(∀ u∈us',u∈us)->IsDs X.K π μ.length H vs ys->Vals vs us'->l9 μ dx ys=some b->us'.any (fun u=>if h:u∈us then V1 (ec u h) else false)=b:=by
   intro ys
   induction ys with
   | nil=>
    intro vs us' b hs hi hv hm
    cases hi
    cases hv
    cases hm
    rfl
   | cons y ys ih=>
    intro vs us' b hs hi hv hm
    cases hi with
    | cons h t=>
     cases hv with
     | @cons _ u _ us2 r rt=>
      obtain ⟨c,h1,hm⟩:=Qe.mp hm
      obtain ⟨c2,h2,hm⟩:=Qk.mp hm
      have eN:u∈us:=hs u (QN ..)
      rw [UM,ih (fun z hz=>hs z (QH _ hz)) t rt h2,dif_pos eN,key u eN _ _ c r h h1]
      exact hm
  exact main (fun _ h=>h) hi hv hm
theorem qL {k:Nat}{A:Q0}(r:Room k A):A.units+9<Sf:=by have:=r.un;omega
theorem Bj (hu:X.A.units+9<Sf):OpR X (RT .In) (uT X.K false):=by
 intro a0V s σ H x y v u Q I rx ry h
 obtain ⟨π,μ,dx,dy,ys,b,R,ix,iy,e1,e2,q⟩:=h
 obtain ⟨p,vs,rfl,hq,hd⟩:=qA R iy e1
 cases ry
 rcases hq with hq|hq
 ·obtain ⟨its,r,pl,hz⟩:=I.list hq
  obtain ⟨g,g1,g2⟩:=qK I R (A:=X.A.in1) (by rw [lQ];omega) rx ix hd r e2
  refine SeqAt.in_listAt g pl.isList (fun w hw=>g1 w (by simpa using hw)) ⟨.bl _,H,I,rfl,?_⟩
  rw [show its.toArray.any g=its.any g by simp,g2]
  exact q
 ·obtain ⟨its,r,pl,hz⟩:=I.tuple hq
  obtain ⟨g,g1,g2⟩:=qK I R (A:=X.A.in1) (by rw [lQ];omega) rx ix hd r e2
  refine SeqAt.in_tupleAt g pl (fun w hw=>g1 w (by simpa using hw)) ⟨.bl _,H,I,rfl,?_⟩
  rw [show its.toArray.any g=its.any g by simp,g2]
  exact q
theorem Bk (hu:X.A.units+9<Sf):OpR X (RT .NotIn) (uT X.K true):=by
 intro a0V s σ H x y v u Q I rx ry h
 obtain ⟨π,μ,dx,dy,ys,b,R,ix,iy,e1,e2,q⟩:=h
 obtain ⟨p,vs,rfl,hq,hd⟩:=qA R iy e1
 cases ry
 rcases hq with hq|hq
 ·obtain ⟨its,r,pl,hz⟩:=I.list hq
  obtain ⟨g,g1,g2⟩:=qK I R (A:=X.A.in1) (by rw [lQ];omega) rx ix hd r e2
  refine SeqAt.notIn_listAt g pl.isList (fun w hw=>g1 w (by simpa using hw)) ⟨.bl _,H,I,rfl,?_⟩
  rw [show its.toArray.any g=its.any g by simp,g2]
  exact q
 ·obtain ⟨its,r,pl,hz⟩:=I.tuple hq
  obtain ⟨g,g1,g2⟩:=qK I R (A:=X.A.in1) (by rw [lQ];omega) rx ix hd r e2
  refine SeqAt.notIn_tupleAt g pl (fun w hw=>g1 w (by simpa using hw)) ⟨.bl _,H,I,rfl,?_⟩
  rw [show its.toArray.any g=its.any g by simp,g2]
  exact q
noncomputable def cM (neg:Bool):D->D->Hm->Option (D×Hm)
 | .str i,.str j,μ=>some (.bl (if neg then !(!(RM j i 0 j.length 1).isEmpty) else !(RM j i 0 j.length 1).isEmpty),μ)
 | x,.loc a,μ=>match μ[a]? with
  | some (.dT kvs)=>(cL x).map fun k=>(.bl (if neg then !(bI kvs k).isSome else (bI kvs k).isSome),μ)
  | some (.dF kvs)=>(cL x).map fun k=>(.bl (if neg then !(bI kvs k).isSome else (bI kvs k).isSome),μ)
  | _=>mB neg x (.loc a) μ
 | x,y,μ=>mB neg x y μ
noncomputable def uU:D->D->Hm->Option (D×Hm)
 | .str i,.str j,μ=>some (.bl (!(!(RM j i 0 j.length 1).isEmpty)),μ)
 | _,_,_=>none
theorem Bl {K:Qf}:cG K uU (fun x y H Q=>∃ i j,x=.str i/\y=.str j/\Q (.bl (!(!(RM j i 0 j.length 1).isEmpty))) H):=by
 intro π H μ x y d μ' vx vy Q R ix iy hm k
 unfold uU at hm
 split at hm
 ·cases hm
  cases ix
  cases iy
  exact ⟨_,_,rfl,rfl,k π _ H .refl R (.bl _)⟩
 ·cases hm
end
end L3
namespace L3
open PySem L2
section
variable {X:Cx}{e a b c o:Qr}{m m1 m2 ma mb mc mo:ME}{pos apos cpos:SE}{mt mu:MT}{rest es:List Qr}{ms:MA}{n:Nat}
noncomputable def mD (μ:Hm):D->Bool
 | .rol _=>true
 | .loc a=>match μ[a]? with|some (.lst _)=>true|_=>false
 | _=>false
noncomputable def iV (f:D->List D->Hm->Option (D×Hm))(mo:ME)(ms:MA):ME:=fun ρ μ=>(mo ρ μ).bind fun p=>match mD p.2 p.1 with
 | true=>(ms ρ p.2).bind fun q=>f p.1 q.1 q.2
 | false=>none
noncomputable def fI (K:Qf)(f:D->List D->Hm->Option (D×Hm))(r:V->List V->Hp->VK->Prop):Prop:=
 ∀ π H μ x xs d μ' v vs Q,Rp K π H μ->IsD K π μ.length H v x->IsDs K π μ.length H vs xs->f x xs μ=some (d,μ')->KC K Q π μ.length H d μ'->r v vs H Q
theorem KG {K:Qf}{π:Nat->Addr}{H:Hp}{μ:Hm}{v:V}{x:D}(R:Rp K π H μ)(h:IsD K π μ.length H v x)(e:mD μ x=true):tR K "list" v H:=by
 cases h with
 | rol h t=>exact .inl ⟨rfl,_,h.sq⟩
 | @loc a ha=>
  simp only [mD] at e
  split at e
  ·rename_i xs hx
   obtain ⟨vs,h1,_⟩:=R.lst a xs hx
   exact .inl ⟨rfl,vs,.of h1⟩
  ·cases e
 | _=>cases e
theorem KH {K:Qf}{f:D->List D->Hm->Option (D×Hm)}{r:V->List V->Hp->VK->Prop}(hf:fI K f r):∀ σ H Q,tM K (iV f mo ms) σ H Q->tS K "list" r (tM K mo) (dM K ms) σ H Q:=by
 rintro σ H Q ⟨π,ρ,μ,d,μ',R,E,hm,k⟩
 obtain ⟨⟨x,μ1⟩,h1,hm⟩:=Qe.mp hm
 dsimp only at hm
 split at hm
 ·rename_i hl
  obtain ⟨⟨xs,μ2⟩,h2,hm⟩:=Qe.mp hm
  refine ⟨π,ρ,μ,x,μ1,R,E,h1,fun π1 v1 H1 e1 R1 i1=>⟨KG R1 i1 hl,π1,ρ,μ1,xs,μ2,R1,E.mono e1,h2,fun π2 vs H2 e2 R2 i2=>?_⟩⟩
  exact hf π2 H2 μ2 x xs d μ' v1 vs Q R2 (i1.mono e2) i2 hm (k.after (e1.trans e2))
 ·cases hm
noncomputable def kP:Qr->Bool
 | .Call (.Name _ _) [] [] _=>false
 | _=>true
theorem kQ {o:Qr}{attr:Str}{env:Wg}{whole:YD Qg}(h:kP o=true):U1 o attr env whole=whole:=by
 cases o with
 | Call f args kws p=>
  cases f with
  | Name id q=>
   cases args with
   | nil=>
    cases kws with
    | nil=>cases h
    | cons _ _=>rfl
   | cons _ _=>rfl
  | _=>rfl
 | _=>rfl
theorem uV {e:Qr}{es:List Qr}{env:Wg}{cpos:SE}(h:(e::es).all dC=true)(hn:(e::es).length<30) :
  ((Tx cpos (Rl (e::es) env)).all (fun x=>!x.1)&&(XD cpos (V8 [] env)).all (fun x=>x.1.isSome)
   && decide ((e::es).length+([]:List T7).length+(if ([]:List T7).isEmpty then 0 else 1)<30))=true:=by
 have h1:(Tx cpos (Rl (e::es) env)).all (fun x=>!x.1)=true:=by
  have:=jF (pos:=cpos) (env:=env) h
  rw [List.all_eq_not_any_not]
  simpa using this
 rw [h1]
 have h2:(e::es).length+([]:List T7).length+(if ([]:List T7).isEmpty then 0 else 1)<30:=by
  show (e::es).length+0+0<30
  omega
 rw [decide_eq_true h2]
 rfl
theorem Bm {f:D->List D->Hm->Option (D×Hm)}{r:V->List V->Hp->VK->Prop}{name:Str}{id:String}(slot:Slot "list" name id) (hty:Zs (.builtin id)=pure (.type "method_descriptor")) (hm:f9 X id r)(hf:fI X.K f r)
  (ho:QE X o mo)(ha:QA X (e::es) ms n)(hs:kP o=true)(hl:(apos.endLine == cpos.line)=true)(hn:(e::es).length<30):QE X (.Call (.Attribute o name apos) (e::es) [] cpos) (iV f mo ms):=by
 have hst:=ha.s
 have hst':=hst
 rw [RK,Qy] at hst'
 exact ⟨b9 (Af PySem.F.plainAttrs_list slot hty hm ho.h ha.h (kQ hs) (uV hst hn) hl (fG hst'.1) (jF hst'.2)) (KH hf)⟩
noncomputable def jH:D->List D->Hm->Option (D×Hm)
 | .loc a,[y],μ=>(lU μ a y).map fun μ'=>(.non,μ')
 | _,_,_=>none
noncomputable def mE:D->List D->Hm->Option (D×Hm)
 | .loc a,[.loc b],μ=>match μ[a]?,μ[b]? with
  | some (.lst xs),some (.lst ys)=>if xs.length+ys.length<=Qs then some (.non,μ.set a (.lst (xs++ys))) else none
  | _,_=>none
 | _,_,_=>none
theorem KI {K:Qf}:fI K jH Ag:=by
 intro π H μ x xs d μ' v vs Q R ix ixs hm k
 unfold jH at hm
 split at hm
 ·rename_i a y
  obtain ⟨μ1,h1,hm⟩:=Qk.mp hm
  cases hm
  unfold lU at h1
  split at h1
  ·rename_i zs hz
   split at h1
   ·rename_i hl
    cases h1
    obtain ⟨ws,h2,h3⟩:=R.lst a zs hz
    cases ix
    cases ixs with
    | cons iy it=>
     cases it
     obtain ⟨e1,R1⟩:=R.put (a:=a) (c:=.lst (zs++[y])) (o:=.lst (ws++[_])) (Qi.mp hz).1 h2 (.inl ⟨ws,rfl⟩) (h3.append (.cons iy .nil))
     exact ⟨_,ws,_,rfl,rfl,h2,by rw [h3.length];exact hl,k π _ _ e1 R1 .non⟩
   ·cases h1
  ·cases h1
 ·cases hm
theorem KJ {K:Qf}:fI K mE Ai:=by
 intro π H μ x xs d μ' v vs Q R ix ixs hm k
 unfold mE at hm
 split at hm
 ·rename_i a b
  split at hm
  ·rename_i zs ys hz hy
   split at hm
   ·rename_i hl
    cases hm
    obtain ⟨ws,h2,h3⟩:=R.lst a zs hz
    obtain ⟨us,h4,h5⟩:=R.lst b ys hy
    cases ix
    cases ixs with
    | cons iy it=>
     cases it
     cases iy
     obtain ⟨e1,R1⟩:=R.put (a:=a) (c:=.lst (zs++ys)) (o:=.lst (ws++us)) (Qi.mp hz).1 h2 (.inl ⟨ws,rfl⟩) (h3.append h5)
     exact ⟨_,_,ws,us,rfl,rfl,h2,h4,by rw [h3.length,h5.length];exact hl,k π _ _ e1 R1 .non⟩
   ·cases hm
  ·cases hm
 ·cases hm
noncomputable def mF (μ:Hm):D->Option Bool
 | .non=>some false
 | .bl b=>some b
 | .int i=>some (i != 0)
 | .str z=>if z.length<=Qs then some ((z.length:Int) != 0) else none
 | .tup xs=>some (!xs.isEmpty)
 | .rol xs=>some (!xs.isEmpty)
 | .loc a=>match μ[a]? with|some (.lst xs)=>some (!xs.isEmpty)|some (.dK kvs)=>some (!kvs.isEmpty)|_=>none
 | .ty _=>none
theorem qM {α β:Type}{xs:List α}{ys:List β}(h:xs.length=ys.length):xs.isEmpty=ys.isEmpty:=by
 cases xs<;>cases ys<;>first|rfl|cases h
theorem KL {K:Qf}{π:Nat->Addr}{H:Hp}{μ:Hm}{v:V}{x:D}{b:Bool}(R:Rp K π H μ)(h:IsD K π μ.length H v x)(e:mF μ x=some b):tE K v H b:=by
 cases h with
 | non=>cases e;rfl
 | bl c=>cases e;rfl
 | int i=>cases e;rfl
 | str z=>
  simp only [mF] at e
  split at e
  ·rename_i hl;cases e;exact ⟨hl,rfl⟩
  ·cases e
 | tup h t=>cases e;exact .inr (.inl ⟨_,h,by rw [qM t.length]⟩)
 | rol h t=>cases e;exact .inl ⟨_,h.sq,by rw [qM t.length]⟩
 | @loc a ha=>
  simp only [mF] at e
  split at e
  ·rename_i xs hx
   cases e
   obtain ⟨vs,h1,h2⟩:=R.lst a xs hx
   exact .inl ⟨vs,.of h1,by rw [qM h2.length]⟩
  ·rename_i kvs hx
   cases e
   obtain ⟨vs,h1,h2,_⟩:=R.dK a kvs hx
   refine .inr (.inr ⟨vs,h1,?_⟩)
   have:=congrArg Si h2
   rw [Qm,Qm] at this
   rw [qM this]
  ·cases e
 | ty n=>cases e
noncomputable def bX (m:ME):MT:=fun ρ μ=>(m ρ μ).bind fun p=>(mF p.2 p.1).map fun b=>(b,p.2)
theorem KN (h:QE X e m)(he:uN e=true):QT X e (bX m):=⟨pQ (Gm h.h (J6 he)) (by
 rintro σ H Q ⟨π,ρ,μ,b,μ',R,E,hm,k⟩
 obtain ⟨⟨x,μ1⟩,h1,hm⟩:=Qe.mp hm
 obtain ⟨b',h2,hm⟩:=Qk.mp hm
 cases hm
 exact ⟨π,ρ,μ,x,_,R,E,h1,fun π1 v1 H1 e1 R1 i1=>⟨_,KL R1 i1 h2,k π1 H1 e1 R1⟩⟩)⟩
theorem KO {k:Nat}{f:Addr}{fd:Th}{ps:List Str}{fm:MF}{x:Str}{p:SE}(F:FnOk X.prog X.w X.K X.mg X.base d6 k f fd ps (gC X.K 0 fm))(hr:Room k X.A)(hm:X.mg x=some (.ref f))
  (hk:SA X.K (.ref f)=true)(hb:Binds X.K fd ps [])(hg:Gl X x)(hdb:(x == ("__debug__":Str))=false):QE X (.Call (.Name x p) [] [] pos) (aI fm aD):=
 ⟨b9 (Gy F hr hg hm hk hb .nil (E:=E0) Al hdb) (by
  rintro σ H Q ⟨π,ρ,μ,d,μ',R,E,hm,k⟩
  obtain ⟨⟨xs,μ1⟩,h1,hm⟩:=Qe.mp hm
  cases h1
  exact ⟨rfl,π,[],μ,d,μ',R,.nil,hm,k⟩)⟩
theorem KP:QS X (.Return none pos) (aV (mC .non)):=⟨fQ FK (by
 rintro E σ H ⟨π,ρ,μ,fl,ρ',μ',R,EN,hm,k⟩
 cases hm
 exact k π .non H .refl R .non)⟩
end
end L3
namespace L3
open PySem L2
section
variable {X:Cx}
end
end L3
namespace L3
open PySem L2
open PyProof.Rows (IntsAre)
open PySem.W (KasT kas_asc kas_desc kas_tail3 kas_descPart kas_count kas_place kas_bin kas_sort kas_rev kas_ask)
noncomputable def aR {α:Type}(ans:Nat->Nat->Bool):a0R α->α
 | .ret a=>a
 | .ask i j k=>aR ans (k (ans i j))
noncomputable def InR {α:Type}(n:Nat)(R:α->Prop):a0R α->Prop
 | .ret a=>R a
 | .ask i j k=>i<n/\j<n/\∀ b,InR n R (k b)
theorem InR.bind {α β:Type}{n:Nat}{R:α->Prop}{R':β->Prop}{f:α->a0R β}(hf:∀ a,R a->InR n R' (f a)):∀ {t:a0R α},InR n R t->InR n R' (t.bind f)
 | .ret a,q=>hf a q
 | .ask i j k,q=>⟨q.1,q.2.1,fun b=>InR.bind hf (q.2.2 b)⟩
theorem Bn {α:Type}{n:Nat}{R:α->Prop}{ans:Nat->Nat->Bool}:∀ {t:a0R α},InR n R t->R (aR ans t)
 | .ret a,q=>q
 | .ask i j k,h=>Bn (t:=k (ans i j)) (h.2.2 _)
section
variable {n:Nat}
noncomputable def IxOk (n:Nat)(p:Array Nat):Prop:=p.Perm (RA n).toArray
theorem IxOk.lt {p:Array Nat}(h:IxOk n p)(h0:0<n)(i:Nat):p.getD i 0<n:=by
 by_cases hi:i<p.size
 ·have e:p.getD i 0=p[i]:=by simp [Tp,hi]
  rw [e]
  have hm:p[i]∈p:=Array.getElem_mem hi
  have hm2:p[i]∈(RA n).toArray:=h.mem_iff.mp hm
  simpa using hm2
 ·have e:p.getD i 0=0:=by simp [Tp,hi]
  rw [e];exact h0
theorem IxOk.rev {p:Array Nat}(h:IxOk n p)(i j:Nat):IxOk n (Ti p i j):=(a0m _ _ _ _).trans h
theorem IxOk.bub {p:Array Nat}(h:IxOk n p)(i j:Nat):IxOk n (a0u p i j):=(a0t _ _ _).trans h
theorem uW {p:Array Nat}(h:IxOk n p)(h0:0<n):∀ (f m:Nat),InR n (fun _=>True) (Tj p f m)
 | 0,m=>trivial
 | f+1,m=>⟨h.lt h0 _,h.lt h0 _,fun b=>by
   cases b with
   | true=>exact trivial
   | false=>exact uW h h0 f (m+1)⟩
theorem qN (h0:0<n):∀ (f:Nat)(p:Array Nat)(m q:Nat),IxOk n p->InR n (fun r=>IxOk n r.1) (S0 f p m q)
 | 0,p,m,q,h=>h
 | f+1,p,m,q,h=>⟨h.lt h0 _,h.lt h0 _,fun b=>by
   cases b with
   | true=>
    show InR n _ (if q>0 then S0 f (Ti p (m - (q+1)) m) (m+1) 0 else S0 f p (m+1) 0)
    split
    ·exact qN h0 f _ _ _ (h.rev _ _)
    ·exact qN h0 f _ _ _ h
   | false=>
    refine ⟨h.lt h0 _,h.lt h0 _,fun d=>?_⟩
    cases d with
    | true=>exact h
    | false=>exact qN h0 f _ _ _ h⟩
theorem Bo (h0:0<n){p:Array Nat}(h:IxOk n p)(a r:Nat):InR n (fun r=>IxOk n r.2) (Vg a r p):=
 by
 have h':IxOk n (Ti p 0 a):=h.rev 0 a
 unfold Vg
 refine InR.bind (R:=fun _=>True) (fun m _=>?_) (uW h' h0 _ _)
 exact h'
theorem Bp (h0:0<n){p:Array Nat}(h:IxOk n p)(a r:Nat):InR n (fun r=>IxOk n r.2) (TM a r p):=
 InR.bind (fun q hq=>by
  show InR n _ (if q.2.2>0 then Vg q.2.1 r (Ti q.1 (q.2.1 - (q.2.2+1)) q.2.1) else Vg q.2.1 r q.1)
  split
  ·exact Bo h0 (hq.rev _ _) _ _
  ·exact Bo h0 hq _ _) (qN h0 _ _ _ _ h)
theorem KQ (h0:0<n){p:Array Nat}(h:IxOk n p)(r:Nat):InR n (fun r=>IxOk n r.2) (Yi r p):=
 InR.bind (fun m _=>by
  show InR n _ (if (m == r)=true then Tn (m,p) else if m>1 then VN (p.getD 0 0) (p.getD (m - 1) 0) (fun c=>if c=true then Tn (m,p) else TM m r (Ti p 0 m)) else TM m r p)
  split
  ·exact h
  ·split
   ·refine ⟨h.lt h0 _,h.lt h0 _,fun b=>?_⟩
    cases b with
    | true=>exact h
    | false=>exact Bp h0 (h.rev _ _) _ _
   ·exact Bp h0 h _ _) (uW h h0 _ _)
theorem uX {p:Array Nat}(h:IxOk n p)(h0:0<n)(k:Nat):∀ (f l r:Nat),InR n (fun _=>True) (Sq p k f l r)
 | 0,l,r=>trivial
 | f+1,l,r=>by
  show InR n _ (if l >= r then Tn l else VN (p.getD k 0) (p.getD ((l+r) / 2) 0) fun c=>if c=true then Sq p k f l ((l+r) / 2) else Sq p k f ((l+r) / 2+1) r)
  split
  ·exact trivial
  ·refine ⟨h.lt h0 _,h.lt h0 _,fun b=>?_⟩
   cases b with
   | true=>exact uX h h0 k f _ _
   | false=>exact uX h h0 k f _ _
theorem Bq (h0:0<n):∀ (f:Nat)(p:Array Nat)(k:Nat),IxOk n p->InR n (IxOk n) (WN f p k)
 | 0,p,k,h=>h
 | f+1,p,k,h=>InR.bind (fun l _=>Bq h0 f _ _ (h.bub _ _)) (uX h h0 k _ _ _)
theorem KR (h0:0<n):InR n (IxOk n) (WM n):=
 InR.bind (fun r hr=>by
  show InR n _ (if r.1<n then WN (n - max r.1 1) r.2 (max r.1 1) else Tn r.2)
  split
  ·exact Bq h0 _ _ _ hr
  ·exact hr) (KQ h0 (Array.Perm.refl _) n)
end
noncomputable def bT (lt:Nat->Nat->Bool)(n:Nat):List Nat:=(aR lt (WM n)).toList
theorem Br (lt:Nat->Nat->Bool){n:Nat}(h0:0<n):(bT lt n).Perm (RA n):=by
 have h:IxOk n (aR lt (WM n)):=Bn (KR h0)
 have:=Array.perm_iff_toList_perm.mp h
 simpa [bT] using this
section
variable {X:Cx}{a0V:List (Addr×SD)}{σ:St}{H:Hp}{s:Qj}
end
noncomputable abbrev TupsV (K:Qf)(H:Hp):List V->List (List Int)->Prop:=Ur fun v t=>∃ a,v=V.ref a/\SqT K H a (t.map V.int)
theorem TupsV.get {K:Qf}{H:Hp}:∀ {vs:List V}{ts:List (List Int)}{i:Nat},TupsV K H vs ts->i<vs.length->∃ a,vs[i]? = some (V.ref a)/\SqT K H a ((ts.getD i []).map V.int)
 | _,_,_,.nil,h=>by simp at h
 | _,_,0,.cons ⟨a,e,q⟩ _,_=>⟨a,by rw [e];rfl,q⟩
 | _,_,i+1,.cons _ t,h=>by
  obtain ⟨a,e,q⟩:=TupsV.get (i:=i) t (by simpa using h)
  exact ⟨a,by simpa using e,q⟩
section
open PyProof.Rows
variable {prog:QR}{w:Rg}{A:Q0}{E:Qg->Qj->Prop}{s:Qj}
theorem Bs {c:Addr}{us:List Qg}{z:Nat}{R:Fin->Qj->Prop}(hu:us.length<2)(g:s.heap.get? c=some (RZ "list" us.toArray z)) (q:R (.done (.ret .none)) { s with heap:=Ww s.heap c us us.toArray }) :
  QV (QX prog w) A (Builtin.«list.sort» ⟨[.ref c],[]⟩) R E s:=by
 rw [a0c]
 have lt:c<s.heap.objs.size:=QD g
 refine Qh (listItems_at g rfl (Qh (Ws g rfl ?_)))
 obtain ⟨y,g1⟩:∃ y,(s.heap.update c (RL fun _=>#[])).get? c=some (RZ "list" #[] y):=⟨_,a0e g _⟩
 refine Qh (Xg g1 rfl (Qh (Xw (Qh (Vt (RH ?_))))))
 have g6:(((s.heap.update c (RL fun _=>#[])).push (RZ "tuple" us.toArray 0)).push (RZ "list" #[] 0)).get? c=some (RZ "list" #[] y):=
  Qo _ (Qo _ g1)
 show QV (QX prog w) A _ R E ⟨((s.heap.update c (RL fun _=>#[])).push (RZ "tuple" us.toArray 0)).push (RZ "list" #[] 0),s.gens,s.drawn,s.toks,s.os⟩
 dsimp only
 have few:us.toArray.size<2:=by simpa using hu
 rw [if_pos few,if_pos few]
 refine Qh (Qt ?_)
 rw [StateT.run_pure]
 refine Qh (Qt ?_)
 dsimp only
 have ez:a0G (fun x=>x.2) (Za (Q1 general' (us.toArray.zip us.toArray) #[] 7 none))=us.toArray:=by
  show a0G (fun x=>x.2) (us.toArray.zip us.toArray)=us.toArray
  exact Array.ext (by simp) (fun i h1 h2=>by simp)
 refine Qh (Xg g6 rfl (Qh (Ws g6 rfl ?_ (hsz2:=by rw [ez,Ro];omega))))
 rw [ez]
 simp only [bne_self_eq_false,Qp,if_false]
 exact Qt q
end
theorem KS (lt:Nat->Nat->Bool):bT lt 1=[0]:=rfl
theorem Bt (lt:Nat->Nat->Bool):bT lt 0=[]:=rfl
theorem fJ (lt:Nat->Nat->Bool)(n:Nat):(bT lt n).Perm (RA n):=by
 cases n with
 | zero=>rw [Bt];exact .nil
 | succ n=>exact Br lt (XF n)
section
variable {X:Cx}
end
theorem Bu {ns:List Int}{us:List Qg}(h:Vals (ns.map V.int) us):Ul us ns:=zZ h
section
variable {X:Cx}
end
end L3
namespace L3
open PySem L2 PySem.W PyProof.Rows
noncomputable def qO:Bool->Keyed->Array Keyed->Nat->Nat->Nat->StateT SO YD (Option Nat):=sortPriv% PySem.Builtin.gallop
section
variable {M:Zd}{A:Q0}{E:Qg->Qj->Prop}{σ:Type}
theorem iW {β:Type}{f:Nat->β->StateT σ YD (ForInStep β)}{st:σ}{s:Qj}{Q:β->σ->Qj->Prop}(Iv:Nat->β->Prop)(Dn:β->Prop)(n:Nat)
  (step:∀ i x b,i<n->Iv i b->UE M A E (f x b) (fun r st' s'=>st'=st/\s'=s/\match r with|.done c=>Dn c|.yield c=>Iv (i+1) c) st s)(fin:∀ b,Iv n b->Dn b)(k:∀ b,Dn b->Q b st s) :
  ∀ (l:List Nat)(i:Nat)(b:β),i+l.length=n->Iv i b->UE M A E (forIn l b f) Q st s
 | [],i,b,h,hI=>kasC_nil (k b (fin b (by simp at h;subst h;exact hI)))
 | x::l,i,b,h,hI=>by
  rw [QU] at h
  refine kasC_cons (Rv (step i x b (by omega) hI) (fun r s' q=>?_) fun _ _ e=>e)
  obtain ⟨r,st'⟩:=r
  obtain ⟨q1,q2,q3⟩:=q
  dsimp only at q1 q2
  subst q1 q2
  cases r with
  | done c=>exact k c q3
  | yield c=>exact iW Iv Dn n step fin k l (i+1) c (by omega) q3
end
section
variable {prog:QR}{w:Rg}{A:Q0}{E:Qg->Qj->Prop}{κ:Ue}{st:SO}{s:Qj}
noncomputable def eC (prog:QR)(w:Rg)(A:Q0)(κ:Ue)(s:Qj)(X:Keyed->Prop)(an:Keyed->Keyed->Bool):Prop:=
 ∀ (x y:Keyed)(C:Bool->Qj->Prop),X x->X y->C (an x y) s->QV (QX prog w) A (Zv κ x.1 y.1) C (fun _ _=>False) s
theorem n4 {X:Keyed->Prop}{an:Keyed->Keyed->Bool}(hC:eC prog w A κ s X an)(hk:kindOf st=κ){x y:Keyed}(hx:X x)(hy:X y){Q:Option Bool->SO->Qj->Prop}(q:Q (some (an x y)) st s):UE (QX prog w) A E (lt' x y) Q st s:=by
 rw [lt'_eq]
 refine Qw (UD ?_)
 rw [hk]
 exact Qw (VG (X2 (Rv (hC x y (fun b s'=>b=an x y/\s'=s) hx hy ⟨rfl,rfl⟩) (fun b s' z=>by obtain ⟨rfl,rfl⟩:=z;exact QF q) fun _ _ f=>f.elim)))
theorem KU {x:SO}{Q:PUnit->SO->Qj->Prop}(h:Q ⟨⟩ x s):UE (QX prog w) A E (set x:StateT SO YD PUnit) Q st s:=by
 unfold UE;rw [StateT.run_set];exact Qt h
theorem uY {ar:Array Keyed}{i:Nat}{x:Keyed}{Q:Keyed->SO->Qj->Prop}(h:ar[i]? = some x)(q:Q x st s):UE (QX prog w) A E (elem' ar i) Q st s:=by
 rw [elem'_eq,h];exact QF q
noncomputable def Bv:Array Keyed->Array Keyed->StateT SO YD (Array Keyed):=sortPriv% PySem.Builtin.mergeLo
noncomputable def Bw:Array Keyed->Array Keyed->StateT SO YD (Array Keyed):=sortPriv% PySem.Builtin.mergeHi
theorem Bx:∀ (l:List Keyed)(ar:Array Keyed)(o k:Nat),o+k+l.length<=ar.size->((l.zipIdx k).foldl (fun (a:Array Keyed)(x:Keyed×Nat)=>a.setIfInBounds (o+x.2) x.1) ar).toList=ar.toList.take (o+k)++l++ar.toList.drop (o+k+l.length)
 | [],ar,o,k,h=>by simp
 | x::l,ar,o,k,h=>by
  rw [List.zipIdx_cons,WH,Bx l _ o (k+1) (by rw [Array.size_setIfInBounds];rw [QU] at h;omega)]
  rw [QU] at h
  have hk:o+k<ar.toList.length:=by simp;omega
  rw [WY,QU]
  dsimp only
  rw [show o+(k+1)=o+k+1 by omega,YO,Rz hk,X7 (Qq _),List.drop_set_of_lt (by omega)]
  simp [show o+k+1+l.length=o+k+(l.length+1) by omega]
theorem KW {X:Keyed->Prop}{an:Keyed->Keyed->Bool}(hC:eC prog w A κ s X an)(hk:a0o st=κ){i j:Nat}{x y:Keyed}(hi:(Za st)[i]? = some x)(hj:(Za st)[j]? = some y)(hx:X x)(hy:X y){Q:Option Bool->SO->Qj->Prop}(q:Q (some (an x y)) st s):UE (QX prog w) A E (ltAt' i j) Q st s:=by
 rw [ltAt'_eq]
 refine Qw (UD ?_)
 refine Qw (uY hi (Qw (uY hj (n4 hC hk hx hy q))))
end
section
variable {prog:QR}{w:Rg}{A:Q0}{E:Qg->Qj->Prop}{s:Qj}
theorem KY (us:List Qg):(us.toArray.zip us.toArray).toList=us.map fun u=>(u,u):=by
 simp only [Array.toList_zip]
 induction us with
 | nil=>rfl
 | cons u us ih=>simpa using ih
structure Near (us:List Qg)(n K:Nat)(an:Qg->Qg->Bool):Prop where
 len:us.length=n+1
 le:K<=n
 asc:∀ (i:Nat)(x z:Qg),i+1<n->us[i+1]? = some x->us[i]? = some z->an x z=false
 ris:∀ x z,us[0]? = some x->us[n - 1]? = some z->an x z=true
 at_:∀ (i:Nat)(x z:Qg),i<n->us[i]? = some x->us[n]? = some z->an z x=decide (K<=i)
noncomputable def qP (prog:QR)(w:Rg)(A:Q0)(us:List Qg)(an:Qg->Qg->Bool)(s:Qj):Prop:=
 QV (QX prog w) A (keyKind' us.toArray) (fun κ s'=>s'=s/\∀ (x y:Qg)(C:Bool->Qj->Prop),x∈us->y∈us->C (an x y) s->QV (QX prog w) A (Zv κ x y) C (fun _ _=>False) s) (fun _ _=>False) s
end
section
variable {X:Cx}{a0V:List (Addr×SD)}{σ:L2.St}{H:Hp}{s:Qj}
theorem KZ (I:L2.Inv X a0V σ H s){a:Addr}{t t':List Int}(h:SqT X.K H a (t.map V.int))(h':SqT X.K H a (t'.map V.int)):t=t':=
 (Yp fun x y h=>by cases h;rfl).mp (I.tuple_inj h h')
open Classical in
noncomputable def tv (K:Qf)(H:Hp):Qg->List Int
 | .ref a=>if h:∃ t:List Int,SqT K H a (t.map V.int) then h.choose else []
 | _=>[]
end
end L3
namespace L3
open PySem PySem.Spec
namespace Tb
section
variable {prog:QR}{w:Rg}{A:Q0}{E:Qg->Qj->Prop}{s:Qj}
noncomputable abbrev IsT (prog:QR)(w:Rg)(h:RG)(k:List Int)(b:Addr):Prop:=IsTupleKey (UG prog w) h k b
end
section
variable {prog:QR}{w:Rg}{A:Q0}{R:YE->Qj->Prop}{I:Addr}{fp wr:List Addr}{G:Array Zh->Array Zh->Prop}{n:Nat}{P:Nat->Qg->Prop}{St:Nat->Qj->Prop}
end
section
variable {prog:QR}{w:Rg}{A:Q0}{E:Qg->Qj->Prop}{s:Qj}
noncomputable abbrev eB (led:Bool):SD:={ cls:=.type "set",dict:=none,data:=.set #[] 0 (.fresh 0 0 led) }
end
end Tb
end L3
namespace L3
open PySem L2
open PyProof.Rows (IntsAre)
theorem uZ:∀ {ds:List D}{k:List Int},qI ds=some k->ds=k.map D.int
 | [],k,h=>by cases h;rfl
 | d::ds,k,h=>by
  cases d with
  | int i=>
   obtain ⟨k',h1,h2⟩:=Qk.mp h
   subst h2
   rw [uZ h1];rfl
  | _=>cases h
theorem By {x:D}{k:List Int}(h:cL x=some k):x=.tup (k.map D.int):=by
 cases x with
 | tup ds=>rw [uZ h]
 | _=>cases h
noncomputable def kR (μ:Hm):D->Option (List D)
 | .rol xs=>some xs
 | .loc a=>match μ[a]? with
  | some (.lst xs)=>some xs
  | _=>none
 | _=>none
section
variable {K:Qf}{π:Nat->Addr}{n:Nat}{H:Hp}{μ:Hm}
theorem qQ {v:V}{x:D}{xs:List D}(R:Rp K π H μ)(h:IsD K π μ.length H v x)(e:kR μ x=some xs):∃ p vs,v=.ref p/\SqL K H p vs/\IsDs K π μ.length H vs xs:=by
 cases h with
 | rol q t=>cases e;exact ⟨_,_,rfl,q.sq,t⟩
 | @loc a ha=>
  simp only [kR] at e
  split at e
  ·rename_i ys hy
   cases e
   obtain ⟨vs,h3,h4⟩:=R.lst a xs hy
   exact ⟨_,vs,rfl,.of h3,h4⟩
  ·cases e
 | _=>cases e
theorem ints_of':∀ {vs:List V}{k:List Int},IsDs K π n H vs (k.map D.int)->vs=k.map V.int
 | _,[],h=>by cases h;rfl
 | _,i::k,h=>by
  cases h with
  | cons h t=>cases h;rw [ints_of' t];rfl
theorem qR:∀ (k:List Int),IsDs K π n H (k.map V.int) (k.map D.int)
 | []=>.nil
 | i::k=>.cons (.int i) (qR k)
end
theorem Bz {X:Cx}:∀ {k:List Int}{xs:List Qg},Vals (k.map V.int) xs->ItemsAre (UG X.prog X.w) k xs
 | [],_,h=>by cases h;exact .nil
 | i::k,_,h=>by
  cases h with
  | cons h t=>
   obtain ⟨tk,rfl⟩:=h
   exact .cons (intKind_is _ _ _ _) (Bz t)
section
variable {X:Cx}{a0V:List (Addr×SD)}{σ:St}{H:Hp}{s:Qj}
theorem gP (I:Inv X a0V σ H s){b:Addr}{k:List Int}(h:SqT X.K H b (k.map V.int)):Tb.IsT X.prog X.w s.heap k b:=by
 obtain ⟨xs,rx,⟨ob,e,c,n,d⟩,_⟩:=I.tuple h
 exact ⟨ob,xs.toArray,n,e,c,d,by simpa using Bz rx⟩
theorem call_lenT:CallR X (.builtin "len") (fun xs H Q=>∃ a L,xs=[V.ref a]/\H a=some (pP a L)/\Q (.int L.length) H):=by
 intro a0V s σ H xs us Q I r h
 obtain ⟨a,L,rfl,ha,q⟩:=h
 obtain ⟨u,rfl,ru⟩:=fP r
 cases ru
 obtain ⟨⟨o,ho,led,es,ep,t,R,hex,hd,he,ok,hp,hnd,hm,hf5,hpl,hle⟩,_,_⟩:=I.hok a _ ha
 have hsz:es.size=L.length:=by
  have:=hp.length_eq
  simpa using this
 have hm5:t.mask<=511:=by rcases hm with h|h|h|h<;>omega
 refine call_len_set ho hex hd (Tb.fits_of ok he) (by rw [hsz];omega) ?_
 rw [hsz]
 exact ⟨.int L.length,H,I.tok _,⟨_,rfl⟩,q⟩
end
end L3
namespace L3
open PySem L2
noncomputable def mG (ks:List (List Int)):Nat->Nat->Bool:=fun i j=>HT.lexLt (ks.getD i []) (ks.getD j [])
theorem BA {K:Qf}{π:Nat->Addr}{n:Nat}{H:Hp}:∀ {vs:List V}{xs:List D}(i:Nat),IsDs K π n H vs xs->IsD K π n H (vs.getD i .non) (xs.getD i .non)
 | _,_,i,.nil=>by simp;exact .non
 | _,_,0,.cons h _=>h
 | _,_,i+1,.cons _ t=>by simpa using BA i t
theorem BB {K:Qf}{π:Nat->Addr}{n:Nat}{H:Hp}{vs:List V}{xs:List D}(h:IsDs K π n H vs xs):∀ (l:List Nat),IsDs K π n H (l.map fun i=>vs.getD i .non) (l.map fun i=>xs.getD i .non)
 | []=>.nil
 | i::l=>.cons (BA i h) (BB h l)
end L3
namespace L3
open PySem L2 PySem.W PyProof.Rows
section
variable {prog:QR}{w:Rg}{A:Q0}{E:Qg->Qj->Prop}{κ:Ue}{st:SO}{s:Qj}
theorem K0 {i j:Nat}{Q:Unit->SO->Qj->Prop}(q:Q () (setArr st (a0N (Za st) i j ((j - i) / 2))) s):UE (QX prog w) A E (reverseSlice' i j) Q st s:=by
 rw [reverseSlice'_eq];exact Tr q
end
noncomputable def dH (a b:Str):Bool:=decide (a.cps.toList<b.cps.toList)
theorem BC:∀ {ss:List Str}{its:List Qg},Vals (ss.map V.str) its->StrsAre its ss
 | [],_,h=>by cases h;exact .nil
 | x::ss,_,h=>by
  cases h with
  | cons h t=>
   obtain ⟨k,rfl⟩:=h
   exact .cons x k (BC t)
end L3
namespace L3
open PySem L2 PySem.W PyProof.Rows
section
variable {M:Zd}{A:Q0}{E:Qg->Qj->Prop}{σ:Type}
theorem fT {β:Type}{f:Nat->β->StateT σ YD (ForInStep β)}{s:Qj}{Q:β->σ->Qj->Prop}(Iv:Nat->β->σ->Prop)(Dn:β->σ->Prop)(a n:Nat)
  (step:∀ i b st,i<n->Iv i b st->UE M A E (f (a+i) b) (fun r st' s'=>s'=s/\match r with|.done c=>Dn c st'|.yield c=>Iv (i+1) c st') st s)(fin:∀ b st,Iv n b st->Dn b st)(k:∀ b st,Dn b st->Q b st s) :
  ∀ (m i:Nat)(b:β)(st:σ),i+m=n->Iv i b st->UE M A E (forIn (Vd (a+i) m) b f) Q st s
 | 0,i,b,st,h,hI=>kasC_nil (k b st (fin b st (by simp at h;subst h;exact hI)))
 | m+1,i,b,st,h,hI=>by
  rw [Wu]
  refine kasC_cons (Rv (step i b st (by omega) hI) (fun r s' q=>?_) fun _ _ e=>e)
  obtain ⟨r,st'⟩:=r
  obtain ⟨q1,q2⟩:=q
  subst q1
  cases r with
  | done c=>exact k c _ q2
  | yield c=>exact fT Iv Dn a n step fin k m (i+1) c st' (by omega) q2
end
section
variable {prog:QR}{w:Rg}{A:Q0}{E:Qg->Qj->Prop}{κ:Ue}{st:SO}{s:Qj}
theorem BE {X:Keyed->Prop}{an:Keyed->Keyed->Bool}(hC:eC prog w A κ s X an)(hk:kindOf st=κ){lf:Bool}{ky:Keyed}{ar:Array Keyed}{b n h:Nat}(hn:h<n)(y:Nat->Keyed)(ha:∀ i,i<n->ar[b+i]? = some (y i))(hX:∀ i,i<n->X (y i))(hy:X ky)(K:Nat)(hK:K<=n)
  (hB:∀ i,i<n->(if lf then an (y i) ky else !(an ky (y i)))=decide (i<K)){Q:Option Nat->SO->Qj->Prop}(q:Q (some K) st s):UE (QX prog w) A E (qO lf ky ar b n h) Q st s:=by
 have be:∀ {i:Nat}{R:Option Bool->SO->Qj->Prop},i<n->R (some (decide (i<K))) st s->UE (QX prog w) A E (do let x <- elem' ar (b+i);if lf then lt' x ky else return (<- lt' ky x).map (!·)) R st s:=by
  intro i R hi r
  rw [elem'_eq,ha i hi]
  refine Qw (QF ?_)
  have:=hB i hi
  cases lf with
  | true=>
   simp only [if_true] at this ⊢
   exact n4 hC hk (hX i hi) hy (by rw [this];exact r)
  | false=>
   simp only [Qp,if_false] at this ⊢
   refine Qw (n4 hC hk hy (hX i hi) (QF ?_))
   show R (some (!(an ky (y i)))) st s
   rw [this]
   exact r
 unfold qO
 refine Qw (be hn ?_)
 by_cases h0:h<K
 ·simp only [h0,decide_true,if_true]
  refine Qw (Sw (iW (fun i c=>c.1=none/\h+c.2.1<K/\c.2.1<c.2.2/\i+1<=c.2.2) (fun c=>c.1=none/\h+c.2.1<K/\c.2.1<c.2.2/\K<=h+min c.2.2 (n - h)) n (fun i x c hi hI=>?_) (fun c hI=>⟨hI.1,hI.2.1,hI.2.2.1,by omega⟩) (fun c hD=>?_) _ 0 _ (by simp) ⟨rfl,h0,by decide,Qq _⟩))
  ·obtain ⟨c0,la,of⟩:=c
   obtain ⟨z0,z1,z2,z3⟩:=hI
   dsimp only at z0 z1 z2 z3 ⊢
   by_cases hl:of >= n - h
   ·rw [if_pos hl]
    exact QF ⟨rfl,rfl,rfl,z1,z2,by dsimp only;omega⟩
   ·rw [if_neg hl]
    refine Qw (be (i:=h+of) (by omega) ?_)
    by_cases hm:h+of<K
    ·simp only [hm,decide_true,RS,Qp,if_false]
     exact QF ⟨rfl,rfl,rfl,by dsimp only;omega,by dsimp only;omega,by dsimp only;omega⟩
    ·simp only [hm,decide_false,VO,if_true]
     exact QF ⟨rfl,rfl,rfl,z1,z2,by dsimp only;omega⟩
  ·obtain ⟨c0,la,of⟩:=c
   obtain ⟨z0,z1,z2,z3⟩:=hD
   dsimp only at z0 z1 z2 z3 ⊢
   subst z0
   dsimp only
   refine Qw (Sw (iW (fun i c=>c.1=none/\c.2.1<=K/\K<=c.2.2/\c.2.2<=n/\c.2.2 - c.2.1<=n - i) (fun c=>c.1=none/\c.2.2=K) n (fun i x c hi hI=>?_) (fun c hI=>⟨hI.1,by omega⟩) (fun c hD=>?_) _ 0 _ (by simp) ⟨rfl,by dsimp only;omega,by dsimp only;omega,by dsimp only;omega,by dsimp only;omega⟩))
   ·obtain ⟨c0,lo,hg⟩:=c
    obtain ⟨h0,h1,h2,h3,h4⟩:=hI
    dsimp only at h0 h1 h2 h3 h4 ⊢
    by_cases hl:lo >= hg
    ·rw [if_pos hl]
     exact QF ⟨rfl,rfl,rfl,by dsimp only;omega⟩
    ·rw [if_neg hl]
     refine Qw (be (i:=lo+(hg - lo) / 2) (by omega) ?_)
     by_cases hm:lo+(hg - lo) / 2<K
     ·simp only [hm,decide_true,if_true]
      exact QF ⟨rfl,rfl,rfl,by dsimp only;omega,h2,h3,by dsimp only;omega⟩
     ·simp only [hm,decide_false,Qp,if_false]
      exact QF ⟨rfl,rfl,rfl,h1,by dsimp only;omega,by dsimp only;omega,by dsimp only;omega⟩
   ·obtain ⟨c0,lo,hg⟩:=c
    obtain ⟨h0,h1⟩:=hD
    dsimp only at h0 h1 ⊢
    subst h0 h1
    exact QF q
 ·simp only [h0,decide_false,Qp,if_false]
  refine Qw (Sw (iW (fun i c=>c.1=none/\K+c.2.1<=h/\c.2.1<c.2.2/\i+1<=c.2.2) (fun c=>c.1=none/\K+c.2.1<=h/\c.2.1<c.2.2/\h+1<=K+min c.2.2 (h+1)) n (fun i x c hi hI=>?_) (fun c hI=>⟨hI.1,hI.2.1,hI.2.2.1,by omega⟩) (fun c hD=>?_) _ 0 _ (by simp) ⟨rfl,by dsimp only;omega,by decide,Qq _⟩))
  ·obtain ⟨c0,la,of⟩:=c
   obtain ⟨z0,z1,z2,z3⟩:=hI
   dsimp only at z0 z1 z2 z3 ⊢
   by_cases hl:of >= h+1
   ·rw [if_pos hl]
    exact QF ⟨rfl,rfl,rfl,z1,z2,by dsimp only;omega⟩
   ·rw [if_neg hl]
    refine Qw (be (i:=h - of) (by omega) ?_)
    by_cases hm:h - of<K
    ·simp only [hm,decide_true,if_true]
     exact QF ⟨rfl,rfl,rfl,z1,z2,by dsimp only;omega⟩
    ·simp only [hm,decide_false,Qp,if_false]
     exact QF ⟨rfl,rfl,rfl,by dsimp only;omega,by dsimp only;omega,by dsimp only;omega⟩
  ·obtain ⟨c0,la,of⟩:=c
   obtain ⟨z0,z1,z2,z3⟩:=hD
   dsimp only at z0 z1 z2 z3 ⊢
   subst z0
   dsimp only
   refine Qw (Sw (iW (fun i c=>c.1=none/\c.2.1<=K/\K<=c.2.2/\c.2.2<=n/\c.2.2 - c.2.1<=n - i) (fun c=>c.1=none/\c.2.2=K) n (fun i x c hi hI=>?_) (fun c hI=>⟨hI.1,by omega⟩) (fun c hD=>?_) _ 0 _ (by simp) ⟨rfl,by dsimp only;omega,by dsimp only;omega,by dsimp only;omega,by dsimp only;omega⟩))
   ·obtain ⟨c0,lo,hg⟩:=c
    obtain ⟨h0,h1,h2,h3,h4⟩:=hI
    dsimp only at h0 h1 h2 h3 h4 ⊢
    by_cases hl:lo >= hg
    ·rw [if_pos hl]
     exact QF ⟨rfl,rfl,rfl,by dsimp only;omega⟩
    ·rw [if_neg hl]
     refine Qw (be (i:=lo+(hg - lo) / 2) (by omega) ?_)
     by_cases hm:lo+(hg - lo) / 2<K
     ·simp only [hm,decide_true,if_true]
      exact QF ⟨rfl,rfl,rfl,by dsimp only;omega,h2,h3,by dsimp only;omega⟩
     ·simp only [hm,decide_false,Qp,if_false]
      exact QF ⟨rfl,rfl,rfl,h1,by dsimp only;omega,by dsimp only;omega,by dsimp only;omega⟩
   ·obtain ⟨c0,lo,hg⟩:=c
    obtain ⟨h0,h1⟩:=hD
    dsimp only at h0 h1 ⊢
    subst h0 h1
    exact QF q
end
section
variable {α:Type}{r:α->Int}{A B O:List α}{ia ib:Nat}
noncomputable def Sr (r:α->Int)(l:List α):Prop:=l.Pairwise fun x y=>r x<=r y
structure J (r:α->Int)(A B O:List α)(ia ib:Nat):Prop where
 sa:Sr r (O++A.drop ia)
 sb:Sr r (O++B.drop ib)
 pm:O.Perm (A.take ia++B.take ib)
theorem J.swap (h:J r A B O ia ib):J r B A O ib ia:=⟨h.sb,h.sa,h.pm.trans S9⟩
theorem J.blockB (h:J r A B O ia ib){k:Nat}(hk:∀ x∈(B.drop ib).take k,∀ y∈A.drop ia,r x<=r y):J r A B (O++(B.drop ib).take k) ia (ib+k):=by
 obtain ⟨h1,h2,h3⟩:=h
 have e:O++(B.drop ib).take k++B.drop (ib+k)=O++B.drop ib:=by rw [QK,<- W5,Rq]
 refine ⟨?_,by rw [e];exact h2,?_⟩
 ·unfold Sr at h1 h2 ⊢
  rw [QK,Sh]
  rw [Sh] at h1 h2
  refine ⟨h1.1,?_,fun x hx y hy=>?_⟩
  ·rw [Sh]
   exact ⟨h2.2.1.sublist (TN _ _),h1.2.1,hk⟩
  ·rcases RE.mp hy with hy|hy
   ·exact h2.2.2 x hx y (VL hy)
   ·exact h1.2.2 x hx y hy
 ·rw [List.take_add]
  exact ((h3.append_right _).trans (by rw [QK]))
theorem J.blockA (h:J r A B O ia ib){k:Nat}(hk:∀ x∈(A.drop ia).take k,∀ y∈B.drop ib,r x<=r y):J r A B (O++(A.drop ia).take k) (ia+k) ib:=(h.swap.blockB hk).swap
theorem n5 {l:List α}{i:Nat}{x:α}(h:l[i]? = some x):l.drop i=x::l.drop (i+1):=by
 obtain ⟨h1,rfl⟩:=Qi.mp h
 exact SN h1
theorem Sr.head {l:List α}{x:α}(h:Sr r (x::l)):∀ y∈x::l,r x<=r y:=fun y hy=>by
 rcases Q9.mp hy with rfl|hy
 ·exact WJ _
 ·exact Vb h hy
theorem J.lowA (h:J r A B O ia ib){x:α}(hx:A[ia]? = some x):∀ y∈A.drop ia,r x<=r y:=by
 have:=(Sh.mp h.sa).2.1
 rw [n5 hx] at this ⊢
 exact Sr.head this
theorem J.lowB (h:J r A B O ia ib){x:α}(hx:B[ib]? = some x):∀ y∈B.drop ib,r x<=r y:=h.swap.lowA hx
theorem J.pushB (h:J r A B O ia ib){x y:α}(hx:A[ia]? = some x)(hy:B[ib]? = some y)(hl:r y<=r x):J r A B (O++[y]) ia (ib+1):=by
 have:=h.blockB (k:=1) (by
  rw [n5 hy]
  intro z hz u hu
  rw [VW,U4,RF] at hz
  subst hz
  have:=h.lowA hx u hu
  omega)
 rwa [n5 hy,VW,U4] at this
theorem J.pushA (h:J r A B O ia ib){x y:α}(hx:A[ia]? = some x)(hy:B[ib]? = some y)(hl:r x<=r y):J r A B (O++[x]) (ia+1) ib:=(h.swap.pushB hy hx hl).swap
theorem BF {l:List α}{i k:Nat}{x:α}(h:x∈(l.drop i).take k):∃ j,j<k/\l[i+j]? = some x:=by
 obtain ⟨j,hj,e⟩:=S2 h
 rw [Q8] at hj
 refine ⟨j,by omega,?_⟩
 rw [<- e,Wf,YR,Ql]
theorem J.gallA (h:J r A B O ia ib){k:Nat}{y:α}(hy:B[ib]? = some y)(hk:∀ j x,j<k->A[ia+j]? = some x->r x<=r y):J r A B (O++(A.drop ia).take k) (ia+k) ib:=h.blockA fun x hx z hz=>by
 obtain ⟨j,hj,e⟩:=BF hx
 have h1:=hk j x hj e
 have h2:=h.lowB hy z hz
 omega
theorem J.gallB (h:J r A B O ia ib){k:Nat}{x:α}(hx:A[ia]? = some x)(hk:∀ j y,j<k->B[ib+j]? = some y->r y<=r x):J r A B (O++(B.drop ib).take k) ia (ib+k):=(h.swap.gallA hx hk).swap
noncomputable def Fi (r:α->Int)(A B R:List α):Prop:=R.Perm (A++B)/\Sr r R
theorem J.endB (h:J r A B O ia ib)(hb:B.length<=ib):Fi r A B (O++A.drop ia++B.drop ib):=by
 rw [RW hb,RY]
 refine ⟨?_,h.sa⟩
 have:=h.pm.append_right (A.drop ia)
 refine this.trans ?_
 rw [SG hb]
 refine S9.trans ?_
 rw [<- QK]
 refine (List.Perm.append_right B (S9)).trans ?_
 rw [Rq]
theorem J.endA (h:J r A B O ia ib)(ha:A.length<=ia):Fi r A B (O++A.drop ia++B.drop ib):=by
 have:=h.swap.endB ha
 rw [RW ha,RY] at this ⊢
 exact ⟨this.1.trans S9,this.2⟩
theorem J.last (h:J r A B O ia ib)(ha:A.length=ia+1)(hl:∀ x,A[ia]? = some x->∀ y∈B,r y<=r x):Fi r A B (O++B.drop ib++A.drop ia):=by
 have hx:A[ia]? = some A[ia]:=Ql (by omega)
 have g:=h.gallB (k:=B.length - ib) hx fun j y _ hy=>hl _ hx y (Q2 hy)
 have e:(B.drop ib).take (B.length - ib)=B.drop ib:=SG (by rw [Rt];exact Qq _)
 rw [e] at g
 have:=g.endB (by omega)
 rwa [RW (l:=B) (i:=ib+(B.length - ib)) (by omega),RY] at this
end
end L3
namespace L3
open PySem L2 PySem.W PyProof.Rows
section
variable {prog:QR}{w:Rg}{A₀:Q0}{E:Qg->Qj->Prop}{κ:Ue}{st:SO}{s:Qj}{A B:List Keyed}
theorem BG (A:List Keyed)(i:Nat):(A.toArray.extract i A.toArray.size).toList=A.drop i:=by
 rw [XR,Xd,RQ,Qn,SG (by rw [Rt];exact Qq _)]
theorem n6 (A:List Keyed)(i j:Nat):(A.toArray.extract i j).toList=(A.drop i).take (j - i):=by
 rw [XR,Xd,RQ]
theorem u3 (A:List Keyed)(i k:Nat):(A.toArray.extract i (i+k)).toList=(A.drop i).take k:=by
 rw [n6,SX]
theorem cV {i:Nat}{x:Keyed}{Q:Keyed->SO->Qj->Prop}(h:A[i]? = some x)(q:Q x st s):UE (QX prog w) A₀ E (elem' A.toArray i) Q st s:=uY (by rw [Ru];exact h) q
noncomputable def mH (p:Keyed->Bool)(l:List Keyed):Nat:=(l.takeWhile p).length
theorem BH (p:Keyed->Bool)(l:List Keyed):mH p l<=l.length:=a0z (List.takeWhile_sublist _)
theorem u4 {p:Keyed->Bool}:∀ {l:List Keyed},l.Pairwise (fun x y=>p y=true->p x=true)->∀ (i:Nat)(x:Keyed),l[i]? = some x->p x=decide (i<mH p l)
 | [],_,i,x,h=>by cases h
 | a::l,hp,i,x,h=>by
  unfold mH
  rw [S7] at hp
  cases hpa:p a with
  | true=>
   rw [X8,hpa,if_pos rfl,QU]
   cases i with
   | zero=>cases h;rw [hpa];simp
   | succ i=>
    have:=u4 hp.2 i x h
    unfold mH at this
    rw [this]
    simp
  | false=>
   rw [X8,hpa,if_neg RB,SY]
   cases i with
   | zero=>cases h;rw [hpa];simp
   | succ i=>
    cases hx:p x with
    | false=>simp
    | true=>
     have:=hp.1 x (Q2 h) hx
     rw [hpa] at this
     cases this
variable {X:Keyed->Prop}{r:Keyed->Int}
noncomputable abbrev lr (r:Keyed->Int)(x y:Keyed):Bool:=decide (r x<r y)
theorem Sr.le {l:List Keyed}(h:Sr r l)(b:Int):l.Pairwise (fun x y=>decide (r y<=b)=true->decide (r x<=b)=true):=h.imp fun {x y} h1 h2=>by
 rw [decide_eq_true_eq] at h2 ⊢;omega
theorem Sr.lt {l:List Keyed}(h:Sr r l)(b:Int):l.Pairwise (fun x y=>decide (r y<b)=true->decide (r x<b)=true):=h.imp fun {x y} h1 h2=>by
 rw [decide_eq_true_eq] at h2 ⊢;omega
theorem Sr.part {l:List Keyed}(h:Sr r l)(i k:Nat):Sr r ((l.drop i).take k):=(Sk (TN _ _) (Sk (Vf _ _) h))
theorem u6 (hC:eC prog w A₀ κ s X (lr r))(hk:kindOf st=κ){ky:Keyed}{b n h:Nat}(hn:h<n)(hl:b+n<=A.length)(hX:∀ x∈A,X x)(hy:X ky)(hS:Sr r ((A.drop b).take n))
  {Q:Option Nat->SO->Qj->Prop}(q:∀ K,K<=n->(∀ j x,j<n->A[b+j]? = some x->(r x<=r ky↔j<K))->Q (some K) st s):UE (QX prog w) A₀ E (qO false ky A.toArray b n h) Q st s:=by
 have hg:∀ i,i<n->A[b+i]? = some (A.getD (b+i) (.none,.none)):=fun i hi=>by
  rw [QZ,Ql (by omega)];rfl
 have hc:=u4 (hS.le (r ky))
 have hle:=BH (fun x=>decide (r x<=r ky)) ((A.drop b).take n)
 rw [Q8,Rt] at hle
 have at_:∀ j x,j<n->A[b+j]? = some x->((A.drop b).take n)[j]? = some x:=fun j x hj h=>by
  rw [RJ hj,Tw];exact h
 refine BE hC hk hn (fun i=>A.getD (b+i) (.none,.none)) (fun i hi=>by rw [Ru];exact hg i hi) (fun i hi=>hX _ (Q2 (hg i hi))) hy _ (by omega) (fun i hi=>?_) (q (mH (fun x=>decide (r x<=r ky)) ((A.drop b).take n)) (by omega) fun j x hj h=>?_)
 ·have:=hc i _ (at_ i _ hi (hg i hi))
  rw [if_neg RB,<- this]
  unfold lr
  by_cases h:r ky<r (A.getD (b+i) (.none,.none))
  ·rw [decide_eq_true h,decide_eq_false (by omega)];rfl
  ·rw [decide_eq_false h,decide_eq_true (by omega)];rfl
 ·have:=hc j x (at_ j x hj h)
  rw [<- decide_eq_true_eq (p:=r x<=r ky),this,decide_eq_true_eq]
theorem u7 (hC:eC prog w A₀ κ s X (lr r))(hk:kindOf st=κ){ky:Keyed}{b n h:Nat}(hn:h<n)(hl:b+n<=A.length)(hX:∀ x∈A,X x)(hy:X ky)(hS:Sr r ((A.drop b).take n))
  {Q:Option Nat->SO->Qj->Prop}(q:∀ K,K<=n->(∀ j x,j<n->A[b+j]? = some x->(r x<r ky↔j<K))->Q (some K) st s):UE (QX prog w) A₀ E (qO true ky A.toArray b n h) Q st s:=by
 have hg:∀ i,i<n->A[b+i]? = some (A.getD (b+i) (.none,.none)):=fun i hi=>by
  rw [QZ,Ql (by omega)];rfl
 have hc:=u4 (hS.lt (r ky))
 have hle:=BH (fun x=>decide (r x<r ky)) ((A.drop b).take n)
 rw [Q8,Rt] at hle
 have at_:∀ j x,j<n->A[b+j]? = some x->((A.drop b).take n)[j]? = some x:=fun j x hj h=>by
  rw [RJ hj,Tw];exact h
 refine BE hC hk hn (fun i=>A.getD (b+i) (.none,.none)) (fun i hi=>by rw [Ru];exact hg i hi) (fun i hi=>hX _ (Q2 (hg i hi))) hy _ (by omega) (fun i hi=>?_) (q (mH (fun x=>decide (r x<r ky)) ((A.drop b).take n)) (by omega) fun j x hj h=>?_)
 ·have:=hc i _ (at_ i _ hi (hg i hi))
  rw [if_pos rfl,<- this]
 ·have:=hc j x (at_ j x hj h)
  rw [<- decide_eq_true_eq (p:=r x<r ky),this,decide_eq_true_eq]
end
end L3
namespace L3
open PySem L2 PySem.W PyProof.Rows
section
variable {prog:QR}{w:Rg}{A₀:Q0}{E:Qg->Qj->Prop}{κ:Ue}{s:Qj}{A B:List Keyed}{X:Keyed->Prop}{r:Keyed->Int}
theorem bM {σ β:Type}{M:Zd}{A₁:Q0}{E₁:Qg->Qj->Prop}{s₁:Qj}{Q:β->σ->Qj->Prop}{st:σ}{c:Prop} [Decidable c] {a b:StateT σ YD β}(h2:¬ c->UE M A₁ E₁ b Q st s₁)(h1:c->UE M A₁ E₁ a Q st s₁):UE M A₁ E₁ (if c then a else b) Q st s₁:=by
 by_cases h:c
 ·rw [if_pos h];exact h1 h
 ·rw [if_neg h];exact h2 h
theorem iX (out:Array Keyed)(i j:Nat):(out++A.toArray.extract i A.toArray.size++B.toArray.extract j B.toArray.size).toList=out.toList++A.drop i++B.drop j:=by
 rw [SJ,SJ,BG,BG]
noncomputable def Go (r:Keyed->Int)(A B:List Keyed)(n:Nat)(out:Array Keyed)(ia ib:Nat):Prop:=J r A B out.toList ia ib/\ia+1<A.length/\ib<B.length/\n<=ia+ib
theorem K1 (hC:eC prog w A₀ κ s X (lr r))(hXA:∀ x∈A,X x)(hXB:∀ x∈B,X x)(hA:Sr r A)(hB:Sr r B)(hA0:0<A.length)(hB0:0<B.length)(hf:∀ y,B[0]? = some y->∀ x∈A,r y<=r x)(hl:∀ x,A[A.length - 1]? = some x->∀ y∈B,r y<=r x)
  {ar:Array Keyed}{pd:Array (Nat×Nat×Nat)}{mg:Nat}{Q:Array Keyed->SO->Qj->Prop}(q:∀ R mg',Fi r A B R.toList->Q R (Q1 κ ar pd mg' none) s) :
  UE (QX prog w) A₀ E (Bv A.toArray B.toArray) Q (Q1 κ ar pd mg none) s:=by
 have getA:∀ i,i<A.length->∃ x,A[i]? = some x/\X x:=fun i hi=>⟨A[i],Ql hi,hXA _ (S5 hi)⟩
 have getB:∀ i,i<B.length->∃ x,B[i]? = some x/\X x:=fun i hi=>⟨B[i],Ql hi,hXB _ (S5 hi)⟩
 have last:∀ {O:List Keyed}{ia ib:Nat},J r A B O ia ib->ia+1=A.length->Fi r A B (O++B.drop ib++A.drop ia):=fun {O ia ib} h e=>h.last e.symm fun x hx=>hl x (by rw [show A.length - 1=ia by omega];exact hx)
 unfold Bv
 refine Qw (VG (Up ?_))
 obtain ⟨y0,hy0,_⟩:=getB 0 hB0
 refine Qw (cV hy0 ?_)
 have j0:J r A B [y0] 0 1:=by
  refine ⟨?_,?_,?_⟩
  ·show Sr r (y0::A.drop 0)
   unfold Sr
   rw [S8,S7]
   exact ⟨fun x hx=>hf y0 hy0 x hx,hA⟩
  ·show Sr r (y0::B.drop 1)
   rw [<- n5 hy0,S8]
   exact hB
  ·rw [U4,Rw]
   cases B with
   | nil=>cases hy0
   | cons b B=>cases hy0;exact UQ _
 dsimp only
 by_cases h1:B.length=1
 ·rw [if_pos (by rw [Qn,h1];rfl)]
  refine QF (q _ _ ?_)
  rw [iX]
  exact j0.endB (by omega)
 rw [if_neg (by rw [Qn,beq_iff_eq];omega)]
 by_cases h2:A.length=1
 ·rw [if_pos (by rw [Qn,h2];rfl)]
  refine QF (q _ _ ?_)
  rw [iX]
  exact last j0 (by omega)
 rw [if_neg (by rw [Qn,beq_iff_eq];omega)]
 refine Qw (UD ?_)
 have htot:A.toArray.size+B.toArray.size=A.length+B.length:=by rw [Qn,Qn]
 refine Qw (Sw (fT (fun i c st=>(∃ mg',st=Q1 κ ar pd mg' none)/\∃ out ia ib m,c=(none,out,ia,ib,m)/\Go r A B (i+1) out ia ib) (fun c st=>(∃ mg',st=Q1 κ ar pd mg' none)/\∃ R:Array Keyed,c.1=some R/\Fi r A B R.toList) 0 (A.length+B.length) (fun i c st hi hI=>?_) (fun c st hI=>?_) (fun c st hD=>?_) (A.toArray.size+B.toArray.size - 0) 0 _ _ (by rw [htot];omega) ⟨⟨_,rfl⟩,_,_,_,_,rfl,j0,by omega,by omega,by omega⟩))
 ·obtain ⟨⟨mg1,rfl⟩,out,ia,ib,m,rfl,hG⟩:=hI
  dsimp only
    -- one by one
  refine Qw (Sw (fT (fun j c st=>st=Q1 κ ar pd mg1 none/\∃ out ia ib ac bc,c=(none,out,ia,ib,ac,bc)/\Go r A B (i+1+j) out ia ib) (fun c st=>st=Q1 κ ar pd mg1 none/\((∃ R:Array Keyed,c.1=some R/\Fi r A B R.toList)\/∃ out ia ib ac bc,c=(none,out,ia,ib,ac,bc)/\Go r A B (i+2) out ia ib)) 0 (A.length+B.length) (fun j c st hj hJ=>?_) (fun c st hJ=>?_) (fun c st hD=>?_) (A.toArray.size+B.toArray.size - 0) 0 _ _ (by rw [htot];omega) ⟨rfl,_,_,_,_,_,rfl,hG⟩))
  ·obtain ⟨rfl,out,ia,ib,ac,bc,rfl,g1,g2,g3,g4⟩:=hJ
   dsimp only
   obtain ⟨x,hx,Xx⟩:=getA ia (by omega)
   obtain ⟨y,hy,Xy⟩:=getB ib g3
   refine Qw (cV hy (Qw (cV hx (Qw (n4 hC rfl Xy Xx ?_)))))
   dsimp only
   by_cases hc:r y<r x
   ·rw [if_pos (by unfold lr;exact decide_eq_true hc)]
    refine Qw (cV hy ?_)
    have g5:=g1.pushB hx hy (VB hc)
    rw [<- So] at g5
    by_cases he:ib+1=B.length
    ·rw [if_pos (by rw [Qn,beq_iff_eq];exact he)]
     refine QF ⟨rfl,rfl,.inl ⟨_,rfl,?_⟩⟩
     rw [iX]
     exact g5.endB (by omega)
    ·rw [if_neg (by rw [Qn,beq_iff_eq];exact he)]
     split
     ·exact QF ⟨rfl,rfl,.inr ⟨_,_,_,_,_,rfl,g5,g2,by omega,by omega⟩⟩
     ·exact QF ⟨rfl,rfl,_,_,_,_,_,rfl,g5,g2,by omega,by omega⟩
   ·rw [if_neg (by unfold lr;rw [decide_eq_true_eq];exact hc)]
    refine Qw (cV hx ?_)
    have g5:=g1.pushA hx hy (by omega)
    rw [<- So] at g5
    by_cases he:ia+1+1=A.length
    ·rw [if_pos (by rw [Qn,beq_iff_eq];exact he)]
     refine QF ⟨rfl,rfl,.inl ⟨_,rfl,?_⟩⟩
     rw [iX]
     exact last g5 he
    ·rw [if_neg (by rw [Qn,beq_iff_eq];exact he)]
     split
     ·exact QF ⟨rfl,rfl,.inr ⟨_,_,_,_,_,rfl,g5,by omega,g3,by omega⟩⟩
     ·exact QF ⟨rfl,rfl,_,_,_,_,_,rfl,g5,by omega,g3,by omega⟩
  ·obtain ⟨rfl,out,ia,ib,ac,bc,rfl,g1,g2,g3,g4⟩:=hJ
   exact ⟨rfl,.inr ⟨_,_,_,_,_,rfl,g1,g2,g3,by omega⟩⟩
  ·obtain ⟨rfl,hD⟩:=hD
   obtain ⟨c0,out,ia,ib,ac,bc⟩:=c
   dsimp only
   rcases hD with ⟨R,e,hR⟩|⟨out',ia',ib',ac',bc',e,hG⟩
   ·dsimp only at e
    subst e
    exact QF ⟨rfl,⟨_,rfl⟩,R,rfl,hR⟩
   cases e
   dsimp only
   refine Qw (VG (Up ?_))
      -- by leaps
   refine Qw (Sw (fT (fun j c st=>(∃ mg',st=Q1 κ ar pd mg' none)/\∃ out ia ib m ac bc,c=(none,out,ia,ib,m,ac,bc)/\Go r A B (i+2) out ia ib) (fun c st=>(∃ mg',st=Q1 κ ar pd mg' none)/\((∃ R:Array Keyed,c.1=some R/\Fi r A B R.toList)\/∃ out ia ib m ac bc,c=(none,out,ia,ib,m,ac,bc)/\Go r A B (i+2) out ia ib)) 0 (A.length+B.length) (fun j c st hj hJ=>?_) (fun c st hJ=>?_) (fun c st hD=>?_) (A.toArray.size+B.toArray.size - 0) 0 _ _ (by rw [htot];omega) ⟨⟨_,rfl⟩,_,_,_,_,_,_,rfl,hG⟩))
   ·obtain ⟨⟨mg2,rfl⟩,out,ia,ib,m,ac,bc,rfl,g1,g2,g3,g4⟩:=hJ
    dsimp only
    obtain ⟨y,hy,Xy⟩:=getB ib g3
    refine bM (fun hm=>?_) fun hm=>?_
    all_goals
     refine Qw (Tr ?_)
     refine Qw (cV hy ?_)
     refine Qw (u6 hC rfl (b:=ia) (n:=A.toArray.size - ia) (h:=0) (by rw [Qn];omega) (by rw [Qn];omega) hXA Xy (hA.part _ _) fun k hk1 hk2=>?_)
     rw [Qn] at hk1
     dsimp only
     have g5:=g1.gallA (k:=k) hy fun j x hj hx=>(hk2 j x (by rw [Qn];omega) hx).mpr hj
     have nx:∀ x,A[ia+k]? = some x->r y<r x:=fun x hx=>by
      have h1:=(Qi.mp hx).1
      have:=hk2 k x (by rw [Qn];omega) hx
      omega
     have g6:k=0->J r A B out.toList (ia+k) ib:=fun e=>by rw [e];exact g1
     have e1:(out++A.toArray.extract ia (ia+k)).toList=out.toList++(A.drop ia).take k:=by rw [SJ,u3]
     rw [<- e1] at g5
     refine bM (fun hk0=>?_) fun hk0=>bM (fun he=>bM (fun he2=>?_) fun he2=>?_) fun he=>?_
     rotate_left 2
     ·rw [Qn,beq_iff_eq] at he2
      refine QF ⟨rfl,⟨_,rfl⟩,.inl ⟨_,rfl,?_⟩⟩
      rw [iX]
      exact g5.endA (by omega)
     ·rw [Qn,beq_iff_eq] at he
      refine QF ⟨rfl,⟨_,rfl⟩,.inl ⟨_,rfl,?_⟩⟩
      rw [iX]
      exact last g5 he
     have t0:ia<=ia:=Qq _
     have t1:=g1
     have t2:=g2
     have t3:∀ x,A[ia]? = some x->r y<r x:=by rw [show k=0 by omega] at nx;exact nx
     generalize hout:out=out' at t1 ⊢
     generalize hia:(ia:Nat)=ia' at t0 t1 t2 t3 ⊢
     rw [<- hia] at t0
     rotate_left
     rw [Qn,beq_iff_eq] at he he2
     have t0:ia<=ia+k:=by omega
     have t1:=g5
     have t2:ia+k+1<A.length:=by omega
     have t3:=nx
     generalize out++A.toArray.extract ia (ia+k)=out' at t1 ⊢
     generalize ia+k=ia' at t0 t1 t2 t3 ⊢
     all_goals
      obtain ⟨x,hx,Xx⟩:=getA ia' (by omega)
      have t5:=t1.pushB hx hy (VB (t3 x hx))
      rw [<- So] at t5
      refine Qw (cV hy ?_)
      refine bM (fun he=>?_) fun he=>?_
      rotate_left
      ·rw [Qn,beq_iff_eq] at he
       refine QF ⟨rfl,⟨_,rfl⟩,.inl ⟨_,rfl,?_⟩⟩
       rw [iX]
       exact t5.endB (by omega)
      rw [Qn,beq_iff_eq] at he
      refine Qw (cV hx ?_)
      refine Qw (u7 hC rfl (b:=ib+1) (n:=B.toArray.size - (ib+1)) (h:=0) (by rw [Qn];omega) (by rw [Qn];omega) hXB Xx (hB.part _ _) fun k' hm1 hm2=>?_)
      rw [Qn] at hm1
      dsimp only
      have u5:=t5.gallB (k:=k') hx fun j z hj hz=>VB ((hm2 j z (by rw [Qn];omega) hz).mpr hj)
      have nz:∀ z,B[ib+1+k']? = some z->r x<=r z:=fun z hz=>by
       have h1:=(Qi.mp hz).1
       have:=hm2 k' z (by rw [Qn];omega) hz
       omega
      have e2:(out'.push y++B.toArray.extract (ib+1) (ib+1+k')).toList=(out'.push y).toList++(B.drop (ib+1)).take k':=by rw [SJ,u3]
      rw [<- e2] at u5
      refine bM (fun hk1'=>?_) fun hk1'=>bM (fun hb=>?_) fun hb=>?_
      rotate_left 2
      ·rw [Qn,beq_iff_eq] at hb
       refine QF ⟨rfl,⟨_,rfl⟩,.inl ⟨_,rfl,?_⟩⟩
       rw [iX]
       exact u5.endB (by omega)
      have v1:=t5
      have v2:ib+1<B.length:=by omega
      have v3:∀ z,B[ib+1]? = some z->r x<=r z:=by rw [show k'=0 by omega] at nz;exact nz
      have v4:ib<ib+1:=by omega
      generalize out'.push y=ou at v1 ⊢
      generalize ib+1=jb at v1 v2 v3 v4 ⊢
      rotate_left
      rw [Qn,beq_iff_eq] at hb
      have v1:=u5
      have v2:ib+1+k'<B.length:=by omega
      have v3:=nz
      have v4:ib<ib+1+k':=by omega
      generalize out'.push y++B.toArray.extract (ib+1) (ib+1+k')=ou at v1 ⊢
      generalize ib+1+k'=jb at v1 v2 v3 v4 ⊢
      all_goals
       obtain ⟨z,hz,Xz⟩:=getB jb v2
       have v5:=v1.pushA hx hz (v3 z hz)
       rw [<- So] at v5
       refine Qw (cV hx ?_)
       refine bM (fun hf=>?_) fun hf=>?_
       ·rw [Qn,beq_iff_eq] at hf
        exact bM (fun _=>QF ⟨rfl,⟨_,rfl⟩,_,_,_,_,_,_,rfl,v5,by omega,v2,by omega⟩) fun _=>QF ⟨rfl,⟨_,rfl⟩,.inr ⟨_,_,_,_,_,_,rfl,v5,by omega,v2,by omega⟩⟩
       ·rw [Qn,beq_iff_eq] at hf
        refine QF ⟨rfl,⟨_,rfl⟩,.inl ⟨_,rfl,?_⟩⟩
        rw [iX]
        exact last v5 hf
   ·obtain ⟨h1,h2⟩:=hJ
    exact ⟨h1,.inr h2⟩
   ·obtain ⟨⟨mg2,rfl⟩,hD⟩:=hD
    obtain ⟨c0,out,ia,ib,m,ac,bc⟩:=c
    dsimp only
    rcases hD with ⟨R,e,hR⟩|⟨out',ia',ib',m',ac',bc',e,hG⟩
    ·dsimp only at e
     subst e
     exact QF ⟨rfl,⟨_,rfl⟩,R,rfl,hR⟩
    cases e
    dsimp only
    exact Qw (Tr (QF ⟨rfl,⟨_,rfl⟩,_,_,_,_,rfl,hG⟩))
 ·obtain ⟨_,out,ia,ib,m,rfl,g1,g2,g3,g4⟩:=hI
  omega
 ·obtain ⟨⟨mg1,rfl⟩,R,e,hR⟩:=hD
  obtain ⟨c0,c1⟩:=c
  dsimp only at e ⊢
  subst e
  exact QF (q R _ hR)
end
end L3
namespace L3
open PySem L2 PySem.W PyProof.Rows
section
variable {r:Keyed->Int}{A B O:List Keyed}{na nb:Nat}
noncomputable def JH (r:Keyed->Int)(A B O:List Keyed)(na nb:Nat):Prop:=na<=A.length/\nb<=B.length/\J (fun x=>-r x) B.reverse A.reverse O (B.length - nb) (A.length - na)
theorem mI {l:List Keyed}{n:Nat}{x:Keyed}(h:l[n - 1]? = some x)(h1:1<=n)(h2:n<=l.length):l.reverse[l.length - n]? = some x:=by
 rw [Sa (by omega),<- h]
 congr 1
 omega
theorem JH.pushA (h:JH r A B O na nb){x y:Keyed}(hx:A[na - 1]? = some x)(hy:B[nb - 1]? = some y)(h1:1<=na)(h2:1<=nb)(hl:r y<=r x):JH r A B (O++[x]) (na - 1) nb:=by
 obtain ⟨g1,g2,g3⟩:=h
 refine ⟨by omega,g2,?_⟩
 have:=g3.pushB (mI hy h2 g2) (mI hx h1 g1) (by omega)
 rw [show A.length - (na - 1)=A.length - na+1 by omega]
 exact this
theorem JH.pushB (h:JH r A B O na nb){x y:Keyed}(hx:A[na - 1]? = some x)(hy:B[nb - 1]? = some y)(h1:1<=na)(h2:1<=nb)(hl:r x<=r y):JH r A B (O++[y]) na (nb - 1):=by
 obtain ⟨g1,g2,g3⟩:=h
 refine ⟨g1,by omega,?_⟩
 have:=g3.pushA (mI hy h2 g2) (mI hx h1 g1) (by omega)
 rw [show B.length - (nb - 1)=B.length - nb+1 by omega]
 exact this
theorem BI {l:List Keyed}{n t:Nat}(h1:t<=n)(h2:n<=l.length):(l.reverse.drop (l.length - n)).take (n - t)=((l.drop t).take (n - t)).reverse:=by
 apply Ve
 intro i
 have hlen:((l.drop t).take (n - t)).length=n - t:=by rw [Q8,Rt];omega
 by_cases h:i<n - t
 ·rw [RJ h,Tw,Sa (by omega),Sa (by omega),hlen,RJ (by omega),Tw]
  congr 1
  omega
 ·rw [RP (by rw [Q8,Rt,SK];omega),RP (by rw [SK,hlen];omega)]
theorem JH.gallA (h:JH r A B O na nb){t:Nat}{y:Keyed}(hy:B[nb - 1]? = some y)(h2:1<=nb)(ht:t<=na)(hk:∀ j x,t<=j->j<na->A[j]? = some x->r y<=r x):JH r A B (O++((A.drop t).take (na - t)).reverse) t nb:=by
 obtain ⟨g1,g2,g3⟩:=h
 refine ⟨by omega,g2,?_⟩
 have:=g3.gallB (k:=na - t) (mI hy h2 g2) fun j z hj hz=>by
  have hz':A[A.length - 1 - (A.length - na+j)]? = some z:=by rw [<- hz,Sa (by omega)]
  have:=hk _ z (by omega) (by omega) hz'
  omega
 rw [BI ht g1] at this
 rw [show A.length - t=A.length - na+(na - t) by omega]
 exact this
theorem JH.gallB (h:JH r A B O na nb){t:Nat}{x:Keyed}(hx:A[na - 1]? = some x)(h1:1<=na)(ht:t<=nb)(hk:∀ j y,t<=j->j<nb->B[j]? = some y->r x<=r y):JH r A B (O++((B.drop t).take (nb - t)).reverse) na t:=by
 obtain ⟨g1,g2,g3⟩:=h
 refine ⟨g1,by omega,?_⟩
 have:=g3.gallA (k:=nb - t) (mI hx h1 g1) fun j z hj hz=>by
  have hz':B[B.length - 1 - (B.length - nb+j)]? = some z:=by rw [<- hz,Sa (by omega)]
  have:=hk _ z (by omega) (by omega) hz'
  omega
 rw [BI ht g2] at this
 rw [show B.length - t=B.length - nb+(nb - t) by omega]
 exact this
theorem mJ {l:List Keyed}{n:Nat}:l.reverse.drop (l.length - n)=(l.take n).reverse:=by
 rw [List.reverse_take]
theorem Fi.rev {R:List Keyed}(h:Fi (fun x=>-r x) B.reverse A.reverse R):Fi r A B R.reverse:=by
 refine ⟨(Vc R).trans (h.1.trans ((List.Perm.append (Vc B) (Vc A)).trans S9)),?_⟩
 unfold Sr
 rw [VE]
 exact h.2.imp fun {x y} h=>by dsimp only at h;omega
theorem JH.endA (h:JH r A B O na nb)(hn:na=0):Fi r A B (A.take na++B.take nb++O.reverse):=by
 obtain ⟨g1,g2,g3⟩:=h
 have:=(g3.endB (by rw [SK];omega)).rev
 rw [mJ,mJ] at this
 simpa using this
theorem JH.endB (h:JH r A B O na nb)(hn:nb=0):Fi r A B (A.take na++B.take nb++O.reverse):=by
 obtain ⟨g1,g2,g3⟩:=h
 have:=(g3.endA (by rw [SK];omega)).rev
 rw [mJ,mJ] at this
 simpa using this
theorem JH.last (h:JH r A B O na nb)(hn:nb=1)(hf:∀ y,B[0]? = some y->∀ x∈A,r y<=r x):Fi r A B (B.take nb++A.take na++O.reverse):=by
 obtain ⟨g1,g2,g3⟩:=h
 have:=(g3.last (by rw [SK];omega) fun y hy x hx=>by
  have hy':B[0]? = some y:=by rw [<- hy,Sa (by omega)];congr 1;omega
  have:=hf y hy' x (Y0.mp hx)
  omega).rev
 rw [mJ,mJ] at this
 simpa using this
variable {prog:QR}{w:Rg}{A₀:Q0}{E:Qg->Qj->Prop}{κ:Ue}{s:Qj}{X:Keyed->Prop}
theorem iY (out:Array Keyed)(i j:Nat):(A.toArray.extract 0 i++B.toArray.extract 0 j++out.reverse).toList=A.take i++B.take j++out.toList.reverse:=by
 rw [SJ,SJ,n6,n6,XQ,S8,S8,XG,XG]
theorem BJ (out:Array Keyed)(A:List Keyed)(t n:Nat):(out++(A.toArray.extract t n).reverse).toList=out.toList++((A.drop t).take (n - t)).reverse:=by
 rw [SJ,XQ,n6]
noncomputable def n8 (r:Keyed->Int)(A B:List Keyed)(n:Nat)(out:Array Keyed)(na nb:Nat):Prop:=JH r A B out.toList na nb/\1<=na/\2<=nb/\n+na+nb<=A.length+B.length
theorem K2 (hC:eC prog w A₀ κ s X (lr r))(hXA:∀ x∈A,X x)(hXB:∀ x∈B,X x)(hA:Sr r A)(hB:Sr r B)(hA0:0<A.length)(hB0:0<B.length)(hf:∀ y,B[0]? = some y->∀ x∈A,r y<=r x)(hl:∀ x,A[A.length - 1]? = some x->∀ y∈B,r y<=r x)
  {ar:Array Keyed}{pd:Array (Nat×Nat×Nat)}{mg:Nat}{Q:Array Keyed->SO->Qj->Prop}(q:∀ R mg',Fi r A B R.toList->Q R (Q1 κ ar pd mg' none) s) :
  UE (QX prog w) A₀ E (Bw A.toArray B.toArray) Q (Q1 κ ar pd mg none) s:=by
 have getA:∀ i,i<A.length->∃ x,A[i]? = some x/\X x:=fun i hi=>⟨A[i],Ql hi,hXA _ (S5 hi)⟩
 have getB:∀ i,i<B.length->∃ x,B[i]? = some x/\X x:=fun i hi=>⟨B[i],Ql hi,hXB _ (S5 hi)⟩
 unfold Bw
 refine Qw (VG (Up ?_))
 obtain ⟨x0,hx0,_⟩:=getA (A.length - 1) (by omega)
 refine Qw (cV (by rw [Qn];exact hx0) ?_)
 have j0:JH r A B [x0] (A.length - 1) B.length:=by
  refine ⟨by omega,Qq _,?_⟩
  have e:A.reverse=x0::A.reverse.drop 1:=by
   have:=n5 (l:=A.reverse) (i:=0) (x:=x0) (by rw [Sa (by omega)];exact hx0)
   rwa [S8] at this
  rw [Us,show A.length - (A.length - 1)=1 by omega]
  refine ⟨?_,?_,?_⟩
  ·unfold Sr
   rw [S8]
   show (x0::B.reverse).Pairwise _
   rw [S7]
   refine ⟨fun y hy=>?_,?_⟩
   ·have:=hl x0 hx0 y (Y0.mp hy)
    dsimp only
    omega
   ·rw [VE]
    exact hB.imp fun {x y} h=>by dsimp only;omega
  ·show Sr _ (x0::A.reverse.drop 1)
   rw [<- e]
   unfold Sr
   rw [VE]
   exact hA.imp fun {x y} h=>by dsimp only;omega
  ·rw [U4,Rw,e]
   exact UQ _
 dsimp only
 rw [Qn,Qn]
 refine bM (fun h1=>bM (fun h2=>?_) fun h2=>?_) fun h1=>?_
 rotate_left
 ·rw [beq_iff_eq] at h2
  refine QF (q _ _ ?_)
  rw [iY]
  exact j0.last h2 hf
 ·rw [beq_iff_eq] at h1
  refine QF (q _ _ ?_)
  rw [iY]
  exact j0.endA h1
 rw [beq_iff_eq] at h1 h2
 refine Qw (UD ?_)
 refine Qw (Sw (fT (fun i c st=>(∃ mg',st=Q1 κ ar pd mg' none)/\∃ na nb out m,c=(none,na,nb,out,m)/\n8 r A B (i+1) out na nb) (fun c st=>(∃ mg',st=Q1 κ ar pd mg' none)/\∃ R:Array Keyed,c.1=some R/\Fi r A B R.toList) 0 (A.length+B.length) (fun i c st hi hI=>?_) (fun c st hI=>?_) (fun c st hD=>?_) (A.length+B.length - 0) 0 _ _ (by omega) ⟨⟨_,rfl⟩,_,_,_,_,rfl,j0,by omega,by omega,by omega⟩))
 ·obtain ⟨⟨mg1,rfl⟩,na,nb,out,m,rfl,hG⟩:=hI
  dsimp only
  refine Qw (Sw (fT (fun j c st=>st=Q1 κ ar pd mg1 none/\∃ na nb out ac bc,c=(none,na,nb,out,ac,bc)/\n8 r A B (i+1+j) out na nb) (fun c st=>st=Q1 κ ar pd mg1 none/\((∃ R:Array Keyed,c.1=some R/\Fi r A B R.toList)\/∃ na nb out ac bc,c=(none,na,nb,out,ac,bc)/\n8 r A B (i+2) out na nb)) 0 (A.length+B.length) (fun j c st hj hJ=>?_) (fun c st hJ=>?_) (fun c st hD=>?_) (A.length+B.length - 0) 0 _ _ (by omega) ⟨rfl,_,_,_,_,_,rfl,hG⟩))
  ·obtain ⟨rfl,na,nb,out,ac,bc,rfl,g1,g2,g3,g4⟩:=hJ
   dsimp only
   have l1:=g1.1
   have l2:=g1.2.1
   obtain ⟨x,hx,Xx⟩:=getA (na - 1) (by omega)
   obtain ⟨y,hy,Xy⟩:=getB (nb - 1) (by omega)
   refine Qw (cV hy (Qw (cV hx (Qw (n4 hC rfl Xy Xx ?_)))))
   dsimp only
   refine bM (fun hc=>?_) fun hc=>?_
   ·unfold lr at hc
    rw [decide_eq_true_eq] at hc
    have g5:=g1.pushB hx hy (by omega) (by omega) (by omega)
    rw [<- So] at g5
    refine Qw (cV hy ?_)
    refine bM (fun he=>?_) fun he=>?_
    ·rw [beq_iff_eq] at he
     exact bM (fun _=>QF ⟨rfl,rfl,_,_,_,_,_,rfl,g5,by omega,by omega,by omega⟩) fun _=>QF ⟨rfl,rfl,.inr ⟨_,_,_,_,_,rfl,g5,by omega,by omega,by omega⟩⟩
    ·rw [beq_iff_eq] at he
     refine QF ⟨rfl,rfl,.inl ⟨_,rfl,?_⟩⟩
     rw [iY]
     exact g5.last he hf
   ·unfold lr at hc
    rw [decide_eq_true_eq] at hc
    have g5:=g1.pushA hx hy (by omega) (by omega) (by omega)
    rw [<- So] at g5
    refine Qw (cV hx ?_)
    refine bM (fun he=>?_) fun he=>?_
    ·rw [beq_iff_eq] at he
     exact bM (fun _=>QF ⟨rfl,rfl,_,_,_,_,_,rfl,g5,by omega,by omega,by omega⟩) fun _=>QF ⟨rfl,rfl,.inr ⟨_,_,_,_,_,rfl,g5,by omega,by omega,by omega⟩⟩
    ·rw [beq_iff_eq] at he
     refine QF ⟨rfl,rfl,.inl ⟨_,rfl,?_⟩⟩
     rw [iY]
     exact g5.endA he
  ·obtain ⟨rfl,na,nb,out,ac,bc,rfl,g1,g2,g3,g4⟩:=hJ
   exact ⟨rfl,.inr ⟨_,_,_,_,_,rfl,g1,g2,g3,by omega⟩⟩
  ·obtain ⟨rfl,hD⟩:=hD
   obtain ⟨c0,na,nb,out,ac,bc⟩:=c
   dsimp only
   rcases hD with ⟨R,e,hR⟩|⟨na',nb',out',ac',bc',e,hG⟩
   ·dsimp only at e
    subst e
    exact QF ⟨rfl,⟨_,rfl⟩,R,rfl,hR⟩
   cases e
   dsimp only
   refine Qw (VG (Up ?_))
   refine Qw (Sw (fT (fun j c st=>(∃ mg',st=Q1 κ ar pd mg' none)/\∃ na nb out m ac bc,c=(none,na,nb,out,m,ac,bc)/\n8 r A B (i+2) out na nb) (fun c st=>(∃ mg',st=Q1 κ ar pd mg' none)/\((∃ R:Array Keyed,c.1=some R/\Fi r A B R.toList)\/∃ na nb out m ac bc,c=(none,na,nb,out,m,ac,bc)/\n8 r A B (i+2) out na nb)) 0 (A.length+B.length) (fun j c st hj hJ=>?_) (fun c st hJ=>?_) (fun c st hD=>?_) (A.length+B.length - 0) 0 _ _ (by omega) ⟨⟨_,rfl⟩,_,_,_,_,_,_,rfl,hG⟩))
   ·obtain ⟨⟨mg2,rfl⟩,na,nb,out,m,ac,bc,rfl,g1,g2,g3,g4⟩:=hJ
    dsimp only
    have l1:=g1.1
    have l2:=g1.2.1
    obtain ⟨y,hy,Xy⟩:=getB (nb - 1) (by omega)
    refine bM (fun hm=>?_) fun hm=>?_
    all_goals
     refine Qw (Tr ?_)
     refine Qw (cV hy ?_)
     refine Qw (u6 hC rfl (b:=0) (n:=na) (h:=na - 1) (by omega) (by omega) hXA Xy (hA.part _ _) fun t ht1 ht2=>?_)
     dsimp only
     have g5:=g1.gallA (t:=t) hy (by omega) ht1 fun j x h1 h2 hx=>by
      have:=ht2 j x h2 (by rw [To];exact hx)
      omega
     have nx:∀ x,1<=t->A[t - 1]? = some x->r x<=r y:=fun x h1 hx=>(ht2 (t - 1) x (by omega) (by rw [To];exact hx)).mpr (by omega)
     rw [<- BJ] at g5
     refine bM (fun hk0=>?_) fun hk0=>bM (fun he=>?_) fun he=>?_
     rotate_left 2
     ·rw [beq_iff_eq] at he
      refine QF ⟨rfl,⟨_,rfl⟩,.inl ⟨_,rfl,?_⟩⟩
      rw [iY]
      exact g5.endA he
     have t0:na<=na:=Qq _
     have t1:=g1
     have t2:=g2
     have t3:∀ x,A[na - 1]? = some x->r x<=r y:=fun x hx=>by
      have e:t=na:=by omega
      rw [e] at nx
      exact nx x g2 hx
     generalize hout:out=ou at t1 ⊢
     generalize hna:(na:Nat)=n1 at t0 t1 t2 t3 ⊢
     rw [<- hna] at t0
     rotate_left
     rw [beq_iff_eq] at he
     have t0:t<=na:=ht1
     have t1:=g5
     have t2:1<=t:=by omega
     have t3:∀ x,A[t - 1]? = some x->r x<=r y:=fun x hx=>nx x t2 hx
     generalize out++(A.toArray.extract t na).reverse=ou at t1 ⊢
     generalize ht':(t:Nat)=n1 at t0 t1 t2 t3 ⊢
     all_goals
      obtain ⟨x,hx,Xx⟩:=getA (n1 - 1) (by omega)
      have t5:=t1.pushB hx hy t2 (by omega) (t3 x hx)
      rw [<- So] at t5
      refine Qw (cV hy ?_)
      refine bM (fun hq=>?_) fun hq=>?_
      rotate_left
      ·rw [beq_iff_eq] at hq
       refine QF ⟨rfl,⟨_,rfl⟩,.inl ⟨_,rfl,?_⟩⟩
       rw [iY]
       exact t5.last hq hf
      rw [beq_iff_eq] at hq
      refine Qw (cV hx ?_)
      refine Qw (u7 hC rfl (b:=0) (n:=nb - 1) (h:=nb - 1 - 1) (by omega) (by omega) hXB Xx (hB.part _ _) fun u eN hu2=>?_)
      dsimp only
      have u5:=t5.gallB (t:=u) hx t2 eN fun j z h1 h2 hz=>by
       have:=hu2 j z h2 (by rw [To];exact hz)
       omega
      have nz:∀ z,1<=u->B[u - 1]? = some z->r z<=r x:=fun z h1 hz=>VB ((hu2 (u - 1) z (by omega) (by rw [To];exact hz)).mpr (by omega))
      rw [<- BJ] at u5
      refine bM (fun hk1=>?_) fun hk1=>bM (fun hb1=>bM (fun hb2=>?_) fun hb2=>?_) fun hb1=>?_
      rotate_left 2
      ·rw [beq_iff_eq] at hb2
       refine QF ⟨rfl,⟨_,rfl⟩,.inl ⟨_,rfl,?_⟩⟩
       rw [iY]
       exact u5.endB hb2
      ·rw [beq_iff_eq] at hb1
       refine QF ⟨rfl,⟨_,rfl⟩,.inl ⟨_,rfl,?_⟩⟩
       rw [iY]
       exact u5.last hb1 hf
      have v0:nb - 1<nb:=by omega
      have v1:=t5
      have v2:2<=nb - 1:=by omega
      have v3:∀ z,B[nb - 1 - 1]? = some z->r z<=r x:=fun z hz=>by
       have e:u=nb - 1:=by omega
       rw [e] at nz
       exact nz z (by omega) hz
      generalize ou.push y=oz at v1 ⊢
      generalize nb - 1=n2 at v0 v1 v2 v3 ⊢
      rotate_left
      rw [beq_iff_eq] at hb1 hb2
      have v0:u<nb:=by omega
      have v1:=u5
      have v2:2<=u:=by omega
      have v3:∀ z,B[u - 1]? = some z->r z<=r x:=fun z hz=>nz z (by omega) hz
      generalize ou.push y++(B.toArray.extract u (nb - 1)).reverse=oz at v1 ⊢
      generalize hu':(u:Nat)=n2 at v0 v1 v2 v3 ⊢
      all_goals
       have l3:=v1.2.1
       obtain ⟨z,hz,Xz⟩:=getB (n2 - 1) (by omega)
       have v5:=v1.pushA hx hz t2 (by omega) (v3 z hz)
       rw [<- So] at v5
       refine Qw (cV hx ?_)
       refine bM (fun hw=>?_) fun hw=>?_
       ·rw [beq_iff_eq] at hw
        exact bM (fun _=>QF ⟨rfl,⟨_,rfl⟩,_,_,_,_,_,_,rfl,v5,by omega,v2,by omega⟩) fun _=>QF ⟨rfl,⟨_,rfl⟩,.inr ⟨_,_,_,_,_,_,rfl,v5,by omega,v2,by omega⟩⟩
       ·rw [beq_iff_eq] at hw
        refine QF ⟨rfl,⟨_,rfl⟩,.inl ⟨_,rfl,?_⟩⟩
        rw [iY]
        exact v5.endA hw
   ·obtain ⟨h1,h2⟩:=hJ
    exact ⟨h1,.inr h2⟩
   ·obtain ⟨⟨mg2,rfl⟩,hD⟩:=hD
    obtain ⟨c0,na,nb,out,m,ac,bc⟩:=c
    dsimp only
    rcases hD with ⟨R,e,hR⟩|⟨na',nb',out',m',ac',bc',e,hG⟩
    ·dsimp only at e
     subst e
     exact QF ⟨rfl,⟨_,rfl⟩,R,rfl,hR⟩
    cases e
    dsimp only
    exact Qw (Tr (QF ⟨rfl,⟨_,rfl⟩,_,_,_,_,rfl,hG⟩))
 ·obtain ⟨_,na,nb,out,m,rfl,g1,g2,g3,g4⟩:=hI
  omega
 ·obtain ⟨⟨mg1,rfl⟩,R,e,hR⟩:=hD
  obtain ⟨c0,c1⟩:=c
  dsimp only at e ⊢
  subst e
  exact QF (q R _ hR)
end
end L3
namespace L3
open PySem L2 PySem.W PyProof.Rows
section
variable {prog:QR}{w:Rg}{A₀:Q0}{E:Qg->Qj->Prop}{κ:Ue}{s:Qj}{X:Keyed->Prop}{r:Keyed->Int}{P S c1 c2:List Keyed}
theorem BK {i:Nat}(h:i<c1.length):(P++c1++c2++S)[P.length+i]? = c1[i]?:=by
 rw [QK,QK,QM (by omega),QC (by omega)]
 congr 1;omega
theorem BL {i:Nat}(h:i<c2.length):(P++c1++c2++S)[P.length+c1.length+i]? = c2[i]?:=by
 rw [QK,QM (by rw [Qx];omega),QC (by rw [Qx];omega)]
 congr 1;rw [Qx];omega
theorem K3:((P++c1++c2++S).drop P.length).take c1.length=c1:=by
 rw [QK,QK,W4,W2]
theorem K4:((P++c1++c2++S).drop (P.length+c1.length)).take c2.length=c2:=by
 rw [QK,Zf (by rw [Qx]),W2]
theorem K5 {k:Nat}(hk:k<=c1.length):(P++c1++c2++S).toArray.extract (P.length+k) (P.length+c1.length)=(c1.drop k).toArray:=by
 apply Sy.mp
 rw [n6,<- W5,QK,QK,W4,WB hk,RQ,List.take_left' (by rw [Rt];omega)]
theorem K6 {k:Nat}(hk:k<=c2.length):(P++c1++c2++S).toArray.extract (P.length+c1.length) (P.length+c1.length+k)=(c2.take k).toArray:=by
 apply Sy.mp
 rw [u3,QK,Zf (by rw [Qx]),RQ,WA hk]
theorem K7 {k l:Nat}{R:List Keyed}(hk:k<=c1.length)(hl:l<=c2.length)(hR:R.length=c1.length - k+l):(R.zipIdx.foldl (fun (a:Array Keyed)(x:Keyed×Nat)=>a.setIfInBounds (P.length+k+x.2) x.1) (P++c1++c2++S).toArray)=(P++(c1.take k++R++c2.drop l)++S).toArray:=by
 apply Sy.mp
 have:=Bx R (P++c1++c2++S).toArray (P.length+k) 0 (by simp;omega)
 rw [this,RQ,RQ,Vz,hR]
 have e1:(P++c1++c2++S).take (P.length+k)=P++c1.take k:=by
  rw [QK,QK,List.take_append,SG (by omega),SX,WA hk]
 have e2:(P++c1++c2++S).drop (P.length+k+(c1.length - k+l))=c2.drop l++S:=by
  rw [show P.length+k+(c1.length - k+l)=(P++c1).length+l by rw [Qx];omega,QK,<- W5,W4,WB hl]
 rw [e1,e2]
 simp
theorem Sr.both {U R V:List Keyed}(hR:Sr r R)(hU:Sr r U)(hV:Sr r V)(h1:∀ x∈U,∀ y∈R,r x<=r y)(h2:∀ x∈R,∀ y∈V,r x<=r y)(h3:∀ x∈U,∀ y∈V,r x<=r y):Sr r (U++R++V):=by
 unfold Sr at *
 rw [QK,Sh]
 refine ⟨hU,?_,fun x hx y hy=>?_⟩
 ·rw [Sh]
  exact ⟨hR,hV,h2⟩
 ·rcases RE.mp hy with hy|hy
  ·exact h1 x hx y hy
  ·exact h3 x hx y hy
theorem Sr.at {l:List Keyed}(h:Sr r l){i j:Nat}{x y:Keyed}(hij:i<=j)(hx:l[i]? = some x)(hy:l[j]? = some y):r x<=r y:=by
 obtain ⟨h1,rfl⟩:=Qi.mp hx
 obtain ⟨h2,rfl⟩:=Qi.mp hy
 by_cases e:i=j
 ·subst e;exact WJ _
 ·exact Q5.mp h i j h1 h2 (by omega)
theorem mK {l:List Keyed}{k:Nat}{x:Keyed}(h:x∈l.take k):∃ j,j<k/\l[j]? = some x:=by
 have:=BF (l:=l) (i:=0) (k:=k) (x:=x) (by rw [S8];exact h)
 obtain ⟨j,h1,h2⟩:=this
 exact ⟨j,h1,by rw [To] at h2;exact h2⟩
theorem mL {l:List Keyed}{k:Nat}{x:Keyed}(h:x∈l.drop k):∃ j,k<=j/\l[j]? = some x:=by
 obtain ⟨j,hj,e⟩:=S2 h
 exact ⟨k+j,by omega,by rw [<- e,YR,Ql]⟩
theorem K8 (hC:eC prog w A₀ κ s X (lr r))(hX:∀ x∈P++c1++c2++S,X x)(h1:Sr r c1)(h2:Sr r c2)(l1:0<c1.length)(l2:0<c2.length){pd:Array (Nat×Nat×Nat)}{mg i w1 w2:Nat}(p1:pd[i]? = some (P.length,c1.length,w1))(p2:pd[i+1]? = some (P.length+c1.length,c2.length,w2))
  {Q:Bool->SO->Qj->Prop}(q:∀ c mg',Sr r c->c.Perm (c1++c2)->Q true (Q1 κ (P++c++S).toArray ((pd.setIfInBounds i (P.length,c1.length+c2.length,w1)).eraseIdxIfInBounds (i+1)) mg' none) s) :
  UE (QX prog w) A₀ E (Y7 i) Q (Q1 κ (P++c1++c2++S).toArray pd mg none) s:=by
 unfold Y7
 refine Qw (UD ?_)
 dsimp only
 simp only [p1,p2]
 refine Qw (KU ?_)
 have gA:∀ j,j<c1.length->c1[j]? = some (c1.getD j (.none,.none)):=fun j hj=>by
  rw [QZ,Ql hj];rfl
 have gB:∀ j,j<c2.length->c2[j]? = some (c2.getD j (.none,.none)):=fun j hj=>by
  rw [QZ,Ql hj];rfl
 have hX1:∀ x∈c1,X x:=fun x hx=>hX x (by simp [hx])
 have hX2:∀ x∈c2,X x:=fun x hx=>hX x (by simp [hx])
 have hlen:(P++c1++c2++S).length=P.length+c1.length+c2.length+S.length:=by simp;omega
 have b0:=gB 0 l2
 refine Qw (cV (x:=c2.getD 0 (.none,.none)) (by rw [<- b0];exact BL l2) ?_)
 refine Qw (u6 hC rfl (b:=P.length) (n:=c1.length) (h:=0) l1 (by omega) hX (hX2 _ (Q2 b0)) (by rw [K3];exact h1) fun k hk1 hk2=>?_)
 have hk3:∀ j x,c1[j]? = some x->(r x<=r (c2.getD 0 (.none,.none))↔j<k):=fun j x hx=>by
  have hj:=(Qi.mp hx).1
  exact hk2 j x hj (by rw [BK hj];exact hx)
 generalize c2.getD 0 (.none,.none)=y0 at *
 dsimp only
 have e0:(P++c1++c2++S)=P++(c1++c2)++S:=by simp
  -- all as it is
 have same:(∀ x∈c1,∀ y∈c2,r x<=r y)->Q true (Q1 κ (P++c1++c2++S).toArray ((pd.setIfInBounds i (P.length,c1.length+c2.length,w1)).eraseIdxIfInBounds (i+1)) mg none) s:=fun h=>by
  rw [e0]
  exact q _ _ (by unfold Sr at *;rw [Sh];exact ⟨h1,h2,h⟩) (UQ _)
 refine bM (fun he=>?_) fun he=>?_
 rotate_left
 ·rw [beq_iff_eq] at he
  refine QF (same fun x hx y hy=>?_)
  obtain ⟨j,hj⟩:=TX hx
  obtain ⟨j',hj'⟩:=TX hy
  have a1:=(hk3 j x hj).mpr (by have:=(Qi.mp hj).1;omega)
  have a2:=h2.at (RV j') b0 hj'
  omega
 rw [beq_iff_eq] at he
 have z0:=gA (c1.length - 1) (by omega)
 generalize c1.getD (c1.length - 1) (.none,.none)=x1 at *
 refine Qw (cV (x:=x1) (by rw [show P.length+k+(c1.length - k) - 1=P.length+(c1.length - 1) by omega,BK (by omega)];exact z0) ?_)
 refine Qw (u7 hC rfl (b:=P.length+c1.length) (n:=c2.length) (h:=c2.length - 1) (by omega) (by omega) hX (hX1 _ (Q2 z0)) (by rw [K4];exact h2) fun l hl1 hl2=>?_)
 have hl3:∀ j x,c2[j]? = some x->(r x<r x1↔j<l):=fun j x hx=>by
  have hj:=(Qi.mp hx).1
  exact hl2 j x hj (by rw [BL hj];exact hx)
 dsimp only
 refine bM (fun hf=>?_) fun hf=>?_
 rotate_left
 ·rw [beq_iff_eq] at hf
  refine QF (same fun x hx y hy=>?_)
  obtain ⟨j,hj⟩:=TX hx
  obtain ⟨j',hj'⟩:=TX hy
  have a1:=h1.at (by have:=(Qi.mp hj).1;omega) hj z0
  have a2:=hl3 j' y hj'
  omega
 rw [beq_iff_eq] at hf
 rw [K5 hk1,K6 hl1]
 have hA:Sr r (c1.drop k):=Sk (Vf _ _) h1
 have hB:Sr r (c2.take l):=Sk (TN _ _) h2
 have hf1:∀ y,(c2.take l)[0]? = some y->∀ x∈c1.drop k,r y<=r x:=fun y hy x hx=>by
  rw [RJ (by omega),b0] at hy
  cases hy
  obtain ⟨j,hj,e⟩:=mL hx
  have:=hk3 j x e
  omega
 have hl4:∀ x,(c1.drop k)[(c1.drop k).length - 1]? = some x->∀ y∈c2.take l,r y<=r x:=fun x hx y hy=>by
  rw [Rt,Tw,show k+(c1.length - k - 1)=c1.length - 1 by omega,z0] at hx
  cases hx
  obtain ⟨j,hj,e⟩:=mK hy
  have:=hl3 j y e
  omega
 have done:∀ (R:Array Keyed)(mg':Nat),Fi r (c1.drop k) (c2.take l) R.toList->Q true (Q1 κ (R.toList.zipIdx.foldl (fun (a:Array Keyed)(x:Keyed×Nat)=>a.setIfInBounds (P.length+k+x.2) x.1) (P++c1++c2++S).toArray) ((pd.setIfInBounds i (P.length,c1.length+c2.length,w1)).eraseIdxIfInBounds (i+1)) mg' none) s:=fun R mg' hR=>by
  obtain ⟨f1,f2⟩:=hR
  have hRl:=f1.length_eq
  rw [Qx,Rt,Q8] at hRl
  rw [K7 hk1 hl1 (by omega)]
  have inR:∀ z∈R.toList,z∈c1.drop k\/z∈c2.take l:=fun z hz=>RE.mp (f1.mem_iff.mp hz)
  refine q _ _ (f2.both (Sk (TN _ _) h1) (Sk (Vf _ _) h2) (fun x hx y hy=>?_) (fun x hx y hy=>?_) fun x hx y hy=>?_) ?_
  ·obtain ⟨j,hj,e⟩:=mK hx
   rcases inR y hy with hy|hy
   ·obtain ⟨j',hj',e'⟩:=mL hy
    exact h1.at (by omega) e e'
   ·obtain ⟨j',hj',e'⟩:=mK hy
    have a1:=(hk3 j x e).mpr hj
    have a2:=h2.at (RV j') b0 e'
    omega
  ·obtain ⟨j',hj',e'⟩:=mL hy
   rcases inR x hx with hx|hx
   ·obtain ⟨j,hj,e⟩:=mL hx
    have a1:=h1.at (by have:=(Qi.mp e).1;omega) e z0
    have a2:=hl3 j' y e'
    omega
   ·obtain ⟨j,hj,e⟩:=mK hx
    exact h2.at (by omega) e e'
  ·obtain ⟨j,hj,e⟩:=mK hx
   obtain ⟨j',hj',e'⟩:=mL hy
   have a1:=(hk3 j x e).mpr hj
   have a2:=h2.at (RV j') b0 e'
   omega
  ·have e1:c1++c2=c1.take k++(c1.drop k++c2.take l)++c2.drop l:=by
    rw [<- QK,Rq,QK,Rq]
   rw [e1]
   exact ((f1.append_left _).append_right _)
 have d1:0<(c1.drop k).length:=by rw [Rt];omega
 have d2:0<(c2.take l).length:=by rw [Q8];omega
 refine bM (fun _=>?_) fun _=>?_
 ·exact Qw (K2 hC (fun x hx=>hX1 x (XZ hx)) (fun x hx=>hX2 x (VL hx)) hA hB d1 d2 hf1 hl4 fun R mg' hR=>Qw (Tr (Qw (UD (QF (done R mg' hR))))))
 ·exact Qw (K1 hC (fun x hx=>hX1 x (XZ hx)) (fun x hx=>hX2 x (VL hx)) hA hB d1 d2 hf1 hl4 fun R mg' hR=>Qw (Tr (Qw (UD (QF (done R mg' hR))))))
end
end L3
namespace L3
open PySem L2 PySem.W PyProof.Rows
section
variable {prog:QR}{w:Rg}{A₀:Q0}{E:Qg->Qj->Prop}{κ:Ue}{s:Qj}{X:Keyed->Prop}{r:Keyed->Int}{P T S:List Keyed}{pd:Array (Nat×Nat×Nat)}{mg:Nat}
noncomputable def kr (r:Keyed->Int)(T:List Keyed)(i:Nat):Int:=r (T.getD i (.none,.none))
theorem iZ {i:Nat}{x:Keyed}(h:T[i]? = some x):kr r T i=r x:=by
 unfold kr
 rw [QZ,h]
 rfl
theorem u9 {i:Nat}(h:i<T.length):T[i]? = some (T.getD i (.none,.none)):=by
 rw [QZ,Ql h];rfl
theorem mM (hC:eC prog w A₀ κ s X (lr r))(hX:∀ x∈T,X x){i j:Nat}(hi:i<T.length)(hj:j<T.length){Q:Option Bool->SO->Qj->Prop}(q:Q (some (decide (kr r T i<kr r T j))) (Q1 κ (P++T).toArray pd mg none) s) :
  UE (QX prog w) A₀ E (ltAt' (P.length+i) (P.length+j)) Q (Q1 κ (P++T).toArray pd mg none) s:=by
 have e:∀ i,i<T.length->(Za (Q1 κ (P++T).toArray pd mg none))[P.length+i]? = some (T.getD i (.none,.none)):=fun i hi=>by
  show (P++T).toArray[P.length+i]? = _
  rw [Ru,QM (by omega),SX]
  exact u9 hi
 exact KW hC rfl (e i hi) (e j hj) (hX _ (Q2 (u9 hi))) (hX _ (Q2 (u9 hj))) q
theorem vA {n:Nat}(h:∀ j,j+1<n->kr r T j<=kr r T (j+1)):∀ {i j:Nat},i<=j->j<n->kr r T i<=kr r T j
 | i,0,h1,_=>by rw [Nat.le_zero.mp h1];exact WJ _
 | i,j+1,h1,h2=>by
  by_cases e:i=j+1
  ·rw [e];exact WJ _
  ·have a:=vA h (i:=i) (j:=j) (by omega) (by omega)
   have b:=h j h2
   omega
theorem BM {n:Nat}(hn:n<=T.length)(h:∀ j,j+1<n->kr r T j<=kr r T (j+1)):Sr r (T.take n):=by
 refine Q5.mpr fun i j hi hj hij=>?_
 rw [Q8] at hi hj
 have:=vA h (i:=i) (j:=j) (by omega) (by omega)
 rw [iZ (Ql (show i<T.length by omega)),iZ (Ql (show j<T.length by omega))] at this
 rw [Wf,Wf]
 exact this
theorem K9 (P U V:List Keyed):a0N (P++U++V).toArray P.length (P.length+U.length) ((P.length+U.length - P.length) / 2)=(P++U.reverse++V).toArray:=by
 apply Sy.mp
 apply Ve
 intro k
 rw [Ux,Zi (by simp),RQ]
 by_cases h:P.length<=k/\k<P.length+U.length
 ·have e1:∀ (W:List Keyed)(m:Nat),W.length=U.length->P.length<=m->m<P.length+U.length->(P++W++V)[m]? = W[m - P.length]?:=fun W m hW h1 h2=>by
   rw [QK,QM h1,QC (by omega)]
  rw [if_pos h,Ru,e1 U _ rfl (by omega) (by omega),e1 U.reverse k (by rw [SK]) h.1 h.2,Sa (by omega)]
  congr 1
  omega
 ·rw [if_neg h,Ru]
  by_cases h1:k<P.length
  ·rw [QK,QK,QC h1,QC h1]
  ·rw [QM (by rw [Qx];omega),QM (by rw [Qx,SK];omega)]
   simp
noncomputable def Dis (r:Keyed->Int)(T:List Keyed):Prop:=T.Pairwise fun x y=>r x≠r y
theorem Dis.at (h:Dis r T){i j:Nat}(hi:i<T.length)(hj:j<T.length)(hij:i≠j):kr r T i≠kr r T j:=by
 rw [iZ (Ql hi),iZ (Ql hj)]
 have:=Q5.mp h
 by_cases l:i<j
 ·exact this i j hi hj l
 ·exact (this j i hj hi (by omega)).symm
theorem La (hC:eC prog w A₀ κ s X (lr r))(hX:∀ x∈T,X x)(hD:Dis r T)(hT:0<T.length){Q:Option Nat->SO->Qj->Prop}
  (q:∀ c t,0<c.length->Sr r c->(c++t).Perm T->Q (some c.length) (Q1 κ (P++(c++t)).toArray pd mg none) s):UE (QX prog w) A₀ E (countRun' P.length T.length) Q (Q1 κ (P++T).toArray pd mg none) s:=by
 have take_:∀ n,0<n->n<=T.length->(∀ j,j+1<n->kr r T j<=kr r T (j+1))->Q (some n) (Q1 κ (P++T).toArray pd mg none) s:=fun n h0 hn h=>by
  have:=q (T.take n) (T.drop n) (by rw [Q8];omega) (BM hn h) (by rw [Rq])
  rwa [Rq,Q8,Ua hn] at this
 unfold countRun'
 refine Qw (Sw (iW (fun i c=>c=(none,i+1)/\∀ j,j+1<i+1->kr r T j<=kr r T (j+1)) (fun c=>∃ n,c=(none,n)/\0<n/\n<=T.length/\(∀ j,j+1<n->kr r T j<=kr r T (j+1))/\(n<T.length->kr r T n<kr r T (n - 1))) (T.length - 1) (fun i x c hi hI=>?_) (fun c hI=>?_) (fun c hDn=>?_) _ 0 _ (by simp) ⟨rfl,fun j hj=>by omega⟩))
 ·obtain ⟨rfl,hI⟩:=hI
  dsimp only
  refine Qw (mM hC hX (i:=i+1) (j:=i) (by omega) (by omega) ?_)
  dsimp only
  refine bM (fun hc=>?_) fun hc=>?_
  ·rw [decide_eq_true_eq] at hc
   refine QF ⟨rfl,rfl,rfl,fun j hj=>?_⟩
   by_cases e:j=i
   ·subst e;omega
   ·exact hI j (by omega)
  ·rw [decide_eq_true_eq] at hc
   exact QF ⟨rfl,rfl,i+1,rfl,by omega,by omega,hI,fun _=>hc⟩
 ·obtain ⟨rfl,hI⟩:=hI
  exact ⟨_,rfl,by omega,by omega,hI,fun h=>by omega⟩
 ·obtain ⟨n,rfl,h0,hn,hI,hlt⟩:=hDn
  dsimp only
  refine bM (fun he=>?_) fun he=>?_
  rotate_left
  ·exact QF (take_ n h0 hn hI)
  rw [beq_iff_eq] at he
  refine bM (fun h1=>?_) fun h1=>?_
  rotate_left
  ·-- it rose
   have hlt0:kr r T 0<kr r T (n - 1):=by
    have a:=vA hI (i:=0) (j:=n - 1) (by omega) (by omega)
    have b:=hD.at (i:=0) (j:=n - 1) (by omega) (by omega) (by omega)
    omega
   have l0:UE (QX prog w) A₀ E (ltAt' P.length (P.length+n - 1)) (fun b st s'=>b=some true/\st=Q1 κ (P++T).toArray pd mg none/\s'=s) (Q1 κ (P++T).toArray pd mg none) s:=by
    have:=mM (prog:=prog) (w:=w) (A₀:=A₀) (E:=E) (P:=P) (pd:=pd) (mg:=mg) hC hX (i:=0) (j:=n - 1) (by omega) (by omega) (Q:=fun b st s'=>b=some true/\st=Q1 κ (P++T).toArray pd mg none/\s'=s) ⟨by rw [decide_eq_true hlt0],rfl,rfl⟩
    rw [show P.length+n - 1=P.length+(n - 1) by omega]
    exact this
   refine Qw (Rv l0 (fun b s' hb=>?_) fun _ _ e=>e)
   obtain ⟨b,st'⟩:=b
   obtain ⟨rfl,rfl,rfl⟩:=hb
   dsimp only
   rw [if_pos rfl]
   exact QF (take_ n h0 hn hI)
  have e1:n=1:=by omega
  subst e1
  have hd0:=hlt (by omega)
  refine Qw (VG (Up ?_))
  refine Qw (Sw (iW (fun i c=>c=(none,i+2,0)/\∀ j,j+1<i+2->kr r T (j+1)<kr r T j) (fun c=>∃ n,c=(none,n,0)/\2<=n/\n<=T.length/\∀ j,j+1<n->kr r T (j+1)<kr r T j) (T.length - 2) (fun i x c hi hI=>?_) (fun c hI=>?_) (fun c hDn=>?_) _ 0 _ (by simp) ⟨rfl,fun j hj=>by rw [show j=0 by omega];exact hd0⟩))
  ·obtain ⟨rfl,hI⟩:=hI
   dsimp only
   refine Qw (mM hC hX (i:=i+2) (j:=i+1) (by omega) (by omega) ?_)
   dsimp only
   by_cases hc:kr r T (i+2)<kr r T (i+1)
   ·rw [decide_eq_true hc,if_pos rfl,if_neg (by omega)]
    refine QF ⟨rfl,rfl,rfl,fun j hj=>?_⟩
    by_cases e:j=i+1
    ·subst e;exact hc
    ·exact hI j (by omega)
   ·rw [decide_eq_false hc,if_neg RB]
    have hb:=hD.at (i:=i+1) (j:=i+2) (by omega) (by omega) (by omega)
    refine Qw (mM hC hX (i:=i+1) (j:=i+2) (by omega) (by omega) ?_)
    dsimp only
    rw [decide_eq_true (show kr r T (i+1)<kr r T (i+2) by omega),if_pos rfl]
    exact QF ⟨rfl,rfl,i+2,rfl,by omega,by omega,hI⟩
  ·obtain ⟨rfl,hI⟩:=hI
   exact ⟨T.length,by rw [show T.length - 2+2=T.length by omega],by omega,Qq _,fun j hj=>hI j (by omega)⟩
  ·obtain ⟨n,rfl,h2,hn,hI⟩:=hDn
   dsimp only
   rw [if_neg (by omega)]
   refine Qw (K0 ?_)
      -- turned about
   have eT:P++T=P++T.take n++T.drop n:=by rw [QK,Rq]
   have hln:(T.take n).length=n:=by rw [Q8];omega
   have em:a0N (P++T).toArray P.length (P.length+n) ((P.length+n - P.length) / 2)=(P++((T.take n).reverse++T.drop n)).toArray:=by
    have:=K9 P (T.take n) (T.drop n)
    rw [hln] at this
    rw [eT,this,QK]
   show UE _ _ _ _ _ (Q1 κ (a0N (P++T).toArray P.length (P.length+n) ((P.length+n - P.length) / 2)) pd mg none) s
   rw [em]
   have hU:((T.take n).reverse++T.drop n).length=T.length:=by simp;omega
   have hpm:((T.take n).reverse++T.drop n).Perm T:=by
    refine ((Vc _).append_right _).trans ?_
    rw [Rq]
   have hXU:∀ x∈(T.take n).reverse++T.drop n,X x:=fun x hx=>hX x (hpm.mem_iff.mp hx)
   have hasc:∀ j,j+1<n->kr r ((T.take n).reverse++T.drop n) j<=kr r ((T.take n).reverse++T.drop n) (j+1):=fun j hj=>by
    have at_:∀ i,i<n->kr r ((T.take n).reverse++T.drop n) i=kr r T (n - 1 - i):=fun i hi=>by
     have:((T.take n).reverse++T.drop n)[i]? = T[n - 1 - i]?:=by
      rw [QC (by rw [SK,hln];exact hi),Sa (by omega),hln,RJ (by omega)]
     unfold kr
     rw [QZ,QZ,this]
    rw [at_ j (by omega),at_ (j+1) hj]
    have:=hI (n - 1 - (j+1)) (by omega)
    rw [show n - 1 - (j+1)+1=n - 1 - j by omega] at this
    omega
   generalize (T.take n).reverse++T.drop n=U at *
   refine Qw (Sw (iW (fun i c=>c=(none,n+i)/\∀ j,j+1<n+i->kr r U j<=kr r U (j+1)) (fun c=>∃ m,c=(none,m)/\0<m/\m<=T.length/\∀ j,j+1<m->kr r U j<=kr r U (j+1)) (T.length - n) (fun i x c hi hI=>?_) (fun c hI=>?_) (fun c hDn=>?_) _ 0 _ (by simp) ⟨rfl,hasc⟩))
   ·obtain ⟨rfl,hI⟩:=hI
    dsimp only
    have l0:UE (QX prog w) A₀ E (ltAt' (P.length+(n+i)) (P.length+(n+i) - 1)) (fun b st s'=>b=some (decide (kr r U (n+i)<kr r U (n+i - 1)))/\st=Q1 κ (P++U).toArray pd mg none/\s'=s) (Q1 κ (P++U).toArray pd mg none) s:=by
     rw [show P.length+(n+i) - 1=P.length+(n+i - 1) by omega]
     exact mM hC hXU (by omega) (by omega) ⟨rfl,rfl,rfl⟩
    refine Qw (Rv l0 (fun b s' hb=>?_) fun _ _ e=>e)
    obtain ⟨b,st'⟩:=b
    obtain ⟨rfl,rfl,rfl⟩:=hb
    dsimp only
    refine bM (fun hc=>?_) fun hc=>?_
    ·rw [decide_eq_true_eq] at hc
     refine QF ⟨rfl,rfl,rfl,fun j hj=>?_⟩
     by_cases e:j+1=n+i
     ·rw [show j=n+i - 1 by omega,show n+i - 1+1=n+i by omega];omega
     ·exact hI j (by omega)
    ·exact QF ⟨rfl,rfl,_,rfl,by omega,by omega,hI⟩
   ·obtain ⟨rfl,hI⟩:=hI
    exact ⟨_,rfl,by omega,by omega,hI⟩
   ·obtain ⟨m,rfl,h0,hm,hI⟩:=hDn
    dsimp only
    have:=q (U.take m) (U.drop m) (by rw [Q8];omega) (BM (by omega) hI) (by rw [Rq];exact hpm)
    rw [Rq,Q8,Ua (by omega)] at this
    exact QF this
end
end L3
namespace L3
open PySem L2 PySem.W PyProof.Rows
section
variable {prog:QR}{w:Rg}{A₀:Q0}{E:Qg->Qj->Prop}{κ:Ue}{s:Qj}{X:Keyed->Prop}{r:Keyed->Int}{P:List Keyed}{pd:Array (Nat×Nat×Nat)}{mg:Nat}
theorem Lb (P C V:List Keyed)(x:Keyed){l:Nat}(hl:l<=C.length):bubble (P++(C++x::V)).toArray (P.length+C.length) (P.length+C.length - (P.length+l))=(P++(C.take l++x::C.drop l++V)).toArray:=by
 apply Sy.mp
 apply Ve
 intro k
 rw [Ux,a0d (by simp) _ (by omega),RQ]
 have e0:∀ (W:List Keyed)(m:Nat),(P++W)[P.length+m]? = W[m]?:=fun W m=>by
  rw [QM (by omega),SX]
 have hlt:(C.take l).length=l:=by rw [Q8];omega
 by_cases h1:k<P.length
 ·rw [if_neg (by omega),if_neg (by omega),Ru,QC h1,QC h1]
 obtain ⟨m,rfl⟩:∃ m,k=P.length+m:=⟨k - P.length,by omega⟩
 rw [e0]
 by_cases h2:m=l
 ·subst h2
  rw [if_pos (by omega),Ru,e0,QM (Qq _),Us,QK,QM (by omega),hlt,Us]
  rfl
 rw [if_neg (by omega)]
 by_cases h3:l<m/\m<=C.length
 ·rw [if_pos (by omega),Ru,show P.length+m - 1=P.length+(m - 1) by omega,e0,QC (by omega),QK,QM (by omega),hlt,Rh,show m - l=(m - l - 1)+1 by omega,Tu,QC (by rw [Rt];omega),Tw]
  congr 1
  omega
 rw [if_neg (by omega),Ru,e0]
 by_cases h4:m<l
 ·rw [QC (by omega),QK,QC (by omega),RJ h4]
 ·rw [QM (by omega),QK,QM (by omega),hlt,Rh,show m - C.length=(m - C.length - 1)+1 by omega,show m - l=(m - l - 1)+1 by omega,Tu,Tu,QM (by rw [Rt];omega),Rt]
  congr 1
  omega
theorem Lc (hC:eC prog w A₀ κ s X (lr r)){c D t:List Keyed}(hX:∀ x∈c++D++t,X x)(hc:Sr r c)(h0:0<c.length){Q:Bool->SO->Qj->Prop}
  (q:∀ c',Sr r c'->c'.Perm (c++D)->Q true (Q1 κ (P++(c'++t)).toArray pd mg none) s):UE (QX prog w) A₀ E (binarySort' P.length (c.length+D.length) c.length) Q (Q1 κ (P++(c++D++t)).toArray pd mg none) s:=by
 unfold binarySort'
 refine Qw (Sw ?_)
 rw [Nat.max_eq_left h0]
 refine (fT (fun i b st=>b=(none,())/\∃ c' D',st=Q1 κ (P++(c'++(D'++t))).toArray pd mg none/\Sr r c'/\c'.length=c.length+i/\(c'++D').Perm (c++D)) (fun b st=>b=(none,())/\∃ c',st=Q1 κ (P++(c'++t)).toArray pd mg none/\Sr r c'/\c'.Perm (c++D)) c.length D.length (fun i b st hi hI=>?_) (fun b st hI=>?_) (fun b st hDn=>?_) (c.length+D.length - c.length) 0 _ _ (by omega) ⟨rfl,c,D,by rw [QK],hc,rfl,UQ _⟩)
 ·obtain ⟨rfl,c',D',rfl,h1,h2,h3⟩:=hI
  have hl:=h3.length_eq
  rw [Qx,Qx] at hl
  match D',hl,h3 with
  | [],hl,_=>rw [SY] at hl;omega
  | x::D',hl,h3=>
   dsimp only
   have hXx:∀ z∈c'++x::(D'++t),X z:=fun z hz=>hX z (by
    have:z∈(c'++x::D')++t:=by simpa using hz
    rcases RE.mp this with h|h
    ·exact RE.mpr (.inl (h3.mem_iff.mp h))
    ·exact RE.mpr (.inr h))
   have hk:c.length+i=c'.length:=h2.symm
   rw [hk]
   have hkx:kr r (c'++x::(D'++t)) c'.length=r x:=iZ (by rw [QM (Qq _),Us];rfl)
   have hkm:∀ m,m<c'.length->kr r (c'++x::(D'++t)) m=kr r c' m:=fun m hm=>by
    unfold kr
    rw [QZ,QZ,QC hm]
   have eL:c'++(x::D'++t)=c'++x::(D'++t):=rfl
   have mono:∀ {m m':Nat},m<=m'->m'<c'.length->kr r c' m<=kr r c' m':=fun {m m'} h h'=>by
    rw [iZ (Ql (show m<c'.length by omega)),iZ (Ql h')]
    exact h1.at h (Ql _) (Ql _)
   refine Qw (Sw (iW (fun j b=>∃ l u,b=(none,l,u)/\l<=u/\u<=c'.length/\u - l<=c'.length - j/\(∀ m,m<l->kr r c' m<=r x)/\∀ m,u<=m->m<c'.length->r x<kr r c' m) (fun b=>∃ l,b=(none,l,l)/\l<=c'.length/\(∀ m,m<l->kr r c' m<=r x)/\∀ m,l<=m->m<c'.length->r x<kr r c' m) c'.length (fun j y b hj hJ=>?_) (fun b hJ=>?_) (fun b hDn=>?_) _ 0 _ (by simp) ⟨0,c'.length,rfl,by omega,Qq _,by omega,fun m hm=>by omega,fun m h h'=>by omega⟩))
   ·obtain ⟨l,u,rfl,j1,j2,j3,j4,j5⟩:=hJ
    dsimp only
    refine bM (fun hlu=>?_) fun hlu=>?_
    ·refine Qw (mM hC hXx (i:=c'.length) (j:=(l+u) / 2) (by simp) (by simp;omega) ?_)
     rw [hkx,hkm _ (by omega)]
     dsimp only
     refine bM (fun hc=>?_) fun hc=>?_
     ·rw [decide_eq_true_eq] at hc
      exact QF ⟨rfl,rfl,(l+u) / 2+1,u,rfl,by omega,j2,by omega,fun m hm=>by have:=mono (m:=m) (m':=(l+u) / 2) (by omega) (by omega);omega,j5⟩
     ·rw [decide_eq_true_eq] at hc
      exact QF ⟨rfl,rfl,l,(l+u) / 2,rfl,by omega,by omega,by omega,j4,fun m h h'=>by have:=mono (m:=(l+u) / 2) (m':=m) h h';omega⟩
    ·have e:u=l:=by omega
     subst e
     exact QF ⟨rfl,rfl,_,rfl,j2,j4,j5⟩
   ·obtain ⟨l,u,rfl,j1,j2,j3,j4,j5⟩:=hJ
    have e:u=l:=by omega
    subst e
    exact ⟨_,rfl,j2,j4,j5⟩
   ·obtain ⟨l,rfl,j2,j4,j5⟩:=hDn
    dsimp only
    have mv:∀ {Q':Unit->SO->Qj->Prop},Q' () (Q1 κ (P++((c'.take l++x::c'.drop l)++(D'++t))).toArray pd mg none) s->UE (QX prog w) A₀ E (moveDown' (P.length+c'.length) (P.length+l)) Q' (Q1 κ (P++(c'++x::(D'++t))).toArray pd mg none) s:=fun {Q'} h=>by
     rw [moveDown'_eq]
     refine Tr ?_
     show Q' () (Q1 κ (bubble (P++(c'++x::(D'++t))).toArray (P.length+c'.length) (P.length+c'.length - (P.length+l))) pd mg none) s
     rw [Lb P c' (D'++t) x j2]
     exact h
    refine Qw (mv (QF ⟨rfl,rfl,c'.take l++x::c'.drop l,D',rfl,?_,?_,?_⟩))
    ·have a1:∀ z∈c'.take l,r z<=r x:=fun z hz=>by
      obtain ⟨m,hm,e⟩:=mK hz
      rw [<- iZ (r:=r) e]
      exact j4 m hm
     have a2:∀ z∈c'.drop l,r x<=r z:=fun z hz=>by
      obtain ⟨m,hm,e⟩:=mL hz
      rw [<- iZ (r:=r) e]
      exact VB (j5 m hm (Qi.mp e).1)
     have:=Sr.both (r:=r) (U:=c'.take l) (R:=[x]) (V:=c'.drop l) (by unfold Sr;simp) (Sk (TN _ _) h1) (Sk (Vf _ _) h1) (fun y hy z hz=>by rw [RF.mp hz];exact a1 y hy) (fun y hy z hz=>by rw [RF.mp hy];exact a2 z hz) (fun y hy z hz=>by have:=a1 y hy;have:=a2 z hz;omega)
     simpa using this
    ·simp;omega
    ·refine Wb ?_ h3
     have:(c'.take l++x::c'.drop l).Perm (c'++[x]):=by
      refine List.perm_middle.trans ?_
      rw [Rq]
      exact S9 (l₁:=[x])
     have:=this.append_right D'
     simpa using this
 ·obtain ⟨rfl,c',D',rfl,h1,h2,h3⟩:=hI
  have hl:=h3.length_eq
  rw [Qx,Qx] at hl
  have:D'=[]:=Sz.mp (by omega)
  subst this
  rw [RY] at h3
  exact ⟨rfl,c',rfl,h1,h3⟩
 ·obtain ⟨rfl,c',rfl,h1,h3⟩:=hDn
  exact QF (q c' h1 h3)
end
end L3
namespace L3
open PySem L2 PySem.W PyProof.Rows
noncomputable abbrev dY:=List Keyed×Nat
noncomputable def aX (rs:List dY):List Keyed:=(rs.map (·.1)).flatten
noncomputable def pos:Nat->List dY->List (Nat×Nat×Nat)
 | _,[]=>[]
 | p,(c,w)::t=>(p,c.length,w)::pos (p+c.length) t
theorem gQ (c:List Keyed)(w:Nat)(t:List dY):aX ((c,w)::t)=c++aX t:=rfl
theorem kS (a b:List dY):aX (a++b)=aX a++aX b:=by unfold aX;simp
theorem kT:∀ (a b:List dY)(p:Nat),pos p (a++b)=pos p a++pos (p+(aX a).length) b
 | [],b,p=>rfl
 | (c,w)::a,b,p=>by
  show (p,c.length,w)::pos (p+c.length) (a++b)=_
  rw [kT a b,gQ,Qx,Xo]
  rfl
theorem i5:∀ (a:List dY)(p:Nat),(pos p a).length=a.length
 | [],_=>rfl
 | (c,w)::a,p=>by show (pos (p+c.length) a).length+1=_;rw [i5 a];rfl
structure Rn (r:Keyed->Int)(L rest:List Keyed)(rs:List dY):Prop where
 ok:∀ p∈rs,Sr r p.1/\0<p.1.length
 pm:(aX rs++rest).Perm L
section
variable {prog:QR}{w:Rg}{A₀:Q0}{E:Qg->Qj->Prop}{κ:Ue}{s:Qj}{X:Keyed->Prop}{r:Keyed->Int}{L rest:List Keyed}{mg:Nat}
noncomputable abbrev dR (κ:Ue)(rest:List Keyed)(rs:List dY)(mg:Nat):SO:=Q1 κ (aX rs++rest).toArray (pos 0 rs).toArray mg none
theorem Ld (hC:eC prog w A₀ κ s X (lr r))(hX:∀ x∈L,X x){pre post:List dY}{c1 c2:List Keyed}{w1 w2:Nat}(h:Rn r L rest (pre++(c1,w1)::(c2,w2)::post)){Q:Bool->SO->Qj->Prop}
  (q:∀ c mg',Rn r L rest (pre++(c,w1)::post)->c.length=c1.length+c2.length->Q true (dR κ rest (pre++(c,w1)::post) mg') s){i:Nat}(hi:i=pre.length) :
  UE (QX prog w) A₀ E (Y7 i) Q (dR κ rest (pre++(c1,w1)::(c2,w2)::post) mg) s:=by
 subst hi
 obtain ⟨h1,h2⟩:=h
 have o1:=h1 (c1,w1) (by simp)
 have o2:=h1 (c2,w2) (by simp)
 have eL:aX (pre++(c1,w1)::(c2,w2)::post)++rest=aX pre++c1++c2++(aX post++rest):=by
  rw [kS,gQ,gQ];simp
 have eP:pos 0 (pre++(c1,w1)::(c2,w2)::post)=pos 0 pre++((aX pre).length,c1.length,w1)::((aX pre).length+c1.length,c2.length,w2)::pos ((aX pre).length+c1.length+c2.length) post:=by
  rw [kT,To];rfl
 unfold dR
 rw [eL,eP]
 refine K8 hC (fun x hx=>hX x (h2.mem_iff.mp (by rw [eL];exact hx))) o1.1 o2.1 o1.2 o2.2 (w1:=w1) (w2:=w2) ?_ ?_ fun c mg' g1 g2=>?_
 ·rw [Ru,QM (by rw [i5];exact Qq _),i5,Us]
  rfl
 ·rw [Ru,QM (by rw [i5];omega),i5,SX]
  rfl
 ·have hl:=g2.length_eq
  rw [Qx] at hl
  have e1:aX pre++c++(aX post++rest)=aX (pre++(c,w1)::post)++rest:=by
   rw [kS,gQ];simp
  have e2:((pos 0 pre++((aX pre).length,c1.length,w1)::((aX pre).length+c1.length,c2.length,w2)::pos ((aX pre).length+c1.length+c2.length) post).toArray.setIfInBounds pre.length ((aX pre).length,c1.length+c2.length,w1)).eraseIdxIfInBounds (pre.length+1)=(pos 0 (pre++(c,w1)::post)).toArray:=by
   apply Sy.mp
   have hp:(pos 0 pre).length=pre.length:=i5 _ _
   rw [Array.toList_eraseIdxIfInBounds,WY,RQ,RQ,kT,To,<- hp,VD _ _ (Qq _),Us,Qu,List.eraseIdx_append_of_length_le (by omega),SX]
   show _=pos 0 pre++((aX pre).length,c.length,w1)::pos ((aX pre).length+c.length) post
   rw [hl,<- Xo]
   rfl
  rw [e1,e2]
  refine q c mg' ⟨fun p hp=>?_,?_⟩ hl
  ·rcases RE.mp hp with hp|hp
   ·exact h1 p (by simp [hp])
   ·rcases Q9.mp hp with rfl|hp
    ·have:=o1.2
     dsimp only at this
     exact ⟨g1,by dsimp only;omega⟩
    ·exact h1 p (by simp [hp])
  ·rw [<- e1]
   refine Wb ?_ h2
   rw [eL]
   have:=(g2.append_left (aX pre)).append_right (aX post++rest)
   simpa using this
theorem BN (hC:eC prog w A₀ κ s X (lr r))(hX:∀ x∈L,X x){rs:List dY}(h:Rn r L rest rs){i:Nat}(hi:i+1<rs.length){Q:Bool->SO->Qj->Prop}
  (q:∀ rs' mg',Rn r L rest rs'->rs'.length+1=rs.length->(aX rs').length=(aX rs).length->Q true (dR κ rest rs' mg') s):UE (QX prog w) A₀ E (Y7 i) Q (dR κ rest rs mg) s:=by
 have e:rs=rs.take i++(rs[i].1,rs[i].2)::(rs[i+1].1,rs[i+1].2)::rs.drop (i+1+1):=by
  have e1:=SN (l:=rs) (i:=i) (by omega)
  have e2:=SN (l:=rs) (i:=i+1) (by omega)
  have e3:=Rq i rs
  rw [e1,e2] at e3
  exact e3.symm
 obtain ⟨pre,c1,w1,c2,w2,post,e',hp⟩:∃ pre c1 w1 c2 w2 post,rs=pre++(c1,w1)::(c2,w2)::post/\i=pre.length:=⟨_,_,_,_,_,_,e,by rw [Q8];omega⟩
 subst e'
 refine Ld hC hX h (fun c mg' g1 g2=>q _ mg' g1 ?_ ?_) hp
 ·simp
  omega
 ·rw [kS,kS,gQ,gQ,gQ]
  simp
  omega
theorem BO {α:Type}(f:α->α):∀ (l:List α)(x:α),(l++[x]).modify l.length f=l++[f x]
 | [],x=>rfl
 | a::l,x=>by
  show a::(l++[x]).modify l.length f=_
  rw [BO f l x]
  rfl
theorem Le (rs:List dY)(c:List Keyed)(w:Nat):(pos 0 rs).toArray.push ((aX rs).length,c.length,w)=(pos 0 (rs++[(c,w)])).toArray:=by
 rw [kT,To]
 apply Sy.mp
 rw [So]
 rfl
theorem Lf (rs:List dY)(c:List Keyed)(w pw:Nat):((pos 0 (rs++[(c,w)])).toArray.modify ((pos 0 (rs++[(c,w)])).toArray.size - 1) fun x=>(x.1,x.2.1,pw))=(pos 0 (rs++[(c,pw)])).toArray:=by
 rw [kT,kT,To]
 apply Sy.mp
 have:=BO (fun x:Nat×Nat×Nat=>(x.1,x.2.1,pw)) (pos 0 rs) ((aX rs).length,c.length,w)
 simp [pos]
 exact this
theorem Lg (rs:List dY)(c:List Keyed)(w:Nat):(pos 0 (rs++[(c,w)])).toArray.back? = some ((aX rs).length,c.length,w):=by
 rw [kT,To]
 simp [pos]
theorem Lh (hC:eC prog w A₀ κ s X (lr r))(hX:∀ x∈L,X x)(hD:Dis r L)(h2:2<=L.length){Q:Unit->SO->Qj->Prop}
  (q:∀ (R:List Keyed)(pd:Array (Nat×Nat×Nat))(mg':Nat),Sr r R->R.Perm L->Q () (Q1 κ R.toArray pd mg' none) s):UE (QX prog w) A₀ E sortRuns' Q (Q1 κ L.toArray #[] mg none) s:=by
 have hsz:(Za (Q1 κ L.toArray #[] mg none)).size=L.length:=Qn
 rw [sortRuns'_eq]
 refine Qw (UD ?_)
 dsimp only
 simp only [hsz]
 generalize minRun' L.length L.length 0=mr
 refine Qw (Sw (fT (fun i b st=>∃ rs rest mg',b=(none,(aX rs).length)/\st=dR κ rest rs mg'/\Rn r L rest rs/\i<=(aX rs).length) (fun b st=>∃ rs mg' n,b=(none,n)/\st=dR κ [] rs mg'/\Rn r L [] rs) 0 L.length (fun i b st hi hI=>?_) (fun b st hI=>?_) (fun b st hDn=>?_) (L.length - 0) 0 _ _ (by omega) ⟨[],L,mg,rfl,rfl,⟨fun p hp=>(by cases hp),UQ _⟩,RV _⟩))
 ·obtain ⟨rs,rest,mg1,rfl,rfl,hR,hle⟩:=hI
  have hlen:=hR.pm.length_eq
  rw [Qx] at hlen
  dsimp only
  refine bM (fun hlo=>?_) fun hlo=>?_
  rotate_left
  ·have:rest=[]:=Sz.mp (by omega)
   subst this
   exact QF ⟨rfl,rs,mg1,_,rfl,rfl,hR⟩
  have hXr:∀ x∈rest,X x:=fun x hx=>hX x (hR.pm.mem_iff.mp (RE.mpr (.inr hx)))
  have hDr:Dis r rest:=by
   have:Dis r (aX rs++rest):=hD.perm hR.pm.symm fun h=>h.symm
   exact (Sh.mp this).2.1
  rw [show L.length - (aX rs).length=rest.length by omega]
  refine Qw (La hC hXr hDr (by omega) fun c t h1 h2 h3=>?_)
  dsimp only
  have hct:=h3.length_eq
  rw [Qx] at hct
  refine bM (fun hmr=>?_) fun hmr=>?_
  rotate_left
  refine Qw (VG (Up ?_))
  have ht:t=t.take (min rest.length mr - c.length)++t.drop (min rest.length mr - c.length):=(Rq _ _).symm
  have hD1:(t.take (min rest.length mr - c.length)).length=min rest.length mr - c.length:=by rw [Q8];omega
  generalize t.take (min rest.length mr - c.length)=D at ht hD1
  generalize t.drop (min rest.length mr - c.length)=t' at ht
  subst ht
  rw [<- QK c D t',show min rest.length mr=c.length+D.length by omega]
  refine Qw (Lc hC (fun x hx=>hXr x (h3.mem_iff.mp (by rw [<- QK];exact hx))) h2 h1 fun c' g1 g2=>?_)
  have hc':=g2.length_eq
  rw [Qx] at hc'
  rw [<- hc',if_neg (by decide)]
  have k1:0<c'.length:=by omega
  have k2:=g1
  have k3:(c'++t').Perm rest:=(g2.append_right t').trans (by rw [QK];exact h3)
  clear hc' g2 g1 h3 hct
  revert k1 k2 k3
  revert t'
  revert c'
  intro cc tt k1 k2 k3
  rotate_left
  have k1:=h1
  have k2:=h2
  have k3:=h3
  clear h1 h2 h3 hct hmr
  revert k1 k2 k3
  revert t
  revert c
  intro cc tt k1 k2 k3
  all_goals
   have hcc:=k3.length_eq
   rw [Qx] at hcc
   refine Qw (UD ?_)
   have fin:∀ (rs':List dY)(mg':Nat),Rn r L (cc++tt) rs'->(aX rs').length=(aX rs).length->∃ rs'' rest' mg'',((none,(aX rs).length+cc.length):Option Unit×Nat)=(none,(aX rs'').length)/\Q1 κ (aX rs'++(cc++tt)).toArray ((pos 0 rs').toArray.push ((aX rs).length,cc.length,0)) mg' none=dR κ rest' rs'' mg''/\Rn r L rest' rs''/\i+1<=(aX rs'').length:=fun rs' mg' g1 g2=>by
    have e1:aX (rs'++[(cc,0)])=aX rs'++cc:=by rw [kS,gQ];show _++(cc++[])=_;rw [RY]
    refine ⟨rs'++[(cc,0)],tt,mg',?_,?_,⟨fun p hp=>?_,?_⟩,?_⟩
    ·rw [e1,Qx,g2]
    ·unfold dR
     rw [<- Le,e1,g2,QK]
    ·rcases RE.mp hp with hp|hp
     ·exact g1.ok p hp
     ·rw [RF.mp hp]
      exact ⟨k2,k1⟩
    ·rw [e1,QK]
     exact g1.pm
    ·rw [e1,Qx]
     omega
   have hR':Rn r L (cc++tt) rs:=⟨hR.ok,(k3.append_left _).trans hR.pm⟩
   rcases XM rs with hrs|⟨rs0,⟨cl,wl⟩,hrs⟩
   ·have hb:(W9 (Q1 κ (aX rs++(cc++tt)).toArray (pos 0 rs).toArray mg1 none)).back? = none:=by rw [hrs];rfl
    simp only [hb]
    exact Qw (Tr (QF ⟨rfl,fin rs mg1 hR' rfl⟩))
   ·rw [XN] at hrs
    have hb:(W9 (Q1 κ (aX rs++(cc++tt)).toArray (pos 0 rs).toArray mg1 none)).back? = some ((aX rs0).length,cl.length,wl):=by rw [hrs];exact Lg rs0 cl wl
    simp only [hb]
    generalize power' L.length (2 * (aX rs0).length+cl.length) (2 * (aX rs0).length+cl.length+cl.length+cc.length) L.length=pw
    refine Qw (Sw (fT (fun j b st=>b=(none,())/\∃ rs' mg',st=dR κ (cc++tt) rs' mg'/\Rn r L (cc++tt) rs'/\rs'≠[]/\(aX rs').length=(aX rs).length) (fun b st=>b=(none,())/\∃ rs' mg',st=dR κ (cc++tt) rs' mg'/\Rn r L (cc++tt) rs'/\rs'≠[]/\(aX rs').length=(aX rs).length) 0 L.length (fun j b st hj hJ=>?_) (fun b st hJ=>hJ) (fun b st hDn=>?_) (L.length - 0) 0 _ _ (by omega) ⟨rfl,rs,mg1,rfl,hR',by rw [hrs];simp,rfl⟩))
    ·obtain ⟨rfl,rs',mg2,rfl,g1,g2,g3⟩:=hJ
     refine Qw (UD ?_)
     have hps:(W9 (dR κ (cc++tt) rs' mg2)).size=rs'.length:=by
      show (pos 0 rs').toArray.size=_
      rw [Qn,i5]
     rw [hps]
     have hn0:0<rs'.length:=Yc.mpr g2
     by_cases h1:rs'.length>1
     ·rw [if_pos h1]
      obtain ⟨⟨o1,o2,o3⟩,ho⟩:∃ o,(W9 (dR κ (cc++tt) rs' mg2))[rs'.length - 2]? = some o:=by
       show ∃ o,(pos 0 rs').toArray[rs'.length - 2]? = some o
       rw [Ru]
       exact ⟨_,Ql (by rw [i5];omega)⟩
      rw [ho]
      dsimp only
      refine bM (fun hp=>?_) fun hp=>?_
      ·refine Qw (BN hC hX g1 (by omega) fun rs2 mg3 a1 a2 a3=>?_)
       rw [if_neg (by decide)]
       exact QF ⟨rfl,rfl,rs2,mg3,rfl,a1,fun e=>by rw [e] at a2;simp at a2;omega,by omega⟩
      ·exact QF ⟨rfl,rfl,rs',mg2,rfl,g1,g2,g3⟩
     ·rw [if_neg h1]
      exact QF ⟨rfl,rfl,rs',mg2,rfl,g1,g2,g3⟩
    ·obtain ⟨rfl,rs',mg2,rfl,g1,g2,g3⟩:=hDn
     dsimp only
     refine Qw (Tr ?_)
     rcases XM rs' with hrs'|⟨rs1,⟨cm,wm⟩,hrs'⟩
     ·exact absurd hrs' g2
     rw [XN] at hrs'
     subst hrs'
     have f1:aX (rs1++[(cm,wm)])=aX (rs1++[(cm,pw)]):=by rw [kS,kS];rfl
     refine Qw (Tr (QF ⟨rfl,?_⟩))
     have:=fin (rs1++[(cm,pw)]) mg2 ⟨fun p hp=>?_,by rw [<- f1];exact g1.pm⟩ (by rw [<- f1];exact g3)
     ·rw [<- Lf rs1 cm wm pw,<- f1] at this
      exact this
     ·rcases RE.mp hp with hp|hp
      ·exact g1.ok p (by simp [hp])
      ·rw [RF.mp hp]
       exact g1.ok (cm,wm) (by simp)
 ·obtain ⟨rs,rest,mg1,rfl,rfl,hR,hle⟩:=hI
  have hlen:=hR.pm.length_eq
  rw [Qx] at hlen
  have:rest=[]:=Sz.mp (by omega)
  subst this
  exact ⟨rs,mg1,_,rfl,rfl,hR⟩
 ·obtain ⟨rs,mg1,n,rfl,rfl,hR⟩:=hDn
  dsimp only
  have hfl:rs.length<=(aX rs).length:=by
   have:∀ rs:List dY,(∀ p∈rs,0<p.1.length)->rs.length<=(aX rs).length:=by
    intro rs
    induction rs with
    | nil=>intro _;exact Qq _
    | cons p rs ih=>
     intro h
     obtain ⟨c,w⟩:=p
     have a:=ih fun p hp=>h p (by simp [hp])
     have b:=h (c,w) (by simp)
     dsimp only at b
     rw [gQ,Qx,QU]
     omega
   exact this rs fun p hp=>(hR.ok p hp).2
  have hlen:=hR.pm.length_eq
  rw [Qx,SY] at hlen
  refine Qw (Sw (fT (fun i b st=>b=(none,())/\∃ rs mg',st=dR κ [] rs mg'/\Rn r L [] rs/\rs.length+i<=L.length) (fun b st=>b=(none,())/\∃ rs mg',st=dR κ [] rs mg'/\Rn r L [] rs/\rs.length<=1) 0 L.length (fun i b st hi hI=>?_) (fun b st hI=>?_) (fun b st hDn=>?_) (L.length - 0) 0 _ _ (by omega) ⟨rfl,rs,mg1,rfl,hR,by omega⟩))
  ·obtain ⟨rfl,rs,mg2,rfl,hR,hb⟩:=hI
   refine Qw (UD ?_)
   have hps:(W9 (dR κ [] rs mg2)).size=rs.length:=by
    show (pos 0 rs).toArray.size=_
    rw [Qn,i5]
   rw [hps]
   refine bM (fun h1=>?_) fun h1=>?_
   ·refine Qw (BN hC hX hR ?_ fun rs' mg' g1 g2 g3=>?_)
    ·split<;>(try split)<;>omega
    ·rw [if_neg (by decide)]
     exact QF ⟨rfl,rfl,rs',mg',rfl,g1,by omega⟩
   ·exact QF ⟨rfl,rfl,rs,mg2,rfl,hR,h1⟩
  ·obtain ⟨rfl,rs,mg2,rfl,hR,hb⟩:=hI
   exact ⟨rfl,rs,mg2,rfl,hR,by omega⟩
  ·obtain ⟨rfl,rs,mg2,rfl,hR,hb⟩:=hDn
   dsimp only
   have hpm:=hR.pm
   rw [RY] at hpm
   refine QF ?_
   have:=q (aX rs++[]) (pos 0 rs).toArray mg2 ?_ (by rw [RY];exact hpm)
   ·exact this
   ·rw [RY]
    match rs,hb,hR with
    | [],_,_=>exact VA
    | [(c,w)],_,hR=>
     have:=(hR.ok (c,w) (by simp)).1
     rw [gQ]
     show Sr r (c++[])
     rw [RY]
     exact this
    | _::_::_,hb,_=>simp at hb
end
end L3
namespace L3
open PySem L2 PySem.W PyProof.Rows
section
variable {prog:QR}{w:Rg}{A:Q0}{E:Qg->Qj->Prop}{s:Qj}
theorem BP {c:Addr}{us:List Qg}{z:Nat}{rk:Qg->Int}(N:us.Pairwise fun x y=>rk x≠rk y)(h1:2<=us.length)(h2:us.length<=Qs){R:a0f->Qj->Prop}(g:s.heap.get? c=some (RZ "list" us.toArray z))
  (H:∀ h3:RG,(∀ b o,b≠c->s.heap.get? b=some o->h3.get? b=some o)->qP prog w A us (fun x y=>decide (rk x<rk y)) { s with heap:=h3 })
  (q:∀ out:List Qg,out.Perm us->out.Pairwise (fun x y=>rk x<=rk y)->R (.done (.ret .none)) { s with heap:=Ww s.heap c us out.toArray }) :
  QV (QX prog w) A (Builtin.«list.sort» ⟨[.ref c],[]⟩) R E s:=by
 rw [a0c]
 have lt:c<s.heap.objs.size:=QD g
 refine Qh (listItems_at g rfl (Qh (Ws g rfl ?_ (by rw [Qn];omega) (RV _))))
 obtain ⟨y,g1⟩:∃ y,(s.heap.update c (RL fun _=>#[])).get? c=some (RZ "list" #[] y):=⟨_,a0e g _⟩
 refine Qh (Xg g1 rfl (Qh (Xw (Qh (Vt (RH ?_) (RV _))) (by show us.length<=_;omega))))
 have g6:(((s.heap.update c (RL fun _=>#[])).push (RZ "tuple" us.toArray 0)).push (RZ "list" #[] 0)).get? c=some (RZ "list" #[] y):=
  Qo _ (Qo _ g1)
 have ask:=H (((s.heap.update c (RL fun _=>#[])).push (RZ "tuple" us.toArray 0)).push (RZ "list" #[] 0)) fun b o hb e=>Qo _ (Qo _ ((Sm _ _ (Sn hb)).trans e))
 show QV (QX prog w) A _ R E ⟨((s.heap.update c (RL fun _=>#[])).push (RZ "tuple" us.toArray 0)).push (RZ "list" #[] 0),s.gens,s.drawn,s.toks,s.os⟩
 dsimp only
 have many:¬ us.toArray.size<2:=by rw [Qn];omega
 rw [if_neg many,if_neg many]
 refine Qh (Rv ask (fun κ s' hk=>?_) fun _ _ x=>x.elim)
 obtain ⟨rfl,hk⟩:=hk
 have ez:us.toArray.zip us.toArray=(us.map fun u=>(u,u)).toArray:=by
  apply Sy.mp
  rw [KY,RQ]
 have run:=Lh (prog:=prog) (w:=w) (A₀:=A) (E:=E) (κ:=κ) (X:=fun p=>∃ u∈us,p=(u,u)) (r:=fun p=>rk p.1)
  (s:={ s with heap:=((s.heap.update c (RL fun _=>#[])).push (RZ "tuple" us.toArray 0)).push (RZ "list" #[] 0) }) (L:=us.map fun u=>(u,u)) (mg:=7)
  (fun x y C hx hy hc=>by
   obtain ⟨u,hu,rfl⟩:=hx
   obtain ⟨v,hv,rfl⟩:=hy
   exact hk u v C hu hv hc) (fun x hx=>by
   obtain ⟨u,hu,rfl⟩:=Q4.mp hx
   exact ⟨u,hu,rfl⟩) (by unfold Dis;rw [RR];exact N) (by rw [Qm];exact h1)
  (Q:=fun _ st' s'=>s' = { s with heap:=((s.heap.update c (RL fun _=>#[])).push (RZ "tuple" us.toArray 0)).push (RZ "list" #[] 0) }/\failedOf st'=none/\∃ out:List Qg,(Za st').map (·.2)=out.toArray/\out.Perm us/\out.Pairwise (fun x y=>rk x<=rk y)) (fun T pd mg' h3 h4=>⟨rfl,rfl,T.map (·.2),by
   show T.toArray.map (·.2)=_
   rw [List.map_toArray],by
   have:=h4.map (·.2)
   rw [Rj] at this
   exact this.trans (by rw [show ((fun p:Keyed=>p.2) ∘ fun u:Qg=>(u,u))=id from rfl,Z2]),by
   rw [RR]
   refine S6 (R:=fun x y:Keyed=>rk x.1<=rk y.1) (fun {x y} hx hy h=>?_) h3
   obtain ⟨u,_,rfl⟩:=Q4.mp (h4.mem_iff.mp hx)
   obtain ⟨v,_,rfl⟩:=Q4.mp (h4.mem_iff.mp hy)
   exact h⟩)
 rw [ez]
 refine Qh (Rv run (fun r s' hr=>?_) fun _ _ e=>e)
 obtain ⟨⟨⟩,st'⟩:=r
 obtain ⟨rfl,hf,out,hout,hp,hsd⟩:=hr
 dsimp only at hf hout ⊢
 rw [hout]
 have hol:=hp.length_eq
 refine Qh (Xg g6 rfl (Qh (Ws g6 rfl ?_ (hsz2:=by rw [Qn];omega))))
 rw [hf]
 simp only [bne_self_eq_false,Qp,if_false]
 exact Qt (q out hp hsd)
theorem Li {l:Addr}{us:List Qg}{rk:Qg->Int}(N:us.Pairwise fun x y=>rk x≠rk y)(h1:2<=us.length)(h2:us.length<=Qs){Q:Qg->Qj->Prop}(hl:s.heap.IsList l us.toArray)
  (H:∀ h3:RG,(∀ b o,s.heap.get? b=some o->h3.get? b=some o)->qP prog w A.in1.in1 us (fun x y=>decide (rk x<rk y)) { s with heap:=h3 })
  (q:∀ out:List Qg,out.Perm us->out.Pairwise (fun x y=>rk x<=rk y)->Q (.ref (s.heap.objs.size+1)) { s with heap:=sortedAll s.heap us out.toArray }):QV (QX prog w) A (call (.builtin "sorted") [.ref l]) Q E s:=by
 refine U8 Y8 Yx Yz (YA _) ?_
 unfold V3
 refine Qh (m:=Zy "sorted" 1 1 _) (Qt (Qh (collect_list hl (Qh (Vt ?_ (by omega))) (by omega))))
 have z:((s.heap.push (RZ "list" #[] 0)).update s.heap.objs.size (RL (·++us.toArray))).objs.size=s.heap.objs.size+1:=by rw [Y2,size_push']
 have g:(((s.heap.push (RZ "list" #[] 0)).update s.heap.objs.size (RL (·++us.toArray))).push (RZ "list" us.toArray 0)).get? (s.heap.objs.size+1)=some (RZ "list" us.toArray 0):=z ▸ QY _ rfl
 show QV _ _ _ _ _ ⟨((s.heap.push (RZ "list" #[] 0)).update s.heap.objs.size (RL (·++us.toArray))).push (RZ "list" us.toArray 0),s.gens,s.drawn,s.toks,s.os⟩
 rw [z]
 refine Qh (RH (SS Vj ⟨_,g,rfl⟩ U6 (BP N h1 h2 g (fun h3 kp=>H h3 fun b o e=>kp b o ?_ ?_) fun out o1 o2=>⟨_,rfl,?_⟩) (Vl _)))
 ·exact Q7 (Wq (QD e))
 ·exact Qo _ ((Sm _ _ (SQ (QD e))).trans (Qo _ e))
 ·exact Qt ⟨_,rfl,q out o1 o2⟩
end
section
variable {α:Type}{lt:α->α->Bool}
structure Ord1 (lt:α->α->Bool):Prop where
 ir:∀ x,lt x x=false
 tr:∀ x y z,lt x y=true->lt y z=true->lt x z=true
 to:∀ x y,lt x y=false->lt y x=false->x=y
noncomputable def eQ (lt:α->α->Bool)(l:List α)(x:α):Int:=(l.countP fun y=>lt y x:Nat)
theorem BQ (h:Ord1 lt){l:List α}{x y:α}(hx:x∈l):lt x y=true->eQ lt l x<eQ lt l y:=fun e=>by
 unfold eQ
 have:∀ l:List α,l.countP (fun z=>lt z x)<=l.countP (fun z=>lt z y):=fun l=>List.countP_mono_left fun z _ hz=>h.tr z x y hz e
 have h2:l.countP (fun z=>lt z x)<l.countP (fun z=>lt z y):=by
  induction l with
  | nil=>cases hx
  | cons a l ih=>
   rw [T1,T1]
   rcases Q9.mp hx with rfl|hx
   ·rw [h.ir,e,if_neg RB,if_pos rfl]
    have:=this l
    omega
   ·have:=ih hx
    by_cases ha:lt a x=true
    ·rw [if_pos ha,if_pos (h.tr _ _ _ ha e)];omega
    ·rw [if_neg ha];split<;>omega
 omega
theorem mN (h:Ord1 lt){l:List α}{x y:α}(hx:x∈l)(hy:y∈l):lt x y=decide (eQ lt l x<eQ lt l y):=by
 cases e:lt x y with
 | true=>rw [decide_eq_true (BQ h hx e)]
 | false=>
  symm
  rw [decide_eq_false_iff_not]
  cases e2:lt y x with
  | true=>have:=BQ h hy e2;omega
  | false=>rw [h.to x y e e2];omega
theorem qS (h:Ord1 lt){l:List α}{x y:α}(hx:x∈l)(hy:y∈l)(hn:x≠y):eQ lt l x≠eQ lt l y:=fun e=>by
 have a:=mN h hx hy
 have b:=mN h hy hx
 rw [e,decide_eq_false (by omega)] at a
 rw [e,decide_eq_false (by omega)] at b
 exact hn (h.to x y a b)
theorem BR (h:Ord1 lt):∀ {a b:List α},a.Perm b->a.Pairwise (fun x y=>lt x y=true)->b.Pairwise (fun x y=>lt x y=true)->a=b
 | [],b,p,_,_=>(List.nil_perm.mp p).symm
 | x::a,b,p,ha,hb=>by
  match b,p,hb with
  | [],p,_=>exact absurd p.length_eq (by simp)
  | y::b,p,hb=>
   have e:x=y:=by
    rcases Q9.mp (p.mem_iff.mp (QN ..)) with e|hx
    ·exact e
    ·rcases Q9.mp (p.symm.mem_iff.mp (QN ..)) with e|hy
     ·exact e.symm
     ·have h1:=Vb hb hx
      have h2:=Vb ha hy
      have:=h.tr _ _ _ h1 h2
      rw [h.ir] at this
      cases this
   subst e
   rw [BR h (List.Perm.cons_inv p) (S7.mp ha).2 (S7.mp hb).2]
end
theorem ltS_ord:Ord1 dH:=by
 refine ⟨fun x=>?_,fun x y z h1 h2=>?_,fun x y h1 h2=>?_⟩
 ·unfold dH
  rw [decide_eq_false_iff_not]
  exact List.lt_irrefl _
 ·unfold dH at *
  rw [decide_eq_true_eq] at *
  exact List.lt_trans h1 h2
 ·unfold dH at *
  rw [decide_eq_false_iff_not] at *
  have:x.cps.toList=y.cps.toList:=List.le_antisymm (Z1.mp h2) (Z1.mp h1)
  obtain ⟨⟨a⟩⟩:=x
  obtain ⟨⟨b⟩⟩:=y
  cases this
  rfl
end L3
namespace L3
open PySem L2 PySem.W PyProof.Rows
noncomputable def gR (ss:List Str):List Str:=ss.mergeSort fun a b=>!(dH b a)
theorem BS (ss:List Str):(gR ss).Perm ss:=X9 _ _
theorem Lj {ss:List Str}(hn:ss.Nodup):(gR ss).Pairwise fun x y=>dH x y=true:=by
 have h:=Xq (le:=fun a b=>!(dH b a)) (fun a b c h1 h2=>by
  rw [Uo] at h1 h2 ⊢
  cases e:dH c a with
  | false=>rfl
  | true=>
   cases e2:dH a b with
   | true=>rw [ltS_ord.tr _ _ _ e e2] at h2;cases h2
   | false=>rw [ltS_ord.to _ _ e2 h1] at e;rw [e] at h2;cases h2) (fun a b=>by
  cases e:dH b a with
  | false=>rfl
  | true=>
   cases e2:dH a b with
   | false=>rfl
   | true=>have:=ltS_ord.tr _ _ _ e e2;rw [ltS_ord.ir] at this;cases this) ss
 have hnd:(gR ss).Nodup:=(BS ss).nodup_iff.mpr hn
 refine Z4 (R:=fun a b=>(!(dH b a))=true) (S:=fun a b=>a≠b) (fun {a b} h1 h2=>?_) h hnd
 rw [Uo] at h1
 cases e:dH a b with
 | true=>rfl
 | false=>exact absurd (ltS_ord.to _ _ e h1) h2
theorem Lk {ss ts:List Str}(hp:ts.Perm ss)(hs:ts.Pairwise fun x y=>dH x y=true):gR ss=ts:=by
 have hn:ts.Nodup:=hs.imp fun {a b} h e=>by rw [e,ltS_ord.ir] at h;cases h
 exact BR ltS_ord ((BS ss).trans hp.symm) (Lj (hp.nodup_iff.mp hn)) hs
noncomputable def vB (K:Qf):List V->Hp->VK->Prop:=fun xs H Q=>∃ q ss,xs=[V.ref q]/\SqL K H q (ss.map V.str)/\2<=ss.length/\ss.Nodup/\∀ l,H l=none->Q (.ref l) (aH H l (.lst ((gR ss).map V.str)))
theorem Ll {X:Cx}:CallR X (.builtin "sorted") (vB X.K):=by
 intro a0V s σ H xs us Q I r h
 obtain ⟨q,ss,rfl,hq,h1,hn,k⟩:=h
 obtain ⟨u,rfl,ru⟩:=fP r
 cases ru
 obtain ⟨its,rv,pl,hz⟩:=I.list hq
 have hlen:=rv.length
 rw [Qm] at hlen
 have hS:=BC rv
 have hst:=hS.strs
 have hmem:∀ v∈its,WL v∈ss:=fun v hv=>by rw [<- hst];exact Q4.mpr ⟨v,hv,rfl⟩
 have hz':its.length<=Qs:=by rw [Qm] at hz;omega
 refine Li (rk:=fun v=>eQ dH ss (WL v)) ?_ (by omega) hz' pl.isList (fun h3 kp=>?_) fun out o1 o2=>?_
 ·have:(its.map WL).Nodup:=by rw [hst];exact hn
  unfold V7 at this
  rw [RR] at this
  exact S6 (fun {x y} hx hy h=>qS ltS_ord (hmem x hx) (hmem y hy) h) this
 ·unfold qP
  match its,hS,hlen,hmem with
  | v₁::v₂::vs,hS,_,hmem=>
   rw [keyKind_strs hS]
   refine Qt ⟨rfl,fun x y C hx hy hC=>?_⟩
   dsimp only at hC
   rw [<- mN ltS_ord (hmem x hx) (hmem y hy)] at hC
   obtain ⟨a,t,rfl⟩:=hS.all x hx
   obtain ⟨b,t',rfl⟩:=hS.all y hy
   exact kas_lt_str hC
  | [_],_,h,_=>exact absurd (show ss.length=1 from h) (by omega)
  | [],_,h,_=>exact absurd (show ss.length=0 from h) (by omega)
 ·have hall:∀ v∈out,∃ x t,v=Vm x t:=fun v hv=>hS.all v (o1.mem_iff.mp hv)
  have hout:out.map WL=gR ss:=by
   symm
   refine Lk (by rw [<- hst];exact o1.map _) ?_
   rw [RR]
   have hnd:(out.map WL).Nodup:=(o1.map WL).nodup_iff.mpr (by rw [hst];exact hn)
   unfold V7 at hnd
   rw [RR] at hnd
   refine S6 (R:=fun x y=>eQ dH ss (WL x)<=eQ dH ss (WL y)/\WL x≠WL y) (fun {x y} hx hy h=>?_) (o2.and hnd)
   have mx:=hmem x (o1.mem_iff.mp hx)
   have my:=hmem y (o1.mem_iff.mp hy)
   rw [mN ltS_ord mx my,decide_eq_true_eq]
   have:=qS ltS_ord mx my h.2
   have:=h.1
   omega
  have hval:∀ {out:List Qg},(∀ v∈out,∃ x t,v=Vm x t)->Vals ((out.map WL).map V.str) out:=by
   intro out
   induction out with
   | nil=>intro _;exact .nil
   | cons v out ih=>
    intro h
    obtain ⟨x,t,rfl⟩:=h v (by simp)
    exact .cons ⟨t,rfl⟩ (ih fun v hv=>h v (by simp [hv]))
  have hol:=o1.length_eq
  obtain ⟨e,he⟩:=UO s.heap its out.toArray
  refine ⟨.ref (s.heap.objs.size+1),_,I.laid (t':=s.toks) (a:=s.heap.objs.size+1) (o:=.lst ((gR ss).map V.str)) (fun b ob z=>Uz z) (UP _) ?_,rfl,k _ (I.hok.fresh (UP _))⟩
  rw [<- hout]
  exact ⟨by simp only [Qm];omega,out,e,hval hall,he⟩
end L3
namespace L3
open PySem L2
open PyProof.Rows (IntsAre Fr News seqObj)
section
variable {prog:QR}{w:Rg}{A:Q0}{E:Qg->Qj->Prop}{s:Qj}{h₀:RG}{L:Addr}{m:Str->Option Qg}{news:List (Addr×SD)}
end
theorem kU:∀ a:List Int,HT.lexLt a a=false
 | []=>rfl
 | x::a=>by rw [HT.lexLt_cons,if_pos rfl];exact kU a
theorem BU:∀ {a b:List Int},a≠b->HT.lexLt a b = !HT.lexLt b a
 | [],[],h=>absurd rfl h
 | [],_::_,_=>rfl
 | _::_,[],_=>rfl
 | x::a,y::b,h=>by
  rw [HT.lexLt_cons,HT.lexLt_cons]
  by_cases e:x=y
  ·subst e
   rw [if_pos rfl,if_pos rfl]
   exact BU fun z=>h (by rw [z])
  ·rw [if_neg e,if_neg (Sn e)]
   rcases Int.lt_or_gt_of_ne e with z|z
   ·rw [decide_eq_true z,decide_eq_false (by omega)];rfl
   ·rw [decide_eq_false (by omega),decide_eq_true z];rfl
theorem kW:∀ {a b c:List Int},HT.lexLt a b=true->HT.lexLt b c=true->HT.lexLt a c=true
 | _,[],[],_,h=>absurd h (by intro z;cases z)
 | _,_::_,[],_,h=>absurd h (by intro z;cases z)
 | [],_,_::_,_,_=>rfl
 | _::_,[],_::_,h,_=>absurd h (by intro z;cases z)
 | x::a,y::b,z::c,h1,h2=>by
  rw [HT.lexLt_cons] at h1 h2 ⊢
  by_cases e1:x=y
  ·subst e1
   rw [if_pos rfl] at h1
   by_cases e2:x=z
   ·subst e2
    rw [if_pos rfl] at h2 ⊢
    exact kW h1 h2
   ·rw [if_neg e2] at h2 ⊢
    exact h2
  ·rw [if_neg e1] at h1
   by_cases e2:y=z
   ·subst e2
    rw [if_neg e1];exact h1
   ·rw [if_neg e2] at h2
    rw [decide_eq_true_eq] at h1 h2
    rw [if_neg (by omega),decide_eq_true_eq];omega
section
variable {X:Cx}{a0V:List (Addr×SD)}{σ:St}{H:Hp}{s:Qj}
end
end L3
namespace L3
open PySem
open PySem.W (KasT kas_asc kas_desc kas_tail3 kas_descPart kas_count kas_place kas_bin kas_sort kas_rev)
open PyProof.Rows (mirror bubble getElem?_bubble getElem?_mirror_all mirror_size bubble_size)
theorem mO {α β:Type}{ans:Nat->Nat->Bool}{f:α->a0R β}:∀ t:a0R α,aR ans (t.bind f)=aR ans (f (aR ans t))
 | .ret a=>rfl
 | .ask i j k=>by
  show aR ans ((k (ans i j)).bind f)=_
  rw [mO]
  rfl
section
variable {ans:Nat->Nat->Bool}{κ:Nat->Nat}(hk:∀ i j,ans i j=decide (κ i<κ j))
noncomputable def gK (κ:Nat->Nat)(p:Array Nat)(k:Nat):Nat:=κ (p.getD k 0)
theorem n9 {p q:Array Nat}{k m:Nat}(h:p[k]? = q[m]?):p.getD k 0=q.getD m 0:=by
 have e:∀ (a:Array Nat)(i:Nat),a.getD i 0=(a[i]?).getD 0:=fun a i=>by
  by_cases hi:i<a.size
  ·simp [Tp,hi]
  ·simp [Tp,hi]
 rw [e,e,h]
theorem kX {p:Array Nat}{i j:Nat}(hj:j<=p.size)(k:Nat):gK κ (Ti p i j) k=if i<=k/\k<j then gK κ p (i+j - 1 - k) else gK κ p k:=by
 have h:=Zi (i:=i) hj k
 by_cases c:i<=k/\k<j
 ·rw [if_pos c] at h ⊢
  exact congrArg κ (n9 h)
 ·rw [if_neg c] at h ⊢
  exact congrArg κ (n9 h)
theorem BV {p:Array Nat}{s d:Nat}(hs:s<p.size)(hd:d<=s)(k:Nat):gK κ (bubble p s d) k=if k=s - d then gK κ p s else if s - d<k/\k<=s then gK κ p (k - 1) else gK κ p k:=by
 have h:=a0d hs d hd k
 by_cases c:k=s - d
 ·rw [if_pos c] at h ⊢
  exact congrArg κ (n9 h)
 ·rw [if_neg c] at h ⊢
  by_cases c2:s - d<k/\k<=s
  ·rw [if_pos c2] at h ⊢
   exact congrArg κ (n9 h)
  ·rw [if_neg c2] at h ⊢
   exact congrArg κ (n9 h)
theorem oA (p:Array Nat)(i j:Nat):(Ti p i j).size=p.size:=mirror_size _ _ _ _
noncomputable def gT (κ:Nat->Nat)(p:Array Nat)(m:Nat):Prop:=∀ i j,i<=j->j<m->gK κ p i<=gK κ p j
include hk in
theorem vC (p:Array Nat):∀ (f m:Nat),m<=aR ans (Tj p f m)/\aR ans (Tj p f m)<=m+f/\(∀ j,m<=j->j<aR ans (Tj p f m)->gK κ p (j - 1)<=gK κ p j) /\
  (aR ans (Tj p f m)<m+f->gK κ p (aR ans (Tj p f m))<gK κ p (aR ans (Tj p f m) - 1))
 | 0,m=>⟨Qq _,Qq _,fun j h1 h2=>absurd (show j<m from h2) (by omega),fun h=>absurd (show m<m+0 from h) (by omega)⟩
 | f+1,m=>by
  have e:aR ans (Tj p (f+1) m)=if ans (p.getD m 0) (p.getD (m - 1) 0)=true then m else aR ans (Tj p f (m+1)):=by
   show aR ans (if ans (p.getD m 0) (p.getD (m - 1) 0)=true then Tn m else Tj p f (m+1))=_
   split<;>rfl
  rw [e,hk]
  by_cases h:κ (p.getD m 0)<κ (p.getD (m - 1) 0)
  ·rw [if_pos (by simpa using h)]
   exact ⟨Qq _,by omega,fun j h1 h2=>absurd h2 (by omega),fun _=>h⟩
  ·rw [if_neg (by simpa using h)]
   obtain ⟨i1,i2,i3,i4⟩:=vC p f (m+1)
   refine ⟨by omega,by omega,fun j h1 h2=>?_,fun h2=>i4 (by omega)⟩
   by_cases hj:j=m
   ·subst hj;exact TB.mp h
   ·exact i3 j (by omega) h2
theorem BW {p:Array Nat}{m:Nat}(h:∀ j,1<=j->j<m->gK κ p (j - 1)<=gK κ p j):gT κ p m:=by
 intro i j hij hj
 induction j with
 | zero=>
  have:i=0:=by omega
  subst this;exact Qq _
 | succ j ih=>
  by_cases e:i=j+1
  ·subst e;exact Qq _
  ·exact Sb (ih (by omega) (by omega)) (h (j+1) (by omega) hj)
structure Falls (κ:Nat->Nat)(p:Array Nat)(n q:Nat):Prop where
 fall:∀ i j,i<=j->j<n->gK κ p j<=gK κ p i
 alike:∀ k,n - 1 - q<=k->k<n->gK κ p k=gK κ p (n - 1)
 qn:q<n
theorem Falls.rev {p:Array Nat}{n q:Nat}(F:Falls κ p n q)(hn:n<=p.size):∀ k,gK κ (Ti p (n - (q+1)) n) k=gK κ p k:=fun k=>by
 rw [kX hn]
 split
 ·rename_i c
  have:=F.qn
  rw [F.alike (n - (q+1)+n - 1 - k) (by omega) (by omega),F.alike k (by omega) c.2]
 ·rfl
theorem Falls.same {p p':Array Nat}{n q:Nat}(F:Falls κ p n q)(h:∀ k,gK κ p' k=gK κ p k):Falls κ p' n q:=
 ⟨fun i j h1 h2=>by rw [h,h];exact F.fall i j h1 h2,fun k h1 h2=>by rw [h,h];exact F.alike k h1 h2,F.qn⟩
include hk in
theorem qT:∀ (f:Nat)(p:Array Nat)(n q:Nat),1<=n->n+f<=p.size->Falls κ p n q->
  ∃ p' n' q',aR ans (S0 f p n q)=(p',n',q')/\p'.size=p.size/\n<=n'/\n'<=n+f/\Falls κ p' n' q'
 | 0,p,n,q,_,_,F=>⟨p,n,q,rfl,rfl,Qq _,Qq _,F⟩
 | f+1,p,n,q,h1,hs,F=>by
  have hqn:=F.qn
  by_cases h:κ (p.getD n 0)<κ (p.getD (n - 1) 0)
  ·have h':gK κ p n<gK κ p (n - 1):=h
   have grow:∀ p':Array Nat,(∀ k,gK κ p' k=gK κ p k)->Falls κ p' (n+1) 0:=fun p' hp=>⟨fun i j hi hj=>by
     rw [hp,hp]
     by_cases e:j=n
     ·subst j
      by_cases e2:i=n
      ·subst i;exact Qq _
      ·have:=F.fall i (n - 1) (by omega) (by omega)
       omega
     ·exact F.fall i j hi (by omega),fun k hk1 hk2=>by
     have:k=n:=by omega
     subst this
     simp,by omega⟩
   by_cases hq:q>0
   ·have e:aR ans (S0 (f+1) p n q)=aR ans (S0 f (Ti p (n - (q+1)) n) (n+1) 0):=by
     show aR ans (if ans (p.getD n 0) (p.getD (n - 1) 0)=true then (if q>0 then S0 f (Ti p (n - (q+1)) n) (n+1) 0 else S0 f p (n+1) 0) else _)=_
     rw [hk,if_pos (by simpa using h),if_pos hq]
    obtain ⟨p',n',q',r1,r2,r3,r4,r5⟩:=qT f (Ti p (n - (q+1)) n) (n+1) 0 (by omega) (by rw [oA];omega) (grow _ (F.rev (by omega)))
    exact ⟨p',n',q',e.trans r1,r2.trans (oA _ _ _),by omega,by omega,r5⟩
   ·have e:aR ans (S0 (f+1) p n q)=aR ans (S0 f p (n+1) 0):=by
     show aR ans (if ans (p.getD n 0) (p.getD (n - 1) 0)=true then (if q>0 then S0 f (Ti p (n - (q+1)) n) (n+1) 0 else S0 f p (n+1) 0) else _)=_
     rw [hk,if_pos (by simpa using h),if_neg hq]
    obtain ⟨p',n',q',r1,r2,r3,r4,r5⟩:=qT f p (n+1) 0 (by omega) (by omega) (grow p fun _=>rfl)
    exact ⟨p',n',q',e.trans r1,r2,by omega,by omega,r5⟩
  ·by_cases h2:κ (p.getD (n - 1) 0)<κ (p.getD n 0)
   ·have e:aR ans (S0 (f+1) p n q)=(p,n,q):=by
     show aR ans (if ans (p.getD n 0) (p.getD (n - 1) 0)=true then _ else VN (p.getD (n - 1) 0) (p.getD n 0) fun d=>if d=true then Tn (p,n,q) else S0 f p (n+1) (q+1))=_
     rw [hk,if_neg (by simpa using h)]
     show aR ans (if ans (p.getD (n - 1) 0) (p.getD n 0)=true then Tn (p,n,q) else S0 f p (n+1) (q+1))=_
     rw [hk,if_pos (by simpa using h2)]
     rfl
    exact ⟨p,n,q,e,rfl,Qq _,by omega,F⟩
   ·have e:aR ans (S0 (f+1) p n q)=aR ans (S0 f p (n+1) (q+1)):=by
     show aR ans (if ans (p.getD n 0) (p.getD (n - 1) 0)=true then _ else VN (p.getD (n - 1) 0) (p.getD n 0) fun d=>if d=true then Tn (p,n,q) else S0 f p (n+1) (q+1))=_
     rw [hk,if_neg (by simpa using h)]
     show aR ans (if ans (p.getD (n - 1) 0) (p.getD n 0)=true then Tn (p,n,q) else S0 f p (n+1) (q+1))=_
     rw [hk,if_neg (by simpa using h2)]
    have heq:gK κ p n=gK κ p (n - 1):=by
     have a1:¬ gK κ p n<gK κ p (n - 1):=h
     have a2:¬ gK κ p (n - 1)<gK κ p n:=h2
     omega
    have G:Falls κ p (n+1) (q+1):=⟨fun i j hi hj=>by
      by_cases e:j=n
      ·subst j
       by_cases e2:i=n
       ·subst i;exact Qq _
       ·rw [heq];exact F.fall i (n - 1) (by omega) (by omega)
      ·exact F.fall i j hi (by omega),fun k hk1 hk2=>by
      have e3:n+1 - 1=n:=by omega
      rw [e3]
      by_cases e:k=n
      ·rw [e]
      ·rw [heq];exact F.alike k (by omega) (by omega),by omega⟩
    obtain ⟨p',n',q',r1,r2,r3,r4,r5⟩:=qT f p (n+1) (q+1) (by omega) (by omega) G
    exact ⟨p',n',q',e.trans r1,r2,by omega,by omega,r5⟩
include hk in
theorem BX {p:Array Nat}{n N q:Nat}(h1:1<=n)(hn:n<=N)(hs:p.size=N)(F:Falls κ p n q) :
  ∃ m p',aR ans (Vg n N p)=(m,p')/\p'.size=N/\1<=m/\m<=N/\gT κ p' m:=by
 have up:∀ j,1<=j->j<n->gK κ (Ti p 0 n) (j - 1)<=gK κ (Ti p 0 n) j:=fun j a b=>by
  rw [kX (by omega),kX (by omega),if_pos ⟨by omega,by omega⟩,if_pos ⟨by omega,by omega⟩]
  exact F.fall _ _ (by omega) (by omega)
 obtain ⟨a1,a2,a3,_⟩:=vC hk (Ti p 0 n) (N - n) n
 refine ⟨aR ans (Tj (Ti p 0 n) (N - n) n),Ti p 0 n,?_,by rw [oA,hs],?_,?_,BW fun j h1 h2=>?_⟩
 ·unfold Vg
  rw [mO]
  rfl
 ·omega
 ·omega
 ·by_cases h:j<n
  ·exact up j h1 h
  ·exact a3 j (by omega) h2
include hk in
theorem BY {p:Array Nat}{n N:Nat}(h1:1<=n)(hn:n<N)(hs:p.size=N)(hall:∀ i j,i<=j->j<n->gK κ p j<=gK κ p i)(hlt:gK κ p n<gK κ p (n - 1)) :
  ∃ m p',aR ans (TM n N p)=(m,p')/\p'.size=N/\1<=m/\m<=N/\gT κ p' m:=by
 have F:Falls κ p (n+1) 0:=⟨fun i j hi hj=>by
   by_cases e:j=n
   ·subst j
    by_cases e2:i=n
    ·subst i;exact Qq _
    ·have:=hall i (n - 1) (by omega) (by omega)
     omega
   ·exact hall i j hi (by omega),fun k a b=>by
   have:k=n:=by omega
   subst this
   simp,by omega⟩
 obtain ⟨p',n',q',r1,r2,r3,r4,r5⟩:=qT hk (N - (n+1)) p (n+1) 0 (by omega) (by omega) F
 have e:aR ans (TM n N p)=aR ans (if q'>0 then Vg n' N (Ti p' (n' - (q'+1)) n') else Vg n' N p'):=by
  unfold TM
  rw [mO,r1]
 rw [e]
 split
 ·exact BX hk (by omega) (by omega) (by rw [oA,r2,hs]) (r5.same (r5.rev (by omega)))
 ·exact BX hk (by omega) (by omega) (r2.trans hs) r5
include hk in
theorem Lm {p:Array Nat}{N:Nat}(h1:1<=N)(hs:p.size=N):∃ m p',aR ans (Yi N p)=(m,p')/\p'.size=N/\1<=m/\m<=N/\gT κ p' m:=by
 obtain ⟨a1,a2,a3,a4⟩:=vC hk p (N - 1) 1
 have e:aR ans (Yi N p)=aR ans (if (aR ans (Tj p (N - 1) 1) == N)=true then Tn (aR ans (Tj p (N - 1) 1),p) else if aR ans (Tj p (N - 1) 1)>1 then VN (p.getD 0 0) (p.getD (aR ans (Tj p (N - 1) 1) - 1) 0) (fun c=>if c=true then Tn (aR ans (Tj p (N - 1) 1),p) else TM (aR ans (Tj p (N - 1) 1)) N (Ti p 0 (aR ans (Tj p (N - 1) 1)))) else TM (aR ans (Tj p (N - 1) 1)) N p):=by
  unfold Yi
  rw [mO]
 rw [e]
 generalize aR ans (Tj p (N - 1) 1)=n at *
 have up:=BW (κ:=κ) (p:=p) (m:=n) a3
 split
 ·exact ⟨n,p,rfl,hs,a1,by omega,up⟩
 ·rename_i hne
  have hne:n≠N:=by simpa using hne
  have hlt:=a4 (by omega)
  split
  ·rename_i hg
   show ∃ m p',aR ans (if ans (p.getD 0 0) (p.getD (n - 1) 0)=true then Tn (n,p) else TM n N (Ti p 0 n))=(m,p')/\_
   rw [hk]
   by_cases h:κ (p.getD 0 0)<κ (p.getD (n - 1) 0)
   ·rw [if_pos (by simpa using h)]
    exact ⟨n,p,rfl,hs,a1,by omega,up⟩
   ·rw [if_neg (by simpa using h)]
    have h':¬ gK κ p 0<gK κ p (n - 1):=h
    have all:∀ k,k<n->gK κ p k=gK κ p 0:=fun k hkn=>by
     have u1:=up 0 k (RV _) hkn
     have u2:=up k (n - 1) (by omega) (by omega)
     omega
    refine BY hk a1 (by omega) (by rw [oA,hs]) (fun i j hi hj=>?_) ?_
    ·rw [kX (by omega),kX (by omega),if_pos ⟨by omega,by omega⟩,if_pos ⟨by omega,by omega⟩,all (0+n - 1 - j) (by omega),all (0+n - 1 - i) (by omega)]
     exact Qq _
    ·rw [kX (by omega),kX (by omega),if_neg (by omega),if_pos ⟨by omega,by omega⟩,all (0+n - 1 - (n - 1)) (by omega),<- all (n - 1) (by omega)]
     exact hlt
  ·rename_i hg
   refine BY hk a1 (by omega) hs (fun i j hi hj=>?_) hlt
   have:i=j:=by omega
   subst this
   exact Qq _
include hk in
theorem vD {p:Array Nat}{k:Nat}(S:gT κ p k):∀ (f l r:Nat),r - l<=f->l<=r->r<=k->(∀ j,j<l->gK κ p j<=gK κ p k)->(∀ j,r<=j->j<k->gK κ p k<gK κ p j)->
  aR ans (Sq p k f l r)<=k/\(∀ j,j<aR ans (Sq p k f l r)->gK κ p j<=gK κ p k)/\∀ j,aR ans (Sq p k f l r)<=j->j<k->gK κ p k<gK κ p j
 | 0,l,r,h1,h2,h3,lo,hi=>by
  have:l=r:=by omega
  subst this
  exact ⟨h3,lo,hi⟩
 | f+1,l,r,h1,h2,h3,lo,hi=>by
  by_cases h:l >= r
  ·have e:aR ans (Sq p k (f+1) l r)=l:=by
    show aR ans (if l >= r then Tn l else _)=_
    rw [if_pos h];rfl
   have:l=r:=by omega
   subst this
   rw [e]
   exact ⟨h3,lo,hi⟩
  ·by_cases c:κ (p.getD k 0)<κ (p.getD ((l+r) / 2) 0)
   ·have e:aR ans (Sq p k (f+1) l r)=aR ans (Sq p k f l ((l+r) / 2)):=by
     show aR ans (if l >= r then Tn l else VN (p.getD k 0) (p.getD ((l+r) / 2) 0) fun c=>if c=true then Sq p k f l ((l+r) / 2) else Sq p k f ((l+r) / 2+1) r)=_
     rw [if_neg h]
     show aR ans (if ans (p.getD k 0) (p.getD ((l+r) / 2) 0)=true then Sq p k f l ((l+r) / 2) else Sq p k f ((l+r) / 2+1) r)=_
     rw [hk,if_pos (by simpa using c)]
    rw [e]
    refine vD S f l ((l+r) / 2) (by omega) (by omega) (by omega) lo fun j hj hjk=>?_
    have:=S ((l+r) / 2) j hj hjk
    have c':gK κ p k<gK κ p ((l+r) / 2):=c
    omega
   ·have e:aR ans (Sq p k (f+1) l r)=aR ans (Sq p k f ((l+r) / 2+1) r):=by
     show aR ans (if l >= r then Tn l else VN (p.getD k 0) (p.getD ((l+r) / 2) 0) fun c=>if c=true then Sq p k f l ((l+r) / 2) else Sq p k f ((l+r) / 2+1) r)=_
     rw [if_neg h]
     show aR ans (if ans (p.getD k 0) (p.getD ((l+r) / 2) 0)=true then Sq p k f l ((l+r) / 2) else Sq p k f ((l+r) / 2+1) r)=_
     rw [hk,if_neg (by simpa using c)]
    rw [e]
    refine vD S f ((l+r) / 2+1) r (by omega) (by omega) h3 (fun j hj=>?_) hi
    have c':¬ gK κ p k<gK κ p ((l+r) / 2):=c
    have:=S j ((l+r) / 2) (by omega) (by omega)
    omega
theorem Ln {p:Array Nat}{k l:Nat}(hs:k<p.size)(hl:l<=k)(S:gT κ p k)(lo:∀ j,j<l->gK κ p j<=gK κ p k)(hi:∀ j,l<=j->j<k->gK κ p k<gK κ p j):gT κ (bubble p k (k - l)) (k+1):=by
 intro i j hij hj
 rw [BV hs (by omega),BV hs (by omega)]
 have e:k - (k - l)=l:=by omega
 rw [e]
 repeat' split
 all_goals first
  | exact Qq _
  | (exfalso;omega)
  | (exact Uu (hi _ (by omega) (by omega)))
  | (exact lo _ (by omega))
  | (exact S _ _ (by omega) (by omega))
include hk in
theorem BZ {N:Nat}:∀ (f:Nat)(p:Array Nat)(k:Nat),p.size=N->k+f=N->gT κ p k->gT κ (aR ans (WN f p k)) N
 | 0,p,k,hs,h,S=>by
  have:k=N:=by omega
  subst this
  exact S
 | f+1,p,k,hs,h,S=>by
  have e:aR ans (WN (f+1) p k)=aR ans (WN f (bubble p k (k - aR ans (Sq p k k 0 k))) (k+1)):=by
   show aR ans ((Sq p k k 0 k).bind fun l=>WN f (bubble p k (k - l)) (k+1))=_
   rw [mO]
  rw [e]
  obtain ⟨a,b,c⟩:=vD hk S k 0 k (by omega) (by omega) (Qq _) (fun j hj=>absurd hj (by omega)) (fun j h1 h2=>absurd h2 (by omega))
  exact BZ f _ (k+1) (by rw [bubble_size,hs]) (by omega) (Ln (by omega) a S b c)
include hk in
theorem Lo {N:Nat}(h1:1<=N):gT κ (aR ans (WM N)) N:=by
 obtain ⟨m,p',e,hs,hm1,hm,S⟩:=Lm hk (p:=(RA N).toArray) h1 (by simp)
 have e2:aR ans (WM N)=aR ans (if m<N then WN (N - max m 1) p' (max m 1) else Tn p'):=by
  unfold WM
  rw [mO,e]
 rw [e2]
 split
 ·have:max m 1=m:=by omega
  rw [this]
  exact BZ hk (N - m) p' m hs (by omega) S
 ·have:m=N:=by omega
  subst this
  exact S
end
section
variable {α:Type}{lt:α->α->Bool}(irr:∀ a,lt a a=false)(tr:∀ a b c,lt a b=true->lt b c=true->lt a c=true)(nt:∀ a b c,lt a b=true->lt a c=true\/lt c b=true)
theorem vE {p q:α->Bool}:∀ {l:List α},(∀ a∈l,p a=true->q a=true)->l.countP p<=l.countP q
 | [],_=>Qq _
 | a::l,h=>by
  have ih:=vE (l:=l) fun b hb=>h b (QH _ hb)
  rw [T1,T1]
  have:=h a (QN ..)
  cases hp:p a<;>cases hq:q a<;>simp_all<;>omega
theorem B0 {p q:α->Bool}:∀ {l:List α}{b:α},(∀ a∈l,p a=true->q a=true)->b∈l->p b=false->q b=true->l.countP p<l.countP q
 | a::l,b,h,hb,h1,h2=>by
  rw [T1,T1]
  have hle:=vE (l:=l) fun c hc=>h c (QH _ hc)
  rcases Q9.mp hb with rfl|hb
  ·simp only [h1,h2,Qp,if_false,if_true];omega
  ·have ih:=B0 (l:=l) (fun c hc=>h c (QH _ hc)) hb h1 h2
   have:=h a (QN ..)
   cases hp:p a<;>cases hq:q a<;>simp_all<;>omega
include irr tr nt in
theorem Lp {l:List α}{a b:α}(ha:a∈l):lt a b=decide (l.countP (fun c=>lt c a)<l.countP (fun c=>lt c b)):=by
 cases h:lt a b with
 | true=>
  have:=B0 (p:=fun c=>lt c a) (q:=fun c=>lt c b) (l:=l) (fun c _ hc=>tr _ _ _ hc h) ha (irr a) h
  simpa using this
 | false=>
  have:=vE (p:=fun c=>lt c b) (q:=fun c=>lt c a) (l:=l) fun c _ hc=>by
   rcases nt c b a hc with z|z
   ·exact z
   ·rw [h] at z;cases z
  simpa using this
include irr tr nt in
theorem B1 (d:α)(xs:List α){n:Nat}(h0:1<=n):(bT (fun i j=>lt (xs.getD i d) (xs.getD j d)) n).Pairwise fun i j=>lt (xs.getD j d) (xs.getD i d)=false:=by
 have hk:∀ i j,lt (xs.getD i d) (xs.getD j d)=decide ((d::xs).countP (fun c=>lt c (xs.getD i d))<(d::xs).countP (fun c=>lt c (xs.getD j d))):=fun i j=>by
  refine Lp irr tr nt ?_
  by_cases hi:i<xs.length
  ·have:xs.getD i d=xs[i]:=by simp [RC,hi]
   rw [this]
   exact QH _ (S5 hi)
  ·have:xs.getD i d=d:=by simp [RC,RP (TB.mp hi)]
   rw [this]
   exact QN ..
 have S:=Lo (κ:=fun i=>(d::xs).countP fun c=>lt c (xs.getD i d)) hk h0 (N:=n)
 have hp:=Br (fun i j=>lt (xs.getD i d) (xs.getD j d)) (n:=n) h0
 have hl:(bT (fun i j=>lt (xs.getD i d) (xs.getD j d)) n).length=n:=by
  have:=hp.length_eq
  simpa using this
 rw [Q5]
 intro i j hi hj hij
 rw [hk]
 have s:=S i j (by omega) (by omega)
 have e:∀ (a:Array Nat)(k:Nat)(hk:k<a.toList.length),a.getD k 0=a.toList[k]:=fun a k hk=>by
  have hk':k<a.size:=by simpa using hk
  simp [Tp,hk']
 unfold gK at s
 rw [e _ i hi,e _ j hj] at s
 simp only [decide_eq_false_iff_not,TB]
 exact s
end
end L3
namespace L3
open PySem L2 PySem.W PyProof.Rows
theorem B2:Ord1 HT.lexLt:=⟨kU,fun _ _ _=>kW,fun a b h1 h2=>Classical.byContradiction fun hn=>by
 have:=BU hn
 rw [h1,h2] at this
 cases this⟩
section
variable {X:Cx}{a0V:List (Addr×SD)}{σ:L2.St}{H:Hp}{s:Qj}
end
end L3
namespace L3
open PySem L2
section
variable {X:Cx}{a b c:Qr}{ma mb mc:ME}{pos:SE}
noncomputable def gU (f g:D->D->Hm->Option (D×Hm))(a b c:ME):ME:=fun ρ μ=>(a ρ μ).bind fun p=>(b ρ p.2).bind fun q=>(f p.1 q.1 q.2).bind fun r=>match r.1 with
 | .bl true=>(c ρ r.2).bind fun t=>g q.1 t.1 t.2
 | .bl false=>some (.bl false,r.2)
 | _=>none
theorem B3 {f g:D->D->Hm->Option (D×Hm)}{r r':R2}{K:Qf}(hf:cG K f r)(hg:cG K g r'):∀ σ H Q,tM K (gU f g ma mb mc) σ H Q->tD r r' (tM K ma) (tM K mb) (tM K mc) σ H Q:=by
 rintro σ H Q ⟨π,ρ,μ,d,μ',R,E,hm,k⟩
 obtain ⟨⟨x,μ1⟩,h1,hm⟩:=Qe.mp hm
 obtain ⟨⟨y,μ2⟩,h2,hm⟩:=Qe.mp hm
 obtain ⟨⟨z,μ3⟩,h3,hm⟩:=Qe.mp hm
 refine ⟨π,ρ,μ,x,μ1,R,E,h1,fun π1 v1 H1 e1 R1 i1=>⟨π1,ρ,μ1,y,μ2,R1,E.mono e1,h2,fun π2 v2 H2 e2 R2 i2=>?_⟩⟩
 refine hf π2 H2 μ2 x y z μ3 v1 v2 _ R2 (i1.mono e2) i2 h3 fun π3 v3 H3 e3 R3 i3=>?_
 cases z with
 | bl bb=>
  cases i3
  refine ⟨bb,rfl,?_⟩
  cases bb with
  | true=>
   refine kC ?_
   obtain ⟨⟨t,μ4⟩,h4,hm⟩:=Qe.mp hm
   exact ⟨π3,ρ,μ3,t,μ4,R3,((E.mono e1).mono e2).mono e3,h4,fun π4 v4 H4 e4 R4 i4=>hg π4 H4 μ4 y t d μ' v2 v4 Q R4 ((i2.mono e3).mono e4) i4 hm (k.after (((e1.trans e2).trans e3).trans e4))⟩
  | false=>
   refine kB ?_
   cases hm
   exact k π3 _ H3 ((e1.trans e2).trans e3) R3 (.bl false)
 | _=>cases hm
noncomputable def i6:UT->Option (Int->Int->Bool)
 | .Lt=>some fun i j=>decide (i<j)
 | .LtE=>some fun i j=>decide (i<=j)
 | .Gt=>some fun i j=>decide (j<i)
 | .GtE=>some fun i j=>decide (j<=i)
 | _=>none
theorem mP {op:UT}{p:Int->Int->Bool}(h:i6 op=some p):OpR X (RT op) (eF fun i j=>.bl (p i j))/\(op=.Lt\/op=.LtE\/op=.Gt\/op=.GtE):=by
 cases op<;>first|(cases h;first|exact ⟨sX,by simp⟩|exact ⟨sY,by simp⟩|exact ⟨sZ,by simp⟩|exact ⟨tB,by simp⟩)|cases h
theorem B4 {op op':UT}(h':op'=.Lt\/op'=.LtE\/op'=.Gt\/op'=.GtE):ZW [op,op'] [b,c]=false:=by
 show TV op' c=false
 rcases h' with rfl|rfl|rfl|rfl<;>exact eG _
theorem Lq {op op':UT}{p q:Int->Int->Bool}(h:i6 op=some p)(h':i6 op'=some q)(ha:QE X a ma)(hb:QE X b mb)(hc:QE X c mc):QE X (.Compare a [op,op'] [b,c] pos) (gU (d7 p) (d7 q) ma mb mc):=
 ⟨b9 (Gh (mP h).1 (mP h').1 ha.h hb.h hc.h (B4 (mP (X:=X) h').2)) (B3 fF fF)⟩
theorem Lr {op op':UT}{p q:Int->Int->Bool}(h:i6 op=some p)(h':i6 op'=some q)(ha:QE X a ma)(hb:QE X b mb)(hc:QE X c mc):QT X (.Compare a [op,op'] [b,c] pos) (aU (gU (d7 p) (d7 q) ma mb mc)):=
 ⟨pQ (Gi (mP h).1 (mP h').1 ha.h hb.h hc.h (B4 (mP (X:=X) h').2)) fun σ H Q h=>B3 fF fF σ H _ (Ay σ H Q h)⟩
end
section
variable {X:Cx}
end
section
variable {X:Cx}{e:Qr}{te:TE}{lo hi:Option Qr}{st:Qr}{tl th tt:TO}{pos p2:SE}
end
section
variable {X:Cx}{a0V:List (Addr×SD)}{σ:St}{H:Hp}{s:Qj}{h':RG}
end
structure QJT (X:Cx)(e:Qr)(m:MI):Prop where
 h:∀ es k p,PI X (.Tuple es k p) e (iU X.K m)
theorem QJ.t {X:Cx}{e:Qr}{m:MI}(h:QJ X e m):QJT X e m:=⟨fun es k p=>h.h _⟩
section
variable {X:Cx}{pos:SE}
theorem vF {tg iter:Qr}{mi:MI}{g:MG}{mb:MS}{body:List Stmt}(hi:PI X tg iter (iU X.K mi))(hg:QG X tg g)(hb:QB X body mb)(hp:Z0 (QX X.prog X.w) X.A X.env X.xe)(hc:X.calm=true)(hs:eB iter=true) :
  QS X (.For tg iter body [] pos) (c4 mi g mb):=⟨fQ (F4 hp hc hi hg.h hb.h (by intro z;cases iter<;>first|rfl|cases hs)) (by
 rintro E σ H ⟨π,ρ,μ,fl,ρ',μ',R,EN,hm,k⟩
 obtain ⟨⟨src,n,μ1⟩,h1,hm⟩:=Qe.mp hm
 refine ⟨π,ρ,μ,src,n,μ1,R,EN,h1,fun π1 H1 J e1 R1 W=>?_⟩
 have kk:lJ X.K E π1 μ1.length H1 fl ρ' μ':=by
  cases fl with
  | nx=>exact fun π3 σ3 H3 e3 R3 E3=>k π3 σ3 H3 (e1.trans e3) R3 E3
  | bk=>exact fun π3 σ3 H3 e3 R3 E3=>k π3 σ3 H3 (e1.trans e3) R3 E3
  | ct=>exact fun π3 σ3 H3 e3 R3 E3=>k π3 σ3 H3 (e1.trans e3) R3 E3
  | rt d=>exact KC.after k e1
 exact IW W kk .refl R1 (EN.mono e1) hm)⟩
theorem B5 {st:Stmt}{m m1 m2:MS}(h1:QS X st m1)(h2:QS X st m2)(h:∀ ρ μ r,m ρ μ=some r->m1 ρ μ=some r\/m2 ρ μ=some r):QS X st m:=⟨fun a0V s σ H D I q=>by
 obtain ⟨π,ρ,μ,fl,ρ',μ',R,E,hm,k⟩:=q
 rcases h ρ μ _ hm with z|z
 ·exact h1.h a0V s σ H D I ⟨π,ρ,μ,fl,ρ',μ',R,E,z,k⟩
 ·exact h2.h a0V s σ H D I ⟨π,ρ,μ,fl,ρ',μ',R,E,z,k⟩⟩
noncomputable def i7 (put:D->D->D->Hm->Option Hm)(o i v:ME):MS:=fun ρ μ=>(v ρ μ).bind fun p=>(o ρ p.2).bind fun q=>(i ρ q.2).bind fun r=>(put q.1 r.1 p.1 r.2).map fun μ'=>(.nx,ρ,μ')
noncomputable def oB:D->D->D->Hm->Option Hm
 | .loc a,.int i,d,μ=>match μ[a]? with
  | some (.lst xs)=>(iI xs.length i).map fun j=>μ.set a (.lst (xs.set j d))
  | _=>none
 | _,_,_,_=>none
noncomputable def oC:D->D->D->Hm->Option Hm
 | .loc a,k,d,μ=>match μ[a]? with
  | some (.dK kvs)=>(iS k).bind fun kk=>if kvs.length<Qs then some (μ.set a (.dK (nX kvs kk d))) else none
  | _=>none
 | _,_,_,_=>none
noncomputable def kY:D->D->D->Hm->Option Hm
 | .loc a,y,d,μ=>match μ[a]? with
  | some (.dT kvs)=>(cL y).bind fun k=>if kvs.length<Qs then some (μ.set a (.dT (dG kvs k d))) else none
  | _=>none
 | _,_,_,_=>none
noncomputable def mQ:D->D->D->Hm->Option Hm:=fun o i d μ=>match o with
 | .loc a=>match μ[a]? with
  | some (.dK _)=>oC o i d μ
  | some (.dT _)=>kY o i d μ
  | _=>oB o i d μ
 | _=>none
noncomputable def i8:=i7 mQ
theorem B6 {K:Qf}{π:Nat->Addr}{n:Nat}{H:Hp}:∀ {vs:List V}{ds:List D}(j:Nat){v:V}{d:D},IsDs K π n H vs ds->IsD K π n H v d->IsDs K π n H (vs.set j v) (ds.set j d)
 | _,_,j,_,_,.nil,h=>by simp;exact .nil
 | _,_,0,_,_,.cons _ t,h=>.cons h t
 | _,_,j+1,_,_,.cons h0 t,h=>.cons h0 (B6 j t h)
noncomputable def Ls (td ty tv:TE):TS:=fun D σ H=>tv σ H fun v H1=>td σ H1 fun x H2=>ty σ H2 fun y H3=>Ac x y v H3 fun H4=>D.nx σ H4
open PyProof.Rows in
theorem Lu {o i value:Qr}{pos':SE}{td ty tv:TE}(ho:PE X o td)(hi:PE X i ty)(hv:PE X value tv)(hs:Uv value (some (.Subscript o i pos')) pos.line X.env=pure false):PS X (.Assign [.Subscript o i pos'] value pos) (Ls td ty tv):=by
 intro a0V s σ H D I h
 refine VQ (aN (hv a0V s σ H _ I h) fun r s1 ⟨v,H1,I1,rv,q1⟩=>aN (ho a0V s1 σ H1 _ I1 q1) fun u s2 ⟨x,H2,I2,rx,q2⟩=>aN (hi a0V s2 σ H2 _ I2 q2) fun iv s3 ⟨y,H3,I3,ry,q3⟩=>?_) hs
 exact aN (Hc a0V s3 σ H3 x y v u iv r _ I3 rx ry rv q3) fun _ s4 ⟨H4,I4,q4⟩=>⟨σ,H4,I4,q4⟩
theorem Lv {o i e:Qr}{mo mi me:ME}{tpos:SE}(ho:QE X o mo)(hi:QE X i mi)(he:QE X e me)(h:gM e=true):QS X (.Assign [.Subscript o i tpos] e pos) (i7 oB mo mi me):=
 ⟨fQ (Lu ho.h hi.h he.h (n3 h)) (by
 rintro E σ H ⟨π,ρ,μ,fl,ρ',μ',R,EN,hm,k⟩
 obtain ⟨⟨x,μ1⟩,h1,hm⟩:=Qe.mp hm
 obtain ⟨⟨y,μ2⟩,h2,hm⟩:=Qe.mp hm
 obtain ⟨⟨z,μ3⟩,h3,hm⟩:=Qe.mp hm
 obtain ⟨μ4,h4,hm⟩:=Qk.mp hm
 cases hm
 refine ⟨π,ρ,μ,x,μ1,R,EN,h1,fun π1 v1 H1 e1 R1 i1=>⟨π1,ρ,μ1,y,μ2,R1,EN.mono e1,h2,fun π2 v2 H2 e2 R2 i2=>⟨π2,ρ,μ2,z,μ3,R2,(EN.mono e1).mono e2,h3,fun π3 v3 H3 e3 R3 i3=>?_⟩⟩⟩
 dsimp only at h4
 cases y with
 | loc a=>
  cases z with
  | int i=>
   simp only [oB] at h4
   split at h4
   ·rename_i xs hx
    obtain ⟨j,h5,h6⟩:=Qk.mp h4
    subst h6
    obtain ⟨vs,h7,h8⟩:=R3.lst _ xs hx
    have i2':=i2.mono e3
    cases i2'
    cases i3
    have hlt:=(Qi.mp hx).1
    have iv:=(i1.mono e2).mono e3
    refine ⟨_,vs,i,j,rfl,rfl,h7,by rw [h8.length];exact h5,?_⟩
    obtain ⟨e4,R4⟩:=R3.put (c:=.lst (xs.set j x)) (o:=.lst (vs.set j v1)) hlt h7 (.inl ⟨vs,rfl⟩) (B6 j h8 iv)
    exact k π3 σ _ (((e1.trans e2).trans e3).trans e4) R4 ((((EN.mono e1).mono e2).mono e3).mono e4)
   ·cases h4
  | _=>simp [oB] at h4
 | _=>simp [oB] at h4)⟩
theorem Lx {kk:Nat}(hr:Room kk X.A){o i e:Qr}{mo mi me:ME}{tpos:SE}(ho:QE X o mo)(hi:QE X i mi)(he:QE X e me)(h:gM e=true):QS X (.Assign [.Subscript o i tpos] e pos) (i7 oC mo mi me):=
 ⟨fQ (GO (Am hr) ho.h hi.h he.h (n3 h)) (by
 rintro E σ H ⟨π,ρ,μ,fl,ρ',μ',R,EN,hm,k⟩
 obtain ⟨⟨x,μ1⟩,h1,hm⟩:=Qe.mp hm
 obtain ⟨⟨y,μ2⟩,h2,hm⟩:=Qe.mp hm
 obtain ⟨⟨z,μ3⟩,h3,hm⟩:=Qe.mp hm
 obtain ⟨μ4,h4,hm⟩:=Qk.mp hm
 cases hm
 refine ⟨π,ρ,μ,x,μ1,R,EN,h1,fun π1 v1 H1 e1 R1 i1=>⟨π1,ρ,μ1,y,μ2,R1,EN.mono e1,h2,fun π2 v2 H2 e2 R2 i2=>⟨π2,ρ,μ2,z,μ3,R2,(EN.mono e1).mono e2,h3,fun π3 v3 H3 e3 R3 i3=>?_⟩⟩⟩
 dsimp only at h4
 cases y with
 | loc a=>
  simp only [oC] at h4
  split at h4
  ·rename_i kvs hx
   obtain ⟨kk,h5,h6⟩:=Qe.mp h4
   split at h6
   ·rename_i hl
    cases h6
    obtain ⟨vs,h7,h8,h9⟩:=R3.dK _ kvs hx
    have i2':=i2.mono e3
    cases i2'
    have hk:=uL i3 h5
    subst hk
    have hlt:=(Qi.mp hx).1
    have iv:=(i1.mono e2).mono e3
    have hks:=IsKs.of h8 h9
    refine ⟨_,_,rfl,DPut.k h7 (by rw [hks.length];exact hl),?_⟩
    obtain ⟨e4,R4⟩:=R3.put (c:=.dK (nX kvs kk x)) (o:=.dK (cZ vs kk v1)) hlt h7 (.inr (.inl ⟨vs,rfl⟩)) (hks.put iv kk).maps
    exact k π3 σ _ (((e1.trans e2).trans e3).trans e4) R4 ((((EN.mono e1).mono e2).mono e3).mono e4)
   ·cases h6
  ·cases h4
 | _=>simp [oC] at h4)⟩
theorem B7 {f f1 f2:D->D->D->Hm->Option Hm}{mo mi me:ME}(h:∀ x y z μ r,f x y z μ=some r->f1 x y z μ=some r\/f2 x y z μ=some r):∀ ρ μ r,i7 f mo mi me ρ μ=some r->i7 f1 mo mi me ρ μ=some r\/i7 f2 mo mi me ρ μ=some r:=by
 intro ρ μ r hm
 obtain ⟨p,h1,hm⟩:=Qe.mp hm
 obtain ⟨q,h2,hm⟩:=Qe.mp hm
 obtain ⟨t,h3,hm⟩:=Qe.mp hm
 obtain ⟨μ',h4,hm⟩:=Qk.mp hm
 rcases h _ _ _ _ _ h4 with z|z
 ·exact .inl (Qe.mpr ⟨p,h1,Qe.mpr ⟨q,h2,Qe.mpr ⟨t,h3,Qk.mpr ⟨μ',z,hm⟩⟩⟩⟩)
 ·exact .inr (Qe.mpr ⟨p,h1,Qe.mpr ⟨q,h2,Qe.mpr ⟨t,h3,Qk.mpr ⟨μ',z,hm⟩⟩⟩⟩)
theorem B8 {st:Stmt}{i:Nat}:QS X st (bF i bL):=⟨fun a0V s σ H D I q=>by
 obtain ⟨π,ρ,μ,fl,ρ',μ',R,E,hm,k⟩:=q
 cases hm⟩
end
end L3
namespace L3
open PySem L2
noncomputable def B9 {α:Type}(xs:List α)(k:Nat)(d:α):List α:=xs.take k++d::xs.drop k
theorem Vals.ins {xs:List V}{us:List Qg}(h:Vals xs us)(k:Nat){v:V}{u:Qg}(r:RelV v u):Vals (B9 xs k v) (B9 us k u):=(h.take k).append (.cons r (h.drop k))
section
variable {X:Cx}
end
section
variable {X:Cx}
end
noncomputable def mR:List D->Option (List Str)
 | []=>some []
 | .str x::r=>(mR r).map (x::·)
 | _=>none
noncomputable def eS (f:D->List D->Hm->Option (D×Hm))(mo:ME)(ms:MA):ME:=fun ρ μ=>(mo ρ μ).bind fun p=>match p.1 with
 | .str x=>(ms ρ p.2).bind fun q=>f (.str x) q.1 q.2
 | _=>none
section
variable {X:Cx}{e o:Qr}{mo:ME}{apos cpos:SE}{es:List Qr}{ms:MA}{n:Nat}
theorem Ly {K:Qf}{f:D->List D->Hm->Option (D×Hm)}{r:V->List V->Hp->VK->Prop}(hf:fI K f r):∀ σ H Q,tM K (eS f mo ms) σ H Q->tS K "str" r (tM K mo) (dM K ms) σ H Q:=by
 rintro σ H Q ⟨π,ρ,μ,d,μ',R,E,hm,k⟩
 obtain ⟨⟨x,μ1⟩,h1,hm⟩:=Qe.mp hm
 cases x with
 | str z=>
  obtain ⟨⟨xs,μ2⟩,h2,hm⟩:=Qe.mp hm
  refine ⟨π,ρ,μ,_,μ1,R,E,h1,fun π1 v1 H1 e1 R1 i1=>?_⟩
  cases i1
  refine ⟨rfl,π1,ρ,μ1,xs,μ2,R1,E.mono e1,h2,fun π2 vs H2 e2 R2 i2=>?_⟩
  exact hf π2 H2 μ2 _ xs d μ' _ vs Q R2 (.str _) i2 hm (k.after (e1.trans e2))
 | _=>cases hm
theorem Ca {f:D->List D->Hm->Option (D×Hm)}{r:V->List V->Hp->VK->Prop}{name:Str}{id:String}(slot:Slot "str" name id) (hty:Zs (.builtin id)=pure (.type "method_descriptor")) (hm:f9 X id r)(hf:fI X.K f r)
  (ho:QE X o mo)(ha:QA X (e::es) ms n)(hs:kP o=true)(hl:(apos.endLine == cpos.line)=true)(hn:(e::es).length<30):QE X (.Call (.Attribute o name apos) (e::es) [] cpos) (eS f mo ms):=by
 have hst:=ha.s
 have hst':=hst
 rw [RK,Qy] at hst'
 exact ⟨b9 (Af PySem.F.plainAttrs_str slot hty hm ho.h ha.h (kQ hs) (uV hst hn) hl (fG hst'.1) (jF hst'.2)) (Ly hf)⟩
end
noncomputable def fK:D->List D->Hm->Option (D×Hm)
 | .str sep,[y],μ=>(kR μ y).bind fun xs=>(mR xs).bind fun ss=>if Uw (ss.toArray.foldl (·+·.length+sep.length) 0)=false/\(Rb sep ss).length<=Qs then some (.str (Rb sep ss),μ) else none
 | _,_,_=>none
noncomputable def Cb (K:Qf):V->List V->Hp->VK->Prop:=fun x vs H Q=>∃ (sep:Str)(p:Addr)(ss:List Str),x=.str sep/\vs=[.ref p]/\SqL K H p (ss.map V.str)/\Uw (ss.toArray.foldl (·+·.length+sep.length) 0)=false/\(Rb sep ss).length<=Qs/\Q (.str (Rb sep ss)) H
theorem vG:∀ {ds:List D}{k:List Str},mR ds=some k->ds=k.map D.str
 | [],k,h=>by cases h;rfl
 | d::ds,k,h=>by
  cases d with
  | str i=>
   obtain ⟨k',h1,h2⟩:=Qk.mp h
   subst h2
   rw [vG h1];rfl
  | _=>cases h
theorem strs_of' {K:Qf}{π:Nat->Addr}{n:Nat}{H:Hp}:∀ {vs:List V}{k:List Str},IsDs K π n H vs (k.map D.str)->vs=k.map V.str
 | _,[],h=>by cases h;rfl
 | _,i::k,h=>by
  cases h with
  | cons h t=>cases h;rw [strs_of' t];rfl
theorem Lz {K:Qf}:fI K fK (Cb K):=by
 intro π H μ x ds d μ' v vs Q R ix is hm k
 unfold fK at hm
 split at hm
 ·obtain ⟨xs,h1,hm⟩:=Qe.mp hm
  obtain ⟨ss,h2,hm⟩:=Qe.mp hm
  split at hm
  ·rename_i hb
   cases hm
   cases ix
   cases is with
   | cons i1 t1=>
    cases t1
    obtain ⟨p,ws,rfl,q,hd⟩:=qQ R i1 h1
    rw [vG h2] at hd
    have:=strs_of' hd
    subst this
    exact ⟨_,p,ss,rfl,rfl,q,hb.1,hb.2,k π _ H .refl R (.str _)⟩
  ·cases hm
 ·cases hm
theorem Cd:∀ {ss:List Str}{its:List Qg},Vals (ss.map V.str) its->∃ l:List (Str×YB),its=Yh l/\l.map (·.1)=ss
 | [],_,h=>by cases h;exact ⟨[],rfl,rfl⟩
 | x::ss,_,h=>by
  cases h with
  | cons h t=>
   obtain ⟨tk,rfl⟩:=h
   obtain ⟨l,rfl,e⟩:=Cd t
   exact ⟨(x,tk)::l,rfl,by rw [Qz,e]⟩
theorem LA {X:Cx}:f9 X "str.join" (Cb X.K):=by
 intro a0V s σ H x vs v us Q I rx rv h
 obtain ⟨sep,p,ss,rfl,rfl,hq,h1,h2,q⟩:=h
 obtain ⟨t,rfl⟩:=rx
 obtain ⟨u,rfl,ru⟩:=rv.one
 cases ru
 obtain ⟨its,r,pl,hz⟩:=I.list hq
 obtain ⟨l,rfl,rfl⟩:=Cd r
 refine Vk F.slot_str_join (Vi _ _ _) F.entry_str_join (F.args_str_join_2 _ _) (meets_str_join_list sep t p l h1) ⟨pl.isList,?_⟩
 match l,h2,q with
 | [],h2,q=>exact ⟨h2,.str _,H,I.tok _,⟨_,rfl⟩,q⟩
 | [a],h2,q=>exact ⟨.str _,H,I,⟨_,rfl⟩,q⟩
 | a::b::r,h2,q=>exact ⟨h2,.str _,H,I.tok _,⟨_,rfl⟩,q⟩
noncomputable def gW (is:List Int):List Int:=is.mergeSort fun a b=>decide (a<=b)
theorem LB {is ns:List Int}(hp:ns.Perm is)(hs:ns.Pairwise (·<=·)):ns=gW is:=by
 have h1:(gW is).Perm is:=X9 _ _
 have h2:(gW is).Pairwise (·<=·):=by
  have:=Xq (le:=fun a b:Int=>decide (a<=b)) (fun a b c h1 h2=>by simp only [decide_eq_true_eq] at *;omega) (fun a b=>by simp only [T9,decide_eq_true_eq];omega) is
  exact this.imp fun h=>by simpa using h
 exact TZ (le:=fun a b:Int=>a<=b) (fun a b _ _ h1 h2=>by omega) hs h2 (hp.trans h1.symm)
noncomputable def vH:MF:=fun ds μ=>match ds with
 | [x]=>(kR μ x).bind fun xs=>(qI xs).bind fun is=>if is.length<64 then some (.loc μ.length,μ++[.lst ((gW is).map D.int)]) else none
 | _=>none
noncomputable def vJ (K:Qf):List V->Hp->VK->Prop:=fun xs H Q=>∃ (p:Addr)(is:List Int),xs=[.ref p]/\SqL K H p (is.map V.int)/\is.length<64/\∀ l,H l=none->Q (.ref l) (aH H l (.lst ((gW is).map V.int)))
theorem LC {K:Qf}:dO K vH (vJ K):=by
 intro π H μ xs d μ' vs Q R i hm k
 unfold vH at hm
 split at hm
 ·obtain ⟨ys,h1,hm⟩:=Qe.mp hm
  obtain ⟨is,h2,hm⟩:=Qe.mp hm
  split at hm
  ·rename_i hb
   cases hm
   cases i with
   | cons i t=>
    cases t
    obtain ⟨p,ws,rfl,q,hd⟩:=qQ R i h1
    rw [uZ h2] at hd
    have:=ints_of' hd
    subst this
    refine ⟨p,is,rfl,q,hb,fun l hl=>?_⟩
    obtain ⟨e2,R2,_⟩:=R.alloc (c:=.lst ((gW is).map D.int)) (o:=.lst ((gW is).map V.int)) hl (qR _)
    exact k _ _ _ e2 R2 iL
  ·cases hm
 ·cases hm
theorem call_sortI {X:Cx}:CallR X (.builtin "sorted") (vJ X.K):=by
 intro a0V s σ H xs us Q I r h
 obtain ⟨p,is,rfl,hq,h64,k⟩:=h
 obtain ⟨u,rfl,ru⟩:=fP r
 cases ru
 obtain ⟨its,rv,pl,hz⟩:=I.list hq
 have hlen:=rv.length
 rw [Qm] at hlen
 refine a0i pl.isList (zZ rv) (by omega) fun out ns' a1 a2 a3=>?_
 obtain ⟨e,he⟩:=UO s.heap its out
 have hn:H (s.heap.objs.size+1)=none:=I.hok.fresh (UP _)
 have e1:ns'=gW is:=LB a2 a3
 subst e1
 refine ⟨.ref (s.heap.objs.size+1),_,I.laid (t':=s.toks) (a:=s.heap.objs.size+1) (o:=.lst ((gW is).map V.int)) (fun b ob z=>Uz z) (UP _) ?_,rfl,k _ hn⟩
 have hl2:(gW is).length<=Qs:=by
  have:=a2.length_eq
  have h5:=Ro
  omega
 refine ⟨by rw [Qm];exact hl2,out.toList,e,tT a1,?_⟩
 rw [he]
noncomputable def vK:MF:=fun ds μ=>match ds with
 | [x]=>(kR μ x).bind fun xs=>(mR xs).bind fun ss=>if 2<=ss.length/\ss.Nodup then some (.loc μ.length,μ++[.lst ((gR ss).map D.str)]) else none
 | _=>none
theorem Ce {K:Qf}{π:Nat->Addr}{n:Nat}{H:Hp}:∀ (k:List Str),IsDs K π n H (k.map V.str) (k.map D.str)
 | []=>.nil
 | x::k=>.cons (.str x) (Ce k)
theorem LD {K:Qf}:dO K vK (vB K):=by
 intro π H μ xs d μ' vs Q R i hm k
 unfold vK at hm
 split at hm
 ·obtain ⟨ys,h1,hm⟩:=Qe.mp hm
  obtain ⟨ss,h2,hm⟩:=Qe.mp hm
  split at hm
  ·rename_i hb
   cases hm
   cases i with
   | cons i t=>
    cases t
    obtain ⟨p,ws,rfl,q,hd⟩:=qQ R i h1
    rw [vG h2] at hd
    have:=strs_of' hd
    subst this
    refine ⟨p,ss,rfl,q,hb.1,hb.2,fun l hl=>?_⟩
    obtain ⟨e2,R2,_⟩:=R.alloc (c:=.lst ((gR ss).map D.str)) (o:=.lst ((gR ss).map V.str)) hl (Ce _)
    exact k _ _ _ e2 R2 iL
  ·cases hm
 ·cases hm
noncomputable def vL:MF:=fun ds μ=>match vH ds μ with
 | some r=>some r
 | none=>vK ds μ
theorem LF {K:Qf}:dO K vL (fun xs H Q=>vJ K xs H Q\/vB K xs H Q):=by
 intro π H μ xs d μ' vs Q R i hm k
 unfold vL at hm
 split at hm
 ·rename_i r hr
  cases hm
  exact .inl (LC π H μ xs d μ' vs Q R i hr k)
 ·exact .inr (LD π H μ xs d μ' vs Q R i hm k)
end L3
namespace L3
open PySem L2
section
variable {prog:QR}{w:Rg}{A:Q0}{E:Qg->Qj->Prop}{s:Qj}{r:Addr}{Q:Bool->Qj->Prop}
end
section
variable {prog:QR}{w:Rg}{A:Q0}{E:Qg->Qj->Prop}{s:Qj}{p a:Addr}{its:Array Qg}
end
end L3
namespace L3
open PySem L2
end L3
namespace L3
open PySem L2
noncomputable abbrev bE:=List (List Int×Addr×V)
noncomputable def bG (ps:bE)(ws:List Qg):List (List Int×Addr×Qg):=Xs (fun p w=>(p.1,p.2.1,w)) ps ws
theorem qU {P:QR}{w:Rg}:∀ (ps:bE)(ws:List Qg),Xs Au ps ws=(bG ps ws).map (entryOfKey (Tq (UG P w)))
 | [],_=>by simp [bG]
 | p::ps,[]=>by simp [bG]
 | p::ps,u::ws=>by
  have ih:=qU (P:=P) (w:=w) ps ws
  unfold bG at ih ⊢
  rw [Ry,Ry,Qz,ih]
  rfl
theorem mS:∀ {ps:bE}{ws:List Qg},Vals (ps.map (·.2.2)) ws->(bG ps ws).map (·.1)=ps.map (·.1)
 | [],_,_=>by simp [bG]
 | p::ps,_,.cons r t=>by
  have ih:=mS (ps:=ps) t
  unfold bG at ih ⊢
  rw [Ry,Qz,Qz,ih]
theorem Cf:∀ {ps:bE}{ws:List Qg}{x:List Int×Addr×Qg},x∈bG ps ws->∃ p∈ps,p.1=x.1/\p.2.1=x.2.1
 | [],_,x,h=>by simp [bG] at h
 | p::ps,[],x,h=>by simp [bG] at h
 | p::ps,u::ws,x,h=>by
  unfold bG at h
  rw [Ry] at h
  rcases Q9.mp h with e|h
  ·subst e;exact ⟨p,QN ..,rfl,rfl⟩
  ·obtain ⟨q,hq,e⟩:=Cf (ps:=ps) (ws:=ws) h
   exact ⟨q,QH _ hq,e⟩
noncomputable def cN (ps:bE)(k:List Int):Option V:=(ps.find? fun p=>decide (p.1=k)).map (·.2.2)
noncomputable def dE (ps:bE)(k:List Int)(b:Addr)(v:V):bE:=if (cN ps k).isSome then ps.map (fun p=>if p.1=k then (p.1,p.2.1,v) else p) else ps++[(k,b,v)]
theorem kZ:∀ {ps:bE}{ws:List Qg},Vals (ps.map (·.2.2)) ws->∀ k,RelO (cN ps k) ((UR (bG ps ws) k).map (·.2))
 | [],_,.nil,k=>by simp [cN,bG,UR];exact SW
 | p::ps,_,.cons r t,k=>by
  have ih:=kZ (ps:=ps) t k
  unfold cN UR bG at ih ⊢
  rw [Ry,RI,RI]
  by_cases e:p.1=k
  ·simp only [e,decide_true]
   exact r
  ·simp only [e,decide_false]
   exact ih
theorem vO (ps:bE)(k:List Int)(b:Addr)(v:V):(dE ps k b v).length<=ps.length+1:=by
 unfold dE;split<;>simp
theorem Cg {k:List Int}{v:V}{u:Qg}(ru:RelV v u):∀ {ps:bE}{ws:List Qg},Vals (ps.map (·.2.2)) ws->
  ∃ ws',Vals ((ps.map fun p=>if p.1=k then (p.1,p.2.1,v) else p).map (·.2.2)) ws'/\(bG ps ws).map (a0K k u)=bG (ps.map fun p=>if p.1=k then (p.1,p.2.1,v) else p) ws'
 | [],_,.nil=>⟨[],.nil,by simp [bG]⟩
 | p::ps,_,.cons (b:=w) r t=>by
  obtain ⟨ws',h1,h2⟩:=Cg ru (ps:=ps) t
  by_cases e:p.1=k
  ·refine ⟨u::ws',?_,?_⟩
   ·rw [Qz,Qz,if_pos e]
    exact .cons ru h1
   ·unfold bG at h2 ⊢
    rw [Ry,Qz,h2,Qz,if_pos e,Ry]
    unfold a0K
    rw [if_pos e]
  ·refine ⟨w::ws',?_,?_⟩
   ·rw [Qz,Qz,if_neg e]
    exact .cons r h1
   ·unfold bG at h2 ⊢
    rw [Ry,Qz,h2,Qz,if_neg e,Ry]
    unfold a0K
    rw [if_neg e]
theorem Ci {k:List Int}{b:Addr}{v:V}{u:Qg}:∀ {ps:bE}{ws:List Qg},Vals (ps.map (·.2.2)) ws->bG ps ws++[(k,b,u)]=bG (ps++[(k,b,v)]) (ws++[u])
 | [],_,.nil=>by simp [bG]
 | p::ps,_,.cons r t=>by
  have ih:=Ci (k:=k) (b:=b) (v:=v) (u:=u) (ps:=ps) t
  unfold bG at ih ⊢
  rw [Ry,Rh,ih,Rh,Rh,Ry]
theorem Cj {ps:bE}{ws:List Qg}(r:Vals (ps.map (·.2.2)) ws)(k:List Int)(b:Addr){v:V}{u:Qg}(ru:RelV v u) :
  ∃ ws',Vals ((dE ps k b v).map (·.2.2)) ws'/\ZK (bG ps ws) k b u=bG (dE ps k b v) ws':=by
 have e:=(kZ r k).isSome_eq
 rw [Ud] at e
 unfold dE ZK
 rw [e]
 by_cases h:(UR (bG ps ws) k).isSome=true
 ·rw [if_pos h,if_pos h]
  exact Cg ru r
 ·rw [if_neg h,if_neg h]
  refine ⟨ws++[u],?_,Ci r⟩
  rw [Sj]
  exact Wn r ru
section
variable {X:Cx}{a0V:List (Addr×SD)}{σ:St}{H:Hp}{s:Qj}{a:Addr}{ps:bE}
noncomputable def cR (K:Qf)(H:Hp)(ps:bE):Prop:=∀ p∈ps,SqT K H p.2.1 (p.1.map V.int)
theorem gX (I:Inv X a0V σ H s)(e:Rd H a (aP a ps))(hk:cR X.K H ps):(a == Sg)=false/\ps.length<=Qs /\
  ∃ ws,Vals (ps.map (·.2.2)) ws/\s.heap.DictOfH (Tq (UG X.prog X.w)) a (bG ps ws):=by
 obtain ⟨⟨ws,r,hs,hl,o,es,ep,h1,h2,h3,h4,h5⟩,_⟩:=(show ObjOk X.prog X.w H s.heap a (aP a ps) from e.ok I.hok)
 refine ⟨hs,hl,ws,r,o,es,ep,h1,h2,h3,by rw [h4];exact qU ps ws,fun x hx=>?_,by rw [mS r];exact h5⟩
 obtain ⟨p,hp,e1,e2⟩:=Cf hx
 rw [<- e1,<- e2]
 exact gP I (hk p hp)
theorem vP {P:QR}{w:Rg}{H':Hp}{h':RG}{ws:List Qg}(hs:(a == Sg)=false)(hl:ps.length<=Qs)(r:Vals (ps.map (·.2.2)) ws)(d:h'.DictOfH (Tq (UG P w)) a (bG ps ws)):ObjOk P w H' h' a (aP a ps):=by
 obtain ⟨o,es,ep,h1,h2,h3,h4,_,h5⟩:=d
 refine ⟨⟨ws,r,hs,hl,o,es,ep,h1,h2,h3,by rw [h4,qU (P:=P) (w:=w)],by rw [<- mS r];exact h5⟩,⟨o,h1⟩,?_⟩
 rintro g1 g2 ⟨ws,r,hs,hl,o,es,ep,h1,h2,h3,h4,h5⟩ hh
 exact ⟨ws,r,hs,hl,o,es,ep,hh o h1,h2,h3,h4,h5⟩
theorem LG (I:Inv X a0V σ H s)(e:Rd H a (aP a ps))(hk:cR X.K H ps):s.TypeIs (.ref a) "dict":=by
 obtain ⟨_,_,ws,_,d⟩:=gX I e hk
 exact d.typeIs
theorem mT {A:Q0}(hu:A.units+1<Sf):(Tq (UG X.prog X.w)).room A.in1:=by
 show A.in1.units<Sf
 rw [lQ];omega
variable {A:Q0}{E:Qg->Qj->Prop}{b:Addr}{k:List Int}{v:V}
theorem LH {Q:Qg->Qj->Prop}(hu:A.units+1<Sf)(I:Inv X a0V σ H s)(e:Rd H a (aP a ps))(hk:cR X.K H ps)(hb:SqT X.K H b (k.map V.int))(hv:cN ps k=some v)
  (h:∀ w' s',Inv X a0V σ H s'->RelV v w'->Q w' s'):QV (QX X.prog X.w) A (WO (.ref a) (.ref b)) Q E s:=by
 obtain ⟨hs,hl,ws,r,d⟩:=gX I e hk
 obtain ⟨w',hw,rw'⟩:=RelO.some_of (v:=v) (o:=(UR (bG ps ws) k).map (·.2)) (by rw [<- hv];exact kZ r k)
 obtain ⟨p,hp,hp2⟩:=Qk.mp hw
 refine Zp (mT hu) (gP I hb) d hp ?_
 rw [hp2]
 exact h w' _ (I.tok _) rw'
theorem LI {Q:Qg->Qj->Prop}(hu:A.units+1<Sf)(I:Inv X a0V σ H s)(e:Rd H a (aP a ps))(hk:cR X.K H ps)(hb:SqT X.K H b (k.map V.int))
  (h:∀ s',Inv X a0V σ H s'->Q (.bool (cN ps k).isSome) s'):QV (QX X.prog X.w) A (RT .In (.ref b) (.ref a)) Q E s:=by
 obtain ⟨hs,hl,ws,r,d⟩:=gX I e hk
 refine wpAny_in_heap (mT hu) (gP I hb) hs d ?_
 have q:=(kZ r k).isSome_eq
 rw [Ud] at q
 rw [<- q]
 exact h _ (I.tok _)
theorem LJ {Q:Qg->Qj->Prop}(hu:A.units+1<Sf)(I:Inv X a0V σ H s)(e:Rd H a (aP a ps))(hk:cR X.K H ps)(hb:SqT X.K H b (k.map V.int))
  (h:∀ s',Inv X a0V σ H s'->Q (.bool (!(cN ps k).isSome)) s'):QV (QX X.prog X.w) A (RT .NotIn (.ref b) (.ref a)) Q E s:=by
 obtain ⟨hs,hl,ws,r,d⟩:=gX I e hk
 refine a0g (mT hu) (gP I hb) hs d ?_
 have q:=(kZ r k).isSome_eq
 rw [Ud] at q
 rw [<- q]
 exact h _ (I.tok _)
theorem LK {Q:Unit->Qj->Prop}{u:Qg}(hu:A.units+1<Sf)(I:Inv X a0V σ H s)(e:H a=some (aP a ps))(hk:cR X.K H ps)(hb:SqT X.K H b (k.map V.int))(hz:ps.length<Qs)(ru:RelV v u)
  (h:∀ s',Inv X a0V σ (aH H a (aP a (dE ps k b v))) s'->Q () s'):QV (QX X.prog X.w) A (setItem (.ref a) (.ref b) u) Q E s:=by
 obtain ⟨hs,hl,ws,r,d⟩:=gX I (.of e) hk
 have hx:(bG ps ws).length<=Qs:=by
  have:=congrArg Si (mS r)
  rw [Qm,Qm] at this
  omega
 refine Zn (hsz:=hx) (mT hu) (gP I hb) d fun h' d' hs'=>h _ ?_
 obtain ⟨ws',r',ex⟩:=Cj r k b ru
 rw [ex] at d'
 have he:∃ q,h'.get? a=some q:=let ⟨q,_,_,hq,_⟩:=d';⟨q,hq⟩
 exact nO I (by rw [e];exact SW) hs' he (vP hs (by have:=vO ps k b v;omega) r' d')
end
noncomputable def IsTs (K:Qf)(π:Nat->Addr)(n:Nat)(H:Hp):bE->List (List Int×D)->Prop:=Ur fun p q=>p.1=q.1/\SqT K H p.2.1 (p.1.map V.int)/\IsD K π n H p.2.2 q.2
section
variable {K:Qf}{π:Nat->Addr}{n:Nat}{H:Hp}{μ:Hm}
theorem LL {b:Addr}{k:List Int}(h:IsD K π n H (.ref b) (.tup (k.map D.int))):SqT K H b (k.map V.int):=by
 cases h with
 | tup q t=>rw [ints_of' t] at q;exact q
theorem IsTs.of:∀ {ps:bE}{kvs:List (List Int×D)},ps.map (·.1)=kvs.map (·.1)->IsDs K π n H (ps.map fun p=>V.ref p.2.1) (kvs.map fun k=>D.tup (k.1.map D.int))->IsDs K π n H (ps.map (·.2.2)) (kvs.map (·.2))->IsTs K π n H ps kvs
 | [],[],_,_,_=>.nil
 | [],_::_,h,_,_=>by cases h
 | _::_,[],h,_,_=>by cases h
 | p::ps,q::kvs,h,h2,h3=>by
  cases h2 with
  | cons k1 k2=>
   cases h3 with
   | cons v1 v2=>
    rw [Qz,Qz,List.cons.injEq] at h
    refine .cons ⟨h.1,?_,v1⟩ (IsTs.of h.2 k2 v2)
    rw [h.1]
    exact LL k1
theorem IsTs.keys:∀ {ps:bE}{kvs:List (List Int×D)},IsTs K π n H ps kvs->cR K H ps
 | _,_,.nil=>fun p hp=>nomatch hp
 | _,_,.cons h t=>fun p hp=>by
  rcases Q9.mp hp with e|hp
  ·subst e;exact h.2.1
  ·exact IsTs.keys t p hp
theorem IsTs.to:∀ {ps:bE}{kvs:List (List Int×D)},IsTs K π n H ps kvs->ps.map (·.1)=kvs.map (·.1)/\IsDs K π n H (ps.map fun p=>V.ref p.2.1) (kvs.map fun k=>D.tup (k.1.map D.int))/\IsDs K π n H (ps.map (·.2.2)) (kvs.map (·.2))
 | _,_,.nil=>⟨rfl,.nil,.nil⟩
 | _,_,.cons (a:=p) (b:=q) h t=>by
  obtain ⟨h1,h2,h3⟩:=IsTs.to t
  refine ⟨by rw [Qz,Qz,h.1,h1],.cons ?_ h2,.cons h.2.2 h3⟩
  show IsD K π n H (.ref p.2.1) (.tup (q.1.map D.int))
  rw [<- h.1]
  exact .tup h.2.1 (qR p.1)
theorem IsTs.val (k:List Int):∀ {ps:bE}{kvs:List (List Int×D)},IsTs K π n H ps kvs->(cN ps k=none/\bI kvs k=none)\/∃ v d,cN ps k=some v/\bI kvs k=some d/\IsD K π n H v d
 | _,_,.nil=>.inl ⟨rfl,rfl⟩
 | _,_,.cons (a:=p) (b:=q) h t=>by
  have ih:=IsTs.val k t
  unfold cN bI at ih ⊢
  rw [RI,RI,<- h.1]
  by_cases e:p.1=k
  ·simp only [e,decide_true]
   exact .inr ⟨_,_,rfl,rfl,h.2.2⟩
  ·simp only [e,decide_false]
   exact ih
theorem IsTs.put {ps:bE}{kvs:List (List Int×D)}(h:IsTs K π n H ps kvs)(k:List Int){b:Addr}{v:V}{d:D}(hb:SqT K H b (k.map V.int))(hv:IsD K π n H v d):IsTs K π n H (dE ps k b v) (dG kvs k d):=by
 have e:(cN ps k).isSome=(bI kvs k).isSome:=by
  rcases h.val k with ⟨h1,h2⟩|⟨v,d,h1,h2,_⟩<;>rw [h1,h2]<;>rfl
 have repl:∀ {ps:bE}{kvs:List (List Int×D)},IsTs K π n H ps kvs->IsTs K π n H (ps.map fun p=>if p.1=k then (p.1,p.2.1,v) else p) (kvs.map fun p=>if p.1=k then (p.1,d) else p):=by
  intro ps kvs h
  unfold IsTs at h
  induction h with
  | nil=>exact .nil
  | @cons p q ps qs h t ih=>
   rw [Qz,Qz]
   refine .cons ?_ ih
   by_cases z:p.1=k
   ·rw [if_pos z,if_pos (h.1.symm.trans z)]
    exact ⟨h.1,h.2.1,hv⟩
   ·rw [if_neg z,if_neg fun y=>z (h.1.trans y)]
    exact h
 unfold dE dG
 rw [e]
 split
 ·exact repl h
 ·exact Wn h ⟨rfl,hb,hv⟩
theorem i9 {a:Nat}{kvs:List (List Int×D)}(R:Rp K π H μ)(h:μ[a]? = some (.dT kvs)):∃ ps,H (π a)=some (aP (π a) ps)/\IsTs K π μ.length H ps kvs:=by
 obtain ⟨ps,h1,h2,h3,h4⟩:=R.dT a kvs h
 exact ⟨ps,h1,.of h2 h3 h4⟩
theorem qV {a:Nat}{kvs:List (List Int×D)}(R:Rp K π H μ)(h:μ[a]? = some (.dF kvs)):∃ ob ps,H (π a)=some (.frz ob (aP (π a) ps))/\IsTs K π μ.length H ps kvs:=by
 obtain ⟨ob,ps,h1,h2,h3,h4⟩:=R.dF a kvs h
 exact ⟨ob,ps,h1,.of h2 h3 h4⟩
theorem jI {v:V}{x:D}{k:List Int}(h:IsD K π n H v x)(e:cL x=some k):∃ b,v=.ref b/\SqT K H b (k.map V.int):=by
 have:=By e
 subst this
 cases h with
 | tup q t=>rw [ints_of' t] at q;exact ⟨_,rfl,q⟩
end
noncomputable def mU:ME:=fun _ μ=>some (.loc μ.length,μ++[.dT []])
section
variable {X:Cx}{pos:SE}
theorem Ck {P:QR}{w:Rg}{H:Hp}(h:RG)(hb:Sg<h.objs.size):ObjOk P w H (h.push { cls:=.type "dict",data:=.dict #[] }) h.objs.size (aP h.objs.size []):=
 vP (ws:=[]) (beq_eq_false_iff_ne.mpr (Sn (Q7 hb))) (RV _) .nil (a0A h)
noncomputable def LM:TE:=fun _ H Q=>∀ p,H p=none->Q (.ref p) (aH H p (aP p []))
theorem LN:PE X (.Dict [] [] pos) LM:=fun a0V s σ H Q I h=>
 wpAny_Dict_empty ⟨.ref s.heap.objs.size,_,I.laid (a:=s.heap.objs.size) (o:=aP s.heap.objs.size []) (t':=s.toks) (fun _ _ q=>Qo _ q) (Qq _) (Ck s.heap I.big),rfl,h _ (I.hok.fresh (Qq _))⟩
theorem LO:QE X (.Dict [] [] pos) mU:=⟨b9 LN (by
 rintro σ H Q ⟨π,ρ,μ,d,μ',R,E,hm,k⟩ p hp
 cases hm
 obtain ⟨e1,R1,q1⟩:=R.alloc (c:=.dT []) (o:=aP p []) hp ⟨[],rfl,rfl,.nil,.nil⟩
 exact k _ _ _ e1 R1 iL)⟩
end
noncomputable def k4:D->D->Hm->Option (D×Hm)
 | .loc a,y,μ=>match μ[a]? with
  | some (.dT kvs)=>(cL y).bind fun k=>(bI kvs k).map fun d=>(d,μ)
  | some (.dF kvs)=>(cL y).bind fun k=>(bI kvs k).map fun d=>(d,μ)
  | _=>none
 | _,_,_=>none
section
variable {X:Cx}{a b e:Qr}{ma mb me:ME}{pos tpos:SE}{td ty tv:TE}
noncomputable def Cm (K:Qf):R2:=fun x y H Q=>∃ a b ps k v,x=.ref a/\y=.ref b/\Rd H a (aP a ps)/\cR K H ps/\SqT K H b (k.map V.int)/\cN ps k=some v/\Q v H
theorem LP (hu:X.A.units+1<Sf)(ho:PE X a td)(hi:PE X b ty)(hs:pN b):PE X (.Subscript a b pos) (fun σ H Q=>td σ H fun x H1=>ty σ H1 fun y H2=>Cm X.K x y H2 Q):=by
 intro a0V s σ H Q I h
 refine zW WE.lookup hs (aN (ho a0V s σ H _ I h) fun u s1 ⟨x,H1,I1,rx,q1⟩=>aN (hi a0V s1 σ H1 _ I1 q1) fun iv s2 ⟨y,H2,I2,ry,a,b,ps,k,v,ex,ey,e,hk,hb,hv,q2⟩=>?_)
 subst ex ey
 obtain rfl:u=QL a:=rx
 obtain rfl:iv=QL b:=ry
 exact ⟨LG I2 e hk,LH hu I2 e hk hb hv fun w' s3 I3 rw'=>⟨v,H2,I3,rw',q2⟩⟩
theorem LQ {K:Qf}:cG K k4 (Cm K):=by
 intro π H μ x y d μ' vx vy Q R ix iy hm k
 unfold k4 at hm
 split at hm
 ·split at hm
  ·rename_i kvs hc
   obtain ⟨kk,h1,hm⟩:=Qe.mp hm
   obtain ⟨d',h2,hm⟩:=Qk.mp hm
   cases hm
   cases ix
   obtain ⟨ps,e1,T⟩:=i9 R hc
   obtain ⟨b,rfl,hb⟩:=jI iy h1
   rcases T.val kk with ⟨_,z⟩|⟨v,d2,z1,z2,z3⟩
   ·rw [z] at h2;cases h2
   ·rw [z2] at h2
    cases h2
    exact ⟨_,b,ps,kk,v,rfl,rfl,.of e1,T.keys,hb,z1,k π _ H .refl R z3⟩
  ·rename_i kvs hc
   obtain ⟨kk,h1,hm⟩:=Qe.mp hm
   obtain ⟨d',h2,hm⟩:=Qk.mp hm
   cases hm
   cases ix
   obtain ⟨ob,ps,e1,T⟩:=qV R hc
   obtain ⟨b,rfl,hb⟩:=jI iy h1
   rcases T.val kk with ⟨_,z⟩|⟨v,d2,z1,z2,z3⟩
   ·rw [z] at h2;cases h2
   ·rw [z2] at h2
    cases h2
    exact ⟨_,b,ps,kk,v,rfl,rfl,.inr ⟨ob,e1⟩,T.keys,hb,z1,k π _ H .refl R z3⟩
  ·cases hm
 ·cases hm
theorem LR {k:Nat}(hr:Room k X.A)(ha:QE X a ma)(hb:QE X b mb)(h:kL b=true):QE X (.Subscript a b pos) (aB k4 ma mb):=⟨b9 (LP (eN hr) ha.h hb.h (uM h)) (lM LQ)⟩
end
section
variable {X:Cx}{o i e:Qr}{mo mi me:ME}{pos tpos:SE}{td ty tv:TE}
noncomputable def LS (K:Qf)(td ty tv:TE):TS:=fun D σ H=>tv σ H fun v H1=>td σ H1 fun x H2=>ty σ H2 fun y H3=>∃ a b ps k,x=.ref a/\y=.ref b/\H3 a=some (aP a ps)/\cR K H3 ps/\SqT K H3 b (k.map V.int)/\ps.length<Qs/\D.nx σ (aH H3 a (aP a (dE ps k b v)))
theorem LU (hu:X.A.units+1<Sf)(ho:PE X o td)(hi:PE X i ty)(hv:PE X e tv)(hs:Uv e (some (.Subscript o i tpos)) pos.line X.env=pure false) :
  PS X (.Assign [.Subscript o i tpos] e pos) (LS X.K td ty tv):=by
 intro a0V s σ H D I h
 refine VQ (aN (hv a0V s σ H _ I h) fun r s1 ⟨v,H1,I1,rv,q1⟩=>aN (ho a0V s1 σ H1 _ I1 q1) fun u s2 ⟨x,H2,I2,rx,q2⟩=>aN (hi a0V s2 σ H2 _ I2 q2) fun iv s3 ⟨y,H3,I3,ry,a,b,ps,k,ex,ey,e,hk,hb,hz,q3⟩=>?_) hs
 subst ex ey
 obtain rfl:u=QL a:=rx
 obtain rfl:iv=QL b:=ry
 exact LK hu I3 e hk hb hz rv fun s4 I4=>⟨σ,_,I4,q3⟩
theorem LV {kk:Nat}(hr:Room kk X.A)(ho:QE X o mo)(hi:QE X i mi)(he:QE X e me)(h:gM e=true):QS X (.Assign [.Subscript o i tpos] e pos) (i7 kY mo mi me):=
 ⟨fQ (LU (Am hr) ho.h hi.h he.h (n3 h)) (by
 rintro E σ H ⟨π,ρ,μ,fl,ρ',μ',R,EN,hm,k⟩
 obtain ⟨⟨x,μ1⟩,h1,hm⟩:=Qe.mp hm
 obtain ⟨⟨y,μ2⟩,h2,hm⟩:=Qe.mp hm
 obtain ⟨⟨z,μ3⟩,h3,hm⟩:=Qe.mp hm
 obtain ⟨μ4,h4,hm⟩:=Qk.mp hm
 cases hm
 refine ⟨π,ρ,μ,x,μ1,R,EN,h1,fun π1 v1 H1 e1 R1 i1=>⟨π1,ρ,μ1,y,μ2,R1,EN.mono e1,h2,fun π2 v2 H2 e2 R2 i2=>⟨π2,ρ,μ2,z,μ3,R2,(EN.mono e1).mono e2,h3,fun π3 v3 H3 e3 R3 i3=>?_⟩⟩⟩
 cases y with
 | loc a=>
  simp only [kY] at h4
  split at h4
  ·rename_i kvs hc
   obtain ⟨kk,h5,h4⟩:=Qe.mp h4
   split at h4
   ·rename_i hz
    cases h4
    have i2':=i2.mono e3
    cases i2' with
    | loc hlt=>
     obtain ⟨ps,f1,T⟩:=i9 R3 hc
     obtain ⟨b,rfl,hb⟩:=jI i3 h5
     have hv:=(i1.mono e2).mono e3
     have T':=T.put kk hb hv
     obtain ⟨g1,g2,g3⟩:=T'.to
     have hpl:ps.length<Qs:=by
      have:=congrArg Si (T.to).1
      rw [Qm,Qm] at this
      omega
     refine ⟨_,b,ps,kk,rfl,rfl,f1,T.keys,hb,hpl,?_⟩
     obtain ⟨e4,R4⟩:=R3.put (c:=.dT (dG kvs kk x)) (o:=aP _ (dE ps kk b v1)) hlt f1 (.inr (.inr ⟨_,rfl⟩)) ⟨_,rfl,g1,g2,g3⟩
     exact k π3 σ _ (((e1.trans e2).trans e3).trans e4) R4 ((((EN.mono e1).mono e2).mono e3).mono e4)
   ·cases h4
  ·cases h4
 | _=>simp [kY] at h4)⟩
end
noncomputable def oD (neg:Bool):D->D->Hm->Option (D×Hm)
 | x,.loc a,μ=>match μ[a]? with
  | some (.dT kvs)=>(cL x).map fun k=>(.bl (if neg then !(bI kvs k).isSome else (bI kvs k).isSome),μ)
  | some (.dF kvs)=>(cL x).map fun k=>(.bl (if neg then !(bI kvs k).isSome else (bI kvs k).isSome),μ)
  | _=>none
 | _,_,_=>none
noncomputable def vQ (K:Qf)(neg:Bool):R2:=fun x y H Q=>∃ a b ps k,x=.ref b/\y=.ref a/\Rd H a (aP a ps)/\cR K H ps/\SqT K H b (k.map V.int)/\Q (.bl (if neg then !(cN ps k).isSome else (cN ps k).isSome)) H
theorem Cn {X:Cx}(hu:X.A.units+1<Sf):OpR X (RT .In) (vQ X.K false):=by
 intro a0V s σ H x y v u Q I rx ry h
 obtain ⟨a,b,ps,k,rfl,rfl,e,hk,hb,q⟩:=h
 obtain rfl:v=QL b:=rx
 obtain rfl:u=QL a:=ry
 exact LI hu I e hk hb fun s' I'=>⟨.bl _,H,I',rfl,q⟩
theorem Co {X:Cx}(hu:X.A.units+1<Sf):OpR X (RT .NotIn) (vQ X.K true):=by
 intro a0V s σ H x y v u Q I rx ry h
 obtain ⟨a,b,ps,k,rfl,rfl,e,hk,hb,q⟩:=h
 obtain rfl:v=QL b:=rx
 obtain rfl:u=QL a:=ry
 exact LJ hu I e hk hb fun s' I'=>⟨.bl _,H,I',rfl,q⟩
theorem qW {K:Qf}{neg:Bool}:cG K (oD neg) (vQ K neg):=by
 intro π H μ x y d μ' vx vy Q R ix iy hm k
 unfold oD at hm
 split at hm
 ·split at hm
  ·rename_i kvs hc
   obtain ⟨kk,h1,hm⟩:=Qk.mp hm
   cases hm
   cases iy
   obtain ⟨ps,e1,T⟩:=i9 R hc
   obtain ⟨b,rfl,hb⟩:=jI ix h1
   have e:(cN ps kk).isSome=(bI kvs kk).isSome:=by
    rcases T.val kk with ⟨h1,h2⟩|⟨v,d,h1,h2,_⟩<;>rw [h1,h2]<;>rfl
   refine ⟨_,b,ps,kk,rfl,rfl,.of e1,T.keys,hb,?_⟩
   rw [e]
   exact k π _ H .refl R (.bl _)
  ·rename_i kvs hc
   obtain ⟨kk,h1,hm⟩:=Qk.mp hm
   cases hm
   cases iy
   obtain ⟨ob,ps,e1,T⟩:=qV R hc
   obtain ⟨b,rfl,hb⟩:=jI ix h1
   have e:(cN ps kk).isSome=(bI kvs kk).isSome:=by
    rcases T.val kk with ⟨h1,h2⟩|⟨v,d,h1,h2,_⟩<;>rw [h1,h2]<;>rfl
   refine ⟨_,b,ps,kk,rfl,rfl,.inr ⟨ob,e1⟩,T.keys,hb,?_⟩
   rw [e]
   exact k π _ H .refl R (.bl _)
  ·cases hm
 ·cases hm
section
variable {X:Cx}{a b:Qr}{ma mb:ME}{pos:SE}
end
end L3
namespace L3
open PySem L2
noncomputable def RawD (h:RG)(d:Addr)(es:Array Se)(ep:Nat):Prop:=∃ z,h.get? d=some z/\z.ExactDict/\z.data=.dict es ep
theorem RawD.ty {s:Qj}{d:Addr} {es ep} (g:RawD s.heap d es ep):s.TypeIs (.ref d) "dict":=let ⟨z,g1,g2,_⟩:=g;⟨z,g1,g2.1⟩
theorem RawD.stay {h h':RG}{d:Addr} {es ep} (g:RawD h d es ep)(k:∀ o,h.get? d=some o->h'.get? d=some o):RawD h' d es ep:=let ⟨z,g1,g2⟩:=g;⟨z,k z g1,g2⟩
theorem RawD.lt {h:RG}{d:Addr} {es ep} (g:RawD h d es ep):d<h.objs.size:=let ⟨_,g1,_⟩:=g;QD g1
section
variable {P:QR}{w:Rg}{A:Q0}{E:Qg->Qj->Prop}{s:Qj}{d it:Addr}{i ep:Nat}{es:Array Se}
theorem LW {Q:Qg->Qj->Prop}(lo:(d == Sg)=false)(g:RawD s.heap d es ep)
  (q:Q (.ref s.heap.objs.size) { s with heap:=s.heap.push { cls:=.type "dict_keyiterator",data:=.fields #[.ref d,.int 0 0,.int es.size 0,.int ep 0] } }):QV (QX P w) A (XB (.ref d)) Q E s:=by
 obtain ⟨z,g1,g2,g3⟩:=id g
 refine ZH g.ty F.slot_dict_iter (SS F.slot_dict_iter g.ty F.entry_dict_iter ?_ (F.args_dict_iter_1 _))
 unfold Builtin.«dict.__iter__» a0E
 refine Qh (Qh (VY g.ty ?_))
 show QV _ _ (pure (QL d)) _ _ _
 refine Qt ?_
 show QV _ _ (T8 d >>= _) _ _ _
 unfold T8
 rw [if_neg (fun x=>RB (lo.symm.trans x))]
 refine Qh (Qt (Qh (UC g1 g3 (Qh (VT g1 g3 (Qh (SM (Qt ?_))))))))
 exact ⟨_,rfl,"dict_keyiterator",_,⟨_,QY _ rfl,rfl⟩,F.slot_dict_keyiterator_next.lookup,by simpa [Uq] using q⟩
theorem Cp {Q:Option Qg->Qj->Prop}(hh:A.handled=none)(j:s.heap.IsKeyIter it d i es.size ep)(g:RawD s.heap d es ep)
  (q1:∀ e h',es[i]? = some e->h'.IsKeyIter it d (i+1) es.size ep->Um it s.heap h'->Q (some e.key) { s with heap:=h' })
  (q2:es[i]? = none->∀ h',WC it s.heap h'->Q none { s with heap:=h' }):QV (QX P w) A (Vu (.ref it)) Q E s:=by
 obtain ⟨y,j1,j2,j3⟩:=id j
 obtain ⟨z,g1,g2,g3⟩:=id g
 have nm:∀ {Q:String->Qj->Prop}{A:Q0}{E:Qg->Qj->Prop},Q "dict_keyiterator" s->QV (QX P w) A (a0b (.ref it)) Q E s:=fun q=>wpAny_typeNameOfWhole_keyiter j.typeIs q
 unfold Vu
 refine Qh (X2 (Yg (name:=Vv "__next__") j.typeIs F.slot_dict_keyiterator_next (SS F.slot_dict_keyiterator_next j.typeIs F.entry_dict_keyiterator_next ?_ (F.args_dict_keyiterator_next_1 _))))
 refine Qh (Qt (Qh (Qh (Qh (nm (Qt (Qh (a0H j1 j3 ?_))))))))
 simp only [show T6 "dict_keyiterator" = false by decide,Qp,if_false]
 show QV _ _ (if (QL d == RU)=true then _ else _) _ _ _
 rw [if_neg (show ¬ (QL d == RU)=true from fun x=>RB x)]
 refine Qh (Qt (Qh (UC g1 g3 ?_)))
 rw [if_neg (fun x=>by simp at x)]
 refine Qh (Qt (Qh (VT g1 g3 ?_)))
 rw [if_neg (fun x=>by simp at x)]
 refine Qt ?_
 simp only [if_neg (show ¬ ((i:Int)<0) by omega),TR]
 cases he:es[i]? with
 | some e=>
  refine Qh (Qh (nm (Qt (Qh (YT j.typeIs ?_)))))
  show QV _ _ (Y5 (.ref it) 1 (Uq ((i:Int)+1)) >>= _) _ _ _
  refine Qh (Xv j1 j3 (by simp) ?_)
  have j':(s.heap.update it (ZR (·.setIfInBounds 1 (Uq ((i:Int)+1))))).IsKeyIter it d (i+1) es.size ep:=
   ⟨_,TJ _ j1 (Obj.isFreed_of_fields (YN j3 _)),(Obj.cls_mapFields ..).trans j2,by simp [YN j3,Uq]⟩
  generalize hu:s.heap.update it (ZR (·.setIfInBounds 1 (Uq ((i:Int)+1))))=u at j'
  refine Qh (RH (Qh (YT (s:={ s with heap:=u }) j'.typeIs ?_)))
  show QV _ _ (pure e.key) _ _ _
  exact Qt (Qt ⟨_,rfl,Qt (q1 e u he j' (hu ▸ Vp ..))⟩)
 | none=>
  refine Qh (Qh (nm (Qt ?_)))
  show QV _ _ (Y5 (.ref it) 0 .none >>= _) _ _ _
  refine Qh (Xv j1 j3 (by simp) ?_)
  show QV _ _ (a0M (.type "StopIteration") [] >>= _) _ _ _
  simp only [a0M,newTuple]
  refine Qh (Qh (SM ?_ (by size_fits)))
  refine Qh (m:=V9 _ _) (wpAny_of_eq (a:=RU) (by first|rfl|(simp only [V9];rfl)) (SM ?_ (by size_fits)))
  simp only [raiseNew]
  refine Qh (wpAny_handled ?_)
  rw [show A.in1.handled=none from hh]
  refine Qh (Qt (wpAny_throw ?thrown))
  case thrown=>exact Qh (ZU (T:="StopIteration") (b:=true) ⟨_,QY _ rfl,rfl⟩ a0P (Qt (q2 he _ (((Vp ..).extBut.push _).push _))))
theorem LX (lo:(d == Sg)=false):MeetsIn P w (Builtin.«dict.__len__» ⟨[.ref d],[]⟩) (fun _ R s=>∃ es ep,RawD s.heap d es ep/\R (.ok (.ret (.int (es.size:Nat) s.toks))) { s with toks:=s.toks+1 }):=
 .of_wp fun A R s ⟨es,ep,⟨z,g1,g2,g3⟩,q⟩=>by
  show QV _ _ (dictSize d >>= _) _ _ _
  unfold dictSize
  refine Qh (Qh (UC g1 g3 (Qt ?_)))
  show QV _ _ (a0C d >>= _) _ _ _
  refine Qh (wpAny_pendingCount_other lo (wpAny_ret_mkInt ?_))
  rw [Vz];exact q
theorem LY {Q:Qg->Qj->Prop}(lo:(d == Sg)=false)(g:RawD s.heap d es ep)(hz:es.size<=Qs)(q:Q (.int (es.size:Nat) (s.toks+1)) { s with toks:=s.toks+1+1 }):QV (QX P w) A (call (.builtin "len") [.ref d]) Q E s:=
 a0s g.ty F.slot_dict_len (fun Q' q'=>WS F.slot_dict_len g.ty F.entry_dict_len (F.args_dict_len_1 _) (LX lo) ⟨es,ep,g,q'⟩) (by omega) (by rw [Ro] at hz;omega) q
end
theorem vT:∀ {ps:bE}{ws:List Qg},Vals (ps.map (·.2.2)) ws->(bG ps ws).map (fun x=>QL x.2.1)=ps.map fun p=>QL p.2.1
 | [],_,_=>by simp [bG]
 | p::ps,_,.cons r t=>by
  have ih:=vT (ps:=ps) t
  unfold bG at ih ⊢
  rw [Ry,Qz,Qz,ih]
section
variable {X:Cx}{a0V:List (Addr×SD)}{σ:St}{H:Hp}{s:Qj}{a:Addr}{ps:bE}
theorem vU (I:Inv X a0V σ H s)(e:H a=some (aP a ps))(hk:cR X.K H ps):(a == Sg)=false/\ps.length<=Qs/\∃ es ep,RawD s.heap a es ep/\es.toList.map (·.key)=ps.map fun p=>QL p.2.1:=by
 obtain ⟨lo,hl,ws,r,z,es,ep,h1,h2,h3,h4,_⟩:=gX I (.of e) hk
 refine ⟨lo,hl,es,ep,⟨z,h1,h2,h3⟩,?_⟩
 rw [h4,Rj,<- vT r]
 rfl
noncomputable def Cq (K:Qf):List V->Hp->VK->Prop:=fun xs H Q=>∃ a ps,xs=[V.ref a]/\H a=some (aP a ps)/\cR K H ps/\Q (.int ps.length) H
theorem LZ:CallR X (.builtin "len") (Cq X.K):=by
 intro a0V s σ H xs us Q I r h
 obtain ⟨a,ps,rfl,ha,hk,q⟩:=h
 obtain ⟨u,rfl,ru⟩:=fP r
 cases ru
 obtain ⟨lo,hl,es,ep,g,he⟩:=vU I ha hk
 have hs:es.size=ps.length:=by
  have:=congrArg Si he
  simpa using this
 refine LY lo g (by omega) ?_
 rw [hs]
 exact ⟨.int ps.length,H,(I.tok _).tok _,⟨_,rfl⟩,q⟩
end
section
variable {X:Cx}{a b o i e:Qr}{ma mb mo mi me:ME}{pos tpos:SE}{k:Nat}
theorem L0 (hr:Room k X.A)(ha:QE X a ma)(hb:QE X b mb)(h:kL b=true):QE X (.Subscript a b pos) (aB aG ma mb):=
 l8 (l8 (m:=aB (fun x y μ=>match k4 x y μ with|some r=>some r|none=>nY x y μ) ma mb) (LR hr ha hb h) (JQ hr ha hb h) (gO fun x y μ r hm=>by
  split at hm
  ·rename_i z;rw [z];exact .inl hm
  ·exact .inr hm)) (JP ha hb h) (gO fun x y μ r hm=>by
  unfold aG at hm
  split at hm
  ·split at hm
   ·rename_i kvs hc
    refine .inl ?_
    simp only [k4,nY,hc]
    exact hm
   ·rename_i kvs hc
    refine .inl ?_
    simp only [k4,hc]
    rw [hm]
   ·rename_i kvs hc
    refine .inl ?_
    simp only [k4,hc]
    rw [hm]
   ·exact .inr hm
  ·exact .inr hm)
noncomputable def mV (neg:Bool):D->D->Hm->Option (D×Hm):=fun x y μ=>match oD neg x y μ with
 | some r=>some r
 | none=>mB neg x y μ
theorem qX {neg:Bool}(x y:D)(μ:Hm)(r:D×Hm)(h:mV neg x y μ=some r):oD neg x y μ=some r\/mB neg x y μ=some r:=by
 unfold mV at h
 split at h
 ·rename_i z;rw [z];exact .inl h
 ·exact .inr h
theorem Cr {neg:Bool}(x y:D)(μ:Hm)(r:D×Hm)(h:cM neg x y μ=some r):(∃ i j,x=.str i/\y=.str j)\/mV neg x y μ=some r:=by
 cases y with
 | loc a=>
  refine .inr ?_
  have e:cM neg x (.loc a) μ=(match μ[a]? with
   | some (.dT kvs)=>(cL x).map fun k=>(D.bl (if neg then !(bI kvs k).isSome else (bI kvs k).isSome),μ)
   | some (.dF kvs)=>(cL x).map fun k=>(D.bl (if neg then !(bI kvs k).isSome else (bI kvs k).isSome),μ)
   | _=>mB neg x (.loc a) μ):=by cases x<;>rfl
  rw [e] at h
  unfold mV
  simp only [oD]
  cases hc:μ[a]? with
  | none=>rw [hc] at h;exact h
  | some c=>
   rw [hc] at h
   cases c with
   | dT kvs=>dsimp only at h ⊢;rw [h]
   | dF kvs=>dsimp only at h ⊢;rw [h]
   | _=>exact h
 | str j=>
  cases x with
  | str i=>exact .inl ⟨i,j,rfl,rfl⟩
  | _=>exact .inr h
 | _=>cases x<;>exact .inr h
theorem Ct (x y:D)(μ:Hm)(r:D×Hm)(h:cM false x y μ=some r):uH x y μ=some r\/mV false x y μ=some r:=by
 rcases Cr x y μ r h with ⟨i,j,rfl,rfl⟩|z
 ·exact .inl h
 ·exact .inr z
theorem Cu (x y:D)(μ:Hm)(r:D×Hm)(h:cM true x y μ=some r):uU x y μ=some r\/mV true x y μ=some r:=by
 rcases Cr x y μ r h with ⟨i,j,rfl,rfl⟩|z
 ·exact .inl h
 ·exact .inr z
theorem L1 (hr:Room k X.A)(ha:QE X a ma)(hb:QE X b mb)(h:eB b=true):QE X (.Compare a [.In] [b] pos) (aB (cM false) ma mb):=
 l8 ⟨fA zG AW ha.h hb.h (fH h)⟩ (l8 ⟨fA (Cn (eN hr)) qW ha.h hb.h (fH h)⟩ ⟨fA (Bj (qL hr)) qJ ha.h hb.h (fH h)⟩ (gO qX)) (gO Ct)
theorem L4 (hr:Room k X.A)(ha:QE X a ma)(hb:QE X b mb)(h:eB b=true):QE X (.Compare a [.NotIn] [b] pos) (aB (cM true) ma mb):=
 l8 ⟨fA Ad Bl ha.h hb.h (fH h)⟩ (l8 ⟨fA (Co (eN hr)) qW ha.h hb.h (fH h)⟩ ⟨fA (Bk (qL hr)) qJ ha.h hb.h (fH h)⟩ (gO qX)) (gO Cu)
theorem L5 (hr:Room k X.A)(ha:QE X a ma)(hb:QE X b mb)(h:eB b=true):QT X (.Compare a [.In] [b] pos) (aU (aB (cM false) ma mb)):=
 qG ⟨fB zG AW ha.h hb.h (fH h)⟩ (qG ⟨fB (Cn (eN hr)) qW ha.h hb.h (fH h)⟩ ⟨fB (Bj (qL hr)) qJ ha.h hb.h (fH h)⟩ (qH (gO qX))) (qH (gO Ct))
theorem L6 (hr:Room k X.A)(ha:QE X a ma)(hb:QE X b mb)(h:eB b=true):QT X (.Compare a [.NotIn] [b] pos) (aU (aB (cM true) ma mb)):=
 qG ⟨fB Ad Bl ha.h hb.h (fH h)⟩ (qG ⟨fB (Co (eN hr)) qW ha.h hb.h (fH h)⟩ ⟨fB (Bk (qL hr)) qJ ha.h hb.h (fH h)⟩ (qH (gO qX))) (qH (gO Cu))
noncomputable def qY:D->D->D->Hm->Option Hm:=fun o i d μ=>match kY o i d μ with
 | some r=>some r
 | none=>oC o i d μ
theorem L7 (hr:Room k X.A)(ho:QE X o mo)(hi:QE X i mi)(he:QE X e me)(h:gM e=true):QS X (.Assign [.Subscript o i tpos] e pos) (i8 mo mi me):=
 B5 (B5 (m:=i7 qY mo mi me) (LV hr ho hi he h) (Lx hr ho hi he h) (B7 fun x y z μ r hm=>by
  unfold qY at hm
  split at hm
  ·rename_i q;rw [q];exact .inl hm
  ·exact .inr hm)) (Lv ho hi he h) (B7 fun x y z μ r hm=>by
  unfold mQ at hm
  split at hm
  ·split at hm
   ·rename_i a kvs hc
    refine .inl ?_
    unfold qY
    simp only [kY,hc]
    exact hm
   ·refine .inl ?_
    unfold qY
    rw [hm]
   ·exact .inr hm
  ·cases hm)
end
end L3
namespace L3
open PySem L2
end L3
namespace L3
open PySem L2
section
variable {P:QR}{w:Rg}{A:Q0}{E:Qg->Qj->Prop}{s:Qj}{a:Addr}
theorem L8:Zt (.type "tuple") "keys" = pure none:=by rw [typeLookup_type,builtinLookup_eq_fast];kernel_rfl
theorem L9 {o:SD}{xs:Array Qg}{k:Nat}{Q:Option Qg->Qj->Prop}(g:s.heap.get? a=some o)(g1:o.cls=.type "tuple") (g2:o.data=.seq xs k)(g3:o.dict=none)(hA:A.handled=none)
  (q:∀ h' tk,(∀ b u,s.heap.get? b=some u->h'.get? b=some u)->Q none { s with heap:=h',toks:=tk }):QV (QX P w) A (getAttr? (.ref a) "keys") Q E s:=by
 obtain ⟨c,dct,dat,sl⟩:=o
 dsimp only at g1 g2 g3
 subst g1 g2 g3
 obtain ⟨hp,gs,dr,tk,os⟩:=s
 have ty:∀ tk',(⟨hp,gs,dr,tk',os⟩:Qj).TypeIs (.ref a) "tuple":=fun _=>⟨_,g,rfl⟩
 have e1:=sub_AttributeError
 have e2:=F.slot_tuple_getattribute.lookup
 have e3:=F.slot_tuple_getattribute.bind (.ref a)
 have e4:=am_tuple_getattr_none
 unfold getAttr? getAttrBy? getAttrBy
 repeat (any_goals (first|assumption|exact ty _|((with_reducible show QV _ _ (call (Zk "tuple.__getattribute__") _ _) _ _ _);refine Vk F.slot_tuple_getattribute (ty _) am_entry_tuple_getattribute (F.args_tuple_getattribute_2 _ _) (meets_getattribute_miss_tuple a xs k sl "keys" _ L8 (by decide +kernel)) ⟨g,hA,fun h' tk' e ne=>?_⟩)|wp_step))
 obtain ⟨y1,y2,there⟩:=ne.there
 show QV _ _ (Zw _ _ _ _ none false false) _ _ _
 unfold Zw
 repeat (any_goals (first|assumption|wp_step))
 exact q _ _ ne.of.keeps
end
theorem Cv:entryFor table "dict.update.loop" = some Builtin.«dict.update.loop»:=entryFor_of_tree (by kernel_rfl)
theorem qZ:plainId "dict.update.loop" = true:=by decide +kernel
noncomputable def k5 (ps:bE):List (Addr×List Int×Addr×V)->bE
 | []=>ps
 | r::L=>k5 (dE ps r.2.1 r.2.2.1 r.2.2.2) L
section
variable {X:Cx}{a0V:List (Addr×SD)}{σ:St}{A:Q0}{E:Qg->Qj->Prop}{d:Addr}
theorem Ma {H:Hp}{s:Qj}{b:Addr}{k:List Int}{v:V}{u:Qg}{ps:bE}{Q:Unit->Qj->Prop}(hu:A.units<Sf)(I:Inv X a0V σ H s)(e:H d=some (aP d ps))(hk:cR X.K H ps)(hb:SqT X.K H b (k.map V.int))(hz:ps.length<Qs)(ru:RelV v u)
  (h:∀ s',Inv X a0V σ (aH H d (aP d (dE ps k b v))) s'->(∀ c o,c≠d->s.heap.get? c=some o->s'.heap.get? c=some o)->Q () s'):QV (QX X.prog X.w) A (dictSet d (.ref b) u) Q E s:=by
 obtain ⟨hs,hl,ws,r,dd⟩:=gX I (.of e) hk
 have hx:(bG ps ws).length<=Qs:=by
  have:=congrArg Si (mS r)
  rw [Qm,Qm] at this
  omega
 refine wpAny_dictSet_heap (hsz:=hx) (show (Tq (UG X.prog X.w)).room A from hu) (gP I hb) dd fun h' d' hs'=>h _ ?_ fun c o hc e=>hs'.extBut c o hc e
 obtain ⟨ws',r',ex⟩:=Cj r k b ru
 rw [ex] at d'
 have he:∃ q,h'.get? d=some q:=let ⟨q,_,_,hq,_⟩:=d';⟨q,hq⟩
 exact nO I (by rw [e];exact SW) hs' he (vP hs (by have:=vO ps k b v;omega) r' d')
end
theorem oE {K:Qf}{H:Hp}{d b:Addr}{o:HO}{ps:bE}{vs:List V}(e:H d=some (aP d ps))(h:SqT K H b vs):SqT K (aH H d o) b vs:=by
 have ne:∀ {u},H b=some u->(∀ qs,u≠aP d qs)->b≠d:=fun z f y=>by
  rw [y,e] at z
  cases z
  exact f ps rfl
 rcases h with (h|⟨ob,h⟩)|h
 ·exact .inl (.inl (by rw [a8 (ne h fun _ z=>by cases z)];exact h))
 ·exact .inl (.inr ⟨ob,by rw [a8 (ne h fun _ z=>by cases z)];exact h⟩)
 ·exact .inr h
theorem Mb {K:Qf}{H:Hp}{ps:bE}{k:List Int}{b:Addr}{v:V}(h:cR K H ps)(hb:SqT K H b (k.map V.int)):cR K H (dE ps k b v):=by
 intro p hp
 unfold dE at hp
 split at hp
 ·obtain ⟨p',hp',e⟩:=Q4.mp hp
  by_cases z:p'.1=k
  ·rw [if_pos z] at e
   subst e
   exact h p' hp'
  ·rw [if_neg z] at e
   subst e
   exact h p' hp'
 ·rcases RE.mp hp with hp|hp
  ·exact h p hp
  ·rw [RF.mp hp]
   exact hb
theorem Cw {H:Hp}{d:Addr}{o o':HO}:aH (aH H d o) d o'=aH H d o':=by
 funext b
 unfold aH
 split
 ·rfl
 ·rfl
theorem Mc {P:QR}{w:Rg}{A:Q0}{E:Qg->Qj->Prop}{s:Qj}{p:Addr}{xs:Array Qg}{Q:List Qg->Qj->Prop}(h:a0x s.heap p xs)(q:Q xs.toList s):QV (QX P w) A (Wv (.ref p)) Q E s:=by
 obtain ⟨o,g,c,n,dd⟩:=h
 have ty:s.TypeIs (.ref p) "tuple":=⟨o,g,c⟩
 unfold Wv
 refine Qh (Yr ty ?_)
 rw [if_pos (by decide)]
 unfold seqItems?
 refine Qh (Qh (XA g ?_))
 rw [dd]
 exact Qt (Qt q)
section
variable {X:Cx}{a0V:List (Addr×SD)}{σ:St}{A:Q0}{d t it:Addr}{ys:List V}{R:YE->Qj->Prop}
theorem Md (hh:A.handled=none)(hu:A.in1.units<Sf):∀ (L:List (Addr×List Int×Addr×V))(i:Nat)(ps:bE)(H:Hp)(s:Qj),Inv X a0V σ H s->H d=some (aP d ps)->cR X.K H ps->SqT X.K H t ys->ys.drop i=L.map (fun r=>V.ref r.1)->
  (∀ r∈L,SqT X.K H r.1 [.ref r.2.2.1,r.2.2.2]/\SqT X.K H r.2.2.1 (r.2.1.map V.int))->fN X a0V H it->s.heap.IsTupleIter it t i->ps.length+L.length<=Qs->
  (∀ s',Inv X a0V σ (aH H d (aP d (k5 ps L))) s'->R (.ok (.ret .none)) s')->Vs (QX X.prog X.w) A (.builtin "dict.update.loop" ⟨[.ref d,.ref it,Uq i,.none],[]⟩) R s:=by
 intro L
 induction L with
 | nil=>
  intro i ps H s I e hk hq hd hr hf st hz q
  obtain ⟨its,rv,p,hzz⟩:=I.tuple hq
  obtain ⟨f0,f1,f2,f3,f4,f5⟩:=hf
  have hl:=rv.length
  have hlen:ys.length<=i:=by
   have:=congrArg Si hd
   simp at this
   omega
  refine Ui Cv ?_
  rw [Tg qZ _]
  show QV _ A.in1 (Vu (.ref it) >>= _) _ _ s
  refine Qh (Ys hh st (show s.heap.IsTuple t its.toArray from p) (by simp;omega) fun h' eb=>?_)
  have I1:Inv X a0V σ H { s with heap:=h' }:=I.turned (t':=s.toks) (fun b o hb e=>eb b o hb e) f0 f1 f3 f4 f5
  show QV _ _ (a0F d [] >>= _) _ _ _
  refine Qh (Qt (Qt (q _ ?_)))
  have:aH H d (aP d (k5 ps []))=H:=by
   funext b
   unfold aH
   split
   ·rename_i z;rw [z];exact e.symm
   ·rfl
  rw [this]
  exact I1
 | cons r L ih=>
  intro i ps H s I e hk hq hd hr hf st hz q
  obtain ⟨its,rv,p,hzz⟩:=I.tuple hq
  obtain ⟨f0,f1,f2,f3,f4,f5⟩:=id hf
  have hx:ys[i]? = some (.ref r.1):=by
   have:=congrArg (·[0]?) hd
   simpa using this
  obtain ⟨u,eN,ru⟩:=rv.get hx
  cases ru
  refine Ui Cv ?_
  rw [Tg qZ _]
  show QV _ A.in1 (Vu (.ref it) >>= _) _ _ s
  refine Qh (Ye st (show s.heap.IsTuple t its.toArray from p) (x:=.ref r.1) (by simpa using eN) fun h' st' sb=>?_)
  have I1:Inv X a0V σ H { s with heap:=h' }:=I.turned (t':=s.toks) (fun b o hb e=>(sb.2 b hb).trans e) f0 f1 f3 f4 f5
  have hr0:=hr r (QN ..)
  obtain ⟨its2,rv2,p2,_⟩:=I1.tuple hr0.1
  cases rv2 with
  | cons rk rr=>
   cases rr with
   | cons rw' rr=>
    cases rr
    cases rk
    rename_i w0
    refine Qh (RH (Qh (wpAny_tryCatch (Mc p2 ?_))))
    have hps:ps.length<Qs:=by
     rw [QU] at hz
     omega
    refine RH (Ma hu I1 e hk hr0.2 hps rw' fun s' I2 kp=>?_)
    refine Qt ⟨U0 qZ _,?_⟩
    have bC:it≠d:=fun z=>by
     rw [<- z,f0] at e
     cases e
    have hrest:∀ x∈L,SqT X.K (aH H d (aP d (dE ps r.2.1 r.2.2.1 r.2.2.2))) x.1 [.ref x.2.2.1,x.2.2.2]/\SqT X.K (aH H d (aP d (dE ps r.2.1 r.2.2.1 r.2.2.2))) x.2.2.1 (x.2.1.map V.int):=fun x hx=>
     ⟨oE e (hr x (QH _ hx)).1,oE e (hr x (QH _ hx)).2⟩
    have hdr:ys.drop (i+1)=L.map (fun r=>V.ref r.1):=by
     have:=congrArg List.tail hd
     simpa [List.tail_drop] using this
    refine ih (i+1) (dE ps r.2.1 r.2.2.1 r.2.2.2) _ s' I2 cE (Mb (fun p hp=>oE e (hk p hp)) (oE e hr0.2)) (oE e hq) hdr hrest ⟨by rw [a8 bC];exact f0,f1,f2,f3,f4,f5⟩ (st'.at fun o ho=>kp it o bC ho) ?_ fun s'' I''=>q s'' ?_
    ·have:=vO ps r.2.1 r.2.2.1 r.2.2.2
     rw [QU] at hz
     omega
    ·rw [Cw] at I''
     exact I''
end
section
variable {X:Cx}
noncomputable def Cy (K:Qf):List V->Hp->VK->Prop:=fun xs H Q=>∃ (t:Addr)(L:List (Addr×List Int×Addr×V)),xs=[V.ref t]/\SqT K H t (L.map fun r=>V.ref r.1) /\
 (∀ r∈L,SqT K H r.1 [.ref r.2.2.1,r.2.2.2]/\SqT K H r.2.2.1 (r.2.1.map V.int))/\∀ d,H d=none->Q (.ref d) (aH H d (aP d (k5 [] L)))
theorem Me (hc:X.calm=true)(hun:X.A.units+64<Sf):CallR X (.type "dict") (Cy X.K):=by
 intro a0V s σ H xs us Q I r h
 obtain ⟨t,L,rfl,hq,hr,k⟩:=h
 obtain ⟨u,rfl,ru⟩:=fP r
 cases ru
 have hn:H s.heap.objs.size=none:=I.hok.fresh (Qq _)
 refine callType_codes (Q₁:=fun obj s₁=>obj=.ref s.heap.objs.size/\s₁ = { s with heap:=s.heap.push { cls:=.type "dict",data:=.dict #[] } }) F.kt_called_dict (F.kt_typeCall_dict_1 _) F.entry_dict_init (kt_code_dict_new _ ⟨rfl,rfl⟩) ?_
 rintro obj s₁ ⟨rfl,rfl⟩
 have I0:Inv X a0V σ (aH H s.heap.objs.size (aP s.heap.objs.size [])) { s with heap:=s.heap.push { cls:=.type "dict",data:=.dict #[] } }:=I.laid (a:=s.heap.objs.size) (o:=aP s.heap.objs.size []) (t':=s.toks) (fun _ _ q=>Qo _ q) (Qq _) (Ck s.heap I.big)
 have ty:({ s with heap:=s.heap.push { cls:=.type "dict",data:=.dict #[] } }:Qj).TypeIs (.ref s.heap.objs.size) "dict":=⟨_,QY _ rfl,rfl⟩
 refine ⟨ty,F.args_dict_init_2 _ _,?_⟩
 unfold Builtin.«dict.__init__»
 refine Qh ?_
 unfold a0B
 refine Qh (VY ty ?_)
 show QV _ _ (pure (s.heap.objs.size,[QL t])) _ _ _
 refine Qt ?_
 show QV _ _ (Wr "dict.__init__" s.heap.objs.size (.ref t) [] .none) _ _ _
 unfold Wr
 have mono:∀ {b:Addr}{vs:List V},SqT X.K H b vs->SqT X.K (aH H s.heap.objs.size (aP s.heap.objs.size [])) b vs:=fun {b vs} z=>by
  have ne:H b≠none->b≠s.heap.objs.size:=fun f y=>by rw [y] at f;exact f hn
  rcases z with (z|⟨ob,z⟩)|z
  ·exact .inl (.inl (by rw [a8 (ne (by rw [z];exact fun y=>nomatch y))];exact z))
  ·exact .inl (.inr ⟨ob,by rw [a8 (ne (by rw [z];exact fun y=>nomatch y))];exact z⟩)
  ·exact .inr z
 obtain ⟨its,rv,ob,g1,g2,n,g3,g4⟩:=I0.tupN (mono hq)
 refine Qh (Yr ⟨ob,g1,g2⟩ ?_)
 rw [if_pos (by decide)]
 refine Qh (L9 g1 g2 g3 g4 (I.ok.hd hc) fun h' tk kp=>?_)
 have I1:Inv X a0V σ (aH H s.heap.objs.size (aP s.heap.objs.size [])) { s with heap:=h',toks:=tk }:=I0.kept (t':=tk) kp
 show QV _ _ (rule _ >>= _) _ _ _
 refine Qh (Up ?_)
 obtain ⟨its',rv',p',hz'⟩:=I1.tuple (mono hq)
 refine Qh (Zo (t:=t) (items:=its'.toArray) (show ({ s with heap:=h',toks:=tk }:Qj).heap.IsTuple t its'.toArray from p') ?_)
 have I2:=I1.kept (t':=tk) (h':=h'.push { cls:=.type "tuple_iterator",data:=.fields #[.ref t,.int 0 0] }) fun b o e=>Qo _ e
 refine Qt ⟨U0 qZ _,?_⟩
 refine Md (A:=X.A.in1) (I.ok.hd hc) ?_ L 0 [] _ _ I2 cE (fun p hp=>nomatch hp) (mono hq) rfl (fun r hr'=>⟨mono (hr r hr').1,mono (hr r hr').2⟩) (I1.fpOk (Qq _) (I1.hok.fresh (Qq _))) ⟨_,QY _ rfl,rfl,rfl⟩ ?_ fun s' I'=>?_
 ·show X.A.units+1+1<Sf
  omega
 ·have:=hz'
  simp at this ⊢
  exact this
 ·rw [Cw] at I'
  exact ⟨rfl,.ref s.heap.objs.size,_,I',rfl,k _ hn⟩
end
noncomputable def mW:List D->Option (List (List Int×D))
 | []=>some []
 | .tup [x,v]::r=>(cL x).bind fun k=>(mW r).map fun l=>(k,v)::l
 | _::_=>none
noncomputable def k6:MF:=fun ds μ=>match ds with
 | [.tup xs]=>(mW xs).map fun l=>(.loc μ.length,μ++[.dT (l.foldl (fun q p=>dG q p.1 p.2) [])])
 | _=>none
section
variable {K:Qf}{π:Nat->Addr}{n:Nat}{H:Hp}
noncomputable abbrev Cz (K:Qf)(π:Nat->Addr)(n:Nat)(H:Hp):List (Addr×List Int×Addr×V)->List (List Int×D)->Prop:=
 Ur fun r p=>r.2.1=p.1/\SqT K H r.1 [.ref r.2.2.1,r.2.2.2]/\SqT K H r.2.2.1 (r.2.1.map V.int)/\IsD K π n H r.2.2.2 p.2
theorem CA:∀ {xs:List D}{ws:List V}{l:List (List Int×D)},IsDs K π n H ws xs->mW xs=some l->∃ L,ws=L.map (fun r=>V.ref r.1)/\Cz K π n H L l
 | [],_,_,.nil,h=>by cases h;exact ⟨[],rfl,.nil⟩
 | x::xs,_,l,.cons i t,h=>by
  unfold mW at h
  split at h
  ·rename_i heq;cases heq
  ·rename_i y v r heq
   cases heq
   obtain ⟨k,hk,h⟩:=Qe.mp h
   obtain ⟨l',hl,rfl⟩:=Qk.mp h
   obtain ⟨L,rfl,P⟩:=CA t hl
   cases i with
   | tup q z=>
    cases z with
    | cons z1 z=>
     cases z with
     | cons z2 z=>
      cases z
      obtain ⟨b,rfl,hb⟩:=jI z1 hk
      exact ⟨(_,k,b,_)::L,rfl,.cons ⟨rfl,q,hb,z2⟩ P⟩
  ·cases h
theorem CB:∀ {L:List (Addr×List Int×Addr×V)}{l:List (List Int×D)},Cz K π n H L l->∀ {ps:bE}{kvs:List (List Int×D)},IsTs K π n H ps kvs->IsTs K π n H (k5 ps L) (l.foldl (fun q p=>dG q p.1 p.2) kvs)
 | _,_,.nil,_,_,h=>h
 | r::L,p::l,.cons e t,ps,kvs,h=>by
  obtain ⟨e1,_,e3,e4⟩:=e
  show IsTs K π n H (k5 (dE ps r.2.1 r.2.2.1 r.2.2.2) L) (l.foldl _ (dG kvs p.1 p.2))
  rw [<- e1]
  exact CB t (h.put r.2.1 e3 e4)
end
theorem Mf {K:Qf}:dO K k6 (Cy K):=by
 intro π H μ xs d μ' vs Q R i hm k
 unfold k6 at hm
 split at hm
 ·rename_i xs
  obtain ⟨l,h1,h2⟩:=Qk.mp hm
  cases h2
  cases i with
  | cons i t=>
   cases t
   cases i with
   | tup q z=>
    obtain ⟨L,rfl,P⟩:=CA z h1
    refine ⟨_,L,rfl,q,?_,fun d hd=>?_⟩
    ·clear q z k hm h1
     induction P with
     | nil=>exact fun r hr=>nomatch hr
     | cons e t ih=>
      intro r hr
      rcases Q9.mp hr with rfl|hr
      ·exact ⟨e.2.1,e.2.2.1⟩
      ·exact ih r hr
    ·have T:=CB P (ps:=[]) (kvs:=[]) .nil
     obtain ⟨e1,R1,q1⟩:=R.alloc (c:=.dT (l.foldl (fun q p=>dG q p.1 p.2) [])) (o:=aP d (k5 [] L)) hd ⟨_,rfl,T.to.1,T.to.2.1,T.to.2.2⟩
     exact k _ _ _ e1 R1 iL
 ·cases hm
end L3
namespace L3
open PySem L2
noncomputable def ItI (h:RG)(it d S:Addr)(i n ep:Nat):Prop:=∃ (wn ok ov:Qg)(fl:Bool),h.get? it=some { cls:=.type "dict_itemiterator",dict:=none,data:=.fields #[wn,.bool fl,.ref d,.int i 0,.int n 0,.int ep 0,ok,ov],slots:=#[] } /\
 (wn=.none\/∃ (a:Addr)(o:SD),wn=Uq a/\h.get? a=some o/\a≠it/\a≠S)
theorem ItI.ty {s:Qj}{it d S:Addr} {i n ep} (j:ItI s.heap it d S i n ep):s.TypeIs (.ref it) "dict_itemiterator":=let ⟨_,_,_,_,e,_⟩:=j;⟨_,e,rfl⟩
theorem ItI.stay {h h':RG}{it d S:Addr} {i n ep} (j:ItI h it d S i n ep)(hI:it≠S)(k:∀ b o,b≠S->h.get? b=some o->h'.get? b=some o):ItI h' it d S i n ep:=by
 obtain ⟨wn,ok,ov,fl,e,r⟩:=j
 refine ⟨wn,ok,ov,fl,k _ _ hI e,?_⟩
 rcases r with r|⟨a,o,r1,r2,r3,r4⟩
 ·exact .inl r
 ·exact .inr ⟨a,o,r1,k _ _ r4 r2,r3,r4⟩
section
variable {P:QR}{w:Rg}{A:Q0}{E:Qg->Qj->Prop}{s:Qj}{d it S:Addr}{i ep:Nat}{es:Array Se}
theorem CC {Q:Option Qg->Qj->Prop}(hh:A.handled=none)(j:ItI s.heap it d S i es.size ep)(g:RawD s.heap d es ep)(hS:S<s.heap.objs.size)
  (q1:∀ e h',es[i]? = some e->ItI h' it d S (i+1) es.size ep->h'.get? s.heap.objs.size=some { cls:=.type "tuple",data:=.seq #[e.key,e.val] }->h'.objs.size=s.heap.objs.size+1->(∀ b o,b≠it->s.heap.get? b=some o->h'.get? b=some o)->Q (some (.ref s.heap.objs.size)) { s with heap:=h' })
  (q2:es[i]? = none->∀ h',WC it s.heap h'->Q none { s with heap:=h' }):QV (QX P w) A (Vu (.ref it)) Q E s:=by
 obtain ⟨z,g1,g2,g3⟩:=id g
 have ty:=j.ty
 obtain ⟨hp,gs,dr,tk,os⟩:=s
 obtain ⟨wn,ok,ov,fl,je,jr⟩:=j
 have nm:∀ {Q:String->Qj->Prop}{A:Q0}{E:Qg->Qj->Prop},Q "dict_itemiterator" ⟨hp,gs,dr,tk,os⟩->QV (QX P w) A (a0b (.ref it)) Q E ⟨hp,gs,dr,tk,os⟩:=fun q=>wpAny_typeNameOfWhole_itemiter ty q
 unfold Vu
 refine Qh (X2 (Yg (name:=Vv "__next__") ty F.slot_dict_itemiterator_next (SS F.slot_dict_itemiterator_next ty F.entry_dict_itemiterator_next ?_ (F.args_dict_itemiterator_next_1 _))))
 refine Qh (Qt (Qh (Qh (Qh (nm (Qt (Qh (a0H je rfl ?_))))))))
 simp only [show T6 "dict_itemiterator" = true by decide,if_true]
 show QV _ _ (if (QL d == RU)=true then _ else _) _ _ _
 rw [if_neg (show ¬ (QL d == RU)=true from fun x=>RB x)]
 refine Qh (Qt (Qh (UC g1 g3 ?_)))
 rw [if_neg (fun x=>by simp at x)]
 refine Qh (Qt (Qh (VT g1 g3 ?_)))
 rw [if_neg (fun x=>by simp at x)]
 refine Qt ?_
 simp only [if_neg (show ¬ ((i:Int)<0) by omega),TR]
 have hil:it<hp.objs.size:=QD je
 cases he:es[i]? with
 | some e=>
  refine Qh (Qh (nm (Qt (Qh (VP ty ?_)))))
  show QV _ _ (Y5 (.ref it) 3 (Uq ((i:Int)+1)) >>= _) _ _ _
  refine Qh (TK je (by simp) fun u ue us=>?_)
  replace us:Um it hp u:=us
  replace ue:u.get? it=some { cls:=.type "dict_itemiterator",dict:=none,data:=.fields #[wn,.bool fl,.ref d,.int ((i+1:Nat):Int) 0,.int es.size 0,.int ep 0,ok,ov],slots:=#[] }:=by
   rw [show ((i+1:Nat):Int)=(i:Int)+1 by omega]
   simpa [Uq] using ue
  have ty1:Shared.TypeIs ⟨u,gs,dr,tk,os⟩ (.ref it) "dict_itemiterator":=⟨_,ue,rfl⟩
  refine Qh (RH (Qh (VP ty1 (Qh (VP ty1 ?_)))))
  show QV _ _ (Vh (.ref it) 6 e.key e.val) _ _ _
  unfold Vh
  refine Qh (Xw ?_)
  have zu:u.objs.size=hp.objs.size:=us.1
  have v1:=Qo { cls:=.type "tuple",data:=.seq #[e.key,e.val] } ue
  have vt:(u.push { cls:=.type "tuple",data:=.seq #[e.key,e.val] }).get? hp.objs.size=some { cls:=.type "tuple",data:=.seq #[e.key,e.val] }:=zu ▸ QY u rfl
  have vz:(u.push { cls:=.type "tuple",data:=.seq #[e.key,e.val] }).objs.size=hp.objs.size+1:=by rw [W6,zu]
  have vk:∀ b o,b≠it->hp.get? b=some o->(u.push { cls:=.type "tuple",data:=.seq #[e.key,e.val] }).get? b=some o:=fun b o hb x=>Qo _ (us.extBut b o hb x)
  show QV _ _ (U9 (.ref it) >>= _) _ _ ⟨u.push { cls:=.type "tuple",data:=.seq #[e.key,e.val] },gs,dr,tk,os⟩
  rw [zu]
  generalize u.push { cls:=.type "tuple",data:=.seq #[e.key,e.val] } = v at v1 vt vz vk
  have nit:hp.objs.size≠it:=SQ hil
  have fin:∀ v':RG,ItI v' it d S (i+1) es.size ep->Um it v v'->Q (some (.ref hp.objs.size)) ⟨v',gs,dr,tk,os⟩:=fun v' j' sb=>
   q1 e v' he j' (sb.extBut _ _ nit vt) (by show v'.objs.size=_;rw [sb.1,vz]) fun b o hb x=>sb.extBut b o hb (vk b o hb x)
  refine Qh ?_
  unfold U9
  rcases jr with rfl|⟨a,o,rfl,r2,r3,r4⟩
  ·refine Qh (Vr v1 rfl (x:=.none) rfl (Qt ?_))
   simp only [if_true]
   refine Qh (Vr v1 rfl (x:=ok) rfl (Qh (Vr v1 rfl (x:=ov) rfl ?_)))
   refine Qh (TK v1 (by simp) fun v3 x3 y3=>Qh (TK x3 (by simp) fun v4 x4 y4=>Qh (TK x4 (by simp) fun v5 x5 y5=>Qh (TK x5 (by simp) fun v6 x6 y6=>?_))))
   refine Qh (wpAny_letGo (Qt (Qt ⟨_,rfl,Qt (fin v6 ?_ ?_)⟩)))
   ·refine ⟨Uq hp.objs.size,e.key,e.val,false,by simpa using x6,.inr ⟨hp.objs.size,_,rfl,y6.extBut _ _ nit (y5.extBut _ _ nit (y4.extBut _ _ nit (y3.extBut _ _ nit vt))),nit,SQ hS⟩⟩
   ·exact ((y3.trans y4).trans y5).trans y6
  ·refine Qh (Vr v1 rfl (x:=Uq a) rfl ?_)
   show QV _ _ (loadIfAlive ((a:Int).toNat) >>= _) _ _ _
   rw [TR]
   refine Qh (PySem.W.kdx_alive (vk a o r3 r2) ?_)
   simp only [Option.isNone_some,Qp,if_false]
   refine Qh (Vr v1 rfl (x:=.bool fl) rfl ?_)
   cases fl with
   | true=>
    rw [if_neg (show ¬ ((Uy true != Uy true)=true) from fun x=>RB x)]
    refine Qt ?_
    simp only [Qp,if_false]
    exact Qt (Qt ⟨_,rfl,Qt (fin v ⟨_,ok,ov,true,v1,.inr ⟨a,o,rfl,vk a o r3 r2,r3,r4⟩⟩ (Xe _ _))⟩)
   | false=>
    rw [if_pos (show (Uy false != Uy true)=true from rfl)]
    refine Qh (TK v1 (by simp) fun v3 x3 y3=>Qt ?_)
    simp only [Qp,if_false]
    exact Qt (Qt ⟨_,rfl,Qt (fin v3 ⟨_,ok,ov,true,by simpa using x3,.inr ⟨a,o,rfl,y3.extBut a o r3 (vk a o r3 r2),r3,r4⟩⟩ y3)⟩)
 | none=>
  refine Qh (Qh (nm (Qt ?_)))
  show QV _ _ (Y5 (.ref it) 2 .none >>= _) _ _ _
  refine Qh (Xv je rfl (by simp) ?_)
  show QV _ _ (a0M (.type "StopIteration") [] >>= _) _ _ _
  simp only [a0M,newTuple]
  refine Qh (Qh (SM ?_ (by size_fits)))
  refine Qh (m:=V9 _ _) (wpAny_of_eq (a:=RU) (by first|rfl|(simp only [V9];rfl)) (SM ?_ (by size_fits)))
  simp only [raiseNew]
  refine Qh (wpAny_handled ?_)
  rw [show A.in1.handled=none from hh]
  refine Qh (Qt (wpAny_throw ?thrown))
  case thrown=>exact Qh (ZU (T:="StopIteration") (b:=true) ⟨_,QY _ rfl,rfl⟩ a0P (Qt (q2 he _ (((Vp ..).extBut.push _).push _))))
theorem Mg {r:Addr}{Q:Qg->Qj->Prop}(hv:s.heap.IsItemsView r d)(g:RawD s.heap d es ep)
  (q:Q (.ref s.heap.objs.size) { s with heap:=s.heap.push { cls:=.type "dict_itemiterator",data:=.fields #[.none,.bool false,.ref d,.int 0 0,.int es.size 0,.int ep 0,.none,.none] } }):QV (QX P w) A (XB (.ref r)) Q E s:=by
 obtain ⟨y,v1,v2,v3⟩:=id hv
 obtain ⟨z,g1,g2,g3⟩:=id g
 refine ZH hv.typeIs F.slot_dict_items_iter (SS F.slot_dict_items_iter hv.typeIs F.entry_dict_items_iter ?_ (F.args_dict_items_iter_1 _))
 unfold Builtin.«dict_items.__iter__» Y4 Y3
 refine Qh (Qt (Qh (Qh (Vr v1 v3 (x:=.ref d) rfl (Qt (Qh (Qh (UC g1 g3 (Qh (VT g1 g3 ?_))))))))))
 simp only [show T6 "dict_itemiterator" = true by decide,if_true]
 refine SM (Qt ⟨_,rfl,"dict_itemiterator",_,⟨_,QY _ rfl,rfl⟩,F.slot_dict_itemiterator_next.lookup,?_⟩) (by simp only [sizeOk,Va,Qn,Qx,QU,SY];rw [Ro];omega)
 simpa [Uq,Va] using q
end
structure PrsAt (es:Array Se)(lo:Addr)(h:RG)(as:List Addr):Prop where
 up:as.Pairwise (·<·)
 over:∀ a∈as,lo<a
 prs:∀ (j:Nat)(a:Addr),as[j]? = some a->∃ e,es[j]? = some e/\h.get? a=some { cls:=.type "tuple",data:=.seq #[e.key,e.val] }
theorem PrsAt.stay {es:Array Se}{lo:Addr}{h h':RG}{as:List Addr}(p:PrsAt es lo h as)(k:∀ b o,lo<b->h.get? b=some o->h'.get? b=some o):PrsAt es lo h' as:=
 ⟨p.up,p.over,fun j a hj=>let ⟨e,e1,e2⟩:=p.prs j a hj;⟨e,e1,k a _ (p.over a (Q2 hj)) e2⟩⟩
theorem PrsAt.lt {es:Array Se}{lo:Addr}{h:RG}{as:List Addr}(p:PrsAt es lo h as){a:Addr}(ha:a∈as):a<h.objs.size:=by
 obtain ⟨j,hj⟩:=TH.mp ha
 obtain ⟨_,_,e⟩:=p.prs j a hj
 exact QD e
theorem PrsAt.snoc {es:Array Se}{lo:Addr}{h:RG}{as:List Addr}{b:Addr}{e:Se}(p:PrsAt es lo h as)(hb:∀ a∈as,a<b)(hl:lo<b)(he:es[as.length]? = some e)(ht:h.get? b=some { cls:=.type "tuple",data:=.seq #[e.key,e.val] }):PrsAt es lo h (as++[b]):=by
 refine ⟨Sh.mpr ⟨p.up,Xp _ _,fun a ha c hc=>by rw [RF.mp hc];exact hb a ha⟩,fun a ha=>?_,fun j a hj=>?_⟩
 ·rcases RE.mp ha with ha|ha
  ·exact p.over a ha
  ·rw [RF.mp ha];exact hl
 ·rcases TQ j as.length with h1|h1|h1
  ·rw [QC h1] at hj
   exact p.prs j a hj
  ·subst h1
   have:b=a:=by simpa using hj
   subst this
   exact ⟨e,he,ht⟩
  ·rw [RP (by simp;omega)] at hj
   cases hj
section
variable {P:QR}{w:Rg}{A:Q0}{s:Qj}{R:YE->Qj->Prop}{es:Array Se}{ep:Nat}{S I d:Addr}
theorem Mh (hh:A.handled=none)(hSI:S<I)(hSd:d≠S)(hId:d≠I)(hn:es.size<=Qs)(res:Qg){h1:RG}
  (hR:∀ (h':RG)(tk:Nat)(acc:Array Qg)(c:Nat)(as:List Addr),(∀ b o,b≠S->b≠I->h1.get? b=some o->h'.get? b=some o)->h'.get? S=some { cls:=.type "list",dict:=none,data:=.seq acc c,slots:=#[] }->as.length=es.size->PrsAt es I h' as->acc.toList=as.map QL->R (.ok (.ret res)) { s with heap:=h',toks:=tk }) :
  ∀ (k i:Nat)(h:RG)(tk c:Nat)(acc:Array Qg)(as:List Addr),es.size - i=k->i<=es.size->ItI h I d S i es.size ep->RawD h d es ep->(∀ b o,b≠S->b≠I->h1.get? b=some o->h.get? b=some o)->h.get? S=some { cls:=.type "list",dict:=none,data:=.seq acc c,slots:=#[] }->
   acc.toList=as.map QL->as.length=i->PrsAt es I h as->I<h.objs.size->Vs (QX P w) A (.builtin "list.extend.loop" ⟨[.ref S,.ref I,res],[]⟩) R { s with heap:=h,toks:=tk }:=by
 have ne:S≠I:=Q7 hSI
 intro k
 induction k with
 | zero=>
  intro i h tk c acc as hk hi j g kp gS ha al pr lt
  refine Ui F.entry_extend_loop ?_
  rw [Tg F.plain_extend_loop _]
  refine Qh (m:=Vu (.ref I)) (CC (s:={ s with heap:=h,toks:=tk }) (A:=A.in1) hh j g (QD gS) (fun e h' he=>?_) fun _ h' x=>Qt (hR h' tk acc c as (fun b o b1 b2 z=>x b o b2 (kp b o b1 b2 z)) (x S _ ne gS) (by omega) (pr.stay fun b o hb z=>x b o (SQ hb) z) ha))
  rw [Array.getElem?_eq_none (by omega)] at he
  cases he
 | succ k ih=>
  intro i h tk c acc as hk hi j g kp gS ha al pr lt
  have sz:acc.size=i:=by rw [<- UW,ha,Qm,al]
  refine Ui F.entry_extend_loop ?_
  rw [Tg F.plain_extend_loop _]
  refine Qh (m:=Vu (.ref I)) (CC (s:={ s with heap:=h,toks:=tk }) (A:=A.in1) hh j g (QD gS) (fun e h' he j' ht hz hk'=>?_) fun he=>?_)
  ·dsimp only at ht hz hk' ⊢
   have gS':=hk' S _ ne gS
   have Sl:S<h.objs.size:=QD gS
   have up:∀ b o,b≠S->h'.get? b=some o->(h'.update S (RL (·.push (QL h.objs.size)))).get? b=some o:=fun b o hb z=>(Sm _ _ (Sn hb)).trans z
   refine Qh (m:=updateSeq S (·.push (QL h.objs.size))) (Xl gS' rfl (Qt ⟨U0 F.plain_extend_loop _,?_⟩) (by rw [sz];omega) (by show (acc.push (QL h.objs.size)).size<=Qs+1;rw [Array.size_push,sz];omega))
   refine ih (i+1) _ tk _ (acc.push (QL h.objs.size)) (as++[h.objs.size]) (by omega) (by omega) (j'.stay (Sn ne) up) (g.stay fun o z=>up d o hSd (hk' d o hId z)) (fun b o b1 b2 z=>up b o b1 (hk' b o b2 (kp b o b1 b2 z))) (TJ _ gS' rfl) (by rw [So,ha,Sj];rfl) (by rw [Qx,al];rfl) ?_ ?_
   ·exact ((pr.stay fun b o hb z=>up b o (SQ (Ut hSI hb)) (hk' b o (SQ hb) z))).snoc (fun a ha'=>pr.lt ha') lt (by rw [al];exact he) (up _ _ (SQ Sl) ht)
   ·exact Ut lt (QD (up _ _ (SQ Sl) ht))
  ·rw [W8 (by omega)] at he
   cases he
theorem Mi {r:Addr}{res:Qg}{c0:Nat}(hh:A.handled=none)(hv:s.heap.IsItemsView r d)(g:RawD s.heap d es ep)(Sr:S≠r)(Sd:d≠S)(gS:s.heap.get? S=some { cls:=.type "list",data:=.seq #[] c0 }) (hn:es.size<=Qs)
  (hR:∀ (h':RG)(tk:Nat)(acc:Array Qg)(c:Nat)(as:List Addr),(∀ b o,b≠S->s.heap.get? b=some o->h'.get? b=some o)->h'.get? S=some { cls:=.type "list",dict:=none,data:=.seq acc c,slots:=#[] }->as.length=es.size->PrsAt es s.heap.objs.size h' as->acc.toList=as.map QL->R (.ok (.ret res)) { s with heap:=h',toks:=tk }) :
  QV (QX P w) A.in1 (V4 (.ref S) (.ref r) res) (fun fin s'=>match fin with|.done f=>R (.ok f) s'|.again c'=>c'.quiet=true/\Vs (QX P w) A c' R s') (fun e s'=>R (.error e) s') s:=by
 have SI:S<s.heap.objs.size:=QD gS
 have dI:d<s.heap.objs.size:=g.lt
 have run:∀ (h:RG)(c1 tk:Nat),(∀ b o,b≠S->(s.heap.push { cls:=.type "dict_itemiterator",data:=.fields #[.none,.bool false,.ref d,.int 0 0,.int es.size 0,.int ep 0,.none,.none] }).get? b=some o->h.get? b=some o)->h.get? S=some { cls:=.type "list",data:=.seq #[] c1 }->
   Vs (QX P w) A (.builtin "list.extend.loop" ⟨[.ref S,.ref s.heap.objs.size,res],[]⟩) R { s with heap:=h,toks:=tk }:=by
  intro h c1 tk kp gS1
  have gI:=kp s.heap.objs.size _ (SQ SI) (QY _ rfl)
  exact Mh (s:=s) (h1:=s.heap) (ep:=ep) hh SI Sd (Q7 dI) hn res (fun h' tk' acc c as k' z1 z2 z3 z4=>hR h' tk' acc c as (fun b o hb e=>k' b o hb (Q7 (QD e)) e) z1 z2 z3 z4) es.size 0 h tk c1 #[] [] (XG _) (RV _)
   ⟨.none,.none,.none,false,gI,.inl rfl⟩ (g.stay fun o e=>kp d o Sd (Qo _ e)) (fun b o hb _ e=>kp b o hb (Qo _ e)) gS1 rfl rfl ⟨VA,fun _ ha=>(by cases ha),fun j a hj=>(by simp at hj)⟩ (QD gI)
 unfold V4
 refine Qh (Yr (T:="dict_items") hv.typeIs ?_)
 simp only [show Wh (.ref S) (.ref r)=false by simp [Wh,Sr],show (TU "dict_items" == TU "list")=false by decide,show (TU "dict_items" == TU "tuple")=false by decide,ZE,Qp,if_false]
 refine Qh (Mg hv g ?_)
 have gS1:=Qo { cls:=.type "dict_itemiterator",data:=.fields #[.none,.bool false,.ref d,.int 0 0,.int es.size 0,.int ep 0,.none,.none] } gS
 refine Qh (RH (PySem.W.kdx_hint (let ⟨o,ho,hc,_⟩:=hv;⟨o,Qo _ ho,hc⟩) ?_))
 refine wpAny_ite_split (fun _=>?_) (fun _=>Qt ⟨U0 F.plain_extend_loop _,run _ c0 _ (fun b o _ e=>e) gS1⟩)
 refine Qh (Up (Qh ?_))
 refine Qh (m:=updateSeq S (·.push .none)) (Xl gS1 rfl ?_)
 have gS2:=TJ (RL (·.push RU)) gS1 rfl
 refine Xl (hz:=by seq_fits) gS2 rfl (Qt ⟨U0 F.plain_extend_loop _,run _ _ _ (fun b o hb e=>?_) (TJ (RL (·.pop)) gS2 rfl)⟩)
 exact (Sm _ _ (Sn hb)).trans ((Sm _ _ (Sn hb)).trans e)
theorem Mj {r:Addr}{E:Qg->Qj->Prop}{T:List Qg->Qj->Prop}(hh:A.handled=none)(hv:s.heap.IsItemsView r d)(g:RawD s.heap d es ep)(hn:es.size<=Qs)
  (q:∀ (h':RG)(tk:Nat)(as:List Addr),(∀ b o,s.heap.get? b=some o->h'.get? b=some o)->as.length=es.size->PrsAt es s.heap.objs.size h' as->s.heap.objs.size<=h'.objs.size->T (as.map QL) { s with heap:=h',toks:=tk }):QV (QX P w) A (collect (.ref r)) T E s:=by
 have rl:r<s.heap.objs.size:=let ⟨_,ho,_⟩:=hv;QD ho
 unfold collect
 refine Qh (wpAny_runValue (Ui a0q ?_))
 rw [Tg F.plain_proto_collect _]
 refine Qh (m:=newList []) (SM (Qt ⟨U0 F.plain_list_iadd _,Ui a0r ?_⟩))
 rw [Tg F.plain_list_iadd _]
 have gS:(s.heap.push { cls:=.type "list",data:=.seq ([]:List Qg).toArray }).get? s.heap.objs.size=some { cls:=.type "list",data:=.seq #[] }:=QY _ rfl
 have all:=Mi (A:=A) (s:={ s with heap:=s.heap.push { cls:=.type "list",data:=.seq ([]:List Qg).toArray } }) (P:=P) (w:=w) (es:=es) (ep:=ep) (res:=.ref s.heap.objs.size) (c0:=0)
  (R:=fun (q:YE)(s':Qj)=>∃ (h':RG)(tk:Nat)(acc:Array Qg)(c:Nat)(as:List Addr),q=.ok (.ret (.ref s.heap.objs.size))/\s' = { s with heap:=h',toks:=tk }/\(∀ b o,s.heap.get? b=some o->h'.get? b=some o)/\h'.get? s.heap.objs.size=some { cls:=.type "list",dict:=none,data:=.seq acc c,slots:=#[] }/\as.length=es.size/\PrsAt es s.heap.objs.size h' as/\acc.toList=as.map QL)
  hh (let ⟨o,ho,x⟩:=hv;⟨o,Qo _ ho,x⟩) (g.stay fun o e=>Qo _ e) (SQ rl) (Q7 g.lt) gS hn
  (fun h' tk acc c as z0 z1 z2 z3 z4=>⟨h',tk,acc,c,as,rfl,rfl,fun b o e=>z0 b o (Q7 (QD e)) (Qo _ e),z1,z2,⟨z3.up,fun a ha=>Ut (Wz _) (by have:=z3.over a ha;rw [W6] at this;exact this),z3.prs⟩,z4⟩)
 refine Rv all (fun fin s' x=>?_) fun e s' x=>?_
 ·cases fin with
  | done f=>
   obtain ⟨h',tk,acc,c,as,e,rfl,z0,z1,z2,z3,z4⟩:=x
   cases e
   refine Qh (m:=load s.heap.objs.size) (XA z1 (Qt ?_))
   show T acc.toList _
   rw [z4]
   exact q h' tk as z0 z2 z3 (Uu (QD z1))
  | again c1=>
   refine ⟨x.1,WQ x.2 fun y s2 x=>?_⟩
   obtain ⟨h',tk,acc,c,as,rfl,rfl,z0,z1,z2,z3,z4⟩:=x
   refine Qh (m:=load s.heap.objs.size) (XA z1 (Qt ?_))
   show T acc.toList _
   rw [z4]
   exact q h' tk as z0 z2 z3 (Uu (QD z1))
 ·obtain ⟨_,_,_,_,_,e',_⟩:=x
  cases e'
end
end L3
namespace L3
open PySem L2 PySem.W PyProof.Rows
section
variable {P:QR}{w:Rg}{A:Q0}{E:Qg->Qj->Prop}{s:Qj}
theorem CD {v:Qg}{Q:Bool->Qj->Prop}(q:Q true s):QV (QX P w) A (eqBool v v) Q E s:=by
 unfold eqBool
 refine RH ?_
 rw [if_pos (by simp)]
 exact Qh (Up (Qt q))
theorem vV:∀ k:List Int,HT.lexLt k k=false
 | []=>rfl
 | a::k=>by simp [HT.lexLt,vV k]
noncomputable def jJ (P:QR)(w:Rg)(h:RG)(b:Addr)(k:List Int):Prop:=Tb.IsT P w h k b/\∃ xs:List Qg,a0x h b xs.toArray/\Ul xs k
theorem Ml {a a' b b':Addr}{v v':Qg}{k k':List Int}{C:Bool->Qj->Prop}(hu:A.units<Sf)(ga:s.heap.get? a=some { cls:=.type "tuple",data:=.seq #[.ref b,v] }) (ga':s.heap.get? a'=some { cls:=.type "tuple",data:=.seq #[.ref b',v'] })
  (hb:jJ P w s.heap b k)(hb':jJ P w s.heap b' k')(hv:k=k'->v=v')(q:C (HT.lexLt k k') s):QV (QX P w) A (Zv (tuples' false) (.ref a) (.ref a')) C (fun _ _=>False) s:=by
 refine kat_lt ga rfl ga' rfl ?_
 refine Y9 ((Tq (UG P w)).eqBool hu hb.1 hb'.1 ?_)
 by_cases e:k=k'
 ·obtain rfl:=hv e
  subst e
  rw [decide_eq_true rfl]
  refine ZN (Y9 (CD (ZN (kat_nil ?_))))
  rw [vV] at q
  exact q
 ·rw [decide_eq_false e]
  obtain ⟨xs,t1,i1⟩:=hb.2
  obtain ⟨ys,t2,i2⟩:=hb'.2
  refine kat_no (kat_one _ _ (HT.lt_tupInts t1 t2 (by simpa using i1) (by simpa using i2) hu ?_))
  exact q
noncomputable def jK (P:QR)(w:Rg)(A:Q0)(us:List Qg)(an:Nat->Nat->Bool)(s:Qj):Prop:=
 QV (QX P w) A (keyKind' us.toArray) (fun κ s'=>s'=s/\∀ (i j:Nat)(C:Bool->Qj->Prop),i<us.length->j<us.length->C (an i j) s->QV (QX P w) A (Zv κ (us.getD i .none) (us.getD j .none)) C (fun _ _=>False) s) (fun _ _=>False) s
theorem Mm {es:Array Se}{lo:Addr}{as bs:List Addr}{ks:List (List Int)}(hu:A.units<Sf)(p:PrsAt es lo s.heap as)(h0:0<as.length)(hl:as.length=es.size)(hk:ks.length=es.size)(hbl:bs.length=es.size)(key:∀ (j:Nat)(e:Se),es[j]? = some e->e.key=.ref (bs.getD j 0)/\jJ P w s.heap (bs.getD j 0) (ks.getD j []))
  (nd:ks.Nodup):jK P w A (as.map QL) (fun i j=>HT.lexLt (ks.getD i []) (ks.getD j [])) s:=by
 have at_:∀ i,i<as.length->∃ (e:Se),es[i]? = some e/\s.heap.get? (as.getD i 0)=some { cls:=.type "tuple",data:=.seq #[.ref (bs.getD i 0),e.val] }/\jJ P w s.heap (bs.getD i 0) (ks.getD i []):=fun i hi=>by
  have ea:as[i]? = some (as.getD i 0):=by simp [RC,hi]
  obtain ⟨e,e1,e2⟩:=p.prs i _ ea
  obtain ⟨k1,k2⟩:=key i e e1
  rw [k1] at e2
  exact ⟨e,e1,e2,k2⟩
 unfold jK
 have tups:KatTups s.heap (as.map QL) (bs.map QL):=by
  have go:∀ (n:Nat)(as' bs':List Addr),as'.length=n->bs'.length=n->(∀ i,i<n->∃ v:Qg,s.heap.get? (as'.getD i 0)=some { cls:=.type "tuple",data:=.seq #[.ref (bs'.getD i 0),v] })->KatTups s.heap (as'.map QL) (bs'.map QL):=by
   intro n
   induction n with
   | zero=>
    intro as' bs' h1 h2 _
    rw [Sz.mp h1,Sz.mp h2]
    exact .nil
   | succ n ih=>
    intro as' bs' h1 h2 h3
    match as',bs',h1,h2 with
    | x::as',y::bs',h1,h2=>
     obtain ⟨v,hv⟩:=h3 0 (by omega)
     refine .cons hv rfl rfl (by simp) (ih as' bs' (by simpa using h1) (by simpa using h2) fun i hi=>?_)
     have:=h3 (i+1) (by omega)
     simpa using this
  refine go as.length as bs rfl (by omega) fun i hi=>?_
  obtain ⟨e,_,e2,_⟩:=at_ i hi
  exact ⟨_,e2⟩
 refine kat_kind (T:=.type "tuple") tups (by rw [Qm];omega) (fun v hv=>?_) (by decide) ⟨rfl,fun i j C hi hj hC=>?_⟩
 ·obtain ⟨b,hb,rfl⟩:=Q4.mp hv
  obtain ⟨i,hi⟩:=TH.mp hb
  have hi':i<as.length:=by
   have:=(Qi.mp hi).1
   omega
  obtain ⟨e,_,_,k2⟩:=at_ i hi'
  have:bs.getD i 0=b:=by simp [RC,hi]
  rw [this] at k2
  obtain ⟨xs,⟨o,o1,o2,_⟩,_⟩:=k2.2
  exact kitAt_ty _ _ ⟨o,o1,o2⟩
 ·rw [Qm] at hi hj
  obtain ⟨e,e1,e2,e3⟩:=at_ i hi
  obtain ⟨e',f1,f2,f3⟩:=at_ j hj
  have gi:(as.map QL).getD i .none=.ref (as.getD i 0):=by simp [RC,hi]
  have gj:(as.map QL).getD j .none=.ref (as.getD j 0):=by simp [RC,hj]
  rw [gi,gj]
  refine Ml hu e2 f2 e3 f3 (fun z=>?_) hC
  have hij:i=j:=by
   have h1:ks.getD i []=ks[i]:=by simp [RC,show i<ks.length by omega]
   have h2:ks.getD j []=ks[j]:=by simp [RC,show j<ks.length by omega]
   rw [h1,h2] at z
   rcases TQ i j with h|h|h
   ·exact absurd z ((Q5.mp nd) i j (by omega) (by omega) h)
   ·exact h
   ·exact absurd z.symm ((Q5.mp nd) j i (by omega) (by omega) h)
  subst hij
  rw [e1] at f1
  cases f1
  rfl
end
end L3
namespace L3
open PySem L2 PySem.W PyProof.Rows
section
variable {P:QR}{w:Rg}{A:Q0}{E:Qg->Qj->Prop}{s:Qj}
end
end L3
namespace L3
open PySem L2 PySem.W PyProof.Rows
section
variable {P:QR}{w:Rg}{A:Q0}{E:Qg->Qj->Prop}{s:Qj}
open Classical in
noncomputable def dZ (us:List Qg)(v:Qg):Nat:=if h:∃ i,us[i]? = some v then h.choose else 0
theorem q8 {us:List Qg}(nd:us.Nodup){i:Nat}{v:Qg}(h:us[i]? = some v):dZ us v=i:=by
 unfold dZ
 have hx:∃ i,us[i]? = some v:=⟨i,h⟩
 rw [dif_pos hx]
 have h2:=hx.choose_spec
 obtain ⟨l1,e1⟩:=Qi.mp h
 obtain ⟨l2,e2⟩:=Qi.mp h2
 have:=Q5.mp nd
 rcases TQ i hx.choose with h'|h'|h'
 ·exact absurd (e1.trans e2.symm) (this _ _ l1 l2 h')
 ·exact h'.symm
 ·exact absurd (e2.trans e1.symm) (this _ _ l2 l1 h')
theorem CF {α:Type}{lt:α->α->Bool}(O:Ord1 lt)(d:α){ks:List α}{c:Addr}{us:List Qg}{z:Nat}{R:a0f->Qj->Prop}(hk:ks.length=us.length)(nk:ks.Nodup)(nu:us.Nodup)(h2:2<=us.length)(hz:us.length<=Qs)(g:s.heap.get? c=some (RZ "list" us.toArray z))
  (H:∀ h3:RG,(∀ b o,b≠c->s.heap.get? b=some o->h3.get? b=some o)->jK P w A us (fun i j=>lt (ks.getD i d) (ks.getD j d)) { s with heap:=h3 })
  (q:R (.done (.ret .none)) { s with heap:=Ww s.heap c us ((bT (fun i j=>lt (ks.getD i d) (ks.getD j d)) us.length).map fun i=>us.getD i RU).toArray }):QV (QX P w) A (Builtin.«list.sort» ⟨[.ref c],[]⟩) R E s:=by
 have km:∀ i,i<us.length->ks.getD i d∈ks:=fun i hi=>by
  rw [QZ,Ql (by omega)]
  exact S5 _
 have kn:∀ i j,i<us.length->j<us.length->i≠j->ks.getD i d≠ks.getD j d:=fun i j hi hj hij=>by
  rw [QZ,QZ,Ql (by omega),Ql (by omega)]
  have:=Q5.mp nk
  rcases Nat.lt_or_gt_of_ne hij with h|h
  ·exact this i j (by omega) (by omega) h
  ·exact (this j i (by omega) (by omega) h).symm
 have ix_:∀ v∈us,∃ i,i<us.length/\us[i]? = some v/\dZ us v=i:=fun v hv=>by
  obtain ⟨i,hi⟩:=TX hv
  exact ⟨i,(Qi.mp hi).1,hi,q8 nu hi⟩
 refine BP (rk:=fun v=>eQ lt ks (ks.getD (dZ us v) d)) ?_ h2 hz g (fun h3 kp=>?_) fun out o1 o2=>?_
 ·refine Q5.mpr fun i j hi hj hij=>?_
  rw [q8 nu (Ql hi),q8 nu (Ql hj)]
  exact qS O (km i hi) (km j hj) (kn i j hi hj (by omega))
 ·have a:=H h3 kp
  unfold jK at a
  unfold qP
  refine Rv a (fun κ s' hq=>?_) fun _ _ x=>x
  obtain ⟨e,hq⟩:=hq
  refine ⟨e,fun x y C hx hy hC=>?_⟩
  obtain ⟨i,li,gi,ei⟩:=ix_ x hx
  obtain ⟨j,lj,gj,ej⟩:=ix_ y hy
  dsimp only at hC
  rw [ei,ej,<- mN O (km i li) (km j lj)] at hC
  have:=hq i j C li lj hC
  have e1:us.getD i .none=x:=by rw [QZ,gi];rfl
  have e2:us.getD j .none=y:=by rw [QZ,gj];rfl
  rw [e1,e2] at this
  exact this
 ·have hix:∀ i∈bT (fun i j=>lt (ks.getD i d) (ks.getD j d)) us.length,i<us.length:=fun i hi=>Su.mp ((fJ _ _).mem_iff.mp hi)
  have hgd:∀ i,i<us.length->us[i]? = some (us.getD i .none):=fun i hi=>by
   rw [QZ,Ql hi];rfl
  have e:out=(bT (fun i j=>lt (ks.getD i d) (ks.getD j d)) us.length).map fun i=>us.getD i RU:=by
   have hm:∀ v∈out,v∈us:=fun v hv=>o1.mem_iff.mp hv
      -- the places of what came out
   have hplaces:out.map (dZ us)=bT (fun i j=>lt (ks.getD i d) (ks.getD j d)) us.length:=by
    have hperm:(out.map (dZ us)).Perm (RA us.length):=by
     refine (o1.map (dZ us)).trans ?_
     have:us.map (dZ us)=RA us.length:=by
      apply Ve
      intro i
      rw [Ra]
      by_cases hi:i<us.length
      ·rw [Ql hi,T4 hi]
       exact congrArg some (q8 nu (Ql hi))
      ·rw [RP (by omega),RP (by simp;omega)]
       rfl
     rw [this]
    have s1:(out.map (dZ us)).Pairwise fun i j=>lt (ks.getD i d) (ks.getD j d)=true:=by
     rw [RR]
     have nd:(out.map (dZ us)).Nodup:=hperm.nodup_iff.mpr YZ
     unfold V7 at nd
     rw [RR] at nd
     refine S6 (R:=fun x y=>eQ lt ks (ks.getD (dZ us x) d)<=eQ lt ks (ks.getD (dZ us y) d)/\dZ us x≠dZ us y) (fun {x y} hx hy h=>?_) (o2.and nd)
     obtain ⟨i,li,gi,ei⟩:=ix_ x (hm x hx)
     obtain ⟨j,lj,gj,ej⟩:=ix_ y (hm y hy)
     rw [ei,ej] at h ⊢
     rw [mN O (km i li) (km j lj),decide_eq_true_eq]
     have:=qS O (km i li) (km j lj) (kn i j li lj h.2)
     have:=h.1
     omega
    have s2:(bT (fun i j=>lt (ks.getD i d) (ks.getD j d)) us.length).Pairwise fun i j=>lt (ks.getD i d) (ks.getD j d)=true:=by
     have a:=B1 (lt:=lt) O.ir O.tr (fun a b c h=>by
      cases e:lt a c with
      | true=>exact .inl rfl
      | false=>
       cases e2:lt c b with
       | true=>exact .inr rfl
       | false=>
        cases e3:lt c a with
        | true=>rw [O.tr _ _ _ e3 h] at e2;cases e2
        | false=>rw [O.to _ _ e e3,e2] at h;cases h) d ks (n:=us.length) (by omega)
     have nd:(bT (fun i j=>lt (ks.getD i d) (ks.getD j d)) us.length).Nodup:=(fJ _ _).nodup_iff.mpr YZ
     refine S6 (R:=fun i j=>lt (ks.getD j d) (ks.getD i d)=false/\i≠j) (fun {i j} hi hj h=>?_) (a.and nd)
     cases e:lt (ks.getD i d) (ks.getD j d) with
     | true=>rfl
     | false=>exact absurd (O.to _ _ e h.1) (kn i j (hix i hi) (hix j hj) h.2)
    exact TZ (le:=fun i j=>lt (ks.getD i d) (ks.getD j d)=true) (fun i j _ _ h1 h2=>by
     have:=O.tr _ _ _ h1 h2
     rw [O.ir] at this;cases this) s1 s2 (hperm.trans (fJ _ _).symm)
   rw [<- hplaces,Rj]
   symm
   conv=>rhs;rw [<- Z2 out]
   refine R0 fun v hv=>?_
   obtain ⟨i,li,gi,ei⟩:=ix_ v (hm v hv)
   show us.getD (dZ us v) .none=v
   rw [ei,QZ,gi]
   rfl
  rw [e]
  exact q
end
end L3
namespace L3
open PySem L2 PySem.W PyProof.Rows
section
variable {P:QR}{w:Rg}{A:Q0}{E:Qg->Qj->Prop}{s:Qj}
theorem Mn {α:Type}{lt:α->α->Bool}(O:Ord1 lt)(d0:α){ks:List α}{an:Nat->Nat->Bool}(ean:an=fun i j=>lt (ks.getD i d0) (ks.getD j d0)){r d:Addr}{es:Array Se}{ep:Nat}{Q:Qg->Qj->Prop}(hk:ks.length=es.size)(nk:ks.Nodup)(hh:A.handled=none)(hv:s.heap.IsItemsView r d)(g:RawD s.heap d es ep)(h64:es.size<=Qs)
  (H:2<=es.size->∀ (h3:RG)(tk:Nat)(as:List Addr),(∀ b o,s.heap.get? b=some o->h3.get? b=some o)->as.length=es.size->PrsAt es s.heap.objs.size h3 as->jK P w A.in1.in1 (as.map QL) an { s with heap:=h3,toks:=tk })
  (q:∀ (h3:RG)(tk:Nat)(as:List Addr)(L e:Nat),(∀ b o,s.heap.get? b=some o->h3.get? b=some o)->as.length=es.size->PrsAt es s.heap.objs.size h3 as->s.heap.objs.size<=L->(∀ a∈as,a≠L)->h3.get? L=some (RZ "list" ((bT an es.size).map fun i=>QL (as.getD i 0)).toArray e)->Q (.ref L) { s with heap:=h3,toks:=tk }) :
  QV (QX P w) A (call (.builtin "sorted") [.ref r]) Q E s:=by
 refine U8 Y8 Yx Yz (YA _) ?_
 unfold V3
 refine Qh (m:=Zy "sorted" 1 1 _) (Qt (Qh (Mj (A:=A.in1) hh hv g (by omega) fun h' tk as kp al pr hlo=>?_)))
 have ul:(as.map QL).length=es.size:=by rw [Qm,al]
 refine Qh (Vt ?_ (by rw [ul];omega))
 have nu:(as.map QL).Nodup:=by
  unfold V7
  rw [RR]
  exact pr.up.imp fun h e=>by cases e;exact absurd h (TF _)
 subst ean
 have gL:(h'.push (RZ "list" (as.map QL).toArray 0)).get? h'.objs.size=some (RZ "list" (as.map QL).toArray 0):=QY _ rfl
 have fin:∀ out:List Qg,out=((bT (fun i j=>lt (ks.getD i d0) (ks.getD j d0)) es.size).map fun i=>QL (as.getD i 0))->Q (.ref h'.objs.size) { s with heap:=Ww (h'.push (RZ "list" (as.map QL).toArray 0)) h'.objs.size (as.map QL) out.toArray,toks:=tk }:=by
  rintro out rfl
  obtain ⟨e,he⟩:=sortedHeap_at (h:=h'.push (RZ "list" (as.map QL).toArray 0)) (out:=((bT (fun i j=>lt (ks.getD i d0) (ks.getD j d0)) es.size).map fun i=>QL (as.getD i 0)).toArray) gL
  have old:∀ b o,h'.get? b=some o->(Ww (h'.push (RZ "list" (as.map QL).toArray 0)) h'.objs.size (as.map QL) ((bT (fun i j=>lt (ks.getD i d0) (ks.getD j d0)) es.size).map fun i=>QL (as.getD i 0)).toArray).get? b=some o:=fun b o x=>by
   rw [sortedHeap_old (Q7 (QD x)) (by rw [W6];exact Wq (QD x))]
   exact Qo _ x
  exact q _ tk as h'.objs.size e (fun b o x=>old b o (kp b o x)) al (pr.stay fun b o _ x=>old b o x) hlo (fun a ha=>Q7 (pr.lt ha)) he
 by_cases h2:2<=es.size
 ·refine Qh (RH (SS Vj (s:={ s with heap:=h'.push (RZ "list" (as.map QL).toArray 0),toks:=tk }) ⟨_,gL,rfl⟩ U6 (CF O d0 (by rw [ul];exact hk) nk nu (by omega) (by omega) gL (fun h3 k3=>?_) ⟨_,rfl,?_⟩) (Vl _)))
  ·exact H h2 h3 tk as (fun b o e=>k3 b o (Q7 (Rc (QD e) hlo)) (Qo _ (kp b o e))) al (pr.stay fun b o hb e=>k3 b o (Q7 (QD e)) (Qo _ e))
  ·refine Qt ⟨_,rfl,fin _ ?_⟩
   rw [ul]
   refine R0 fun i hi=>?_
   have hi:i<as.length:=by
    have:=Su.mp ((fJ _ es.size).mem_iff.mp hi)
    omega
   simp [RC,hi]
 ·refine Qh (RH (SS Vj (s:={ s with heap:=h'.push (RZ "list" (as.map QL).toArray 0),toks:=tk }) ⟨_,gL,rfl⟩ U6 (Bs (by omega) gL ⟨_,rfl,?_⟩) (Vl _)))
  refine Qt ⟨_,rfl,fin (as.map QL) ?_⟩
  match as,al with
  | [],e=>rw [<- e];show []=(bT _ 0).map _;rw [Bt];rfl
  | [b],e=>rw [<- e];show [QL b]=(bT _ 1).map _;rw [KS];rfl
  | _::_::_,e=>rw [<- e] at h2;simp at h2
end
end L3
namespace L3
open PySem L2
end L3
namespace L3
open PySem L2
section
variable {P:QR}{w:Rg}
theorem Mo (d:Addr)(hd:(d == Sg)=false):MeetsIn P w (Builtin.«dict.items» ⟨[.ref d],[]⟩) (fun _ R s=>(∃ es ep,RawD s.heap d es ep) /\
   R (.ok (.ret (.ref s.heap.objs.size))) { s with heap:=s.heap.push { cls:=.type "dict_items",data:=.fields #[.ref d] } }):=
 .of_wp fun A R s ⟨⟨es,ep,g⟩,h⟩=>by
  unfold Builtin.«dict.items»
  refine Qh ?_
  unfold a0D
  refine Qh (VY g.ty ?_)
  show QV _ _ (pure d) _ _ s
  refine Qt ?_
  show QV _ _ (T8 d >>= _) _ _ s
  unfold T8
  rw [if_neg (by rw [hd];exact RB)]
  refine Qh (Qt ?_)
  exact Qh (SM (Qt ⟨_,rfl,h⟩))
end
noncomputable def q9 (kvs:List (List Int×D)):List (List Int×D):=(bT (fun i j=>HT.lexLt ((kvs.map (·.1)).getD i []) ((kvs.map (·.1)).getD j [])) kvs.length).map fun i=>kvs.getD i ([],.non)
theorem Mp {α β:Type}{R:α->β->Prop}{as:List α}{bs:List β}(h:Ur R as bs)(a0:α)(b0:β):∀ i,i<as.length->R (as.getD i a0) (bs.getD i b0):=by
 induction h with
 | nil=>exact fun i hi=>nomatch hi
 | cons e t ih=>
  intro i hi
  cases i with
  | zero=>exact e
  | succ i=>exact ih i (by simpa using hi)
theorem CG {α β:Type}{R:α->β->Prop}{f:Nat->α}{g:Nat->β}:∀ {l:List Nat},(∀ i∈l,R (f i) (g i))->Ur R (l.map f) (l.map g)
 | [],_=>.nil
 | i::l,h=>.cons (h i (QN ..)) (CG fun j hj=>h j (QH _ hj))
end L3
namespace L3
open PySem L2
section
variable {X:Cx}{a0V pins0:List (Addr×SD)}{σ σ0:St}{H H0:Hp}{s s0:Qj}{a:Addr}{ps ps0:bE}{ob:SD}
theorem Inv.freeze (I:Inv X a0V σ H s)(e:H a=some (aP a ps))(ho:s.heap.get? a=some ob):Inv X a0V σ (aH H a (.frz ob (aP a ps))) s:=by
 have ok:ObjOk X.prog X.w H s.heap a (aP a ps):=I.hok a _ e
 exact I.write (x:=a) (e:=a) (h':=s.heap) (t':=s.toks) (by rw [e];exact SW) (.inl rfl) (fun b q _ z=>z) ⟨ob,ho⟩ ⟨ho,ok⟩
theorem Inv.thaw (I0:Inv X pins0 σ0 H0 s0)(e0:H0 a=some (aP a ps0))(I:Inv X a0V σ H s)(e:H a=some (.frz ob (aP a ps))):Inv X a0V σ (aH H a (aP a ps)) s:=by
 have ne:∀ {b:Addr},H b=none->b≠a:=fun {b} h z=>by rw [z,e] at h;cases h
 refine ⟨I.ok,I.os,I.bare,⟨I.base.keep,I.base.slot,fun b o h1 h2 h3=>?_,I.base.there,fun b xs h=>?_,fun b o u h=>?_,fun b qs h=>?_⟩,I.loc,I.cell,?_,fun x c h=>?_,fun p hp=>?_,fun b u q=>?_,I.len⟩
 ·have:=I.base.free b o h1 h2 h3
  rw [a8 (ne this)];exact this
 ·have:=I.base.tups b xs h
  rw [a8 fun z=>by rw [z,e] at this;cases this];exact this
 ·have:=I.base.frzs b o u h
  rw [a8 fun z=>by
   have z0:=I0.base.frzs b o u h
   rw [z,e0] at z0;cases z0]
  exact this
 ·obtain ⟨more,h1⟩:=I.base.tbls b qs h
  exact ⟨more,by rw [a8 fun z=>by rw [z,e] at h1;cases h1];exact h1⟩
 ·rw [a8 (ne I.free)];exact I.free
 ·have:=I.freeC x c h
  rw [a8 (ne this)];exact this
 ·obtain ⟨h1,h2,h3⟩:=I.pin p hp
  exact ⟨h1,by rw [a8 (ne h2)];exact h2,h3⟩
 ·by_cases hb:b=a
  ·subst hb
   rw [cE] at q
   cases q
   exact (show ObjOk X.prog X.w H s.heap b (.frz ob (aP b ps)) from I.hok b _ e).2
  ·rw [a8 hb] at q
   exact (I.hok b u q).stay (fun _ _ _ z=>z) (fun c h=>by rw [a8 fun z=>by rw [z,e] at h;cases h];exact h) fun c xs h=>by rw [a8 fun z=>by rw [z,e] at h;cases h];exact h
end
noncomputable def jL (i:Nat)(ρ:aK)(μ:Hm):Option (Nat×List (List Int×D)):=match ρ[i]? with
 | some (some (.loc a))=>match μ[a]? with
  | some (.dT kvs)=>some (a,kvs)
  | _=>none
 | _=>none
theorem CH {i:Nat}{ρ:aK}{μ:Hm}{a:Nat}{kvs:List (List Int×D)}(h:jL i ρ μ=some (a,kvs)):μ[a]? = some (.dT kvs):=by
 unfold jL at h
 split at h
 ·split at h
  ·rename_i hc
   cases h
   exact hc
  ·cases h
 ·cases h
noncomputable def k7 (i:Nat)(m1 m2:ME):ME:=fun ρ μ=>match jL i ρ μ with
 | some (a,kvs)=>(m1 ρ (μ.set a (.dF kvs))).bind fun r=>match r.2[a]? with
  | some (.dF kvs')=>some (r.1,r.2.set a (.dT kvs'))
  | _=>none
 | none=>m2 ρ μ
noncomputable def jA (i:Nat)(m1 m2:MS):MS:=fun ρ μ=>match jL i ρ μ with
 | some (a,kvs)=>(m1 ρ (μ.set a (.dF kvs))).bind fun r=>match r.2.2[a]? with
  | some (.dF kvs')=>some (r.1,r.2.1,r.2.2.set a (.dT kvs'))
  | _=>none
 | none=>m2 ρ μ
section
variable {X:Cx}{a0V:List (Addr×SD)}{σ:St}{H:Hp}{s:Qj}{π:Nat->Addr}{ρ:aK}{μ:Hm}{a:Nat}{kvs:List (List Int×D)}
theorem CI (I:Inv X a0V σ H s)(R:Rp X.K π H μ)(E:En X.K π μ.length H σ ρ)(hc:μ[a]? = some (.dT kvs)):∃ ob ps,H (π a)=some (aP (π a) ps)/\Inv X a0V σ (aH H (π a) (.frz ob (aP (π a) ps))) s /\
  Rp X.K π (aH H (π a) (.frz ob (aP (π a) ps))) (μ.set a (.dF kvs))/\En X.K π (μ.set a (.dF kvs)).length (aH H (π a) (.frz ob (aP (π a) ps))) σ ρ:=by
 obtain ⟨ps,e1,T⟩:=i9 R hc
 obtain ⟨_,⟨ob,ho⟩,_⟩:=(show ObjOk X.prog X.w H s.heap (π a) (aP (π a) ps) from I.hok _ _ e1)
 obtain ⟨e2,R2⟩:=R.put (c:=.dF kvs) (o:=.frz ob (aP (π a) ps)) (Qi.mp hc).1 e1 (.inr (.inr ⟨_,rfl⟩)) ⟨ob,ps,rfl,T.to⟩
 exact ⟨ob,ps,e1,Inv.freeze I e1 ho,R2,E.mono e2⟩
theorem oF {pins':List (Addr×SD)}{σ':St}{H':Hp}{s':Qj}{π':Nat->Addr}{μ':Hm}{ob:SD}{ps:bE}{kvs':List (List Int×D)}(I:Inv X a0V σ H s)(e:H (π a)=some (aP (π a) ps))(ha:a<μ.length)
  (I':Inv X pins' σ' H' s')(R':Rp X.K π' H' μ')(e':Ext π (μ.set a (.dF kvs)).length (aH H (π a) (.frz ob (aP (π a) ps))) π' μ'.length H')(hc:μ'[a]? = some (.dF kvs')) :
  ∃ H2,Inv X pins' σ' H2 s'/\Ext π μ.length H π' (μ'.set a (.dT kvs')).length H2/\Rp X.K π' H2 (μ'.set a (.dT kvs'))/\Ext0 π' μ'.length H' π' (μ'.set a (.dT kvs')).length H2:=by
 have hp:π' a=π a:=e'.pi a (by rw [RX];exact ha)
 obtain ⟨ob',ps',h1,T⟩:=qV R' hc
 obtain ⟨x2,R2⟩:=R'.put0 (c:=.dT kvs') (o:=aP (π' a) ps') (Qi.mp hc).1 h1 (.inr (.inr (.inr ⟨_,_,rfl⟩))) ⟨ps',rfl,T.to⟩
 rw [hp] at h1
 refine ⟨aH H' (π' a) (aP (π' a) ps'),?_,⟨?_,fun b hb=>e'.pi b (by rw [RX];exact hb),fun p vs h=>?_,fun p o u h=>?_⟩,R2,x2⟩
 ·rw [hp]
  exact Inv.thaw I e I' h1
 ·have:=e'.le
  rw [RX] at this ⊢
  exact this
 ·have n1:p≠π a:=fun z=>by rw [z,e] at h;cases h
  have:=e'.tup p vs (by rw [a8 n1];exact h)
  rw [hp,a8 n1];exact this
 ·have n1:p≠π a:=fun z=>by rw [z,e] at h;cases h
  have:=e'.frz p o u (by rw [a8 n1];exact h)
  rw [hp,a8 n1];exact this
theorem En.mono0 {K:Qf}{π':Nat->Addr}{n n':Nat}{H':Hp}(E:En K π n H σ ρ)(e:Ext0 π n H π' n' H'):En K π' n' H' σ ρ:=
 ⟨E.len,fun i d h=>let ⟨v,h1,h2⟩:=E.get i d h;⟨v,h1,h2.mono0 e⟩⟩
end
section
variable {X:Cx}{e:Qr}{st:Stmt}{i:Nat}
theorem Mq {m1 m2:ME}(h1:QE X e m1)(h2:QE X e m2):QE X e (k7 i m1 m2):=⟨by
 intro a0V s σ H Q I hw
 obtain ⟨π,ρ,μ,d,μ',R,E,hm,k⟩:=hw
 unfold k7 at hm
 split at hm
 ·rename_i a kvs hv
  obtain ⟨⟨x,μ1⟩,g1,hm⟩:=Qe.mp hm
  dsimp only at hm
  split at hm
  ·rename_i kvs' hc'
   cases hm
   have hc:=CH hv
   obtain ⟨ob,ps,e1,I1,R1,E1⟩:=CI I R E hc
   refine aN (h1.h a0V s σ _ (fun v H2=>∃ π2,Ext π (μ.set a (.dF kvs)).length (aH H (π a) (.frz ob (aP (π a) ps))) π2 μ1.length H2/\Rp X.K π2 H2 μ1/\IsD X.K π2 μ1.length H2 v d) I1 ⟨π,ρ,_,d,μ1,R1,E1,g1,fun π2 v H2 e2 R2 i2=>⟨π2,e2,R2,i2⟩⟩) fun u s2 ⟨v,H2,I2,rv,π2,e2,R2,i2⟩=>?_
   obtain ⟨H3,I3,e3,R3,x3⟩:=oF I e1 (Qi.mp hc).1 I2 R2 e2 hc'
   exact ⟨v,H3,I3,rv,k π2 v H3 e3 R3 (i2.mono0 x3)⟩
  ·cases hm
 ·exact h2.h a0V s σ H Q I ⟨π,ρ,μ,d,μ',R,E,hm,k⟩⟩
theorem CJ {m1 m2:MS}(h1:QS X st m1)(h2:QS X st m2):QS X st (jA i m1 m2):=⟨by
 intro a0V s σ H D I hw
 obtain ⟨π,ρ,μ,fl,ρ',μ',R,E,hm,k⟩:=hw
 unfold jA at hm
 split at hm
 ·rename_i a kvs hv
  obtain ⟨⟨fl1,ρ1,μ1⟩,g1,hm⟩:=Qe.mp hm
  dsimp only at hm
  split at hm
  ·rename_i kvs' hc'
   cases hm
   have hc:=CH hv
   have ha:=(Qi.mp hc).1
   obtain ⟨ob,ps,e1,I1,R1,E1⟩:=CI I R E hc
   refine aN (h1.h a0V s σ _ ⟨fun σ2 H2=>fl=.nx/\∃ π2,Ext π (μ.set a (.dF kvs)).length (aH H (π a) (.frz ob (aP (π a) ps))) π2 μ1.length H2/\Rp X.K π2 H2 μ1/\En X.K π2 μ1.length H2 σ2 ρ',
     fun v H2=>∃ d,fl=.rt d/\∃ π2,Ext π (μ.set a (.dF kvs)).length (aH H (π a) (.frz ob (aP (π a) ps))) π2 μ1.length H2/\Rp X.K π2 H2 μ1/\IsD X.K π2 μ1.length H2 v d,
     fun σ2 H2=>fl=.bk/\∃ π2,Ext π (μ.set a (.dF kvs)).length (aH H (π a) (.frz ob (aP (π a) ps))) π2 μ1.length H2/\Rp X.K π2 H2 μ1/\En X.K π2 μ1.length H2 σ2 ρ',
     fun σ2 H2=>fl=.ct/\∃ π2,Ext π (μ.set a (.dF kvs)).length (aH H (π a) (.frz ob (aP (π a) ps))) π2 μ1.length H2/\Rp X.K π2 H2 μ1/\En X.K π2 μ1.length H2 σ2 ρ'⟩ I1 ⟨π,ρ,_,fl,ρ',μ1,R1,E1,g1,?_⟩) fun f s2 q=>?_
   ·cases fl with
    | nx=>exact fun π2 σ2 H2 e2 R2 E2=>⟨rfl,π2,e2,R2,E2⟩
    | bk=>exact fun π2 σ2 H2 e2 R2 E2=>⟨rfl,π2,e2,R2,E2⟩
    | ct=>exact fun π2 σ2 H2 e2 R2 E2=>⟨rfl,π2,e2,R2,E2⟩
    | rt d=>exact fun π2 v H2 e2 R2 i2=>⟨d,rfl,π2,e2,R2,i2⟩
   ·cases f with
    | next=>
     obtain ⟨σ2,H2,I2,rfl,π2,e2,R2,E2⟩:=q
     obtain ⟨H3,I3,e3,R3,x3⟩:=oF I e1 ha I2 R2 e2 hc'
     exact ⟨σ2,H3,I3,k π2 σ2 H3 e3 R3 (En.mono0 E2 x3)⟩
    | brk=>
     obtain ⟨σ2,H2,I2,rfl,π2,e2,R2,E2⟩:=q
     obtain ⟨H3,I3,e3,R3,x3⟩:=oF I e1 ha I2 R2 e2 hc'
     exact ⟨σ2,H3,I3,k π2 σ2 H3 e3 R3 (En.mono0 E2 x3)⟩
    | cont=>
     obtain ⟨σ2,H2,I2,rfl,π2,e2,R2,E2⟩:=q
     obtain ⟨H3,I3,e3,R3,x3⟩:=oF I e1 ha I2 R2 e2 hc'
     exact ⟨σ2,H3,I3,k π2 σ2 H3 e3 R3 (En.mono0 E2 x3)⟩
    | ret u=>
     obtain ⟨v,σ2,H2,I2,rv,d,rfl,π2,e2,R2,i2⟩:=q
     obtain ⟨H3,I3,e3,R3,x3⟩:=oF I e1 ha I2 R2 e2 hc'
     exact ⟨v,σ2,H3,I3,rv,k π2 v H3 e3 R3 (i2.mono0 x3)⟩
  ·cases hm
 ·exact h2.h a0V s σ H D I ⟨π,ρ,μ,fl,ρ',μ',R,E,hm,k⟩⟩
end
noncomputable def vX (d:Addr)(ob:SD)(ps:bE):It:=⟨fun i H=>H d=some (.frz ob (aP d ps))/\i<ps.length,fun i H x H'=>H'=H/\∃ p,ps[i]? = some p/\x=.ref p.2.1,fun i H=>H d=some (.frz ob (aP d ps))/\ps.length<=i⟩
theorem vY {X:Cx}{a0V:List (Addr×SD)}{σ:St}{H:Hp}{s:Qj}{d:Addr}{ob:SD}{ps:bE}(I:Inv X a0V σ H s)(e:H d=some (.frz ob (aP d ps))) :
  (d == Sg)=false/\ps.length<=Qs/\∃ es ep,RawD s.heap d es ep/\ob.data=.dict es ep/\es.toList.map (·.key)=ps.map fun p=>QL p.2.1:=by
 obtain ⟨g0,⟨ws,r,hs,hl,o,es,ep,h1,h2,h3,h4,h5⟩,_⟩:=(show ObjOk X.prog X.w H s.heap d (.frz ob (aP d ps)) from I.hok d _ e)
 rw [g0] at h1
 cases h1
 refine ⟨hs,hl,es,ep,⟨ob,g0,h2,h3⟩,h3,?_⟩
 rw [h4,qU (P:=X.prog) (w:=X.w),Rj,<- vT r]
 rfl
theorem Mr {P:QR}{w:Rg}{K:Qf}{tg:Qr}{d it:Addr}{ob:SD}{ps:bE}{es:Array Se}{ep:Nat}(hd:ob.data=.dict es ep):Turn P w K tg (vX d ob ps) [it] it (fun i h=>h.IsKeyIter it d i es.size ep) where
 mem:=by simp
 obj:=fun i h st b hb=>by
  have e:b=it:=by simpa using hb
  subst e
  obtain ⟨o,e,c,d⟩:=st
  exact ⟨o,e,fun v z=>by rw [d] at z;cases z⟩
 keep:=fun i h h' st k=>st.at fun o e=>k it (by simp) o e
 item:=by
  intro X hP hw hK hc i a0V s σ H E I hf st hg
  subst hP hw hK
  obtain ⟨hg1,hg2⟩:=hg
  obtain ⟨lo,hl,es',ep',g,hd',he⟩:=vY I hg1
  rw [hd] at hd'
  cases hd'
  have hs:es.size=ps.length:=by
   have:=congrArg Si he
   simpa using this
  obtain ⟨f0,f1,f2,f3,f4,f5⟩:=hf it (by simp)
  refine Cp (I.ok.hd hc) st g (fun e h' he' j' sb=>?_) fun hn=>by simp at hn;omega
  have I1:Inv X a0V σ H { s with heap:=h' }:=I.turned (t':=s.toks) (fun b o hb e=>(sb.2 b hb).trans e) f0 f1 f3 f4 f5
  obtain ⟨o,e1,c,d1⟩:=id j'
  have hp:ps[i]? = some ps[i]:=Ql hg2
  have ek:e.key=.ref (ps[i]).2.1:=by
   have:=congrArg (·[i]?) he
   simp only [Ra,Ux,he',hp,Rk] at this
   exact Q3 this
  exact ⟨e.key,rfl,o7 (s:={ s with heap:=h' }) e1 c d1 (by decide) ⟨.ref (ps[i]).2.1,H,I1,ek,⟨rfl,ps[i],hp,rfl⟩,j',fun b hb=>(hf b hb).1⟩⟩
 done:=by
  intro X hP hw hK hc i a0V s σ H E I hf st hg
  subst hP hw hK
  obtain ⟨hg1,hg2⟩:=hg
  obtain ⟨lo,hl,es',ep',g,hd',he⟩:=vY I hg1
  rw [hd] at hd'
  cases hd'
  have hs:es.size=ps.length:=by
   have:=congrArg Si he
   simpa using this
  obtain ⟨f0,f1,f2,f3,f4,f5⟩:=hf it (by simp)
  exact Cp (I.ok.hd hc) st g (fun e h' he'=>by
   have:=(Array.getElem?_eq_some_iff.mp he').1
   omega) fun _ h' eb=>⟨rfl,I.turned (t':=s.toks) (fun b o hb e=>eb b o hb e) f0 f1 f3 f4 f5⟩
 self:=fun _ _ _ _ _ st h=>wpAny_pyIter_keyiter st h
theorem Ms {X:Cx}{l tg:Qr}{tl:TE}(hl:PE X l tl):PI X tg l (fun σ H R=>tl σ H fun v H1=>∃ d ob ps,v=.ref d/\H1 d=some (.frz ob (aP d ps))/\R (vX d ob ps) H1):=by
 intro a0V s σ H R I h
 refine aN (hl a0V s σ H _ I h) fun v s1 ⟨y,H1,I1,r1,q1⟩=>?_
 obtain ⟨d,ob,ps,e,hf,q⟩:=q1
 subst e
 obtain rfl:v=QL d:=r1
 obtain ⟨lo,hl,es,ep,g,hd,he⟩:=vY I1 hf
 refine LW lo g ⟨s1.heap.objs.size,[s1.heap.objs.size],_,_,H1,rfl,I1.kept (t':=s1.toks) fun b o e=>Qo _ e,Mr hd,⟨_,QY _ rfl,rfl,rfl⟩,fun b hb=>?_,q⟩
 have e:b=s1.heap.objs.size:=by simpa using hb
 subst e
 exact I1.fpOk (Qq _) (I1.hok.fresh (Qq _))
noncomputable def eU (kvs:List (List Int×D)):List D:=kvs.map fun k=>D.tup (k.1.map D.int)
theorem Mt {K:Qf}{π:Nat->Addr}{n:Nat}{H:Hp}{d:Addr}{ob:SD}{ps:bE}{kvs:List (List Int×D)}(e0:H d=some (.frz ob (aP d ps)))(T:IsTs K π n H ps kvs):Wk K (vX d ob ps) (dQ (.tup (eU kvs))) π n H:=by
 have el:ps.length=kvs.length:=by
  have:=congrArg Si T.to.1
  simpa using this
 refine ⟨fun π' μ H' i e R z=>?_,fun π' μ H' i dd e R z=>?_⟩
 ·have z':(eU kvs)[i]? = none:=Q3 z
  have:=Tf.mp z'
  rw [eU,Qm] at this
  exact ⟨e.frz _ _ _ e0,by omega⟩
 ·have z':(eU kvs)[i]? = some dd:=Q3 z
  have hi:i<kvs.length:=by
   have:=(Qi.mp z').1
   rwa [eU,Qm] at this
  refine ⟨⟨e.frz _ _ _ e0,by omega⟩,fun v H2 ⟨e1,p,e2,e3⟩=>?_⟩
  subst e1 e3
  obtain ⟨v',h1,h2⟩:=(T.to.2.1.mono e).get z'
  rw [Ra,e2] at h1
  cases h1
  exact ⟨.refl,R,h2⟩
noncomputable def eV (m:ME):MI:=fun ρ μ=>(m ρ μ).bind fun p=>match p.1 with
 | .loc a=>match p.2[a]? with
  | some (.dF kvs)=>some (dQ (.tup (eU kvs)),kvs.length+1,p.2)
  | _=>none
 | _=>none
theorem vZ {X:Cx}{e:Qr}{m:ME}(h:QE X e m):QJ X e (eV m):=⟨fun tg a0V s σ H R I hw=>by
 obtain ⟨π,ρ,μ,src,n,μ',Rr,E,hm,k⟩:=hw
 obtain ⟨⟨x,μ1⟩,h1,hm⟩:=Qe.mp hm
 dsimp only at hm
 split at hm
 ·split at hm
  ·rename_i kvs hc
   cases hm
   refine Ms h.h a0V s σ H R I ⟨π,ρ,μ,_,_,Rr,E,h1,fun π1 v1 H1 e1 R1 i1=>?_⟩
   cases i1
   obtain ⟨ob,ps,f1,T⟩:=qV R1 hc
   exact ⟨_,ob,ps,rfl,f1,k π1 H1 _ e1 R1 (Mt f1 T)⟩
  ·cases hm
 ·cases hm⟩
end L3
namespace L3
open PySem L2 PySem.W PyProof.Rows
section
variable {P:QR}{w:Rg}{A:Q0}{E:Qg->Qj->Prop}{s:Qj}
end
end L3
namespace L3
open PySem L2
section
variable {X:Cx}
end
noncomputable def mX (μ:Hm):D->Bool
 | .loc a=>match μ[a]? with|some (.dT _)=>true|_=>false
 | _=>false
noncomputable def gY (f:D->List D->Hm->Option (D×Hm))(mo:ME)(ms:MA):ME:=fun ρ μ=>(mo ρ μ).bind fun p=>match mX p.2 p.1 with
 | true=>(ms ρ p.2).bind fun q=>f p.1 q.1 q.2
 | false=>none
noncomputable def v7 (K:Qf)(x:V)(H:Hp):Prop:=∃ a ps,x=.ref a/\H a=some (aP a ps)/\cR K H ps
theorem Mu {K:Qf}{π:Nat->Addr}{H:Hp}{μ:Hm}{v:V}{x:D}(R:Rp K π H μ)(h:IsD K π μ.length H v x)(e:mX μ x=true):v7 K v H:=by
 cases h with
 | @loc a ha=>
  simp only [mX] at e
  split at e
  ·rename_i xs hx
   obtain ⟨ps,h1,T⟩:=i9 R hx
   exact ⟨_,ps,rfl,h1,T.keys⟩
  ·cases e
 | _=>cases e
section
variable {X:Cx}{e o:Qr}{mo:ME}{to:TE}{t:TA}{apos cpos:SE}{es:List Qr}{ms:MA}{n:Nat}{r:V->List V->Hp->VK->Prop}{f:D->List D->Hm->Option (D×Hm)}{name:Str}{id:String}
theorem Mv (slot:Slot "dict" name id) (hty:Zs (.builtin id)=pure (.type "method_descriptor")) (hm:f9 X id r)(ho:PE X o to)(ha:PA X (e::es) t)(hbase:U1 o name X.env (eval o X.env)=eval o X.env)
  (hfew:((Tx cpos (Rl (e::es) X.env)).all (fun x=>!x.1)&&(XD cpos (V8 [] X.env)).all (fun x=>x.1.isSome)&&decide ((e::es).length+([]:List T7).length+(if ([]:List T7).isEmpty then 0 else 1)<30))=true)
  (hline:(apos.endLine == cpos.line)=true)(hs:Rl (e::es) X.env=(false,eval e X.env)::Rl es X.env)(hplain:(Tx cpos (Rl es X.env)).any (·.1)=false) :
  PE X (.Call (.Attribute o name apos) (e::es) [] cpos) (fun σ H Q=>to σ H fun x H1=>v7 X.K x H1/\t σ H1 fun vs H2=>r x vs H2 Q):=by
 intro a0V s σ H Q I h
 refine Yu hbase hfew hline rfl (aN (ho a0V s σ H _ I h) fun v s1 ⟨x,H1,I1,r1,ty,q1⟩=>?_)
 obtain ⟨a,ps,rfl,f1,hk⟩:=ty
 obtain rfl:v=QL a:=r1
 obtain ⟨lo,hl,vs,ep,g,_⟩:=vU I1 f1 hk
 refine ⟨"dict",id,W0,slot,hty,g.ty,fun b eb=>?_,?_⟩
 ·cases eb
  obtain ⟨z,g1,g2,_⟩:=g
  exact ⟨z,g1,g2.2.1⟩
 have hA:=ha cpos a0V s1 σ H1 _ I1 q1
 rw [hs] at hA ⊢
 refine Vq (by show (false||(Tx cpos (Rl es X.env)).any (·.1))=false;rw [hplain]<;>rfl) (XO ?_)
 exact aN hA fun us s2 ⟨vs,H2,I2,r2,q2⟩=>hm a0V s2 σ H2 (.ref a) vs _ us Q I2 rfl r2 q2
theorem Mw {K:Qf}(hf:fI K f r):∀ σ H Q,tM K (gY f mo ms) σ H Q->tM K mo σ H fun x H1=>v7 K x H1/\dM K ms σ H1 fun vs H2=>r x vs H2 Q:=by
 rintro σ H Q ⟨π,ρ,μ,d,μ',R,E,hm,k⟩
 obtain ⟨⟨x,μ1⟩,h1,hm⟩:=Qe.mp hm
 dsimp only at hm
 split at hm
 ·rename_i hl
  obtain ⟨⟨xs,μ2⟩,h2,hm⟩:=Qe.mp hm
  refine ⟨π,ρ,μ,x,μ1,R,E,h1,fun π1 v1 H1 e1 R1 i1=>⟨Mu R1 i1 hl,π1,ρ,μ1,xs,μ2,R1,E.mono e1,h2,fun π2 vs H2 e2 R2 i2=>?_⟩⟩
  exact hf π2 H2 μ2 x xs d μ' v1 vs Q R2 (i1.mono e2) i2 hm (k.after (e1.trans e2))
 ·cases hm
theorem CK (slot:Slot "dict" name id) (hty:Zs (.builtin id)=pure (.type "method_descriptor")) (hm:f9 X id r)(hf:fI X.K f r)
  (ho:QE X o mo)(ha:QA X (e::es) ms n)(hs:kP o=true)(hl:(apos.endLine == cpos.line)=true)(hn:(e::es).length<30):QE X (.Call (.Attribute o name apos) (e::es) [] cpos) (gY f mo ms):=by
 have hst:=ha.s
 have hst':=hst
 rw [RK,Qy] at hst'
 exact ⟨b9 (Mv slot hty hm ho.h ha.h (kQ hs) (uV hst hn) hl (fG hst'.1) (jF hst'.2)) (Mw hf)⟩
end
noncomputable def gZ:D->List D->Hm->Option (D×Hm)
 | .loc a,[y,z],μ=>match μ[a]? with
  | some (.dT kvs)=>(cL y).map fun k=>((bI kvs k).getD z,μ)
  | _=>none
 | _,_,_=>none
noncomputable def CL (K:Qf):V->List V->Hp->VK->Prop:=fun x vs H Q=>∃ a b ps k z,x=.ref a/\vs=[.ref b,z]/\H a=some (aP a ps)/\cR K H ps/\SqT K H b (k.map V.int)/\Q ((cN ps k).getD z) H
theorem Mx {K:Qf}:fI K gZ (CL K):=by
 intro π H μ x xs d μ' v vs Q R ix ixs hm k
 unfold gZ at hm
 split at hm
 ·split at hm
  ·rename_i kvs hc
   obtain ⟨kk,h1,hm⟩:=Qk.mp hm
   cases hm
   cases ix
   cases ixs with
   | cons iy t=>
    cases t with
    | cons iz t=>
     cases t
     obtain ⟨ps,e1,T⟩:=i9 R hc
     obtain ⟨b,rfl,hb⟩:=jI iy h1
     refine ⟨_,b,ps,kk,_,rfl,rfl,e1,T.keys,hb,k π _ H .refl R ?_⟩
     rcases T.val kk with ⟨z1,z2⟩|⟨v,d2,z1,z2,z3⟩
     ·rw [z1,z2];exact iz
     ·rw [z1,z2];exact z3
  ·cases hm
 ·cases hm
theorem My {X:Cx}(hu:X.A.units+1<Sf):f9 X "dict.get" (CL X.K):=by
 intro a0V s σ H x vs v us Q I rx rv h
 obtain ⟨a,b,ps,k,z,rfl,rfl,e,hk,hb,q⟩:=h
 cases rx
 obtain ⟨u,u2,rfl,ru,ru2⟩:=rv.two
 obtain rfl:u=QL b:=ru
 obtain ⟨hs,hl,ws,r,d⟩:=gX I (.of e) hk
 refine WS Uj d.typeIs Xc (PySem.F.args_dict_get_3 _ _ _) (meetsH_dict_get_default (Tq (UG X.prog X.w)) a b hs u2) ⟨mT hu,k,_,gP I hb,d,?_⟩
 refine ⟨(cN ps k).getD z,H,I.tok _,?_,q⟩
 have:=kZ r k
 cases h1:cN ps k with
 | none=>
  rw [h1] at this
  cases h2:(UR (bG ps ws) k).map (·.2) with
  | none=>exact ru2
  | some y=>rw [h2] at this;exact this.elim
 | some w'=>
  rw [h1] at this
  cases h2:(UR (bG ps ws) k).map (·.2) with
  | none=>rw [h2] at this;exact this.elim
  | some y=>rw [h2] at this;exact this
end L3
namespace L3
open PySem L2
section
variable {P:QR}{w:Rg}{K:Type} [DecidableEq K] {knd:HeapKind P w K}{A:Q0}{E:Qg->Qj->Prop}{s:Qj}{d a:Addr}{k:K}{xs:List (K×Addr×Qg)}
end
end L3
namespace L3
open PySem L2
section
variable {P:QR}{w:Rg}{A:Q0}{E:Qg->Qj->Prop}{s:Qj}
end
section
variable {X:Cx}
end
end L3
namespace L3
open PySem L2
noncomputable abbrev oG:=List (List Int×Addr×Qg)
inductive Hits (A:Q0)(s:Qj)(ys:oG):oG->Bool->Prop
 | nil:Hits A s ys [] true
 | miss {x:List Int×Addr×Qg}{r:oG}:UR ys x.1=none->Hits A s ys (x::r) false
 | hit {x:List Int×Addr×Qg}{p:Addr×Qg}{r:oG}{e b:Bool}:UR ys x.1=some p->WT A s x.2.2 p.2 e->Hits A s ys r b->Hits A s ys (x::r) (e&&b)
section
variable {P:QR}{w:Rg}{A:Q0}{E:Qg->Qj->Prop}{s:Qj}{a b:Addr}{xs ys:oG}{r:Bool}
end
section
variable {X:Cx}{a b:Qr}{ma mb:ME}{pos:SE}{k:Nat}
end
end L3
namespace L3
open PySem L2
noncomputable abbrev v8 (_:Nat):Prop:=True
section
variable {X:Cx}{a0V:List (Addr×SD)}{σ:St}{H H':Hp}{s:Qj}{h':RG}
theorem Mz {t':Nat}(I:Inv X a0V σ H s)(k:∀ b u,s.heap.get? b=some u->h'.get? b=some u)(old:∀ b,b<s.heap.objs.size->H' b=H b)(new:∀ b o,s.heap.objs.size<=b->H' b=some o->ObjOk X.prog X.w H' h' b o) :
  Inv X a0V σ H' { s with heap:=h',toks:=t' }:=by
 have lt:∀ b u,H b=some u->b<s.heap.objs.size:=fun b u e=>Nat.lt_of_not_le fun z=>by rw [I.hok.fresh z] at e;cases e
 have same:∀ b u,H b=some u->H' b=some u:=fun b u e=>by rw [old b (lt b u e)];exact e
 refine I.un ⟨fun b u q _ _ _=>k b u q,fun b u q _ _ _=>⟨u.slots,k b u q⟩,fun b u q n _=>by rw [old b (QD q)];exact n,fun b u q _=>⟨u,k b u q⟩,fun b xs q=>same b _ q,fun b u xs q=>same b _ q,fun b ps q=>⟨#[],by rw [same b _ q];simp⟩⟩ fun b u e=>?_
 by_cases hb:b<s.heap.objs.size
 ·rw [old b hb] at e
  exact (I.hok b u e).stay (fun c v _ q=>k c v q) (fun c q=>same c _ q) fun c xs q=>same c _ q
 ·exact new b u (Zc hb) e
noncomputable def dS (H:Hp):List Addr->bE->Hp
 | a::as,p::ps=>dS (aH H a (.tup [.ref p.2.1,p.2.2])) as ps
 | _,_=>H
theorem k8:∀ {as:List Addr}{ps:bE}{H:Hp}{b:Addr},b∉as->dS H as ps b=H b
 | [],_,_,_,_=>by simp [dS]
 | a::as,[],_,_,_=>rfl
 | a::as,p::ps,H,b,h=>by
  rw [Q9,not_or] at h
  show dS (aH H a _) as ps b=H b
  rw [k8 h.2,a8 h.1]
theorem rA:∀ {as:List Addr}{ps:bE}{H:Hp}{i:Nat}{a:Addr}{p:List Int×Addr×V},as.Nodup->as[i]? = some a->ps[i]? = some p->dS H as ps a=some (.tup [.ref p.2.1,p.2.2])
 | [],_,_,_,_,_,_,h,_=>by simp at h
 | _::_,[],_,_,_,_,_,_,h=>by simp at h
 | x::as,y::ps,H,0,a,p,nd,h1,h2=>by
  obtain rfl:x=a:=by simpa using h1
  obtain rfl:y=p:=by simpa using h2
  rw [RD] at nd
  show dS (aH H x _) as ps x=_
  rw [k8 nd.1,cE]
 | x::as,y::ps,H,i+1,a,p,nd,h1,h2=>by
  rw [RD] at nd
  exact rA (as:=as) (ps:=ps) (i:=i) nd.2 (by simpa using h1) (by simpa using h2)
noncomputable def oH (ps:bE):List Nat:=bT (fun i j=>HT.lexLt ((ps.map (·.1)).getD i []) ((ps.map (·.1)).getD j [])) ps.length
noncomputable def dJ (as:List Addr)(ps:bE):List V:=(oH ps).map fun i=>V.ref (as.getD i 0)
theorem MB (hc:X.calm=true)(hun:X.A.units+64<Sf)(I:Inv X a0V σ H s){d r:Addr}{ps:bE}{Q:VK}(e:H d=some (aP d ps))(hk:cR X.K H ps)(h64:v8 ps.length)(hv:s.heap.IsItemsView r d)
  (k:∀ (as:List Addr)(L l:Addr),as.length=ps.length->(l::L::as).Nodup->(∀ a∈l::L::as,H a=none)->Q (.ref l) (aH (aH (dS H as ps) L (.lst (dJ as ps))) l (.tup (dJ as ps)))) :
  QV (QX X.prog X.w) X.A (call (.builtin "sorted") [.ref r]) (fun v s'=>QV (QX X.prog X.w) X.A (call (.type "tuple") [v]) (EP X a0V σ Q) X.xe s') X.xe s:=by
 obtain ⟨lo,hl,ws,rv,z,es,ep,z1,z2,z3,z4,z5,z6⟩:=gX I (.of e) hk
 have hwl:ws.length=ps.length:=by
  have:=rv.length
  rw [Qm] at this
  exact this.symm
 have hxl:(bG ps ws).length=ps.length:=by unfold bG;rw [List.length_zipWith,hwl,Nat.min_self]
 have hes:es.size=ps.length:=by rw [<- UW,z4,Qm,hxl]
 have nd:(ps.map (·.1)).Nodup:=by rw [mS rv] at z6;exact z6
 have at_:∀ (j:Nat)(en:Se),es[j]? = some en->∃ p u,ps[j]? = some p/\ws[j]? = some u/\en.key=.ref p.2.1/\en.val=u:=fun j en h=>by
  rw [<- Ux,z4,Ra] at h
  obtain ⟨x,h1,rfl⟩:=Qk.mp h
  unfold bG at h1
  rw [List.getElem?_zipWith] at h1
  cases hp:ps[j]? with
  | none=>rw [hp] at h1;simp at h1
  | some p=>
   cases hw:ws[j]? with
   | none=>rw [hp,hw] at h1;simp at h1
   | some u=>
    rw [hp,hw] at h1
    have:(p.1,p.2.1,u)=x:=by simpa using h1
    subst this
    exact ⟨p,u,rfl,rfl,rfl,rfl⟩
 refine Mn B2 [] (ks:=ps.map (·.1)) (an:=fun i j=>HT.lexLt ((ps.map (·.1)).getD i []) ((ps.map (·.1)).getD j [])) rfl (by rw [Qm,hes]) nd (I.ok.hd hc) hv ⟨z,z1,z2,z3⟩ (by omega) (fun h22 h3 tk as kp al pr=>?_) (fun h3 tk as L en kp al pr hL nL gL=>?_)
 ·have I3:Inv X a0V σ H { s with heap:=h3,toks:=tk }:=I.kept (t':=tk) kp
  refine Mm (A:=X.A.in1.in1) (s:={ s with heap:=h3,toks:=tk }) (bs:=ps.map (·.2.1)) (ks:=ps.map (·.1)) (by show X.A.units+1+1<Sf;omega) pr (by omega) al (by rw [Qm,hes]) (by rw [Qm,hes]) (fun j en hj=>?_) nd
  obtain ⟨p,u,p1,p2,p3,p4⟩:=at_ j en hj
  have hjl:j<ps.length:=(Qi.mp p1).1
  have eb:(ps.map (·.2.1)).getD j 0=p.2.1:=by simp [RC,p1]
  have ek:(ps.map (·.1)).getD j []=p.1:=by simp [RC,p1]
  rw [eb,ek]
  have sq:=hk p (Q2 p1)
  refine ⟨p3,gP I3 sq,?_⟩
  obtain ⟨xs,rx,t,_⟩:=I3.tuple sq
  exact ⟨xs,t,Bu rx⟩
 ·rw [hes] at gL al
  have nda:as.Nodup:=pr.up.imp fun h=>Q7 h
  have hin:∀ i∈oH ps,i<ps.length:=fun i hi=>Su.mp ((fJ _ _).mem_iff.mp hi)
  have hlen:(oH ps).length=ps.length:=by
   have:=(fJ (fun i j=>HT.lexLt ((ps.map (·.1)).getD i []) ((ps.map (·.1)).getD j [])) ps.length).length_eq
   rw [We] at this
   exact this
  have nLa:L∉as:=fun h=>nL L h rfl
  have I1:Inv X a0V σ (aH (dS H as ps) L (.lst (dJ as ps))) { s with heap:=h3,toks:=tk }:=by
   refine Mz (t':=tk) I kp (fun b hb=>?_) fun b o hb eb=>?_
   ·rw [a8 (Q7 (Rc hb hL)),k8 fun h=>Nat.lt_asymm hb (pr.over b h)]
   ·by_cases hbL:b=L
    ·subst hbL
     rw [cE] at eb
     cases eb
     refine ⟨by unfold dJ;rw [Qm,hlen];exact hl,(oH ps).map fun i=>QL (as.getD i 0),en,?_,gL⟩
     unfold dJ
     exact CG fun i _=>rfl
    ·rw [a8 hbL] at eb
     by_cases hba:b∈as
     ·obtain ⟨j,hj⟩:=TH.mp hba
      have hjl:j<ps.length:=by
       have:=(Qi.mp hj).1
       omega
      have hp:ps[j]? = some ps[j]:=Ql hjl
      rw [rA nda hj hp] at eb
      cases eb
      obtain ⟨x,x1,x2⟩:=pr.prs j _ hj
      obtain ⟨p,u,p1,p2,p3,p4⟩:=at_ j x x1
      rw [hp] at p1
      cases p1
      obtain ⟨u',g1,g2⟩:=rv.get (i:=j) (x:=ps[j].2.2) (by rw [Ra,hp];rfl)
      rw [p2] at g1
      cases g1
      rw [p3,p4] at x2
      exact ⟨by show (2:Nat)<=Qs;decide,[.ref ps[j].2.1,u],.cons rfl (.cons g2 .nil),_,x2,rfl,0,rfl,rfl⟩
     ·rw [k8 hba,I.hok.fresh hb] at eb
      cases eb
  refine Ae a0V _ σ _ [.ref L] [.ref L] Q I1 (.cons rfl .nil) ⟨L,dJ as ps,rfl,.inl ⟨.inl (.inl cE),fun l hl'=>?_⟩⟩
  have lL:l≠L:=fun h=>by rw [h,cE] at hl';cases hl'
  rw [a8 lL] at hl'
  have la:l∉as:=fun h=>by
   obtain ⟨j,hj⟩:=TH.mp h
   have hjl:j<ps.length:=by
    have:=(Qi.mp hj).1
    omega
   rw [rA nda hj (Ql hjl)] at hl'
   cases hl'
  rw [k8 la] at hl'
  refine k as L l al ?_ fun a ha=>?_
  ·rw [RD,RD]
   exact ⟨fun h=>(Q9.mp h).elim lL la,nLa,nda⟩
  ·rcases Q9.mp ha with rfl|ha
   ·exact hl'
   rcases Q9.mp ha with rfl|ha
   ·exact I.hok.fresh hL
   ·exact I.hok.fresh (Uu (pr.over a ha))
end
noncomputable def v9 (k:List Int×D):D:=.tup [.tup (k.1.map D.int),k.2]
noncomputable def mY:D->Hm->Option (D×Hm)
 | .loc a,μ=>match μ[a]? with
  | some (.dT kvs)=>if v8 kvs.length then some (.tup ((q9 kvs).map v9),μ) else none
  | _=>none
 | _,_=>none
noncomputable def jM (m:ME):ME:=fun ρ μ=>(m ρ μ).bind fun r=>mY r.1 r.2
noncomputable def CM (K:Qf):V->Hp->VK->Prop:=fun x H Q=>∃ a ps,x=.ref a/\H a=some (aP a ps)/\cR K H ps/\v8 ps.length /\
 ∀ (as:List Addr)(L l:Addr),as.length=ps.length->(l::L::as).Nodup->(∀ a∈l::L::as,H a=none)->Q (.ref l) (aH (aH (dS H as ps) L (.lst (dJ as ps))) l (.tup (dJ as ps)))
section
variable {X:Cx}{o:Qr}{to:TE}{apos cpos p p2 pos pos2:SE}
theorem MC (hc:X.calm=true)(hun:X.A.units+64<Sf)(hm1:X.mg "sorted" = none) (hm2:X.mg "tuple" = none) (hg1:Gl X "sorted") (hg2:Gl X "tuple") (ho:PE X o to)
  (hbase:U1 o "items" X.env (eval o X.env)=eval o X.env) (hline:(apos.endLine == cpos.line)=true) :
  PE X (.Call (.Name "tuple" p) [.Call (.Name "sorted" p2) [.Call (.Attribute o "items" apos) [] [] cpos] [] pos2] [] pos) (fun σ H Q=>to σ H fun x H1=>CM X.K x H1 Q):=by
 intro a0V s σ H Q I h
 refine TL (j7 I hg2 hm2 Uh ?_)
 refine Tv ?_ rfl rfl
 refine V2 ?_
 refine TL (j7 I hg1 hm1 Uc ?_)
 refine VJ ?_ rfl rfl
 refine V2 ?_
 refine wpAny_Call_method0_late hbase hline (aN (ho a0V s σ H _ I h) fun v s1 ⟨x,H1,I1,r1,a,ps,ex,e,hk,h64,q⟩=>?_)
 subst ex
 obtain rfl:v=QL a:=r1
 obtain ⟨lo,hl,es,ep,g,he⟩:=vU I1 e hk
 refine ⟨"dict","dict.items",W0,WZ,PySem.F.type_dict_items,g.ty,fun b eb=>?_,Vq rfl (PySem.evalArgs_none ?_)⟩
 ·cases eb
  obtain ⟨z,g1,g2,_⟩:=g
  exact ⟨z,g1,g2.2.1⟩
 refine WS WZ g.ty PySem.F.entry_dict_items (PySem.F.args_dict_items_1 _) (Mo a lo) ⟨⟨es,ep,g⟩,?_⟩
 refine Wc ?_
 have I2:Inv X a0V σ H1 { s1 with heap:=s1.heap.push { cls:=.type "dict_items",data:=.fields #[.ref a] } }:=I1.kept (t':=s1.toks) fun b o e=>Qo _ e
 refine aN (MB hc hun I2 e hk h64 ⟨_,QY _ rfl,rfl,rfl⟩ q) fun v s' hv=>Wc hv
end
theorem CN {K:Qf}{π:Nat->Addr}{μ:Hm}:∀ {as:List Addr}{ps:bE}{H:Hp},Rp K π H μ->as.Nodup->(∀ a∈as,H a=none)->Ext π μ.length H π μ.length (dS H as ps)/\Rp K π (dS H as ps) μ
 | [],_,H,R,_,_=>by simp only [dS];exact ⟨.refl,R⟩
 | a::as,[],H,R,_,_=>⟨.refl,R⟩
 | a::as,p::ps,H,R,nd,hf=>by
  rw [RD] at nd
  obtain ⟨e1,R1⟩:=R.fresh (o:=.tup [.ref p.2.1,p.2.2]) (hf a (QN ..))
  obtain ⟨e2,R2⟩:=CN (as:=as) (ps:=ps) R1 nd.2 fun b hb=>by
   rw [a8 (fun w:b=a=>nd.1 (w ▸ hb))]
   exact hf b (QH _ hb)
  exact ⟨e1.trans e2,R2⟩
theorem MH {K:Qf}{mo:ME}:∀ σ H Q,tM K (jM mo) σ H Q->tM K mo σ H fun x H1=>CM K x H1 Q:=by
 rintro σ H Q ⟨π,ρ,μ,d,μ',R,E,hm,k⟩
 obtain ⟨⟨x,μ1⟩,h1,hm⟩:=Qe.mp hm
 refine ⟨π,ρ,μ,x,μ1,R,E,h1,fun π1 v1 H1 e1 R1 i1=>?_⟩
 have k1:=k.after e1
 dsimp only at hm
 unfold mY at hm
 split at hm
 ·split at hm
  ·rename_i kvs hc
   split at hm
   ·rename_i hb
    cases hm
    cases i1
    obtain ⟨ps,e2,T⟩:=i9 R1 hc
    have el:ps.length=kvs.length:=by
     have:=congrArg Si T.to.1
     simpa using this
    refine ⟨_,ps,rfl,e2,T.keys,by rw [el];exact hb,fun as L l al nd hf=>?_⟩
    rw [RD,RD] at nd
    obtain ⟨e3,R3⟩:=CN (ps:=ps) R1 nd.2.2 fun a ha=>hf a (QH _ (QH _ ha))
    have hL:dS H1 as ps L=none:=by rw [k8 nd.2.1];exact hf L (QH _ (QN ..))
    obtain ⟨e4,R4⟩:=R3.fresh (o:=.lst (dJ as ps)) hL
    have hl:aH (dS H1 as ps) L (.lst (dJ as ps)) l=none:=by
     rw [a8 (fun w:l=L=>nd.1 (by rw [w];exact QN ..)),k8 fun w=>nd.1 (QH _ w)]
     exact hf l (QN ..)
    obtain ⟨e5,R5⟩:=R4.fresh (o:=.tup (dJ as ps)) hl
    refine k1 π1 _ _ ((e3.trans e4).trans e5) R5 (.tup (.of cE) ?_)
    have hks:ps.map (·.1)=kvs.map (·.1):=T.to.1
    have key:∀ ix:List Nat,(∀ i∈ix,i<kvs.length)->IsDs K π1 μ'.length (aH (aH (dS H1 as ps) L (.lst (dJ as ps))) l (.tup (dJ as ps))) (ix.map fun i=>V.ref (as.getD i 0)) (ix.map (v9 ∘ fun i=>kvs.getD i ([],.non))):=fun ix hix=>by
     induction ix with
     | nil=>exact .nil
     | cons i ix ih=>
      have hi:=hix i (QN ..)
      have hia:as[i]? = some (as.getD i 0):=by simp [RC,show i<as.length by omega]
      have hip:ps[i]? = some ps[i]:=Ql (by omega)
      have hik:kvs[i]? = some kvs[i]:=Ql hi
      have ed:kvs.getD i ([],.non)=kvs[i]:=by simp [RC,hi]
      have ep:ps.getD i ([],0,.non)=ps[i]:=by simp [RC,show i<ps.length by omega]
      have pa:=Mp T ([],0,.non) ([],.non) i (by omega)
      rw [ep,ed] at pa
      obtain ⟨q1,q2,q3⟩:=pa
      refine .cons ?_ (ih fun j hj=>hix j (QH _ hj))
      have at_:aH (aH (dS H1 as ps) L (.lst (dJ as ps))) l (.tup (dJ as ps)) (as.getD i 0)=some (.tup [.ref ps[i].2.1,ps[i].2.2]):=by
       have hm:=Q2 hia
       rw [a8 (fun w:as.getD i 0=l=>nd.1 (by rw [<- w];exact QH _ hm)),a8 (fun w:as.getD i 0=L=>nd.2.1 (by rw [<- w];exact hm))]
       exact rA nd.2.2 hia hip
      show IsD K π1 μ'.length _ (.ref (as.getD i 0)) (v9 (kvs.getD i ([],.non)))
      rw [ed]
      have ee:=(e3.trans e4).trans e5
      have ik:IsD K π1 μ'.length H1 (.ref ps[i].2.1) (.tup (kvs[i].1.map D.int)):=by
       rw [<- q1]
       exact .tup q2 (qR _)
      exact .tup (.of at_) (.cons (ik.mono ee) (.cons (q3.mono ee) .nil))
    have ey:dJ as ps=(bT (fun i j=>HT.lexLt ((kvs.map (·.1)).getD i []) ((kvs.map (·.1)).getD j [])) kvs.length).map fun i=>V.ref (as.getD i 0):=by
     unfold dJ oH
     rw [hks,el]
    have fin:=key (bT (fun i j=>HT.lexLt ((kvs.map (·.1)).getD i []) ((kvs.map (·.1)).getD j [])) kvs.length) fun i hi=>Su.mp ((fJ _ _).mem_iff.mp hi)
    rw [<- ey] at fin
    unfold q9
    rw [Rj]
    exact fin
   ·cases hm
  ·cases hm
 ·cases hm
theorem MJ {X:Cx}{o:Qr}{mo:ME}{apos cpos p p2 pos pos2:SE}(hc:X.calm=true)(hun:X.A.units+64<Sf)(hm1:X.mg "sorted" = none) (hm2:X.mg "tuple" = none) (hg1:Gl X "sorted") (hg2:Gl X "tuple") (ho:QE X o mo)(hs:kP o=true)(hl:(apos.endLine == cpos.line)=true) :
  QE X (.Call (.Name "tuple" p) [.Call (.Name "sorted" p2) [.Call (.Attribute o "items" apos) [] [] cpos] [] pos2] [] pos) (jM mo):=
 ⟨b9 (MC hc hun hm1 hm2 hg1 hg2 ho.h (kQ hs) hl) MH⟩
end L3
namespace L3
open PySem L2
noncomputable def mZ:D->List D->Hm->Option (D×Hm)
 | .loc a,[y],μ=>match μ[a]? with
  | some (.dT kvs)=>(cL y).map fun k=>((bI kvs k).getD .non,μ)
  | _=>none
 | _,_,_=>none
noncomputable def CO (K:Qf):V->List V->Hp->VK->Prop:=fun x vs H Q=>∃ a b ps k,x=.ref a/\vs=[.ref b]/\H a=some (aP a ps)/\cR K H ps/\SqT K H b (k.map V.int)/\Q ((cN ps k).getD .non) H
theorem MK {K:Qf}:fI K mZ (CO K):=by
 intro π H μ x xs d μ' v vs Q R ix ixs hm k
 unfold mZ at hm
 split at hm
 ·split at hm
  ·rename_i kvs hc
   obtain ⟨kk,h1,hm⟩:=Qk.mp hm
   cases hm
   cases ix
   cases ixs with
   | cons iy t=>
    cases t
    obtain ⟨ps,e1,T⟩:=i9 R hc
    obtain ⟨b,rfl,hb⟩:=jI iy h1
    refine ⟨_,b,ps,kk,rfl,rfl,e1,T.keys,hb,k π _ H .refl R ?_⟩
    rcases T.val kk with ⟨z1,z2⟩|⟨v,d2,z1,z2,z3⟩
    ·rw [z1,z2];exact .non
    ·rw [z1,z2];exact z3
  ·cases hm
 ·cases hm
theorem ML {X:Cx}(hu:X.A.units+1<Sf):f9 X "dict.get" (CO X.K):=by
 intro a0V s σ H x vs v us Q I rx rv h
 obtain ⟨a,b,ps,k,rfl,rfl,e,hk,hb,q⟩:=h
 cases rx
 obtain ⟨u,rfl,ru⟩:=fP rv
 obtain rfl:u=QL b:=ru
 obtain ⟨hs,hl,ws,r,d⟩:=gX I (.of e) hk
 refine WS Uj d.typeIs Xc (PySem.F.args_dict_get_2 _ _) (meetsH_dict_get (Tq (UG X.prog X.w)) a b hs) ⟨mT hu,k,_,gP I hb,d,?_⟩
 refine ⟨(cN ps k).getD .non,H,I.tok _,?_,q⟩
 have:=kZ r k
 cases h1:cN ps k with
 | none=>
  rw [h1] at this
  cases h2:(UR (bG ps ws) k).map (·.2) with
  | none=>exact rfl
  | some y=>rw [h2] at this;exact this.elim
 | some w'=>
  rw [h1] at this
  cases h2:(UR (bG ps ws) k).map (·.2) with
  | none=>rw [h2] at this;exact this.elim
  | some y=>rw [h2] at this;exact this
end L3
namespace L3
open PySem L2 PySem.W PyProof.Rows
section
variable {P:QR}{w:Rg}{A:Q0}{E:Qg->Qj->Prop}{s:Qj}
theorem MM {a a' b b':Addr}{oa ob:SD}{n n':Nat}{v v':Qg}{k k':List Int}{C:Bool->Qj->Prop}(hu:A.units<Sf)(ga:s.heap.get? a=some oa)(da:oa.data=.seq #[.ref b,v] n)(ga':s.heap.get? a'=some ob)(da':ob.data=.seq #[.ref b',v'] n')
  (hb:jJ P w s.heap b k)(hb':jJ P w s.heap b' k')(hv:k=k'->v=v')(q:C (HT.lexLt k k') s):QV (QX P w) A (Zv (tuples' false) (.ref a) (.ref a')) C (fun _ _=>False) s:=by
 refine kat_lt ga da ga' da' ?_
 refine Y9 ((Tq (UG P w)).eqBool hu hb.1 hb'.1 ?_)
 by_cases e:k=k'
 ·obtain rfl:=hv e
  subst e
  rw [decide_eq_true rfl]
  refine ZN (Y9 (CD (ZN (kat_nil ?_))))
  rw [vV] at q
  exact q
 ·rw [decide_eq_false e]
  obtain ⟨xs,t1,i1⟩:=hb.2
  obtain ⟨ys,t2,i2⟩:=hb'.2
  refine kat_no (kat_one _ _ (HT.lt_tupInts t1 t2 (by simpa using i1) (by simpa using i2) hu ?_))
  exact q
noncomputable def MN (P:QR)(w:Rg)(h:RG)(a:Addr)(k:List Int):Prop:=∃ (o:SD)(n:Nat)(b:Addr)(v:Qg),h.get? a=some o/\o.cls=.type "tuple"/\o.data=.seq #[.ref b,v] n/\jJ P w h b k
theorem MP {as:List Addr}{ks:List (List Int)}(hu:A.units<Sf)(h0:0<as.length)(hk:ks.length=as.length)(at_:∀ i,i<as.length->MN P w s.heap (as.getD i 0) (ks.getD i []))
  (nd:ks.Nodup):jK P w A (as.map QL) (fun i j=>HT.lexLt (ks.getD i []) (ks.getD j [])) s:=by
 unfold jK
 have tups:∃ fs:List Qg,fs.length=as.length/\KatTups s.heap (as.map QL) fs/\∀ v∈fs,∃ b k,v=QL b/\jJ P w s.heap b k:=by
  clear h0 nd
  induction as generalizing ks with
  | nil=>exact ⟨[],rfl,.nil,fun v hv=>nomatch hv⟩
  | cons a as ih=>
   match ks,hk with
   | k::ks,hk=>
    obtain ⟨fs,g0,g1,g2⟩:=ih (ks:=ks) (by simpa using hk) fun i hi=>by simpa using at_ (i+1) (by simpa using hi)
    obtain ⟨o,n,b,v,e1,e2,e3,e4⟩:=at_ 0 (by simp)
    simp only [List.getD_cons_zero] at e1 e4
    refine ⟨.ref b::fs,by simp [g0],.cons e1 e2 e3 (by simp) g1,fun v hv=>?_⟩
    rcases Q9.mp hv with rfl|hv
    ·exact ⟨b,k,rfl,e4⟩
    ·exact g2 v hv
 obtain ⟨fs,g0,g1,g2⟩:=tups
 refine kat_kind (T:=.type "tuple") g1 (by omega) (fun v hv=>?_) (by decide) ⟨rfl,fun i j C hi hj hC=>?_⟩
 ·obtain ⟨b,k,rfl,k2⟩:=g2 v hv
  obtain ⟨xs,⟨o,o1,o2,_⟩,_⟩:=k2.2
  exact kitAt_ty _ _ ⟨o,o1,o2⟩
 ·rw [Qm] at hi hj
  have gi:(as.map QL).getD i .none=.ref (as.getD i 0):=by simp [RC,hi]
  have gj:(as.map QL).getD j .none=.ref (as.getD j 0):=by simp [RC,hj]
  rw [gi,gj]
  obtain ⟨o,n,b,v,e1,e2,e3,e4⟩:=at_ i hi
  obtain ⟨o',n',b',v',f1,f2,f3,f4⟩:=at_ j hj
  refine MM hu e1 e3 f1 f3 e4 f4 (fun z=>?_) hC
  have hij:i=j:=by
   have h1:ks.getD i []=ks[i]:=by simp [RC,show i<ks.length by omega]
   have h2:ks.getD j []=ks[j]:=by simp [RC,show j<ks.length by omega]
   rw [h1,h2] at z
   rcases TQ i j with h|h|h
   ·exact absurd z ((Q5.mp nd) i j (by omega) (by omega) h)
   ·exact h
   ·exact absurd z.symm ((Q5.mp nd) j i (by omega) (by omega) h)
  subst hij
  rw [e1] at f1
  cases f1
  rw [e3] at f3
  cases f3
  rfl
theorem MQ {α:Type}{lt:α->α->Bool}(O:Ord1 lt)(d:α){ks:List α}{l:Addr}{us:List Qg}{Q:Qg->Qj->Prop}(hk:ks.length=us.length)(nk:ks.Nodup)(nu:us.Nodup)(hz:us.length<=Qs)(hl:s.heap.IsList l us.toArray)
  (H:2<=us.length->∀ h3:RG,(∀ b o,s.heap.get? b=some o->h3.get? b=some o)->jK P w A.in1.in1 us (fun i j=>lt (ks.getD i d) (ks.getD j d)) { s with heap:=h3 })
  (q:Q (.ref (s.heap.objs.size+1)) { s with heap:=sortedAll s.heap us ((bT (fun i j=>lt (ks.getD i d) (ks.getD j d)) us.length).map fun i=>us.getD i RU).toArray }):QV (QX P w) A (call (.builtin "sorted") [.ref l]) Q E s:=by
 refine U8 Y8 Yx Yz (YA _) ?_
 unfold V3
 refine Qh (m:=Zy "sorted" 1 1 _) (Qt (Qh (collect_list hl (Qh (Vt ?_ (by omega))) (by omega))))
 have z:((s.heap.push (RZ "list" #[] 0)).update s.heap.objs.size (RL (·++us.toArray))).objs.size=s.heap.objs.size+1:=by rw [Y2,size_push']
 have g:(((s.heap.push (RZ "list" #[] 0)).update s.heap.objs.size (RL (·++us.toArray))).push (RZ "list" us.toArray 0)).get? (s.heap.objs.size+1)=some (RZ "list" us.toArray 0):=z ▸ QY _ rfl
 show QV _ _ _ _ _ ⟨((s.heap.push (RZ "list" #[] 0)).update s.heap.objs.size (RL (·++us.toArray))).push (RZ "list" us.toArray 0),s.gens,s.drawn,s.toks,s.os⟩
 rw [z]
 by_cases h2:2<=us.length
 ·refine Qh (RH (SS Vj ⟨_,g,rfl⟩ U6 (CF O d hk nk nu h2 hz g (fun h3 kp=>H h2 h3 fun b o e=>kp b o ?_ ?_) ⟨_,rfl,?_⟩) (Vl _)))
  ·exact Q7 (Wq (QD e))
  ·exact Qo _ ((Sm _ _ (SQ (QD e))).trans (Qo _ e))
  ·exact Qt ⟨_,rfl,q⟩
 ·refine Qh (RH (SS Vj ⟨_,g,rfl⟩ U6 (Bs (us:=us) (by omega) g ⟨_,rfl,?_⟩) (Vl _)))
  refine Qt ⟨_,rfl,?_⟩
  match us,h2,q with
  | [],_,q=>exact q
  | [b],_,q=>exact q
  | _::_::_,h2,_=>simp at h2
end
noncomputable def m3:List D->Option (List (List Int))
 | []=>some []
 | .tup [x,_]::r=>(cL x).bind fun k=>(m3 r).map (k::·)
 | _=>none
noncomputable def wA:MF:=fun ds μ=>match ds with
 | [x]=>(kR μ x).bind fun xs=>(m3 xs).bind fun ks=>if ks.Nodup then some (.loc μ.length,μ++[.lst ((bT (mG ks) ks.length).map fun i=>xs.getD i .non)]) else none
 | _=>none
noncomputable abbrev PrsV (K:Qf)(H:Hp):List V->List (List Int)->Prop:=Ur fun v t=>∃ a b y,v=V.ref a/\SqT K H a [V.ref b,y]/\SqT K H b (t.map V.int)
theorem PrsV.get {K:Qf}{H:Hp}:∀ {vs:List V}{ts:List (List Int)}{i:Nat},PrsV K H vs ts->i<vs.length->∃ a b y,vs[i]? = some (V.ref a)/\SqT K H a [V.ref b,y]/\SqT K H b ((ts.getD i []).map V.int)
 | _,_,_,.nil,h=>by simp at h
 | _,_,0,.cons ⟨a,b,y,e,q,q2⟩ _,_=>⟨a,b,y,by rw [e];rfl,q,q2⟩
 | _,_,i+1,.cons _ t,h=>by
  obtain ⟨a,b,y,e,q⟩:=PrsV.get (i:=i) t (by simpa using h)
  exact ⟨a,b,y,by simpa using e,q⟩
theorem CP:∀ {xs:List D}{ks:List (List Int)},m3 xs=some ks->ks.length=xs.length
 | [],ks,h=>by cases h;rfl
 | x::xs,ks,h=>by
  unfold m3 at h
  split at h
  ·rename_i heq;cases heq
  ·rename_i heq
   cases heq
   obtain ⟨k,h1,h⟩:=Qe.mp h
   obtain ⟨ks',h2,h3⟩:=Qk.mp h
   subst h3
   rw [QU,QU,CP h2]
  ·cases h
theorem CQ {K:Qf}{π:Nat->Addr}{n:Nat}{H:Hp}:∀ {xs:List D}{vs:List V}{ks:List (List Int)},IsDs K π n H vs xs->m3 xs=some ks->PrsV K H vs ks
 | [],_,ks,h,e=>by cases h;cases e;exact .nil
 | x::xs,_,ks,h,e=>by
  cases h with
  | cons h t=>
   unfold m3 at e
   split at e
   ·rename_i heq;cases heq
   ·rename_i heq
    cases heq
    obtain ⟨k,h1,e⟩:=Qe.mp e
    obtain ⟨ks',h2,h3⟩:=Qk.mp e
    subst h3
    cases h with
    | @tup p vs' ds hq hd=>
     cases hd with
     | cons d1 d2=>
      cases d2 with
      | cons d2 d3=>
       cases d3
       rw [By h1] at d1
       cases d1 with
       | @tup p' vs2 ds' hq' hd'=>
        have:=ints_of' hd'
        subst this
        exact .cons ⟨p,p',_,rfl,hq,hq'⟩ (CQ t h2)
   ·cases e
noncomputable def CS (K:Qf):List V->Hp->VK->Prop:=fun xs H Q=>∃ q ws ks,xs=[V.ref q]/\SqL K H q ws/\PrsV K H ws ks/\ks.Nodup/\∀ l,H l=none->Q (.ref l) (aH H l (.lst ((bT (mG ks) ws.length).map fun i=>ws.getD i .non)))
theorem MR {K:Qf}:dO K wA (CS K):=by
 intro π H μ xs d μ' vs Q R i hm k
 unfold wA at hm
 split at hm
 ·obtain ⟨ys,h1,hm⟩:=Qe.mp hm
  obtain ⟨ks,h2,hm⟩:=Qe.mp hm
  split at hm
  ·rename_i hb
   cases hm
   cases i with
   | cons i t=>
    cases t
    obtain ⟨p,ws,rfl,q,hd⟩:=qQ R i h1
    have hl:ws.length=ks.length:=by rw [hd.length,CP h2]
    refine ⟨p,ws,ks,rfl,q,CQ hd h2,hb,fun l hl'=>?_⟩
    obtain ⟨e2,R2,_⟩:=R.alloc (c:=.lst ((bT (mG ks) ks.length).map fun i=>ys.getD i .non)) (o:=.lst ((bT (mG ks) ws.length).map fun i=>ws.getD i .non)) hl' (by
     show IsDs _ _ _ _ _ _
     rw [hl]
     exact BB hd _)
    exact k _ _ _ e2 R2 iL
  ·cases hm
 ·cases hm
theorem MU {X:Cx}(hun:X.A.units+64<Sf):CallR X (.builtin "sorted") (CS X.K):=by
 intro a0V s σ H xs us Q I r h
 obtain ⟨q,ws,ks,rfl,hq,hp,hnd,k⟩:=h
 obtain ⟨u,rfl,ru⟩:=fP r
 cases ru
 obtain ⟨its,rv,pl,hz⟩:=I.list hq
 have hlen:=rv.length
 have hkl:ks.length=ws.length:=hp.length.symm
  -- the values are refs
 have at_:∀ i,i<its.length->∃ a b y,its[i]? = some (.ref a)/\SqT X.K H a [V.ref b,y]/\SqT X.K H b ((ks.getD i []).map V.int):=fun i hi=>by
  obtain ⟨a,b,y,ea,sa,sb⟩:=hp.get (i:=i) (by omega)
  obtain ⟨u,h1,h2⟩:=rv.get ea
  cases h2
  exact ⟨a,b,y,h1,sa,sb⟩
 have refs:∃ as:List Addr,its=as.map QL:=by
  clear at_ hz pl hnd k hq I hlen hkl
  induction hp generalizing its with
  | nil=>cases rv;exact ⟨[],rfl⟩
  | cons h _ ih=>
   cases rv with
   | cons r1 r2=>
    obtain ⟨as,e⟩:=ih _ r2
    obtain ⟨a,b,y,rfl,_⟩:=h
    cases r1
    exact ⟨a::as,by rw [e];rfl⟩
 obtain ⟨as,ei⟩:=refs
 have hal:as.length=its.length:=by rw [ei,Qm]
 have pr:∀ i,i<as.length->∃ b y,SqT X.K H (as.getD i 0) [V.ref b,y]/\SqT X.K H b ((ks.getD i []).map V.int):=fun i hi=>by
  obtain ⟨a,b,y,h1,h2,h3⟩:=at_ i (by omega)
  have:as.getD i 0=a:=by
   rw [ei,Ra] at h1
   obtain ⟨a',g1,g2⟩:=Qk.mp h1
   cases g2
   simp [RC,g1]
  rw [this]
  exact ⟨b,y,h2,h3⟩
 have nda:as.Nodup:=by
  refine Q5.mpr fun i j hi hj hij e=>?_
  obtain ⟨b,y,h1,h2⟩:=pr i hi
  obtain ⟨b',y',f1,f2⟩:=pr j hj
  have e1:as.getD i 0=as[i]:=by simp [RC,hi]
  have e2:as.getD j 0=as[j]:=by simp [RC,hj]
  rw [e1] at h1
  rw [e2,<- e] at f1
  obtain ⟨x1,r1,t1,_⟩:=I.tuple h1
  obtain ⟨x2,r2,t2,_⟩:=I.tuple f1
  obtain ⟨o1,a1,_,n1,d1⟩:=t1
  obtain ⟨o2,a2,_,n2,d2⟩:=t2
  rw [a1] at a2
  cases a2
  rw [d1] at d2
  have hx:x1=x2:=by
   injection d2 with d2
   simpa using d2
  subst hx
  cases r1 with
  | cons p1 _=>
   cases r2 with
   | cons p2 _=>
    cases p1
    cases p2
    have hk:=KZ I h2 f2
    have g1:ks.getD i []=ks[i]:=by simp [RC,show i<ks.length by omega]
    have g2:ks.getD j []=ks[j]:=by simp [RC,show j<ks.length by omega]
    rw [g1,g2] at hk
    exact (Q5.mp hnd) i j (by omega) (by omega) hij hk
 have ndi:its.Nodup:=by
  rw [ei]
  unfold V7
  rw [RR]
  exact nda.imp fun h e=>h (by cases e;rfl)
 refine MQ B2 [] (ks:=ks) (by omega) hnd ndi (by omega) pl.isList (fun h22 h3 kp=>?_) ?_
 ·have I3:Inv X a0V σ H { s with heap:=h3,toks:=s.toks }:=I.kept (t':=s.toks) kp
  rw [ei]
  refine MP (A:=X.A.in1.in1) (s:={ s with heap:=h3 }) (by show X.A.units+1+1<Sf;omega) (by omega) (by omega) (fun i hi=>?_) hnd
  obtain ⟨b,y,h1,h2⟩:=pr i hi
  obtain ⟨xs,rx,⟨o,e,c,n,d⟩,_⟩:=I3.tuple h1
  cases rx with
  | cons p1 p2=>
   cases p1
   cases p2 with
   | cons p2 p3=>
    cases p3
    obtain ⟨ys,ry,t,_⟩:=I3.tuple h2
    exact ⟨o,n,b,_,e,c,d,gP I3 h2,ys,t,Bu ry⟩
 ·obtain ⟨e,he⟩:=UO s.heap its ((bT (fun i j=>HT.lexLt (ks.getD i []) (ks.getD j [])) its.length).map fun i=>its.getD i RU).toArray
  refine ⟨.ref (s.heap.objs.size+1),_,I.laid (t':=s.toks) (a:=s.heap.objs.size+1) (o:=.lst ((bT (mG ks) ws.length).map fun i=>ws.getD i .non)) (fun b ob z=>Uz z) (UP _) ?_,rfl,k _ (I.hok.fresh (UP _))⟩
  refine ⟨?_,_,e,?_,he⟩
  ·rw [Qm,(fJ _ _).length_eq,We]
   exact hz
  ·rw [<- hlen]
   have hin:∀ i∈bT (mG ks) ws.length,i<ws.length:=fun i hi=>Su.mp ((fJ _ _).mem_iff.mp hi)
   have each:∀ l:List Nat,(∀ i∈l,i<ws.length)->Vals (l.map fun i=>ws.getD i .non) (l.map fun i=>its.getD i RU):=fun l=>by
    induction l with
    | nil=>intro _;exact .nil
    | cons i l ih=>
     intro hl
     refine .cons ?_ (ih fun j hj=>hl j (QH _ hj))
     have hi:=hl i (QN ..)
     obtain ⟨u,g1,g2⟩:=rv.get (Ql hi)
     have e1:ws.getD i .non=ws[i]:=by simp [RC,hi]
     have e2:its.getD i RU=u:=by simp [RC,g1]
     show RelV (ws.getD i .non) (its.getD i RU)
     rw [e1,e2]
     exact g2
   exact each _ hin
end L3
namespace L3
open PySem L2 PySem.Builtin PySem.Builtin.Str
noncomputable def m4:D->List D->Hm->Option (D×Hm)
 | .str x,[.str y],μ=>if (y.length == 0)=false/\x.length+2<=Qs then some (.loc μ.length,μ++[.lst ((UJ x y).map D.str)]) else none
 | _,_,_=>none
noncomputable def CT:V->List V->Hp->VK->Prop:=fun x vs H Q=>∃ (a b:Str),x=.str a/\vs=[.str b]/\(b.length == 0)=false/\a.length+2<=Qs/\∀ l,H l=none->Q (.ref l) (aH H l (.lst ((UJ a b).map V.str)))
theorem isStrs' {K:Qf}{π:Nat->Addr}{n:Nat}{H:Hp}:∀ (k:List Str),IsDs K π n H (k.map V.str) (k.map D.str)
 | []=>.nil
 | x::k=>.cons (.str x) (isStrs' k)
theorem MV {K:Qf}:fI K m4 CT:=by
 intro π H μ x xs d μ' v vs Q R ix ixs hm k
 unfold m4 at hm
 split at hm
 ·split at hm
  ·rename_i hb
   cases hm
   cases ix
   cases ixs with
   | cons i t=>
    cases i
    cases t
    refine ⟨_,_,rfl,rfl,hb.1,hb.2,fun l hl=>?_⟩
    obtain ⟨e2,R2,_⟩:=R.alloc (c:=.lst ((UJ _ _).map D.str)) (o:=.lst ((UJ _ _).map V.str)) hl (isStrs' _)
    exact k _ _ _ e2 R2 iL
  ·cases hm
 ·cases hm
theorem CU:∀ l:List (Str×YB),Vals ((l.map (·.1)).map V.str) (Yh l)
 | []=>.nil
 | p::l=>.cons ⟨p.2,rfl⟩ (CU l)
theorem MW {X:Cx}:f9 X "str.split" CT:=by
 intro a0V s σ H x vs v us Q I rx rv h
 obtain ⟨a,b,rfl,rfl,hy,hsz,q⟩:=h
 obtain ⟨t,rfl⟩:=rx
 obtain ⟨u,rfl,ru⟩:=rv.one
 obtain ⟨t2,rfl⟩:=ru
 have fin:∀ (l:List (Str×YB))(tk:Nat),l.map (·.1)=UJ a b->l.length<=Qs->EP X a0V σ Q (.ref s.heap.objs.size) { s with heap:=s.heap.push { cls:=.type "list",data:=.seq (Yh l).toArray },toks:=tk }:=fun l tk e hl=>by
  refine ⟨.ref s.heap.objs.size,_,I.laid (t':=tk) (a:=s.heap.objs.size) (o:=.lst ((UJ a b).map V.str)) (fun c ob z=>Qo _ z) (Qq _) ?_,rfl,q _ (I.hok.fresh (Qq _))⟩
  rw [<- e]
  exact ⟨by rw [Qm,Qm];exact hl,Yh l,0,CU l,QY _ rfl⟩
 have hn:(partsBetween a (occurrences a b 0 a.length (a.length+1)) b.length).length<=Qs:=by
  have e1:=StrLaws.occ_length_le a b 0 a.length (a.length+1)
  rw [length_partsBetween];omega
 have one:(1:Nat)<=Qs:=by rw [Ro];decide
 cases h1:(decide (a.length<b.length)||decide (strKind a<strKind b))
 ·cases hf:(occurrences a b 0 a.length (a.length+1)).isEmpty
  ·refine Vk F.slot_str_split (Vi _ _ _) F.entry_str_split (F.args_str_split_2 _ _) (meets_str_split_sep a b t t2 h1 hy hf (by omega) hn) ?_
   show wants (EP X a0V σ Q) X.xe _ { s with toks:=_,heap:=s.heap.push { cls:=.type "list",data:=.seq (strsFrom s.toks (partsBetween a (occurrences a b 0 a.length (a.length+1)) b.length)).toArray } }
   rw [strsFrom_eq]
   refine fin (numbered s.toks _) _ ((a0L _ _).trans ((if_neg (ne_true_of_eq_false h1)).trans (if_neg (ne_true_of_eq_false hf))).symm) ?_
   have:=congrArg Si (a0L s.toks (partsBetween a (occurrences a b 0 a.length (a.length+1)) b.length))
   rw [Qm] at this
   rw [this]
   exact hn
  ·exact Vk F.slot_str_split (Vi _ _ _) F.entry_str_split (F.args_str_split_2 _ _) (meets_str_split_not_found a b t t2 h1 hy hf) (fin [(a,t)] s.toks ((if_neg (ne_true_of_eq_false h1)).trans (if_pos hf)).symm one)
 ·exact Vk F.slot_str_split (Vi _ _ _) F.entry_str_split (F.args_str_split_2 _ _) (meets_str_split_cannot_occur a b t t2 h1) (fin [(a,t)] s.toks (if_pos h1).symm one)
end L3
namespace L3
open PySem L2
structure Sig where
 fn:List (Str×Nat)
 con:List (Str×D)
 tab:List (Str×List (aF×D))
 no:List Str
 dIt:List Str
 dEq:List Str
 dMe:List Str
structure Cs where
 N:List Str
 ks:List (Str×Ts)
noncomputable def jN (x:Str):List Str->Option Nat
 | []=>none
 | y::r=>if x=y then some 0 else (jN x r).map (·+1)
theorem oI {x:Str}:∀ {N:List Str}{i:Nat},jN x N=some i->N[i]? = some x
 | [],_,h=>by cases h
 | y::r,i,h=>by
  unfold jN at h
  split at h
  ·rename_i e;cases h;subst e;rfl
  ·obtain ⟨j,h1,h2⟩:=Qk.mp h
   subst h2
   have:=oI h1
   simpa using this
noncomputable def glob (c:Cs)(x:Str):Bool:=decide (c.ks.lookup x=some .globalImplicit)&&!(x == ("__debug__":Str))
noncomputable def lH (c:Cs)(x:Str):Bool:=(decide (c.ks.lookup x=some .local)||decide (c.ks.lookup x=some .cell)||decide (c.ks.lookup x=some .free))&&!(x == ("__debug__":Str))&&!(x == ("__classdict__":Str))
noncomputable def k9 (c:Cs)(x:Str):Bool:=decide (c.ks.lookup x=some .local)||decide (c.ks.lookup x=some .cell)
noncomputable def wB (x:Str):Option String:=
 if x = "int" then some "int" else if x = "bool" then some "bool" else if x = "str" then some "str" else if x = "list" then some "list" else if x = "tuple" then some "tuple" else if x = "dict" then some "dict" else none
theorem MX {x:Str}{n:String}(h:wB x=some n):Ss x=some (.type n)/\x ≠ "__name__":=by
 unfold wB at h
 split at h
 ·rename_i e;subst e;cases h;exact ⟨YK,by decide⟩
 split at h
 ·rename_i e;subst e;cases h;exact ⟨YL,by decide⟩
 split at h
 ·rename_i e;subst e;cases h;exact ⟨YG,by decide⟩
 split at h
 ·rename_i e;subst e;cases h;exact ⟨YH,by decide⟩
 split at h
 ·rename_i e;subst e;cases h;exact ⟨Uh,by decide⟩
 split at h
 ·rename_i e;subst e;cases h;exact ⟨VI,by decide⟩
 ·cases h
noncomputable def wC (S:Sig)(c:Cs)(x:Str):ME:=
 if lH c x=true then (match jN x c.N with|some i=>aA i|none=>bL)
 else if glob c x=true then (match S.con.lookup x with
  | some d=>mC d
  | none=>if S.no.contains x=true then (match wB x with|some n=>mC (.ty n)|none=>bL) else bL)
 else bL
noncomputable def eW (r:Qr->ME):List Qr->MA
 | []=>aD
 | e::es=>aC (r e) (eW r es)
noncomputable def rB (op:BoolOp):List ME->ME
 | []=>bL
 | [m]=>m
 | m::r=>match op with
  | .And=>dB m (rB op r)
  | .Or=>tY m (rB op r)
noncomputable def rC (op:BoolOp):List MT->MT
 | []=>kN
 | [m]=>m
 | m::r=>match op with
  | .And=>dA m (rC op r)
  | .Or=>dN m (rC op r)
noncomputable def CV (op:XE)(a b:ME):ME:=match op with
 | .Add=>aB cQ a b
 | .Sub=>aB nU a b
 | .Mult=>aB b7 a b
 | .FloorDiv=>aB dX a b
 | .Mod=>aB bK a b
 | .Pow=>aB t8 a b
 | _=>bL
noncomputable def jO (op:UT)(ns:Bool)(a b:ME):ME:=match op with
 | .Eq=>aB (a9 false) a b
 | .NotEq=>aB (a9 true) a b
 | .Lt=>aB cK a b
 | .LtE=>aB lR a b
 | .Gt=>aB uE a b
 | .GtE=>aB uF a b
 | .In=>if ns=true then aB (cM false) a b else bL
 | .NotIn=>if ns=true then aB (cM true) a b else bL
 | _=>bL
noncomputable def wD (r:Qr->ME):List (Option Qr)->List Qr->Option (List (ME×ME))
 | [],[]=>some []
 | some k::ks,v::vs=>(wD r ks vs).map fun t=>(r k,r v)::t
 | _,_=>none
noncomputable def wF (r:Qr->ME):Option Qr->MO
 | none=>nS
 | some e=>gG (r e)
noncomputable def cW:MF:=fun ds μ=>match ds with
 | [.loc a]=>match μ[a]? with
  | some (.lst xs)=>some (.int xs.length,μ)
  | some (.dK kvs)=>some (.int kvs.length,μ)
  | some (.st ks)=>some (.int ks.length,μ)
  | some (.dT kvs)=>some (.int kvs.length,μ)
  | _=>none
 | _=>nW ds μ
noncomputable def m5:MF:=fun ds μ=>match ds with
 | [x]=>(bN μ x).map fun xs=>(.tup xs,μ)
 | _=>none
theorem MY {K:Qf}:dO K m5 (fun xs H Q=>∃ p ys,xs=[.ref p]/\((SqL K H p ys/\∀ l,H l=none->Q (.ref l) (aH H l (.tup ys)))\/(SqT K H p ys/\Q (.ref p) H))):=by
 intro π H μ xs d μ' vs Q R i hm k
 unfold m5 at hm
 split at hm
 ·obtain ⟨ys,h1,h2⟩:=Qk.mp hm
  cases h2
  cases i with
  | cons i t=>
   cases t
   obtain ⟨p,ws,rfl,q,hd⟩:=qA R i h1
   refine ⟨p,ws,rfl,?_⟩
   rcases q with q|q
   ·refine .inl ⟨q,fun l hl=>?_⟩
    obtain ⟨e2,R2⟩:=R.fresh (o:=.tup ws) hl
    exact k π _ _ e2 R2 (.tup (.of cE) (hd.mono e2))
   ·exact .inr ⟨q,k π _ H .refl R (.tup q hd)⟩
 ·cases hm
noncomputable def wG (x:Str):Option MF:=
 if x = "len" then some cW
 else if x = "isinstance" then some cH
 else if x = "tuple" then some m5
 else if x = "sorted" then some vL
 else none
noncomputable def MZ (K:Qf):List V->Hp->VK->Prop:=fun xs H Q=>uK K xs H Q\/(∃ a kvs,xs=[V.ref a]/\H a=some (.dK kvs)/\Q (.int kvs.length) H)\/(∃ a L,xs=[V.ref a]/\H a=some (pP a L)/\Q (.int L.length) H)\/Cq K xs H Q
theorem M0 {K:Qf}:dO K cW (MZ K):=by
 intro π H μ xs d μ' vs Q R i hm k
 unfold cW at hm
 split at hm
 ·rename_i a
  split at hm
  ·rename_i ys hy
   refine .inl (A2 π H μ _ d μ' vs Q R i ?_ k)
   simp only [nW,bN,hy]
   exact hm
  ·rename_i kvs hy
   cases hm
   cases i with
   | cons i t=>
    cases t
    cases i
    obtain ⟨ws,h1,h2,_⟩:=R.dK a kvs hy
    refine .inr (.inl ⟨_,ws,rfl,h1,?_⟩)
    have:=congrArg Si h2
    rw [Qm,Qm] at this
    rw [this]
    exact k π _ H .refl R (.int _)
  ·rename_i ks hy
   cases hm
   cases i with
   | cons i t=>
    cases t
    cases i
    obtain ⟨L,h1,h2,_⟩:=R.st a ks hy
    have:=congrArg Si h2
    rw [Qm] at this
    refine .inr (.inr (.inl ⟨_,L,rfl,h1,?_⟩))
    rw [this]
    exact k π _ H .refl R (.int _)
  ·rename_i kvs hy
   cases hm
   cases i with
   | cons i t=>
    cases t
    cases i
    obtain ⟨ps,h1,T⟩:=i9 R hy
    have:=congrArg Si T.to.1
    rw [Qm,Qm] at this
    refine .inr (.inr (.inr ⟨_,ps,rfl,h1,T.keys,?_⟩))
    rw [this]
    exact k π _ H .refl R (.int _)
  ·cases hm
 ·exact .inl (A2 π H μ _ d μ' vs Q R i hm k)
theorem M3 {X:Cx}{x:Str}{f:MF}(hcalm:X.calm=true)(hun:X.A.units+64<Sf)(h:wG x=some f):∃ v r,Ss x=some v/\((∃ id,v=.builtin id)\/∃ T,v=.type T)/\CallR X v r/\dO X.K f r/\x ≠ "__name__":=by
 unfold wG at h
 split at h
 ·rename_i e;subst e;cases h;exact ⟨_,_,YI,.inl ⟨_,rfl⟩,call_lenM.or (call_lenD.or (call_lenT.or LZ)),M0,by decide⟩
 split at h
 ·rename_i e;subst e;cases h;exact ⟨_,_,YJ,.inl ⟨_,rfl⟩,Jg,Jf,by decide⟩
 split at h
 ·rename_i e;subst e;cases h;exact ⟨_,_,Uh,.inr ⟨_,rfl⟩,Ae,MY,by decide⟩
 split at h
 ·rename_i e;subst e;cases h;exact ⟨_,_,Uc,.inl ⟨_,rfl⟩,call_sortI.or Ll,LF,by decide⟩
 ·cases h
noncomputable def wH (x:Str):Option MF:=
 if x = "dict" then some k6 else
 wG x
theorem M4 {X:Cx}{x:Str}{f:MF}(hcalm:X.calm=true)(hun:X.A.units+64<Sf)(h:wH x=some f):∃ v r,Ss x=some v/\((∃ id,v=.builtin id)\/∃ T,v=.type T)/\CallR X v r/\dO X.K f r/\x ≠ "__name__":=by
 unfold wH at h
 split at h
 ·rename_i e;subst e;cases h;exact ⟨_,_,VI,.inr ⟨_,rfl⟩,Me hcalm hun,Mf,by decide⟩
 exact M3 hcalm hun h
noncomputable def CW (m:Str)(n:Nat):Option (D->List D->Hm->Option (D×Hm)):=
 if n=1 then (if m = "append" then some jH
  else if m = "extend" then some mE
  else none)
 else none
noncomputable def CY (S:Sig):Qr->List Qr->Option Qr
 | .Name x _,[.Name y p]=>if S.dEq.contains y=true then (if x = "sorted" then some (.Name y p) else none) else none
 | _,_=>none
noncomputable def CZ (S:Sig)(o:Qr)(m:Str)(n:Nat):Option (D->List D->Hm->Option (D×Hm)):=
 if m = "get"/\n=1 then some mZ else
 if m = "get"/\n=2 then some gZ else
 none
noncomputable def wI (S:Sig)(c:Cs)(tg:Qr):Qr->Option Nat
 | .Name x _=>match tg with
  | .Name _ _=>if S.dIt.contains x=true then jN x c.N else none
  | _=>none
 | _=>none
noncomputable def wJ (S:Sig)(F:Str->MF)(r:Qr->ME)(c:Cs)(f:Qr)(args:List Qr)(cpos:SE):ME:=match f with
 | .Name x _=>if glob c x&&args.all dC then (match S.fn.lookup x with
   | some n=>if args.length=n then aI (F x) (eW r args) else bL
   | none=>if S.no.contains x&&!args.isEmpty then (match wH x with|some g=>aI g (eW r args)|none=>bL) else bL)
  else bL
 | .Attribute o m apos=>if kP o&&(apos.endLine == cpos.line)&&args.all dC then (
   match CZ S o m args.length with
   | some g=>gY g (r o) (eW r args)
   | none=>
   if m = "split" then (match args with|[b]=>eS m4 (r o) (eW r [b])|_=>bL) else
   match CW m args.length with
   | some g=>iV g (r o) (eW r args)
   | none=>
    if m = "join" then (match args with|[b]=>eS fK (r o) (eW r [b])|_=>bL) else
    bL)
  else bL
 | _=>bL
noncomputable def wK:Qr->Option (Qr×List Qr)
 | .Call f as [] _=>some (f,as)
 | _=>none
theorem M5 {e f:Qr}{as:List Qr}(h:wK e=some (f,as)):∃ pos,e=.Call f as [] pos:=by
 unfold wK at h
 split at h
 ·cases h;exact ⟨_,rfl⟩
 ·cases h
noncomputable def rD:Qr->Option Str
 | .Name x _=>some x
 | _=>none
theorem C0 {e:Qr}{x:Str}(h:rD e=some x):∃ p,e=.Name x p:=by
 unfold rD at h
 split at h
 ·cases h;exact ⟨_,rfl⟩
 ·cases h
noncomputable def o1:List Qr->Option Qr
 | [e]=>some e
 | _=>none
theorem C1 {l:List Qr}{e:Qr}(h:o1 l=some e):l=[e]:=by
 unfold o1 at h
 split at h
 ·cases h;rfl
 ·cases h
noncomputable def C2 (f:Qr)(args:List Qr):Option (Str×Str×Qr):=(rD f).bind fun x=>(o1 args).bind fun a=>(wK a).bind fun g=>(rD g.1).bind fun y=>(o1 g.2).map fun e=>(x,y,e)
theorem M6 {f:Qr}{args:List Qr}{x y:Str}{e:Qr}(h:C2 f args=some (x,y,e)):∃ p p2 pos,f=.Name x p/\args=[.Call (.Name y p2) [e] [] pos]:=by
 obtain ⟨x',h1,h⟩:=Qe.mp h
 obtain ⟨a,h2,h⟩:=Qe.mp h
 obtain ⟨g,h3,h⟩:=Qe.mp h
 obtain ⟨y',h4,h⟩:=Qe.mp h
 obtain ⟨e',h5,h⟩:=Qk.mp h
 cases h
 obtain ⟨p,rfl⟩:=C0 h1
 obtain ⟨pos,rfl⟩:=M5 h3
 obtain ⟨p2,h4⟩:=C0 h4
 exact ⟨p,p2,pos,rfl,by rw [C1 h2,h4,C1 h5]⟩
noncomputable def wL (S:Sig)(F:Str->MF)(r:Qr->ME)(c:Cs)(f:Qr)(args:List Qr)(cpos:SE):ME:=
 wJ S F r c f args cpos
noncomputable def wM:Qr->Option (Qr×SE×SE)
 | .Call g [] [] cpos=>match g with
  | .Attribute o m apos=>if m = "items" then some (o,apos,cpos) else none
  | _=>none
 | _=>none
theorem M7 {e o:Qr}{apos cpos:SE}(h:wM e=some (o,apos,cpos)):e=.Call (.Attribute o "items" apos) [] [] cpos:=by
 unfold wM at h
 split at h
 ·split at h
  ·split at h
   ·rename_i e1;cases h;rw [e1]
   ·cases h
  ·cases h
 ·cases h
noncomputable def M8 (f:Qr)(args:List Qr):Option (Qr×SE×SE):=(C2 f args).bind fun t=>if t.1 = "tuple"/\t.2.1 = "sorted" then wM t.2.2 else none
noncomputable def wN (S:Sig)(F:Str->MF)(r:Qr->ME)(c:Cs)(f:Qr)(args:List Qr)(cpos:SE):ME:=
 match M8 f args with
 | some q=>if glob c "sorted" && glob c "tuple" && S.no.contains "sorted" && S.no.contains "tuple" && kP q.1&&(q.2.1.endLine == q.2.2.line) then jM (r q.1) else bL
 | none=>
 match CY S f args with
 | some e=>if glob c "sorted" && S.no.contains "sorted" then aI wA (eW r [e]) else bL
 | none=>
 wL S F r c f args cpos
noncomputable def oJ (c:Cs)(scope:Tz)(xs:List Str):Bool:=
 (scope.names.all fun y=>decide (y.2≠.cell))&&decide (scope.kind=.function)&&(scope.names.all fun y=>decide (y.2≠.local)||decide (scope.names.lookup y.1=some .local)) &&
 (xs.all fun x=>decide (scope.names.lookup x=some .local))&&decide xs.Nodup&&(scope.names.all fun y=>decide (y.2≠.free)||decide (c.ks.lookup y.1=some .cell)||decide (c.ks.lookup y.1=some .free)) &&
 (scope.names.all fun y=>decide (y.2≠.local)||!(bC xs c.N).contains y.1)&&decide (bC xs c.N).Nodup&&(c.N.all fun y=>!xs.contains y||decide (scope.names.lookup (lS y)=none))
noncomputable def oK (c:Cs)(scope:Tz)(xs:List Str):Cs:=
 ⟨bC xs c.N++xs,scope.names.map fun (n,k)=>if (k == S1&&c.ks.lookup n == some .cell) then (n,Te) else (n,k)⟩
noncomputable def C3 (r:Qr->MT):List Qr->MT
 | []=>dP
 | [t]=>r t
 | _=>kN
noncomputable def wO (S:Sig)(c:Cs):Qr->Option (List Qr)
 | .Call (.Name x _) args [] _=>if x = "range" then (if glob c x&&S.no.contains x&&args.all dC then some args else none) else none
 | _=>none
noncomputable def rF (S:Sig)(r:Qr->ME)(c:Cs)(e:Qr):MI:=match wO S c e with
 | some [a]=>fR (eW r [a])
 | some [a,b]=>jG (eW r [a,b])
 | some _=>uQ
 | none=>dD (r e)
noncomputable def wQ (S:Sig)(c:Cs):Qr->Option Qr
 | .Call (.Name x _) [a] [] _=>if x = "enumerate" then (if glob c x&&S.no.contains x&&dC a then some a else none) else none
 | _=>none
noncomputable def wR (S:Sig)(r:Qr->ME)(c:Cs)(e:Qr):MI:=match wQ S c e with
 | some _=>uQ
 | none=>rF S r c e
noncomputable def wU (S:Sig)(r:Qr->ME)(c:Cs)(e:Qr):MI:=wR S r c e
noncomputable def wV:Qr->Option (List Str)
 | .Name x _=>some [x]
 | .Tuple es _ _=>es.mapM fun e=>match e with|.Name x _=>some x|_=>none
 | _=>none
noncomputable def wW:Qr->Nat->BD
 | .Tuple ..,n=>A0 n
 | _,_=>nV
noncomputable def jP (S:Sig)(r:Qr->ME)(c:Cs)(tg e:Qr):MI:=match tg with
 | .Tuple ..=>wU S r c e
 | _=>rF S r c e
noncomputable def g8 (mi:MI)(rE:Cs->Qr->ME)(rT:Cs->Qr->MT)(c:Cs)(elt tg iter:Qr)(ifs:List Qr)(scope:Tz):ME:=match wV tg with
 | some xs=>if oJ c scope xs&&eB iter then l7 (wW tg xs.length) mi (C3 (rT (oK c scope xs)) ifs) (rE (oK c scope xs) elt) else bL
 | none=>bL
noncomputable def wX (S:Sig)(rE:Cs->Qr->ME)(rT:Cs->Qr->MT)(c:Cs)(elt tg iter:Qr)(ifs:List Qr)(scope:Tz):ME:=
 match wI S c tg iter with
 | some i=>k7 i (g8 (eV (rE c iter)) rE rT c elt tg iter ifs scope) (g8 (jP S (rE c) c tg iter) rE rT c elt tg iter ifs scope)
 | none=>
 g8 (jP S (rE c) c tg iter) rE rT c elt tg iter ifs scope
noncomputable def C4:Const->ME
 | .int i=>mC (.int i)
 | .bool b=>mC (.bl b)
 | .str s=>mC (.str s)
 | .none=>mC .non
 | _=>bL
noncomputable def C5 (m:ME):UnaryOp->ME
 | .USub=>nZ m
 | .Not=>kH m
 | _=>bL
noncomputable def wY (S:Sig)(r:Qr->ME)(a:Qr):List UT->List Qr->ME
 | [op],[b]=>jO op (eB b) (r a) (r b)
 | [op,op'],[b,b']=>(match i6 op,i6 op' with
  | some p,some q=>gU (d7 p) (d7 q) (r a) (r b) (r b')
  | _,_=>bL)
 | _,_=>bL
noncomputable def wZ (r:Qr->ME)(keys:List (Option Qr))(values:List Qr):ME:=match wD r keys values with
 | some prs=>if !keys.isEmpty&&decide (keys.length<=15) then iT prs else bL
 | none=>bL
noncomputable def w4 (r:Qr->ME):List (Option Qr)->List Qr->ME
 | [],[]=>mU
 | keys,values=>wZ r keys values
noncomputable def w5 (S:Sig)(r:Qr->ME)(c:Cs)(a b:Qr):ME:=match b with
 | .Slice lo hi none _=>gH (r a) (wF r lo) (wF r hi)
 | b=>if kL b then aB aG (r a) (r b) else bL
noncomputable def w6 (r:Qr->ME)(es:List Qr):ME:=if es.all dC then cT (eW r es) else bL
noncomputable def w8 (r:Qr->ME)(es:List Qr):ME:=if es.all dC then fC (eW r es) else bL
noncomputable def w9 (S:Sig)(F:Str->MF)(r:Qr->ME)(c:Cs)(f:Qr)(args:List Qr)(cpos:SE):List T7->ME
 | []=>wN S F r c f args cpos
 | _=>bL
noncomputable def xA (S:Sig)(rE:Cs->Qr->ME)(rT:Cs->Qr->MT)(c:Cs)(elt:Qr)(scope:Tz):List Comprehension->ME
 | [⟨tg,iter,ifs,0⟩]=>wX S rE rT c elt tg iter ifs scope
 | _=>bL
noncomputable def C6 (S:Sig)(F:Str->MF)(rE:Cs->Qr->ME)(rT:Cs->Qr->MT)(c:Cs):Qr->ME
 | .Name x _=>wC S c x
 | .Constant v _ _=>C4 v
 | .BinOp a op b _=>CV op (rE c a) (rE c b)
 | .UnaryOp op a _=>C5 (rE c a) op
 | .Compare a ops bs _=>wY S (rE c) a ops bs
 | .BoolOp op vs _=>rB op (vs.map (rE c))
 | .IfExp t a b _=>gD (rT c t) (rE c a) (rE c b)
 | .Tuple es _ _=>w6 (rE c) es
 | .List es _=>w8 (rE c) es
 | .Dict keys values _=>w4 (rE c) keys values
 | .Subscript a b _=>w5 S (rE c) c a b
 | .Call f args kws cpos=>w9 S F (rE c) c f args cpos kws
 | .ListComp elt gs scope _=>xA S rE rT c elt scope gs
 | _=>bL
noncomputable def oM (r:Qr->ME)(e:Qr):MT:=if uN e then bX (r e) else kN
noncomputable def xB (S:Sig)(r:Qr->ME)(a:Qr)(ops:List UT)(bs:List Qr)(p:SE):MT:=match ops,bs with
 | [op],[b]=>aU (jO op (eB b) (r a) (r b))
 | [op,op'],[b,b']=>(match i6 op,i6 op' with
  | some p,some q=>aU (gU (d7 p) (d7 q) (r a) (r b) (r b'))
  | _,_=>kN)
 | ops,bs=>oM r (.Compare a ops bs p)
noncomputable def M9 (r:Qr->ME)(t:MT)(a:Qr)(p:SE):UnaryOp->MT
 | .Not=>t
 | op=>oM r (.UnaryOp op a p)
noncomputable def C7 (S:Sig)(rE:Cs->Qr->ME)(rT:Cs->Qr->MT)(c:Cs):Qr->MT
 | .BoolOp op vs _=>rC op (vs.map (rT c))
 | .UnaryOp op a p=>M9 (rE c) (cJ (rT c a)) a p op
 | .Compare a ops bs p=>xB S (rE c) a ops bs p
 | e=>oM (rE c) e
noncomputable def tr (S:Sig)(F:Str->MF):Nat->(Cs->Qr->ME)×(Cs->Qr->MT)
 | 0=>(fun _ _=>bL,fun _ _=>kN)
 | n+1=>(C6 S F (tr S F n).1 (tr S F n).2,C7 S (tr S F n).1 (tr S F n).2)
structure Okx (S:Sig)(F:Str->MF)(k:Nat)(c:Cs)(X:Cx):Prop where
 N:X.N=c.N
 nd:X.N.Nodup
 ks:X.env.scope.names=c.ks
 kind:X.env.scope.kind=.function
 calm:X.calm=true
 room:Room k X.A
 never:Z0 (QX X.prog X.w) X.A X.env X.xe
 fn:∀ x n,S.fn.lookup x=some n->∃ (f:Addr)(fd:Th)(ps:List Str),FnOk X.prog X.w X.K X.mg X.base d6 k f fd ps (gC X.K n (F x))/\X.mg x=some (.ref f)/\SA X.K (.ref f)=true/\Binds X.K fd ps []
 con:∀ x d,S.con.lookup x=some d->∃ v u,X.mg x=some u/\RelV v u/\∀ π n H,IsD X.K π n H v d
 tab:∀ x kvs,S.tab.lookup x=some kvs->TabOk X x kvs
 no:∀ x,S.no.contains x=true->X.mg x=none
section
variable {S:Sig}{F:Str->MF}{k:Nat}{c:Cs}{X:Cx}
theorem Okx.gl (O:Okx S F k c X){x:Str}(h:glob c x=true):Gl X x/\(x == ("__debug__":Str))=false:=by
 unfold glob at h
 rw [Qy] at h
 refine ⟨?_,by simpa using h.2⟩
 show X.env.scope.names.lookup x=_
 rw [O.ks]
 exact of_decide_eq_true h.1
theorem Okx.vis (O:Okx S F k c X){x:Str}(h:lH c x=true):nI X.env.scope x/\(x == ("__debug__":Str))=false/\(x == ("__classdict__":Str))=false:=by
 unfold lH at h
 rw [Qy,Qy,T9,T9] at h
 obtain ⟨⟨h1,h2⟩,h3⟩:=h
 refine ⟨?_,by simpa using h2,by simpa using h3⟩
 unfold nI
 rw [O.ks]
 rcases h1 with (h1|h1)|h1
 ·exact .inl (of_decide_eq_true h1)
 ·exact .inr (.inl (of_decide_eq_true h1))
 ·exact .inr (.inr (of_decide_eq_true h1))
theorem Na (O:Okx S F k c X)(x:Str)(pos:SE):QE X (.Name x pos) (wC S c x):=by
 unfold wC
 split
 ·rename_i h
  obtain ⟨h1,h2,h3⟩:=O.vis h
  split
  ·rename_i i hi
   exact Jn i (by rw [O.N];exact oI hi) h1 h2 h3
  ·exact bR
 split
 ·rename_i h
  obtain ⟨h1,h2⟩:=O.gl h
  split
  ·rename_i d hd
   obtain ⟨v,u,m,r,i⟩:=O.con x d hd
   exact ⟨lK (Fb h1 m r h2) i⟩
  ·split
   ·rename_i hn
    split
    ·rename_i n ht
     obtain ⟨b1,b2⟩:=MX ht
     exact JW (O.no x hn) b1 h1 b2 h2
    ·exact bR
   ·exact bR
 ·exact bR
theorem jQ {r:Qr->ME}(hr:∀ e,QE X e (r e)):∀ (es:List Qr),es.all dC=true->QA X es (eW r es) es.length
 | [],_=>JL
 | e::es,h=>by
  rw [RK,Qy] at h
  exact JM (hr e) (jQ hr es h.2) h.1
theorem C8 {r:Qr->ME}(hr:∀ e,QE X e (r e))(op:BoolOp)(pos:SE):∀ (vs:List Qr),QE X (.BoolOp op vs pos) (rB op (vs.map r))
 | []=>bR
 | [e]=>JG (hr e)
 | e::e2::es=>by
  have ih:=C8 hr op pos (e2::es)
  cases op with
  | And=>exact JI (hr e) ih
  | Or=>exact JJ (hr e) ih
theorem C9 {r:Qr->MT}(hr:∀ e,QT X e (r e))(op:BoolOp)(pos:SE):∀ (vs:List Qr),QW X (.BoolOp op vs pos) (rC op (vs.map r))
 | []=>KA
 | [e]=>by
  cases op with
  | And=>exact J8 (hr e)
  | Or=>exact J9 (hr e)
 | e::e2::es=>by
  have ih:=C9 hr op pos (e2::es)
  cases op with
  | And=>exact Ka (hr e) ih
  | Or=>exact Kb (hr e) ih
theorem Nb {a b:Qr}{ma mb:ME}(ha:QE X a ma)(hb:QE X b mb)(op:XE)(pos:SE):QE X (.BinOp a op b pos) (CV op ma mb):=by
 cases op with
 | Add=>exact Js ha hb
 | Sub=>exact Jt ha hb
 | Mult=>exact Ju ha hb
 | FloorDiv=>exact Jv ha hb
 | Mod=>exact Jw ha hb
 | Pow=>exact Jx ha hb
 | _=>exact bR
theorem Nc (O:Okx S F k c X){a b:Qr}{ma mb:ME}(ha:QE X a ma)(hb:QE X b mb)(op:UT)(pos:SE):QE X (.Compare a [op] [b] pos) (jO op (eB b) ma mb):=by
 cases op with
 | Eq=>exact JA O.room ha hb
 | NotEq=>exact JB O.room ha hb
 | Lt=>exact JC ha hb
 | LtE=>exact JD ha hb
 | Gt=>exact JE ha hb
 | GtE=>exact JF ha hb
 | In=>
  simp only [jO]
  split
  ·rename_i h;exact L1 O.room ha hb h
  ·exact bR
 | NotIn=>
  simp only [jO]
  split
  ·rename_i h;exact L4 O.room ha hb h
  ·exact bR
 | _=>exact bR
theorem xC {e:Qr}:QT X e (aU bL):=⟨fun a0V s σ H Q I h=>by
 obtain ⟨π,ρ,μ,d,μ',R,E,hm,k⟩:=h
 cases hm⟩
theorem Nd (O:Okx S F k c X){a b:Qr}{ma mb:ME}(ha:QE X a ma)(hb:QE X b mb)(op:UT)(pos:SE):QT X (.Compare a [op] [b] pos) (aU (jO op (eB b) ma mb)):=by
 cases op with
 | Eq=>exact J0 O.room ha hb
 | NotEq=>exact J1 O.room ha hb
 | Lt=>exact J2 ha hb
 | LtE=>exact J3 ha hb
 | Gt=>exact J4 ha hb
 | GtE=>exact J5 ha hb
 | In=>
  simp only [jO]
  split
  ·rename_i h;exact L5 O.room ha hb h
  ·exact xC
 | NotIn=>
  simp only [jO]
  split
  ·rename_i h;exact L6 O.room ha hb h
  ·exact xC
 | _=>exact xC
theorem Dd {r:Qr->ME}(hr:∀ e,QE X e (r e))(pos:SE):∀ (ks:List (Option Qr))(vs:List Qr)(prs:List (ME×ME)),wD r ks vs=some prs->QP X pos ks vs prs
 | [],[],prs,h=>by cases h;exact JX
 | some k::ks,v::vs,prs,h=>by
  obtain ⟨t,h1,h2⟩:=Qk.mp h
  subst h2
  exact JY (hr k) (hr v) (Dd hr pos ks vs t h1)
 | none::ks,vs,prs,h=>by cases vs<;>cases h
 | some k::ks,[],prs,h=>by cases h
 | [],v::vs,prs,h=>by cases h
theorem De {r:Qr->ME}(hr:∀ e,QE X e (r e)):∀ o:Option Qr,QO X o (wF r o)
 | none=>JR
 | some e=>JS (hr e)
theorem Nf (O:Okx S F k c X){r:Qr->ME}(hr:∀ e,QE X e (r e))(f:Qr)(args:List Qr)(cpos:SE):QE X (.Call f args [] cpos) (wJ S F r c f args cpos):=by
 unfold wJ
 split
 ·rename_i x p
  split
  ·rename_i hg
   rw [Qy] at hg
   obtain ⟨g1,g2⟩:=O.gl hg.1
   have ha:=jQ hr args hg.2
   split
   ·rename_i n hn
    split
    ·rename_i hl
     obtain ⟨fa,fd,ps,FO,hm,hk,hb⟩:=O.fn x n hn
     subst hl
     cases args with
     | nil=>exact KO FO O.room hm hk hb g1 g2
     | cons e es=>exact JU FO O.room hm hk hb ha g1 g2
    ·exact bR
   ·split
    ·rename_i hno
     rw [Qy] at hno
     split
     ·rename_i g hb
      obtain ⟨v,rr,b1,b2,b3,b4,b5⟩:=M4 (X:=X) O.calm O.room.units hb
      cases args with
      | nil=>exact absurd hno.2 (by simp)
      | cons e es=>
       rcases b2 with ⟨id,rfl⟩|⟨T,rfl⟩
       ·exact A8 b3 b4 (O.no x hno.1) b1 ha g1 b5 g2
       ·exact JV b3 b4 (O.no x hno.1) b1 ha g1 b5 g2
     ·exact bR
    ·exact bR
  ·exact bR
 ·rename_i o m apos
  split
  ·rename_i hg
   rw [Qy,Qy] at hg
   obtain ⟨⟨h1,h2⟩,h3⟩:=hg
   have ha:=jQ hr args h3
   split
   ·rename_i g hm
    unfold CZ at hm
    split at hm
    ·rename_i hl
     obtain ⟨rfl,hl⟩:=hl
     cases hm
     cases args with
     | nil=>cases hl
     | cons e es=>exact CK Uj Xj (ML (by have:=O.room.units;omega)) MK (hr o) ha h1 h2 (by rw [hl];decide)
    split at hm
    ·rename_i hl
     obtain ⟨rfl,hl⟩:=hl
     cases hm
     cases args with
     | nil=>cases hl
     | cons e es=>exact CK Uj Xj (My (by have:=O.room.units;omega)) Mx (hr o) ha h1 h2 (by rw [hl];decide)
    cases hm
   split
   ·rename_i e1
    subst e1
    split
    ·exact Ca PySem.F.slot_str_split PySem.F.type_str_split MW MV (hr o) ha h1 h2 (by show 1<30;decide)
    ·exact bR
   split
   ·rename_i g hm
    unfold CW at hm
    split at hm
    ·rename_i hl
     cases args with
     | nil=>cases hl
     | cons e es=>
      have hn:(e::es).length<30:=by rw [hl];decide
      split at hm
      ·rename_i e1;subst e1;cases hm
       exact Bm PySem.F.slot_list_append PySem.F.type_list_append Ah KI (hr o) ha h1 h2 hn
      split at hm
      ·rename_i e1;subst e1;cases hm
       exact Bm PySem.F.slot_list_extend PySem.F.type_list_extend Hi KJ (hr o) ha h1 h2 hn
      ·cases hm
    ·cases hm
   ·skip
    split
    ·rename_i e1
     subst e1
     split
     ·exact Ca PySem.F.slot_str_join PySem.F.type_str_join LA Lz (hr o) ha h1 h2 (by show 1<30;decide)
     ·exact bR
    ·exact bR
  ·exact bR
 ·exact bR
theorem Ng (O:Okx S F k c X){r:Qr->ME}(hr:∀ e,QE X e (r e))(f:Qr)(args:List Qr)(cpos:SE):QE X (.Call f args [] cpos) (wL S F r c f args cpos):=by
 unfold wL
 exact Nf O hr f args cpos
theorem rG (O:Okx S F k c X){scope:Tz}{xs:List Str}(h:oJ c scope xs=true):CompSt X.env.scope X.N scope xs/\xs.Nodup:=by
 unfold oJ at h
 rw [Qy,Qy] at h
 obtain ⟨⟨h,h8⟩,h9⟩:=h
 have h8:=of_decide_eq_true h8
 have h9':∀ y∈c.N,xs.contains y=true->scope.names.lookup (lS y)=none:=fun y hy hc=>by
  have:=UB.mp h9 y hy
  rw [hc] at this
  simpa using this
 simp only [Qy,UB,decide_eq_true_eq,T9,Uo,List.contains_eq_mem,decide_eq_false_iff_not] at h
 obtain ⟨⟨⟨⟨⟨⟨h1,h2⟩,h3⟩,h4⟩,h7⟩,h5⟩,h6⟩:=h
 refine ⟨⟨h1,h2,fun y hy hl=>(h3 y hy).resolve_left (fun z=>z hl),h4,fun y hy hf=>?_,fun y hy hl=>?_,O.nd,by rw [O.N];exact h8,by rw [O.N];exact h9'⟩,h7⟩
 ·rw [O.ks]
  rcases h5 y hy with (z|z)|z
  ·exact absurd hf z
  ·exact .inl z
  ·exact .inr z
 ·rw [O.N]
  have:=(h6 y hy).resolve_left (fun z=>z hl)
  exact this
theorem Df {N xs:List Str}(h:N.Nodup)(h2:xs.Nodup)(h3:∀ x∈xs,x∉N):(N++xs).Nodup:=by
 rw [Uk]
 exact ⟨h,h2,fun a ha b hb e=>by subst e;exact h3 _ hb ha⟩
theorem Okx.comp (O:Okx S F k c X){scope:Tz}{xs:List Str}(h:oJ c scope xs=true){cl:List (Str×Addr)}{C:Addr}{s₀:Qj}{H₀:Hp}{fp:List Addr}:Okx S F k (oK c scope xs) (cB X scope cl C (bC xs X.N++xs) s₀ H₀ fp):=by
 obtain ⟨St,hnd⟩:=rG O h
 refine ⟨show bC xs X.N++xs=bC xs c.N++xs by rw [O.N],?_,?_,?_,O.calm,O.room,XW,O.fn,O.con,fun y kvs q=>⟨(O.tab y kvs q).ex⟩,O.no⟩
 ·show (bC xs X.N++xs).Nodup
  exact Df St.hnd hnd fun x hx=>St.own (x,.local) (RN (St.here x hx)) rfl
 ·show (ZM scope X.env).names=(oK c scope xs).ks
  unfold ZM oK
  dsimp only
  refine R0 fun y _=>?_
  obtain ⟨n,kk⟩:=y
  dsimp only
  have:(X.env.scope.kind == ScopeKind.function)=true:=by rw [O.kind];rfl
  rw [this,ZF]
  show (if (kk == S1&&X.env.scope.names.lookup n == some Te)=true then _ else _)=_
  rw [O.ks]
 ·show (ZM scope X.env).kind=.function
  exact St.kind
theorem Dg {r:Qr->MT}(hr:∀ e,QT X e (r e)):∀ es:List Qr,QI X es (C3 r es)
 | []=>Kd
 | [t]=>Ke (hr t)
 | a::b::es=>⟨fun a0V s σ H Q I h=>by
   obtain ⟨π,ρ,μ,d,μ',R,E,hm,k⟩:=h
   cases hm⟩
theorem Dh (O:Okx S F k c X){e:Qr}{args:List Qr}(h:wO S c e=some args):∃ p pos,e=.Call (.Name "range" p) args [] pos/\Gl X "range"/\X.mg "range" = none/\args.all dC=true:=by
 unfold wO at h
 split at h
 ·split at h
  ·rename_i e1
   subst e1
   split at h
   ·rename_i hg
    cases h
    rw [Qy,Qy] at hg
    exact ⟨_,_,rfl,(O.gl hg.1.1).1,O.no _ hg.1.2,hg.2⟩
   ·cases h
  ·cases h
 ·cases h
theorem Di (O:Okx S F k c X){r:Qr->ME}(hr:∀ e,QE X e (r e))(e:Qr):QJ X e (rF S r c e):=by
 unfold rF
 split
 ·rename_i a h
  obtain ⟨p,pos,rfl,h1,h2,h3⟩:=Dh O h
  exact Ks h1 h2 (jQ hr [a] h3)
 ·rename_i a b h
  obtain ⟨p,pos,rfl,h1,h2,h3⟩:=Dh O h
  exact Kt h1 h2 (jQ hr [a,b] h3)
 ·exact j_bad
 ·exact Kr (hr e)
theorem Nh (O:Okx S F k c X){e a:Qr}(h:wQ S c e=some a):∃ p pos,e=.Call (.Name "enumerate" p) [a] [] pos/\Gl X "enumerate"/\X.mg "enumerate" = none/\dC a=true:=by
 unfold wQ at h
 split at h
 ·split at h
  ·rename_i e1
   subst e1
   split at h
   ·rename_i hg
    cases h
    rw [Qy,Qy] at hg
    exact ⟨_,_,rfl,(O.gl hg.1.1).1,O.no _ hg.1.2,hg.2⟩
   ·cases h
  ·cases h
 ·cases h
theorem Ni (O:Okx S F k c X){r:Qr->ME}(hr:∀ e,QE X e (r e))(e:Qr):QJT X e (wR S r c e):=by
 unfold wR
 split
 ·rename_i a h
  obtain ⟨p,pos,rfl,h1,h2,h3⟩:=Nh O h
  exact j_bad.t
 ·exact (Di O hr e).t
theorem Nj (O:Okx S F k c X){r:Qr->ME}(hr:∀ e,QE X e (r e))(e:Qr):QJT X e (wU S r c e):=by
 unfold wU
 exact Ni O hr e
theorem m7 (O:Okx S F k c X){r:Qr->ME}(hr:∀ e,QE X e (r e))(tg e:Qr):PI X tg e (iU X.K (jP S r c tg e)):=by
 unfold jP
 split
 ·exact (Nj O hr e).h _ _ _
 ·exact (Di O hr e).h _
theorem Dj {iter:Qr}{env:Wg}(h:eB iter=true):∀ x,UH iter env x=pure x:=by
 intro z
 cases iter<;>first|rfl|cases h
end
theorem Dk {X:Cx}(hN:X.N.Nodup):∀ (es:List Qr)(xs:List Str)(n:Nat),(es.mapM fun e=>match e with|.Name x _=>some x|_=>none)=some xs->(∀ j x,xs[j]? = some x->X.N[n+j]? = some x/\X.env.scope.names.lookup x=some .local)->QGs X es (Vd n xs.length)
 | [],xs,n,h,hx=>by
  cases h
  exact A9
 | e::es,xs,n,h,hx=>by
  rw [List.mapM_cons] at h
  obtain ⟨x,h1,h⟩:=Qe.mp h
  obtain ⟨ys,h2,h⟩:=Qe.mp h
  cases h
  cases e with
  | Name y p=>
   cases h1
   rw [QU,Wu]
   have h0:=hx 0 x rfl
   refine Ba n hN (Dk hN es ys (n+1) h2 fun j z hz=>?_) (by simpa using h0.1) (.inl h0.2) (.inr h0.2)
   have:=hx (j+1) z (by simpa using hz)
   rw [show n+1+j=n+(j+1) by omega]
   exact this
  | _=>cases h1
theorem rH {S:Sig}{F:Str->MF}{k:Nat}{c:Cs}{X:Cx}(O:Okx S F k c X){scope:Tz}{tg:Qr}{xs:List Str}(hx:wV tg=some xs)(h:oJ c scope xs=true)(cl:List (Str×Addr))(C:Addr)(s₀:Qj)(H₀:Hp)(fp:List Addr) :
  PG (cB X scope cl C (bC xs X.N++xs) s₀ H₀ fp) tg (eK X.K (gB X.N.length (wW tg xs.length)))/\∀ d μ z,wW tg xs.length d μ=some z->z.length=xs.length:=by
 obtain ⟨St,hnd⟩:=rG O h
 have hN:(bC xs X.N++xs).Nodup:=Df St.hnd hnd fun x hx=>St.own (x,.local) (RN (St.here x hx)) rfl
 have hloc:∀ x∈xs,(ZM scope X.env).names.lookup x=some .local:=fun x hx=>lookup_relabel_local (St.here x hx)
 unfold wV at hx
 split at hx
 ·rename_i x p
  cases hx
  refine ⟨Ku (X:=cB X scope cl C (bC [x] X.N++[x]) s₀ H₀ fp) (by show (bC [x] X.N++[x]).length=_;rw [Qx,kI];rfl) (AX (X:=cB X scope cl C (bC [x] X.N++[x]) s₀ H₀ fp) hN (by show (bC [x] X.N++[x])[X.N.length]? = _;rw [<- kI [x] X.N];simp) (.inl (hloc x (by simp))) (.inr (hloc x (by simp)))),fun d μ z hz=>?_⟩
  cases hz
  rfl
 ·rename_i es kk pt
  refine ⟨Kv (X:=cB X scope cl C (bC xs X.N++xs) s₀ H₀ fp) (by show (bC xs X.N++xs).length=_;rw [Qx,kI]) (uO (X:=cB X scope cl C (bC xs X.N++xs) s₀ H₀ fp) (Dk (X:=cB X scope cl C (bC xs X.N++xs) s₀ H₀ fp) hN es xs X.N.length hx fun j x hj=>⟨?_,hloc x (Q2 hj)⟩) O.calm).h,fun d μ z hz=>?_⟩
  ·show (bC xs X.N++xs)[X.N.length+j]? = some x
   rw [QM (by rw [kI];omega),kI,show X.N.length+j - X.N.length=j by omega]
   exact hj
  ·obtain ⟨ys,h1,h2⟩:=Qe.mp hz
   split at h2
   ·rename_i hl
    cases h2
    rw [Qm];exact hl
   ·cases h2
 ·cases hx
theorem Nk (O:Okx S F k c X){r:Qr->ME}(hr:∀ e,QE X e (r e))(f:Qr)(args:List Qr)(cpos:SE):QE X (.Call f args [] cpos) (wN S F r c f args cpos):=by
 unfold wN
 split
 ·rename_i q h
  split
  ·rename_i hg
   rw [Qy,Qy,Qy,Qy,Qy] at hg
   obtain ⟨⟨⟨⟨⟨g1,g2⟩,n1⟩,n2⟩,st⟩,ln⟩:=hg
   obtain ⟨t,h1,h2⟩:=Qe.mp h
   split at h2
   ·rename_i hxy
    obtain ⟨p,p2,pos,rfl,rfl⟩:=M6 h1
    rw [hxy.1,hxy.2,M7 h2]
    exact MJ O.calm O.room.units (O.no _ n1) (O.no _ n2) (O.gl g1).1 (O.gl g2).1 (hr _) st ln
   ·cases h2
  ·exact bR
 split
 ·rename_i e h
  split
  ·rename_i hg
   rw [Qy] at hg
   unfold CY at h
   split at h
   ·split at h
    ·split at h
     ·rename_i e1;subst e1
      cases h
      exact A8 (MU O.room.units) MR (O.no _ hg.2) Uc (jQ hr _ rfl) (O.gl hg.1).1 (by decide) (O.gl hg.1).2
     ·cases h
    ·cases h
   ·cases h
  ·exact bR
 exact Ng O hr _ _ _
theorem rJ {S:Sig}{F:Str->MF}{k:Nat}{rE:Cs->Qr->ME}{rT:Cs->Qr->MT}(hE:∀ c X,Okx S F k c X->∀ e,QE X e (rE c e))(hT:∀ c X,Okx S F k c X->∀ e,QT X e (rT c e))(c:Cs)(X:Cx)(O:Okx S F k c X)
  (elt tg iter:Qr)(ifs:List Qr)(scope:Tz)(pos:SE){mi:MI}(hi:PI X tg iter (iU X.K mi)):QE X (.ListComp elt [⟨tg,iter,ifs,0⟩] scope pos) (g8 mi rE rT c elt tg iter ifs scope):=by
 unfold g8
 split
 ·rename_i xs hx
  split
  ·rename_i h
   rw [Qy] at h
   refine ⟨fun a0V s σ H Q I q=>?_⟩
   exact Ky ((rG O h.1).1.ok I.ok) O.calm hi (fun d μ z=>(rH O hx h.1 [] 0 s H []).2 d μ z) (fun C s₀ H₀ fp=>(rH O hx h.1 _ C s₀ H₀ fp).1) (fun C s₀ H₀ fp=>(Dg (hT _ _ (O.comp h.1)) _).h) (fun C s₀ H₀ fp=>(hE _ _ (O.comp h.1) _).h) (Dj h.2) a0V s σ H Q I q
  ·exact bR
 ·exact bR
theorem Nl {S:Sig}{F:Str->MF}{k:Nat}{rE:Cs->Qr->ME}{rT:Cs->Qr->MT}(hE:∀ c X,Okx S F k c X->∀ e,QE X e (rE c e))(hT:∀ c X,Okx S F k c X->∀ e,QT X e (rT c e))(c:Cs)(X:Cx)(O:Okx S F k c X)
  (elt tg iter:Qr)(ifs:List Qr)(scope:Tz)(pos:SE):QE X (.ListComp elt [⟨tg,iter,ifs,0⟩] scope pos) (wX S rE rT c elt tg iter ifs scope):=by
 unfold wX
 split
 ·exact Mq (rJ hE hT c X O elt tg iter ifs scope pos ((vZ (hE c X O iter)).h tg)) (rJ hE hT c X O elt tg iter ifs scope pos (m7 O (hE c X O) tg iter))
 exact rJ hE hT c X O elt tg iter ifs scope pos (m7 O (hE c X O) tg iter)
theorem Nm {X:Cx}{pos:SE}{keys:List (Option Qr)}{values:List Qr}{prs:List (ME×ME)}(h:QP X pos keys values prs)(h0:(!keys.isEmpty)=true)(h15:keys.length<=15):QE X (.Dict keys values pos) (iT prs):=by
 cases keys with
 | nil=>exact absurd h0 (by simp)
 | cons kk ks=>exact JZ h h15
section
variable {S:Sig}{F:Str->MF}{k:Nat}{c:Cs}{X:Cx}{r:Qr->ME}
theorem Nn (v:Const)(n:Nat)(p:SE):QE X (.Constant v n p) (C4 v):=by
 cases v<;>first|exact Jo|exact Jp|exact Jq|exact Jr|exact bR
theorem Np (hr:∀ e,QE X e (r e))(op:UnaryOp)(a:Qr)(p:SE):QE X (.UnaryOp op a p) (C5 (r a) op):=by
 cases op<;>first|exact Jy (hr _)|exact Jz (hr _)|exact bR
theorem Nq (O:Okx S F k c X)(hr:∀ e,QE X e (r e))(a:Qr)(ops:List UT)(bs:List Qr)(p:SE):QE X (.Compare a ops bs p) (wY S r a ops bs):=by
 unfold wY
 split
 ·exact Nc O (hr _) (hr _) _ _
 ·split
  ·rename_i h1 h2
   exact Lq h1 h2 (hr _) (hr _) (hr _)
  ·exact bR
 ·exact bR
theorem Nr (hr:∀ e,QE X e (r e))(ks:List (Option Qr))(vs:List Qr)(p:SE):QE X (.Dict ks vs p) (wZ r ks vs):=by
 unfold wZ
 split
 ·rename_i prs h
  split
  ·rename_i h2
   rw [Qy] at h2
   exact Nm (Dd hr _ _ _ _ h) h2.1 (of_decide_eq_true h2.2)
  ·exact bR
 ·exact bR
theorem Nt (O:Okx S F k c X)(hr:∀ e,QE X e (r e))(ks:List (Option Qr))(vs:List Qr)(p:SE):QE X (.Dict ks vs p) (w4 r ks vs):=by
 unfold w4
 try split
 ·exact LO
 ·exact Nr hr _ _ _
theorem Nu (O:Okx S F k c X)(hr:∀ e,QE X e (r e))(a b:Qr)(p:SE):QE X (.Subscript a b p) (w5 S r c a b):=by
 unfold w5
 split
 ·exact JT (hr _) (De hr _) (De hr _)
 ·split
  ·rename_i h
   ·exact L0 O.room (hr _) (hr _) h
  ·exact bR
theorem xD (hr:∀ e,QE X e (r e))(e:Qr):QT X e (oM r e):=by
 unfold oM
 split
 ·rename_i h;exact KN (hr _) h
 ·exact uR
theorem Nv (O:Okx S F k c X)(hr:∀ e,QE X e (r e))(a:Qr)(ops:List UT)(bs:List Qr)(p:SE):QT X (.Compare a ops bs p) (xB S r a ops bs p):=by
 unfold xB
 split
 ·exact Nd O (hr _) (hr _) _ _
 ·split
  ·rename_i h1 h2
   exact Lr h1 h2 (hr _) (hr _) (hr _)
  ·exact uR
 ·exact xD hr _
theorem Nw (hr:∀ e,QE X e (r e))(es:List Qr)(n:Nat)(p:SE):QE X (.Tuple es n p) (w6 r es):=by
 unfold w6
 split
 ·rename_i h;exact JN (jQ hr _ h)
 ·exact bR
theorem Nx (hr:∀ e,QE X e (r e))(es:List Qr)(p:SE):QE X (.List es p) (w8 r es):=by
 unfold w8
 split
 ·rename_i h;exact JO (jQ hr _ h)
 ·exact bR
theorem Ny (O:Okx S F k c X)(hr:∀ e,QE X e (r e))(f:Qr)(args:List Qr)(kws:List T7)(p:SE):QE X (.Call f args kws p) (w9 S F r c f args p kws):=by
 unfold w9
 split
 ·exact Nk O hr _ _ _
 ·exact bR
end
theorem Dl {S:Sig}{F:Str->MF}{k:Nat}{rE:Cs->Qr->ME}{rT:Cs->Qr->MT}(hE:∀ c X,Okx S F k c X->∀ e,QE X e (rE c e))(hT:∀ c X,Okx S F k c X->∀ e,QT X e (rT c e))(c:Cs)(X:Cx)(O:Okx S F k c X) :
  (∀ e,QE X e (C6 S F rE rT c e))/\∀ e,QT X e (C7 S rE rT c e):=by
 have hr:=hE c X O
 have ht:=hT c X O
 constructor
 ·intro e
  cases e with
  | Name x p=>exact Na O _ _
  | Constant v n p=>exact Nn v n p
  | BinOp a op b p=>exact Nb (hr _) (hr _) _ _
  | UnaryOp op a p=>exact Np hr op a p
  | Compare a ops bs p=>exact Nq O hr a ops bs p
  | BoolOp op vs p=>exact C8 hr _ _ _
  | IfExp t a b p=>exact JK (ht _) (hr _) (hr _)
  | Tuple es n p=>exact Nw hr es n p
  | List es p=>exact Nx hr es p
  | Dict ks vs p=>exact Nt O hr ks vs p
  | Subscript a b p=>exact Nu O hr a b p
  | Call f args kws cpos=>exact Ny O hr f args kws cpos
  | ListComp elt gs scope p=>
   show QE X _ (xA S rE rT c elt scope gs)
   unfold xA
   split
   ·exact Nl hE hT c X O _ _ _ _ _ _
   ·exact bR
  | _=>exact bR
 ·intro e
  cases e with
  | BoolOp op vs p=>exact Kc (C9 ht _ _ _)
  | UnaryOp op a p=>
   cases op
   case Not=>exact J7 (ht _)
   all_goals exact xD hr _
  | Compare a ops bs p=>exact Nv O hr a ops bs p
  | _=>exact xD hr _
theorem xE {S:Sig}{F:Str->MF}{k:Nat}:∀ (n:Nat),(∀ c X,Okx S F k c X->∀ e,QE X e ((tr S F n).1 c e))/\∀ c X,Okx S F k c X->∀ e,QT X e ((tr S F n).2 c e)
 | 0=>⟨fun c X O e=>bR,fun c X O e=>uR⟩
 | n+1=>by
  have ih:=xE (S:=S) (F:=F) (k:=k) n
  exact ⟨fun c X O e=>(Dl ih.1 ih.2 c X O).1 e,fun c X O e=>(Dl ih.1 ih.2 c X O).2 e⟩
end L3
namespace L3
open PySem L2
noncomputable def rK:MG:=fun _ _ _=>none
noncomputable def oN (c:Cs):List Qr->Option (List Nat)
 | []=>some []
 | .Name x _::r=>if k9 c x then (jN x c.N).bind fun i=>(oN c r).map (i::·) else none
 | _=>none
noncomputable def oO (c:Cs):Qr->MG
 | .Name x _=>if k9 c x then (match jN x c.N with|some i=>c3 i|none=>rK) else rK
 | .Tuple es _ _=>match oN c es with|some is=>lW is|none=>rK
 | _=>rK
noncomputable def jR (r:Stmt->MS):List Stmt->MS
 | []=>bJ
 | [s]=>r s
 | s::t=>aS (r s) (jR r t)
noncomputable def xF (S:Sig)(E:Cs->Qr->ME)(T:Cs->Qr->MT)(c:Cs)(i:Nat):Qr->MS
 | .ListComp elt [⟨tg,iter,ifs,0⟩] scope _=>match wI S c tg iter with
  | some j=>jA j (bF i (g8 (eV (E c iter)) E T c elt tg iter ifs scope)) (bF i (g8 (jP S (E c) c tg iter) E T c elt tg iter ifs scope))
  | none=>bF i (g8 (jP S (E c) c tg iter) E T c elt tg iter ifs scope)
 | _=>c5
noncomputable def xG (S:Sig)(E:Cs->Qr->ME)(T:Cs->Qr->MT)(c:Cs)(tg e:Qr):MS:=match tg with
 | .Name y _=>if k9 c y then (match jN y c.N with
   | some i=>if gM e then bF i (E c e) else xF S E T c i e
   | none=>c5) else c5
 | .Tuple es _ _=>if uP e then (match oN c es with|some is=>uJ (E c e) (lW is)|none=>c5)
   else c5
 | .Subscript o i _=>if gM e&&kL i then i8 (E c o) (E c i) (E c e) else c5
 | _=>c5
noncomputable def xH (S:Sig)(E:Cs->Qr->ME)(T:Cs->Qr->MT)(c:Cs)(r:Stmt->MS):Stmt->MS
 | .Return (some e) _=>aV (E c e)
 | .Return none _=>aV (mC .non)
 | .If t a b _=>bO (T c t) (jR r a) (jR r b)
 | .Assign [tg] e _=>xG S E T c tg e
 | .Expr e _=>if gM e then iM (E c e) else c5
 | .For tg iter body [] _=>if eB iter then
  (match wI S c tg iter with
  | some j=>jA j (c4 (eV (E c iter)) (oO c tg) (jR r body)) (c4 (jP S (E c) c tg iter) (oO c tg) (jR r body))
  | none=>c4 (jP S (E c) c tg iter) (oO c tg) (jR r body))
  else c5
 | .Pass _=>bJ
 | _=>c5
noncomputable def xI (S:Sig)(F:Str->MF)(m:Nat)(c:Cs):Nat->Stmt->MS
 | 0=>fun _=>c5
 | n+1=>xH S (tr S F m).1 (tr S F m).2 c (xI S F m c n)
section
variable {S:Sig}{F:Str->MF}{k:Nat}{c:Cs}{X:Cx}
theorem Okx.own (O:Okx S F k c X){x:Str}(h:k9 c x=true):L2.Loc X.env.scope x:=by
 unfold k9 at h
 rw [T9] at h
 unfold L2.Loc
 rw [O.ks]
 exact h.imp of_decide_eq_true of_decide_eq_true
theorem xJ (O:Okx S F k c X)(hf:∀ x,X.fn x=true):∀ (es:List Qr)(is:List Nat),oN c es=some is->QGs X es is
 | [],is,h=>by cases h;exact A9
 | e::es,is,h=>by
  cases e with
  | Name x p=>
   unfold oN at h
   split at h
   ·rename_i ho
    obtain ⟨i,h1,h⟩:=Qe.mp h
    obtain ⟨js,h2,h⟩:=Qk.mp h
    subst h
    exact Ba i O.nd (xJ O hf es js h2) (by rw [O.N];exact oI h1) (O.own ho) (.inl (hf x))
   ·cases h
  | _=>cases h
theorem xK (O:Okx S F k c X)(hf:∀ x,X.fn x=true)(e:Qr):QG X e (oO c e):=by
 unfold oO
 split
 ·split
  ·rename_i ho
   split
   ·rename_i i hi
    exact Kn i O.nd (by rw [O.N];exact oI hi) (O.own ho) (.inl (hf _))
   ·exact qF fun _ _ _=>rfl
  ·exact qF fun _ _ _=>rfl
 ·split
  ·rename_i is hi
   exact uO (xJ O hf _ is hi) O.calm
  ·exact qF fun _ _ _=>rfl
 ·exact qF fun _ _ _=>rfl
theorem lA {r:Stmt->MS}(hr:∀ s,QS X s (r s)):∀ ss:List Stmt,QB X ss (jR r ss)
 | []=>Kf
 | [s]=>Kh (hr s)
 | s::t::ts=>Kg (hr s) (lA hr (t::ts))
theorem Nz {elt tg iter:Qr}{ifs:List Qr}{scope:Tz}{pos py:SE}{y:Str}{n:Nat}{env:Wg} :
  ∃ b:Bool,Uv (.ListComp elt [⟨tg,iter,ifs,0⟩] scope pos) (some (.Name y py)) n env=pure b/\(b=true->env.kindOf y=some .local):=by
 refine ⟨env.blockKind == .function&&env.kindOf y == some .local&&py.line == pos.line&&!(scope.names.any fun (n,k)=>n == y&&(k == .local||k == .cell)),rfl,fun h=>?_⟩
 simp only [Qy,beq_iff_eq] at h
 exact h.1.1.2
theorem xM (O:Okx S F k c X)(hf:∀ x,X.fn x=true){E:Cs->Qr->ME}{T:Cs->Qr->MT}(hE:∀ c X,Okx S F k c X->∀ e,QE X e (E c e))(hT:∀ c X,Okx S F k c X->∀ e,QT X e (T c e))
  {i:Nat}{y:Str}{py spos:SE}(hi:X.N[i]? = some y)(hy:k9 c y=true)(elt tg iter:Qr)(ifs:List Qr)(scope:Tz)(pos:SE){mi:MI}(hmi:PI X tg iter (iU X.K mi)):QS X (.Assign [.Name y py] (.ListComp elt [⟨tg,iter,ifs,0⟩] scope pos) spos) (bF i (g8 mi E T c elt tg iter ifs scope)):=by
  obtain ⟨b,hb1,hb2⟩:=Nz (elt:=elt) (tg:=tg) (iter:=iter) (ifs:=ifs) (scope:=scope) (pos:=pos) (py:=py) (y:=y) (n:=spos.line) (env:=X.env)
  cases b with
  | false=>exact ⟨AH O.nd hi (O.own hy) (rJ hE hT c X O elt tg iter ifs scope pos hmi).h hb1 (.inl (hf y))⟩
  | true=>
   unfold g8
   split
   ·rename_i xs hx
    split
    ·rename_i h
     rw [Qy] at h
     refine ⟨fun a0V s σ H D I q=>?_⟩
     exact Kz ((rG O h.1).1.ok I.ok) O.nd O.calm hmi (fun d μ z=>(rH O hx h.1 [] 0 s H []).2 d μ z) (fun C s₀ H₀ fp=>(rH O hx h.1 _ C s₀ H₀ fp).1) (fun C s₀ H₀ fp=>(Dg (hT _ _ (O.comp h.1)) _).h) (fun C s₀ H₀ fp=>(hE _ _ (O.comp h.1) _).h) (Dj h.2) hi (hb2 rfl) hb1 a0V s σ H D I q
    ·exact B8
   ·exact B8
theorem NA (O:Okx S F k c X)(hf:∀ x,X.fn x=true){E:Cs->Qr->ME}{T:Cs->Qr->MT}(hE:∀ c X,Okx S F k c X->∀ e,QE X e (E c e))(hT:∀ c X,Okx S F k c X->∀ e,QT X e (T c e))
  {i:Nat}{y:Str}{py spos:SE}(hi:X.N[i]? = some y)(hy:k9 c y=true)(e:Qr):QS X (.Assign [.Name y py] e spos) (xF S E T c i e):=by
 unfold xF
 split
 ·split
  ·exact CJ (xM O hf hE hT hi hy _ _ _ _ _ _ ((vZ (hE c X O _)).h _)) (xM O hf hE hT hi hy _ _ _ _ _ _ (m7 O (hE c X O) _ _))
  ·exact xM O hf hE hT hi hy _ _ _ _ _ _ (m7 O (hE c X O) _ _)
 ·exact fS
theorem NB (O:Okx S F k c X)(hf:∀ x,X.fn x=true){E:Cs->Qr->ME}{T:Cs->Qr->MT}(hE:∀ c X,Okx S F k c X->∀ e,QE X e (E c e))(hT:∀ c X,Okx S F k c X->∀ e,QT X e (T c e))(tg e:Qr)(pos:SE) :
  QS X (.Assign [tg] e pos) (xG S E T c tg e):=by
 unfold xG
 split
 ·split
  ·rename_i ho
   split
   ·rename_i i hi
    have hi':=oI hi
    rw [<- O.N] at hi'
    split
    ·rename_i hn
     exact Km i O.nd (hE c X O e) hn hi' (O.own ho) (.inl (hf _))
    ·exact NA O hf hE hT hi' ho e
   ·exact fS
  ·exact fS
 ·split
  ·rename_i hn
   split
   ·rename_i is hi
    exact Kp (hE c X O e) (uO (xJ O hf _ is hi) O.calm) hn
   ·exact fS
  ·exact fS
 ·split
  ·rename_i h
   rw [Qy] at h
   exact L7 O.room (hE c X O _) (hE c X O _) (hE c X O _) h.1
  ·exact fS
 ·exact fS
theorem NC (O:Okx S F k c X)(hf:∀ x,X.fn x=true){E:Cs->Qr->ME}{T:Cs->Qr->MT}(hE:∀ c X,Okx S F k c X->∀ e,QE X e (E c e))(hT:∀ c X,Okx S F k c X->∀ e,QT X e (T c e)){r:Stmt->MS}(hr:∀ s,QS X s (r s))(st:Stmt) :
  QS X st (xH S E T c r st):=by
 unfold xH
 split
 ·exact Kj (hE c X O _)
 ·exact KP
 ·exact Kl (hT c X O _) (lA hr _) (lA hr _)
 ·exact NB O hf hE hT _ _ _
 ·split
  ·rename_i h;exact Kk (hE c X O _) h
  ·exact fS
 ·split
  ·rename_i h
   split
   ·exact CJ (vF ((vZ (hE c X O _)).h _) (xK O hf _) (lA hr _) O.never O.calm h) (vF (m7 O (hE c X O) _ _) (xK O hf _) (lA hr _) O.never O.calm h)
   exact vF (m7 O (hE c X O) _ _) (xK O hf _) (lA hr _) O.never O.calm h
  ·exact fS
 ·exact Ki
 ·exact fS
theorem Dm (O:Okx S F k c X)(hf:∀ x,X.fn x=true)(m:Nat):∀ (n:Nat)(st:Stmt),QS X st (xI S F m c n st)
 | 0,_=>fS
 | n+1,st=>NC O hf (xE m).1 (xE m).2 (Dm O hf m n) st
end
noncomputable def cX (st:Stmt):List Str:=(iJ st).args.map (·.arg)
noncomputable def jS (st:Stmt):List Str:=cX st++(bY st).names.filterMap fun y=>if (y.2 == NameKind.local||y.2 == Te)&&!(cX st).contains y.1 then some y.1 else none
noncomputable def lB (st:Stmt):Bool:=
 decide ((bY st).kind=.function)&&!(bY st).isCoroutine&&!(bY st).isGenerator&&decide (jS st).Nodup &&
 ((cX st).all fun x=>decide ((bY st).names.lookup x=some .local)||decide ((bY st).names.lookup x=some .cell))&&((bY st).names.all fun y=>decide (y.2≠.free))
theorem ND {st:Stmt}(h:lB st=true):FnScope (jS st) (cX st) (bY st):=by
 unfold lB at h
 simp only [Qy,decide_eq_true_eq,Uo,UB,T9] at h
 obtain ⟨⟨⟨⟨⟨h1,h2⟩,h3⟩,h4⟩,h5⟩,h6⟩:=h
 exact ⟨h1,h2,h3,h4,by unfold jS;simp,h5,h6⟩
noncomputable def Dp:Nat:=40
noncomputable def Dq:Nat:=40
noncomputable def xN (S:Sig)(F:Str->MF)(st:Stmt):MF:=tZ (jS st).length (jR (xI S F Dp ⟨jS st,(bY st).names⟩ Dq) (eI st))
noncomputable def hZ (S:Sig)(ds:List (Str×Stmt)):Nat->Str->MF
 | 0,_=>fun _ _=>none
 | k+1,x=>match ds.lookup x with
  | none=>fun _ _=>none
  | some st=>xN S (hZ S ds k) st
structure DefAt (K:Qf)(mg:Str->Option Qg)(x:Str)(st:Stmt):Prop where
 ex:∃ f fd,Fun K x x st f fd/\mg x=some (.ref f)/\Binds K fd (cX st) []
structure TxtOk (P:QR)(w:Rg)(K:Qf)(mg:Str->Option Qg)(S:Sig)(ds:List (Str×Stmt)):Prop where
 fns:∀ x n,S.fn.lookup x=some n->∃ st,ds.lookup x=some st/\(cX st).length=n
 defs:∀ x st,ds.lookup x=some st->DefAt K mg x st/\lB st=true
 con:∀ x d,S.con.lookup x=some d->∃ v u,mg x=some u/\RelV v u/\∀ π n H,IsD K π n H v d
 tab:∀ x kvs,S.tab.lookup x=some kvs->∃ (p:Addr)(vs:List (aF×V))(ws:List (aF×Qg)),mg x=some (.ref p)/\(∀ h:RG,K.In h->h.DictOf (cS P w) p ws)/\KV vs ws/\∀ π n H,IsKs K π n H vs kvs
 no:∀ x,S.no.contains x=true->mg x=none
theorem Dr {P:QR}{w:Rg}{K:Qf}{mg:Str->Option Qg}{base:RG}{S:Sig}{ds:List (Str×Stmt)}(T:TxtOk P w K mg S ds):∀ (k:Nat)(x:Str)(st:Stmt)(f:Addr)(fd:Th),ds.lookup x=some st->Fun K x x st f fd->
  FnOk P w K mg base d6 k f fd (cX st) (gC K (cX st).length (hZ S ds k x))
 | 0,x,st,f,fd,hl,hF=>⟨fun vs H Q E h=>h.1,fun A outer s H args us vs Q E hr he hb hv hs=>by
   obtain ⟨_,π,ds',μ,d,μ',R,i,hm,kc⟩:=hs
   cases hm⟩
 | k+1,x,st,f,fd,hl,hF=>by
  have ih:=Dr (base:=base) T k
  have e:hZ S ds (k+1) x=xN S (hZ S ds k) st:=by
   show (match ds.lookup x with|none=>fun _ _=>none|some st=>xN S (hZ S ds k) st)=_
   rw [hl]
  rw [e]
  have Sc:=ND (T.defs x st hl).2
  refine Kq hF Sc (by unfold jS;simp) rfl fun cdv A outer s H E hr=>?_
  have O:Okx S (hZ S ds k) k ⟨jS st,(bY st).names⟩ (iG d6 P w K mg base (jS st) x (bY st) f cdv A outer s H E).nox:=by
   refine ⟨rfl,Sc.nd,rfl,Sc.kind,rfl,hr,XW,fun y n hy=>?_,T.con,fun y kvs q=>⟨T.tab y kvs q⟩,T.no⟩
   obtain ⟨st',h1,h2⟩:=T.fns y n hy
   obtain ⟨f',fd',F',m',b'⟩:=(T.defs y st' h1).1.ex
   subst h2
   exact ⟨f',fd',cX st',ih y st' f' fd' h1 F',m',F'.kp,b'⟩
  exact lA (Dm O (fun _=>rfl) Dp Dq) (eI st)
theorem Ds:∀ {ns:List Int}{b:Nat},UY (ns.map UN)<=b->∀ n∈ns,Rf n<=b
 | [],_,_,n,hn=>nomatch hn
 | m::ns,b,h,n,hn=>by
  have e:UY ((m::ns).map UN)=Wy (.int m)+1+UY (ns.map UN):=rfl
  have e2:Wy (.int m)=Rf m:=rfl
  rw [e,e2] at h
  rcases Q9.mp hn with rfl|hn
  ·omega
  ·exact Ds (b:=b) (by omega) n hn
section
open PySem PySem.W PySem.Calls PyProof.Rows
theorem NF {l:Ym}{n:Nat}{q:QR}{loose:List Str}{XP:(Str->Option Qg)->RG->Prop}{YP:Rg->RG->Prop}{d:DefRec}
  (hn:l.most=some n)(hdf:d.params.defaults=[])
  (call:∀ (w:Rg)(s₀ s₁:Qj)(mg mb:Str->Option Qg)(fa:Addr)(o:SD)(pm cd doc:Qg)(a:Addr)(vs:List Qg)(ns:List Int),
   Ground q loose [] XP w s₀ mg mb s₁.heap->YP w s₁.heap->
   s₁.heap.get? fa=some o->o.data=.func (docDef d.name d.params d.body d.scope pm cd doc)->s₁.heap.CodeRec cd d.name->mg d.name=some (.ref fa)->
   s₁.heap.get? a=some { cls:=.type "list",data:=.seq vs.toArray }->Ul vs ns->ns.length<=n->(∀ m∈ns,Rf m<=2 ^ 20)->s₁.gens = #[]->
   Vs (QX l.prog w) WR (.call (.ref fa) ⟨[.ref a],[]⟩) (fun r s'=>r=.ok (.ret (.bool true))/\OldK s₁.heap s'.heap/\s'.os=s₁.os/\Wi s'.gens) s₁) :
  YV q loose XP YP l.row.toRowW d [] (fun f vs=>ZY f vs):=by
 intro w s₀ s₁ mg mb G Y fa o pm cd doc dV kV ho hd hcd hD hmg hg args vals as hpre hlay hrd hwl hlo
 obtain rfl:dV=.none:=Dflts.none hD hdf
 obtain rfl:kV=.none:=Dflts.noKw hD
 obtain ⟨a,vs,ns,rfl,rfl,hobj,hints,hlen⟩:=Att.script_of hn hpre hwl
 have hb:∀ m∈ns,Rf m<=2 ^ 20:=by
  have h1:Wt (.list (ns.map UN))=true:=by
   have:=hlay
   unfold ZZ at this
   simpa using this
  unfold Wt at h1
  rw [Qy] at h1
  exact Ds (of_decide_eq_true h1.2)
 refine enter_call (WQ (call w s₀ s₁ mg mb fa o pm cd doc a vs ns G Y ho (fd_plain hd) hcd hmg hobj hints hlen hb hg) fun r s' hq=>?_)
 obtain ⟨rfl,h2,h3,h4⟩:=hq
 exact ⟨.inl ⟨.bool true,.bool true,[],rfl,fun _=>rfl,.bool true,Att.post_true l _,fun _=>⟨VA,fun _ hm=>(nomatch hm)⟩⟩,h2,h3,h4⟩
end
theorem walkM {l:Ym}{q:QR}{loose:List Str}{XP:(Str->Option Qg)->RG->Prop}{YP:Rg->RG->Prop}{d:DefRec}{K:Params->Qf}{S:Sig}{ds:List (Str×Stmt)}{k:Nat}{st:Stmt}{x:Str}(hn:l.most=some 63)(hdf:d.params.defaults=[])
  (hr:Room k WR)(hY:∀ (w:Rg)(h:RG),YP w h->(K w.params).In h)(hl:ds.lookup d.name=some st)(hx:cX st=[x])
  (T:∀ (w:Rg)(mg:Str->Option Qg)(h:RG),(K w.params).In h->h.Ns Sx mg->TxtOk l.prog w (K w.params) mg S ds/\∃ f fd,Fun (K w.params) d.name d.name st f fd/\mg d.name=some (.ref f)/\∀ (s:Qj)(u:Qg),WX s fd ⟨[u],[]⟩ [(x,u)])
  (M:∀ ns:List Int,ns.length<=63->(∀ m∈ns,Rf m<=2 ^ 20)->∃ μ',hZ S ds k d.name [.rol (ns.map D.int)] []=some (.bl true,μ')) :
  YV q loose XP YP l.row.toRowW d [] (fun f vs=>ZY f vs):=by
 refine NF hn hdf fun w s₀ s₁ mg mb fa o pm cd doc a vs ns G Y ho hd hcd hmg hobj hints hlen hbd hg=>?_
 have KX:=hY w _ Y
 obtain ⟨hT,f,fd,hF,hm,hb⟩:=T w mg _ KX G.T.g
 rw [hmg] at hm
 cases hm
 refine L2.law_call (CX:=d6) (sp:=gC (K w.params) 1 (hZ S ds k d.name)) KX G.T.g G.T.b G.T.builtins G.T.nolimit hg hobj hints (Sb hlen (by decide)) hr (fun base hb1 hb2=>?_) hb (fun H hO hS=>?_) fun H e s' z=>z
 ·have:=Dr (base:=base) hT k d.name st fa fd hl hF
  rw [hx] at this
  exact this
 ·refine ⟨rfl,fun _=>0,[.rol (ns.map D.int)],[],.bl true,?_⟩
  obtain ⟨μ',hM⟩:=M ns hlen hbd
  have hro:RoL (K w.params) H a (ns.map V.int):=by
   rcases hS with (h|h)|h
   ·rcases hO a with z|⟨o,xs,z⟩
    ·rw [z] at h;cases h
    ·rw [z] at h;cases h
   ·exact .inl h
   ·exact .inr h
  refine ⟨μ',⟨fun i j hi=>absurd hi (VC _),fun i hi=>absurd hi (VC _),fun i xs h=>(by cases h),fun i xs h=>(by cases h),fun i xs h=>(by cases h)
   ,fun i xs h=>(by cases h)
   ,fun i xs h=>(by cases h)
   ⟩,.cons (.rol hro ?_) .nil,hM,fun π' v H' _ _ hv=>?_⟩
  ·have:∀ ns:List Int,IsDs (K w.params) (fun _=>0) ([]:Hm).length H (ns.map V.int) (ns.map D.int):=fun ns=>by
    induction ns with
    | nil=>exact .nil
    | cons n r ih=>exact .cons (.int n) ih
   exact this ns
  ·cases hv
   rfl
end L3
namespace L3
open PySem L2
theorem rL {β:Type}:∀ {l:List (Str×β)}{x:Str}{b:β},l.lookup x=some b->(x,b)∈l:=fun h=>RN h
theorem NG {S:Sig}{ds:List (Str×Stmt)}(h:(S.fn.all fun p=>match ds.lookup p.1 with|some st=>decide ((cX st).length=p.2)|none=>false)=true):∀ x n,S.fn.lookup x=some n->∃ st,ds.lookup x=some st/\(cX st).length=n:=by
 intro x n e
 have:=UB.mp h (x,n) (rL e)
 dsimp only at this
 split at this
 ·rename_i st hs
  exact ⟨st,hs,of_decide_eq_true this⟩
 ·cases this
theorem NH {K:Qf}{mg:Str->Option Qg}{ds:List (Str×Stmt)}(h:∀ p∈ds,DefAt K mg p.1 p.2/\lB p.2=true):∀ x st,ds.lookup x=some st->DefAt K mg x st/\lB st=true:=fun x st e=>h (x,st) (rL e)
theorem NI {K:Qf}{mg:Str->Option Qg}{cs:List (Str×D)}(h:∀ p∈cs,∃ v u,mg p.1=some u/\RelV v u/\∀ π n H,IsD K π n H v p.2):∀ x d,cs.lookup x=some d->∃ v u,mg x=some u/\RelV v u/\∀ π n H,IsD K π n H v d:=fun x d e=>h (x,d) (rL e)
inductive EntsOf (w:Rg):List Se->List (aF×Qg)->Prop where
 | nil:EntsOf w [] []
 | cons {e:Se}{k:aF}{v:Qg}{es:List Se}{kvs:List (aF×Qg)}(h:jZ k e.key=true)(hh:e.hash=yT w k)(hv:e.val=v)(t:EntsOf w es kvs):EntsOf w (e::es) ((k,v)::kvs)
theorem EntsOf.keys {P:QR}{w:Rg}{es:List Se}{kvs:List (aF×Qg)}(x:EntsOf w es kvs):∀ e∈es,∃ k,(cS P w).is k e.key=true/\e.hash=(cS P w).hash k:=by
 induction x with
 | nil=>intro e he;exact nomatch he
 | @cons e k v es kvs h hh hv _ ih=>
  intro e' he
  rcases Q9.mp he with rfl|he
  ·exact ⟨k,h,hh⟩
  ·exact ih e' he
theorem NJ {mg:Str->Option Qg}{ns:List Str}(h:∀ x∈ns,mg x=none):∀ x,ns.contains x=true->mg x=none:=fun x e=>h x (by simpa using e)
noncomputable def rM:Nat->(Nat->Qg)->List Qg
 | 0,_=>[]
 | n+1,u=>u 0::rM n fun i=>u (i+1)
theorem Dt:∀ us:List Qg,∃ u,us=rM us.length u
 | []=>⟨fun _=>.none,rfl⟩
 | v::us=>let ⟨u,hu⟩:=Dt us;⟨fun i=>match i with|0=>v|i+1=>u i,congrArg (v::·) hu⟩
noncomputable abbrev Du:Type:=Qg->Qg->Qg->Option Addr->Qg->Qg->(Nat->Qg)->YD (List (Str×Qg))
noncomputable def NK (x:Str)(st:Stmt)(m:Qg)(c:Addr):SD:=⟨TU "function",none,.func (Td x x (iJ st) (eI st) (bY st) .none .none .none m none (.ref c) .none),#[]⟩
noncomputable def Dv (K:Qf)(d:(Str×Stmt)×Qg×Addr×Addr):Option (Option Qg)×Option SD×Bool×Bool×Bool×Du:=(Vn K Sx d.1.1,K.lookup d.2.2.2,Vx K (.ref d.2.2.1) d.1.1,SA K (.ref d.2.2.2),lB d.1.2,fun kV doc pm an cdv ct u=>XC (Td d.1.1 d.1.1 (iJ d.1.2) (eI d.1.2) (bY d.1.2) .none kV doc pm an cdv ct) ⟨rM (cX d.1.2).length u,[]⟩)
noncomputable def Dw (d:(Str×Stmt)×Qg×Addr×Addr):Option (Option Qg)×Option SD×Bool×Bool×Bool×Du:=(some (some (.ref d.2.2.2)),some (NK d.1.1 d.1.2 d.2.1 d.2.2.1),true,true,true,fun _ _ _ _ _ _ u=>pure ((cX d.1.2).zip (rM (cX d.1.2).length u)))
noncomputable def rN (K:Qf)(d:Str×Stmt):(Str×Stmt)×Qg×Addr×Addr:=(d,match Vn K Sx d.1 with
 | some (some (.ref f))=>(match K.lookup f with
  | some ⟨_,_,.func fd,_⟩=>(match fd.code with
   | .ref c=>(fd.pyModule,c,f)
   | _=>(.none,0,0))
  | _=>(.none,0,0))
 | _=>(.none,0,0))
noncomputable def rO (K:Qf)(ds:List (Str×Stmt)):Prop:=ds.map (fun d=>Dv K (rN K d))=ds.map fun d=>Dw (rN K d)
theorem Dx {K:Qf}{h:RG}{mg:Str->Option Qg}(X:K.In h)(G:h.Ns Sx mg){ds:List (Str×Stmt)}(q:rO K ds):∀ p∈ds,(DefAt K mg p.1 p.2/\lB p.2=true)/\∃ f fd,Fun K p.1 p.1 p.2 f fd/\mg p.1=some (.ref f)/\∀ us:List Qg,us.length=(cX p.2).length->XC fd ⟨us,[]⟩=pure ((cX p.2).zip us):=by
 intro p0 hp
 have t:=YQ.mp q p0 hp
 have e:(rN K p0).1=p0:=rfl
 generalize rN K p0=d at t e
 obtain ⟨p,m,c,f⟩:=d
 cases e
 unfold Dv Dw at t
 obtain ⟨a,t⟩:=Vy t
 obtain ⟨l,t⟩:=Vy t
 obtain ⟨c,t⟩:=Vy t
 obtain ⟨k,t⟩:=Vy t
 obtain ⟨s,b⟩:=Vy t
 have F:=Hl (st:=p.2) l c k
 have D:=fun kV doc pm an cdv ct (us:List Qg)(hl:us.length=(cX p.2).length)=>(by
  obtain ⟨u,hu⟩:=Dt us
  rw [hl] at hu
  rw [hu]
  exact congrFun (congrFun (congrFun (congrFun (congrFun (congrFun (congrFun b kV) doc) pm) an) cdv) ct) u:XC (Td p.1 p.1 (iJ p.2) (eI p.2) (bY p.2) .none kV doc pm an cdv ct) ⟨us,[]⟩=pure ((cX p.2).zip us))
 exact ⟨⟨⟨_,_,F,WU X G a,F.binds D⟩,s⟩,_,_,F,WU X G a,D _ _ _ _ _ _⟩
theorem NL {K:Qf}{h:RG}{mg:Str->Option Qg}(X:K.In h)(G:h.Ns Sx mg){ds:List (Str×Stmt)}(q:rO K ds){x y:Str}{st:Stmt}(hl:ds.lookup x=some st)(hp:cX st=[y]):∃ f fd,Fun K x x st f fd/\mg x=some (.ref f)/\∀ (s:Qj)(u:Qg),WX s fd ⟨[u],[]⟩ [(y,u)]:=by
 obtain ⟨f,fd,F,m,b⟩:=(Dx X G q (x,st) (rL hl)).2
 dsimp only at b
 rw [hp] at b
 exact ⟨f,fd,F,m,fun s u=>.of_eq (b [u] rfl)⟩
theorem NM {K:Qf}{h:RG}{mg:Str->Option Qg}(X:K.In h)(G:h.Ns Sx mg){ns:List Str}(q:ns.map (Vn K Sx)=ns.map fun _=>some none):∀ x∈ns,mg x=none:=fun x hx=>PySem.W.mg_none_of X G (YQ.mp q x hx)
noncomputable def oP {α β:Type}(f:α->β->Bool):List α->List β->Bool
 | [],[]=>true
 | a::as,b::bs=>f a b&&oP f as bs
 | _,_=>false
noncomputable def oQ (K:Qf):Nat->Qg->D->Bool
 | 0,_,_=>false
 | k+1,u,d=>match d with
  | .non=>(match u with|.none=>true|_=>false)
  | .bl b=>(match u with|.bool c=>decide (b=c)|_=>false)
  | .int i=>(match u with|.int j _=>decide (i=j)|_=>false)
  | .str x=>(match u with|.str y _=>decide (x=y)|_=>false)
  | .tup ds=>(match u with
   | .ref p=>(match K.lookup p with
    | some ⟨.type t,none,.seq its _,_⟩=>decide (t = "tuple")&&decide (its.size<=1000)&&oP (oQ K k) its.toList ds
    | _=>false)
   | _=>false)
  | .rol ds=>(match u with
   | .ref p=>(match K.lookup p with
    | some ⟨.type t,none,.seq its _,_⟩=>decide (t = "list")&&decide (its.size<=1000)&&oP (oQ K k) its.toList ds
    | _=>false)
   | _=>false)
  | _=>false
theorem Dy {K:Qf}{f:Qg->D->Bool}(h:∀ u d,f u d=true->∃ v,RelV v u/\∀ π n H,IsD K π n H v d):∀ us ds,oP f us ds=true->∃ vs,Vals vs us/\∀ π n H,IsDs K π n H vs ds
 | [],[],_=>⟨[],.nil,fun _ _ _=>.nil⟩
 | u::us,d::ds,e=>by
  obtain ⟨a,b⟩:=TY.mp e
  obtain ⟨v,r,q⟩:=h u d a
  obtain ⟨vs,rs,qs⟩:=Dy h us ds b
  exact ⟨v::vs,.cons r rs,fun _ _ _=>.cons (q _ _ _) (qs _ _ _)⟩
 | [],_::_,e=>nomatch e
 | _::_,[],e=>nomatch e
theorem Dz {K:Qf}:∀ (k:Nat)(u:Qg)(d:D),oQ K k u d=true->∃ v,RelV v u/\∀ π n H,IsD K π n H v d
 | 0,_,_,e=>nomatch e
 | k+1,u,d,e=>by
  have seq:∀ {p:Addr}{ds:List D}{c:String},(match K.lookup p with|some ⟨.type t,none,.seq its _,_⟩=>decide (t=c)&&decide (its.size<=1000)&&oP (oQ K k) its.toList ds|_=>false)=true->∃ vs its n sl,K.lookup p=some ⟨.type c,none,.seq its n,sl⟩/\its.size<=Qs/\Vals vs its.toList/\∀ π n H,IsDs K π n H vs ds:=fun {p ds c} e=>by
   split at e
   ·rename_i t its n sl hk
    obtain ⟨e,q⟩:=TY.mp e
    obtain ⟨a,b⟩:=TY.mp e
    cases of_decide_eq_true a
    obtain ⟨vs,r,i⟩:=Dy (Dz k) _ _ q
    exact ⟨vs,its,n,sl,hk,Sb (of_decide_eq_true b) (by decide),r,i⟩
   ·cases e
  cases d with
  | non=>cases u with
   | none=>exact ⟨.non,rfl,fun _ _ _=>.non⟩
   | _=>cases e
  | bl b=>cases u with
   | bool c=>cases of_decide_eq_true e;exact ⟨.bl b,rfl,fun _ _ _=>.bl _⟩
   | _=>cases e
  | int b=>cases u with
   | int c=>cases of_decide_eq_true e;exact ⟨.int b,⟨_,rfl⟩,fun _ _ _=>.int _⟩
   | _=>cases e
  | str b=>cases u with
   | str c=>cases of_decide_eq_true e;exact ⟨.str b,⟨_,rfl⟩,fun _ _ _=>.str _⟩
   | _=>cases e
  | tup ds=>cases u with
   | ref p=>
    obtain ⟨vs,its,n,sl,hk,hs,r,i⟩:=seq e
    exact ⟨.ref p,rfl,fun _ _ _=>.tup (vs:=vs) (.inr ⟨_,its,n,hk,rfl,rfl,rfl,hs,r⟩) (i _ _ _)⟩
   | _=>cases e
  | rol ds=>cases u with
   | ref p=>
    obtain ⟨vs,its,n,sl,hk,hs,r,i⟩:=seq e
    exact ⟨.ref p,rfl,fun _ _ _=>.rol (vs:=vs) (.inr ⟨_,its,n,hk,rfl,rfl,rfl,hs,r⟩) (i _ _ _)⟩
   | _=>cases e
  | _=>cases e
noncomputable def DA (K:Qf)(cs:List (Str×D)):Bool:=cs.all fun c=>match Vn K Sx c.1 with|some (some u)=>oQ K 8 u c.2|_=>false
theorem NN {K:Qf}{h:RG}{mg:Str->Option Qg}(X:K.In h)(G:h.Ns Sx mg){cs:List (Str×D)}(q:DA K cs=true):∀ p∈cs,∃ v u,mg p.1=some u/\RelV v u/\∀ π n H,IsD K π n H v p.2:=fun p hp=>by
 have t:=UB.mp q p hp
 split at t
 ·rename_i u hu
  obtain ⟨v,r,i⟩:=Dz _ _ _ t
  exact ⟨v,u,WU X G hu,r,i⟩
 ·cases t
end L3
namespace L3
open PySem L2
noncomputable def W {α:Type}(o:Option α)(Q:α->Prop):Prop:=∃ r,o=some r/\Q r
section
variable {α β:Type}{o:Option α}{Q:α->Prop}
theorem W_some {r:α}{Q:α->Prop}:W (some r) Q↔Q r:=⟨fun ⟨_,h,q⟩=>by cases h;exact q,fun q=>⟨r,rfl,q⟩⟩
theorem W_none {Q:α->Prop}:W none Q↔False:=⟨fun ⟨_,h,_⟩=>(by cases h),fun h=>h.elim⟩
theorem W_bind {g:α->Option β}{Q:β->Prop}:W (o.bind g) Q↔W o fun r=>W (g r) Q:=by
 cases o with
 | none=>exact ⟨fun ⟨_,h,_⟩=>(by cases h),fun ⟨_,h,_⟩=>(by cases h)⟩
 | some a=>simp [W_some]
theorem iA {g:α->β}{Q:β->Prop}:W (o.map g) Q↔W o fun r=>Q (g r):=by
 cases o with
 | none=>exact ⟨fun ⟨_,h,_⟩=>(by cases h),fun ⟨_,h,_⟩=>(by cases h)⟩
 | some a=>simp [W_some]
theorem bP {Q':α->Prop}(h:W o Q)(k:∀ r,Q r->Q' r):W o Q':=let ⟨r,e,q⟩:=h;⟨r,e,k r q⟩
theorem rP {c:Prop} [Decidable c] {a b:Option α}:W (if c then a else b) Q↔if c then W a Q else W b Q:=by split<;>rfl
end
noncomputable def fin:Option (Fl×aK×Hm)->Option (D×Hm):=fun o=>o.bind fun p=>match p.1 with|.rt d=>some (d,p.2.2)|.nx=>some (.non,p.2.2)|_=>none
theorem bS {o:Option (Fl×aK×Hm)}{Q:D×Hm->Prop}:W (fin o) Q↔W o fun p=>match p.1 with|.rt d=>Q (d,p.2.2)|.nx=>Q (.non,p.2.2)|_=>False:=by
 unfold fin
 rw [W_bind]
 constructor
 ·exact fun h=>bP h fun p q=>by
   obtain ⟨fl,ρ,μ⟩:=p
   cases fl<;>simpa [W_some,W_none] using q
 ·exact fun h=>bP h fun p q=>by
   obtain ⟨fl,ρ,μ⟩:=p
   cases fl<;>simpa [W_some,W_none] using q
theorem bW {μ μ':Hm}(h:μ <+: μ'){a:Nat}{c:C}(e:μ[a]? = some c):μ'[a]? = some c:=by
 obtain ⟨t,rfl⟩:=h
 have hl:=(Qi.mp e).1
 rw [QC hl]
 exact e
theorem rQ {μ μ':Hm}(h:μ <+: μ'):μ.length<=μ'.length:=h.length_le
theorem cO (μ:Hm)(c:C):μ <+: μ++[c]:=⟨[c],rfl⟩
theorem jB {μ μ':Hm}(h:μ <+: μ'){a:Nat}(ha:μ.length<=a)(c:C):μ <+: μ'.set a c:=by
 obtain ⟨t,rfl⟩:=h
 rw [VD _ _ ha]
 exact ⟨_,rfl⟩
theorem aY {a b:MS}{ρ:aK}{μ:Hm} {Q}:W (aS a b ρ μ) Q↔W (a ρ μ) fun p=>match p.1 with|.nx=>W (b p.2.1 p.2.2) Q|_=>Q p:=by
 unfold aS
 rw [W_bind]
 constructor
 ·exact fun h=>bP h fun p q=>by
   obtain ⟨fl,ρ,μ⟩:=p
   cases fl<;>simpa [W_some,W_none] using q
 ·exact fun h=>bP h fun p q=>by
   obtain ⟨fl,ρ,μ⟩:=p
   cases fl<;>simpa [W_some,W_none] using q
theorem bH {m:ME}{ρ:aK}{μ:Hm} {Q}:W (aV m ρ μ) Q↔W (m ρ μ) fun p=>Q (.rt p.1,ρ,p.2):=iA
theorem xO {m:ME}{ρ:aK}{μ:Hm} {Q}:W (iM m ρ μ) Q↔W (m ρ μ) fun p=>Q (.nx,ρ,p.2):=iA
theorem bV {i:Nat}{m:ME}{ρ:aK}{μ:Hm} {Q}:W (bF i m ρ μ) Q↔W (m ρ μ) fun p=>Q (.nx,ρ.set i (some p.1),p.2):=iA
theorem cC {ρ:aK}{μ:Hm} {Q}:W (bJ ρ μ) Q↔Q (.nx,ρ,μ):=W_some
theorem cD {t:MT}{a b:MS}{ρ:aK}{μ:Hm} {Q}:W (bO t a b ρ μ) Q↔W (t ρ μ) fun p=>if p.1=true then W (a ρ p.2) Q else W (b ρ p.2) Q:=by
 unfold bO
 rw [W_bind]
 constructor<;>exact fun h=>bP h fun p q=>by
   obtain ⟨x,μ⟩:=p
   cases x<;>simpa using q
theorem DB {t:MT}{a b:ME}{ρ:aK}{μ:Hm} {Q}:W (gD t a b ρ μ) Q↔W (t ρ μ) fun p=>if p.1=true then W (a ρ p.2) Q else W (b ρ p.2) Q:=by
 unfold gD
 rw [W_bind]
 constructor<;>exact fun h=>bP h fun p q=>by
   obtain ⟨x,μ⟩:=p
   cases x<;>simpa using q
theorem oR {a b:MT}{ρ:aK}{μ:Hm} {Q}:W (dA a b ρ μ) Q↔W (a ρ μ) fun p=>if p.1=true then W (b ρ p.2) Q else Q (false,p.2):=by
 unfold dA
 rw [W_bind]
 constructor<;>exact fun h=>bP h fun p q=>by
   obtain ⟨x,μ⟩:=p
   cases x<;>simpa [W_some] using q
theorem m8 {a b:MT}{ρ:aK}{μ:Hm} {Q}:W (dN a b ρ μ) Q↔W (a ρ μ) fun p=>if p.1=true then Q (true,p.2) else W (b ρ p.2) Q:=by
 unfold dN
 rw [W_bind]
 constructor<;>exact fun h=>bP h fun p q=>by
   obtain ⟨x,μ⟩:=p
   cases x<;>simpa [W_some] using q
theorem eX {a:MT}{ρ:aK}{μ:Hm} {Q}:W (cJ a ρ μ) Q↔W (a ρ μ) fun p=>Q (!p.1,p.2):=iA
theorem aT {f:D->D->Hm->Option (D×Hm)}{a b:ME}{ρ:aK}{μ:Hm} {Q}:W (aB f a b ρ μ) Q↔W (a ρ μ) fun p=>W (b ρ p.2) fun q=>W (f p.1 q.1 q.2) Q:=by
 unfold aB
 rw [W_bind]
 simp only [W_bind]
theorem aO {d:D}{ρ:aK}{μ:Hm} {Q}:W (mC d ρ μ) Q↔Q (d,μ):=W_some
theorem aE {d:D}{ρ:aK}{μ:Hm} {Q}:W (aA 0 (some d::ρ) μ) Q↔Q (d,μ):=by
 show W (some (d,μ)) Q↔_
 exact W_some
theorem aJ {i:Nat}{x:Option D}{ρ:aK}{μ:Hm} {Q}:W (aA (i+1) (x::ρ) μ) Q↔W (aA i ρ μ) Q:=by
 unfold aA
 rw [Tu]
theorem aL {ρ:aK}{μ:Hm} {Q}:W (aD ρ μ) Q↔Q ([],μ):=W_some
theorem aM {a:ME}{r:MA}{ρ:aK}{μ:Hm} {Q}:W (aC a r ρ μ) Q↔W (a ρ μ) fun p=>W (r ρ p.2) fun q=>Q (p.1::q.1,q.2):=by
 unfold aC
 simp only [W_bind,W_some]
theorem fL {ms:MA}{ρ:aK}{μ:Hm} {Q}:W (cT ms ρ μ) Q↔W (ms ρ μ) fun p=>p.1.length<=Qs/\Q (.tup p.1,p.2):=by
 unfold cT
 rw [W_bind]
 constructor<;>exact fun h=>bP h fun p q=>by
  first
  | (rw [rP] at q;split at q
     ·exact ⟨by assumption,W_some.mp q⟩
     ·exact (W_none.mp q).elim)
  | (rw [if_pos q.1];exact W_some.mpr q.2)
theorem lC {ms:MA}{ρ:aK}{μ:Hm} {Q}:W (fC ms ρ μ) Q↔W (ms ρ μ) fun p=>p.1.length<=Qs/\Q (.loc p.2.length,p.2++[.lst p.1]):=by
 unfold fC
 rw [W_bind]
 constructor<;>exact fun h=>bP h fun p q=>by
  first
  | (rw [rP] at q;split at q
     ·exact ⟨by assumption,W_some.mp q⟩
     ·exact (W_none.mp q).elim)
  | (rw [if_pos q.1];exact W_some.mpr q.2)
theorem aW {f:MF}{ms:MA}{ρ:aK}{μ:Hm} {Q}:W (aI f ms ρ μ) Q↔W (ms ρ μ) fun p=>W (f p.1 p.2) Q:=W_bind
theorem c6 {m:ME}{ρ:aK}{μ:Hm} {Q}:W (aU m ρ μ) Q↔W (m ρ μ) fun p=>match p.1 with|.bl b=>Q (b,p.2)|_=>False:=by
 unfold aU
 rw [W_bind]
 constructor<;>exact fun h=>bP h fun p q=>by
  obtain ⟨d,μ⟩:=p
  cases d<;>simpa [W_some,W_none] using q
theorem dU {m:ME}{ρ:aK}{μ:Hm} {Q}:W (bX m ρ μ) Q↔W (m ρ μ) fun p=>W (mF p.2 p.1) fun b=>Q (b,p.2):=by
 unfold bX
 simp only [W_bind,iA]
theorem NO {a:ME}{ρ:aK}{μ:Hm} {Q}:W (nZ a ρ μ) Q↔W (a ρ μ) fun p=>match p.1 with|.int i=>Q (.int (-i),p.2)|_=>False:=by
 unfold nZ
 rw [W_bind]
 constructor<;>exact fun h=>bP h fun p q=>by
  obtain ⟨d,μ⟩:=p
  cases d<;>simpa [W_some,W_none,iA,uA] using q
theorem DC {a:ME}{ρ:aK}{μ:Hm} {Q}:W (kH a ρ μ) Q↔W (a ρ μ) fun p=>match p.1 with|.bl b=>Q (.bl (!b),p.2)|_=>False:=by
 unfold kH
 rw [W_bind]
 constructor<;>exact fun h=>bP h fun p q=>by
  obtain ⟨d,μ⟩:=p
  cases d<;>simpa [W_some,W_none] using q
theorem fM {a b:ME}{ρ:aK}{μ:Hm} {Q}:W (dB a b ρ μ) Q↔W (a ρ μ) fun p=>match p.1 with|.bl c=>if c=true then W (b ρ p.2) Q else Q (.bl false,p.2)|_=>False:=by
 unfold dB
 rw [W_bind]
 constructor<;>exact fun h=>bP h fun p q=>by
  obtain ⟨d,μ⟩:=p
  cases d with
  | bl c=>cases c<;>simpa [W_some] using q
  | _=>simpa [W_none] using q
section
variable {i j:Int}{μ:Hm}{Q:D×Hm->Prop}{a b c d e g:D}
theorem fU:W (cQ (.int i) (.int j) μ) Q↔Q (.int (i+j),μ):=W_some
theorem NP:W (nU (.int i) (.int j) μ) Q↔Q (.int (i - j),μ):=W_some
theorem jC (h:0<j):W (bK (.int i) (.int j) μ) Q↔Q (.int (i % j),μ):=by
 show W ((if 0<j then some (i % j) else none).map fun z=>(D.int z,μ)) Q↔_
 rw [if_pos h]
 exact W_some
theorem NQ:(1073741824:Int)<2 ^ 4000:=by decide +kernel
theorem NR (h:0<j)(h2:j<2 ^ 4000):W (dX (.int i) (.int j) μ) Q↔Q (.int (i / j),μ):=by
 show W ((if 0<j/\j<2 ^ 4000 then some (i / j) else none).map fun z=>(D.int z,μ)) Q↔_
 rw [if_pos ⟨h,h2⟩]
 exact W_some
theorem rR (h:0<j)(h2:j<1073741824):W (dX (.int i) (.int j) μ) Q↔Q (.int (i / j),μ):=NR h (Int.lt_trans h2 NQ)
theorem m9 (h:(-(2 ^ 64)<i/\i<2 ^ 64)\/(-(2 ^ 64)<j/\j<2 ^ 64)):W (b7 (.int i) (.int j) μ) Q↔Q (.int (i * j),μ):=by
 show W ((if ((-(2 ^ 64)<i/\i<2 ^ 64)\/(-(2 ^ 64)<j/\j<2 ^ 64))\/(i.natAbs<2 ^ 4000/\j.natAbs<2 ^ 4000)\/Rf i+Rf j<=134217728 then some (i * j) else none).map fun z=>(D.int z,μ)) Q↔_
 rw [if_pos (.inl h)]
 exact W_some
theorem nA:W (a9 false (.int i) (.int j) μ) Q↔Q (.bl (i == j),μ):=W_some
theorem rS:W (a9 true (.int i) (.int j) μ) Q↔Q (.bl (!(i == j)),μ):=W_some
theorem rV:W (cK (.int i) (.int j) μ) Q↔Q (.bl (decide (i<j)),μ):=W_some
theorem NS:W (lR (.int i) (.int j) μ) Q↔Q (.bl (decide (i<=j)),μ):=W_some
theorem eD:W (aG (.tup [a,b]) (.int 0) μ) Q↔Q (a,μ):=W_some
theorem dW:W (aG (.tup [a,b]) (.int 1) μ) Q↔Q (b,μ):=W_some
theorem c7 {b:Bool}{Q:Bool->Prop}:W (mF μ (.bl b)) Q↔Q b:=W_some
end
theorem jT {μ:Hm}{a:Nat}{xs:List D}{i:Int}{d:D}{Q:D×Hm->Prop}(h:μ[a]? = some (.lst xs))(hi:atI xs i=some d):W (aG (.loc a) (.int i) μ) Q↔Q (d,μ):=by
 have:aG (.loc a) (.int i) μ=some (d,μ):=by
  simp only [aG,fD,bN,h,Rm,hi,Rk]
 rw [this]
 exact W_some
end L3
namespace L3
open PySem L2
theorem jU {m:ME}{ρ:aK}{μ:Hm}{Q:kM×Nat×Hm->Prop}:W (dD m ρ μ) Q↔W (m ρ μ) fun p=>W (gN p.2 p.1) fun xs=>Q (dQ p.1,xs.length+1,p.2):=by
 unfold dD
 simp only [W_bind,iA]
theorem iB {it:MI}{g:MG}{b:MS}{ρ:aK}{μ:Hm} {Q}:W (c4 it g b ρ μ) Q↔W (it ρ μ) fun p=>W (d8 p.1 g b p.2.1 0 ρ p.2.2) Q:=W_bind
theorem nB {j:Int}{ms:MA}{ρ:aK}{μ:Hm}{Q:kM×Nat×Hm->Prop}:W (fR ms ρ μ) Q↔W (ms ρ μ) fun p=>match p.1 with|[.int j]=>(-(2 ^ 62)<=j/\j<2 ^ 62)/\Q (eM 0 j.toNat,j.toNat+1,p.2)|_=>False:=by
 unfold fR
 rw [W_bind]
 constructor<;>exact fun h=>bP h fun p q=>by
  obtain ⟨l,μ⟩:=p
  match l,q with
  | [],q=>simpa [W_none] using q
  | [d],q=>
   cases d with
   | int j=>
    first
    | (dsimp only at q;rw [rP] at q;split at q
       ·rename_i hb;exact ⟨hb,W_some.mp q⟩
       ·exact (W_none.mp q).elim)
    | (dsimp only;rw [if_pos q.1];exact W_some.mpr q.2)
   | _=>simpa [W_none] using q
  | a::b::l,q=>simpa [W_none] using q
theorem rW {ms:MA}{ρ:aK}{μ:Hm}{Q:kM×Nat×Hm->Prop}:W (jG ms ρ μ) Q↔W (ms ρ μ) fun p=>match p.1 with|[.int i,.int j]=>(-(2 ^ 62)<=i/\i<2 ^ 62/\-(2 ^ 62)<=j/\j<2 ^ 62)/\Q (eM i (j - i).toNat,(j - i).toNat+1,p.2)|_=>False:=by
 unfold jG
 rw [W_bind]
 constructor<;>exact fun h=>bP h fun p q=>by
  split at q
  ·rename_i e
   try rw [e]
   first
   | (rw [rP] at q;split at q
      ·rename_i hb;exact ⟨hb,W_some.mp q⟩
      ·exact (W_none.mp q).elim)
   | ((try dsimp only);rw [if_pos q.1];exact W_some.mpr q.2)
  ·first
   | exact (W_none.mp q).elim
   | exact q.elim
theorem nC {src:kM}{g:MG}{b:MS}{N:Nat}{Q:Fl×aK×Hm->Prop}(I:Nat->aK->Hm->Prop)
  (go:∀ i ρ μ,i<N->I i ρ μ->∃ d ρ1,src μ i=some (some d)/\g d ρ μ=some ρ1/\W (b ρ1 μ) fun p=>match p.1 with|.nx=>I (i+1) p.2.1 p.2.2|.ct=>I (i+1) p.2.1 p.2.2|.bk=>Q (.nx,p.2.1,p.2.2)|.rt d=>Q (.rt d,p.2.1,p.2.2))
  (stop:∀ ρ μ,I N ρ μ->src μ N=some none/\Q (.nx,ρ,μ)):∀ (m i:Nat)(ρ:aK)(μ:Hm),i+m=N->I i ρ μ->W (d8 src g b (m+1) i ρ μ) Q
 | 0,i,ρ,μ,h,hI=>by
  have:i=N:=by omega
  subst this
  obtain ⟨h1,h2⟩:=stop ρ μ hI
  unfold d8
  rw [h1]
  exact W_some.mpr h2
 | m+1,i,ρ,μ,h,hI=>by
  obtain ⟨d,ρ1,h1,h2,h3⟩:=go i ρ μ (by omega) hI
  unfold d8
  rw [h1]
  simp only [Rm,h2]
  rw [W_bind]
  refine bP h3 fun p q=>?_
  obtain ⟨fl,ρ2,μ2⟩:=p
  cases fl with
  | nx=>exact nC I go stop m (i+1) ρ2 μ2 (by omega) q
  | ct=>exact nC I go stop m (i+1) ρ2 μ2 (by omega) q
  | bk=>exact W_some.mpr q
  | rt d=>exact W_some.mpr q
theorem DD {a:Nat}{xs:List D}{g:MG}{b:MS}{ρ:aK}{μ:Hm}{Q:Fl×aK×Hm->Prop}(I:Nat->aK->Hm->Prop)(h0:I 0 ρ μ)(hl:∀ i ρ μ,I i ρ μ->μ[a]? = some (.lst xs))
  (go:∀ i d ρ μ,xs[i]? = some d->I i ρ μ->∃ ρ1,g d ρ μ=some ρ1/\W (b ρ1 μ) fun p=>match p.1 with|.nx=>I (i+1) p.2.1 p.2.2|.ct=>I (i+1) p.2.1 p.2.2|.bk=>Q (.nx,p.2.1,p.2.2)|.rt d=>Q (.rt d,p.2.1,p.2.2))
  (stop:∀ ρ μ,I xs.length ρ μ->Q (.nx,ρ,μ)):W (d8 (dQ (.loc a)) g b (xs.length+1) 0 ρ μ) Q:=by
 refine nC (N:=xs.length) I (fun i ρ μ hi hI=>?_) (fun ρ μ hI=>⟨?_,stop ρ μ hI⟩) xs.length 0 ρ μ (by omega) h0
 ·have e:xs[i]? = some xs[i]:=Ql hi
  obtain ⟨ρ1,h1,h2⟩:=go i xs[i] ρ μ e hI
  refine ⟨xs[i],ρ1,?_,h1,h2⟩
  simp only [dQ,gN,bN,hl i ρ μ hI,Rk,e]
 ·simp only [dQ,gN,bN,hl _ ρ μ hI,Rk]
  simp
theorem NT {x:D}{xs:List D}(hx:∀ μ,gN μ x=some xs){g:MG}{b:MS}{ρ:aK}{μ:Hm}{Q:Fl×aK×Hm->Prop}(I:Nat->aK->Hm->Prop)(h0:I 0 ρ μ)
  (go:∀ i d ρ μ,xs[i]? = some d->I i ρ μ->∃ ρ1,g d ρ μ=some ρ1/\W (b ρ1 μ) fun p=>match p.1 with|.nx=>I (i+1) p.2.1 p.2.2|.ct=>I (i+1) p.2.1 p.2.2|.bk=>Q (.nx,p.2.1,p.2.2)|.rt d=>Q (.rt d,p.2.1,p.2.2))
  (stop:∀ ρ μ,I xs.length ρ μ->Q (.nx,ρ,μ)):W (d8 (dQ x) g b (xs.length+1) 0 ρ μ) Q:=by
 refine nC (N:=xs.length) I (fun i ρ μ hi hI=>?_) (fun ρ μ hI=>⟨?_,stop ρ μ hI⟩) xs.length 0 ρ μ (by omega) h0
 ·have e:xs[i]? = some xs[i]:=Ql hi
  obtain ⟨ρ1,h1,h2⟩:=go i xs[i] ρ μ e hI
  refine ⟨xs[i],ρ1,?_,h1,h2⟩
  simp only [dQ,hx,Rk,e]
 ·simp only [dQ,hx,Rk]
  simp
theorem oS {lo:Int}{n:Nat}{g:MG}{b:MS}{ρ:aK}{μ:Hm}{Q:Fl×aK×Hm->Prop}(I:Nat->aK->Hm->Prop)(h0:I 0 ρ μ)
  (go:∀ (i:Nat) ρ μ,i<n->I i ρ μ->∃ ρ1,g (.int (lo+i)) ρ μ=some ρ1/\W (b ρ1 μ) fun p=>match p.1 with|.nx=>I (i+1) p.2.1 p.2.2|.ct=>I (i+1) p.2.1 p.2.2|.bk=>Q (.nx,p.2.1,p.2.2)|.rt d=>Q (.rt d,p.2.1,p.2.2))
  (stop:∀ ρ μ,I n ρ μ->Q (.nx,ρ,μ)):W (d8 (eM lo n) g b (n+1) 0 ρ μ) Q:=by
 refine nC (N:=n) I (fun i ρ μ hi hI=>?_) (fun ρ μ hI=>⟨?_,stop ρ μ hI⟩) n 0 ρ μ (by omega) h0
 ·obtain ⟨ρ1,h1,h2⟩:=go i ρ μ hi hI
  exact ⟨_,ρ1,by simp only [eM,if_pos hi],h1,h2⟩
 ·simp only [eM,TF,if_false]
theorem DE {μ:Hm}{a:Nat}{ys:List D}{y:D}(h:μ[a]? = some (.lst ys))(hl:ys.length<Qs):lU μ a y=some (μ.set a (.lst (ys++[y]))):=by
 unfold lU
 rw [h]
 exact if_pos hl
theorem xP {src:kM}{c:MT}{e:ME}{ρ:aK}{μ0:Hm}{xs:List D}{p:D->Bool}{v:D->D}{Q:Hm->Prop}(hs:∀ μ i,μ0 <+: μ->src μ i=some xs[i]?)(hl:xs.length<=Qs)
  (hc:∀ d μ,d∈xs->μ0 <+: μ->W (c (ρ++[some d]) μ) fun r=>r.1=p d/\μ <+: r.2)
  (he:∀ d μ,d∈xs->p d=true->μ0 <+: μ->W (e (ρ++[some d]) μ) fun r=>r.1=v d/\μ <+: r.2)
  (fin:∀ μ,μ0 <+: μ->μ[μ0.length]? = some (.lst ((xs.filter p).map v))->Q μ) :
  ∀ (m i:Nat)(μ:Hm),i+m=xs.length->μ0 <+: μ->μ[μ0.length]? = some (.lst (((xs.take i).filter p).map v))->W (iR src nV c e ρ μ0.length (m+1) i μ) Q
 | 0,i,μ,hi,hp,ha=>by
  have:i=xs.length:=by omega
  subst this
  unfold iR
  rw [hs μ _ hp]
  rw [RP (Qq _)]
  simp only [Rm]
  refine W_some.mpr (fin μ hp ?_)
  simpa using ha
 | m+1,i,μ,hi,hp,ha=>by
  have hlt:i<xs.length:=by omega
  have hx:xs[i]? = some xs[i]:=Ql hlt
  have hmem:xs[i]∈xs:=S5 hlt
  unfold iR
  rw [hs μ _ hp,hx]
  simp only [Rm,nV]
  rw [W_bind]
  refine bP (hc _ μ hmem hp) fun r q=>?_
  obtain ⟨b,μ1⟩:=r
  obtain ⟨q1,q2⟩:=q
  dsimp only at q1 q2 ⊢
  subst q1
  have htake:xs.take (i+1)=xs.take i++[xs[i]]:=by rw [List.take_succ,hx];rfl
  have ha1:=bW q2 ha
  cases hpd:p xs[i] with
  | false=>
   refine xP hs hl hc he fin m (i+1) μ1 (by omega) (hp.trans q2) ?_
   rw [ha1,htake,V6]
   simp [hpd]
  | true=>
   dsimp only
   rw [W_bind]
   refine bP (he _ μ1 hmem hpd (hp.trans q2)) fun r q=>?_
   obtain ⟨y,μ2⟩:=r
   obtain ⟨q3,q4⟩:=q
   dsimp only at q3 q4 ⊢
   subst q3
   have ha2:=bW q4 ha1
   have hlen:(((xs.take i).filter p).map v).length<Qs:=by
    have h1:=Tc p (xs.take i)
    rw [Qm]
    rw [Q8] at h1
    omega
   rw [DE ha2 hlen,Rm]
   have hp2:μ0 <+: μ2:=(hp.trans q2).trans q4
   refine xP hs hl hc he fin m (i+1) _ (by omega) (jB hp2 (Qq _) _) ?_
   rw [Rz (Qi.mp ha2).1,htake,V6]
   simp [hpd]
theorem jD {it:MI}{c:MT}{e:ME}{ρ:aK}{μ:Hm}{xs:List D}{p:D->Bool}{v:D->D}{Q:D×Hm->Prop}
  (hit:W (it ρ μ) fun r=>(∀ μ' i,r.2.2 <+: μ'->r.1 μ' i=some xs[i]?)/\r.2.1=xs.length+1/\xs.length<=Qs /\
   (∀ d μ',d∈xs->r.2.2 <+: μ'->W (c (ρ++[some d]) μ') fun s=>s.1=p d/\μ' <+: s.2)/\(∀ d μ',d∈xs->p d=true->r.2.2 <+: μ'->W (e (ρ++[some d]) μ') fun s=>s.1=v d/\μ' <+: s.2) /\
   ∀ μ',r.2.2 <+: μ'->μ'[r.2.2.length]? = some (.lst ((xs.filter p).map v))->Q (.loc r.2.2.length,μ')):W (cU it c e ρ μ) Q:=by
 unfold cU l7
 rw [W_bind]
 refine bP hit fun r q=>?_
 obtain ⟨src,n,μ1⟩:=r
 obtain ⟨h1,h2,h3,h4,h5,h6⟩:=q
 dsimp only at h1 h2 h3 h4 h5 h6 ⊢
 subst h2
 rw [iA]
 exact xP h1 h3 h4 h5 h6 xs.length 0 (μ1++[.lst []]) (by omega) (cO _ _) (by simp)
theorem rX {μ:Hm}{a:Nat}{xs:List D}(h:μ[a]? = some (.lst xs)):∀ μ' i,μ <+: μ'->dQ (.loc a) μ' i=some xs[i]?:=fun μ' i hp=>by
 simp only [dQ,gN,bN,bW hp h,Rk]
theorem DF {xs:List D}{μ:Hm}:∀ μ' i,μ <+: μ'->dQ (.tup xs) μ' i=some xs[i]?:=fun μ' i hp=>rfl
noncomputable def c8 (lo:Int)(n:Nat):List D:=(RA n).map fun (i:Nat)=>.int (lo+(i:Int))
theorem xQ {lo:Int}{n:Nat}{μ:Hm}:∀ μ' i,μ <+: μ'->eM lo n μ' i=some (c8 lo n)[i]?:=fun μ' i _=>by
 unfold eM c8
 rw [Ra]
 by_cases h:i<n
 ·rw [if_pos h,T4 h];rfl
 ·rw [if_neg h,RP (by simpa using TB.mp h)];rfl
noncomputable abbrev P (x y:Int):D:=.tup [.int x,.int y]
noncomputable abbrev PP (p:Int×Int):D:=P p.1 p.2
theorem NU (n:Nat)(μ:Hm)(p q:Int×Int):bZ (n+2) μ (PP p) (PP q)=some (p == q):=by
 obtain ⟨a,b⟩:=p
 obtain ⟨c,d⟩:=q
 show some (a == c&&(b == d&&true))=some ((a,b) == (c,d))
 rw [ZF]
 rfl
theorem DG (n:Nat)(μ:Hm):∀ ps qs:List (Int×Int),eJ (bZ (n+2) μ) (ps.map PP) (qs.map PP)=some (ps == qs)
 | [],[]=>rfl
 | [],_::_=>rfl
 | _::_,[]=>rfl
 | p::ps,q::qs=>by
  rw [Qz,Qz]
  show (bZ (n+2) μ (PP p) (PP q)).bind (fun b=>(eJ (bZ (n+2) μ) (ps.map PP) (qs.map PP)).map fun c=>b&&c)=_
  rw [NU,DG n μ ps qs]
  rfl
theorem NV {μ:Hm}{a b:Nat}{ps qs:List (Int×Int)}(ha:μ[a]? = some (.lst (ps.map PP)))(hb:μ[b]? = some (.lst (qs.map PP))):bZ 8 μ (.loc a) (.loc b)=some (ps == qs):=by
 have h1:gJ μ (.loc a)=some (.lst (ps.map PP)):=by simp only [gJ,ha]
 have h2:gJ μ (.loc b)=some (.lst (qs.map PP)):=by simp only [gJ,hb]
 show (gJ μ (.loc a)).bind (fun x=>(gJ μ (.loc b)).bind fun y=>iN (bZ 7 μ) x y)=_
 rw [h1,h2]
 exact DG 5 μ ps qs
theorem NW {μ:Hm}{a b:Nat}{ps qs:List (Int×Int)}{ne:Bool}{Q:D×Hm->Prop}(ha:μ[a]? = some (.lst (ps.map PP)))(hb:μ[b]? = some (.lst (qs.map PP))):W (a9 ne (.loc a) (.loc b) μ) Q↔Q (.bl (if ne then !(ps == qs) else ps == qs),μ):=by
 unfold a9
 rw [NV ha hb]
 exact W_some
theorem DH {μ:Hm}{a b:Nat}{xs ys:List D}{Q:D×Hm->Prop}(ha:μ[a]? = some (.lst xs))(hb:μ[b]? = some (.lst ys))(hl:xs.length+ys.length<=Qs):W (cQ (.loc a) (.loc b) μ) Q↔Q (.loc μ.length,μ++[.lst (xs++ys)]):=by
 simp only [cQ,ha,hb,if_pos hl]
 exact W_some
theorem DI {ρ:aK}{μ:Hm}{Q:List (aF×D)×Hm->Prop}:W (kK [] ρ μ) Q↔Q ([],μ):=W_some
theorem DJ {k v:ME}{r:List (ME×ME)}{ρ:aK}{μ:Hm}{Q:List (aF×D)×Hm->Prop}:W (kK ((k,v)::r) ρ μ) Q↔W (k ρ μ) fun p=>W (v ρ p.2) fun q=>W (iS p.1) fun kk=>W (kK r ρ q.2) fun t=>Q ((kk,q.1)::t.1,t.2):=by
 show W ((k ρ μ).bind _) Q↔_
 simp only [W_bind,iA]
theorem DK {x:Str}{Q:aF->Prop}:W (iS (.str x)) Q↔Q (.inr x):=W_some
theorem DL {prs:List (ME×ME)}{ρ:aK}{μ:Hm}{Q:D×Hm->Prop}(h:W (kK prs ρ (μ++[.dK []])) fun p=>p.2[μ.length]? = some (.dK [])/\p.1.length<=15/\Q (.loc μ.length,p.2.set μ.length (.dK (lX [] p.1)))):W (iT prs ρ μ) Q:=by
 unfold iT
 rw [W_bind]
 refine bP h fun p q=>?_
 obtain ⟨q1,q2,q3⟩:=q
 rw [q1]
 dsimp only
 rw [if_pos q2]
 exact W_some.mpr q3
theorem DM {μ:Hm}{a:Nat}{kvs:List (aF×D)}{y d:D}{k:aF}{Q:D×Hm->Prop}(h:μ[a]? = some (.dK kvs))(hk:iS y=some k)(hv:d9 kvs k=some d):W (aG (.loc a) y μ) Q↔Q (d,μ):=by
 have:aG (.loc a) y μ=some (d,μ):=by
  simp only [aG,h,hk,Rm,hv,Rk]
 rw [this]
 exact W_some
theorem DN {f:D->List D->Hm->Option (D×Hm)}{mo:ME}{ms:MA}{ρ:aK}{μ:Hm}{Q:D×Hm->Prop}(h:W (mo ρ μ) fun p=>mD p.2 p.1=true/\W (ms ρ p.2) fun q=>W (f p.1 q.1 q.2) Q):W (iV f mo ms ρ μ) Q:=by
 unfold iV
 rw [W_bind]
 refine bP h fun p q=>?_
 rw [q.1]
 exact W_bind.mpr q.2
theorem DO {μ:Hm}{a:Nat}{xs:List D}(h:μ[a]? = some (.lst xs)):mD μ (.loc a)=true:=by
 simp only [mD,h]
theorem NX {μ:Hm}{a:Nat}{xs:List D}{y:D}{Q:D×Hm->Prop}(h:μ[a]? = some (.lst xs))(hl:xs.length<Qs):W (jH (.loc a) [y] μ) Q↔Q (.non,μ.set a (.lst (xs++[y]))):=by
 simp only [jH,DE h hl,Rk]
 exact W_some
theorem NY {μ:Hm}{a b:Nat}{xs ys:List D}{Q:D×Hm->Prop}(h:μ[a]? = some (.lst xs))(h2:μ[b]? = some (.lst ys))(hl:xs.length+ys.length<=Qs):W (mE (.loc a) [.loc b] μ) Q↔Q (.non,μ.set a (.lst (xs++ys))):=by
 simp only [mE,h,h2,if_pos hl]
 exact W_some
theorem rY {μ:Hm}{xs:List D}{Q:D×Hm->Prop}:W (cH [.tup xs,.ty "tuple"] μ) Q↔Q (.bl true,μ):=W_some
theorem DP {μ:Hm}{i:Int}{Q:D×Hm->Prop}:W (cH [.int i,.ty "bool"] μ) Q↔Q (.bl false,μ):=W_some
theorem DQ {μ:Hm}{i:Int}{Q:D×Hm->Prop}:W (cH [.int i,.ty "int"] μ) Q↔Q (.bl true,μ):=W_some
theorem oT {μ:Hm}{b:Str}{Q:D×Hm->Prop}:W (cH [.str b,.ty "str"] μ) Q↔Q (.bl true,μ):=W_some
theorem NZ {μ:Hm}{a:Nat}{xs:List D}{Q:D×Hm->Prop}(h:μ[a]? = some (.lst xs)):W (cH [.loc a,.ty "list"] μ) Q↔Q (.bl true,μ):=by
 have:cH [.loc a,.ty "list"] μ=some (.bl true,μ):=by
  simp only [cH,pX,h,Rm]
  rfl
 rw [this]
 exact W_some
theorem DR {μ:Hm}{xs:List D}{Q:D×Hm->Prop}:W (cW [.tup xs] μ) Q↔Q (.int xs.length,μ):=W_some
theorem rZ {μ:Hm}{a:Nat}{xs:List D}{Q:D×Hm->Prop}(h:μ[a]? = some (.lst xs)):W (cW [.loc a] μ) Q↔Q (.int xs.length,μ):=by
 simp only [cW,nW,bN,h,Rk]
 exact W_some
theorem nD {μ:Hm}{a:Nat}{xs:List D}{Q:List D->Prop}(h:μ[a]? = some (.lst xs)):W (gN μ (.loc a)) Q↔Q xs:=by
 simp only [gN,bN,h]
 exact W_some
theorem DS {μ:Hm}{xs:List D}{Q:List D->Prop}:W (gN μ (.tup xs)) Q↔Q xs:=W_some
theorem N0 {ρ:aK}{μ:Hm}{Q:Option Int×Hm->Prop}:W (nS ρ μ) Q↔Q (none,μ):=W_some
theorem xR {m:ME}{ρ:aK}{μ:Hm}{Q:Option Int×Hm->Prop}:W (gG m ρ μ) Q↔W (m ρ μ) fun p=>match p.1 with|.int i=>Q (some i,p.2)|_=>False:=by
 unfold gG
 rw [W_bind]
 constructor<;>exact fun h=>bP h fun p q=>by
  obtain ⟨d,μ⟩:=p
  cases d<;>simpa [W_some,W_none] using q
theorem DT {a:ME}{lo hi:MO}{ρ:aK}{μ:Hm}{Q:D×Hm->Prop}(h:W (a ρ μ) fun p=>∃ xs,p.1=.rol xs/\W (lo ρ p.2) fun q=>W (hi ρ q.2) fun r=>Q (.loc r.2.length,r.2++[.lst (gE xs q.1 r.1)])):W (gH a lo hi ρ μ) Q:=by
 unfold gH
 rw [W_bind]
 refine bP h fun p q=>?_
 obtain ⟨d,μ1⟩:=p
 obtain ⟨xs,q1,q2⟩:=q
 dsimp only at q1 q2 ⊢
 subst q1
 rw [W_bind]
 refine bP q2 fun s q=>?_
 rw [W_bind]
 refine bP q fun r q=>?_
 exact W_some.mpr q
theorem cY (μ:Hm)(c:C):(μ++[c])[μ.length]? = some c:=by simp
end L3
namespace L3
open PySem L2
theorem xS {f g:D->D->Hm->Option (D×Hm)}{a b c:ME}{ρ:aK}{μ:Hm} {Q}:W (gU f g a b c ρ μ) Q↔W (a ρ μ) fun p=>W (b ρ p.2) fun q=>W (f p.1 q.1 q.2) fun r=>match r.1 with|.bl k=>if k=true then W (c ρ r.2) fun t=>W (g q.1 t.1 t.2) Q else Q (.bl false,r.2)|_=>False:=by
 unfold gU
 simp only [W_bind]
 constructor<;>exact fun h=>bP h fun p q=>bP q fun q1 h1=>bP h1 fun r h2=>by
  obtain ⟨d,μ⟩:=r
  cases d with
  | bl k=>cases k<;>simpa [W_some,W_bind] using h2
  | _=>simpa [W_none] using h2
section
variable {i j:Int}{μ:Hm}{Q:D×Hm->Prop}
end
theorem w_mTrue {ρ:aK}{μ:Hm}{Q:Bool×Hm->Prop}:W (dP ρ μ) Q↔Q (true,μ):=W_some
theorem xT {o i v:ME}{ρ:aK}{μ:Hm} {Q}:W (i8 o i v ρ μ) Q↔W (v ρ μ) fun p=>W (o ρ p.2) fun q=>W (i ρ q.2) fun r=>W (mQ q.1 r.1 p.1 r.2) fun μ'=>Q (.nx,ρ,μ'):=by
 unfold i8 i7
 simp only [W_bind,iA]
theorem N1 {μ:Hm}{a:Nat}{xs:List D}{Q:D×Hm->Prop}(h:μ[a]? = some (.lst xs)):W (m5 [.loc a] μ) Q↔Q (.tup xs,μ):=by
 simp only [m5,bN,h,Rk]
 exact W_some
section
variable {μ:Hm}{a:Nat}{kvs:List (List Int×D)}{k:List Int}{d y:D}{ρ:aK}{Q:D×Hm->Prop}
theorem xU:W (mU ρ μ) Q↔Q (.loc μ.length,μ++[.dT []]):=W_some
theorem N2 {neg:Bool}(h:μ[a]? = some (.dT kvs))(hk:cL y=some k):W (cM neg y (.loc a) μ) Q↔Q (.bl (if neg then !(bI kvs k).isSome else (bI kvs k).isSome),μ):=by
 have:cM neg y (.loc a) μ=some (.bl (if neg then !(bI kvs k).isSome else (bI kvs k).isSome),μ):=by
  simp only [cM,h,hk,Rk]
 rw [this]
 exact W_some
theorem DU {Q:Hm->Prop}(h:μ[a]? = some (.dT kvs))(hk:cL y=some k)(hl:kvs.length<Qs):W (mQ (.loc a) y d μ) Q↔Q (μ.set a (.dT (dG kvs k d))):=by
 simp only [mQ,kY,h,hk,Rm,if_pos hl]
 exact W_some
end
theorem r6 {f:D->List D->Hm->Option (D×Hm)}{mo:ME}{ms:MA}{ρ:aK}{μ:Hm}{Q:D×Hm->Prop}(h:W (mo ρ μ) fun p=>∃ x,p.1=.str x/\W (ms ρ p.2) fun q=>W (f (.str x) q.1 q.2) Q):W (eS f mo ms ρ μ) Q:=by
 obtain ⟨⟨d,μ1⟩,h1,x,h2,⟨ys,μ2⟩,h3,h4⟩:=h
 dsimp only at h2 h3 h4
 subst h2
 obtain ⟨r,h5,h6⟩:=h4
 refine ⟨r,?_,h6⟩
 simp only [eS,h1,Rm,h3]
 exact h5
theorem DV:∀ ss:List Str,mR (ss.map D.str)=some ss
 | []=>rfl
 | x::ss=>by
  rw [Qz]
  simp only [mR,DV ss,Rk]
theorem N3 {μ:Hm}{a:Nat}{sep:Str}{ss:List Str}{Q:D×Hm->Prop}(h:μ[a]? = some (.lst (ss.map D.str)))(h1:Uw (ss.toArray.foldl (·+·.length+sep.length) 0)=false)(h2:(Rb sep ss).length<=Qs) :
  W (fK (.str sep) [.loc a] μ) Q↔Q (.str (Rb sep ss),μ):=by
 simp only [fK,kR,h,Rm,DV]
 rw [if_pos ⟨h1,h2⟩]
 exact W_some
end L3
namespace Lw
open PySem L2 L3
noncomputable def ds:List (Str×Stmt):=(("is_whole",aQ 8)::("is_place",aQ 9)::("is_edge",aQ 10)::("line_of",aQ 11)::("is_size",aQ 14)::("check_size",aQ 15)::("is_mark",aQ 16)::("is_within",aQ 17)::("places_within",aQ 18)::("edges_in",aQ 19)::("is_inner_edge",aQ 20)::("sheet_of",aQ 21)::("marks_in",aQ 22)::("mark_at",aQ 23)::("sign_at",aQ 25)::("drawn",aQ 26)::("sign_in",aQ 27)::("creases_in",aQ 28)::("read_sheet",aQ 29)::("_law_draw",aQ 31)::("_law_kind",aQ 32)::("_law_int",aQ 33)::("_law_are",aQ 34)::("_law_amid",aQ 35)::("_law_size",aQ 36)::("_law_line",aQ 37)::("_law_creases",aQ 38)::("_law_is_sheet",aQ 39)::("_law_sign",aQ 40)::("_law_drawing",aQ 41)::("law",aQ 42)::[])
noncomputable def r8:D:=(.tup [(.str "h"),(.str "v"),(.str "o")])
noncomputable def S:Sig:=⟨(("is_whole",1)::("is_place",1)::("is_edge",1)::("line_of",1)::("is_size",1)::("check_size",2)::("is_mark",1)::("is_within",3)::("places_within",2)::("edges_in",2)::("is_inner_edge",3)::("sheet_of",3)::("marks_in",1)::("mark_at",2)::("sign_at",3)::("drawn",1)::("sign_in",2)::("creases_in",3)::("read_sheet",1)::("_law_draw",2)::("_law_kind",1)::("_law_int",1)::("_law_are",2)::("_law_amid",3)::("_law_size",1)::("_law_line",1)::("_law_creases",3)::("_law_is_sheet",2)::("_law_sign",4)::("_law_drawing",3)::("law",1)::[]),[("MARKS",r8)],[],["bool","dict","int","isinstance","len","list","range","sorted","str","tuple"],["_law_marks"],[],[]⟩
@[irreducible] noncomputable def f (k:Nat)(x:Str):MF:=hZ S ds k x
end Lw
namespace Lw
open PySem L2 L3
theorem N4 (k:Nat)(d0:D)(μ:Hm):f (k+1) "is_whole" [d0] μ=fin ((aV (dB (aI cH (aC (aA 0) (aC (mC (.ty "int")) aD))) (kH (aI cH (aC (aA 0) (aC (mC (.ty "bool")) aD)))))) [some d0] μ):=by
 kernel_rfl
theorem N5 (k:Nat)(d0:D)(μ:Hm):f (k+1) "is_place" [d0] μ=fin ((aV (dB (aI cH (aC (aA 0) (aC (mC (.ty "tuple")) aD))) (dB (aB (a9 false) (aI cW (aC (aA 0) aD)) (mC (.int 2))) (dB (aI (f k "is_whole") (aC (aB aG (aA 0) (mC (.int 0))) aD)) (aI (f k "is_whole") (aC (aB aG (aA 0) (mC (.int 1))) aD)))))) [some d0] μ):=by
 kernel_rfl
theorem N6 (k:Nat)(d0:D)(μ:Hm):f (k+1) "is_edge" [d0] μ=fin ((aS (bO (aU (aB (a9 false) (aB bK (aB aG (aA 0) (mC (.int 0))) (mC (.int 2))) (mC (.int 1)))) (aV (aB (a9 false) (aB bK (aB aG (aA 0) (mC (.int 1))) (mC (.int 2))) (mC (.int 1)))) bJ) (aV (dB (aB (a9 false) (aB bK (aB aG (aA 0) (mC (.int 1))) (mC (.int 2))) (mC (.int 0))) (aB (a9 true) (aB bK (aB aG (aA 0) (mC (.int 0))) (mC (.int 4))) (aB bK (aB aG (aA 0) (mC (.int 1))) (mC (.int 4))))))) [some d0] μ):=by
 kernel_rfl
theorem N7 (k:Nat)(d0:D)(μ:Hm):f (k+1) "line_of" [d0] μ=fin ((aS (bO (aU (aB (a9 false) (aB bK (aB aG (aA 0) (mC (.int 0))) (mC (.int 2))) (mC (.int 1)))) (aV (gD (aU (aB (a9 false) (aB bK (aB aG (aA 0) (mC (.int 0))) (mC (.int 4))) (aB bK (aB aG (aA 0) (mC (.int 1))) (mC (.int 4))))) (mC (.str "falling")) (mC (.str "rising")))) bJ) (aV (gD (aU (aB (a9 false) (aB bK (aB aG (aA 0) (mC (.int 1))) (mC (.int 4))) (mC (.int 0)))) (mC (.str "level")) (mC (.str "upright"))))) [some d0] μ):=by
 kernel_rfl
theorem N8 (k:Nat)(d0:D)(μ:Hm):f (k+1) "is_size" [d0] μ=fin ((aV (dB (aI (f k "is_whole") (aC (aA 0) aD)) (gU lR lR (mC (.int 1)) (aA 0) (mC (.int 6))))) [some d0] μ):=by
 kernel_rfl
theorem N9 (k:Nat)(d0 d1:D)(μ:Hm):f (k+1) "check_size" [d0,d1] μ=fin ((bO (cJ (dA (bX (aI (f k "is_size") (aC (aA 0) aD))) (bX (aI (f k "is_size") (aC (aA 1) aD))))) c5 bJ) [some d0,some d1] μ):=by
 kernel_rfl
theorem DW (k:Nat)(d0:D)(μ:Hm):f (k+1) "is_mark" [d0] μ=fin ((aV (dB (aI cH (aC (aA 0) (aC (mC (.ty "str")) aD))) (aB (cM false) (aA 0) (mC r8)))) [some d0] μ):=by
 kernel_rfl
theorem DX (k:Nat)(d0 d1 d2:D)(μ:Hm):f (k+1) "is_within" [d0,d1,d2] μ=fin ((aV (dB (gU cK cK (mC (.int 0)) (aB aG (aA 2) (mC (.int 0))) (aB b7 (mC (.int 4)) (aA 0))) (gU cK cK (mC (.int 0)) (aB aG (aA 2) (mC (.int 1))) (aB b7 (mC (.int 4)) (aA 1))))) [some d0,some d1,some d2] μ):=by
 kernel_rfl
theorem Oa (k:Nat)(d0 d1:D)(μ:Hm):f (k+1) "places_within" [d0,d1] μ=fin ((aS (bF 2 (fC aD)) (aS (c4 (jG (aC (mC (.int 1)) (aC (aB b7 (mC (.int 4)) (aA 0)) aD))) (c3 3) (iM (iV mE (aA 2) (aC (cU (jG (aC (mC (.int 1)) (aC (aB b7 (mC (.int 4)) (aA 1)) aD))) dP (cT (aC (aA 3) (aC (aA 4) aD)))) aD)))) (aV (aA 2)))) [some d0,some d1,none,none] μ):=by
 kernel_rfl
theorem Ob (k:Nat)(d0 d1:D)(μ:Hm):f (k+1) "edges_in" [d0,d1] μ=fin ((aV (cU (dD (aI (f k "places_within") (aC (aA 0) (aC (aA 1) aD)))) (bX (aI (f k "is_edge") (aC (aA 2) aD))) (aA 2))) [some d0,some d1] μ):=by
 kernel_rfl
theorem Oc (k:Nat)(d0 d1 d2:D)(μ:Hm):f (k+1) "is_inner_edge" [d0,d1,d2] μ=fin ((aV (dB (aI (f k "is_place") (aC (aA 2) aD)) (dB (aI (f k "is_within") (aC (aA 0) (aC (aA 1) (aC (aA 2) aD)))) (aI (f k "is_edge") (aC (aA 2) aD))))) [some d0,some d1,some d2] μ):=by
 kernel_rfl
theorem Od (k:Nat)(d0 d1 d2:D)(μ:Hm):f (k+1) "sheet_of" [d0,d1,d2] μ=fin ((aS (iM (aI (f k "check_size") (aC (aA 0) (aC (aA 1) aD)))) (aS (bF 3 mU) (aS (c4 (dD (aA 2)) (c3 4) (aS (bF 5 (aB aG (aA 4) (mC (.int 0)))) (aS (bO (cJ (bX (aI (f k "is_inner_edge") (aC (aA 0) (aC (aA 1) (aC (aA 5) aD)))))) c5 bJ) (aS (bO (cJ (bX (aI (f k "is_mark") (aC (aB aG (aA 4) (mC (.int 1))) aD)))) c5 bJ) (aS (bO (aU (aB (cM false) (aA 5) (aA 3))) c5 bJ) (i8 (aA 3) (aA 5) (aB aG (aA 4) (mC (.int 1))))))))) (aV (cT (aC (aA 0) (aC (aA 1) (aC (jM (aA 3)) aD)))))))) [some d0,some d1,some d2,none,none,none] μ):=by
 kernel_rfl
theorem DY (k:Nat)(d0:D)(μ:Hm):f (k+1) "marks_in" [d0] μ=fin ((aV (aI k6 (aC (aB aG (aA 0) (mC (.int 2))) aD))) [some d0] μ):=by
 kernel_rfl
theorem Oe (k:Nat)(d0 d1:D)(μ:Hm):f (k+1) "mark_at" [d0,d1] μ=fin ((aV (gY mZ (aI (f k "marks_in") (aC (aA 0) aD)) (aC (aA 1) aD))) [some d0,some d1] μ):=by
 kernel_rfl
theorem Of (k:Nat)(d0 d1 d2:D)(μ:Hm):f (k+1) "sign_at" [d0,d1,d2] μ=fin ((aS (bO (dA (aU (aB (a9 false) (aB bK (aB aG (aA 2) (mC (.int 0))) (mC (.int 4))) (mC (.int 0)))) (aU (aB (a9 false) (aB bK (aB aG (aA 2) (mC (.int 1))) (mC (.int 4))) (mC (.int 0))))) (aV (mC (.str "+"))) bJ) (aS (bO (cJ (bX (aI (f k "is_edge") (aC (aA 2) aD)))) (aV (mC (.str " "))) bJ) (aS (bO (bX (aI (f k "is_within") (aC (aB aG (aA 0) (mC (.int 0))) (aC (aB aG (aA 0) (mC (.int 1))) (aC (aA 2) aD))))) (aV (gY gZ (aA 1) (aC (aA 2) (aC (mC (.str ".")) aD)))) bJ) (aV (gD (aU (aB (a9 false) (aI (f k "line_of") (aC (aA 2) aD)) (mC (.str "level")))) (mC (.str "-")) (mC (.str "|"))))))) [some d0,some d1,some d2] μ):=by
 kernel_rfl
theorem Og (k:Nat)(d0:D)(μ:Hm):f (k+1) "drawn" [d0] μ=fin ((aS (bF 1 (aI (f k "marks_in") (aC (aA 0) aD))) (aS (bF 2 (fC aD)) (aS (c4 (fR (aC (aB cQ (aB b7 (mC (.int 4)) (aB aG (aA 0) (mC (.int 1)))) (mC (.int 1))) aD)) (c3 3) (iM (iV jH (aA 2) (aC (eS fK (mC (.str "")) (aC (cU (fR (aC (aB cQ (aB b7 (mC (.int 4)) (aB aG (aA 0) (mC (.int 0)))) (mC (.int 1))) aD)) dP (aI (f k "sign_at") (aC (aA 0) (aC (aA 1) (aC (cT (aC (aA 4) (aC (aA 3) aD))) aD))))) aD)) aD)))) (aV (eS fK (mC (.str "\n")) (aC (aA 2) aD)))))) [some d0,none,none,none] μ):=by
 kernel_rfl
theorem Oh (k:Nat)(d0 d1:D)(μ:Hm):f (k+1) "sign_in" [d0,d1] μ=fin ((aV (gH (aB aG (aA 0) (aB aG (aA 1) (mC (.int 1)))) (gG (aB aG (aA 1) (mC (.int 0)))) (gG (aB cQ (aB aG (aA 1) (mC (.int 0))) (mC (.int 1)))))) [some d0,some d1] μ):=by
 kernel_rfl
theorem Oi (k:Nat)(d0 d1 d2:D)(μ:Hm):f (k+1) "creases_in" [d0,d1,d2] μ=fin ((aS (bF 3 (cU (dD (aI (f k "edges_in") (aC (aA 1) (aC (aA 2) aD)))) dP (cT (aC (aA 4) (aC (aI (f k "sign_in") (aC (aA 0) (aC (aA 4) aD))) aD))))) (aV (aI m5 (aC (cU (dD (aA 3)) (bX (aI (f k "is_mark") (aC (aB aG (aA 4) (mC (.int 1))) aD))) (aA 4)) aD)))) [some d0,some d1,some d2,none] μ):=by
 kernel_rfl
theorem Oj (k:Nat)(d0:D)(μ:Hm):f (k+1) "read_sheet" [d0] μ=fin ((aS (bO (cJ (bX (aI cH (aC (aA 0) (aC (mC (.ty "str")) aD))))) c5 bJ) (aS (bF 1 (eS m4 (aA 0) (aC (mC (.str "\n")) aD))) (aS (bF 2 (aB dX (aI cW (aC (aB aG (aA 1) (mC (.int 0))) aD)) (mC (.int 4)))) (aS (bF 3 (aB dX (aI cW (aC (aA 1) aD)) (mC (.int 4)))) (aS (bO (cJ (dA (bX (aI (f k "is_size") (aC (aA 2) aD))) (bX (aI (f k "is_size") (aC (aA 3) aD))))) c5 bJ) (aS (bF 4 (cT (aC (aA 2) (aC (aA 3) (aC (aI (f k "creases_in") (aC (aA 1) (aC (aA 2) (aC (aA 3) aD)))) aD))))) (aS (bO (aU (aB (a9 true) (aI (f k "drawn") (aC (aA 4) aD)) (aA 0))) c5 bJ) (aV (aA 4))))))))) [some d0,none,none,none,none] μ):=by
 kernel_rfl
theorem Ol (k:Nat)(d0 d1:D)(μ:Hm):f (k+1) "_law_draw" [d0,d1] μ=fin ((aV (aB aG (aB cQ (fC (aC (mC (.int 0)) aD)) (gH (aA 0) (gG (aA 1)) (gG (aB cQ (aA 1) (mC (.int 1)))))) (nZ (mC (.int 1))))) [some d0,some d1] μ):=by
 kernel_rfl
theorem Om (k:Nat)(d0:D)(μ:Hm):f (k+1) "_law_kind" [d0] μ=fin ((aV (aB aG (aB aG (fC (aC (mC (.str "c.l.")) (aC (mC (.str ".fqr")) (aC (mC (.str "uqcq")) (aC (mC (.str ".rqf")) aD))))) (aB bK (aB aG (aA 0) (mC (.int 1))) (mC (.int 4)))) (aB bK (aB aG (aA 0) (mC (.int 0))) (mC (.int 4))))) [some d0] μ):=by
 kernel_rfl
theorem Oo (k:Nat)(d0:D)(μ:Hm):f (k+1) "_law_int" [d0] μ=fin ((aV (dB (kH (aI cH (aC (aA 0) (aC (mC (.ty "bool")) aD)))) (aI cH (aC (aA 0) (aC (mC (.ty "int")) aD))))) [some d0] μ):=by
 kernel_rfl
theorem Oq (k:Nat)(d0 d1:D)(μ:Hm):f (k+1) "_law_are" [d0,d1] μ=fin ((aS (bO (dN (cJ (bX (aI cH (aC (aA 0) (aC (mC (.ty "list")) aD))))) (aU (aB (a9 true) (aA 0) (aA 1)))) (aV (mC (.bl false))) bJ) (aS (c4 (dD (aA 0)) (c3 2) (bO (dN (cJ (bX (aI cH (aC (aA 2) (aC (mC (.ty "tuple")) aD))))) (dN (aU (aB (a9 true) (aI cW (aC (aA 2) aD)) (mC (.int 2)))) (dN (cJ (bX (aI (f k "_law_int") (aC (aB aG (aA 2) (mC (.int 0))) aD)))) (cJ (bX (aI (f k "_law_int") (aC (aB aG (aA 2) (mC (.int 1))) aD))))))) (aV (mC (.bl false))) bJ)) (aV (mC (.bl true))))) [some d0,some d1,none] μ):=by
 kernel_rfl
theorem Ot (k:Nat)(d0 d1 d2:D)(μ:Hm):f (k+1) "_law_amid" [d0,d1,d2] μ=fin ((aS (bF 3 (fC aD)) (aS (c4 (jG (aC (mC (.int 1)) (aC (aB b7 (mC (.int 4)) (aA 0)) aD))) (c3 4) (bF 3 (aB cQ (aA 3) (cU (jG (aC (mC (.int 1)) (aC (aB b7 (mC (.int 4)) (aA 1)) aD))) (aU (aB (cM false) (aI (f k "_law_kind") (aC (cT (aC (aA 4) (aC (aA 5) aD))) aD)) (aA 2))) (cT (aC (aA 4) (aC (aA 5) aD))))))) (aV (aA 3)))) [some d0,some d1,some d2,none,none] μ):=by
 kernel_rfl
theorem Ou (k:Nat)(d0:D)(μ:Hm):f (k+1) "_law_size" [d0] μ=fin ((aV (aB aG (fC (aC (mC (.int 1)) (aC (mC (.int 2)) (aC (mC (.int 3)) (aC (aB cQ (mC (.int 1)) (aB bK (aB dX (aA 0) (mC (.int 4))) (mC (.int 6)))) aD))))) (aB bK (aA 0) (mC (.int 4))))) [some d0] μ):=by
 kernel_rfl
theorem Ov (k:Nat)(d0:D)(μ:Hm):f (k+1) "_law_line" [d0] μ=fin ((aS (bF 1 (aI (f k "_law_kind") (aC (aA 0) aD))) (aV (cT (aC (aA 1) (aC (aB aG (iT [((mC (.str "l")),(aB aG (aA 0) (mC (.int 1)))),((mC (.str "u")),(aB aG (aA 0) (mC (.int 0)))),((mC (.str "f")),(aB nU (aB aG (aA 0) (mC (.int 0))) (aB aG (aA 0) (mC (.int 1))))),((mC (.str "r")),(aB cQ (aB aG (aA 0) (mC (.int 0))) (aB aG (aA 0) (mC (.int 1)))))]) (aA 1)) aD))))) [some d0,none] μ):=by
 kernel_rfl
theorem Ox (k:Nat)(d0 d1 d2:D)(μ:Hm):f (k+1) "_law_creases" [d0,d1,d2] μ=fin ((aS (bF 3 (aI (f k "_law_amid") (aC (aA 0) (aC (aA 1) (aC (mC (.str "lufr")) aD))))) (aS (bF 4 mU) (aS (c4 (fR (aC (aI cW (aC (aA 2) aD)) aD)) (c3 5) (aS (bF 6 (aB bK (aB cQ (aB cQ (aB b7 (aB aG (aA 2) (aA 5)) (mC (.int 48271))) (aB b7 (aB b7 (aA 5) (aA 5)) (mC (.int 40693)))) (mC (.int 7919))) (mC (.int 2147483647)))) (aS (bF 6 (aB bK (aB b7 (aA 6) (aA 6)) (mC (.int 2147483563)))) (aS (bF 7 (aB aG (aA 3) (aB bK (aB dX (aA 6) (mC (.int 9))) (aI cW (aC (aA 3) aD))))) (bO (aU (aB cK (aB bK (aA 6) (mC (.int 9))) (mC (.int 7)))) (i8 (aA 4) (aA 7) (aB aG (mC (.str "hvo")) (aB bK (aB dX (aA 6) (mC (.int 2003))) (mC (.int 3))))) (aS (bF 8 (cU (dD (aA 3)) (aU (aB (a9 false) (aI (f k "_law_line") (aC (aA 10) aD)) (aI (f k "_law_line") (aC (aA 7) aD)))) (aA 10))) (c4 (fR (aC (aI cW (aC (aA 8) aD)) aD)) (c3 9) (i8 (aA 4) (aB aG (aA 8) (aA 9)) (aB aG (mC (.str "hvo")) (aB bK (aB cQ (aB dX (aA 6) (mC (.int 2003))) (aB b7 (aA 9) (aB bK (aA 6) (mC (.int 2))))) (mC (.int 3)))))))))))) (aV (aA 4))))) [some d0,some d1,some d2,none,none,none,none,none,none,none] μ):=by
 kernel_rfl
theorem Oy (k:Nat)(d0 d1:D)(μ:Hm):f (k+1) "_law_is_sheet" [d0,d1] μ=fin ((aS (bO (dN (cJ (bX (aI cH (aC (aA 0) (aC (mC (.ty "tuple")) aD))))) (dN (aU (aB (a9 true) (aI cW (aC (aA 0) aD)) (mC (.int 3)))) (dN (cJ (bX (aI cH (aC (aB aG (aA 0) (mC (.int 2))) (aC (mC (.ty "tuple")) aD))))) (aU (aB (a9 true) (aA 0) (aA 1)))))) (aV (mC (.bl false))) bJ) (aS (bO (dN (cJ (bX (aI (f k "_law_int") (aC (aB aG (aA 0) (mC (.int 0))) aD)))) (cJ (bX (aI (f k "_law_int") (aC (aB aG (aA 0) (mC (.int 1))) aD))))) (aV (mC (.bl false))) bJ) (aS (c4 (dD (aB aG (aA 0) (mC (.int 2)))) (c3 2) (bO (dN (cJ (bX (aI cH (aC (aA 2) (aC (mC (.ty "tuple")) aD))))) (dN (aU (aB (a9 true) (aI cW (aC (aA 2) aD)) (mC (.int 2)))) (cJ (bX (aI cH (aC (aB aG (aA 2) (mC (.int 1))) (aC (mC (.ty "str")) aD))))))) (aV (mC (.bl false))) bJ)) (aV (aI (f k "_law_are") (aC (cU (dD (aB aG (aA 0) (mC (.int 2)))) dP (aB aG (aA 3) (mC (.int 0)))) (aC (cU (dD (aB aG (aA 1) (mC (.int 2)))) dP (aB aG (aA 3) (mC (.int 0)))) aD))))))) [some d0,some d1,none] μ):=by
 kernel_rfl
theorem Oz (k:Nat)(d0 d1 d2 d3:D)(μ:Hm):f (k+1) "_law_sign" [d0,d1,d2,d3] μ=fin ((aS (bF 4 (aI (f k "_law_kind") (aC (aA 0) aD))) (aS (bO (dA (aU (aB (a9 false) (aB bK (aB aG (aA 0) (mC (.int 0))) (mC (.int 4))) (mC (.int 0)))) (aU (aB (a9 false) (aB bK (aB aG (aA 0) (mC (.int 1))) (mC (.int 4))) (mC (.int 0))))) (aV (mC (.str "+"))) bJ) (aS (bO (aU (aB (cM true) (aA 4) (mC (.str "lufr")))) (aV (mC (.str " "))) bJ) (aS (bO (dA (aU (aB cK (mC (.int 0)) (aB aG (aA 0) (mC (.int 0))))) (dA (aU (aB cK (aB aG (aA 0) (mC (.int 0))) (aB b7 (mC (.int 4)) (aA 1)))) (dA (aU (aB cK (mC (.int 0)) (aB aG (aA 0) (mC (.int 1))))) (aU (aB cK (aB aG (aA 0) (mC (.int 1))) (aB b7 (mC (.int 4)) (aA 2))))))) (aV (gY gZ (aA 3) (aC (aA 0) (aC (mC (.str ".")) aD)))) bJ) (aV (aB aG (iT [((mC (.str "l")),(mC (.str "-"))),((mC (.str "u")),(mC (.str "|")))]) (aA 4))))))) [some d0,some d1,some d2,some d3,none] μ):=by
 kernel_rfl
theorem OA (k:Nat)(d0 d1 d2:D)(μ:Hm):f (k+1) "_law_drawing" [d0,d1,d2] μ=fin ((aS (bF 3 (fC aD)) (aS (c4 (fR (aC (aB cQ (aB b7 (mC (.int 4)) (aA 1)) (mC (.int 1))) aD)) (c3 4) (iM (iV jH (aA 3) (aC (eS fK (mC (.str "")) (aC (cU (fR (aC (aB cQ (aB b7 (mC (.int 4)) (aA 0)) (mC (.int 1))) aD)) dP (aI (f k "_law_sign") (aC (cT (aC (aA 5) (aC (aA 4) aD))) (aC (aA 0) (aC (aA 1) (aC (aA 2) aD)))))) aD)) aD)))) (aV (eS fK (mC (.str "\n")) (aC (aA 3) aD))))) [some d0,some d1,some d2,none,none] μ):=by
 kernel_rfl
theorem OB (k:Nat)(d0:D)(μ:Hm):f (k+1) "law" [d0] μ=fin ((aS (bF 1 (aI (f k "_law_size") (aC (aI (f k "_law_draw") (aC (aA 0) (aC (mC (.int 0)) aD))) aD))) (aS (bF 2 (aI (f k "_law_size") (aC (aI (f k "_law_draw") (aC (aA 0) (aC (mC (.int 1)) aD))) aD))) (aS (bF 3 (aI (f k "_law_draw") (aC (aA 0) (aC (mC (.int 2)) aD)))) (aS (bF 4 (aI (f k "_law_creases") (aC (aA 1) (aC (aA 2) (aC (gH (aA 0) (gG (mC (.int 3))) nS) aD))))) (aS (bF 5 (cT (aC (aA 1) (aC (aA 2) (aC (jM (aA 4)) aD))))) (aS (bF 6 (aA 5)) (aS (bO (aU (aB (a9 false) (aB bK (aA 3) (mC (.int 2))) (mC (.int 1)))) (bF 6 (aI (f k "sheet_of") (aC (aA 1) (aC (aA 2) (aC (k7 4 (cU (eV (aA 4)) dP (cT (aC (aA 11) (aC (aB aG (aA 4) (aA 11)) aD)))) (cU (dD (aA 4)) dP (cT (aC (aA 11) (aC (aB aG (aA 4) (aA 11)) aD))))) aD))))) bJ) (aS (bF 8 (aI (f k "_law_drawing") (aC (aA 1) (aC (aA 2) (aC (aA 4) aD))))) (aS (bF 9 (aI (f k "drawn") (aC (aA 6) aD))) (aS (bO (dN (cJ (bX (aI cH (aC (aA 9) (aC (mC (.ty "str")) aD))))) (aU (aB (a9 true) (aA 9) (aA 8)))) (aV (mC (.bl false))) bJ) (aS (bF 10 (aI (f k "read_sheet") (aC (aA 8) aD))) (aS (bO (cJ (bX (aI (f k "_law_is_sheet") (aC (aI (f k "read_sheet") (aC (aI (f k "_law_drawing") (aC (aA 2) (aC (aA 1) (aC mU aD)))) aD)) (aC (cT (aC (aA 2) (aC (aA 1) (aC (cT aD) aD)))) aD))))) (aV (mC (.bl false))) bJ) (aS (jA 4 (c4 (eV (aA 4)) (c3 7) (bO (aU (aB (a9 true) (aI (f k "mark_at") (aC (aA 10) (aC (aA 7) aD))) (aB aG (aA 4) (aA 7)))) (aV (mC (.bl false))) bJ)) (c4 (dD (aA 4)) (c3 7) (bO (aU (aB (a9 true) (aI (f k "mark_at") (aC (aA 10) (aC (aA 7) aD))) (aB aG (aA 4) (aA 7)))) (aV (mC (.bl false))) bJ))) (aV (dB (aI (f k "_law_is_sheet") (aC (aA 10) (aC (aA 5) aD))) (dB (aI (f k "_law_is_sheet") (aC (aI (f k "read_sheet") (aC (aA 9) aD)) (aC (aA 5) aD))) (aB (a9 false) (aI (f k "drawn") (aC (aA 10) aD)) (aA 8)))))))))))))))))) [some d0,none,none,none,none,none,none,none,none,none,none] μ):=by
 kernel_rfl
end Lw
namespace Lw
open PySem L2 L3
theorem fV {z:Int}{μ:Hm}{Q:D×Hm->Prop}:W (b7 (.int 4) (.int z) μ) Q↔Q (.int (4 * z),μ):=m9 (.inl ⟨by decide,by decide⟩)
theorem r9 {z:Int}{μ:Hm}{Q:D×Hm->Prop}:W (bK (.int z) (.int 2) μ) Q↔Q (.int (z % 2),μ):=jC (by decide)
theorem oU {z:Int}{μ:Hm}{Q:D×Hm->Prop}:W (bK (.int z) (.int 4) μ) Q↔Q (.int (z % 4),μ):=jC (by decide)
theorem OC {z:Int}{μ:Hm}{Q:D×Hm->Prop}:W (bK (.int z) (.int 6) μ) Q↔Q (.int (z % 6),μ):=jC (by decide)
theorem xV {z:Int}{μ:Hm}{Q:D×Hm->Prop}:W (dX (.int z) (.int 4) μ) Q↔Q (.int (z / 4),μ):=rR (by decide) (by decide)
theorem OD:(2:Nat)<=Qs:=by decide
theorem jV {a b:D}:([a,b]:List D).length<=Qs:=OD
theorem OE {z:Int}{μ:Hm}{Q:D×Hm->Prop}:W (dX (.int z) (.int 9) μ) Q↔Q (.int (z / 9),μ):=rR (by decide) (by decide)
theorem OF {z:Int}{μ:Hm}{Q:D×Hm->Prop}:W (bK (.int z) (.int 9) μ) Q↔Q (.int (z % 9),μ):=jC (by decide)
noncomputable def f6:D->Int
 | .int i=>i
 | _=>0
theorem sA {lo:Int}{n:Nat}{d:D}(h:d∈c8 lo n):∃ j:Nat,j<n/\d=.int (lo+(j:Int)):=by
 unfold c8 at h
 obtain ⟨j,h1,rfl⟩:=Q4.mp h
 exact ⟨j,Su.mp h1,rfl⟩
noncomputable def jW (i j:Int):Str:=
 if j=0 then (if i=0 then "c" else if i=2 then "l" else ".") else if j=1 then (if i=1 then "f" else if i=2 then "q" else if i=3 then "r" else ".")
 else if j=2 then (if i=0 then "u" else if i=2 then "c" else "q") else (if i=1 then "r" else if i=2 then "q" else if i=3 then "f" else ".")
noncomputable def bD (x y:Int):Str:=jW (x % 4) (y % 4)
theorem oV (x:Int):x % 4=0\/x % 4=1\/x % 4=2\/x % 4=3:=by omega
noncomputable def sC:List D:=[.str "c.l.",.str ".fqr",.str "uqcq",.str ".rqf"]
theorem OG (i j:Int)(hi:i=0\/i=1\/i=2\/i=3)(hj:j=0\/j=1\/j=2\/j=3)(μ:Hm):∃ r,atI sC j=some r/\aG r (.int i) μ=some (.str (jW i j),μ):=by
 rcases hj with rfl|rfl|rfl|rfl<;>rcases hi with rfl|rfl|rfl|rfl<;>exact ⟨_,rfl,by kernel_rfl⟩
theorem xW (k:Nat)(x y:Int)(μ:Hm)(Q:D×Hm->Prop)(h:∀ μ',μ <+: μ'->Q (.str (bD x y),μ')):W (f (k+1) "_law_kind" [P x y] μ) Q:=by
 rw [Om,bS]
 simp only [bH,aT,aO,aE,aL,aM,lC,eD,dW,jC (show (0:Int)<4 by decide)]
 refine ⟨by decide,?_⟩
 obtain ⟨r,h1,h2⟩:=OG (x % 4) (y % 4) (oV x) (oV y) (μ++[.lst sC])
 refine (jT (xs:=sC) (cY μ _) h1).mpr ?_
 show W (aG r (.int (x % 4)) (μ++[.lst sC])) _
 rw [h2]
 exact W_some.mpr (h _ (cO _ _))
noncomputable def cA (s t:Str):Bool:=!(RM t s 0 t.length 1).isEmpty
theorem OH {s t:Str}{μ:Hm}{Q:D×Hm->Prop}:W (cM false (.str s) (.str t) μ) Q↔Q (.bl (cA s t),μ):=W_some
noncomputable def cell (ns:List Int)(i:Int):Int:=ns.getD i.toNat 0
theorem OI (ns:List Int)(i:Nat):gE (ns.map D.int) (some (i:Int)) (some ((i:Int)+1))=((ns.drop i).take 1).map D.int:=by
 have h1:((i:Int)+1)=((i+1:Nat):Int):=by omega
 unfold gE
 rw [h1,HT.sIx_nat,HT.sIx_nat]
 by_cases h:i<ns.length
 ·have e1:min i (ns.map D.int).length=i:=by rw [Qm];omega
  have e2:min (i+1) (ns.map D.int).length - i=1:=by rw [Qm];omega
  rw [e1,e2,ZD,Xk]
 ·have e1:min i (ns.map D.int).length=ns.length:=by rw [Qm];omega
  rw [e1,RW (by rw [Qm];omega),RW (by omega)]
  simp
theorem OJ (ns:List Int)(i:Nat):atI ((.int 0:D)::((ns.drop i).take 1).map D.int) (-1)=some (.int (ns.getD i 0)):=by
 by_cases h:i<ns.length
 ·have e:(ns.drop i).take 1=[ns[i]]:=by
   rw [SN h];rfl
  rw [e]
  have:ns.getD i 0=ns[i]:=by simp [RC,h]
  rw [this]
  rfl
 ·have e:ns.drop i=[]:=RW (by omega)
  rw [e]
  have:ns.getD i 0=0:=by simp [RC,RP (TB.mp h)]
  rw [this]
  rfl
theorem xX (k:Nat)(ns:List Int)(i:Int)(hi:0<=i)(μ:Hm)(Q:D×Hm->Prop)(h:∀ μ',μ <+: μ'->Q (.int (cell ns i),μ')):W (f (k+1) "_law_draw" [.rol (ns.map D.int),.int i] μ) Q:=by
 rw [Ol,bS]
 simp only [bH,aT,aO,aE,aJ,aL,aM,lC]
 refine ⟨by decide,?_⟩
 refine DT ?_
 simp only [aE]
 refine ⟨_,rfl,?_⟩
 simp only [xR,aT,aO,aE,aJ,fU]
 obtain ⟨n,rfl⟩:∃ n:Nat,i=n:=⟨i.toNat,by omega⟩
 rw [OI]
 generalize hl:(ns.drop n).take 1=l
 have hlen:l.length<=1:=by rw [<- hl,Q8];omega
 have hz:(1:Nat)+(l.map D.int).length<=Qs:=by
  rw [Qm,Ro];omega
 have g1:(μ++[C.lst [D.int 0]]++[C.lst (l.map D.int)])[μ.length]? = some (C.lst [D.int 0]):=bW (cO _ _) (cY _ _)
 have g2:(μ++[C.lst [D.int 0]]++[C.lst (l.map D.int)])[(μ++[C.lst [D.int 0]]).length]? = some (C.lst (l.map D.int)):=cY _ _
 rw [DH g1 g2 hz]
 simp only [NO,aO]
 have hat:=OJ ns n
 rw [hl] at hat
 refine (jT (cY _ _) hat).mpr ?_
 exact h _ ((cO _ _).trans ((cO _ _).trans (cO _ _)))
noncomputable def b6:D->Int×Int
 | .tup [.int x,.int y]=>(x,y)
 | _=>(0,0)
theorem OK (p:Int×Int->Bool)(l:List (Int×Int)):((l.map PP).filter fun d=>p (b6 d)).map (fun d=>d)=(l.filter p).map PP:=by
 rw [Xu]
 induction l with
 | nil=>rfl
 | cons a l ih=>
  have e:(List.map PP (a::l)).filter (fun d=>p (b6 d))=if p a then PP a::(l.map PP).filter (fun d=>p (b6 d)) else (l.map PP).filter fun d=>p (b6 d):=by
   rw [Qz,Vo];rfl
  rw [e,ih,Vo]
  split<;>rfl
theorem DZ {d:D}{l:List (Int×Int)}(h:d∈l.map PP):∃ x y,d=P x y:=by
 obtain ⟨p,_,rfl⟩:=Q4.mp h
 exact ⟨p.1,p.2,rfl⟩
theorem D0 (k:Nat)(i:Int)(μ:Hm)(Q:D×Hm->Prop):W (f (k+1) "_law_int" [.int i] μ) Q↔Q (.bl true,μ):=by
 rw [Oo,bS]
 simp only [bH,fM,DC,aW,aM,aL,aE,aO,DP,DQ]
 simp
theorem OL (k:Nat)(a b:Nat)(ps qs:List (Int×Int))(μ:Hm)(Q:D×Hm->Prop)(ha:μ[a]? = some (.lst (ps.map PP)))(hb:μ[b]? = some (.lst (qs.map PP)))(h:Q (.bl (ps == qs),μ)):W (f (k+2) "_law_are" [.loc a,.loc b] μ) Q:=by
 rw [Oq,bS]
 simp only [aY,cD,m8,eX,dU,aW,aM,aL,aE,aJ,aO,c6,aT]
 refine (NZ ha).mpr ?_
 simp only [c7,RS,Qp,if_false]
 refine (NW ha hb).mpr ?_
 dsimp only
 cases e:ps == qs with
 | false=>
  simp only [if_true,VO,bH,aO]
  rw [e] at h
  exact h
 | true=>
  simp only [if_true,RS,Qp,if_false,cC]
  rw [e] at h
  simp only [iB,jU,aE]
  refine (nD ha).mpr ?_
  refine DD (fun i ρ μ'=>μ'=μ/\∃ o,ρ=[some (.loc a),some (.loc b),o]) ⟨rfl,none,rfl⟩ (fun i ρ μ' hI=>by rw [hI.1];exact ha) ?_ ?_
  ·rintro i d ρ μ' hd ⟨rfl,o,rfl⟩
   obtain ⟨u,v,rfl⟩:=DZ (Q2 hd)
   refine ⟨_,rfl,?_⟩
   simp only [Qu,Qv,cD,m8,eX,dU,aW,aM,aL,aE,aJ,aO,c6,aT,rY,c7,DR,rS,eD,dW,D0,cC,RS,Qp,if_false]
   exact ⟨trivial,_,rfl⟩
  ·rintro ρ μ' ⟨rfl,o,rfl⟩
   simp only [bH,aO]
   exact h
theorem D1 {M:Int->Int->Prop}(h:∀ i j:Int,(i=0\/i=1\/i=2\/i=3)->(j=0\/j=1\/j=2\/j=3)->M i j)(x y:Int):M (x % 4) (y % 4):=h _ _ (oV x) (oV y)
theorem D2 (x:Int):x % 2=x % 4 % 2:=by omega
theorem kE (x y:Int):cA (bD x y) "lufr" = (if x % 2=1 then y % 2 == 1 else (y % 2 == 0&&!(x % 4 == y % 4))):=by
 unfold bD
 rw [D2 x,D2 y]
 refine D1 (M:=fun i j=>cA (jW i j) "lufr" = (if i % 2=1 then j % 2 == 1 else (j % 2 == 0&&!(i == j)))) (fun i j hi hj=>?_) x y
 rcases hi with rfl|rfl|rfl|rfl<;>rcases hj with rfl|rfl|rfl|rfl<;>decide +kernel
theorem xY (k:Nat)(x y:Int)(μ:Hm)(Q:D×Hm->Prop):W (f (k+1) "is_edge" [P x y] μ) Q↔Q (.bl (cA (bD x y) "lufr"),μ):=by
 rw [N6,bS,kE]
 simp only [aY,bH,cC,cD,c6,fM,aT,aO,aE,eD,dW,nA,rS,r9,oU]
 by_cases h:x % 2=1
 ·simp [h]
 ·by_cases g:y % 2=0
  ·simp [h,g]
  ·have e:(y % 2 == 0)=false:=by simpa using g
   simp only [e,Zm]
   simp [h]
noncomputable def eY (h:Int)(x:Int):List (Int×Int):=(RA (4 * h - 1).toNat).map fun (j:Nat)=>(x,1+(j:Int))
noncomputable def eE (h:Int)(n:Nat):List (Int×Int):=(RA n).flatMap fun (i:Nat)=>eY h (1+(i:Int))
noncomputable def fW (w h:Int):List (Int×Int):=eE h (4 * w - 1).toNat
noncomputable def bQ (w h:Int)(s:Str):List (Int×Int):=(fW w h).filter fun p=>cA (bD p.1 p.2) s
theorem xZ (h:Int)(n:Nat):eE h (n+1)=eE h n++eY h (1+(n:Int)):=by
 unfold eE;rw [Ze,List.flatMap_append];simp
theorem yA (h x:Int):(eY h x).length=(4 * h - 1).toNat:=by unfold eY;simp
theorem sD (h:Int):∀ n:Nat,(eE h n).length=n * (4 * h - 1).toNat
 | 0=>by simp [eE]
 | n+1=>by rw [xZ,Qx,sD h n,yA,Wo]
theorem yB {h:Int}(hh:h<=6){n:Nat}(hn:n<=23):n * (4 * h - 1).toNat<=529:=by
 have:n * (4 * h - 1).toNat<=23 * 23:=VS hn (by omega)
 omega
theorem OM (h x:Int):((c8 1 (4 * h - 1).toNat).filter fun _=>true).map (fun d=>P x (f6 d))=(eY h x).map PP:=by
 unfold c8 eY
 rw [show ∀ l:List D,l.filter (fun _=>true)=l from fun l=>by simp,Rj,Rj]
 rfl
theorem ON (k:Nat)(w h:Int)(hw:1<=w/\w<=6)(hh:1<=h/\h<=6)(μ:Hm)(Q:D×Hm->Prop)(H:∀ a μ',μ <+: μ'->μ'[a]? = some (.lst ((fW w h).map PP))->μ.length<=a->Q (.loc a,μ')):W (f (k+1) "places_within" [.int w,.int h] μ) Q:=by
 rw [Oa,bS]
 simp only [aY,bV,lC,aL]
 refine ⟨RV _,?_⟩
 simp only [Qu,Qv,iB,rW,aM,aL,aO,aT,aE,aJ,fV]
 refine ⟨by omega,?_⟩
 refine oS (lo:=1) (fun i ρ μ'=>μ <+: μ'/\μ'[μ.length]? = some (.lst ((eE h i).map PP))/\∃ o,ρ=[some (.int w),some (.int h),some (.loc μ.length),o]) ⟨cO _ _,cY _ _,none,rfl⟩ ?_ ?_
 ·rintro i ρ μ1 hi ⟨hp,hg,o,rfl⟩
  refine ⟨_,rfl,?_⟩
  simp only [Qu,Qv,xO]
  refine DN ?_
  simp only [aE,aJ]
  refine ⟨DO hg,?_⟩
  simp only [aM,aL]
  refine jD (xs:=c8 1 (4 * h - 1).toNat) (p:=fun _=>true) (v:=fun d=>P (1+(i:Int)) (f6 d)) ?_
  simp only [rW,aM,aL,aO,aT,aE,aJ,fV]
  refine ⟨by omega,xQ,by simp [c8],by rw [Ro];simp [c8];omega,?_,?_,?_⟩
  ·intro d μ' hd hp
   exact w_mTrue.mpr ⟨rfl,Ri _⟩
  ·intro d μ' hd _ hp
   obtain ⟨j,hj,rfl⟩:=sA hd
   simp only [Rh,Rw,fL,aM,aL,aE,aJ,jV,true_and]
   exact ⟨rfl,Ri _⟩
  ·intro μ2 hp2 hg2
   rw [OM] at hg2
   have hlen:((eE h i).map PP).length+((eY h (1+(i:Int))).map PP).length<=Qs:=by
    have h1:=yB (h:=h) hh.2 (n:=i+1) (by omega)
    rw [Wo] at h1
    rw [Qm,Qm,sD,yA,Ro]
    omega
   refine (NY (bW hp2 hg) hg2 hlen).mpr ?_
   refine ⟨jB (hp.trans hp2) (Qq _) _,?_,_,rfl⟩
   rw [Rz (Qi.mp (bW hp2 hg)).1,xZ,Sj]
 ·rintro ρ μ1 ⟨hp,hg,o,rfl⟩
  simp only [bH,aE,aJ]
  exact H _ _ hp hg (Qq _)
theorem yC {w h:Int}(hw:w<=6)(hh:h<=6):(fW w h).length<=529:=by
 unfold fW
 rw [sD]
 exact yB hh (by omega)
theorem OO (k:Nat)(w h:Int)(hw:1<=w/\w<=6)(hh:1<=h/\h<=6)(s:Str)(c:MT)(hc:∀ (u v:Int)(μ:Hm),W (c [some (.int w),some (.int h),some (P u v)] μ) fun r=>r.1=cA (bD u v) s/\μ <+: r.2)(μ:Hm)(Q:D×Hm->Prop)
  (H:∀ a μ',μ <+: μ'->μ'[a]? = some (.lst ((bQ w h s).map PP))->μ.length<=a->Q (.loc a,μ')):W (cU (dD (aI (f (k+1) "places_within") (aC (aA 0) (aC (aA 1) aD)))) c (aA 2) [some (.int w),some (.int h)] μ) Q:=by
 refine jD (xs:=(fW w h).map PP) (p:=fun d=>cA (bD (b6 d).1 (b6 d).2) s) (v:=fun d=>d) ?_
 simp only [jU,aW,aM,aL,aE,aJ]
 refine ON _ w h hw hh _ _ fun a μ1 p1 g1 l1=>?_
 refine (nD g1).mpr ?_
 refine ⟨rX g1,rfl,?_,fun d μ' hd hp=>?_,fun d μ' hd _ hp=>?_,fun μ' hp hg=>?_⟩
 ·have:=yC (w:=w) (h:=h) hw.2 hh.2
  rw [Qm,Ro];omega
 ·obtain ⟨u,v,rfl⟩:=DZ hd
  exact hc u v μ'
 ·simp only [Rh,Rw,aE,aJ]
  exact ⟨trivial,Ri _⟩
 ·refine H _ _ (p1.trans hp) ?_ (rQ p1)
  rw [hg,OK fun p=>cA (bD p.1 p.2) s]
  rfl
theorem OP (k:Nat)(w h:Int)(hw:1<=w/\w<=6)(hh:1<=h/\h<=6)(μ:Hm)(Q:D×Hm->Prop)(H:∀ a μ',μ <+: μ'->μ'[a]? = some (.lst ((bQ w h "lufr").map PP))->μ.length<=a->Q (.loc a,μ')):W (f (k+2) "edges_in" [.int w,.int h] μ) Q:=by
 rw [Ob,bS]
 simp only [bH]
 refine OO k w h hw hh "lufr" _ (fun u v μ'=>?_) μ _ H
 simp only [dU,aW,aM,aL,aE,aJ,xY,c7]
 exact ⟨trivial,Ri _⟩
theorem OQ (h:Int)(p:Int×Int->Bool)(n:Nat):(eE h (n+1)).filter p=(eE h n).filter p++(eY h (1+(n:Int))).filter p:=by
 rw [xZ,V6]
theorem OR (h x:Int)(s:Str):((c8 1 (4 * h - 1).toNat).filter fun d=>cA (bD x (f6 d)) s).map (fun d=>P x (f6 d))=((eY h x).filter fun p=>cA (bD p.1 p.2) s).map PP:=by
 unfold c8 eY
 rw [WI,WI,Rj,Rj]
 rfl
theorem OS (k:Nat)(w h:Int)(s:Str)(hw:1<=w/\w<=6)(hh:1<=h/\h<=6)(μ:Hm)(Q:D×Hm->Prop)(H:∀ a μ',μ <+: μ'->μ'[a]? = some (.lst ((bQ w h s).map PP))->μ.length<=a->Q (.loc a,μ')):W (f (k+2) "_law_amid" [.int w,.int h,.str s] μ) Q:=by
 rw [Ot,bS]
 simp only [aY,bV,lC,aL]
 refine ⟨RV _,?_⟩
 simp only [Qu,Qv,iB,rW,aM,aL,aO,aT,aE,aJ,fV]
 refine ⟨by omega,?_⟩
 refine oS (lo:=1) (fun i ρ μ'=>μ <+: μ'/\∃ a o,μ.length<=a/\μ'[a]? = some (.lst (((eE h i).filter fun p=>cA (bD p.1 p.2) s).map PP))/\ρ=[some (.int w),some (.int h),some (.str s),some (.loc a),o]) ⟨cO _ _,μ.length,none,Qq _,cY _ _,rfl⟩ ?_ ?_
 ·rintro i ρ μ1 hi ⟨hp,a,o,la,hg,rfl⟩
  refine ⟨_,rfl,?_⟩
  simp only [Qu,Qv,bV,aT,aE,aJ]
  refine jD (xs:=c8 1 (4 * h - 1).toNat) (p:=fun d=>cA (bD (1+(i:Int)) (f6 d)) s) (v:=fun d=>P (1+(i:Int)) (f6 d)) ?_
  simp only [rW,aM,aL,aO,aT,aE,aJ,fV]
  refine ⟨by omega,xQ,by simp [c8],by rw [Ro];simp [c8];omega,?_,?_,?_⟩
  ·intro d μ' hd hp
   obtain ⟨j,hj,rfl⟩:=sA hd
   simp only [Rh,Rw,c6,aT,aW,fL,aM,aL,aE,aJ,jV,true_and]
   refine xW _ _ _ _ _ fun μ2 p2=>?_
   refine (OH).mpr ?_
   exact ⟨rfl,p2⟩
  ·intro d μ' hd _ hp
   obtain ⟨j,hj,rfl⟩:=sA hd
   simp only [Rh,Rw,fL,aM,aL,aE,aJ,jV,true_and]
   exact ⟨rfl,Ri _⟩
  ·intro μ2 hp2 hg2
   rw [OR] at hg2
   have hlen:(((eE h i).filter fun p=>cA (bD p.1 p.2) s).map PP).length+(((eY h (1+(i:Int))).filter fun p=>cA (bD p.1 p.2) s).map PP).length<=Qs:=by
    have h1:=yB (h:=h) hh.2 (n:=i+1) (by omega)
    have h2:=Tc (fun p=>cA (bD p.1 p.2) s) (eE h i)
    have h3:=Tc (fun p=>cA (bD p.1 p.2) s) (eY h (1+(i:Int)))
    rw [sD] at h2
    rw [yA] at h3
    rw [Wo] at h1
    rw [Qm,Qm,Ro]
    omega
   refine (DH (bW hp2 hg) hg2 hlen).mpr ?_
   refine ⟨(hp.trans hp2).trans (cO _ _),_,_,Sb (rQ hp) (rQ hp2),?_,rfl⟩
   rw [cY,OQ,Sj]
 ·rintro ρ μ1 ⟨hp,a,o,la,hg,rfl⟩
  simp only [bH,aE,aJ]
  exact H _ _ hp hg la
noncomputable def oW (p:Int×Int):Bool:=if p.1 % 2=1 then p.2 % 2 == 1 else (p.2 % 2 == 0&&!(p.1 % 4 == p.2 % 4))
theorem D3 (w h:Int):bQ w h "lufr" = (fW w h).filter oW:=by
 unfold bQ oW;refine List.filter_congr fun p _=>?_;rw [kE]
noncomputable def bA (p:Int×Int):List Int:=[p.1,p.2]
theorem OT {α:Type}(l:List α)(d:α):(RA l.length).map (fun i=>l.getD i d)=l:=by
 refine List.ext_getElem (by simp) fun i h1 h2=>?_
 simp [RC,h2]
theorem lD (q:Int×Int):cL (PP q)=some (bA q):=rfl
theorem OU {l:List (List Int×D)}(nd:(l.map (·.1)).Nodup){k:List Int}{d:D}(h:(k,d)∈l):bI l k=some d:=by
 induction l with
 | nil=>cases h
 | cons p l ih=>
  rw [Qz,RD] at nd
  unfold bI
  rw [RI]
  rcases Q9.mp h with h|h
  ·rw [<- h]
   simp
  ·have:decide (p.1=k)=false:=decide_eq_false fun z=>nd.1 (Q4.mpr ⟨_,h,z.symm⟩)
   rw [this]
   exact ih nd.2 h
theorem nE {p q:Int×Int}(h:bA p=bA q):p=q:=by
 unfold bA at h
 injection h with h1 h2
 injection h2 with h2
 exact Prod.ext h1 h2
theorem iC {μ:Hm}{a:Nat}{c c':C}(h:μ[a]? = some c):(μ.set a c')[a]? = some c':=by
 rw [Rz (Qi.mp h).1]
theorem OV {μ:Hm}{a:Nat}{c:C}(h:μ[a]? = some c):μ.set a c=μ:=by
 obtain ⟨hl,rfl⟩:=Qi.mp h
 exact XI hl
noncomputable abbrev Zr:=List ((Int×Int)×List (Int×Int)×Nat)
noncomputable def fX (Z:Zr):List (List Int×D):=Z.map fun z=>(bA z.1,D.loc z.2.2)
structure GI (μ0 μ:Hm)(a:Nat)(Z:Zr):Prop where
 pre:μ0 <+: μ
 lo:μ0.length<=a
 dic:μ[a]? = some (.dT (fX Z))
 kd:(Z.map (·.1)).Nodup
 bd:(Z.map (·.2.2)).Nodup
 at_:∀ z∈Z,μ0.length<=z.2.2/\μ[z.2.2]? = some (.lst (z.2.1.map PP))
theorem OW {Z:Zr}{p:Int×Int}(h:p∉Z.map (·.1)):bI (fX Z) (bA p)=none:=by
 unfold bI
 rw [Yq.mpr]
 ·rfl
 ·intro x hx
  obtain ⟨z,hz,rfl⟩:=Q4.mp hx
  rw [decide_eq_true_iff]
  exact fun e=>h (Q4.mpr ⟨z,hz,nE e⟩)
theorem OX {Z:Zr}(kd:(Z.map (·.1)).Nodup){z y:(Int×Int)×List (Int×Int)×Nat}(hz:z∈Z)(hy:y∈Z)(e:z.1=y.1):z=y:=by
 induction Z with
 | nil=>cases hz
 | cons x Z ih=>
  rw [Qz,RD] at kd
  rcases Q9.mp hz with h1|h1<;>rcases Q9.mp hy with h2|h2
  ·rw [h1,h2]
  ·exact (kd.1 (Q4.mpr ⟨y,h2,by rw [<- h1];exact e.symm⟩)).elim
  ·exact (kd.1 (Q4.mpr ⟨z,h1,by rw [<- h2];exact e⟩)).elim
  ·exact ih kd.2 h1 h2
theorem OY {Z:Zr}(bd:(Z.map (·.2.2)).Nodup){z y:(Int×Int)×List (Int×Int)×Nat}(hz:z∈Z)(hy:y∈Z)(e:z.2.2=y.2.2):z=y:=by
 induction Z with
 | nil=>cases hz
 | cons x Z ih=>
  rw [Qz,RD] at bd
  rcases Q9.mp hz with h1|h1<;>rcases Q9.mp hy with h2|h2
  ·rw [h1,h2]
  ·exact (bd.1 (Q4.mpr ⟨y,h2,by rw [<- h1];exact e.symm⟩)).elim
  ·exact (bd.1 (Q4.mpr ⟨z,h1,by rw [<- h2];exact e⟩)).elim
  ·exact ih bd.2 h1 h2
theorem GI.more {μ0 μ μ':Hm}{a:Nat}{Z:Zr}(I:GI μ0 μ a Z)(h:μ <+: μ'):GI μ0 μ' a Z:=⟨I.pre.trans h,I.lo,bW h I.dic,I.kd,I.bd,fun z hz=>⟨(I.at_ z hz).1,bW h (I.at_ z hz).2⟩⟩
theorem GI.ne {μ0 μ:Hm}{a:Nat}{Z:Zr}(I:GI μ0 μ a Z){z:(Int×Int)×List (Int×Int)×Nat}(hz:z∈Z):z.2.2≠a:=fun e=>by
 have h1:=(I.at_ z hz).2
 rw [e,I.dic] at h1
 cases h1
theorem GI.hit {μ0 μ:Hm}{a:Nat}{Z:Zr}(I:GI μ0 μ a Z){z:(Int×Int)×List (Int×Int)×Nat}(hz:z∈Z)(q:Int×Int) :
  GI μ0 (μ.set z.2.2 (.lst (z.2.1.map PP++[PP q]))) a (Z.map fun y=>if y.1=z.1 then (y.1,y.2.1++[q],y.2.2) else y):=by
 have ek:(Z.map fun y=>if y.1=z.1 then (y.1,y.2.1++[q],y.2.2) else y).map (·.1)=Z.map (·.1):=by
  rw [Rj]
  refine R0 fun y _=>?_
  show (if y.1=z.1 then (y.1,y.2.1++[q],y.2.2) else y).1=y.1
  split<;>rfl
 have eb:(Z.map fun y=>if y.1=z.1 then (y.1,y.2.1++[q],y.2.2) else y).map (·.2.2)=Z.map (·.2.2):=by
  rw [Rj]
  refine R0 fun y _=>?_
  show (if y.1=z.1 then (y.1,y.2.1++[q],y.2.2) else y).2.2=y.2.2
  split<;>rfl
 have ev:fX (Z.map fun y=>if y.1=z.1 then (y.1,y.2.1++[q],y.2.2) else y)=fX Z:=by
  unfold fX
  rw [Rj]
  refine R0 fun y _=>?_
  show (bA (if y.1=z.1 then (y.1,y.2.1++[q],y.2.2) else y).1,D.loc (if y.1=z.1 then (y.1,y.2.1++[q],y.2.2) else y).2.2)=_
  split<;>rfl
 refine ⟨jB I.pre (I.at_ z hz).1 _,I.lo,?_,by rw [ek];exact I.kd,by rw [eb];exact I.bd,fun y hy=>?_⟩
 ·rw [ev,Q6 (I.ne hz)]
  exact I.dic
 ·obtain ⟨x,hx,rfl⟩:=Q4.mp hy
  obtain ⟨l1,l2⟩:=I.at_ x hx
  by_cases e:x.1=z.1
  ·have:x=z:=OX I.kd hx hz e
   subst this
   rw [if_pos rfl]
   refine ⟨l1,?_⟩
   show (μ.set x.2.2 _)[x.2.2]? = _
   rw [iC l2,Sj]
   rfl
  ·rw [if_neg e]
   refine ⟨l1,?_⟩
   rw [Q6 fun w=>e (by rw [OY I.bd hx hz w.symm])]
   exact l2
theorem OZ {Z:Zr}{p:Int×Int}{qs:List (Int×Int)}{b:Nat}(h:p∉Z.map (·.1)):dG (fX Z) (bA p) (.loc b)=fX (Z++[(p,qs,b)]):=by
 unfold dG
 rw [OW h,if_neg (by simp)]
 unfold fX
 rw [Sj]
 rfl
theorem GI.new {μ0 μ:Hm}{a b:Nat}{Z:Zr}(I:GI μ0 μ a Z){p:Int×Int}(hp:p∉Z.map (·.1)){qs:List (Int×Int)}(hb:μ[b]? = some (.lst (qs.map PP)))(h0:μ0.length<=b)(hn:∀ z∈Z,z.2.2≠b) :
  GI μ0 (μ.set a (.dT (dG (fX Z) (bA p) (.loc b)))) a (Z++[(p,qs,b)]):=by
 have hba:b≠a:=fun e=>by
  rw [e,I.dic] at hb
  cases hb
 refine ⟨jB I.pre I.lo _,I.lo,by rw [iC I.dic,OZ hp],?_,?_,fun z hz=>?_⟩
 ·rw [Sj,Uk]
  exact ⟨I.kd,by simp,fun x hx y hy e=>by
   simp only [Qz,U2,RF] at hy
   rw [e,hy] at hx
   exact hp hx⟩
 ·rw [Sj,Uk]
  exact ⟨I.bd,by simp,fun x hx y hy e=>by
   simp only [Qz,U2,RF] at hy
   obtain ⟨z,hz,ez⟩:=Q4.mp hx
   exact hn z hz (by rw [ez,e,hy])⟩
 ·rcases RE.mp hz with hz|hz
  ·rw [Q6 (Sn (I.ne hz))]
   exact I.at_ z hz
  ·rw [RF.mp hz]
   exact ⟨h0,by rw [Q6 (Sn hba)];exact hb⟩
theorem kW:∀ a b c:List Int,HT.lexLt a b=true->HT.lexLt b c=true->HT.lexLt a c=true
 | [],[],_,h,_=>by cases h
 | [],_::_,[],_,h=>by cases h
 | [],_::_,_::_,_,_=>rfl
 | _::_,[],_,h,_=>by cases h
 | _::_,_::_,[],_,h=>by cases h
 | x::xs,y::ys,z::zs,h1,h2=>by
  rw [HT.lexLt_cons] at h1 h2 ⊢
  by_cases e1:x=y
  ·subst e1
   rw [if_pos rfl] at h1
   by_cases e2:x=z
   ·rw [if_pos e2] at h2 ⊢
    exact kW xs ys zs h1 h2
   ·rw [if_neg e2] at h2 ⊢
    exact h2
  ·rw [if_neg e1] at h1
   have h1:=of_decide_eq_true h1
   by_cases e2:y=z
   ·subst e2
    rw [if_neg e1]
    exact decide_eq_true h1
   ·rw [if_neg e2] at h2
    have h2:=of_decide_eq_true h2
    rw [if_neg (by omega)]
    exact decide_eq_true (by omega)
theorem D4:∀ a b c:List Int,HT.lexLt a b=true->HT.lexLt a c=true\/HT.lexLt c b=true
 | [],[],_,h=>by cases h
 | [],_::_,[],_=>.inr rfl
 | [],_::_,_::_,_=>.inl rfl
 | _::_,[],_,h=>by cases h
 | _::_,_::_,[],_=>.inr rfl
 | x::xs,y::ys,z::zs,h=>by
  rw [HT.lexLt_cons] at h ⊢
  rw [HT.lexLt_cons]
  by_cases e1:x=y
  ·subst e1
   rw [if_pos rfl] at h
   by_cases e2:x=z
   ·subst e2
    rw [if_pos rfl,if_pos rfl]
    exact D4 xs ys zs h
   ·rw [if_neg e2,if_neg (Sn e2),decide_eq_true_iff,decide_eq_true_iff]
    omega
  ·rw [if_neg e1] at h
   have h:=of_decide_eq_true h
   by_cases e2:x=z
   ·subst e2
    rw [if_neg e1]
    exact .inr (decide_eq_true h)
   ·rw [if_neg e2,decide_eq_true_iff]
    by_cases e3:z=y
    ·subst e3
     exact .inl h
    ·rw [if_neg e3,decide_eq_true_iff]
     omega
theorem kU:∀ k:List Int,HT.lexLt k k=false
 | []=>rfl
 | a::k=>by rw [HT.lexLt_cons,if_pos rfl];exact kU k
theorem yD:∀ a b:List Int,HT.lexLt a b=false->HT.lexLt b a=false->a=b
 | [],[],_,_=>rfl
 | [],_::_,h,_=>by cases h
 | _::_,[],_,h=>by cases h
 | x::xs,y::ys,h1,h2=>by
  rw [HT.lexLt_cons] at h1 h2
  by_cases e:x=y
  ·subst e
   rw [if_pos rfl] at h1 h2
   rw [yD xs ys h1 h2]
  ·rw [if_neg e] at h1
   rw [if_neg (Sn e)] at h2
   have h1:=of_decide_eq_false h1
   have h2:=of_decide_eq_false h2
   omega
theorem yE {f:D->List D->Hm->Option (D×Hm)}{mo:ME}{ms:MA}{ρ:aK}{μ:Hm}{Q:D×Hm->Prop}(h:W (mo ρ μ) fun p=>mX p.2 p.1=true/\W (ms ρ p.2) fun q=>W (f p.1 q.1 q.2) Q):W (gY f mo ms ρ μ) Q:=by
 unfold gY
 rw [W_bind]
 refine bP h fun p q=>?_
 rw [q.1]
 exact W_bind.mpr q.2
theorem yF {μ:Hm}{a:Nat}{kvs:List (List Int×D)}(h:μ[a]? = some (.dT kvs)):mX μ (.loc a)=true:=by
 simp only [mX,h]
noncomputable def sE:List (List Int)->Bool
 | x::y::r=>HT.lexLt x y&&sE (y::r)
 | _=>true
theorem D5:∀ {l:List (List Int)},sE l=true->l.Pairwise fun x y=>HT.lexLt x y=true
 | [],_=>.nil
 | [x],_=>Xp _ _
 | x::y::r,h=>by
  unfold sE at h
  rw [Qy] at h
  have ih:=D5 h.2
  refine S7.mpr ⟨fun z hz=>?_,ih⟩
  rcases Q9.mp hz with rfl|hz
  ·exact h.1
  ·exact kW _ _ _ h.1 ((S7.mp ih).1 z hz)
theorem O0 {a b:List Int}(h:HT.lexLt a b=true):HT.lexLt b a=false:=by
 cases e:HT.lexLt b a with
 | false=>rfl
 | true=>
  have:=kW _ _ _ h e
  rw [kU] at this
  exact this.symm
noncomputable def Dc (μ:Hm)(a:Nat)(kvs:List (List Int×D)):Prop:=μ[a]? = some (.dT kvs)\/μ[a]? = some (.dF kvs)
theorem D6 {μ:Hm}{a:Nat}{kvs:List (List Int×D)}{y d:D}{k:List Int}{Q:D×Hm->Prop}(h:Dc μ a kvs)(hk:cL y=some k)(hv:bI kvs k=some d):W (aG (.loc a) y μ) Q↔Q (d,μ):=by
 have:aG (.loc a) y μ=some (d,μ):=by
  rcases h with h|h<;>simp only [aG,h,hk,Rm,hv,Rk]
 rw [this]
 exact W_some
theorem O1 {i:Nat}{m1 m2:MS}{ρ:aK}{μ:Hm}{a:Nat}{kvs:List (List Int×D)}{Q:Fl×aK×Hm->Prop}(h:ρ[i]? = some (some (.loc a)))(hc:μ[a]? = some (.dT kvs))
  (H:W (m1 ρ (μ.set a (.dF kvs))) fun r=>r.2.2[a]? = some (.dF kvs)/\Q (r.1,r.2.1,r.2.2.set a (.dT kvs))):W (jA i m1 m2 ρ μ) Q:=by
 have e:jL i ρ μ=some (a,kvs):=by simp only [jL,h,hc]
 unfold jA
 rw [e]
 rw [W_bind]
 refine bP H fun r q=>?_
 rw [q.1]
 exact W_some.mpr q.2
theorem O2 {i j:Nat}{body:MS}{m2:MS}{ρ:aK}{μ:Hm}{a:Nat}{kvs:List (List Int×D)}{Q:Fl×aK×Hm->Prop}(hi:ρ[i]? = some (some (.loc a)))(hc:μ[a]? = some (.dT kvs))(I:Nat->aK->Hm->Prop)
  (h0:I 0 ρ (μ.set a (.dF kvs)))(go:∀ n k d ρ' μ',kvs[n]? = some (k,d)->I n ρ' μ'->W (body (ρ'.set j (some (.tup (k.map D.int)))) μ') fun p=>p.1=.nx/\I (n+1) p.2.1 p.2.2)
  (stop:∀ ρ' μ',I kvs.length ρ' μ'->μ'[a]? = some (.dF kvs)/\Q (.nx,ρ',μ'.set a (.dT kvs))):W (jA i (c4 (eV (aA i)) (c3 j) body) m2 ρ μ) Q:=by
 refine O1 hi hc ?_
 have gF:(μ.set a (.dF kvs))[a]? = some (.dF kvs):=iC hc
 have hit:eV (aA i) ρ (μ.set a (.dF kvs))=some (dQ (.tup (eU kvs)),kvs.length+1,μ.set a (.dF kvs)):=by
  simp only [eV,aA,hi,Rm,gF]
 rw [iB,hit,W_some]
 refine nC (N:=kvs.length) I (fun n ρ' μ' hn hI=>?_) (fun ρ' μ' hI=>⟨?_,stop ρ' μ' hI⟩) kvs.length 0 ρ _ (by omega) h0
 ·have e:kvs[n]? = some (kvs[n].1,kvs[n].2):=Ql hn
  refine ⟨.tup (kvs[n].1.map D.int),_,?_,rfl,bP (go n _ _ ρ' μ' e hI) fun p q=>?_⟩
  ·show some ((eU kvs)[n]?)=_
   unfold eU
   rw [Ra,e]
   rfl
  ·rw [q.1]
   exact q.2
 ·show some ((eU kvs)[kvs.length]?)=_
  rw [RP (by unfold eU;simp)]
structure HI (μ:Hm)(a:Nat)(Z:Zr):Prop where
 dic:Dc μ a (fX Z)
 kd:(Z.map (·.1)).Nodup
 at_:∀ z∈Z,μ[z.2.2]? = some (.lst (z.2.1.map PP))
theorem Dc.more {μ μ':Hm}{a:Nat}{kvs:List (List Int×D)}(I:Dc μ a kvs)(h:μ <+: μ'):Dc μ' a kvs:=I.elim (fun e=>.inl (bW h e)) fun e=>.inr (bW h e)
theorem HI.more {μ μ':Hm}{a:Nat}{Z:Zr}(I:HI μ a Z)(h:μ <+: μ'):HI μ' a Z:=⟨I.dic.more h,I.kd,fun z hz=>bW h (I.at_ z hz)⟩
theorem HI.ne {μ:Hm}{a b:Nat}{kvs:List (List Int×D)}{Z:Zr}(I:HI μ a Z)(h:Dc μ b kvs){z:(Int×Int)×List (Int×Int)×Nat}(hz:z∈Z):z.2.2≠b:=fun e=>by
 have h1:=I.at_ z hz
 rw [e] at h1
 rcases h with h|h<;>(rw [h] at h1;cases h1)
theorem HI.frz {μ:Hm}{a b:Nat}{kvs:List (List Int×D)}{Z:Zr}(I:HI μ a Z)(h:μ[b]? = some (.dT kvs)):HI (μ.set b (.dF kvs)) a Z:=by
 refine ⟨?_,I.kd,fun z hz=>by rw [Q6 (Sn (I.ne (.inl h) hz))];exact I.at_ z hz⟩
 by_cases e:b=a
 ·subst e
  have:kvs=fX Z:=by
   rcases I.dic with w|w
   ·rw [h] at w;injection w with w;injection w
   ·rw [h] at w;cases w
  rw [<- this]
  exact .inr (iC h)
 ·unfold Dc
  rw [Q6 e]
  exact I.dic
theorem GI.hi {μ0 μ:Hm}{a:Nat}{Z:Zr}(I:GI μ0 μ a Z):HI μ a Z:=⟨.inl I.dic,I.kd,fun z hz=>(I.at_ z hz).2⟩
theorem D7 {μ μ1:Hm}{a:Nat}{kvs:List (List Int×D)}(hc:μ[a]? = some (.dT kvs))(h:μ.set a (.dF kvs) <+: μ1):μ <+: μ1.set a (.dT kvs):=by
 obtain ⟨t,rfl⟩:=h
 have hl:a<μ.length:=(Qi.mp hc).1
 rw [List.set_append_left _ _ (by rw [RX];exact hl),ZS,OV hc]
 exact List.prefix_append _ _
theorem GI.frz {μ0 μ:Hm}{a b:Nat}{kvs kvs':List (List Int×D)}{Z:Zr}(I:GI μ0 μ a Z)(h:Dc μ b kvs)(hb:b≠a)(c:C)(h0:μ0.length<=b):GI μ0 (μ.set b c) a Z:=
 ⟨jB I.pre h0 c,I.lo,by rw [Q6 hb];exact I.dic,I.kd,I.bd,fun z hz=>⟨(I.at_ z hz).1,by rw [Q6 (Sn (I.hi.ne h hz))];exact (I.at_ z hz).2⟩⟩
theorem O3 {i:Nat}{ρ:aK}{μ:Hm}{d:D}{Q:D×Hm->Prop}(h:ρ[i]? = some (some d)):W (aA i ρ μ) Q↔Q (d,μ):=by
 have:aA i ρ μ=some (d,μ):=by simp only [aA,h]
 rw [this]
 exact W_some
theorem O4 {α:Type}{l:List α}{n:Nat}{x:α}(h:l[n]? = some x):l.take (n+1)=l.take n++[x]:=by
 rw [YO,h]
 rfl
theorem O5 {α:Type}{l:List α}(nd:l.Nodup){n:Nat}{x:α}(h:l[n]? = some x):x∉l.take n:=fun hx=>by
 obtain ⟨j,hj⟩:=TH.mp hx
 have hjn:j<n:=by
  have:=(Qi.mp hj).1
  rw [Q8] at this
  omega
 rw [RJ hjn] at hj
 have hn:n<l.length:=(Qi.mp h).1
 have e1:=(Qi.mp hj).2
 have e2:=(Qi.mp h).2
 exact absurd ((Y1 nd).mp (e1.trans e2.symm)) (by omega)
noncomputable abbrev aZ (v:Int×Int->D)(ps:List (Int×Int)):List (List Int×D):=ps.map fun p=>(bA p,v p)
theorem sF {v:Int×Int->D}{ps:List (Int×Int)}(nd:ps.Nodup){p:Int×Int}(h:p∈ps):bI (aZ v ps) (bA p)=some (v p):=by
 refine OU ?_ (Q4.mpr ⟨p,h,rfl⟩)
 rw [Rj]
 exact Z3 _ (fun a b hab x=>hab (nE x)) nd
theorem sG {v:Int×Int->D}{ps:List (Int×Int)}{p:Int×Int}(h:p∉ps):bI (aZ v ps) (bA p)=none:=by
 unfold bI
 rw [Yq.mpr]
 ·rfl
 ·intro x hx
  obtain ⟨z,hz,rfl⟩:=Q4.mp hx
  rw [decide_eq_true_iff]
  exact fun e=>h (nE e ▸ hz)
theorem D8 {v:Int×Int->D}{ps:List (Int×Int)}{p:Int×Int}(h:p∉ps):dG (aZ v ps) (bA p) (v p)=aZ v (ps++[p]):=by
 unfold dG
 rw [sG h,if_neg (by simp)]
 show _=List.map _ _
 rw [Sj]
 rfl
noncomputable def srt (ps:List (Int×Int)):List (Int×Int):=(bT (fun i j=>HT.lexLt ((ps.map bA).getD i []) ((ps.map bA).getD j [])) ps.length).map fun i=>ps.getD i (0,0)
theorem fY (ps:List (Int×Int)):(srt ps).Perm ps:=by
 have p:=(fJ (fun i j=>HT.lexLt ((ps.map bA).getD i []) ((ps.map bA).getD j [])) ps.length).map fun i=>ps.getD i (0,0)
 rw [OT] at p
 exact p
theorem D9 (v:Int×Int->D)(ps:List (Int×Int)):q9 (aZ v ps)=aZ v (srt ps):=by
 unfold q9 srt aZ
 have ek:(ps.map fun p=>(bA p,v p)).map (·.1)=ps.map bA:=by rw [Rj];rfl
 rw [ek,Qm,Rj]
 refine R0 fun i hi=>?_
 have hi:i<ps.length:=Su.mp ((fJ _ _).mem_iff.mp hi)
 simp [RC,hi]
theorem yG (ps:List (Int×Int)):((srt ps).map bA).Pairwise fun x y=>HT.lexLt y x=false:=by
 by_cases h:ps=[]
 ·subst h
  have:srt []=[]:=by
   have:=(fY []).length_eq
   exact Sz.mp this
  rw [this]
  exact .nil
 have h0:0<ps.length:=Yc.mpr h
 have S:=B1 (lt:=HT.lexLt) kU kW D4 [] (ps.map bA) (n:=ps.length) h0
 unfold srt
 rw [Rj,RR]
 have hm:∀ i∈bT (fun i j=>HT.lexLt ((ps.map bA).getD i []) ((ps.map bA).getD j [])) ps.length,bA (ps.getD i (0,0))=(ps.map bA).getD i []:=fun i hi=>by
  have hi:i<ps.length:=Su.mp ((fJ _ _).mem_iff.mp hi)
  simp [RC,hi]
 exact S.imp_of_mem fun {i j} hi hj h=>by
  show HT.lexLt (bA (ps.getD j (0,0))) (bA (ps.getD i (0,0)))=false
  rw [hm i hi,hm j hj]
  exact h
theorem srt_eq {ps qs:List (Int×Int)}:srt ps=srt qs↔ps.Perm qs:=by
 constructor
 ·intro h
  exact (fY ps).symm.trans (h ▸ fY qs)
 ·intro h
  have e:(srt ps).map bA=(srt qs).map bA:=TZ (le:=fun x y=>HT.lexLt y x=false) (fun a b _ _ h1 h2=>(yD b a h1 h2).symm) (yG ps) (yG qs) ((((fY ps).trans h).trans (fY qs).symm).map _)
  have inj:∀ {a b:List (Int×Int)},a.map bA=b.map bA->a=b:=fun {a}=>by
   induction a with
   | nil=>intro b h;cases b with
    | nil=>rfl
    | cons=>cases h
   | cons x a ih=>intro b h;cases b with
    | nil=>cases h
    | cons y b=>
     rw [Qz,Qz] at h
     injection h with h1 h2
     rw [nE h1,ih h2]
  exact inj e
noncomputable def bB (m:Int×Int->Str)(p:Int×Int):D:=.str (m p)
noncomputable def iD (s:Str):Prop:=s = "o"\/s = "v"\/s = "h"
noncomputable abbrev MD (p:(Int×Int)×Str):D:=.tup [PP p.1,.str p.2]
noncomputable abbrev SH (w h:Int)(ms:List ((Int×Int)×Str)):D:=.tup [.int w,.int h,.tup (ms.map MD)]
noncomputable def b8 (m:Int×Int->Str)(ps:List (Int×Int)):List ((Int×Int)×Str):=ps.map fun p=>(p,m p)
theorem Ea {l:List ((Int×Int)×Str)}{i:Nat}{d:D}(h:(l.map MD)[i]? = some d):∃ p,l[i]? = some p/\d=MD p:=by
 rw [Ra] at h
 obtain ⟨p,h1,h2⟩:=Qk.mp h
 exact ⟨p,h1,h2.symm⟩
theorem O6 (m:Int×Int->Str)(ps:List (Int×Int))(p:Int×Int)(c:Str):dG (aZ (bB m) ps) (bA p) (.str c)=aZ (bB fun q=>if q=p then c else m q) (if p∈ps then ps else ps++[p]):=by
 unfold dG
 by_cases h:p∈ps
 ·have e:(bI (aZ (bB m) ps) (bA p)).isSome=true:=by
   unfold bI
   rw [Ud,List.find?_isSome]
   exact ⟨_,Q4.mpr ⟨p,h,rfl⟩,by simp⟩
  rw [if_pos e,if_pos h]
  unfold aZ
  rw [Rj]
  refine R0 fun q _=>?_
  show (if bA q=bA p then (bA q,D.str c) else (bA q,bB m q))=(bA q,bB _ q)
  unfold bB
  dsimp only
  by_cases e:q=p
  ·rw [if_pos (by rw [e]),if_pos e]
  ·rw [if_neg (fun z=>e (nE z)),if_neg e]
 ·rw [sG h,if_neg (by simp),if_neg h]
  unfold aZ
  rw [Sj]
  congr 1
  ·refine R0 fun q hq=>?_
   unfold bB
   dsimp only
   rw [if_neg (fun z:q=p=>h (z ▸ hq))]
  ·show [_]=[(bA p,bB _ p)]
   unfold bB
   dsimp only
   rw [if_pos rfl]
theorem Eb {α:Type} [DecidableEq α]:∀ {l t:List α},l.Nodup->(∀ x∈l,x∈t)->l.length<=t.length
 | [],_,_,_=>RV _
 | x::l,t,nd,h=>by
  rw [RD] at nd
  have hx:=h x (QN ..)
  have:=Eb (l:=l) (t:=t.erase x) nd.2 fun y hy=>(List.mem_erase_of_ne (fun e:y=x=>nd.1 (e ▸ hy))).mpr (h y (QH _ hy))
  rw [List.length_erase_of_mem hx] at this
  have:0<t.length:=List.length_pos_of_mem hx
  rw [QU]
  omega
structure Mk (w h:Int)(ps:List (Int×Int))(m:Int×Int->Str):Prop where
 nd:ps.Nodup
 ed:∀ p∈ps,p∈bQ w h "lufr"
 ok:∀ p,iD (m p)
theorem Mk.len {w h:Int}{ps:List (Int×Int)}{m:Int×Int->Str}(M:Mk w h ps m)(hw:w<=6)(hh:h<=6):ps.length<=529:=
 Sb (Eb M.nd M.ed) (Sb (Tc _ _) (yC hw hh))
theorem Mk.put {w h:Int}{ps:List (Int×Int)}{m:Int×Int->Str}(M:Mk w h ps m){p:Int×Int}(hp:p∈bQ w h "lufr") {c:Str}(hc:iD c):Mk w h (if p∈ps then ps else ps++[p]) fun q=>if q=p then c else m q:=by
 refine ⟨?_,fun q hq=>?_,fun q=>?_⟩
 ·split
  ·exact M.nd
  ·rename_i h
   refine Uk.mpr ⟨M.nd,by simp,fun a ha b hb e=>?_⟩
   rw [RF] at hb
   exact h (by rw [<- hb,<- e];exact ha)
 ·split at hq
  ·exact M.ed q hq
  ·rcases RE.mp hq with hq|hq
   ·exact M.ed q hq
   ·rw [RF.mp hq]
    exact hp
 ·split
  ·exact hc
  ·exact M.ok q
theorem Mk.perm {w h:Int}{ps qs:List (Int×Int)}{m:Int×Int->Str}(M:Mk w h ps m)(hp:qs.Perm ps):Mk w h qs m:=⟨hp.nodup_iff.mpr M.nd,fun p h=>M.ed p (hp.mem_iff.mp h),M.ok⟩
theorem yH (m:Int×Int->Str)(ps:List (Int×Int)):(b8 m ps).map MD=ps.map fun p=>D.tup [PP p,bB m p]:=by
 unfold b8
 rw [Rj]
 rfl
theorem O7 {n i:Nat}(h:i<n):iI n (i:Int)=some i:=by
 unfold iI
 rw [if_pos (by omega),if_pos (by omega)]
 rfl
theorem oX {α:Type}{xs:List α}{i:Int}{x:α}(h0:0<=i)(h:xs[i.toNat]? = some x):atI xs i=some x:=by
 have hi:i.toNat<xs.length:=(Qi.mp h).1
 unfold atI
 have e:i=((i.toNat:Nat):Int):=by omega
 rw [e,O7 hi]
 exact h
noncomputable def jX (c:Int):Int:=if c % 4=0 then 1 else if c % 4=1 then 2 else if c % 4=2 then 3 else 1+c / 4 % 6
theorem Ec (c:Int):1<=jX c/\jX c<=6:=by
 unfold jX
 repeat' split
 all_goals omega
theorem Ed (k:Nat)(c:Int)(μ:Hm)(Q:D×Hm->Prop)(H:∀ μ',μ <+: μ'->Q (.int (jX c),μ')):W (f (k+1) "_law_size" [.int c] μ) Q:=by
 rw [Ou,bS]
 simp only [bH,aT,lC,aM,aL,aO,aE,xV,OC,oU,fU]
 refine ⟨by show (4:Nat)<=Qs;decide,?_⟩
 have e:atI [D.int 1,D.int 2,D.int 3,D.int (1+c / 4 % 6)] (c % 4)=some (.int (jX c)):=by
  unfold jX
  have:=oV c
  rcases this with h|h|h|h<;>rw [h]<;>rfl
 refine (jT (cY _ _) e).mpr ?_
 exact H _ (cO _ _)
theorem O8 (a b c d:D):lX [] [(.inr "l",a),(.inr "u",b),(.inr "f",c),(.inr "r",d)]=[(.inr "l",a),(.inr "u",b),(.inr "f",c),(.inr "r",d)]:=by kernel_rfl
noncomputable abbrev yI (x y:Int):List (aF×D):=[(.inr "l",D.int y),(.inr "u",D.int x),(.inr "f",D.int (x - y)),(.inr "r",D.int (x+y))]
noncomputable def fZ (x y:Int):Int:=match d9 (yI x y) (.inr (bD x y)) with|some (.int i)=>i|_=>0
theorem O9 {x y:Int}:cA (bD x y) "lufr" = true->bD x y = "l"\/bD x y = "u"\/bD x y = "f"\/bD x y = "r":=by
 unfold bD
 refine D1 (M:=fun i j=>cA (jW i j) "lufr" = true->jW i j = "l"\/jW i j = "u"\/jW i j = "f"\/jW i j = "r") (fun i j hi hj=>?_) x y
 rcases hi with rfl|rfl|rfl|rfl<;>rcases hj with rfl|rfl|rfl|rfl<;>decide +kernel
theorem Pa {x y:Int}(h:cA (bD x y) "lufr" = true):d9 (yI x y) (.inr (bD x y))=some (.int (fZ x y)):=by
 unfold fZ
 rcases O9 h with h|h|h|h<;>rw [h]<;>kernel_rfl
theorem Ee (k:Nat)(p:Int×Int)(hp:cA (bD p.1 p.2) "lufr" = true) (μ:Hm)(Q:D×Hm->Prop)(H:∀ μ',μ <+: μ'->Q (.tup [.str (bD p.1 p.2),.int (fZ p.1 p.2)],μ')):W (f (k+2) "_law_line" [PP p] μ) Q:=by
 rw [Ov,bS,aY]
 simp only [bV,aW,aM,aL,aE,PP]
 refine xW k p.1 p.2 _ _ fun μ1 p1=>?_
 simp only [Qu,Qv,bH,fL,aM,aL,aT,aE,aJ]
 refine DL ?_
 simp only [DJ,DI,aO,aE,aJ,aT,eD,dW,NP,fU,DK]
 refine ⟨cY _ _,by show (4:Nat)<=15;decide,?_⟩
 rw [O8]
 refine (DM (kvs:=yI p.1 p.2) (by simp) rfl (Pa hp)).mpr ⟨jV,?_⟩
 exact H _ (p1.trans (jB (cO _ _) (Qq _) _))
theorem Pb {a b:Str}{i j:Int}{μ:Hm}{Q:D×Hm->Prop}:W (a9 false (.tup [.str a,.int i]) (.tup [.str b,.int j]) μ) Q↔Q (.bl ((a == b)&&((i == j)&&true)),μ):=W_some
theorem Pc {w h:Int}{p:Int×Int}(hp:p∈fW w h):(0<p.1/\p.1<4 * w)/\0<p.2/\p.2<4 * h:=by
 unfold fW eE eY at hp
 obtain ⟨i,hi,hp⟩:=List.mem_flatMap.mp hp
 obtain ⟨j,hj,rfl⟩:=Q4.mp hp
 have hi:=Su.mp hi
 have hj:=Su.mp hj
 dsimp only
 omega
theorem oY {w h:Int}{s:Str}{p:Int×Int}(hp:p∈bQ w h s):((0<p.1/\p.1<4 * w)/\0<p.2/\p.2<4 * h)/\cA (bD p.1 p.2) s=true:=
 ⟨Pc (TC.mp hp).1,(TC.mp hp).2⟩
theorem Ef (k:Nat)(i:Int)(μ:Hm)(Q:D×Hm->Prop):W (f (k+1) "is_whole" [.int i] μ) Q↔Q (.bl true,μ):=by
 rw [N4,bS]
 simp only [bH,fM,DC,aW,aM,aL,aE,aO,DP,DQ]
 simp
theorem sH (k:Nat){i:Int}(h:1<=i/\i<=6)(μ:Hm)(Q:D×Hm->Prop)(H:Q (.bl true,μ)):W (f (k+2) "is_size" [.int i] μ) Q:=by
 rw [N8,bS]
 simp only [bH,fM,aW,aM,aL,aE,Ef,if_true,xS,aO,NS,decide_eq_true h.1,decide_eq_true h.2]
 exact H
theorem Pd (k:Nat){w h:Int}(hw:1<=w/\w<=6)(hh:1<=h/\h<=6)(μ:Hm)(Q:D×Hm->Prop)(H:Q (.non,μ)):W (f (k+3) "check_size" [.int w,.int h] μ) Q:=by
 rw [N9,bS]
 simp only [cD,eX,oR,dU,aW,aM,aL,aE,aJ]
 refine sH k hw _ _ ?_
 simp only [c7,if_true]
 refine sH k hh _ _ ?_
 simp only [c7,RS,Qp,if_false,cC]
 exact H
theorem Pe (k:Nat){s:Str}(h:iD s)(μ:Hm)(Q:D×Hm->Prop)(H:Q (.bl true,μ)):W (f (k+1) "is_mark" [.str s] μ) Q:=by
 rw [DW,bS]
 simp only [bH,fM,aW,aM,aL,aE,aO,oT,if_true,aT]
 have e:cM false (.str s) r8 μ=some (.bl true,μ):=by
  rcases h with rfl|rfl|rfl<;>rfl
 rw [e,W_some]
 exact H
theorem Pf (k:Nat){w h:Int}{e:Int×Int}(he:e∈bQ w h "lufr") (μ:Hm)(Q:D×Hm->Prop)(H:Q (.bl true,μ)):W (f (k+3) "is_inner_edge" [.int w,.int h,PP e] μ) Q:=by
 obtain ⟨⟨h1,h2⟩,h3⟩:=oY he
 rw [Oc,bS]
 simp only [bH,fM,aW,aM,aL,aE,aJ]
 rw [N5,bS]
 simp only [bH,fM,aW,aM,aL,aE,aJ,aO,aT,rY,if_true]
 rw [show cW [PP e] μ=some (.int 2,μ) from rfl,W_some]
 simp only [nA,beq_self_eq_true,if_true,PP,P,eD,dW,Ef]
 rw [DX,bS]
 simp only [bH,fM,xS,aE,aJ,aO,aT,eD,dW,fV,rV,decide_eq_true h1.1,decide_eq_true h1.2,decide_eq_true h2.1,decide_eq_true h2.2,if_true]
 refine (xY (k+1) e.1 e.2 _ _).mpr ?_
 rw [h3]
 exact H
theorem Pg (k:Nat){w h:Int}(hw:1<=w/\w<=6)(hh:1<=h/\h<=6){ps:List (Int×Int)}{m:Int×Int->Str}(M:Mk w h ps m)
  {μ:Hm}{a:Nat}(ha:μ[a]? = some (.lst ((b8 m ps).map MD)))(Q:D×Hm->Prop)(H:∀ μ',μ <+: μ'->Q (SH w h (b8 m (srt ps)),μ')):W (f (k+4) "sheet_of" [.int w,.int h,.loc a] μ) Q:=by
 have lp:=M.len hw.2 hh.2
 rw [Od,bS,aY]
 simp only [xO,aW,aM,aL,aE,aJ]
 refine Pd k hw hh _ _ ?_
 rw [aY]
 simp only [bV,xU,Qu,Qv]
 rw [aY]
 simp only [iB,jU,aE,aJ]
 refine (nD (bW (cO _ _) ha)).mpr ?_
 refine DD (fun i ρ' μ'=>∃ x y,ρ'=[some (.int w),some (.int h),some (.loc a),some (.loc μ.length),x,y]/\μ <+: μ'/\μ'[μ.length]? = some (.dT (aZ (bB m) (ps.take i))))
  ⟨none,none,rfl,cO _ _,by rw [U4];exact cY _ _⟩ (fun _ _ _ ⟨_,_,_,p,_⟩=>bW p ha) ?_ ?_
 ·rintro i d ρ' μ' hd ⟨x,y,rfl,p1,g1⟩
  obtain ⟨c,hc,rfl⟩:=Ea hd
  unfold b8 at hc
  rw [Ra] at hc
  obtain ⟨p,hp,rfl⟩:=Qk.mp hc
  refine ⟨_,rfl,?_⟩
  have hpS:p∈ps:=Q2 hp
  simp only [Qu,Qv]
  rw [aY]
  simp only [bV,aT,aE,aJ,aO,MD,eD,Qu,Qv]
  rw [aY]
  simp only [cD,eX,dU,aW,aM,aL,aE,aJ]
  refine Pf k (M.ed p hpS) _ _ ?_
  simp only [c7,RS,Qp,if_false,cC]
  rw [aY]
  simp only [cD,eX,dU,aW,aM,aL,aT,aE,aJ,aO,dW]
  refine Pe (k+2) (M.ok p) _ _ ?_
  simp only [c7,RS,Qp,if_false,cC]
  rw [aY]
  have hnk:p∉ps.take i:=O5 M.nd hp
  simp only [cD,c6,aT,aE,aJ]
  refine (N2 g1 (lD p)).mpr ?_
  rw [sG hnk]
  simp only [XY,Qp,if_false,cC,xT,aT,aE,aJ,aO,dW]
  have ll:(aZ (bB m) (ps.take i)).length<Qs:=by
   rw [Qm,Q8,Ro]
   omega
  refine (DU g1 (lD p) ll).mpr ⟨_,_,rfl,jB p1 (Qq _) _,?_⟩
  rw [iC g1,show D.str (m p)=bB m p from rfl,D8 hnk,O4 hp]
 ·rintro ρ' μ' ⟨x,y,rfl,p1,g1⟩
  rw [Qm,b8,Qm,List.take_length] at g1
  simp only [bH,fL,aM,aL,aE,aJ]
  have e:mY (.loc μ.length) μ'=some (.tup ((b8 m (srt ps)).map MD),μ'):=by
   simp only [mY,g1]
   rw [if_pos trivial,D9,yH]
   unfold aZ
   rw [Rj]
   rfl
  unfold jM
  simp only [W_bind,aE,aJ]
  rw [e,W_some]
  exact ⟨by show (3:Nat)<=Qs;decide,H _ p1⟩
theorem Eg {z:Int}{μ:Hm}{Q:D×Hm->Prop}:W (bK (.int z) (.int 3) μ) Q↔Q (.int (z % 3),μ):=jC (by decide)
theorem Eh {i:Int}(h:0<=i/\i<3):∃ s,iD s/\∀ μ,aG (.str "hvo") (.int i) μ=some (.str s,μ):=by
 have:i=0\/i=1\/i=2:=by omega
 rcases this with rfl|rfl|rfl
 ·exact ⟨"h",.inr (.inr rfl),fun μ=>rfl⟩
 ·exact ⟨"v",.inr (.inl rfl),fun μ=>rfl⟩
 ·exact ⟨"o",.inl rfl,fun μ=>rfl⟩
theorem Ph:∀ w∈[(1:Int),2,3,4,5,6],∀ h∈[(1:Int),2,3,4,5,6],((fW w h).filter oW).isEmpty=false:=by decide +kernel
theorem sI {w:Int}(h:1<=w/\w<=6):w∈[(1:Int),2,3,4,5,6]:=by
 have:w=1\/w=2\/w=3\/w=4\/w=5\/w=6:=by omega
 rcases this with rfl|rfl|rfl|rfl|rfl|rfl<;>decide
theorem Pj {w h:Int}(hw:1<=w/\w<=6)(hh:1<=h/\h<=6):0<(bQ w h "lufr").length:=by
 have:=Ph w (sI hw) h (sI hh)
 rw [D3]
 cases e:(fW w h).filter oW with
 | nil=>rw [e] at this;cases this
 | cons _ _=>exact Nat.zero_lt_succ _
theorem yJ {w h:Int}(hw:w<=6)(hh:h<=6)(s:Str):(bQ w h s).length<=529:=Sb (Tc _ _) (yC hw hh)
theorem Ei {w h:Int}(hw:w<=6)(hh:h<=6){ps:List (Int×Int)}{m:Int×Int->Str}(M:Mk w h ps m){μ:Hm}{a:Nat}(ha:μ[a]? = some (.dT (aZ (bB m) ps))){p:Int×Int}(hp:p∈bQ w h "lufr") {s:Str}(hs:iD s)(Q:Hm->Prop)
  (H:∀ ps' m',Mk w h ps' m'->Q (μ.set a (.dT (aZ (bB m') ps')))):W (mQ (.loc a) (PP p) (.str s) μ) Q:=by
 have lp:=M.len hw hh
 refine (DU ha (lD p) (by rw [Qm,Ro];omega)).mpr ?_
 rw [O6]
 exact H _ _ (M.put hp hs)
noncomputable abbrev Pk (k:Nat):MS:=bO (aU (aB cK (aB bK (aA 6) (mC (.int 9))) (mC (.int 7)))) (i8 (aA 4) (aA 7) (aB aG (mC (.str "hvo")) (aB bK (aB dX (aA 6) (mC (.int 2003))) (mC (.int 3))))) (aS (bF 8 (cU (dD (aA 3)) (aU (aB (a9 false) (aI (f k "_law_line") (aC (aA 10) aD)) (aI (f k "_law_line") (aC (aA 7) aD)))) (aA 10))) (c4 (fR (aC (aI cW (aC (aA 8) aD)) aD)) (c3 9) (i8 (aA 4) (aB aG (aA 8) (aA 9)) (aB aG (mC (.str "hvo")) (aB bK (aB cQ (aB dX (aA 6) (mC (.int 2003))) (aB b7 (aA 9) (aB bK (aA 6) (mC (.int 2))))) (mC (.int 3)))))))
theorem Pl (k:Nat){w h:Int}(hw:1<=w/\w<=6)(hh:1<=h/\h<=6){x0 x1 x2 x5 x8 x9:Option D}{ps:List (Int×Int)}{m:Int×Int->Str}(M:Mk w h ps m){μ:Hm}{a b:Nat}(hb:μ[b]? = some (.lst ((bQ w h "lufr").map PP))) (ha:μ[a]? = some (.dT (aZ (bB m) ps)))(n:Int)(hn:0<=n/\n<2147483647){e:Int×Int}(he:e∈bQ w h "lufr") (Q:Fl×aK×Hm->Prop)
  (H:∀ ps' m' y8 y9 μ',Mk w h ps' m'->(∀ l,l<=a->μ.take l <+: μ')->μ.length<=μ'.length->(∀ c,c<μ.length->c≠a->μ'[c]? = μ[c]?)->μ'[a]? = some (.dT (aZ (bB m') ps'))->Q (.nx,[x0,x1,x2,some (.loc b),some (.loc a),x5,some (.int n),some (PP e),y8,y9],μ')) :
  W (Pk (k+2) [x0,x1,x2,some (.loc b),some (.loc a),x5,some (.int n),some (PP e),x8,x9] μ) Q:=by
 have hal:a<μ.length:=(Qi.mp ha).1
 simp only [cD,c6,aT,aE,aJ,aO,OF,rV]
 cases decide (n % 9<7) with
 | true=>
  simp only [if_true,xT,aT,aE,aJ,aO]
  rw [rR (by decide) (by decide),Eg]
  obtain ⟨s,ok,es⟩:=Eh (i:=n / 2003 % 3) (by omega)
  rw [es,W_some]
  refine Ei hw.2 hh.2 M ha he ok _ fun ps' m' M'=>H ps' m' _ _ _ M' (fun l hl=>?_) (by simp) (fun c _ hc=>by rw [Q6 (Sn hc)]) (iC ha)
  rw [<- X7 (a:=C.dT (aZ (bB m') ps')) hl]
  exact YY _ _
 | false=>
  simp only [Qp,if_false]
  rw [aY,bV]
  have hE:=(oY he).2
  refine jD (xs:=(bQ w h "lufr").map PP) (p:=fun d=>(bD (b6 d).1 (b6 d).2 == bD e.1 e.2)&&((fZ (b6 d).1 (b6 d).2 == fZ e.1 e.2)&&true)) (v:=fun d=>d) ?_
  simp only [jU,aE,aJ]
  refine (nD hb).mpr ⟨rX hb,rfl,?_,fun d μ' hd hp=>?_,fun d μ' hd _ hp=>?_,fun μ' hp hg=>?_⟩
  ·have:=yJ (w:=w) (h:=h) hw.2 hh.2 "lufr"
   rw [Qm,Ro];omega
  ·obtain ⟨q,hq,rfl⟩:=Q4.mp hd
   simp only [Rh,Rw,c6,aT,aW,aM,aL,aE,aJ]
   refine Ee k q (oY hq).2 _ _ fun μ2 p2=>?_
   refine Ee k e hE _ _ fun μ3 p3=>?_
   rw [Pb]
   exact ⟨rfl,p2.trans p3⟩
  ·simp only [Rh,Rw,aE,aJ]
   exact ⟨trivial,Ri _⟩
  ·simp only [Qu,Qv]
   have hrow:∀ d∈(((bQ w h "lufr").map PP).filter fun d=>(bD (b6 d).1 (b6 d).2 == bD e.1 e.2)&&((fZ (b6 d).1 (b6 d).2 == fZ e.1 e.2)&&true)).map (fun d=>d),∃ q∈bQ w h "lufr",d=PP q:=fun d hd=>by
    rw [Xu] at hd
    obtain ⟨q,hq,rfl⟩:=Q4.mp (TC.mp hd).1
    exact ⟨q,hq,rfl⟩
   have hlen:((((bQ w h "lufr").map PP).filter fun d=>(bD (b6 d).1 (b6 d).2 == bD e.1 e.2)&&((fZ (b6 d).1 (b6 d).2 == fZ e.1 e.2)&&true)).map (fun d=>d)).length<=529:=by
    rw [Qm]
    refine Sb (Tc _ _) ?_
    rw [Qm]
    exact yJ hw.2 hh.2 _
   generalize (((bQ w h "lufr").map PP).filter fun d=>(bD (b6 d).1 (b6 d).2 == bD e.1 e.2)&&((fZ (b6 d).1 (b6 d).2 == fZ e.1 e.2)&&true)).map (fun d=>d)=row at hg hrow hlen
   have hl':=(Qi.mp hg).1
   simp only [iB,nB (j:=0),aM,aL,aW,aE,aJ]
   refine (rZ hg).mpr ⟨by omega,?_⟩
   rw [TR]
   refine oS (lo:=0) (fun i ρ' μ1=>∃ y9 ps' m',ρ'=[x0,x1,x2,some (.loc b),some (.loc a),x5,some (.int n),some (PP e),some (.loc μ.length),y9]/\Mk w h ps' m'/\(∀ l,l<=a->μ.take l <+: μ1)/\μ.length<μ1.length/\(∀ c,c<μ1.length->c≠a->μ1[c]? = μ'[c]?)/\μ1[a]? = some (.dT (aZ (bB m') ps')))
    ⟨x9,ps,m,rfl,M,fun l _=>(YY _ _).trans hp,hl',fun _ _ _=>rfl,bW hp ha⟩ ?_ ?_
   ·rintro i ρ' μ1 hi ⟨y9,ps',m',rfl,M1,t1,l1,c1,g1⟩
    refine ⟨_,rfl,?_⟩
    simp only [Qu,Qv,xT,aT,aE,aJ,aO,r9]
    rw [rR (by decide) (by decide)]
    rw [m9 (.inr (by omega)),fU,Eg]
    obtain ⟨s,ok,es⟩:=Eh (i:=(n / 2003+(0+(i:Int)) * (n % 2)) % 3) ⟨VF _ (by decide),U7 _ (by decide)⟩
    rw [es,W_some]
    have hri:row[i]? = some row[i]:=Ql hi
    obtain ⟨q,hq,eq⟩:=hrow _ (S5 hi)
    rw [eq] at hri
    have gr:μ1[μ.length]? = some (.lst row):=by rw [c1 _ l1 (by omega)];exact hg
    refine (jT gr (oX (by omega) (by rw [show (0+(i:Int)).toNat=i by omega];exact hri))).mpr ?_
    refine Ei hw.2 hh.2 M1 g1 hq ok _ fun ps2 m2 M2=>?_
    refine ⟨_,ps2,m2,rfl,M2,fun l hl=>?_,by simpa using l1,fun c hc hca=>?_,iC g1⟩
    ·obtain ⟨t,ht⟩:=t1 l hl
     rw [<- ht]
     refine (List.prefix_iff_getElem?).mpr fun j hj=>?_
     have hjl:j<l:=by rw [Q8] at hj;omega
     rw [Q6 (by omega),QC hj,Ql hj]
    ·rw [RX] at hc
     rw [Q6 (Sn hca)]
     exact c1 c hc hca
   ·rintro ρ' μ1 ⟨y9,ps',m',rfl,M1,t1,l1,c1,g1⟩
    refine H ps' m' _ _ μ1 M1 t1 (by omega) (fun c hc hca=>?_) g1
    rw [c1 c (by omega) hca]
    obtain ⟨t,rfl⟩:=hp
    exact QC hc
theorem Pm (k:Nat){w h:Int}(hw:1<=w/\w<=6)(hh:1<=h/\h<=6){ns:List Int}(hl:ns.length<=63){μ:Hm}{c:Nat}(hc:μ[c]? = some (.lst (ns.map D.int)))(Q:D×Hm->Prop)
  (H:∀ a ps m μ',μ <+: μ'->μ.length<=a->Mk w h ps m->μ'[a]? = some (.dT (aZ (bB m) ps))->Q (.loc a,μ')):W (f (k+3) "_law_creases" [.int w,.int h,.loc c] μ) Q:=by
 rw [Ox,bS,aY]
 simp only [bV,aW,aM,aL,aE,aJ,aO]
 refine OS k w h "lufr" hw hh _ _ fun b μ1 p1 gb lb=>?_
 simp only [Qu,Qv]
 rw [aY]
 simp only [bV,xU,Qu,Qv]
 rw [aY]
 have hcl:c<μ.length:=(Qi.mp hc).1
 have hbl:b<μ1.length:=(Qi.mp gb).1
 have q1:=rQ p1
 have gc1:=bW (p1.trans (cO μ1 (C.dT []))) hc
 have hE:=Pj hw hh
 simp only [iB,nB (j:=0),aM,aL,aW,aE,aJ]
 refine (rZ gc1).mpr ?_
 rw [Qm]
 refine ⟨by omega,?_⟩
 rw [TR]
 refine oS (lo:=0) (fun i ρ' μ'=>∃ x5 x6 x7 x8 x9 ps m,ρ'=[some (.int w),some (.int h),some (.loc c),some (.loc b),some (.loc μ1.length),x5,x6,x7,x8,x9]/\Mk w h ps m/\μ1 <+: μ'/\μ'[μ1.length]? = some (.dT (aZ (bB m) ps)))
  ⟨_,_,_,_,_,[],fun _=>"h",rfl,⟨W3,(fun _ z=>nomatch z),fun _=>.inr (.inr rfl)⟩,cO _ _,cY _ _⟩ ?_ ?_
 ·rintro i ρ' μ' hi ⟨x5,x6,x7,x8,x9,ps,m,rfl,M,p2,g2⟩
  refine ⟨_,rfl,?_⟩
  simp only [Qu,Qv]
  rw [aY]
  simp only [bV,aT,aE,aJ,aO]
  have hni:ns[i]? = some ns[i]:=Ql hi
  generalize ns[i]=v at hni
  refine (jT (bW (p1.trans p2) hc) (d:=.int v) (oX (by omega) (by rw [show (0+(i:Int)).toNat=i by omega,Ra,hni];rfl))).mpr ?_
  rw [m9 (.inr (by decide)),m9 (.inl (by omega)),m9 (.inr (by decide)),fU,fU,jC (by decide)]
  have b0:=VF (v * 48271+(0+(i:Int)) * (0+(i:Int)) * 40693+7919) (show (2147483647:Int)≠0 by decide)
  have b1:=U7 (v * 48271+(0+(i:Int)) * (0+(i:Int)) * 40693+7919) (show (0:Int)<2147483647 by decide)
  generalize (v * 48271+(0+(i:Int)) * (0+(i:Int)) * 40693+7919) % 2147483647=n0 at b0 b1
  simp only [Qu,Qv]
  rw [aY]
  simp only [bV,aT,aE,aJ,aO]
  rw [m9 (.inl (by omega)),jC (by decide)]
  have b2:=VF (n0 * n0) (show (2147483563:Int)≠0 by decide)
  have b3:=U7 (n0 * n0) (show (0:Int)<2147483563 by decide)
  generalize n0 * n0 % 2147483563=n at b2 b3
  simp only [Qu,Qv]
  rw [aY]
  simp only [bV,aT,aE,aJ,aO,OE,aW,aM,aL]
  have gb2:=bW p2 gb
  refine (rZ gb2).mpr ?_
  rw [Qm,jC (by omega)]
  have j0:=VF (n / 9) (show ((bQ w h "lufr").length:Int)≠0 by omega)
  have j1:=U7 (n / 9) (show (0:Int)<((bQ w h "lufr").length:Int) by omega)
  generalize n / 9 % ((bQ w h "lufr").length:Int)=j at j0 j1
  have hj:(bQ w h "lufr")[j.toNat]? = some (bQ w h "lufr")[j.toNat]:=Ql (by omega)
  have he:=Q2 hj
  generalize (bQ w h "lufr")[j.toNat]=e at hj he
  refine (jT gb2 (d:=PP e) (oX j0 (by rw [Ra,hj];rfl))).mpr ?_
  simp only [Qu,Qv]
  refine Pl k hw hh M gb2 g2 n ⟨b2,by omega⟩ he _ fun ps' m' y8 y9 μ2 M2 t2 l2 c2 g3=>?_
  refine ⟨_,_,_,_,_,ps',m',rfl,M2,?_,g3⟩
  have:=t2 μ1.length (Qq _)
  rwa [<- List.prefix_iff_eq_take.mp p2] at this
 ·rintro ρ' μ' ⟨x5,x6,x7,x8,x9,ps,m,rfl,M,p2,g2⟩
  simp only [bH,aE,aJ]
  exact H _ ps m _ (p1.trans p2) q1 M g2
noncomputable def One (s:Str):Prop:=∃ c:Nat,s=⟨#[c]⟩/\c≠10
noncomputable def sJ (s:Str):Nat:=s.cps.toList.headD 0
theorem One.is {s:Str}(h:One s):s=⟨#[sJ s]⟩/\sJ s≠10:=by
 obtain ⟨c,rfl,h⟩:=h
 exact ⟨rfl,h⟩
theorem One.len {s:Str}(h:One s):s.length=1:=by
 obtain ⟨c,rfl,_⟩:=h
 rfl
theorem Ej (x y:Str):(x++y).cps.toList=x.cps.toList++y.cps.toList:=by
 show (x.cps++y.cps).toList=_
 exact SJ
theorem Pn {x y:Str}(h:x.cps.toList=y.cps.toList):x=y:=by
 obtain ⟨a⟩:=x
 obtain ⟨b⟩:=y
 congr 1
 exact Sy.mp h
noncomputable def jn (c:List Nat):List (List Nat)->List Nat
 | []=>[]
 | [x]=>x
 | x::y::r=>x++c++jn c (y::r)
theorem sL (sep:Str):∀ ss:List Str,(Wm sep ss).cps.toList=jn sep.cps.toList (ss.map fun s=>s.cps.toList)
 | []=>rfl
 | [x]=>rfl
 | x::y::r=>by
  show (x++sep++Wm sep (y::r)).cps.toList=_
  rw [Ej,Ej,sL sep (y::r)]
  rfl
theorem Ek:∀ ls:List (List Nat),jn [] ls=ls.flatten
 | []=>rfl
 | [x]=>by simp [jn]
 | x::y::r=>by
  show x++[]++jn [] (y::r)=_
  rw [Ek (y::r),RY]
  rfl
theorem Em:∀ ss:List Str,(∀ s∈ss,One s)->(ss.map fun s=>s.cps.toList).flatten=ss.map sJ
 | [],_=>rfl
 | s::ss,h=>by
  rw [Qz,List.flatten_cons,Em ss fun t ht=>h t (QH _ ht),Qz]
  obtain ⟨c,rfl,_⟩:=h s (QN ..)
  rfl
theorem yK {ss:List Str}(h:∀ s∈ss,One s):(Rb "" ss).cps.toList=ss.map sJ:=by
 rw [Xi,sL]
 show jn [] _=_
 rw [Ek,Em ss h]
theorem Po (x:Str):x.length=x.cps.toList.length:=by
 unfold Wa
 simp
theorem sM {ss:List Str}(h:∀ s∈ss,One s):(Rb "" ss).length=ss.length:=by
 rw [Po,yK h,Qm]
theorem Pp {ss:List Str}(h:∀ s∈ss,One s){i:Nat}{s:Str}(hi:ss[i]? = some s):iK (Rb "" ss) (some (i:Int)) (some ((i:Int)+1))=s:=by
 have hl:i<ss.length:=(Qi.mp hi).1
 obtain ⟨e1,_⟩:=(h s (Q2 hi)).is
 unfold iK
 rw [sM h,yK h,show ((i:Int)+1)=((i+1:Nat):Int) by omega,HT.sIx_nat,HT.sIx_nat,Ua (by omega),Ua (by omega),show i+1 - i=1 by omega,<- Xk,<- ZD]
 have e2:(ss.drop i).take 1=[s]:=by
  obtain ⟨hx,rfl⟩:=Qi.mp hi
  rw [SN hx]
  rfl
 rw [e2,e1]
 rfl
theorem Eo {c:Nat}:∀ {a b X Y:List Nat},c∉a->c∉b->a++c::X=b++c::Y->a=b/\X=Y
 | [],[],X,Y,_,_,h=>⟨rfl,by injection h⟩
 | [],y::b,X,Y,_,hb,h=>by
  rw [Rw,Rh] at h
  injection h with h1 _
  exact absurd (by rw [h1];exact QN ..) hb
 | x::a,[],X,Y,ha,_,h=>by
  rw [Rw,Rh] at h
  injection h with h1 _
  exact absurd (by rw [h1];exact QN ..) ha
 | x::a,y::b,X,Y,ha,hb,h=>by
  rw [Rh,Rh] at h
  injection h with h1 h2
  obtain ⟨e1,e2⟩:=Eo (fun z=>ha (QH _ z)) (fun z=>hb (QH _ z)) h2
  exact ⟨by rw [h1,e1],e2⟩
theorem Ep {c:Nat}:∀ {as bs:List (List Nat)},as≠[]->bs≠[]->(∀ a∈as,c∉a)->(∀ b∈bs,c∉b)->jn [c] as=jn [c] bs->as=bs
 | [],_,h,_,_,_,_=>absurd rfl h
 | _,[],_,h,_,_,_=>absurd rfl h
 | [x],[y],_,_,_,_,h=>by rw [show x=y from h]
 | [x],y::z::r,_,_,ha,_,h=>by
  refine absurd ?_ (ha x (QN ..))
  rw [show x=y++[c]++jn [c] (z::r) from h]
  simp
 | x::z::r,[y],_,_,_,hb,h=>by
  refine absurd ?_ (hb y (QN ..))
  rw [<- show x++[c]++jn [c] (z::r)=y from h]
  simp
 | x::x2::r,y::y2::r2,_,_,ha,hb,h=>by
  have h':x++c::jn [c] (x2::r)=y++c::jn [c] (y2::r2):=by
   have:x++[c]++jn [c] (x2::r)=y++[c]++jn [c] (y2::r2):=h
   simpa using this
  obtain ⟨e1,e2⟩:=Eo (ha x (QN ..)) (hb y (QN ..)) h'
  rw [e1,Ep (by simp) (by simp) (fun a h=>ha a (QH _ h)) (fun b h=>hb b (QH _ h)) e2]
theorem Pq:("\n":Str)=⟨#[10]⟩:=rfl
theorem Pr {rows:List Str}(h0:rows≠[])(h:∀ r∈rows,10∉r.cps.toList):UJ (Rb "\n" rows) "\n" = rows:=by
 rw [Xi,Pq]
 have e:=StrLaws.join_split (Wm ⟨#[10]⟩ rows) ⟨#[10]⟩
 have fr:=StrLaws.split_free (Wm ⟨#[10]⟩ rows) 10
 have hp:1<=(UJ (Wm ⟨#[10]⟩ rows) ⟨#[10]⟩).length:=a0h _ _
 generalize UJ (Wm ⟨#[10]⟩ rows) ⟨#[10]⟩=parts at e fr hp
 have e2:=congrArg (fun s:Str=>s.cps.toList) e
 (try dsimp only at e2)
 rw [sL,sL] at e2
 have:=Ep (c:=10) (by
  intro z
  rw [Yb] at z
  rw [z] at hp
  exact absurd hp (by decide)) (by
  intro z
  exact h0 (Yb.mp z)) (fun a ha=>by
  obtain ⟨p,hp,rfl⟩:=Q4.mp ha
  exact fr p hp) (fun a ha=>by
  obtain ⟨p,hp,rfl⟩:=Q4.mp ha
  exact h p hp) e2
 exact (Yp fun a b hab=>Pn hab).mp this
theorem Pt {ss:List Str}(h:∀ s∈ss,One s):10∉(Rb "" ss).cps.toList:=by
 rw [yK h]
 intro z
 obtain ⟨s,hs,e⟩:=Q4.mp z
 exact (h s hs).is.2 e
theorem Er (n:Nat):∀ (ss:List Str)(m:Nat),ss.foldl (fun acc s=>acc+s.length+n) m=m+(ss.map fun s=>s.length+n).sum
 | [],m=>by simp
 | s::ss,m=>by
  rw [WH,Er n ss]
  simp
  omega
theorem sN {k:Nat}:∀ {ss:List Str},(∀ s∈ss,s.length<=k)->∀ n,(ss.map fun s=>s.length+n).sum<=ss.length * (k+n)
 | [],_,_=>by simp
 | s::ss,h,n=>by
  rw [Qz,List.sum_cons,QU,Wo]
  have:=sN (ss:=ss) (fun t ht=>h t (QH _ ht)) n
  have:=h s (QN ..)
  omega
theorem yL {μ:Hm}{a:Nat}{sep:Str}{ss:List Str}{Q:D×Hm->Prop}(hs:sep.length<=1)(h:μ[a]? = some (.lst (ss.map D.str)))(h1:ss.length<=25)(h2:∀ s∈ss,s.length<=25):W (fK (.str sep) [.loc a] μ) Q↔Q (.str (Rb sep ss),μ):=by
 have b:ss.length * (25+sep.length)<=25 * 26:=VS h1 (by omega)
 refine N3 h ?_ ?_
 ·rw [List.foldl_toArray,Er]
  unfold Uw
  have:=sN h2 sep.length
  rw [Ro]
  exact decide_eq_false (by omega)
 ·rw [size_glued]
  have h3:=sN h2 0
  simp only [Vz] at h3
  have h4:ss.length * 25<=25 * 25:=X6 _ h1
  have h5:(ss.length - 1) * sep.length<=25 * 1:=VS (by omega) hs
  rw [Ro]
  omega
theorem Pu {sep:Str}{ss:List Str}(hs:sep.length<=1)(h1:ss.length<=25)(h2:∀ s∈ss,s.length<=25):(Rb sep ss).length<=650:=by
 rw [size_glued]
 have h3:=sN h2 0
 simp only [Vz] at h3
 have h4:ss.length * 25<=25 * 25:=X6 _ h1
 have h5:(ss.length - 1) * sep.length<=25 * 1:=VS (by omega) hs
 omega
theorem Pw {ps:List (Int×Int)}(h:(ps.map bA).Pairwise fun x y=>HT.lexLt y x=false):srt ps=ps:=by
 have e:(srt ps).map bA=ps.map bA:=TZ (le:=fun x y=>HT.lexLt y x=false) (fun a b _ _ h1 h2=>(yD b a h1 h2).symm) (yG ps) h ((fY ps).map _)
 have inj:∀ {a b:List (Int×Int)},a.map bA=b.map bA->a=b:=fun {a}=>by
  induction a with
  | nil=>intro b h;cases b with
   | nil=>rfl
   | cons=>cases h
  | cons x a ih=>intro b h;cases b with
   | nil=>cases h
   | cons y b=>
    rw [Qz,Qz] at h
    injection h with h1 h2
    rw [nE h1,ih h2]
 exact inj e
theorem Px {a:ME}{lo hi:MO}{ρ:aK}{μ:Hm}{Q:D×Hm->Prop}(h:W (a ρ μ) fun p=>∃ z,p.1=.str z/\W (lo ρ p.2) fun q=>W (hi ρ q.2) fun r=>z.length<=Qs/\Q (.str (iK z q.1 r.1),r.2)):W (gH a lo hi ρ μ) Q:=by
 unfold gH
 rw [W_bind]
 refine bP h fun p q=>?_
 obtain ⟨d,μ1⟩:=p
 obtain ⟨z,rfl,q⟩:=q
 rw [W_bind]
 refine bP q fun p q=>?_
 rw [W_bind]
 refine bP q fun p q=>?_
 obtain ⟨h1,q⟩:=q
 dsimp only
 rw [if_pos h1]
 exact W_some.mpr q
theorem Es {α:Type}{o:Option α}{r:α}(h:∀ Q:α->Prop,W o Q↔Q r):o=some r:=by
 obtain ⟨_,e,h1⟩:=(h fun x=>x=r).mpr rfl
 rw [e,h1]
noncomputable def d4 (w h:Int)(v:Int×Int->Str)(x y:Int):Str:=
 if (x % 4 == 0&&y % 4 == 0)=true then "+" else if cA (bD x y) "lufr" = false then " " else if (0<x/\x<4 * w)/\0<y/\y<4 * h then v (x,y) else if (y % 4 == 0)=true then "-" else "|"
noncomputable def vW (m:Int×Int->Str)(ps:List (Int×Int))(p:Int×Int):Str:=if p∈ps then m p else "."
noncomputable def d5 (w h:Int)(v:Int×Int->Str)(y:Int):List Str:=(RA (4 * w+1).toNat).map fun (i:Nat)=>d4 w h v (0+(i:Int)) y
noncomputable def cP (w h:Int)(v:Int×Int->Str)(n:Nat):List Str:=(RA n).map fun (j:Nat)=>Rb "" (d5 w h v (0+(j:Int)))
noncomputable def jY (w h:Int)(v:Int×Int->Str):Str:=Rb "\n" (cP w h v (4 * h+1).toNat)
noncomputable def lF (v:Int×Int->Str):Prop:=∀ p,One (v p)
theorem Py {s:Str}(h:iD s):One s:=by
 rcases h with rfl|rfl|rfl
 ·exact ⟨111,rfl,by decide⟩
 ·exact ⟨118,rfl,by decide⟩
 ·exact ⟨104,rfl,by decide⟩
theorem sO {m:Int×Int->Str}(h:∀ p,iD (m p))(ps:List (Int×Int)):lF (vW m ps):=fun p=>by
 unfold vW
 split
 ·exact Py (h p)
 ·exact ⟨46,rfl,by decide⟩
theorem Pz {w h:Int}{v:Int×Int->Str}(hv:lF v)(x y:Int):One (d4 w h v x y):=by
 unfold d4
 split
 ·exact ⟨43,rfl,by decide⟩
 split
 ·exact ⟨32,rfl,by decide⟩
 split
 ·exact hv _
 split
 ·exact ⟨45,rfl,by decide⟩
 ·exact ⟨124,rfl,by decide⟩
theorem oZ {w h:Int}{v:Int×Int->Str}(hv:lF v)(y:Int):∀ s∈d5 w h v y,One s:=fun s hs=>by
 unfold d5 at hs
 obtain ⟨i,_,rfl⟩:=Q4.mp hs
 exact Pz hv _ _
theorem sP (w h:Int)(v:Int×Int->Str)(y:Int):(d5 w h v y).length=(4 * w+1).toNat:=by unfold d5;simp
theorem PB (w h:Int)(v:Int×Int->Str)(n:Nat):cP w h v (n+1)=cP w h v n++[Rb "" (d5 w h v (0+(n:Int)))]:=by unfold cP;rw [Ze,Sj];rfl
theorem sQ (w h:Int)(v:Int×Int->Str)(n:Nat):(cP w h v n).length=n:=by unfold cP;simp
theorem yM {w h:Int}(hw:w<=6){v:Int×Int->Str}(hv:lF v){n:Nat}:∀ s∈cP w h v n,s.length<=25:=fun s hs=>by
 unfold cP at hs
 obtain ⟨j,_,rfl⟩:=Q4.mp hs
 rw [sM (oZ hv _),sP]
 omega
theorem yN {w h:Int}{v v':Int×Int->Str}(e:∀ p,v p=v' p):jY w h v=jY w h v':=by
 have:v=v':=funext e
 rw [this]
theorem PC {s t:Str}{μ:Hm}{Q:D×Hm->Prop}:W (cM true (.str s) (.str t) μ) Q↔Q (.bl (!cA s t),μ):=W_some
theorem Et {m:Int×Int->Str}{ps:List (Int×Int)}(nd:ps.Nodup){μ:Hm}{a:Nat}(ha:μ[a]? = some (.dT (aZ (bB m) ps)))(p:Int×Int){Q:D×Hm->Prop}:W (gZ (.loc a) [PP p,.str "."] μ) Q↔Q (.str (vW m ps p),μ):=by
 have e:gZ (.loc a) [PP p,.str "."] μ=some (.str (vW m ps p),μ):=by
  simp only [gZ,ha,lD,Rk]
  unfold vW
  by_cases hp:p∈ps
  ·rw [sF nd hp,if_pos hp];rfl
  ·rw [sG hp,if_neg hp];rfl
 rw [e]
 exact W_some
theorem PD (k:Nat){x y:Int}(hx:¬ x % 2=1)(μ:Hm)(Q:D×Hm->Prop):W (f (k+1) "line_of" [P x y] μ) Q↔Q (.str (if (y % 4 == 0)=true then "level" else "upright"),μ):=by
 rw [N7,bS]
 have e:(x % 2 == 1)=false:=by simpa using hx
 simp only [aY,cD,c6,aT,aE,aO,eD,dW,r9,oU,nA,e,Qp,if_false,cC,bH,DB]
 cases y % 4 == 0<;>simp only [if_true,Qp,if_false,aO]
theorem PF (k:Nat)(w h x y:Int)(μ:Hm)(Q:D×Hm->Prop):W (f (k+1) "is_within" [.int w,.int h,P x y] μ) Q↔Q (.bl (decide ((0<x/\x<4 * w)/\0<y/\y<4 * h)),μ):=by
 rw [DX,bS]
 simp only [bH,fM,xS,aE,aJ,aO,aT,eD,dW,fV,rV]
 by_cases a1:0<x<;>by_cases a2:x<4 * w<;>by_cases a3:0<y<;>by_cases a4:y<4 * h<;>simp [a1,a2,a3,a4]
theorem Eu {w h x y:Int}(hx:0<=x/\x<=4 * w)(hy:0<=y/\y<=4 * h)(he:cA (bD x y) "lufr" = true) (hn:¬ ((0<x/\x<4 * w)/\0<y/\y<4 * h)):¬ x % 2=1/\((y % 4=0/\x % 4=2)\/(y % 4=2/\x % 4=0)):=by
 rw [kE] at he
 have hb:x % 4=0\/y % 4=0:=by omega
 by_cases h1:x % 2=1
 ·rw [if_pos h1] at he
  have:y % 2=1:=by simpa using he
  omega
 ·rw [if_neg h1,Qy,beq_iff_eq,Uo,beq_eq_false_iff_ne] at he
  refine ⟨h1,?_⟩
  omega
theorem PH (k:Nat){w h:Int}{T:D}{m:Int×Int->Str}{ps:List (Int×Int)}(nd:ps.Nodup){μ:Hm}{a:Nat}(ha:μ[a]? = some (.dT (aZ (bB m) ps))){x y:Int}(hx:0<=x/\x<=4 * w)(hy:0<=y/\y<=4 * h)(Q:D×Hm->Prop)(H:Q (.str (d4 w h (vW m ps) x y),μ)) :
  W (f (k+2) "sign_at" [.tup [.int w,.int h,T],.loc a,P x y] μ) Q:=by
 rw [Of,bS,aY]
 simp only [cD,oR,c6,aT,aE,aJ,aO,eD,dW,oU,nA]
 unfold d4 at H
 cases e1:(x % 4 == 0&&y % 4 == 0) with
 | true=>
  rw [e1,if_pos rfl] at H
  rw [Qy] at e1
  simp only [e1.1,e1.2,if_true,bH,aO]
  exact H
 | false=>
  rw [e1,if_neg (by decide)] at H
  have key:∀ {A B:Prop},B->(if (x % 4 == 0)=true then (if (y % 4 == 0)=true then A else B) else B):=fun {A B} hb=>by
   split
   ·rw [if_neg (fun z=>by rename_i z1;rw [z1,z] at e1;cases e1)]
    exact hb
   ·exact hb
  have nx:∀ {R:Prop},(W (bJ [some (.tup [.int w,.int h,T]),some (.loc a),some (P x y)] μ) fun p=>match p.1 with|.nx=>R|_=>R)↔R:=fun {R}=>by rw [cC]
  have go:W (aS (bO (cJ (bX (aI (f (k+1) "is_edge") (aC (aA 2) aD)))) (aV (mC (.str " "))) bJ) (aS (bO (bX (aI (f (k+1) "is_within") (aC (aB aG (aA 0) (mC (.int 0))) (aC (aB aG (aA 0) (mC (.int 1))) (aC (aA 2) aD))))) (aV (gY gZ (aA 1) (aC (aA 2) (aC (mC (.str ".")) aD)))) bJ) (aV (gD (aU (aB (a9 false) (aI (f (k+1) "line_of") (aC (aA 2) aD)) (mC (.str "level")))) (mC (.str "-")) (mC (.str "|"))))) [some (.tup [.int w,.int h,T]),some (.loc a),some (P x y)] μ) (fun p=>match p.1 with|.rt d=>Q (d,p.2.2)|.nx=>Q (.non,p.2.2)|_=>False):=by
   rw [aY]
   simp only [cD,eX,dU,aW,aM,aL,aE,aJ]
   rw [xY,c7]
   cases e2:cA (bD x y) "lufr" with
   | false=>
    rw [e2,if_pos rfl] at H
    simp only [VO,if_true,bH,aO]
    exact H
   | true=>
    rw [e2,if_neg (by decide)] at H
    simp only [RS,Qp,if_false,cC]
    rw [aY]
    simp only [cD,dU,aW,aM,aL,aT,aE,aJ,aO]
    have i0:∀ (μ:Hm)(Q:D×Hm->Prop),W (aG (.tup [.int w,.int h,T]) (.int 0) μ) Q↔Q (.int w,μ):=fun _ _=>W_some
    have i1:∀ (μ:Hm)(Q:D×Hm->Prop),W (aG (.tup [.int w,.int h,T]) (.int 1) μ) Q↔Q (.int h,μ):=fun _ _=>W_some
    simp only [i0,i1]
    rw [PF]
    by_cases h3:(0<x/\x<4 * w)/\0<y/\y<4 * h
    ·rw [if_pos h3] at H
     simp only [decide_eq_true h3,if_true,c7,bH]
     refine yE ?_
     simp only [aE,aJ,aM,aL,aO]
     exact ⟨yF ha,(Et nd ha (x,y)).mpr H⟩
    ·rw [if_neg h3] at H
     obtain ⟨b1,b2⟩:=Eu hx hy e2 h3
     have fin:W (aV (gD (aU (aB (a9 false) (aI (f (k+1) "line_of") (aC (aA 2) aD)) (mC (.str "level")))) (mC (.str "-")) (mC (.str "|"))) [some (.tup [.int w,.int h,T]),some (.loc a),some (P x y)] μ) (fun p=>match p.1 with|.rt d=>Q (d,p.2.2)|.nx=>Q (.non,p.2.2)|_=>False):=by
      simp only [bH,DB,c6,aT,aW,aM,aL,aE,aJ,aO]
      rw [PD k b1]
      cases e4:(y % 4 == 0) with
      | true=>
       rw [e4,if_pos rfl] at H
       rw [show a9 false (.str (if true=true then "level" else "upright")) (.str "level") μ=some (.bl true,μ) from by kernel_rfl,W_some]
       simp only [if_true,aO]
       exact H
      | false=>
       rw [e4,if_neg (by decide)] at H
       rw [show a9 false (.str (if false=true then "level" else "upright")) (.str "level") μ=some (.bl false,μ) from by kernel_rfl,W_some]
       simp only [Qp,if_false,aO]
       exact H
     simp only [decide_eq_false h3,Qp,if_false,c7,cC]
     exact fin
  simp only [cC]
  cases e5:(x % 4 == 0)<;>cases e6:(y % 4 == 0)
  ·simp only [Qp,if_false];exact go
  ·simp only [Qp,if_false];exact go
  ·simp only [if_true,Qp,if_false];exact go
  ·rw [e5,e6] at e1;cases e1
theorem PJ (k:Nat){w h:Int}{m:Int×Int->Str}{ps:List (Int×Int)}(nd:ps.Nodup){μ:Hm}{a:Nat}(ha:μ[a]? = some (.dT (aZ (bB m) ps))){x y:Int}(hx:0<=x/\x<=4 * w)(hy:0<=y/\y<=4 * h)(Q:D×Hm->Prop)(H:∀ μ',μ <+: μ'->Q (.str (d4 w h (vW m ps) x y),μ')) :
  W (f (k+2) "_law_sign" [P x y,.int w,.int h,.loc a] μ) Q:=by
 rw [Oz,bS,aY]
 simp only [bV,aW,aM,aL,aE]
 refine xW k x y _ _ fun μ1 p1=>?_
 have ha1:=bW p1 ha
 replace H:∀ μ',μ1 <+: μ'->Q (.str (d4 w h (vW m ps) x y),μ'):=fun μ' hp=>H μ' (p1.trans hp)
 clear p1 ha
 simp only [Qu,Qv]
 rw [aY]
 simp only [cD,oR,c6,aT,aE,aJ,aO,eD,dW,oU,nA]
 unfold d4 at H
 cases e1:(x % 4 == 0&&y % 4 == 0) with
 | true=>
  rw [e1,if_pos rfl] at H
  rw [Qy] at e1
  simp only [e1.1,e1.2,if_true,bH,aO]
  exact H _ (Ri _)
 | false=>
  rw [e1,if_neg (by decide)] at H
  have go:W (aS (bO (aU (aB (cM true) (aA 4) (mC (.str "lufr")))) (aV (mC (.str " "))) bJ) (aS (bO (dA (aU (aB cK (mC (.int 0)) (aB aG (aA 0) (mC (.int 0))))) (dA (aU (aB cK (aB aG (aA 0) (mC (.int 0))) (aB b7 (mC (.int 4)) (aA 1)))) (dA (aU (aB cK (mC (.int 0)) (aB aG (aA 0) (mC (.int 1))))) (aU (aB cK (aB aG (aA 0) (mC (.int 1))) (aB b7 (mC (.int 4)) (aA 2))))))) (aV (gY gZ (aA 3) (aC (aA 0) (aC (mC (.str ".")) aD)))) bJ) (aV (aB aG (iT [((mC (.str "l")),(mC (.str "-"))),((mC (.str "u")),(mC (.str "|")))]) (aA 4)))) [some (P x y),some (.int w),some (.int h),some (.loc a),some (.str (bD x y))] μ1) (fun p=>match p.1 with|.rt d=>Q (d,p.2.2)|.nx=>Q (.non,p.2.2)|_=>False):=by
   rw [aY]
   simp only [cD,c6,aT,aE,aJ,aO]
   rw [PC]
   cases e2:cA (bD x y) "lufr" with
   | false=>
    rw [e2,if_pos rfl] at H
    simp only [VO,if_true,bH,aO]
    exact H _ (Ri _)
   | true=>
    rw [e2,if_neg (by decide)] at H
    simp only [RS,Qp,if_false,cC]
    rw [aY]
    have tst:∀ Q:Bool×Hm->Prop,W ((dA (aU (aB cK (mC (.int 0)) (aB aG (aA 0) (mC (.int 0))))) (dA (aU (aB cK (aB aG (aA 0) (mC (.int 0))) (aB b7 (mC (.int 4)) (aA 1)))) (dA (aU (aB cK (mC (.int 0)) (aB aG (aA 0) (mC (.int 1))))) (aU (aB cK (aB aG (aA 0) (mC (.int 1))) (aB b7 (mC (.int 4)) (aA 2))))))) [some (P x y),some (.int w),some (.int h),some (.loc a),some (.str (bD x y))] μ1) Q↔Q (decide ((0<x/\x<4 * w)/\0<y/\y<4 * h),μ1):=fun Q=>by
     simp only [oR,c6,aT,aE,aJ,aO,eD,dW,fV,rV]
     by_cases a1:0<x<;>by_cases a2:x<4 * w<;>by_cases a3:0<y<;>by_cases a4:y<4 * h<;>simp [a1,a2,a3,a4]
    rw [cD,tst]
    by_cases h3:(0<x/\x<4 * w)/\0<y/\y<4 * h
    ·rw [if_pos h3] at H
     simp only [decide_eq_true h3,if_true,bH]
     refine yE ?_
     simp only [aE,aJ,aM,aL,aO]
     exact ⟨yF ha1,(Et nd ha1 (x,y)).mpr (H _ (Ri _))⟩
    ·rw [if_neg h3] at H
     obtain ⟨b1,b2⟩:=Eu hx hy e2 h3
     simp only [decide_eq_false h3,Qp,if_false,cC,bH,aT]
     refine DL ?_
     simp only [DJ,DI,aO,DK]
     refine ⟨cY _ _,by show (2:Nat)<=15;decide,?_⟩
     simp only [aE,aJ]
     have hv:d9 (lX [] [(.inr "l",D.str "-"),(.inr "u",D.str "|")]) (.inr (bD x y))=some (.str (if (y % 4 == 0)=true then "-" else "|")):=by
      unfold bD
      rcases b2 with ⟨c1,c2⟩|⟨c1,c2⟩<;>rw [c1,c2]<;>kernel_rfl
     refine (DM (Rz (by simp)) rfl hv).mpr ?_
     cases e4:(y % 4 == 0)<;>rw [e4] at H<;>exact H _ (jB (cO _ _) (Qq _) _)
  simp only [cC]
  cases e5:(x % 4 == 0)<;>cases e6:(y % 4 == 0)
  ·simp only [Qp,if_false];exact go
  ·simp only [Qp,if_false];exact go
  ·simp only [if_true,Qp,if_false];exact go
  ·rw [e5,e6] at e1;cases e1
theorem PK {ρ:aK}{it:MI}{e:ME}{w h:Int}(hw:1<=w/\w<=6){v:Int×Int->Str}(hv:lF v){y:Int}{μ:Hm}(hit:it ρ μ=some (eM 0 (4 * w+1).toNat,(4 * w+1).toNat+1,μ))
  (he:∀ (i:Nat) μ',i<(4 * w+1).toNat->μ <+: μ'->W (e (ρ++[some (.int (0+(i:Int)))]) μ') fun s=>s.1=.str (d4 w h v (0+(i:Int)) y)/\μ' <+: s.2)(Q:D×Hm->Prop)
  (H:∀ μ',μ <+: μ'->Q (.str (Rb "" (d5 w h v y)),μ')):W (eS fK (mC (.str "")) (aC (cU it dP e) aD) ρ μ) Q:=by
 refine r6 ?_
 simp only [aO,aM,aL]
 refine ⟨_,rfl,?_⟩
 refine jD (xs:=c8 0 (4 * w+1).toNat) (p:=fun _=>true) (v:=fun d=>.str (d4 w h v (f6 d) y)) ?_
 rw [hit,W_some]
 refine ⟨xQ,by simp [c8],by rw [Ro];simp [c8];omega,fun d μ' _ _=>w_mTrue.mpr ⟨rfl,Ri _⟩,fun d μ' hd _ hp=>?_,fun μ' hp hg=>?_⟩
 ·obtain ⟨i,hi,rfl⟩:=sA hd
  exact he i μ' hi hp
 ·have e1:((c8 0 (4 * w+1).toNat).filter fun _=>true).map (fun d=>D.str (d4 w h v (f6 d) y))=(d5 w h v y).map D.str:=by
   unfold c8 d5
   rw [UZ.mpr (fun _ _=>rfl),Rj,Rj]
   rfl
  rw [e1] at hg
  refine (yL (by decide) hg (by rw [sP];omega) fun s hs=>?_).mpr (H _ hp)
  rw [(oZ hv y s hs).len]
  decide
theorem Ew {r j:Nat}{ρ:aK}{it:MI}{e:ME}{w h:Int}(hw:1<=w/\w<=6)(hh:1<=h/\h<=6){v:Int×Int->Str}(hv:lF v){μ0 μ:Hm}{c:Nat}(hr:ρ[r]? = some (some (.loc c)))(hj:j<ρ.length)(jr:j≠r)(pre:μ0 <+: μ)(lo:μ0.length<=c)(gc:μ[c]? = some (.lst []))
  (hit:∀ o μ',it (ρ.set j o) μ'=some (eM 0 (4 * w+1).toNat,(4 * w+1).toNat+1,μ'))
  (he:∀ (y i:Nat) μ',y<(4 * h+1).toNat->i<(4 * w+1).toNat->μ0 <+: μ'->W (e (ρ.set j (some (.int (0+(y:Int))))++[some (.int (0+(i:Int)))]) μ') fun s=>s.1=.str (d4 w h v (0+(i:Int)) (0+(y:Int)))/\μ' <+: s.2)(Q:Fl×aK×Hm->Prop)
  (H:∀ o μ',μ0 <+: μ'->μ'[c]? = some (.lst ((cP w h v (4 * h+1).toNat).map D.str))->Q (.nx,ρ.set j o,μ')) :
  W (d8 (eM 0 (4 * h+1).toNat) (c3 j) (iM (iV jH (aA r) (aC (eS fK (mC (.str "")) (aC (cU it dP e) aD)) aD))) ((4 * h+1).toNat+1) 0 ρ μ) Q:=by
 refine oS (lo:=0) (fun i ρ' μ'=>∃ o,ρ'=ρ.set j o/\μ0 <+: μ'/\μ'[c]? = some (.lst ((cP w h v i).map D.str))) ⟨ρ[j],(XI hj).symm,pre,gc⟩ ?_ ?_
 ·rintro i ρ' μ' hi ⟨o,rfl,p1,g1⟩
  refine ⟨_,rfl,?_⟩
  rw [ZS,xO]
  have vr:(ρ.set j (some (.int (0+(i:Int)))))[r]? = some (some (.loc c)):=by rw [Q6 jr];exact hr
  refine DN ?_
  rw [O3 vr]
  refine ⟨DO g1,?_⟩
  simp only [aM,aL]
  refine PK hw hv (hit _ _) (fun x μ2 hx hp=>he i x μ2 hi hx (p1.trans hp)) _ fun μ2 p2=>?_
  have g2:=bW p2 g1
  refine (NX g2 (by rw [Qm,sQ,Ro];omega)).mpr ⟨_,rfl,jB (p1.trans p2) lo _,?_⟩
  rw [iC g2,PB,Sj]
  rfl
 ·rintro ρ' μ' ⟨o,rfl,p1,g1⟩
  exact H o μ' p1 g1
theorem nF {w:Int}(hw:1<=w/\w<=6):((4 * w+1).toNat:Int)=4 * w+1:=by omega
theorem Ex (k:Nat){w h:Int}(hw:1<=w/\w<=6)(hh:1<=h/\h<=6){m:Int×Int->Str}(ok:∀ p,iD (m p)){ps:List (Int×Int)}(nd:ps.Nodup){μ:Hm}{a:Nat}(ha:μ[a]? = some (.dT (aZ (bB m) ps)))(Q:D×Hm->Prop)(H:∀ μ',μ <+: μ'->Q (.str (jY w h (vW m ps)),μ')) :
  W (f (k+3) "_law_drawing" [.int w,.int h,.loc a] μ) Q:=by
 have hv:=sO ok ps
 rw [OA,bS,aY]
 simp only [bV,lC,aL]
 refine ⟨RV _,?_⟩
 simp only [Qu,Qv]
 rw [aY]
 simp only [iB,nB (j:=0),aM,aL,aO,aT,aE,aJ,fV,fU]
 refine ⟨by omega,?_⟩
 refine Ew (r:=3) (j:=4) hw hh hv rfl (by show (4:Nat)<5;decide) (by decide) (cO μ _) (Qq _) (cY _ _) (fun o μ'=>?_) (fun y i μ' hy hi hp=>?_) _ fun o μ' hp hg=>?_
 ·refine Es fun Q=>?_
  simp only [Qu,Qv,nB (j:=0),aM,aL,aO,aT,aE,fV,fU]
  exact and_iff_right (by omega)
 ·have n1:=nF hw
  have n2:=nF hh
  simp only [Qu,Qv,Rh,Rw,aW,aM,aL,fL,aE,aJ,jV,true_and]
  exact PJ k nd (bW hp ha) (by omega) (by omega) _ fun μ2 p2=>⟨rfl,p2⟩
 ·simp only [Qu,Qv,bH]
  refine r6 ?_
  simp only [aO,aM,aL,aE,aJ]
  refine ⟨_,rfl,(yL (by decide) hg (by rw [sQ];omega) (yM hw.2 hv)).mpr (H _ hp)⟩
theorem Ey {a b c:D}{μ:Hm}{Q:D×Hm->Prop}:W (aG (.tup [a,b,c]) (.int 0) μ) Q↔Q (a,μ):=W_some
theorem Ez {a b c:D}{μ:Hm}{Q:D×Hm->Prop}:W (aG (.tup [a,b,c]) (.int 1) μ) Q↔Q (b,μ):=W_some
theorem nG {a b c:D}{μ:Hm}{Q:D×Hm->Prop}:W (aG (.tup [a,b,c]) (.int 2) μ) Q↔Q (c,μ):=W_some
theorem EA:∀ ms:List ((Int×Int)×Str),mW (ms.map MD)=some (ms.map fun m=>(bA m.1,D.str m.2))
 | []=>rfl
 | m::ms=>by
  rw [Qz,Qz]
  show (cL (PP m.1)).bind (fun k=>(mW (ms.map MD)).map fun l=>(k,D.str m.2)::l)=_
  rw [EA ms]
  rfl
theorem EB (v:Int×Int->D):∀ (l ps:List (Int×Int)),(ps++l).Nodup->(l.map fun p=>(bA p,v p)).foldl (fun q p=>dG q p.1 p.2) (aZ v ps)=aZ v (ps++l)
 | [],ps,_=>by rw [RY];rfl
 | p::l,ps,nd=>by
  have hp:p∉ps:=fun h=>by
   rw [Uk] at nd
   exact nd.2.2 p h p (QN ..) rfl
  rw [Qz,WH]
  dsimp only
  rw [D8 hp,EB v l (ps++[p]) (by rw [QK];exact nd),QK]
  rfl
theorem EC {m:Int×Int->Str}{ps:List (Int×Int)}(nd:ps.Nodup){μ:Hm}{Q:D×Hm->Prop}:W (k6 [.tup ((b8 m ps).map MD)] μ) Q↔Q (.loc μ.length,μ++[.dT (aZ (bB m) ps)]):=by
 have e:k6 [.tup ((b8 m ps).map MD)] μ=some (.loc μ.length,μ++[.dT (aZ (bB m) ps)]):=by
  simp only [k6,EA,Rk]
  have:=EB (bB m) ps [] (by simpa using nd)
  rw [Rw] at this
  rw [<- this]
  unfold b8
  rw [Rj]
  rfl
 rw [e]
 exact W_some
theorem yO (k:Nat){w h:Int}(hw:1<=w/\w<=6)(hh:1<=h/\h<=6){m:Int×Int->Str}(ok:∀ p,iD (m p)){ps:List (Int×Int)}(nd:ps.Nodup)(μ:Hm)(Q:D×Hm->Prop)(H:∀ μ',μ <+: μ'->Q (.str (jY w h (vW m ps)),μ')) :
  W (f (k+3) "drawn" [SH w h (b8 m ps)] μ) Q:=by
 have hv:=sO ok ps
 rw [Og,bS,aY]
 simp only [bV,aW,aM,aL,aE]
 rw [DY,bS]
 simp only [bH,aW,aM,aL,aT,aE,aO,nG,EC nd]
 simp only [Qu,Qv]
 rw [aY]
 simp only [bV,lC,aL]
 refine ⟨RV _,?_⟩
 simp only [Qu,Qv]
 have g0:(μ++[C.dT (aZ (bB m) ps)])[μ.length]? = some (.dT (aZ (bB m) ps)):=cY _ _
 have q0:μ <+: μ++[C.dT (aZ (bB m) ps)]:=cO _ _
 generalize μ++[C.dT (aZ (bB m) ps)]=μ1 at g0 q0
 rw [aY]
 simp only [iB,nB (j:=0),aM,aL,aO,aT,aE,aJ,Ez,fV,fU]
 refine ⟨by omega,?_⟩
 refine Ew (r:=2) (j:=3) hw hh hv rfl (by show (3:Nat)<4;decide) (by decide) (cO μ1 _) (Qq _) (cY _ _) (fun o μ'=>?_) (fun y i μ' hy hi hp=>?_) _ fun o μ' hp hg=>?_
 ·refine Es fun Q=>?_
  simp only [Qu,Qv,nB (j:=0),aM,aL,aO,aT,aE,Ey,fV,fU]
  exact and_iff_right (by omega)
 ·have n1:=nF hw
  have n2:=nF hh
  simp only [Qu,Qv,Rh,Rw,aW,aM,aL,fL,aE,aJ,jV,true_and]
  exact PH k nd (bW hp g0) (by omega) (by omega) _ ⟨rfl,Ri _⟩
 ·simp only [Qu,Qv,bH]
  refine r6 ?_
  simp only [aO,aM,aL,aE,aJ]
  refine ⟨_,rfl,(yL (by decide) hg (by rw [sQ];omega) (yM hw.2 hv)).mpr (H _ (q0.trans hp))⟩
theorem ED {α:Type} [DecidableEq α]:∀ {l t:List α},l.Nodup->t.Nodup->(∀ x,x∈l↔x∈t)->l.Perm t
 | [],t,_,_,h=>by
  cases t with
  | nil=>exact .nil
  | cons y t=>exact absurd ((h y).mpr (QN ..)) (by simp)
 | x::l,t,n1,n2,h=>by
  rw [RD] at n1
  have hx:x∈t:=(h x).mp (QN ..)
  refine Wb (List.Perm.cons x (ED n1.2 (n2.erase x) fun y=>?_)) (List.perm_cons_erase hx).symm
  rw [n2.mem_erase_iff]
  constructor
  ·intro hy
   exact ⟨fun e=>n1.1 (e ▸ hy),(h y).mp (QH _ hy)⟩
  ·rintro ⟨e,hy⟩
   rcases Q9.mp ((h y).mpr hy) with z|z
   ·exact absurd z e
   ·exact z
theorem PL:∀ w∈[(1:Int),2,3,4,5,6],∀ h∈[(1:Int),2,3,4,5,6],sE (((fW w h).filter oW).map bA)=true:=by decide +kernel
theorem EE {w h:Int}(hw:1<=w/\w<=6)(hh:1<=h/\h<=6):((bQ w h "lufr").map bA).Pairwise fun x y=>HT.lexLt x y=true:=by
 rw [D3]
 exact D5 (PL w (sI hw) h (sI hh))
theorem PM {w h:Int}(hw:1<=w/\w<=6)(hh:1<=h/\h<=6):(bQ w h "lufr").Nodup:=by
 have:=EE hw hh
 rw [RR] at this
 exact this.imp fun {x y} h e=>by
  rw [e,kU] at h
  exact RB h
theorem PN {w h:Int}(hw:1<=w/\w<=6)(hh:1<=h/\h<=6){ps:List (Int×Int)}{m:Int×Int->Str}(M:Mk w h ps m):srt ps=(bQ w h "lufr").filter fun e=>decide (e∈ps):=by
 have hp:ps.Perm ((bQ w h "lufr").filter fun e=>decide (e∈ps)):=by
  refine ED M.nd ((PM hw hh).filter _) fun x=>?_
  rw [TC,decide_eq_true_iff]
  exact ⟨fun h=>⟨M.ed x h,h⟩,fun h=>h.2⟩
 rw [srt_eq.mpr hp]
 refine Pw ?_
 have:=(EE hw hh).sublist ((List.filter_sublist (p:=fun e=>decide (e∈ps)) (l:=bQ w h "lufr")).map bA)
 exact this.imp fun h1=>O0 h1
theorem PQ {w h:Int}{v:Int×Int->Str}{e:Int×Int}(he:e∈bQ w h "lufr"):d4 w h v e.1 e.2=v e:=by
 obtain ⟨hb,hk⟩:=oY he
 unfold d4
 have h1:¬ (e.1 % 4 == 0&&e.2 % 4 == 0)=true:=fun z=>by
  rw [Qy,beq_iff_eq,beq_iff_eq] at z
  rw [kE,if_neg (by omega),z.1,z.2] at hk
  simp at hk
 rw [if_neg h1,if_neg (by rw [hk];decide),if_pos hb]
theorem PR (k:Nat){w h:Int}(hw:1<=w/\w<=6){v:Int×Int->Str}(hv:lF v){μ:Hm}{a:Nat}(ha:μ[a]? = some (.lst ((cP w h v (4 * h+1).toNat).map D.str))){e:Int×Int}(he:e∈bQ w h "lufr") (Q:D×Hm->Prop)(H:Q (.str (v e),μ)):W (f (k+1) "sign_in" [.loc a,PP e] μ) Q:=by
 obtain ⟨hb,hk⟩:=oY he
 rw [Oh,bS]
 simp only [bH]
 refine Px ?_
 simp only [aT,aE,aJ,aO,PP,dW]
 have hy:(cP w h v (4 * h+1).toNat)[e.2.toNat]? = some (Rb "" (d5 w h v e.2)):=by
  unfold cP
  rw [Ra,T4 (by omega)]
  show some (Rb "" (d5 w h v (0+(e.2.toNat:Int))))=_
  rw [show (0+(e.2.toNat:Int))=e.2 by omega]
 refine (jT ha (oX (by omega) (by rw [Ra,hy];rfl))).mpr ?_
 refine ⟨_,rfl,?_⟩
 simp only [xR,aT,aE,aJ,aO,eD,fU]
 have ho:=oZ (w:=w) (h:=h) hv e.2
 have hx:(d5 w h v e.2)[e.1.toNat]? = some (v e):=by
  unfold d5
  rw [Ra,T4 (by omega)]
  show some (d4 w h v (0+(e.1.toNat:Int)) e.2)=_
  rw [show (0+(e.1.toNat:Int))=e.1 by omega,PQ he]
 have ec:=Pp ho hx
 rw [show ((e.1.toNat:Nat):Int)=e.1 by omega] at ec
 rw [ec]
 refine ⟨?_,H⟩
 rw [sM ho,sP,Ro]
 omega
theorem PU (k:Nat){m:Int×Int->Str}(ok:∀ p,iD (m p))(ps:List (Int×Int))(e:Int×Int)(μ:Hm)(Q:D×Hm->Prop):W (f (k+1) "is_mark" [.str (vW m ps e)] μ) Q↔Q (.bl (decide (e∈ps)),μ):=by
 rw [DW,bS]
 simp only [bH,fM,aW,aM,aL,aE,aO,oT,if_true,aT]
 have e1:cM false (.str (vW m ps e)) r8 μ=some (.bl (decide (e∈ps)),μ):=by
  unfold vW
  by_cases h:e∈ps
  ·rw [if_pos h,decide_eq_true h]
   rcases ok e with z|z|z<;>rw [z]<;>rfl
  ·rw [if_neg h,decide_eq_false h]
   rfl
 rw [e1,W_some]
theorem PV (k:Nat){w h:Int}(hw:1<=w/\w<=6)(hh:1<=h/\h<=6){ps:List (Int×Int)}{m:Int×Int->Str}(M:Mk w h ps m){μ:Hm}{a:Nat}(ha:μ[a]? = some (.lst ((cP w h (vW m ps) (4 * h+1).toNat).map D.str)))(Q:D×Hm->Prop)(H:∀ μ',μ <+: μ'->Q (.tup ((b8 m (srt ps)).map MD),μ')) :
  W (f (k+3) "creases_in" [.loc a,.int w,.int h] μ) Q:=by
 have hv:=sO M.ok ps
 have lE:=yJ (w:=w) (h:=h) hw.2 hh.2 "lufr"
 rw [Oi,bS,aY,bV]
 refine jD (xs:=(bQ w h "lufr").map PP) (p:=fun _=>true) (v:=fun d=>.tup [d,.str (vW m ps (b6 d))]) ?_
 simp only [jU,aW,aM,aL,aE,aJ]
 refine OP k w h hw hh _ _ fun b μ1 p1 g1 l1=>?_
 refine (nD g1).mpr ⟨rX g1,rfl,by rw [Qm,Ro];omega,fun d μ' _ _=>w_mTrue.mpr ⟨rfl,Ri _⟩,fun d μ' hd _ hp=>?_,fun μ2 p2 g2=>?_⟩
 ·obtain ⟨e,he,rfl⟩:=Q4.mp hd
  simp only [Rh,Rw,fL,aM,aL,aW,aE,aJ]
  exact PR (k+1) hw hv (bW (p1.trans hp) ha) he _ ⟨jV,rfl,Ri _⟩
 ·have e1:(((bQ w h "lufr").map PP).filter fun _=>true).map (fun d=>D.tup [d,.str (vW m ps (b6 d))])=(bQ w h "lufr").map fun e=>MD (e,vW m ps e):=by
   rw [UZ.mpr (fun _ _=>rfl),Rj]
   rfl
  rw [e1] at g2
  simp only [Qu,Qv,bH,aW,aM,aL]
  refine jD (xs:=(bQ w h "lufr").map fun e=>MD (e,vW m ps e)) (p:=fun d=>match d with|.tup [q,_]=>decide (b6 q∈ps)|_=>false) (v:=fun d=>d) ?_
  simp only [jU,aE,aJ]
  refine (nD g2).mpr ⟨rX g2,rfl,by rw [Qm,Ro];omega,fun d μ' hd hp=>?_,fun d μ' hd _ hp=>?_,fun μ3 p3 g3=>?_⟩
  ·obtain ⟨e,he,rfl⟩:=Q4.mp hd
   simp only [Rh,Rw,dU,aW,aM,aL,aT,aE,aJ,aO,MD,dW]
   rw [PU (k+1) M.ok ps e,c7]
   exact ⟨rfl,Ri _⟩
  ·simp only [Rh,Rw,aE,aJ]
   exact ⟨trivial,Ri _⟩
  ·have e2:(((bQ w h "lufr").map fun e=>MD (e,vW m ps e)).filter fun d=>match d with|.tup [q,_]=>decide (b6 q∈ps)|_=>false).map (fun d=>d)=(b8 m (srt ps)).map MD:=by
    rw [Xu,WI,PN hw hh M]
    unfold b8
    rw [Rj]
    refine R0 fun e he=>?_
    have he:=(TC.mp he).2
    show MD (e,vW m ps e)=MD (e,m e)
    unfold vW
    rw [if_pos (of_decide_eq_true (show decide (e∈ps)=true from he))]
   rw [e2] at g3
   exact (N1 g3).mpr (H _ (p1.trans (p2.trans p3)))
theorem PX {z:Str}(hz:z.length<=Qs){μ:Hm}{Q:D×Hm->Prop}:W (cW [.str z] μ) Q↔Q (.int z.length,μ):=by
 have e:cW [.str z] μ=some (.int z.length,μ):=by
  show (if z.length<=Qs then some (D.int z.length,μ) else none)=_
  rw [if_pos hz]
 rw [e]
 exact W_some
theorem yP {z:Str}{μ:Hm}{Q:D×Hm->Prop}:W (a9 true (.str z) (.str z) μ) Q↔Q (.bl false,μ):=by
 have e:a9 true (.str z) (.str z) μ=some (.bl (!(z == z)),μ):=rfl
 rw [e,beq_self_eq_true]
 exact W_some
theorem Mk.srt {w h:Int}{ps:List (Int×Int)}{m:Int×Int->Str}(M:Mk w h ps m):Mk w h (srt ps) m:=M.perm (fY ps)
theorem yQ (m:Int×Int->Str)(ps:List (Int×Int))(p:Int×Int):vW m (srt ps) p=vW m ps p:=by
 unfold vW
 by_cases h:p∈ps
 ·rw [if_pos h,if_pos ((fY ps).mem_iff.mpr h)]
 ·rw [if_neg h,if_neg fun z=>h ((fY ps).mem_iff.mp z)]
theorem yR (k:Nat){w h:Int}(hw:1<=w/\w<=6)(hh:1<=h/\h<=6){ps:List (Int×Int)}{m:Int×Int->Str}(M:Mk w h ps m)(μ:Hm)(Q:D×Hm->Prop)(H:∀ μ',μ <+: μ'->Q (SH w h (b8 m (srt ps)),μ')) :
  W (f (k+4) "read_sheet" [.str (jY w h (vW m ps))] μ) Q:=by
 have hv:=sO M.ok ps
 have rl:=sQ w h (vW m ps) (4 * h+1).toNat
 have r25:=yM (w:=w) (h:=h) hw.2 hv (n:=(4 * h+1).toNat)
 have n1:=nF hw
 have n2:=nF hh
 rw [Oj,bS,aY]
 simp only [cD,eX,dU,aW,aM,aL,aE,aJ,aO,oT,c7,RS,Qp,if_false,cC]
 rw [aY,bV]
 refine r6 ?_
 simp only [aE,aM,aL,aO]
 refine ⟨_,rfl,?_⟩
 have hd:(jY w h (vW m ps)).length<=650:=Pu (by decide) (by rw [rl];omega) r25
 have es:m4 (.str (jY w h (vW m ps))) [.str "\n"] μ=some (.loc μ.length,μ++[.lst ((cP w h (vW m ps) (4 * h+1).toNat).map D.str)]):=by
  unfold m4
  dsimp only
  rw [if_pos ⟨rfl,by rw [Ro];omega⟩]
  unfold jY
  rw [Pr]
  ·intro z
   rw [z] at rl
   have:(0:Nat)=(4 * h+1).toNat:=rl
   omega
  ·intro r hr
   unfold cP at hr
   obtain ⟨j,_,rfl⟩:=Q4.mp hr
   exact Pt (oZ hv _)
 rw [es,W_some]
 simp only [Qu,Qv]
 have g1:=cY μ (C.lst ((cP w h (vW m ps) (4 * h+1).toNat).map D.str))
 have q1:=cO μ (C.lst ((cP w h (vW m ps) (4 * h+1).toNat).map D.str))
 generalize μ++[C.lst ((cP w h (vW m ps) (4 * h+1).toNat).map D.str)]=μ1 at g1 q1
 rw [aY]
 simp only [bV,aT,aW,aM,aL,aE,aJ,aO]
 have h0:(cP w h (vW m ps) (4 * h+1).toNat)[0]? = some (Rb "" (d5 w h (vW m ps) (0+((0:Nat):Int)))):=by
  unfold cP
  rw [Ra,T4 (by omega)]
  rfl
 refine (jT g1 (oX (by decide) (by rw [Ra];show ((cP w h (vW m ps) (4 * h+1).toNat)[0]?).map D.str=_;rw [h0];rfl))).mpr ?_
 have l0:(Rb "" (d5 w h (vW m ps) (0+((0:Nat):Int)))).length=(4 * w+1).toNat:=by rw [sM (oZ hv _),sP]
 rw [PX (by rw [l0,Ro];omega),l0,n1,xV,show (4 * w+1) / 4=w by omega]
 simp only [Qu,Qv]
 rw [aY]
 simp only [bV,aT,aW,aM,aL,aE,aJ,aO]
 refine (rZ g1).mpr ?_
 rw [Qm,rl,n2,xV,show (4 * h+1) / 4=h by omega]
 simp only [Qu,Qv]
 rw [aY]
 simp only [cD,eX,oR,dU,aW,aM,aL,aE,aJ]
 refine sH (k+1) hw _ _ ?_
 simp only [c7,if_true]
 refine sH (k+1) hh _ _ ?_
 simp only [c7,RS,Qp,if_false,cC]
 rw [aY]
 simp only [bV,fL,aW,aM,aL,aE,aJ]
 refine PV k hw hh M g1 _ fun μ2 p2=>?_
 refine ⟨by show (3:Nat)<=Qs;decide,?_⟩
 simp only [Qu,Qv]
 rw [aY]
 simp only [cD,c6,aT,aW,aM,aL,aE,aJ]
 refine yO k hw hh M.ok M.srt.nd _ _ fun μ3 p3=>?_
 rw [yN (yQ m ps),yP]
 simp only [Qp,if_false,cC,bH,aE,aJ]
 exact H _ (q1.trans (p2.trans p3))
theorem PY (μ:Hm)(n:Nat)(p:(Int×Int)×Str):bZ (n+3) μ (MD p) (MD p)=some true:=by
 obtain ⟨⟨x,y⟩,s⟩:=p
 have e:bZ (n+3) μ (MD ((x,y),s)) (MD ((x,y),s))=some ((x == x&&(y == y&&true))&&((s == s)&&true)):=rfl
 rw [e]
 simp
theorem EF (μ:Hm)(n:Nat):∀ T:List ((Int×Int)×Str),eJ (bZ (n+3) μ) (T.map MD) (T.map MD)=some true
 | []=>rfl
 | p::T=>by
  show (bZ (n+3) μ (MD p) (MD p)).bind (fun b=>(eJ (bZ (n+3) μ) (T.map MD) (T.map MD)).map fun c=>b&&c)=_
  rw [PY,EF μ n T]
  rfl
theorem PZ {μ:Hm}{w h:Int}{T:List ((Int×Int)×Str)}{Q:D×Hm->Prop}:W (a9 true (SH w h T) (SH w h T) μ) Q↔Q (.bl false,μ):=by
 have e:bZ 8 μ (SH w h T) (SH w h T)=some true:=by
  show (some (w == w)).bind (fun b=>((some (h == h)).bind fun b2=>((eJ (bZ 6 μ) (T.map MD) (T.map MD)).bind fun b3=>(some true).map fun c=>b3&&c).map fun c=>b2&&c).map fun c=>b&&c)=_
  rw [EF μ 3 T]
  simp
 unfold a9
 rw [e]
 exact W_some
theorem P0 {a b c:D}{μ:Hm}{Q:D×Hm->Prop}:W (cW [.tup [a,b,c]] μ) Q↔Q (.int 3,μ):=W_some
theorem EG {e0:ME}{x0 x1 x2:Option D}{T:List ((Int×Int)×Str)}{μ:Hm}(lT:T.length<=600)(he:∀ Q:D×Hm->Prop,W (e0 [x0,x1,x2] μ) Q↔Q (.tup (T.map MD),μ))(Q:D×Hm->Prop)(H:∀ μ',μ <+: μ'->μ'[μ.length]? = some (.lst ((T.map (·.1)).map PP))->Q (.loc μ.length,μ')) :
  W (cU (dD e0) dP (aB aG (aA 3) (mC (.int 0))) [x0,x1,x2] μ) Q:=by
 refine jD (xs:=T.map MD) (p:=fun _=>true) (v:=fun d=>match d with|.tup [a,_]=>a|_=>.non) ?_
 simp only [jU,he]
 rw [DS]
 refine ⟨DF,rfl,by rw [Qm,Ro];omega,fun d μ' _ _=>w_mTrue.mpr ⟨rfl,Ri _⟩,fun d μ' hd _ hp=>?_,fun μ' hp hg=>?_⟩
 ·obtain ⟨p,_,rfl⟩:=Q4.mp hd
  simp only [Rh,Rw,aT,aE,aJ,aO,MD,eD]
  exact ⟨trivial,Ri _⟩
 ·refine H μ' hp ?_
  rw [hg,UZ.mpr (fun _ _=>rfl),Rj,Rj]
  rfl
theorem yS (k:Nat){w h:Int}{T:List ((Int×Int)×Str)}(lT:T.length<=600)(μ:Hm)(Q:D×Hm->Prop)(H:∀ μ',μ <+: μ'->Q (.bl true,μ')):W (f (k+3) "_law_is_sheet" [SH w h T,SH w h T] μ) Q:=by
 rw [Oy,bS,aY]
 simp only [cD,m8,eX,dU,c6,aW,aM,aL,aE,aJ,aO,aT,rY,c7,RS,Qp,if_false,P0,rS,beq_self_eq_true,nG]
 rw [PZ]
 simp only [Qp,if_false,cC]
 rw [aY]
 simp only [cD,m8,eX,dU,aW,aM,aL,aE,aJ,aO,aT,Ey,Ez,D0,c7,RS,Qp,if_false,cC]
 rw [aY]
 simp only [iB,jU,aT,aE,aJ,aO,nG]
 rw [DS]
 refine NT (xs:=T.map MD) (fun _=>rfl) (fun i ρ' μ'=>μ=μ'/\∃ o,ρ'=[some (SH w h T),some (SH w h T),o]) ⟨rfl,none,rfl⟩ ?_ ?_
 ·rintro i d ρ' μ' hd ⟨rfl,o,rfl⟩
  obtain ⟨p,_,rfl⟩:=Ea hd
  refine ⟨_,rfl,?_⟩
  simp only [Qu,Qv,cD,m8,eX,dU,aW,aM,aL,aE,aJ,aO,c6,aT,rY,c7,DR,rS,MD,dW,oT,cC,RS,Qp,if_false]
  exact ⟨trivial,_,rfl⟩
 ·rintro ρ' μ' ⟨rfl,o,rfl⟩
  simp only [bH,aW,aM,aL]
  refine EG lT (fun Q=>by simp only [aT,aE,aO,nG]) _ fun μ1 p1 g1=>?_
  refine EG lT (fun Q=>by simp only [aT,aE,aJ,aO,nG]) _ fun μ2 p2 g2=>?_
  refine OL k _ _ _ _ _ _ (bW p2 g1) g2 ?_
  rw [beq_self_eq_true]
  exact H _ (p1.trans p2)
theorem P1 (m:Int×Int->Str)(ps:List (Int×Int)):(b8 m ps).length=ps.length:=Qm ..
theorem P2 (k:Nat){w h:Int}{m:Int×Int->Str}{ps:List (Int×Int)}(nd:ps.Nodup){p:Int×Int}(hp:p∈ps)(μ:Hm)(Q:D×Hm->Prop)(H:∀ μ',μ <+: μ'->Q (.str (m p),μ')):W (f (k+2) "mark_at" [SH w h (b8 m ps),PP p] μ) Q:=by
 rw [Oe,bS,bH]
 refine yE ?_
 simp only [aW,aM,aL,aE]
 rw [DY,bS]
 simp only [bH,aW,aM,aL,aT,aE,aJ,aO,nG,EC nd]
 refine ⟨yF (cY _ _),?_⟩
 have e:mZ (.loc μ.length) [PP p] (μ++[.dT (aZ (bB m) ps)])=some (.str (m p),μ++[.dT (aZ (bB m) ps)]):=by
  simp only [mZ,cY,lD,Rk]
  rw [sF nd hp]
  rfl
 rw [e,W_some]
 exact H _ (cO _ _)
theorem P4 {m:ME}{ρ:aK}{μ:Hm}{a:Nat}{mk:Int×Int->Str}{ps:List (Int×Int)}(h:μ[a]? = some (.dT (aZ (bB mk) ps)))(hm:∀ Q:D×Hm->Prop,W (m ρ μ) Q↔Q (.loc a,μ)){Q:D×Hm->Prop}:W (jM m ρ μ) Q↔Q (.tup ((b8 mk (srt ps)).map MD),μ):=by
 have e:mY (.loc a) μ=some (.tup ((b8 mk (srt ps)).map MD),μ):=by
  simp only [mY,h]
  rw [if_pos trivial,D9,yH]
  unfold aZ
  rw [Rj]
  rfl
 unfold jM
 rw [W_bind,hm]
 dsimp only
 rw [e]
 exact W_some
theorem P5 {i:Nat}{m1 m2:ME}{ρ:aK}{μ:Hm}{a:Nat}{kvs:List (List Int×D)}{Q:D×Hm->Prop}(h:ρ[i]? = some (some (.loc a)))(hc:μ[a]? = some (.dT kvs))
  (H:W (m1 ρ (μ.set a (.dF kvs))) fun r=>r.2[a]? = some (.dF kvs)/\Q (r.1,r.2.set a (.dT kvs))):W (k7 i m1 m2 ρ μ) Q:=by
 have e:jL i ρ μ=some (a,kvs):=by simp only [jL,h,hc]
 unfold k7
 rw [e]
 rw [W_bind]
 refine bP H fun r q=>?_
 rw [q.1]
 exact W_some.mpr q.2
theorem keys_kvP' (v:Int×Int->D)(ps:List (Int×Int)):eU (aZ v ps)=ps.map PP:=by
 unfold eU aZ
 rw [Rj]
 rfl
theorem P6 {x0 x1 x2 x3 x5 x6 x7 x8 x9 x10:Option D}{w h:Int}(hw:w<=6)(hh:h<=6){ps:List (Int×Int)}{m:Int×Int->Str}(M:Mk w h ps m){μ:Hm}{a:Nat}(ha:μ[a]? = some (.dT (aZ (bB m) ps))){m2:ME}(Q:D×Hm->Prop)
  (H:∀ b μ',μ <+: μ'->μ'[b]? = some (.lst ((b8 m ps).map MD))->Q (.loc b,μ')) :
  W (k7 4 (cU (eV (aA 4)) dP (cT (aC (aA 11) (aC (aB aG (aA 4) (aA 11)) aD)))) m2 [x0,x1,x2,x3,some (.loc a),x5,x6,x7,x8,x9,x10] μ) Q:=by
 have lp:=M.len hw hh
 have gF:(μ.set a (.dF (aZ (bB m) ps)))[a]? = some (.dF (aZ (bB m) ps)):=iC ha
 refine P5 (a:=a) (kvs:=aZ (bB m) ps) rfl ha ?_
 refine jD (xs:=ps.map PP) (p:=fun _=>true) (v:=fun d=>.tup [d,bB m (b6 d)]) ?_
 have hit:eV (aA 4) [x0,x1,x2,x3,some (.loc a),x5,x6,x7,x8,x9,x10] (μ.set a (.dF (aZ (bB m) ps)))=some (dQ (.tup (ps.map PP)),ps.length+1,μ.set a (.dF (aZ (bB m) ps))):=by
  simp only [eV,aA,Tu,List.getElem?_cons_zero,Rm,gF,keys_kvP',Qm]
 rw [hit,W_some]
 refine ⟨DF,by rw [Qm],by rw [Qm,Ro];omega,fun d μ' _ _=>?_,fun d μ' hd _ hp=>?_,fun μ' hp hg=>?_⟩
 ·exact w_mTrue.mpr ⟨rfl,Ri _⟩
 ·obtain ⟨p,hpp,rfl⟩:=Q4.mp hd
  simp only [Rh,Rw,fL,aM,aL,aT,aE,aJ]
  refine (D6 (.inr (bW hp gF)) (lD p) (sF M.nd hpp)).mpr ⟨jV,rfl,Ri _⟩
 ·refine ⟨bW hp gF,?_⟩
  have p1:μ <+: μ'.set a (.dT (aZ (bB m) ps)):=D7 ha hp
  have e1:((ps.map PP).filter fun _=>true).map (fun d=>D.tup [d,bB m (b6 d)])=(b8 m ps).map MD:=by
   rw [UZ.mpr (fun _ _=>rfl),Rj,yH]
   rfl
  rw [e1,RX] at hg
  have hal:a<μ.length:=(Qi.mp ha).1
  rw [RX]
  refine H _ _ p1 ?_
  rw [Q6 (by omega)]
  exact hg
theorem P7 (k:Nat){x0 x1 x2 x3 x5 x6 x7 x8 x9:Option D}{w h:Int}{ps:List (Int×Int)}{m:Int×Int->Str}(M:Mk w h ps m){μ:Hm}{a:Nat}(ha:μ[a]? = some (.dT (aZ (bB m) ps))){m2:MS}(Q:Fl×aK×Hm->Prop)
  (H:∀ o μ',μ <+: μ'->Q (.nx,[x0,x1,x2,x3,some (.loc a),x5,x6,o,x8,x9,some (SH w h (b8 m (srt ps)))],μ')) :
  W (jA 4 (c4 (eV (aA 4)) (c3 7) (bO (aU (aB (a9 true) (aI (f (k+2) "mark_at") (aC (aA 10) (aC (aA 7) aD))) (aB aG (aA 4) (aA 7)))) (aV (mC (.bl false))) bJ)) m2 [x0,x1,x2,x3,some (.loc a),x5,x6,x7,x8,x9,some (SH w h (b8 m (srt ps)))] μ) Q:=by
 have gF:(μ.set a (.dF (aZ (bB m) ps)))[a]? = some (.dF (aZ (bB m) ps)):=iC ha
 refine O2 rfl ha (fun n ρ' μ'=>∃ o,ρ'=[x0,x1,x2,x3,some (.loc a),x5,x6,o,x8,x9,some (SH w h (b8 m (srt ps)))]/\μ.set a (.dF (aZ (bB m) ps)) <+: μ') ⟨x7,rfl,Ri _⟩ ?_ ?_
 ·rintro n kk d ρ' μ' hk ⟨o,rfl,p1⟩
  unfold aZ at hk
  rw [Ra] at hk
  obtain ⟨p,hp,hk⟩:=Qk.mp hk
  cases hk
  have hin:=Q2 hp
  simp only [Qu,Qv,cD,c6,aT,aW,aM,aL,aE,aJ]
  refine P2 k M.srt.nd (p:=p) ((fY ps).mem_iff.mpr hin) _ _ fun μ2 p2=>?_
  refine (D6 (.inr (bW (p1.trans p2) gF)) (lD p) (sF M.nd hin)).mpr ?_
  dsimp only [bB]
  rw [yP]
  simp only [Qp,if_false,cC]
  exact ⟨trivial,_,rfl,p1.trans p2⟩
 ·rintro ρ' μ' ⟨o,rfl,p1⟩
  exact ⟨bW p1 gF,H o _ (D7 ha p1)⟩
theorem P8 (ns:List Int):gE (ns.map D.int) (some 3) none=(ns.drop 3).map D.int:=by
 unfold gE
 have h2:HT.sIx (ns.map D.int).length 0 (some 3)=min 3 ns.length:=by
  have:=HT.sIx_nat (ns.map D.int).length 0 3
  rw [Qm] at this
  rw [Qm]
  exact this
 rw [h2,HT.sIx_none,Qm]
 by_cases h:3<=ns.length
 ·rw [Ua h,Xk,SG]
  rw [Rt,Qm]
  exact Qq _
 ·have e1:min 3 ns.length=ns.length:=by omega
  rw [e1,RW (by rw [Qm];omega),RW (by omega)]
  simp
theorem P9 (w h:Int):Mk w h [] fun _=>"h":=⟨W3,(fun _ z=>nomatch z),fun _=>.inr (.inr rfl)⟩
theorem Qa {z:Str}{μ:Hm}{Q:D×Hm->Prop}:W (a9 false (.str z) (.str z) μ) Q↔Q (.bl true,μ):=by
 have e:a9 false (.str z) (.str z) μ=some (.bl (z == z),μ):=rfl
 rw [e,beq_self_eq_true]
 exact W_some
theorem Qb (k:Nat)(ns:List Int)(hns:ns.length<=63)(μ:Hm):W (f (k+5) "law" [.rol (ns.map D.int)] μ) fun r=>r.1=.bl true:=by
 rw [OB,bS,aY]
 simp only [bV,aW,aM,aL,aE,aJ,aO]
 refine xX _ ns 0 (by decide) _ _ fun μ1 p1=>?_
 refine Ed _ _ _ _ fun μ2 p2=>?_
 simp only [Qu,Qv]
 rw [aY]
 simp only [bV,aW,aM,aL,aE,aJ,aO]
 refine xX _ ns 1 (by decide) _ _ fun μ3 p3=>?_
 refine Ed _ _ _ _ fun μ4 p4=>?_
 simp only [Qu,Qv]
 rw [aY]
 simp only [bV,aW,aM,aL,aE,aJ,aO]
 refine xX _ ns 2 (by decide) _ _ fun μ5 p5=>?_
 simp only [Qu,Qv]
 have hw:=Ec (cell ns 0)
 have hh:=Ec (cell ns 1)
 generalize jX (cell ns 0)=w at hw
 generalize jX (cell ns 1)=h at hh
 generalize cell ns 2=way
 rw [aY]
 simp only [bV,aW,aM,aL,aE,aJ]
 refine DT ?_
 simp only [aE]
 refine ⟨_,rfl,?_⟩
 simp only [xR,N0,aO]
 rw [P8]
 refine Pm (k+1) hw hh (ns:=ns.drop 3) (by rw [Rt];omega) (cY _ _) _ fun a4 ps m μ6 p6 l6 M g4=>?_
 simp only [Qu,Qv]
 have lps:=M.len hw.2 hh.2
 have lsr:(b8 m (srt ps)).length<=600:=by rw [P1,(fY ps).length_eq];omega
 rw [aY]
 simp only [bV,fL,aM,aL,aE,aJ]
 rw [P4 g4 (fun Q=>by simp only [aE,aJ])]
 refine ⟨by show (3:Nat)<=Qs;decide,?_⟩
 simp only [Qu,Qv]
 rw [aY]
 simp only [bV,aE,aJ,Qu,Qv]
 rw [aY]
 refine bP (Q:=fun p:Fl×aK×Hm=>p.1=.nx/\p.2.1=[some (.rol (ns.map D.int)),some (.int w),some (.int h),some (.int way),some (.loc a4),some (SH w h (b8 m (srt ps))),some (SH w h (b8 m (srt ps))),none,none,none,none]/\μ6 <+: p.2.2) ?_ ?_
 ·simp only [cD,c6,aT,aE,aJ,aO,r9,nA]
  cases way % 2 == 1 with
  | false=>
   simp only [Qp,if_false,cC]
   exact ⟨trivial,(by first|rfl|trivial),Ri _⟩
  | true=>
   simp only [if_true,bV,aW,aM,aL,aE,aJ]
   refine P6 hw.2 hh.2 M g4 _ fun b μ7 p7 g7=>?_
   refine Pg k hw hh M g7 _ fun μ8 p8=>?_
   exact ⟨trivial,rfl,p7.trans p8⟩
 rintro ⟨fl,ρ,μ7⟩ ⟨rfl,rfl,p7⟩
 dsimp only at p7 ⊢
 have g7:=bW p7 g4
 rw [aY]
 simp only [bV,aW,aM,aL,aE,aJ]
 refine Ex (k+1) hw hh M.ok M.nd g7 _ fun μ8 p8=>?_
 simp only [Qu,Qv]
 rw [aY]
 simp only [bV,aW,aM,aL,aE,aJ]
 refine yO (k+1) hw hh M.ok M.srt.nd _ _ fun μ9 p9=>?_
 rw [yN (yQ m ps)]
 simp only [Qu,Qv]
 rw [aY]
 simp only [cD,m8,eX,dU,c6,aT,aW,aM,aL,aE,aJ,aO,oT,c7,RS,Qp,if_false]
 rw [yP]
 simp only [Qp,if_false,cC]
 rw [aY]
 simp only [bV,aW,aM,aL,aE,aJ]
 refine yR k hw hh M _ _ fun μA pA=>?_
 simp only [Qu,Qv]
 rw [aY]
 simp only [cD,eX,dU,aW,aM,aL,fL,aE,aJ,xU]
 refine Ex (k+1) hh hw (m:=fun _=>"h") (ps:=[]) (fun _=>.inr (.inr rfl)) W3 (cY _ _) _ fun μB pB=>?_
 refine yR k hh hw (P9 h w) _ _ fun μC pC=>?_
 refine ⟨by show (0:Nat)<=Qs;decide,by show (3:Nat)<=Qs;decide,?_⟩
 refine yS (k+1) (T:=[]) (by decide) _ _ fun μD pD=>?_
 simp only [c7,RS,Qp,if_false,cC]
 have q7:μ7 <+: μD:=((p8.trans p9).trans pA).trans (((cO _ _).trans pB).trans (pC.trans pD))
 rw [aY]
 refine P7 (k+2) M (bW q7 g7) _ fun o μE pE=>?_
 simp only [bH,fM,aW,aM,aL,aE,aJ]
 refine yS (k+1) lsr _ _ fun μF pF=>?_
 simp only [if_true,fM,aW,aM,aL,aE,aJ]
 refine yR k hw hh M _ _ fun μG pG=>?_
 refine yS (k+1) lsr _ _ fun μH pH=>?_
 simp only [if_true,aT,aW,aM,aL,aE,aJ]
 refine yO (k+1) hw hh M.ok M.srt.nd _ _ fun μI pI=>?_
 rw [yN (yQ m ps),Qa]
theorem Qc:∀ ns:List Int,ns.length<=63->∃ μ',hZ S ds 5 "law" [.rol (ns.map D.int)] []=some (.bl true,μ'):=fun ns hns=>by
 obtain ⟨⟨d,μ'⟩,h1,h2⟩:=Qb 0 ns hns []
 dsimp only at h2
 subst h2
 refine ⟨μ',?_⟩
 unfold f at h1
 exact h1
end Lw
namespace Lw
open PySem L2 L3
theorem dz (Q:Ug):rO (Kx Q) ds:=by unfold rO;kernel_rfl
theorem cz (Q:Ug):DA (Kx Q) S.con=true:=by kernel_rfl
theorem nz (Q:Ug):S.no.map (Vn (Kx Q) Sx)=S.no.map fun _=>some none:=by kernel_rfl
theorem Qd {P:QR}{w:Rg}{Q:Ug}
  {h:RG}{mg:Str → Option Qg}(X:(Kx Q).In h)(G:h.Ns Sx mg):TxtOk P w (Kx Q) mg S ds ∧ ∃ f fd,Fun (Kx Q) "law" "law" (aQ 42) f fd ∧ mg "law" = some (.ref f) ∧ ∀ (s:Qj)(u:Qg),WX s fd ⟨[u],[]⟩ [("_law_script",u)]:=by
 refine ⟨⟨NG (by decide +kernel),NH fun p hp=>(Dx X G (dz Q) p hp).1,NI (NN X G (cz Q)),fun x kvs e=>?_,NJ (NM X G (nz Q))⟩,NL X G (dz Q) (by kernel_rfl) (by kernel_rfl)⟩
 ·cases e
end Lw
open PySem PySem.W PyProof.Rows
set_option maxRecDepth 100000 in
set_option maxHeartbeats 0 in
theorem PySem.Challenge.cw_creasecourt_k24_drawn_and_read_holds : PySem.Challenge.rw_creasecourt_k24_drawn_and_read.Holds := by
 w_on
 refine holds_law (by decide +kernel) fun said=>?_
 refine holds_open (q:=Lw.Vw) (loose:=[]) (Xt:=fun s=>xlAt Lw.Vw [] s&&recOk (ZQ (YM (Xn R6))) s) (XP:=XL Lw.Vw []) (Yf:=Hook.obs (a0O Lw.Kx Lw.As Lw.nQ)) (Ya:=Hook.val (a0O Lw.Kx Lw.As Lw.nQ)) (YP:=Hook.says (a0O Lw.Kx Lw.As Lw.nQ)) (N:=4668) Lw.run (Hook.of _) (Hook.keeps _) (fun s e=>xl_of s (TY.mp e).1) XL.keeps (by rfl) (by rfl) (by rfl) (fun s e=>recFacts_of (TY.mp e).2) (by rfl) (by first|assumption|decide +kernel) (by decide +kernel) ⟨rfl,rfl,rfl,rfl,rfl,by decide +kernel⟩ ?hw ?hc
 case hw=>w_witness2
 k_fill
 refine L3.walkM (l:=R6) (S:=Lw.S) (ds:=Lw.ds) (k:=5) (st:=Lw.aQ 42) (x:="_law_script") rfl rfl ⟨rfl,by decide,by decide⟩ (fun w h Y=>PySem.W.kIn_of Y) (by kernel_rfl) (by kernel_rfl) ?F (fun ns h _=>Lw.Qc ns h)
 case F=>
  intro w mg h KX G
  refine' Lw.Qd (P:=R8) (w:=w)  KX G
