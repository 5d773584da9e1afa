import PyProof.Rows.All
import Wide.All
import OpenK.AllK
import PySem.Challenge.RW_creasecourt_k53_marks_carried
open Option renaming some->b0,none->b3
open Bool renaming false->b4,true->b5
open Array renaming mk->W0,getElem?_toList->XO,length_toList->YK,getElem?_eq_some_iff->Z8,getElem?_eq_getElem->a0d,getElem_mem->a1i,replicate->a1H,getD->a1Z,eraseIdxIfInBounds->a2o,getElem?_eq_none->a2D,toList->a5a,map->a6e
open Bool renaming false_ne_true->Wj,and_eq_true->Wl,false_eq_true->WQ,and_eq_true_iff->YJ,or_eq_true->Zy,eq_iff_iff->ZW,or_false->a0Y,not_true->a0Z,not_eq_true'->a1m,not_false->a2f,and_false->a2g,false_and->a4K,true_and->a4X,false_or->a4Y,and_true->a4Z
open Classical renaming choose->Y5,choose_spec->ZC
open False renaming elim->Ys
open ForInStep renaming yield->Zi
open Int renaming toNat_natCast->Yh,emod_lt_of_pos->YV,zero_add->Zl,emod_nonneg->Zz,natCast_emod->a4E,natCast_add->a4I,mul_add->a5V
open List renaming length_map->V7,getElem?_eq_some_iff->Wa,getElem?_eq_getElem->Wi,length_append->Wo,prefix_refl->Wr,getElem?_map->Ws,getElem?_set_ne->Wu,size_toArray->Ww,mem_map->Wz,map_cons->WA,mem_singleton->WB,map_map->WC,map_append->WE,mem_append->WK,length_cons->WO,range->WR,mem_of_getElem?->WS,mem_cons_of_mem->WV,mem_cons->WW,getElem?_eq_none_iff->WZ,all_cons->W3,getElem?_append_left->W8,take_length->W9,length_take->Xa,zipWith_cons_cons->Xc,mem_cons_self->Xd,nodup_cons->Xi,mem_filter->Xj,getElem?_set_self->Xk,length->Xm,mem_range->Xn,find?_cons->Xr,getD->Xx,length_range->Xy,mem_append_right->XE,map_congr_left->XF,append_nil->XG,take_zero->XJ,set_cons_zero->XU,length_set->XW,getElem_mem->XY,cons_append->XZ,nil_append->X4,set_cons_succ->X5,getElem?_append_right->Ye,getD_eq_getElem?_getD->Yg,length_filter_le->Yk,not_mem_nil->Yl,replicate->Ym,append_assoc->Yr,filterMap_cons->Yu,find?_eq_none->Yx,length_replicate->Yz,getElem?_eq_none->YA,drop_eq_getElem_cons->YE,flatMap_append->YM,filter_eq_self->YN,take_succ->YQ,getElem?_replicate->YR,filter_cons->YS,filter_append->YT,take_append_drop->YY,mem_iff_getElem?->YZ,nodup_append->Y4,length_drop->Zg,all_eq_true->Zh,pairwise_iff_getElem->Zk,sum_cons->Zo,range_succ->Zs,length_nil->Zt,filter_map->Zu,take_of_length_le->ZK,lookup_cons->ZP,any_eq_true->ZQ,reverse_cons->a0g,idxOf_append->a0h,mem_flatMap->a0m,zipWith->a0r,range_succ_eq_map->a0s,set_append_right->a0y,length_singleton->a0z,range'->a0G,lookup->a0H,drop_zero->a0I,length_reverse->a0T,filter_sublist->a0U,eraseIdx_eq_take_drop_succ->a1s,of_mem_zip->a1K,length_zip->a1L,idxOf_lt_length_of_mem->a1W,map_take->a2u,idxOf_lt_length_iff->a2v,getElem?_take_of_lt->a2w,any_cons->a2x,length_eq_zero_iff->a2z,head_eq_of_cons_eq->a2A,filter_cons_of_pos->a2B,filter_cons_of_neg->a2C,not_of_lt_findIdx->a2G,map_nil->a2H,length_pos_of_mem->a2I,any_map->a2J,all_map->a2K,getElem?_zipWith->a2X,mem_append_left->a3g,length_take_le'->a3h,getElem?_of_mem->a3i,findIdx_getElem->a3j,length_flatMap->a3r,getElem_of_mem->a3s,getElem?_range->a3t,getD_cons_zero->a3u,zip_cons_cons->a3E,mem_filterMap->a3F,map_inj_left->a4e,flatMap_cons->a4f,find?_append->a4g,ext_getElem?->a4h,range'_succ->a4m,getElem_inj->a4n,forIn_cons->a4A,foldl_cons->a4B,filter_nil->a4C,map->a4G,map_id'->a5m,flatMap->a5n
open List.Nodup renaming length_le_of_subset->XS
open List.Pairwise renaming map->a0x,nil->a2d,imp->a5z
open List.cons renaming injEq->a3k
open Nat renaming le_refl->Wh,ne_of_lt->WD,lt_of_lt_of_le->WT,le_trans->W7,ne_of_gt->XR,lt_irrefl->X3,lt_succ_self->X7,zero_le->Yi,lt_of_succ_lt->Y6,mod_lt->Zc,le_succ->Zd,le_of_lt->Z5,not_lt->a0a,lt_succ_of_lt->a0i,mod_eq_of_lt->a0o,le_of_eq->a0w,lt_trichotomy->a1q,lt_trans->a1r,not_lt_zero->a1U,min_eq_left->a1V,zero_add->a2V,succ_mul->a2W,lt_of_le_of_lt->a4d,le_of_not_lt->a4z,mul_le_mul->a4W,sub_zero->a5y,log2_lt->a5U
open Ne renaming symm->Xh
open Option renaming bind_eq_some_iff->V6,map_eq_some_iff->Wb,bind_some->WH,map_some->WN,isSome_map->Z9,getD_none->a1l,isSome_iff_exists->a2c
open Option.some renaming inj->Wt
open Or renaming inr->a1k,inl->a2t
open Prod renaming ext->YO,ext_iff->a2F
open Prod.mk renaming inj->a0v,injEq->a4l
open PyProof.Rows renaming callWith_type1->Xw,seqObj->X6,IntsAre->Zw,callWith_builtin1->a0E,entry_list_sort->a0S,slot_list_sort->a1b,args_list_sort->a1g,AllBare->a1n,subscriptTail->a1v,listUpdate_at->a1w,gt_int->a1S,envOfC->a1T,seqEpoch_at->a2r,sortedHeap->a2O,Subscript_->a2T,subscriptTail_builtinR->a3M,boot_range->a4U,IsTup->a5o,list_sort_plain->a5E,get?_update_seq->a5G,wpAny_notIn_heap->a5I,mul_int->a5J,mirror_perm->a5K,lt_int->a5L,floordiv_int->a5M,entry_proto_collect'->a5N,entry_list_iadd'->a5O,call_len_slot->a5P,bubble_perm->a5Q,bubble->a5R,assign_Tuple_tuple->a5S,assign_Tuple->a5T,tail_any->a6i,Call_->a6q
open PyProof.Rows.Boot renaming tuple->ZG,list->ZM,sorted->a0u,dict->a0B,int->a0F,sum->a3S,str->a3T,reversed->a3U,min->a3V,max->a3W,len->a3X,isinstance->a3Y,bool->a3Z,all->a4a
open PySem renaming wpAny_bind->V9,Shared->Wf,wpAny_pure->Wg,sizeLine->Wq,sizeLine_eq->Wv,wpAny->WI,Program->WL,model->WM,starEach->WU,World->WX,Around->WY,wpAny_holding->Xb,Heap->Xo,compareOp->Xs,codeAny_builtin->Xu,wpAny_mono->Xz,wpAny_newObj_type->XA,sysModules->XB,plainId_quiet->XC,mem_of_lookup->XD,wpAny_truthy_bool->XH,mainGlobals->XI,cLine->XM,wpAny_updateSeq->XQ,Pos->XX,bootBuiltins->X0,Params->X2,wpAny_tryCatch->Yj,wpAny_call_entry->Yn,wpAny_Call_Name_kw->Yo,treeTable->Yp,assignEach->Yv,wpAny_letGo->YB,wpAny_seqItems->YF,backTo->YG,Scope->YH,FuncData->YI,NameKind->YL,sliceBounds->YW,wpAny_setField_rec->Y0,wpAny_pyIter_tuple->Y1,pyNext->Y2,intKind->Y3,wpAny_passesOwn->Y8,wpAny_ite_split->Y9,behindInMarks->Za,wpAny_dictEntries->Ze,foldedSetIterable->Zf,richCompare->Zm,codeAny->Zq,Keyword->Zv,binaryOp->ZE,attributeBase->ZF,CmpOp->ZH,wpAny_loadPart'->ZJ,tupleKind->ZN,compEnvC->ZR,wpAny_notOrdered_dict->ZU,updateSeq->ZX,swapsWith->ZY,seqItems?->ZZ,rawInt->Z0,Paired->Z3,OsState->Z4,IsRangeIter->Z6,wpAny_rule->a0k,wpAny_pyIter_list->a0p,wpAny_field->a0q,wpAny_isInstance->a0A,wpAny_isOneOf_itemiter->a0K,call_meetsIn->a0L,call_meets->a0M,wpAny_specialOf->a0O,wpAny_execs_nil->a0P,wpAny_dictEpoch->a0Q,letOwnedTupleGo->a0R,builtinLookup_eq_fast->a0V,Env->a1a,keywordEach->a1d,firstArgMember->a1e,atKey->a1f,Result->a1h,valueAt->a1j,wpAny_newList->a1u,IsItemIterOut->a1A,typeLookup->a1D,assign->a1F,wpAny_typeOf->a1N,slot_list_getitem->a1O,codeAny_mono->a1P,callerA->a1Q,BindsTo->a1Y,seqIndex?->a2h,pyIter->a2i,PassesOwn->a2m,wpAny_of_eq->a2p,subscripted->a2q,typeLookup_type->a2y,getItem->a2E,wpAny_setField->a2L,wpAny_newTuple->a2M,wpAny_load->a2N,dictSetDefault->a2Q,backToKw->a2R,Operator->a2U,Tok->a3a,evalArgs_none->a3b,wpAny_standAt->a3n,wpAny_getItem_list_slice->a3o,swappedStores->a3p,wpAny_pyNext_tuple_item->a3v,wpAny_callSpecial?_slot->a3w,wpAny_Call_method0_late->a3x,slicePick->a3y,bindL->a3A,bindC->a3B,wpAny_pyNext_tuple_end->a3G,wpAny_pyNext_range_end->a3H,wpAny_pyNext_list_item->a3I,wpAny_pyIter_rangeiter->a3J,wpAny_Call_method_late->a3K,wpAny_Assign_Subscript->a3L,seqIndex_neg->a3N,isTrue->a3Q,wpAny_pyNext_list_end->a4i,wpAny_isOneOf_keyiter->a4j,wpAny_pyIter_keyiter->a4q,storedH_new->a4r,setField->a4s,seqIndex_of->a4t,newTuple->a4u,lookup_relabel_local->a4v,bindArgs->a4w,SetTable->a4x,IntMulOk->a4D,GenState->a4F,wpAny_tupleItemsOf->a4L,wpAny_pyIter_range->a4M,wpAny_Name->a4N,sliceRange->a4O,getattributeRaised->a4P,entryOfKey->a4Q,closureFor->a4R,call_function_tree->a4S,builtinsNs->a4T,wpAny_pyIter_slot->a5b,wpAny_pyIter_enum->a5c,wpAny_assign_Name->a5d,storedH->a5e,relabel->a5f,call_sum_walkAnyS->a5h,wpAny_pyIter_zip->a5p,wpAny_execs_cons->a5q,lastMarks->a5s,cellsFrom->a5u,call->a5w,typeNameOfWhole->a5D,importedModules->a5F,Sem->a5H,wpAny_fieldsOf->a6f,wpAny_Compare1->a6g,typeOf->a6h,recursionLimit->a6j,newExc->a6k,isSubtype_stop->a6o,callType_codes->a6p
open PySem.Around renaming under_plainId->W4
open PySem.Builtin renaming sorted->a2Z
open PySem.Builtin.Builtins renaming bindParams->a0C
open PySem.Builtin.Dict renaming showsAll->Zx,updateFrom->a1t,pairItems->a1C,selfAndRest->a5Y,pendingCount->a5Z,noArgs->a6a,keyAndDefault->a6b,dictSlotNone->a6c,addKeywords->a6d
open PySem.Builtin.Dict_items renaming ownsTuple->Zp,ownedTupleIsFree->a0b,ownedTupleFields->a0c,pairFromOwner->a0j,newIterator->a4o,dictOf->a4p
open PySem.Builtin.Int renaming intBits->W2,intTooBig->ZA
open PySem.Builtin.List renaming listExtendWith->X1,listSameRef->Y7,listTooLong->ZV,listLengthHint->a0X,listItems->a1B,listUpdate->a5X
open PySem.Builtin.Range renaming rangeSize->Xl,small->a5C
open PySem.Builtin.Str renaming occurrences->XN
open PySem.Builtin.Tuple renaming tupleHashOf->a5A,tupleCompareSizes->a5B
open PySem.Calls renaming callWith_builtin->ZI,spliced_cons->Z7,spliced_nil->a0e,Name_function_global->a1X,call_function_entry->a2e,evalArgs_plain->a2Y
open PySem.Challenge renaming rw_creasecourt_k53_marks_carried->We,pw_creasecourt_k53_marks_carried->Xq
open PySem.Data renaming fields->Xf,dict->Zj,cell->a0n,seq->a3m,cls->a4J
open PySem.F renaming slot_dict_items->Zn,plainAttrs_dict->a0f,slot_dict_setdefault->a1p,slot_dict_getitem->a1I,args_dict_items_1->a1J,entry_dict_items->a1R,type_dict_items->a2a,slot_dict_get->a2s
open PySem.Heap renaming get?_push_of_some->Wc,lt_size->Wm,get?_push_size->Wn,get?_update_other->W6,get?_update_self->Xv,size_push->Yy,SameBut->YU,ExtBut->a0J
open PySem.Heap.DictOfH renaming new->a5W
open PySem.Heap.IsSliceOf renaming new->a1M
open PySem.Heap.IsTuple renaming push->a0N
open PySem.Heap.SameBut renaming update->YC,refl->a2n
open PySem.IsRange renaming new->a4H
open PySem.MeetsSeq renaming plain_remove_loop->YX,entry_remove_loop->a1z
open PySem.NameKind renaming free->Yt,cell->YD
open PySem.Obj renaming mapSeq->Xg,data_mapDictKeys->a3q,data_mapFields->a4c,mapFields->a5l
open PySem.Paired renaming length->a2b,snoc->a4V
open PySem.PassesOwn renaming never->a3f
open PySem.SeqAt renaming ne_of_list_tuple->Yd,EqAt->Zr
open PySem.Str renaming ofString->Yw
open PySem.Value renaming ref->Wx,type->WG,int->W5,none->XT,builtin->Yb,bool->Yc,str->a0l,isStrOf->a2k,isInt->a2S
open PySem.W renaming Frag->V8,behindTheImports->WJ,boot_drawn->Xp,keepIn->X8,fnOf->X9,kia_one->Yq,topFrame->ZD,boot_heap->ZO,nsIn->ZT,findIn->Z1,codeIn->a0t,mg_of->a0D,methodObj->a0W,piecesOf->a1c,segRun->a1E,boot_toks->a2j,cellsFrom_some->a2l,kat_cons->a2P,specialIn->a3c,kitx_list->a3d,kitx_dict->a3e,kas_tail3->a3z,instObj->a3C,OpenLaw->a3D,kas_rev->a3O,kas_descPart->a3P,kitOne->a3R,WalkO->a4k,isFn->a4y,kat_yes->a5g,piece_app->a5r,kas_place->a5t,kas_sort->a6l,kas_desc->a6m,kHook->a6n
open PySem.W.KasT renaming ret->a3l
open PySem.W.OpenLaw renaming row->Xe
open PySem.W.OpenRow renaming toRowW->a4b
open PySem.W.RowW renaming records->a5k
open PySem.W.WData renaming int->ZS,weightAll->Z2,layable->a1y,weight->a1G,layableAll->a5x
open PySem.W.WShape renaming has->a5j
open PySem.Walks renaming tuple->a1x,range->a5i,list->a5v
open Sum renaming inr->ZL,inl->a1o
open True renaming intro->Zb
set_option compiler.extract_closed false
set_option bootstrap.genMatcherCode false
set_option genSizeOf false
set_option genSizeOfSpec false
set_option Elab.async false
set_option linter.all false
set_option maxRecDepth 100000
set_option linter.all false
abbrev gw:=List PySem.Value
abbrev jw:=List (PySem.Addr×PySem.Obj)
abbrev jq:=List (Int×Int)
namespace L2
open PySem PySem.Spec PyProof.Rows
noncomputable abbrev bG:=Sum Int Str
noncomputable def kI:bG->Value->Bool
 |.inl k,v=>a2S k v|.inr x,v=>a2k x v
noncomputable def Bi(w:WX):bG->Int
 |.inl k=>hashInt k|.inr x=>hashStr w x
theorem kJ:∀{k:bG}{v:Value},kI k v=b5->(∃i t,k=a1o i/\v=W5 i t)\/(∃x t,k=ZL x/\v=a0l x t)
 |.inl i,v,h=>by obtain⟨t,e⟩:=Value.isInt_shape (k:=i) (v:=v) h;exact .inl ⟨i,t,rfl,e⟩
 |.inr x,v,h=>by obtain⟨t,e⟩:=Value.isStrOf_shape (x:=x) (v:=v) h;exact .inr ⟨x,t,rfl,e⟩
theorem Hh(i:Int)(t:a3a):kI (.inl i) (.int i t)=true:=by simp[kI,a2S]
theorem Hi(x:Str)(t:a3a):kI (.inr x) (.str x t)=true:=by simp[kI,a2k]
theorem Hj(a b:Int):decide ((a1o a:bG)=a1o b)=(a==b):=by
 by_cases e:a=b
 .subst e;simp
 .have h:¬ (a1o a:bG)=a1o b:=λq=>e (Sum.inl.inj q);rw[decide_eq_false h];exact(beq_eq_false_iff_ne.mpr e).symm
theorem Hk(a b:Str):decide ((ZL a:bG)=ZL b)=decide (a=b):=by
 by_cases e:a=b
 .subst e;simp
 .have h:¬ (ZL a:bG)=ZL b:=λq=>e (Sum.inr.inj q);rw[decide_eq_false h,decide_eq_false e]
theorem Hl(a:Int)(b:Str):decide ((a1o a:bG)=ZL b)=false:=decide_eq_false (λq=>nomatch q)
theorem Hn(a:Str)(b:Int):decide ((ZL a:bG)=a1o b)=false:=decide_eq_false (λq=>nomatch q)
noncomputable def f9(prog:WL)(w:WX):PySem.KeyKind prog w bG where
 is:=kI
 hash:=Bi w
 inj:=λv a b g d=>by
  rcases kJ g with⟨i,t,rfl,rfl⟩|⟨x,t,rfl,rfl⟩
  .rcases kJ d with⟨j,u,rfl,e⟩|⟨y,u,rfl,e⟩
   .injection e with e1 _;rw[e1]
   .exact nomatch e
  .rcases kJ d with⟨j,u,rfl,e⟩|⟨y,u,rfl,e⟩
   .exact nomatch e
   .injection e with e1 _;rw[e1]
 byValue:=λk v h=>by rcases kJ h with⟨i,t,rfl,rfl⟩|⟨x,t,rfl,rfl⟩<;>rfl
 pyHash:=λc h=>by
  rcases kJ c with⟨i,t,rfl,rfl⟩|⟨x,t,rfl,rfl⟩
  .exact wpAny_pyHash_int h
  .exact wpAny_pyHash_str h
 eqBool:=λl c h=>by
  rcases kJ l with⟨i,t,rfl,rfl⟩|⟨x,t,rfl,rfl⟩
  .rcases kJ c with⟨j,u,rfl,rfl⟩|⟨y,u,rfl,rfl⟩
   .rw[Hj]at h;exact wpAny_eqBool_int h
   .rw[Hl]at h;exact SeqAt.EqAt.int_str i t y u _ _ _ _ h
  .rcases kJ c with⟨j,u,rfl,rfl⟩|⟨y,u,rfl,rfl⟩
   .rw[Hn]at h;exact SeqAt.EqAt.str_int x t j u _ _ _ _ h
   .rw[Hk]at h;exact wpAny_eqBool_str h
 «strs»:=λk x t v h=>by
  rcases kJ h with⟨i,u,rfl,e⟩|⟨y,u,rfl,e⟩
  .exact nomatch e
  .injection e with e1 _;subst e1;cases v<;>rfl
theorem Ho(prog:WL)(w:WX)(i:Int)(t:a3a):(f9 prog w).is (.inl i) (.int i t)=true:=Hh i t
theorem Hq(prog:WL)(w:WX)(x:Str)(t:a3a):(f9 prog w).is (.inr x) (.str x t)=true:=Hi x t
inductive V where
 |non|bl (b:Bool)|int (i:Int)|str (x:Str)|byt (b:Array UInt8)|flt (b:UInt64)|ref (a:Addr)|ty (n:String)
 deriving DecidableEq
abbrev gz:=List V
noncomputable def RelV:V->Value->Prop
 |.non,u=>u=XT|.bl b,u=>u=Yc b|.int i,u=>∃t,u=W5 i t|.str x,u=>∃t,u=a0l x t|.byt b,u=>∃t,u=Value.bytes b t|.flt b,u=>∃t,u=Value.float b t|.ref a,u=>u=Wx a|.ty n,u=>u=WG n
noncomputable abbrev Vals:gz->gw->Prop:=Z3 RelV
theorem Vals.length{xs:gz}{us:gw}(r:Vals xs us):xs.length=us.length:=a2b r
theorem Vals.get:∀{xs:gz}{us:gw}{i:Nat}{x:V},Vals xs us->xs[i]?=b0 x->∃u,us[i]?=b0 u/\RelV x u
 |_,_,_,_,.nil,e=>by simp at e
 |_,_,0,_,.cons r _,e=>by simp at e;subst e;exact⟨_,rfl,r⟩
 |_,_,i+1,x,.cons _ t,e=>by obtain⟨u,a,b⟩:=Vals.get (i:=i) (x:=x) t (by simpa using e);exact⟨u,by simpa using a,b⟩
theorem Vals.set{x:V}{u:Value}(r:RelV x u):∀{xs:gz}{us:gw}(i:Nat),Vals xs us->Vals (xs.set i x) (us.set i u)
 |_,_,_,.nil=>.nil|_,_,0,.cons _ t=>.cons r t|_,_,i+1,.cons q t=>.cons q (Vals.set r i t)
theorem Vals.append:∀{xs a:gz}{us ws:gw},Vals xs us->Vals a ws->Vals (xs++a) (us++ws)
 |_,_,_,_,.nil,s=>s|_,_,_,_,.cons r t,s=>.cons r (Vals.append t s)
theorem Vals.take:∀{xs:gz}{us:gw}(n:Nat),Vals xs us->Vals (xs.take n) (us.take n)
 |_,_,0,_=>.nil|_,_,_+1,.nil=>.nil|_,_,n+1,.cons r t=>.cons r (Vals.take n t)
theorem Vals.drop:∀{xs:gz}{us:gw}(n:Nat),Vals xs us->Vals (xs.drop n) (us.drop n)
 |_,_,0,r=>r|_,_,_+1,.nil=>.nil|_,_,n+1,.cons _ t=>Vals.drop n t
theorem Vals.none_of:∀{xs:gz}{us:gw}{i:Nat},Vals xs us->xs[i]?=b3->us[i]?=none:=λ{xs us i} r e=>by have a:=r.length;have b:xs.length<=i:=WZ.mp e;exact WZ.mpr (by lia)
noncomputable def RelO:Option V->Option Value->Prop
 |some v,b0 u=>RelV v u|none,b3=>True|_,_=>False
noncomputable def KV{κ:Type}:List (κ×V)->List (κ×Value)->Prop:=Z3 λ(p:κ×V)(q:κ×Value)=>p.1=q.1/\RelV p.2 q.2
noncomputable def kV:bG->V
 |.inl i=>.int i|.inr x=>.str x
inductive HO where
 |lst (xs:gz)
 |tup (xs:gz)
 |dK (kvs:List (bG×V))|dT (kvs:List (List bG×V))
 |set (S:Int->Bool)(n:Nat)
 |ins (C dx:Addr)(fs:List (Str×V))
 |own (x:Addr)
 |xd (fs:List (Str×V))
 |met (f x:Addr)
 |rng (lo hi:Int)
 |frz (o:Obj)(u:HO)
 |tbl (ps:Array Value)
 |ext (φ:Xo->Prop)
noncomputable abbrev Hp:=Addr->Option HO
noncomputable def aK(H:Hp)(a:Addr)(o:HO):Hp:=λb=>if b=a then b0 o else H b
theorem cP{H:Hp}{a:Addr}{o:HO}:aK H a o a=b0 o:=by unfold aK;rw[if_pos rfl]
theorem bJ{H:Hp}{a b:Addr}{o:HO}(h:b≠a):aK H a o b=H b:=by unfold aK;rw[if_neg h]
theorem iD{H:Hp}{a b:Addr}{o:HO}(h:H a=b0 o)(h':H b=b3):a≠b:=by intro e;subst e;rw[h]at h';cases h'
section
variable(P:WL)(w:WX)
noncomputable def TupN(h:Xo)(a:Addr)(xs:Array Value):Prop:=∃o,h.get? a=b0 o/\o.cls=.type "tuple"/\∃n,o.data=.seq xs n/\o.dict=b3
theorem TupN.tup{h:Xo}{a:Addr}{xs:Array Value}(x:TupN h a xs):a5o h a xs:=let⟨o,e,c,n,d,_⟩:=x;⟨o,e,c,n,d⟩
theorem TupN.new(h:Xo)(items:Array Value):TupN (h.push {cls:=.type "tuple",data:=.seq items}) h.objs.size items:=⟨_,Wn _ rfl,rfl,_,rfl,rfl⟩
noncomputable def ObjOk(H:Hp)(h:Xo)(a:Addr):HO->Prop
 |.lst b=>b.length<=Wq/\∃(its:gw)(n:Nat),Vals b its/\h.get? a=b0 {cls:=.type "list",data:=.seq its.toArray n}|.tup b=>b.length<=Wq/\∃its:gw,Vals b its/\TupN h a its.toArray|.dK kvs=>kvs.length<=Wq/\(a==XB)=b4/\∃i,KV kvs i/\h.DictOf (f9 P w) a i|.dT kvs=>kvs.length<=Wq/\(a==XB)=b4/\∃b:List (List bG×Addr×Value),
   Z3 (λ(p:List bG×V)(q:List bG×Addr×Value)=>p.1=q.1/\H q.2.1=b0 (.tup (p.1.map kV))/\RelV p.2 q.2.2) kvs b /\
   ∃o d j,h.get? a=b0 o/\o.ExactDict/\o.data=.dict d j/\d.toList=b.map (a4Q (ZN (f9 P w)))/\(b.map (·.1)).Nodup
 |.set S n=>h.SetOf (Y3 P w) a S n|.ins C dx fs=>H dx=b0 (.own a)/\fs.length<=1000/\dx≠a/\h.get? a=b0 (a3C C dx) /\
   ∃c,h.Ns1 dx c/\(∀f,RelO (fs.lookup f) (c f))/\PySem.Within c (fs.map (·.1))
 |.own _=>∃o,h.get? a=b0 o|.xd fs=>∃c,h.Ns1 a c/\∀f,RelO (fs.lookup f) (c f)|.rng lo hi=>∃t u v,h.get? a=b0 {cls:=.type "range",data:=.fields #[.int lo t,.int hi u,.int 1 v]}|.frz o u=>h.get? a=b0 o/\ObjOk H h a u|.tbl ps=>h.get? a=b0 {cls:=.none,data:=.fields ps}|.met f x=>h.get? a=b0 (a0W (.ref f) (.ref x))|.ext φ=>φ h/\(∃o,h.get? a=b0 o)/\∀e g:Xo,φ e->(∀o,e.get? a=b0 o->g.get? a=b0 o)->φ g
noncomputable def HOk(H:Hp)(h:Xo):Prop:=∀a o,H a=b0 o->ObjOk P w H h a o
end
section
variable{P:WL}{w:WX}{H H':Hp}{h h':Xo}{a:Addr}{o:HO}
theorem ObjOk.lt(x:ObjOk P w H h a o):a<h.objs.size:=by
 cases o with
 |lst c=>obtain⟨_,_,_,_,e⟩:=x;exact Wm e|tup c=>obtain⟨_,_,_,p⟩:=x;exact p.tup.lt|dK b=>obtain⟨_,_,_,_,o,_,_,e,_⟩:=x;exact Wm e|dT b=>obtain⟨_,_,_,_,o,_,_,e,_⟩:=x;exact Wm e|set S n=>obtain⟨o,_,_,_,e,_⟩:=x;exact Wm e|ins C d fs=>obtain⟨_,_,_,e,_⟩:=x;exact Wm e|own y=>obtain⟨_,e⟩:=x;exact Wm e|xd fs=>obtain⟨_,⟨_,_,_,e,_⟩,_⟩:=x;exact Wm e|rng i g=>obtain⟨_,_,_,e⟩:=x;exact Wm e|frz j u=>obtain⟨e,_⟩:=x;exact Wm e|tbl k=>exact Wm (show h.get? a=b0 _ from x)|met f y=>exact Wm (show h.get? a=b0 _ from x)|ext l=>obtain⟨_,⟨_,e⟩,_⟩:=x;exact Wm e
theorem Z3.mapP{e g:Type}{F G:e->g->Prop}:∀{c:List e}{d:List g},Z3 F c d->(∀a b,F a b->G a b)->Z3 G c d
 |_,_,.nil,_=>.nil|_,_,.cons r t,f=>.cons (f _ _ r) (Z3.mapP t f)
theorem ObjOk.stay(x:ObjOk P w H h a o)(k:∀b u,(b=a\/H b=b0 (.own a))->h.get? b=b0 u->h'.get? b=b0 u)
  (J:∀b,H b=b0 (.own a)->H' b=b0 (.own a))(K:∀b s,H b=b0 (.tup s)->H' b=b0 (.tup s)):ObjOk P w H' h' a o:=by
 induction o with
 |lst s=>obtain⟨z,l,n,r,e⟩:=x;exact⟨z,l,n,r,k _ _ (.inl rfl) e⟩|tup s=>obtain⟨z,l,r,g,e,c⟩:=x;exact⟨z,l,r,g,k _ _ (.inl rfl) e,c⟩|dK A=>obtain⟨z,y,M,r,g,j,i,e,c⟩:=x;exact⟨z,y,M,r,g,j,i,k _ _ (.inl rfl) e,c⟩|dT A=>obtain⟨z,y,s,r,g,j,i,e,c⟩:=x;exact⟨z,y,s,Z3.mapP r λp q z=>⟨z.1,K _ _ z.2.1,z.2.2⟩,g,j,i,k _ _ (.inl rfl) e,c⟩|set S n=>obtain⟨g,j,i,t,e,c⟩:=x;exact⟨g,j,i,t,k _ _ (.inl rfl) e,c⟩|ins C N fs=>obtain⟨d,z,ne,e,B,⟨E,j,i,I,c⟩,r⟩:=x;exact⟨J _ d,z,ne,k _ _ (.inl rfl) e,B,⟨E,j,i,k _ _ (.inr d) I,c⟩,r⟩|own y=>obtain⟨g,e⟩:=x;exact⟨g,k _ _ (.inl rfl) e⟩|xd fs=>obtain⟨B,⟨E,j,i,e,c⟩,r⟩:=x;exact⟨B,⟨E,j,i,k _ _ (.inl rfl) e,c⟩,r⟩|rng Q O=>obtain⟨t,u,v,e⟩:=x;exact⟨t,u,v,k _ _ (.inl rfl) e⟩|frz g u L=>obtain⟨e,q⟩:=x;exact⟨k _ _ (.inl rfl) e,L q⟩|tbl G=>have e:h.get? a=b0 {cls:=.none,data:=.fields G}:=x;show h'.get? a=b0 {cls:=.none,data:=.fields G};exact k a _ (.inl rfl) e|met f y=>have e:h.get? a=b0 (a0W (.ref f) (.ref y)):=x;show h'.get? a=b0 (a0W (.ref f) (.ref y));exact k a _ (.inl rfl) e|ext R=>obtain⟨p,⟨o,e⟩,st⟩:=x;exact⟨st _ _ p λo q=>k _ _ (.inl rfl) q,⟨o,k _ _ (.inl rfl) e⟩,st⟩
theorem HOk.lt(x:HOk P w H h)(e:H a=b0 o):a<h.objs.size:=(x a o e).lt
theorem HOk.fresh(x:HOk P w H h)(e:h.objs.size<=a):H a=none:=by
 cases q:H a with
 |none=>rfl|some u=>exact absurd (WT (x.lt q) e) (X3 _)
theorem HOk.kept(x:HOk P w H h)(k:∀b u,h.get? b=b0 u->h'.get? b=b0 u):HOk P w H h':=λa o e=>(x a o e).stay (λb u _ q=>k b u q) (λ_ q=>q) λ_ _ q=>q
theorem HOk.laid(x:HOk P w H h)(k:∀b u,h.get? b=b0 u->h'.get? b=b0 u)(i:h.objs.size<=a)(new:ObjOk P w (aK H a o) h' a o):HOk P w (aK H a o) h':=λb u e=>by
 have g:=x.fresh i;by_cases d:b=a
 .subst d;rw[cP]at e;cases e;exact new
 .rw[bJ d]at e;exact(x b u e).stay (λc v _ q=>k c v q) (λc q=>by rw[bJ (iD q g)];exact q) λc j q=>by rw[bJ (iD q g)];exact q
end
noncomputable def Rd(H:Hp)(a:Addr)(u:HO):Prop:=H a=b0 u\/∃o,H a=b0 (.frz o u)
theorem Rd.of{H:Hp}{a:Addr}{u:HO}(h:H a=b0 u):Rd H a u:=.inl h
theorem Rd.ok{P:WL}{w:WX}{H:Hp}{h:Xo}{a:Addr}{u:HO}(r:Rd H a u)(x:HOk P w H h):ObjOk P w H h a u:=by
 rcases r with r|⟨o,r⟩
 .exact x a u r
 .obtain⟨_,q⟩:=x a _ r;exact q
noncomputable def pK:Option HO->Prop
 |some (.lst _)=>True|some (.dK _)=>True|some (.dT _)=>True|some (.set _ _)=>True|some (.ins _ _ _)=>True|some (.ext _)=>True|_=>False
section
variable{P:WL}{w:WX}{H:Hp}{h h':Xo}{x e:Addr}{o':HO}
theorem HOk.write(ok:HOk P w H h)(j:pK (H x))(o:e=x\/H e=b0 (.own x))(k:∀b u,b≠e->h.get? b=b0 u->h'.get? b=b0 u)(n:∃u,h'.get? e=b0 u)
  (new:ObjOk P w (aK H x o') h' x o'):HOk P w (aK H x o') h':=λb u q=>by
 have d:∀c y,H c=b0 (.own y)->c≠x:=λc y r z=>by subst z;rw[r]at j;exact j
 have g:∀c l,H c=b0 (.tup l)->c≠x:=λc l r z=>by subst z;rw[r]at j;exact j
 by_cases i:b=x
 .subst i;rw[cP]at q;cases q;exact new
 .rw[bJ i]at q;by_cases a:b=e
  .have p:H b=b0 (.own x):=by
    rcases o with z|z
    .exact absurd (a.trans z) i
    .rw[a];exact z
   rw[q]at p;cases p;obtain⟨v,s⟩:=n;exact⟨v,by rw[a];exact s⟩
  .refine(ok b u q).stay (λc v hc r=>k c v ?_ r) (λc r=>by rw[bJ (d c b r)];exact r) λc l r=>by rw[bJ (g c l r)];exact r
   rcases hc with rfl|hc
   .exact a
   .rintro rfl;rcases o with z|z
    .exact d c b hc z
    .rw[hc]at z;cases z;exact i rfl
end
structure Un(fs ex:List Addr)(H H':Hp)(h h':Xo):Prop where
 keep:∀b o,h.get? b=b0 o->H b=b3->b∉fs->b∉ex->h'.get? b=b0 o
 slot:∀b o,h.get? b=b0 o->H b=b3->b∈fs->b∉ex->∃sl,h'.get? b=b0 {o with slots:=sl}
 free:∀b o,h.get? b=b0 o->H b=b3->b∉ex->H' b=b3
 there:∀b o,h.get? b=b0 o->b∉ex->∃o',h'.get? b=b0 o'
 tups:∀b xs,H b=b0 (.tup xs)->H' b=b0 (.tup xs)
 frzs:∀b o u,H b=b0 (.frz o u)->H' b=b0 (.frz o u)
 tbls:∀b ps,H b=b0 (.tbl ps)->∃more,H' b=b0 (.tbl (ps++more))
section
variable{fs fs' ex ex':List Addr}{H H1 H2:Hp}{h h1 h2 h':Xo}{a x e:Addr}{o:HO}
theorem Un.any(u:Un fs ex H H1 h h1){b:Addr}{c:Obj}(q:h.get? b=b0 c)(n:H b=b3)(g:b∉ex):∃i,h1.get? b=b0 {c with slots:=i}:=by
 by_cases d:b∈fs
 .exact u.slot b c q n d g
 .exact⟨c.slots,u.keep b c q n d g⟩
theorem Un.kept(k:∀b u,h.get? b=b0 u->h'.get? b=b0 u):Un fs ex H H h h':=
 ⟨λb c q _ _ _=>k b c q,λb c q _ _ _=>⟨c.slots,k b c q⟩,λ_ _ _ n _=>n,λb c q _=>⟨c,k b c q⟩,λ_ _ q=>q,λ_ _ _ q=>q,λ_ d q=>⟨#[],by rw[q];simp⟩⟩
theorem Un.refl:Un fs ex H H h h:=Un.kept λ_ _ q=>q
theorem Un.laid(k:∀b u,h.get? b=b0 u->h'.get? b=b0 u)(d:h.objs.size<=a)(c:H a=b3):Un fs ex H (aK H a o) h h' where
 keep:=λb u q _ _ _=>k b u q
 slot:=λb u q _ _ _=>⟨u.slots,k b u q⟩
 free:=λb u q n _=>by rw[bJ (WD (WT (Wm q) d))];exact n
 there:=λb u q _=>⟨u,k b u q⟩
 tups:=λb g q=>by rw[bJ (iD q c)];exact q
 frzs:=λb u g q=>by rw[bJ (iD q c)];exact q
 tbls:=λb i q=>⟨#[],by rw[bJ (iD q c),q];simp⟩
theorem Un.write(d:pK (H x))(p:e=x\/H e=b0 (.own x))(k:∀b u,b≠e->h.get? b=b0 u->h'.get? b=b0 u)(g:∃u,h'.get? e=b0 u):Un fs ex H (aK H x o) h h':=by
 have l:∀b,H b=b3->b≠x:=λb n z=>by subst z;rw[n]at d;exact d
 have j:∀b,H b=b3->b≠e:=λb n z=>by
  subst z;rcases p with r|r
  .exact l b n r
  .rw[n]at r;cases r
 have i:∀b u,H b=b0 u->¬ pK (b0 u)->b≠x:=λb u q s z=>by subst z;rw[q]at d;exact s d
 refine⟨λb u q n _ _=>k b u (j b n) q,λb u q n _ _=>⟨u.slots,k b u (j b n) q⟩,λb u q n _=>by rw[bJ (l b n)];exact n,λb u q _=>?_,
  λb v q=>by rw[bJ (i b _ q λz=>z)];exact q,λb u v q=>by rw[bJ (i b _ q λz=>z)];exact q,λb w q=>⟨#[],by rw[bJ (i b _ q λz=>z),q];simp⟩⟩
 by_cases c:b=e
 .subst c;exact g
 .exact⟨u,k b u c q⟩
end
noncomputable def sE(h:Xo)(H:Hp):List Addr:=(WR h.objs.size).filter λa=>(H a).isSome
noncomputable def kK(h:Xo)(H:Hp):Xo:=PySem.W.hideAll h (sE h H)
theorem Hr(h:Xo)(H:Hp):(kK h H).objs.size=h.objs.size:=PySem.W.hideAll_size _ _
theorem Hs{h:Xo}{H:Hp}{b:Addr}{o:Obj}(e:h.get? b=b0 o)(n:H b=b3):(kK h H).get? b=b0 o:=
 PySem.W.hideAll_get _ e λa=>by have q:(H b).isSome=true:=(Xj.mp a).2;rw[n]at q;simp at q
theorem Ht{h:Xo}{H:Hp}{b:Addr}{o:Obj}(e:(kK h H).get? b=b0 o):h.get? b=b0 o/\H b=none:=by
 have a:h.get? b=b0 o:=PySem.W.of_hideAll (sE h H) e;refine⟨a,?_⟩;cases q:H b with
 |none=>rfl|some x=>have c:b∈sE h H:=Xj.mpr ⟨Xn.mpr (Wm a),by simp[q]⟩;have z:(kK h H).get? b=none:=PySem.W.hideAll_none (sE h H) c;rw[z]at e;cases e
noncomputable def Hu(g h:Xo)(L:Addr):jw:=(WR h.objs.size).filterMap λa=>if a=L\/(g.get? a).isSome=b5 then b3 else(h.get? a).map λo=>(a,o)
noncomputable def bZ(g h:Xo)(L d:Addr):jw:=(Hu g h L).filter λp=>decide (p.1≠d)
structure Mod(K:V8)(mg:Str->Option Value)(base:Xo):Prop where
 kin:K.In base
 glob:base.Ns XI mg
 blt:∃mb,base.Ns a4T mb/\∀x:Str,x ≠ "__name__"->mb x=X0 x
 nolimit:base.NoLimit
structure Cx where
 prog:WL
 w:WX
 K:V8
 mg:Str->Option Value
 base:Xo
 A:WY
 N:List Str
 s₀:Wf
 H₀:Hp
 env:a1a
 outer:List a1a
 stack:List a1a
 ex:List Addr
 fn:Str->Bool
 calm:Bool
 pn:jw
 xe:Value->Wf->Prop
noncomputable def iE(l:List a1a):List Addr:=l.filterMap (·.frame)
noncomputable abbrev Cx.fs(X:Cx):List Addr:=iE X.outer
noncomputable def mR(sc:YH)(x:Str):Prop:=sc.names.lookup x=b0 .local\/sc.names.lookup x=b0 .cell\/sc.names.lookup x=b0 .free
noncomputable def Loc(sc:YH)(x:Str):Prop:=sc.names.lookup x=b0 .local\/sc.names.lookup x=b0 .cell
noncomputable def Hv(env:a1a)(h:Xo)(m:Str->Option Value)(x:Str)(u:Value):Prop:=
 (env.kindOf x=b0 .local/\m x=b0 u)\/((env.kindOf x=b0 .cell\/env.kindOf x=b0 .free)/\∃c,env.cells.lookup x=b0 c/\h.IsCell c (b0 u))
structure Cx.Ok(X:Cx):Prop where
 mod:Mod X.K X.mg X.base
 kind:X.env.scope.kind=.function
 glob:X.env.globals=XI
 blt:X.env.builtins=a4T
 above:X.s₀.heap.objs.size<=X.env.locals
 inj:∀x y c,X.env.cells.lookup x=b0 c->X.env.cells.lookup y=b0 c->x=y
 has:∀x,(X.env.kindOf x=b0 .cell\/X.env.kindOf x=b0 .free)->∃c,X.env.cells.lookup x=b0 c
 cab:∀x c,X.fn x=b5->X.env.cells.lookup x=b0 c->X.s₀.heap.objs.size<=c
 hd:X.calm=b5->X.A.handled=b3
 frames:X.A.frames=b0 X.stack
 stk:X.stack=X.outer\/(X.stack=X.env::X.outer/\X.env.frame=b0 X.env.locals)
 exf:∀b∈X.ex,b≠X.env.locals/\∀x c,X.env.cells.lookup x=b0 c->c≠b
 bs:∀b o,X.base.get? b=b0 o->X.s₀.heap.get? b=b0 o/\X.H₀ b=b3
 bsz:X.base.objs.size<=X.s₀.heap.objs.size
 noex:∀b o,X.base.get? b=b0 o->b∉X.ex
 exfs:∀b∈X.ex,b∉X.fs
 funs:X.s₀.heap.FunFrames X.base X.outer
 frf:∀b∈X.fs,X.H₀ b=b3
structure Inv(X:Cx)(a6r:jw)(σ:List (Option V))(H:Hp)(s:Wf):Prop where
 ok:X.Ok
 os:s.os=X.s₀.os
 bare:a1n s.gens
 base:Un X.fs X.ex X.H₀ H X.s₀.heap s.heap
 loc:∃m,s.heap.Ns X.env.locals m/\∀(i:Nat)(x:Str)(v:V),X.N[i]?=b0 x->σ[i]?=b0 (b0 v)->mR X.env.scope x->∃u,RelV v u/\Hv X.env s.heap m x u
 cell:∀x c,X.env.cells.lookup x=b0 c->∃v,s.heap.IsCell c v
 free:H X.env.locals=b3
 freeC:∀x c,X.env.cells.lookup x=b0 c->H c=b3
 pin:∀p∈X.pn++a6r,s.heap.get? p.1=b0 p.2/\H p.1=b3/\p.1≠X.env.locals/\p.1∉X.fs/\∀v,p.2.data≠.cell v
 hok:HOk X.prog X.w H s.heap
 len:σ.length=X.N.length
section
variable{X:Cx}{a6r:jw}{σ:List (Option V)}{H H':Hp}{s:Wf}{h':Xo}
theorem Cx.Ok.nofr(ok:X.Ok){b:Addr}{o:Obj}(e:X.base.get? b=b0 o):b∉X.fs:=λa=>by have:=(ok.funs.mem a).1;rw[e]at this;cases this
theorem Inv.bs(I:Inv X a6r σ H s):∀b o,X.base.get? b=b0 o->s.heap.get? b=b0 o/\H b=none:=λb o e=>⟨I.base.keep b o (I.ok.bs b o e).1 (I.ok.bs b o e).2 (I.ok.nofr e) (I.ok.noex b o e),I.base.free b o (I.ok.bs b o e).1 (I.ok.bs b o e).2 (I.ok.noex b o e)⟩
theorem Inv.bk(I:Inv X a6r σ H s):∀b o,X.base.get? b=b0 o->s.heap.get? b=b0 o:=λb o e=>(I.bs b o e).1
theorem Inv.mod(I:Inv X a6r σ H s):Mod X.K X.mg X.base:=I.ok.mod
theorem Inv.kIn(I:Inv X a6r σ H s):X.K.In s.heap:=I.ok.mod.kin.keeps I.bk
theorem Inv.lt(I:Inv X a6r σ H s):X.env.locals<s.heap.objs.size:=let⟨_,a,_⟩:=I.loc;a.lt
theorem Inv.sz(I:Inv X a6r σ H s):X.s₀.heap.objs.size<=s.heap.objs.size:=W7 I.ok.above (Z5 I.lt)
theorem Inv.nofs(I:Inv X a6r σ H s){a:Addr}(h:s.heap.objs.size<=a):a∉X.fs:=λb=>by obtain⟨_,o,c,_⟩:=I.ok.funs.mem b;exact absurd (WT (Wm c) (W7 I.sz h)) (X3 _)
theorem Inv.cne(I:Inv X a6r σ H s):∀x c,X.env.cells.lookup x=b0 c->c≠X.env.locals:=λx c e z=>by obtain⟨v,o,d,hd⟩:=I.cell x c e;obtain⟨m,⟨i,h,g,b,a,_⟩,_⟩:=I.loc;rw[z,b]at d;cases d;rw[a]at hd;cases hd
theorem Inv.funs(I:Inv X a6r σ H s):s.heap.FunFrames X.base X.outer:=by
 have all:∀(l:List a1a),(∀b∈iE l,b∈X.fs)->X.s₀.heap.FunFrames X.base l->s.heap.FunFrames X.base l:=by
  intro l;induction l with
  |nil=>intro _ _;trivial|cons h r q=>intro g j;obtain⟨i,⟨L,o,d,k,n,hd⟩,p⟩:=j;have a:L∈X.fs:=g L (by unfold iE;rw[Yu,d];exact Xd);obtain⟨u,e⟩:=I.base.slot L o n (I.ok.frf L a) a λz=>I.ok.exfs L z a;exact⟨i,⟨L,_,d,k,e,hd⟩,q (λb c=>g b (by unfold iE;rw[Yu,d];exact WV _ c)) p⟩
 exact all X.outer (λ_ c=>c) I.ok.funs
theorem Inv.stack(I:Inv X a6r σ H s):s.heap.FunFrames X.base X.stack:=by
 rcases I.ok.stk with e|⟨e,a⟩
 .rw[e];exact I.funs
 .rw[e];obtain⟨m,b,_⟩:=I.loc;refine .cons (by rw[I.ok.kind];decide) a b ?_ I.funs;exact Heap.get?_none_of_le (W7 I.ok.bsz I.ok.above)
theorem Inv.stkSub(I:Inv X a6r σ H s):∀b∈iE X.stack,b∈X.env.locals::X.fs:=λb a=>by
 rcases I.ok.stk with e|⟨e,c⟩
 .rw[e]at a;exact WV _ a
 .rw[e]at a;unfold iE at a;rw[Yu,c]at a;exact a
theorem Inv.stkFree(I:Inv X a6r σ H s):∀b∈iE X.stack,H b=none:=λb a=>by
 rcases WW.mp (I.stkSub b a)with e|a
 .rw[e];exact I.free
 .obtain⟨_,o,c,_⟩:=I.ok.funs.mem a;exact I.base.free b o c (I.ok.frf b a) λz=>I.ok.exfs b z a
theorem Inv.step{g':Array a4F}{t':Nat}{d':Drawn}{ch:List Addr}(I:Inv X a6r σ H s)
  (h:∀b∈ch,(b∈X.ex\/X.s₀.heap.objs.size<=b)/\b≠X.env.locals/\(∀x c,X.env.cells.lookup x=b0 c->c≠b)/\∀p∈X.pn++a6r,p.1≠b)
  (j:∀b o,b≠X.env.locals->b∉X.fs->b∉ch->s.heap.get? b=b0 o->H b=b3->h'.get? b=b0 o)
  (B:∀b o,b≠X.env.locals->b∈X.fs->b∉ch->s.heap.get? b=b0 o->H b=b3->∃Y,h'.get? b=b0 {o with slots:=Y})(free:∀b o,b∉ch->s.heap.get? b=b0 o->H b=b3->H' b=b3)
  (J:∀b o,b∉ch->s.heap.get? b=b0 o->∃O,h'.get? b=b0 O)
  (R:∀b E,H b=b0 (.tup E)->H' b=b0 (.tup E))(M:∀b o u,H b=b0 (.frz o u)->H' b=b0 (.frz o u))(Q:∀b T,H b=b0 (.tbl T)->∃more,H' b=b0 (.tbl (T++more)))
  (ns:∀m,s.heap.Ns X.env.locals m->h'.Ns X.env.locals m)(U:HOk X.prog X.w H' h')(hg:a1n g') :
  Inv X a6r σ H' {s with heap:=h',gens:=g',drawn:=d',toks:=t'}:=by
 have N:∀b o,X.s₀.heap.get? b=b0 o->b≠X.env.locals:=λb o e=>WD (WT (Wm e) I.ok.above);have A:∀b o,X.s₀.heap.get? b=b0 o->b∉X.ex->b∉ch:=λb o e a G=>by
  rcases(h b G).1 with z|z
  .exact a z
  .exact absurd (WT (Wm e) z) (X3 _)
 have g:∀x c,X.env.cells.lookup x=b0 c->∀v,s.heap.IsCell c v->h'.IsCell c v:=λx c e v ⟨o,K,hd⟩=>by
  have w:c∉ch:=λz=>(h c z).2.2.1 x c e rfl;by_cases hc:c∈X.fs
  .obtain⟨Y,q⟩:=B c o (I.cne x c e) hc w K (I.freeC x c e);exact⟨_,q,hd⟩
  .exact⟨o,j c o (I.cne x c e) hc w K (I.freeC x c e),hd⟩
 refine⟨I.ok,I.os,hg,⟨λb o e n G a=>?_,λb o e n G a=>?_,λb o e n a=>?_,λb o e a=>?_,λb E e=>R b E (I.base.tups b E e),λb o E e=>M b o E (I.base.frzs b o E e),λb T e=>?_⟩,?_,λx c e=>?_,?_,λx c e=>?_,λp hp=>?_,U,I.len⟩
 .exact j b o (N b o e) G (A b o e a) (I.base.keep b o e n G a) (I.base.free b o e n a)
 .obtain⟨Y,y⟩:=I.base.slot b o e n G a;obtain⟨Z,L⟩:=B b _ (N b o e) G (A b o e a) y (I.base.free b o e n a);exact⟨Z,L⟩
 .obtain⟨O,y⟩:=I.base.there b o e a;exact free b O (A b o e a) y (I.base.free b o e n a)
 .obtain⟨O,y⟩:=I.base.there b o e a;exact J b O (A b o e a) y
 .obtain⟨m1,y⟩:=I.base.tbls b T e;obtain⟨m2,L⟩:=Q b _ y;exact⟨m1++m2,by rw[L,Array.append_assoc]⟩
 .obtain⟨m,hn,hl⟩:=I.loc;refine⟨m,ns m hn,λi x v y L e3=>?_⟩;obtain⟨u,r,l⟩:=hl i x v y L e3;refine⟨u,r,?_⟩;rcases l with l|⟨k,c,e,z⟩
  .exact .inl l
  .exact .inr ⟨k,c,e,g x c e _ z⟩
 .obtain⟨v,z⟩:=I.cell x c e;exact⟨v,g x c e v z⟩
 .obtain⟨m,⟨o,_,_,K,_⟩,_⟩:=I.loc;exact free _ o (λz=>(h _ z).2.1 rfl) K I.free
 .obtain⟨v,o,K,hd⟩:=I.cell x c e;exact free c o (λz=>(h c z).2.2.1 x c e rfl) K (I.freeC x c e)
 .obtain⟨e,n,ne,nf,d⟩:=I.pin p hp;have w:p.1∉ch:=λz=>(h p.1 z).2.2.2 p hp rfl;exact⟨j p.1 p.2 ne nf w e n,free p.1 p.2 w e n,ne,nf,d⟩
theorem Inv.un{t':Nat}(I:Inv X a6r σ H s)(u:Un X.fs [] H H' s.heap h')(h:HOk X.prog X.w H' h'):Inv X a6r σ H' {s with heap:=h',toks:=t'}:=by
 obtain⟨m,⟨o,q,p,i,r⟩,_⟩:=id I.loc;obtain⟨x,j⟩:=u.any i I.free (by simp);exact I.step (g':=s.gens) (d':=s.drawn) (ch:=[]) (λ_ z=>nomatch z) (λb o _ g _ e n=>u.keep b o e n g (by simp)) (λb o _ g _ e n=>u.slot b o e n g (by simp)) (λb o _ e n=>u.free b o e n (by simp)) (λb o _ e=>u.there b o e (by simp)) u.tups u.frzs u.tbls (λv k=>by
  obtain⟨w,d,c,a,l⟩:=k;rw[i]at a;cases a;exact⟨_,d,c,j,l⟩) h I.bare
theorem Inv.call{g':Array a4F}{t':Nat}{d':Drawn}{ch:List Addr}(I:Inv X a6r σ H s)(u:Un (iE X.stack) ch H H' s.heap h')(j:HOk X.prog X.w H' h')(q:a1n g')
  (a:∀b∈ch,(b∈X.ex\/X.s₀.heap.objs.size<=b)/\b≠X.env.locals/\(∀x c,X.env.cells.lookup x=b0 c->c≠b)/\∀p∈X.pn++a6r,p.1≠b) :
  Inv X a6r σ H' {s with heap:=h',gens:=g',drawn:=d',toks:=t'}:=by
 obtain⟨m,⟨o,A,y,k,r⟩,_⟩:=id I.loc;obtain⟨G,i⟩:=u.any k I.free λz=>(a _ z).2.1 rfl;exact I.step (ch:=ch) a (λb o i l hc e n=>u.keep b o e n (λz=>(WW.mp (I.stkSub b z)).elim i l) hc) (λb o _ _ hc e n=>u.any e n hc) (λb o hc e n=>u.free b o e n hc) (λb o hc e=>u.there b o e hc) u.tups u.frzs u.tbls (λB v=>by
  obtain⟨E,h,g,d,w⟩:=v;rw[k]at d;cases d;exact⟨_,h,g,i,w⟩) j q
theorem Inv.turned{t':Nat}{a:Addr}(I:Inv X a6r σ H s)(k:∀b o,b≠a->s.heap.get? b=b0 o->h'.get? b=b0 o)(A:H a=b3)(g:a≠X.env.locals)
  (h1:a∈X.ex\/X.s₀.heap.objs.size<=a)(j:∀x c,X.env.cells.lookup x=b0 c->c≠a)(l:∀p∈X.pn++a6r,p.1≠a):Inv X a6r σ H {s with heap:=h',toks:=t'}:=by
 have d:∀b u,H b=b0 u->b≠a:=λb u e z=>by rw[z,A]at e;cases e
 refine I.step (g':=s.gens) (d':=s.drawn) (ch:=[a]) (λb w=>?_) (λb o _ _ hc e _=>k b o (λz=>hc (by simp[z])) e) (λb o _ _ hc e _=>⟨o.slots,k b o (λz=>hc (by simp[z])) e⟩) (λ_ _ _ _ n=>n)
  (λb o hc e=>⟨o,k b o (λz=>hc (by simp[z])) e⟩) (λ_ _ e=>e) (λ_ _ _ e=>e) (λb E e=>⟨#[],by rw[e];simp⟩) (λm y=>?_) (λb u e=>?_) I.bare
 .have e:b=a:=by simpa using w
  subst e;exact⟨h1,g,j,l⟩
 .obtain⟨o,i,h,B,r⟩:=y;exact⟨o,i,h,k _ o (Xh g) B,r⟩
 .refine(I.hok b u e).stay (λc v hc q=>k c v ?_ q) (λ_ q=>q) λ_ _ q=>q;rcases hc with z|z
  .rw[z];exact d b u e
  .exact d c _ z
theorem Inv.tok(I:Inv X a6r σ H s)(t:Nat):Inv X a6r σ H {s with toks:=t}:=I.un (h':=s.heap) (t':=t) Un.refl I.hok
theorem Inv.kept{t':Nat}(I:Inv X a6r σ H s)(k:∀b u,s.heap.get? b=b0 u->h'.get? b=b0 u):Inv X a6r σ H {s with heap:=h',toks:=t'}:=I.un (Un.kept k) (I.hok.kept k)
theorem Inv.laid{a:Addr}{o:HO}{t':Nat}(I:Inv X a6r σ H s)(k:∀b u,s.heap.get? b=b0 u->h'.get? b=b0 u)(c:s.heap.objs.size<=a)(new:ObjOk X.prog X.w (aK H a o) h' a o) :
  Inv X a6r σ (aK H a o) {s with heap:=h',toks:=t'}:=I.un (Un.laid k c (I.hok.fresh c)) (I.hok.laid k c new)
theorem Inv.write{x e:Addr}{o:HO}{t':Nat}(I:Inv X a6r σ H s)(d:pK (H x))(c:e=x\/H e=b0 (.own x))(k:∀b u,b≠e->s.heap.get? b=b0 u->h'.get? b=b0 u)(a:∃u,h'.get? e=b0 u)
  (new:ObjOk X.prog X.w (aK H x o) h' x o):Inv X a6r σ (aK H x o) {s with heap:=h',toks:=t'}:=I.un (Un.write d c k a) (I.hok.write d c k a new)
theorem Inv.pins_of{a:jw}(I:Inv X a6r σ H s)(h:∀p∈a,s.heap.get? p.1=b0 p.2/\H p.1=b3/\p.1≠X.env.locals/\p.1∉X.fs/\∀v,p.2.data≠.cell v):Inv X a σ H s:=
 ⟨I.ok,I.os,I.bare,I.base,I.loc,I.cell,I.free,I.freeC,λp b=>(WK.mp b).elim (λz=>I.pin p (a3g _ z)) (h p),I.hok,I.len⟩
theorem Bj{N:List Str}(e:N.Nodup){i j:Nat}{x:Str}(a:N[i]?=b0 x)(b:N[j]?=b0 x):i=j:=by obtain⟨g,c⟩:=Wa.mp a;obtain⟨h,d⟩:=Wa.mp b;exact(a4n e).mp (c.trans d.symm)
theorem Bk{M:Model}{A:WY}{E:Value->Wf->Prop}{i:Nat}{x:Str}{v:V}{u:Value}{Q:Unit->Wf->Prop}(I:Inv X a6r σ H s)(hN:X.N.Nodup)(Z:X.N[i]?=b0 x)(B:Loc X.env.scope x)(r:RelV v u)
  (h:∀s',Inv X a6r (σ.set i (b0 v)) H s'->(∃a,YU a s.heap s'.heap/\(a=X.env.locals\/X.env.cells.lookup x=b0 a))->Q () s')(hf:X.fn x=b5\/X.env.scope.names.lookup x=b0 .local:=by first|exact .inl rfl|exact .inr rfl|assumption):WI M A (storeName X.env x u) Q E s:=by
 obtain⟨m,hn,hl⟩:=id I.loc;have Y:(X.env.scope.kind==.class||(X.env.scope.kind==.module&&X.env.locals != X.env.globals))=false:=by rw[I.ok.kind];rfl
 have K:i<σ.length:=by rw[I.len];exact(Wa.mp Z).1
 have cne:=I.cne;have w:∀{a:Addr}{h':Xo},(∃o,s.heap.get? a=b0 o/\H a=b3)->YU a s.heap h'->HOk X.prog X.w H h':=λ{a h'} ha g b ob e=>by
  obtain⟨_,_,G⟩:=ha;refine(I.hok b ob e).stay (λc w' hc q=>(g.2 c ?_).trans q) (λ_ q=>q) λ_ _ q=>q;rintro rfl;rcases hc with rfl|hc
  .rw[G]at e;cases e
  .rw[G]at hc;cases hc
 rcases B with L|L
 .refine wpAny_storeName_local L hn (λh' hn' g=>?_) Y;obtain⟨oL,_,_,hoL,_⟩:=id hn;refine h _ ⟨I.ok,I.os,I.bare,⟨λb o e n N B=>?_,λb o e n N B=>?_,I.base.free,λb o e B=>?_,I.base.tups,I.base.frzs,I.base.tbls⟩,⟨_,hn',λj y v' l J e3=>?_⟩,λy c e=>?_,I.free,I.freeC,λp hp=>?_,w ⟨oL,hoL,I.free⟩ g,by simpa using I.len⟩ ⟨_,g,.inl rfl⟩
  .exact(g.2 b (WD (WT (Wm e) I.ok.above))).trans (I.base.keep b o e n N B)
  .obtain⟨sl,l⟩:=I.base.slot b o e n N B;exact⟨sl,(g.2 b (WD (WT (Wm e) I.ok.above))).trans l⟩
  .obtain⟨o',l⟩:=I.base.there b o e B;exact⟨o',(g.2 b (WD (WT (Wm e) I.ok.above))).trans l⟩
  .by_cases R:j=i
   .subst R;rw[Z]at l;cases l;rw[Xk K]at J;cases J;exact⟨u,r,.inl ⟨L,by simp⟩⟩
   .rw[Wu (Xh R)]at J;obtain⟨u',r',q⟩:=hl j y v' l J e3;refine⟨u',r',?_⟩;rcases q with⟨k,e⟩|⟨k,c,e,z⟩
    .refine .inl ⟨k,?_⟩;have:y≠x:=λe=>R (Bj hN l (e▸Z));simp[this,e]
    .exact .inr ⟨k,c,e,z.sameBut g (cne y c e)⟩
  .obtain⟨w',z⟩:=I.cell y c e;exact⟨w',z.sameBut g (cne y c e)⟩
  .obtain⟨e,n,ne,nf,d⟩:=I.pin p hp;exact⟨(g.2 p.1 ne).trans e,n,ne,nf,d⟩
 .have O:X.fn x=true:=by
   rcases hf with z|z
   .exact z
   .rw[z]at L;cases L
  obtain⟨c,hc⟩:=I.ok.has x (.inl L);obtain⟨w',z⟩:=I.cell x c hc;refine wpAny_storeName_cell I.ok.kind L hc z (λh' T g=>?_);obtain⟨oc,hoc,hocd⟩:=id z;refine h {s with heap:=h'} ⟨I.ok,I.os,I.bare,⟨λb o e n N B=>?_,λb o e n N B=>?_,I.base.free,λb o e B=>?_,I.base.tups,I.base.frzs,I.base.tbls⟩,⟨m,hn.sameBut g (Xh (cne x c hc)),λj y v' l J e3=>?_⟩,λy c' e=>?_,I.free,I.freeC,λp hp=>?_,w ⟨oc,hoc,I.freeC x c hc⟩ g,by simpa using I.len⟩ ⟨c,g,.inr hc⟩
  .exact(g.2 b (WD (WT (Wm e) (I.ok.cab x c O hc)))).trans (I.base.keep b o e n N B)
  .obtain⟨sl,l⟩:=I.base.slot b o e n N B;exact⟨sl,(g.2 b (WD (WT (Wm e) (I.ok.cab x c O hc)))).trans l⟩
  .obtain⟨o',l⟩:=I.base.there b o e B;exact⟨o',(g.2 b (WD (WT (Wm e) (I.ok.cab x c O hc)))).trans l⟩
  .by_cases R:j=i
   .subst R;rw[Z]at l;cases l;rw[Xk K]at J;cases J;exact⟨u,r,.inr ⟨.inl L,c,hc,T⟩⟩
   .rw[Wu (Xh R)]at J;obtain⟨u',r',q⟩:=hl j y v' l J e3;refine⟨u',r',?_⟩;rcases q with q|⟨k,c',e,z'⟩
    .exact .inl q
    .refine .inr ⟨k,c',e,z'.sameBut g ?_⟩;rintro rfl;exact R (Bj hN l (I.ok.inj _ _ _ e hc▸Z))
  .by_cases U:c'=c
   .subst U;exact⟨_,T⟩
   .obtain⟨w2,z2⟩:=I.cell y c' e;exact⟨w2,z2.sameBut g U⟩
  .obtain⟨e,n,ne,nf,d⟩:=I.pin p hp;refine⟨(g.2 p.1 ?_).trans e,n,ne,nf,d⟩;intro q;rw[q,hoc]at e;have q':oc=p.2:=Wt e;exact d w' (by rw[<- q'];exact hocd)
theorem Bl{M:Model}{A:WY}{E:Value->Wf->Prop}{i:Nat}{x:Str}{v:V}{u:Value}{Q:Unit->Wf->Prop}(I:Inv X a6r σ H s)(c:X.N.Nodup)(e:X.N[i]?=b0 x)(g:Loc X.env.scope x)(r:RelV v u)
  (h:∀a,Inv X a6r (σ.set i (b0 v)) H a->Q () a)(d:X.fn x=b5\/X.env.scope.names.lookup x=b0 .local:=by first|exact .inl rfl|exact .inr rfl|assumption):WI M A (storeName X.env x u) Q E s:=
 Bk I c e g r (λa b _=>h a b) d
end
noncomputable abbrev XK:=Value->Option Addr->Hp->Prop
noncomputable abbrev St:=List (Option V)
noncomputable abbrev VK:=V->Hp->Prop
noncomputable abbrev TE:=St->Hp->VK->Prop
noncomputable abbrev TT:=St->Hp->(Bool->Hp->Prop)->Prop
noncomputable abbrev TA:=St->Hp->(List V->Hp->Prop)->Prop
structure Ends where
 nx:St->Hp->Prop
 rt:VK
 bk:St->Hp->Prop:=λ_ _=>False
 ct:St->Hp->Prop:=λ_ _=>False
noncomputable abbrev TS:=Ends->St->Hp->Prop
inductive EP (X:Cx)(a6r:jw)(σ:St)(Q:VK)(u:Value)(s':Wf):Prop
 |mk (v:V)(H':Hp)(I:Inv X a6r σ H' s')(r:RelV v u)(q:Q v H'):EP X a6r σ Q u s'
inductive TP (X:Cx)(a6r:jw)(σ:St)(Q:Bool->Hp->Prop)(b:Bool)(s':Wf):Prop
 |mk (H':Hp)(I:Inv X a6r σ H' s')(q:Q b H'):TP X a6r σ Q b s'
inductive AP (X:Cx)(a6r:jw)(σ:St)(Q:gz->Hp->Prop)(us:gw)(s':Wf):Prop
 |mk (vs:gz)(H':Hp)(I:Inv X a6r σ H' s')(r:Vals vs us)(q:Q vs H'):AP X a6r σ Q us s'
inductive SPn (X:Cx)(a6r:jw)(Q:St->Hp->Prop)(s':Wf):Prop
 |mk (σ':St)(H':Hp)(I:Inv X a6r σ' H' s')(q:Q σ' H'):SPn X a6r Q s'
inductive SPr (X:Cx)(a6r:jw)(Q:VK)(u:Value)(s':Wf):Prop
 |mk (v:V)(σ':St)(H':Hp)(I:Inv X a6r σ' H' s')(r:RelV v u)(q:Q v H'):SPr X a6r Q u s'
noncomputable def SP(X:Cx)(a6r:jw)(D:Ends)(f:Flow)(a:Wf):Prop:=
 match f with
 |.next=>SPn X a6r D.nx a|.brk=>SPn X a6r D.bk a|.cont=>SPn X a6r D.ct a|.ret u=>SPr X a6r D.rt u a
noncomputable def PE(X:Cx)(e:Expr)(t:TE):Prop:=
 ∀(a6r:jw)(s:Wf)(σ:St)(H:Hp)(Q:VK),Inv X a6r σ H s->t σ H Q->WI (WM X.prog X.w) X.A (eval e X.env) (EP X a6r σ Q) X.xe s
noncomputable def PT(X:Cx)(e:Expr)(t:TT):Prop:=
 ∀(a6r:jw)(s:Wf)(σ:St)(H:Hp)(Q:Bool->Hp->Prop),Inv X a6r σ H s->t σ H Q->WI (WM X.prog X.w) X.A (a3Q e X.env (eval e X.env)) (TP X a6r σ Q) X.xe s
noncomputable def PW(X:Cx)(e:Expr)(t:TT):Prop:=
 ∀(a:a5H Value)(a6r:jw)(s:Wf)(σ:St)(H:Hp)(Q:Bool->Hp->Prop),Inv X a6r σ H s->t σ H Q->WI (WM X.prog X.w) X.A (a3Q e X.env a) (TP X a6r σ Q) X.xe s
theorem PW.pt{X:Cx}{e:Expr}{t:TT}(h:PW X e t):PT X e t:=h _
noncomputable def PA(X:Cx)(es:List Expr)(t:TA):Prop:=
 ∀(pos:XX)(a6r:jw)(s:Wf)(σ:St)(H:Hp)(Q:gz->Hp->Prop),Inv X a6r σ H s->t σ H Q->WI (WM X.prog X.w) X.A (spliced (YG pos (WU es X.env))) (AP X a6r σ Q) X.xe s
noncomputable def PS(X:Cx)(st:Stmt)(t:TS):Prop:=
 ∀(a6r:jw)(s:Wf)(σ:St)(H:Hp)(D:Ends),Inv X a6r σ H s->t D σ H->WI (WM X.prog X.w) X.A (exec st X.env) (SP X a6r D) X.xe s
noncomputable def PSs(X:Cx)(st:List Stmt)(t:TS):Prop:=
 ∀(a6r:jw)(s:Wf)(σ:St)(H:Hp)(D:Ends),Inv X a6r σ H s->t D σ H->WI (WM X.prog X.w) X.A (execs st X.env) (SP X a6r D) X.xe s
theorem aR{c:Type}{t:a5H c}{Q b:c->Wf->Prop}{M:Model}{A:WY}{E:Value->Wf->Prop}{s:Wf}(h:WI M A t Q E s)(d:∀a s,Q a s->b a s):WI M A t b E s:=Xz h d λ_ _ x=>x
section
variable{X:Cx}
noncomputable def vX(i:Nat):TE:=λσ H Q=>∃v,σ[i]?=b0 (b0 v)/\Q v H
noncomputable def tC(v:V):TE:=λ_ H Q=>Q v H
theorem Bm{i:Nat}{x:Str}{pos:XX}(j:X.N[i]?=b0 x)(p:mR X.env.scope x)(hd:(x==("__debug__":Str))=false:=by decide) (g:(x==("__classdict__":Str))=false:=by decide):PE X (.Name x pos) (vX i):=by
 intro d s q H Q I h;obtain⟨v,e,h⟩:=h;obtain⟨m,o,k⟩:=I.loc;obtain⟨u,r,l⟩:=k i x v j e p;have fin:EP X d q Q u s:=⟨v,H,I,r,h⟩;rcases l with⟨b,n⟩|⟨b,c,hc,a⟩
 .exact a4N (wpAny_loadName_local I.ok.kind b o n fin) hd
 .rcases b with b|b
  .exact a4N (wpAny_loadName_cell I.ok.kind b hc a fin) hd
  .exact a4N (wpAny_loadName_free I.ok.kind b hc a fin g) hd
theorem Hw{i j pos}:PE X (.Constant (.int i) j pos) (tC (.int i)):=λ_ _ _ H _ I h=>wpAny_Constant_int ⟨.int i,H,I.tok _,⟨_,rfl⟩,h⟩
theorem Hx{b j pos}:PE X (.Constant (.bool b) j pos) (tC (.bl b)):=λ_ _ _ H _ I h=>Constant_bool ⟨.bl b,H,I,rfl,h⟩
theorem Hy{j pos}:PE X (.Constant .none j pos) (tC .non):=λ_ _ _ H _ I h=>Constant_none ⟨.non,H,I,rfl,h⟩
theorem Hz{x j pos}:PE X (.Constant (.str x) j pos) (tC (.str x)):=λ_ _ _ H _ I h=>Calls.Constant_str ⟨.str x,H,I.tok _,⟨_,rfl⟩,h⟩
noncomputable def Gl(X:Cx)(x:Str):Prop:=X.env.kindOf x=b0 .globalImplicit
theorem pL{E:Value->Wf->Prop}{a6r:jw}{s:Wf}{σ:St}{H:Hp}{x:Str}{u:Value}{pos:XX}{Q:Value->Wf->Prop}(I:Inv X a6r σ H s)(a:Gl X x)(b:X.mg x=b0 u)(h:Q u s)
  (hd:(x==("__debug__":Str))=false:=by decide):WI (WM X.prog X.w) X.A (eval (.Name x pos) X.env) Q E s:=
 a1X I.ok.kind a (Calls.loadGlobal_global (by rw[I.ok.glob];exact I.mod.glob.keeps I.bk) b h) hd
theorem iF{E:Value->Wf->Prop}{a6r:jw}{s:Wf}{σ:St}{H:Hp}{x:Str}{u:Value}{pos:XX}{Q:Value->Wf->Prop}(I:Inv X a6r σ H s)(c:Gl X x)(d:X.mg x=b3)(g:X0 x=b0 u)(h:Q u s)
  (e:x ≠ "__name__":=by decide) (hd:(x==("__debug__":Str))=false:=by decide):WI (WM X.prog X.w) X.A (eval (.Name x pos) X.env) Q E s:=by
 obtain⟨i,a,b⟩:=I.mod.blt;exact a1X I.ok.kind c (Calls.loadGlobal_builtin (by rw[I.ok.glob];exact I.mod.glob.keeps I.bk) d (by rw[I.ok.blt];exact a.keeps I.bk) ((b x e).trans g) h) hd
theorem HA{x:Str}{v:V}{u:Value}{pos:XX}(a:Gl X x)(b:X.mg x=b0 u)(r:RelV v u)(hd:(x==("__debug__":Str))=false:=by decide):PE X (.Name x pos) (tC v):=
 λ_ _ _ H _ I h=>pL I a b ⟨v,H,I,r,h⟩ hd
theorem HB{x:Str}{v:V}{u:Value}{pos:XX}(a:Gl X x)(b:X.mg x=b3)(d:X0 x=b0 u)(r:RelV v u)(c:x ≠ "__name__":=by decide) (hd:(x==("__debug__":Str))=false:=by decide):PE X (.Name x pos) (tC v):=
 λ_ _ _ H _ I h=>iF I a b d ⟨v,H,I,r,h⟩ c hd
variable{a b:Expr}{ta tb:TE}{pos:XX}
variable{tA tB':TT}{bZ:List Expr}
noncomputable def HC(t u:TT):TT:=λσ H Q=>t σ H λc d=>if c=b5 then u σ d Q else Q b4 d
noncomputable def HD(t u:TT):TT:=λσ H Q=>t σ H λc d=>if c=b5 then Q b5 d else u σ d Q
noncomputable def HE(t:TT):TT:=λσ H Q=>t σ H λc d=>Q (!c) d
theorem HF(g:PT X a tA):PW X (.BoolOp .And [a] pos) tA:=by
 intro k d s i H Q I h;refine isTrue_and (aR (g d s i H Q I h) λc j e=>?_);cases c with
 |true=>exact isTrue_and_nil e|false=>exact e
theorem HG(g:PT X a tA):PW X (.BoolOp .Or [a] pos) tA:=by
 intro k d s i H Q I h;refine isTrue_or (aR (g d s i H Q I h) λc j e=>?_);cases c with
 |false=>exact isTrue_or_nil e|true=>exact e
theorem HH(k:PT X a tA)(l:PW X (.BoolOp .And (b::bZ) pos) tB'):PW X (.BoolOp .And (a::b::bZ) pos) (HC tA tB'):=by
 intro o d s j H Q I h;refine isTrue_and (aR (k d s j H _ I h) λc n ⟨e,g,i⟩=>?_);cases c with
 |true=>exact l o d n j e Q g i|false=>exact⟨e,g,i⟩
theorem HI(k:PT X a tA)(l:PW X (.BoolOp .Or (b::bZ) pos) tB'):PW X (.BoolOp .Or (a::b::bZ) pos) (HD tA tB'):=by
 intro o d s j H Q I h;refine isTrue_or (aR (k d s j H _ I h) λc n ⟨e,g,i⟩=>?_);cases c with
 |true=>exact⟨e,g,i⟩|false=>exact l o d n j e Q g i
theorem HJ(i:PT X a tA):PT X (.UnaryOp .Not a pos) (HE tA):=by intro d s j H Q I h;exact isTrue_not (aR (i d s j H (λc g=>Q (!c) g) I h) λ_ _ ⟨e,J,q⟩=>⟨e,J,q⟩)
noncomputable def HK(ta tb:TE):TE:=λσ H Q=>ta σ H λx d=>∃c,x=.bl c/\if c=b5 then tb σ d Q else Q (.bl b4) d
noncomputable def HL(ta tb:TE):TE:=λσ H Q=>ta σ H λx d=>∃c,x=.bl c/\if c=b5 then Q (.bl b5) d else tb σ d Q
noncomputable def HM(ta:TE):TE:=λσ H Q=>ta σ H λx d=>∃c,x=.bl c/\Q (.bl (!c)) d
theorem HN{op} {t:TE}(h:PE X a t):PE X (.BoolOp op [a] pos) t:=λa6r s σ H Q I hw=>BoolOp_one (h a6r s σ H Q I hw)
theorem HP(k:PE X a ta)(l:PE X (.BoolOp .And (b::bZ) pos) tb):PE X (.BoolOp .And (a::b::bZ) pos) (HK ta tb):=by
 intro d s j H Q I h;refine BoolOp_and (aR (k d s j H _ I h) λv o ⟨x,g,i,n,e⟩=>?_);obtain⟨c,rfl,e⟩:=e;cases n;refine XH ?_;cases c with
 |true=>exact l d o j g Q i e|false=>exact⟨.bl b4,g,i,rfl,e⟩
theorem HQ(k:PE X a ta)(l:PE X (.BoolOp .Or (b::bZ) pos) tb):PE X (.BoolOp .Or (a::b::bZ) pos) (HL ta tb):=by
 intro d s j H Q I h;refine BoolOp_or (aR (k d s j H _ I h) λv o ⟨x,g,i,n,e⟩=>?_);obtain⟨c,rfl,e⟩:=e;cases n;refine XH ?_;cases c with
 |false=>exact l d o j g Q i e|true=>exact⟨.bl b5,g,i,rfl,e⟩
theorem HR(j:PE X a ta):PE X (.UnaryOp .Not a pos) (HM ta):=by intro d s l H Q I h;refine UnaryOp_ (aR (j d s l H _ I h) λv n ⟨x,g,i,k,e⟩=>?_);obtain⟨c,rfl,e⟩:=e;cases k;exact not_of (XH ⟨.bl (!c),g,i,rfl,e⟩)
noncomputable def HS(t:TT)(ta tb:TE):TE:=λσ H Q=>t σ H λc d=>if c=b5 then ta σ d Q else tb σ d Q
theorem HU{c:Expr}(hc:PT X c tA)(n:PE X a ta)(o:PE X b tb):PE X (.IfExp c a b pos) (HS tA ta tb):=by
 intro e s g H Q I h;refine wpAny_IfExp (aR (hc e s g H _ I h) λd l ⟨i,j,k⟩=>?_);cases d with
 |true=>exact n e l g i Q j k|false=>exact o e l g i Q j k
end
noncomputable def SqL(K:V8)(H:Hp)(a:Addr)(xs:gz):Prop:=
 Rd H a (.lst xs) \/
  ∃(o:Obj)(its:Array Value)(n:Nat),K.lookup a=b0 o/\o.cls=.type "list"/\o.dict=b3/\o.data=.seq its n/\its.size<=Wq/\Vals xs its.toList
noncomputable def SqT(K:V8)(H:Hp)(a:Addr)(xs:gz):Prop:=
 Rd H a (.tup xs) \/
  ∃(o:Obj)(its:Array Value)(n:Nat),K.lookup a=b0 o/\o.cls=.type "tuple"/\o.dict=b3/\o.data=.seq its n/\its.size<=Wq/\Vals xs its.toList
noncomputable def HV:Value->Option V
 |.none=>b0 .non|.bool b=>b0 (.bl b)|.int i _=>b0 (.int i)|.str x _=>b0 (.str x)|.bytes b _=>b0 (.byt b)|.float b _=>b0 (.flt b)|.ref a=>b0 (.ref a)|.type n=>b0 (.ty n)|_=>b3
theorem RelV.abs{x:V}{u:Value}(r:RelV x u):HV u=b0 x:=by
 cases x with
 |non=>cases r;rfl|bl _=>cases r;rfl|int _=>obtain⟨t,rfl⟩:=r;rfl|str _=>obtain⟨t,rfl⟩:=r;rfl|byt _=>obtain⟨t,rfl⟩:=r;rfl|flt _=>obtain⟨t,rfl⟩:=r;rfl|ref _=>cases r;rfl|ty _=>cases r;rfl
theorem RelV.inj{x y:V}{u:Value}(r:RelV x u)(q:RelV y u):x=y:=Wt (r.abs.symm.trans q.abs)
theorem Vals.inj:∀{xs a:gz}{us:gw},Vals xs us->Vals a us->xs=a
 |_,_,_,.nil,.nil=>rfl|_,_,_,.cons r t,.cons r' t'=>by rw[r.inj r',Vals.inj t t']
section
variable{X:Cx}{a6r:jw}{σ:St}{H:Hp}{s:Wf}{a:Addr}{xs ys:gz}
theorem SqL.of{K:V8}(h:H a=b0 (.lst xs)):SqL K H a xs:=.inl (.inl h)
theorem SqT.of{K:V8}(h:H a=b0 (.tup xs)):SqT K H a xs:=.inl (.inl h)
theorem Inv.list(I:Inv X a6r σ H s)(h:SqL X.K H a xs):∃its:gw,Vals xs its/\PlainL s.heap a its.toArray/\xs.length<=Wq:=by
 rcases h with h|⟨o,its,n,b,hc,hd,c,d,r⟩
 .obtain⟨z,its,n,r,e⟩:=h.ok I.hok;exact⟨its,r,⟨_,n,e,rfl,rfl,rfl⟩,z⟩
 .refine⟨its.toList,r,⟨o,n,I.kIn a o b,hc,hd,by simpa using c⟩,?_⟩;have e:=r.length;simp only[YK]at e;lia
theorem Inv.tuple(I:Inv X a6r σ H s)(h:SqT X.K H a xs):∃its:gw,Vals xs its/\a5o s.heap a its.toArray/\xs.length<=Wq:=by
 rcases h with h|⟨o,its,n,b,hc,hd,c,d,r⟩
 .obtain⟨z,its,r,p⟩:=h.ok I.hok;exact⟨its,r,p.tup,z⟩
 .refine⟨its.toList,r,⟨o,I.kIn a o b,hc,n,by simpa using c⟩,?_⟩;have e:=r.length;simp only[YK]at e;lia
theorem Inv.tupN(I:Inv X a6r σ H s)(h:SqT X.K H a xs):∃its:gw,Vals xs its/\TupN s.heap a its.toArray:=by
 rcases h with h|⟨o,its,n,b,hc,hd,c,d,r⟩
 .obtain⟨z,its,r,p⟩:=h.ok I.hok;exact⟨its,r,p⟩
 .exact⟨its.toList,r,o,I.kIn a o b,hc,n,by simpa using c,hd⟩
theorem Inv.list_inj(I:Inv X a6r σ H s)(h:SqL X.K H a xs)(h':SqL X.K H a ys):xs=ys:=by
 obtain⟨c,r,⟨o,n,e,_,_,d⟩,_⟩:=I.list h;obtain⟨b,j,⟨l,k,i,_,_,g⟩,_⟩:=I.list h';rw[e]at i;cases i;rw[d]at g;injection g with d1 _;have:c=b:=by simpa using congrArg a5a d1
 subst this;exact r.inj j
theorem Inv.tuple_inj(I:Inv X a6r σ H s)(h:SqT X.K H a xs)(h':SqT X.K H a ys):xs=ys:=by
 obtain⟨c,r,⟨o,e,_,n,d⟩,_⟩:=I.tuple h;obtain⟨b,j,⟨l,i,_,k,g⟩,_⟩:=I.tuple h';rw[e]at i;cases i;rw[d]at g;injection g with d1 _;have:c=b:=by simpa using congrArg a5a d1
 subst this;exact r.inj j
end
noncomputable abbrev Cx.wish(X:Cx)(E:Value->Wf->Prop):Cx:={X with xe:=E}
noncomputable abbrev Cx.nox(X:Cx):Cx:=X.wish λ_ _=>False
theorem Cx.Ok.wish{X:Cx}(ok:X.Ok)(E:Value->Wf->Prop):(X.wish E).Ok:=
 ⟨ok.mod,ok.kind,ok.glob,ok.blt,ok.above,ok.inj,ok.has,ok.cab,ok.hd,ok.frames,ok.stk,ok.exf,ok.bs,ok.bsz,ok.noex,ok.exfs,ok.funs,ok.frf⟩
theorem Cx.Ok.unwish{X:Cx}{E:Value->Wf->Prop}(ok:(X.wish E).Ok):X.Ok:=
 ⟨ok.mod,ok.kind,ok.glob,ok.blt,ok.above,ok.inj,ok.has,ok.cab,ok.hd,ok.frames,ok.stk,ok.exf,ok.bs,ok.bsz,ok.noex,ok.exfs,ok.funs,ok.frf⟩
section
variable{X:Cx}{a6r:jw}{σ:St}{H:Hp}{s:Wf}{E:Value->Wf->Prop}
theorem Inv.wish(I:Inv X a6r σ H s)(E:Value->Wf->Prop):Inv (X.wish E) a6r σ H s:=⟨I.ok.wish E,I.os,I.bare,I.base,I.loc,I.cell,I.free,I.freeC,I.pin,I.hok,I.len⟩
theorem Inv.unwish(I:Inv (X.wish E) a6r σ H s):Inv X a6r σ H s:=⟨I.ok.unwish,I.os,I.bare,I.base,I.loc,I.cell,I.free,I.freeC,I.pin,I.hok,I.len⟩
theorem SP.unwish{D:Ends}{f:Flow}{c:Wf}(h:SP (X.wish E) a6r D f c):SP X a6r D f c:=by
 cases f with
 |next=>obtain⟨a,b,I,q⟩:=h;exact⟨a,b,I.unwish,q⟩|brk=>obtain⟨a,b,I,q⟩:=h;exact⟨a,b,I.unwish,q⟩|cont=>obtain⟨a,b,I,q⟩:=h;exact⟨a,b,I.unwish,q⟩|ret u=>obtain⟨v,a,b,I,r,q⟩:=h;exact⟨v,a,b,I.unwish,r,q⟩
theorem PSs.nox{st:List Stmt}{t:TS}(h:PSs X.nox st t):PSs X st t:=λa6r s σ H D I hw=>Xz (h a6r s σ H D (I.wish _) hw) (λ_ _ q=>q.unwish) λ_ _ z=>Ys z
end
section
variable{X:Cx}{st:Stmt}{bZ:List Stmt}{t u:TS}{e:Expr}{te:TE}{pos:XX}
noncomputable def Bn:TS:=λD σ H=>D.nx σ H
noncomputable def HW(t u:TS):TS:=λD σ H=>t {D with nx:=u D} σ H
theorem HX:PSs X [] Bn:=λ_ _ σ H _ I h=>a0P ⟨σ,H,I,h⟩
theorem HY(h1:PS X st t)(g:PSs X bZ u):PSs X (st::bZ) (HW t u):=by
 intro a s j H D I h;refine a5q (aR (h1 a s j H {D with nx:=u D} I h) λf i q=>?_);cases f with
 |next=>obtain⟨b,c,d,q⟩:=q;exact g a i b c D d q|ret v=>exact q|brk=>exact q|cont=>exact q
theorem HZ(h1:PS X st t):PSs X [st] t:=by
 intro a s b H D I h;refine a5q (aR (h1 a s b H D I h) λf c q=>?_);cases f with
 |next=>exact a0P q|ret v=>exact q|brk=>exact q|cont=>exact q
theorem Ia:PS X (.Pass pos) Bn:=λ_ _ σ H _ I h=>wpAny_Pass ⟨σ,H,I,h⟩
theorem Inv.quiet{a6r:jw}{σ:St}{H:Hp}{s:Wf}(I:Inv X a6r σ H s):interactive X.env=false:=by simp[interactive,I.ok.kind]
noncomputable def Ib(te:TE):TS:=λD σ H=>te σ H λ_ a=>D.nx σ a
theorem Ic(g:PE X e te)(i:ZY e b3 pos.line X.env=pure false:=by rfl):PS X (.Expr e pos) (Ib te):=by intro a s b H D I h;exact wpAny_Expr_any (aR (g a s b H _ I h) λv l ⟨x,c,d,k,j⟩=>⟨b,c,d,j⟩) I.quiet i
noncomputable def Ie(te:TE):TS:=λD σ H=>te σ H D.rt
theorem Ig(g:PE X e te):PS X (.Return (b0 e) pos) (Ie te):=by intro a s b H D I h;exact wpAny_Return_some (aR (g a s b H _ I h) λv k ⟨x,c,d,j,i⟩=>⟨x,b,c,d,j,i⟩)
noncomputable def Ih:TS:=λD _ H=>D.rt .non H
theorem Ii:PS X (.Return b3 pos) Ih:=λ_ _ σ H _ I h=>wpAny_Return_none ⟨.non,σ,H,I,rfl,h⟩
noncomputable def Ij(c:TT)(t u:TS):TS:=λD σ H=>c σ H λb a=>if b=b5 then t D σ a else u D σ a
theorem Ik{c:Expr}{a b:List Stmt}{o:TT}(hc:PT X c o)(p:PSs X a t)(q:PSs X b u):PS X (.If c a b pos) (Ij o t u):=by
 intro g s i H D I h;refine wpAny_If (aR (hc g s i H _ I h) λd n ⟨j,k,l⟩=>?_);cases d with
 |true=>exact p g n i j D k l|false=>exact q g n i j D k l
end
noncomputable abbrev TG:=V->St->Hp->(St->Hp->Prop)->Prop
noncomputable abbrev nZ:=List V->St->Hp->(St->Hp->Prop)->Prop
noncomputable def PG(X:Cx)(a:Expr)(t:TG):Prop:=
 ∀(a6r:jw)(s:Wf)(σ:St)(H:Hp)(v:V)(u:Value)(Q:St->Hp->Prop),Inv X a6r σ H s->RelV v u->t v σ H Q->
  WI (WM X.prog X.w) X.A (a1F a X.env u) (λ_ b=>SPn X a6r Q b) X.xe s
noncomputable def pM(X:Cx)(ts:List Expr)(t:nZ):Prop:=
 ∀(a6r:jw)(s:Wf)(σ:St)(H:Hp)(vs:gz)(us:gw)(Q:St->Hp->Prop),Inv X a6r σ H s->Vals vs us->t vs σ H Q->
  WI (WM X.prog X.w) X.A (assignInOrder ((Yv ts X.env).map (·.2)) us) (λ_ a=>SPn X a6r Q a) X.xe s
noncomputable abbrev Bo:=V->V->V->Hp->(Hp->Prop)->Prop
noncomputable def Il(X:Cx)(t:Bo):Prop:=
 ∀(a6r:jw)(s:Wf)(σ:St)(H:Hp)(o i v:V)(c b u:Value)(Q:Hp->Prop),Inv X a6r σ H s->RelV o c->RelV i b->RelV v u->t o i v H Q->
  WI (WM X.prog X.w) X.A (setItem c b u) (λ_ d=>∃a,Inv X a6r σ a d/\Q a) X.xe s
section
variable{X:Cx}{pos:XX}
noncomputable def vY(i:Nat):TG:=λv σ H Q=>Q (σ.set i (b0 v)) H
theorem Bp{i:Nat}{x:Str}(c:X.N.Nodup)(e:X.N[i]?=b0 x)(g:Loc X.env.scope x)(d:X.fn x=b5\/X.env.scope.names.lookup x=b0 .local:=by first|exact .inl rfl|exact .inr rfl|assumption):PG X (.Name x pos) (vY i):=by intro b s k H v u Q I r h;exact a5d (Bl I c e g r (λj a=>⟨_,H,a,h⟩) d)
noncomputable def Bq:nZ:=λvs σ H Q=>vs=[]/\Q σ H
noncomputable def Br(t:TG)(u:nZ):nZ:=λvs σ H Q=>∃v r,vs=v::r/\t v σ H λa b=>u r a b Q
theorem Im:pM X [] Bq:=by intro a s b H d c Q I r h;obtain⟨e,h⟩:=h;subst e;cases r;exact assignInOrder_nil ⟨b,H,I,h⟩
theorem Io{e:Expr}{es:List Expr}{t:TG}{u:nZ}(h1:PG X e t)(i:pM X es u)
  (j:(Yv (e::es) X.env).map (·.2)=a1F e X.env::(Yv es X.env).map (·.2):=by rfl):pM X (e::es) (Br t u):=by
 intro a s o H w p Q I r h;obtain⟨v,q,g,h⟩:=h;subst g;cases r with
 |cons r l=>rw[j];refine assignInOrder_cons (aR (h1 a s o H _ _ _ I r h) λ_ n ⟨b,c,d,k⟩=>?_);exact i a n b c _ _ Q d l k
noncomputable def Bs(b:TE)(g:TG):TS:=λD σ H=>b σ H λx a=>g x σ a D.nx
theorem Ip{tg e:Expr}{b:TE}{g:TG}(j:PE X e b)(k:PG X tg g)(l:swapsWithSole [tg] e pos.line X.env=pure false:=by rfl)(hw:a3p [tg] e X.env=pure none:=by rfl)
  (h1:(Yv [tg] X.env).map (·.2)=[a1F tg X.env]:=by rfl):PS X (.Assign [tg] e pos) (Bs b g):=by
 intro a s c H D I h;refine wpAny_Assign_stores (aR (j a s c H _ I h) λv p ⟨x,d,i,o,n⟩=>?_) l hw;rw[h1];exact aR (k a p c d x v _ i o n) λ_ r q=>q
theorem Iq{i:Nat}{x:Str}{e:Expr}{c:TE}{a:XX}(k:X.N.Nodup)(o:X.N[i]?=b0 x)(q:Loc X.env.scope x)(l:PE X e c)(p:ZY e (b0 (.Name x a)) pos.line X.env=pure false:=by rfl)(n:X.fn x=b5\/X.env.scope.names.lookup x=b0 .local:=by first|exact .inl rfl|exact .inr rfl|assumption) :
  PS X (.Assign [.Name x a] e pos) (Bs c (vY i)):=by
 intro b s w H D I h;refine wpAny_Assign_Name (aR (l b s w H _ I h) λv z ⟨y,d,g,u,r⟩=>?_) p;exact Bl g k o q u (λA j=>⟨_,d,j,r⟩) n
end
section
variable{X:Cx}{pos:XX}
noncomputable def Ir(c:TT)(h:TS):TS:=λD σ H=>∃W:Nat->St->Hp->Prop,(∃m,W m σ H)/\∀m σ H,W m σ H->
 c σ H λb e=>if b=b5 then ∃N:St->Hp->Prop,(∀a d,N a d->∃g,g<m/\W g a d)/\h {D with nx:=N,ct:=N,bk:=D.nx} σ e else D.nx σ e
theorem Iu{c:Expr}{body:List Stmt}{E:TT}{B:TS}(A:a2m (WM X.prog X.w) X.A X.env X.xe)(hc:PT X c E)(J:PSs X body B):PS X (.While c body [] pos) (Ir E B):=by
 intro e s T H D I h;obtain⟨W,⟨K,Q⟩,turn⟩:=h;refine wpAny_While (codeAny_whileLoop (λn L=>∃i u,Inv X e i u L/\W n i u) ?_ K ⟨T,H,I,Q⟩);rintro n M ⟨d,w,G,R⟩;refine Y8 A (aR (hc e M d w _ G (turn n d w R)) λb O ⟨x,y,j⟩=>?_);cases b with
 |true=>
  obtain⟨N,z,j⟩:=j;rw[if_pos rfl];refine Y8 A (aR (J e O d x _ y j) λf U k=>?_);cases f with
  |next=>obtain⟨a,g,l,q⟩:=k;obtain⟨p,o,r⟩:=z a g q;exact⟨p,o,a,g,l,r⟩|cont=>obtain⟨a,g,l,q⟩:=k;obtain⟨p,o,r⟩:=z a g q;exact⟨p,o,a,g,l,r⟩|brk=>exact k|ret v=>exact k
 |false=>rw[if_neg Wj];exact a0P ⟨d,x,y,j⟩
end
structure It where
 go:Nat->Hp->Prop
 yld:Nat->Hp->V->Hp->Prop
 stop:Nat->Hp->Prop
noncomputable def gX(X:Cx)(a6r:jw)(H:Hp)(b:Addr):Prop:=
 H b=b3/\b≠X.env.locals/\b∉X.fs/\(b∈X.ex\/X.s₀.heap.objs.size<=b)/\(∀x c,X.env.cells.lookup x=b0 c->c≠b)/\∀p∈X.pn++a6r,p.1≠b
theorem Inv.fpOk{X:Cx}{a6r:jw}{σ:St}{H d:Hp}{s:Wf}{b:Addr}(I:Inv X a6r σ H s)(a:s.heap.objs.size<=b)(g:d b=b3):gX X a6r d b:=by
 refine⟨g,XR (WT I.lt a),I.nofs a,.inr (W7 I.sz a),λx c e z=>?_,λp h z=>?_⟩
 .obtain⟨v,q⟩:=I.cell x c e;exact absurd (WT q.lt (by rw[z];exact a)) (X3 _)
 .exact absurd (WT (Wm (I.pin p h).1) (by rw[z];exact a)) (X3 _)
noncomputable abbrev Qc(X:Cx):Prop:=X.calm=b5
structure Turn(q:Cx->Prop)(P:WL)(w:WX)(K:V8)(tg:Expr)(J:It)(fp:List Addr)(it:Addr)(tn:Nat->Xo->Prop):Prop where
 mem:it∈fp
 obj:∀i h,tn i h->∀b∈fp,∃o,h.get? b=b0 o/\∀v,o.data≠.cell v
 keep:∀i h h',tn i h->(∀b∈fp,∀o,h.get? b=b0 o->h'.get? b=b0 o)->tn i h'
 item:∀(X:Cx),X.prog=P->X.w=w->X.K=K->q X->∀(i:Nat)(a6r:jw)(s:Wf)(σ:St)(H:Hp)(E:Value->Wf->Prop),Inv X a6r σ H s->(∀b∈fp,gX X a6r H b)->tn i s.heap->J.go i H->
  WI (WM P w) X.A (Y2 (.ref it)) (λr s1=>∃u,r=b0 u /\
   WI (WM P w) X.A (a0R tg (.ref it) u) (λ_ s2=>∃x H',Inv X a6r σ H' s2/\RelV x u/\J.yld i H x H'/\tn (i+1) s2.heap/\∀b∈fp,H' b=b3) E s1) E s
 done:∀(X:Cx),X.prog=P->X.w=w->X.K=K->q X->∀(i:Nat)(a6r:jw)(s:Wf)(σ:St)(H:Hp)(E:Value->Wf->Prop),Inv X a6r σ H s->(∀b∈fp,gX X a6r H b)->tn i s.heap->J.stop i H->
  WI (WM P w) X.A (Y2 (.ref it)) (λr s1=>r=b3/\Inv X a6r σ H s1) E s
 self:∀(A:WY)(i:Nat)(s:Wf)(Q:Value->Wf->Prop)(E:Value->Wf->Prop),tn i s.heap->Q (.ref it) s->WI (WM P w) A (a2i (.ref it)) Q E s
noncomputable abbrev TI:=St->Hp->(It->Hp->Prop)->Prop
inductive PIEq (q:Cx->Prop)(X:Cx)(a6r:jw)(σ:St)(tg:Expr)(R:It->Hp->Prop)(itv:Value)(s2:Wf):Prop
 |mk (it:Addr)(fp:List Addr)(tn:Nat->Xo->Prop)(J:It)(H':Hp)(e:itv=.ref it)(I:Inv X a6r σ H' s2)(T:Turn q X.prog X.w X.K tg J fp it tn)(t0:tn 0 s2.heap)(f:∀b∈fp,gX X a6r H' b)(r:R J H'):PIEq q X a6r σ tg R itv s2
noncomputable abbrev vZ:=PIEq Qc
noncomputable def pN(q:Cx->Prop)(X:Cx)(tg iter:Expr)(b:TI):Prop:=
 ∀(a6r:jw)(s:Wf)(σ:St)(H:Hp)(R:It->Hp->Prop),Inv X a6r σ H s->b σ H R->
  WI (WM X.prog X.w) X.A (eval iter X.env) (λv a=>WI (WM X.prog X.w) X.A (a2i v) (PIEq q X a6r σ tg R) X.xe a) X.xe s
noncomputable abbrev PI:=pN Qc
theorem n5 {M:Model}{A:WY}{E:Value->Wf->Prop}{s:Wf}{tg:Expr}{b:Addr}{u:Value}{o:Obj}{n:String}{vs:Array Value}{Q:Unit->Wf->Prop}(d:s.heap.get? b=b0 o)(hc:o.cls=.type n)(hd:o.data=.fields vs)
  (c:["enumerate","zip","dict_itemiterator","dict_reverseitemiterator","odict_iterator","itertools.zip_longest","itertools.pairwise"].contains n=b4) (a:Q () s):WI M A (a0R tg (.ref b) u) Q E s:=by
 unfold a0R
 cases tg<;>first
  | exact Wg a
  | (cases u<;>first
    | exact Wg a
    | (refine V9 (a2N d ?_)
       rw [hc,hd]
       show WI M A (if (["enumerate","zip","dict_itemiterator","dict_reverseitemiterator","odict_iterator","itertools.zip_longest","itertools.pairwise"].contains n&&vs[0]? == b0 (Z0 _))=b5 then _ else _) Q E s
       rw [if_neg (by intro h;rw [c,a4K] at h;cases h)]
       exact Wg a))
noncomputable def v7 (K:V8)(a:Addr):It:=
 ⟨fun i H=>∃ b x,SqL K H a b/\b[i]? = b0 x,fun i H x c=>c=H/\∀ b,SqL K H a b->b[i]? = b0 x,fun i H=>∃ b,SqL K H a b/\b.length<=i⟩
noncomputable def v8(K:V8)(a:Addr):It:=
 ⟨λi H=>∃b x,SqT K H a b/\b[i]?=b0 x,λi H x c=>c=H/\∀b,SqT K H a b->b[i]?=b0 x,λi H=>∃b,SqT K H a b/\b.length<=i⟩
noncomputable def lG(lo:Int)(n:Nat):It:=⟨λi _=>i<n,λi H x a=>a=H/\x=.int (lo+i),λi _=>n<=i⟩
theorem Iv{P:WL}{w:WX}{K:V8}{tg:Expr}(a j:Addr):Turn Qc P w K tg (v7 K a) [j] j (λi h=>h.IsListIter j a i) where
 mem:=by simp
 obj:=λi h st b g=>by
  have e:b=j:=by simpa using g
  subst e;obtain⟨o,e,c,d⟩:=st;exact⟨o,e,λv z=>by rw[d]at z;cases z⟩
 keep:=λi h q st k=>st.at λo e=>k j (by simp) o e;item:=by intro X N hw M hc i l s U H E I r st O;subst N hw M;obtain⟨xs,x,y,Q⟩:=O;obtain⟨R,T,p,hz⟩:=I.list y;obtain⟨u,hu,ru⟩:=T.get Q;obtain⟨A,B,f2,G,J,L⟩:=r j (by simp);refine a3I st p.isList (x:=u) (by simpa using hu) λq n sb=>?_;have Y:Inv X l U H {s with heap:=q}:=I.turned (t':=s.toks) (λb o g e=>(sb.2 b g).trans e) A B G J L;obtain⟨o,e,c,d⟩:=id n;exact⟨u,rfl,n5 (s:={s with heap:=q}) e c d (by decide) ⟨x,H,Y,ru,⟨rfl,λys hy=>by rw[I.list_inj hy y];exact Q⟩,n,λb g=>(r b g).1⟩⟩
 done:=by intro X N hw M hc i l s U H E I r st O;subst N hw M;obtain⟨xs,y,Q⟩:=O;obtain⟨R,T,p,hz⟩:=I.list y;obtain⟨A,B,f2,G,J,L⟩:=r j (by simp);have hl:=T.length;exact a4i (I.ok.hd hc) st p.isList (by simp;lia) λq Z=>⟨rfl,I.turned (t':=s.toks) (λb o g e=>Z b o g e) A B G J L⟩
 self:=λ_ _ _ _ _ st h=>wpAny_pyIter_listiter st h
theorem Iw{P:WL}{w:WX}{K:V8}{tg:Expr}(a j:Addr):Turn Qc P w K tg (v8 K a) [j] j (λi h=>h.IsTupleIter j a i) where
 mem:=by simp
 obj:=λi h st b g=>by
  have e:b=j:=by simpa using g
  subst e;obtain⟨o,e,c,d⟩:=st;exact⟨o,e,λv z=>by rw[d]at z;cases z⟩
 keep:=λi h r st k=>st.at λo e=>k j (by simp) o e;item:=by intro X O hw N hc i n s U H E I y st Q;subst O hw N;obtain⟨xs,x,A,R⟩:=Q;obtain⟨l,T,p,hz⟩:=I.tuple A;obtain⟨u,hu,ru⟩:=T.get R;obtain⟨B,G,f2,J,L,M⟩:=y j (by simp);refine a3v st (show s.heap.IsTuple a l.toArray from p) (x:=u) (by simpa using hu) λr q sb=>?_;have Y:Inv X n U H {s with heap:=r}:=I.turned (t':=s.toks) (λb o g e=>(sb.2 b g).trans e) B G J L M;obtain⟨o,e,c,d⟩:=id q;exact⟨u,rfl,n5 (s:={s with heap:=r}) e c d (by decide) ⟨x,H,Y,ru,⟨rfl,λys hy=>by rw[I.tuple_inj hy A];exact R⟩,q,λb g=>(y b g).1⟩⟩
 done:=by intro X O hw N hc i n s U H E I y st Q;subst O hw N;obtain⟨xs,A,R⟩:=Q;obtain⟨l,T,p,hz⟩:=I.tuple A;obtain⟨B,G,f2,J,L,M⟩:=y j (by simp);have hl:=T.length;exact a3G (I.ok.hd hc) st (show s.heap.IsTuple a l.toArray from p) (by simp;lia) λr Z=>⟨rfl,I.turned (t':=s.toks) (λb o g e=>Z b o g e) B G J L M⟩
 self:=λ_ _ _ _ _ st h=>wpAny_pyIter_tupleiter st h
theorem Bt{P:WL}{w:WX}{K:V8}{tg:Expr}(a:Addr)(lo:Int)(n:Nat):Turn Qc P w K tg (lG lo n) [a] a (λi h=>Z6 h a (lo+(i:Nat)*1) ((n:Int)-(i:Nat)) 1) where
 mem:=by simp
 obj:=λi h st b c=>by
  have e:b=a:=by simpa using c
  subst e;exact⟨_,st,λv z=>by
   have R:Xf _=a0n v:=z;cases R⟩
 keep:=λi h j st k=>k a (by simp) _ st;item:=by intro X A hw y hc i d s J H E I l st B;subst A hw y;obtain⟨p,q,N,r,u,x⟩:=l a (by simp);have W:=a5i (prog:=X.prog) (w:=X.w) (I.ok.hd hc) a lo 1 n;refine W.item i s _ _ B st λv j G O g Q=>?_;obtain⟨t,rfl⟩:=O;have L:Inv X d J H {s with heap:=j,toks:=G}:=I.turned (λb o c e=>Q b o (by simpa using c) e) p q r u x;refine⟨_,rfl,n5 (s:={s with heap:=j,toks:=G}) (n:="range_iterator") g rfl rfl (by decide) ⟨.int (lo+i),H,L,⟨t,?_⟩,⟨rfl,rfl⟩,g,λb c=>(l b c).1⟩⟩;rw[Int.mul_one]
 done:=by intro X A hw y hc i d s J H E I l st B;subst A hw y;obtain⟨p,q,N,r,u,x⟩:=l a (by simp);exact a3H (I.ok.hd hc) st (by have:n<=i:=B;lia) λj M=>⟨rfl,I.turned (t':=s.toks) (λb o c e=>M b o c e) p q r u x⟩
 self:=λ_ _ _ _ _ st h=>a3J st h
section
variable{X:Cx}{tg:Expr}
theorem Bu{q:Cx->Prop}(tr:∀(d:Addr)(lo:Int)(n:Nat),Turn q X.prog X.w X.K tg (lG lo n) [d] d (λi h=>Z6 h d (lo+(i:Nat)*1) ((n:Int)-(i:Nat)) 1)){a6r:jw}{σ:St}{H:Hp}{s:Wf}{R:It->Hp->Prop}{E:Value->Wf->Prop}{lo a:Int}{t u v:a3a}{tk:Nat}(I:Inv X a6r σ H s)(h1:-(2^62)<=lo)(k:lo<2^62)(l:-(2^62)<=a)(p:a<2^62)
  (r:R (lG lo (a-lo).toNat) H):WI (WM X.prog X.w) X.A (a2i (.ref s.heap.objs.size)) (PIEq q X a6r σ tg R) E {s with heap:=s.heap.push {cls:=.type "range",data:=.fields #[.int lo t,.int a u,.int 1 v]},toks:=tk}:=by
 refine a4M (a4H ..) (small_one h1 k l p) ?_;have c:Inv X a6r σ H {s with heap:=s.heap.push {cls:=.type "range",data:=.fields #[.int lo t,.int a u,.int 1 v]},toks:=tk}:=I.kept λb o e=>Wc _ e;refine⟨(s.heap.push {cls:=.type "range",data:=.fields #[.int lo t,.int a u,.int 1 v]}).objs.size,[(s.heap.push {cls:=.type "range",data:=.fields #[.int lo t,.int a u,.int 1 v]}).objs.size],_,_,H,rfl,
  c.kept (t':=tk) λb o e=>Wc _ e,tr _ lo (a-lo).toNat,?_,λb w=>?_,r⟩
 .have g:lo+((0:Nat):Int)*1=lo:=by simp
  have j:(((a-lo).toNat:Nat):Int)-((0:Nat):Int)=Xl lo a 1:=by rw[rangeSize_one];split<;>lia
  show Z6 _ _ (lo+((0:Nat):Int)*1) ((((a-lo).toNat:Nat):Int)-((0:Nat):Int)) 1;rw[g,j];exact Wn _ rfl
 .have e:b=(s.heap.push {cls:=.type "range",data:=.fields #[.int lo t,.int a u,.int 1 v]}).objs.size:=by simpa using w
  subst e;exact c.fpOk (Wh _) (c.hok.fresh (Wh _))
noncomputable def Iy(b:TA):TI:=λσ H R=>b σ H λvs a=>∃j:Int,vs=[.int j]/\-(2^62)<=j/\j<2^62/\R (lG 0 j.toNat) a
noncomputable def Iz(b:TA):TI:=λσ H R=>b σ H λvs a=>∃i j:Int,vs=[.int i,.int j]/\(-(2^62)<=i/\i<2^62/\-(2^62)<=j/\j<2^62)/\R (lG i (j-i).toNat) a
theorem IA{q:Cx->Prop}(tr:∀(c:Addr)(lo:Int)(n:Nat),Turn q X.prog X.w X.K tg (lG lo n) [c] c (λi h=>Z6 h c (lo+(i:Nat)*1) ((n:Int)-(i:Nat)) 1)){a:Expr}{g:TA}{p pos:XX}(o:Gl X "range") (u:X.mg "range"=b3) (l:PA X [a] g)(v:WU [a] X.env=[(b4,eval a X.env)]:=by rfl):pN q X tg (.Call (.Name "range" p) [a] [] pos) (Iy g):=by
 intro b s A H R I h;refine a6q (iF I o u a4U (Xw (aR (l pos b s A H _ I h) λG E ⟨J,B,k,y,d⟩=>?_) v rfl));obtain⟨j,e,d,w,x⟩:=d;subst e;cases y with
 |cons r z=>cases z;obtain⟨t,rfl⟩:=r;exact call_range_1 (Bu tr k (by lia) (by lia) d w (by simpa using x))
theorem IB{a b:Expr}{l:TA}{p pos:XX}(u:Gl X "range") (v:X.mg "range"=b3) (o:PA X [a,b] l)(w:WU [a,b] X.env=[(b4,eval a X.env),(b4,eval b X.env)]:=by rfl)(c:WU [b] X.env=[(b4,eval b X.env)]:=by rfl) :
  PI X tg (.Call (.Name "range" p) [a,b] [] pos) (Iz l):=by
 intro d s E H R I h;refine a6q (iF I u v a4U (Xw (aR (o pos d s E H _ I h) λL J ⟨M,G,n,B,g⟩=>?_) (by rw[w,c]) (by rw[c];rfl)));obtain⟨i,j,e,⟨g,x,y,z⟩,q⟩:=g;subst e;cases B with
 |cons r k=>
  cases k with
  |cons A k=>cases k;obtain⟨t,rfl⟩:=r;obtain⟨K,rfl⟩:=A;exact call_range_2 (Bu Bt n g x y z q)
noncomputable def IC(k:TI)(g:TG)(j:TS):TS:=λD σ H=>k σ H λJ e=>∃W:Nat->Nat->St->Hp->Prop,(∃m,W 0 m σ e)/\∀i m σ H,W i m σ H->
 (J.stop i H/\D.nx σ H)\/(J.go i H/\∃N:St->Hp->Prop,(∀b a,N b a->∃d,d<m/\W (i+1) d b a)/\∀x a,J.yld i H x a->g x σ a λc h=>j {D with nx:=N,ct:=N,bk:=D.nx} c h)
noncomputable def pO(a:List Addr)(h:Xo):jw:=a.filterMap λb=>(h.get? b).map λo=>(b,o)
theorem sF{a:List Addr}{h:Xo}{b:Addr}{o:Obj}(c:b∈a)(e:h.get? b=b0 o):(b,o)∈pO a h:=a3F.mpr ⟨b,c,by rw[e];rfl⟩
theorem ID{a:List Addr}{h:Xo}{p:Addr×Obj}(g:p∈pO a h):p.1∈a/\h.get? p.1=b0 p.2:=by
 obtain⟨b,d,e⟩:=a3F.mp g;cases q:h.get? b with
 |none=>rw[q]at e;cases e|some o=>rw[q]at e;have c:(b,o)=p:=Wt e;subst c;exact⟨d,q⟩
theorem Inv.pinned{a6r:jw}{σ:St}{H:Hp}{s:Wf}{a:List Addr}(I:Inv X a6r σ H s)(k:∀b∈a,gX X a6r H b)(l:∀b∈a,∃o,s.heap.get? b=b0 o/\∀v,o.data≠.cell v):Inv X (a6r++pO a s.heap) σ H s:=
 I.pins_of λp n=>(WK.mp n).elim (λz=>I.pin p (XE _ z)) λz=>by obtain⟨g,e⟩:=ID z;obtain⟨h,i,j,_⟩:=k p.1 g;obtain⟨o,c,d⟩:=l p.1 g;rw[e]at c;cases c;exact⟨e,h,i,j,d⟩
theorem Inv.unpinned{a6r b:jw}{σ:St}{H:Hp}{s:Wf}(I:Inv X (a6r++b) σ H s):Inv X a6r σ H s:=I.pins_of λp a=>I.pin p (XE _ (a3g _ a))
theorem IE{iter:Expr}{body:List Stmt}{wi:TI}{g:TG}{tb:TS}{pos:XX}(K:a2m (WM X.prog X.w) X.A X.env X.xe)(hc:X.calm=b5)(hi:PI X tg iter wi)(hg:PG X tg g)(p:PSs X body tb)
  (hs:∀x,Zf iter X.env x=pure x:=by intro _;rfl):PS X (.For tg iter body [] pos) (IC wi g tb):=by
 intro c s σ H D I h;refine wpAny_For (aR (hi c s σ H _ I h) λv s1 h1=>aR h1 λitv s2 h2=>?_) hs;obtain⟨it,E,tn,J,H2,e,I2,T,st2,f2,W,⟨m0,w0⟩,turn⟩:=h2;subst e
  -- what stays b5 of the iterator's objects through the loop
 have q:∀{z:Hp},(∀b∈E,z b=b3)->∀b∈E,gX X c z b:=λhn b p=>⟨hn b p,(f2 b p).2⟩;refine codeAny_forLoop_any (λn s'=>∃i w z,Inv X c w z s'/\tn i s'.heap/\(∀b∈E,z b=b3)/\W i n w z) ?_ m0 ⟨0,σ,H2,I2,st2,λb p=>(f2 b p).1,w0⟩;rintro n s3 ⟨i,y,Q,I3,M,G,w3⟩;rcases turn i n y Q w3 with⟨O,qn⟩|⟨go,N,hN,step⟩
 .refine Y8 K (aR (T.done X rfl rfl rfl hc i c s3 y Q X.xe I3 (q G) M O) λr s4 ⟨Y,I4⟩=>?_);subst Y;exact a0P ⟨y,Q,I4,qn⟩
 .refine Y8 K (aR (T.item X rfl rfl rfl hc i c s3 y Q X.xe I3 (q G) M go) λr s4 ⟨u,Y,h4⟩=>?_);subst Y;refine Y8 K (aR h4 λ_ s5 ⟨x,H5,I5,r5,y5,B,U⟩=>?_);have R:=I5.pinned (q U) (T.obj _ _ B);refine Y8 K (aR (hg _ s5 y H5 x u _ R r5 (step x H5 y5)) λ_ s6 ⟨σ6,H6,I6,q6⟩=>?_);refine Y8 K (aR (p _ s6 σ6 H6 _ I6 q6) λf Z A=>?_);have l:∀{a:St}{j:Hp},Inv X (c++pO E s5.heap) a j Z->N a j->∃m,m<n/\∃i w z,Inv X c w z Z/\tn i Z.heap/\(∀b∈E,z b=b3)/\W i m w z:=λ{a j} k L=>by obtain⟨m',hm,w7⟩:=hN a j L;refine⟨m',hm,i+1,a,j,k.unpinned,T.keep _ _ _ B λb p o e=>(k.pin (b,o) (XE _ (XE _ (sF p e)))).1,λb p=>?_,w7⟩;obtain⟨o,e,d⟩:=T.obj _ _ B b p;exact(k.pin (b,o) (XE _ (XE _ (sF p e)))).2.1
  cases f with
  |next=>obtain⟨a,j,k,L⟩:=A;exact l k L|cont=>obtain⟨a,j,k,L⟩:=A;exact l k L|brk=>obtain⟨a,j,k,A⟩:=A;exact⟨a,j,k.unpinned,A⟩|ret v=>obtain⟨x7,a,j,k,r7,A⟩:=A;exact⟨x7,a,j,k.unpinned,r7,A⟩
end
noncomputable abbrev R2:=V->V->Hp->VK->Prop
noncomputable def OpR(X:Cx)(f:Value->Value->a5H Value)(r:R2):Prop:=
 ∀(a6r:jw)(s:Wf)(σ:St)(H:Hp)(x y:V)(v u:Value)(Q:VK),Inv X a6r σ H s->RelV x v->RelV y u->r x y H Q->
  WI (WM X.prog X.w) X.A (f v u) (EP X a6r σ Q) X.xe s
noncomputable def v9(X:Cx)(f:Value->a5H Value)(r:V->Hp->VK->Prop):Prop:=
 ∀(a6r:jw)(s:Wf)(σ:St)(H:Hp)(x:V)(v:Value)(Q:VK),Inv X a6r σ H s->RelV x v->r x H Q->
  WI (WM X.prog X.w) X.A (f v) (EP X a6r σ Q) X.xe s
noncomputable def CallR(X:Cx)(f:Value)(r:gz->Hp->VK->Prop):Prop:=
 ∀(a6r:jw)(s:Wf)(σ:St)(H:Hp)(xs:gz)(us:gw)(Q:VK),Inv X a6r σ H s->Vals xs us->r xs H Q->
  WI (WM X.prog X.w) X.A (call f us) (EP X a6r σ Q) X.xe s
noncomputable def IF(X:Cx)(r:V->Hp->(Bool->Hp->Prop)->Prop):Prop:=
 ∀(a6r:jw)(s:Wf)(σ:St)(H:Hp)(x:V)(v:Value)(Q:Bool->Hp->Prop),Inv X a6r σ H s->RelV x v->r x H Q->
  WI (WM X.prog X.w) X.A (truthy v) (TP X a6r σ Q) X.xe s
noncomputable def pP(r:R2)(c d:TE):TE:=λσ H Q=>c σ H λx a=>d σ a λy b=>r x y b Q
noncomputable def IG(r:V->Hp->VK->Prop)(b:TE):TE:=λσ H Q=>b σ H λx a=>r x a Q
noncomputable def rI(C:Int->Int->Prop)(g:Int->Int->V):R2:=λx y H Q=>∃i j,x=.int i/\y=.int j/\C i j/\Q (g i j) H
noncomputable def gY(g:Int->Int->V):R2:=λx y H Q=>∃i j,x=.int i/\y=.int j/\Q (g i j) H
noncomputable def rU(g:Int->V):V->Hp->VK->Prop:=λx H Q=>∃i,x=.int i/\Q (g i) H
section
variable{X:Cx}{a b c:Expr}{ta tb tc:TE}{pos:XX}
theorem wA(n:PE X a ta)(o:PE X b tb){a6r:jw}{s:Wf}{σ:St}{H:Hp}{R:V->V->Hp->Prop}(I:Inv X a6r σ H s)
  (h:ta σ H λx j=>tb σ j λy d=>R x y d){Q:Value->Wf->Prop}{f:Value->Value->a5H Value}
  (p:∀v u i x y d,Inv X a6r σ d i->RelV x v->RelV y u->R x y d->WI (WM X.prog X.w) X.A (f v u) Q X.xe i) :
  WI (WM X.prog X.w) X.A (eval a X.env) (λv e=>WI (WM X.prog X.w) X.A (eval b X.env) (λu g=>WI (WM X.prog X.w) X.A (f v u) Q X.xe g) X.xe e) X.xe s:=by
 refine aR (n a6r s σ H _ I h) λv A ⟨x,j,k,w,q⟩=>?_;refine aR (o a6r A σ j _ k q) λu i ⟨y,d,l,z,r⟩=>?_;exact p v u i x y d l w z r
theorem IH{op:a2U}{r:R2}(k:OpR X (ZE op) r)(i:PE X a ta)(j:PE X b tb):PE X (.BinOp a op b pos) (pP r ta tb):=by intro d s p H Q I h;exact wpAny_BinOp (wA i j I h λv u o x y e g l n q=>k d o p e x y v u Q g l n q)
theorem II{op:UnaryOp}{r:V->Hp->VK->Prop}(k:v9 X (unaryOp op) r)(j:PE X a ta):PE X (.UnaryOp op a pos) (IG r ta):=by intro d s e H Q I h;exact UnaryOp_ (aR (j d s e H _ I h) λv o ⟨x,g,i,n,l⟩=>k d o e g x v Q i n l)
theorem wB{f:Value->Value->a5H Value}{C:Int->Int->Prop}{g:Int->Int->Int}
  (d:∀(i j:Int)(t u:a3a)(s:Wf)(Q:Value->Wf->Prop)(E:Value->Wf->Prop),C i j->Q (.int (g i j) s.toks) {s with toks:=s.toks+1}->WI (WM X.prog X.w) X.A (f (.int i t) (.int j u)) Q E s) :
  OpR X f (rI C λi j=>.int (g i j)):=by
 intro e s o H x y v u Q I k l h;obtain⟨i,j,rfl,rfl,hc,q⟩:=h;obtain⟨t,rfl⟩:=k;obtain⟨n,rfl⟩:=l;exact d i j t n s _ _ hc ⟨.int (g i j),H,I.tok _,⟨_,rfl⟩,q⟩
theorem Bv{f:Value->Value->a5H Value}{g:Int->Int->Int}
  (d:∀(i j:Int)(t u:a3a)(s:Wf)(Q:Value->Wf->Prop)(E:Value->Wf->Prop),Q (.int (g i j) s.toks) {s with toks:=s.toks+1}->WI (WM X.prog X.w) X.A (f (.int i t) (.int j u)) Q E s) :
  OpR X f (gY λi j=>.int (g i j)):=by
 intro e s o H x y v u Q I k l h;obtain⟨i,j,rfl,rfl,q⟩:=h;obtain⟨t,rfl⟩:=k;obtain⟨n,rfl⟩:=l;exact d i j t n s _ _ ⟨.int (g i j),H,I.tok _,⟨_,rfl⟩,q⟩
theorem sG{f:Value->Value->a5H Value}{g:Int->Int->Bool}
  (d:∀(i j:Int)(t u:a3a)(s:Wf)(Q:Value->Wf->Prop)(E:Value->Wf->Prop),Q (.bool (g i j)) s->WI (WM X.prog X.w) X.A (f (.int i t) (.int j u)) Q E s) :
  OpR X f (gY λi j=>.bl (g i j)):=by
 intro e s o H x y v u Q I k l h;obtain⟨i,j,rfl,rfl,q⟩:=h;obtain⟨t,rfl⟩:=k;obtain⟨n,rfl⟩:=l;exact d i j t n s _ _ ⟨.bl (g i j),H,I,rfl,q⟩
noncomputable def CMul(i j:Int):Prop:=(-(2^64)<i/\i<2^64)\/(-(2^64)<j/\j<2^64)
theorem CMul.ok{i j:Int}(h:CMul i j):a4D i j:=by
 rcases h with⟨d,e⟩|⟨d,e⟩
 .exact .of_left (intBits_le_64 d e)
 .exact .of_right (intBits_le_64 d e)
theorem op_add:OpR X (ZE .Add) (gY λi j=>.int (i+j)):=Bv λ_ _ _ _ _ _ _ q=>add_int q
theorem IJ:OpR X (ZE .Sub) (gY λi j=>.int (i-j)):=Bv λ_ _ _ _ _ _ _ q=>sub_int q
theorem IK:OpR X (ZE .Mod) (rI (λ_ j=>0<j) λi j=>.int (i%j)):=wB λi j _ _ _ _ _ hc q=>by have d:(0:Int)<j:=hc;exact mod_int' (by lia) (by rw[Int.fmod_eq_emod_of_nonneg i (by lia)];exact q)
theorem n6{f:Value->a5H Value}{g:Int->Int}
  (d:∀(i:Int)(t:a3a)(s:Wf)(Q:Value->Wf->Prop)(E:Value->Wf->Prop),Q (.int (g i) s.toks) {s with toks:=s.toks+1}->WI (WM X.prog X.w) X.A (f (.int i t)) Q E s) :
  v9 X f (rU λi=>.int (g i)):=by
 intro e s k H x v Q I j h;obtain⟨i,rfl,q⟩:=h;obtain⟨t,rfl⟩:=j;exact d i t s _ _ ⟨.int (g i),H,I.tok _,⟨_,rfl⟩,q⟩
theorem IL:v9 X (unaryOp .USub) (rU λi=>.int (-i)):=n6 λ_ _ _ _ _ q=>neg_int q
end
section
variable{X:Cx}{a b c:Expr}{ta tb tc:TE}{pos:XX}
theorem mS{a6r:jw}{σ:St}{H:Hp}{s:Wf}{Q:VK}{k k':Bool}(I:Inv X a6r σ H s)(q:Q (.bl k) H)(e:k=k'):EP X a6r σ Q (.bool k') s:=by subst e;exact⟨.bl k,H,I,rfl,q⟩
theorem wC:OpR X (Xs .Lt) (gY λi j=>.bl (decide (i<j))):=sG λ_ _ _ _ _ _ _ q=>lt_int q
theorem wD:OpR X (Xs .LtE) (gY λi j=>.bl (decide (i<=j))):=sG λ_ _ _ _ _ _ _ q=>le_int q
theorem wF:OpR X (Xs .Gt) (gY λi j=>.bl (decide (j<i))):=sG λ_ _ _ _ _ _ _ q=>gt_int q
theorem wG:OpR X (Xs .GtE) (gY λi j=>.bl (decide (j<=i))):=sG λ_ _ _ _ _ _ _ q=>ge_int q
theorem Bw:OpR X (Xs .In) (λx y H Q=>∃i j,x=.str i/\y=.str j/\Q (.bl (!(XN j i 0 j.length 1).isEmpty)) H):=by intro d s l H x y v u Q I e g h;obtain⟨i,j,rfl,rfl,q⟩:=h;obtain⟨t,rfl⟩:=e;obtain⟨k,rfl⟩:=g;exact in_str (mS I q rfl)
theorem Bx:OpR X (Xs .Is) (λx y H Q=>y=.non/\Q (.bl (decide (x=.non))) H):=by
 intro e s i H x y v u Q I d g h;obtain⟨rfl,q⟩:=h;cases g;refine is_none_gen (mS I q ?_);cases x<;>first
  |(cases d;rfl)|(obtain⟨t,rfl⟩:=d;rfl)
theorem By:OpR X (Xs .IsNot) (λx y H Q=>y=.non/\Q (.bl (!decide (x=.non))) H):=by
 intro e s i H x y v u Q I d g h;obtain⟨rfl,q⟩:=h;cases g;refine isnot_none_gen (mS I q ?_);cases x<;>first
  |(cases d;rfl)|(obtain⟨t,rfl⟩:=d;rfl)
theorem OpR.or{f:Value->Value->a5H Value}{r e:R2}(h:OpR X f r)(h':OpR X f e):OpR X f (λx y H Q=>r x y H Q\/e x y H Q):=by
 intro d s j H x y v u Q I g i q;rcases q with q|q
 .exact h d s j H x y v u Q I g i q
 .exact h' d s j H x y v u Q I g i q
theorem eH(b:Expr){op:ZH}(h:op≠.In:=by decide)(g:op≠.NotIn:=by decide):Za op b=false:=by
 have d:(op==CmpOp.In)=false:=by cases op<;>first|rfl|exact absurd rfl h
 have e:(op==CmpOp.NotIn)=false:=by cases op<;>first|rfl|exact absurd rfl g
 cases b<;>simp[Za,d,e]
theorem IM{op:ZH}{r:R2}(l:OpR X (Xs op) r)(i:PE X a ta)(j:PE X b tb)(k:Za op b=b4):PE X (.Compare a [op] [b] pos) (pP r ta tb):=by intro d s w H Q I h;exact a6g (wA i j I h λv u p x y e g n o q=>l d p w e x y v u Q g n o q) k
noncomputable def Bz(t:TE):TT:=λσ H Q=>t σ H λx d=>∃k,x=.bl k/\Q k d
theorem IP{op:ZH}{r:R2}(B:OpR X (Xs op) r)(q:PE X a ta)(w:PE X b tb)(A:Za op b=b4):PT X (.Compare a [op] [b] pos) (Bz (pP r ta tb)):=by
 intro d s g H Q I h;refine wpAny_isTrue_Compare1 (aR (q d s g H _ I h) λv N ⟨x,i,n,K,E⟩=>aR (w d N g i _ n E) λu O ⟨y,j,o,L,G⟩=>
  aR (B d O g j x y v u _ o K L G) λc R ⟨z,l,p,M,k,e,J⟩=>?_) A
 subst e;cases M;exact XH ⟨l,p,J⟩
noncomputable def wH(r i:R2)(ta tb tc:TE):TE:=λσ H Q=>ta σ H λx e=>tb σ e λy g=>r x y g λz d=>∃k,z=.bl k /\
 (if k=b5 then tc σ d λj h=>i y j h Q else Q (.bl b4) d)
theorem IQ{op i:ZH}{r q:R2}(O:OpR X (Xs op) r)(l:OpR X (Xs i) q)(L:PE X a ta)(M:PE X b tb)(hc:PE X c tc)
  (N:a5s [op,i] [b,c]=false:=by with_unfolding_all rfl):PE X (.Compare a [op,i] [b,c] pos) (wH r q ta tb tc):=by
 intro g s j H Q I h;refine Compare_chain (aR (L g s j H _ I h) λv s1 ⟨x,A,G,Y,R⟩=>chain_link (aR (M g s1 j A _ G R) λu s2 ⟨y,B,J,w,T⟩=>
  aR (O g s2 j B x y v u _ J Y w T) λd s3 ⟨z,n,o,Z,k,e,p⟩=>?_)) N
 subst e;cases Z;refine XH ?_;cases k with
 |false=>exact ite_ff ⟨.bl b4,n,o,rfl,p⟩|true=>exact ite_tt (chain_last (aR (hc g s3 j n _ o p) λw' s4 ⟨z',E,K,r4,U⟩=>l g s4 j E y z' u w' Q K w r4 U))
theorem IS{op i:ZH}{r q:R2}(Y:OpR X (Xs op) r)(l:OpR X (Xs i) q)(R:PE X a ta)(T:PE X b tb)(hc:PE X c tc)
  (U:a5s [op,i] [b,c]=false:=by with_unfolding_all rfl):PT X (.Compare a [op,i] [b,c] pos) (Bz (wH r q ta tb tc)):=by
 intro g s j H Q I h;refine isTrue_chain (aR (R g s j H _ I h) λv s1 ⟨x,A,J,r1,q1⟩=>test_link (aR (T g s1 j A _ J q1) λu s2 ⟨y,B,K,w,q2⟩=>
  aR (Y g s2 j B x y v u _ K r1 w q2) λd s3 ⟨z,n,o,r3,k,e,p⟩=>?_)) U
 subst e;cases r3;refine XH ?_;cases k with
 |false=>obtain⟨k',N,Z⟩:=p;cases N;exact ite_ff ⟨n,o,Z⟩|true=>refine ite_tt (test_last (aR (hc g s3 j n _ o p) λw' s4 ⟨z',E,L,r4,q4⟩=>aR (l g s4 j E y z' u w' _ L w r4 q4) λd' s5 ⟨z2,G,M,r5,k2,O,q5⟩=>?_));subst O;cases r5;exact XH ⟨G,M,q5⟩
noncomputable def wI(K:V8)(x:V)(H:Hp)(k:Bool):Prop:=
 match x with
 |.non=>k=b4|.bl b=>k=b|.int i=>k=(i != 0)|.str y=>y.length<=Wq/\k=((y.length:Int) != 0)|.byt y=>y.size<=Wq/\k=((y.size:Int) != 0)|.ref p=>(∃e,SqL K H p e/\k=!e.isEmpty)\/(∃e,SqT K H p e/\k=!e.isEmpty)\/∃d,H p=b0 (.dK d)/\k=!d.isEmpty|_=>False
theorem IT{κ:Type}{kvs:List (κ×V)}{vs:List (κ×Value)}(r:KV kvs vs):(!vs.isEmpty)=!kvs.isEmpty:=by cases r<;>rfl
theorem BA{xs:gz}{its:gw}(r:Vals xs its):(!its.toArray.isEmpty)=!xs.isEmpty:=by cases r<;>simp
theorem lH:(Wq:Nat)<2^63:=by rw[Wv];decide
theorem IU:IF X (λx H Q=>∃k,wI X.K x H k/\Q k H):=by
 intro B s L H x v Q I n h;obtain⟨k,e,q⟩:=h;have J:=lH;have K:Wq=16777216:=Wv;cases x with
 |non=>cases n;have d:k=false:=e;subst d;exact truthy_none ⟨H,I,q⟩|bl b=>cases n;have d:k=b:=e;subst d;exact XH ⟨H,I,q⟩|int i=>obtain⟨t,rfl⟩:=n;have d:k=(i != 0):=e;subst d;exact PySem.P.truthy_int ⟨H,I,q⟩|str y=>obtain⟨t,rfl⟩:=n;obtain⟨G,d⟩:y.length<=Wq/\k=((y.length:Int) != 0):=e;subst d;exact PySem.P.truthy_str (by lia) ⟨H,I.tok _,q⟩|byt y=>obtain⟨t,rfl⟩:=n;obtain⟨G,d⟩:y.size<=Wq/\k=((y.size:Int) != 0):=e;subst d;exact PySem.W.truthy_bytes (by lia) ⟨H,I.tok _,q⟩|ref p=>
  cases n;have d:(∃l,SqL X.K H p l/\k=!l.isEmpty)\/(∃l,SqT X.K H p l/\k=!l.isEmpty)\/∃g,H p=b0 (.dK g)/\k=!g.isEmpty:=e;rcases d with⟨l,o,d⟩|⟨l,o,d⟩|⟨g,o,d⟩
  .subst d;obtain⟨w,r,z,A⟩:=I.list o;have j:=r.length;exact wpAny_truthy_list z.isList (by simp only[Ww];lia) ⟨H,I.tok _,by rw[BA r];exact q⟩
  .subst d;obtain⟨w,r,z,A⟩:=I.tuple o;have j:=r.length;exact truthy_tuple z (by simp only[Ww];lia) ⟨H,I.tok _,by rw[BA r];exact q⟩
  .subst d;obtain⟨A,E,u,r,m⟩:g.length<=Wq/\(p==XB)=b4/\∃u,KV g u/\s.heap.DictOf (f9 X.prog X.w) p u:=I.hok p _ o;have j:g.length=u.length:=a2b r;exact wpAny_truthy_dict E m (by lia) ⟨H,I.tok _,by rw[IT r];exact q⟩
 |_=>exact(show False from e).elim
theorem IV(n:PE X a ta)(o:∀d,a3Q a X.env d=(do let v <- d;standAt a.pos;holding [v] (truthy v))) :
  PT X a (λg H Q=>ta g H λx i=>∃k,wI X.K x i k/\Q k i):=by
 intro e s g H Q I h;exact isTrue_plain (aR (n e s g H _ I h) λv r ⟨x,j,l,q,p⟩=>IU e r g j x v Q l q p) (o _)
theorem op_add_str:OpR X (ZE .Add) (λx y H Q=>∃i j,x=.str i/\y=.str j/\i.length+j.length<=Wq/\Q (.str (i++j)) H):=by intro d s o H x y v u Q I g k h;obtain⟨i,j,rfl,rfl,e,q⟩:=h;obtain⟨t,rfl⟩:=g;obtain⟨l,rfl⟩:=k;exact add_str (λl n=>⟨.str (i++j),H,I.tok _,⟨_,rfl⟩,q⟩) e
theorem fV{x:V}{us:gw}(r:Vals [x] us):∃u,us=[u]/\RelV x u:=by
 cases r with
 |cons d e=>cases e;exact⟨_,rfl,d⟩
theorem pQ{x y:V}{us:gw}(r:Vals [x,y] us):∃u d,us=[u,d]/\RelV x u/\RelV y d:=by
 cases r with
 |cons e g=>
  cases g with
  |cons h i=>cases i;exact⟨_,_,rfl,e,h⟩
theorem IW(hc:X.calm=b5):CallR X (.builtin "max") (λxs H Q=>∃i j,xs=[.int i,.int j]/\Q (.int (if j>i then j else i)) H):=by
 intro e s v H xs o Q I r h;obtain⟨i,j,rfl,q⟩:=h;obtain⟨u,p,rfl,⟨t,rfl⟩,⟨l,rfl⟩⟩:=pQ r;refine max_two_ints (I.ok.hd hc) λg n k=>⟨_,H,I.kept k,?_,q⟩;by_cases d:j>i
 .rw[if_pos d,if_pos d];exact⟨_,rfl⟩
 .rw[if_neg d,if_neg d];exact⟨_,rfl⟩
theorem IX(hc:X.calm=b5):CallR X (.builtin "min") (λxs H Q=>∃i j,xs=[.int i,.int j]/\Q (.int (if j<i then j else i)) H):=by
 intro e s v H xs o Q I r h;obtain⟨i,j,rfl,q⟩:=h;obtain⟨u,p,rfl,⟨t,rfl⟩,⟨l,rfl⟩⟩:=pQ r;refine min_two_ints (I.ok.hd hc) λg n k=>⟨_,H,I.kept k,?_,q⟩;by_cases d:j<i
 .rw[if_pos d,if_pos d];exact⟨_,rfl⟩
 .rw[if_neg d,if_neg d];exact⟨_,rfl⟩
theorem IY:CallR X (.type "int") (λxs H Q=>(∃i,xs=[.int i]/\Q (.int i) H)\/∃k,xs=[.bl k]/\Q (.int (if k then 1 else 0)) H):=by
 intro d s j H xs g Q I r h;rcases h with⟨i,rfl,q⟩|⟨k,rfl,q⟩
 .obtain⟨u,rfl,t,rfl⟩:=fV r;exact call_int_int ⟨.int i,H,I,⟨_,rfl⟩,q⟩
 .obtain⟨u,rfl,e⟩:=fV r;cases e;exact call_int_bool ⟨.int (if k then 1 else 0),H,I.tok _,⟨_,rfl⟩,q⟩
end
structure ObjM(h:Xo)(x dx C:Addr)(mA:Str->Option Value):Prop where
 obj:h.get? x=b0 (a3C C dx)
 ns:h.Ns1 dx mA
 ne:dx≠x
section
variable{prog:WL}{w:WX}{A:WY}{E:Value->Wf->Prop}{s:Wf}{K:V8}{x dx C f:Addr}{mA:Str->Option Value}{name:Str}{v:Value}
end
theorem RelO.some_of{v:V}{o:Option Value}(r:RelO (b0 v) o):∃u,o=b0 u/\RelV v u:=by
 cases o with
 |none=>exact(show False from r).elim|some u=>exact⟨u,rfl,r⟩
section
variable{P:WL}{w:WX}{H H':Hp}{h h':Xo}{a C dx:Addr}{fs fs':List (Str×V)}
end
structure Cls(K:V8)(C:Addr):Prop where
 pg:PySem.W.plainGet K C Str.empty=b5
 hd:PySem.W.hasDictIn K C=b5
 po:PySem.W.plainOver K C=b5
 sa:Z1 K (.ref C) "__setattr__"=b0 (b0 (.builtin "object.__setattr__"))
structure Con(K:V8)(C:Addr)(f:Str)(v:V)(u:Value):Prop where
 at_:Z1 K (.ref C) f=b0 (b0 u)
 rel:RelV v u
 get:a3c K u "__get__"=b0 b3
 cp:PySem.W.copiedNames.contains f=b4
structure Meth(K:V8)(C:Addr)(m:Str)(f:Addr):Prop where
 at_:Z1 K (.ref C) m=b0 (b0 (.ref f))
 fn:a4y K (.ref f)=b5
 kp:X8 K (.ref f)=b5
section
variable{X:Cx}{a6r:jw}{σ:St}{H:Hp}{s:Wf}{a C dx:Addr}{fs:List (Str×V)}{f:Str}{v:V}{A:WY}{E:Value->Wf->Prop}
end
section
variable{X:Cx}{o e value:Expr}{f:Str}{pos pos' tpos:XX}{ta tv:TE}
end
section
variable{X:Cx}{a6r:jw}{σ:St}{H:Hp}{s:Wf}{A:WY}{E:Value->Wf->Prop}{Q:Value->Wf->Prop}{c:Value}{b:Bool}
inductive TyOf (K:V8)(H:Hp):V->Value->Prop where
 |non:TyOf K H .non (.type "NoneType")
 |bl (x:Bool):TyOf K H (.bl x) (.type "bool")
 |int (i:Int):TyOf K H (.int i) (.type "int")
 |str (x:Str):TyOf K H (.str x) (.type "str")
 |flt (x:UInt64):TyOf K H (.flt x) (.type "float")
 |lst {a:Addr}{xs:gz}(e:H a=b0 (.lst xs)):TyOf K H (.ref a) (.type "list")
 |frz {a:Addr}{o:Obj}{xs:gz}(e:H a=b0 (.frz o (.lst xs))):TyOf K H (.ref a) (.type "list")
 |tup {a:Addr}{xs:gz}(e:H a=b0 (.tup xs)):TyOf K H (.ref a) (.type "tuple")
 |dK {a:Addr}{kvs:List (bG×V)}(e:H a=b0 (.dK kvs)):TyOf K H (.ref a) (.type "dict")
 |dT {a:Addr}{kvs:List (List bG×V)}(e:H a=b0 (.dT kvs)):TyOf K H (.ref a) (.type "dict")
 |ins {a C dx:Addr}{fs:List (Str×V)}(e:H a=b0 (.ins C dx fs))(cl:Cls K C)(ha:Z1 K (.ref C) "__class__"=b0 (b0 (.builtin "object.__class__")))
   (hn:a3c K (.builtin "object.__class__") "__get__"=b0 (b0 (.builtin "getset_descriptor.__get__"))) (htk:PySem.W.takesIn K (.builtin "object.__class__")=b0 b5)
   (hm:PySem.W.mroIn K C (.type "object")=b0 b5):TyOf K H (.ref a) (.ref C)
end
structure Room(k:Nat)(A:WY):Prop where
 hd:A.handled=b3
 dp:A.depth+3*k+5<a6j
 un:A.units+16*k+200<XM
theorem Room.deeper{k:Nat}{A:WY}(r:Room (k+1) A)(env:a1a):Room k (A.deeper env):=
 ⟨r.hd,by have:=r.dp;show A.depth+1+3*k+5<_;lia,by have:=r.un;show A.units+3+16*k+200<_;lia⟩
theorem Room.depth{k:Nat}{A:WY}(r:Room k A):A.depth<a6j:=by have:=r.dp;lia
theorem Room.units{k:Nat}{A:WY}(r:Room k A):A.units+64<XM:=by have:=r.un;lia
noncomputable def BB:TA:=λ_ H Q=>Q [] H
noncomputable def IZ(c:TE)(tr:TA):TA:=λσ H Q=>c σ H λx a=>tr σ a λxs b=>Q (x::xs) b
section
variable{X:Cx}{e:Expr}{es:List Expr}{te:TE}{t:TA}{pos:XX}
theorem Ja:PA X [] BB:=λ_ _ _ _ H Q I h=>a0e ⟨[],H,I,.nil,h⟩
theorem Jb(j:PE X e te)(k:PA X es t)(l:WU (e::es) X.env=(b4,eval e X.env)::WU es X.env:=by rfl):PA X (e::es) (IZ te t):=by intro pos a s b H Q I h;rw[l];show WI _ _ (spliced ((b4,eval e X.env)::YG pos (WU es X.env))) _ _ s;refine Z7 (aR (j a s b H _ I h) λu r ⟨x,c,g,p,n⟩=>?_);exact aR (k pos a r b c _ g n) λy w ⟨v,d,i,q,o⟩=>⟨x::v,d,i,.cons p q,o⟩
noncomputable def Jc(t:TA):TE:=λσ H Q=>t σ H λxs a=>xs.length<=Wq/\∀p,a p=b3->Q (.ref p) (aK a p (.tup xs))
noncomputable def Jd(t:TA):TE:=λσ H Q=>t σ H λxs a=>xs.length<=Wq/\∀p,a p=b3->Q (.ref p) (aK a p (.lst xs))
theorem Je{x1} (h:PA X es t):PE X (.Tuple es x1 pos) (Jc t):=by intro c s n H Q I j;refine wpAny_Tuple_spliced (aR (h pos c s n H _ I j) λk a ⟨l,d,g,r,z,q⟩=>⟨by rw[<- r.length];exact z,?_⟩);have i:d a.heap.objs.size=none:=g.hok.fresh (Wh _);refine⟨.ref a.heap.objs.size,aK d a.heap.objs.size (.tup l),g.laid (t':=a.toks) (λb u e=>Wc _ e) (Wh _) ?_,rfl,q _ i⟩;exact⟨z,k,r,⟨_,Wn _ rfl,rfl,_,rfl,rfl⟩⟩
theorem Jf(h:PA X es t):PE X (.List es pos) (Jd t):=by intro c s n H Q I j;refine wpAny_List_spliced (aR (h pos c s n H _ I j) λk a ⟨l,d,g,r,z,q⟩=>⟨by rw[<- r.length];exact z,?_⟩);have i:d a.heap.objs.size=none:=g.hok.fresh (Wh _);refine⟨.ref a.heap.objs.size,aK d a.heap.objs.size (.lst l),g.laid (t':=a.toks) (λb u e=>Wc _ e) (Wh _) ?_,rfl,q _ i⟩;exact⟨z,k,0,r,Wn _ rfl⟩
end
noncomputable abbrev Sp:=List V->Hp->VK->XK->Prop
noncomputable abbrev jO:=List a1a->Hp->Wf->XK->Value->Wf->Prop
structure Env0(P:WL)(w:WX)(K:V8)(mg:Str->Option Value)(base:Xo)(A:WY)(outer:List a1a)(s:Wf)(H:Hp):Prop where
 frames:A.frames=b0 outer
 mod:Mod K mg base
 bs:∀b o,base.get? b=b0 o->s.heap.get? b=b0 o/\H b=b3
 bsz:base.objs.size<=s.heap.objs.size
 funs:s.heap.FunFrames base outer
 frf:∀b∈iE outer,H b=b3
 hok:HOk P w H s.heap
 bare:a1n s.gens
inductive CE (outer:List a1a)(P:WL)(w:WX)(H:Hp)(s:Wf)(Q:VK)(u:Value)(s':Wf):Prop
 |mk (v:V)(H':Hp)(o:s'.os=s.os)(b:a1n s'.gens)(n:Un (iE outer) [] H H' s.heap s'.heap)(k:HOk P w H' s'.heap)(r:RelV v u)(q:Q v H'):CE outer P w H s Q u s'
noncomputable def CR(CX:jO)(outer:List a1a)(P:WL)(w:WX)(H:Hp)(s:Wf)(Q:VK)(E:XK)(r:a1h)(a:Wf):Prop:=
 match r with
 |.ok (.ret u)=>CE outer P w H s Q u a|.ok _=>False|.error e=>CX outer H s E e a
structure FnOk(P:WL)(w:WX)(K:V8)(mg:Str->Option Value)(base:Xo)(CX:jO)(k:Nat)(f:Addr)(fd:YI)(ps:List Str)(sp:Sp):Prop where
 len:∀vs H Q E,sp vs H Q E->vs.length=ps.length
 run:∀(A:WY)(outer:List a1a)(s:Wf)(H:Hp)(args:Args)(us:gw)(vs:gz)(Q:VK)(E:XK),Room k A->Env0 P w K mg base A outer s H->a1Y s fd args (ps.zip us)->Vals vs us->sp vs H Q E->
  Zq (WM P w) A (.call (.ref f) args) (CR CX outer P w H s Q E) s
section
variable{X:Cx}{a6r:jw}{σ:St}{H:Hp}{s s':Wf}
theorem Inv.env0(I:Inv X a6r σ H s):Env0 X.prog X.w X.K X.mg X.base X.A X.stack s H:=
 ⟨I.ok.frames,I.ok.mod,I.bs,W7 I.ok.bsz I.sz,I.stack,I.stkFree,I.hok,I.bare⟩
theorem Inv.after{Q:VK}{u:Value}(I:Inv X a6r σ H s)(h:CE X.stack X.prog X.w H s Q u s'):EP X a6r σ Q u s':=by obtain⟨v,i,k,a,un,c,r,q⟩:=h;obtain⟨j,g,d,t,e⟩:=s';obtain rfl:e=s.os:=k;exact⟨v,i,I.call (h':=j) (g':=g) (d':=d) (t':=t) (ch:=[]) un c a (λb z=>absurd z (by simp)),r,q⟩
end
noncomputable def wJ(sp:Sp)(a:gz)(E:XK)(t:TA):TE:=λσ H Q=>t σ H λvs b=>sp (vs++a) b Q E
noncomputable def Binds(K:V8)(a:YI)(ps:List Str)(ds:gw):Prop:=
 ∀(s:Wf)(us:gw),K.In s.heap->(us++ds).length=ps.length->a1Y s a ⟨us,[]⟩ (ps.zip (us++ds))
theorem Binds.all{K:V8}{a:YI}{ps:List Str}(h:∀us:gw,us.length=ps.length->a4w a ⟨us,[]⟩=pure (ps.zip us)):Binds K a ps []:=λs us _ b=>by rw[XG]at b ⊢;exact .of_eq (h us b)
noncomputable def sH(CX:jO)(X:Cx)(E:XK):Prop:=∀(a6r:jw)(σ:St)(H:Hp)(s:Wf)(e:Value)(a:Wf),Inv X a6r σ H s->CX X.stack H s E e a->X.xe e a
section
variable{X:Cx}{CX:jO}{k:Nat}{f C:Addr}{fd:YI}{ps:List Str}{sp:Sp}{dvs:gz}{ds:gw}{E:XK}{x m:Str}{p pos apos:XX}{e o:Expr}{es:List Expr}{ta:TE}{t:TA}
theorem BC{a6r:jw}{σ:St}{H:Hp}{s:Wf}{Q:VK}{us:gw}{vs:gz}(F:FnOk X.prog X.w X.K X.mg X.base CX k f fd ps sp)(i:Room k X.A)(d:Binds X.K fd ps ds)(hd:Vals dvs ds)(j:sH CX X E)
  (I:Inv X a6r σ H s)(r:Vals vs us)(h:sp (vs++dvs) H Q E):WI (WM X.prog X.w) X.A (call (.ref f) us) (EP X a6r σ Q) X.xe s:=by
 have b:Vals (vs++dvs) (us++ds):=r.append hd;have g:(us++ds).length=ps.length:=by rw[<- b.length];exact F.len _ _ _ _ h
 refine wpAny_call (a1P (F.run X.A X.stack s H ⟨us,[]⟩ (us++ds) (vs++dvs) Q E i I.env0 (d s us I.kIn g) b h) λr l a=>?_);cases r with
 |error e=>exact j a6r σ H s e l I a|ok c=>
  cases c with
  |ret u=>exact I.after a|next=>exact Ys a|brk=>exact Ys a|cont=>exact Ys a
theorem Jg(F:FnOk X.prog X.w X.K X.mg X.base CX k f fd ps sp)(v:Room k X.A)(l:Gl X x)(u:X.mg x=b0 (.ref f))(n:X8 X.K (.ref f)=b5)(i:Binds X.K fd ps ds)(hd:Vals dvs ds)(w:sH CX X E)
  (g:PA X (e::es) t)(b:(x==("__debug__":Str))=false:=by decide) (j:WU (e::es) X.env=(b4,eval e X.env)::WU es X.env:=by rfl)(c:(YG pos (WU es X.env)).any (·.1)=false:=by rfl) :
  PE X (.Call (.Name x p) (e::es) [] pos) (wJ sp dvs E t):=by
 intro a s y H Q I h;refine Yo (pL I l u ?_ b);refine PySem.W.callWith_K (h₀:=X.base) I.ok.mod.kin n (aR (g pos a s y H _ I h) λB A ⟨G,z,d,r,q⟩=>⟨d.kIn,?_⟩) j c;exact BC F v i hd w d r q
theorem Jh(F:FnOk X.prog X.w X.K X.mg X.base CX k f fd ps sp)(j:Room k X.A)(d:Gl X x)(i:X.mg x=b0 (.ref f))(g:X8 X.K (.ref f)=b5)(c:Binds X.K fd ps ds)(hd:Vals dvs ds)(l:sH CX X E)
  (a:(x==("__debug__":Str))=false:=by decide):PE X (.Call (.Name x p) [] [] pos) (wJ sp dvs E BB):=by
 intro b s n H Q I h;refine Yo (pL I d i ?_ a);exact PySem.W.callWith_K0 I.kIn g (BC (us:=[]) F j c hd l I .nil h)
structure Mk(K:V8)(C f:Addr):Prop where
 makes:PySem.W.makesIn K C=b5
 init:Z1 K (.ref C) "__init__"=b0 (b0 (.ref f))
 fn:a4y K (.ref f)=b5
 kp:X8 K (.ref C)=b5
end
section
variable{X:Cx}{CX:jO}{k:Nat}{f C:Addr}{fd:YI}{ps ks:List Str}{sp:Sp}{E:XK}{x m:Str}{p pos apos kpos:XX}{e o:Expr}{es:List Expr}{kws:List Zv}{te ta:TE}{t tk:TA}{nm:Option Str}
structure KBinds(K:V8)(fd:YI)(ps ks:List Str)(g:gw->gw->gw)(gV:gz->gz->gz):Prop where
 to:∀(s:Wf)(us ws:gw),K.In s.heap->(g us ws).length=ps.length->a1Y s fd ⟨us,ks.zip ws⟩ (ps.zip (g us ws))
 rel:∀{vs:gz}{us:gw}{zs:gz}{ws:gw},Vals vs us->Vals zs ws->Vals (gV vs zs) (g us ws)
variable{g:gw->gw->gw}{gV:gz->gz->gz}
end
structure FnScope(N P:List Str)(sc:YH):Prop where
 kind:sc.kind=.function
 co:sc.isCoroutine=b4
 gen:sc.isGenerator=b4
 nd:N.Nodup
 pre:N.take P.length=P
 par:∀x∈P,sc.names.lookup x=b0 .local\/sc.names.lookup x=b0 .cell
 nofree:∀y∈sc.names,y.2≠.free
theorem BE{kindOf:Str->Option YL}{x:Str}:∀{a:List (Str×Value)}{m:Str->Option Value},(∀v,(x,v)∉a)->a3A kindOf a m x=m x
 |[],_,_=>rfl|(n,v)::r,m,h=>by
  unfold a3A;rw[BE λw hw=>h w (WV _ hw)];split
  .have:x≠n:=by rintro rfl;exact h v Xd
   simp[this]
  .rfl
theorem BF{kindOf:Str->Option YL}{x:Str}:∀{a:List (Str×Value)}{m:Str->Option Value},(∀v,(x,v)∉a)->a3B kindOf a m x=m x
 |[],_,_=>rfl|(n,v)::r,m,h=>by
  unfold a3B;rw[BF λw hw=>h w (WV _ hw)];split
  .rfl
  .have:x≠n:=by rintro rfl;exact h v Xd
   simp[this]
theorem BG{kindOf:Str->Option YL}{x:Str}{v:Value}:∀{P:List Str}{vs:gw}{i:Nat}{m:Str->Option Value},P.Nodup->P[i]?=b0 x->vs[i]?=b0 v->kindOf x=b0 .local->
  a3A kindOf (P.zip vs) m x=b0 v
 |[],_,_,_,_,h,_,_=>by simp at h
 |_::_,[],_,_,_,_,h,_=>by simp at h
 |p::P,w::vs,0,m,nd,h1,h2,hk=>by simp at h1 h2;subst h1;subst h2;show a3A kindOf ((p,w)::P.zip vs) m p=_;unfold a3A;rw[BE λv a=>(Xi.mp nd).1 (a1K a).1,if_pos hk];simp
 |p::P,w::vs,i+1,m,nd,h1,h2,hk=>by show a3A kindOf ((p,w)::P.zip vs) m x=_;unfold a3A;exact BG (i:=i) (Xi.mp nd).2 (by simpa using h1) (by simpa using h2) hk
theorem BH{kindOf:Str->Option YL}{x:Str}{v:Value}:∀{P:List Str}{vs:gw}{i:Nat}{m:Str->Option Value},P.Nodup->P[i]?=b0 x->vs[i]?=b0 v->kindOf x≠b0 .local->
  a3B kindOf (P.zip vs) m x=b0 v
 |[],_,_,_,_,h,_,_=>by simp at h
 |_::_,[],_,_,_,_,h,_=>by simp at h
 |p::P,w::vs,0,m,nd,h1,h2,hk=>by simp at h1 h2;subst h1;subst h2;show a3B kindOf ((p,w)::P.zip vs) m p=_;unfold a3B;rw[BF λv a=>(Xi.mp nd).1 (a1K a).1,if_neg hk];simp
 |p::P,w::vs,i+1,m,nd,h1,h2,hk=>by show a3B kindOf ((p,w)::P.zip vs) m x=_;unfold a3B;exact BH (i:=i) (Xi.mp nd).2 (by simpa using h1) (by simpa using h2) hk
noncomputable def start(N:List Str)(vs:gz):St:=vs.map b0++Ym (N.length-vs.length) b3
noncomputable def kL(CX:jO)(P:WL)(w:WX)(K:V8)(g:Str->Option Value)(base:Xo)(N:List Str)(a:Str)(scope:YH)(f:Addr)(c:Value)(A:WY)(outer:List a1a)(s:Wf)(H:Hp)(E:XK):Cx where
 prog:=P
 w:=w
 K:=K
 mg:=g
 base:=base
 A:=A.deeper (envOfC a scope s.heap.objs.size f c)
 N:=N
 s₀:=s
 H₀:=H
 env:=envOfC a scope s.heap.objs.size f c
 outer:=outer
 stack:=envOfC a scope s.heap.objs.size f c::outer
 ex:=[]
 calm:=b5
 fn:=λ_=>b5
 pn:=[]
 xe:=λe h=>WI (WM P w) (A.deeper (envOfC a scope s.heap.objs.size f c)) (leaving (envOfC a scope s.heap.objs.size f c) e) (λ_ b=>CX outer H s E e b) (λd b=>CX outer H s E d b) h
theorem BI{sc:YH}{n:Nat}{x:Str}(h:sc.names.lookup x=b0 .cell):∃c,(a5u n sc.names []).lookup x=b0 c:=by have q:=a2l sc.names n [] (.inl h);exact a2c.mp q
theorem Ji{CX:jO}{P:WL}{w:WX}{K:V8}{L:Str->Option Value}{base:Xo}{N ps:List Str}{d:Str}{scope:YH}{f:Addr}{G:Value}{A:WY}{outer:List a1a}{s Q:Wf}{H:Hp}{E:XK}{us:gw}{vs:gz}
  (S:FnScope N ps scope)(hd:A.handled=b3)(j:Env0 P w K L base A outer s H)(Y:vs.length=ps.length)(r:Vals vs us)
  (x:InCallC s s.heap.objs.size (a3A (envOfC d scope s.heap.objs.size f G).kindOf (ps.zip us) λ_=>b3) (a5u (s.heap.objs.size+1) scope.names []) (a3B (envOfC d scope s.heap.objs.size f G).kindOf (ps.zip us) λ_=>b3) Q) :
  Inv (kL CX P w K L base N d scope f G A outer s H E) [] (start N vs) H Q:=by
 have T:ps.length<=N.length:=by have:=congrArg Xm S.pre;rw[Xa]at this;lia
 obtain⟨I,Z,rfl,M⟩:=x.done;have n:∀b:Addr,b∉(kL CX P w K L base N d scope f G A outer s H E).ex:=λb z=>absurd (show b∈([]:List Addr)from z) (by simp);refine⟨⟨j.mod,S.kind,rfl,rfl,Wh _,λy z c I g=>?_,λy l=>?_,λy c _ h=>?_,λ_=>hd,Around.frames_deeper j.frames,.inr ⟨rfl,rfl⟩,λb z=>absurd z (n b),j.bs,j.bsz,λb _ _=>n b,λb z=>absurd z (n b),j.funs,j.frf⟩,
  rfl,j.bare,Un.kept M,⟨_,x.toInCall.ns,λi y v I g X=>?_⟩,λy c h=>⟨_,x.cell y c h⟩,j.hok.fresh (Wh _),λy c h=>?_,λp o=>absurd (show p∈([]:jw)from o) (by simp),j.hok.kept M,?_⟩
 .exact name_of_addr x.apart (XD I) (XD g)
 .have l:scope.names.lookup y=b0 .cell\/scope.names.lookup y=b0 .free:=l;rcases l with l|l
  .exact BI l
  .exact absurd rfl (S.nofree _ (XD l))
 .exact Z5 (x.above y c (XD h))
 .have J:i<vs.length:=by
   unfold start at g;by_cases J:i<vs.length
   .exact J
   .rw[Ye (by simpa using J)]at g;rw[YR]at g;split at g<;>cases g
  have R:vs[i]?=b0 v:=by
   unfold start at g;rw[W8 (by simpa using J),Ws]at g;cases e:vs[i]? with
   |none=>rw[e]at g;cases g|some a=>rw[e]at g;cases g;rfl
  obtain⟨u,O,U⟩:=r.get R;have o:ps[i]?=b0 y:=by rw[<- S.pre,a2w (by lia)];exact I
  have B:ps.Nodup:=by rw[<- S.pre];exact S.nd.sublist (List.take_sublist _ _)
  refine⟨u,U,?_⟩;rcases S.par y (WS o)with k|k
  .exact .inl ⟨k,BG B o O k⟩
  .obtain⟨c,e⟩:=BI (n:=s.heap.objs.size+1) k;refine .inr ⟨.inl k,c,e,?_⟩;have q:=x.cell y c e;rw[BH B o O (by show scope.names.lookup y≠_;rw[k];decide)]at q;exact q
 .exact j.hok.fresh (Z5 (x.above y c (XD h)))
 .unfold start;show _=N.length;rw[Wo,V7,Yz];lia
theorem Jj{CX:jO}{P:WL}{w:WX}{K:V8}{G:Str->Option Value}{base:Xo}{k:Nat}{f:Addr}{name a:Str}{d:Arguments}{body:List Stmt}{scope:YH}{Z kV p pm c ct oc:Value}{an od:Option Addr}
  {R:Array (Option Value)}{N ps:List Str}{sp:Sp}(lk:K.lookup f=b0 ⟨oc,od,.func (X9 name a d body scope Z kV p pm an c ct),R⟩)(L:a0t K c a=b5)(S:FnScope N ps scope)
  (len:∀vs H Q E,sp vs H Q E->vs.length=ps.length)
  (i:∀(A:WY)(outer:List a1a)(s:Wf)(H:Hp)(vs:gz)(Q:VK)(E:XK),Room k (A.deeper (envOfC a scope s.heap.objs.size f c))->sp vs H Q E->
   ∃t,PSs (kL CX P w K G base N a scope f c A outer s H E) body t/\t {nx:=λ_ h=>Q .non h,rt:=Q} (start N vs) H) :
  FnOk P w K G base CX (k+1) f (X9 name a d body scope Z kV p pm an c ct) ps sp:=by
 refine⟨len,λA outer s H Y us vs Q E M z hb r B=>?_⟩;have hl:=len _ _ _ _ B;have X:K.In s.heap:=z.mod.kin.keeps λb o e=>(z.bs b o e).1;have O:s.heap.NoLimit:=z.mod.nolimit.keeps λb o e=>(z.bs b o e).1;have j:∀y∈ps.zip us,scope.names.lookup y.1=b0 .local\/(scope.names.lookup y.1=b0 .cell/\((a5u (s.heap.objs.size+1) scope.names []).lookup y.1).isSome=b5):=λ⟨n,v⟩ hy=>by
  rcases S.par n (a1K hy).1 with q|q
  .exact .inl q
  .exact .inr ⟨q,a2l _ _ _ (.inl q)⟩
 refine codeAny_call_function M.depth (X _ _ lk) rfl S.co S.gen rfl (PySem.W.codeRec_of X L) (hb _ _ _ _ ?_);refine wpAny_newFunctionEnv_cells S.kind j λenv he s1 x=>?_;subst he;refine⟨O.keeps x.toInCall.keep,codeAny_func ?_⟩;obtain⟨t,ht,hq⟩:=i A outer s H vs Q E (M.deeper _) B;have I:Inv (kL CX P w K G base N a scope f c A outer s H E) [] (start N vs) H s1:=Ji S M.hd z hl r x;refine Xz (ht [] s1 (start N vs) H _ I hq) (λfl U l=>?_) λe U l=>l;have fin:∀{g:St}{h:Hp}{v:V}{u:Value},Inv (kL CX P w K G base N a scope f c A outer s H E) [] g h U->RelV v u->Q v h->CE outer P w H s Q u U:=
  λ{g h v u} J T q=>⟨v,h,J.os,J.bare,J.base,J.hok,T,q⟩
 cases fl with
 |ret u=>obtain⟨v,g,h,J,T,q⟩:=l;exact fin J T q|next=>obtain⟨g,h,J,q⟩:=l;exact fin (v:=V.non) (u:=XT) J rfl q|brk=>obtain⟨_,_,_,q⟩:=l;exact Ys q|cont=>obtain⟨_,_,_,q⟩:=l;exact Ys q
section
variable{X:Cx}{x:Str}{p pos:XX}{e:Expr}{es:List Expr}{t:TA}{id T:String}{r:gz->Hp->VK->Prop}
noncomputable def sI(r:gz->Hp->VK->Prop)(t:TA):TE:=λσ H Q=>t σ H λvs a=>r vs a Q
theorem Jk(hc:CallR X (.builtin id) r)(l:Gl X x)(n:X.mg x=b3)(q:X0 x=b0 (.builtin id))(j:PA X (e::es) t)(o:x ≠ "__name__":=by decide) (b:(x==("__debug__":Str))=false:=by decide)
  (k:WU (e::es) X.env=(b4,eval e X.env)::WU es X.env:=by rfl)(c:(YG pos (WU es X.env)).any (·.1)=false:=by rfl):PE X (.Call (.Name x p) (e::es) [] pos) (sI r t):=by
 intro a s d H Q I h;refine Yo (iF I l n q ?_ o b);exact a0E (aR (j pos a s d H _ I h) λy w ⟨z,g,i,v,u⟩=>hc a w d g z y Q i v u) k c
theorem Jl(hc:CallR X (.type T) r)(l:Gl X x)(n:X.mg x=b3)(q:X0 x=b0 (.type T))(j:PA X (e::es) t)(o:x ≠ "__name__":=by decide) (b:(x==("__debug__":Str))=false:=by decide)
  (k:WU (e::es) X.env=(b4,eval e X.env)::WU es X.env:=by rfl)(c:(YG pos (WU es X.env)).any (·.1)=false:=by rfl):PE X (.Call (.Name x p) (e::es) [] pos) (sI r t):=by
 intro a s d H Q I h;refine Yo (iF I l n q ?_ o b);exact Xw (aR (j pos a s d H _ I h) λy w ⟨z,g,i,v,u⟩=>hc a w d g z y Q i v u) k c
end
section
variable{κ:Type} [DecidableEq κ]
noncomputable def iG(kvs:List (κ×V))(k:κ):Option V:=(kvs.find? λa=>decide (a.1=k)).map (·.2)
theorem Jm{p:κ×V}{r:List (κ×V)}{k:κ}(e:p.1=k):iG (p::r) k=b0 p.2:=by simp[iG,Xr,e]
theorem Jn{p:κ×V}{r:List (κ×V)}{k:κ}(e:¬ p.1=k):iG (p::r) k=iG r k:=by simp[iG,Xr,e]
theorem RelO.isSome_eq{o:Option V}{u:Option Value}(r:RelO o u):o.isSome=u.isSome:=by
 cases o with
 |none=>cases u with
  |none=>rfl|some _=>exact(show False from r).elim
 |some _=>cases u with
  |none=>exact(show False from r).elim|some _=>rfl
theorem RelO.getD{o:Option V}{u:Option Value}{d:V}{d':Value}(r:RelO o u)(a:RelV d d'):RelV (o.getD d) (u.getD d'):=by
 cases o with
 |none=>cases u with
  |none=>exact a|some _=>exact(show False from r).elim
 |some _=>cases u with
  |none=>exact(show False from r).elim|some _=>exact r
theorem KV.val{kvs:List (κ×V)}{vs:List (κ×Value)}(r:KV kvs vs)(k:κ):RelO (iG kvs k) (a1j vs k):=by
 unfold KV at r;induction r with
 |nil=>exact Zb|@cons p q j c h t i=>
  obtain⟨d,g⟩:=h;by_cases e:p.1=k
  .have a:q.1=k:=d.symm.trans e;have b:a1j (q::c) k=b0 q.2:=by simp[a1j,Xr,a]
   rw[Jm e,b];exact g
  .have a:¬ q.1=k:=λz=>e (d.trans z);have b:a1j (q::c) k=a1j c k:=by simp[a1j,Xr,a]
   rw[Jn e,b];exact i
theorem KV.length{kvs:List (κ×V)}{vs:List (κ×Value)}(r:KV kvs vs):kvs.length=vs.length:=a2b r
end
theorem BJ{P:WL}{w:WX}{k:bG}{u:Value}(r:RelV (kV k) u):(f9 P w).is k u=true:=by
 cases k with
 |inl i=>obtain⟨t,e⟩:=(show ∃t,u=W5 i t from r);subst e;exact Ho P w i t|inr x=>obtain⟨t,e⟩:=(show ∃t,u=a0l x t from r);subst e;exact Hq P w x t
section
variable{P:WL}{w:WX}{H:Hp}{h:Xo}{a:Addr}
end
section
variable{X:Cx}{a6r:jw}{σ:St}{H:Hp}{s:Wf}{a:Addr}{y v:V}{u r:Value}{o:Option V}{A:WY}{E:Value->Wf->Prop}
theorem Inv.big(I:Inv X a6r σ H s):XB<s.heap.objs.size:=by have h:XI<s.heap.objs.size:=(I.mod.glob.keeps I.bk).lt;exact a1r (by decide) h
theorem wK{h':Xo}{t':Nat}{c:HO}(I:Inv X a6r σ H s)(h:pK (H a))(g:YU a s.heap h')(e:∃q,h'.get? a=b0 q)(new:ObjOk X.prog X.w (aK H a c) h' a c) :
  Inv X a6r σ (aK H a c) {s with heap:=h',toks:=t'}:=
 I.write (x:=a) (e:=a) h (.inl rfl) (λb q d z=>(g.2 b d).trans z) e new
end
section
variable{X:Cx}{a6r:jw}{σ:St}{H:Hp}{s:Wf}{a:Addr}{kvs:List (bG×V)}{k:bG}{u:Value}{A:WY}{E:Value->Wf->Prop}
end
noncomputable def BK(i:Expr):Prop:=∀b a,a2q i b4 b a=operate [b,a] (a2E b a)
theorem BL{prog:WL}{w:WX}{A:WY}{E:Value->Wf->Prop}{s:Wf}{env:a1a}{b a:Expr}{pos:XX}{T id:String}{Q:Value->Wf->Prop}
  (n:a1D (.type T) "__getitem__"=pure (b0 (.builtin id))) (p:BK a)
  (h:WI (WM prog w) A (eval b env) (λo e=>WI (WM prog w) A (eval a env) (λi c=>c.TypeIs o T/\WI (WM prog w) A (a2E o i) Q E c) E e) E s) :
  WI (WM prog w) A (eval (.Subscript b a pos) env) Q E s:=by
 refine a2T (Xz h (λo e j=>Xz j (λi c d=>?_) λ_ _ x=>x) λ_ _ x=>x);obtain⟨l,d⟩:=d;unfold a1v;refine V9 ?_;rw[getitemInPython_of_ne l.not_modules];refine V9 (a0O l n ?_);have fin:WI (WM prog w) A (a2q a b4 o i) (λr g=>WI (WM prog w) A (letTemporaryGo b o r >>= λ_=>pure r) Q E g) E c:=by rw[p o i];exact wpAny_operating (Xz d (λr g k=>V9 (wpAny_letTemporaryGo (Wg k))) λ_ _ x=>x)
 first
  |exact Wg (V9 fin)|exact V9 (Wg (V9 fin))|exact V9 fin
section
variable{X:Cx}{o i e value:Expr}{pos pos' tpos:XX}{td ty tv:TE}
end
section
variable{X:Cx}{pos:XX}
end
noncomputable def BM:List (TE×TE)->St->Hp->(List (V×V)->Hp->Prop)->Prop
 |[],_,H,Q=>Q [] H|(tk,tv)::r,σ,H,Q=>tk σ H λx a=>tv σ a λy b=>BM r σ b λd c=>Q ((x,y)::d) c
noncomputable abbrev VV:List (V×V)->List (Value×Value)->Prop:=Z3 λp q=>RelV p.1 q.1/\RelV p.2 q.2
noncomputable def Jo(X:Cx)(pos:XX)(keys:List (Option Expr))(a:List Expr)(b:List (TE×TE)):Prop:=
 ∀(a6r:jw)(s:Wf)(σ:St)(H:Hp)(Q:List (V×V)->Hp->Prop),Inv X a6r σ H s->BM b σ H Q->
  WI (WM X.prog X.w) X.A (evalPairs (pairTrees keys a X.env pos)) (λg e=>∃d c,Inv X a6r σ c e/\VV d g/\Q d c) X.xe s
structure M1(X:Cx)(o:Expr)(m:Str)(apos:XX)(e:Expr)(cpos:XX):Prop where
 base:ZF o m X.env (eval o X.env)=eval o X.env
 few:((YG cpos (WU [e] X.env)).all (λx=>!x.1)&&(a2R cpos (a1d [] X.env)).all (λx=>x.1.isSome)
  && decide (([e]:List Expr).length+([]:List Zv).length+(if([]:List Zv).isEmpty then 0 else 1)<30))=b5
 line:(apos.endLine==cpos.line)=b5
 trees:YG cpos (WU [e] X.env)=[(b4,eval e X.env)]
structure M2(X:Cx)(o:Expr)(m:Str)(apos:XX)(e f:Expr)(cpos:XX):Prop where
 base:ZF o m X.env (eval o X.env)=eval o X.env
 few:((YG cpos (WU [e,f] X.env)).all (λx=>!x.1)&&(a2R cpos (a1d [] X.env)).all (λx=>x.1.isSome)
  && decide (([e,f]:List Expr).length+([]:List Zv).length+(if([]:List Zv).isEmpty then 0 else 1)<30))=b5
 line:(apos.endLine==cpos.line)=b5
 trees:YG cpos (WU [e,f] X.env)=[(b4,eval e X.env),(b4,eval f X.env)]
noncomputable def IsD(H:Hp)(a:Addr):Prop:=(∃kvs,Rd H a (.dK kvs))\/∃kvs,Rd H a (.dT kvs)
section
variable{X:Cx}{a6r:jw}{σ:St}{H:Hp}{s:Wf}{a:Addr}{y d:V}{u r:Value}{o:Option V}{A:WY}{E:Value->Wf->Prop}
end
section
variable{X:Cx}{o e f:Expr}{apos cpos:XX}{td ty tx:TE}
end
section
variable{X:Cx}{a6r:jw}{σ:St}{H:Hp}{s:Wf}{a:Addr}{kvs:List (bG×V)}{A:WY}{E:Value->Wf->Prop}
end
section
variable{X:Cx}{a6r:jw}{σ:St}{H:Hp}{s:Wf}{a:Addr}{y:V}{u:Value}{A:WY}{E:Value->Wf->Prop}
end
end L2
namespace HT
open PySem PyProof.Rows
noncomputable def lexLt:List Int->List Int->Bool
 |[],[]=>b4|[],_::_=>b5|_::_,[]=>b4|x::xs,y::ys=>if x=y then lexLt xs ys else decide (x<y)
theorem Jp(x y:Int)(xs a:List Int):lexLt (x::xs) (y::a)=if x=y then lexLt xs a else decide (x<y):=rfl
theorem Jq:lexLt [] []=false:=rfl
theorem Jr(y:Int)(a:List Int):lexLt [] (y::a)=true:=rfl
theorem Js(x:Int)(xs:List Int):lexLt (x::xs) []=false:=rfl
theorem Jt(A:WY)(s:Wf)(a:Int)(t:a3a)(c:Int)(u:a3a):∃e,Zr A s (.int a t) (.int c u) e/\(e=b5↔a=c):=
 ⟨(a==c),SeqAt.EqAt.int_int a t c u,by simp⟩
theorem Ju(A:WY)(s:Wf)(a:Int)(t:a3a)(c:Int)(u:a3a)(prog:WL)(w:WX)(E:Value->Wf->Prop)(Q:Value->Wf->Prop)(h:Q (.bool (decide (a<c))) s) :
  WI (WM prog w) A (Zm .Lt (.int a t) (.int c u)) Q E s:=
 (a5L h:WI (WM prog w) A (Xs .Lt (.int a t) (.int c u)) Q E s)
section
open PySem.SeqAt
open PySem.AutoSeq1 (wpAny_loadPart')
open PySem.MeetsSeq PySem.MeetsSeq2 PySem.MeetsSeq3
theorem Jv(l b:Addr)(items i:Array Value)(n n2:Nat)(Y M:Option Addr)(sl Q:Array (Option Value))(ns ms:List Int)(T:Zw items.toList ns)(U:Zw i.toList ms) :
  Meets (Builtin.«tuple.__lt__» ⟨[.ref l,.ref b],[]⟩)
   (λ_ R s=>s.heap.get? l=b0 {cls:=.type "tuple",dict:=Y,data:=.seq items n,slots:=sl}/\s.heap.get? b=b0 {cls:=.type "tuple",dict:=M,data:=.seq i n2,slots:=Q} /\
    R (.ok (.ret (.bool (lexLt ns ms)))) s):=
 .of_wp λB w A R s h=>by
  obtain⟨J,g,d,L,K⟩:=s;obtain⟨hl,Z,h⟩:=h;have f2:=AutoSeq1.sub_tuple_tuple;have z1:items.size=ns.length:=by rw[<- T.length];simp
  have z2:i.size=ms.length:=by rw[<- U.length];simp
  wp_walk using ZJ hl,ZJ Z,wpAny_forIn_list _ (λbZ b O=>b.1=b3/\O=⟨J,g,d,L,K⟩/\∃(vs ws:gw)(o k:List Int),bZ=vs.zip ws /\
   Zw vs o/\Zw ws k/\o.length+i.size=k.length+items.size/\R (.ok (.ret (.bool (lexLt o k)))) ⟨J,g,d,L,K⟩) _
  case turn=>
   rintro⟨y,x⟩ bZ b O ⟨E,rfl,vs,ws,o,k,r,G,p,j,v⟩;cases G with
   |nil=>rw[List.zip_nil_left]at r;cases r|cons a t H=>
    cases p with
    |nil=>rw[List.zip_nil_right]at r;cases r|cons c u I=>
     rw[a3E]at r;injection r with hyx hrest;injection hyx with hy hx;subst hy hx;rw[Jp]at v;simp only[WO]at j;obtain⟨e,he,z⟩:=Jt A.in1 ⟨J,g,d,L,K⟩ a t c u;refine V9 (he B w _ _ ?_);cases e with
     |true=>rw[if_pos (z.mp rfl)]at v;wp_walk;exact⟨rfl,rfl,_,_,_,_,hrest,H,I,by lia,v⟩|false=>rw[if_neg (λq=>absurd (z.mpr q) Wj)]at v;have N:=Ju A.in1 ⟨J,g,d,L,K⟩ a t c u B w;wp_walk using N;exact⟨_,rfl,by simpa using v⟩
  case fin=>
   rintro⟨b1,b2⟩ O ⟨E,rfl,vs,ws,o,k,r,G,p,j,v⟩;simp only at E;subst E;have X:lexLt o k=decide (items.size<i.size):=by
    cases G with
    |nil=>
     cases p with
     |nil=>simp only[Zt]at j;rw[Jq];exact(decide_eq_false (by lia)).symm|cons c u hw=>simp only[Zt,WO]at j;rw[Jr];exact(decide_eq_true (by lia)).symm
    |cons a t X=>
     cases p with
     |nil=>simp only[Zt,WO]at j;rw[Js];exact(decide_eq_false (by lia)).symm|cons c u hw=>rw[a3E]at r;cases r
   rw[X]at v;wp_walk;exact⟨_,rfl,by simpa[a5B]using v⟩
  case h=>exact⟨rfl,rfl,items.toList,i.toList,ns,ms,rfl,T,U,by lia,h⟩
end
section
variable{prog:WL}{w:WX}{A:WY}{E:Value->Wf->Prop}{s:Wf}
theorem lt_tupInts{l b:Addr}{items a:Array Value}{ns ms:List Int}{Q:Value->Wf->Prop}(y:a5o s.heap l items)(r:a5o s.heap b a)(u:Zw items.toList ns)(v:Zw a.toList ms)
  (z:A.units<XM)(h:Q (.bool (lexLt ns ms)) s):WI (WM prog w) A (Xs .Lt (.ref l) (.ref b)) Q E s:=by
 obtain⟨⟨cls,q,o,G⟩,p,hc,n,hd⟩:=id y;obtain⟨⟨k,i,g,j⟩,e,c,B,d⟩:=id r;simp only at hc hd c d;subst hc hd c d;exact richCompare_meets_room (op:=.Lt) ⟨_,p,rfl⟩ ⟨_,e,rfl⟩ PySem.F.slot_tuple_lt PySem.F.entry_tuple_lt (PySem.F.args_tuple_lt_2 _ _) (Jv l b items a n B q i G j ns ms u v)
  ⟨p,e,show Yc (lexLt ns ms)≠Value.notImplemented/\Q (.bool (lexLt ns ms)) s from⟨(λx=>nomatch x),h⟩⟩ z
noncomputable def sIx(n d:Nat):Option Int->Nat
 |none=>d|some v=>if v<0 then(v+(n:Int)).toNat else min v.toNat n
theorem sIx_none(n d:Nat):sIx n d b3=d:=rfl
theorem sIx_nat(n d k:Nat):sIx n d (b0 (k:Int))=min k n:=by show(if(k:Int)<0 then((k:Int)+(n:Int)).toNat else min (k:Int).toNat n)=min k n;rw[if_neg (by lia),Yh]
end
end HT
namespace L2
open PySem PySem.Spec PyProof.Rows
noncomputable abbrev TO:=St->Hp->(Option Int->Hp->Prop)->Prop
noncomputable def PO(X:Cx)(e:Option Expr)(t:TO):Prop:=
 ∀(a6r:jw)(s:Wf)(σ:St)(H:Hp)(Q:Option Int->Hp->Prop),Inv X a6r σ H s->t σ H Q->
  WI (WM X.prog X.w) X.A (evalPart e X.env) (λu b=>∃o a,Inv X a6r σ a b/\IsPart u o/\Q o a) X.xe s
noncomputable def Jw:TO:=λ_ H Q=>Q b3 H
noncomputable def Jx(t:TE):TO:=λσ H Q=>t σ H λx a=>∃i,x=.int i/\Q (b0 i) a
theorem wL{ns:List Int}:∀{us:gw},Vals (ns.map V.int) us->Zw us ns:=by
 induction ns with
 |nil=>intro us r;rw[a2H]at r;cases r;exact .nil|cons n ns a=>
  intro us r;rw[WA]at r;cases r with
  |cons b c=>obtain⟨t,e⟩:=b;subst e;exact .cons n t (a c)
section
variable{X:Cx}{e:Expr}{te:TE}{lo hi:Option Expr}{tl th:TO}{pos p2:XX}
theorem Jy:PO X b3 Jw:=by intro a s b H Q I h;rw[evalPart_none];exact Wg ⟨b3,H,I,.none,h⟩
theorem Jz(h:PE X e te):PO X (b0 e) (Jx te):=by intro a s j H Q I hw;rw[evalPart_some];refine aR (h a s j H _ I hw) λu k ⟨x,b,c,g,d⟩=>?_;obtain⟨i,rfl,q⟩:=d;obtain⟨t,rfl⟩:=g;exact⟨b0 i,b,c,.int i t,q⟩
noncomputable def wM(X:Cx)(r:V->Option Int->Option Int->Hp->VK->Prop):Prop:=
 ∀(a6r:jw)(s:Wf)(σ:St)(H:Hp)(x:V)(v b c:Value)(lo hi:Option Int)(a:Addr)(Q:VK),Inv X a6r σ H s->RelV x v->s.heap.IsSliceOf a b c .none->IsPart b lo->IsPart c hi->r x lo hi H Q->
  ∃T id,a1D (.type T) "__getitem__"=pure (b0 (.builtin id))/\s.TypeIs v T/\WI (WM X.prog X.w) X.A (a2E v (.ref a)) (EP X a6r σ Q) X.xe s
noncomputable def JA(r:V->Option Int->Option Int->Hp->VK->Prop)(te:TE)(tl th:TO):TE:=λσ H Q=>te σ H λx a=>tl σ a λl b=>th σ b λu c=>r x l u c Q
theorem JB{r:V->Option Int->Option Int->Hp->VK->Prop}(G:wM X r)(A:PE X e te)(E:PO X lo tl)(K:PO X hi th):PE X (.Subscript e (.Slice lo hi b3 p2) pos) (JA r te tl th):=by intro a s d H Q I h;refine a2T (aR (A a s d H _ I h) λv Y ⟨x,k,o,U,N⟩=>?_);refine wpAny_Slice (aR (E a Y d k _ o N) λg Z ⟨l,n,p,L,O⟩=>aR (K a Z d n _ p O) λi c ⟨u,j,w,M,R⟩=>?_);rw[evalPart_none];refine Wg ?_;have y:Inv X a d j {c with heap:=c.heap.push {cls:=.type "slice",data:=.fields #[g,i,.none]}}:=w.kept (t':=c.toks) λb ob q=>Wc _ q;obtain⟨T,id,z,J,B⟩:=G a {c with heap:=c.heap.push {cls:=.type "slice",data:=.fields #[g,i,.none]}} d j x v g i l u c.heap.objs.size Q y U (a1M ..) L M R;show WI (WM X.prog X.w) X.A (a1v e (.Slice lo hi b3 p2) v (.ref c.heap.objs.size)) (EP X a d Q) X.xe {c with heap:=c.heap.push {cls:=.type "slice",data:=.fields #[g,i,.none]}};exact a6i (ops:=[.ref c.heap.objs.size,v]) J z B (by with_unfolding_all rfl)
noncomputable def lI(xs:gz)(lo hi:Option Int):gz:=(xs.drop (HT.sIx xs.length 0 lo)).take (HT.sIx xs.length xs.length hi-HT.sIx xs.length 0 lo)
theorem JC(xs:gz)(lo hi:Option Int):(lI xs lo hi).length<=xs.length:=by unfold lI;rw[Xa,Zg];lia
end
noncomputable def jP(n:Nat)(i:Int):Option Nat:=if 0<=i then(if i<n then b0 i.toNat else b3)else if -(n:Int)<=i then b0 (i+n).toNat else b3
noncomputable def atI{a:Type}(xs:List a)(i:Int):Option a:=(jP xs.length i).bind λj=>xs[j]?
theorem BN{n:Nat}{i:Int}{j:Nat}(h:jP n i=b0 j):a2h i n=b0 j/\j<n/\-(n:Int)<=i/\i<n:=by
 unfold jP at h;by_cases b:0<=i
 .rw[if_pos b]at h;by_cases a:i<n
  .rw[if_pos a]at h;have e:i.toNat=j:=Wt h;exact⟨by rw[a4t b a,e],by lia,by lia,a⟩
  .rw[if_neg a]at h;cases h
 .rw[if_neg b]at h;by_cases a:-(n:Int)<=i
  .rw[if_pos a]at h;have e:(i+n).toNat=j:=Wt h;exact⟨by rw[a3N (by lia) a,e],by lia,a,by lia⟩
  .rw[if_neg a]at h;cases h
theorem wN{a:Type}{xs:List a}{i:Int}{v:a}(h:atI xs i=b0 v):∃j,a2h i xs.length=b0 j/\xs[j]?=b0 v/\j<xs.length/\-(xs.length:Int)<=i/\i<xs.length:=by
 unfold atI at h;cases e:jP xs.length i with
 |none=>rw[e]at h;cases h|some j=>rw[e]at h;obtain⟨b,c,d,g⟩:=BN e;exact⟨j,b,h,c,d,g⟩
noncomputable def wO(b:Expr):Prop:=∀o i,a2q b b4 o i=operate [o,i] (a2E o i)
noncomputable def IxR(X:Cx)(r:R2):Prop:=
 ∀(b a:Expr)(a6r:jw)(s:Wf)(σ:St)(H:Hp)(x y:V)(v u:Value)(Q:VK),Inv X a6r σ H s->RelV x v->RelV y u->r x y H Q->
  a2q a b4 v u=operate [v,u] (a2E v u)->WI (WM X.prog X.w) X.A (a1v b a v u) (EP X a6r σ Q) X.xe s
noncomputable def JD(X:Cx)(id:String)(r:V->gz->Hp->VK->Prop):Prop:=
 ∀(a6r:jw)(s:Wf)(σ:St)(H:Hp)(x:V)(xs:gz)(v:Value)(us:gw)(Q:VK),Inv X a6r σ H s->RelV x v->Vals xs us->r x xs H Q->
  WI (WM X.prog X.w) X.A (call (.builtin id) (v::us)) (EP X a6r σ Q) X.xe s
section
variable{X:Cx}{a b:Expr}{ta tb:TE}{pos:XX}
theorem IxR.or{r i:R2}(h:IxR X r)(h':IxR X i):IxR X (λx y H Q=>r x y H Q\/i x y H Q):=by
 intro d c e s l H x y v u Q I j k q g;rcases q with q|q
 .exact h d c e s l H x y v u Q I j k q g
 .exact h' d c e s l H x y v u Q I j k q g
theorem JE{r:R2}(j:IxR X r)(g:PE X a ta)(i:PE X b tb)(k:wO b):PE X (.Subscript a b pos) (pP r ta tb):=by intro c s p H Q I h;exact a2T (wA g i I h λv u o x y d e l n q=>j a b c o p d x y v u Q e l n q (k _ _))
noncomputable def BO(K:V8):R2:=λx y H Q=>∃p xs i v,x=.ref p/\y=.int i/\SqL K H p xs/\atI xs i=b0 v/\Q v H
noncomputable def BP(K:V8):R2:=λx y H Q=>∃p xs i v,x=.ref p/\y=.int i/\SqT K H p xs/\atI xs i=b0 v/\Q v H
noncomputable def BQ:R2:=λx y H Q=>∃z i c,x=.str z/\y=.int i/\z.length<=Wq/\atI z.cps.toList i=b0 c/\Q (.str ⟨#[c]⟩) H
theorem ix_list:IxR X (BO X.K):=by
 intro o n c s G H x y v u Q I R T h E;obtain⟨p,xs,i,z,rfl,rfl,O,M,q⟩:=h;cases R;obtain⟨t,rfl⟩:=T;obtain⟨g,r,k,hz⟩:=I.list O;obtain⟨j,d,J,Y,K,L⟩:=wN M;obtain⟨w,A,l⟩:=r.get J;have N:=r.length;have Z:=lH;have fin:EP X c G Q w s:=⟨z,H,I,l,q⟩;by_cases B:0<=i
 .have e:i.toNat=j:=by rw[a4t B L]at d;exact Wt d
  exact item_listR k.isList B (by lia) (by rw[e];simpa using A) fin E
 .have e:(i+(g.toArray.size:Int)).toNat=j:=by rw[a3N (by lia) K]at d;rw[Ww,<- N];exact Wt d
  exact a3M (x:=w) k.isList.typeIs a1O.lookup
   (wpAny_getItem_list_neg (Q:=λr U=>r=w/\EP X c G Q r U) k.isList (by lia) (by rw[Ww]<;>lia) (by lia) (by rw[e];simpa using A) ⟨rfl,fin⟩) E
theorem ix_tup:IxR X (BP X.K):=by
 intro g e c s l H x y v u Q I L M h J;obtain⟨p,Z,i,z,rfl,rfl,G,B,q⟩:=h;cases L;obtain⟨t,rfl⟩:=M;obtain⟨K,r,k,Y⟩:=I.tuple G;obtain⟨j,o,A,O,R,T⟩:=wN B;obtain⟨w,n,d⟩:=r.get A;have E:=r.length;have U:=lH;have fin:EP X c l Q w s:=⟨z,H,I,d,q⟩;exact a3M (x:=w) k.typeIs slot_tuple_getitem.lookup
  (getItem_tuple (j:=j) (Q:=λr N=>r=w/\EP X c l Q r N) k (by lia) (by lia) (by rw[Ww,<- E];exact o) (by simpa using n) ⟨rfl,fin⟩) J
theorem JF:IxR X BQ:=by
 intro e d k s N H x y v u Q I E G h B
 obtain ⟨z,i,c,rfl,rfl,L,w,q⟩:=h
 obtain ⟨t,rfl⟩:=E
 obtain ⟨M,rfl⟩:=G
 obtain ⟨j,g,o,J,p,r⟩:=wN w
 have A:z.cps.toList.length=z.length:=by simp [Str.length]
 rw [A] at g p r
 have K:=lH
 exact a6i (typeIs_str s z t) slot_str_getitem.lookup (getItem_str (c:=c) (by
  have l:decide (i < -(2 ^ 63:Int))=false:=decide_eq_false (by lia)
  have n:decide (i >= 2 ^ 63)=false:=decide_eq_false (by lia)
  rw [l,n,a0Y]) (by rw [g];simpa using o) ⟨.str ⟨#[c]⟩,H,I.tok _,⟨_,rfl⟩,q⟩) B
noncomputable def BR (K:V8):R2:=fun x y H Q=>BO K x y H Q\/BP K x y H Q\/BQ x y H Q
theorem JG:IxR X (BR X.K):=ix_list.or (ix_tup.or JF)
theorem JH(its:gw)(n j:Nat)(u:Value):Xg (·.setIfInBounds j u) {cls:=.type "list",data:=.seq its.toArray n}={cls:=.type "list",data:=.seq (its.set j u).toArray n}:=by simp[Xg]
theorem Inv.lst{a6r:jw}{σ:St}{H:Hp}{s:Wf}{p:Addr}{xs:gz}(I:Inv X a6r σ H s)(h:H p=b0 (.lst xs)) :
  ∃(its:gw)(n:Nat),Vals xs its/\s.heap.get? p=b0 {cls:=.type "list",data:=.seq its.toArray n}/\xs.length<=Wq:=by
 obtain⟨z,its,n,r,e⟩:=I.hok p _ h;exact⟨its,n,r,e,z⟩
theorem Inv.lstUpd{a6r:jw}{σ:St}{H:Hp}{s:Wf}{p:Addr}{xs d:gz}{its its':gw}{n c:Nat}{f:Obj->Obj}(I:Inv X a6r σ H s)(h:H p=b0 (.lst xs))
  (j:s.heap.get? p=b0 {cls:=.type "list",data:=.seq its.toArray n}) (g:f {cls:=.type "list",data:=.seq its.toArray n}={cls:=.type "list",data:=.seq its'.toArray c}) (r:Vals d its')(hz:d.length<=Wq)(t:Nat) :
  Inv X a6r σ (aK H p (.lst d)) {s with heap:=s.heap.update p f,toks:=t}:=by
 have e:(s.heap.update p f).get? p=b0 {cls:=.type "list",data:=.seq its'.toArray c}:=by rw[Xv f j (by rw[g]<;>rfl),g]
 refine I.write (x:=p) (e:=p) (by rw[h];trivial) (.inl rfl) (λb u i q=>(W6 _ _ (Xh i)).trans q) ⟨_,e⟩ ?_;exact⟨hz,its',c,r,e⟩
noncomputable def wQ:V->V->V->Hp->(Hp->Prop)->Prop:=λo i v H Q=>∃p xs k j,o=.ref p/\i=.int k/\H p=b0 (.lst xs)/\jP xs.length k=b0 j/\Q (aK H p (.lst (xs.set j v)))
theorem JI:Il X wQ:=by
 intro e s N H o i v U T u Q I K J L h;obtain⟨p,M,k,j,rfl,rfl,B,E,q⟩:=h;cases K;obtain⟨t,rfl⟩:=J;obtain⟨c,n,r,w,G⟩:=I.lst B;obtain⟨d,O,z,A⟩:=BN E;have l:=r.length;have R:=lH;have x:Inv X e N (aK H p (.lst (M.set j v))) {s with heap:=s.heap.update p (Xg (·.setIfInBounds j u))}:=
  I.lstUpd B w (JH c n j u) (r.set L j) (by rw[XW];exact G) s.toks
 by_cases y:0<=k
 .have g:k.toNat=j:=by rw[a4t y A]at d;exact Wt d
  exact PySem.W.ki_setAt w y (by lia) (by rw[Ww,<- l];exact A) (by rw[g];exact⟨_,x,q⟩)
 .have g:(k+(c.toArray.size:Int)).toNat=j:=by rw[a3N (by lia) z]at d;rw[Ww,<- l];exact Wt d
  exact PySem.W.ki_setBack w (by lia) (by rw[Ww,<- l];exact z) (by lia) (by rw[g];exact⟨_,x,q⟩)
theorem JJ(lo c:Option Int)(n:Nat):(YW lo c b3 n).1=((HT.sIx n 0 lo:Nat):Int)/\(YW lo c b3 n).2.1=((HT.sIx n n c:Nat):Int)/\(YW lo c b3 n).2.2=1:=by
 refine⟨?_,?_,rfl⟩
 .cases lo with
  |none=>simp[YW,HT.sIx]|some i=>
   simp only[YW,HT.sIx,a1l,show(1:Int)>0 by decide,if_true];by_cases h:i<0
   .simp only[h,if_true]<;>lia
   .simp only[h,if_false]<;>lia
 .cases c with
  |none=>simp[YW,HT.sIx]|some i=>
   simp only[YW,HT.sIx,a1l,show(1:Int)>0 by decide,if_true];by_cases h:i<0
   .simp only[h,if_true]<;>lia
   .simp only[h,if_false]<;>lia
theorem JK(its:gw)(lo c:Option Int):a3y its.toArray lo c b3=((its.drop (HT.sIx its.length 0 lo)).take (HT.sIx its.length its.length c-HT.sIx its.length 0 lo)).toArray:=by obtain⟨d,e,g⟩:=JJ lo c its.toArray.size;unfold a3y;rw[d,e,g];simp only[sliceRange_one,pick_run,Ww]<;>rfl
noncomputable def wR(K:V8):V->Option Int->Option Int->Hp->VK->Prop:=λx lo c H Q=>∃a xs,x=.ref a/\SqL K H a xs/\∀p,H p=b3->Q (.ref p) (aK H p (.lst (lI xs lo c)))
theorem JL:wM X (wR X.K):=by intro j s E H x v A B e g z Q I w k p u h;obtain⟨a,c,rfl,l,q⟩:=h;cases w;obtain⟨o,r,i,n⟩:=I.list l;have d:=r.length;refine⟨"list",_,a1O.lookup,i.isList.typeIs,?_⟩;refine a3o i.isList k p u .none (by simp) ?_ (by rw[Ww]<;>lia);rw[JK,<- d];refine⟨.ref s.heap.objs.size,_,I.laid (t':=s.toks) (o:=.lst (lI c e g)) (λb y q=>Wc _ q) (Wh _) ?_,rfl,q _ (I.hok.fresh (Wh _))⟩;exact⟨W7 (JC c e g) n,_,0,(r.drop (HT.sIx c.length 0 e)).take (HT.sIx c.length c.length g-HT.sIx c.length 0 e),Wn _ rfl⟩
theorem BS:OpR X (Xs .NotIn) (λx y H Q=>∃i j,x=.str i/\y=.str j/\Q (.bl (!(!(XN j i 0 j.length 1).isEmpty))) H):=by intro c s k H x y v u Q I d e h;obtain⟨i,j,rfl,rfl,q⟩:=h;obtain⟨t,rfl⟩:=d;obtain⟨g,rfl⟩:=e;exact notIn_str ⟨.bl _,H,I,rfl,q⟩
theorem call_len_seq:CallR X (.builtin "len") (λxs H Q=>∃p d,xs=[.ref p]/\(SqL X.K H p d\/SqT X.K H p d)/\Q (.int d.length) H):=by
 intro k s w H xs v Q I r h;obtain⟨p,d,rfl,e,q⟩:=h;obtain⟨u,rfl,n⟩:=fV r;cases n;have o:=lH;rcases e with e|e
 .obtain⟨g,j,i,l⟩:=I.list e;have c:=j.length;exact Calls.call_len_list i.isList (by simp only[Ww]<;>lia) ⟨.int d.length,H,I.tok _,⟨s.toks+1,by rw[Ww,c]⟩,q⟩
 .obtain⟨g,j,i,l⟩:=I.tuple e;have c:=j.length;exact len_tuple i (by simp only[Ww]<;>lia) ⟨.int d.length,H,I.tok _,⟨s.toks+1,by rw[Ww,c]⟩,q⟩
theorem JM:CallR X (.builtin "len") (λxs H Q=>∃z,xs=[.str z]/\z.length<=Wq/\Q (.int z.length) H):=by intro c s i H xs g Q I r h;obtain⟨z,rfl,e,q⟩:=h;obtain⟨u,rfl,t,rfl⟩:=fV r;have d:=lH;exact len_str (by lia) ⟨.int z.length,H,I.tok _,⟨_,rfl⟩,q⟩
theorem CallR.or{f:Value}{r d:gz->Hp->VK->Prop}(h:CallR X f r)(h':CallR X f d):CallR X f (λxs H Q=>r xs H Q\/d xs H Q):=by
 intro c s i H xs g Q I e q;rcases q with q|q
 .exact h c s i H xs g Q I e q
 .exact h' c s i H xs g Q I e q
theorem call_list_of:CallR X (.type "list") (λxs H Q=>∃p d,xs=[.ref p]/\(SqL X.K H p d\/SqT X.K H p d)/\∀l,H l=b3->Q (.ref l) (aK H l (.lst d))):=by
 intro v s A H xs B Q I r h;obtain⟨p,d,rfl,i,q⟩:=h;obtain⟨u,rfl,z⟩:=fV r;cases z;have fin:∀(its:gw),Vals d its->d.length<=Wq->∀(h':Xo)(c':Nat),(∀b y,s.heap.get? b=b0 y->h'.get? b=b0 y)->
   h'.get? s.heap.objs.size=b0 {cls:=.type "list",dict:=b3,data:=.seq its.toArray c',slots:=#[]}->EP X v A Q (.ref s.heap.objs.size) {s with heap:=h'}:=λits c j h' c' k e=>
  ⟨.ref s.heap.objs.size,_,I.laid (t':=s.toks) k (Wh _) (show ObjOk X.prog X.w _ h' _ (.lst d)from⟨j,its,c',c,e⟩),rfl,q _ (I.hok.fresh (Wh _))⟩
 rcases i with i|i
 .obtain⟨its,c,x,j⟩:=I.list i;have g:=c.length;obtain⟨o,w,hc,n,hd⟩:=x.isList;exact call_list_seq p (.inl rfl) w hc hd (λh' c' k e=>fin its c j h' c' k e) (by simp only[Ww]<;>lia)
 .obtain⟨its,c,x,j⟩:=I.tuple i;have g:=c.length;obtain⟨o,w,hc,n,hd⟩:=x;exact call_list_seq p (.inr rfl) w hc hd (λh' c' k e=>fin its c j h' c' k e) (by simp only[Ww]<;>lia)
theorem BU:CallR X (.type "tuple") (λxs H Q=>∃p d,xs=[.ref p]/\((SqL X.K H p d/\∀l,H l=b3->Q (.ref l) (aK H l (.tup d)))\/(SqT X.K H p d/\Q (.ref p) H))):=by
 intro g s y H xs E Q I r h;obtain⟨p,d,rfl,h⟩:=h;obtain⟨u,rfl,B⟩:=fV r;cases B;rcases h with⟨j,q⟩|⟨j,q⟩
 .obtain⟨c,n,k,x⟩:=I.list j;have w:=n.length;refine call_tuple_list k.isList (λi A=>?_) (by simp only[Ww]<;>lia);have v:Inv X g y H {s with heap:=i}:=I.kept (t':=s.toks) A;have z:Inv X g y (aK H i.objs.size (.tup d)) {s with heap:=i.push {cls:=.type "tuple",data:=.seq c.toArray}}:=
   v.laid (t':=s.toks) (λb o e=>Wc _ e) (Wh _) (show ObjOk X.prog X.w _ _ _ (.tup d)from⟨x,c,n,TupN.new _ _⟩)
  exact⟨.ref i.objs.size,_,z,rfl,q _ (v.hok.fresh (Wh _))⟩
 .obtain⟨c,n,k,x⟩:=I.tuple j;exact call_tuple_same k ⟨.ref p,H,I,rfl,q⟩
noncomputable def wU(K:V8)(T:String)(x:V)(H:Hp):Prop:=match x with
 |.str _=>T="str"|.int _=>T="int"|.ref p=>(T="list"/\∃d,SqL K H p d)\/(T="tuple"/\∃o,K.lookup p=b0 o/\o.cls=.type "tuple"/\o.dict=b3) \/
   (T="dict"/\((∃c,H p=b0 (.dK c))\/∃c,H p=b0 (.dT c)))\/(T="set"/\∃S n,H p=b0 (.set S n))
 |_=>False
theorem JN{a6r:jw}{σ:St}{H:Hp}{s:Wf}{T:String}{x:V}{v:Value}(I:Inv X a6r σ H s)(r:RelV x v)(ty:wU X.K T x H) :
  s.TypeIs v T/\∀a,v=.ref a->∃k,s.heap.get? a=b0 k/\k.dict=none:=by
 cases x with
 |str z=>obtain⟨t,rfl⟩:=r;cases(show T="str" from ty);exact⟨typeIs_str s z t,λ_ e=>nomatch e⟩|int i=>obtain⟨t,rfl⟩:=r;cases(show T="int" from ty);exact⟨typeIs_int s i t,λ_ e=>nomatch e⟩|ref p=>
  cases r;rcases ty with⟨rfl,w,q⟩|⟨rfl,o,d,hc,hd⟩|⟨rfl,d⟩|⟨rfl,S,n,d⟩
  .obtain⟨u,_,l,_⟩:=I.list q;refine⟨l.isList.typeIs,λa e=>?_⟩;cases e;obtain⟨o,n,e,c,hd,_⟩:=l;exact⟨o,e,hd⟩
  .refine⟨⟨o,I.kIn p o d,hc⟩,λa e=>?_⟩;cases e;exact⟨o,I.kIn _ o d,hd⟩
  .have z:∃o,s.heap.get? p=b0 o/\o.ExactDict:=by
    rcases d with⟨j,d⟩|⟨j,d⟩
    .obtain⟨_,_,_,_,o,_,_,e,g,_⟩:=I.hok p _ d;exact⟨o,e,g⟩
    .obtain⟨_,_,_,_,o,_,_,e,g,_⟩:=I.hok p _ d;exact⟨o,e,g⟩
   obtain⟨o,e,g⟩:=z;refine⟨⟨o,e,g.1⟩,λa h=>?_⟩;cases h;exact⟨o,e,g.2.1⟩
  .obtain⟨o,_,_,_,e,g,_⟩:=I.hok p _ d;refine⟨⟨o,e,g.1⟩,λa h=>?_⟩;cases h;exact⟨o,e,g.2.1⟩
 |_=>exact Ys ty
noncomputable def BV(K:V8)(T:String)(r:V->gz->Hp->VK->Prop)(to:TE)(t:TA):TE:=λσ H Q=>to σ H λx c=>wU K T x c/\t σ c λxs d=>r x xs d Q
variable{o e:Expr}{es:List Expr}{to:TE}{t:TA}{name:Str}{apos cpos:XX}{T id:String}{r:V->gz->Hp->VK->Prop}
theorem JO(L:PlainAttrs T)(k:Slot T name id)(l:a6h (.builtin id)=pure (.type "method_descriptor")) (G:JD X id r)(J:PE X o to)(E:PA X (e::es) t)
  (g:ZF o name X.env (eval o X.env)=eval o X.env:=by rfl)
  (j:((YG cpos (WU (e::es) X.env)).all (λx=>!x.1)&&(a2R cpos (a1d [] X.env)).all (λx=>x.1.isSome)
   && decide ((e::es).length+([]:List Zv).length+(if([]:List Zv).isEmpty then 0 else 1)<30))=true:=by rfl)
  (i:(apos.endLine==cpos.line)=true:=by rfl)(K:WU (e::es) X.env=(b4,eval e X.env)::WU es X.env:=by rfl)(c:(YG cpos (WU es X.env)).any (·.1)=false:=by rfl) :
  PE X (.Call (.Attribute o name apos) (e::es) [] cpos) (BV X.K T r to t):=by
 intro d s n H Q I h;refine a3K g j i rfl (aR (J d s n H _ I h) λv R ⟨x,w,p,u,ty,M⟩=>?_);obtain⟨A,B⟩:=JN p u ty;refine⟨T,id,L,k,l,A,B,?_⟩;have q:=E cpos d R n w _ p M;rw[K]at q ⊢;refine ZI (by show(b4||(YG cpos (WU es X.env)).any (·.1))=b4;rw[c]<;>rfl) (a2Y ?_);exact aR q λY U ⟨Z,y,z,O,N⟩=>G d U n y x Z v Y Q z u O N
end
noncomputable def jQ(X:Cx)(id:String)(r:V->gz->Hp->VK->Prop):Prop:=
 ∀(a6r:jw)(s:Wf)(σ:St)(H:Hp)(x:V)(xs:gz)(v:Value)(us:gw)(Q:VK),Inv X a6r σ H s->RelV x v->Vals xs us->r x xs H Q->
  WI (WM X.prog X.w) X.A (call (.builtin id) (v::us)) (EP X a6r σ Q) X.xe s
theorem Vals.one{x:V}{us:gw}(h:Vals [x] us):∃u,us=[u]/\RelV x u:=by
 cases h with
 |cons r t=>cases t;exact⟨_,rfl,r⟩
theorem Vals.two{x y:V}{us:gw}(h:Vals [x,y] us):∃u v,us=[u,v]/\RelV x u/\RelV y v:=by
 cases h with
 |cons r t=>obtain⟨v,rfl,q⟩:=Vals.one t;exact⟨_,v,rfl,r,q⟩
theorem Vals.eraseIdx:∀{xs:gz}{us:gw}(i:Nat),Vals xs us->Vals (xs.eraseIdx i) (us.eraseIdx i)
 |_,_,_,.nil=>.nil|_,_,0,.cons _ t=>t|_,_,i+1,.cons r t=>.cons r (Vals.eraseIdx i t)
theorem BW{a:Type}:∀(l:List a)(i:Nat),(l.eraseIdx i).length<=l.length
 |[],_=>Wh _|_::_,0=>Zd _|_::r,i+1=>Nat.succ_le_succ (BW r i)
section
variable{X:Cx}{a6r:jw}{σ:St}{H:Hp}{s:Wf}{l b:Addr}{xs ys zs:gz}
theorem Inv.lset{its its':gw}{n:Nat}{f:Array Value->Array Value}{t':Nat}(I:Inv X a6r σ H s)(a:H l=b0 (.lst xs))
  (e:s.heap.get? l=b0 {cls:=.type "list",data:=.seq its.toArray n}) (d:f its.toArray=its'.toArray)(h:Vals ys its')(hz:ys.length<=Wq) :
  Inv X a6r σ (aK H l (.lst ys)) {s with heap:=s.heap.update l (Xg f),toks:=t'}:=by
 have q:=PySem.IsL.update e f;rw[d]at q;refine I.write (x:=l) (e:=l) (by rw[a];exact trivial) (.inl rfl) (λi u c g=>(W6 s.heap (Xg f) (Xh c)).trans g) ⟨_,q⟩ ?_;exact⟨hz,its',_,h,q⟩
theorem Inv.lnew{its:gw}{t':Nat}(I:Inv X a6r σ H s)(a:Vals ys its)(hz:ys.length<=Wq) :
  Inv X a6r σ (aK H s.heap.objs.size (.lst ys)) {s with heap:=s.heap.push {cls:=.type "list",data:=.seq its.toArray},toks:=t'}:=
 I.laid (λ_ _ q=>Wc _ q) (Wh _) ⟨hz,its,0,a,Wn _ rfl⟩
theorem Inv.fresh(I:Inv X a6r σ H s):H s.heap.objs.size=none:=I.hok.fresh (Wh _)
theorem Inv.lstM(I:Inv X a6r σ H s)(a:H l=b0 (.lst xs)):xs.length<=Wq/\∃(its:gw)(n:Nat),Vals xs its/\xs.length=its.length/\s.heap.get? l=b0 {cls:=.type "list",data:=.seq its.toArray n}:=by obtain⟨z,its,n,r,e⟩:=I.hok l _ a;exact⟨z,its,n,r,r.length,e⟩
theorem JP{n:Nat}(h:n<=Wq):ZV n=false:=by unfold ZV;exact decide_eq_false (by lia)
end
section
variable{X:Cx}
noncomputable def BX:V->gz->Hp->VK->Prop:=λx vs H Q=>∃l xs y,x=.ref l/\vs=[y]/\H l=b0 (.lst xs)/\xs.length<Wq/\Q .non (aK H l (.lst (xs++[y])))
theorem BY:jQ X "list.append" BX:=by intro c s A H x p v o Q I i g h;obtain⟨l,w,y,rfl,rfl,b,k,q⟩:=h;cases i;obtain⟨u,rfl,d⟩:=g.one;obtain⟨z,a,n,r,j,e⟩:=I.lstM b;refine a0M F.slot_list_append ⟨_,e,rfl⟩ F.entry_list_append (F.args_list_append_2 _ _) (PySem.list_append l a.toArray n u (by rw[Ww];lia)) ⟨e,?_⟩;refine⟨.non,_,I.lset (its':=a++[u]) b e (by simp) (r.append (.cons d .nil)) ?_,rfl,q⟩;rw[Wo,a0z];lia
noncomputable def BZ:V->gz->Hp->VK->Prop:=λx vs H Q=>∃l b xs a,x=.ref l/\vs=[.ref b]/\H l=b0 (.lst xs)/\H b=b0 (.lst a)/\xs.length+a.length<=Wq/\Q .non (aK H l (.lst (xs++a)))
theorem JQ:jQ X "list.extend" BZ:=by
 intro j s R H x L v K Q I E B h;obtain⟨l,b,M,O,rfl,rfl,i,o,J,q⟩:=h;cases E;obtain⟨u,rfl,A⟩:=B.one;cases A;obtain⟨z,c,n,r,G,e⟩:=I.lstM i;obtain⟨N,a,w,y,p,k⟩:=I.lstM o;have g:c.toArray.size+a.toArray.size<=Wq:=by rw[Ww,Ww];lia
 have d:¬ (!c.toArray.isEmpty&&ZV (c.toArray.size+a.toArray.size))=true:=by rw[JP g,a2g];exact Wj
 refine a0M F.slot_list_extend ⟨_,e,rfl⟩ F.entry_list_extend (F.args_list_extend_2 _ _)
  (AutoSeq1.list_extend_list_list_0 l c.toArray n b a.toArray w d (by rw[Ww];lia) (by lia)) ⟨e,k,?_⟩
 refine⟨.non,_,I.lset (its':=c++a) i e (by simp) (r.append y) ?_,rfl,q⟩;rw[Wo];lia
noncomputable def B0:V->gz->Hp->VK->Prop:=λx vs H Q=>∃l xs i k y,x=.ref l/\vs=[.int i]/\H l=b0 (.lst xs)/\-(2^63)<=i/\i<2^63/\a2h i xs.length=b0 k/\xs[k]?=b0 y/\Q y (aK H l (.lst (xs.eraseIdx k)))
theorem JR:jQ X "list.pop" B0:=by
 intro d s M H x L v K Q I G E h;obtain⟨l,J,i,k,y,rfl,rfl,c,g,j,o,A,q⟩:=h;cases G;obtain⟨u,rfl,B⟩:=E.one;obtain⟨t,rfl⟩:=B;obtain⟨z,a,n,r,p,e⟩:=I.lstM c;obtain⟨w,hw,b⟩:=r.get A;refine a0M F.slot_list_pop ⟨_,e,rfl⟩ F.entry_list_pop (F.args_list_pop_2 _ _)
  (MeetsSeq.list_pop_at l a.toArray n i t k w (fitsIndex_both g j) (by rw[Ww,<- p];exact o) (by rw[<- XO];exact hw) (by rw[Ww];lia)) ⟨e,?_⟩
 refine⟨y,_,I.lset (its':=a.eraseIdx k) c e ?_ (r.eraseIdx k) ?_,b,q⟩
 .show a.toArray.eraseIdxIfInBounds k=(a.eraseIdx k).toArray;rw[List.eraseIdxIfInBounds_toArray]
 .have:=BW J k;lia
noncomputable def B1:R2:=λx y H Q=>∃l b xs a,x=.ref l/\y=.ref b/\H l=b0 (.lst xs)/\H b=b0 (.lst a)/\xs.length+a.length<=Wq/\∀p,H p=b3->Q (.ref p) (aK H p (.lst (xs++a)))
theorem JS:OpR X (ZE .Add) B1:=by
 intro d s M H x y v u Q I w A h;obtain⟨l,b,J,L,rfl,rfl,k,j,E,q⟩:=h;cases w;cases A;obtain⟨z,c,n,r,B,e⟩:=I.lstM k;obtain⟨K,a,G,p,o,g⟩:=I.lstM j;refine PySem.P.add_list e g ?_ (by rw[Ww,Ww];lia);have i:c.toArray++a.toArray=(c++a).toArray:=by simp
 rw[i];exact⟨.ref _,_,I.lnew (t':=s.toks) (r.append p) (by rw[Wo];lia),rfl,q _ I.fresh⟩
end
section
variable{prog:WL}{w:WX}{A:WY}{E:Value->Wf->Prop}{s:Wf}
end
section
variable{X:Cx}
end
end L2
namespace Att
open PySem PySem.W PySem.Calls PyProof.Rows
theorem JT{P:X2}{h:Xo}:∀(ns:List Int)(vs:gw),WellAll P h vs (ns.map ZS)->Zw vs ns:=by
 intro ns;induction ns with
 |nil=>intro vs w;rw[a2H]at w;cases w;exact .nil|cons n ns c=>
  intro vs w;rw[WA]at w;cases w with
  |cons a b=>cases a;exact .cons _ _ (c _ b)
theorem script_of{l:OpenLaw}{n:Nat}(x:l.most=b0 n){P:X2}{h:Xo}{args:List WData}{e:gw}
  (c:l.row.toRowW.claim.pre args=b5)(p:WellAll P h e args) :
  ∃a s b,e=[Wx a]/\args=[WData.list (b.map ZS)]/\h.get? a=b0 {cls:=.type "list",data:=.seq s.toArray}/\Zw s b/\b.length<=n:=by
 have o:WShape.hasAll [] args [.list .int]=true:=(pre_splitW c).1;have hc:l.pre.holds [] {args:=args}=true:=(pre_splitW c).2;obtain⟨d,r,rfl,u,v⟩:=hasAllW_cons o;obtain rfl:=hasAllW_nil v;obtain⟨E,rfl,w⟩:=hasW_list u;obtain⟨b,rfl⟩:=items_int w;have i:b.length<=n:=by
  unfold OpenLaw.pre at hc;have j:(WTm.not (.lt (.lit (.int (n:Int))) (.len (.arg 0)))).holds [] {args:=[.list (b.map .int)]}=true:=by have j:=(holds_andW hc).1;rw[x]at j;exact j
  have k:=condW_of j (w_not (w_lt w_lit (w_len_list (w_arg rfl))));rw[V7]at k;refine a4z λq=>?_;have z:(n:Int)<((b.length:Nat):Int):=by lia
  first
   |(rw[decide_eq_true z]at k;exact absurd k (by decide))|(simp at k;lia)
 cases p with
 |cons A B=>
  cases B;cases A with
  |list y g=>exact⟨_,_,b,rfl,rfl,y,JT b _ g,i⟩
theorem post_true(l:OpenLaw)(args:List WData):l.row.toRowW.claim.post args (.bool b5) args=true:=
 postW_of (r:=l.row.toRowW) (X:=(b5==b5))
  (show a5j [] (.bool b5) .bool=b5 by first|rfl|decide|simp[a5j,WShape.arms,WShape.armsAll])
  (show(WTm.eq .res (.lit (.bool b5))).value [] {args:=args,res:=b0 (.bool b5),after:=args}=b0 (.bool (b5==b5))from w_eq_bool (w_res rfl) w_lit) rfl
section
variable{prog:WL}{w:WX}{A:WY}{E:Value->Wf->Prop}{s:Wf}{K:Frag}
end
end Att
namespace L2
open PySem PySem.Spec PyProof.Rows
theorem B2:∀{vs:gw}{ns:List Int},Zw vs ns->Vals (ns.map V.int) vs
 |_,_,.nil=>.nil|_,_,.cons n t h=>.cons ⟨t,rfl⟩ (B2 h)
noncomputable def B3(H:Hp):Prop:=∀b,H b=b3\/∃o xs,H b=b0 (.frz o (.lst xs))
theorem law_call{P:WL}{w:WX}{K:V8}{M Z:Str->Option Value}{CX:jO}{k:Nat}{R a:Addr}{fd:YI}{x:Str}{sp:Sp}{c:Wf}{vs:gw}{ns:List Int}
  (KX:K.In c.heap)(G:c.heap.Ns XI M)(g:c.heap.Ns a4T Z)(U:∀x:Str,x ≠ "__name__"->Z x=X0 x) (E:c.heap.NoLimit)(hg:c.gens=#[])
  (O:c.heap.get? a=b0 {cls:=.type "list",data:=.seq vs.toArray}) (hi:Zw vs ns)(hl:ns.length<=Wq)(hr:Room k a1Q)
  (F:∀i:Xo,K.In i->i.Ns XI M->FnOk P w K M i CX k R fd [x] sp)(y:∀(s:Wf)(u:Value),a1Y s fd ⟨[u],[]⟩ [(x,u)])
  (Y:∀H:Hp,B3 H->SqL K H a (ns.map V.int)->sp [.ref a] H (λv _=>v=.bl b5) λ_ _ _=>False)
  (T:∀H e j,CX [] H c (λ_ _ _=>False) e j->False) :
  Zq (WM P w) a1Q (.call (.ref R) ⟨[.ref a],[]⟩) (λr j=>r=.ok (.ret (.bool b5))/\OldK c.heap j.heap/\j.os=c.os/\a1n j.gens) c:=by
 have rv:=B2 hi;have L:=hi.length
  -- from an abstract heap in which nothing but the script may be tracked
 have p:∀H:Hp,B3 H->SqL K H a (ns.map V.int)->HOk P w H c.heap->(∀b,H b≠b3->b=a)->(H a≠b3->K.lookup a=b3)->
   Zq (WM P w) a1Q (.call (.ref R) ⟨[.ref a],[]⟩) (λr j=>r=.ok (.ret (.bool b5))/\OldK c.heap j.heap/\j.os=c.os/\a1n j.gens) c:=by
  intro H hO hS I hA hK;have nB:∀{b:Addr}{o:Obj},c.heap.get? b=b0 o->H b=b3->(kK c.heap H).get? b=b0 o:=λe n=>Hs e n;have noA:∀{b:Addr}{o:Obj}{es:Array DictEntry}{ep:Nat},c.heap.get? b=b0 o->o.data=.dict es ep->H b=none:=λ{b o es ep} e d=>by
   cases q:H b with
   |none=>rfl|some u=>have Q:b=a:=hA b (by rw[q];simp);subst Q;rw[O]at e;cases e;have d':a3m vs.toArray _=Zj es ep:=d;cases d'
  have l:∀{b:Addr}{m:Str->Option Value},c.heap.Ns b m->(kK c.heap H).Ns b m:=λ{b m} ⟨o,es,ep,e,d,r⟩=>⟨o,es,ep,nB e (noA e d),d,r⟩;have B:K.In (kK c.heap H):=λb o e=>nB (KX b o e) (by
   cases q:H b with
   |none=>rfl|some u=>
    have Q:b=a:=hA b (by rw[q];simp);subst Q;rw[hK (by rw[q];simp)]at e;cases e)
  have hM:Mod K M (kK c.heap H):=⟨B,l G,⟨Z,l g,U⟩,let⟨mc,h1,h2⟩:=E;⟨mc,l h1,h2⟩⟩;have e0:Env0 P w K M (kK c.heap H) a1Q [] c H:=⟨rfl,hM,λb o e=>Ht e,a0w (Hr _ _),trivial,λb g=>absurd (show b∈([]:List Addr)from g) (by simp),I,.of_eq hg⟩;refine a1P ((F _ B (l G)).run a1Q [] c H ⟨[.ref a],[]⟩ [.ref a] [.ref a] _ _ hr e0 (y c (.ref a)) (.cons rfl .nil) (Y H hO hS)) λr j h=>?_;cases r with
  |error e=>exact(T H e j h).elim|ok fl=>
   cases fl with
   |next=>exact Ys h|brk=>exact Ys h|cont=>exact Ys h|ret u=>
    obtain⟨v,H',os,A,un,J,r',q⟩:=h;have q':v=.bl true:=q;subst q';obtain rfl:u=Yc true:=r';refine⟨rfl,OldK.of_keep λb o e=>?_,os,A⟩;cases q:H b with
    |none=>exact un.keep b o e q (by intro z;exact absurd (show b∈([]:List Addr)from z) (by simp)) (by simp)|some u=>
     rcases hO b with z|⟨ob,xs,z⟩
     .rw[q]at z;cases z
     .have z2:=un.frzs b ob _ z;obtain⟨e1,_⟩:=I b _ z;obtain⟨e2,_⟩:=J b _ z2;rw[e]at e1;cases e1;exact e2
 cases X:K.lookup a with
 |some o=>-- the script is one of the module's own objects
  have e:=KX a o X;rw[O]at e;cases e;refine p (λ_=>b3) (λ_=>.inl rfl) (.inr ⟨_,vs.toArray,_,X,rfl,rfl,rfl,by rw[Ww,L];exact hl,by simpa using rv⟩) (λb u z=>by have N:(b3:Option HO)=b0 u:=z;cases N) (λb z=>absurd rfl z) λz=>absurd rfl z
 |none=>
  refine p (λb=>if b=a then b0 (.frz {cls:=.type "list",data:=.seq vs.toArray} (.lst (ns.map V.int)))else b3) (λb=>?_) (.inl (.inr ⟨{cls:=.type "list",data:=.seq vs.toArray},if_pos rfl⟩)) (λb u z=>?_) (λb z=>?_) λ_=>X
  .by_cases g:b=a
   .exact .inr ⟨_,_,if_pos g⟩
   .exact .inl (if_neg g)
  .by_cases g:b=a
   .have N:=(if_pos g).symm.trans z;cases N;subst g;exact⟨O,by rw[V7];exact hl,vs,_,rv,O⟩
   .have N:=(if_neg g).symm.trans z;cases N
  .by_cases g:b=a
   .exact g
   .exact absurd (if_neg g) z
noncomputable def iH(s:Stmt):Arguments:=match s with
 |.FunctionDef _ a _ _ _ _ _ _ _ _=>a|_=>{posonlyargs:=[],args:=[],vararg:=b3,kwonlyargs:=[],kw_defaults:=[],kwarg:=b3,defaults:=[]}
noncomputable def fL(s:Stmt):List Stmt:=match s with
 |.FunctionDef _ _ b _ _ _ _ _ _ _=>b|_=>[]
noncomputable def cJ(s:Stmt):YH:=match s with
 |.FunctionDef _ _ _ _ _ _ sc _ _ _=>sc|_=>{kind:=.function,names:=[],isGenerator:=b4,isCoroutine:=b4}
noncomputable abbrev fW:jO:=λ_ _ _ _ _ _=>False
noncomputable abbrev E0:XK:=λ_ _ _=>False
theorem B4{X:Cx}:sH fW X E0:=λ_ _ _ _ _ _ _ h=>h.elim
structure Fun(K:V8)(x qual:Str)(st:Stmt)(f:Addr)(fd:YI):Prop where
 ex:∃(oc:Value)(od:Option Addr)(dV kV doc pm:Value)(an:Option Addr)(cdv ct:Value)(osl:Array (Option Value)),
  fd=X9 x qual (iH st) (fL st) (cJ st) dV kV doc pm an cdv ct/\K.lookup f=b0 ⟨oc,od,.func fd,osl⟩/\a0t K cdv qual=b5
 kp:X8 K (.ref f)=b5
section
variable{P:WL}{w:WX}{K:V8}{mg:Str->Option Value}{base:Xo}
theorem Fun.ok{x a:Str}{st:Stmt}{f:Addr}{g:YI}{N ps:List Str}{k:Nat}{sp:Sp}(F:Fun K x a st f g)(S:FnScope N ps (cJ st))(len:∀vs H Q E,sp vs H Q E->vs.length=ps.length)
  (c:∀(b:Value)(A:WY)(outer:List a1a)(s:Wf)(H:Hp)(vs:gz)(Q:VK)(E:XK),Room k (A.deeper (envOfC a (cJ st) s.heap.objs.size f b))->sp vs H Q E->
   ∃t,PSs (kL fW P w K mg base N a (cJ st) f b A outer s H E).nox (fL st) t/\t {nx:=λ_ i=>Q .non i,rt:=Q} (start N vs) H):FnOk P w K mg base fW (k+1) f g ps sp:=by
 obtain⟨r,u,p,kV,j,v,o,b,ct,n,rfl,lk,d⟩:=F.ex;refine Jj lk d S len λA outer s H vs Q E l e=>?_;obtain⟨t,h,q⟩:=c b A outer s H vs Q E l e;exact⟨t,h.nox,q⟩
theorem JU{x a:Str}{st:Stmt}{f:Addr}{i:Value}{j an:Option Addr}{e:Array (Option Value)}{g kV d h b ct:Value}(l:K.lookup f=b0 ⟨i,j,.func (X9 x a (iH st) (fL st) (cJ st) g kV d h an b ct),e⟩)
  (c:a0t K b a=b5)(k:X8 K (.ref f)=b5):Fun K x a st f (X9 x a (iH st) (fL st) (cJ st) g kV d h an b ct):=⟨⟨i,j,g,kV,d,h,an,b,ct,e,rfl,l,c⟩,k⟩
end
theorem JV{A:WY}{k:Nat}(a:Room k A):A.units+1<XM:=a4d (Nat.add_le_add_left (by decide:1<=64) _) a.units
section
variable{X:Cx}
theorem pv(i:Nat){x:Str}{pos:XX}(b:X.N[i]?=b0 x:=by rfl)(c:mR X.env.scope x:=by first|exact a2t rfl|exact a1k (a2t rfl)|exact a1k (a1k rfl))(hd:(x==("__debug__":Str))=false:=by decide)
  (a:(x==("__classdict__":Str))=false:=by decide):PE X (.Name x pos) (vX i):=Bm b c hd a
end
theorem lJ{A B:Prop}(h:B):if b4=b5 then A else B:=by rw[if_neg Wj];exact h
theorem lK{A B:Prop}(h:A):if b5=b5 then A else B:=by rw[if_pos rfl];exact h
section
variable{κ:Type} [DecidableEq κ]
end
end L2
namespace L3
open PySem PySem.W
theorem left_cut{p q:WL}{loose:List Str}{Xt:Wf → Bool}{O:Type}{Yf:Wf → O}{Ya:WX → O}{N:Nat}{z:Bool}{hA hB hC hD:X2 → Xo}{kA A B E b:Nat}{g:Option Value}{v l n o u n4:Nat}{env:a1a}{j G x H I J:XX}{i1 i2 i3:Nat}
  (i:∀w:WX,(fencedOpening Yp p w N).map (λs=>(s.heap,s.gens,s.drawn,s.toks))=b0 (ZO w.params,W0 [],Xp,a2j))
  (size:∀w:WX,((ZO w.params).isNs XI,(ZO w.params).objs.size,(ZO w.params).nsMap XI "__annotations__")=(b5,b,g))
  (pre:∀(w:WX)(a:Z4),topGo Yp p w b g v ⟨ZO w.params,W0 [],Xp,a2j,a⟩ (topStub p)=b0 (⟨hA w.params,W0 [],Xp,kA,a⟩,⟨denote Yp (.body (WJ p) env),.body (WJ p) env,G,[ZD j]⟩))
  (y:∀(w:WX)(a:Z4),a1E Yp p w b g 1 l ⟨hA w.params,W0 [],Xp,kA,a⟩ (blockOf (WJ p) env (.body (WJ p) env) G [ZD j])=b0 (.next,⟨hA w.params,W0 [],Xp,kA,a⟩,.body (WJ p) env,x))
  (s1:∀(w:WX)(a:Z4),a1E Yp p w b g 1 n ⟨hA w.params,W0 [],Xp,kA,a⟩ (a1c ((WJ p).take i1) env (.body (WJ p) env) x [ZD j])=b0 (.next,⟨hB w.params,W0 [],Xp,A,a⟩,.body (WJ p) env,H))
  (s2:∀(w:WX)(a:Z4),a1E Yp p w b g 1 o ⟨hB w.params,W0 [],Xp,A,a⟩ (a1c (((WJ p).drop i1).take i2) env (.body (WJ p) env) H [ZD j])=b0 (.next,⟨hC w.params,W0 [],Xp,B,a⟩,.body (WJ p) env,I))
  (s3:∀(w:WX)(a:Z4),a1E Yp p w b g 1 u ⟨hC w.params,W0 [],Xp,B,a⟩ (a1c ((((WJ p).drop i1).drop i2).take i3) env (.body (WJ p) env) I [ZD j])=b0 (.next,⟨hD w.params,W0 [],Xp,E,a⟩,.body (WJ p) env,J))
  (fin:∀(w:WX)(a:Z4),((topRun Yp p w b g n4 ⟨hD w.params,W0 [],Xp,E,a⟩ (restOf ((((WJ p).drop i1).drop i2).drop i3) env (.body (WJ p) env) J [ZD j])).bind λc=>match staticsOk (a5F p.main.body) (ZO w.params) c.heap&&namesBound p c.heap&&gensDone c&&laidKept (ZO w.params) c.heap with
   |true=>b0 c
   |false=>b3).map (λs=>(openSeen q loose (a5F p.main.body) Xt z s,Yf s))=b0 (openGood q loose,Ya w))
  (Z:Nat.ble (v+(l+(n+(o+(u+n4))))) N=b5):LeftO p q loose Xt Yf Ya N z:=λw=>by
 obtain⟨⟨h,R,d,k,a⟩,e,Q⟩:=Wb.mp (i w);obtain⟨rfl,rfl,rfl,rfl⟩:h=ZO w.params ∧ R=W0 [] ∧ d=Xp ∧ k=a2j:=by simpa using Q
 obtain⟨z1,z2,z3⟩:_ ∧ _ ∧ _:=by simpa only[a4l]using size w
 obtain⟨s,X,Y⟩:=Wb.mp (fin w a);obtain⟨c,T,U⟩:=V6.mp X;have M:=a5r (s3 w a) T;rw[YY]at M;have L:=a5r (s2 w a) M;rw[YY]at L;have K:=a5r (s1 w a) L;rw[YY]at K;have r0:=go_top (pre w a) (piece_block (y w a) K);have r:=topRun_mono (N-(v+(l+(n+(o+(u+n4)))))) _ _ _ _ r0;rw[show v+(l+(n+(o+(u+n4))))+(N-(v+(l+(n+(o+(u+n4))))))=N by have:=Nat.le_of_ble_eq_true Z;lia]at r;have t:topFrom Yp p w N ⟨ZO w.params,W0 [],Xp,a2j,a⟩=b0 s:=by unfold topFrom;dsimp only;rw[z1,z2,z3,r];exact U
 unfold openEnds;rw[e];show(topFrom Yp p w N _).map _=_;rw[t];exact congrArg b0 Y
end L3
namespace Lw
open PySem L2
noncomputable def aI(i:Nat):Stmt:=Xq.main.body.getD i (.Pass ⟨0,0,0,0⟩)
noncomputable def n8(i j:Nat):Stmt:=match aI i with|.ClassDef _ _ _ b _ _ _ _ _ _ _=>b.getD j (.Pass ⟨0,0,0,0⟩)|_=>.Pass ⟨0,0,0,0⟩
noncomputable def Vw:WL:={Xq with main:={Xq.main with body:=aI 1::aI 2::aI 3::aI 4::aI 5::aI 6::aI 8::aI 9::aI 10::aI 11::aI 12::aI 13::aI 14::aI 15::aI 16::aI 17::aI 18::aI 19::aI 20::aI 21::aI 22::aI 24::aI 25::aI 26::aI 27::aI 28::aI 29::aI 30::aI 31::aI 32::aI 33::aI 34::aI 35::aI 37::aI 39::aI 40::aI 41::aI 42::aI 44::aI 45::aI 46::aI 47::aI 48::aI 50::aI 51::aI 52::aI 53::aI 54::aI 55::aI 56::aI 57::aI 58::aI 59::aI 60::aI 62::aI 63::aI 64::aI 65::aI 66::aI 68::aI 69::aI 70::aI 71::aI 72::aI 73::aI 74::aI 75::aI 76::aI 77::aI 78::aI 79::aI 80::aI 81::aI 82::aI 83::aI 84::aI 85::aI 86::aI 87::[]}}
noncomputable abbrev vS(x:String)(n:Nat):Value:=a0l (Yw x) n
noncomputable abbrev vI(i:Int):Value:=W5 i 0
noncomputable abbrev vR(a:Addr):Value:=Wx a
noncomputable abbrev vN:Value:=XT
noncomputable abbrev cO(fs:Array Value):Obj:={cls:=WG "code",data:=Xf fs}
noncomputable abbrev kO(x y:String)(a b c:Nat)(l n i j k:Int)(r:Addr)(q:Int)(vs:Array Value)(t d:Int)(e:Nat):Obj:={cls:=WG "code",data:=Xf (#[vS x a,vS x b,vS y c,vI l,vI n,vI i,vI j,vI k,vR r,Yc b5,vI q]++vs++#[vI t,vI d,vS y e])}
noncomputable abbrev tO(fs:Array Value):Obj:={cls:=WG "tuple",data:=a3m fs}
noncomputable abbrev fO(x:Str)(n:Nat)(m:Value)(c:Addr):Obj:=⟨WG "function",b3,.func (X9 x x (iH (aI n)) (fL (aI n)) (cJ (aI n)) XT XT XT m b3 (Wx c) XT),#[]⟩
noncomputable abbrev eO(P:X2)(x:String)(n:Nat)(v:Value):DictEntry:={hash:=PyData.keyHash P (Yw x),key:=a0l (Yw x) n,val:=v}
noncomputable abbrev eR(P:X2)(x:String)(n:Nat)(a:Addr):DictEntry:=eO P x n (vR a)
noncomputable abbrev kA(p:Addr×Obj)(R:V8):V8:=p::R
noncomputable def B5:List String → Nat → List Value
 |[],_=>[]|x::xs,n=>vS x n::B5 xs (n+1)
noncomputable abbrev tN(xs:List String)(n:Nat):Obj:=tO (W0 (B5 xs n))
open PySem.W in
noncomputable def lA(P:X2):List Obj:=((boot_o_0 P)::(boot_o_1 P)::(boot_o_2 P)::(boot_o_3 P)::(boot_o_4 P)::(boot_o_5 P)::(boot_o_6 P)::(boot_o_7 P)::(boot_o_8 P)::(boot_o_9 P)::(boot_o_10 P)::(tO #[])::({cls:=vN,data:=Xf #[]})::(cO #[vS "<module>" 182,vS "<module>" 183,vS "/claim/cut.py" 184,vI 1,vI 0,vI 0,vI 0,vI 0,vR 11,Yc b4,vI 181,vR 12,vN,vN,vN,vN,vI 185,vI 1,vS "/claim/cut.py" 186])::({cls:=WG "frame",slots:=#[b0 (vR 13),b0 (vR 3),b0 (vR 3),b3,b0 (vS "__main__" 164),b3,b0 (vR 0)]})::[])
open PySem.W in
noncomputable def B6(P:X2)(a:Nat)(c:String)(d:Nat)(b:Nat)(R:List Obj):List Obj:=(tO #[vR 24])::({cls:=WG "builtin_function_or_method",data:=Xf #[Yb "type.__prepare__",WG "type"]})::({cls:=WG "dict",data:=Zj #[eO P "__module__" a (vS "creasecourt.errors" 187),eO P "__qualname__" (a+2) (vS c (a+1)),eO P "__firstlineno__" (a+4) (W5 d (a+3)),eR P "__static_attributes__" (a+5) b] 4})::(tO #[])::({cls:=vN,data:=Xf #[]})::(cO #[vS c (a-5),vS c (a-4),vS "/claim/cut.py" (a-3),vI d,vI 0,vI 0,vI 0,vI 0,vR (b-4),Yc b4,vI 181,vR (b-3),vN,vN,vN,vN,vI (a-2),vI d,vS "/claim/cut.py" (a-1)])::({cls:=WG "frame",slots:=#[b0 (vR (b-2)),b0 (vR 3),b0 (vR (b-5)),b3,b0 (vS "creasecourt.errors" 187),b3,b0 (vR 0)]})::(tO #[])::({cls:=WG "dict",data:=Zj #[eO P "__module__" a (vS "creasecourt.errors" 187),eO P "__firstlineno__" (a+4) (W5 d (a+3)),eR P "__static_attributes__" (a+5) b,eO P "__doc__" (a+6) vN] 2})::({cls:=WG "type",data:=a4J {name:=Yw c,bases:=[vR 24],mro:=[vR (b+2),vR 24,WG "ValueError",WG "Exception",WG "BaseException",WG "object"],ns:=(b+1),qualname:=Yw c},slots:=#[b0 (vR (b-7)),b3,b0 (vS c (a-7)),b0 (vS c (a+1)),b0 (Yb "ValueError.__new__"),b0 (Yc b5)]})::({cls:=WG "super",data:=Xf #[vR (b+2),vR (b+2),vR (b+2)]})::({cls:=WG "builtin_function_or_method",data:=Xf #[Yb "object.__init_subclass__",vR (b+2)]})::R
open PySem.W in
noncomputable def wV(P:X2)(a:Nat)(c:String)(d:Nat)(b:Nat)(h:List String)(g:String)(e:Nat)(i:List String)(R:List Obj):List Obj:=(tO #[vR 24])::({cls:=WG "builtin_function_or_method",data:=Xf #[Yb "type.__prepare__",WG "type"]})::({cls:=WG "dict",data:=Zj #[eO P "__module__" a (vS "creasecourt.errors" 187),eO P "__qualname__" (a+2) (vS c (a+1)),eO P "__firstlineno__" (a+4) (W5 d (a+3)),eR P "__init__" (a+12) b,eR P "__static_attributes__" (a+14) (b+1)] 5})::(tO #[])::({cls:=vN,data:=Xf #[vI (d+2),vI 4,vR (b-1)]})::(cO #[vS c (a-5),vS c (a-4),vS "/claim/cut.py" (a-3),vI d,vI 0,vI 0,vI 0,vI 0,vR (b-10),Yc b4,vI 181,vR (b-9),vN,vN,vN,vN,vI (a-2),vI d,vS "/claim/cut.py" (a-1)])::({cls:=WG "frame",slots:=#[b0 (vR (b-8)),b0 (vR 3),b0 (vR (b-11)),b3,b0 (vS "creasecourt.errors" 187),b3,b0 (vR 0)]})::(tO #[])::({cls:=vN,data:=Xf #[]})::(tN h (a+8))::(tO #[])::(⟨vN,b3,.func ({X9 "__init__" g (iH (n8 e 0)) (fL (n8 e 0)) (cJ (n8 e 0)) vN vN vN vN (b3) vN vN with globals:=0}),#[]⟩)::(cO #[vS "__init__" (a+5),vS g (a+6),vS "/claim/cut.py" (a+7),vI (d+2),vI 2,vI 0,vI 0,vI 3,vR (b-6),Yc b5,vI 181,vR (b-5),vN,vR (b-4),vR (b-3),vR (b-2),vI (a+10),vI (d+2),vS "/claim/cut.py" (a+11)])::(⟨WG "function",b3,.func (X9 "__init__" g (iH (n8 e 0)) (fL (n8 e 0)) (cJ (n8 e 0)) vN vN vN (vS "creasecourt.errors" 187) (b3) (vR (b-1)) vN),#[]⟩)::(tN i (a+13))::({cls:=WG "dict",data:=Zj #[eO P "__module__" a (vS "creasecourt.errors" 187),eO P "__firstlineno__" (a+4) (W5 d (a+3)),eR P "__init__" (a+12) b,eR P "__static_attributes__" (a+14) (b+1),eO P "__doc__" (a+15) vN] 2})::({cls:=WG "type",data:=a4J {name:=Yw c,bases:=[vR 24],mro:=[vR (b+3),vR 24,WG "ValueError",WG "Exception",WG "BaseException",WG "object"],ns:=(b+2),qualname:=Yw c},slots:=#[b0 (vR (b-13)),b3,b0 (vS c (a-7)),b0 (vS c (a+1)),b0 (Yb "ValueError.__new__"),b0 (Yc b5)]})::({cls:=WG "super",data:=Xf #[vR (b+3),vR (b+3),vR (b+3)]})::({cls:=WG "builtin_function_or_method",data:=Xf #[Yb "object.__init_subclass__",vR (b+3)]})::R
open PySem.W in
noncomputable def bP(h:List String)(b:Nat)(c:String)(d:Nat)(e:Nat)(i:Nat)(a:Nat)(g:Nat)(j:String)(k:Nat)(R:List Obj):List Obj:=(tO #[])::({cls:=vN,data:=Xf #[]})::(tN h b)::(tO #[])::(⟨vN,b3,.func ({X9 c c (iH (aI d)) (fL (aI d)) (cJ (aI d)) vN vN vN vN (b3) vN vN with globals:=0}),#[]⟩)::(kO c "/claim/cut.py" (b-3) (b-2) (b-1) e i 0 0 3 a 181 #[vR (a+1),vN,vR (a+2),vR (a+3),vR (a+4)] g e (g+1))::(fO c d (vS j k) (a+5))::R
open PySem.W in
noncomputable def fF(b:String)(c:Nat)(a:Nat)(e:Nat)(g:Nat)(d:Nat)(h:String)(i:Nat)(R:List Obj):List Obj:=(tO #[])::({cls:=vN,data:=Xf #[]})::(⟨vN,b3,.func ({X9 b b (iH (aI c)) (fL (aI c)) (cJ (aI c)) vN vN vN vN (b3) vN vN with globals:=0}),#[]⟩)::(kO b "/claim/cut.py" a (a+1) (a+2) e g 0 0 3 d 181 #[vR (d+1),vN,vN,vN,vR (d+2)] (a+3) e (a+4))::(fO b c (vS h i) (d+3))::R
open PySem.W in
noncomputable def sJ(b:Nat)(a:Nat)(c:Nat)(R:List Obj):List Obj:=(tO #[W5 b a,W5 c (a+1)])::R
open PySem.W in
noncomputable def lN(P:X2):List DictEntry:=[eO P "__doc__" 166 vN,eO P "__package__" 167 vN,eO P "__loader__" 168 (Yb "__main__.__loader__#opaque"),eO P "__spec__" 169 vN,eR P "__annotations__" 170 6,eR P "__builtins__" 171 4,eO P "__file__" 173 (vS "/claim/cut.py" 172),eO P "__cached__" 174 vN,eR P "CreaseError" 206 24,eR P "NoSize" 222 37,eR P "NoMark" 238 49,eR P "NoEdge" 263 68,eR P "Twice" 288 87,eR P "Barred" 313 106,eR P "EIGHT_EDGES" 338 117,eR P "FOUR_EDGES" 351 122,eR P "is_whole" 358 129,eR P "is_place" 365 136,eR P "is_corner" 372 143,eR P "is_edge" 379 150,eR P "is_quarter" 386 157,eR P "line_of" 393 164,eR P "beside" 402 171,eR P "sides_of" 408 176,eR P "moved_by" 414 181,eR P "edges_round" 421 188,eR P "number_by" 429 195,eR P "hand_of" 439 202,eR P "mirrored" 451 209,eR P "MARKS" 457 210,eR P "is_size" 464 217,eR P "check_size" 472 224,eR P "is_mark" 479 231,eR P "is_within" 488 238,eR P "places_within" 494 243,eR P "quarters_in" 500 248,eR P "edges_in" 506 253,eR P "corners_in" 512 258,eR P "is_inner_edge" 521 265,eR P "sheet_of" 533 272,eR P "marks_in" 540 279,eR P "is_good" 548 284,eR P "creases_at" 556 289,eR P "gaps_at" 562 294,eR P "barred" 570 301,eR P "check_corners" 578 308,eR P "tie_of" 590 315,eR P "is_least" 598 322,eR P "ties_of_gap" 609 329,eR P "ties_at" 621 336,eR P "ties" 630 343,eR P "TURNED" 639 344,eR P "walked_back" 646 351,eR P "steps_from" 655 358,eR P "is_marked" 662 365,eR P "marked_creases" 668 370,eR P "last_steps" 681 377,eR P "way_by" 691 384,eR P "is_alike" 697 389,eR P "carried_mark" 708 396,eR P "carried" 714 401,eR P "way_to" 723 408,eR P "STILL" 732 409,eR P "laying_by" 741 416,eR P "mirror_in" 748 423,eR P "led" 758 430,eR P "then" 766 437,eR P "_law_nth" 776 444,eR P "_law_folded" 788 451,eR P "_law_folds" 794 456,eR P "_law_gaps" 807 463,eR P "_law_star" 825 470,eR P "_law_creases" 838 477,eR P "_law_square" 845 484,eR P "_law_sheet" 861 491,eR P "_law_round_a" 867 496,eR P "_law_inner" 877 503,eR P "_law_barred" 883 508,eR P "_law_tie" 896 515,eR P "_law_ties" 902 520,eR P "_law_groups" 922 527,eR P "_law_told" 936 534,eR P "_law_steps" 946 541,eR P "_law_odd" 952 546,eR P "_law_due" 966 553,eR P "_law_way" 979 560,eR P "law" 995 567]
noncomputable def lM:gw:=a5n (λp:Nat×Nat=>[vI p.1,vI 0,vR p.2]) [(2,20),(4,33),(6,45),(8,57),(13,76),(18,95),(26,128),(28,135),(30,142),(32,149),(36,156),(40,163),(44,170),(48,175),(50,180),(52,187),(54,194),(62,201),(68,208),(82,216),(84,223),(87,230),(89,237),(91,242),(96,247),(98,252),(100,257),(102,264),(104,271),(117,278),(120,283),(127,288),(130,293),(137,300),(142,307),(147,314),(149,321),(151,328),(157,335),(167,342),(175,350),(177,357),(183,364),(185,369),(187,376),(199,383),(206,388),(208,395),(214,400),(218,407),(225,415),(227,422),(229,429),(233,436),(236,443),(238,450),(245,455),(256,462),(270,469),(287,476),(297,483),(300,490),(323,495),(334,502),(341,507),(348,514),(352,519),(366,526),(381,533),(390,540),(401,545),(403,552),(411,559),(421,566)]
open PySem.W in
noncomputable def lB(P:X2):List Obj:=(((lA P).set 3 ({cls:=WG "dict",data:=Zj (W0 (eO P "__name__" 165 (vS "creasecourt.places" 314)::(lN P).take 14)) 15})).set 12 ({cls:=vN,data:=Xf (W0 (lM.take 18))}))++((tO #[WG "ValueError"])::(({cls:=WG "builtin_function_or_method",data:=Xf #[Yb "type.__prepare__",WG "type"]})::(({cls:=WG "dict",data:=Zj #[eO P "__module__" 196 (vS "creasecourt.errors" 187),eO P "__qualname__" 198 (vS "CreaseError" 197),eO P "__firstlineno__" 200 (W5 2 199),eR P "__static_attributes__" 201 22] 4})::((tO #[])::(({cls:=vN,data:=Xf #[]})::((cO #[vS "CreaseError" 191,vS "CreaseError" 192,vS "/claim/cut.py" 193,vI 2,vI 0,vI 0,vI 0,vI 0,vR 18,Yc b4,vI 181,vR 19,vN,vN,vN,vN,vI 194,vI 2,vS "/claim/cut.py" 195])::(({cls:=WG "frame",slots:=#[b0 (vR 20),b0 (vR 3),b0 (vR 17),b3,b0 (vS "creasecourt.errors" 187),b3,b0 (vR 0)]})::((tO #[])::(({cls:=WG "dict",data:=Zj #[eO P "__module__" 196 (vS "creasecourt.errors" 187),eO P "__firstlineno__" 200 (W5 2 199),eR P "__static_attributes__" 201 22,eR P "__weakref__" 203 25,eO P "__doc__" 204 vN] 3})::(({cls:=WG "type",data:=a4J {name:=Yw "CreaseError",bases:=[WG "ValueError"],mro:=[vR 24,WG "ValueError",WG "Exception",WG "BaseException",WG "object"],ns:=23,qualname:=Yw "CreaseError",subclasses:=[vR 37,vR 49,vR 68,vR 87,vR 106]},slots:=#[b0 (vR 15),b3,b0 (vS "CreaseError" 189),b0 (vS "CreaseError" 197),b0 (Yb "ValueError.__new__"),b0 (Yc b5)]})::(({cls:=WG "getset_descriptor",data:=Xf #[vS "__weakref__" 202,vR 24,Yb "ExceptionGroup.__weakref__",vN]})::(({cls:=WG "super",data:=Xf #[vR 24,vR 24,vR 24]})::(({cls:=WG "builtin_function_or_method",data:=Xf #[Yb "object.__init_subclass__",vR 24]})::(B6 P 214 "NoSize" 4 35 (B6 P 230 "NoMark" 6 47 (wV P 246 "NoEdge" 8 65 ["self","edge"] "NoEdge.__init__" 4 ["edge"] (wV P 271 "Twice" 13 84 ["self","edge"] "Twice.__init__" 5 ["edge"] (wV P 296 "Barred" 18 103 ["self","corner"] "Barred.__init__" 6 ["corner"] []))))))))))))))))))
open PySem.W in
noncomputable def lC(P:X2):List Obj:=(((lB P).set 3 ({cls:=WG "dict",data:=Zj (W0 (eO P "__name__" 165 (vS "creasecourt.carried" 631)::(lN P).take 51)) 52})).set 12 ({cls:=vN,data:=Xf (W0 (lM.take 120))}))++(sJ 2 316 0 (sJ 1 318 1 (sJ 0 320 2 ((tO #[W5 (-1) 323,W5 1 324])::((tO #[W5 (-2) 326,W5 0 327])::((tO #[W5 (-1) 329,W5 (-1) 331])::((tO #[W5 0 332,W5 (-2) 334])::((tO #[W5 1 335,W5 (-1) 337])::((tO #[vR 109,vR 110,vR 111,vR 112,vR 113,vR 114,vR 115,vR 116])::(sJ 1 339 1 ((tO #[W5 (-1) 342,W5 1 343])::((tO #[W5 (-1) 345,W5 (-1) 347])::((tO #[W5 1 348,W5 (-1) 350])::((tO #[vR 118,vR 119,vR 120,vR 121])::(bP ["value"] 355 "is_whole" 10 26 1 123 356 "creasecourt.places" 314 (bP ["value"] 362 "is_place" 11 28 1 130 363 "creasecourt.places" 314 (bP ["place"] 369 "is_corner" 12 30 1 137 370 "creasecourt.places" 314 (bP ["place"] 376 "is_edge" 13 32 1 144 377 "creasecourt.places" 314 (bP ["place"] 383 "is_quarter" 14 36 1 151 384 "creasecourt.places" 314 (bP ["edge"] 390 "line_of" 15 40 1 158 391 "creasecourt.places" 314 (bP ["place","x","y"] 397 "beside" 16 44 1 165 400 "creasecourt.places" 314 (fF "sides_of" 17 403 48 1 172 "creasecourt.places" 314 (fF "moved_by" 18 409 50 2 177 "creasecourt.places" 314 (bP ["corner"] 418 "edges_round" 19 52 1 182 419 "creasecourt.places" 314 (bP ["line","place"] 425 "number_by" 20 54 2 189 427 "creasecourt.places" 314 (bP ["place","edge","line","ahead"] 433 "hand_of" 21 62 2 196 437 "creasecourt.places" 314 (bP ["place","edge","x","y","line","number"] 443 "mirrored" 22 68 2 203 449 "creasecourt.places" 314 ((tN ["h","v","o"] 454)::(bP ["value"] 461 "is_size" 25 82 1 211 462 "creasecourt.sheets" 452 (bP ["wide","high"] 468 "check_size" 26 84 2 218 470 "creasecourt.sheets" 452 (bP ["value"] 476 "is_mark" 27 87 1 225 477 "creasecourt.sheets" 452 (bP ["wide","high","place"] 483 "is_within" 28 89 3 232 486 "creasecourt.sheets" 452 (fF "places_within" 29 489 91 2 239 "creasecourt.sheets" 452 (fF "quarters_in" 30 495 96 2 244 "creasecourt.sheets" 452 (fF "edges_in" 31 501 98 2 249 "creasecourt.sheets" 452 (fF "corners_in" 32 507 100 2 254 "creasecourt.sheets" 452 (bP ["wide","high","value"] 516 "is_inner_edge" 33 102 3 259 519 "creasecourt.sheets" 452 (bP ["wide","high","creases","marks","crease","edge"] 525 "sheet_of" 34 104 3 266 531 "creasecourt.sheets" 452 (bP ["sheet"] 537 "marks_in" 35 117 1 273 538 "creasecourt.sheets" 452 (fF "is_good" 37 543 120 1 280 "creasecourt.wedges" 541 (fF "creases_at" 39 551 127 2 285 "creasecourt.corners" 549 (fF "gaps_at" 40 557 130 2 290 "creasecourt.corners" 549 (bP ["sheet","corner"] 566 "barred" 41 137 1 295 568 "creasecourt.corners" 549 (bP ["sheet","corner"] 574 "check_corners" 42 142 1 302 576 "creasecourt.corners" 549 (bP ["one","other","alike","corner"] 584 "tie_of" 44 147 4 309 588 "creasecourt.ties" 579 (bP ["gaps","k"] 594 "is_least" 45 149 2 316 596 "creasecourt.ties" 579 (bP ["creases","k","corner","count","told"] 602 "ties_of_gap" 46 151 3 323 607 "creasecourt.ties" 579 (bP ["sheet","corner","creases","gaps","told","k"] 613 "ties_at" 47 157 2 330 619 "creasecourt.ties" 579 (bP ["sheet","told","corner"] 625 "ties" 48 167 1 337 628 "creasecourt.ties" 579 [])))))))))))))))))))))))))))))))))))))))))))))))))
open PySem.W in
noncomputable def lD(P:X2):List Obj:=(((lC P).set 3 ({cls:=WG "dict",data:=Zj (W0 (eO P "__name__" 165 (vS "law_creasecourt_k53_marks_carried" 767)::(lN P).take 87)) 88})).set 12 ({cls:=vN,data:=Xf (W0 (lM.take 222))}))++(({cls:=WG "dict",data:=Zj #[eO P "h" 633 (vS "v" 634),eO P "v" 635 (vS "h" 636)] 2})::(bP ["step"] 643 "walked_back" 51 175 1 345 644 "creasecourt.carried" 631 (bP ["sheet","steps","tie"] 650 "steps_from" 52 177 1 352 653 "creasecourt.carried" 631 (bP ["mark"] 659 "is_marked" 53 183 1 359 660 "creasecourt.carried" 631 (fF "marked_creases" 54 663 185 1 366 "creasecourt.carried" 631 (bP ["steps","starts","reached","start","due","here","step"] 672 "last_steps" 55 187 2 371 679 "creasecourt.carried" 631 (bP ["reached","edge","way","step"] 685 "way_by" 56 199 2 378 689 "creasecourt.carried" 631 (fF "is_alike" 57 692 206 1 385 "creasecourt.carried" 631 (bP ["marks","reached","edge","way","first"] 701 "carried_mark" 58 208 3 390 706 "creasecourt.carried" 631 (fF "carried" 59 709 214 1 397 "creasecourt.carried" 631 (bP ["sheet","edge","reached"] 718 "way_to" 60 218 2 402 721 "creasecourt.carried" 631 ((tO #[W5 1 726,W5 0 727,W5 0 728,W5 1 729,W5 0 730,W5 0 731])::(bP ["start","right","down"] 736 "laying_by" 63 225 3 410 739 "creasecourt.layings" 724 (bP ["edge"] 745 "mirror_in" 64 227 1 417 746 "creasecourt.layings" 724 (bP ["laying","place","x","y"] 752 "led" 65 229 2 424 756 "creasecourt.layings" 724 (bP ["one","other"] 762 "then" 66 233 2 431 764 "creasecourt.layings" 724 (bP ["_law_script","_law_k"] 772 "_law_nth" 68 236 2 438 774 "law_creasecourt_k53_marks_carried" 767 (bP ["_law_layings","_law_edge","_law_hand","_law_made","_law_quarter","_law_laying"] 780 "_law_folded" 69 238 3 445 786 "law_creasecourt_k53_marks_carried" 767 (fF "_law_folds" 70 789 245 3 452 "law_creasecourt_k53_marks_carried" 767 (bP ["_law_cell","_law_corner","_law_one","_law_other","_law_some","_law_found","_law_k"] 798 "_law_gaps" 71 256 2 457 805 "law_creasecourt_k53_marks_carried" 767 (bP ["_law_size","_law_cell","_law_steps_here","_law_corners","_law_corner","_law_found","_law_k","_law_gap","_law_right","_law_down","_law_x","_law_y"] 811 "_law_star" 72 270 2 464 823 "law_creasecourt_k53_marks_carried" 767 (bP ["_law_script","_law_at","_law_size","_law_way_here","_law_found","_law_k","_law_edge"] 829 "_law_creases" 73 287 3 471 836 "law_creasecourt_k53_marks_carried" 767 (bP ["_law_found"] 842 "_law_square" 74 297 0 478 843 "law_creasecourt_k53_marks_carried" 767 (bP ["_law_script","_law_at","_law_head","_law_size","_law_creases_here","_law_inner_here","_law_edge","_law_number","_law_marked","_law_k"] 849 "_law_sheet" 75 300 2 485 859 "law_creasecourt_k53_marks_carried" 767 (fF "_law_round_a" 76 862 323 2 492 "law_creasecourt_k53_marks_carried" 767 (bP ["_law_sheet_here","_law_found","_law_x","_law_y"] 871 "_law_inner" 77 334 1 497 875 "law_creasecourt_k53_marks_carried" 767 (fF "_law_barred" 78 878 341 1 504 "law_creasecourt_k53_marks_carried" 767 (bP ["_law_near","_law_k","_law_other","_law_alike","_law_corner","_law_one","_law_two"] 887 "_law_tie" 79 348 5 509 894 "law_creasecourt_k53_marks_carried" 767 (fF "_law_ties" 80 897 352 1 516 "law_creasecourt_k53_marks_carried" 767 (bP ["_law_sheet_here","_law_some","_law_root","_law_edge","_law_mark","_law_other","_law_alike","_law_corner","_law_one","_law_odd_here","_law_two","_law_odder","_law_turned","_law_each"] 906 "_law_groups" 81 366 2 521 920 "law_creasecourt_k53_marks_carried" 767 (bP ["_law_sheet_here","_law_root","_law_told_here","_law_edge","_law_mark","_law_one","_law_odd_here","_law_turned"] 926 "_law_told" 82 381 2 528 934 "law_creasecourt_k53_marks_carried" 767 (bP ["_law_found","_law_some","_law_k","_law_step"] 940 "_law_steps" 83 390 2 535 944 "law_creasecourt_k53_marks_carried" 767 (fF "_law_odd" 84 947 401 1 542 "law_creasecourt_k53_marks_carried" 767 (bP ["_law_sheet_here","_law_root","_law_told_here","_law_found","_law_edge","_law_mark","_law_one","_law_odd_here"] 956 "_law_due" 85 403 3 547 964 "law_creasecourt_k53_marks_carried" 767 (bP ["_law_sheet_here","_law_some","_law_marks","_law_edge","_law_mark","_law_found","_law_first"] 970 "_law_way" 86 411 5 554 977 "law_creasecourt_k53_marks_carried" 767 (bP ["_law_script","_law_sheet_here","_law_some","_law_root","_law_due_here","_law_found","_law_marks","_law_edge","_law_mark","_law_k"] 983 "law" 87 421 1 561 993 "law_creasecourt_k53_marks_carried" 767 []))))))))))))))))))))))))))))))))))))
noncomputable def As:List Addr:=[3,109,110,111,112,113,114,115,116,117,118,119,120,121,122,128,129,135,136,142,143,149,150,156,157,163,164,170,171,175,176,180,181,187,188,194,195,201,202,208,209,210,216,217,223,224,230,231,237,238,242,243,247,248,252,253,257,258,264,265,271,272,278,279,283,284,288,289,293,294,300,301,307,308,314,315,321,322,328,329,335,336,342,343,344,350,351,357,358,364,365,369,370,376,377,383,384,388,389,395,396,400,401,407,408,409,415,416,422,423,429,430,436,437,443,444,450,451,455,456,462,463,469,470,476,477,483,484,490,491,495,496,502,503,507,508,514,515,519,520,526,527,533,534,540,541,545,546,552,553,559,560,566,567]
noncomputable def Kx:X2 → V8:=λP=>As.map λa=>(a,((lD P)[a]?).getD (tO #[]))
theorem pR:∀P,As=(Kx P).map (·.1):=λ_=>by kernel_rfl
noncomputable def vE:a1a:={scope:=Xq.main.scope,locals:=mainNs,globals:=mainNs,cells:=[],code:=Wx 13,frame:=b0 14}
open PySem.W PyProof.Rows in
set_option maxRecDepth 100000 in
set_option maxHeartbeats 0 in
theorem JW(w:WX)(a:Z4):topGo Yp (Xe We).prog w 11 (b0 (Wx 6)) 12 ⟨ZO w.params,W0 [],Xp,a2j,a⟩ (topStub (Xe We).prog)=b0 (⟨⟨W0 (lA w.params),{}⟩,W0 [],Xp,187,a⟩,⟨denote Yp (.body (WJ (Xe We).prog) vE),(.body (WJ (Xe We).prog) vE),⟨0,0,0,0⟩,[ZD ⟨0,0,0,0⟩]⟩):=by kernel_rfl
open PySem.W PyProof.Rows in
set_option maxRecDepth 100000 in
set_option maxHeartbeats 0 in
theorem JX(w:WX)(a:Z4):a1E Yp (Xe We).prog w 11 (b0 (Wx 6)) 1 1 ⟨⟨W0 (lA w.params),{}⟩,W0 [],Xp,187,a⟩ (blockOf (WJ (Xe We).prog) vE (.body (WJ (Xe We).prog) vE) ⟨0,0,0,0⟩ [ZD ⟨0,0,0,0⟩])=b0 (.next,⟨⟨W0 (lA w.params),{}⟩,W0 [],Xp,187,a⟩,(.body (WJ (Xe We).prog) vE),⟨0,0,0,0⟩):=by kernel_rfl
open PySem.W PyProof.Rows in
set_option maxRecDepth 100000 in
set_option maxHeartbeats 0 in
theorem JY(w:WX)(a:Z4):a1E Yp (Xe We).prog w 11 (b0 (Wx 6)) 1 1366 ⟨⟨W0 (lA w.params),{}⟩,W0 [],Xp,187,a⟩ (a1c ((WJ (Xe We).prog).take 8) vE (.body (WJ (Xe We).prog) vE) ⟨0,0,0,0⟩ [ZD ⟨0,0,0,0⟩])=b0 (.next,⟨⟨W0 (lB w.params),{}⟩,W0 [],Xp,316,a⟩,(.body (WJ (Xe We).prog) vE),⟨23,0,23,8⟩):=by kernel_rfl
open PySem.W PyProof.Rows in
set_option maxRecDepth 100000 in
set_option maxHeartbeats 0 in
theorem JZ(w:WX)(a:Z4):a1E Yp (Xe We).prog w 11 (b0 (Wx 6)) 1 1174 ⟨⟨W0 (lB w.params),{}⟩,W0 [],Xp,316,a⟩ (a1c (((WJ (Xe We).prog).drop 8).take 42) vE (.body (WJ (Xe We).prog) vE) ⟨23,0,23,8⟩ [ZD ⟨0,0,0,0⟩])=b0 (.next,⟨⟨W0 (lC w.params),{}⟩,W0 [],Xp,633,a⟩,(.body (WJ (Xe We).prog) vE),⟨173,0,173,8⟩):=by kernel_rfl
open PySem.W PyProof.Rows in
set_option maxRecDepth 100000 in
set_option maxHeartbeats 0 in
theorem J0(b:Bool)(w:WX)(a:Z4):a1E Yp (Xe We).prog (w.withFollow "special-get-raises" b) 11 (b0 (Wx 6)) 1 1152 ⟨⟨W0 (lC (w.withFollow "special-get-raises" b).params),{}⟩,W0 [],Xp,633,a⟩ (a1c ((((WJ (Xe We).prog).drop 8).drop 42).take 38) vE (.body (WJ (Xe We).prog) vE) ⟨173,0,173,8⟩ [ZD ⟨0,0,0,0⟩])=b0 (.next,⟨⟨W0 (lD (w.withFollow "special-get-raises" b).params),{}⟩,W0 [],Xp,996,a⟩,(.body (WJ (Xe We).prog) vE),⟨421,0,441,52⟩):=by cases b<;>kernel_rfl
open PySem.W PyProof.Rows in
set_option maxRecDepth 100000 in
set_option maxHeartbeats 0 in
theorem J1(w:WX)(a:Z4):a1E Yp (Xe We).prog w 11 (b0 (Wx 6)) 1 1152 ⟨⟨W0 (lC w.params),{}⟩,W0 [],Xp,633,a⟩ (a1c ((((WJ (Xe We).prog).drop 8).drop 42).take 38) vE (.body (WJ (Xe We).prog) vE) ⟨173,0,173,8⟩ [ZD ⟨0,0,0,0⟩])=b0 (.next,⟨⟨W0 (lD w.params),{}⟩,W0 [],Xp,996,a⟩,(.body (WJ (Xe We).prog) vE),⟨421,0,441,52⟩):=by have h:=J0 (w.params.followText "special-get-raises") w a;rw[World.withFollow_self]at h;exact h
open PySem.W PyProof.Rows in
set_option maxRecDepth 100000 in
set_option maxHeartbeats 0 in
theorem run:LeftO (Xe We).prog Vw ["TURNED"] (λs=>xlAt Vw [] s&&recOk (a5k (a4b (Xe We))) s) (Hook.obs (a6n Kx As pR)) (Hook.val (a6n Kx As pR)) 7504:=
 L3.left_cut (hA:=λP=>⟨W0 (lA P),{}⟩) (hB:=λP=>⟨W0 (lB P),{}⟩) (hC:=λP=>⟨W0 (lC P),{}⟩) (hD:=λP=>⟨W0 (lD P),{}⟩) (n4:=201) (i1:=8) (i2:=42) (i3:=38) (env:=vE) (boot_open (by kernel_rfl) (by kernel_rfl) (λ_=>by kernel_rfl)) (λw=>by kernel_rfl) JW JX JY JZ J1 (λw a=>by kernel_rfl) (by kernel_rfl)
open PySem.W PyProof.Rows in
set_option maxRecDepth 100000 in
set_option maxHeartbeats 0 in
theorem wSaid:PySem.Challenge.rw_creasecourt_k53_marks_carried.wellSaid=true:=by decide +kernel
end Lw
set_option maxHeartbeats 4000000
namespace L3
open PySem
open PySem.SetTable (Probe Met Slot bits runEnd leap turns insertAt sizeAbove)
namespace Tb
noncomputable def J5(m:Nat)(p:Probe):Probe:=
 if p.more>0 then{p with j:=p.j+1,more:=p.more-1}else
 {p with j:=(leap m p.i p.perturb).1,more:=runEnd m (leap m p.i p.perturb).1-(leap m p.i p.perturb).1,i:=(leap m p.i p.perturb).1,perturb:=(leap m p.i p.perturb).2}
noncomputable def J6(m:Nat)(b:Nat):Probe:={j:=b%(m+1),more:=runEnd m (b%(m+1))-b%(m+1),i:=b%(m+1),perturb:=b,dummy:=b3}
noncomputable def wW(m b:Nat):Nat->Probe
 |0=>J6 m b|k+1=>J5 m (wW m b k)
noncomputable def hd(m i q:Nat):Probe:={j:=i,more:=runEnd m i-i,i:=i,perturb:=q,dummy:=b3}
noncomputable def nx(m i:Nat):Nat:=(i*5+1)%(m+1)
noncomputable def B7(m:Nat):Nat->Nat->Nat
 |0,i=>i|n+1,i=>B7 m n (nx m i)
noncomputable def mT(m:Nat):Nat->Nat->Nat->Nat
 |0,_,acc=>acc|f+1,i,acc=>mT m f (nx m i) (acc ||| (1 <<< i))
noncomputable def J7(m:Nat):Bool:=mT m (m+1) 0 0==2^(m+1)-1&&B7 m (m+1) 0==0
noncomputable def B8(m:Nat)(S:List Nat)(b j:Nat):Prop:=∃k,(wW m b k).j=j/\∀k',k'<k->(wW m b k').j∈S
noncomputable abbrev sL:=Nat×Int×Value
structure Ok(t:a4x)(R:List sL):Prop where
 place:t.place.toList=R.map (·.1)
 dum:t.dummies=#[]
 rise:(R.map (·.1)).Pairwise (·<·)
 le:∀r∈R,r.1<=t.mask
 cov:J7 t.mask=b5
 odd:t.mask%2=1
 room:R.length<=t.mask
 road:∀r∈R,B8 t.mask (R.map (·.1)) (bits r.2.1) r.1
section
variable{t:a4x}{R:List sL}
theorem Ok.size(o:Ok t R):t.place.size=R.length:=by have:=congrArg Xm o.place;simpa using this
theorem Ok.getD(o:Ok t R){i:Nat}(a:i<R.length):t.place.getD i 0=(R[i]).1:=by
 have h:t.place.toList[i]?=(R.map (·.1))[i]?:=by rw[o.place]
 have b:i<t.place.size:=by rw[o.size];exact a
 simp[a,b]at h;simp[a1Z,b,h]
end
noncomputable def lv(m:Nat)(a:Array (Option Nat)):List (Nat×Nat):=(WR (m+1)).filterMap λj=>(a.getD j b3).map (j,·)
structure Ow(m:Nat)(ds:List Int)(ow:Array (Option Nat)):Prop where
 size:ow.size=m+1
 lt:∀j i,ow.getD j b3=b0 i->i<ds.length
 all:∀i,i<ds.length->∃j,ow.getD j b3=b0 i
 inj:∀j j' i,ow.getD j b3=b0 i->ow.getD j' b3=b0 i->j=j'
 road:∀j i,ow.getD j b3=b0 i->B8 m ((lv m ow).map (·.1)) (bits (ds.getD i 0)) j
section
variable{m:Nat}{ds:List Int}{ow:Array (Option Nat)}
end
theorem Ow.nil(m:Nat):Ow m [] (a1H (m+1) b3):=by
 have e:∀j,(a1H (m+1) (b3:Option Nat)).getD j b3=none:=λj=>by simp[a1Z]
 have no:∀{P:Prop}(j i:Nat),(a1H (m+1) (b3:Option Nat)).getD j b3=b0 i->P:=λj i h=>by rw[e]at h;exact nomatch h
 exact⟨by simp,λj i h=>no j i h,λi h=>absurd h (a1U _),λj a i h _=>no j i h,λj i h=>no j i h⟩
end Tb
end L3
namespace L3
open PySem
open PySem.SetTable (Probe Met Slot bits runEnd leap turns insertAt sizeAbove)
namespace Tb
section
variable{prog:WL}{w:WX}{K:Type} [DecidableEq K] {knd:KeyKind prog w K}{A:WY}{E:Value->Wf->Prop}{s:Wf}
theorem fits_of{t:a4x}{R:List sL}{es:Array (Int×Value)}(o:Ok t R)(c:es.toList=R.map (·.2)):t.fits es.size=true:=by
 have a:es.size=R.length:=by simpa using congrArg Xm c
 have b:=o.room;unfold SetTable.fits SetTable.fill;rw[o.size,a,o.dum];simp;exact b
end
section
variable{prog:WL}{w:WX}{A:WY}{E:Value->Wf->Prop}{s:Wf}
noncomputable abbrev El:=List Int×Addr
noncomputable def hashT(k:List Int):Int:=reduceHash (a5A (k.map hashInt))
noncomputable def J8(p:El):Int×Value:=(hashT p.1,Wx p.2)
noncomputable def J9(m:Nat):Prop:=m=7\/m=31\/m=127\/m=511
noncomputable def B9(w:WX):Bool:=w.params.followText "set-order"
noncomputable def Ca(a:Bool)(L:List El)(o:Obj):Prop:=∃es ep t R,o.ExactSet/\o.data=.set es ep t/\es.toList=R.map (·.2)/\Ok t R/\es.toList.Perm (L.map J8)/\(L.map (·.1)).Nodup/\J9 t.mask/\L.length*5<t.mask*3/\t.plain=b5/\t.led=a
noncomputable def SObj(L:List El)(o:Obj):Prop:=∃a,Ca a L o
noncomputable def Bo(prog:WL)(w:WX)(h:Xo)(a:Addr)(L:List El):Prop:=∃o,h.get? a=b0 o/\Ca (!B9 w) L o/\∀p∈L,IsTupleKey (Y3 prog w) h p.1 p.2
end
end Tb
end L3
namespace L3
open PySem
namespace Tb
section
variable{prog:WL}{w:WX}{A:WY}{E:Value->Wf->Prop}{s:Wf}
structure SAt(w:WX)(h:Xo)(a:Addr)(es:Array (Int×Value))(ep:Nat)(t:a4x)(R:List sL):Prop where
 at_:∃o,h.get? a=b0 o/\o.cls=.type "set"/\o.data=.set es ep t
 he:es.toList=R.map (·.2)
 ok:Ok t R
 pl:t.plain=b5
 led:t.led=!B9 w
end
end Tb
end L3
namespace L3
open PySem L2
inductive D where
 |non|bl (b:Bool)|int (i:Int)|str (x:Str)|tup (xs:List D)|rol (xs:List D)|loc (a:Nat)|ty (n:String)
 deriving Inhabited
inductive C where
 |lst (xs:List D)
 |dK (kvs:List (bG×D))
 |st (ks:List (List Int))
 |dT (kvs:List (List Int×D))
 |dF (kvs:List (List Int×D))
 deriving Inhabited
noncomputable abbrev Hm:=List C
noncomputable abbrev aH:=List (Option D)
noncomputable abbrev ME:=aH->Hm->Option (D×Hm)
noncomputable abbrev MT:=aH->Hm->Option (Bool×Hm)
noncomputable abbrev MA:=aH->Hm->Option (List D×Hm)
abbrev jk:=Option (D×Hm)
abbrev jx:=List (List Int×D)
abbrev jz:=D×Hm->Prop
inductive Fl where
 |nx|rt (d:D)|bk|ct
noncomputable abbrev MS:=aH->Hm->Option (Fl×aH×Hm)
noncomputable abbrev MF:=List D->Hm->jk
noncomputable def RoL(K:V8)(H:Hp)(p:Addr)(xs:gz):Prop:=
 (∃o,H p=b0 (.frz o (.lst xs))) \/
  ∃(o:Obj)(its:Array Value)(n:Nat),K.lookup p=b0 o/\o.cls=.type "list"/\o.dict=b3/\o.data=.seq its n/\its.size<=Wq/\Vals xs its.toList
theorem RoL.sq{K:V8}{H:Hp}{p:Addr}{xs:gz}(h:RoL K H p xs):SqL K H p xs:=by
 rcases h with⟨o,h⟩|h
 .exact .inl (.inr ⟨o,h⟩)
 .exact .inr h
mutual
inductive IsD (K:V8)(π:Nat->Addr)(n:Nat)(H:Hp):V->D->Prop where
 |non:IsD K π n H .non .non
 |bl (b:Bool):IsD K π n H (.bl b) (.bl b)
 |int (i:Int):IsD K π n H (.int i) (.int i)
 |str (x:Str):IsD K π n H (.str x) (.str x)
 |tup {p:Addr}{vs:gz}{ds:List D}(h:SqT K H p vs)(t:IsDs K π n H vs ds):IsD K π n H (.ref p) (.tup ds)
 |rol {p:Addr}{vs:gz}{ds:List D}(h:RoL K H p vs)(t:IsDs K π n H vs ds):IsD K π n H (.ref p) (.rol ds)
 |loc {a:Nat}(h:a<n):IsD K π n H (.ref (π a)) (.loc a)
 |ty (x:String):IsD K π n H (.ty x) (.ty x)
inductive IsDs (K:V8)(π:Nat->Addr)(n:Nat)(H:Hp):gz->List D->Prop where
 |nil:IsDs K π n H [] []
 |cons {v:V}{d:D}{vs:gz}{ds:List D}(h:IsD K π n H v d)(t:IsDs K π n H vs ds):IsDs K π n H (v::vs) (d::ds)
end
structure Ext(π:Nat->Addr)(n:Nat)(H:Hp)(π':Nat->Addr)(n':Nat)(H':Hp):Prop where
 le:n<=n'
 pi:∀a,a<n->π' a=π a
 tup:∀p vs,H p=b0 (.tup vs)->H' p=b0 (.tup vs)
 frz:∀p o u,H p=b0 (.frz o u)->H' p=b0 (.frz o u)
structure Ext0(π:Nat->Addr)(n:Nat)(H:Hp)(π':Nat->Addr)(n':Nat)(H':Hp):Prop where
 le:n<=n'
 pi:∀a,a<n->π' a=π a
 tup:∀p vs,H p=b0 (.tup vs)->H' p=b0 (.tup vs)
 frz:∀p o u,(∀φ,u≠HO.ext φ)->H p=b0 (.frz o u)->H' p=b0 (.frz o u)
section
variable{K:V8}{π π' π2:Nat->Addr}{n n' n2:Nat}{H H' H2:Hp}
theorem Ext.weak(e:Ext π n H π' n' H'):Ext0 π n H π' n' H':=⟨e.le,e.pi,e.tup,λp o u _ h=>e.frz p o u h⟩
theorem Ext.refl:Ext π n H π n H:=⟨Wh _,λ_ _=>rfl,λ_ _ h=>h,λ_ _ _ h=>h⟩
theorem Ext.trans(a:Ext π n H π' n' H')(b:Ext π' n' H' π2 n2 H2):Ext π n H π2 n2 H2:=
 ⟨W7 a.le b.le,λi h=>(b.pi i (WT h a.le)).trans (a.pi i h),λp c h=>b.tup p c (a.tup p c h),λp o u h=>b.frz p o u (a.frz p o u h)⟩
theorem Ext0.sqT(e:Ext0 π n H π' n' H'){p:Addr}{vs:gz}(h:SqT K H p vs):SqT K H' p vs:=by
 rcases h with h|h
 .rcases h with h|⟨o,h⟩
  .exact .inl (.inl (e.tup _ _ h))
  .exact .inl (.inr ⟨o,e.frz _ _ _ (λ_ z=>nomatch z) h⟩)
 .exact .inr h
theorem Ext.sqT(e:Ext π n H π' n' H'){p:Addr}{vs:gz}(h:SqT K H p vs):SqT K H' p vs:=e.weak.sqT h
theorem Ext0.roL(e:Ext0 π n H π' n' H'){p:Addr}{vs:gz}(h:RoL K H p vs):RoL K H' p vs:=by
 rcases h with⟨o,h⟩|h
 .exact .inl ⟨o,e.frz _ _ _ (λ_ z=>nomatch z) h⟩
 .exact .inr h
theorem Ext.roL(e:Ext π n H π' n' H'){p:Addr}{vs:gz}(h:RoL K H p vs):RoL K H' p vs:=e.weak.roL h
mutual
theorem IsD.mono0{v:V}{d:D}(e:Ext0 π n H π' n' H'):IsD K π n H v d->IsD K π' n' H' v d
 |.non=>.non|.bl b=>.bl b|.int i=>.int i|.str x=>.str x|.ty x=>.ty x|.tup h t=>.tup (e.sqT h) (IsDs.mono0 e t)|.rol h t=>.rol (e.roL h) (IsDs.mono0 e t)|.loc h=>by rw[<- e.pi _ h];exact .loc (WT h e.le)
theorem IsDs.mono0{vs:gz}{ds:List D}(e:Ext0 π n H π' n' H'):IsDs K π n H vs ds->IsDs K π' n' H' vs ds
 |.nil=>.nil|.cons h t=>.cons (IsD.mono0 e h) (IsDs.mono0 e t)
end
theorem IsD.mono{v:V}{d:D}(e:Ext π n H π' n' H')(h:IsD K π n H v d):IsD K π' n' H' v d:=h.mono0 e.weak
theorem IsDs.mono{vs:gz}{ds:List D}(e:Ext π n H π' n' H')(h:IsDs K π n H vs ds):IsDs K π' n' H' vs ds:=h.mono0 e.weak
theorem IsDs.length{vs:gz}{ds:List D}(h:IsDs K π n H vs ds):vs.length=ds.length:=by
 induction ds generalizing vs with
 |nil=>cases h;rfl|cons d ds a=>
  cases h with
  |cons h t=>rw[WO,WO,a t]
theorem IsDs.get{vs:gz}{ds:List D}(h:IsDs K π n H vs ds){i:Nat}{d:D}(e:ds[i]?=b0 d):∃v,vs[i]?=b0 v/\IsD K π n H v d:=by
 induction ds generalizing vs i with
 |nil=>simp at e|cons g ds c=>
  cases h with
  |cons h t=>
   cases i with
   |zero=>simp at e;subst e;exact⟨_,rfl,h⟩|succ i=>obtain⟨v,a,b⟩:=c t (by simpa using e);exact⟨v,by simpa using a,b⟩
theorem IsDs.append{vs ws:gz}{ds es:List D}(h:IsDs K π n H vs ds)(a:IsDs K π n H ws es):IsDs K π n H (vs++ws) (ds++es):=by
 induction ds generalizing vs with
 |nil=>cases h;exact a|cons d ds b=>
  cases h with
  |cons h t=>exact .cons h (b t)
theorem IsDs.drop{vs:gz}{ds:List D}(h:IsDs K π n H vs ds)(k:Nat):IsDs K π n H (vs.drop k) (ds.drop k):=by
 induction ds generalizing vs k with
 |nil=>cases h;simpa using IsDs.nil|cons d ds a=>
  cases h with
  |cons h t=>
   cases k with
   |zero=>exact .cons h t|succ k=>exact a t k
theorem IsDs.take{vs:gz}{ds:List D}(h:IsDs K π n H vs ds)(k:Nat):IsDs K π n H (vs.take k) (ds.take k):=by
 induction ds generalizing vs k with
 |nil=>cases h;simpa using IsDs.nil|cons d ds a=>
  cases h with
  |cons h t=>
   cases k with
   |zero=>exact .nil|succ k=>exact .cons h (a t k)
theorem IsDs.atI{vs:gz}{ds:List D}(h:IsDs K π n H vs ds){i:Int}{d:D}(e:L2.atI ds i=b0 d):∃v,L2.atI vs i=b0 v/\IsD K π n H v d:=by
 unfold L2.atI at e ⊢;rw[h.length];cases q:jP ds.length i with
 |none=>rw[q]at e;cases e|some j=>rw[q]at e;exact h.get e
end
noncomputable def sM(p:Addr)(L:List Tb.El):HO:=.ext λh=>∃o,h.get? p=b0 o/\Tb.SObj L o
noncomputable def sN(p:List Int×Addr×V)(w:Value):DictEntry:=⟨Tb.hashT p.1,.ref p.2.1,w⟩
noncomputable def aS(a:Addr)(ps:List (List Int×Addr×V)):HO:=.ext λh=>∃ws:gw,Vals (ps.map (·.2.2)) ws/\(a==XB)=b4/\ps.length<=Wq /\
 ∃o b c,h.get? a=b0 o/\o.ExactDict/\o.data=.dict b c/\b.toList=a0r sN ps ws/\(ps.map (·.1)).Nodup
structure Rp(K:V8)(π:Nat->Addr)(H:Hp)(μ:Hm):Prop where
 inj:∀a b,a<μ.length->b<μ.length->π a=π b->a=b
 has:∀a,a<μ.length->(H (π a)).isSome=b5
 lst:∀a xs,μ[a]?=b0 (.lst xs)->∃vs,H (π a)=b0 (.lst vs)/\IsDs K π μ.length H vs xs
 dK:∀a kvs,μ[a]?=b0 (.dK kvs)->∃vs,H (π a)=b0 (.dK vs)/\vs.map (·.1)=kvs.map (·.1)/\IsDs K π μ.length H (vs.map (·.2)) (kvs.map (·.2))
 st:∀a ks,μ[a]?=b0 (.st ks)->∃L:List Tb.El,H (π a)=b0 (sM (π a) L)/\L.map (·.1)=ks/\IsDs K π μ.length H (L.map λp=>V.ref p.2) (ks.map λk=>D.tup (k.map D.int))
 dT:∀a kvs,μ[a]?=b0 (.dT kvs)->∃ps:List (List Int×Addr×V),H (π a)=b0 (aS (π a) ps)/\ps.map (·.1)=kvs.map (·.1)/\IsDs K π μ.length H (ps.map λp=>V.ref p.2.1) (kvs.map λk=>D.tup (k.1.map D.int))/\IsDs K π μ.length H (ps.map (·.2.2)) (kvs.map (·.2))
 dF:∀a kvs,μ[a]?=b0 (.dF kvs)->∃(ob:Obj)(ps:List (List Int×Addr×V)),H (π a)=b0 (.frz ob (aS (π a) ps))/\ps.map (·.1)=kvs.map (·.1)/\IsDs K π μ.length H (ps.map λp=>V.ref p.2.1) (kvs.map λk=>D.tup (k.1.map D.int))/\IsDs K π μ.length H (ps.map (·.2.2)) (kvs.map (·.2))
structure En(K:V8)(π:Nat->Addr)(n:Nat)(H:Hp)(σ:St)(ρ:aH):Prop where
 len:σ.length=ρ.length
 get:∀(i:Nat)(d:D),ρ[i]?=b0 (b0 d)->∃v,σ[i]?=b0 (b0 v)/\IsD K π n H v d
section
variable{K:V8}{π π' π2:Nat->Addr}{n n' n2:Nat}{H H' H2:Hp}{μ μ':Hm}{σ:St}{ρ:aH}
theorem En.mono(E:En K π n H σ ρ)(e:Ext π n H π' n' H'):En K π' n' H' σ ρ:=
 ⟨E.len,λi d h=>let⟨v,a,b⟩:=E.get i d h;⟨v,a,b.mono e⟩⟩
theorem En.set(E:En K π n H σ ρ){v:V}{d:D}(h:IsD K π n H v d)(i:Nat):En K π n H (σ.set i (b0 v)) (ρ.set i (b0 d)):=by
 refine⟨by rw[XW,XW];exact E.len,λj c e=>?_⟩;rw[List.getElem?_set]at e ⊢;by_cases a:i=j
 .subst a;rw[if_pos rfl]at e ⊢;rw[E.len];by_cases b:i<ρ.length
  .rw[if_pos b]at e ⊢;cases e;exact⟨v,rfl,h⟩
  .rw[if_neg b]at e;cases e
 .rw[if_neg a]at e ⊢;exact E.get j c e
theorem Rp.ne{p:Addr}(R:Rp K π H μ)(h:H p=b3){a:Nat}(b:a<μ.length):π a≠p:=λe=>by have:=R.has a b;rw[e,h]at this;cases this
theorem Rp.fresh{p:Addr}{o:HO}(R:Rp K π H μ)(h:H p=b3):Ext π μ.length H π μ.length (aK H p o)/\Rp K π (aK H p o) μ:=by
 have c:∀b u,H b=b0 u->aK H p o b=b0 u:=λb u e=>by rw[bJ (iD e h)];exact e
 have e:Ext π μ.length H π μ.length (aK H p o):=⟨Wh _,λ_ _=>rfl,λq i e=>c q _ e,λq o u e=>c q _ e⟩;refine⟨e,R.inj,λa d=>?_,λa w d=>?_,λa g d=>?_,λa s d=>?_
  ,λa g d=>?_
  ,λa g d=>?_
  ⟩
 .rw[bJ (R.ne h d)];exact R.has a d
 .obtain⟨i,j,k⟩:=R.lst a w d;exact⟨i,c _ _ j,k.mono e⟩
 .obtain⟨i,j,k,l⟩:=R.dK a g d;exact⟨i,c _ _ j,k,l.mono e⟩
 .obtain⟨i,j,k,l⟩:=R.st a s d;exact⟨i,c _ _ j,k,l.mono e⟩
 .obtain⟨i,j,k,l,r⟩:=R.dT a g d;exact⟨i,c _ _ j,k,l.mono e,r.mono e⟩
 .obtain⟨v,i,j,k,l,r⟩:=R.dF a g d;exact⟨v,i,c _ _ j,k,l.mono e,r.mono e⟩
noncomputable def pS(K:V8)(π:Nat->Addr)(n:Nat)(H:Hp)(p:Addr):C->HO->Prop
 |.lst xs,.lst vs=>IsDs K π n H vs xs|.dK kvs,.dK vs=>vs.map (·.1)=kvs.map (·.1)/\IsDs K π n H (vs.map (·.2)) (kvs.map (·.2))|.st ks,o=>∃L:List Tb.El,o=sM p L/\L.map (·.1)=ks/\IsDs K π n H (L.map λp=>V.ref p.2) (ks.map λk=>D.tup (k.map D.int))|.dT kvs,o=>∃ps:List (List Int×Addr×V),o=aS p ps/\ps.map (·.1)=kvs.map (·.1)/\IsDs K π n H (ps.map λp=>V.ref p.2.1) (kvs.map λk=>D.tup (k.1.map D.int))/\IsDs K π n H (ps.map (·.2.2)) (kvs.map (·.2))|.dF kvs,o=>∃(a:Obj)(ps:List (List Int×Addr×V)),o=.frz a (aS p ps)/\ps.map (·.1)=kvs.map (·.1)/\IsDs K π n H (ps.map λp=>V.ref p.2.1) (kvs.map λk=>D.tup (k.1.map D.int))/\IsDs K π n H (ps.map (·.2.2)) (kvs.map (·.2))|_,_=>False
noncomputable def iI(π:Nat->Addr)(n:Nat)(p:Addr):Nat->Addr:=λa=>if a=n then p else π a
theorem Rp.alloc{p:Addr}{c:C}{o:HO}(R:Rp K π H μ)(h:H p=b3)(hc:pS K π μ.length H p c o) :
  Ext π μ.length H (iI π μ.length p) (μ++[c]).length (aK H p o)/\Rp K (iI π μ.length p) (aK H p o) (μ++[c])/\iI π μ.length p μ.length=p:=by
 have E:(μ++[c]).length=μ.length+1:=by simp
 have g:∀b u,H b=b0 u->aK H p o b=b0 u:=λb u e=>by rw[bJ (iD e h)];exact e
 have y:iI π μ.length p μ.length=p:=if_pos rfl;have w:∀a,a<μ.length->iI π μ.length p a=π a:=λa d=>if_neg (WD d);have e:Ext π μ.length H (iI π μ.length p) (μ++[c]).length (aK H p o):=⟨by rw[E];exact Zd _,w,λq r e=>g q _ e,λq o u e=>g q _ e⟩;have split:∀a,a<(μ++[c]).length->a<μ.length\/a=μ.length:=λa d=>by rw[E]at d;lia
 have get:∀a,a<μ.length->(μ++[c])[a]?=μ[a]?:=λa d=>W8 d;have j:(μ++[c])[μ.length]?=b0 c:=by simp
 refine⟨e,⟨λa b d A q=>?_,λa d=>?_,λa I d=>?_,λa v d=>?_,λa G d=>?_
  ,λa v d=>?_
  ,λa v d=>?_
  ⟩,y⟩
 .rcases split a d with d|rfl<;>rcases split b A with A|rfl
  .rw[w a d,w b A]at q;exact R.inj a b d A q
  .rw[w a d,y]at q;exact absurd q (R.ne h d)
  .rw[y,w b A]at q;exact absurd q.symm (R.ne h A)
  .rfl
 .rcases split a d with d|rfl
  .rw[w a d,bJ (R.ne h d)];exact R.has a d
  .rw[y,cP];rfl
 .have i:a<(μ++[c]).length:=(Wa.mp d).1;rcases split a i with l|rfl
  .rw[get a l]at d;obtain⟨r,x,k⟩:=R.lst a I d;rw[w a l];exact⟨r,g _ _ x,k.mono e⟩
  .rw[j]at d;cases d;cases o with
   |lst r=>rw[y];exact⟨r,cP,IsDs.mono e hc⟩|_=>exact Ys hc
 .have i:a<(μ++[c]).length:=(Wa.mp d).1;rcases split a i with l|rfl
  .rw[get a l]at d;obtain⟨r,x,k,s⟩:=R.dK a v d;rw[w a l];exact⟨r,g _ _ x,k,s.mono e⟩
  .rw[j]at d;cases d;cases o with
   |dK r=>rw[y];exact⟨r,cP,hc.1,IsDs.mono e hc.2⟩|_=>exact Ys hc
 .have i:a<(μ++[c]).length:=(Wa.mp d).1;rcases split a i with l|rfl
  .rw[get a l]at d;obtain⟨r,x,k,s⟩:=R.st a G d;rw[w a l];exact⟨r,g _ _ x,k,s.mono e⟩
  .rw[j]at d;cases d;obtain⟨L,rfl,k,s⟩:=hc;rw[y];exact⟨L,cP,k,s.mono e⟩
 .have i:a<(μ++[c]).length:=(Wa.mp d).1;rcases split a i with l|rfl
  .rw[get a l]at d;obtain⟨r,x,k,s,z⟩:=R.dT a v d;rw[w a l];exact⟨r,g _ _ x,k,s.mono e,z.mono e⟩
  .rw[j]at d;cases d;obtain⟨L,rfl,k,s,z⟩:=hc;rw[y];exact⟨L,cP,k,s.mono e,z.mono e⟩
 .have i:a<(μ++[c]).length:=(Wa.mp d).1;rcases split a i with l|rfl
  .rw[get a l]at d;obtain⟨B,r,x,k,s,z⟩:=R.dF a v d;rw[w a l];exact⟨B,r,g _ _ x,k,s.mono e,z.mono e⟩
  .rw[j]at d;cases d;obtain⟨B,L,rfl,k,s,z⟩:=hc;rw[y];exact⟨B,L,cP,k,s.mono e,z.mono e⟩
theorem Rp.putU{a:Nat}{c:C}{o u:HO}(R:Rp K π H μ)(G:a<μ.length)(A:H (π a)=b0 u)(B:(∀vs,u≠.tup vs)/\∀w v,(∀M,v≠HO.ext M)->u≠.frz w v)(hc:pS K π μ.length H (π a) c o) :
  Ext0 π μ.length H π (μ.set a c).length (aK H (π a) o)/\Rp K π (aK H (π a) o) (μ.set a c):=by
 have p:(μ.set a c).length=μ.length:=XW ..;have e:Ext0 π μ.length H π (μ.set a c).length (aK H (π a) o):=by
  refine⟨a0w p.symm,λ_ _=>rfl,λq vs z=>?_,λq N O nx z=>?_⟩
  .rw[bJ]
   .exact z
   .intro e;subst e;rw[A]at z;exact B.1 _ (Wt z)
  .rw[bJ]
   .exact z
   .intro e;subst e;rw[A]at z;exact B.2 _ _ nx (Wt z)
 have i:∀b,b<μ.length->b≠a->aK H (π a) o (π b)=H (π b):=λb d y=>bJ λq=>y (R.inj b a d G q);refine⟨e,⟨λb E d x=>R.inj b E (p▸d) (p▸x),λb d=>?_,λb J d=>?_,λb l d=>?_,λb I d=>?_
  ,λb l d=>?_
  ,λb l d=>?_
  ⟩⟩
 .by_cases h:b=a
  .subst h;rw[cP];rfl
  .rw[i b (p▸d) h];exact R.has b (p▸d)
 .have g:b<μ.length:=p▸(Wa.mp d).1;by_cases h:b=a
  .subst h;rw[Xk g]at d;cases d;cases o with
   |lst vs=>exact⟨vs,cP,IsDs.mono0 e hc⟩|_=>exact Ys hc
  .rw[Wu (Xh h)]at d;obtain⟨vs,r,j⟩:=R.lst b J d;exact⟨vs,by rw[i b g h];exact r,j.mono0 e⟩
 .have g:b<μ.length:=p▸(Wa.mp d).1;by_cases h:b=a
  .subst h;rw[Xk g]at d;cases d;cases o with
   |dK vs=>exact⟨vs,cP,hc.1,IsDs.mono0 e hc.2⟩|_=>exact Ys hc
  .rw[Wu (Xh h)]at d;obtain⟨vs,r,j,k⟩:=R.dK b l d;exact⟨vs,by rw[i b g h];exact r,j,k.mono0 e⟩
 .have g:b<μ.length:=p▸(Wa.mp d).1;by_cases h:b=a
  .subst h;rw[Xk g]at d;cases d;obtain⟨L,rfl,j,k⟩:=hc;exact⟨L,cP,j,k.mono0 e⟩
  .rw[Wu (Xh h)]at d;obtain⟨vs,r,j,k⟩:=R.st b I d;exact⟨vs,by rw[i b g h];exact r,j,k.mono0 e⟩
 .have g:b<μ.length:=p▸(Wa.mp d).1;by_cases h:b=a
  .subst h;rw[Xk g]at d;cases d;obtain⟨L,rfl,j,k,s⟩:=hc;exact⟨L,cP,j,k.mono0 e,s.mono0 e⟩
  .rw[Wu (Xh h)]at d;obtain⟨vs,r,j,k,s⟩:=R.dT b l d;exact⟨vs,by rw[i b g h];exact r,j,k.mono0 e,s.mono0 e⟩
 .have g:b<μ.length:=p▸(Wa.mp d).1;by_cases h:b=a
  .subst h;rw[Xk g]at d;cases d;obtain⟨w,L,rfl,j,k,s⟩:=hc;exact⟨w,L,cP,j,k.mono0 e,s.mono0 e⟩
  .rw[Wu (Xh h)]at d;obtain⟨w,vs,r,j,k,s⟩:=R.dF b l d;exact⟨w,vs,by rw[i b g h];exact r,j,k.mono0 e,s.mono0 e⟩
theorem Rp.put0{a:Nat}{c:C}{o u:HO}(R:Rp K π H μ)(g:a<μ.length)(h:H (π a)=b0 u)(e:(∃vs,u=.lst vs)\/(∃vs,u=.dK vs)\/(∃d,u=.ext d)\/∃b d,u=.frz b (.ext d))(hc:pS K π μ.length H (π a) c o) :
  Ext0 π μ.length H π (μ.set a c).length (aK H (π a) o)/\Rp K π (aK H (π a) o) (μ.set a c):=
 R.putU g h ⟨λvs z=>(by rcases e with⟨w,rfl⟩|⟨w,rfl⟩|⟨w,rfl⟩|⟨b,w,rfl⟩<;>cases z),λb v nx z=>by
  rcases e with⟨w,rfl⟩|⟨w,rfl⟩|⟨w,rfl⟩|⟨b,w,rfl⟩<;>cases z;exact nx _ rfl⟩ hc
theorem Rp.putE{a:Nat}{c:C}{o u:HO}(R:Rp K π H μ)(h:a<μ.length)(d:H (π a)=b0 u)(b:(∀vs,u≠.tup vs)/\∀g v,u≠.frz g v)(hc:pS K π μ.length H (π a) c o) :
  Ext π μ.length H π (μ.set a c).length (aK H (π a) o)/\Rp K π (aK H (π a) o) (μ.set a c):=by
 have e:Ext π μ.length H π (μ.set a c).length (aK H (π a) o):=by
  refine⟨a0w (XW ..).symm,λ_ _=>rfl,λq vs z=>?_,λq i j z=>?_⟩
  .rw[bJ]
   .exact z
   .intro e;subst e;rw[d]at z;exact b.1 _ (Wt z)
  .rw[bJ]
   .exact z
   .intro e;subst e;rw[d]at z;exact b.2 _ _ (Wt z)
 exact⟨e,(R.putU h d ⟨b.1,λg v _=>b.2 g v⟩ hc).2⟩
theorem Rp.put{a:Nat}{c:C}{o u:HO}(R:Rp K π H μ)(d:a<μ.length)(e:H (π a)=b0 u)(b:(∃vs,u=.lst vs)\/(∃vs,u=.dK vs)\/∃g,u=.ext g)(hc:pS K π μ.length H (π a) c o) :
  Ext π μ.length H π (μ.set a c).length (aK H (π a) o)/\Rp K π (aK H (π a) o) (μ.set a c):=
 R.putE d e ⟨λvs z=>(by rcases b with⟨w,rfl⟩|⟨w,rfl⟩|⟨w,rfl⟩<;>cases z),λh v z=>by rcases b with⟨w,rfl⟩|⟨w,rfl⟩|⟨w,rfl⟩<;>cases z⟩ hc
end
noncomputable def KC(K:V8)(Q:VK)(π:Nat->Addr)(n:Nat)(H:Hp)(d:D)(μ':Hm):Prop:=
 ∀a v b,Ext π n H a μ'.length b->Rp K a b μ'->IsD K a μ'.length b v d->Q v b
theorem KC.after{K:V8}{Q:VK}{π a:Nat->Addr}{n g:Nat}{H c:Hp}{d:D}{μ':Hm}(k:KC K Q π n H d μ')(e:Ext π n H a g c):KC K Q a g c d μ':=
 λb v h j R i=>k b v h (e.trans j) R i
inductive tM (K:V8)(m:ME)(σ:St)(H:Hp)(Q:VK):Prop
 |mk (π:Nat->Addr)(ρ:aH)(μ:Hm)(d:D)(μ':Hm)(R:Rp K π H μ)(E:En K π μ.length H σ ρ)(hm:m ρ μ=b0 (d,μ'))(k:KC K Q π μ.length H d μ'):tM K m σ H Q
inductive tMT (K:V8)(m:MT)(σ:St)(H:Hp)(Q:Bool->Hp->Prop):Prop
 |mk (π:Nat->Addr)(ρ:aH)(μ:Hm)(b:Bool)(μ':Hm)(R:Rp K π H μ)(E:En K π μ.length H σ ρ)(hm:m ρ μ=b0 (b,μ'))(k:∀π' H',Ext π μ.length H π' μ'.length H'->Rp K π' H' μ'->Q b H'):tMT K m σ H Q
inductive tMA (K:V8)(m:MA)(σ:St)(H:Hp)(Q:gz->Hp->Prop):Prop
 |mk (π:Nat->Addr)(ρ:aH)(μ:Hm)(ds:List D)(μ':Hm)(R:Rp K π H μ)(E:En K π μ.length H σ ρ)(hm:m ρ μ=b0 (ds,μ'))(k:∀π' vs H',Ext π μ.length H π' μ'.length H'->Rp K π' H' μ'->IsDs K π' μ'.length H' vs ds->Q vs H'):tMA K m σ H Q
noncomputable def mV(K:V8)(E:Ends)(π:Nat->Addr)(n:Nat)(H:Hp)(g:Fl)(e:aH)(μ':Hm):Prop:=
 match g with
 |.nx=>∀a b c,Ext π n H a μ'.length c->Rp K a c μ'->En K a μ'.length c b e->E.nx b c|.bk=>∀a b c,Ext π n H a μ'.length c->Rp K a c μ'->En K a μ'.length c b e->E.bk b c|.ct=>∀a b c,Ext π n H a μ'.length c->Rp K a c μ'->En K a μ'.length c b e->E.ct b c|.rt d=>KC K E.rt π n H d μ'
inductive tMS (K:V8)(m:MS)(E:Ends)(σ:St)(H:Hp):Prop
 |mk (π:Nat->Addr)(ρ:aH)(μ:Hm)(fl:Fl)(ρ':aH)(μ':Hm)(R:Rp K π H μ)(EN:En K π μ.length H σ ρ)(hm:m ρ μ=b0 (fl,ρ',μ'))(k:mV K E π μ.length H fl ρ' μ'):tMS K m E σ H
inductive spI0 (K:V8)(f:MF)(vs:gz)(H:Hp)(Q:VK):Prop
 |mk (π:Nat->Addr)(ds:List D)(μ:Hm)(d:D)(μ':Hm)(R:Rp K π H μ)(i:IsDs K π μ.length H vs ds)(hm:f ds μ=b0 (d,μ'))(k:KC K Q π μ.length H d μ'):spI0 K f vs H Q
noncomputable def i0(K:V8)(k:Nat)(f:MF):Sp:=λvs H Q _=>vs.length=k/\spI0 K f vs H Q
section
variable{X:Cx}{e a b c:Expr}{t:TE}{m ma mb mc:ME}{pos:XX}
theorem dH(h:PE X e t)(hw:∀σ H Q,tM X.K m σ H Q->t σ H Q):PE X e (tM X.K m):=λa6r s σ H Q I q=>h a6r s σ H Q I (hw σ H Q q)
theorem sO{t:TT}{m:MT}(h:PT X e t)(hw:∀σ H Q,tMT X.K m σ H Q->t σ H Q):PT X e (tMT X.K m):=λa6r s σ H Q I q=>h a6r s σ H Q I (hw σ H Q q)
theorem Cb{t:TT}{m:MT}(h:PW X e t)(hw:∀σ H Q,tMT X.K m σ H Q->t σ H Q):PW X e (tMT X.K m):=λd a6r s σ H Q I q=>h d a6r s σ H Q I (hw σ H Q q)
theorem Cd{es:List Expr}{t:TA}{m:MA}(h:PA X es t)(hw:∀σ H Q,tMA X.K m σ H Q->t σ H Q):PA X es (tMA X.K m):=λp a6r s σ H Q I q=>h p a6r s σ H Q I (hw σ H Q q)
theorem i5{st:Stmt}{t:TS}{m:MS}(h:PS X st t)(hw:∀E σ H,tMS X.K m E σ H->t E σ H):PS X st (tMS X.K m):=λa6r s σ H E I q=>h a6r s σ H E I (hw E σ H q)
theorem Ce{st:List Stmt}{t:TS}{m:MS}(h:PSs X st t)(hw:∀E σ H,tMS X.K m E σ H->t E σ H):PSs X st (tMS X.K m):=λa6r s σ H E I q=>h a6r s σ H E I (hw E σ H q)
noncomputable def aA(i:Nat):ME:=λh g=>match h[i]? with|some (b0 d)=>b0 (d,g)|_=>b3
noncomputable def mC(d:D):ME:=λ_ g=>b0 (d,g)
theorem Ka{i:Nat}{j:aH}{g μ':Hm}{d:D}(h:aA i j g=b0 (d,μ')):j[i]?=b0 (b0 d)/\μ'=g:=by
 unfold aA at h;split at h
 .rename_i k e;cases h;exact⟨e,rfl⟩
 .cases h
theorem Kb{x:Str}(i:Nat)(h:PE X (.Name x pos) (vX i)):PE X (.Name x pos) (tM X.K (aA i)):=dH h (by
 rintro s H Q ⟨p,r,q,d,o,R,E,n,k⟩;obtain⟨g,rfl⟩:=Ka n;obtain⟨v,j,l⟩:=E.get i d g;exact⟨v,j,k p v H .refl R l⟩)
theorem n9{v:V}{d:D}(h:PE X e (tC v))(hd:∀π n H,IsD X.K π n H v d):PE X e (tM X.K (mC d)):=dH h (by
 rintro p H Q ⟨π,o,l,j,i,R,E,g,k⟩;cases g;exact k π v H .refl R (hd _ _ _))
theorem Kc{i:Int}{j:Nat}:PE X (.Constant (.int i) j pos) (tM X.K (mC (.int i))):=n9 Hw λ_ _ _=>.int i
theorem Kd{i:Bool}{j:Nat}:PE X (.Constant (.bool i) j pos) (tM X.K (mC (.bl i))):=n9 Hx λ_ _ _=>.bl i
theorem Ke{i:Str}{j:Nat}:PE X (.Constant (.str i) j pos) (tM X.K (mC (.str i))):=n9 Hz λ_ _ _=>.str i
theorem Kf{j:Nat}:PE X (.Constant .none j pos) (tM X.K (mC .non)):=n9 Hy λ_ _ _=>.non
noncomputable def aC(f:D->D->Hm->jk)(a b:ME):ME:=λd g=>(a d g).bind λp=>(b d p.2).bind λq=>f p.1 q.1 q.2
noncomputable def dA(K:V8)(f:D->D->Hm->jk)(r:R2):Prop:=
 ∀i H g x y d h j k Q,Rp K i H g->IsD K i g.length H j x->IsD K i g.length H k y->f x y g=b0 (d,h)->KC K Q i g.length H d h->r j k H Q
theorem pT{f:D->D->Hm->jk}{r:R2}{K:V8}(z:dA K f r):∀σ H Q,tM K (aC f ma mb) σ H Q->pP r (tM K ma) (tM K mb) σ H Q:=by rintro σ H Q ⟨L,q,J,d,j,R,E,g,k⟩;obtain⟨⟨x,h⟩,v,g⟩:=V6.mp g;obtain⟨⟨y,i⟩,w,g⟩:=V6.mp g;exact⟨L,q,J,x,h,R,E,v,λl G M o u A=>⟨l,q,h,y,i,u,E.mono o,w,λn I s p R2 B=>z n s i x y d j G I Q R2 (A.mono p) B g (k.after (o.trans p))⟩⟩
theorem Kg{op:a2U}{r:R2}{f:D->D->Hm->jk}(i:OpR X (ZE op) r)(h:dA X.K f r)(d:PE X a (tM X.K ma))(g:PE X b (tM X.K mb)):PE X (.BinOp a op b pos) (tM X.K (aC f ma mb)):=
 dH (IH i d g) (pT h)
theorem fM{op:ZH}{r:R2}{f:D->D->Hm->jk}(j:OpR X (Xs op) r)(h:dA X.K f r)(d:PE X a (tM X.K ma))(g:PE X b (tM X.K mb))(i:Za op b=b4):PE X (.Compare a [op] [b] pos) (tM X.K (aC f ma mb)):=
 dH (IM j d g i) (pT h)
noncomputable def aQ(m:ME):MT:=λg d=>(m g d).bind λp=>match p.1 with|.bl b=>b0 (b,p.2)|_=>b3
theorem Cf{K:V8}:∀σ H Q,tMT K (aQ m) σ H Q->tM K m σ H λx g=>∃k,x=.bl k/\Q k g:=by
 rintro σ H Q ⟨r,s,o,b,p,R,E,d,k⟩;obtain⟨⟨x,q⟩,l,d⟩:=V6.mp d;cases x with
 |bl c=>cases d;refine⟨r,s,o,_,_,R,E,l,λh v g j i n=>?_⟩;cases n;exact⟨_,rfl,k h g j i⟩|_=>cases d
theorem fN{op:ZH}{r:R2}{f:D->D->Hm->jk}(l:OpR X (Xs op) r)(j:dA X.K f r)(g:PE X a (tM X.K ma))(i:PE X b (tM X.K mb))(k:Za op b=b4):PT X (.Compare a [op] [b] pos) (tMT X.K (aQ (aC f ma mb))):=
 sO (IP l g i k) λd H Q h=>pT j d H _ (Cf d H Q h)
end
section
variable{X:Cx}{e a b c:Expr}{m ma mb mc:ME}{pos:XX}{mt mu:MT}{bZ:List Expr}
noncomputable def fP(a b:MT):MT:=λd g=>(a d g).bind λp=>match p.1 with|true=>b d p.2|false=>b0 (b4,p.2)
noncomputable def gC(a b:MT):MT:=λd g=>(a d g).bind λp=>match p.1 with|true=>b0 (b5,p.2)|false=>b d p.2
noncomputable def eX(a:MT):MT:=λg d=>(a g d).map λp=>(!p.1,p.2)
theorem Kh(d:PT X a (tMT X.K mt)):PW X (.BoolOp .And [a] pos) (tMT X.K mt):=HF d
theorem Ki(d:PT X a (tMT X.K mt)):PW X (.BoolOp .Or [a] pos) (tMT X.K mt):=HG d
theorem Kj(v:PT X a (tMT X.K mt))(w:PW X (.BoolOp .And (b::bZ) pos) (tMT X.K mu)):PW X (.BoolOp .And (a::b::bZ) pos) (tMT X.K (fP mt mu)):=Cb (HH v w) (by
 rintro A H Q ⟨z,p,y,d,l,R,E,i,k⟩;obtain⟨⟨x,g⟩,u,i⟩:=V6.mp i;refine⟨z,p,y,x,g,R,E,u,λh q j o=>?_⟩;cases x with
 |true=>refine lK ?_;exact⟨h,p,g,d,l,o,E.mono j,i,λn r s R2=>k n r (j.trans s) R2⟩|false=>
  refine lJ ?_;cases i;exact k h q j o)
theorem Kk(v:PT X a (tMT X.K mt))(w:PW X (.BoolOp .Or (b::bZ) pos) (tMT X.K mu)):PW X (.BoolOp .Or (a::b::bZ) pos) (tMT X.K (gC mt mu)):=Cb (HI v w) (by
 rintro A H Q ⟨z,p,y,d,l,R,E,i,k⟩;obtain⟨⟨x,g⟩,u,i⟩:=V6.mp i;refine⟨z,p,y,x,g,R,E,u,λh q j o=>?_⟩;cases x with
 |true=>refine lK ?_;cases i;exact k h q j o|false=>
  refine lJ ?_;exact⟨h,p,g,d,l,o,E.mono j,i,λn r s R2=>k n r (j.trans s) R2⟩)
theorem Kl(p:PT X a (tMT X.K mt)):PT X (.UnaryOp .Not a pos) (tMT X.K (eX mt)):=sO (HJ p) (by
 rintro v H Q ⟨s,u,q,d,r,R,E,g,k⟩;obtain⟨⟨x,h⟩,o,g⟩:=Wb.mp g;cases g;exact⟨s,u,q,x,h,R,E,o,λi j n l=>k i j n l⟩)
noncomputable def dZ(a b:ME):ME:=λd g=>(a d g).bind λp=>match p.1 with|.bl b5=>b d p.2|.bl b4=>b0 (.bl b4,p.2)|_=>b3
noncomputable def wX(a b:ME):ME:=λd g=>(a d g).bind λp=>match p.1 with|.bl b5=>b0 (.bl b5,p.2)|.bl b4=>b d p.2|_=>b3
noncomputable def lO(a:ME):ME:=λg d=>(a g d).bind λp=>match p.1 with|.bl b=>b0 (.bl (!b),p.2)|_=>b3
theorem Km{op:BoolOp}(h:PE X a (tM X.K m)):PE X (.BoolOp op [a] pos) (tM X.K m):=HN h
theorem Kn(r:PE X a (tM X.K ma))(s:PE X (.BoolOp .And (b::bZ) pos) (tM X.K mb)):PE X (.BoolOp .And (a::b::bZ) pos) (tM X.K (dZ ma mb)):=dH (HP r s) (by
 rintro z H Q ⟨w,o,v,d,l,R,E,g,k⟩;obtain⟨⟨x,h⟩,q,g⟩:=V6.mp g;cases x with
 |bl c=>
  refine⟨w,o,v,.bl c,h,R,E,q,λi y p j n u=>?_⟩;cases u;refine⟨c,rfl,?_⟩;cases c with
  |true=>refine lK ?_;exact⟨i,o,h,d,l,n,E.mono j,g,k.after j⟩|false=>refine lJ ?_;cases g;exact k i _ p j n (.bl b4)
 |_=>cases g)
theorem Ko(r:PE X a (tM X.K ma))(s:PE X (.BoolOp .Or (b::bZ) pos) (tM X.K mb)):PE X (.BoolOp .Or (a::b::bZ) pos) (tM X.K (wX ma mb)):=dH (HQ r s) (by
 rintro z H Q ⟨w,o,v,d,l,R,E,g,k⟩;obtain⟨⟨x,h⟩,q,g⟩:=V6.mp g;cases x with
 |bl c=>
  refine⟨w,o,v,.bl c,h,R,E,q,λi y p j n u=>?_⟩;cases u;refine⟨c,rfl,?_⟩;cases c with
  |true=>refine lK ?_;cases g;exact k i _ p j n (.bl b5)|false=>refine lJ ?_;exact⟨i,o,h,d,l,n,E.mono j,g,k.after j⟩
 |_=>cases g)
theorem Kq(o:PE X a (tM X.K ma)):PE X (.UnaryOp .Not a pos) (tM X.K (lO ma)):=dH (HR o) (by
 rintro y H Q ⟨u,v,q,d,r,R,E,g,k⟩;obtain⟨⟨x,s⟩,n,g⟩:=V6.mp g;cases x with
 |bl c=>cases g;refine⟨u,v,q,_,_,R,E,n,λh w i l j p=>?_⟩;cases p;exact⟨_,rfl,k h _ i l j (.bl _)⟩
 |_=>cases g)
noncomputable def gZ(t:MT)(a b:ME):ME:=λd g=>(t d g).bind λp=>match p.1 with|true=>a d p.2|false=>b d p.2
theorem Kr(hc:PT X c (tMT X.K mt))(q:PE X a (tM X.K ma))(r:PE X b (tM X.K mb)):PE X (.IfExp c a b pos) (tM X.K (gZ mt ma mb)):=dH (HU hc q r) (by
 rintro w H Q ⟨u,n,s,d,h,R,E,l,k⟩;obtain⟨⟨x,g⟩,p,l⟩:=V6.mp l;refine⟨u,n,s,x,g,R,E,p,λi v j o=>?_⟩;cases x with
 |true=>refine lK ?_;exact⟨i,n,g,d,h,o,E.mono j,l,k.after j⟩|false=>
  refine lJ ?_;exact⟨i,n,g,d,h,o,E.mono j,l,k.after j⟩)
noncomputable def aD:MA:=λ_ d=>b0 ([],d)
noncomputable def aB(a:ME)(r:MA):MA:=λd g=>(a d g).bind λp=>(r d p.2).bind λq=>b0 (p.1::q.1,q.2)
variable{es:List Expr}{ms:MA}
theorem Ks:PA X [] (tMA X.K aD):=Cd Ja (by
 rintro n H Q ⟨i,l,j,d,h,R,E,g,k⟩;cases g;exact k i [] H .refl R .nil)
theorem Kt(v:PE X e (tM X.K m))(w:PA X es (tMA X.K ms))(y:WU (e::es) X.env=(b4,eval e X.env)::WU es X.env:=by rfl):PA X (e::es) (tMA X.K (aB m ms)):=Cd (Jb v w y) (by
 rintro N H Q ⟨J,p,G,d,I,R,E,g,k⟩;obtain⟨⟨x,h⟩,s,g⟩:=V6.mp g;obtain⟨⟨B,i⟩,u,g⟩:=V6.mp g;cases g;exact⟨J,p,G,x,h,R,E,s,λj L K n r z=>⟨j,p,h,B,i,r,E.mono n,u,λl M q o R2 A=>k l _ q (n.trans o) R2 (.cons (z.mono o) A)⟩⟩)
noncomputable def aX(ms:MA):ME:=λg d=>(ms g d).bind λp=>if p.1.length<=Wq then b0 (.tup p.1,p.2)else b3
noncomputable def b6(ms:MA):ME:=λg d=>(ms g d).bind λp=>if p.1.length<=Wq then b0 (.loc p.2.length,p.2++[.lst p.1])else b3
theorem Ku{v:Nat}(h:PA X es (tMA X.K ms)):PE X (.Tuple es v pos) (tM X.K (aX ms)):=dH (Je h) (by
 rintro I H Q ⟨z,A,w,d,x,R,E,g,k⟩;obtain⟨⟨G,y⟩,q,g⟩:=V6.mp g;split at g
 .rename_i r;cases g;refine⟨z,A,w,_,_,R,E,q,λi u B o n l=>⟨by rw[l.length];exact r,λp s=>?_⟩⟩;obtain⟨j,R2⟩:=n.fresh (o:=.tup u) s;exact k i _ _ (o.trans j) R2 (.tup (.of cP) (l.mono j))
 .cases g)
theorem Kv(h:PA X es (tMA X.K ms)):PE X (.List es pos) (tM X.K (b6 ms)):=dH (Jf h) (by
 rintro J H Q ⟨G,I,A,d,B,R,E,i,k⟩;obtain⟨⟨l,g⟩,w,i⟩:=V6.mp i;split at i
 .rename_i x;cases i;refine⟨G,I,A,l,g,R,E,w,λj n o u s r=>⟨by rw[r.length];exact x,λp y=>?_⟩⟩;obtain⟨v,R2,q⟩:=s.alloc (c:=.lst l) (o:=.lst n) y r;have z:IsD X.K (iI j g.length p) (g++[C.lst l]).length (aK o p (.lst n)) (.ref p) (.loc g.length):=by have:=IsD.loc (K:=X.K) (π:=iI j g.length p) (n:=(g++[C.lst l]).length) (H:=aK o p (.lst n)) (a:=g.length) (by simp);rw[q]at this;exact this
  exact k _ _ _ (u.trans v) R2 z
 .cases i)
noncomputable def aF(f:MF)(ms:MA):ME:=λg d=>(ms g d).bind λp=>f p.1 p.2
theorem Kw{K:V8}{f:MF}{n:Nat}{E:XK}(v:∀i h ds μ',ms i h=b0 (ds,μ')->ds.length=n):∀σ H Q,tM K (aF f ms) σ H Q->wJ (i0 K n f) [] E (tMA K ms) σ H Q:=by rintro σ H Q ⟨x,i,h,d,μ',R,E,j,k⟩;obtain⟨⟨l,g⟩,p,j⟩:=V6.mp j;refine⟨x,i,h,l,g,R,E,p,λo w r u s q=>?_⟩;show i0 K n f (w++[]) r Q _;rw[XG];exact⟨by rw[q.length];exact v i h l g p,o,l,g,d,μ',s,q,j,k.after u⟩
theorem Ky:∀g d ds μ',aD g d=b0 (ds,μ')->ds.length=0:=by intro g d ds μ' h;cases h;rfl
theorem Kz{n:Nat}(h:∀g i ds μ',ms g i=b0 (ds,μ')->ds.length=n):∀g i ds μ',aB m ms g i=b0 (ds,μ')->ds.length=n+1:=by intro g i ds μ' d;obtain⟨⟨x,j⟩,p,d⟩:=V6.mp d;obtain⟨⟨l,o⟩,k,d⟩:=V6.mp d;cases d;rw[WO,h g j l _ k]
theorem KA{k:Nat}{f:Addr}{i:YI}{ps:List Str}{j:MF}{x:Str}{p:XX}{n:Nat}(F:FnOk X.prog X.w X.K X.mg X.base fW k f i ps (i0 X.K n j))(w:Room k X.A)(r:Gl X x)(u:X.mg x=b0 (.ref f))
  (s:X8 X.K (.ref f)=b5)(o:Binds X.K i ps [])(l:PA X (e::es) (tMA X.K ms))(v:∀z y ds h,ms z y=b0 (ds,h)->ds.length=n)(d:(x==("__debug__":Str))=false:=by decide)
  (q:WU (e::es) X.env=(b4,eval e X.env)::WU es X.env:=by rfl)(g:(YG pos (WU es X.env)).any (·.1)=false:=by rfl) :
  PE X (.Call (.Name x p) (e::es) [] pos) (tM X.K (aF j ms)):=
 dH (Jg F w r u s o .nil (E:=E0) B4 l d q g) (Kw v)
noncomputable def dP(K:V8)(f:MF)(r:gz->Hp->VK->Prop):Prop:=
 ∀i H h k d g j Q,Rp K i H h->IsDs K i h.length H j k->f k h=b0 (d,g)->KC K Q i h.length H d g->r j H Q
theorem wY{K:V8}{f:MF}{r:gz->Hp->VK->Prop}(s:dP K f r):∀σ H Q,tM K (aF f ms) σ H Q->sI r (tMA K ms) σ H Q:=by rintro σ H Q ⟨x,y,w,d,i,R,E,h,k⟩;obtain⟨⟨l,g⟩,q,h⟩:=V6.mp h;exact⟨x,y,w,l,g,R,E,q,λj v n p o u=>s j n g l d i v Q o u h (k.after p)⟩
theorem KG{f:MF}{r:gz->Hp->VK->Prop}{id:String}{x:Str}{p:XX}(hc:CallR X (.builtin id) r)(j:dP X.K f r)(k:Gl X x)(l:X.mg x=b3)(o:X0 x=b0 (.builtin id))(h:PA X (e::es) (tMA X.K ms))
  (n:x ≠ "__name__":=by decide) (d:(x==("__debug__":Str))=false:=by decide)
  (i:WU (e::es) X.env=(b4,eval e X.env)::WU es X.env:=by rfl)(g:(YG pos (WU es X.env)).any (·.1)=false:=by rfl):PE X (.Call (.Name x p) (e::es) [] pos) (tM X.K (aF f ms)):=
 dH (Jk hc k l o h n d i g) (wY j)
theorem KH{f:MF}{r:gz->Hp->VK->Prop}{T:String}{x:Str}{p:XX}(hc:CallR X (.type T) r)(j:dP X.K f r)(k:Gl X x)(l:X.mg x=b3)(o:X0 x=b0 (.type T))(h:PA X (e::es) (tMA X.K ms))
  (n:x ≠ "__name__":=by decide) (d:(x==("__debug__":Str))=false:=by decide)
  (i:WU (e::es) X.env=(b4,eval e X.env)::WU es X.env:=by rfl)(g:(YG pos (WU es X.env)).any (·.1)=false:=by rfl):PE X (.Call (.Name x p) (e::es) [] pos) (tM X.K (aF f ms)):=
 dH (Jl hc k l o h n d i g) (wY j)
noncomputable def bM(d:Hm):D->Option (List D)
 |.tup xs=>b0 xs|.rol xs=>b0 xs|.loc a=>match d[a]? with|some (.lst xs)=>b0 xs|_=>b3
 |_=>b3
noncomputable def hG:D->D->Hm->jk
 |.str z,.int i,μ=>if z.length<=Wq then(atI z.cps.toList i).map λc=>(.str ⟨#[c]⟩,μ)else b3|x,.int i,μ=>(bM μ x).bind λg=>(atI g i).map λd=>(d,μ)|_,_,_=>b3
theorem KI{K:V8}:dA K hG (BR K):=by
 intro p H N x y d G L M Q R r B g k;cases B with
 |int i=>
  cases r with
  |str z=>
   simp only[hG]at g;split at g
   .rename_i w;obtain⟨c,j,l⟩:=Wb.mp g;cases l;exact .inr (.inr ⟨z,i,c,rfl,rfl,w,j,k p _ H .refl R (.str _)⟩)
   .cases g
  |tup h t=>simp only[hG,bM,WH]at g;obtain⟨q,j,l⟩:=Wb.mp g;cases l;obtain⟨v,n,o⟩:=t.atI j;exact .inr (.inl ⟨_,_,i,v,rfl,rfl,h,n,k p _ H .refl R o⟩)|rol h t=>simp only[hG,bM,WH]at g;obtain⟨q,j,l⟩:=Wb.mp g;cases l;obtain⟨v,n,o⟩:=t.atI j;exact .inl ⟨_,_,i,v,rfl,rfl,h.sq,n,k p _ H .refl R o⟩|@loc a I=>
   simp only[hG,bM]at g;split at g
   .rename_i E A;simp only[WH]at g;obtain⟨q,j,l⟩:=Wb.mp g;cases l;obtain⟨J,s,u⟩:=R.lst a E A;obtain⟨v,n,o⟩:=u.atI j;exact .inl ⟨_,_,i,v,rfl,rfl,.of s,n,k p _ H .refl R o⟩
   .cases g
  |_=>simp[hG,bM]at g
 |_=>cases r<;>simp[hG]at g
theorem KJ(d:PE X a (tM X.K ma))(g:PE X b (tM X.K mb))(h:wO b):PE X (.Subscript a b pos) (tM X.K (aC hG ma mb)):=dH (JE JG d g h) (pT KI)
noncomputable def jR(xs:List D)(lo d:Option Int):List D:=(xs.drop (HT.sIx xs.length 0 lo)).take (HT.sIx xs.length xs.length d-HT.sIx xs.length 0 lo)
noncomputable abbrev MO:=aH->Hm->Option (Option Int×Hm)
noncomputable def kM:MO:=λ_ d=>b0 (b3,d)
noncomputable def jS(m:ME):MO:=λg d=>(m g d).bind λp=>match p.1 with|.int i=>b0 (b0 i,p.2)|_=>b3
inductive tMO (K:V8)(m:MO)(σ:St)(H:Hp)(Q:Option Int->Hp->Prop):Prop
 |mk (π:Nat->Addr)(ρ:aH)(μ:Hm)(o:Option Int)(μ':Hm)(R:Rp K π H μ)(E:En K π μ.length H σ ρ)(hm:m ρ μ=b0 (o,μ'))(k:∀π' H',Ext π μ.length H π' μ'.length H'->Rp K π' H' μ'->Q o H'):tMO K m σ H Q
theorem KL:PO X b3 (tMO X.K kM):=λa6r s σ H Q I q=>Jy a6r s σ H Q I (by
 obtain⟨h,j,i,o,g,R,E,d,k⟩:=q;cases d;exact k h H .refl R)
theorem KN(h:PE X e (tM X.K m)):PO X (b0 e) (tMO X.K (jS m)):=λa6r s σ H Q I q=>Jz h a6r s σ H Q I (by
 obtain⟨y,z,u,o,v,R,E,d,k⟩:=q;obtain⟨⟨x,w⟩,p,d⟩:=V6.mp d;cases x with
 |int i=>cases d;refine⟨y,z,u,_,_,R,E,p,λg A j n l r=>?_⟩;cases r;exact⟨_,rfl,k g j n l⟩
 |_=>cases d)
noncomputable abbrev Cg(K:V8):V->Option Int->Option Int->Hp->VK->Prop:=wR K
theorem KO{X:Cx}:wM X (Cg X.K):=JL
theorem Ci{K:V8}{x:V}{lo d:Option Int}{H:Hp}{Q:VK}(h:wR K x lo d H Q):Cg K x lo d H Q:=h
noncomputable def mW(a:ME)(lo g:MO):ME:=λd i=>(a d i).bind λp=>(lo d p.2).bind λq=>(g d q.2).bind λr=>
 match p.1 with
 |.tup _=>b3|x=>(bM r.2 x).bind λh=>b0 (.loc r.2.length,r.2++[.lst (jR h q.1 r.1)])
theorem Cj{K:V8}{π:Nat->Addr}{n:Nat}{H:Hp}{vs:gz}{ds:List D}(h:IsDs K π n H vs ds)(lo d:Option Int):IsDs K π n H (lI vs lo d) (jR ds lo d):=by unfold lI jR;rw[h.length];exact(h.drop _).take _
theorem jT{K:V8}{π:Nat->Addr}{d:Hm}{p:Addr}{c:C}{H:Hp}:IsD K (iI π d.length p) (d++[c]).length H (.ref p) (.loc d.length):=by have:=IsD.loc (K:=K) (π:=iI π d.length p) (n:=(d++[c]).length) (H:=H) (a:=d.length) (by simp);rw[show iI π d.length p d.length=p from if_pos rfl]at this;exact this
theorem KP{lo J:Option Expr}{L K:MO}{p2:XX}(ha:PE X a (tM X.K ma))(hl:PO X lo (tMO X.K L))(hu:PO X J (tMO X.K K)):PE X (.Subscript a (.Slice lo J b3 p2) pos) (tM X.K (mW ma L K)):=dH (JB KO ha hl hu) (by
 rintro σ H Q ⟨π,I,μ,d,μ',R,E,g,k⟩;obtain⟨⟨x,j⟩,O,g⟩:=V6.mp g;obtain⟨⟨l,n⟩,T,g⟩:=V6.mp g;obtain⟨⟨u,A⟩,U,g⟩:=V6.mp g;refine⟨π,I,μ,x,j,R,E,O,λB v1 H1 o N i1=>⟨B,I,j,l,n,N,E.mono o,T,λG H2 r R2=>⟨G,I,n,u,A,R2,(E.mono o).mono r,U,λπ3 H3 w s=>?_⟩⟩⟩;have i3:=(i1.mono r).mono w;cases i3 with
 |rol h t=>simp only[bM,WH]at g;cases g;refine Ci ⟨_,_,rfl,h.sq,λp z=>?_⟩;obtain⟨y,v,q⟩:=s.alloc (c:=.lst (jR _ l u)) (o:=.lst (lI _ l u)) z (Cj t l u);exact k _ _ _ (((o.trans r).trans w).trans y) v jT|@loc i hi'=>
  simp only[bM]at g;split at g
  .rename_i M hx;simp only[WH]at g;cases g;obtain⟨vs,Y,Z⟩:=s.lst i M hx;refine Ci ⟨_,_,rfl,.of Y,λp z=>?_⟩;obtain⟨y,v,q⟩:=s.alloc (c:=.lst (jR M l u)) (o:=.lst (lI vs l u)) z (Cj Z l u);exact k _ _ _ (((o.trans r).trans w).trans y) v jT
  .cases g
 |tup h t=>simp at g
 |_=>simp[bM]at g)
end
section
variable{X:Cx}{e a b c:Expr}{m:ME}{pos:XX}{mt:MT}{st:Stmt}{bZ body orelse:List Stmt}{ms mr mu:MS}
noncomputable def bF:MS:=λg d=>b0 (.nx,g,d)
noncomputable def aG(a b:MS):MS:=λg d=>(a g d).bind λp=>match p.1 with|.nx=>b p.2.1 p.2.2|_=>b0 p
noncomputable def aO(m:ME):MS:=λd g=>(m d g).map λp=>(.rt p.1,d,p.2)
noncomputable def cK(m:ME):MS:=λd g=>(m d g).map λp=>(.nx,d,p.2)
noncomputable def bB(t:MT)(a b:MS):MS:=λd g=>(t d g).bind λp=>match p.1 with|true=>a d p.2|false=>b d p.2
noncomputable def aL(i:Nat)(m:ME):MS:=λd g=>(m d g).map λp=>(.nx,d.set i (b0 p.1),p.2)
theorem KQ:PSs X [] (tMS X.K bF):=Ce HX (by
 rintro E l H ⟨i,p,o,n,j,h,R,d,g,k⟩;cases g;exact k i l H .refl R d)
theorem KR(h1:PS X st (tMS X.K ms))(A:PSs X bZ (tMS X.K mr)):PSs X (st::bZ) (tMS X.K (aG ms mr)):=Ce (HY h1 A) (by
 rintro E L H ⟨G,I,B,w,u,r,R,y,i,k⟩;obtain⟨⟨v,p,o⟩,h1,i⟩:=V6.mp i;refine⟨G,I,B,v,p,o,R,y,h1,?_⟩;cases v with
 |nx=>
  intro s J K q z x;refine⟨s,p,o,w,u,r,z,x,i,?_⟩;cases w with
  |nx=>exact λg h l n R2 j=>k g h l (q.trans n) R2 j|bk=>exact λg h l n R2 j=>k g h l (q.trans n) R2 j|ct=>exact λg h l n R2 j=>k g h l (q.trans n) R2 j|rt d=>exact KC.after k q
 |rt d=>cases i;exact k|bk=>cases i;exact k
 |ct=>cases i;exact k)
theorem KS(h1:PS X st (tMS X.K ms)):PSs X [st] (tMS X.K ms):=HZ h1
theorem KU:PS X (.Pass pos) (tMS X.K bF):=i5 Ia (by
 rintro E l H ⟨i,p,o,n,j,h,R,d,g,k⟩;cases g;exact k i l H .refl R d)
theorem KW(j:PE X e (tM X.K m)):PS X (.Return (b0 e) pos) (tMS X.K (aO m)):=i5 (Ig j) (by
 rintro E s H ⟨o,p,l,r,q,n,R,h,d,k⟩;obtain⟨⟨x,g⟩,i,d⟩:=Wb.mp d;cases d;exact⟨o,p,l,x,g,R,h,i,k⟩)
theorem KY(p:PE X e (tM X.K m))(q:ZY e b3 pos.line X.env=pure false:=by rfl):PS X (.Expr e pos) (tMS X.K (cK m)):=i5 (Ic p q) (by
 rintro E y H ⟨u,v,r,z,w,s,R,i,d,k⟩;obtain⟨⟨x,g⟩,o,d⟩:=Wb.mp d;cases d;exact⟨u,v,r,x,g,R,i,o,λh B l j n A=>k h y l j n (i.mono j)⟩)
theorem KZ(hc:PT X c (tMT X.K mt))(G:PSs X body (tMS X.K ms))(I:PSs X orelse (tMS X.K mu)):PS X (.If c body orelse pos) (tMS X.K (bB mt ms mu)):=i5 (Ik hc G I) (by
 rintro E L H ⟨K,w,J,s,n,j,R,v,u,k⟩;obtain⟨⟨x,i⟩,B,u⟩:=V6.mp u;refine⟨K,w,J,x,i,R,v,B,λl A o y=>?_⟩;have z:mV X.K E l i.length A s n j:=by
  cases s with
  |nx=>exact λg h q r R2 p=>k g h q (o.trans r) R2 p|bk=>exact λg h q r R2 p=>k g h q (o.trans r) R2 p|ct=>exact λg h q r R2 p=>k g h q (o.trans r) R2 p|rt d=>exact KC.after k o
 cases x with
 |true=>refine lK ?_;exact⟨l,w,i,s,n,j,y,v.mono o,u,z⟩|false=>
  refine lJ ?_;exact⟨l,w,i,s,n,j,y,v.mono o,u,z⟩)
theorem Ck{i:Nat}{x:Str}{d:XX}(r:X.N.Nodup)(v:X.N[i]?=b0 x)(y:Loc X.env.scope x)(s:PE X e (tM X.K m))(w:ZY e (b0 (.Name x d)) pos.line X.env=pure false:=by rfl)
  (u:X.fn x=b5\/X.env.scope.names.lookup x=b0 .local:=by first|exact .inl rfl|exact .inr rfl|assumption):PS X (.Assign [.Name x d] e pos) (tMS X.K (aL i m)):=i5 (Iq r v y s w u) (by
 rintro E M H ⟨G,I,A,K,J,B,R,l,g,k⟩;obtain⟨⟨x,h⟩,q,g⟩:=Wb.mp g;cases g;exact⟨G,I,A,x,h,R,l,q,λj L o n p z=>k j _ o n p ((l.mono n).set z i)⟩)
end
noncomputable def sP(n:Nat)(ds:List D):aH:=ds.map b0++Ym (n-ds.length) b3
noncomputable def wZ(n:Nat)(m:MS):MF:=λds a=>(m (sP n ds) a).bind λp=>match p.1 with|.rt d=>b0 (d,p.2.2)|.nx=>b0 (.non,p.2.2)|_=>b3
theorem K0{K:V8}{π:Nat->Addr}{n:Nat}{H:Hp}{N:List Str}{vs:gz}{ds:List D}(h:IsDs K π n H vs ds)(o:vs.length<=N.length):En K π n H (L2.start N vs) (sP N.length ds):=by
 have a:=h.length;refine⟨by simp[L2.start,sP,a],λi d e=>?_⟩;unfold sP at e;unfold L2.start;by_cases b:i<ds.length
 .rw[W8 (by simpa using b),Ws]at e;obtain⟨l,c,g⟩:=Wb.mp e;cases g;obtain⟨v,j,k⟩:=h.get c;exact⟨v,by rw[W8 (by rw[V7,a];exact b),Ws,j];rfl,k⟩
 .rw[Ye (by simpa using a0a.mp b)]at e;have:=YR (n:=N.length-ds.length) (a:=(b3:Option D)) (i:=i-(ds.map b0).length);rw[this]at e;split at e<;>simp at e
section
variable{P:WL}{w:WX}{K:V8}{mg:Str->Option Value}{base:Xo}
theorem K1{x a:Str}{st:Stmt}{f:Addr}{o:YI}{N ps:List Str}{k:Nat}{m:MS}(F:Fun K x a st f o)(S:FnScope N ps (cJ st))(g:ps.length<=N.length)
  (c:∀(b:Value)(A:WY)(outer:List a1a)(s:Wf)(H:Hp)(E:XK),Room k (A.deeper (a1T a (cJ st) s.heap.objs.size f b))->
   PSs (kL fW P w K mg base N a (cJ st) f b A outer s H E).nox (fL st) (tMS K m)):FnOk P w K mg base fW (k+1) f o ps (i0 K ps.length (wZ N.length m)):=by
 refine F.ok S (λG H Q E h=>h.1) λb A outer s H G Q E z h=>⟨_,c b A outer s H E z,?_⟩;obtain⟨B,L,ds,I,d,J,R,i,e,q⟩:=h;obtain⟨⟨p,n,j⟩,y,e⟩:=V6.mp e;refine⟨L,_,I,p,n,j,R,K0 i (by rw[B];exact g),y,?_⟩;cases p with
 |rt T=>cases e;exact q|nx=>cases e;exact λl M r v u O=>q l .non r v u .non|bk=>cases e|ct=>cases e
end
open SeqAt (EqAt RcAt RcNeAt)
inductive KD where
 |non|bl (b:Bool)|int (i:Int)|str (x:Str)|tup (n:Nat)|lst (n:Nat)
inductive IsK (s:Wf):Value->KD->Prop where
 |non:IsK s .none .non
 |bl (b:Bool):IsK s (.bool b) (.bl b)
 |int (i:Int)(t:a3a):IsK s (.int i t) (.int i)
 |str (x:Str)(t:a3a):IsK s (.str x t) (.str x)
 |tup {l:Addr}{its:gw}(h:s.heap.IsTuple l its.toArray):IsK s (.ref l) (.tup its.length)
 |lst {l:Addr}{its:gw}(h:s.heap.IsList l its.toArray):IsK s (.ref l) (.lst its.length)
noncomputable def sQ(e:Nat->Bool):KD->KD->Bool
 |.non,.non=>b5|.bl a,.bl b=>a==b|.bl a,.int b=>(if a then 1 else 0)==b|.int a,.bl b=>a==(if b then 1 else 0)|.int a,.int b=>a==b|.str a,.str b=>a==b|.tup n,.tup k=>(WR (min n k)).all e&&n==k|.lst n,.lst k=>(WR (min n k)).all e&&n==k|_,_=>b4
noncomputable def sR(A:WY)(s:Wf)(u v:Value)(e:Nat->Bool):Prop:=
 (∀l b c a,u=.ref l->v=.ref b->s.heap.IsTuple l c->s.heap.IsTuple b a->∀j (h1:j<c.size)(d:j<a.size),EqAt A.in1 s c[j] a[j] (e j)) /\
 (∀l b c a,u=.ref l->v=.ref b->s.heap.IsList l c->s.heap.IsList b a->∀j (h1:j<c.size)(d:j<a.size),EqAt A.in1 s c[j] a[j] (e j))
section
variable{A:WY}{s:Wf}{u v:Value}{k k':KD}{e:Nat->Bool}
theorem Cm{n k:Nat}(e:Nat->Bool)(h:n=k):((WR (min n k)).all e&&n==k)=(WR n).all e:=by subst h;simp
theorem Co{n k:Nat}(e:Nat->Bool)(h:n≠k):((WR (min n k)).all e&&n==k)=false:=by simp[h]
theorem w4(h:IsK s u k)(h':IsK s v k')(c:A.units<XM)(p:sR A s u v e):RcAt A s u v (sQ e k k'):=by
 cases h with
 |non=>
  cases h' with
  |non=>exact RcAt.none_none|bl b=>exact RcAt.none_bool b|int i t=>exact RcAt.none_int i t|str x t=>exact RcAt.none_str x t|tup h=>exact RcAt.none_tuple h c|lst h=>exact RcAt.none_list h c
 |bl a=>
  cases h' with
  |non=>exact RcAt.bool_none a|bl b=>exact RcAt.bool_bool a b|int i t=>exact RcAt.bool_int a i t|str x t=>exact RcAt.bool_str a x t|tup h=>exact RcAt.bool_tuple a h c|lst h=>exact RcAt.bool_list a h c
 |int a j=>
  cases h' with
  |non=>exact RcAt.int_none a j|bl b=>exact RcAt.int_bool a j b|int i t=>exact RcAt.int_int a j i t|str x t=>exact RcAt.int_str a j x t|tup h=>exact RcAt.int_tuple a j h c|lst h=>exact RcAt.int_list a j h c
 |str a j=>
  cases h' with
  |non=>exact RcAt.str_none a j|bl b=>exact RcAt.str_bool a j b|int i t=>exact RcAt.str_int a j i t|str x t=>exact RcAt.str_str a j x t|tup h=>exact RcAt.str_tuple a j h c|lst h=>exact RcAt.str_list a j h c
 |tup g=>
  cases h' with
  |non=>exact RcAt.tuple_none g c|bl b=>exact RcAt.tuple_bool b g c|int i t=>exact RcAt.tuple_int i t g c|str x t=>exact RcAt.tuple_str x t g c|tup h=>have:=RcAt.tuples (e:=e) g h c (p.1 _ _ _ _ rfl rfl g h);exact this|lst h=>exact RcAt.tuple_list g h c
 |lst g=>
  cases h' with
  |non=>exact RcAt.list_none g c|bl b=>exact RcAt.list_bool b g c|int i t=>exact RcAt.list_int i t g c|str x t=>exact RcAt.list_str x t g c|tup h=>exact RcAt.list_tuple g h c|@lst b d h=>
   rename_i l n;by_cases o:n.length=d.length
   .have:=RcAt.lists (e:=e) g h (by simpa using o) c (p.2 _ _ _ _ rfl rfl g h);show RcAt A s _ _ ((WR (min n.length d.length)).all e&&n.length==d.length);rw[Cm e o];simpa using this
   .have:=RcAt.lists_lengths g h (by simpa using o) c;show RcAt A s _ _ ((WR (min n.length d.length)).all e&&n.length==d.length);rw[Co e o];exact this
theorem K2(h:IsK s u k)(h':IsK s v k')(c:A.units<XM)(p:sR A s u v e):RcNeAt A s u v (!sQ e k k'):=by
 cases h with
 |non=>
  cases h' with
  |non=>exact RcNeAt.none_none|bl b=>exact RcNeAt.none_bool b|int i t=>exact RcNeAt.none_int i t|str x t=>exact RcNeAt.none_str x t|tup h=>exact RcNeAt.none_tuple h c|lst h=>exact RcNeAt.none_list h c
 |bl a=>
  cases h' with
  |non=>exact RcNeAt.bool_none a|bl b=>exact RcNeAt.bool_bool a b|int i t=>exact RcNeAt.bool_int a i t|str x t=>exact RcNeAt.bool_str a x t|tup h=>exact RcNeAt.bool_tuple a h c|lst h=>exact RcNeAt.bool_list a h c
 |int a j=>
  cases h' with
  |non=>exact RcNeAt.int_none a j|bl b=>exact RcNeAt.int_bool a j b|int i t=>exact RcNeAt.int_int a j i t|str x t=>exact RcNeAt.int_str a j x t|tup h=>exact RcNeAt.int_tuple a j h c|lst h=>exact RcNeAt.int_list a j h c
 |str a j=>
  cases h' with
  |non=>exact RcNeAt.str_none a j|bl b=>exact RcNeAt.str_bool a j b|int i t=>exact RcNeAt.str_int a j i t|str x t=>exact RcNeAt.str_str a j x t|tup h=>exact RcNeAt.str_tuple a j h c|lst h=>exact RcNeAt.str_list a j h c
 |tup g=>
  cases h' with
  |non=>exact RcNeAt.tuple_none g c|bl b=>exact RcNeAt.tuple_bool b g c|int i t=>exact RcNeAt.tuple_int i t g c|str x t=>exact RcNeAt.tuple_str x t g c|tup h=>have:=RcNeAt.tuples (e:=e) g h c (p.1 _ _ _ _ rfl rfl g h);exact this|lst h=>exact RcNeAt.tuple_list g h c
 |lst g=>
  cases h' with
  |non=>exact RcNeAt.list_none g c|bl b=>exact RcNeAt.list_bool b g c|int i t=>exact RcNeAt.list_int i t g c|str x t=>exact RcNeAt.list_str x t g c|tup h=>exact RcNeAt.list_tuple g h c|@lst b d h=>
   rename_i l n;by_cases o:n.length=d.length
   .have:=RcNeAt.lists (e:=e) g h (by simpa using o) c (p.2 _ _ _ _ rfl rfl g h);show RcNeAt A s _ _ (!((WR (min n.length d.length)).all e&&n.length==d.length));rw[Cm e o];simpa using this
   .have:=RcNeAt.lists_lengths g h (by simpa using o) c;show RcNeAt A s _ _ (!((WR (min n.length d.length)).all e&&n.length==d.length));rw[Co e o];exact this
theorem K3(h:IsK s u k)(h':IsK s v k')(c:A.units<XM)(p:sR A s u v e)(o:∀l b,u=.ref l->v=.ref b->l≠b):EqAt A s u v (sQ e k k'):=by
 cases h with
 |non=>
  cases h' with
  |non=>exact EqAt.same _|bl b=>exact EqAt.none_bool b|int i t=>exact EqAt.none_int i t|str x t=>exact EqAt.none_str x t|tup h=>exact EqAt.none_tuple h c|lst h=>exact EqAt.none_list h c
 |bl a=>
  cases h' with
  |non=>exact EqAt.bool_none a|bl b=>exact EqAt.bool_bool a b|int i t=>exact EqAt.bool_int a i t|str x t=>exact EqAt.bool_str a x t|tup h=>exact EqAt.bool_tuple a h c|lst h=>exact EqAt.bool_list a h c
 |int a d=>
  cases h' with
  |non=>exact EqAt.int_none a d|bl b=>exact EqAt.int_bool a d b|int i t=>exact EqAt.int_int a d i t|str x t=>exact EqAt.int_str a d x t|tup h=>exact EqAt.int_tuple a d h c|lst h=>exact EqAt.int_list a d h c
 |str a d=>
  cases h' with
  |non=>exact EqAt.str_none a d|bl b=>exact EqAt.str_bool a d b|int i t=>exact EqAt.str_int a d i t|str x t=>exact EqAt.str_str a d x t|tup h=>exact EqAt.str_tuple a d h c|lst h=>exact EqAt.str_list a d h c
 |@tup l n g=>
  cases h' with
  |non=>exact EqAt.tuple_none g c|bl b=>exact EqAt.tuple_bool b g c|int i t=>exact EqAt.tuple_int i t g c|str x t=>exact EqAt.tuple_str x t g c|@tup b j h=>exact EqAt.of_refs (o l b rfl rfl) (w4 (k:=.tup n.length) (k':=.tup j.length) (.tup g) (.tup h) c p)|lst h=>exact EqAt.tuple_list g h c
 |@lst l n g=>
  cases h' with
  |non=>exact EqAt.list_none g c|bl b=>exact EqAt.list_bool b g c|int i t=>exact EqAt.list_int i t g c|str x t=>exact EqAt.list_str x t g c|tup h=>exact EqAt.list_tuple g h c|@lst b j h=>exact EqAt.of_refs (o l b rfl rfl) (w4 (k:=.lst n.length) (k':=.lst j.length) (.lst g) (.lst h) c p)
end
inductive KdD where
 |non|bl (b:Bool)|int (i:Int)|str (x:Str)|tup (xs:List D)|lst (xs:List D)
noncomputable def i6(c:Hm):D->Option KdD
 |.non=>b0 .non|.bl b=>b0 (.bl b)|.int i=>b0 (.int i)|.str x=>b0 (.str x)|.tup xs=>b0 (.tup xs)|.rol xs=>b0 (.lst xs)|.loc a=>match c[a]? with|some (.lst xs)=>b0 (.lst xs)|_=>b3
 |.ty _=>b3
noncomputable def i7(f:D->D->Option Bool):List D->List D->Option Bool
 |x::xs,y::ys=>(f x y).bind λb=>(i7 f xs ys).map λc=>b&&c|[],[]=>b0 b5|_,_=>b0 b4
noncomputable def pU(f:D->D->Option Bool):KdD->KdD->Option Bool
 |.non,.non=>b0 b5|.bl a,.bl b=>b0 (a==b)|.bl a,.int b=>b0 ((if a then 1 else 0)==b)|.int a,.bl b=>b0 (a==(if b then 1 else 0))|.int a,.int b=>b0 (a==b)|.str a,.str b=>b0 (a==b)|.tup xs,.tup ys=>i7 f xs ys|.lst xs,.lst ys=>i7 f xs ys|_,_=>b0 b4
noncomputable abbrev w5(f:D->D->Option Bool):D->D->Option Bool:=f
theorem Cp{f:D->D->Option Bool}{x y:D}{b:Bool}(h:w5 f x y=b0 b):f x y=b0 b\/(b=b5/\∃a,x=.loc a/\y=.loc a):=.inl h
noncomputable def c5:Nat->Hm->D->D->Option Bool
 |0,_,_,_=>b3|n+1,μ,x,y=>(i6 μ x).bind λa=>(i6 μ y).bind λb=>pU (w5 (c5 n μ)) a b
noncomputable abbrev oA(n:Nat)(a:Hm):D->D->Option Bool:=w5 (c5 n a)
noncomputable def w6:KdD->KD
 |.non=>.non|.bl b=>.bl b|.int i=>.int i|.str x=>.str x|.tup xs=>.tup xs.length|.lst xs=>.lst xs.length
noncomputable def oB:KdD->List D
 |.tup xs=>xs|.lst xs=>xs|_=>[]
section
variable{X:Cx}{a6r:jw}{σ:St}{H:Hp}{s:Wf}{π:Nat->Addr}{μ:Hm}
inductive KdAt (X:Cx)(π:Nat->Addr)(n:Nat)(H:Hp)(s:Wf)(u:Value):KdD->Prop where
 |non (h:u=.none):KdAt X π n H s u .non
 |bl (b:Bool)(h:u=.bool b):KdAt X π n H s u (.bl b)
 |int (i:Int)(t:a3a)(h:u=.int i t):KdAt X π n H s u (.int i)
 |str (x:Str)(t:a3a)(h:u=.str x t):KdAt X π n H s u (.str x)
 |tup {xs:List D}(p:Addr)(vs:gz)(its:gw)(h:u=.ref p)(q:SqT X.K H p vs)(i:IsDs X.K π n H vs xs)(r:Vals vs its)(t:s.heap.IsTuple p its.toArray):KdAt X π n H s u (.tup xs)
 |lst {xs:List D}(p:Addr)(vs:gz)(its:gw)(h:u=.ref p)(q:SqL X.K H p vs)(i:IsDs X.K π n H vs xs)(r:Vals vs its)(t:s.heap.IsList p its.toArray):KdAt X π n H s u (.lst xs)
theorem oC(I:Inv X a6r σ H s)(R:Rp X.K π H μ){v:V}{d:D}{u:Value}(h:IsD X.K π μ.length H v d)(r:RelV v u){k:KdD}(e:i6 μ d=b0 k):KdAt X π μ.length H s u k:=by
 cases h with
 |non=>cases e;exact .non r|bl b=>cases e;exact .bl b r|int i=>cases e;obtain⟨t,q⟩:=r;exact .int i t q|str x=>cases e;obtain⟨t,q⟩:=r;exact .str x t q|ty x=>cases e|tup q t=>cases e;obtain⟨c,g,p,_⟩:=I.tuple q;exact .tup _ _ c r q t g p|rol q t=>cases e;obtain⟨c,g,p,_⟩:=I.list q.sq;exact .lst _ _ c r q.sq t g p.isList|@loc a y=>
  simp only[i6]at e;split at e
  .rename_i w n;cases e;obtain⟨o,j,l⟩:=R.lst a w n;have q:SqL X.K H (π a) o:=.of j;obtain⟨c,g,p,_⟩:=I.list q;exact .lst _ _ c r q l g p.isList
  .cases e
theorem KdAt.isK{u:Value}{k:KdD}{n:Nat}(h:KdAt X π n H s u k):IsK s u (w6 k):=by
 cases h with
 |non h=>subst h;exact .non|bl b h=>subst h;exact .bl b|int i t h=>subst h;exact .int i t|str x t h=>subst h;exact .str x t|tup p c a h q i r t=>subst h;have:a.length=_:=r.length.symm.trans i.length;show IsK s (.ref p) (.tup _);rw[<- this];exact .tup t|lst p c a h q i r t=>subst h;have:a.length=_:=r.length.symm.trans i.length;show IsK s (.ref p) (.lst _);rw[<- this];exact .lst t
noncomputable def iJ(f:D->D->Option Bool)(xs a:List D)(j:Nat):Bool:=match xs[j]?,a[j]? with
 |some x,b0 y=>(f x y).getD b4|_,_=>b4
theorem w8{f:D->D->Option Bool}:∀{xs a:List D}{b:Bool},i7 f xs a=b0 b->b=((WR (min xs.length a.length)).all (iJ f xs a)&&xs.length==a.length)/\∀(j:Nat) x y,xs[j]?=b0 x->a[j]?=b0 y->f x y=b0 (iJ f xs a j)
 |[],[],b,h=>by cases h;exact⟨rfl,λj x y e=>by simp at e⟩
 |x::xs,[],b,h=>by cases h;exact⟨by simp,λj x y _ e=>by simp at e⟩
 |[],y::a,b,h=>by cases h;exact⟨by simp,λj x y e=>by simp at e⟩
 |x::xs,y::a,b,h=>by
  simp only[i7]at h;obtain⟨c,l,o⟩:=V6.mp h;obtain⟨d,p,q⟩:=Wb.mp o;obtain⟨r,u⟩:=w8 p;have k:iJ f (x::xs) (y::a) 0=c:=by simp[iJ,l]
  have n:∀j,iJ f (x::xs) (y::a) (j+1)=iJ f xs a j:=λj=>by simp[iJ]
  refine⟨?_,λj v w g i=>?_⟩
  .subst q;rw[r];simp only[WO,Nat.add_min_add_right];rw[a0s,W3,a2K,k];have:(iJ f (x::xs) (y::a)∘Nat.succ)=iJ f xs a:=funext λj=>n j;rw[this];simp[Bool.and_assoc]
  .cases j with
   |zero=>simp at g i;subst g;subst i;rw[k,l]|succ j=>rw[n j];exact u j v w (by simpa using g) (by simpa using i)
theorem Cq{f:D->D->Option Bool}{k k':KdD}{b:Bool}(h:pU f k k'=b0 b):b=sQ (iJ f (oB k) (oB k')) (w6 k) (w6 k'):=by
 cases k<;>cases k'<;>first
  |(have a:=Wt h;subst a;rfl)|(obtain⟨c,_⟩:=w8 h;rw[c];rfl)
theorem K4(I:Inv X a6r σ H s)(R:Rp X.K π H μ):∀(n:Nat){v:V}{u:Value}{x y:D}{b:Bool},RelV v u->IsD X.K π μ.length H v x->IsD X.K π μ.length H v y->c5 n μ x y=b0 b->b=true:=by
 intro n;induction n with
 |zero=>intro v u x y b _ _ _ h;cases h|succ n ih=>
  intro v u x y b r hx hy h;obtain⟨k,U,h⟩:=V6.mp h;obtain⟨k',h2,h⟩:=V6.mp h;have a1:=oC I R hx r U;have A:=oC I R hy r h2;have g:∀{vs:gz}{xs T:List D}{c:Bool},(∀v∈vs,∃u,RelV v u)->IsDs X.K π μ.length H vs xs->IsDs X.K π μ.length H vs T->i7 (oA n μ) xs T=b0 c->c=true:=by
   intro vs;induction vs with
   |nil=>intro xs T c _ Z o h;cases Z;cases o;cases h;rfl|cons w vs ihv=>
    intro xs T c hr Z o h;cases Z with
    |cons p1 t1=>
     cases o with
     |cons L E=>simp only[i7]at h;obtain⟨c1,U,h3⟩:=V6.mp h;obtain⟨c2,h4,h5⟩:=Wb.mp h3;obtain⟨Q,N⟩:=hr w (Xd ..);have a:c1=true:=(Cp U).elim (ih N p1 L) (·.1);have l:=ihv (λv J=>hr v (WV _ J)) t1 E h4;subst a;subst l;exact h5.symm
  cases a1 with
  |non a=>
   subst a;cases A with
   |non _=>exact(Wt h).symm|bl _ e=>cases e|int _ _ e=>cases e|str _ _ e=>cases e|tup _ _ _ e=>cases e|lst _ _ _ e=>cases e
  |bl c a=>
   subst a;cases A with
   |non e=>cases e|bl _ e=>cases e;exact(Wt h).symm.trans (beq_self_eq_true _)|int _ _ e=>cases e|str _ _ e=>cases e|tup _ _ _ e=>cases e|lst _ _ _ e=>cases e
  |int c t a=>
   subst a;cases A with
   |non e=>cases e|bl _ e=>cases e|int _ _ e=>cases e;exact(Wt h).symm.trans (beq_self_eq_true _)|str _ _ e=>cases e|tup _ _ _ e=>cases e|lst _ _ _ e=>cases e
  |str c t a=>
   subst a;cases A with
   |non e=>cases e|bl _ e=>cases e|int _ _ e=>cases e|str _ _ e=>cases e;exact(Wt h).symm.trans (beq_self_eq_true _)|tup _ _ _ e=>cases e|lst _ _ _ e=>cases e
  |tup p vs K a q i O t=>
   have z:KdAt X π μ.length H s (.ref p) _:=a▸KdAt.tup p vs K a q i O t;rw[a]at A;cases A with
   |non e=>cases e|bl _ e=>cases e|int _ _ e=>cases e|str _ _ e=>cases e|tup L G d l M o B E=>
    cases l;have:=I.tuple_inj q M;subst this;exact g (λv J=>by
     obtain⟨j,Y,rfl⟩:=a3s J;obtain⟨Q,_,N⟩:=O.get (Wi Y);exact⟨Q,N⟩) i o h
   |lst L G d l M o B E=>cases l;exact absurd rfl (Yd E t)
  |lst p vs K a q i O t=>
   rw[a]at A;cases A with
   |non e=>cases e|bl _ e=>cases e|int _ _ e=>cases e|str _ _ e=>cases e|tup L G d l M o B E=>cases l;exact absurd rfl (Yd t E)|lst L G d l M o B E=>
    cases l;have:=I.list_inj q M;subst this;exact g (λv J=>by
     obtain⟨j,Y,rfl⟩:=a3s J;obtain⟨Q,_,N⟩:=O.get (Wi Y);exact⟨Q,N⟩) i o h
theorem iK(A:WY):A.in1.units=A.units+1:=rfl
theorem Cr(I:Inv X a6r σ H s){A:WY}{n:Nat}(ih:∀{A:WY}{v v':V}{u u':Value}{x y:D}{b:Bool},A.units+n<XM->RelV v u->RelV v' u'->IsD X.K π μ.length H v x->IsD X.K π μ.length H v' y->c5 n μ x y=b0 b->EqAt A s u u' b)
  (hu:A.units+(n+1)<XM){u u':Value}{k k':KdD}{b:Bool}(a1:KdAt X π μ.length H s u k)(a2:KdAt X π μ.length H s u' k')(h:pU (oA n μ) k k'=b0 b):sR A s u u' (iJ (oA n μ) (oB k) (oB k')):=by
 have J:∀{vs R:gz}{its its':gw}{xs Y:List D}{c:Bool},Vals vs its->Vals R its'->IsDs X.K π μ.length H vs xs->IsDs X.K π μ.length H R Y->i7 (oA n μ) xs Y=b0 c->
   ∀j (h1:j<its.length)(U:j<its'.length),EqAt A.in1 s its[j] its'[j] (iJ (oA n μ) xs Y j):=by
  intro vs R its its' xs Y c r r' i i' e j h1 U;have l1:=r.length;have l2:=r'.length;have l3:=i.length;have l4:=i'.length;have hx:xs[j]?=b0 (xs[j]'(by lia)):=Wi _;have hy:Y[j]?=b0 (Y[j]'(by lia)):=Wi _;obtain⟨v,v1,v2⟩:=i.get hx;obtain⟨v',v1',v2'⟩:=i'.get hy;obtain⟨w,w1,w2⟩:=r.get v1;obtain⟨w',w1',w2'⟩:=r'.get v1';rw[Wi h1]at w1;rw[Wi U]at w1';cases w1;cases w1';have key:∀{x y:D}{b:Bool},IsD X.K π μ.length H v x->IsD X.K π μ.length H v' y->oA n μ x y=b0 b->EqAt A.in1 s its[j] its'[j] b:=λ{x y b} i1 K hq=>by
   rcases Cp hq with hq|⟨rfl,a,rfl,rfl⟩
   .exact ih (by rw[iK];lia) w2 w2' i1 K hq
   .cases i1;cases K;have z1:its[j]=Wx (π a):=w2;have z2:its'[j]=Wx (π a):=w2';rw[z1,z2];exact EqAt.same _
  exact key v2 v2' ((w8 e).2 j _ _ hx hy)
 constructor
 .intro l b' G B e1 e2 t1 t2 j h1 U;subst e1;subst e2;cases a1 with
  |tup p vs its e q i r t=>
   cases e;cases a2 with
   |tup p2 T E d q2 K Z Q=>
    cases d;have z1:G=its.toArray:=by obtain⟨o,L,g2,n1,N⟩:=t1;obtain⟨o',g,M,O,z⟩:=t;rw[L]at g;cases g;rw[N]at z;injection z
    have z2:B=E.toArray:=by obtain⟨o,L,g2,n1,N⟩:=t2;obtain⟨o',g,M,O,z⟩:=Q;rw[L]at g;cases g;rw[N]at z;injection z
    subst z1;subst z2;have:=J r Z i K h j (by simpa using h1) (by simpa using U);simpa[oB]using this
   |lst p2 T E d q2 K Z Q=>cases d;exact absurd rfl (Yd Q t2)|non d=>cases d|bl _ d=>cases d|int _ _ d=>cases d|str _ _ d=>cases d
  |lst p vs its e q i r t=>cases e;exact absurd rfl (Yd t t1)|non e=>cases e|bl _ e=>cases e|int _ _ e=>cases e|str _ _ e=>cases e
 .intro l b' G B e1 e2 t1 t2 j h1 U;subst e1;subst e2;cases a1 with
  |lst p vs its e q i r t=>
   cases e;cases a2 with
   |lst p2 T E d q2 K Z Q=>
    cases d;have z1:G=its.toArray:=by obtain⟨o,L,g2,n1,N⟩:=t1;obtain⟨o',g,M,O,z⟩:=t;rw[L]at g;cases g;rw[N]at z;injection z
    have z2:B=E.toArray:=by obtain⟨o,L,g2,n1,N⟩:=t2;obtain⟨o',g,M,O,z⟩:=Q;rw[L]at g;cases g;rw[N]at z;injection z
    subst z1;subst z2;have:=J r Z i K h j (by simpa using h1) (by simpa using U);simpa[oB]using this
   |tup p2 T E d q2 K Z Q=>cases d;exact absurd rfl (Yd t2 Q)|non d=>cases d|bl _ d=>cases d|int _ _ d=>cases d|str _ _ d=>cases d
  |tup p vs its e q i r t=>cases e;exact absurd rfl (Yd t1 t)|non e=>cases e|bl _ e=>cases e|int _ _ e=>cases e|str _ _ e=>cases e
theorem w9(I:Inv X a6r σ H s)(R:Rp X.K π H μ):∀(n:Nat){A:WY}{v c:V}{u a:Value}{x y:D}{b:Bool},A.units+n<XM->RelV v u->RelV c a->IsD X.K π μ.length H v x->IsD X.K π μ.length H c y->c5 n μ x y=b0 b->EqAt A s u a b:=by
 intro n;induction n with
 |zero=>intro A v c u a x y b _ _ _ _ _ h;cases h|succ n K=>
  intro A v c u a x y b J r o i j h;have w:=h;obtain⟨k,B,h⟩:=V6.mp h;obtain⟨M,E,h⟩:=V6.mp h;have d:=oC I R i r B;have e:=oC I R j o E;by_cases g:u=a
  .subst g;have:v=c:=r.inj o;subst this;have:=K4 I R (n+1) r i j w;subst this;exact EqAt.same _
  .have G:=Cr I K J d e h;rw[Cq h];exact K3 d.isK e.isK (by lia) G λl L p q z=>g (by rw[p,q,z])
theorem Ct(I:Inv X a6r σ H s)(R:Rp X.K π H μ)(n:Nat){A:WY}{v g:V}{u d:Value}{x y:D}{b:Bool}(l:A.units+n<XM)(r:RelV v u)(q:RelV g d)(o:IsD X.K π μ.length H v x)(p:IsD X.K π μ.length H g y)(h:c5 n μ x y=b0 b) :
  RcAt A s u d b/\RcNeAt A s u d (!b):=by
 cases n with
 |zero=>cases h|succ n=>obtain⟨k,i,h⟩:=V6.mp h;obtain⟨w,j,h⟩:=V6.mp h;have a:=oC I R o r i;have c:=oC I R p q j;have e:=Cr I (A:=A) (w9 I R n) l a c h;rw[Cq h];exact⟨w4 a.isK c.isK (by lia) e,K2 a.isK c.isK (by lia) e⟩
end
section
variable{K:V8}
noncomputable def lP(g:Int->Int->Option Int):D->D->Hm->jk
 |.int i,.int j,μ=>(g i j).map λz=>(.int z,μ)|_,_,_=>b3
theorem Cu{g:Int->Int->Option Int}{x y d:D}{a μ':Hm}(h:lP g x y a=b0 (d,μ')):∃i j z,x=.int i/\y=.int j/\g i j=b0 z/\d=.int z/\μ'=a:=by
 unfold lP at h;split at h
 .rename_i i j;obtain⟨z,b,c⟩:=Wb.mp h;cases c;exact⟨i,j,z,rfl,rfl,b,rfl,rfl⟩
 .cases h
theorem xA{a:Int->Int->Prop}{g:Int->Int->Option Int}{g':Int->Int->Int}(e:∀i j z,g i j=b0 z->a i j/\z=g' i j):dA K (lP g) (rI a λi j=>.int (g' i j)):=by intro p H s x y d o q r Q R l n h k;obtain⟨i,j,z,rfl,rfl,b,rfl,rfl⟩:=Cu h;cases l;cases n;obtain⟨c,rfl⟩:=e i j z b;exact⟨i,j,rfl,rfl,c,k p _ H .refl R (.int _)⟩
theorem K5{g':Int->Int->Int}:dA K (lP λi j=>b0 (g' i j)) (gY λi j=>.int (g' i j)):=by intro h H o x y d g l n Q R c e b k;obtain⟨i,j,z,rfl,rfl,a,rfl,rfl⟩:=Cu b;cases c;cases e;cases a;exact⟨i,j,rfl,rfl,k h _ H .refl R (.int _)⟩
noncomputable def cQ:=lP λi j=>b0 (i-j)
noncomputable def Cv:=lP λi j=>if((-(2^64)<i/\i<2^64)\/(-(2^64)<j/\j<2^64))\/(i.natAbs<2^4000/\j.natAbs<2^4000)\/W2 i+W2 j<=134217728 then b0 (i*j)else b3
noncomputable def cF:D->D->Hm->jk
 |x,y,μ=>Cv x y μ
noncomputable def dB:=lP λi j=>if 0<j/\j<2^4000 then b0 (i/j)else b3
noncomputable def aV:=lP λi j=>if 0<j then b0 (i%j)else b3
noncomputable def CMulB(i j:Int):Prop:=CMul i j\/(i.natAbs<2^4000/\j.natAbs<2^4000)\/W2 i+W2 j<=134217728
noncomputable def Cw(i j:Int):Prop:=0<j/\j<2^4000
theorem Cy{i:Int}(h:i.natAbs<2^4000):W2 i<=4000:=by
 unfold W2;split
 .exact Yi _
 .rename_i b;have a:i.natAbs≠0:=by intro z;exact b (by simpa using z)
  have:=(a5U a).mpr h;lia
theorem CMulB.ok{i j:Int}(h:CMulB i j):a4D i j:=by
 rcases h with h|⟨b,c⟩|h
 .exact h.ok
 rotate_left
 .have a:ZA (W2 i+W2 j)=false:=by
   unfold ZA;rw[decide_eq_false];have:bitsLine=134217728:=by decide
   lia
  unfold a4D;rw[a];simp
 .have d:=Cy b;have e:=Cy c;have a:ZA (W2 i+W2 j)=false:=by
   unfold ZA;rw[decide_eq_false];have:(8000:Int)<=bitsLine:=by decide
   lia
  unfold a4D;rw[a];simp
section
variable{X:Cx}
theorem K6:OpR X (ZE .Mult) (rI CMulB λi j=>.int (i*j)):=wB λ_ _ _ _ _ _ _ hc q=>a5J q hc.ok
theorem K7:OpR X (ZE .FloorDiv) (rI Cw λi j=>.int (i/j)):=wB λi j _ _ _ _ _ hc q=>by
 have c:(0:Int)<j:=hc.1;have d:j<2^4000:=hc.2;have a:j.natAbs≠0:=by lia
 have b:j.natAbs<2^4000:=by
  have:((2^4000:Nat):Int)=2^4000:=by decide
  lia
 have e:=(a5U a).mpr b;exact a5M (by lia) (by rw[Int.fdiv_eq_ediv_of_nonneg i (by lia)];exact q) (.inl (PyProof.noPylong_of_log2 (by lia)))
end
theorem xB{c:Prop} [Decidable c] {a z:Int}(h:(if c then b0 a else b3)=b0 z):c/\z=a:=by
 split at h
 .cases h;exact⟨by assumption,rfl⟩
 .cases h
theorem K8:dA K cQ (gY λi j=>.int (i-j)):=K5
theorem K9:dA K Cv (rI CMulB λi j=>.int (i*j)):=xA λi j z h=>by have:=xB h;exact this
theorem La:dA K cF (rI CMulB λi j=>.int (i*j)):=K9
theorem Lb:dA K dB (rI Cw λi j=>.int (i/j)):=xA λi j z h=>by have:=xB h;exact this
theorem Lc:dA K aV (rI (λ_ j=>0<j) λi j=>.int (i%j)):=xA λ_ _ _ h=>xB h
noncomputable def xC:D->Option D
 |.int i=>b0 (.int (-i))|_=>b3
noncomputable def bI:D->D->Hm->jk
 |.int i,.int j,μ=>b0 (.int (i+j),μ)|.str x,.str y,μ=>if x.length+y.length<=Wq then b0 (.str (x++y),μ)else b3|.loc a,.loc b,μ=>match μ[a]?,μ[b]? with
  |some (.lst xs),b0 (.lst ys)=>if xs.length+ys.length<=Wq then b0 (.loc μ.length,μ++[.lst (xs++ys)])else b3|_,_=>b3
 |_,_,_=>b3
noncomputable def xD(K:V8):R2:=λx y H Q=>gY (λi j=>.int (i+j)) x y H Q\/(∃i j,x=.str i/\y=.str j/\i.length+j.length<=Wq/\Q (.str (i++j)) H)\/B1 x y H Q
theorem Ld{X:Cx}:OpR X (ZE .Add) (xD X.K):=op_add.or (op_add_str.or JS)
noncomputable abbrev xE(K:V8):R2:=xD K
theorem Le{X:Cx}:OpR X (ZE .Add) (xE X.K):=Ld
theorem xF{K:V8}{x y:V}{H:Hp}{Q:VK}(h:xD K x y H Q):xE K x y H Q:=h
theorem Lf:dA K bI (xE K):=by
 intro r H G x y d A B E Q R c e a k;unfold bI at a;split at a
 .cases a;cases c;cases e;exact xF (.inl ⟨_,_,rfl,rfl,k r _ H .refl R (.int _)⟩)
 .split at a
  .rename_i b;cases a;cases c;cases e;exact xF (.inr (.inl ⟨_,_,rfl,rfl,b,k r _ H .refl R (.str _)⟩))
  .cases a
 .split at a
  .rename_i n o v w;split at a
   .rename_i b;cases a;cases c;cases e;obtain⟨j,g,h⟩:=R.lst _ n v;obtain⟨l,u,i⟩:=R.lst _ o w;refine xF (.inr (.inr ⟨_,_,j,l,rfl,rfl,by first|exact g|exact .inl (.inl g),u,by rw[h.length,i.length];exact b,λp z=>?_⟩));obtain⟨s,R2,q⟩:=R.alloc (c:=.lst (n++o)) (o:=.lst (j++l)) z (h.append i);exact k _ _ _ s R2 jT
   .cases a
  .cases a
 .cases a
noncomputable def gF(p:Int->Int->Bool):D->D->Hm->jk
 |.int i,.int j,μ=>b0 (.bl (p i j),μ)|_,_,_=>b3
theorem iL{p:Int->Int->Bool}:dA K (gF p) (gY λi j=>.bl (p i j)):=by
 intro g H n x y d e h l Q R b c a k;unfold gF at a;split at a
 .cases a;cases b;cases c;exact⟨_,_,rfl,rfl,k g _ H .refl R (.bl _)⟩
 .cases a
noncomputable def dQ:=gF λi j=>decide (i<j)
noncomputable def oD:=gF λi j=>decide (i<=j)
noncomputable def kN:=gF λi j=>decide (j<i)
noncomputable def pV:=gF λi j=>decide (j<=i)
noncomputable def xG(K:V8)(ne:Bool):R2:=λx y H Q=>∃π a c d b,Rp K π H a/\IsD K π a.length H x c/\IsD K π a.length H y d/\c5 8 a c d=b0 b/\Q (.bl (if ne then !b else b)) H
theorem Cz{X:Cx}(c:X.A.units+8<XM):OpR X (Xs .Eq) (xG X.K b4):=by intro a s p H x y v u Q I i j h;obtain⟨o,n,k,l,b,R,d,g,e,q⟩:=h;exact(Ct I R 8 c i j d g e).1 _ _ _ _ ⟨.bl b,H,I,rfl,q⟩
theorem CA{X:Cx}(c:X.A.units+8<XM):OpR X (Xs .NotEq) (xG X.K b5):=by intro a s p H x y v u Q I i j h;obtain⟨o,n,k,l,b,R,d,g,e,q⟩:=h;exact(Ct I R 8 c i j d g e).2 _ _ _ _ ⟨.bl (!b),H,I,rfl,q⟩
noncomputable def aT(ne:Bool):D->D->Hm->jk:=λx y a=>(c5 8 a x y).map λb=>(.bl (if ne then !b else b),a)
theorem sS{ne:Bool}:dA K (aT ne) (xG K ne):=by intro a H j x y d l n o Q R h i g k;obtain⟨b,c,e⟩:=Wb.mp g;cases e;exact⟨a,j,x,y,b,R,h,i,c,k a _ H .refl R (.bl _)⟩
noncomputable def xH:D->D->Hm->jk
 |.str i,.str j,μ=>b0 (.bl (!(XN j i 0 j.length 1).isEmpty),μ)|_,_,_=>b3
theorem CB:dA K xH (λx y H Q=>∃i j,x=.str i/\y=.str j/\Q (.bl (!(XN j i 0 j.length 1).isEmpty)) H):=by
 intro g H n x y d e h l Q R b c a k;unfold xH at a;split at a
 .cases a;cases b;cases c;exact⟨_,_,rfl,rfl,k g _ H .refl R (.bl _)⟩
 .cases a
end
section
variable{X:Cx}{a b c:Expr}{ma mb mc:ME}{pos:XX}
theorem sT{k:Nat}{A:WY}(r:Room k A):A.units+8<XM:=by have:=r.un;lia
theorem Lg(u:PE X a (tM X.K ma)):PE X (.UnaryOp .USub a pos) (tM X.K (λj g=>(ma j g).bind λp=>(xC p.1).map λd=>(d,p.2))):=dH (II IL u) (by
 rintro G H Q ⟨A,j,g,d,w,R,E,e,k⟩;obtain⟨⟨x,z⟩,r,e⟩:=V6.mp e;obtain⟨y,l,s⟩:=Wb.mp e;cases s;cases x with
 |int i=>cases l;refine⟨A,j,g,_,_,R,E,r,λh B n q o v=>?_⟩;cases v;exact⟨_,rfl,k h _ n q o (.int _)⟩
 |_=>cases l)
theorem Lh{x:Str}{n:String}(d:Gl X x)(e:X.mg x=b3)(h:X0 x=b0 (.type n))(g:x ≠ "__name__":=by decide) (hd:(x==("__debug__":Str))=false:=by decide):PE X (.Name x pos) (tM X.K (mC (.ty n))):=
 n9 (HB (v:=.ty n) d e h rfl g hd) λ_ _ _=>.ty n
end
noncomputable def sU(b:Hm):D->Option String
 |.non=>b0 "NoneType"|.bl _=>b0 "bool"|.int _=>b0 "int"|.str _=>b0 "str"|.tup _=>b0 "tuple"|.rol _=>b0 "list"|.loc a=>match b[a]? with
  |some (.lst _)=>b0 "list"|some (.dK _)=>b0 "dict"|some (.dT _)=>b0 "dict"|_=>b3
 |.ty _=>b3
noncomputable def sV(t c:String):Option Bool:=match c with
 | "int"=>b0 (t=="int" || t=="bool")| "bool"=>b0 (t=="bool")| "str"=>b0 (t=="str")| "list"=>b0 (t=="list")| "tuple"=>b0 (t=="tuple")| "dict"=>b0 (t=="dict")|_=>b3
noncomputable def fG:MF:=λds a=>match ds with
 |[x,.ty c]=>(sU a x).bind λt=>(sV t c).map λb=>(.bl b,a)|_=>b3
theorem kP (K:V8){t c:String}{b:Bool}(d:t = "NoneType"\/t = "bool"\/t = "int"\/t = "str"\/t = "tuple"\/t = "list"\/t = "dict") (h:sV t c=b0 b):a3R K (.type t) (.type c)=b0 b:=by
 unfold sV at h
 split at h<;>first
  | cases h;done
  | (have a:=Wt h;subst a
     rcases d with rfl|rfl|rfl|rfl|rfl|rfl|rfl<;>first|rfl|decide +kernel|(unfold a3R;simp;rfl))
end L3
namespace L3
open PySem L2
noncomputable abbrev MG:=D->aH->Hm->Option aH
inductive tMG (K:V8)(g:MG)(v:V)(σ:St)(H:Hp)(Q:St->Hp->Prop):Prop
 |mk (π:Nat->Addr)(ρ:aH)(μ:Hm)(d:D)(ρ':aH)(R:Rp K π H μ)(E:En K π μ.length H σ ρ)(i:IsD K π μ.length H v d)(hm:g d ρ μ=b0 ρ')(k:∀σ',En K π μ.length H σ' ρ'->Q σ' H):tMG K g v σ H Q
noncomputable def cE(i:Nat):MG:=λd a _=>b0 (a.set i (b0 d))
section
variable{X:Cx}{pos:XX}
theorem CC{i:Nat}{x:Str}(b:X.N.Nodup)(e:X.N[i]?=b0 x)(j:Loc X.env.scope x)(c:X.fn x=b5\/X.env.scope.names.lookup x=b0 .local:=by first|exact .inl rfl|exact .inr rfl|assumption):PG X (.Name x pos) (tMG X.K (cE i)):=by intro a s n H v u Q I r h;obtain⟨p,q,o,d,l,R,E,hd,g,k⟩:=h;cases g;exact Bp b e j c a s n H v u Q I r (k _ (E.set hd i))
noncomputable def Li(K:V8)(c:TE):TI:=λσ H R=>c σ H λx b=>∃a,x=.ref a/\(((∃xs,SqL K b a xs)/\R (v7 K a) b)\/((∃xs,SqT K b a xs)/\R (v8 K a) b))
theorem Lj{l tg:Expr}{r:TE}(u:PE X l r):PI X tg l (Li X.K r):=by
 intro i s E H R I h;refine aR (u i s E H _ I h) λv c ⟨x,n,d,z,y⟩=>?_;obtain⟨a,e,q⟩:=y;subst e;cases z;rcases q with⟨⟨B,k⟩,q⟩|⟨⟨B,k⟩,q⟩
 .obtain⟨g,A,p,w⟩:=d.list k;refine a0p p.isList ?_;refine⟨c.heap.objs.size,[c.heap.objs.size],_,_,n,rfl,d.kept (t':=c.toks) λb o e=>Wc _ e,Iv a _,⟨_,Wn _ rfl,rfl,rfl⟩,λb j=>?_,q⟩;have e:b=c.heap.objs.size:=by simpa using j
  subst e;exact d.fpOk (Wh _) (d.hok.fresh (Wh _))
 .obtain⟨g,A,p,w⟩:=d.tuple k;refine Y1 (show c.heap.IsTuple a g.toArray from p) ?_;refine⟨c.heap.objs.size,[c.heap.objs.size],_,_,n,rfl,d.kept (t':=c.toks) λb o e=>Wc _ e,Iw a _,⟨_,Wn _ rfl,rfl,rfl⟩,λb j=>?_,q⟩;have e:b=c.heap.objs.size:=by simpa using j
  subst e;exact d.fpOk (Wh _) (d.hok.fresh (Wh _))
end
structure Wk(K:V8)(J:It)(src:Hm->Nat->Option (Option D))(π:Nat->Addr)(n:Nat)(H:Hp):Prop where
 stop:∀π' μ H' i,Ext π n H π' μ.length H'->Rp K π' H' μ->src μ i=b0 b3->J.stop i H'
 go:∀π' μ H' i d,Ext π n H π' μ.length H'->Rp K π' H' μ->src μ i=b0 (b0 d)->J.go i H'/\∀x H2,J.yld i H' x H2->Ext π' μ.length H' π' μ.length H2/\Rp K π' H2 μ/\IsD K π' μ.length H2 x d
noncomputable def kQ(x:D):Hm->Nat->Option (Option D):=λa i=>(bM a x).map λxs=>xs[i]?
theorem Lk{K:V8}{π:Nat->Addr}{B:Hm}{H:Hp}{v:V}{x:D}{xs:List D}(R:Rp K π H B)(h:IsD K π B.length H v x)(E:bM B x=b0 xs) :
  ∃a,v=.ref a/\(((∃b,SqL K H a b)/\Wk K (v7 K a) (kQ x) π B.length H)\/((∃b,SqT K H a b)/\Wk K (v8 K a) (kQ x) π B.length H)):=by
 cases h with
 |@tup p b ds q t=>
  refine⟨p,rfl,.inr ⟨⟨b,q⟩,⟨λk j r i e l z=>?_,λk j r i d e l z=>?_⟩⟩⟩
  .simp only[kQ,bM,WN]at z;have g:ds[i]?=none:=Wt z;exact⟨b,e.sqT q,by rw[t.length];exact WZ.mp g⟩
  .simp only[kQ,bM,WN]at z;have g:ds[i]?=b0 d:=Wt z;obtain⟨w,c,n⟩:=t.get g;refine⟨⟨b,w,e.sqT q,c⟩,λy J ⟨s,u⟩=>?_⟩;subst s;have:=u b (e.sqT q);rw[c]at this;cases this;exact⟨.refl,l,n.mono e⟩
 |@rol p b ds q t=>
  refine⟨p,rfl,.inl ⟨⟨b,q.sq⟩,⟨λk j r i e l z=>?_,λk j r i d e l z=>?_⟩⟩⟩
  .simp only[kQ,bM,WN]at z;have g:ds[i]?=none:=Wt z;exact⟨b,(e.roL q).sq,by rw[t.length];exact WZ.mp g⟩
  .simp only[kQ,bM,WN]at z;have g:ds[i]?=b0 d:=Wt z;obtain⟨w,c,n⟩:=t.get g;refine⟨⟨b,w,(e.roL q).sq,c⟩,λy J ⟨s,u⟩=>?_⟩;subst s;have:=u b (e.roL q).sq;rw[c]at this;cases this;exact⟨.refl,l,n.mono e⟩
 |@loc a M=>
  have hc:∃b,H (π a)=b0 (.lst b):=by
   simp only[bM]at E;split at E
   .rename_i o A;obtain⟨b,c,_⟩:=R.lst a o A;exact⟨b,c⟩
   .cases E
  obtain⟨I,G⟩:=hc;refine⟨π a,rfl,.inl ⟨⟨I,.of G⟩,⟨λk j r i e l z=>?_,λk j r i d e l z=>?_⟩⟩⟩
  .simp only[kQ,bM]at z;split at z
   .rename_i o A;obtain⟨b,c,n⟩:=l.lst a o A;rw[e.pi a M]at c;have g:o[i]?=none:=Wt z;exact⟨b,.of c,by rw[n.length];exact WZ.mp g⟩
   .cases z
  .simp only[kQ,bM]at z;split at z
   .rename_i o A;obtain⟨b,c,n⟩:=l.lst a o A;rw[e.pi a M]at c;have g:o[i]?=b0 d:=Wt z;obtain⟨w,L,N⟩:=n.get g;refine⟨⟨b,w,.of c,L⟩,λy J ⟨s,u⟩=>?_⟩;subst s;have:=u b (.of c);rw[L]at this;cases this;exact⟨.refl,l,N⟩
   .cases z
 |_=>cases E
noncomputable def eU(a:Hm->Nat->Option (Option D))(g:MG)(b:MS):Nat->Nat->MS
 |0,_,_,_=>b3|n+1,i,ρ,μ=>(a μ i).bind λo=>match o with
  |none=>b0 (.nx,ρ,μ)|some d=>(g d ρ μ).bind λc=>(b c μ).bind λp=>match p.1 with
   |.nx=>eU a g b n (i+1) p.2.1 p.2.2|.ct=>eU a g b n (i+1) p.2.1 p.2.2|.bk=>b0 (.nx,p.2.1,p.2.2)|.rt d=>b0 (.rt d,p.2.1,p.2.2)
theorem Ll{K:V8}{J:It}{z:Hm->Nat->Option (Option D)}{g:MG}{b:MS}{π:Nat->Addr}{M:Nat}{L:Hp}(W:Wk K J z π M L){E:Ends}{w:Fl}{l:aH}{μ':Hm}(hE:mV K E π M L w l μ')
  {A:Nat->Addr}{μ1:Hm}{H1:Hp}{Q:aH}{σ1:St}{n:Nat}(e1:Ext π M L A μ1.length H1)(R1:Rp K A H1 μ1)(E1:En K A μ1.length H1 σ1 Q)(h:eU z g b n 0 Q μ1=b0 (w,l,μ')) :
  ∃Wd:Nat->Nat->St->Hp->Prop,(∃m,Wd 0 m σ1 H1)/\∀i m T H,Wd i m T H->
   (J.stop i H/\E.nx T H)\/(J.go i H/\∃N:St->Hp->Prop,(∀u r,N u r->∃m',m'<m/\Wd (i+1) m' u r)/\∀x r,J.yld i H x r->tMG K g x T r λσ2 Y=>tMS K b {E with nx:=N,ct:=N,bk:=E.nx} σ2 Y):=by
 have lift:∀{a:Nat->Addr}{n2:Nat}{Y:Hp}(e:Ext π M L a n2 Y){w:Fl}{l:aH}{μ':Hm},mV K E π M L w l μ'->mV K E a n2 Y w l μ':=λ{a n2 Y} e {w l μ'} k=>by
  cases w with
  |nx=>exact λs q Z e3 R3 I=>k s q Z (e.trans e3) R3 I|bk=>exact λs q Z e3 R3 I=>k s q Z (e.trans e3) R3 I|ct=>exact λs q Z e3 R3 I=>k s q Z (e.trans e3) R3 I|rt d=>exact KC.after k e
 refine⟨λi m T H=>∃a j B,Ext π M L a j.length H/\Rp K a H j/\En K a j.length H T B/\eU z g b m i B j=b0 (w,l,μ'),⟨n,A,μ1,Q,e1,R1,E1,h⟩,?_⟩;rintro i m T H ⟨a,j,B,v,R2,E2,h2⟩;cases m with
 |zero=>cases h2|succ m=>
  obtain⟨o,h3,h4⟩:=V6.mp h2;cases o with
  |none=>cases h4;exact .inl ⟨W.stop a _ H i v R2 h3,hE a T H v R2 E2⟩|some d=>
   obtain⟨g1,g2⟩:=W.go a j H i d v R2 h3;obtain⟨ρ3,h5,h6⟩:=V6.mp h4;obtain⟨⟨f4,R,O⟩,h7,h8⟩:=V6.mp h6;refine .inr ⟨g1,λu r=>∃c G p,Ext π M L c p.length r/\Rp K c r p/\En K c p.length r u G/\eU z g b m (i+1) G p=b0 (w,l,μ'),
    λu r ⟨c,G,p,a1,a2,a3,a4⟩=>⟨m,X7 _,c,p,G,a1,a2,a3,a4⟩,λx r y=>?_⟩
   obtain⟨ex,Rx,hx⟩:=g2 x r y;have v:=v.trans ex;refine⟨a,B,j,d,ρ3,Rx,E2.mono ex,hx,h5,λq I=>⟨a,ρ3,j,f4,R,O,Rx,I,h7,?_⟩⟩;cases f4 with
   |nx=>exact λc U H5 e5 R5 X=>⟨c,R,O,v.trans e5,R5,X,h8⟩|ct=>exact λc U H5 e5 R5 X=>⟨c,R,O,v.trans e5,R5,X,h8⟩|bk=>cases h8;exact λc U H5 e5 R5 X=>hE c U H5 (v.trans e5) R5 X|rt d'=>cases h8;exact KC.after hE v
section
variable{X:Cx}{pos:XX}{tg iter:Expr}{body:List Stmt}{mi:ME}{g:MG}{mb:MS}
noncomputable def i8(lo:Int)(n:Nat):Hm->Nat->Option (Option D):=λ_ i=>b0 (if i<n then b0 (.int (lo+i))else b3)
theorem CD{K:V8}{lo:Int}{k:Nat}{π:Nat->Addr}{n:Nat}{H:Hp}:Wk K (lG lo k) (i8 lo k) π n H:=by
 refine⟨λb o c i e R z=>?_,λb o c i d e R z=>?_⟩
 .have a:=Wt z;split at a
  .cases a
  .exact a0a.mp (by assumption)
 .have a:=Wt z;split at a
  .cases a;rename_i h;exact⟨h,λx p ⟨j,l⟩=>by subst j;rw[l];exact⟨.refl,R,.int _⟩⟩
  .cases a
end
noncomputable def oE(y:Str):Str:="#"++y
noncomputable def bN(xs N:List Str):List Str:=N.map λy=>if xs.contains y then oE y else y
theorem mX(xs N:List Str):(bN xs N).length=N.length:=by unfold bN;simp
theorem Lm{xs N:List Str}{i:Nat}{y:Str}(h:(bN xs N)[i]?=b0 y):∃a,N[i]?=b0 a/\((xs.contains a=b5/\y=oE a)\/(xs.contains a=b4/\y=a)):=by
 unfold bN at h;rw[Ws]at h;obtain⟨a,c,b⟩:=Wb.mp h;refine⟨a,c,?_⟩;cases hc:xs.contains a with
 |true=>rw[hc]at b;exact .inl ⟨rfl,by simpa using b.symm⟩|false=>rw[hc]at b;exact .inr ⟨rfl,by simpa using b.symm⟩
noncomputable def cL(X:Cx)(scope:YH)(cl:List (Str×Addr))(C:Addr)(N:List Str)(s₀:Wf)(H₀:Hp)(a:List Addr):Cx:=
 {X with N:=N,s₀:=s₀,H₀:=H₀,env:=ZR scope cl C X.env,outer:=X.stack,stack:=X.stack,ex:=a,fn:=λ_=>b4,pn:=[],xe:=λ_ _=>False}
theorem CF{env:a1a}:∀(names:List (Str×YL))(x:Str),(names.map λ(n,k)=>if(k==Yt&&env.scope.kind==.function&&env.kindOf n==b0 .cell)then(n,YD)else(n,k)).lookup x
  = (names.lookup x).map λk=>if(k==Yt&&env.scope.kind==.function&&env.kindOf x==b0 .cell)then YD else k
 |[],_=>rfl|(n,k)::r,x=>by
  have d:=CF (env:=env) r x;rw[WA];by_cases c:x=n
  .subst c;have a:∀(k':YL)(l:List (Str×YL)),a0H x ((x,k')::l)=b0 k':=λk' l=>by simp[ZP]
   rw[a];show a0H x ((if(k==Yt&&env.scope.kind==.function&&env.kindOf x==b0 .cell)=b5 then(x,YD)else(x,k))::_)=b0 (if(k==Yt&&env.scope.kind==.function&&env.kindOf x==b0 .cell)=b5 then YD else k);split
   .rw[a]
   .rw[a]
  .have b:(x==n)=false:=by simpa using c
   have a:∀(k':YL)(l:List (Str×YL)),a0H x ((n,k')::l)=a0H x l:=λk' l=>by simp only[ZP,b]
   rw[a];show a0H x ((if(k==Yt&&env.scope.kind==.function&&env.kindOf n==b0 .cell)=b5 then(n,YD)else(n,k))::_)=_;split
   .rw[a];exact d
   .rw[a];exact d
structure CompOk(X:Cx)(scope:YH)(cl:List (Str×Addr))(xs:List Str):Prop where
 clos:a4R scope X.env=pure cl
 nocell:∀y∈scope.names,y.2≠.cell
 kind:scope.kind=.function
 names:∀y∈scope.names,y.2=.local->scope.names.lookup y.1=b0 .local
 here:∀x∈xs,scope.names.lookup x=b0 .local
 sub:∀y c,cl.lookup y=b0 c->X.env.cells.lookup y=b0 c
 free:∀y,scope.names.lookup y=b0 .free->(X.env.kindOf y=b0 .cell\/X.env.kindOf y=b0 .free)/\∃c,cl.lookup y=b0 c
 own:∀y,scope.names.lookup y=b0 .local->y∉bN xs X.N
 hidn:∀y∈X.N,xs.contains y=b5->scope.names.lookup (oE y)=b3
section
variable{X:Cx}{scope:YH}{cl:List (Str×Addr)}{xs:List Str}
theorem CompOk.kindOf(O:CompOk X scope cl xs)(C:Addr)(y:Str):(ZR scope cl C X.env).kindOf y=(scope.names.lookup y).map λk=>if(k==Yt&&X.env.scope.kind==.function&&X.env.kindOf y==b0 .cell)then YD else k:=
 CF scope.names y
theorem CompOk.outer(O:CompOk X scope cl xs){C:Addr}{y:Str}(h:(ZR scope cl C X.env).kindOf y=b0 .cell\/(ZR scope cl C X.env).kindOf y=b0 .free):scope.names.lookup y=b0 .free:=by
 rw[O.kindOf]at h;cases q:scope.names.lookup y with
 |none=>rw[q]at h;rcases h with h|h<;>cases h
 |some k=>
  rw[q]at h;cases k with
  |free=>rfl|cell=>exact absurd rfl (O.nocell _ (XD q))| «local»=>rcases h with h|h<;>simp at h
  |globalExplicit=>rcases h with h|h<;>simp at h
  |globalImplicit=>rcases h with h|h<;>simp at h
theorem CompOk.inv{a6r:jw}{σ:St}{H:Hp}{s:Wf}{U:List Addr}{d:Xo}{tk:Nat}(O:CompOk X scope cl xs)(I:Inv X a6r σ H s)(B:∀b∈U,gX X a6r H b)(hob:∀b∈U,∃o,s.heap.get? b=b0 o){m:Str->Option Value}
  (hns:d.Ns s.heap.objs.size m)(M:∀b o,s.heap.get? b=b0 o->d.get? b=b0 o) :
  Inv (cL X scope cl s.heap.objs.size (bN xs X.N++xs) s H U) [] (σ++Ym xs.length b3) H {s with heap:=d,toks:=tk}:=by
 refine⟨⟨I.ok.mod,O.kind,I.ok.glob,I.ok.blt,Wh _,λy z c Y A=>?_,λy hy=>?_,(λy c h=>by cases h),I.ok.hd,I.ok.frames,.inl rfl,λb G=>?_,λb o e=>I.bs b o e,W7 I.ok.bsz I.sz,λb o e G=>?_,λb G hb2=>?_,I.stack,I.stkFree⟩,
  rfl,I.bare,Un.kept M,⟨m,hns,λi y v Y A w=>?_⟩,λy c h=>?_,I.hok.fresh (Wh _),λy c h=>I.freeC y c (O.sub y c h),λp hp=>absurd (show p∈([]:jw)from hp) (by simp),I.hok.kept M,?_⟩
 .exact I.ok.inj y z c (O.sub y c Y) (O.sub z c A)
 .exact(O.free y (O.outer hy)).2
 .obtain⟨f0,Q,R,x,T,f5⟩:=B b G;obtain⟨o,L⟩:=hob b G;exact⟨WD (Wm L),λy c h=>T y c (O.sub y c h)⟩
 .obtain⟨f0,Q,R,x,T,f5⟩:=B b G;rcases x with x|x
  .exact I.ok.noex b o e x
  .exact absurd (WT (Wm (I.ok.bs b o e).1) x) (X3 _)
 .obtain⟨f0,Q,R,x,T,f5⟩:=B b G;rcases WW.mp (I.stkSub b hb2)with z|z
  .exact Q z
  .exact R z
 .have K:i<σ.length:=by
   by_cases K:i<σ.length
   .exact K
   .rw[Ye (a0a.mp K),YR]at A;split at A<;>cases A
  rw[W8 K]at A;have J:(bN xs X.N)[i]?=b0 y:=by have n:(bN xs X.N++xs)[i]?=b0 y:=Y;rw[W8 (by rw[mX,<- I.len];exact K)]at n;exact n
  have j:scope.names.lookup y≠b0 .local:=λz=>O.own y z (WS J);have E:=O.kindOf s.heap.objs.size y;have Z:X.N[i]?=b0 y:=by
   obtain⟨y0,q1,N⟩:=Lm J;rcases N with⟨N,q3⟩|⟨N,q3⟩
   .exfalso;have hz:=O.hidn y0 (WS q1) N;rw[<- q3]at hz;rw[hz]at E;have a:(ZR scope cl s.heap.objs.size X.env).kindOf y=b0 .local\/(ZR scope cl s.heap.objs.size X.env).kindOf y=b0 .cell\/(ZR scope cl s.heap.objs.size X.env).kindOf y=b0 .free:=w;rw[E]at a;rcases a with a|a|a<;>cases a
   .rw[q3];exact q1
  have a:(ZR scope cl s.heap.objs.size X.env).kindOf y=b0 .cell\/(ZR scope cl s.heap.objs.size X.env).kindOf y=b0 .free:=by
   rcases w with w|w|w
   .exfalso;have a:(ZR scope cl s.heap.objs.size X.env).kindOf y=b0 .local:=w;rw[E]at a;cases q:scope.names.lookup y with
    |none=>rw[q]at a;cases a|some k=>
     rw[q]at a;cases k with
     | «local»=>exact j q|cell=>simp at a|free=>simp only[WN]at a;split at a<;>cases a|globalExplicit=>simp at a|globalImplicit=>simp at a
   .exact .inl w
   .exact .inr w
  obtain⟨g,c,hc⟩:=O.free y (O.outer a);obtain⟨m0,hn0,hl0⟩:=I.loc;obtain⟨u,r,l⟩:=hl0 i y v Z A (by rcases g with g|g;exact .inr (.inl g);exact .inr (.inr g));refine⟨u,r,.inr ⟨a,c,hc,?_⟩⟩;rcases l with⟨lk,_⟩|⟨_,c',e',z⟩
  .exfalso;rcases g with g|g
   .rw[g]at lk;cases lk
   .rw[g]at lk;cases lk
  .rw[O.sub y c hc]at e';cases e';obtain⟨o,L,hd⟩:=z;exact⟨o,M c o L,hd⟩
 .obtain⟨v,q⟩:=I.cell y c (O.sub y c h);exact⟨v,by obtain⟨o,L,hd⟩:=q;exact⟨o,M c o L,hd⟩⟩
 .show(σ++Ym xs.length b3).length=(bN xs X.N++xs).length;rw[Wo,Wo,I.len,Yz,mX]
theorem CompOk.back{a6r T:jw}{σ K:St}{H i:Hp}{s j:Wf}{k:List Addr}{h':Xo}{N:List Str}(I:Inv X a6r σ H s)(y:∀b∈k,gX X a6r H b)
  (J:Inv (cL X scope cl s.heap.objs.size N s H k) T K i j)(x:∀b o,b≠s.heap.objs.size->j.heap.get? b=b0 o->h'.get? b=b0 o):Inv X a6r σ i {j with heap:=h'}:=by
 have u:Un (iE X.stack) k H i s.heap h':=by
  have h:Un (iE X.stack) k H i s.heap j.heap:=J.base;have ne:∀b o,s.heap.get? b=b0 o->b≠s.heap.objs.size:=λb o e=>WD (Wm e);refine⟨λb o e n l p=>x b o (ne b o e) (h.keep b o e n l p),λb o e n l p=>?_,h.free,λb o e p=>?_,h.tups,h.frzs,h.tbls⟩
  .obtain⟨U,q⟩:=h.slot b o e n l p;exact⟨U,x b _ (ne b o e) q⟩
  .obtain⟨R,q⟩:=h.there b o e p;exact⟨R,x b _ (ne b o e) q⟩
 have a:i s.heap.objs.size=none:=J.free;have A:HOk X.prog X.w i h':=λb v e=>by
  refine(J.hok b v e).stay (λc w hc q=>x c w ?_ q) (λ_ q=>q) λ_ _ q=>q;rcases hc with z|z
  .rw[z];intro G;rw[G,a]at e;cases e
  .intro G;rw[G,a]at z;cases z
 have B:j.os=s.os:=J.os;obtain⟨hh,g,d,t,E⟩:=j;obtain rfl:E=s.os:=B;have r:=Inv.call (X:=X) (a6r:=a6r) (σ:=σ) (H:=H) (s:=s) (h':=h') (g':=g) (d':=d) (t':=t) (ch:=k) I u A J.bare λb l=>let⟨Y,L,Z,M,O,Q⟩:=y b l;⟨M,L,O,Q⟩;exact r
end
theorem Ln{prog:WL}{w:WX}{A:WY}{R:a1h->Wf->Prop}{s:Wf}{elt a iter:Expr}{ifs:List Expr}{scope:YH}{pos:XX}{z acc:Value}{env:a1a}(I:Nat->Wf->Prop)
  (turn:∀n s,I n s->WI (WM prog w) A (Y2 z) (λr d=>match r with
   |none=>R (.ok .next) d
   |some v=>WI (WM prog w) A (a0R a z v) (λ_ e=>WI (WM prog w) A (a1F a env v) (λ_ k=>
     WI (WM prog w) A (forIn ifs b5 λc r=>if r=b5 then do let ok <- a3Q c env (eval c env);pure (Zi ok)else pure (Zi r)) (λok g=>
      if ok=b5 then WI (WM prog w) A (eval elt env) (λx l=>
       WI (WM prog w) A (call (.builtin "list.append") [acc,x]) (λ_ o=>∃m,m<n/\I m o) (λ_ _=>False) l) (λ_ _=>False) g
      else ∃m,m<n/\I m g) (λ_ _=>False) k) (λ_ _=>False) e) (λ_ _=>False) d) (λ_ _=>False) s)
  (n:Nat)(h:I n s) :
  Zq (WM prog w) A (.compLoop (.ListComp elt [⟨a,iter,ifs,0⟩] scope pos) 0 z acc env) R s:=by
 refine codeAny_loop rfl I (λn s B=>?_) n h;show WI _ A ((compTurn (.ListComp elt [⟨a,iter,ifs,0⟩] scope pos) 0 z acc env).onRaise (λx=>do noteFrame x env;theTreesLotGoes x)) _ _ s;refine wpAny_noted ?_;rw[compTurn_list];refine V9 (a3n (V9 (Xz (turn n s B) (λr d i=>?_) λ_ _ b=>b.elim)));cases r with
 |none=>exact Wg i|some v=>
  refine V9 (Xz i (λ_ e p=>?_) λ_ _ b=>b.elim);refine V9 (Xz p (λ_ k q=>V9 (Xz q (λok g j=>?_) λ_ _ b=>b.elim)) λ_ _ b=>b.elim);cases ok with
  |false=>exact Wg ⟨rfl,j⟩|true=>exact V9 (V9 (Xz j (λx l u=>V9 (Xz u (λ_ o y=>Wg (Wg ⟨rfl,y⟩)) λ_ _ b=>b.elim)) λ_ _ b=>b.elim))
noncomputable def oF(b:Hm)(a:Nat)(y:D):Option Hm:=match b[a]? with
 |some (.lst xs)=>if xs.length<Wq then b0 (b.set a (.lst (xs++[y])))else b3|_=>b3
noncomputable abbrev BD:=D->Hm->Option aH
noncomputable def oG:BD:=λd _=>b0 [b0 d]
noncomputable def i9(k:Nat):BD:=λd a=>(bM a d).bind λxs=>if xs.length=k then b0 (xs.map b0)else b3
noncomputable def hJ(a:Hm->Nat->Option (Option D))(h:BD)(c:MT)(e:ME)(b:aH)(g:Nat):Nat->Nat->Hm->Option Hm
 |0,_,_=>b3|n+1,i,μ=>(a μ i).bind λo=>match o with
  |none=>b0 μ|some d=>(h d μ).bind λx=>(c (b++x) μ).bind λp=>match p.1 with
   |true=>(e (b++x) p.2).bind λq=>(oF q.2 g q.1).bind λj=>hJ a h c e b g n (i+1) j|false=>hJ a h c e b g n (i+1) p.2
noncomputable def eI:MT:=λ_ a=>b0 (b5,a)
noncomputable def mY(X:Cx)(ifs:List Expr)(m:MT):Prop:=
 ∀(a6r:jw)(s:Wf)(σ:St)(H:Hp)(Q:Bool->Hp->Prop),Inv X a6r σ H s->tMT X.K m σ H Q->
  WI (WM X.prog X.w) X.A (forIn ifs b5 λc r=>if r=b5 then do let ok <- a3Q c X.env (eval c X.env);pure (Zi ok)else pure (Zi r)) (TP X a6r σ Q) X.xe s
theorem Lo{X:Cx}:mY X [] eI:=by intro a s j H Q I h;obtain⟨e,i,g,b,d,R,E,c,k⟩:=h;cases c;exact wpAny_tests_nil ⟨H,I,k e H .refl R⟩
theorem Lp{X:Cx}{c:Expr}{m:MT}(h:PT X c (tMT X.K m)):mY X [c] m:=λa6r s σ H Q I q=>wpAny_tests_one (h a6r s σ H Q I q)
section
variable{prog:WL}{w:WX}{A:WY}{E:Value->Wf->Prop}{s:Wf}
theorem CG{e t:Addr}{items:Array Value}(h:t≠e):∀(n i:Nat)(s:Wf)(Q:gw->Wf->Prop),s.heap.IsListIter e t i->s.heap.IsList t items->i+n<=items.size->
  (∀k,k.IsListIter e t (i+n)->YU e s.heap k->Q ((items.toList.drop i).take n) {s with heap:=k})->WI (WM prog w) A (draw (.ref e) n) Q E s
 |0,i,s,Q,hit,_,_,hQ=>by show WI _ _ (pure []) Q E s;exact Wg (by simpa using hQ s.heap hit (a2n ..))
 |n+1,i,s,Q,hit,ht,hle,hQ=>by
  have g:i<items.size:=by lia
  show WI _ _ (Y2 (.ref e) >>= _) Q E s;refine V9 (a3I hit ht (x:=items[i]) (by simp[g]) λl b a=>?_);refine V9 (Xb (CG h n (i+1) _ _ b (ht.extBut a.extBut h) (by lia) λj c d=>Wg ?_));have hd:items.toList.drop i=items[i]::items.toList.drop (i+1):=by simp[YE,g]
  have:=hQ j (by rw[show i+(n+1)=i+1+n by lia];exact c) (a.trans d);rw[hd,List.take_succ_cons]at this;exact this
theorem Lq{t:Addr}{items:Array Value}{Q:gw->Wf->Prop}(r:A.handled=b3)(j:s.heap.IsList t items)
  (q:∀n,a0J s.heap.objs.size s.heap n->Q items.toList {s with heap:=n}):WI (WM prog w) A (unpackItems (.ref t) items.size b3) Q E s:=by
 have i:t≠s.heap.objs.size:=by obtain⟨o,u,_⟩:=j;exact WD (Wm u)
 unfold unpackItems;refine V9 ?_
 .unfold notIterableAtAll;refine V9 (a0O j.typeIs slot_list_iter.lookup ?_);refine Wg ?_;simp only[WQ,if_false];refine V9 (Xb (a0p j ?_));refine V9 (Xb (CG i items.size 0 _ _ ⟨_,Wn _ rfl,rfl,rfl⟩ (j.push _) (by lia) λk c a=>?_));have h:List.take items.size (List.drop 0 items.toList)=items.toList:=by rw[a0I];exact ZK (by simp)
  rw[h];rw[if_neg (by simp)];have g:k.IsList t items:=(j.push _).extBut a.extBut i;refine V9 (Xb (a4i r c g (by simp) λl d=>?_));simp only[Option.isSome_none,WQ,if_false];refine Wg (q l λb o p e=>d b o p (a.extBut b o p (Wc _ e)))
theorem Lr{env:a1a}{a:List Expr} {x1} {pos:XX}{t:Addr}{items:Array Value}{Q:Unit->Wf->Prop}(d:A.handled=b3)(g:s.heap.IsList t items)
  (e:(Yv a env).length=items.size)(b:(Yv a env).findIdx? (·.1)=b3)
  (h:∀c,a0J s.heap.objs.size s.heap c->WI (WM prog w) A (assignInOrder ((Yv a env).map (·.2)) items.toList) Q E {s with heap:=c}) :
  WI (WM prog w) A (a1F (.Tuple a x1 pos) env (.ref t)) Q E s:=by
 rw[a5T];refine V9 (a3n ?_);unfold unpack;rw[e,b];exact V9 (Xb (Lq d g h))
end
noncomputable def mZ:aH->List Nat->List D->aH
 |ρ,i::is,x::xs=>mZ (ρ.set i (b0 x)) is xs|ρ,_,_=>ρ
noncomputable def d9(a:List Nat):MG:=λd c b=>(bM b d).bind λxs=>if xs.length=a.length then b0 (mZ c a xs)else b3
noncomputable def sW:List Nat->nZ
 |[]=>Bq|i::r=>Br (vY i) (sW r)
theorem xI{K:V8}{π:Nat->Addr}{n:Nat}{H:Hp}:∀(a:List Nat){vs:gz}{xs:List D}{σ:St}{c:aH}{Q:St->Hp->Prop},IsDs K π n H vs xs->En K π n H σ c->xs.length=a.length->(∀b,En K π n H b (mZ c a xs)->Q b H)->sW a vs σ H Q
 |[],vs,xs,σ,c,Q,h,E,hl,k=>by
  cases h with
  |nil=>exact⟨rfl,k σ E⟩|cons h t=>cases hl
 |i::a,vs,xs,σ,c,Q,h,E,hl,k=>by
  cases h with
  |nil=>cases hl|cons h t=>exact⟨_,_,rfl,xI a t (E.set h i) (by simpa using hl) k⟩
section
variable{X:Cx}{pos:XX}
theorem Ls{es:List Expr}{k:Nat}{l:List Nat}(hc:X.calm=b5)(h:pM X es (sW l))(M:(Yv es X.env).length=l.length:=by rfl)(w:(Yv es X.env).findIdx? (·.1)=none:=by rfl) :
  PG X (.Tuple es k pos) (tMG X.K (d9 l)):=by
 intro i s z H v u Q I r hw;obtain⟨T,ρ,O,d,ρ',R,E,hd,Z,N⟩:=hw;obtain⟨L,j,G⟩:=V6.mp Z;split at G
 .rename_i y;cases G;have p:(∃a g,v=.ref a/\SqT X.K H a g/\IsDs X.K T O.length H g L)\/(∃a g,v=.ref a/\SqL X.K H a g/\IsDs X.K T O.length H g L):=by
   cases hd with
   |tup q t=>cases j;exact .inl ⟨_,_,rfl,q,t⟩|rol q t=>cases j;exact .inr ⟨_,_,rfl,q.sq,t⟩|@loc a ha=>
    simp only[bM]at j;split at j
    .rename_i ys hy;cases j;obtain⟨g,U,Y⟩:=R.lst a L hy;exact .inr ⟨_,g,rfl,.of U,Y⟩
    .cases j
   |_=>cases j
  rcases p with⟨a,g,rfl,q,t⟩|⟨a,g,rfl,q,t⟩
  .cases r;obtain⟨n,x,J,hz⟩:=I.tuple q;have c:n.length=l.length:=by rw[<- x.length,t.length];exact y
   refine a5S (I.ok.hd hc) J (by simp[M,c]) w λB K=>?_;have A:Inv X i z H {s with heap:=B}:=I.kept (t':=s.toks) λb o e=>K b o (WD (Wm e)) e;exact h i _ z H g _ Q A (by simpa using x) (xI l t E y N)
  .cases r;obtain⟨n,x,J,hz⟩:=I.list q;have c:n.length=l.length:=by rw[<- x.length,t.length];exact y
   refine Lr (I.ok.hd hc) J.isList (by simp[M,c]) w λB K=>?_;have A:Inv X i z H {s with heap:=B}:=I.kept (t':=s.toks) λb o e=>K b o (WD (Wm e)) e;exact h i _ z H g _ Q A (by simpa using x) (xI l t E y N)
 .cases G
noncomputable def hV(m:ME)(g:MG):MS:=λb c=>(m b c).bind λp=>(g p.1 b p.2).map λa=>(.nx,a,p.2)
theorem Lu{tg e:Expr}{m:ME}{g:MG}(q:PE X e (tM X.K m))(r:PG X tg (tMG X.K g))(s:swapsWithSole [tg] e pos.line X.env=pure false:=by rfl)(hw:a3p [tg] e X.env=pure none:=by rfl)
  (h1:(Yv [tg] X.env).map (·.2)=[a1F tg X.env]:=by rfl):PS X (.Assign [tg] e pos) (tMS X.K (hV m g)):=i5 (Ip q r s hw h1) (by
 rintro E I H ⟨y,l,v,B,z,w,R,h,a,k⟩;obtain⟨⟨x,c⟩,h1,a⟩:=V6.mp a;obtain⟨A,p,a⟩:=Wb.mp a;cases a;exact⟨y,l,v,x,c,R,h,h1,λb G o j i u=>⟨b,l,_,x,_,i,h.mono j,u,p,λd n=>k b d o j i n⟩⟩)
end
section
variable{X:Cx}{K:V8}
noncomputable def pW:MF:=λds a=>match ds with
 |[.str z]=>if z.length<=Wq then b0 (.int z.length,a)else b3|[x]=>(bM a x).map λb=>(.int b.length,a)|_=>b3
noncomputable def xJ(K:V8):gz->Hp->VK->Prop:=λxs H Q=>(∃p a,xs=[.ref p]/\(SqL K H p a\/SqT K H p a)/\Q (.int a.length) H)\/(∃z,xs=[.str z]/\z.length<=Wq/\Q (.int z.length) H)
theorem call_lenM:CallR X (.builtin "len") (xJ X.K):=call_len_seq.or JM
theorem m3{π:Nat->Addr}{b:Hm}{H:Hp}{v:V}{x:D}{xs:List D}(R:Rp K π H b)(h:IsD K π b.length H v x)(e:bM b x=b0 xs):∃p vs,v=.ref p/\(SqL K H p vs\/SqT K H p vs)/\IsDs K π b.length H vs xs:=by
 cases h with
 |tup q t=>cases e;exact⟨_,_,rfl,.inr q,t⟩|rol q t=>cases e;exact⟨_,_,rfl,.inl q.sq,t⟩|@loc a i=>
  simp only[bM]at e;split at e
  .rename_i j g;cases e;obtain⟨vs,c,d⟩:=R.lst a xs g;exact⟨_,vs,rfl,.inl (.of c),d⟩
  .cases e
 |_=>cases e
theorem CH:dP K pW (xJ K):=by
 intro b H r n d j l Q R i a k;unfold pW at a;split at a
 .split at a
  .rename_i g;cases a;cases i with
   |cons i t=>cases i;cases t;exact .inr ⟨_,rfl,g,k b _ H .refl R (.int _)⟩
  .cases a
 .obtain⟨o,c,e⟩:=Wb.mp a;cases e;cases i with
  |cons i t=>cases t;obtain⟨p,h,rfl,q,hd⟩:=m3 R i c;refine .inl ⟨p,h,rfl,q,?_⟩;rw[hd.length];exact k b _ H .refl R (.int _)
 .cases a
noncomputable def lQ:MF:=λds a=>match ds with
 |[.int i]=>b0 (.int i,a)|[.bl b]=>b0 (.int (if b then 1 else 0),a)|_=>b3
theorem Lv:dP K lQ (λxs H Q=>(∃i,xs=[.int i]/\Q (.int i) H)\/∃k,xs=[.bl k]/\Q (.int (if k then 1 else 0)) H):=by
 intro b H g xs d c e Q R i a k;unfold lQ at a;split at a
 .cases a;cases i with
  |cons i t=>cases i;cases t;exact .inl ⟨_,rfl,k b _ H .refl R (.int _)⟩
 .cases a;cases i with
  |cons i t=>cases i;cases t;exact .inr ⟨_,rfl,k b _ H .refl R (.int _)⟩
 .cases a
noncomputable def pX:MF:=λds a=>match ds with
 |[x]=>(bM a x).map λb=>(.loc a.length,a++[.lst b])|_=>b3
theorem CI:dP K pX (λxs H Q=>∃p a,xs=[.ref p]/\(SqL K H p a\/SqT K H p a)/\∀l,H l=b3->Q (.ref l) (aK H l (.lst a))):=by
 intro s H r xs d n o Q R i b k;unfold pX at b;split at b
 .obtain⟨a,g,h⟩:=Wb.mp b;cases h;cases i with
  |cons i t=>cases t;obtain⟨p,c,rfl,q,hd⟩:=m3 R i g;refine⟨p,c,rfl,q,λl j=>?_⟩;obtain⟨e,R2,_⟩:=R.alloc (c:=.lst a) (o:=.lst c) j hd;exact k _ _ _ e R2 jT
 .cases b
noncomputable def CJ(K:V8):gz->Hp->VK->Prop:=λvs H Q=>∃π a x v t c b,vs=[v,.ty c]/\Rp K π H a/\IsD K π a.length H v x/\sU a x=b0 t/\sV t c=b0 b/\Q (.bl b) H
theorem Lx:dP K fG (CJ K):=by
 intro c H q p d n o Q R i a k;unfold fG at a;split at a
 .obtain⟨t,e,a⟩:=V6.mp a;obtain⟨b,g,a⟩:=Wb.mp a;cases a;cases i with
  |cons i j=>
   cases j with
   |cons h l=>cases l;cases h;exact⟨c,_,_,_,t,_,b,rfl,R,i,e,g,k c _ H .refl R (.bl _)⟩
 .cases a
theorem Lz:CallR X (.builtin "isinstance") (CJ X.K):=by
 intro J s σ H O us Q I r h;obtain⟨M,μ,x,v,t,c,b,rfl,R,i,d,k,q⟩:=h;obtain⟨u,u2,rfl,w,Y⟩:=pQ r;cases Y;have fin:∀L,EP X J σ Q (.bool b) {s with toks:=L}:=λL=>⟨.bl b,H,I.tok L,rfl,q⟩;cases i with
 |non=>cases d;cases w;exact Yq PySem.W.kitx_none I.kIn Zb (kP X.K (by simp) k) (λz=>nomatch z) fin|bl y=>cases d;cases w;exact Yq PySem.W.kitx_bool I.kIn Zb (kP X.K (by simp) k) (λz=>nomatch z) fin|int y=>cases d;obtain⟨t,rfl⟩:=w;exact Yq PySem.W.kitx_int I.kIn Zb (kP X.K (by simp) k) (λz=>nomatch z) fin|str y=>cases d;obtain⟨t,rfl⟩:=w;exact Yq PySem.W.kitx_str I.kIn Zb (kP X.K (by simp) k) (λz=>nomatch z) fin|tup g t=>cases d;cases w;obtain⟨E,N,p,_⟩:=I.tuple g;obtain⟨o,e,j,_⟩:=p;exact Yq PySem.W.kitx_tuple I.kIn ⟨o,e,j⟩ (kP X.K (by simp) k) (λz=>nomatch z) fin|rol g t=>cases d;cases w;obtain⟨E,N,p,_⟩:=I.list g.sq;obtain⟨o,e,j,_⟩:=p.isList;exact Yq a3d I.kIn ⟨o,e,j⟩ (kP X.K (by simp) k) (λz=>nomatch z) fin|@loc a ha=>
  cases w;simp only[sU]at d;split at d
  .rename_i O B;cases d;obtain⟨G,A,h4⟩:=R.lst a O B;obtain⟨E,N,p,_⟩:=I.list (SqL.of (K:=X.K) A);obtain⟨o,e,j,_⟩:=p.isList;exact Yq a3d I.kIn ⟨o,e,j⟩ (kP X.K (by simp) k) (λz=>nomatch z) fin
  .rename_i l B;cases d;obtain⟨G,A,_⟩:=R.dK a l B;obtain⟨_,_,Z,_,p⟩:=(show ObjOk X.prog X.w H s.heap (M a) (.dK G)from I.hok _ _ A);obtain⟨o,U,T,e,j,_⟩:=p;exact Yq a3e I.kIn ⟨o,e,j.1⟩ (kP X.K (by simp) k) (λz=>nomatch z) fin
  .rename_i l B;cases d;obtain⟨G,A,_⟩:=R.dT a l B;obtain⟨⟨Z,_,_,_,o,U,T,e,j,_⟩,_⟩:=(show ObjOk X.prog X.w H s.heap (M a) (aS (M a) G)from I.hok _ _ A);exact Yq a3e I.kIn ⟨o,e,j.1⟩ (kP X.K (by simp) k) (λz=>nomatch z) fin
  .cases d
 |ty n=>cases d
end
noncomputable def sX:D->Option bG
 |.int i=>b0 (.inl i)|.str x=>b0 (.inr x)|_=>b3
noncomputable def iM(kvs:List (bG×D))(k:bG):Option D:=(kvs.find? λa=>decide (a.1=k)).map (·.2)
inductive IsKs (K:V8)(π:Nat->Addr)(n:Nat)(H:Hp):List (bG×V)->List (bG×D)->Prop where
 |nil:IsKs K π n H [] []
 |cons {k:bG}{v:V}{d:D}{vs:List (bG×V)}{ds:List (bG×D)}(h:IsD K π n H v d)(t:IsKs K π n H vs ds):IsKs K π n H ((k,v)::vs) ((k,d)::ds)
section
variable{K:V8}{π π':Nat->Addr}{n n':Nat}{H H':Hp}
theorem IsKs.val{vs:List (bG×V)}{ds:List (bG×D)}(h:IsKs K π n H vs ds)(k:bG):(iM ds k=b3/\iG vs k=b3)\/∃v d,iM ds k=b0 d/\iG vs k=b0 v/\IsD K π n H v d:=by
 induction h with
 |nil=>exact .inl ⟨rfl,rfl⟩|@cons a c b vs ds h t j=>
  by_cases e:a=k
  .exact .inr ⟨c,b,by simp[iM,Xr,e],by simp[iG,Xr,e],h⟩
  .have g:iM ((a,b)::ds) k=iM ds k:=by simp[iM,Xr,e]
   have i:iG ((a,c)::vs) k=iG vs k:=by simp[iG,Xr,e]
   rw[g,i];exact j
theorem IsKs.length{vs:List (bG×V)}{ds:List (bG×D)}(h:IsKs K π n H vs ds):vs.length=ds.length:=by
 induction h with
 |nil=>rfl|cons h t a=>rw[WO,WO,a]
theorem CK{y:V}{d:D}{k:bG}(h:IsD K π n H y d)(e:sX d=b0 k):y=kV k:=by cases h<;>first|cases e;done|(cases e;rfl)
end
noncomputable def LA(K:V8)(a:List (ME×ME)):List (TE×TE):=a.map λp=>(tM K p.1,tM K p.2)
section
variable{X:Cx}{a b c:Expr}{ma mb mc:ME}{pos:XX}
end
theorem fX{k:Nat}{A:WY}(r:Room k A):A.units+1<XM:=by have:=r.un;lia
noncomputable def eY(a:ME):ME:=λc b=>(a c b).bind λp=>(xC p.1).map λd=>(d,p.2)
noncomputable def gG(cells:List (Str×Addr)):List (Str×YL)->List (Str×Addr)->List (Str×Addr)
 |[],acc=>acc|(n,k)::r,acc=>if k=.free then(match cells.lookup n with|some c=>gG cells r ((n,c)::acc)|none=>gG cells r acc)else gG cells r acc
theorem CL{env:a1a}:∀(names:List (Str×YL))(acc:List (Str×Addr)),(∀y∈names,y.2=.free->∃c,env.cells.lookup y.1=b0 c)->
  (forIn names acc λ(x:Str×YL)(b:List (Str×Addr))=>(do
   if x.2==.free then(do let c <- cellOf env x.1;pure (Zi ((x.1,c)::b)))else pure (Zi b):a5H (ForInStep (List (Str×Addr)))))=pure (gG env.cells names acc)
 |[],acc,_=>rfl|(n,k)::r,acc,h=>by
  have d:=λacc=>CL r acc λy g=>h y (WV _ g);rw[a4A];by_cases a:k=.free
  .subst a;obtain⟨c,hc⟩:=h (n,.free) (Xd ..) rfl;dsimp only at hc;have e:cellOf env n=pure c:=by unfold cellOf;rw[hc]
   simp only[gG,hc,e,beq_self_eq_true,if_true,pure_bind];exact d _
  .have e:(k==Yt)=false:=by simpa using a
   simp only[gG,e,a,if_false,WQ,pure_bind];exact d _
theorem LB{scope:YH}{env:a1a}(h:∀y∈scope.names,y.2=.free->∃c,env.cells.lookup y.1=b0 c):a4R scope env=pure (gG env.cells scope.names []):=by have:=CL (env:=env) scope.names [] h;unfold a4R;simp only[bind_pure]at *;exact this
theorem sY{cells:List (Str×Addr)}:∀(names:List (Str×YL))(acc:List (Str×Addr)),(∀y c,acc.lookup y=b0 c->cells.lookup y=b0 c)->∀y c,(gG cells names acc).lookup y=b0 c->cells.lookup y=b0 c
 |[],acc,h=>h|(n,k)::r,acc,h=>by
  unfold gG;split
  .split
   .rename_i b hc;refine sY r _ λy c e=>?_;rw[ZP]at e;by_cases a:y=n
    .subst a;simp only[beq_self_eq_true]at e;cases e;exact hc
    .have:(y==n)=false:=by simpa using a
     rw[this]at e;exact h y c e
   .exact sY r acc h
  .exact sY r acc h
theorem sZ{cells:List (Str×Addr)}:∀(names:List (Str×YL))(acc:List (Str×Addr))(y:Str),(∃c,acc.lookup y=b0 c)->∃c,(gG cells names acc).lookup y=b0 c
 |[],acc,y,h=>h|(n,k)::r,acc,y,h=>by
  unfold gG;split
  .split
   .refine sZ r _ y ?_;rw[ZP];by_cases a:(y==n)=b5
    .rw[a];exact⟨_,rfl⟩
    .have:(y==n)=false:=by simpa using a
     rw[this];exact h
   .exact sZ r acc y h
  .exact sZ r acc y h
theorem tB{cells:List (Str×Addr)}:∀(names:List (Str×YL))(acc:List (Str×Addr))(y:Str),(y,Yt)∈names->(∃c,cells.lookup y=b0 c)->∃c,(gG cells names acc).lookup y=b0 c
 |[],acc,y,h,_=>by cases h
 |(n,k)::r,acc,y,h,hc=>by
  unfold gG;rcases WW.mp h with h|h
  .cases h;obtain⟨c,hc⟩:=hc;rw[if_pos rfl,hc];exact sZ r _ _ ⟨c,by simp[ZP]⟩
  .split
   .split
    .exact tB r _ y h hc
    .exact tB r _ y h hc
   .exact tB r _ y h hc
structure CompSt(osc:YH)(N:List Str)(scope:YH)(xs:List Str):Prop where
 nocell:∀y∈scope.names,y.2≠.cell
 kind:scope.kind=.function
 names:∀y∈scope.names,y.2=.local->scope.names.lookup y.1=b0 .local
 here:∀x∈xs,scope.names.lookup x=b0 .local
 free:∀y∈scope.names,y.2=.free->osc.names.lookup y.1=b0 .cell\/osc.names.lookup y.1=b0 .free
 own:∀y∈scope.names,y.2=.local->y.1∉bN xs N
 nd:N.Nodup
 hnd:(bN xs N).Nodup
 hidn:∀y∈N,xs.contains y=b5->scope.names.lookup (oE y)=b3
theorem CompSt.ok{X:Cx}{scope:YH}{xs:List Str}(S:CompSt X.env.scope X.N scope xs)(ok:X.Ok):CompOk X scope (gG X.env.cells scope.names []) xs:=by
 have has:∀y∈scope.names,y.2=.free->∃c,X.env.cells.lookup y.1=b0 c:=λy d b=>ok.has y.1 (S.free y d b);refine⟨LB has,S.nocell,S.kind,S.names,S.here,sY scope.names [] (λy c e=>by cases e),λy e=>?_,λy e=>?_,S.hidn⟩
 .have a:=XD e;exact⟨S.free _ a rfl,tB scope.names [] y a (has _ a rfl)⟩
 .exact S.own _ (XD e) rfl
section
variable{X:Cx}{pos:XX}
end
noncomputable def dR(e:Expr):Bool:=!(e.ctorIdx==22)
theorem fQ{e:Expr}{es:List Expr}{env:a1a}(h:dR e=b5):WU (e::es) env=(b4,eval e env)::WU es env:=by cases e<;>first|rfl|cases h
theorem lR{pos:XX}{env:a1a}:∀{es:List Expr},es.all dR=b5->(YG pos (WU es env)).any (·.1)=b4
 |[],_=>rfl|e::es,h=>by rw[W3,Wl]at h;rw[fQ h.1];have:=lR (pos:=pos) (env:=env) h.2;simpa[YG]using this
theorem tD{e:Expr}{es:List Expr}{env:a1a}(h:dR e=b5):Yv (e::es) env=(b4,a1F e env)::Yv es env:=by cases e<;>first|rfl|cases h
theorem CM{env:a1a}:∀{es:List Expr},es.all dR=b5->(Yv es env).length=es.length
 |[],_=>rfl|e::es,h=>by rw[W3,Wl]at h;rw[tD h.1,WO,WO,CM h.2]
theorem CN{env:a1a}:∀{es:List Expr},es.all dR=b5->(Yv es env).findIdx? (·.1)=b3
 |[],_=>rfl|e::es,h=>by rw[W3,Wl]at h;rw[tD h.1,List.findIdx?_cons,CN h.2];rfl
section
variable{X:Cx}{e a b c:Expr}{es:List Expr}{m:ME}{ms:MA}{pos:XX}
end
structure QE(X:Cx)(e:Expr)(m:ME):Prop where
 h:PE X e (tM X.K m)
structure QT(X:Cx)(e:Expr)(m:MT):Prop where
 h:PT X e (tMT X.K m)
structure QW(X:Cx)(e:Expr)(m:MT):Prop where
 h:PW X e (tMT X.K m)
structure QA(X:Cx)(es:List Expr)(m:MA)(n:Nat):Prop where
 h:PA X es (tMA X.K m)
 l:∀ρ μ ds μ',m ρ μ=b0 (ds,μ')->ds.length=n
 s:es.all dR=b5
structure QO(X:Cx)(e:Option Expr)(m:MO):Prop where
 h:PO X e (tMO X.K m)
structure QS(X:Cx)(st:Stmt)(m:MS):Prop where
 h:PS X st (tMS X.K m)
structure QB(X:Cx)(st:List Stmt)(m:MS):Prop where
 h:PSs X st (tMS X.K m)
structure QG(X:Cx)(e:Expr)(g:MG):Prop where
 h:PG X e (tMG X.K g)
structure QGs(X:Cx)(es:List Expr)(is:List Nat):Prop where
 h:pM X es (sW is)
 n:es.length=is.length
 s:es.all dR=b5
structure QI(X:Cx)(ifs:List Expr)(m:MT):Prop where
 h:mY X ifs m
structure QP(X:Cx)(pos:XX)(keys:List (Option Expr))(values:List Expr)(prs:List (ME×ME)):Prop where
 h:Jo X pos keys values (LA X.K prs)
 a:keys.all (·.isSome)=b5
 l:keys.length=values.length
section
variable{X:Cx}{e a b c:Expr}{m ma mb mc:ME}{pos:XX}{mt mu:MT}{bZ es:List Expr}{ms:MA}{n:Nat}
theorem LC{x:Str}(i:Nat)(g:X.N[i]?=b0 x:=by rfl)(h:mR X.env.scope x:=by first|exact a2t rfl|exact a1k (a2t rfl)|exact a1k (a1k rfl))(hd:(x==("__debug__":Str))=false:=by decide)
  (d:(x==("__classdict__":Str))=false:=by decide):QE X (.Name x pos) (aA i):=⟨Kb i (Bm g h hd d)⟩
theorem LF{i:Int}{j:Nat}:QE X (.Constant (.int i) j pos) (mC (.int i)):=⟨Kc⟩
theorem LG{i:Bool}{j:Nat}:QE X (.Constant (.bool i) j pos) (mC (.bl i)):=⟨Kd⟩
theorem LH{i:Str}{j:Nat}:QE X (.Constant (.str i) j pos) (mC (.str i)):=⟨Ke⟩
theorem LI{j:Nat}:QE X (.Constant .none j pos) (mC .non):=⟨Kf⟩
theorem pY{op:a2U}{r:R2}{f:D->D->Hm->jk}(i:OpR X (ZE op) r)(h:dA X.K f r)(d:QE X a ma)(g:QE X b mb):QE X (.BinOp a op b pos) (aC f ma mb):=⟨Kg i h d.h g.h⟩
theorem LJ(d:QE X a ma)(g:QE X b mb):QE X (.BinOp a .Add b pos) (aC bI ma mb):=pY Le Lf d g
theorem LK(d:QE X a ma)(g:QE X b mb):QE X (.BinOp a .Sub b pos) (aC cQ ma mb):=pY IJ K8 d g
theorem LL(d:QE X a ma)(g:QE X b mb):QE X (.BinOp a .Mult b pos) (aC cF ma mb):=pY K6 La d g
theorem LM(d:QE X a ma)(g:QE X b mb):QE X (.BinOp a .FloorDiv b pos) (aC dB ma mb):=pY K7 Lb d g
theorem LN(d:QE X a ma)(g:QE X b mb):QE X (.BinOp a .Mod b pos) (aC aV ma mb):=pY IK Lc d g
theorem LO(d:QE X a ma):QE X (.UnaryOp .USub a pos) (eY ma):=⟨Lg d.h⟩
theorem LP(d:QE X a ma):QE X (.UnaryOp .Not a pos) (lO ma):=⟨Kq d.h⟩
theorem LQ{k:Nat}(h:Room k X.A)(d:QE X a ma)(g:QE X b mb):QE X (.Compare a [.Eq] [b] pos) (aC (aT b4) ma mb):=⟨fM (Cz (sT h)) sS d.h g.h (eH _)⟩
theorem LR{k:Nat}(h:Room k X.A)(d:QE X a ma)(g:QE X b mb):QE X (.Compare a [.NotEq] [b] pos) (aC (aT b5) ma mb):=⟨fM (CA (sT h)) sS d.h g.h (eH _)⟩
theorem LS(d:QE X a ma)(g:QE X b mb):QE X (.Compare a [.Lt] [b] pos) (aC dQ ma mb):=⟨fM wC iL d.h g.h (eH _)⟩
theorem LU(d:QE X a ma)(g:QE X b mb):QE X (.Compare a [.LtE] [b] pos) (aC oD ma mb):=⟨fM wD iL d.h g.h (eH _)⟩
theorem LV(d:QE X a ma)(g:QE X b mb):QE X (.Compare a [.Gt] [b] pos) (aC kN ma mb):=⟨fM wF iL d.h g.h (eH _)⟩
theorem LW(d:QE X a ma)(g:QE X b mb):QE X (.Compare a [.GtE] [b] pos) (aC pV ma mb):=⟨fM wG iL d.h g.h (eH _)⟩
noncomputable def fY(e:Expr):Bool:=!(e.ctorIdx==7)
theorem iN{op:ZH}{b:Expr}(h:fY b=b5):Za op b=false:=by cases b<;>first|rfl|cases h
theorem LX{op:BoolOp}(h:QE X a m):QE X (.BoolOp op [a] pos) m:=⟨Km h.h⟩
theorem LY(d:QE X a ma)(g:QE X (.BoolOp .And (b::bZ) pos) mb):QE X (.BoolOp .And (a::b::bZ) pos) (dZ ma mb):=⟨Kn d.h g.h⟩
theorem LZ(d:QE X a ma)(g:QE X (.BoolOp .Or (b::bZ) pos) mb):QE X (.BoolOp .Or (a::b::bZ) pos) (wX ma mb):=⟨Ko d.h g.h⟩
theorem L0(hc:QT X c mt)(d:QE X a ma)(g:QE X b mb):QE X (.IfExp c a b pos) (gZ mt ma mb):=⟨Kr hc.h d.h g.h⟩
theorem L1:QA X [] aD 0:=⟨Ks,Ky,rfl⟩
theorem L4(g:QE X e m)(d:QA X es ms n)(h:dR e=true:=by rfl):QA X (e::es) (aB m ms) (n+1):=⟨Kt g.h d.h (fQ h),Kz d.l,by rw[W3,h,d.s];rfl⟩
theorem L5{d:Nat}(h:QA X es ms n):QE X (.Tuple es d pos) (aX ms):=⟨Ku h.h⟩
theorem L6(h:QA X es ms n):QE X (.List es pos) (b6 ms):=⟨Kv h.h⟩
noncomputable def m5(e:Expr):Bool:=!(e.ctorIdx==26)
theorem xK{b:Expr}(h:m5 b=b5):wO b:=by intro o i;cases b<;>first|rfl|cases h
theorem L7(d:QE X a ma)(g:QE X b mb)(h:m5 b=true:=by rfl):QE X (.Subscript a b pos) (aC hG ma mb):=⟨KJ d.h g.h (xK h)⟩
theorem L8:QO X b3 kM:=⟨KL⟩
theorem L9(h:QE X e m):QO X (b0 e) (jS m):=⟨KN h.h⟩
theorem Ma{lo d:Option Expr}{h g:MO}{l:XX}(i:QE X a ma)(j:QO X lo h)(k:QO X d g):QE X (.Subscript a (.Slice lo d b3 l) pos) (mW ma h g):=⟨KP i.h j.h k.h⟩
theorem Mb{k:Nat}{f:Addr}{i:YI}{ps:List Str}{j:MF}{x:Str}{p:XX}(F:FnOk X.prog X.w X.K X.mg X.base fW k f i ps (i0 X.K n j))(s:Room k X.A)(r:X.mg x=b0 (.ref f))
  (q:X8 X.K (.ref f)=b5)(l:Binds X.K i ps [])(d:QA X (e::es) ms n)(o:Gl X x:=by rfl)(g:(x==("__debug__":Str))=false:=by decide):QE X (.Call (.Name x p) (e::es) [] pos) (aF j ms):=by
 have h:=d.s;rw[W3,Wl]at h;exact⟨KA F s o r q l d.h d.l g (fQ h.1) (lR h.2)⟩
theorem Mc{f:MF}{r:gz->Hp->VK->Prop}{id:String}{x:Str}{p:XX}(hc:CallR X (.builtin id) r)(i:dP X.K f r)(k:X.mg x=b3)(o:X0 x=b0 (.builtin id))(h:QA X (e::es) ms n)
  (j:Gl X x:=by rfl)(l:x ≠ "__name__":=by decide) (d:(x==("__debug__":Str))=false:=by decide):QE X (.Call (.Name x p) (e::es) [] pos) (aF f ms):=by
 have g:=h.s;rw[W3,Wl]at g;exact⟨KG hc i j k o h.h l d (fQ g.1) (lR g.2)⟩
theorem Md{f:MF}{r:gz->Hp->VK->Prop}{T:String}{x:Str}{p:XX}(hc:CallR X (.type T) r)(i:dP X.K f r)(k:X.mg x=b3)(o:X0 x=b0 (.type T))(h:QA X (e::es) ms n)
  (j:Gl X x:=by rfl)(l:x ≠ "__name__":=by decide) (d:(x==("__debug__":Str))=false:=by decide):QE X (.Call (.Name x p) (e::es) [] pos) (aF f ms):=by
 have g:=h.s;rw[W3,Wl]at g;exact⟨KH hc i j k o h.h l d (fQ g.1) (lR g.2)⟩
theorem Me{x:Str}{n:String}(g:X.mg x=b3)(i:X0 x=b0 (.type n))(d:Gl X x:=by rfl)(h:x ≠ "__name__":=by decide) (hd:(x==("__debug__":Str))=false:=by decide):QE X (.Name x pos) (mC (.ty n)):=⟨Lh d g i h hd⟩
theorem Mf{k:Nat}(h:Room k X.A)(d:QE X a ma)(g:QE X b mb):QT X (.Compare a [.Eq] [b] pos) (aQ (aC (aT b4) ma mb)):=⟨fN (Cz (sT h)) sS d.h g.h (eH _)⟩
theorem Mg{k:Nat}(h:Room k X.A)(d:QE X a ma)(g:QE X b mb):QT X (.Compare a [.NotEq] [b] pos) (aQ (aC (aT b5) ma mb)):=⟨fN (CA (sT h)) sS d.h g.h (eH _)⟩
theorem Mh(d:QE X a ma)(g:QE X b mb):QT X (.Compare a [.Lt] [b] pos) (aQ (aC dQ ma mb)):=⟨fN wC iL d.h g.h (eH _)⟩
theorem Mi(d:QE X a ma)(g:QE X b mb):QT X (.Compare a [.LtE] [b] pos) (aQ (aC oD ma mb)):=⟨fN wD iL d.h g.h (eH _)⟩
theorem Mj(d:QE X a ma)(g:QE X b mb):QT X (.Compare a [.Gt] [b] pos) (aQ (aC kN ma mb)):=⟨fN wF iL d.h g.h (eH _)⟩
theorem Ml(d:QE X a ma)(g:QE X b mb):QT X (.Compare a [.GtE] [b] pos) (aQ (aC pV ma mb)):=⟨fN wG iL d.h g.h (eH _)⟩
noncomputable def xM:Expr->Bool
 |.UnaryOp .Not ..=>b4|.BoolOp ..=>b4|.IfExp ..=>b4|.Compare ..=>b4|_=>b5
theorem Mm{e:Expr}{env:a1a}(h:xM e=b5):∀d,a3Q e env d=(do let v <- d;standAt e.pos;holding [v] (truthy v)):=by
 intro d;cases e<;>first|rfl|cases h|skip
 rename_i g x p;cases g<;>first|rfl|cases h
theorem Mn(d:QT X a mt):QT X (.UnaryOp .Not a pos) (eX mt):=⟨Kl d.h⟩
theorem Mo(d:QT X a mt):QW X (.BoolOp .And [a] pos) mt:=⟨Kh d.h⟩
theorem Mp(d:QT X a mt):QW X (.BoolOp .Or [a] pos) mt:=⟨Ki d.h⟩
theorem Mq(d:QT X a mt)(g:QW X (.BoolOp .And (b::bZ) pos) mu):QW X (.BoolOp .And (a::b::bZ) pos) (fP mt mu):=⟨Kj d.h g.h⟩
theorem Mr(d:QT X a mt)(g:QW X (.BoolOp .Or (b::bZ) pos) mu):QW X (.BoolOp .Or (a::b::bZ) pos) (gC mt mu):=⟨Kk d.h g.h⟩
theorem Ms(h:QW X e mt):QT X e mt:=⟨h.h.pt⟩
theorem Mt:QI X [] eI:=⟨Lo⟩
theorem Mu(h:QT X c mt):QI X [c] mt:=⟨Lp h.h⟩
end
section
variable{X:Cx}{e a b c:Expr}{m:ME}{pos:XX}{mt:MT}{st:Stmt}{bZ body orelse:List Stmt}{ms mr mu:MS}{n:Nat}{is:List Nat}{es:List Expr}{g:MG}
theorem Mv:QB X [] bF:=⟨KQ⟩
theorem Mw(h1:QS X st ms)(d:QB X bZ mr):QB X (st::bZ) (aG ms mr):=⟨KR h1.h d.h⟩
theorem Mx(h1:QS X st ms):QB X [st] ms:=⟨KS h1.h⟩
theorem My:QS X (.Pass pos) bF:=⟨KU⟩
theorem Mz(d:QE X e m):QS X (.Return (b0 e) pos) (aO m):=⟨KW d.h⟩
noncomputable def jU(e:Expr):Bool:=!(e.ctorIdx==8||e.ctorIdx==9||e.ctorIdx==10)
theorem tE{e:Expr}{t:Option Expr}{n:Nat}{env:a1a}(h:jU e=b5):ZY e t n env=pure false:=by cases e<;>first|rfl|cases h
theorem MB(d:QE X e m)(h:jU e=true:=by rfl):QS X (.Expr e pos) (cK m):=⟨KY d.h (tE h)⟩
theorem MC(hc:QT X c mt)(d:QB X body ms)(h:QB X orelse mu):QS X (.If c body orelse pos) (bB mt ms mu):=⟨KZ hc.h d.h h.h⟩
theorem MH(i:Nat){x:Str}{d:XX}(j:X.N.Nodup)(k:QE X e m)(h:jU e=true:=by rfl)(o:X.N[i]?=b0 x:=by rfl)(p:Loc X.env.scope x:=by first|exact a2t rfl|exact a1k rfl)
  (l:X.fn x=b5\/X.env.scope.names.lookup x=b0 .local:=by first|exact .inl rfl|exact .inr rfl):QS X (.Assign [.Name x d] e pos) (aL i m):=⟨Ck j o p k.h (tE h) l⟩
theorem MJ(i:Nat){x:Str}(d:X.N.Nodup)(j:X.N[i]?=b0 x:=by rfl)(k:Loc X.env.scope x:=by first|exact a2t rfl|exact a1k rfl)
  (h:X.fn x=b5\/X.env.scope.names.lookup x=b0 .local:=by first|exact .inl rfl|exact .inr rfl):QG X (.Name x pos) (cE i):=⟨CC d j k h⟩
theorem CO:QGs X [] []:=⟨Im,rfl,rfl⟩
theorem CP(i:Nat){x:Str}(h:X.N.Nodup)(d:QGs X es is)(k:X.N[i]?=b0 x:=by rfl)(l:Loc X.env.scope x:=by first|exact a2t rfl|exact a1k rfl)
  (j:X.fn x=b5\/X.env.scope.names.lookup x=b0 .local:=by first|exact .inl rfl|exact .inr rfl):QGs X (.Name x pos::es) (i::is):=
 ⟨Io (Bp h k l j) d.h (by rw[tD (e:=.Name x pos) rfl];rfl),by rw[WO,WO,d.n],by rw[W3,d.s];rfl⟩
theorem xN{k:Nat}(h:QGs X es is)(hc:X.calm=true:=by rfl):QG X (.Tuple es k pos) (d9 is):=⟨Ls hc h.h ((CM h.s).trans h.n) (CN h.s)⟩
noncomputable def xO(e:Expr):Bool:=!(e.ctorIdx==25)
theorem MK{es:List Expr}{k:Nat}{pt:XX}{e:Expr}{env:a1a}(h:xO e=b5):a3p [.Tuple es k pt] e env=pure none:=by cases e<;>first|rfl|cases h
theorem ML{k:Nat}{pt:XX}(d:QE X e m)(i:QG X (.Tuple es k pt) g)(h:xO e=true:=by rfl):QS X (.Assign [.Tuple es k pt] e pos) (hV m g):=
 ⟨Lu d.h i.h (by cases e<;>rfl) (MK h) (by rw[tD (e:=.Tuple es k pt) rfl];rfl)⟩
end
section
variable{P:WL}{w:WX}{K:V8}{mg:Str->Option Value}{base:Xo}
theorem MM{x a:Str}{st:Stmt}{f:Addr}{g:YI}{N ps:List Str}{k:Nat}{body:List Stmt}{m:MS}(F:Fun K x a st f g)(S:FnScope N ps (cJ st))(e:ps.length<=N.length)(d:fL st=body)
  (c:∀(b:Value)(A:WY)(outer:List a1a)(s:Wf)(H:Hp)(E:XK),Room k (A.deeper (a1T a (cJ st) s.heap.objs.size f b))->
   QB (kL fW P w K mg base N a (cJ st) f b A outer s H E).nox body m):FnOk P w K mg base fW (k+1) f g ps (i0 K ps.length (wZ N.length m)):=
 K1 F S e λb A outer s H E h=>by rw[d];exact(c b A outer s H E h).h
end
noncomputable abbrev fH:=Hm->Nat->Option (Option D)
noncomputable abbrev MI:=aH->Hm->Option (fH×Nat×Hm)
inductive tMI (K:V8)(m:MI)(σ:St)(H:Hp)(R:It->Hp->Prop):Prop
 |mk (π:Nat->Addr)(ρ:aH)(μ:Hm)(src:fH)(n:Nat)(μ':Hm)(r:Rp K π H μ)(E:En K π μ.length H σ ρ)(hm:m ρ μ=b0 (src,n,μ'))(k:∀π' H' J,Ext π μ.length H π' μ'.length H'->Rp K π' H' μ'->Wk K J src π' μ'.length H'->R J H'):tMI K m σ H R
structure QJ(X:Cx)(e:Expr)(m:MI):Prop where
 h:∀tg,PI X tg e (tMI X.K m)
section
variable{X:Cx}{pos:XX}{e:Expr}{m:ME}
noncomputable def CQ:MI:=λ_ _=>b3
theorem MN:QJ X e CQ:=⟨λtg a6r s σ H R I hw=>by
 obtain⟨h,i,g,b,n,c,d,E,a,k⟩:=hw;cases a⟩
noncomputable def pZ(x:Str):List D:=x.cps.toList.map λc=>.str ⟨#[c]⟩
noncomputable def jV(a:Hm):D->Option (List D)
 |.str x=>b0 (pZ x)|d=>bM a d
noncomputable def dS(x:D):fH:=λa i=>(jV a x).map λxs=>xs[i]?
noncomputable def xP(x:Str):It:=⟨λi _=>i<x.cps.size,λi H v a=>a=H/\∃c,x.cps[i]?=b0 c/\v=.str ⟨#[c]⟩,λi _=>x.cps.size<=i⟩
theorem MP{P:WL}{w:WX}{K:V8}{tg:Expr}{T:String}(G:T="str_ascii_iterator"\/T="str_iterator") (a:Addr)(x:Str)(t:a3a):Turn Qc P w K tg (xP x) [a] a (λi h=>h.IsStrIter a T x t i) where
 mem:=by simp
 obj:=λi h st b g=>by
  have e:b=a:=by simpa using g
  subst e;obtain⟨o,e,c,d⟩:=st;exact⟨o,e,λv z=>by rw[d]at z;cases z⟩
 keep:=λi h l st k=>let⟨o,e,c,d⟩:=st;⟨o,k a (by simp) o e,c,d⟩;item:=by
  intro X N hw M hc i j s R H E I J st O;subst N hw M;obtain⟨q,r,Z,y,A,B⟩:=J a (by simp);have W:Walks X.prog X.w X.A a [a] [a] x.cps.size (SignAt x) (λi h=>h.IsStrIter a T x t i):=by
   rcases G with rfl|rfl
   .exact Walks.strAscii (I.ok.hd hc) a x t
   .exact Walks.strWide (I.ok.hd hc) a x t
  refine W.item i s _ _ O st λv l Q hv p kk=>?_;obtain⟨c,u,hx,rfl⟩:=hv;have U:Inv X j R H {s with heap:=l,toks:=Q}:=I.turned (λb o g e=>kk b o (by simpa using g) e) q r y A B;obtain⟨o,e,Y,d⟩:=id p;exact⟨_,rfl,n5 (s:={s with heap:=l,toks:=Q}) e Y d (by rcases G with rfl|rfl<;>decide) ⟨.str ⟨#[c]⟩,H,U,⟨u,rfl⟩,⟨rfl,c,hx,rfl⟩,p,λb g=>(J b g).1⟩⟩
 done:=by
  intro X N hw M hc i j s R H E I J st O;subst N hw M;obtain⟨q,r,Z,y,A,B⟩:=J a (by simp);have n:x.cps.size<=i:=O;rcases G with rfl|rfl
  .exact wpAny_pyNext_ascii_end (I.ok.hd hc) st (by simp[n]) λl L=>⟨rfl,I.turned (t':=s.toks) (λb o g e=>L b o g e) q r y A B⟩
  .exact wpAny_pyNext_wide_end (I.ok.hd hc) st (by simp[n]) λl L=>⟨rfl,I.turned (t':=s.toks) (λb o g e=>L b o g e) q r y A B⟩
 self:=λ_ _ _ _ _ st h=>by
  rcases G with rfl|rfl
  .exact wpAny_pyIter_striter_ascii st h
  .exact wpAny_pyIter_striter_wide st h
theorem MQ{l tg:Expr}{j:TE}(p:PE X l j):PI X tg l (λσ H R=>j σ H λv d=>∃x,v=.str x/\R (xP x) d):=by
 intro c s σ H R I h;refine aR (p c s σ H _ I h) λv a ⟨y,d,g,u,r⟩=>?_;obtain⟨x,e,q⟩:=r;subst e;obtain⟨t,rfl⟩:=u;have fin:∀T,(T="str_ascii_iterator"\/T="str_iterator")->vZ X c σ tg R (.ref a.heap.objs.size) {a with heap:=a.heap.push {cls:=.type T,data:=.fields #[.str x t,.int 0 0]}}:=λT k=>by
  refine⟨a.heap.objs.size,[a.heap.objs.size],_,_,d,rfl,g.kept (t':=a.toks) λb o e=>Wc _ e,MP k _ x t,⟨_,Wn _ rfl,rfl,rfl⟩,λb n=>?_,q⟩;have e:b=a.heap.objs.size:=by simpa using n
  subst e;exact g.fpOk (Wh _) (g.hok.fresh (Wh _))
 cases i:x.cps.all (·<128)
 .exact wpAny_pyIter_wide i (fin _ (.inr rfl))
 .exact wpAny_pyIter_ascii i (fin _ (.inl rfl))
theorem MR{K:V8}{x:Str}{π:Nat->Addr}{n:Nat}{H:Hp}:Wk K (xP x) (dS (.str x)) π n H:=by
 refine⟨λb p j i e R z=>?_,λb p j i d e R z=>?_⟩
 .have a:(pZ x)[i]?=none:=Wt z;have:=WZ.mp a;rw[pZ,V7,YK]at this;exact this
 .have a:(pZ x)[i]?=b0 d:=Wt z;unfold pZ at a;rw[Ws,XO]at a;obtain⟨c,h,o⟩:=Wb.mp a;subst o;refine⟨(Z8.mp h).1,λv q ⟨k,r,g,l⟩=>?_⟩;subst k;rw[h]at g;cases g;rw[l];exact⟨.refl,R,.str _⟩
noncomputable def bV(m:ME):MI:=λb a=>(m b a).bind λp=>(jV p.2 p.1).map λxs=>(dS p.1,xs.length+1,p.2)
theorem MU(h:QE X e m):QJ X e (bV m):=⟨λtg a6r s σ H R I hw=>by
 obtain⟨B,G,A,L,n,O,r,E,d,k⟩:=hw;obtain⟨⟨x,p⟩,u,d⟩:=V6.mp d;obtain⟨N,J,d⟩:=Wb.mp d;cases d;have l:∀(w:bM p x=b0 N)(y:dS x=kQ x),WI (WM X.prog X.w) X.A (eval e X.env) (λv K=>WI (WM X.prog X.w) X.A (a2i v) (vZ X a6r σ tg R) X.xe K) X.xe s:=λw y=>by
  refine Lj h.h a6r s σ H R I ⟨B,G,A,x,_,r,E,u,λb M g i c j=>?_⟩;obtain⟨a,e,q⟩:=Lk c j w;subst e;refine⟨a,rfl,?_⟩;dsimp only at k;rw[y]at k;rcases q with⟨o,W⟩|⟨o,W⟩
  .exact .inl ⟨o,k b g _ i c W⟩
  .exact .inr ⟨o,k b g _ i c W⟩
 cases x with
 |str z=>refine MQ h.h a6r s σ H R I ⟨B,G,A,.str z,_,r,E,u,λb M g i c j=>?_⟩;cases j;exact⟨z,rfl,k b g _ i c MR⟩
 |_=>exact l J rfl⟩
noncomputable def fZ(ms:MA):MI:=λb a=>(ms b a).bind λp=>match p.1 with
 |[.int j]=>if -(2^62)<=j/\j<2^62 then b0 (i8 0 j.toNat,j.toNat+1,p.2)else b3|_=>b3
theorem MV{q:Cx->Prop}{tg:Expr}(tr:∀(l:Addr)(lo:Int)(n:Nat),Turn q X.prog X.w X.K tg (lG lo n) [l] l (λi h=>Z6 h l (lo+(i:Nat)*1) ((n:Int)-(i:Nat)) 1)){a:Expr}{ms:MA}{n:Nat}{p:XX}(c:Gl X "range") (d:X.mg "range"=b3) (u:QA X [a] ms n):pN q X tg (.Call (.Name "range" p) [a] [] pos) (tMI X.K (fZ ms)):=λa6r s σ H R I hw=>by
 have w:=u.s;rw[W3,Wl]at w;obtain⟨N,O,L,J,Q,M,A,E,b,k⟩:=hw;obtain⟨⟨x,o⟩,G,b⟩:=V6.mp b;refine IA tr c d u.h (fQ w.1) a6r s σ H R I ⟨N,O,L,x,o,A,E,G,λr T y B z g=>?_⟩;dsimp only at b;split at b
 .rename_i j;split at b
  .rename_i v;cases b;cases g with
   |cons g K=>cases g;cases K;exact⟨j,rfl,v.1,v.2,k r y _ B z CD⟩
  .cases b
 .cases b
theorem MW{a:Expr}{ms:MA}{n:Nat}{p:XX}(b:Gl X "range") (c:X.mg "range"=b3) (d:QA X [a] ms n):QJ X (.Call (.Name "range" p) [a] [] pos) (fZ ms):=⟨λtg=>MV Bt b c d⟩
noncomputable def lT(ms:MA):MI:=λb a=>(ms b a).bind λp=>match p.1 with
 |[.int i,.int j]=>if -(2^62)<=i/\i<2^62/\-(2^62)<=j/\j<2^62 then b0 (i8 i (j-i).toNat,(j-i).toNat+1,p.2)else b3|_=>b3
theorem MX{a b:Expr}{ms:MA}{n:Nat}{p:XX}(g:Gl X "range") (h:X.mg "range"=b3) (r:QA X [a,b] ms n):QJ X (.Call (.Name "range" p) [a,b] [] pos) (lT ms):=⟨λtg a6r s σ H R I hw=>by
 have d:=r.s;rw[W3,Wl,W3,Wl]at d;obtain⟨N,O,L,G,Q,M,w,E,c,k⟩:=hw;obtain⟨⟨x,o⟩,z,c⟩:=V6.mp c;refine IB g h r.h (by rw[fQ d.1,fQ d.2.1];rfl) (by rw[fQ d.2.1];rfl) a6r s σ H R I ⟨N,O,L,x,o,w,E,z,λq T u y v l=>?_⟩;dsimp only at c;split at c
 .rename_i i j;split at c
  .rename_i A;cases c;cases l with
   |cons l J=>
    cases l;cases J with
    |cons B K=>cases B;cases K;exact⟨i,j,rfl,A,k q u _ y v CD⟩
  .cases c
 .cases c⟩
noncomputable def b8(c:MI)(g:MG)(b:MS):MS:=λa d=>(c a d).bind λp=>eU p.1 g b p.2.1 0 a p.2.2
end
noncomputable def eZ(d:BD)(g:MI)(c:MT)(e:ME):ME:=λb h=>(g b h).bind λp=>(hJ p.1 d c e b p.2.2.length p.2.1 0 (p.2.2++[.lst []])).map λa=>(.loc p.2.2.length,a)
noncomputable abbrev eB(a:MI)(c:MT)(e:ME):ME:=eZ oG a c e
noncomputable def gB(n:Nat)(a:BD):MG:=λd c b=>(a d b).map λx=>c.take n++x
theorem MY{X:Cx}{n:Nat}{x:Str}{i:XX}(j:X.N.length=n+1)(h:PG X (.Name x i) (tMG X.K (cE n))):PG X (.Name x i) (tMG X.K (gB n oG)):=by
 intro b s y H v u Q I r hw;obtain⟨q,a,p,d,w,R,E,hd,l,k⟩:=hw;cases l;refine h b s y H v u Q I r ⟨q,a,p,d,_,R,E,hd,rfl,λc g=>k c ?_⟩;have o:a.length=n+1:=by rw[<- E.len,I.len,j]
 have e:a.set n (b0 d)=a.take n++[b0 d]:=by rw[List.set_eq_take_append_cons_drop,if_pos (by lia),List.drop_of_length_le (by lia)]
 rw[e]at g;exact g
theorem CS:∀(xs:List D)(a b:aH),b.length=xs.length->mZ (a++b) (a0G a.length xs.length) xs=a++xs.map b0
 |[],a,[],_=>by simp[mZ]
 |x::xs,a,y::b,h=>by have c:=CS xs (a++[b0 x]) b (by simpa using h);rw[WO,a4m];show mZ ((a++y::b).set a.length (b0 x)) (a0G (a.length+1) xs.length) xs=_;rw[a0y _ _ (Wh _),Nat.sub_self,XU];rw[Wo,a0z]at c;rw[Yr,List.singleton_append]at c;rw[c];simp
theorem MZ{X:Cx}{n k:Nat}{tg:Expr}(w:X.N.length=n+k)(h:PG X tg (tMG X.K (d9 (a0G n k)))):PG X tg (tMG X.K (gB n (i9 k))):=by
 intro b s K H v u Q I r hw;obtain⟨G,a,B,d,J,R,E,hd,x,A⟩:=hw;obtain⟨y,o,p⟩:=Wb.mp x;obtain⟨l,q,c⟩:=V6.mp o;split at c
 .rename_i j;cases c;subst p;have z:a.length=n+k:=by rw[<- E.len,I.len,w]
  refine h b s K H v u Q I r ⟨G,a,B,d,mZ a (a0G n k) l,R,E,hd,(by simp only[d9,q,WH,List.length_range',if_pos j]),λg i=>A g ?_⟩;have e:=CS l (a.take n) (a.drop n) (by rw[Zg];lia);rw[YY,Xa,a1V (by lia),j]at e;rw[e]at i;exact i
 .cases c
section
variable{X:Cx}{scope:YH}{cl:List (Str×Addr)}{xs:List Str}{tg elt iter:Expr}{ifs:List Expr}{pos ppos:XX}{mi:MI}{me:ME}{mc:MT}{bd:BD}
theorem M0{K:V8}{π:Nat->Addr}{n:Nat}{H:Hp}{σ:St}{b o:aH}{k:Nat}(E:En K π n H σ (b++o))(c:o.length=k):En K π n H σ (b++Ym k b3):=by
 refine⟨by rw[E.len,Wo,Wo,Yz,c],λi d q=>?_⟩;by_cases a:i<b.length
 .rw[W8 a]at q;exact E.get i d (by rw[W8 a];exact q)
 .rw[Ye (a0a.mp a),YR]at q;split at q<;>cases q
theorem CT{q:Cx->Prop}(O:CompOk X scope cl xs)(hq:∀a6r σ H s k,Inv X a6r σ H s->q (cL X scope cl s.heap.objs.size (bN xs X.N++xs) s H k))(hi:pN q X tg iter (tMI X.K mi))(hb':∀d μ z,bd d μ=b0 z->z.length=xs.length)(hg:∀C s₀ H₀ k,PG (cL X scope cl C (bN xs X.N++xs) s₀ H₀ k) tg (tMG X.K (gB X.N.length bd)))
  (hc:∀C s₀ H₀ k,mY (cL X scope cl C (bN xs X.N++xs) s₀ H₀ k) ifs mc)(he:∀C s₀ H₀ k,PE (cL X scope cl C (bN xs X.N++xs) s₀ H₀ k) elt (tM X.K me))
  (hs:∀x,Zf iter X.env x=pure x){use:Option (Value->a5H Unit)}{QQ:Value->Wf->Prop}{a6r:jw}{s:Wf}{σ:St}{H:Hp}{π:Nat->Addr}{U:aH}{μ μ':Hm}{d:D}
  (I:Inv X a6r σ H s)(R:Rp X.K π H μ)(E:En X.K π μ.length H σ U)(hm:eZ bd mi mc me U μ=b0 (d,μ'))
  (fin:∀(p C:Addr)(l:Nat->Addr)(g:Hp)(s':Wf),Ext π μ.length H l μ'.length g->Rp X.K l g μ'->IsD X.K l μ'.length g (.ref p) d->(∃m,s'.heap.Ns C m)->X.s₀.heap.objs.size<=C->C≠X.env.locals->g C=b3->
   (∀y c,X.env.cells.lookup y=b0 c->c≠C)->(∀q∈X.pn++a6r,q.1≠C)->(∀h',(∀b o,b≠C->s'.heap.get? b=b0 o->h'.get? b=b0 o)->Inv X a6r σ g {s' with heap:=h'})->
   compPost (WM X.prog X.w) X.A X.xe use QQ (.ref p) C (.ok .next) s') :
  WI (WM X.prog X.w) X.A (comprehension (.ListComp elt [⟨tg,iter,ifs,0⟩] scope pos) scope X.env ppos (newList []) b4 (eval iter X.env) use) QQ X.xe s:=by
 obtain⟨⟨src,nt,a⟩,h1,hm⟩:=V6.mp hm;obtain⟨μ2,h3,hm⟩:=Wb.mp hm;cases hm;have hit:WI (WM X.prog X.w) X.A (eval iter X.env) (λv s1=>WI (WM X.prog X.w) X.A (a2i v) (PIEq q X a6r σ tg λJ H1=>∃Y,Ext π μ.length H Y a.length H1/\Rp X.K Y H1 a/\Wk X.K J src Y a.length H1) X.xe s1) X.xe s:=
  hi a6r s σ H _ I ⟨π,U,μ,src,nt,a,R,E,h1,λY H1 J e1 R1 W=>⟨Y,e1,R1,W⟩⟩
 refine wpAny_comprehension_free rfl hs O.clos O.kind O.names (Xz hit (λv s1 hv=>Xz hv (λitv B h4=>?_) λ_ _ z=>z) λ_ _ z=>z);obtain⟨it,k,tn,J,H2,rfl,I2,T,st2,f2,Y,e1,R1,W⟩:=h4;refine XA (wpAny_newFunctionEnv O.nocell (by intro y hy;simp at hy) (λZ K L=>?_) O.kind);dsimp only at K L ⊢;have hfr:H2 B.heap.objs.size=none:=I2.hok.fresh (Wh _);have I3:Inv X a6r σ (aK H2 B.heap.objs.size (.lst [])) {B with heap:=B.heap.push {cls:=.type "list",dict:=b3,data:=.seq ([]:gw).toArray}}:=
  I2.laid (t':=B.toks) (λb u e=>Wc _ e) (Wh _) ⟨Yi _,[],0,.nil,Wn _ rfl⟩
 obtain⟨e2,R2,q2⟩:=R1.alloc (c:=.lst []) (o:=.lst []) hfr .nil;generalize hs3:({B with heap:=B.heap.push {cls:=.type "list",dict:=b3,data:=.seq ([]:gw).toArray}}:Wf)=s3 at I3;have G:B.heap.push {cls:=.type "list",dict:=b3,data:=.seq ([]:gw).toArray}=s3.heap:=by rw[<- hs3]
 have e12:=e1.trans e2;generalize hH3:aK H2 B.heap.objs.size (.lst [])=H3 at I3 e2 R2 e12;generalize hπ3:iI Y a.length B.heap.objs.size=π3 at e2 R2 q2 e12;have hob:∀b∈k,∃o,s3.heap.get? b=b0 o:=λb A=>by obtain⟨o,ho,_⟩:=T.obj 0 _ st2 b A;exact⟨o,by rw[<- G];exact Wc _ ho⟩
 have f3:∀b∈k,gX X a6r H3 b:=λb A=>by obtain⟨o,ho,_⟩:=T.obj 0 _ st2 b A;refine⟨?_,(f2 b A).2⟩;rw[<- hH3,bJ (WD (Wm ho))];exact(f2 b A).1
 have st3:tn 0 s3.heap:=T.keep 0 _ _ st2 λb A o e=>by rw[<- G];exact Wc _ e
 have hC:(B.heap.push {cls:=.type "list",dict:=b3,data:=.seq ([]:gw).toArray}).objs.size=s3.heap.objs.size:=by rw[G]
 rw[G]at K L;have hk1:∀b o,s3.heap.get? b=b0 o->Z.get? b=b0 o:=λb o e=>L.extBut b o (WD (Wm e)) (Wc _ e);have E3:En X.K π3 (a++[C.lst []]).length H3 (σ++Ym xs.length b3) (U++Ym xs.length b3):=by
  have E':=E.mono e12;refine⟨by rw[Wo,Wo,E'.len,Yz,Yz],λi d' q=>?_⟩;by_cases hi:i<U.length
  .rw[W8 hi]at q;obtain⟨v,h5,h6⟩:=E'.get i d' q;exact⟨v,by rw[W8 (by rw[E'.len];exact hi)];exact h5,h6⟩
  .rw[Ye (a0a.mp hi),YR]at q;split at q<;>cases q
 have hlen:U.length=X.N.length:=by rw[<- E.len];exact I.len
 have stat:∀{g:Hp}{pl:jw},(∀b∈k,g b=b3)->pl=[]->∀b∈k,gX (cL X scope cl s3.heap.objs.size (bN xs X.N++xs) s3 H3 k) pl g b:=λ{g pl} hn hpl b A=>by
  obtain⟨f0,f1,f2',f3',f4,f5⟩:=f3 b A;obtain⟨o,ho⟩:=hob b A;refine⟨hn b A,WD (Wm ho),λz=>?_,.inl A,λy c h=>f4 y c (O.sub y c h),λp hp=>?_⟩
  .rcases WW.mp (I3.stkSub b z)with z|z
   .exact f1 z
   .exact f2' z
  .subst hpl;exact absurd (show p∈([]:jw)from hp) (by simp)
 have loop:∀s4:Wf,(∃tk,s4={s3 with heap:=Z,toks:=tk})->
   Zq (WM X.prog X.w) X.A (.compLoop (.ListComp elt [⟨tg,iter,ifs,0⟩] scope pos) 0 (.ref it) (.ref B.heap.objs.size) (ZR scope cl s3.heap.objs.size X.env))
    (compPost (WM X.prog X.w) X.A X.xe use QQ (.ref B.heap.objs.size) s3.heap.objs.size) s4:=by
  rintro s4 ⟨tk,rfl⟩;have I4:=O.inv (tk:=tk) I3 f3 hob K hk1;refine Ln (λn s'=>∃i Q g l M o,Inv (cL X scope cl s3.heap.objs.size (bN xs X.N++xs) s3 H3 k) [] Q g s'/\tn i s'.heap/\(∀b∈k,g b=b3)/\Ext π3 (a++[C.lst []]).length H3 l M.length g/\Rp X.K l g M /\
   En X.K l M.length g Q (U++o)/\o.length=xs.length/\hJ src bd mc me U a.length n i M=b0 μ') ?_ nt
   ⟨0,_,H3,π3,a++[C.lst []],Ym xs.length b3,I4,T.keep 0 _ _ st3 λb A o e=>hk1 b o e,λb A=>(f3 b A).1,.refl,R2,E3,Yz,h3⟩
  rintro n s5 ⟨i,σ5,H5,N,μ5,o5,I5,st5,fr5,e5,R5,E5,l5,g5⟩;cases n with
  |zero=>cases g5|succ n=>
   obtain⟨o,h6,h7⟩:=V6.mp g5;cases o with
   |none=>
    cases h7;have stop:=W.stop N _ H5 i (e2.trans e5) R5 h6;refine Xz (T.done (cL X scope cl s3.heap.objs.size (bN xs X.N++xs) s3 H3 k) rfl rfl rfl (hq a6r σ H3 s3 k I3) i [] s5 σ5 H5 (λ_ _=>False) I5 (stat fr5 rfl) st5 stop) (λr s6 ⟨hr,I6⟩=>?_) λ_ _ z=>z;subst hr;obtain⟨m6,hn6,_⟩:=id I6.loc;have hp:N a.length=B.heap.objs.size:=by rw[e5.pi a.length (by simp),q2]
    refine fin B.heap.objs.size s3.heap.objs.size N H5 s6 (e12.trans e5) R5 ?_ ⟨m6,hn6⟩ I3.sz (Xh (WD I3.lt)) I6.free (λy c hc z=>?_) (λq hq z=>?_) λh' hh=>CompOk.back I3 f3 I6 hh
    .rw[<- hp];exact .loc (WT (by simp) e5.le)
    .obtain⟨v,o,ho,_⟩:=I3.cell y c hc;exact WD (Wm ho) z
    .exact WD (Wm (I3.pin q hq).1) z
   |some d=>
    obtain⟨z,hz,h7⟩:=V6.mp h7;obtain⟨⟨b,μ6⟩,h8,h9⟩:=V6.mp h7;obtain⟨g1,g2⟩:=W.go N μ5 H5 i d (e2.trans e5) R5 h6;refine Xz (T.item (cL X scope cl s3.heap.objs.size (bN xs X.N++xs) s3 H3 k) rfl rfl rfl (hq a6r σ H3 s3 k I3) i [] s5 σ5 H5 (λ_ _=>False) I5 (stat fr5 rfl) st5 g1) (λr s6 ⟨u,hr,h10⟩=>?_) λ_ _ z=>z;subst hr;refine Xz h10 (λ_ s7 ⟨v,H7,I7,r7,y7,st7,fr7⟩=>?_) λ_ _ z=>z;obtain⟨e7,R7,hd⟩:=g2 v H7 y7;have I7':=I7.pinned (stat fr7 rfl) (T.obj _ _ st7);have e5:=e5.trans e7;refine Xz (hg _ _ _ _ _ s7 σ5 H7 v u (λQ g=>En X.K N μ5.length H7 Q (U++z)/\g=H7) I7' r7
     ⟨N,U++Ym xs.length b3,μ5,d,U++z,R7,M0 (E5.mono e7) l5,hd,(by
      show(bd d μ5).map (λx=>(U++Ym xs.length b3).take X.N.length++x)=_;rw[hz,<- hlen,List.take_left];rfl),λQ E'=>⟨E',rfl⟩⟩) (λ_ s8 ⟨σ8,H8,I8,E8,z2⟩=>?_) λ_ _ z=>z
    subst z2;have again:∀{s9:Wf}{H9:Hp}{j:Nat->Addr}{μ9:Hm},Inv (cL X scope cl s3.heap.objs.size (bN xs X.N++xs) s3 H3 k) ([]++pO k s7.heap) σ8 H9 s9->Ext π3 (a++[C.lst []]).length H3 j μ9.length H9->Rp X.K j H9 μ9->
      En X.K j μ9.length H9 σ8 (U++z)->hJ src bd mc me U a.length n (i+1) μ9=b0 μ'->
      ∃m,m<n+1/\∃i Q g l M o,Inv (cL X scope cl s3.heap.objs.size (bN xs X.N++xs) s3 H3 k) [] Q g s9/\tn i s9.heap/\(∀b∈k,g b=b3)/\Ext π3 (a++[C.lst []]).length H3 l M.length g/\Rp X.K l g M /\
       En X.K l M.length g Q (U++o)/\o.length=xs.length/\hJ src bd mc me U a.length m i M=b0 μ':=λ{s9 H9 j μ9} I9 e9 R9 E9 g9=>by
     refine⟨n,X7 _,i+1,_,H9,j,μ9,z,I9.unpinned,T.keep _ _ _ st7 λb A o e=>(I9.pin (b,o) (XE _ (XE _ (sF A e)))).1,λb A=>?_,e9,R9,E9,hb' _ _ _ hz,g9⟩;obtain⟨o,e,_⟩:=T.obj _ _ st7 b A;exact(I9.pin (b,o) (XE _ (XE _ (sF A e)))).2.1
    refine Xz (hc _ _ _ _ _ s8 _ H8 (λb' g=>∃j,b'=b/\Ext N μ5.length H8 j μ6.length g/\Rp X.K j g μ6) I8 ⟨N,_,μ5,b,μ6,R7,E8,h8,λj H9 e9 R9=>⟨j,rfl,e9,R9⟩⟩) (λok s9 ⟨H9,I9,j,A,e9,R9⟩=>?_) λ_ _ z=>z;subst A;cases ok with
    |false=>rw[if_neg Wj];exact again I9 (e5.trans e9) R9 (E8.mono e9) h9|true=>
     rw[if_pos rfl];obtain⟨⟨dy,μ7⟩,h11,h12⟩:=V6.mp h9;obtain⟨μ8,h13,h14⟩:=V6.mp h12;refine Xz (he _ _ _ _ _ s9 _ H9 (λy g=>∃w,Ext j μ6.length H9 w μ7.length g/\Rp X.K w g μ7/\IsD X.K w μ7.length g y dy) I9 ⟨j,_,μ6,dy,μ7,R9,E8.mono e9,h11,λw y H10 e10 R10 i10=>⟨w,e10,R10,i10⟩⟩)
      (λu' s10 ⟨y,H10,I10,ry,w,e10,R10,i10⟩=>?_) λ_ _ z=>z
     unfold oF at h13;split at h13
     .rename_i zs hz;split at h13
      .rename_i hl;cases h13;obtain⟨vs,h15,h16⟩:=R10.lst _ zs hz;have eall:=(e5.trans e9).trans e10;have hp:w a.length=B.heap.objs.size:=by rw[eall.pi a.length (by simp),q2]
       obtain⟨e11,R11⟩:=R10.put (a:=a.length) (c:=.lst (zs++[dy])) (o:=.lst (vs++[y])) (Wa.mp hz).1 h15 (.inl ⟨vs,rfl⟩) (h16.append (.cons i10 .nil));rw[hp]at h15 e11 R11;refine Xz (BY (X:=cL X scope cl s3.heap.objs.size (bN xs X.N++xs) s3 H3 k) _ s10 _ H10 (.ref B.heap.objs.size) [y] (.ref B.heap.objs.size) [u'] (λ_ g=>g=aK H10 B.heap.objs.size (.lst (vs++[y]))) I10 rfl (.cons ry .nil)
        ⟨B.heap.objs.size,vs,y,rfl,rfl,h15,by rw[h16.length];exact hl,rfl⟩) (λ_ s11 ⟨_,H11,I11,_,z⟩=>?_) λ_ _ z=>z
       subst z;exact again I11 (eall.trans e11) R11 ((E8.mono (e9.trans e10)).mono e11) h14
      .cases h13
     .cases h13
 have l4:=loop {s3 with heap:=Z,toks:=B.toks+([]:List (Str×Value)).length} ⟨_,rfl⟩;have hst4:tn 0 Z:=T.keep 0 _ _ st3 λb A o e=>hk1 b o e;subst hs3;exact codeAny_compStart_list l4 (T.self _ 0 _ _ _ hst4 l4)
theorem M3{q:Cx->Prop}(O:CompOk X scope cl xs)(M:∀a6r σ H s a,Inv X a6r σ H s->q (cL X scope cl s.heap.objs.size (bN xs X.N++xs) s H a))(G:pN q X tg iter (tMI X.K mi))(c:∀d r z,bd d r=b0 z->z.length=xs.length)(B:∀C s₀ H₀ a,PG (cL X scope cl C (bN xs X.N++xs) s₀ H₀ a) tg (tMG X.K (gB X.N.length bd)))
  (hc:∀C s₀ H₀ a,mY (cL X scope cl C (bN xs X.N++xs) s₀ H₀ a) ifs mc)(A:∀C s₀ H₀ a,PE (cL X scope cl C (bN xs X.N++xs) s₀ H₀ a) elt (tM X.K me))
  (N:∀x,Zf iter X.env x=pure x):PE X (.ListComp elt [⟨tg,iter,ifs,0⟩] scope pos) (tM X.K (eZ bd mi mc me)):=by
 intro a6r s σ H Q I hw;obtain⟨π,ρ,r,d,Z,R,E,J,k⟩:=hw;rw[eval_ListComp];refine CT (use:=b3) O M G c B hc A N I R E J λp C i j s' v u U h T L g l n back=>?_;obtain⟨m,K⟩:=h;exact⟨m,K,λw Y=>⟨.ref p,j,back w (λb o y e=>(Y.2 b y).trans e),rfl,k i _ j v u U⟩⟩
theorem M4(O:CompOk X scope cl xs)(a:X.calm=b5)(h:PI X tg iter (tMI X.K mi))(c:∀d j z,bd d j=b0 z->z.length=xs.length)(g:∀C s₀ H₀ b,PG (cL X scope cl C (bN xs X.N++xs) s₀ H₀ b) tg (tMG X.K (gB X.N.length bd)))
  (hc:∀C s₀ H₀ b,mY (cL X scope cl C (bN xs X.N++xs) s₀ H₀ b) ifs mc)(e:∀C s₀ H₀ b,PE (cL X scope cl C (bN xs X.N++xs) s₀ H₀ b) elt (tM X.K me))
  (i:∀x,Zf iter X.env x=pure x):PE X (.ListComp elt [⟨tg,iter,ifs,0⟩] scope pos) (tM X.K (eZ bd mi mc me)):=M3 O (λ_ _ _ _ _ _=>a) h c g hc e i
theorem M5{i:Nat}{y:Str}{py g:XX}(O:CompOk X scope cl xs)(hN:X.N.Nodup)(h:X.calm=b5)(hi:PI X tg iter (tMI X.K mi))(B:∀d Y z,bd d Y=b0 z->z.length=xs.length)(hg:∀C s₀ H₀ n,PG (cL X scope cl C (bN xs X.N++xs) s₀ H₀ n) tg (tMG X.K (gB X.N.length bd)))
  (hc:∀C s₀ H₀ n,mY (cL X scope cl C (bN xs X.N++xs) s₀ H₀ n) ifs mc)(he:∀C s₀ H₀ n,PE (cL X scope cl C (bN xs X.N++xs) s₀ H₀ n) elt (tM X.K me))
  (hs:∀x,Zf iter X.env x=pure x)(hy:X.N[i]?=b0 y)(U:X.env.scope.names.lookup y=b0 .local)
  (K:ZY (.ListComp elt [⟨tg,iter,ifs,0⟩] scope pos) (b0 (.Name y py)) g.line X.env=pure b5) :
  PS X (.Assign [.Name y py] (.ListComp elt [⟨tg,iter,ifs,0⟩] scope pos) g) (tMS X.K (aL i (eZ bd mi mc me))):=by
 intro l s Z H EN I hw;obtain⟨π,ρ,Y,fl,ρ',μ',R,E,G,k⟩:=hw;obtain⟨⟨d,μ1⟩,h1,G⟩:=Wb.mp G;cases G;rw[exec_Assign_Name_used _ _ _ _ K];refine V9 (a3n ?_);refine V9 (V9 ?_);refine CT (use:=b0 (a1F (.Name y py) X.env)) (QQ:=λ_ u=>WI (WM X.prog X.w) X.A (pure ()) (λ_ M=>WI (WM X.prog X.w) X.A (pure Flow.next) (SP X l EN) X.xe M) X.xe u) O (λ_ _ _ _ _ _=>h) hi B hg hc he hs I R E h1 λp C Q v u T R1 i1 J L q j c r back=>?_;obtain⟨m,hn⟩:=J;have I1:Inv X l Z v u:=back u.heap λb o _ e=>e;show WI (WM X.prog X.w) X.A (a1F (.Name y py) X.env (.ref p)) _ X.xe u;refine a5d ?_;refine Bk I1 hN hy (.inl U) (show RelV (.ref p) (.ref p)from rfl) (λs2 I2 ⟨a,sb,A⟩=>?_) (.inr U);have w:C≠a:=by
  rcases A with rfl|A
  .exact q
  .exact Xh (c _ _ A)
 refine⟨m,hn.sameBut sb w,λh' N=>Wg (Wg ?_)⟩;refine⟨Z.set i (b0 (.ref p)),v,I2.turned (t':=s2.toks) (λb o hb e=>(N.2 b hb).trans e) j q (.inr L) c r,?_⟩;exact k Q _ v T R1 ((E.mono T).set i1 i)
end
noncomputable def cD:ME:=λ_ _=>b3
noncomputable def m7:MT:=λ_ _=>b3
noncomputable def eC:MS:=λ_ _=>b3
section
variable{X:Cx}{e a b c o:Expr}{m m1 m2 ma mb mc:ME}{pos:XX}{mt mu:MT}{bZ es:List Expr}{ms:MA}{n:Nat}
theorem cG:QE X e cD:=⟨λa6r s σ H Q I h=>by
 obtain⟨l,p,j,d,i,R,E,g,k⟩:=h;cases g⟩
theorem xQ:QT X e m7:=⟨λa6r s σ H Q I h=>by
 obtain⟨l,p,j,d,i,R,E,g,k⟩:=h;cases g⟩
theorem M6:QW X e m7:=⟨λj a6r s σ H Q I h=>by
 obtain⟨p,q,l,d,i,R,E,g,k⟩:=h;cases g⟩
theorem e6{st:Stmt}:QS X st eC:=⟨λa6r s σ H D I h=>by
 obtain⟨p,q,l,j,i,g,R,E,d,k⟩:=h;cases d⟩
theorem tF{g:MG}(p:∀d l j,g d l j=b3):QG X e g:=⟨λa6r s σ H v u Q I r h=>by
 obtain⟨w,l,j,d,q,R,E,hd,i,k⟩:=h;rw[p]at i;cases i⟩
theorem m9(h1:QE X e m1)(p:QE X e m2)(h:∀i g r,m i g=b0 r->m1 i g=b0 r\/m2 i g=b0 r):QE X e m:=⟨λa6r s σ H Q I q=>by
 obtain⟨l,i,g,d,j,R,E,u,k⟩:=q;rcases h i g _ u with z|z
 .exact h1.h a6r s σ H Q I ⟨l,i,g,d,j,R,E,z,k⟩
 .exact p.h a6r s σ H Q I ⟨l,i,g,d,j,R,E,z,k⟩⟩
theorem oH{m m1 m2:MT}(h1:QT X e m1)(p:QT X e m2)(h:∀i g r,m i g=b0 r->m1 i g=b0 r\/m2 i g=b0 r):QT X e m:=⟨λa6r s σ H Q I q=>by
 obtain⟨l,i,g,d,j,R,E,u,k⟩:=q;rcases h i g _ u with z|z
 .exact h1.h a6r s σ H Q I ⟨l,i,g,d,j,R,E,z,k⟩
 .exact p.h a6r s σ H Q I ⟨l,i,g,d,j,R,E,z,k⟩⟩
theorem hW{f j k:D->D->Hm->jk}(h:∀x y d r,f x y d=b0 r->j x y d=b0 r\/k x y d=b0 r) :
  ∀i d r,aC f ma mb i d=b0 r->aC j ma mb i d=b0 r\/aC k ma mb i d=b0 r:=by
 intro i d r g;obtain⟨p,l,g⟩:=V6.mp g;obtain⟨q,s,g⟩:=V6.mp g;rcases h _ _ _ _ g with z|z
 .exact .inl (V6.mpr ⟨p,l,V6.mpr ⟨q,s,z⟩⟩)
 .exact .inr (V6.mpr ⟨p,l,V6.mpr ⟨q,s,z⟩⟩)
theorem oI(h:∀g d r,m g d=b0 r->m1 g d=b0 r\/m2 g d=b0 r):∀g d r,aQ m g d=b0 r->aQ m1 g d=b0 r\/aQ m2 g d=b0 r:=by
 intro g d r i;obtain⟨p,j,i⟩:=V6.mp i;rcases h _ _ _ j with z|z
 .exact .inl (V6.mpr ⟨p,z,i⟩)
 .exact .inr (V6.mpr ⟨p,z,i⟩)
noncomputable def oJ:List D->Option (List Int)
 |[]=>b0 []|.int i::r=>(oJ r).map (i::·)|_=>b3
noncomputable def cR:D->Option (List Int)
 |.tup ds=>oJ ds|_=>b3
noncomputable def a8(kvs:jx)(k:List Int):Option D:=(kvs.find? λp=>decide (p.1=k)).map (·.2)
noncomputable def b9(kvs:jx)(k:List Int)(d:D):jx:=if(a8 kvs k).isSome then kvs.map (λp=>if p.1=k then(p.1,d)else p)else kvs++[(k,d)]
noncomputable def aE:D->D->Hm->jk:=λx y g=>match x with
 |.loc a=>match g[a]? with
  |some (.dT kvs)=>(cR y).bind λk=>(a8 kvs k).map λd=>(d,g)|some (.dF kvs)=>(cR y).bind λk=>(a8 kvs k).map λd=>(d,g)|_=>hG x y g
 |_=>hG x y g
noncomputable def qA(kvs:List (bG×D))(mb:ME):ME:=λh g=>(mb h g).bind λp=>(sX p.1).bind λk=>(iM kvs k).map λd=>(d,p.2)
structure TabOk(X:Cx)(x:Str)(kvs:List (bG×D)):Prop where
 ex:∃(p:Addr)(vs:List (bG×V))(ws:List (bG×Value)),X.mg x=b0 (.ref p)/\(p==XB)=b4/\(∀h:Xo,X.K.In h->h.DictOf (f9 X.prog X.w) p ws)/\KV vs ws/\∀π n H,IsKs X.K π n H vs kvs
theorem M7{x:Str}{p:XX}{kvs:List (bG×D)}(T:TabOk X x kvs)(hg:Gl X x)(hd:(x==("__debug__":Str))=b4) (hb:QE X b mb)(h:m5 b=b5):QE X (.Subscript (.Name x p) b pos) (qA kvs mb):=⟨by
 obtain⟨q,vs,ws,hm,_,N,hv,hk⟩:=T.ex;intro r s σ H Q I hw;obtain⟨Z,ρ,Y,d,μ',R,E,i,k⟩:=hw;obtain⟨⟨y,j⟩,h1,i⟩:=V6.mp i;obtain⟨J,h2,i⟩:=V6.mp i;obtain⟨d',u,i⟩:=Wb.mp i;cases i;have L:∀{H':Hp}{O:Wf},Inv X r σ H' O->O.TypeIs (.ref q) "dict":=λI'=>(N _ I'.kIn).typeIs;refine BL a1I.lookup (xK h) (pL I hg hm ?_ hd);refine aR (hb.h r s σ H _ I ⟨Z,ρ,Y,y,_,R,E,h1,λg U l A z G=>(⟨g,A,z,G⟩:∃g,Ext Z Y.length H g j.length l/\Rp X.K g l j/\IsD X.K g j.length l U y)⟩) λiv s2 ⟨U,l,w,r1,g,A,z,G⟩=>?_;refine⟨L w,?_⟩;have ev:=CK G h2;subst ev;have dd:=N _ w.kIn;rcases(hk g j.length l).val J with⟨M,_⟩|⟨v,d2,M,z2,z3⟩
 .rw[M]at u;cases u
 .rw[M]at u;cases u;obtain⟨w',B,K⟩:=RelO.some_of (v:=v) (o:=a1j ws J) (by rw[<- z2];exact hv.val J);exact wpAny_getItem_of (BJ r1) dd.mapOf B ⟨v,l,w.tok _,K,k g v l A z z3⟩⟩
noncomputable def xR(kvs:List (bG×D))(ma:ME):ME:=λg d=>(ma g d).bind λp=>(sX p.1).map λk=>(.bl (iM kvs k).isSome,p.2)
theorem M8{x:Str}{p:XX}{kvs:List (bG×D)}(T:TabOk X x kvs)(hg:Gl X x)(hd:(x==("__debug__":Str))=b4) (ha:QE X a ma):QE X (.Compare a [.In] [.Name x p] pos) (xR kvs ma):=⟨by
 obtain⟨q,vs,ws,hm,hs,Z,hv,hk⟩:=T.ex;intro w s σ H Q I hw;obtain⟨L,ρ,K,d,μ',R,E,h,k⟩:=hw;obtain⟨⟨y,i⟩,U,h⟩:=V6.mp h;obtain⟨l,Y,h⟩:=Wb.mp h;cases h;refine a6g (aR (ha.h w s σ H _ I ⟨L,ρ,K,y,_,R,E,U,λg B j z u A=>(⟨g,z,u,A⟩:∃g,Ext L K.length H g i.length j/\Rp X.K g j i/\IsD X.K g i.length j B y)⟩) λiv s2 ⟨B,j,r,r1,g,z,u,A⟩=>pL r hg hm ?_ hd) rfl;have O:=CK A Y;subst O;have M:=Z _ r.kIn;refine wpAny_in_of (BJ r1) hs M.mapOf ⟨.bl _,j,r.tok _,rfl,?_⟩;have N:(a1j ws l).isSome=(iM kvs l).isSome:=by rw[<- (hv.val l).isSome_eq];rcases(hk g i.length j).val l with⟨G,J⟩|⟨v,d2,G,J,z3⟩<;>rw[G,J]<;>rfl
 rw[N];exact k g _ j z u (.bl _)⟩
theorem CU{a6r:jw}{σ:St}{H:Hp}{s:Wf}(I:Inv X a6r σ H s){p:Addr}{d:Obj}(h:X.K.lookup p=b0 d):H p=none:=(I.bs p d (I.mod.kin p d h)).2
theorem CV{K:V8}{π:Nat->Addr}{H:Hp}{i:Hm}(R:Rp K π H i){g:Nat}(l:g<i.length):∃u,H (π g)=b0 u/\(∀vs,u≠.tup vs)/\∀j v,(∀k,v≠HO.ext k)->u≠.frz j v:=by
 cases q:i[g]? with
 |none=>exact absurd (WZ.mp q) (by lia)|some cl=>
  cases cl with
  |lst d=>obtain⟨vs,h,_⟩:=R.lst g d q;exact⟨_,h,(λ_ z=>nomatch z),λ_ _ _ z=>nomatch z⟩|dK d=>obtain⟨vs,h,_⟩:=R.dK g d q;exact⟨_,h,(λ_ z=>nomatch z),λ_ _ _ z=>nomatch z⟩|st d=>obtain⟨vs,h,_⟩:=R.st g d q;exact⟨_,h,(λ_ z=>nomatch z),λ_ _ _ z=>nomatch z⟩|dT d=>obtain⟨vs,h,_⟩:=R.dT g d q;exact⟨_,h,(λ_ z=>nomatch z),λ_ _ _ z=>nomatch z⟩|dF d=>obtain⟨j,vs,h,_⟩:=R.dF g d q;exact⟨_,h,(λ_ z=>nomatch z),λ_ _ n z=>n _ (by cases z;rfl)⟩
section
variable{a6r:jw}{σ:St}{H:Hp}{s:Wf}{π:Nat->Addr}{μ:Hm}
theorem CW(I:Inv X a6r σ H s)(R:Rp X.K π H μ){g:Nat}(k:g<μ.length){vs:gz}(h:SqT X.K H (π g) vs):False:=by
 obtain⟨u,d,i,j⟩:=CV R k;rcases h with(h|⟨q,h⟩)|⟨q,p,n,l,_⟩
 .rw[d]at h;exact i _ (Wt h)
 .rw[d]at h;exact j _ (.tup vs) (λr z=>nomatch z) (Wt h)
 .rw[CU I l]at d;cases d
theorem CY(I:Inv X a6r σ H s)(R:Rp X.K π H μ){g:Nat}(j:g<μ.length){vs:gz}(h:RoL X.K H (π g) vs):False:=by
 obtain⟨u,d,q,i⟩:=CV R j;rcases h with⟨p,h⟩|⟨p,l,n,k,_⟩
 .rw[d]at h;exact i _ (.lst vs) (λr z=>nomatch z) (Wt h)
 .rw[CU I k]at d;cases d
theorem CZ(I:Inv X a6r σ H s){p:Addr}{vs ws:gz}(h:SqT X.K H p vs)(h':RoL X.K H p ws):False:=by obtain⟨g,_,t,_⟩:=I.tuple h;obtain⟨d,_,l,_⟩:=I.list h'.sq;exact absurd rfl (Yd l.isList t)
mutual
theorem xS(I:Inv X a6r σ H s)(R:Rp X.K π H μ){v:V}{d d':D}:IsD X.K π μ.length H v d->IsD X.K π μ.length H v d'->d=d'
 |.non,h'=>by cases h';rfl
 |.bl _,h'=>by cases h';rfl
 |.int _,h'=>by cases h';rfl
 |.str _,h'=>by cases h';rfl
 |.ty _,h'=>by cases h';rfl
 |.tup h t,h'=>by
  cases h' with
  |tup g i=>have:=I.tuple_inj h g;subst this;rw[xT I R t i]|rol g i=>exact(CZ I h g).elim|loc g=>exact(CW I R g h).elim
 |.rol h t,h'=>by
  cases h' with
  |tup g i=>exact(CZ I g h).elim|rol g i=>have:=I.list_inj h.sq g.sq;subst this;rw[xT I R t i]|loc g=>exact(CY I R g h).elim
 |.loc (a:=a1) ha,h'=>by
  generalize hz:V.ref (π a1)=z at h';cases h' with
  |tup g i=>cases hz;exact(CW I R ha g).elim|rol g i=>cases hz;exact(CY I R ha g).elim|loc g=>have:=R.inj _ _ ha g (V.ref.inj hz);rw[this]|_=>cases hz
theorem xT(I:Inv X a6r σ H s)(R:Rp X.K π H μ){vs:gz}{ds d:List D}:IsDs X.K π μ.length H vs ds->IsDs X.K π μ.length H vs d->ds=d
 |.nil,h'=>by cases h';rfl
 |.cons h t,h'=>by
  cases h' with
  |cons g i=>rw[xS I R h g,xT I R t i]
end
end
noncomputable def iO(a:Hm)(x:D):List D->Option Bool
 |[]=>b0 b4|y::r=>(c5 8 a y x).bind λb=>(iO a x r).map λc=>b||c
noncomputable def kR(a:Bool):D->D->Hm->jk:=λx y c=>(bM c y).bind λd=>(iO c x d).map λb=>(.bl (if a then !b else b),c)
noncomputable def xU(K:V8)(c:Bool):R2:=λx y H Q=>∃π a d e g b,Rp K π H a/\IsD K π a.length H x d/\IsD K π a.length H y e/\bM a e=b0 g/\iO a d g=b0 b/\Q (.bl (if c then !b else b)) H
theorem tG{K:V8}{c:Bool}:dA K (kR c) (xU K c):=by intro e H q x y d n o p Q R i j a k;obtain⟨l,g,a⟩:=V6.mp a;obtain⟨b,h,a⟩:=Wb.mp a;cases a;exact⟨e,_,x,y,l,b,R,i,j,g,h,k e _ H .refl R (.bl _)⟩
theorem tH{a6r:jw}{σ:St}{H:Hp}{s:Wf}{π:Nat->Addr}{i:Hm}(I:Inv X a6r σ H s)(R:Rp X.K π H i){A:WY}(U:A.units+8<XM){x:V}{v:Value}{n:D}(rx:RelV x v)(ix:IsD X.K π i.length H x n) :
  ∀{e:List D}{vs:gz}{us:gw}{b:Bool},IsDs X.K π i.length H vs e->Vals vs us->iO i n e=b0 b->
   ∃g:Value->Bool,(∀u∈us,Zr A s u v (g u))/\us.any g=b:=by
 classical
 intro e vs us b k l d
 have p:∀{e:List D}{vs:gz}{us:gw}{b:Bool},IsDs X.K π i.length H vs e->Vals vs us->iO i n e=b0 b->(∀u∈us,∃c,Zr A s u v c/\∃w o,RelV w u/\IsD X.K π i.length H w o/\c5 8 i o n=b0 c):=by
  intro e
  induction e with
  |nil=>
   intro vs us b k l d u a
   cases k
   cases l
   cases a
  |cons y e K=>
   intro vs us b k l d u a
   cases k with
   |cons h t=>
    cases l with
    |cons r rt=>
     obtain⟨c,E,d⟩:=V6.mp d
     obtain⟨O,G,d⟩:=Wb.mp d
     rcases WW.mp a with rfl|a
     .exact⟨c,w9 I R 8 U r rx h ix E,_,_,r,h,E⟩
     .exact K t rt G u a
 have q:=p k l d
 refine⟨λu=>if h:u∈us then Y5 (q u h)else b4,λu a=>?_,?_⟩
 .simp only[dif_pos a]
  exact(ZC (q u a)).1
 .have L:∀u (h:u∈us) w o c,RelV w u->IsD X.K π i.length H w o->c5 8 i o n=b0 c->Y5 (q u h)=c:=by
   intro u h w o c M iw N
   obtain⟨_,w2,Q,r2,Z,T⟩:=ZC (q u h)
   have:w2=w:=r2.inj M
   subst this
   have:=xS I R Z iw
   subst this
   rw[T]at N
   exact Wt N
  have B:∀{e:List D}{vs:gz}{j:gw}{b:Bool},(∀u∈j,u∈us)->IsDs X.K π i.length H vs e->Vals vs j->iO i n e=b0 b->j.any (λu=>if h:u∈us then Y5 (q u h)else b4)=b:=by
   intro e
   induction e with
   |nil=>
    intro vs j b J k l d
    cases k
    cases l
    cases d
    rfl
   |cons y e K=>
    intro vs j b J k l d
    cases k with
    |cons h t=>
     cases l with
     |@cons _ u _ us2 r rt=>
      obtain⟨c,E,d⟩:=V6.mp d
      obtain⟨O,G,d⟩:=Wb.mp d
      have fX:u∈us:=J u (Xd ..)
      rw[a2x,K (λz Y=>J z (WV _ Y)) t rt G,dif_pos fX,L u fX _ _ c r h E]
      exact d
  exact B (λ_ h=>h) k l d
theorem tI{k:Nat}{A:WY}(r:Room k A):A.units+9<XM:=by have:=r.un;lia
theorem C0(J:X.A.units+9<XM):OpR X (Xs .In) (xU X.K b4):=by
 intro n s O H x y v u Q I l B h;obtain⟨N,M,E,G,L,b,R,k,A,o,j,q⟩:=h;obtain⟨p,K,rfl,c,hd⟩:=m3 R A o;cases B;rcases c with c|c
 .obtain⟨a,r,i,z⟩:=I.list c;obtain⟨g,d,e⟩:=tH I R (A:=X.A.in1) (by rw[iK];lia) l k hd r j;refine SeqAt.in_listAt g i.isList (λw hw=>d w (by simpa using hw)) ⟨.bl _,H,I,rfl,?_⟩;rw[show a.toArray.any g=a.any g by simp,e];exact q
 .obtain⟨a,r,i,z⟩:=I.tuple c;obtain⟨g,d,e⟩:=tH I R (A:=X.A.in1) (by rw[iK];lia) l k hd r j;refine SeqAt.in_tupleAt g i (λw hw=>d w (by simpa using hw)) ⟨.bl _,H,I,rfl,?_⟩;rw[show a.toArray.any g=a.any g by simp,e];exact q
theorem C1(J:X.A.units+9<XM):OpR X (Xs .NotIn) (xU X.K b5):=by
 intro n s O H x y v u Q I l B h;obtain⟨N,M,E,G,L,b,R,k,A,o,j,q⟩:=h;obtain⟨p,K,rfl,c,hd⟩:=m3 R A o;cases B;rcases c with c|c
 .obtain⟨a,r,i,z⟩:=I.list c;obtain⟨g,d,e⟩:=tH I R (A:=X.A.in1) (by rw[iK];lia) l k hd r j;refine SeqAt.notIn_listAt g i.isList (λw hw=>d w (by simpa using hw)) ⟨.bl _,H,I,rfl,?_⟩;rw[show a.toArray.any g=a.any g by simp,e];exact q
 .obtain⟨a,r,i,z⟩:=I.tuple c;obtain⟨g,d,e⟩:=tH I R (A:=X.A.in1) (by rw[iK];lia) l k hd r j;refine SeqAt.notIn_tupleAt g i (λw hw=>d w (by simpa using hw)) ⟨.bl _,H,I,rfl,?_⟩;rw[show a.toArray.any g=a.any g by simp,e];exact q
noncomputable def cM(b:Bool):D->D->Hm->jk
 |.str i,.str j,μ=>b0 (.bl (if b then !(!(XN j i 0 j.length 1).isEmpty)else !(XN j i 0 j.length 1).isEmpty),μ)|x,.loc a,μ=>match μ[a]? with
  |some (.dT kvs)=>(cR x).map λk=>(.bl (if b then !(a8 kvs k).isSome else(a8 kvs k).isSome),μ)|some (.dF kvs)=>(cR x).map λk=>(.bl (if b then !(a8 kvs k).isSome else(a8 kvs k).isSome),μ)|_=>kR b x (.loc a) μ
 |x,y,μ=>kR b x y μ
noncomputable def xV:D->D->Hm->jk
 |.str i,.str j,μ=>b0 (.bl (!(!(XN j i 0 j.length 1).isEmpty)),μ)|_,_,_=>b3
theorem C2{K:V8}:dA K xV (λx y H Q=>∃i j,x=.str i/\y=.str j/\Q (.bl (!(!(XN j i 0 j.length 1).isEmpty))) H):=by
 intro g H n x y d e h l Q R b c a k;unfold xV at a;split at a
 .cases a;cases b;cases c;exact⟨_,_,rfl,rfl,k g _ H .refl R (.bl _)⟩
 .cases a
noncomputable def jW(a:Bool):D->D->Hm->jk
 |x,.non,μ=>b0 (.bl (match x with|.non=>!a|_=>a),μ)|_,_,_=>b3
theorem C3{K:V8}:dA K (jW b4) (λx y H Q=>y=.non/\Q (.bl (decide (x=.non))) H):=by
 intro g H j x y d e h i Q R b c a k;unfold jW at a;split at a
 .cases a;cases c;refine⟨rfl,?_⟩;cases b<;>exact k g _ H .refl R (.bl _)
 .cases a
theorem C4{K:V8}:dA K (jW b5) (λx y H Q=>y=.non/\Q (.bl (!decide (x=.non))) H):=by
 intro g H j x y d e h i Q R b c a k;unfold jW at a;split at a
 .cases a;cases c;refine⟨rfl,?_⟩;cases b<;>exact k g _ H .refl R (.bl _)
 .cases a
theorem M9(c:QE X a ma)(d:QE X b mb):QE X (.Compare a [.Is] [b] pos) (aC (jW b4) ma mb):=⟨fM Bx C3 c.h d.h (eH _)⟩
theorem Na(c:QE X a ma)(d:QE X b mb):QE X (.Compare a [.IsNot] [b] pos) (aC (jW b5) ma mb):=⟨fM By C4 c.h d.h (eH _)⟩
theorem Nb(c:QE X a ma)(d:QE X b mb):QT X (.Compare a [.Is] [b] pos) (aQ (aC (jW b4) ma mb)):=⟨fN Bx C3 c.h d.h (eH _)⟩
theorem Nc(c:QE X a ma)(d:QE X b mb):QT X (.Compare a [.IsNot] [b] pos) (aQ (aC (jW b5) ma mb)):=⟨fN By C4 c.h d.h (eH _)⟩
end
section
variable{X:Cx}{e a b c o:Expr}{m m1 m2 ma mb mc mo:ME}{pos apos cpos:XX}{mt mu:MT}{bZ es:List Expr}{ms:MA}{n:Nat}
noncomputable def oK(d:Hm):D->Bool
 |.rol _=>b5|.loc a=>match d[a]? with|some (.lst _)=>b5|_=>b4
 |_=>b4
noncomputable def cS(f:D->List D->Hm->jk)(mo:ME)(ms:MA):ME:=λd g=>(mo d g).bind λp=>match oK p.2 p.1 with
 |true=>(ms d p.2).bind λq=>f p.1 q.1 q.2|false=>b3
noncomputable def jA(K:V8)(f:D->List D->Hm->jk)(r:V->gz->Hp->VK->Prop):Prop:=
 ∀i H g x k d h v j Q,Rp K i H g->IsD K i g.length H v x->IsDs K i g.length H j k->f x k g=b0 (d,h)->KC K Q i g.length H d h->r v j H Q
theorem Nd{K:V8}{π:Nat->Addr}{H:Hp}{d:Hm}{v:V}{x:D}(R:Rp K π H d)(h:IsD K π d.length H v x)(e:oK d x=b5):wU K "list" v H:=by
 cases h with
 |rol h t=>exact .inl ⟨rfl,_,h.sq⟩|@loc a l=>
  simp only[oK]at e;split at e
  .rename_i k i;obtain⟨j,g,_⟩:=R.lst a k i;exact .inl ⟨rfl,j,.of g⟩
  .cases e
 |_=>cases e
theorem Nf{K:V8}{f:D->List D->Hm->jk}{r:V->gz->Hp->VK->Prop}(G:jA K f r):∀σ H Q,tM K (cS f mo ms) σ H Q->BV K "list" r (tM K mo) (tMA K ms) σ H Q:=by
 rintro σ H Q ⟨O,y,N,d,j,R,E,g,k⟩;obtain⟨⟨x,h⟩,A,g⟩:=V6.mp g;dsimp only at g;split at g
 .rename_i I;obtain⟨⟨w,i⟩,B,g⟩:=V6.mp g;refine⟨O,y,N,x,h,R,E,A,λl L T s q v=>⟨Nd q v I,l,y,h,w,i,q,E.mono s,B,λp M z u R2 J=>?_⟩⟩;exact G p z i x w d j L M Q R2 (v.mono u) J g (k.after (s.trans u))
 .cases g
noncomputable def lU:Expr->Bool
 |.Call (.Name _ _) [] [] _=>b4|_=>b5
theorem nB{o:Expr}{i:Str}{env:a1a}{d:a5H Value}(h:lU o=b5):ZF o i env d=d:=by
 cases o with
 |Call f g j p=>
  cases f with
  |Name id q=>
   cases g with
   |nil=>
    cases j with
    |nil=>cases h|cons _ _=>rfl
   |cons _ _=>rfl
  |_=>rfl
 |_=>rfl
theorem C5{e:Expr}{es:List Expr}{env:a1a}{cpos:XX}(h:(e::es).all dR=b5)(i:(e::es).length<30) :
  ((YG cpos (WU (e::es) env)).all (λx=>!x.1)&&(a2R cpos (a1d [] env)).all (λx=>x.1.isSome)
   && decide ((e::es).length+([]:List Zv).length+(if([]:List Zv).isEmpty then 0 else 1)<30))=true:=by
 have d:(YG cpos (WU (e::es) env)).all (λx=>!x.1)=true:=by have:=lR (pos:=cpos) (env:=env) h;rw[List.all_eq_not_any_not];simpa using this
 rw[d];have g:(e::es).length+([]:List Zv).length+(if([]:List Zv).isEmpty then 0 else 1)<30:=by show(e::es).length+0+0<30;lia
 rw[decide_eq_true g];rfl
theorem qB{f:D->List D->Hm->jk}{r:V->gz->Hp->VK->Prop}{name:Str}{id:String}(h:Slot "list" name id) (i:a6h (.builtin id)=pure (.type "method_descriptor")) (p:jQ X id r)(k:jA X.K f r)
  (s:QE X o mo)(j:QA X (e::es) ms n)(u:lU o=b5)(l:(apos.endLine==cpos.line)=b5)(q:(e::es).length<30):QE X (.Call (.Attribute o name apos) (e::es) [] cpos) (cS f mo ms):=by
 have g:=j.s;have d:=g;rw[W3,Wl]at d;exact⟨dH (JO PySem.F.plainAttrs_list h i p s.h j.h (nB u) (C5 g q) l (fQ d.1) (lR d.2)) (Nf k)⟩
noncomputable def dU:D->List D->Hm->jk
 |.loc a,[y],μ=>(oF μ a y).map λd=>(.non,d)|_,_,_=>b3
noncomputable def kS:D->List D->Hm->jk
 |.loc a,[.loc b],μ=>match μ[a]?,μ[b]? with
  |some (.lst xs),b0 (.lst ys)=>if xs.length+ys.length<=Wq then b0 (.non,μ.set a (.lst (xs++ys)))else b3|_,_=>b3
 |_,_,_=>b3
theorem Ng{K:V8}{π:Nat->Addr}{n:Nat}{H:Hp}{vs:gz}{ds:List D}(h:IsDs K π n H vs ds):IsDs K π n H vs.reverse ds.reverse:=by
 induction ds generalizing vs with
 |nil=>cases h;exact .nil|cons d ds g=>
  cases h with
  |cons h t=>rw[a0g,a0g];exact(g t).append (.cons h .nil)
theorem Nh{K:V8}:jA K dU BX:=by
 intro I H M x L d E v J Q R A i h k;unfold dU at h;split at h
 .rename_i a y;obtain⟨G,g,h⟩:=Wb.mp h;cases h;unfold oF at g;split at g
  .rename_i r q;split at g
   .rename_i w;cases g;obtain⟨j,l,p⟩:=R.lst a r q;cases A;cases i with
    |cons B z=>cases z;obtain⟨u,s⟩:=R.put (a:=a) (c:=.lst (r++[y])) (o:=.lst (j++[_])) (Wa.mp q).1 l (.inl ⟨j,rfl⟩) (p.append (.cons B .nil));exact⟨_,j,_,rfl,rfl,l,by rw[p.length];exact w,k I _ _ u s .non⟩
   .cases g
  .cases g
 .cases h
theorem Ni{K:V8}:jA K kS BZ:=by
 intro L H O x N d J v M Q R G h g k;unfold kS at g;split at g
 .rename_i a b;split at g
  .rename_i u s q B;split at g
   .rename_i A;cases g;obtain⟨i,j,l⟩:=R.lst a u q;obtain⟨r,z,p⟩:=R.lst b s B;cases G;cases h with
    |cons I E=>cases E;cases I;obtain⟨y,w⟩:=R.put (a:=a) (c:=.lst (u++s)) (o:=.lst (i++r)) (Wa.mp q).1 j (.inl ⟨i,rfl⟩) (l.append p);exact⟨_,_,i,r,rfl,rfl,j,z,by rw[l.length,p.length];exact A,k L _ _ y w .non⟩
   .cases g
  .cases g
 .cases g
noncomputable def nC:D->List D->Hm->jk
 |.loc a,[.int i],μ=>match μ[a]? with
  |some (.lst xs)=>if 0<=i/\i<2^62 then(xs[i.toNat]?).map λy=>(y,μ.set a (.lst (xs.eraseIdx i.toNat)))else b3|_=>b3
 |_,_,_=>b3
theorem Nj{K:V8}{π:Nat->Addr}{n:Nat}{H:Hp}{vs:gz}{ds:List D}(h:IsDs K π n H vs ds)(k:Nat):IsDs K π n H (vs.eraseIdx k) (ds.eraseIdx k):=by rw[a1s,a1s];exact(h.take k).append (h.drop (k+1))
theorem Nk{i:Int}{n:Nat}(d:0<=i)(h:i.toNat<n):a2h i n=b0 i.toNat:=by have e:(if i<0 then i+(n:Int)else i)=i:=if_neg (by lia);unfold a2h;dsimp only;rw[e,if_pos (by rw[Wl,decide_eq_true_iff,decide_eq_true_iff];lia)]
theorem Nl{K:V8}:jA K nC B0:=by
 intro L H O x N d J v M Q R G h g k;unfold nC at g;split at g
 .split at g
  .rename_i s r;split at g
   .rename_i B;obtain⟨y,z,g⟩:=Wb.mp g;cases g;obtain⟨i,l,p⟩:=R.lst _ s r;cases G;cases h with
    |cons E I=>cases E;cases I;obtain⟨w,q,A⟩:=p.get z;obtain⟨j,u⟩:=R.put (c:=.lst (s.eraseIdx _)) (o:=.lst (i.eraseIdx _)) (Wa.mp r).1 l (.inl ⟨i,rfl⟩) (Nj p _);have hw:=(Wa.mp q).1;refine⟨_,i,_,_,w,rfl,rfl,l,by lia,by lia,Nk B.1 hw,q,k L w _ j u (A.mono j)⟩
   .cases g
  .cases g
 .cases g
noncomputable def jX(d:Hm):D->Option Bool
 |.non=>b0 b4|.bl b=>b0 b|.int i=>b0 (i != 0)|.str z=>if z.length<=Wq then b0 ((z.length:Int) != 0)else b3|.tup xs=>b0 (!xs.isEmpty)|.rol xs=>b0 (!xs.isEmpty)|.loc a=>match d[a]? with|some (.lst xs)=>b0 (!xs.isEmpty)|some (.dK kvs)=>b0 (!kvs.isEmpty)|_=>b3
 |.ty _=>b3
theorem tJ{g i:Type}{xs:List g}{d:List i}(h:xs.length=d.length):xs.isEmpty=d.isEmpty:=by cases xs<;>cases d<;>first|rfl|cases h
theorem Nm{K:V8}{π:Nat->Addr}{H:Hp}{p:Hm}{v:V}{x:D}{b:Bool}(R:Rp K π H p)(h:IsD K π p.length H v x)(e:jX p x=b0 b):wI K v H b:=by
 cases h with
 |non=>cases e;rfl|bl c=>cases e;rfl|int i=>cases e;rfl|str z=>
  simp only[jX]at e;split at e
  .rename_i q;cases e;exact⟨q,rfl⟩
  .cases e
 |tup h t=>cases e;exact .inr (.inl ⟨_,h,by rw[tJ t.length]⟩)|rol h t=>cases e;exact .inl ⟨_,h.sq,by rw[tJ t.length]⟩|@loc a s=>
  simp only[jX]at e;split at e
  .rename_i r j;cases e;obtain⟨l,d,g⟩:=R.lst a r j;exact .inl ⟨l,.of d,by rw[tJ g.length]⟩
  .rename_i k j;cases e;obtain⟨l,d,g,_⟩:=R.dK a k j;refine .inr (.inr ⟨l,d,?_⟩);have:=congrArg Xm g;rw[V7,V7]at this;rw[tJ this]
  .cases e
 |ty n=>cases e
noncomputable def cV(m:ME):MT:=λg d=>(m g d).bind λp=>(jX p.2 p.1).map λb=>(b,p.2)
theorem Nn(h:QE X e m)(r:xM e=b5):QT X e (cV m):=⟨sO (IV h.h (Mm r)) (by
 rintro G H Q ⟨y,z,u,b,v,R,E,d,k⟩;obtain⟨⟨x,w⟩,p,d⟩:=V6.mp d;obtain⟨A,q,d⟩:=Wb.mp d;cases d;exact⟨y,z,u,x,_,R,E,p,λg B j l i s=>⟨_,Nm i s q,k g j l i⟩⟩)⟩
theorem Np{k:Nat}{f:Addr}{j:YI}{ps:List Str}{l:MF}{x:Str}{p:XX}(F:FnOk X.prog X.w X.K X.mg X.base fW k f j ps (i0 X.K 0 l))(v:Room k X.A)(g:X.mg x=b0 (.ref f))
  (u:X8 X.K (.ref f)=b5)(r:Binds X.K j ps [])(s:Gl X x)(h:(x==("__debug__":Str))=b4):QE X (.Call (.Name x p) [] [] pos) (aF l aD):=
 ⟨dH (Jh F v s g u r .nil (E:=E0) B4 h) (by
  rintro G H Q ⟨z,B,w,d,i,R,E,g,k⟩;obtain⟨⟨A,y⟩,q,g⟩:=V6.mp g;cases q;exact⟨rfl,z,[],w,d,i,R,.nil,g,k⟩)⟩
noncomputable def nD(c:MT)(b:MS):Nat->MS
 |0,_,_=>b3|n+1,ρ,μ=>(c ρ μ).bind λp=>match p.1 with
  |false=>b0 (.nx,ρ,p.2)|true=>(b ρ p.2).bind λq=>match q.1 with
   |.nx=>nD c b n q.2.1 q.2.2|.ct=>nD c b n q.2.1 q.2.2|.bk=>b0 (.nx,q.2.1,q.2.2)|.rt d=>b0 (.rt d,q.2.1,q.2.2)
noncomputable def lV(n:Nat)(c:MT)(b:MS):MS:=nD c b n
theorem Nq{body:List Stmt}{mb:MS}(n:Nat)(hc:QT X c mt)(hb:QB X body mb)(hp:a2m (WM X.prog X.w) X.A X.env X.xe):QS X (.While c body [] pos) (lV n mt mb):=⟨i5 (Iu hp hc.h hb.h) (by
 rintro E σ H ⟨Y,ρ,U,Q,B,z,R,EN,hm,k⟩;have q:∀{h:Nat->Addr}{n2:Nat}{H2:Hp}(e:Ext Y U.length H h n2 H2),mV X.K E h n2 H2 Q B z:=λ{h n2 H2} e=>by
  cases Q with
  |nx=>exact λi s y j x J=>k i s y (e.trans j) x J|bk=>exact λi s y j x J=>k i s y (e.trans j) x J|ct=>exact λi s y j x J=>k i s y (e.trans j) x J|rt d=>exact KC.after k e
 refine⟨λm v w=>∃h l r,Ext Y U.length H h l.length w/\Rp X.K h w l/\En X.K h l.length w v r/\nD mt mb m r l=b0 (Q,B,z),⟨n,Y,U,ρ,.refl,R,EN,hm⟩,?_⟩;rintro m σ1 H1 ⟨h,l,r,M,R2,Z,h2⟩;cases m with
 |zero=>cases h2|succ m=>
  obtain⟨⟨b,O⟩,h3,h4⟩:=V6.mp h2;refine⟨h,r,l,b,O,R2,Z,h3,λi y j x=>?_⟩;cases b with
  |false=>refine lJ ?_;cases h4;exact q M i σ1 y j x (Z.mono j)|true=>
   refine lK ?_;obtain⟨⟨f4,G,A⟩,h5,T⟩:=V6.mp h4;refine⟨λv w=>∃g u p,Ext Y U.length H g p.length w/\Rp X.K g w p/\En X.K g p.length w v u/\nD mt mb m u p=b0 (Q,B,z),
    λv w ⟨g,u,p,a1,a2,a3,a4⟩=>⟨m,X7 _,g,p,u,a1,a2,a3,a4⟩,i,r,O,f4,G,A,x,Z.mono j,h5,?_⟩
   cases f4 with
   |nx=>exact λg I H5 N L K=>⟨g,G,A,(M.trans j).trans N,L,K,T⟩|ct=>exact λg I H5 N L K=>⟨g,G,A,(M.trans j).trans N,L,K,T⟩|bk=>cases T;exact λg I H5 N L K=>q (M.trans j) g I H5 N L K|rt d'=>
    cases T;exact q (M.trans j))⟩
theorem Nr:QS X (.Return b3 pos) (aO (mC .non)):=⟨i5 Ii (by
 rintro E r H ⟨h,q,p,l,i,g,R,j,d,k⟩;cases d;exact k h .non H .refl R .non)⟩
end
noncomputable def oM:List D->Option (List Bool)
 |[]=>b0 []|.bl b::r=>(oM r).map (b::·)|_=>b3
noncomputable def tK:MF:=λds a=>match ds with
 |[x]=>(bM a x).bind λb=>(oM b).map λbs=>(.bl (bs.all id),a)|_=>b3
theorem C6{K:V8}{π:Nat->Addr}{n:Nat}{H:Hp}:∀{xs:List D}{vs:gz}{bs:List Bool},IsDs K π n H vs xs->oM xs=b0 bs->vs=bs.map V.bl
 |[],_,bs,h,e=>by cases h;cases e;rfl
 |x::xs,vs,bs,h,e=>by
  cases h with
  |cons h t=>
   cases x with
   |bl b=>obtain⟨a,c,d⟩:=Wb.mp e;subst d;cases h;rw[C6 t c];rfl|_=>cases e
noncomputable def C7(K:V8)(g:List Bool->Bool):gz->Hp->VK->Prop:=λxs H Q=>∃p bs,xs=[.ref p]/\(SqL K H p (bs.map V.bl)\/SqT K H p (bs.map V.bl))/\Q (.bl (g bs)) H
theorem Nt{K:V8}{g:List Bool->Bool}{f:MF}(h:f=λds b=>match ds with|[x]=>(bM b x).bind λxs=>(oM xs).map λbs=>(.bl (g bs),b)|_=>b3):dP K f (C7 K g):=by
 subst h;intro l H b xs d j n Q R i a k;dsimp only at a;split at a
 .obtain⟨r,c,a⟩:=V6.mp a;obtain⟨bs,e,a⟩:=Wb.mp a;cases a;cases i with
  |cons i t=>cases t;obtain⟨p,o,rfl,q,hd⟩:=m3 R i c;have:=C6 hd e;subst this;exact⟨p,bs,rfl,q,k l _ H .refl R (.bl _)⟩
 .cases a
theorem C8{bs:List Bool}{n:Nat}(a:n=bs.length):(WR n).all (λi=>bs.getD i b4)=bs.all id:=by
 subst a;induction bs with
 |nil=>rfl|cons b bs c=>rw[WO,a0s,W3,a2K,W3,<- c];rfl
section
variable{X:Cx}
theorem C9{prog:WL}{w:WX}{A:WY}{bs:List Bool}{its:gw}(r:Vals (bs.map V.bl) its):TruthOf prog w A (λi v=>its.toArray[i]?=b0 v) (λi=>bs.getD i b4):=by
 intro i v s Q E h b;have a:its[i]?=b0 v:=by simpa using h
 have d:i<bs.length:=by have:=(Wa.mp a).1;have:=r.length;rw[V7]at this;lia
 obtain⟨u,c,g⟩:=r.get (i:=i) (x:=.bl bs[i]) (by rw[Ws,Wi d];rfl);rw[a]at c;cases c;cases g;have e:bs.getD i b4=bs[i]:=by simp[Xx,d]
 dsimp only at b;rw[e]at b;exact XH b
theorem Nu(hc:X.calm=b5):CallR X (.builtin "all") (C7 X.K (·.all id)):=by
 intro y s J H G E Q I r h;obtain⟨p,bs,rfl,j,q⟩:=h;obtain⟨u,rfl,B⟩:=fV r;cases B;have x:X.A.in1.handled=none:=I.ok.hd hc;rcases j with j|j
 .obtain⟨a,k,g,A⟩:=I.list j;refine call_all_walk (a0p g.isList ?_);have d:p≠s.heap.objs.size:=by obtain⟨o,n,_⟩:=g.isList;exact WD (Wm n)
  refine⟨s.heap.objs.size,_,_,_,_,_,λi=>bs.getD i b4,rfl,a5v x _ p d a.toArray,⟨⟨_,Wn _ rfl,rfl,rfl⟩,g.isList.push _⟩,C9 k,λz w v=>?_⟩;have c:a.toArray.size=bs.length:=by rw[Ww,<- k.length,V7]
  refine⟨.bl _,H,I.kept (t':=w) λb o e=>v b o ?_ (Wc _ e),rfl,?_⟩
  .intro l;have:b=s.heap.objs.size:=by simpa using l
   exact WD (Wm e) this
  .rw[C8 c];exact q
 .obtain⟨a,k,g,A⟩:=I.tuple j;refine call_all_walk (Y1 (show s.heap.IsTuple p a.toArray from g) ?_);have d:p≠s.heap.objs.size:=by obtain⟨o,n,_⟩:=g;exact WD (Wm n)
  refine⟨s.heap.objs.size,_,_,_,_,_,λi=>bs.getD i b4,rfl,a1x x _ p d a.toArray,⟨⟨_,Wn _ rfl,rfl,rfl⟩,a0N g _⟩,C9 k,λz w v=>?_⟩;have c:a.toArray.size=bs.length:=by rw[Ww,<- k.length,V7]
  refine⟨.bl _,H,I.kept (t':=w) λb o e=>v b o ?_ (Wc _ e),rfl,?_⟩
  .intro l;have:b=s.heap.objs.size:=by simpa using l
   exact WD (Wm e) this
  .rw[C8 c];exact q
end
open PyProof.Rows (IntsAre)
open PySem.W (KasT kas_asc kas_desc kas_tail3 kas_descPart kas_count kas_place kas_bin kas_sort kas_rev kas_ask)
noncomputable def qC{b:Type}(ans:Nat->Nat->Bool):KasT b->b
 |.ret a=>a|.ask i j k=>qC ans (k (ans i j))
noncomputable def InR{c:Type}(n:Nat)(R:c->Prop):KasT c->Prop
 |.ret a=>R a|.ask i j k=>i<n/\j<n/\∀b,InR n R (k b)
theorem InR.bind{c e:Type}{n:Nat}{R:c->Prop}{R':e->Prop}{f:c->KasT e}(d:∀a,R a->InR n R' (f a)):∀{t:KasT c},InR n R t->InR n R' (t.bind f)
 |.ret a,q=>d a q|.ask i j k,q=>⟨q.1,q.2.1,λb=>InR.bind d (q.2.2 b)⟩
theorem Dd{c:Type}{n:Nat}{R:c->Prop}{ans:Nat->Nat->Bool}{b:Nat->Nat->(Bool->Wf->Prop)->Wf->Prop}{s:Wf}(hc:∀i j (C:Bool->Wf->Prop),i<n->j<n->C (ans i j) s->b i j C s){Q:c->Wf->Prop} :
  ∀{t:KasT c},InR n R t->Q (qC ans t) s->t.kasWp b Q s
 |.ret a,_,q=>q|.ask i j k,h,q=>hc i j _ h.1 h.2.1 (Dd hc (h.2.2 _) q)
theorem De{b:Type}{n:Nat}{R:b->Prop}{ans:Nat->Nat->Bool}:∀{t:KasT b},InR n R t->R (qC ans t)
 |.ret a,q=>q|.ask i j k,h=>De (t:=k (ans i j)) (h.2.2 _)
section
variable{n:Nat}
noncomputable def IxOk(n:Nat)(p:Array Nat):Prop:=p.Perm (WR n).toArray
theorem IxOk.lt{p:Array Nat}(h:IxOk n p)(c:0<n)(i:Nat):p.getD i 0<n:=by
 by_cases a:i<p.size
 .have e:p.getD i 0=p[i]:=by simp[a1Z,a]
  rw[e];have d:p[i]∈p:=a1i a;have b:p[i]∈(WR n).toArray:=h.mem_iff.mp d;simpa using b
 .have e:p.getD i 0=0:=by simp[a1Z,a]
  rw[e];exact c
theorem IxOk.rev{p:Array Nat}(h:IxOk n p)(i j:Nat):IxOk n (a3O p i j):=(a5K _ _ _ _).trans h
theorem IxOk.bub{p:Array Nat}(h:IxOk n p)(i j:Nat):IxOk n (a5R p i j):=(a5Q _ _ _).trans h
theorem xW{p:Array Nat}(h:IxOk n p)(a:0<n):∀(f m:Nat),InR n (λ_=>True) (kas_asc p f m)
 |0,m=>trivial
 |f+1,m=>⟨h.lt a _,h.lt a _,λb=>by
   cases b with
   |true=>exact trivial
   |false=>exact xW h a f (m+1)⟩
theorem tL(a:0<n):∀(f:Nat)(p:Array Nat)(m q:Nat),IxOk n p->InR n (λr=>IxOk n r.1) (a6m f p m q)
 |0,p,m,q,h=>h
 |f+1,p,m,q,h=>⟨h.lt a _,h.lt a _,λb=>by
   cases b with
   |true=>
    show InR n _ (if q>0 then a6m f (a3O p (m-(q+1)) m) (m+1) 0 else a6m f p (m+1) 0);split
    .exact tL a f _ _ _ (h.rev _ _)
    .exact tL a f _ _ _ h
   |false=>
    refine⟨h.lt a _,h.lt a _,λd=>?_⟩;cases d with
    |true=>exact h
    |false=>exact tL a f _ _ _ h⟩
theorem Df(c:0<n){p:Array Nat}(h:IxOk n p)(a r:Nat):InR n (λr=>IxOk n r.2) (a3z a r p):=
 by
 have b:IxOk n (a3O p 0 a):=h.rev 0 a;unfold a3z;refine InR.bind (R:=λ_=>True) (λm _=>?_) (xW b c _ _);exact b
theorem Dg(b:0<n){p:Array Nat}(h:IxOk n p)(a r:Nat):InR n (λr=>IxOk n r.2) (a3P a r p):=
 InR.bind (λq c=>by
  show InR n _ (if q.2.2>0 then a3z q.2.1 r (a3O q.1 (q.2.1-(q.2.2+1)) q.2.1)else a3z q.2.1 r q.1);split
  .exact Df b (c.rev _ _) _ _
  .exact Df b c _ _) (tL b _ _ _ _ h)
theorem Nv(a:0<n){p:Array Nat}(h:IxOk n p)(r:Nat):InR n (λr=>IxOk n r.2) (kas_count r p):=
 InR.bind (λm _=>by
  show InR n _ (if(m==r)=b5 then a3l (m,p)else if m>1 then KasT.ask (p.getD 0 0) (p.getD (m-1) 0) (λc=>if c=b5 then a3l (m,p)else a3P m r (a3O p 0 m))else a3P m r p);split
  .exact h
  .split
   .refine⟨h.lt a _,h.lt a _,λb=>?_⟩;cases b with
    |true=>exact h|false=>exact Dg a (h.rev _ _) _ _
   .exact Dg a h _ _) (xW h a _ _)
theorem xX{p:Array Nat}(h:IxOk n p)(a:0<n)(k:Nat):∀(f l r:Nat),InR n (λ_=>True) (a5t p k f l r)
 |0,l,r=>trivial|f+1,l,r=>by
  show InR n _ (if l >= r then a3l l else KasT.ask (p.getD k 0) (p.getD ((l+r)/2) 0) λc=>if c=b5 then a5t p k f l ((l+r)/2)else a5t p k f ((l+r)/2+1) r);split
  .exact trivial
  .refine⟨h.lt a _,h.lt a _,λb=>?_⟩;cases b with
   |true=>exact xX h a k f _ _|false=>exact xX h a k f _ _
theorem Dh(a:0<n):∀(f:Nat)(p:Array Nat)(k:Nat),IxOk n p->InR n (IxOk n) (kas_bin f p k)
 |0,p,k,h=>h|f+1,p,k,h=>InR.bind (λl _=>Dh a f _ _ (h.bub _ _)) (xX h a k _ _ _)
theorem qD(a:0<n):InR n (IxOk n) (a6l n):=
 InR.bind (λr b=>by
  show InR n _ (if r.1<n then kas_bin (n-max r.1 1) r.2 (max r.1 1)else a3l r.2);split
  .exact Dh a _ _ _ b
  .exact b) (Nv a (Array.Perm.refl _) n)
end
noncomputable def cW(lt:Nat->Nat->Bool)(n:Nat):List Nat:=(qC lt (a6l n)).toList
theorem Di(lt:Nat->Nat->Bool){n:Nat}(a:0<n):(cW lt n).Perm (WR n):=by have h:IxOk n (qC lt (a6l n)):=De (qD a);have:=Array.perm_iff_toList_perm.mp h;simpa[cW]using this
section
variable{X:Cx}{a6r:jw}{σ:St}{H:Hp}{s:Wf}
end
section
open PyProof.Rows
variable{prog:WL}{w:WX}{A:WY}{E:Value->Wf->Prop}{s:Wf}
theorem Dj{c:Addr}{us:gw}{z:Nat}{R:Fin->Wf->Prop}(h:us.length<2)(g:s.heap.get? c=b0 (X6 "list" us.toArray z)) (q:R (.done (.ret .none)) {s with heap:=a2O s.heap c us us.toArray}) :
  WI (WM prog w) A (Builtin.«list.sort» ⟨[.ref c],[]⟩) R E s:=by
 rw[a5E];have lt:c<s.heap.objs.size:=Wm g;refine V9 (listItems_at g rfl (V9 (a1w g rfl ?_)));obtain⟨y,d⟩:∃y,(s.heap.update c (Xg λ_=>#[])).get? c=b0 (X6 "list" #[] y):=⟨_,a5G g _⟩;refine V9 (a2r d rfl (V9 (a2M (V9 (a1u (Xb ?_))))));have e:(((s.heap.update c (Xg λ_=>#[])).push (X6 "tuple" us.toArray 0)).push (X6 "list" #[] 0)).get? c=b0 (X6 "list" #[] y):=
  Wc _ (Wc _ d)
 show WI (WM prog w) A _ R E ⟨((s.heap.update c (Xg λ_=>#[])).push (X6 "tuple" us.toArray 0)).push (X6 "list" #[] 0),s.gens,s.drawn,s.toks,s.os⟩;dsimp only;have a:us.toArray.size<2:=by simpa using h
 rw[if_pos a,if_pos a];refine V9 (Wg ?_);rw[StateT.run_pure];refine V9 (Wg ?_);dsimp only;have b:a6e (λx=>x.2) (arrOf (SortSt.mk' general' (us.toArray.zip us.toArray) #[] 7 b3))=us.toArray:=by show a6e (λx=>x.2) (us.toArray.zip us.toArray)=us.toArray;exact Array.ext (by simp) (λi j k=>by simp)
 refine V9 (a2r e rfl (V9 (a1w e rfl ?_ (hsz2:=by rw[b,Wv];lia))));rw[b];simp only[bne_self_eq_false,WQ,if_false];exact Wg q
end
theorem Dk(lt:Nat->Nat->Bool):cW lt 1=[0]:=rfl
theorem xY(lt:Nat->Nat->Bool):cW lt 0=[]:=rfl
theorem jY(lt:Nat->Nat->Bool)(n:Nat):(cW lt n).Perm (WR n):=by
 cases n with
 |zero=>rw[xY];exact .nil|succ n=>exact Di lt (Nat.succ_pos n)
section
variable{X:Cx}
end
theorem Nw{ns:List Int}{us:gw}(h:Vals (ns.map V.int) us):Zw us ns:=wL h
section
variable{X:Cx}
end
end L3
namespace L3
open PySem PySem.Spec
namespace Tb
section
variable{prog:WL}{w:WX}{A:WY}{E:Value->Wf->Prop}{s:Wf}
noncomputable abbrev IsT(prog:WL)(w:WX)(h:Xo)(k:List Int)(b:Addr):Prop:=IsTupleKey (Y3 prog w) h k b
end
section
variable{prog:WL}{w:WX}{A:WY}{R:a1h->Wf->Prop}{I:Addr}{fp wr:List Addr}{G:Array a4F->Array a4F->Prop}{n:Nat}{P:Nat->Value->Prop}{St:Nat->Wf->Prop}
end
section
variable{prog:WL}{w:WX}{A:WY}{E:Value->Wf->Prop}{s:Wf}
noncomputable abbrev fY(a:Bool):Obj:={cls:=.type "set",dict:=b3,data:=.set #[] 0 (.fresh 0 0 a)}
end
end Tb
end L3
namespace L3
open PySem L2
open PyProof.Rows (IntsAre)
theorem xZ:∀{ds:List D}{k:List Int},oJ ds=b0 k->ds=k.map D.int
 |[],k,h=>by cases h;rfl
 |d::ds,k,h=>by
  cases d with
  |int i=>obtain⟨c,a,b⟩:=Wb.mp h;subst b;rw[xZ a];rfl|_=>cases h
theorem qE{x:D}{k:List Int}(h:cR x=b0 k):x=.tup (k.map D.int):=by
 cases x with
 |tup ds=>rw[xZ h]|_=>cases h
noncomputable def e8(b:Hm):D->Option (List D)
 |.rol xs=>b0 xs|.loc a=>match b[a]? with
  |some (.lst xs)=>b0 xs|_=>b3
 |_=>b3
section
variable{K:V8}{π:Nat->Addr}{n:Nat}{H:Hp}{μ:Hm}
theorem oN{v:V}{x:D}{xs:List D}(R:Rp K π H μ)(h:IsD K π μ.length H v x)(e:e8 μ x=b0 xs):∃p vs,v=.ref p/\SqL K H p vs/\IsDs K π μ.length H vs xs:=by
 cases h with
 |rol q t=>cases e;exact⟨_,_,rfl,q.sq,t⟩|@loc a g=>
  simp only[e8]at e;split at e
  .rename_i i d;cases e;obtain⟨vs,b,c⟩:=R.lst a xs d;exact⟨_,vs,rfl,.of b,c⟩
  .cases e
 |_=>cases e
theorem ints_of':∀{vs:gz}{k:List Int},IsDs K π n H vs (k.map D.int)->vs=k.map V.int
 |_,[],h=>by cases h;rfl
 |_,i::k,h=>by
  cases h with
  |cons h t=>cases h;rw[ints_of' t];rfl
theorem yA:∀(k:List Int),IsDs K π n H (k.map V.int) (k.map D.int)
 |[]=>.nil|i::k=>.cons (.int i) (yA k)
end
theorem Dl{X:Cx}:∀{k:List Int}{xs:gw},Vals (k.map V.int) xs->ItemsAre (Y3 X.prog X.w) k xs
 |[],_,h=>by cases h;exact .nil
 |i::k,_,h=>by
  cases h with
  |cons h t=>obtain⟨a,rfl⟩:=h;exact .cons (intKind_is _ _ _ _) (Dl t)
section
variable{X:Cx}{a6r:jw}{σ:St}{H:Hp}{s:Wf}
theorem jZ(I:Inv X a6r σ H s){b:Addr}{k:List Int}(h:SqT X.K H b (k.map V.int)):Tb.IsT X.prog X.w s.heap k b:=by obtain⟨i,g,⟨a,e,c,n,d⟩,_⟩:=I.tuple h;exact⟨a,i.toArray,n,e,c,d,by simpa using Dl g⟩
theorem call_lenT:CallR X (.builtin "len") (λxs H Q=>∃a L,xs=[V.ref a]/\H a=b0 (sM a L)/\Q (.int L.length) H):=by
 intro a6r s σ H xs A Q I r h;obtain⟨a,L,rfl,e,q⟩:=h;obtain⟨u,rfl,y⟩:=fV r;cases y;obtain⟨⟨o,p,x,d,z,t,R,c,hd,g,ok,v,n,k,i,w,j⟩,_,_⟩:=I.hok a _ e;have b:d.size=L.length:=by have:=v.length_eq;simpa using this
 have l:t.mask<=511:=by rcases k with h|h|h|h<;>lia
 refine call_len_set p c hd (Tb.fits_of ok g) (by rw[b];lia) ?_;rw[b];exact⟨.int L.length,H,I.tok _,⟨_,rfl⟩,q⟩
end
end L3
namespace L3
open PySem L2
theorem Dm{K:V8}{π:Nat->Addr}{n:Nat}{H:Hp}:∀{vs:gz}{xs:List D}(i:Nat),IsDs K π n H vs xs->IsD K π n H (vs.getD i .non) (xs.getD i .non)
 |_,_,i,.nil=>by simp;exact .non
 |_,_,0,.cons h _=>h|_,_,i+1,.cons _ t=>by simpa using Dm i t
theorem Dn{K:V8}{π:Nat->Addr}{n:Nat}{H:Hp}{vs:gz}{xs:List D}(h:IsDs K π n H vs xs):∀(l:List Nat),IsDs K π n H (l.map λi=>vs.getD i .non) (l.map λi=>xs.getD i .non)
 |[]=>.nil|i::l=>.cons (Dm i h) (Dn h l)
open PyProof.Rows (IntsAre Fr News seqObj)
section
variable{prog:WL}{w:WX}{A:WY}{E:Value->Wf->Prop}{s:Wf}{h₀:Xo}{L:Addr}{m:Str->Option Value}{news:jw}
end
section
variable{X:Cx}{a6r:jw}{σ:St}{H:Hp}{s:Wf}
end
end L3
namespace L3
open PySem
open PySem.W (KasT kas_asc kas_desc kas_tail3 kas_descPart kas_count kas_place kas_bin kas_sort kas_rev)
open PyProof.Rows (mirror bubble getElem?_bubble getElem?_mirror_all mirror_size bubble_size)
section
variable{ans:Nat->Nat->Bool}{κ:Nat->Nat}(hk:∀i j,ans i j=decide (κ i<κ j))
noncomputable def gK(κ:Nat->Nat)(p:Array Nat)(k:Nat):Nat:=κ (p.getD k 0)
structure Falls(κ:Nat->Nat)(p:Array Nat)(n q:Nat):Prop where
 fall:∀i j,i<=j->j<n->gK κ p j<=gK κ p i
 alike:∀k,n-1-q<=k->k<n->gK κ p k=gK κ p (n-1)
 qn:q<n
end
section
variable{α:Type}{lt:α->α->Bool}(irr:∀a,lt a a=b4)(tr:∀a b c,lt a b=b5->lt b c=b5->lt a c=b5)(nt:∀a b c,lt a b=b5->lt a c=b5\/lt c b=b5)
end
end L3
namespace L3
open PySem L2
section
variable{X:Cx}{a b c:Expr}{ma mb mc:ME}{pos:XX}
noncomputable def gH(f g:D->D->Hm->jk)(a b c:ME):ME:=λd e=>(a d e).bind λp=>(b d p.2).bind λq=>(f p.1 q.1 q.2).bind λr=>match r.1 with
 |.bl b5=>(c d r.2).bind λt=>g q.1 t.1 t.2|.bl b4=>b0 (.bl b4,r.2)|_=>b3
theorem Dp{f g:D->D->Hm->jk}{r L:R2}{K:V8}(hf:dA K f r)(hg:dA K g L):∀σ H Q,tM K (gH f g ma mb mc) σ H Q->wH r L (tM K ma) (tM K mb) (tM K mc) σ H Q:=by
 rintro σ H Q ⟨π,A,μ,d,s,R,E,e,k⟩;obtain⟨⟨x,h⟩,Z,e⟩:=V6.mp e;obtain⟨⟨y,i⟩,h2,e⟩:=V6.mp e;obtain⟨⟨z,j⟩,h3,e⟩:=V6.mp e;refine⟨π,A,μ,x,h,R,E,Z,λu v1 H1 o U i1=>⟨u,A,h,y,i,U,E.mono o,h2,λv M N p R2 J=>?_⟩⟩;refine hf v N i x y z j v1 M _ R2 (i1.mono p) J h3 λn v3 O q B i3=>?_;cases z with
 |bl G=>
  cases i3;refine⟨G,rfl,?_⟩;cases G with
  |true=>refine lK ?_;obtain⟨⟨t,l⟩,h4,e⟩:=V6.mp e;exact⟨n,A,j,t,l,B,((E.mono o).mono p).mono q,h4,λw v4 T I Y i4=>hg w T l y t d s M v4 Q Y ((J.mono q).mono I) i4 e (k.after (((o.trans p).trans q).trans I))⟩|false=>refine lJ ?_;cases e;exact k n _ O ((o.trans p).trans q) B (.bl b4)
 |_=>cases e
noncomputable def kT:ZH->Option (Int->Int->Bool)
 |.Lt=>b0 λi j=>decide (i<j)|.LtE=>b0 λi j=>decide (i<=j)|.Gt=>b0 λi j=>decide (j<i)|.GtE=>b0 λi j=>decide (j<=i)|_=>b3
theorem oO{op:ZH}{p:Int->Int->Bool}(h:kT op=b0 p):OpR X (Xs op) (gY λi j=>.bl (p i j))/\(op=.Lt\/op=.LtE\/op=.Gt\/op=.GtE):=by cases op<;>first|(cases h;first|exact⟨wC,by simp⟩|exact⟨wD,by simp⟩|exact⟨wF,by simp⟩|exact⟨wG,by simp⟩)|cases h
theorem Dq{op d:ZH}(h':d=.Lt\/d=.LtE\/d=.Gt\/d=.GtE):a5s [op,d] [b,c]=false:=by show Za d c=b4;rcases h' with rfl|rfl|rfl|rfl<;>exact eH _
theorem Nx{op d:ZH}{p q:Int->Int->Bool}(h:kT op=b0 p)(h':kT d=b0 q)(e:QE X a ma)(g:QE X b mb)(hc:QE X c mc):QE X (.Compare a [op,d] [b,c] pos) (gH (gF p) (gF q) ma mb mc):=
 ⟨dH (IQ (oO h).1 (oO h').1 e.h g.h hc.h (Dq (oO (X:=X) h').2)) (Dp iL iL)⟩
theorem Ny{op d:ZH}{p q:Int->Int->Bool}(h:kT op=b0 p)(h':kT d=b0 q)(g:QE X a ma)(i:QE X b mb)(hc:QE X c mc):QT X (.Compare a [op,d] [b,c] pos) (aQ (gH (gF p) (gF q) ma mb mc)):=
 ⟨sO (IS (oO h).1 (oO h').1 g.h i.h hc.h (Dq (oO (X:=X) h').2)) λe H Q h=>Dp iL iL e H _ (Cf e H Q h)⟩
noncomputable def tP(d:Bool):D->D->Hm->jk
 |.bl b,.bl c,μ=>b0 (.bl (if d then !(b==c)else b==c),μ)|.int _,.bl _,μ=>b0 (.bl d,μ)|_,_,_=>b3
noncomputable def fA(d:Bool):D->D->Hm->jk:=λx y e=>match y with
 |.bl _=>tP d x y e|_=>jW d x y e
noncomputable def yB(d:Bool):R2:=λx y H Q=>∃c,y=.bl c/\((∃b,x=.bl b/\Q (.bl (if d then !(b==c)else b==c)) H)\/((∃i,x=.int i)/\Q (.bl d) H))
theorem tQ{K:V8}{g:Bool}:dA K (tP g) (yB g):=by
 intro j H p x y d l n o Q R h i e k;unfold tP at e;split at e
 .cases e;cases h;cases i;exact⟨_,rfl,.inl ⟨_,rfl,k j _ H .refl R (.bl _)⟩⟩
 .cases e;cases h;cases i;exact⟨_,rfl,.inr ⟨⟨_,rfl⟩,k j _ H .refl R (.bl _)⟩⟩
 .cases e
theorem Dr:OpR X (Xs .Is) (yB b4):=by
 intro e s j H x y v u Q I d g h;obtain⟨c,rfl,h⟩:=h;cases g;rcases h with⟨b,rfl,q⟩|⟨⟨i,rfl⟩,q⟩
 .cases d;exact Wg (mS I q (by cases b<;>cases c<;>rfl))
 .obtain⟨t,rfl⟩:=d;exact Wg (mS I q rfl)
theorem Ds:OpR X (Xs .IsNot) (yB b5):=by
 intro e s j H x y v u Q I d g h;obtain⟨c,rfl,h⟩:=h;cases g;rcases h with⟨b,rfl,q⟩|⟨⟨i,rfl⟩,q⟩
 .cases d;exact Wg (mS I q (by cases b<;>cases c<;>rfl))
 .obtain⟨t,rfl⟩:=d;exact Wg (mS I q rfl)
theorem tR{d:Bool}(x y:D)(e:Hm)(r:D×Hm)(h:fA d x y e=b0 r):tP d x y e=b0 r\/jW d x y e=b0 r:=by
 unfold fA at h;split at h
 .exact .inl h
 .exact .inr h
theorem Nz(d:QE X a ma)(e:QE X b mb):QE X (.Compare a [.Is] [b] pos) (aC (fA b4) ma mb):=m9 ⟨fM Dr tQ d.h e.h (eH _)⟩ (M9 d e) (hW tR)
theorem NA(d:QE X a ma)(e:QE X b mb):QE X (.Compare a [.IsNot] [b] pos) (aC (fA b5) ma mb):=m9 ⟨fM Ds tQ d.h e.h (eH _)⟩ (Na d e) (hW tR)
theorem NB(d:QE X a ma)(e:QE X b mb):QT X (.Compare a [.Is] [b] pos) (aQ (aC (fA b4) ma mb)):=oH ⟨fN Dr tQ d.h e.h (eH _)⟩ (Nb d e) (oI (hW tR))
theorem NC(d:QE X a ma)(e:QE X b mb):QT X (.Compare a [.IsNot] [b] pos) (aQ (aC (fA b5) ma mb)):=oH ⟨fN Ds tQ d.h e.h (eH _)⟩ (Nc d e) (oI (hW tR))
end
noncomputable def kU:MF:=λds a=>match ds with
 |[x]=>(bM a x).bind λc=>(oJ c).map λb=>(.int b.sum,a)|_=>b3
noncomputable def Dt(K:V8):gz->Hp->VK->Prop:=λxs H Q=>∃(p:Addr)(a:List Int),xs=[.ref p]/\(SqL K H p (a.map V.int)\/SqT K H p (a.map V.int))/\Q (.int a.sum) H
theorem ND{K:V8}:dP K kU (Dt K):=by
 intro h H r n d g j Q R i a k;unfold kU at a;split at a
 .obtain⟨o,b,a⟩:=V6.mp a;obtain⟨e,c,a⟩:=Wb.mp a;cases a;cases i with
  |cons i t=>cases t;obtain⟨p,l,rfl,q,hd⟩:=m3 R i b;rw[xZ c]at hd;have:=ints_of' hd;subst this;exact⟨p,e,rfl,q,k h _ H .refl R (.int _)⟩
 .cases a
theorem Du(a:List Int):∀n,n<=a.length->preSum (λi=>a.getD i 0) n=(a.take n).sum
 |0,_=>rfl|n+1,h=>by
  have b:=Du a n (by lia);have e:a.take (n+1)=a.take n++[a[n]]:=by rw[YQ,Wi (by lia)];rfl
  show preSum (λi=>a.getD i 0) n+a.getD n 0=_;rw[b,e,List.sum_append];simp[Xx,Wi (show n<a.length by lia)]
section
variable{X:Cx}
theorem Dv{a6r:jw}{σ:St}{H:Hp}{s d c:Wf}{l:List Addr}(I:Inv X a6r σ H s)(m:Moved l (λa b=>b=a) d c)(n:∀b o,s.heap.get? b=b0 o->d.heap.get? b=b0 o)(hw:∀b∈l,s.heap.objs.size<=b)(g:d.gens=s.gens/\d.drawn=s.drawn/\d.os=s.os):Inv X a6r σ H c:=by have k:∀b o,s.heap.get? b=b0 o->c.heap.get? b=b0 o:=λb o e=>m.heap b o (λz=>absurd (WT (Wm e) (hw b z)) (X3 _)) (n b o e);have h:c.gens=s.gens:=m.gens.trans g.1;have i:c.drawn=s.drawn:=m.drawn.trans g.2.1;have j:c.os=s.os:=m.os.trans g.2.2;obtain⟨u,r,q,p,v⟩:=c;dsimp only at h i j k;subst h i j;exact I.kept (t':=p) k
theorem Dw{a:List Int}{its:gw}(r:Vals (a.map V.int) its){i:Nat}{v:Value}(h:its.toArray[i]?=b0 v):∃t,v=.int (a.getD i 0) t:=by
 have b:its[i]?=b0 v:=by simpa using h
 have d:i<a.length:=by have:=(Wa.mp b).1;have:=r.length;rw[V7]at this;lia
 obtain⟨u,c,e⟩:=r.get (i:=i) (x:=.int a[i]) (by rw[Ws,Wi d];rfl);rw[b]at c;cases c;obtain⟨t,rfl⟩:=e;exact⟨t,by simp[Xx,d]⟩
theorem NF(hc:X.calm=b5):CallR X (.builtin "sum") (Dt X.K):=by
 intro B s M H L K Q I r h;obtain⟨p,d,rfl,w,q⟩:=h;obtain⟨u,rfl,G⟩:=fV r;cases G;have A:X.A.in1.handled=none:=I.ok.hd hc;have fin:∀a:gw,Vals (d.map V.int) a->preSum (λi=>d.getD i 0) a.toArray.size=d.sum:=λa l=>by
  have n:a.toArray.size=d.length:=by rw[Ww,<- l.length,V7]
  rw[n,Du d _ (Wh _),W9]
 rcases w with w|w
 .obtain⟨a,l,g,E⟩:=I.list w;refine a5h (a0p g.isList ?_);have j:p≠s.heap.objs.size:=by obtain⟨o,k,_⟩:=g.isList;exact WD (Wm k)
  refine⟨s.heap.objs.size,_,_,_,_,_,_,λi=>d.getD i 0,rfl,(a5v A _ p j a.toArray).toS,⟨⟨_,Wn _ rfl,rfl,rfl⟩,g.isList.push _⟩,?_,λi v y=>Dw l y,λJ z m=>?_⟩
  .intro b c;show b<(s.heap.push _).objs.size;rw[Yy];obtain⟨o,k,_⟩:=g.isList;have x:=Wm k;simp only[WW,Yl,or_false]at c;rcases c with rfl|rfl
   .exact X7 _
   .exact a0i x
  .refine⟨.int d.sum,H,Dv I m (λb o e=>Wc _ e) (λb c=>?_) ⟨rfl,rfl,rfl⟩,⟨z,?_⟩,q⟩
   .have e:b=s.heap.objs.size:=by simpa using c
    exact a0w e.symm
   .rw[fin a l]
 .obtain⟨a,l,g,E⟩:=I.tuple w;refine a5h (Y1 (show s.heap.IsTuple p a.toArray from g) ?_);have j:p≠s.heap.objs.size:=by obtain⟨o,k,_⟩:=g;exact WD (Wm k)
  refine⟨s.heap.objs.size,_,_,_,_,_,_,λi=>d.getD i 0,rfl,(a1x A _ p j a.toArray).toS,⟨⟨_,Wn _ rfl,rfl,rfl⟩,a0N g _⟩,?_,λi v y=>Dw l y,λJ z m=>?_⟩
  .intro b c;show b<(s.heap.push _).objs.size;rw[Yy];obtain⟨o,k,_⟩:=g;have x:=Wm k;simp only[WW,Yl,or_false]at c;rcases c with rfl|rfl
   .exact X7 _
   .exact a0i x
  .refine⟨.int d.sum,H,Dv I m (λb o e=>Wc _ e) (λb c=>?_) ⟨rfl,rfl,rfl⟩,⟨z,?_⟩,q⟩
   .have e:b=s.heap.objs.size:=by simpa using c
    exact a0w e.symm
   .rw[fin a l]
end
noncomputable def yC:MF:=λds a=>match ds with
 |[.int i,.int j]=>b0 (.int (if j<i then j else i),a)|_=>b3
noncomputable def yD:MF:=λds a=>match ds with
 |[.int i,.int j]=>b0 (.int (if j>i then j else i),a)|_=>b3
theorem NG{K:V8}:dP K yC (λxs H Q=>∃i j,xs=[.int i,.int j]/\Q (.int (if j<i then j else i)) H):=by
 intro g H l xs d e h Q R i a k;unfold yC at a;split at a
 .cases a;cases i with
  |cons i t=>
   cases i;cases t with
   |cons b c=>cases b;cases c;exact⟨_,_,rfl,k g _ H .refl R (.int _)⟩
 .cases a
theorem NH{K:V8}:dP K yD (λxs H Q=>∃i j,xs=[.int i,.int j]/\Q (.int (if j>i then j else i)) H):=by
 intro g H l xs d e h Q R i a k;unfold yD at a;split at a
 .cases a;cases i with
  |cons i t=>
   cases i;cases t with
   |cons b c=>cases b;cases c;exact⟨_,_,rfl,k g _ H .refl R (.int _)⟩
 .cases a
noncomputable def eV{b:Type}(xs:List b)(lo a st:Option Int):List b:=(a4O (YW lo a st xs.length).1 (YW lo a st xs.length).2.1 (YW lo a st xs.length).2.2).filterMap (xs[·]?)
noncomputable def oP(a:ME)(lo d st:MO):ME:=λb e=>(a b e).bind λp=>(lo b p.2).bind λq=>(d b q.2).bind λr=>(st b r.2).bind λt=>if t.1≠b0 0 then(e8 t.2 p.1).bind λc=>if(eV c q.1 r.1 t.1).length<=Wq then b0 (.loc t.2.length,t.2++[.lst (eV c q.1 r.1 t.1)])else b3 else b3
theorem NI{K:V8}{π:Nat->Addr}{n:Nat}{H:Hp}{vs:gz}{ds:List D}(h:IsDs K π n H vs ds)(lo a st:Option Int):IsDs K π n H (eV vs lo a st) (eV ds lo a st):=by
 unfold eV;rw[h.length];generalize a4O _ _ _=l;induction l with
 |nil=>exact .nil|cons i l b=>
  rw[Yu,Yu];cases a:ds[i]? with
  |none=>
   have:vs[i]?=none:=by rw[WZ]at a ⊢;rw[h.length];exact a
   rw[this];exact b
  |some d=>obtain⟨v,c,e⟩:=h.get a;rw[c];exact .cons e b
theorem NJ{vs:gz}{its:gw}(r:Vals vs its)(lo a st:Option Int):Vals (eV vs lo a st) (eV its lo a st):=by
 unfold eV;rw[r.length];generalize a4O _ _ _=l;induction l with
 |nil=>exact .nil|cons i l b=>
  rw[Yu,Yu];cases a:vs[i]? with
  |none=>
   have:its[i]?=none:=by rw[WZ]at a ⊢;rw[<- r.length];exact a
   rw[this];exact b
  |some v=>obtain⟨u,c,d⟩:=r.get a;rw[c];exact .cons d b
section
variable{X:Cx}{e:Expr}{te:TE}{lo hi:Option Expr}{st:Expr}{tl th tt:TO}{pos p2:XX}
noncomputable def NK(K:V8)(te:TE)(tl th tt:TO):TE:=λσ H Q=>te σ H λx c=>tl σ c λl d=>th σ d λu g=>tt σ g λt b=>t≠b0 0/\∃a xs,x=.ref a/\SqL K b a xs/\(eV xs l u t).length<=Wq/\∀p,b p=b3->Q (.ref p) (aK b p (.lst (eV xs l u t)))
open PyProof.Rows in
theorem NL(N:PE X e te)(O:PO X lo tl)(T:PO X hi th)(R:PO X (b0 st) tt):PE X (.Subscript e (.Slice lo hi (b0 st) p2) pos) (NK X.K te tl th tt):=by
 intro c s i H Q I h;refine a2T (aR (N c s i H _ I h) λv s1 ⟨x,z,G,r1,q1⟩=>?_);refine wpAny_Slice (aR (O c s1 i z _ G q1) λp s2 ⟨l,A,J,pl,q2⟩=>aR (T c s2 i A _ J q2) λy s3 ⟨u,B,K,pu,q3⟩=>aR (R c s3 i B _ K q3) λw d ⟨t,E,L,pt,q4⟩=>?_);obtain⟨M,a,xs,rfl,U,Y,q⟩:=q4;cases r1;have n:Inv X c i E {d with heap:=d.heap.push {cls:=.type "slice",data:=.fields #[p,y,w]}}:=L.kept (t':=d.toks) λb ob q=>Wc _ q;obtain⟨k,r,j,Z⟩:=n.list U;have o:=r.length;show WI (WM X.prog X.w) X.A (a1v e (.Slice lo hi (b0 st) p2) (.ref a) (.ref d.heap.objs.size)) (EP X c i Q) X.xe {d with heap:=d.heap.push {cls:=.type "slice",data:=.fields #[p,y,w]}};refine a6i (ops:=[.ref a,.ref d.heap.objs.size]) j.isList.typeIs a1O.lookup ?_ (by with_unfolding_all rfl);refine a3o j.isList (a1M ..) pl pu pt M ?_ (by rw[Ww]<;>lia);have g:a3y k.toArray l u t=(eV k l u t).toArray:=by unfold a3y eV;simp
 rw[g];refine⟨.ref _,_,n.laid (t':=d.toks) (o:=.lst (eV xs l u t)) (λb ob q=>Wc _ q) (Wh _) ?_,rfl,q _ (n.hok.fresh (Wh _))⟩;exact⟨Y,_,0,NJ r l u t,Wn _ rfl⟩
theorem NM{A:ME}{G B I:MO}(he:QE X e A)(hl:QO X lo G)(hu:QO X hi B)(ht:QO X (b0 st) I):QE X (.Subscript e (.Slice lo hi (b0 st) p2) pos) (oP A G B I):=⟨dH (NL he.h hl.h hu.h ht.h) (by
 rintro σ H Q ⟨π,n,μ,d,μ',R,E,a,k⟩;obtain⟨⟨x,c⟩,T,a⟩:=V6.mp a;obtain⟨⟨l,g⟩,U,a⟩:=V6.mp a;obtain⟨⟨u,h⟩,Y,a⟩:=V6.mp a;obtain⟨⟨t,r⟩,Z,a⟩:=V6.mp a;refine⟨π,n,μ,x,c,R,E,T,λs v1 H1 i K i1=>⟨s,n,c,l,g,K,E.mono i,U,λv H2 j R2=>⟨v,n,g,u,h,R2,(E.mono i).mono j,Y,λw H3 o L=>⟨w,n,h,t,r,L,((E.mono i).mono j).mono o,Z,λπ4 H4 z y=>?_⟩⟩⟩⟩;split at a
 .rename_i O;obtain⟨xs,h5,a⟩:=V6.mp a;split at a
  .rename_i hz;cases a;obtain⟨p,J,rfl,q,hd⟩:=oN y (((i1.mono j).mono o).mono z) h5;have b:=NI hd l u t;refine⟨O,p,J,rfl,q,by rw[b.length];exact hz,λp' hp=>?_⟩;obtain⟨N,M,_⟩:=y.alloc (c:=.lst (eV xs l u t)) (o:=.lst (eV J l u t)) hp b;exact k _ _ _ ((((i.trans j).trans o).trans z).trans N) M jT
  .cases a
 .cases a)⟩
end
section
variable{X:Cx}{a6r:jw}{σ:St}{H:Hp}{s:Wf}{h':Xo}
theorem yE{t':Nat}{ch:List Addr}{a:Addr}{o:HO}(I:Inv X a6r σ H s)(k:∀b u,b∉ch->s.heap.get? b=b0 u->h'.get? b=b0 u)(i:∀b∈ch,gX X a6r H b)(j:s.heap.objs.size<=a)
  (new:ObjOk X.prog X.w (aK H a o) h' a o):Inv X a6r σ (aK H a o) {s with heap:=h',toks:=t'}:=by
 have d:=I.hok.fresh j;have g:∀b u,H b=b0 u->b∉ch:=λb u e z=>by have:=(i b z).1;rw[e]at this;cases this
 refine I.step (g':=s.gens) (d':=s.drawn) (ch:=ch) (λb h=>let⟨K,x,L,y,A,B⟩:=i b h;⟨y,x,A,B⟩) (λb o _ _ hc e _=>k b o hc e) (λb o _ _ hc e _=>⟨o.slots,k b o hc e⟩) (λb J hc e n=>?_)
  (λb o hc e=>⟨o,k b o hc e⟩) (λb l q=>?_) (λb J l q=>?_) (λb M q=>?_) (λm E=>?_) (λb u e=>?_) I.bare
 .rw[bJ (WD (WT (Wm e) j))];exact n
 .rw[bJ (iD q d)];exact q
 .rw[bJ (iD q d)];exact q
 .exact⟨#[],by rw[bJ (iD q d),q];simp⟩
 .obtain⟨o,w,p,G,r⟩:=E;exact⟨o,w,p,k _ o (λz=>(i _ z).2.1 rfl) G,r⟩
 .by_cases h:b=a
  .subst h;rw[cP]at e;cases e;exact new
  .rw[bJ h]at e;refine(I.hok b u e).stay (λc v hc q=>k c v ?_ q) (λc q=>by rw[bJ (iD q d)];exact q) λc l q=>by rw[bJ (iD q d)];exact q
   rcases hc with z|z
   .rw[z];exact g b u e
   .exact g c _ z
theorem Dx{t':Nat}{ch:List Addr}(I:Inv X a6r σ H s)(k:∀b u,b∉ch->s.heap.get? b=b0 u->h'.get? b=b0 u)(d:∀b∈ch,gX X a6r H b):Inv X a6r σ H {s with heap:=h',toks:=t'}:=by
 have a:∀b u,H b=b0 u->b∉ch:=λb u e z=>by have:=(d b z).1;rw[e]at this;cases this
 refine I.step (g':=s.gens) (d':=s.drawn) (ch:=ch) (λb x=>let⟨E,j,G,l,p,w⟩:=d b x;⟨l,j,p,w⟩) (λb o _ _ hc e _=>k b o hc e) (λb o _ _ hc e _=>⟨o.slots,k b o hc e⟩) (λb B hc e n=>n)
  (λb o hc e=>⟨o,k b o hc e⟩) (λb g q=>q) (λb B g q=>q) (λb J q=>⟨#[],by rw[q];simp⟩) (λm y=>?_) (λb u e=>?_) I.bare
 .obtain⟨o,i,h,A,r⟩:=y;exact⟨o,i,h,k _ o (λz=>(d _ z).2.1 rfl) A,r⟩
 .refine(I.hok b u e).stay (λc v hc q=>k c v ?_ q) (λc q=>q) λc g q=>q;rcases hc with z|z
  .rw[z];exact a b u e
  .exact a c _ z
end
noncomputable def yF(K:V8)(a:Addr):It:=
 ⟨λi H=>∃b x,SqL K H a b/\b[i]?=b0 x,λi H x c=>∃p v,x=.ref p/\H p=b3/\c=aK H p (.tup [.int i,v])/\∀b,SqL K H a b->b[i]?=b0 v,λi H=>∃b,SqL K H a b/\b.length<=i⟩
theorem NN{P:WL}{w:WX}{K:V8}{es:List Expr}{kx:Nat}{pt:XX}(a e l:Addr)(r:e≠l) :
  Turn Qc P w K (.Tuple es kx pt) (yF K a) [e,l] e (λi h=>∃old,IsEnum h e l i old/\h.IsListIter l a i) where
 mem:=by simp
 obj:=λi h ⟨old,st,j⟩ b n=>by
  have g:b=e\/b=l:=by simpa using n
  rcases g with rfl|rfl
  .exact⟨_,st,λv z=>by
    have z':Xf _=a0n v:=z;cases z'⟩
  .obtain⟨o,J,c,d⟩:=j;exact⟨o,J,λv z=>by rw[d]at z;cases z⟩
 keep:=λi h h' ⟨old,st,j⟩ k=>⟨old,k e (by simp) _ st,j.at λo J=>k l (by simp) o J⟩;item:=by
  intro X N hw M hc i G s σ H E I A ⟨old,st,j⟩ R;subst N hw M;obtain⟨xs,x,B,Z⟩:=R;obtain⟨its,rv,p,hz⟩:=I.list B;obtain⟨u,hu,ru⟩:=rv.get Z;refine wpAny_pyNext_enum_item st j p.isList (x:=u) (by simpa using hu) r λh1 ho hit ht hsz hk=>⟨_,rfl,wpAny_letOwnedTupleGo_enum ho λh2 O q=>?_⟩;have y:e<s.heap.objs.size:=Wm st;have T:s.heap.objs.size≠e:=XR y;have Y:h2.get? s.heap.objs.size=b0 {cls:=.type "tuple",data:=.seq #[.int i s.toks,u]}:=(q.2 _ T).trans ht;have Q:H s.heap.objs.size=none:=I.hok.fresh (Wh _);refine⟨.ref s.heap.objs.size,aK H s.heap.objs.size (.tup [.int i,x]),?_,rfl,⟨s.heap.objs.size,x,rfl,Q,rfl,λys hy=>by rw[I.list_inj hy B];exact Z⟩,⟨u,O,hit.extBut q.extBut (Xh r)⟩,λb n=>?_⟩
  .refine yE (s:=s) (h':=h2) (t':=s.toks+1) (ch:=[e,l]) I (λb ob n L=>?_) A (Wh _) ?_
   .have g:b≠e/\b≠l:=by simpa using n
    exact(q.2 b g.1).trans (hk b ob g.1 g.2 L)
   .exact⟨by show(2:Nat)<=Wq;decide,[.int i s.toks,u],.cons ⟨_,rfl⟩ (.cons ru .nil),_,Y,rfl,0,rfl,rfl⟩
  .have g:b=e\/b=l:=by simpa using n
   have hn:=(A b n).1;obtain⟨o,U,_⟩:=j;rw[bJ]
   .exact hn
   .rcases g with rfl|rfl
    .exact WD y
    .exact WD (Wm U)
 done:=by
  intro X N hw M hc i G s σ H E I A ⟨old,st,j⟩ R;subst N hw M;obtain⟨xs,B,Z⟩:=R;obtain⟨its,rv,p,hz⟩:=I.list B;have hl:=rv.length;refine wpAny_pyNext_enum_end (I.ok.hd hc) st j p.isList (by simp;lia) λh' L=>⟨rfl,Dx (t':=s.toks) (ch:=[e,l]) I (λb o n z=>L b o ?_ z) A⟩;have g:b≠e/\b≠l:=by simpa using n
  exact g.2
 self:=λ_ _ _ _ _ ⟨old,st,_⟩ h=>a5c st h
structure QJT(X:Cx)(e:Expr)(m:MI):Prop where
 h:∀es k p,PI X (.Tuple es k p) e (tMI X.K m)
theorem QJ.t{X:Cx}{e:Expr}{m:MI}(h:QJ X e m):QJT X e m:=⟨λes k p=>h.h _⟩
noncomputable def lW(x:D):fH:=λa i=>(bM a x).map λxs=>(xs[i]?).map λd=>.tup [.int i,d]
noncomputable def nE(ms:MA):MI:=λc b=>(ms c b).bind λp=>match p.1 with
 |[x]=>(e8 p.2 x).map λa=>(lW x,a.length+1,p.2)|_=>b3
theorem NO{K:V8}{π:Nat->Addr}{s:Hm}{H:Hp}{v:V}{x:D}{xs:List D}(R:Rp K π H s)(h:IsD K π s.length H v x)(w:e8 s x=b0 xs):∃a,v=.ref a/\(∃vs,SqL K H a vs)/\Wk K (yF K a) (lW x) π s.length H:=by
 have hw:bM s x=b0 xs:=by
  cases x with
  |rol k=>exact w|loc b=>exact w|_=>cases w
 obtain⟨p,vs,rfl,T,_⟩:=oN R h w;refine⟨p,rfl,⟨vs,T⟩,?_⟩
  -- the list as it stands j
 have j:∀g c l,Ext π s.length H g c.length l->Rp K g l c->∀k,bM c x=b0 k->∃n,SqL K l p n/\IsDs K g c.length l n k:=λg c l e o k J=>by
  have X:=h.mono e;have O:e8 c x=b0 k:=by
   cases x with
   |rol zs=>exact J|loc b=>exact J|_=>cases w
  obtain⟨p',n,L,r,u⟩:=oN o X O;cases L;exact⟨n,r,u⟩
 refine⟨λg c l i e o z=>?_,λg c l i d e o z=>?_⟩
 .obtain⟨k,B,A⟩:=Wb.mp z;obtain⟨n,r,u⟩:=j g c l e o k B;have E:k[i]?=none:=by
   cases q:k[i]? with
   |none=>rfl|some d=>rw[q]at A;cases A
  exact⟨n,r,by rw[u.length];exact WZ.mp E⟩
 .obtain⟨k,B,A⟩:=Wb.mp z;obtain⟨Z,E,M⟩:=Wb.mp A;subst M;obtain⟨n,r,u⟩:=j g c l e o k B;obtain⟨v,I,N⟩:=u.get E;refine⟨⟨n,v,r,I⟩,?_⟩;rintro y Y ⟨t,v',rfl,Q,rfl,U⟩;have:=U n r;rw[I]at this;cases this;obtain⟨G,R2⟩:=o.fresh (o:=.tup [.int i,v]) Q;exact⟨G,R2,.tup (.of cP) (.cons (.int _) (.cons (N.mono G) .nil))⟩
noncomputable def NP(K:V8)(c:TA):TI:=λσ H R=>c σ H λvs b=>∃a,vs=[.ref a]/\(∃xs,SqL K b a xs)/\R (yF K a) b
open PyProof.Rows in
theorem NQ{X:Cx}{a:Expr}{k:TA}{p pos pt:XX}{es:List Expr}{J:Nat}(x:Gl X "enumerate") (z:X.mg "enumerate"=b3) (v:PA X [a] k)(B:WU [a] X.env=[(b4,eval a X.env)]):PI X (.Tuple es J pt) (.Call (.Name "enumerate" p) [a] [] pos) (NP X.K k):=by
 intro e s l H R I h;refine a6q (iF I x z Boot.«enumerate» (callWith_type1 (aR (v pos e s l H _ I h) λT c ⟨U,i,d,M,L⟩=>?_) B rfl));obtain⟨o,rfl,⟨Y,A⟩,q⟩:=L;obtain⟨u,rfl,N⟩:=fV M;cases N;obtain⟨G,Q,K,O⟩:=d.list A;refine call_enumerate_list K.isList λr j hit E y=>?_;refine a5c j ?_;have n:Inv X e l i {c with heap:=r}:=d.kept (t':=c.toks) y;refine⟨c.heap.objs.size+1,[c.heap.objs.size+1,c.heap.objs.size],_,_,i,rfl,n,NN o _ _ (Nat.succ_ne_self _),⟨_,j,hit⟩,λb w=>?_,q⟩;have g:b=c.heap.objs.size+1\/b=c.heap.objs.size:=by simpa using w
 rcases g with rfl|rfl
 .exact d.fpOk (Zd _) (d.hok.fresh (Zd _))
 .exact d.fpOk (Wh _) (d.hok.fresh (Wh _))
theorem NR{X:Cx}{a:Expr}{ms:MA}{n:Nat}{p pos:XX}(c:Gl X "enumerate") (d:X.mg "enumerate"=b3) (j:QA X [a] ms n):QJT X (.Call (.Name "enumerate" p) [a] [] pos) (nE ms):=⟨λes L pt a6r s σ H R I hw=>by
 have l:=j.s;rw[W3,Wl]at l;obtain⟨J,K,B,z,M,G,q,E,b,k⟩:=hw;obtain⟨⟨x,g⟩,v,b⟩:=V6.mp b;refine NQ c d j.h (fQ l.1) a6r s σ H R I ⟨J,K,B,x,g,q,E,v,λh N o u i e=>?_⟩;dsimp only at b;split at b
 .rename_i x;obtain⟨O,w,b⟩:=Wb.mp b;cases b;cases e with
  |cons e A=>cases A;obtain⟨r,rfl,y,W⟩:=NO i e w;exact⟨r,rfl,y,k h o _ u i W⟩
 .cases b⟩
section
variable{X:Cx}{pos:XX}
theorem yG{tg iter:Expr}{x:MI}{g:MG}{w:MS}{body:List Stmt}(K:PI X tg iter (tMI X.K x))(I:QG X tg g)(G:QB X body w)(L:a2m (WM X.prog X.w) X.A X.env X.xe)(hc:X.calm=b5)(M:fY iter=b5) :
  QS X (.For tg iter body [] pos) (b8 x g w):=⟨i5 (IE L hc K I.h G.h (by intro z;cases iter<;>first|rfl|cases M)) (by
 rintro E U H ⟨Q,T,O,v,s,q,R,u,o,k⟩;obtain⟨⟨p,n,l⟩,B,o⟩:=V6.mp o;refine⟨Q,T,O,p,n,l,R,u,B,λr y J i A W=>?_⟩;have N:mV X.K E r l.length y v s q:=by
  cases v with
  |nx=>exact λa b e j h c=>k a b e (i.trans j) h c|bk=>exact λa b e j h c=>k a b e (i.trans j) h c|ct=>exact λa b e j h c=>k a b e (i.trans j) h c|rt d=>exact KC.after k i
 exact Ll W N .refl A (u.mono i) o)⟩
theorem NS{st:Stmt}{m g i:MS}(h1:QS X st g)(l:QS X st i)(h:∀b a r,m b a=b0 r->g b a=b0 r\/i b a=b0 r):QS X st m:=⟨λa6r s σ H D I q=>by
 obtain⟨j,b,a,e,d,c,R,E,n,k⟩:=q;rcases h b a _ n with z|z
 .exact h1.h a6r s σ H D I ⟨j,b,a,e,d,c,R,E,z,k⟩
 .exact l.h a6r s σ H D I ⟨j,b,a,e,d,c,R,E,z,k⟩⟩
noncomputable def nF(put:D->D->D->Hm->Option Hm)(o i v:ME):MS:=λa b=>(v a b).bind λp=>(o a p.2).bind λq=>(i a q.2).bind λr=>(put q.1 r.1 p.1 r.2).map λμ'=>(.nx,a,μ')
noncomputable def oQ:D->D->D->Hm->Option Hm
 |.loc a,.int i,d,μ=>match μ[a]? with
  |some (.lst xs)=>(jP xs.length i).map λj=>μ.set a (.lst (xs.set j d))|_=>b3
 |_,_,_,_=>b3
noncomputable def qF:D->D->D->Hm->Option Hm
 |.loc a,y,d,μ=>match μ[a]? with
  |some (.dT kvs)=>(cR y).bind λk=>if kvs.length<Wq then b0 (μ.set a (.dT (b9 kvs k d)))else b3|_=>b3
 |_,_,_,_=>b3
noncomputable def oR:D->D->D->Hm->Option Hm:=λo i d b=>match o with
 |.loc a=>match b[a]? with
  |some (.dT _)=>qF o i d b|_=>oQ o i d b
 |_=>b3
noncomputable def iP:=nF oR
theorem Dy{K:V8}{π:Nat->Addr}{n:Nat}{H:Hp}:∀{vs:gz}{ds:List D}(j:Nat){v:V}{d:D},IsDs K π n H vs ds->IsD K π n H v d->IsDs K π n H (vs.set j v) (ds.set j d)
 |_,_,j,_,_,.nil,h=>by simp;exact .nil
 |_,_,0,_,_,.cons _ t,h=>.cons h t|_,_,j+1,_,_,.cons h0 t,h=>.cons h0 (Dy j t h)
noncomputable def NT(e ty g:TE):TS:=λD σ H=>g σ H λv a=>e σ a λx b=>ty σ b λy c=>wQ x y v c λd=>D.nx σ d
open PyProof.Rows in
theorem NU{o i a:Expr}{c:XX}{e ty g:TE}(B:PE X o e)(A:PE X i ty)(G:PE X a g)(E:ZY a (b0 (.Subscript o i c)) pos.line X.env=pure b4):PS X (.Assign [.Subscript o i c] a pos) (NT e ty g):=by intro b s d H D I h;refine a3L (aR (G b s d H _ I h) λr T ⟨v,j,p,O,K⟩=>aR (B b T d j _ p K) λu U ⟨x,k,q,Q,L⟩=>aR (A b U d k _ q L) λJ Y ⟨y,l,w,R,M⟩=>?_) E;exact aR (JI b Y d l x y v u J r _ w Q R O M) λ_ Z ⟨n,z,N⟩=>⟨d,n,z,N⟩
theorem NV{K:V8}{π:Nat->Addr}{H:Hp}{b μ':Hm}{o i v:V}{y z x:D}(R:Rp K π H b)(w:IsD K π b.length H o y)(A:IsD K π b.length H i z)(u:IsD K π b.length H v x)(h:oQ y z x b=b0 μ'){Q:Hp->Prop}(k:∀c,Ext π b.length H π μ'.length c->Rp K π c μ'->Q c):wQ o i v H Q:=by
 cases y with
 |loc a=>
  cases z with
  |int i=>
   simp only[oQ]at h;split at h
   .rename_i n l;obtain⟨j,r,s⟩:=Wb.mp h;subst s;obtain⟨d,e,g⟩:=R.lst _ n l;cases w;cases A;obtain⟨q,p⟩:=R.put (c:=.lst (n.set j x)) (o:=.lst (d.set j v)) (Wa.mp l).1 e (.inl ⟨d,rfl⟩) (Dy j g u);exact⟨_,d,i,j,rfl,rfl,e,by rw[g.length];exact r,k _ q p⟩
   .cases h
  |_=>simp[oQ]at h
 |_=>simp[oQ]at h
theorem NW{o i e:Expr}{B A w:ME}{b:XX}(T:QE X o B)(Q:QE X i A)(O:QE X e w)(h:jU e=b5):QS X (.Assign [.Subscript o i b] e pos) (nF oQ B A w):=
 ⟨i5 (NU T.h Q.h O.h (tE h)) (by
 rintro E σ H ⟨π,u,μ,fl,ρ',μ',R,g,a,k⟩;obtain⟨⟨x,c⟩,K,a⟩:=V6.mp a;obtain⟨⟨y,d⟩,L,a⟩:=V6.mp a;obtain⟨⟨z,p⟩,M,a⟩:=V6.mp a;obtain⟨μ4,N,a⟩:=Wb.mp a;cases a;exact⟨π,u,μ,x,c,R,g,K,λq v1 H1 j G U=>⟨q,u,c,y,d,G,g.mono j,L,λr v2 H2 l R2 Y=>⟨r,u,d,z,p,R2,(g.mono j).mono l,M,λs v3 H3 n I Z=>NV I (Y.mono n) Z ((U.mono l).mono n) N λH4 v J=>k s σ _ (((j.trans l).trans n).trans v) J ((((g.mono j).mono l).mono n).mono v)⟩⟩⟩)⟩
theorem NX{f j k:D->D->D->Hm->Option Hm}{i g e:ME}(h:∀x y z b r,f x y z b=b0 r->j x y z b=b0 r\/k x y z b=b0 r):∀d b r,nF f i g e d b=b0 r->nF j i g e d b=b0 r\/nF k i g e d b=b0 r:=by
 intro d b r a;obtain⟨p,l,a⟩:=V6.mp a;obtain⟨q,n,a⟩:=V6.mp a;obtain⟨t,o,a⟩:=V6.mp a;obtain⟨c,s,a⟩:=Wb.mp a;rcases h _ _ _ _ _ s with z|z
 .exact .inl (V6.mpr ⟨p,l,V6.mpr ⟨q,n,V6.mpr ⟨t,o,Wb.mpr ⟨c,z,a⟩⟩⟩⟩)
 .exact .inr (V6.mpr ⟨p,l,V6.mpr ⟨q,n,V6.mpr ⟨t,o,Wb.mpr ⟨c,z,a⟩⟩⟩⟩)
theorem Dz{st:Stmt}{i:Nat}:QS X st (aL i cD):=⟨λa6r s σ H D I q=>by
 obtain⟨g,h,e,d,c,b,R,E,a,k⟩:=q;cases a⟩
end
section
variable{X:Cx}
end
noncomputable def j0(a:Hm)(x:D):List D->Option (List Bool)
 |[]=>b0 []|y::r=>(c5 8 a y x).bind λb=>(j0 a x r).map λc=>b::c
noncomputable def oS:D->List D->Hm->jk
 |.loc a,[x],μ=>match μ[a]? with
  |some (.lst xs)=>(j0 μ x xs).bind λbs=>if bs.findIdx id<bs.length/\bs.length<=Wq then b0 (.int (bs.findIdx id:Nat),μ)else b3|_=>b3
 |_,_,_=>b3
noncomputable def DA(K:V8):V->gz->Hp->VK->Prop:=λx vs H Q=>∃π b a xs y c bs,Rp K π H b/\x=.ref (π a)/\vs=[y]/\b[a]?=b0 (.lst xs)/\IsD K π b.length H y c/\j0 b c xs=b0 bs/\bs.findIdx id<bs.length/\Q (.int (bs.findIdx id:Nat)) H
theorem NY{K:V8}:jA K oS (DA K):=by
 intro b H o x ds d p v q Q R j i a k;unfold oS at a;split at a
 .split at a
  .rename_i n g;obtain⟨bs,c,a⟩:=V6.mp a;split at a
   .rename_i e;cases a;cases i with
    |cons h l=>cases l;cases j;exact⟨b,o,_,n,_,_,bs,R,rfl,rfl,g,h,c,e.1,k b _ H .refl R (.int _)⟩
   .cases a
  .cases a
 .cases a
section
variable{X:Cx}
theorem DB{a6r:jw}{σ:St}{H:Hp}{s:Wf}{π:Nat->Addr}{i:Hm}(I:Inv X a6r σ H s)(R:Rp X.K π H i){A:WY}(U:A.units+8<XM){x:V}{v:Value}{n:D}(rx:RelV x v)(ix:IsD X.K π i.length H x n) :
  ∀{e:List D}{vs:gz}{us:gw}{bs:List Bool},IsDs X.K π i.length H vs e->Vals vs us->j0 i n e=b0 bs->
   ∃g:Value->Bool,(∀u∈us,Zr A s u v (g u))/\us.map g=bs:=by
 classical
 intro e vs us bs k l d
 have p:∀{e:List D}{vs:gz}{us:gw}{bs:List Bool},IsDs X.K π i.length H vs e->Vals vs us->j0 i n e=b0 bs->(∀u∈us,∃c,Zr A s u v c/\∃w o,RelV w u/\IsD X.K π i.length H w o/\c5 8 i o n=b0 c):=by
  intro e
  induction e with
  |nil=>
   intro vs us b k l d u a
   cases k
   cases l
   cases a
  |cons y e K=>
   intro vs us b k l d u a
   cases k with
   |cons h t=>
    cases l with
    |cons r rt=>
     obtain⟨c,E,d⟩:=V6.mp d
     obtain⟨O,G,d⟩:=Wb.mp d
     rcases WW.mp a with rfl|a
     .exact⟨c,w9 I R 8 U r rx h ix E,_,_,r,h,E⟩
     .exact K t rt G u a
 have q:=p k l d
 refine⟨λu=>if h:u∈us then Y5 (q u h)else b4,λu a=>?_,?_⟩
 .simp only[dif_pos a]
  exact(ZC (q u a)).1
 .have L:∀u (h:u∈us) w o c,RelV w u->IsD X.K π i.length H w o->c5 8 i o n=b0 c->Y5 (q u h)=c:=by
   intro u h w o c M iw N
   obtain⟨_,w2,Q,r2,Z,T⟩:=ZC (q u h)
   have:w2=w:=r2.inj M
   subst this
   have:=xS I R Z iw
   subst this
   rw[T]at N
   exact Wt N
  have B:∀{e:List D}{vs:gz}{j:gw}{bs:List Bool},(∀u∈j,u∈us)->IsDs X.K π i.length H vs e->Vals vs j->j0 i n e=b0 bs->j.map (λu=>if h:u∈us then Y5 (q u h)else b4)=bs:=by
   intro e
   induction e with
   |nil=>
    intro vs j b J k l d
    cases k
    cases l
    cases d
    rfl
   |cons y e K=>
    intro vs j b J k l d
    cases k with
    |cons h t=>
     cases l with
     |@cons _ u _ us2 r rt=>
      obtain⟨c,E,d⟩:=V6.mp d
      obtain⟨O,G,d⟩:=Wb.mp d
      have fX:u∈us:=J u (Xd ..)
      rw[WA,K (λz Y=>J z (WV _ Y)) t rt G,dif_pos fX,L u fX _ _ c r h E]
      exact d
  exact B (λ_ h=>h) k l d
theorem NZ(hu:X.A.units+20<XM):jQ X "list.index" (DA X.K):=by
 intro E s σ H x vs v us Q I Y U h
 obtain⟨π,μ,a,Z,y,dy,bs,R,rfl,rfl,M,O,L,p,q⟩:=h
 cases Y
 obtain⟨u,rfl,T⟩:=U.one
 obtain⟨ws,J,hd⟩:=R.lst a Z M
 obtain⟨z,b,n,r,hl,e⟩:=I.lstM J
 obtain⟨g,G,B⟩:=DB I R (A:=X.A.in1) (by rw[iK];lia) T O hd r L
 have j:bs.length=b.length:=by rw[<- B,V7]
 have w:bs.findIdx id<b.toArray.size:=by rw[Ww,<- j];exact p
 have c:∀m (o:m<b.length),bs[m]?=b0 (g b[m]):=λm o=>by
  rw[<- B,Ws,Wi o];rfl
 have small:((bs.findIdx id:Nat):Int)<2^63-1:=by
  have k:bs.findIdx id<b.length:=by simpa using w
  have d:=lH
  have i:(bs.findIdx id:Nat)<Wq:=by lia
  have l:((Wq:Nat):Int)<=2^63-1:=by decide
  lia
 refine a0M F.slot_list_index ⟨_,e,rfl⟩ F.entry_list_index (F.args_list_index_2 _ _) (SeqAt.list_indexAt (π a) b.toArray n b3 #[] u g (bs.findIdx id) w small ?_ ?_) ⟨e,λy N=>G y (by simpa using N),⟨.int (bs.findIdx id:Nat),H,I.tok _,⟨_,rfl⟩,q⟩⟩
 .have k:bs.findIdx id<b.length:=by simpa using w
  have d:=a3j (p:=id) (xs:=bs) (w:=p)
  have i:=c _ k
  rw[Wi p]at i
  have l:=Wt i
  rw[l]at d
  simpa using d
 .intro m o A
  have k:m<b.length:=by simpa using o
  have d:=a2G (p:=id) (xs:=bs) A
  have i:=c _ k
  have K:m<bs.length:=by lia
  rw[Wi K]at i
  have l:=Wt i
  rw[l]at d
  simpa using d
end
section
variable{X:Cx}{e o:Expr}{mo:ME}{apos cpos:XX}{es:List Expr}{ms:MA}{n:Nat}
end
section
variable{prog:WL}{w:WX}{A:WY}{E:Value->Wf->Prop}{s:Wf}{r:Addr}{Q:Bool->Wf->Prop}
theorem N0:a1D (.type "list_reverseiterator") "__len__"=pure none:=by rw[a2y,a0V];kernel_rfl
theorem N1:a1D (.type "list_reverseiterator") "__length_hint__"=pure (b0 (.builtin "list_reverseiterator.__length_hint__")):=by rw[a2y,a0V];kernel_rfl
theorem N2(b:s.TypeIs (.ref r) "list_reverseiterator") (h:Q b4 s):WI (WM prog w) A (a0X (.ref r)) Q E s:=by unfold a0X;refine V9 (a0O b N0 ?_);dsimp only;refine Y9 (λa=>absurd a (by decide +kernel)) (λ_=>?_);refine Y9 (λa=>absurd a (by decide)) (λ_=>?_);refine V9 (a0O b N1 ?_);generalize bN:("list_reverseiterator.__length_hint__":String)=id0;wp_delta;rw[show splitId id0=b0 ("list_reverseiterator","__length_hint__")from by subst bN;decide +kernel];subst bN;refine V9 (a0A (T:="list_reverseiterator") (b:=b5) b (by rw[isSubtype_type];kernel_rfl) ?_);refine Y9 (λa=>absurd a (by decide)) (λ_=>?_);refine Y9 (λ_=>?_) (λa=>absurd (by decide +kernel) a);refine Y9 (λa=>absurd a (by decide +kernel)) (λ_=>?_);exact Wg h
end
section
variable{prog:WL}{w:WX}{A:WY}{E:Value->Wf->Prop}{s:Wf}{p a:Addr}{its:Array Value}
theorem N3{R:a1h->Wf->Prop}(Y:A.handled=b3)(hit:s.heap.IsRevIter p a ((its.size:Int)-1))(hl:s.heap.IsList a its)(H:a≠p)(S:Addr)(q:S≠p)(z:S≠a)(res:Value)(j:Nat)(X:s.heap.get? S=b0 {cls:=.type "list",data:=.seq #[] j})
  (U:∀x tk c n,(∀b o,b≠S->b≠p->s.heap.get? b=b0 o->x.get? b=b0 o)->x.get? S=b0 {cls:=.type "list",dict:=b3,data:=.seq c n,slots:=#[]}->ItemsOf (λi v=>its[its.size-1-i]?=b0 v) c its.size->R (.ok (.ret res)) {s with heap:=x,toks:=tk}) (hn:its.size<=Wq) :
  WI (WM prog w) A.in1 (X1 (.ref S) (.ref p) res)
   (λfin l=>match fin with|.done f=>R (.ok f) l|.again n=>n.quiet=b5/\Zq (WM prog w) A n R l) (λe l=>R (.error e) l) s:=by
 have B:S∉[p,a]:=by simp only[WW,Yl,or_false,not_or];exact⟨q,z⟩
 have W:=Walks.listRev (prog:=prog) (w:=w) (A:=A.in1) Y p a H its;have K:∀(h:Xo)(d tk:Nat),h.IsRevIter p a ((its.size:Int)-1)->h.IsList a its->(∀b o,b≠S->s.heap.get? b=b0 o->h.get? b=b0 o)->
   h.get? S=b0 {cls:=.type "list",data:=.seq #[] d}->Zq (WM prog w) A (.builtin "list.extend.loop" ⟨[.ref S,.ref p,res],[]⟩) R {s with heap:=h,toks:=tk}:=by
  intro h d tk J u Z k;refine codeAny_extend_loopS W.toS hn S B res its.size 0 _ #[] d rfl (Yi _) ⟨Yi _,by simpa using J,u⟩ k (ItemsOf.nil _) λl c n M y r=>?_;rw[Moved.eq_with M];refine U l.heap l.toks c n (λb o L I e=>M.heap b o (λg=>?_) (Z b o L e)) y r;rcases WW.mp g with N|g
  .exact L N
  .exact I (WB.mp g)
 unfold X1;refine V9 (a1N (T:="list_reverseiterator") hit.typeIs ?_);have O:Y7 (.ref S) (.ref p)=false:=by simp[Y7,q]
 have Q:(WG "list_reverseiterator"==WG "list")=false:=by decide +kernel
 have T:(WG "list_reverseiterator"==WG "tuple")=false:=by decide +kernel
 simp only[O,Q,T,a0Y,WQ,if_false];refine V9 (wpAny_pyIter_revIter hit ?_);refine V9 (Xb (N2 hit.typeIs ?_));refine Y9 (λG=>absurd G (by decide +kernel)) (λ_=>Wg ⟨XC PySem.F.plain_extend_loop _,?_⟩);exact K _ j s.toks hit hl (λb o _ e=>e) X
theorem N4{R:a1h->Wf->Prop}(I:A.handled=b3)(hit:s.heap.IsRevIter p a ((its.size:Int)-1))(K:s.heap.IsList a its)(z:a≠p)(S:Addr)(l:S≠p)(k:S≠a)(u:s.heap.get? S=b0 {cls:=.type "list",data:=.seq #[]})
  (H:∀j G c h,(∀b o,b≠S->b≠p->s.heap.get? b=b0 o->j.get? b=b0 o)->j.get? S=b0 {cls:=.type "list",dict:=b3,data:=.seq c h,slots:=#[]}->ItemsOf (λi v=>its[its.size-1-i]?=b0 v) c its.size->R (.ok (.ret .none)) {s with heap:=j,toks:=G}) (L:its.size<=Wq) :
  WI (WM prog w) A.in1 (Builtin.«list.__init__» ⟨[.ref S,.ref p],[]⟩)
   (λfin r=>match fin with|.done f=>R (.ok f) r|.again h=>h.quiet=b5/\Zq (WM prog w) A h R r) (λe r=>R (.error e) r) s:=by
 show WI _ _ (do let old <- a1B (.ref S);a5X (.ref S) (λ_=>#[]);letGo old.toList.reverse;X1 (.ref S) (.ref p) .none) _ _ s;refine V9 ?_;unfold a1B;refine V9 (YF u rfl (Wg ?_));show WI _ _ (ZX S (λ_=>#[]) >>= λ_=>letGo (#[]:Array Value).toList.reverse >>= λ_=>X1 (.ref S) (.ref p) .none) _ _ s;refine V9 (XQ u rfl ?_);have d:=Xv (Xg (λ_=>(#[]:Array Value))) u rfl;have g:∀b o,b≠S->s.heap.get? b=b0 o->(s.heap.update S (Xg (λ_=>(#[]:Array Value)))).get? b=b0 o:=
  λb o q e=>(W6 _ _ (Xh q)).trans e
 refine V9 (YB ?_);refine N3 I (hit.at λo e=>g p o (Xh l) e) (let⟨o,M,x⟩:=K;⟨o,g a o (Xh k) M,x⟩) z S l k .none _ d (λj G c h J y n=>?_) L;exact H j G c h (λb o q B e=>J b o q B (g b o q e)) y n
theorem N5{Q:Value->Wf->Prop}(I:A.handled=b3)(hit:s.heap.IsRevIter p a ((its.size:Int)-1))(z:s.heap.IsList a its)(r:a≠p)(K:its.size<=Wq)
  (B:∀g u c n,(∀b o,b≠p->s.heap.get? b=b0 o->g.get? b=b0 o)->g.get? s.heap.objs.size=b0 {cls:=.type "list",dict:=b3,data:=.seq c n,slots:=#[]}->ItemsOf (λi v=>its[its.size-1-i]?=b0 v) c its.size->Q (.ref s.heap.objs.size) {s with heap:=g,toks:=u}) :
  WI (WM prog w) A (call (.type "list") [.ref p]) Q E s:=by
 refine a6p (Q₁:=λl d=>l=.ref s.heap.objs.size/\d={s with heap:=s.heap.push {cls:=.type "list",data:=.seq #[]}}) PySem.F.called_list (PySem.F.typeCall_list_1 _) PySem.F.entry_list_init
  (code_list_new _ ⟨rfl,rfl⟩) λl d k=>?_
 obtain⟨rfl,rfl⟩:=k;have y:(s.heap.push {cls:=.type "list",data:=.seq #[]}).get? s.heap.objs.size=b0 {cls:=.type "list",data:=.seq #[]}:=Wn _ rfl;have L:p<s.heap.objs.size:=let⟨o,j,_⟩:=hit;Wm j;have G:a<s.heap.objs.size:=let⟨o,j,_⟩:=z;Wm j;refine⟨⟨_,y,rfl⟩,PySem.F.args_list_init_2 _ _,N4 (A:=A.in1) I (hit.at λo e=>Wc _ e) (let⟨o,j,x⟩:=z;⟨o,Wc _ j,x⟩) r _ (XR L) (XR G) y (λg u c n J q h=>?_) K⟩;exact⟨rfl,B g u c n (λb o H e=>J b o (WD (Wm e)) H (Wc _ e)) q h⟩
end
noncomputable def DC(K:V8):gz->Hp->VK->Prop:=λxs H Q=>∃(p:Addr)(a:gz),xs=[.ref p]/\SqL K H p a/\∀l,H l=b3->Q (.ref l) (aK H l (.lst a.reverse))
theorem DD:∀{a:gz}{its:gw},Vals a its->Vals a.reverse its.reverse
 |_,_,.nil=>.nil|_,_,.cons h t=>by rw[a0g,a0g];exact(DD t).append (.cons h .nil)
theorem N6{X:Cx}{e:Expr}{t:TA}{p J pos d:XX}(hc:X.calm=b5)(O:Gl X "list") (T:X.mg "list"=b3) (v:Gl X "reversed") (y:X.mg "reversed"=b3) (N:PA X [e] t)(Y:WU [e] X.env=(b4,eval e X.env)::WU [] X.env) :
  PE X (.Call (.Name "list" p) [.Call (.Name "reversed" J) [e] [] d] [] pos) (sI (DC X.K) t):=by
 intro n s σ H Q I h;refine Yo (iF I O T ZM ?_ (by decide) (by decide));refine Xw ?_ rfl rfl;show WI _ _ (spliced ((b4,eval (.Call (.Name "reversed" J) [e] [] d) X.env)::YG pos (WU [] X.env))) _ _ s;refine Z7 (Yo (iF I v y a3U ?_ (by decide) (by decide)));refine Xw (aR (N d n s σ H _ I h) λus j ⟨vs,H1,l,r1,q1⟩=>?_) Y rfl;obtain⟨q,ys,rfl,U,k⟩:=q1;obtain⟨u,rfl,ru⟩:=fV r1;cases ru;obtain⟨a,K,pl,Z⟩:=l.list U;have G:=K.length;have w:=pl.isList;have A:q<j.heap.objs.size:=let⟨o,z,_⟩:=w;Wm z;refine call_reversed_list w ?_;refine a0e ?_;refine N5 (l.ok.hd hc) (p:=j.heap.objs.size) (a:=q) (its:=a.toArray) ⟨_,Wn _ rfl,rfl,rfl⟩ (let⟨o,z,x⟩:=w;⟨o,Wc _ z,x⟩) (WD A) (by simp only[Ww]<;>lia) λh' tk c L kp E g=>?_;have r:c.toList=a.reverse:=by
  refine a4h λi=>?_;have hn:c.size=a.length:=by simpa using g.1
  by_cases R:i<a.length
  .have M:=g.2 i c[i] (a0d (by lia));rw[XO,a0d (by lia),<- M,List.getElem?_reverse R,Ww,List.getElem?_toArray]
  .rw[YA (by rw[YK];lia),YA (by rw[a0T];lia)]
 have B:(j.heap.push (revObj q ((a.toArray.size:Int)-1))).objs.size=j.heap.objs.size+1:=by simp[Heap.push]
 rw[B]at E ⊢;refine⟨.ref (j.heap.objs.size+1),_,l.laid (t':=tk) (a:=j.heap.objs.size+1) (o:=.lst ys.reverse) (λb o e=>kp b o (WD (Wm e)) (Wc _ e)) (by lia) ⟨by rw[a0T];exact Z,a.reverse,L,DD K,by rw[<- r];simpa using E⟩,rfl,k _ (l.hok.fresh (by lia))⟩
noncomputable def lX:MF:=λds b=>match ds with
 |[.loc a]=>match b[a]? with
  |some (.lst xs)=>b0 (.loc b.length,b++[.lst xs.reverse])|_=>b3
 |_=>b3
theorem N7{K:V8}:dP K lX (DC K):=by
 intro u H s r d p q Q R i b k;unfold lX at b;split at b
 .rename_i a;split at b
  .rename_i e o;cases b;cases i with
   |cons i t=>cases t;cases i;obtain⟨c,h,j⟩:=R.lst a e o;refine⟨_,c,rfl,.of h,λl n=>?_⟩;obtain⟨g,R2,_⟩:=R.alloc (c:=.lst e.reverse) (o:=.lst c.reverse) n (Ng j);exact k _ _ _ g R2 jT
  .cases b
 .cases b
theorem N8{X:Cx}{e:Expr}{ms:MA}{n:Nat}{p j pos a:XX}(hc:X.calm=b5)(d:X.mg "list"=b3) (g:X.mg "reversed"=b3) (h:QA X [e] ms n)(b:Gl X "list") (c:Gl X "reversed") :
  QE X (.Call (.Name "list" p) [.Call (.Name "reversed" j) [e] [] a] [] pos) (aF lX ms):=by
 have i:=h.s;rw[W3,Wl]at i;exact⟨dH (N6 hc b d c g h.h (fQ i.1)) (wY N7)⟩
noncomputable def yH(lo c:Int)(n:Nat):It:=⟨λi _=>i<n,λi H x a=>a=H/\x=.int (lo+(i:Nat)*c),λi _=>n<=i⟩
theorem N9{P:WL}{w:WX}{K:V8}{tg:Expr}(a:Addr)(lo c:Int)(n:Nat):Turn Qc P w K tg (yH lo c n) [a] a (λi h=>Z6 h a (lo+(i:Nat)*c) ((n:Int)-(i:Nat)) c) where
 mem:=by simp
 obj:=λi h st b d=>by
  have e:b=a:=by simpa using d
  subst e;exact⟨_,st,λv z=>by
   have T:Xf _=a0n v:=z;cases T⟩
 keep:=λi h l st k=>k a (by simp) _ st;item:=by intro X B hw A hc i g s L H E I p st G;subst B hw A;obtain⟨q,r,O,u,x,y⟩:=p a (by simp);have W:=a5i (prog:=X.prog) (w:=X.w) (I.ok.hd hc) a lo c n;refine W.item i s _ _ G st λv l J Q j R=>?_;obtain⟨t,rfl⟩:=Q;have M:Inv X g L H {s with heap:=l,toks:=J}:=I.turned (λb o d e=>R b o (by simpa using d) e) q r u x y;exact⟨_,rfl,n5 (s:={s with heap:=l,toks:=J}) (n:="range_iterator") j rfl rfl (by decide) ⟨.int (lo+(i:Nat)*c),H,M,⟨t,rfl⟩,⟨rfl,rfl⟩,j,λb d=>(p b d).1⟩⟩
 done:=by intro X B hw A hc i g s L H E I p st G;subst B hw A;obtain⟨q,r,O,u,x,y⟩:=p a (by simp);exact a3H (I.ok.hd hc) st (by have:n<=i:=G;lia) λl N=>⟨rfl,I.turned (t':=s.toks) (λb o d e=>N b o d e) q r u x y⟩
 self:=λ_ _ _ _ _ st h=>a3J st h
noncomputable def tS(a b c:Int):Bool:=a5C a b c&&decide (c≠0)&&decide (c.natAbs<1073741824)&&decide (0<=Xl a b c)
noncomputable def Oa(e:TA):TI:=λσ H R=>e σ H λvs d=>∃a b c:Int,vs=[.int a,.int b,.int c]/\tS a b c=b5/\R (yH a c (Xl a b c).toNat) d
open PyProof.Rows in
theorem Ob{X:Cx}{tg a b c:Expr}{G:TA}{p pos:XX}(Q:Gl X "range") (T:X.mg "range"=b3) (N:PA X [a,b,c] G)(Y:WU [a,b,c] X.env=(b4,eval a X.env)::WU [b,c] X.env)(z:(YG pos (WU [b,c] X.env)).any (·.1)=b4) :
  PI X tg (.Call (.Name "range" p) [a,b,c] [] pos) (Oa G):=by
 intro n s J H R I h;refine a6q (iF I Q T a4U (Xw (aR (N pos n s J H _ I h) λus l ⟨vs,E,K,r1,Z⟩=>?_) Y z));obtain⟨i,j,k,e,g,q⟩:=Z;subst e;unfold tS at g;rw[Wl,Wl,Wl,decide_eq_true_eq,decide_eq_true_eq,decide_eq_true_eq]at g;obtain⟨⟨⟨A,x⟩,y⟩,U⟩:=g;cases r1 with
 |cons r u=>
  cases u with
  |cons r' u=>
   cases u with
   |cons B u=>
    cases u;obtain⟨t,rfl⟩:=r;obtain⟨v,rfl⟩:=r';obtain⟨d,rfl⟩:=B;refine call_range_3 x ?_ (.inl (PyProof.noPylong_small y));refine a4M (a4H ..) A ?_;have w:Inv X n J E {l with heap:=l.heap.push {cls:=.type "range",data:=.fields #[.int i t,.int j v,.int k d]},toks:=l.toks}:=K.kept λb o e=>Wc _ e;refine⟨(l.heap.push {cls:=.type "range",data:=.fields #[.int i t,.int j v,.int k d]}).objs.size,[(l.heap.push {cls:=.type "range",data:=.fields #[.int i t,.int j v,.int k d]}).objs.size],_,_,E,rfl,
     w.kept (t':=l.toks) λb o e=>Wc _ e,N9 _ i k (Xl i j k).toNat,?_,λb O=>?_,q⟩
    .have L:i+((0:Nat):Int)*k=i:=by simp
     have M:(((Xl i j k).toNat:Nat):Int)-((0:Nat):Int)=Xl i j k:=by lia
     show Z6 _ _ (i+((0:Nat):Int)*k) ((((Xl i j k).toNat:Nat):Int)-((0:Nat):Int)) k;rw[L,M];exact Wn _ rfl
    .have e:b=(l.heap.push {cls:=.type "range",data:=.fields #[.int i t,.int j v,.int k d]}).objs.size:=by simpa using O
     subst e;exact w.fpOk (Wh _) (w.hok.fresh (Wh _))
noncomputable def yI(lo c:Int)(n:Nat):fH:=λ_ i=>b0 (if i<n then b0 (.int (lo+(i:Nat)*c))else b3)
theorem Oc{K:V8}{lo c:Int}{k:Nat}{π:Nat->Addr}{n:Nat}{H:Hp}:Wk K (yH lo c k) (yI lo c k) π n H:=by
 refine⟨λb o g i e R z=>?_,λb o g i d e R z=>?_⟩
 .have a:=Wt z;split at a
  .cases a
  .exact a0a.mp (by assumption)
 .have a:=Wt z;split at a
  .cases a;rename_i h;exact⟨h,λx p ⟨j,l⟩=>by subst j;rw[l];exact⟨.refl,R,.int _⟩⟩
  .cases a
noncomputable def oT(ms:MA):MI:=λb a=>(ms b a).bind λp=>match p.1 with
 |[.int i,.int j,.int c]=>if tS i j c=b5 then b0 (yI i c (Xl i j c).toNat,(Xl i j c).toNat+1,p.2)else b3|_=>b3
theorem Od{X:Cx}{a b c:Expr}{ms:MA}{n:Nat}{p pos:XX}(e:Gl X "range") (g:X.mg "range"=b3) (r:QA X [a,b,c] ms n):QJ X (.Call (.Name "range" p) [a,b,c] [] pos) (oT ms):=⟨λtg a6r s σ H R I hw=>by
 have h:=r.s;rw[W3,Wl]at h;obtain⟨Q,T,N,J,U,O,w,E,d,k⟩:=hw;obtain⟨⟨x,o⟩,z,d⟩:=V6.mp d;refine Ob e g r.h (fQ h.1) (lR h.2) a6r s σ H R I ⟨Q,T,N,x,o,w,E,z,λq Y u y v l=>?_⟩;dsimp only at d;split at d
 .rename_i i j c;split at d
  .rename_i A;cases d;cases l with
   |cons l K=>
    cases l;cases K with
    |cons B L=>
     cases B;cases L with
     |cons G M=>cases G;cases M;exact⟨i,j,c,rfl,A,k q u _ y v Oc⟩
  .cases d
 .cases d⟩
noncomputable abbrev bQ:=List (List Int×Addr×V)
noncomputable def b7(ps:bQ)(ws:gw):List (List Int×Addr×Value):=a0r (λp w=>(p.1,p.2.1,w)) ps ws
theorem tT{P:WL}{w:WX}:∀(ps:bQ)(ws:gw),a0r sN ps ws=(b7 ps ws).map (a4Q (ZN (Y3 P w)))
 |[],_=>by simp[b7]
 |p::ps,[]=>by simp[b7]
 |p::ps,u::ws=>by have a:=tT (P:=P) (w:=w) ps ws;unfold b7 at a ⊢;rw[Xc,Xc,WA,a];rfl
theorem nG:∀{ps:bQ}{ws:gw},Vals (ps.map (·.2.2)) ws->(b7 ps ws).map (·.1)=ps.map (·.1)
 |[],_,_=>by simp[b7]
 |p::ps,_,.cons r t=>by have a:=nG (ps:=ps) t;unfold b7 at a ⊢;rw[Xc,WA,WA,a]
theorem DE:∀{ps:bQ}{ws:gw}{x:List Int×Addr×Value},x∈b7 ps ws->∃p∈ps,p.1=x.1/\p.2.1=x.2.1
 |[],_,x,h=>by simp[b7]at h
 |p::ps,[],x,h=>by simp[b7]at h
 |p::ps,u::ws,x,h=>by
  unfold b7 at h;rw[Xc]at h;rcases WW.mp h with e|h
  .subst e;exact⟨p,Xd ..,rfl,rfl⟩
  .obtain⟨q,a,e⟩:=DE (ps:=ps) (ws:=ws) h;exact⟨q,WV _ a,e⟩
noncomputable def eJ(ps:bQ)(k:List Int):Option V:=(ps.find? λp=>decide (p.1=k)).map (·.2.2)
noncomputable def eP(ps:bQ)(k:List Int)(b:Addr)(v:V):bQ:=if(eJ ps k).isSome then ps.map (λp=>if p.1=k then(p.1,p.2.1,v)else p)else ps++[(k,b,v)]
theorem nH:∀{ps:bQ}{ws:gw},Vals (ps.map (·.2.2)) ws->∀k,RelO (eJ ps k) ((a1f (b7 ps ws) k).map (·.2))
 |[],_,.nil,k=>by simp[eJ,b7,a1f];exact Zb
 |p::ps,_,.cons r t,k=>by
  have a:=nH (ps:=ps) t k;unfold eJ a1f b7 at a ⊢;rw[Xc,Xr,Xr];by_cases e:p.1=k
  .simp only[e,decide_true];exact r
  .simp only[e,decide_false];exact a
theorem tU(ps:bQ)(k:List Int)(b:Addr)(v:V):(eP ps k b v).length<=ps.length+1:=by unfold eP;split<;>simp
theorem DF{k:List Int}{v:V}{u:Value}(d:RelV v u):∀{ps:bQ}{ws:gw},Vals (ps.map (·.2.2)) ws->
  ∃a,Vals ((ps.map λp=>if p.1=k then(p.1,p.2.1,v)else p).map (·.2.2)) a/\(b7 ps ws).map (putAt k u)=b7 (ps.map λp=>if p.1=k then(p.1,p.2.1,v)else p) a
 |[],_,.nil=>⟨[],.nil,by simp[b7]⟩|p::ps,_,.cons (b:=w) r t=>by
  obtain⟨a,c,b⟩:=DF d (ps:=ps) t;by_cases e:p.1=k
  .refine⟨u::a,?_,?_⟩
   .rw[WA,WA,if_pos e];exact .cons d c
   .unfold b7 at b ⊢;rw[Xc,WA,b,WA,if_pos e,Xc];unfold putAt;rw[if_pos e]
  .refine⟨w::a,?_,?_⟩
   .rw[WA,WA,if_neg e];exact .cons r c
   .unfold b7 at b ⊢;rw[Xc,WA,b,WA,if_neg e,Xc];unfold putAt;rw[if_neg e]
theorem DG{k:List Int}{b:Addr}{v:V}{u:Value}:∀{ps:bQ}{ws:gw},Vals (ps.map (·.2.2)) ws->b7 ps ws++[(k,b,u)]=b7 (ps++[(k,b,v)]) (ws++[u])
 |[],_,.nil=>by simp[b7]
 |p::ps,_,.cons r t=>by have a:=DG (k:=k) (b:=b) (v:=v) (u:=u) (ps:=ps) t;unfold b7 at a ⊢;rw[Xc,XZ,a,XZ,XZ,Xc]
theorem yJ{ps:bQ}{ws:gw}(r:Vals (ps.map (·.2.2)) ws)(k:List Int)(b:Addr){v:V}{u:Value}(c:RelV v u) :
  ∃a,Vals ((eP ps k b v).map (·.2.2)) a/\a5e (b7 ps ws) k b u=b7 (eP ps k b v) a:=by
 have e:=(nH r k).isSome_eq;rw[Z9]at e;unfold eP a5e;rw[e];by_cases h:(a1f (b7 ps ws) k).isSome=b5
 .rw[if_pos h,if_pos h];exact DF c r
 .rw[if_neg h,if_neg h];refine⟨ws++[u],?_,DG r⟩;rw[WE];exact a4V r c
section
variable{X:Cx}{a6r:jw}{σ:St}{H:Hp}{s:Wf}{a:Addr}{ps:bQ}
noncomputable def eD(K:V8)(H:Hp)(ps:bQ):Prop:=∀p∈ps,SqT K H p.2.1 (p.1.map V.int)
theorem j4(I:Inv X a6r σ H s)(e:Rd H a (aS a ps))(q:eD X.K H ps):(a==XB)=b4/\ps.length<=Wq /\
  ∃b,Vals (ps.map (·.2.2)) b/\s.heap.DictOfH (ZN (Y3 X.prog X.w)) a (b7 ps b):=by
 obtain⟨⟨b,r,w,u,o,h,g,i,j,k,l,n⟩,_⟩:=(show ObjOk X.prog X.w H s.heap a (aS a ps)from e.ok I.hok);refine⟨w,u,b,r,o,h,g,i,j,k,by rw[l];exact tT ps b,λx y=>?_,by rw[nG r];exact n⟩;obtain⟨p,v,c,d⟩:=DE y;rw[<- c,<- d];exact jZ I (q p v)
theorem tV{P:WL}{w:WX}{n:Hp}{h':Xo}{ws:gw}(l:(a==XB)=b4)(k:ps.length<=Wq)(r:Vals (ps.map (·.2.2)) ws)(d:h'.DictOfH (ZN (Y3 P w)) a (b7 ps ws)):ObjOk P w n h' a (aS a ps):=by obtain⟨o,e,c,b,g,h,i,_,j⟩:=d;refine⟨⟨ws,r,l,k,o,e,c,b,g,h,by rw[i,tT (P:=P) (w:=w)],by rw[<- nG r];exact j⟩,⟨o,b⟩,?_⟩;rintro q u ⟨ws,r,l,k,o,e,c,b,g,h,i,j⟩ p;exact⟨ws,r,l,k,o,e,c,p o b,g,h,i,j⟩
theorem Oe(I:Inv X a6r σ H s)(e:Rd H a (aS a ps))(b:eD X.K H ps):s.TypeIs (.ref a) "dict":=by obtain⟨_,_,c,_,d⟩:=j4 I e b;exact d.typeIs
theorem oU{A:WY}(b:A.units+1<XM):(ZN (Y3 X.prog X.w)).room A.in1:=by show A.in1.units<XM;rw[iK];lia
variable{A:WY}{E:Value->Wf->Prop}{b:Addr}{k:List Int}{v:V}
theorem Of{Q:Value->Wf->Prop}(q:A.units+1<XM)(I:Inv X a6r σ H s)(e:Rd H a (aS a ps))(n:eD X.K H ps)(l:SqT X.K H b (k.map V.int))(u:eJ ps k=b0 v)
  (h:∀c j,Inv X a6r σ H j->RelV v c->Q c j):WI (WM X.prog X.w) A (a2E (.ref a) (.ref b)) Q E s:=by
 obtain⟨y,x,w,r,d⟩:=j4 I e n;obtain⟨c,hw,i⟩:=RelO.some_of (v:=v) (o:=(a1f (b7 ps w) k).map (·.2)) (by rw[<- u];exact nH r k);obtain⟨p,o,g⟩:=Wb.mp hw;refine wpAny_getItem_heap (oU q) (jZ I l) d o ?_;rw[g];exact h c _ (I.tok _) i
theorem Og{Q:Value->Wf->Prop}(l:A.units+1<XM)(I:Inv X a6r σ H s)(e:Rd H a (aS a ps))(i:eD X.K H ps)(g:SqT X.K H b (k.map V.int))
  (h:∀c,Inv X a6r σ H c->Q (.bool (eJ ps k).isSome) c):WI (WM X.prog X.w) A (Xs .In (.ref b) (.ref a)) Q E s:=by
 obtain⟨j,n,o,r,d⟩:=j4 I e i;refine wpAny_in_heap (oU l) (jZ I g) j d ?_;have q:=(nH r k).isSome_eq;rw[Z9]at q;rw[<- q];exact h _ (I.tok _)
theorem Oh{Q:Value->Wf->Prop}(l:A.units+1<XM)(I:Inv X a6r σ H s)(e:Rd H a (aS a ps))(i:eD X.K H ps)(g:SqT X.K H b (k.map V.int))
  (h:∀c,Inv X a6r σ H c->Q (.bool (!(eJ ps k).isSome)) c):WI (WM X.prog X.w) A (Xs .NotIn (.ref b) (.ref a)) Q E s:=by
 obtain⟨j,n,o,r,d⟩:=j4 I e i;refine a5I (oU l) (jZ I g) j d ?_;have q:=(nH r k).isSome_eq;rw[Z9]at q;rw[<- q];exact h _ (I.tok _)
theorem Oi{Q:Unit->Wf->Prop}{u:Value}(y:A.units+1<XM)(I:Inv X a6r σ H s)(e:H a=b0 (aS a ps))(p:eD X.K H ps)(n:SqT X.K H b (k.map V.int))(hz:ps.length<Wq)(G:RelV v u)
  (h:∀i,Inv X a6r σ (aK H a (aS a (eP ps k b v))) i->Q () i):WI (WM X.prog X.w) A (setItem (.ref a) (.ref b) u) Q E s:=by
 obtain⟨x,L,J,r,d⟩:=j4 I (.of e) p;have z:(b7 ps J).length<=Wq:=by have:=congrArg Xm (nG r);rw[V7,V7]at this;lia
 refine wpAny_setItem_heap (hsz:=z) (oU y) (jZ I n) d λl c g=>h _ ?_;obtain⟨K,B,j⟩:=yJ r k b G;rw[j]at c;have o:∃q,l.get? a=b0 q:=let⟨q,_,_,w,_⟩:=c;⟨q,w⟩;exact wK I (by rw[e];exact Zb) g o (tV x (by have:=tU ps k b v;lia) B c)
end
noncomputable def IsTs(K:V8)(π:Nat->Addr)(n:Nat)(H:Hp):bQ->jx->Prop:=Z3 λp q=>p.1=q.1/\SqT K H p.2.1 (p.1.map V.int)/\IsD K π n H p.2.2 q.2
section
variable{K:V8}{π:Nat->Addr}{n:Nat}{H:Hp}{μ:Hm}
theorem Oj{b:Addr}{k:List Int}(h:IsD K π n H (.ref b) (.tup (k.map D.int))):SqT K H b (k.map V.int):=by
 cases h with
 |tup q t=>rw[ints_of' t]at q;exact q
theorem IsTs.of:∀{ps:bQ}{kvs:jx},ps.map (·.1)=kvs.map (·.1)->IsDs K π n H (ps.map λp=>V.ref p.2.1) (kvs.map λk=>D.tup (k.1.map D.int))->IsDs K π n H (ps.map (·.2.2)) (kvs.map (·.2))->IsTs K π n H ps kvs
 |[],[],_,_,_=>.nil|[],_::_,h,_,_=>by cases h
 |_::_,[],h,_,_=>by cases h
 |p::ps,q::kvs,h,h2,h3=>by
  cases h2 with
  |cons a b=>
   cases h3 with
   |cons c d=>rw[WA,WA,a3k]at h;refine .cons ⟨h.1,?_,c⟩ (IsTs.of h.2 b d);rw[h.1];exact Oj a
theorem IsTs.keys:∀{ps:bQ}{kvs:jx},IsTs K π n H ps kvs->eD K H ps
 |_,_,.nil=>λp a=>nomatch a|_,_,.cons h t=>λp a=>by
  rcases WW.mp a with e|a
  .subst e;exact h.2.1
  .exact IsTs.keys t p a
theorem IsTs.to:∀{ps:bQ}{kvs:jx},IsTs K π n H ps kvs->ps.map (·.1)=kvs.map (·.1)/\IsDs K π n H (ps.map λp=>V.ref p.2.1) (kvs.map λk=>D.tup (k.1.map D.int))/\IsDs K π n H (ps.map (·.2.2)) (kvs.map (·.2))
 |_,_,.nil=>⟨rfl,.nil,.nil⟩|_,_,.cons (a:=p) (b:=q) h t=>by obtain⟨a,b,c⟩:=IsTs.to t;refine⟨by rw[WA,WA,h.1,a],.cons ?_ b,.cons h.2.2 c⟩;show IsD K π n H (.ref p.2.1) (.tup (q.1.map D.int));rw[<- h.1];exact .tup h.2.1 (yA p.1)
theorem IsTs.val(k:List Int):∀{ps:bQ}{kvs:jx},IsTs K π n H ps kvs->(eJ ps k=b3/\a8 kvs k=b3)\/∃v d,eJ ps k=b0 v/\a8 kvs k=b0 d/\IsD K π n H v d
 |_,_,.nil=>.inl ⟨rfl,rfl⟩|_,_,.cons (a:=p) (b:=q) h t=>by
  have a:=IsTs.val k t;unfold eJ a8 at a ⊢;rw[Xr,Xr,<- h.1];by_cases e:p.1=k
  .simp only[e,decide_true];exact .inr ⟨_,_,rfl,rfl,h.2.2⟩
  .simp only[e,decide_false];exact a
theorem IsTs.put{ps:bQ}{kvs:jx}(h:IsTs K π n H ps kvs)(k:List Int){b:Addr}{v:V}{d:D}(j:SqT K H b (k.map V.int))(i:IsD K π n H v d):IsTs K π n H (eP ps k b v) (b9 kvs k d):=by
 have e:(eJ ps k).isSome=(a8 kvs k).isSome:=by rcases h.val k with⟨c,g⟩|⟨v,d,c,g,_⟩<;>rw[c,g]<;>rfl
 have a:∀{ps:bQ}{kvs:jx},IsTs K π n H ps kvs->IsTs K π n H (ps.map λp=>if p.1=k then(p.1,p.2.1,v)else p) (kvs.map λp=>if p.1=k then(p.1,d)else p):=by
  intro ps kvs h;unfold IsTs at h;induction h with
  |nil=>exact .nil|@cons p q ps o h t l=>
   rw[WA,WA];refine .cons ?_ l;by_cases z:p.1=k
   .rw[if_pos z,if_pos (h.1.symm.trans z)];exact⟨h.1,h.2.1,i⟩
   .rw[if_neg z,if_neg λy=>z (h.1.trans y)];exact h
 unfold eP b9;rw[e];split
 .exact a h
 .exact a4V h ⟨rfl,j,i⟩
theorem jB{a:Nat}{kvs:jx}(R:Rp K π H μ)(h:μ[a]?=b0 (.dT kvs)):∃ps,H (π a)=b0 (aS (π a) ps)/\IsTs K π μ.length H ps kvs:=by obtain⟨ps,b,c,d,e⟩:=R.dT a kvs h;exact⟨ps,b,.of c d e⟩
theorem tW{a:Nat}{kvs:jx}(R:Rp K π H μ)(h:μ[a]?=b0 (.dF kvs)):∃b ps,H (π a)=b0 (.frz b (aS (π a) ps))/\IsTs K π μ.length H ps kvs:=by obtain⟨b,ps,c,d,e,g⟩:=R.dF a kvs h;exact⟨b,ps,c,.of d e g⟩
theorem lY{v:V}{x:D}{k:List Int}(h:IsD K π n H v x)(e:cR x=b0 k):∃b,v=.ref b/\SqT K H b (k.map V.int):=by
 have:=qE e;subst this;cases h with
 |tup q t=>rw[ints_of' t]at q;exact⟨_,rfl,q⟩
end
noncomputable def jC:ME:=λ_ a=>b0 (.loc a.length,a++[.dT []])
section
variable{X:Cx}{pos:XX}
theorem DH{P:WL}{w:WX}{H:Hp}(h:Xo)(a:XB<h.objs.size):ObjOk P w H (h.push {cls:=.type "dict",data:=.dict #[]}) h.objs.size (aS h.objs.size []):=
 tV (ws:=[]) (beq_eq_false_iff_ne.mpr (Xh (WD a))) (Yi _) .nil (a5W h)
noncomputable def Ol:TE:=λ_ H Q=>∀p,H p=b3->Q (.ref p) (aK H p (aS p []))
theorem Om:PE X (.Dict [] [] pos) Ol:=λa6r s σ H Q I h=>wpAny_Dict_empty ⟨.ref s.heap.objs.size,_,I.laid (a:=s.heap.objs.size) (o:=aS s.heap.objs.size []) (t':=s.toks) (λ_ _ q=>Wc _ q) (Wh _) (DH s.heap I.big),rfl,h _ (I.hok.fresh (Wh _))⟩
theorem Oo:QE X (.Dict [] [] pos) jC:=⟨dH Om (by
 rintro n H Q ⟨j,l,i,d,g,R,E,c,k⟩ p e;cases c;obtain⟨b,a,h⟩:=R.alloc (c:=.dT []) (o:=aS p []) e ⟨[],rfl,rfl,.nil,.nil⟩;exact k _ _ _ b a jT)⟩
end
noncomputable def qG:D->D->Hm->jk
 |.loc a,y,μ=>match μ[a]? with
  |some (.dT kvs)=>(cR y).bind λk=>(a8 kvs k).map λd=>(d,μ)|some (.dF kvs)=>(cR y).bind λk=>(a8 kvs k).map λd=>(d,μ)|_=>b3
 |_,_,_=>b3
section
variable{X:Cx}{a b e:Expr}{ma mb me:ME}{pos tpos:XX}{td ty tv:TE}
noncomputable def DI(K:V8):R2:=λx y H Q=>∃a b ps k v,x=.ref a/\y=.ref b/\Rd H a (aS a ps)/\eD K H ps/\SqT K H b (k.map V.int)/\eJ ps k=b0 v/\Q v H
theorem Oq(B:X.A.units+1<XM)(z:PE X a td)(w:PE X b ty)(A:BK b):PE X (.Subscript a b pos) (λσ H Q=>td σ H λx d=>ty σ d λy g=>DI X.K x y g Q):=by intro c s σ H Q I h;refine BL a1I.lookup A (aR (z c s σ H _ I h) λu N ⟨x,d,n,L,J⟩=>aR (w c N σ d _ n J) λG R ⟨y,g,j,M,a,b,O,k,v,p,q,e,l,r,E,K⟩=>?_);subst p q;obtain rfl:u=Wx a:=L;obtain rfl:G=Wx b:=M;exact⟨Oe j e l,Of B j e l r E λU T o i=>⟨v,g,o,i,K⟩⟩
theorem Ot{K:V8}:dA K qG (DI K):=by
 intro w H L x y d G I J Q R s u c k;unfold qG at c;split at c
 .split at c
  .rename_i n hc;obtain⟨h,j,c⟩:=V6.mp c;obtain⟨A,g,c⟩:=Wb.mp c;cases c;cases s;obtain⟨o,i,T⟩:=jB R hc;obtain⟨b,rfl,l⟩:=lY u j;rcases T.val h with⟨_,z⟩|⟨v,B,p,q,r⟩
   .rw[z]at g;cases g
   .rw[q]at g;cases g;exact⟨_,b,o,h,v,rfl,rfl,.of i,T.keys,l,p,k w _ H .refl R r⟩
  .rename_i n hc;obtain⟨h,j,c⟩:=V6.mp c;obtain⟨A,g,c⟩:=Wb.mp c;cases c;cases s;obtain⟨E,o,i,T⟩:=tW R hc;obtain⟨b,rfl,l⟩:=lY u j;rcases T.val h with⟨_,z⟩|⟨v,B,p,q,r⟩
   .rw[z]at g;cases g
   .rw[q]at g;cases g;exact⟨_,b,o,h,v,rfl,rfl,.inr ⟨E,i⟩,T.keys,l,p,k w _ H .refl R r⟩
  .cases c
 .cases c
theorem Ou{k:Nat}(g:Room k X.A)(c:QE X a ma)(d:QE X b mb)(h:m5 b=b5):QE X (.Subscript a b pos) (aC qG ma mb):=⟨dH (Oq (fX g) c.h d.h (xK h)) (pT Ot)⟩
end
section
variable{X:Cx}{o i e:Expr}{mo mi me:ME}{pos tpos:XX}{td ty tv:TE}
noncomputable def Ov(K:V8)(td ty tv:TE):TS:=λD σ H=>tv σ H λv d=>td σ d λx g=>ty σ g λy c=>∃a b ps k,x=.ref a/\y=.ref b/\c a=b0 (aS a ps)/\eD K c ps/\SqT K c b (k.map V.int)/\ps.length<Wq/\D.nx σ (aK c a (aS a (eP ps k b v)))
theorem Ox(K:X.A.units+1<XM)(G:PE X o td)(B:PE X i ty)(L:PE X e tv)(J:ZY e (b0 (.Subscript o i tpos)) pos.line X.env=pure b4) :
  PS X (.Assign [.Subscript o i tpos] e pos) (Ov X.K td ty tv):=by
 intro c s d H D I h;refine a3L (aR (L c s d H _ I h) λr Z ⟨v,g,l,T,O⟩=>aR (G c Z d g _ l O) λu s2 ⟨x,j,n,U,Q⟩=>aR (B c s2 d j _ n Q) λN s3 ⟨y,H3,p,Y,a,b,ps,k,w,z,e,E,A,M,R⟩=>?_) J;subst w z;obtain rfl:u=Wx a:=U;obtain rfl:N=Wx b:=Y;exact Oi K p e E A M T λs4 q=>⟨d,_,q,R⟩
theorem Oy{g:Nat}(hr:Room g X.A)(ho:QE X o mo)(hi:QE X i mi)(he:QE X e me)(h:jU e=b5):QS X (.Assign [.Subscript o i tpos] e pos) (nF qF mo mi me):=
 ⟨i5 (Ox (JV hr) ho.h hi.h he.h (tE h)) (by
 rintro E σ H ⟨π,K,μ,fl,ρ',μ',R,n,d,k⟩;obtain⟨⟨x,j⟩,h1,d⟩:=V6.mp d;obtain⟨⟨y,l⟩,h2,d⟩:=V6.mp d;obtain⟨⟨z,B⟩,h3,d⟩:=V6.mp d;obtain⟨μ4,c,d⟩:=Wb.mp d;cases d;refine⟨π,K,μ,x,j,R,n,h1,λG v1 H1 p Q i1=>⟨G,K,j,y,l,Q,n.mono p,h2,λI v2 H2 q R2 i2=>⟨I,K,l,z,B,R2,(n.mono p).mono q,h3,λJ v3 H3 r L i3=>?_⟩⟩⟩;cases y with
 |loc a=>
  simp only[qF]at c;split at c
  .rename_i w hc;obtain⟨g,h5,c⟩:=V6.mp c;split at c
   .rename_i hz;cases c;have v:=i2.mono r;cases v with
    |loc s=>
     obtain⟨A,N,T⟩:=jB L hc;obtain⟨b,rfl,O⟩:=lY i3 h5;have hv:=(i1.mono q).mono r;have Y:=T.put g O hv;obtain⟨Z,g2,g3⟩:=Y.to;have u:A.length<Wq:=by have:=congrArg Xm (T.to).1;rw[V7,V7]at this;lia
     refine⟨_,b,A,g,rfl,rfl,N,T.keys,O,u,?_⟩;obtain⟨M,U⟩:=L.put (c:=.dT (b9 w g x)) (o:=aS _ (eP A g b v1)) s N (.inr (.inr ⟨_,rfl⟩)) ⟨_,rfl,Z,g2,g3⟩;exact k J σ _ (((p.trans q).trans r).trans M) U ((((n.mono p).mono q).mono r).mono M)
   .cases c
  .cases c
 |_=>simp[qF]at c)⟩
end
noncomputable def qH(b:Bool):D->D->Hm->jk
 |x,.loc a,μ=>match μ[a]? with
  |some (.dT kvs)=>(cR x).map λk=>(.bl (if b then !(a8 kvs k).isSome else(a8 kvs k).isSome),μ)|some (.dF kvs)=>(cR x).map λk=>(.bl (if b then !(a8 kvs k).isSome else(a8 kvs k).isSome),μ)|_=>b3
 |_,_,_=>b3
noncomputable def yK(K:V8)(c:Bool):R2:=λx y H Q=>∃a b ps k,x=.ref b/\y=.ref a/\Rd H a (aS a ps)/\eD K H ps/\SqT K H b (k.map V.int)/\Q (.bl (if c then !(eJ ps k).isSome else(eJ ps k).isSome)) H
theorem DJ{X:Cx}(j:X.A.units+1<XM):OpR X (Xs .In) (yK X.K b4):=by intro d s r H x y v u Q I l n h;obtain⟨a,b,o,k,rfl,rfl,e,i,g,q⟩:=h;obtain rfl:v=Wx b:=l;obtain rfl:u=Wx a:=n;exact Og j I e i g λp c=>⟨.bl _,H,c,rfl,q⟩
theorem DK{X:Cx}(j:X.A.units+1<XM):OpR X (Xs .NotIn) (yK X.K b5):=by intro d s r H x y v u Q I l n h;obtain⟨a,b,o,k,rfl,rfl,e,i,g,q⟩:=h;obtain rfl:v=Wx b:=l;obtain rfl:u=Wx a:=n;exact Oh j I e i g λp c=>⟨.bl _,H,c,rfl,q⟩
theorem tX{K:V8}{j:Bool}:dA K (qH j) (yK K j):=by
 intro r H A x y d u w z Q R p q a k;unfold qH at a;split at a
 .split at a
  .rename_i h hc;obtain⟨g,c,a⟩:=Wb.mp a;cases a;cases q;obtain⟨l,n,T⟩:=jB R hc;obtain⟨b,rfl,o⟩:=lY p c;have e:(eJ l g).isSome=(a8 h g).isSome:=by rcases T.val g with⟨c,i⟩|⟨v,d,c,i,_⟩<;>rw[c,i]<;>rfl
   refine⟨_,b,l,g,rfl,rfl,.of n,T.keys,o,?_⟩;rw[e];exact k r _ H .refl R (.bl _)
  .rename_i h hc;obtain⟨g,c,a⟩:=Wb.mp a;cases a;cases q;obtain⟨s,l,n,T⟩:=tW R hc;obtain⟨b,rfl,o⟩:=lY p c;have e:(eJ l g).isSome=(a8 h g).isSome:=by rcases T.val g with⟨c,i⟩|⟨v,d,c,i,_⟩<;>rw[c,i]<;>rfl
   refine⟨_,b,l,g,rfl,rfl,.inr ⟨s,n⟩,T.keys,o,?_⟩;rw[e];exact k r _ H .refl R (.bl _)
  .cases a
 .cases a
section
variable{X:Cx}{a b:Expr}{ma mb:ME}{pos:XX}
end
noncomputable def RawD(h:Xo)(d:Addr)(es:Array DictEntry)(ep:Nat):Prop:=∃z,h.get? d=b0 z/\z.ExactDict/\z.data=.dict es ep
theorem RawD.ty{s:Wf}{d:Addr} {es ep} (g:RawD s.heap d es ep):s.TypeIs (.ref d) "dict":=let⟨z,a,b,_⟩:=g;⟨z,a,b.1⟩
theorem RawD.stay{h h':Xo}{d:Addr} {es ep} (g:RawD h d es ep)(k:∀o,h.get? d=b0 o->h'.get? d=b0 o):RawD h' d es ep:=let⟨z,a,b⟩:=g;⟨z,k z a,b⟩
theorem RawD.lt{h:Xo}{d:Addr} {es ep} (g:RawD h d es ep):d<h.objs.size:=let⟨_,a,_⟩:=g;Wm a
section
variable{P:WL}{w:WX}{A:WY}{E:Value->Wf->Prop}{s:Wf}{d it:Addr}{i ep:Nat}{es:Array DictEntry}
theorem DL{Q:Value->Wf->Prop}(lo:(d==XB)=b4)(g:RawD s.heap d es ep)
  (q:Q (.ref s.heap.objs.size) {s with heap:=s.heap.push {cls:=.type "dict_keyiterator",data:=.fields #[.ref d,.int 0 0,.int es.size 0,.int ep 0]}}):WI (WM P w) A (a2i (.ref d)) Q E s:=by
 obtain⟨z,a,c,b⟩:=id g;refine a5b g.ty F.slot_dict_iter (Yn F.slot_dict_iter g.ty F.entry_dict_iter ?_ (F.args_dict_iter_1 _));unfold Builtin.«dict.__iter__» a6c;refine V9 (V9 (ZU g.ty ?_));show WI _ _ (pure (Wx d)) _ _ _;refine Wg ?_;show WI _ _ (Zx d >>= _) _ _ _;unfold Zx;rw[if_neg (λx=>Wj (lo.symm.trans x))];refine V9 (Wg (V9 (Ze a b (V9 (a0Q a b (V9 (XA (Wg ?_))))))));exact⟨_,rfl,"dict_keyiterator",_,⟨_,Wn _ rfl,rfl⟩,F.slot_dict_keyiterator_next.lookup,by simpa[Z0]using q⟩
theorem tY{Q:Option Value->Wf->Prop}(p:A.handled=b3)(j:s.heap.IsKeyIter it d i es.size ep)(g:RawD s.heap d es ep)
  (v:∀e a,es[i]?=b0 e->a.IsKeyIter it d (i+1) es.size ep->YU it s.heap a->Q (b0 e.key) {s with heap:=a})
  (B:es[i]?=b3->∀a,a0J it s.heap a->Q b3 {s with heap:=a}):WI (WM P w) A (Y2 (.ref it)) Q E s:=by
 obtain⟨y,c,r,b⟩:=id j;obtain⟨z,l,G,n⟩:=id g;have k:∀{Q:String->Wf->Prop}{A:WY}{E:Value->Wf->Prop},Q "dict_keyiterator" s->WI (WM P w) A (a5D (.ref it)) Q E s:=λq=>wpAny_typeNameOfWhole_keyiter j.typeIs q;unfold Y2;refine V9 (wpAny_attempt (a3w (name:=Yw "__next__") j.typeIs F.slot_dict_keyiterator_next (Yn F.slot_dict_keyiterator_next j.typeIs F.entry_dict_keyiterator_next ?_ (F.args_dict_keyiterator_next_1 _))));refine V9 (Wg (V9 (V9 (V9 (k (Wg (V9 (a6f c b ?_))))))));simp only[show Zp "dict_keyiterator"=b4 by decide,WQ,if_false];show WI _ _ (if(Wx d==XT)=b5 then _ else _) _ _ _;rw[if_neg (show ¬ (Wx d==XT)=b5 from λx=>Wj x)];refine V9 (Wg (V9 (Ze l n ?_)));rw[if_neg (λx=>by simp at x)];refine V9 (Wg (V9 (a0Q l n ?_)));rw[if_neg (λx=>by simp at x)];refine Wg ?_;simp only[if_neg (show ¬ ((i:Int)<0) by lia),Yh];cases o:es[i]? with
 |some e=>
  refine V9 (V9 (k (Wg (V9 (a4j j.typeIs ?_)))));show WI _ _ (a4s (.ref it) 1 (Z0 ((i:Int)+1)) >>= _) _ _ _;refine V9 (a2L c b (by simp) ?_);have h:(s.heap.update it (a5l (·.setIfInBounds 1 (Z0 ((i:Int)+1))))).IsKeyIter it d (i+1) es.size ep:=
   ⟨_,Xv _ c (Obj.isFreed_of_fields (a4c b _)),(Obj.cls_mapFields ..).trans r,by simp[a4c b,Z0]⟩
  generalize hu:s.heap.update it (a5l (·.setIfInBounds 1 (Z0 ((i:Int)+1))))=u at h;refine V9 (Xb (V9 (a4j (s:={s with heap:=u}) h.typeIs ?_)));show WI _ _ (pure e.key) _ _ _;exact Wg (Wg ⟨_,rfl,Wg (v e u o h (hu▸YC ..))⟩)
 |none=>refine V9 (V9 (k (Wg ?_)));show WI _ _ (a4s (.ref it) 0 .none >>= _) _ _ _;refine V9 (a2L c b (by simp) ?_);show WI _ _ (a6k (.type "StopIteration") [] >>= _) _ _ _;simp only[a6k,a4u];refine V9 (V9 (XA ?_ (by size_fits)));refine V9 (m:=a1e _ _) (a2p (a:=XT) (by first|rfl|(simp only[a1e];rfl)) (XA ?_ (by size_fits)));simp only[raiseNew];refine V9 (wpAny_handled ?_);rw[show A.in1.handled=b3 from p];refine V9 (Wg (wpAny_throw ?thrown));case thrown=>exact V9 (a0A (T:="StopIteration") (b:=b5) ⟨_,Wn _ rfl,rfl⟩ a6o (Wg (B o _ (((YC ..).extBut.push _).push _))))
theorem Oz(n:A.handled=b3)(l:d≠it)(es:Array DictEntry)(ep:Nat):Walks P w A it [it,d] [it] es.size (λi v=>∃e,es[i]?=b0 e/\v=e.key) (λi h=>h.IsKeyIter it d i es.size ep/\RawD h d es ep) where
 sub:=λb a=>by rw[WB.mp a];exact Xd ..
 frame:=λ_ _ _ st k=>⟨st.1.at λo e=>k it (by simp) o e,st.2.stay λo e=>k d (by simp) o e⟩
 item:=λi s Q E u st q=>tY n st.1 st.2 (λe j c r p=>q _ j s.toks ⟨e,c,rfl⟩ ⟨r,st.2.stay λo g=>p.extBut d o l g⟩ λb o a g=>p.extBut b o (λz=>a (by simp[z])) g) (λc=>by simp at c;lia)
 done:=λs Q E st q=>tY n st.1 st.2 (λe j c=>by simp at c) (λ_ j x=>q j s.toks λb o a g=>x b o (λz=>a (by simp[z])) g)
 self:=λ_ _ _ _ st q=>a4q st.1 q
theorem OA(lo:(d==XB)=b4):PySem.W.KdlSrc P w "dict" d d es.size (λi v=>∃e,es[i]?=b0 e/\v=e.key) (λh=>RawD h d es ep) where
 type:=λ_ g=>g.ty
 there:=λ_ g=>⟨g.lt,g.lt⟩
 keep:=λ_ _ g k=>g.stay λo e=>k d (.inl rfl) o e
 notList:=by decide
 notTuple:=by decide
 hint:=λ_ _ _ _ g q=>PySem.W.kdl_hint_dict g.ty q
 iter:=λ_ _ a g=>⟨_,_,(λ_ _ q=>DL lo g q),Oz a (WD g.lt) es ep,⟨⟨_,Wn _ rfl,rfl,rfl⟩,g.stay λo e=>Wc _ e⟩⟩
theorem OB(lo:(d==XB)=b4):MeetsIn P w (Builtin.«dict.__len__» ⟨[.ref d],[]⟩) (λ_ R s=>∃es ep,RawD s.heap d es ep/\R (.ok (.ret (.int (es.size:Nat) s.toks))) {s with toks:=s.toks+1}):=
 .of_wp λA R s ⟨es,ep,⟨z,a,c,b⟩,q⟩=>by show WI _ _ (dictSize d >>= _) _ _ _;unfold dictSize;refine V9 (V9 (Ze a b (Wg ?_)));show WI _ _ (a5Z d >>= _) _ _ _;refine V9 (wpAny_pendingCount_other lo (wpAny_ret_mkInt ?_));rw[Nat.add_zero];exact q
theorem OC{Q:Value->Wf->Prop}(lo:(d==XB)=b4)(g:RawD s.heap d es ep)(hz:es.size<=Wq)(q:Q (.int (es.size:Nat) (s.toks+1)) {s with toks:=s.toks+1+1}):WI (WM P w) A (call (.builtin "len") [.ref d]) Q E s:=
 a5P g.ty F.slot_dict_len (λb a=>a0L F.slot_dict_len g.ty F.entry_dict_len (F.args_dict_len_1 _) (OB lo) ⟨es,ep,g,a⟩) (by lia) (by rw[Wv]at hz;lia) q
end
theorem yL:∀{ps:bQ}{ws:gw},Vals (ps.map (·.2.2)) ws->(b7 ps ws).map (λx=>Wx x.2.1)=ps.map λp=>Wx p.2.1
 |[],_,_=>by simp[b7]
 |p::ps,_,.cons r t=>by have a:=yL (ps:=ps) t;unfold b7 at a ⊢;rw[Xc,WA,WA,a]
theorem DM:∀ps:bQ,Vals (ps.map λp=>V.ref p.2.1) (ps.map λp=>Wx p.2.1)
 |[]=>.nil|p::ps=>.cons rfl (DM ps)
section
variable{X:Cx}{a6r:jw}{σ:St}{H:Hp}{s:Wf}{a:Addr}{ps:bQ}
theorem tZ(I:Inv X a6r σ H s)(e:H a=b0 (aS a ps))(h:eD X.K H ps):(a==XB)=b4/\ps.length<=Wq/\∃es ep,RawD s.heap a es ep/\es.toList.map (·.key)=ps.map λp=>Wx p.2.1:=by obtain⟨j,i,k,r,z,es,ep,b,c,d,g,_⟩:=j4 I (.of e) h;refine⟨j,i,es,ep,⟨z,b,c,d⟩,?_⟩;rw[g,WC,<- yL r];rfl
noncomputable def DN(K:V8):gz->Hp->VK->Prop:=λxs H Q=>∃a ps,xs=[V.ref a]/\H a=b0 (aS a ps)/\eD K H ps/\Q (.int ps.length) H
theorem OD:CallR X (.builtin "len") (DN X.K):=by
 intro a6r s σ H p o Q I r h;obtain⟨a,ps,rfl,c,e,q⟩:=h;obtain⟨u,rfl,k⟩:=fV r;cases k;obtain⟨j,n,b,l,g,d⟩:=tZ I c e;have i:b.size=ps.length:=by have:=congrArg Xm d;simpa using this
 refine OC j g (by lia) ?_;rw[i];exact⟨.int ps.length,H,(I.tok _).tok _,⟨_,rfl⟩,q⟩
noncomputable def DO(K:V8):gz->Hp->VK->Prop:=λxs H Q=>∃a ps,xs=[V.ref a]/\H a=b0 (aS a ps)/\eD K H ps/\∀l,H l=b3->Q (.ref l) (aK H l (.lst (ps.map λp=>V.ref p.2.1)))
theorem OE(hc:X.calm=b5):CallR X (.type "list") (DO X.K):=by
 intro a6r s σ H O N Q I r h;obtain⟨a,ps,rfl,y,z,q⟩:=h;obtain⟨u,rfl,G⟩:=fV r;cases G;obtain⟨E,A,n,K,g,d⟩:=tZ I y z;have M:n.size=ps.length:=by have:=congrArg Xm d;simpa using this
 refine PySem.W.kdl_call (OA E) (I.ok.hd hc) g (by lia) λL J b k B x c=>?_;refine⟨.ref s.heap.objs.size,_,I.laid (t':=J) (a:=s.heap.objs.size) (o:=.lst (ps.map λp=>V.ref p.2.1)) B (Wh _) ?_,rfl,q _ (I.hok.fresh (Wh _))⟩;refine⟨by rw[V7];exact A,b.toList,k,?_,by simpa using x⟩;have l:b.toList=ps.map λp=>Wx p.2.1:=by
  rw[<- d];refine a4h λi=>?_;rw[Ws,XO,XO];cases j:b[i]? with
  |some v=>obtain⟨e,o,w⟩:=c.2 i v j;rw[o,w];rfl|none=>
   have:b.size<=i:=by simpa using j
   rw[a2D (by rw[<- c.1];exact this)];rfl
 rw[l];exact DM ps
end
section
variable{X:Cx}{a b o i e:Expr}{ma mb mo mi me:ME}{pos tpos:XX}{k:Nat}
theorem OF(l:Room k X.A)(g:QE X a ma)(j:QE X b mb)(h:m5 b=b5):QE X (.Subscript a b pos) (aC aE ma mb):=
 m9 (Ou l g j h) (L7 g j h) (hW λx y n r c=>by
  unfold aE at c;split at c
  .split at c
   .rename_i d hc;refine .inl ?_;simp only[qG,hc];exact c
   .rename_i d hc;refine .inl ?_;simp only[qG,hc];exact c
   .exact .inr c
  .exact .inr c)
noncomputable def oV(c:Bool):D->D->Hm->jk:=λx y d=>match qH c x y d with
 |some r=>b0 r|none=>kR c x y d
theorem t5{c:Bool}(x y:D)(d:Hm)(r:D×Hm)(h:oV c x y d=b0 r):qH c x y d=b0 r\/kR c x y d=b0 r:=by
 unfold oV at h;split at h
 .rename_i z;rw[z];exact .inl h
 .exact .inr h
theorem DP{g:Bool}(x y:D)(l:Hm)(r:D×Hm)(h:cM g x y l=b0 r):(∃i j,x=.str i/\y=.str j)\/oV g x y l=b0 r:=by
 cases y with
 |loc a=>
  refine .inr ?_;have e:cM g x (.loc a) l=(match l[a]? with
   |some (.dT d)=>(cR x).map λk=>(D.bl (if g then !(a8 d k).isSome else(a8 d k).isSome),l)|some (.dF d)=>(cR x).map λk=>(D.bl (if g then !(a8 d k).isSome else(a8 d k).isSome),l)
   |_=>kR g x (.loc a) l):=by cases x<;>rfl
  rw[e]at h;unfold oV;simp only[qH];cases hc:l[a]? with
  |none=>rw[hc]at h;exact h|some c=>
   rw[hc]at h;cases c with
   |dT d=>dsimp only at h ⊢;rw[h]|dF d=>dsimp only at h ⊢;rw[h]|_=>exact h
 |str j=>
  cases x with
  |str i=>exact .inl ⟨i,j,rfl,rfl⟩|_=>exact .inr h
 |_=>cases x<;>exact .inr h
theorem DQ(x y:D)(c:Hm)(r:D×Hm)(h:cM b4 x y c=b0 r):xH x y c=b0 r\/oV b4 x y c=b0 r:=by
 rcases DP x y c r h with⟨i,j,rfl,rfl⟩|z
 .exact .inl h
 .exact .inr z
theorem DR(x y:D)(c:Hm)(r:D×Hm)(h:cM b5 x y c=b0 r):xV x y c=b0 r\/oV b5 x y c=b0 r:=by
 rcases DP x y c r h with⟨i,j,rfl,rfl⟩|z
 .exact .inl h
 .exact .inr z
theorem OG(g:Room k X.A)(c:QE X a ma)(d:QE X b mb)(h:fY b=b5):QE X (.Compare a [.In] [b] pos) (aC (cM b4) ma mb):=
 m9 ⟨fM Bw CB c.h d.h (iN h)⟩ (m9 ⟨fM (DJ (fX g)) tX c.h d.h (iN h)⟩ ⟨fM (C0 (tI g)) tG c.h d.h (iN h)⟩ (hW t5)) (hW DQ)
theorem OH(g:Room k X.A)(c:QE X a ma)(d:QE X b mb)(h:fY b=b5):QE X (.Compare a [.NotIn] [b] pos) (aC (cM b5) ma mb):=
 m9 ⟨fM BS C2 c.h d.h (iN h)⟩ (m9 ⟨fM (DK (fX g)) tX c.h d.h (iN h)⟩ ⟨fM (C1 (tI g)) tG c.h d.h (iN h)⟩ (hW t5)) (hW DR)
theorem OI(g:Room k X.A)(c:QE X a ma)(d:QE X b mb)(h:fY b=b5):QT X (.Compare a [.In] [b] pos) (aQ (aC (cM b4) ma mb)):=
 oH ⟨fN Bw CB c.h d.h (iN h)⟩ (oH ⟨fN (DJ (fX g)) tX c.h d.h (iN h)⟩ ⟨fN (C0 (tI g)) tG c.h d.h (iN h)⟩ (oI (hW t5))) (oI (hW DQ))
theorem OJ(g:Room k X.A)(c:QE X a ma)(d:QE X b mb)(h:fY b=b5):QT X (.Compare a [.NotIn] [b] pos) (aQ (aC (cM b5) ma mb)):=
 oH ⟨fN BS C2 c.h d.h (iN h)⟩ (oH ⟨fN (DK (fX g)) tX c.h d.h (iN h)⟩ ⟨fN (C1 (tI g)) tG c.h d.h (iN h)⟩ (oI (hW t5))) (oI (hW DR))
theorem OK(l:Room k X.A)(j:QE X o mo)(g:QE X i mi)(d:QE X e me)(h:jU e=b5):QS X (.Assign [.Subscript o i tpos] e pos) (iP mo mi me):=
 NS (Oy l j g d h) (NW j g d h) (NX λx y z n r c=>by
  unfold oR at c;split at c
  .split at c
   .exact .inl c
   .exact .inr c
  .cases c)
end
noncomputable def yM(K:V8)(a b:Addr):It:=
 ⟨λi H=>∃c d x y,SqL K H a c/\SqL K H b d/\c[i]?=b0 x/\d[i]?=b0 y,
   λi H z e=>∃p v u,z=.ref p/\H p=b3/\e=aK H p (.tup [v,u])/\(∀c,SqL K H a c->c[i]?=b0 v)/\∀d,SqL K H b d->d[i]?=b0 u,
   λi H=>∃c d,SqL K H a c/\SqL K H b d/\(c.length<=i\/d.length<=i)⟩
theorem OL{P:WL}{w:WX}{K:V8}{es:List Expr}{kx:Nat}{pt:XX}{a b z r to l n:Addr}(B:ZipApart z r to l n a b) :
  Turn Qc P w K (.Tuple es kx pt) (yM K a b) [z,r,to,l,n] z (λi h=>IsZip h z r to .none/\IsPair h r (.ref l) (.ref n)/\(∃u v,IsPair h to u v)/\h.IsListIter l a i/\h.IsListIter n b i) where
 mem:=by simp
 obj:=λi h ⟨A,G,⟨u,v,L⟩,M,N⟩ c hc=>by
  have hc':c=z\/c=r\/c=to\/c=l\/c=n:=by simpa using hc
  rcases hc' with rfl|rfl|rfl|rfl|rfl
  .exact⟨_,A,λq e=>by
    have T:Xf _=a0n q:=e;cases T⟩
  .exact⟨_,G,λq e=>by
    have T:a3m _ _=a0n q:=e;cases T⟩
  .exact⟨_,L,λq e=>by
    have T:a3m _ _=a0n q:=e;cases T⟩
  .obtain⟨o,e1,c,d⟩:=M;exact⟨o,e1,λv e=>by rw[d]at e;cases e⟩
  .obtain⟨o,e1,c,d⟩:=N;exact⟨o,e1,λv e=>by rw[d]at e;cases e⟩
 keep:=λi h h' ⟨A,G,⟨u,v,L⟩,M,N⟩ k=>⟨k z (by simp) _ A,k r (by simp) _ G,⟨u,v,k to (by simp) _ L⟩,M.at λo e=>k l (by simp) o e,N.at λo e=>k n (by simp) o e⟩;item:=by
  intro X hP hw hK hc i a6r s σ H E I Y ⟨A,G,⟨u,v,L⟩,M,N⟩ hg;subst hP hw hK;obtain⟨xs,ys,x,y,Z,J,R,hy⟩:=hg;obtain⟨its,rv,p,hz⟩:=I.list Z;obtain⟨U,O,p2,hz2⟩:=I.list J;obtain⟨u1,fX,ru1⟩:=rv.get R;obtain⟨u2,hu2,ru2⟩:=O.get hy;refine wpAny_pyNext_zip_item B A G L M N p.isList p2.isList (x:=u1) (y:=u2) (by simpa using fX) (by simpa using hu2) λh1 a1 a2 a3 a4 a5 a6 hk=>⟨_,rfl,wpAny_letOwnedTupleGo_zip a1 λh2 b1 j=>?_⟩;have ne:∀{c o},s.heap.get? c=b0 o->s.heap.objs.size≠c:=λe=>XR (Wm e);have l4:∃o,s.heap.get? l=b0 o:=let⟨o,e,_⟩:=M;⟨o,e⟩;have l5:∃o,s.heap.get? n=b0 o:=let⟨o,e,_⟩:=N;⟨o,e⟩;have ht2:h2.get? s.heap.objs.size=b0 {cls:=.type "tuple",data:=.seq #[u1,u2]}:=(j.2 _ (ne A)).trans a5;have hfr:H s.heap.objs.size=none:=I.hok.fresh (Wh _);have g2':IsPair h2 r (.ref l) (.ref n):=(j.2 _ B.TIz).trans (hk _ _ B.TIz B.TITO B.TIi1 B.TIi2 G);refine⟨.ref s.heap.objs.size,aK H s.heap.objs.size (.tup [x,y]),?_,rfl,⟨s.heap.objs.size,x,y,rfl,hfr,rfl,λws hw=>by rw[I.list_inj hw Z];exact R,λws hw=>by rw[I.list_inj hw J];exact hy⟩,
   ⟨b1,g2',⟨_,_,(j.2 _ B.TOz).trans a2⟩,a3.extBut j.extBut B.i1z,a4.extBut j.extBut B.i2z⟩,λc Q=>?_⟩
  .refine yE (s:=s) (h':=h2) (t':=s.toks) (ch:=[z,r,to,l,n]) I (λc oc Q ec=>?_) Y (Wh _) ?_
   .have g:c≠z/\c≠r/\c≠to/\c≠l/\c≠n:=by simpa using Q
    exact(j.2 c g.1).trans (hk c oc g.1 g.2.2.1 g.2.2.2.1 g.2.2.2.2 ec)
   .exact⟨by show(2:Nat)<=Wq;decide,[u1,u2],.cons ru1 (.cons ru2 .nil),_,ht2,rfl,0,rfl,rfl⟩
  .have g:c=z\/c=r\/c=to\/c=l\/c=n:=by simpa using Q
   have hn:=(Y c Q).1;rw[bJ]
   .exact hn
   .rcases g with rfl|rfl|rfl|rfl|rfl
    .exact(ne A).symm
    .exact(ne G).symm
    .exact(ne L).symm
    .exact(ne l4.choose_spec).symm
    .exact(ne l5.choose_spec).symm
 done:=by
  intro X hP hw hK hc i a6r s σ H E I Y ⟨A,G,⟨u,v,L⟩,M,N⟩ hg;subst hP hw hK;obtain⟨xs,ys,Z,J,R⟩:=hg;obtain⟨its,rv,p,hz⟩:=I.list Z;obtain⟨U,O,p2,hz2⟩:=I.list J;have hl:=rv.length;have hl2:=O.length;refine wpAny_pyNext_zip_end (I.ok.hd hc) B A G L M N p.isList p2.isList ?_ λh' eb=>⟨rfl,Dx (t':=s.toks) (ch:=[z,r,to,l,n]) I (λc o Q e=>?_) Y⟩
  .rcases R with R|R
   .exact .inl (by simp;lia)
   .exact .inr (by simp;lia)
  .have g:c≠z/\c≠r/\c≠to/\c≠l/\c≠n:=by simpa using Q
   exact eb c o g.1 g.2.2.1 g.2.2.2.1 g.2.2.2.2 e
 self:=λ_ _ _ _ _ ⟨A,_⟩ h=>a5p A h
noncomputable def qI(x y:D):fH:=λa i=>(bM a x).bind λxs=>(bM a y).map λb=>(xs[i]?).bind λd=>(b[i]?).map λe=>.tup [d,e]
noncomputable def qJ(ms:MA):MI:=λd c=>(ms d c).bind λp=>match p.1 with
 |[x,y]=>(e8 p.2 x).bind λa=>(e8 p.2 y).map λb=>(qI x y,min a.length b.length+1,p.2)|_=>b3
theorem DS{K:V8}{π:Nat->Addr}{j:Hm}{H:Hp}{v:V}{x:D}{xs:List D}(R:Rp K π H j)(h:IsD K π j.length H v x)(k:e8 j x=b0 xs):∃p,v=.ref p/\(∃vs,SqL K H p vs) /\
  ∀c a d,Ext π j.length H c a.length d->Rp K c d a->∀i,bM a x=b0 i->∃g,SqL K d p g/\IsDs K c a.length d g i:=by
 obtain⟨p,vs,rfl,s,_⟩:=oN R h k;refine⟨p,rfl,⟨vs,s⟩,λc a d e n i l=>?_⟩;have r:e8 a x=b0 i:=by
  cases x with
  |rol y=>exact l|loc b=>exact l|_=>cases k
 obtain⟨w,g,q,u,o⟩:=oN n (h.mono e) r;cases q;exact⟨g,u,o⟩
theorem OM{K:V8}{π:Nat->Addr}{l:Hm}{H:Hp}{v U:V}{x y:D}{xs ys:List D}(R:Rp K π H l)(h:IsD K π l.length H v x)(h':IsD K π l.length H U y)(hs:e8 l x=b0 xs)(E:e8 l y=b0 ys) :
  ∃a b,v=.ref a/\U=.ref b/\(∃J,SqL K H a J)/\(∃J,SqL K H b J)/\Wk K (yM K a b) (qI x y) π l.length H:=by
 obtain⟨a,rfl,qa,la⟩:=DS R h hs;obtain⟨b,rfl,qb,O⟩:=DS R h' E;refine⟨a,b,rfl,rfl,qa,qb,λg c n i e j z=>?_,λg c n i d e j z=>?_⟩
 .obtain⟨o,A,z⟩:=V6.mp z;obtain⟨bs,B,z⟩:=Wb.mp z;obtain⟨s,p,u⟩:=la g c n e j o A;obtain⟨r,q,w⟩:=O g c n e j bs B;refine⟨s,r,p,q,?_⟩;rw[u.length,w.length];cases L:o[i]? with
  |none=>exact .inl (WZ.mp L)|some d=>
   cases k:bs[i]? with
   |none=>exact .inr (WZ.mp k)|some d'=>rw[L,k]at z;cases z
 .obtain⟨o,A,z⟩:=V6.mp z;obtain⟨bs,B,z⟩:=Wb.mp z;obtain⟨Z,h3,z⟩:=V6.mp z;obtain⟨d2',h4,h5⟩:=Wb.mp z;subst h5;obtain⟨s,p,u⟩:=la g c n e j o A;obtain⟨r,q,w⟩:=O g c n e j bs B;obtain⟨X,M,k1⟩:=u.get h3;obtain⟨Y,N,k2⟩:=w.get h4;refine⟨⟨s,r,X,Y,p,q,M,N⟩,?_⟩;rintro y H2 ⟨t,v1,v2,rfl,hn,rfl,G,I⟩;have Q:=G s p;have T:=I r q;rw[M]at Q;rw[N]at T;cases Q;cases T;obtain⟨k,R2⟩:=j.fresh (o:=.tup [X,Y]) hn;exact⟨k,R2,.tup (.of cP) (.cons (k1.mono k) (.cons (k2.mono k) .nil))⟩
noncomputable def ON(K:V8)(d:TA):TI:=λσ H R=>d σ H λvs c=>∃a b,vs=[.ref a,.ref b]/\(∃xs,SqL K c a xs)/\(∃e,SqL K c b e)/\R (yM K a b) c
open PyProof.Rows in
theorem OO{X:Cx}{a b:Expr}{A:TA}{p pos pt:XX}{es:List Expr}{kx:Nat}(Q:Gl X "zip") (U:X.mg "zip"=b3) (O:PA X [a,b] A)(Z:WU [a,b] X.env=(b4,eval a X.env)::WU [b] X.env)(r:(YG pos (WU [b] X.env)).any (·.1)=b4) :
  PI X (.Tuple es kx pt) (.Call (.Name "zip" p) [a,b] [] pos) (ON X.K A):=by
 intro i s B H R I h;refine a6q (iF I Q U Boot.«zip» (Xw (aR (O pos i s B H _ I h) λus d ⟨vs,w,g,r1,q1⟩=>?_) Z r));obtain⟨l,n,rfl,⟨ws,Y⟩,⟨ws2,o⟩,q⟩:=q1;cases r1 with
 |cons ru u=>
  cases u with
  |cons v u=>
   cases u;cases ru;cases v;obtain⟨its,rv,z,hz⟩:=g.list Y;obtain⟨y,rv2,k,hz2⟩:=g.list o;have la:l<d.heap.objs.size:=let⟨_,e,_⟩:=z.isList;Wm e;have lb:n<d.heap.objs.size:=let⟨_,e,_⟩:=k.isList;Wm e;refine call_zip_2 z.isList k.isList λN x J K L M hsz T=>a5p x ?_;have E:Inv X i B w {d with heap:=N}:=g.kept (t':=d.toks) T;have G:ZipApart (d.heap.objs.size+4) (d.heap.objs.size+2) (d.heap.objs.size+3) d.heap.objs.size (d.heap.objs.size+1) l n:=by have la':@LT.lt Nat _ l d.heap.objs.size:=la;have lb':@LT.lt Nat _ n d.heap.objs.size:=lb;constructor<;>(show @Ne Nat _ _;lia)
   refine⟨d.heap.objs.size+4,[d.heap.objs.size+4,d.heap.objs.size+2,d.heap.objs.size+3,d.heap.objs.size,d.heap.objs.size+1],_,_,w,rfl,E,OL G,⟨x,J,⟨_,_,K⟩,L,M⟩,λc hc=>?_,q⟩;have j:d.heap.objs.size<=c:=by simp only[WW,Yl,or_false]at hc;rcases hc with rfl|rfl|rfl|rfl|rfl<;>first|exact Nat.le_add_right _ _|exact Wh _
   exact g.fpOk j (g.hok.fresh j)
theorem OP{X:Cx}{a b:Expr}{ms:MA}{n:Nat}{p pos:XX}(d:Gl X "zip") (e:X.mg "zip"=b3) (o:QA X [a,b] ms n):QJT X (.Call (.Name "zip" p) [a,b] [] pos) (qJ ms):=⟨λes Y pt a6r s σ H R I hw=>by
 have g:=o.s;rw[W3,Wl,W3,Wl]at g;obtain⟨T,U,O,L,Z,Q,r,E,c,k⟩:=hw;obtain⟨⟨x,i⟩,z,c⟩:=V6.mp c;refine OO d e o.h (fQ g.1) (by rw[fQ g.2.1];rfl) a6r s σ H R I ⟨T,U,O,x,i,r,E,z,λj vs q w l h=>?_⟩;dsimp only at c;split at c
 .rename_i x y;obtain⟨xs,A,c⟩:=V6.mp c;obtain⟨ys,B,c⟩:=Wb.mp c;cases c;cases h with
  |cons h M=>
   cases M with
   |cons G N=>cases N;obtain⟨u,v,rfl,rfl,J,K,W⟩:=OM l h G A B;exact⟨u,v,rfl,J,K,k j q _ w l W⟩
 .cases c⟩
section
variable{P:WL}{w:WX}{A:WY}{E:Value->Wf->Prop}{s:Wf}{a:Addr}
theorem OQ:a1D (.type "tuple") "keys"=pure none:=by rw[a2y,a0V];kernel_rfl
theorem OR{o:Obj}{xs:Array Value}{k:Nat}{Q:Option Value->Wf->Prop}(g:s.heap.get? a=b0 o)(j:o.cls=.type "tuple") (l:o.data=.seq xs k)(n:o.dict=b3)(hA:A.handled=b3)
  (q:∀h p,(∀b u,s.heap.get? b=b0 u->h.get? b=b0 u)->Q b3 {s with heap:=h,toks:=p}):WI (WM P w) A (getAttr? (.ref a) "keys") Q E s:=by
 obtain⟨c,v,r,G⟩:=o;dsimp only at j l n;subst j l n;obtain⟨z,y,x,p,B⟩:=s;have ty:∀d,(⟨z,y,x,d,B⟩:Wf).TypeIs (.ref a) "tuple":=λ_=>⟨_,g,rfl⟩;have H:=sub_AttributeError;have I:=F.slot_tuple_getattribute.lookup;have J:=F.slot_tuple_getattribute.bind (.ref a);have K:=am_tuple_getattr_none;unfold getAttr? getAttrBy? getAttrBy;repeat (any_goals (first|assumption|exact ty _|((with_reducible show WI _ _ (call (Yb "tuple.__getattribute__") _ _) _ _ _);refine a0M F.slot_tuple_getattribute (ty _) am_entry_tuple_getattribute (F.args_tuple_getattribute_2 _ _) (meets_getattribute_miss_tuple a xs k G "keys" _ OQ (by decide +kernel)) ⟨g,hA,λh d e ne=>?_⟩)|wp_step))
 obtain⟨L,M,i⟩:=ne.there;show WI _ _ (a4P _ _ _ _ b3 b4 b4) _ _ _;unfold a4P;repeat (any_goals (first|assumption|wp_step))
 exact q _ _ ne.of.keeps
end
theorem DT:entryFor table "dict.update.loop"=b0 Builtin.«dict.update.loop»:=entryFor_of_tree (by kernel_rfl)
theorem t6:plainId "dict.update.loop"=true:=by decide +kernel
noncomputable def nJ(ps:bQ):List (Addr×List Int×Addr×V)->bQ
 |[]=>ps|r::L=>nJ (eP ps r.2.1 r.2.2.1 r.2.2.2) L
section
variable{X:Cx}{a6r:jw}{σ:St}{A:WY}{E:Value->Wf->Prop}{d:Addr}
theorem OS{H:Hp}{s:Wf}{b:Addr}{k:List Int}{v:V}{u:Value}{ps:bQ}{Q:Unit->Wf->Prop}(B:A.units<XM)(I:Inv X a6r σ H s)(e:H d=b0 (aS d ps))(x:eD X.K H ps)(p:SqT X.K H b (k.map V.int))(hz:ps.length<Wq)(K:RelV v u)
  (h:∀i,Inv X a6r σ (aK H d (aS d (eP ps k b v))) i->(∀c o,c≠d->s.heap.get? c=b0 o->i.heap.get? c=b0 o)->Q () i):WI (WM X.prog X.w) A (dictSet d (.ref b) u) Q E s:=by
 obtain⟨z,N,L,r,j⟩:=j4 I (.of e) x;have G:(b7 ps L).length<=Wq:=by have:=congrArg Xm (nG r);rw[V7,V7]at this;lia
 refine wpAny_dictSet_heap (hsz:=G) (show(ZN (Y3 X.prog X.w)).room A from B) (jZ I p) j λn g a=>h _ ?_ λc o hc e=>a.extBut c o hc e;obtain⟨M,J,l⟩:=yJ r k b K;rw[l]at g;have w:∃q,n.get? d=b0 q:=let⟨q,_,_,y,_⟩:=g;⟨q,y⟩;exact wK I (by rw[e];exact Zb) a w (tV z (by have:=tU ps k b v;lia) J g)
end
theorem qK{K:V8}{H:Hp}{d b:Addr}{o:HO}{ps:bQ}{vs:gz}(e:H d=b0 (aS d ps))(h:SqT K H b vs):SqT K (aK H d o) b vs:=by
 have ne:∀{u},H b=b0 u->(∀c,u≠aS d c)->b≠d:=λz f y=>by rw[y,e]at z;cases z;exact f ps rfl
 rcases h with(h|⟨a,h⟩)|h
 .exact .inl (.inl (by rw[bJ (ne h λ_ z=>by cases z)];exact h))
 .exact .inl (.inr ⟨a,by rw[bJ (ne h λ_ z=>by cases z)];exact h⟩)
 .exact .inr h
theorem OT{K:V8}{H:Hp}{ps:bQ}{k:List Int}{b:Addr}{v:V}(h:eD K H ps)(g:SqT K H b (k.map V.int)):eD K H (eP ps k b v):=by
 intro p a;unfold eP at a;split at a
 .obtain⟨d,c,e⟩:=Wz.mp a;by_cases z:d.1=k
  .rw[if_pos z]at e;subst e;exact h d c
  .rw[if_neg z]at e;subst e;exact h d c
 .rcases WK.mp a with a|a
  .exact h p a
  .rw[WB.mp a];exact g
theorem DU{H:Hp}{d:Addr}{o a:HO}:aK (aK H d o) d a=aK H d a:=by
 funext b;unfold aK;split
 .rfl
 .rfl
theorem OU{P:WL}{w:WX}{A:WY}{E:Value->Wf->Prop}{s:Wf}{p:Addr}{xs:Array Value}{Q:gw->Wf->Prop}(h:a5o s.heap p xs)(q:Q xs.toList s):WI (WM P w) A (a1C (.ref p)) Q E s:=by obtain⟨o,g,c,n,a⟩:=h;have ty:s.TypeIs (.ref p) "tuple":=⟨o,g,c⟩;unfold a1C;refine V9 (a1N ty ?_);rw[if_pos (by decide)];unfold ZZ;refine V9 (V9 (a2N g ?_));rw[a];exact Wg (Wg q)
section
variable{X:Cx}{a6r:jw}{σ:St}{A:WY}{d t it:Addr}{ys:gz}{R:a1h->Wf->Prop}
theorem OV(hh:A.handled=b3)(hu:A.in1.units<XM):∀(L:List (Addr×List Int×Addr×V))(i:Nat)(ps:bQ)(H:Hp)(s:Wf),Inv X a6r σ H s->H d=b0 (aS d ps)->eD X.K H ps->SqT X.K H t ys->ys.drop i=L.map (λr=>V.ref r.1)->
  (∀r∈L,SqT X.K H r.1 [.ref r.2.2.1,r.2.2.2]/\SqT X.K H r.2.2.1 (r.2.1.map V.int))->gX X a6r H it->s.heap.IsTupleIter it t i->ps.length+L.length<=Wq->
  (∀G,Inv X a6r σ (aK H d (aS d (nJ ps L))) G->R (.ok (.ret .none)) G)->Zq (WM X.prog X.w) A (.builtin "dict.update.loop" ⟨[.ref d,.ref it,Z0 i,.none],[]⟩) R s:=by
 intro L;induction L with
 |nil=>
  intro i ps H s I e O y hd B N st T q;obtain⟨g,Z,p,U⟩:=I.tuple y;obtain⟨j,l,f2,n,v,w⟩:=N;have hl:=Z.length;have hlen:ys.length<=i:=by have:=congrArg Xm hd;simp at this;lia
  refine Xu DT ?_;rw[W4 t6 _];show WI _ A.in1 (Y2 (.ref it) >>= _) _ _ s;refine V9 (a3G hh st (show s.heap.IsTuple t g.toArray from p) (by simp;lia) λJ eb=>?_);have k:Inv X a6r σ H {s with heap:=J}:=I.turned (t':=s.toks) (λb o K e=>eb b o K e) j l n v w;show WI _ _ (a6d d [] >>= _) _ _ _;refine V9 (Wg (Wg (q _ ?_)));have:aK H d (aS d (nJ ps []))=H:=by
   funext b;unfold aK;split
   .rename_i z;rw[z];exact e.symm
   .rfl
  rw[this];exact k
 |cons r L ih=>
  intro i ps H s I e O y hd B N st T q;obtain⟨g,Z,p,U⟩:=I.tuple y;obtain⟨j,l,f2,n,v,w⟩:=id N;have E:ys[i]?=b0 (.ref r.1):=by have:=congrArg (·[0]?) hd;simpa using this
  obtain⟨u,fX,ru⟩:=Z.get E;cases ru;refine Xu DT ?_;rw[W4 t6 _];show WI _ A.in1 (Y2 (.ref it) >>= _) _ _ s;refine V9 (a3v st (show s.heap.IsTuple t g.toArray from p) (x:=.ref r.1) (by simpa using fX) λJ st' sb=>?_);have k:Inv X a6r σ H {s with heap:=J}:=I.turned (t':=s.toks) (λb o K e=>(sb.2 b K).trans e) j l n v w;have a:=B r (Xd ..);obtain⟨its2,rv2,p2,_⟩:=k.tuple a.1;cases rv2 with
  |cons rk Y=>
   cases Y with
   |cons rw' Y=>
    cases Y;cases rk;rename_i w0;refine V9 (Xb (V9 (Yj (OU p2 ?_))));have Q:ps.length<Wq:=by rw[WO]at T;lia
    refine Xb (OS hu k e O a.2 Q rw' λG I2 kp=>?_);refine Wg ⟨XC t6 _,?_⟩;have bN:it≠d:=λz=>by rw[<- z,j]at e;cases e
    have c:∀x∈L,SqT X.K (aK H d (aS d (eP ps r.2.1 r.2.2.1 r.2.2.2))) x.1 [.ref x.2.2.1,x.2.2.2]/\SqT X.K (aK H d (aS d (eP ps r.2.1 r.2.2.1 r.2.2.2))) x.2.2.1 (x.2.1.map V.int):=λx E=>⟨qK e (B x (WV _ E)).1,qK e (B x (WV _ E)).2⟩;have M:ys.drop (i+1)=L.map (λr=>V.ref r.1):=by have:=congrArg List.tail hd;simpa[List.tail_drop]using this
    refine ih (i+1) (eP ps r.2.1 r.2.2.1 r.2.2.2) _ G I2 cP (OT (λp hp=>qK e (O p hp)) (qK e a.2)) (qK e y) M c ⟨by rw[bJ bN];exact j,l,f2,n,v,w⟩ (st'.at λo ho=>kp it o bN ho) ?_ λs'' h=>q s'' ?_
    .have:=tU ps r.2.1 r.2.2.1 r.2.2.2;rw[WO]at T;lia
    .rw[DU]at h;exact h
end
section
variable{X:Cx}
noncomputable def DV(K:V8):gz->Hp->VK->Prop:=λxs H Q=>∃(t:Addr)(L:List (Addr×List Int×Addr×V)),xs=[V.ref t]/\SqT K H t (L.map λr=>V.ref r.1) /\
 (∀r∈L,SqT K H r.1 [.ref r.2.2.1,r.2.2.2]/\SqT K H r.2.2.1 (r.2.1.map V.int))/\∀d,H d=b3->Q (.ref d) (aK H d (aS d (nJ [] L)))
theorem OW(hc:X.calm=b5)(Y:X.A.units+64<XM):CallR X (.type "dict") (DV X.K):=by
 intro d s N H xs us Q I r h;obtain⟨t,L,rfl,w,M,k⟩:=h;obtain⟨u,rfl,ru⟩:=fV r;cases ru;have K:H s.heap.objs.size=none:=I.hok.fresh (Wh _);refine a6p (Q₁:=λi c=>i=.ref s.heap.objs.size/\c={s with heap:=s.heap.push {cls:=.type "dict",data:=.dict #[]}}) F.kt_called_dict (F.kt_typeCall_dict_1 _) F.entry_dict_init (kt_code_dict_new _ ⟨rfl,rfl⟩) ?_;rintro i c ⟨rfl,rfl⟩;have E:Inv X d N (aK H s.heap.objs.size (aS s.heap.objs.size [])) {s with heap:=s.heap.push {cls:=.type "dict",data:=.dict #[]}}:=I.laid (a:=s.heap.objs.size) (o:=aS s.heap.objs.size []) (t':=s.toks) (λ_ _ q=>Wc _ q) (Wh _) (DH s.heap I.big);have ty:({s with heap:=s.heap.push {cls:=.type "dict",data:=.dict #[]}}:Wf).TypeIs (.ref s.heap.objs.size) "dict":=⟨_,Wn _ rfl,rfl⟩;refine⟨ty,F.args_dict_init_2 _ _,?_⟩;unfold Builtin.«dict.__init__»;refine V9 ?_;unfold a5Y;refine V9 (ZU ty ?_);show WI _ _ (pure (s.heap.objs.size,[Wx t])) _ _ _;refine Wg ?_;show WI _ _ (a1t "dict.__init__" s.heap.objs.size (.ref t) [] .none) _ _ _;unfold a1t;have mono:∀{b:Addr}{vs:gz},SqT X.K H b vs->SqT X.K (aK H s.heap.objs.size (aS s.heap.objs.size [])) b vs:=λ{b vs} z=>by
  have ne:H b≠b3->b≠s.heap.objs.size:=λf y=>by rw[y]at f;exact f K
  rcases z with(z|⟨A,z⟩)|z
  .exact .inl (.inl (by rw[bJ (ne (by rw[z];exact λy=>nomatch y))];exact z))
  .exact .inl (.inr ⟨A,by rw[bJ (ne (by rw[z];exact λy=>nomatch y))];exact z⟩)
  .exact .inr z
 obtain⟨Z,rv,A,G,J,n,R,T⟩:=E.tupN (mono w);refine V9 (a1N ⟨A,G,J⟩ ?_);rw[if_pos (by decide)];refine V9 (OR G J R T (I.ok.hd hc) λv l kp=>?_);have j:Inv X d N (aK H s.heap.objs.size (aS s.heap.objs.size [])) {s with heap:=v,toks:=l}:=E.kept (t':=l) kp;show WI _ _ (rule _ >>= _) _ _ _;refine V9 (a0k ?_);obtain⟨a,rv',p',x⟩:=j.tuple (mono w);refine V9 (Y1 (t:=t) (items:=a.toArray) (show({s with heap:=v,toks:=l}:Wf).heap.IsTuple t a.toArray from p') ?_);have O:=j.kept (t':=l) (h':=v.push {cls:=.type "tuple_iterator",data:=.fields #[.ref t,.int 0 0]}) λb o e=>Wc _ e;refine Wg ⟨XC t6 _,?_⟩;refine OV (A:=X.A.in1) (I.ok.hd hc) ?_ L 0 [] _ _ O cP (λp U=>nomatch U) (mono w) rfl (λr g=>⟨mono (M r g).1,mono (M r g).2⟩) (j.fpOk (Wh _) (j.hok.fresh (Wh _))) ⟨_,Wn _ rfl,rfl,rfl⟩ ?_ λs' B=>?_
 .show X.A.units+1+1<XM;lia
 .have:=x;simp at this ⊢;exact this
 .rw[DU]at B;exact⟨rfl,.ref s.heap.objs.size,_,B,rfl,k _ K⟩
end
noncomputable def oW:List D->Option (jx)
 |[]=>b0 []|.tup [x,v]::r=>(cR x).bind λk=>(oW r).map λl=>(k,v)::l|_::_=>b3
noncomputable def nK:MF:=λds a=>match ds with
 |[.tup xs]=>(oW xs).map λl=>(.loc a.length,a++[.dT (l.foldl (λq p=>b9 q p.1 p.2) [])])|_=>b3
section
variable{K:V8}{π:Nat->Addr}{n:Nat}{H:Hp}
noncomputable abbrev DW(K:V8)(π:Nat->Addr)(n:Nat)(H:Hp):List (Addr×List Int×Addr×V)->jx->Prop:=
 Z3 λr p=>r.2.1=p.1/\SqT K H r.1 [.ref r.2.2.1,r.2.2.2]/\SqT K H r.2.2.1 (r.2.1.map V.int)/\IsD K π n H r.2.2.2 p.2
theorem DX:∀{xs:List D}{ws:gz}{l:jx},IsDs K π n H ws xs->oW xs=b0 l->∃L,ws=L.map (λr=>V.ref r.1)/\DW K π n H L l
 |[],_,_,.nil,h=>by cases h;exact⟨[],rfl,.nil⟩
 |x::xs,_,l,.cons i t,h=>by
  unfold oW at h;split at h
  .rename_i a;cases a
  .rename_i y v r a;cases a;obtain⟨k,d,h⟩:=V6.mp h;obtain⟨o,e,rfl⟩:=Wb.mp h;obtain⟨L,rfl,P⟩:=DX t e;cases i with
   |tup q z=>
    cases z with
    |cons g z=>
     cases z with
     |cons j z=>cases z;obtain⟨b,rfl,c⟩:=lY g d;exact⟨(_,k,b,_)::L,rfl,.cons ⟨rfl,q,c,j⟩ P⟩
  .cases h
theorem DY:∀{L:List (Addr×List Int×Addr×V)}{l:jx},DW K π n H L l->∀{ps:bQ}{kvs:jx},IsTs K π n H ps kvs->IsTs K π n H (nJ ps L) (l.foldl (λq p=>b9 q p.1 p.2) kvs)
 |_,_,.nil,_,_,h=>h|r::L,p::l,.cons e t,ps,kvs,h=>by obtain⟨a,_,b,c⟩:=e;show IsTs K π n H (nJ (eP ps r.2.1 r.2.2.1 r.2.2.2) L) (l.foldl _ (b9 kvs p.1 p.2));rw[<- a];exact DY t (h.put r.2.1 b c)
end
theorem OX{K:V8}:dP K nK (DV K):=by
 intro x H w o d s v Q R i a k;unfold nK at a;split at a
 .rename_i o;obtain⟨l,c,j⟩:=Wb.mp a;cases j;cases i with
  |cons i t=>
   cases t;cases i with
   |tup q z=>
    obtain⟨L,rfl,P⟩:=DX z c;refine⟨_,L,rfl,q,?_,λd hd=>?_⟩
    .clear q z k a c;induction P with
     |nil=>exact λr b=>nomatch b|cons e t n=>
      intro r b;rcases WW.mp b with rfl|b
      .exact⟨e.2.1,e.2.2.1⟩
      .exact n r b
    .have T:=DY P (ps:=[]) (kvs:=[]) .nil;obtain⟨h,g,u⟩:=R.alloc (c:=.dT (l.foldl (λq p=>b9 q p.1 p.2) [])) (o:=aS d (nJ [] L)) hd ⟨_,rfl,T.to.1,T.to.2.1,T.to.2.2⟩;exact k _ _ _ h g jT
 .cases a
noncomputable def ItI(h:Xo)(c d S:Addr)(i n ep:Nat):Prop:=∃(b ok g:Value)(e:Bool),h.get? c=b0 {cls:=.type "dict_itemiterator",dict:=b3,data:=.fields #[b,.bool e,.ref d,.int i 0,.int n 0,.int ep 0,ok,g],slots:=#[]} /\
 (b=.none\/∃(a:Addr)(o:Obj),b=Z0 a/\h.get? a=b0 o/\a≠c/\a≠S)
theorem ItI.stay{h h':Xo}{c d S:Addr} {i n ep} (j:ItI h c d S i n ep)(p:c≠S)(k:∀b o,b≠S->h.get? b=b0 o->h'.get? b=b0 o):ItI h' c d S i n ep:=by
 obtain⟨w,ok,q,l,e,r⟩:=j;refine⟨w,ok,q,l,k _ _ p e,?_⟩;rcases r with r|⟨a,o,s,u,v,g⟩
 .exact .inl r
 .exact .inr ⟨a,o,s,k _ _ g u,v,g⟩
section
variable{P:WL}{w:WX}{A:WY}{E:Value->Wf->Prop}{s:Wf}{d it S:Addr}{i ep:Nat}{es:Array DictEntry}
theorem yN{p ok H:Value}{M:Bool}{Q:Option Value->Wf->Prop}(hh:A.handled=b3)(B:s.heap.get? it=b0 {cls:=.type "dict_itemiterator",dict:=b3,data:=.fields #[p,.bool M,.ref d,.int i 0,.int es.size 0,.int ep 0,ok,H],slots:=#[]}) (jr:p=.none\/∃(a:Addr)(o:Obj),p=Z0 a/\s.heap.get? a=b0 o/\a≠it/\a≠S)(g:RawD s.heap d es ep)(hS:S<s.heap.objs.size)
  (q1:∀e j,es[i]?=b0 e->ItI j it d S (i+1) es.size ep->(p=.none->a1A j it d (i+1) es.size ep e.key e.val s.heap.objs.size)->j.get? s.heap.objs.size=b0 {cls:=.type "tuple",data:=.seq #[e.key,e.val]}->j.objs.size=s.heap.objs.size+1->(∀b o,b≠it->s.heap.get? b=b0 o->j.get? b=b0 o)->Q (b0 (.ref s.heap.objs.size)) {s with heap:=j})
  (q2:es[i]?=b3->∀j,a0J it s.heap j->Q b3 {s with heap:=j}):WI (WM P w) A (Y2 (.ref it)) Q E s:=by
 obtain⟨z,g1,g2,g3⟩:=id g;have ty:s.TypeIs (.ref it) "dict_itemiterator":=⟨_,B,rfl⟩;obtain⟨c,y,r,I,G⟩:=s;have U:∀{Q:String->Wf->Prop}{A:WY}{E:Value->Wf->Prop},Q "dict_itemiterator" ⟨c,y,r,I,G⟩->WI (WM P w) A (a5D (.ref it)) Q E ⟨c,y,r,I,G⟩:=λq=>wpAny_typeNameOfWhole_itemiter ty q;unfold Y2;refine V9 (wpAny_attempt (a3w (name:=Yw "__next__") ty F.slot_dict_itemiterator_next (Yn F.slot_dict_itemiterator_next ty F.entry_dict_itemiterator_next ?_ (F.args_dict_itemiterator_next_1 _))));refine V9 (Wg (V9 (V9 (V9 (U (Wg (V9 (a6f B rfl ?_))))))));simp only[show Zp "dict_itemiterator"=b5 by decide,if_true];show WI _ _ (if(Wx d==XT)=b5 then _ else _) _ _ _;rw[if_neg (show ¬ (Wx d==XT)=b5 from λx=>Wj x)];refine V9 (Wg (V9 (Ze g1 g3 ?_)));rw[if_neg (λx=>by simp at x)];refine V9 (Wg (V9 (a0Q g1 g3 ?_)));rw[if_neg (λx=>by simp at x)];refine Wg ?_;simp only[if_neg (show ¬ ((i:Int)<0) by lia),Yh];have T:it<c.objs.size:=Wm B;cases he:es[i]? with
 |some e=>
  refine V9 (V9 (U (Wg (V9 (a0K ty ?_)))));show WI _ _ (a4s (.ref it) 3 (Z0 ((i:Int)+1)) >>= _) _ _ _;refine V9 (Y0 B (by simp) λu O R=>?_);replace R:YU it c u:=R;replace O:u.get? it=b0 {cls:=.type "dict_itemiterator",dict:=b3,data:=.fields #[p,.bool M,.ref d,.int ((i+1:Nat):Int) 0,.int es.size 0,.int ep 0,ok,H],slots:=#[]}:=by rw[show((i+1:Nat):Int)=(i:Int)+1 by lia];simpa[Z0]using O
  have J:Shared.TypeIs ⟨u,y,r,I,G⟩ (.ref it) "dict_itemiterator":=⟨_,O,rfl⟩;refine V9 (Xb (V9 (a0K J (V9 (a0K J ?_)))));show WI _ _ (a0j (.ref it) 6 e.key e.val) _ _ _;unfold a0j;refine V9 (a2M ?_);have zu:u.objs.size=c.objs.size:=R.1;have k:=Wc {cls:=.type "tuple",data:=.seq #[e.key,e.val]} O;have Z:(u.push {cls:=.type "tuple",data:=.seq #[e.key,e.val]}).get? c.objs.size=b0 {cls:=.type "tuple",data:=.seq #[e.key,e.val]}:=zu▸Wn u rfl;have vz:(u.push {cls:=.type "tuple",data:=.seq #[e.key,e.val]}).objs.size=c.objs.size+1:=by rw[Yy,zu]
  have K:∀b o,b≠it->c.get? b=b0 o->(u.push {cls:=.type "tuple",data:=.seq #[e.key,e.val]}).get? b=b0 o:=λb o N x=>Wc _ (R.extBut b o N x);show WI _ _ (a0b (.ref it) >>= _) _ _ ⟨u.push {cls:=.type "tuple",data:=.seq #[e.key,e.val]},y,r,I,G⟩;rw[zu];generalize u.push {cls:=.type "tuple",data:=.seq #[e.key,e.val]}=v at k Z vz K;have h:c.objs.size≠it:=XR T;have fin:∀l:Xo,ItI l it d S (i+1) es.size ep->(p=.none->a1A l it d (i+1) es.size ep e.key e.val c.objs.size)->YU it v l->Q (b0 (.ref c.objs.size)) ⟨l,y,r,I,G⟩:=λl j' jo Y=>q1 e l he j' jo (Y.extBut _ _ h Z) (by show l.objs.size=_;rw[Y.1,vz]) λb o N x=>Y.extBut b o N (K b o N x);refine V9 ?_;unfold a0b;rcases jr with rfl|⟨a,o,rfl,X,n,r4⟩
  .refine V9 (a0q k rfl (x:=.none) rfl (Wg ?_));simp only[if_true];refine V9 (a0q k rfl (x:=ok) rfl (V9 (a0q k rfl (x:=H) rfl ?_)));refine V9 (Y0 k (by simp) λv3 x3 L=>V9 (Y0 x3 (by simp) λv4 x4 y4=>V9 (Y0 x4 (by simp) λv5 x5 y5=>V9 (Y0 x5 (by simp) λv6 x6 y6=>?_))));have x7:a1A v6 it d (i+1) es.size ep e.key e.val c.objs.size:=x6;refine V9 (YB (Wg (Wg ⟨_,rfl,Wg (fin v6 ?_ (λ_=>x7) ?_)⟩)))
   .refine⟨Z0 c.objs.size,e.key,e.val,b4,x7,.inr ⟨c.objs.size,_,rfl,y6.extBut _ _ h (y5.extBut _ _ h (y4.extBut _ _ h (L.extBut _ _ h Z))),h,XR hS⟩⟩
   .exact((L.trans y4).trans y5).trans y6
  .refine V9 (a0q k rfl (x:=Z0 a) rfl ?_);show WI _ _ (loadIfAlive ((a:Int).toNat) >>= _) _ _ _;rw[Yh];refine V9 (PySem.W.kdx_alive (K a o n X) ?_);simp only[Option.isNone_some,WQ,if_false];refine V9 (a0q k rfl (x:=.bool M) rfl ?_);cases M with
   |true=>rw[if_neg (show ¬ ((Yc b5 != Yc b5)=b5)from λx=>Wj x)];refine Wg ?_;simp only[WQ,if_false];exact Wg (Wg ⟨_,rfl,Wg (fin v ⟨_,ok,H,b5,k,.inr ⟨a,o,rfl,K a o n X,n,r4⟩⟩ (λz=>nomatch z) (a2n _ _))⟩)|false=>rw[if_pos (show(Yc b4 != Yc b5)=b5 from rfl)];refine V9 (Y0 k (by simp) λv3 x3 L=>Wg ?_);simp only[WQ,if_false];exact Wg (Wg ⟨_,rfl,Wg (fin v3 ⟨_,ok,H,b5,by simpa using x3,.inr ⟨a,o,rfl,L.extBut a o n (K a o n X),n,r4⟩⟩ (λz=>nomatch z) L)⟩)
 |none=>refine V9 (V9 (U (Wg ?_)));show WI _ _ (a4s (.ref it) 2 .none >>= _) _ _ _;refine V9 (a2L B rfl (by simp) ?_);show WI _ _ (a6k (.type "StopIteration") [] >>= _) _ _ _;simp only[a6k,a4u];refine V9 (V9 (XA ?_ (by size_fits)));refine V9 (m:=a1e _ _) (a2p (a:=XT) (by first|rfl|(simp only[a1e];rfl)) (XA ?_ (by size_fits)));simp only[raiseNew];refine V9 (wpAny_handled ?_);rw[show A.in1.handled=b3 from hh];refine V9 (Wg (wpAny_throw ?thrown));case thrown=>exact V9 (a0A (T:="StopIteration") (b:=b5) ⟨_,Wn _ rfl,rfl⟩ a6o (Wg (q2 he _ (((YC ..).extBut.push _).push _))))
theorem DZ{r:Addr}{Q:Value->Wf->Prop}(a:s.heap.IsItemsView r d)(g:RawD s.heap d es ep)
  (q:Q (.ref s.heap.objs.size) {s with heap:=s.heap.push {cls:=.type "dict_itemiterator",data:=.fields #[.none,.bool b4,.ref d,.int 0 0,.int es.size 0,.int ep 0,.none,.none]}}):WI (WM P w) A (a2i (.ref r)) Q E s:=by
 obtain⟨y,e,k,h⟩:=id a;obtain⟨z,b,j,c⟩:=id g;refine a5b a.typeIs F.slot_dict_items_iter (Yn F.slot_dict_items_iter a.typeIs F.entry_dict_items_iter ?_ (F.args_dict_items_iter_1 _));unfold Builtin.«dict_items.__iter__» a4p a4o;refine V9 (Wg (V9 (V9 (a0q e h (x:=.ref d) rfl (Wg (V9 (V9 (Ze b c (V9 (a0Q b c ?_))))))))));simp only[show Zp "dict_itemiterator"=b5 by decide,if_true];refine XA (Wg ⟨_,rfl,"dict_itemiterator",_,⟨_,Wn _ rfl,rfl⟩,F.slot_dict_itemiterator_next.lookup,?_⟩) (by simp only[sizeOk,a0c,Ww,Wo,WO,Zt];rw[Wv];lia);simpa[Z0,a0c]using q
end
structure PrsAt(es:Array DictEntry)(lo:Addr)(h:Xo)(as:List Addr):Prop where
 up:as.Pairwise (·<·)
 over:∀a∈as,lo<a
 prs:∀(j:Nat)(a:Addr),as[j]?=b0 a->∃e,es[j]?=b0 e/\h.get? a=b0 {cls:=.type "tuple",data:=.seq #[e.key,e.val]}
theorem PrsAt.stay{es:Array DictEntry}{lo:Addr}{h h':Xo}{as:List Addr}(p:PrsAt es lo h as)(k:∀b o,lo<b->h.get? b=b0 o->h'.get? b=b0 o):PrsAt es lo h' as:=
 ⟨p.up,p.over,λj a c=>let⟨e,d,g⟩:=p.prs j a c;⟨e,d,k a _ (p.over a (WS c)) g⟩⟩
theorem PrsAt.lt{es:Array DictEntry}{lo:Addr}{h:Xo}{as:List Addr}(p:PrsAt es lo h as){a:Addr}(b:a∈as):a<h.objs.size:=by obtain⟨j,c⟩:=YZ.mp b;obtain⟨_,_,e⟩:=p.prs j a c;exact Wm e
theorem PrsAt.snoc{es:Array DictEntry}{lo:Addr}{h:Xo}{as:List Addr}{b:Addr}{e:DictEntry}(p:PrsAt es lo h as)(k:∀a∈as,a<b)(n:lo<b)(l:es[as.length]?=b0 e)(o:h.get? b=b0 {cls:=.type "tuple",data:=.seq #[e.key,e.val]}):PrsAt es lo h (as++[b]):=by
 refine⟨List.pairwise_append.mpr ⟨p.up,List.pairwise_singleton _ _,λa d c hc=>by rw[WB.mp hc];exact k a d⟩,λa d=>?_,λj a g=>?_⟩
 .rcases WK.mp d with d|d
  .exact p.over a d
  .rw[WB.mp d];exact n
 .rcases a1q j as.length with i|i|i
  .rw[W8 i]at g;exact p.prs j a g
  .subst i;have:b=a:=by simpa using g
   subst this;exact⟨e,l,o⟩
  .rw[YA (by simp;lia)]at g;cases g
section
variable{P:WL}{w:WX}{A:WY}{s:Wf}{R:a1h->Wf->Prop}{es:Array DictEntry}{ep:Nat}{S I d:Addr}
theorem OY(Q:A.handled=b3)(u:S<I)(H:d≠S)(G:d≠I)(hn:es.size<=Wq)(res:Value){h1:Xo}
  (T:∀(h':Xo)(tk:Nat)(acc:Array Value)(c:Nat)(as:List Addr),(∀b o,b≠S->b≠I->h1.get? b=b0 o->h'.get? b=b0 o)->h'.get? S=b0 {cls:=.type "list",dict:=b3,data:=.seq acc c,slots:=#[]}->as.length=es.size->PrsAt es I h' as->acc.toList=as.map Wx->R (.ok (.ret res)) {s with heap:=h',toks:=tk}) :
  ∀(k i:Nat)(h:Xo)(tk c:Nat)(acc:Array Value)(as:List Addr),es.size-i=k->i<=es.size->ItI h I d S i es.size ep->RawD h d es ep->(∀b o,b≠S->b≠I->h1.get? b=b0 o->h.get? b=b0 o)->h.get? S=b0 {cls:=.type "list",dict:=b3,data:=.seq acc c,slots:=#[]}->
   acc.toList=as.map Wx->as.length=i->PrsAt es I h as->I<h.objs.size->Zq (WM P w) A (.builtin "list.extend.loop" ⟨[.ref S,.ref I,res],[]⟩) R {s with heap:=h,toks:=tk}:=by
 have ne:S≠I:=WD u;intro k;induction k with
 |zero=>intro i h tk c acc as X U ⟨_,_,_,_,L,M⟩ g N n B v E lt;refine Xu F.entry_extend_loop ?_;rw[W4 F.plain_extend_loop _];refine V9 (m:=Y2 (.ref I)) (yN (s:={s with heap:=h,toks:=tk}) (A:=A.in1) Q L M g (Wm n) (λe h' l=>?_) λ_ h' x=>Wg (T h' tk acc c as (λb o y q z=>x b o q (N b o y q z)) (x S _ ne n) (by lia) (E.stay λb o p z=>x b o (XR p) z) B));rw[a2D (by lia)]at l;cases l|succ k Z=>
  intro i h tk c acc as X U ⟨_,_,_,_,L,M⟩ g N n B v E lt;have sz:acc.size=i:=by rw[<- YK,B,V7,v]
  refine Xu F.entry_extend_loop ?_;rw[W4 F.plain_extend_loop _];refine V9 (m:=Y2 (.ref I)) (yN (s:={s with heap:=h,toks:=tk}) (A:=A.in1) Q L M g (Wm n) (λe h' l j' _ K Y j=>?_) λl=>?_)
  .dsimp only at K Y j ⊢;have r:=j S _ ne n;have O:S<h.objs.size:=Wm n;have up:∀b o,b≠S->h'.get? b=b0 o->(h'.update S (Xg (·.push (Wx h.objs.size)))).get? b=b0 o:=λb o p z=>(W6 _ _ (Xh p)).trans z;refine V9 (m:=ZX S (·.push (Wx h.objs.size))) (XQ r rfl (Wg ⟨XC F.plain_extend_loop _,?_⟩) (by rw[sz];lia) (by show(acc.push (Wx h.objs.size)).size<=Wq+1;rw[Array.size_push,sz];lia));refine Z (i+1) _ tk _ (acc.push (Wx h.objs.size)) (as++[h.objs.size]) (by lia) (by lia) (j'.stay (Xh ne) up) (g.stay λo z=>up d o H (j d o G z)) (λb o y q z=>up b o y (j b o q (N b o y q z))) (Xv _ r rfl) (by rw[Array.toList_push,B,WE];rfl) (by rw[Wo,v];rfl) ?_ ?_
   .exact((E.stay λb o p z=>up b o (XR (a1r u p)) (j b o (XR p) z))).snoc (λa J=>E.lt J) lt (by rw[v];exact l) (up _ _ (XR O) K)
   .exact a1r lt (Wm (up _ _ (XR O) K))
  .rw[a0d (by lia)]at l;cases l
theorem OZ{r:Addr}{res:Value}{c0:Nat}(K:A.handled=b3)(q:s.heap.IsItemsView r d)(g:RawD s.heap d es ep)(E:S≠r)(y:d≠S)(B:s.heap.get? S=b0 {cls:=.type "list",data:=.seq #[] c0}) (M:es.size<=Wq)
  (H:∀(h':Xo)(tk:Nat)(acc:Array Value)(c:Nat)(as:List Addr),(∀b o,b≠S->s.heap.get? b=b0 o->h'.get? b=b0 o)->h'.get? S=b0 {cls:=.type "list",dict:=b3,data:=.seq acc c,slots:=#[]}->as.length=es.size->PrsAt es s.heap.objs.size h' as->acc.toList=as.map Wx->R (.ok (.ret res)) {s with heap:=h',toks:=tk}) :
  WI (WM P w) A.in1 (X1 (.ref S) (.ref r) res) (λfin n=>match fin with|.done f=>R (.ok f) n|.again c'=>c'.quiet=b5/\Zq (WM P w) A c' R n) (λe n=>R (.error e) n) s:=by
 have x:S<s.heap.objs.size:=Wm B;have G:d<s.heap.objs.size:=g.lt;have run:∀(h:Xo)(p tk:Nat),(∀b o,b≠S->(s.heap.push {cls:=.type "dict_itemiterator",data:=.fields #[.none,.bool b4,.ref d,.int 0 0,.int es.size 0,.int ep 0,.none,.none]}).get? b=b0 o->h.get? b=b0 o)->h.get? S=b0 {cls:=.type "list",data:=.seq #[] p}->
   Zq (WM P w) A (.builtin "list.extend.loop" ⟨[.ref S,.ref s.heap.objs.size,res],[]⟩) R {s with heap:=h,toks:=tk}:=by
  intro h p tk u i;have z:=u s.heap.objs.size _ (XR x) (Wn _ rfl);exact OY (s:=s) (h1:=s.heap) (ep:=ep) K x y (WD G) M res (λh' v acc c as O Q T U X=>H h' v acc c as (λb o k e=>O b o k (WD (Wm e)) e) Q T U X) es.size 0 h tk p #[] [] (a5y _) (Yi _)
   ⟨.none,.none,.none,b4,z,.inl rfl⟩ (g.stay λo e=>u d o y (Wc _ e)) (λb o k _ e=>u b o k (Wc _ e)) i rfl rfl ⟨a2d,λ_ J=>(by cases J),λj a L=>(by simp at L)⟩ (Wm z)
 unfold X1;refine V9 (a1N (T:="dict_items") q.typeIs ?_);simp only[show Y7 (.ref S) (.ref r)=b4 by simp[Y7,E],show(WG "dict_items"==WG "list")=b4 by decide,show(WG "dict_items"==WG "tuple")=b4 by decide,a0Y,WQ,if_false];refine V9 (DZ q g ?_);have i:=Wc {cls:=.type "dict_itemiterator",data:=.fields #[.none,.bool b4,.ref d,.int 0 0,.int es.size 0,.int ep 0,.none,.none]} B;refine V9 (Xb (PySem.W.kdx_hint (let⟨o,N,hc,_⟩:=q;⟨o,Wc _ N,hc⟩) ?_));refine Y9 (λ_=>?_) (λ_=>Wg ⟨XC F.plain_extend_loop _,run _ c0 _ (λb o _ e=>e) i⟩);refine V9 (a0k (V9 ?_));refine V9 (m:=ZX S (·.push .none)) (XQ i rfl ?_);have l:=Xv (Xg (·.push XT)) i rfl;refine XQ (hz:=by seq_fits) l rfl (Wg ⟨XC F.plain_extend_loop _,run _ _ _ (λb o k e=>?_) (Xv (Xg (·.pop)) l rfl)⟩);exact(W6 _ _ (Xh k)).trans ((W6 _ _ (Xh k)).trans e)
theorem O0{r:Addr}{E:Value->Wf->Prop}{T:gw->Wf->Prop}(G:A.handled=b3)(u:s.heap.IsItemsView r d)(g:RawD s.heap d es ep)(H:es.size<=Wq)
  (q:∀(h':Xo)(tk:Nat)(as:List Addr),(∀b o,s.heap.get? b=b0 o->h'.get? b=b0 o)->as.length=es.size->PrsAt es s.heap.objs.size h' as->s.heap.objs.size<=h'.objs.size->T (as.map Wx) {s with heap:=h',toks:=tk}):WI (WM P w) A (collect (.ref r)) T E s:=by
 have J:r<s.heap.objs.size:=let⟨_,n,_⟩:=u;Wm n
 unfold collect
 refine V9 (wpAny_runValue (Xu a5N ?_))
 rw[W4 F.plain_proto_collect _]
 refine V9 (m:=newList []) (XA (Wg ⟨XC F.plain_list_iadd _,Xu a5O ?_⟩))
 rw[W4 F.plain_list_iadd _]
 have z:(s.heap.push {cls:=.type "list",data:=.seq ([]:gw).toArray}).get? s.heap.objs.size=b0 {cls:=.type "list",data:=.seq #[]}:=Wn _ rfl
 have all:=OZ (A:=A) (s:={s with heap:=s.heap.push {cls:=.type "list",data:=.seq ([]:gw).toArray}}) (P:=P) (w:=w) (es:=es) (ep:=ep) (res:=.ref s.heap.objs.size) (c0:=0)
  (R:=λ(q:a1h)(p:Wf)=>∃(h':Xo)(tk:Nat)(acc:Array Value)(c:Nat)(as:List Addr),q=.ok (.ret (.ref s.heap.objs.size))/\p={s with heap:=h',toks:=tk}/\(∀b o,s.heap.get? b=b0 o->h'.get? b=b0 o)/\h'.get? s.heap.objs.size=b0 {cls:=.type "list",dict:=b3,data:=.seq acc c,slots:=#[]}/\as.length=es.size/\PrsAt es s.heap.objs.size h' as/\acc.toList=as.map Wx)
  G (let⟨o,n,x⟩:=u;⟨o,Wc _ n,x⟩) (g.stay λo e=>Wc _ e) (XR J) (WD g.lt) z H
  (λh' tk acc c as j h k i l=>⟨h',tk,acc,c,as,rfl,rfl,λb o e=>j b o (WD (Wm e)) (Wc _ e),h,k,⟨i.up,λa B=>a1r (X7 _) (by have:=i.over a B;rw[Yy]at this;exact this),i.prs⟩,l⟩)
 refine Xz all (λfin p x=>?_) λe p x=>?_
 .cases fin with
  |done f=>
   obtain⟨h',tk,acc,c,as,e,rfl,j,h,k,i,l⟩:=x
   cases e
   refine V9 (m:=load s.heap.objs.size) (a2N h (Wg ?_))
   show T acc.toList _
   rw[l]
   exact q h' tk as j k i (Z5 (Wm h))
  |again K=>
   refine⟨x.1,a1P x.2 λy L x=>?_⟩
   obtain⟨h',tk,acc,c,as,rfl,rfl,j,h,k,i,l⟩:=x
   refine V9 (m:=load s.heap.objs.size) (a2N h (Wg ?_))
   show T acc.toList _
   rw[l]
   exact q h' tk as j k i (Z5 (Wm h))
 .obtain⟨_,_,_,_,_,v,_⟩:=x
  cases v
end
end L3
namespace L3
open PySem L2 PySem.W PyProof.Rows
section
variable{P:WL}{w:WX}{A:WY}{E:Value->Wf->Prop}{s:Wf}
theorem D0{v:Value}{Q:Bool->Wf->Prop}(q:Q b5 s):WI (WM P w) A (eqBool v v) Q E s:=by unfold eqBool;refine Xb ?_;rw[if_pos (by simp)];exact V9 (a0k (Wg q))
theorem t7:∀k:List Int,HT.lexLt k k=b4
 |[]=>rfl|a::k=>by simp[HT.lexLt,t7 k]
noncomputable def jD(P:WL)(w:WX)(h:Xo)(b:Addr)(k:List Int):Prop:=Tb.IsT P w h k b/\∃xs:gw,a5o h b xs.toArray/\Zw xs k
theorem O1{a g b h:Addr}{v l:Value}{k k':List Int}{C:Bool->Wf->Prop}(j:A.units<XM)(n:s.heap.get? a=b0 {cls:=.type "tuple",data:=.seq #[.ref b,v]}) (d:s.heap.get? g=b0 {cls:=.type "tuple",data:=.seq #[.ref h,l]})
  (i:jD P w s.heap b k)(c:jD P w s.heap h k')(o:k=k'->v=l)(q:C (HT.lexLt k k') s):WI (WM P w) A (keyLt' (tuples' b4) (.ref a) (.ref g)) C (λ_ _=>False) s:=by
 refine kat_lt n rfl d rfl ?_;refine a2P ((ZN (Y3 P w)).eqBool j i.1 c.1 ?_);by_cases e:k=k'
 .obtain rfl:=o e;subst e;rw[decide_eq_true rfl];refine a5g (a2P (D0 (a5g (kat_nil ?_))));rw[t7]at q;exact q
 .rw[decide_eq_false e];obtain⟨y,u,p⟩:=i.2;obtain⟨z,x,r⟩:=c.2;refine kat_no (kat_one _ _ (HT.lt_tupInts u x (by simpa using p) (by simpa using r) j ?_));exact q
noncomputable def oX(P:WL)(w:WX)(A:WY)(us:gw)(an:Nat->Nat->Bool)(s:Wf):Prop:=
 WI (WM P w) A (keyKind' us.toArray) (λb a=>a=s/\∀(i j:Nat)(C:Bool->Wf->Prop),i<us.length->j<us.length->C (an i j) s->WI (WM P w) A (keyLt' b (us.getD i .none) (us.getD j .none)) C (λ_ _=>False) s) (λ_ _=>False) s
theorem O2{es:Array DictEntry}{lo:Addr}{as bs:List Addr}{ks:List (List Int)}(Z:A.units<XM)(p:PrsAt es lo s.heap as)(h0:0<as.length)(hl:as.length=es.size)(hk:ks.length=es.size)(Y:bs.length=es.size)(key:∀(j:Nat)(e:DictEntry),es[j]?=b0 e->e.key=.ref (bs.getD j 0)/\jD P w s.heap (bs.getD j 0) (ks.getD j []))
  (nd:ks.Nodup):oX P w A (as.map Wx) (λi j=>HT.lexLt (ks.getD i []) (ks.getD j [])) s:=by
 have g:∀i,i<as.length->∃(e:DictEntry),es[i]?=b0 e/\s.heap.get? (as.getD i 0)=b0 {cls:=.type "tuple",data:=.seq #[.ref (bs.getD i 0),e.val]}/\jD P w s.heap (bs.getD i 0) (ks.getD i []):=λi d=>by
  have N:as[i]?=b0 (as.getD i 0):=by simp[Xx,d]
  obtain⟨e,u,q⟩:=p.prs i _ N;obtain⟨k1,B⟩:=key i e u;rw[k1]at q;exact⟨e,u,q,B⟩
 unfold oX;have r:KatTups s.heap (as.map Wx) (bs.map Wx):=by
  have go:∀(n:Nat)(a c:List Addr),a.length=n->c.length=n->(∀i,i<n->∃v:Value,s.heap.get? (a.getD i 0)=b0 {cls:=.type "tuple",data:=.seq #[.ref (c.getD i 0),v]})->KatTups s.heap (a.map Wx) (c.map Wx):=by
   intro n;induction n with
   |zero=>intro a c k l _;rw[a2z.mp k,a2z.mp l];exact .nil|succ n ih=>
    intro a c k l L;match a,c,k,l with
    |x::a,y::c,k,l=>obtain⟨v,J⟩:=L 0 (by lia);refine .cons J rfl rfl (by simp) (ih a c (by simpa using k) (by simpa using l) λi d=>?_);have:=L (i+1) (by lia);simpa using this
  refine go as.length as bs rfl (by lia) λi d=>?_;obtain⟨e,_,q,_⟩:=g i d;exact⟨_,q⟩
 refine kat_kind (T:=.type "tuple") r (by rw[V7];lia) (λv J=>?_) (by decide) ⟨rfl,λi j C d I U=>?_⟩
 .obtain⟨b,X,rfl⟩:=Wz.mp J;obtain⟨i,d⟩:=YZ.mp X;have G:i<as.length:=by have:=(Wa.mp d).1;lia
  obtain⟨e,_,_,B⟩:=g i G;have:bs.getD i 0=b:=by simp[Xx,d]
  rw[this]at B;obtain⟨xs,⟨o,o1,o2,_⟩,_⟩:=B.2;exact kitAt_ty _ _ ⟨o,o1,o2⟩
 .rw[V7]at d I;obtain⟨e,u,q,M⟩:=g i d;obtain⟨e',K,O,Q⟩:=g j I;have R:(as.map Wx).getD i .none=.ref (as.getD i 0):=by simp[Xx,d]
  have T:(as.map Wx).getD j .none=.ref (as.getD j 0):=by simp[Xx,I]
  rw[R,T];refine O1 Z q O M Q (λz=>?_) U;have H:i=j:=by
   have k:ks.getD i []=ks[i]:=by simp[Xx,show i<ks.length by lia]
   have l:ks.getD j []=ks[j]:=by simp[Xx,show j<ks.length by lia]
   rw[k,l]at z;rcases a1q i j with h|h|h
   .exact absurd z ((Zk.mp nd) i j (by lia) (by lia) h)
   .exact h
   .exact absurd z.symm ((Zk.mp nd) j i (by lia) (by lia) h)
  subst H;rw[u]at K;cases K;rfl
end
section
variable{P:WL}{w:WX}{A:WY}{E:Value->Wf->Prop}{s:Wf}
theorem D1{c:Addr}{us:gw}{z:Nat}{R:PySem.Fin->Wf->Prop}{an:Nat->Nat->Bool}(N:2<=us.length)(n:us.length<64)(g:s.heap.get? c=b0 (X6 "list" us.toArray z)) (H:∀J:Xo,(∀b o,b≠c->s.heap.get? b=b0 o->J.get? b=b0 o)->oX P w A us an {s with heap:=J})
  (q:R (.done (.ret .none)) {s with heap:=a2O s.heap c us ((cW an us.length).map λi=>us.getD i XT).toArray}):WI (WM P w) A (Builtin.«list.sort» ⟨[.ref c],[]⟩) R E s:=by
 rw[a5E]
 refine V9 (listItems_at g rfl (V9 (a1w g rfl ?_ (by rw[Ww,Wv];lia) (Yi _))))
 obtain⟨y,G⟩:∃y,(s.heap.update c (Xg λ_=>#[])).get? c=b0 (X6 "list" #[] y):=⟨_,a5G g _⟩
 refine V9 (a2r G rfl (V9 (a2M (V9 (a1u (Xb ?_) (Yi _))) (by show us.length<=_;rw[Wv];lia))))
 have I:(((s.heap.update c (Xg λ_=>#[])).push (X6 "tuple" us.toArray 0)).push (X6 "list" #[] 0)).get? c=b0 (X6 "list" #[] y):=
  Wc _ (Wc _ G)
 have l:=H (((s.heap.update c (Xg λ_=>#[])).push (X6 "tuple" us.toArray 0)).push (X6 "list" #[] 0)) λb o Q e=>Wc _ (Wc _ ((W6 _ _ (Xh Q)).trans e))
 show WI (WM P w) A _ R E ⟨((s.heap.update c (Xg λ_=>#[])).push (X6 "tuple" us.toArray 0)).push (X6 "list" #[] 0),s.gens,s.drawn,s.toks,s.os⟩
 dsimp only
 have h:¬ us.toArray.size<2:=by rw[Ww];lia
 rw[if_neg h,if_neg h]
 refine V9 (Xz l (λY k u=>?_) λ_ _ x=>x.elim)
 obtain⟨rfl,u⟩:=u
 refine V9 (Xz (kat_run (ks:=us) (vs:=us) (κ:=Y) (Q:=λa k=>k={s with heap:=((s.heap.update c (Xg λ_=>#[])).push (X6 "tuple" us.toArray 0)).push (X6 "list" #[] 0)}/\failedOf a=b3/\(arrOf a).map (·.2)=((cW an us.length).map λi=>us.getD i XT).toArray)
  (G:=λp k=>k={s with heap:=((s.heap.update c (Xg λ_=>#[])).push (X6 "tuple" us.toArray 0)).push (X6 "list" #[] 0)}/\p.toList=cW an us.length) rfl N n (λp a k Z L M B=>⟨B.1,M,by rw[kat_snds rfl L,B.2]⟩)
  (Dd (n:=us.length) (ans:=an) (λi j C T U O=>u i j C T U O) (qD (by lia)) ⟨rfl,rfl⟩)) (λr k X=>?_) λ_ _ e=>e)
 obtain⟨⟨⟩,a⟩:=r
 obtain⟨rfl,K,d⟩:=X
 dsimp only at K d ⊢
 rw[d]
 have v:((cW an us.length).map λi=>us.getD i XT).length=us.length:=by
  rw[V7,(Di an (n:=us.length) (by lia)).length_eq,Xy]
 refine V9 (a2r I rfl (V9 (a1w I rfl ?_ (hsz2:=by rw[Ww,v,Wv];lia))))
 rw[K]
 simp only[bne_self_eq_false,WQ,if_false]
 exact Wg q
theorem O3{r d:Addr}{es:Array DictEntry}{ep:Nat}{Q:Value->Wf->Prop}{an:Nat->Nat->Bool}(K:A.handled=b3)(M:s.heap.IsItemsView r d)(g:RawD s.heap d es ep)(G:es.size<64)
  (H:2<=es.size->∀(h:Xo)(tk:Nat)(as:List Addr),(∀b o,s.heap.get? b=b0 o->h.get? b=b0 o)->as.length=es.size->PrsAt es s.heap.objs.size h as->oX P w A.in1.in1 (as.map Wx) an {s with heap:=h,toks:=tk})
  (q:∀(h:Xo)(tk:Nat)(as:List Addr)(L e:Nat),(∀b o,s.heap.get? b=b0 o->h.get? b=b0 o)->as.length=es.size->PrsAt es s.heap.objs.size h as->s.heap.objs.size<=L->(∀a∈as,a≠L)->h.get? L=b0 (X6 "list" ((cW an es.size).map λi=>Wx (as.getD i 0)).toArray e)->Q (.ref L) {s with heap:=h,toks:=tk}) :
  WI (WM P w) A (call (.builtin "sorted") [.ref r]) Q E s:=by
 refine a2e kind_sorted plain_sorted entry_sorted (args_sorted1 _) ?_
 unfold a2Z
 refine V9 (m:=checkCount "sorted" 1 1 _) (Wg (V9 (O0 (A:=A.in1) K M g (by rw[Wv];lia) λc tk as z n v l=>?_)))
 have B:(as.map Wx).length=es.size:=by rw[V7,n]
 refine V9 (a1u ?_ (by rw[B,Wv];lia))
 have k:(c.push (X6 "list" (as.map Wx).toArray 0)).get? c.objs.size=b0 (X6 "list" (as.map Wx).toArray 0):=Wn _ rfl
 have fin:∀j:gw,j=((cW an es.size).map λi=>Wx (as.getD i 0))->Q (.ref c.objs.size) {s with heap:=a2O (c.push (X6 "list" (as.map Wx).toArray 0)) c.objs.size (as.map Wx) j.toArray,toks:=tk}:=by
  rintro j rfl
  obtain⟨e,J⟩:=sortedHeap_at (h:=c.push (X6 "list" (as.map Wx).toArray 0)) (out:=((cW an es.size).map λi=>Wx (as.getD i 0)).toArray) k
  have old:∀b o,c.get? b=b0 o->(a2O (c.push (X6 "list" (as.map Wx).toArray 0)) c.objs.size (as.map Wx) ((cW an es.size).map λi=>Wx (as.getD i 0)).toArray).get? b=b0 o:=λb o x=>by
   rw[sortedHeap_old (WD (Wm x)) (by rw[Yy];exact a0i (Wm x))]
   exact Wc _ x
  exact q _ tk as c.objs.size e (λb o x=>old b o (z b o x)) n (v.stay λb o _ x=>old b o x) l (λa I=>WD (v.lt I)) J
 by_cases p:2<=es.size
 .refine V9 (Xb (Yn a1b (s:={s with heap:=c.push (X6 "list" (as.map Wx).toArray 0),toks:=tk}) ⟨_,k,rfl⟩ a0S (D1 (an:=an) (by lia) (by lia) k (λh y=>?_) ⟨_,rfl,?_⟩) (a1g _)))
  .exact H p h tk as (λb o e=>y b o (WD (WT (Wm e) l)) (Wc _ (z b o e))) n (v.stay λb o N e=>y b o (WD (Wm e)) (Wc _ e))
  .refine Wg ⟨_,rfl,fin _ ?_⟩
   rw[B]
   refine XF λi u=>?_
   have u:i<as.length:=by
    have:=Xn.mp ((jY an es.size).mem_iff.mp u)
    lia
   simp[Xx,u]
 .refine V9 (Xb (Yn a1b (s:={s with heap:=c.push (X6 "list" (as.map Wx).toArray 0),toks:=tk}) ⟨_,k,rfl⟩ a0S (Dj (by lia) k ⟨_,rfl,?_⟩) (a1g _)))
  refine Wg ⟨_,rfl,fin (as.map Wx) ?_⟩
  match as,n with
  |[],e=>rw[<- e];show[]=(cW _ 0).map _;rw[xY];rfl
  |[b],e=>rw[<- e];show[Wx b]=(cW _ 1).map _;rw[Dk];rfl
  |_::_::_,e=>rw[<- e]at p;simp at p
end
end L3
namespace L3
open PySem L2
section
variable{P:WL}{w:WX}
theorem D2(d:Addr)(hd:(d==XB)=b4):MeetsIn P w (Builtin.«dict.items» ⟨[.ref d],[]⟩) (λ_ R s=>(∃es ep,RawD s.heap d es ep) /\
   R (.ok (.ret (.ref s.heap.objs.size))) {s with heap:=s.heap.push {cls:=.type "dict_items",data:=.fields #[.ref d]}}):=
 .of_wp λA R s ⟨⟨es,ep,g⟩,h⟩=>by unfold Builtin.«dict.items»;refine V9 ?_;unfold a6a;refine V9 (ZU g.ty ?_);show WI _ _ (pure d) _ _ s;refine Wg ?_;show WI _ _ (Zx d >>= _) _ _ s;unfold Zx;rw[if_neg (by rw[hd];exact Wj)];refine V9 (Wg ?_);exact V9 (XA (Wg ⟨_,rfl,h⟩))
end
noncomputable def t8(kvs:jx):jx:=(cW (λi j=>HT.lexLt ((kvs.map (·.1)).getD i []) ((kvs.map (·.1)).getD j [])) kvs.length).map λi=>kvs.getD i ([],.non)
theorem O4{b c:Type}{R:b->c->Prop}{as:List b}{bs:List c}(h:Z3 R as bs)(d:b)(g:c):∀i,i<as.length->R (as.getD i d) (bs.getD i g):=by
 induction h with
 |nil=>exact λi a=>nomatch a|cons e t j=>
  intro i a;cases i with
  |zero=>exact e|succ i=>exact j i (by simpa using a)
theorem D3{a b:Type}{R:a->b->Prop}{f:Nat->a}{g:Nat->b}:∀{l:List Nat},(∀i∈l,R (f i) (g i))->Z3 R (l.map f) (l.map g)
 |[],_=>.nil|i::l,h=>.cons (h i (Xd ..)) (D3 λj c=>h j (WV _ c))
section
variable{X:Cx}{a6r pins0:jw}{σ σ0:St}{H H0:Hp}{s s0:Wf}{a:Addr}{ps ps0:bQ}{ob:Obj}
theorem Inv.freeze(I:Inv X a6r σ H s)(e:H a=b0 (aS a ps))(c:s.heap.get? a=b0 ob):Inv X a6r σ (aK H a (.frz ob (aS a ps))) s:=by have ok:ObjOk X.prog X.w H s.heap a (aS a ps):=I.hok a _ e;exact I.write (x:=a) (e:=a) (h':=s.heap) (t':=s.toks) (by rw[e];exact Zb) (.inl rfl) (λb q _ z=>z) ⟨ob,c⟩ ⟨c,ok⟩
theorem Inv.thaw(n:Inv X pins0 σ0 H0 s0)(r:H0 a=b0 (aS a ps0))(I:Inv X a6r σ H s)(e:H a=b0 (.frz ob (aS a ps))):Inv X a6r σ (aK H a (aS a ps)) s:=by
 have ne:∀{b:Addr},H b=b3->b≠a:=λ{b} h z=>by rw[z,e]at h;cases h
 refine⟨I.ok,I.os,I.bare,⟨I.base.keep,I.base.slot,λb o d g i=>?_,I.base.there,λb k h=>?_,λb o u h=>?_,λb w h=>?_⟩,I.loc,I.cell,?_,λx c h=>?_,λp v=>?_,λb u q=>?_,I.len⟩
 .have:=I.base.free b o d g i;rw[bJ (ne this)];exact this
 .have:=I.base.tups b k h;rw[bJ λz=>by rw[z,e]at this;cases this];exact this
 .have:=I.base.frzs b o u h;rw[bJ λz=>by
   have l:=n.base.frzs b o u h;rw[z,r]at l;cases l]
  exact this
 .obtain⟨more,d⟩:=I.base.tbls b w h;exact⟨more,by rw[bJ λz=>by rw[z,e]at d;cases d];exact d⟩
 .rw[bJ (ne I.free)];exact I.free
 .have:=I.freeC x c h;rw[bJ (ne this)];exact this
 .obtain⟨d,g,i⟩:=I.pin p v;exact⟨d,by rw[bJ (ne g)];exact g,i⟩
 .by_cases j:b=a
  .subst j;rw[cP]at q;cases q;exact(show ObjOk X.prog X.w H s.heap b (.frz ob (aS b ps))from I.hok b _ e).2
  .rw[bJ j]at q;exact(I.hok b u q).stay (λ_ _ _ z=>z) (λc h=>by rw[bJ λz=>by rw[z,e]at h;cases h];exact h) λc k h=>by rw[bJ λz=>by rw[z,e]at h;cases h];exact h
end
noncomputable def oY(i:Nat)(c:aH)(b:Hm):Option (Nat×jx):=match c[i]? with
 |some (b0 (.loc a))=>match b[a]? with
  |some (.dT kvs)=>b0 (a,kvs)|_=>b3
 |_=>b3
theorem D4{i:Nat}{c:aH}{b:Hm}{a:Nat}{kvs:jx}(h:oY i c b=b0 (a,kvs)):b[a]?=b0 (.dT kvs):=by
 unfold oY at h;split at h
 .split at h
  .rename_i hc;cases h;exact hc
  .cases h
 .cases h
noncomputable def oZ(i:Nat)(d e:ME):ME:=λc b=>match oY i c b with
 |some (a,kvs)=>(d c (b.set a (.dF kvs))).bind λr=>match r.2[a]? with
  |some (.dF kvs')=>b0 (r.1,r.2.set a (.dT kvs'))|_=>b3
 |none=>e c b
noncomputable def t9(i:Nat)(d e:MS):MS:=λc b=>match oY i c b with
 |some (a,kvs)=>(d c (b.set a (.dF kvs))).bind λr=>match r.2.2[a]? with
  |some (.dF kvs')=>b0 (r.1,r.2.1,r.2.2.set a (.dT kvs'))|_=>b3
 |none=>e c b
section
variable{X:Cx}{a6r:jw}{σ:St}{H:Hp}{s:Wf}{π:Nat->Addr}{ρ:aH}{μ:Hm}{a:Nat}{kvs:jx}
theorem D5(I:Inv X a6r σ H s)(R:Rp X.K π H μ)(E:En X.K π μ.length H σ ρ)(hc:μ[a]?=b0 (.dT kvs)):∃b ps,H (π a)=b0 (aS (π a) ps)/\Inv X a6r σ (aK H (π a) (.frz b (aS (π a) ps))) s /\
  Rp X.K π (aK H (π a) (.frz b (aS (π a) ps))) (μ.set a (.dF kvs))/\En X.K π (μ.set a (.dF kvs)).length (aK H (π a) (.frz b (aS (π a) ps))) σ ρ:=by
 obtain⟨ps,c,T⟩:=jB R hc;obtain⟨_,⟨b,e⟩,_⟩:=(show ObjOk X.prog X.w H s.heap (π a) (aS (π a) ps)from I.hok _ _ c);obtain⟨d,R2⟩:=R.put (c:=.dF kvs) (o:=.frz b (aS (π a) ps)) (Wa.mp hc).1 c (.inr (.inr ⟨_,rfl⟩)) ⟨b,ps,rfl,T.to⟩;exact⟨b,ps,c,Inv.freeze I c e,R2,E.mono d⟩
theorem qL{g:jw}{n:St}{j:Hp}{w:Wf}{c:Nat->Addr}{μ':Hm}{B:Obj}{ps:bQ}{d:jx}(I:Inv X a6r σ H s)(e:H (π a)=b0 (aS (π a) ps))(y:a<μ.length)
  (x:Inv X g n j w)(R':Rp X.K c j μ')(k:Ext π (μ.set a (.dF kvs)).length (aK H (π a) (.frz B (aS (π a) ps))) c μ'.length j)(hc:μ'[a]?=b0 (.dF d)) :
  ∃q,Inv X g n q w/\Ext π μ.length H c (μ'.set a (.dT d)).length q/\Rp X.K c q (μ'.set a (.dT d))/\Ext0 c μ'.length j c (μ'.set a (.dT d)).length q:=by
 have r:c a=π a:=k.pi a (by rw[XW];exact y);obtain⟨E,i,v,T⟩:=tW R' hc;obtain⟨J,R2⟩:=R'.put0 (c:=.dT d) (o:=aS (c a) i) (Wa.mp hc).1 v (.inr (.inr (.inr ⟨_,_,rfl⟩))) ⟨i,rfl,T.to⟩;rw[r]at v;refine⟨aK j (c a) (aS (c a) i),?_,⟨?_,λb A=>k.pi b (by rw[XW];exact A),λp G h=>?_,λp o u h=>?_⟩,R2,J⟩
 .rw[r];exact Inv.thaw I e x v
 .have:=k.le;rw[XW]at this ⊢;exact this
 .have l:p≠π a:=λz=>by rw[z,e]at h;cases h
  have:=k.tup p G (by rw[bJ l];exact h);rw[r,bJ l];exact this
 .have l:p≠π a:=λz=>by rw[z,e]at h;cases h
  have:=k.frz p o u (by rw[bJ l];exact h);rw[r,bJ l];exact this
theorem En.mono0{K:V8}{b:Nat->Addr}{n g:Nat}{c:Hp}(E:En K π n H σ ρ)(e:Ext0 π n H b g c):En K b g c σ ρ:=
 ⟨E.len,λi d h=>let⟨v,j,k⟩:=E.get i d h;⟨v,j,k.mono0 e⟩⟩
end
section
variable{X:Cx}{e:Expr}{st:Stmt}{i:Nat}
theorem O5{z A:ME}(h1:QE X e z)(h2:QE X e A):QE X e (oZ i z A):=⟨by
 intro j s J H Q I hw;obtain⟨l,G,B,d,r,R,E,c,k⟩:=hw;unfold oZ at c;split at c
 .rename_i a q hv;obtain⟨⟨x,g⟩,Z,c⟩:=V6.mp c;dsimp only at c;split at c
  .rename_i y o;cases c;have hc:=D4 hv;obtain⟨ob,ps,U,L,O,K⟩:=D5 I R E hc;refine aR (h1.h j s J _ (λv h=>∃b,Ext l (B.set a (.dF q)).length (aK H (l a) (.frz ob (aS (l a) ps))) b g.length h/\Rp X.K b h g/\IsD X.K b g.length h v d) L ⟨l,G,_,d,g,O,K,Z,λb v h n R2 p=>⟨b,n,R2,p⟩⟩) λu s2 ⟨v,h,M,rv,b,n,R2,p⟩=>?_;obtain⟨w,N,Y,T,x3⟩:=qL I U (Wa.mp hc).1 M R2 n o;exact⟨v,w,N,rv,k b v w Y T (p.mono0 x3)⟩
  .cases c
 .exact h2.h j s J H Q I ⟨l,G,B,d,r,R,E,c,k⟩⟩
theorem D6{Z m2:MS}(h1:QS X st Z)(h2:QS X st m2):QS X st (t9 i Z m2):=⟨by
 intro K s σ H D I hw;obtain⟨l,ρ,L,G,p,U,R,E,w,k⟩:=hw;unfold t9 at w;split at w
 .rename_i a x hv;obtain⟨⟨fl1,ρ1,g⟩,g1,w⟩:=V6.mp w;dsimp only at w;split at w
  .rename_i Y r;cases w;have hc:=D4 hv;have N:=(Wa.mp hc).1;obtain⟨O,Q,M,I1,R1,E1⟩:=D5 I R E hc;refine aR (h1.h K s σ _ ⟨λc h=>G=.nx/\∃b,Ext l (L.set a (.dF x)).length (aK H (l a) (.frz O (aS (l a) Q))) b g.length h/\Rp X.K b h g/\En X.K b g.length h c p,
     λv h=>∃d,G=.rt d/\∃b,Ext l (L.set a (.dF x)).length (aK H (l a) (.frz O (aS (l a) Q))) b g.length h/\Rp X.K b h g/\IsD X.K b g.length h v d,
     λc h=>G=.bk/\∃b,Ext l (L.set a (.dF x)).length (aK H (l a) (.frz O (aS (l a) Q))) b g.length h/\Rp X.K b h g/\En X.K b g.length h c p,
     λc h=>G=.ct/\∃b,Ext l (L.set a (.dF x)).length (aK H (l a) (.frz O (aS (l a) Q))) b g.length h/\Rp X.K b h g/\En X.K b g.length h c p⟩ I1 ⟨l,ρ,_,G,p,g,R1,E1,g1,?_⟩) λf s2 q=>?_
   .cases G with
    |nx=>exact λb c h j R2 n=>⟨rfl,b,j,R2,n⟩|bk=>exact λb c h j R2 n=>⟨rfl,b,j,R2,n⟩|ct=>exact λb c h j R2 n=>⟨rfl,b,j,R2,n⟩|rt d=>exact λb v h j R2 T=>⟨d,rfl,b,j,R2,T⟩
   .cases f with
    |next=>obtain⟨c,h,y,rfl,b,j,R2,n⟩:=q;obtain⟨o,z,B,A,J⟩:=qL I M N y R2 j r;exact⟨c,o,z,k b c o B A (En.mono0 n J)⟩|brk=>obtain⟨c,h,y,rfl,b,j,R2,n⟩:=q;obtain⟨o,z,B,A,J⟩:=qL I M N y R2 j r;exact⟨c,o,z,k b c o B A (En.mono0 n J)⟩|cont=>obtain⟨c,h,y,rfl,b,j,R2,n⟩:=q;obtain⟨o,z,B,A,J⟩:=qL I M N y R2 j r;exact⟨c,o,z,k b c o B A (En.mono0 n J)⟩|ret u=>obtain⟨v,c,h,y,rv,d,rfl,b,j,R2,T⟩:=q;obtain⟨o,z,B,A,J⟩:=qL I M N y R2 j r;exact⟨v,c,o,z,rv,k b v o B A (T.mono0 J)⟩
  .cases w
 .exact h2.h K s σ H D I ⟨l,ρ,L,G,p,U,R,E,w,k⟩⟩
end
noncomputable def yO(d:Addr)(a:Obj)(ps:bQ):It:=⟨λi H=>H d=b0 (.frz a (aS d ps))/\i<ps.length,λi H x b=>b=H/\∃p,ps[i]?=b0 p/\x=.ref p.2.1,λi H=>H d=b0 (.frz a (aS d ps))/\ps.length<=i⟩
theorem nM{X:Cx}{a6r:jw}{σ:St}{H:Hp}{s:Wf}{d:Addr}{c:Obj}{ps:bQ}(I:Inv X a6r σ H s)(e:H d=b0 (.frz c (aS d ps))) :
  (d==XB)=b4/\ps.length<=Wq/\∃a b,RawD s.heap d a b/\c.data=.dict a b/\a.toList.map (·.key)=ps.map λp=>Wx p.2.1:=by
 obtain⟨g,⟨u,r,n,l,o,a,b,h,j,i,k,q⟩,_⟩:=(show ObjOk X.prog X.w H s.heap d (.frz c (aS d ps))from I.hok d _ e);rw[g]at h;cases h;refine⟨n,l,a,b,⟨c,g,j,i⟩,i,?_⟩;rw[k,tT (P:=X.prog) (w:=X.w),WC,<- yL r];rfl
theorem D7:∀(ps:bQ)(ws:gw),ps.length=ws.length->(a0r sN ps ws).map (·.val)=ws
 |[],[],_=>rfl|[],_::_,h=>by cases h
 |_::_,[],h=>by cases h
 |p::ps,u::ws,h=>by rw[Xc,WA,D7 ps ws (by simpa using h)];rfl
theorem O6{X:Cx}{a6r:jw}{σ:St}{H:Hp}{s:Wf}{d:Addr}{c:Obj}{ps:bQ}(I:Inv X a6r σ H s)(e:H d=b0 (.frz c (aS d ps))) :
  (d==XB)=b4/\ps.length<=Wq/\∃a b,RawD s.heap d a b/\c.data=.dict a b/\Vals (ps.map (·.2.2)) (a.toList.map (·.val)):=by
 obtain⟨h,⟨g,r,q,p,o,a,b,i,l,j,n,u⟩,_⟩:=(show ObjOk X.prog X.w H s.heap d (.frz c (aS d ps))from I.hok d _ e);rw[h]at i;cases i;refine⟨q,p,a,b,⟨c,h,l,j⟩,j,?_⟩;have k:(a0r sN ps g).map (·.val)=g:=D7 ps g (by
  have:=r.length;rw[V7]at this;exact this)
 rw[n,k];exact r
theorem O7{P:WL}{w:WX}{K:V8}{tg:Expr}{d p:Addr}{Y:Obj}{ps:bQ}{es:Array DictEntry}{ep:Nat}(hd:Y.data=.dict es ep):Turn Qc P w K tg (yO d Y ps) [p] p (λi h=>h.IsKeyIter p d i es.size ep) where
 mem:=by simp
 obj:=λi h st b j=>by
  have e:b=p:=by simpa using j
  subst e;obtain⟨o,e,c,d⟩:=st;exact⟨o,e,λv z=>by rw[d]at z;cases z⟩
 keep:=λi h r st k=>st.at λo e=>k p (by simp) o e;item:=by
  intro X Q hw O hc i q s Z H E I y st R;subst Q hw O;obtain⟨n,u⟩:=R;obtain⟨lo,hl,B,A,g,a,x⟩:=nM I n;rw[hd]at a;cases a;have hs:es.size=ps.length:=by have:=congrArg Xm x;simpa using this
  obtain⟨G,J,f2,L,M,N⟩:=y p (by simp);refine tY (I.ok.hd hc) st g (λe r l U sb=>?_) λhn=>by simp at hn;lia
  have I1:Inv X q Z H {s with heap:=r}:=I.turned (t':=s.toks) (λb o j e=>(sb.2 b j).trans e) G J L M N;obtain⟨o,e1,c,d1⟩:=id U;have T:ps[i]?=b0 ps[i]:=Wi u;have ek:e.key=.ref (ps[i]).2.1:=by have:=congrArg (·[i]?) x;simp only[Ws,XO,l,T,WN]at this;exact Wt this
  exact⟨e.key,rfl,n5 (s:={s with heap:=r}) e1 c d1 (by decide) ⟨.ref (ps[i]).2.1,H,I1,ek,⟨rfl,ps[i],T,rfl⟩,U,λb j=>(y b j).1⟩⟩
 done:=by
  intro X Q hw O hc i q s Z H E I y st R;subst Q hw O;obtain⟨n,u⟩:=R;obtain⟨lo,hl,B,A,g,a,x⟩:=nM I n;rw[hd]at a;cases a;have hs:es.size=ps.length:=by have:=congrArg Xm x;simpa using this
  obtain⟨G,J,f2,L,M,N⟩:=y p (by simp);exact tY (I.ok.hd hc) st g (λe r l=>by
   have:=(Z8.mp l).1;lia) λ_ r eb=>⟨rfl,I.turned (t':=s.toks) (λb o j e=>eb b o j e) G J L M N⟩
 self:=λ_ _ _ _ _ st h=>a4q st h
theorem O8{X:Cx}{l tg:Expr}{p:TE}(n:PE X l p):PI X tg l (λσ H R=>p σ H λv a=>∃d k ps,v=.ref d/\a d=b0 (.frz k (aS d ps))/\R (yO d k ps) a):=by
 intro j s σ H R I h;refine aR (n j s σ H _ I h) λv i ⟨y,a,c,z,x⟩=>?_;obtain⟨d,k,ps,e,u,q⟩:=x;subst e;obtain rfl:v=Wx d:=z;obtain⟨w,n,B,A,g,hd,E⟩:=nM c u;refine DL w g ⟨i.heap.objs.size,[i.heap.objs.size],_,_,a,rfl,c.kept (t':=i.toks) λb o e=>Wc _ e,O7 hd,⟨_,Wn _ rfl,rfl,rfl⟩,λb r=>?_,q⟩;have e:b=i.heap.objs.size:=by simpa using r
 subst e;exact c.fpOk (Wh _) (c.hok.fresh (Wh _))
noncomputable def iQ(kvs:jx):List D:=kvs.map λk=>D.tup (k.1.map D.int)
theorem O9{K:V8}{π:Nat->Addr}{n:Nat}{H:Hp}{d:Addr}{h:Obj}{ps:bQ}{kvs:jx}(c:H d=b0 (.frz h (aS d ps)))(T:IsTs K π n H ps kvs):Wk K (yO d h ps) (dS (.tup (iQ kvs))) π n H:=by
 have w:ps.length=kvs.length:=by have:=congrArg Xm T.to.1;simpa using this
 refine⟨λb s j i e R z=>?_,λb s j i k e R z=>?_⟩
 .have a:(iQ kvs)[i]?=none:=Wt z;have:=WZ.mp a;rw[iQ,V7]at this;exact⟨e.frz _ _ _ c,by lia⟩
 .have a:(iQ kvs)[i]?=b0 k:=Wt z;have x:i<kvs.length:=by have:=(Wa.mp a).1;rwa [iQ,V7]at this
  refine⟨⟨e.frz _ _ _ c,by lia⟩,λv u ⟨l,p,o,q⟩=>?_⟩;subst l q;obtain⟨y,g,r⟩:=(T.to.2.1.mono e).get a;rw[Ws,o]at g;cases g;exact⟨.refl,R,r⟩
noncomputable def lZ(m:ME):MI:=λc b=>(m c b).bind λp=>match p.1 with
 |.loc a=>match p.2[a]? with
  |some (.dF kvs)=>b0 (dS (.tup (iQ kvs)),kvs.length+1,p.2)|_=>b3
 |_=>b3
theorem yP{X:Cx}{e:Expr}{m:ME}(h:QE X e m):QJ X e (lZ m):=⟨λtg a6r s σ H R I hw=>by
 obtain⟨z,A,v,u,n,w,i,E,a,k⟩:=hw;obtain⟨⟨x,y⟩,l,a⟩:=V6.mp a;dsimp only at a;split at a
 .split at a
  .rename_i p hc;cases a;refine O8 h.h a6r s σ H R I ⟨z,A,v,_,_,i,E,l,λb B g j c o=>?_⟩;cases o;obtain⟨q,r,d,T⟩:=tW c hc;exact⟨_,q,r,rfl,d,k b g _ j c (O9 d T)⟩
  .cases a
 .cases a⟩
end L3
namespace L3
open PySem L2 PySem.W PyProof.Rows
section
variable{P:WL}{w:WX}{A:WY}{E:Value->Wf->Prop}{s:Wf}
end
end L3
namespace L3
open PySem L2
section
variable{X:Cx}
end
noncomputable def qM(b:Hm):D->Bool
 |.loc a=>match b[a]? with|some (.dT _)=>b5|_=>b4
 |_=>b4
noncomputable def j5(f:D->List D->Hm->jk)(b:ME)(ms:MA):ME:=λa c=>(b a c).bind λp=>match qM p.2 p.1 with
 |true=>(ms a p.2).bind λq=>f p.1 q.1 q.2|false=>b3
noncomputable def yQ(K:V8)(x:V)(H:Hp):Prop:=∃a ps,x=.ref a/\H a=b0 (aS a ps)/\eD K H ps
theorem Pa{K:V8}{π:Nat->Addr}{H:Hp}{b:Hm}{v:V}{x:D}(R:Rp K π H b)(h:IsD K π b.length H v x)(e:qM b x=b5):yQ K v H:=by
 cases h with
 |@loc a i=>
  simp only[qM]at e;split at e
  .rename_i j d;obtain⟨g,c,T⟩:=jB R d;exact⟨_,g,rfl,c,T.keys⟩
  .cases e
 |_=>cases e
section
variable{X:Cx}{e o:Expr}{mo:ME}{to:TE}{t:TA}{apos cpos:XX}{es:List Expr}{ms:MA}{n:Nat}{r:V->gz->Hp->VK->Prop}{f:D->List D->Hm->jk}{name:Str}{id:String}
theorem Pb(p:Slot "dict" name id) (y:a6h (.builtin id)=pure (.type "method_descriptor")) (O:jQ X id r)(R:PE X o to)(M:PA X (e::es) t)(i:ZF o name X.env (eval o X.env)=eval o X.env)
  (l:((YG cpos (WU (e::es) X.env)).all (λx=>!x.1)&&(a2R cpos (a1d [] X.env)).all (λx=>x.1.isSome)&&decide ((e::es).length+([]:List Zv).length+(if([]:List Zv).isEmpty then 0 else 1)<30))=b5)
  (j:(apos.endLine==cpos.line)=b5)(T:WU (e::es) X.env=(b4,eval e X.env)::WU es X.env)(c:(YG cpos (WU es X.env)).any (·.1)=b4) :
  PE X (.Call (.Attribute o name apos) (e::es) [] cpos) (λk H Q=>to k H λx q=>yQ X.K x q/\t k q λu w=>r x u w Q):=by
 intro d s k H Q I h;refine a3K i l j rfl (aR (R d s k H _ I h) λv s1 ⟨x,q,A,Z,ty,U⟩=>?_);obtain⟨a,ps,rfl,J,N⟩:=ty;obtain rfl:v=Wx a:=Z;obtain⟨lo,hl,u,ep,g,_⟩:=tZ A J N;refine⟨"dict",id,a0f,p,y,g.ty,λb G=>?_,?_⟩
 .cases G;obtain⟨z,K,L,_⟩:=g;exact⟨z,K,L.2.1⟩
 have B:=M cpos d s1 k q _ A U;rw[T]at B ⊢;refine ZI (by show(b4||(YG cpos (WU es X.env)).any (·.1))=b4;rw[c]<;>rfl) (a2Y ?_);exact aR B λus s2 ⟨u,w,E,r2,Y⟩=>O d s2 k w (.ref a) u _ us Q E rfl r2 Y
theorem Pc{K:V8}(A:jA K f r):∀σ H Q,tM K (j5 f mo ms) σ H Q->tM K mo σ H λx g=>yQ K x g/\tMA K ms σ g λvs h=>r x vs h Q:=by
 rintro σ H Q ⟨L,w,J,d,i,R,E,a,k⟩;obtain⟨⟨x,b⟩,y,a⟩:=V6.mp a;dsimp only at a;split at a
 .rename_i B;obtain⟨⟨v,c⟩,z,a⟩:=V6.mp a;refine⟨L,w,J,x,b,R,E,y,λj I g q p u=>⟨Pa p u B,j,w,b,v,c,p,E.mono q,z,λl vs h s R2 G=>?_⟩⟩;exact A l h c x v d i I vs Q R2 (u.mono s) G a (k.after (q.trans s))
 .cases a
theorem D8(c:Slot "dict" name id) (d:a6h (.builtin id)=pure (.type "method_descriptor")) (j:jQ X id r)(h:jA X.K f r)
  (l:QE X o mo)(g:QA X (e::es) ms n)(p:lU o=b5)(i:(apos.endLine==cpos.line)=b5)(k:(e::es).length<30):QE X (.Call (.Attribute o name apos) (e::es) [] cpos) (j5 f mo ms):=by
 have b:=g.s;have a:=b;rw[W3,Wl]at a;exact⟨dH (Pb c d j l.h g.h (nB p) (C5 b k) i (fQ a.1) (lR a.2)) (Pc h)⟩
end
noncomputable def l6:D->List D->Hm->jk
 |.loc a,[y,z],μ=>match μ[a]? with
  |some (.dT kvs)=>(cR y).map λk=>((a8 kvs k).getD z,μ)|_=>b3
 |_,_,_=>b3
noncomputable def D9(K:V8):V->gz->Hp->VK->Prop:=λx vs H Q=>∃a b ps k z,x=.ref a/\vs=[.ref b,z]/\H a=b0 (aS a ps)/\eD K H ps/\SqT K H b (k.map V.int)/\Q ((eJ ps k).getD z) H
theorem Pd{K:V8}:jA K l6 (D9 K):=by
 intro w H B x A d u v z Q R n c a k;unfold l6 at a;split at a
 .split at a
  .rename_i q hc;obtain⟨h,j,a⟩:=Wb.mp a;cases a;cases n;cases c with
   |cons o t=>
    cases t with
    |cons p t=>
     cases t;obtain⟨r,i,T⟩:=jB R hc;obtain⟨b,rfl,l⟩:=lY o j;refine⟨_,b,r,h,_,rfl,rfl,i,T.keys,l,k w _ H .refl R ?_⟩;rcases T.val h with⟨e,g⟩|⟨v,y,e,g,s⟩
     .rw[e,g];exact p
     .rw[e,g];exact s
  .cases a
 .cases a
theorem Pe{X:Cx}(A:X.A.units+1<XM):jQ X "dict.get" (D9 X.K):=by
 intro n s O H x M v L Q I G E h;obtain⟨a,b,g,k,z,rfl,rfl,e,p,o,q⟩:=h;cases G;obtain⟨u,J,rfl,B,i⟩:=E.two;obtain rfl:u=Wx b:=B;obtain⟨w,K,l,r,d⟩:=j4 I (.of e) p;refine a0L a2s d.typeIs PySem.F.entry_dict_get (PySem.F.args_dict_get_3 _ _ _) (meetsH_dict_get_default (ZN (Y3 X.prog X.w)) a b w J) ⟨oU A,k,_,jZ I o,d,?_⟩;refine⟨(eJ g k).getD z,H,I.tok _,?_,q⟩;have:=nH r k;cases j:eJ g k with
 |none=>
  rw[j]at this;cases c:(a1f (b7 g l) k).map (·.2)with
  |none=>exact i|some y=>rw[c]at this;exact this.elim
 |some N=>
  rw[j]at this;cases c:(a1f (b7 g l) k).map (·.2)with
  |none=>rw[c]at this;exact this.elim|some y=>rw[c]at this;exact this
section
variable{P:WL}{w:WX}{K:Type} [DecidableEq K] {knd:HeapKind P w K}{A:WY}{E:Value->Wf->Prop}{s:Wf}{d a:Addr}{k:K}{xs:List (K×Addr×Value)}
theorem Pf{v:Value}{Q:Value->Wf->Prop}(B:knd.room A)(r:knd.is s.heap k a)(J:s.heap.DictOfH knd d xs)(hz:xs.length<=Wq)
  (h1:∀p,a1f xs k=b0 p->Q p.2 {s with toks:=s.toks+knd.draws k})(I:a1f xs k=b3->∀q,q.DictOfH knd d (a5e xs k a v)->YU d s.heap q->Q v {s with heap:=q,toks:=s.toks+knd.draws k}) :
  WI (WM P w) A (a2Q d (.ref a) v) Q E s:=by
 obtain⟨o,L,H,g,hc,hd,n,h,u⟩:=id J;unfold a2Q;refine Xb (V9 (knd.pyHash B r (V9 (wpAny_dictFind_heap (s:={s with toks:=s.toks+knd.draws k}) B r g hd n h u (λi=>?_) λj p z=>?_))))
 .have b:=atKey_none_of_get i;have l:k∉xs.map (·.1):=not_mem_keys_of_get i;refine V9 (a0k (V9 (wpAny_updateDictKeys (hz:=by have e:=size_of_entries n;lia) (s:={s with toks:=s.toks+knd.draws k}) g hd (Wg (I b _ ⟨_,_,H+1,Xv _ g (Obj.isFreed_of_dict (a3q hd _)),hc.mapDictKeys _,a3q hd _,?_,λx c=>?_,?_⟩ (YC ..))))))
  .rw[a4r b];simp[n,a4Q]
  .rw[a4r b]at c;rcases WK.mp c with c|c
   .exact knd.keeps (h x c) g hd (YC ..)
   .rw[WB]at c;subst c;exact knd.keeps r g hd (YC ..)
  .rw[a4r b,WE,Y4];exact⟨u,by simp,λx c y G e=>by
    simp only[WA,a2H,WB]at G;subst G;exact l (e▸c)⟩
 .refine V9 (Ze (s:={s with toks:=s.toks+knd.draws k}) g hd ?_);rw[entry_at n j,z];exact V9 (a0k (Wg (h1 _ (atKey_of_get u z))))
theorem Pg(knd:HeapKind P w K)(d a:Addr)(hd:(d==XB)=b4)(v:Value):MeetsIn P w (Builtin.«dict.setdefault» ⟨[.ref d,.ref a,v],[]⟩) (λA R s=>knd.room A.in1/\∃k xs,knd.is s.heap k a/\s.heap.DictOfH knd d xs/\xs.length<=Wq /\
   (∀p,a1f xs k=b0 p->R (.ok (.ret p.2)) {s with toks:=s.toks+knd.draws k})/\(a1f xs k=b3->∀b,b.DictOfH knd d (a5e xs k a v)->YU d s.heap b->R (.ok (.ret v)) {s with heap:=b,toks:=s.toks+knd.draws k})):=
 .of_wp λA R s ⟨o,k,xs,j,g,q,h,i⟩=>by unfold Builtin.«dict.setdefault»;refine V9 ?_;unfold a6b;refine V9 (ZU g.typeIs (Wg ?_));show WI _ _ (if(d==XB)=b5 then _ else(a2Q d (.ref a) v >>= _)) _ _ s;rw[if_neg (by rw[hd];exact Wj)];exact V9 (Pf o j g q (λp n=>Wg ⟨_,rfl,h p n⟩) λl b c e=>Wg ⟨v,rfl,i l b c e⟩)
end
noncomputable def f6:D->List D->Hm->jk
 |.loc a,[y,z],μ=>match μ[a]? with
  |some (.dT kvs)=>(cR y).bind λk=>match a8 kvs k with
   |some d=>b0 (d,μ)|none=>if kvs.length<Wq then b0 (z,μ.set a (.dT (b9 kvs k z)))else b3
  |_=>b3
 |_,_,_=>b3
noncomputable def Ea(K:V8):V->gz->Hp->VK->Prop:=λx vs H Q=>∃a b ps k z,x=.ref a/\vs=[.ref b,z]/\H a=b0 (aS a ps)/\eD K H ps/\SqT K H b (k.map V.int)/\((∃v,eJ ps k=b0 v/\Q v H)\/(eJ ps k=b3/\ps.length<Wq/\Q z (aK H a (aS a (eP ps k b z)))))
theorem Ph{K:V8}:jA K f6 (Ea K):=by
 intro r H M x L d E v J Q R z h a k;unfold f6 at a;split at a
 .split at a
  .rename_i e hc;obtain⟨c,w,a⟩:=V6.mp a;cases z with
   |loc g=>
    cases h with
    |cons A t=>
     cases t with
     |cons q t=>
      cases t;obtain⟨i,n,T⟩:=jB R hc;obtain⟨b,rfl,p⟩:=lY A w;refine⟨_,b,i,c,_,rfl,rfl,n,T.keys,p,?_⟩;have y:i.length=e.length:=by have:=congrArg Xm T.to.1;simpa using this
      rcases T.val c with⟨j,l⟩|⟨v,G,j,l,B⟩
      .rw[l]at a;dsimp only at a;split at a
       .rename_i I;cases a;have u:=T.put c p q;obtain⟨o,s⟩:=R.put (c:=.dT (b9 e c d)) (o:=aS _ (eP i c b _)) g n (.inr (.inr ⟨_,rfl⟩)) ⟨_,rfl,u.to⟩;exact .inr ⟨j,by lia,k r _ _ o s (q.mono o)⟩
       .cases a
      .rw[l]at a;cases a;exact .inl ⟨v,j,k r _ H .refl R B⟩
  .cases a
 .cases a
theorem Pj{X:Cx}(N:X.A.units+1<XM):jQ X "dict.setdefault" (Ea X.K):=by
 intro y s σ H x vs v us Q I Y U h;obtain⟨a,b,o,k,z,rfl,rfl,e,J,E,q⟩:=h;cases Y;obtain⟨u,Z,rfl,T,i⟩:=U.two;obtain rfl:u=Wx b:=T;obtain⟨n,hl,ws,r,d⟩:=j4 I (.of e) J;have O:(b7 o ws).length<=Wq:=by have:=congrArg Xm (nG r);rw[V7,V7]at this;lia
 have c:=nH r k;refine a0L a1p d.typeIs PySem.F.entry_dict_setdefault (PySem.F.args_dict_setdefault_3 _ _ _) (Pg (ZN (Y3 X.prog X.w)) a b n Z) ⟨oU N,k,_,jZ I E,d,O,λp L=>?_,λK B j l=>?_⟩
 .rw[L]at c;rcases q with⟨w,g,q⟩|⟨g,_⟩
  .rw[g]at c;exact⟨w,H,I.tok _,c,q⟩
  .rw[g]at c;exact c.elim
 .rw[K]at c;rcases q with⟨w,g,q⟩|⟨g,hz,q⟩
  .rw[g]at c;exact c.elim
  .obtain⟨ws',R,A⟩:=yJ r k b i;rw[A]at j;have G:∃q,B.get? a=b0 q:=let⟨q,_,_,M,_⟩:=j;⟨q,M⟩;exact⟨z,_,wK I (by rw[e];exact Zb) l G (tV n (by have:=tU o k b z;lia) R j),i,q⟩
section
variable{P:WL}{w:WX}{A:WY}{E:Value->Wf->Prop}{s:Wf}
end
section
variable{X:Cx}
end
noncomputable abbrev qN:=List (List Int×Addr×Value)
inductive Hits (A:WY)(s:Wf)(ys:qN):qN->Bool->Prop
 |nil:Hits A s ys [] b5
 |miss {x:List Int×Addr×Value}{r:qN}:a1f ys x.1=b3->Hits A s ys (x::r) b4
 |hit {x:List Int×Addr×Value}{p:Addr×Value}{r:qN}{e b:Bool}:a1f ys x.1=b0 p->Zr A s x.2.2 p.2 e->Hits A s ys r b->Hits A s ys (x::r) (e&&b)
section
variable{P:WL}{w:WX}{A:WY}{E:Value->Wf->Prop}{s:Wf}{a b:Addr}{xs ys:qN}{r:Bool}
end
section
variable{X:Cx}{a b:Expr}{ma mb:ME}{pos:XX}{k:Nat}
end
noncomputable abbrev yR(n:Nat):Prop:=n<64
section
variable{X:Cx}{a6r:jw}{σ:St}{H H':Hp}{s:Wf}{h':Xo}
theorem Pk{t':Nat}(I:Inv X a6r σ H s)(k:∀b u,s.heap.get? b=b0 u->h'.get? b=b0 u)(old:∀b,b<s.heap.objs.size->H' b=H b)(new:∀b o,s.heap.objs.size<=b->H' b=b0 o->ObjOk X.prog X.w H' h' b o) :
  Inv X a6r σ H' {s with heap:=h',toks:=t'}:=by
 have lt:∀b u,H b=b0 u->b<s.heap.objs.size:=λb u e=>Nat.lt_of_not_le λz=>by rw[I.hok.fresh z]at e;cases e
 have a:∀b u,H b=b0 u->H' b=b0 u:=λb u e=>by rw[old b (lt b u e)];exact e
 refine I.un ⟨λb u q _ _ _=>k b u q,λb u q _ _ _=>⟨u.slots,k b u q⟩,λb u q n _=>by rw[old b (Wm q)];exact n,λb u q _=>⟨u,k b u q⟩,λb g q=>a b _ q,λb u g q=>a b _ q,λb h q=>⟨#[],by rw[a b _ q];simp⟩⟩ λb u e=>?_;by_cases d:b<s.heap.objs.size
 .rw[old b d]at e;exact(I.hok b u e).stay (λc v _ q=>k c v q) (λc q=>a c _ q) λc g q=>a c _ q
 .exact new b u (a4z d) e
noncomputable def fR(H:Hp):List Addr->bQ->Hp
 |a::as,p::ps=>fR (aK H a (.tup [.ref p.2.1,p.2.2])) as ps|_,_=>H
theorem nN:∀{as:List Addr}{ps:bQ}{H:Hp}{b:Addr},b∉as->fR H as ps b=H b
 |[],_,_,_,_=>by simp[fR]
 |a::as,[],_,_,_=>rfl|a::as,p::ps,H,b,h=>by rw[WW,not_or]at h;show fR (aK H a _) as ps b=H b;rw[nN h.2,bJ h.1]
theorem uA:∀{as:List Addr}{ps:bQ}{H:Hp}{i:Nat}{a:Addr}{p:List Int×Addr×V},as.Nodup->as[i]?=b0 a->ps[i]?=b0 p->fR H as ps a=b0 (.tup [.ref p.2.1,p.2.2])
 |[],_,_,_,_,_,_,h,_=>by simp at h
 |_::_,[],_,_,_,_,_,_,h=>by simp at h
 |x::as,y::ps,H,0,a,p,nd,h1,h2=>by
  obtain rfl:x=a:=by simpa using h1
  obtain rfl:y=p:=by simpa using h2
  rw[Xi]at nd;show fR (aK H x _) as ps x=_;rw[nN nd.1,cP]
 |x::as,y::ps,H,i+1,a,p,nd,h1,h2=>by rw[Xi]at nd;exact uA (as:=as) (ps:=ps) (i:=i) nd.2 (by simpa using h1) (by simpa using h2)
noncomputable def cH(ps:bQ):List Nat:=cW (λi j=>HT.lexLt ((ps.map (·.1)).getD i []) ((ps.map (·.1)).getD j [])) ps.length
noncomputable def fI(as:List Addr)(ps:bQ):gz:=(cH ps).map λi=>V.ref (as.getD i 0)
theorem Pl(hc:X.calm=b5)(hun:X.A.units+64<XM)(I:Inv X a6r σ H s){d r:Addr}{ps:bQ}{Q:VK}(e:H d=b0 (aS d ps))(hk:eD X.K H ps)(N:yR ps.length)(hv:s.heap.IsItemsView r d)
  (k:∀(as:List Addr)(L l:Addr),as.length=ps.length->(l::L::as).Nodup->(∀a∈l::L::as,H a=b3)->Q (.ref l) (aK (aK (fR H as ps) L (.lst (fI as ps))) l (.tup (fI as ps)))) :
  WI (WM X.prog X.w) X.A (call (.builtin "sorted") [.ref r]) (λv s'=>WI (WM X.prog X.w) X.A (call (.type "tuple") [v]) (EP X a6r σ Q) X.xe s') X.xe s:=by
 obtain⟨lo,hl,ws,rv,z,es,ep,z1,z2,z3,z4,z5,z6⟩:=j4 I (.of e) hk;have hwl:ws.length=ps.length:=by have:=rv.length;rw[V7]at this;exact this.symm
 have hxl:(b7 ps ws).length=ps.length:=by unfold b7;rw[List.length_zipWith,hwl,Nat.min_self]
 have A:es.size=ps.length:=by rw[<- YK,z4,V7,hxl]
 have nd:(ps.map (·.1)).Nodup:=by rw[nG rv]at z6;exact z6
 have M:∀(j:Nat)(q:DictEntry),es[j]?=b0 q->∃p u,ps[j]?=b0 p/\ws[j]?=b0 u/\q.key=.ref p.2.1/\q.val=u:=λj q h=>by
  rw[<- XO,z4,Ws]at h;obtain⟨x,w,rfl⟩:=Wb.mp h;unfold b7 at w;rw[a2X]at w;cases B:ps[j]? with
  |none=>rw[B]at w;simp at w|some p=>
   cases hw:ws[j]? with
   |none=>rw[B,hw]at w;simp at w|some u=>
    rw[B,hw]at w;have:(p.1,p.2.1,u)=x:=by simpa using w
    subst this;exact⟨p,u,rfl,rfl,rfl,rfl⟩
 have N:ps.length<64:=N;refine O3 (an:=λi j=>HT.lexLt ((ps.map (·.1)).getD i []) ((ps.map (·.1)).getD j [])) (I.ok.hd hc) hv ⟨z,z1,z2,z3⟩ (by lia) (λh22 Z K as kp Y J=>?_) (λZ K as L q kp Y J hL nL gL=>?_)
 .have I3:Inv X a6r σ H {s with heap:=Z,toks:=K}:=I.kept (t':=K) kp;refine O2 (A:=X.A.in1.in1) (s:={s with heap:=Z,toks:=K}) (bs:=ps.map (·.2.1)) (ks:=ps.map (·.1)) (by show X.A.units+1+1<XM;lia) J (by lia) Y (by rw[V7,A]) (by rw[V7,A]) (λj q y=>?_) nd;obtain⟨p,u,G,p2,p3,p4⟩:=M j q y;have n:j<ps.length:=(Wa.mp G).1;have g:(ps.map (·.2.1)).getD j 0=p.2.1:=by simp[Xx,G]
  have ek:(ps.map (·.1)).getD j []=p.1:=by simp[Xx,G]
  rw[g,ek];have sq:=hk p (WS G);refine⟨p3,jZ I3 sq,?_⟩;obtain⟨xs,rx,t,_⟩:=I3.tuple sq;exact⟨xs,t,Nw rx⟩
 .rw[A]at gL Y;have E:as.Nodup:=J.up.imp λh=>WD h;have hin:∀i∈cH ps,i<ps.length:=λi hi=>Xn.mp ((jY _ _).mem_iff.mp hi);have U:(cH ps).length=ps.length:=by have:=(jY (λi j=>HT.lexLt ((ps.map (·.1)).getD i []) ((ps.map (·.1)).getD j [])) ps.length).length_eq;rw[Xy]at this;exact this
  have nLa:L∉as:=λh=>nL L h rfl;have I1:Inv X a6r σ (aK (fR H as ps) L (.lst (fI as ps))) {s with heap:=Z,toks:=K}:=by
   refine Pk (t':=K) I kp (λb hb=>?_) λb o hb g=>?_
   .rw[bJ (WD (WT hb hL)),nN λh=>Nat.lt_asymm hb (J.over b h)]
   .by_cases R:b=L
    .subst R;rw[cP]at g;cases g;refine⟨by unfold fI;rw[V7,U];exact hl,(cH ps).map λi=>Wx (as.getD i 0),q,?_,gL⟩;unfold fI;exact D3 λi _=>rfl
    .rw[bJ R]at g;by_cases T:b∈as
     .obtain⟨j,y⟩:=YZ.mp T;have n:j<ps.length:=by have:=(Wa.mp y).1;lia
      have B:ps[j]?=b0 ps[j]:=Wi n;rw[uA E y B]at g;cases g;obtain⟨x,x1,x2⟩:=J.prs j _ y;obtain⟨p,u,G,p2,p3,p4⟩:=M j x x1;rw[B]at G;cases G;obtain⟨u',g1,g2⟩:=rv.get (i:=j) (x:=ps[j].2.2) (by rw[Ws,B];rfl);rw[p2]at g1;cases g1;rw[p3,p4]at x2;exact⟨by show(2:Nat)<=Wq;decide,[.ref ps[j].2.1,u],.cons rfl (.cons g2 .nil),_,x2,rfl,0,rfl,rfl⟩
     .rw[nN T,I.hok.fresh hb]at g;cases g
  refine BU a6r _ σ _ [.ref L] [.ref L] Q I1 (.cons rfl .nil) ⟨L,fI as ps,rfl,.inl ⟨.inl (.inl cP),λl c=>?_⟩⟩;have lL:l≠L:=λh=>by rw[h,cP]at c;cases c
  rw[bJ lL]at c;have la:l∉as:=λh=>by
   obtain⟨j,y⟩:=YZ.mp h;have n:j<ps.length:=by have:=(Wa.mp y).1;lia
   rw[uA E y (Wi n)]at c;cases c
  rw[nN la]at c;refine k as L l Y ?_ λa O=>?_
  .rw[Xi,Xi];exact⟨λh=>(WW.mp h).elim lL la,nLa,E⟩
  .rcases WW.mp O with rfl|O
   .exact c
   rcases WW.mp O with rfl|O
   .exact I.hok.fresh hL
   .exact I.hok.fresh (Z5 (J.over a O))
end
noncomputable def qO(k:List Int×D):D:=.tup [.tup (k.1.map D.int),k.2]
noncomputable def uB:D->Hm->jk
 |.loc a,μ=>match μ[a]? with
  |some (.dT kvs)=>if yR kvs.length then b0 (.tup ((t8 kvs).map qO),μ)else b3|_=>b3
 |_,_=>b3
noncomputable def uC(m:ME):ME:=λb a=>(m b a).bind λr=>uB r.1 r.2
noncomputable def Eb(K:V8):V->Hp->VK->Prop:=λx H Q=>∃a ps,x=.ref a/\H a=b0 (aS a ps)/\eD K H ps/\yR ps.length /\
 ∀(as:List Addr)(L l:Addr),as.length=ps.length->(l::L::as).Nodup->(∀a∈l::L::as,H a=b3)->Q (.ref l) (aK (aK (fR H as ps) L (.lst (fI as ps))) l (.tup (fI as ps)))
section
variable{X:Cx}{o:Expr}{to:TE}{apos cpos p p2 pos pos2:XX}
theorem Pm(hc:X.calm=b5)(y:X.A.units+64<XM)(u:X.mg "sorted"=b3) (w:X.mg "tuple"=b3) (n:Gl X "sorted") (r:Gl X "tuple") (R:PE X o to)
  (c:ZF o "items" X.env (eval o X.env)=eval o X.env) (d:(apos.endLine==cpos.line)=b5) :
  PE X (.Call (.Name "tuple" p) [.Call (.Name "sorted" p2) [.Call (.Attribute o "items" apos) [] [] cpos] [] pos2] [] pos) (λj H Q=>to j H λx k=>Eb X.K x k Q):=by
 intro i s j H Q I h;refine Yo (iF I r w ZG ?_);refine Xw ?_ rfl rfl;refine Z7 ?_;refine Yo (iF I n u a0u ?_);refine a0E ?_ rfl rfl;refine Z7 ?_;refine a3x c d (aR (R i s j H _ I h) λv A ⟨x,k,B,Y,a,ps,M,e,E,l,q⟩=>?_);subst M;obtain rfl:v=Wx a:=Y;obtain⟨U,hl,L,K,g,Z⟩:=tZ B e E;refine⟨"dict","dict.items",a0f,Zn,a2a,g.ty,λb J=>?_,ZI rfl (a3b ?_)⟩
 .cases J;obtain⟨z,N,O,_⟩:=g;exact⟨z,N,O.2.1⟩
 refine a0L Zn g.ty a1R (a1J _) (D2 a U) ⟨⟨L,K,g⟩,?_⟩;refine a0e ?_;have G:Inv X i j k {A with heap:=A.heap.push {cls:=.type "dict_items",data:=.fields #[.ref a]}}:=B.kept (t':=A.toks) λb o e=>Wc _ e;refine aR (Pl hc y G e E l ⟨_,Wn _ rfl,rfl,rfl⟩ q) λv s' T=>a0e T
end
theorem Ec{K:V8}{π:Nat->Addr}{c:Hm}:∀{as:List Addr}{ps:bQ}{H:Hp},Rp K π H c->as.Nodup->(∀a∈as,H a=b3)->Ext π c.length H π c.length (fR H as ps)/\Rp K π (fR H as ps) c
 |[],_,H,R,_,_=>by simp only[fR];exact⟨.refl,R⟩
 |a::as,[],H,R,_,_=>⟨.refl,R⟩|a::as,p::ps,H,R,nd,hf=>by
  rw[Xi]at nd;obtain⟨g,e⟩:=R.fresh (o:=.tup [.ref p.2.1,p.2.2]) (hf a (Xd ..));obtain⟨h,R2⟩:=Ec (as:=as) (ps:=ps) e nd.2 λb d=>by rw[bJ (λw:b=a=>nd.1 (w▸d))];exact hf b (WV _ d)
  exact⟨g.trans h,R2⟩
theorem Pn{K:V8}{X:ME}:∀σ H Q,tM K (uC X) σ H Q->tM K X σ H λx n=>Eb K x n Q:=by
 rintro σ H Q ⟨π,ρ,μ,d,o,R,E,g,k⟩;obtain⟨⟨x,B⟩,h1,g⟩:=V6.mp g;refine⟨π,ρ,μ,x,B,R,E,h1,λh v1 n e1 G i1=>?_⟩;have k1:=k.after e1;dsimp only at g;unfold uB at g;split at g
 .split at g
  .rename_i b hc;split at g
   .rename_i hb;cases g;cases i1;obtain⟨c,e2,T⟩:=jB G hc;have U:c.length=b.length:=by have:=congrArg Xm T.to.1;simpa using this
    refine⟨_,c,rfl,e2,T.keys,by rw[U];exact hb,λe L l al nd v=>?_⟩;rw[Xi,Xi]at nd;obtain⟨I,Z⟩:=Ec (ps:=c) G nd.2.2 λa ha=>v a (WV _ (WV _ ha));have hL:fR n e c L=none:=by rw[nN nd.2.1];exact v L (WV _ (Xd ..))
    obtain⟨J,R4⟩:=Z.fresh (o:=.lst (fI e c)) hL;have hl:aK (fR n e c) L (.lst (fI e c)) l=none:=by rw[bJ (λw:l=L=>nd.1 (by rw[w];exact Xd ..)),nN λw=>nd.1 (WV _ w)];exact v l (Xd ..)
    obtain⟨M,R5⟩:=R4.fresh (o:=.tup (fI e c)) hl;refine k1 h _ _ ((I.trans J).trans M) R5 (.tup (.of cP) ?_);have z:c.map (·.1)=b.map (·.1):=T.to.1;have A:∀p:List Nat,(∀i∈p,i<b.length)->IsDs K h o.length (aK (aK (fR n e c) L (.lst (fI e c))) l (.tup (fI e c))) (p.map λi=>V.ref (e.getD i 0)) (p.map (qO∘λi=>b.getD i ([],.non))):=λp r=>by
     induction p with
     |nil=>exact .nil|cons i p ih=>
      have s:=r i (Xd ..);have q:e[i]?=b0 (e.getD i 0):=by simp[Xx,show i<e.length by lia]
      have y:c[i]?=b0 c[i]:=Wi (by lia);have hik:b[i]?=b0 b[i]:=Wi s;have N:b.getD i ([],.non)=b[i]:=by simp[Xx,s]
      have ep:c.getD i ([],0,.non)=c[i]:=by simp[Xx,show i<c.length by lia]
      have Y:=O4 T ([],0,.non) ([],.non) i (by lia);rw[ep,N]at Y;obtain⟨q1,q2,q3⟩:=Y;refine .cons ?_ (ih λj hj=>r j (WV _ hj));have u:aK (aK (fR n e c) L (.lst (fI e c))) l (.tup (fI e c)) (e.getD i 0)=b0 (.tup [.ref c[i].2.1,c[i].2.2]):=by have g:=WS q;rw[bJ (λw:e.getD i 0=l=>nd.1 (by rw[<- w];exact WV _ g)),bJ (λw:e.getD i 0=L=>nd.2.1 (by rw[<- w];exact g))];exact uA nd.2.2 q y
      show IsD K h o.length _ (.ref (e.getD i 0)) (qO (b.getD i ([],.non)));rw[N];have O:=(I.trans J).trans M;have ik:IsD K h o.length n (.ref c[i].2.1) (.tup (b[i].1.map D.int)):=by rw[<- q1];exact .tup q2 (yA _)
      exact .tup (.of u) (.cons (ik.mono O) (.cons (q3.mono O) .nil))
    have ey:fI e c=(cW (λi j=>HT.lexLt ((b.map (·.1)).getD i []) ((b.map (·.1)).getD j [])) b.length).map λi=>V.ref (e.getD i 0):=by unfold fI cH;rw[z,U]
    have fin:=A (cW (λi j=>HT.lexLt ((b.map (·.1)).getD i []) ((b.map (·.1)).getD j [])) b.length) λi s=>Xn.mp ((jY _ _).mem_iff.mp s);rw[<- ey]at fin;unfold t8;rw[WC];exact fin
   .cases g
  .cases g
 .cases g
theorem Po{X:Cx}{o:Expr}{j:ME}{a b p q pos c:XX}(hc:X.calm=b5)(i:X.A.units+64<XM)(g:X.mg "sorted"=b3) (h:X.mg "tuple"=b3) (d:Gl X "sorted") (e:Gl X "tuple") (l:QE X o j)(n:lU o=b5)(k:(a.endLine==b.line)=b5) :
  QE X (.Call (.Name "tuple" p) [.Call (.Name "sorted" q) [.Call (.Attribute o "items" a) [] [] b] [] c] [] pos) (uC j):=
 ⟨dH (Pm hc i g h d e l.h (nB n) k) Pn⟩
section
variable{P:WL}{w:WX}{A:WY}{E:Value->Wf->Prop}{s:Wf}{d it:Addr}{i ep:Nat}{es:Array DictEntry}{ok ov:Value}
theorem Ee{Q:Option Value->Wf->Prop}(h:A.handled=b3)(j:IsItemIter s.heap it d i es.size ep ok ov)(g:RawD s.heap d es ep)
  (n:∀e a,es[i]?=b0 e->a1A a it d (i+1) es.size ep e.key e.val s.heap.objs.size->a.get? s.heap.objs.size=b0 {cls:=.type "tuple",data:=.seq #[e.key,e.val]}->
   (∀b o,b≠it->s.heap.get? b=b0 o->a.get? b=b0 o)->Q (b0 (.ref s.heap.objs.size)) {s with heap:=a})
  (p:es[i]?=b3->∀a,a0J it s.heap a->Q b3 {s with heap:=a}):WI (WM P w) A (Y2 (.ref it)) Q E s:=
 yN (S:=d) h j (.inl rfl) g g.lt (λe a c _ o l _ k=>n e a c (o rfl) l k) p
end
noncomputable def yS(d:Addr)(a:Obj)(ps:bQ):It:=⟨λi H=>H d=b0 (.frz a (aS d ps))/\i<ps.length,λi H x b=>∃t p,x=.ref t/\H t=b3/\ps[i]?=b0 p/\b=aK H t (.tup [.ref p.2.1,p.2.2]),λi H=>H d=b0 (.frz a (aS d ps))/\ps.length<=i⟩
theorem Pp{P:WL}{w:WX}{K:V8}{el:List Expr}{kx:Nat}{pt:XX}{d j:Addr}{ob:Obj}{ps:bQ}{es:Array DictEntry}{ep:Nat}(hd:ob.data=.dict es ep):Turn Qc P w K (.Tuple el kx pt) (yS d ob ps) [j] j (λi h=>∃ok q,IsItemIter h j d i es.size ep ok q) where
 mem:=by simp
 obj:=λi h ⟨ok,q,st⟩ b p=>by
  have e:b=j:=by simpa using p
  subst e;exact⟨_,st,λv z=>by
   have z':Xf _=a0n v:=z;cases z'⟩
 keep:=λi h R ⟨ok,q,st⟩ k=>⟨ok,q,k j (by simp) _ st⟩;item:=by
  intro X U hw T hc i M s σ H E I J ⟨ok,q,st⟩ Z;subst U hw T;obtain⟨n,y⟩:=Z;obtain⟨lo,hl,O,N,g,a,L⟩:=nM I n;rw[hd]at a;cases a;obtain⟨_,_,es2,ep2,_,x,he⟩:=O6 I n;rw[hd]at x;cases x;have hs:es.size=ps.length:=by have:=congrArg Xm L;simpa using this
  refine Ee (I.ok.hd hc) st g (λe R l a1 a2 a3=>⟨_,rfl,wpAny_letOwnedTupleGo_items a1 λh2 b1 G=>?_⟩) λhn=>by simp at hn;lia
  have hp:ps[i]?=b0 ps[i]:=Wi y;have ek:e.key=.ref (ps[i]).2.1:=by have:=congrArg (·[i]?) L;simp only[Ws,XO,l,hp,WN]at this;exact Wt this
  obtain⟨u,u1,u2⟩:=he.get (i:=i) (x:=ps[i].2.2) (by rw[Ws,hp];rfl);rw[Ws,XO,l]at u1;cases u1;have B:j<s.heap.objs.size:=Wm st;have ht2:h2.get? s.heap.objs.size=b0 {cls:=.type "tuple",data:=.seq #[e.key,e.val]}:=(G.2 _ (XR B)).trans a2;have Y:H s.heap.objs.size=none:=I.hok.fresh (Wh _);refine⟨.ref s.heap.objs.size,aK H s.heap.objs.size (.tup [.ref (ps[i]).2.1,(ps[i]).2.2]),?_,rfl,⟨_,ps[i],rfl,Y,hp,rfl⟩,⟨_,_,b1⟩,λc p=>?_⟩
  .refine yE (s:=s) (h':=h2) (t':=s.toks) (ch:=[j]) I (λc oc p ec=>?_) J (Wh _) ?_
   .have r:c≠j:=by simpa using p
    exact(G.2 c r).trans (a3 c oc r ec)
   .exact⟨by show(2:Nat)<=Wq;decide,[e.key,e.val],.cons ek (.cons u2 .nil),_,ht2,rfl,0,rfl,rfl⟩
  .rw[bJ]
   .exact(J c p).1
   .have e:c=j:=by simpa using p
    rw[e];exact WD B
 done:=by
  intro X U hw T hc i M s σ H E I J ⟨ok,q,st⟩ Z;subst U hw T;obtain⟨n,y⟩:=Z;obtain⟨lo,hl,O,N,g,a,L⟩:=nM I n;rw[hd]at a;cases a;have hs:es.size=ps.length:=by have:=congrArg Xm L;simpa using this
  obtain⟨f0,f1,f2,f3,f4,f5⟩:=J j (by simp);exact Ee (I.ok.hd hc) st g (λe R l=>by
   have:=(Z8.mp l).1;lia) λ_ R eb=>⟨rfl,I.turned (t':=s.toks) (λb o p e=>eb b o p e) f0 f1 f3 f4 f5⟩
 self:=λA i s Q E ⟨ok,q,st⟩ h=>PySem.W.kcp_self st h
theorem Pq{X:Cx}{l:Expr}{G:List Expr}{L:Nat}{pt:XX}{M:TE}{a c:XX}(K:PE X l M)(j:ZF l "items" X.env (eval l X.env)=eval l X.env) (k:(a.endLine==c.line)=b5) :
  PI X (.Tuple G L pt) (.Call (.Attribute l "items" a) [] [] c) (λr H R=>M r H λv n=>∃d A B,v=.ref d/\n d=b0 (.frz A (aS d B))/\R (yS d A B) n):=by
 intro i s r H R I h;refine a3x j k (aR (K i s r H _ I h) λv p ⟨y,n,E,r1,q1⟩=>?_);obtain⟨d,A,B,e,J,q⟩:=q1;subst e;obtain rfl:v=Wx d:=r1;obtain⟨lo,K,T,O,g,hd,he⟩:=nM E J;refine⟨"dict","dict.items",a0f,Zn,a2a,g.ty,λb N=>?_,ZI rfl (a3b ?_)⟩
 .cases N;obtain⟨z,Y,w,_⟩:=g;exact⟨z,Y,w.2.1⟩
 refine a0L Zn g.ty a1R (a1J _) (D2 d lo) ⟨⟨T,O,g⟩,?_⟩;have u:Inv X i r n {p with heap:=p.heap.push {cls:=.type "dict_items",data:=.fields #[.ref d]}}:=E.kept (t':=p.toks) λb o e=>Wc _ e;obtain⟨lo2,hl2,U,Q,w,x,he2⟩:=nM u J;show WI (WM X.prog X.w) X.A (a2i (.ref p.heap.objs.size)) (vZ X i r (.Tuple G L pt) R) X.xe _;refine DZ ⟨_,Wn _ rfl,rfl,rfl⟩ w ⟨_,[_],_,_,n,rfl,u.kept (t':=p.toks) λb o e=>Wc _ e,Pp x,⟨_,_,Wn _ rfl⟩,λb Z=>?_,q⟩;have e:=WB.mp Z;subst e;exact u.fpOk (Wh _) (u.hok.fresh (Wh _))
noncomputable def j6(kvs:jx):List D:=kvs.map λk=>.tup [.tup (k.1.map D.int),k.2]
theorem Pr{K:V8}{π:Nat->Addr}{n:Nat}{H:Hp}{d:Addr}{l:Obj}{ps:bQ}{kvs:jx}(h:H d=b0 (.frz l (aS d ps)))(T:IsTs K π n H ps kvs):Wk K (yS d l ps) (dS (.tup (j6 kvs))) π n H:=by
 have G:ps.length=kvs.length:=by have:=congrArg Xm T.to.1;simpa using this
 refine⟨λg B o i e R z=>?_,λg B o i q e R z=>?_⟩
 .have a:(j6 kvs)[i]?=none:=Wt z;have:=WZ.mp a;rw[j6,V7]at this;exact⟨e.frz _ _ _ h,by lia⟩
 .have a:(j6 kvs)[i]?=b0 q:=Wt z;have A:i<kvs.length:=by have:=(Wa.mp a).1;rwa [j6,V7]at this
  refine⟨⟨e.frz _ _ _ h,by lia⟩,λv E ⟨t,p,r,s,u,w⟩=>?_⟩;subst r w;have b:kvs[i]?=b0 kvs[i]:=Wi A;obtain⟨I,j,x⟩:=(T.to.2.1.mono e).get (i:=i) (d:=D.tup ((kvs[i]).1.map D.int)) (by rw[Ws,b];rfl);obtain⟨J,k,y⟩:=(T.to.2.2.mono e).get (i:=i) (d:=(kvs[i]).2) (by rw[Ws,b];rfl);rw[Ws,u]at j k;cases j;cases k;obtain⟨c,R2⟩:=R.fresh (o:=.tup [.ref p.2.1,p.2.2]) s;rw[j6,Ws,b]at a;cases a;exact⟨c,R2,.tup (.of cP) (.cons (x.mono c) (.cons (y.mono c) .nil))⟩
theorem Pt{X:Cx}{l:Expr}{i:TE}(j:PE X l i):PE X l (λσ H Q=>i σ H λv a=>∃d ps,v=.ref d/\a d=b0 (aS d ps)/\∀c,Q v (aK a d (.frz c (aS d ps)))):=by intro b s σ H Q I h;refine aR (j b s σ H _ I h) λv p ⟨y,a,g,o,n⟩=>?_;obtain⟨d,ps,rfl,e,q⟩:=n;obtain⟨_,⟨c,k⟩,_⟩:=(show ObjOk X.prog X.w a p.heap d (aS d ps)from g.hok _ _ e);exact⟨_,_,Inv.freeze g e k,o,q c⟩
noncomputable def qP(m:ME):MI:=λc b=>(m c b).bind λp=>match p.1 with
 |.loc a=>match p.2[a]? with
  |some (.dT kvs)=>b0 (dS (.tup (j6 kvs)),kvs.length+1,p.2.set a (.dF kvs))|_=>b3
 |_=>b3
theorem Pu{X:Cx}{e:Expr}{m:ME}{a b:XX}(h:QE X e m)(w:lU e=b5)(v:(a.endLine==b.line)=b5):QJT X (.Call (.Attribute e "items" a) [] [] b) (qP m):=⟨λes M pt a6r s σ H R I hw=>by
 obtain⟨J,K,A,z,n,B,q,E,c,k⟩:=hw;obtain⟨⟨x,G⟩,u,c⟩:=V6.mp c;dsimp only at c;split at c
 .split at c
  .rename_i i hc;cases c;refine Pq (Pt h.h) (nB w) v a6r s σ H R I ⟨J,K,A,_,_,q,E,u,λl N L r o y=>?_⟩;cases y;obtain⟨d,p,T⟩:=jB o hc;refine⟨_,d,rfl,p,λj=>?_⟩;obtain⟨g,R2⟩:=o.put (c:=.dF i) (o:=.frz j (aS _ d)) (Wa.mp hc).1 p (.inr (.inr ⟨_,rfl⟩)) ⟨j,d,rfl,T.to⟩;exact⟨_,j,d,rfl,cP,k l _ _ (r.trans g) R2 (Pr cP (IsTs.of T.to.1 (T.to.2.1.mono g) (T.to.2.2.mono g)))⟩
  .cases c
 .cases c⟩
noncomputable def o3:D->List D->Hm->jk
 |.loc a,[x],μ=>match μ[a]? with
  |some (.lst xs)=>(j0 μ x xs).bind λbs=>if bs.findIdx id<bs.length/\bs.length<=Wq then b0 (.non,μ.set a (.lst (xs.eraseIdx (bs.findIdx id))))else b3|_=>b3
 |_,_,_=>b3
inductive rRemove (K:V8):V->gz->Hp->VK->Prop
 |mk {H:Hp}{Q:VK}{π:Nat->Addr}{μ:Hm}{a:Nat}{xs:List D}{y:V}{dy:D}{bs:List Bool}{ws:gz}(R:Rp K π H μ)(hx:μ[a]?=b0 (.lst xs))(iy:IsD K π μ.length H y dy)(he:j0 μ dy xs=b0 bs)(hf:bs.findIdx id<bs.length)(hH:H (π a)=b0 (.lst ws))(q:Q .non (aK H (π a) (.lst (ws.eraseIdx (bs.findIdx id))))):rRemove K (.ref (π a)) [y] H Q
theorem Ef{K:V8}{π:Nat->Addr}{n:Nat}{H:Hp}:∀{vs:gz}{ds:List D},IsDs K π n H vs ds->∀k,IsDs K π n H (vs.eraseIdx k) (ds.eraseIdx k)
 |_,_,.nil,_=>.nil|_,_,.cons _ t,0=>t|_,_,.cons h t,k+1=>.cons h (Ef t k)
theorem Eg:∀{vs:gz}{us:gw},Vals vs us->∀k,Vals (vs.eraseIdx k) (us.eraseIdx k)
 |_,_,.nil,_=>.nil|_,_,.cons _ t,0=>t|_,_,.cons h t,k+1=>.cons h (Eg t k)
theorem Pw{K:V8}:jA K o3 (rRemove K):=by
 intro u H y x ds d s v w Q R q p a k;unfold o3 at a;split at a
 .split at a
  .rename_i g b;obtain⟨bs,j,a⟩:=V6.mp a;split at a
   .rename_i n;cases a;cases p with
    |cons o r=>cases r;cases q;obtain⟨e,c,l⟩:=R.lst _ g b;obtain⟨i,h⟩:=R.put (c:=.lst (g.eraseIdx (bs.findIdx id))) (o:=.lst (e.eraseIdx (bs.findIdx id))) (Wa.mp b).1 c (.inl ⟨e,rfl⟩) (Ef l _);exact .mk R b o j n.1 c (k u _ _ i h .non)
   .cases a
  .cases a
 .cases a
theorem Eh{l:Addr}{us:Array Value}{n:Nat}{x:Value}{g:Value->Bool}{j:Nat}(p:j<us.size)(hz:us.size<=Wq)(hit:g us[j]=b5) :
  ∀(k i:Nat),i+k=j->(∀m (r:m<us.size),i<=m->m<j->g us[m]=b4)->Meets (Builtin.«list.remove.loop» ⟨[.ref l,x,Z0 i],[]⟩)
   λA R s=>(s.heap.get? l=b0 {cls:=.type "list",dict:=b3,data:=.seq us n,slots:=#[]}/\∀y∈us,Zr A.in1 s y x (g y))/\R (.ok (.ret .none)) {s with heap:=s.heap.update l (Xg (·.eraseIdxIfInBounds j))}
 |0,i,e,_,prog,w,A,R,s,h=>by
  obtain⟨v,u,d,B,z⟩:=s;obtain⟨⟨c,o⟩,h⟩:=h;obtain rfl:i=j:=e;wp_walk using ZJ c;rw[show us[((i:Nat):Int).toNat]?=b0 us[i] by simp[p]];refine V9 (o _ (a1i p) prog w _ _ ?_);rw[hit];have q:(us.eraseIdxIfInBounds i).size<=Wq+1:=by
   have:(us.eraseIdxIfInBounds i).size<=us.size:=by unfold a2o;split<;>simp
   lia
  wp_walk using(XQ c rfl (hz:=hz) (_hz':=q)),ZJ c;simpa using h
 |k+1,i,e,no,prog,w,A,R,s,h=>by
  obtain⟨v,u,d,B,z⟩:=s;obtain⟨⟨c,o⟩,h⟩:=h;have lt:i<us.size:=by lia
  wp_walk using ZJ c;rw[show us[((i:Nat):Int).toNat]?=b0 us[i] by simp[lt]];refine V9 (o _ (a1i lt) prog w _ _ ?_);rw[no i lt (Wh _) (by lia)];wp_walk;rw[show((i:Int)+1)=((i+1:Nat):Int) by lia];refine⟨XC YX _,Xu a1z ?_⟩;rw[W4 YX _];exact Eh p hz hit k (i+1) (by lia) (λm r a b=>no m r (by lia) b) prog w A R _ ⟨⟨c,o⟩,h⟩
theorem Px{l:Addr}{us:Array Value}{n:Nat}{x:Value}{g:Value->Bool}{j:Nat}(k:j<us.size)(hz:us.size<=Wq)(hit:g us[j]=b5)(no:∀m (e:m<us.size),m<j->g us[m]=b4):Meets (Builtin.«list.remove» ⟨[.ref l,x],[]⟩)
   λA R s=>(s.heap.get? l=b0 {cls:=.type "list",dict:=b3,data:=.seq us n,slots:=#[]}/\∀y∈us,Zr A.in1 s y x (g y))/\R (.ok (.ret .none)) {s with heap:=s.heap.update l (Xg (·.eraseIdxIfInBounds j))}:=by
 intro a w A R s h;obtain⟨p,o,d,r,q⟩:=s;obtain⟨⟨c,i⟩,h⟩:=h;wp_walk using ZJ c;refine⟨XC YX _,Xu a1z ?_⟩;rw[W4 YX _];exact Eh k hz hit j 0 (a2V _) (λm e _ b=>no m e b) a w A R _ ⟨⟨c,i⟩,h⟩
theorem Py{X:Cx}(hu:X.A.units+20<XM):jQ X "list.remove" (rRemove X.K):=by
 intro J s σ H x vs v us Q I Z Y h;obtain⟨R,N,T,M,p,o,q⟩:=h;rename_i π μ a xs y dy bs G;cases Z;obtain⟨u,rfl,U⟩:=Y.one;obtain⟨B,j,hd⟩:=R.lst a xs N;obtain rfl:G=B:=by rw[o]at j;cases j;rfl
 obtain⟨z,b,n,r,hl,e⟩:=I.lstM o;obtain⟨g,K,E⟩:=DB I R (A:=X.A.in1) (by rw[iK];lia) U T hd r M;have k:bs.length=b.length:=by rw[<- E,V7]
 have w:bs.findIdx id<b.length:=by rw[<- k];exact p
 have c:∀m (l:m<b.length),bs[m]?=b0 (g b[m]):=λm l=>by rw[<- E,Ws,Wi l];rfl
 refine a0M F.slot_list_remove ⟨_,e,rfl⟩ F.entry_list_remove (F.args_list_remove_2 _ _) (Px (l:=π a) (us:=b.toArray) (n:=n) (x:=u) (g:=g) (j:=bs.findIdx id) (by simpa using w) (by rw[Ww];lia) ?_ ?_) ⟨⟨e,λy O=>K y (by simpa using O)⟩,⟨.non,_,I.lset (its':=b.eraseIdx (bs.findIdx id)) o e ?_ (Eg r _) ?_,rfl,q⟩⟩
 .have d:=a3j (p:=id) (xs:=bs) (w:=p);have i:=c _ w;rw[Wi p]at i;rw[Wt i]at d;simpa using d
 .intro m l A;have L:m<b.length:=by simpa using l
  have d:=a2G (p:=id) (xs:=bs) A;have i:=c _ L;rw[Wi (by lia)]at i;rw[Wt i]at d;simpa using d
 .unfold a2o;rw[dif_pos (by simpa using w)];simp
 .have:=List.length_eraseIdx_le G (bs.findIdx id);lia
open PyProof.Rows (IsTup IntsAre)
section
variable{P:WL}{w:WX}{A:WY}{E:Value->Wf->Prop}{s:Wf}
noncomputable def qQ(h:Xo)(v:Value)(p:Int×Int):Prop:=∃a xs,v=.ref a/\a5o h a xs/\Zw xs.toList [p.1,p.2]
theorem Pz{u v:Value}{p q:Int×Int}{Q:Value->Wf->Prop}(c:A.units<XM)(a:qQ s.heap u p)(b:qQ s.heap v q)(h:Q (.bool (HT.lexLt [p.1,p.2] [q.1,q.2])) s):WI (WM P w) A (Zm .Lt u v) Q E s:=by obtain⟨a,j,rfl,g,d⟩:=a;obtain⟨b,k,rfl,i,e⟩:=b;exact HT.lt_tupInts g i d e c h
theorem PB{u v:Value}{p q:Int×Int}{Q:Value->Wf->Prop}(M:A.units+2<XM)(a:qQ s.heap u p)(b:qQ s.heap v q)(h:Q (.bool (HT.lexLt [q.1,q.2] [p.1,p.2])) s):WI (WM P w) A (Zm .Gt u v) Q E s:=by
 obtain⟨a,I,rfl,⟨r,l,o,N,L⟩,d⟩:=a;obtain⟨b,J,rfl,⟨B,k,n,O,K⟩,g⟩:=b;obtain⟨I⟩:=I;obtain⟨J⟩:=J;refine wpAny_richCompare_same_room (op:=.Gt) ⟨r,l,o⟩ ⟨B,k,n⟩ F.slot_tuple_gt (Yn F.slot_tuple_gt ⟨r,l,o⟩ F.entry_tuple_gt ?_ (F.args_tuple_gt_2 _ _)) (by lia);refine V9 (m:=isInstance (.ref b) (.type "tuple")) (a0A ⟨B,k,n⟩ isSubtype_tuple_tuple ?_);simp only[a0Z,WQ,if_false];refine V9 (a4L l L (V9 (a4L k K (V9 ?_))));cases d with
 |cons x t d=>
 cases d with
 |cons R G d=>
 cases d;cases g with
 |cons y u g=>
 cases g with
 |cons T H g=>
 cases g;show WI _ _ (forIn [(W5 p.1 t,W5 q.1 u),(W5 p.2 G,W5 q.2 H)] _ _) _ _ s;simp only[a4A,List.forIn_nil];have c:∀(i:Int)(t:a3a),(Y3 P w).is i (.int i t)=true:=λi t=>by simp[Y3,a2S]
 refine V9 (V9 ((Y3 P w).eqBool (c p.1 t) (c q.1 u) ?_));by_cases e:p.1=q.1
 .rw[decide_eq_true e];simp only[a0Z,WQ,if_false];refine Wg (V9 (V9 ((Y3 P w).eqBool (c p.2 G) (c q.2 H) ?_)));by_cases j:p.2=q.2
  .rw[decide_eq_true j];rw[e,j,t7]at h;simp only[a0Z,WQ,if_false];exact Wg (Wg (Wg ⟨.bool b4,rfl,(λz=>nomatch z),h⟩))
  .rw[decide_eq_false j];simp only[a2f,if_true];refine V9 (a0k (V9 (a1S ?_)));have:HT.lexLt [q.1,q.2] [p.1,p.2]=decide (q.2<p.2):=by simp[HT.lexLt,e,Xh j]
   rw[this]at h;exact V9 (Wg (Wg (Wg (Wg ⟨_,rfl,(λz=>nomatch z),h⟩))))
 .rw[decide_eq_false e];simp only[a2f,if_true];refine V9 (a0k (V9 (a1S ?_)));have:HT.lexLt [q.1,q.2] [p.1,p.2]=decide (q.1<p.1):=by simp[HT.lexLt,Xh e]
  rw[this]at h;exact V9 (Wg (Wg (Wg (Wg ⟨_,rfl,(λz=>nomatch z),h⟩))))
theorem PC{a b:Value}{c:Bool}{I S:Addr}{T y:List Addr}{St:Nat->Xo->Prop}{R:a1h->Wf->Prop}{z:Nat}(K:Walks P w A.in1 I T y 2 (λi v=>(#[a,b]:Array Value)[i]?=b0 v) St)(M:S∉T)(st:St 0 s.heap)(G:s.heap.get? S=b0 {cls:=.type "list",dict:=b3,data:=.seq #[] z,slots:=#[]})
  (hc:∀t (Q E:Value->Wf->Prop),(∀x o,x∉y->x≠S->s.heap.get? x=b0 o->t.heap.get? x=b0 o)->Q (.bool c) t->WI (WM P w) A.in1 (Zm .Lt b a) Q E t)
  (q:∀Y tk,(∀x o,x∉y->x≠S->s.heap.get? x=b0 o->Y.get? x=b0 o)->R (.ok (.ret (if c then b else a))) {s with heap:=Y,toks:=tk}):Zq (WM P w) A (.builtin "min.loop" ⟨[.ref I,.none,.ref S],[]⟩) R s:=by
 have p:S∉y:=λz=>M (K.sub _ z);have N:(toString "min"++toString ".loop":String)="min.loop":=by decide
 have d:∀{h:Xo}{u:Value}(x:Addr)(o:Obj),x≠S->h.get? x=b0 o->(h.update S (Xg λ_=>#[u,u])).get? x=b0 o:=λx o n e=>(W6 _ _ (Xh n)).trans e;refine Xu F.entry_min_loop ?_;rw[W4 F.plain_min_loop _];refine V9 (m:=ZZ (.ref S)) (YF G rfl (V9 (m:=tryCatch (Y2 (.ref I)) _) (Yj (K.item 0 s _ _ (by decide) st λv h1 tk1 pv O J=>?_))));obtain rfl:a=v:=by simpa using pv
 refine V9 (m:=ZX S λ_=>#[a,a]) (XQ (J S _ p G) rfl ?_);rw[N];refine Wg ⟨XC F.plain_min_loop _,Xu F.entry_min_loop ?_⟩;rw[W4 F.plain_min_loop _];have U:=Xv (Xg λ_=>#[a,a]) (J S _ p G) rfl;refine V9 (m:=ZZ (.ref S)) (YF U rfl (V9 (m:=tryCatch (Y2 (.ref I)) _) (Yj (K.item 1 _ _ _ (by decide) (K.frame _ _ _ O λx H o e=>d x o (λz=>M (z▸H)) e) λv h2 tk2 pv r Z=>?_))));obtain rfl:b=v:=by simpa using pv
 have L:∀x o,x∉y->x≠S->s.heap.get? x=b0 o->h2.get? x=b0 o:=λx o g j e=>Z x o g (d x o j (J x o g e));have B:=Z S _ p U;show WI _ A.in1 (tryCatch (holding [b,b] (Zm .Lt b a >>= _)) _ >>= _) _ _ _;refine V9 (Yj (Xb (V9 (hc _ _ _ L (V9 (Xb (XH (V9 (YB (Wg ?_))))))))));cases c with
 |true=>simp only[if_true]at q ⊢;refine V9 (XQ B rfl (V9 (YB ?_)));rw[N];refine Wg ⟨XC F.plain_min_loop _,Xu F.entry_min_loop ?_⟩;rw[W4 F.plain_min_loop _];have X:=Xv (Xg λ_=>#[b,b]) B rfl;refine V9 (m:=ZZ (.ref S)) (YF X rfl (V9 (m:=tryCatch (Y2 (.ref I)) _) (Yj (K.done _ _ _ (K.frame _ _ _ r λx H o e=>d x o (λz=>M (z▸H)) e) λh4 k l=>?_))));refine V9 (m:=ZX S λ_=>#[]) (XQ (l S _ p X) rfl (V9 (YB (Wg ?_))));exact q _ k λx o g j e=>(W6 _ _ (Xh j)).trans (l x o g (d x o j (L x o g j e)))|false=>simp only[WQ,if_false]at q ⊢;refine V9 (YB ?_);rw[N];refine Wg ⟨XC F.plain_min_loop _,Xu F.entry_min_loop ?_⟩;rw[W4 F.plain_min_loop _];refine V9 (m:=ZZ (.ref S)) (YF B rfl (V9 (m:=tryCatch (Y2 (.ref I)) _) (Yj (K.done _ _ _ r λh4 k l=>?_))));refine V9 (m:=ZX S λ_=>#[]) (XQ (l S _ p B) rfl (V9 (YB (Wg ?_))));exact q _ k λx o g j e=>(W6 _ _ (Xh j)).trans (l x o g (L x o g j e))
theorem PD{a b:Value}{c:Bool}{Q:Value->Wf->Prop}(u:A.handled=b3)(hc:∀t (Q E:Value->Wf->Prop),(∀x o,s.heap.get? x=b0 o->t.heap.get? x=b0 o)->Q (.bool c) t->WI (WM P w) A.in1 (Zm .Lt b a) Q E t)
  (q:∀g j,(∀x o,s.heap.get? x=b0 o->g.get? x=b0 o)->Q (if c then b else a) {s with heap:=g,toks:=j}):WI (WM P w) A (call (.builtin "min") [a,b]) Q E s:=by
 have v:(toString "min"++toString ".loop":String)="min.loop":=by decide
 refine a4S F.kind_min F.plain_min F.entry_min (F.args_min2 _ _) ?_;refine V9 (m:=a0C "min" ["key","default"] 0 ⟨[],[]⟩) (a2p (show _=pure [b3,b3]from rfl) ?_);refine V9 (m:=a4u [a,b]) (XA ?_);have n:(s.heap.push {cls:=.type "tuple",data:=.seq #[a,b]}).IsTuple s.heap.objs.size #[a,b]:=⟨_,Wn _ rfl,rfl,0,rfl⟩;have i:(s.heap.push {cls:=.type "tuple",data:=.seq #[a,b]}).objs.size=s.heap.objs.size+1:=Yy ..;refine V9 (Y1 n (V9 (XA ?_)));have d:((s.heap.push {cls:=.type "tuple",data:=.seq #[a,b]}).push {cls:=.type "tuple_iterator",data:=.fields #[.ref s.heap.objs.size,.int 0 0]}).objs.size=s.heap.objs.size+2:=by rw[Yy,i]
 rw[v];have old:∀x o,s.heap.get? x=b0 o->x<s.heap.objs.size:=λx o e=>Wm e;refine Wg ⟨XC F.plain_min_loop _,PC (c:=c) (a1x (A:=A.in1) u _ s.heap.objs.size (by rw[i];exact WD (X7 _)) #[a,b]) ?_ ⟨⟨_,Wc _ (Wn _ rfl),rfl,rfl⟩,(n.push _).push _⟩ (Wn _ rfl) (λt r p k h=>hc t r p (λx o e=>?_) h) λg j k=>q g j λx o e=>?_⟩
 .rw[d,i];simp
 all_goals
  have l:=old x o e;refine k x o (λz=>?_) (λz=>?_) (Wc _ (Wc _ (Wc _ e)))
  .rw[i]at z;rw[WB.mp z]at l;exact X3 _ (Y6 l)
  .rw[z,d]at l;exact X3 _ (Y6 (Y6 l))
theorem PF{a b:Value}{c:Bool}{I S:Addr}{T y:List Addr}{St:Nat->Xo->Prop}{R:a1h->Wf->Prop}{z:Nat}(K:Walks P w A.in1 I T y 2 (λi v=>(#[a,b]:Array Value)[i]?=b0 v) St)(M:S∉T)(st:St 0 s.heap)(G:s.heap.get? S=b0 {cls:=.type "list",dict:=b3,data:=.seq #[] z,slots:=#[]})
  (hc:∀t (Q E:Value->Wf->Prop),(∀x o,x∉y->x≠S->s.heap.get? x=b0 o->t.heap.get? x=b0 o)->Q (.bool c) t->WI (WM P w) A.in1 (Zm .Gt b a) Q E t)
  (q:∀Y tk,(∀x o,x∉y->x≠S->s.heap.get? x=b0 o->Y.get? x=b0 o)->R (.ok (.ret (if c then b else a))) {s with heap:=Y,toks:=tk}):Zq (WM P w) A (.builtin "max.loop" ⟨[.ref I,.none,.ref S],[]⟩) R s:=by
 have p:S∉y:=λz=>M (K.sub _ z);have N:(toString "max"++toString ".loop":String)="max.loop":=by decide
 have d:∀{h:Xo}{u:Value}(x:Addr)(o:Obj),x≠S->h.get? x=b0 o->(h.update S (Xg λ_=>#[u,u])).get? x=b0 o:=λx o n e=>(W6 _ _ (Xh n)).trans e;refine Xu F.entry_max_loop ?_;rw[W4 F.plain_max_loop _];refine V9 (m:=ZZ (.ref S)) (YF G rfl (V9 (m:=tryCatch (Y2 (.ref I)) _) (Yj (K.item 0 s _ _ (by decide) st λv h1 tk1 pv O J=>?_))));obtain rfl:a=v:=by simpa using pv
 refine V9 (m:=ZX S λ_=>#[a,a]) (XQ (J S _ p G) rfl ?_);rw[N];refine Wg ⟨XC F.plain_max_loop _,Xu F.entry_max_loop ?_⟩;rw[W4 F.plain_max_loop _];have U:=Xv (Xg λ_=>#[a,a]) (J S _ p G) rfl;refine V9 (m:=ZZ (.ref S)) (YF U rfl (V9 (m:=tryCatch (Y2 (.ref I)) _) (Yj (K.item 1 _ _ _ (by decide) (K.frame _ _ _ O λx H o e=>d x o (λz=>M (z▸H)) e) λv h2 tk2 pv r Z=>?_))));obtain rfl:b=v:=by simpa using pv
 have L:∀x o,x∉y->x≠S->s.heap.get? x=b0 o->h2.get? x=b0 o:=λx o g j e=>Z x o g (d x o j (J x o g e));have B:=Z S _ p U;show WI _ A.in1 (tryCatch (holding [b,b] (Zm .Gt b a >>= _)) _ >>= _) _ _ _;refine V9 (Yj (Xb (V9 (hc _ _ _ L (V9 (Xb (XH (V9 (YB (Wg ?_))))))))));cases c with
 |true=>simp only[if_true]at q ⊢;refine V9 (XQ B rfl (V9 (YB ?_)));rw[N];refine Wg ⟨XC F.plain_max_loop _,Xu F.entry_max_loop ?_⟩;rw[W4 F.plain_max_loop _];have X:=Xv (Xg λ_=>#[b,b]) B rfl;refine V9 (m:=ZZ (.ref S)) (YF X rfl (V9 (m:=tryCatch (Y2 (.ref I)) _) (Yj (K.done _ _ _ (K.frame _ _ _ r λx H o e=>d x o (λz=>M (z▸H)) e) λh4 k l=>?_))));refine V9 (m:=ZX S λ_=>#[]) (XQ (l S _ p X) rfl (V9 (YB (Wg ?_))));exact q _ k λx o g j e=>(W6 _ _ (Xh j)).trans (l x o g (d x o j (L x o g j e)))|false=>simp only[WQ,if_false]at q ⊢;refine V9 (YB ?_);rw[N];refine Wg ⟨XC F.plain_max_loop _,Xu F.entry_max_loop ?_⟩;rw[W4 F.plain_max_loop _];refine V9 (m:=ZZ (.ref S)) (YF B rfl (V9 (m:=tryCatch (Y2 (.ref I)) _) (Yj (K.done _ _ _ r λh4 k l=>?_))));refine V9 (m:=ZX S λ_=>#[]) (XQ (l S _ p B) rfl (V9 (YB (Wg ?_))));exact q _ k λx o g j e=>(W6 _ _ (Xh j)).trans (l x o g (L x o g j e))
theorem PH{a b:Value}{c:Bool}{Q:Value->Wf->Prop}(u:A.handled=b3)(hc:∀t (Q E:Value->Wf->Prop),(∀x o,s.heap.get? x=b0 o->t.heap.get? x=b0 o)->Q (.bool c) t->WI (WM P w) A.in1 (Zm .Gt b a) Q E t)
  (q:∀g j,(∀x o,s.heap.get? x=b0 o->g.get? x=b0 o)->Q (if c then b else a) {s with heap:=g,toks:=j}):WI (WM P w) A (call (.builtin "max") [a,b]) Q E s:=by
 have v:(toString "max"++toString ".loop":String)="max.loop":=by decide
 refine a4S F.kind_max F.plain_max F.entry_max (F.args_max2 _ _) ?_;refine V9 (m:=a0C "max" ["key","default"] 0 ⟨[],[]⟩) (a2p (show _=pure [b3,b3]from rfl) ?_);refine V9 (m:=a4u [a,b]) (XA ?_);have n:(s.heap.push {cls:=.type "tuple",data:=.seq #[a,b]}).IsTuple s.heap.objs.size #[a,b]:=⟨_,Wn _ rfl,rfl,0,rfl⟩;have i:(s.heap.push {cls:=.type "tuple",data:=.seq #[a,b]}).objs.size=s.heap.objs.size+1:=Yy ..;refine V9 (Y1 n (V9 (XA ?_)));have d:((s.heap.push {cls:=.type "tuple",data:=.seq #[a,b]}).push {cls:=.type "tuple_iterator",data:=.fields #[.ref s.heap.objs.size,.int 0 0]}).objs.size=s.heap.objs.size+2:=by rw[Yy,i]
 rw[v];have old:∀x o,s.heap.get? x=b0 o->x<s.heap.objs.size:=λx o e=>Wm e;refine Wg ⟨XC F.plain_max_loop _,PF (c:=c) (a1x (A:=A.in1) u _ s.heap.objs.size (by rw[i];exact WD (X7 _)) #[a,b]) ?_ ⟨⟨_,Wc _ (Wn _ rfl),rfl,rfl⟩,(n.push _).push _⟩ (Wn _ rfl) (λt r p k h=>hc t r p (λx o e=>?_) h) λg j k=>q g j λx o e=>?_⟩
 .rw[d,i];simp
 all_goals
  have l:=old x o e;refine k x o (λz=>?_) (λz=>?_) (Wc _ (Wc _ (Wc _ e)))
  .rw[i]at z;rw[WB.mp z]at l;exact X3 _ (Y6 l)
  .rw[z,d]at l;exact X3 _ (Y6 (Y6 l))
end
noncomputable def yT(x:D):Option (Int×Int):=(cR x).bind λk=>match k with
 |[a,b]=>b0 (a,b)|_=>b3
noncomputable def uD(f:Int×Int->Int×Int->Bool)(g:MF):MF:=λds a=>match ds with
 |[x,y]=>(match yT x,yT y with
  |some p,b0 q=>b0 (if f p q then y else x,a)
  |_,_=>g ds a)
 |_=>g ds a
noncomputable def kW:MF:=uD (λp q=>HT.lexLt [q.1,q.2] [p.1,p.2]) yC
noncomputable def qR:MF:=uD (λp q=>HT.lexLt [p.1,p.2] [q.1,q.2]) yD
inductive rMm (f:Int×Int->Int×Int->Bool)(K:V8):gz->Hp->VK->Prop
 |mk {H:Hp}{Q:VK}{a b:Addr}{p q:Int×Int}(ha:SqT K H a ([p.1,p.2].map V.int))(hb:SqT K H b ([q.1,q.2].map V.int))(k:Q (.ref (if f p q then b else a)) H):rMm f K [.ref a,.ref b] H Q
theorem Ei{x:D}{p:Int×Int}(h:yT x=b0 p):x=.tup ([p.1,p.2].map D.int):=by
 obtain⟨k,b,a⟩:=V6.mp h;rw[qE b];split at a
 .cases a;rfl
 .cases a
theorem qS{K:V8}{π:Nat->Addr}{n:Nat}{H:Hp}{v:V}{p:List Int}(h:IsD K π n H v (.tup (p.map D.int))):∃a,v=.ref a/\SqT K H a (p.map V.int):=by
 cases h with
 |@tup a c ds b hd=>have:=ints_of' hd;subst this;exact⟨a,rfl,b⟩
theorem Ej{K:V8}{f:Int×Int->Int×Int->Bool}{g:MF}{r:gz->Hp->VK->Prop}(j:dP K g r):dP K (uD f g) (λxs H Q=>rMm f K xs H Q\/r xs H Q):=by
 intro h H s xs d e q Q R i c k;unfold uD at c;split at c
 .split at c
  .rename_i u v;cases c;cases i with
   |cons l t=>
   cases t with
   |cons n t=>
   cases t;have o:=l;have p:=n;rw[Ei u]at o;rw[Ei v]at p;obtain⟨a,rfl,w⟩:=qS o;obtain⟨b,rfl,x⟩:=qS p;refine .inl (.mk w x (k h _ H .refl R ?_));split
   .exact n
   .exact l
  .exact .inr (j h H s _ d e q Q R i c k)
 .exact .inr (j h H s _ d e q Q R i c k)
section
variable{X:Cx}
theorem uE{a6r:jw}{σ:St}{H:Hp}{s:Wf}(I:Inv X a6r σ H s){a:Addr}{p:Int×Int}(h:SqT X.K H a ([p.1,p.2].map V.int)){h':Xo}(c:∀x o,s.heap.get? x=b0 o->h'.get? x=b0 o):qQ h' (.ref a) p:=by obtain⟨b,r,⟨o,e,z⟩,_⟩:=I.tuple h;exact⟨a,_,rfl,⟨o,c _ _ e,z⟩,wL r⟩
theorem PJ(hc:X.calm=b5)(n:X.A.units+64<XM):CallR X (.builtin "min") (rMm (λp q=>HT.lexLt [q.1,q.2] [p.1,p.2]) X.K):=by intro b s y H x w Q I r h;obtain⟨c,d,k⟩:=h;obtain⟨u,v,rfl,e,g⟩:=pQ r;cases e;cases g;refine PD (I.ok.hd hc) (λt j i a h=>Pz (by rw[iK];lia) (uE I d a) (uE I c a) h) λl o a=>⟨_,H,I.kept a,?_,k⟩;split<;>rfl
theorem PK(hc:X.calm=b5)(n:X.A.units+64<XM):CallR X (.builtin "max") (rMm (λp q=>HT.lexLt [p.1,p.2] [q.1,q.2]) X.K):=by intro b s y H x w Q I r h;obtain⟨c,d,k⟩:=h;obtain⟨u,v,rfl,e,g⟩:=pQ r;cases e;cases g;refine PH (I.ok.hd hc) (λt j i a h=>PB (by rw[iK];lia) (uE I d a) (uE I c a) h) λl o a=>⟨_,H,I.kept a,?_,k⟩;split<;>rfl
end
end L3
namespace L3
open PySem L2 PySem.W PyProof.Rows
noncomputable abbrev Ti:=List Int×List Int×Bool×List Int
noncomputable def j7:Ti:=([],[],b4,[])
noncomputable def uF(x y:Ti):Bool:=if x.1=y.1 then(if x.2.1=y.2.1 then(if x.2.2.1=y.2.2.1 then HT.lexLt x.2.2.2 y.2.2.2 else y.2.2.1)else HT.lexLt x.2.1 y.2.1)else HT.lexLt x.1 y.1
section
variable{P:WL}{w:WX}{A:WY}{E:Value->Wf->Prop}{s:Wf}
inductive TiAt (P:WL)(w:WX)(h:Xo)(a:Addr)(t:Ti):Prop
 |mk (o:Obj)(n:Nat)(b c e:Addr)(g:h.get? a=b0 o)(k:o.cls=.type "tuple") (d:o.data=.seq #[.ref b,.ref c,.bool t.2.2.1,.ref e] n)(h1:jD P w h b t.1)(h2:jD P w h c t.2.1)(h3:jD P w h e t.2.2.2)
theorem PL{a b:Bool}(h:a≠b):Zr A s (.bool a) (.bool b) false:=λprog w E Q q=>by unfold eqBool;refine Xb ?_;rw[if_neg (by simpa using h)];refine V9 (SeqAt.RcAt.bool_bool a b prog w E _ (XH ?_));rw[show(a==b)=b4 by simpa using h];exact q
theorem yU{b c:Addr}{k k':List Int}{fin:Bool}{Q:Bool->Wf->Prop}{r:List (Value×Value)}{i:Nat}(g:A.units<XM)(d:jD P w s.heap b k)(a:jD P w s.heap c k')(l:k=k'->KatLex P w A b4 fin Q r (i+1) s)(n:k≠k'->Q (HT.lexLt k k') s) :
  KatLex P w A b4 fin Q ((.ref b,.ref c)::r) i s:=by
 refine a2P ((ZN (Y3 P w)).eqBool g d.1 a.1 ?_);by_cases e:k=k'
 .rw[decide_eq_true e];exact a5g (l e)
 .rw[decide_eq_false e];obtain⟨q,o,h⟩:=d.2;obtain⟨u,p,j⟩:=a.2;exact kat_no (kat_one _ _ (HT.lt_tupInts o p (by simpa using h) (by simpa using j) g (n e)))
theorem PM{a i:Addr}{t t':Ti}{C:Bool->Wf->Prop}(h:A.units<XM)(x:TiAt P w s.heap a t)(y:TiAt P w s.heap i t')(q:C (uF t t') s):WI (WM P w) A (keyLt' (tuples' b4) (.ref a) (.ref i)) C (λ_ _=>False) s:=by
 obtain⟨o,n,b,c,e,g,_,d,B,G,H⟩:=x;obtain⟨M,L,j,k,p,r,_,l,I,J,K⟩:=y;unfold uF at q;refine kat_lt g d r l ?_;show KatLex P w A b4 _ C [(.ref b,.ref j),(.ref c,.ref k),(.bool t.2.2.1,.bool t'.2.2.1),(.ref e,.ref p)] 0 s;refine yU h B I (λz=>?_) λz=>by rw[if_neg z]at q;exact q
 rw[if_pos z]at q;refine yU h G J (λz=>?_) λz=>by rw[if_neg z]at q;exact q
 rw[if_pos z]at q;by_cases f:t.2.2.1=t'.2.2.1
 .rw[if_pos f]at q;rw[f];refine a2P (D0 (a5g (yU h H K (λz=>kat_nil ?_) λ_=>q)));rw[z,t7]at q;exact q
 .rw[if_neg f]at q;refine a2P (PL f P w _ _ (kat_no (kat_one _ _ (lt_bool ?_))));have:decide (b2i t.2.2.1<b2i t'.2.2.1)=t'.2.2.1:=by generalize t.2.2.1=u at f;generalize t'.2.2.1=v at f;cases u<;>cases v<;>first|exact absurd rfl f|decide
  rw[this];exact q
theorem PN{as:List Addr}{ts:List Ti}(J:A.units<XM)(H:0<as.length)(u:ts.length=as.length)(d:∀i,i<as.length->TiAt P w s.heap (as.getD i 0) (ts.getD i j7)):oX P w A (as.map Wx) (λi j=>uF (ts.getD i j7) (ts.getD j j7)) s:=by
 have l:∃fs:gw,fs.length=as.length/\KatTups s.heap (as.map Wx) fs/\∀v∈fs,∃b k,v=Wx b/\jD P w s.heap b k:=by
  clear H;induction as generalizing ts with
  |nil=>exact⟨[],rfl,.nil,λv g=>nomatch g⟩|cons a as K=>
   match ts,u with
   |t::ts,u=>
    obtain⟨fs,x,p,q⟩:=K (ts:=ts) (by simpa using u) λi h=>by simpa using d (i+1) (by simpa using h)
    obtain⟨o,n,b,c,e,y,z,B,G,_⟩:=d 0 (by simp);refine⟨.ref b::fs,by simp[x],.cons y z B (by simp) p,λv g=>?_⟩;rcases WW.mp g with rfl|g
    .exact⟨b,_,rfl,G⟩
    .exact q v g
 obtain⟨fs,x,p,q⟩:=l;refine kat_kind (T:=.type "tuple") p (by lia) (λv g=>?_) (by decide) ⟨rfl,λi j C h r I=>?_⟩
 .obtain⟨b,k,rfl,L⟩:=q v g;obtain⟨M,⟨o,o1,o2,_⟩,_⟩:=L.2;exact kitAt_ty _ _ ⟨o,o1,o2⟩
 .rw[V7]at h r;rw[show(as.map Wx).getD i .none=.ref (as.getD i 0) by simp[Xx,h],show(as.map Wx).getD j .none=.ref (as.getD j 0) by simp[Xx,r]];exact PM J (d i h) (d j r) I
theorem PQ{l:Addr}{us:gw}{an:Nat->Nat->Bool}{Q:Value->Wf->Prop}(d:us.length<64)(h:s.heap.IsList l us.toArray)
  (H:2<=us.length->∀c:Xo,(∀b o,s.heap.get? b=b0 o->c.get? b=b0 o)->oX P w A.in1.in1 us an {s with heap:=c})
  (q:Q (.ref (s.heap.objs.size+1)) {s with heap:=sortedAll s.heap us ((cW an us.length).map λi=>us.getD i XT).toArray}):WI (WM P w) A (call (.builtin "sorted") [.ref l]) Q E s:=by
 have k:us.length<=Wq:=by rw[Wv];lia
 refine a2e kind_sorted plain_sorted entry_sorted (args_sorted1 _) ?_;unfold a2Z;refine V9 (m:=checkCount "sorted" 1 1 _) (Wg (V9 (collect_list h (V9 (a1u ?_ (by lia))) (by lia))));have z:((s.heap.push (X6 "list" #[] 0)).update s.heap.objs.size (Xg (·++us.toArray))).objs.size=s.heap.objs.size+1:=by rw[Heap.size_update,size_push']
 have g:(((s.heap.push (X6 "list" #[] 0)).update s.heap.objs.size (Xg (·++us.toArray))).push (X6 "list" us.toArray 0)).get? (s.heap.objs.size+1)=b0 (X6 "list" us.toArray 0):=z▸Wn _ rfl;show WI _ _ _ _ _ ⟨((s.heap.push (X6 "list" #[] 0)).update s.heap.objs.size (Xg (·++us.toArray))).push (X6 "list" us.toArray 0),s.gens,s.drawn,s.toks,s.os⟩;rw[z];by_cases a:2<=us.length
 .refine V9 (Xb (Yn a1b ⟨_,g,rfl⟩ a0S (D1 a d g (λc j=>H a c λb o e=>j b o ?_ ?_) ⟨_,rfl,?_⟩) (a1g _)))
  .exact WD (a0i (Wm e))
  .exact Wc _ ((W6 _ _ (XR (Wm e))).trans (Wc _ e))
  .exact Wg ⟨_,rfl,q⟩
 .refine V9 (Xb (Yn a1b ⟨_,g,rfl⟩ a0S (Dj (us:=us) (by lia) g ⟨_,rfl,?_⟩) (a1g _)));refine Wg ⟨_,rfl,?_⟩;match us,a,q with
  |[],_,q=>rw[Zt,xY]at q;exact q|[b],_,q=>rw[a0z,Dk]at q;exact q|_::_::_,a,_=>simp at a
end
noncomputable def qT:D->Option Ti
 |.tup [x,y,.bl b,z]=>(cR x).bind λk=>(cR y).bind λm=>(cR z).map λn=>(k,m,b,n)|_=>b3
noncomputable def bS(t:Ti):D:=.tup [.tup (t.1.map D.int),.tup (t.2.1.map D.int),.bl t.2.2.1,.tup (t.2.2.2.map D.int)]
theorem PR{x:D}{t:Ti}(h:qT x=b0 t):x=bS t:=by
 unfold qT at h;split at h
 .obtain⟨k,a,h⟩:=V6.mp h;obtain⟨m,b,h⟩:=V6.mp h;obtain⟨n,c,rfl⟩:=Wb.mp h;rw[qE a,qE b,qE c];rfl
 .cases h
noncomputable def qU:List D->Option (List Ti)
 |[]=>b0 []|x::r=>(qT x).bind λt=>(qU r).map (t::·)
theorem Ek:∀{xs:List D}{ts:List Ti},qU xs=b0 ts->xs=ts.map bS
 |[],_,h=>by cases h;rfl
 |x::xs,ts,h=>by obtain⟨t,a,h⟩:=V6.mp h;obtain⟨r,b,rfl⟩:=Wb.mp h;rw[PR a,Ek b];rfl
noncomputable def kX(ts:List Ti):Nat->Nat->Bool:=λi j=>uF (ts.getD i j7) (ts.getD j j7)
noncomputable def nO:MF:=λds b=>match ds with
 |[x]=>(e8 b x).bind λc=>(qU c).bind λa=>if a.length<64 then b0 (.loc b.length,b++[.lst ((cW (kX a) a.length).map λi=>c.getD i .non)])else b3|_=>b3
inductive TiV (K:V8)(H:Hp)(v:V)(t:Ti):Prop
 |mk (a b c e:Addr)(g:v=.ref a)(s:SqT K H a [.ref b,.ref c,.bl t.2.2.1,.ref e])(s1:SqT K H b (t.1.map V.int))(s2:SqT K H c (t.2.1.map V.int))(s3:SqT K H e (t.2.2.2.map V.int))
inductive rSortTi (K:V8):gz->Hp->VK->Prop
 |mk {H:Hp}{Q:VK}{q:Addr}{ws:gz}{ts:List Ti}(hq:SqL K H q ws)(hw:Z3 (TiV K H) ws ts)(h:ws.length<64)(k:∀l,H l=b3->Q (.ref l) (aK H l (.lst ((cW (kX ts) ws.length).map λi=>ws.getD i .non)))):rSortTi K [.ref q] H Q
theorem Em{K:V8}{π:Nat->Addr}{n:Nat}{H:Hp}:∀{vs:gz}{ts:List Ti},IsDs K π n H vs (ts.map bS)->Z3 (TiV K H) vs ts
 |_,[],h=>by cases h;exact .nil
 |_,t::ts,h=>by
  cases h with
  |cons h r=>
  refine .cons ?_ (Em r);cases h with
  |@tup a vs ds k hd=>
  cases hd with
  |cons d hd=>
  cases hd with
  |cons g hd=>
  cases hd with
  |cons i hd=>
  cases hd with
  |cons j hd=>
  cases hd;cases i;obtain⟨b,rfl,l⟩:=qS d;obtain⟨c,rfl,o⟩:=qS g;obtain⟨e,rfl,p⟩:=qS j;exact⟨a,b,c,e,rfl,k,l,o,p⟩
theorem PU{K:V8}:dP K nO (rSortTi K):=by
 intro y H x w d u v Q R i a k;unfold nO at a;split at a
 .obtain⟨s,n,a⟩:=V6.mp a;obtain⟨c,o,a⟩:=V6.mp a;split at a
  .rename_i r;cases a;cases i with
   |cons i t=>
    cases t;obtain⟨p,g,rfl,q,hd⟩:=oN R i n;have b:=hd;rw[Ek o]at b;have h:g.length=c.length:=by rw[b.length,V7]
    refine .mk q (Em b) (by rw[h];exact r) λl e=>?_;obtain⟨j,R2,_⟩:=R.alloc (c:=.lst ((cW (kX c) c.length).map λi=>s.getD i .non)) (o:=.lst ((cW (kX c) g.length).map λi=>g.getD i .non)) e (by
     show IsDs _ _ _ _ _ _;rw[h];exact Dn hd _)
    exact k _ _ _ j R2 jT
  .cases a
 .cases a
theorem Eo{vs:gz}{us:gw}(h:Vals vs us):∀l:List Nat,Vals (l.map λi=>vs.getD i .non) (l.map λi=>us.getD i .none)
 |[]=>.nil|i::l=>by
  refine .cons ?_ (Eo h l);have z:=h.length;cases e:vs[i]? with
  |some v=>obtain⟨u,a,b⟩:=h.get e;simp only[Xx,e,a];exact b|none=>have:=h.none_of e;simp only[Xx,e,this];rfl
theorem yV{X:Cx}{a6r:jw}{σ:L2.St}{H:Hp}{s:Wf}(I:Inv X a6r σ H s){b:Addr}{k:List Int}(h:SqT X.K H b (k.map V.int)):jD X.prog X.w s.heap b k:=by obtain⟨a,r,t,_⟩:=I.tuple h;exact⟨jZ I h,a,t,wL r⟩
theorem PV{X:Cx}(hun:X.A.units+64<XM):CallR X (.builtin "sorted") (rSortTi X.K):=by
 intro B s σ H xs us Q I r h;obtain⟨O,hw,E,k⟩:=h;rename_i q M v;obtain⟨u,rfl,l⟩:=fV r;cases l;obtain⟨j,A,T,R⟩:=I.list O;have p:=A.length;have G:v.length=M.length:=hw.length.symm;have y:∃w:List Addr,j=w.map Wx/\∀i,i<w.length->∃b c e,SqT X.K H (w.getD i 0) [.ref b,.ref c,.bl (v.getD i j7).2.2.1,.ref e]/\SqT X.K H b ((v.getD i j7).1.map V.int)/\SqT X.K H c ((v.getD i j7).2.1.map V.int)/\SqT X.K H e ((v.getD i j7).2.2.2.map V.int):=by
  clear R T k O I p G E;induction hw generalizing j with
  |nil=>cases A;exact⟨[],rfl,λi x=>nomatch x⟩|cons h _ ih=>
   cases A with
   |cons K L=>
    obtain⟨w,e,f⟩:=ih _ L;obtain⟨a,b,c,d,rfl,t,t1,t2,t3⟩:=h;cases K;refine⟨a::w,by rw[e];rfl,λi x=>?_⟩;cases i with
    |zero=>exact⟨b,c,d,t,t1,t2,t3⟩|succ i=>simpa using f i (by simpa using x)
 obtain⟨w,N,pr⟩:=y;have hal:w.length=j.length:=by rw[N,V7]
 refine PQ (us:=j) (an:=kX v) (by lia) T.isList (λh2 h3 kp=>?_) ?_
 .rw[N];refine PN (by rw[iK,iK];lia) (by lia) (by lia) λi x=>?_;obtain⟨b,c,e,g,g1,g2,g3⟩:=pr i x;have J:Inv X B σ H {s with heap:=h3,toks:=s.toks}:=I.kept (t':=s.toks) kp;obtain⟨us,l,⟨o,U,Y,n,Z⟩,_⟩:=J.tuple g;cases l with
  |cons K l=>
  cases l with
  |cons L l=>
  cases l with
  |cons r3 l=>
  cases l with
  |cons r4 l=>
  cases l;cases K;cases L;cases r3;cases r4;exact⟨o,n,b,c,e,U,Y,Z,yV J g1,yV J g2,yV J g3⟩
 .obtain⟨e,he⟩:=sortedAll_at s.heap j ((cW (kX v) j.length).map λi=>j.getD i XT).toArray;refine⟨.ref (s.heap.objs.size+1),_,I.laid (t':=s.toks) (a:=s.heap.objs.size+1) (o:=.lst ((cW (kX v) M.length).map λi=>M.getD i .non)) (λb ob z=>sortedAll_old z) (Zd _) ?_,rfl,k _ (I.hok.fresh (Zd _))⟩;refine⟨?_,_,e,?_,he⟩
  .rw[V7,(jY _ _).length_eq,Xy];exact R
  .rw[<- p];exact Eo A _
end L3
namespace L3
open PySem L2
structure Sig where
 fn:List (Str×Nat)
 con:List (Str×D)
 tab:List (Str×List (bG×D))
 no:List Str
 dIt:List Str
 dEq:List Str
 dMe:List Str
structure Cs where
 N:List Str
 ks:List (Str×YL)
noncomputable def l7(x:Str):List Str->Option Nat
 |[]=>b3|y::r=>if x=y then b0 0 else(l7 x r).map (·+1)
theorem qV{x:Str}:∀{N:List Str}{i:Nat},l7 x N=b0 i->N[i]?=b0 x
 |[],_,h=>by cases h
 |y::r,i,h=>by
  unfold l7 at h;split at h
  .rename_i e;cases h;subst e;rfl
  .obtain⟨j,a,b⟩:=Wb.mp h;subst b;have:=qV a;simpa using this
noncomputable def glob(c:Cs)(x:Str):Bool:=decide (c.ks.lookup x=b0 .globalImplicit)&&!(x==("__debug__":Str))
noncomputable def mT(c:Cs)(x:Str):Bool:=(decide (c.ks.lookup x=b0 .local)||decide (c.ks.lookup x=b0 .cell)||decide (c.ks.lookup x=b0 .free))&&!(x==("__debug__":Str))&&!(x==("__classdict__":Str))
noncomputable def l8(c:Cs)(x:Str):Bool:=decide (c.ks.lookup x=b0 .local)||decide (c.ks.lookup x=b0 .cell)
noncomputable def yW(x:Str):Option String:=
 if x="int" then b0 "int" else if x="bool" then b0 "bool" else if x="str" then b0 "str" else if x="list" then b0 "list" else if x="tuple" then b0 "tuple" else if x="dict" then b0 "dict" else b3
theorem PX{x:Str}{n:String}(h:yW x=b0 n):X0 x=b0 (.type n)/\x ≠ "__name__":=by
 unfold yW at h;split at h
 .rename_i e;subst e;cases h;exact⟨a0F,by decide⟩
 split at h
 .rename_i e;subst e;cases h;exact⟨a3Z,by decide⟩
 split at h
 .rename_i e;subst e;cases h;exact⟨a3T,by decide⟩
 split at h
 .rename_i e;subst e;cases h;exact⟨ZM,by decide⟩
 split at h
 .rename_i e;subst e;cases h;exact⟨ZG,by decide⟩
 split at h
 .rename_i e;subst e;cases h;exact⟨a0B,by decide⟩
 .cases h
noncomputable def yX(S:Sig)(c:Cs)(x:Str):ME:=
 if mT c x=b5 then(match l7 x c.N with|some i=>aA i|none=>cD)
 else if glob c x=b5 then(match S.con.lookup x with
  |some d=>mC d
  |none=>if S.no.contains x=b5 then(match yW x with|some n=>mC (.ty n)|none=>cD)else cD)
 else cD
noncomputable def gJ(r:Expr->ME):List Expr->MA
 |[]=>aD|e::es=>aB (r e) (gJ r es)
noncomputable def uG(op:BoolOp):List ME->ME
 |[]=>cD|[m]=>m|m::r=>match op with
  |.And=>dZ m (uG op r)|.Or=>wX m (uG op r)
noncomputable def uH(op:BoolOp):List MT->MT
 |[]=>m7|[m]=>m|m::r=>match op with
  |.And=>fP m (uH op r)|.Or=>gC m (uH op r)
noncomputable def Ep(op:a2U)(a b:ME):ME:=match op with
 |.Add=>aC bI a b|.Sub=>aC cQ a b|.Mult=>aC cF a b|.FloorDiv=>aC dB a b|.Mod=>aC aV a b|_=>cD
noncomputable def mB(op:ZH)(ns:Bool)(a b:ME):ME:=match op with
 |.Eq=>aC (aT b4) a b|.NotEq=>aC (aT b5) a b|.Lt=>aC dQ a b|.LtE=>aC oD a b|.Gt=>aC kN a b|.GtE=>aC pV a b|.In=>if ns=b5 then aC (cM b4) a b else cD|.NotIn=>if ns=b5 then aC (cM b5) a b else cD|.Is=>aC (fA b4) a b|.IsNot=>aC (fA b5) a b
noncomputable def o4(r:Expr->ME):Option Expr->MO
 |none=>kM|some e=>jS (r e)
noncomputable def uI(S:Sig)(c:Cs):Expr->Option (List (bG×D))
 |.Name x _=>if glob c x=b5 then S.tab.lookup x else b3|_=>b3
noncomputable def bL:MF:=λds b=>match ds with
 |[.loc a]=>match b[a]? with
  |some (.lst xs)=>b0 (.int xs.length,b)|some (.st ks)=>b0 (.int ks.length,b)|some (.dT kvs)=>b0 (.int kvs.length,b)|_=>b3
 |_=>pW ds b
noncomputable def yY:MF:=λds a=>match ds with
 |[x]=>(bM a x).map λb=>(.tup b,a)|_=>b3
theorem PY{K:V8}:dP K yY (λxs H Q=>∃p b,xs=[.ref p]/\((SqL K H p b/\∀l,H l=b3->Q (.ref l) (aK H l (.tup b)))\/(SqT K H p b/\Q (.ref p) H))):=by
 intro g H s xs d o r Q R i a k;unfold yY at a;split at a
 .obtain⟨b,h,j⟩:=Wb.mp a;cases j;cases i with
  |cons i t=>
   cases t;obtain⟨p,e,rfl,q,hd⟩:=m3 R i h;refine⟨p,e,rfl,?_⟩;rcases q with q|q
   .refine .inl ⟨q,λl n=>?_⟩;obtain⟨c,R2⟩:=R.fresh (o:=.tup e) n;exact k g _ _ c R2 (.tup (.of cP) (hd.mono c))
   .exact .inr ⟨q,k g _ H .refl R (.tup q hd)⟩
 .cases a
noncomputable def j8:MF:=λds b=>match ds with
 |[.loc a]=>match b[a]? with
  |some (.dT kvs)=>b0 (.loc b.length,b++[.lst (kvs.map λk=>D.tup (k.1.map D.int))])|_=>pX [.loc a] b
 |ds=>pX ds b
theorem PZ{K:V8}:dP K j8 (λxs H Q=>(∃p g,xs=[.ref p]/\(SqL K H p g\/SqT K H p g)/\∀l,H l=b3->Q (.ref l) (aK H l (.lst g)))\/DO K xs H Q):=by
 intro o H n xs d c j Q R i b k;unfold j8 at b;split at b
 .rename_i a;split at b
  .rename_i e u;cases b;cases i with
   |cons i t=>cases t;cases i;obtain⟨h,r,T⟩:=jB R u;refine .inr ⟨_,h,rfl,r,T.keys,λl s=>?_⟩;obtain⟨q,R2,_⟩:=R.alloc (c:=.lst (e.map λk:List Int×D=>D.tup (k.1.map D.int))) (o:=.lst (h.map λp:List Int×Addr×V=>V.ref p.2.1)) s T.to.2.1;exact k _ _ _ q R2 jT
  .exact .inl (CI o H n _ d c j Q R i b k)
 .exact .inl (CI o H n _ d c j Q R i b k)
noncomputable def yZ(x:Str):Option MF:=
 if x="len" then b0 bL
 else if x="isinstance" then b0 fG
 else if x="int" then b0 lQ
 else if x="list" then b0 j8
 else if x="tuple" then b0 yY
 else if x="all" then b0 tK
 else if x="sorted" then b0 nO
 else if x="sum" then b0 kU
 else if x="min" then b0 kW else if x="max" then b0 qR
 else b3
noncomputable def P0(K:V8):gz->Hp->VK->Prop:=λxs H Q=>xJ K xs H Q\/(∃a L,xs=[V.ref a]/\H a=b0 (sM a L)/\Q (.int L.length) H)\/DN K xs H Q
theorem P1{K:V8}:dP K bL (P0 K):=by
 intro g H l r d e j Q R i b k;unfold bL at b;split at b
 .rename_i a;split at b
  .rename_i s c;refine .inl (CH g H l _ d e j Q R i ?_ k);simp only[pW,bM,c];exact b
  .rename_i o c;cases b;cases i with
   |cons i t=>cases t;cases i;obtain⟨L,h,n,_⟩:=R.st a o c;have:=congrArg Xm n;rw[V7]at this;refine .inr (.inl ⟨_,L,rfl,h,?_⟩);rw[this];exact k g _ H .refl R (.int _)
  .rename_i p c;cases b;cases i with
   |cons i t=>cases t;cases i;obtain⟨q,h,T⟩:=jB R c;have:=congrArg Xm T.to.1;rw[V7,V7]at this;refine .inr (.inr ⟨_,q,rfl,h,T.keys,?_⟩);rw[this];exact k g _ H .refl R (.int _)
  .cases b
 .exact .inl (CH g H l _ d e j Q R i b k)
theorem P2{X:Cx}{x:Str}{f:MF}(a:X.calm=b5)(b:X.A.units+64<XM)(h:yZ x=b0 f):∃v r,X0 x=b0 v/\((∃id,v=.builtin id)\/∃T,v=.type T)/\CallR X v r/\dP X.K f r/\x ≠ "__name__":=by
 unfold yZ at h;split at h
 .rename_i e;subst e;cases h;exact⟨_,_,a3X,.inl ⟨_,rfl⟩,call_lenM.or (call_lenT.or OD),P1,by decide⟩
 split at h
 .rename_i e;subst e;cases h;exact⟨_,_,a3Y,.inl ⟨_,rfl⟩,Lz,Lx,by decide⟩
 split at h
 .rename_i e;subst e;cases h;exact⟨_,_,a0F,.inr ⟨_,rfl⟩,IY,Lv,by decide⟩
 split at h
 .rename_i e;subst e;cases h;exact⟨_,_,ZM,.inr ⟨_,rfl⟩,call_list_of.or (OE a),PZ,by decide⟩
 split at h
 .rename_i e;subst e;cases h;exact⟨_,_,ZG,.inr ⟨_,rfl⟩,BU,PY,by decide⟩
 split at h
 .rename_i e;subst e;cases h;exact⟨_,_,a4a,.inl ⟨_,rfl⟩,Nu a,Nt rfl,by decide⟩
 split at h
 .rename_i e;subst e;cases h;exact⟨_,_,a0u,.inl ⟨_,rfl⟩,PV b,PU,by decide⟩
 split at h
 .rename_i e;subst e;cases h;exact⟨_,_,a3S,.inl ⟨_,rfl⟩,NF a,ND,by decide⟩
 split at h
 .rename_i e;subst e;cases h;exact⟨_,_,a3V,.inl ⟨_,rfl⟩,(PJ a b).or (IX a),Ej NG,by decide⟩
 split at h
 .rename_i e;subst e;cases h;exact⟨_,_,a3W,.inl ⟨_,rfl⟩,(PK a b).or (IW a),Ej NH,by decide⟩
 .cases h
noncomputable def y8(x:Str):Option MF:=
 if x="dict" then b0 nK else
 yZ x
theorem P4{X:Cx}{x:Str}{f:MF}(a:X.calm=b5)(b:X.A.units+64<XM)(h:y8 x=b0 f):∃v r,X0 x=b0 v/\((∃id,v=.builtin id)\/∃T,v=.type T)/\CallR X v r/\dP X.K f r/\x ≠ "__name__":=by
 unfold y8 at h;split at h
 .rename_i e;subst e;cases h;exact⟨_,_,a0B,.inr ⟨_,rfl⟩,OW a b,OX,by decide⟩
 exact P2 a b h
noncomputable def uJ:Expr->Option (Expr×List Expr)
 |.Call f as [] _=>b0 (f,as)|_=>b3
theorem Er{e f:Expr}{as:List Expr}(h:uJ e=b0 (f,as)):∃pos,e=.Call f as [] pos:=by
 unfold uJ at h;split at h
 .cases h;exact⟨_,rfl⟩
 .cases h
noncomputable def qW:Expr->Option Str
 |.Name x _=>b0 x|_=>b3
theorem y9{e:Expr}{x:Str}(h:qW e=b0 x):∃p,e=.Name x p:=by
 unfold qW at h;split at h
 .cases h;exact⟨_,rfl⟩
 .cases h
noncomputable def o1:List Expr->Option Expr
 |[e]=>b0 e|_=>b3
theorem Es{l:List Expr}{e:Expr}(h:o1 l=b0 e):l=[e]:=by
 unfold o1 at h;split at h
 .cases h;rfl
 .cases h
noncomputable def o2:List Expr->Option (Expr×Expr)
 |[a,b]=>b0 (a,b)|_=>b3
theorem P5{l:List Expr}{a b:Expr}(h:o2 l=b0 (a,b)):l=[a,b]:=by
 unfold o2 at h;split at h
 .cases h;rfl
 .cases h
noncomputable def Et(m:Str)(n:Nat):Option (D->List D->Hm->jk):=
 if n=1 then(if m="append" then b0 dU
  else if m="extend" then b0 kS
  else if m="index" then b0 oS
  else if m="remove" then b0 o3
  else if m="pop" then b0 nC
  else b3)
 else b3
noncomputable def Eu(S:Sig)(o:Expr)(m:Str)(n:Nat):Option (D->List D->Hm->jk):=
 if m="setdefault"/\n=2 then b0 f6 else
 if m="get"/\n=2 then b0 l6 else
 b3
noncomputable def zA(S:Sig)(c:Cs)(tg:Expr):Expr->Option Nat
 |.Name x _=>match tg with
  |.Name _ _=>if S.dIt.contains x=b5 then l7 x c.N else b3|_=>b3
 |_=>b3
noncomputable def zB(S:Sig)(F:Str->MF)(r:Expr->ME)(c:Cs)(f:Expr)(args:List Expr)(a:XX):ME:=match f with
 |.Name x _=>if glob c x&&args.all dR then(match S.fn.lookup x with
   |some n=>if args.length=n then aF (F x) (gJ r args)else cD|none=>
   if S.no.contains x&&!args.isEmpty then(match y8 x with|some g=>aF g (gJ r args)|none=>cD)else cD)
  else cD
 |.Attribute o m apos=>if lU o&&(apos.endLine==a.line)&&args.all dR then(
   match Eu S o m args.length with
   |some g=>j5 g (r o) (gJ r args)|none=>
   match Et m args.length with
   |some g=>cS g (r o) (gJ r args)|none=>
    cD)
  else cD
 |_=>cD
noncomputable def zC(f:Expr)(args:List Expr):Option (Str×Str×Expr):=(qW f).bind λx=>(o1 args).bind λa=>(uJ a).bind λg=>(qW g.1).bind λy=>(o1 g.2).map λe=>(x,y,e)
theorem Ew{f:Expr}{args:List Expr}{x y:Str}{e:Expr}(h:zC f args=b0 (x,y,e)):∃p c pos,f=.Name x p/\args=[.Call (.Name y c) [e] [] pos]:=by obtain⟨n,d,h⟩:=V6.mp h;obtain⟨a,i,h⟩:=V6.mp h;obtain⟨g,j,h⟩:=V6.mp h;obtain⟨o,b,h⟩:=V6.mp h;obtain⟨l,k,h⟩:=Wb.mp h;cases h;obtain⟨p,rfl⟩:=y9 d;obtain⟨pos,rfl⟩:=Er j;obtain⟨c,b⟩:=y9 b;exact⟨p,c,pos,rfl,by rw[Es i,b,Es k]⟩
noncomputable def P6(f:Expr)(args:List Expr):Option (Bool×Expr):=(zC f args).bind λt=>
 if t.1="list"/\t.2.1="reversed" then b0 (b5,t.2.2)else
 b3
noncomputable def Ex:Bool->Str
 |false=>"range"|true=>"reversed"
noncomputable def lstM:Bool->MF
 |true=>lX|false=>lX
noncomputable def zD(S:Sig)(F:Str->MF)(r:Expr->ME)(c:Cs)(f:Expr)(args:List Expr)(a:XX):ME:=
 match P6 f args with
 |some (b,e)=>if glob c "list" && glob c (Ex b)&&S.no.contains "list" && S.no.contains (Ex b)&&dR e then aF (lstM b) (gJ r [e])else cD|none=>zB S F r c f args a
noncomputable def zE:Expr->Option (Expr×XX×XX)
 |.Call g [] [] cpos=>match g with
  |.Attribute o m apos=>if m="items" then b0 (o,apos,cpos)else b3|_=>b3
 |_=>b3
theorem P7{e o:Expr}{a b:XX}(h:zE e=b0 (o,a,b)):e=.Call (.Attribute o "items" a) [] [] b:=by
 unfold zE at h;split at h
 .split at h
  .split at h
   .rename_i c;cases h;rw[c]
   .cases h
  .cases h
 .cases h
noncomputable def P8(f:Expr)(args:List Expr):Option (Expr×XX×XX):=(zC f args).bind λt=>if t.1="tuple"/\t.2.1="sorted" then zE t.2.2 else b3
noncomputable def zF(S:Sig)(F:Str->MF)(r:Expr->ME)(c:Cs)(f:Expr)(args:List Expr)(a:XX):ME:=
 match P8 f args with
 |some q=>if glob c "sorted" && glob c "tuple" && S.no.contains "sorted" && S.no.contains "tuple" && lU q.1&&(q.2.1.endLine==q.2.2.line)then uC (r q.1)else cD|none=>
 zD S F r c f args a
noncomputable def o6(c:Cs)(scope:YH)(xs:List Str):Bool:=
 (scope.names.all λy=>decide (y.2≠.cell))&&decide (scope.kind=.function)&&(scope.names.all λy=>decide (y.2≠.local)||decide (scope.names.lookup y.1=b0 .local)) &&
 (xs.all λx=>decide (scope.names.lookup x=b0 .local))&&decide xs.Nodup&&(scope.names.all λy=>decide (y.2≠.free)||decide (c.ks.lookup y.1=b0 .cell)||decide (c.ks.lookup y.1=b0 .free)) &&
 (scope.names.all λy=>decide (y.2≠.local)||!(bN xs c.N).contains y.1)&&decide (bN xs c.N).Nodup&&(c.N.all λy=>!xs.contains y||decide (scope.names.lookup (oE y)=b3))
noncomputable def qX(c:Cs)(scope:YH)(xs:List Str):Cs:=
 ⟨bN xs c.N++xs,scope.names.map λ(n,k)=>if(k==Yt&&c.ks.lookup n==b0 .cell)then(n,YD)else(n,k)⟩
noncomputable def Ey(r:Expr->MT):List Expr->MT
 |[]=>eI|[t]=>r t|_=>m7
noncomputable def zG(S:Sig)(c:Cs):Expr->Option (List Expr)
 |.Call (.Name x _) args [] _=>if x="range" then(if glob c x&&S.no.contains x&&args.all dR then b0 args else b3)else b3|_=>b3
noncomputable def uK(S:Sig)(r:Expr->ME)(c:Cs)(e:Expr):MI:=match zG S c e with
 |some [a]=>fZ (gJ r [a])|some [a,b]=>lT (gJ r [a,b])|some [a,b,d]=>oT (gJ r [a,b,d])|some _=>CQ|none=>bV (r e)
noncomputable def zH(S:Sig)(c:Cs):Expr->Option Expr
 |.Call (.Name x _) [a] [] _=>if x="enumerate" then(if glob c x&&S.no.contains x&&dR a then b0 a else b3)else b3|_=>b3
noncomputable def zI(S:Sig)(r:Expr->ME)(c:Cs)(e:Expr):MI:=match zH S c e with
 |some a=>nE (gJ r [a])|none=>uK S r c e
noncomputable def Ez(S:Sig)(c:Cs)(e:Expr):Option (Expr×Expr):=(uJ e).bind λg=>(qW g.1).bind λx=>(o2 g.2).bind λt=>if x="zip" then(if glob c x&&S.no.contains x&&dR t.1&&dR t.2 then b0 t else b3)else b3
noncomputable def zJ(S:Sig)(r:Expr->ME)(c:Cs)(e:Expr):MI:=match Ez S c e with
 |some (a,b)=>qJ (gJ r [a,b])|none=>zI S r c e
noncomputable def zK:Expr->Option (List Str)
 |.Name x _=>b0 [x]|.Tuple es _ _=>es.mapM λe=>match e with|.Name x _=>b0 x|_=>b3
 |_=>b3
noncomputable def zL:Expr->Nat->BD
 |.Tuple ..,n=>i9 n|_,_=>oG
noncomputable def qY(S:Sig)(r:Expr->ME)(c:Cs)(tg e:Expr):MI:=match tg with
 |.Tuple ..=>zJ S r c e|_=>uK S r c e
noncomputable def mD(b:MI)(d:Cs->Expr->ME)(e:Cs->Expr->MT)(c:Cs)(elt tg iter:Expr)(ifs:List Expr)(scope:YH):ME:=match zK tg with
 |some a=>if o6 c scope a&&fY iter then eZ (zL tg a.length) b (Ey (e (qX c scope a)) ifs) (d (qX c scope a) elt)else cD|none=>cD
noncomputable def zM(S:Sig)(a:Cs->Expr->ME)(b:Cs->Expr->MT)(c:Cs)(elt tg iter:Expr)(ifs:List Expr)(scope:YH):ME:=
 match zA S c tg iter with
 |some i=>oZ i (mD (lZ (a c iter)) a b c elt tg iter ifs scope) cD|none=>
 mD (qY S (a c) c tg iter) a b c elt tg iter ifs scope
noncomputable def EA:Const->ME
 |.int i=>mC (.int i)|.bool b=>mC (.bl b)|.str s=>mC (.str s)|.none=>mC .non|_=>cD
noncomputable def EB(m:ME):UnaryOp->ME
 |.USub=>eY m|.Not=>lO m|_=>cD
noncomputable def zN(S:Sig)(r:Expr->ME)(a:Expr):List ZH->List Expr->ME
 |[op],[b]=>mB op (fY b) (r a) (r b)
 |[op,op'],[b,b']=>(match kT op,kT op' with
  |some p,b0 q=>gH (gF p) (gF q) (r a) (r b) (r b')
  |_,_=>cD)
 |_,_=>cD
noncomputable def zO(S:Sig)(c:Cs):List ZH->List Expr->Option (List (bG×D))
 |[.In],[b]=>uI S c b|_,_=>b3
noncomputable def zP(S:Sig)(c:Cs)(r:Expr->ME)(a:Expr)(ops:List ZH)(bs:List Expr):ME:=match zO S c ops bs with
 |some b=>xR b (r a)|none=>zN S r a ops bs
noncomputable def zQ(r:Expr->ME):List (Option Expr)->List Expr->ME
 |[],[]=>jC|_,_=>cD
noncomputable def zR(S:Sig)(r:Expr->ME)(c:Cs)(a b:Expr):ME:=match b with
 |.Slice lo hi b3 _=>mW (r a) (o4 r lo) (o4 r hi)|.Slice lo hi (b0 st) _=>oP (r a) (o4 r lo) (o4 r hi) (o4 r (b0 st))|b=>if m5 b then(match uI S c a with|some d=>qA d (r b)|none=>aC aE (r a) (r b))else cD
noncomputable def zS(r:Expr->ME)(es:List Expr):ME:=if es.all dR then aX (gJ r es)else cD
noncomputable def zT(r:Expr->ME)(es:List Expr):ME:=if es.all dR then b6 (gJ r es)else cD
noncomputable def zU(S:Sig)(F:Str->MF)(r:Expr->ME)(c:Cs)(f:Expr)(args:List Expr)(a:XX):List Zv->ME
 |[]=>zF S F r c f args a|_=>cD
noncomputable def zV(S:Sig)(a:Cs->Expr->ME)(b:Cs->Expr->MT)(c:Cs)(elt:Expr)(scope:YH):List Comprehension->ME
 |[⟨tg,iter,ifs,0⟩]=>zM S a b c elt tg iter ifs scope|_=>cD
noncomputable def EC(S:Sig)(F:Str->MF)(d:Cs->Expr->ME)(e:Cs->Expr->MT)(c:Cs):Expr->ME
 |.Name x _=>yX S c x|.Constant v _ _=>EA v|.BinOp a op b _=>Ep op (d c a) (d c b)|.UnaryOp op a _=>EB (d c a) op|.Compare a ops bs _=>zP S c (d c) a ops bs|.BoolOp op vs _=>uG op (vs.map (d c))|.IfExp t a b _=>gZ (e c t) (d c a) (d c b)|.Tuple es _ _=>zS (d c) es|.List es _=>zT (d c) es|.Dict keys values _=>zQ (d c) keys values|.Subscript a b _=>zR S (d c) c a b|.Call f args kws cpos=>zU S F (d c) c f args cpos kws|.ListComp elt gs scope _=>zV S d e c elt scope gs|_=>cD
noncomputable def qZ(r:Expr->ME)(e:Expr):MT:=if xM e then cV (r e)else m7
noncomputable def zW(S:Sig)(r:Expr->ME)(a:Expr)(ops:List ZH)(bs:List Expr)(p:XX):MT:=match ops,bs with
 |[op],[b]=>aQ (mB op (fY b) (r a) (r b))
 |[op,op'],[b,b']=>(match kT op,kT op' with
  |some p,b0 q=>aQ (gH (gF p) (gF q) (r a) (r b) (r b'))
  |_,_=>m7)
 |ops,bs=>qZ r (.Compare a ops bs p)
noncomputable def P9(r:Expr->ME)(t:MT)(a:Expr)(p:XX):UnaryOp->MT
 |.Not=>t|op=>qZ r (.UnaryOp op a p)
noncomputable def ED(S:Sig)(b:Cs->Expr->ME)(d:Cs->Expr->MT)(c:Cs):Expr->MT
 |.BoolOp op vs _=>uH op (vs.map (d c))|.UnaryOp op a p=>P9 (b c) (eX (d c a)) a p op|.Compare a ops bs p=>zW S (b c) a ops bs p|e=>qZ (b c) e
noncomputable def tr(S:Sig)(F:Str->MF):Nat->(Cs->Expr->ME)×(Cs->Expr->MT)
 |0=>(λ_ _=>cD,λ_ _=>m7)|n+1=>(EC S F (tr S F n).1 (tr S F n).2,ED S (tr S F n).1 (tr S F n).2)
structure Okx(S:Sig)(F:Str->MF)(k:Nat)(c:Cs)(X:Cx):Prop where
 N:X.N=c.N
 nd:X.N.Nodup
 ks:X.env.scope.names=c.ks
 kind:X.env.scope.kind=.function
 calm:X.calm=b5
 room:Room k X.A
 never:a2m (WM X.prog X.w) X.A X.env X.xe
 fn:∀x n,S.fn.lookup x=b0 n->∃(f:Addr)(fd:YI)(ps:List Str),FnOk X.prog X.w X.K X.mg X.base fW k f fd ps (i0 X.K n (F x))/\X.mg x=b0 (.ref f)/\X8 X.K (.ref f)=b5/\Binds X.K fd ps []
 con:∀x d,S.con.lookup x=b0 d->∃v u,X.mg x=b0 u/\RelV v u/\∀π n H,IsD X.K π n H v d
 tab:∀x kvs,S.tab.lookup x=b0 kvs->TabOk X x kvs
 no:∀x,S.no.contains x=b5->X.mg x=b3
section
variable{S:Sig}{F:Str->MF}{k:Nat}{c:Cs}{X:Cx}
theorem Qa(ks:X.env.scope.names=c.ks){x:Str}(h:glob c x=b5):Gl X x/\(x==("__debug__":Str))=false:=by unfold glob at h;rw[Wl]at h;refine⟨?_,by simpa using h.2⟩;show X.env.scope.names.lookup x=_;rw[ks];exact of_decide_eq_true h.1
theorem Qb(ks:X.env.scope.names=c.ks){x:Str}(h:mT c x=b5):mR X.env.scope x/\(x==("__debug__":Str))=b4/\(x==("__classdict__":Str))=false:=by
 unfold mT at h;rw[Wl,Wl,Zy,Zy]at h;obtain⟨⟨a,b⟩,d⟩:=h;refine⟨?_,by simpa using b,by simpa using d⟩;unfold mR;rw[ks];rcases a with(a|a)|a
 .exact .inl (of_decide_eq_true a)
 .exact .inr (.inl (of_decide_eq_true a))
 .exact .inr (.inr (of_decide_eq_true a))
theorem Okx.gl(O:Okx S F k c X){x:Str}(h:glob c x=b5):Gl X x/\(x==("__debug__":Str))=false:=Qa O.ks h
theorem Okx.vis(O:Okx S F k c X){x:Str}(h:mT c x=b5):mR X.env.scope x/\(x==("__debug__":Str))=b4/\(x==("__classdict__":Str))=false:=Qb O.ks h
theorem Qd(O:Okx S F k c X)(x:Str)(pos:XX):QE X (.Name x pos) (yX S c x):=by
 unfold yX;split
 .rename_i h;obtain⟨a,b,j⟩:=O.vis h;split
  .rename_i i l;exact LC i (by rw[O.N];exact qV l) a b j
  .exact cG
 split
 .rename_i h;obtain⟨a,b⟩:=O.gl h;split
  .rename_i d hd;obtain⟨v,u,m,r,i⟩:=O.con x d hd;exact⟨n9 (HA a m r b) i⟩
  .split
   .rename_i o;split
    .rename_i n p;obtain⟨e,g⟩:=PX p;exact Me (O.no x o) e a g b
    .exact cG
   .exact cG
 .exact cG
theorem jE{r:Expr->ME}(a:∀e,QE X e (r e)):∀(es:List Expr),es.all dR=b5->QA X es (gJ r es) es.length
 |[],_=>L1|e::es,h=>by rw[W3,Wl]at h;exact L4 (a e) (jE a es h.2) h.1
theorem EE{r:Expr->ME}(a:∀e,QE X e (r e))(op:BoolOp)(pos:XX):∀(vs:List Expr),QE X (.BoolOp op vs pos) (uG op (vs.map r))
 |[]=>cG|[e]=>LX (a e)|e::d::es=>by
  have b:=EE a op pos (d::es);cases op with
  |And=>exact LY (a e) b|Or=>exact LZ (a e) b
theorem EF{r:Expr->MT}(a:∀e,QT X e (r e))(op:BoolOp)(pos:XX):∀(vs:List Expr),QW X (.BoolOp op vs pos) (uH op (vs.map r))
 |[]=>M6|[e]=>by
  cases op with
  |And=>exact Mo (a e)|Or=>exact Mp (a e)
 |e::d::es=>by
  have b:=EF a op pos (d::es);cases op with
  |And=>exact Mq (a e) b|Or=>exact Mr (a e) b
theorem Qe{a b:Expr}{g h:ME}(d:QE X a g)(e:QE X b h)(op:a2U)(pos:XX):QE X (.BinOp a op b pos) (Ep op g h):=by
 cases op with
 |Add=>exact LJ d e|Sub=>exact LK d e|Mult=>exact LL d e|FloorDiv=>exact LM d e|Mod=>exact LN d e|_=>exact cG
theorem Qf(O:Okx S F k c X){a b:Expr}{g i:ME}(d:QE X a g)(e:QE X b i)(op:ZH)(pos:XX):QE X (.Compare a [op] [b] pos) (mB op (fY b) g i):=by
 cases op with
 |Eq=>exact LQ O.room d e|NotEq=>exact LR O.room d e|Lt=>exact LS d e|LtE=>exact LU d e|Gt=>exact LV d e|GtE=>exact LW d e|In=>
  simp only[mB];split
  .rename_i h;exact OG O.room d e h
  .exact cG
 |NotIn=>
  simp only[mB];split
  .rename_i h;exact OH O.room d e h
  .exact cG
 |Is=>exact Nz d e|IsNot=>exact NA d e
theorem EG{e:Expr}:QT X e (aQ cD):=⟨λa6r s σ H Q I h=>by
 obtain⟨i,j,g,d,b,R,E,a,k⟩:=h;cases a⟩
theorem Qg(O:Okx S F k c X){a b:Expr}{g i:ME}(d:QE X a g)(e:QE X b i)(op:ZH)(pos:XX):QT X (.Compare a [op] [b] pos) (aQ (mB op (fY b) g i)):=by
 cases op with
 |Eq=>exact Mf O.room d e|NotEq=>exact Mg O.room d e|Lt=>exact Mh d e|LtE=>exact Mi d e|Gt=>exact Mj d e|GtE=>exact Ml d e|In=>
  simp only[mB];split
  .rename_i h;exact OI O.room d e h
  .exact EG
 |NotIn=>
  simp only[mB];split
  .rename_i h;exact OJ O.room d e h
  .exact EG
 |Is=>exact NB d e|IsNot=>exact NC d e
theorem q8{r:Expr->ME}(a:∀e,QE X e (r e)):∀o:Option Expr,QO X o (o4 r o)
 |none=>L8|some e=>L9 (a e)
theorem EH(O:Okx S F k c X){a:Expr}{kvs:List (bG×D)}(h:uI S c a=b0 kvs):∃x p,a=.Name x p/\TabOk X x kvs/\Gl X x/\(x==("__debug__":Str))=false:=by
 unfold uI at h;split at h
 .split at h
  .rename_i e;obtain⟨b,d⟩:=O.gl e;exact⟨_,_,rfl,O.tab _ _ h,b,d⟩
  .cases h
 .cases h
theorem Qh(O:Okx S F k c X){r:Expr->ME}(j:∀e,QE X e (r e))(f:Expr)(args:List Expr)(l:XX):QE X (.Call f args [] l) (zB S F r c f args l):=by
 unfold zB;split
 .rename_i x p;split
  .rename_i w;rw[Wl]at w;obtain⟨z,A⟩:=O.gl w.1;have d:=jE j args w.2;split
   .rename_i n u;split
    .rename_i b;obtain⟨Q,R,U,E,a,L,B⟩:=O.fn x n u;subst b;cases args with
     |nil=>exact Np E O.room a L B z A|cons e y=>exact Mb E O.room a L B d z A
    .exact cG
   .skip;split
    .rename_i i;rw[Wl]at i;split
     .rename_i g B;obtain⟨v,Y,H,M,I,J,K⟩:=P4 (X:=X) O.calm O.room.units B;cases args with
      |nil=>exact absurd i.2 (by simp)|cons e y=>
       rcases M with⟨id,rfl⟩|⟨T,rfl⟩
       .exact Mc I J (O.no x i.1) H d z K A
       .exact Md I J (O.no x i.1) H d z K A
     .exact cG
    .exact cG
  .exact cG
 .rename_i o m G;split
  .rename_i w;rw[Wl,Wl]at w;obtain⟨⟨q,s⟩,N⟩:=w;have d:=jE j args N;split
   .rename_i g a;unfold Eu at a;split at a
    .rename_i b;obtain⟨rfl,b⟩:=b;cases a;cases args with
     |nil=>cases b|cons e y=>exact D8 a1p PySem.F.type_dict_setdefault (Pj (by have:=O.room.units;lia)) Ph (j o) d q s (by rw[b];decide)
    split at a
    .rename_i b;obtain⟨rfl,b⟩:=b;cases a;cases args with
     |nil=>cases b|cons e y=>exact D8 a2s PySem.F.type_dict_get (Pe (by have:=O.room.units;lia)) Pd (j o) d q s (by rw[b];decide)
    cases a
   split
   .rename_i g a;unfold Et at a;split at a
    .rename_i b;cases args with
     |nil=>cases b|cons e y=>
      have u:(e::y).length<30:=by rw[b];decide
      split at a
      .rename_i h;subst h;cases a;exact qB PySem.F.slot_list_append PySem.F.type_list_append BY Nh (j o) d q s u
      split at a
      .rename_i h;subst h;cases a;exact qB PySem.F.slot_list_extend PySem.F.type_list_extend JQ Ni (j o) d q s u
      split at a
      .rename_i h;subst h;cases a;exact qB PySem.F.slot_list_index PySem.F.type_list_index (NZ (by have:=O.room.units;lia)) NY (j o) d q s u
      split at a
      .rename_i h;subst h;cases a;exact qB PySem.F.slot_list_remove PySem.F.type_list_remove (Py (by have:=O.room.units;lia)) Pw (j o) d q s u
      split at a
      .rename_i h;subst h;cases a;exact qB PySem.F.slot_list_pop PySem.F.type_list_pop JR Nl (j o) d q s u
      .cases a
    .cases a
   .skip
    .exact cG
  .exact cG
 .exact cG
theorem Qi(O:Okx S F k c X){r:Expr->ME}(j:∀e,QE X e (r e))(f:Expr)(args:List Expr)(a:XX):QE X (.Call f args [] a) (zD S F r c f args a):=by
 unfold zD;split
 .rename_i b e h;split
  .rename_i i;rw[Wl,Wl,Wl,Wl]at i;obtain⟨⟨⟨⟨l,n⟩,s⟩,u⟩,st⟩:=i;have q:=jE j [e] (by rw[W3,st];rfl);obtain⟨t,o,g⟩:=V6.mp h;obtain⟨p,w,v,rfl,rfl⟩:=Ew o;split at g
   .rename_i d;cases g;rw[d.1,d.2];exact N8 O.calm (O.no _ s) (O.no _ u) q (O.gl l).1 (O.gl n).1
   .cases g
  .exact cG
 .exact Qh O j f args a
theorem Qj(nd:X.N.Nodup)(e:X.N=c.N)(ks:X.env.scope.names=c.ks){scope:YH}{xs:List Str}(h:o6 c scope xs=b5):CompSt X.env.scope X.N scope xs/\xs.Nodup:=by
 unfold o6 at h;rw[Wl,Wl]at h;obtain⟨⟨h,b⟩,r⟩:=h;have b:=of_decide_eq_true b;have d:∀y∈c.N,xs.contains y=b5->scope.names.lookup (oE y)=none:=λy a hc=>by have:=Zh.mp r y a;rw[hc]at this;simpa using this
 simp only[Wl,Zh,decide_eq_true_eq,Zy,a1m,List.contains_eq_mem,decide_eq_false_iff_not]at h;obtain⟨⟨⟨⟨⟨⟨i,j⟩,l⟩,n⟩,q⟩,o⟩,p⟩:=h;refine⟨⟨i,j,λy a g=>(l y a).resolve_left (λz=>z g),n,λy a s=>?_,λy a g=>?_,nd,by rw[e];exact b,by rw[e];exact d⟩,q⟩
 .rw[ks];rcases o y a with(z|z)|z
  .exact absurd s z
  .exact .inl z
  .exact .inr z
 .rw[e];have:=(p y a).resolve_left (λz=>z g);exact this
theorem rA(O:Okx S F k c X){scope:YH}{xs:List Str}(h:o6 c scope xs=b5):CompSt X.env.scope X.N scope xs/\xs.Nodup:=Qj O.nd O.N O.ks h
theorem EI{N xs:List Str}(h:N.Nodup)(d:xs.Nodup)(g:∀x∈xs,x∉N):(N++xs).Nodup:=by rw[Y4];exact⟨h,d,λa i b j e=>by subst e;exact g _ j i⟩
theorem EJ{scope:YH}{xs:List Str}(Q:CompSt X.env.scope X.N scope xs/\xs.Nodup):(bN xs X.N++xs).Nodup:=EI Q.1.hnd Q.2 λx a=>Q.1.own (x,.local) (XD (Q.1.here x a)) rfl
theorem Qk(a:X.env.scope.kind=.function)(ks:X.env.scope.names=c.ks)(scope:YH)(xs:List Str):(a5f scope X.env).names=(qX c scope xs).ks:=by
 unfold a5f qX;dsimp only;refine XF λy _=>?_;obtain⟨n,b⟩:=y;dsimp only;have:(X.env.scope.kind==ScopeKind.function)=true:=by rw[a];rfl
 rw[this,a4Z];show(if(b==Yt&&X.env.scope.names.lookup n==b0 YD)=b5 then _ else _)=_;rw[ks]
theorem Okx.comp(O:Okx S F k c X){scope:YH}{xs:List Str}(h:o6 c scope xs=b5){cl:List (Str×Addr)}{C:Addr}{s₀:Wf}{H₀:Hp}{b:List Addr}:Okx S F k (qX c scope xs) (cL X scope cl C (bN xs X.N++xs) s₀ H₀ b):=
 ⟨show bN xs X.N++xs=bN xs c.N++xs by rw[O.N],EJ (rA O h),Qk O.kind O.ks scope xs,(rA O h).1.kind,O.calm,O.room,a3f,O.fn,O.con,λy a q=>⟨(O.tab y a q).ex⟩,O.no
  ⟩
theorem EK{r:Expr->MT}(j:∀e,QT X e (r e)):∀es:List Expr,QI X es (Ey r es)
 |[]=>Mt|[t]=>Mu (j t)
 |a::b::es=>⟨λg s q H Q I h=>by
   obtain⟨o,p,n,d,l,R,E,i,k⟩:=h;cases i⟩
theorem zX(O:Okx S F k c X){e:Expr}{args:List Expr}(h:zG S c e=b0 args):∃p pos,e=.Call (.Name "range" p) args [] pos/\Gl X "range"/\X.mg "range"=b3/\args.all dR=true:=by
 unfold zG at h;split at h
 .split at h
  .rename_i b;subst b;split at h
   .rename_i a;cases h;rw[Wl,Wl]at a;exact⟨_,_,rfl,(O.gl a.1.1).1,O.no _ a.1.2,a.2⟩
   .cases h
  .cases h
 .cases h
theorem EL(O:Okx S F k c X){r:Expr->ME}(n:∀e,QE X e (r e))(e:Expr):QJ X e (uK S r c e):=by
 unfold uK;split
 .rename_i a h;obtain⟨p,l,rfl,g,i,j⟩:=zX O h;exact MW g i (jE n [a] j)
 .rename_i a b h;obtain⟨p,l,rfl,g,i,j⟩:=zX O h;exact MX g i (jE n [a,b] j)
 .rename_i a b d h;obtain⟨p,l,rfl,g,i,j⟩:=zX O h;exact Od g i (jE n [a,b,d] j)
 .exact MN
 .exact MU (n e)
theorem Ql(O:Okx S F k c X){e a:Expr}(h:zH S c e=b0 a):∃p pos,e=.Call (.Name "enumerate" p) [a] [] pos/\Gl X "enumerate"/\X.mg "enumerate"=b3/\dR a=true:=by
 unfold zH at h;split at h
 .split at h
  .rename_i d;subst d;split at h
   .rename_i b;cases h;rw[Wl,Wl]at b;exact⟨_,_,rfl,(O.gl b.1.1).1,O.no _ b.1.2,b.2⟩
   .cases h
  .cases h
 .cases h
theorem Qm(O:Okx S F k c X){r:Expr->ME}(b:∀e,QE X e (r e))(e:Expr):QJT X e (zI S r c e):=by
 unfold zI;split
 .rename_i a h;obtain⟨p,j,rfl,d,g,i⟩:=Ql O h;exact NR d g (jE b [a] (by rw[W3,i];rfl))
 .exact(EL O b e).t
theorem Qn(O:Okx S F k c X){e a b:Expr}(h:Ez S c e=b0 (a,b)):∃p pos,e=.Call (.Name "zip" p) [a,b] [] pos/\Gl X "zip"/\X.mg "zip"=b3/\dR a=b5/\dR b=true:=by
 obtain⟨g,j,n⟩:=V6.mp h;obtain⟨x,l,o⟩:=V6.mp n;obtain⟨t,r,d⟩:=V6.mp o;clear h n o;split at d
 .rename_i q;subst q;split at d
  .rename_i i;cases d;rw[Wl,Wl,Wl]at i;obtain⟨pos,j⟩:=Er j;obtain⟨p,l⟩:=y9 l;exact⟨p,pos,by rw[j,l,P5 r],(O.gl i.1.1.1).1,O.no _ i.1.1.2,i.1.2,i.2⟩
  .cases d
 .cases d
theorem Qo(O:Okx S F k c X){r:Expr->ME}(d:∀e,QE X e (r e))(e:Expr):QJT X e (zJ S r c e):=by
 unfold zJ;split
 .rename_i a b h;obtain⟨p,n,rfl,g,i,j,l⟩:=Qn O h;exact OP g i (jE d [a,b] (by rw[W3,W3,j,l];rfl))
 .exact Qm O d e
theorem zY(O:Okx S F k c X){r:Expr->ME}(a:∀e,QE X e (r e))(tg e:Expr):PI X tg e (tMI X.K (qY S r c tg e)):=by
 unfold qY;split
 .exact(Qo O a e).h _ _ _
 .exact(EL O a e).h _
theorem EM{iter:Expr}{env:a1a}(h:fY iter=b5):∀x,Zf iter env x=pure x:=by intro z;cases iter<;>first|rfl|cases h
end
theorem EO{X:Cx}(c:X.N.Nodup):∀(es:List Expr)(xs:List Str)(n:Nat),(es.mapM λe=>match e with|.Name x _=>b0 x|_=>b3)=b0 xs->(∀j x,xs[j]?=b0 x->X.N[n+j]?=b0 x/\X.env.scope.names.lookup x=b0 .local)->QGs X es (a0G n xs.length)
 |[],xs,n,h,hx=>by cases h;exact CO
 |e::es,xs,n,h,hx=>by
  rw[List.mapM_cons]at h;obtain⟨x,b,h⟩:=V6.mp h;obtain⟨i,d,h⟩:=V6.mp h;cases h;cases e with
  |Name y p=>cases b;rw[WO,a4m];have a:=hx 0 x rfl;refine CP n c (EO c es i (n+1) d λj z g=>?_) (by simpa using a.1) (.inl a.2) (.inr a.2);have:=hx (j+1) z (by simpa using g);rw[show n+1+j=n+(j+1) by lia];exact this|_=>cases b
theorem Qp{c:Cs}{X:Cx}{scope:YH}{x:Str}{p:XX}(Q:CompSt X.env.scope X.N scope [x]/\[x].Nodup)(cl:List (Str×Addr))(C:Addr)(s₀:Wf)(H₀:Hp)(a:List Addr):PG (cL X scope cl C (bN [x] X.N++[x]) s₀ H₀ a) (.Name x p) (tMG X.K (gB X.N.length oG)):=by have d:=EJ Q;have b:(a5f scope X.env).names.lookup x=b0 .local:=a4v (Q.1.here x (by simp));exact MY (X:=cL X scope cl C (bN [x] X.N++[x]) s₀ H₀ a) (by show(bN [x] X.N++[x]).length=_;rw[Wo,mX];rfl) (CC (X:=cL X scope cl C (bN [x] X.N++[x]) s₀ H₀ a) d (by show(bN [x] X.N++[x])[X.N.length]?=_;rw[<- mX [x] X.N];simp) (.inl b) (.inr b))
theorem uL{S:Sig}{F:Str->MF}{k:Nat}{c:Cs}{X:Cx}(O:Okx S F k c X){scope:YH}{tg:Expr}{xs:List Str}(a:zK tg=b0 xs)(h:o6 c scope xs=b5)(cl:List (Str×Addr))(C:Addr)(s₀:Wf)(H₀:Hp)(b:List Addr) :
  PG (cL X scope cl C (bN xs X.N++xs) s₀ H₀ b) tg (tMG X.K (gB X.N.length (zL tg xs.length)))/\∀d n z,zL tg xs.length d n=b0 z->z.length=xs.length:=by
 obtain⟨St,g⟩:=rA O h;have r:(bN xs X.N++xs).Nodup:=EI St.hnd g λx a=>St.own (x,.local) (XD (St.here x a)) rfl;have e:∀x∈xs,(a5f scope X.env).names.lookup x=b0 .local:=λx a=>a4v (St.here x a);unfold zK at a;split at a
 .rename_i x p;cases a;refine⟨Qp (c:=c) ⟨St,g⟩ cl C s₀ H₀ b,λd n z l=>?_⟩;cases l;rfl
 .rename_i q v pt;refine⟨MZ (X:=cL X scope cl C (bN xs X.N++xs) s₀ H₀ b) (by show(bN xs X.N++xs).length=_;rw[Wo,mX]) (xN (X:=cL X scope cl C (bN xs X.N++xs) s₀ H₀ b) (EO (X:=cL X scope cl C (bN xs X.N++xs) s₀ H₀ b) r q xs X.N.length a λj x o=>⟨?_,e x (WS o)⟩) O.calm).h,λd n z l=>?_⟩
  .show(bN xs X.N++xs)[X.N.length+j]?=b0 x;rw[Ye (by rw[mX];lia),mX,show X.N.length+j-X.N.length=j by lia];exact o
  .obtain⟨w,u,i⟩:=V6.mp l;split at i
   .rename_i s;cases i;rw[V7];exact s
   .cases i
 .cases a
theorem Qq(O:Okx S F k c X){r:Expr->ME}(i:∀e,QE X e (r e))(f:Expr)(args:List Expr)(a:XX):QE X (.Call f args [] a) (zF S F r c f args a):=by
 unfold zF;split
 .rename_i q h;split
  .rename_i g;rw[Wl,Wl,Wl,Wl,Wl]at g;obtain⟨⟨⟨⟨⟨j,l⟩,s⟩,u⟩,st⟩,o⟩:=g;obtain⟨t,n,d⟩:=V6.mp h;split at d
   .rename_i b;obtain⟨p,w,v,rfl,rfl⟩:=Ew n;rw[b.1,b.2,P7 d];exact Po O.calm O.room.units (O.no _ s) (O.no _ u) (O.gl j).1 (O.gl l).1 (i _) st o
   .cases d
  .exact cG
 exact Qi O i _ _ _
theorem zZ{S:Sig}{F:Str->MF}{k:Nat}{n:Cs->Expr->ME}{o:Cs->Expr->MT}(p:∀c X,Okx S F k c X->∀e,QE X e (n c e))(r:∀c X,Okx S F k c X->∀e,QT X e (o c e))(c:Cs)(X:Cx)(O:Okx S F k c X)
  (elt tg iter:Expr)(ifs:List Expr)(scope:YH)(pos:XX){l:MI}(u:PI X tg iter (tMI X.K l)):QE X (.ListComp elt [⟨tg,iter,ifs,0⟩] scope pos) (mD l n o c elt tg iter ifs scope):=by
 unfold mD;split
 .rename_i x j;split
  .rename_i h;rw[Wl]at h;refine⟨λg s w H Q I q=>?_⟩;exact M4 ((rA O h.1).1.ok I.ok) O.calm u (λd v z=>(uL O j h.1 [] 0 s H []).2 d v z) (λC b a i=>(uL O j h.1 _ C b a i).1) (λC b a i=>(EK (r _ _ (O.comp h.1)) _).h) (λC b a i=>(p _ _ (O.comp h.1) _).h) (EM h.2) g s w H Q I q
  .exact cG
 .exact cG
theorem Qr{S:Sig}{F:Str->MF}{k:Nat}{d:Cs->Expr->ME}{g:Cs->Expr->MT}(a:∀c X,Okx S F k c X->∀e,QE X e (d c e))(b:∀c X,Okx S F k c X->∀e,QT X e (g c e))(c:Cs)(X:Cx)(O:Okx S F k c X)
  (elt tg iter:Expr)(ifs:List Expr)(scope:YH)(pos:XX):QE X (.ListComp elt [⟨tg,iter,ifs,0⟩] scope pos) (zM S d g c elt tg iter ifs scope):=by
 unfold zM;split
 .exact O5 (zZ a b c X O elt tg iter ifs scope pos ((yP (a c X O iter)).h tg)) cG
 exact zZ a b c X O elt tg iter ifs scope pos (zY O (a c X O) tg iter)
section
variable{S:Sig}{F:Str->MF}{k:Nat}{c:Cs}{X:Cx}{r:Expr->ME}
theorem Qs(v:Const)(n:Nat)(p:XX):QE X (.Constant v n p) (EA v):=by cases v<;>first|exact LF|exact LG|exact LH|exact LI|exact cG
theorem Qt(b:∀e,QE X e (r e))(op:UnaryOp)(a:Expr)(p:XX):QE X (.UnaryOp op a p) (EB (r a) op):=by cases op<;>first|exact LO (b _)|exact LP (b _)|exact cG
theorem Qu(O:Okx S F k c X)(b:∀e,QE X e (r e))(a:Expr)(ops:List ZH)(bs:List Expr)(p:XX):QE X (.Compare a ops bs p) (zN S r a ops bs):=by
 unfold zN;split
 .exact Qf O (b _) (b _) _ _
 .split
  .rename_i d g;exact Nx d g (b _) (b _) (b _)
  .exact cG
 .exact cG
theorem Qv(O:Okx S F k c X)(b:∀e,QE X e (r e))(a:Expr)(ops:List ZH)(bs:List Expr)(p:XX):QE X (.Compare a ops bs p) (zP S c r a ops bs):=by
 unfold zP;cases h:zO S c ops bs with
 |none=>exact Qu O b a ops bs p|some i=>
  unfold zO at h;split at h
  .obtain⟨x,q,rfl,T,d,g⟩:=EH O h;exact M8 T d g (b _)
  .cases h
theorem Qw(O:Okx S F k c X)(a:∀e,QE X e (r e))(ks:List (Option Expr))(vs:List Expr)(p:XX):QE X (.Dict ks vs p) (zQ r ks vs):=by
 unfold zQ;try split
 .exact Oo
 .exact cG
theorem Qx(O:Okx S F k c X)(d:∀e,QE X e (r e))(a b:Expr)(p:XX):QE X (.Subscript a b p) (zR S r c a b):=by
 unfold zR;split
 .exact Ma (d _) (q8 d _) (q8 d _)
 .exact NM (d _) (q8 d _) (q8 d _) (q8 d _)
 .split
  .rename_i h;split
   .rename_i l j;obtain⟨x,p,rfl,T,g,i⟩:=EH O j;exact M7 T g i (d _) h
   .exact OF O.room (d _) (d _) h
  .exact cG
theorem z7(a:∀e,QE X e (r e))(e:Expr):QT X e (qZ r e):=by
 unfold qZ;split
 .rename_i h;exact Nn (a _) h
 .exact xQ
theorem Qy(O:Okx S F k c X)(b:∀e,QE X e (r e))(a:Expr)(ops:List ZH)(bs:List Expr)(p:XX):QT X (.Compare a ops bs p) (zW S r a ops bs p):=by
 unfold zW;split
 .exact Qg O (b _) (b _) _ _
 .split
  .rename_i d g;exact Ny d g (b _) (b _) (b _)
  .exact xQ
 .exact z7 b _
theorem Qz(a:∀e,QE X e (r e))(es:List Expr)(n:Nat)(p:XX):QE X (.Tuple es n p) (zS r es):=by
 unfold zS;split
 .rename_i h;exact L5 (jE a _ h)
 .exact cG
theorem QC(a:∀e,QE X e (r e))(es:List Expr)(p:XX):QE X (.List es p) (zT r es):=by
 unfold zT;split
 .rename_i h;exact L6 (jE a _ h)
 .exact cG
theorem QD(O:Okx S F k c X)(b:∀e,QE X e (r e))(f:Expr)(args:List Expr)(a:List Zv)(p:XX):QE X (.Call f args a p) (zU S F r c f args p a):=by
 unfold zU;split
 .exact Qq O b _ _ _
 .exact cG
end
theorem ER{S:Sig}{F:Str->MF}{k:Nat}{o:Cs->Expr->ME}{q:Cs->Expr->MT}(z:∀c X,Okx S F k c X->∀e,QE X e (o c e))(A:∀c X,Okx S F k c X->∀e,QT X e (q c e))(c:Cs)(X:Cx)(O:Okx S F k c X) :
  (∀e,QE X e (EC S F o q c e))/\∀e,QT X e (ED S o q c e):=by
 have d:=z c X O;have u:=A c X O;constructor
 .intro e;cases e with
  |Name x p=>exact Qd O _ _|Constant v n p=>exact Qs v n p|BinOp a i b p=>exact Qe (d _) (d _) _ _|UnaryOp i a p=>exact Qt d i a p|Compare a g bs p=>exact Qv O d a g bs p|BoolOp i y p=>exact EE d _ _ _|IfExp t a b p=>exact L0 (u _) (d _) (d _)|Tuple s n p=>exact Qz d s n p|List s p=>exact QC d s p|Dict E y p=>exact Qw O d E y p|Subscript a b p=>exact Qx O d a b p|Call f j w l=>exact QD O d f j w l|ListComp r B h p=>
   show QE X _ (zV S o q c r h B);unfold zV;split
   .exact Qr z A c X O _ _ _ _ _ _
   .exact cG
  |_=>exact cG
 .intro e;cases e with
  |BoolOp i y p=>exact Ms (EF u _ _ _)|UnaryOp i a p=>
   cases i;case Not=>exact Mn (u _)
   all_goals exact z7 d _
  |Compare a g bs p=>exact Qy O d a g bs p|_=>exact z7 d _
theorem z8{S:Sig}{F:Str->MF}{k:Nat}:∀(n:Nat),(∀c X,Okx S F k c X->∀e,QE X e ((tr S F n).1 c e))/\∀c X,Okx S F k c X->∀e,QT X e ((tr S F n).2 c e)
 |0=>⟨λc X O e=>cG,λc X O e=>xQ⟩|n+1=>by have a:=z8 (S:=S) (F:=F) (k:=k) n;exact⟨λc X O e=>(ER a.1 a.2 c X O).1 e,λc X O e=>(ER a.1 a.2 c X O).2 e⟩
noncomputable def uM:MG:=λ_ _ _=>b3
noncomputable def rB(c:Cs):List Expr->Option (List Nat)
 |[]=>b0 []|.Name x _::r=>if l8 c x then(l7 x c.N).bind λi=>(rB c r).map (i::·)else b3|_=>b3
noncomputable def rF(c:Cs):Expr->MG
 |.Name x _=>if l8 c x then(match l7 x c.N with|some i=>cE i|none=>uM)else uM|.Tuple es _ _=>match rB c es with|some a=>d9 a|none=>uM
 |_=>uM
noncomputable def kY(r:Stmt->MS):List Stmt->MS
 |[]=>bF|[s]=>r s|s::t=>aG (r s) (kY r t)
noncomputable def z9(S:Sig)(E:Cs->Expr->ME)(T:Cs->Expr->MT)(c:Cs)(i:Nat):Expr->MS
 |.ListComp elt [⟨tg,iter,ifs,0⟩] scope _=>match zA S c tg iter with
  |some j=>t9 j (aL i (mD (lZ (E c iter)) E T c elt tg iter ifs scope)) eC|none=>aL i (mD (qY S (E c) c tg iter) E T c elt tg iter ifs scope)
 |_=>eC
noncomputable def Aa(S:Sig)(E:Cs->Expr->ME)(T:Cs->Expr->MT)(c:Cs)(tg e:Expr):MS:=match tg with
 |.Name y _=>if l8 c y then(match l7 y c.N with
   |some i=>if jU e then aL i (E c e)else z9 S E T c i e
   |none=>eC)else eC
 |.Tuple es _ _=>if xO e then(match rB c es with|some a=>hV (E c e) (d9 a)|none=>eC)
   else eC
 |.Subscript o i _=>if jU e&&m5 i then iP (E c o) (E c i) (E c e)else eC|_=>eC
noncomputable def mE:Nat:=1000000000
noncomputable def Ab(tg:Expr):Expr->Option (Expr×XX×XX)
 |.Call g [] [] cpos=>match g with
  |.Attribute o m apos=>match tg with
   |.Tuple ..=>if m="items" then b0 (o,apos,cpos)else b3|_=>b3
  |_=>b3
 |_=>b3
theorem QF{tg e:Expr}{q:Expr×XX×XX}(h:Ab tg e=b0 q):e=.Call (.Attribute q.1 "items" q.2.1) [] [] q.2.2/\∃es b p,tg=.Tuple es b p:=by
 unfold Ab at h;split at h
 .split at h
  .split at h
   .split at h
    .rename_i a;cases h;rw[a];exact⟨rfl,_,_,_,rfl⟩
    .cases h
   .cases h
  .cases h
 .cases h
noncomputable def ES(S:Sig)(E:Cs->Expr->ME)(T:Cs->Expr->MT)(c:Cs)(r:Stmt->MS):Stmt->MS
 |.Return (b0 e) _=>aO (E c e)|.Return b3 _=>aO (mC .non)|.If t a b _=>bB (T c t) (kY r a) (kY r b)|.Assign [tg] e _=>Aa S E T c tg e|.Expr e _=>if jU e then cK (E c e)else eC|.For tg iter body [] _=>if fY iter then
  (match Ab tg iter with
  |some q=>if lU q.1&&(q.2.1.endLine==q.2.2.line)then b8 (qP (E c q.1)) (rF c tg) (kY r body)else eC|none=>
  (match zA S c tg iter with
  |some j=>t9 j (b8 (lZ (E c iter)) (rF c tg) (kY r body)) eC
  |none=>b8 (qY S (E c) c tg iter) (rF c tg) (kY r body))
  )
  else eC
 |.While t body [] _=>lV mE (T c t) (kY r body)|.Pass _=>bF|_=>eC
noncomputable def Ac(S:Sig)(F:Str->MF)(m:Nat)(c:Cs):Nat->Stmt->MS
 |0=>λ_=>eC|n+1=>ES S (tr S F m).1 (tr S F m).2 c (Ac S F m c n)
section
variable{S:Sig}{F:Str->MF}{k:Nat}{c:Cs}{X:Cx}
theorem QH(ks:X.env.scope.names=c.ks){x:Str}(h:l8 c x=b5):L2.Loc X.env.scope x:=by unfold l8 at h;rw[Zy]at h;unfold L2.Loc;rw[ks];exact h.imp of_decide_eq_true of_decide_eq_true
theorem Okx.own(O:Okx S F k c X){x:Str}(h:l8 c x=b5):L2.Loc X.env.scope x:=QH O.ks h
theorem Ad(O:Okx S F k c X)(b:∀x,X.fn x=b5):∀(es:List Expr)(a:List Nat),rB c es=b0 a->QGs X es a
 |[],a,h=>by cases h;exact CO
 |e::es,a,h=>by
  cases e with
  |Name x p=>
   unfold rB at h;split at h
   .rename_i j;obtain⟨i,d,h⟩:=V6.mp h;obtain⟨l,g,h⟩:=Wb.mp h;subst h;exact CP i O.nd (Ad O b es l g) (by rw[O.N];exact qV d) (O.own j) (.inl (b x))
   .cases h
  |_=>cases h
theorem Ae(O:Okx S F k c X)(b:∀x,X.fn x=b5)(e:Expr):QG X e (rF c e):=by
 unfold rF;split
 .split
  .rename_i d;split
   .rename_i i a;exact MJ i O.nd (by rw[O.N];exact qV a) (O.own d) (.inl (b _))
   .exact tF λ_ _ _=>rfl
  .exact tF λ_ _ _=>rfl
 .split
  .rename_i g a;exact xN (Ad O b _ g a) O.calm
  .exact tF λ_ _ _=>rfl
 .exact tF λ_ _ _=>rfl
theorem mF{r:Stmt->MS}(a:∀s,QS X s (r s)):∀b:List Stmt,QB X b (kY r b)
 |[]=>Mv|[s]=>Mx (a s)|s::t::ts=>Mw (a s) (mF a (t::ts))
theorem QK{elt tg iter:Expr}{ifs:List Expr}{scope:YH}{pos py:XX}{y:Str}{n:Nat}{env:a1a} :
  ∃b:Bool,ZY (.ListComp elt [⟨tg,iter,ifs,0⟩] scope pos) (b0 (.Name y py)) n env=pure b/\(b=b5->env.kindOf y=b0 .local):=by
 refine⟨env.blockKind==.function&&env.kindOf y==b0 .local&&py.line==pos.line&&!(scope.names.any λ(n,k)=>n==y&&(k==.local||k==.cell)),rfl,λh=>?_⟩;simp only[Wl,beq_iff_eq]at h;exact h.1.1.2
theorem ET(O:Okx S F k c X)(G:∀x,X.fn x=b5){E:Cs->Expr->ME}{T:Cs->Expr->MT}(u:∀c X,Okx S F k c X->∀e,QE X e (E c e))(v:∀c X,Okx S F k c X->∀e,QT X e (T c e))
  {i:Nat}{y:Str}{py j:XX}(w:X.N[i]?=b0 y)(J:l8 c y=b5)(elt tg iter:Expr)(ifs:List Expr)(scope:YH)(pos:XX){B:MI}(n:PI X tg iter (tMI X.K B)):QS X (.Assign [.Name y py] (.ListComp elt [⟨tg,iter,ifs,0⟩] scope pos) j) (aL i (mD B E T c elt tg iter ifs scope)):=by
  obtain⟨b,l,r⟩:=QK (elt:=elt) (tg:=tg) (iter:=iter) (ifs:=ifs) (scope:=scope) (pos:=pos) (py:=py) (y:=y) (n:=j.line) (env:=X.env);cases b with
  |false=>exact⟨Ck O.nd w (O.own J) (zZ u v c X O elt tg iter ifs scope pos n).h l (.inl (G y))⟩|true=>
   unfold mD;split
   .rename_i M A;split
    .rename_i h;rw[Wl]at h;refine⟨λo s L H D I q=>?_⟩;exact M5 ((rA O h.1).1.ok I.ok) O.nd O.calm n (λd K z=>(uL O A h.1 [] 0 s H []).2 d K z) (λC g a p=>(uL O A h.1 _ C g a p).1) (λC g a p=>(EK (v _ _ (O.comp h.1)) _).h) (λC g a p=>(u _ _ (O.comp h.1) _).h) (EM h.2) w (r rfl) l o s L H D I q
    .exact Dz
   .exact Dz
theorem QL(O:Okx S F k c X)(g:∀x,X.fn x=b5){E:Cs->Expr->ME}{T:Cs->Expr->MT}(b:∀c X,Okx S F k c X->∀e,QE X e (E c e))(d:∀c X,Okx S F k c X->∀e,QT X e (T c e))
  {i:Nat}{y:Str}{py a:XX}(h:X.N[i]?=b0 y)(j:l8 c y=b5)(e:Expr):QS X (.Assign [.Name y py] e a) (z9 S E T c i e):=by
 unfold z9;split
 .split
  .exact D6 (ET O g b d h j _ _ _ _ _ _ ((yP (b c X O _)).h _)) e6
  .exact ET O g b d h j _ _ _ _ _ _ (zY O (b c X O) _ _)
 .exact e6
theorem QM(O:Okx S F k c X)(d:∀x,X.fn x=b5){E:Cs->Expr->ME}{T:Cs->Expr->MT}(b:∀c X,Okx S F k c X->∀e,QE X e (E c e))(n:∀c X,Okx S F k c X->∀e,QT X e (T c e))(tg e:Expr)(pos:XX) :
  QS X (.Assign [tg] e pos) (Aa S E T c tg e):=by
 unfold Aa;split
 .split
  .rename_i l;split
   .rename_i i g;have a:=qV g;rw[<- O.N]at a;split
    .rename_i j;exact MH i O.nd (b c X O e) j a (O.own l) (.inl (d _))
    .exact QL O d b n a l e
   .exact e6
  .exact e6
 .split
  .rename_i j;split
   .rename_i o g;exact ML (b c X O e) (xN (Ad O d _ o g) O.calm) j
   .exact e6
  .exact e6
 .split
  .rename_i h;rw[Wl]at h;exact OK O.room (b c X O _) (b c X O _) (b c X O _) h.1
  .exact e6
 .exact e6
theorem QN(O:Okx S F k c X)(n:∀x,X.fn x=b5){E:Cs->Expr->ME}{T:Cs->Expr->MT}(g:∀c X,Okx S F k c X->∀e,QE X e (E c e))(u:∀c X,Okx S F k c X->∀e,QT X e (T c e)){r:Stmt->MS}(i:∀s,QS X s (r s))(st:Stmt) :
  QS X st (ES S E T c r st):=by
 cases st with
 |Return o p=>
  cases o with
  |none=>exact Nr|some e=>exact Mz (g c X O _)
 |If t a b p=>exact MC (u c X O _) (mF i _) (mF i _)|Assign w e p=>
  cases w with
  |nil=>exact e6|cons G H=>
   cases H with
   |nil=>exact QM O n g u _ _ _|cons _ _=>exact e6
 |Expr e p=>
  show QS X _ (if jU e then cK (E c e)else eC);split
  .rename_i h;exact MB (g c X O _) h
  .exact e6
 |For G l j d p=>
  cases d with
  |cons _ _=>exact e6|nil=>
   show QS X _ (if fY l then _ else eC);split
   .rename_i h;split
    .rename_i q A;split
     .rename_i v;rw[Wl]at v;obtain⟨e,z,B,pt,y⟩:=QF A;rw[e]at h ⊢;subst y;exact yG ((Pu (g c X O _) v.1 v.2).h z B pt) (Ae O n _) (mF i _) O.never O.calm h
     .exact e6
    split
    .exact D6 (yG ((yP (g c X O _)).h _) (Ae O n _) (mF i _) O.never O.calm h) e6
    exact yG (zY O (g c X O) _ _) (Ae O n _) (mF i _) O.never O.calm h
   .exact e6
 |While t j d p=>
  cases d with
  |nil=>exact Nq _ (u c X O _) (mF i _) O.never|cons _ _=>exact e6
 |Pass p=>exact My|_=>exact e6
theorem EU(O:Okx S F k c X)(a:∀x,X.fn x=b5)(m:Nat):∀(n:Nat)(st:Stmt),QS X st (Ac S F m c n st)
 |0,_=>e6|n+1,st=>QN O a (z8 m).1 (z8 m).2 (EU O a m n) st
end
noncomputable def eE(st:Stmt):List Str:=(iH st).args.map (·.arg)
noncomputable def mG(st:Stmt):List Str:=eE st++(cJ st).names.filterMap λy=>if(y.2==NameKind.local||y.2==YD)&&!(eE st).contains y.1 then b0 y.1 else b3
noncomputable def mH(st:Stmt):Bool:=
 decide ((cJ st).kind=.function)&&!(cJ st).isCoroutine&&!(cJ st).isGenerator&&decide (mG st).Nodup &&
 ((eE st).all λx=>decide ((cJ st).names.lookup x=b0 .local)||decide ((cJ st).names.lookup x=b0 .cell))&&((cJ st).names.all λy=>decide (y.2≠.free))
theorem QR{st:Stmt}(h:mH st=b5):FnScope (mG st) (eE st) (cJ st):=by unfold mH at h;simp only[Wl,decide_eq_true_eq,a1m,Zh,Zy]at h;obtain⟨⟨⟨⟨⟨a,b⟩,c⟩,d⟩,e⟩,g⟩:=h;exact⟨a,b,c,d,by unfold mG;simp,e,g⟩
noncomputable def EV:Nat:=40
noncomputable def EW:Nat:=40
noncomputable abbrev lk(_:Sig)(ds:List (Str×Stmt))(x:Str):Option Stmt:=ds.lookup x
noncomputable def Af(S:Sig)(F:Str->MF)(st:Stmt):MF:=wZ (mG st).length (kY (Ac S F EV ⟨mG st,(cJ st).names⟩ EW) (fL st))
noncomputable def jF(S:Sig)(ds:List (Str×Stmt)):Nat->Str->MF
 |0,_=>λ_ _=>b3|k+1,x=>match lk S ds x with
  |none=>λ_ _=>b3|some st=>Af S (jF S ds k) st
structure DefAt(K:V8)(mg:Str->Option Value)(x:Str)(st:Stmt):Prop where
 ex:∃f fd,Fun K x x st f fd/\mg x=b0 (.ref f)/\Binds K fd (eE st) []
structure TxtOk(P:WL)(w:WX)(K:V8)(mg:Str->Option Value)(S:Sig)(ds:List (Str×Stmt)):Prop where
 fns:∀x n,S.fn.lookup x=b0 n->∃st,ds.lookup x=b0 st/\(eE st).length=n
 defs:∀x st,ds.lookup x=b0 st->DefAt K mg x st/\mH st=b5
 con:∀x d,S.con.lookup x=b0 d->∃v u,mg x=b0 u/\RelV v u/\∀π n H,IsD K π n H v d
 tab:∀x kvs,S.tab.lookup x=b0 kvs->∃(p:Addr)(vs:List (bG×V))(ws:List (bG×Value)),mg x=b0 (.ref p)/\(p==XB)=b4/\(∀h:Xo,K.In h->h.DictOf (f9 P w) p ws)/\KV vs ws/\∀π n H,IsKs K π n H vs kvs
 no:∀x,S.no.contains x=b5->mg x=b3
theorem EX{S:Sig}{ds:List (Str×Stmt)}{x:Str}{st:Stmt}(h:ds.lookup x=b0 st):lk S ds x=b0 st:=by unfold lk;rw[h]
theorem TxtOk.sc{P:WL}{w:WX}{K:V8}{a:Str->Option Value}{S:Sig}{ds:List (Str×Stmt)}(T:TxtOk P w K a S ds){x:Str}{st:Stmt}(h:lk S ds x=b0 st):mH st=true:=(T.defs _ _ h).2
theorem QU{P:WL}{w:WX}{K:V8}{p:Str->Option Value}{base:Xo}{S:Sig}{ds:List (Str×Stmt)}(T:TxtOk P w K p S ds)(k:Nat):∀(x:Str)(st:Stmt)(I q:Str)(f:Addr)(j:YI),lk S ds x=b0 st->Fun K I q st f j->
  FnOk P w K p base fW k f j (eE st) (i0 K (eE st).length (jF S ds k x)):=by
 induction k using Nat.strongRecOn with
 |_ k l=>
 intro x st I q f j B N;cases k with
 |zero=>exact⟨λvs H Q E h=>h.1,λA outer s H u us vs Q E G he hb hv X=>by
   obtain⟨_,π,L,μ,d,μ',R,i,U,kc⟩:=X;cases U⟩
 |succ k=>
  have Z:=l k (X7 k);have e:jF S ds (k+1) x=Af S (jF S ds k) st:=by show(match lk S ds x with|none=>_|some st=>Af S (jF S ds k) st)=_;rw[B]
  rw[e];have c:=QR (T.sc B);refine MM N c (by unfold mG;simp) rfl λg A outer s H E G=>?_;have O:Okx S (jF S ds k) k ⟨mG st,(cJ st).names⟩ (kL fW P w K p base (mG st) q (cJ st) f g A outer s H E).nox:=by
   refine⟨rfl,c.nd,rfl,c.kind,rfl,G,a3f,λy n Y=>?_,T.con,λy o q=>⟨T.tab y o q⟩,T.no
    ⟩
   .obtain⟨a,z,M⟩:=T.fns y n Y;obtain⟨v,b,r,m',J⟩:=(T.defs y a z).1.ex;subst M;exact⟨v,b,eE a,Z y a _ _ v b (EX z) r,m',r.kp,J⟩
  exact mF (EU O (λ_=>rfl) EV EW) (fL st)
theorem QV{P:WL}{w:WX}{K:V8}{b:Str->Option Value}{base:Xo}{S:Sig}{ds:List (Str×Stmt)}(T:TxtOk P w K b S ds)(k:Nat)(x:Str)(st:Stmt)(f:Addr)(a:YI)(d:ds.lookup x=b0 st)(c:Fun K x x st f a) :
  FnOk P w K b base fW k f a (eE st) (i0 K (eE st).length (jF S ds k x)):=QU T k x st x x f a (EX d) c
theorem EY:∀{ns:List Int}{b:Nat},Z2 (ns.map ZS)<=b->∀n∈ns,W2 n<=b
 |[],_,_,n,a=>nomatch a|m::ns,b,h,n,a=>by
  have e:Z2 ((m::ns).map ZS)=a1G (.int m)+1+Z2 (ns.map ZS):=rfl;have c:a1G (.int m)=W2 m:=rfl;rw[e,c]at h;rcases WW.mp a with rfl|a
  .lia
  .exact EY (b:=b) (by lia) n a
section
open PySem PySem.W PySem.Calls PyProof.Rows
theorem QX{l:a3D}{n:Nat}{q:WL}{loose:List Str}{XP:(Str->Option Value)->Xo->Prop}{YP:WX->Xo->Prop}{d:DefRec}
  (U:l.most=b0 n)(y:d.params.defaults=[])
  (call:∀(w:WX)(s₀ b:Wf)(s B:Str->Option Value)(g:Addr)(o:Obj)(E p c:Value)(a:Addr)(vs:gw)(ns:List Int),
   Ground q loose [] XP w s₀ s B b.heap->YP w b.heap->
   b.heap.get? g=b0 o->o.data=.func (docDef d.name d.params d.body d.scope E p c)->b.heap.CodeRec p d.name->s d.name=b0 (.ref g)->
   b.heap.get? a=b0 {cls:=.type "list",data:=.seq vs.toArray}->Zw vs ns->ns.length<=n->(∀m∈ns,W2 m<=2^20)->b.gens=#[]->
   Zq (WM l.prog w) a1Q (.call (.ref g) ⟨[.ref a],[]⟩) (λr u=>r=.ok (.ret (.bool b5))/\OldK b.heap u.heap/\u.os=b.os/\a1n u.gens) b) :
  a4k q loose XP YP l.row.toRowW d [] (λf vs=>a5w f vs):=by
 intro w s₀ b s B G Y g o E p c K kV X hd x I z Q H J as k h hrd A R;obtain rfl:K=.none:=Dflts.none I y;obtain rfl:kV=.none:=Dflts.noKw I;obtain⟨a,vs,ns,rfl,rfl,j,e,i⟩:=Att.script_of U k A;have O:∀m∈ns,W2 m<=2^20:=by
  have v:a1y (.list (ns.map ZS))=true:=by have:=h;unfold a5x at this;simpa using this
  unfold a1y at v;rw[Wl]at v;exact EY (of_decide_eq_true v.2)
 refine enter_call (a1P (call w s₀ b s B g o E p c a vs ns G Y X (fd_plain hd) x z j e i O Q) λr u Z=>?_);obtain⟨rfl,L,M,N⟩:=Z;exact⟨.inl ⟨.bool b5,.bool b5,[],rfl,λ_=>rfl,.bool b5,Att.post_true l _,λ_=>⟨a2d,λ_ T=>(nomatch T)⟩⟩,L,M,N⟩
end
theorem walkM{l:a3D}{q:WL}{loose:List Str}{XP:(Str->Option Value)->Xo->Prop}{YP:WX->Xo->Prop}{d:DefRec}{K:X2->V8}{S:Sig}{ds:List (Str×Stmt)}{k:Nat}{st:Stmt}{x:Str}(hn:l.most=b0 63)(L:d.params.defaults=[])
  (hr:Room k a1Q)(hY:∀(w:WX)(h:Xo),YP w h->(K w.params).In h)(hl:ds.lookup d.name=b0 st)(hx:eE st=[x])
  (T:∀(w:WX)(B:Str->Option Value)(h:Xo),(K w.params).In h->h.Ns XI B->TxtOk l.prog w (K w.params) B S ds/\∃f I,Fun (K w.params) d.name d.name st f I/\B d.name=b0 (.ref f)/\∀(s:Wf)(u:Value),a1Y s I ⟨[u],[]⟩ [(x,u)])
  (M:∀b:List Int,b.length<=63->(∀m∈b,W2 m<=2^20)->∃p,jF S ds k d.name [.rol (b.map D.int)] []=b0 (.bl b5,p)) :
  a4k q loose XP YP l.row.toRowW d [] (λf vs=>a5w f vs):=by
 refine QX hn L λw X Z B mb fa o pm cd doc a vs b G Y ho hd hcd O A g c J hg=>?_;have R:=hY w _ Y;obtain⟨hT,f,I,hF,U,hb⟩:=T w B _ R G.T.g;rw[O]at U;cases U;refine L2.law_call (CX:=fW) (sp:=i0 (K w.params) 1 (jF S ds k d.name)) R G.T.g G.T.b G.T.builtins G.T.nolimit hg A g (W7 c (by decide)) hr (λy hb1 hb2=>?_) hb (λH hO hS=>?_) λH e s' z=>z
 .have:=QV (base:=y) hT k d.name st fa I hl hF;rw[hx]at this;exact this
 .obtain⟨p,hM⟩:=M b c J;have Q:RoL (K w.params) H a (b.map V.int):=by
   rcases hS with(h|h)|h
   .rcases hO a with z|⟨o,E,z⟩
    .rw[z]at h;cases h
    .rw[z]at h;cases h
   .exact .inl h
   .exact .inr h
  refine⟨rfl,λ_=>0,[.rol (b.map D.int)],[],.bl b5,p,⟨λi j N=>absurd N (a1U _),λi N=>absurd N (a1U _),λi E h=>(by cases h),λi E h=>(by cases h),λi E h=>(by cases h)
   ,λi E h=>(by cases h)
   ,λi E h=>(by cases h)
   ⟩,.cons (.rol Q ?_) .nil,hM,λπ' v H' _ _ hv=>?_⟩
  .have:∀b:List Int,IsDs (K w.params) (λ_=>0) ([]:Hm).length H (b.map V.int) (b.map D.int):=λb=>by
    induction b with
    |nil=>exact .nil|cons n r ih=>exact .cons (.int n) ih
   exact this b
  .cases hv;rfl
end L3
namespace L3
open PySem L2
theorem rG{a:Type}:∀{l:List (Str×a)}{x:Str}{b:a},l.lookup x=b0 b->(x,b)∈l:=λh=>XD h
theorem QY{S:Sig}{ds:List (Str×Stmt)}(h:(S.fn.all λp=>match ds.lookup p.1 with|some st=>decide ((eE st).length=p.2)|none=>b4)=b5):∀x n,S.fn.lookup x=b0 n->∃st,ds.lookup x=b0 st/\(eE st).length=n:=by
 intro x n e;have:=Zh.mp h (x,n) (rG e);dsimp only at this;split at this
 .rename_i st a;exact⟨st,a,of_decide_eq_true this⟩
 .cases this
theorem QZ{K:V8}{a:Str->Option Value}{ds:List (Str×Stmt)}(h:∀p∈ds,DefAt K a p.1 p.2/\mH p.2=b5):∀x st,ds.lookup x=b0 st->DefAt K a x st/\mH st=true:=λx st e=>h (x,st) (rG e)
theorem Q0{K:V8}{b:Str->Option Value}{a:List (Str×D)}(h:∀p∈a,∃v u,b p.1=b0 u/\RelV v u/\∀π n H,IsD K π n H v p.2):∀x d,a.lookup x=b0 d->∃v u,b x=b0 u/\RelV v u/\∀π n H,IsD K π n H v d:=λx d e=>h (x,d) (rG e)
theorem Q1{P:WL}{w:WX}{K:V8}{b:Str->Option Value}{ts:List (Str×List (bG×D))}(h:∀t∈ts,∃(p:Addr)(vs:List (bG×V))(ws:List (bG×Value)),b t.1=b0 (.ref p)/\(p==XB)=b4/\(∀h:Xo,K.In h->h.DictOf (f9 P w) p ws)/\KV vs ws/\∀π n H,IsKs K π n H vs t.2) :
  ∀x a,ts.lookup x=b0 a->∃(p:Addr)(vs:List (bG×V))(ws:List (bG×Value)),b x=b0 (.ref p)/\(p==XB)=b4/\(∀h:Xo,K.In h->h.DictOf (f9 P w) p ws)/\KV vs ws/\∀π n H,IsKs K π n H vs a:=λx a e=>h (x,a) (rG e)
inductive EntsOf (w:WX):List DictEntry->List (bG×Value)->Prop where
 |nil:EntsOf w [] []
 |cons {e:DictEntry}{k:bG}{v:Value}{es:List DictEntry}{kvs:List (bG×Value)}(h:kI k e.key=b5)(hh:e.hash=Bi w k)(hv:e.val=v)(t:EntsOf w es kvs):EntsOf w (e::es) ((k,v)::kvs)
theorem EntsOf.pairs{P:WL}{w:WX}{es:List DictEntry}{kvs:List (bG×Value)}(x:EntsOf w es kvs):Pairs (f9 P w) es kvs:=by
 induction x with
 |nil=>exact .nil|cons h c a _ b=>exact .cons h a b
theorem EntsOf.keys{P:WL}{w:WX}{es:List DictEntry}{kvs:List (bG×Value)}(x:EntsOf w es kvs):∀e∈es,∃k,(f9 P w).is k e.key=b5/\e.hash=(f9 P w).hash k:=by
 induction x with
 |nil=>intro e a;exact nomatch a|@cons e k v es kvs h c g _ d=>
  intro b a;rcases WW.mp a with rfl|a
  .exact⟨k,h,c⟩
  .exact d b a
theorem Q2{P:WL}{w:WX}{h:Xo}{p:Addr}{es:List DictEntry}{kvs:List (bG×Value)}{ep:Nat}(b:h.get? p=b0 {cls:=.type "dict",data:=.dict es.toArray ep}) {ks:List bG}(x:EntsOf w es kvs)(d:ks.Nodup)(c:kvs.map (·.1)=ks):h.DictOf (f9 P w) p kvs:=
 ⟨_,es.toArray,ep,b,⟨rfl,rfl,rfl⟩,rfl,λe a=>x.keys e (by simpa using a),by simpa using x.pairs,c▸d⟩
theorem EZ(x:Str)(t:a3a):kI (.inr x) (.str x t)=true:=by simp[kI,a2k]
theorem Q3{a:Str->Option Value}{ns:List Str}(h:∀x∈ns,a x=b3):∀x,ns.contains x=b5->a x=none:=λx e=>h x (by simpa using e)
noncomputable def uN:Nat->(Nat->Value)->gw
 |0,_=>[]|n+1,u=>u 0::uN n λi=>u (i+1)
theorem E4:∀us:gw,∃u,us=uN us.length u
 |[]=>⟨λ_=>.none,rfl⟩|v::us=>let⟨u,a⟩:=E4 us;⟨λi=>match i with|0=>v|i+1=>u i,congrArg (v::·) a⟩
noncomputable abbrev E6:Type:=Value->Value->Value->Option Addr->Value->Value->(Nat->Value)->a5H (List (Str×Value))
noncomputable def Q4(x:Str)(st:Stmt)(m:Value)(c:Addr):Obj:=⟨WG "function",b3,.func (X9 x x (iH st) (fL st) (cJ st) .none .none .none m b3 (.ref c) .none),#[]⟩
noncomputable def E7(K:V8)(d:(Str×Stmt)×Value×Addr×Addr):Option (Option Value)×Option Obj×Bool×Bool×Bool×E6:=(ZT K XI d.1.1,K.lookup d.2.2.2,a0t K (.ref d.2.2.1) d.1.1,X8 K (.ref d.2.2.2),mH d.1.2,λkV b c an a ct u=>a4w (X9 d.1.1 d.1.1 (iH d.1.2) (fL d.1.2) (cJ d.1.2) .none kV b c an a ct) ⟨uN (eE d.1.2).length u,[]⟩)
noncomputable def Fb(d:(Str×Stmt)×Value×Addr×Addr):Option (Option Value)×Option Obj×Bool×Bool×Bool×E6:=(b0 (b0 (.ref d.2.2.2)),b0 (Q4 d.1.1 d.1.2 d.2.1 d.2.2.1),b5,b5,b5,λ_ _ _ _ _ _ u=>pure ((eE d.1.2).zip (uN (eE d.1.2).length u)))
noncomputable def uO(K:V8)(d:Str×Stmt):(Str×Stmt)×Value×Addr×Addr:=(d,match ZT K XI d.1 with
 |some (b0 (.ref f))=>(match K.lookup f with
  |some ⟨_,_,.func fd,_⟩=>(match fd.code with
   |.ref c=>(fd.pyModule,c,f)
   |_=>(.none,0,0))
  |_=>(.none,0,0))
 |_=>(.none,0,0))
noncomputable def uP(K:V8)(ds:List (Str×Stmt)):Prop:=ds.map (λd=>E7 K (uO K d))=ds.map λd=>Fb (uO K d)
theorem Fc{K:V8}{h:Xo}{i:Str->Option Value}(X:K.In h)(G:h.Ns XI i){ds:List (Str×Stmt)}(q:uP K ds):∀p∈ds,(DefAt K i p.1 p.2/\mH p.2=b5)/\∃f j,Fun K p.1 p.1 p.2 f j/\i p.1=b0 (.ref f)/\∀us:gw,us.length=(eE p.2).length->a4w j ⟨us,[]⟩=pure ((eE p.2).zip us):=by
 intro g r;have t:=a4e.mp q g r;have e:(uO K g).1=g:=rfl;generalize uO K g=d at t e;obtain⟨p,m,c,f⟩:=d;cases e;unfold E7 Fb at t;obtain⟨a,t⟩:=a0v t;obtain⟨l,t⟩:=a0v t;obtain⟨c,t⟩:=a0v t;obtain⟨k,t⟩:=a0v t;obtain⟨s,b⟩:=a0v t;have F:=JU (st:=p.2) l c k;have D:=λkV doc pm an cdv ct (us:gw)(o:us.length=(eE p.2).length)=>(by
  obtain⟨u,n⟩:=E4 us;rw[o]at n;rw[n];exact congrFun (congrFun (congrFun (congrFun (congrFun (congrFun (congrFun b kV) doc) pm) an) cdv) ct) u:a4w (X9 p.1 p.1 (iH p.2) (fL p.2) (cJ p.2) .none kV doc pm an cdv ct) ⟨us,[]⟩=pure ((eE p.2).zip us))
 exact⟨⟨⟨_,_,F,a0D X G a,Binds.all (D _ _ _ _ _ _)⟩,s⟩,_,_,F,a0D X G a,D _ _ _ _ _ _⟩
theorem Q5{K:V8}{h:Xo}{c:Str->Option Value}(X:K.In h)(G:h.Ns XI c){ds:List (Str×Stmt)}(q:uP K ds){x y:Str}{st:Stmt}(d:ds.lookup x=b0 st)(e:eE st=[y]):∃f a,Fun K x x st f a/\c x=b0 (.ref f)/\∀(s:Wf)(u:Value),a1Y s a ⟨[u],[]⟩ [(y,u)]:=by obtain⟨f,a,F,m,b⟩:=(Fc X G q (x,st) (rG d)).2;dsimp only at b;rw[e]at b;exact⟨f,a,F,m,λs u=>.of_eq (b [u] rfl)⟩
theorem Q6{K:V8}{h:Xo}{a:Str->Option Value}(X:K.In h)(G:h.Ns XI a){ns:List Str}(q:ns.map (ZT K XI)=ns.map λ_=>b0 b3):∀x∈ns,a x=none:=λx b=>PySem.W.mg_none_of X G (a4e.mp q x b)
noncomputable def rH{c d:Type}(f:c->d->Bool):List c->List d->Bool
 |[],[]=>b5|a::as,b::bs=>f a b&&rH f as bs|_,_=>b4
noncomputable def rJ(K:V8):Nat->Value->D->Bool
 |0,_,_=>b4|k+1,u,d=>match d with
  |.non=>(match u with|.none=>b5|_=>b4)|.bl b=>(match u with|.bool c=>decide (b=c)|_=>b4)|.int i=>(match u with|.int j _=>decide (i=j)|_=>b4)|.str x=>(match u with|.str y _=>decide (x=y)|_=>b4)
  |.tup ds=>(match u with
   |.ref p=>(match K.lookup p with
    |some ⟨.type t,b3,.seq its _,_⟩=>decide (t="tuple")&&decide (its.size<=1000)&&rH (rJ K k) its.toList ds
    |_=>b4)
   |_=>b4)
  |.rol ds=>(match u with
   |.ref p=>(match K.lookup p with
    |some ⟨.type t,b3,.seq its _,_⟩=>decide (t="list")&&decide (its.size<=1000)&&rH (rJ K k) its.toList ds
    |_=>b4)
   |_=>b4)
  |_=>b4
theorem Fd{K:V8}{f:Value->D->Bool}(h:∀u d,f u d=b5->∃v,RelV v u/\∀π n H,IsD K π n H v d):∀us ds,rH f us ds=b5->∃vs,Vals vs us/\∀π n H,IsDs K π n H vs ds
 |[],[],_=>⟨[],.nil,λ_ _ _=>.nil⟩|u::us,d::ds,e=>by obtain⟨a,b⟩:=YJ.mp e;obtain⟨v,r,q⟩:=h u d a;obtain⟨vs,g,c⟩:=Fd h us ds b;exact⟨v::vs,.cons r g,λ_ _ _=>.cons (q _ _ _) (c _ _ _)⟩
 |[],_::_,e=>nomatch e|_::_,[],e=>nomatch e
theorem Fe{K:V8}:∀(k:Nat)(u:Value)(d:D),rJ K k u d=b5->∃v,RelV v u/\∀π n H,IsD K π n H v d
 |0,_,_,e=>nomatch e|k+1,u,d,e=>by
  have seq:∀{p:Addr}{ds:List D}{c:String},(match K.lookup p with|some ⟨.type t,b3,.seq g _,_⟩=>decide (t=c)&&decide (g.size<=1000)&&rH (rJ K k) g.toList ds|_=>b4)=b5->∃h g n l,K.lookup p=b0 ⟨.type c,b3,.seq g n,l⟩/\g.size<=Wq/\Vals h g.toList/\∀π n H,IsDs K π n H h ds:=λ{p ds c} e=>by
   split at e
   .rename_i t g n l j;obtain⟨e,q⟩:=YJ.mp e;obtain⟨a,b⟩:=YJ.mp e;cases of_decide_eq_true a;obtain⟨h,r,i⟩:=Fd (Fe k) _ _ q;exact⟨h,g,n,l,j,W7 (of_decide_eq_true b) (by decide),r,i⟩
   .cases e
  cases d with
  |non=>cases u with
   |none=>exact⟨.non,rfl,λ_ _ _=>.non⟩|_=>cases e
  |bl b=>cases u with
   |bool c=>cases of_decide_eq_true e;exact⟨.bl b,rfl,λ_ _ _=>.bl _⟩|_=>cases e
  |int b=>cases u with
   |int c=>cases of_decide_eq_true e;exact⟨.int b,⟨_,rfl⟩,λ_ _ _=>.int _⟩|_=>cases e
  |str b=>cases u with
   |str c=>cases of_decide_eq_true e;exact⟨.str b,⟨_,rfl⟩,λ_ _ _=>.str _⟩|_=>cases e
  |tup ds=>cases u with
   |ref p=>obtain⟨h,g,n,l,j,o,r,i⟩:=seq e;exact⟨.ref p,rfl,λ_ _ _=>.tup (vs:=h) (.inr ⟨_,g,n,j,rfl,rfl,rfl,o,r⟩) (i _ _ _)⟩|_=>cases e
  |rol ds=>cases u with
   |ref p=>obtain⟨h,g,n,l,j,o,r,i⟩:=seq e;exact⟨.ref p,rfl,λ_ _ _=>.rol (vs:=h) (.inr ⟨_,g,n,j,rfl,rfl,rfl,o,r⟩) (i _ _ _)⟩|_=>cases e
  |_=>cases e
noncomputable def Ff(K:V8)(a:List (Str×D)):Bool:=a.all λc=>match ZT K XI c.1 with|some (b0 u)=>rJ K 8 u c.2|_=>b4
theorem Q7{K:V8}{h:Xo}{b:Str->Option Value}(X:K.In h)(G:h.Ns XI b){a:List (Str×D)}(q:Ff K a=b5):∀p∈a,∃v u,b p.1=b0 u/\RelV v u/\∀π n H,IsD K π n H v p.2:=λp c=>by
 have t:=Zh.mp q p c;split at t
 .rename_i u d;obtain⟨v,r,i⟩:=Fe _ _ _ t;exact⟨v,u,a0D X G d,r,i⟩
 .cases t
noncomputable def W{a:Type}(o:Option a)(Q:a->Prop):Prop:=∃r,o=b0 r/\Q r
section
variable{α β:Type}{o:Option α}{Q:α->Prop}
theorem W_some{r:α}{Q:α->Prop}:W (b0 r) Q↔Q r:=⟨λ⟨_,h,q⟩=>by cases h;exact q,λq=>⟨r,rfl,q⟩⟩
theorem W_none{Q:α->Prop}:W b3 Q↔False:=⟨λ⟨_,h,_⟩=>(by cases h),λh=>h.elim⟩
theorem W_bind{g:α->Option β}{Q:β->Prop}:W (o.bind g) Q↔W o λr=>W (g r) Q:=by
 cases o with
 |none=>exact⟨λ⟨_,h,_⟩=>(by cases h),λ⟨_,h,_⟩=>(by cases h)⟩|some a=>simp[W_some]
theorem iR{g:α->β}{Q:β->Prop}:W (o.map g) Q↔W o λr=>Q (g r):=by
 cases o with
 |none=>exact⟨λ⟨_,h,_⟩=>(by cases h),λ⟨_,h,_⟩=>(by cases h)⟩|some a=>simp[W_some]
theorem bO{a:α->Prop}(h:W o Q)(k:∀r,Q r->a r):W o a:=let⟨r,e,q⟩:=h;⟨r,e,k r q⟩
theorem uQ{c:Prop} [Decidable c] {a b:Option α}:W (if c then a else b) Q↔if c then W a Q else W b Q:=by split<;>rfl
end
noncomputable def fin:Option (Fl×aH×Hm)->jk:=λo=>o.bind λp=>match p.1 with|.rt d=>b0 (d,p.2.2)|.nx=>b0 (.non,p.2.2)|_=>b3
theorem W_fin{o:Option (Fl×aH×Hm)}{Q:jz}:W (fin o) Q↔W o λp=>match p.1 with|.rt d=>Q (d,p.2.2)|.nx=>Q (.non,p.2.2)|_=>False:=by
 unfold fin;rw[W_bind];constructor
 .exact λh=>bO h λp q=>by obtain⟨a,c,b⟩:=p;cases a<;>simpa[W_some,W_none]using q
 .exact λh=>bO h λp q=>by obtain⟨a,c,b⟩:=p;cases a<;>simpa[W_some,W_none]using q
theorem aJ{b μ':Hm}(h:b<+:μ'){a:Nat}{c:C}(e:b[a]?=b0 c):μ'[a]?=b0 c:=by obtain⟨t,rfl⟩:=h;have d:=(Wa.mp e).1;rw[W8 d];exact e
theorem aU(a:Hm)(c:C):a<+:a++[c]:=⟨[c],rfl⟩
theorem dJ{b μ':Hm}(h:b<+:μ'){a:Nat}(d:b.length<=a)(c:C):b<+:μ'.set a c:=by obtain⟨t,rfl⟩:=h;rw[a0y _ _ d];exact⟨_,rfl⟩
theorem w_mSeq{a b:MS}{d:aH}{c:Hm} {Q}:W (aG a b d c) Q↔W (a d c) λp=>match p.1 with|.nx=>W (b p.2.1 p.2.2) Q|_=>Q p:=by
 unfold aG;rw[W_bind];constructor
 .exact λh=>bO h λp q=>by obtain⟨e,d,c⟩:=p;cases e<;>simpa[W_some,W_none]using q
 .exact λh=>bO h λp q=>by obtain⟨e,d,c⟩:=p;cases e<;>simpa[W_some,W_none]using q
theorem w_mRet{m:ME}{a:aH}{b:Hm} {Q}:W (aO m a b) Q↔W (m a b) λp=>Q (.rt p.1,a,p.2):=iR
theorem w_mDrop{m:ME}{a:aH}{b:Hm} {Q}:W (cK m a b) Q↔W (m a b) λp=>Q (.nx,a,p.2):=iR
theorem w_mSet{i:Nat}{m:ME}{a:aH}{b:Hm} {Q}:W (aL i m a b) Q↔W (m a b) λp=>Q (.nx,a.set i (b0 p.1),p.2):=iR
theorem w_mNext{b:aH}{a:Hm} {Q}:W (bF b a) Q↔Q (.nx,b,a):=W_some
theorem w_mIfS{t:MT}{a b:MS}{c:aH}{d:Hm} {Q}:W (bB t a b c d) Q↔W (t c d) λp=>if p.1=b5 then W (a c p.2) Q else W (b c p.2) Q:=by unfold bB;rw[W_bind];constructor<;>exact λh=>bO h λp q=>by obtain⟨x,d⟩:=p;cases x<;>simpa using q
theorem w_mIfE{t:MT}{a b:ME}{c:aH}{d:Hm} {Q}:W (gZ t a b c d) Q↔W (t c d) λp=>if p.1=b5 then W (a c p.2) Q else W (b c p.2) Q:=by unfold gZ;rw[W_bind];constructor<;>exact λh=>bO h λp q=>by obtain⟨x,d⟩:=p;cases x<;>simpa using q
theorem w_mAndT{a b:MT}{d:aH}{c:Hm} {Q}:W (fP a b d c) Q↔W (a d c) λp=>if p.1=b5 then W (b d p.2) Q else Q (b4,p.2):=by unfold fP;rw[W_bind];constructor<;>exact λh=>bO h λp q=>by obtain⟨x,c⟩:=p;cases x<;>simpa[W_some]using q
theorem w_mOrT{a b:MT}{d:aH}{c:Hm} {Q}:W (gC a b d c) Q↔W (a d c) λp=>if p.1=b5 then Q (b5,p.2)else W (b d p.2) Q:=by unfold gC;rw[W_bind];constructor<;>exact λh=>bO h λp q=>by obtain⟨x,c⟩:=p;cases x<;>simpa[W_some]using q
theorem w_mNotT{a:MT}{c:aH}{b:Hm} {Q}:W (eX a c b) Q↔W (a c b) λp=>Q (!p.1,p.2):=iR
theorem w_mOp{f:D->D->Hm->jk}{a b:ME}{c:aH}{d:Hm} {Q}:W (aC f a b c d) Q↔W (a c d) λp=>W (b c p.2) λq=>W (f p.1 q.1 q.2) Q:=by unfold aC;rw[W_bind];simp only[W_bind]
theorem dW{d:D}{b:aH}{a:Hm} {Q}:W (mC d b a) Q↔Q (d,a):=W_some
theorem cA{d:D}{b:aH}{a:Hm} {Q}:W (aA 0 (b0 d::b) a) Q↔Q (d,a):=by show W (b0 (d,a)) Q↔_;exact W_some
theorem c6{i:Nat}{x:Option D}{b:aH}{a:Hm} {Q}:W (aA (i+1) (x::b) a) Q↔W (aA i b a) Q:=by unfold aA;rw[List.getElem?_cons_succ]
theorem dM{b:aH}{a:Hm} {Q}:W (aD b a) Q↔Q ([],a):=W_some
theorem w_mCons{a:ME}{r:MA}{b:aH}{c:Hm} {Q}:W (aB a r b c) Q↔W (a b c) λp=>W (r b p.2) λq=>Q (p.1::q.1,q.2):=by unfold aB;simp only[W_bind,W_some]
theorem w_mTup {ms:MA}{b:aH}{a:Hm} {Q}:W (aX ms b a) Q↔W (ms b a) fun p=>p.1.length<=Wq/\Q (.tup p.1,p.2):=by
 unfold aX
 rw [W_bind]
 constructor<;>exact fun h=>bO h fun p q=>by
  first
  | (rw [uQ] at q;split at q
     .exact ⟨by assumption,W_some.mp q⟩
     .exact (W_none.mp q).elim)
  | (rw [if_pos q.1];exact W_some.mpr q.2)
theorem w_mLst {ms:MA}{b:aH}{a:Hm} {Q}:W (b6 ms b a) Q↔W (ms b a) fun p=>p.1.length<=Wq/\Q (.loc p.2.length,p.2++[.lst p.1]):=by
 unfold b6
 rw [W_bind]
 constructor<;>exact fun h=>bO h fun p q=>by
  first
  | (rw [uQ] at q;split at q
     .exact ⟨by assumption,W_some.mp q⟩
     .exact (W_none.mp q).elim)
  | (rw [if_pos q.1];exact W_some.mpr q.2)
theorem w_mCall {f:MF}{ms:MA}{b:aH}{a:Hm} {Q}:W (aF f ms b a) Q↔W (ms b a) fun p=>W (f p.1 p.2) Q:=W_bind
theorem w_mTest{m:ME}{c:aH}{a:Hm} {Q}:W (aQ m c a) Q↔W (m c a) λp=>match p.1 with|.bl b=>Q (b,p.2)|_=>False:=by unfold aQ;rw[W_bind];constructor<;>exact λh=>bO h λp q=>by obtain⟨d,a⟩:=p;cases d<;>simpa[W_some,W_none]using q
theorem w_mTru{m:ME}{c:aH}{a:Hm} {Q}:W (cV m c a) Q↔W (m c a) λp=>W (jX p.2 p.1) λb=>Q (b,p.2):=by unfold cV;simp only[W_bind,iR]
theorem Q8{a:ME}{c:aH}{b:Hm} {Q}:W (eY a c b) Q↔W (a c b) λp=>match p.1 with|.int i=>Q (.int (-i),p.2)|_=>False:=by unfold eY;rw[W_bind];constructor<;>exact λh=>bO h λp q=>by obtain⟨d,b⟩:=p;cases d<;>simpa[W_some,W_none,iR,xC]using q
theorem w_mNotV{a:ME}{e:aH}{c:Hm} {Q}:W (lO a e c) Q↔W (a e c) λp=>match p.1 with|.bl b=>Q (.bl (!b),p.2)|_=>False:=by unfold lO;rw[W_bind];constructor<;>exact λh=>bO h λp q=>by obtain⟨d,c⟩:=p;cases d<;>simpa[W_some,W_none]using q
theorem w_mAndV{a b:ME}{g:aH}{e:Hm} {Q}:W (dZ a b g e) Q↔W (a g e) λp=>match p.1 with|.bl c=>if c=b5 then W (b g p.2) Q else Q (.bl b4,p.2)|_=>False:=by
 unfold dZ;rw[W_bind];constructor<;>exact λh=>bO h λp q=>by
  obtain⟨d,e⟩:=p;cases d with
  |bl c=>cases c<;>simpa[W_some]using q|_=>simpa[W_none]using q
theorem w_mAsg{m:ME}{g:MG}{a:aH}{c:Hm} {Q}:W (hV m g a c) Q↔W (m a c) λp=>W (g p.1 a p.2) λb=>Q (.nx,b,p.2):=by unfold hV;simp only[W_bind,iR]
theorem w_mTab{kvs:List (bG×D)}{m:ME}{b:aH}{a:Hm} {Q}:W (qA kvs m b a) Q↔W (m b a) λp=>W (sX p.1) λk=>W (iM kvs k) λd=>Q (d,p.2):=by unfold qA;simp only[W_bind,iR]
section
variable{i j:Int}{μ:Hm}{Q:jz}{a b c d e g:D}
theorem w_addI:W (bI (.int i) (.int j) μ) Q↔Q (.int (i+j),μ):=W_some
theorem w_subI:W (cQ (.int i) (.int j) μ) Q↔Q (.int (i-j),μ):=W_some
theorem cZ(h:0<j):W (aV (.int i) (.int j) μ) Q↔Q (.int (i%j),μ):=by show W ((if 0<j then b0 (i%j)else b3).map λz=>(D.int z,μ)) Q↔_;rw[if_pos h];exact W_some
theorem Q9:(1073741824:Int)<2^4000:=by decide +kernel
theorem Ra(h:0<j)(k:j<2^4000):W (dB (.int i) (.int j) μ) Q↔Q (.int (i/j),μ):=by show W ((if 0<j/\j<2^4000 then b0 (i/j)else b3).map λz=>(D.int z,μ)) Q↔_;rw[if_pos ⟨h,k⟩];exact W_some
theorem rK(h:0<j)(k:j<1073741824):W (dB (.int i) (.int j) μ) Q↔Q (.int (i/j),μ):=Ra h (Int.lt_trans k Q9)
theorem kZ(h:(-(2^64)<i/\i<2^64)\/(-(2^64)<j/\j<2^64)):W (cF (.int i) (.int j) μ) Q↔Q (.int (i*j),μ):=by show W ((if((-(2^64)<i/\i<2^64)\/(-(2^64)<j/\j<2^64))\/(i.natAbs<2^4000/\j.natAbs<2^4000)\/W2 i+W2 j<=134217728 then b0 (i*j)else b3).map λz=>(D.int z,μ)) Q↔_;rw[if_pos (.inl h)];exact W_some
theorem w_eqI:W (aT b4 (.int i) (.int j) μ) Q↔Q (.bl (i==j),μ):=W_some
theorem w_neI:W (aT b5 (.int i) (.int j) μ) Q↔Q (.bl (!(i==j)),μ):=W_some
theorem w_ltI:W (dQ (.int i) (.int j) μ) Q↔Q (.bl (decide (i<j)),μ):=W_some
theorem w_leI:W (oD (.int i) (.int j) μ) Q↔Q (.bl (decide (i<=j)),μ):=W_some
theorem w_gtI:W (kN (.int i) (.int j) μ) Q↔Q (.bl (decide (j<i)),μ):=W_some
theorem Rb:W (pV (.int i) (.int j) μ) Q↔Q (.bl (decide (j<=i)),μ):=W_some
theorem o7:W (aE (.tup [a,b]) (.int 0) μ) Q↔Q (a,μ):=W_some
theorem w_it21:W (aE (.tup [a,b]) (.int 1) μ) Q↔Q (b,μ):=W_some
theorem Rf:W (aE (.tup [a,b,c,d,e,g]) (.int 0) μ) Q↔Q (a,μ):=W_some
theorem Rg:W (aE (.tup [a,b,c,d,e,g]) (.int 1) μ) Q↔Q (b,μ):=W_some
theorem Rh:W (aE (.tup [a,b,c,d,e,g]) (.int 2) μ) Q↔Q (c,μ):=W_some
theorem Ri:W (aE (.tup [a,b,c,d,e,g]) (.int 3) μ) Q↔Q (d,μ):=W_some
theorem Rj:W (aE (.tup [a,b,c,d,e,g]) (.int 4) μ) Q↔Q (e,μ):=W_some
theorem Rk:W (aE (.tup [a,b,c,d,e,g]) (.int 5) μ) Q↔Q (g,μ):=W_some
theorem w_truB{b:Bool}{Q:Bool->Prop}:W (jX μ (.bl b)) Q↔Q b:=W_some
theorem w_gTup2{h:aH}{i j:Nat}{Q:aH->Prop}:W (d9 [i,j] (.tup [a,b]) h μ) Q↔Q ((h.set i (b0 a)).set j (b0 b)):=W_some
end
theorem eK{b:Hm}{a:Nat}{xs:List D}{i:Int}{d:D}{Q:jz}(h:b[a]?=b0 (.lst xs))(c:atI xs i=b0 d):W (aE (.loc a) (.int i) b) Q↔Q (d,b):=by
 have:aE (.loc a) (.int i) b=b0 (d,b):=by simp only[aE,hG,bM,h,WH,c,WN]
 rw[this];exact W_some
theorem w_iSeq{m:ME}{b:aH}{a:Hm}{Q:fH×Nat×Hm->Prop}:W (bV m b a) Q↔W (m b a) λp=>W (jV p.2 p.1) λxs=>Q (dS p.1,xs.length+1,p.2):=by unfold bV;simp only[W_bind,iR]
theorem w_mForI{c:MI}{g:MG}{b:MS}{a:aH}{d:Hm} {Q}:W (b8 c g b a d) Q↔W (c a d) λp=>W (eU p.1 g b p.2.1 0 a p.2.2) Q:=W_bind
theorem mI {j:Int}{ms:MA}{e:aH}{c:Hm}{Q:fH×Nat×Hm->Prop}:W (fZ ms e c) Q↔W (ms e c) fun p=>match p.1 with|[.int j]=>(-(2 ^ 62)<=j/\j<2 ^ 62)/\Q (i8 0 j.toNat,j.toNat+1,p.2)|_=>False:=by
 unfold fZ
 rw [W_bind]
 constructor<;>exact fun h=>bO h fun p q=>by
  obtain ⟨l,c⟩:=p
  match l,q with
  | [],q=>simpa [W_none] using q
  | [d],q=>
   cases d with
   | int j=>
    first
    | (dsimp only at q;rw [uQ] at q;split at q
       .rename_i g;exact ⟨g,W_some.mp q⟩
       .exact (W_none.mp q).elim)
    | (dsimp only;rw [if_pos q.1];exact W_some.mpr q.2)
   | _=>simpa [W_none] using q
  | a::b::l,q=>simpa [W_none] using q
theorem w_iRng2 {ms:MA}{b:aH}{a:Hm}{Q:fH×Nat×Hm->Prop}:W (lT ms b a) Q↔W (ms b a) fun p=>match p.1 with|[.int i,.int j]=>(-(2 ^ 62)<=i/\i<2 ^ 62/\-(2 ^ 62)<=j/\j<2 ^ 62)/\Q (i8 i (j - i).toNat,(j - i).toNat+1,p.2)|_=>False:=by
 unfold lT
 rw [W_bind]
 constructor<;>exact fun h=>bO h fun p q=>by
  split at q
  .rename_i e
   try rw [e]
   first
   | (rw [uQ] at q;split at q
      .rename_i c;exact ⟨c,W_some.mp q⟩
      .exact (W_none.mp q).elim)
   | ((try dsimp only);rw [if_pos q.1];exact W_some.mpr q.2)
  .first
   | exact (W_none.mp q).elim
   | exact q.elim
theorem nP {j:fH}{g:MG}{b:MS}{N:Nat}{Q:Fl×aH×Hm->Prop}(I:Nat->aH->Hm->Prop)
  (go:∀ i c a,i<N->I i c a->∃ d k,j a i=b0 (b0 d)/\g d c a=b0 k/\W (b k a) fun p=>match p.1 with|.nx=>I (i+1) p.2.1 p.2.2|.ct=>I (i+1) p.2.1 p.2.2|.bk=>Q (.nx,p.2.1,p.2.2)|.rt d=>Q (.rt d,p.2.1,p.2.2))
  (e:∀ c a,I N c a->j a N=b0 b3/\Q (.nx,c,a)):∀ (m i:Nat)(c:aH)(a:Hm),i+m=N->I i c a->W (eU j g b (m+1) i c a) Q
 | 0,i,c,a,h,hI=>by
  have:i=N:=by lia
  subst this
  obtain ⟨o,r⟩:=e c a hI
  unfold eU
  rw [o]
  exact W_some.mpr r
 | m+1,i,c,a,h,hI=>by
  obtain ⟨d,k,o,r,u⟩:=go i c a (by lia) hI
  unfold eU
  rw [o]
  simp only [WH,r]
  rw [W_bind]
  refine bO u fun p q=>?_
  obtain ⟨s,n,l⟩:=p
  cases s with
  | nx=>exact nP I go e m (i+1) n l (by lia) q
  | ct=>exact nP I go e m (i+1) n l (by lia) q
  | bk=>exact W_some.mpr q
  | rt d=>exact W_some.mpr q
theorem gM{a:Nat}{xs:List D}{g:MG}{b:MS}{h:aH}{c:Hm}{Q:Fl×aH×Hm->Prop}(I:Nat->aH->Hm->Prop)(o:I 0 h c)(n:∀i h c,I i h c->c[a]?=b0 (.lst xs))
  (go:∀i d h c,xs[i]?=b0 d->I i h c->∃j,g d h c=b0 j/\W (b j c) λp=>match p.1 with|.nx=>I (i+1) p.2.1 p.2.2|.ct=>I (i+1) p.2.1 p.2.2|.bk=>Q (.nx,p.2.1,p.2.2)|.rt d=>Q (.rt d,p.2.1,p.2.2))
  (l:∀h c,I xs.length h c->Q (.nx,h,c)):W (eU (dS (.loc a)) g b (xs.length+1) 0 h c) Q:=by
 refine nP (N:=xs.length) I (λi h c s k=>?_) (λh c k=>⟨?_,l h c k⟩) xs.length 0 h c (by lia) o
 .have e:xs[i]?=b0 xs[i]:=Wi s;obtain⟨j,q,r⟩:=go i xs[i] h c e k;refine⟨xs[i],j,?_,q,r⟩;simp only[dS,jV,bM,n i h c k,WN,e]
 .simp only[dS,jV,bM,n _ h c k,WN];simp
theorem uR{x:D}{xs:List D}(l:∀a,jV a x=b0 xs){g:MG}{b:MS}{c:aH}{a:Hm}{Q:Fl×aH×Hm->Prop}(I:Nat->aH->Hm->Prop)(n:I 0 c a)
  (go:∀i d c a,xs[i]?=b0 d->I i c a->∃h,g d c a=b0 h/\W (b h a) λp=>match p.1 with|.nx=>I (i+1) p.2.1 p.2.2|.ct=>I (i+1) p.2.1 p.2.2|.bk=>Q (.nx,p.2.1,p.2.2)|.rt d=>Q (.rt d,p.2.1,p.2.2))
  (j:∀c a,I xs.length c a->Q (.nx,c,a)):W (eU (dS x) g b (xs.length+1) 0 c a) Q:=by
 refine nP (N:=xs.length) I (λi c a r k=>?_) (λc a k=>⟨?_,j c a k⟩) xs.length 0 c a (by lia) n
 .have e:xs[i]?=b0 xs[i]:=Wi r;obtain⟨h,o,q⟩:=go i xs[i] c a e k;refine⟨xs[i],h,?_,o,q⟩;simp only[dS,l,WN,e]
 .simp only[dS,l,WN];simp
theorem j9{lo:Int}{n:Nat}{g:MG}{b:MS}{c:aH}{a:Hm}{Q:Fl×aH×Hm->Prop}(I:Nat->aH->Hm->Prop)(l:I 0 c a)
  (go:∀(i:Nat) c a,i<n->I i c a->∃e,g (.int (lo+i)) c a=b0 e/\W (b e a) λp=>match p.1 with|.nx=>I (i+1) p.2.1 p.2.2|.ct=>I (i+1) p.2.1 p.2.2|.bk=>Q (.nx,p.2.1,p.2.2)|.rt d=>Q (.rt d,p.2.1,p.2.2))
  (h:∀c a,I n c a->Q (.nx,c,a)):W (eU (i8 lo n) g b (n+1) 0 c a) Q:=by
 refine nP (N:=n) I (λi c a k j=>?_) (λc a j=>⟨?_,h c a j⟩) n 0 c a (by lia) l
 .obtain⟨e,o,q⟩:=go i c a k j;exact⟨_,e,by simp only[i8,if_pos k],o,q⟩
 .simp only[i8,X3,if_false]
theorem Ag{c:Hm}{a:Nat}{b:List D}{y:D}(h:c[a]?=b0 (.lst b))(d:b.length<Wq):oF c a y=b0 (c.set a (.lst (b++[y]))):=by unfold oF;rw[h];exact if_pos d
theorem Ah{w:fH}{c:MT}{e:ME}{H:aH}{g:Hm}{xs:List D}{p:D->Bool}{v:D->D}{Q:Hm->Prop}(z:∀a i,g<+:a->w a i=b0 xs[i]?)(I:xs.length<=Wq)
  (hc:∀d a,d∈xs->g<+:a->W (c (H++[b0 d]) a) λr=>r.1=p d/\a<+:r.2)
  (A:∀d a,d∈xs->p d=b5->g<+:a->W (e (H++[b0 d]) a) λr=>r.1=v d/\a<+:r.2)
  (fin:∀a,g<+:a->a[g.length]?=b0 (.lst ((xs.filter p).map v))->Q a) :
  ∀(m i:Nat)(a:Hm),i+m=xs.length->g<+:a->a[g.length]?=b0 (.lst (((xs.take i).filter p).map v))->W (hJ w oG c e H g.length (m+1) i a) Q
 |0,i,a,hi,hp,ha=>by
  have:i=xs.length:=by lia
  subst this;unfold hJ;rw[z a _ hp];rw[YA (Wh _)];simp only[WH];refine W_some.mpr (fin a hp ?_);simpa using ha
 |m+1,i,a,hi,hp,ha=>by
  have s:i<xs.length:=by lia
  have J:xs[i]?=b0 xs[i]:=Wi s;have j:xs[i]∈xs:=XY s;unfold hJ;rw[z a _ hp,J];simp only[WH,oG];rw[W_bind];refine bO (hc _ a j hp) λr q=>?_;obtain⟨b,x⟩:=r;obtain⟨K,u⟩:=q;dsimp only at K u ⊢;subst K;have h:xs.take (i+1)=xs.take i++[xs[i]]:=by rw[YQ,J];rfl
  have l:=aJ u ha;cases k:p xs[i]with
  |false=>refine Ah z I hc A fin m (i+1) x (by lia) (hp.trans u) ?_;rw[l,h,YT];simp[k]|true=>
   dsimp only;rw[W_bind];refine bO (A _ x j k (hp.trans u)) λr q=>?_;obtain⟨y,G⟩:=r;obtain⟨L,E⟩:=q;dsimp only at L E ⊢;subst L;have n:=aJ E l;have o:(((xs.take i).filter p).map v).length<Wq:=by have M:=Yk p (xs.take i);rw[V7];rw[Xa]at M;lia
   rw[Ag n o,WH];have B:g<+:G:=(hp.trans u).trans E;refine Ah z I hc A fin m (i+1) _ (by lia) (dJ B (Wh _) _) ?_;rw[Xk (Wa.mp n).1,h,YT];simp[k]
theorem fJ{w:MI}{c:MT}{e:ME}{b:aH}{x:Hm}{xs:List D}{p:D->Bool}{v:D->D}{Q:jz}
  (hit:W (w b x) λr=>(∀a i,r.2.2<+:a->r.1 a i=b0 xs[i]?)/\r.2.1=xs.length+1/\xs.length<=Wq /\
   (∀d a,d∈xs->r.2.2<+:a->W (c (b++[b0 d]) a) λs=>s.1=p d/\a<+:s.2)/\(∀d a,d∈xs->p d=b5->r.2.2<+:a->W (e (b++[b0 d]) a) λs=>s.1=v d/\a<+:s.2) /\
   ∀a,r.2.2<+:a->a[r.2.2.length]?=b0 (.lst ((xs.filter p).map v))->Q (.loc r.2.2.length,a)):W (eB w c e b x) Q:=by
 unfold eB eZ;rw[W_bind];refine bO hit λr q=>?_;obtain⟨y,n,g⟩:=r;obtain⟨h,j,k,l,o,u⟩:=q;dsimp only at h j k l o u ⊢;subst j;rw[iR];exact Ah h k l o u xs.length 0 (g++[.lst []]) (by lia) (aU _ _) (by simp)
theorem hX{b:Hm}{a:Nat}{xs:List D}(h:b[a]?=b0 (.lst xs)):∀μ' i,b<+:μ'->dS (.loc a) μ' i=b0 xs[i]?:=λμ' i c=>by simp only[dS,jV,bM,aJ c h,WN]
theorem Rl{xs:List D}{a:Hm}:∀μ' i,a<+:μ'->dS (.tup xs) μ' i=b0 xs[i]?:=λμ' i b=>rfl
noncomputable def hZ(lo:Int)(n:Nat):List D:=(WR n).map λ(i:Nat)=>.int (lo+(i:Int))
theorem Fg{lo:Int}{n:Nat}{a:Hm}:∀μ' i,a<+:μ'->i8 lo n μ' i=b0 (hZ lo n)[i]?:=λμ' i _=>by
 unfold i8 hZ;rw[Ws];by_cases h:i<n
 .rw[if_pos h,a3t h];rfl
 .rw[if_neg h,YA (by simpa using a0a.mp h)];rfl
noncomputable abbrev P(x y:Int):D:=.tup [.int x,.int y]
noncomputable abbrev PP(p:Int×Int):D:=P p.1 p.2
theorem Fh(n:Nat)(e:Hm)(p q:Int×Int):c5 (n+2) e (PP p) (PP q)=b0 (p==q):=by obtain⟨a,b⟩:=p;obtain⟨c,d⟩:=q;show b0 (a==c&&(b==d&&b5))=b0 ((a,b)==(c,d));rw[a4Z];rfl
theorem Fi{c:Hm}{a b:Nat}{xs d:List D}{Q:jz}(e:c[a]?=b0 (.lst xs))(g:c[b]?=b0 (.lst d))(h:xs.length+d.length<=Wq):W (bI (.loc a) (.loc b) c) Q↔Q (.loc c.length,c++[.lst (xs++d)]):=by simp only[bI,e,g,if_pos h];exact W_some
theorem eF{f:D->List D->Hm->jk}{b:ME}{ms:MA}{a:aH}{c:Hm}{Q:jz}(h:W (b a c) λp=>oK p.2 p.1=b5/\W (ms a p.2) λq=>W (f p.1 q.1 q.2) Q):W (cS f b ms a c) Q:=by unfold cS;rw[W_bind];refine bO h λp q=>?_;rw[q.1];exact W_bind.mpr q.2
theorem dX{b:Hm}{a:Nat}{xs:List D}(h:b[a]?=b0 (.lst xs)):oK b (.loc a)=true:=by simp only[oK,h]
theorem fS{b:Hm}{a:Nat}{xs:List D}{y:D}{Q:jz}(h:b[a]?=b0 (.lst xs))(c:xs.length<Wq):W (dU (.loc a) [y] b) Q↔Q (.non,b.set a (.lst (xs++[y]))):=by simp only[dU,Ag h c,WN];exact W_some
theorem uS{c:Hm}{a b:Nat}{xs d:List D}{Q:jz}(h:c[a]?=b0 (.lst xs))(e:c[b]?=b0 (.lst d))(g:xs.length+d.length<=Wq):W (kS (.loc a) [.loc b] c) Q↔Q (.non,c.set a (.lst (xs++d))):=by simp only[kS,h,e,if_pos g];exact W_some
theorem Rm{a:Hm}{i:Int}{Q:jz}:W (fG [.int i,.ty "bool"] a) Q↔Q (.bl b4,a):=W_some
theorem Rn{a:Hm}{i:Int}{Q:jz}:W (fG [.int i,.ty "int"] a) Q↔Q (.bl b5,a):=W_some
theorem Ai{b:Hm}{a:Nat}{xs:List D}{Q:jz}(h:b[a]?=b0 (.lst xs)):W (fG [.loc a,.ty "list"] b) Q↔Q (.bl b5,b):=by
 have:fG [.loc a,.ty "list"] b=b0 (.bl b5,b):=by simp only[fG,sU,h,WH];rfl
 rw[this];exact W_some
theorem dN{b:Hm}{a:Nat}{xs:List D}{Q:jz}(h:b[a]?=b0 (.lst xs)):W (bL [.loc a] b) Q↔Q (.int xs.length,b):=by simp only[bL,pW,bM,h,WN];exact W_some
theorem w_lenR{a:Hm}{xs:List D}{Q:jz}:W (bL [.rol xs] a) Q↔Q (.int xs.length,a):=W_some
theorem c3{b:Hm}{a:Nat}{xs:List D}{Q:List D->Prop}(h:b[a]?=b0 (.lst xs)):W (jV b (.loc a)) Q↔Q xs:=by simp only[jV,bM,h];exact W_some
theorem w_seqT{a:Hm}{xs:List D}{Q:List D->Prop}:W (jV a (.tup xs)) Q↔Q xs:=W_some
theorem uT{b:aH}{a:Hm}{Q:Option Int×Hm->Prop}:W (kM b a) Q↔Q (b3,a):=W_some
theorem uU{m:ME}{b:aH}{a:Hm}{Q:Option Int×Hm->Prop}:W (jS m b a) Q↔W (m b a) λp=>match p.1 with|.int i=>Q (b0 i,p.2)|_=>False:=by unfold jS;rw[W_bind];constructor<;>exact λh=>bO h λp q=>by obtain⟨d,a⟩:=p;cases d<;>simpa[W_some,W_none]using q
theorem Fj{a:ME}{lo c:MO}{b:aH}{i:Hm}{Q:jz}(h:W (a b i) λp=>∃l,p.1=.loc l/\W (lo b p.2) λq=>W (c b q.2) λr=>∃xs,r.2[l]?=b0 (.lst xs)/\Q (.loc r.2.length,r.2++[.lst (jR xs q.1 r.1)])):W (mW a lo c b i) Q:=by unfold mW;rw[W_bind];refine bO h λp q=>?_;obtain⟨d,n⟩:=p;obtain⟨l,e,g⟩:=q;dsimp only at e g ⊢;subst e;rw[W_bind];refine bO g λs q=>?_;rw[W_bind];refine bO q λr q=>?_;obtain⟨xs,j,k⟩:=q;simp only[bM,j,WH];exact W_some.mpr k
theorem bC(a:Hm)(c:C):(a++[c])[a.length]?=b0 c:=by simp
theorem w_mChain{f g:D->D->Hm->jk}{a b c:ME}{e:aH}{i:Hm} {Q}:W (gH f g a b c e i) Q↔W (a e i) λp=>W (b e p.2) λq=>W (f p.1 q.1 q.2) λr=>match r.1 with|.bl k=>if k=b5 then W (c e r.2) λt=>W (g q.1 t.1 t.2) Q else Q (.bl b4,r.2)|_=>False:=by
 unfold gH;simp only[W_bind];constructor<;>exact λh=>bO h λp q=>bO q λn l=>bO l λr j=>by
  obtain⟨d,i⟩:=r;cases d with
  |bl k=>cases k<;>simpa[W_some,W_bind]using j|_=>simpa[W_none]using j
section
variable{i j:Int}{μ:Hm}{Q:jz}
theorem w_isNN:W (fA b4 .non .non μ) Q↔Q (.bl b5,μ):=W_some
theorem w_isnotNN:W (fA b5 .non .non μ) Q↔Q (.bl b4,μ):=W_some
theorem w_isLN{a:Nat}:W (fA b4 (.loc a) .non μ) Q↔Q (.bl b4,μ):=W_some
theorem w_isnotTN{xs:List D}:W (fA b5 (.tup xs) .non μ) Q↔Q (.bl b5,μ):=W_some
theorem Aj:∀a:List Int,oJ (a.map D.int)=b0 a
 |[]=>rfl|i::a=>by show(oJ (a.map D.int)).map (i::·)=_;rw[Aj a];rfl
theorem Ak{a:Nat}{b:List Int}(h:μ[a]?=b0 (.lst (b.map D.int))):W (kU [.loc a] μ) Q↔Q (.int b.sum,μ):=by simp only[kU,bM,h,WH,Aj,WN];exact W_some
theorem Ro{a:Nat}{bs:List Bool}(h:μ[a]?=b0 (.lst (bs.map D.bl))):W (tK [.loc a] μ) Q↔Q (.bl (bs.all id),μ):=by
 have e:∀bs:List Bool,oM (bs.map D.bl)=b0 bs:=λbs=>by
  induction bs with
  |nil=>rfl|cons b bs c=>show(oM (bs.map D.bl)).map (b::·)=_;rw[c];rfl
 simp only[tK,bM,h,WH,e,WN];exact W_some
end
theorem Fm{a:ME}{lo c st:MO}{b:aH}{i:Hm}{Q:jz}(h:W (a b i) λp=>∃l,p.1=.loc l/\W (lo b p.2) λq=>W (c b q.2) λr=>W (st b r.2) λt=>t.1≠b0 0/\∃xs,t.2[l]?=b0 (.lst xs)/\(eV xs q.1 r.1 t.1).length<=Wq/\Q (.loc t.2.length,t.2++[.lst (eV xs q.1 r.1 t.1)])):W (oP a lo c st b i) Q:=by unfold oP;rw[W_bind];refine bO h λp q=>?_;obtain⟨d,u⟩:=p;obtain⟨l,e,g⟩:=q;dsimp only at e g ⊢;subst e;rw[W_bind];refine bO g λs q=>?_;rw[W_bind];refine bO q λr q=>?_;rw[W_bind];refine bO q λt q=>?_;obtain⟨j,xs,k,n,o⟩:=q;rw[if_pos j];simp only[e8,k,WH];rw[if_pos n];exact W_some.mpr o
theorem Fn{ms:MA}{g:aH}{e:Hm}{Q:fH×Nat×Hm->Prop}(h:W (ms g e) λp=>∃a xs,p.1=[.loc a]/\p.2[a]?=b0 (.lst xs)/\Q (lW (.loc a),xs.length+1,p.2)):W (nE ms g e) Q:=by unfold nE;rw[W_bind];refine bO h λp q=>?_;obtain⟨l,i⟩:=p;obtain⟨a,xs,b,c,d⟩:=q;dsimp only at b c d ⊢;subst b;dsimp only;simp only[e8,c,WN];exact W_some.mpr d
noncomputable def iS:Nat->List D->List D
 |_,[]=>[]|n,d::r=>.tup [.int n,d]::iS (n+1) r
theorem uV:∀(xs:List D)(n i:Nat),(iS n xs)[i]?=(xs[i]?).map λd=>.tup [.int ((n+i:Nat):Int),d]
 |[],n,i=>by simp[iS]
 |d::r,n,0=>by simp[iS]
 |d::r,n,i+1=>by show(iS (n+1) r)[i]?=_;rw[uV r (n+1) i,show n+1+i=n+(i+1) by lia];simp
theorem Al:∀(xs:List D)(n:Nat),(iS n xs).length=xs.length
 |[],_=>rfl|d::r,n=>by rw[iS,WO,Al r,WO]
theorem Rq{b:Hm}{a:Nat}{xs:List D}(h:b[a]?=b0 (.lst xs)):∀μ' i,b<+:μ'->lW (.loc a) μ' i=b0 (iS 0 xs)[i]?:=λμ' i c=>by simp only[lW,bM,aJ c h,WN,uV];congr 3;simp
theorem Rt{a:Nat}{xs:List D}{g:MG}{b:MS}{h:aH}{c:Hm}{Q:Fl×aH×Hm->Prop}(I:Nat->aH->Hm->Prop)(o:I 0 h c)(n:∀i h c,I i h c->c[a]?=b0 (.lst xs))
  (go:∀(i:Nat) d h c,xs[i]?=b0 d->I i h c->∃j,g (.tup [.int i,d]) h c=b0 j/\W (b j c) λp=>match p.1 with|.nx=>I (i+1) p.2.1 p.2.2|.ct=>I (i+1) p.2.1 p.2.2|.bk=>Q (.nx,p.2.1,p.2.2)|.rt d=>Q (.rt d,p.2.1,p.2.2))
  (l:∀h c,I xs.length h c->Q (.nx,h,c)):W (eU (lW (.loc a)) g b (xs.length+1) 0 h c) Q:=by
 refine nP (N:=xs.length) I (λi h c s k=>?_) (λh c k=>⟨?_,l h c k⟩) xs.length 0 h c (by lia) o
 .have e:xs[i]?=b0 xs[i]:=Wi s;obtain⟨j,q,r⟩:=go i xs[i] h c e k;refine⟨_,j,?_,q,r⟩;simp only[lW,bM,n i h c k,WN,e]
 .simp only[lW,bM,n _ h c k,WN];simp
theorem Am{n:fH}{A:BD}{c:MT}{e:ME}{z:aH}{a N:Nat}{Q:Hm->Prop}(I:Nat->List D->Hm->Prop)(B:N<=Wq)(k:∀i g j,I i g j->g.length<=i)
  (go:∀i g j,i<N->I i g j->j[a]?=b0 (.lst g)->∃d x,n j i=b0 (b0 d)/\A d j=b0 x/\W (c (z++x) j) λr=>(r.1=b4->r.2[a]?=b0 (.lst g)/\I (i+1) g r.2) /\
   (r.1=b5->W (e (z++x) r.2) λs=>s.2[a]?=b0 (.lst g)/\I (i+1) (g++[s.1]) (s.2.set a (.lst (g++[s.1])))))
  (l:∀g j,I N g j->j[a]?=b0 (.lst g)->n j N=b0 b3/\Q j):∀(m i:Nat)(g:List D)(j:Hm),i+m=N->I i g j->j[a]?=b0 (.lst g)->W (hJ n A c e z a (m+1) i j) Q
 |0,i,g,j,h,hI,hg=>by
  have:i=N:=by lia
  subst this;obtain⟨u,v⟩:=l g j hI hg;unfold hJ;rw[u];exact W_some.mpr v
 |m+1,i,g,j,h,hI,hg=>by
  obtain⟨d,x,u,v,E⟩:=go i g j (by lia) hI hg;unfold hJ;rw[u];simp only[WH,v];rw[W_bind];refine bO E λr q=>?_;obtain⟨b,w⟩:=r;cases b with
  |false=>obtain⟨o,p⟩:=q.1 rfl;exact Am I B k go l m (i+1) g w (by lia) p o|true=>dsimp only;rw[W_bind];refine bO (q.2 rfl) λs q=>?_;obtain⟨y,G⟩:=s;obtain⟨o,p⟩:=q;dsimp only at o p ⊢;have H:=k i g j hI;rw[Ag o (by lia),WH];refine Am I B k go l m (i+1) _ _ (by lia) p ?_;rw[Xk (Wa.mp o).1]
theorem Ru{w:fH}{G:BD}{c:MT}{e:ME}{E:aH}{g:Hm}{xs:List D}{x:D->aH}{p:D->Bool}{v:D->D}{Q:Hm->Prop}(I:∀a i,g<+:a->w a i=b0 xs[i]?)(N:xs.length<=Wq)(L:∀d a,d∈xs->G d a=b0 (x d))
  (hc:∀d a,d∈xs->g<+:a->W (c (E++x d) a) λr=>r.1=p d/\a<+:r.2)
  (M:∀d a,d∈xs->p d=b5->g<+:a->W (e (E++x d) a) λr=>r.1=v d/\a<+:r.2)
  (fin:∀a,g<+:a->a[g.length]?=b0 (.lst ((xs.filter p).map v))->Q a):W (hJ w G c e E g.length (xs.length+1) 0 (g++[.lst []])) Q:=by
 refine Am (N:=xs.length) (λi z a=>z=((xs.take i).filter p).map v/\g<+:a) N ?_ ?_ ?_ xs.length 0 [] _ (by lia) ⟨by simp,aU _ _⟩ (by simp)
 .rintro i z a ⟨rfl,_⟩;rw[V7];refine W7 (Yk _ _) ?_;rw[Xa];lia
 .rintro i z a H ⟨rfl,k⟩ u;have J:xs[i]?=b0 xs[i]:=Wi H;have h:xs[i]∈xs:=XY H;have j:xs.take (i+1)=xs.take i++[xs[i]]:=by rw[YQ,J];rfl
  refine⟨xs[i],x xs[i],by rw[I a i k,J],L _ _ h,bO (hc _ a h k) λr q=>?_⟩;obtain⟨b,B⟩:=r;obtain⟨n,o⟩:=q;dsimp only at n o ⊢;refine⟨λl=>⟨aJ o u,?_,k.trans o⟩,λl=>?_⟩
  .rw[j,YT];rw[l]at n;simp[<- n]
  .rw[l]at n;refine bO (M _ B h n.symm (k.trans o)) λs q=>?_;obtain⟨y,O⟩:=s;obtain⟨K,A⟩:=q;dsimp only at K A ⊢;subst K;refine⟨aJ (o.trans A) u,?_,dJ ((k.trans o).trans A) (Wh _) _⟩;rw[j,YT,WE];simp[<- n]
 .rintro z a ⟨rfl,k⟩ u;refine⟨by rw[I a _ k];simp,fin a k ?_⟩;rw[W9]at u;exact u
theorem rL{g:BD}{y:MI}{c:MT}{e:ME}{b:aH}{z:Hm}{xs:List D}{x:D->aH}{p:D->Bool}{v:D->D}{Q:jz}
  (hit:W (y b z) λr=>(∀a i,r.2.2<+:a->r.1 a i=b0 xs[i]?)/\r.2.1=xs.length+1/\xs.length<=Wq/\(∀d a,d∈xs->g d a=b0 (x d)) /\
   (∀d a,d∈xs->r.2.2<+:a->W (c (b++x d) a) λs=>s.1=p d/\a<+:s.2)/\(∀d a,d∈xs->p d=b5->r.2.2<+:a->W (e (b++x d) a) λs=>s.1=v d/\a<+:s.2) /\
   ∀a,r.2.2<+:a->a[r.2.2.length]?=b0 (.lst ((xs.filter p).map v))->Q (.loc r.2.2.length,a)):W (eZ g y c e b z) Q:=by
 unfold eZ;rw[W_bind];refine bO hit λr q=>?_;obtain⟨A,n,B⟩:=r;obtain⟨h,j,k,l,o,u,w⟩:=q;dsimp only at h j k l o u w ⊢;subst j;rw[iR];exact Ru h k l o u w
theorem w_mTrue{b:aH}{a:Hm}{Q:Bool×Hm->Prop}:W (eI b a) Q↔Q (b5,a):=W_some
theorem w_mPut{o i v:ME}{a:aH}{b:Hm} {Q}:W (iP o i v a b) Q↔W (v a b) λp=>W (o a p.2) λq=>W (i a q.2) λr=>W (oR q.1 r.1 p.1 r.2) λμ'=>Q (.nx,a,μ'):=by unfold iP nF;simp only[W_bind,iR]
theorem Rv{ms:MA}{g:aH}{d:Hm}{Q:fH×Nat×Hm->Prop}(h:W (ms g d) λp=>∃a b xs c,p.1=[.loc a,.loc b]/\p.2[a]?=b0 (.lst xs)/\p.2[b]?=b0 (.lst c)/\Q (qI (.loc a) (.loc b),min xs.length c.length+1,p.2)):W (qJ ms g d) Q:=by unfold qJ;rw[W_bind];refine bO h λp q=>?_;obtain⟨a,b,xs,c,e,i,j,q⟩:=q;rw[e];simp only[e8,i,j,WH,WN];exact W_some.mpr q
theorem An(k:List Int):cR (.tup (k.map D.int))=b0 k:=Aj k
section
variable{μ:Hm}{a:Nat}{kvs:jx}{k:List Int}{d y:D}{ρ:aH}{Q:jz}
theorem w_mDNewT:W (jC ρ μ) Q↔Q (.loc μ.length,μ++[.dT []]):=W_some
theorem jG(h:μ[a]?=b0 (.dT kvs))(b:cR y=b0 k)(c:a8 kvs k=b0 d):W (aE (.loc a) y μ) Q↔Q (d,μ):=by simp only[aE,h,b,WH,c,WN];exact W_some
theorem k5{b:Bool}(h:μ[a]?=b0 (.dT kvs))(c:cR y=b0 k):W (cM b y (.loc a) μ) Q↔Q (.bl (if b then !(a8 kvs k).isSome else(a8 kvs k).isSome),μ):=by
 have:cM b y (.loc a) μ=b0 (.bl (if b then !(a8 kvs k).isSome else(a8 kvs k).isSome),μ):=by simp only[cM,h,c,WN]
 rw[this];exact W_some
theorem mJ{Q:Hm->Prop}(h:μ[a]?=b0 (.dT kvs))(b:cR y=b0 k)(c:kvs.length<Wq):W (oR (.loc a) y d μ) Q↔Q (μ.set a (.dT (b9 kvs k d))):=by simp only[oR,qF,h,b,WH,if_pos c];exact W_some
theorem Rw(h:μ[a]?=b0 (.dT kvs)):W (j8 [.loc a] μ) Q↔Q (.loc μ.length,μ++[.lst (kvs.map λk=>D.tup (k.1.map D.int))]):=by simp only[j8,h];exact W_some
theorem Ry{xs:List D}(h:μ[a]?=b0 (.lst xs)):W (j8 [.loc a] μ) Q↔Q (.loc μ.length,μ++[.lst xs]):=by simp only[j8,h,pX,bM,WN];exact W_some
end
theorem Rz{b:Hm}{a:Nat}{xs:List D}{Q:jz}(h:b[a]?=b0 (.lst xs)):W (lX [.loc a] b) Q↔Q (.loc b.length,b++[.lst xs.reverse]):=by simp only[lX,h];exact W_some
theorem RA{ms:MA}{b:aH}{a:Hm}{Q:fH×Nat×Hm->Prop}(h:W (ms b a) λp=>∃i j c,p.1=[.int i,.int j,.int c]/\tS i j c=b5/\Q (yI i c (Xl i j c).toNat,(Xl i j c).toNat+1,p.2)):W (oT ms b a) Q:=by unfold oT;rw[W_bind];refine bO h λp q=>?_;obtain⟨i,j,c,d,e,g⟩:=q;rw[d];dsimp only;rw[if_pos e];exact W_some.mpr g
end L3
namespace Lw
open PySem L2 L3
noncomputable def ds:List (Str×Stmt):=(("is_whole",aI 10)::("is_place",aI 11)::("is_corner",aI 12)::("is_edge",aI 13)::("is_quarter",aI 14)::("line_of",aI 15)::("beside",aI 16)::("sides_of",aI 17)::("moved_by",aI 18)::("edges_round",aI 19)::("number_by",aI 20)::("hand_of",aI 21)::("mirrored",aI 22)::("is_size",aI 25)::("check_size",aI 26)::("is_mark",aI 27)::("is_within",aI 28)::("places_within",aI 29)::("quarters_in",aI 30)::("edges_in",aI 31)::("corners_in",aI 32)::("is_inner_edge",aI 33)::("sheet_of",aI 34)::("marks_in",aI 35)::("is_good",aI 37)::("creases_at",aI 39)::("gaps_at",aI 40)::("barred",aI 41)::("check_corners",aI 42)::("tie_of",aI 44)::("is_least",aI 45)::("ties_of_gap",aI 46)::("ties_at",aI 47)::("ties",aI 48)::("walked_back",aI 51)::("steps_from",aI 52)::("is_marked",aI 53)::("marked_creases",aI 54)::("last_steps",aI 55)::("way_by",aI 56)::("is_alike",aI 57)::("carried_mark",aI 58)::("carried",aI 59)::("way_to",aI 60)::("laying_by",aI 63)::("mirror_in",aI 64)::("led",aI 65)::("then",aI 66)::("_law_nth",aI 68)::("_law_folded",aI 69)::("_law_folds",aI 70)::("_law_gaps",aI 71)::("_law_star",aI 72)::("_law_creases",aI 73)::("_law_square",aI 74)::("_law_sheet",aI 75)::("_law_round_a",aI 76)::("_law_inner",aI 77)::("_law_barred",aI 78)::("_law_tie",aI 79)::("_law_ties",aI 80)::("_law_groups",aI 81)::("_law_told",aI 82)::("_law_steps",aI 83)::("_law_odd",aI 84)::("_law_due",aI 85)::("_law_way",aI 86)::("law",aI 87)::[])
noncomputable def Fo:D:=(.tup [(.tup [(.int 2),(.int 0)]),(.tup [(.int 1),(.int 1)]),(.tup [(.int 0),(.int 2)]),(.tup [(.int (-1)),(.int 1)]),(.tup [(.int (-2)),(.int 0)]),(.tup [(.int (-1)),(.int (-1))]),(.tup [(.int 0),(.int (-2))]),(.tup [(.int 1),(.int (-1))])])
noncomputable def Fp:D:=(.tup [(.tup [(.int 1),(.int 1)]),(.tup [(.int (-1)),(.int 1)]),(.tup [(.int (-1)),(.int (-1))]),(.tup [(.int 1),(.int (-1))])])
noncomputable def Fq:D:=(.tup [(.str "h"),(.str "v"),(.str "o")])
noncomputable def rM:List (bG×D):=[((.inr "h"),(.str "v")),((.inr "v"),(.str "h"))]
noncomputable def Fs:D:=(.tup [(.int 1),(.int 0),(.int 0),(.int 1),(.int 0),(.int 0)])
noncomputable def S:Sig:={fn:=(("is_whole",1)::("is_place",1)::("is_corner",1)::("is_edge",1)::("is_quarter",1)::("line_of",1)::("beside",1)::("sides_of",1)::("moved_by",2)::("edges_round",1)::("number_by",2)::("hand_of",2)::("mirrored",2)::("is_size",1)::("check_size",2)::("is_mark",1)::("is_within",3)::("places_within",2)::("quarters_in",2)::("edges_in",2)::("corners_in",2)::("is_inner_edge",3)::("sheet_of",3)::("marks_in",1)::("is_good",1)::("creases_at",2)::("gaps_at",2)::("barred",1)::("check_corners",1)::("tie_of",4)::("is_least",2)::("ties_of_gap",3)::("ties_at",2)::("ties",1)::("walked_back",1)::("steps_from",1)::("is_marked",1)::("marked_creases",1)::("last_steps",2)::("way_by",2)::("is_alike",1)::("carried_mark",3)::("carried",1)::("way_to",2)::("laying_by",3)::("mirror_in",1)::("led",2)::("then",2)::("_law_nth",2)::("_law_folded",3)::("_law_folds",3)::("_law_gaps",2)::("_law_star",2)::("_law_creases",3)::("_law_square",0)::("_law_sheet",2)::("_law_round_a",2)::("_law_inner",1)::("_law_barred",1)::("_law_tie",5)::("_law_ties",1)::("_law_groups",2)::("_law_told",2)::("_law_steps",2)::("_law_odd",1)::("_law_due",3)::("_law_way",5)::("law",1)::[]),con:=[("EIGHT_EDGES",Fo),("FOUR_EDGES",Fp),("MARKS",Fq),("STILL",Fs)],tab:=[("TURNED",rM)],no:=["all","bool","dict","enumerate","int","isinstance","len","list","max","min","range","reversed","sorted","str","sum","tuple","zip"],dIt:=["marks"],dEq:=[],dMe:=[]}
@[irreducible] noncomputable def f(k:Nat)(x:Str):MF:=jF S ds k x
noncomputable def Ao:MS:=bB (fP (aQ (aC (aT b4) (aC aV (aA 2) (mC (.int 2))) (mC (.int 0)))) (aQ (aC (aT b4) (aC aV (aA 2) (mC (.int 4))) (aC aV (aA 3) (mC (.int 4)))))) (cK (cS dU (aA 1) (aB (aX (aB (aA 2) (aB (aA 3) aD))) aD))) bF
noncomputable def Ap:MS:=aG (aL 7 (aC bI (aC aV (aC cQ (aC cQ (aC aE (aA 5) (aC aV (aC bI (aA 3) (mC (.int 1))) (aF bL (aB (aA 5) aD)))) (aC aE (aA 5) (aA 3))) (mC (.int 1))) (aF bL (aB (aA 4) aD))) (mC (.int 1)))) (cK (cS dU (aA 6) (aB (aC cF (aA 7) (aC dB (mC (.int 8)) (aF bL (aB (aA 4) aD)))) aD)))
noncomputable def Ft(k:Nat):MS:=aG (cK (cS dU (aA 2) (aB (aF (f k "_law_tie") (aB (aA 4) (aB (aA 6) (aB (aC bI (aA 6) (mC (.int 1))) (aB (mC (.bl b4)) (aB (aA 3) aD)))))) aD))) (bB (aQ (aC (aT b4) (aF bL (aB (aA 4) aD)) (mC (.int 4)))) (cK (cS dU (aA 2) (aB (aF (f k "_law_tie") (aB (aA 4) (aB (aC bI (aA 6) (mC (.int 2))) (aB (aC bI (aA 6) (mC (.int 3))) (aB (mC (.bl b5)) (aB (aA 3) aD)))))) aD))) bF)
noncomputable def Aq(k:Nat):MS:=aG (aL 7 (aF kW (aB (aC aE (aA 5) (aC cQ (aA 6) (mC (.int 1)))) (aB (aC aE (aA 5) (aC aV (aC bI (aA 6) (mC (.int 1))) (aF bL (aB (aA 4) aD)))) aD)))) (bB (fP (aQ (aC kN (aF bL (aB (aA 4) aD)) (mC (.int 2)))) (aQ (aC dQ (aC aE (aA 5) (aA 6)) (aA 7)))) (Ft k) bF)
noncomputable def Ar(k:Nat):MS:=aG (hV (aF (f k "_law_round_a") (aB (aA 1) (aB (aA 3) aD))) (d9 [4,5])) (aG (bB (aQ (aC (aT b4) (aF bL (aB (aA 4) aD)) (mC (.int 2)))) (cK (cS dU (aA 2) (aB (aF (f k "_law_tie") (aB (aA 4) (aB (mC (.int 0)) (aB (mC (.int 1)) (aB (mC (.bl b5)) (aB (aA 3) aD)))))) aD))) bF) (b8 (fZ (aB (aF bL (aB (aA 4) aD)) aD)) (cE 6) (Aq k)))
noncomputable def Au(k:Nat):MS:=aG (aL 3 (aC aE (aF (f k "_law_round_a") (aB (aA 1) (aB (aA 2) aD))) (mC (.int 1)))) (bB (gC (aQ (aC (aT b4) (aC aV (aF bL (aB (aA 3) aD)) (mC (.int 2))) (mC (.int 1)))) (aQ (aC (aT b5) (aF kU (aB (eZ (i9 2) (nE (aB (aA 3) aD)) eI (aC cF (aA 5) (aC cQ (mC (.int 1)) (aC cF (mC (.int 2)) (aC aV (aA 4) (mC (.int 2))))))) aD)) (mC (.int 0))))) (aO (aA 2)) bF)
noncomputable def Av(k:Nat):MS:=aG (bB (aQ (aC (aT b4) (aF (f k "hand_of") (aB (aF (f k "led") (aB (aA 5) (aB (aA 4) aD))) (aB (aA 1) aD))) (aA 2))) (aL 5 (aF (f k "then") (aB (aA 5) (aB (aF (f k "mirror_in") (aB (aA 1) aD)) aD)))) bF) (iP (aA 3) (aA 4) (aA 5))
noncomputable def Aw(k:Nat):MS:=aG (aL 7 (aF (f k "_law_nth") (aB (aA 0) (aB (aC bI (aC bI (aA 1) (mC (.int 1))) (aA 6)) aD)))) (aG (aL 8 (aC aE (aA 5) (aC aV (aC dB (aA 7) (mC (.int 2))) (aF bL (aB (aA 5) aD))))) (aG (aL 8 (aF (f k "led") (aB (aC aE (aA 3) (aC aE (aF (f k "sides_of") (aB (aA 8) aD)) (mC (.int 0)))) (aB (aA 8) aD)))) (aL 3 (aF (f k "_law_folded") (aB (aA 3) (aB (aA 8) (aB (aC cQ (mC (.int 1)) (aC cF (mC (.int 2)) (aC aV (aA 7) (mC (.int 2))))) aD)))))))
noncomputable def Ax:MS:=cK (cS kS (aA 5) (aB (b6 (aB (aC aE (aA 4) (aC bI (aA 2) (aA 6))) (aB (aC aE (aA 4) (aC bI (aA 3) (aA 6))) aD))) aD))
noncomputable def Fu:MT:=fP (aQ (gH dQ dQ (mC (.int 0)) (aA 10) (aC cF (mC (.int 4)) (aC aE (aA 0) (mC (.int 0)))))) (aQ (gH dQ dQ (mC (.int 0)) (aA 11) (aC cF (mC (.int 4)) (aC aE (aA 0) (mC (.int 1))))))
noncomputable def Fv:MS:=aG (cK (cS dU (aA 5) (aB (aX (aB (aC bI (aA 10) (aA 8)) (aB (aC bI (aA 11) (aA 9)) aD))) aD))) (aG (aL 10 (aC bI (aA 10) (aC cF (mC (.int 2)) (aA 8)))) (aL 11 (aC bI (aA 11) (aC cF (mC (.int 2)) (aA 9)))))
noncomputable def uW:MS:=aG (hV (aC aE (aA 2) (aC aV (aA 6) (mC (.int 8)))) (d9 [8,9])) (aG (hV (aA 4) (d9 [10,11])) (aG (lV mE Fu Fv) (aL 6 (aC bI (aA 6) (aA 7)))))
noncomputable def Fw:MS:=bB (aQ (aC (cM b5) (aA 6) (aA 4))) (cK (cS dU (aA 4) (aB (aA 6) aD))) bF
noncomputable def Fx(k:Nat):MS:=b8 (bV (aF (f k "_law_star") (aB (aA 2) (aB (aF (f k "_law_nth") (aB (aA 0) (aB (aC bI (aC bI (aA 1) (mC (.int 1))) (aA 5)) aD))) aD)))) (cE 6) Fw
noncomputable def Ay(k:Nat):MS:=aG (aL 5 (aC aE (aA 4) (mC (.int 0)))) (aG (bB (eX (cV (aF (f k "is_inner_edge") (aB (aA 0) (aB (aA 1) (aB (aA 5) aD)))))) eC bF) (aG (bB (eX (cV (aF (f k "is_mark") (aB (aC aE (aA 4) (mC (.int 1))) aD)))) eC bF) (aG (bB (aQ (aC (cM b4) (aA 5) (aA 3))) eC bF) (iP (aA 3) (aA 5) (aC aE (aA 4) (mC (.int 1)))))))
noncomputable def Fy:MS:=aG (aL 9 (aC aV (aC dB (aA 7) (mC (.int 16))) (aC aE (b6 (aB (mC (.int 3)) (aB (mC (.int 4)) (aB (mC (.int 8)) aD)))) (aC aV (aA 7) (mC (.int 3)))))) (aG (cK (cS dU (aA 8) (aB (aX (aB (aA 6) (aB (aC aE (b6 (aB (mC (.str "o")) (aB (mC (.str "o")) (aB (mC (.str "h")) (aB (mC (.str "v")) (aB (mC (.str "o")) (aB (mC (.str "o")) (aB (mC (.str "o")) (aB (mC (.str "o")) aD))))))))) (aA 9)) aD))) aD))) (aL 7 (aC aV (aC bI (aC cF (aA 7) (mC (.int 48271))) (mC (.int 11))) (mC (.int 1000003)))))
noncomputable def Fz(k:Nat):MS:=aG (aL 7 (aC aV (aF (f k "_law_nth") (aB (aA 0) (aB (aC bI (aA 1) (mC (.int 6))) aD))) (mC (.int 1000003)))) (aG (aL 8 (b6 aD)) (aG (b8 (bV (aA 4)) (cE 6) Fy) (aO (aF (f k "sheet_of") (aB (aC aE (aA 3) (mC (.int 0))) (aB (aC aE (aA 3) (mC (.int 1))) (aB (aA 8) aD)))))))
noncomputable def FA:MS:=bB (aQ (aC (cM b4) (aA 6) (aA 4))) (cK (cS o3 (aA 4) (aB (aA 6) aD))) (cK (cS dU (aA 4) (aB (aA 6) aD)))
noncomputable def Az(k:Nat):MS:=aG (aL 5 (aF (f k "edges_in") (aB (aC aE (aA 3) (mC (.int 0))) (aB (aC aE (aA 3) (mC (.int 1))) aD)))) (aG (bB (aQ (aC (aT b4) (aC aV (aC dB (aA 2) (mC (.int 324))) (mC (.int 4))) (mC (.int 1)))) (aG (aL 6 (aC aE (aA 5) (aC aV (aC dB (aA 2) (mC (.int 1296))) (aF bL (aB (aA 5) aD))))) FA) bF) (Fz k))
noncomputable def AA:MS:=bB (aQ (aC (cM b5) (aC aE (aA 6) (mC (.int 1))) (aA 2))) (aG (iP (aA 2) (aC aE (aA 6) (mC (.int 1))) (aA 6)) (cK (cS dU (aA 4) (aB (aC aE (aA 6) (mC (.int 1))) aD)))) bF
noncomputable def AB:MS:=aG (aL 5 (cS nC (aA 4) (aB (mC (.int 0)) aD))) (b8 (bV (j5 l6 (aA 0) (aB (aA 5) (aB (b6 aD) aD)))) (cE 6) AA)
noncomputable def AD:MS:=bB (aQ (aC (aT b4) (aC aE (aC aE (aA 2) (aA 13)) (mC (.int 0))) (aA 10))) (iP (aA 2) (aA 13) (aX (aB (aA 8) (aB (aC aV (aC bI (aC aE (aC aE (aA 2) (aA 13)) (mC (.int 1))) (aA 12)) (mC (.int 2))) aD)))) bF
noncomputable def AE:MS:=aG (hV (aC aE (aA 2) (aA 3)) (d9 [8,9])) (aG (hV (aC aE (aA 2) (aA 5)) (d9 [10,11])) (aG (aL 12 (aC aV (aC bI (aC bI (aA 9) (aA 11)) (aF lQ (aB (lO (aA 6)) aD))) (mC (.int 2)))) (aG (bB (fP (aQ (aC (aT b4) (aA 8) (aA 10))) (aQ (aC (aT b4) (aA 12) (mC (.int 1))))) (aO (mC .non)) bF) (bB (aQ (aC (aT b5) (aA 8) (aA 10))) (b8 (bV (aF j8 (aB (aA 2) aD))) (cE 13) AD) bF))))
noncomputable def AF:MS:=bB (aQ (aC (aT b5) (aA 4) (mC (.str "o")))) (aG (hV (aC aE (aA 1) (aA 3)) (d9 [5,6])) (aG (aL 7 (aC aV (aC bI (aF lQ (aB (aC (aT b4) (aA 4) (mC (.str "v"))) aD)) (aA 6)) (mC (.int 2)))) (bB (aQ (aC (aT b5) (j5 f6 (aA 2) (aB (aA 5) (aB (aA 7) aD))) (aA 7))) (aO (mC .non)) bF))) bF
noncomputable def AG:MS:=aG (hV (aC aE (aA 1) (aA 4)) (d9 [6,7])) (aG (bB (aQ (aC (cM b4) (aA 6) (aA 2))) (aL 5 (aC aE (mC (.str "hv")) (aC aV (aC bI (aC aE (aA 2) (aA 6)) (aA 7)) (mC (.int 2))))) bF) (cK (cS dU (aA 3) (aB (aX (aB (aA 4) (aB (aA 5) aD))) aD))))
noncomputable def FC:MS:=aG (bB (gC (eX (cV (aF fG (aB (aA 3) (aB (mC (.ty "tuple")) aD))))) (gC (aQ (aC (aT b5) (aF bL (aB (aA 3) aD)) (mC (.int 4)))) (eX (cV (aF fG (aB (aC aE (aA 3) (mC (.int 2))) (aB (mC (.ty "bool")) aD))))))) (aO (mC (.bl b4))) bF) (aG (bB (aQ (aC (cM b5) (aX (aB (aF kW (aB (aC aE (aA 3) (mC (.int 0))) (aB (aC aE (aA 3) (mC (.int 1))) aD))) (aB (aF qR (aB (aC aE (aA 3) (mC (.int 0))) (aB (aC aE (aA 3) (mC (.int 1))) aD))) (aB (aC aE (aA 3) (mC (.int 2))) (aB (aC aE (aA 3) (mC (.int 3))) aD))))) (aA 1))) (aO (mC (.bl b4))) bF) (bB (fP (aQ (aC kN (aA 2) (mC (.int 0)))) (aQ (aC (aT b5) (aC aE (aC aE (aA 0) (aC cQ (aA 2) (mC (.int 1)))) (mC (.int 1))) (aC aE (aA 3) (mC (.int 0)))))) (aO (mC (.bl b4))) bF))
noncomputable def FD(k:Nat):ME:=aC aV (aC bI (aF (f k "_law_nth") (aB (aA 0) (aB (mC (.int 7)) aD))) (aC cF (aA 9) (aC bI (mC (.int 1)) (aC aV (aF (f k "_law_nth") (aB (aA 0) (aB (mC (.int 8)) aD))) (aF bL (aB (aA 4) aD)))))) (aF bL (aB (aA 4) aD))
noncomputable def FE(k:Nat):MS:=aG (hV (aC aE (aA 4) (FD k)) (d9 [7,8])) (bB (eX (cV (aF (f k "_law_way") (aB (aA 1) (aB (aA 2) (aB (aA 6) (aB (aA 7) (aB (aA 8) aD)))))))) (aO (mC (.bl b4))) bF)
noncomputable def FF(k:Nat):MS:=aG (aL 5 (aF (f k "carried") (aB (aA 1) aD))) (aG (bB (gC (eX (cV (aF fG (aB (aA 5) (aB (mC (.ty "list")) aD))))) (aQ (aC (aT b5) (aA 5) (aA 4)))) (aO (mC (.bl b4))) bF) (aG (cK (cS dU (aA 5) (aB (mC (.int 2)) aD))) (aG (aL 6 jC) (aG (b8 (bV (aC aE (aA 1) (mC (.int 2)))) (d9 [7,8]) (iP (aA 6) (aA 7) (aA 8))) (aG (b8 (fZ (aB (aF kW (aB (aC aE (b6 (aB (mC (.int 6)) (aB (mC (.int 2)) aD))) (aF lQ (aB (aC kN (aC aE (aA 1) (mC (.int 0))) (mC (.int 3))) aD))) (aB (aF bL (aB (aA 4) aD)) aD))) aD)) (cE 9) (FE k)) (aO (aC (aT b4) (aF (f k "carried") (aB (aA 1) aD)) (aA 4))))))))
theorem FG(k:Nat)(d0:D)(a:Hm):f (k+1) "is_whole" [d0] a=fin ((aO (dZ (aF fG (aB (aA 0) (aB (mC (.ty "int")) aD))) (lO (aF fG (aB (aA 0) (aB (mC (.ty "bool")) aD)))))) [b0 d0] a):=by kernel_rfl
theorem RB(k:Nat)(d0:D)(a:Hm):f (k+1) "is_place" [d0] a=fin ((aO (dZ (aF fG (aB (aA 0) (aB (mC (.ty "tuple")) aD))) (dZ (aC (aT b4) (aF bL (aB (aA 0) aD)) (mC (.int 2))) (dZ (aF (f k "is_whole") (aB (aC aE (aA 0) (mC (.int 0))) aD)) (aF (f k "is_whole") (aB (aC aE (aA 0) (mC (.int 1))) aD)))))) [b0 d0] a):=by kernel_rfl
theorem RC(k:Nat)(d0:D)(a:Hm):f (k+1) "is_corner" [d0] a=fin ((aO (dZ (aC (aT b4) (aC aV (aC aE (aA 0) (mC (.int 0))) (mC (.int 2))) (mC (.int 0))) (aC (aT b4) (aC aV (aC aE (aA 0) (mC (.int 0))) (mC (.int 4))) (aC aV (aC aE (aA 0) (mC (.int 1))) (mC (.int 4)))))) [b0 d0] a):=by kernel_rfl
theorem RD(k:Nat)(d0:D)(a:Hm):f (k+1) "is_edge" [d0] a=fin ((aG (bB (aQ (aC (aT b4) (aC aV (aC aE (aA 0) (mC (.int 0))) (mC (.int 2))) (mC (.int 1)))) (aO (aC (aT b4) (aC aV (aC aE (aA 0) (mC (.int 1))) (mC (.int 2))) (mC (.int 1)))) bF) (aO (dZ (aC (aT b4) (aC aV (aC aE (aA 0) (mC (.int 1))) (mC (.int 2))) (mC (.int 0))) (aC (aT b5) (aC aV (aC aE (aA 0) (mC (.int 0))) (mC (.int 4))) (aC aV (aC aE (aA 0) (mC (.int 1))) (mC (.int 4))))))) [b0 d0] a):=by kernel_rfl
theorem RE(k:Nat)(d0:D)(a:Hm):f (k+1) "is_quarter" [d0] a=fin ((aG (bB (aQ (aC (aT b4) (aC aV (aC aE (aA 0) (mC (.int 0))) (mC (.int 2))) (mC (.int 1)))) (aO (aC (aT b4) (aC aV (aC aE (aA 0) (mC (.int 1))) (mC (.int 4))) (mC (.int 2)))) bF) (aO (dZ (aC (aT b4) (aC aV (aC aE (aA 0) (mC (.int 0))) (mC (.int 4))) (mC (.int 2))) (aC (aT b4) (aC aV (aC aE (aA 0) (mC (.int 1))) (mC (.int 2))) (mC (.int 1)))))) [b0 d0] a):=by kernel_rfl
theorem RF(k:Nat)(d0:D)(a:Hm):f (k+1) "line_of" [d0] a=fin ((aG (bB (aQ (aC (aT b4) (aC aV (aC aE (aA 0) (mC (.int 0))) (mC (.int 2))) (mC (.int 1)))) (aO (gZ (aQ (aC (aT b4) (aC aV (aC aE (aA 0) (mC (.int 0))) (mC (.int 4))) (aC aV (aC aE (aA 0) (mC (.int 1))) (mC (.int 4))))) (mC (.str "falling")) (mC (.str "rising")))) bF) (aO (gZ (aQ (aC (aT b4) (aC aV (aC aE (aA 0) (mC (.int 1))) (mC (.int 4))) (mC (.int 0)))) (mC (.str "level")) (mC (.str "upright"))))) [b0 d0] a):=by kernel_rfl
theorem RG(k:Nat)(d0:D)(a:Hm):f (k+1) "beside" [d0] a=fin ((aG (aL 1 (aC aE (aA 0) (mC (.int 0)))) (aG (aL 2 (aC aE (aA 0) (mC (.int 1)))) (aO (b6 (aB (aX (aB (aC cQ (aA 1) (mC (.int 1))) (aB (aA 2) aD))) (aB (aX (aB (aA 1) (aB (aC cQ (aA 2) (mC (.int 1))) aD))) (aB (aX (aB (aA 1) (aB (aC bI (aA 2) (mC (.int 1))) aD))) (aB (aX (aB (aC bI (aA 1) (mC (.int 1))) (aB (aA 2) aD))) aD)))))))) [b0 d0,b3,b3] a):=by kernel_rfl
theorem RH(k:Nat)(d0:D)(a:Hm):f (k+1) "sides_of" [d0] a=fin ((aO (eB (bV (aF (f k "beside") (aB (aA 0) aD))) (cV (aF (f k "is_quarter") (aB (aA 1) aD))) (aA 1))) [b0 d0] a):=by kernel_rfl
theorem RI(k:Nat)(d0 d1:D)(a:Hm):f (k+1) "moved_by" [d0,d1] a=fin ((aO (eB (bV (aA 1)) eI (aX (aB (aC bI (aC aE (aA 0) (mC (.int 0))) (aC aE (aA 2) (mC (.int 0)))) (aB (aC bI (aC aE (aA 0) (mC (.int 1))) (aC aE (aA 2) (mC (.int 1)))) aD))))) [b0 d0,b0 d1] a):=by kernel_rfl
theorem RJ(k:Nat)(d0:D)(a:Hm):f (k+1) "edges_round" [d0] a=fin ((aO (aF (f k "moved_by") (aB (aA 0) (aB (gZ (aQ (aC (aT b4) (aC aV (aC aE (aA 0) (mC (.int 0))) (mC (.int 4))) (mC (.int 0)))) (mC Fo) (mC Fp)) aD)))) [b0 d0] a):=by kernel_rfl
theorem RK(k:Nat)(d0 d1:D)(a:Hm):f (k+1) "number_by" [d0,d1] a=fin ((aG (bB (aQ (aC (aT b4) (aA 0) (mC (.str "level")))) (aO (aC aE (aA 1) (mC (.int 1)))) bF) (aG (bB (aQ (aC (aT b4) (aA 0) (mC (.str "upright")))) (aO (aC aE (aA 1) (mC (.int 0)))) bF) (aG (bB (aQ (aC (aT b4) (aA 0) (mC (.str "falling")))) (aO (aC cQ (aC aE (aA 1) (mC (.int 0))) (aC aE (aA 1) (mC (.int 1))))) bF) (aO (aC bI (aC aE (aA 1) (mC (.int 0))) (aC aE (aA 1) (mC (.int 1)))))))) [b0 d0,b0 d1] a):=by kernel_rfl
theorem RL(k:Nat)(d0 d1:D)(a:Hm):f (k+1) "hand_of" [d0,d1] a=fin ((aG (aL 2 (aF (f k "line_of") (aB (aA 1) aD))) (aG (aL 3 (aC cQ (aF (f k "number_by") (aB (aA 2) (aB (aA 0) aD))) (aF (f k "number_by") (aB (aA 2) (aB (aA 1) aD))))) (aG (bB (aQ (aC kN (aA 3) (mC (.int 0)))) (aO (mC (.int 1))) bF) (aO (gZ (aQ (aC dQ (aA 3) (mC (.int 0)))) (eY (mC (.int 1))) (mC (.int 0))))))) [b0 d0,b0 d1,b3,b3] a):=by kernel_rfl
theorem RM(k:Nat)(d0 d1:D)(a:Hm):f (k+1) "mirrored" [d0,d1] a=fin ((aG (aL 2 (aC aE (aA 0) (mC (.int 0)))) (aG (aL 3 (aC aE (aA 0) (mC (.int 1)))) (aG (aL 4 (aF (f k "line_of") (aB (aA 1) aD))) (aG (aL 5 (aF (f k "number_by") (aB (aA 4) (aB (aA 1) aD)))) (aG (bB (aQ (aC (aT b4) (aA 4) (mC (.str "level")))) (aO (aX (aB (aA 2) (aB (aC cQ (aC cF (mC (.int 2)) (aA 5)) (aA 3)) aD)))) bF) (aG (bB (aQ (aC (aT b4) (aA 4) (mC (.str "upright")))) (aO (aX (aB (aC cQ (aC cF (mC (.int 2)) (aA 5)) (aA 2)) (aB (aA 3) aD)))) bF) (aG (bB (aQ (aC (aT b4) (aA 4) (mC (.str "falling")))) (aO (aX (aB (aC bI (aA 3) (aA 5)) (aB (aC cQ (aA 2) (aA 5)) aD)))) bF) (aO (aX (aB (aC cQ (aA 5) (aA 3)) (aB (aC cQ (aA 5) (aA 2)) aD))))))))))) [b0 d0,b0 d1,b3,b3,b3,b3] a):=by kernel_rfl
theorem RN(k:Nat)(d0:D)(a:Hm):f (k+1) "is_size" [d0] a=fin ((aO (dZ (aF (f k "is_whole") (aB (aA 0) aD)) (gH oD oD (mC (.int 1)) (aA 0) (mC (.int 6))))) [b0 d0] a):=by kernel_rfl
theorem RO(k:Nat)(d0 d1:D)(a:Hm):f (k+1) "check_size" [d0,d1] a=fin ((bB (eX (fP (cV (aF (f k "is_size") (aB (aA 0) aD))) (cV (aF (f k "is_size") (aB (aA 1) aD))))) eC bF) [b0 d0,b0 d1] a):=by kernel_rfl
theorem AH(k:Nat)(d0:D)(a:Hm):f (k+1) "is_mark" [d0] a=fin ((aO (dZ (aF fG (aB (aA 0) (aB (mC (.ty "str")) aD))) (aC (cM b4) (aA 0) (mC Fq)))) [b0 d0] a):=by kernel_rfl
theorem RP(k:Nat)(d0 d1 d2:D)(a:Hm):f (k+1) "is_within" [d0,d1,d2] a=fin ((aO (dZ (gH dQ dQ (mC (.int 0)) (aC aE (aA 2) (mC (.int 0))) (aC cF (mC (.int 4)) (aA 0))) (gH dQ dQ (mC (.int 0)) (aC aE (aA 2) (mC (.int 1))) (aC cF (mC (.int 4)) (aA 1))))) [b0 d0,b0 d1,b0 d2] a):=by kernel_rfl
theorem RQ(k:Nat)(d0 d1:D)(a:Hm):f (k+1) "places_within" [d0,d1] a=fin ((aG (aL 2 (b6 aD)) (aG (b8 (lT (aB (mC (.int 1)) (aB (aC cF (mC (.int 4)) (aA 0)) aD))) (cE 3) (cK (cS kS (aA 2) (aB (eB (lT (aB (mC (.int 1)) (aB (aC cF (mC (.int 4)) (aA 1)) aD))) eI (aX (aB (aA 3) (aB (aA 4) aD)))) aD)))) (aO (aA 2)))) [b0 d0,b0 d1,b3,b3] a):=by kernel_rfl
theorem RR(k:Nat)(d0 d1:D)(a:Hm):f (k+1) "quarters_in" [d0,d1] a=fin ((aO (eB (bV (aF (f k "places_within") (aB (aA 0) (aB (aA 1) aD)))) (cV (aF (f k "is_quarter") (aB (aA 2) aD))) (aA 2))) [b0 d0,b0 d1] a):=by kernel_rfl
theorem RS(k:Nat)(d0 d1:D)(a:Hm):f (k+1) "edges_in" [d0,d1] a=fin ((aO (eB (bV (aF (f k "places_within") (aB (aA 0) (aB (aA 1) aD)))) (cV (aF (f k "is_edge") (aB (aA 2) aD))) (aA 2))) [b0 d0,b0 d1] a):=by kernel_rfl
theorem RT(k:Nat)(d0 d1:D)(a:Hm):f (k+1) "corners_in" [d0,d1] a=fin ((aO (eB (bV (aF (f k "places_within") (aB (aA 0) (aB (aA 1) aD)))) (cV (aF (f k "is_corner") (aB (aA 2) aD))) (aA 2))) [b0 d0,b0 d1] a):=by kernel_rfl
theorem RU(k:Nat)(d0 d1 d2:D)(a:Hm):f (k+1) "is_inner_edge" [d0,d1,d2] a=fin ((aO (dZ (aF (f k "is_place") (aB (aA 2) aD)) (dZ (aF (f k "is_within") (aB (aA 0) (aB (aA 1) (aB (aA 2) aD)))) (aF (f k "is_edge") (aB (aA 2) aD))))) [b0 d0,b0 d1,b0 d2] a):=by kernel_rfl
theorem RV(k:Nat)(d0 d1 d2:D)(a:Hm):f (k+1) "sheet_of" [d0,d1,d2] a=fin ((aG (cK (aF (f k "check_size") (aB (aA 0) (aB (aA 1) aD)))) (aG (aL 3 jC) (aG (b8 (bV (aA 2)) (cE 4) (Ay k)) (aO (aX (aB (aA 0) (aB (aA 1) (aB (uC (aA 3)) aD)))))))) [b0 d0,b0 d1,b0 d2,b3,b3,b3] a):=by kernel_rfl
theorem FH(k:Nat)(d0:D)(a:Hm):f (k+1) "marks_in" [d0] a=fin ((aO (aF nK (aB (aC aE (aA 0) (mC (.int 2))) aD))) [b0 d0] a):=by kernel_rfl
theorem RW(k:Nat)(d0:D)(a:Hm):f (k+1) "is_good" [d0] a=fin ((aG (bB (gC (aQ (aC kN (aF bL (aB (aA 0) aD)) (mC (.int 8)))) (aQ (aC (aT b4) (aC aV (aF bL (aB (aA 0) aD)) (mC (.int 2))) (mC (.int 1))))) (aO (mC (.bl b4))) bF) (aG (bB (eX (cV (aF tK (aB (eB (bV (aA 0)) eI (dZ (aF (f k "is_whole") (aB (aA 1) aD)) (aC pV (aA 1) (mC (.int 1))))) aD)))) (aO (mC (.bl b4))) bF) (aO (aC (aT b4) (aF kU (aB (oP (aA 0) kM kM (jS (mC (.int 2)))) aD)) (aF kU (aB (oP (aA 0) (jS (mC (.int 1))) kM (jS (mC (.int 2)))) aD)))))) [b0 d0] a):=by kernel_rfl
theorem RX(k:Nat)(d0 d1:D)(a:Hm):f (k+1) "creases_at" [d0,d1] a=fin ((aG (aL 2 (aF (f k "marks_in") (aB (aA 0) aD))) (aO (eB (bV (aF (f k "edges_round") (aB (aA 1) aD))) (aQ (aC (cM b4) (aA 3) (aA 2))) (aA 3)))) [b0 d0,b0 d1,b3] a):=by kernel_rfl
theorem RY(k:Nat)(d0 d1:D)(a:Hm):f (k+1) "gaps_at" [d0,d1] a=fin ((aG (aL 2 (aF (f k "edges_round") (aB (aA 1) aD))) (aG (aL 3 (aF (f k "creases_at") (aB (aA 0) (aB (aA 1) aD)))) (aG (aL 4 (eB (bV (aA 3)) eI (cS oS (aA 2) (aB (aA 7) aD)))) (aG (aL 5 (aC bI (mW (aA 4) (jS (mC (.int 1))) kM) (eB (bV (mW (aA 4) kM (jS (mC (.int 1))))) eI (aC bI (aA 7) (aF bL (aB (aA 2) aD)))))) (aG (aL 6 (aC dB (mC (.int 8)) (aF bL (aB (aA 2) aD)))) (aO (eZ (i9 2) (qJ (aB (aA 4) (aB (aA 5) aD))) eI (aC cF (aC cQ (aA 8) (aA 7)) (aA 6))))))))) [b0 d0,b0 d1,b3,b3,b3,b3,b3] a):=by kernel_rfl
theorem RZ(k:Nat)(d0:D)(a:Hm):f (k+1) "barred" [d0] a=fin ((aG (b8 (bV (aF (f k "corners_in") (aB (aC aE (aA 0) (mC (.int 0))) (aB (aC aE (aA 0) (mC (.int 1))) aD)))) (cE 1) (bB (eX (cV (aF (f k "is_good") (aB (aF (f k "gaps_at") (aB (aA 0) (aB (aA 1) aD))) aD)))) (aO (aA 1)) bF)) (aO (mC .non))) [b0 d0,b3] a):=by kernel_rfl
theorem R0(k:Nat)(d0:D)(a:Hm):f (k+1) "check_corners" [d0] a=fin ((aG (aL 1 (aF (f k "barred") (aB (aA 0) aD))) (bB (aQ (aC (fA b5) (aA 1) (mC .non))) eC bF)) [b0 d0,b3] a):=by kernel_rfl
theorem R6(k:Nat)(d0 d1 d2 d3:D)(a:Hm):f (k+1) "tie_of" [d0,d1,d2,d3] a=fin ((aO (aX (aB (aF kW (aB (aA 0) (aB (aA 1) aD))) (aB (aF qR (aB (aA 0) (aB (aA 1) aD))) (aB (aA 2) (aB (aA 3) aD)))))) [b0 d0,b0 d1,b0 d2,b0 d3] a):=by kernel_rfl
theorem R8(k:Nat)(d0 d1:D)(a:Hm):f (k+1) "is_least" [d0,d1] a=fin ((aO (dZ (aC dQ (aC aE (aA 0) (aA 1)) (aC aE (aA 0) (aC cQ (aA 1) (mC (.int 1))))) (aC dQ (aC aE (aA 0) (aA 1)) (aC aE (aA 0) (aC aV (aC bI (aA 1) (mC (.int 1))) (aF bL (aB (aA 0) aD))))))) [b0 d0,b0 d1] a):=by kernel_rfl
theorem Sa(k:Nat)(d0 d1 d2:D)(a:Hm):f (k+1) "ties_of_gap" [d0,d1,d2] a=fin ((aG (aL 3 (aF bL (aB (aA 0) aD))) (aG (aL 4 (b6 (aB (aF (f k "tie_of") (aB (aC aE (aA 0) (aA 1)) (aB (aC aE (aA 0) (aC aV (aC bI (aA 1) (mC (.int 1))) (aA 3))) (aB (mC (.bl b4)) (aB (aA 2) aD))))) aD))) (aG (bB (aQ (aC (aT b4) (aA 3) (mC (.int 4)))) (cK (cS dU (aA 4) (aB (aF (f k "tie_of") (aB (aC aE (aA 0) (aC aV (aC bI (aA 1) (mC (.int 2))) (mC (.int 4)))) (aB (aC aE (aA 0) (aC aV (aC bI (aA 1) (mC (.int 3))) (mC (.int 4)))) (aB (mC (.bl b5)) (aB (aA 2) aD))))) aD))) bF) (aO (aA 4))))) [b0 d0,b0 d1,b0 d2,b3,b3] a):=by kernel_rfl
theorem Sb(k:Nat)(d0 d1:D)(a:Hm):f (k+1) "ties_at" [d0,d1] a=fin ((aG (aL 2 (aF (f k "creases_at") (aB (aA 0) (aB (aA 1) aD)))) (aG (aL 3 (aF (f k "gaps_at") (aB (aA 0) (aB (aA 1) aD)))) (aG (bB (aQ (aC (aT b4) (aF bL (aB (aA 2) aD)) (mC (.int 2)))) (aO (b6 (aB (aF (f k "tie_of") (aB (aC aE (aA 2) (mC (.int 0))) (aB (aC aE (aA 2) (mC (.int 1))) (aB (mC (.bl b5)) (aB (aA 1) aD))))) aD))) bF) (aG (aL 4 (b6 aD)) (aG (b8 (fZ (aB (aF bL (aB (aA 2) aD)) aD)) (cE 5) (bB (cV (aF (f k "is_least") (aB (aA 3) (aB (aA 5) aD)))) (cK (cS kS (aA 4) (aB (aF (f k "ties_of_gap") (aB (aA 2) (aB (aA 5) (aB (aA 1) aD)))) aD))) bF)) (aO (aA 4))))))) [b0 d0,b0 d1,b3,b3,b3,b3] a):=by kernel_rfl
theorem Se(k:Nat)(d0:D)(a:Hm):f (k+1) "ties" [d0] a=fin ((aG (cK (aF (f k "check_corners") (aB (aA 0) aD))) (aG (aL 1 (b6 aD)) (aG (b8 (bV (aF (f k "corners_in") (aB (aC aE (aA 0) (mC (.int 0))) (aB (aC aE (aA 0) (mC (.int 1))) aD)))) (cE 2) (cK (cS kS (aA 1) (aB (aF (f k "ties_at") (aB (aA 0) (aB (aA 2) aD))) aD)))) (aO (aF nO (aB (aA 1) aD)))))) [b0 d0,b3,b3] a):=by kernel_rfl
theorem Sf(k:Nat)(d0:D)(a:Hm):f (k+1) "walked_back" [d0] a=fin ((aO (aX (aB (aC aE (aA 0) (mC (.int 1))) (aB (aC aE (aA 0) (mC (.int 0))) (aB (aC aE (aA 0) (mC (.int 2))) (aB (aC aE (aA 0) (mC (.int 3))) aD)))))) [b0 d0] a):=by kernel_rfl
theorem Sg(k:Nat)(d0:D)(a:Hm):f (k+1) "steps_from" [d0] a=fin ((aG (aL 1 jC) (aG (b8 (bV (aF (f k "ties") (aB (aA 0) aD))) (cE 2) (aG (cK (cS dU (j5 f6 (aA 1) (aB (aC aE (aA 2) (mC (.int 0))) (aB (b6 aD) aD))) (aB (aA 2) aD))) (cK (cS dU (j5 f6 (aA 1) (aB (aC aE (aA 2) (mC (.int 1))) (aB (b6 aD) aD))) (aB (aF (f k "walked_back") (aB (aA 2) aD)) aD))))) (aO (aA 1)))) [b0 d0,b3,b3] a):=by kernel_rfl
theorem Sh(k:Nat)(d0:D)(a:Hm):f (k+1) "is_marked" [d0] a=fin ((aO (xR rM (aA 0))) [b0 d0] a):=by kernel_rfl
theorem Si(k:Nat)(d0:D)(a:Hm):f (k+1) "marked_creases" [d0] a=fin ((aO (eZ (i9 2) (bV (aC aE (aA 0) (mC (.int 2)))) (cV (aF (f k "is_marked") (aB (aA 2) aD))) (aA 1))) [b0 d0] a):=by kernel_rfl
theorem Sj(k:Nat)(d0 d1:D)(a:Hm):f (k+1) "last_steps" [d0,d1] a=fin ((aG (aL 2 jC) (aG (b8 (bV (aA 1)) (cE 3) (iP (aA 2) (aA 3) (mC .non))) (aG (aL 4 (aF j8 (aB (aA 1) aD))) (aG (lV mE (cV (aA 4)) AB) (aO (aA 2)))))) [b0 d0,b0 d1,b3,b3,b3,b3,b3] a):=by kernel_rfl
theorem Sk(k:Nat)(d0 d1:D)(a:Hm):f (k+1) "way_by" [d0,d1] a=fin ((aG (aL 2 (b6 aD)) (aG (aL 3 (aC aE (aA 0) (aA 1))) (aG (lV mE (aQ (aC (fA b5) (aA 3) (mC .non))) (aG (cK (cS dU (aA 2) (aB (aA 3) aD))) (aL 3 (aC aE (aA 0) (aC aE (aA 3) (mC (.int 0))))))) (aO (aF lX (aB (aA 2) aD)))))) [b0 d0,b0 d1,b3,b3] a):=by kernel_rfl
theorem Sm(k:Nat)(d0:D)(a:Hm):f (k+1) "is_alike" [d0] a=fin ((aO (aC (aT b4) (aC aV (aF bL (aB (eB (bV (aA 0)) (eX (cV (aC aE (aA 1) (mC (.int 2))))) (aA 1)) aD)) (mC (.int 2))) (mC (.int 0)))) [b0 d0] a):=by kernel_rfl
theorem FI(k:Nat)(d0 d1 d2:D)(a:Hm):f (k+1) "carried_mark" [d0,d1,d2] a=fin ((aG (bB (aQ (aC (cM b5) (aA 2) (aA 1))) (aO (mC (.str "o"))) bF) (aG (aL 3 (aF (f k "way_by") (aB (aA 1) (aB (aA 2) aD)))) (aG (aL 4 (gZ (cV (aA 3)) (aC aE (aC aE (aA 3) (mC (.int 0))) (mC (.int 0))) (aA 2))) (aO (gZ (cV (aF (f k "is_alike") (aB (aA 3) aD))) (aC aE (aA 0) (aA 4)) (qA rM (aC aE (aA 0) (aA 4)))))))) [b0 d0,b0 d1,b0 d2,b3,b3] a):=by kernel_rfl
theorem Sn(k:Nat)(d0:D)(a:Hm):f (k+1) "carried" [d0] a=fin ((aG (aL 1 (aF (f k "last_steps") (aB (aF (f k "steps_from") (aB (aA 0) aD)) (aB (aF (f k "marked_creases") (aB (aA 0) aD)) aD)))) (aG (aL 2 (aF (f k "marks_in") (aB (aA 0) aD))) (aO (oZ 2 (eB (lZ (aA 2)) eI (aX (aB (aA 3) (aB (aF (f k "carried_mark") (aB (aA 2) (aB (aA 1) (aB (aA 3) aD)))) aD)))) cD)))) [b0 d0,b3,b3] a):=by kernel_rfl
theorem So(k:Nat)(d0 d1:D)(a:Hm):f (k+1) "way_to" [d0,d1] a=fin ((aG (aL 2 (aF (f k "last_steps") (aB (aF (f k "steps_from") (aB (aA 0) aD)) (aB (aF (f k "marked_creases") (aB (aA 0) aD)) aD)))) (aG (bB (aQ (aC (cM b5) (aA 1) (aA 2))) (aO (mC .non)) bF) (aO (aF (f k "way_by") (aB (aA 2) (aB (aA 1) aD)))))) [b0 d0,b0 d1,b3] a):=by kernel_rfl
theorem Sq(k:Nat)(d0 d1 d2:D)(a:Hm):f (k+1) "laying_by" [d0,d1,d2] a=fin ((aO (aX (aB (aC cQ (aC aE (aA 1) (mC (.int 0))) (aC aE (aA 0) (mC (.int 0)))) (aB (aC cQ (aC aE (aA 2) (mC (.int 0))) (aC aE (aA 0) (mC (.int 0)))) (aB (aC cQ (aC aE (aA 1) (mC (.int 1))) (aC aE (aA 0) (mC (.int 1)))) (aB (aC cQ (aC aE (aA 2) (mC (.int 1))) (aC aE (aA 0) (mC (.int 1)))) (aB (aC aE (aA 0) (mC (.int 0))) (aB (aC aE (aA 0) (mC (.int 1))) aD)))))))) [b0 d0,b0 d1,b0 d2] a):=by kernel_rfl
theorem Ss(k:Nat)(d0:D)(a:Hm):f (k+1) "mirror_in" [d0] a=fin ((aO (aF (f k "laying_by") (aB (aF (f k "mirrored") (aB (aX (aB (mC (.int 0)) (aB (mC (.int 0)) aD))) (aB (aA 0) aD))) (aB (aF (f k "mirrored") (aB (aX (aB (mC (.int 1)) (aB (mC (.int 0)) aD))) (aB (aA 0) aD))) (aB (aF (f k "mirrored") (aB (aX (aB (mC (.int 0)) (aB (mC (.int 1)) aD))) (aB (aA 0) aD))) aD))))) [b0 d0] a):=by kernel_rfl
theorem Su(k:Nat)(d0 d1:D)(a:Hm):f (k+1) "led" [d0,d1] a=fin ((aG (aL 2 (aC aE (aA 1) (mC (.int 0)))) (aG (aL 3 (aC aE (aA 1) (mC (.int 1)))) (aO (aX (aB (aC bI (aC bI (aC cF (aC aE (aA 0) (mC (.int 0))) (aA 2)) (aC cF (aC aE (aA 0) (mC (.int 1))) (aA 3))) (aC aE (aA 0) (mC (.int 4)))) (aB (aC bI (aC bI (aC cF (aC aE (aA 0) (mC (.int 2))) (aA 2)) (aC cF (aC aE (aA 0) (mC (.int 3))) (aA 3))) (aC aE (aA 0) (mC (.int 5)))) aD)))))) [b0 d0,b0 d1,b3,b3] a):=by kernel_rfl
theorem Sv(k:Nat)(d0 d1:D)(a:Hm):f (k+1) "then" [d0,d1] a=fin ((aO (aF (f k "laying_by") (aB (aF (f k "led") (aB (aA 1) (aB (aF (f k "led") (aB (aA 0) (aB (aX (aB (mC (.int 0)) (aB (mC (.int 0)) aD))) aD))) aD))) (aB (aF (f k "led") (aB (aA 1) (aB (aF (f k "led") (aB (aA 0) (aB (aX (aB (mC (.int 1)) (aB (mC (.int 0)) aD))) aD))) aD))) (aB (aF (f k "led") (aB (aA 1) (aB (aF (f k "led") (aB (aA 0) (aB (aX (aB (mC (.int 0)) (aB (mC (.int 1)) aD))) aD))) aD))) aD))))) [b0 d0,b0 d1] a):=by kernel_rfl
theorem Sw(k:Nat)(d0 d1:D)(a:Hm):f (k+1) "_law_nth" [d0,d1] a=fin ((aO (gZ (aQ (aC dQ (aA 1) (aF bL (aB (aA 0) aD)))) (aC aE (aA 0) (aA 1)) (mC (.int 0)))) [b0 d0,b0 d1] a):=by kernel_rfl
theorem Sx(k:Nat)(d0 d1 d2:D)(a:Hm):f (k+1) "_law_folded" [d0,d1,d2] a=fin ((aG (aL 3 jC) (aG (b8 (qP (aA 0)) (d9 [4,5]) (Av k)) (aO (aA 3)))) [b0 d0,b0 d1,b0 d2,b3,b3,b3] a):=by kernel_rfl
theorem Sy(k:Nat)(d0 d1 d2:D)(a:Hm):f (k+1) "_law_folds" [d0,d1,d2] a=fin ((aG (aL 3 jC) (aG (b8 (bV (aF (f k "quarters_in") (aB (aC aE (aA 2) (mC (.int 0))) (aB (aC aE (aA 2) (mC (.int 1))) aD)))) (cE 4) (iP (aA 3) (aA 4) (mC Fs))) (aG (aL 5 (aF (f k "edges_in") (aB (aC aE (aA 2) (mC (.int 0))) (aB (aC aE (aA 2) (mC (.int 1))) aD)))) (aG (b8 (fZ (aB (aC aV (aC dB (aF (f k "_law_nth") (aB (aA 0) (aB (aA 1) aD))) (mC (.int 54))) (mC (.int 6))) aD)) (cE 6) (Aw k)) (aO (eB (bV (aA 5)) (aQ (aC (aT b5) (aC aE (aA 3) (aC aE (aF (f k "sides_of") (aB (aA 9) aD)) (mC (.int 0)))) (aC aE (aA 3) (aC aE (aF (f k "sides_of") (aB (aA 9) aD)) (mC (.int 1)))))) (aA 9))))))) [b0 d0,b0 d1,b0 d2,b3,b3,b3,b3,b3,b3] a):=by kernel_rfl
theorem Sz(k:Nat)(d0 d1:D)(a:Hm):f (k+1) "_law_gaps" [d0,d1] a=fin ((aG (bB (aQ (aC (aT b4) (aC aV (aC aE (aA 1) (mC (.int 0))) (mC (.int 4))) (mC (.int 2)))) (aO (aC aE (b6 (aB (b6 (aB (mC (.int 2)) (aB (mC (.int 2)) (aB (mC (.int 2)) (aB (mC (.int 2)) aD))))) (aB (b6 (aB (mC (.int 4)) (aB (mC (.int 4)) aD))) aD))) (aC aV (aA 0) (mC (.int 2))))) bF) (aG (aL 2 (aC aV (aC dB (aA 0) (mC (.int 6))) (mC (.int 3)))) (aG (aL 3 (aC aV (aC dB (aA 0) (mC (.int 18))) (mC (.int 3)))) (aG (bB (aQ (aC (aT b4) (aC aV (aA 0) (mC (.int 6))) (mC (.int 0)))) (aO (b6 (aB (mC (.int 4)) (aB (mC (.int 4)) aD)))) bF) (aG (bB (aQ (aC (aT b4) (aC aV (aA 0) (mC (.int 6))) (mC (.int 1)))) (aG (aL 4 (b6 (aB (mC (.int 2)) (aB (mC (.int 1)) (aB (mC (.int 1)) (aB (mC (.int 2)) (aB (mC (.int 1)) aD))))))) (aG (aL 5 (b6 aD)) (aG (b8 (fZ (aB (mC (.int 3)) aD)) (cE 6) Ax) (aO (aA 5))))) bF) (aO (b6 (aB (aC bI (aA 2) (mC (.int 1))) (aB (aC bI (aA 3) (mC (.int 1))) (aB (aC cQ (mC (.int 3)) (aA 2)) (aB (aC cQ (mC (.int 3)) (aA 3)) aD))))))))))) [b0 d0,b0 d1,b3,b3,b3,b3,b3] a):=by kernel_rfl
theorem SA(k:Nat)(d0 d1:D)(a:Hm):f (k+1) "_law_star" [d0,d1] a=fin ((aG (aL 2 (b6 (aB (aX (aB (mC (.int 2)) (aB (mC (.int 0)) aD))) (aB (aX (aB (mC (.int 1)) (aB (mC (.int 1)) aD))) (aB (aX (aB (mC (.int 0)) (aB (mC (.int 2)) aD))) (aB (aX (aB (eY (mC (.int 1))) (aB (mC (.int 1)) aD))) (aB (aX (aB (eY (mC (.int 2))) (aB (mC (.int 0)) aD))) (aB (aX (aB (eY (mC (.int 1))) (aB (eY (mC (.int 1))) aD))) (aB (aX (aB (mC (.int 0)) (aB (eY (mC (.int 2))) aD))) (aB (aX (aB (mC (.int 1)) (aB (eY (mC (.int 1))) aD))) aD)))))))))) (aG (aL 3 (aF (f k "corners_in") (aB (aC aE (aA 0) (mC (.int 0))) (aB (aC aE (aA 0) (mC (.int 1))) aD)))) (aG (aL 4 (aC aE (aA 3) (aC aV (aA 1) (aF bL (aB (aA 3) aD))))) (aG (aL 5 (b6 aD)) (aG (aL 6 (aC aV (aC dB (aA 1) (mC (.int 32))) (mC (.int 8)))) (aG (bB (aQ (aC (aT b4) (aC aV (aC aE (aA 4) (mC (.int 0))) (mC (.int 4))) (mC (.int 2)))) (aL 6 (aC bI (aC cF (aC aV (aC dB (aA 1) (mC (.int 32))) (mC (.int 4))) (mC (.int 2))) (mC (.int 1)))) bF) (aG (b8 (bV (aF (f k "_law_gaps") (aB (aC dB (aA 1) (mC (.int 256))) (aB (aA 4) aD)))) (cE 7) uW) (aO (aA 5))))))))) [b0 d0,b0 d1,b3,b3,b3,b3,b3,b3,b3,b3,b3,b3] a):=by kernel_rfl
theorem SE(k:Nat)(d0 d1 d2:D)(a:Hm):f (k+1) "_law_creases" [d0,d1,d2] a=fin ((aG (aL 3 (aC aV (aC dB (aF (f k "_law_nth") (aB (aA 0) (aB (aA 1) aD))) (mC (.int 9))) (mC (.int 6)))) (aG (bB (aQ (aC dQ (aA 3) (mC (.int 3)))) (aO (aF (f k "_law_folds") (aB (aA 0) (aB (aA 1) (aB (aA 2) aD))))) bF) (aG (aL 4 (b6 aD)) (aG (b8 (fZ (aB (aC aE (b6 (aB (mC (.int 1)) (aB (mC (.int 1)) (aB (mC (.int 2)) aD)))) (aC cQ (aA 3) (mC (.int 3)))) aD)) (cE 5) (Fx k)) (aO (aA 4)))))) [b0 d0,b0 d1,b0 d2,b3,b3,b3,b3] a):=by kernel_rfl
theorem SF(k:Nat)(a:Hm):f (k+1) "_law_square" [] a=fin ((aG (aL 0 (b6 (aB (aX (aB (mC (.int 6)) (aB (mC (.int 4)) aD))) (aB (aX (aB (mC (.int 8)) (aB (mC (.int 6)) aD))) (aB (aX (aB (mC (.int 6)) (aB (mC (.int 8)) aD))) (aB (aX (aB (mC (.int 4)) (aB (mC (.int 6)) aD))) (aB (aX (aB (mC (.int 3)) (aB (mC (.int 3)) aD))) (aB (aX (aB (mC (.int 1)) (aB (mC (.int 1)) aD))) (aB (aX (aB (mC (.int 3)) (aB (mC (.int 5)) aD))) (aB (aX (aB (mC (.int 1)) (aB (mC (.int 7)) aD))) (aB (aX (aB (mC (.int 7)) (aB (mC (.int 3)) aD))) (aB (aX (aB (mC (.int 5)) (aB (mC (.int 1)) aD))) (aB (aX (aB (mC (.int 9)) (aB (mC (.int 3)) aD))) (aB (aX (aB (mC (.int 11)) (aB (mC (.int 1)) aD))) aD)))))))))))))) (aO (aC bI (aA 0) (b6 (aB (aX (aB (mC (.int 9)) (aB (mC (.int 7)) aD))) (aB (aX (aB (mC (.int 11)) (aB (mC (.int 5)) aD))) (aB (aX (aB (mC (.int 9)) (aB (mC (.int 9)) aD))) (aB (aX (aB (mC (.int 11)) (aB (mC (.int 11)) aD))) (aB (aX (aB (mC (.int 5)) (aB (mC (.int 9)) aD))) (aB (aX (aB (mC (.int 7)) (aB (mC (.int 11)) aD))) (aB (aX (aB (mC (.int 3)) (aB (mC (.int 9)) aD))) (aB (aX (aB (mC (.int 1)) (aB (mC (.int 11)) aD))) aD)))))))))))) [b3] a):=by kernel_rfl
theorem SG(k:Nat)(d0 d1:D)(a:Hm):f (k+1) "_law_sheet" [d0,d1] a=fin ((aG (aL 2 (aF (f k "_law_nth") (aB (aA 0) (aB (aA 1) aD)))) (aG (aL 3 (aX (aB (aC bI (mC (.int 1)) (aC aV (aA 2) (mC (.int 3)))) (aB (aC bI (mC (.int 1)) (aC aV (aC dB (aA 2) (mC (.int 3))) (mC (.int 3)))) aD)))) (aG (bB (fP (aQ (gH dQ dQ (mC (.int 2)) (aC aV (aC dB (aA 2) (mC (.int 9))) (mC (.int 6))) (mC (.int 5)))) (aQ (aC (aT b4) (aC aV (aC dB (aA 2) (mC (.int 5184))) (mC (.int 4))) (mC (.int 1))))) (aL 3 (aX (aB (aC bI (aC aE (aA 3) (mC (.int 0))) (mC (.int 3))) (aB (aC bI (aC aE (aA 3) (mC (.int 1))) (mC (.int 3))) aD)))) bF) (aG (aL 4 (aF (f k "_law_creases") (aB (aA 0) (aB (aA 1) (aB (aA 3) aD))))) (aG (bB (fP (aQ (aC (aT b4) (aC aV (aC dB (aA 2) (mC (.int 9))) (mC (.int 6))) (mC (.int 5)))) (aQ (aC (aT b4) (aC aV (aC dB (aA 2) (mC (.int 5184))) (mC (.int 4))) (mC (.int 1))))) (aG (aL 3 (aX (aB (mC (.int 3)) (aB (mC (.int 3)) aD)))) (aL 4 (aF (f k "_law_square") aD))) bF) (Az k)))))) [b0 d0,b0 d1,b3,b3,b3,b3,b3,b3,b3,b3] a):=by kernel_rfl
theorem SJ(k:Nat)(d0 d1:D)(a:Hm):f (k+1) "_law_round_a" [d0,d1] a=fin ((aG (aL 2 (b6 (aB (aX (aB (mC (.int 2)) (aB (mC (.int 0)) aD))) (aB (aX (aB (mC (.int 1)) (aB (mC (.int 1)) aD))) (aB (aX (aB (mC (.int 0)) (aB (mC (.int 2)) aD))) (aB (aX (aB (eY (mC (.int 1))) (aB (mC (.int 1)) aD))) (aB (aX (aB (eY (mC (.int 2))) (aB (mC (.int 0)) aD))) (aB (aX (aB (eY (mC (.int 1))) (aB (eY (mC (.int 1))) aD))) (aB (aX (aB (mC (.int 0)) (aB (eY (mC (.int 2))) aD))) (aB (aX (aB (mC (.int 1)) (aB (eY (mC (.int 1))) aD))) aD)))))))))) (aG (bB (aQ (aC (aT b4) (aC aV (aC aE (aA 1) (mC (.int 0))) (mC (.int 4))) (mC (.int 2)))) (aL 2 (eB (oT (aB (mC (.int 1)) (aB (mC (.int 8)) (aB (mC (.int 2)) aD)))) eI (aC aE (aA 2) (aA 8)))) bF) (aG (aL 4 (eZ (i9 2) (bV (aA 2)) eI (aX (aB (aC bI (aC aE (aA 1) (mC (.int 0))) (aA 8)) (aB (aC bI (aC aE (aA 1) (mC (.int 1))) (aA 9)) aD))))) (aG (aL 5 (eB (fZ (aB (aF bL (aB (aA 4) aD)) aD)) (aQ (aC (cM b4) (aC aE (aA 4) (aA 8)) (aA 0))) (aA 8))) (aG (aL 6 (b6 aD)) (aG (b8 (fZ (aB (aF bL (aB (aA 5) aD)) aD)) (cE 3) Ap) (aO (aX (aB (eB (bV (aA 5)) eI (aC aE (aA 4) (aA 8))) (aB (aA 6) aD)))))))))) [b0 d0,b0 d1,b3,b3,b3,b3,b3,b3] a):=by kernel_rfl
theorem SK(k:Nat)(d0:D)(a:Hm):f (k+1) "_law_inner" [d0] a=fin ((aG (aL 1 (b6 aD)) (aG (b8 (lT (aB (mC (.int 1)) (aB (aC cF (mC (.int 4)) (aC aE (aA 0) (mC (.int 0)))) aD))) (cE 2) (b8 (lT (aB (mC (.int 1)) (aB (aC cF (mC (.int 4)) (aC aE (aA 0) (mC (.int 1)))) aD))) (cE 3) Ao)) (aO (aA 1)))) [b0 d0,b3,b3,b3] a):=by kernel_rfl
theorem SM(k:Nat)(d0:D)(a:Hm):f (k+1) "_law_barred" [d0] a=fin ((aG (aL 1 (eZ (i9 2) (bV (aC aE (aA 0) (mC (.int 2)))) eI (aA 4))) (aG (b8 (bV (aF (f k "_law_inner") (aB (aA 0) aD))) (cE 2) (Au k)) (aO (mC .non)))) [b0 d0,b3,b3,b3] a):=by kernel_rfl
theorem SN(k:Nat)(d0 d1 d2 d3 a:D)(b:Hm):f (k+1) "_law_tie" [d0,d1,d2,d3,a] b=fin ((aG (aL 5 (aC aE (aA 0) (aC aV (aA 1) (aF bL (aB (aA 0) aD))))) (aG (aL 6 (aC aE (aA 0) (aC aV (aA 2) (aF bL (aB (aA 0) aD))))) (aO (aX (aB (aF kW (aB (aA 5) (aB (aA 6) aD))) (aB (aF qR (aB (aA 5) (aB (aA 6) aD))) (aB (aA 3) (aB (aA 4) aD)))))))) [b0 d0,b0 d1,b0 d2,b0 d3,b0 a,b3,b3] b):=by kernel_rfl
theorem SO(k:Nat)(d0:D)(a:Hm):f (k+1) "_law_ties" [d0] a=fin ((aG (aL 1 (eZ (i9 2) (bV (aC aE (aA 0) (mC (.int 2)))) eI (aA 8))) (aG (aL 2 (b6 aD)) (aG (b8 (bV (aF (f k "_law_inner") (aB (aA 0) aD))) (cE 3) (Ar k)) (aO (aF nO (aB (aA 2) aD)))))) [b0 d0,b3,b3,b3,b3,b3,b3,b3] a):=by kernel_rfl
theorem SQ(k:Nat)(d0 d1:D)(a:Hm):f (k+1) "_law_groups" [d0,d1] a=fin ((aG (aL 2 jC) (aG (b8 (bV (aC aE (aA 0) (mC (.int 2)))) (d9 [3,4]) (iP (aA 2) (aA 3) (aX (aB (aA 3) (aB (mC (.int 0)) aD))))) (aG (b8 (bV (aA 1)) (d9 [3,5,6,7]) AE) (aO (aA 2))))) [b0 d0,b0 d1,b3,b3,b3,b3,b3,b3,b3,b3,b3,b3,b3,b3] a):=by kernel_rfl
theorem SR(k:Nat)(d0 d1:D)(a:Hm):f (k+1) "_law_told" [d0,d1] a=fin ((aG (aL 2 jC) (aG (b8 (bV (aC aE (aA 0) (mC (.int 2)))) (d9 [3,4]) AF) (aO (aA 2)))) [b0 d0,b0 d1,b3,b3,b3,b3,b3,b3] a):=by kernel_rfl
theorem SS(k:Nat)(d0 d1:D)(a:Hm):f (k+1) "_law_steps" [d0,d1] a=fin ((aG (bB (eX (cV (aF fG (aB (aA 0) (aB (mC (.ty "list")) aD))))) (aO (mC (.bl b4))) bF) (aG (b8 (nE (aB (aA 0) aD)) (d9 [2,3]) FC) (aO (mC (.bl b5))))) [b0 d0,b0 d1,b3,b3] a):=by kernel_rfl
theorem SU(k:Nat)(d0:D)(a:Hm):f (k+1) "_law_odd" [d0] a=fin ((aO (aC (aT b4) (aC aV (aF bL (aB (eB (bV (aA 0)) (eX (cV (aC aE (aA 1) (mC (.int 2))))) (aA 1)) aD)) (mC (.int 2))) (mC (.int 1)))) [b0 d0] a):=by kernel_rfl
theorem SV(k:Nat)(d0 d1 d2:D)(a:Hm):f (k+1) "_law_due" [d0,d1,d2] a=fin ((aG (aL 3 (b6 aD)) (aG (b8 (bV (aC aE (aA 0) (mC (.int 2)))) (d9 [4,5]) AG) (aO (aA 3)))) [b0 d0,b0 d1,b0 d2,b3,b3,b3,b3,b3] a):=by kernel_rfl
theorem SW(k:Nat)(d0 d1 d2 d3 a:D)(b:Hm):f (k+1) "_law_way" [d0,d1,d2,d3,a] b=fin ((aG (aL 5 (aF (f k "way_to") (aB (aA 0) (aB (aA 3) aD)))) (aG (bB (aQ (aC (aT b4) (aA 4) (mC (.str "o")))) (aO (aC (fA b4) (aA 5) (mC .non))) bF) (aG (bB (aQ (aC (aT b5) (aC aE (aA 2) (aA 3)) (mC (.str "o")))) (aO (dZ (aF fG (aB (aA 5) (aB (mC (.ty "list")) aD))) (aC (aT b4) (aA 5) (b6 aD)))) bF) (aG (bB (gC (eX (cV (aF (f k "_law_steps") (aB (aA 5) (aB (aA 1) aD))))) (gC (aQ (aC (aT b4) (aA 5) (b6 aD))) (aQ (aC (aT b5) (aC aE (aC aE (aA 5) (eY (mC (.int 1)))) (mC (.int 1))) (aA 3))))) (aO (mC (.bl b4))) bF) (aG (aL 6 (aC aE (aA 2) (aC aE (aC aE (aA 5) (mC (.int 0))) (mC (.int 0))))) (aO (dZ (aC (aT b5) (aA 6) (mC (.str "o"))) (aC (aT b4) (aC (aT b5) (aA 6) (aA 4)) (aF (f k "_law_odd") (aB (aA 5) aD)))))))))) [b0 d0,b0 d1,b0 d2,b0 d3,b0 a,b3,b3] b):=by kernel_rfl
theorem SX(k:Nat)(d0:D)(a:Hm):f (k+1) "law" [d0] a=fin ((aG (aL 1 (aF (f k "_law_sheet") (aB (aA 0) (aB (mC (.int 0)) aD)))) (aG (bB (aQ (aC (fA b5) (aF (f k "_law_barred") (aB (aA 1) aD)) (mC .non))) (aO (mC (.bl b5))) bF) (aG (aL 2 (aF (f k "_law_ties") (aB (aA 1) aD))) (aG (aL 3 (aF (f k "_law_groups") (aB (aA 1) (aB (aA 2) aD)))) (aG (bB (gC (aQ (aC (fA b4) (aA 3) (mC .non))) (aQ (aC (fA b4) (aF (f k "_law_told") (aB (aA 1) (aB (aA 3) aD))) (mC .non)))) (aO (mC (.bl b5))) bF) (aG (aL 4 (aF (f k "_law_due") (aB (aA 1) (aB (aA 3) (aB (aF (f k "_law_told") (aB (aA 1) (aB (aA 3) aD))) aD))))) (FF k))))))) [b0 d0,b3,b3,b3,b3,b3,b3,b3,b3,b3] a):=by kernel_rfl
theorem w_mul2{z:Int}{a:Hm}{Q:jz}:W (cF (.int 2) (.int z) a) Q↔Q (.int (2*z),a):=kZ (.inl ⟨by decide,by decide⟩)
theorem w_mul4{z:Int}{a:Hm}{Q:jz}:W (cF (.int 4) (.int z) a) Q↔Q (.int (4*z),a):=kZ (.inl ⟨by decide,by decide⟩)
theorem w_mod2{z:Int}{a:Hm}{Q:jz}:W (aV (.int z) (.int 2) a) Q↔Q (.int (z%2),a):=cZ (by decide)
theorem FJ{z:Int}{a:Hm}{Q:jz}:W (aV (.int z) (.int 4) a) Q↔Q (.int (z%4),a):=cZ (by decide)
theorem SY:(2:Nat)<=Wq:=by decide
theorem jH{a b:D}:([a,b]:List D).length<=Wq:=SY
theorem S0:(1:Nat)<=Wq:=by decide
theorem FK{a:D}:([a]:List D).length<=Wq:=S0
noncomputable def n6:D->Int
 |.int i=>i|_=>0
theorem S2{lo:Int}{n:Nat}{d:D}(h:d∈hZ lo n):∃j:Nat,j<n/\d=.int (lo+(j:Int)):=by unfold hZ at h;obtain⟨j,a,rfl⟩:=Wz.mp h;exact⟨j,Xn.mp a,rfl⟩
theorem uX{a C:MS}{d b:aH}{c μ':Hm}{Q:jz}(h:a d c=b0 (.nx,b,μ'))(k:W (fin (C b μ')) Q):W (fin (aG a C d c)) Q:=by unfold aG;rw[h];exact k
theorem FL{i:Nat}{m:ME}{a:aH}{b μ':Hm}{d:D}(h:m a b=b0 (d,μ')):aL i m a b=b0 (.nx,a.set i (b0 d),μ'):=by unfold aL;rw[h];rfl
theorem FN{a:Type}{o:Option a}{r:a}{Q:a->Prop}(h:W o λx=>x=r):W o Q↔Q r:=by obtain⟨_,h,rfl⟩:=h;rw[h];exact W_some
theorem FP{a:Type}{o:Option a}{r:a}(h:∀Q:a->Prop,W o Q↔Q r):o=b0 r:=by obtain⟨_,e,b⟩:=(h λx=>x=r).mpr rfl;rw[e,b]
section
variable{α:Type}{i:Nat}{m:ME}{ms:MA}{g:MF}{t:MT}{A B C:MS}{ρ:aH}{μ μ':Hm}{ds:List D}{Q:jz}{R:Fl×aH×Hm->Prop}
theorem bA{o:Option α}{r:α}{Q:α->Prop}(h:o=b0 r)(q:Q r):W o Q:=⟨r,h,q⟩
theorem bU{o:jk}{a:Option (Fl×aH×Hm)}(e:o=fin a)(h:W a λp=>match p.1 with|.rt d=>Q (d,p.2.2)|.nx=>Q (.non,p.2.2)|_=>False):W o Q:=e▸W_fin.mpr h
theorem aY(h:W (m ρ μ) λp=>W (C (ρ.set i (b0 p.1)) p.2) R):W (aG (aL i m) C ρ μ) R:=w_mSeq.mpr (w_mSet.mpr h)
theorem dC(h:W (A ρ μ) λp=>p.1=.nx/\W (C p.2.1 p.2.2) R):W (aG A C ρ μ) R:=w_mSeq.mpr (bO h λp q=>by rw[q.1];exact q.2)
theorem k6(h:W (m ρ μ) λp=>W (C ρ p.2) R):W (aG (cK m) C ρ μ) R:=w_mSeq.mpr (w_mDrop.mpr h)
theorem bW(h:W (m ρ μ) λp=>R (.rt p.1,ρ,p.2)):W (aO m ρ μ) R:=w_mRet.mpr h
theorem aP(h:ms ρ μ=b0 (ds,μ'))(k:W (g ds μ') Q):W (aF g ms ρ μ) Q:=w_mCall.mpr ⟨_,h,k⟩
theorem eQ(h:W (ms ρ μ) λp=>W (g p.1 p.2) Q):W (aF g ms ρ μ) Q:=w_mCall.mpr h
theorem aW{Q:List D×Hm->Prop}(h:W (m ρ μ) λp=>W (ms ρ p.2) λq=>Q (p.1::q.1,q.2)):W (aB m ms ρ μ) Q:=w_mCons.mpr h
theorem S3(h:W (m ρ μ) λp=>W (g [p.1] p.2) Q):W (aF g (aB m aD) ρ μ) Q:=w_mCall.mpr (w_mCons.mpr (bO h λ_ q=>⟨_,rfl,q⟩))
theorem f7{b:Bool}(h:t ρ μ=b0 (b,μ'))(h1:b=b5->W (aG A C ρ μ') R)(a:b=b4->W (aG B C ρ μ') R):W (aG (bB t A B) C ρ μ) R:=by
 refine w_mSeq.mpr (w_mIfS.mpr ⟨_,h,?_⟩);cases b
 .exact w_mSeq.mp (a rfl)
 .exact w_mSeq.mp (h1 rfl)
theorem nQ(h:W (t ρ μ) λp=>p.1=b5/\W (aG A C ρ p.2) R):W (aG (bB t A B) C ρ μ) R:=w_mSeq.mpr (w_mIfS.mpr (bO h λp q=>by rw[if_pos q.1];exact w_mSeq.mp q.2))
theorem gN(h:W (t ρ μ) λp=>p.1=b4/\W (aG B C ρ p.2) R):W (aG (bB t A B) C ρ μ) R:=w_mSeq.mpr (w_mIfS.mpr (bO h λp q=>by rw[if_neg (by rw[q.1];exact Wj)];exact w_mSeq.mp q.2))
theorem rN(h:W (aG A (aG B C) ρ μ) R):W (aG (aG A B) C ρ μ) R:=w_mSeq.mpr (w_mSeq.mpr (bO (w_mSeq.mp h) λp q=>by
 obtain⟨x,y⟩:=p;cases x with
 |nx=>exact w_mSeq.mp q
 |_=>exact q))
theorem iT{T:Bool×Hm->Prop}(h:W (t ρ μ) λp=>T (!p.1,p.2)):W (eX t ρ μ) T:=w_mNotT.mpr h
theorem eS{T:Bool×Hm->Prop}{b:Bool}(h:W (m ρ μ) λp=>p.1=.bl b/\T (b,p.2)):W (cV m ρ μ) T:=w_mTru.mpr (bO h λp ⟨e,q⟩=>by rw[e];exact w_truB.mpr q)
theorem gO(h:W (m ρ μ) λp=>R (.rt p.1,ρ,p.2)):W (aG (aO m) C ρ μ) R:=w_mSeq.mpr (w_mRet.mpr h)
theorem cX(h:W (C ρ μ) R):W (aG bF C ρ μ) R:=w_mSeq.mpr (w_mNext.mpr h)
theorem bX{T:Bool×Hm->Prop}(h:W (m ρ μ) λp=>∃b,p.1=.bl b/\T (b,p.2)):W (aQ m ρ μ) T:=w_mTest.mpr (bO h λp ⟨b,e,q⟩=>by rw[e];exact q)
theorem o8{s t:MT}{T:Bool×Hm->Prop}(h:W (s ρ μ) λp=>p.1=b4/\W (t ρ p.2) T):W (gC s t ρ μ) T:=w_mOrT.mpr (bO h λp q=>by rw[if_neg (by rw[q.1];exact Wj)];exact q.2)
theorem aZ{h:D->D->Hm->jk}{a b:ME}{μ1 μ2:Hm}{x y:D}(h1:a ρ μ=b0 (x,μ1))(c:b ρ μ1=b0 (y,μ2))(k:W (h x y μ2) Q):W (aC h a b ρ μ) Q:=w_mOp.mpr ⟨_,h1,_,c,k⟩
theorem aN{h:D->D->Hm->jk}{a b:ME}(k:W (a ρ μ) λp=>W (b ρ p.2) λq=>W (h p.1 q.1 q.2) Q):W (aC h a b ρ μ) Q:=w_mOp.mpr k
end
noncomputable def rO(x y:Int):Str:=if x%2=1 then(if x%4=y%4 then "falling" else "rising")else if y%4=0 then "level" else "upright"
theorem FQ(k:Nat)(x y:Int)(a:Hm)(Q:jz):W (f (k+1) "line_of" [P x y] a) Q↔Q (.str (rO x y),a):=by rw[RF,W_fin];simp only[w_mSeq,w_mRet,w_mNext,w_mIfS,w_mIfE,w_mOp,dW,cA,w_mTest,o7,w_it21,w_eqI,cZ (show(0:Int)<2 by decide),cZ (show(0:Int)<4 by decide)];unfold rO;split<;>split<;>simp_all
noncomputable def jI(x y:Int)(a b:Int):Int:=if x%2=1 then(if x%4=y%4 then a-b else a+b)else if y%4=0 then b else a
theorem FR(k:Nat)(x y a b:Int)(c:Hm)(Q:jz):W (f (k+1) "number_by" [.str (rO x y),P a b] c) Q↔Q (.int (jI x y a b),c):=by refine FN ?_;rw[RK];unfold rO jI;split<;>split<;>exact⟨_,rfl,rfl⟩
noncomputable def iA(p e:Int×Int):Int×Int:=
 if e.1%2=1 then(if e.1%4=e.2%4 then(p.2+(e.1-e.2),p.1-(e.1-e.2))else(e.1+e.2-p.2,e.1+e.2-p.1))else if e.2%4=0 then(p.1,2*e.2-p.2)else(2*e.1-p.1,p.2)
theorem S4(k:Nat)(x y a b:Int)(c:Hm)(Q:jz):W (f (k+2) "mirrored" [P x y,P a b] c) Q↔Q (PP (iA (x,y) (a,b)),c):=by refine FN ?_;rw[RM];refine uX rfl (uX rfl (uX (FL (FP (FQ k a b c))) (uX (FL (FP (FR k a b a b c))) ?_)));unfold rO jI iA;split<;>split<;>exact⟨_,rfl,rfl⟩
noncomputable def dY:D->Int×Int
 |.tup [.int x,.int y]=>(x,y)|_=>(0,0)
theorem o9(p:Int×Int->Bool)(l:jq):((l.map PP).filter λd=>p (dY d)).map (λd=>d)=(l.filter p).map PP:=by
 rw[a5m];induction l with
 |nil=>rfl|cons a l b=>
  have e:(a4G PP (a::l)).filter (λd=>p (dY d))=if p a then PP a::(l.map PP).filter (λd=>p (dY d))else(l.map PP).filter λd=>p (dY d):=by rw[WA,YS];rfl
  rw[e,b,YS];split<;>rfl
theorem mK{d:D}{l:jq}(h:d∈l.map PP):∃x y,d=P x y:=by obtain⟨p,_,rfl⟩:=Wz.mp h;exact⟨p.1,p.2,rfl⟩
theorem FT{n:Nat}{i:Int}(a:0<=i)(h:i<n):jP n i=b0 i.toNat:=by unfold jP;rw[if_pos a,if_pos h]
theorem S5{gs:List Int}{i:Int}(a:0<=i)(h:i<gs.length):atI (gs.map D.int) i=b0 (.int (gs.getD i.toNat 0)):=by
 unfold atI;rw[V7,FT a h,WH,Ws];have b:i.toNat<gs.length:=by lia
 simp[Xx,b]
theorem S6{xs:List D}{i:Int}{d:D}{a:Hm}{Q:jz}(h:atI xs i=b0 d):W (aE (.rol xs) (.int i) a) Q↔Q (d,a):=by
 have:aE (.rol xs) (.int i) a=b0 (d,a):=by simp only[aE,hG,bM,WH,h,WN]
 rw[this];exact W_some
noncomputable def nR:List Int->Int
 |[]=>0|g::r=>g-nR r
noncomputable def fB(gs:List Int):Bool:=decide (gs.length<=8)&&decide (gs.length%2=0)&&gs.all (λg=>decide (1<=g))&&nR gs==0
theorem S7(k:Nat)(i:Int)(a:Hm)(Q:jz):W (f (k+1) "is_whole" [.int i] a) Q↔Q (.bl b5,a):=by rw[FG,W_fin];simp only[w_mRet,w_mAndV,w_mNotV,w_mCall,w_mCons,dM,cA,dW,Rm,Rn];simp
theorem S8:∀gs:List Int,gs.length<=8->gs.length%2=0->∃es i:List Int,eV (gs.map D.int) b3 b3 (b0 2)=es.map D.int/\eV (gs.map D.int) (b0 1) b3 (b0 2)=i.map D.int/\es.sum-i.sum=nR gs/\es.length<=8/\i.length<=8
 |[],_,_=>⟨[],[],rfl,rfl,rfl,by decide,by decide⟩|[_],_,h=>by simp at h
 |[a,b],_,_=>⟨[a],[b],by kernel_rfl,by kernel_rfl,by simp[nR]<;>lia,by simp,by simp⟩|[_,_,_],_,h=>by simp at h
 |[a,b,c,d],_,_=>⟨[a,c],[b,d],by kernel_rfl,by kernel_rfl,by simp[nR]<;>lia,by simp,by simp⟩|[_,_,_,_,_],_,h=>by simp at h
 |[a,b,c,d,e,g],_,_=>⟨[a,c,e],[b,d,g],by kernel_rfl,by kernel_rfl,by simp[nR]<;>lia,by simp,by simp⟩|[_,_,_,_,_,_,_],_,h=>by simp at h
 |[a,b,c,d,e,g,x,y],_,_=>⟨[a,c,e,x],[b,d,g,y],by kernel_rfl,by kernel_rfl,by simp[nR]<;>lia,by simp,by simp⟩|_::_::_::_::_::_::_::_::_::_,h,_=>absurd h (by simp)
theorem FU{d:D}{gs:List Int}(h:d∈gs.map D.int):∃g∈gs,d=.int g:=by obtain⟨g,a,rfl⟩:=Wz.mp h;exact⟨g,a,rfl⟩
theorem uY{a:Type}(l:List a):l.filter (λ_=>b5)=l:=by simp
theorem S9(k:Nat)(a:Nat)(gs:List Int)(hz:gs.length<=1000)(n:Hm)(Q:jz)(c:n[a]?=b0 (.lst (gs.map D.int)))(H:∀μ',n<+:μ'->Q (.bl (fB gs),μ')):W (f (k+2) "is_good" [.loc a] n) Q:=by
 rw[RW,W_fin];simp only[w_mSeq,w_mIfS,w_mOrT,w_mTest,w_mOp,w_mCall,w_mCons,dM,cA,dW];refine(dN c).mpr ?_;simp only[w_gtI,V7];by_cases q:(8:Int)<gs.length
 .have e:fB gs=false:=by unfold fB;rw[decide_eq_false (show ¬ gs.length<=8 by lia)];rfl
  simp only[q,decide_true,if_true,w_mRet,dW];rw[<- e];exact H _ (Wr _)
 .simp only[q,decide_false,WQ,if_false];refine(dN c).mpr ?_;simp only[w_mod2,w_eqI,V7];by_cases u:(gs.length:Int)%2=1
  .have e:fB gs=false:=by unfold fB;rw[decide_eq_false (show ¬ gs.length%2=0 by lia)];simp
   simp only[u,beq_self_eq_true,if_true,w_mRet,dW];rw[<- e];exact H _ (Wr _)
  .have v:((gs.length:Int)%2==1)=false:=by simpa using u
   simp only[v,WQ,if_false,w_mNext,w_mNotT,w_mTru,w_mCall,w_mCons,dM];refine fJ (xs:=gs.map D.int) (p:=λ_=>b5) (v:=λd=>.bl (decide (1<=n6 d))) ?_;simp only[w_iSeq,cA];refine(c3 c).mpr ?_;refine⟨hX c,rfl,by rw[V7,Wv];lia,λd μ' hd x=>w_mTrue.mpr ⟨rfl,Wr _⟩,λd μ' hd _ x=>?_,λp b o=>?_⟩
   .obtain⟨g,_,rfl⟩:=FU hd;simp only[XZ,X4,w_mAndV,w_mCall,w_mCons,dM,cA,c6,S7,if_true,w_mOp,dW,Rb];exact⟨rfl,Wr _⟩
   .have j:p[n.length]?=b0 (.lst ((gs.map λg=>decide (1<=g)).map D.bl)):=by rw[o,uY,WC,WC];rfl
    refine(Ro j).mpr ?_;have i:(gs.map λg=>decide (1<=g)).all id=gs.all λg=>decide (1<=g):=by rw[a2K];rfl
    rw[i];simp only[w_truB];cases r:gs.all λg=>decide (1<=g)with
    |false=>
     have e:fB gs=false:=by unfold fB;rw[r];simp
     simp only[a2f,if_true,w_mRet,dW];rw[<- e];exact H _ b
    |true=>
     simp only[a0Z,WQ,if_false,w_mNext,w_mRet,w_mOp,w_mCall,w_mCons,dM];obtain⟨w,y,s,l,z,A,B⟩:=S8 gs (by lia) (by lia);have h:=aJ b c;refine Fm ?_;simp only[cA];refine⟨a,rfl,?_⟩;simp only[uT,uU,dW];refine⟨by decide,_,h,?_,?_⟩
     .rw[s,V7,Wv];lia
     rw[s];refine(Ak (bC _ _)).mpr ?_;refine Fm ?_;simp only[cA];refine⟨a,rfl,?_⟩;simp only[uT,uU,dW];refine⟨by decide,_,aJ (aU _ _) h,?_,?_⟩
     .rw[l,V7,Wv];lia
     rw[l];refine(Ak (bC _ _)).mpr ?_;refine(w_eqI).mpr ?_;have e:fB gs=(w.sum==y.sum):=by unfold fB;rw[r,decide_eq_true (show gs.length<=8 by lia),decide_eq_true (show gs.length%2=0 by lia)];simp only[a4X];rw[ZW,beq_iff_eq,beq_iff_eq];lia
     rw[<- e];exact H _ (b.trans ((aU _ _).trans (aU _ _)))
noncomputable def mL(h:Int)(x:Int):jq:=(WR (4*h-1).toNat).map λ(j:Nat)=>(x,1+(j:Int))
noncomputable def k7(h:Int)(n:Nat):jq:=(WR n).flatMap λ(i:Nat)=>mL h (1+(i:Int))
noncomputable def cI(w h:Int):jq:=k7 h (4*w-1).toNat
theorem FV(h:Int)(n:Nat):k7 h (n+1)=k7 h n++mL h (1+(n:Int)):=by unfold k7;rw[Zs,YM];simp
theorem FW(h x:Int):(mL h x).length=(4*h-1).toNat:=by unfold mL;simp
theorem AI(h:Int):∀n:Nat,(k7 h n).length=n*(4*h-1).toNat
 |0=>by simp[k7]
 |n+1=>by rw[FV,Wo,AI h n,FW,a2W]
theorem FX{h:Int}(b:h<=6){n:Nat}(a:n<=23):n*(4*h-1).toNat<=529:=by have:n*(4*h-1).toNat<=23*23:=a4W a (by lia);lia
theorem Ta(h x:Int):((hZ 1 (4*h-1).toNat).filter λ_=>b5).map (λd=>P x (n6 d))=(mL h x).map PP:=by unfold hZ mL;rw[show ∀l:List D,l.filter (λ_=>b5)=l from λl=>by simp,WC,WC];rfl
theorem AJ(k:Nat)(w h:Int)(hw:1<=w/\w<=6)(s:1<=h/\h<=6)(c:Hm)(Q:jz)(H:∀a μ',c<+:μ'->μ'[a]?=b0 (.lst ((cI w h).map PP))->c.length<=a->Q (.loc a,μ')):W (f (k+1) "places_within" [.int w,.int h] c) Q:=by
 rw[RQ,W_fin];simp only[w_mSeq,w_mSet,w_mLst,dM];refine⟨Yi _,?_⟩;simp only[XU,X5,w_mForI,w_iRng2,w_mCons,dM,dW,w_mOp,cA,c6,w_mul4];refine⟨by lia,?_⟩;refine j9 (lo:=1) (λi q μ'=>c<+:μ'/\μ'[c.length]?=b0 (.lst ((k7 h i).map PP))/\∃o,q=[b0 (.int w),b0 (.int h),b0 (.loc c.length),o]) ⟨aU _ _,bC _ _,b3,rfl⟩ ?_ ?_
 .rintro i q p v ⟨n,e,o,rfl⟩;refine⟨_,rfl,?_⟩;simp only[XU,X5,w_mDrop];refine eF ?_;simp only[cA,c6];refine⟨dX e,?_⟩;simp only[w_mCons,dM];refine fJ (xs:=hZ 1 (4*h-1).toNat) (p:=λ_=>b5) (v:=λd=>P (1+(i:Int)) (n6 d)) ?_;simp only[w_iRng2,w_mCons,dM,dW,w_mOp,cA,c6,w_mul4];refine⟨by lia,Fg,by simp[hZ],by rw[Wv];simp[hZ];lia,?_,?_,?_⟩
  .intro d μ' hd n;exact w_mTrue.mpr ⟨rfl,Wr _⟩
  .intro d μ' hd _ n;obtain⟨j,x,rfl⟩:=S2 hd;simp only[XZ,X4,w_mTup,w_mCons,dM,cA,c6,jH,true_and];exact⟨rfl,Wr _⟩
  .intro u b g;rw[Ta]at g;have l:((k7 h i).map PP).length+((mL h (1+(i:Int))).map PP).length<=Wq:=by have r:=FX (h:=h) s.2 (n:=i+1) (by lia);rw[a2W]at r;rw[V7,V7,AI,FW,Wv];lia
   refine(uS (aJ b e) g l).mpr ?_;refine⟨dJ (n.trans b) (Wh _) _,?_,_,rfl⟩;rw[Xk (Wa.mp (aJ b e)).1,FV,WE]
 .rintro q p ⟨n,e,o,rfl⟩;simp only[w_mRet,cA,c6];exact H _ _ n e (Wh _)
theorem uZ{w h:Int}(hw:w<=6)(a:h<=6):(cI w h).length<=529:=by unfold cI;rw[AI];exact FX a (by lia)
noncomputable def mv(x y:Int)(l:jq):jq:=l.map λs=>(x+s.1,y+s.2)
theorem FY(k:Nat)(x y:Int)(l:jq)(g:l.length<=63)(c:Hm)(Q:jz)(h:∀a μ',c<+:μ'->μ'[a]?=b0 (.lst ((mv x y l).map PP))->c.length<=a->Q (.loc a,μ')):W (f (k+1) "moved_by" [P x y,.tup (l.map PP)] c) Q:=by
 rw[RI,W_fin];simp only[w_mRet];refine fJ (xs:=l.map PP) (p:=λ_=>b5) (v:=λd=>PP (x+(dY d).1,y+(dY d).2)) ?_;simp only[w_iSeq,cA,c6];refine w_seqT.mpr ?_;refine⟨Rl,rfl,by rw[V7,Wv];lia,λd μ' hd b=>W_some.mpr ⟨rfl,Wr _⟩,λd μ' hd _ b=>?_,λμ' b e=>?_⟩
 .obtain⟨u,v,rfl⟩:=mK hd;simp only[XZ,X4,w_mTup,w_mOp,dW,w_mCons,dM,cA,c6,o7,w_it21,w_addI,jH,true_and];exact⟨rfl,Wr _⟩
 .refine h _ _ b ?_ (Wh _);rw[e,YN.mpr (λ_ _=>rfl),WC];unfold mv;rw[WC];rfl
noncomputable def E8:jq:=[(2,0),(1,1),(0,2),(-1,1),(-2,0),(-1,-1),(0,-2),(1,-1)]
noncomputable def F4:jq:=[(1,1),(-1,1),(-1,-1),(1,-1)]
noncomputable def bT(x:Int):jq:=if x%4=0 then E8 else F4
theorem FZ(k:Nat)(x y:Int)(b:Hm)(Q:jz)(h:∀a μ',b<+:μ'->μ'[a]?=b0 (.lst ((mv x y (bT x)).map PP))->b.length<=a->Q (.loc a,μ')):W (f (k+2) "edges_round" [P x y] b) Q:=by
 rw[RJ,W_fin];simp only[w_mRet,w_mCall,w_mCons,dM,cA,w_mIfE,w_mTest,w_mOp,dW,o7,FJ,w_eqI];unfold bT at h;by_cases e:x%4=0
 .rw[if_pos e]at h;rw[e];exact FY k x y E8 (by decide) b _ h
 .rw[if_neg e]at h;rw[if_neg (by simpa using e)];exact FY k x y F4 (by decide) b _ h
theorem F0(a:Hm)(q:Int×Int):∀ps:jq,iO a (PP q) (ps.map PP)=b0 (ps.any λp=>p==q)
 |[]=>rfl|p::ps=>by rw[WA];show(c5 8 a (PP p) (PP q)).bind (λb=>(iO a (PP q) (ps.map PP)).map λc=>b||c)=_;rw[Fh 6,F0 a q ps];rfl
noncomputable def kE(lo:Int)(n m:Nat):jq:=(WR n).flatMap λ(i:Nat)=>(WR m).map λ(j:Nat)=>(lo+(i:Int),lo+(j:Int))
noncomputable def jJ(lo x:Int)(m:Nat):jq:=(WR m).map λ(j:Nat)=>(x,lo+(j:Int))
theorem F1(lo:Int)(n m:Nat):kE lo (n+1) m=kE lo n m++jJ lo (lo+(n:Int)) m:=by unfold kE jJ;rw[Zs,YM];simp
theorem Tc(lo x:Int)(m:Nat):jJ lo x (m+1)=jJ lo x m++[(x,lo+(m:Int))]:=by unfold jJ;rw[Zs,WE];rfl
theorem F2(lo x:Int)(m:Nat):(jJ lo x m).length=m:=by unfold jJ;simp
theorem F3(lo:Int)(m:Nat):∀n:Nat,(kE lo n m).length=n*m
 |0=>by simp[kE]
 |n+1=>by rw[F1,Wo,F3 lo m n,F2,a2W]
theorem AK{b:Hm}{a:Nat}{c c':C}:(b.set a c).set a c'=b.set a c':=List.set_set ..
theorem cN{b:Hm}{a:Nat}{c c':C}(h:b[a]?=b0 c):(b.set a c')[a]?=b0 c':=by rw[Xk (Wa.mp h).1]
theorem F5(a:Hm)(c c':C):(a++[c]).set a.length c'=a++[c']:=by rw[a0y _ _ (Wh _)];simp
theorem pE{b:Hm}{a:Nat}{c:C}(h:b[a]?=b0 c):b.set a c=b:=by obtain⟨d,rfl⟩:=Wa.mp h;exact List.set_getElem_self d
noncomputable def a9(p:Int×Int):List Int:=[p.1,p.2]
theorem F6{a:Type}(l:List a)(d:a):(WR l.length).map (λi=>l.getD i d)=l:=by refine List.ext_getElem (by simp) λi c b=>?_;simp[Xx,b]
theorem k8{es:jq}{i:Nat}{d:D}(h:(es.map PP)[i]?=b0 d):∃p,es[i]?=b0 p/\d=PP p:=by rw[Ws]at h;obtain⟨p,a,b⟩:=Wb.mp h;exact⟨p,a,b.symm⟩
theorem rP(kvs:jx)(k:List Int):(a8 kvs k).isSome=kvs.any λp=>decide (p.1=k):=by unfold a8;rw[Z9,ZW,List.find?_isSome,ZQ]
theorem Td(kvs:jx)(k k':List Int)(d:D):(a8 (b9 kvs k d) k').isSome=(decide (k=k')||(a8 kvs k').isSome):=by
 unfold b9;split
 .rename_i h;have e:(kvs.map λp=>if p.1=k then(p.1,d)else p).any (λp=>decide (p.1=k'))=kvs.any λp=>decide (p.1=k'):=by rw[a2J];congr 1;funext p;simp only[Function.comp];split<;>rfl
  rw[rP,e,rP kvs k'];by_cases z:k=k'
  .subst z;rw[rP]at h;rw[h];simp
  .simp[z]
 .rw[rP,List.any_append,rP];simp only[a2x,List.any_nil,a0Y];exact Bool.or_comm _ _
theorem cB(q:Int×Int):cR (PP q)=b0 (a9 q):=rfl
noncomputable def cH(bs:List Bool):List Int:=((WR bs.length).filter λi=>bs.getD i b4).map λ(i:Nat)=>(i:Int)
noncomputable def eW(bs:List Bool):List Int:=((cH bs).zip ((cH bs).drop 1++((cH bs).take 1).map λs=>s+(bs.length:Int))).map λp=>(p.2-p.1)*(8/(bs.length:Int))
noncomputable def MD(m:(Int×Int)×Str):D:=.tup [PP m.1,.str m.2]
noncomputable def cT(p:Int×Int):Bool:=p.1%2==0&&p.1%4==p.2%4
theorem Te(k:Nat)(x y:Int)(a:Hm)(Q:jz):W (f (k+1) "is_corner" [P x y] a) Q↔Q (.bl (cT (x,y)),a):=by rw[RC,W_fin];simp only[w_mRet,w_mAndV,w_mOp,dW,cA,o7,w_it21,w_eqI,w_mod2,FJ];unfold cT;cases x%2==0<;>simp
noncomputable def aM(ms:List ((Int×Int)×Str))(p:Int×Int):Bool:=(ms.map (·.1)).any λq=>q==p
theorem F7:∀ms:List ((Int×Int)×Str),oW (ms.map MD)=b0 (ms.map λm=>(a9 m.1,D.str m.2))
 |[]=>rfl|m::ms=>by rw[WA,WA];show(cR (PP m.1)).bind (λk=>(oW (ms.map MD)).map λl=>(k,D.str m.2)::l)=_;rw[F7 ms];rfl
theorem F8(k:List Int):∀(l kvs:jx),(a8 (l.foldl (λq p=>b9 q p.1 p.2) kvs) k).isSome=((a8 kvs k).isSome||l.any λp=>decide (p.1=k))
 |[],kvs=>by simp
 |p::l,kvs=>by rw[a4B,F8 k l,Td,a2x];cases decide (p.1=k)<;>cases(a8 kvs k).isSome<;>simp
theorem Tf(p q:Int×Int):decide (a9 p=a9 q)=(p==q):=by rw[ZW];simp only[decide_eq_true_eq,beq_iff_eq,a9,a3k,and_true,a2F]
theorem Tg(ms:List ((Int×Int)×Str))(p:Int×Int):(a8 ((ms.map λm=>(a9 m.1,D.str m.2)).foldl (λq p=>b9 q p.1 p.2) []) (a9 p)).isSome=aM ms p:=by rw[F8];unfold aM;rw[a2J,a2J];show(b4||_)=_;rw[a4Y];congr 1;funext m;exact Tf m.1 p
theorem w_it32{a b c:D}{d:Hm}{Q:jz}:W (aE (.tup [a,b,c]) (.int 2) d) Q↔Q (c,d):=W_some
theorem w_it30{a b c:D}{d:Hm}{Q:jz}:W (aE (.tup [a,b,c]) (.int 0) d) Q↔Q (a,d):=W_some
theorem w_it31{a b c:D}{d:Hm}{Q:jz}:W (aE (.tup [a,b,c]) (.int 1) d) Q↔Q (b,d):=W_some
noncomputable abbrev SH(w h:Int)(ms:List ((Int×Int)×Str)):D:=.tup [.int w,.int h,.tup (ms.map MD)]
theorem w_dict{ms:List ((Int×Int)×Str)}{a:Hm}{Q:jz}:W (nK [.tup (ms.map MD)] a) Q↔Q (.loc a.length,a++[.dT ((ms.map λm=>(a9 m.1,D.str m.2)).foldl (λq p=>b9 q p.1 p.2) [])]):=by
 have:nK [.tup (ms.map MD)] a=b0 (.loc a.length,a++[.dT ((ms.map λm=>(a9 m.1,D.str m.2)).foldl (λq p=>b9 q p.1 p.2) [])]):=by simp only[nK,F7,WN]
 rw[this];exact W_some
theorem F9(k:Nat)(w h:Int)(ms:List ((Int×Int)×Str))(x y:Int)(g:Hm)(Q:jz)(H:∀a μ',g<+:μ'->μ'[a]?=b0 (.lst (((mv x y (bT x)).filter (aM ms)).map PP))->Q (.loc a,μ')):W (f (k+3) "creases_at" [SH w h ms,P x y] g) Q:=by
 rw[RX,W_fin];simp only[w_mSeq,w_mSet,w_mCall,w_mCons,dM,cA,c6];rw[FH,W_fin];simp only[w_mRet,w_mCall,w_mCons,dM,w_mOp,cA,dW,w_it32,w_dict,XU,X5];refine fJ (xs:=(mv x y (bT x)).map PP) (p:=λd=>aM ms (dY d)) (v:=λd=>d) ?_;simp only[w_iSeq,w_mCall,w_mCons,dM,cA,c6];refine FZ k x y _ _ λa j e c l=>?_;refine(c3 c).mpr ⟨hX c,rfl,?_,λd μ' hd b=>?_,λd μ' hd _ b=>?_,λμ' b i=>?_⟩
 .rw[V7,Wv];unfold mv bT;rw[V7];split<;>decide
 .obtain⟨u,v,rfl⟩:=mK hd;simp only[XZ,X4,w_mTest,w_mOp,cA,c6];refine(k5 (aJ (e.trans b) (bC _ _)) (cB (u,v))).mpr ?_;simp only[WQ,if_false];exact⟨Tg ms (u,v),Wr _⟩
 .simp only[XZ,X4,cA,c6];exact⟨trivial,Wr _⟩
 .refine H _ _ ((aU _ _).trans (e.trans b)) ?_;rw[i,o9 (aM ms)]
theorem AL(a:Hm)(q:Int×Int):∀ps:jq,j0 a (PP q) (ps.map PP)=b0 (ps.map λp=>p==q)
 |[]=>rfl|p::ps=>by rw[WA,WA];simp only[j0,AL a q ps];rw[Fh 6];rfl
theorem Th{b:Hm}{a:Nat}{ps:jq}{q:Int×Int}{Q:jz}(h:b[a]?=b0 (.lst (ps.map PP)))(d:q∈ps)(hz:ps.length<=Wq):W (oS (.loc a) [PP q] b) Q↔Q (.int (ps.idxOf q:Nat),b):=by
 have e:(ps.map λp=>p==q).findIdx id=ps.idxOf q:=by rw[List.findIdx_map];rfl
 have c:ps.idxOf q<ps.length:=a1W d;simp only[oS,h,AL,WH];rw[e,V7,if_pos ⟨c,hz⟩];exact W_some
theorem Tj{es:jq}(d:es.Nodup){i:Nat}(a:i<es.length):es.idxOf (es.getD i (0,0))=i:=by
 have e:es.getD i (0,0)=es[i]:=by simp[Xx,a]
 rw[e];have b:es.idxOf es[i]<es.length:=a1W (XY a);have c:es[es.idxOf es[i]]=es[i]:=List.getElem_idxOf b;rcases a1q (es.idxOf es[i]) i with h|h|h
 .exact absurd c ((Zk.mp d) _ i b a h)
 .exact h
 .exact absurd c.symm ((Zk.mp d) i _ a b h)
theorem AM{es:jq}(d:es.Nodup)(m:Int×Int->Bool):(es.filter m).map (λq=>((es.idxOf q:Nat):Int))=cH (es.map m):=by
 have b:es.filter m=((WR es.length).filter λi=>m (es.getD i (0,0))).map λi=>es.getD i (0,0):=by
  conv=>lhs;rw[<- F6 es (0,0)]
  rw[Zu];rfl
 unfold cH;rw[b,WC,V7];have c:(WR es.length).filter (λi=>m (es.getD i (0,0)))=(WR es.length).filter λi=>(es.map m).getD i false:=by refine List.filter_congr λi a=>?_;have a:=Xn.mp a;simp[Xx,a]
 rw[<- c];refine XF λi a=>?_;have a:=Xn.mp (Xj.mp a).1;show((es.idxOf (es.getD i (0,0)):Nat):Int)=_;rw[Tj d a]
theorem AN(x y:Int){l:jq}(h:l.Nodup):(mv x y l).Nodup:=by unfold mv;show List.Pairwise _ _;rw[List.pairwise_map];refine a5z (λ{a b} c e=>c ?_) h;simp only[a2F]at e ⊢;lia
theorem AO(x:Int):(bT x).Nodup:=by unfold bT;split<;>decide
theorem u5(x:Int):(bT x).length=8\/(bT x).length=4:=by
 unfold bT;split
 .exact .inl rfl
 .exact .inr rfl
theorem Tn(b:List Int):jR (b.map D.int) (b0 1) b3=(b.drop 1).map D.int:=by
 cases b with
 |nil=>rfl|cons a l=>unfold jR;rw[show(1:Int)=((1:Nat):Int)from rfl,HT.sIx_nat,HT.sIx_none,V7,a1V (by simp),<- List.map_drop,ZK (by rw[V7,Zg];lia)]
theorem To(b:List Int):jR (b.map D.int) b3 (b0 1)=(b.take 1).map D.int:=by
 cases b with
 |nil=>rfl|cons a l=>unfold jR;rw[show(1:Int)=((1:Nat):Int)from rfl,HT.sIx_nat,HT.sIx_none,V7,a1V (by simp),a0I,a5y,a2u]
noncomputable def nT(a b:List Int):List D:=(a.zip b).map PP
theorem Tp{e:Hm}{a b:Nat}{c d:List Int}(h:e[a]?=b0 (.lst (c.map D.int)))(j:e[b]?=b0 (.lst (d.map D.int))):∀μ' i,e<+:μ'->qI (.loc a) (.loc b) μ' i=b0 (nT c d)[i]?:=λμ' i g=>by simp only[qI,bM,aJ g h,aJ g j,WH,WN];unfold nT List.zip;rw[Ws,Ws,Ws,a2X];cases c[i]?<;>cases d[i]?<;>rfl
theorem Ga(k:Nat)(w h:Int)(ms:List ((Int×Int)×Str))(x y:Int)(N:Hm)(Q:jz)(H:∀a μ',N<+:μ'->μ'[a]?=b0 (.lst ((eW ((mv x y (bT x)).map (aM ms))).map D.int))->Q (.loc a,μ')):W (f (k+4) "gaps_at" [SH w h ms,P x y] N) Q:=by
 have B:=u5 x;have j:(mv x y (bT x)).length=(bT x).length:=by unfold mv;rw[V7]
 have l:=AN x y (AO x);rw[RY,W_fin];simp only[w_mSeq,w_mSet,w_mCall,w_mCons,dM,cA,c6];refine FZ (k+1) x y _ _ λa1 μ1 Z O l1=>?_;simp only[XU,X5,cA,c6];refine F9 k w h ms x y _ _ λa2 I K r=>?_;simp only[XU,X5];have c:=aJ K O;generalize hes:mv x y (bT x)=es at c r j l H;have E:(es.filter (aM ms)).length<=8:=W7 (Yk _ _) (by lia);refine fJ (xs:=(es.filter (aM ms)).map PP) (p:=λ_=>b5) (v:=λd=>.int ((es.idxOf (dY d):Nat):Int)) ?_;simp only[w_iSeq,cA,c6];refine(c3 r).mpr ⟨hX r,rfl,by rw[V7,Wv];lia,λd μ' hd e=>w_mTrue.mpr ⟨rfl,Wr _⟩,λd μ' hd _ e=>?_,λb L R=>?_⟩
 .obtain⟨q,X,rfl⟩:=Wz.mp hd;refine eF ?_;simp only[XZ,X4,cA,c6];refine⟨dX (aJ e c),?_⟩;simp only[w_mCons,dM,cA,c6];exact(Th (aJ e c) (Xj.mp X).1 (by rw[Wv];lia)).mpr ⟨rfl,Wr _⟩
 .have g:b[I.length]?=b0 (.lst ((cH (es.map (aM ms))).map D.int)):=by rw[R,uY,WC,<- AM l,WC];rfl
  have G:(cH (es.map (aM ms))).length<=8:=by rw[<- AM l,V7];exact E
  generalize hix:cH (es.map (aM ms))=is at g G;simp only[w_mOp];refine Fj ?_;simp only[cA,c6,uU,dW,uT];refine⟨_,rfl,_,g,?_⟩;rw[Tn];have J:=aJ (aU b (C.lst ((is.drop 1).map D.int))) g;have o:=aJ (L.trans (aU b (C.lst ((is.drop 1).map D.int)))) c;refine fJ (xs:=(is.take 1).map D.int) (p:=λ_=>b5) (v:=λd=>.int (n6 d+(es.length:Int))) ?_;simp only[w_iSeq];refine Fj ?_;simp only[cA,c6,uU,dW,uT];refine⟨_,rfl,_,J,?_⟩;rw[To];refine(c3 (bC _ _)).mpr ⟨hX (bC _ _),rfl,by rw[V7,Xa,Wv];lia,λd μ' hd e=>w_mTrue.mpr ⟨rfl,Wr _⟩,λd μ' hd _ e=>?_,λn p5 T=>?_⟩
  .obtain⟨i,_,rfl⟩:=FU hd;simp only[XZ,X4,w_mOp,cA,c6,w_mCall,w_mCons,dM];refine(dN (aJ ((aU _ _).trans e) o)).mpr ?_;simp only[w_addI,V7];exact⟨rfl,Wr _⟩
  .have M:=(aU (b++[C.lst ((is.drop 1).map D.int)]) (C.lst ((is.take 1).map D.int))).trans p5;have u:n[(b++[C.lst ((is.drop 1).map D.int)]++[C.lst ((is.take 1).map D.int)]).length]?=b0 (.lst (((is.take 1).map λs=>s+(es.length:Int)).map D.int)):=by rw[T,uY,WC,WC];rfl
   have v:=aJ M (bC b (C.lst ((is.drop 1).map D.int)));refine(Fi v u (by rw[V7,V7,V7,Zg,Xa,Wv];lia)).mpr ?_;rw[<- WE];simp only[XU,X5,w_mOp,dW,w_mCall,w_mCons,dM,cA,c6];have p:=M.trans (aU n (C.lst ((is.drop 1++(is.take 1).map λs=>s+(es.length:Int)).map D.int)));refine(dN (aJ p o)).mpr ?_;rw[V7];refine(rK (by lia) (by lia)).mpr ?_;simp only[XU,X5,w_mRet];have z:=aJ p J;have A:=bC n (C.lst ((is.drop 1++(is.take 1).map λs=>s+(es.length:Int)).map D.int));generalize hjs:is.drop 1++(is.take 1).map (λs=>s+(es.length:Int))=js at z A p;have Y:(nT is js).length<=8:=by unfold nT;rw[V7,a1L];lia
   have h8:8/(es.length:Int)=1\/8/(es.length:Int)=2:=by
    rcases B with h|h
    .left;rw[j,h];rfl
    .right;rw[j,h];rfl
   refine rL (xs:=nT is js) (x:=λd=>[b0 (.int (dY d).1),b0 (.int (dY d).2)]) (p:=λ_=>b5) (v:=λd=>.int (((dY d).2-(dY d).1)*(8/(es.length:Int)))) ?_;refine Rv ?_;simp only[w_mCons,dM,cA,c6];refine⟨_,_,_,_,rfl,z,A,Tp z A,?_,by rw[Wv];lia,λd μ' hd=>?_,λd μ' hd e=>w_mTrue.mpr ⟨rfl,Wr _⟩,λd μ' hd _ e=>?_,λμ8 p8 U=>?_⟩
   .unfold nT;simp only[V7,a1L]
   .obtain⟨q,_,rfl⟩:=Wz.mp hd;rfl
   .obtain⟨q,_,rfl⟩:=Wz.mp hd;simp only[XZ,X4,w_mOp,cA,c6,w_subI];exact(kZ (.inr (by lia))).mpr ⟨rfl,Wr _⟩
   .refine H _ _ (Z.trans (K.trans (L.trans ((aU _ _).trans (p.trans p8))))) ?_;rw[U,uY];unfold nT eW;rw[hix,V7,hjs,WC,WC];rfl
theorem bD{a:Type}{o:Option a}{r:a}:W o (λx=>x=r)->o=b0 r:=λ⟨_,e,q⟩=>e.trans (congrArg b0 q)
noncomputable def c4(p:Int×Int):List Int:=[p.1,p.2]
noncomputable def dD(p q:Int×Int):Int×Int:=if HT.lexLt (c4 q) (c4 p)then q else p
noncomputable def dE(p q:Int×Int):Int×Int:=if HT.lexLt (c4 p) (c4 q)then q else p
noncomputable def fT(p q:Int×Int)(a:Bool)(c:Int×Int):Ti:=(c4 (dD p q),c4 (dE p q),a,c4 c)
theorem AQ(p q:Int×Int)(a:Hm):kW [PP p,PP q] a=b0 (PP (dD p q),a):=by show b0 (if HT.lexLt (c4 q) (c4 p)then PP q else PP p,a)=_;unfold dD;split<;>rfl
theorem AR(p q:Int×Int)(a:Hm):qR [PP p,PP q] a=b0 (PP (dE p q),a):=by show b0 (if HT.lexLt (c4 p) (c4 q)then PP q else PP p,a)=_;unfold dE;split<;>rfl
theorem AS{n:Nat}(h:n=4):n<=Wq:=by rw[h];decide
theorem AU(k:Nat)(p q:Int×Int)(a:Bool)(c:Int×Int)(b:Hm)(Q:jz)(H:Q (bS (fT p q a c),b)):W (f (k+1) "tie_of" [PP p,PP q,.bl a,PP c] b) Q:=
 bU (R6 k _ _ _ _ b) (bW (w_mTup.mpr (aW (aP rfl (bA (AQ p q b) (aW (aP rfl (bA (AR p q b) ⟨_,rfl,AS rfl,H⟩))))))))
theorem mM{xs:List D}{i:Nat}{d:D}(e:xs[i]?=b0 d):atI xs (i:Int)=b0 d:=by have a:=(Wa.mp e).1;unfold atI;rw[FT (by lia) (by lia)];simpa using e
theorem AV{xs:List D}{i:Nat}(h:i<xs.length):atI xs ((i:Int)-1)=xs[(i+(xs.length-1))%xs.length]?:=by
 unfold atI jP;cases i with
 |zero=>
  rw[if_neg (by lia),if_pos (by lia)];have e:(((0:Nat):Int)-1+xs.length).toNat=(0+(xs.length-1))%xs.length:=by rw[a0o (by lia)];lia
  rw[e];rfl
 |succ i=>
  rw[if_pos (by lia),if_pos (by lia)];have e:(((i+1:Nat):Int)-1).toNat=(i+1+(xs.length-1))%xs.length:=by
   have:i+1+(xs.length-1)=i+xs.length:=by lia
   rw[this,Nat.add_mod_right,a0o (by lia)];lia
  rw[e];rfl
theorem rQ{gs:List Int}{i:Nat}(h:i<gs.length):(gs.map D.int)[i]?=b0 (.int (gs.getD i 0)):=by rw[Ws,Wi h];simp[Xx,h]
theorem Tq{cr:jq}{i:Nat}(h:i<cr.length):(cr.map PP)[i]?=b0 (PP (cr.getD i (0,0))):=by rw[Ws,Wi h];simp[Xx,h]
noncomputable def iB(gs:List Int)(i:Nat):Bool:=decide (gs.getD i 0<gs.getD ((i+(gs.length-1))%gs.length) 0)&&decide (gs.getD i 0<gs.getD ((i+1)%gs.length) 0)
theorem u6(i n:Nat):((i:Int)+1)%(n:Int)=(((i+1)%n:Nat):Int):=by simp[a4E]
theorem Tr(k:Nat){a:Nat}{gs:List Int}{b:Hm}(g:b[a]?=b0 (.lst (gs.map D.int))){i:Nat}(h:i<gs.length)(Q:jz)(H:Q (.bl (iB gs i),b)):W (f (k+1) "is_least" [.loc a,.int i] b) Q:=by
 have s:(i+(gs.length-1))%gs.length<gs.length:=Zc _ (by lia);have u:(i+1)%gs.length<gs.length:=Zc _ (by lia);have j:∀{c},c=b->aE (.loc a) (.int i) c=b0 (.int (gs.getD i 0),c):=λe=>by subst e;exact bD ((eK g (mM (rQ h))).mpr rfl)
 have n:aE (.loc a) (.int ((i:Int)-1)) b=b0 (.int (gs.getD ((i+(gs.length-1))%gs.length) 0),b):=bD ((eK g (by
  rw[AV (by rw[V7];exact h),V7];exact rQ s)).mpr rfl)
 have o:aE (.loc a) (.int (((i:Int)+1)%(gs.length:Nat))) b=b0 (.int (gs.getD ((i+1)%gs.length) 0),b):=bD ((eK g (by rw[u6];exact mM (rQ u))).mpr rfl);refine bU (R8 k _ _ b) (bW (w_mAndV.mpr (aN (aZ rfl rfl ⟨_,j rfl,aN ⟨_,rfl,aZ rfl rfl (w_subI.mpr ⟨_,n,w_ltI.mpr ?_⟩)⟩⟩))));unfold iB at H;have d:W (aC dQ (aC aE (aA 0) (aA 1)) (aC aE (aA 0) (aC aV (aC bI (aA 1) (mC (.int 1))) (aF bL (aB (aA 0) aD)))) [b0 (.loc a),b0 (.int i)] b) λp=>p=(.bl (decide (gs.getD i 0<gs.getD ((i+1)%gs.length) 0)),b):=by refine aN (aZ rfl rfl ⟨_,j rfl,aN ⟨_,rfl,aN (aZ rfl rfl (w_addI.mpr (aP rfl ((dN g).mpr ?_))))⟩⟩);rw[V7];exact(cZ (by lia)).mpr ⟨_,o,w_ltI.mpr rfl⟩
 cases l:decide (gs.getD i 0<gs.getD ((i+(gs.length-1))%gs.length) 0)with
 |true=>rw[l,a4X]at H;obtain⟨r,q,rfl⟩:=d;exact(if_pos rfl).mpr ⟨_,q,H⟩|false=>rw[l,a4K]at H;exact(if_neg Wj).mpr H
noncomputable def iU(cr:jq)(c:Int×Int)(i:Nat):List Ti:=fT (cr.getD i (0,0)) (cr.getD ((i+1)%cr.length) (0,0)) b4 c::(if cr.length=4 then[fT (cr.getD ((i+2)%4) (0,0)) (cr.getD ((i+3)%4) (0,0)) b5 c]else[])
theorem fU{b:Hm}{a:Nat}{cr:jq}(g:b[a]?=b0 (.lst (cr.map PP))){i:Nat}(h:i<cr.length):aE (.loc a) (.int (i:Int)) b=b0 (PP (cr.getD i (0,0)),b):=bD ((eK g (mM (Tq h))).mpr rfl)
theorem Ts(k:Nat){a:Nat}{cr:jq}{b:Hm}(g:b[a]?=b0 (.lst (cr.map PP))){i:Nat}(h:i<cr.length)(c:Int×Int)(Q:jz)(H:∀l μ',b<+:μ'->μ'[l]?=b0 (.lst ((iU cr c i).map bS))->Q (.loc l,μ')):W (f (k+2) "ties_of_gap" [.loc a,.int i,PP c] b) Q:=by
 have r:(i+1)%cr.length<cr.length:=Zc _ (by lia);have n:aE (.loc a) (.int (((i:Int)+1)%(cr.length:Nat))) b=b0 (PP (cr.getD ((i+1)%cr.length) (0,0)),b):=by rw[u6];exact fU g r
 have q:bL [.loc a] b=b0 (.int (cr.length:Nat),b):=bD ((dN g).mpr (by rw[V7]));refine bU (Sa (k+1) _ _ _ b) (aY (aP rfl (bA q (aY (w_mLst.mpr (aW (eQ (aW (aZ rfl rfl ⟨_,fU g h,aW (aN ⟨_,rfl,aN (aZ rfl rfl (w_addI.mpr ⟨_,rfl,(cZ (by lia)).mpr ⟨_,n,_,rfl,?_⟩⟩))⟩)⟩)))))))));refine AU k _ _ _ _ _ _ ⟨_,rfl,FK,?_⟩;have gl:=bC b (C.lst [bS (fT (cr.getD i (0,0)) (cr.getD ((i+1)%cr.length) (0,0)) b4 c)]);have j:=aJ (aU b (C.lst [bS (fT (cr.getD i (0,0)) (cr.getD ((i+1)%cr.length) (0,0)) b4 c)])) g;refine f7 (b:=((cr.length:Nat):Int)==4) (μ':=b++[C.lst [bS (fT (cr.getD i (0,0)) (cr.getD ((i+1)%cr.length) (0,0)) b4 c)]]) (bD (bX (aZ rfl rfl (w_eqI.mpr ⟨_,rfl,rfl⟩)))) (λd=>?_) λd=>cX (bW ⟨_,rfl,H _ _ (aU _ _) ?_⟩)
 .have d:cr.length=4:=by have:=beq_iff_eq.mp d;lia
  have s:(i+2)%4<cr.length:=by lia
  have u:(i+3)%4<cr.length:=by lia
  have o:∀{ν:Hm},ν[a]?=b0 (.lst (cr.map PP))->aE (.loc a) (.int (((i:Int)+2)%4)) ν=b0 (PP (cr.getD ((i+2)%4) (0,0)),ν):=λe=>by rw[show((i:Int)+2)%4=(((i+2)%4:Nat):Int) by lia];exact fU e s
  have p:∀{ν:Hm},ν[a]?=b0 (.lst (cr.map PP))->aE (.loc a) (.int (((i:Int)+3)%4)) ν=b0 (PP (cr.getD ((i+3)%4) (0,0)),ν):=λe=>by rw[show((i:Int)+3)%4=(((i+3)%4:Nat):Int) by lia];exact fU e u
  refine k6 (eF ⟨_,rfl,dX gl,aW (eQ (aW (aN ⟨_,rfl,aN (aZ rfl rfl (w_addI.mpr ⟨_,rfl,(cZ (by decide)).mpr ⟨_,o j,aW (aN ⟨_,rfl,aN (aZ rfl rfl (w_addI.mpr ⟨_,rfl,(cZ (by decide)).mpr ⟨_,p j,_,rfl,?_⟩⟩))⟩)⟩⟩))⟩)))⟩);refine AU k _ _ _ _ _ _ ⟨_,rfl,(fS gl (by show(1:Nat)<Wq;decide)).mpr (bW ⟨_,rfl,H _ _ (dJ (aU _ _) (Wh _) _) ?_⟩)⟩;rw[cN gl];unfold iU;rw[if_pos d];rfl
 .have d:¬ cr.length=4:=λz=>by rw[z]at d;cases d
  unfold iU;rw[if_neg d];exact gl
noncomputable def bH(m:Int×Int->Bool)(p:Int×Int):jq:=(mv p.1 p.2 (bT p.1)).filter m
noncomputable def bY(m:Int×Int->Bool)(p:Int×Int):List Int:=eW ((mv p.1 p.2 (bT p.1)).map m)
theorem kF(m:Int×Int->Bool)(p:Int×Int):(bY m p).length=(bH m p).length:=by have e:=congrArg Xm (AM (AN p.1 p.2 (AO p.1)) m);rw[V7]at e;unfold bY eW bH;rw[V7,a1L,Wo,V7,Zg,Xa,e];lia
theorem pF(m:Int×Int->Bool)(p:Int×Int):(bH m p).length<=8:=by refine W7 (Yk _ _) ?_;have:(mv p.1 p.2 (bT p.1)).length=(bT p.1).length:=V7 ..;have:=u5 p.1;lia
noncomputable def gP(m:Int×Int->Bool)(p:Int×Int)(i:Nat):List Ti:=if iB (bY m p) i then iU (bH m p) p i else[]
noncomputable def fK(m:Int×Int->Bool)(p:Int×Int):List Ti:=if(bH m p).length=2 then[fT ((bH m p).getD 0 (0,0)) ((bH m p).getD 1 (0,0)) b5 p]else(WR (bH m p).length).flatMap (gP m p)
theorem AW(m:Int×Int->Bool)(p:Int×Int)(i:Nat):(gP m p i).length<=2:=by
 unfold gP iU;split
 .split<;>simp
 .simp
theorem mN{a b:Type}{f:a->List b}{n:Nat}(h:∀x,(f x).length<=n):∀l:List a,(l.flatMap f).length<=n*l.length
 |[]=>by simp
 |x::l=>by have c:=mN h l;have d:=h x;rw[a4f,Wo,WO,Nat.mul_succ];lia
theorem AX(m:Int×Int->Bool)(p:Int×Int):(fK m p).length<=16:=by
 unfold fK;split
 .simp
 .have a:=mN (AW m p) (WR (bH m p).length);rw[Xy]at a;have:=pF m p;lia
inductive TaI (a0 a1 a2 a3:Option D)(l:Nat)(ν:Hm)(F:Nat->List Ti):Nat->aH->Hm->Prop
 |mk {i:Nat}{x:Option D}{μ:Hm}(p:ν<+:μ)(g:μ[l]?=b0 (.lst (((WR i).flatMap F).map bS))):TaI a0 a1 a2 a3 l ν F i [a0,a1,a2,a3,b0 (.loc l),x] μ
theorem Tt(k:Nat)(w h:Int)(ms:List ((Int×Int)×Str))(p:Int×Int)(q:Hm)(Q:jz)(H:∀l μ',q<+:μ'->μ'[l]?=b0 (.lst ((fK (aM ms) p).map bS))->Q (.loc l,μ')):W (f (k+6) "ties_at" [SH w h ms,PP p] q) Q:=by
 refine bU (Sb (k+5) _ _ q) (aY (aP rfl (F9 (k+2) w h ms p.1 p.2 q _ λa n R r=>aY (aP rfl (Ga (k+1) w h ms p.1 p.2 n _ λb c E o=>?_)))));replace r:n[a]?=b0 (.lst ((bH (aM ms) p).map PP)):=r;replace o:c[b]?=b0 (.lst ((bY (aM ms) p).map D.int)):=o;have j:=aJ E r;have O:=kF (aM ms) p;have X:=pF (aM ms) p;have M:bL [.loc a] c=b0 (.int ((bH (aM ms) p).length:Nat),c):=bD ((dN j).mpr (by rw[V7]));have I:=R.trans E;refine f7 (b:=(((bH (aM ms) p).length:Nat):Int)==2) (μ':=c) (bD (bX (aN (aP rfl (bA M ⟨_,rfl,w_eqI.mpr ⟨_,rfl,rfl⟩⟩))))) (λe=>?_) λe=>cX ?_
 .have e:(bH (aM ms) p).length=2:=by have:=beq_iff_eq.mp e;lia
  refine gO (w_mLst.mpr (aW (eQ (aW (aZ rfl rfl ⟨_,fU (i:=0) j (by lia),aW (aZ rfl rfl ⟨_,fU (i:=1) j (by lia),_,rfl,?_⟩)⟩)))));refine AU (k+4) _ _ _ _ _ _ ⟨_,rfl,FK,H _ _ (I.trans (aU _ _)) ?_⟩;unfold fK;rw[if_pos e];exact bC _ _
 .have e:¬ (bH (aM ms) p).length=2:=λz=>by rw[z]at e;cases e
  have N:=aJ (aU c (C.lst [])) j;have gB:=aJ (aU c (C.lst [])) o;have L:bL [.loc a] (c++[C.lst []])=b0 (.int ((bH (aM ms) p).length:Nat),c++[C.lst []]):=bD ((dN N).mpr (by rw[V7]));refine aY (w_mLst.mpr ⟨_,rfl,Yi _,dC (w_mForI.mpr ((mI (j:=0)).mpr (aW (aP rfl (bA L ⟨_,rfl,⟨by lia,by lia⟩,?_⟩)))))⟩);dsimp only;rw[Yh];refine j9 (TaI (b0 (SH w h ms)) (b0 (PP p)) (b0 (.loc a)) (b0 (.loc b)) c.length c (gP (aM ms) p)) (.mk (aU _ _) (bC _ _)) ?_ ?_
  .rintro i u s B ⟨g,d⟩;refine⟨_,rfl,?_⟩;rw[Zl];refine w_mIfS.mpr (eS (aP rfl (Tr (k+4) (aJ g o) (by rw[O];exact B) _ ⟨rfl,?_⟩)));have v:(WR (i+1)).flatMap (gP (aM ms) p)=(WR i).flatMap (gP (aM ms) p)++gP (aM ms) p i:=by rw[Zs,YM];simp
   have J:=mN (AW (aM ms) p) (WR i);rw[Xy]at J;cases A:iB (bY (aM ms) p) i with
   |false=>refine(if_neg Wj).mpr (w_mNext.mpr (.mk g ?_));rw[v];unfold gP at d ⊢;rw[A,if_neg Wj,XG];exact d|true=>
    refine(if_pos rfl).mpr (w_mDrop.mpr (eF ⟨_,rfl,dX d,aW (aP rfl (Ts (k+3) (aJ g j) B p _ λl T G x=>⟨_,rfl,?_⟩))⟩));have K:iU (bH (aM ms) p) p i=gP (aM ms) p i:=by unfold gP;rw[A,if_pos rfl]
    rw[K]at x;have U:=AW (aM ms) p i;have y:=aJ G d;refine(uS y x (by rw[V7,V7,Wv];lia)).mpr (.mk (dJ (g.trans G) (Wh _) _) ?_);rw[cN y,v,WE]
  .rintro u s ⟨g,d⟩;refine⟨rfl,bW ⟨_,rfl,H _ _ (I.trans g) ?_⟩⟩;unfold fK;rw[if_neg e];exact d
theorem AY(k:Nat){w h:Int}(hw:1<=w/\w<=6)(l:1<=h/\h<=6)(c:Hm)(Q:jz)(H:∀a μ',c<+:μ'->μ'[a]?=b0 (.lst (((cI w h).filter cT).map PP))->Q (.loc a,μ')):W (f (k+2) "corners_in" [.int w,.int h] c) Q:=by
 refine bU (RT (k+1) _ _ c) (bW (fJ (xs:=(cI w h).map PP) (p:=λd=>cT (dY d)) (v:=λd=>d) (w_iSeq.mpr (aP rfl (AJ _ w h (by lia) (by lia) _ _ λa j i e n=>?_)))));refine(c3 e).mpr ⟨hX e,rfl,?_,λd μ' hd b=>?_,λd μ' hd _ b=>⟨_,rfl,rfl,Wr _⟩,λμ' b g=>?_⟩
 .have:=uZ (w:=w) (h:=h) (by lia) (by lia);rw[V7,Wv];lia
 .obtain⟨u,v,rfl⟩:=mK hd;exact eS (aP rfl ((Te k u v _ _).mpr ⟨rfl,rfl,Wr _⟩))
 .refine H _ _ (i.trans b) ?_;rw[g,o9 cT]
theorem Gb{a:Type}{l A B:List a}{x:a}{q:a->Bool}(b:l=A++x::B)(hA:∀y∈A,q y=b4)(c:q x=b5):l.find? q=b0 x:=by
 rw[b,a4g];have:A.find? q=none:=Yx.mpr λy d=>by rw[hA y d];exact Wj
 rw[this,List.find?_cons_of_pos c];rfl
theorem Gd{a:Type}{l:List a}{i:Nat}{x:a}(h:l[i]?=b0 x):l=l.take i++x::l.drop (i+1):=by obtain⟨b,rfl⟩:=Wa.mp h;rw[<- YE b,YY]
noncomputable def Ge:Option (Int×Int)->D
 |none=>.non|some p=>PP p
noncomputable def bK(w h:Int):jq:=(cI w h).filter cT
noncomputable def c7(m:Int×Int->Bool)(p:Int×Int):Bool:=!(fB (bY m p))
inductive BaI (ms:List ((Int×Int)×Str))(w h:Int)(cs:jq)(q:Int×Int->Bool)(ν:Hm):Nat->aH->Hm->Prop
 |mk {i:Nat}{x:Option D}{μ:Hm}(p:ν<+:μ)(ok:∀z∈cs.take i,q z=b4):BaI ms w h cs q ν i [b0 (SH w h ms),x] μ
theorem Gf{b:jq}{q:Int×Int->Bool}{i:Nat}{z:Int×Int}(ok:∀y∈b.take i,q y=b4)(hz:b[i]?=b0 z)(c:q z=b4):∀y∈b.take (i+1),q y=false:=λy a=>by
 rw[YQ,hz]at a;rcases WK.mp a with a|a
 .exact ok y a
 .have:y=z:=by simpa using a
  rw[this];exact c
theorem Tu(k:Nat){w h:Int}(hw:1<=w/\w<=6)(x:1<=h/\h<=6)(ms:List ((Int×Int)×Str))(j:Hm)(Q:jz)(H:∀μ',j<+:μ'->Q (Ge ((bK w h).find? (c7 (aM ms))),μ')):W (f (k+5) "barred" [SH w h ms] j) Q:=by
 refine bU (RZ (k+4) _ j) (w_mSeq.mpr (w_mForI.mpr (w_iSeq.mpr (aP rfl (AY (k+2) hw x _ _ λa l r o=>(c3 o).mpr ?_)))));refine gM (xs:=(bK w h).map PP) (BaI ms w h (bK w h) (c7 (aM ms)) l) (.mk (Wr _) λz g=>by simp at g) (by rintro _ _ _ ⟨p,_⟩;exact aJ p o) ?_ ?_
 .rintro i d G n hd ⟨c,ok⟩;obtain⟨z,g,rfl⟩:=k8 hd;refine⟨_,rfl,w_mIfS.mpr (iT (eS (b:=fB (bY (aM ms) z)) (eQ (aW (aP rfl (Ga k w h ms z.1 z.2 _ _ λb B s v=>⟨_,rfl,?_⟩))))))⟩;refine S9 (k+2) b (bY (aM ms) z) (by have:=kF (aM ms) z;have:=pF (aM ms) z;lia) _ _ v λE u=>⟨rfl,?_⟩;cases q:fB (bY (aM ms) z)with
  |true=>exact(if_neg Wj).mpr (w_mNext.mpr (.mk (c.trans (s.trans u)) (Gf ok g (by unfold c7;rw[q];rfl))))|false=>have e:=Gb (q:=c7 (aM ms)) (Gd g) ok (by unfold c7;rw[q];rfl);rw[e]at H;exact(if_pos rfl).mpr (w_mRet.mpr ⟨_,rfl,H _ (r.trans (c.trans (s.trans u)))⟩)
 .rintro G n ⟨c,ok⟩;rw[V7,W9]at ok;have e:(bK w h).find? (c7 (aM ms))=none:=Yx.mpr λy A=>by rw[ok y A];exact Wj
  rw[e]at H;exact bW ⟨_,rfl,H _ (r.trans c)⟩
noncomputable def fC(m:Int×Int->Bool)(w h:Int):List Ti:=(bK w h).flatMap (fK m)
noncomputable def jK(ts:List Ti):List Ti:=(cW (kX ts) ts.length).map λi=>ts.getD i j7
theorem Gg:∀ts:List Ti,qU (ts.map bS)=b0 ts
 |[]=>rfl|t::ts=>by
  have h:qT (bS t)=b0 t:=by show(cR (.tup (t.1.map D.int))).bind (λk=>(cR (.tup (t.2.1.map D.int))).bind λm=>(cR (.tup (t.2.2.2.map D.int))).map λn=>(k,m,t.2.2.1,n))=_;rw[An,An,An];rfl
  show(qT (bS t)).bind (λx=>(qU (ts.map bS)).map (x::·))=_;rw[h,Gg ts];rfl
theorem Gh{b:Hm}{a:Nat}{ts:List Ti}(g:b[a]?=b0 (.lst (ts.map bS)))(h:ts.length<64):nO [.loc a] b=b0 (.loc b.length,b++[.lst ((jK ts).map bS)]):=by
 have e:e8 b (.loc a)=b0 (ts.map bS):=by simp only[e8,g]
 simp only[nO,e,WH,Gg,if_pos h];have d:(cW (kX ts) ts.length).map (λi=>(ts.map bS).getD i .non)=(jK ts).map bS:=by unfold jK;rw[WC];refine XF λi c=>?_;have c:i<ts.length:=Xn.mp ((jY _ _).mem_iff.mp c);simp[Xx,c]
 rw[d]
theorem Tv(k:Nat){w h:Int}(hw:1<=w/\w<=6)(c:1<=h/\h<=6){ms:List ((Int×Int)×Str)}(b:(bK w h).find? (c7 (aM ms))=b3)(a:Hm)(Q:jz)(H:∀μ',a<+:μ'->Q (.non,μ')):W (f (k+6) "check_corners" [SH w h ms] a) Q:=by refine bU (R0 (k+5) _ a) (aY (aP rfl (Tu k hw c ms _ _ λμ' d=>?_)));rw[b];exact w_mIfS.mpr (bX (aZ rfl rfl (w_isnotNN.mpr ⟨_,rfl,(if_neg Wj).mpr (w_mNext.mpr (H _ d))⟩)))
inductive TzI (ms:List ((Int×Int)×Str))(w h:Int)(l:Nat)(ν:Hm):Nat->aH->Hm->Prop
 |mk {i:Nat}{x:Option D}{μ:Hm}(p:ν<+:μ)(g:μ[l]?=b0 (.lst ((((bK w h).take i).flatMap (fK (aM ms))).map bS))):TzI ms w h l ν i [b0 (SH w h ms),b0 (.loc l),x] μ
theorem Tw{w h:Int}(hw:1<=w/\w<=6)(c:1<=h/\h<=6):(bK w h).length<=1000:=by have a:=uZ (w:=w) (h:=h) (by lia) (by lia);have b:=Yk cT (cI w h);unfold bK;lia
theorem Tx(k:Nat){w h:Int}(hw:1<=w/\w<=6)(p:1<=h/\h<=6){ms:List ((Int×Int)×Str)}(E:(bK w h).find? (c7 (aM ms))=b3)(G:(fC (aM ms) w h).length<64)(o:Hm)(Q:jz)(H:∀l μ',o<+:μ'->o.length<=l->μ'[l]?=b0 (.lst ((jK (fC (aM ms) w h)).map bS))->Q (.loc l,μ')):W (f (k+7) "ties" [SH w h ms] o) Q:=by
 refine bU (Se (k+6) _ o) (k6 (aP rfl (Tv k hw p E _ _ λb r=>aY (w_mLst.mpr ⟨_,rfl,Yi _,dC (w_mForI.mpr (w_iSeq.mpr (aP rfl (AY (k+4) hw p _ _ λa K s c=>(c3 c).mpr ?_))))⟩))));have I:=r.trans (aU b (C.lst []));have hc:=Tw hw p;have j:a≠b.length\/bK w h=[]:=by
  by_cases z:a=b.length
  .right;have J:=aJ s (bC b (C.lst []));rw[z,J]at c;injection c with c;injection c with c;exact List.map_eq_nil_iff.mp c.symm
  .exact .inl z
 refine gM (xs:=(bK w h).map PP) (λi x μ'=>TzI ms w h b.length b i x μ'/\μ'[a]?=b0 (.lst ((bK w h).map PP))) ⟨.mk ((aU _ _).trans s) (aJ s (bC _ _)),c⟩ (by rintro _ _ _ ⟨_,g⟩;exact g) ?_ ?_
 .rintro i d M v hd ⟨⟨n,e⟩,B⟩;obtain⟨z,q,rfl⟩:=k8 hd;refine⟨_,rfl,w_mDrop.mpr (eF ⟨_,rfl,dX e,aW (aP rfl (Tt k w h ms z _ _ λl L u A=>⟨_,rfl,?_⟩))⟩)⟩;have y:=aJ u e;have N:=mN (AX (aM ms)) ((bK w h).take i);have O:=AX (aM ms) z;have R:=List.length_take_le i (bK w h);have T:=a3h i (bK w h);refine(uS y A (by rw[V7,V7,Wv];lia)).mpr ⟨.mk (dJ (n.trans u) (Wh _) _) ?_,?_⟩
  .rw[cN y,YQ,q];simp
  .rcases j with j|j
   .rw[Wu (Xh j)];exact aJ u B
   .rw[j]at q;cases q
 .rintro M v ⟨⟨n,e⟩,_⟩;rw[V7,W9]at e;exact⟨rfl,bW (aP rfl (bA (Gh (ts:=fC (aM ms) w h) e G) (H _ _ ((r.trans n).trans (aU _ _)) (W7 r.length_le n.length_le) (bC _ _))))⟩
theorem Gi{s t:MT}{b c:Bool}{d:aH}{a:Hm}(e:s d a=b0 (b,a))(g:t d a=b0 (c,a)):fP s t d a=b0 (b&&c,a):=bD (w_mAndT.mpr ⟨_,e,by
 cases b with
 |true=>exact(if_pos rfl).mpr ⟨_,g,rfl⟩
 |false=>exact(if_neg Wj).mpr rfl⟩)
theorem Tz{d0:Option D}{a:Nat}{x y:Int}{L:jq}{b:Hm}(g:b[a]?=b0 (.lst (L.map PP)))(d:L.length<1000){R:Fl×aH×Hm->Prop}(H:R (.nx,[d0,b0 (.loc a),b0 (.int x),b0 (.int y)],b.set a (.lst ((L++[(x,y)].filter cT).map PP)))):W (Ao [d0,b0 (.loc a),b0 (.int x),b0 (.int y)] b) R:=by
 refine w_mIfS.mpr ⟨_,Gi (b:=x%2==0) (c:=x%4==y%4) (by kernel_rfl) (by kernel_rfl),?_⟩;have e:(x%2==0&&x%4==y%4)=cT (x,y):=rfl;rw[e];cases c:cT (x,y)with
 |true=>rw[a2B c,a4C,WE]at H;exact(if_pos rfl).mpr (w_mDrop.mpr (eF ⟨_,rfl,dX g,aW ⟨_,rfl,_,rfl,(fS g (by rw[V7,Wv];lia)).mpr H⟩⟩))|false=>rw[a2C (by rw[c];exact Wj),a4C,XG,pE g]at H;exact(if_neg Wj).mpr (w_mNext.mpr H)
inductive RoI (d0:Option D)(a:Nat)(F:Nat->jq)(x:Option D)(ν:Hm):Nat->aH->Hm->Prop
 |mk {i:Nat}{o:Option D}{μ:Hm}(e:μ=ν.set a (.lst ((F i).map PP))):RoI d0 a F x ν i [d0,b0 (.loc a),x,o] μ
inductive RuI (d0:Option D)(a:Nat)(F:Nat->jq)(ν:Hm):Nat->aH->Hm->Prop
 |mk {i:Nat}{o o':Option D}{μ:Hm}(e:μ=ν.set a (.lst ((F i).map PP))):RuI d0 a F ν i [d0,b0 (.loc a),o,o'] μ
theorem set_two'{ν:Hm}{a:Nat}{x y:C}:(ν.set a x).set a y=ν.set a y:=by simp
theorem Gj(k:Nat){w h:Int}(hw:1<=w/\w<=6)(p:1<=h/\h<=6)(ms:List ((Int×Int)×Str))(a:Hm)(Q:jz)(H:Q (.loc a.length,a++[.lst ((bK w h).map PP)])):W (f (k+1) "_law_inner" [SH w h ms] a) Q:=by
 have fin:∀w∈[(1:Int),2,3,4,5,6],∀h∈[(1:Int),2,3,4,5,6],(kE 1 (4*w-1).toNat (4*h-1).toNat).filter cT=bK w h:=by decide +kernel
 have e:∀{z:Int},1<=z/\z<=6->z∈[(1:Int),2,3,4,5,6]:=λ{z} u=>by
  have:z=1\/z=2\/z=3\/z=4\/z=5\/z=6:=by lia
  simpa using this
 rw[<- fin w (e hw) h (e p)]at H;refine bU (SK k _ a) (aY (w_mLst.mpr ⟨_,rfl,Yi _,dC (w_mForI.mpr (w_iRng2.mpr (aW ⟨_,rfl,aW (aN ⟨_,rfl,aZ rfl rfl (w_it30.mpr (w_mul4.mpr ⟨_,rfl,⟨by lia,by lia,by lia⟩,?_⟩))⟩)⟩)))⟩));have sz:(4*h-1).toNat<=23/\(4*w-1).toNat<=23:=by lia
 generalize(4*w-1).toNat=n at H sz;generalize hm:(4*h-1).toNat=m at H sz;refine j9 (RuI (b0 (SH w h ms)) a.length (λi=>(kE 1 i m).filter cT) (a++[C.lst []])) (.mk (pE (bC _ _)).symm) ?_ ?_
 .rintro i d b r ⟨rfl⟩;refine⟨_,rfl,w_mForI.mpr (w_iRng2.mpr (aW ⟨_,rfl,aW (aN ⟨_,rfl,aZ rfl rfl (w_it31.mpr (w_mul4.mpr ⟨_,rfl,⟨by lia,by lia,by lia⟩,?_⟩))⟩)⟩))⟩;rw[hm];refine j9 (b:=Ao) (RoI (b0 (SH w h ms)) a.length (λj=>(kE 1 i m).filter cT++(jJ 1 (1+(i:Int)) j).filter cT) (b0 (.int (1+(i:Int)))) (a++[C.lst []])) (.mk (by show _=_;simp[jJ])) ?_ ?_
  .rintro j d c s ⟨rfl⟩;have o:=cN (c':=C.lst (((kE 1 i m).filter cT++(jJ 1 (1+(i:Int)) j).filter cT).map PP)) (bC a (C.lst []));have g:=Yk cT (kE 1 i m);have l:=Yk cT (jJ 1 (1+(i:Int)) j);rw[F3]at g;rw[F2]at l;have q:=a4W (show i<=23 by lia) (show m<=23 by lia);refine⟨_,rfl,Tz o (by rw[Wo];lia) (.mk ?_)⟩;rw[set_two',Tc,YT,Yr]
  .rintro d c ⟨rfl⟩;refine .mk ?_;rw[F1,YT]
 .rintro d b ⟨rfl⟩;refine⟨rfl,bW ⟨_,rfl,?_⟩⟩;rw[F5];exact H
theorem AZ{b:Bool}{c:Hm}{a:Nat}{ps:jq}{q:Int×Int}{Q:jz}(h:c[a]?=b0 (.lst (ps.map PP))):W (cM b (PP q) (.loc a) c) Q↔Q (.bl (if b then !(ps.any λp=>p==q)else ps.any λp=>p==q),c):=by
 have e:cM b (PP q) (.loc a) c=b0 (.bl (if b then !(ps.any λp=>p==q)else ps.any λp=>p==q),c):=by
  simp only[cM,h];unfold kR;have e:bM c (.loc a)=b0 (ps.map PP):=by simp only[bM,h]
  rw[e];show(iO c (PP q) (ps.map PP)).map _=_;rw[F0];rfl
 rw[e];exact W_some
noncomputable def nI:D->Int
 |.int i=>i|_=>0
theorem TB{z:Int×Int}(h:cT z=b5):z.1%4=0\/z.1%4=2:=by
 unfold cT at h;have:z.1%2=0:=by simpa using(YJ.mp h).1
 lia
section
variable{μ:Hm}{a0 a3 a4 a5 a6 a7:Option D}{z:Int×Int}
theorem TC(hz:cT z=b5){s:Nat}(g:μ[s]?=b0 (.lst (E8.map PP))){R:Fl×aH×Hm->Prop}(H:∀s μ',μ<+:μ'->μ'[s]?=b0 (.lst ((bT z.1).map PP))->R (.nx,[a0,b0 (PP z),b0 (.loc s),a3,a4,a5,a6,a7],μ')) :
  W (bB (aQ (aC (aT b4) (aC aV (aC aE (aA 1) (mC (.int 0))) (mC (.int 4))) (mC (.int 2)))) (aL 2 (eB (oT (aB (mC (.int 1)) (aB (mC (.int 8)) (aB (mC (.int 2)) aD)))) eI (aC aE (aA 2) (aA 8)))) bF [a0,b0 (PP z),b0 (.loc s),a3,a4,a5,a6,a7] μ) R:=by
 refine w_mIfS.mpr ⟨(z.1%4==2,μ),by kernel_rfl,?_⟩;rcases TB hz with e|e
 .rw[e];refine(if_neg (show ¬ ((0:Int)==2)=b5 by decide)).mpr (w_mNext.mpr (H s μ (Wr _) ?_));unfold bT;rw[if_pos e];exact g
 .rw[e];refine(if_pos rfl).mpr (w_mSet.mpr (fJ (xs:=[.int 1,.int 3,.int 5,.int 7]) (p:=λ_=>b5) (v:=λd=>PP (E8.getD (nI d).toNat (0,0))) (RA ⟨_,rfl,1,8,2,rfl,by decide,λμ' i _=>?_,rfl,by decide,λd μ' hd a=>w_mTrue.mpr ⟨rfl,Wr _⟩,λd μ' hd _ a=>?_,λμ' a b=>H _ _ a ?_⟩)))
  .match i with
   |0=>rfl|1=>rfl|2=>rfl|3=>rfl|n+4=>rfl
  .have c:d=.int 1\/d=.int 3\/d=.int 5\/d=.int 7:=by simpa using hd
   rcases c with rfl|rfl|rfl|rfl<;>exact aZ rfl rfl ((eK (aJ a g) rfl).mpr ⟨rfl,Wr _⟩)
  .rw[b];unfold bT;rw[if_neg (by lia)];rfl
theorem TF{l:jq}(e:l.length<=63){s:Nat}(g:μ[s]?=b0 (.lst (l.map PP))){Q:jz}(H:∀b μ',μ<+:μ'->μ'[b]?=b0 (.lst ((mv z.1 z.2 l).map PP))->Q (.loc b,μ')) :
  W (eZ (i9 2) (bV (aA 2)) eI (aX (aB (aC bI (aC aE (aA 1) (mC (.int 0))) (aA 8)) (aB (aC bI (aC aE (aA 1) (mC (.int 1))) (aA 9)) aD))) [a0,b0 (PP z),b0 (.loc s),a3,a4,a5,a6,a7] μ) Q:=by
 refine rL (xs:=l.map PP) (x:=λd=>[b0 (.int (dY d).1),b0 (.int (dY d).2)]) (p:=λ_=>b5) (v:=λd=>PP (z.1+(dY d).1,z.2+(dY d).2)) (w_iSeq.mpr ⟨_,rfl,(c3 g).mpr ⟨hX g,rfl,by rw[V7,Wv];lia,λd μ' hd=>?_,λd μ' hd a=>w_mTrue.mpr ⟨rfl,Wr _⟩,λd μ' hd _ a=>?_,λμ' a c=>H _ _ a ?_⟩⟩)
 .obtain⟨u,v,rfl⟩:=mK hd;rfl
 .obtain⟨u,v,rfl⟩:=mK hd;exact⟨(PP (z.1+u,z.2+v),μ'),by kernel_rfl,rfl,Wr _⟩
 .rw[c,YN.mpr (λ_ _=>rfl),WC];unfold mv;rw[WC];rfl
theorem TH{es ps:jq}{a c:Nat}(r:es.length<=8)(g:μ[a]?=b0 (.lst (es.map PP)))(n:μ[c]?=b0 (.lst (ps.map PP))){Q:jz}(H:∀b μ',μ<+:μ'->μ'[b]?=b0 (.lst ((cH (es.map λq=>ps.any λp=>p==q)).map D.int))->Q (.loc b,μ')) :
  W (eB (fZ (aB (aF bL (aB (aA 4) aD)) aD)) (aQ (aC (cM b4) (aC aE (aA 4) (aA 8)) (aA 0))) (aA 8) [b0 (.loc c),b0 (PP z),a3,a5,b0 (.loc a),a6,a7,a0] μ) Q:=by
 have l:bL [.loc a] μ=b0 (.int (es.length:Nat),μ):=bD ((dN g).mpr (by rw[V7]));refine fJ (xs:=hZ 0 es.length) (p:=λd=>(es.map λq=>ps.any λp=>p==q).getD (nI d).toNat b4) (v:=λd=>d) ((mI (j:=0)).mpr (aW (aP rfl (bA l ⟨_,rfl,⟨by lia,by lia⟩,?_⟩))));dsimp only;rw[Yh];refine⟨Fg,by unfold hZ;rw[V7,Xy],by unfold hZ;rw[V7,Xy,Wv];lia,λd μ' hd e=>?_,λd μ' hd _ e=>⟨_,rfl,rfl,Wr _⟩,λμ' e o=>H _ _ e ?_⟩
 .obtain⟨i,h,rfl⟩:=Wz.mp hd;have h:=Xn.mp h;rw[Zl];refine bX (aN (aZ rfl rfl ⟨_,fU (aJ e g) h,_,rfl,(AZ (aJ e n)).mpr ⟨_,rfl,?_,Wr _⟩⟩));show _=(es.map λq=>ps.any λp=>p==q).getD ((i:Int)).toNat b4;rw[Yh];simp[Xx,h]
 .rw[o];unfold hZ cH;rw[Zu,WC,WC,V7];have j:((λd:D=>d)∘λ(i:Nat)=>D.int (0+(i:Int)))=D.int∘λ(i:Nat)=>(i:Int):=by funext i;simp
  have k:((λd:D=>(es.map λq=>ps.any λp=>p==q).getD (nI d).toNat b4)∘λ(i:Nat)=>D.int (0+(i:Int)))=λ(i:Nat)=>(es.map λq=>ps.any λp=>p==q).getD i false:=by funext i;simp[nI]
  rw[j,k]
end
noncomputable def iC(bs:List Bool):List Int:=(WR (cH bs).length).map λk=>((((cH bs).getD ((k+1)%(cH bs).length) 0-(cH bs).getD k 0-1)%(bs.length:Int))+1)*(8/(bs.length:Int))
theorem TJ:∀a b c d e g h i:Bool,iC [a,b,c,d,e,g,h,i]=eW [a,b,c,d,e,g,h,i]:=by decide +kernel
theorem TK:∀a b c d:Bool,iC [a,b,c,d]=eW [a,b,c,d]:=by decide +kernel
theorem TL(m:Int×Int->Bool)(x y:Int):iC ((mv x y (bT x)).map m)=eW ((mv x y (bT x)).map m):=by
 unfold bT mv;split
 .exact TJ ..
 .exact TK ..
theorem TM{es:jq}(m:Int×Int->Bool):(cH (es.map m)).map (λi=>es.getD i.toNat (0,0))=es.filter m:=by
 unfold cH;rw[WC,V7];induction es with
 |nil=>rfl|cons e es b=>
  rw[WO,a0s,YS,Zu];have c:((λi=>((e::es).map m).getD i b4)∘Nat.succ)=λi=>(es.map m).getD i false:=by funext i;simp
  rw[c];cases a:m e with
  |true=>simp only[WA,a3u,a,if_true,a2B];rw[WC,<- b];rfl|false=>simp only[WA,a3u,a,WQ,if_false];rw[a2C (by rw[a];exact Wj),WC,<- b];rfl
theorem rR{b:Hm}{a:Nat}{gs:List Int}(g:b[a]?=b0 (.lst (gs.map D.int))){i:Nat}(h:i<gs.length):aE (.loc a) (.int (i:Int)) b=b0 (.int (gs.getD i 0),b):=bD ((eK g (mM (rQ h))).mpr rfl)
theorem TN{e:Hm}{a b c:Nat}{n:Nat}(s:n=8\/n=4){es:List D}(q:es.length=n){d gs:List Int}{k:Nat}(r:k<d.length)(p:e[a]?=b0 (.lst es))(g:e[b]?=b0 (.lst (d.map D.int)))(j:e[c]?=b0 (.lst (gs.map D.int)))(y:gs.length<=100){d0 d1 d2 x:Option D}{R:Fl×aH×Hm->Prop}
  (H:∀x,R (.nx,[d0,d1,d2,b0 (.int (k:Int)),b0 (.loc a),b0 (.loc b),b0 (.loc c),x],e.set c (.lst ((gs++[(((d.getD ((k+1)%d.length) 0-d.getD k 0-1)%(n:Int))+1)*(8/(n:Int))]).map D.int)))) :
  W (Ap [d0,d1,d2,b0 (.int (k:Int)),b0 (.loc a),b0 (.loc b),b0 (.loc c),x] e) R:=by
 have u:(k+1)%d.length<d.length:=Zc _ (by lia);have o:bL [.loc b] e=b0 (.int (d.length:Nat),e):=bD ((dN g).mpr (by rw[V7]));have i:bL [.loc a] e=b0 (.int (n:Nat),e):=bD ((dN p).mpr (by rw[q]));have l:aE (.loc b) (.int (((k:Int)+1)%(d.length:Nat))) e=b0 (.int (d.getD ((k+1)%d.length) 0),e):=by rw[u6];exact rR g u
 have h:(0:Int)<(n:Int):=by lia
 refine aY (aN (aN (aN (aN (aN ⟨_,rfl,aN (aZ rfl rfl (w_addI.mpr (aP rfl (bA o ((cZ (by lia)).mpr ⟨_,l,aZ rfl rfl ⟨_,rR g r,w_subI.mpr ⟨_,rfl,w_subI.mpr (aP rfl (bA i ((cZ h).mpr ⟨_,rfl,w_addI.mpr ?_⟩)))⟩⟩⟩)))))⟩)))));have v:=Zz (d.getD ((k+1)%d.length) 0-d.getD k 0-1) (show(n:Int)≠0 by lia);have w:=YV (d.getD ((k+1)%d.length) 0-d.getD k 0-1) h;rw[WE]at H;refine w_mDrop.mpr (eF ⟨_,rfl,dX j,aW (aN ⟨_,rfl,aN ⟨_,rfl,aP rfl (bA i ((rK h ?_).mpr ((kZ (.inl (by lia))).mpr ⟨_,rfl,(fS j (by rw[V7,Wv];lia)).mpr (H _)⟩)))⟩⟩)⟩);rcases s with rfl|rfl<;>decide
inductive RaI (d0 d1 d2:Option D)(a b c:Nat)(ν:Hm)(F:Nat->List Int):Nat->aH->Hm->Prop
 |mk {i:Nat}{x y:Option D}{μ:Hm}(p:ν<+:μ)(g:μ[c]?=b0 (.lst ((F i).map D.int))):RaI d0 d1 d2 a b c ν F i [d0,d1,d2,x,b0 (.loc a),b0 (.loc b),b0 (.loc c),y] μ
theorem Gk(k:Nat){ms:List ((Int×Int)×Str)}{c:Nat}{z:Int×Int}(hz:cT z=b5){n:Hm}(R:n[c]?=b0 (.lst ((ms.map (·.1)).map PP)))(Q:jz)(H:∀a b μ',n<+:μ'->μ'[a]?=b0 (.lst ((bH (aM ms) z).map PP))->μ'[b]?=b0 (.lst ((bY (aM ms) z).map D.int))->Q (.tup [.loc a,.loc b],μ')):W (f (k+1) "_law_round_a" [.loc c,PP z] n) Q:=by
 have v:(mv z.1 z.2 (bT z.1)).length=8\/(mv z.1 z.2 (bT z.1)).length=4:=by have:=u5 z.1;unfold mv;rw[V7];exact this
 refine bU (SJ k _ _ n) ?_;refine aY (bA (r:=(.loc n.length,n++[.lst (E8.map PP)])) (by kernel_rfl) ?_);refine dC ?_;refine TC (s:=n.length) hz (bC _ _) λs μ1 Y O=>⟨rfl,?_⟩;refine aY ?_;refine TF (by have:=u5 z.1;lia) O λa μ2 Z E=>?_;refine aY ?_;have J:=(aU n (C.lst (E8.map PP))).trans (Y.trans Z);refine TH (by lia) E (aJ J R) λb g I p=>?_;refine aY (bA (r:=(.loc g.length,g++[C.lst []])) rfl ?_);refine dC (w_mForI.mpr ?_);replace p:g[b]?=b0 (.lst ((cH ((mv z.1 z.2 (bT z.1)).map (aM ms))).map D.int)):=p;have o:=aJ I E;generalize hbs:(mv z.1 z.2 (bT z.1)).map (aM ms)=bs at p;have G:bs.length=(mv z.1 z.2 (bT z.1)).length:=by rw[<- hbs,V7]
 have B:iC bs=bY (aM ms) z:=by rw[<- hbs];exact TL _ _ _
 have hx:(cH bs).length<=8:=by
  have h1:=kF (aM ms) z;have h2:=pF (aM ms) z;have T:(iC bs).length=(cH bs).length:=by unfold iC;rw[V7,Xy]
  rw[B]at T;lia
 have gB:=aJ (aU g (C.lst [])) p;have gA:=aJ (aU g (C.lst [])) o;have M:bL [.loc b] (g++[C.lst []])=b0 (.int ((cH bs).length:Nat),g++[C.lst []]):=bD ((dN gB).mpr (by rw[V7]));refine(mI (j:=0)).mpr (aW (aP rfl (bA M ⟨_,rfl,⟨by lia,by lia⟩,?_⟩)));dsimp only;rw[Yh];refine j9 (b:=Ap) (RaI (b0 (.loc c)) (b0 (PP z)) (b0 (.loc s)) a b g.length g (λi=>(iC bs).take i)) (.mk (aU _ _) (by rw[XJ];exact bC _ _)) ?_ ?_
 .rintro i A y r ⟨h,q⟩;refine⟨_,rfl,?_⟩;rw[Zl];have K:(iC bs).take (i+1)=(iC bs).take i++[(((cH bs).getD ((i+1)%(cH bs).length) 0-(cH bs).getD i 0-1)%(((mv z.1 z.2 (bT z.1)).length:Nat):Int)+1)*(8/(((mv z.1 z.2 (bT z.1)).length:Nat):Int))]:=by rw[YQ,<- G];unfold iC;rw[Ws,a3t r];rfl
  refine TN (es:=(mv z.1 z.2 (bT z.1)).map PP) v (by rw[V7]) r (aJ h o) (aJ h p) q (by rw[Xa];unfold iC;rw[V7,Xy];lia) λx=>.mk (dJ h (Wh _) _) ?_;rw[cN q,K]
 .rintro A y ⟨h,q⟩;have L:(iC bs).take (cH bs).length=bY (aM ms) z:=by rw[<- B];exact ZK (by unfold iC;rw[V7,Xy];exact Wh _)
  rw[L]at q;refine⟨rfl,bW (w_mTup.mpr (aW (fJ (xs:=(cH bs).map D.int) (p:=λ_=>b5) (v:=λd=>PP ((mv z.1 z.2 (bT z.1)).getD (nI d).toNat (0,0))) (w_iSeq.mpr ⟨_,rfl,(c3 (aJ h p)).mpr ⟨hX (aJ h p),rfl,by rw[V7,Wv];lia,λd μ' hd u=>w_mTrue.mpr ⟨rfl,Wr _⟩,λd μ' hd _ u=>?_,λμ' u U=>⟨_,rfl,jH,H _ _ _ (J.trans (I.trans (h.trans u))) ?_ (aJ u q)⟩⟩⟩))))⟩
  .obtain⟨i,r,rfl⟩:=Wz.mp hd;have w:0<=i/\i.toNat<(mv z.1 z.2 (bT z.1)).length:=by unfold cH at r;obtain⟨j,X,rfl⟩:=Wz.mp r;have:=Xn.mp (Xj.mp X).1;rw[G]at this;exact⟨by lia,by lia⟩
   have N:i=((i.toNat:Nat):Int):=by lia
   refine aZ rfl rfl ⟨(PP ((mv z.1 z.2 (bT z.1)).getD i.toNat (0,0)),μ'),?_,rfl,Wr _⟩;show aE (.loc a) (.int i) μ'=b0 (PP ((mv z.1 z.2 (bT z.1)).getD i.toNat (0,0)),μ');rw[N];exact fU (aJ (h.trans u) o) w.2
  .rw[U,YN.mpr (λ_ _=>rfl),WC];have e:=congrArg (a4G PP) (TM (es:=mv z.1 z.2 (bT z.1)) (aM ms));rw[hbs,WC]at e;exact congrArg (λl=>b0 (C.lst l)) e
theorem Gm{b:Hm}{a:Nat}{cr:jq}(g:b[a]?=b0 (.lst (cr.map PP)))(h:0<cr.length)(i:Nat){c:aH}{v:Nat}(k:aA v c b=b0 (.int (i:Int),b))(d:aA 0 c b=b0 (.loc a,b)):aC aE (aA 0) (aC aV (aA v) (aF bL (aB (aA 0) aD))) c b=b0 (PP (cr.getD (i%cr.length) (0,0)),b):=by
 have e:bL [.loc a] b=b0 (.int (cr.length:Nat),b):=bD ((dN g).mpr (by rw[V7]));have j:((i:Int)%(cr.length:Nat))=((i%cr.length:Nat):Int):=by simp[a4E]
 refine bD (aN ⟨_,d,aN ⟨_,k,eQ (aW ⟨_,d,_,rfl,bA e ((cZ (by lia)).mpr ?_)⟩)⟩⟩);rw[j,fU g (Zc _ h)];exact W_some.mpr rfl
theorem A1(k:Nat){b:Hm}{a:Nat}{cr:jq}(g:b[a]?=b0 (.lst (cr.map PP)))(h:0<cr.length)(i j:Nat)(d:Bool)(c:Int×Int)(Q:jz)(H:Q (bS (fT (cr.getD (i%cr.length) (0,0)) (cr.getD (j%cr.length) (0,0)) d c),b)):W (f (k+1) "_law_tie" [.loc a,.int (i:Int),.int (j:Int),.bl d,PP c] b) Q:=by refine bU (SN k _ _ _ _ _ b) (aY (bA (Gm g h i rfl rfl) (aY (bA (Gm g h j rfl rfl) (bW (w_mTup.mpr (aW (aP rfl (bA (AQ _ _ b) (aW (aP rfl (bA (AR _ _ b) ⟨_,rfl,AS rfl,H⟩))))))))))))
noncomputable def jL(m:Int×Int->Bool)(p:Int×Int)(i:Nat):List Ti:=if 2<(bH m p).length/\iB (bY m p) i=b5 then iU (bH m p) p i else[]
theorem TQ(m:Int×Int->Bool)(p:Int×Int)(i:Nat):(jL m p i).length<=2:=by
 unfold jL iU;split
 .split<;>simp
 .simp
noncomputable def nU(m:Int×Int->Bool)(p:Int×Int):List Ti:=if(bH m p).length=2 then[fT ((bH m p).getD 0 (0,0)) ((bH m p).getD 1 (0,0)) b5 p]else[]
theorem TR(m:Int×Int->Bool)(p:Int×Int):nU m p++(WR (bH m p).length).flatMap (jL m p)=fK m p:=by
 have e:=kF m p;unfold nU fK;by_cases a:(bH m p).length=2
 .rw[if_pos a,if_pos a];have:(WR (bH m p).length).flatMap (jL m p)=[]:=by rw[List.flatMap_eq_nil_iff];intro i _;unfold jL;rw[if_neg (by lia)]
  rw[this,XG]
 .rw[if_neg a,if_neg a,X4];have:∀i∈WR (bH m p).length,jL m p i=gP m p i:=λi d=>by
   have d:=Xn.mp d;unfold jL gP;cases b:iB (bY m p) i with
   |false=>rw[if_neg (by simp),if_neg Wj]|true=>
    have:2<(bH m p).length:=by
     have c:(bH m p).length≠1:=λz=>by
      rw[z]at e d;obtain⟨h,g⟩:=List.length_eq_one_iff.mp e;obtain rfl:i=0:=by lia
      rw[g]at b;unfold iB at b;simp at b
     lia
    rw[if_pos ⟨this,rfl⟩,if_pos rfl]
  unfold a5n;rw[XF this]
theorem Gn(a b:Int)(c:Hm):kW [.int a,.int b] c=b0 (.int (if b<a then b else a),c):=rfl
theorem TU(k:Nat){b:Hm}{a l:Nat}{cr:jq}(g:b[a]?=b0 (.lst (cr.map PP)))(gl:∀{x:C},(b.set l x)[a]?=b[a]?){i:Nat}(q:i<cr.length){c:Int×Int}{T:List Ti}(h:b[l]?=b0 (.lst (T.map bS)))(s:T.length<=2000){d0 d1 d5 j:Option D}{R:Fl×aH×Hm->Prop}
  (H:R (.nx,[d0,d1,b0 (.loc l),b0 (PP c),b0 (.loc a),d5,b0 (.int (i:Int)),j],b.set l (.lst ((T++iU cr c i).map bS)))):W (Ft (k+1) [d0,d1,b0 (.loc l),b0 (PP c),b0 (.loc a),d5,b0 (.int (i:Int)),j] b) R:=by
 have o:0<cr.length:=by lia
 have r:i%cr.length=i:=a0o q;refine k6 (eF ⟨_,rfl,dX h,aW (aP (ds:=[.loc a,.int (i:Int),.int ((i+1:Nat):Int),.bl b4,PP c]) (μ':=b) (by kernel_rfl) (A1 k g o i (i+1) b4 c _ ⟨_,rfl,(fS h (by rw[V7,Wv];lia)).mpr ?_⟩))⟩);rw[r];have n:(b.set l (.lst (T.map bS++[bS (fT (cr.getD i (0,0)) (cr.getD ((i+1)%cr.length) (0,0)) b4 c)])))[a]?=b0 (.lst (cr.map PP)):=gl.trans g;have d:=cN (c':=C.lst (T.map bS++[bS (fT (cr.getD i (0,0)) (cr.getD ((i+1)%cr.length) (0,0)) b4 c)])) h;have p:bL [.loc a] (b.set l (.lst (T.map bS++[bS (fT (cr.getD i (0,0)) (cr.getD ((i+1)%cr.length) (0,0)) b4 c)])))=b0 (.int (cr.length:Nat),_):=bD ((dN n).mpr (by rw[V7]));refine w_mIfS.mpr (bX (aN (aP rfl (bA p ⟨_,rfl,w_eqI.mpr ⟨_,rfl,?_⟩⟩))));unfold iU at H;by_cases e:cr.length=4
 .rw[if_pos e]at H;rw[show(((cr.length:Nat):Int)==4)=b5 by rw[e];rfl];refine(if_pos rfl).mpr (w_mDrop.mpr (eF ⟨_,rfl,dX d,aW (aP (ds:=[.loc a,.int ((i+2:Nat):Int),.int ((i+3:Nat):Int),.bl b5,PP c]) (μ':=b.set l (.lst (T.map bS++[bS (fT (cr.getD i (0,0)) (cr.getD ((i+1)%cr.length) (0,0)) b4 c)]))) (by kernel_rfl) (A1 k n o (i+2) (i+3) b5 c _ ⟨_,rfl,(fS d (by rw[Wo,V7,Wv];simp;lia)).mpr ?_⟩))⟩));rw[set_two',e];rw[WE,e]at H;rw[Yr];exact H
 .rw[if_neg e,WE]at H;rw[show(((cr.length:Nat):Int)==4)=b4 from beq_eq_false_iff_ne.mpr (by lia)];exact(if_neg Wj).mpr (w_mNext.mpr H)
theorem TV(g a b:Int):decide (g<if b<a then b else a)=(decide (g<a)&&decide (g<b)):=by rw[ZW,Wl,decide_eq_true_eq,decide_eq_true_eq,decide_eq_true_eq];split<;>lia
theorem TX(k:Nat){c:Hm}{a b l:Nat}{m:Int×Int->Bool}{p:Int×Int}(g:c[a]?=b0 (.lst ((bH m p).map PP)))(d:c[b]?=b0 (.lst ((bY m p).map D.int)))(gl:∀{x:C},(c.set l x)[a]?=c[a]?){i:Nat}(u:i<(bH m p).length){T:List Ti}(h:c[l]?=b0 (.lst (T.map bS)))(q:T.length<=2000){d0 d1 j:Option D}{R:Fl×aH×Hm->Prop}
  (H:∀x,R (.nx,[d0,d1,b0 (.loc l),b0 (PP p),b0 (.loc a),b0 (.loc b),b0 (.int (i:Int)),x],c.set l (.lst ((T++jL m p i).map bS)))):W (Aq (k+1) [d0,d1,b0 (.loc l),b0 (PP p),b0 (.loc a),b0 (.loc b),b0 (.int (i:Int)),j] c) R:=by
 have v:=kF m p;have w:(i+((bY m p).length-1))%(bY m p).length<(bY m p).length:=Zc _ (by lia);have y:(i+1)%(bY m p).length<(bY m p).length:=Zc _ (by lia);have e:bL [.loc a] c=b0 (.int ((bH m p).length:Nat),c):=bD ((dN g).mpr (by rw[V7]));have n:aE (.loc b) (.int ((i:Int)-1)) c=b0 (.int ((bY m p).getD ((i+((bY m p).length-1))%(bY m p).length) 0),c):=bD ((eK d (by
  rw[AV (by rw[V7];lia),V7];exact rQ w)).mpr rfl)
 have o:aE (.loc b) (.int (((i:Int)+1)%((bH m p).length:Nat))) c=b0 (.int ((bY m p).getD ((i+1)%(bY m p).length) 0),c):=by rw[u6,<- v];exact rR d y
 refine aY (eQ (aW (aN ⟨_,rfl,aZ rfl rfl (w_subI.mpr ⟨_,n,aW (aN ⟨_,rfl,aN (aZ rfl rfl (w_addI.mpr (aP rfl (bA e ((cZ (by lia)).mpr ⟨_,o,_,rfl,bA (Gn _ _ c) ?_⟩)))))⟩)⟩)⟩)));refine w_mIfS.mpr ⟨_,Gi (b:=decide (((bH m p).length:Int)>2)) (c:=iB (bY m p) i) (bD (bX (aN (aP rfl (bA e ⟨_,rfl,w_gtI.mpr ⟨_,rfl,rfl⟩⟩))))) (bD (bX (aN (aZ rfl rfl ⟨_,rR d (by lia),_,rfl,w_ltI.mpr ⟨_,rfl,?_⟩⟩)))),?_⟩
 .rw[TV];rfl
 .have H:=H;unfold jL at H;by_cases hc:2<(bH m p).length/\iB (bY m p) i=b5
  .rw[hc.2,decide_eq_true (show((bH m p).length:Int)>2 by lia)];rw[if_pos hc]at H;exact(if_pos rfl).mpr (TU k g gl u h q (H _))
  .have s:(decide (((bH m p).length:Int)>2)&&iB (bY m p) i)=false:=by
    cases r:iB (bY m p) i with
    |false=>exact a2g _|true=>rw[r]at hc;rw[decide_eq_false (show ¬ ((bH m p).length:Int)>2 from λz=>hc ⟨by lia,rfl⟩)];rfl
   rw[s];rw[if_neg hc,XG,pE h]at H;exact(if_neg Wj).mpr (w_mNext.mpr (H _))
noncomputable def Kp(l:Nat)(a μ':Hm):Prop:=∀j y,j≠l->a[j]?=b0 y->μ'[j]?=b0 y
theorem Kp.pre{l:Nat}{a μ':Hm}(p:a<+:μ'):Kp l a μ':=λ_ _ _ h=>aJ p h
theorem Kp.trans{l:Nat}{c μ' μ2:Hm}(a:Kp l c μ')(b:Kp l μ' μ2):Kp l c μ2:=λj y n h=>b j y n (a j y n h)
theorem Kp.set{l:Nat}{a:Hm}{x:C}:Kp l a (a.set l x):=λj y n h=>by rw[Wu (Xh n)];exact h
theorem Kp.all{l:Nat}{ν b μ':Hm}(a:Kp l b μ')(p:ν<+:b)(h:ν.length<=l):ν<+:μ':=by refine List.prefix_iff_getElem?.mpr λi c=>?_;exact a i _ (by lia) (aJ p (Wi c))
theorem Gp{b:Hm}{a l:Nat}{cr:jq}{T:List Ti}(g:b[a]?=b0 (.lst (cr.map PP)))(c:b[l]?=b0 (.lst (T.map bS)))(h:0<cr.length):a≠l:=λe=>by
 rw[e,c]at g;have g:=C.lst.inj (Wt g);cases cr with
 |nil=>simp at h|cons q cr=>
  cases T with
  |nil=>cases g|cons t T=>have:=a2A g;cases this
theorem Gq{b:Hm}{a l:Nat}{gs:List Int}{T:List Ti}(g:b[a]?=b0 (.lst (gs.map D.int)))(c:b[l]?=b0 (.lst (T.map bS)))(h:0<gs.length):a≠l:=λe=>by
 rw[e,c]at g;have g:=C.lst.inj (Wt g);cases gs with
 |nil=>simp at h|cons q d=>
  cases T with
  |nil=>cases g|cons t T=>have:=a2A g;cases this
inductive LkI (d0 d1:Option D)(l a b:Nat)(ν:Hm)(m:Int×Int->Bool)(p:Int×Int)(T:List Ti):Nat->aH->Hm->Prop
 |mk {i:Nat}{x y:Option D}{μ:Hm}(kp:Kp l ν μ)(gl:μ[l]?=b0 (.lst ((T++(WR i).flatMap (jL m p)).map bS))):LkI d0 d1 l a b ν m p T i [d0,d1,b0 (.loc l),b0 (PP p),b0 (.loc a),b0 (.loc b),x,y] μ
theorem Gs(k:Nat){c:Hm}{a b l:Nat}{m:Int×Int->Bool}{p:Int×Int}(g:c[a]?=b0 (.lst ((bH m p).map PP)))(q:c[b]?=b0 (.lst ((bY m p).map D.int))){T:List Ti}(j:c[l]?=b0 (.lst (T.map bS)))(B:T.length<=1900){d0 d1 d6 u:Option D}{R:Fl×aH×Hm->Prop}
  (H:∀x y d,Kp l c d->d[l]?=b0 (.lst ((T++(WR (bH m p).length).flatMap (jL m p)).map bS))->R (.nx,[d0,d1,b0 (.loc l),b0 (PP p),b0 (.loc a),b0 (.loc b),x,y],d)):W (b8 (fZ (aB (aF bL (aB (aA 4) aD)) aD)) (cE 6) (Aq (k+1)) [d0,d1,b0 (.loc l),b0 (PP p),b0 (.loc a),b0 (.loc b),d6,u] c) R:=by
 have v:bL [.loc a] c=b0 (.int ((bH m p).length:Nat),c):=bD ((dN g).mpr (by rw[V7]));have A:=pF m p;have E:=kF m p;refine w_mForI.mpr ((mI (j:=0)).mpr (aW (aP rfl (bA v ⟨_,rfl,⟨by lia,by lia⟩,?_⟩))));dsimp only;rw[Yh];refine j9 (LkI d0 d1 l a b c m p T) (.mk (λ_ _ _ h=>h) (by simpa using j)) ?_ ?_
 .rintro i o n w ⟨e,gl⟩;refine⟨_,rfl,?_⟩;rw[Zl];have r:=Gp g j (by lia);have z:=Gq q j (by lia);have s:=mN (TQ m p) (WR i);rw[Xy]at s;refine TX k (e _ _ r g) (e _ _ z q) (λ{x}=>Wu (Xh r)) w gl (by rw[Wo];lia) λx=>.mk (e.trans .set) ?_;rw[cN gl,Zs,YM];simp
 .rintro o n ⟨e,gl⟩;exact H _ _ _ e gl
theorem TY(k:Nat){n:Hm}{c l:Nat}{ms:List ((Int×Int)×Str)}{p:Int×Int}(hz:cT p=b5)(G:n[c]?=b0 (.lst ((ms.map (·.1)).map PP))){T:List Ti}(E:n[l]?=b0 (.lst (T.map bS)))(O:T.length<=1800){d0 w d5 d6 v:Option D}{R:Fl×aH×Hm->Prop}
  (H:∀K L M N h,Kp l n h->h[l]?=b0 (.lst ((T++fK (aM ms) p).map bS))->R (.nx,[d0,b0 (.loc c),b0 (.loc l),b0 (PP p),K,L,M,N],h)):W (Ar (k+1) [d0,b0 (.loc c),b0 (.loc l),b0 (PP p),w,d5,d6,v] n) R:=by
 refine w_mSeq.mpr (w_mAsg.mpr (aP rfl (Gk k hz G _ λa b g s i q=>?_)));have d:=aJ s E;have A:bL [.loc a] g=b0 (.int ((bH (aM ms) p).length:Nat),g):=bD ((dN i).mpr (by rw[V7]));have fin:=TR (aM ms) p;refine⟨[d0,b0 (.loc c),b0 (.loc l),b0 (PP p),b0 (.loc a),b0 (.loc b),d6,v],rfl,f7 (b:=(((bH (aM ms) p).length:Nat):Int)==2) (μ':=g) (bD (bX (aN (aP rfl (bA A ⟨_,rfl,w_eqI.mpr ⟨_,rfl,rfl⟩⟩))))) (λe=>?_) λe=>cX ?_⟩
 .have e:(bH (aM ms) p).length=2:=by have:=beq_iff_eq.mp e;lia
  have I:=Gp i d (by lia);have Q:=kF (aM ms) p;have J:=Gq q d (by lia);refine k6 (eF ⟨_,rfl,dX d,aW (aP (ds:=[.loc a,.int ((0:Nat):Int),.int ((1:Nat):Int),.bl b5,PP p]) (μ':=g) (by kernel_rfl) (A1 k i (by lia) 0 1 b5 p _ ⟨_,rfl,(fS d (by rw[V7,Wv];lia)).mpr ?_⟩))⟩);have j:nU (aM ms) p=[fT ((bH (aM ms) p).getD (0%(bH (aM ms) p).length) (0,0)) ((bH (aM ms) p).getD (1%(bH (aM ms) p).length) (0,0)) b5 p]:=by unfold nU;rw[if_pos e,e]
  have B:=cN (c':=C.lst (T.map bS++[bS (fT ((bH (aM ms) p).getD (0%(bH (aM ms) p).length) (0,0)) ((bH (aM ms) p).getD (1%(bH (aM ms) p).length) (0,0)) b5 p)])) d;refine Gs k (T:=T++nU (aM ms) p) (Kp.set _ _ I i) (Kp.set _ _ J q) (by rw[B,j,WE];rfl) (by rw[j,Wo];simp;lia) λx y u r o=>H _ _ _ _ _ ((Kp.pre s).trans (Kp.set.trans r)) ?_;rw[o,Yr,fin]
 .have e:¬ (bH (aM ms) p).length=2:=λz=>by rw[z]at e;cases e
  refine Gs k i q d (by lia) λx y u r o=>H _ _ _ _ _ ((Kp.pre s).trans r) ?_;have j:nU (aM ms) p=[]:=by unfold nU;rw[if_neg e]
  rw[j,X4]at fin;rw[o,fin]
theorem Gu{k:aH}{v:Nat}{w h:Int}{ms:List ((Int×Int)×Str)}{g:Hm}(l:aA 0 k g=b0 (SH w h ms,g))(p:∀e s μ',aA v (k++[b0 (PP e),b0 (.str s)]) μ'=b0 (PP e,μ'))(q:ms.length<=1000){Q:jz}(H:∀c μ',g<+:μ'->μ'[c]?=b0 (.lst ((ms.map (·.1)).map PP))->g.length<=c->Q (.loc c,μ')):W (eZ (i9 2) (bV (aC aE (aA 0) (mC (.int 2)))) eI (aA v) k g) Q:=by
 refine rL (xs:=ms.map MD) (x:=λd=>match d with|.tup [a,b]=>[b0 a,b0 b]|_=>[]) (p:=λ_=>b5) (v:=λd=>match d with|.tup [a,_]=>a|_=>.non) (w_iSeq.mpr (aZ l rfl (w_it32.mpr ⟨_,rfl,λμ' i j=>rfl,rfl,by rw[V7,Wv];lia,λd μ' hd=>?_,λd μ' hd j=>w_mTrue.mpr ⟨rfl,Wr _⟩,λd μ' hd _ j=>?_,λμ' j o=>H _ _ j ?_ (Wh _)⟩)))
 .obtain⟨e,n,rfl⟩:=Wz.mp hd;rfl
 .obtain⟨e,n,rfl⟩:=Wz.mp hd;exact⟨_,p e.1 e.2 μ',rfl,Wr _⟩
 .rw[o,YN.mpr (λ_ _=>rfl),WC,WC];rfl
inductive LtI (w h:Int)(ms:List ((Int×Int)×Str))(c l:Nat)(ν:Hm):Nat->aH->Hm->Prop
 |mk {i:Nat}{x3 x4 x5 x6 x7:Option D}{μ:Hm}(kp:Kp l ν μ)(g:μ[l]?=b0 (.lst ((((bK w h).take i).flatMap (fK (aM ms))).map bS))):LtI w h ms c l ν i [b0 (SH w h ms),b0 (.loc c),b0 (.loc l),x3,x4,x5,x6,x7] μ
theorem TZ:∀w∈[(1:Int),2,3,4,5,6],∀h∈[(1:Int),2,3,4,5,6],(bK w h).length<=61:=by decide +kernel
theorem Gv{z:Int}(hz:1<=z/\z<=6):z∈[(1:Int),2,3,4,5,6]:=by
 have:z=1\/z=2\/z=3\/z=4\/z=5\/z=6:=by lia
 simpa using this
theorem T1(k:Nat){w h:Int}(hw:1<=w/\w<=6)(u:1<=h/\h<=6){ms:List ((Int×Int)×Str)}(A:ms.length<=1000)(B:(fC (aM ms) w h).length<64)(g:Hm)(Q:jz)(H:∀l μ',g<+:μ'->g.length<=l->μ'[l]?=b0 (.lst ((jK (fC (aM ms) w h)).map bS))->Q (.loc l,μ')):W (f (k+2) "_law_ties" [SH w h ms] g) Q:=by
 refine bU (SO (k+1) _ g) ?_;refine aY (Gu rfl (λ_ _ _=>rfl) A λc a n q hc=>?_);refine aY (bA (r:=(.loc a.length,a++[C.lst []])) rfl ?_);refine dC (w_mForI.mpr (w_iSeq.mpr (aP rfl (Gj k hw u ms _ _ ((c3 (bC _ _)).mpr ?_)))));have r:=aJ ((aU a (C.lst [])).trans (aU _ (C.lst ((bK w h).map PP)))) q;have gl:=aJ (aU (a++[C.lst []]) (C.lst ((bK w h).map PP))) (bC a (C.lst []));have s:=bC (a++[C.lst []]) (C.lst ((bK w h).map PP));have o:=n.trans ((aU a (C.lst [])).trans (aU _ (C.lst ((bK w h).map PP))));have x:=TZ w (Gv hw) h (Gv u);have cl:c<a.length:=(Wa.mp q).1;generalize(a++[C.lst []])++[C.lst ((bK w h).map PP)]=μ2 at r gl s o ⊢;have nl:(a++[C.lst []]).length≠a.length:=by rw[Wo];simp
 refine gM (b:=Ar (k+1)) (LtI w h ms c a.length μ2) (.mk (λ_ _ _ h=>h) gl) (by rintro _ _ _ ⟨b,_⟩;exact b _ _ nl s) ?_ ?_
 .rintro i d G p hd ⟨b,e⟩;obtain⟨z,v,rfl⟩:=k8 hd;have I:=mN (AX (aM ms)) ((bK w h).take i);have J:=a3h i (bK w h);refine⟨_,rfl,TY k (Xj.mp (WS v)).2 (b _ _ (by lia) r) e (by lia) λ_ _ _ _ E j y=>.mk (b.trans j) ?_⟩;rw[y,YQ,v];simp
 .rintro G p ⟨b,e⟩;rw[V7,W9]at e;exact⟨rfl,bW (aP rfl (bA (Gh (ts:=fC (aM ms) w h) e B) (H _ _ ((b.all o (n.length_le)).trans (aU _ _)) (b.all o (n.length_le)).length_le (bC _ _))))⟩
noncomputable def u7:D->Int
 |.tup [.int i,.int g]=>g*(1-2*(i%2))|_=>0
noncomputable def A2(gs:List Int):Int:=((iS 0 (gs.map D.int)).map u7).sum
noncomputable def u9(gs:List Int):Bool:=(gs.length:Int)%2==1||!(A2 gs==0)
theorem T2:∀a b c d e g h i:Bool,u9 (eW [a,b,c,d,e,g,h,i])=!(fB (eW [a,b,c,d,e,g,h,i])):=by decide +kernel
theorem T3:∀a b c d:Bool,u9 (eW [a,b,c,d])=!(fB (eW [a,b,c,d])):=by decide +kernel
theorem T4(m:Int×Int->Bool)(p:Int×Int):u9 (bY m p)=c7 m p:=by
 unfold c7 bY bT mv;split
 .exact T2 ..
 .exact T3 ..
noncomputable def T5:D->aH
 |.tup [a,b]=>[b0 a,b0 b]|_=>[]
theorem T6{l:aH}{a:Nat}{gs:List Int}{h:Hm}(o:aA 3 l h=b0 (.loc a,h))(k:∃x y z t,l=[x,y,z,t])(g:h[a]?=b0 (.lst (gs.map D.int)))(s:gs.length<=8)(p:∀x∈gs,-100<=x/\x<=100){Q:jz}(H:∀μ',h<+:μ'->Q (.int (A2 gs),μ')) :
  W (aF kU (aB (eZ (i9 2) (nE (aB (aA 3) aD)) eI (aC cF (aA 5) (aC cQ (mC (.int 1)) (aC cF (mC (.int 2)) (aC aV (aA 4) (mC (.int 2))))))) aD) l h) Q:=by
 obtain⟨x,y,z,t,rfl⟩:=k;refine S3 (rL (xs:=iS 0 (gs.map D.int)) (x:=T5) (p:=λ_=>b5) (v:=λd=>.int (u7 d)) (Fn (aW ⟨_,o,_,rfl,a,_,rfl,g,Rq g,by rw[Al],by rw[Al,V7,Wv];lia,λd μ' hd=>?_,λd μ' hd j=>w_mTrue.mpr ⟨rfl,Wr _⟩,λd μ' hd _ j=>?_,λμ' j b=>?_⟩)))
 .obtain⟨i,c⟩:=a3i hd;rw[uV]at c;obtain⟨e,_,rfl⟩:=Wb.mp c;rfl
 .obtain⟨i,c⟩:=a3i hd;rw[uV]at c;obtain⟨e,n,rfl⟩:=Wb.mp c;rw[Ws]at n;obtain⟨v,q,rfl⟩:=Wb.mp n;have r:=p v (WS q);exact aN ⟨_,rfl,aN ⟨_,rfl,aN ⟨_,rfl,aZ rfl rfl (w_mod2.mpr (w_mul2.mpr (w_subI.mpr ((kZ (.inl (by lia))).mpr ⟨rfl,Wr _⟩))))⟩⟩⟩
 .rw[YN.mpr (λ_ _=>rfl)]at b;have e:(iS 0 (gs.map D.int)).map (λd=>D.int (u7 d))=((iS 0 (gs.map D.int)).map u7).map D.int:=by rw[WC];rfl
  rw[e]at b;exact(Ak b).mpr (H _ j)
theorem T7:∀a b c d e g h i:Bool,∀x∈eW [a,b,c,d,e,g,h,i],-100<=x/\x<=100:=by decide +kernel
theorem T8:∀a b c d:Bool,∀x∈eW [a,b,c,d],-100<=x/\x<=100:=by decide +kernel
theorem T9(m:Int×Int->Bool)(p:Int×Int):∀x∈bY m p,-100<=x/\x<=100:=by
 unfold bY bT mv;split
 .exact T7 _ _ _ _ _ _ _ _
 .exact T8 _ _ _ _
theorem Ua(k:Nat){g:Hm}{c:Nat}{ms:List ((Int×Int)×Str)}{p:Int×Int}(hz:cT p=b5)(s:g[c]?=b0 (.lst ((ms.map (·.1)).map PP))){d0 x:Option D}{R:Fl×aH×Hm->Prop}(i:c7 (aM ms) p=b5->∀x μ',g<+:μ'->R (.rt (PP p),[d0,b0 (.loc c),b0 (PP p),x],μ'))(q:c7 (aM ms) p=b4->∀x μ',g<+:μ'->R (.nx,[d0,b0 (.loc c),b0 (PP p),x],μ')):W (Au (k+1) [d0,b0 (.loc c),b0 (PP p),x] g) R:=by
 refine aY (aN (aP rfl (Gk k hz s _ λa b e h _ j=>⟨_,rfl,w_it21.mpr ?_⟩)));have w:=kF (aM ms) p;have v:=pF (aM ms) p;have r:bL [.loc b] e=b0 (.int ((bY (aM ms) p).length:Nat),e):=bD ((dN j).mpr (by rw[V7]));have d:=T4 (aM ms) p;unfold u9 at d;refine w_mIfS.mpr (w_mOrT.mpr ⟨_,bD (r:=(((bY (aM ms) p).length:Int)%2==1,e)) (bX (aN (aN (aP rfl (bA r ⟨_,rfl,w_mod2.mpr ⟨_,rfl,w_eqI.mpr ⟨_,rfl,rfl⟩⟩⟩))))),?_⟩);cases l:((bY (aM ms) p).length:Int)%2==1 with
 |true=>rw[l,Bool.true_or]at d;exact(if_pos rfl).mpr ((if_pos rfl).mpr (w_mRet.mpr ⟨_,rfl,i d.symm _ _ h⟩))|false=>
  rw[l,a4Y]at d;refine(if_neg Wj).mpr (bX (aN (T6 rfl ⟨_,_,_,_,rfl⟩ j (by lia) (T9 _ _) λu o=>⟨_,rfl,w_neI.mpr ⟨_,rfl,?_⟩⟩)));cases n:A2 (bY (aM ms) p)==0 with
  |true=>rw[n]at d;exact(if_neg Wj).mpr (w_mNext.mpr (q d.symm _ _ (h.trans o)))|false=>rw[n]at d;exact(if_pos rfl).mpr (w_mRet.mpr ⟨_,rfl,i d.symm _ _ (h.trans o)⟩)
inductive LbI (w h:Int)(ms:List ((Int×Int)×Str))(c:Nat)(ν:Hm):Nat->aH->Hm->Prop
 |mk {i:Nat}{x y:Option D}{μ:Hm}(p:ν<+:μ)(ok:∀z∈(bK w h).take i,c7 (aM ms) z=b4):LbI w h ms c ν i [b0 (SH w h ms),b0 (.loc c),x,y] μ
theorem Gw(k:Nat){w h:Int}(hw:1<=w/\w<=6)(A:1<=h/\h<=6){ms:List ((Int×Int)×Str)}(B:ms.length<=1000)(o:Hm)(Q:jz)(H:∀μ',o<+:μ'->Q (Ge ((bK w h).find? (c7 (aM ms))),μ')):W (f (k+2) "_law_barred" [SH w h ms] o) Q:=by
 refine bU (SM (k+1) _ o) ?_;refine aY (Gu rfl (λ_ _ _=>rfl) B λc a G v hc=>?_);refine w_mSeq.mpr (w_mForI.mpr (w_iSeq.mpr (aP rfl (Gj k hw A ms _ _ ((c3 (bC _ _)).mpr ?_)))));have s:=aJ (aU a (C.lst ((bK w h).map PP))) v;have u:=bC a (C.lst ((bK w h).map PP));have n:=G.trans (aU a (C.lst ((bK w h).map PP)));generalize a++[C.lst ((bK w h).map PP)]=μ2 at s u n ⊢;refine gM (b:=Au (k+1)) (LbI w h ms c μ2) (.mk (Wr _) λz b=>by simp at b) (by rintro _ _ _ ⟨p,_⟩;exact aJ p u) ?_ ?_
 .rintro i d I q hd ⟨g,ok⟩;obtain⟨z,b,rfl⟩:=k8 hd;refine⟨_,rfl,Ua k (Xj.mp (WS b)).2 (aJ g s) (λj x r l=>?_) λj x r l=>.mk (g.trans l) (Gf ok b j)⟩;have e:=Gb (q:=c7 (aM ms)) (Gd b) ok j;rw[e]at H;exact H _ (n.trans (g.trans l))
 .rintro I q ⟨g,ok⟩;rw[V7,W9]at ok;have e:(bK w h).find? (c7 (aM ms))=none:=Yx.mpr λy E=>by rw[ok y E];exact Wj
  rw[e]at H;exact bW ⟨_,rfl,H _ (n.trans g)⟩
noncomputable def cU(ns:List Int)(i:Int):Int:=if i<ns.length then ns.getD i.toNat 0 else 0
theorem nV(k:Nat)(ns:List Int){i:Int}(b:0<=i)(a:Hm)(Q:jz)(H:Q (.int (cU ns i),a)):W (f (k+1) "_law_nth" [.rol (ns.map D.int),.int i] a) Q:=by
 refine bU (Sw k _ _ a) (bW (w_mIfE.mpr ⟨_,bD (r:=(decide (i<ns.length),a)) (bX (aN ⟨_,rfl,aP rfl (w_lenR.mpr (w_ltI.mpr ⟨_,rfl,by rw[V7]⟩))⟩)),?_⟩));unfold cU at H;by_cases h:i<ns.length
 .rw[if_pos h]at H;rw[decide_eq_true h];exact(if_pos rfl).mpr (aZ rfl rfl ((S6 (S5 b h)).mpr H))
 .rw[if_neg h]at H;rw[decide_eq_false h];exact(if_neg Wj).mpr ⟨_,rfl,H⟩
theorem Gx:∀(l:jq)(i:Nat),(l.map PP).eraseIdx i=(l.eraseIdx i).map PP
 |[],_=>rfl|_::_,0=>rfl|x::l,i+1=>by show PP x::(l.map PP).eraseIdx i=PP x::(l.eraseIdx i).map PP;rw[Gx l i]
theorem Ub{h:Hm}{a:Nat}{ps:jq}{q:Int×Int}{Q:jz}(g:h[a]?=b0 (.lst (ps.map PP)))(i:q∈ps)(j:ps.length<=1000)(H:∀d:jq,d.Sublist ps->d.length<ps.length->Q (.non,h.set a (.lst (d.map PP)))):W (o3 (.loc a) [PP q] h) Q:=by
 have b:(ps.map λp=>p==q).findIdx id<(ps.map λp=>p==q).length:=List.findIdx_lt_length_of_exists ⟨b5,Wz.mpr ⟨q,i,beq_self_eq_true q⟩,rfl⟩;have c:(ps.map λp=>p==q).findIdx id<ps.length:=by rw[V7]at b;exact b
 refine⟨_,by simp only[o3,g,AL,WH];rw[if_pos ⟨b,by rw[V7,Wv];lia⟩],?_⟩;have e:(ps.map PP).eraseIdx ((ps.map λp=>p==q).findIdx id)=(ps.eraseIdx ((ps.map λp=>p==q).findIdx id)).map PP:=Gx _ _;rw[e];exact H _ (List.eraseIdx_sublist ..) (by rw[List.length_eraseIdx_of_lt c];lia)
noncomputable def Uc(w h:Int)(p:Int×Int):Bool:=decide (0<p.1)&&decide (p.1<4*w)&&decide (0<p.2)&&decide (p.2<4*h)&&(p.1%2==1&&p.2%2==1||p.1%2==0&&(p.2%2==0&&!(p.1%4==p.2%4)))
noncomputable def sqA:jq:=[(6,4),(8,6),(6,8),(4,6),(3,3),(1,1),(3,5),(1,7),(7,3),(5,1),(9,3),(11,1)]
noncomputable def sqB:jq:=[(9,7),(11,5),(9,9),(11,11),(5,9),(7,11),(3,9),(1,11)]
theorem Ud(k:Nat)(a:Hm)(Q:jz)(H:∀l μ',a<+:μ'->a.length<=l->μ'[l]?=b0 (.lst ((sqA++sqB).map PP))->Q (.loc l,μ')):W (f (k+1) "_law_square" [] a) Q:=by refine bU (SF k a) (aY (bA (r:=(.loc a.length,a++[.lst (sqA.map PP)])) (by kernel_rfl) (bW (aN ⟨_,rfl,bA (r:=(.loc (a++[C.lst (sqA.map PP)]).length,(a++[.lst (sqA.map PP)])++[.lst (sqB.map PP)])) (by kernel_rfl) ((Fi (aJ (aU _ _) (bC _ _)) (bC _ _) (by decide)).mpr ?_)⟩))));refine H _ _ ((aU _ _).trans ((aU _ _).trans (aU _ _))) (by rw[Wo,Wo];lia) ?_;rw[WE];exact bC _ _
theorem sq_ok:(sqA++sqB).Nodup/\∀p∈sqA++sqB,Uc 3 3 p=true:=by decide
structure Ly where
 a:Int
 b:Int
 c:Int
 d:Int
 e:Int
 g:Int
 deriving DecidableEq
noncomputable abbrev LD(A:Ly):D:=.tup [.int A.a,.int A.b,.int A.c,.int A.d,.int A.e,.int A.g]
noncomputable def Dih(A:Ly):Prop:=(A.b=0/\A.c=0/\(A.a=1\/A.a=-1)/\(A.d=1\/A.d=-1))\/(A.a=0/\A.d=0/\(A.b=1\/A.b=-1)/\(A.c=1\/A.c=-1))
theorem Dih.sm{A:Ly}(h:Dih A):(-1<=A.a/\A.a<=1)/\(-1<=A.b/\A.b<=1)/\(-1<=A.c/\A.c<=1)/\(-1<=A.d/\A.d<=1):=by unfold Dih at h;lia
noncomputable def c8(A:Ly)(p:Int×Int):Int×Int:=(A.a*p.1+A.b*p.2+A.e,A.c*p.1+A.d*p.2+A.g)
noncomputable def pG(A B:Ly):Ly:=⟨B.a*A.a+B.b*A.c,B.a*A.b+B.b*A.d,B.c*A.a+B.d*A.c,B.c*A.b+B.d*A.d,B.a*A.e+B.b*A.g+B.e,B.c*A.e+B.d*A.g+B.g⟩
noncomputable def A3:Ly:=⟨1,0,0,1,0,0⟩
noncomputable def rS(e:Int×Int):Ly:=
 ⟨(iA (1,0) e).1-(iA (0,0) e).1,(iA (0,1) e).1-(iA (0,0) e).1,(iA (1,0) e).2-(iA (0,0) e).2,(iA (0,1) e).2-(iA (0,0) e).2,(iA (0,0) e).1,(iA (0,0) e).2⟩
theorem Ly.ext'{A B:Ly}(h1:A.a=B.a)(a:A.b=B.b)(b:A.c=B.c)(c:A.d=B.d)(d:A.e=B.e)(e:A.g=B.g):A=B:=by cases A;cases B;simp_all
theorem Gy(e:Int×Int):Dih (rS e):=by obtain⟨x,y⟩:=e;unfold Dih rS iA;dsimp only;split<;>split<;>dsimp only<;>lia
theorem Ue:Dih A3:=.inl ⟨rfl,rfl,.inl rfl,.inl rfl⟩
theorem mO{x y:Int}(a:x=1\/x=-1)(b:y=1\/y=-1):x*y=1\/x*y=-1:=by rcases a with rfl|rfl<;>rcases b with rfl|rfl<;>decide
theorem Ug{A B:Ly}(hA:Dih A)(hB:Dih B):Dih (pG A B):=by
 unfold Dih pG;dsimp only;rcases hA with⟨c,d,a,b⟩|⟨c,d,a,b⟩<;>rcases hB with⟨k1,k2,k3,k4⟩|⟨k1,k2,k3,k4⟩<;>rw[c,d,k1,k2]<;>simp only[Int.mul_zero,Int.zero_mul,Int.add_zero,Zl,true_and]
 .exact .inl ⟨mO k3 a,mO k4 b⟩
 .exact .inr ⟨mO k3 b,mO k4 a⟩
 .exact .inr ⟨mO k3 a,mO k4 b⟩
 .exact .inl ⟨mO k3 b,mO k4 a⟩
theorem Uh{a b c d e g:D}:([a,b,c,d,e,g]:List D).length<=Wq:=by show(6:Nat)<=Wq;decide
theorem Gz(k:Nat)(p q r:Int×Int)(a:Hm)(Q:jz):W (f (k+1) "laying_by" [PP p,PP q,PP r] a) Q↔Q (LD ⟨q.1-p.1,r.1-p.1,q.2-p.2,r.2-p.2,p.1,p.2⟩,a):=by rw[Sq,W_fin];simp only[w_mRet,w_mTup,w_mCons,dM,w_mOp,cA,c6,dW,o7,w_it21,w_subI,Uh,true_and]
theorem Ui(k:Nat)(x y:Int)(a:Hm)(Q:jz):W (f (k+3) "mirror_in" [P x y] a) Q↔Q (LD (rS (x,y)),a):=by rw[Ss,W_fin];simp only[w_mRet,w_mCall,w_mCons,dM,w_mTup,cA,dW,jH,true_and,S4,Gz];rfl
theorem vA{i j:Int}(h:-1<=i/\i<=1){a:Hm}{Q:jz}:W (cF (.int i) (.int j) a) Q↔Q (.int (i*j),a):=kZ (.inl ⟨by lia,by lia⟩)
theorem vB(k:Nat)(A:Ly)(hA:Dih A)(x y:Int)(a:Hm)(Q:jz):W (f (k+1) "led" [LD A,P x y] a) Q↔Q (PP (c8 A (x,y)),a):=by obtain⟨b,c,d,e⟩:=hA.sm;rw[Su,W_fin];simp only[w_mSeq,w_mSet,w_mRet,w_mTup,w_mCons,dM,w_mOp,cA,c6,dW,o7,w_it21,Rf,Rg,Rh,Ri,Rj,Rk,XU,X5,vA b,vA c,vA d,vA e,w_addI,jH,true_and];rfl
theorem Uj(k:Nat)(A B:Ly)(hA:Dih A)(hB:Dih B)(a:Hm)(Q:jz):W (f (k+2) "then" [LD A,LD B] a) Q↔Q (LD (pG A B),a):=by
 rw[Sv,W_fin];simp only[w_mRet,w_mCall,w_mCons,dM,w_mTup,cA,c6,dW,jH,true_and,vB _ A hA,vB _ B hB,Gz];have e:(⟨(c8 B (c8 A (1,0))).1-(c8 B (c8 A (0,0))).1,(c8 B (c8 A (0,1))).1-(c8 B (c8 A (0,0))).1,(c8 B (c8 A (1,0))).2-(c8 B (c8 A (0,0))).2,(c8 B (c8 A (0,1))).2-(c8 B (c8 A (0,0))).2,(c8 B (c8 A (0,0))).1,(c8 B (c8 A (0,0))).2⟩:Ly)=pG A B:=by unfold c8 pG;refine Ly.ext' ?_ ?_ ?_ ?_ ?_ ?_<;>dsimp only<;>grind
 rw[<- e]
noncomputable def vC(n:Int):Int:=if 0<n then 1 else if n<0 then -1 else 0
theorem Uk(k:Nat)(x y a b:Int)(d:Hm)(Q:jz):W (f (k+2) "hand_of" [P x y,P a b] d) Q↔Q (.int (vC (jI a b x y-jI a b a b)),d):=by
 rw[RL,W_fin];simp only[w_mSeq,w_mRet,w_mNext,w_mIfS,w_mIfE,w_mSet,w_mCall,w_mCons,dM,w_mOp,dW,cA,c6,w_mTest,Q8,w_subI,w_gtI,w_ltI,FQ,FR,XU,X5];generalize jI a b x y-jI a b a b=n;unfold vC;by_cases c:0<n
 .simp[c]
 .by_cases e:n<0<;>simp[c,e]
theorem A4{l:jx}(nd:(l.map (·.1)).Nodup){k:List Int}{d:D}(h:(k,d)∈l):a8 l k=b0 d:=by
 induction l with
 |nil=>cases h|cons p l a=>
  rw[WA,Xi]at nd;unfold a8;rw[Xr];rcases WW.mp h with h|h
  .rw[<- h];simp
  .have:decide (p.1=k)=false:=decide_eq_false λz=>nd.1 (Wz.mpr ⟨_,h,z.symm⟩);rw[this];exact a nd.2 h
theorem iV{p q:Int×Int}(h:a9 p=a9 q):p=q:=by unfold a9 at h;injection h with h1 h2;injection h2 with h2;exact YO h1 h2
theorem gQ{a:Type}{l:List a}{n:Nat}{x:a}(h:l[n]?=b0 x):l.take (n+1)=l.take n++[x]:=by rw[List.take_add_one,h];rfl
theorem nW{c:Type}{l:List c}(nd:l.Nodup){n:Nat}{x:c}(h:l[n]?=b0 x):x∉l.take n:=λg=>by
 obtain⟨j,a⟩:=YZ.mp g;have b:j<n:=by have:=(Wa.mp a).1;rw[Xa]at this;lia
 rw[a2w b]at a;have i:n<l.length:=(Wa.mp h).1;have d:=(Wa.mp a).2;have e:=(Wa.mp h).2;exact absurd ((a4n nd).mp (d.trans e.symm)) (by lia)
noncomputable abbrev cC(v:Int×Int->D)(ps:jq):jx:=ps.map λp=>(a9 p,v p)
theorem k9{v:Int×Int->D}{ps:jq}(nd:ps.Nodup){p:Int×Int}(h:p∈ps):a8 (cC v ps) (a9 p)=b0 (v p):=by refine A4 ?_ (Wz.mpr ⟨p,h,rfl⟩);rw[WC];exact a0x _ (λa b c x=>c (iV x)) nd
theorem Ul{v:Int×Int->D}{ps:jq}{p:Int×Int}(h:p∉ps):a8 (cC v ps) (a9 p)=none:=by
 unfold a8;rw[Yx.mpr]
 .rfl
 .intro x a;obtain⟨z,b,rfl⟩:=Wz.mp a;rw[decide_eq_true_iff];exact λe=>h (iV e▸b)
theorem A5{v:Int×Int->D}{ps:jq}{p:Int×Int}(h:p∉ps):b9 (cC v ps) (a9 p) (v p)=cC v (ps++[p]):=by unfold b9;rw[Ul h,if_neg (by simp)];show _=a4G _ _;rw[WE];rfl
theorem Um{m:ME}{c:aH}{b:Hm}{Q:fH×Nat×Hm->Prop}(h:W (m c b) λp=>∃a kvs,p.1=.loc a/\p.2[a]?=b0 (.dT kvs)/\Q (dS (.tup (j6 kvs)),kvs.length+1,p.2.set a (.dF kvs))):W (qP m c b) Q:=by unfold qP;rw[W_bind];refine bO h λp ⟨a,kvs,e,g,q⟩=>?_;rw[e];dsimp only;rw[g];exact W_some.mpr q
theorem Uo{xs:List D}{g:MG}{b:MS}{c:aH}{a:Hm}{Q:Fl×aH×Hm->Prop}(I:Nat->aH->Hm->Prop)(l:I 0 c a)
  (go:∀i d c a,xs[i]?=b0 d->I i c a->∃h,g d c a=b0 h/\W (b h a) λp=>match p.1 with|.nx=>I (i+1) p.2.1 p.2.2|.ct=>I (i+1) p.2.1 p.2.2|.bk=>Q (.nx,p.2.1,p.2.2)|.rt d=>Q (.rt d,p.2.1,p.2.2))
  (j:∀c a,I xs.length c a->Q (.nx,c,a)):W (eU (dS (.tup xs)) g b (xs.length+1) 0 c a) Q:=by
 refine nP (N:=xs.length) I (λi c a q k=>?_) (λc a k=>⟨?_,j c a k⟩) xs.length 0 c a (by lia) l
 .have e:xs[i]?=b0 xs[i]:=Wi q;obtain⟨h,n,o⟩:=go i _ c a e k;exact⟨xs[i],h,by show b0 xs[i]?=_;rw[e],n,o⟩
 .show b0 xs[xs.length]?=_;rw[YA (Wh _)]
noncomputable def mP(e:Int×Int)(hd:Int)(F:Int×Int->Ly)(q:Int×Int):Ly:=if vC (jI e.1 e.2 (c8 (F q) q).1 (c8 (F q) q).2-jI e.1 e.2 e.1 e.2)==hd then pG (F q) (rS e)else F q
theorem Up(k:Nat){F:Int×Int->Ly}(d:∀q,Dih (F q)){e q:Int×Int}{hd:Int}{c:Option D}{l:Nat}{b:Hm}{R:Fl×aH×Hm->Prop}(H:W (oR (.loc l) (PP q) (LD (mP e hd F q)) b) λμ'=>∀x,R (.nx,[c,b0 (PP e),b0 (.int hd),b0 (.loc l),b0 (PP q),x],μ')):W (Av (k+3) [c,b0 (PP e),b0 (.int hd),b0 (.loc l),b0 (PP q),b0 (LD (F q))] b) R:=by
 refine f7 (b:=vC (jI e.1 e.2 (c8 (F q) q).1 (c8 (F q) q).2-jI e.1 e.2 e.1 e.2)==hd) (μ':=b) (bD (bX (aN (eQ (aW (aP rfl ((vB (k+2) (F q) (d q) q.1 q.2 _ _).mpr ⟨_,rfl,(Uk (k+1) _ _ _ _ _ _).mpr ⟨_,rfl,w_eqI.mpr ⟨_,rfl,rfl⟩⟩⟩))))))) (λa=>?_) λa=>?_
 .unfold mP at H;rw[if_pos a]at H;exact aY (eQ (aW ⟨_,rfl,aW (aP rfl ((Ui k e.1 e.2 _ _).mpr ⟨_,rfl,(Uj (k+1) (F q) (rS e) (d q) (Gy e) _ _).mpr (w_mPut.mpr ⟨_,rfl,_,rfl,_,rfl,bO H λμ' z=>z _⟩)⟩))⟩))
 .unfold mP at H;rw[if_neg (by rw[a];exact Wj)]at H;exact cX (w_mPut.mpr ⟨_,rfl,_,rfl,_,rfl,bO H λμ' z=>z _⟩)
inductive FoI (a:Nat)(e:Int×Int)(hd:Int)(l:Nat)(ν:Hm)(V:Int×Int->D)(qs:jq):Nat->aH->Hm->Prop
 |mk {i:Nat}{x y:Option D}{μ:Hm}(kp:Kp l ν μ)(g:μ[l]?=b0 (.dT (cC V (qs.take i)))):FoI a e hd l ν V qs i [b0 (.loc a),b0 (PP e),b0 (.int hd),b0 (.loc l),x,y] μ
theorem Uq(k:Nat){F:Int×Int->Ly}(A:∀q,Dih (F q)){b:jq}(nd:b.Nodup)(I:b.length<=200){a:Nat}(e:Int×Int)(hd:Int){c:Hm}(g:c[a]?=b0 (.dT (cC (λq=>LD (F q)) b)))(Q:jz)(H:∀l μ',Kp a c μ'->c.length<=l->μ'[l]?=b0 (.dT (cC (λq=>LD (mP e hd F q)) b))->Q (.loc l,μ')):W (f (k+4) "_law_folded" [.loc a,PP e,.int hd] c) Q:=by
 have la:a<c.length:=(Wa.mp g).1;refine bU (Sx (k+3) _ _ _ c) (aY (w_mDNewT.mpr (dC (w_mForI.mpr (Um ⟨_,rfl,a,_,rfl,aJ (aU _ _) g,?_⟩)))));have gl:((c++[C.dT []]).set a (.dF (cC (λq=>LD (F q)) b)))[c.length]?=b0 (.dT []):=by rw[Wu (by lia)];exact bC _ _
 have w:Kp a c ((c++[C.dT []]).set a (.dF (cC (λq=>LD (F q)) b))):=(Kp.pre (aU _ _)).trans .set;generalize(c++[C.dT []]).set a (.dF (cC (λq=>LD (F q)) b))=ν at gl w ⊢;have B:j6 (cC (λq=>LD (F q)) b)=b.map λq=>.tup [PP q,LD (F q)]:=by unfold j6;rw[WC];rfl
 rw[B];have r:(cC (λq=>LD (F q)) b).length=(b.map λq=>D.tup [PP q,LD (F q)]).length:=by rw[V7,V7]
 rw[r];refine Uo (b:=Av (k+3)) (FoI a e hd c.length ν (λq=>LD (mP e hd F q)) b) (.mk (λ_ _ _ h=>h) (by rw[XJ];exact gl)) ?_ ?_
 .rintro i d G u p ⟨s,o⟩;rw[Ws]at p;obtain⟨q,v,rfl⟩:=Wb.mp p;have E:=nW nd v;refine⟨_,rfl,Up k A ((mJ o (cB q) (by rw[V7,Xa,Wv];lia)).mpr λx=>.mk (s.trans .set) ?_)⟩;rw[cN o,A5 (v:=λq=>LD (mP e hd F q)) E,gQ v]
 .rintro G u ⟨s,o⟩;rw[V7,W9]at o;exact⟨rfl,bW ⟨_,rfl,H _ _ (λj y n h=>s j y (λz=>by have:=(Wa.mp h).1;lia) (w j y n h)) (Wh _) o⟩⟩
theorem Ur{e:Int×Int}{hd:Int}{F:Int×Int->Ly}(a:∀q,Dih (F q)):∀q,Dih (mP e hd F q):=λq=>by
 unfold mP;split
 .exact Ug (a q) (Gy e)
 .exact a q
noncomputable def dG(p:Int×Int):Bool:=if p.1%2==1 then p.2%2==1 else p.2%2==0&&!(p.1%4==p.2%4)
noncomputable def iW(p:Int×Int):Bool:=if p.1%2==1 then p.2%4==2 else p.1%4==2&&p.2%2==1
theorem lE{g:aH}{e:Hm}{a b:ME}{c d:Bool}(h:a g e=b0 (.bl c,e))(i:b g e=b0 (.bl d,e)):dZ a b g e=b0 (.bl (c&&d),e):=bD (w_mAndV.mpr ⟨_,h,by
 cases c with
 |true=>exact(if_pos rfl).mpr ⟨_,i,rfl⟩
 |false=>exact(if_neg Wj).mpr rfl⟩)
theorem GA(k:Nat)(p:Int×Int)(a:Hm)(Q:jz)(H:Q (.bl (dG p),a)):W (f (k+1) "is_edge" [PP p] a) Q:=by
 unfold dG at H;refine bU (RD k _ a) (f7 (b:=p.1%2==1) (μ':=a) (by kernel_rfl) (λh=>gO (bA (r:=(.bl (p.2%2==1),a)) (by kernel_rfl) ?_)) λh=>cX (bW (bA (lE (c:=p.2%2==0) (d:=!(p.1%4==p.2%4)) (by kernel_rfl) (by kernel_rfl)) ?_)))
 .rw[h]at H;exact H
 .rw[h]at H;exact H
theorem GB(k:Nat)(p:Int×Int)(a:Hm)(Q:jz)(H:Q (.bl (iW p),a)):W (f (k+1) "is_quarter" [PP p] a) Q:=by
 unfold iW at H;refine bU (RE k _ a) (f7 (b:=p.1%2==1) (μ':=a) (by kernel_rfl) (λh=>gO (bA (r:=(.bl (p.2%4==2),a)) (by kernel_rfl) ?_)) λh=>cX (bW (bA (lE (c:=p.1%4==2) (d:=p.2%2==1) (by kernel_rfl) (by kernel_rfl)) ?_)))
 .rw[h]at H;exact H
 .rw[h]at H;exact H
theorem GC(k:Nat){w h:Int}(hw:1<=w/\w<=6)(l:1<=h/\h<=6)(c:Hm)(Q:jz)(H:∀a μ',c<+:μ'->μ'[a]?=b0 (.lst (((cI w h).filter dG).map PP))->Q (.loc a,μ')):W (f (k+2) "edges_in" [.int w,.int h] c) Q:=by
 refine bU (RS (k+1) _ _ c) (bW (fJ (xs:=(cI w h).map PP) (p:=λd=>dG (dY d)) (v:=λd=>d) (w_iSeq.mpr (aP rfl (AJ _ w h (by lia) (by lia) _ _ λa j i e n=>?_)))));refine(c3 e).mpr ⟨hX e,rfl,?_,λd μ' hd b=>?_,λd μ' hd _ b=>⟨_,rfl,rfl,Wr _⟩,λμ' b g=>?_⟩
 .have:=uZ (w:=w) (h:=h) (by lia) (by lia);rw[V7,Wv];lia
 .obtain⟨u,v,rfl⟩:=mK hd;exact eS (aP rfl (GA k (u,v) _ _ ⟨rfl,rfl,Wr _⟩))
 .refine H _ _ (i.trans b) ?_;rw[g,o9 dG]
theorem Us(k:Nat){w h:Int}(hw:1<=w/\w<=6)(l:1<=h/\h<=6)(c:Hm)(Q:jz)(H:∀a μ',c<+:μ'->μ'[a]?=b0 (.lst (((cI w h).filter iW).map PP))->Q (.loc a,μ')):W (f (k+2) "quarters_in" [.int w,.int h] c) Q:=by
 refine bU (RR (k+1) _ _ c) (bW (fJ (xs:=(cI w h).map PP) (p:=λd=>iW (dY d)) (v:=λd=>d) (w_iSeq.mpr (aP rfl (AJ _ w h (by lia) (by lia) _ _ λa j i e n=>?_)))));refine(c3 e).mpr ⟨hX e,rfl,?_,λd μ' hd b=>?_,λd μ' hd _ b=>⟨_,rfl,rfl,Wr _⟩,λμ' b g=>?_⟩
 .have:=uZ (w:=w) (h:=h) (by lia) (by lia);rw[V7,Wv];lia
 .obtain⟨u,v,rfl⟩:=mK hd;exact eS (aP rfl (GB k (u,v) _ _ ⟨rfl,rfl,Wr _⟩))
 .refine H _ _ (i.trans b) ?_;rw[g,o9 iW]
noncomputable def A6(e:Int×Int):jq:=[(e.1-1,e.2),(e.1,e.2-1),(e.1,e.2+1),(e.1+1,e.2)]
noncomputable def gR(e:Int×Int):jq:=(A6 e).filter iW
theorem Ut(k:Nat)(e:Int×Int)(a:Hm):f (k+1) "beside" [PP e] a=b0 (.loc a.length,a++[.lst ((A6 e).map PP)]):=(RG k _ a).trans (by kernel_rfl)
theorem A7(k:Nat)(e:Int×Int)(b:Hm)(Q:jz)(H:∀a μ',b<+:μ'->μ'[a]?=b0 (.lst ((gR e).map PP))->Q (.loc a,μ')):W (f (k+2) "sides_of" [PP e] b) Q:=by
 refine bU (RH (k+1) _ b) (bW (fJ (xs:=(A6 e).map PP) (p:=λd=>iW (dY d)) (v:=λd=>d) (w_iSeq.mpr (aP rfl (bA (Ut k e b) ((c3 (bC _ _)).mpr ⟨hX (bC _ _),rfl,by show(4:Nat)<=Wq;decide,λd μ' hd c=>?_,λd μ' hd _ c=>⟨_,rfl,rfl,Wr _⟩,λμ' c g=>H _ _ ((aU _ _).trans c) ?_⟩))))))
 .obtain⟨u,v,rfl⟩:=mK hd;exact eS (aP rfl (GB k (u,v) _ _ ⟨rfl,rfl,Wr _⟩))
 .rw[g,o9 iW];rfl
theorem Uu:∀w∈[(1:Int),2,3],∀h∈[(1:Int),2,3],∀e∈(cI w h).filter dG,(gR e).length=2/\∀q∈gR e,q∈(cI w h).filter iW:=by decide +kernel
theorem A8:∀w∈[(1:Int),2,3],∀h∈[(1:Int),2,3],((cI w h).filter iW).Nodup/\((cI w h).filter iW).length<=200/\((cI w h).filter dG).Nodup/\((cI w h).filter dG).length<=48/\0<((cI w h).filter dG).length:=by decide +kernel
theorem Uv(k:Nat){ns:List Int}{F:Int×Int->Ly}(p:∀q,Dih (F q)){n es:jq}(nd:n.Nodup)(E:n.length<=200)(O:0<es.length)(I:∀e∈es,(gR e).length=2/\∀q∈gR e,q∈n){a b:Nat}{d:Hm}(g:d[a]?=b0 (.dT (cC (λq=>LD (F q)) n)))(w:d[b]?=b0 (.lst (es.map PP))){i:Nat}{d2 x x7 x8:Option D}{R:Fl×aH×Hm->Prop}
  (H:∀(u:Int×Int->Ly) a' μ' x7 x8,(∀q,Dih (u q))->Kp a d μ'->d.length<=a'->μ'[a']?=b0 (.dT (cC (λq=>LD (u q)) n))->R (.nx,[b0 (.rol (ns.map D.int)),b0 (.int 0),d2,b0 (.loc a'),x,b0 (.loc b),b0 (.int (i:Int)),x7,x8],μ')) :
  W (Aw (k+4) [b0 (.rol (ns.map D.int)),b0 (.int 0),d2,b0 (.loc a),x,b0 (.loc b),b0 (.int (i:Int)),x7,x8] d) R:=by
 refine aY (aP (ds:=[.rol (ns.map D.int),.int (0+1+(i:Int))]) (μ':=d) (by kernel_rfl) (nV (k+3) ns (by lia) _ _ ?_));generalize cU ns (0+1+(i:Int))=v;have y:bL [.loc b] d=b0 (.int (es.length:Nat),d):=bD ((dN w).mpr (by rw[V7]));have Q:0<=v/2%(es.length:Int)/\v/2%(es.length:Int)<es.length:=⟨Zz _ (by lia),YV _ (by lia)⟩;obtain⟨j,B⟩:∃j:Nat,v/2%(es.length:Int)=j:=⟨(v/2%(es.length:Int)).toNat,by lia⟩;have h:j<es.length:=by lia
 refine aY (aN ⟨_,rfl,aN (aZ rfl rfl ((rK (by decide) (by decide)).mpr (aP rfl (bA y ((cZ (by lia)).mpr ?_)))))⟩);rw[B];refine⟨_,fU w h,?_⟩;have c:es.getD j (0,0)∈es:=by rw[Yg,Wi h];exact XY h
 generalize es.getD j (0,0)=e at c;obtain⟨N,G⟩:=I e c;refine aY (eQ (aW (aN ⟨_,rfl,aN (aP rfl (A7 (k+2) e _ _ λs r o z=>⟨_,rfl,?_⟩))⟩)));have L:(gR e).getD 0 (0,0)∈n:=by refine G _ ?_;rw[Yg,Wi (by lia)];exact XY _
 refine⟨_,fU (i:=0) z (by lia),(jG (aJ o g) (cB _) (k9 nd L)).mpr ⟨_,rfl,?_⟩⟩;refine(vB (k+3) _ (p _) e.1 e.2 _ _).mpr ?_;refine w_mSet.mpr (aP (ds:=[.loc a,PP (c8 (F ((gR e).getD 0 (0,0))) (e.1,e.2)),.int (1-2*(v%2))]) (μ':=r) (by kernel_rfl) (Uq k p nd E _ _ (aJ o g) _ λl M J K A=>?_));exact H _ _ _ _ _ (Ur p) ((Kp.pre o).trans J) (W7 o.length_le K) A
noncomputable def vD(A B:Ly):Bool:=!(A.a==B.a&&(A.b==B.b&&(A.c==B.c&&(A.d==B.d&&(A.e==B.e&&(A.g==B.g&&b5))))))
theorem Uw(A B:Ly)(a:Hm):aT b5 (LD A) (LD B) a=b0 (.bl (vD A B),a):=rfl
inductive F1I (d0 d1 d2:Option D)(l:Nat)(ν:Hm)(qs:jq):Nat->aH->Hm->Prop
 |mk {i:Nat}{x:Option D}{μ:Hm}(kp:Kp l ν μ)(g:μ[l]?=b0 (.dT (cC (λ_=>LD A3) (qs.take i)))):F1I d0 d1 d2 l ν qs i [d0,d1,d2,b0 (.loc l),x,b3,b3,b3,b3] μ
inductive F2I (d0 d1 d2 d4:Option D)(b:Nat)(ν μ1:Hm)(qs es:jq):Nat->aH->Hm->Prop
 |mk {i a:Nat}{F:Int×Int->Ly}{x6 x7 x8:Option D}{μ:Hm}(hF:∀q,Dih (F q))(ha:ν.length<=a)(p:ν<+:μ)(g:μ[a]?=b0 (.dT (cC (λq=>LD (F q)) qs)))(gb:μ[b]?=b0 (.lst (es.map PP))):F2I d0 d1 d2 d4 b ν μ1 qs es i [d0,d1,d2,b0 (.loc a),d4,b0 (.loc b),x6,x7,x8] μ
theorem in3'{z:Int}(hz:1<=z/\z<=3):z∈[(1:Int),2,3]:=by
 have:z=1\/z=2\/z=3:=by lia
 simpa using this
theorem GD{c:Hm}{a b:Nat}{kvs:jx}{xs:List D}(g:c[a]?=b0 (.dT kvs))(h:c[b]?=b0 (.lst xs)):b≠a:=λe=>by rw[e,g]at h;cases h
theorem Ux(k:Nat)(ns:List Int){w h:Int}(hw:1<=w/\w<=3)(N:1<=h/\h<=3)(g:Hm)(Q:jz)(H:∀a μ' (es:jq),g<+:μ'->μ'[a]?=b0 (.lst (es.map PP))->es.Sublist ((cI w h).filter dG)->Q (.loc a,μ')):W (f (k+5) "_law_folds" [.rol (ns.map D.int),.int 0,.tup [.int w,.int h]] g) Q:=by
 obtain⟨q,T,ne,le,R⟩:=A8 w (in3' hw) h (in3' N);have x:=Uu w (in3' hw) h (in3' N);generalize hqs:(cI w h).filter iW=qs at q T x;generalize hes:(cI w h).filter dG=es at ne le R x H;refine bU (Sy (k+4) _ _ _ g) (aY (w_mDNewT.mpr (dC (w_mForI.mpr (w_iSeq.mpr (aP rfl (Us (k+2) (by lia) (by lia) _ _ λa B U u=>(c3 u).mpr ?_)))))));rw[hqs]at u ⊢;have K:=aJ U (bC g (C.dT []));have nd:=GD K u;refine gM (F1I (b0 (.rol (ns.map D.int))) (b0 (.int 0)) (b0 (.tup [.int w,.int h])) g.length B qs) (.mk (λ_ _ _ h=>h) (by rw[XJ];exact K)) (by rintro _ _ _ ⟨c,_⟩;exact c _ _ nd u) ?_ ?_
 .rintro i d ρ r hd ⟨c,l⟩;obtain⟨z,O,rfl⟩:=k8 hd;refine⟨_,rfl,w_mPut.mpr ⟨_,rfl,_,rfl,_,rfl,(mJ l (cB z) (by rw[V7,Xa,Wv];lia)).mpr (.mk (c.trans .set) ?_)⟩⟩;rw[cN l];have:=A5 (v:=λ_=>LD A3) (nW q O);rw[gQ O,<- this];rfl
 .rintro ρ r ⟨c,l⟩;rw[V7,W9]at l;have pA:g<+:r:=c.all ((aU _ _).trans U) (Wh _);refine⟨rfl,aY (aP rfl (GC (k+2) (by lia) (by lia) _ _ λb E X J=>?_))⟩;rw[hes]at J;refine dC (w_mForI.mpr ((mI (j:=0)).mpr (aW (aN (aN (aP rfl (nV (k+3) ns (by lia) _ _ ⟨_,rfl,(rK (by decide) (by decide)).mpr ⟨_,rfl,(cZ (by decide)).mpr ⟨_,rfl,⟨by lia,by lia⟩,?_⟩⟩⟩)))))));refine j9 (b:=Aw (k+4)) (F2I (b0 (.rol (ns.map D.int))) (b0 (.int 0)) (b0 (.tup [.int w,.int h])) _ b g E qs es) (.mk (λ_=>Ue) (Wh _) (pA.trans X) (aJ X l) J) ?_ ?_
  .rintro i I G hi ⟨L,M,v,o,j⟩;refine⟨_,rfl,?_⟩;rw[Zl];exact Uv k L q T R x o j λF' a' μ5 _ _ y c la g5=>.mk y (W7 v.length_le la) (c.all v M) g5 (c _ _ (GD o j) j)
  .rintro I G ⟨L,M,v,o,j⟩;rename_i a4 F x6 x7 x8;refine⟨rfl,bW (fJ (xs:=es.map PP) (p:=λd=>vD (F ((gR (dY d)).getD 0 (0,0))) (F ((gR (dY d)).getD 1 (0,0)))) (v:=λd=>d) (w_iSeq.mpr ⟨_,rfl,(c3 j).mpr ⟨hX j,rfl,by rw[V7,Wv];lia,λd μ' hd p=>?_,λd μ' hd _ p=>⟨_,rfl,rfl,Wr _⟩,λμ' p hg=>?_⟩⟩))⟩
   .obtain⟨e,he,rfl⟩:=Wz.mp hd;obtain⟨h2,hq⟩:=x e he;have Z:∀n,n<2->(gR e).getD n (0,0)∈qs:=λn hn=>by refine hq _ ?_;rw[Yg,Wi (by lia)];exact XY _
    refine bX (aN (aN ⟨_,rfl,aN (aP rfl (A7 (k+2) e _ _ λs μ6 A g6=>⟨_,rfl,?_⟩))⟩));refine⟨_,fU (i:=0) g6 (by lia),(jG (aJ (p.trans A) o) (cB _) (k9 q (Z 0 (by lia)))).mpr ?_⟩;refine aN ⟨_,rfl,aN (aP rfl (A7 (k+2) e _ _ λs' μ7 Y g7=>⟨_,rfl,?_⟩))⟩;refine⟨_,fU (i:=1) g7 (by lia),(jG (aJ (p.trans (A.trans Y)) o) (cB _) (k9 q (Z 1 (by lia)))).mpr ?_⟩;exact⟨_,Uw _ _ _,_,rfl,rfl,A.trans Y⟩
   .refine H _ _ _ (v.trans p) ?_ (a0U (p:=λe=>vD (F ((gR e).getD 0 (0,0))) (F ((gR e).getD 1 (0,0)))));rw[hg,o9 (λe=>vD (F ((gR e).getD 0 (0,0))) (F ((gR e).getD 1 (0,0))))]
noncomputable def vF(gs:List Int):Nat:=if gs.length=2 then 1 else((WR gs.length).map λi=>if iB gs i then(if gs.length=4 then 2 else 1)else 0).sum
theorem Uy:∀a b c d e g h i:Bool,fB (eW [a,b,c,d,e,g,h,i])=b5->2*vF (eW [a,b,c,d,e,g,h,i])<=(eW [a,b,c,d,e,g,h,i]).length:=by decide +kernel
theorem Uz:∀a b c d:Bool,fB (eW [a,b,c,d])=b5->2*vF (eW [a,b,c,d])<=(eW [a,b,c,d]).length:=by decide +kernel
theorem UA(m:Int×Int->Bool)(p:Int×Int):(fK m p).length=vF (bY m p):=by
 have e:=kF m p;unfold fK vF;rw[e];by_cases h:(bH m p).length=2
 .rw[if_pos h,if_pos h];rfl
 .rw[if_neg h,if_neg h,a3r];congr 1;refine XF λi _=>?_;unfold gP iU;cases iB (bY m p) i with
  |false=>rfl|true=>
   by_cases a:(bH m p).length=4
   .rw[if_pos rfl,if_pos a,if_pos rfl,if_pos a];rfl
   .rw[if_pos rfl,if_neg a,if_pos rfl,if_neg a];rfl
theorem UB{m:Int×Int->Bool}{p:Int×Int}(h:c7 m p=b4):2*(fK m p).length<=(bH m p).length:=by
 have e:=kF m p;rw[UA,<- e];replace h:fB (bY m p)=true:=by
  unfold c7 at h;cases z:fB (bY m p)with
  |true=>rfl|false=>rw[z]at h;cases h
 revert h;unfold bY bT mv;split
 .exact Uy _ _ _ _ _ _ _ _
 .exact Uz _ _ _ _
noncomputable def rV(e:Int×Int):jq:=if e.1%2=1 then(if(e.1-e.2)%4=0 then[(e.1-1,e.2-1),(e.1+1,e.2+1)]else[(e.1+1,e.2-1),(e.1-1,e.2+1)])else if e.1%4=0 then[(e.1,e.2-2),(e.1,e.2+2)]else[(e.1-2,e.2),(e.1+2,e.2)]
theorem UC(e:Int×Int):(rV e).length=2:=by
 unfold rV;split
 .split<;>rfl
 .split<;>rfl
theorem UD{c:Int×Int}(hc:cT c=b5){e:Int×Int}(d:e∈mv c.1 c.2 (bT c.1)):c∈rV e:=by
 obtain⟨s,a,rfl⟩:=Wz.mp d;obtain⟨x,y⟩:=c;unfold cT at hc;simp only[Wl,beq_iff_eq]at hc;unfold bT E8 F4 at a;have one:∀{z b:Int×Int},(x,y)=z->(x,y)∈[z,b]:=λh=>by rw[h];exact .head _
 have two:∀{z b:Int×Int},(x,y)=z->(x,y)∈[b,z]:=λh=>by rw[h];exact .tail _ (.head _)
 unfold rV;dsimp only at a ⊢;split at a<;>simp only[WW,Yl,or_false]at a
 .rcases a with rfl|rfl|rfl|rfl|rfl|rfl|rfl|rfl<;>dsimp only
  .rw[if_neg (by lia),if_neg (by lia)];exact one (YO (by dsimp only;lia) (by dsimp only;lia))
  .rw[if_pos (by lia),if_pos (by lia)];exact one (YO (by dsimp only;lia) (by dsimp only;lia))
  .rw[if_neg (by lia),if_pos (by lia)];exact one (YO (by dsimp only;lia) (by dsimp only;lia))
  .rw[if_pos (by lia),if_neg (by lia)];exact one (YO (by dsimp only;lia) (by dsimp only;lia))
  .rw[if_neg (by lia),if_neg (by lia)];exact two (YO (by dsimp only;lia) (by dsimp only;lia))
  .rw[if_pos (by lia),if_pos (by lia)];exact two (YO (by dsimp only;lia) (by dsimp only;lia))
  .rw[if_neg (by lia),if_pos (by lia)];exact two (YO (by dsimp only;lia) (by dsimp only;lia))
  .rw[if_pos (by lia),if_neg (by lia)];exact two (YO (by dsimp only;lia) (by dsimp only;lia))
 .rcases a with rfl|rfl|rfl|rfl<;>dsimp only
  .rw[if_pos (by lia),if_pos (by lia)];exact one (YO (by dsimp only;lia) (by dsimp only;lia))
  .rw[if_pos (by lia),if_neg (by lia)];exact one (YO (by dsimp only;lia) (by dsimp only;lia))
  .rw[if_pos (by lia),if_pos (by lia)];exact two (YO (by dsimp only;lia) (by dsimp only;lia))
  .rw[if_pos (by lia),if_neg (by lia)];exact two (YO (by dsimp only;lia) (by dsimp only;lia))
theorem GF{e:Int×Int}{m:Int×Int->Bool}:∀{l:jq},l.Nodup->(l.filter λp=>e==p||m p).length<=(if e∈l then 1 else 0)+(l.filter m).length
 |[],_=>Wh _|x::l,h=>by
  have c:=GF (e:=e) (m:=m) (Xi.mp h).2;have b:=(Xi.mp h).1;rw[YS,YS];by_cases a:e=x
  .rw[if_pos (by rw[a];simp),if_pos (by rw[a];exact .head _)];rw[if_neg (by rw[a];exact b)]at c;split<;>(try simp only[WO])<;>lia
  .have:(e∈x::l)↔e∈l:=by simp[a]
   rw[show(e==x||m x)=m x by simp[a]];simp only[this];split<;>(try simp only[WO])<;>lia
theorem GG{e:Int×Int}:∀{a:jq},(∀c∈a,cT c=b5)->(a.map λc=>if e∈mv c.1 c.2 (bT c.1)then 1 else 0).sum<=(a.filter λc=>decide (c∈rV e)).length
 |[],_=>Wh _|c::a,h=>by
  have b:=GG (e:=e) λc hc=>h c (.tail _ hc);rw[WA,Zo,YS];by_cases hc:e∈mv c.1 c.2 (bT c.1)
  .rw[if_pos hc,if_pos (decide_eq_true (UD (h c (.head _)) hc)),WO];lia
  .rw[if_neg hc];split<;>(try simp only[WO])<;>lia
theorem UE{e:Int×Int}{a:jq}(nd:a.Nodup)(h:∀c∈a,cT c=b5):(a.map λc=>if e∈mv c.1 c.2 (bT c.1)then 1 else 0).sum<=2:=by refine W7 (GG h) (UC e▸XS (nd.sublist a0U) λc hc=>?_);exact of_decide_eq_true (Xj.mp hc).2
theorem vG{c:Type}{a b:c->Nat}:∀{l:List c},(∀x∈l,a x<=b x)->(l.map a).sum<=(l.map b).sum
 |[],_=>Wh _|x::l,h=>by have:=vG λy d=>h y (.tail _ d);have:=h x (.head _);rw[WA,WA,Zo,Zo];lia
theorem A9{c:Type}{a b:c->Nat}:∀l:List c,(l.map λx=>a x+b x).sum=(l.map a).sum+(l.map b).sum
 |[]=>rfl|x::l=>by have:=A9 (a:=a) (b:=b) l;rw[WA,WA,WA,Zo,Zo,Zo];lia
theorem GH{a:jq}(nd:a.Nodup)(h:∀c∈a,cT c=b5):∀es:jq,(a.map λc=>(bH (λp=>es.any λq=>q==p) c).length).sum<=2*es.length
 |[]=>by
  refine W7 (vG (b:=λ_=>0) λc _=>?_) ?_
  .unfold bH;rw[show(λp:Int×Int=>([]:jq).any λq=>q==p)=λ_=>b4 from rfl];simp
  .clear h nd;induction a with
   |nil=>exact Wh _|cons _ _ b=>rw[WA,Zo];lia
 |e::es=>by
  have b:=GH nd h es;have d:=UE (e:=e) nd h;refine W7 (vG (b:=λc=>(if e∈mv c.1 c.2 (bT c.1)then 1 else 0)+(bH (λp=>es.any λq=>q==p) c).length) λc _=>?_) ?_
  .exact GF (AN _ _ (AO _))
  .rw[A9,WO];lia
theorem UG:∀w∈[(1:Int),2,3,4,5,6],∀h∈[(1:Int),2,3,4,5,6],(bK w h).Nodup:=by decide +kernel
theorem UH{w h:Int}(hw:1<=w/\w<=6)(g:1<=h/\h<=6){ms:List ((Int×Int)×Str)}(e:(bK w h).find? (c7 (aM ms))=b3):(fC (aM ms) w h).length<=ms.length:=by
 have b:∀{z:Int},1<=z/\z<=6->z∈[(1:Int),2,3,4,5,6]:=λ{z} i=>by
  have:z=1\/z=2\/z=3\/z=4\/z=5\/z=6:=by lia
  simpa using this
 have nd:=UG w (b hw) h (b g);have a:=GH nd (λc hc=>(Xj.mp hc).2) (ms.map (·.1));rw[V7]at a;have d:((bK w h).map λc=>(fK (aM ms) c).length+(fK (aM ms) c).length).sum<=((bK w h).map λc=>(bH (aM ms) c).length).sum:=vG λc hc=>by
  have:=UB (m:=aM ms) (p:=c) (by
   have:=Yx.mp e c hc;cases z:c7 (aM ms) c with
   |false=>rfl
   |true=>exact absurd z this)
  lia
 rw[A9]at d;unfold fC;rw[a3r];have:((bK w h).map λc=>(bH (aM ms) c).length).sum<=2*ms.length:=a;lia
noncomputable def wt:Bool->List Int->Nat
 |_,[]=>0|b,g::gs=>(if b then 11 else 5)+wt (b ^^ (g%2==1)) gs
noncomputable def jM(x:Int)(gs:List Int):Bool:=decide (wt b5 gs<=54)&&(decide (wt b4 gs<=54)&&(decide (gs.length<=6)&&(!(x%4==2)||gs.all λg=>g%2==0)))
noncomputable def GI(o t:Int):List Int:=(WR 3).flatMap λ(i:Nat)=>[[2,1,1,2,1].getD (o+i).toNat 0,[2,1,1,2,1].getD (t+i).toNat 0]
noncomputable def GJ(o t:Int):List Int:=[o+1,t+1,3-o,3-t]
theorem UI:∀o∈[(0:Int),1,2],∀t∈[(0:Int),1,2],jM 0 (GI o t)=b5/\jM 0 (GJ o t)=true:=by decide
theorem Ba{x:Int}{gs:List Int}(h:(x%4==2)=b4)(g:jM 0 gs=b5):jM x gs=true:=by unfold jM at g ⊢;rw[h];exact g
theorem GK(v:Int):v%3∈[(0:Int),1,2]:=by
 have:v%3=0\/v%3=1\/v%3=2:=by lia
 simpa using this
inductive GaI (d0 d1:Option D)(o t:Int)(l r:Nat)(ν:Hm):Nat->aH->Hm->Prop
 |mk {i:Nat}{x:Option D}{μ:Hm}(p:ν<+:μ)(gl:μ[l]?=b0 (.lst ([2,1,1,2,1].map D.int)))(gr:μ[r]?=b0 (.lst (((WR i).flatMap λ(i:Nat)=>[[(2:Int),1,1,2,1].getD (o+i).toNat 0,[2,1,1,2,1].getD (t+i).toNat 0]).map D.int))):GaI d0 d1 o t l r ν i [d0,d1,b0 (.int o),b0 (.int t),b0 (.loc l),b0 (.loc r),x] μ
theorem GL{a:Hm}{l:Nat}(gl:a[l]?=b0 (.lst ([2,1,1,2,1].map D.int))){z:Int}(h:0<=z/\z<5):aE (.loc l) (.int z) a=b0 (.int ([(2:Int),1,1,2,1].getD z.toNat 0),a):=by obtain⟨n,rfl⟩:∃n:Nat,z=n:=⟨z.toNat,by lia⟩;exact rR gl (by show n<5;lia)
theorem UJ{o t:Int}(q:0<=o/\o<3)(s:0<=t/\t<3){i:Nat}(n:i<3){l r:Nat}(e:l≠r){d0 d1:Option D}{ν b:Hm}{R:Fl×aH×Hm->Prop}(j:ν.length<=r)(p:ν<+:b){gs:List Int}(k:gs.length<=6)(gl:b[l]?=b0 (.lst ([2,1,1,2,1].map D.int)))(d:b[r]?=b0 (.lst (gs.map D.int)))
  (H:∀a,ν<+:a->a[l]?=b0 (.lst ([2,1,1,2,1].map D.int))->a[r]?=b0 (.lst ((gs++[[(2:Int),1,1,2,1].getD (o+i).toNat 0,[2,1,1,2,1].getD (t+i).toNat 0]).map D.int))->R (.nx,[d0,d1,b0 (.int o),b0 (.int t),b0 (.loc l),b0 (.loc r),b0 (.int (i:Int))],a)) :
  W (Ax [d0,d1,b0 (.int o),b0 (.int t),b0 (.loc l),b0 (.loc r),b0 (.int (i:Int))] b) R:=by
 have g:=GL (z:=o+i) gl (by lia);have h:=GL (z:=t+i) gl (by lia);refine w_mDrop.mpr (eF ⟨_,rfl,dX d,aW (w_mLst.mpr (aW (aZ rfl rfl ⟨_,g,aW (aZ rfl rfl ⟨_,h,_,rfl,jH,_,rfl,?_⟩)⟩)))⟩);have c:=aU b (C.lst [.int ([(2:Int),1,1,2,1].getD (o+i).toNat 0),.int ([(2:Int),1,1,2,1].getD (t+i).toNat 0)]);refine(uS (aJ c d) (bC _ _) (by rw[V7,Wv];show gs.length+2<=_;lia)).mpr (H _ (dJ (p.trans c) j _) ?_ ?_)
 .rw[Wu (Xh e)];exact aJ c gl
 .rw[cN (aJ c d),WE];rfl
theorem UK(k:Nat)(v:Int)(c:Int×Int)(b:Hm)(Q:jz)(H:∀a μ' (gs:List Int),b<+:μ'->b.length<=a->μ'[a]?=b0 (.lst (gs.map D.int))->jM c.1 gs=b5->Q (.loc a,μ')):W (f (k+1) "_law_gaps" [.int v,PP c] b) Q:=by
 refine bU (Sz k _ _ b) (f7 (b:=c.1%4==2) (μ':=b) (by kernel_rfl) (λh=>?_) λh=>cX ?_)
 .refine gO (aN ⟨_,rfl,_,rfl,?_⟩);have d:=aU b (C.lst ([2,2,2,2].map D.int));have g:=aU (b++[C.lst ([2,2,2,2].map D.int)]) (C.lst ([4,4].map D.int));have j:=aU ((b++[C.lst ([2,2,2,2].map D.int)])++[C.lst ([4,4].map D.int)]) (C.lst [.loc b.length,.loc (b++[C.lst ([2,2,2,2].map D.int)]).length]);have r:=bC ((b++[C.lst ([2,2,2,2].map D.int)])++[C.lst ([4,4].map D.int)]) (C.lst [.loc b.length,.loc (b++[C.lst ([2,2,2,2].map D.int)]).length]);have e:v%2=0\/v%2=1:=by lia
  have s:∀gs∈[[(2:Int),2,2,2],[4,4]],jM c.1 gs=true:=by unfold jM;rw[h];decide
  rcases e with e|e
  .rw[e];exact(eK r (show _=b0 _ from rfl)).mpr (H _ _ [2,2,2,2] (d.trans (g.trans j)) (Wh _) (aJ (g.trans j) (bC _ _)) (s _ (by decide)))
  .rw[e];exact(eK r (show _=b0 _ from rfl)).mpr (H _ _ [4,4] (d.trans (g.trans j)) d.length_le (aJ j (bC _ _)) (s _ (by decide)))
 .refine aY (bA (r:=(.int (v/6%3),b)) (by kernel_rfl) (aY (bA (r:=(.int (v/18%3),b)) (by kernel_rfl) ?_)));obtain⟨z,y⟩:=UI _ (GK (v/6)) _ (GK (v/18));have w:0<=v/6%3/\v/6%3<3:=by lia
  have x:0<=v/18%3/\v/18%3<3:=by lia
  generalize v/6%3=o at *;generalize v/18%3=t at *;refine f7 (b:=v%6==0) (μ':=b) (by kernel_rfl) (λ_=>gO ?_) λ_=>cX ?_
  .exact⟨_,rfl,H _ _ [4,4] (aU _ _) (Wh _) (bC _ _) (Ba h (by decide))⟩
  refine f7 (b:=v%6==1) (μ':=b) (by kernel_rfl) (λ_=>rN ?_) λ_=>cX ?_
  .refine aY ⟨_,rfl,rN (aY ⟨_,rfl,rN (dC (w_mForI.mpr ((mI (j:=0)).mpr ⟨_,rfl,⟨by decide,by decide⟩,?_⟩)))⟩)⟩;refine j9 (lo:=0) (n:=3) (b:=Ax) (GaI (b0 (.int v)) (b0 (PP c)) o t b.length (b++[C.lst ([2,1,1,2,1].map D.int)]).length b) (.mk ((aU _ _).trans (aU _ _)) (aJ (aU _ _) (bC _ _)) (bC _ _)) ?_ ?_
   .rintro i B q u ⟨d,gl,n⟩;refine⟨_,rfl,?_⟩;rw[Zl];refine UJ w x u (by rw[Wo];show _≠_+1;lia) (by rw[Wo];lia) d ?_ gl n λA g l p=>.mk g l ?_
    .have:=mN (f:=λ(i:Nat)=>[[(2:Int),1,1,2,1].getD (o+i).toNat 0,[2,1,1,2,1].getD (t+i).toNat 0]) (n:=2) (λ_=>Wh _) (WR i);rw[Xy]at this;lia
    .rw[p,Zs,YM];rfl
   .rintro B q ⟨d,gl,n⟩;exact⟨rfl,gO ⟨_,rfl,H _ _ (GI o t) d (by rw[Wo];lia) n (Ba h z)⟩⟩
  .exact bW ⟨_,rfl,H _ _ (GJ o t) (aU _ _) (Wh _) (bC _ _) (Ba h y)⟩
theorem UL{c:MT}{b:MS}{Q:Fl×aH×Hm->Prop}(I:Nat->aH->Hm->Prop)
  (u:∀m a g,I m a g->W (c a g) λp=>if p.1=b5 then W (b a p.2) λq=>match q.1 with
   |.nx=>∃e,e<m/\I e q.2.1 q.2.2|.ct=>∃e,e<m/\I e q.2.1 q.2.2|.bk=>Q (.nx,q.2.1,q.2.2)
   |.rt d=>Q (.rt d,q.2.1,q.2.2)else Q (.nx,a,p.2)):∀(n m:Nat)(a:aH)(g:Hm),m<n->I m a g->W (nD c b n a g) Q:=by
 intro n;induction n with
 |zero=>intro m a g h;lia|succ n l=>
  intro m a g z s;unfold nD;rw[W_bind];refine bO (u m a g s) λp k=>?_;obtain⟨v,w⟩:=p;cases v with
  |false=>exact W_some.mpr (by simpa using k)|true=>
   simp only[if_true]at k;dsimp only;rw[W_bind];refine bO k λq i=>?_;obtain⟨o,y,x⟩:=q;cases o with
   |nx=>obtain⟨e,r,j⟩:=i;exact l e _ _ (by lia) j|ct=>obtain⟨e,r,j⟩:=i;exact l e _ _ (by lia) j|bk=>exact W_some.mpr i|rt d=>exact W_some.mpr i
theorem Bb{c:MT}{b:MS}{a:aH}{e:Hm}{Q:Fl×aH×Hm->Prop}(I:Nat->aH->Hm->Prop)(m:Nat)(i:m<1000000000)(h:I m a e)
  (j:∀m a e,I m a e->W (c a e) λp=>if p.1=b5 then W (b a p.2) λq=>match q.1 with
   |.nx=>∃g,g<m/\I g q.2.1 q.2.2|.ct=>∃g,g<m/\I g q.2.1 q.2.2|.bk=>Q (.nx,q.2.1,q.2.2)
   |.rt d=>Q (.rt d,q.2.1,q.2.2)else Q (.nx,a,p.2)):W (lV mE c b a e) Q:=by
 unfold lV;exact UL I j mE m a e (by unfold mE;exact i) h
theorem mem_pl{w h:Int}{p:Int×Int}:p∈cI w h↔(0<p.1/\p.1<4*w)/\0<p.2/\p.2<4*h:=by
 unfold cI k7 mL;rw[a0m];constructor
 .rintro⟨i,a,c⟩;obtain⟨j,b,rfl⟩:=Wz.mp c;have:=Xn.mp a;have:=Xn.mp b;dsimp only;lia
 .intro⟨d,e⟩;refine⟨(p.1-1).toNat,Xn.mpr (by lia),Wz.mpr ⟨(p.2-1).toNat,Xn.mpr (by lia),YO ?_ ?_⟩⟩<;>dsimp only<;>lia
theorem vH{p:Int×Int}(h1:p.1%2=1)(a:p.2%2=1):dG p=true:=by unfold dG;rw[if_pos (beq_iff_eq.mpr h1)];exact beq_iff_eq.mpr a
theorem vJ{p:Int×Int}(h1:p.1%2=0)(a:p.2%2=0)(b:p.1%4≠p.2%4):dG p=true:=by unfold dG;rw[if_neg (by rw[beq_iff_eq];lia),beq_iff_eq.mpr a,beq_false_of_ne b];rfl
noncomputable def dO(w h:Int)(p:Int×Int):Prop:=p∈(cI w h).filter dG
theorem lF{w h:Int}{p:Int×Int}(h1:0<p.1/\p.1<4*w)(a:0<p.2/\p.2<4*h)(b:dG p=b5):dO w h p:=Xj.mpr ⟨mem_pl.mpr ⟨h1,a⟩,b⟩
theorem rW{a b c:ME}{e:aH}{d:Hm}{x y z:Int}(g:a e d=b0 (.int x,d))(h:b e d=b0 (.int y,d))(hc:c e d=b0 (.int z,d)):gH dQ dQ a b c e d=b0 (.bl (decide (x<y)&&decide (y<z)),d):=bD (w_mChain.mpr ⟨_,g,_,h,w_ltI.mpr (by
 show if _ then _ else _
 cases decide (x<y)with
 |true=>exact(if_pos rfl).mpr ⟨_,hc,w_ltI.mpr rfl⟩
 |false=>exact(if_neg Wj).mpr rfl)⟩)
theorem kG{m:ME}{c:aH}{a:Hm}{b:Bool}(h:m c a=b0 (.bl b,a)):aQ m c a=b0 (b,a):=bD (bX ⟨_,h,_,rfl,rfl⟩)
theorem rX{s t:MT}{d:aH}{c:Hm}{a b:Bool}(e:s d c=b0 (a,c))(g:t d c=b0 (b,c)):fP s t d c=b0 (a&&b,c):=bD (w_mAndT.mpr ⟨_,e,by
 cases a with
 |true=>exact(if_pos rfl).mpr ⟨_,g,rfl⟩
 |false=>exact(if_neg Wj).mpr rfl⟩)
theorem UM{w h:Int}(hw:w<=6)(j:h<=6){c:Int×Int}(hc:c∈bK w h){r d:Int}(a:(r,d)∈E8)(k:c.1%4=2->r%2=1)(n:Nat)(l:0<c.1+2*(r*n)/\c.1+2*(r*n)<4*w)(o:0<c.2+2*(d*n)/\c.2+2*(d*n)<4*h) :
  n+1<=(if r%2=1 then 11 else 5)/\dO w h (c.1+2*(r*n)+r,c.2+2*(d*n)+d):=by
 obtain⟨e,b⟩:=Xj.mp hc;obtain⟨g,i⟩:=mem_pl.mp e;obtain⟨x,y⟩:=c;unfold cT at b;simp only[Wl,beq_iff_eq]at b;dsimp only at *;unfold E8 at a;simp only[WW,a4l,Yl,or_false]at a;rcases a with⟨rfl,rfl⟩|⟨rfl,rfl⟩|⟨rfl,rfl⟩|⟨rfl,rfl⟩|⟨rfl,rfl⟩|⟨rfl,rfl⟩|⟨rfl,rfl⟩|⟨rfl,rfl⟩
 .exact⟨by rw[if_neg (by decide)];lia,lF (by dsimp only;lia) (by dsimp only;lia) (vJ (by dsimp only;lia) (by dsimp only;lia) (by dsimp only;lia))⟩
 .exact⟨by rw[if_pos (by decide)];lia,lF (by dsimp only;lia) (by dsimp only;lia) (vH (by dsimp only;lia) (by dsimp only;lia))⟩
 .exact⟨by rw[if_neg (by decide)];lia,lF (by dsimp only;lia) (by dsimp only;lia) (vJ (by dsimp only;lia) (by dsimp only;lia) (by dsimp only;lia))⟩
 .exact⟨by rw[if_pos (by decide)];lia,lF (by dsimp only;lia) (by dsimp only;lia) (vH (by dsimp only;lia) (by dsimp only;lia))⟩
 .exact⟨by rw[if_neg (by decide)];lia,lF (by dsimp only;lia) (by dsimp only;lia) (vJ (by dsimp only;lia) (by dsimp only;lia) (by dsimp only;lia))⟩
 .exact⟨by rw[if_pos (by decide)];lia,lF (by dsimp only;lia) (by dsimp only;lia) (vH (by dsimp only;lia) (by dsimp only;lia))⟩
 .exact⟨by rw[if_neg (by decide)];lia,lF (by dsimp only;lia) (by dsimp only;lia) (vJ (by dsimp only;lia) (by dsimp only;lia) (by dsimp only;lia))⟩
 .exact⟨by rw[if_pos (by decide)];lia,lF (by dsimp only;lia) (by dsimp only;lia) (vH (by dsimp only;lia) (by dsimp only;lia))⟩
noncomputable def vK(w h v:Int)(s q:Nat)(c:Int×Int)(l:Nat)(k g r d x y:Int):aH:=[b0 (.tup [.int w,.int h]),b0 (.int v),b0 (.loc s),b0 (.loc q),b0 (PP c),b0 (.loc l),b0 (.int k),b0 (.int g),b0 (.int r),b0 (.int d),b0 (.int x),b0 (.int y)]
inductive RyI (w h v:Int)(s q:Nat)(c:Int×Int)(l:Nat)(k g r d:Int)(ν:Hm)(fs:jq):Nat->aH->Hm->Prop
 |mk {m n:Nat}{es:jq}{x y:Int}(hm:m+n=12)(hn:n<=(if r%2=1 then 11 else 5))(hl:es.length=n)(hE:∀p∈es,dO w h p)(hx:x=c.1+2*(r*n))(hy:y=c.2+2*(d*n)):RyI w h v s q c l k g r d ν fs m (vK w h v s q c l k g r d x y) (ν.set l (.lst ((fs++es).map PP)))
theorem UN{w h:Int}(hw:w<=6)(G:h<=6){c:Int×Int}(hc:c∈bK w h){r d:Int}(K:(r,d)∈E8)(J:c.1%4=2->r%2=1){v k g:Int}{s q l:Nat}{ν:Hm}{fs:jq}(gl:ν[l]?=b0 (.lst (fs.map PP)))(M:fs.length<=900){R:Fl×aH×Hm->Prop}
  (H:∀(es:jq) x y,es.length<=(if r%2=1 then 11 else 5)->(∀p∈es,dO w h p)->R (.nx,vK w h v s q c l k g r d x y,ν.set l (.lst ((fs++es).map PP)))) :
  W (lV mE Fu Fv (vK w h v s q c l k g r d c.1 c.2) ν) R:=by
 have B:ν=ν.set l (.lst ((fs++[]).map PP)):=by rw[XG];exact(pE gl).symm
 refine Bb (RyI w h v s q c l k g r d ν fs) 12 (by decide) ?_ ?_
 .have:=RyI.mk (w:=w) (h:=h) (v:=v) (s:=s) (q:=q) (c:=c) (l:=l) (k:=k) (g:=g) (r:=r) (d:=d) (ν:=ν) (fs:=fs) (m:=12) (n:=0) (es:=[]) (x:=c.1) (y:=c.2) rfl (Yi _) rfl (λ_ h=>nomatch h) (by lia) (by lia);rw[<- B]at this;exact this
 .rintro m _ _ ⟨N,O,I,A,i,j⟩;rename_i n es x y;refine⟨_,rX (kG (rW (x:=0) (y:=x) (z:=4*w) rfl rfl rfl)) (kG (rW (x:=0) (y:=y) (z:=4*h) rfl rfl rfl)),?_⟩;by_cases a:((0<x/\x<4*w)/\0<y/\y<4*h)
  .rw[decide_eq_true a.1.1,decide_eq_true a.1.2,decide_eq_true a.2.1,decide_eq_true a.2.2];obtain⟨L,o⟩:=UM hw G hc K J n (by rw[<- i];exact a.1) (by rw[<- j];exact a.2);rw[<- i,<- j]at o;have u:=cN (c':=C.lst ((fs++es).map PP)) gl;have E:(if r%2=1 then 11 else 5)<=11:=by split<;>lia
   refine(if_pos rfl).mpr (k6 (eF ⟨_,rfl,dX u,bA (r:=([PP (x+r,y+d)],_)) rfl ((fS u (by rw[V7,Wo,Wv];lia)).mpr ?_)⟩));refine aY (bA (r:=(.int (x+2*r),_)) rfl (w_mSet.mpr (bA (r:=(.int (y+2*d),_)) rfl ⟨m-1,by lia,?_⟩)));rw[AK,show(fs++es).map PP++[PP (x+r,y+d)]=(fs++(es++[(x+r,y+d)])).map PP by simp];refine .mk (n:=n+1) (by lia) (by lia) (by rw[Wo,I];rfl) (λp b=>?_) ?_ ?_
   .rcases WK.mp b with b|b
    .exact A p b
    .rw[WB.mp b];exact o
   .rw[i,a4I,a5V];lia
   .rw[j,a4I,a5V];lia
  .have e:(decide (0<x)&&decide (x<4*w)&&(decide (0<y)&&decide (y<4*h)))=false:=by rw[Bool.eq_false_iff];intro z;simp only[Wl,decide_eq_true_eq]at z;exact a ⟨z.1,z.2⟩
   rw[e];exact(if_neg Wj).mpr (H _ _ _ (by lia) A)
theorem UO:∀i:Nat,i<8->(E8.getD i (0,0))∈E8/\((E8.getD i (0,0)).1%2=1↔(i:Int)%2=1):=by decide
theorem UP{w h:Int}(hw:w<=6)(G:h<=6){c:Int×Int}(hc:c∈bK w h){v k g:Int}(J:c.1%4=2->k%2=1){s q l:Nat}{ν:Hm}{fs:jq}(gs:ν[s]?=b0 (.lst (E8.map PP)))(gl:ν[l]?=b0 (.lst (fs.map PP)))(E:fs.length<=900){x8 x9 x10 x11:Option D}{R:Fl×aH×Hm->Prop}
  (H:∀(es:jq) r d x y,es.length<=(if k%2=1 then 11 else 5)->(∀p∈es,dO w h p)->R (.nx,vK w h v s q c l (k+g) g r d x y,ν.set l (.lst ((fs++es).map PP)))) :
  W (uW [b0 (.tup [.int w,.int h]),b0 (.int v),b0 (.loc s),b0 (.loc q),b0 (PP c),b0 (.loc l),b0 (.int k),b0 (.int g),x8,x9,x10,x11] ν) R:=by
 obtain⟨j,I⟩:∃j:Nat,k%8=j:=⟨(k%8).toNat,by lia⟩;have a:j<8:=by lia
 obtain⟨n,o⟩:=UO j a;have i:aE (.loc s) (.int (k%8)) ν=b0 (PP (E8.getD j (0,0)),ν):=by rw[I];exact fU gs a
 generalize E8.getD j (0,0)=e at n o i;have b:(e.1%2=1)=(k%2=1):=propext (o.trans (by lia));have u:(if k%2=1 then 11 else 5)=if e.1%2=1 then 11 else 5:=by simp only[b]
 rw[u]at H;refine w_mSeq.mpr (w_mAsg.mpr (aZ rfl rfl ⟨_,i,w_gTup2.mpr (w_mSeq.mpr (w_mAsg.mpr ⟨_,rfl,w_gTup2.mpr (dC ?_)⟩))⟩));refine UN (r:=e.1) (d:=e.2) hw G hc n (λz=>by rw[b];exact J z) gl E λes x y A B=>⟨rfl,w_mSet.mpr ⟨_,rfl,H es e.1 e.2 x y A B⟩⟩
inductive StI (w h v:Int)(s q:Nat)(c:Int×Int)(l:Nat)(ν:Hm)(gs:List Int):Nat->aH->Hm->Prop
 |mk {i:Nat}{k:Int}{fs:jq}{x7 x8 x9 x10 x11:Option D}(ho:c.1%4=2->k%2=1)(hf:fs.length+wt (k%2==1) (gs.drop i)<=54)(hE:∀p∈fs,dO w h p):StI w h v s q c l ν gs i [b0 (.tup [.int w,.int h]),b0 (.int v),b0 (.loc s),b0 (.loc q),b0 (PP c),b0 (.loc l),b0 (.int k),x7,x8,x9,x10,x11] (ν.set l (.lst (fs.map PP)))
theorem UQ(k g:Int):((k+g)%2==1)=((k%2==1) ^^ (g%2==1)):=by
 have a:k%2=0\/k%2=1:=by lia
 have b:g%2=0\/g%2=1:=by lia
 rcases a with a|a<;>rcases b with b|b
 .rw[a,b,show(k+g)%2=0 by lia];rfl
 .rw[a,b,show(k+g)%2=1 by lia];rfl
 .rw[a,b,show(k+g)%2=1 by lia];rfl
 .rw[a,b,show(k+g)%2=0 by lia];rfl
theorem UR{x:Int}{gs:List Int}(h:jM x gs=b5):(∀b,wt b gs<=54)/\gs.length<=6/\(x%4=2->∀g∈gs,g%2=0):=by unfold jM at h;simp only[Wl,decide_eq_true_eq,Zy,a1m,beq_eq_false_iff_ne,ne_eq,Zh,beq_iff_eq]at h;obtain⟨d,e,a,c⟩:=h;refine⟨λb=>by cases b<;>assumption,a,λz=>c.resolve_left (λn=>n z)⟩
theorem US{w h:Int}(hw:w<=6)(K:h<=6){c:Int×Int}(hc:c∈bK w h){v A:Int}(M:c.1%4=2->A%2=1){s q l b:Nat}{ν:Hm}{gs:List Int}(G:jM c.1 gs=b5)(es:ν[s]?=b0 (.lst (E8.map PP)))(gl:ν[l]?=b0 (.lst []))(E:ν[b]?=b0 (.lst (gs.map D.int)))(N:s≠l)(bl:b≠l){R:Fl×aH×Hm->Prop}
  (H:∀(fs:jq) ρ,fs.length<=54->(∀p∈fs,dO w h p)->ρ[5]?=b0 (b0 (.loc l))->R (.nx,ρ,ν.set l (.lst (fs.map PP)))) :
  W (eU (dS (.loc b)) (cE 7) uW ((gs.map D.int).length+1) 0 [b0 (.tup [.int w,.int h]),b0 (.int v),b0 (.loc s),b0 (.loc q),b0 (PP c),b0 (.loc l),b0 (.int A),b3,b3,b3,b3,b3] ν) R:=by
 obtain⟨O,Z,Q⟩:=UR G;have I:ν=ν.set l (.lst (([]:jq).map PP)):=(pE gl).symm;refine gM (StI w h v s q c l ν gs) ?_ ?_ ?_ ?_
 .have:=StI.mk (w:=w) (h:=h) (v:=v) (s:=s) (q:=q) (c:=c) (l:=l) (ν:=ν) (gs:=gs) (i:=0) (k:=A) (fs:=[]) (x7:=b3) (x8:=b3) (x9:=b3) (x10:=b3) (x11:=b3) M (by rw[a0I,Zt,a2V];exact O _) (λ_ h=>nomatch h);rw[<- I]at this;exact this
 .rintro _ _ _ ⟨_,_,_⟩;rw[Wu (Xh bl)];exact E
 .rintro i d _ _ hd ⟨a,o,n⟩;rename_i k fs x7 x8 x9 T U;obtain⟨g,B,rfl⟩:∃g,gs[i]?=b0 g/\D.int g=d:=by rw[Ws]at hd;exact Wb.mp hd
  obtain⟨L,u⟩:=Wa.mp B;rw[YE L,u]at o;unfold wt at o;refine⟨_,rfl,UP hw K hc a (by rw[Wu (Xh N)];exact es) (cN gl) (by lia) λe r X x y Y J=>?_⟩;rw[AK];refine .mk (k:=k+g) (λz=>?_) ?_ λp j=>?_
  .have:=a z;have:=Q z g (WS B);lia
  .rw[UQ,Wo];have:(if(k%2==1)=b5 then 11 else 5)=if k%2=1 then 11 else 5:=by simp only[beq_iff_eq]
   lia
  .rcases WK.mp j with j|j
   .exact n p j
   .exact J p j
 .rintro _ _ ⟨_,o,n⟩;exact H _ _ (by lia) n rfl
theorem UT{w h:Int}(hw:1<=w)(a:1<=h):0<(bK w h).length:=a2I (a:=(2,2)) (Xj.mpr ⟨mem_pl.mpr ⟨⟨by decide,by dsimp only;lia⟩,by decide,by dsimp only;lia⟩,by decide⟩)
theorem UU(k:Nat){w h:Int}(hw:1<=w/\w<=6)(n:1<=h/\h<=6)(v:Int)(g:Hm)(Q:jz)(H:∀a μ' (fs:jq),g<+:μ'->g.length<=a->μ'[a]?=b0 (.lst (fs.map PP))->fs.length<=54->(∀p∈fs,dO w h p)->Q (.loc a,μ')):W (f (k+3) "_law_star" [.tup [.int w,.int h],.int v] g) Q:=by
 refine bU (SA (k+2) _ _ g) (aY (bA (r:=(.loc g.length,g++[.lst (E8.map PP)])) (by kernel_rfl) (aY (aP rfl (AY k hw n _ _ λa e x r=>?_)))));have X:=UT hw.1 n.1;have E:bL [.loc a] e=b0 (.int ((bK w h).length:Nat),e):=bD ((dN r).mpr (by rw[V7];rfl));obtain⟨j,M⟩:∃j:Nat,v%((bK w h).length:Int)=j:=⟨(v%((bK w h).length:Int)).toNat,by have:=Zz v (b:=((bK w h).length:Int)) (by lia);lia⟩;have i:j<(bK w h).length:=by have:=YV v (b:=((bK w h).length:Int)) (by lia);lia
 refine aY (aN ⟨_,rfl,aN ⟨_,rfl,aP rfl (bA E ((cZ (by lia)).mpr ?_))⟩⟩);rw[M];refine⟨_,fU (cr:=bK w h) r i,?_⟩;have hc:(bK w h).getD j (0,0)∈bK w h:=by rw[Yg,Wi i];exact XY i
 generalize(bK w h).getD j (0,0)=c at hc ⊢;have A:g<+:e:=(aU _ _).trans x;have s:=aJ x (bC g (C.lst (E8.map PP)));have Y:g.length<e.length:=(Wa.mp s).1;have fin:∀(R:Fl×aH×Hm->Prop),(∀d B μ',Q (d,μ')->R (.rt d,B,μ'))->∀o:Int,(c.1%4=2->o%2=1)->W ((aG (b8 (bV (aF (f (k+2) "_law_gaps") (aB (aC dB (aA 1) (mC (.int 256))) (aB (aA 4) aD)))) (cE 7) uW) (aO (aA 5))) [b0 (.tup [.int w,.int h]),b0 (.int v),b0 (.loc g.length),b0 (.loc a),b0 (PP c),b0 (.loc e.length),b0 (.int o),b3,b3,b3,b3,b3] (e++[C.lst []])) R:=λR L o N=>by refine dC (w_mForI.mpr (w_iSeq.mpr (aP (ds:=[.int (v/256),PP c]) (μ':=e++[C.lst []]) (by kernel_rfl) (UK (k+1) _ c _ _ λb T U l O u G=>(c3 u).mpr ?_))));rw[Wo]at O;refine US hw.2 n.2 hc N G (aJ ((aU _ _).trans l) s) (aJ l (bC _ _)) u (by lia) (by show _≠_;have:[C.lst []].length=1:=rfl;lia) λfs B I J K=>⟨rfl,bW ⟨_,by show aA 5 _ _=_;simp only[aA,K];rfl,?_⟩⟩;exact L _ _ _ (H _ _ fs (A.trans (dJ ((aU _ _).trans l) (Wh _) _)) A.length_le (cN (aJ l (bC _ _))) I J)
 refine aY ⟨_,rfl,aY (bA (r:=(.int (v/32%8),e++[C.lst []])) (by kernel_rfl) (f7 (b:=c.1%4==2) (μ':=e++[C.lst []]) (by kernel_rfl) (λz=>aY (aN (aN (bA (r:=(.int (v/32%4),e++[C.lst []])) (by kernel_rfl) ⟨_,rfl,(kZ (.inr ⟨by decide,by decide⟩)).mpr ⟨_,rfl,w_addI.mpr ?_⟩⟩)))) λz=>cX ?_))⟩
 .refine fin _ ?_ (v/32%8) ?_
  .exact λ_ _ _ q=>q
  .exact λy=>absurd (z.symm.trans (beq_iff_eq.mpr y)) Wj
 .refine fin _ ?_ (v/32%4*2+1) ?_
  .exact λ_ _ _ q=>q
  .exact λ_=>by lia
inductive CiI (w h:Int)(d0 d1 d2 d3 d5:Option D)(l n:Nat)(ν:Hm):Nat->aH->Hm->Prop
 |mk {i:Nat}{fs:jq}{x:Option D}(nd:fs.Nodup)(hE:∀p∈fs,dO w h p)(hl:fs.length<=n+i):CiI w h d0 d1 d2 d3 d5 l n ν i [d0,d1,d2,d3,b0 (.loc l),d5,x] (ν.set l (.lst (fs.map PP)))
theorem UW{w h:Int}{d0 d1 d2 d3 d5 x:Option D}{l a:Nat}{ν:Hm}{fs k:jq}(nd:fs.Nodup)(v:∀p∈fs,dO w h p)(A:∀p∈k,dO w h p)(J:fs.length<=200)(K:k.length<=54)(gl:ν[l]?=b0 (.lst (fs.map PP)))(u:ν[a]?=b0 (.lst (k.map PP)))(s:a≠l){R:Fl×aH×Hm->Prop}
  (H:∀(gs:jq) y,gs.Nodup->(∀p∈gs,dO w h p)->gs.length<=fs.length+54->R (.nx,[d0,d1,d2,d3,b0 (.loc l),d5,y],ν.set l (.lst (gs.map PP)))) :
  W (eU (dS (.loc a)) (cE 6) Fw ((k.map PP).length+1) 0 [d0,d1,d2,d3,b0 (.loc l),d5,x] ν) R:=by
 refine gM (CiI w h d0 d1 d2 d3 d5 l fs.length ν) ?_ ?_ ?_ ?_
 .have:=CiI.mk (d0:=d0) (d1:=d1) (d2:=d2) (d3:=d3) (d5:=d5) (l:=l) (n:=fs.length) (ν:=ν) (i:=0) (x:=x) nd v (Wh _);rw[pE gl]at this;exact this
 .rintro _ _ _ ⟨_,_,_⟩;rw[Wu (Xh s)];exact u
 .rintro i d _ _ hd ⟨c,b,j⟩;rename_i gs y;obtain⟨z,r,rfl⟩:=k8 hd;have n:=cN (c':=C.lst (gs.map PP)) gl;have I:=(Wa.mp r).1;refine⟨_,rfl,w_mIfS.mpr (bX (aZ rfl rfl ((AZ n).mpr ⟨_,rfl,?_⟩)))⟩;cases o:gs.any λp=>p==z with
  |true=>exact(if_neg Wj).mpr (w_mNext.mpr (.mk c b (by lia)))|false=>
   refine(if_pos rfl).mpr (w_mDrop.mpr (eF ⟨_,rfl,dX n,_,rfl,(fS n (by rw[V7,Wv];lia)).mpr ?_⟩));have E:z∉gs:=λB=>by have:(gs.any λp=>p==z)=true:=ZQ.mpr ⟨z,B,beq_self_eq_true z⟩;rw[this]at o;cases o
   rw[AK,show gs.map PP++[PP z]=(gs++[z]).map PP by rw[WE];rfl];refine .mk (Y4.mpr ⟨c,Xi.mpr ⟨Yl,.nil⟩,λp g q G e=>E ?_⟩) (λp g=>?_) (by rw[Wo];show _+1<=_;lia)
   .rw[<- WB.mp G,<- e];exact g
   .rcases WK.mp g with g|g
    .exact b p g
    .rw[WB.mp g];exact A z (WS r)
 .rintro _ _ ⟨c,b,j⟩;rw[V7]at j;exact H _ _ c b (by lia)
inductive CoI (w h:Int)(d0 d1 d2 d3:Option D)(l:Nat)(ν:Hm):Nat->aH->Hm->Prop
 |mk {i:Nat}{fs:jq}{x5 x6:Option D}{μ:Hm}(nd:fs.Nodup)(hE:∀p∈fs,dO w h p)(hl:fs.length<=54*i)(p:ν<+:μ)(g:μ[l]?=b0 (.lst (fs.map PP))):CoI w h d0 d1 d2 d3 l ν i [d0,d1,d2,d3,b0 (.loc l),x5,x6] μ
theorem GN{w h:Int}(hw:1<=w/\w<=3)(b:1<=h/\h<=3){es:jq}(nd:es.Nodup)(a:∀p∈es,dO w h p):es.length<=48:=W7 (XS nd a) (A8 w (in3' hw) h (in3' b)).2.2.2.1
theorem UX(k:Nat)(ns:List Int){w h:Int}(hw:1<=w/\w<=6)(q:1<=h/\h<=6)(x:cU ns 0/9%6<3\/cU ns 0/9%6=5->w<=3/\h<=3)(b:Hm)(Q:jz)(H:∀a μ' (es:jq),b<+:μ'->μ'[a]?=b0 (.lst (es.map PP))->es.Nodup->(∀p∈es,dO w h p)->es.length<=54->Q (.loc a,μ')):W (f (k+6) "_law_creases" [.rol (ns.map D.int),.int 0,.tup [.int w,.int h]] b) Q:=by
 refine bU (SE (k+5) _ _ _ b) (aY (aN (aN (aP rfl (nV (k+4) ns (by lia) _ _ ⟨_,rfl,(rK (by decide) (by decide)).mpr ⟨_,rfl,(cZ (by decide)).mpr ?_⟩⟩)))));have T:0<=cU ns 0/9%6/\cU ns 0/9%6<6:=by lia
 generalize cU ns 0/9%6=v at T x ⊢;refine f7 (b:=decide (v<3)) (μ':=b) (by kernel_rfl) (λz=>gO ?_) λz=>cX ?_
 .have z:=of_decide_eq_true z;obtain⟨j,l⟩:=x (.inl z);obtain⟨nq,lq,ne,le,l0⟩:=A8 w (in3' ⟨hw.1,j⟩) h (in3' ⟨q.1,l⟩);refine aP rfl (Ux k ns ⟨hw.1,j⟩ ⟨q.1,l⟩ _ _ λa Y es B r I=>H _ _ es B r (I.nodup ne) (λp R=>I.subset R) (by have:=I.length_le;lia))
 .have z:=of_decide_eq_false z;refine aY ⟨_,rfl,dC (w_mForI.mpr ((mI (j:=0)).mpr (aW (aN (bA (r:=(.loc (b++[C.lst []]).length,(b++[C.lst []])++[C.lst ([1,1,2].map D.int)])) rfl ⟨_,rfl,?_⟩)))))⟩;have B:=aU b (C.lst []);have E:=aU (b++[C.lst []]) (C.lst ([1,1,2].map D.int));have s:=bC (b++[C.lst []]) (C.lst ([1,1,2].map D.int));have r:=aJ E (bC b (C.lst []));generalize hm:(b++[C.lst []])++[C.lst ([1,1,2].map D.int)]=μ2 at E r s ⊢;have c:∀n:Nat,(n=1\/w<=3/\h<=3)->W (eU (i8 0 n) (cE 5) (Fx (k+5)) (n+1) 0 [b0 (.rol (ns.map D.int)),b0 (.int 0),b0 (.tup [.int w,.int h]),b0 (.int v),b0 (.loc b.length),b3,b3] μ2) λp=>p.1=.nx/\W (aO (aA 4) p.2.1 p.2.2) λp=>match p.1 with|.rt d=>Q (d,p.2.2)|.nx=>Q (.non,p.2.2)|_=>False:=λn K=>by
   refine j9 (lo:=0) (CoI w h (b0 (.rol (ns.map D.int))) (b0 (.int 0)) (b0 (.tup [.int w,.int h])) (b0 (.int v)) b.length b) (.mk (fs:=[]) .nil (λ_ h=>nomatch h) (Wh _) (B.trans E) r) ?_ ?_
   .rintro i _ e hi ⟨nd,o,N,p,g⟩;rename_i fs x5 x6;refine⟨_,rfl,w_mForI.mpr (w_iSeq.mpr (eQ (aW ⟨_,rfl,aW (aP rfl (nV (k+4) ns (by lia) _ _ ⟨_,rfl,UU (k+2) hw q _ _ _ λa Z ss G la J X L=>(c3 J).mpr ?_⟩))⟩)))⟩;have la:e.length<=a:=la;have lm:b.length<e.length:=(Wa.mp g).1;have M:fs.length<=200:=by
     rcases K with rfl|⟨j,l⟩
     .lia
     .have:=GN ⟨hw.1,j⟩ ⟨q.1,l⟩ nd o;lia
    refine UW nd o L M X (aJ G g) J (by lia) λgs y A u O=>.mk A u (by lia) (dJ (p.trans G) (Wh _) _) (cN (aJ G g))
   .rintro _ e ⟨nd,o,N,p,g⟩;refine⟨rfl,bW ⟨_,rfl,H _ _ _ p g nd o ?_⟩⟩;rcases K with rfl|⟨j,l⟩
    .lia
    .have:=GN ⟨hw.1,j⟩ ⟨q.1,l⟩ nd o;lia
  have U:v=3\/v=4\/v=5:=by lia
  rcases U with rfl|rfl|rfl
  .exact⟨_,bD ((eK s (show atI _ ((3:Int)-3)=b0 (.int 1)from rfl)).mpr rfl),_,rfl,⟨by decide,by decide⟩,c 1 (.inl rfl)⟩
  .exact⟨_,bD ((eK s (show atI _ ((4:Int)-3)=b0 (.int 1)from rfl)).mpr rfl),_,rfl,⟨by decide,by decide⟩,c 1 (.inl rfl)⟩
  .exact⟨_,bD ((eK s (show atI _ ((5:Int)-3)=b0 (.int 2)from rfl)).mpr rfl),_,rfl,⟨by decide,by decide⟩,c 2 (.inr (x (.inr rfl)))⟩
theorem nX{g:MF}{ms:MA}{b:aH}{a μ':Hm}{ds:List D}{r:D×Hm}(h:ms b a=b0 (ds,μ'))(e:g ds μ'=b0 r):aF g ms b a=b0 r:=bD (aP h ⟨_,e,rfl⟩)
theorem rY{o:jk}{m:ME}{b:aH}{a:Hm}{r:D×Hm}(e:o=fin (aO m b a))(h:m b a=b0 r):o=b0 r:=bD (bU e (bW ⟨_,h,rfl⟩))
theorem Bc(k:Nat)(i:Int)(a:Hm):f (k+1) "is_whole" [.int i] a=b0 (.bl b5,a):=(FG k _ a).trans (by kernel_rfl)
theorem GO(k:Nat){i:Int}(h:1<=i/\i<=6)(a:Hm):f (k+2) "is_size" [.int i] a=b0 (.bl b5,a):=rY (RN (k+1) _ a) (lE (nX rfl (Bc k i a)) (bD (w_mChain.mpr ⟨_,rfl,_,rfl,w_leI.mpr (by
 rw[decide_eq_true h.1];exact(if_pos rfl).mpr ⟨_,rfl,w_leI.mpr (by rw[decide_eq_true h.2])⟩)⟩)))
theorem UY(k:Nat){w h:Int}(hw:1<=w/\w<=6)(b:1<=h/\h<=6)(a:Hm):f (k+3) "check_size" [.int w,.int h] a=b0 (.non,a):=bD (bU (RO (k+2) _ _ a) (w_mIfS.mpr (iT (w_mAndT.mpr (eS (aP rfl (bA (GO k hw a) ⟨rfl,(if_pos rfl).mpr (eS (aP rfl (bA (GO k b a) ⟨rfl,(if_neg Wj).mpr (w_mNext.mpr rfl)⟩)))⟩)))))))
theorem UZ(k:Nat){s:Str}(h:s="o"\/s="h"\/s="v") (a:Hm):f (k+1) "is_mark" [.str s] a=b0 (.bl b5,a):=by
 rcases h with rfl|rfl|rfl
 .exact(AH k _ a).trans (by kernel_rfl)
 .exact(AH k _ a).trans (by kernel_rfl)
 .exact(AH k _ a).trans (by kernel_rfl)
theorem U0(k:Nat){w h:Int}{e:Int×Int}(j:dO w h e)(a:Hm):f (k+3) "is_inner_edge" [.int w,.int h,PP e] a=b0 (.bl b5,a):=by
 obtain⟨l,i⟩:=Xj.mp j;obtain⟨⟨b,c⟩,d,g⟩:=mem_pl.mp l;refine rY (RU (k+2) _ _ _ a) (lE (d:=b5) (nX rfl (rY (RB (k+1) _ a) (lE (c:=b5) (d:=b5) (by kernel_rfl) (lE (c:=b5) (d:=b5) (by kernel_rfl) (lE (nX rfl (Bc k _ a)) (nX rfl (Bc k _ a))))))) (lE (c:=b5) (d:=b5) (nX rfl (rY (RP (k+1) _ _ _ a) ?_)) (nX rfl (bD (GA (k+1) e a _ ?_)))))
 .refine lE (c:=b5) (d:=b5) ?_ ?_
  .refine(rW (x:=0) (y:=e.1) (z:=4*w) rfl rfl rfl).trans ?_;rw[decide_eq_true b,decide_eq_true c];rfl
  .refine(rW (x:=0) (y:=e.2) (z:=4*h) rfl rfl rfl).trans ?_;rw[decide_eq_true d,decide_eq_true g];rfl
 .rw[i]
noncomputable def bR(ms:List ((Int×Int)×Str)):jx:=ms.map λm=>(a9 m.1,.str m.2)
theorem GP{ms:List ((Int×Int)×Str)}{p:Int×Int}(h:p∉ms.map (·.1)):a8 (bR ms) (a9 p)=none:=by
 unfold a8;rw[Yx.mpr]
 .rfl
 .intro x a;obtain⟨z,b,rfl⟩:=Wz.mp a;rw[decide_eq_true_iff];exact λe=>h (iV e▸Wz.mpr ⟨z,b,rfl⟩)
theorem Bd{ms:List ((Int×Int)×Str)}{m:(Int×Int)×Str}(h:m.1∉ms.map (·.1)):b9 (bR ms) (a9 m.1) (.str m.2)=bR (ms++[m]):=by unfold b9;rw[GP h,if_neg (by simp)];unfold bR;rw[WE];rfl
theorem U1(ms:List ((Int×Int)×Str)):∃S:List ((Int×Int)×Str),S.Perm ms/\(t8 (bR ms)).map qO=S.map MD:=by
 refine⟨(cW (λi j=>HT.lexLt (((bR ms).map (·.1)).getD i []) (((bR ms).map (·.1)).getD j [])) (bR ms).length).map λi=>ms.getD i ((0,0),""),?_,?_⟩
 .have p:=(jY (λi j=>HT.lexLt (((bR ms).map (·.1)).getD i []) (((bR ms).map (·.1)).getD j [])) (bR ms).length).map λi=>ms.getD i ((0,0),"");have e:(bR ms).length=ms.length:=V7 ..;rw[e,F6]at p;rw[e];exact p
 .unfold t8;rw[WC,WC];refine XF λi a=>?_;have a:i<(bR ms).length:=Xn.mp ((jY _ _).mem_iff.mp a);have a:i<ms.length:=by unfold bR at a;rw[V7]at a;exact a
  unfold bR;simp[a,MD,qO,a9,PP,P]
inductive SoI (w h:Int)(a l:Nat)(ν:Hm)(ms:List ((Int×Int)×Str)):Nat->aH->Hm->Prop
 |mk {i:Nat}{x y:Option D}{μ:Hm}(p:ν<+:μ)(g:μ[l]?=b0 (.dT (bR (ms.take i)))):SoI w h a l ν ms i [b0 (.int w),b0 (.int h),b0 (.loc a),b0 (.loc l),x,y] μ
theorem U2(k:Nat){w h:Int}{a l:Nat}{b:Hm}{m:(Int×Int)×Str}{ms:List ((Int×Int)×Str)}(d:dO w h m.1)(e:m.2="o"\/m.2="h"\/m.2="v") (c:m.1∉ms.map (·.1))(i:ms.length<=900){y:Option D}(g:b[l]?=b0 (.dT (bR ms))){R:Fl×aH×Hm->Prop}
  (H:∀y,R (.nx,[b0 (.int w),b0 (.int h),b0 (.loc a),b0 (.loc l),b0 (MD m),y],b.set l (.dT (bR (ms++[m]))))):W (Ay (k+3) [b0 (.int w),b0 (.int h),b0 (.loc a),b0 (.loc l),b0 (MD m),y] b) R:=by
 refine aY ⟨_,rfl,gN (iT (eS (aP rfl (bA (U0 k d b) ⟨rfl,rfl,cX (gN (iT (eS (aP rfl (bA (UZ (k+2) e b) ⟨rfl,rfl,cX (gN (bX (aZ rfl rfl ((k5 g (cB m.1)).mpr ?_))))⟩)))))⟩))))⟩;rw[GP c];refine⟨_,rfl,rfl,cX (w_mPut.mpr ⟨_,rfl,_,rfl,_,rfl,(mJ g (cB m.1) (by unfold bR;rw[V7,Wv];lia)).mpr ?_⟩)⟩;rw[Bd c];exact H _
theorem U3(k:Nat){w h:Int}(hw:1<=w/\w<=6)(u:1<=h/\h<=6){ms:List ((Int×Int)×Str)}(v:ms.length<64)(nd:(ms.map (·.1)).Nodup)(s:∀m∈ms,dO w h m.1)(ok:∀m∈ms,m.2="o"\/m.2="h"\/m.2="v")
  {b:Hm}{a:Nat}(o:b[a]?=b0 (.lst (ms.map MD)))(Q:jz)(H:∀S c,b<+:c->S.Perm ms->Q (SH w h S,c)):W (f (k+4) "sheet_of" [.int w,.int h,.loc a] b) Q:=by
 refine bU (RV (k+3) _ _ _ b) (k6 (aP rfl (bA (UY k hw u b) (aY (w_mDNewT.mpr (dC (w_mForI.mpr (w_iSeq.mpr ⟨_,rfl,(c3 (aJ (aU _ _) o)).mpr ?_⟩))))))));refine gM (b:=Ay (k+3)) (SoI w h a b.length b ms) (.mk (aU _ _) (by rw[XJ];exact bC _ _)) (by rintro _ _ _ ⟨p,_⟩;exact aJ p o) ?_ ?_
 .rintro i d _ _ hd ⟨p,g⟩;rw[Ws]at hd;obtain⟨m,l,rfl⟩:=Wb.mp hd;have n:=WS l;refine⟨_,rfl,U2 k (s m n) (ok m n) ?_ (by rw[Xa];lia) g λy=>.mk (dJ p (Wh _) _) ?_⟩
  .have:=nW nd (n:=i) (x:=m.1) (by rw[Ws,l];rfl);rw[<- a2u]at this;exact this
  .rw[cN g,gQ l]
 .rintro _ j ⟨p,g⟩;rw[V7,W9]at g;obtain⟨S,q,r⟩:=U1 ms;have e:uB (.loc b.length) j=b0 (.tup (S.map MD),j):=by simp only[uB,g];rw[if_pos (by first|exact trivial|(unfold bR;rw[V7];lia)),r]
  exact⟨rfl,bW (w_mTup.mpr (aW ⟨_,rfl,aW ⟨_,rfl,aW (W_bind.mpr ⟨_,rfl,_,e,_,rfl,by show(3:Nat)<=Wq;decide,H _ _ p q⟩)⟩⟩))⟩
noncomputable def mkS:List Str:=["o","o","h","v","o","o","o","o"]
theorem U4:∀j:Nat,j<8->∃s:Str,(s="o"\/s="h"\/s="v")/\atI (mkS.map D.str) (j:Int)=b0 (.str s)
 |0,_=>⟨"o",.inl rfl,rfl⟩|1,_=>⟨"o",.inl rfl,rfl⟩|2,_=>⟨"h",.inr (.inl rfl),rfl⟩|3,_=>⟨"v",.inr (.inr rfl),rfl⟩|4,_=>⟨"o",.inl rfl,rfl⟩|5,_=>⟨"o",.inl rfl,rfl⟩|6,_=>⟨"o",.inl rfl,rfl⟩|7,_=>⟨"o",.inl rfl,rfl⟩|n+8,h=>absurd h (by lia)
theorem U5{i:Int}(h:0<=i/\i<3):∃t:Int,(0<t/\t<=8)/\atI ([3,4,8].map D.int) i=b0 (.int t):=by
 have:i=0\/i=1\/i=2:=by lia
 rcases this with rfl|rfl|rfl
 .exact⟨3,by decide,rfl⟩
 .exact⟨4,by decide,rfl⟩
 .exact⟨8,by decide,rfl⟩
theorem U6{d0 d1 d2 d3 d d5 x9:Option D}{z:Int×Int}{n:Int}{b:Nat}{a:Hm}{ms:List ((Int×Int)×Str)}(p:ms.length<=900)(g:a[b]?=b0 (.lst (ms.map MD))){R:Fl×aH×Hm->Prop}
  (H:∀(s:Str) n' x9 μ',(s="o"\/s="h"\/s="v")->a<+:μ'->R (.nx,[d0,d1,d2,d3,d,d5,b0 (PP z),b0 (.int n'),b0 (.loc b),x9],μ'.set b (.lst ((ms++[(z,s)]).map MD)))) :
  W (Fy [d0,d1,d2,d3,d,d5,b0 (PP z),b0 (.int n),b0 (.loc b),x9] a) R:=by
 obtain⟨t,o,i⟩:=U5 (i:=n%3) (by lia);have q:0<=n/16%t/\n/16%t<t:=⟨Zz _ (by lia),YV _ (by lia)⟩;obtain⟨j,k⟩:∃j:Nat,n/16%t=j:=⟨(n/16%t).toNat,by lia⟩;obtain⟨s,l,h⟩:=U4 j (by lia);refine aY (aN (bA (r:=(.int (n/16),a)) (by kernel_rfl) (aN (bA (r:=(.loc a.length,a++[C.lst ([3,4,8].map D.int)])) (by kernel_rfl) (bA (r:=(.int (n%3),a++[C.lst ([3,4,8].map D.int)])) (by kernel_rfl) ((eK (bC _ _) i).mpr ((cZ o.1).mpr ?_)))))));rw[k];have c:=aU a (C.lst ([3,4,8].map D.int));generalize a++[C.lst ([3,4,8].map D.int)]=μ1 at c ⊢;refine k6 (eF ⟨_,rfl,dX (aJ c g),aW (w_mTup.mpr (aW ⟨_,rfl,aW (aN (bA (r:=(.loc μ1.length,μ1++[C.lst (mkS.map D.str)])) (by kernel_rfl) ⟨_,rfl,(eK (bC _ _) h).mpr ⟨_,rfl,jH,_,rfl,?_⟩⟩))⟩))⟩);have e:=aU μ1 (C.lst (mkS.map D.str));refine(fS (aJ (c.trans e) g) (by rw[V7,Wv];lia)).mpr (w_mSet.mpr (aN (aN (aN ⟨_,rfl,_,rfl,(kZ (.inr ⟨by decide,by decide⟩)).mpr ⟨_,rfl,w_addI.mpr ⟨_,rfl,(cZ (by decide)).mpr ?_⟩⟩⟩))));rw[show ms.map MD++[D.tup [PP z,.str s]]=(ms++[(z,s)]).map MD by rw[WE];rfl];exact H s _ _ _ l (c.trans e)
inductive MrI (d0 d1 d2 d3 d4 d5:Option D)(l b:Nat)(ν:Hm)(es:jq):Nat->aH->Hm->Prop
 |mk {i:Nat}{n:Int}{x6 x9:Option D}{μ:Hm}{ms:List ((Int×Int)×Str)}(p:ν<+:μ)(gl:μ[l]?=b0 (.lst (es.map PP)))(g:μ[b]?=b0 (.lst (ms.map MD)))(hm:ms.map (·.1)=es.take i)(ok:∀m∈ms,m.2="o"\/m.2="h"\/m.2="v"):MrI d0 d1 d2 d3 d4 d5 l b ν es i [d0,d1,d2,d3,d4,d5,x6,b0 (.int n),b0 (.loc b),x9] μ
inductive ShOk (S:List ((Int×Int)×Str)):Prop
 |mk (len:S.length<=55)(nd:(S.map (·.1)).Nodup)(ok:∀m∈S,m.2="o"\/m.2="h"\/m.2="v")
theorem GQ(k:Nat){ns:List Int}{w h:Int}(hw:1<=w/\w<=6)(v:1<=h/\h<=6){es:jq}(nd:es.Nodup)(u:∀p∈es,dO w h p)(B:es.length<=55){l:Nat}{b:Hm}(gl:b[l]?=b0 (.lst (es.map PP))){d2 d5 d6:Option D}{R:Fl×aH×Hm->Prop}(H:∀S A μ',ShOk S->R (.rt (SH w h S),A,μ')) :
  W (Fz (k+4) [b0 (.rol (ns.map D.int)),b0 (.int 0),d2,b0 (.tup [.int w,.int h]),b0 (.loc l),d5,d6,b3,b3,b3] b) R:=by
 refine aY (aN (aP rfl (nV (k+3) ns (by lia) _ _ ⟨_,rfl,(cZ (by decide)).mpr (aY ⟨_,rfl,?_⟩)⟩)));have r:=aU b (C.lst []);have E:l<b.length:=(Wa.mp gl).1;refine dC (w_mForI.mpr (w_iSeq.mpr ⟨_,rfl,(c3 (aJ r gl)).mpr ?_⟩));refine gM (MrI (b0 (.rol (ns.map D.int))) (b0 (.int 0)) d2 (b0 (.tup [.int w,.int h])) (b0 (.loc l)) d5 l b.length b es) (.mk (ms:=[]) r (aJ r gl) (bC _ _) (by rw[XJ];rfl) (λ_ h=>nomatch h)) (by rintro _ _ _ ⟨_,g,_,_,_⟩;exact g) ?_ ?_
 .rintro i d _ _ hd ⟨p,c,g,a,ok⟩;obtain⟨z,y,rfl⟩:=k8 hd;rename_i q;have e:q.length<=900:=by have:=congrArg Xm a;rw[V7,Xa]at this;lia
  refine⟨_,rfl,U6 e g λs G I μ' x j=>.mk (dJ (p.trans j) (Wh _) _) ?_ (cN (aJ j g)) ?_ λm a=>?_⟩
  .rw[Wu (by lia)];exact aJ j c
  .rw[WE,a,gQ y];rfl
  .rcases WK.mp a with a|a
   .exact ok m a
   .rw[WB.mp a];exact x
 .rintro _ _ ⟨p,c,g,a,ok⟩;rename_i q;rw[V7,W9]at a;have e:q.length=es.length:=by have:=congrArg Xm a;rw[V7]at this;exact this
  refine⟨rfl,bW (aP rfl (U3 k hw v (by lia) (by rw[a];exact nd) (λm n=>u _ (by rw[<- a];exact Wz.mpr ⟨m,n,rfl⟩)) ok g _ λS μ' j o=>H S _ _ ⟨by rw[o.length_eq];lia,(o.map (·.1)).nodup_iff.mpr (by rw[a];exact nd),λm n=>ok m (o.mem_iff.mp n)⟩))⟩
theorem U7{w h:Int}{es:jq}(nd:es.Nodup)(g:∀p∈es,dO w h p)(r:es.length<=54){z:Int×Int}(hz:dO w h z){l:Nat}{d:Hm}(gl:d[l]?=b0 (.lst (es.map PP))){d0 d1 d2 d3 d5:Option D}{R:Fl×aH×Hm->Prop}(H:∀fs:jq,fs.Nodup->(∀p∈fs,dO w h p)->fs.length<=55->R (.nx,[d0,d1,d2,d3,b0 (.loc l),d5,b0 (PP z),b3,b3,b3],d.set l (.lst (fs.map PP)))) :
  W (FA [d0,d1,d2,d3,b0 (.loc l),d5,b0 (PP z),b3,b3,b3] d) R:=by
 refine w_mIfS.mpr (bX (aZ rfl rfl ((AZ gl).mpr ⟨_,rfl,?_⟩)));cases b:es.any λp=>p==z with
 |true=>
  have c:z∈es:=by obtain⟨y,n,e⟩:=ZQ.mp b;rw[<- beq_iff_eq.mp e];exact n
  exact(if_pos rfl).mpr (w_mDrop.mpr (eF ⟨_,rfl,dX gl,_,rfl,Ub gl c (by lia) λo j i=>H o (j.nodup nd) (λp a=>g p (j.subset a)) (by lia)⟩))
 |false=>
  have k:z∉es:=λc=>by have:(es.any λp=>p==z)=true:=ZQ.mpr ⟨z,c,beq_self_eq_true z⟩;rw[this]at b;cases b
  refine(if_neg Wj).mpr (w_mDrop.mpr (eF ⟨_,rfl,dX gl,_,rfl,(fS gl (by rw[V7,Wv];lia)).mpr ?_⟩));rw[show es.map PP++[PP z]=(es++[z]).map PP by rw[WE];rfl];refine H _ (Y4.mpr ⟨nd,Xi.mpr ⟨Yl,.nil⟩,λp a q i e=>k ?_⟩) (λp a=>?_) (by rw[Wo];show _+1<=_;lia)
  .rw[<- WB.mp i,<- e];exact a
  .rcases WK.mp a with a|a
   .exact g p a
   .rw[WB.mp a];exact hz
theorem U8{w h:Int}(hw:1<=w)(a:1<=h):0<((cI w h).filter dG).length:=a2I (a:=(1,1)) (Xj.mpr ⟨mem_pl.mpr ⟨⟨by decide,by dsimp only;lia⟩,by decide,by dsimp only;lia⟩,by decide⟩)
theorem GR(k:Nat){ns:List Int}{v w h:Int}(hw:1<=w/\w<=6)(e:1<=h/\h<=6){es:jq}(nd:es.Nodup)(q:∀p∈es,dO w h p)(x:es.length<=54){l:Nat}{r:Hm}(gl:r[l]?=b0 (.lst (es.map PP))){R:Fl×aH×Hm->Prop}(H:∀S A μ',ShOk S->R (.rt (SH w h S),A,μ')) :
  W (Az (k+4) [b0 (.rol (ns.map D.int)),b0 (.int 0),b0 (.int v),b0 (.tup [.int w,.int h]),b0 (.loc l),b3,b3,b3,b3,b3] r) R:=by
 refine aY (aP rfl (GC (k+2) hw e _ _ λa b z o=>?_));have B:=U8 hw.1 e.1;have c:=aJ z gl;refine f7 (b:=v/324%4==1) (μ':=b) (by kernel_rfl) (λ_=>rN ?_) λ_=>cX (GQ k hw e nd q (by lia) c H);have s:bL [.loc a] b=b0 (.int (((cI w h).filter dG).length:Nat),b):=bD ((dN o).mpr (by rw[V7]));obtain⟨j,u⟩:∃j:Nat,v/1296%(((cI w h).filter dG).length:Int)=j:=⟨(v/1296%(((cI w h).filter dG).length:Int)).toNat,by have:=Zz (v/1296) (b:=(((cI w h).filter dG).length:Int)) (by lia);lia⟩;have d:j<((cI w h).filter dG).length:=by have:=YV (v/1296) (b:=(((cI w h).filter dG).length:Int)) (by lia);lia
 refine aY (aN ⟨_,rfl,aN (bA (r:=(.int (v/1296),b)) (by kernel_rfl) (aP rfl (bA s ((cZ (by lia)).mpr ?_))))⟩);rw[u];refine⟨_,fU o d,?_⟩;have y:dO w h (((cI w h).filter dG).getD j (0,0)):=by unfold dO;rw[Yg,Wi d];exact XY d
 refine dC (U7 nd q x y c λfs n g i=>⟨rfl,GQ k hw e n g i (cN c) H⟩)
noncomputable def U9(k:Nat):MS:=aG (aL 4 (aF (f k "_law_creases") (aB (aA 0) (aB (aA 1) (aB (aA 3) aD))))) (aG (bB (fP (aQ (aC (aT b4) (aC aV (aC dB (aA 2) (mC (.int 9))) (mC (.int 6))) (mC (.int 5)))) (aQ (aC (aT b4) (aC aV (aC dB (aA 2) (mC (.int 5184))) (mC (.int 4))) (mC (.int 1))))) (aG (aL 3 (aX (aB (mC (.int 3)) (aB (mC (.int 3)) aD)))) (aL 4 (aF (f k "_law_square") aD))) bF) (Az k))
theorem Va:∀p∈sqA++sqB,(decide (0<p.1/\p.1<4*3)&&decide (0<p.2/\p.2<4*3)&&dG p)=true:=by decide
theorem GS(k:Nat){ns:List Int}{w h:Int}(hw:1<=w/\w<=6)(d:1<=h/\h<=6)(n:cU ns 0/9%6<3\/cU ns 0/9%6=5->w<=3/\h<=3){r:Hm}{R:Fl×aH×Hm->Prop}(H:∀w h S b μ',1<=w/\w<=6->1<=h/\h<=6->ShOk S->R (.rt (SH w h S),b,μ')) :
  W (U9 (k+6) [b0 (.rol (ns.map D.int)),b0 (.int 0),b0 (.int (cU ns 0)),b0 (.tup [.int w,.int h]),b3,b3,b3,b3,b3,b3] r) R:=by
 refine aY (aP rfl (UX k ns hw d n _ _ λa e u v g nd j o=>?_));refine f7 (μ':=e) (rX (kG (b:=cU ns 0/9%6==5) (by kernel_rfl)) (kG (b:=cU ns 0/5184%4==1) (by kernel_rfl))) (λ_=>rN (aY ⟨_,rfl,?_⟩)) λ_=>cX (GR (k+2) hw d nd j o g λS b μ' c=>H w h S b μ' hw d c);refine aY (aP rfl (Ud (k+5) _ _ λl s x _ i=>GR (k+2) (w:=3) (h:=3) (by decide) (by decide) sq_ok.1 (λp q=>?_) (by decide) i λS b μ' c=>H 3 3 S b μ' (by decide) (by decide) c));have:=Va p q;simp only[Wl,decide_eq_true_eq]at this;exact lF this.1.1 this.1.2 this.2
theorem Vb(k:Nat)(ns:List Int)(a:Hm)(Q:jz)(H:∀w h S μ',1<=w/\w<=6->1<=h/\h<=6->ShOk S->Q (SH w h S,μ')):W (f (k+7) "_law_sheet" [.rol (ns.map D.int),.int 0] a) Q:=by
 refine bU (SG (k+6) _ _ a) (aY (aP rfl (nV (k+5) ns (by lia) _ _ ?_)));have g:0<=cU ns 0%3/\cU ns 0%3<3/\0<=cU ns 0/3%3/\cU ns 0/3%3<3:=by lia
 refine aY (bA (r:=(.tup [.int (1+cU ns 0%3),.int (1+cU ns 0/3%3)],a)) (by kernel_rfl) ?_);refine f7 (μ':=a) (rX (kG (rW (x:=2) (y:=cU ns 0/9%6) (z:=5) rfl (by kernel_rfl) rfl)) (kG (b:=cU ns 0/5184%4==1) (by kernel_rfl))) (λz=>?_) λz=>cX ?_
 .simp only[Wl,decide_eq_true_eq]at z;refine aY (bA (r:=(.tup [.int (1+cU ns 0%3+3),.int (1+cU ns 0/3%3+3)],a)) (by kernel_rfl) ?_);exact GS k (by lia) (by lia) (λy=>by lia) λw h S e μ' b c d=>H w h S μ' b c d
 .exact GS k (by lia) (by lia) (λy=>by lia) λw h S e μ' b c d=>H w h S μ' b c d
noncomputable abbrev Ed:=Int×Int
noncomputable abbrev St:=Ed×Ed×Bool×Ed
noncomputable def iX(s:St):St:=(s.2.1,s.1,s.2.2.1,s.2.2.2)
noncomputable def cY(T:List St)(e:Ed):List St:=T.flatMap λt=>(if t.1=e then[t]else[])++if t.2.1=e then[iX t]else[]
theorem fr_mem{T:List St}{e:Ed}{s:St}:s∈cY T e↔s.1=e/\(s∈T\/iX s∈T):=by
 unfold cY;rw[a0m];constructor
 .rintro⟨t,b,a⟩;rcases WK.mp a with a|a
  .by_cases h:t.1=e
   .rw[if_pos h]at a;rw[WB.mp a];exact⟨h,.inl b⟩
   .rw[if_neg h]at a;cases a
  .by_cases h:t.2.1=e
   .rw[if_pos h]at a;rw[WB.mp a];exact⟨h,.inr b⟩
   .rw[if_neg h]at a;cases a
 .rintro⟨h,a|a⟩
  .exact⟨s,a,WK.mpr (.inl (by rw[if_pos h];exact .head _))⟩
  .exact⟨iX s,a,WK.mpr (.inr (by rw[if_pos (show(iX s).2.1=e from h)];exact .head _))⟩
inductive Rc (T:List St)(M:List Ed):List (Ed×Option St)->Prop
 |st:Rc T M (M.map λe=>(e,b3))
 |sn {R:List (Ed×Option St)}{s:St}(h:Rc T M R)(hs:s∈cY T s.1)(h1:s.1∈R.map (·.1))(h2:s.2.1∉R.map (·.1)):Rc T M (R++[(s.2.1,b0 s)])
theorem vL(M:List Ed):(M.map λe=>(e,(b3:Option St))).map (·.1)=M:=by rw[WC];exact a5m _
theorem Rc.nd{T:List St}{M:List Ed}{R:List (Ed×Option St)}(c:M.Nodup)(h:Rc T M R):(R.map (·.1)).Nodup:=by
 induction h with
 |st=>rw[vL];exact c|sn h j i b g=>rw[WE];refine Y4.mpr ⟨g,Xi.mpr ⟨Yl,.nil⟩,λx a y d e=>b ?_⟩;have:y=_:=WB.mp d;rw[e,this]at a;exact a
theorem Rc.up{T:List St}{M:List Ed}{R:List (Ed×Option St)}(h:Rc T M R):∀e o,(e,o)∈R->match o with|none=>e∈M|some s=>s.2.1=e/\s∈cY T s.1/\s.1∈R.map (·.1)/\(R.map (·.1)).idxOf s.1<(R.map (·.1)).idxOf e:=by
 induction h with
 |st=>intro e o h;obtain⟨x,p,j⟩:=Wz.mp h;cases j;exact p|@sn R s h n i k q=>
  intro e o g;rw[WE];rcases WK.mp g with g|g
  .have:=q e o g;have l:e∈R.map (·.1):=Wz.mpr ⟨_,g,rfl⟩;cases o with
   |none=>exact this|some t=>obtain⟨a,b,c,d⟩:=this;refine⟨a,b,WK.mpr (.inl c),?_⟩;rw[a0h,a0h,if_pos c,if_pos l];exact d
  .cases WB.mp g;refine⟨rfl,n,WK.mpr (.inl i),?_⟩;rw[a0h,a0h,if_pos i,if_neg k];have:=a2v.mpr i;lia
inductive Wy (T:List St):Ed->List St->Ed->Prop
 |nil (e:Ed):Wy T e [] e
 |cons {s:St}{w:List St}{e:Ed}(hs:s∈cY T s.1)(h:Wy T s.2.1 w e):Wy T s.1 (s::w) e
noncomputable def fD(w:List St):Nat:=(w.filter λs=>!s.2.2.1).length
noncomputable def iY(b:Bool):Int:=if b then 0 else 1
structure Gr(T:List St)(C:List Ed)(r:Ed->Ed)(p:Ed->Int):Prop where
 on:∀e∈C,p e=0\/p e=1
 ti:∀t∈T,r t.1=r t.2.1/\(p t.1+p t.2.1+iY t.2.2.1)%2=0
theorem Gr.way{T:List St}{C:List Ed}{r:Ed->Ed}{p:Ed->Int}(g:Gr T C r p){m e:Ed}{w:List St}(h:Wy T m w e):r m=r e/\(p m+p e+fD w)%2=0:=by
 induction h with
 |nil e=>exact⟨rfl,by show(p e+p e+((0:Nat):Int))%2=0;lia⟩|@cons s w e j h d=>
  have:r s.1=r s.2.1/\(p s.1+p s.2.1+iY s.2.2.1)%2=0:=by
   rcases(fr_mem.mp j).2 with b|b
   .exact g.ti s b
   .have:=g.ti _ b;refine⟨this.1.symm,?_⟩;have k:(p s.2.1+p s.1+iY s.2.2.1)%2=0:=this.2;lia
  refine⟨this.1.trans d.1,?_⟩;have a:=this.2;have i:=d.2;unfold fD at i ⊢;rw[YS];cases c:s.2.2.1 with
  |true=>rw[if_neg (by simp)];rw[c]at a;unfold iY at a;simp only[if_true]at a;lia|false=>rw[if_pos (by rfl),WO];rw[c]at a;unfold iY at a;simp only[WQ,if_false]at a;lia
inductive Cn (T:List St):Ed->Ed->Prop
 |rf (e:Ed):Cn T e e
 |go {e:Ed}{s:St}(h:Cn T e s.1)(hs:s∈cY T s.1):Cn T e s.2.1
theorem Cn.tr{T:List St}{a b c:Ed}(h:Cn T a b)(g:Cn T b c):Cn T a c:=by
 induction g with
 |rf=>exact h|go g d e=>exact .go e d
theorem Vc{T:List St}{s:St}(h:s∈cY T s.1):iX s∈cY T (iX s).1:=fr_mem.mpr ⟨rfl,(fr_mem.mp h).2.symm.imp id id⟩
theorem Cn.sy{T:List St}{a b:Ed}(h:Cn T a b):Cn T b a:=by
 induction h with
 |rf=>exact .rf _|@go s h c d=>exact Cn.tr (.go (s:=iX s) (.rf _) (Vc c)) d
theorem Cn.cl{T:List St}{R:List Ed}(hc:∀e∈R,∀s∈cY T e,s.2.1∈R){a b:Ed}(h:Cn T a b)(c:a∈R):b∈R:=by
 induction h with
 |rf=>exact c|go h d g=>exact hc _ g _ d
noncomputable def bE(s:St):D:=.tup [PP s.1,PP s.2.1,.bl s.2.2.1,PP s.2.2.2]
theorem Vd(kvs:jx)(k k':List Int)(d:D):a8 (kvs.map λp=>if p.1=k then(p.1,d)else p) k'=if k'=k then(a8 kvs k').map λ_=>d else a8 kvs k':=by
 induction kvs with
 |nil=>split<;>rfl|cons x e b=>
  unfold a8 at b ⊢;rw[WA,Xr,Xr];have c:(if x.1=k then(x.1,d)else x).1=x.1:=by split<;>rfl
  rw[c];by_cases h:x.1=k'
  .rw[decide_eq_true h];by_cases a:x.1=k
   .rw[if_pos a,if_pos (h.symm.trans a)];rfl
   .rw[if_neg a,if_neg (λz=>a (h.trans z))]
  .rw[decide_eq_false h];exact b
theorem rZ(kvs:jx)(k k':List Int)(d:D):a8 (b9 kvs k d) k'=if k'=k then b0 d else a8 kvs k':=by
 unfold b9;by_cases h:(a8 kvs k).isSome=b5
 .rw[if_pos h,Vd];by_cases e:k'=k
  .rw[if_pos e,if_pos e,e];obtain⟨v,b⟩:=a2c.mp h;rw[b];rfl
  .rw[if_neg e,if_neg e]
 .rw[if_neg h];have a:kvs.find? (λp=>decide (p.1=k))=none:=by
   unfold a8 at h;cases z:kvs.find? (λp=>decide (p.1=k))with
   |none=>rfl|some v=>rw[z]at h;exact absurd rfl h
  unfold a8;rw[a4g];by_cases e:k'=k
  .rw[if_pos e,e,a];simp
  .rw[if_neg e];cases kvs.find? (λp=>decide (p.1=k'))with
   |some v=>rfl|none=>rw[Xr,decide_eq_false (λz=>e z.symm)];rfl
theorem GU(kvs:jx)(k:List Int)(d:D):(b9 kvs k d).length<=kvs.length+1:=by
 unfold b9;split
 .rw[V7];lia
 .rw[Wo];exact Wh _
structure SD(ν:Hm)(κ:Nat)(μ:Hm)(a:Nat)(kvs:jx)(F:Ed->List St):Prop where
 pre:ν<+:μ
 la:ν.length<=a/\ν.length<=κ/\κ<=μ.length
 dic:μ[a]?=b0 (.dT kvs)
 no:∀e,a8 kvs (a9 e)=b3->F e=[]
 ats:∀e d,a8 kvs (a9 e)=b0 d->∃l,d=.loc l/\κ<=l/\μ[l]?=b0 (.lst ((F e).map bE))
 inj:∀e e' d,a8 kvs (a9 e)=b0 d->a8 kvs (a9 e')=b0 d->e=e'
section
variable{ν μ μ':Hm}{κ a l:Nat}{kvs:jx}{F:Ed->List St}{s:St}
theorem SD.more(h:SD ν κ μ a kvs F)(p:μ<+:μ'):SD ν κ μ' a kvs F:=⟨h.pre.trans p,⟨h.la.1,h.la.2.1,W7 h.la.2.2 p.length_le⟩,aJ p h.dic,h.no,λe d z=>(h.ats e d z).imp λl ⟨x,y,g⟩=>⟨x,y,aJ p g⟩,h.inj⟩
noncomputable def iZ(F:Ed->List St)(s:St):Ed->List St:=λx=>if x=s.1 then F x++[s]else F x
theorem SD.ne(h:SD ν κ μ a kvs F){xs:List D}(g:μ[l]?=b0 (.lst xs)):l≠a:=λz=>by have:=h.dic;rw[<- z,g]at this;cases this
theorem SD.old(h:SD ν κ μ a kvs F)(c:a8 kvs (a9 s.1)=b0 (.loc l)):SD ν κ (μ.set l (.lst ((F s.1).map bE++[bE s]))) a kvs (iZ F s):=by
 obtain⟨p,e,j,g⟩:=h.ats _ _ c;cases e;refine⟨dJ h.pre (W7 h.la.2.1 j) _,⟨h.la.1,h.la.2.1,by rw[XW];exact h.la.2.2⟩,by rw[Wu (h.ne g)];exact h.dic,λe b=>?_,λe d b=>?_,h.inj⟩
 .unfold iZ;rw[if_neg λz=>by rw[z,c]at b;cases b];exact h.no e b
 .unfold iZ;by_cases z:e=s.1
  .rw[if_pos z];rw[z,c]at b;cases b;exact⟨l,rfl,j,by rw[cN g,z,WE];rfl⟩
  .rw[if_neg z];obtain⟨k,i,o,n⟩:=h.ats _ _ b;refine⟨k,i,o,?_⟩;rw[Wu (λy:l=k=>z (h.inj _ _ _ (by rw[b,i,y]) c))];exact n
theorem SD.new(h:SD ν κ μ a kvs F)(r:a8 kvs (a9 s.1)=b3):SD ν κ (((μ++[C.lst []]).set a (.dT (b9 kvs (a9 s.1) (.loc μ.length)))).set μ.length (.lst [bE s])) a (b9 kvs (a9 s.1) (.loc μ.length)) (iZ F s):=by
 have i:=aU μ (C.lst []);have lt:a<μ.length:=(Wa.mp h.dic).1;have o:=h.pre.length_le;have w:=bC μ (C.lst []);refine⟨dJ (dJ (h.pre.trans i) h.la.1 _) o _,⟨h.la.1,h.la.2.1,by rw[XW,XW];exact W7 h.la.2.2 i.length_le⟩,?_,λe b=>?_,λe d b=>?_,λe p d b c=>?_⟩
 .rw[Wu (by lia),cN (aJ i h.dic)]
 .rw[rZ]at b;by_cases z:a9 e=a9 s.1
  .rw[if_pos z]at b;cases b
  .rw[if_neg z]at b;unfold iZ;rw[if_neg λy=>z (congrArg a9 y)];exact h.no e b
 .rw[rZ]at b;unfold iZ;by_cases z:a9 e=a9 s.1
  .rw[if_pos z]at b;cases b;rw[if_pos (iV z)];refine⟨_,rfl,h.la.2.2,?_⟩;rw[Xk (by rw[XW,Wo];exact X7 _),iV z,h.no _ r];rfl
  .rw[if_neg z]at b;rw[if_neg λy=>z (congrArg a9 y)];obtain⟨n,k,q,g⟩:=h.ats _ _ b;refine⟨n,k,q,?_⟩;have v:n<μ.length:=(Wa.mp g).1;rw[Wu (by lia),Wu (Xh (h.ne g))];exact aJ i g
 .have fresh:∀x,a8 kvs (a9 x)≠b0 (.loc μ.length):=λx u=>by obtain⟨n,k,_,g⟩:=h.ats _ _ u;cases k;exact absurd (Wa.mp g).1 (X3 _)
  rw[rZ]at b c;by_cases z:a9 e=a9 s.1<;>by_cases j:a9 p=a9 s.1
  .exact(iV z).trans (iV j).symm
  .rw[if_pos z]at b;rw[if_neg j]at c;cases b;exact absurd c (fresh _)
  .rw[if_neg z]at b;rw[if_pos j]at c;cases c;exact absurd b (fresh _)
  .rw[if_neg z]at b;rw[if_neg j]at c;exact h.inj _ _ _ b c
theorem vM{f:D->List D->Hm->jk}{c:ME}{ms:MA}{b:aH}{Q:jz}(d:c b μ=b0 (.loc a,μ))(hc:μ[a]?=b0 (.dT kvs))(h:W (ms b μ) λq=>W (f (.loc a) q.1 q.2) Q):W (j5 f c ms b μ) Q:=by unfold j5;rw[d,WH,show qM μ (.loc a)=b5 by simp only[qM,hc]];exact W_bind.mpr h
theorem GV{p q:ME}{n:aH}{i:Nat}(y:∀μ,aA i n μ=b0 (.loc a,μ))(h1:∀μ,p n μ=b0 (PP s.1,μ))(v:∀μ,q n μ=b0 (bE s,μ))(J:SD ν κ μ a kvs F)(z:(F s.1).length<=900)(A:kvs.length<=900){R:Fl×aH×Hm->Prop}
  (H:∀μ' h,SD ν κ μ' a h (iZ F s)->h.length<=kvs.length+1->(∀b c,b<κ->b≠a->μ[b]?=b0 c->μ'[b]?=b0 c)->R (.nx,n,μ')) :
  W (cK (cS dU (j5 f6 (aA i) (aB p (aB (b6 aD) aD))) (aB q aD)) n μ) R:=by
 have j:=aU μ (C.lst []);have lt:a<μ.length:=(Wa.mp J.dic).1;refine w_mDrop.mpr (eF (vM (y μ) J.dic (aW ⟨_,h1 μ,aW ⟨_,rfl,_,rfl,?_⟩⟩)));have u:=aJ j J.dic;cases k:a8 kvs (a9 s.1)with
 |some d=>
  obtain⟨l,rfl,B,g⟩:=J.ats _ _ k;have e:f6 (.loc a) [PP s.1,.loc μ.length] (μ++[C.lst []])=b0 (.loc l,μ++[C.lst []]):=by simp only[f6,u,cB,WH,k]
  refine⟨_,e,dX (aJ j g),aW ⟨_,v _,_,rfl,(fS (aJ j g) (by rw[V7,Wv];lia)).mpr (H _ _ ((J.more j).old k) (Zd _) λb c x _ o=>?_)⟩⟩;rw[Wu (by lia)];exact aJ j o
 |none=>
  have e:f6 (.loc a) [PP s.1,.loc μ.length] (μ++[C.lst []])=b0 (.loc μ.length,(μ++[C.lst []]).set a (.dT (b9 kvs (a9 s.1) (.loc μ.length)))):=by simp only[f6,u,cB,WH,k];rw[if_pos (by rw[Wv];lia)]
  have r:((μ++[C.lst []]).set a (.dT (b9 kvs (a9 s.1) (.loc μ.length))))[μ.length]?=b0 (.lst []):=by rw[Wu (by lia)];exact bC _ _
  refine⟨_,e,dX r,aW ⟨_,v _,_,rfl,(fS r (by decide)).mpr (H _ _ (J.new k) (GU _ _ _) λb c x w o=>?_)⟩⟩;have:=J.la.2.2;rw[Wu (by lia),Wu (Xh w)];exact aJ j o
end
noncomputable def Be(l:List Int):Ed:=(l.getD 0 0,l.getD 1 0)
noncomputable def Ve(t:Ti):St:=(Be t.1,Be t.2.1,t.2.2.1,Be t.2.2.2)
theorem GW{a:Type}{l:List a}{i:Nat}(h:i<l.length)(d:a):l.getD i d∈l:=by rw[Yg,Wi h];exact XY h
theorem GX{m:Int×Int->Bool}{w h:Int}{t:Ti}(b:t∈fC m w h):∃p q a c,t=fT p q a c/\m p=b5/\m q=true:=by
 obtain⟨c,_,b⟩:=a0m.mp b;have d:∀{i:Nat},i<(bH m c).length->m ((bH m c).getD i (0,0))=true:=λe=>(Xj.mp (GW e (0,0))).2;unfold fK at b;split at b
 .rename_i k;rw[WB.mp b];exact⟨_,_,_,_,rfl,d (by lia),d (by lia)⟩
 .obtain⟨i,e,b⟩:=a0m.mp b;have e:=Xn.mp e;have j:0<(bH m c).length:=by lia
  unfold gP at b;split at b
  .unfold iU at b;rcases WW.mp b with rfl|b
   .exact⟨_,_,_,_,rfl,d e,d (Zc _ j)⟩
   .split at b
    .rename_i g;rw[WB.mp b];exact⟨_,_,_,_,rfl,d (by rw[g];exact Zc _ (by decide)),d (by rw[g];exact Zc _ (by decide))⟩
    .cases b
  .cases b
theorem Vf(p q:Int×Int):dD p q=p\/dD p q=q:=by
 unfold dD;split
 .exact .inr rfl
 .exact .inl rfl
theorem Vg(p q:Int×Int):dE p q=p\/dE p q=q:=by
 unfold dE;split
 .exact .inr rfl
 .exact .inl rfl
theorem vO(p q:Int×Int):HT.lexLt (c4 p) (c4 q)=b5↔p.1<q.1\/p.1=q.1/\p.2<q.2:=by
 unfold c4;simp only[HT.lexLt];by_cases a:p.1<q.1
 .simp[a];lia
 .by_cases b:q.1<p.1
  .simp[a,b];lia
  .have:p.1=q.1:=by lia
   simp[this];lia
theorem Vh{p q:Int×Int}(h:HT.lexLt (c4 p) (c4 q)=b5):HT.lexLt (c4 q) (c4 p)=false:=by
 cases z:HT.lexLt (c4 q) (c4 p)with
 |false=>rfl|true=>have:=(vO _ _).mp h;have:=(vO _ _).mp z;lia
theorem Vi{p q:Int×Int}(h:HT.lexLt (c4 p) (c4 q)=b4)(g:HT.lexLt (c4 q) (c4 p)=b4):p=q:=by have h:¬ _:=λz=>Wj (h.symm.trans ((vO p q).mpr z));have g:¬ _:=λz=>Wj (g.symm.trans ((vO q p).mpr z));exact YO (by lia) (by lia)
theorem Vj(p q:Int×Int):dD (dD p q) (dE p q)=dD p q/\dE (dD p q) (dE p q)=dE p q/\dD (dE p q) (dD p q)=dD p q/\dE (dE p q) (dD p q)=dE p q:=by
 cases h:HT.lexLt (c4 q) (c4 p)with
 |true=>simp only[dD,dE,h,Vh h,if_true,WQ,if_false,and_self]|false=>
  cases g:HT.lexLt (c4 p) (c4 q)with
  |true=>simp only[dD,dE,h,g,if_true,WQ,if_false,and_self]|false=>cases Vi g h;simp only[dD,dE,h,WQ,if_false,and_self]
noncomputable def TT(ms:List ((Int×Int)×Str))(w h:Int):List St:=(jK (fC (aM ms) w h)).map Ve
theorem qD{ts:List Ti}{t:Ti}(h:t∈jK ts):t∈ts:=by unfold jK at h;obtain⟨i,a,rfl⟩:=Wz.mp h;exact GW (Xn.mp ((jY _ _).mem_iff.mp a)) _
theorem GY(ts:List Ti):(jK ts).length=ts.length:=by unfold jK;rw[V7,(jY _ _).length_eq,Xy]
theorem GZ(ms:List ((Int×Int)×Str))(w h:Int):(jK (fC (aM ms) w h)).map bS=(TT ms w h).map bE:=by unfold TT;rw[WC];refine XF λt b=>?_;obtain⟨p,q,a,c,rfl,_,_⟩:=GX (qD b);rfl
theorem G0{ms:List ((Int×Int)×Str)}{p:Int×Int}(h:aM ms p=b5):p∈ms.map (·.1):=by obtain⟨x,a,e⟩:=ZQ.mp h;rw[<- beq_iff_eq.mp e];exact a
theorem Bf{ms:List ((Int×Int)×Str)}{w h:Int}{t:St}(g:t∈TT ms w h):(t.1∈ms.map (·.1)/\t.2.1∈ms.map (·.1))/\(dD t.1 t.2.1=t.1/\dE t.1 t.2.1=t.2.1/\dD t.2.1 t.1=t.1/\dE t.2.1 t.1=t.2.1):=by
 obtain⟨u,i,rfl⟩:=Wz.mp g;obtain⟨p,q,a,c,rfl,b,d⟩:=GX (qD i);have b:=G0 b;have d:=G0 d;refine⟨⟨?_,?_⟩,Vj p q⟩
 .show dD p q∈_;rcases Vf p q with e|e<;>rw[e]<;>assumption
 .show dE p q∈_;rcases Vg p q with e|e<;>rw[e]<;>assumption
theorem Vk(k:Nat)(s:St)(a:Hm):f (k+1) "walked_back" [bE s] a=b0 (bE (iX s),a):=(Sf k _ a).trans (by kernel_rfl)
theorem Vl(T:List St)(t:St):cY (T++[t])=iZ (iZ (cY T) t) (iX t):=by
 funext e;unfold cY iZ;rw[YM,a4f,List.flatMap_nil,XG];show _=if e=t.2.1 then _ else _
 by_cases a:t.1=e<;>by_cases b:t.2.1=e
 .rw[if_pos a,if_pos b,if_pos b.symm,if_pos a.symm,Yr]
 .rw[if_pos a,if_neg b,if_neg (Xh b),if_pos a.symm,XG]
 .rw[if_neg a,if_pos b,if_pos b.symm,if_neg (Xh a),X4]
 .rw[if_neg a,if_neg b,if_neg (Xh b),if_neg (Xh a),XG,XG]
theorem Vm(T:List St)(e:Ed):(cY T e).length<=2*T.length:=by refine mN (λt=>?_) T;rw[Wo];split<;>split<;>simp
inductive SfI (d0:Option D)(ν:Hm)(κ a b:Nat)(T:List St):Nat->aH->Hm->Prop
 |mk {i:Nat}{kvs:jx}{x:Option D}{μ:Hm}(J:SD ν κ μ a kvs (cY (T.take i)))(hk:kvs.length<=2*i)(gb:μ[b]?=b0 (.lst (T.map bE))):SfI d0 ν κ a b T i [d0,b0 (.loc a),x] μ
theorem vP{T:List St}{i:Nat}{d:D}(h:(T.map bE)[i]?=b0 d):∃s,T[i]?=b0 s/\bE s=d:=by rw[Ws]at h;exact Wb.mp h
theorem Vn(k:Nat){w h:Int}(hw:1<=w/\w<=6)(M:1<=h/\h<=6){ms:List ((Int×Int)×Str)}(L:(bK w h).find? (c7 (aM ms))=b3)(y:(fC (aM ms) w h).length<64)(c:Hm)(Q:jz)(H:∀κ μ' a kvs,SD c κ μ' a kvs (cY (TT ms w h))->Q (.loc a,μ')):W (f (k+9) "steps_from" [SH w h ms] c) Q:=by
 have K:(TT ms w h).length<64:=by unfold TT;rw[V7,GY];exact y
 refine bU (Sg (k+8) _ c) (aY (w_mDNewT.mpr (dC (w_mForI.mpr (w_iSeq.mpr (aP rfl (Tx (k+1) hw M L y _ _ λb l E r j=>?_)))))));rw[GZ]at j;generalize TT ms w h=T at K j H;have q:=aJ E (bC c (C.dT []));have u:b≠c.length:=λz=>by rw[z,q]at j;cases j
 have r:b<l.length:=(Wa.mp j).1;have Z:c.length<l.length:=(Wa.mp q).1;refine(c3 j).mpr (gM (SfI (b0 (SH w h ms)) c l.length c.length b T) (.mk (kvs:=[]) ⟨(aU _ _).trans E,⟨Wh _,by lia,Wh _⟩,q,λ_ _=>rfl,λ_ _ z=>(nomatch z),λ_ _ _ z=>(nomatch z)⟩ (Wh _) j) (by rintro _ _ _ ⟨_,_,g⟩;exact g) ?_ ?_)
 .rintro i d _ s hd ⟨J,N,x⟩;obtain⟨t,A,rfl⟩:=vP hd;have Y:=(Wa.mp A).1;have v:∀e,(cY (T.take i) e).length<=130:=λe=>by have:=Vm (T.take i) e;rw[Xa]at this;lia
  refine⟨_,rfl,dC (GV (i:=1) (s:=t) (λ_=>rfl) (λ_=>rfl) (λ_=>rfl) J (W7 (v _) (by decide)) (by lia) λU B G O o=>⟨rfl,GV (i:=1) (s:=iX t) (λ_=>rfl) (λ_=>rfl) (λμ'=>nX rfl (Vk (k+7) t μ')) G ?_ (by lia) λX n I R p=>.mk (kvs:=n) ?_ (by lia) (p _ _ r u (o _ _ r u x))⟩)⟩
  .show(iZ _ t _).length<=_;unfold iZ;have:=v (iX t).1;split
   .rw[Wo];show _+1<=_;lia
   .lia
  .rw[gQ A,Vl];exact I
 .rintro _ s ⟨J,N,x⟩;rw[V7,W9]at J;exact⟨rfl,bW ⟨_,rfl,H _ _ _ _ J⟩⟩
noncomputable def eM(s:Str):Bool:=(iM rM (.inr s)).isSome
theorem Vo(k:Nat)(s:Str)(a:Hm):f (k+1) "is_marked" [.str s] a=b0 (.bl (eM s),a):=(Sh k _ a).trans (by kernel_rfl)
noncomputable def gU(ms:List ((Int×Int)×Str)):List Ed:=(ms.filter λm=>eM m.2).map (·.1)
theorem Vp(k:Nat){w h:Int}{ms:List ((Int×Int)×Str)}(n:ms.length<=1000)(g:Hm)(Q:jz)(H:∀a μ',g<+:μ'->μ'[a]?=b0 (.lst ((gU ms).map PP))->Q (.loc a,μ')):W (f (k+2) "marked_creases" [SH w h ms] g) Q:=by
 refine bU (Si (k+1) _ g) (bW (rL (xs:=ms.map MD) (x:=λd=>match d with|.tup [a,b]=>[b0 a,b0 b]|_=>[]) (p:=λd=>match d with|.tup [_,.str s]=>eM s|_=>b4) (v:=λd=>match d with|.tup [a,_]=>a|_=>.non) (w_iSeq.mpr (aZ rfl rfl (w_it32.mpr ⟨_,rfl,λμ' i c=>rfl,rfl,by rw[V7,Wv];lia,λd μ' hd=>?_,λd μ' hd c=>?_,λd μ' hd _ c=>?_,λμ' c l=>H _ _ c ?_⟩)))))
 .obtain⟨e,j,rfl⟩:=Wz.mp hd;rfl
 .obtain⟨e,j,rfl⟩:=Wz.mp hd;exact eS (aP rfl (bA (Vo k e.2 μ') ⟨rfl,rfl,Wr _⟩))
 .obtain⟨e,j,rfl⟩:=Wz.mp hd;exact⟨_,rfl,rfl,Wr _⟩
 .rw[l,Zu,WC];unfold gU;rw[WC];rfl
noncomputable def rD:Option St->D
 |none=>.non|some s=>bE s
noncomputable def fE(R:List (Ed×Option St)):jx:=R.map λr=>(a9 r.1,rD r.2)
theorem Vq(R:List (Ed×Option St)):(fE R).map (·.1)=(R.map (·.1)).map a9:=by unfold fE;rw[WC,WC];rfl
theorem r6{R:List (Ed×Option St)}(nd:(R.map (·.1)).Nodup){e:Ed}{o:Option St}(h:(e,o)∈R):a8 (fE R) (a9 e)=b0 (rD o):=A4 (by rw[Vq];exact a0x _ (λa b c x=>c (iV x)) nd) (Wz.mpr ⟨_,h,rfl⟩)
theorem vQ{R:List (Ed×Option St)}{e:Ed}(h:e∉R.map (·.1)):a8 (fE R) (a9 e)=none:=by
 unfold a8;rw[Yx.mpr]
 .rfl
 .intro x a;obtain⟨z,b,rfl⟩:=Wz.mp a;rw[decide_eq_true_iff];exact λy=>h (iV y▸Wz.mpr ⟨z,b,rfl⟩)
theorem G1{R:List (Ed×Option St)}{e:Ed}{o:Option St}(h:e∉R.map (·.1)):b9 (fE R) (a9 e) (rD o)=fE (R++[(e,o)]):=by unfold b9;rw[vQ h,if_neg (by simp)];unfold fE;rw[WE];rfl
noncomputable def pH(st a r:Nat)(x:Option D)(q:Nat)(h s:Option D):aH:=[b0 (.loc st),b0 (.loc a),b0 (.loc r),x,b0 (.loc q),h,s]
inductive LsJ (T:List St)(M U:List Ed)(μ0:Hm)(r q n:Nat)(R:List (Ed×Option St))(μ:Hm):Prop
 |mk (rc:Rc T M R)(hC:∀e∈R.map (·.1),e∈U)(p:μ0<+:μ)(hr:μ0.length<=r)(hq:μ0.length<=q)(gr:μ[r]?=b0 (.dT (fE R)))(gq:μ[q]?=b0 (.lst (((R.drop n).map (·.1)).map PP)))
theorem Vr{T:List St}{M U:List Ed}(hM:M.Nodup)(hC:U.length<=100)(L:∀t∈T,t.1∈U/\t.2.1∈U){u k:Hm}{st Y r q n:Nat}{x h:Option D}{R:List (Ed×Option St)}(hn:n<=R.length)(J:LsJ T M U u r q n R k){s:St}(N:s∈cY T s.1)(h1:s.1∈R.map (·.1)){Q:Fl×aH×Hm->Prop}
  (H:∀w d,(∃l,w=R++l)->LsJ T M U u r q n w d->s.2.1∈w.map (·.1)->(∀b c,b≠r->b≠q->k[b]?=b0 c->d[b]?=b0 c)->Q (.nx,pH st Y r x q h (b0 (bE s)),d)):W (AA (pH st Y r x q h (b0 (bE s))) k) Q:=by
 obtain⟨I,G,p,B,A,i,v⟩:=J;have nd:=I.nd hM;have rl:R.length<=100:=by have:=XS nd G;rw[V7]at this;lia
 have X:q≠r:=λz=>by rw[z,i]at v;cases v
 refine w_mIfS.mpr (bX (aZ rfl rfl ((k5 i (cB s.2.1)).mpr ⟨_,rfl,?_⟩)));by_cases j:s.2.1∈R.map (·.1)
 .obtain⟨⟨e,o⟩,a,O⟩:=Wz.mp j;dsimp only at O;subst O;rw[r6 nd a];exact(if_neg Wj).mpr (w_mNext.mpr (H R k ⟨[],(XG _).symm⟩ ⟨I,G,p,B,A,i,v⟩ j λ_ _ _ _ g=>g))
 .rw[vQ j];refine(if_pos rfl).mpr (w_mSeq.mpr (w_mPut.mpr ⟨_,rfl,_,rfl,_,rfl,(mJ i (cB s.2.1) (by unfold fE;rw[V7,Wv];lia)).mpr ?_⟩));have y:(k.set r (.dT (b9 (fE R) (a9 s.2.1) (bE s))))[q]?=b0 (.lst (((R.drop n).map (·.1)).map PP)):=by rw[Wu (Xh X)];exact v
  refine w_mDrop.mpr (eF ⟨_,rfl,dX y,_,rfl,(fS y (by rw[V7,V7,Zg,Wv];lia)).mpr ?_⟩);have K:=Rc.sn I N h1 j;refine H (R++[(s.2.1,b0 s)]) _ ⟨_,rfl⟩ ⟨K,λe a=>?_,dJ (dJ p B _) A _,B,A,?_,?_⟩ (by rw[WE];exact WK.mpr (.inr (.head _))) λb c Z b2 g=>?_
  .rw[WE]at a;rcases WK.mp a with a|a
   .exact G e a
   .rw[WB.mp a];rcases(fr_mem.mp N).2 with E|E
    .exact(L _ E).2
    .exact(L _ E).1
  .rw[Wu X,cN i];exact congrArg (λz=>b0 (C.dT z)) (G1 (o:=b0 s) j)
  .rw[cN y,List.drop_append_of_le_length hn,WE,WE];rfl
  .rw[Wu (Xh b2),Wu (Xh Z)];exact g
inductive LqI (T:List St)(M U:List Ed)(μ0:Hm)(st ss r q n l:Nat)(h:Option D)(e:Ed)(R:List (Ed×Option St)):Nat->aH->Hm->Prop
 |mk {i:Nat}{x s:Option D}{R':List (Ed×Option St)}{μ:Hm}(J:LsJ T M U μ0 r q (n+1) R' μ)(ex:∃l,R'=R++l)(cl:∀t∈(cY T e).take i,t.2.1∈R'.map (·.1))(gl:μ[l]?=b0 (.lst ((cY T e).map bE))):LqI T M U μ0 st ss r q n l h e R i (pH st ss r x q h s) μ
inductive LwI (T:List St)(M U:List Ed)(μ0:Hm)(st ss r q:Nat):Nat->aH->Hm->Prop
 |mk {m n:Nat}{x h s:Option D}{R:List (Ed×Option St)}{μ:Hm}(J:LsJ T M U μ0 r q n R μ)(hm:m+n=200)(hn:n<=R.length)(cl:∀e∈(R.take n).map (·.1),∀t∈cY T e,t.2.1∈R.map (·.1)):LwI T M U μ0 st ss r q m (pH st ss r x q h s) μ
theorem Vs{b:Hm}{a:Nat}{xs:List D}{i:Int}{d:D}{Q:jz}(h:b[a]?=b0 (.lst xs))(g:0<=i/\i<1000)(c:xs[i.toNat]?=b0 d):W (nC (.loc a) [.int i] b) Q↔Q (d,b.set a (.lst (xs.eraseIdx i.toNat))):=by
 have e:nC (.loc a) [.int i] b=b0 (d,b.set a (.lst (xs.eraseIdx i.toNat))):=by simp only[nC,h];rw[if_pos (by lia),c];rfl
 rw[e];exact W_some
theorem Vt{T:List St}{M U:List Ed}(hM:M.Nodup)(hU:U.length<=100)(hT:∀t∈T,t.1∈U/\t.2.1∈U)(hl:T.length<=100){ν b K:Hm}{κ st I r q n m:Nat}{kvs:jx}(S:SD ν κ b st kvs (cY T)){x h s:Option D}{R:List (Ed×Option St)}(J:LsJ T M U b r q n R K)(hm:m+n=200)(X:n<R.length)(cl:∀e∈(R.take n).map (·.1),∀t∈cY T e,t.2.1∈R.map (·.1)) :
  W (AB (pH st I r x q h s) K) λp=>p.1=.nx/\∃H,H<m/\LwI T M U b st I r q H p.2.1 p.2.2:=by
 obtain⟨rc,rC,p,hr,hq,gr,v⟩:=J;have nd:=rc.nd hM;have rl:R.length<=100:=by have:=XS nd rC;rw[V7]at this;lia
 have rq:q≠r:=λz=>by rw[z,gr]at v;cases v
 rw[YE X,WA,WA]at v;have E:R[n]∈R:=XY X;have G:R.take (n+1)=R.take n++[R[n]]:=by rw[YQ,Wi X];rfl
 generalize R[n]=en at v E G;refine aY (eF ⟨_,rfl,dX v,_,rfl,(Vs v (by lia) rfl).mpr ?_⟩);have w:=cN (c':=C.lst (((R.drop (n+1)).map (·.1)).map PP)) v;have y:(K.set q (C.lst (((R.drop (n+1)).map (·.1)).map PP)))[r]?=b0 (.dT (fE R)):=by rw[Wu rq];exact gr
 have O:=dJ (c:=C.lst (((R.drop (n+1)).map (·.1)).map PP)) p hq;show W (b8 _ _ _ _ (K.set q (C.lst (((R.drop (n+1)).map (·.1)).map PP)))) _;generalize K.set q (C.lst (((R.drop (n+1)).map (·.1)).map PP))=μ1 at w y O ⊢;have L:=S.more O;have he:en.1∈R.map (·.1):=Wz.mpr ⟨_,E,rfl⟩;have o:∀l k,μ1<+:k->l≠r->l≠q->k[l]?=b0 (.lst ((cY T en.1).map bE))->W (eU (dS (.loc l)) (cE 6) AA (((cY T en.1).map bE).length+1) 0 (pH st I r x q (b0 (PP en.1)) s) k) λp=>p.1=.nx/\∃H,H<m/\LwI T M U b st I r q H p.2.1 p.2.2:=λl k j l1 l2 gl=>by
  refine gM (LqI T M U b st I r q n l (b0 (PP en.1)) en.1 R) (.mk (R':=R) ⟨rc,rC,O.trans j,hr,hq,aJ j y,aJ j w⟩ ⟨[],(XG _).symm⟩ (λ_ z=>by rw[XJ]at z;cases z) gl) (by rintro _ _ _ ⟨_,_,_,g⟩;exact g) ?_ ?_
  .rintro i d _ Z hd ⟨J,⟨l',rfl⟩,c,g⟩;obtain⟨t,A,rfl⟩:=vP hd;have hf:=WS A;have e1:=(fr_mem.mp hf).1;refine⟨_,rfl,Vr hM hU hT (by rw[Wo];lia) J (by rw[e1];exact hf) (by rw[e1,WE];exact WK.mpr (.inl he)) λR' μ' ⟨Y,e2⟩ J' hs fr=>.mk J' ⟨l'++Y,by rw[e2,Yr]⟩ (λu B=>?_) (fr _ _ l1 l2 g)⟩;rw[gQ A]at B;rcases WK.mp B with B|B
   .rw[e2,WE];exact WK.mpr (.inl (c u B))
   .rw[WB.mp B];exact hs
  .rintro _ Z ⟨J,⟨l',rfl⟩,c,g⟩;rw[V7,W9]at c;refine⟨rfl,m-1,by lia,.mk (n:=n+1) J (by lia) (by rw[Wo];lia) λe a t A=>?_⟩;rw[List.take_append_of_le_length (by lia),G,WE]at a;rcases WK.mp a with a|a
   .rw[WE];exact WK.mpr (.inl (cl e a t A))
   .rw[WB.mp a]at A;exact c t A
 have lr:=L.dic;refine w_mForI.mpr (w_iSeq.mpr (vM (a:=st) rfl L.dic (aW ⟨_,rfl,aW ⟨_,rfl,_,rfl,?_⟩⟩)));have j:=aU μ1 (C.lst []);cases N:a8 kvs (a9 en.1)with
 |some d=>
  obtain⟨l,rfl,_,g0⟩:=S.ats _ _ N;have l0:l<b.length:=(Wa.mp g0).1;have Q:l6 (.loc st) [PP en.1,.loc μ1.length] (μ1++[C.lst []])=b0 (.loc l,μ1++[C.lst []]):=by simp only[l6,aJ j L.dic,cB,WN,N,Option.getD_some]
  have gl:=aJ (O.trans j) g0;exact⟨_,Q,(c3 gl).mpr (o l _ j (by lia) (by lia) gl)⟩
 |none=>
  have Q:l6 (.loc st) [PP en.1,.loc μ1.length] (μ1++[C.lst []])=b0 (.loc μ1.length,μ1++[C.lst []]):=by simp only[l6,aJ j L.dic,cB,WN,N,a1l]
  have gl:(μ1++[C.lst []])[μ1.length]?=b0 (.lst ((cY T en.1).map bE)):=by rw[S.no _ N];exact bC _ _
  have b1:r<μ1.length:=(Wa.mp y).1;have b2:q<μ1.length:=(Wa.mp w).1;exact⟨_,Q,(c3 gl).mpr (o _ _ j (by lia) (by lia) gl)⟩
inductive L0I (d0 d1:Option D)(ν:Hm)(r:Nat)(M:List Ed):Nat->aH->Hm->Prop
 |mk {i:Nat}{x:Option D}{μ:Hm}(p:ν<+:μ)(g:μ[r]?=b0 (.dT (fE ((M.take i).map λe=>(e,b3))))):L0I d0 d1 ν r M i [d0,d1,b0 (.loc r),x,b3,b3,b3] μ
inductive Rch (T:List St)(M U:List Ed)(R:List (Ed×Option St)):Prop
 |mk (rc:Rc T M R)(hU:∀e∈R.map (·.1),e∈U)(cl:∀e∈R.map (·.1),∀t∈cY T e,t.2.1∈R.map (·.1))
theorem Vu(k:Nat){T:List St}{M U:List Ed}(o:M.Nodup)(w:U.length<=100)(G:∀e∈M,e∈U)(Y:∀t∈T,t.1∈U/\t.2.1∈U)(Z:T.length<=100){ν a:Hm}{κ st j:Nat}{kvs:jx}(S:SD ν κ a st kvs (cY T))(gs:a[j]?=b0 (.lst (M.map PP)))(Q:jz)
  (H:∀r c R,a<+:c->a.length<=r->c[r]?=b0 (.dT (fE R))->Rch T M U R->Q (.loc r,c)):W (f (k+1) "last_steps" [.loc st,.loc j] a) Q:=by
 have ml:M.length<=100:=W7 (XS o G) w;have I:=aU a (C.dT []);refine bU (Sj k _ _ a) (aY (w_mDNewT.mpr (dC (w_mForI.mpr (w_iSeq.mpr ⟨_,rfl,(c3 (aJ I gs)).mpr ?_⟩)))));refine gM (L0I (b0 (.loc st)) (b0 (.loc j)) a a.length M) (.mk I (by rw[XJ];exact bC _ _)) (by rintro _ _ _ ⟨p,_⟩;exact aJ p gs) ?_ ?_
 .rintro i d _ b hd ⟨p,g⟩;obtain⟨z,E,rfl⟩:=k8 hd;refine⟨_,rfl,w_mPut.mpr ⟨_,rfl,_,rfl,_,rfl,(mJ g (cB z) (by unfold fE;rw[V7,V7,Xa,Wv];lia)).mpr (.mk (dJ p (Wh _) _) ?_)⟩⟩;rw[cN g,gQ E,WE];exact congrArg (λy=>b0 (C.dT y)) (G1 (o:=b3) (by rw[vL];exact nW o E))
 .rintro _ b ⟨p,g⟩;rw[V7,W9]at g;refine⟨rfl,aY (aP rfl ((Ry (aJ p gs)).mpr (dC ?_)))⟩;have K:=aU b (C.lst (M.map PP));have J:LsJ T M U a a.length b.length 0 (M.map λe=>(e,b3)) (b++[C.lst (M.map PP)]):=⟨.st,by rw[vL];exact G,p.trans K,Wh _,p.length_le,aJ K g,by rw[a0I,vL];exact bC _ _⟩;refine Bb (b:=AB) (LwI T M U a st j a.length b.length) 200 (by decide) (.mk (n:=0) J rfl (Yi _) λe A=>by rw[XJ]at A;cases A) ?_;rintro m _ q ⟨J,hm,hn,cl⟩;rename_i n x h s R;obtain⟨O,N,L,hr,hq,v,u⟩:=J;have X:jX q (.loc b.length)=b0 (!(((R.drop n).map (·.1)).map PP).isEmpty):=by simp only[jX,u]
  refine w_mTru.mpr ⟨_,rfl,_,X,?_⟩;by_cases hd:n<R.length
  .have l:(((R.drop n).map (·.1)).map PP).isEmpty=false:=by rw[YE hd];rfl
   rw[l];refine(if_pos rfl).mpr (bO (Vt o w Y Z S ⟨O,N,L,hr,hq,v,u⟩ hm hd cl) λp B=>?_);rw[B.1];exact B.2
  .have l:(((R.drop n).map (·.1)).map PP).isEmpty=true:=by rw[List.drop_eq_nil_of_le (by lia)];rfl
   rw[l];rw[ZK (by lia)]at cl;exact(if_neg Wj).mpr ⟨rfl,bW ⟨_,rfl,H _ _ R L (Wh _) v ⟨O,N,cl⟩⟩⟩
theorem Rc.m{T:List St}{M:List Ed}{R:List (Ed×Option St)}(h:Rc T M R):∀e∈M,(e,b3)∈R:=by
 induction h with
 |st=>exact λe a=>Wz.mpr ⟨e,a,rfl⟩|sn h g c d b=>exact λe a=>WK.mpr (.inl (b e a))
theorem Vv{R:List (Ed×Option St)}(nd:(R.map (·.1)).Nodup){e:Ed}{o a:Option St}(h:(e,o)∈R)(h':(e,a)∈R):o=a:=by
 induction R with
 |nil=>cases h|cons x R b=>
  rw[WA,Xi]at nd;rcases WW.mp h with h|h<;>rcases WW.mp h' with h'|h'
  .rw[<- h']at h;exact congrArg Prod.snd h
  .exact absurd (Wz.mpr ⟨_,h',by rw[<- h]⟩) nd.1
  .exact absurd (Wz.mpr ⟨_,h,by rw[<- h']⟩) nd.1
  .exact b nd.2 h h'
noncomputable def Dc(b:Hm)(a:Nat)(kvs:jx):Prop:=b[a]?=b0 (.dT kvs)\/b[a]?=b0 (.dF kvs)
theorem Dc.more{b μ':Hm}{a:Nat}{kvs:jx}(I:Dc b a kvs)(h:b<+:μ'):Dc μ' a kvs:=I.elim (λe=>.inl (aJ h e)) λe=>.inr (aJ h e)
theorem Bg{b:Hm}{a:Nat}{kvs:jx}{y d:D}{k:List Int}(h:Dc b a kvs)(c:cR y=b0 k)(e:a8 kvs k=b0 d):aE (.loc a) y b=b0 (d,b):=by rcases h with h|h<;>simp only[aE,h,c,WH,e,WN]
theorem Dc.set{d:Hm}{a b:Nat}{kvs:jx}{c:C}(I:Dc d a kvs)(h:b≠a):Dc (d.set b c) a kvs:=I.elim (λe=>.inl (by rw[Wu h];exact e)) λe=>.inr (by rw[Wu h];exact e)
theorem Dc.lt{b:Hm}{a:Nat}{kvs:jx}(I:Dc b a kvs):a<b.length:=I.elim (λe=>(Wa.mp e).1) λe=>(Wa.mp e).1
inductive WbI (T:List St)(M:List Ed)(R:List (Ed×Option St))(ν:Hm)(r l:Nat)(e:Ed):Nat->aH->Hm->Prop
 |mk {m:Nat}{x:Ed}{o:Option St}{acc:List St}{μ:Hm}(p:ν<+:μ)(g:μ[l]?=b0 (.lst (acc.map bE)))(hx:(x,o)∈R)(hw:Wy T x acc.reverse e)(hm:m=(R.map (·.1)).idxOf x)(ha:acc.length+m<=100)(h0:acc=[]->x=e)(h1:e∈M->acc=[]):WbI T M R ν r l e m [b0 (.loc r),b0 (PP e),b0 (.loc l),b0 (rD o)] μ
theorem G2(k:Nat){T:List St}{M U:List Ed}(N:M.Nodup)(hU:U.length<=100){R:List (Ed×Option St)}(O:Rch T M U R){a:Hm}{r:Nat}(j:Dc a r (fE R)){e:Ed}(B:e∈R.map (·.1))(Q:jz)
  (H:∀l c w m,a<+:c->c[l]?=b0 (.lst (w.map bE))->m∈M->Wy T m w e->w.length<=100->(e∈M->w=[])->Q (.loc l,c)):W (f (k+1) "way_by" [.loc r,PP e] a) Q:=by
 obtain⟨q,rU,cl⟩:=O;have nd:=q.nd N;have rl:R.length<=100:=by have:=XS nd rU;rw[V7]at this;lia
 obtain⟨⟨x,o⟩,E,u⟩:=Wz.mp B;dsimp only at u;subst u;have J:=aU a (C.lst []);have ll:r<a.length:=j.lt;refine bU (Sk k _ _ a) (aY ⟨_,rfl,aY (aZ rfl rfl ⟨_,Bg (j.more J) (cB x) (r6 nd E),dC ?_⟩)⟩);have Y:=a2v.mpr B;rw[V7]at Y;refine Bb (WbI T M R a r a.length x) ((R.map (·.1)).idxOf x) (by lia) (.mk (acc:=[]) J (bC _ _) E (.nil _) rfl (by show 0+_<=_;lia) (λ_=>rfl) λ_=>rfl) ?_;rintro m _ i ⟨p,g,G,hw,X,ha,L,A⟩;rename_i y Z d;have up:=q.up _ _ G;cases Z with
 |none=>refine bX (aZ rfl rfl (w_isnotNN.mpr ⟨_,rfl,(if_neg Wj).mpr ⟨rfl,bW (aP rfl ((Rz g).mpr ?_))⟩⟩));rw[<- List.map_reverse];exact H _ _ _ y (p.trans (aU _ _)) (bC _ _) up hw (by rw[a0T];lia) λb=>by rw[A b];rfl
 |some s=>
  obtain⟨u1,u2,u3,u4⟩:=up;obtain⟨⟨z,oz⟩,I,v⟩:=Wz.mp u3;dsimp only at v;subst v;refine bX (aZ rfl rfl (w_isnotTN.mpr ⟨_,rfl,(if_pos rfl).mpr (k6 (eF ⟨_,rfl,dX g,_,rfl,(fS g (by rw[V7,Wv];lia)).mpr ?_⟩))⟩));have n:Dc (i.set a.length (.lst (d.map bE++[bE s]))) r (fE R):=(j.more p).set (by lia);refine w_mSet.mpr (aN ⟨_,rfl,aZ rfl rfl ⟨_,rfl,_,Bg n (cB s.1) (r6 nd I),_,by rw[X];exact u4,?_⟩⟩);have h:WbI T M R a r a.length x ((R.map (·.1)).idxOf s.1) [b0 (.loc r),b0 (PP x),b0 (.loc a.length),b0 (rD oz)] (i.set a.length (.lst ((d++[s]).map bE))):=by
   refine .mk (dJ p (Wh _) _) (cN g) I ?_ rfl (by rw[Wo];show _+1+_<=_;lia) (λz=>by simp at z) λb=>?_
   .rw[List.reverse_append];exact .cons u2 (u1▸hw)
   .have K:=A b;have:=L K;subst this;cases Vv nd G (q.m _ b)
  rw[WE]at h;exact h
noncomputable def vT:D->Bool
 |.tup [_,_,.bl b,_]=>!b|_=>b4
theorem Vx(k:Nat){w:List St}(h:w.length<=900){a:Hm}{l:Nat}(g:a[l]?=b0 (.lst (w.map bE)))(Q:jz)(H:∀μ',a<+:μ'->Q (.bl ((fD w:Int)%2==0),μ')):W (f (k+1) "is_alike" [.loc l] a) Q:=by
 refine bU (Sm k _ a) (bW (aN (aN (eQ (aW (fJ (xs:=w.map bE) (p:=vT) (v:=λd=>d) (w_iSeq.mpr ⟨_,rfl,(c3 g).mpr ⟨hX g,rfl,by rw[V7,Wv];lia,λd μ' hd b=>?_,λd μ' hd _ b=>⟨_,rfl,rfl,Wr _⟩,λμ' b c=>⟨_,rfl,(dN c).mpr ⟨_,rfl,(cZ (by decide)).mpr ⟨_,rfl,w_eqI.mpr ?_⟩⟩⟩⟩⟩)))))))
 .obtain⟨s,i,rfl⟩:=Wz.mp hd;exact iT (eS (aZ rfl rfl ⟨_,rfl,rfl,rfl,Wr _⟩))
 .have e:(((w.map bE).filter vT).map λd=>d).length=fD w:=by rw[V7,Zu,V7];rfl
  rw[e];exact H _ b
theorem G3:∀l ps:List ((Int×Int)×Str),((ps++l).map (·.1)).Nodup->(l.map λm=>(a9 m.1,D.str m.2)).foldl (λq p=>b9 q p.1 p.2) (bR ps)=bR (ps++l)
 |[],ps,_=>by rw[XG];rfl
 |m::l,ps,h=>by
  rw[WA,a4B];have a:m.1∉ps.map (·.1):=λz=>by rw[WE,WA]at h;exact(Y4.mp h).2.2 _ z _ (.head _) rfl
  rw[Bd a,G3 l (ps++[m]) (by rw[Yr];exact h),Yr];rfl
theorem Vy(k:Nat){w h:Int}{ms:List ((Int×Int)×Str)}(nd:(ms.map (·.1)).Nodup)(a:Hm):f (k+1) "marks_in" [SH w h ms] a=b0 (.loc a.length,a++[.dT (bR ms)]):=rY (FH k _ a) (bD (aP rfl (w_dict.mpr (by
 rw[show(ms.map λm=>(a9 m.1,D.str m.2)).foldl (λq p=>b9 q p.1 p.2) []=_ from G3 ms [] nd];rfl))))
theorem pI{ms:List ((Int×Int)×Str)}(nd:(ms.map (·.1)).Nodup){m:(Int×Int)×Str}(h:m∈ms):a8 (bR ms) (a9 m.1)=b0 (.str m.2):=A4 (by
 unfold bR;rw[WC];have:((ms.map (·.1)).map a9).Nodup:=a0x _ (λa b c x=>c (iV x)) nd;rw[WC]at this;exact this) (Wz.mpr ⟨_,h,rfl⟩)
theorem Vz{i:Nat}{d g:ME}{c:aH}{b:Hm}{a:Nat}{kvs:jx}{Q:jz}(h:c[i]?=b0 (b0 (.loc a)))(hc:b[a]?=b0 (.dT kvs))
  (H:W (d c (b.set a (.dF kvs))) λr=>r.2[a]?=b0 (.dF kvs)/\Q (r.1,r.2.set a (.dT kvs))):W (oZ i d g c b) Q:=by
 have e:oY i c b=b0 (a,kvs):=by simp only[oY,h,hc]
 unfold oZ;rw[e];rw[W_bind];refine bO H λr q=>?_;rw[q.1];exact W_some.mpr q.2
noncomputable def nY(s:Str):Str:=if s="h" then "v" else "h"
noncomputable def gW(n:Nat)(s:Str):Str:=if(n:Int)%2==0 then s else nY s
theorem r8{s:Str}(ok:s="o"\/s="h"\/s="v") (h:eM s=b5):s="h"\/s="v":=ok.resolve_left λz=>by rw[z]at h;revert h;decide +kernel
theorem VA{s:Str}(h:s="h"\/s="v"):iM rM (.inr s)=b0 (.str (nY s)):=by
 rcases h with rfl|rfl
 .kernel_rfl
 .kernel_rfl
theorem Wy.hd{T:List St}{x e:Ed}{s:St}{w:List St}:Wy T x (s::w) e->x=s.1
 |.cons _ _=>rfl
theorem Wy.nl{T:List St}{x e:Ed}:Wy T x [] e->x=e
 |.nil _=>rfl
theorem mkd_mem{ms:List ((Int×Int)×Str)}{x:Ed}:x∈gU ms↔∃m∈ms,eM m.2=b5/\m.1=x:=by
 unfold gU;rw[Wz];constructor
 .rintro⟨m,a,e⟩;exact⟨m,(Xj.mp a).1,(Xj.mp a).2,e⟩
 .rintro⟨m,a,b,e⟩;exact⟨m,Xj.mpr ⟨a,b⟩,e⟩
theorem r9{ms:List ((Int×Int)×Str)}(nd:(ms.map (·.1)).Nodup):(gU ms).Nodup:=(a0U.map _).nodup nd
theorem VB(k:Nat){T:List St}{U:List Ed}(K:U.length<=100){ms:List ((Int×Int)×Str)}(nd:(ms.map (·.1)).Nodup)(ok:∀m∈ms,m.2="o"\/m.2="h"\/m.2="v") {R:List (Ed×Option St)}(J:Rch T (gU ms) U R){g:Hm}{a r:Nat}(G:Dc g a (bR ms))(n:g[r]?=b0 (.dT (fE R))){e:Ed}{c:Str}(I:e∉R.map (·.1)->c="o") (h1:∀m∈ms,eM m.2=b5->∀w,Wy T m.1 w e->c=gW (fD w) m.2)(Q:jz)(H:∀μ',g<+:μ'->Q (.str c,μ')):W (f (k+2) "carried_mark" [.loc a,.loc r,PP e] g) Q:=by
 obtain⟨B,rU,cl⟩:=J;have X:=B.nd (r9 nd);by_cases b:e∈R.map (·.1)
 .obtain⟨⟨y,o⟩,O,z⟩:=Wz.mp b;dsimp only at z;subst z;refine bU (FI (k+1) _ _ _ g) (gN (bX (aZ rfl rfl ((k5 n (cB y)).mpr ⟨_,rfl,by rw[r6 X O];rfl,cX (aY (aP rfl (G2 k (r9 nd) K ⟨B,rU,cl⟩ (.inl n) b _ λl d w x p j N hw L _=>?_)))⟩))));obtain⟨m,b,A,rfl⟩:=mkd_mem.mp N;have h:=h1 m b A w hw;have M:=r8 (ok m b) A;have v:jX d (.loc l)=b0 (!(w.map bE).isEmpty):=by simp only[jX,j]
  have E:gZ (cV (aA 3)) (aC aE (aC aE (aA 3) (mC (.int 0))) (mC (.int 0))) (aA 2) [b0 (.loc a),b0 (.loc r),b0 (PP y),b0 (.loc l),b3] d=b0 (PP m.1,d):=by
   cases w with
   |nil=>rw[hw.nl];exact bD (w_mIfE.mpr (w_mTru.mpr ⟨_,rfl,_,v,(if_neg Wj).mpr ⟨_,rfl,rfl⟩⟩))|cons s w=>rw[hw.hd];exact bD (w_mIfE.mpr (w_mTru.mpr ⟨_,rfl,_,v,(if_pos rfl).mpr (aN (aZ rfl rfl ((eK j (show atI ((s::w).map bE) ((0:Nat):Int)=b0 (bE s)from mM rfl)).mpr ⟨_,rfl,_,rfl,rfl⟩)))⟩))
  refine aY ⟨_,E,bW (w_mIfE.mpr (eS (aP rfl (Vx k (W7 L (by decide)) j _ λY q=>⟨rfl,?_⟩))))⟩;have u:=Bg (G.more (p.trans q)) (cB m.1) (pI nd b);unfold gW at h;cases i:(fD w:Int)%2==0 with
  |true=>rw[i,if_pos rfl]at h;rw[h]at H;exact(if_pos rfl).mpr (aZ rfl rfl ⟨_,u,H _ (p.trans q)⟩)|false=>rw[i,if_neg Wj]at h;rw[h]at H;exact(if_neg Wj).mpr (w_mTab.mpr (aZ rfl rfl ⟨_,u,_,rfl,_,VA M,H _ (p.trans q)⟩))
 .rw[I b]at H;exact bU (FI (k+1) _ _ _ g) (nQ (bX (aZ rfl rfl ((k5 n (cB e)).mpr ⟨_,rfl,by rw[vQ b];rfl,gO ⟨_,rfl,H _ (Wr _)⟩⟩))))
theorem G4(ms:List ((Int×Int)×Str)):iQ (bR ms)=(ms.map (·.1)).map PP:=by unfold iQ bR;rw[WC,WC];rfl
theorem G5(k:Nat){w h:Int}(hw:1<=w/\w<=6)(v:1<=h/\h<=6){ms:List ((Int×Int)×Str)}(y:ShOk ms)(s:(bK w h).find? (c7 (aM ms))=b3)(l:(fC (aM ms) w h).length<64){o:aH}(j:∀c,aA 0 o c=b0 (SH w h ms,c))(c:Hm)(Q:jz)(H:∀r μ' R,c<+:μ'->μ'[r]?=b0 (.dT (fE R))->Rch (TT ms w h) (gU ms) (ms.map (·.1)) R->Q (.loc r,μ')):W (aF (f (k+9) "last_steps") (aB (aF (f (k+9) "steps_from") (aB (aA 0) aD)) (aB (aF (f (k+9) "marked_creases") (aB (aA 0) aD)) aD)) o c) Q:=by
 obtain⟨I,nd,ok⟩:=y;have G:(TT ms w h).length<64:=by unfold TT;rw[V7,GY];exact l
 refine eQ (aW (eQ (aW ⟨_,j c,_,rfl,Vn k hw v s l _ _ λJ g a A S=>aW (eQ (aW ⟨_,j g,_,rfl,Vp (k+7) (by lia) _ _ λb E n p=>⟨_,rfl,?_⟩⟩))⟩)));exact Vu (k+8) (r9 nd) (by rw[V7];lia) (λe u=>by obtain⟨m,x,_,rfl⟩:=mkd_mem.mp u;exact Wz.mpr ⟨m,x,rfl⟩) (λt z=>(Bf z).1) (by lia) (S.more n) p _ λr i R B _ q d=>H r i R (S.pre.trans (n.trans B)) q d
theorem G6{T:List St}{M U:List Ed}{R:List (Ed×Option St)}(a:Rch T M U R){e:Ed}(h:e∉R.map (·.1)):∀x∈M,¬ Cn T x e:=λx b hc=>by obtain⟨c,_,cl⟩:=a;exact h (hc.cl cl (Wz.mpr ⟨_,c.m x b,rfl⟩))
theorem G7(k:Nat){w h:Int}(hw:1<=w/\w<=6)(G:1<=h/\h<=6){ms:List ((Int×Int)×Str)}(q:ShOk ms)(A:(bK w h).find? (c7 (aM ms))=b3)(I:(fC (aM ms) w h).length<64){dm:Ed->Str}(v:∀e,(∀x∈gU ms,¬ Cn (TT ms w h) x e)->e∈ms.map (·.1)->dm e="o") (h1:∀e,∀m∈ms,eM m.2=b5->∀y,Wy (TT ms w h) m.1 y e->dm e=gW (fD y) m.2)(c:Hm)(Q:jz)(H:∀l μ',c<+:μ'->c.length<=l->μ'[l]?=b0 (.lst (ms.map λm=>MD (m.1,dm m.1)))->Q (.loc l,μ')):W (f (k+10) "carried" [SH w h ms] c) Q:=by
 refine bU (Sn (k+9) _ c) (aY (G5 k hw G q A I (λ_=>rfl) _ _ λr a R s p j=>?_));obtain⟨N,nd,ok⟩:=q;refine aY (aP rfl (bA (Vy (k+8) nd a) (bW (Vz (a:=a.length) (kvs:=bR ms) rfl (bC _ _) ?_))));have O:r<a.length:=(Wa.mp p).1;have u:(a++[C.dT (bR ms)]).set a.length (.dF (bR ms))=a++[.dF (bR ms)]:=F5 _ _ _;show W (eB _ _ _ _ ((a++[C.dT (bR ms)]).set a.length (.dF (bR ms)))) _;rw[u];have n:=bC a (C.dF (bR ms));have g:=aJ (aU a (C.dF (bR ms))) p;have o:=s.trans (aU a (C.dF (bR ms)));have K:(a++[C.dF (bR ms)]).length=a.length+1:=by rw[Wo];rfl
 generalize a++[C.dF (bR ms)]=μ2 at n g o K ⊢;have hit:lZ (aA 2) [b0 (SH w h ms),b0 (.loc r),b0 (.loc a.length)] μ2=b0 (dS (.tup (iQ (bR ms))),(bR ms).length+1,μ2):=by show(lZ (λ_ c=>b0 (D.loc a.length,c)) [] μ2)=_;simp only[lZ,WH,n]
 have J:(bR ms).length=ms.length:=V7 ..;refine fJ (xs:=iQ (bR ms)) (p:=λ_=>b5) (v:=λd=>.tup [d,.str (dm (dY d))]) ⟨_,hit,λμ' i b=>rfl,?_,?_,λd μ' hd b=>w_mTrue.mpr ⟨rfl,Wr _⟩,λd μ' hd _ b=>?_,λμ' b E=>⟨aJ b n,?_⟩⟩
 .unfold iQ;rw[V7]
 .unfold iQ;rw[V7,J,Wv];lia
 .rw[G4]at hd;obtain⟨e,B,rfl⟩:=Wz.mp hd;exact w_mTup.mpr (aW ⟨_,rfl,aW (aP rfl (VB (k+7) (U:=ms.map (·.1)) (by rw[V7];lia) nd ok j (.inr (aJ b n)) (aJ b g) (λz=>v e (G6 j z) B) (h1 e) _ λM L=>⟨_,rfl,jH,rfl,L⟩))⟩)
 .refine H _ _ (dJ (o.trans b) s.length_le _) (W7 o.length_le (Wh _)) ?_;rw[Wu (by show a.length≠μ2.length;lia),E,G4,YN.mpr (λ_ _=>rfl),WC,WC];rfl
theorem VC(k:Nat){w h:Int}(hw:1<=w/\w<=6)(B:1<=h/\h<=6){ms:List ((Int×Int)×Str)}(p:ShOk ms)(A:(bK w h).find? (c7 (aM ms))=b3)(E:(fC (aM ms) w h).length<64)(e:Ed)(c:Hm)(Q:jz)(s:∀μ',c<+:μ'->(∀x∈gU ms,¬ Cn (TT ms w h) x e)->Q (.non,μ'))(u:∀l μ' y m,c<+:μ'->μ'[l]?=b0 (.lst (y.map bE))->m∈gU ms->Wy (TT ms w h) m y e->y.length<=100->(e∈gU ms->y=[])->Q (.loc l,μ')):W (f (k+10) "way_to" [SH w h ms,PP e] c) Q:=by
 refine bU (So (k+9) _ _ c) (aY (G5 k hw B p A E (λ_=>rfl) _ _ λr J R q d a=>?_));obtain⟨K,nd,ok⟩:=p;by_cases b:e∈R.map (·.1)
 .have i:=a;obtain⟨i,_,_⟩:=i;obtain⟨⟨y,o⟩,H,n⟩:=Wz.mp b;dsimp only at n;subst n;exact gN (bX (aZ rfl rfl ((k5 d (cB y)).mpr ⟨_,rfl,by rw[r6 (i.nd (r9 nd)) H];rfl,cX (bW (aP rfl (G2 (k+8) (r9 nd) (U:=ms.map (·.1)) (by rw[V7];lia) a (.inl d) b _ λl j y m I v G hw g z=>u l j y m (q.trans I) v G hw g z)))⟩)))
 .exact nQ (bX (aZ rfl rfl ((k5 d (cB e)).mpr ⟨_,rfl,by rw[vQ b];rfl,gO ⟨_,rfl,s _ q (G6 a b)⟩⟩)))
theorem vU(a:Bool)(p q:Int×Int)(b:Hm):aT a (PP p) (PP q) b=b0 (.bl (if a then !decide (p=q)else decide (p=q)),b):=by
 have e:(p.1==q.1&&(p.2==q.2&&b5))=decide (p=q):=by rw[ZW];simp[a2F]
 cases a
 .show b0 (D.bl (p.1==q.1&&(p.2==q.2&&b5)),b)=_;rw[e];rfl
 .show b0 (D.bl (!(p.1==q.1&&(p.2==q.2&&b5))),b)=_;rw[e];rfl
noncomputable def gD(x:Ed)(n:Int):D:=.tup [PP x,.int n]
theorem VD{v:Ed->D}{ps:List Ed}{e:Ed}(h:e∈ps)(nd:ps.Nodup)(d:D):b9 (cC v ps) (a9 e) d=cC (λx=>if x=e then d else v x) ps:=by
 unfold b9;rw[k9 nd h,if_pos (by rfl)];unfold cC;rw[WC];refine XF λx _=>?_;show(if a9 x=a9 e then(a9 x,d)else(a9 x,v x))=(a9 x,if x=e then d else v x);by_cases z:x=e
 .rw[if_pos (congrArg a9 z),if_pos z]
 .rw[if_neg λy=>z (iV y),if_neg z]
theorem vV{v u:Ed->D}{ps:List Ed}(h:∀e∈ps,v e=u e):cC v ps=cC u ps:=XF λe a=>by rw[h e a]
noncomputable def kH(r:Ed->Ed)(p:Ed->Int)(one two:Ed)(n:Int)(Z:List Ed)(e:Ed):D:=if e∈Z/\r e=two then gD one ((p e+n)%2)else gD (r e) (p e)
noncomputable def sA(d0 d1:Option D)(a:Nat)(x3 c d e x7:Option D)(one:Ed)(x9:Option D)(two:Ed)(x11:Option D)(n:Int)(b:Option D):aH:=[d0,d1,b0 (.loc a),x3,c,d,e,x7,b0 (PP one),x9,b0 (PP two),x11,b0 (.int n),b]
theorem VE{U:List Ed}(nd:U.Nodup)(B:U.length<=100){r:Ed->Ed}{p:Ed->Int}{one two:Ed}{n:Int}{j:Nat}{e:Ed}(i:U[j]?=b0 e){a:Nat}{c:Hm}(g:c[a]?=b0 (.dT (cC (kH r p one two n (U.take j)) U))){d0 d1 x3 q s u x7 x9 x11:Option D}{R:Fl×aH×Hm->Prop}
  (H:∀b,Kp a c b->b[a]?=b0 (.dT (cC (kH r p one two n (U.take (j+1))) U))->R (.nx,sA d0 d1 a x3 q s u x7 one x9 two x11 n (b0 (PP e)),b)):W (AD (sA d0 d1 a x3 q s u x7 one x9 two x11 n (b0 (PP e))) c) R:=by
 have o:e∈U:=WS i;have v:e∉U.take j:=nW nd i;have A:kH r p one two n (U.take j) e=gD (r e) (p e):=if_neg λz=>v z.1;have l:aE (.loc a) (PP e) c=b0 (gD (r e) (p e),c):=bD ((jG g (cB e) (k9 nd o)).mpr (by rw[A]));have k:∀x,(x∈U.take (j+1))=(x∈U.take j\/x=e):=λx=>propext (by rw[gQ i,WK,WB]);have ne:∀x,x≠e->kH r p one two n (U.take (j+1)) x=kH r p one two n (U.take j) x:=λx y=>by
  unfold kH;by_cases d:x∈U.take j/\r x=two
  .rw[if_pos d,if_pos ⟨by rw[k];exact .inl d.1,d.2⟩]
  .rw[if_neg d,if_neg λw=>d ⟨by have:=w.1;rw[k]at this;exact this.resolve_right y,w.2⟩]
 refine w_mIfS.mpr (bX (aN (aN (aZ rfl rfl ⟨_,l,_,rfl,_,rfl,_,rfl,_,vU b4 (r e) two c,_,rfl,?_⟩))));by_cases z:r e=two
 .rw[show(if b4=b5 then !decide (r e=two)else decide (r e=two))=b5 from decide_eq_true z];refine(if_pos rfl).mpr (w_mPut.mpr (w_mTup.mpr (aW ⟨_,rfl,aW (aN (aN (aN (aZ rfl rfl ⟨_,l,_,rfl,_,rfl,_,rfl,w_addI.mpr ⟨_,rfl,(cZ (by decide)).mpr ⟨_,rfl,jH,_,rfl,_,rfl,?_⟩⟩⟩))))⟩)));refine(mJ g (cB e) (by rw[V7,Wv];lia)).mpr (H _ .set ?_);rw[cN g];refine congrArg (λy=>b0 (C.dT y)) ((VD o nd _).trans (vV λx _=>?_));by_cases y:x=e
  .rw[if_pos y,y];unfold kH;rw[if_pos ⟨by rw[k];exact .inr rfl,z⟩];rfl
  .rw[if_neg y,ne x y]
 .rw[show(if b4=b5 then !decide (r e=two)else decide (r e=two))=b4 from decide_eq_false z];refine(if_neg Wj).mpr (w_mNext.mpr (H _ (λ_ _ _ h=>h) ?_));rw[g];refine congrArg (λy=>b0 (C.dT y)) (vV λx _=>?_);by_cases y:x=e
  .unfold kH;rw[if_neg (λw=>z (y▸w.2)),if_neg (λw=>z (y▸w.2))]
  .rw[ne x y]
inductive MgI (U:List Ed)(r:Ed->Ed)(p:Ed->Int)(one two:Ed)(n:Int)(d0 d1:Option D)(a b:Nat)(x3 x4 x5 x6 x7 x9 x11:Option D)(ν:Hm):Nat->aH->Hm->Prop
 |mk {j:Nat}{x:Option D}{μ:Hm}(kp:Kp a ν μ)(g:μ[a]?=b0 (.dT (cC (kH r p one two n (U.take j)) U)))(gb:μ[b]?=b0 (.lst (U.map PP))):MgI U r p one two n d0 d1 a b x3 x4 x5 x6 x7 x9 x11 ν j (sA d0 d1 a x3 x4 x5 x6 x7 one x9 two x11 n x) μ
noncomputable def sC(r:Ed->Ed)(one two:Ed)(e:Ed):Ed:=if r e=two then one else r e
noncomputable def sD(r:Ed->Ed)(p:Ed->Int)(two:Ed)(n:Int)(e:Ed):Int:=if r e=two then(p e+n)%2 else p e
theorem VF{U:List Ed}(nd:U.Nodup)(G:U.length<=100){r:Ed->Ed}{p:Ed->Int}{one two:Ed}{n:Int}{a:Nat}{b:Hm}(g:b[a]?=b0 (.dT (cC (λe=>gD (r e) (p e)) U))){d0 d1 x3 s u v x7 x9 x11 q:Option D}{R:Fl×aH×Hm->Prop}
  (H:∀x c,Kp a b c->c[a]?=b0 (.dT (cC (λe=>gD (sC r one two e) (sD r p two n e)) U))->R (.nx,sA d0 d1 a x3 s u v x7 one x9 two x11 n x,c)):W (b8 (bV (aF j8 (aB (aA 2) aD))) (cE 13) AD (sA d0 d1 a x3 s u v x7 one x9 two x11 n q) b) R:=by
 have B:(cC (λe=>gD (r e) (p e)) U).map (λk=>D.tup (k.1.map D.int))=U.map PP:=by unfold cC;rw[WC];rfl
 refine w_mForI.mpr (w_iSeq.mpr (aP rfl ((Rw g).mpr ?_)));rw[B];have A:=aU b (C.lst (U.map PP));have la:a<b.length:=(Wa.mp g).1;refine(c3 (bC _ _)).mpr (gM (MgI U r p one two n d0 d1 a b.length x3 s u v x7 x9 x11 b) (.mk (.pre A) ?_ (bC _ _)) (by rintro _ _ _ ⟨_,_,l⟩;exact l) ?_ ?_)
 .rw[aJ A g,XJ];exact congrArg (λy=>b0 (C.dT y)) (vV λx _=>(if_neg λz=>nomatch z.1).symm)
 .rintro j d _ w hd ⟨o,i,l⟩;obtain⟨e,I,rfl⟩:=k8 hd;exact⟨_,rfl,VE nd G I i λK h E=>.mk (o.trans h) E (h _ _ (by lia) l)⟩
 .rintro _ w ⟨o,i,l⟩;rw[V7,W9]at i;refine H _ _ o ?_;rw[i];refine congrArg (λy=>b0 (C.dT y)) (vV λx J=>?_);unfold kH sC sD;by_cases z:r x=two
  .rw[if_pos ⟨J,z⟩,if_pos z,if_pos z]
  .rw[if_neg λy=>z y.2,if_neg z,if_neg z]
inductive GrJ (T:List St)(U:List Ed)(i:Nat)(r:Ed->Ed)(p:Ed->Int):Prop
 |mk (on:∀e∈U,p e=0\/p e=1)(cn:∀e∈U,Cn T e (r e))(ti:∀t∈T.take i,r t.1=r t.2.1/\(p t.1+p t.2.1+iY t.2.2.1)%2=0)
theorem GrJ.skip{T:List St}{U:List Ed}{i:Nat}{r:Ed->Ed}{p:Ed->Int}(J:GrJ T U i r p){t:St}(d:T[i]?=b0 t)(h1:r t.1=r t.2.1)(c:(p t.1+p t.2.1+iY t.2.2.1)%2=0):GrJ T U (i+1) r p:=by
 obtain⟨e,b,g⟩:=J;refine⟨e,b,λu a=>?_⟩;rw[gQ d]at a;rcases WK.mp a with a|a
 .exact g u a
 .rw[WB.mp a];exact⟨h1,c⟩
theorem GrJ.join{T:List St}{U:List Ed}{i:Nat}{r:Ed->Ed}{p:Ed->Int}(J:GrJ T U i r p){t:St}(g:T[i]?=b0 t)(h1:t.1∈U)(k:t.2.1∈U)(b:r t.1≠r t.2.1){n:Int}(s:n=(p t.1+p t.2.1+iY t.2.2.1)%2):GrJ T U (i+1) (sC r (r t.1) (r t.2.1)) (sD r p (r t.2.1) n):=by
 obtain⟨o,c,q⟩:=J;have l:t∈cY T t.1:=fr_mem.mpr ⟨rfl,.inl (WS g)⟩;refine⟨λe d=>?_,λe d=>?_,λu a=>?_⟩
 .unfold sD;have:=o e d;split<;>lia
 .unfold sC;by_cases z:r e=r t.2.1
  .rw[if_pos z];exact(z▸c e d).tr ((c _ k).sy.tr ((Cn.go (s:=t) (.rf _) l).sy.tr (c _ h1)))
  .rw[if_neg z];exact c e d
 .rw[gQ g]at a;unfold sC sD;rcases WK.mp a with a|a
  .obtain⟨h,j⟩:=q u a;rw[<- h];refine⟨rfl,?_⟩;by_cases z:r u.1=r t.2.1
   .rw[if_pos z,if_pos z];lia
   .rw[if_neg z,if_neg z];exact j
  .rw[WB.mp a,if_neg b,if_pos rfl,if_neg b,if_pos rfl];refine⟨rfl,?_⟩;lia
theorem VG{T:List St}{U:List Ed}(nd:U.Nodup)(N:U.length<=100){i:Nat}{r:Ed->Ed}{p:Ed->Int}(J:GrJ T U i r p){t:St}(A:T[i]?=b0 t)(h1:t.1∈U)(v:t.2.1∈U){a:Nat}{b:Hm}(g:b[a]?=b0 (.dT (cC (λe=>gD (r e) (p e)) U))){d0 d1 G x8 x9 x10 x11 k l:Option D}{R:Fl×aH×Hm->Prop}(I:∀d,R (.rt .non,d,b))
  (H:∀E B x8 x9 x10 x11 k l c,GrJ T U (i+1) E B->Kp a b c->c[a]?=b0 (.dT (cC (λe=>gD (E e) (B e)) U))->R (.nx,[d0,d1,b0 (.loc a),b0 (PP t.1),G,b0 (PP t.2.1),b0 (.bl t.2.2.1),b0 (PP t.2.2.2),x8,x9,x10,x11,k,l],c)) :
  W (AE [d0,d1,b0 (.loc a),b0 (PP t.1),G,b0 (PP t.2.1),b0 (.bl t.2.2.1),b0 (PP t.2.2.2),x8,x9,x10,x11,k,l] b) R:=by
 refine w_mSeq.mpr (w_mAsg.mpr (aZ rfl rfl ((jG g (cB t.1) (k9 nd h1)).mpr (w_gTup2.mpr (w_mSeq.mpr (w_mAsg.mpr (aZ rfl rfl ((jG g (cB t.2.1) (k9 nd v)).mpr (w_gTup2.mpr ?_)))))))));have K:∀d,d[6]?=b0 (b0 (D.bl t.2.2.1))->aF lQ (aB (lO (aA 6)) aD) d b=b0 (.int (iY t.2.2.1),b):=λd s=>by
  have O:aA 6 d b=b0 (.bl t.2.2.1,b):=by simp only[aA,s]
  refine bD (eQ (aW (w_mNotV.mpr ⟨_,O,?_⟩)));cases t.2.2.1<;>exact⟨_,rfl,_,rfl,rfl⟩
 refine aY (aN (aN (aZ (x:=.int (p t.1)) (y:=.int (p t.2.1)) rfl rfl (w_addI.mpr ⟨_,K _ rfl,w_addI.mpr ⟨_,rfl,(cZ (by decide)).mpr ?_⟩⟩))));have w:(p t.1+p t.2.1+iY t.2.2.1)%2=0\/(p t.1+p t.2.1+iY t.2.2.1)%2=1:=by lia
 generalize hN:(p t.1+p t.2.1+iY t.2.2.1)%2=n at w ⊢;have u:∀j d,d[8]?=b0 (b0 (PP (r t.1)))->d[10]?=b0 (b0 (PP (r t.2.1)))->aQ (aC (aT j) (aA 8) (aA 10)) d b=b0 (if j then !decide (r t.1=r t.2.1)else decide (r t.1=r t.2.1),b):=λj d M o=>kG (bD (aZ (x:=PP (r t.1)) (y:=PP (r t.2.1)) (μ1:=b) (μ2:=b) (by simp only[aA,M]) (by simp only[aA,o]) ⟨_,vU j _ _ b,rfl⟩));refine f7 (b:=decide (r t.1=r t.2.1)&&(n==1)) (μ':=b) (rX (u b4 _ rfl rfl) (kG (bD (aZ rfl rfl (w_eqI.mpr rfl))))) (λ_=>gO ⟨_,rfl,I _⟩) λq=>cX (w_mIfS.mpr ⟨_,u b5 _ rfl rfl,?_⟩);by_cases z:r t.1=r t.2.1
 .rw[decide_eq_true z]at q ⊢;refine(if_neg Wj).mpr (w_mNext.mpr (H r p _ _ _ _ _ _ b (J.skip A z ?_) (λ_ _ _ h=>h) g));rw[hN];refine w.resolve_right λy=>?_;rw[y]at q;cases q
 .rw[decide_eq_false z];exact(if_pos rfl).mpr (VF nd N g λx c Q L=>H _ _ _ _ _ _ _ _ c (J.join A h1 v z hN.symm) Q L)
inductive GsI (d0 d1:Option D)(T:List St)(U:List Ed)(a b:Nat)(ν:Hm):Nat->aH->Hm->Prop
 |mk {i:Nat}{r:Ed->Ed}{p:Ed->Int}{x3 x4 x5 x6 x7 x8 x9 x10 x11 x12 x13:Option D}{μ:Hm}(J:GrJ T U i r p)(kp:Kp a ν μ)(g:μ[a]?=b0 (.dT (cC (λe=>gD (r e) (p e)) U))):GsI d0 d1 T U a b ν i [d0,d1,b0 (.loc a),x3,x4,x5,x6,x7,x8,x9,x10,x11,x12,x13] μ
inductive G0I (d0 d1:Option D)(U:List Ed)(a:Nat)(ν:Hm):Nat->aH->Hm->Prop
 |mk {i:Nat}{x3 x4:Option D}{μ:Hm}(p:ν<+:μ)(g:μ[a]?=b0 (.dT (cC (λe=>gD e 0) (U.take i)))):G0I d0 d1 U a ν i [d0,d1,b0 (.loc a),x3,x4,b3,b3,b3,b3,b3,b3,b3,b3,b3] μ
theorem vW{ms:List ((Int×Int)×Str)}{i:Nat}{d:D}(h:(ms.map MD)[i]?=b0 d):∃m,ms[i]?=b0 m/\MD m=d:=by rw[Ws]at h;exact Wb.mp h
theorem VH(k:Nat){w h:Int}{ms:List ((Int×Int)×Str)}(M:ShOk ms){T:List St}(K:∀t∈T,t.1∈ms.map (·.1)/\t.2.1∈ms.map (·.1)){c:Hm}{b:Nat}(s:c[b]?=b0 (.lst (T.map bE)))(Q:jz)(z:∀μ',c<+:μ'->Q (.non,μ'))
  (H:∀a μ' r p,c<+:μ'->μ'[a]?=b0 (.dT (cC (λe=>gD (r e) (p e)) (ms.map (·.1))))->Gr T (ms.map (·.1)) r p->(∀e∈ms.map (·.1),Cn T e (r e))->Q (.loc a,μ')):W (f (k+1) "_law_groups" [SH w h ms,.loc b] c) Q:=by
 obtain⟨U,nd,ok⟩:=M;have O:=aU c (C.dT []);have X:b<c.length:=(Wa.mp s).1;refine bU (SQ k _ _ c) (aY (w_mDNewT.mpr (dC (w_mForI.mpr (w_iSeq.mpr (aZ rfl rfl (w_it32.mpr (w_seqT.mpr ?_))))))));refine uR (x:=.tup (ms.map MD)) (xs:=ms.map MD) (λ_=>rfl) (G0I (b0 (SH w h ms)) (b0 (.loc b)) (ms.map (·.1)) c.length c) (.mk O (by rw[XJ];exact bC _ _)) ?_ ?_
 .rintro i d _ o hd ⟨p,g⟩;obtain⟨m,L,rfl⟩:=vW hd;have l:(ms.map (·.1))[i]?=b0 m.1:=by rw[Ws,L];rfl
  refine⟨_,rfl,w_mPut.mpr (w_mTup.mpr (aW ⟨_,rfl,aW ⟨_,rfl,_,rfl,jH,_,rfl,_,rfl,(mJ g (cB m.1) (by rw[V7,Xa,V7,Wv];lia)).mpr (.mk (dJ p (Wh _) _) ?_)⟩⟩))⟩;rw[cN g,gQ l];exact congrArg (λy=>b0 (C.dT y)) (A5 (v:=λe=>gD e 0) (nW nd l))
 .rintro _ o ⟨p,g⟩;rw[V7,show ms.length=(ms.map (·.1)).length from(V7 ..).symm,W9]at g;refine⟨rfl,w_mSeq.mpr (w_mForI.mpr (w_iSeq.mpr ⟨_,rfl,(c3 (aJ p s)).mpr ?_⟩))⟩;refine gM (b:=AE) (GsI (b0 (SH w h ms)) (b0 (.loc b)) T (ms.map (·.1)) c.length b o) (.mk (r:=λe=>e) (p:=λ_=>0) ⟨λ_ _=>.inl rfl,λe _=>.rf e,λt n=>by rw[XJ]at n;cases n⟩ (λ_ _ _ h=>h) g) (by rintro _ _ _ ⟨_,j,_⟩;exact j _ _ (by lia) (aJ p s)) ?_ ?_
  .rintro i d _ v hd ⟨J,j,q⟩;obtain⟨t,n,rfl⟩:=vP hd;obtain⟨G,I⟩:=K t (WS n);refine⟨_,rfl,VG nd (by rw[V7];lia) J n G I q (λρ=>?_) λZ Y _ _ _ _ _ _ R A u E=>.mk A (j.trans u) E⟩;exact z _ (j.all p (Wh _))
  .rintro _ v ⟨J,j,q⟩;obtain⟨N,B,x⟩:=J;rw[V7,W9]at x;exact bW ⟨_,rfl,H _ _ _ _ (j.all p (Wh _)) q ⟨N,x⟩ B⟩
noncomputable def c9(s:Str):Int:=if s="v" then 1 else 0
inductive TdJ (ms:List ((Int×Int)×Str))(r:Ed->Ed)(p:Ed->Int)(kvs:jx):Prop
 |mk (A:∀m∈ms,eM m.2=b5->a8 kvs (a9 (r m.1))=b0 (.int ((c9 m.2+p m.1)%2)))(B:∀x d,a8 kvs (a9 x)=b0 d->∃m∈ms,eM m.2=b5/\r m.1=x/\d=.int ((c9 m.2+p m.1)%2))
theorem TdJ.no{ms:List ((Int×Int)×Str)}{r:Ed->Ed}{p:Ed->Int}{kvs:jx}(J:TdJ ms r p kvs){m:(Int×Int)×Str}(h:eM m.2=b4):TdJ (ms++[m]) r p kvs:=by
 obtain⟨A,B⟩:=J;refine⟨λx a b=>?_,λx d hd=>?_⟩
 .rcases WK.mp a with a|a
  .exact A x a b
  .rw[WB.mp a,h]at b;cases b
 .obtain⟨y,c,z⟩:=B x d hd;exact⟨y,WK.mpr (.inl c),z⟩
theorem TdJ.old{ms:List ((Int×Int)×Str)}{r:Ed->Ed}{p:Ed->Int}{kvs:jx}(J:TdJ ms r p kvs){m:(Int×Int)×Str}(h:a8 kvs (a9 (r m.1))=b0 (.int ((c9 m.2+p m.1)%2))):TdJ (ms++[m]) r p kvs:=by
 obtain⟨A,B⟩:=J;refine⟨λx a b=>?_,λx d hd=>?_⟩
 .rcases WK.mp a with a|a
  .exact A x a b
  .rw[WB.mp a];exact h
 .obtain⟨y,c,z⟩:=B x d hd;exact⟨y,WK.mpr (.inl c),z⟩
theorem TdJ.new{ms:List ((Int×Int)×Str)}{r:Ed->Ed}{p:Ed->Int}{kvs:jx}(J:TdJ ms r p kvs){m:(Int×Int)×Str}(c:eM m.2=b5)(h:a8 kvs (a9 (r m.1))=b3):TdJ (ms++[m]) r p (b9 kvs (a9 (r m.1)) (.int ((c9 m.2+p m.1)%2))):=by
 obtain⟨A,B⟩:=J;refine⟨λx a b=>?_,λx d hd=>?_⟩
 .rw[rZ];rcases WK.mp a with a|a
  .rw[if_neg λz=>by rw[<- z,A x a b]at h;cases h];exact A x a b
  .rw[WB.mp a,if_pos rfl]
 .rw[rZ]at hd;by_cases z:a9 x=a9 (r m.1)
  .rw[if_pos z]at hd;cases hd;exact⟨m,WK.mpr (.inr (.head _)),c,(iV z).symm,rfl⟩
  .rw[if_neg z]at hd;obtain⟨y,e,z⟩:=B x d hd;exact⟨y,WK.mpr (.inl e),z⟩
theorem VI{ms:List ((Int×Int)×Str)}{U:List Ed}(nd:U.Nodup){r:Ed->Ed}{p:Ed->Int}{kvs:jx}(J:TdJ ms r p kvs)(L:kvs.length<=900){m:(Int×Int)×Str}(G:m.1∈U)(ok:m.2="o"\/m.2="h"\/m.2="v") {a d:Nat}{b:Hm}(E:b[a]?=b0 (.dT (cC (λe=>gD (r e) (p e)) U)))(i:b[d]?=b0 (.dT kvs)){d0 n o x7:Option D}{R:Fl×aH×Hm->Prop}(v:∀k,∀y∈ms,eM y.2=b5->eM m.2=b5->r y.1=r m.1->(c9 y.2+p y.1)%2≠(c9 m.2+p m.1)%2->R (.rt .non,k,b))
  (H:∀c n o x7 j,TdJ (ms++[m]) r p c->c.length<=kvs.length+1->Kp d b j->j[d]?=b0 (.dT c)->R (.nx,[d0,b0 (.loc a),b0 (.loc d),b0 (PP m.1),b0 (.str m.2),n,o,x7],j)) :
  W (AF [d0,b0 (.loc a),b0 (.loc d),b0 (PP m.1),b0 (.str m.2),n,o,x7] b) R:=by
 have w:aQ (aC (aT b5) (aA 4) (mC (.str "o"))) [d0,b0 (.loc a),b0 (.loc d),b0 (PP m.1),b0 (.str m.2),n,o,x7] b=b0 (eM m.2,b):=by rcases ok with e|e|e<;>rw[e]<;>kernel_rfl
 refine w_mIfS.mpr ⟨_,w,?_⟩;cases l:eM m.2 with
 |false=>exact(if_neg Wj).mpr (w_mNext.mpr (H kvs _ _ _ b (J.no l) (Zd _) (λ_ _ _ h=>h) i))|true=>
  refine(if_pos rfl).mpr (w_mSeq.mpr (w_mAsg.mpr (aZ rfl rfl ((jG E (cB m.1) (k9 nd G)).mpr (w_gTup2.mpr ?_)))));have x:∀k,k[4]?=b0 (b0 (D.str m.2))->aF lQ (aB (aC (aT b4) (aA 4) (mC (.str "v"))) aD) k b=b0 (.int (c9 m.2),b):=λk u=>by
   have g:aA 4 k b=b0 (.str m.2,b):=by simp only[aA,u]
   refine bD (eQ (aW (aZ g rfl ?_)));rcases r8 ok l with e|e<;>rw[e]<;>exact⟨_,rfl,_,rfl,_,rfl,rfl⟩
  refine aY (aN (aN ⟨_,x _ rfl,⟨_,rfl,w_addI.mpr ⟨_,rfl,(cZ (by decide)).mpr ?_⟩⟩⟩));cases g:a8 kvs (a9 (r m.1))with
  |some K=>
   obtain⟨A,B⟩:=J;obtain⟨y,I,q,s,rfl⟩:=B _ _ g;have e:f6 (.loc d) [PP (r m.1),.int ((c9 m.2+p m.1)%2)] b=b0 (.int ((c9 y.2+p y.1)%2),b):=by simp only[f6,i,cB,WH,g]
   refine w_mIfS.mpr (bX (aN (vM (a:=d) rfl i ⟨_,rfl,_,e,_,rfl,w_neI.mpr ⟨_,rfl,?_⟩⟩)));by_cases z:(c9 y.2+p y.1)%2=(c9 m.2+p m.1)%2
   .rw[show(!((c9 y.2+p y.1)%2==(c9 m.2+p m.1)%2))=b4 by rw[z,beq_self_eq_true];rfl];rw[z]at g;exact(if_neg Wj).mpr (w_mNext.mpr (H kvs _ _ _ b (TdJ.old ⟨A,B⟩ g) (Zd _) (λ_ _ _ h=>h) i))
   .rw[show(!((c9 y.2+p y.1)%2==(c9 m.2+p m.1)%2))=b5 by rw[beq_false_of_ne z];rfl];exact(if_pos rfl).mpr (w_mRet.mpr ⟨_,rfl,v _ y I q l s z⟩)
  |none=>
   have e:f6 (.loc d) [PP (r m.1),.int ((c9 m.2+p m.1)%2)] b=b0 (.int ((c9 m.2+p m.1)%2),b.set d (.dT (b9 kvs (a9 (r m.1)) (.int ((c9 m.2+p m.1)%2))))):=by simp only[f6,i,cB,WH,g];rw[if_pos (by rw[Wv];lia)]
   refine w_mIfS.mpr (bX (aN (vM (a:=d) rfl i ⟨_,rfl,_,e,_,rfl,w_neI.mpr ⟨_,rfl,?_⟩⟩)));rw[show(!((c9 m.2+p m.1)%2==(c9 m.2+p m.1)%2))=b4 by rw[beq_self_eq_true];rfl];exact(if_neg Wj).mpr (w_mNext.mpr (H _ _ _ _ _ (J.new l g) (GU _ _ _) .set (cN i)))
inductive TdI (d0:Option D)(a d:Nat)(ms:List ((Int×Int)×Str))(r:Ed->Ed)(p:Ed->Int)(ν:Hm):Nat->aH->Hm->Prop
 |mk {i:Nat}{kvs:jx}{x3 x4 x5 x6 x7:Option D}{μ:Hm}(J:TdJ (ms.take i) r p kvs)(hk:kvs.length<=i)(pr:ν<+:μ)(g:μ[d]?=b0 (.dT kvs)):TdI d0 a d ms r p ν i [d0,b0 (.loc a),b0 (.loc d),x3,x4,x5,x6,x7] μ
noncomputable def G8(ms:List ((Int×Int)×Str))(r:Ed->Ed)(p:Ed->Int):Prop:=∀x∈ms,∀y∈ms,eM x.2=b5->eM y.2=b5->r x.1=r y.1->(c9 x.2+p x.1)%2=(c9 y.2+p y.1)%2
theorem TdJ.cons{ms:List ((Int×Int)×Str)}{r:Ed->Ed}{p:Ed->Int}{kvs:jx}(J:TdJ ms r p kvs):G8 ms r p:=λx d y g c a e=>by obtain⟨A,_⟩:=J;have b:=A x d c;rw[e,A y g a]at b;exact(D.int.inj (Wt b)).symm
theorem G9(k:Nat){w h:Int}{ms:List ((Int×Int)×Str)}(I:ShOk ms){r:Ed->Ed}{p:Ed->Int}{a:Nat}{b:Hm}(B:b[a]?=b0 (.dT (cC (λe=>gD (r e) (p e)) (ms.map (·.1)))))(Q:jz)(u:∀μ',b<+:μ'->¬ G8 ms r p->Q (.non,μ'))(H:∀d μ' kvs,b<+:μ'->μ'[d]?=b0 (.dT kvs)->TdJ ms r p kvs->Q (.loc d,μ')):W (f (k+1) "_law_told" [SH w h ms,.loc a] b) Q:=by
 obtain⟨R,nd,ok⟩:=I;have M:=aU b (C.dT []);refine bU (SR k _ _ b) (aY (w_mDNewT.mpr (w_mSeq.mpr (w_mForI.mpr (w_iSeq.mpr (aZ rfl rfl (w_it32.mpr (w_seqT.mpr ?_))))))));refine uR (x:=.tup (ms.map MD)) (xs:=ms.map MD) (b:=AF) (λ_=>rfl) (TdI (b0 (SH w h ms)) a b.length ms r p b) (.mk (kvs:=[]) ⟨λ_ h=>by(rw[XJ]at h;cases h),λ_ _ z=>nomatch z⟩ (Wh _) M (bC _ _)) ?_ ?_
 .rintro i d _ s hd ⟨J,E,l,g⟩;obtain⟨m,q,rfl⟩:=vW hd;have o:=WS q;have O:=(Wa.mp q).1;refine⟨_,rfl,VI nd J (by lia) (Wz.mpr ⟨m,o,rfl⟩) (ok m o) (aJ l B) g (λT y K n x e ne=>u _ l λc=>ne (c y (List.mem_of_mem_take K) m o n x e)) λj _ _ _ N v G L A=>.mk (kvs:=j) ?_ (by lia) (L.all l (Wh _)) A⟩;rw[gQ q];exact v
 .rintro _ s ⟨J,E,l,g⟩;rw[V7,W9]at J;exact bW ⟨_,rfl,H _ _ _ l g J⟩
noncomputable def jN(kvs:jx)(r:Ed->Ed)(p:Ed->Int)(m:(Int×Int)×Str):Str:=match a8 kvs (a9 (r m.1))with
 |some (.int v)=>if(v+p m.1)%2=0 then "h" else "v"|_=>m.2
theorem VJ{n:Int}(a:Hm)(h:n=0\/n=1):aE (.str "hv") (.int n) a=b0 (.str (if n=0 then "h" else "v"),a):=by
 rcases h with rfl|rfl
 .kernel_rfl
 .kernel_rfl
theorem VL{ms:List ((Int×Int)×Str)}{U:List Ed}(nd:U.Nodup){r:Ed->Ed}{p:Ed->Int}{kvs:jx}(J:TdJ ms r p kvs){m:(Int×Int)×Str}(k:m.1∈U){a d l:Nat}{b:Hm}(j:b[a]?=b0 (.dT (cC (λe=>gD (r e) (p e)) U)))(g:b[d]?=b0 (.dT kvs)){i:List D}(q:i.length<=900)(gl:b[l]?=b0 (.lst i)){d0 h x7:Option D}{R:Fl×aH×Hm->Prop}
  (H:∀u h x7,R (.nx,[d0,b0 (.loc a),b0 (.loc d),b0 (.loc l),b0 (PP m.1),u,h,x7],b.set l (.lst (i++[MD (m.1,jN kvs r p m)])))) :
  W (AG [d0,b0 (.loc a),b0 (.loc d),b0 (.loc l),b0 (PP m.1),b0 (.str m.2),h,x7] b) R:=by
 have fin:∀(s:Str),s=jN kvs r p m->W (cK (cS dU (aA 3) (aB (aX (aB (aA 4) (aB (aA 5) aD))) aD)) [d0,b0 (.loc a),b0 (.loc d),b0 (.loc l),b0 (PP m.1),b0 (.str s),b0 (PP (r m.1)),b0 (.int (p m.1))] b) R:=λs o=>by refine w_mDrop.mpr (eF ⟨_,rfl,dX gl,_,rfl,(fS gl (by rw[Wv];lia)).mpr ?_⟩);rw[<- o]at H;exact H _ _ _
 refine w_mSeq.mpr (w_mAsg.mpr (aZ rfl rfl ((jG j (cB m.1) (k9 nd k)).mpr (w_gTup2.mpr ?_))));cases c:a8 kvs (a9 (r m.1))with
 |some v=>obtain⟨A,B⟩:=J;obtain⟨y,q,_,n,rfl⟩:=B _ _ c;refine nQ (bX (aZ rfl rfl ((k5 g (cB (r m.1))).mpr ⟨_,rfl,by rw[c];rfl,aY (aN ⟨_,rfl,aN (aN (aZ rfl rfl ((jG g (cB (r m.1)) c).mpr ⟨_,rfl,w_addI.mpr ⟨_,rfl,(cZ (by decide)).mpr ⟨_,VJ b (by lia),?_⟩⟩⟩)))⟩)⟩)));refine fin _ ?_;unfold jN;rw[c]|none=>refine gN (bX (aZ rfl rfl ((k5 g (cB (r m.1))).mpr ⟨_,rfl,by rw[c];rfl,cX (fin _ ?_)⟩)));unfold jN;rw[c]
inductive DuI (d0:Option D)(a d l:Nat)(ms:List ((Int×Int)×Str))(g:(Int×Int)×Str->Str)(ν:Hm):Nat->aH->Hm->Prop
 |mk {i:Nat}{x4 x5 x6 x7:Option D}{μ:Hm}(pr:ν<+:μ)(gl:μ[l]?=b0 (.lst ((ms.take i).map λm=>MD (m.1,g m)))):DuI d0 a d l ms g ν i [d0,b0 (.loc a),b0 (.loc d),b0 (.loc l),x4,x5,x6,x7] μ
theorem VM(k:Nat){w h:Int}{ms:List ((Int×Int)×Str)}(s:ShOk ms){r:Ed->Ed}{p:Ed->Int}{kvs:jx}(J:TdJ ms r p kvs){a d:Nat}{b:Hm}(n:b[a]?=b0 (.dT (cC (λe=>gD (r e) (p e)) (ms.map (·.1)))))(o:b[d]?=b0 (.dT kvs))(Q:jz)(H:∀l μ',b<+:μ'->b.length<=l->μ'[l]?=b0 (.lst (ms.map λm=>MD (m.1,jN kvs r p m)))->Q (.loc l,μ')):W (f (k+1) "_law_due" [SH w h ms,.loc a,.loc d] b) Q:=by
 obtain⟨v,nd,ok⟩:=s;have u:=aU b (C.lst []);refine bU (SV k _ _ _ b) (aY ⟨_,rfl,dC (w_mForI.mpr (w_iSeq.mpr (aZ rfl rfl (w_it32.mpr (w_seqT.mpr ?_)))))⟩);refine uR (x:=.tup (ms.map MD)) (xs:=ms.map MD) (b:=AG) (λ_=>rfl) (DuI (b0 (SH w h ms)) a d b.length ms (jN kvs r p) b) (.mk u (by rw[XJ];exact bC _ _)) ?_ ?_
 .rintro i x _ g hd ⟨c,gl⟩;obtain⟨m,j,rfl⟩:=vW hd;have q:=WS j;refine⟨_,rfl,VL nd J (Wz.mpr ⟨m,q,rfl⟩) (aJ c n) (aJ c o) (by rw[V7,Xa];lia) gl λ_ _ _=>.mk (dJ c (Wh _) _) ?_⟩;rw[cN gl,gQ j,WE];rfl
 .rintro _ g ⟨c,gl⟩;rw[V7,W9]at gl;exact⟨rfl,bW ⟨_,rfl,H _ _ c (Wh _) gl⟩⟩
theorem VN(s t:St)(a:Hm):∃b,c5 8 a (bE s) (bE t)=b0 b/\(s=t->b=b5):=by refine⟨(s.1.1==t.1.1&&(s.1.2==t.1.2&&b5))&&((s.2.1.1==t.2.1.1&&(s.2.1.2==t.2.1.2&&b5))&&((s.2.2.1==t.2.2.1)&&((s.2.2.2.1==t.2.2.2.1&&(s.2.2.2.2==t.2.2.2.2&&b5))&&b5))),rfl,λh=>?_⟩;rw[h];simp
theorem Ha(t:St)(d:Hm):∀T:List St,∃b,iO d (bE t) (T.map bE)=b0 b/\(t∈T->b=b5)
 |[]=>⟨b4,rfl,λh=>nomatch h⟩|s::T=>by
  obtain⟨b,e,h⟩:=Ha t d T;obtain⟨c,g,i⟩:=VN s t d;refine⟨c||b,?_,λa=>?_⟩
  .show(c5 8 d (bE s) (bE t)).bind (λc=>(iO d (bE t) (T.map bE)).map λb=>c||b)=_;rw[e,g];rfl
  .rcases WW.mp a with a|a
   .rw[i a.symm];rfl
   .rw[h a,Bool.or_true]
theorem VO{a:Hm}{b:Nat}{T:List St}(g:a[b]?=b0 (.lst (T.map bE))){t:St}(h:t∈T):cM b5 (bE t) (.loc b) a=b0 (.bl b4,a):=by
 obtain⟨c,e,hc⟩:=Ha t a T;have d:cM b5 (bE t) (.loc b) a=kR b5 (bE t) (.loc b) a:=by unfold bE;simp only[cM,g]
 rw[d];unfold kR;have i:bM a (.loc b)=b0 (T.map bE):=by simp only[bM,g]
 rw[i];show(iO a (bE t) (T.map bE)).map _=_;rw[e,hc h];rfl
theorem Wy.all{T:List St}{m e:Ed}{w:List St}(h:Wy T m w e):∀s∈w,s∈cY T s.1:=by
 induction h with
 |nil=>exact λ_ h=>nomatch h|cons b h c=>
  intro s a;rcases WW.mp a with rfl|a
  .exact b
  .exact c s a
theorem Wy.ch{T:List St}{m e:Ed}{w:List St}(h:Wy T m w e):∀(i:Nat)(s t:St),w[i]?=b0 s->w[i+1]?=b0 t->s.2.1=t.1:=by
 induction h with
 |nil=>exact λi s t h=>by simp at h
 |@cons u w e d h c=>
  intro i s t b a;cases i with
  |zero=>
   cases b;cases w with
   |nil=>simp at a|cons v w=>cases a;exact h.hd
  |succ i=>exact c i s t b a
theorem Wy.la{T:List St}{m e:Ed}{w:List St}(h:Wy T m w e):∀s,w[w.length-1]?=b0 s->s.2.1=e:=by
 induction h with
 |nil=>exact λs h=>by simp at h
 |@cons u w e c h b=>
  intro s a;cases w with
  |nil=>cases a;exact h.nl|cons v w=>exact b s (by simpa using a)
theorem VP(k:Nat){w:List St}(h:w.length<=100){a:Hm}{l:Nat}(g:a[l]?=b0 (.lst (w.map bE)))(Q:jz)(H:∀μ',a<+:μ'->Q (.bl ((fD w:Int)%2==1),μ')):W (f (k+1) "_law_odd" [.loc l] a) Q:=by
 refine bU (SU k _ a) (bW (aN (aN (eQ (aW (fJ (xs:=w.map bE) (p:=vT) (v:=λd=>d) (w_iSeq.mpr ⟨_,rfl,(c3 g).mpr ⟨hX g,rfl,by rw[V7,Wv];lia,λd μ' hd b=>?_,λd μ' hd _ b=>⟨_,rfl,rfl,Wr _⟩,λμ' b c=>⟨_,rfl,(dN c).mpr ⟨_,rfl,(cZ (by decide)).mpr ⟨_,rfl,w_eqI.mpr ?_⟩⟩⟩⟩⟩)))))))
 .obtain⟨s,i,rfl⟩:=Wz.mp hd;exact iT (eS (aZ rfl rfl ⟨_,rfl,rfl,rfl,Wr _⟩))
 .have e:(((w.map bE).filter vT).map λd=>d).length=fD w:=by rw[V7,Zu,V7];rfl
  rw[e];exact H _ b
theorem VQ{T:List St}(k:∀t∈T,dD t.1 t.2.1=t.1/\dE t.1 t.2.1=t.2.1/\dD t.2.1 t.1=t.1/\dE t.2.1 t.1=t.2.1){m e:Ed}{w:List St}(hw:Wy T m w e){i:Nat}{s:St}(h:w[i]?=b0 s){l b:Nat}{a:Hm}(gl:a[l]?=b0 (.lst (w.map bE)))(x:a[b]?=b0 (.lst (T.map bE))){R:Fl×aH×Hm->Prop}(H:R (.nx,[b0 (.loc l),b0 (.loc b),b0 (.int (i:Int)),b0 (bE s)],a)):W (FC [b0 (.loc l),b0 (.loc b),b0 (.int (i:Int)),b0 (bE s)] a) R:=by
 refine gN (o8 (iT (eS (b:=b5) ⟨_,rfl,rfl,rfl,o8 (bX ⟨_,rfl,_,rfl,rfl,iT (eS (b:=b5) ⟨_,rfl,rfl,rfl,cX ?_⟩)⟩)⟩)));have y:=hw.all s (WS h);obtain⟨t,c,q⟩:∃t∈T,bE t=.tup [PP (dD s.1 s.2.1),PP (dE s.1 s.2.1),.bl s.2.2.1,PP s.2.2.2]:=by
  rcases(fr_mem.mp y).2 with c|c
  .refine⟨s,c,?_⟩;obtain⟨o,p,_,_⟩:=k s c;rw[o,p];rfl
  .refine⟨iX s,c,?_⟩;obtain⟨_,_,d,g⟩:=k _ c;have d:dD s.1 s.2.1=s.2.1:=d;have g:dE s.1 s.2.1=s.1:=g;rw[d,g];rfl
 have j:=VO x c;rw[q]at j;refine gN (bX (aN (w_mTup.mpr (aW (aP rfl (bA (AQ _ _ a) (aW (aP rfl (bA (AR _ _ a) ⟨_,rfl,AS rfl,_,rfl,_,j,_,rfl,rfl,cX ?_⟩)))))))));cases i with
 |zero=>exact w_mIfS.mpr ⟨_,bD (w_mAndT.mpr ⟨_,rfl,(if_neg Wj).mpr rfl⟩),(if_neg Wj).mpr (w_mNext.mpr H)⟩|succ i=>
  have z:i<w.length:=by have:=(Wa.mp h).1;lia
  have n:w[i]?=b0 w[i]:=Wi z;have v:=hw.ch i _ _ n h;have r:aQ (aC (aT b5) (aC aE (aC aE (aA 0) (aC cQ (aA 2) (mC (.int 1)))) (mC (.int 1))) (aC aE (aA 3) (mC (.int 0)))) [b0 (.loc l),b0 (.loc b),b0 (.int ((i+1:Nat):Int)),b0 (bE s)] a=b0 (b4,a):=by
   have u:aE (.loc l) (.int (((i+1:Nat):Int)-1)) a=b0 (bE w[i],a):=by rw[show(((i+1:Nat):Int)-1)=(i:Int) by lia];exact bD ((eK gl (mM (by rw[Ws,n];rfl))).mpr rfl)
   refine kG (bD (aN (aN (aN ⟨_,rfl,aZ rfl rfl (w_subI.mpr ⟨_,u,_,rfl,_,rfl,_,rfl,?_⟩)⟩))));refine⟨_,vU b5 w[i].2.1 s.1 a,?_⟩;rw[v];simp
  refine w_mIfS.mpr ⟨_,rX (kG (b:=decide ((0:Int)<((i+1:Nat):Int))) (bD (aZ rfl rfl (w_gtI.mpr rfl)))) r,?_⟩;rw[a2g];exact(if_neg Wj).mpr (w_mNext.mpr H)
theorem VR(k:Nat){T:List St}(h:∀t∈T,dD t.1 t.2.1=t.1/\dE t.1 t.2.1=t.2.1/\dD t.2.1 t.1=t.1/\dE t.2.1 t.1=t.2.1){m e:Ed}{w:List St}(hw:Wy T m w e){l b:Nat}{a:Hm}(gl:a[l]?=b0 (.lst (w.map bE)))(g:a[b]?=b0 (.lst (T.map bE))):f (k+1) "_law_steps" [.loc l,.loc b] a=b0 (.bl b5,a):=by
 refine bD (bU (SS k _ _ a) (gN (iT (eS (aP rfl ((Ai gl).mpr ⟨rfl,rfl,cX (dC (w_mForI.mpr (Fn ⟨_,rfl,l,w.map bE,rfl,gl,?_⟩)))⟩))))));refine Rt (λi n c=>c=a/\∃x y,n=[b0 (.loc l),b0 (.loc b),x,y]) ⟨rfl,_,_,rfl⟩ (by rintro _ _ _ ⟨rfl,_⟩;exact gl) ?_ ?_
 .rintro i d _ _ hd ⟨rfl,x,y,rfl⟩;obtain⟨s,j,rfl⟩:=vP hd;exact⟨_,rfl,VQ h hw j gl g ⟨rfl,_,_,rfl⟩⟩
 .rintro _ _ ⟨rfl,x,y,rfl⟩;exact⟨rfl,bW ⟨_,rfl,rfl⟩⟩
theorem Hb{a:Hm}{A B:Nat}{ds:List D}{Q:jz}(hA:a[A]?=b0 (.lst ds))(hB:a[B]?=b0 (.lst [])):W (aT b4 (.loc A) (.loc B) a) Q↔Q (.bl ds.isEmpty,a):=by
 have b:∀{x:Nat}{xs:List D},a[x]?=b0 (.lst xs)->i6 a (.loc x)=b0 (.lst xs):=λh=>by simp only[i6,h]
 have e:c5 8 a (.loc A) (.loc B)=b0 ds.isEmpty:=by show(i6 a (.loc A)).bind (λu=>(i6 a (.loc B)).bind λv=>pU (c5 7 a) u v)=_;rw[b hA,b hB];show i7 (c5 7 a) ds []=_;cases ds<;>rfl
 unfold aT;rw[e];exact W_some
theorem VS{s:Str}(h:s="h"\/s="v") (n:Nat):gW n s="h"\/gW n s="v":=by unfold gW nY;rcases h with rfl|rfl<;>split<;>first|exact .inl rfl|exact .inr rfl|(split<;>first|exact .inl rfl|exact .inr rfl)
theorem VT{s:Str}(h:s="h"\/s="v") (n:Nat):(!(s==gW n s))=((n:Int)%2==1):=by
 have a:(n:Int)%2=0\/(n:Int)%2=1:=by lia
 unfold gW;rcases a with a|a
 .rw[a,if_pos (by decide),beq_self_eq_true];rfl
 .rw[a,if_neg (by decide)];rcases h with rfl|rfl<;>decide +kernel
theorem Hc{s:Str}(h:s="h"\/s="v"):(s==("o":Str))=false:=by rcases h with rfl|rfl<;>decide +kernel
theorem Hd{s:Str}(h:s="h"\/s="v"):(!(s==("o":Str)))=true:=by rw[Hc h];rfl
theorem VU{s:Str}(h:s="o"):(!(s==("o":Str)))=false:=by rw[h,beq_self_eq_true];rfl
theorem pJ(c:Bool)(a b:Str)(d:Hm):aT c (.str a) (.str b) d=b0 (.bl (if c then !(a==b)else a==b),d):=by cases c<;>rfl
theorem VW(k:Nat){w h:Int}(hw:1<=w/\w<=6)(hh:1<=h/\h<=6){ms:List ((Int×Int)×Str)}(U:ShOk ms)(hb:(bK w h).find? (c7 (aM ms))=b3)(hn:(fC (aM ms) w h).length<64){m:(Int×Int)×Str}(q:m∈ms){c:Str}(h0:(∀x∈gU ms,¬ Cn (TT ms w h) x m.1)->c="o") (h1:∀x∈ms,eM x.2=b5->∀y,Wy (TT ms w h) x.1 y m.1->c=gW (fD y) x.2){b a:Nat}{v:Hm}(gb:v[b]?=b0 (.lst ((TT ms w h).map bE)))(ga:v[a]?=b0 (.dT (bR ms)))(Q:jz)(H:∀μ',v<+:μ'->Q (.bl b5,μ')):W (f (k+11) "_law_way" [SH w h ms,.loc b,.loc a,PP m.1,.str c] v) Q:=by
 have r:=U;obtain⟨hl,nd,ok⟩:=U;refine bU (SW (k+10) _ _ _ _ _ v) (aY (aP rfl (VC k hw hh r hb hn m.1 _ _ (λd o hc=>?_) λl d y x o gl hx n K J=>?_)))
 .rw[h0 hc];exact nQ (bX (aZ rfl rfl ⟨_,pJ b4 _ _ _,_,rfl,beq_self_eq_true _,gO (aZ rfl rfl (w_isNN.mpr (H _ o)))⟩))
 .obtain⟨z,B,j,rfl⟩:=mkd_mem.mp hx;have R:=h1 z B j y n;have M:=r8 (ok z B) j;have N:=VS M (fD y);rw[<- R]at N;refine gN (bX (aZ rfl rfl ⟨_,pJ b4 _ _ _,_,rfl,Hc N,cX ?_⟩));have p:=aJ o ga;have T:aE (.loc a) (PP m.1) d=b0 (.str m.2,d):=bD ((jG p (cB m.1) (pI nd q)).mpr rfl);by_cases i:eM m.2=b5
  .have Y:=J (mkd_mem.mpr ⟨m,q,i,rfl⟩);subst Y;refine nQ (bX (aN (aZ rfl rfl ⟨_,T,_,rfl,_,pJ b5 _ _ _,_,rfl,Hd (r8 (ok m q) i),gO (w_mAndV.mpr (aP rfl ((Ai gl).mpr ((if_pos rfl).mpr (aN ⟨_,rfl,_,rfl,?_⟩)))))⟩)));exact(Hb (aJ (aU _ _) gl) (bC _ _)).mpr (H _ (o.trans (aU _ _)))
  .have mo:m.2="o":=(ok m q).resolve_right λz=>i (by rcases z with e|e<;>rw[e]<;>decide +kernel);have u:y≠[]:=λz'=>i (by
    rw[z']at n;obtain⟨hl',nd',_⟩:=r;have:=n.nl;have O:=pI nd B;rw[this,pI nd q]at O;have:m.2=z.2:=D.str.inj (Wt O);rw[this];exact j)
   refine gN (bX (aN (aZ rfl rfl ⟨_,T,_,rfl,_,pJ b5 _ _ _,_,rfl,VU mo,cX ?_⟩)));have L:0<y.length:=List.length_pos_iff.mpr u;have I:=VR (k+9) (λt ht=>(Bf ht).2) n gl (aJ o gb);have A:=aJ (aU d (C.lst [])) gl;have g:y[y.length-1]?=b0 y[y.length-1]:=Wi (by lia);have G:aE (.loc l) (.int (-1)) (d++[C.lst []])=b0 (bE y[y.length-1],d++[C.lst []]):=by refine bD ((eK A ?_).mpr rfl);have:=AV (xs:=y.map bE) (i:=0) (by rw[V7];exact L);rw[V7,a2V,a0o (by lia),Ws,g]at this;exact this
   refine gN (o8 (iT (eS (aP rfl (bA I ⟨rfl,rfl,o8 (bX (aN ⟨_,rfl,_,rfl,(Hb A (bC _ _)).mpr ⟨_,rfl,by rw[List.isEmpty_map];exact List.isEmpty_eq_false_iff.mpr u,bX (aN (aN (aZ rfl rfl ⟨_,G,_,rfl,_,rfl,_,rfl,_,vU b5 _ _ _,_,rfl,?_⟩)))⟩⟩))⟩)))));refine⟨by rw[n.la _ g];simp,cX ?_⟩;have X:aE (.loc l) (.int 0) (d++[C.lst []])=b0 (bE y[0],d++[C.lst []]):=bD ((eK A (show atI (y.map bE) ((0:Nat):Int)=b0 (bE y[0])from mM (by rw[Ws,Wi L];rfl))).mpr rfl);have E:y[0].1=z.1:=by
    cases y with
    |nil=>cases L|cons s y=>exact n.hd.symm
   have Z:aE (.loc a) (PP y[0].1) (d++[C.lst []])=b0 (.str z.2,d++[C.lst []]):=by rw[E];exact bD ((jG (aJ (aU _ _) p) (cB z.1) (pI nd B)).mpr rfl)
   refine aY (aN ⟨_,rfl,aN (aZ rfl rfl ⟨_,X,_,rfl,_,rfl,_,Z,bW (w_mAndV.mpr (aZ rfl rfl ⟨_,pJ b5 _ _ _,?_⟩))⟩)⟩);rw[show(if b5=b5 then !(z.2=="o")else z.2=="o")=b5 from Hd M];refine(if_pos rfl).mpr (aN (aZ rfl rfl ⟨_,pJ b5 _ _ _,aP rfl (VP (k+9) K A _ λμ3 p3=>?_)⟩));rw[R,show(if b5=b5 then !(z.2==gW (fD y) z.2)else z.2==gW (fD y) z.2)=((fD y:Int)%2==1)from VT M _];refine⟨_,rfl,?_⟩;rw[beq_self_eq_true];exact H _ (o.trans ((aU _ _).trans p3))
theorem VX(m:(Int×Int)×Str)(a:Hm):c5 7 a (MD m) (MD m)=b0 true:=by show b0 ((m.1.1==m.1.1&&(m.1.2==m.1.2&&b5))&&((m.2==m.2)&&b5))=_;simp
theorem He(a:Hm):∀l:List ((Int×Int)×Str),i7 (c5 7 a) (l.map MD) (l.map MD)=b0 b5
 |[]=>rfl|m::l=>by rw[WA];show(c5 7 a (MD m) (MD m)).bind (λb=>(i7 (c5 7 a) (l.map MD) (l.map MD)).map λc=>b&&c)=_;rw[VX,He a l];rfl
theorem Hf{c:Hm}{a b:Nat}{l:List ((Int×Int)×Str)}(g:c[a]?=b0 (.lst (l.map MD)))(h:c[b]?=b0 (.lst (l.map MD)))(d:Bool):aT d (.loc a) (.loc b) c=b0 (.bl (!d),c):=by
 have e:c5 8 c (.loc a) (.loc b)=b0 true:=by show(i6 c (.loc a)).bind (λx=>(i6 c (.loc b)).bind λy=>pU (c5 7 c) x y)=_;simp only[i6,g,h];exact He c l
 unfold aT;rw[e];cases d<;>rfl
noncomputable def Bh(ms:List ((Int×Int)×Str))(e:Ed):Str:=match a8 (bR ms) (a9 e)with
 |some (.str s)=>s|_=>"o"
theorem VY{ms:List ((Int×Int)×Str)}(nd:(ms.map (·.1)).Nodup){m:(Int×Int)×Str}(h:m∈ms):Bh ms m.1=m.2:=by unfold Bh;rw[pI nd h]
noncomputable def mQ(ms:List ((Int×Int)×Str))(kvs:jx)(r:Ed->Ed)(p:Ed->Int)(e:Ed):Str:=jN kvs r p (e,Bh ms e)
theorem Hg{ms:List ((Int×Int)×Str)}(nd:(ms.map (·.1)).Nodup){kvs:jx}{r:Ed->Ed}{p:Ed->Int}{m:(Int×Int)×Str}(h:m∈ms):mQ ms kvs r p m.1=jN kvs r p m:=by unfold mQ;rw[VY nd h]
theorem VZ{ms:List ((Int×Int)×Str)}(ok:∀m∈ms,m.2="o"\/m.2="h"\/m.2="v") {T:List St}{U:List Ed}{kvs:jx}{r:Ed->Ed}{p:Ed->Int}(J:TdJ ms r p kvs)(g:Gr T U r p){e:Ed}{m:(Int×Int)×Str}(h:m∈ms)(d:eM m.2=b5){y:List St}(l:Wy T m.1 y e):mQ ms kvs r p e=gW (fD y) m.2:=by
 obtain⟨A,_⟩:=J;obtain⟨k,q⟩:=g.way l;have b:=A m h d;rw[k]at b;unfold mQ jN;dsimp only;rw[b];show(if((c9 m.2+p m.1)%2+p e)%2=0 then("h":Str)else "v")=_;have a:(fD y:Int)%2=0\/(fD y:Int)%2=1:=by lia
 have i:c9 "h"=0:=by unfold c9;rw[if_neg (by decide +kernel)]
 have j:c9 "v"=1:=by unfold c9;rw[if_pos rfl]
 have n:nY "h" = "v":=by unfold nY;rw[if_pos rfl]
 have o:nY "v" = "h":=by unfold nY;rw[if_neg (by decide +kernel)]
 unfold gW;rcases r8 (ok m h) d with c|c<;>rw[c]<;>rcases a with a|a
 .rw[a,if_pos (by rw[i];lia),if_pos (by decide)]
 .rw[a,if_neg (by rw[i];lia),if_neg (by decide),n]
 .rw[a,if_neg (by rw[j];lia),if_pos (by decide)]
 .rw[a,if_pos (by rw[j];lia),if_neg (by decide),o]
theorem V0{ms:List ((Int×Int)×Str)}(nd:(ms.map (·.1)).Nodup)(ok:∀m∈ms,m.2="o"\/m.2="h"\/m.2="v") {T:List St}{kvs:jx}{r:Ed->Ed}{p:Ed->Int}(J:TdJ ms r p kvs)(b:∀e∈ms.map (·.1),Cn T e (r e)){e:Ed}(hc:∀x∈gU ms,¬ Cn T x e)(g:e∈ms.map (·.1)):mQ ms kvs r p e="o":=by
 obtain⟨_,B⟩:=J;obtain⟨m,a,rfl⟩:=Wz.mp g;cases h:a8 kvs (a9 (r m.1))with
 |some d=>obtain⟨y,i,j,k,_⟩:=B _ _ h;refine absurd ?_ (hc y.1 (mkd_mem.mpr ⟨y,i,j,rfl⟩));have c:=b y.1 (Wz.mpr ⟨y,i,rfl⟩);rw[k]at c;exact c.tr (b m.1 g).sy|none=>rw[Hg nd a];unfold jN;rw[h];exact(ok m a).resolve_right λz=>hc m.1 (mkd_mem.mpr ⟨m,a,by rcases z with e|e<;>rw[e]<;>decide +kernel,rfl⟩) (.rf _)
inductive LmI (d0 d1 d2 d3 d4 d5:Option D)(a:Nat)(ms:List ((Int×Int)×Str))(ν:Hm):Nat->aH->Hm->Prop
 |mk {i:Nat}{x y:Option D}{μ:Hm}(p:ν<+:μ)(g:μ[a]?=b0 (.dT (bR (ms.take i)))):LmI d0 d1 d2 d3 d4 d5 a ms ν i [d0,d1,d2,d3,d4,d5,b0 (.loc a),x,y,b3] μ
theorem V1(k:Nat)(ns:List Int){l n:Nat}{xs:List D}{a:Hm}(g:a[l]?=b0 (.lst xs))(p:xs.length=n)(q:0<n){i:Nat}(r:i<1000){d1 d2 d3 d5 d6 d e:Option D}:∃j:Nat,j<n/\FD (k+1) [b0 (.rol (ns.map D.int)),d1,d2,d3,b0 (.loc l),d5,d6,d,e,b0 (.int (i:Int))] a=b0 (.int (j:Int),a):=by
 have c:bL [.loc l] a=b0 (.int (n:Nat),a):=bD ((dN g).mpr (by rw[p]));have b:∀j:Int,0<=j->f (k+1) "_law_nth" [.rol (ns.map D.int),.int j] a=b0 (.int (cU ns j),a):=λj o=>bD (nV k ns o a _ rfl);refine⟨((cU ns 7+(i:Int)*(1+cU ns 8%n))%n).toNat,?_,?_⟩
 .have:=YV (cU ns 7+(i:Int)*(1+cU ns 8%n)) (show(0:Int)<n by lia);lia
 .have h:=Zz (cU ns 7+(i:Int)*(1+cU ns 8%n)) (show(n:Int)≠0 by lia);rw[Int.toNat_of_nonneg h];refine bD (aN (aN (aP rfl (bA (b 7 (by decide)) (aN ⟨_,rfl,aN ⟨_,rfl,aN ?_⟩⟩)))));refine aP rfl (bA (b 8 (by decide)) (aP rfl (bA c ((cZ (by lia)).mpr (w_addI.mpr ((kZ (.inl ⟨by lia,by lia⟩)).mpr (w_addI.mpr ?_)))))));exact aP rfl (bA c ((cZ (by lia)).mpr rfl))
inductive LfI (d0 d1 d2 d3 d4 d5 d6:Option D)(ν:Hm):Nat->aH->Hm->Prop
 |mk {i:Nat}{x y z:Option D}{μ:Hm}(p:ν<+:μ):LfI d0 d1 d2 d3 d4 d5 d6 ν i [d0,d1,d2,d3,d4,d5,d6,x,y,z] μ
theorem V2(k:Nat)(ns:List Int){w h:Int}(hw:1<=w/\w<=6)(K:1<=h/\h<=6){ms:List ((Int×Int)×Str)}(Z:ShOk ms)(J:(bK w h).find? (c7 (aM ms))=b3)(L:(fC (aM ms) w h).length<64){dm:Ed->Str}(I:∀e,(∀x∈gU ms,¬ Cn (TT ms w h) x e)->e∈ms.map (·.1)->dm e="o") (h1:∀e,∀m∈ms,eM m.2=b5->∀y,Wy (TT ms w h) m.1 y e->dm e=gW (fD y) m.2){b l:Nat}{Q:Hm}(gb:Q[b]?=b0 (.lst ((TT ms w h).map bE)))(gl:Q[l]?=b0 (.lst ((ms.map λm=>(m.1,dm m.1)).map MD))){x3:Option D} :
  W (FF (k+11) [b0 (.rol (ns.map D.int)),b0 (SH w h ms),b0 (.loc b),x3,b0 (.loc l),b3,b3,b3,b3,b3] Q) λp=>match p.1 with|.rt d=>d=.bl b5|_=>False:=by
 have u:=Z;obtain⟨hl,nd,ok⟩:=Z;have R:(ms.map λm=>MD (m.1,dm m.1))=(ms.map λm=>(m.1,dm m.1)).map MD:=by rw[WC];rfl
 refine aY (aP rfl (G7 (k+1) hw K u J L I h1 _ _ λB E p5 M v=>?_));rw[R]at v;refine gN (o8 (iT (eS (aP rfl ((Ai v).mpr ⟨rfl,rfl,bX (aZ rfl rfl ⟨_,Hf v (aJ p5 gl) b5,_,rfl,rfl,cX ?_⟩)⟩)))));refine k6 (eF ⟨_,rfl,dX v,_,rfl,(fS v (by rw[V7,V7,Wv];lia)).mpr ?_⟩);have O:=dJ (c:=C.lst ((ms.map λm=>(m.1,dm m.1)).map MD++[.int 2])) p5 M;show W (aG _ _ _ (E.set B (C.lst ((ms.map λm=>(m.1,dm m.1)).map MD++[.int 2])))) _;generalize E.set B (C.lst ((ms.map λm=>(m.1,dm m.1)).map MD++[.int 2]))=μ6 at O ⊢;have p7:=aU μ6 (C.dT []);refine aY (w_mDNewT.mpr (dC (w_mForI.mpr (w_iSeq.mpr (aZ rfl rfl (w_it32.mpr (w_seqT.mpr ?_)))))));refine uR (x:=.tup (ms.map MD)) (xs:=ms.map MD) (λ_=>rfl) (LmI (b0 (.rol (ns.map D.int))) (b0 (SH w h ms)) (b0 (.loc b)) x3 (b0 (.loc l)) (b0 (.loc B)) μ6.length ms μ6) (.mk p7 (by rw[XJ];exact bC _ _)) ?_ ?_
 .rintro i d _ a hd ⟨p,g⟩;obtain⟨m,A,rfl⟩:=vW hd;refine⟨_,rfl,w_mPut.mpr ⟨_,rfl,_,rfl,_,rfl,(mJ g (cB m.1) (by unfold bR;rw[V7,Xa,Wv];lia)).mpr (.mk (dJ p (Wh _) _) ?_)⟩⟩;rw[cN g,gQ A];refine congrArg (λy=>b0 (C.dT y)) (Bd ?_);have:=nW nd (n:=i) (x:=m.1) (by rw[Ws,A];rfl);rw[<- a2u]at this;exact this
 .rintro _ a ⟨p8,T⟩;rw[V7,W9]at T;have H:=aJ (O.trans p8) gb;have s:=aJ (O.trans p8) gl;have ll:((ms.map λm=>(m.1,dm m.1)).map MD).length=ms.length:=by rw[V7,V7]
  have p9:=aU a (C.lst ([6,2].map D.int));have el:bL [.loc l] (a++[C.lst ([6,2].map D.int)])=b0 (.int (ms.length:Nat),a++[C.lst ([6,2].map D.int)]):=bD ((dN (aJ p9 s)).mpr (by rw[ll]));obtain⟨c,hc,ec⟩:∃c:Int,(0<c/\c<=6)/\aE (.loc a.length) (.int (if decide (3<w)then 1 else 0)) (a++[C.lst ([6,2].map D.int)])=b0 (.int c,a++[C.lst ([6,2].map D.int)]):=by
   cases decide (3<w)with
   |true=>exact⟨2,by decide,bD ((eK (bC _ _) (show atI ([6,2].map D.int) 1=b0 (.int 2)from rfl)).mpr rfl)⟩|false=>exact⟨6,by decide,bD ((eK (bC _ _) (show atI ([6,2].map D.int) 0=b0 (.int 6)from rfl)).mpr rfl)⟩
  obtain⟨n,hN,eN⟩:∃n:Int,(0<=n/\n<=6/\n<=ms.length)/\kW [.int c,.int (ms.length:Nat)] (a++[C.lst ([6,2].map D.int)])=b0 (.int n,a++[C.lst ([6,2].map D.int)]):=⟨_,by split<;>lia,Gn _ _ _⟩;refine⟨rfl,dC (w_mForI.mpr ((mI (j:=0)).mpr (aW (eQ (aW (aN (bA (r:=(.loc a.length,a++[C.lst ([6,2].map D.int)])) rfl (eQ (aW (aZ rfl rfl (w_gtI.mpr ⟨_,rfl,_,rfl,_,ec,aW (aP rfl (bA el ⟨_,rfl,?_⟩))⟩)))))))))))⟩;refine bA eN ?_;refine⟨_,rfl,?_⟩;refine⟨⟨by lia,by lia⟩,?_⟩;have cn:∀i:Nat,i<n.toNat->0<ms.length/\i<1000:=λi X=>by lia
  refine j9 (lo:=0) (b:=FE (k+11)) (LfI (b0 (.rol (ns.map D.int))) (b0 (SH w h ms)) (b0 (.loc b)) x3 (b0 (.loc l)) (b0 (.loc B)) (b0 (.loc μ6.length)) a) (.mk p9) ?_ ?_
  .rintro i _ q X ⟨o⟩;obtain⟨c1,c2⟩:=cn i X;refine⟨_,rfl,?_⟩;rw[Zl];have r:=aJ o s;obtain⟨j,Y,ej⟩:=V1 (k+10) ns r ll c1 c2 (d1:=b0 (SH w h ms)) (d2:=b0 (.loc b)) (d3:=x3) (d5:=b0 (.loc B)) (d6:=b0 (.loc μ6.length));have em:(ms.map λm=>(m.1,dm m.1))[j]?=b0 (ms[j].1,dm ms[j].1):=by rw[Ws,Wi Y];rfl
   have G:aE (.loc l) (.int (j:Int)) q=b0 (MD (ms[j].1,dm ms[j].1),q):=bD ((eK r (mM (by rw[Ws,em];rfl))).mpr rfl);have A:ms[j]∈ms:=XY Y;refine w_mSeq.mpr (w_mAsg.mpr (aN ⟨_,rfl,_,ej,_,G,w_gTup2.mpr ?_⟩));refine w_mIfS.mpr (iT (eS (aP rfl (VW k hw K u J L A (λz=>I _ z (Wz.mpr ⟨_,A,rfl⟩)) (h1 _) (aJ o H) (aJ o T) _ λμ11 N=>⟨rfl,?_⟩))));exact(if_neg Wj).mpr (w_mNext.mpr (.mk (o.trans N)))
  .rintro _ q ⟨o⟩;refine⟨rfl,bW (aN (aP rfl (G7 (k+1) hw K u J L I h1 _ _ λl9 μ9 q9 _ U=>⟨_,rfl,?_⟩)))⟩;rw[R]at U;exact⟨_,Hf U (aJ (o.trans q9) s) b4,rfl⟩
theorem V3(k:Nat)(ns:List Int)(O:Hm):W (f (k+12) "law" [.rol (ns.map D.int)] O) λp=>p.1=.bl true:=by
 refine bU (SX (k+11) _ O) (aY (aP rfl (Vb (k+4) ns _ _ λw h S μ1 hw n L=>?_)));have i:=L;obtain⟨hl,nd,ok⟩:=L;cases j:(bK w h).find? (c7 (aM S))with
 |some c=>exact nQ (bX (aN (aP rfl (Gw (k+9) hw n (by lia) _ _ λB p2=>⟨_,rfl,by rw[j];exact w_isnotTN.mpr ⟨_,rfl,rfl,gO ⟨_,rfl,rfl⟩⟩⟩))))|none=>
  have I:(fC (aM S) w h).length<64:=a4d (UH hw n j) (by lia);refine gN (bX (aN (aP rfl (Gw (k+9) hw n (by lia) _ _ λB p2=>⟨_,rfl,?_⟩))));rw[j];refine w_isnotNN.mpr ⟨_,rfl,rfl,cX ?_⟩;refine aY (aP rfl (T1 (k+9) hw n (by lia) I _ _ λb μ3 p3 _ u=>?_));rw[GZ]at u;refine aY (aP rfl (VH (k+10) i (λt Z=>(Bf Z).1) u _ (λE M=>?_) λa E r p M v X Q=>?_))
  .exact nQ (w_mOrT.mpr (bX (aZ rfl rfl (w_isNN.mpr ⟨_,rfl,(if_pos rfl).mpr ⟨rfl,gO ⟨_,rfl,rfl⟩⟩⟩))))
  .have U:=aJ M u;refine w_mSeq.mpr (w_mIfS.mpr (o8 (bX (aZ rfl rfl (w_isLN.mpr ⟨_,rfl,rfl,bX (aN (aP rfl (G9 (k+10) i v _ (λG o _=>?_) λd G kvs o gd J=>?_)))⟩)))))
   .exact⟨_,rfl,w_isNN.mpr ⟨_,rfl,(if_pos rfl).mpr (w_mRet.mpr ⟨_,rfl,rfl⟩)⟩⟩
   .refine⟨_,rfl,w_isLN.mpr ⟨_,rfl,(if_neg Wj).mpr (w_mNext.mpr ?_)⟩⟩;refine aY (eQ (aW ⟨_,rfl,aW ⟨_,rfl,aW (aP rfl (G9 (k+10) i (aJ o v) _ (λ_ _ z=>absurd J.cons z) λd2 μ6 g N x s=>⟨_,rfl,?_⟩))⟩⟩));refine VM (k+10) i s (aJ (o.trans N) v) x _ λl μ7 p7 _ H=>?_;have R:(S.map λm=>MD (m.1,jN g r p m))=(S.map λm=>(m.1,mQ S g r p m.1)).map MD:=by rw[WC];refine XF λm A=>?_;show _=MD (m.1,mQ S g r p m.1);rw[Hg nd A]
    rw[R]at H;refine bO (V2 k ns hw n i j I (dm:=mQ S g r p) (λe hc Y=>V0 nd ok s Q hc Y) (λe m A j y hy=>VZ ok s X A j hy) (aJ (o.trans (N.trans p7)) U) H (x3:=b0 (.loc a))) λq K=>?_;obtain⟨T,q⟩:=q;cases T with
    |rt d=>exact K|_=>exact K.elim
theorem V4:∀ns:List Int,ns.length<=63->∃μ',jF S ds 12 "law" [.rol (ns.map D.int)] []=b0 (.bl b5,μ'):=λns _=>by obtain⟨⟨d,μ'⟩,a,b⟩:=V3 0 ns [];dsimp only at b;subst b;refine⟨μ',?_⟩;unfold f at a;exact a
theorem dz(Q:X2):uP (Kx Q) ds:=by unfold uP;kernel_rfl
theorem cz(Q:X2):Ff (Kx Q) S.con=true:=by kernel_rfl
theorem nz(Q:X2):S.no.map (ZT (Kx Q) XI)=S.no.map λ_=>b0 none:=by kernel_rfl
theorem V5{P:WL}{w:WX}{Q:X2}
  {d0:Addr}{l:a3a}{g:a3a}{n:a3a}{i:a3a}{a:Nat}
  (g_TURNED:ZT (Kx Q) XI "TURNED"=b0 (b0 (.ref d0)))
  (hd0:(Kx Q).lookup d0=b0 {cls:=.type "dict",data:=.dict #[⟨hashStr w "h",.str "h" l,.str "v" g⟩,⟨hashStr w "v",.str "v" n,.str "h" i⟩] a})
  (zd0:(d0==XB)=b4)
  {h:Xo}{c:Str → Option Value}(X:(Kx Q).In h)(G:h.Ns XI c):TxtOk P w (Kx Q) c S ds ∧ ∃f d,Fun (Kx Q) "law" "law" (aI 87) f d ∧ c "law"=b0 (.ref f) ∧ ∀(s:Wf)(u:Value),a1Y s d ⟨[u],[]⟩ [("_law_script",u)]:=by
 refine⟨⟨QY (by decide +kernel),QZ λp k=>(Fc X G (dz Q) p k).1,Q0 (Q7 X G (cz Q)),λx b e=>?_,Q3 (Q6 X G (nz Q))⟩,Q5 X G (dz Q) (by kernel_rfl) (by kernel_rfl)⟩
 .refine Q1 ?_ x b e;refine List.forall_mem_cons.mpr ⟨⟨d0,[(ZL "h",(.str "v")),(ZL "v",(.str "h"))],[(ZL "h",a0l "v" g),(ZL "v",a0l "h" i)],a0D X G g_TURNED,zd0,λo j=>Q2 (ks:=[ZL "h",ZL "v"]) (j _ _ hd0) (.cons (EZ _ _) rfl rfl (.cons (EZ _ _) rfl rfl (.nil))) (by decide +kernel) rfl,.cons ⟨rfl,⟨_,rfl⟩⟩ (.cons ⟨rfl,⟨_,rfl⟩⟩ (.nil)),λ_ _ _=>.cons (.str _) (.cons (.str _) (.nil))⟩,λ_ z=>nomatch z⟩
end Lw
open PySem PySem.W PyProof.Rows
set_option maxRecDepth 100000 in
set_option maxHeartbeats 0 in
theorem PySem.Challenge.cw_creasecourt_k53_marks_carried_holds : PySem.Challenge.rw_creasecourt_k53_marks_carried.Holds := by
 w_on
 refine holds_law Lw.wSaid fun a=>?_
 refine holds_open (q:=Lw.Vw) (loose:=["TURNED"]) (Xt:=fun s=>xlAt Lw.Vw [] s&&recOk (a5k (a4b (Xe We))) s) (XP:=XL Lw.Vw []) (Yf:=Hook.obs (a6n Lw.Kx Lw.As Lw.pR)) (Ya:=Hook.val (a6n Lw.Kx Lw.As Lw.pR)) (YP:=Hook.says (a6n Lw.Kx Lw.As Lw.pR)) (N:=7504) Lw.run (Hook.of _) (Hook.keeps _) (fun s e=>xl_of s (YJ.mp e).1) XL.keeps (by rfl) (by rfl) (by rfl) (fun s e=>recFacts_of (YJ.mp e).2) (by rfl) (by first|assumption|decide +kernel) (by decide +kernel) ⟨rfl,rfl,rfl,rfl,rfl,by decide +kernel⟩ ?hw ?hc
 case hw=>w_witness2
 k_fill
 refine L3.walkM (l:=We) (S:=Lw.S) (ds:=Lw.ds) (k:=12) (st:=Lw.aI 87) (x:="_law_script") rfl rfl ⟨rfl,by decide,by decide⟩ (fun w h Y=>PySem.W.kIn_of Y) (by kernel_rfl) (by kernel_rfl) ?F (fun c h _=>Lw.V4 c h)
 case F=>
  intro w d h b G
  refine' @Lw.V5 Xq w _ 344 633 634 635 636 2 ?g_TURNED ?hd0 ?zd0 _ _ b G
  (case g_TURNED=>kernel_rfl)
  (case hd0=>kernel_rfl)
  (case zd0=>exact rfl)
