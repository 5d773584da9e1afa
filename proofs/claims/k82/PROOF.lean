import PyProof.Rows.All
import Wide.All
import OpenK.AllK
import Wide.FinOn
import PyProof.EqAt
import PyProof.EqKinds
import PyProof.TupleCall
import KE.KDictSum
import PyProof.SliceStr2
import PyProof.NeKinds
import PyProof.StrWalks
import PyProof.ConsumeWalk
import KE.KSortTup
import PyProof.StationsW
import OpenK.KOwn
import PyProof.RulesAs
import PyProof.NsDelKeeps
import PyProof.InstStoreFacts
import OpenK.KCls
import PyProof.ExcArgs
import PyProof.ExcAttrAll.ValueError
import KE.KIsAll
import PyProof.Rows.SetFrom
import PyProof.Rows.SortStr
import PyProof.SumAny
import PyProof.EnumMake
import KE.KRevIter
import PyProof.MeetsStr
import PyProof.ListRange
import PyProof.Rows.Range3
import KE.KDictList
import PyProof.PureStr
import PyProof.WalkInts
import PyProof.ConsumeS
import PyProof.ZipIter
import PyProof.AttrMissHeap
import KE.KDictOf
import PyProof.DictItems
import KE.KItemsList
import KE.KEqDict
import PyProof.DictValues
import PyProof.DictWalks
import PyProof.Rows.StrNews
import KE.KPairComp
import KE.KPar
import PySem.Challenge.RW_creasecourt_k82_back_and_refused
open Option renaming some->b4,none->c4
open Bool renaming false->c6,true->c7
open Array renaming mk->WX,getElem?_eq_some_iff->XN,getElem?_toList->Yc,length_toList->Y2,replicate->a1y,getElem?_eq_getElem->a1R,getD->a3h,append_assoc->a3i,toList_inj->a3N,toList->a4H
open Bool renaming and_eq_true->VW,false_eq_true->V6,false_ne_true->Wu,not_true->W9,not_false->X5,and_eq_true_iff->YY,or_eq_true->Y9,not_eq_true'->Zj,eq_iff_iff->ZD,false_and->a4t,and_false->a4u,or_false->a4F,and_true->a4G,or_true->a4V
open Classical renaming choose->a0G,choose_spec->a1Q
open False renaming elim->Wo
open ForInStep renaming yield->Y1
open Function renaming comp_apply->a2t
open Int renaming emod_nonneg->Za,emod_lt_of_pos->Ze,toNat_natCast->Z0,mul_le_mul->a4E
open List renaming getElem?_eq_some_iff->VY,length_map->V0,set_cons_zero->V3,set_cons_succ->V4,length_append->V5,getElem?_set_ne->V9,map_cons->We,map_append->Wf,getElem?_set_self->Wh,mem_cons_of_mem->Wq,mem_cons->Wr,mem_map->Wt,length_cons->Ww,getElem?_append_left->Wz,size_toArray->WA,getElem?_map->WD,length_set->WG,replicate->WH,map_map->WI,getElem?_eq_getElem->WM,all_cons->WN,mem_singleton->WS,zipWith_cons_cons->WT,mem_cons_self->WU,mem_append_right->WV,length_singleton->WW,length->WY,getElem?_append_right->W2,append_nil->W4,find?_cons->Xf,range->Xh,filter_cons_of_neg->Xl,cons_append->Xp,mem_of_getElem?->Xq,length_filter_le->Xv,contains_iff_mem->Xw,mem_filter->Xy,length_take->Xz,filter_cons_of_pos->XA,all_eq_true->XB,getElem?_eq_none_iff->XE,mem_append->XF,map_congr_left->XI,nodup_cons->XO,prefix_refl->XQ,length_reverse->XU,append_assoc->XX,prefix_append->XZ,forall_mem_cons->X0,filterMap_cons->X6,filter_append->Ye,lookup->Yh,nil_append->Yj,replicate_succ->Yo,flatMap_append->Yp,take_length->Ys,length_replicate->Yw,getElem?_replicate->YF,filter_eq_nil_iff->YJ,dropLast_concat_getLast->YK,nodup_append->YQ,flatten_cons->YR,mem_append_left->YX,not_mem_nil->Y0,filter_nil->Y8,flatMap_cons->Zi,take_append_drop->Zt,set_append_right->Zu,getElem?_eq_none->Zv,lookup_cons->Zx,filter_sublist->ZH,zipWith->ZJ,mem_range->ZP,reverse_cons->ZX,range'->ZY,range'_succ->Z6,mem_flatMap->Z7,length_eq_zero_iff->Z8,all_eq_not_any_not->Z9,of_mem_zip->a0i,set_append_left->a0s,any_cons->a0F,mem_filterMap->a0K,contains_cons->a0L,set_set->a0S,map_nil->a0T,map_inj_left->a0U,any_map->a0V,any_eq_false->a0W,getElem_mem->a1n,flatMap_nil->a1o,range_succ->a1z,foldl_cons->a1A,filter_map->a1B,exists_mem_of_ne_nil->a2f,drop_eq_getElem_cons->a2g,getElem?_take_of_lt->a2m,mem_singleton_self->a2r,getElem?_cons_succ->a2s,range_succ_eq_map->a2z,append_eq_nil_iff->a2A,singleton_append->a2Q,dropLast_eq_take->a2R,mem_of_mem_take->a2W,map_eq_nil_iff->a3c,length_pos_iff->a3d,getElem_of_mem->a3e,foldl->a3p,find?_eq_none->a3q,getElem?_set->a3J,foldl_append->a3K,ext_getElem?->a3L,map_reverse->a3X,length_drop->a3Y,getElem_inj->a3Z,filter_cons->a4a,range_zero->a4j,map->a4q,map_id->a5h
open List.Pairwise renaming map->a0j,nil->a5i
open List.cons renaming injEq->ZZ
open Nat renaming le_refl->Wa,lt_of_lt_of_le->Wy,ne_of_lt->WB,zero_le->W7,le_trans->Xk,lt_succ_self->XT,lt_irrefl->Y7,sub_self->Zq,ne_of_gt->ZL,not_lt->ZR,succ_mul->a1f,le_of_lt->a1g,le_of_eq->a1h,not_lt_zero->a1I,mul_le_mul->a2e,exists_eq_add_of_le->a2y,succ_pos->a2O,lt_or_ge->a2P,le_succ->a3b,le_of_lt_succ->a3W,lt_succ_iff->a4p,add_zero->a5g,log2_lt->a5A,mod_lt->a5S
open Ne renaming symm->WL
open Option renaming bind_eq_some_iff->VT,map_eq_some_iff->VZ,bind_some->Wl,map_some->WE,isSome_iff_exists->Xc,isSome_map->a0I,getD_none->a0R,none->a4D
open Option.some renaming inj->Wj
open Or renaming inr->a2V,inl->a3U
open PUnit renaming unit->a5e
open Prod renaming ext->a0r
open Prod.mk renaming inj->a0h
open PyProof.Rows renaming callWith_type1->XY,envOfC->Zn,AllBare->a0d,callWith_builtin1->a0q,subscriptTail->a1k,Subscript_->a2K,subscriptTail_builtinR->a3w,IntsAre->a3M,boot_range->a4B,wpAny_notIn_heap->a5r,pow_int_small->a5s,pow_int->a5t,mul_int->a5u,floordiv_int->a5v,call_len_slot->a5w,assign_Tuple_tuple->a5x,assign_Tuple->a5y,args_cons->a5z,tail_any->a5N
open PyProof.Rows.Boot renaming list->Zo,dict->Zp,isinstance->Z5,tuple->a3z,str->a3A,reversed->a3B,min->a3C,max->a3D,len->a3E,int->a3F,bool->a3G,ValueError->a3H
open PySem renaming wpAny_bind->VX,Shared->V1,wpAny_pure->V7,sizeLine->Wb,wpAny->Wm,starEach->Wn,Program->Wv,model->WC,Around->WJ,World->WO,wpAny_mono->WR,mainGlobals->WZ,sizeLine_eq->W6,FuncData->W8,compareOp->Xd,Params->Xi,wpAny_dictEntries->Xj,Heap->Xo,sysModules->Xs,mem_of_lookup->Xu,Pos->XD,wpAny_Call_Name_kw->XG,keywordEach->XJ,backTo->XM,bootBuiltins->XW,wpAny_truthy_bool->X8,wpAny_newObj_type->X9,wpAny_holding->Yi,sliceBounds->Yk,Scope->Yl,treeTable->Yq,assignEach->Yr,cLine->Yt,backToKw->Yu,codeAny_mono->Yv,attributeBase->Yx,tupleKind->Yz,wpAny_notOrdered_dict->YB,NameKind->YD,Keyword->YE,intKind->YO,wpAny_dictEpoch->YT,binaryOp->YU,behindInMarks->YW,foldedSetIterable->YZ,wpAny_call->Y3,wpAny_isInstance->Y5,wpAny_call_entry->Y6,CmpOp->Zf,wpAny_specialOf->Zg,wpAny_ite_split->Zh,wpAny_setField_rec->Zk,rawInt->Zl,wpAny_setField->Zy,compEnvC->ZA,wpAny_typeNameOfWhole_itemiter->ZE,swapsWith->ZF,codeAny->ZI,wpAny_field->ZK,IsRangeIter->ZM,wpAny_passesOwn->ZQ,Env->ZS,OsState->ZW,recursionLimit->Z2,atKey->Z3,wpAny_loadPart_at->a0a,standAt->a0b,importBound->a0c,wpAny_Call_method0_late->a0k,getMethod->a0l,wpAny_isOneOf_itemiter->a0u,evalArgs_none->a0v,Paired->a0w,wpAny_execs_nil->a0y,letOwnedTupleGo->a0z,methodCallForm->a0M,firstArgMember->a0N,excClassObj->a0O,bindArgs->a0P,BindsTo->a0Y,wpAny_isSubtype_exc->a0Z,wpAny_standAt->a1j,methodCallPos->a1l,call_meets->a1r,assign->a1s,IsItemIter->a1w,slot_list_getitem->a1E,callerA->a1G,call_meetsIn->a1H,wpAny_execs_cons->a1S,typeOf->a1T,setFlight->a1U,pyNext->a1W,pyIter->a1X,noteFrame->a1Y,isTrue->a1Z,cellsFrom->a2a,subscripted->a2i,Model->a2l,Within->a2o,wpAny_richCompare_same_room->a2u,valueAt->a2v,getItem->a2w,wpAny_newFunctionEnv_cells->a2D,typeLookup->a2E,sliceRange->a2F,setField->a2G,callWith->a2H,bindL->a2I,bindC->a2J,Result->a2L,Operator->a2N,wpAny_getItem_list_slice->a2X,swappedStores->a2Y,ExceptHandler->a3f,wpAny_callSpecial?_slot->a3j,slicePick->a3k,wpAny_pyNext_range_end->a3s,wpAny_pyNext_list_item->a3t,wpAny_pyIter_rangeiter->a3u,wpAny_Call_method_late->a3v,Sem->a3x,wpAny_pyNext_list_end->a3O,wpAny_isOneOf_keyiter->a3P,codeAny_call_function->a3Q,builtinLookup_eq_fast->a3R,wpAny_pyIter_keyiter->a4e,wpAny_letGo->a4f,unbindBehindTheSuite->a4g,lookup_relabel_local->a4h,SetTable->a4i,IntMulOk->a4k,GenState->a4l,wpAny_pyIter_range->a4v,wpAny_Name->a4w,wpAny_List_spliced->a4x,typeIs_int->a4y,closureFor->a4z,builtinsNs->a4A,wpAny_pyIter_slot->a4I,wpAny_pyIter_list->a4J,wpAny_assign_Name->a4K,wpAny_Return_some->a4L,wpAny_Assign_Name->a4M,spliced->a4N,relabel->a4O,leaving->a4P,wpAny_forIn_list->a4W,lastMarks->a4Y,checkBuiltinCall->a4Z,Slot->a5a,call->a5b,PassesOwn->a5d,Arguments->a5m,typeLookup_type->a5n,size_of_entries->a5o,importedModules->a5p,wpAny_loadPart->a5K,wpAny_fieldsOf->a5L,wpAny_Expr_any->a5M,newExc->a5O,isSubtype_stop->a5Q,callType_codes->a5R
open PySem.Around renaming under->a2n,frames_deeper->a2C
open PySem.Builtin.Dict renaming showsAll->Yn,dictSlotArgs->YM,entriesForEmpty->a0A,updateFrom->a1i,samePairs->a1q,quietEq->a1D,noArgs->a1K,selfAndRest->a5E,readDirectly->a5F,pendingCount->a5G,mergeDict->a5H,merge->a5I,dictSlotNone->a5J
open PySem.Builtin.Dict_items renaming ownsTuple->Y4,ownedTupleIsFree->ZT,ownedTupleFields->ZU,pairFromOwner->Z1,newIterator->a4c,dictOf->a4d
open PySem.Builtin.Int renaming intBits->WQ,intTooBig->Zb
open PySem.Builtin.List renaming listExtendWith->YG,listTooLong->YS,listLengthHint->a0H,listSameRef->a0X,listItems->a1p,listUpdate->a5D
open PySem.Builtin.Range renaming rangeSize->W3,small->a5l
open PySem.Builtin.Str renaming occurrences->XH
open PySem.Builtin.Tuple renaming tupleHashOf->a5k
open PySem.Calls renaming callWith_builtin->YH,evalArgs_plain->a0o,Name_function_global->a1J,spliced_cons->a3g,spliced_nil->a3r
open PySem.Challenge renaming rw_creasecourt_k82_back_and_refused->V2,pw_creasecourt_k82_back_and_refused->Xa
open PySem.Code renaming isFrame->a2B,frames->a5j
open PySem.Data renaming fields->WK,dict->YL,cls->a1P,cell->a4b
open PySem.EntryCells renaming newEntry->a2h
open PySem.F renaming plainAttrs_dict->ZV,excBase_ValueError->a1v,slot_dict_items->a1L,slot_dict_clear->a1M,plainAttrs_list->a1N,sub_dict_dict->a2j,slot_dict_get->a2k,slot_dict_ne->a2p,slot_dict_eq->a2q
open PySem.Heap renaming get?_push_of_some->V8,lt_size->Wi,get?_push_size->Ws,get?_update_other->XR,get?_update_self->Yd,SameBut->Yg,get?_none_of_le->a0t,ExtBut->a1x,size_push->a4s
open PySem.Heap.DictOfH renaming new->a5C
open PySem.Heap.IsSliceOf renaming new->a1C
open PySem.Heap.SameBut renaming update->YN,refl->a5B
open PySem.IsRange renaming new->a4r
open PySem.NameKind renaming free->Ym,cell->YA
open PySem.Obj renaming data_mapFields->Zd,isFreed_of_fields->Zw,data_mapDictKeys->a0x,mapFields->a0J,mapSeq->a2d,isFreed_of_dict->a3o,cls_mapFields->a3V,mapDictKeys->a4o
open PySem.Obj.ExactDict renaming mapDictKeys->a5f
open PySem.Paired renaming length->a1O,snoc->a4C
open PySem.PassesOwn renaming never->a2U
open PySem.SeqAt renaming ne_of_list_tuple->X2,EqAt->a2Z
open PySem.SetTable.layClean renaming free->a0B
open PySem.Str renaming ofString->XS
open PySem.Value renaming type->Wc,ref->Wg,builtin->W0,none->Xg,bool->Xx,int->X3,str->a1a,float->a4S,bytes->a4T
open PySem.W renaming Frag->VU,behindTheImports->Wx,findIn->W5,keepIn->Xe,fnOf->Xm,boot_drawn->Xr,nsIn->XC,emptyDict->X1,kia_one->X4,methodCall_KW->X7,callWith_K->Yb,instObj->Yy,mg_of->YI,codeIn->Zc,plainGet->Zm,boot_heap->Zs,topFrame->Zz,specialIn->ZN,hasDictIn->ZO,cellsFrom_some->Z4,looks_findIn->a0e,lookIn->a0f,InstAt->a0g,plainGet_of->a0m,callWith_K0->a0n,excIn->a0p,plainOver->a0C,methodObj->a0D,isFn->a0E,kp_binds->a0Q,takerIn->a1d,makesIn->a1e,kitOne->a1t,piecesOf->a1F,segRun->a1V,boot_toks->a2b,peek->a2c,callWith_KW->a2x,codeRec_of->a2M,kitx_list->a2S,kitx_dict->a2T,handedIn->a3a,takesIn->a3l,findObj->a3m,OpenLaw->a3n,notCls->a3y,mroIn->a3S,WalkO->a3T,piece_app->a4X,kHook->a5P
open PySem.W.Looks renaming here->YV
open PySem.W.OpenLaw renaming row->Xb
open PySem.W.OpenRow renaming toRowW->a3I
open PySem.W.RowW renaming records->a4U
open PySem.W.WData renaming int->ZC,weightAll->ZG,layable->a1m,weight->a1u,layableAll->a5c
open PySem.W.WShape renaming has->a4R
open PySem.Walks renaming range->a4Q
open PySem.Within renaming cons->a5q
open Std.Legacy.Range renaming size->a4m,forIn_eq_forIn_range'->a4n
open Sum renaming inr->a1b,inl->a1c
open True renaming intro->YC
local macro_rules|`(tactic| omega) => `(tactic| lia)
set_option compiler.extract_closed false
set_option bootstrap.genMatcherCode false
set_option Elab.async false
set_option linter.all false
set_option maxRecDepth 100000
set_option linter.all false
namespace L2
open PySem PySem.Spec PyProof.Rows
noncomputable abbrev bS:=Sum Int Str
noncomputable def xD:bS->Value->Bool
 |.inl k,v=>Value.isInt k v|.inr x,v=>Value.isStrOf x v
noncomputable def BQ(w:WO):bS->Int
 |.inl k=>hashInt k|.inr x=>hashStr w x
theorem kF:∀{k:bS}{v:Value},xD k v=c7->(∃i t,k=a1c i/\v=X3 i t)\/(∃x t,k=a1b x/\v=a1a x t)
 |.inl i,v,h=>by obtain⟨t,e⟩:=Value.isInt_shape (k:=i) (v:=v) h;exact .inl ⟨i,t,rfl,e⟩
 |.inr x,v,h=>by obtain⟨t,e⟩:=Value.isStrOf_shape (x:=x) (v:=v) h;exact .inr ⟨x,t,rfl,e⟩
theorem HQ(a b:Int):decide ((a1c a:bS)=a1c b)=(a==b):=by
 by_cases e:a=b
 ·subst e;simp
 ·have h:¬ (a1c a:bS)=a1c b:=λq=>e (Sum.inl.inj q);rw[decide_eq_false h];exact(beq_eq_false_iff_ne.mpr e).symm
theorem HR(a b:Str):decide ((a1b a:bS)=a1b b)=decide (a=b):=by
 by_cases e:a=b
 ·subst e;simp
 ·have h:¬ (a1b a:bS)=a1b b:=λq=>e (Sum.inr.inj q);rw[decide_eq_false h,decide_eq_false e]
theorem HS(a:Int)(b:Str):decide ((a1c a:bS)=a1b b)=false:=decide_eq_false (λq=>nomatch q)
theorem HU(a:Str)(b:Int):decide ((a1b a:bS)=a1c b)=false:=decide_eq_false (λq=>nomatch q)
noncomputable def qT(prog:Wv)(w:WO):PySem.KeyKind prog w bS where
 is:=xD
 hash:=BQ w
 inj:=λv a b l d=>by
  rcases kF l with⟨i,t,rfl,rfl⟩|⟨x,t,rfl,rfl⟩
  ·rcases kF d with⟨j,u,rfl,e⟩|⟨y,u,rfl,e⟩
   ·injection e with e1 _;rw[e1]
   ·exact nomatch e
  ·rcases kF d with⟨j,u,rfl,e⟩|⟨y,u,rfl,e⟩
   ·exact nomatch e
   ·injection e with e1 _;rw[e1]
 byValue:=λk v h=>by rcases kF h with⟨i,t,rfl,rfl⟩|⟨x,t,rfl,rfl⟩<;>rfl
 pyHash:=λc h=>by
  rcases kF c with⟨i,t,rfl,rfl⟩|⟨x,t,rfl,rfl⟩
  ·exact wpAny_pyHash_int h
  ·exact wpAny_pyHash_str h
 eqBool:=λm c h=>by
  rcases kF m with⟨i,t,rfl,rfl⟩|⟨x,t,rfl,rfl⟩
  ·rcases kF c with⟨j,u,rfl,rfl⟩|⟨y,u,rfl,rfl⟩
   ·rw[HQ]at h;exact wpAny_eqBool_int h
   ·rw[HS]at h;exact SeqAt.EqAt.int_str i t y u _ _ _ _ h
  ·rcases kF c with⟨j,u,rfl,rfl⟩|⟨y,u,rfl,rfl⟩
   ·rw[HU]at h;exact SeqAt.EqAt.str_int x t j u _ _ _ _ h
   ·rw[HR]at h;exact wpAny_eqBool_str h
 «strs»:=λk x t v h=>by
  rcases kF h with⟨i,u,rfl,e⟩|⟨y,u,rfl,e⟩
  ·exact nomatch e
  ·injection e with e1 _;subst e1;cases v<;>rfl
end L2
namespace L2
open PySem PySem.Spec PyProof.Rows
inductive V where
 |non|bl (b:Bool)|int (i:Int)|str (x:Str)|byt (b:Array UInt8)|flt (b:UInt64)|ref (a:Addr)|ty (n:String)
 deriving DecidableEq
noncomputable def RelV:V->Value->Prop
 |.non,u=>u=Xg|.bl b,u=>u=Xx b|.int i,u=>∃t,u=X3 i t|.str x,u=>∃t,u=a1a x t|.byt b,u=>∃t,u=a4T b t|.flt b,u=>∃t,u=a4S b t|.ref a,u=>u=Wg a|.ty n,u=>u=Wc n
noncomputable abbrev Vals:List V->List Value->Prop:=a0w RelV
theorem Vals.length{xs:List V}{us:List Value}(r:Vals xs us):xs.length=us.length:=a1O r
theorem Vals.get:∀{xs:List V}{us:List Value}{i:Nat}{x:V},Vals xs us->xs[i]?=b4 x->∃u,us[i]?=b4 u/\RelV x u
 |_,_,_,_,.nil,e=>by simp at e
 |_,_,0,_,.cons r _,e=>by simp at e;subst e;exact⟨_,rfl,r⟩
 |_,_,i+1,x,.cons _ t,e=>by obtain⟨u,a,b⟩:=Vals.get (i:=i) (x:=x) t (by simpa using e);exact⟨u,by simpa using a,b⟩
theorem Vals.append:∀{xs a:List V}{us ws:List Value},Vals xs us->Vals a ws->Vals (xs++a) (us++ws)
 |_,_,_,_,.nil,s=>s|_,_,_,_,.cons r t,s=>.cons r (Vals.append t s)
theorem Vals.take:∀{xs:List V}{us:List Value}(n:Nat),Vals xs us->Vals (xs.take n) (us.take n)
 |_,_,0,_=>.nil|_,_,_+1,.nil=>.nil|_,_,n+1,.cons r t=>.cons r (Vals.take n t)
theorem Vals.drop:∀{xs:List V}{us:List Value}(n:Nat),Vals xs us->Vals (xs.drop n) (us.drop n)
 |_,_,0,r=>r|_,_,_+1,.nil=>.nil|_,_,n+1,.cons _ t=>Vals.drop n t
noncomputable def RelO:Option V->Option Value->Prop
 |some v,b4 u=>RelV v u|none,c4=>True|_,_=>False
noncomputable def KV{a:Type}:List (a×V)->List (a×Value)->Prop:=a0w λ(p:a×V)(q:a×Value)=>p.1=q.1/\RelV p.2 q.2
noncomputable def kV:bS->V
 |.inl i=>.int i|.inr x=>.str x
inductive HO where
 |lst (xs:List V)
 |tup (xs:List V)
 |dK (kvs:List (bS×V))|dT (kvs:List (List bS×V))
 |set (S:Int->Bool)(n:Nat)
 |ins (C dx:Addr)(fs:List (Str×V))
 |own (x:Addr)
 |xd (fs:List (Str×V))
 |met (f x:Addr)
 |rng (lo hi:Int)
 |frz (o:Obj)(u:HO)
 |tbl (ps:Array Value)
 |ext (φ:Xo->Prop)
noncomputable abbrev Hp:=Addr->Option HO
noncomputable def upd(H:Hp)(a:Addr)(o:HO):Hp:=λb=>if b=a then b4 o else H b
theorem dG{H:Hp}{a:Addr}{o:HO}:upd H a o a=b4 o:=by unfold upd;rw[if_pos rfl]
theorem bG{H:Hp}{a b:Addr}{o:HO}(h:b≠a):upd H a o b=H b:=by unfold upd;rw[if_neg h]
theorem iE{H:Hp}{a b:Addr}{o:HO}(h:H a=b4 o)(h':H b=c4):a≠b:=by intro e;subst e;rw[h]at h';cases h'
section
variable(P:Wv)(w:WO)
noncomputable def TupN(h:Xo)(a:Addr)(xs:Array Value):Prop:=∃o,h.get? a=b4 o/\o.cls=.type "tuple"/\∃n,o.data=.seq xs n/\o.dict=c4
theorem TupN.tup{h:Xo}{a:Addr}{xs:Array Value}(x:TupN h a xs):IsTup h a xs:=let⟨o,e,c,n,d,_⟩:=x;⟨o,e,c,n,d⟩
noncomputable def ObjOk(H:Hp)(h:Xo)(a:Addr):HO->Prop
 |.lst b=>b.length<=Wb/\∃(its:List Value)(n:Nat),Vals b its/\h.get? a=b4 {cls:=.type "list",data:=.seq its.toArray n}|.tup b=>b.length<=Wb/\∃its:List Value,Vals b its/\TupN h a its.toArray|.dK kvs=>kvs.length<=Wb/\(a==Xs)=c6/\∃j,KV kvs j/\h.DictOf (qT P w) a j|.dT kvs=>kvs.length<=Wb/\(a==Xs)=c6/\∃b:List (List bS×Addr×Value),
   a0w (λ(p:List bS×V)(q:List bS×Addr×Value)=>p.1=q.1/\H q.2.1=b4 (.tup (p.1.map kV))/\RelV p.2 q.2.2) kvs b /\
   ∃o d k,h.get? a=b4 o/\o.ExactDict/\o.data=.dict d k/\d.toList=b.map (entryOfKey (Yz (qT P w)))/\(b.map (·.1)).Nodup
 |.set S n=>h.SetOf (YO P w) a S n|.ins C dx fs=>H dx=b4 (.own a)/\fs.length<=1000/\dx≠a/\h.get? a=b4 (Yy C dx) /\
   ∃c,h.Ns1 dx c/\(∀f,RelO (fs.lookup f) (c f))/\a2o c (fs.map (·.1))
 |.own _=>∃o,h.get? a=b4 o|.xd fs=>∃c,h.Ns1 a c/\∀f,RelO (fs.lookup f) (c f)|.rng lo hi=>∃t u v,h.get? a=b4 {cls:=.type "range",data:=.fields #[.int lo t,.int hi u,.int 1 v]}|.frz o u=>h.get? a=b4 o/\ObjOk H h a u|.tbl ps=>h.get? a=b4 {cls:=.none,data:=.fields ps}|.met f x=>h.get? a=b4 (a0D (.ref f) (.ref x))|.ext φ=>φ h/\(∃o,h.get? a=b4 o)/\∀e i:Xo,φ e->(∀o,e.get? a=b4 o->i.get? a=b4 o)->φ i
noncomputable def HOk(H:Hp)(h:Xo):Prop:=∀a o,H a=b4 o->ObjOk P w H h a o
end
section
variable{P:Wv}{w:WO}{H H':Hp}{h h':Xo}{a:Addr}{o:HO}
theorem ObjOk.lt(x:ObjOk P w H h a o):a<h.objs.size:=by
 cases o with
 |lst c=>obtain⟨_,_,_,_,e⟩:=x;exact Wi e|tup c=>obtain⟨_,_,_,p⟩:=x;exact p.tup.lt|dK b=>obtain⟨_,_,_,_,o,_,_,e,_⟩:=x;exact Wi e|dT b=>obtain⟨_,_,_,_,o,_,_,e,_⟩:=x;exact Wi e|set S n=>obtain⟨o,_,_,_,e,_⟩:=x;exact Wi e|ins C d fs=>obtain⟨_,_,_,e,_⟩:=x;exact Wi e|own y=>obtain⟨_,e⟩:=x;exact Wi e|xd fs=>obtain⟨_,⟨_,_,_,e,_⟩,_⟩:=x;exact Wi e|rng j i=>obtain⟨_,_,_,e⟩:=x;exact Wi e|frz k u=>obtain⟨e,_⟩:=x;exact Wi e|tbl l=>exact Wi (show h.get? a=b4 _ from x)|met f y=>exact Wi (show h.get? a=b4 _ from x)|ext m=>obtain⟨_,⟨_,e⟩,_⟩:=x;exact Wi e
theorem a0w.mapP{e i:Type}{F G:e->i->Prop}:∀{c:List e}{d:List i},a0w F c d->(∀a b,F a b->G a b)->a0w G c d
 |_,_,.nil,_=>.nil|_,_,.cons r t,f=>.cons (f _ _ r) (a0w.mapP t f)
theorem ObjOk.stay(x:ObjOk P w H h a o)(k:∀b u,(b=a\/H b=b4 (.own a))->h.get? b=b4 u->h'.get? b=b4 u)
  (J:∀b,H b=b4 (.own a)->H' b=b4 (.own a))(K:∀b s,H b=b4 (.tup s)->H' b=b4 (.tup s)):ObjOk P w H' h' a o:=by
 induction o with
 |lst s=>obtain⟨z,m,n,r,e⟩:=x;exact⟨z,m,n,r,k _ _ (.inl rfl) e⟩|tup s=>obtain⟨z,m,r,i,e,c⟩:=x;exact⟨z,m,r,i,k _ _ (.inl rfl) e,c⟩|dK A=>obtain⟨z,y,M,r,i,l,j,e,c⟩:=x;exact⟨z,y,M,r,i,l,j,k _ _ (.inl rfl) e,c⟩|dT A=>obtain⟨z,y,s,r,i,l,j,e,c⟩:=x;exact⟨z,y,s,a0w.mapP r λp q z=>⟨z.1,K _ _ z.2.1,z.2.2⟩,i,l,j,k _ _ (.inl rfl) e,c⟩|set S n=>obtain⟨i,l,j,t,e,c⟩:=x;exact⟨i,l,j,t,k _ _ (.inl rfl) e,c⟩|ins C N fs=>obtain⟨d,z,ne,e,B,⟨E,l,j,I,c⟩,r⟩:=x;exact⟨J _ d,z,ne,k _ _ (.inl rfl) e,B,⟨E,l,j,k _ _ (.inr d) I,c⟩,r⟩|own y=>obtain⟨i,e⟩:=x;exact⟨i,k _ _ (.inl rfl) e⟩|xd fs=>obtain⟨B,⟨E,l,j,e,c⟩,r⟩:=x;exact⟨B,⟨E,l,j,k _ _ (.inl rfl) e,c⟩,r⟩|rng Q O=>obtain⟨t,u,v,e⟩:=x;exact⟨t,u,v,k _ _ (.inl rfl) e⟩|frz i u L=>obtain⟨e,q⟩:=x;exact⟨k _ _ (.inl rfl) e,L q⟩|tbl G=>have e:h.get? a=b4 {cls:=.none,data:=.fields G}:=x;show h'.get? a=b4 {cls:=.none,data:=.fields G};exact k a _ (.inl rfl) e|met f y=>have e:h.get? a=b4 (a0D (.ref f) (.ref y)):=x;show h'.get? a=b4 (a0D (.ref f) (.ref y));exact k a _ (.inl rfl) e|ext R=>obtain⟨p,⟨o,e⟩,st⟩:=x;exact⟨st _ _ p λo q=>k _ _ (.inl rfl) q,⟨o,k _ _ (.inl rfl) e⟩,st⟩
theorem HOk.lt(x:HOk P w H h)(e:H a=b4 o):a<h.objs.size:=(x a o e).lt
theorem HOk.fresh(x:HOk P w H h)(e:h.objs.size<=a):H a=none:=by
 cases q:H a with
 |none=>rfl|some u=>exact absurd (Wy (x.lt q) e) (Y7 _)
theorem HOk.kept(x:HOk P w H h)(k:∀b u,h.get? b=b4 u->h'.get? b=b4 u):HOk P w H h':=λa o e=>(x a o e).stay (λb u _ q=>k b u q) (λ_ q=>q) λ_ _ q=>q
theorem HOk.laid(x:HOk P w H h)(k:∀b u,h.get? b=b4 u->h'.get? b=b4 u)(j:h.objs.size<=a)(new:ObjOk P w (upd H a o) h' a o):HOk P w (upd H a o) h':=λb u e=>by
 have i:=x.fresh j;by_cases d:b=a
 ·subst d;rw[dG]at e;cases e;exact new
 ·rw[bG d]at e;exact(x b u e).stay (λc v _ q=>k c v q) (λc q=>by rw[bG (iE q i)];exact q) λc l q=>by rw[bG (iE q i)];exact q
end
noncomputable def Rd(H:Hp)(a:Addr)(u:HO):Prop:=H a=b4 u\/∃o,H a=b4 (.frz o u)
theorem Rd.of{H:Hp}{a:Addr}{u:HO}(h:H a=b4 u):Rd H a u:=.inl h
theorem Rd.ok{P:Wv}{w:WO}{H:Hp}{h:Xo}{a:Addr}{u:HO}(r:Rd H a u)(x:HOk P w H h):ObjOk P w H h a u:=by
 rcases r with r|⟨o,r⟩
 ·exact x a u r
 ·obtain⟨_,q⟩:=x a _ r;exact q
noncomputable def qU:Option HO->Prop
 |some (.lst _)=>True|some (.dK _)=>True|some (.dT _)=>True|some (.set _ _)=>True|some (.ins _ _ _)=>True|some (.ext _)=>True|_=>False
section
variable{P:Wv}{w:WO}{H:Hp}{h h':Xo}{x e:Addr}{o':HO}
theorem HOk.write(ok:HOk P w H h)(l:qU (H x))(o:e=x\/H e=b4 (.own x))(k:∀b u,b≠e->h.get? b=b4 u->h'.get? b=b4 u)(n:∃u,h'.get? e=b4 u)
  (new:ObjOk P w (upd H x o') h' x o'):HOk P w (upd H x o') h':=λb u q=>by
 have d:∀c y,H c=b4 (.own y)->c≠x:=λc y r z=>by subst z;rw[r]at l;exact l
 have i:∀c m,H c=b4 (.tup m)->c≠x:=λc m r z=>by subst z;rw[r]at l;exact l
 by_cases j:b=x
 ·subst j;rw[dG]at q;cases q;exact new
 ·rw[bG j]at q;by_cases a:b=e
  ·have p:H b=b4 (.own x):=by
    rcases o with z|z
    ·exact absurd (a.trans z) j
    ·rw[a];exact z
   rw[q]at p;cases p;obtain⟨v,s⟩:=n;exact⟨v,by rw[a];exact s⟩
  ·refine(ok b u q).stay (λc v hc r=>k c v ?_ r) (λc r=>by rw[bG (d c b r)];exact r) λc m r=>by rw[bG (i c m r)];exact r
   rcases hc with rfl|hc
   ·exact a
   ·rintro rfl;rcases o with z|z
    ·exact d c b hc z
    ·rw[hc]at z;cases z;exact j rfl
end
structure Un(fs ex:List Addr)(H H':Hp)(h h':Xo):Prop where
 keep:∀b o,h.get? b=b4 o->H b=c4->b∉fs->b∉ex->h'.get? b=b4 o
 slot:∀b o,h.get? b=b4 o->H b=c4->b∈fs->b∉ex->∃sl,h'.get? b=b4 {o with slots:=sl}
 free:∀b o,h.get? b=b4 o->H b=c4->b∉ex->H' b=c4
 there:∀b o,h.get? b=b4 o->b∉ex->∃o',h'.get? b=b4 o'
 tups:∀b xs,H b=b4 (.tup xs)->H' b=b4 (.tup xs)
 frzs:∀b o u,H b=b4 (.frz o u)->H' b=b4 (.frz o u)
 tbls:∀b ps,H b=b4 (.tbl ps)->∃more,H' b=b4 (.tbl (ps++more))
section
variable{fs fs' ex ex':List Addr}{H H1 H2:Hp}{h h1 h2 h':Xo}{a x e:Addr}{o:HO}
theorem Un.any(u:Un fs ex H H1 h h1){b:Addr}{ob:Obj}(q:h.get? b=b4 ob)(n:H b=c4)(d:b∉ex):∃i,h1.get? b=b4 {ob with slots:=i}:=by
 by_cases c:b∈fs
 ·exact u.slot b ob q n c d
 ·exact⟨ob.slots,u.keep b ob q n c d⟩
theorem Un.trans(a:Un fs ex H H1 h h1)(b:Un fs ex H1 H2 h1 h2):Un fs ex H H2 h h2 where
 keep:=λc i q n hc d=>b.keep c i (a.keep c i q n hc d) (a.free c i q n d) hc d
 slot:=λc i q n hc d=>by obtain⟨v,j⟩:=a.slot c i q n hc d;obtain⟨p,l⟩:=b.slot c _ j (a.free c i q n d) hc d;exact⟨p,l⟩
 free:=λc i q n d=>by obtain⟨m,j⟩:=a.there c i q d;exact b.free c m j (a.free c i q n d) d
 there:=λc i q d=>by obtain⟨m,j⟩:=a.there c i q d;exact b.there c m j d
 tups:=λc k q=>b.tups c k (a.tups c k q);frzs:=λc i k q=>b.frzs c i k (a.frzs c i k q);tbls:=λc u q=>by obtain⟨r,j⟩:=a.tbls c u q;obtain⟨s,l⟩:=b.tbls c _ j;exact⟨r++s,by rw[l,a3i]⟩
theorem Un.kept(k:∀b u,h.get? b=b4 u->h'.get? b=b4 u):Un fs ex H H h h':=
 ⟨λb c q _ _ _=>k b c q,λb c q _ _ _=>⟨c.slots,k b c q⟩,λ_ _ _ n _=>n,λb c q _=>⟨c,k b c q⟩,λ_ _ q=>q,λ_ _ _ q=>q,λ_ d q=>⟨#[],by rw[q];simp⟩⟩
theorem Un.refl:Un fs ex H H h h:=Un.kept λ_ _ q=>q
theorem Un.laid(k:∀b u,h.get? b=b4 u->h'.get? b=b4 u)(d:h.objs.size<=a)(c:H a=c4):Un fs ex H (upd H a o) h h' where
 keep:=λb u q _ _ _=>k b u q
 slot:=λb u q _ _ _=>⟨u.slots,k b u q⟩
 free:=λb u q n _=>by rw[bG (WB (Wy (Wi q) d))];exact n
 there:=λb u q _=>⟨u,k b u q⟩
 tups:=λb i q=>by rw[bG (iE q c)];exact q
 frzs:=λb u i q=>by rw[bG (iE q c)];exact q
 tbls:=λb j q=>⟨#[],by rw[bG (iE q c),q];simp⟩
theorem Un.write(d:qU (H x))(p:e=x\/H e=b4 (.own x))(k:∀b u,b≠e->h.get? b=b4 u->h'.get? b=b4 u)(i:∃u,h'.get? e=b4 u):Un fs ex H (upd H x o) h h':=by
 have m:∀b,H b=c4->b≠x:=λb n z=>by subst z;rw[n]at d;exact d
 have l:∀b,H b=c4->b≠e:=λb n z=>by
  subst z;rcases p with r|r
  ·exact m b n r
  ·rw[n]at r;cases r
 have j:∀b u,H b=b4 u->¬ qU (b4 u)->b≠x:=λb u q s z=>by subst z;rw[q]at d;exact s d
 refine⟨λb u q n _ _=>k b u (l b n) q,λb u q n _ _=>⟨u.slots,k b u (l b n) q⟩,λb u q n _=>by rw[bG (m b n)];exact n,λb u q _=>?_,
  λb v q=>by rw[bG (j b _ q λz=>z)];exact q,λb u v q=>by rw[bG (j b _ q λz=>z)];exact q,λb w q=>⟨#[],by rw[bG (j b _ q λz=>z),q];simp⟩⟩
 by_cases c:b=e
 ·subst c;exact i
 ·exact⟨u,k b u c q⟩
theorem Un.mono(u:Un fs ex H H1 h h1)(k:∀b∈fs,b∈fs')(i:∀b∈ex,b∈ex'):Un fs' ex' H H1 h h1:=
 ⟨λb d q n j c=>u.keep b d q n (λz=>j (k b z)) λz=>c (i b z),λ_ _ q n _ c=>u.any q n λz=>c (i _ z),λb d q n c=>u.free b d q n λz=>c (i b z),λb d q c=>u.there b d q λz=>c (i b z),u.tups,u.frzs,u.tbls⟩
end
noncomputable def tW(h:Xo)(H:Hp):List Addr:=(Xh h.objs.size).filter λa=>(H a).isSome
noncomputable def kG(h:Xo)(H:Hp):Xo:=PySem.W.hideAll h (tW h H)
theorem HV(h:Xo)(H:Hp):(kG h H).objs.size=h.objs.size:=PySem.W.hideAll_size _ _
theorem HW{h:Xo}{H:Hp}{b:Addr}{o:Obj}(e:h.get? b=b4 o)(n:H b=c4):(kG h H).get? b=b4 o:=
 PySem.W.hideAll_get _ e λa=>by have q:(H b).isSome=true:=(Xy.mp a).2;rw[n]at q;simp at q
theorem HX{h:Xo}{H:Hp}{b:Addr}{o:Obj}(e:(kG h H).get? b=b4 o):h.get? b=b4 o/\H b=none:=by
 have a:h.get? b=b4 o:=PySem.W.of_hideAll (tW h H) e;refine⟨a,?_⟩;cases q:H b with
 |none=>rfl|some x=>have c:b∈tW h H:=Xy.mpr ⟨ZP.mpr (Wi a),by simp[q]⟩;have z:(kG h H).get? b=none:=PySem.W.hideAll_none (tW h H) c;rw[z]at e;cases e
noncomputable def HY(g h:Xo)(L:Addr):List (Addr×Obj):=(Xh h.objs.size).filterMap λa=>if a=L\/(g.get? a).isSome=c7 then c4 else(h.get? a).map λo=>(a,o)
noncomputable def bT(g h:Xo)(L d:Addr):List (Addr×Obj):=(HY g h L).filter λp=>decide (p.1≠d)
end L2
namespace L2
open PySem PySem.Spec PyProof.Rows
structure Mod(K:VU)(mg:Str->Option Value)(base:Xo):Prop where
 kin:K.In base
 glob:base.Ns WZ mg
 blt:∃mb,base.Ns a4A mb/\∀x:Str,x ≠ "__name__"->mb x=XW x
 nolimit:base.NoLimit
structure Cx where
 prog:Wv
 w:WO
 K:VU
 mg:Str->Option Value
 base:Xo
 A:WJ
 N:List Str
 s₀:V1
 H₀:Hp
 env:ZS
 outer:List ZS
 stack:List ZS
 ex:List Addr
 fn:Str->Bool
 calm:Bool
 pn:List (Addr×Obj)
 xe:Value->V1->Prop
noncomputable def dS(l:List ZS):List Addr:=l.filterMap (·.frame)
noncomputable abbrev Cx.fs(X:Cx):List Addr:=dS X.outer
noncomputable def oG(sc:Yl)(x:Str):Prop:=sc.names.lookup x=b4 .local\/sc.names.lookup x=b4 .cell\/sc.names.lookup x=b4 .free
noncomputable def Loc(sc:Yl)(x:Str):Prop:=sc.names.lookup x=b4 .local\/sc.names.lookup x=b4 .cell
noncomputable def HZ(env:ZS)(h:Xo)(m:Str->Option Value)(x:Str)(u:Value):Prop:=
 (env.kindOf x=b4 .local/\m x=b4 u)\/((env.kindOf x=b4 .cell\/env.kindOf x=b4 .free)/\∃c,env.cells.lookup x=b4 c/\h.IsCell c (b4 u))
structure Cx.Ok(X:Cx):Prop where
 mod:Mod X.K X.mg X.base
 kind:X.env.scope.kind=.function
 glob:X.env.globals=WZ
 blt:X.env.builtins=a4A
 above:X.s₀.heap.objs.size<=X.env.locals
 inj:∀x y c,X.env.cells.lookup x=b4 c->X.env.cells.lookup y=b4 c->x=y
 has:∀x,(X.env.kindOf x=b4 .cell\/X.env.kindOf x=b4 .free)->∃c,X.env.cells.lookup x=b4 c
 cab:∀x c,X.fn x=c7->X.env.cells.lookup x=b4 c->X.s₀.heap.objs.size<=c
 hd:X.calm=c7->X.A.handled=c4
 frames:X.A.frames=b4 X.stack
 stk:X.stack=X.outer\/(X.stack=X.env::X.outer/\X.env.frame=b4 X.env.locals)
 exf:∀b∈X.ex,b≠X.env.locals/\∀x c,X.env.cells.lookup x=b4 c->c≠b
 bs:∀b o,X.base.get? b=b4 o->X.s₀.heap.get? b=b4 o/\X.H₀ b=c4
 bsz:X.base.objs.size<=X.s₀.heap.objs.size
 noex:∀b o,X.base.get? b=b4 o->b∉X.ex
 exfs:∀b∈X.ex,b∉X.fs
 funs:X.s₀.heap.FunFrames X.base X.outer
 frf:∀b∈X.fs,X.H₀ b=c4
structure Inv(X:Cx)(a5T:List (Addr×Obj))(σ:List (Option V))(H:Hp)(s:V1):Prop where
 ok:X.Ok
 os:s.os=X.s₀.os
 bare:a0d s.gens
 base:Un X.fs X.ex X.H₀ H X.s₀.heap s.heap
 loc:∃m,s.heap.Ns X.env.locals m/\∀(i:Nat)(x:Str)(v:V),X.N[i]?=b4 x->σ[i]?=b4 (b4 v)->oG X.env.scope x->∃u,RelV v u/\HZ X.env s.heap m x u
 cell:∀x c,X.env.cells.lookup x=b4 c->∃v,s.heap.IsCell c v
 free:H X.env.locals=c4
 freeC:∀x c,X.env.cells.lookup x=b4 c->H c=c4
 pin:∀p∈X.pn++a5T,s.heap.get? p.1=b4 p.2/\H p.1=c4/\p.1≠X.env.locals/\p.1∉X.fs/\∀v,p.2.data≠.cell v
 hok:HOk X.prog X.w H s.heap
 len:σ.length=X.N.length
section
variable{X:Cx}{a5T:List (Addr×Obj)}{σ:List (Option V)}{H H':Hp}{s:V1}{h':Xo}
theorem Cx.Ok.nofr(ok:X.Ok){b:Addr}{o:Obj}(e:X.base.get? b=b4 o):b∉X.fs:=λa=>by have:=(ok.funs.mem a).1;rw[e]at this;cases this
theorem Inv.bs(I:Inv X a5T σ H s):∀b o,X.base.get? b=b4 o->s.heap.get? b=b4 o/\H b=none:=λb o e=>⟨I.base.keep b o (I.ok.bs b o e).1 (I.ok.bs b o e).2 (I.ok.nofr e) (I.ok.noex b o e),I.base.free b o (I.ok.bs b o e).1 (I.ok.bs b o e).2 (I.ok.noex b o e)⟩
theorem Inv.bk(I:Inv X a5T σ H s):∀b o,X.base.get? b=b4 o->s.heap.get? b=b4 o:=λb o e=>(I.bs b o e).1
theorem Inv.mod(I:Inv X a5T σ H s):Mod X.K X.mg X.base:=I.ok.mod
theorem Inv.kIn(I:Inv X a5T σ H s):X.K.In s.heap:=I.ok.mod.kin.keeps I.bk
theorem Inv.lt(I:Inv X a5T σ H s):X.env.locals<s.heap.objs.size:=let⟨_,a,_⟩:=I.loc;a.lt
theorem Inv.sz(I:Inv X a5T σ H s):X.s₀.heap.objs.size<=s.heap.objs.size:=Xk I.ok.above (a1g I.lt)
theorem Inv.nofs(I:Inv X a5T σ H s){a:Addr}(h:s.heap.objs.size<=a):a∉X.fs:=λb=>by obtain⟨_,o,c,_⟩:=I.ok.funs.mem b;exact absurd (Wy (Wi c) (Xk I.sz h)) (Y7 _)
theorem Inv.cne(I:Inv X a5T σ H s):∀x c,X.env.cells.lookup x=b4 c->c≠X.env.locals:=λx c e z=>by obtain⟨v,o,d,hd⟩:=I.cell x c e;obtain⟨m,⟨j,i,h,b,a,_⟩,_⟩:=I.loc;rw[z,b]at d;cases d;rw[a]at hd;cases hd
theorem Inv.funs(I:Inv X a5T σ H s):s.heap.FunFrames X.base X.outer:=by
 have all:∀(l:List ZS),(∀b∈dS l,b∈X.fs)->X.s₀.heap.FunFrames X.base l->s.heap.FunFrames X.base l:=by
  intro l;induction l with
  |nil=>intro _ _;trivial|cons i r q=>intro h k;obtain⟨j,⟨L,o,d,m,n,hd⟩,p⟩:=k;have a:L∈X.fs:=h L (by unfold dS;rw[X6,d];exact WU);obtain⟨u,e⟩:=I.base.slot L o n (I.ok.frf L a) a λz=>I.ok.exfs L z a;exact⟨j,⟨L,_,d,m,e,hd⟩,q (λb c=>h b (by unfold dS;rw[X6,d];exact Wq _ c)) p⟩
 exact all X.outer (λ_ c=>c) I.ok.funs
theorem Inv.stack(I:Inv X a5T σ H s):s.heap.FunFrames X.base X.stack:=by
 rcases I.ok.stk with e|⟨e,a⟩
 ·rw[e];exact I.funs
 ·rw[e];obtain⟨m,b,_⟩:=I.loc;refine .cons (by rw[I.ok.kind];decide) a b ?_ I.funs;exact a0t (Xk I.ok.bsz I.ok.above)
theorem Inv.stkSub(I:Inv X a5T σ H s):∀b∈dS X.stack,b∈X.env.locals::X.fs:=λb a=>by
 rcases I.ok.stk with e|⟨e,c⟩
 ·rw[e]at a;exact Wq _ a
 ·rw[e]at a;unfold dS at a;rw[X6,c]at a;exact a
theorem Inv.stkFree(I:Inv X a5T σ H s):∀b∈dS X.stack,H b=none:=λb a=>by
 rcases Wr.mp (I.stkSub b a)with e|a
 ·rw[e];exact I.free
 ·obtain⟨_,o,c,_⟩:=I.ok.funs.mem a;exact I.base.free b o c (I.ok.frf b a) λz=>I.ok.exfs b z a
theorem Inv.step{g':Array a4l}{t':Nat}{d':Drawn}{ch:List Addr}(I:Inv X a5T σ H s)
  (j:∀b∈ch,(b∈X.ex\/X.s₀.heap.objs.size<=b)/\b≠X.env.locals/\(∀x c,X.env.cells.lookup x=b4 c->c≠b)/\∀p∈X.pn++a5T,p.1≠b)
  (keep:∀b o,b≠X.env.locals->b∉X.fs->b∉ch->s.heap.get? b=b4 o->H b=c4->h'.get? b=b4 o)
  (B:∀b o,b≠X.env.locals->b∈X.fs->b∉ch->s.heap.get? b=b4 o->H b=c4->∃U,h'.get? b=b4 {o with slots:=U})(free:∀b o,b∉ch->s.heap.get? b=b4 o->H b=c4->H' b=c4)
  (J:∀b o,b∉ch->s.heap.get? b=b4 o->∃O,h'.get? b=b4 O)
  (R:∀b E,H b=b4 (.tup E)->H' b=b4 (.tup E))(M:∀b o u,H b=b4 (.frz o u)->H' b=b4 (.frz o u))(Q:∀b T,H b=b4 (.tbl T)->∃more,H' b=b4 (.tbl (T++more)))
  (ns:∀m,s.heap.Ns X.env.locals m->h'.Ns X.env.locals m)(hok:HOk X.prog X.w H' h')(hg:a0d g') :
  Inv X a5T σ H' {s with heap:=h',gens:=g',drawn:=d',toks:=t'}:=by
 have N:∀b o,X.s₀.heap.get? b=b4 o->b≠X.env.locals:=λb o e=>WB (Wy (Wi e) I.ok.above);have A:∀b o,X.s₀.heap.get? b=b4 o->b∉X.ex->b∉ch:=λb o e a G=>by
  rcases(j b G).1 with z|z
  ·exact a z
  ·exact absurd (Wy (Wi e) z) (Y7 _)
 have h:∀x c,X.env.cells.lookup x=b4 c->∀v,s.heap.IsCell c v->h'.IsCell c v:=λx c e v ⟨o,K,hd⟩=>by
  have w:c∉ch:=λz=>(j c z).2.2.1 x c e rfl;by_cases hc:c∈X.fs
  ·obtain⟨U,q⟩:=B c o (I.cne x c e) hc w K (I.freeC x c e);exact⟨_,q,hd⟩
  ·exact⟨o,keep c o (I.cne x c e) hc w K (I.freeC x c e),hd⟩
 refine⟨I.ok,I.os,hg,⟨λb o e n G a=>?_,λb o e n G a=>?_,λb o e n a=>?_,λb o e a=>?_,λb E e=>R b E (I.base.tups b E e),λb o E e=>M b o E (I.base.frzs b o E e),λb T e=>?_⟩,?_,λx c e=>?_,?_,λx c e=>?_,λp Z=>?_,hok,I.len⟩
 ·exact keep b o (N b o e) G (A b o e a) (I.base.keep b o e n G a) (I.base.free b o e n a)
 ·obtain⟨U,y⟩:=I.base.slot b o e n G a;obtain⟨Y,L⟩:=B b _ (N b o e) G (A b o e a) y (I.base.free b o e n a);exact⟨Y,L⟩
 ·obtain⟨O,y⟩:=I.base.there b o e a;exact free b O (A b o e a) y (I.base.free b o e n a)
 ·obtain⟨O,y⟩:=I.base.there b o e a;exact J b O (A b o e a) y
 ·obtain⟨m1,y⟩:=I.base.tbls b T e;obtain⟨m2,L⟩:=Q b _ y;exact⟨m1++m2,by rw[L,a3i]⟩
 ·obtain⟨m,hn,hl⟩:=I.loc;refine⟨m,ns m hn,λi x v y L e3=>?_⟩;obtain⟨u,r,l⟩:=hl i x v y L e3;refine⟨u,r,?_⟩;rcases l with l|⟨k,c,e,z⟩
  ·exact .inl l
  ·exact .inr ⟨k,c,e,h x c e _ z⟩
 ·obtain⟨v,z⟩:=I.cell x c e;exact⟨v,h x c e v z⟩
 ·obtain⟨m,⟨o,_,_,K,_⟩,_⟩:=I.loc;exact free _ o (λz=>(j _ z).2.1 rfl) K I.free
 ·obtain⟨v,o,K,hd⟩:=I.cell x c e;exact free c o (λz=>(j c z).2.2.1 x c e rfl) K (I.freeC x c e)
 ·obtain⟨e,n,ne,nf,d⟩:=I.pin p Z;have w:p.1∉ch:=λz=>(j p.1 z).2.2.2 p Z rfl;exact⟨keep p.1 p.2 ne nf w e n,free p.1 p.2 w e n,ne,nf,d⟩
theorem Inv.un{t':Nat}(I:Inv X a5T σ H s)(u:Un X.fs [] H H' s.heap h')(hok:HOk X.prog X.w H' h'):Inv X a5T σ H' {s with heap:=h',toks:=t'}:=by
 obtain⟨m,⟨o,q,p,i,r⟩,_⟩:=id I.loc;obtain⟨x,j⟩:=u.any i I.free (by simp);exact I.step (g':=s.gens) (d':=s.drawn) (ch:=[]) (λ_ z=>nomatch z) (λb o _ h _ e n=>u.keep b o e n h (by simp)) (λb o _ h _ e n=>u.slot b o e n h (by simp)) (λb o _ e n=>u.free b o e n (by simp)) (λb o _ e=>u.there b o e (by simp)) u.tups u.frzs u.tbls (λv k=>by
  obtain⟨w,d,c,a,l⟩:=k;rw[i]at a;cases a;exact⟨_,d,c,j,l⟩) hok I.bare
theorem Inv.call{g':Array a4l}{t':Nat}{d':Drawn}{ch:List Addr}(I:Inv X a5T σ H s)(u:Un (dS X.stack) ch H H' s.heap h')(hok:HOk X.prog X.w H' h')(q:a0d g')
  (a:∀b∈ch,(b∈X.ex\/X.s₀.heap.objs.size<=b)/\b≠X.env.locals/\(∀x c,X.env.cells.lookup x=b4 c->c≠b)/\∀p∈X.pn++a5T,p.1≠b) :
  Inv X a5T σ H' {s with heap:=h',gens:=g',drawn:=d',toks:=t'}:=by
 obtain⟨m,⟨o,A,y,k,r⟩,_⟩:=id I.loc;obtain⟨G,j⟩:=u.any k I.free λz=>(a _ z).2.1 rfl;exact I.step (ch:=ch) a (λb o j l hc e n=>u.keep b o e n (λz=>(Wr.mp (I.stkSub b z)).elim j l) hc) (λb o _ _ hc e n=>u.any e n hc) (λb o hc e n=>u.free b o e n hc) (λb o hc e=>u.there b o e hc) u.tups u.frzs u.tbls (λB v=>by
  obtain⟨E,i,h,d,w⟩:=v;rw[k]at d;cases d;exact⟨_,i,h,j,w⟩) hok q
theorem Inv.turned{t':Nat}{a:Addr}(I:Inv X a5T σ H s)(k:∀b o,b≠a->s.heap.get? b=b4 o->h'.get? b=b4 o)(E:H a=c4)(h:a≠X.env.locals)
  (l:a∈X.ex\/X.s₀.heap.objs.size<=a)(w:∀x c,X.env.cells.lookup x=b4 c->c≠a)(y:∀p∈X.pn++a5T,p.1≠a):Inv X a5T σ H {s with heap:=h',toks:=t'}:=by
 have d:∀b u,H b=b4 u->b≠a:=λb u e z=>by rw[z,E]at e;cases e
 refine I.step (g':=s.gens) (d':=s.drawn) (ch:=[a]) (λb A=>?_) (λb o _ _ hc e _=>k b o (λz=>hc (by simp[z])) e) (λb o _ _ hc e _=>⟨o.slots,k b o (λz=>hc (by simp[z])) e⟩) (λ_ _ _ _ n=>n)
  (λb o hc e=>⟨o,k b o (λz=>hc (by simp[z])) e⟩) (λ_ _ e=>e) (λ_ _ _ e=>e) (λb J e=>⟨#[],by rw[e];simp⟩) (λm B=>?_) (λb u e=>?_) I.bare
 ·have e:b=a:=by simpa using A
  subst e;exact⟨l,h,w,y⟩
 ·obtain⟨o,j,i,G,r⟩:=B;exact⟨o,j,i,k _ o (WL h) G,r⟩
 ·refine(I.hok b u e).stay (λc v hc q=>k c v ?_ q) (λ_ q=>q) λ_ _ q=>q;rcases hc with z|z
  ·rw[z];exact d b u e
  ·exact d c _ z
theorem Inv.tok(I:Inv X a5T σ H s)(t:Nat):Inv X a5T σ H {s with toks:=t}:=I.un (h':=s.heap) (t':=t) Un.refl I.hok
theorem Inv.kept{t':Nat}(I:Inv X a5T σ H s)(k:∀b u,s.heap.get? b=b4 u->h'.get? b=b4 u):Inv X a5T σ H {s with heap:=h',toks:=t'}:=I.un (Un.kept k) (I.hok.kept k)
theorem Inv.laid{a:Addr}{o:HO}{t':Nat}(I:Inv X a5T σ H s)(k:∀b u,s.heap.get? b=b4 u->h'.get? b=b4 u)(c:s.heap.objs.size<=a)(new:ObjOk X.prog X.w (upd H a o) h' a o) :
  Inv X a5T σ (upd H a o) {s with heap:=h',toks:=t'}:=I.un (Un.laid k c (I.hok.fresh c)) (I.hok.laid k c new)
theorem Inv.write{x e:Addr}{o:HO}{t':Nat}(I:Inv X a5T σ H s)(d:qU (H x))(c:e=x\/H e=b4 (.own x))(k:∀b u,b≠e->s.heap.get? b=b4 u->h'.get? b=b4 u)(a:∃u,h'.get? e=b4 u)
  (new:ObjOk X.prog X.w (upd H x o) h' x o):Inv X a5T σ (upd H x o) {s with heap:=h',toks:=t'}:=I.un (Un.write d c k a) (I.hok.write d c k a new)
theorem Inv.pins_of{a:List (Addr×Obj)}(I:Inv X a5T σ H s)(h:∀p∈a,s.heap.get? p.1=b4 p.2/\H p.1=c4/\p.1≠X.env.locals/\p.1∉X.fs/\∀v,p.2.data≠.cell v):Inv X a σ H s:=
 ⟨I.ok,I.os,I.bare,I.base,I.loc,I.cell,I.free,I.freeC,λp b=>(XF.mp b).elim (λz=>I.pin p (YX _ z)) (h p),I.hok,I.len⟩
theorem xE{N:List Str}(e:N.Nodup){i j:Nat}{x:Str}(a:N[i]?=b4 x)(b:N[j]?=b4 x):i=j:=by obtain⟨h,c⟩:=VY.mp a;obtain⟨k,d⟩:=VY.mp b;exact(a3Z e).mp (c.trans d.symm)
theorem tX{M:a2l}{A:WJ}{E:Value->V1->Prop}{i:Nat}{x:Str}{v:V}{u:Value}{Q:Unit->V1->Prop}(I:Inv X a5T σ H s)(hN:X.N.Nodup)(hi:X.N[i]?=b4 x)(G:Loc X.env.scope x)(r:RelV v u)
  (h:∀s',Inv X a5T (σ.set i (b4 v)) H s'->(∃a,Yg a s.heap s'.heap/\(a=X.env.locals\/X.env.cells.lookup x=b4 a))->Q () s')(hf:X.fn x=c7\/X.env.scope.names.lookup x=b4 .local:=by first|exact .inl rfl|exact .inr rfl|assumption):Wm M A (storeName X.env x u) Q E s:=by
 obtain⟨m,hn,hl⟩:=id I.loc;have Z:(X.env.scope.kind==.class||(X.env.scope.kind==.module&&X.env.locals != X.env.globals))=false:=by rw[I.ok.kind];rfl
 have L:i<σ.length:=by rw[I.len];exact(VY.mp hi).1
 have cne:=I.cne;have B:∀{a:Addr}{h':Xo},(∃o,s.heap.get? a=b4 o/\H a=c4)->Yg a s.heap h'->HOk X.prog X.w H h':=λ{a h'} ha l b ob e=>by
  obtain⟨_,_,J⟩:=ha;refine(I.hok b ob e).stay (λc w' hc q=>(l.2 c ?_).trans q) (λ_ q=>q) λ_ _ q=>q;rintro rfl;rcases hc with rfl|hc
  ·rw[J]at e;cases e
  ·rw[J]at hc;cases hc
 rcases G with N|N
 ·refine wpAny_storeName_local N hn (λh' hn' l=>?_) Z;obtain⟨oL,_,_,hoL,_⟩:=id hn;refine h _ ⟨I.ok,I.os,I.bare,⟨λb o e n O G=>?_,λb o e n O G=>?_,I.base.free,λb o e G=>?_,I.base.tups,I.base.frzs,I.base.tbls⟩,⟨_,hn',λj y v' w K e3=>?_⟩,λy c e=>?_,I.free,I.freeC,λp hp=>?_,B ⟨oL,hoL,I.free⟩ l,by simpa using I.len⟩ ⟨_,l,.inl rfl⟩
  ·exact(l.2 b (WB (Wy (Wi e) I.ok.above))).trans (I.base.keep b o e n O G)
  ·obtain⟨sl,w⟩:=I.base.slot b o e n O G;exact⟨sl,(l.2 b (WB (Wy (Wi e) I.ok.above))).trans w⟩
  ·obtain⟨o',w⟩:=I.base.there b o e G;exact⟨o',(l.2 b (WB (Wy (Wi e) I.ok.above))).trans w⟩
  ·by_cases T:j=i
   ·subst T;rw[hi]at w;cases w;rw[Wh L]at K;cases K;exact⟨u,r,.inl ⟨N,by simp⟩⟩
   ·rw[V9 (WL T)]at K;obtain⟨u',r',q⟩:=hl j y v' w K e3;refine⟨u',r',?_⟩;rcases q with⟨k,e⟩|⟨k,c,e,z⟩
    ·refine .inl ⟨k,?_⟩;have:y≠x:=λe=>T (xE hN w (e▸hi));simp[this,e]
    ·exact .inr ⟨k,c,e,z.sameBut l (cne y c e)⟩
  ·obtain⟨w',z⟩:=I.cell y c e;exact⟨w',z.sameBut l (cne y c e)⟩
  ·obtain⟨e,n,ne,nf,d⟩:=I.pin p hp;exact⟨(l.2 p.1 ne).trans e,n,ne,nf,d⟩
 ·have R:X.fn x=true:=by
   rcases hf with z|z
   ·exact z
   ·rw[z]at N;cases N
  obtain⟨c,hc⟩:=I.ok.has x (.inl N);obtain⟨w',z⟩:=I.cell x c hc;refine wpAny_storeName_cell I.ok.kind N hc z (λh' U l=>?_);obtain⟨oc,hoc,hocd⟩:=id z;refine h {s with heap:=h'} ⟨I.ok,I.os,I.bare,⟨λb o e n O G=>?_,λb o e n O G=>?_,I.base.free,λb o e G=>?_,I.base.tups,I.base.frzs,I.base.tbls⟩,⟨m,hn.sameBut l (WL (cne x c hc)),λj y v' w K e3=>?_⟩,λy c' e=>?_,I.free,I.freeC,λp hp=>?_,B ⟨oc,hoc,I.freeC x c hc⟩ l,by simpa using I.len⟩ ⟨c,l,.inr hc⟩
  ·exact(l.2 b (WB (Wy (Wi e) (I.ok.cab x c R hc)))).trans (I.base.keep b o e n O G)
  ·obtain⟨sl,w⟩:=I.base.slot b o e n O G;exact⟨sl,(l.2 b (WB (Wy (Wi e) (I.ok.cab x c R hc)))).trans w⟩
  ·obtain⟨o',w⟩:=I.base.there b o e G;exact⟨o',(l.2 b (WB (Wy (Wi e) (I.ok.cab x c R hc)))).trans w⟩
  ·by_cases T:j=i
   ·subst T;rw[hi]at w;cases w;rw[Wh L]at K;cases K;exact⟨u,r,.inr ⟨.inl N,c,hc,U⟩⟩
   ·rw[V9 (WL T)]at K;obtain⟨u',r',q⟩:=hl j y v' w K e3;refine⟨u',r',?_⟩;rcases q with q|⟨k,c',e,z'⟩
    ·exact .inl q
    ·refine .inr ⟨k,c',e,z'.sameBut l ?_⟩;rintro rfl;exact T (xE hN w (I.ok.inj _ _ _ e hc▸hi))
  ·by_cases Y:c'=c
   ·subst Y;exact⟨_,U⟩
   ·obtain⟨w2,z2⟩:=I.cell y c' e;exact⟨w2,z2.sameBut l Y⟩
  ·obtain⟨e,n,ne,nf,d⟩:=I.pin p hp;refine⟨(l.2 p.1 ?_).trans e,n,ne,nf,d⟩;intro q;rw[q,hoc]at e;have q':oc=p.2:=Wj e;exact d w' (by rw[<- q'];exact hocd)
theorem BR{M:a2l}{A:WJ}{E:Value->V1->Prop}{i:Nat}{x:Str}{v:V}{u:Value}{Q:Unit->V1->Prop}(I:Inv X a5T σ H s)(c:X.N.Nodup)(e:X.N[i]?=b4 x)(j:Loc X.env.scope x)(r:RelV v u)
  (h:∀a,Inv X a5T (σ.set i (b4 v)) H a->Q () a)(d:X.fn x=c7\/X.env.scope.names.lookup x=b4 .local:=by first|exact .inl rfl|exact .inr rfl|assumption):Wm M A (storeName X.env x u) Q E s:=
 tX I c e j r (λa b _=>h a b) d
theorem Inv.call'{a:V1}{ch:List Addr}(I:Inv X a5T σ H s)(k:a.os=s.os)(u:Un (dS X.stack) ch H H' s.heap a.heap)(hok:HOk X.prog X.w H' a.heap)(j:a0d a.gens)
  (d:∀b∈ch,(b∈X.ex\/X.s₀.heap.objs.size<=b)/\b≠X.env.locals/\(∀x c,X.env.cells.lookup x=b4 c->c≠b)/\∀p∈X.pn++a5T,p.1≠b):Inv X a5T σ H' a:=by
 obtain⟨h',i,h,m,l⟩:=a;have e:l=s.os:=k;subst e;exact I.call (g':=i) (t':=m) (d':=h) u hok j d
end
noncomputable abbrev XK:=Value->Option Addr->Hp->Prop
noncomputable abbrev St:=List (Option V)
noncomputable abbrev VK:=V->Hp->Prop
noncomputable abbrev TE:=St->Hp->VK->Prop
noncomputable abbrev TT:=St->Hp->(Bool->Hp->Prop)->Prop
noncomputable abbrev TA:=St->Hp->(List V->Hp->Prop)->Prop
structure Ends where
 nx:St->Hp->Prop
 rt:VK
 bk:St->Hp->Prop:=λ_ _=>False
 ct:St->Hp->Prop:=λ_ _=>False
noncomputable abbrev TS:=Ends->St->Hp->Prop
noncomputable def EP(X:Cx)(a5T:List (Addr×Obj))(σ:St)(Q:VK)(u:Value)(a:V1):Prop:=∃v H',Inv X a5T σ H' a/\RelV v u/\Q v H'
noncomputable def TP(X:Cx)(a5T:List (Addr×Obj))(σ:St)(Q:Bool->Hp->Prop)(b:Bool)(a:V1):Prop:=∃H',Inv X a5T σ H' a/\Q b H'
noncomputable def AP(X:Cx)(a5T:List (Addr×Obj))(σ:St)(Q:List V->Hp->Prop)(us:List Value)(a:V1):Prop:=∃vs H',Inv X a5T σ H' a/\Vals vs us/\Q vs H'
noncomputable def SP(X:Cx)(a5T:List (Addr×Obj))(D:Ends)(f:Flow)(c:V1):Prop:=
 match f with
 |.next=>∃a b,Inv X a5T a b c/\D.nx a b|.brk=>∃a b,Inv X a5T a b c/\D.bk a b|.cont=>∃a b,Inv X a5T a b c/\D.ct a b|.ret u=>∃v a b,Inv X a5T a b c/\RelV v u/\D.rt v b
noncomputable def PE(X:Cx)(e:Expr)(t:TE):Prop:=
 ∀(a5T:List (Addr×Obj))(s:V1)(σ:St)(H:Hp)(Q:VK),Inv X a5T σ H s->t σ H Q->Wm (WC X.prog X.w) X.A (eval e X.env) (EP X a5T σ Q) X.xe s
noncomputable def PT(X:Cx)(e:Expr)(t:TT):Prop:=
 ∀(a5T:List (Addr×Obj))(s:V1)(σ:St)(H:Hp)(Q:Bool->Hp->Prop),Inv X a5T σ H s->t σ H Q->Wm (WC X.prog X.w) X.A (a1Z e X.env (eval e X.env)) (TP X a5T σ Q) X.xe s
noncomputable def PW(X:Cx)(e:Expr)(t:TT):Prop:=
 ∀(a:a3x Value)(a5T:List (Addr×Obj))(s:V1)(σ:St)(H:Hp)(Q:Bool->Hp->Prop),Inv X a5T σ H s->t σ H Q->Wm (WC X.prog X.w) X.A (a1Z e X.env a) (TP X a5T σ Q) X.xe s
theorem PW.pt{X:Cx}{e:Expr}{t:TT}(h:PW X e t):PT X e t:=h _
noncomputable def PA(X:Cx)(es:List Expr)(t:TA):Prop:=
 ∀(pos:XD)(a5T:List (Addr×Obj))(s:V1)(σ:St)(H:Hp)(Q:List V->Hp->Prop),Inv X a5T σ H s->t σ H Q->Wm (WC X.prog X.w) X.A (a4N (XM pos (Wn es X.env))) (AP X a5T σ Q) X.xe s
noncomputable def PS(X:Cx)(st:Stmt)(t:TS):Prop:=
 ∀(a5T:List (Addr×Obj))(s:V1)(σ:St)(H:Hp)(D:Ends),Inv X a5T σ H s->t D σ H->Wm (WC X.prog X.w) X.A (exec st X.env) (SP X a5T D) X.xe s
noncomputable def PSs(X:Cx)(st:List Stmt)(t:TS):Prop:=
 ∀(a5T:List (Addr×Obj))(s:V1)(σ:St)(H:Hp)(D:Ends),Inv X a5T σ H s->t D σ H->Wm (WC X.prog X.w) X.A (execs st X.env) (SP X a5T D) X.xe s
theorem aT{c:Type}{t:a3x c}{Q b:c->V1->Prop}{M:a2l}{A:WJ}{E:Value->V1->Prop}{s:V1}(h:Wm M A t Q E s)(d:∀a s,Q a s->b a s):Wm M A t b E s:=WR h d λ_ _ x=>x
end L2
namespace L2
open PySem PySem.Spec PyProof.Rows
section
variable{X:Cx}
noncomputable def BS(i:Nat):TE:=λσ H Q=>∃v,σ[i]?=b4 (b4 v)/\Q v H
noncomputable def tC(v:V):TE:=λ_ H Q=>Q v H
theorem Ia{i:Nat}{x:Str}{pos:XD}(k:X.N[i]?=b4 x)(q:oG X.env.scope x)(hd:(x==("__debug__":Str))=false:=by decide) (j:(x==("__classdict__":Str))=false:=by decide):PE X (.Name x pos) (BS i):=by
 intro d s w H Q I h;obtain⟨v,e,h⟩:=h;obtain⟨m,p,n⟩:=I.loc;obtain⟨u,r,l⟩:=n i x v k e q;have aS:EP X d w Q u s:=⟨v,H,I,r,h⟩;rcases l with⟨b,o⟩|⟨b,c,hc,a⟩
 ·exact a4w (wpAny_loadName_local I.ok.kind b p o aS) hd
 ·rcases b with b|b
  ·exact a4w (wpAny_loadName_cell I.ok.kind b hc a aS) hd
  ·exact a4w (wpAny_loadName_free I.ok.kind b hc a aS j) hd
theorem Ib{i j pos}:PE X (.Constant (.int i) j pos) (tC (.int i)):=λ_ _ _ H _ I h=>wpAny_Constant_int ⟨.int i,H,I.tok _,⟨_,rfl⟩,h⟩
theorem Ic{b j pos}:PE X (.Constant (.bool b) j pos) (tC (.bl b)):=λ_ _ _ H _ I h=>Constant_bool ⟨.bl b,H,I,rfl,h⟩
theorem Ie{j pos}:PE X (.Constant .none j pos) (tC .non):=λ_ _ _ H _ I h=>Constant_none ⟨.non,H,I,rfl,h⟩
theorem Ig{x j pos}:PE X (.Constant (.str x) j pos) (tC (.str x)):=λ_ _ _ H _ I h=>Calls.Constant_str ⟨.str x,H,I.tok _,⟨_,rfl⟩,h⟩
noncomputable def Gl(X:Cx)(x:Str):Prop:=X.env.kindOf x=b4 .globalImplicit
theorem jK{E:Value->V1->Prop}{a5T:List (Addr×Obj)}{s:V1}{σ:St}{H:Hp}{x:Str}{u:Value}{pos:XD}{Q:Value->V1->Prop}(I:Inv X a5T σ H s)(a:Gl X x)(b:X.mg x=b4 u)(h:Q u s)
  (hd:(x==("__debug__":Str))=false:=by decide):Wm (WC X.prog X.w) X.A (eval (.Name x pos) X.env) Q E s:=
 a1J I.ok.kind a (Calls.loadGlobal_global (by rw[I.ok.glob];exact I.mod.glob.keeps I.bk) b h) hd
theorem jL{E:Value->V1->Prop}{a5T:List (Addr×Obj)}{s:V1}{σ:St}{H:Hp}{x:Str}{u:Value}{pos:XD}{Q:Value->V1->Prop}(I:Inv X a5T σ H s)(c:Gl X x)(d:X.mg x=c4)(i:XW x=b4 u)(h:Q u s)
  (e:x ≠ "__name__":=by decide) (hd:(x==("__debug__":Str))=false:=by decide):Wm (WC X.prog X.w) X.A (eval (.Name x pos) X.env) Q E s:=by
 obtain⟨j,a,b⟩:=I.mod.blt;exact a1J I.ok.kind c (Calls.loadGlobal_builtin (by rw[I.ok.glob];exact I.mod.glob.keeps I.bk) d (by rw[I.ok.blt];exact a.keeps I.bk) ((b x e).trans i) h) hd
theorem Ih{x:Str}{v:V}{u:Value}{pos:XD}(a:Gl X x)(b:X.mg x=b4 u)(r:RelV v u)(hd:(x==("__debug__":Str))=false:=by decide):PE X (.Name x pos) (tC v):=
 λ_ _ _ H _ I h=>jK I a b ⟨v,H,I,r,h⟩ hd
theorem Ii{x:Str}{v:V}{u:Value}{pos:XD}(a:Gl X x)(b:X.mg x=c4)(d:XW x=b4 u)(r:RelV v u)(c:x ≠ "__name__":=by decide) (hd:(x==("__debug__":Str))=false:=by decide):PE X (.Name x pos) (tC v):=
 λ_ _ _ H _ I h=>jL I a b d ⟨v,H,I,r,h⟩ c hd
variable{a b:Expr}{ta tb:TE}{pos:XD}
noncomputable def tB(t:TE):TT:=λσ H Q=>t σ H λx d=>∃c,x=.bl c/\Q c d
theorem Ij{e:Expr}{t:TE}(h:PE X e t)(l:∀c,a1Z e X.env c=(do let v <- c;a0b e.pos;holding [v] (truthy v)):=by intro _;rfl):PT X e (tB t):=by intro i s o H Q I hw;refine isTrue_plain (aT (h i s o H _ I hw) λv p ⟨x,j,k,n,m⟩=>?_) (l _);obtain⟨d,rfl,q⟩:=m;cases n;exact X8 ⟨j,k,q⟩
variable{tA tB':TT}{bT:List Expr}
noncomputable def Ik(t u:TT):TT:=λσ H Q=>t σ H λc d=>if c=c7 then u σ d Q else Q c6 d
noncomputable def Il(t u:TT):TT:=λσ H Q=>t σ H λc d=>if c=c7 then Q c7 d else u σ d Q
noncomputable def Im(t:TT):TT:=λσ H Q=>t σ H λc d=>Q (!c) d
theorem Io(i:PT X a tA):PW X (.BoolOp .And [a] pos) tA:=by
 intro l d s j H Q I h;refine isTrue_and (aT (i d s j H Q I h) λc k e=>?_);cases c with
 |true=>exact isTrue_and_nil e|false=>exact e
theorem Ip(i:PT X a tA):PW X (.BoolOp .Or [a] pos) tA:=by
 intro l d s j H Q I h;refine isTrue_or (aT (i d s j H Q I h) λc k e=>?_);cases c with
 |false=>exact isTrue_or_nil e|true=>exact e
theorem Iq(l:PT X a tA)(m:PW X (.BoolOp .And (b::bT) pos) tB'):PW X (.BoolOp .And (a::b::bT) pos) (Ik tA tB'):=by
 intro o d s k H Q I h;refine isTrue_and (aT (l d s k H _ I h) λc n ⟨e,i,j⟩=>?_);cases c with
 |true=>exact m o d n k e Q i j|false=>exact⟨e,i,j⟩
theorem Ir(l:PT X a tA)(m:PW X (.BoolOp .Or (b::bT) pos) tB'):PW X (.BoolOp .Or (a::b::bT) pos) (Il tA tB'):=by
 intro o d s k H Q I h;refine isTrue_or (aT (l d s k H _ I h) λc n ⟨e,i,j⟩=>?_);cases c with
 |true=>exact⟨e,i,j⟩|false=>exact m o d n k e Q i j
theorem Iu(i:PT X a tA):PT X (.UnaryOp .Not a pos) (Im tA):=by intro d s j H Q I h;exact isTrue_not (i d s j H (λc e=>Q (!c) e) I h)
noncomputable def Iv(ta tb:TE):TE:=λσ H Q=>ta σ H λx d=>∃c,x=.bl c/\if c=c7 then tb σ d Q else Q (.bl c6) d
noncomputable def Iw(ta tb:TE):TE:=λσ H Q=>ta σ H λx d=>∃c,x=.bl c/\if c=c7 then Q (.bl c7) d else tb σ d Q
noncomputable def Iy(ta:TE):TE:=λσ H Q=>ta σ H λx d=>∃c,x=.bl c/\Q (.bl (!c)) d
theorem Iz{op} {t:TE}(h:PE X a t):PE X (.BoolOp op [a] pos) t:=λa5T s σ H Q I hw=>BoolOp_one (h a5T s σ H Q I hw)
theorem IA(l:PE X a ta)(m:PE X (.BoolOp .And (b::bT) pos) tb):PE X (.BoolOp .And (a::b::bT) pos) (Iv ta tb):=by
 intro d s k H Q I h;refine BoolOp_and (aT (l d s k H _ I h) λv o ⟨x,i,j,n,e⟩=>?_);obtain⟨c,rfl,e⟩:=e;cases n;refine X8 ?_;cases c with
 |true=>exact m d o k i Q j e|false=>exact⟨.bl c6,i,j,rfl,e⟩
theorem IB(l:PE X a ta)(m:PE X (.BoolOp .Or (b::bT) pos) tb):PE X (.BoolOp .Or (a::b::bT) pos) (Iw ta tb):=by
 intro d s k H Q I h;refine BoolOp_or (aT (l d s k H _ I h) λv o ⟨x,i,j,n,e⟩=>?_);obtain⟨c,rfl,e⟩:=e;cases n;refine X8 ?_;cases c with
 |false=>exact m d o k i Q j e|true=>exact⟨.bl c7,i,j,rfl,e⟩
theorem IC(k:PE X a ta):PE X (.UnaryOp .Not a pos) (Iy ta):=by intro d s m H Q I h;refine UnaryOp_ (aT (k d s m H _ I h) λv n ⟨x,i,j,l,e⟩=>?_);obtain⟨c,rfl,e⟩:=e;cases l;exact not_of (X8 ⟨.bl (!c),i,j,rfl,e⟩)
noncomputable def ID(t:TT)(ta tb:TE):TE:=λσ H Q=>t σ H λc d=>if c=c7 then ta σ d Q else tb σ d Q
theorem IE{c:Expr}(hc:PT X c tA)(n:PE X a ta)(o:PE X b tb):PE X (.IfExp c a b pos) (ID tA ta tb):=by
 intro e s i H Q I h;refine wpAny_IfExp (aT (hc e s i H _ I h) λd m ⟨j,k,l⟩=>?_);cases d with
 |true=>exact n e m i j Q k l|false=>exact o e m i j Q k l
end
end L2
namespace L2
open PySem PySem.Spec PyProof.Rows
noncomputable def SqL(K:VU)(H:Hp)(a:Addr)(xs:List V):Prop:=
 Rd H a (.lst xs) \/
  ∃(o:Obj)(its:Array Value)(n:Nat),K.lookup a=b4 o/\o.cls=.type "list"/\o.dict=c4/\o.data=.seq its n/\its.size<=Wb/\Vals xs its.toList
noncomputable def SqT(K:VU)(H:Hp)(a:Addr)(xs:List V):Prop:=
 Rd H a (.tup xs) \/
  ∃(o:Obj)(its:Array Value)(n:Nat),K.lookup a=b4 o/\o.cls=.type "tuple"/\o.dict=c4/\o.data=.seq its n/\its.size<=Wb/\Vals xs its.toList
noncomputable def IF:Value->Option V
 |.none=>b4 .non|.bool b=>b4 (.bl b)|.int i _=>b4 (.int i)|.str x _=>b4 (.str x)|.bytes b _=>b4 (.byt b)|.float b _=>b4 (.flt b)|.ref a=>b4 (.ref a)|.type n=>b4 (.ty n)|_=>c4
theorem RelV.abs{x:V}{u:Value}(r:RelV x u):IF u=b4 x:=by
 cases x with
 |non=>cases r;rfl|bl _=>cases r;rfl|int _=>obtain⟨t,rfl⟩:=r;rfl|str _=>obtain⟨t,rfl⟩:=r;rfl|byt _=>obtain⟨t,rfl⟩:=r;rfl|flt _=>obtain⟨t,rfl⟩:=r;rfl|ref _=>cases r;rfl|ty _=>cases r;rfl
theorem RelV.inj{x y:V}{u:Value}(r:RelV x u)(q:RelV y u):x=y:=Wj (r.abs.symm.trans q.abs)
theorem Vals.inj:∀{xs a:List V}{us:List Value},Vals xs us->Vals a us->xs=a
 |_,_,_,.nil,.nil=>rfl|_,_,_,.cons r t,.cons r' t'=>by rw[r.inj r',Vals.inj t t']
section
variable{X:Cx}{a5T:List (Addr×Obj)}{σ:St}{H:Hp}{s:V1}{a:Addr}{xs ys:List V}
theorem SqL.of{K:VU}(h:H a=b4 (.lst xs)):SqL K H a xs:=.inl (.inl h)
theorem SqT.of{K:VU}(h:H a=b4 (.tup xs)):SqT K H a xs:=.inl (.inl h)
theorem Inv.list(I:Inv X a5T σ H s)(h:SqL X.K H a xs):∃its:List Value,Vals xs its/\PlainL s.heap a its.toArray/\xs.length<=Wb:=by
 rcases h with h|⟨o,its,n,b,hc,hd,c,d,r⟩
 ·obtain⟨z,its,n,r,e⟩:=h.ok I.hok;exact⟨its,r,⟨_,n,e,rfl,rfl,rfl⟩,z⟩
 ·refine⟨its.toList,r,⟨o,n,I.kIn a o b,hc,hd,by simpa using c⟩,?_⟩;have e:=r.length;simp only[Y2]at e;omega
theorem Inv.tuple(I:Inv X a5T σ H s)(h:SqT X.K H a xs):∃its:List Value,Vals xs its/\IsTup s.heap a its.toArray/\xs.length<=Wb:=by
 rcases h with h|⟨o,its,n,b,hc,hd,c,d,r⟩
 ·obtain⟨z,its,r,p⟩:=h.ok I.hok;exact⟨its,r,p.tup,z⟩
 ·refine⟨its.toList,r,⟨o,I.kIn a o b,hc,n,by simpa using c⟩,?_⟩;have e:=r.length;simp only[Y2]at e;omega
theorem Inv.list_inj(I:Inv X a5T σ H s)(h:SqL X.K H a xs)(h':SqL X.K H a ys):xs=ys:=by
 obtain⟨c,r,⟨o,n,e,_,_,d⟩,_⟩:=I.list h;obtain⟨b,k,⟨m,l,j,_,_,i⟩,_⟩:=I.list h';rw[e]at j;cases j;rw[d]at i;injection i with d1 _;have:c=b:=by simpa using congrArg a4H d1
 subst this;exact r.inj k
theorem Inv.tuple_inj(I:Inv X a5T σ H s)(h:SqT X.K H a xs)(h':SqT X.K H a ys):xs=ys:=by
 obtain⟨c,r,⟨o,e,_,n,d⟩,_⟩:=I.tuple h;obtain⟨b,k,⟨m,j,_,l,i⟩,_⟩:=I.tuple h';rw[e]at j;cases j;rw[d]at i;injection i with d1 _;have:c=b:=by simpa using congrArg a4H d1
 subst this;exact r.inj k
end
noncomputable abbrev Cx.wish(X:Cx)(E:Value->V1->Prop):Cx:={X with xe:=E}
noncomputable abbrev Cx.nox(X:Cx):Cx:=X.wish λ_ _=>False
theorem Cx.Ok.wish{X:Cx}(ok:X.Ok)(E:Value->V1->Prop):(X.wish E).Ok:=
 ⟨ok.mod,ok.kind,ok.glob,ok.blt,ok.above,ok.inj,ok.has,ok.cab,ok.hd,ok.frames,ok.stk,ok.exf,ok.bs,ok.bsz,ok.noex,ok.exfs,ok.funs,ok.frf⟩
theorem Cx.Ok.unwish{X:Cx}{E:Value->V1->Prop}(ok:(X.wish E).Ok):X.Ok:=
 ⟨ok.mod,ok.kind,ok.glob,ok.blt,ok.above,ok.inj,ok.has,ok.cab,ok.hd,ok.frames,ok.stk,ok.exf,ok.bs,ok.bsz,ok.noex,ok.exfs,ok.funs,ok.frf⟩
section
variable{X:Cx}{a5T:List (Addr×Obj)}{σ:St}{H:Hp}{s:V1}{E:Value->V1->Prop}
theorem Inv.wish(I:Inv X a5T σ H s)(E:Value->V1->Prop):Inv (X.wish E) a5T σ H s:=⟨I.ok.wish E,I.os,I.bare,I.base,I.loc,I.cell,I.free,I.freeC,I.pin,I.hok,I.len⟩
theorem Inv.unwish(I:Inv (X.wish E) a5T σ H s):Inv X a5T σ H s:=⟨I.ok.unwish,I.os,I.bare,I.base,I.loc,I.cell,I.free,I.freeC,I.pin,I.hok,I.len⟩
theorem SP.unwish{D:Ends}{f:Flow}{c:V1}(h:SP (X.wish E) a5T D f c):SP X a5T D f c:=by
 cases f with
 |next=>obtain⟨a,b,I,q⟩:=h;exact⟨a,b,I.unwish,q⟩|brk=>obtain⟨a,b,I,q⟩:=h;exact⟨a,b,I.unwish,q⟩|cont=>obtain⟨a,b,I,q⟩:=h;exact⟨a,b,I.unwish,q⟩|ret u=>obtain⟨v,a,b,I,r,q⟩:=h;exact⟨v,a,b,I.unwish,r,q⟩
theorem PSs.nox{st:List Stmt}{t:TS}(h:PSs X.nox st t):PSs X st t:=λa5T s σ H D I hw=>WR (h a5T s σ H D (I.wish _) hw) (λ_ _ q=>q.unwish) λ_ _ z=>Wo z
end
section
variable{X:Cx}{st:Stmt}{bT:List Stmt}{t u:TS}{e:Expr}{te:TE}{pos:XD}
noncomputable def BU:TS:=λD σ H=>D.nx σ H
noncomputable def IG(t u:TS):TS:=λD σ H=>t {D with nx:=u D} σ H
theorem IH:PSs X [] BU:=λ_ _ σ H _ I h=>a0y ⟨σ,H,I,h⟩
theorem II(i:PS X st t)(j:PSs X bT u):PSs X (st::bT) (IG t u):=by
 intro a s l H D I h;refine a1S (aT (i a s l H {D with nx:=u D} I h) λf k q=>?_);cases f with
 |next=>obtain⟨b,c,d,q⟩:=q;exact j a k b c D d q|ret v=>exact q|brk=>exact q|cont=>exact q
theorem IJ(b:PS X st t):PSs X [st] t:=by
 intro a s c H D I h;refine a1S (aT (b a s c H D I h) λf d q=>?_);cases f with
 |next=>exact a0y q|ret v=>exact q|brk=>exact q|cont=>exact q
theorem IK:PS X (.Pass pos) BU:=λ_ _ σ H _ I h=>wpAny_Pass ⟨σ,H,I,h⟩
theorem Inv.quiet{a5T:List (Addr×Obj)}{σ:St}{H:Hp}{s:V1}(I:Inv X a5T σ H s):interactive X.env=false:=by simp[interactive,I.ok.kind]
noncomputable def IL(te:TE):TS:=λD σ H=>te σ H λ_ a=>D.nx σ a
theorem IM(i:PE X e te)(j:ZF e c4 pos.line X.env=pure false:=by rfl):PS X (.Expr e pos) (IL te):=by intro a s b H D I h;exact a5M (aT (i a s b H _ I h) λv m ⟨x,c,d,l,k⟩=>⟨b,c,d,k⟩) I.quiet j
noncomputable def IP(te:TE):TS:=λD σ H=>te σ H D.rt
theorem IQ(i:PE X e te):PS X (.Return (b4 e) pos) (IP te):=by intro a s b H D I h;exact a4L (aT (i a s b H _ I h) λv l ⟨x,c,d,k,j⟩=>⟨x,b,c,d,k,j⟩)
noncomputable def IS:TS:=λD _ H=>D.rt .non H
theorem IT:PS X (.Return c4 pos) IS:=λ_ _ σ H _ I h=>wpAny_Return_none ⟨.non,σ,H,I,rfl,h⟩
noncomputable def IU(c:TT)(t u:TS):TS:=λD σ H=>c σ H λb a=>if b=c7 then t D σ a else u D σ a
theorem IV{c:Expr}{a b:List Stmt}{o:TT}(hc:PT X c o)(p:PSs X a t)(q:PSs X b u):PS X (.If c a b pos) (IU o t u):=by
 intro i s j H D I h;refine wpAny_If (aT (hc i s j H _ I h) λd n ⟨k,l,m⟩=>?_);cases d with
 |true=>exact p i n j k D l m|false=>exact q i n j k D l m
end
noncomputable abbrev TG:=V->St->Hp->(St->Hp->Prop)->Prop
noncomputable abbrev oH:=List V->St->Hp->(St->Hp->Prop)->Prop
noncomputable def PG(X:Cx)(a:Expr)(t:TG):Prop:=
 ∀(a5T:List (Addr×Obj))(s:V1)(σ:St)(H:Hp)(v:V)(u:Value)(Q:St->Hp->Prop),Inv X a5T σ H s->RelV v u->t v σ H Q->
  Wm (WC X.prog X.w) X.A (a1s a X.env u) (λ_ d=>∃b c,Inv X a5T b c d/\Q b c) X.xe s
noncomputable def qV(X:Cx)(d:List Expr)(t:oH):Prop:=
 ∀(a5T:List (Addr×Obj))(s:V1)(σ:St)(H:Hp)(vs:List V)(us:List Value)(Q:St->Hp->Prop),Inv X a5T σ H s->Vals vs us->t vs σ H Q->
  Wm (WC X.prog X.w) X.A (assignInOrder ((Yr d X.env).map (·.2)) us) (λ_ c=>∃a b,Inv X a5T a b c/\Q a b) X.xe s
section
variable{X:Cx}{pos:XD}
noncomputable def xF(i:Nat):TG:=λv σ H Q=>Q (σ.set i (b4 v)) H
theorem BV{i:Nat}{x:Str}(c:X.N.Nodup)(e:X.N[i]?=b4 x)(j:Loc X.env.scope x)(d:X.fn x=c7\/X.env.scope.names.lookup x=b4 .local:=by first|exact .inl rfl|exact .inr rfl|assumption):PG X (.Name x pos) (xF i):=by intro b s l H v u Q I r h;exact a4K (BR I c e j r (λk a=>⟨_,H,a,h⟩) d)
noncomputable def BW:oH:=λvs σ H Q=>vs=[]/\Q σ H
noncomputable def BX(t:TG)(u:oH):oH:=λvs σ H Q=>∃v r,vs=v::r/\t v σ H λa H'=>u r a H' Q
theorem IW:qV X [] BW:=by intro a s b H d c Q I r h;obtain⟨e,h⟩:=h;subst e;cases r;exact assignInOrder_nil ⟨b,H,I,h⟩
theorem IX{e:Expr}{es:List Expr}{t:TG}{u:oH}(j:PG X e t)(k:qV X es u)
  (l:(Yr (e::es) X.env).map (·.2)=a1s e X.env::(Yr es X.env).map (·.2):=by rfl):qV X (e::es) (BX t u):=by
 intro a s p H x q Q I r h;obtain⟨v,w,i,h⟩:=h;subst i;cases r with
 |cons r n=>rw[l];refine assignInOrder_cons (aT (j a s p H _ _ _ I r h) λ_ o ⟨b,c,d,m⟩=>?_);exact k a o b c _ _ Q d n m
noncomputable def BY(b:TE)(g:TG):TS:=λD σ H=>b σ H λx a=>g x σ a D.nx
theorem IY{tg e:Expr}{b:TE}{g:TG}(k:PE X e b)(l:PG X tg g)(m:swapsWithSole [tg] e pos.line X.env=pure false:=by rfl)(hw:a2Y [tg] e X.env=pure none:=by rfl)
  (j:(Yr [tg] X.env).map (·.2)=[a1s tg X.env]:=by rfl):PS X (.Assign [tg] e pos) (BY b g):=by
 intro a s c H D I h;refine wpAny_Assign_stores (aT (k a s c H _ I h) λv p ⟨x,d,i,o,n⟩=>?_) m hw;rw[j];exact aT (l a p c d x v _ i o n) λ_ r q=>q
theorem IZ{i:Nat}{x:Str}{e:Expr}{c:TE}{a:XD}(l:X.N.Nodup)(o:X.N[i]?=b4 x)(q:Loc X.env.scope x)(m:PE X e c)(p:ZF e (b4 (.Name x a)) pos.line X.env=pure false:=by rfl)(n:X.fn x=c7\/X.env.scope.names.lookup x=b4 .local:=by first|exact .inl rfl|exact .inr rfl|assumption) :
  PS X (.Assign [.Name x a] e pos) (BY c (xF i)):=by
 intro b s w H D I h;refine a4M (aT (m b s w H _ I h) λv z ⟨y,d,j,u,r⟩=>?_) p;exact BR j l o q u (λA k=>⟨_,d,k,r⟩) n
end
section
variable{X:Cx}{pos:XD}
end
structure It where
 go:Nat->Hp->Prop
 yld:Nat->Hp->V->Hp->Prop
 stop:Nat->Hp->Prop
noncomputable def iS(X:Cx)(a5T:List (Addr×Obj))(H:Hp)(b:Addr):Prop:=
 H b=c4/\b≠X.env.locals/\b∉X.fs/\(b∈X.ex\/X.s₀.heap.objs.size<=b)/\(∀x c,X.env.cells.lookup x=b4 c->c≠b)/\∀p∈X.pn++a5T,p.1≠b
theorem Inv.fpOk{X:Cx}{a5T:List (Addr×Obj)}{σ:St}{H H':Hp}{s:V1}{b:Addr}(I:Inv X a5T σ H s)(a:s.heap.objs.size<=b)(d:H' b=c4):iS X a5T H' b:=by
 refine⟨d,ZL (Wy I.lt a),I.nofs a,.inr (Xk I.sz a),λx c e z=>?_,λp h z=>?_⟩
 ·obtain⟨v,q⟩:=I.cell x c e;exact absurd (Wy q.lt (by rw[z];exact a)) (Y7 _)
 ·exact absurd (Wy (Wi (I.pin p h).1) (by rw[z];exact a)) (Y7 _)
noncomputable abbrev Qc(X:Cx):Prop:=X.calm=c7
structure Turn(q:Cx->Prop)(P:Wv)(w:WO)(K:VU)(tg:Expr)(J:It)(fp:List Addr)(it:Addr)(tn:Nat->Xo->Prop):Prop where
 mem:it∈fp
 obj:∀i h,tn i h->∀b∈fp,∃o,h.get? b=b4 o/\∀v,o.data≠.cell v
 keep:∀i h h',tn i h->(∀b∈fp,∀o,h.get? b=b4 o->h'.get? b=b4 o)->tn i h'
 item:∀(X:Cx),X.prog=P->X.w=w->X.K=K->q X->∀(i:Nat)(a5T:List (Addr×Obj))(s:V1)(σ:St)(H:Hp)(E:Value->V1->Prop),Inv X a5T σ H s->(∀b∈fp,iS X a5T H b)->tn i s.heap->J.go i H->
  Wm (WC P w) X.A (a1W (.ref it)) (λr s1=>∃u,r=b4 u /\
   Wm (WC P w) X.A (a0z tg (.ref it) u) (λ_ s2=>∃x H',Inv X a5T σ H' s2/\RelV x u/\J.yld i H x H'/\tn (i+1) s2.heap/\∀b∈fp,H' b=c4) E s1) E s
 done:∀(X:Cx),X.prog=P->X.w=w->X.K=K->q X->∀(i:Nat)(a5T:List (Addr×Obj))(s:V1)(σ:St)(H:Hp)(E:Value->V1->Prop),Inv X a5T σ H s->(∀b∈fp,iS X a5T H b)->tn i s.heap->J.stop i H->
  Wm (WC P w) X.A (a1W (.ref it)) (λr s1=>r=c4/\Inv X a5T σ H s1) E s
 self:∀(A:WJ)(i:Nat)(s:V1)(Q:Value->V1->Prop)(E:Value->V1->Prop),tn i s.heap->Q (.ref it) s->Wm (WC P w) A (a1X (.ref it)) Q E s
noncomputable abbrev TI:=St->Hp->(It->Hp->Prop)->Prop
noncomputable def tY(q:Cx->Prop)(X:Cx)(a5T:List (Addr×Obj))(σ:St)(tg:Expr)(R:It->Hp->Prop)(a:Value)(e:V1):Prop:=
 ∃(d:Addr)(c:List Addr)(h:Nat->Xo->Prop)(J:It)(H':Hp),a=.ref d/\Inv X a5T σ H' e/\Turn q X.prog X.w X.K tg J c d h/\h 0 e.heap/\(∀b∈c,iS X a5T H' b)/\R J H'
noncomputable abbrev BZ:=tY Qc
noncomputable def qW(q:Cx->Prop)(X:Cx)(tg iter:Expr)(b:TI):Prop:=
 ∀(a5T:List (Addr×Obj))(s:V1)(σ:St)(H:Hp)(R:It->Hp->Prop),Inv X a5T σ H s->b σ H R->
  Wm (WC X.prog X.w) X.A (eval iter X.env) (λv a=>Wm (WC X.prog X.w) X.A (a1X v) (tY q X a5T σ tg R) X.xe a) X.xe s
noncomputable abbrev PI:=qW Qc
theorem qX {M:a2l}{A:WJ}{E:Value->V1->Prop}{s:V1}{tg:Expr}{b:Addr}{u:Value}{o:Obj}{n:String}{vs:Array Value}{Q:Unit->V1->Prop}(d:s.heap.get? b=b4 o)(hc:o.cls=.type n)(hd:o.data=.fields vs)
  (c:["enumerate","zip","dict_itemiterator","dict_reverseitemiterator","odict_iterator","itertools.zip_longest","itertools.pairwise"].contains n=c6) (a:Q () s):Wm M A (a0z tg (.ref b) u) Q E s:=by
 unfold a0z
 cases tg<;>first
  | exact V7 a
  | (cases u<;>first
    | exact V7 a
    | (refine VX (wpAny_load d ?_)
       rw [hc,hd]
       show Wm M A (if (["enumerate","zip","dict_itemiterator","dict_reverseitemiterator","odict_iterator","itertools.zip_longest","itertools.pairwise"].contains n&&vs[0]? == b4 (Zl _))=c7 then _ else _) Q E s
       rw [if_neg (by intro h;rw [c,a4t] at h;cases h)]
       exact V7 a))
noncomputable def xG (K:VU)(a:Addr):It:=
 ⟨fun i H=>∃ b x,SqL K H a b/\b[i]? = b4 x,fun i H x c=>c=H/\∀ b,SqL K H a b->b[i]? = b4 x,fun i H=>∃ b,SqL K H a b/\b.length<=i⟩
noncomputable def xH(K:VU)(a:Addr):It:=
 ⟨λi H=>∃b x,SqT K H a b/\b[i]?=b4 x,λi H x c=>c=H/\∀b,SqT K H a b->b[i]?=b4 x,λi H=>∃b,SqT K H a b/\b.length<=i⟩
noncomputable def lP(lo:Int)(n:Nat):It:=⟨λi _=>i<n,λi H x H'=>H'=H/\x=.int (lo+i),λi _=>n<=i⟩
theorem Ja{P:Wv}{w:WO}{K:VU}{tg:Expr}(a l:Addr):Turn Qc P w K tg (xG K a) [l] l (λi h=>h.IsListIter l a i) where
 mem:=by simp
 obj:=λi h st b j=>by
  have e:b=l:=by simpa using j
  subst e;obtain⟨o,e,c,d⟩:=st;exact⟨o,e,λv z=>by rw[d]at z;cases z⟩
 keep:=λi h q st k=>st.at λo e=>k l (by simp) o e;item:=by intro X N hw M hc i m s U H E I r st O;subst N hw M;obtain⟨xs,x,y,Q⟩:=O;obtain⟨R,T,p,hz⟩:=I.list y;obtain⟨u,hu,ru⟩:=T.get Q;obtain⟨A,B,f2,G,J,L⟩:=r l (by simp);refine a3t st p.isList (x:=u) (by simpa using hu) λq n sb=>?_;have Y:Inv X m U H {s with heap:=q}:=I.turned (t':=s.toks) (λb o j e=>(sb.2 b j).trans e) A B G J L;obtain⟨o,e,c,d⟩:=id n;exact⟨u,rfl,qX (s:={s with heap:=q}) e c d (by decide) ⟨x,H,Y,ru,⟨rfl,λys hy=>by rw[I.list_inj hy y];exact Q⟩,n,λb j=>(r b j).1⟩⟩
 done:=by intro X N hw M hc i m s U H E I r st O;subst N hw M;obtain⟨xs,y,Q⟩:=O;obtain⟨R,T,p,hz⟩:=I.list y;obtain⟨A,B,f2,G,J,L⟩:=r l (by simp);have hl:=T.length;exact a3O (I.ok.hd hc) st p.isList (by simp;omega) λq Z=>⟨rfl,I.turned (t':=s.toks) (λb o j e=>Z b o j e) A B G J L⟩
 self:=λ_ _ _ _ _ st h=>wpAny_pyIter_listiter st h
theorem Jb{P:Wv}{w:WO}{K:VU}{tg:Expr}(a l:Addr):Turn Qc P w K tg (xH K a) [l] l (λi h=>h.IsTupleIter l a i) where
 mem:=by simp
 obj:=λi h st b j=>by
  have e:b=l:=by simpa using j
  subst e;obtain⟨o,e,c,d⟩:=st;exact⟨o,e,λv z=>by rw[d]at z;cases z⟩
 keep:=λi h r st k=>st.at λo e=>k l (by simp) o e;item:=by intro X O hw N hc i n s U H E I y st Q;subst O hw N;obtain⟨xs,x,A,R⟩:=Q;obtain⟨m,T,p,hz⟩:=I.tuple A;obtain⟨u,hu,ru⟩:=T.get R;obtain⟨B,G,f2,J,L,M⟩:=y l (by simp);refine wpAny_pyNext_tuple_item st (show s.heap.IsTuple a m.toArray from p) (x:=u) (by simpa using hu) λr q sb=>?_;have Y:Inv X n U H {s with heap:=r}:=I.turned (t':=s.toks) (λb o j e=>(sb.2 b j).trans e) B G J L M;obtain⟨o,e,c,d⟩:=id q;exact⟨u,rfl,qX (s:={s with heap:=r}) e c d (by decide) ⟨x,H,Y,ru,⟨rfl,λys hy=>by rw[I.tuple_inj hy A];exact R⟩,q,λb j=>(y b j).1⟩⟩
 done:=by intro X O hw N hc i n s U H E I y st Q;subst O hw N;obtain⟨xs,A,R⟩:=Q;obtain⟨m,T,p,hz⟩:=I.tuple A;obtain⟨B,G,f2,J,L,M⟩:=y l (by simp);have hl:=T.length;exact wpAny_pyNext_tuple_end (I.ok.hd hc) st (show s.heap.IsTuple a m.toArray from p) (by simp;omega) λr Z=>⟨rfl,I.turned (t':=s.toks) (λb o j e=>Z b o j e) B G J L M⟩
 self:=λ_ _ _ _ _ st h=>wpAny_pyIter_tupleiter st h
theorem B0{P:Wv}{w:WO}{K:VU}{tg:Expr}(a:Addr)(lo:Int)(n:Nat):Turn Qc P w K tg (lP lo n) [a] a (λi h=>ZM h a (lo+(i:Nat)*1) ((n:Int)-(i:Nat)) 1) where
 mem:=by simp
 obj:=λi h st b c=>by
  have e:b=a:=by simpa using c
  subst e;exact⟨_,st,λv z=>by
   have R:WK _=a4b v:=z;cases R⟩
 keep:=λi h l st k=>k a (by simp) _ st;item:=by intro X A hw y hc i d s J H E I m st B;subst A hw y;obtain⟨p,q,N,r,u,x⟩:=m a (by simp);have W:=a4Q (prog:=X.prog) (w:=X.w) (I.ok.hd hc) a lo 1 n;refine W.item i s _ _ B st λv l G O j Q=>?_;obtain⟨t,rfl⟩:=O;have L:Inv X d J H {s with heap:=l,toks:=G}:=I.turned (λb o c e=>Q b o (by simpa using c) e) p q r u x;refine⟨_,rfl,qX (s:={s with heap:=l,toks:=G}) (n:="range_iterator") j rfl rfl (by decide) ⟨.int (lo+i),H,L,⟨t,?_⟩,⟨rfl,rfl⟩,j,λb c=>(m b c).1⟩⟩;rw[Int.mul_one]
 done:=by intro X A hw y hc i d s J H E I m st B;subst A hw y;obtain⟨p,q,N,r,u,x⟩:=m a (by simp);exact a3s (I.ok.hd hc) st (by have:n<=i:=B;omega) λl M=>⟨rfl,I.turned (t':=s.toks) (λb o c e=>M b o c e) p q r u x⟩
 self:=λ_ _ _ _ _ st h=>a3u st h
end L2
namespace L2
open PySem PySem.Spec PyProof.Rows
section
variable{X:Cx}{tg:Expr}
theorem B1{q:Cx->Prop}(tr:∀(d:Addr)(lo:Int)(n:Nat),Turn q X.prog X.w X.K tg (lP lo n) [d] d (λi h=>ZM h d (lo+(i:Nat)*1) ((n:Int)-(i:Nat)) 1)){a5T:List (Addr×Obj)}{σ:St}{H:Hp}{s:V1}{R:It->Hp->Prop}{E:Value->V1->Prop}{lo a:Int}{t u v:Tok}{tk:Nat}(I:Inv X a5T σ H s)(l:-(2^62)<=lo)(m:lo<2^62)(p:-(2^62)<=a)(r:a<2^62)
  (w:R (lP lo (a-lo).toNat) H):Wm (WC X.prog X.w) X.A (a1X (.ref s.heap.objs.size)) (tY q X a5T σ tg R) E {s with heap:=s.heap.push {cls:=.type "range",data:=.fields #[.int lo t,.int a u,.int 1 v]},toks:=tk}:=by
 refine a4v (a4r ..) (small_one l m p r) ?_;have c:Inv X a5T σ H {s with heap:=s.heap.push {cls:=.type "range",data:=.fields #[.int lo t,.int a u,.int 1 v]},toks:=tk}:=I.kept λb o e=>V8 _ e;refine⟨(s.heap.push {cls:=.type "range",data:=.fields #[.int lo t,.int a u,.int 1 v]}).objs.size,[(s.heap.push {cls:=.type "range",data:=.fields #[.int lo t,.int a u,.int 1 v]}).objs.size],_,_,H,rfl,
  c.kept (t':=tk) λb o e=>V8 _ e,tr _ lo (a-lo).toNat,?_,λb x=>?_,w⟩
 ·have j:lo+((0:Nat):Int)*1=lo:=by simp
  have k:(((a-lo).toNat:Nat):Int)-((0:Nat):Int)=W3 lo a 1:=by rw[rangeSize_one];split<;>omega
  show ZM _ _ (lo+((0:Nat):Int)*1) ((((a-lo).toNat:Nat):Int)-((0:Nat):Int)) 1;rw[j,k];exact Ws _ rfl
 ·have e:b=(s.heap.push {cls:=.type "range",data:=.fields #[.int lo t,.int a u,.int 1 v]}).objs.size:=by simpa using x
  subst e;exact c.fpOk (Wa _) (c.hok.fresh (Wa _))
noncomputable def Jc(b:TA):TI:=λσ H R=>b σ H λvs a=>∃j:Int,vs=[.int j]/\-(2^62)<=j/\j<2^62/\R (lP 0 j.toNat) a
noncomputable def Jd(b:TA):TI:=λσ H R=>b σ H λvs a=>∃i j:Int,vs=[.int i,.int j]/\(-(2^62)<=i/\i<2^62/\-(2^62)<=j/\j<2^62)/\R (lP i (j-i).toNat) a
theorem Je{q:Cx->Prop}(tr:∀(c:Addr)(lo:Int)(n:Nat),Turn q X.prog X.w X.K tg (lP lo n) [c] c (λi h=>ZM h c (lo+(i:Nat)*1) ((n:Int)-(i:Nat)) 1)){a:Expr}{k:TA}{p pos:XD}(o:Gl X "range") (u:X.mg "range"=c4) (m:PA X [a] k)(v:Wn [a] X.env=[(c6,eval a X.env)]:=by rfl):qW q X tg (.Call (.Name "range" p) [a] [] pos) (Jc k):=by
 intro b s A H R I h;refine Call_ (jL I o u a4B (XY (aT (m pos b s A H _ I h) λG E ⟨J,B,l,y,d⟩=>?_) v rfl));obtain⟨j,e,d,w,x⟩:=d;subst e;cases y with
 |cons r z=>cases z;obtain⟨t,rfl⟩:=r;exact call_range_1 (B1 tr l (by omega) (by omega) d w (by simpa using x))
theorem Jf{a b:Expr}{m:TA}{p pos:XD}(u:Gl X "range") (v:X.mg "range"=c4) (o:PA X [a,b] m)(w:Wn [a,b] X.env=[(c6,eval a X.env),(c6,eval b X.env)]:=by rfl)(c:Wn [b] X.env=[(c6,eval b X.env)]:=by rfl) :
  PI X tg (.Call (.Name "range" p) [a,b] [] pos) (Jd m):=by
 intro d s E H R I h;refine Call_ (jL I u v a4B (XY (aT (o pos d s E H _ I h) λL J ⟨M,G,n,B,k⟩=>?_) (by rw[w,c]) (by rw[c];rfl)));obtain⟨i,j,e,⟨k,x,y,z⟩,q⟩:=k;subst e;cases B with
 |cons r l=>
  cases l with
  |cons A l=>cases l;obtain⟨t,rfl⟩:=r;obtain⟨K,rfl⟩:=A;exact call_range_2 (B1 B0 n k x y z q)
noncomputable def Jg(k:TI)(g:TG)(j:TS):TS:=λD σ H=>k σ H λJ e=>∃W:Nat->Nat->St->Hp->Prop,(∃m,W 0 m σ e)/\∀i m σ H,W i m σ H->
 (J.stop i H/\D.nx σ H)\/(J.go i H/\∃N:St->Hp->Prop,(∀b a,N b a->∃d,d<m/\W (i+1) d b a)/\∀x a,J.yld i H x a->g x σ a λc h=>j {D with nx:=N,ct:=N,bk:=D.nx} c h)
noncomputable def qY(a:List Addr)(h:Xo):List (Addr×Obj):=a.filterMap λb=>(h.get? b).map λo=>(b,o)
theorem tZ{a:List Addr}{h:Xo}{b:Addr}{o:Obj}(c:b∈a)(e:h.get? b=b4 o):(b,o)∈qY a h:=a0K.mpr ⟨b,c,by rw[e];rfl⟩
theorem Jh{a:List Addr}{h:Xo}{p:Addr×Obj}(i:p∈qY a h):p.1∈a/\h.get? p.1=b4 p.2:=by
 obtain⟨b,d,e⟩:=a0K.mp i;cases q:h.get? b with
 |none=>rw[q]at e;cases e|some o=>rw[q]at e;have c:(b,o)=p:=Wj e;subst c;exact⟨d,q⟩
theorem Inv.pinned{a5T:List (Addr×Obj)}{σ:St}{H:Hp}{s:V1}{a:List Addr}(I:Inv X a5T σ H s)(l:∀b∈a,iS X a5T H b)(m:∀b∈a,∃o,s.heap.get? b=b4 o/\∀v,o.data≠.cell v):Inv X (a5T++qY a s.heap) σ H s:=
 I.pins_of λp n=>(XF.mp n).elim (λz=>I.pin p (WV _ z)) λz=>by obtain⟨h,e⟩:=Jh z;obtain⟨i,j,k,_⟩:=l p.1 h;obtain⟨o,c,d⟩:=m p.1 h;rw[e]at c;cases c;exact⟨e,i,j,k,d⟩
theorem Inv.unpinned{a5T pl:List (Addr×Obj)}{σ:St}{H:Hp}{s:V1}(I:Inv X (a5T++pl) σ H s):Inv X a5T σ H s:=I.pins_of λp a=>I.pin p (WV _ (YX _ a))
theorem Ji{iter:Expr}{body:List Stmt}{wi:TI}{g:TG}{tb:TS}{pos:XD}(G:a5d (WC X.prog X.w) X.A X.env X.xe)(hc:X.calm=c7)(hi:PI X tg iter wi)(hg:PG X tg g)(p:PSs X body tb)
  (hs:∀x,YZ iter X.env x=pure x:=by intro _;rfl):PS X (.For tg iter body [] pos) (Jg wi g tb):=by
 intro c s σ H D I h;refine wpAny_For (aT (hi c s σ H _ I h) λv s1 h1=>aT h1 λitv s2 h2=>?_) hs;obtain⟨it,B,tn,J,H2,e,I2,T,st2,f2,W,⟨m0,w0⟩,O⟩:=h2;subst e
  -- what stays c7 of the iterator's objects through the loop
 have q:∀{H':Hp},(∀b∈B,H' b=c4)->∀b∈B,iS X c H' b:=λhn b p=>⟨hn b p,(f2 b p).2⟩;refine codeAny_forLoop_any (λn s'=>∃i w H',Inv X c w H' s'/\tn i s'.heap/\(∀b∈B,H' b=c4)/\W i n w H') ?_ m0 ⟨0,σ,H2,I2,st2,λb p=>(f2 b p).1,w0⟩;rintro n s3 ⟨i,y,Q,I3,L,E,w3⟩;rcases O i n y Q w3 with⟨M,qn⟩|⟨go,N,hN,step⟩
 ·refine ZQ G (aT (T.done X rfl rfl rfl hc i c s3 y Q X.xe I3 (q E) L M) λr s4 ⟨Y,I4⟩=>?_);subst Y;exact a0y ⟨y,Q,I4,qn⟩
 ·refine ZQ G (aT (T.item X rfl rfl rfl hc i c s3 y Q X.xe I3 (q E) L go) λr s4 ⟨u,Y,h4⟩=>?_);subst Y;refine ZQ G (aT h4 λ_ s5 ⟨x,H5,I5,r5,y5,A,U⟩=>?_);have R:=I5.pinned (q U) (T.obj _ _ A);refine ZQ G (aT (hg _ s5 y H5 x u _ R r5 (step x H5 y5)) λ_ s6 ⟨σ6,H6,I6,q6⟩=>?_);refine ZQ G (aT (p _ s6 σ6 H6 _ I6 q6) λf Z z=>?_);have l:∀{a:St}{j:Hp},Inv X (c++qY B s5.heap) a j Z->N a j->∃m,m<n/\∃i w H',Inv X c w H' Z/\tn i Z.heap/\(∀b∈B,H' b=c4)/\W i m w H':=λ{a j} k K=>by obtain⟨m',hm,w7⟩:=hN a j K;refine⟨m',hm,i+1,a,j,k.unpinned,T.keep _ _ _ A λb p o e=>(k.pin (b,o) (WV _ (WV _ (tZ p e)))).1,λb p=>?_,w7⟩;obtain⟨o,e,d⟩:=T.obj _ _ A b p;exact(k.pin (b,o) (WV _ (WV _ (tZ p e)))).2.1
  cases f with
  |next=>obtain⟨a,j,k,K⟩:=z;exact l k K|cont=>obtain⟨a,j,k,K⟩:=z;exact l k K|brk=>obtain⟨a,j,k,z⟩:=z;exact⟨a,j,k.unpinned,z⟩|ret v=>obtain⟨x7,a,j,k,r7,z⟩:=z;exact⟨x7,a,j,k.unpinned,r7,z⟩
end
end L2
namespace L2
open PySem PySem.Spec PyProof.Rows
noncomputable abbrev R2:=V->V->Hp->VK->Prop
noncomputable def OpR(X:Cx)(f:Value->Value->a3x Value)(r:R2):Prop:=
 ∀(a5T:List (Addr×Obj))(s:V1)(σ:St)(H:Hp)(x y:V)(v u:Value)(Q:VK),Inv X a5T σ H s->RelV x v->RelV y u->r x y H Q->
  Wm (WC X.prog X.w) X.A (f v u) (EP X a5T σ Q) X.xe s
noncomputable def xI(X:Cx)(f:Value->a3x Value)(r:V->Hp->VK->Prop):Prop:=
 ∀(a5T:List (Addr×Obj))(s:V1)(σ:St)(H:Hp)(x:V)(v:Value)(Q:VK),Inv X a5T σ H s->RelV x v->r x H Q->
  Wm (WC X.prog X.w) X.A (f v) (EP X a5T σ Q) X.xe s
noncomputable def CallR(X:Cx)(f:Value)(r:List V->Hp->VK->Prop):Prop:=
 ∀(a5T:List (Addr×Obj))(s:V1)(σ:St)(H:Hp)(xs:List V)(us:List Value)(Q:VK),Inv X a5T σ H s->Vals xs us->r xs H Q->
  Wm (WC X.prog X.w) X.A (call f us) (EP X a5T σ Q) X.xe s
noncomputable def Jj(X:Cx)(r:V->Hp->(Bool->Hp->Prop)->Prop):Prop:=
 ∀(a5T:List (Addr×Obj))(s:V1)(σ:St)(H:Hp)(x:V)(v:Value)(Q:Bool->Hp->Prop),Inv X a5T σ H s->RelV x v->r x H Q->
  Wm (WC X.prog X.w) X.A (truthy v) (TP X a5T σ Q) X.xe s
noncomputable def qZ(r:R2)(c d:TE):TE:=λσ H Q=>c σ H λx a=>d σ a λy b=>r x y b Q
noncomputable def Jk(r:V->Hp->VK->Prop)(b:TE):TE:=λσ H Q=>b σ H λx a=>r x a Q
noncomputable def rI(C:Int->Int->Prop)(g:Int->Int->V):R2:=λx y H Q=>∃i j,x=.int i/\y=.int j/\C i j/\Q (g i j) H
noncomputable def gT(g:Int->Int->V):R2:=λx y H Q=>∃i j,x=.int i/\y=.int j/\Q (g i j) H
noncomputable def rU(g:Int->V):V->Hp->VK->Prop:=λx H Q=>∃i,x=.int i/\Q (g i) H
section
variable{X:Cx}{a b c:Expr}{ta tb tc:TE}{pos:XD}
theorem xJ(n:PE X a ta)(o:PE X b tb){a5T:List (Addr×Obj)}{s:V1}{σ:St}{H:Hp}{R:V->V->Hp->Prop}(I:Inv X a5T σ H s)
  (h:ta σ H λx k=>tb σ k λy d=>R x y d){Q:Value->V1->Prop}{f:Value->Value->a3x Value}
  (p:∀v u j x y d,Inv X a5T σ d j->RelV x v->RelV y u->R x y d->Wm (WC X.prog X.w) X.A (f v u) Q X.xe j) :
  Wm (WC X.prog X.w) X.A (eval a X.env) (λv e=>Wm (WC X.prog X.w) X.A (eval b X.env) (λu i=>Wm (WC X.prog X.w) X.A (f v u) Q X.xe i) X.xe e) X.xe s:=by
 refine aT (n a5T s σ H _ I h) λv A ⟨x,k,l,w,q⟩=>?_;refine aT (o a5T A σ k _ l q) λu j ⟨y,d,m,z,r⟩=>?_;exact p v u j x y d m w z r
theorem Jl{op:a2N}{r:R2}(l:OpR X (YU op) r)(j:PE X a ta)(k:PE X b tb):PE X (.BinOp a op b pos) (qZ r ta tb):=by intro d s p H Q I h;exact wpAny_BinOp (xJ j k I h λv u o x y e i m n q=>l d o p e x y v u Q i m n q)
theorem Jm{op:UnaryOp}{r:V->Hp->VK->Prop}(l:xI X (unaryOp op) r)(k:PE X a ta):PE X (.UnaryOp op a pos) (Jk r ta):=by intro d s e H Q I h;exact UnaryOp_ (aT (k d s e H _ I h) λv o ⟨x,i,j,n,m⟩=>l d o e i x v Q j n m)
theorem t5{f:Value->Value->a3x Value}{C:Int->Int->Prop}{g:Int->Int->Int}
  (d:∀(i j:Int)(t u:Tok)(s:V1)(Q:Value->V1->Prop)(E:Value->V1->Prop),C i j->Q (.int (g i j) s.toks) {s with toks:=s.toks+1}->Wm (WC X.prog X.w) X.A (f (.int i t) (.int j u)) Q E s) :
  OpR X f (rI C λi j=>.int (g i j)):=by
 intro e s n H x y v u Q I k l h;obtain⟨i,j,rfl,rfl,hc,q⟩:=h;obtain⟨t,rfl⟩:=k;obtain⟨m,rfl⟩:=l;exact d i j t m s _ _ hc ⟨.int (g i j),H,I.tok _,⟨_,rfl⟩,q⟩
theorem B2{f:Value->Value->a3x Value}{g:Int->Int->Int}
  (d:∀(i j:Int)(t u:Tok)(s:V1)(Q:Value->V1->Prop)(E:Value->V1->Prop),Q (.int (g i j) s.toks) {s with toks:=s.toks+1}->Wm (WC X.prog X.w) X.A (f (.int i t) (.int j u)) Q E s) :
  OpR X f (gT λi j=>.int (g i j)):=by
 intro e s n H x y v u Q I k l h;obtain⟨i,j,rfl,rfl,q⟩:=h;obtain⟨t,rfl⟩:=k;obtain⟨m,rfl⟩:=l;exact d i j t m s _ _ ⟨.int (g i j),H,I.tok _,⟨_,rfl⟩,q⟩
theorem t6{f:Value->Value->a3x Value}{g:Int->Int->Bool}
  (d:∀(i j:Int)(t u:Tok)(s:V1)(Q:Value->V1->Prop)(E:Value->V1->Prop),Q (.bool (g i j)) s->Wm (WC X.prog X.w) X.A (f (.int i t) (.int j u)) Q E s) :
  OpR X f (gT λi j=>.bl (g i j)):=by
 intro e s n H x y v u Q I k l h;obtain⟨i,j,rfl,rfl,q⟩:=h;obtain⟨t,rfl⟩:=k;obtain⟨m,rfl⟩:=l;exact d i j t m s _ _ ⟨.bl (g i j),H,I,rfl,q⟩
noncomputable def Jn(i j:Int):Prop:=0<=j/\j<=1000000/\i.natAbs<2^64
noncomputable def CMul(i j:Int):Prop:=(-(2^64)<i/\i<2^64)\/(-(2^64)<j/\j<2^64)
theorem CMul.ok{i j:Int}(h:CMul i j):a4k i j:=by
 rcases h with⟨d,e⟩|⟨d,e⟩
 ·exact .of_left (intBits_le_64 d e)
 ·exact .of_right (intBits_le_64 d e)
theorem op_add:OpR X (YU .Add) (gT λi j=>.int (i+j)):=B2 λ_ _ _ _ _ _ _ q=>add_int q
theorem Jo:OpR X (YU .Sub) (gT λi j=>.int (i-j)):=B2 λ_ _ _ _ _ _ _ q=>sub_int q
theorem Jp:OpR X (YU .Mod) (rI (λ_ j=>0<j) λi j=>.int (i%j)):=t5 λi j _ _ _ _ _ hc q=>by have d:(0:Int)<j:=hc;exact mod_int' (by omega) (by rw[Int.fmod_eq_emod_of_nonneg i (by omega)];exact q)
theorem t7{f:Value->a3x Value}{g:Int->Int}
  (d:∀(i:Int)(t:Tok)(s:V1)(Q:Value->V1->Prop)(E:Value->V1->Prop),Q (.int (g i) s.toks) {s with toks:=s.toks+1}->Wm (WC X.prog X.w) X.A (f (.int i t)) Q E s) :
  xI X f (rU λi=>.int (g i)):=by
 intro e s k H x v Q I j h;obtain⟨i,rfl,q⟩:=h;obtain⟨t,rfl⟩:=j;exact d i t s _ _ ⟨.int (g i),H,I.tok _,⟨_,rfl⟩,q⟩
theorem Jq:xI X (unaryOp .USub) (rU λi=>.int (-i)):=t7 λ_ _ _ _ _ q=>neg_int q
end
section
variable{X:Cx}{a b c:Expr}{ta tb tc:TE}{pos:XD}
theorem m8{a5T:List (Addr×Obj)}{σ:St}{H:Hp}{s:V1}{Q:VK}{k k':Bool}(I:Inv X a5T σ H s)(q:Q (.bl k) H)(e:k=k'):EP X a5T σ Q (.bool k') s:=by subst e;exact⟨.bl k,H,I,rfl,q⟩
theorem xK:OpR X (Xd .Lt) (gT λi j=>.bl (decide (i<j))):=t6 λ_ _ _ _ _ _ _ q=>lt_int q
theorem xM:OpR X (Xd .LtE) (gT λi j=>.bl (decide (i<=j))):=t6 λ_ _ _ _ _ _ _ q=>le_int q
theorem xO:OpR X (Xd .Gt) (gT λi j=>.bl (decide (j<i))):=t6 λ_ _ _ _ _ _ _ q=>gt_int q
theorem xP:OpR X (Xd .GtE) (gT λi j=>.bl (decide (j<=i))):=t6 λ_ _ _ _ _ _ _ q=>ge_int q
theorem B4:OpR X (Xd .In) (λx y H Q=>∃i j,x=.str i/\y=.str j/\Q (.bl (!(XH j i 0 j.length 1).isEmpty)) H):=by intro d s m H x y v u Q I e k h;obtain⟨i,j,rfl,rfl,q⟩:=h;obtain⟨t,rfl⟩:=e;obtain⟨l,rfl⟩:=k;exact in_str (m8 I q rfl)
theorem B5:OpR X (Xd .Is) (λx y H Q=>y=.non/\Q (.bl (decide (x=.non))) H):=by
 intro e s j H x y v u Q I d i h;obtain⟨rfl,q⟩:=h;cases i;refine is_none_gen (m8 I q ?_);cases x<;>first
  |(cases d;rfl)|(obtain⟨t,rfl⟩:=d;rfl)
theorem B6:OpR X (Xd .IsNot) (λx y H Q=>y=.non/\Q (.bl (!decide (x=.non))) H):=by
 intro e s j H x y v u Q I d i h;obtain⟨rfl,q⟩:=h;cases i;refine isnot_none_gen (m8 I q ?_);cases x<;>first
  |(cases d;rfl)|(obtain⟨t,rfl⟩:=d;rfl)
theorem OpR.or{f:Value->Value->a3x Value}{r e:R2}(h:OpR X f r)(h':OpR X f e):OpR X f (λx y H Q=>r x y H Q\/e x y H Q):=by
 intro d s k H x y v u Q I i j q;rcases q with q|q
 ·exact h d s k H x y v u Q I i j q
 ·exact h' d s k H x y v u Q I i j q
theorem dH(b:Expr){op:Zf}(h:op≠.In:=by decide)(i:op≠.NotIn:=by decide):YW op b=false:=by
 have d:(op==CmpOp.In)=false:=by cases op<;>first|rfl|exact absurd rfl h
 have e:(op==CmpOp.NotIn)=false:=by cases op<;>first|rfl|exact absurd rfl i
 cases b<;>simp[YW,d,e]
theorem Jr{op:Zf}{r:R2}(m:OpR X (Xd op) r)(j:PE X a ta)(k:PE X b tb)(l:YW op b=c6):PE X (.Compare a [op] [b] pos) (qZ r ta tb):=by intro d s w H Q I h;exact wpAny_Compare1 (xJ j k I h λv u p x y e i n o q=>m d p w e x y v u Q i n o q) l
noncomputable def B7(t:TE):TT:=λσ H Q=>t σ H λx H'=>∃k,x=.bl k/\Q k H'
theorem Js{op:Zf}{r:R2}(B:OpR X (Xd op) r)(q:PE X a ta)(w:PE X b tb)(A:YW op b=c6):PT X (.Compare a [op] [b] pos) (B7 (qZ r ta tb)):=by
 intro d s i H Q I h;refine wpAny_isTrue_Compare1 (aT (q d s i H _ I h) λv N ⟨x,j,n,K,E⟩=>aT (w d N i j _ n E) λu O ⟨y,l,o,L,G⟩=>
  aT (B d O i l x y v u _ o K L G) λc R ⟨z,m,p,M,k,e,J⟩=>?_) A
 subst e;cases M;exact X8 ⟨m,p,J⟩
noncomputable def xQ(r j:R2)(ta tb tc:TE):TE:=λσ H Q=>ta σ H λx e=>tb σ e λy h=>r x y h λz d=>∃k,z=.bl k /\
 (if k=c7 then tc σ d λl i=>j y l i Q else Q (.bl c6) d)
theorem Jt{op j:Zf}{r q:R2}(O:OpR X (Xd op) r)(m:OpR X (Xd j) q)(L:PE X a ta)(M:PE X b tb)(hc:PE X c tc)
  (N:a4Y [op,j] [b,c]=false:=by with_unfolding_all rfl):PE X (.Compare a [op,j] [b,c] pos) (xQ r q ta tb tc):=by
 intro i s l H Q I h;refine Compare_chain (aT (L i s l H _ I h) λv s1 ⟨x,A,G,Y,R⟩=>chain_link (aT (M i s1 l A _ G R) λu s2 ⟨y,B,J,w,T⟩=>
  aT (O i s2 l B x y v u _ J Y w T) λd s3 ⟨z,n,o,Z,k,e,p⟩=>?_)) N
 subst e;cases Z;refine X8 ?_;cases k with
 |false=>exact ite_ff ⟨.bl c6,n,o,rfl,p⟩|true=>exact ite_tt (chain_last (aT (hc i s3 l n _ o p) λw' s4 ⟨z',E,K,r4,U⟩=>m i s4 l E y z' u w' Q K w r4 U))
theorem Ju{op j:Zf}{r q:R2}(Y:OpR X (Xd op) r)(m:OpR X (Xd j) q)(R:PE X a ta)(T:PE X b tb)(hc:PE X c tc)
  (U:a4Y [op,j] [b,c]=false:=by with_unfolding_all rfl):PT X (.Compare a [op,j] [b,c] pos) (B7 (xQ r q ta tb tc)):=by
 intro i s l H Q I h;refine isTrue_chain (aT (R i s l H _ I h) λv s1 ⟨x,A,J,r1,q1⟩=>test_link (aT (T i s1 l A _ J q1) λu s2 ⟨y,B,K,w,q2⟩=>
  aT (Y i s2 l B x y v u _ K r1 w q2) λd s3 ⟨z,n,o,r3,k,e,p⟩=>?_)) U
 subst e;cases r3;refine X8 ?_;cases k with
 |false=>obtain⟨k',N,Z⟩:=p;cases N;exact ite_ff ⟨n,o,Z⟩|true=>refine ite_tt (test_last (aT (hc i s3 l n _ o p) λw' s4 ⟨z',E,L,r4,q4⟩=>aT (m i s4 l E y z' u w' _ L w r4 q4) λd' s5 ⟨z2,G,M,r5,k2,O,q5⟩=>?_));subst O;cases r5;exact X8 ⟨G,M,q5⟩
noncomputable def xR(K:VU)(x:V)(H:Hp)(k:Bool):Prop:=
 match x with
 |.non=>k=c6|.bl b=>k=b|.int i=>k=(i != 0)|.str y=>y.length<=Wb/\k=((y.length:Int) != 0)|.byt y=>y.size<=Wb/\k=((y.size:Int) != 0)|.ref p=>(∃e,SqL K H p e/\k=!e.isEmpty)\/(∃e,SqT K H p e/\k=!e.isEmpty)\/∃d,H p=b4 (.dK d)/\k=!d.isEmpty|_=>False
theorem Jv{e:Type}{d:List (e×V)}{vs:List (e×Value)}(r:KV d vs):(!vs.isEmpty)=!d.isEmpty:=by cases r<;>rfl
theorem B8{xs:List V}{its:List Value}(r:Vals xs its):(!its.toArray.isEmpty)=!xs.isEmpty:=by cases r<;>simp
theorem oI:(Wb:Nat)<2^63:=by rw[W6];decide
theorem Jw:Jj X (λx H Q=>∃k,xR X.K x H k/\Q k H):=by
 intro E s M H x v Q I o h;obtain⟨k,e,q⟩:=h;have K:=oI;have L:Wb=16777216:=W6;cases x with
 |non=>cases o;have d:k=false:=e;subst d;exact truthy_none ⟨H,I,q⟩|bl b=>cases o;have d:k=b:=e;subst d;exact X8 ⟨H,I,q⟩|int i=>obtain⟨t,rfl⟩:=o;have d:k=(i != 0):=e;subst d;exact PySem.P.truthy_int ⟨H,I,q⟩|str y=>obtain⟨t,rfl⟩:=o;obtain⟨J,d⟩:y.length<=Wb/\k=((y.length:Int) != 0):=e;subst d;exact PySem.P.truthy_str (by omega) ⟨H,I.tok _,q⟩|byt y=>obtain⟨t,rfl⟩:=o;obtain⟨J,d⟩:y.size<=Wb/\k=((y.size:Int) != 0):=e;subst d;exact PySem.W.truthy_bytes (by omega) ⟨H,I.tok _,q⟩|ref p=>
  cases o;have d:(∃n,SqL X.K H p n/\k=!n.isEmpty)\/(∃n,SqT X.K H p n/\k=!n.isEmpty)\/∃j,H p=b4 (.dK j)/\k=!j.isEmpty:=e;rcases d with⟨n,u,d⟩|⟨n,u,d⟩|⟨j,u,d⟩
  ·subst d;obtain⟨z,r,A,B⟩:=I.list u;have l:=r.length;exact wpAny_truthy_list A.isList (by simp only[WA];omega) ⟨H,I.tok _,by rw[B8 r];exact q⟩
  ·subst d;obtain⟨z,r,A,B⟩:=I.tuple u;have l:=r.length;exact truthy_tuple A (by simp only[WA];omega) ⟨H,I.tok _,by rw[B8 r];exact q⟩
  ·subst d;obtain⟨B,G,w,r,m⟩:j.length<=Wb/\(p==Xs)=c6/\∃w,KV j w/\s.heap.DictOf (qT X.prog X.w) p w:=I.hok p _ u;have l:j.length=w.length:=a1O r;exact wpAny_truthy_dict G m (by omega) ⟨H,I.tok _,by rw[Jv r];exact q⟩
 |_=>exact(show False from e).elim
theorem Jx(n:PE X a ta)(o:∀d,a1Z a X.env d=(do let v <- d;a0b a.pos;holding [v] (truthy v))) :
  PT X a (λi H Q=>ta i H λx j=>∃k,xR X.K x j k/\Q k j):=by
 intro e s i H Q I h;exact isTrue_plain (aT (n e s i H _ I h) λv r ⟨x,l,m,q,p⟩=>Jw e r i l x v Q m q p) (o _)
theorem op_add_str:OpR X (YU .Add) (λx y H Q=>∃i j,x=.str i/\y=.str j/\i.length+j.length<=Wb/\Q (.str (i++j)) H):=by intro d s o H x y v u Q I k l h;obtain⟨i,j,rfl,rfl,e,q⟩:=h;obtain⟨t,rfl⟩:=k;obtain⟨m,rfl⟩:=l;exact add_str (λm n=>⟨.str (i++j),H,I.tok _,⟨_,rfl⟩,q⟩) e
theorem lQ{x:V}{us:List Value}(r:Vals [x] us):∃u,us=[u]/\RelV x u:=by
 cases r with
 |cons d e=>cases e;exact⟨_,rfl,d⟩
theorem xS{x y:V}{us:List Value}(r:Vals [x,y] us):∃u d,us=[u,d]/\RelV x u/\RelV y d:=by
 cases r with
 |cons e h=>
  cases h with
  |cons i j=>cases j;exact⟨_,_,rfl,e,i⟩
theorem Jy(hc:X.calm=c7):CallR X (.builtin "max") (λxs H Q=>∃i j,xs=[.int i,.int j]/\Q (.int (if j>i then j else i)) H):=by
 intro e s v H xs o Q I r h;obtain⟨i,j,rfl,q⟩:=h;obtain⟨u,p,rfl,⟨t,rfl⟩,⟨m,rfl⟩⟩:=xS r;refine max_two_ints (I.ok.hd hc) λl n k=>⟨_,H,I.kept k,?_,q⟩;by_cases d:j>i
 ·rw[if_pos d,if_pos d];exact⟨_,rfl⟩
 ·rw[if_neg d,if_neg d];exact⟨_,rfl⟩
theorem Jz(hc:X.calm=c7):CallR X (.builtin "min") (λxs H Q=>∃i j,xs=[.int i,.int j]/\Q (.int (if j<i then j else i)) H):=by
 intro e s v H xs o Q I r h;obtain⟨i,j,rfl,q⟩:=h;obtain⟨u,p,rfl,⟨t,rfl⟩,⟨m,rfl⟩⟩:=xS r;refine min_two_ints (I.ok.hd hc) λl n k=>⟨_,H,I.kept k,?_,q⟩;by_cases d:j<i
 ·rw[if_pos d,if_pos d];exact⟨_,rfl⟩
 ·rw[if_neg d,if_neg d];exact⟨_,rfl⟩
end
end L2
namespace L2
open PySem PySem.Spec PyProof.Rows
structure ObjM(h:Xo)(x dx C:Addr)(mA:Str->Option Value):Prop where
 obj:h.get? x=b4 (Yy C dx)
 ns:h.Ns1 dx mA
 ne:dx≠x
theorem JA{h:Xo}{c:Addr}{i:Str->Option Value}(n:h.Ns1 c i):∃j,h.get? c=b4 j/\∀name,a0f name j=b4 (i name):=by
 obtain⟨o,d,s,p,hd,l,_,m⟩:=n;refine⟨o,p,λname=>?_⟩;have e:=m name;unfold nsFind findBy at e;rw[<- Array.find?_toList]at e;unfold a0f;rw[hd];dsimp only;split
 ·rename_i y q;rw[q]at e;exact congrArg b4 e
 ·rename_i q;rw[q]at e;have a:d.toList.any (·.refKey)=false:=by rw[a0W];intro y r;obtain⟨z,t,b⟩:=l y (Array.mem_toList_iff.mp r);simp[DictEntry.refKey,b]
  have k:¬ d.toList.any (·.refKey)=true:=by rw[a];exact Wu
  rw[if_neg k];exact congrArg b4 e
theorem ObjM.look{h:Xo}{x b C:Addr}{c:Str->Option Value}(I:ObjM h x b C c):∃a,a0g h x (Yy C b) C (b4 a)/\∀name,a0f name a=b4 (c name):=
 let⟨a,e,d⟩:=JA I.ns
 ⟨a,⟨I.obj,rfl,rfl,e⟩,d⟩
section
variable{prog:Wv}{w:WO}{A:WJ}{E:Value->V1->Prop}{s:V1}{K:VU}{x dx C f:Addr}{mA:Str->Option Value}{name:Str}{v:Value}
theorem JB{a:Bool}{Q:Value->V1->Prop}(X:K.In s.heap)(I:ObjM s.heap x dx C mA)(d:Zm K C name=c7)(e:ZO K C=c7)
  (c:W5 K (.ref C) name=b4 c4)(j:mA name=b4 v)(b:a3a v=c7)(h:Q v {s with toks:=s.toks+1}) :
  Wm (WC prog w) A (getAttr (.ref x) name a) Q E s:=by
 obtain⟨k,J,i⟩:=I.look;exact PySem.W.get_value X J (a0m d).1 (PySem.W.findObj_own e c rfl (by rw[i,j])) b h
theorem JC{pl:a3x Bool}{Q:Value×List Value->V1->Prop}(X:K.In s.heap)(I:ObjM s.heap x dx C mA)(a:Zm K C name=c7)
  (b:W5 K (.ref C) name=b4 (b4 (.ref f)))(d:a0E K (.ref f)=c7)(e:mA name=c4)(h:Q (.ref f,[.ref x]) s) :
  Wm (WC prog w) A (a0l (.ref x) name pl) Q E s:=by
 obtain⟨i,J,c⟩:=I.look;exact PySem.W.method_fn X J (a0m a).1 (a0m a).2 b (beq_iff_eq.mp d) (by show(a0f name i).map (·.isSome)=b4 c6;rw[c,e];rfl) h
theorem JD{ns:List Str}{Q:Unit->V1->Prop}(X:K.In s.heap)(I:ObjM s.heap x dx C mA)
  (p:W5 K (.ref C) "__setattr__"=b4 (b4 (.builtin "object.__setattr__"))) (o:a0C K C=c7)(q:a1d K C name=b4 c4)(n:ZO K C=c7)
  (hw:a2o mA ns)(hsz:ns.length<=Wb)
  (h:∀d,ObjM d x dx C (λy=>if y=name then b4 v else mA y)->Yg dx s.heap d->Q () {s with heap:=d,toks:=s.toks+2}) :
  Wm (WC prog w) A (setAttr (.ref x) name v) Q E s:=by
 obtain⟨G,J,z⟩:=I.look;refine PySem.W.set_plain X J p (PySem.W.osa_open (s:={s with toks:=s.toks+1}) (r:=c4) X J o q λb=>?_);obtain⟨u,hc,i⟩:=PySem.W.any_some n;have r:s.heap.get? x=b4 ⟨.ref C,b4 dx,.plain,#[]⟩:=I.obj;refine VX (V7 (VX (VX (a5K r (VX (YV (s:={s with toks:=s.toks+1}) (PySem.W.looks_clsIn X hc) ?_))))));rw[i];refine V7 (a:=b4 dx) (VX (V7 (VX ?_)));refine wpAny_nsSet1 (s:={s with toks:=s.toks+1}) I.ns λd a c=>?_;obtain⟨B,m,l,k,j,e⟩:=a.count (a5q name v hw);refine VX (wpAny_lookBehind k (by rw[j];exact pastItsLine_dict (Xk e (by rw[Ww];omega))) ?_);exact V7 (h _ ⟨(c.2 _ (WL I.ne)).trans I.obj,a,I.ne⟩ c)
theorem B9{R:a2L->V1->Prop}{vs:List Value}{b:List (Str×Value)}(X:K.In s.heap)(i:a1e K C=c7)
  (e:W5 K (.ref C) "__init__"=b4 (b4 (.ref f))) (c:PySem.W.typeIn K (.ref f)=b4 (.type "function"))
  (h:ZI (WC prog w) (A.under (.builtin "type.__call__" ⟨.ref C::vs,b⟩)) (.call (.ref f) ⟨.ref (s.heap.objs.size+1)::vs,b⟩) (PySem.W.InitBack (s.heap.objs.size+1) R)
   {s with heap:=(s.heap.push X1).push (Yy C s.heap.objs.size)}) :
  ZI (WC prog w) A (.call (.ref C) ⟨vs,b⟩) R s:=by
 obtain⟨j,g,d,t,k⟩:=s;exact PySem.W.make_core (PySem.W.makes_of X i) (a0e X e) (λa=>PySem.W.bind_fn X a c) (.inl rfl) h
end
noncomputable def eI(f:Str)(v:V):List (Str×V)->List (Str×V)
 |[]=>[(f,v)]|(g,x)::r=>if g=f then(g,v)::r else(g,x)::eI f v r
theorem Cb(f g:Str)(v:V):∀fs:List (Str×V),(eI f v fs).lookup g=if g=f then b4 v else fs.lookup g
 |[]=>by
  show Yh g [(f,v)]=_;by_cases h:g=f
  ·have a:(g==f)=true:=beq_iff_eq.mpr h;simp only[Yh,a,if_pos h]
  ·have a:(g==f)=false:=beq_eq_false_iff_ne.mpr h;simp only[Yh,a,if_neg h]
 |(k,x)::r=>by
  have c:=Cb f g v r;rw[show eI f v ((k,x)::r)=(if k=f then(k,v)::r else(k,x)::eI f v r)from rfl];by_cases b:k=f
  ·rw[if_pos b];by_cases h:g=k
   ·have a:(g==k)=true:=beq_iff_eq.mpr h;simp only[Yh,a,if_pos (h.trans b)]
   ·have a:(g==k)=false:=beq_eq_false_iff_ne.mpr h;simp only[Yh,a,if_neg (λe:g=f=>h (e.trans b.symm))]
  ·rw[if_neg b];by_cases h:g=k
   ·have a:(g==k)=true:=beq_iff_eq.mpr h;simp only[Yh,a,if_neg (λe:g=f=>b (h.symm.trans e))]
   ·have a:(g==k)=false:=beq_eq_false_iff_ne.mpr h;simp only[Yh,a];exact c
theorem xT(f:Str)(v:V):∀fs:List (Str×V),f∈(eI f v fs).map (·.1)/\∀g,g∈fs.map (·.1)->g∈(eI f v fs).map (·.1)
 |[]=>⟨by simp[eI],λg h=>by simp at h⟩|(k,x)::r=>by
  obtain⟨b,c⟩:=xT f v r;rw[show eI f v ((k,x)::r)=(if k=f then(k,v)::r else(k,x)::eI f v r)from rfl];by_cases a:k=f
  ·rw[if_pos a];subst a;exact⟨by simp,λg h=>by simpa using h⟩
  ·rw[if_neg a];refine⟨?_,λg h=>?_⟩
   ·rw[We];exact Wq _ b
   ·rw[We]at h ⊢;rcases Wr.mp h with e|e
    ·exact Wr.mpr (.inl e)
    ·exact Wq _ (c g e)
theorem Cd(f:Str)(v:V):∀fs:List (Str×V),(eI f v fs).length<=fs.length+1
 |[]=>by simp[eI]
 |(k,x)::r=>by
  have b:=Cd f v r;rw[show eI f v ((k,x)::r)=(if k=f then(k,v)::r else(k,x)::eI f v r)from rfl];by_cases a:k=f
  ·rw[if_pos a,Ww,Ww];omega
  ·rw[if_neg a,Ww,Ww];omega
theorem RelO.some_of{v:V}{o:Option Value}(r:RelO (b4 v) o):∃u,o=b4 u/\RelV v u:=by
 cases o with
 |none=>exact(show False from r).elim|some u=>exact⟨u,rfl,r⟩
theorem RelO.none_of{o:Option Value}(r:RelO c4 o):o=none:=by
 cases o with
 |none=>rfl|some u=>exact(show False from r).elim
theorem JE{v:V}{u:Value}(r:RelV v u):a3a u=true:=by
 cases v with
 |non=>cases(show u=Xg from r);rfl|bl b=>cases(show u=Xx b from r);rfl|int i=>obtain⟨t,e⟩:=(show ∃t,u=X3 i t from r);cases e;rfl|str x=>obtain⟨t,e⟩:=(show ∃t,u=a1a x t from r);cases e;rfl|byt b=>obtain⟨t,e⟩:=(show ∃t,u=a4T b t from r);cases e;rfl|flt b=>obtain⟨t,e⟩:=(show ∃t,u=a4S b t from r);cases e;rfl|ref a=>cases(show u=Wg a from r);rfl|ty n=>cases(show u=Wc n from r);rfl
section
variable{P:Wv}{w:WO}{H H':Hp}{h h':Xo}{a C dx:Addr}{fs fs':List (Str×V)}
theorem xU(hok:HOk P w H h)(e:H a=b4 (.ins C dx fs)):∃b,ObjM h a dx C b/\(∀f,RelO (fs.lookup f) (b f))/\a2o b (fs.map (·.1))/\fs.length<=1000/\H dx=b4 (.own a):=by obtain⟨d,z,ne,c,b,n,r,q⟩:=(show ObjOk P w H h a (.ins C dx fs)from hok a _ e);exact⟨b,⟨c,n,ne⟩,r,q,z,d⟩
end
structure Cls(K:VU)(C:Addr):Prop where
 pg:Zm K C Str.empty=c7
 hd:ZO K C=c7
 po:a0C K C=c7
 sa:W5 K (.ref C) "__setattr__"=b4 (b4 (.builtin "object.__setattr__"))
theorem Cls.get{K:VU}{C:Addr}(c:Cls K C)(f:Str):Zm K C f=true:=c.pg
noncomputable def NoAttr(K:VU)(C:Addr)(f:Str):Prop:=W5 K (.ref C) f=b4 c4
theorem NoAttr.taker{K:VU}{C:Addr}{f:Str}(n:NoAttr K C f):a1d K C f=b4 none:=by unfold a1d;rw[show W5 K (.ref C) f=b4 c4 from n];rfl
structure Con(K:VU)(C:Addr)(f:Str)(v:V)(u:Value):Prop where
 at_:W5 K (.ref C) f=b4 (b4 u)
 rel:RelV v u
 get:ZN K u "__get__"=b4 c4
 cp:PySem.W.copiedNames.contains f=c6
structure Meth(K:VU)(C:Addr)(m:Str)(f:Addr):Prop where
 at_:W5 K (.ref C) m=b4 (b4 (.ref f))
 fn:a0E K (.ref f)=c7
 kp:Xe K (.ref f)=c7
section
variable{X:Cx}{a5T:List (Addr×Obj)}{σ:St}{H:Hp}{s:V1}{a C dx:Addr}{fs:List (Str×V)}{f:Str}{v:V}{A:WJ}{E:Value->V1->Prop}
theorem JF{b:Bool}{Q:Value->V1->Prop}(I:Inv X a5T σ H s)(e:H a=b4 (.ins C dx fs))(c:Cls X.K C)(n:NoAttr X.K C f)(l:fs.lookup f=b4 v)
  (h:∀u i,Inv X a5T σ H i->RelV v u->Q u i):Wm (WC X.prog X.w) A (getAttr (.ref a) f b) Q E s:=by
 obtain⟨k,O,r,_,_,_⟩:=xU I.hok e;obtain⟨u,j,d⟩:=RelO.some_of (v:=v) (o:=k f) (by rw[<- l];exact r f);exact JB I.kIn O (c.get f) c.hd n j (JE d) (h u _ (I.tok _) d)
theorem m9{m:Str}{g:Addr}{pl:a3x Bool}{Q:Value×List Value->V1->Prop}(I:Inv X a5T σ H s)(e:H a=b4 (.ins C dx fs))(c:Cls X.K C)(k:Meth X.K C m g)(l:fs.lookup m=c4)
  (h:Q (.ref g,[.ref a]) s):Wm (WC X.prog X.w) A (a0l (.ref a) m pl) Q E s:=by
 obtain⟨d,O,r,_,_,_⟩:=xU I.hok e;have b:d m=none:=RelO.none_of (by rw[<- l];exact r m);exact JC I.kIn O (c.get m) k.at_ k.fn b h
theorem JG{y:V}{u:Value}{Q:Unit->V1->Prop}(I:Inv X a5T σ H s)(e:H a=b4 (.ins C dx fs))(c:Cls X.K C)(n:NoAttr X.K C f)(K:fs.length<1000)(G:RelV y u)
  (h:∀k,Inv X a5T σ (upd H a (.ins C dx (eI f y fs))) k->Q () k):Wm (WC X.prog X.w) A (setAttr (.ref a) f u) Q E s:=by
 obtain⟨j,O,r,l,_,i⟩:=xU I.hok e;have B:(fs.map (·.1)).length<=Wb:=by rw[V0,W6];omega
 refine JD I.kIn O c.sa c.po n.taker c.hd l B λp d J=>h _ ?_;have hd:∃o,p.get? dx=b4 o:=let⟨o,_,_,m,_⟩:=d.ns;⟨o,m⟩;refine I.write (x:=a) (e:=dx) (by rw[e];exact YC) (.inr i) (λb q w z=>(J.2 b w).trans z) hd ?_;refine⟨by rw[bG O.ne];exact i,?_,O.ne,d.obj,_,d.ns,λg=>?_,λg x=>?_⟩
 ·have:=Cd f y fs;omega
 ·show RelO ((eI f y fs).lookup g) (if g=f then b4 u else j g);rw[Cb];by_cases q:g=f
  ·rw[if_pos q,if_pos q];exact G
  ·rw[if_neg q,if_neg q];exact r g
 ·by_cases q:g=f
  ·rw[q];exact(xT f y fs).1
  ·refine(xT f y fs).2 g (l g λz=>x ?_);show(if g=f then b4 u else j g)=c4;rw[if_neg q];exact z
theorem Inv.made(I:Inv X a5T σ H s):Inv X a5T σ (upd (upd H s.heap.objs.size (.own (s.heap.objs.size+1))) (s.heap.objs.size+1) (.ins C s.heap.objs.size []))
  {s with heap:=(s.heap.push X1).push (Yy C s.heap.objs.size)}:=by
 have c:(s.heap.push X1).get? s.heap.objs.size=b4 X1:=Ws s.heap rfl;have h:((s.heap.push X1).push (Yy C s.heap.objs.size)).get? (s.heap.objs.size+1)=b4 (Yy C s.heap.objs.size):=by have:=Ws (s.heap.push X1) (o:=Yy C s.heap.objs.size) rfl;rwa [a4s]at this
 have i:(s.heap.push X1).Ns s.heap.objs.size (λ_=>c4):=⟨X1,#[],_,c,rfl,(λe j=>absurd j (by simp)),λ_=>rfl⟩;have d:=I.laid (a:=s.heap.objs.size) (o:=.own (s.heap.objs.size+1)) (h':=s.heap.push X1) (t':=s.toks) (λb u q=>V8 _ q) (Wa _) ⟨_,c⟩;refine d.laid (a:=s.heap.objs.size+1) (o:=.ins C s.heap.objs.size []) (t':=s.toks) (λb u q=>V8 _ q) (a1h (a4s _ _)) ?_;have ne:s.heap.objs.size≠s.heap.objs.size+1:=WB (XT _);refine⟨by rw[bG ne,dG],W7 _,ne,h,λ_=>c4,(Heap.Ns1.of_empty i).at λo q=>V8 _ q,λ_=>YC,λy k=>absurd rfl k⟩
theorem JH{prog:Wv}{w:WO}{env:ZS}{e:Expr}{f:Str}{pos:XD}{s:V1}{Q:Value->V1->Prop}(c:Yx e f env (eval e env)=eval e env)
  (h:Wm (WC prog w) A (eval e env) (λo b=>Wm (WC prog w) A (getAttr o f c7) Q E b) E s):Wm (WC prog w) A (eval (.Attribute e f pos) env) Q E s:=
 Attribute_any_ h (by rw[arm_eval_Attribute,c])
end
noncomputable def JI(K:VU)(d:TE)(f:Str):TE:=λσ H Q=>d σ H λx b=>∃a C c fs v,x=.ref a/\b a=b4 (.ins C c fs)/\Cls K C/\NoAttr K C f/\fs.lookup f=b4 v/\Q v b
noncomputable def JJ(K:VU)(e h:TE)(f:Str):TS:=λD σ H=>h σ H λy d=>e σ d λx b=>∃a C c fs,x=.ref a/\b a=b4 (.ins C c fs)/\Cls K C/\NoAttr K C f/\fs.length<1000 /\
 D.nx σ (upd b a (.ins C c (eI f y fs)))
section
variable{X:Cx}{o e value:Expr}{f:Str}{pos pos' tpos:XD}{ta tv:TE}
theorem JK(r:PE X e ta)(p:Yx e f X.env (eval e X.env)=eval e X.env):PE X (.Attribute e f pos) (JI X.K ta f):=by intro b s z H Q I h;refine JH p (aT (r b s z H _ I h) λu B ⟨x,d,i,y,a,C,A,fs,v,m,k,c,n,l,q⟩=>?_);subst m;obtain rfl:u=Wg a:=y;exact JF i k c n l λG E j w=>⟨v,d,j,w,q⟩
theorem JL(v:PE X o ta)(z:PE X value tv)(w:ZF value (b4 (.Attribute o f pos')) pos.line X.env=pure c6):PS X (.Assign [.Attribute o f pos'] value pos) (JJ X.K ta tv f):=by intro b s d H D I h;refine plainObj_wpAny_Assign_Attribute (aT (z b s d H _ I h) λu J ⟨y,i,j,G,q⟩=>aT (v b J d i _ j q) λA M ⟨x,K,k,E,a,C,L,fs,r,p,c,n,l,B⟩=>?_) w;subst r;obtain rfl:A=Wg a:=E;exact JG k p c n l G λN m=>⟨d,_,m,B⟩
end
section
variable{X:Cx}{a5T:List (Addr×Obj)}{σ:St}{H:Hp}{s:V1}{A:WJ}{E:Value->V1->Prop}{Q:Value->V1->Prop}{c:Value}{b:Bool}
inductive TyOf (K:VU)(H:Hp):V->Value->Prop where
 |non:TyOf K H .non (.type "NoneType")
 |bl (x:Bool):TyOf K H (.bl x) (.type "bool")
 |int (i:Int):TyOf K H (.int i) (.type "int")
 |str (x:Str):TyOf K H (.str x) (.type "str")
 |flt (x:UInt64):TyOf K H (.flt x) (.type "float")
 |lst {a:Addr}{xs:List V}(e:H a=b4 (.lst xs)):TyOf K H (.ref a) (.type "list")
 |frz {a:Addr}{o:Obj}{xs:List V}(e:H a=b4 (.frz o (.lst xs))):TyOf K H (.ref a) (.type "list")
 |tup {a:Addr}{xs:List V}(e:H a=b4 (.tup xs)):TyOf K H (.ref a) (.type "tuple")
 |dK {a:Addr}{kvs:List (bS×V)}(e:H a=b4 (.dK kvs)):TyOf K H (.ref a) (.type "dict")
 |dT {a:Addr}{kvs:List (List bS×V)}(e:H a=b4 (.dT kvs)):TyOf K H (.ref a) (.type "dict")
 |ins {a C dx:Addr}{fs:List (Str×V)}(e:H a=b4 (.ins C dx fs))(cl:Cls K C)(ha:W5 K (.ref C) "__class__"=b4 (b4 (.builtin "object.__class__")))
   (hn:ZN K (.builtin "object.__class__") "__get__"=b4 (b4 (.builtin "getset_descriptor.__get__"))) (htk:a3l K (.builtin "object.__class__")=b4 c7)
   (hm:a3S K C (.type "object")=b4 c7):TyOf K H (.ref a) (.ref C)
end
end L2
namespace L2
open PySem PySem.Spec PyProof.Rows
structure Room(k:Nat)(A:WJ):Prop where
 hd:A.handled=c4
 dp:A.depth+3*k+5<Z2
 un:A.units+16*k+200<Yt
theorem Room.deeper{k:Nat}{A:WJ}(r:Room (k+1) A)(env:ZS):Room k (A.deeper env):=
 ⟨r.hd,by have:=r.dp;show A.depth+1+3*k+5<_;omega,by have:=r.un;show A.units+3+16*k+200<_;omega⟩
theorem JM{A:WJ}{C:Addr}{us:List Value}{a:List (Str×Value)}:(A.under (.builtin "type.__call__" ⟨.ref C::us,a⟩)).depth=A.depth+1:=by first|rfl|simp[a2n,Code.weight,Code.isCreation,Code.isGuard,Code.isCaller,a5j,a2B,guardIds]
theorem JN{A:WJ}{C:Addr}{us:List Value}{a:List (Str×Value)}:(A.under (.builtin "type.__call__" ⟨.ref C::us,a⟩)).units=A.units+1:=by first|rfl|simp[a2n,Code.cUnits,a5j,a2B]
theorem Room.make{k:Nat}{A:WJ}(r:Room (k+1) A)(C:Addr)(us:List Value)(a:List (Str×Value)):Room k (A.under (.builtin "type.__call__" ⟨.ref C::us,a⟩)):=
 ⟨r.hd,by have:=r.dp;rw[JM];omega,by have:=r.un;rw[JN];omega⟩
theorem Room.depth{k:Nat}{A:WJ}(r:Room k A):A.depth<Z2:=by have:=r.dp;omega
theorem Room.units{k:Nat}{A:WJ}(r:Room k A):A.units+64<Yt:=by have:=r.un;omega
noncomputable def oJ:TA:=λ_ H Q=>Q [] H
noncomputable def q0(c:TE)(tr:TA):TA:=λσ H Q=>c σ H λx a=>tr σ a λxs b=>Q (x::xs) b
section
variable{X:Cx}{e:Expr}{es:List Expr}{te:TE}{t:TA}{pos:XD}
theorem xV:PA X [] oJ:=λ_ _ _ _ H Q I h=>a3r ⟨[],H,I,.nil,h⟩
theorem xW(k:PE X e te)(l:PA X es t)(m:Wn (e::es) X.env=(c6,eval e X.env)::Wn es X.env:=by rfl):PA X (e::es) (q0 te t):=by intro pos a s b H Q I h;rw[m];show Wm _ _ (a4N ((c6,eval e X.env)::XM pos (Wn es X.env))) _ _ s;refine a3g (aT (k a s b H _ I h) λu r ⟨x,c,i,p,n⟩=>?_);exact aT (l pos a r b c _ i n) λy w ⟨v,d,j,q,o⟩=>⟨x::v,d,j,.cons p q,o⟩
noncomputable def JO(t:TA):TE:=λσ H Q=>t σ H λxs a=>xs.length<=Wb/\∀p,a p=c4->Q (.ref p) (upd a p (.tup xs))
noncomputable def JP(t:TA):TE:=λσ H Q=>t σ H λxs a=>xs.length<=Wb/\∀p,a p=c4->Q (.ref p) (upd a p (.lst xs))
theorem JQ{x1} (h:PA X es t):PE X (.Tuple es x1 pos) (JO t):=by intro c s n H Q I k;refine wpAny_Tuple_spliced (aT (h pos c s n H _ I k) λl a ⟨m,d,i,r,z,q⟩=>⟨by rw[<- r.length];exact z,?_⟩);have j:d a.heap.objs.size=none:=i.hok.fresh (Wa _);refine⟨.ref a.heap.objs.size,upd d a.heap.objs.size (.tup m),i.laid (t':=a.toks) (λb u e=>V8 _ e) (Wa _) ?_,rfl,q _ j⟩;exact⟨z,l,r,⟨_,Ws _ rfl,rfl,_,rfl,rfl⟩⟩
theorem JR(h:PA X es t):PE X (.List es pos) (JP t):=by intro c s n H Q I k;refine a4x (aT (h pos c s n H _ I k) λl a ⟨m,d,i,r,z,q⟩=>⟨by rw[<- r.length];exact z,?_⟩);have j:d a.heap.objs.size=none:=i.hok.fresh (Wa _);refine⟨.ref a.heap.objs.size,upd d a.heap.objs.size (.lst m),i.laid (t':=a.toks) (λb u e=>V8 _ e) (Wa _) ?_,rfl,q _ j⟩;exact⟨z,l,0,r,Ws _ rfl⟩
end
noncomputable abbrev Sp:=List V->Hp->VK->XK->Prop
noncomputable abbrev gU:=List ZS->Hp->V1->XK->Value->V1->Prop
structure Env0(P:Wv)(w:WO)(K:VU)(mg:Str->Option Value)(base:Xo)(A:WJ)(outer:List ZS)(s:V1)(H:Hp):Prop where
 frames:A.frames=b4 outer
 mod:Mod K mg base
 bs:∀b o,base.get? b=b4 o->s.heap.get? b=b4 o/\H b=c4
 bsz:base.objs.size<=s.heap.objs.size
 funs:s.heap.FunFrames base outer
 frf:∀b∈dS outer,H b=c4
 hok:HOk P w H s.heap
 bare:a0d s.gens
noncomputable def CE(outer:List ZS)(P:Wv)(w:WO)(H:Hp)(s:V1)(Q:VK)(u:Value)(a:V1):Prop:=
 ∃v b,a.os=s.os/\a0d a.gens/\Un (dS outer) [] H b s.heap a.heap/\HOk P w b a.heap/\RelV v u/\Q v b
noncomputable def CR(CX:gU)(outer:List ZS)(P:Wv)(w:WO)(H:Hp)(s:V1)(Q:VK)(E:XK)(r:a2L)(a:V1):Prop:=
 match r with
 |.ok (.ret u)=>CE outer P w H s Q u a|.ok _=>False|.error e=>CX outer H s E e a
structure FnOk(P:Wv)(w:WO)(K:VU)(mg:Str->Option Value)(base:Xo)(CX:gU)(k:Nat)(f:Addr)(fd:W8)(ps:List Str)(sp:Sp):Prop where
 len:∀vs H Q E,sp vs H Q E->vs.length=ps.length
 run:∀(A:WJ)(outer:List ZS)(s:V1)(H:Hp)(args:Args)(us:List Value)(vs:List V)(Q:VK)(E:XK),Room k A->Env0 P w K mg base A outer s H->a0Y s fd args (ps.zip us)->Vals vs us->sp vs H Q E->
  ZI (WC P w) A (.call (.ref f) args) (CR CX outer P w H s Q E) s
theorem Env0.make{P:Wv}{w:WO}{K:VU}{a:Str->Option Value}{base:Xo}{A:WJ}{outer:List ZS}{s:V1}{H:Hp}(e:Env0 P w K a base A outer s H)(C:Addr)(us:List Value)(b:List (Str×Value)) :
  Env0 P w K a base (A.under (.builtin "type.__call__" ⟨.ref C::us,b⟩)) outer s H:=⟨by first|exact e.frames|(simpa[a2n,Code.envs,a2B,pushEnvs]using e.frames),e.mod,e.bs,e.bsz,e.funs,e.frf,e.hok,e.bare⟩
section
variable{X:Cx}{a5T:List (Addr×Obj)}{σ:St}{H:Hp}{s s':V1}
theorem Inv.env0(I:Inv X a5T σ H s):Env0 X.prog X.w X.K X.mg X.base X.A X.stack s H:=
 ⟨I.ok.frames,I.ok.mod,I.bs,Xk I.ok.bsz I.sz,I.stack,I.stkFree,I.hok,I.bare⟩
theorem Inv.after{Q:VK}{u:Value}(I:Inv X a5T σ H s)(h:CE X.stack X.prog X.w H s Q u s'):EP X a5T σ Q u s':=by obtain⟨v,e,j,a,un,hok,r,q⟩:=h;obtain⟨i,g,d,t,c⟩:=s';obtain rfl:c=s.os:=j;exact⟨v,e,I.call (h':=i) (g':=g) (d':=d) (t':=t) (ch:=[]) un hok a (λb z=>absurd z (by simp)),r,q⟩
end
noncomputable def t8(sp:Sp)(a:List V)(E:XK)(t:TA):TE:=λσ H Q=>t σ H λvs b=>sp (vs++a) b Q E
noncomputable def t9(C:Addr)(m:Str)(sp:Sp)(b:List V)(E:XK)(h:TE)(t:TA):TE:=λσ H Q=>h σ H λx c=>∃a e fs,x=.ref a/\c a=b4 (.ins C e fs)/\fs.lookup m=c4 /\
 t σ c λi d=>sp (x::(i++b)) d Q E
noncomputable def Ce(C:Addr)(sp:Sp)(c:List V)(E:XK)(t:TA):TE:=λσ H Q=>t σ H λvs b=>∀x a,b x=c4->b a=c4->a≠x->
 sp (.ref x::(vs++c)) (upd (upd b a (.own x)) x (.ins C a [])) (λv d=>v=.non/\Q (.ref x) d) E
noncomputable def Binds(K:VU)(a:W8)(ps:List Str)(ds:List Value):Prop:=
 ∀(s:V1)(us:List Value),K.In s.heap->(us++ds).length=ps.length->a0Y s a ⟨us,[]⟩ (ps.zip (us++ds))
theorem Binds.all{K:VU}{a:W8}{ps:List Str}(h:∀us:List Value,us.length=ps.length->a0P a ⟨us,[]⟩=pure (ps.zip us)):Binds K a ps []:=λs us _ b=>by rw[W4]at b ⊢;exact .of_eq (h us b)
noncomputable def jM(CX:gU)(X:Cx)(E:XK):Prop:=∀(a5T:List (Addr×Obj))(σ:St)(H:Hp)(s:V1)(e:Value)(a:V1),Inv X a5T σ H s->CX X.stack H s E e a->X.xe e a
section
variable{X:Cx}{CX:gU}{k:Nat}{f C:Addr}{fd:W8}{ps:List Str}{sp:Sp}{dvs:List V}{ds:List Value}{E:XK}{x m:Str}{p pos apos:XD}{e o:Expr}{es:List Expr}{ta:TE}{t:TA}
theorem uA{a5T:List (Addr×Obj)}{σ:St}{H:Hp}{s:V1}{Q:VK}{us:List Value}{vs:List V}(F:FnOk X.prog X.w X.K X.mg X.base CX k f fd ps sp)(j:Room k X.A)(d:Binds X.K fd ps ds)(hd:Vals dvs ds)(l:jM CX X E)
  (I:Inv X a5T σ H s)(r:Vals vs us)(h:sp (vs++dvs) H Q E):Wm (WC X.prog X.w) X.A (call (.ref f) us) (EP X a5T σ Q) X.xe s:=by
 have b:Vals (vs++dvs) (us++ds):=r.append hd;have i:(us++ds).length=ps.length:=by rw[<- b.length];exact F.len _ _ _ _ h
 refine Y3 (Yv (F.run X.A X.stack s H ⟨us,[]⟩ (us++ds) (vs++dvs) Q E j I.env0 (d s us I.kIn i) b h) λr n a=>?_);cases r with
 |error e=>exact l a5T σ H s e n I a|ok c=>
  cases c with
  |ret u=>exact I.after a|next=>exact Wo a|brk=>exact Wo a|cont=>exact Wo a
theorem JS(F:FnOk X.prog X.w X.K X.mg X.base CX k f fd ps sp)(w:Room k X.A)(n:Gl X x)(v:X.mg x=b4 (.ref f))(u:Xe X.K (.ref f)=c7)(j:Binds X.K fd ps ds)(hd:Vals dvs ds)(y:jM CX X E)
  (i:PA X (e::es) t)(b:(x==("__debug__":Str))=false:=by decide) (l:Wn (e::es) X.env=(c6,eval e X.env)::Wn es X.env:=by rfl)(c:(XM pos (Wn es X.env)).any (·.1)=false:=by rfl) :
  PE X (.Call (.Name x p) (e::es) [] pos) (t8 sp dvs E t):=by
 intro a s z H Q I h;refine XG (jK I n v ?_ b);refine Yb (h₀:=X.base) I.ok.mod.kin u (aT (i pos a s z H _ I h) λG B ⟨J,A,d,r,q⟩=>⟨d.kIn,?_⟩) l c;exact uA F w j hd y d r q
theorem JT(F:FnOk X.prog X.w X.K X.mg X.base CX k f fd ps sp)(l:Room k X.A)(d:Gl X x)(j:X.mg x=b4 (.ref f))(i:Xe X.K (.ref f)=c7)(c:Binds X.K fd ps ds)(hd:Vals dvs ds)(n:jM CX X E)
  (a:(x==("__debug__":Str))=false:=by decide):PE X (.Call (.Name x p) [] [] pos) (t8 sp dvs E oJ):=by
 intro b s q H Q I h;refine XG (jK I d j ?_ a);exact a0n I.kIn i (uA (us:=[]) F l c hd n I .nil h)
theorem Cf {pl:a3x Bool}(K:PE X o ta)(c:Cls X.K C)(v:Meth X.K C m f)(F:FnOk X.prog X.w X.K X.mg X.base CX k f fd ps sp)(L:Room k X.A)(J:Binds X.K fd ps ds)(hd:Vals dvs ds)(N:jM CX X E)(G:PA X (e::es) t)
  (i:Wn (e::es) X.env=(c6,eval e X.env)::Wn es X.env:=by rfl)(d:(XM pos (Wn es X.env)).any (·.1)=false:=by rfl)
  (M:eval (.Call (.Attribute o m apos) (e::es) [] pos) X.env=(do
   let w <- eval o X.env
   a0b apos.atName
   let (f,first) <- holding [w] (a0l w m pl)
   a2H pos f first (XM pos (Wn (e::es) X.env)) (Yu pos (XJ [] X.env))):=by rfl) :
  PE X (.Call (.Attribute o m apos) (e::es) [] pos) (t9 C m sp dvs E ta t):=by
 intro b s y H Q I h
 refine X7 (pl:=pl) (aT (K b s y H _ I h) fun u T ⟨x,z,j,R,a,dx,fs,B,A,l,q⟩=>?_) M
 subst B
 obtain rfl:u=Wg a:=R
 refine m9 j A c v l ?_
 refine Yb (first:=[.ref a]) (h₀:=X.base) I.ok.mod.kin v.kp (aT (G pos b T y z _ j q) fun U s2 ⟨Y,Z,n,r,O⟩=>⟨n.kIn,?_⟩) i d
 exact uA (us:=.ref a::U) (vs:=.ref a::Y) F L J hd N n (.cons rfl r) O
theorem JU {pl:a3x Bool}(w:PE X o ta)(c:Cls X.K C)(i:Meth X.K C m f)(F:FnOk X.prog X.w X.K X.mg X.base CX k f fd ps sp)(y:Room k X.A)(v:Binds X.K fd ps ds)(hd:Vals dvs ds)(A:jM CX X E)
  (z:eval (.Call (.Attribute o m apos) [] [] pos) X.env=(do
   let j <- eval o X.env
   a0b apos.atName
   let (f,first) <- holding [j] (a0l j m pl)
   a2H pos f first (XM pos (Wn [] X.env)) (Yu pos (XJ [] X.env))):=by rfl) :
  PE X (.Call (.Attribute o m apos) [] [] pos) (t9 C m sp dvs E ta oJ):=by
 intro d s G H Q I h
 refine X7 (pl:=pl) (aT (w d s G H _ I h) fun u L ⟨x,J,b,B,a,K,fs,r,n,l,q⟩=>?_) z
 subst r
 obtain rfl:u=Wg a:=B
 refine m9 b n c i l ?_
 exact a0n (first:=[.ref a]) b.kIn i.kp (uA (us:=[.ref a]) (vs:=[.ref a]) F y v hd A b (.cons rfl .nil) q)
structure Mk(K:VU)(C f:Addr):Prop where
 makes:a1e K C=c7
 init:W5 K (.ref C) "__init__"=b4 (b4 (.ref f))
 fn:a0E K (.ref f)=c7
 kp:Xe K (.ref C)=c7
theorem JV{a5T:List (Addr×Obj)}{σ:St}{H:Hp}{s:V1}{Q:VK}{us:List Value}{vs:List V}(M:Mk X.K C f)(F:FnOk X.prog X.w X.K X.mg X.base CX k f fd ps sp)(A:Room (k+1) X.A)(y:Binds X.K fd ps ds)(hd:Vals dvs ds)
  (B:jM CX X E)(I:Inv X a5T σ H s)(r:Vals vs us)
  (h:∀x c,H x=c4->H c=c4->c≠x->sp (.ref x::(vs++dvs)) (upd (upd H c (.own x)) x (.ins C c [])) (λv l=>v=.non/\Q (.ref x) l) E) :
  Wm (WC X.prog X.w) X.A (call (.ref C) us) (EP X a5T σ Q) X.xe s:=by
 have d:=h (s.heap.objs.size+1) s.heap.objs.size (I.hok.fresh (a3b _)) (I.hok.fresh (Wa _)) (WB (XT _));have b:=Inv.made (C:=C) I;have i:Vals (V.ref (s.heap.objs.size+1)::(vs++dvs)) (Wg (s.heap.objs.size+1)::(us++ds)):=.cons rfl (r.append hd);have z:(Wg (s.heap.objs.size+1)::us++ds).length=ps.length:=by have e:=i.length;rw[F.len _ _ _ _ d]at e;exact e.symm
 refine Y3 (B9 (f:=f) I.kIn M.makes M.init (beq_iff_eq.mp M.fn) (Yv (F.run _ X.stack _ _ ⟨Wg (s.heap.objs.size+1)::us,[]⟩ (Wg (s.heap.objs.size+1)::(us++ds)) _ _ E (A.make C us [])
  (b.env0.make C us []) (y _ (Wg (s.heap.objs.size+1)::us) b.kIn z) i d) λr K a=>?_))
 cases r with
 |error e=>exact B a5T σ _ _ e K b a|ok w=>
  cases w with
  |ret u=>obtain⟨v,j,n,J,q,G⟩:=b.after a;subst q;exact⟨J,⟨V.ref (s.heap.objs.size+1),j,n,rfl,G⟩⟩|next=>exact Wo a|brk=>exact Wo a|cont=>exact Wo a
theorem JW(M:Mk X.K C f)(F:FnOk X.prog X.w X.K X.mg X.base CX k f fd ps sp)(v:Room (k+1) X.A)(n:Gl X x)(u:X.mg x=b4 (.ref C))(j:Binds X.K fd ps ds)(hd:Vals dvs ds)(w:jM CX X E)
  (i:PA X (e::es) t)(b:(x==("__debug__":Str))=false:=by decide) (l:Wn (e::es) X.env=(c6,eval e X.env)::Wn es X.env:=by rfl)(c:(XM pos (Wn es X.env)).any (·.1)=false:=by rfl) :
  PE X (.Call (.Name x p) (e::es) [] pos) (Ce C sp dvs E t):=by
 intro a s y H Q I h;refine XG (jK I n u ?_ b);refine Yb (h₀:=X.base) I.ok.mod.kin M.kp (aT (i pos a s y H _ I h) λB A ⟨G,z,d,r,q⟩=>⟨d.kIn,?_⟩) l c;exact JV M F v j hd w d r q
end
noncomputable def PK(X:Cx)(a:List YE)(t:TA):Prop:=
 ∀(pos:XD)(a5T:List (Addr×Obj))(s:V1)(σ:St)(H:Hp)(Q:List V->Hp->Prop),Inv X a5T σ H s->t σ H Q->Wm (WC X.prog X.w) X.A (evalAll ((Yu pos (XJ a X.env)).map (·.2))) (AP X a5T σ Q) X.xe s
section
variable{X:Cx}{CX:gU}{k:Nat}{f C:Addr}{fd:W8}{ps ks:List Str}{sp:Sp}{E:XK}{x m:Str}{p pos apos kpos:XD}{e o:Expr}{es:List Expr}{kws:List YE}{te ta:TE}{t tk:TA}{nm:Option Str}
theorem Cg:PK X [] oJ:=λ_ _ _ _ H Q I h=>wpAny_evalAll_nil ⟨[],H,I,.nil,h⟩
theorem uB(l:PE X e te)(n:PK X kws t):PK X (⟨nm,e,kpos⟩::kws) (q0 te t):=by intro pos a s b H Q I h;show Wm _ _ (evalAll ((do let v <- eval e X.env;a0b pos;pure v)::(Yu pos (XJ kws X.env)).map (·.2))) _ _ s;refine wpAny_evalAll_cons (VX (aT (l a s b H _ I h) λu z ⟨x,c,i,w,q⟩=>VX (a1j (V7 ?_))));exact aT (n pos a z b c _ i q) λG B ⟨A,d,j,y,r⟩=>⟨x::A,d,j,.cons w y,r⟩
structure KBinds(K:VU)(fd:W8)(ps ks:List Str)(g:List Value->List Value->List Value)(gV:List V->List V->List V):Prop where
 to:∀(s:V1)(us ws:List Value),K.In s.heap->(g us ws).length=ps.length->a0Y s fd ⟨us,ks.zip ws⟩ (ps.zip (g us ws))
 rel:∀{vs:List V}{us:List Value}{zs:List V}{ws:List Value},Vals vs us->Vals zs ws->Vals (gV vs zs) (g us ws)
variable{g:List Value->List Value->List Value}{gV:List V->List V->List V}
theorem JX{a5T:List (Addr×Obj)}{σ:St}{H:Hp}{s:V1}{Q:VK}{us ws:List Value}{vs zs:List V}(F:FnOk X.prog X.w X.K X.mg X.base CX k f fd ps sp)(j:Room k X.A)(b:KBinds X.K fd ps ks g gV)(l:jM CX X E)
  (I:Inv X a5T σ H s)(r:Vals vs us)(rz:Vals zs ws)(h:sp (gV vs zs) H Q E):Wm (WC X.prog X.w) X.A (call (.ref f) us (ks.zip ws)) (EP X a5T σ Q) X.xe s:=by
 have c:=b.rel r rz;have i:(g us ws).length=ps.length:=by rw[<- c.length];exact F.len _ _ _ _ h
 refine Y3 (Yv (F.run X.A X.stack s H ⟨us,ks.zip ws⟩ (g us ws) (gV vs zs) Q E j I.env0 (b.to s us ws I.kIn i) c h) λr n a=>?_);cases r with
 |error e=>exact l a5T σ H s e n I a|ok d=>
  cases d with
  |ret u=>exact I.after a|next=>exact Wo a|brk=>exact Wo a|cont=>exact Wo a
end
structure FnScope(N P:List Str)(sc:Yl):Prop where
 kind:sc.kind=.function
 co:sc.isCoroutine=c6
 gen:sc.isGenerator=c6
 nd:N.Nodup
 pre:N.take P.length=P
 par:∀x∈P,sc.names.lookup x=b4 .local\/sc.names.lookup x=b4 .cell
 nofree:∀y∈sc.names,y.2≠.free
theorem Ci{kindOf:Str->Option YD}{x:Str}:∀{a:List (Str×Value)}{m:Str->Option Value},(∀v,(x,v)∉a)->a2I kindOf a m x=m x
 |[],_,_=>rfl|(n,v)::r,m,h=>by
  unfold a2I;rw[Ci λw hw=>h w (Wq _ hw)];split
  ·have:x≠n:=by rintro rfl;exact h v WU
   simp[this]
  ·rfl
theorem Cj{kindOf:Str->Option YD}{x:Str}:∀{a:List (Str×Value)}{m:Str->Option Value},(∀v,(x,v)∉a)->a2J kindOf a m x=m x
 |[],_,_=>rfl|(n,v)::r,m,h=>by
  unfold a2J;rw[Cj λw hw=>h w (Wq _ hw)];split
  ·rfl
  ·have:x≠n:=by rintro rfl;exact h v WU
   simp[this]
theorem Ck{kindOf:Str->Option YD}{x:Str}{v:Value}:∀{P:List Str}{vs:List Value}{i:Nat}{m:Str->Option Value},P.Nodup->P[i]?=b4 x->vs[i]?=b4 v->kindOf x=b4 .local->
  a2I kindOf (P.zip vs) m x=b4 v
 |[],_,_,_,_,h,_,_=>by simp at h
 |_::_,[],_,_,_,_,h,_=>by simp at h
 |p::P,w::vs,0,m,nd,h1,h2,hk=>by simp at h1 h2;subst h1;subst h2;show a2I kindOf ((p,w)::P.zip vs) m p=_;unfold a2I;rw[Ci λv a=>(XO.mp nd).1 (a0i a).1,if_pos hk];simp
 |p::P,w::vs,i+1,m,nd,h1,h2,hk=>by show a2I kindOf ((p,w)::P.zip vs) m x=_;unfold a2I;exact Ck (i:=i) (XO.mp nd).2 (by simpa using h1) (by simpa using h2) hk
theorem Cm{kindOf:Str->Option YD}{x:Str}{v:Value}:∀{P:List Str}{vs:List Value}{i:Nat}{m:Str->Option Value},P.Nodup->P[i]?=b4 x->vs[i]?=b4 v->kindOf x≠b4 .local->
  a2J kindOf (P.zip vs) m x=b4 v
 |[],_,_,_,_,h,_,_=>by simp at h
 |_::_,[],_,_,_,_,h,_=>by simp at h
 |p::P,w::vs,0,m,nd,h1,h2,hk=>by simp at h1 h2;subst h1;subst h2;show a2J kindOf ((p,w)::P.zip vs) m p=_;unfold a2J;rw[Cj λv a=>(XO.mp nd).1 (a0i a).1,if_neg hk];simp
 |p::P,w::vs,i+1,m,nd,h1,h2,hk=>by show a2J kindOf ((p,w)::P.zip vs) m x=_;unfold a2J;exact Cm (i:=i) (XO.mp nd).2 (by simpa using h1) (by simpa using h2) hk
noncomputable def start(N:List Str)(vs:List V):St:=vs.map b4++WH (N.length-vs.length) c4
noncomputable def fA(CX:gU)(P:Wv)(w:WO)(K:VU)(h:Str->Option Value)(base:Xo)(N:List Str)(a:Str)(scope:Yl)(f:Addr)(c:Value)(A:WJ)(outer:List ZS)(s:V1)(H:Hp)(E:XK):Cx where
 prog:=P
 w:=w
 K:=K
 mg:=h
 base:=base
 A:=A.deeper (envOfC a scope s.heap.objs.size f c)
 N:=N
 s₀:=s
 H₀:=H
 env:=envOfC a scope s.heap.objs.size f c
 outer:=outer
 stack:=envOfC a scope s.heap.objs.size f c::outer
 ex:=[]
 calm:=c7
 fn:=λ_=>c7
 pn:=[]
 xe:=λe i=>Wm (WC P w) (A.deeper (envOfC a scope s.heap.objs.size f c)) (a4P (envOfC a scope s.heap.objs.size f c) e) (λ_ b=>CX outer H s E e b) (λd b=>CX outer H s E d b) i
theorem Cn{sc:Yl}{n:Nat}{x:Str}(h:sc.names.lookup x=b4 .cell):∃c,(a2a n sc.names []).lookup x=b4 c:=by have q:=Z4 sc.names n [] (.inl h);exact Xc.mp q
theorem Co{CX:gU}{P:Wv}{w:WO}{K:VU}{L:Str->Option Value}{base:Xo}{N ps:List Str}{d:Str}{scope:Yl}{f:Addr}{G:Value}{A:WJ}{outer:List ZS}{s Q:V1}{H:Hp}{E:XK}{us:List Value}{vs:List V}
  (S:FnScope N ps scope)(hd:A.handled=c4)(l:Env0 P w K L base A outer s H)(Y:vs.length=ps.length)(r:Vals vs us)
  (x:InCallC s s.heap.objs.size (a2I (envOfC d scope s.heap.objs.size f G).kindOf (ps.zip us) λ_=>c4) (a2a (s.heap.objs.size+1) scope.names []) (a2J (envOfC d scope s.heap.objs.size f G).kindOf (ps.zip us) λ_=>c4) Q) :
  Inv (fA CX P w K L base N d scope f G A outer s H E) [] (start N vs) H Q:=by
 have T:ps.length<=N.length:=by have:=congrArg WY S.pre;rw[Xz]at this;omega
 obtain⟨I,Z,rfl,M⟩:=x.done;have n:∀b:Addr,b∉(fA CX P w K L base N d scope f G A outer s H E).ex:=λb z=>absurd (show b∈([]:List Addr)from z) (by simp);refine⟨⟨l.mod,S.kind,rfl,rfl,Wa _,λy z c I j=>?_,λy m=>?_,λy c _ h=>?_,λ_=>hd,a2C l.frames,.inr ⟨rfl,rfl⟩,λb z=>absurd z (n b),l.bs,l.bsz,λb _ _=>n b,λb z=>absurd z (n b),l.funs,l.frf⟩,
  rfl,l.bare,Un.kept M,⟨_,x.toInCall.ns,λi y v I j X=>?_⟩,λy c h=>⟨_,x.cell y c h⟩,l.hok.fresh (Wa _),λy c h=>?_,λp o=>absurd (show p∈([]:List (Addr×Obj))from o) (by simp),l.hok.kept M,?_⟩
 ·exact name_of_addr x.apart (Xu I) (Xu j)
 ·have m:scope.names.lookup y=b4 .cell\/scope.names.lookup y=b4 .free:=m;rcases m with m|m
  ·exact Cn m
  ·exact absurd rfl (S.nofree _ (Xu m))
 ·exact a1g (x.above y c (Xu h))
 ·have J:i<vs.length:=by
   unfold start at j;by_cases J:i<vs.length
   ·exact J
   ·rw[W2 (by simpa using J)]at j;rw[YF]at j;split at j<;>cases j
  have R:vs[i]?=b4 v:=by
   unfold start at j;rw[Wz (by simpa using J),WD]at j;cases e:vs[i]? with
   |none=>rw[e]at j;cases j|some a=>rw[e]at j;cases j;rfl
  obtain⟨u,O,U⟩:=r.get R;have o:ps[i]?=b4 y:=by rw[<- S.pre,a2m (by omega)];exact I
  have B:ps.Nodup:=by rw[<- S.pre];exact S.nd.sublist (List.take_sublist _ _)
  refine⟨u,U,?_⟩;rcases S.par y (Xq o)with k|k
  ·exact .inl ⟨k,Ck B o O k⟩
  ·obtain⟨c,e⟩:=Cn (n:=s.heap.objs.size+1) k;refine .inr ⟨.inl k,c,e,?_⟩;have q:=x.cell y c e;rw[Cm B o O (by show scope.names.lookup y≠_;rw[k];decide)]at q;exact q
 ·exact l.hok.fresh (a1g (x.above y c (Xu h)))
 ·unfold start;show _=N.length;rw[V5,V0,Yw];omega
theorem Cp{CX:gU}{P:Wv}{w:WO}{K:VU}{B:Str->Option Value}{base:Xo}{k:Nat}{f:Addr}{name a:Str}{d:a5m}{body:List Stmt}{scope:Yl}{Z kV m pm c ct oc:Value}{X od:Option Addr}
  {O:Array (Option Value)}{N ps:List Str}{sp:Sp}(lk:K.lookup f=b4 ⟨oc,od,.func (Xm name a d body scope Z kV m pm X c ct),O⟩)(G:Zc K c a=c7)(S:FnScope N ps scope)
  (len:∀vs H Q E,sp vs H Q E->vs.length=ps.length)
  (i:∀(A:WJ)(outer:List ZS)(s:V1)(H:Hp)(vs:List V)(Q:VK)(E:XK),Room k (A.deeper (envOfC a scope s.heap.objs.size f c))->sp vs H Q E->
   ∃t,PSs (fA CX P w K B base N a scope f c A outer s H E) body t/\t {nx:=λ_ H'=>Q .non H',rt:=Q} (start N vs) H) :
  FnOk P w K B base CX (k+1) f (Xm name a d body scope Z kV m pm X c ct) ps sp:=by
 refine⟨len,λA outer s H Y us vs Q E L p hb r z=>?_⟩;have hl:=len _ _ _ _ z;have U:K.In s.heap:=p.mod.kin.keeps λb o e=>(p.bs b o e).1;have M:s.heap.NoLimit:=p.mod.nolimit.keeps λb o e=>(p.bs b o e).1;have j:∀y∈ps.zip us,scope.names.lookup y.1=b4 .local\/(scope.names.lookup y.1=b4 .cell/\((a2a (s.heap.objs.size+1) scope.names []).lookup y.1).isSome=c7):=λ⟨n,v⟩ hy=>by
  rcases S.par n (a0i hy).1 with q|q
  ·exact .inl q
  ·exact .inr ⟨q,Z4 _ _ _ (.inl q)⟩
 refine a3Q L.depth (U _ _ lk) rfl S.co S.gen rfl (a2M U G) (hb _ _ _ _ ?_);refine a2D S.kind j λenv he s1 x=>?_;subst he;refine⟨M.keeps x.toInCall.keep,codeAny_func ?_⟩;obtain⟨t,ht,hq⟩:=i A outer s H vs Q E (L.deeper _) z;have I:Inv (fA CX P w K B base N a scope f c A outer s H E) [] (start N vs) H s1:=Co S L.hd p hl r x;refine WR (ht [] s1 (start N vs) H _ I hq) (λfl T l=>?_) λe T l=>l;have aS:∀{h:St}{H':Hp}{v:V}{u:Value},Inv (fA CX P w K B base N a scope f c A outer s H E) [] h H' T->RelV v u->Q v H'->CE outer P w H s Q u T:=
  λ{h H' v u} J R q=>⟨v,H',J.os,J.bare,J.base,J.hok,R,q⟩
 cases fl with
 |ret u=>obtain⟨v,h,H',J,R,q⟩:=l;exact aS J R q|next=>obtain⟨h,H',J,q⟩:=l;exact aS (v:=V.non) (u:=Xg) J rfl q|brk=>obtain⟨_,_,_,q⟩:=l;exact Wo q|cont=>obtain⟨_,_,_,q⟩:=l;exact Wo q
end L2
namespace L2
open PySem PySem.Spec PyProof.Rows
section
variable{X:Cx}{x:Str}{p pos:XD}{e:Expr}{es:List Expr}{t:TA}{id T:String}{r:List V->Hp->VK->Prop}
noncomputable def uC(r:List V->Hp->VK->Prop)(t:TA):TE:=λσ H Q=>t σ H λvs a=>r vs a Q
theorem JY(hc:CallR X (.builtin id) r)(m:Gl X x)(n:X.mg x=c4)(q:XW x=b4 (.builtin id))(k:PA X (e::es) t)(o:x ≠ "__name__":=by decide) (b:(x==("__debug__":Str))=false:=by decide)
  (l:Wn (e::es) X.env=(c6,eval e X.env)::Wn es X.env:=by rfl)(c:(XM pos (Wn es X.env)).any (·.1)=false:=by rfl):PE X (.Call (.Name x p) (e::es) [] pos) (uC r t):=by
 intro a s d H Q I h;refine XG (jL I m n q ?_ o b);exact a0q (aT (k pos a s d H _ I h) λy w ⟨z,i,j,v,u⟩=>hc a w d i z y Q j v u) l c
theorem JZ(hc:CallR X (.type T) r)(m:Gl X x)(n:X.mg x=c4)(q:XW x=b4 (.type T))(k:PA X (e::es) t)(o:x ≠ "__name__":=by decide) (b:(x==("__debug__":Str))=false:=by decide)
  (l:Wn (e::es) X.env=(c6,eval e X.env)::Wn es X.env:=by rfl)(c:(XM pos (Wn es X.env)).any (·.1)=false:=by rfl):PE X (.Call (.Name x p) (e::es) [] pos) (uC r t):=by
 intro a s d H Q I h;refine XG (jL I m n q ?_ o b);exact XY (aT (k pos a s d H _ I h) λy w ⟨z,i,j,v,u⟩=>hc a w d i z y Q j v u) l c
end
end L2
namespace L2
open PySem PySem.Spec PyProof.Rows
section
variable{κ:Type} [DecidableEq κ]
noncomputable def gW(a:List (κ×V))(k:κ):Option V:=(a.find? λb=>decide (b.1=k)).map (·.2)
theorem Cq{p:κ×V}{r:List (κ×V)}{k:κ}(e:p.1=k):gW (p::r) k=b4 p.2:=by simp[gW,Xf,e]
theorem Cr{p:κ×V}{r:List (κ×V)}{k:κ}(e:¬ p.1=k):gW (p::r) k=gW r k:=by simp[gW,Xf,e]
theorem RelO.isSome_eq{o:Option V}{u:Option Value}(r:RelO o u):o.isSome=u.isSome:=by
 cases o with
 |none=>cases u with
  |none=>rfl|some _=>exact(show False from r).elim
 |some _=>cases u with
  |none=>exact(show False from r).elim|some _=>rfl
theorem RelO.getD{o:Option V}{u:Option Value}{d:V}{d':Value}(r:RelO o u)(a:RelV d d'):RelV (o.getD d) (u.getD d'):=by
 cases o with
 |none=>cases u with
  |none=>exact a|some _=>exact(show False from r).elim
 |some _=>cases u with
  |none=>exact(show False from r).elim|some _=>exact r
theorem KV.val{a:List (κ×V)}{vs:List (κ×Value)}(r:KV a vs)(k:κ):RelO (gW a k) (a2v vs k):=by
 unfold KV at r;induction r with
 |nil=>exact YC|@cons p q m d h t l=>
  obtain⟨i,j⟩:=h;by_cases e:p.1=k
  ·have c:q.1=k:=i.symm.trans e;have b:a2v (q::d) k=b4 q.2:=by simp[a2v,Xf,c]
   rw[Cq e,b];exact j
  ·have c:¬ q.1=k:=λz=>e (i.trans z);have b:a2v (q::d) k=a2v d k:=by simp[a2v,Xf,c]
   rw[Cr e,b];exact l
theorem KV.length{a:List (κ×V)}{vs:List (κ×Value)}(r:KV a vs):a.length=vs.length:=a1O r
end
noncomputable abbrev KT(H:Hp):List (List bS×V)->List (List bS×Addr×Value)->Prop:=a0w λp q=>p.1=q.1/\H q.2.1=b4 (.tup (p.1.map kV))/\RelV p.2 q.2.2
theorem KT.val{H:Hp}{a:List (List bS×V)}{xs:List (List bS×Addr×Value)}(r:KT H a xs)(k:List bS):RelO (gW a k) ((Z3 xs k).map (·.2)):=by
 induction r with
 |nil=>exact YC|@cons p q m d h t l=>
  obtain⟨i,_,j⟩:=h;by_cases e:p.1=k
  ·have c:q.1=k:=i.symm.trans e;have b:Z3 (q::d) k=b4 q.2:=by simp[Z3,Xf,c]
   rw[Cq e,b];exact j
  ·have c:¬ q.1=k:=λz=>e (i.trans z);have b:Z3 (q::d) k=Z3 d k:=by simp[Z3,Xf,c]
   rw[Cr e,b];exact l
section
variable{P:Wv}{w:WO}{H:Hp}{h:Xo}{a:Addr}
end
section
variable{X:Cx}{a5T:List (Addr×Obj)}{σ:St}{H:Hp}{s:V1}{a:Addr}{y v:V}{u r:Value}{o:Option V}{A:WJ}{E:Value->V1->Prop}
theorem Inv.big(I:Inv X a5T σ H s):Xs<s.heap.objs.size:=by have h:WZ<s.heap.objs.size:=(I.mod.glob.keeps I.bk).lt;exact Nat.lt_trans (by decide) h
theorem Ct{h':Xo}{t':Nat}{ob:HO}(I:Inv X a5T σ H s)(h:qU (H a))(e:Yg a s.heap h')(d:∃q,h'.get? a=b4 q)(new:ObjOk X.prog X.w (upd H a ob) h' a ob) :
  Inv X a5T σ (upd H a ob) {s with heap:=h',toks:=t'}:=
 I.write (x:=a) (e:=a) h (.inl rfl) (λb q c z=>(e.2 b c).trans z) d new
end
section
variable{X:Cx}{a5T:List (Addr×Obj)}{σ:St}{H:Hp}{s:V1}{a:Addr}{kvs:List (bS×V)}{k:bS}{u:Value}{A:WJ}{E:Value->V1->Prop}
end
noncomputable def Cu(i:Expr):Prop:=∀ov a,a2i i c6 ov a=operate [ov,a] (a2w ov a)
theorem J6{prog:Wv}{w:WO}{A:WJ}{E:Value->V1->Prop}{s:V1}{env:ZS}{b a:Expr}{pos:XD}{T id:String}{Q:Value->V1->Prop}
  (n:a2E (.type T) "__getitem__"=pure (b4 (.builtin id))) (p:Cu a)
  (h:Wm (WC prog w) A (eval b env) (λo e=>Wm (WC prog w) A (eval a env) (λi c=>c.TypeIs o T/\Wm (WC prog w) A (a2w o i) Q E c) E e) E s) :
  Wm (WC prog w) A (eval (.Subscript b a pos) env) Q E s:=by
 refine a2K (WR h (λo e k=>WR k (λi c d=>?_) λ_ _ x=>x) λ_ _ x=>x);obtain⟨m,d⟩:=d;unfold a1k;refine VX ?_;rw[getitemInPython_of_ne m.not_modules];refine VX (Zg m n ?_);have aS:Wm (WC prog w) A (a2i a c6 o i) (λr j=>Wm (WC prog w) A (letTemporaryGo b o r >>= λ_=>pure r) Q E j) E c:=by rw[p o i];exact wpAny_operating (WR d (λr j l=>VX (wpAny_letTemporaryGo (V7 l))) λ_ _ x=>x)
 first
  |exact V7 (VX aS)|exact VX (V7 (VX aS))|exact VX aS
section
variable{X:Cx}{o i e value:Expr}{pos pos' tpos:XD}{td ty tv:TE}
end
section
variable{X:Cx}{pos:XD}
end
noncomputable def Cv:List (TE×TE)->St->Hp->(List (V×V)->Hp->Prop)->Prop
 |[],_,H,Q=>Q [] H|(tk,tv)::r,σ,H,Q=>tk σ H λx a=>tv σ a λy b=>Cv r σ b λd c=>Q ((x,y)::d) c
noncomputable abbrev VV:List (V×V)->List (Value×Value)->Prop:=a0w λp q=>RelV p.1 q.1/\RelV p.2 q.2
noncomputable def J7(X:Cx)(pos:XD)(keys:List (Option Expr))(a:List Expr)(b:List (TE×TE)):Prop:=
 ∀(a5T:List (Addr×Obj))(s:V1)(σ:St)(H:Hp)(Q:List (V×V)->Hp->Prop),Inv X a5T σ H s->Cv b σ H Q->
  Wm (WC X.prog X.w) X.A (evalPairs (pairTrees keys a X.env pos)) (λh e=>∃d c,Inv X a5T σ c e/\VV d h/\Q d c) X.xe s
structure M1(X:Cx)(o:Expr)(m:Str)(apos:XD)(e:Expr)(cpos:XD):Prop where
 base:Yx o m X.env (eval o X.env)=eval o X.env
 few:((XM cpos (Wn [e] X.env)).all (λx=>!x.1)&&(Yu cpos (XJ [] X.env)).all (λx=>x.1.isSome)
  && decide (([e]:List Expr).length+([]:List YE).length+(if([]:List YE).isEmpty then 0 else 1)<30))=c7
 line:(apos.endLine==cpos.line)=c7
 trees:XM cpos (Wn [e] X.env)=[(c6,eval e X.env)]
structure M2(X:Cx)(o:Expr)(m:Str)(apos:XD)(e f:Expr)(cpos:XD):Prop where
 base:Yx o m X.env (eval o X.env)=eval o X.env
 few:((XM cpos (Wn [e,f] X.env)).all (λx=>!x.1)&&(Yu cpos (XJ [] X.env)).all (λx=>x.1.isSome)
  && decide (([e,f]:List Expr).length+([]:List YE).length+(if([]:List YE).isEmpty then 0 else 1)<30))=c7
 line:(apos.endLine==cpos.line)=c7
 trees:XM cpos (Wn [e,f] X.env)=[(c6,eval e X.env),(c6,eval f X.env)]
noncomputable def IsD(H:Hp)(a:Addr):Prop:=(∃b,Rd H a (.dK b))\/∃b,Rd H a (.dT b)
section
variable{X:Cx}{a5T:List (Addr×Obj)}{σ:St}{H:Hp}{s:V1}{a:Addr}{y d:V}{u r:Value}{o:Option V}{A:WJ}{E:Value->V1->Prop}
end
section
variable{X:Cx}{o e f:Expr}{apos cpos:XD}{td ty tx:TE}
end
section
variable{X:Cx}{a5T:List (Addr×Obj)}{σ:St}{H:Hp}{s:V1}{a:Addr}{kvs:List (bS×V)}{A:WJ}{E:Value->V1->Prop}
end
section
variable{X:Cx}{a5T:List (Addr×Obj)}{σ:St}{H:Hp}{s:V1}{a:Addr}{y:V}{u:Value}{A:WJ}{E:Value->V1->Prop}
end
end L2
namespace HT
open PySem PyProof.Rows
section
open PySem.SeqAt
open PySem.AutoSeq1 (wpAny_loadPart')
open PySem.MeetsSeq PySem.MeetsSeq2 PySem.MeetsSeq3
end
section
variable{prog:Wv}{w:WO}{A:WJ}{E:Value->V1->Prop}{s:V1}
noncomputable def sIx(n d:Nat):Option Int->Nat
 |none=>d|some v=>if v<0 then(v+(n:Int)).toNat else min v.toNat n
end
end HT
namespace L2
open PySem PySem.Spec PyProof.Rows
noncomputable abbrev TO:=St->Hp->(Option Int->Hp->Prop)->Prop
noncomputable def PO(X:Cx)(e:Option Expr)(t:TO):Prop:=
 ∀(a5T:List (Addr×Obj))(s:V1)(σ:St)(H:Hp)(Q:Option Int->Hp->Prop),Inv X a5T σ H s->t σ H Q->
  Wm (WC X.prog X.w) X.A (evalPart e X.env) (λu b=>∃o a,Inv X a5T σ a b/\IsPart u o/\Q o a) X.xe s
noncomputable def J8:TO:=λ_ H Q=>Q c4 H
noncomputable def J9(t:TE):TO:=λσ H Q=>t σ H λx a=>∃i,x=.int i/\Q (b4 i) a
section
variable{X:Cx}{e:Expr}{te:TE}{lo hi:Option Expr}{tl th:TO}{pos p2:XD}
theorem Ka:PO X c4 J8:=by intro a s b H Q I h;rw[evalPart_none];exact V7 ⟨c4,H,I,.none,h⟩
theorem Kb(h:PE X e te):PO X (b4 e) (J9 te):=by intro a s k H Q I hw;rw[evalPart_some];refine aT (h a s k H _ I hw) λu l ⟨x,b,c,j,d⟩=>?_;obtain⟨i,rfl,q⟩:=d;obtain⟨t,rfl⟩:=j;exact⟨b4 i,b,c,.int i t,q⟩
noncomputable def xX(X:Cx)(r:V->Option Int->Option Int->Hp->VK->Prop):Prop:=
 ∀(a5T:List (Addr×Obj))(s:V1)(σ:St)(H:Hp)(x:V)(v b c:Value)(lo hi:Option Int)(a:Addr)(Q:VK),Inv X a5T σ H s->RelV x v->s.heap.IsSliceOf a b c .none->IsPart b lo->IsPart c hi->r x lo hi H Q->
  ∃T id,a2E (.type T) "__getitem__"=pure (b4 (.builtin id))/\s.TypeIs v T/\Wm (WC X.prog X.w) X.A (a2w v (.ref a)) (EP X a5T σ Q) X.xe s
noncomputable def Kc(r:V->Option Int->Option Int->Hp->VK->Prop)(te:TE)(tl th:TO):TE:=λσ H Q=>te σ H λx a=>tl σ a λl b=>th σ b λu c=>r x l u c Q
theorem Kd{r:V->Option Int->Option Int->Hp->VK->Prop}(G:xX X r)(A:PE X e te)(E:PO X lo tl)(K:PO X hi th):PE X (.Subscript e (.Slice lo hi c4 p2) pos) (Kc r te tl th):=by intro a s d H Q I h;refine a2K (aT (A a s d H _ I h) λv Y ⟨x,m,o,U,N⟩=>?_);refine wpAny_Slice (aT (E a Y d m _ o N) λi Z ⟨l,n,p,L,O⟩=>aT (K a Z d n _ p O) λj c ⟨u,k,w,M,R⟩=>?_);rw[evalPart_none];refine V7 ?_;have y:Inv X a d k {c with heap:=c.heap.push {cls:=.type "slice",data:=.fields #[i,j,.none]}}:=w.kept (t':=c.toks) λb ob q=>V8 _ q;obtain⟨T,id,z,J,B⟩:=G a {c with heap:=c.heap.push {cls:=.type "slice",data:=.fields #[i,j,.none]}} d k x v i j l u c.heap.objs.size Q y U (a1C ..) L M R;show Wm (WC X.prog X.w) X.A (a1k e (.Slice lo hi c4 p2) v (.ref c.heap.objs.size)) (EP X a d Q) X.xe {c with heap:=c.heap.push {cls:=.type "slice",data:=.fields #[i,j,.none]}};exact a5N (ops:=[.ref c.heap.objs.size,v]) J z B (by with_unfolding_all rfl)
noncomputable def lR(xs:List V)(lo hi:Option Int):List V:=(xs.drop (HT.sIx xs.length 0 lo)).take (HT.sIx xs.length xs.length hi-HT.sIx xs.length 0 lo)
theorem Ke(xs:List V)(lo hi:Option Int):(lR xs lo hi).length<=xs.length:=by unfold lR;rw[Xz,a3Y];omega
end
end L2
namespace L2
open PySem PySem.Spec PyProof.Rows
noncomputable def lT(n:Nat)(i:Int):Option Nat:=if 0<=i then(if i<n then b4 i.toNat else c4)else if -(n:Int)<=i then b4 (i+n).toNat else c4
noncomputable def atI{a:Type}(xs:List a)(i:Int):Option a:=(lT xs.length i).bind λj=>xs[j]?
theorem Kf{n:Nat}{i:Int}{j:Nat}(h:lT n i=b4 j):seqIndex? i n=b4 j/\j<n/\-(n:Int)<=i/\i<n:=by
 unfold lT at h;by_cases b:0<=i
 ·rw[if_pos b]at h;by_cases a:i<n
  ·rw[if_pos a]at h;have e:i.toNat=j:=Wj h;exact⟨by rw[seqIndex_of b a,e],by omega,by omega,a⟩
  ·rw[if_neg a]at h;cases h
 ·rw[if_neg b]at h;by_cases a:-(n:Int)<=i
  ·rw[if_pos a]at h;have e:(i+n).toNat=j:=Wj h;exact⟨by rw[seqIndex_neg (by omega) a,e],by omega,a,by omega⟩
  ·rw[if_neg a]at h;cases h
theorem xY{a:Type}{xs:List a}{i:Int}{v:a}(h:atI xs i=b4 v):∃j,seqIndex? i xs.length=b4 j/\xs[j]?=b4 v/\j<xs.length/\-(xs.length:Int)<=i/\i<xs.length:=by
 unfold atI at h;cases e:lT xs.length i with
 |none=>rw[e]at h;cases h|some j=>rw[e]at h;obtain⟨b,c,d,k⟩:=Kf e;exact⟨j,b,h,c,d,k⟩
noncomputable def xZ(b:Expr):Prop:=∀o i,a2i b c6 o i=operate [o,i] (a2w o i)
noncomputable def IxR(X:Cx)(r:R2):Prop:=
 ∀(b a:Expr)(a5T:List (Addr×Obj))(s:V1)(σ:St)(H:Hp)(x y:V)(v u:Value)(Q:VK),Inv X a5T σ H s->RelV x v->RelV y u->r x y H Q->
  a2i a c6 v u=operate [v,u] (a2w v u)->Wm (WC X.prog X.w) X.A (a1k b a v u) (EP X a5T σ Q) X.xe s
noncomputable def Cw(X:Cx)(id:String)(r:V->List V->Hp->VK->Prop):Prop:=
 ∀(a5T:List (Addr×Obj))(s:V1)(σ:St)(H:Hp)(x:V)(xs:List V)(v:Value)(us:List Value)(Q:VK),Inv X a5T σ H s->RelV x v->Vals xs us->r x xs H Q->
  Wm (WC X.prog X.w) X.A (call (.builtin id) (v::us)) (EP X a5T σ Q) X.xe s
section
variable{X:Cx}{a b:Expr}{ta tb:TE}{pos:XD}
theorem IxR.or{r j:R2}(h:IxR X r)(h':IxR X j):IxR X (λx y H Q=>r x y H Q\/j x y H Q):=by
 intro d c e s m H x y v u Q I k l q i;rcases q with q|q
 ·exact h d c e s m H x y v u Q I k l q i
 ·exact h' d c e s m H x y v u Q I k l q i
theorem Kg{r:R2}(k:IxR X r)(i:PE X a ta)(j:PE X b tb)(l:xZ b):PE X (.Subscript a b pos) (qZ r ta tb):=by intro c s p H Q I h;exact a2K (xJ i j I h λv u o x y d e m n q=>k a b c o p d x y v u Q e m n q (l _ _))
noncomputable def Cy(K:VU):R2:=λx y H Q=>∃p xs i v,x=.ref p/\y=.int i/\SqL K H p xs/\atI xs i=b4 v/\Q v H
noncomputable def Cz(K:VU):R2:=λx y H Q=>∃p xs i v,x=.ref p/\y=.int i/\SqT K H p xs/\atI xs i=b4 v/\Q v H
noncomputable def CA:R2:=λx y H Q=>∃z i c,x=.str z/\y=.int i/\z.length<=Wb/\atI z.cps.toList i=b4 c/\Q (.str ⟨#[c]⟩) H
theorem ix_list:IxR X (Cy X.K):=by
 intro o n c s G H x y v u Q I R T h E;obtain⟨p,xs,i,z,rfl,rfl,O,M,q⟩:=h;cases R;obtain⟨t,rfl⟩:=T;obtain⟨k,r,l,hz⟩:=I.list O;obtain⟨j,d,J,Y,K,L⟩:=xY M;obtain⟨w,A,m⟩:=r.get J;have N:=r.length;have Z:=oI;have aS:EP X c G Q w s:=⟨z,H,I,m,q⟩;by_cases B:0<=i
 ·have e:i.toNat=j:=by rw[seqIndex_of B L]at d;exact Wj d
  exact item_listR l.isList B (by omega) (by rw[e];simpa using A) aS E
 ·have e:(i+(k.toArray.size:Int)).toNat=j:=by rw[seqIndex_neg (by omega) K]at d;rw[WA,<- N];exact Wj d
  exact a3w (x:=w) l.isList.typeIs a1E.lookup
   (wpAny_getItem_list_neg (Q:=λr U=>r=w/\EP X c G Q r U) l.isList (by omega) (by rw[WA]<;>omega) (by omega) (by rw[e];simpa using A) ⟨rfl,aS⟩) E
theorem ix_tup:IxR X (Cz X.K):=by
 intro k e c s m H x y v u Q I L M h J;obtain⟨p,Z,i,z,rfl,rfl,G,B,q⟩:=h;cases L;obtain⟨t,rfl⟩:=M;obtain⟨K,r,l,Y⟩:=I.tuple G;obtain⟨j,o,A,O,R,T⟩:=xY B;obtain⟨w,n,d⟩:=r.get A;have E:=r.length;have U:=oI;have aS:EP X c m Q w s:=⟨z,H,I,d,q⟩;exact a3w (x:=w) l.typeIs slot_tuple_getitem.lookup
  (getItem_tuple (j:=j) (Q:=λr N=>r=w/\EP X c m Q r N) l (by omega) (by omega) (by rw[WA,<- E];exact o) (by simpa using n) ⟨rfl,aS⟩) J
theorem Kh:IxR X CA:=by
 intro e d l s N H x y v u Q I E G h B
 obtain ⟨z,i,c,rfl,rfl,L,w,q⟩:=h
 obtain ⟨t,rfl⟩:=E
 obtain ⟨M,rfl⟩:=G
 obtain ⟨j,k,o,J,p,r⟩:=xY w
 have A:z.cps.toList.length=z.length:=by simp [Str.length]
 rw [A] at k p r
 have K:=oI
 exact a5N (typeIs_str s z t) slot_str_getitem.lookup (getItem_str (c:=c) (by
  have m:decide (i < -(2 ^ 63:Int))=false:=decide_eq_false (by omega)
  have n:decide (i >= 2 ^ 63)=false:=decide_eq_false (by omega)
  rw [m,n,a4F]) (by rw [k];simpa using o) ⟨.str ⟨#[c]⟩,H,I.tok _,⟨_,rfl⟩,q⟩) B
noncomputable def CB (K:VU):R2:=fun x y H Q=>Cy K x y H Q\/Cz K x y H Q\/CA x y H Q
theorem Ki:IxR X (CB X.K):=ix_list.or (ix_tup.or Kh)
theorem Inv.lst{a5T:List (Addr×Obj)}{σ:St}{H:Hp}{s:V1}{p:Addr}{xs:List V}(I:Inv X a5T σ H s)(h:H p=b4 (.lst xs)) :
  ∃(its:List Value)(n:Nat),Vals xs its/\s.heap.get? p=b4 {cls:=.type "list",data:=.seq its.toArray n}/\xs.length<=Wb:=by
 obtain⟨z,its,n,r,e⟩:=I.hok p _ h;exact⟨its,n,r,e,z⟩
theorem Kj(lo c:Option Int)(n:Nat):(Yk lo c c4 n).1=((HT.sIx n 0 lo:Nat):Int)/\(Yk lo c c4 n).2.1=((HT.sIx n n c:Nat):Int)/\(Yk lo c c4 n).2.2=1:=by
 refine⟨?_,?_,rfl⟩
 ·cases lo with
  |none=>simp[Yk,HT.sIx]|some i=>
   simp only[Yk,HT.sIx,a0R,show(1:Int)>0 by decide,if_true];by_cases h:i<0
   ·simp only[h,if_true]<;>omega
   ·simp only[h,if_false]<;>omega
 ·cases c with
  |none=>simp[Yk,HT.sIx]|some i=>
   simp only[Yk,HT.sIx,a0R,show(1:Int)>0 by decide,if_true];by_cases h:i<0
   ·simp only[h,if_true]<;>omega
   ·simp only[h,if_false]<;>omega
theorem Kk(its:List Value)(lo c:Option Int):a3k its.toArray lo c c4=((its.drop (HT.sIx its.length 0 lo)).take (HT.sIx its.length its.length c-HT.sIx its.length 0 lo)).toArray:=by obtain⟨d,e,h⟩:=Kj lo c its.toArray.size;unfold a3k;rw[d,e,h];simp only[sliceRange_one,pick_run,WA]<;>rfl
noncomputable def x6(K:VU):V->Option Int->Option Int->Hp->VK->Prop:=λx lo c H Q=>∃a xs,x=.ref a/\SqL K H a xs/\∀p,H p=c4->Q (.ref p) (upd H p (.lst (lR xs lo c)))
theorem Kl:xX X (x6 X.K):=by intro k s E H x v A B e i z Q I w l p u h;obtain⟨a,c,rfl,m,q⟩:=h;cases w;obtain⟨o,r,j,n⟩:=I.list m;have d:=r.length;refine⟨"list",_,a1E.lookup,j.isList.typeIs,?_⟩;refine a2X j.isList l p u .none (by simp) ?_ (by rw[WA]<;>omega);rw[Kk,<- d];refine⟨.ref s.heap.objs.size,_,I.laid (t':=s.toks) (o:=.lst (lR c e i)) (λb y q=>V8 _ q) (Wa _) ?_,rfl,q _ (I.hok.fresh (Wa _))⟩;exact⟨Xk (Ke c e i) n,_,0,(r.drop (HT.sIx c.length 0 e)).take (HT.sIx c.length c.length i-HT.sIx c.length 0 e),Ws _ rfl⟩
theorem CC:OpR X (Xd .NotIn) (λx y H Q=>∃i j,x=.str i/\y=.str j/\Q (.bl (!(!(XH j i 0 j.length 1).isEmpty))) H):=by intro c s l H x y v u Q I d e h;obtain⟨i,j,rfl,rfl,q⟩:=h;obtain⟨t,rfl⟩:=d;obtain⟨k,rfl⟩:=e;exact notIn_str ⟨.bl _,H,I,rfl,q⟩
theorem call_len_seq:CallR X (.builtin "len") (λxs H Q=>∃p d,xs=[.ref p]/\(SqL X.K H p d\/SqT X.K H p d)/\Q (.int d.length) H):=by
 intro l s w H xs v Q I r h;obtain⟨p,d,rfl,e,q⟩:=h;obtain⟨u,rfl,n⟩:=lQ r;cases n;have o:=oI;rcases e with e|e
 ·obtain⟨i,k,j,m⟩:=I.list e;have c:=k.length;exact Calls.call_len_list j.isList (by simp only[WA]<;>omega) ⟨.int d.length,H,I.tok _,⟨s.toks+1,by rw[WA,c]⟩,q⟩
 ·obtain⟨i,k,j,m⟩:=I.tuple e;have c:=k.length;exact len_tuple j (by simp only[WA]<;>omega) ⟨.int d.length,H,I.tok _,⟨s.toks+1,by rw[WA,c]⟩,q⟩
theorem Km:CallR X (.builtin "len") (λxs H Q=>∃z,xs=[.str z]/\z.length<=Wb/\Q (.int z.length) H):=by intro c s j H xs i Q I r h;obtain⟨z,rfl,e,q⟩:=h;obtain⟨u,rfl,t,rfl⟩:=lQ r;have d:=oI;exact len_str (by omega) ⟨.int z.length,H,I.tok _,⟨_,rfl⟩,q⟩
theorem CallR.or{f:Value}{r d:List V->Hp->VK->Prop}(h:CallR X f r)(h':CallR X f d):CallR X f (λxs H Q=>r xs H Q\/d xs H Q):=by
 intro c s j H xs i Q I e q;rcases q with q|q
 ·exact h c s j H xs i Q I e q
 ·exact h' c s j H xs i Q I e q
theorem call_list_of:CallR X (.type "list") (λxs H Q=>∃p i,xs=[.ref p]/\(SqL X.K H p i\/SqT X.K H p i)/\∀l,H l=c4->Q (.ref l) (upd H l (.lst i))):=by
 intro w s B H xs E Q I r h;obtain⟨p,i,rfl,k,q⟩:=h;obtain⟨u,rfl,A⟩:=lQ r;cases A;have aS:∀(its:List Value),Vals i its->i.length<=Wb->∀(h':Xo)(c:Nat),(∀b z,s.heap.get? b=b4 z->h'.get? b=b4 z)->
   h'.get? s.heap.objs.size=b4 {cls:=.type "list",dict:=c4,data:=.seq its.toArray c,slots:=#[]}->EP X w B Q (.ref s.heap.objs.size) {s with heap:=h'}:=λits d m h' c v e=>
  ⟨.ref s.heap.objs.size,_,I.laid (t':=s.toks) v (Wa _) (show ObjOk X.prog X.w _ h' _ (.lst i)from⟨m,its,c,d,e⟩),rfl,q _ (I.hok.fresh (Wa _))⟩
 rcases k with k|k
 ·obtain⟨its,d,y,m⟩:=I.list k;have j:=d.length;obtain⟨o,x,hc,n,hd⟩:=y.isList;exact call_list_seq p (.inl rfl) x hc hd (λh' c v e=>aS its d m h' c v e) (by simp only[WA]<;>omega)
 ·obtain⟨its,d,y,m⟩:=I.tuple k;have j:=d.length;obtain⟨o,x,hc,n,hd⟩:=y;exact call_list_seq p (.inr rfl) x hc hd (λh' c v e=>aS its d m h' c v e) (by simp only[WA]<;>omega)
noncomputable def uD(K:VU)(T:String)(x:V)(H:Hp):Prop:=match x with
 |.str _=>T="str"|.int _=>T="int"|.ref p=>(T="list"/\∃d,SqL K H p d)\/(T="tuple"/\∃o,K.lookup p=b4 o/\o.cls=.type "tuple"/\o.dict=c4) \/
   (T="dict"/\((∃c,H p=b4 (.dK c))\/∃c,H p=b4 (.dT c)))\/(T="set"/\∃S n,H p=b4 (.set S n))
 |_=>False
theorem CD{a5T:List (Addr×Obj)}{σ:St}{H:Hp}{s:V1}{T:String}{x:V}{v:Value}(I:Inv X a5T σ H s)(r:RelV x v)(ty:uD X.K T x H) :
  s.TypeIs v T/\∀a,v=.ref a->∃l,s.heap.get? a=b4 l/\l.dict=none:=by
 cases x with
 |str z=>obtain⟨t,rfl⟩:=r;cases(show T="str" from ty);exact⟨typeIs_str s z t,λ_ e=>nomatch e⟩|int i=>obtain⟨t,rfl⟩:=r;cases(show T="int" from ty);exact⟨a4y s i t,λ_ e=>nomatch e⟩|ref p=>
  cases r;rcases ty with⟨rfl,w,q⟩|⟨rfl,o,d,hc,hd⟩|⟨rfl,d⟩|⟨rfl,S,n,d⟩
  ·obtain⟨u,_,m,_⟩:=I.list q;refine⟨m.isList.typeIs,λa e=>?_⟩;cases e;obtain⟨o,n,e,c,hd,_⟩:=m;exact⟨o,e,hd⟩
  ·refine⟨⟨o,I.kIn p o d,hc⟩,λa e=>?_⟩;cases e;exact⟨o,I.kIn _ o d,hd⟩
  ·have z:∃o,s.heap.get? p=b4 o/\o.ExactDict:=by
    rcases d with⟨k,d⟩|⟨k,d⟩
    ·obtain⟨_,_,_,_,o,_,_,e,h,_⟩:=I.hok p _ d;exact⟨o,e,h⟩
    ·obtain⟨_,_,_,_,o,_,_,e,h,_⟩:=I.hok p _ d;exact⟨o,e,h⟩
   obtain⟨o,e,h⟩:=z;refine⟨⟨o,e,h.1⟩,λa j=>?_⟩;cases j;exact⟨o,e,h.2.1⟩
  ·obtain⟨o,_,_,_,e,h,_⟩:=I.hok p _ d;refine⟨⟨o,e,h.1⟩,λa j=>?_⟩;cases j;exact⟨o,e,h.2.1⟩
 |_=>exact Wo ty
noncomputable def CF(K:VU)(T:String)(r:V->List V->Hp->VK->Prop)(to:TE):TE:=λσ H Q=>to σ H λx c=>uD K T x c/\r x [] c Q
noncomputable def CG(K:VU)(T:String)(r:V->List V->Hp->VK->Prop)(to:TE)(t:TA):TE:=λσ H Q=>to σ H λx c=>uD K T x c/\t σ c λxs d=>r x xs d Q
variable{o e:Expr}{es:List Expr}{to:TE}{t:TA}{name:Str}{apos cpos:XD}{T id:String}{r:V->List V->Hp->VK->Prop}
theorem Kn(z:PlainAttrs T)(j:a5a T name id)(k:a1T (.builtin id)=pure (.type "method_descriptor")) (w:Cw X id r)(y:PE X o to)
  (c:Yx o name X.env (eval o X.env)=eval o X.env:=by rfl)(d:(apos.endLine==cpos.line)=true:=by rfl):PE X (.Call (.Attribute o name apos) [] [] cpos) (CF X.K T r to):=by
 intro i s n H Q I h;refine a0k c d (aT (y i s n H _ I h) λv B ⟨x,p,l,m,ty,A⟩=>?_);obtain⟨q,u⟩:=CD l m ty;exact⟨T,id,z,j,k,q,u,YH rfl (a0v (w i B n p x [] v [] Q l m .nil A))⟩
theorem Ko(L:PlainAttrs T)(l:a5a T name id)(m:a1T (.builtin id)=pure (.type "method_descriptor")) (G:Cw X id r)(J:PE X o to)(E:PA X (e::es) t)
  (i:Yx o name X.env (eval o X.env)=eval o X.env:=by rfl)
  (k:((XM cpos (Wn (e::es) X.env)).all (λx=>!x.1)&&(Yu cpos (XJ [] X.env)).all (λx=>x.1.isSome)
   && decide ((e::es).length+([]:List YE).length+(if([]:List YE).isEmpty then 0 else 1)<30))=true:=by rfl)
  (j:(apos.endLine==cpos.line)=true:=by rfl)(K:Wn (e::es) X.env=(c6,eval e X.env)::Wn es X.env:=by rfl)(c:(XM cpos (Wn es X.env)).any (·.1)=false:=by rfl) :
  PE X (.Call (.Attribute o name apos) (e::es) [] cpos) (CG X.K T r to t):=by
 intro d s n H Q I h;refine a3v i k j rfl (aT (J d s n H _ I h) λv R ⟨x,w,p,u,ty,M⟩=>?_);obtain⟨A,B⟩:=CD p u ty;refine⟨T,id,L,l,m,A,B,?_⟩;have q:=E cpos d R n w _ p M;rw[K]at q ⊢;refine YH (by show(c6||(XM cpos (Wn es X.env)).any (·.1))=c6;rw[c]<;>rfl) (a0o ?_);exact aT q λY U ⟨Z,y,z,O,N⟩=>G d U n y x Z v Y Q z u O N
end
end L2
namespace L2
open PySem PySem.Spec PyProof.Rows
noncomputable def iT(X:Cx)(id:String)(r:V->List V->Hp->VK->Prop):Prop:=
 ∀(a5T:List (Addr×Obj))(s:V1)(σ:St)(H:Hp)(x:V)(xs:List V)(v:Value)(us:List Value)(Q:VK),Inv X a5T σ H s->RelV x v->Vals xs us->r x xs H Q->
  Wm (WC X.prog X.w) X.A (call (.builtin id) (v::us)) (EP X a5T σ Q) X.xe s
theorem Vals.one:∀{x:V}{us:List Value},Vals [x] us->∃u,us=[u]/\RelV x u
 |_,_,.cons r .nil=>⟨_,rfl,r⟩
theorem Vals.two:∀{x y:V}{us:List Value},Vals [x,y] us->∃u v,us=[u,v]/\RelV x u/\RelV y v
 |_,_,_,.cons r (.cons q .nil)=>⟨_,_,rfl,r,q⟩
theorem Vals.zero:∀{us:List Value},Vals [] us->us=[]
 |_,.nil=>rfl
theorem Vals.dropLast{xs:List V}{us:List Value}(h:Vals xs us):Vals xs.dropLast us.dropLast:=by
 induction h with
 |nil=>exact .nil|cons r t a=>
  cases t with
  |nil=>exact .nil|cons q b=>exact .cons r a
theorem Vals.rep{xs:List V}{us:List Value}(h:Vals xs us):∀k:Nat,Vals (WH k xs).flatten (WH k us).flatten
 |0=>.nil|k+1=>by rw[Yo,Yo,YR,YR];exact Vals.append h (Vals.rep h k)
theorem Kp{d:Type}(l:List d):l.eraseIdx (l.length-1)=l.dropLast:=by
 induction l with
 |nil=>rfl|cons a r c=>
  cases r with
  |nil=>rfl|cons b r=>
   have e:(a::b::r).length-1=((b::r).length-1)+1:=by have h:(a::b::r).length=r.length+2:=rfl;have i:(b::r).length=r.length+1:=rfl;omega
   rw[e,List.eraseIdx_cons_succ,c];all_goals rfl
theorem CH(its:List Value):∀(k:Nat)(a:List Value),
  a3p (λc d=>c++d) a.toArray (WH k its.toArray)=(a++(WH k its).flatten).toArray
 |0,a=>by simp
 |k+1,a=>by
  have e:a.toArray++its.toArray=(a++its).toArray:=by simp
  have b:(a++its)++(WH k its).flatten=a++(WH (k+1) its).flatten:=by rw[Yo,YR,XX]
  rw[<- b,<- CH its k (a++its),<- e,Yo,a1A]
section
variable{X:Cx}{a5T:List (Addr×Obj)}{σ:St}{H:Hp}{s:V1}{l b:Addr}{xs ys zs:List V}
theorem Inv.lset{its its':List Value}{n:Nat}{f:Array Value->Array Value}{t':Nat}(I:Inv X a5T σ H s)(a:H l=b4 (.lst xs))
  (e:s.heap.get? l=b4 {cls:=.type "list",data:=.seq its.toArray n}) (d:f its.toArray=its'.toArray)(i:Vals ys its')(hz:ys.length<=Wb) :
  Inv X a5T σ (upd H l (.lst ys)) {s with heap:=s.heap.update l (a2d f),toks:=t'}:=by
 have q:=PySem.IsL.update e f;rw[d]at q;refine I.write (x:=l) (e:=l) (by rw[a];exact trivial) (.inl rfl) (λj u c h=>(XR s.heap (a2d f) (WL c)).trans h) ⟨_,q⟩ ?_;exact⟨hz,its',_,i,q⟩
theorem Inv.lnew{its:List Value}{t':Nat}(I:Inv X a5T σ H s)(a:Vals ys its)(hz:ys.length<=Wb) :
  Inv X a5T σ (upd H s.heap.objs.size (.lst ys)) {s with heap:=s.heap.push {cls:=.type "list",data:=.seq its.toArray},toks:=t'}:=
 I.laid (λ_ _ q=>V8 _ q) (Wa _) ⟨hz,its,0,a,Ws _ rfl⟩
theorem Inv.fresh(I:Inv X a5T σ H s):H s.heap.objs.size=none:=I.hok.fresh (Wa _)
theorem Inv.lstM(I:Inv X a5T σ H s)(a:H l=b4 (.lst xs)):xs.length<=Wb/\∃(its:List Value)(n:Nat),Vals xs its/\xs.length=its.length/\s.heap.get? l=b4 {cls:=.type "list",data:=.seq its.toArray n}:=by obtain⟨z,its,n,r,e⟩:=I.hok l _ a;exact⟨z,its,n,r,r.length,e⟩
theorem CI{n:Nat}(h:n<=Wb):YS n=false:=by unfold YS;exact decide_eq_false (by omega)
end
section
variable{X:Cx}
noncomputable def CJ:V->List V->Hp->VK->Prop:=λx vs H Q=>∃l xs y,x=.ref l/\vs=[y]/\H l=b4 (.lst xs)/\xs.length<Wb/\Q .non (upd H l (.lst (xs++[y])))
theorem CK:iT X "list.append" CJ:=by intro c s A H x p v o Q I j i h;obtain⟨l,w,y,rfl,rfl,b,m,q⟩:=h;cases j;obtain⟨u,rfl,d⟩:=i.one;obtain⟨z,a,n,r,k,e⟩:=I.lstM b;refine a1r F.slot_list_append ⟨_,e,rfl⟩ F.entry_list_append (F.args_list_append_2 _ _) (PySem.list_append l a.toArray n u (by rw[WA];omega)) ⟨e,?_⟩;refine⟨.non,_,I.lset (its':=a++[u]) b e (by simp) (r.append (.cons d .nil)) ?_,rfl,q⟩;rw[V5,WW];omega
noncomputable def CL:V->List V->Hp->VK->Prop:=λx vs H Q=>∃l b xs zs,x=.ref l/\vs=[.ref b]/\H l=b4 (.lst xs)/\H b=b4 (.lst zs)/\xs.length+zs.length<=Wb/\Q .non (upd H l (.lst (xs++zs)))
theorem Kq:iT X "list.extend" CL:=by
 intro k s R H x L v K Q I E B h;obtain⟨l,b,M,O,rfl,rfl,j,o,J,q⟩:=h;cases E;obtain⟨u,rfl,A⟩:=B.one;cases A;obtain⟨z,c,n,r,G,e⟩:=I.lstM j;obtain⟨N,a,w,y,p,m⟩:=I.lstM o;have i:c.toArray.size+a.toArray.size<=Wb:=by rw[WA,WA];omega
 have d:¬ (!c.toArray.isEmpty&&YS (c.toArray.size+a.toArray.size))=true:=by rw[CI i,a4u];exact Wu
 refine a1r F.slot_list_extend ⟨_,e,rfl⟩ F.entry_list_extend (F.args_list_extend_2 _ _)
  (AutoSeq1.list_extend_list_list_0 l c.toArray n b a.toArray w d (by rw[WA];omega) (by omega)) ⟨e,m,?_⟩
 refine⟨.non,_,I.lset (its':=c++a) j e (by simp) (r.append y) ?_,rfl,q⟩;rw[V5];omega
noncomputable def CM:V->List V->Hp->VK->Prop:=λx vs H Q=>∃l xs y,x=.ref l/\vs=[]/\H l=b4 (.lst xs)/\xs[xs.length-1]?=b4 y/\Q y (upd H l (.lst xs.dropLast))
theorem Kr:iT X "list.pop" CM:=by
 intro i s G H x B v A Q I w p h;obtain⟨l,E,y,rfl,rfl,d,m,q⟩:=h;cases w;have b:=p.zero;subst b;obtain⟨z,a,n,r,j,e⟩:=I.lstM d;obtain⟨u,k,o⟩:=r.get m;have c:a.toArray[a.toArray.size-1]?=b4 u:=by show a.toArray[a.length-1]?=b4 u;rw[<- Yc,<- j];exact k
 refine a1r F.slot_list_pop ⟨_,e,rfl⟩ F.entry_list_pop (F.args_list_pop_1 _) (MeetsSeq.list_pop_last l a.toArray n u c (by rw[WA];omega)) ⟨e,?_⟩;refine⟨y,_,I.lset (its':=a.dropLast) d e ?_ r.dropLast ?_,o,q⟩
 ·show a.toArray.eraseIdxIfInBounds (a.toArray.size-1)=a.dropLast.toArray;rw[WA,List.eraseIdxIfInBounds_toArray,Kp]
 ·rw[List.length_dropLast];omega
noncomputable def CN:R2:=λx y H Q=>∃l b xs zs,x=.ref l/\y=.ref b/\H l=b4 (.lst xs)/\H b=b4 (.lst zs)/\xs.length+zs.length<=Wb/\∀p,H p=c4->Q (.ref p) (upd H p (.lst (xs++zs)))
theorem Ks:OpR X (YU .Add) CN:=by
 intro d s M H x y v u Q I w A h;obtain⟨l,b,J,L,rfl,rfl,m,k,E,q⟩:=h;cases w;cases A;obtain⟨z,c,n,r,B,e⟩:=I.lstM m;obtain⟨K,a,G,p,o,i⟩:=I.lstM k;refine PySem.P.add_list e i ?_ (by rw[WA,WA];omega);have j:c.toArray++a.toArray=(c++a).toArray:=by simp
 rw[j];exact⟨.ref _,_,I.lnew (t':=s.toks) (r.append p) (by rw[V5];omega),rfl,q _ I.fresh⟩
noncomputable def CO:R2:=λx y H Q=>∃l k xs,x=.ref l/\y=.int k/\H l=b4 (.lst xs)/\-(2^63)<=k/\k<2^63/\xs.length*k.toNat<=Wb /\
 ∀p,H p=c4->Q (.ref p) (upd H p (.lst (WH k.toNat xs).flatten))
theorem Kt{b:Type}(xs:List b)(k:Nat):(WH k xs).flatten.length=k*xs.length:=by
 induction k with
 |zero=>simp|succ k a=>rw[Yo,YR,V5,a,a1f,Nat.add_comm]
theorem Ku:OpR X (YU .Mult) CO:=by
 intro B s U H x y v u Q I M N h;obtain⟨l,k,T,rfl,rfl,K,G,J,A,q⟩:=h;cases M;obtain⟨t,rfl⟩:=N;obtain⟨z,b,n,r,L,e⟩:=I.lstM K;have j:b.toArray.size*k.toNat<=Wb:=by rw[WA,<- L];exact A
 have d:¬ b.toArray.size*k.toNat>(2^63-1)/8:=by
  have:(Wb:Nat)<=(2^63-1)/8:=by decide
  omega
 have i:¬ (!Builtin.List.listFitsIndex k)=true:=by rw[fitsIndex_both G J];exact Wu
 have c:¬ YS (b.toArray.size*k.toNat)=true:=by rw[CI j];exact Wu
 have o:a3p (λp w=>p++w) #[] (WH (if b.toArray.isEmpty=c7 then 0 else k.toNat) b.toArray)=(WH k.toNat b).flatten.toArray:=by
  have E:∀m:Nat,a3p (λp w=>p++w) #[] (WH m b.toArray)=(WH m b).flatten.toArray:=λm=>by have:=CH b m [];rw[Yj]at this;exact this
  rw[E];cases b with
  |nil=>simp|cons a R=>rw[if_neg (by simp)]
 refine wpAny_binaryOp_repeat_ref (T:="list") (U:="int") (by decide) ⟨_,e,rfl⟩ (λO=>a4y O k t) noFill_list_mul F.fills_int_mul F.slot_int_rmul repeat_list F.slot_int_index.lookup
  (a1r F.slot_int_rmul (a4y s k t) F.entry_int_rmul (F.args_int_rmul_2 _ _) (int___rmul___int_list k t l b.toArray n)
   ⟨e,rfl,⟨_,e,rfl⟩,a1r F.slot_list_mul ⟨_,e,rfl⟩ F.entry_list_mul (F.args_list_mul_2 _ _) (AutoListH.list___mul___list_int_3 l b.toArray n k t i d c) ⟨e,?_⟩⟩)
 rw[o];exact⟨.ref _,_,I.lnew (t':=s.toks) (r.rep k.toNat) (by rw[Kt,Nat.mul_comm];exact A),rfl,q _ I.fresh⟩
end
section
variable{prog:Wv}{w:WO}{A:WJ}{E:Value->V1->Prop}{s:V1}
end
section
variable{X:Cx}
end
end L2
namespace Att
open PySem PySem.W PySem.Calls PyProof.Rows
theorem Kv{P:Xi}{h:Xo}:∀(ns:List Int)(vs:List Value),WellAll P h vs (ns.map ZC)->a3M vs ns:=by
 intro ns;induction ns with
 |nil=>intro vs w;rw[a0T]at w;cases w;exact .nil|cons n ns c=>
  intro vs w;rw[We]at w;cases w with
  |cons a b=>cases a;exact .cons _ _ (c _ b)
theorem script_of{l:OpenLaw}{n:Nat}(x:l.most=b4 n){P:Xi}{h:Xo}{args:List WData}{e:List Value}
  (c:l.row.toRowW.claim.pre args=c7)(p:WellAll P h e args) :
  ∃a s b,e=[Wg a]/\args=[WData.list (b.map ZC)]/\h.get? a=b4 {cls:=.type "list",data:=.seq s.toArray}/\a3M s b/\b.length<=n:=by
 have o:WShape.hasAll [] args [.list .int]=true:=(pre_splitW c).1;have hc:l.pre.holds [] {args:=args}=true:=(pre_splitW c).2;obtain⟨d,r,rfl,u,v⟩:=hasAllW_cons o;obtain rfl:=hasAllW_nil v;obtain⟨E,rfl,w⟩:=hasW_list u;obtain⟨b,rfl⟩:=items_int w;have j:b.length<=n:=by
  unfold OpenLaw.pre at hc;have k:(WTm.not (.lt (.lit (.int (n:Int))) (.len (.arg 0)))).holds [] {args:=[.list (b.map .int)]}=true:=by have k:=(holds_andW hc).1;rw[x]at k;exact k
  have m:=condW_of k (w_not (w_lt w_lit (w_len_list (w_arg rfl))));rw[V0]at m;refine Nat.le_of_not_lt λq=>?_;have z:(n:Int)<((b.length:Nat):Int):=by omega
  first
   |(rw[decide_eq_true z]at m;exact absurd m (by decide))|(simp at m;omega)
 cases p with
 |cons A B=>
  cases B;cases A with
  |list y i=>exact⟨_,_,b,rfl,rfl,y,Kv b _ i,j⟩
theorem post_true(l:OpenLaw)(args:List WData):l.row.toRowW.claim.post args (.bool c7) args=true:=
 postW_of (r:=l.row.toRowW) (X:=(c7==c7))
  (show a4R [] (.bool c7) .bool=c7 by first|rfl|decide|simp[a4R,WShape.arms,WShape.armsAll])
  (show(WTm.eq .res (.lit (.bool c7))).value [] {args:=args,res:=b4 (.bool c7),after:=args}=b4 (.bool (c7==c7))from w_eq_bool (w_res rfl) w_lit) rfl
section
variable{prog:Wv}{w:WO}{A:WJ}{E:Value->V1->Prop}{s:V1}{K:Frag}
end
end Att
namespace L2
open PySem PySem.Spec PyProof.Rows
theorem CP:∀{vs:List Value}{ns:List Int},a3M vs ns->Vals (ns.map V.int) vs
 |_,_,.nil=>.nil|_,_,.cons n t h=>.cons ⟨t,rfl⟩ (CP h)
noncomputable def CQ(H:Hp):Prop:=∀b,H b=c4\/∃o xs,H b=b4 (.frz o (.lst xs))
theorem law_call{P:Wv}{w:WO}{K:VU}{N mb:Str->Option Value}{CX:gU}{k:Nat}{T a:Addr}{fd:W8}{x:Str}{sp:Sp}{c:V1}{vs:List Value}{ns:List Int}
  (KX:K.In c.heap)(J:c.heap.Ns WZ N)(i:c.heap.Ns a4A mb)(X:∀x:Str,x ≠ "__name__"->mb x=XW x) (I:c.heap.NoLimit)(hg:c.gens=#[])
  (Q:c.heap.get? a=b4 {cls:=.type "list",data:=.seq vs.toArray}) (hi:a3M vs ns)(hl:ns.length<=Wb)(hr:Room k a1G)
  (F:∀j:Xo,K.In j->j.Ns WZ N->FnOk P w K N j CX k T fd [x] sp)(A:∀(s:V1)(u:Value),a0Y s fd ⟨[u],[]⟩ [(x,u)])
  (Z:∀H:Hp,CQ H->SqL K H a (ns.map V.int)->sp [.ref a] H (λv _=>v=.bl c7) λ_ _ _=>False)
  (U:∀H e l,CX [] H c (λ_ _ _=>False) e l->False) :
  ZI (WC P w) a1G (.call (.ref T) ⟨[.ref a],[]⟩) (λr l=>r=.ok (.ret (.bool c7))/\OldK c.heap l.heap/\l.os=c.os/\a0d l.gens) c:=by
 have rv:=CP hi;have M:=hi.length
  -- from an abstract heap in which nothing but the script may be tracked
 have y:∀H:Hp,CQ H->SqL K H a (ns.map V.int)->HOk P w H c.heap->(∀b,H b≠c4->b=a)->(H a≠c4->K.lookup a=c4)->
   ZI (WC P w) a1G (.call (.ref T) ⟨[.ref a],[]⟩) (λr l=>r=.ok (.ret (.bool c7))/\OldK c.heap l.heap/\l.os=c.os/\a0d l.gens) c:=by
  intro H hO hS hok hA hK;have iZ:∀{b:Addr}{o:Obj},c.heap.get? b=b4 o->H b=c4->(kG c.heap H).get? b=b4 o:=λe n=>HW e n;have noA:∀{b:Addr}{o:Obj}{es:Array DictEntry}{E:Nat},c.heap.get? b=b4 o->o.data=.dict es E->H b=none:=λ{b o es E} e d=>by
   cases q:H b with
   |none=>rfl|some u=>have R:b=a:=hA b (by rw[q];simp);subst R;rw[Q]at e;cases e;have d':Data.seq vs.toArray _=YL es E:=d;cases d'
  have p:∀{b:Addr}{m:Str->Option Value},c.heap.Ns b m->(kG c.heap H).Ns b m:=λ{b m} ⟨o,es,E,e,d,r⟩=>⟨o,es,E,iZ e (noA e d),d,r⟩;have G:K.In (kG c.heap H):=λb o e=>iZ (KX b o e) (by
   cases q:H b with
   |none=>rfl|some u=>
    have R:b=a:=hA b (by rw[q];simp);subst R;rw[hK (by rw[q];simp)]at e;cases e)
  have hM:Mod K N (kG c.heap H):=⟨G,p J,⟨mb,p i,X⟩,let⟨mc,h1,h2⟩:=I;⟨mc,p h1,h2⟩⟩;have e0:Env0 P w K N (kG c.heap H) a1G [] c H:=⟨rfl,hM,λb o e=>HX e,a1h (HV _ _),trivial,λb i=>absurd (show b∈([]:List Addr)from i) (by simp),hok,.of_eq hg⟩;refine Yv ((F _ G (p J)).run a1G [] c H ⟨[.ref a],[]⟩ [.ref a] [.ref a] _ _ hr e0 (A c (.ref a)) (.cons rfl .nil) (Z H hO hS)) λr l h=>?_;cases r with
  |error e=>exact(U H e l h).elim|ok fl=>
   cases fl with
   |next=>exact Wo h|brk=>exact Wo h|cont=>exact Wo h|ret u=>
    obtain⟨v,H',os,B,un,L,r',q⟩:=h;have q':v=.bl true:=q;subst q';obtain rfl:u=Xx true:=r';refine⟨rfl,OldK.of_keep λb o e=>?_,os,B⟩;cases q:H b with
    |none=>exact un.keep b o e q (by intro z;exact absurd (show b∈([]:List Addr)from z) (by simp)) (by simp)|some u=>
     rcases hO b with z|⟨ob,xs,z⟩
     ·rw[q]at z;cases z
     ·have z2:=un.frzs b ob _ z;obtain⟨e1,_⟩:=hok b _ z;obtain⟨e2,_⟩:=L b _ z2;rw[e]at e1;cases e1;exact e2
 cases Y:K.lookup a with
 |some o=>-- the script is one of the module's own objects
  have e:=KX a o Y;rw[Q]at e;cases e;refine y (λ_=>c4) (λ_=>.inl rfl) (.inr ⟨_,vs.toArray,_,Y,rfl,rfl,rfl,by rw[WA,M];exact hl,by simpa using rv⟩) (λb u z=>by have O:(c4:Option HO)=b4 u:=z;cases O) (λb z=>absurd rfl z) λz=>absurd rfl z
 |none=>
  refine y (λb=>if b=a then b4 (.frz {cls:=.type "list",data:=.seq vs.toArray} (.lst (ns.map V.int)))else c4) (λb=>?_) (.inl (.inr ⟨{cls:=.type "list",data:=.seq vs.toArray},if_pos rfl⟩)) (λb u z=>?_) (λb z=>?_) λ_=>Y
  ·by_cases i:b=a
   ·exact .inr ⟨_,_,if_pos i⟩
   ·exact .inl (if_neg i)
  ·by_cases i:b=a
   ·have O:=(if_pos i).symm.trans z;cases O;subst i;exact⟨Q,by rw[V0];exact hl,vs,_,rv,Q⟩
   ·have O:=(if_neg i).symm.trans z;cases O
  ·by_cases i:b=a
   ·exact i
   ·exact absurd (if_neg i) z
end L2
namespace L2
open PySem PySem.Spec PyProof.Rows
end L2
namespace L2
open PySem PySem.Spec PyProof.Rows
noncomputable def fQ(s:Stmt):a5m:=match s with
 |.FunctionDef _ a _ _ _ _ _ _ _ _=>a|_=>{posonlyargs:=[],args:=[],vararg:=c4,kwonlyargs:=[],kw_defaults:=[],kwarg:=c4,defaults:=[]}
noncomputable def dC(s:Stmt):List Stmt:=match s with
 |.FunctionDef _ _ b _ _ _ _ _ _ _=>b|_=>[]
noncomputable def bN(s:Stmt):Yl:=match s with
 |.FunctionDef _ _ _ _ _ _ sc _ _ _=>sc|_=>{kind:=.function,names:=[],isGenerator:=c6,isCoroutine:=c6}
noncomputable abbrev dB:gU:=λ_ _ _ _ _ _=>False
noncomputable abbrev E0:XK:=λ_ _ _=>False
theorem nB{X:Cx}:jM dB X E0:=λ_ _ _ _ _ _ _ h=>h.elim
structure Fun(K:VU)(x qual:Str)(st:Stmt)(f:Addr)(fd:W8):Prop where
 ex:∃(oc:Value)(od:Option Addr)(dV kV doc pm:Value)(an:Option Addr)(cdv ct:Value)(osl:Array (Option Value)),
  fd=Xm x qual (fQ st) (dC st) (bN st) dV kV doc pm an cdv ct/\K.lookup f=b4 ⟨oc,od,.func fd,osl⟩/\Zc K cdv qual=c7
 kp:Xe K (.ref f)=c7
section
variable{P:Wv}{w:WO}{K:VU}{mg:Str->Option Value}{base:Xo}
theorem Fun.ok{x a:Str}{st:Stmt}{f:Addr}{i:W8}{N ps:List Str}{k:Nat}{sp:Sp}(F:Fun K x a st f i)(S:FnScope N ps (bN st))(len:∀vs H Q E,sp vs H Q E->vs.length=ps.length)
  (c:∀(b:Value)(A:WJ)(outer:List ZS)(s:V1)(H:Hp)(vs:List V)(Q:VK)(E:XK),Room k (A.deeper (envOfC a (bN st) s.heap.objs.size f b))->sp vs H Q E->
   ∃t,PSs (fA dB P w K mg base N a (bN st) f b A outer s H E).nox (dC st) t/\t {nx:=λ_ j=>Q .non j,rt:=Q} (start N vs) H):FnOk P w K mg base dB (k+1) f i ps sp:=by
 obtain⟨r,u,p,kV,l,v,o,b,ct,n,rfl,lk,d⟩:=F.ex;refine Cp lk d S len λA outer s H vs Q E m e=>?_;obtain⟨t,h,q⟩:=c b A outer s H vs Q E m e;exact⟨t,h.nox,q⟩
theorem uE{x a:Str}{st:Stmt}{f:Addr}{m:Value}{n h:Option Addr}{e:Array (Option Value)}{i kV d j b ct:Value}(l:K.lookup f=b4 ⟨m,n,.func (Xm x a (fQ st) (dC st) (bN st) i kV d j h b ct),e⟩)
  (c:Zc K b a=c7)(k:Xe K (.ref f)=c7):Fun K x a st f (Xm x a (fQ st) (dC st) (bN st) i kV d j h b ct):=⟨⟨m,n,i,kV,d,j,h,b,ct,e,rfl,l,c⟩,k⟩
end
theorem Kw{A:WJ}{k:Nat}(a:Room k A):A.units+1<Yt:=Nat.lt_of_le_of_lt (Nat.add_le_add_left (by decide:1<=64) _) a.units
section
variable{X:Cx}
end
theorem nC{A B:Prop}(h:B):if c6=c7 then A else B:=by rw[if_neg Wu];exact h
theorem nD{A B:Prop}(h:A):if c7=c7 then A else B:=by rw[if_pos rfl];exact h
noncomputable def Same(H H':Hp):Prop:=∀b o,H b=b4 o->H' b=b4 o
theorem Same.trans{H d e:Hp}(a:Same H d)(b:Same d e):Same H e:=λc o h=>b c o (a c o h)
theorem Same.free{H H':Hp}(e:Same H H'){l:Addr}(h:H' l=a4D):H l=a4D:=by
 cases q:H l with
 |none=>rfl|some o=>rw[e l o q]at h;cases h
theorem Same.seq{K:VU}{H H':Hp}{a:Addr}{xs:List V}(e:Same H H')(h:SqL K H a xs):SqL K H' a xs:=by
 rcases h with(h|⟨o,h⟩)|h
 ·exact .inl (.inl (e _ _ h))
 ·exact .inl (.inr ⟨o,e _ _ h⟩)
 ·exact .inr h
section
variable{κ:Type} [DecidableEq κ]
end
end L2
namespace L3
open PySem PySem.W
theorem left_cut{p q:Wv}{loose:List Str}{Xt:V1 → Bool}{Q:Type}{Yf:V1 → Q}{Ya:WO → Q}{N:Nat}{A:Bool}{hA hB hC hD:Xi → Xo}{kA B E G b:Nat}{i:Option Value}{v m n o u n4:Nat}{env:ZS}{l H x I J K:XD}{i1 i2 i3:Nat}
  (j:∀w:WO,(fencedOpening Yq p w N).map (λs=>(s.heap,s.gens,s.drawn,s.toks))=b4 (Zs w.params,WX [],Xr,a2b))
  (size:∀w:WO,((Zs w.params).isNs WZ,(Zs w.params).objs.size,(Zs w.params).nsMap WZ "__annotations__")=(c7,b,i))
  (z:∀(w:WO)(a:ZW),topGo Yq p w b i v ⟨Zs w.params,WX [],Xr,a2b,a⟩ (topStub p)=b4 (⟨hA w.params,WX [],Xr,kA,a⟩,⟨denote Yq (.body (Wx p) env),.body (Wx p) env,H,[Zz l]⟩))
  (y:∀(w:WO)(a:ZW),a1V Yq p w b i 1 m ⟨hA w.params,WX [],Xr,kA,a⟩ (blockOf (Wx p) env (.body (Wx p) env) H [Zz l])=b4 (.next,⟨hA w.params,WX [],Xr,kA,a⟩,.body (Wx p) env,x))
  (s1:∀(w:WO)(a:ZW),a1V Yq p w b i 1 n ⟨hA w.params,WX [],Xr,kA,a⟩ (a1F ((Wx p).take i1) env (.body (Wx p) env) x [Zz l])=b4 (.next,⟨hB w.params,WX [],Xr,B,a⟩,.body (Wx p) env,I))
  (s2:∀(w:WO)(a:ZW),a1V Yq p w b i 1 o ⟨hB w.params,WX [],Xr,B,a⟩ (a1F (((Wx p).drop i1).take i2) env (.body (Wx p) env) I [Zz l])=b4 (.next,⟨hC w.params,WX [],Xr,E,a⟩,.body (Wx p) env,J))
  (s3:∀(w:WO)(a:ZW),a1V Yq p w b i 1 u ⟨hC w.params,WX [],Xr,E,a⟩ (a1F ((((Wx p).drop i1).drop i2).take i3) env (.body (Wx p) env) J [Zz l])=b4 (.next,⟨hD w.params,WX [],Xr,G,a⟩,.body (Wx p) env,K))
  (aS:∀(w:WO)(a:ZW),((topRun Yq p w b i n4 ⟨hD w.params,WX [],Xr,G,a⟩ (restOf ((((Wx p).drop i1).drop i2).drop i3) env (.body (Wx p) env) K [Zz l])).bind λc=>match staticsOk (a5p p.main.body) (Zs w.params) c.heap&&namesBound p c.heap&&gensDone c&&laidKept (Zs w.params) c.heap with
   |true=>b4 c
   |false=>c4).map (λs=>(openSeen q loose (a5p p.main.body) Xt A s,Yf s))=b4 (openGood q loose,Ya w))
  (le:Nat.ble (v+(m+(n+(o+(u+n4))))) N=c7):LeftO p q loose Xt Yf Ya N A:=λw=>by
 obtain⟨⟨h,T,d,k,a⟩,e,R⟩:=VZ.mp (j w);obtain⟨rfl,rfl,rfl,rfl⟩:h=Zs w.params ∧ T=WX [] ∧ d=Xr ∧ k=a2b:=by simpa using R
 obtain⟨z1,z2,z3⟩:_ ∧ _ ∧ _:=by simpa only[Prod.mk.injEq]using size w
 obtain⟨s,Y,Z⟩:=VZ.mp (aS w a);obtain⟨c,U,X⟩:=VT.mp Y;have O:=a4X (s3 w a) U;rw[Zt]at O;have M:=a4X (s2 w a) O;rw[Zt]at M;have L:=a4X (s1 w a) M;rw[Zt]at L;have r0:=go_top (z w a) (piece_block (y w a) L);have r:=topRun_mono (N-(v+(m+(n+(o+(u+n4)))))) _ _ _ _ r0;rw[show v+(m+(n+(o+(u+n4))))+(N-(v+(m+(n+(o+(u+n4))))))=N by have:=Nat.le_of_ble_eq_true le;omega]at r;have t:topFrom Yq p w N ⟨Zs w.params,WX [],Xr,a2b,a⟩=b4 s:=by unfold topFrom;dsimp only;rw[z1,z2,z3,r];exact X
 unfold openEnds;rw[e];show(topFrom Yq p w N _).map _=_;rw[t];exact congrArg b4 Z
end L3
namespace Lw
open PySem L2
noncomputable def aQ(i:Nat):Stmt:=Xa.main.body.getD i (.Pass ⟨0,0,0,0⟩)
noncomputable def cV(i j:Nat):Stmt:=match aQ i with|.ClassDef _ _ _ b _ _ _ _ _ _ _=>b.getD j (.Pass ⟨0,0,0,0⟩)|_=>.Pass ⟨0,0,0,0⟩
noncomputable def Vw:Wv:={Xa with main:={Xa.main with body:=aQ 1::aQ 2::aQ 3::aQ 4::aQ 5::aQ 6::aQ 7::aQ 8::aQ 9::aQ 10::aQ 11::aQ 12::aQ 13::aQ 14::aQ 16::aQ 17::aQ 18::aQ 19::aQ 20::aQ 21::aQ 22::aQ 23::aQ 24::aQ 26::aQ 27::aQ 28::aQ 29::aQ 30::aQ 31::aQ 33::aQ 34::aQ 35::aQ 36::aQ 37::aQ 39::aQ 40::aQ 41::aQ 42::aQ 43::aQ 45::aQ 46::aQ 47::aQ 48::aQ 49::aQ 50::aQ 51::aQ 53::aQ 54::aQ 55::aQ 56::aQ 57::aQ 58::aQ 59::aQ 60::aQ 61::aQ 62::aQ 63::aQ 64::aQ 65::aQ 66::[]}}
noncomputable abbrev vS(x:String)(n:Nat):Value:=a1a (XS x) n
noncomputable abbrev vI(i:Int):Value:=X3 i 0
noncomputable abbrev vR(a:Addr):Value:=Wg a
noncomputable abbrev vN:Value:=Xg
noncomputable abbrev cO(fs:Array Value):Obj:={cls:=Wc "code",data:=WK fs}
noncomputable abbrev kO(x y:String)(a b c:Nat)(l n i j k:Int)(r:Addr)(q:Int)(vs:Array Value)(t d:Int)(e:Nat):Obj:={cls:=Wc "code",data:=WK (#[vS x a,vS x b,vS y c,vI l,vI n,vI i,vI j,vI k,vR r,Xx c7,vI q]++vs++#[vI t,vI d,vS y e])}
noncomputable abbrev tO(fs:Array Value):Obj:={cls:=Wc "tuple",data:=Data.seq fs}
noncomputable abbrev fO(x:Str)(n:Nat)(m:Value)(c:Addr):Obj:=⟨Wc "function",c4,.func (Xm x x (fQ (aQ n)) (dC (aQ n)) (bN (aQ n)) Xg Xg Xg m c4 (Wg c) Xg),#[]⟩
noncomputable abbrev eO(P:Xi)(x:String)(n:Nat)(v:Value):DictEntry:={hash:=PyData.keyHash P (XS x),key:=a1a (XS x) n,val:=v}
noncomputable abbrev eR(P:Xi)(x:String)(n:Nat)(a:Addr):DictEntry:=eO P x n (vR a)
noncomputable abbrev kA(p:Addr×Obj)(R:VU):VU:=p::R
noncomputable def CS:List String → Nat → List Value
 |[],_=>[]|x::xs,n=>vS x n::CS xs (n+1)
noncomputable abbrev tN(xs:List String)(n:Nat):Obj:=tO (WX (CS xs n))
open PySem.W in
noncomputable def lA(P:Xi):List Obj:=((boot_o_0 P)::(boot_o_1 P)::(boot_o_2 P)::(boot_o_3 P)::(boot_o_4 P)::(boot_o_5 P)::(boot_o_6 P)::(boot_o_7 P)::(boot_o_8 P)::(boot_o_9 P)::(boot_o_10 P)::(tO #[])::({cls:=vN,data:=WK #[]})::(cO #[vS "<module>" 182,vS "<module>" 183,vS "/claim/cut.py" 184,vI 1,vI 0,vI 0,vI 0,vI 0,vR 11,Xx c6,vI 181,vR 12,vN,vN,vN,vN,vI 185,vI 1,vS "/claim/cut.py" 186])::({cls:=Wc "frame",slots:=#[b4 (vR 13),b4 (vR 3),b4 (vR 3),c4,b4 (vS "__main__" 164),c4,b4 (vR 0)]})::[])
open PySem.W in
noncomputable def jN(P:Xi)(a:Nat)(c:String)(d:Nat)(b:Nat)(R:List Obj):List Obj:=(tO #[vR 24])::({cls:=Wc "builtin_function_or_method",data:=WK #[W0 "type.__prepare__",Wc "type"]})::({cls:=Wc "dict",data:=YL #[eO P "__module__" a (vS "creasecourt.errors" 187),eO P "__qualname__" (a+2) (vS c (a+1)),eO P "__firstlineno__" (a+4) (X3 d (a+3)),eR P "__static_attributes__" (a+5) b] 4})::(tO #[])::({cls:=vN,data:=WK #[]})::(cO #[vS c (a-5),vS c (a-4),vS "/claim/cut.py" (a-3),vI d,vI 0,vI 0,vI 0,vI 0,vR (b-4),Xx c6,vI 181,vR (b-3),vN,vN,vN,vN,vI (a-2),vI d,vS "/claim/cut.py" (a-1)])::({cls:=Wc "frame",slots:=#[b4 (vR (b-2)),b4 (vR 3),b4 (vR (b-5)),c4,b4 (vS "creasecourt.errors" 187),c4,b4 (vR 0)]})::(tO #[])::({cls:=Wc "dict",data:=YL #[eO P "__module__" a (vS "creasecourt.errors" 187),eO P "__firstlineno__" (a+4) (X3 d (a+3)),eR P "__static_attributes__" (a+5) b,eO P "__doc__" (a+6) vN] 2})::({cls:=Wc "type",data:=a1P {name:=XS c,bases:=[vR 24],mro:=[vR (b+2),vR 24,Wc "ValueError",Wc "Exception",Wc "BaseException",Wc "object"],ns:=(b+1),qualname:=XS c},slots:=#[b4 (vR (b-7)),c4,b4 (vS c (a-7)),b4 (vS c (a+1)),b4 (W0 "ValueError.__new__"),b4 (Xx c7)]})::({cls:=Wc "super",data:=WK #[vR (b+2),vR (b+2),vR (b+2)]})::({cls:=Wc "builtin_function_or_method",data:=WK #[W0 "object.__init_subclass__",vR (b+2)]})::R
open PySem.W in
noncomputable def yA(P:Xi)(a:Nat)(c:String)(d:Nat)(b:Nat)(i:List String)(h:String)(e:Nat)(j:List String)(R:List Obj):List Obj:=(tO #[vR 24])::({cls:=Wc "builtin_function_or_method",data:=WK #[W0 "type.__prepare__",Wc "type"]})::({cls:=Wc "dict",data:=YL #[eO P "__module__" a (vS "creasecourt.errors" 187),eO P "__qualname__" (a+2) (vS c (a+1)),eO P "__firstlineno__" (a+4) (X3 d (a+3)),eR P "__init__" (a+12) b,eR P "__static_attributes__" (a+14) (b+1)] 5})::(tO #[])::({cls:=vN,data:=WK #[vI (d+2),vI 4,vR (b-1)]})::(cO #[vS c (a-5),vS c (a-4),vS "/claim/cut.py" (a-3),vI d,vI 0,vI 0,vI 0,vI 0,vR (b-10),Xx c6,vI 181,vR (b-9),vN,vN,vN,vN,vI (a-2),vI d,vS "/claim/cut.py" (a-1)])::({cls:=Wc "frame",slots:=#[b4 (vR (b-8)),b4 (vR 3),b4 (vR (b-11)),c4,b4 (vS "creasecourt.errors" 187),c4,b4 (vR 0)]})::(tO #[])::({cls:=vN,data:=WK #[]})::(tN i (a+8))::(tO #[])::(⟨vN,c4,.func ({Xm "__init__" h (fQ (cV e 0)) (dC (cV e 0)) (bN (cV e 0)) vN vN vN vN (c4) vN vN with globals:=0}),#[]⟩)::(cO #[vS "__init__" (a+5),vS h (a+6),vS "/claim/cut.py" (a+7),vI (d+2),vI 2,vI 0,vI 0,vI 3,vR (b-6),Xx c7,vI 181,vR (b-5),vN,vR (b-4),vR (b-3),vR (b-2),vI (a+10),vI (d+2),vS "/claim/cut.py" (a+11)])::(⟨Wc "function",c4,.func (Xm "__init__" h (fQ (cV e 0)) (dC (cV e 0)) (bN (cV e 0)) vN vN vN (vS "creasecourt.errors" 187) (c4) (vR (b-1)) vN),#[]⟩)::(tN j (a+13))::({cls:=Wc "dict",data:=YL #[eO P "__module__" a (vS "creasecourt.errors" 187),eO P "__firstlineno__" (a+4) (X3 d (a+3)),eR P "__init__" (a+12) b,eR P "__static_attributes__" (a+14) (b+1),eO P "__doc__" (a+15) vN] 2})::({cls:=Wc "type",data:=a1P {name:=XS c,bases:=[vR 24],mro:=[vR (b+3),vR 24,Wc "ValueError",Wc "Exception",Wc "BaseException",Wc "object"],ns:=(b+2),qualname:=XS c},slots:=#[b4 (vR (b-13)),c4,b4 (vS c (a-7)),b4 (vS c (a+1)),b4 (W0 "ValueError.__new__"),b4 (Xx c7)]})::({cls:=Wc "super",data:=WK #[vR (b+3),vR (b+3),vR (b+3)]})::({cls:=Wc "builtin_function_or_method",data:=WK #[W0 "object.__init_subclass__",vR (b+3)]})::R
open PySem.W in
noncomputable def cD(i:List String)(b:Nat)(c:String)(d:Nat)(e:Nat)(j:Nat)(a:Nat)(h:Nat)(k:String)(l:Nat)(R:List Obj):List Obj:=(tO #[])::({cls:=vN,data:=WK #[]})::(tN i b)::(tO #[])::(⟨vN,c4,.func ({Xm c c (fQ (aQ d)) (dC (aQ d)) (bN (aQ d)) vN vN vN vN (c4) vN vN with globals:=0}),#[]⟩)::(kO c "/claim/cut.py" (b-3) (b-2) (b-1) e j 0 0 3 a 181 #[vR (a+1),vN,vR (a+2),vR (a+3),vR (a+4)] h e (h+1))::(fO c d (vS k l) (a+5))::R
open PySem.W in
noncomputable def nE(b:String)(c:Nat)(a:Nat)(e:Nat)(h:Nat)(d:Nat)(i:String)(j:Nat)(R:List Obj):List Obj:=(tO #[])::({cls:=vN,data:=WK #[]})::(⟨vN,c4,.func ({Xm b b (fQ (aQ c)) (dC (aQ c)) (bN (aQ c)) vN vN vN vN (c4) vN vN with globals:=0}),#[]⟩)::(kO b "/claim/cut.py" a (a+1) (a+2) e h 0 0 3 d 181 #[vR (d+1),vN,vN,vN,vR (d+2)] (a+3) e (a+4))::(fO b c (vS i j) (d+3))::R
open PySem.W in
noncomputable def nF(b:String)(c:String)(a:Nat)(R:List Obj):List Obj:=(⟨vN,c4,.func ({Xm b c (fQ (cV 51 a)) (dC (cV 51 a)) (bN (cV 51 a)) vN vN vN vN (c4) vN vN with globals:=0}),#[]⟩)::R
open PySem.W in
noncomputable def oK(e:String)(b:Nat)(h:String)(c:Nat)(i:Nat)(a:Nat)(d:Nat)(R:List Obj):List Obj:=(cO #[vS e b,vS h (b+1),vS "/claim/cut.py" (b+2),vI c,vI i,vI 0,vI 0,vI 3,vR a,Xx c7,vI 181,vR (a+1),vN,vR (a+2),vR (a+3),vR (a+4),vI d,vI c,vS "/claim/cut.py" (d+1)])::R
open PySem.W in
noncomputable def oM(b:String)(c:String)(a:Nat)(d:Nat)(R:List Obj):List Obj:=(⟨Wc "function",c4,.func (Xm b c (fQ (cV 51 a)) (dC (cV 51 a)) (bN (cV 51 a)) vN vN vN (vS "creasecourt.folding" 649) (c4) (vR d) vN),#[]⟩)::R
open PySem.W in
noncomputable def lN(P:Xi):List DictEntry:=[eO P "__doc__" 166 vN,eO P "__package__" 167 vN,eO P "__loader__" 168 (W0 "__main__.__loader__#opaque"),eO P "__spec__" 169 vN,eR P "__annotations__" 170 6,eR P "__builtins__" 171 4,eO P "__file__" 173 (vS "/claim/cut.py" 172),eO P "__cached__" 174 vN,eR P "CreaseError" 206 24,eR P "NoSize" 222 37,eR P "NoMark" 238 49,eR P "NoText" 254 61,eR P "NoRound" 270 73,eR P "NoOrder" 286 85,eR P "TooMany" 302 97,eR P "NoFold" 318 109,eR P "NoRow" 334 121,eR P "NoName" 350 133,eR P "Taken" 366 145,eR P "NoEdge" 391 164,eR P "Twice" 416 183,eR P "Barred" 441 202,eR P "is_whole" 450 211,eR P "is_edge" 457 218,eR P "is_quarter" 464 225,eR P "line_of" 471 232,eR P "beside" 480 239,eR P "sides_of" 486 244,eR P "number_by" 494 251,eR P "hand_of" 504 258,eR P "mirrored" 516 265,eR P "STILL" 525 266,eR P "laying_by" 534 273,eR P "mirror_in" 541 280,eR P "led" 551 287,eR P "then" 559 294,eR P "is_turned" 566 301,eR P "is_size" 575 308,eR P "check_size" 583 315,eR P "places_within" 589 320,eR P "quarters_in" 595 325,eR P "edges_in" 601 330,eR P "heights_in" 614 337,eR P "is_above" 623 344,eR P "turned_first" 632 351,eR P "mark_by_heights" 642 358,eR P "marks_by" 648 363,eR P "copied_piles" 660 370,eR P "folded_layings" 674 377,eR P "folded_piles" 690 384,eR P "check_fold" 696 389,eR P "creased_edges" 708 396,eR P "unfolded" 719 403,eR P "Folding" 797 461,eR P "_law_cell" 808 472,eR P "_law_quarters" 819 479,eR P "_law_led" 833 486,eR P "_law_over" 849 493,eR P "_law_value" 857 500,eR P "_law_begun" 868 507,eR P "_law_folded" 874 512,eR P "_law_plan" 889 519,eR P "_law_class" 897 526,eR P "_law_no_size" 907 533,eR P "_law_do" 919 540,eR P "_law_deed" 934 547,eR P "_law_stands" 942 554,eR P "law" 959 561]
noncomputable def lM:List Value:=List.flatMap (λp:Nat×Nat=>[vI p.1,vI 0,vR p.2]) [(2,20),(4,33),(6,45),(8,57),(10,69),(12,81),(14,93),(16,105),(18,117),(20,129),(22,141),(24,153),(29,172),(34,191),(40,210),(42,217),(46,224),(50,231),(54,238),(58,243),(60,250),(68,257),(74,264),(88,272),(90,279),(92,286),(96,293),(98,300),(101,307),(103,314),(106,319),(111,324),(113,329),(116,336),(122,343),(124,350),(129,357),(132,362),(136,369),(141,376),(148,383),(160,388),(164,395),(171,402),(178,409),(212,471),(219,478),(226,485),(229,492),(239,499),(241,506),(248,511),(268,518),(280,525),(285,532),(292,539),(309,546),(330,553),(332,560)]
open PySem.W in
noncomputable def lB(P:Xi):List Obj:=(((lA P).set 3 ({cls:=Wc "dict",data:=YL (WX (eO P "__name__" 165 (vS "creasecourt.errors" 187)::(lN P).take 18)) 19})).set 12 ({cls:=vN,data:=WK (WX (lM.take 30))}))++((tO #[Wc "ValueError"])::(({cls:=Wc "builtin_function_or_method",data:=WK #[W0 "type.__prepare__",Wc "type"]})::(({cls:=Wc "dict",data:=YL #[eO P "__module__" 196 (vS "creasecourt.errors" 187),eO P "__qualname__" 198 (vS "CreaseError" 197),eO P "__firstlineno__" 200 (X3 2 199),eR P "__static_attributes__" 201 22] 4})::((tO #[])::(({cls:=vN,data:=WK #[]})::((cO #[vS "CreaseError" 191,vS "CreaseError" 192,vS "/claim/cut.py" 193,vI 2,vI 0,vI 0,vI 0,vI 0,vR 18,Xx c6,vI 181,vR 19,vN,vN,vN,vN,vI 194,vI 2,vS "/claim/cut.py" 195])::(({cls:=Wc "frame",slots:=#[b4 (vR 20),b4 (vR 3),b4 (vR 17),c4,b4 (vS "creasecourt.errors" 187),c4,b4 (vR 0)]})::((tO #[])::(({cls:=Wc "dict",data:=YL #[eO P "__module__" 196 (vS "creasecourt.errors" 187),eO P "__firstlineno__" 200 (X3 2 199),eR P "__static_attributes__" 201 22,eR P "__weakref__" 203 25,eO P "__doc__" 204 vN] 3})::(({cls:=Wc "type",data:=a1P {name:=XS "CreaseError",bases:=[Wc "ValueError"],mro:=[vR 24,Wc "ValueError",Wc "Exception",Wc "BaseException",Wc "object"],ns:=23,qualname:=XS "CreaseError",subclasses:=[vR 37,vR 49,vR 61,vR 73,vR 85,vR 97,vR 109,vR 121,vR 133]},slots:=#[b4 (vR 15),c4,b4 (vS "CreaseError" 189),b4 (vS "CreaseError" 197),b4 (W0 "ValueError.__new__"),b4 (Xx c7)]})::(({cls:=Wc "getset_descriptor",data:=WK #[vS "__weakref__" 202,vR 24,W0 "ExceptionGroup.__weakref__",vN]})::(({cls:=Wc "super",data:=WK #[vR 24,vR 24,vR 24]})::(({cls:=Wc "builtin_function_or_method",data:=WK #[W0 "object.__init_subclass__",vR 24]})::(jN P 214 "NoSize" 4 35 (jN P 230 "NoMark" 6 47 (jN P 246 "NoText" 8 59 (jN P 262 "NoRound" 10 71 (jN P 278 "NoOrder" 12 83 (jN P 294 "TooMany" 14 95 (jN P 310 "NoFold" 16 107 (jN P 326 "NoRow" 18 119 (jN P 342 "NoName" 20 131 []))))))))))))))))))))))
open PySem.W in
noncomputable def lC(P:Xi):List Obj:=((((lB P).set 3 ({cls:=Wc "dict",data:=YL (WX (eO P "__name__" 165 (vS "creasecourt.folding" 649)::(lN P).take 52)) 53})).set 12 ({cls:=vN,data:=WK (WX (lM.take 129))})).set 24 ({cls:=Wc "type",data:=a1P {name:=XS "CreaseError",bases:=[Wc "ValueError"],mro:=[vR 24,Wc "ValueError",Wc "Exception",Wc "BaseException",Wc "object"],ns:=23,qualname:=XS "CreaseError",subclasses:=[vR 37,vR 49,vR 61,vR 73,vR 85,vR 97,vR 109,vR 121,vR 133,vR 145,vR 164,vR 183,vR 202]},slots:=#[b4 (vR 15),c4,b4 (vS "CreaseError" 189),b4 (vS "CreaseError" 197),b4 (W0 "ValueError.__new__"),b4 (Xx c7)]}))++(jN P 358 "Taken" 22 143 (yA P 374 "NoEdge" 24 161 ["self","edge"] "NoEdge.__init__" 12 ["edge"] (yA P 399 "Twice" 29 180 ["self","edge"] "Twice.__init__" 13 ["edge"] (yA P 424 "Barred" 34 199 ["self","corner"] "Barred.__init__" 14 ["corner"] (cD ["value"] 447 "is_whole" 16 40 1 205 448 "creasecourt.places" 442 (cD ["place"] 454 "is_edge" 17 42 1 212 455 "creasecourt.places" 442 (cD ["place"] 461 "is_quarter" 18 46 1 219 462 "creasecourt.places" 442 (cD ["edge"] 468 "line_of" 19 50 1 226 469 "creasecourt.places" 442 (cD ["place","x","y"] 475 "beside" 20 54 1 233 478 "creasecourt.places" 442 (nE "sides_of" 21 481 58 1 240 "creasecourt.places" 442 (cD ["line","place"] 490 "number_by" 22 60 2 245 492 "creasecourt.places" 442 (cD ["place","edge","line","ahead"] 498 "hand_of" 23 68 2 252 502 "creasecourt.places" 442 (cD ["place","edge","x","y","line","number"] 508 "mirrored" 24 74 2 259 514 "creasecourt.places" 442 ((tO #[X3 1 519,X3 0 520,X3 0 521,X3 1 522,X3 0 523,X3 0 524])::(cD ["start","right","down"] 529 "laying_by" 27 88 3 267 532 "creasecourt.layings" 517 (cD ["edge"] 538 "mirror_in" 28 90 1 274 539 "creasecourt.layings" 517 (cD ["laying","place","x","y"] 545 "led" 29 92 2 281 549 "creasecourt.layings" 517 (cD ["one","other"] 555 "then" 30 96 2 288 557 "creasecourt.layings" 517 (cD ["laying"] 563 "is_turned" 31 98 1 295 564 "creasecourt.layings" 517 (cD ["value"] 572 "is_size" 33 101 1 302 573 "creasecourt.sheets" 567 (cD ["wide","high"] 579 "check_size" 34 103 2 309 581 "creasecourt.sheets" 567 (nE "places_within" 35 584 106 2 316 "creasecourt.sheets" 567 (nE "quarters_in" 36 590 111 2 321 "creasecourt.sheets" 567 (nE "edges_in" 37 596 113 2 326 "creasecourt.sheets" 567 (cD ["piles","heights","pile","height","quarter"] 607 "heights_in" 39 116 1 331 612 "creasecourt.piles" 602 (cD ["heights","one","other"] 618 "is_above" 40 122 3 338 621 "creasecourt.piles" 602 (cD ["layings","edge","sides"] 627 "turned_first" 41 124 2 345 630 "creasecourt.piles" 602 (cD ["heights","layings","edge","sides"] 636 "mark_by_heights" 42 129 3 352 640 "creasecourt.piles" 602 (nE "marks_by" 43 643 132 3 359 "creasecourt.piles" 602 (cD ["piles","told","place","pile"] 654 "copied_piles" 45 136 1 364 658 "creasecourt.folding" 649 (cD ["layings","edge","side","mirror","told","quarter","laying","goes"] 664 "folded_layings" 46 141 3 371 672 "creasecourt.folding" 649 (cD ["piles","edge","side","over","told","place","pile","goal","coming","there"] 678 "folded_piles" 47 148 4 378 688 "creasecourt.folding" 649 (nE "check_fold" 48 691 160 2 385 "creasecourt.folding" 649 (cD ["wide","high","layings","told","edge","sides"] 700 "creased_edges" 49 164 3 390 706 "creasecourt.folding" 649 []))))))))))))))))))))))))))))))))))
open PySem.W in
noncomputable def lD(P:Xi):List Obj:=(((lC P).set 3 ({cls:=Wc "dict",data:=YL (WX (eO P "__name__" 165 (vS "law_creasecourt_k82_back_and_refused" 798)::(lN P).take 68)) 69})).set 12 ({cls:=vN,data:=WK (WX (lM.take 177))}))++(cD ["wide","high","layings","piles","quarter"] 712 "unfolded" 50 171 2 397 717 "creasecourt.folding" 649 ((tO #[])::(({cls:=Wc "builtin_function_or_method",data:=WK #[W0 "type.__prepare__",Wc "type"]})::(({cls:=Wc "dict",data:=YL #[eO P "__module__" 727 (vS "creasecourt.folding" 649),eO P "__qualname__" 729 (vS "Folding" 728),eO P "__firstlineno__" 731 (X3 178 730),eR P "__init__" 740 417,eR P "fold" 752 425,eR P "back" 759 432,eR P "many" 766 439,eR P "layings" 773 446,eR P "piles" 780 453,eR P "sheet" 786 458,eR P "__static_attributes__" 790 459] 11})::((tO #[])::(({cls:=vN,data:=WK #[vI 180,vI 4,vR 416,vI 186,vI 4,vR 424,vI 192,vI 4,vR 431,vI 197,vI 4,vR 438,vI 200,vI 4,vR 445,vI 203,vI 4,vR 452,vI 206,vI 4,vR 457]})::((cO #[vS "Folding" 722,vS "Folding" 723,vS "/claim/cut.py" 724,vI 178,vI 0,vI 0,vI 0,vI 0,vR 407,Xx c6,vI 181,vR 408,vN,vN,vN,vN,vI 725,vI 178,vS "/claim/cut.py" 726])::(({cls:=Wc "frame",slots:=#[b4 (vR 409),b4 (vR 3),b4 (vR 406),c4,b4 (vS "creasecourt.folding" 649),c4,b4 (vR 0)]})::((tO #[])::(({cls:=vN,data:=WK #[]})::((tN ["self","wide","high"] 735)::((tO #[])::(nF "__init__" "Folding.__init__" 0 (oK "__init__" 732 "Folding.__init__" 180 3 411 738 (oM "__init__" "Folding.__init__" 0 416 ((tO #[Xx c7,Xx c7])::((tO #[])::(({cls:=vN,data:=WK #[]})::((tN ["self","edge","ahead","over","now","side"] 744)::((tO #[])::(nF "fold" "Folding.fold" 1 (oK "fold" 741 "Folding.fold" 186 4 419 750 ((⟨Wc "function",c4,.func (Xm "fold" "Folding.fold" (fQ (cV 51 1)) (dC (cV 51 1)) (bN (cV 51 1)) (vR 418) vN vN (vS "creasecourt.folding" 649) (c4) (vR 424) vN),#[]⟩)::((tO #[])::(({cls:=vN,data:=WK #[]})::((tN ["self"] 756)::((tO #[])::(nF "back" "Folding.back" 2 (oK "back" 753 "Folding.back" 192 1 426 757 (oM "back" "Folding.back" 2 431 ((tO #[])::(({cls:=vN,data:=WK #[]})::((tN ["self"] 763)::((tO #[])::(nF "many" "Folding.many" 3 (oK "many" 760 "Folding.many" 197 1 433 764 (oM "many" "Folding.many" 3 438 ((tO #[])::(({cls:=vN,data:=WK #[]})::((tN ["self"] 770)::((tO #[])::(nF "layings" "Folding.layings" 4 (oK "layings" 767 "Folding.layings" 200 1 440 771 (oM "layings" "Folding.layings" 4 445 ((tO #[])::(({cls:=vN,data:=WK #[]})::((tN ["self"] 777)::((tO #[])::(nF "piles" "Folding.piles" 5 (oK "piles" 774 "Folding.piles" 203 1 447 778 (oM "piles" "Folding.piles" 5 452 ((tO #[])::(({cls:=vN,data:=WK #[]})::(nF "sheet" "Folding.sheet" 6 ((cO #[vS "sheet" 781,vS "Folding.sheet" 782,vS "/claim/cut.py" 783,vI 206,vI 1,vI 0,vI 0,vI 3,vR 454,Xx c7,vI 181,vR 455,vN,vN,vN,vR 456,vI 784,vI 206,vS "/claim/cut.py" 785])::(oM "sheet" "Folding.sheet" 6 457 ((tN ["high","states","wide"] 787)::(({cls:=Wc "dict",data:=YL #[eO P "__module__" 727 (vS "creasecourt.folding" 649),eO P "__firstlineno__" 731 (X3 178 730),eR P "__init__" 740 417,eR P "fold" 752 425,eR P "back" 759 432,eR P "many" 766 439,eR P "layings" 773 446,eR P "piles" 780 453,eR P "sheet" 786 458,eR P "__static_attributes__" 790 459,eR P "__dict__" 792 462,eR P "__weakref__" 794 463,eO P "__doc__" 795 vN] 4})::(({cls:=Wc "type",data:=a1P {name:=XS "Folding",bases:=[Wc "object"],mro:=[vR 461,Wc "object"],ns:=460,qualname:=XS "Folding" },slots:=#[c4,c4,b4 (vS "Folding" 720),b4 (vS "Folding" 728),b4 (W0 "object.__new__"),b4 (Xx c7)]})::(({cls:=Wc "getset_descriptor",data:=WK #[vS "__dict__" 791,vR 461,W0 "function.__dict__",W0 "function.__dict__#set"]})::(({cls:=Wc "getset_descriptor",data:=WK #[vS "__weakref__" 793,vR 461,W0 "ExceptionGroup.__weakref__",vN]})::(({cls:=Wc "super",data:=WK #[vR 461,vR 461,vR 461]})::(({cls:=Wc "builtin_function_or_method",data:=WK #[W0 "object.__init_subclass__",vR 461]})::(cD ["_law_script","_law_k","_law_number"] 803 "_law_cell" 53 212 2 466 806 "law_creasecourt_k82_back_and_refused" 798 (cD ["_law_wide","_law_high","_law_found","_law_x","_law_y"] 812 "_law_quarters" 54 219 2 473 817 "law_creasecourt_k82_back_and_refused" 798 (cD ["_law_laying","_law_place","_law_a","_law_b","_law_c","_law_d","_law_e","_law_f"] 823 "_law_led" 55 226 2 480 831 "law_creasecourt_k82_back_and_refused" 798 (cD ["_law_laying","_law_line","_law_a","_law_b","_law_c","_law_d","_law_e","_law_f","_law_kind","_law_n"] 837 "_law_over" 56 229 2 487 847 "law_creasecourt_k82_back_and_refused" 798 (cD ["_law_place","_law_kind"] 853 "_law_value" 57 239 2 494 855 "law_creasecourt_k82_back_and_refused" 798 (cD ["_law_wide","_law_high","_law_layings","_law_piles","_law_quarter"] 861 "_law_begun" 58 241 2 501 866 "law_creasecourt_k82_back_and_refused" 798 (nE "_law_folded" 59 869 248 4 508 "law_creasecourt_k82_back_and_refused" 798 (cD ["_law_state","_law_number","_law_far","_law_kind","_law_places","_law_near","_law_n","_law_j","_law_edge"] 878 "_law_plan" 60 268 3 513 887 "law_creasecourt_k82_back_and_refused" 798 (cD ["_law_e","_law_some"] 893 "_law_class" 61 280 1 520 895 "law_creasecourt_k82_back_and_refused" 798 (cD ["_law_wide","_law_high","_law_found","_law_e"] 901 "_law_no_size" 62 285 2 527 905 "law_creasecourt_k82_back_and_refused" 798 (cD ["_law_one","_law_plan_here","_law_bare","_law_found","_law_told","_law_e"] 911 "_law_do" 63 292 3 534 917 "law_creasecourt_k82_back_and_refused" 798 (cD ["_law_one","_law_states","_law_number","_law_far","_law_plan_here","_law_bare","_law_after","_law_due","_law_found"] 923 "_law_deed" 64 309 4 541 932 "law_creasecourt_k82_back_and_refused" 798 (cD ["_law_one","_law_state"] 938 "_law_stands" 65 330 2 548 940 "law_creasecourt_k82_back_and_refused" 798 (cD ["_law_script","_law_far","_law_some","_law_bad","_law_foldings","_law_states","_law_k","_law_wide","_law_high","_law_number","_law_which"] 946 "law" 66 332 1 555 957 "law_creasecourt_k82_back_and_refused" 798 [])))))))))))))))))))))))))))))))))))))))))))))))))))))))))))))))))))))))))))))
noncomputable def As:List Addr:=[3,2,22,23,24,25,35,36,37,47,48,49,59,60,61,71,72,73,83,84,85,95,96,97,107,108,109,119,120,121,131,132,133,143,144,145,160,161,162,163,164,179,180,181,182,183,198,199,200,201,202,210,211,224,225,231,232,250,251,257,258,264,265,266,272,273,279,280,286,287,293,294,307,308,314,315,319,320,324,325,369,370,376,377,383,384,388,389,402,403,416,417,418,424,425,431,432,438,439,445,446,452,453,457,458,459,460,461,462,463,471,472,478,479,485,486,492,493,499,500,506,507,511,512,518,519,525,526,532,533,539,540,546,547,553,554,560,561]
noncomputable def Kx:Xi → VU:=λP=>As.map λa=>(a,((lD P)[a]?).getD (tO #[]))
theorem q8:∀P,As=(Kx P).map (·.1):=λ_=>by kernel_rfl
noncomputable def vE:ZS:={scope:=Xa.main.scope,locals:=mainNs,globals:=mainNs,cells:=[],code:=Wg 13,frame:=b4 14}
open PySem.W PyProof.Rows in
set_option maxRecDepth 100000 in
set_option maxHeartbeats 0 in
theorem Ky(w:WO)(a:ZW):topGo Yq (Xb V2).prog w 11 (b4 (Wg 6)) 12 ⟨Zs w.params,WX [],Xr,a2b,a⟩ (topStub (Xb V2).prog)=b4 (⟨⟨WX (lA w.params),{}⟩,WX [],Xr,187,a⟩,⟨denote Yq (.body (Wx (Xb V2).prog) vE),(.body (Wx (Xb V2).prog) vE),⟨0,0,0,0⟩,[Zz ⟨0,0,0,0⟩]⟩):=by kernel_rfl
open PySem.W PyProof.Rows in
set_option maxRecDepth 100000 in
set_option maxHeartbeats 0 in
theorem Kz(w:WO)(a:ZW):a1V Yq (Xb V2).prog w 11 (b4 (Wg 6)) 1 1 ⟨⟨WX (lA w.params),{}⟩,WX [],Xr,187,a⟩ (blockOf (Wx (Xb V2).prog) vE (.body (Wx (Xb V2).prog) vE) ⟨0,0,0,0⟩ [Zz ⟨0,0,0,0⟩])=b4 (.next,⟨⟨WX (lA w.params),{}⟩,WX [],Xr,187,a⟩,(.body (Wx (Xb V2).prog) vE),⟨0,0,0,0⟩):=by kernel_rfl
open PySem.W PyProof.Rows in
set_option maxRecDepth 100000 in
set_option maxHeartbeats 0 in
theorem KA(w:WO)(a:ZW):a1V Yq (Xb V2).prog w 11 (b4 (Wg 6)) 1 2113 ⟨⟨WX (lA w.params),{}⟩,WX [],Xr,187,a⟩ (a1F ((Wx (Xb V2).prog).take 11) vE (.body (Wx (Xb V2).prog) vE) ⟨0,0,0,0⟩ [Zz ⟨0,0,0,0⟩])=b4 (.next,⟨⟨WX (lB w.params),{}⟩,WX [],Xr,351,a⟩,(.body (Wx (Xb V2).prog) vE),⟨20,0,21,8⟩):=by kernel_rfl
open PySem.W PyProof.Rows in
set_option maxRecDepth 100000 in
set_option maxHeartbeats 0 in
theorem KG(w:WO)(a:ZW):a1V Yq (Xb V2).prog w 11 (b4 (Wg 6)) 1 1886 ⟨⟨WX (lB w.params),{}⟩,WX [],Xr,351,a⟩ (a1F (((Wx (Xb V2).prog).drop 11).take 39) vE (.body (Wx (Xb V2).prog) vE) ⟨20,0,21,8⟩ [Zz ⟨0,0,0,0⟩])=b4 (.next,⟨⟨WX (lC w.params),{}⟩,WX [],Xr,709,a⟩,(.body (Wx (Xb V2).prog) vE),⟨164,0,170,15⟩):=by kernel_rfl
open PySem.W PyProof.Rows in
set_option maxRecDepth 100000 in
set_option maxHeartbeats 0 in
theorem KH(w:WO)(a:ZW):a1V Yq (Xb V2).prog w 11 (b4 (Wg 6)) 1 923 ⟨⟨WX (lC w.params),{}⟩,WX [],Xr,709,a⟩ (a1F ((((Wx (Xb V2).prog).drop 11).drop 39).take 17) vE (.body (Wx (Xb V2).prog) vE) ⟨164,0,170,15⟩ [Zz ⟨0,0,0,0⟩])=b4 (.next,⟨⟨WX (lD w.params),{}⟩,WX [],Xr,960,a⟩,(.body (Wx (Xb V2).prog) vE),⟨332,0,355,15⟩):=by kernel_rfl
open PySem.W PyProof.Rows in
set_option maxRecDepth 100000 in
set_option maxHeartbeats 0 in
theorem run:LeftO (Xb V2).prog Vw [] (λs=>xlAt Vw [] s&&recOk (a4U (a3I (Xb V2))) s) (Hook.obs (a5P Kx As q8)) (Hook.val (a5P Kx As q8)) 9964:=
 L3.left_cut (hA:=λP=>⟨WX (lA P),{}⟩) (hB:=λP=>⟨WX (lB P),{}⟩) (hC:=λP=>⟨WX (lC P),{}⟩) (hD:=λP=>⟨WX (lD P),{}⟩) (n4:=201) (i1:=11) (i2:=39) (i3:=17) (env:=vE) (boot_open (by kernel_rfl) (by kernel_rfl) (λ_=>by kernel_rfl)) (λw=>by kernel_rfl) Ky Kz KA KG KH (λw a=>by kernel_rfl) (by kernel_rfl)
end Lw
set_option maxHeartbeats 4000000
namespace L3
open PySem
open PySem.SetTable (Probe Met Slot bits runEnd leap turns insertAt sizeAbove)
namespace Tb
noncomputable def rA(m:Nat)(p:Probe):Probe:=
 if p.more>0 then{p with j:=p.j+1,more:=p.more-1}else
 {p with j:=(leap m p.i p.perturb).1,more:=runEnd m (leap m p.i p.perturb).1-(leap m p.i p.perturb).1,i:=(leap m p.i p.perturb).1,perturb:=(leap m p.i p.perturb).2}
noncomputable def KI(m:Nat)(b:Nat):Probe:={j:=b%(m+1),more:=runEnd m (b%(m+1))-b%(m+1),i:=b%(m+1),perturb:=b,dummy:=c4}
noncomputable def iU(m b:Nat):Nat->Probe
 |0=>KI m b|k+1=>rA m (iU m b k)
noncomputable def lp(m b:Nat):Nat->Nat×Nat
 |0=>(b%(m+1),b)|n+1=>leap m (lp m b n).1 (lp m b n).2
noncomputable def hd(m i q:Nat):Probe:={j:=i,more:=runEnd m i-i,i:=i,perturb:=q,dummy:=c4}
theorem rB{m b k i q:Nat}(h:iU m b k=hd m i q):∀r,r<=runEnd m i-i->iU m b (k+r)={j:=i+r,more:=runEnd m i-i-r,i:=i,perturb:=q,dummy:=c4}
 |0,_=>by rw[a5g,h];rfl
 |r+1,hr=>by have e:=rB h r (by omega);show rA m (iU m b (k+r))=_;rw[e];unfold rA;rw[if_pos (show runEnd m i-i-r>0 by omega)];show Probe.mk (i+r+1) (runEnd m i-i-r-1) i q c4=_;rw[Nat.add_assoc,Nat.sub_sub]
theorem KJ{m b k i q:Nat}(h:iU m b k=hd m i q):iU m b (k+(runEnd m i-i)+1)=hd m (leap m i q).1 (leap m i q).2:=by have e:=rB h (runEnd m i-i) (Wa _);show rA m (iU m b (k+(runEnd m i-i)))=_;rw[e];unfold rA;rw[if_neg (show ¬ (runEnd m i-i-(runEnd m i-i)>0) by omega)];rfl
noncomputable def nx(m i:Nat):Nat:=(i*5+1)%(m+1)
noncomputable def CT(m:Nat):Nat->Nat->Nat
 |0,i=>i|n+1,i=>CT m n (nx m i)
noncomputable def kH(m:Nat):Nat->Nat->Nat->Nat
 |0,_,acc=>acc|f+1,i,acc=>kH m f (nx m i) (acc ||| (1 <<< i))
noncomputable def KL(m:Nat):Bool:=kH m (m+1) 0 0==2^(m+1)-1&&CT m (m+1) 0==0
theorem KN(m b:Nat):∀n,(lp m b n).1<=m
 |0=>a3W (a5S _ (a2O _))|n+1=>a3W (a5S _ (a2O _))
noncomputable def yB(m:Nat)(S:List Nat)(b j:Nat):Prop:=∃k,(iU m b k).j=j/\∀k',k'<k->(iU m b k').j∈S
noncomputable abbrev uF:=Nat×Int×Value
structure Ok(t:a4i)(R:List uF):Prop where
 place:t.place.toList=R.map (·.1)
 dum:t.dummies=#[]
 rise:(R.map (·.1)).Pairwise (·<·)
 le:∀r∈R,r.1<=t.mask
 cov:KL t.mask=c7
 odd:t.mask%2=1
 room:R.length<=t.mask
 road:∀r∈R,yB t.mask (R.map (·.1)) (bits r.2.1) r.1
section
variable{t:a4i}{R:List uF}
theorem Ok.size(o:Ok t R):t.place.size=R.length:=by have:=congrArg WY o.place;simpa using this
theorem Ok.getD(o:Ok t R){i:Nat}(a:i<R.length):t.place.getD i 0=(R[i]).1:=by
 have h:t.place.toList[i]?=(R.map (·.1))[i]?:=by rw[o.place]
 have b:i<t.place.size:=by rw[o.size];exact a
 simp[a,b]at h;simp[a3h,b,h]
end
noncomputable def lv(m:Nat)(a:Array (Option Nat)):List (Nat×Nat):=(Xh (m+1)).filterMap λj=>(a.getD j c4).map (j,·)
theorem mem_lv{m:Nat}{c:Array (Option Nat)}{j i:Nat}:(j,i)∈lv m c↔j<=m/\c.getD j c4=b4 i:=by
 unfold lv;rw[a0K];constructor
 ·rintro⟨a,n,e⟩;rw[VZ]at e;obtain⟨b,d,h⟩:=e;cases h;exact⟨by simpa[a4p]using n,d⟩
 ·rintro⟨k,l⟩;exact⟨j,by simpa[a4p]using k,by rw[l];rfl⟩
structure Ow(m:Nat)(ds:List Int)(ow:Array (Option Nat)):Prop where
 size:ow.size=m+1
 lt:∀j i,ow.getD j c4=b4 i->i<ds.length
 all:∀i,i<ds.length->∃j,ow.getD j c4=b4 i
 inj:∀j j' i,ow.getD j c4=b4 i->ow.getD j' c4=b4 i->j=j'
 road:∀j i,ow.getD j c4=b4 i->yB m ((lv m ow).map (·.1)) (bits (ds.getD i 0)) j
section
variable{m:Nat}{ds:List Int}{ow:Array (Option Nat)}
theorem Ow.taken(o:Ow m ds ow){j:Nat}(b:j<=m):j∈(lv m ow).map (·.1)↔(ow.getD j (b4 0)).isNone=false:=by
 have c:j<ow.size:=by rw[o.size];omega
 have e:ow.getD j (b4 0)=ow.getD j none:=by simp[a3h,c]
 rw[e];constructor
 ·intro q;obtain⟨⟨a,i⟩,d,rfl⟩:=Wt.mp q;rw[(mem_lv.mp d).2];rfl
 ·intro q;cases z:ow.getD j c4 with
  |none=>rw[z]at q;cases q|some i=>exact Wt.mpr ⟨(j,i),mem_lv.mpr ⟨b,z⟩,rfl⟩
theorem Ow.free(o:Ow m ds ow){b:Nat}:∀(f n k0:Nat),iU m b k0=hd m (lp m b n).1 (lp m b n).2->(∀k',k'<k0->(iU m b k').j∈(lv m ow).map (·.1))->(∃N,n<=N/\N<n+f/\(lp m b N).1∉(lv m ow).map (·.1))->
  ∃j,a0B m ow f (lp m b n).1 (lp m b n).2=b4 j/\j<=m/\j∉(lv m ow).map (·.1)/\yB m ((lv m ow).map (·.1)) b j
 |0,n,k0,_,_,⟨N,h1,h2,_⟩=>by omega
 |f+1,n,k0,hk,ht,⟨N,h1,h2,hN⟩=>by
  have v:=KN m b n;have l:runEnd m (lp m b n).1<=m:=by unfold runEnd;split<;>omega
  have p:(lp m b n).1<=runEnd m (lp m b n).1:=by unfold runEnd;split<;>omega
  unfold a0B;cases z:(Xh (runEnd m (lp m b n).1+1-(lp m b n).1)).find? λk=>(ow.getD ((lp m b n).1+k) (b4 0)).isNone with
  |some r=>
   rw[List.find?_range_eq_some]at z;obtain⟨h,s,u⟩:=z;rw[ZP]at s;refine⟨(lp m b n).1+r,rfl,by omega,λq=>?_,k0+r,by rw[rB hk r (by omega)],λk' a=>?_⟩
   ·rw[o.taken (by omega)]at q;rw[q]at h;cases h
   ·rcases a2P k' k0 with y|y
    ·exact ht k' y
    ·obtain⟨d,rfl⟩:=a2y y;rw[rB hk d (by omega)];show(lp m b n).1+d∈_;rw[o.taken (by omega)];have:=u d (by omega);simpa using this
  |none=>
   rw[List.find?_range_eq_none]at z;have c:∀r,r<runEnd m (lp m b n).1+1-(lp m b n).1->(lp m b n).1+r∈(lv m ow).map (·.1):=λr i=>by rw[o.taken (by omega)];have:=z r i;simpa using this
   have ne:N≠n:=λe=>hN (by rw[e];exact c 0 (by omega));refine Ow.free o f (n+1) _ (KJ hk) (λk' a=>?_) ⟨N,by omega,by omega,hN⟩;rcases a2P k' k0 with y|y
   ·exact ht k' y
   ·obtain⟨d,rfl⟩:=a2y y;rw[rB hk d (by omega)];exact c d (by omega)
end
theorem Ow.nil(m:Nat):Ow m [] (a1y (m+1) c4):=by
 have e:∀j,(a1y (m+1) (c4:Option Nat)).getD j c4=none:=λj=>by simp[a3h]
 have a:∀{P:Prop}(j i:Nat),(a1y (m+1) (c4:Option Nat)).getD j c4=b4 i->P:=λj i h=>by rw[e]at h;exact nomatch h
 exact⟨by simp,λj i h=>a j i h,λi h=>absurd h (a1I _),λj b i h _=>a j i h,λj i h=>a j i h⟩
end Tb
end L3
namespace L3
open PySem
open PySem.SetTable (Probe Met Slot bits runEnd leap turns insertAt sizeAbove)
namespace Tb
section
variable{prog:Wv}{w:WO}{K:Type} [DecidableEq K] {knd:KeyKind prog w K}{A:WJ}{E:Value->V1->Prop}{s:V1}
theorem fits_of{t:a4i}{R:List uF}{es:Array (Int×Value)}(o:Ok t R)(c:es.toList=R.map (·.2)):t.fits es.size=true:=by
 have a:es.size=R.length:=by simpa using congrArg WY c
 have b:=o.room;unfold SetTable.fits SetTable.fill;rw[o.size,a,o.dum];simp;exact b
end
section
variable{prog:Wv}{w:WO}{A:WJ}{E:Value->V1->Prop}{s:V1}
noncomputable abbrev El:=List Int×Addr
noncomputable def hashT(k:List Int):Int:=reduceHash (a5k (k.map hashInt))
noncomputable def KO(p:El):Int×Value:=(hashT p.1,Wg p.2)
noncomputable def KP(m:Nat):Prop:=m=7\/m=31\/m=127\/m=511
noncomputable def KQ(w:WO):Bool:=w.params.followText "set-order"
noncomputable def KR(a:Bool)(L:List El)(o:Obj):Prop:=∃es b t R,o.ExactSet/\o.data=.set es b t/\es.toList=R.map (·.2)/\Ok t R/\es.toList.Perm (L.map KO)/\(L.map (·.1)).Nodup/\KP t.mask/\L.length*5<t.mask*3/\t.plain=c7/\t.led=a
noncomputable def SObj(L:List El)(o:Obj):Prop:=∃a,KR a L o
end
end Tb
end L3
namespace L3
open PySem
namespace Tb
section
variable{prog:Wv}{w:WO}{A:WJ}{E:Value->V1->Prop}{s:V1}
structure SAt(w:WO)(h:Xo)(a:Addr)(es:Array (Int×Value))(ep:Nat)(t:a4i)(R:List uF):Prop where
 at_:∃o,h.get? a=b4 o/\o.cls=.type "set"/\o.data=.set es ep t
 he:es.toList=R.map (·.2)
 ok:Ok t R
 pl:t.plain=c7
 led:t.led=!KQ w
end
end Tb
end L3
namespace L3
open PySem L2
inductive D where
 |non|bl (b:Bool)|int (i:Int)|str (x:Str)|tup (xs:List D)|rol (xs:List D)|loc (a:Nat)|ty (n:String)
 deriving Inhabited
inductive C where
 |lst (xs:List D)
 |dK (kvs:List (bS×D))
 |st (ks:List (List Int))
 |dT (kvs:List (List Int×D))
 |dF (kvs:List (List Int×D))
 |exc (x:Str)(ns:List Str)(ds:List D)
 |ins (x:Str)(fs:List (Str×D))
 deriving Inhabited
noncomputable abbrev Hm:=List C
noncomputable abbrev aG:=List (Option D)
noncomputable abbrev ME:=aG->Hm->Option (D×Hm)
noncomputable abbrev MT:=aG->Hm->Option (Bool×Hm)
noncomputable abbrev MA:=aG->Hm->Option (List D×Hm)
inductive Fl where
 |nx|rt (d:D)|bk|ct
noncomputable abbrev MS:=aG->Hm->Option (Fl×aG×Hm)
noncomputable abbrev MF:=List D->Hm->Option (D×Hm)
noncomputable def RoL(K:VU)(H:Hp)(p:Addr)(xs:List V):Prop:=
 (∃o,H p=b4 (.frz o (.lst xs))) \/
  ∃(o:Obj)(its:Array Value)(n:Nat),K.lookup p=b4 o/\o.cls=.type "list"/\o.dict=c4/\o.data=.seq its n/\its.size<=Wb/\Vals xs its.toList
theorem RoL.sq{K:VU}{H:Hp}{p:Addr}{xs:List V}(h:RoL K H p xs):SqL K H p xs:=by
 rcases h with⟨o,h⟩|h
 ·exact .inl (.inr ⟨o,h⟩)
 ·exact .inr h
mutual
inductive IsD (K:VU)(π:Nat->Addr)(n:Nat)(H:Hp):V->D->Prop where
 |non:IsD K π n H .non .non
 |bl (b:Bool):IsD K π n H (.bl b) (.bl b)
 |int (i:Int):IsD K π n H (.int i) (.int i)
 |str (x:Str):IsD K π n H (.str x) (.str x)
 |tup {p:Addr}{vs:List V}{ds:List D}(h:SqT K H p vs)(t:IsDs K π n H vs ds):IsD K π n H (.ref p) (.tup ds)
 |rol {p:Addr}{vs:List V}{ds:List D}(h:RoL K H p vs)(t:IsDs K π n H vs ds):IsD K π n H (.ref p) (.rol ds)
 |loc {a:Nat}(h:a<n):IsD K π n H (.ref (π a)) (.loc a)
 |ty (x:String):IsD K π n H (.ty x) (.ty x)
inductive IsDs (K:VU)(π:Nat->Addr)(n:Nat)(H:Hp):List V->List D->Prop where
 |nil:IsDs K π n H [] []
 |cons {v:V}{d:D}{vs:List V}{ds:List D}(h:IsD K π n H v d)(t:IsDs K π n H vs ds):IsDs K π n H (v::vs) (d::ds)
end
structure Ext(π:Nat->Addr)(n:Nat)(H:Hp)(π':Nat->Addr)(n':Nat)(H':Hp):Prop where
 le:n<=n'
 pi:∀a,a<n->π' a=π a
 tup:∀p vs,H p=b4 (.tup vs)->H' p=b4 (.tup vs)
 frz:∀p o u,H p=b4 (.frz o u)->H' p=b4 (.frz o u)
structure Ext0(π:Nat->Addr)(n:Nat)(H:Hp)(π':Nat->Addr)(n':Nat)(H':Hp):Prop where
 le:n<=n'
 pi:∀a,a<n->π' a=π a
 tup:∀p vs,H p=b4 (.tup vs)->H' p=b4 (.tup vs)
 frz:∀p o u,(∀φ,u≠HO.ext φ)->H p=b4 (.frz o u)->H' p=b4 (.frz o u)
section
variable{K:VU}{π π' π2:Nat->Addr}{n n' n2:Nat}{H H' H2:Hp}
theorem Ext.weak(e:Ext π n H π' n' H'):Ext0 π n H π' n' H':=⟨e.le,e.pi,e.tup,λp o u _ h=>e.frz p o u h⟩
theorem Ext.refl:Ext π n H π n H:=⟨Wa _,λ_ _=>rfl,λ_ _ h=>h,λ_ _ _ h=>h⟩
theorem Ext.trans(a:Ext π n H π' n' H')(b:Ext π' n' H' π2 n2 H2):Ext π n H π2 n2 H2:=
 ⟨Xk a.le b.le,λi h=>(b.pi i (Wy h a.le)).trans (a.pi i h),λp c h=>b.tup p c (a.tup p c h),λp o u h=>b.frz p o u (a.frz p o u h)⟩
theorem Ext0.sqT(e:Ext0 π n H π' n' H'){p:Addr}{vs:List V}(h:SqT K H p vs):SqT K H' p vs:=by
 rcases h with h|h
 ·rcases h with h|⟨o,h⟩
  ·exact .inl (.inl (e.tup _ _ h))
  ·exact .inl (.inr ⟨o,e.frz _ _ _ (λ_ z=>nomatch z) h⟩)
 ·exact .inr h
theorem Ext.sqT(e:Ext π n H π' n' H'){p:Addr}{vs:List V}(h:SqT K H p vs):SqT K H' p vs:=e.weak.sqT h
theorem Ext0.roL(e:Ext0 π n H π' n' H'){p:Addr}{vs:List V}(h:RoL K H p vs):RoL K H' p vs:=by
 rcases h with⟨o,h⟩|h
 ·exact .inl ⟨o,e.frz _ _ _ (λ_ z=>nomatch z) h⟩
 ·exact .inr h
theorem Ext.roL(e:Ext π n H π' n' H'){p:Addr}{vs:List V}(h:RoL K H p vs):RoL K H' p vs:=e.weak.roL h
mutual
theorem IsD.mono0{v:V}{d:D}(e:Ext0 π n H π' n' H'):IsD K π n H v d->IsD K π' n' H' v d
 |.non=>.non|.bl b=>.bl b|.int i=>.int i|.str x=>.str x|.ty x=>.ty x|.tup h t=>.tup (e.sqT h) (IsDs.mono0 e t)|.rol h t=>.rol (e.roL h) (IsDs.mono0 e t)|.loc h=>by rw[<- e.pi _ h];exact .loc (Wy h e.le)
theorem IsDs.mono0{vs:List V}{ds:List D}(e:Ext0 π n H π' n' H'):IsDs K π n H vs ds->IsDs K π' n' H' vs ds
 |.nil=>.nil|.cons h t=>.cons (IsD.mono0 e h) (IsDs.mono0 e t)
end
theorem IsD.mono{v:V}{d:D}(e:Ext π n H π' n' H')(h:IsD K π n H v d):IsD K π' n' H' v d:=h.mono0 e.weak
theorem IsDs.mono{vs:List V}{ds:List D}(e:Ext π n H π' n' H')(h:IsDs K π n H vs ds):IsDs K π' n' H' vs ds:=h.mono0 e.weak
theorem IsDs.length{vs:List V}{ds:List D}(h:IsDs K π n H vs ds):vs.length=ds.length:=by
 induction ds generalizing vs with
 |nil=>cases h;rfl|cons d ds a=>
  cases h with
  |cons h t=>rw[Ww,Ww,a t]
theorem IsDs.get{vs:List V}{ds:List D}(h:IsDs K π n H vs ds){i:Nat}{d:D}(e:ds[i]?=b4 d):∃v,vs[i]?=b4 v/\IsD K π n H v d:=by
 induction ds generalizing vs i with
 |nil=>simp at e|cons j ds c=>
  cases h with
  |cons h t=>
   cases i with
   |zero=>simp at e;subst e;exact⟨_,rfl,h⟩|succ i=>obtain⟨v,a,b⟩:=c t (by simpa using e);exact⟨v,by simpa using a,b⟩
theorem IsDs.append{vs ws:List V}{ds es:List D}(h:IsDs K π n H vs ds)(a:IsDs K π n H ws es):IsDs K π n H (vs++ws) (ds++es):=by
 induction ds generalizing vs with
 |nil=>cases h;exact a|cons d ds b=>
  cases h with
  |cons h t=>exact .cons h (b t)
theorem IsDs.drop{vs:List V}{ds:List D}(h:IsDs K π n H vs ds)(k:Nat):IsDs K π n H (vs.drop k) (ds.drop k):=by
 induction ds generalizing vs k with
 |nil=>cases h;simpa using IsDs.nil|cons d ds a=>
  cases h with
  |cons h t=>
   cases k with
   |zero=>exact .cons h t|succ k=>exact a t k
theorem IsDs.take{vs:List V}{ds:List D}(h:IsDs K π n H vs ds)(k:Nat):IsDs K π n H (vs.take k) (ds.take k):=by
 induction ds generalizing vs k with
 |nil=>cases h;simpa using IsDs.nil|cons d ds a=>
  cases h with
  |cons h t=>
   cases k with
   |zero=>exact .nil|succ k=>exact .cons h (a t k)
theorem IsDs.atI{vs:List V}{ds:List D}(h:IsDs K π n H vs ds){i:Int}{d:D}(e:L2.atI ds i=b4 d):∃v,L2.atI vs i=b4 v/\IsD K π n H v d:=by
 unfold L2.atI at e ⊢;rw[h.length];cases q:lT ds.length i with
 |none=>rw[q]at e;cases e|some j=>rw[q]at e;exact h.get e
end
noncomputable def uG(p:Addr)(L:List Tb.El):HO:=.ext λh=>∃o,h.get? p=b4 o/\Tb.SObj L o
noncomputable def rC(p:List Int×Addr×V)(w:Value):DictEntry:=⟨Tb.hashT p.1,.ref p.2.1,w⟩
noncomputable def aZ(a:Addr)(ps:List (List Int×Addr×V)):HO:=.ext λh=>∃ws:List Value,Vals (ps.map (·.2.2)) ws/\(a==Xs)=c6/\ps.length<=Wb /\
 ∃o b c,h.get? a=b4 o/\o.ExactDict/\o.data=.dict b c/\b.toList=ZJ rC ps ws/\(ps.map (·.1)).Nodup
noncomputable def ExcIs(K:VU)(π:Nat->Addr)(n:Nat)(H:Hp)(ob:Obj)(x:Str)(ns:List Str)(ds:List D):Prop:=
 XC K WZ x=b4 (b4 ob.cls)/\(∃a,ob.data=.fields a) /\
  (ns=[]/\ds=[]/\ob.dict=c4\/∃b c a,ob.dict=b4 b/\H b=b4 (.frz c (.xd a))/\a.map (·.1)=ns/\IsDs K π n H (a.map (·.2)) ds)
theorem ExcIs.mono0{K:VU}{π a:Nat->Addr}{n c:Nat}{H H':Hp}{ob:Obj}{x:Str}{ns:List Str}{ds:List D}(e:Ext0 π n H a c H')(h:ExcIs K π n H ob x ns ds):ExcIs K a c H' ob x ns ds:=by
 obtain⟨l,m,b⟩:=h;refine⟨l,m,?_⟩;rcases b with b|⟨d,o,p,i,g2,j,k⟩
 ·exact .inl b
 ·exact .inr ⟨d,o,p,i,e.frz _ _ _ (λ_ z=>nomatch z) g2,j,k.mono0 e⟩
theorem ExcIs.mono{K:VU}{π a:Nat->Addr}{n b:Nat}{H H':Hp}{ob:Obj}{x:Str}{ns:List Str}{ds:List D}(e:Ext π n H a b H')(h:ExcIs K π n H ob x ns ds):ExcIs K a b H' ob x ns ds:=h.mono0 e.weak
noncomputable def InsIs(K:VU)(π:Nat->Addr)(n:Nat)(H:Hp)(o:HO)(x:Str)(fs:List (Str×D)):Prop:=
 ∃(C a:Addr)(vs:List (Str×V)),o=.ins C a vs/\XC K WZ x=b4 (b4 (.ref C))/\vs.map (·.1)=fs.map (·.1)/\IsDs K π n H (vs.map (·.2)) (fs.map (·.2))
theorem InsIs.mono0{K:VU}{π a:Nat->Addr}{n b:Nat}{H H':Hp}{o:HO}{x:Str}{fs:List (Str×D)}(e:Ext0 π n H a b H')(h:InsIs K π n H o x fs):InsIs K a b H' o x fs:=
 let⟨C,c,l,d,i,j,k⟩:=h;⟨C,c,l,d,i,j,k.mono0 e⟩
structure Rp(K:VU)(π:Nat->Addr)(H:Hp)(μ:Hm):Prop where
 inj:∀a b,a<μ.length->b<μ.length->π a=π b->a=b
 has:∀a,a<μ.length->(H (π a)).isSome=c7
 lst:∀a xs,μ[a]?=b4 (.lst xs)->∃vs,H (π a)=b4 (.lst vs)/\IsDs K π μ.length H vs xs
 dK:∀a kvs,μ[a]?=b4 (.dK kvs)->∃vs,H (π a)=b4 (.dK vs)/\vs.map (·.1)=kvs.map (·.1)/\IsDs K π μ.length H (vs.map (·.2)) (kvs.map (·.2))
 st:∀a ks,μ[a]?=b4 (.st ks)->∃L:List Tb.El,H (π a)=b4 (uG (π a) L)/\L.map (·.1)=ks/\IsDs K π μ.length H (L.map λp=>V.ref p.2) (ks.map λk=>D.tup (k.map D.int))
 dT:∀a kvs,μ[a]?=b4 (.dT kvs)->∃ps:List (List Int×Addr×V),H (π a)=b4 (aZ (π a) ps)/\ps.map (·.1)=kvs.map (·.1)/\IsDs K π μ.length H (ps.map λp=>V.ref p.2.1) (kvs.map λk=>D.tup (k.1.map D.int))/\IsDs K π μ.length H (ps.map (·.2.2)) (kvs.map (·.2))
 dF:∀a kvs,μ[a]?=b4 (.dF kvs)->∃(ob:Obj)(ps:List (List Int×Addr×V)),H (π a)=b4 (.frz ob (aZ (π a) ps))/\ps.map (·.1)=kvs.map (·.1)/\IsDs K π μ.length H (ps.map λp=>V.ref p.2.1) (kvs.map λk=>D.tup (k.1.map D.int))/\IsDs K π μ.length H (ps.map (·.2.2)) (kvs.map (·.2))
 exc:∀a x ns ds,μ[a]?=b4 (.exc x ns ds)->∃(ob:Obj)(φ:Xo->Prop),H (π a)=b4 (.frz ob (.ext φ))/\ExcIs K π μ.length H ob x ns ds
 ins:∀a x fs,μ[a]?=b4 (.ins x fs)->∃o,H (π a)=b4 o/\InsIs K π μ.length H o x fs
structure En(K:VU)(π:Nat->Addr)(n:Nat)(H:Hp)(σ:St)(ρ:aG):Prop where
 len:σ.length=ρ.length
 get:∀(i:Nat)(d:D),ρ[i]?=b4 (b4 d)->∃v,σ[i]?=b4 (b4 v)/\IsD K π n H v d
section
variable{K:VU}{π π' π2:Nat->Addr}{n n' n2:Nat}{H H' H2:Hp}{μ μ':Hm}{σ:St}{ρ:aG}
theorem En.mono(E:En K π n H σ ρ)(e:Ext π n H π' n' H'):En K π' n' H' σ ρ:=
 ⟨E.len,λi d h=>let⟨v,a,b⟩:=E.get i d h;⟨v,a,b.mono e⟩⟩
theorem En.set(E:En K π n H σ ρ){v:V}{d:D}(h:IsD K π n H v d)(i:Nat):En K π n H (σ.set i (b4 v)) (ρ.set i (b4 d)):=by
 refine⟨by rw[WG,WG];exact E.len,λj c e=>?_⟩;rw[a3J]at e ⊢;by_cases a:i=j
 ·subst a;rw[if_pos rfl]at e ⊢;rw[E.len];by_cases b:i<ρ.length
  ·rw[if_pos b]at e ⊢;cases e;exact⟨v,rfl,h⟩
  ·rw[if_neg b]at e;cases e
 ·rw[if_neg a]at e ⊢;exact E.get j c e
theorem Rp.ne{p:Addr}(R:Rp K π H μ)(h:H p=c4){a:Nat}(b:a<μ.length):π a≠p:=λe=>by have:=R.has a b;rw[e,h]at this;cases this
theorem Rp.fresh{p:Addr}{o:HO}(R:Rp K π H μ)(h:H p=c4):Ext π μ.length H π μ.length (upd H p o)/\Rp K π (upd H p o) μ:=by
 have keep:∀b u,H b=b4 u->upd H p o b=b4 u:=λb u e=>by rw[bG (iE e h)];exact e
 have e:Ext π μ.length H π μ.length (upd H p o):=⟨Wa _,λ_ _=>rfl,λq k e=>keep q _ e,λq o u e=>keep q _ e⟩;refine⟨e,R.inj,λa c=>?_,λa w c=>?_,λa j c=>?_,λa s c=>?_
  ,λa j c=>?_
  ,λa j c=>?_
  ,λa x v ds c=>?_
  ,λa x fs c=>?_
  ⟩
 ·rw[bG (R.ne h c)];exact R.has a c
 ·obtain⟨k,d,i⟩:=R.lst a w c;exact⟨k,keep _ _ d,i.mono e⟩
 ·obtain⟨k,d,i,l⟩:=R.dK a j c;exact⟨k,keep _ _ d,i,l.mono e⟩
 ·obtain⟨k,d,i,l⟩:=R.st a s c;exact⟨k,keep _ _ d,i,l.mono e⟩
 ·obtain⟨k,d,i,l,m⟩:=R.dT a j c;exact⟨k,keep _ _ d,i,l.mono e,m.mono e⟩
 ·obtain⟨r,k,d,i,l,m⟩:=R.dF a j c;exact⟨r,k,keep _ _ d,i,l.mono e,m.mono e⟩
 ·obtain⟨r,y,d,i⟩:=R.exc a x v ds c;exact⟨r,y,keep _ _ d,i.mono e⟩
 ·obtain⟨o,d,i⟩:=R.ins a x fs c;exact⟨o,keep _ _ d,i.mono0 e.weak⟩
noncomputable def oN(K:VU)(π:Nat->Addr)(n:Nat)(H:Hp)(p:Addr):C->HO->Prop
 |.lst xs,.lst vs=>IsDs K π n H vs xs|.dK kvs,.dK vs=>vs.map (·.1)=kvs.map (·.1)/\IsDs K π n H (vs.map (·.2)) (kvs.map (·.2))|.st ks,o=>∃L:List Tb.El,o=uG p L/\L.map (·.1)=ks/\IsDs K π n H (L.map λp=>V.ref p.2) (ks.map λk=>D.tup (k.map D.int))|.dT kvs,o=>∃ps:List (List Int×Addr×V),o=aZ p ps/\ps.map (·.1)=kvs.map (·.1)/\IsDs K π n H (ps.map λp=>V.ref p.2.1) (kvs.map λk=>D.tup (k.1.map D.int))/\IsDs K π n H (ps.map (·.2.2)) (kvs.map (·.2))|.dF kvs,o=>∃(ob:Obj)(ps:List (List Int×Addr×V)),o=.frz ob (aZ p ps)/\ps.map (·.1)=kvs.map (·.1)/\IsDs K π n H (ps.map λp=>V.ref p.2.1) (kvs.map λk=>D.tup (k.1.map D.int))/\IsDs K π n H (ps.map (·.2.2)) (kvs.map (·.2))|.exc x ns ds,o=>∃(ob:Obj)(a:Xo->Prop),o=.frz ob (.ext a)/\ExcIs K π n H ob x ns ds|.ins x fs,o=>InsIs K π n H o x fs|_,_=>False
noncomputable def fH(π:Nat->Addr)(n:Nat)(p:Addr):Nat->Addr:=λa=>if a=n then p else π a
theorem Rp.alloc{p:Addr}{c:C}{o:HO}(R:Rp K π H μ)(h:H p=c4)(hc:oN K π μ.length H p c o) :
  Ext π μ.length H (fH π μ.length p) (μ++[c]).length (upd H p o)/\Rp K (fH π μ.length p) (upd H p o) (μ++[c])/\fH π μ.length p μ.length=p:=by
 have G:(μ++[c]).length=μ.length+1:=by simp
 have keep:∀b u,H b=b4 u->upd H p o b=b4 u:=λb u e=>by rw[bG (iE e h)];exact e
 have y:fH π μ.length p μ.length=p:=if_pos rfl;have v:∀a,a<μ.length->fH π μ.length p a=π a:=λa d=>if_neg (WB d);have e:Ext π μ.length H (fH π μ.length p) (μ++[c]).length (upd H p o):=⟨by rw[G];exact a3b _,v,λq m e=>keep q _ e,λq o u e=>keep q _ e⟩;have split:∀a,a<(μ++[c]).length->a<μ.length\/a=μ.length:=λa d=>by rw[G]at d;omega
 have get:∀a,a<μ.length->(μ++[c])[a]?=μ[a]?:=λa d=>Wz d;have j:(μ++[c])[μ.length]?=b4 c:=by simp
 refine⟨e,⟨λa b d B q=>?_,λa d=>?_,λa N d=>?_,λa w d=>?_,λa I d=>?_
  ,λa w d=>?_
  ,λa w d=>?_
  ,λa x J ds d=>?_
  ,λa x fs d=>?_
  ⟩,y⟩
 ·rcases split a d with d|rfl<;>rcases split b B with B|rfl
  ·rw[v a d,v b B]at q;exact R.inj a b d B q
  ·rw[v a d,y]at q;exact absurd q (R.ne h d)
  ·rw[y,v b B]at q;exact absurd q.symm (R.ne h B)
  ·rfl
 ·rcases split a d with d|rfl
  ·rw[v a d,bG (R.ne h d)];exact R.has a d
  ·rw[y,dG];rfl
 ·have i:a<(μ++[c]).length:=(VY.mp d).1;rcases split a i with l|rfl
  ·rw[get a l]at d;obtain⟨m,r,k⟩:=R.lst a N d;rw[v a l];exact⟨m,keep _ _ r,k.mono e⟩
  ·rw[j]at d;cases d;cases o with
   |lst m=>rw[y];exact⟨m,dG,IsDs.mono e hc⟩|_=>exact Wo hc
 ·have i:a<(μ++[c]).length:=(VY.mp d).1;rcases split a i with l|rfl
  ·rw[get a l]at d;obtain⟨m,r,k,s⟩:=R.dK a w d;rw[v a l];exact⟨m,keep _ _ r,k,s.mono e⟩
  ·rw[j]at d;cases d;cases o with
   |dK m=>rw[y];exact⟨m,dG,hc.1,IsDs.mono e hc.2⟩|_=>exact Wo hc
 ·have i:a<(μ++[c]).length:=(VY.mp d).1;rcases split a i with l|rfl
  ·rw[get a l]at d;obtain⟨m,r,k,s⟩:=R.st a I d;rw[v a l];exact⟨m,keep _ _ r,k,s.mono e⟩
  ·rw[j]at d;cases d;obtain⟨L,rfl,k,s⟩:=hc;rw[y];exact⟨L,dG,k,s.mono e⟩
 ·have i:a<(μ++[c]).length:=(VY.mp d).1;rcases split a i with l|rfl
  ·rw[get a l]at d;obtain⟨m,r,k,s,z⟩:=R.dT a w d;rw[v a l];exact⟨m,keep _ _ r,k,s.mono e,z.mono e⟩
  ·rw[j]at d;cases d;obtain⟨L,rfl,k,s,z⟩:=hc;rw[y];exact⟨L,dG,k,s.mono e,z.mono e⟩
 ·have i:a<(μ++[c]).length:=(VY.mp d).1;rcases split a i with l|rfl
  ·rw[get a l]at d;obtain⟨A,m,r,k,s,z⟩:=R.dF a w d;rw[v a l];exact⟨A,m,keep _ _ r,k,s.mono e,z.mono e⟩
  ·rw[j]at d;cases d;obtain⟨A,L,rfl,k,s,z⟩:=hc;rw[y];exact⟨A,L,dG,k,s.mono e,z.mono e⟩
 ·have i:a<(μ++[c]).length:=(VY.mp d).1;rcases split a i with l|rfl
  ·rw[get a l]at d;obtain⟨A,E,r,k⟩:=R.exc a x J ds d;rw[v a l];exact⟨A,E,keep _ _ r,k.mono e⟩
  ·rw[j]at d;cases d;obtain⟨A,E,rfl,k⟩:=hc;rw[y];exact⟨A,E,dG,k.mono e⟩
 ·have i:a<(μ++[c]).length:=(VY.mp d).1;rcases split a i with l|rfl
  ·rw[get a l]at d;obtain⟨M,r,k⟩:=R.ins a x fs d;rw[v a l];exact⟨M,keep _ _ r,k.mono0 e.weak⟩
  ·rw[j]at d;cases d;rw[y];exact⟨o,dG,InsIs.mono0 e.weak hc⟩
theorem Rp.putU{a:Nat}{c:C}{o u:HO}(R:Rp K π H μ)(J:a<μ.length)(B:H (π a)=b4 u)(E:(∀vs,u≠.tup vs)/\∀ob v,(∀w,v≠HO.ext w)->u≠.frz ob v)(hc:oN K π μ.length H (π a) c o) :
  Ext0 π μ.length H π (μ.set a c).length (upd H (π a) o)/\Rp K π (upd H (π a) o) (μ.set a c):=by
 have p:(μ.set a c).length=μ.length:=WG ..;have e:Ext0 π μ.length H π (μ.set a c).length (upd H (π a) o):=by
  refine⟨a1h p.symm,λ_ _=>rfl,λq vs z=>?_,λq G Q nx z=>?_⟩
  ·rw[bG]
   ·exact z
   ·intro e;subst e;rw[B]at z;exact E.1 _ (Wj z)
  ·rw[bG]
   ·exact z
   ·intro e;subst e;rw[B]at z;exact E.2 _ _ nx (Wj z)
 have j:∀b,b<μ.length->b≠a->upd H (π a) o (π b)=H (π b):=λb d A=>bG λq=>A (R.inj b a d J q);refine⟨e,⟨λb I d y=>R.inj b I (p▸d) (p▸y),λb d=>?_,λb O d=>?_,λb r d=>?_,λb M d=>?_
  ,λb r d=>?_
  ,λb r d=>?_
  ,λb x N ds d=>?_
  ,λb x fs d=>?_
  ⟩⟩
 ·by_cases h:b=a
  ·subst h;rw[dG];rfl
  ·rw[j b (p▸d) h];exact R.has b (p▸d)
 ·have i:b<μ.length:=p▸(VY.mp d).1;by_cases h:b=a
  ·subst h;rw[Wh i]at d;cases d;cases o with
   |lst vs=>exact⟨vs,dG,IsDs.mono0 e hc⟩|_=>exact Wo hc
  ·rw[V9 (WL h)]at d;obtain⟨vs,l,k⟩:=R.lst b O d;exact⟨vs,by rw[j b i h];exact l,k.mono0 e⟩
 ·have i:b<μ.length:=p▸(VY.mp d).1;by_cases h:b=a
  ·subst h;rw[Wh i]at d;cases d;cases o with
   |dK vs=>exact⟨vs,dG,hc.1,IsDs.mono0 e hc.2⟩|_=>exact Wo hc
  ·rw[V9 (WL h)]at d;obtain⟨vs,l,k,m⟩:=R.dK b r d;exact⟨vs,by rw[j b i h];exact l,k,m.mono0 e⟩
 ·have i:b<μ.length:=p▸(VY.mp d).1;by_cases h:b=a
  ·subst h;rw[Wh i]at d;cases d;obtain⟨L,rfl,k,m⟩:=hc;exact⟨L,dG,k,m.mono0 e⟩
  ·rw[V9 (WL h)]at d;obtain⟨vs,l,k,m⟩:=R.st b M d;exact⟨vs,by rw[j b i h];exact l,k,m.mono0 e⟩
 ·have i:b<μ.length:=p▸(VY.mp d).1;by_cases h:b=a
  ·subst h;rw[Wh i]at d;cases d;obtain⟨L,rfl,k,m,s⟩:=hc;exact⟨L,dG,k,m.mono0 e,s.mono0 e⟩
  ·rw[V9 (WL h)]at d;obtain⟨vs,l,k,m,s⟩:=R.dT b r d;exact⟨vs,by rw[j b i h];exact l,k,m.mono0 e,s.mono0 e⟩
 ·have i:b<μ.length:=p▸(VY.mp d).1;by_cases h:b=a
  ·subst h;rw[Wh i]at d;cases d;obtain⟨ob,L,rfl,k,m,s⟩:=hc;exact⟨ob,L,dG,k,m.mono0 e,s.mono0 e⟩
  ·rw[V9 (WL h)]at d;obtain⟨ob,vs,l,k,m,s⟩:=R.dF b r d;exact⟨ob,vs,by rw[j b i h];exact l,k,m.mono0 e,s.mono0 e⟩
 ·have i:b<μ.length:=p▸(VY.mp d).1;by_cases h:b=a
  ·subst h;rw[Wh i]at d;cases d;obtain⟨ob,w,rfl,k⟩:=hc;exact⟨ob,w,dG,k.mono0 e⟩
  ·rw[V9 (WL h)]at d;obtain⟨ob,w,l,k⟩:=R.exc b x N ds d;exact⟨ob,w,by rw[j b i h];exact l,k.mono0 e⟩
 ·have i:b<μ.length:=p▸(VY.mp d).1;by_cases h:b=a
  ·subst h;rw[Wh i]at d;cases d;exact⟨o,dG,InsIs.mono0 e hc⟩
  ·rw[V9 (WL h)]at d;obtain⟨G,l,k⟩:=R.ins b x fs d;exact⟨G,by rw[j b i h];exact l,k.mono0 e⟩
theorem Rp.put0{a:Nat}{c:C}{o u:HO}(R:Rp K π H μ)(e:a<μ.length)(h:H (π a)=b4 u)(d:(∃vs,u=.lst vs)\/(∃vs,u=.dK vs)\/(∃b,u=.ext b)\/∃ob b,u=.frz ob (.ext b))(hc:oN K π μ.length H (π a) c o) :
  Ext0 π μ.length H π (μ.set a c).length (upd H (π a) o)/\Rp K π (upd H (π a) o) (μ.set a c):=
 R.putU e h ⟨λvs z=>(by rcases d with⟨w,rfl⟩|⟨w,rfl⟩|⟨w,rfl⟩|⟨ob,w,rfl⟩<;>cases z),λob v nx z=>by
  rcases d with⟨w,rfl⟩|⟨w,rfl⟩|⟨w,rfl⟩|⟨ob,w,rfl⟩<;>cases z;exact nx _ rfl⟩ hc
theorem Rp.putE{a:Nat}{c:C}{o u:HO}(R:Rp K π H μ)(h:a<μ.length)(d:H (π a)=b4 u)(b:(∀vs,u≠.tup vs)/\∀ob v,u≠.frz ob v)(hc:oN K π μ.length H (π a) c o) :
  Ext π μ.length H π (μ.set a c).length (upd H (π a) o)/\Rp K π (upd H (π a) o) (μ.set a c):=by
 have e:Ext π μ.length H π (μ.set a c).length (upd H (π a) o):=by
  refine⟨a1h (WG ..).symm,λ_ _=>rfl,λq vs z=>?_,λq i j z=>?_⟩
  ·rw[bG]
   ·exact z
   ·intro e;subst e;rw[d]at z;exact b.1 _ (Wj z)
  ·rw[bG]
   ·exact z
   ·intro e;subst e;rw[d]at z;exact b.2 _ _ (Wj z)
 exact⟨e,(R.putU h d ⟨b.1,λob v _=>b.2 ob v⟩ hc).2⟩
theorem Rp.put{a:Nat}{c:C}{o u:HO}(R:Rp K π H μ)(d:a<μ.length)(e:H (π a)=b4 u)(b:(∃vs,u=.lst vs)\/(∃vs,u=.dK vs)\/∃h,u=.ext h)(hc:oN K π μ.length H (π a) c o) :
  Ext π μ.length H π (μ.set a c).length (upd H (π a) o)/\Rp K π (upd H (π a) o) (μ.set a c):=
 R.putE d e ⟨λvs z=>(by rcases b with⟨w,rfl⟩|⟨w,rfl⟩|⟨w,rfl⟩<;>cases z),λi v z=>by rcases b with⟨w,rfl⟩|⟨w,rfl⟩|⟨w,rfl⟩<;>cases z⟩ hc
end
noncomputable def KC(K:VU)(Q:VK)(π:Nat->Addr)(n:Nat)(H:Hp)(d:D)(a:Hm):Prop:=
 ∀b v c,Ext π n H b a.length c->Rp K b c a->IsD K b a.length c v d->Q v c
theorem KC.after{K:VU}{Q:VK}{π b:Nat->Addr}{n j:Nat}{H h:Hp}{d:D}{a:Hm}(k:KC K Q π n H d a)(e:Ext π n H b j h):KC K Q b j h d a:=
 λc v l m R i=>k c v l (e.trans m) R i
noncomputable def tM(K:VU)(m:ME):TE:=λσ H Q=>∃π c b d a,Rp K π H b/\En K π b.length H σ c/\m c b=b4 (d,a)/\KC K Q π b.length H d a
noncomputable def dI(K:VU)(m:MT):TT:=λσ H Q=>∃π e d b a,Rp K π H d/\En K π d.length H σ e/\m e d=b4 (b,a)/\∀c H',Ext π d.length H c a.length H'->Rp K c H' a->Q b H'
noncomputable def eT(K:VU)(m:MA):TA:=λσ H Q=>∃π d c ds a,Rp K π H c/\En K π c.length H σ d/\m d c=b4 (ds,a)/\∀b vs H',Ext π c.length H b a.length H'->Rp K b H' a->IsDs K b a.length H' vs ds->Q vs H'
noncomputable def oO(K:VU)(E:Ends)(π:Nat->Addr)(n:Nat)(H:Hp)(i:Fl)(h:aG)(b:Hm):Prop:=
 match i with
 |.nx=>∀a c e,Ext π n H a b.length e->Rp K a e b->En K a b.length e c h->E.nx c e|.bk=>∀a c e,Ext π n H a b.length e->Rp K a e b->En K a b.length e c h->E.bk c e|.ct=>∀a c e,Ext π n H a b.length e->Rp K a e b->En K a b.length e c h->E.ct c e|.rt d=>KC K E.rt π n H d b
noncomputable def dP(K:VU)(m:MS):TS:=λE σ H=>∃π e c d b a,Rp K π H c/\En K π c.length H σ e/\m e c=b4 (d,b,a)/\oO K E π c.length H d b a
noncomputable def cT(K:VU)(k:Nat)(f:MF):Sp:=λvs H Q _=>vs.length=k/\∃π ds b d a,Rp K π H b/\IsDs K π b.length H vs ds/\f ds b=b4 (d,a)/\KC K Q π b.length H d a
section
variable{X:Cx}{e a b c:Expr}{t:TE}{m ma mb mc:ME}{pos:XD}
theorem cN(h:PE X e t)(hw:∀σ H Q,tM X.K m σ H Q->t σ H Q):PE X e (tM X.K m):=λa5T s σ H Q I q=>h a5T s σ H Q I (hw σ H Q q)
theorem rD{t:TT}{m:MT}(h:PT X e t)(hw:∀σ H Q,dI X.K m σ H Q->t σ H Q):PT X e (dI X.K m):=λa5T s σ H Q I q=>h a5T s σ H Q I (hw σ H Q q)
theorem CU{t:TT}{m:MT}(h:PW X e t)(hw:∀σ H Q,dI X.K m σ H Q->t σ H Q):PW X e (dI X.K m):=λd a5T s σ H Q I q=>h d a5T s σ H Q I (hw σ H Q q)
theorem CV{es:List Expr}{t:TA}{m:MA}(h:PA X es t)(hw:∀σ H Q,eT X.K m σ H Q->t σ H Q):PA X es (eT X.K m):=λp a5T s σ H Q I q=>h p a5T s σ H Q I (hw σ H Q q)
theorem jO{st:Stmt}{t:TS}{m:MS}(h:PS X st t)(hw:∀E σ H,dP X.K m E σ H->t E σ H):PS X st (dP X.K m):=λa5T s σ H E I q=>h a5T s σ H E I (hw E σ H q)
theorem CW{st:List Stmt}{t:TS}{m:MS}(h:PSs X st t)(hw:∀E σ H,dP X.K m E σ H->t E σ H):PSs X st (dP X.K m):=λa5T s σ H E I q=>h a5T s σ H E I (hw E σ H q)
noncomputable def aA(i:Nat):ME:=λj h=>match j[i]? with|some (b4 d)=>b4 (d,h)|_=>c4
noncomputable def mC(d:D):ME:=λ_ h=>b4 (d,h)
theorem KS{i:Nat}{l:aG}{k j:Hm}{d:D}(h:aA i l k=b4 (d,j)):l[i]?=b4 (b4 d)/\j=k:=by
 unfold aA at h;split at h
 ·rename_i n e;cases h;exact⟨e,rfl⟩
 ·cases h
theorem KU{x:Str}(i:Nat)(h:PE X (.Name x pos) (BS i)):PE X (.Name x pos) (tM X.K (aA i)):=cN h (by
 rintro u H Q ⟨q,s,r,d,p,R,E,o,k⟩;obtain⟨j,rfl⟩:=KS o;obtain⟨v,l,n⟩:=E.get i d j;exact⟨v,l,k q v H .refl R n⟩)
theorem oP{v:V}{d:D}(h:PE X e (tC v))(hd:∀π n H,IsD X.K π n H v d):PE X e (tM X.K (mC d)):=cN h (by
 rintro q H Q ⟨π,p,o,l,j,R,E,i,k⟩;cases i;exact k π v H .refl R (hd _ _ _))
theorem KW{i:Int}{j:Nat}:PE X (.Constant (.int i) j pos) (tM X.K (mC (.int i))):=oP Ib λ_ _ _=>.int i
theorem KY{i:Bool}{j:Nat}:PE X (.Constant (.bool i) j pos) (tM X.K (mC (.bl i))):=oP Ic λ_ _ _=>.bl i
theorem KZ{i:Str}{j:Nat}:PE X (.Constant (.str i) j pos) (tM X.K (mC (.str i))):=oP Ig λ_ _ _=>.str i
theorem K0{j:Nat}:PE X (.Constant .none j pos) (tM X.K (mC .non)):=oP Ie λ_ _ _=>.non
noncomputable def aC(f:D->D->Hm->Option (D×Hm))(a b:ME):ME:=λd h=>(a d h).bind λp=>(b d p.2).bind λq=>f p.1 q.1 q.2
noncomputable def cZ(K:VU)(f:D->D->Hm->Option (D×Hm))(r:R2):Prop:=
 ∀j H h x y d i k l Q,Rp K j H h->IsD K j h.length H k x->IsD K j h.length H l y->f x y h=b4 (d,i)->KC K Q j h.length H d i->r k l H Q
theorem rG{f:D->D->Hm->Option (D×Hm)}{r:R2}{K:VU}(A:cZ K f r):∀σ H Q,tM K (aC f ma mb) σ H Q->qZ r (tM K ma) (tM K mb) σ H Q:=by rintro σ H Q ⟨M,s,L,d,l,R,E,h,k⟩;obtain⟨⟨x,i⟩,w,h⟩:=VT.mp h;obtain⟨⟨y,j⟩,z,h⟩:=VT.mp h;exact⟨M,s,L,x,i,R,E,w,λn I N p v B=>⟨n,s,i,y,j,v,E.mono p,z,λo J u q R2 G=>A o u j x y d l I J Q R2 (B.mono q) G h (k.after (p.trans q))⟩⟩
theorem K1{op:a2N}{r:R2}{f:D->D->Hm->Option (D×Hm)}(j:OpR X (YU op) r)(i:cZ X.K f r)(d:PE X a (tM X.K ma))(h:PE X b (tM X.K mb)):PE X (.BinOp a op b pos) (tM X.K (aC f ma mb)):=
 cN (Jl j d h) (rG i)
theorem fB{op:Zf}{r:R2}{f:D->D->Hm->Option (D×Hm)}(k:OpR X (Xd op) r)(i:cZ X.K f r)(d:PE X a (tM X.K ma))(h:PE X b (tM X.K mb))(j:YW op b=c6):PE X (.Compare a [op] [b] pos) (tM X.K (aC f ma mb)):=
 cN (Jr k d h j) (rG i)
noncomputable def aN(m:ME):MT:=λh d=>(m h d).bind λp=>match p.1 with|.bl b=>b4 (b,p.2)|_=>c4
theorem yC{K:VU}:∀σ H Q,dI K (aN m) σ H Q->tM K m σ H λx H'=>∃k,x=.bl k/\Q k H':=by
 rintro σ H Q ⟨r,s,o,b,p,R,E,d,k⟩;obtain⟨⟨x,q⟩,l,d⟩:=VT.mp d;cases x with
 |bl c=>cases d;refine⟨r,s,o,_,_,R,E,l,λh v H' j i n=>?_⟩;cases n;exact⟨_,rfl,k h H' j i⟩|_=>cases d
theorem fC{op:Zf}{r:R2}{f:D->D->Hm->Option (D×Hm)}(n:OpR X (Xd op) r)(k:cZ X.K f r)(i:PE X a (tM X.K ma))(j:PE X b (tM X.K mb))(l:YW op b=c6):PT X (.Compare a [op] [b] pos) (dI X.K (aN (aC f ma mb))):=
 rD (Js n i j l) λd H Q h=>rG k d H _ (yC d H Q h)
theorem K2(h:PE X e (tM X.K m))(i:∀d,a1Z e X.env d=(do let v <- d;a0b e.pos;holding [v] (truthy v)):=by intro _;rfl):PT X e (dI X.K (aN m)):=
 rD (Ij h i) λj H Q h=>yC j H Q h
end
end L3
namespace L3
open PySem L2
section
variable{X:Cx}{e a b c:Expr}{m ma mb mc:ME}{pos:XD}{mt mu:MT}{bT:List Expr}
noncomputable def dU(a b:MT):MT:=λd h=>(a d h).bind λp=>match p.1 with|true=>b d p.2|false=>b4 (c6,p.2)
noncomputable def fD(a b:MT):MT:=λd h=>(a d h).bind λp=>match p.1 with|true=>b4 (c7,p.2)|false=>b d p.2
noncomputable def eJ(a:MT):MT:=λh d=>(a h d).map λp=>(!p.1,p.2)
theorem K3(d:PT X a (dI X.K mt)):PW X (.BoolOp .And [a] pos) (dI X.K mt):=Io d
theorem K4(d:PT X a (dI X.K mt)):PW X (.BoolOp .Or [a] pos) (dI X.K mt):=Ip d
theorem K5(w:PT X a (dI X.K mt))(y:PW X (.BoolOp .And (b::bT) pos) (dI X.K mu)):PW X (.BoolOp .And (a::b::bT) pos) (dI X.K (dU mt mu)):=CU (Iq w y) (by
 rintro B H Q ⟨A,q,z,d,n,R,E,j,k⟩;obtain⟨⟨x,h⟩,v,j⟩:=VT.mp j;refine⟨A,q,z,x,h,R,E,v,λi r l p=>?_⟩;cases x with
 |true=>refine nD ?_;exact⟨i,q,h,d,n,p,E.mono l,j,λo s u R2=>k o s (l.trans u) R2⟩|false=>
  refine nC ?_;cases j;exact k i r l p)
theorem K6(w:PT X a (dI X.K mt))(y:PW X (.BoolOp .Or (b::bT) pos) (dI X.K mu)):PW X (.BoolOp .Or (a::b::bT) pos) (dI X.K (fD mt mu)):=CU (Ir w y) (by
 rintro B H Q ⟨A,q,z,d,n,R,E,j,k⟩;obtain⟨⟨x,h⟩,v,j⟩:=VT.mp j;refine⟨A,q,z,x,h,R,E,v,λi r l p=>?_⟩;cases x with
 |true=>refine nD ?_;cases j;exact k i r l p|false=>
  refine nC ?_;exact⟨i,q,h,d,n,p,E.mono l,j,λo s u R2=>k o s (l.trans u) R2⟩)
theorem K7(q:PT X a (dI X.K mt)):PT X (.UnaryOp .Not a pos) (dI X.K (eJ mt)):=rD (Iu q) (by
 rintro w H Q ⟨u,v,r,d,s,R,E,h,k⟩;obtain⟨⟨x,i⟩,p,h⟩:=VZ.mp h;cases h;exact⟨u,v,r,x,i,R,E,p,λj l o n=>k j l o n⟩)
noncomputable def iV(a b:ME):ME:=λd h=>(a d h).bind λp=>match p.1 with|.bl c7=>b d p.2|.bl c6=>b4 (.bl c6,p.2)|_=>c4
noncomputable def yD(a b:ME):ME:=λd h=>(a d h).bind λp=>match p.1 with|.bl c7=>b4 (.bl c7,p.2)|.bl c6=>b d p.2|_=>c4
noncomputable def kI(a:ME):ME:=λh d=>(a h d).bind λp=>match p.1 with|.bl b=>b4 (.bl (!b),p.2)|_=>c4
theorem K8{op:BoolOp}(h:PE X a (tM X.K m)):PE X (.BoolOp op [a] pos) (tM X.K m):=Iz h
theorem K9(s:PE X a (tM X.K ma))(u:PE X (.BoolOp .And (b::bT) pos) (tM X.K mb)):PE X (.BoolOp .And (a::b::bT) pos) (tM X.K (iV ma mb)):=cN (IA s u) (by
 rintro A H Q ⟨y,p,w,d,n,R,E,h,k⟩;obtain⟨⟨x,i⟩,r,h⟩:=VT.mp h;cases x with
 |bl c=>
  refine⟨y,p,w,.bl c,i,R,E,r,λj z q l o v=>?_⟩;cases v;refine⟨c,rfl,?_⟩;cases c with
  |true=>refine nD ?_;exact⟨j,p,i,d,n,o,E.mono l,h,k.after l⟩|false=>refine nC ?_;cases h;exact k j _ q l o (.bl c6)
 |_=>cases h)
theorem La(s:PE X a (tM X.K ma))(u:PE X (.BoolOp .Or (b::bT) pos) (tM X.K mb)):PE X (.BoolOp .Or (a::b::bT) pos) (tM X.K (yD ma mb)):=cN (IB s u) (by
 rintro A H Q ⟨y,p,w,d,n,R,E,h,k⟩;obtain⟨⟨x,i⟩,r,h⟩:=VT.mp h;cases x with
 |bl c=>
  refine⟨y,p,w,.bl c,i,R,E,r,λj z q l o v=>?_⟩;cases v;refine⟨c,rfl,?_⟩;cases c with
  |true=>refine nD ?_;cases h;exact k j _ q l o (.bl c7)|false=>refine nC ?_;exact⟨j,p,i,d,n,o,E.mono l,h,k.after l⟩
 |_=>cases h)
theorem Lb(p:PE X a (tM X.K ma)):PE X (.UnaryOp .Not a pos) (tM X.K (kI ma)):=cN (IC p) (by
 rintro z H Q ⟨v,w,r,d,s,R,E,h,k⟩;obtain⟨⟨x,u⟩,o,h⟩:=VT.mp h;cases x with
 |bl c=>cases h;refine⟨v,w,r,_,_,R,E,o,λi y j n l q=>?_⟩;cases q;exact⟨_,rfl,k i _ j n l (.bl _)⟩
 |_=>cases h)
noncomputable def gX(t:MT)(a b:ME):ME:=λd h=>(t d h).bind λp=>match p.1 with|true=>a d p.2|false=>b d p.2
theorem Lc(hc:PT X c (dI X.K mt))(r:PE X a (tM X.K ma))(s:PE X b (tM X.K mb)):PE X (.IfExp c a b pos) (tM X.K (gX mt ma mb)):=cN (IE hc r s) (by
 rintro y H Q ⟨v,o,u,d,i,R,E,n,k⟩;obtain⟨⟨x,h⟩,q,n⟩:=VT.mp n;refine⟨v,o,u,x,h,R,E,q,λj w l p=>?_⟩;cases x with
 |true=>refine nD ?_;exact⟨j,o,h,d,i,p,E.mono l,n,k.after l⟩|false=>
  refine nC ?_;exact⟨j,o,h,d,i,p,E.mono l,n,k.after l⟩)
noncomputable def aD:MA:=λ_ d=>b4 ([],d)
noncomputable def aB(a:ME)(r:MA):MA:=λd h=>(a d h).bind λp=>(r d p.2).bind λq=>b4 (p.1::q.1,q.2)
variable{es:List Expr}{ms:MA}
theorem Ld:PA X [] (eT X.K aD):=CV xV (by
 rintro o H Q ⟨j,n,l,d,i,R,E,h,k⟩;cases h;exact k j [] H .refl R .nil)
theorem Le(w:PE X e (tM X.K m))(y:PA X es (eT X.K ms))(z:Wn (e::es) X.env=(c6,eval e X.env)::Wn es X.env:=by rfl):PA X (e::es) (eT X.K (aB m ms)):=CV (xW w y z) (by
 rintro O H Q ⟨K,q,I,d,J,R,E,h,k⟩;obtain⟨⟨x,i⟩,u,h⟩:=VT.mp h;obtain⟨⟨G,j⟩,v,h⟩:=VT.mp h;cases h;exact⟨K,q,I,x,i,R,E,u,λl M L o s A=>⟨l,q,i,G,j,s,E.mono o,v,λn N r p R2 B=>k n _ r (o.trans p) R2 (.cons (A.mono p) B)⟩⟩)
noncomputable def bY(ms:MA):ME:=λh d=>(ms h d).bind λp=>if p.1.length<=Wb then b4 (.tup p.1,p.2)else c4
noncomputable def bO(ms:MA):ME:=λh d=>(ms h d).bind λp=>if p.1.length<=Wb then b4 (.loc p.2.length,p.2++[.lst p.1])else c4
theorem Lf{w:Nat}(h:PA X es (eT X.K ms)):PE X (.Tuple es w pos) (tM X.K (bY ms)):=cN (JQ h) (by
 rintro J H Q ⟨A,B,x,d,y,R,E,i,k⟩;obtain⟨⟨I,z⟩,r,i⟩:=VT.mp i;split at i
 ·rename_i s;cases i;refine⟨A,B,x,_,_,R,E,r,λj v G q o n=>⟨by rw[n.length];exact s,λp u=>?_⟩⟩;obtain⟨l,R2⟩:=o.fresh (o:=.tup v) u;exact k j _ _ (q.trans l) R2 (.tup (.of dG) (n.mono l))
 ·cases i)
theorem Lg(h:PA X es (eT X.K ms)):PE X (.List es pos) (tM X.K (bO ms)):=cN (JR h) (by
 rintro K H Q ⟨I,J,B,d,G,R,E,j,k⟩;obtain⟨⟨n,i⟩,x,j⟩:=VT.mp j;split at j
 ·rename_i y;cases j;refine⟨I,J,B,n,i,R,E,x,λl o r v u s=>⟨by rw[s.length];exact y,λp z=>?_⟩⟩;obtain⟨w,R2,q⟩:=u.alloc (c:=.lst n) (o:=.lst o) z s;have A:IsD X.K (fH l i.length p) (i++[C.lst n]).length (upd r p (.lst o)) (.ref p) (.loc i.length):=by have:=IsD.loc (K:=X.K) (π:=fH l i.length p) (n:=(i++[C.lst n]).length) (H:=upd r p (.lst o)) (a:=i.length) (by simp);rw[q]at this;exact this
  exact k _ _ _ (v.trans w) R2 A
 ·cases j)
noncomputable def aH(f:MF)(ms:MA):ME:=λh d=>(ms h d).bind λp=>f p.1 p.2
theorem CY{K:VU}{f:MF}{n:Nat}{E:XK}(x:∀l j ds h,ms l j=b4 (ds,h)->ds.length=n):∀σ H Q,tM K (aH f ms) σ H Q->t8 (cT K n f) [] E (eT K ms) σ H Q:=by rintro σ H Q ⟨z,l,j,d,h,R,E,o,k⟩;obtain⟨⟨p,i⟩,r,o⟩:=VT.mp o;refine⟨z,l,j,p,i,R,E,r,λq y u w v s=>?_⟩;show cT K n f (y++[]) u Q _;rw[W4];exact⟨by rw[s.length];exact x l j p i r,q,p,i,d,h,v,s,o,k.after w⟩
theorem CZ:∀j i ds d,aD j i=b4 (ds,d)->ds.length=0:=by intro j i ds d h;cases h;rfl
theorem Lh{n:Nat}(h:∀j k ds d,ms j k=b4 (ds,d)->ds.length=n):∀j k ds d,aB m ms j k=b4 (ds,d)->ds.length=n+1:=by intro j k ds d i;obtain⟨⟨x,l⟩,r,i⟩:=VT.mp i;obtain⟨⟨p,q⟩,o,i⟩:=VT.mp i;cases i;rw[Ww,h j l p _ o]
theorem Li{k:Nat}{f:Addr}{j:W8}{ps:List Str}{l:MF}{x:Str}{p:XD}{n:Nat}(F:FnOk X.prog X.w X.K X.mg X.base dB k f j ps (cT X.K n l))(y:Room k X.A)(s:Gl X x)(v:X.mg x=b4 (.ref f))
  (u:Xe X.K (.ref f)=c7)(q:Binds X.K j ps [])(o:PA X (e::es) (eT X.K ms))(w:∀A z ds i,ms A z=b4 (ds,i)->ds.length=n)(d:(x==("__debug__":Str))=false:=by decide)
  (r:Wn (e::es) X.env=(c6,eval e X.env)::Wn es X.env:=by rfl)(h:(XM pos (Wn es X.env)).any (·.1)=false:=by rfl) :
  PE X (.Call (.Name x p) (e::es) [] pos) (tM X.K (aH l ms)):=
 cN (JS F y s v u q .nil (E:=E0) nB o d r h) (CY w)
noncomputable def fR(K:VU)(f:MF)(r:List V->Hp->VK->Prop):Prop:=
 ∀j H i l d h k Q,Rp K j H i->IsDs K j i.length H k l->f l i=b4 (d,h)->KC K Q j i.length H d h->r k H Q
theorem yE{K:VU}{f:MF}{r:List V->Hp->VK->Prop}(u:fR K f r):∀σ H Q,tM K (aH f ms) σ H Q->uC r (eT K ms) σ H Q:=by rintro σ H Q ⟨y,z,x,d,j,R,E,i,k⟩;obtain⟨⟨n,h⟩,s,i⟩:=VT.mp i;exact⟨y,z,x,n,h,R,E,s,λl w o q p v=>u l o h n d j w Q p v i (k.after q)⟩
theorem Lj{f:MF}{r:List V->Hp->VK->Prop}{id:String}{x:Str}{p:XD}(hc:CallR X (.builtin id) r)(k:fR X.K f r)(l:Gl X x)(n:X.mg x=c4)(q:XW x=b4 (.builtin id))(i:PA X (e::es) (eT X.K ms))
  (o:x ≠ "__name__":=by decide) (d:(x==("__debug__":Str))=false:=by decide)
  (j:Wn (e::es) X.env=(c6,eval e X.env)::Wn es X.env:=by rfl)(h:(XM pos (Wn es X.env)).any (·.1)=false:=by rfl):PE X (.Call (.Name x p) (e::es) [] pos) (tM X.K (aH f ms)):=
 cN (JY hc l n q i o d j h) (yE k)
theorem Lk{f:MF}{r:List V->Hp->VK->Prop}{T:String}{x:Str}{p:XD}(hc:CallR X (.type T) r)(k:fR X.K f r)(l:Gl X x)(n:X.mg x=c4)(q:XW x=b4 (.type T))(i:PA X (e::es) (eT X.K ms))
  (o:x ≠ "__name__":=by decide) (d:(x==("__debug__":Str))=false:=by decide)
  (j:Wn (e::es) X.env=(c6,eval e X.env)::Wn es X.env:=by rfl)(h:(XM pos (Wn es X.env)).any (·.1)=false:=by rfl):PE X (.Call (.Name x p) (e::es) [] pos) (tM X.K (aH f ms)):=
 cN (JZ hc l n q i o d j h) (yE k)
noncomputable def b8(d:Hm):D->Option (List D)
 |.tup xs=>b4 xs|.rol xs=>b4 xs|.loc a=>match d[a]? with|some (.lst xs)=>b4 xs|_=>c4
 |_=>c4
noncomputable def gY:D->D->Hm->Option (D×Hm)
 |.str z,.int i,μ=>if z.length<=Wb then(atI z.cps.toList i).map λc=>(.str ⟨#[c]⟩,μ)else c4|x,.int i,μ=>(b8 μ x).bind λh=>(atI h i).map λd=>(d,μ)|_,_,_=>c4
theorem Ll{K:VU}:cZ K gY (CB K):=by
 intro q H O x y d I M N Q R s E j k;cases E with
 |int i=>
  cases s with
  |str z=>
   simp only[gY]at j;split at j
   ·rename_i A;obtain⟨c,l,n⟩:=VZ.mp j;cases n;exact .inr (.inr ⟨z,i,c,rfl,rfl,A,l,k q _ H .refl R (.str _)⟩)
   ·cases j
  |tup h t=>simp only[gY,b8,Wl]at j;obtain⟨r,l,n⟩:=VZ.mp j;cases n;obtain⟨v,o,p⟩:=t.atI l;exact .inr (.inl ⟨_,_,i,v,rfl,rfl,h,o,k q _ H .refl R p⟩)|rol h t=>simp only[gY,b8,Wl]at j;obtain⟨r,l,n⟩:=VZ.mp j;cases n;obtain⟨v,o,p⟩:=t.atI l;exact .inl ⟨_,_,i,v,rfl,rfl,h.sq,o,k q _ H .refl R p⟩|@loc a J=>
   simp only[gY,b8]at j;split at j
   ·rename_i G B;simp only[Wl]at j;obtain⟨r,l,n⟩:=VZ.mp j;cases n;obtain⟨L,u,w⟩:=R.lst a G B;obtain⟨v,o,p⟩:=w.atI l;exact .inl ⟨_,_,i,v,rfl,rfl,.of u,o,k q _ H .refl R p⟩
   ·cases j
  |_=>simp[gY,b8]at j
 |_=>cases s<;>simp[gY]at j
theorem Lm(d:PE X a (tM X.K ma))(h:PE X b (tM X.K mb))(i:xZ b):PE X (.Subscript a b pos) (tM X.K (aC gY ma mb)):=cN (Kg Ki d h i) (rG Ll)
noncomputable def rH(xs:List D)(lo d:Option Int):List D:=(xs.drop (HT.sIx xs.length 0 lo)).take (HT.sIx xs.length xs.length d-HT.sIx xs.length 0 lo)
noncomputable abbrev MO:=aG->Hm->Option (Option Int×Hm)
noncomputable def kJ:MO:=λ_ d=>b4 (c4,d)
noncomputable def oQ(m:ME):MO:=λh d=>(m h d).bind λp=>match p.1 with|.int i=>b4 (b4 i,p.2)|_=>c4
noncomputable def rJ(K:VU)(m:MO):TO:=λσ H Q=>∃π j i o d,Rp K π H i/\En K π i.length H σ j/\m j i=b4 (o,d)/\∀h H',Ext π i.length H h d.length H'->Rp K h H' d->Q o H'
theorem Ln:PO X c4 (rJ X.K kJ):=λa5T s σ H Q I q=>Ka a5T s σ H Q I (by
 obtain⟨i,l,j,o,h,R,E,d,k⟩:=q;cases d;exact k i H .refl R)
theorem Lo(h:PE X e (tM X.K m)):PO X (b4 e) (rJ X.K (oQ m)):=λa5T s σ H Q I q=>Kb h a5T s σ H Q I (by
 obtain⟨z,A,v,o,w,R,E,d,k⟩:=q;obtain⟨⟨x,y⟩,r,d⟩:=VT.mp d;cases x with
 |int i=>cases d;refine⟨z,A,v,_,_,R,E,r,λj B l p n u=>?_⟩;cases u;exact⟨_,rfl,k j l p n⟩
 |_=>cases d)
noncomputable abbrev C0(K:VU):V->Option Int->Option Int->Hp->VK->Prop:=x6 K
theorem Lp{X:Cx}:xX X (C0 X.K):=Kl
theorem C1{K:VU}{x:V}{lo d:Option Int}{H:Hp}{Q:VK}(h:x6 K x lo d H Q):C0 K x lo d H Q:=h
noncomputable def yF(a:ME)(lo h:MO):ME:=λd j=>(a d j).bind λp=>(lo d p.2).bind λq=>(h d q.2).bind λr=>
 match p.1 with
 |.tup _=>c4|x=>(b8 r.2 x).bind λi=>b4 (.loc r.2.length,r.2++[.lst (rH i q.1 r.1)])
theorem C2{K:VU}{π:Nat->Addr}{n:Nat}{H:Hp}{vs:List V}{ds:List D}(h:IsDs K π n H vs ds)(lo d:Option Int):IsDs K π n H (lR vs lo d) (rH ds lo d):=by unfold lR rH;rw[h.length];exact(h.drop _).take _
theorem jP{K:VU}{π:Nat->Addr}{d:Hm}{p:Addr}{c:C}{H:Hp}:IsD K (fH π d.length p) (d++[c]).length H (.ref p) (.loc d.length):=by have:=IsD.loc (K:=K) (π:=fH π d.length p) (n:=(d++[c]).length) (H:=H) (a:=d.length) (by simp);rw[show fH π d.length p d.length=p from if_pos rfl]at this;exact this
theorem Lq{lo K:Option Expr}{M L:MO}{p2:XD}(ha:PE X a (tM X.K ma))(hl:PO X lo (rJ X.K M))(hu:PO X K (rJ X.K L)):PE X (.Subscript a (.Slice lo K c4 p2) pos) (tM X.K (yF ma M L)):=cN (Kd Lp ha hl hu) (by
 rintro σ H Q ⟨π,J,μ,d,μ',R,E,j,k⟩;obtain⟨⟨x,n⟩,T,j⟩:=VT.mp j;obtain⟨⟨l,o⟩,U,j⟩:=VT.mp j;obtain⟨⟨u,B⟩,Y,j⟩:=VT.mp j;refine⟨π,J,μ,x,n,R,E,T,λG v1 H1 r O i1=>⟨G,J,n,l,o,O,E.mono r,U,λI H2 s R2=>⟨I,J,o,u,B,R2,(E.mono r).mono s,Y,λπ3 H3 y v=>?_⟩⟩⟩;have i3:=(i1.mono s).mono y;cases i3 with
 |rol h t=>simp only[b8,Wl]at j;cases j;refine C1 ⟨_,_,rfl,h.sq,λp A=>?_⟩;obtain⟨z,w,q⟩:=v.alloc (c:=.lst (rH _ l u)) (o:=.lst (lR _ l u)) A (C2 t l u);exact k _ _ _ (((r.trans s).trans y).trans z) w jP|@loc i hi'=>
  simp only[b8]at j;split at j
  ·rename_i N hx;simp only[Wl]at j;cases j;obtain⟨vs,Z,h6⟩:=v.lst i N hx;refine C1 ⟨_,_,rfl,.of Z,λp A=>?_⟩;obtain⟨z,w,q⟩:=v.alloc (c:=.lst (rH N l u)) (o:=.lst (lR vs l u)) A (C2 h6 l u);exact k _ _ _ (((r.trans s).trans y).trans z) w jP
  ·cases j
 |tup h t=>simp at j
 |_=>simp[b8]at j)
end
section
variable{X:Cx}{e a b c:Expr}{m:ME}{pos:XD}{mt:MT}{st:Stmt}{bT body orelse:List Stmt}{ms mr mu:MS}
noncomputable def a8:MS:=λh d=>b4 (.nx,h,d)
noncomputable def aI(a b:MS):MS:=λh d=>(a h d).bind λp=>match p.1 with|.nx=>b p.2.1 p.2.2|_=>b4 p
noncomputable def a6(m:ME):MS:=λd h=>(m d h).map λp=>(.rt p.1,d,p.2)
noncomputable def cP(m:ME):MS:=λd h=>(m d h).map λp=>(.nx,d,p.2)
noncomputable def aX(t:MT)(a b:MS):MS:=λd h=>(t d h).bind λp=>match p.1 with|true=>a d p.2|false=>b d p.2
noncomputable def aK(i:Nat)(m:ME):MS:=λd h=>(m d h).map λp=>(.nx,d.set i (b4 p.1),p.2)
theorem Lr:PSs X [] (dP X.K a8):=CW IH (by
 rintro E n H ⟨j,q,p,o,l,i,R,d,h,k⟩;cases h;exact k j n H .refl R d)
theorem Ls(s:PS X st (dP X.K ms))(G:PSs X bT (dP X.K mr)):PSs X (st::bT) (dP X.K (aI ms mr)):=CW (II s G) (by
 rintro E N H ⟨J,K,I,y,w,u,R,A,j,k⟩;obtain⟨⟨x,q,p⟩,s,j⟩:=VT.mp j;refine⟨J,K,I,x,q,p,R,A,s,?_⟩;cases x with
 |nx=>
  intro v L M r B z;refine⟨v,q,p,y,w,u,B,z,j,?_⟩;cases y with
  |nx=>exact λh i n o R2 l=>k h i n (r.trans o) R2 l|bk=>exact λh i n o R2 l=>k h i n (r.trans o) R2 l|ct=>exact λh i n o R2 l=>k h i n (r.trans o) R2 l|rt d=>exact KC.after k r
 |rt d=>cases j;exact k|bk=>cases j;exact k
 |ct=>cases j;exact k)
theorem Lu(d:PS X st (dP X.K ms)):PSs X [st] (dP X.K ms):=IJ d
theorem Lv:PS X (.Pass pos) (dP X.K a8):=jO IK (by
 rintro E n H ⟨j,q,p,o,l,i,R,d,h,k⟩;cases h;exact k j n H .refl R d)
theorem Lx(l:PE X e (tM X.K m)):PS X (.Return (b4 e) pos) (dP X.K (a6 m)):=jO (IQ l) (by
 rintro E u H ⟨p,q,n,s,r,o,R,i,d,k⟩;obtain⟨⟨x,h⟩,j,d⟩:=VZ.mp d;cases d;exact⟨p,q,n,x,h,R,i,j,k⟩)
theorem Lz(q:PE X e (tM X.K m))(r:ZF e c4 pos.line X.env=pure false:=by rfl):PS X (.Expr e pos) (dP X.K (cP m)):=jO (IM q r) (by
 rintro E z H ⟨v,w,s,A,y,u,R,j,d,k⟩;obtain⟨⟨x,h⟩,p,d⟩:=VZ.mp d;cases d;exact⟨v,w,s,x,h,R,j,p,λi G n l o B=>k i z n l o (j.mono l)⟩)
theorem LA(hc:PT X c (dI X.K mt))(I:PSs X body (dP X.K ms))(J:PSs X orelse (dP X.K mu)):PS X (.If c body orelse pos) (dP X.K (aX mt ms mu)):=jO (IV hc I J) (by
 rintro E M H ⟨L,y,K,u,o,l,R,w,v,k⟩;obtain⟨⟨x,j⟩,G,v⟩:=VT.mp v;refine⟨L,y,K,x,j,R,w,G,λn B p z=>?_⟩;have A:oO X.K E n j.length B u o l:=by
  cases u with
  |nx=>exact λh i r s R2 q=>k h i r (p.trans s) R2 q|bk=>exact λh i r s R2 q=>k h i r (p.trans s) R2 q|ct=>exact λh i r s R2 q=>k h i r (p.trans s) R2 q|rt d=>exact KC.after k p
 cases x with
 |true=>refine nD ?_;exact⟨n,y,j,u,o,l,z,w.mono p,v,A⟩|false=>
  refine nC ?_;exact⟨n,y,j,u,o,l,z,w.mono p,v,A⟩)
theorem C3{i:Nat}{x:Str}{d:XD}(s:X.N.Nodup)(w:X.N[i]?=b4 x)(z:Loc X.env.scope x)(u:PE X e (tM X.K m))(y:ZF e (b4 (.Name x d)) pos.line X.env=pure false:=by rfl)
  (v:X.fn x=c7\/X.env.scope.names.lookup x=b4 .local:=by first|exact .inl rfl|exact .inr rfl|assumption):PS X (.Assign [.Name x d] e pos) (dP X.K (aK i m)):=jO (IZ s w z u y v) (by
 rintro E N H ⟨I,J,B,L,K,G,R,n,h,k⟩;obtain⟨⟨x,j⟩,r,h⟩:=VZ.mp h;cases h;exact⟨I,J,B,x,j,R,n,r,λl M p o q A=>k l _ p o q ((n.mono o).set A i)⟩)
end
noncomputable def rK(n:Nat)(ds:List D):aG:=ds.map b4++WH (n-ds.length) c4
noncomputable def rL(n:Nat)(m:MS):MF:=λds a=>(m (rK n ds) a).bind λp=>match p.1 with|.rt d=>b4 (d,p.2.2)|.nx=>b4 (.non,p.2.2)|_=>c4
theorem yG{K:VU}{π:Nat->Addr}{n:Nat}{H:Hp}{N:List Str}{vs:List V}{ds:List D}(h:IsDs K π n H vs ds)(o:vs.length<=N.length):En K π n H (L2.start N vs) (rK N.length ds):=by
 have a:=h.length;refine⟨by simp[L2.start,rK,a],λi d e=>?_⟩;unfold rK at e;unfold L2.start;by_cases b:i<ds.length
 ·rw[Wz (by simpa using b),WD]at e;obtain⟨m,c,j⟩:=VZ.mp e;cases j;obtain⟨v,k,l⟩:=h.get c;exact⟨v,by rw[Wz (by rw[V0,a];exact b),WD,k];rfl,l⟩
 ·rw[W2 (by simpa using ZR.mp b)]at e;have:=YF (n:=N.length-ds.length) (a:=(c4:Option D)) (i:=i-(ds.map b4).length);rw[this]at e;split at e<;>simp at e
section
variable{P:Wv}{w:WO}{K:VU}{mg:Str->Option Value}{base:Xo}
theorem LB{x a:Str}{st:Stmt}{f:Addr}{p:W8}{N ps:List Str}{k:Nat}{m:MS}(F:Fun K x a st f p)(S:FnScope N ps (bN st))(j:ps.length<=N.length)
  (c:∀(b:Value)(A:WJ)(outer:List ZS)(s:V1)(H:Hp)(E:XK),Room k (A.deeper (Zn a (bN st) s.heap.objs.size f b))->
   PSs (fA dB P w K mg base N a (bN st) f b A outer s H E).nox (dC st) (dP K m)):FnOk P w K mg base dB (k+1) f p ps (cT K ps.length (rL N.length m)):=by
 refine F.ok S (λI H Q E h=>h.1) λb A outer s H I Q E B h=>⟨_,c b A outer s H E B,?_⟩;obtain⟨G,M,ds,J,d,L,R,i,e,r⟩:=h;obtain⟨⟨q,o,l⟩,z,e⟩:=VT.mp e;refine⟨M,_,J,q,o,l,R,yG i (by rw[G];exact j),z,?_⟩;cases q with
 |rt U=>cases e;exact r|nx=>cases e;exact λn O u y v T=>r n .non u y v .non|bk=>cases e|ct=>cases e
end
end L3
namespace L3
open PySem L2
open SeqAt (EqAt RcAt RcNeAt)
inductive KD where
 |non|bl (b:Bool)|int (i:Int)|str (x:Str)|tup (n:Nat)|lst (n:Nat)
inductive IsK (s:V1):Value->KD->Prop where
 |non:IsK s .none .non
 |bl (b:Bool):IsK s (.bool b) (.bl b)
 |int (i:Int)(t:Tok):IsK s (.int i t) (.int i)
 |str (x:Str)(t:Tok):IsK s (.str x t) (.str x)
 |tup {l:Addr}{its:List Value}(h:s.heap.IsTuple l its.toArray):IsK s (.ref l) (.tup its.length)
 |lst {l:Addr}{its:List Value}(h:s.heap.IsList l its.toArray):IsK s (.ref l) (.lst its.length)
noncomputable def oR(e:Nat->Bool):KD->KD->Bool
 |.non,.non=>c7|.bl a,.bl b=>a==b|.bl a,.int b=>(if a then 1 else 0)==b|.int a,.bl b=>a==(if b then 1 else 0)|.int a,.int b=>a==b|.str a,.str b=>a==b|.tup n,.tup k=>(Xh (min n k)).all e&&n==k|.lst n,.lst k=>(Xh (min n k)).all e&&n==k|_,_=>c6
noncomputable def uH(A:WJ)(s:V1)(u v:Value)(e:Nat->Bool):Prop:=
 (∀l b c a,u=.ref l->v=.ref b->s.heap.IsTuple l c->s.heap.IsTuple b a->∀j (d:j<c.size)(h:j<a.size),EqAt A.in1 s c[j] a[j] (e j)) /\
 (∀l b c a,u=.ref l->v=.ref b->s.heap.IsList l c->s.heap.IsList b a->∀j (d:j<c.size)(h:j<a.size),EqAt A.in1 s c[j] a[j] (e j))
section
variable{A:WJ}{s:V1}{u v:Value}{k k':KD}{e:Nat->Bool}
theorem C4{n k:Nat}(e:Nat->Bool)(h:n=k):((Xh (min n k)).all e&&n==k)=(Xh n).all e:=by subst h;simp
theorem C5{n k:Nat}(e:Nat->Bool)(h:n≠k):((Xh (min n k)).all e&&n==k)=false:=by simp[h]
theorem yH(h:IsK s u k)(h':IsK s v k')(c:A.units<Yt)(o:uH A s u v e):RcAt A s u v (oR e k k'):=by
 cases h with
 |non=>
  cases h' with
  |non=>exact RcAt.none_none|bl b=>exact RcAt.none_bool b|int i t=>exact RcAt.none_int i t|str x t=>exact RcAt.none_str x t|tup h=>exact RcAt.none_tuple h c|lst h=>exact RcAt.none_list h c
 |bl a=>
  cases h' with
  |non=>exact RcAt.bool_none a|bl b=>exact RcAt.bool_bool a b|int i t=>exact RcAt.bool_int a i t|str x t=>exact RcAt.bool_str a x t|tup h=>exact RcAt.bool_tuple a h c|lst h=>exact RcAt.bool_list a h c
 |int a j=>
  cases h' with
  |non=>exact RcAt.int_none a j|bl b=>exact RcAt.int_bool a j b|int i t=>exact RcAt.int_int a j i t|str x t=>exact RcAt.int_str a j x t|tup h=>exact RcAt.int_tuple a j h c|lst h=>exact RcAt.int_list a j h c
 |str a j=>
  cases h' with
  |non=>exact RcAt.str_none a j|bl b=>exact RcAt.str_bool a j b|int i t=>exact RcAt.str_int a j i t|str x t=>exact RcAt.str_str a j x t|tup h=>exact RcAt.str_tuple a j h c|lst h=>exact RcAt.str_list a j h c
 |tup g=>
  cases h' with
  |non=>exact RcAt.tuple_none g c|bl b=>exact RcAt.tuple_bool b g c|int i t=>exact RcAt.tuple_int i t g c|str x t=>exact RcAt.tuple_str x t g c|tup h=>have:=RcAt.tuples (e:=e) g h c (o.1 _ _ _ _ rfl rfl g h);simpa[oR]using this|lst h=>exact RcAt.tuple_list g h c
 |lst g=>
  cases h' with
  |non=>exact RcAt.list_none g c|bl b=>exact RcAt.list_bool b g c|int i t=>exact RcAt.list_int i t g c|str x t=>exact RcAt.list_str x t g c|tup h=>exact RcAt.list_tuple g h c|@lst b d h=>
   rename_i l m;by_cases n:m.length=d.length
   ·have:=RcAt.lists (e:=e) g h (by simpa using n) c (o.2 _ _ _ _ rfl rfl g h);show RcAt A s _ _ ((Xh (min m.length d.length)).all e&&m.length==d.length);rw[C4 e n];simpa using this
   ·have:=RcAt.lists_lengths g h (by simpa using n) c;show RcAt A s _ _ ((Xh (min m.length d.length)).all e&&m.length==d.length);rw[C5 e n];exact this
theorem LC(h:IsK s u k)(h':IsK s v k')(c:A.units<Yt)(o:uH A s u v e):RcNeAt A s u v (!oR e k k'):=by
 cases h with
 |non=>
  cases h' with
  |non=>exact RcNeAt.none_none|bl b=>exact RcNeAt.none_bool b|int i t=>exact RcNeAt.none_int i t|str x t=>exact RcNeAt.none_str x t|tup h=>exact RcNeAt.none_tuple h c|lst h=>exact RcNeAt.none_list h c
 |bl a=>
  cases h' with
  |non=>exact RcNeAt.bool_none a|bl b=>exact RcNeAt.bool_bool a b|int i t=>exact RcNeAt.bool_int a i t|str x t=>exact RcNeAt.bool_str a x t|tup h=>exact RcNeAt.bool_tuple a h c|lst h=>exact RcNeAt.bool_list a h c
 |int a j=>
  cases h' with
  |non=>exact RcNeAt.int_none a j|bl b=>exact RcNeAt.int_bool a j b|int i t=>exact RcNeAt.int_int a j i t|str x t=>exact RcNeAt.int_str a j x t|tup h=>exact RcNeAt.int_tuple a j h c|lst h=>exact RcNeAt.int_list a j h c
 |str a j=>
  cases h' with
  |non=>exact RcNeAt.str_none a j|bl b=>exact RcNeAt.str_bool a j b|int i t=>exact RcNeAt.str_int a j i t|str x t=>exact RcNeAt.str_str a j x t|tup h=>exact RcNeAt.str_tuple a j h c|lst h=>exact RcNeAt.str_list a j h c
 |tup g=>
  cases h' with
  |non=>exact RcNeAt.tuple_none g c|bl b=>exact RcNeAt.tuple_bool b g c|int i t=>exact RcNeAt.tuple_int i t g c|str x t=>exact RcNeAt.tuple_str x t g c|tup h=>have:=RcNeAt.tuples (e:=e) g h c (o.1 _ _ _ _ rfl rfl g h);simpa[oR]using this|lst h=>exact RcNeAt.tuple_list g h c
 |lst g=>
  cases h' with
  |non=>exact RcNeAt.list_none g c|bl b=>exact RcNeAt.list_bool b g c|int i t=>exact RcNeAt.list_int i t g c|str x t=>exact RcNeAt.list_str x t g c|tup h=>exact RcNeAt.list_tuple g h c|@lst b d h=>
   rename_i l m;by_cases n:m.length=d.length
   ·have:=RcNeAt.lists (e:=e) g h (by simpa using n) c (o.2 _ _ _ _ rfl rfl g h);show RcNeAt A s _ _ (!((Xh (min m.length d.length)).all e&&m.length==d.length));rw[C4 e n];simpa using this
   ·have:=RcNeAt.lists_lengths g h (by simpa using n) c;show RcNeAt A s _ _ (!((Xh (min m.length d.length)).all e&&m.length==d.length));rw[C5 e n];exact this
theorem LF(h:IsK s u k)(h':IsK s v k')(c:A.units<Yt)(o:uH A s u v e)(n:∀l b,u=.ref l->v=.ref b->l≠b):EqAt A s u v (oR e k k'):=by
 cases h with
 |non=>
  cases h' with
  |non=>exact EqAt.same _|bl b=>exact EqAt.none_bool b|int i t=>exact EqAt.none_int i t|str x t=>exact EqAt.none_str x t|tup h=>exact EqAt.none_tuple h c|lst h=>exact EqAt.none_list h c
 |bl a=>
  cases h' with
  |non=>exact EqAt.bool_none a|bl b=>exact EqAt.bool_bool a b|int i t=>exact EqAt.bool_int a i t|str x t=>exact EqAt.bool_str a x t|tup h=>exact EqAt.bool_tuple a h c|lst h=>exact EqAt.bool_list a h c
 |int a d=>
  cases h' with
  |non=>exact EqAt.int_none a d|bl b=>exact EqAt.int_bool a d b|int i t=>exact EqAt.int_int a d i t|str x t=>exact EqAt.int_str a d x t|tup h=>exact EqAt.int_tuple a d h c|lst h=>exact EqAt.int_list a d h c
 |str a d=>
  cases h' with
  |non=>exact EqAt.str_none a d|bl b=>exact EqAt.str_bool a d b|int i t=>exact EqAt.str_int a d i t|str x t=>exact EqAt.str_str a d x t|tup h=>exact EqAt.str_tuple a d h c|lst h=>exact EqAt.str_list a d h c
 |@tup l m g=>
  cases h' with
  |non=>exact EqAt.tuple_none g c|bl b=>exact EqAt.tuple_bool b g c|int i t=>exact EqAt.tuple_int i t g c|str x t=>exact EqAt.tuple_str x t g c|@tup b j h=>exact EqAt.of_refs (n l b rfl rfl) (yH (k:=.tup m.length) (k':=.tup j.length) (.tup g) (.tup h) c o)|lst h=>exact EqAt.tuple_list g h c
 |@lst l m g=>
  cases h' with
  |non=>exact EqAt.list_none g c|bl b=>exact EqAt.list_bool b g c|int i t=>exact EqAt.list_int i t g c|str x t=>exact EqAt.list_str x t g c|tup h=>exact EqAt.list_tuple g h c|@lst b j h=>exact EqAt.of_refs (n l b rfl rfl) (yH (k:=.lst m.length) (k':=.lst j.length) (.lst g) (.lst h) c o)
end
inductive KdD where
 |non|bl (b:Bool)|int (i:Int)|str (x:Str)|tup (xs:List D)|lst (xs:List D)
noncomputable def cQ(c:Hm):D->Option KdD
 |.non=>b4 .non|.bl b=>b4 (.bl b)|.int i=>b4 (.int i)|.str x=>b4 (.str x)|.tup xs=>b4 (.tup xs)|.rol xs=>b4 (.lst xs)|.loc a=>match c[a]? with|some (.lst xs)=>b4 (.lst xs)|_=>c4
 |.ty _=>c4
noncomputable def fY(f:D->D->Option Bool):List D->List D->Option Bool
 |x::xs,y::ys=>(f x y).bind λb=>(fY f xs ys).map λc=>b&&c|[],[]=>b4 c7|_,_=>b4 c6
noncomputable def gZ(f:D->D->Option Bool):KdD->KdD->Option Bool
 |.non,.non=>b4 c7|.bl a,.bl b=>b4 (a==b)|.bl a,.int b=>b4 ((if a then 1 else 0)==b)|.int a,.bl b=>b4 (a==(if b then 1 else 0))|.int a,.int b=>b4 (a==b)|.str a,.str b=>b4 (a==b)|.tup xs,.tup ys=>fY f xs ys|.lst xs,.lst ys=>fY f xs ys|_,_=>b4 c6
noncomputable abbrev yI(f:D->D->Option Bool):D->D->Option Bool:=f
theorem C6{f:D->D->Option Bool}{x y:D}{b:Bool}(h:yI f x y=b4 b):f x y=b4 b\/(b=c7/\∃a,x=.loc a/\y=.loc a):=.inl h
noncomputable def cR:Nat->Hm->D->D->Option Bool
 |0,_,_,_=>c4|n+1,μ,x,y=>(cQ μ x).bind λa=>(cQ μ y).bind λb=>gZ (yI (cR n μ)) a b
noncomputable abbrev iW(n:Nat)(a:Hm):D->D->Option Bool:=yI (cR n a)
noncomputable def yJ:KdD->KD
 |.non=>.non|.bl b=>.bl b|.int i=>.int i|.str x=>.str x|.tup xs=>.tup xs.length|.lst xs=>.lst xs.length
noncomputable def oS:KdD->List D
 |.tup xs=>xs|.lst xs=>xs|_=>[]
section
variable{X:Cx}{a5T:List (Addr×Obj)}{σ:St}{H:Hp}{s:V1}{π:Nat->Addr}{μ:Hm}
inductive KdAt (X:Cx)(π:Nat->Addr)(n:Nat)(H:Hp)(s:V1)(u:Value):KdD->Prop where
 |non (h:u=.none):KdAt X π n H s u .non
 |bl (b:Bool)(h:u=.bool b):KdAt X π n H s u (.bl b)
 |int (i:Int)(t:Tok)(h:u=.int i t):KdAt X π n H s u (.int i)
 |str (x:Str)(t:Tok)(h:u=.str x t):KdAt X π n H s u (.str x)
 |tup {xs:List D}(p:Addr)(vs:List V)(its:List Value)(h:u=.ref p)(q:SqT X.K H p vs)(i:IsDs X.K π n H vs xs)(r:Vals vs its)(t:s.heap.IsTuple p its.toArray):KdAt X π n H s u (.tup xs)
 |lst {xs:List D}(p:Addr)(vs:List V)(its:List Value)(h:u=.ref p)(q:SqL X.K H p vs)(i:IsDs X.K π n H vs xs)(r:Vals vs its)(t:s.heap.IsList p its.toArray):KdAt X π n H s u (.lst xs)
theorem oU(I:Inv X a5T σ H s)(R:Rp X.K π H μ){v:V}{d:D}{u:Value}(h:IsD X.K π μ.length H v d)(r:RelV v u){k:KdD}(e:cQ μ d=b4 k):KdAt X π μ.length H s u k:=by
 cases h with
 |non=>cases e;exact .non r|bl b=>cases e;exact .bl b r|int i=>cases e;obtain⟨t,q⟩:=r;exact .int i t q|str x=>cases e;obtain⟨t,q⟩:=r;exact .str x t q|ty x=>cases e|tup q t=>cases e;obtain⟨c,j,p,_⟩:=I.tuple q;exact .tup _ _ c r q t j p|rol q t=>cases e;obtain⟨c,j,p,_⟩:=I.list q.sq;exact .lst _ _ c r q.sq t j p.isList|@loc a y=>
  simp only[cQ]at e;split at e
  ·rename_i w n;cases e;obtain⟨o,l,m⟩:=R.lst a w n;have q:SqL X.K H (π a) o:=.of l;obtain⟨c,j,p,_⟩:=I.list q;exact .lst _ _ c r q m j p.isList
  ·cases e
theorem KdAt.isK{u:Value}{k:KdD}{n:Nat}(h:KdAt X π n H s u k):IsK s u (yJ k):=by
 cases h with
 |non h=>subst h;exact .non|bl b h=>subst h;exact .bl b|int i t h=>subst h;exact .int i t|str x t h=>subst h;exact .str x t|tup p c a h q i r t=>subst h;have:a.length=_:=r.length.symm.trans i.length;show IsK s (.ref p) (.tup _);rw[<- this];exact .tup t|lst p c a h q i r t=>subst h;have:a.length=_:=r.length.symm.trans i.length;show IsK s (.ref p) (.lst _);rw[<- this];exact .lst t
noncomputable def iF(f:D->D->Option Bool)(xs a:List D)(j:Nat):Bool:=match xs[j]?,a[j]? with
 |some x,b4 y=>(f x y).getD c6|_,_=>c6
theorem yK{f:D->D->Option Bool}:∀{xs a:List D}{b:Bool},fY f xs a=b4 b->b=((Xh (min xs.length a.length)).all (iF f xs a)&&xs.length==a.length)/\∀(j:Nat) x y,xs[j]?=b4 x->a[j]?=b4 y->f x y=b4 (iF f xs a j)
 |[],[],b,h=>by cases h;exact⟨rfl,λj x y e=>by simp at e⟩
 |x::xs,[],b,h=>by cases h;exact⟨by simp,λj x y _ e=>by simp at e⟩
 |[],y::a,b,h=>by cases h;exact⟨by simp,λj x y e=>by simp at e⟩
 |x::xs,y::a,b,h=>by
  simp only[fY]at h;obtain⟨c,m,o⟩:=VT.mp h;obtain⟨d,p,q⟩:=VZ.mp o;obtain⟨r,u⟩:=yK p;have l:iF f (x::xs) (y::a) 0=c:=by simp[iF,m]
  have n:∀j,iF f (x::xs) (y::a) (j+1)=iF f xs a j:=λj=>by simp[iF]
  refine⟨?_,λj v w i k=>?_⟩
  ·subst q;rw[r];simp only[Ww,Nat.add_min_add_right];rw[a2z,WN,List.all_map,l];have:(iF f (x::xs) (y::a)∘Nat.succ)=iF f xs a:=funext λj=>n j;rw[this];simp[Bool.and_assoc]
  ·cases j with
   |zero=>simp at i k;subst i;subst k;rw[l,m]|succ j=>rw[n j];exact u j v w (by simpa using i) (by simpa using k)
theorem C7{f:D->D->Option Bool}{k k':KdD}{b:Bool}(h:gZ f k k'=b4 b):b=oR (iF f (oS k) (oS k')) (yJ k) (yJ k'):=by
 cases k<;>cases k'<;>simp only[gZ]at h<;>first
  |(have a:=Wj h;subst a;rfl)|(obtain⟨c,_⟩:=yK h;rw[c];rfl)
theorem LG(I:Inv X a5T σ H s)(R:Rp X.K π H μ):∀(n:Nat){v:V}{u:Value}{x y:D}{b:Bool},RelV v u->IsD X.K π μ.length H v x->IsD X.K π μ.length H v y->cR n μ x y=b4 b->b=true:=by
 intro n;induction n with
 |zero=>intro v u x y b _ _ _ h;cases h|succ n ih=>
  intro v u x y b r hx hy h;obtain⟨k,U,h⟩:=VT.mp h;obtain⟨k',h2,h⟩:=VT.mp h;have a1:=oU I R hx r U;have A:=oU I R hy r h2;have l:∀{vs:List V}{xs T:List D}{c:Bool},(∀v∈vs,∃u,RelV v u)->IsDs X.K π μ.length H vs xs->IsDs X.K π μ.length H vs T->fY (iW n μ) xs T=b4 c->c=true:=by
   intro vs;induction vs with
   |nil=>intro xs T c _ Z o h;cases Z;cases o;cases h;rfl|cons w vs ihv=>
    intro xs T c hr Z o h;cases Z with
    |cons p1 t1=>
     cases o with
     |cons L E=>simp only[fY]at h;obtain⟨c1,U,h3⟩:=VT.mp h;obtain⟨c2,h4,h5⟩:=VZ.mp h3;obtain⟨Q,N⟩:=hr w (WU ..);have a:c1=true:=(C6 U).elim (ih N p1 L) (·.1);have m:=ihv (λv J=>hr v (Wq _ J)) t1 E h4;subst a;subst m;exact h5.symm
  cases a1 with
  |non a=>
   subst a;cases A with
   |non _=>simp only[gZ]at h;exact(Wj h).symm|bl _ e=>cases e|int _ _ e=>cases e|str _ _ e=>cases e|tup _ _ _ e=>cases e|lst _ _ _ e=>cases e
  |bl c a=>
   subst a;cases A with
   |non e=>cases e|bl _ e=>cases e;simp only[gZ,beq_self_eq_true]at h;exact(Wj h).symm|int _ _ e=>cases e|str _ _ e=>cases e|tup _ _ _ e=>cases e|lst _ _ _ e=>cases e
  |int c t a=>
   subst a;cases A with
   |non e=>cases e|bl _ e=>cases e|int _ _ e=>cases e;simp only[gZ,beq_self_eq_true]at h;exact(Wj h).symm|str _ _ e=>cases e|tup _ _ _ e=>cases e|lst _ _ _ e=>cases e
  |str c t a=>
   subst a;cases A with
   |non e=>cases e|bl _ e=>cases e|int _ _ e=>cases e|str _ _ e=>cases e;simp only[gZ,beq_self_eq_true]at h;exact(Wj h).symm|tup _ _ _ e=>cases e|lst _ _ _ e=>cases e
  |tup p vs K a q i O t=>
   have z:KdAt X π μ.length H s (.ref p) _:=a▸KdAt.tup p vs K a q i O t;rw[a]at A;cases A with
   |non e=>cases e|bl _ e=>cases e|int _ _ e=>cases e|str _ _ e=>cases e|tup L G d m M o B E=>
    cases m;have:=I.tuple_inj q M;subst this;exact l (λv J=>by
     obtain⟨j,Y,rfl⟩:=a3e J;obtain⟨Q,_,N⟩:=O.get (WM Y);exact⟨Q,N⟩) i o h
   |lst L G d m M o B E=>cases m;exact absurd rfl (X2 E t)
  |lst p vs K a q i O t=>
   rw[a]at A;cases A with
   |non e=>cases e|bl _ e=>cases e|int _ _ e=>cases e|str _ _ e=>cases e|tup L G d m M o B E=>cases m;exact absurd rfl (X2 t E)|lst L G d m M o B E=>
    cases m;have:=I.list_inj q M;subst this;exact l (λv J=>by
     obtain⟨j,Y,rfl⟩:=a3e J;obtain⟨Q,_,N⟩:=O.get (WM Y);exact⟨Q,N⟩) i o h
theorem nG(A:WJ):A.in1.units=A.units+1:=rfl
theorem C8(I:Inv X a5T σ H s){A:WJ}{n:Nat}(ih:∀{A:WJ}{v v':V}{u u':Value}{x y:D}{b:Bool},A.units+n<Yt->RelV v u->RelV v' u'->IsD X.K π μ.length H v x->IsD X.K π μ.length H v' y->cR n μ x y=b4 b->EqAt A s u u' b)
  (hu:A.units+(n+1)<Yt){u u':Value}{k k':KdD}{b:Bool}(a1:KdAt X π μ.length H s u k)(a2:KdAt X π μ.length H s u' k')(h:gZ (iW n μ) k k'=b4 b):uH A s u u' (iF (iW n μ) (oS k) (oS k')):=by
 have J:∀{vs R:List V}{its its':List Value}{xs Z:List D}{c:Bool},Vals vs its->Vals R its'->IsDs X.K π μ.length H vs xs->IsDs X.K π μ.length H R Z->fY (iW n μ) xs Z=b4 c->
   ∀j (U:j<its.length)(Y:j<its'.length),EqAt A.in1 s its[j] its'[j] (iF (iW n μ) xs Z j):=by
  intro vs R its its' xs Z c r r' i i' e j U Y;have l1:=r.length;have l2:=r'.length;have l3:=i.length;have l4:=i'.length;have hx:xs[j]?=b4 (xs[j]'(by omega)):=WM _;have hy:Z[j]?=b4 (Z[j]'(by omega)):=WM _;obtain⟨v,v1,v2⟩:=i.get hx;obtain⟨v',v1',v2'⟩:=i'.get hy;obtain⟨w,w1,w2⟩:=r.get v1;obtain⟨w',w1',w2'⟩:=r'.get v1';rw[WM U]at w1;rw[WM Y]at w1';cases w1;cases w1';have key:∀{x y:D}{b:Bool},IsD X.K π μ.length H v x->IsD X.K π μ.length H v' y->iW n μ x y=b4 b->EqAt A.in1 s its[j] its'[j] b:=λ{x y b} i1 K hq=>by
   rcases C6 hq with hq|⟨rfl,a,rfl,rfl⟩
   ·exact ih (by rw[nG];omega) w2 w2' i1 K hq
   ·cases i1;cases K;have z1:its[j]=Wg (π a):=w2;have z2:its'[j]=Wg (π a):=w2';rw[z1,z2];exact EqAt.same _
  exact key v2 v2' ((yK e).2 j _ _ hx hy)
 constructor
 ·intro l b' G B e1 e2 t1 t2 j U Y;subst e1;subst e2;cases a1 with
  |tup p vs its e q i r t=>
   cases e;cases a2 with
   |tup p2 T E d q2 K r2 Q=>
    cases d;have z1:G=its.toArray:=by obtain⟨o,L,g2,n1,N⟩:=t1;obtain⟨o',m,M,O,z⟩:=t;rw[L]at m;cases m;rw[N]at z;injection z
    have z2:B=E.toArray:=by obtain⟨o,L,g2,n1,N⟩:=t2;obtain⟨o',m,M,O,z⟩:=Q;rw[L]at m;cases m;rw[N]at z;injection z
    subst z1;subst z2;have:=J r r2 i K h j (by simpa using U) (by simpa using Y);simpa[oS]using this
   |lst p2 T E d q2 K r2 Q=>cases d;exact absurd rfl (X2 Q t2)|non d=>cases d|bl _ d=>cases d|int _ _ d=>cases d|str _ _ d=>cases d
  |lst p vs its e q i r t=>cases e;exact absurd rfl (X2 t t1)|non e=>cases e|bl _ e=>cases e|int _ _ e=>cases e|str _ _ e=>cases e
 ·intro l b' G B e1 e2 t1 t2 j U Y;subst e1;subst e2;cases a1 with
  |lst p vs its e q i r t=>
   cases e;cases a2 with
   |lst p2 T E d q2 K r2 Q=>
    cases d;have z1:G=its.toArray:=by obtain⟨o,L,g2,n1,N⟩:=t1;obtain⟨o',m,M,O,z⟩:=t;rw[L]at m;cases m;rw[N]at z;injection z
    have z2:B=E.toArray:=by obtain⟨o,L,g2,n1,N⟩:=t2;obtain⟨o',m,M,O,z⟩:=Q;rw[L]at m;cases m;rw[N]at z;injection z
    subst z1;subst z2;have:=J r r2 i K h j (by simpa using U) (by simpa using Y);simpa[oS]using this
   |tup p2 T E d q2 K r2 Q=>cases d;exact absurd rfl (X2 t2 Q)|non d=>cases d|bl _ d=>cases d|int _ _ d=>cases d|str _ _ d=>cases d
  |tup p vs its e q i r t=>cases e;exact absurd rfl (X2 t1 t)|non e=>cases e|bl _ e=>cases e|int _ _ e=>cases e|str _ _ e=>cases e
theorem yL(I:Inv X a5T σ H s)(R:Rp X.K π H μ):∀(n:Nat){A:WJ}{v c:V}{u a:Value}{x y:D}{b:Bool},A.units+n<Yt->RelV v u->RelV c a->IsD X.K π μ.length H v x->IsD X.K π μ.length H c y->cR n μ x y=b4 b->EqAt A s u a b:=by
 intro n;induction n with
 |zero=>intro A v c u a x y b _ _ _ _ _ h;cases h|succ n K=>
  intro A v c u a x y b J r o j m h;have w:=h;obtain⟨k,B,h⟩:=VT.mp h;obtain⟨M,E,h⟩:=VT.mp h;have d:=oU I R j r B;have e:=oU I R m o E;by_cases i:u=a
  ·subst i;have:v=c:=r.inj o;subst this;have:=LG I R (n+1) r j m w;subst this;exact EqAt.same _
  ·have G:=C8 I K J d e h;rw[C7 h];exact LF d.isK e.isK (by omega) G λl L p q z=>i (by rw[p,q,z])
theorem C9(I:Inv X a5T σ H s)(R:Rp X.K π H μ)(n:Nat){A:WJ}{v i:V}{u d:Value}{x y:D}{b:Bool}(m:A.units+n<Yt)(r:RelV v u)(q:RelV i d)(o:IsD X.K π μ.length H v x)(p:IsD X.K π μ.length H i y)(h:cR n μ x y=b4 b) :
  RcAt A s u d b/\RcNeAt A s u d (!b):=by
 cases n with
 |zero=>cases h|succ n=>obtain⟨k,j,h⟩:=VT.mp h;obtain⟨w,l,h⟩:=VT.mp h;have a:=oU I R o r j;have c:=oU I R p q l;have e:=C8 I (A:=A) (yL I R n) m a c h;rw[C7 h];exact⟨yH a.isK c.isK (by omega) e,LC a.isK c.isK (by omega) e⟩
end
end L3
namespace L3
open PySem L2
open SeqAt (EqAt RcAt RcNeAt)
section
variable{K:VU}
noncomputable def kK(g:Int->Int->Option Int):D->D->Hm->Option (D×Hm)
 |.int i,.int j,μ=>(g i j).map λz=>(.int z,μ)|_,_,_=>c4
theorem Dd{g:Int->Int->Option Int}{x y d:D}{b a:Hm}(h:kK g x y b=b4 (d,a)):∃i j z,x=.int i/\y=.int j/\g i j=b4 z/\d=.int z/\a=b:=by
 unfold kK at h;split at h
 ·rename_i i j;obtain⟨z,c,e⟩:=VZ.mp h;cases e;exact⟨i,j,z,rfl,rfl,c,rfl,rfl⟩
 ·cases h
theorem uI{a:Int->Int->Prop}{g:Int->Int->Option Int}{g':Int->Int->Int}(e:∀i j z,g i j=b4 z->a i j/\z=g' i j):cZ K (kK g) (rI a λi j=>.int (g' i j)):=by intro o H r x y d n p q Q R l m h k;obtain⟨i,j,z,rfl,rfl,b,rfl,rfl⟩:=Dd h;cases l;cases m;obtain⟨c,rfl⟩:=e i j z b;exact⟨i,j,rfl,rfl,c,k o _ H .refl R (.int _)⟩
theorem LH{g':Int->Int->Int}:cZ K (kK λi j=>b4 (g' i j)) (gT λi j=>.int (g' i j)):=by intro l H o x y d h m n Q R c e b k;obtain⟨i,j,z,rfl,rfl,a,rfl,rfl⟩:=Dd b;cases c;cases e;cases a;exact⟨i,j,rfl,rfl,k l _ H .refl R (.int _)⟩
noncomputable def cE:=kK λi j=>b4 (i-j)
noncomputable def De:=kK λi j=>if((-(2^64)<i/\i<2^64)\/(-(2^64)<j/\j<2^64))\/(i.natAbs<2^4000/\j.natAbs<2^4000)\/WQ i+WQ j<=134217728 then b4 (i*j)else c4
noncomputable def bR:D->D->Hm->Option (D×Hm)
 |.loc a,.int k,μ=>match μ[a]? with
  |some (.lst xs)=>if -(2^63)<=k/\k<2^63/\xs.length*k.toNat<=Wb then b4 (.loc μ.length,μ++[.lst (WH k.toNat xs).flatten])else c4|_=>c4
 |x,y,μ=>De x y μ
noncomputable def dD:=kK λi j=>if 0<j/\j<2^4000 then b4 (i/j)else c4
noncomputable def bL:=kK λi j=>if 0<j then b4 (i%j)else c4
noncomputable def fZ:=kK λi j=>if(0<=j/\j<=1000000/\i.natAbs<2^64)\/(0<=j/\j<=100/\i.natAbs<2^4000)then b4 (i^j.toNat)else c4
noncomputable def CMulB(i j:Int):Prop:=CMul i j\/(i.natAbs<2^4000/\j.natAbs<2^4000)\/WQ i+WQ j<=134217728
noncomputable def Df(i j:Int):Prop:=0<j/\j<2^4000
noncomputable def Dg(i j:Int):Prop:=Jn i j\/(0<=j/\j<=100/\i.natAbs<2^4000)
theorem yM{i:Int}(h:i.natAbs<2^4000):WQ i<=4000:=by
 unfold WQ;split
 ·exact W7 _
 ·rename_i b;have a:i.natAbs≠0:=by intro z;exact b (by simpa using z)
  have:=(a5A a).mpr h;omega
theorem CMulB.ok{i j:Int}(h:CMulB i j):a4k i j:=by
 rcases h with h|⟨b,c⟩|h
 ·exact h.ok
 rotate_left
 ·have a:Zb (WQ i+WQ j)=false:=by
   unfold Zb;rw[decide_eq_false];have:bitsLine=134217728:=by decide
   omega
  unfold a4k;rw[a];simp
 ·have d:=yM b;have e:=yM c;have a:Zb (WQ i+WQ j)=false:=by
   unfold Zb;rw[decide_eq_false];have:(8000:Int)<=bitsLine:=by decide
   omega
  unfold a4k;rw[a];simp
section
variable{X:Cx}
theorem op_mulB:OpR X (YU .Mult) (rI CMulB λi j=>.int (i*j)):=t5 λ_ _ _ _ _ _ _ hc q=>a5u q hc.ok
theorem LI:OpR X (YU .FloorDiv) (rI Df λi j=>.int (i/j)):=t5 λi j _ _ _ _ _ hc q=>by
 have c:(0:Int)<j:=hc.1;have d:j<2^4000:=hc.2;have a:j.natAbs≠0:=by omega
 have b:j.natAbs<2^4000:=by
  have:((2^4000:Nat):Int)=2^4000:=by decide
  omega
 have e:=(a5A a).mpr b;exact a5v (by omega) (by rw[Int.fdiv_eq_ediv_of_nonneg i (by omega)];exact q) (.inl (PyProof.noPylong_of_log2 (by omega)))
theorem LJ:OpR X (YU .Pow) (rI Dg λi j=>.int (i^j.toNat)):=t5 λi j _ _ _ _ _ hc q=>by
 rcases hc with hc|⟨a,c,d⟩
 ·exact a5s hc.1 hc.2.1 hc.2.2 q
 ·have b:=yM d;refine a5t a ?_ q;have:(WQ i:Int)*j<=4000*100:=a4E (by omega) c a (by omega);omega
end
theorem uJ{c:Prop} [Decidable c] {a z:Int}(h:(if c then b4 a else c4)=b4 z):c/\z=a:=by
 split at h
 ·cases h;exact⟨by assumption,rfl⟩
 ·cases h
theorem LK:cZ K cE (gT λi j=>.int (i-j)):=LH
theorem LL:cZ K De (rI CMulB λi j=>.int (i*j)):=uI λi j z h=>by have:=uJ h;exact this
theorem Dh{π:Nat->Addr}{n:Nat}{H:Hp}{vs:List V}{ds:List D}(h:IsDs K π n H vs ds):∀k:Nat,IsDs K π n H (WH k vs).flatten (WH k ds).flatten
 |0=>.nil|k+1=>by rw[Yo,Yo,YR,YR];exact h.append (Dh h k)
theorem LM:cZ K bR (λx y H Q=>rI CMulB (λi j=>.int (i*j)) x y H Q\/CO x y H Q):=by
 intro B H A x y d h w z Q R m n b k;unfold bR at b;split at b
 ·rename_i a e;split at b
  ·rename_i q v;split at b
   ·rename_i c;cases b;cases m;cases n;obtain⟨o,s,l⟩:=R.lst a q v;refine .inr ⟨_,e,o,rfl,rfl,s,c.1,c.2.1,by rw[l.length];exact c.2.2,λp u=>?_⟩;obtain⟨r,R2,_⟩:=R.alloc (c:=.lst (WH e.toNat q).flatten) (o:=.lst (WH e.toNat o).flatten) u (Dh l _);exact k _ _ _ r R2 jP
   ·cases b
  ·cases b
 ·exact .inl (LL B H A _ _ d h w z Q R m n b k)
theorem LN:cZ K dD (rI Df λi j=>.int (i/j)):=uI λi j z h=>by have:=uJ h;exact this
theorem LO:cZ K bL (rI (λ_ j=>0<j) λi j=>.int (i%j)):=uI λ_ _ _ h=>uJ h
theorem LP:cZ K fZ (rI Dg λi j=>.int (i^j.toNat)):=uI λi j z h=>by have:=uJ h;exact this
noncomputable def yN:D->Option D
 |.int i=>b4 (.int (-i))|_=>c4
noncomputable def bM:D->D->Hm->Option (D×Hm)
 |.int i,.int j,μ=>b4 (.int (i+j),μ)|.str x,.str y,μ=>if x.length+y.length<=Wb then b4 (.str (x++y),μ)else c4|.loc a,.loc b,μ=>match μ[a]?,μ[b]? with
  |some (.lst xs),b4 (.lst ys)=>if xs.length+ys.length<=Wb then b4 (.loc μ.length,μ++[.lst (xs++ys)])else c4|_,_=>c4
 |_,_,_=>c4
noncomputable def yO(K:VU):R2:=λx y H Q=>gT (λi j=>.int (i+j)) x y H Q\/(∃i j,x=.str i/\y=.str j/\i.length+j.length<=Wb/\Q (.str (i++j)) H)\/CN x y H Q
theorem LQ{X:Cx}:OpR X (YU .Add) (yO X.K):=op_add.or (op_add_str.or Ks)
noncomputable abbrev yP(K:VU):R2:=yO K
theorem LR{X:Cx}:OpR X (YU .Add) (yP X.K):=LQ
theorem yQ{K:VU}{x y:V}{H:Hp}{Q:VK}(h:yO K x y H Q):yP K x y H Q:=h
theorem LS:cZ K bM (yP K):=by
 intro r H G x y d A B E Q R c e a k;unfold bM at a;split at a
 ·cases a;cases c;cases e;exact yQ (.inl ⟨_,_,rfl,rfl,k r _ H .refl R (.int _)⟩)
 ·split at a
  ·rename_i b;cases a;cases c;cases e;exact yQ (.inr (.inl ⟨_,_,rfl,rfl,b,k r _ H .refl R (.str _)⟩))
  ·cases a
 ·split at a
  ·rename_i n o v w;split at a
   ·rename_i b;cases a;cases c;cases e;obtain⟨l,h,i⟩:=R.lst _ n v;obtain⟨m,u,j⟩:=R.lst _ o w;refine yQ (.inr (.inr ⟨_,_,l,m,rfl,rfl,by first|exact h|exact .inl (.inl h),u,by rw[i.length,j.length];exact b,λp z=>?_⟩));obtain⟨s,R2,q⟩:=R.alloc (c:=.lst (n++o)) (o:=.lst (l++m)) z (i.append j);exact k _ _ _ s R2 jP
   ·cases a
  ·cases a
 ·cases a
noncomputable def gI(p:Int->Int->Bool):D->D->Hm->Option (D×Hm)
 |.int i,.int j,μ=>b4 (.bl (p i j),μ)|_,_,_=>c4
theorem iG{p:Int->Int->Bool}:cZ K (gI p) (gT λi j=>.bl (p i j)):=by
 intro h H n x y d e l m Q R b c a k;unfold gI at a;split at a
 ·cases a;cases b;cases c;exact⟨_,_,rfl,rfl,k h _ H .refl R (.bl _)⟩
 ·cases a
noncomputable def kL:=gI λi j=>decide (i<j)
noncomputable def oV:=gI λi j=>decide (i<=j)
noncomputable def fS:=gI λi j=>decide (j<i)
noncomputable def yR:=gI λi j=>decide (j<=i)
noncomputable def yS(K:VU)(ne:Bool):R2:=λx y H Q=>∃π a c d b,Rp K π H a/\IsD K π a.length H x c/\IsD K π a.length H y d/\cR 8 a c d=b4 b/\Q (.bl (if ne then !b else b)) H
theorem Di{X:Cx}(c:X.A.units+8<Yt):OpR X (Xd .Eq) (yS X.K c6):=by intro a s p H x y v u Q I j k h;obtain⟨o,n,l,m,b,R,d,i,e,q⟩:=h;exact(C9 I R 8 c j k d i e).1 _ _ _ _ ⟨.bl b,H,I,rfl,q⟩
theorem Dj{X:Cx}(c:X.A.units+8<Yt):OpR X (Xd .NotEq) (yS X.K c7):=by intro a s p H x y v u Q I j k h;obtain⟨o,n,l,m,b,R,d,i,e,q⟩:=h;exact(C9 I R 8 c j k d i e).2 _ _ _ _ ⟨.bl (!b),H,I,rfl,q⟩
noncomputable def aY(ne:Bool):D->D->Hm->Option (D×Hm):=λx y a=>(cR 8 a x y).map λb=>(.bl (if ne then !b else b),a)
theorem uK{ne:Bool}:cZ K (aY ne) (yS K ne):=by intro a H l x y d m n o Q R i j h k;obtain⟨b,c,e⟩:=VZ.mp h;cases e;exact⟨a,l,x,y,b,R,i,j,c,k a _ H .refl R (.bl _)⟩
noncomputable def yT:D->D->Hm->Option (D×Hm)
 |.str i,.str j,μ=>b4 (.bl (!(XH j i 0 j.length 1).isEmpty),μ)|_,_,_=>c4
theorem Dk:cZ K yT (λx y H Q=>∃i j,x=.str i/\y=.str j/\Q (.bl (!(XH j i 0 j.length 1).isEmpty)) H):=by
 intro h H n x y d e l m Q R b c a k;unfold yT at a;split at a
 ·cases a;cases b;cases c;exact⟨_,_,rfl,rfl,k h _ H .refl R (.bl _)⟩
 ·cases a
end
section
variable{X:Cx}{a b c:Expr}{ma mb mc:ME}{pos:XD}
theorem uL{k:Nat}{A:WJ}(r:Room k A):A.units+8<Yt:=by have:=r.un;omega
theorem LU(u:PE X a (tM X.K ma)):PE X (.UnaryOp .USub a pos) (tM X.K (λl h=>(ma l h).bind λp=>(yN p.1).map λd=>(d,p.2))):=cN (Jm Jq u) (by
 rintro G H Q ⟨A,l,h,d,w,R,E,e,k⟩;obtain⟨⟨x,z⟩,r,e⟩:=VT.mp e;obtain⟨y,m,s⟩:=VZ.mp e;cases s;cases x with
 |int i=>cases m;refine⟨A,l,h,_,_,R,E,r,λj B n q o v=>?_⟩;cases v;exact⟨_,rfl,k j _ n q o (.int _)⟩
 |_=>cases m)
theorem LV{x:Str}{n:String}(d:Gl X x)(e:X.mg x=c4)(i:XW x=b4 (.type n))(h:x ≠ "__name__":=by decide) (hd:(x==("__debug__":Str))=false:=by decide):PE X (.Name x pos) (tM X.K (mC (.ty n))):=
 oP (Ii (v:=.ty n) d e i rfl h hd) λ_ _ _=>.ty n
end
noncomputable def oW(b:Hm):D->Option String
 |.non=>b4 "NoneType"|.bl _=>b4 "bool"|.int _=>b4 "int"|.str _=>b4 "str"|.tup _=>b4 "tuple"|.rol _=>b4 "list"|.loc a=>match b[a]? with
  |some (.lst _)=>b4 "list"|some (.dK _)=>b4 "dict"|some (.dT _)=>b4 "dict"|_=>c4
 |.ty _=>c4
noncomputable def rM(t c:String):Option Bool:=match c with
 | "int"=>b4 (t=="int" || t=="bool")| "bool"=>b4 (t=="bool")| "str"=>b4 (t=="str")| "list"=>b4 (t=="list")| "tuple"=>b4 (t=="tuple")| "dict"=>b4 (t=="dict")|_=>c4
noncomputable def gJ:MF:=λds a=>match ds with
 |[x,.ty c]=>(oW a x).bind λt=>(rM t c).map λb=>(.bl b,a)|_=>c4
theorem kM (K:VU){t c:String}{b:Bool}(d:t = "NoneType"\/t = "bool"\/t = "int"\/t = "str"\/t = "tuple"\/t = "list"\/t = "dict") (h:rM t c=b4 b):a1t K (.type t) (.type c)=b4 b:=by
 unfold rM at h
 split at h<;>first
  | cases h;done
  | (have a:=Wj h;subst a
     rcases d with rfl|rfl|rfl|rfl|rfl|rfl|rfl<;>first|rfl|decide +kernel|(unfold a1t;simp;rfl))
end L3
namespace L3
open PySem L2
noncomputable abbrev MG:=D->aG->Hm->Option aG
noncomputable def f6(K:VU)(g:MG):TG:=λv σ H Q=>∃π e a d b,Rp K π H a/\En K π a.length H σ e/\IsD K π a.length H v d/\g d e a=b4 b/\∀c,En K π a.length H c b->Q c H
noncomputable def dQ(i:Nat):MG:=λd a _=>b4 (a.set i (b4 d))
section
variable{X:Cx}{pos:XD}
theorem Dl{i:Nat}{x:Str}(b:X.N.Nodup)(e:X.N[i]?=b4 x)(l:Loc X.env.scope x)(c:X.fn x=c7\/X.env.scope.names.lookup x=b4 .local:=by first|exact .inl rfl|exact .inr rfl|assumption):PG X (.Name x pos) (f6 X.K (dQ i)):=by intro a s n H v u Q I r h;obtain⟨p,q,o,d,m,R,E,hd,j,k⟩:=h;cases j;exact BV b e l c a s n H v u Q I r (k _ (E.set hd i))
noncomputable def LW(K:VU)(c:TE):TI:=λσ H R=>c σ H λx b=>∃a,x=.ref a/\(((∃xs,SqL K b a xs)/\R (xG K a) b)\/((∃xs,SqT K b a xs)/\R (xH K a) b))
theorem LX{l tg:Expr}{r:TE}(u:PE X l r):PI X tg l (LW X.K r):=by
 intro j s E H R I h;refine aT (u j s E H _ I h) λv c ⟨x,n,d,z,y⟩=>?_;obtain⟨a,e,q⟩:=y;subst e;cases z;rcases q with⟨⟨B,m⟩,q⟩|⟨⟨B,m⟩,q⟩
 ·obtain⟨i,A,p,w⟩:=d.list m;refine a4J p.isList ?_;refine⟨c.heap.objs.size,[c.heap.objs.size],_,_,n,rfl,d.kept (t':=c.toks) λb o e=>V8 _ e,Ja a _,⟨_,Ws _ rfl,rfl,rfl⟩,λb k=>?_,q⟩;have e:b=c.heap.objs.size:=by simpa using k
  subst e;exact d.fpOk (Wa _) (d.hok.fresh (Wa _))
 ·obtain⟨i,A,p,w⟩:=d.tuple m;refine wpAny_pyIter_tuple (show c.heap.IsTuple a i.toArray from p) ?_;refine⟨c.heap.objs.size,[c.heap.objs.size],_,_,n,rfl,d.kept (t':=c.toks) λb o e=>V8 _ e,Jb a _,⟨_,Ws _ rfl,rfl,rfl⟩,λb k=>?_,q⟩;have e:b=c.heap.objs.size:=by simpa using k
  subst e;exact d.fpOk (Wa _) (d.hok.fresh (Wa _))
end
structure Wk(K:VU)(J:It)(src:Hm->Nat->Option (Option D))(π:Nat->Addr)(n:Nat)(H:Hp):Prop where
 stop:∀π' μ H' i,Ext π n H π' μ.length H'->Rp K π' H' μ->src μ i=b4 c4->J.stop i H'
 go:∀π' μ H' i d,Ext π n H π' μ.length H'->Rp K π' H' μ->src μ i=b4 (b4 d)->J.go i H'/\∀x H2,J.yld i H' x H2->Ext π' μ.length H' π' μ.length H2/\Rp K π' H2 μ/\IsD K π' μ.length H2 x d
noncomputable def kN(x:D):Hm->Nat->Option (Option D):=λa i=>(b8 a x).map λxs=>xs[i]?
theorem LY{K:VU}{π:Nat->Addr}{B:Hm}{H:Hp}{v:V}{x:D}{xs:List D}(R:Rp K π H B)(h:IsD K π B.length H v x)(E:b8 B x=b4 xs) :
  ∃a,v=.ref a/\(((∃b,SqL K H a b)/\Wk K (xG K a) (kN x) π B.length H)\/((∃b,SqT K H a b)/\Wk K (xH K a) (kN x) π B.length H)):=by
 cases h with
 |@tup p b ds q t=>
  refine⟨p,rfl,.inr ⟨⟨b,q⟩,⟨λl k r i e m z=>?_,λl k r i d e m z=>?_⟩⟩⟩
  ·simp only[kN,b8,WE]at z;have j:ds[i]?=none:=Wj z;exact⟨b,e.sqT q,by rw[t.length];exact XE.mp j⟩
  ·simp only[kN,b8,WE]at z;have j:ds[i]?=b4 d:=Wj z;obtain⟨w,c,n⟩:=t.get j;refine⟨⟨b,w,e.sqT q,c⟩,λy J ⟨s,u⟩=>?_⟩;subst s;have:=u b (e.sqT q);rw[c]at this;cases this;exact⟨.refl,m,n.mono e⟩
 |@rol p b ds q t=>
  refine⟨p,rfl,.inl ⟨⟨b,q.sq⟩,⟨λl k r i e m z=>?_,λl k r i d e m z=>?_⟩⟩⟩
  ·simp only[kN,b8,WE]at z;have j:ds[i]?=none:=Wj z;exact⟨b,(e.roL q).sq,by rw[t.length];exact XE.mp j⟩
  ·simp only[kN,b8,WE]at z;have j:ds[i]?=b4 d:=Wj z;obtain⟨w,c,n⟩:=t.get j;refine⟨⟨b,w,(e.roL q).sq,c⟩,λy J ⟨s,u⟩=>?_⟩;subst s;have:=u b (e.roL q).sq;rw[c]at this;cases this;exact⟨.refl,m,n.mono e⟩
 |@loc a M=>
  have hc:∃b,H (π a)=b4 (.lst b):=by
   simp only[b8]at E;split at E
   ·rename_i o A;obtain⟨b,c,_⟩:=R.lst a o A;exact⟨b,c⟩
   ·cases E
  obtain⟨I,G⟩:=hc;refine⟨π a,rfl,.inl ⟨⟨I,.of G⟩,⟨λl k r i e m z=>?_,λl k r i d e m z=>?_⟩⟩⟩
  ·simp only[kN,b8]at z;split at z
   ·rename_i o A;obtain⟨b,c,n⟩:=m.lst a o A;rw[e.pi a M]at c;have j:o[i]?=none:=Wj z;exact⟨b,.of c,by rw[n.length];exact XE.mp j⟩
   ·cases z
  ·simp only[kN,b8]at z;split at z
   ·rename_i o A;obtain⟨b,c,n⟩:=m.lst a o A;rw[e.pi a M]at c;have j:o[i]?=b4 d:=Wj z;obtain⟨w,L,N⟩:=n.get j;refine⟨⟨b,w,.of c,L⟩,λy J ⟨s,u⟩=>?_⟩;subst s;have:=u b (.of c);rw[L]at this;cases this;exact⟨.refl,m,N⟩
   ·cases z
 |_=>cases E
noncomputable def fJ(a:Hm->Nat->Option (Option D))(g:MG)(b:MS):Nat->Nat->MS
 |0,_,_,_=>c4|n+1,i,ρ,μ=>(a μ i).bind λo=>match o with
  |none=>b4 (.nx,ρ,μ)|some d=>(g d ρ μ).bind λc=>(b c μ).bind λp=>match p.1 with
   |.nx=>fJ a g b n (i+1) p.2.1 p.2.2|.ct=>fJ a g b n (i+1) p.2.1 p.2.2|.bk=>b4 (.nx,p.2.1,p.2.2)|.rt d=>b4 (.rt d,p.2.1,p.2.2)
theorem LZ{K:VU}{J:It}{B:Hm->Nat->Option (Option D)}{g:MG}{b:MS}{π:Nat->Addr}{Q:Nat}{O:Hp}(W:Wk K J B π Q O){E:Ends}{A:Fl}{p:aG}{j:Hm}(hE:oO K E π Q O A p j)
  {G:Nat->Addr}{u:Hm}{H1:Hp}{T:aG}{σ1:St}{n:Nat}(e1:Ext π Q O G u.length H1)(R1:Rp K G H1 u)(E1:En K G u.length H1 σ1 T)(h:fJ B g b n 0 T u=b4 (A,p,j)) :
  ∃Wd:Nat->Nat->St->Hp->Prop,(∃m,Wd 0 m σ1 H1)/\∀i m X H,Wd i m X H->
   (J.stop i H/\E.nx X H)\/(J.go i H/\∃N:St->Hp->Prop,(∀w s,N w s->∃m',m'<m/\Wd (i+1) m' w s)/\∀x s,J.yld i H x s->f6 K g x X s λσ2 H2=>dP K b {E with nx:=N,ct:=N,bk:=E.nx} σ2 H2):=by
 have lift:∀{a:Nat->Addr}{n2:Nat}{H2:Hp}(e:Ext π Q O a n2 H2){A:Fl}{p:aG}{j:Hm},oO K E π Q O A p j->oO K E a n2 H2 A p j:=λ{a n2 H2} e {A p j} k=>by
  cases A with
  |nx=>exact λv r H3 e3 R3 M=>k v r H3 (e.trans e3) R3 M|bk=>exact λv r H3 e3 R3 M=>k v r H3 (e.trans e3) R3 M|ct=>exact λv r H3 e3 R3 M=>k v r H3 (e.trans e3) R3 M|rt d=>exact KC.after k e
 refine⟨λi m X H=>∃a l I,Ext π Q O a l.length H/\Rp K a H l/\En K a l.length H X I/\fJ B g b m i I l=b4 (A,p,j),⟨n,G,u,T,e1,R1,E1,h⟩,?_⟩;rintro i m X H ⟨a,l,I,z,R2,E2,h2⟩;cases m with
 |zero=>cases h2|succ m=>
  obtain⟨o,h3,h4⟩:=VT.mp h2;cases o with
  |none=>cases h4;exact .inl ⟨W.stop a _ H i z R2 h3,hE a X H z R2 E2⟩|some d=>
   obtain⟨g1,g2⟩:=W.go a l H i d z R2 h3;obtain⟨ρ3,h5,h6⟩:=VT.mp h4;obtain⟨⟨f4,U,R⟩,h7,h8⟩:=VT.mp h6;refine .inr ⟨g1,λw s=>∃c L q,Ext π Q O c q.length s/\Rp K c s q/\En K c q.length s w L/\fJ B g b m (i+1) L q=b4 (A,p,j),
    λw s ⟨c,L,q,a1,a2,a3,a4⟩=>⟨m,XT _,c,q,L,a1,a2,a3,a4⟩,λx s y=>?_⟩
   obtain⟨ex,Rx,hx⟩:=g2 x s y;have z:=z.trans ex;refine⟨a,I,l,d,ρ3,Rx,E2.mono ex,hx,h5,λr M=>⟨a,ρ3,l,f4,U,R,Rx,M,h7,?_⟩⟩;cases f4 with
   |nx=>exact λc Y H5 e5 R5 Z=>⟨c,U,R,z.trans e5,R5,Z,h8⟩|ct=>exact λc Y H5 e5 R5 Z=>⟨c,U,R,z.trans e5,R5,Z,h8⟩|bk=>cases h8;exact λc Y H5 e5 R5 Z=>hE c Y H5 (z.trans e5) R5 Z|rt d'=>cases h8;exact KC.after hE z
section
variable{X:Cx}{pos:XD}{tg iter:Expr}{body:List Stmt}{mi:ME}{g:MG}{mb:MS}
noncomputable def g7(lo:Int)(n:Nat):Hm->Nat->Option (Option D):=λ_ i=>b4 (if i<n then b4 (.int (lo+i))else c4)
theorem Dm{K:VU}{lo:Int}{k:Nat}{π:Nat->Addr}{n:Nat}{H:Hp}:Wk K (lP lo k) (g7 lo k) π n H:=by
 refine⟨λb m c i e R z=>?_,λb m c i d e R z=>?_⟩
 ·have a:=Wj z;split at a
  ·cases a
  ·exact ZR.mp (by assumption)
 ·have a:=Wj z;split at a
  ·cases a;rename_i h;exact⟨h,λx o ⟨j,l⟩=>by subst j;rw[l];exact⟨.refl,R,.int _⟩⟩
  ·cases a
end
end L3
namespace L3
open PySem L2
noncomputable def oX(y:Str):Str:="#"++y
noncomputable def bK(xs N:List Str):List Str:=N.map λy=>if xs.contains y then oX y else y
theorem nH(xs N:List Str):(bK xs N).length=N.length:=by unfold bK;simp
theorem L0{xs N:List Str}{i:Nat}{y:Str}(h:(bK xs N)[i]?=b4 y):∃a,N[i]?=b4 a/\((xs.contains a=c7/\y=oX a)\/(xs.contains a=c6/\y=a)):=by
 unfold bK at h;rw[WD]at h;obtain⟨a,c,b⟩:=VZ.mp h;refine⟨a,c,?_⟩;cases hc:xs.contains a with
 |true=>rw[hc]at b;exact .inl ⟨rfl,by simpa using b.symm⟩|false=>rw[hc]at b;exact .inr ⟨rfl,by simpa using b.symm⟩
noncomputable def cS(X:Cx)(scope:Yl)(a:List (Str×Addr))(C:Addr)(N:List Str)(s₀:V1)(H₀:Hp)(b:List Addr):Cx:=
 {X with N:=N,s₀:=s₀,H₀:=H₀,env:=ZA scope a C X.env,outer:=X.stack,stack:=X.stack,ex:=b,fn:=λ_=>c6,pn:=[],xe:=λ_ _=>False}
theorem Dn{env:ZS}:∀(names:List (Str×YD))(x:Str),(names.map λ(n,k)=>if(k==Ym&&env.scope.kind==.function&&env.kindOf n==b4 .cell)then(n,YA)else(n,k)).lookup x
  = (names.lookup x).map λk=>if(k==Ym&&env.scope.kind==.function&&env.kindOf x==b4 .cell)then YA else k
 |[],_=>rfl|(n,k)::r,x=>by
  have c:=Dn (env:=env) r x;rw[We];by_cases b:x=n
  ·subst b;have key:∀(k':YD)(l:List (Str×YD)),Yh x ((x,k')::l)=b4 k':=λk' l=>by simp[Zx]
   rw[key];show Yh x ((if(k==Ym&&env.scope.kind==.function&&env.kindOf x==b4 .cell)=c7 then(x,YA)else(x,k))::_)=b4 (if(k==Ym&&env.scope.kind==.function&&env.kindOf x==b4 .cell)=c7 then YA else k);split
   ·rw[key]
   ·rw[key]
  ·have a:(x==n)=false:=by simpa using b
   have key:∀(k':YD)(l:List (Str×YD)),Yh x ((n,k')::l)=Yh x l:=λk' l=>by simp only[Zx,a]
   rw[key];show Yh x ((if(k==Ym&&env.scope.kind==.function&&env.kindOf n==b4 .cell)=c7 then(n,YA)else(n,k))::_)=_;split
   ·rw[key];exact c
   ·rw[key];exact c
structure CompOk(X:Cx)(scope:Yl)(cl:List (Str×Addr))(xs:List Str):Prop where
 clos:a4z scope X.env=pure cl
 nocell:∀y∈scope.names,y.2≠.cell
 kind:scope.kind=.function
 names:∀y∈scope.names,y.2=.local->scope.names.lookup y.1=b4 .local
 here:∀x∈xs,scope.names.lookup x=b4 .local
 sub:∀y c,cl.lookup y=b4 c->X.env.cells.lookup y=b4 c
 free:∀y,scope.names.lookup y=b4 .free->(X.env.kindOf y=b4 .cell\/X.env.kindOf y=b4 .free)/\∃c,cl.lookup y=b4 c
 own:∀y,scope.names.lookup y=b4 .local->y∉bK xs X.N
 hidn:∀y∈X.N,xs.contains y=c7->scope.names.lookup (oX y)=c4
section
variable{X:Cx}{scope:Yl}{cl:List (Str×Addr)}{xs:List Str}
theorem CompOk.kindOf(O:CompOk X scope cl xs)(C:Addr)(y:Str):(ZA scope cl C X.env).kindOf y=(scope.names.lookup y).map λk=>if(k==Ym&&X.env.scope.kind==.function&&X.env.kindOf y==b4 .cell)then YA else k:=
 Dn scope.names y
theorem CompOk.outer(O:CompOk X scope cl xs){C:Addr}{y:Str}(h:(ZA scope cl C X.env).kindOf y=b4 .cell\/(ZA scope cl C X.env).kindOf y=b4 .free):scope.names.lookup y=b4 .free:=by
 rw[O.kindOf]at h;cases q:scope.names.lookup y with
 |none=>rw[q]at h;rcases h with h|h<;>cases h
 |some k=>
  rw[q]at h;cases k with
  |free=>rfl|cell=>exact absurd rfl (O.nocell _ (Xu q))| «local»=>rcases h with h|h<;>simp at h
  |globalExplicit=>rcases h with h|h<;>simp at h
  |globalImplicit=>rcases h with h|h<;>simp at h
theorem CompOk.inv{a5T:List (Addr×Obj)}{σ:St}{H:Hp}{s:V1}{Y:List Addr}{d:Xo}{tk:Nat}(O:CompOk X scope cl xs)(I:Inv X a5T σ H s)(E:∀b∈Y,iS X a5T H b)(hob:∀b∈Y,∃o,s.heap.get? b=b4 o){m:Str->Option Value}
  (hns:d.Ns s.heap.objs.size m)(N:∀b o,s.heap.get? b=b4 o->d.get? b=b4 o) :
  Inv (cS X scope cl s.heap.objs.size (bK xs X.N++xs) s H Y) [] (σ++WH xs.length c4) H {s with heap:=d,toks:=tk}:=by
 refine⟨⟨I.ok.mod,O.kind,I.ok.glob,I.ok.blt,Wa _,λy z c Z B=>?_,λy hy=>?_,(λy c h=>by cases h),I.ok.hd,I.ok.frames,.inl rfl,λb J=>?_,λb o e=>I.bs b o e,Xk I.ok.bsz I.sz,λb o e J=>?_,λb J hb2=>?_,I.stack,I.stkFree⟩,
  rfl,I.bare,Un.kept N,⟨m,hns,λi y v Z B x=>?_⟩,λy c h=>?_,I.hok.fresh (Wa _),λy c h=>I.freeC y c (O.sub y c h),λp hp=>absurd (show p∈([]:List (Addr×Obj))from hp) (by simp),I.hok.kept N,?_⟩
 ·exact I.ok.inj y z c (O.sub y c Z) (O.sub z c B)
 ·exact(O.free y (O.outer hy)).2
 ·obtain⟨f0,R,T,A,U,f5⟩:=E b J;obtain⟨o,M⟩:=hob b J;exact⟨WB (Wi M),λy c h=>U y c (O.sub y c h)⟩
 ·obtain⟨f0,R,T,A,U,f5⟩:=E b J;rcases A with A|A
  ·exact I.ok.noex b o e A
  ·exact absurd (Wy (Wi (I.ok.bs b o e).1) A) (Y7 _)
 ·obtain⟨f0,R,T,A,U,f5⟩:=E b J;rcases Wr.mp (I.stkSub b hb2)with z|z
  ·exact R z
  ·exact T z
 ·have L:i<σ.length:=by
   by_cases L:i<σ.length
   ·exact L
   ·rw[W2 (ZR.mp L),YF]at B;split at B<;>cases B
  rw[Wz L]at B;have K:(bK xs X.N)[i]?=b4 y:=by have w:(bK xs X.N++xs)[i]?=b4 y:=Z;rw[Wz (by rw[nH,<- I.len];exact L)]at w;exact w
  have n:scope.names.lookup y≠b4 .local:=λz=>O.own y z (Xq K);have G:=O.kindOf s.heap.objs.size y;have h1':X.N[i]?=b4 y:=by
   obtain⟨y0,q1,Q⟩:=L0 K;rcases Q with⟨Q,q3⟩|⟨Q,q3⟩
   ·exfalso;have hz:=O.hidn y0 (Xq q1) Q;rw[<- q3]at hz;rw[hz]at G;have a:(ZA scope cl s.heap.objs.size X.env).kindOf y=b4 .local\/(ZA scope cl s.heap.objs.size X.env).kindOf y=b4 .cell\/(ZA scope cl s.heap.objs.size X.env).kindOf y=b4 .free:=x;rw[G]at a;rcases a with a|a|a<;>cases a
   ·rw[q3];exact q1
  have a:(ZA scope cl s.heap.objs.size X.env).kindOf y=b4 .cell\/(ZA scope cl s.heap.objs.size X.env).kindOf y=b4 .free:=by
   rcases x with x|x|x
   ·exfalso;have a:(ZA scope cl s.heap.objs.size X.env).kindOf y=b4 .local:=x;rw[G]at a;cases q:scope.names.lookup y with
    |none=>rw[q]at a;cases a|some k=>
     rw[q]at a;cases k with
     | «local»=>exact n q|cell=>simp at a|free=>simp only[WE]at a;split at a<;>cases a|globalExplicit=>simp at a|globalImplicit=>simp at a
   ·exact .inl x
   ·exact .inr x
  obtain⟨j,c,hc⟩:=O.free y (O.outer a);obtain⟨m0,hn0,hl0⟩:=I.loc;obtain⟨u,r,l⟩:=hl0 i y v h1' B (by rcases j with j|j;exact .inr (.inl j);exact .inr (.inr j));refine⟨u,r,.inr ⟨a,c,hc,?_⟩⟩;rcases l with⟨lk,_⟩|⟨_,c',e',z⟩
  ·exfalso;rcases j with j|j
   ·rw[j]at lk;cases lk
   ·rw[j]at lk;cases lk
  ·rw[O.sub y c hc]at e';cases e';obtain⟨o,M,hd⟩:=z;exact⟨o,N c o M,hd⟩
 ·obtain⟨v,q⟩:=I.cell y c (O.sub y c h);exact⟨v,by obtain⟨o,M,hd⟩:=q;exact⟨o,N c o M,hd⟩⟩
 ·show(σ++WH xs.length c4).length=(bK xs X.N++xs).length;rw[V5,V5,I.len,Yw,nH]
theorem CompOk.back{a5T pl:List (Addr×Obj)}{σ B:St}{H H':Hp}{s i:V1}{j:List Addr}{h':Xo}{N:List Str}(I:Inv X a5T σ H s)(p:∀b∈j,iS X a5T H b)
  (J:Inv (cS X scope cl s.heap.objs.size N s H j) pl B H' i)(m:∀b o,b≠s.heap.objs.size->i.heap.get? b=b4 o->h'.get? b=b4 o):Inv X a5T σ H' {i with heap:=h'}:=by
 have u:Un (dS X.stack) j H H' s.heap h':=by
  have h:Un (dS X.stack) j H H' s.heap i.heap:=J.base;have ne:∀b o,s.heap.get? b=b4 o->b≠s.heap.objs.size:=λb o e=>WB (Wi e);refine⟨λb o e n k l=>m b o (ne b o e) (h.keep b o e n k l),λb o e n k l=>?_,h.free,λb o e l=>?_,h.tups,h.frzs,h.tbls⟩
  ·obtain⟨O,q⟩:=h.slot b o e n k l;exact⟨O,m b _ (ne b o e) q⟩
  ·obtain⟨M,q⟩:=h.there b o e l;exact⟨M,m b _ (ne b o e) q⟩
 have a:H' s.heap.objs.size=none:=J.free;have hok:HOk X.prog X.w H' h':=λb v e=>by
  refine(J.hok b v e).stay (λc w hc q=>m c w ?_ q) (λ_ q=>q) λ_ _ q=>q;rcases hc with z|z
  ·rw[z];intro A;rw[A,a]at e;cases e
  ·intro A;rw[A,a]at z;cases z
 have x:i.os=s.os:=J.os;obtain⟨T,g,d,t,y⟩:=i;obtain rfl:y=s.os:=x;have r:=Inv.call (X:=X) (a5T:=a5T) (σ:=σ) (H:=H) (s:=s) (h':=h') (g':=g) (d':=d) (t':=t) (ch:=j) I u hok J.bare λb k=>let⟨Q,E,R,G,K,L⟩:=p b k;⟨G,E,K,L⟩;exact r
end
theorem L1{prog:Wv}{w:WO}{A:WJ}{R:a2L->V1->Prop}{s:V1}{elt a iter:Expr}{ifs:List Expr}{scope:Yl}{pos:XD}{G q:Value}{env:ZS}(I:Nat->V1->Prop)
  (E:∀n s,I n s->Wm (WC prog w) A (a1W G) (λr d=>match r with
   |none=>R (.ok .next) d
   |some v=>Wm (WC prog w) A (a0z a G v) (λ_ e=>Wm (WC prog w) A (a1s a env v) (λ_ l=>
     Wm (WC prog w) A (forIn ifs c7 λc r=>if r=c7 then do let ok <- a1Z c env (eval c env);pure (Y1 ok)else pure (Y1 r)) (λok i=>
      if ok=c7 then Wm (WC prog w) A (eval elt env) (λx o=>
       Wm (WC prog w) A (call (.builtin "list.append") [q,x]) (λ_ p=>∃m,m<n/\I m p) (λ_ _=>False) o) (λ_ _=>False) i
      else ∃m,m<n/\I m i) (λ_ _=>False) l) (λ_ _=>False) e) (λ_ _=>False) d) (λ_ _=>False) s)
  (n:Nat)(h:I n s) :
  ZI (WC prog w) A (.compLoop (.ListComp elt [⟨a,iter,ifs,0⟩] scope pos) 0 G q env) R s:=by
 refine codeAny_loop rfl I (λn s H=>?_) n h;show Wm _ A ((compTurn (.ListComp elt [⟨a,iter,ifs,0⟩] scope pos) 0 G q env).onRaise (λx=>do a1Y x env;theTreesLotGoes x)) _ _ s;refine wpAny_noted ?_;rw[compTurn_list];refine VX (a1j (VX (WR (E n s H) (λr d j=>?_) λ_ _ b=>b.elim)));cases r with
 |none=>exact V7 j|some v=>
  refine VX (WR j (λ_ e u=>?_) λ_ _ b=>b.elim);refine VX (WR u (λ_ l y=>VX (WR y (λok i k=>?_) λ_ _ b=>b.elim)) λ_ _ b=>b.elim);cases ok with
  |false=>exact V7 ⟨rfl,k⟩|true=>exact VX (VX (WR k (λx o z=>VX (WR z (λ_ p B=>V7 (V7 ⟨rfl,B⟩)) λ_ _ b=>b.elim)) λ_ _ b=>b.elim))
noncomputable def oY(b:Hm)(a:Nat)(y:D):Option Hm:=match b[a]? with
 |some (.lst xs)=>if xs.length<Wb then b4 (b.set a (.lst (xs++[y])))else c4|_=>c4
noncomputable abbrev BD:=D->Hm->Option aG
noncomputable def oZ:BD:=λd _=>b4 [b4 d]
noncomputable def Dp(k:Nat):BD:=λd a=>(b8 a d).bind λxs=>if xs.length=k then b4 (xs.map b4)else c4
noncomputable def kP(a:Hm->Nat->Option (Option D))(j:BD)(c:MT)(e:ME)(b:aG)(h:Nat):Nat->Nat->Hm->Option Hm
 |0,_,_=>c4|n+1,i,μ=>(a μ i).bind λo=>match o with
  |none=>b4 μ|some d=>(j d μ).bind λx=>(c (b++x) μ).bind λp=>match p.1 with
   |true=>(e (b++x) p.2).bind λq=>(oY q.2 h q.1).bind λk=>kP a j c e b h n (i+1) k|false=>kP a j c e b h n (i+1) p.2
noncomputable def jQ:MT:=λ_ a=>b4 (c7,a)
noncomputable def nI(X:Cx)(ifs:List Expr)(m:MT):Prop:=
 ∀(a5T:List (Addr×Obj))(s:V1)(σ:St)(H:Hp)(Q:Bool->Hp->Prop),Inv X a5T σ H s->dI X.K m σ H Q->
  Wm (WC X.prog X.w) X.A (forIn ifs c7 λc r=>if r=c7 then do let ok <- a1Z c X.env (eval c X.env);pure (Y1 ok)else pure (Y1 r)) (TP X a5T σ Q) X.xe s
theorem L4{X:Cx}:nI X [] jQ:=by intro a s l H Q I h;obtain⟨e,j,i,b,d,R,E,c,k⟩:=h;cases c;exact wpAny_tests_nil ⟨H,I,k e H .refl R⟩
theorem L5{X:Cx}{c:Expr}{m:MT}(h:PT X c (dI X.K m)):nI X [c] m:=λa5T s σ H Q I q=>wpAny_tests_one (h a5T s σ H Q I q)
end L3
namespace L3
open PySem L2
section
variable{prog:Wv}{w:WO}{A:WJ}{E:Value->V1->Prop}{s:V1}
theorem Dq{h t:Addr}{a:Array Value}(k:t≠h):∀(n i:Nat)(s:V1)(Q:List Value->V1->Prop),s.heap.IsListIter h t i->s.heap.IsList t a->i+n<=a.size->
  (∀m,m.IsListIter h t (i+n)->Yg h s.heap m->Q ((a.toList.drop i).take n) {s with heap:=m})->Wm (WC prog w) A (draw (.ref h) n) Q E s
 |0,i,s,Q,hit,_,_,hQ=>by show Wm _ _ (pure []) Q E s;exact V7 (by simpa using hQ s.heap hit (a5B ..))
 |n+1,i,s,Q,hit,ht,hle,hQ=>by
  have j:i<a.size:=by omega
  show Wm _ _ (a1W (.ref h) >>= _) Q E s;refine VX (a3t hit ht (x:=a[i]) (by simp[j]) λo c b=>?_);refine VX (Yi (Dq k n (i+1) _ _ c (ht.extBut b.extBut k) (by omega) λl d e=>V7 ?_));have hd:a.toList.drop i=a[i]::a.toList.drop (i+1):=by simp[a2g,j]
  have:=hQ l (by rw[show i+(n+1)=i+1+n by omega];exact d) (b.trans e);rw[hd,List.take_succ_cons]at this;exact this
theorem L6{t:Addr}{a:Array Value}{Q:List Value->V1->Prop}(u:A.handled=c4)(l:s.heap.IsList t a)
  (r:∀p,a1x s.heap.objs.size s.heap p->Q a.toList {s with heap:=p}):Wm (WC prog w) A (unpackItems (.ref t) a.size c4) Q E s:=by
 have k:t≠s.heap.objs.size:=by obtain⟨o,v,_⟩:=l;exact WB (Wi v)
 unfold unpackItems;refine VX ?_
 ·unfold notIterableAtAll;refine VX (Zg l.typeIs slot_list_iter.lookup ?_);refine V7 ?_;simp only[V6,if_false];refine VX (Yi (a4J l ?_));refine VX (Yi (Dq k a.size 0 _ _ ⟨_,Ws _ rfl,rfl,rfl⟩ (l.push _) (by omega) λm d c=>?_));have j:List.take a.size (List.drop 0 a.toList)=a.toList:=by rw[List.drop_zero];exact List.take_of_length_le (by simp)
  rw[j];rw[if_neg (by simp)];have i:m.IsList t a:=(l.push _).extBut c.extBut k;refine VX (Yi (a3O u d i (by simp) λn h=>?_));simp only[Option.isSome_none,V6,if_false];refine V7 (r n λb o q e=>h b o q (c.extBut b o q (V8 _ e)))
theorem L7{env:ZS}{b:List Expr} {x1} {pos:XD}{t:Addr}{a:Array Value}{Q:Unit->V1->Prop}(e:A.handled=c4)(j:s.heap.IsList t a)
  (i:(Yr b env).length=a.size)(c:(Yr b env).findIdx? (·.1)=c4)
  (h:∀d,a1x s.heap.objs.size s.heap d->Wm (WC prog w) A (assignInOrder ((Yr b env).map (·.2)) a.toList) Q E {s with heap:=d}) :
  Wm (WC prog w) A (a1s (.Tuple b x1 pos) env (.ref t)) Q E s:=by
 rw[a5y];refine VX (a1j ?_);unfold unpack;rw[i,c];exact VX (Yi (L6 e j h))
end
noncomputable def iX:aG->List Nat->List D->aG
 |ρ,i::is,x::xs=>iX (ρ.set i (b4 x)) is xs|ρ,_,_=>ρ
noncomputable def f7(a:List Nat):MG:=λd c b=>(b8 b d).bind λxs=>if xs.length=a.length then b4 (iX c a xs)else c4
noncomputable def uM:List Nat->oH
 |[]=>BW|i::r=>BX (xF i) (uM r)
theorem yU{K:VU}{π:Nat->Addr}{n:Nat}{H:Hp}:∀(a:List Nat){vs:List V}{xs:List D}{σ:St}{c:aG}{Q:St->Hp->Prop},IsDs K π n H vs xs->En K π n H σ c->xs.length=a.length->(∀b,En K π n H b (iX c a xs)->Q b H)->uM a vs σ H Q
 |[],vs,xs,σ,c,Q,h,E,hl,k=>by
  cases h with
  |nil=>exact⟨rfl,k σ E⟩|cons h t=>cases hl
 |i::a,vs,xs,σ,c,Q,h,E,hl,k=>by
  cases h with
  |nil=>cases hl|cons h t=>exact⟨_,_,rfl,yU a t (E.set h i) (by simpa using hl) k⟩
section
variable{X:Cx}{pos:XD}
theorem L8{es:List Expr}{k:Nat}{m:List Nat}(hc:X.calm=c7)(h:qV X es (uM m))(M:(Yr es X.env).length=m.length:=by rfl)(w:(Yr es X.env).findIdx? (·.1)=none:=by rfl) :
  PG X (.Tuple es k pos) (f6 X.K (f7 m)):=by
 intro j s z H v u Q I r hw;obtain⟨T,ρ,O,d,ρ',R,E,hd,Z,N⟩:=hw;obtain⟨L,l,G⟩:=VT.mp Z;split at G
 ·rename_i y;cases G;have p:(∃a i,v=.ref a/\SqT X.K H a i/\IsDs X.K T O.length H i L)\/(∃a i,v=.ref a/\SqL X.K H a i/\IsDs X.K T O.length H i L):=by
   cases hd with
   |tup q t=>cases l;exact .inl ⟨_,_,rfl,q,t⟩|rol q t=>cases l;exact .inr ⟨_,_,rfl,q.sq,t⟩|@loc a ha=>
    simp only[b8]at l;split at l
    ·rename_i ys hy;cases l;obtain⟨i,U,Y⟩:=R.lst a L hy;exact .inr ⟨_,i,rfl,.of U,Y⟩
    ·cases l
   |_=>cases l
  rcases p with⟨a,i,rfl,q,t⟩|⟨a,i,rfl,q,t⟩
  ·cases r;obtain⟨n,x,J,hz⟩:=I.tuple q;have c:n.length=m.length:=by rw[<- x.length,t.length];exact y
   refine a5x (I.ok.hd hc) J (by simp[M,c]) w λB K=>?_;have A:Inv X j z H {s with heap:=B}:=I.kept (t':=s.toks) λb o e=>K b o (WB (Wi e)) e;exact h j _ z H i _ Q A (by simpa using x) (yU m t E y N)
  ·cases r;obtain⟨n,x,J,hz⟩:=I.list q;have c:n.length=m.length:=by rw[<- x.length,t.length];exact y
   refine L7 (I.ok.hd hc) J.isList (by simp[M,c]) w λB K=>?_;have A:Inv X j z H {s with heap:=B}:=I.kept (t':=s.toks) λb o e=>K b o (WB (Wi e)) e;exact h j _ z H i _ Q A (by simpa using x) (yU m t E y N)
 ·cases G
noncomputable def lU(m:ME)(g:MG):MS:=λb c=>(m b c).bind λp=>(g p.1 b p.2).map λa=>(.nx,a,p.2)
theorem L9{tg e:Expr}{m:ME}{g:MG}(r:PE X e (tM X.K m))(s:PG X tg (f6 X.K g))(u:swapsWithSole [tg] e pos.line X.env=pure false:=by rfl)(hw:a2Y [tg] e X.env=pure none:=by rfl)
  (c:(Yr [tg] X.env).map (·.2)=[a1s tg X.env]:=by rfl):PS X (.Assign [tg] e pos) (dP X.K (lU m g)):=jO (IY r s u hw c) (by
 rintro E J H ⟨z,n,w,G,A,y,R,i,a,k⟩;obtain⟨⟨x,d⟩,c,a⟩:=VT.mp a;obtain⟨B,q,a⟩:=VZ.mp a;cases a;exact⟨z,n,w,x,d,R,i,c,λb I p l j v=>⟨b,n,_,x,_,j,i.mono l,v,q,λh o=>k b h p l j o⟩⟩)
end
section
variable{X:Cx}{K:VU}
noncomputable def rN:MF:=λds a=>match ds with
 |[.str z]=>if z.length<=Wb then b4 (.int z.length,a)else c4|[x]=>(b8 a x).map λb=>(.int b.length,a)|_=>c4
noncomputable def yV(K:VU):List V->Hp->VK->Prop:=λxs H Q=>(∃p a,xs=[.ref p]/\(SqL K H p a\/SqT K H p a)/\Q (.int a.length) H)\/(∃z,xs=[.str z]/\z.length<=Wb/\Q (.int z.length) H)
theorem call_lenM:CallR X (.builtin "len") (yV X.K):=call_len_seq.or Km
theorem uN{π:Nat->Addr}{b:Hm}{H:Hp}{v:V}{x:D}{xs:List D}(R:Rp K π H b)(h:IsD K π b.length H v x)(e:b8 b x=b4 xs):∃p vs,v=.ref p/\(SqL K H p vs\/SqT K H p vs)/\IsDs K π b.length H vs xs:=by
 cases h with
 |tup q t=>cases e;exact⟨_,_,rfl,.inr q,t⟩|rol q t=>cases e;exact⟨_,_,rfl,.inl q.sq,t⟩|@loc a j=>
  simp only[b8]at e;split at e
  ·rename_i k i;cases e;obtain⟨vs,c,d⟩:=R.lst a xs i;exact⟨_,vs,rfl,.inl (.of c),d⟩
  ·cases e
 |_=>cases e
theorem Dr:fR K rN (yV K):=by
 intro b H r n d l m Q R i a k;unfold rN at a;split at a
 ·split at a
  ·rename_i h;cases a;cases i with
   |cons i t=>cases i;cases t;exact .inr ⟨_,rfl,h,k b _ H .refl R (.int _)⟩
  ·cases a
 ·obtain⟨o,c,e⟩:=VZ.mp a;cases e;cases i with
  |cons i t=>cases t;obtain⟨p,j,rfl,q,hd⟩:=uN R i c;refine .inl ⟨p,j,rfl,q,?_⟩;rw[hd.length];exact k b _ H .refl R (.int _)
 ·cases a
noncomputable def rO:MF:=λds a=>match ds with
 |[x]=>(b8 a x).map λb=>(.loc a.length,a++[.lst b])|_=>c4
theorem Ds:fR K rO (λxs H Q=>∃p a,xs=[.ref p]/\(SqL K H p a\/SqT K H p a)/\∀l,H l=c4->Q (.ref l) (upd H l (.lst a))):=by
 intro s H r xs d n o Q R i b k;unfold rO at b;split at b
 ·obtain⟨a,h,j⟩:=VZ.mp b;cases j;cases i with
  |cons i t=>cases t;obtain⟨p,c,rfl,q,hd⟩:=uN R i h;refine⟨p,c,rfl,q,λl m=>?_⟩;obtain⟨e,R2,_⟩:=R.alloc (c:=.lst a) (o:=.lst c) m hd;exact k _ _ _ e R2 jP
 ·cases b
noncomputable def Dt(K:VU):List V->Hp->VK->Prop:=λvs H Q=>∃π a x v t c b,vs=[v,.ty c]/\Rp K π H a/\IsD K π a.length H v x/\oW a x=b4 t/\rM t c=b4 b/\Q (.bl b) H
theorem Ma:fR K gJ (Dt K):=by
 intro c H q p d n o Q R i a k;unfold gJ at a;split at a
 ·obtain⟨t,e,a⟩:=VT.mp a;obtain⟨b,h,a⟩:=VZ.mp a;cases a;cases i with
  |cons i l=>
   cases l with
   |cons j m=>cases m;cases j;exact⟨c,_,_,_,t,_,b,rfl,R,i,e,h,k c _ H .refl R (.bl _)⟩
 ·cases a
theorem Mb:CallR X (.builtin "isinstance") (Dt X.K):=by
 intro G s Z H N us Q I r h;obtain⟨L,μ,x,v,t,c,b,rfl,R,i,d,k,q⟩:=h;obtain⟨u,u2,rfl,m,U⟩:=xS r;cases U;have aS:∀J,EP X G Z Q (.bool b) {s with toks:=J}:=λJ=>⟨.bl b,H,I.tok J,rfl,q⟩;cases i with
 |non=>cases d;cases m;exact X4 PySem.W.kitx_none I.kIn YC (kM X.K (by simp) k) (λz=>nomatch z) aS|bl y=>cases d;cases m;exact X4 PySem.W.kitx_bool I.kIn YC (kM X.K (by simp) k) (λz=>nomatch z) aS|int y=>cases d;obtain⟨t,rfl⟩:=m;exact X4 PySem.W.kitx_int I.kIn YC (kM X.K (by simp) k) (λz=>nomatch z) aS|str y=>cases d;obtain⟨t,rfl⟩:=m;exact X4 PySem.W.kitx_str I.kIn YC (kM X.K (by simp) k) (λz=>nomatch z) aS|tup g t=>cases d;cases m;obtain⟨B,M,p,_⟩:=I.tuple g;obtain⟨o,e,j,_⟩:=p;exact X4 PySem.W.kitx_tuple I.kIn ⟨o,e,j⟩ (kM X.K (by simp) k) (λz=>nomatch z) aS|rol g t=>cases d;cases m;obtain⟨B,M,p,_⟩:=I.list g.sq;obtain⟨o,e,j,_⟩:=p.isList;exact X4 a2S I.kIn ⟨o,e,j⟩ (kM X.K (by simp) k) (λz=>nomatch z) aS|@loc a ha=>
  cases m;simp only[oW]at d;split at d
  ·rename_i N A;cases d;obtain⟨E,w,h4⟩:=R.lst a N A;obtain⟨B,M,p,_⟩:=I.list (SqL.of (K:=X.K) w);obtain⟨o,e,j,_⟩:=p.isList;exact X4 a2S I.kIn ⟨o,e,j⟩ (kM X.K (by simp) k) (λz=>nomatch z) aS
  ·rename_i l A;cases d;obtain⟨E,w,_⟩:=R.dK a l A;obtain⟨_,_,Y,_,p⟩:=(show ObjOk X.prog X.w H s.heap (L a) (.dK E)from I.hok _ _ w);obtain⟨o,T,O,e,j,_⟩:=p;exact X4 a2T I.kIn ⟨o,e,j.1⟩ (kM X.K (by simp) k) (λz=>nomatch z) aS
  ·rename_i l A;cases d;obtain⟨E,w,_⟩:=R.dT a l A;obtain⟨⟨Y,_,_,_,o,T,O,e,j,_⟩,_⟩:=(show ObjOk X.prog X.w H s.heap (L a) (aZ (L a) E)from I.hok _ _ w);exact X4 a2T I.kIn ⟨o,e,j.1⟩ (kM X.K (by simp) k) (λz=>nomatch z) aS
  ·cases d
 |ty n=>cases d
end
noncomputable def o6(a:List (bS×D))(k:bS):Option D:=(a.find? λb=>decide (b.1=k)).map (·.2)
inductive IsKs (K:VU)(π:Nat->Addr)(n:Nat)(H:Hp):List (bS×V)->List (bS×D)->Prop where
 |nil:IsKs K π n H [] []
 |cons {k:bS}{v:V}{d:D}{vs:List (bS×V)}{ds:List (bS×D)}(h:IsD K π n H v d)(t:IsKs K π n H vs ds):IsKs K π n H ((k,v)::vs) ((k,d)::ds)
section
variable{K:VU}{π π':Nat->Addr}{n n':Nat}{H H':Hp}
theorem IsKs.val{vs:List (bS×V)}{ds:List (bS×D)}(h:IsKs K π n H vs ds)(k:bS):(o6 ds k=c4/\gW vs k=c4)\/∃v d,o6 ds k=b4 d/\gW vs k=b4 v/\IsD K π n H v d:=by
 induction h with
 |nil=>exact .inl ⟨rfl,rfl⟩|@cons a c b vs ds h t l=>
  by_cases e:a=k
  ·exact .inr ⟨c,b,by simp[o6,Xf,e],by simp[gW,Xf,e],h⟩
  ·have i:o6 ((a,b)::ds) k=o6 ds k:=by simp[o6,Xf,e]
   have j:gW ((a,c)::vs) k=gW vs k:=by simp[gW,Xf,e]
   rw[i,j];exact l
theorem IsKs.length{vs:List (bS×V)}{ds:List (bS×D)}(h:IsKs K π n H vs ds):vs.length=ds.length:=by
 induction h with
 |nil=>rfl|cons h t a=>rw[Ww,Ww,a]
end
noncomputable def Mc(K:VU)(a:List (ME×ME)):List (TE×TE):=a.map λp=>(tM K p.1,tM K p.2)
section
variable{X:Cx}{a b c:Expr}{ma mb mc:ME}{pos:XD}
end
theorem lV{k:Nat}{A:WJ}(r:Room k A):A.units+1<Yt:=by have:=r.un;omega
noncomputable def bW(a:ME):ME:=λc b=>(a c b).bind λp=>(yN p.1).map λd=>(d,p.2)
end L3
namespace L3
open PySem L2
noncomputable def gK(cells:List (Str×Addr)):List (Str×YD)->List (Str×Addr)->List (Str×Addr)
 |[],acc=>acc|(n,k)::r,acc=>if k=.free then(match cells.lookup n with|some c=>gK cells r ((n,c)::acc)|none=>gK cells r acc)else gK cells r acc
theorem Du{env:ZS}:∀(names:List (Str×YD))(a:List (Str×Addr)),(∀y∈names,y.2=.free->∃c,env.cells.lookup y.1=b4 c)->
  (forIn names a λ(x:Str×YD)(d:List (Str×Addr))=>(do
   if x.2==.free then(do let c <- cellOf env x.1;pure (Y1 ((x.1,c)::d)))else pure (Y1 d):a3x (ForInStep (List (Str×Addr)))))=pure (gK env.cells names a)
 |[],a,_=>rfl|(n,k)::r,a,h=>by
  have i:=λa=>Du r a λy j=>h y (Wq _ j);rw[List.forIn_cons];by_cases b:k=.free
  ·subst b;obtain⟨c,hc⟩:=h (n,.free) (WU ..) rfl;dsimp only at hc;have e:cellOf env n=pure c:=by unfold cellOf;rw[hc]
   simp only[gK,hc,e,beq_self_eq_true,if_true,pure_bind];exact i _
  ·have e:(k==Ym)=false:=by simpa using b
   simp only[gK,e,b,if_false,V6,pure_bind];exact i _
theorem Md{scope:Yl}{env:ZS}(h:∀y∈scope.names,y.2=.free->∃c,env.cells.lookup y.1=b4 c):a4z scope env=pure (gK env.cells scope.names []):=by have:=Du (env:=env) scope.names [] h;unfold a4z;simp only[bind_pure]at *;exact this
theorem uO{cells:List (Str×Addr)}:∀(names:List (Str×YD))(a:List (Str×Addr)),(∀y c,a.lookup y=b4 c->cells.lookup y=b4 c)->∀y c,(gK cells names a).lookup y=b4 c->cells.lookup y=b4 c
 |[],a,h=>h|(n,k)::r,a,h=>by
  unfold gK;split
  ·split
   ·rename_i d hc;refine uO r _ λy c e=>?_;rw[Zx]at e;by_cases b:y=n
    ·subst b;simp only[beq_self_eq_true]at e;cases e;exact hc
    ·have:(y==n)=false:=by simpa using b
     rw[this]at e;exact h y c e
   ·exact uO r a h
  ·exact uO r a h
theorem uP{cells:List (Str×Addr)}:∀(names:List (Str×YD))(a:List (Str×Addr))(y:Str),(∃c,a.lookup y=b4 c)->∃c,(gK cells names a).lookup y=b4 c
 |[],a,y,h=>h|(n,k)::r,a,y,h=>by
  unfold gK;split
  ·split
   ·refine uP r _ y ?_;rw[Zx];by_cases b:(y==n)=c7
    ·rw[b];exact⟨_,rfl⟩
    ·have:(y==n)=false:=by simpa using b
     rw[this];exact h
   ·exact uP r a y h
  ·exact uP r a y h
theorem uQ{cells:List (Str×Addr)}:∀(names:List (Str×YD))(a:List (Str×Addr))(y:Str),(y,Ym)∈names->(∃c,cells.lookup y=b4 c)->∃c,(gK cells names a).lookup y=b4 c
 |[],a,y,h,_=>by cases h
 |(n,k)::r,a,y,h,hc=>by
  unfold gK;rcases Wr.mp h with h|h
  ·cases h;obtain⟨c,hc⟩:=hc;rw[if_pos rfl,hc];exact uP r _ _ ⟨c,by simp[Zx]⟩
  ·split
   ·split
    ·exact uQ r _ y h hc
    ·exact uQ r _ y h hc
   ·exact uQ r _ y h hc
structure CompSt(osc:Yl)(N:List Str)(scope:Yl)(xs:List Str):Prop where
 nocell:∀y∈scope.names,y.2≠.cell
 kind:scope.kind=.function
 names:∀y∈scope.names,y.2=.local->scope.names.lookup y.1=b4 .local
 here:∀x∈xs,scope.names.lookup x=b4 .local
 free:∀y∈scope.names,y.2=.free->osc.names.lookup y.1=b4 .cell\/osc.names.lookup y.1=b4 .free
 own:∀y∈scope.names,y.2=.local->y.1∉bK xs N
 nd:N.Nodup
 hnd:(bK xs N).Nodup
 hidn:∀y∈N,xs.contains y=c7->scope.names.lookup (oX y)=c4
theorem CompSt.ok{X:Cx}{scope:Yl}{xs:List Str}(S:CompSt X.env.scope X.N scope xs)(ok:X.Ok):CompOk X scope (gK X.env.cells scope.names []) xs:=by
 have has:∀y∈scope.names,y.2=.free->∃c,X.env.cells.lookup y.1=b4 c:=λy d b=>ok.has y.1 (S.free y d b);refine⟨Md has,S.nocell,S.kind,S.names,S.here,uO scope.names [] (λy c e=>by cases e),λy e=>?_,λy e=>?_,S.hidn⟩
 ·have a:=Xu e;exact⟨S.free _ a rfl,uQ scope.names [] y a (has _ a rfl)⟩
 ·exact S.own _ (Xu e) rfl
end L3
namespace L3
open PySem L2
section
variable{X:Cx}{pos:XD}
end
end L3
namespace L3
open PySem L2
noncomputable def b9(e:Expr):Bool:=!(e.ctorIdx==22)
theorem c9{e:Expr}{es:List Expr}{env:ZS}(h:b9 e=c7):Wn (e::es) env=(c6,eval e env)::Wn es env:=by cases e<;>first|rfl|cases h
theorem eC{pos:XD}{env:ZS}:∀{es:List Expr},es.all b9=c7->(XM pos (Wn es env)).any (·.1)=c6
 |[],_=>rfl|e::es,h=>by rw[WN,VW]at h;rw[c9 h.1];have:=eC (pos:=pos) (env:=env) h.2;simpa[XM]using this
theorem uR{e:Expr}{es:List Expr}{env:ZS}(h:b9 e=c7):Yr (e::es) env=(c6,a1s e env)::Yr es env:=by cases e<;>first|rfl|cases h
theorem Dv{env:ZS}:∀{es:List Expr},es.all b9=c7->(Yr es env).length=es.length
 |[],_=>rfl|e::es,h=>by rw[WN,VW]at h;rw[uR h.1,Ww,Ww,Dv h.2]
theorem Dw{env:ZS}:∀{es:List Expr},es.all b9=c7->(Yr es env).findIdx? (·.1)=c4
 |[],_=>rfl|e::es,h=>by rw[WN,VW]at h;rw[uR h.1,List.findIdx?_cons,Dw h.2];rfl
section
variable{X:Cx}{e a b c:Expr}{es:List Expr}{m:ME}{ms:MA}{pos:XD}
end
end L3
namespace L3
open PySem L2
structure QE(X:Cx)(e:Expr)(m:ME):Prop where
 h:PE X e (tM X.K m)
structure QT(X:Cx)(e:Expr)(m:MT):Prop where
 h:PT X e (dI X.K m)
structure QW(X:Cx)(e:Expr)(m:MT):Prop where
 h:PW X e (dI X.K m)
structure QA(X:Cx)(es:List Expr)(m:MA)(n:Nat):Prop where
 h:PA X es (eT X.K m)
 l:∀ρ μ ds μ',m ρ μ=b4 (ds,μ')->ds.length=n
 s:es.all b9=c7
structure QO(X:Cx)(e:Option Expr)(m:MO):Prop where
 h:PO X e (rJ X.K m)
structure QS(X:Cx)(st:Stmt)(m:MS):Prop where
 h:PS X st (dP X.K m)
structure QB(X:Cx)(st:List Stmt)(m:MS):Prop where
 h:PSs X st (dP X.K m)
structure QG(X:Cx)(e:Expr)(g:MG):Prop where
 h:PG X e (f6 X.K g)
structure QGs(X:Cx)(es:List Expr)(is:List Nat):Prop where
 h:qV X es (uM is)
 n:es.length=is.length
 s:es.all b9=c7
structure QI(X:Cx)(ifs:List Expr)(m:MT):Prop where
 h:nI X ifs m
structure QP(X:Cx)(pos:XD)(keys:List (Option Expr))(values:List Expr)(prs:List (ME×ME)):Prop where
 h:J7 X pos keys values (Mc X.K prs)
 a:keys.all (·.isSome)=c7
 l:keys.length=values.length
section
variable{X:Cx}{e a b c:Expr}{m ma mb mc:ME}{pos:XD}{mt mu:MT}{bT es:List Expr}{ms:MA}{n:Nat}
theorem Dx{x:Str}(i:Nat)(h:X.N[i]?=b4 x:=by rfl)(j:oG X.env.scope x:=by first|exact a3U rfl|exact a2V (a3U rfl)|exact a2V (a2V rfl))(hd:(x==("__debug__":Str))=false:=by decide)
  (d:(x==("__classdict__":Str))=false:=by decide):QE X (.Name x pos) (aA i):=⟨KU i (Ia h j hd d)⟩
theorem Dy{i:Int}{j:Nat}:QE X (.Constant (.int i) j pos) (mC (.int i)):=⟨KW⟩
theorem Dz{i:Bool}{j:Nat}:QE X (.Constant (.bool i) j pos) (mC (.bl i)):=⟨KY⟩
theorem DA{i:Str}{j:Nat}:QE X (.Constant (.str i) j pos) (mC (.str i)):=⟨KZ⟩
theorem DB{j:Nat}:QE X (.Constant .none j pos) (mC .non):=⟨K0⟩
theorem o7{op:a2N}{r:R2}{f:D->D->Hm->Option (D×Hm)}(j:OpR X (YU op) r)(i:cZ X.K f r)(d:QE X a ma)(h:QE X b mb):QE X (.BinOp a op b pos) (aC f ma mb):=⟨K1 j i d.h h.h⟩
theorem DC(d:QE X a ma)(h:QE X b mb):QE X (.BinOp a .Add b pos) (aC bM ma mb):=o7 LR LS d h
theorem Me(d:QE X a ma)(h:QE X b mb):QE X (.BinOp a .Sub b pos) (aC cE ma mb):=o7 Jo LK d h
theorem Mf(d:QE X a ma)(h:QE X b mb):QE X (.BinOp a .Mult b pos) (aC bR ma mb):=o7 (op_mulB.or Ku) LM d h
theorem Mg(d:QE X a ma)(h:QE X b mb):QE X (.BinOp a .FloorDiv b pos) (aC dD ma mb):=o7 LI LN d h
theorem Mh(d:QE X a ma)(h:QE X b mb):QE X (.BinOp a .Mod b pos) (aC bL ma mb):=o7 Jp LO d h
theorem Mi(d:QE X a ma)(h:QE X b mb):QE X (.BinOp a .Pow b pos) (aC fZ ma mb):=o7 LJ LP d h
theorem Mj(d:QE X a ma):QE X (.UnaryOp .USub a pos) (bW ma):=⟨LU d.h⟩
theorem DD(d:QE X a ma):QE X (.UnaryOp .Not a pos) (kI ma):=⟨Lb d.h⟩
theorem Ml{k:Nat}(i:Room k X.A)(d:QE X a ma)(h:QE X b mb):QE X (.Compare a [.Eq] [b] pos) (aC (aY c6) ma mb):=⟨fB (Di (uL i)) uK d.h h.h (dH _)⟩
theorem Mm{k:Nat}(i:Room k X.A)(d:QE X a ma)(h:QE X b mb):QE X (.Compare a [.NotEq] [b] pos) (aC (aY c7) ma mb):=⟨fB (Dj (uL i)) uK d.h h.h (dH _)⟩
theorem Mn(d:QE X a ma)(h:QE X b mb):QE X (.Compare a [.Lt] [b] pos) (aC kL ma mb):=⟨fB xK iG d.h h.h (dH _)⟩
theorem Mo(d:QE X a ma)(h:QE X b mb):QE X (.Compare a [.LtE] [b] pos) (aC oV ma mb):=⟨fB xM iG d.h h.h (dH _)⟩
theorem Mp(d:QE X a ma)(h:QE X b mb):QE X (.Compare a [.Gt] [b] pos) (aC fS ma mb):=⟨fB xO iG d.h h.h (dH _)⟩
theorem Mq(d:QE X a ma)(h:QE X b mb):QE X (.Compare a [.GtE] [b] pos) (aC yR ma mb):=⟨fB xP iG d.h h.h (dH _)⟩
noncomputable def f9(e:Expr):Bool:=!(e.ctorIdx==7)
theorem iH{op:Zf}{b:Expr}(h:f9 b=c7):YW op b=false:=by cases b<;>first|rfl|cases h
theorem Mr{op:BoolOp}(h:QE X a m):QE X (.BoolOp op [a] pos) m:=⟨K8 h.h⟩
theorem Ms(d:QE X a ma)(h:QE X (.BoolOp .And (b::bT) pos) mb):QE X (.BoolOp .And (a::b::bT) pos) (iV ma mb):=⟨K9 d.h h.h⟩
theorem Mt(d:QE X a ma)(h:QE X (.BoolOp .Or (b::bT) pos) mb):QE X (.BoolOp .Or (a::b::bT) pos) (yD ma mb):=⟨La d.h h.h⟩
theorem Mu(hc:QT X c mt)(d:QE X a ma)(h:QE X b mb):QE X (.IfExp c a b pos) (gX mt ma mb):=⟨Lc hc.h d.h h.h⟩
theorem Mv:QA X [] aD 0:=⟨Ld,CZ,rfl⟩
theorem Mw(i:QE X e m)(d:QA X es ms n)(h:b9 e=true:=by rfl):QA X (e::es) (aB m ms) (n+1):=⟨Le i.h d.h (c9 h),Lh d.l,by rw[WN,h,d.s];rfl⟩
theorem Mx{d:Nat}(h:QA X es ms n):QE X (.Tuple es d pos) (bY ms):=⟨Lf h.h⟩
theorem DE(h:QA X es ms n):QE X (.List es pos) (bO ms):=⟨Lg h.h⟩
noncomputable def o8(e:Expr):Bool:=!(e.ctorIdx==26)
theorem DF{b:Expr}(h:o8 b=c7):xZ b:=by intro o i;cases b<;>first|rfl|cases h
theorem My(d:QE X a ma)(i:QE X b mb)(h:o8 b=true:=by rfl):QE X (.Subscript a b pos) (aC gY ma mb):=⟨Lm d.h i.h (DF h)⟩
theorem Mz:QO X c4 kJ:=⟨Ln⟩
theorem MB(h:QE X e m):QO X (b4 e) (oQ m):=⟨Lo h.h⟩
theorem MC{lo d:Option Expr}{i h:MO}{o:XD}(j:QE X a ma)(k:QO X lo i)(l:QO X d h):QE X (.Subscript a (.Slice lo d c4 o) pos) (yF ma i h):=⟨Lq j.h k.h l.h⟩
theorem MD{k:Nat}{f:Addr}{j:W8}{ps:List Str}{l:MF}{x:Str}{p:XD}(F:FnOk X.prog X.w X.K X.mg X.base dB k f j ps (cT X.K n l))(u:Room k X.A)(s:X.mg x=b4 (.ref f))
  (r:Xe X.K (.ref f)=c7)(o:Binds X.K j ps [])(d:QA X (e::es) ms n)(q:Gl X x:=by rfl)(h:(x==("__debug__":Str))=false:=by decide):QE X (.Call (.Name x p) (e::es) [] pos) (aH l ms):=by
 have i:=d.s;rw[WN,VW]at i;exact⟨Li F u q s r o d.h d.l h (c9 i.1) (eC i.2)⟩
theorem MH{f:MF}{r:List V->Hp->VK->Prop}{id:String}{x:Str}{p:XD}(hc:CallR X (.builtin id) r)(j:fR X.K f r)(l:X.mg x=c4)(q:XW x=b4 (.builtin id))(i:QA X (e::es) ms n)
  (k:Gl X x:=by rfl)(o:x ≠ "__name__":=by decide) (d:(x==("__debug__":Str))=false:=by decide):QE X (.Call (.Name x p) (e::es) [] pos) (aH f ms):=by
 have h:=i.s;rw[WN,VW]at h;exact⟨Lj hc j k l q i.h o d (c9 h.1) (eC h.2)⟩
theorem yW{f:MF}{r:List V->Hp->VK->Prop}{T:String}{x:Str}{p:XD}(hc:CallR X (.type T) r)(j:fR X.K f r)(l:X.mg x=c4)(q:XW x=b4 (.type T))(i:QA X (e::es) ms n)
  (k:Gl X x:=by rfl)(o:x ≠ "__name__":=by decide) (d:(x==("__debug__":Str))=false:=by decide):QE X (.Call (.Name x p) (e::es) [] pos) (aH f ms):=by
 have h:=i.s;rw[WN,VW]at h;exact⟨Lk hc j k l q i.h o d (c9 h.1) (eC h.2)⟩
theorem MJ{x:Str}{n:String}(h:X.mg x=c4)(j:XW x=b4 (.type n))(d:Gl X x:=by rfl)(i:x ≠ "__name__":=by decide) (hd:(x==("__debug__":Str))=false:=by decide):QE X (.Name x pos) (mC (.ty n)):=⟨LV d h j i hd⟩
theorem MK{k:Nat}(i:Room k X.A)(d:QE X a ma)(h:QE X b mb):QT X (.Compare a [.Eq] [b] pos) (aN (aC (aY c6) ma mb)):=⟨fC (Di (uL i)) uK d.h h.h (dH _)⟩
theorem ML{k:Nat}(i:Room k X.A)(d:QE X a ma)(h:QE X b mb):QT X (.Compare a [.NotEq] [b] pos) (aN (aC (aY c7) ma mb)):=⟨fC (Dj (uL i)) uK d.h h.h (dH _)⟩
theorem MM(d:QE X a ma)(h:QE X b mb):QT X (.Compare a [.Lt] [b] pos) (aN (aC kL ma mb)):=⟨fC xK iG d.h h.h (dH _)⟩
theorem MN(d:QE X a ma)(h:QE X b mb):QT X (.Compare a [.LtE] [b] pos) (aN (aC oV ma mb)):=⟨fC xM iG d.h h.h (dH _)⟩
theorem MP(d:QE X a ma)(h:QE X b mb):QT X (.Compare a [.Gt] [b] pos) (aN (aC fS ma mb)):=⟨fC xO iG d.h h.h (dH _)⟩
theorem MQ(d:QE X a ma)(h:QE X b mb):QT X (.Compare a [.GtE] [b] pos) (aN (aC yR ma mb)):=⟨fC xP iG d.h h.h (dH _)⟩
noncomputable def rP:Expr->Bool
 |.UnaryOp .Not ..=>c6|.BoolOp ..=>c6|.IfExp ..=>c6|.Compare ..=>c6|_=>c7
theorem DG{e:Expr}{env:ZS}(h:rP e=c7):∀d,a1Z e env d=(do let v <- d;a0b e.pos;holding [v] (truthy v)):=by
 intro d;cases e<;>first|rfl|cases h|skip
 rename_i i x p;cases i<;>first|rfl|cases h
theorem MU(h:QE X e m)(d:rP e=true:=by rfl):QT X e (aN m):=⟨K2 h.h (DG d)⟩
theorem MV(d:QT X a mt):QT X (.UnaryOp .Not a pos) (eJ mt):=⟨K7 d.h⟩
theorem MW(d:QT X a mt):QW X (.BoolOp .And [a] pos) mt:=⟨K3 d.h⟩
theorem MX(d:QT X a mt):QW X (.BoolOp .Or [a] pos) mt:=⟨K4 d.h⟩
theorem MY(d:QT X a mt)(h:QW X (.BoolOp .And (b::bT) pos) mu):QW X (.BoolOp .And (a::b::bT) pos) (dU mt mu):=⟨K5 d.h h.h⟩
theorem MZ(d:QT X a mt)(h:QW X (.BoolOp .Or (b::bT) pos) mu):QW X (.BoolOp .Or (a::b::bT) pos) (fD mt mu):=⟨K6 d.h h.h⟩
theorem M0(h:QW X e mt):QT X e mt:=⟨h.h.pt⟩
theorem M3:QI X [] jQ:=⟨L4⟩
theorem M4(h:QT X c mt):QI X [c] mt:=⟨L5 h.h⟩
end
section
variable{X:Cx}{e a b c:Expr}{m:ME}{pos:XD}{mt:MT}{st:Stmt}{bT body orelse:List Stmt}{ms mr mu:MS}{n:Nat}{is:List Nat}{es:List Expr}{g:MG}
theorem M5:QB X [] a8:=⟨Lr⟩
theorem M6(d:QS X st ms)(h:QB X bT mr):QB X (st::bT) (aI ms mr):=⟨Ls d.h h.h⟩
theorem M7(d:QS X st ms):QB X [st] ms:=⟨Lu d.h⟩
theorem M8:QS X (.Pass pos) a8:=⟨Lv⟩
theorem DH(d:QE X e m):QS X (.Return (b4 e) pos) (a6 m):=⟨Lx d.h⟩
noncomputable def eK(e:Expr):Bool:=!(e.ctorIdx==8||e.ctorIdx==9||e.ctorIdx==10)
theorem o9{e:Expr}{t:Option Expr}{n:Nat}{env:ZS}(h:eK e=c7):ZF e t n env=pure false:=by cases e<;>first|rfl|cases h
theorem M9(d:QE X e m)(h:eK e=true:=by rfl):QS X (.Expr e pos) (cP m):=⟨Lz d.h (o9 h)⟩
theorem DI(hc:QT X c mt)(d:QB X body ms)(h:QB X orelse mu):QS X (.If c body orelse pos) (aX mt ms mu):=⟨LA hc.h d.h h.h⟩
theorem yX(i:Nat){x:Str}{d:XD}(j:X.N.Nodup)(k:QE X e m)(h:eK e=true:=by rfl)(o:X.N[i]?=b4 x:=by rfl)(p:Loc X.env.scope x:=by first|exact a3U rfl|exact a2V rfl)
  (l:X.fn x=c7\/X.env.scope.names.lookup x=b4 .local:=by first|exact .inl rfl|exact .inr rfl):QS X (.Assign [.Name x d] e pos) (aK i m):=⟨C3 j o p k.h (o9 h) l⟩
theorem Na(i:Nat){x:Str}(d:X.N.Nodup)(j:X.N[i]?=b4 x:=by rfl)(k:Loc X.env.scope x:=by first|exact a3U rfl|exact a2V rfl)
  (h:X.fn x=c7\/X.env.scope.names.lookup x=b4 .local:=by first|exact .inl rfl|exact .inr rfl):QG X (.Name x pos) (dQ i):=⟨Dl d j k h⟩
theorem DJ:QGs X [] []:=⟨IW,rfl,rfl⟩
theorem DK(i:Nat){x:Str}(h:X.N.Nodup)(d:QGs X es is)(k:X.N[i]?=b4 x:=by rfl)(l:Loc X.env.scope x:=by first|exact a3U rfl|exact a2V rfl)
  (j:X.fn x=c7\/X.env.scope.names.lookup x=b4 .local:=by first|exact .inl rfl|exact .inr rfl):QGs X (.Name x pos::es) (i::is):=
 ⟨IX (BV h k l j) d.h (by rw[uR (e:=.Name x pos) rfl];rfl),by rw[Ww,Ww,d.n],by rw[WN,d.s];rfl⟩
theorem yY{k:Nat}(h:QGs X es is)(hc:X.calm=true:=by rfl):QG X (.Tuple es k pos) (f7 is):=⟨L8 hc h.h ((Dv h.s).trans h.n) (Dw h.s)⟩
noncomputable def yZ(e:Expr):Bool:=!(e.ctorIdx==25)
theorem Nb{es:List Expr}{k:Nat}{pt:XD}{e:Expr}{env:ZS}(h:yZ e=c7):a2Y [.Tuple es k pt] e env=pure none:=by cases e<;>first|rfl|cases h
theorem Nc{k:Nat}{pt:XD}(d:QE X e m)(i:QG X (.Tuple es k pt) g)(h:yZ e=true:=by rfl):QS X (.Assign [.Tuple es k pt] e pos) (lU m g):=
 ⟨L9 d.h i.h (by cases e<;>rfl) (Nb h) (by rw[uR (e:=.Tuple es k pt) rfl];rfl)⟩
end
section
variable{P:Wv}{w:WO}{K:VU}{mg:Str->Option Value}{base:Xo}
theorem Nd{x a:Str}{st:Stmt}{f:Addr}{h:W8}{N ps:List Str}{k:Nat}{body:List Stmt}{m:MS}(F:Fun K x a st f h)(S:FnScope N ps (bN st))(e:ps.length<=N.length)(d:dC st=body)
  (c:∀(b:Value)(A:WJ)(outer:List ZS)(s:V1)(H:Hp)(E:XK),Room k (A.deeper (Zn a (bN st) s.heap.objs.size f b))->
   QB (fA dB P w K mg base N a (bN st) f b A outer s H E).nox body m):FnOk P w K mg base dB (k+1) f h ps (cT K ps.length (rL N.length m)):=
 LB F S e λb A outer s H E i=>by rw[d];exact(c b A outer s H E i).h
end
end L3
namespace L3
open PySem L2
noncomputable abbrev kQ:=Hm->Nat->Option (Option D)
noncomputable abbrev MI:=aG->Hm->Option (kQ×Nat×Hm)
noncomputable def iY(K:VU)(m:MI):TI:=λσ H R=>∃π h e c n a,Rp K π H e/\En K π e.length H σ h/\m h e=b4 (c,n,a) /\
 ∀b d J,Ext π e.length H b a.length d->Rp K b d a->Wk K J c b a.length d->R J d
structure QJ(X:Cx)(e:Expr)(m:MI):Prop where
 h:∀tg,PI X tg e (iY X.K m)
section
variable{X:Cx}{pos:XD}{e:Expr}{m:ME}
noncomputable def y4:MI:=λ_ _=>c4
theorem j_bad:QJ X e y4:=⟨λtg a5T s σ H R I hw=>by
 obtain⟨i,j,h,b,n,c,d,E,a,k⟩:=hw;cases a⟩
noncomputable def kR(a:Hm):D->Option (List D)
 |d=>b8 a d
noncomputable def eM(x:D):kQ:=λa i=>(kR a x).map λxs=>xs[i]?
noncomputable def gA(m:ME):MI:=λb a=>(m b a).bind λp=>(kR p.2 p.1).map λxs=>(eM p.1,xs.length+1,p.2)
theorem Nf(h:QE X e m):QJ X e (gA m):=⟨λtg a5T s σ H R I hw=>by
 obtain⟨L,M,J,B,n,K,u,E,b,k⟩:=hw;obtain⟨⟨x,j⟩,w,b⟩:=VT.mp b;obtain⟨G,y,b⟩:=VZ.mp b;cases b;have key:∀(p:b8 j x=b4 G)(r:eM x=kN x),Wm (WC X.prog X.w) X.A (eval e X.env) (λv A=>Wm (WC X.prog X.w) X.A (a1X v) (BZ X a5T σ tg R) X.xe A) X.xe s:=λp r=>by
  refine LX h.h a5T s σ H R I ⟨L,M,J,x,_,u,E,w,λc N l o d z=>?_⟩;obtain⟨a,e,q⟩:=LY d z p;subst e;refine⟨a,rfl,?_⟩;dsimp only at k;rw[r]at k;rcases q with⟨i,W⟩|⟨i,W⟩
  ·exact .inl ⟨i,k c l _ o d W⟩
  ·exact .inr ⟨i,k c l _ o d W⟩
 cases x with
 |_=>exact key y rfl⟩
noncomputable def kS(ms:MA):MI:=λb a=>(ms b a).bind λp=>match p.1 with
 |[.int j]=>if -(2^62)<=j/\j<2^62 then b4 (g7 0 j.toNat,j.toNat+1,p.2)else c4|_=>c4
theorem Ng{q:Cx->Prop}{tg:Expr}(tr:∀(o:Addr)(lo:Int)(n:Nat),Turn q X.prog X.w X.K tg (lP lo n) [o] o (λi h=>ZM h o (lo+(i:Nat)*1) ((n:Int)-(i:Nat)) 1)){a:Expr}{ms:MA}{n:Nat}{p:XD}(c:Gl X "range") (d:X.mg "range"=c4) (v:QA X [a] ms n):qW q X tg (.Call (.Name "range" p) [a] [] pos) (iY X.K (kS ms)):=λa5T s σ H R I hw=>by
 have y:=v.s;rw[WN,VW]at y;obtain⟨O,Q,M,K,T,N,B,E,b,k⟩:=hw;obtain⟨⟨x,r⟩,J,b⟩:=VT.mp b;refine Je tr c d v.h (c9 y.1) a5T s σ H R I ⟨O,Q,M,x,r,B,E,J,λu U z G A l=>?_⟩;dsimp only at b;split at b
 ·rename_i j;split at b
  ·rename_i w;cases b;cases l with
   |cons l L=>cases l;cases L;exact⟨j,rfl,w.1,w.2,k u z _ G A Dm⟩
  ·cases b
 ·cases b
theorem Nh{a:Expr}{ms:MA}{n:Nat}{p:XD}(b:Gl X "range") (c:X.mg "range"=c4) (d:QA X [a] ms n):QJ X (.Call (.Name "range" p) [a] [] pos) (kS ms):=⟨λtg=>Ng B0 b c d⟩
noncomputable def pE(ms:MA):MI:=λb a=>(ms b a).bind λp=>match p.1 with
 |[.int i,.int j]=>if -(2^62)<=i/\i<2^62/\-(2^62)<=j/\j<2^62 then b4 (g7 i (j-i).toNat,(j-i).toNat+1,p.2)else c4|_=>c4
theorem Ni{a b:Expr}{ms:MA}{n:Nat}{p:XD}(h:Gl X "range") (l:X.mg "range"=c4) (u:QA X [a,b] ms n):QJ X (.Call (.Name "range" p) [a,b] [] pos) (pE ms):=⟨λtg a5T s σ H R I hw=>by
 have d:=u.s;rw[WN,VW,WN,VW]at d;obtain⟨O,Q,M,J,T,N,y,E,c,k⟩:=hw;obtain⟨⟨x,q⟩,A,c⟩:=VT.mp c;refine Jf h l u.h (by rw[c9 d.1,c9 d.2.1];rfl) (by rw[c9 d.2.1];rfl) a5T s σ H R I ⟨O,Q,M,x,q,y,E,A,λr U v z w o=>?_⟩;dsimp only at c;split at c
 ·rename_i i j;split at c
  ·rename_i B;cases c;cases o with
   |cons o K=>
    cases o;cases K with
    |cons G L=>cases G;cases L;exact⟨i,j,rfl,B,k r v _ z w Dm⟩
  ·cases c
 ·cases c⟩
noncomputable def cW(c:MI)(g:MG)(b:MS):MS:=λa d=>(c a d).bind λp=>fJ p.1 g b p.2.1 0 a p.2.2
end
noncomputable def nJ(d:BD)(h:MI)(c:MT)(e:ME):ME:=λb i=>(h b i).bind λp=>(kP p.1 d c e b p.2.2.length p.2.1 0 (p.2.2++[.lst []])).map λa=>(.loc p.2.2.length,a)
noncomputable abbrev iI(a:MI)(c:MT)(e:ME):ME:=nJ oZ a c e
noncomputable def gB(n:Nat)(a:BD):MG:=λd c b=>(a d b).map λx=>c.take n++x
theorem Nj{X:Cx}{n:Nat}{x:Str}{j:XD}(l:X.N.length=n+1)(h:PG X (.Name x j) (f6 X.K (dQ n))):PG X (.Name x j) (f6 X.K (gB n oZ)):=by
 intro b s y H v u Q I r hw;obtain⟨q,a,p,d,w,R,E,hd,m,k⟩:=hw;cases m;refine h b s y H v u Q I r ⟨q,a,p,d,_,R,E,hd,rfl,λc i=>k c ?_⟩;have o:a.length=n+1:=by rw[<- E.len,I.len,l]
 have e:a.set n (b4 d)=a.take n++[b4 d]:=by rw[List.set_eq_take_append_cons_drop,if_pos (by omega),List.drop_of_length_le (by omega)]
 rw[e]at i;exact i
theorem DL:∀(xs:List D)(a b:aG),b.length=xs.length->iX (a++b) (ZY a.length xs.length) xs=a++xs.map b4
 |[],a,[],_=>by simp[iX]
 |x::xs,a,y::b,h=>by have c:=DL xs (a++[b4 x]) b (by simpa using h);rw[Ww,Z6];show iX ((a++y::b).set a.length (b4 x)) (ZY (a.length+1) xs.length) xs=_;rw[Zu _ _ (Wa _),Zq,V3];rw[V5,WW]at c;rw[XX,a2Q]at c;rw[c];simp
theorem Nk{X:Cx}{n k:Nat}{tg:Expr}(w:X.N.length=n+k)(h:PG X tg (f6 X.K (f7 (ZY n k)))):PG X tg (f6 X.K (gB n (Dp k))):=by
 intro b s K H v u Q I r hw;obtain⟨G,a,B,d,J,R,E,hd,x,A⟩:=hw;obtain⟨y,o,p⟩:=VZ.mp x;obtain⟨m,q,c⟩:=VT.mp o;split at c
 ·rename_i l;cases c;subst p;have z:a.length=n+k:=by rw[<- E.len,I.len,w]
  refine h b s K H v u Q I r ⟨G,a,B,d,iX a (ZY n k) m,R,E,hd,(by simp only[f7,q,Wl,List.length_range',if_pos l]),λi j=>A i ?_⟩;have e:=DL m (a.take n) (a.drop n) (by rw[a3Y];omega);rw[Zt,Xz,Nat.min_eq_left (by omega),l]at e;rw[e]at j;exact j
 ·cases c
section
variable{X:Cx}{scope:Yl}{cl:List (Str×Addr)}{xs:List Str}{tg elt iter:Expr}{ifs:List Expr}{pos ppos:XD}{mi:MI}{me:ME}{mc:MT}{bd:BD}
theorem Nl{K:VU}{π:Nat->Addr}{n:Nat}{H:Hp}{σ:St}{b o:aG}{k:Nat}(E:En K π n H σ (b++o))(c:o.length=k):En K π n H σ (b++WH k c4):=by
 refine⟨by rw[E.len,V5,V5,Yw,c],λi d q=>?_⟩;by_cases a:i<b.length
 ·rw[Wz a]at q;exact E.get i d (by rw[Wz a];exact q)
 ·rw[W2 (ZR.mp a),YF]at q;split at q<;>cases q
theorem DM{q:Cx->Prop}(O:CompOk X scope cl xs)(hq:∀a5T σ H s k,Inv X a5T σ H s->q (cS X scope cl s.heap.objs.size (bK xs X.N++xs) s H k))(hi:qW q X tg iter (iY X.K mi))(hb':∀d μ z,bd d μ=b4 z->z.length=xs.length)(hg:∀C s₀ H₀ k,PG (cS X scope cl C (bK xs X.N++xs) s₀ H₀ k) tg (f6 X.K (gB X.N.length bd)))
  (hc:∀C s₀ H₀ k,nI (cS X scope cl C (bK xs X.N++xs) s₀ H₀ k) ifs mc)(he:∀C s₀ H₀ k,PE (cS X scope cl C (bK xs X.N++xs) s₀ H₀ k) elt (tM X.K me))
  (hs:∀x,YZ iter X.env x=pure x){use:Option (Value->a3x Unit)}{QQ:Value->V1->Prop}{a5T:List (Addr×Obj)}{s:V1}{σ:St}{H:Hp}{π:Nat->Addr}{U:aG}{μ Y:Hm}{d:D}
  (I:Inv X a5T σ H s)(R:Rp X.K π H μ)(E:En X.K π μ.length H σ U)(hm:nJ bd mi mc me U μ=b4 (d,Y))
  (aS:∀(p C:Addr)(l:Nat->Addr)(H':Hp)(s':V1),Ext π μ.length H l Y.length H'->Rp X.K l H' Y->IsD X.K l Y.length H' (.ref p) d->(∃m,s'.heap.Ns C m)->X.s₀.heap.objs.size<=C->C≠X.env.locals->H' C=c4->
   (∀y c,X.env.cells.lookup y=b4 c->c≠C)->(∀q∈X.pn++a5T,q.1≠C)->(∀h',(∀b o,b≠C->s'.heap.get? b=b4 o->h'.get? b=b4 o)->Inv X a5T σ H' {s' with heap:=h'})->
   compPost (WC X.prog X.w) X.A X.xe use QQ (.ref p) C (.ok .next) s') :
  Wm (WC X.prog X.w) X.A (comprehension (.ListComp elt [⟨tg,iter,ifs,0⟩] scope pos) scope X.env ppos (newList []) c6 (eval iter X.env) use) QQ X.xe s:=by
 obtain⟨⟨src,nt,a⟩,h1,hm⟩:=VT.mp hm;obtain⟨μ2,h3,hm⟩:=VZ.mp hm;cases hm;have hit:Wm (WC X.prog X.w) X.A (eval iter X.env) (λv s1=>Wm (WC X.prog X.w) X.A (a1X v) (tY q X a5T σ tg λJ H1=>∃Z,Ext π μ.length H Z a.length H1/\Rp X.K Z H1 a/\Wk X.K J src Z a.length H1) X.xe s1) X.xe s:=
  hi a5T s σ H _ I ⟨π,U,μ,src,nt,a,R,E,h1,λZ H1 J e1 R1 W=>⟨Z,e1,R1,W⟩⟩
 refine wpAny_comprehension_free rfl hs O.clos O.kind O.names (WR hit (λv s1 hv=>WR hv (λitv B h4=>?_) λ_ _ z=>z) λ_ _ z=>z);obtain⟨it,k,tn,J,H2,rfl,I2,T,st2,f2,Z,e1,R1,W⟩:=h4;refine X9 (wpAny_newFunctionEnv O.nocell (by intro y hy;simp at hy) (λh₁ K L=>?_) O.kind);dsimp only at K L ⊢;have hfr:H2 B.heap.objs.size=none:=I2.hok.fresh (Wa _);have I3:Inv X a5T σ (upd H2 B.heap.objs.size (.lst [])) {B with heap:=B.heap.push {cls:=.type "list",dict:=c4,data:=.seq ([]:List Value).toArray}}:=
  I2.laid (t':=B.toks) (λb u e=>V8 _ e) (Wa _) ⟨W7 _,[],0,.nil,Ws _ rfl⟩
 obtain⟨e2,R2,q2⟩:=R1.alloc (c:=.lst []) (o:=.lst []) hfr .nil;generalize hs3:({B with heap:=B.heap.push {cls:=.type "list",dict:=c4,data:=.seq ([]:List Value).toArray}}:V1)=s3 at I3;have G:B.heap.push {cls:=.type "list",dict:=c4,data:=.seq ([]:List Value).toArray}=s3.heap:=by rw[<- hs3]
 have e12:=e1.trans e2;generalize hH3:upd H2 B.heap.objs.size (.lst [])=H3 at I3 e2 R2 e12;generalize hπ3:fH Z a.length B.heap.objs.size=π3 at e2 R2 q2 e12;have hob:∀b∈k,∃o,s3.heap.get? b=b4 o:=λb A=>by obtain⟨o,ho,_⟩:=T.obj 0 _ st2 b A;exact⟨o,by rw[<- G];exact V8 _ ho⟩
 have f3:∀b∈k,iS X a5T H3 b:=λb A=>by obtain⟨o,ho,_⟩:=T.obj 0 _ st2 b A;refine⟨?_,(f2 b A).2⟩;rw[<- hH3,bG (WB (Wi ho))];exact(f2 b A).1
 have st3:tn 0 s3.heap:=T.keep 0 _ _ st2 λb A o e=>by rw[<- G];exact V8 _ e
 have hC:(B.heap.push {cls:=.type "list",dict:=c4,data:=.seq ([]:List Value).toArray}).objs.size=s3.heap.objs.size:=by rw[G]
 rw[G]at K L;have hk1:∀b o,s3.heap.get? b=b4 o->h₁.get? b=b4 o:=λb o e=>L.extBut b o (WB (Wi e)) (V8 _ e);have E3:En X.K π3 (a++[C.lst []]).length H3 (σ++WH xs.length c4) (U++WH xs.length c4):=by
  have E':=E.mono e12;refine⟨by rw[V5,V5,E'.len,Yw,Yw],λi d' q=>?_⟩;by_cases hi:i<U.length
  ·rw[Wz hi]at q;obtain⟨v,h5,h6⟩:=E'.get i d' q;exact⟨v,by rw[Wz (by rw[E'.len];exact hi)];exact h5,h6⟩
  ·rw[W2 (ZR.mp hi),YF]at q;split at q<;>cases q
 have hlen:U.length=X.N.length:=by rw[<- E.len];exact I.len
 have stat:∀{H':Hp}{pl:List (Addr×Obj)},(∀b∈k,H' b=c4)->pl=[]->∀b∈k,iS (cS X scope cl s3.heap.objs.size (bK xs X.N++xs) s3 H3 k) pl H' b:=λ{H' pl} hn hpl b A=>by
  obtain⟨f0,f1,f2',f3',f4,f5⟩:=f3 b A;obtain⟨o,ho⟩:=hob b A;refine⟨hn b A,WB (Wi ho),λz=>?_,.inl A,λy c h=>f4 y c (O.sub y c h),λp hp=>?_⟩
  ·rcases Wr.mp (I3.stkSub b z)with z|z
   ·exact f1 z
   ·exact f2' z
  ·subst hpl;exact absurd (show p∈([]:List (Addr×Obj))from hp) (by simp)
 have loop:∀s4:V1,(∃tk,s4={s3 with heap:=h₁,toks:=tk})->
   ZI (WC X.prog X.w) X.A (.compLoop (.ListComp elt [⟨tg,iter,ifs,0⟩] scope pos) 0 (.ref it) (.ref B.heap.objs.size) (ZA scope cl s3.heap.objs.size X.env))
    (compPost (WC X.prog X.w) X.A X.xe use QQ (.ref B.heap.objs.size) s3.heap.objs.size) s4:=by
  rintro s4 ⟨tk,rfl⟩;have I4:=O.inv (tk:=tk) I3 f3 hob K hk1;refine L1 (λn s'=>∃i Q H' l M o,Inv (cS X scope cl s3.heap.objs.size (bK xs X.N++xs) s3 H3 k) [] Q H' s'/\tn i s'.heap/\(∀b∈k,H' b=c4)/\Ext π3 (a++[C.lst []]).length H3 l M.length H'/\Rp X.K l H' M /\
   En X.K l M.length H' Q (U++o)/\o.length=xs.length/\kP src bd mc me U a.length n i M=b4 Y) ?_ nt
   ⟨0,_,H3,π3,a++[C.lst []],WH xs.length c4,I4,T.keep 0 _ _ st3 λb A o e=>hk1 b o e,λb A=>(f3 b A).1,.refl,R2,E3,Yw,h3⟩
  rintro n s5 ⟨i,σ5,H5,N,μ5,o5,I5,st5,fr5,e5,R5,E5,l5,g5⟩;cases n with
  |zero=>cases g5|succ n=>
   obtain⟨o,h6,h7⟩:=VT.mp g5;cases o with
   |none=>
    cases h7;have stop:=W.stop N _ H5 i (e2.trans e5) R5 h6;refine WR (T.done (cS X scope cl s3.heap.objs.size (bK xs X.N++xs) s3 H3 k) rfl rfl rfl (hq a5T σ H3 s3 k I3) i [] s5 σ5 H5 (λ_ _=>False) I5 (stat fr5 rfl) st5 stop) (λr s6 ⟨hr,I6⟩=>?_) λ_ _ z=>z;subst hr;obtain⟨m6,hn6,_⟩:=id I6.loc;have hp:N a.length=B.heap.objs.size:=by rw[e5.pi a.length (by simp),q2]
    refine aS B.heap.objs.size s3.heap.objs.size N H5 s6 (e12.trans e5) R5 ?_ ⟨m6,hn6⟩ I3.sz (WL (WB I3.lt)) I6.free (λy c hc z=>?_) (λq hq z=>?_) λh' hh=>CompOk.back I3 f3 I6 hh
    ·rw[<- hp];exact .loc (Wy (by simp) e5.le)
    ·obtain⟨v,o,ho,_⟩:=I3.cell y c hc;exact WB (Wi ho) z
    ·exact WB (Wi (I3.pin q hq).1) z
   |some d=>
    obtain⟨z,hz,h7⟩:=VT.mp h7;obtain⟨⟨b,μ6⟩,h8,h9⟩:=VT.mp h7;obtain⟨g1,g2⟩:=W.go N μ5 H5 i d (e2.trans e5) R5 h6;refine WR (T.item (cS X scope cl s3.heap.objs.size (bK xs X.N++xs) s3 H3 k) rfl rfl rfl (hq a5T σ H3 s3 k I3) i [] s5 σ5 H5 (λ_ _=>False) I5 (stat fr5 rfl) st5 g1) (λr s6 ⟨u,hr,h10⟩=>?_) λ_ _ z=>z;subst hr;refine WR h10 (λ_ s7 ⟨v,H7,I7,r7,y7,st7,fr7⟩=>?_) λ_ _ z=>z;obtain⟨e7,R7,hd⟩:=g2 v H7 y7;have I7':=I7.pinned (stat fr7 rfl) (T.obj _ _ st7);have e5:=e5.trans e7;refine WR (hg _ _ _ _ _ s7 σ5 H7 v u (λQ H'=>En X.K N μ5.length H7 Q (U++z)/\H'=H7) I7' r7
     ⟨N,U++WH xs.length c4,μ5,d,U++z,R7,Nl (E5.mono e7) l5,hd,(by
      show(bd d μ5).map (λx=>(U++WH xs.length c4).take X.N.length++x)=_;rw[hz,<- hlen,List.take_left];rfl),λQ E'=>⟨E',rfl⟩⟩) (λ_ s8 ⟨σ8,H8,I8,E8,z2⟩=>?_) λ_ _ z=>z
    subst z2;have again:∀{s9:V1}{H9:Hp}{j:Nat->Addr}{μ9:Hm},Inv (cS X scope cl s3.heap.objs.size (bK xs X.N++xs) s3 H3 k) ([]++qY k s7.heap) σ8 H9 s9->Ext π3 (a++[C.lst []]).length H3 j μ9.length H9->Rp X.K j H9 μ9->
      En X.K j μ9.length H9 σ8 (U++z)->kP src bd mc me U a.length n (i+1) μ9=b4 Y->
      ∃m,m<n+1/\∃i Q H' l M o,Inv (cS X scope cl s3.heap.objs.size (bK xs X.N++xs) s3 H3 k) [] Q H' s9/\tn i s9.heap/\(∀b∈k,H' b=c4)/\Ext π3 (a++[C.lst []]).length H3 l M.length H'/\Rp X.K l H' M /\
       En X.K l M.length H' Q (U++o)/\o.length=xs.length/\kP src bd mc me U a.length m i M=b4 Y:=λ{s9 H9 j μ9} I9 e9 R9 E9 g9=>by
     refine⟨n,XT _,i+1,_,H9,j,μ9,z,I9.unpinned,T.keep _ _ _ st7 λb A o e=>(I9.pin (b,o) (WV _ (WV _ (tZ A e)))).1,λb A=>?_,e9,R9,E9,hb' _ _ _ hz,g9⟩;obtain⟨o,e,_⟩:=T.obj _ _ st7 b A;exact(I9.pin (b,o) (WV _ (WV _ (tZ A e)))).2.1
    refine WR (hc _ _ _ _ _ s8 _ H8 (λb' H'=>∃j,b'=b/\Ext N μ5.length H8 j μ6.length H'/\Rp X.K j H' μ6) I8 ⟨N,_,μ5,b,μ6,R7,E8,h8,λj H9 e9 R9=>⟨j,rfl,e9,R9⟩⟩) (λok s9 ⟨H9,I9,j,A,e9,R9⟩=>?_) λ_ _ z=>z;subst A;cases ok with
    |false=>rw[if_neg Wu];exact again I9 (e5.trans e9) R9 (E8.mono e9) h9|true=>
     rw[if_pos rfl];obtain⟨⟨dy,μ7⟩,h11,h12⟩:=VT.mp h9;obtain⟨μ8,h13,h14⟩:=VT.mp h12;refine WR (he _ _ _ _ _ s9 _ H9 (λy H'=>∃w,Ext j μ6.length H9 w μ7.length H'/\Rp X.K w H' μ7/\IsD X.K w μ7.length H' y dy) I9 ⟨j,_,μ6,dy,μ7,R9,E8.mono e9,h11,λw y H10 e10 R10 i10=>⟨w,e10,R10,i10⟩⟩)
      (λu' s10 ⟨y,H10,I10,ry,w,e10,R10,i10⟩=>?_) λ_ _ z=>z
     unfold oY at h13;split at h13
     ·rename_i zs hz;split at h13
      ·rename_i hl;cases h13;obtain⟨vs,h15,h16⟩:=R10.lst _ zs hz;have eall:=(e5.trans e9).trans e10;have hp:w a.length=B.heap.objs.size:=by rw[eall.pi a.length (by simp),q2]
       obtain⟨e11,R11⟩:=R10.put (a:=a.length) (c:=.lst (zs++[dy])) (o:=.lst (vs++[y])) (VY.mp hz).1 h15 (.inl ⟨vs,rfl⟩) (h16.append (.cons i10 .nil));rw[hp]at h15 e11 R11;refine WR (CK (X:=cS X scope cl s3.heap.objs.size (bK xs X.N++xs) s3 H3 k) _ s10 _ H10 (.ref B.heap.objs.size) [y] (.ref B.heap.objs.size) [u'] (λ_ H'=>H'=upd H10 B.heap.objs.size (.lst (vs++[y]))) I10 rfl (.cons ry .nil)
        ⟨B.heap.objs.size,vs,y,rfl,rfl,h15,by rw[h16.length];exact hl,rfl⟩) (λ_ s11 ⟨_,H11,I11,_,z⟩=>?_) λ_ _ z=>z
       subst z;exact again I11 (eall.trans e11) R11 ((E8.mono (e9.trans e10)).mono e11) h14
      ·cases h13
     ·cases h13
 have l4:=loop {s3 with heap:=h₁,toks:=B.toks+([]:List (Str×Value)).length} ⟨_,rfl⟩;have hst4:tn 0 h₁:=T.keep 0 _ _ st3 λb A o e=>hk1 b o e;subst hs3;exact codeAny_compStart_list l4 (T.self _ 0 _ _ _ hst4 l4)
theorem Nm{q:Cx->Prop}(O:CompOk X scope cl xs)(N:∀a5T σ H s a,Inv X a5T σ H s->q (cS X scope cl s.heap.objs.size (bK xs X.N++xs) s H a))(J:qW q X tg iter (iY X.K mi))(c:∀d u z,bd d u=b4 z->z.length=xs.length)(G:∀C s₀ H₀ a,PG (cS X scope cl C (bK xs X.N++xs) s₀ H₀ a) tg (f6 X.K (gB X.N.length bd)))
  (hc:∀C s₀ H₀ a,nI (cS X scope cl C (bK xs X.N++xs) s₀ H₀ a) ifs mc)(B:∀C s₀ H₀ a,PE (cS X scope cl C (bK xs X.N++xs) s₀ H₀ a) elt (tM X.K me))
  (T:∀x,YZ iter X.env x=pure x):PE X (.ListComp elt [⟨tg,iter,ifs,0⟩] scope pos) (tM X.K (nJ bd mi mc me)):=by
 intro a5T s σ H Q I hw;obtain⟨π,ρ,u,d,μ',R,E,K,k⟩:=hw;rw[eval_ListComp];refine DM (use:=c4) O N J c G hc B T I R E K λp C j l s' w v Y i U M h n r back=>?_;obtain⟨m,L⟩:=i;exact⟨m,L,λy Z=>⟨.ref p,l,back y (λb o A e=>(Z.2 b A).trans e),rfl,k j _ l w v Y⟩⟩
theorem Nn(O:CompOk X scope cl xs)(a:X.calm=c7)(i:PI X tg iter (iY X.K mi))(c:∀d k z,bd d k=b4 z->z.length=xs.length)(h:∀C s₀ H₀ b,PG (cS X scope cl C (bK xs X.N++xs) s₀ H₀ b) tg (f6 X.K (gB X.N.length bd)))
  (hc:∀C s₀ H₀ b,nI (cS X scope cl C (bK xs X.N++xs) s₀ H₀ b) ifs mc)(e:∀C s₀ H₀ b,PE (cS X scope cl C (bK xs X.N++xs) s₀ H₀ b) elt (tM X.K me))
  (j:∀x,YZ iter X.env x=pure x):PE X (.ListComp elt [⟨tg,iter,ifs,0⟩] scope pos) (tM X.K (nJ bd mi mc me)):=Nm O (λ_ _ _ _ _ _=>a) i c h hc e j
theorem Np{i:Nat}{y:Str}{py h:XD}(O:CompOk X scope cl xs)(hN:X.N.Nodup)(j:X.calm=c7)(hi:PI X tg iter (iY X.K mi))(G:∀d Z z,bd d Z=b4 z->z.length=xs.length)(hg:∀C s₀ H₀ q,PG (cS X scope cl C (bK xs X.N++xs) s₀ H₀ q) tg (f6 X.K (gB X.N.length bd)))
  (hc:∀C s₀ H₀ q,nI (cS X scope cl C (bK xs X.N++xs) s₀ H₀ q) ifs mc)(he:∀C s₀ H₀ q,PE (cS X scope cl C (bK xs X.N++xs) s₀ H₀ q) elt (tM X.K me))
  (hs:∀x,YZ iter X.env x=pure x)(hy:X.N[i]?=b4 y)(Y:X.env.scope.names.lookup y=b4 .local)
  (L:ZF (.ListComp elt [⟨tg,iter,ifs,0⟩] scope pos) (b4 (.Name y py)) h.line X.env=pure c7) :
  PS X (.Assign [.Name y py] (.ListComp elt [⟨tg,iter,ifs,0⟩] scope pos) h) (dP X.K (aK i (nJ bd mi mc me))):=by
 intro n s σ H EN I hw;obtain⟨π,ρ,Z,fl,ρ',μ',R,E,J,k⟩:=hw;obtain⟨⟨d,μ1⟩,h1,J⟩:=VZ.mp J;cases J;rw[exec_Assign_Name_used _ _ _ _ L];refine VX (a1j ?_);refine VX (VX ?_);refine DM (use:=b4 (a1s (.Name y py) X.env)) (QQ:=λ_ v=>Wm (WC X.prog X.w) X.A (pure ()) (λ_ N=>Wm (WC X.prog X.w) X.A (pure Flow.next) (SP X n EN) X.xe N) X.xe v) O (λ_ _ _ _ _ _=>j) hi G hg hc he hs I R E h1 λp C T w v U R1 i1 K M r l c u back=>?_;obtain⟨m,hn⟩:=K;have I1:Inv X n σ w v:=back v.heap λb o _ e=>e;show Wm (WC X.prog X.w) X.A (a1s (.Name y py) X.env (.ref p)) _ X.xe v;refine a4K ?_;refine tX I1 hN hy (.inl Y) (show RelV (.ref p) (.ref p)from rfl) (λs2 I2 ⟨a,sb,B⟩=>?_) (.inr Y);have A:C≠a:=by
  rcases B with rfl|B
  ·exact r
  ·exact WL (c _ _ B)
 refine⟨m,hn.sameBut sb A,λh' Q=>V7 (V7 ?_)⟩;refine⟨σ.set i (b4 (.ref p)),w,I2.turned (t':=s2.toks) (λb o hb e=>(Q.2 b hb).trans e) l r (.inr M) c u,?_⟩;exact k T _ w U R1 ((E.mono U).set i1 i)
end
end L3
namespace L3
open PySem L2
noncomputable def bE:ME:=λ_ _=>c4
noncomputable def nK:MT:=λ_ _=>c4
noncomputable def bP:MS:=λ_ _=>c4
section
variable{X:Cx}{e a b c o:Expr}{m m1 m2 ma mb mc:ME}{pos:XD}{mt mu:MT}{bT es:List Expr}{ms:MA}{n:Nat}
theorem bJ:QE X e bE:=⟨λa5T s σ H Q I h=>by
 obtain⟨p,q,l,d,j,R,E,i,k⟩:=h;cases i⟩
theorem y6:QT X e nK:=⟨λa5T s σ H Q I h=>by
 obtain⟨p,q,l,d,j,R,E,i,k⟩:=h;cases i⟩
theorem Nq:QW X e nK:=⟨λl a5T s σ H Q I h=>by
 obtain⟨q,r,p,d,j,R,E,i,k⟩:=h;cases i⟩
theorem cM{st:Stmt}:QS X st bP:=⟨λa5T s σ H D I h=>by
 obtain⟨q,r,p,l,j,i,R,E,d,k⟩:=h;cases d⟩
theorem uS{g:MG}(p:∀d l j,g d l j=c4):QG X e g:=⟨λa5T s σ H v u Q I r h=>by
 obtain⟨w,l,j,d,q,R,E,hd,i,k⟩:=h;rw[p]at i;cases i⟩
theorem nM(u:QE X e m1)(v:QE X e m2)(h:∀j i r,m j i=b4 r->m1 j i=b4 r\/m2 j i=b4 r):QE X e m:=⟨λa5T s σ H Q I q=>by
 obtain⟨p,j,i,d,l,R,E,w,k⟩:=q;rcases h j i _ w with z|z
 ·exact u.h a5T s σ H Q I ⟨p,j,i,d,l,R,E,z,k⟩
 ·exact v.h a5T s σ H Q I ⟨p,j,i,d,l,R,E,z,k⟩⟩
theorem pF{m m1 m2:MT}(u:QT X e m1)(v:QT X e m2)(h:∀j i r,m j i=b4 r->m1 j i=b4 r\/m2 j i=b4 r):QT X e m:=⟨λa5T s σ H Q I q=>by
 obtain⟨p,j,i,d,l,R,E,w,k⟩:=q;rcases h j i _ w with z|z
 ·exact u.h a5T s σ H Q I ⟨p,j,i,d,l,R,E,z,k⟩
 ·exact v.h a5T s σ H Q I ⟨p,j,i,d,l,R,E,z,k⟩⟩
theorem g8{f k l:D->D->Hm->Option (D×Hm)}(h:∀x y d r,f x y d=b4 r->k x y d=b4 r\/l x y d=b4 r) :
  ∀j d r,aC f ma mb j d=b4 r->aC k ma mb j d=b4 r\/aC l ma mb j d=b4 r:=by
 intro j d r i;obtain⟨p,s,i⟩:=VT.mp i;obtain⟨q,u,i⟩:=VT.mp i;rcases h _ _ _ _ i with z|z
 ·exact .inl (VT.mpr ⟨p,s,VT.mpr ⟨q,u,z⟩⟩)
 ·exact .inr (VT.mpr ⟨p,s,VT.mpr ⟨q,u,z⟩⟩)
theorem pG(h:∀i d r,m i d=b4 r->m1 i d=b4 r\/m2 i d=b4 r):∀i d r,aN m i d=b4 r->aN m1 i d=b4 r\/aN m2 i d=b4 r:=by
 intro i d r j;obtain⟨p,k,j⟩:=VT.mp j;rcases h _ _ _ k with z|z
 ·exact .inl (VT.mpr ⟨p,z,j⟩)
 ·exact .inr (VT.mpr ⟨p,z,j⟩)
noncomputable def y8:List D->Option (List Int)
 |[]=>b4 []|.int i::r=>(y8 r).map (i::·)|_=>c4
noncomputable def fE:D->Option (List Int)
 |.tup ds=>y8 ds|_=>c4
noncomputable def cF(d:List (List Int×D))(k:List Int):Option D:=(d.find? λp=>decide (p.1=k)).map (·.2)
noncomputable def fT(h:List (List Int×D))(k:List Int)(d:D):List (List Int×D):=if(cF h k).isSome then h.map (λp=>if p.1=k then(p.1,d)else p)else h++[(k,d)]
noncomputable def aE:D->D->Hm->Option (D×Hm):=λx y h=>match x with
 |.loc a=>match h[a]? with
  |some (.dT kvs)=>(fE y).bind λk=>(cF kvs k).map λd=>(d,h)|some (.dF kvs)=>(fE y).bind λk=>(cF kvs k).map λd=>(d,h)|_=>gY x y h
 |_=>gY x y h
structure TabOk(X:Cx)(x:Str)(kvs:List (bS×D)):Prop where
 ex:∃(p:Addr)(vs:List (bS×V))(ws:List (bS×Value)),X.mg x=b4 (.ref p)/\(∀h:Xo,X.K.In h->h.DictOf (qT X.prog X.w) p ws)/\KV vs ws/\∀π n H,IsKs X.K π n H vs kvs
theorem DN{a5T:List (Addr×Obj)}{σ:St}{H:Hp}{s:V1}(I:Inv X a5T σ H s){p:Addr}{ob:Obj}(h:X.K.lookup p=b4 ob):H p=none:=(I.bs p ob (I.mod.kin p ob h)).2
theorem DO{K:VU}{π:Nat->Addr}{H:Hp}{j:Hm}(R:Rp K π H j){d:Nat}(r:d<j.length):∃u,H (π d)=b4 u/\(∀vs,u≠.tup vs)/\∀ob v,(∀k,v≠HO.ext k)->u≠.frz ob v:=by
 cases q:j[d]? with
 |none=>exact absurd (XE.mp q) (by omega)|some l=>
  cases l with
  |lst i=>obtain⟨vs,h,_⟩:=R.lst d i q;exact⟨_,h,(λ_ z=>nomatch z),λ_ _ _ z=>nomatch z⟩|dK i=>obtain⟨vs,h,_⟩:=R.dK d i q;exact⟨_,h,(λ_ z=>nomatch z),λ_ _ _ z=>nomatch z⟩|st i=>obtain⟨vs,h,_⟩:=R.st d i q;exact⟨_,h,(λ_ z=>nomatch z),λ_ _ _ z=>nomatch z⟩|dT i=>obtain⟨vs,h,_⟩:=R.dT d i q;exact⟨_,h,(λ_ z=>nomatch z),λ_ _ _ z=>nomatch z⟩|dF i=>obtain⟨ob,vs,h,_⟩:=R.dF d i q;exact⟨_,h,(λ_ z=>nomatch z),λ_ _ n z=>n _ (by cases z;rfl)⟩|exc x p ds=>obtain⟨ob,k,h,_⟩:=R.exc d x p ds q;exact⟨_,h,(λ_ z=>nomatch z),λ_ _ n z=>n _ (by cases z;rfl)⟩|ins x fs=>obtain⟨_,h,_,_,_,rfl,_⟩:=R.ins d x fs q;exact⟨_,h,(λ_ z=>nomatch z),λ_ _ _ z=>nomatch z⟩
section
variable{a5T:List (Addr×Obj)}{σ:St}{H:Hp}{s:V1}{π:Nat->Addr}{μ:Hm}
theorem DP(I:Inv X a5T σ H s)(R:Rp X.K π H μ){i:Nat}(l:i<μ.length){vs:List V}(h:SqT X.K H (π i) vs):False:=by
 obtain⟨u,d,j,k⟩:=DO R l;rcases h with(h|⟨r,h⟩)|⟨r,q,n,p,_⟩
 ·rw[d]at h;exact j _ (Wj h)
 ·rw[d]at h;exact k _ (.tup vs) (λv z=>nomatch z) (Wj h)
 ·rw[DN I p]at d;cases d
theorem DQ(I:Inv X a5T σ H s)(R:Rp X.K π H μ){i:Nat}(k:i<μ.length){vs:List V}(h:RoL X.K H (π i) vs):False:=by
 obtain⟨u,d,r,j⟩:=DO R k;rcases h with⟨q,h⟩|⟨q,p,n,l,_⟩
 ·rw[d]at h;exact j _ (.lst vs) (λv z=>nomatch z) (Wj h)
 ·rw[DN I l]at d;cases d
theorem DR(I:Inv X a5T σ H s){p:Addr}{vs ws:List V}(h:SqT X.K H p vs)(h':RoL X.K H p ws):False:=by obtain⟨i,_,t,_⟩:=I.tuple h;obtain⟨d,_,l,_⟩:=I.list h'.sq;exact absurd rfl (X2 l.isList t)
mutual
theorem DS(I:Inv X a5T σ H s)(R:Rp X.K π H μ){v:V}{d d':D}:IsD X.K π μ.length H v d->IsD X.K π μ.length H v d'->d=d'
 |.non,h'=>by cases h';rfl
 |.bl _,h'=>by cases h';rfl
 |.int _,h'=>by cases h';rfl
 |.str _,h'=>by cases h';rfl
 |.ty _,h'=>by cases h';rfl
 |.tup h t,h'=>by
  cases h' with
  |tup i j=>have:=I.tuple_inj h i;subst this;rw[y9 I R t j]|rol i j=>exact(DR I h i).elim|loc i=>exact(DP I R i h).elim
 |.rol h t,h'=>by
  cases h' with
  |tup i j=>exact(DR I i h).elim|rol i j=>have:=I.list_inj h.sq i.sq;subst this;rw[y9 I R t j]|loc i=>exact(DQ I R i h).elim
 |.loc (a:=a1) ha,h'=>by
  generalize hz:V.ref (π a1)=z at h';cases h' with
  |tup i j=>cases hz;exact(DP I R ha i).elim|rol i j=>cases hz;exact(DQ I R ha i).elim|loc i=>have:=R.inj _ _ ha i (V.ref.inj hz);rw[this]|_=>cases hz
theorem y9(I:Inv X a5T σ H s)(R:Rp X.K π H μ){vs:List V}{ds d:List D}:IsDs X.K π μ.length H vs ds->IsDs X.K π μ.length H vs d->ds=d
 |.nil,h'=>by cases h';rfl
 |.cons h t,h'=>by
  cases h' with
  |cons i j=>rw[DS I R h i,y9 I R t j]
end
end
noncomputable def kT(a:Hm)(x:D):List D->Option Bool
 |[]=>b4 c6|y::r=>(cR 8 a y x).bind λb=>(kT a x r).map λc=>b||c
noncomputable def lW(neg:Bool):D->D->Hm->Option (D×Hm):=λx y a=>(b8 a y).bind λc=>(kT a x c).map λb=>(.bl (if neg then !b else b),a)
noncomputable def zA(K:VU)(neg:Bool):R2:=λx y H Q=>∃π a c d e b,Rp K π H a/\IsD K π a.length H x c/\IsD K π a.length H y d/\b8 a d=b4 e/\kT a c e=b4 b/\Q (.bl (if neg then !b else b)) H
theorem uT{K:VU}{neg:Bool}:cZ K (lW neg) (zA K neg):=by intro c H p x y d m n o Q R i j a k;obtain⟨l,e,a⟩:=VT.mp a;obtain⟨b,h,a⟩:=VZ.mp a;cases a;exact⟨c,_,x,y,l,b,R,i,j,e,h,k c _ H .refl R (.bl _)⟩
theorem uU{a5T:List (Addr×Obj)}{σ:St}{H:Hp}{s:V1}{π:Nat->Addr}{i:Hm}(I:Inv X a5T σ H s)(R:Rp X.K π H i){A:WJ}(Q:A.units+8<Yt){x:V}{v:Value}{m:D}(rx:RelV x v)(Z:IsD X.K π i.length H x m) :
  ∀{e:List D}{vs:List V}{us:List Value}{b:Bool},IsDs X.K π i.length H vs e->Vals vs us->kT i m e=b4 b->
   ∃g:Value->Bool,(∀u∈us,a2Z A s u v (g u))/\us.any g=b:=by
 classical
 intro e vs us b k l d
 have o:∀{e:List D}{vs:List V}{us:List Value}{b:Bool},IsDs X.K π i.length H vs e->Vals vs us->kT i m e=b4 b->(∀u∈us,∃c,a2Z A s u v c/\∃w n,RelV w u/\IsD X.K π i.length H w n/\cR 8 i n m=b4 c):=by
  intro e
  induction e with
  |nil=>
   intro vs us b k l d u a
   cases k
   cases l
   cases a
  |cons y e J=>
   intro vs us b k l d u a
   cases k with
   |cons h t=>
    cases l with
    |cons r rt=>
     obtain⟨c,B,d⟩:=VT.mp d
     obtain⟨M,E,d⟩:=VZ.mp d
     rcases Wr.mp a with rfl|a
     ·exact⟨c,yL I R 8 Q r rx h Z B,_,_,r,h,B⟩
     ·exact J t rt E u a
 have p:=o k l d
 refine⟨λu=>if h:u∈us then a0G (p u h)else c6,λu a=>?_,?_⟩
 ·simp only[dif_pos a]
  exact(a1Q (p u a)).1
 ·have key:∀u (h:u∈us) w n c,RelV w u->IsD X.K π i.length H w n->cR 8 i n m=b4 c->a0G (p u h)=c:=by
   intro u h w n c K Y L
   obtain⟨_,w2,N,r2,U,O⟩:=a1Q (p u h)
   have:w2=w:=r2.inj K
   subst this
   have:=DS I R U Y
   subst this
   rw[O]at L
   exact Wj L
  have q:∀{e:List D}{vs:List V}{j:List Value}{b:Bool},(∀u∈j,u∈us)->IsDs X.K π i.length H vs e->Vals vs j->kT i m e=b4 b->j.any (λu=>if h:u∈us then a0G (p u h)else c6)=b:=by
   intro e
   induction e with
   |nil=>
    intro vs j b G k l d
    cases k
    cases l
    cases d
    rfl
   |cons y e J=>
    intro vs j b G k l d
    cases k with
    |cons h t=>
     cases l with
     |@cons _ u _ us2 r rt=>
      obtain⟨c,B,d⟩:=VT.mp d
      obtain⟨M,E,d⟩:=VZ.mp d
      have lV:u∈us:=G u (WU ..)
      rw[a0F,J (λz T=>G z (Wq _ T)) t rt E,dif_pos lV,key u lV _ _ c r h B]
      exact d
  exact q (λ_ h=>h) k l d
theorem uV{k:Nat}{A:WJ}(r:Room k A):A.units+9<Yt:=by have:=r.un;omega
theorem DT(E:X.A.units+9<Yt):OpR X (Xd .In) (zA X.K c6):=by
 intro l s M H x y v u Q I k z h;obtain⟨L,K,A,B,J,b,R,j,o,m,i,q⟩:=h;obtain⟨p,G,rfl,c,hd⟩:=uN R o m;cases z;rcases c with c|c
 ·obtain⟨a,r,e,n⟩:=I.list c;obtain⟨g,d,g2⟩:=uU I R (A:=X.A.in1) (by rw[nG];omega) k j hd r i;refine SeqAt.in_listAt g e.isList (λw hw=>d w (by simpa using hw)) ⟨.bl _,H,I,rfl,?_⟩;rw[show a.toArray.any g=a.any g by simp,g2];exact q
 ·obtain⟨a,r,e,n⟩:=I.tuple c;obtain⟨g,d,g2⟩:=uU I R (A:=X.A.in1) (by rw[nG];omega) k j hd r i;refine SeqAt.in_tupleAt g e (λw hw=>d w (by simpa using hw)) ⟨.bl _,H,I,rfl,?_⟩;rw[show a.toArray.any g=a.any g by simp,g2];exact q
theorem DU(E:X.A.units+9<Yt):OpR X (Xd .NotIn) (zA X.K c7):=by
 intro l s M H x y v u Q I k z h;obtain⟨L,K,A,B,J,b,R,j,o,m,i,q⟩:=h;obtain⟨p,G,rfl,c,hd⟩:=uN R o m;cases z;rcases c with c|c
 ·obtain⟨a,r,e,n⟩:=I.list c;obtain⟨g,d,g2⟩:=uU I R (A:=X.A.in1) (by rw[nG];omega) k j hd r i;refine SeqAt.notIn_listAt g e.isList (λw hw=>d w (by simpa using hw)) ⟨.bl _,H,I,rfl,?_⟩;rw[show a.toArray.any g=a.any g by simp,g2];exact q
 ·obtain⟨a,r,e,n⟩:=I.tuple c;obtain⟨g,d,g2⟩:=uU I R (A:=X.A.in1) (by rw[nG];omega) k j hd r i;refine SeqAt.notIn_tupleAt g e (λw hw=>d w (by simpa using hw)) ⟨.bl _,H,I,rfl,?_⟩;rw[show a.toArray.any g=a.any g by simp,g2];exact q
noncomputable def cX(neg:Bool):D->D->Hm->Option (D×Hm)
 |.str i,.str j,μ=>b4 (.bl (if neg then !(!(XH j i 0 j.length 1).isEmpty)else !(XH j i 0 j.length 1).isEmpty),μ)|x,.loc a,μ=>match μ[a]? with
  |some (.dT kvs)=>(fE x).map λk=>(.bl (if neg then !(cF kvs k).isSome else(cF kvs k).isSome),μ)|some (.dF kvs)=>(fE x).map λk=>(.bl (if neg then !(cF kvs k).isSome else(cF kvs k).isSome),μ)|_=>lW neg x (.loc a) μ
 |x,y,μ=>lW neg x y μ
noncomputable def zB:D->D->Hm->Option (D×Hm)
 |.str i,.str j,μ=>b4 (.bl (!(!(XH j i 0 j.length 1).isEmpty)),μ)|_,_,_=>c4
theorem DV{K:VU}:cZ K zB (λx y H Q=>∃i j,x=.str i/\y=.str j/\Q (.bl (!(!(XH j i 0 j.length 1).isEmpty))) H):=by
 intro h H n x y d e l m Q R b c a k;unfold zB at a;split at a
 ·cases a;cases b;cases c;exact⟨_,_,rfl,rfl,k h _ H .refl R (.bl _)⟩
 ·cases a
noncomputable def jR(neg:Bool):D->D->Hm->Option (D×Hm)
 |x,.non,μ=>b4 (.bl (match x with|.non=>!neg|_=>neg),μ)|_,_,_=>c4
theorem DW{K:VU}:cZ K (jR c6) (λx y H Q=>y=.non/\Q (.bl (decide (x=.non))) H):=by
 intro h H l x y d e i j Q R b c a k;unfold jR at a;split at a
 ·cases a;cases c;refine⟨rfl,?_⟩;cases b<;>exact k h _ H .refl R (.bl _)
 ·cases a
theorem DX{K:VU}:cZ K (jR c7) (λx y H Q=>y=.non/\Q (.bl (!decide (x=.non))) H):=by
 intro h H l x y d e i j Q R b c a k;unfold jR at a;split at a
 ·cases a;cases c;refine⟨rfl,?_⟩;cases b<;>exact k h _ H .refl R (.bl _)
 ·cases a
theorem Nr(c:QE X a ma)(d:QE X b mb):QE X (.Compare a [.Is] [b] pos) (aC (jR c6) ma mb):=⟨fB B5 DW c.h d.h (dH _)⟩
theorem Nt(c:QE X a ma)(d:QE X b mb):QE X (.Compare a [.IsNot] [b] pos) (aC (jR c7) ma mb):=⟨fB B6 DX c.h d.h (dH _)⟩
theorem Nu(c:QE X a ma)(d:QE X b mb):QT X (.Compare a [.Is] [b] pos) (aN (aC (jR c6) ma mb)):=⟨fC B5 DW c.h d.h (dH _)⟩
theorem Nv(c:QE X a ma)(d:QE X b mb):QT X (.Compare a [.IsNot] [b] pos) (aN (aC (jR c7) ma mb)):=⟨fC B6 DX c.h d.h (dH _)⟩
end
end L3
namespace L3
open PySem L2
section
variable{X:Cx}{e a b c o:Expr}{m m1 m2 ma mb mc mo:ME}{pos apos cpos:XD}{mt mu:MT}{bT es:List Expr}{ms:MA}{n:Nat}
noncomputable def jS(d:Hm):D->Bool
 |.rol _=>c7|.loc a=>match d[a]? with|some (.lst _)=>c7|_=>c6
 |_=>c6
noncomputable def dJ(f:D->List D->Hm->Option (D×Hm))(mo:ME)(ms:MA):ME:=λd h=>(mo d h).bind λp=>match jS p.2 p.1 with
 |true=>(ms d p.2).bind λq=>f p.1 q.1 q.2|false=>c4
noncomputable def hJ(K:VU)(f:D->List D->Hm->Option (D×Hm))(r:V->List V->Hp->VK->Prop):Prop:=
 ∀j H h x l d i v k Q,Rp K j H h->IsD K j h.length H v x->IsDs K j h.length H k l->f x l h=b4 (d,i)->KC K Q j h.length H d i->r v k H Q
theorem DY{K:VU}{π:Nat->Addr}{H:Hp}{d:Hm}{v:V}{x:D}(R:Rp K π H d)(h:IsD K π d.length H v x)(e:jS d x=c7):uD K "list" v H:=by
 cases h with
 |rol h t=>exact .inl ⟨rfl,_,h.sq⟩|@loc a p=>
  simp only[jS]at e;split at e
  ·rename_i l j;obtain⟨k,i,_⟩:=R.lst a l j;exact .inl ⟨rfl,k,.of i⟩
  ·cases e
 |_=>cases e
theorem Nw{K:VU}{f:D->List D->Hm->Option (D×Hm)}{r:V->List V->Hp->VK->Prop}(I:hJ K f r):∀σ H Q,tM K (dJ f mo ms) σ H Q->CG K "list" r (tM K mo) (eT K ms) σ H Q:=by
 rintro σ H Q ⟨T,z,O,d,l,R,E,h,k⟩;obtain⟨⟨x,i⟩,B,h⟩:=VT.mp h;dsimp only at h;split at h
 ·rename_i J;obtain⟨⟨y,j⟩,G,h⟩:=VT.mp h;refine⟨T,z,O,x,i,R,E,B,λp M U u s w=>⟨DY s w J,p,z,i,y,j,s,E.mono u,G,λq N A v R2 L=>?_⟩⟩;exact I q A j x y d l M N Q R2 (w.mono v) L h (k.after (u.trans v))
 ·cases h
theorem Nx{K:VU}{f:D->List D->Hm->Option (D×Hm)}{r:V->List V->Hp->VK->Prop}(y:hJ K f r):∀σ H Q,tM K (dJ f mo aD) σ H Q->CF K "list" r (tM K mo) σ H Q:=by
 rintro σ H Q ⟨I,J,B,d,j,R,E,h,k⟩;obtain⟨⟨x,i⟩,v,h⟩:=VT.mp h;dsimp only at h;split at h
 ·rename_i z;obtain⟨⟨L,G⟩,w,h⟩:=VT.mp h;cases w;refine⟨I,J,B,x,i,R,E,v,λl A s u p q=>⟨DY p q z,?_⟩⟩;exact y l s i x [] d j A [] Q p q .nil h (k.after u)
 ·cases h
noncomputable def dE:Expr->Bool
 |.Call (.Name _ _) [] [] _=>c6|_=>c7
theorem iZ{o:Expr}{j:Str}{env:ZS}{d:a3x Value}(h:dE o=c7):Yx o j env d=d:=by
 cases o with
 |Call f i k p=>
  cases f with
  |Name id q=>
   cases i with
   |nil=>
    cases k with
    |nil=>cases h|cons _ _=>rfl
   |cons _ _=>rfl
  |_=>rfl
 |_=>rfl
theorem DZ{e:Expr}{es:List Expr}{env:ZS}{cpos:XD}(h:(e::es).all b9=c7)(j:(e::es).length<30) :
  ((XM cpos (Wn (e::es) env)).all (λx=>!x.1)&&(Yu cpos (XJ [] env)).all (λx=>x.1.isSome)
   && decide ((e::es).length+([]:List YE).length+(if([]:List YE).isEmpty then 0 else 1)<30))=true:=by
 have d:(XM cpos (Wn (e::es) env)).all (λx=>!x.1)=true:=by have:=eC (pos:=cpos) (env:=env) h;rw[Z9];simpa using this
 rw[d];have i:(e::es).length+([]:List YE).length+(if([]:List YE).isEmpty then 0 else 1)<30:=by show(e::es).length+0+0<30;omega
 rw[decide_eq_true i];rfl
theorem D0{f:D->List D->Hm->Option (D×Hm)}{r:V->List V->Hp->VK->Prop}{name:Str}{id:String}(i:a5a "list" name id) (j:a1T (.builtin id)=pure (.type "method_descriptor")) (q:iT X id r)(l:hJ X.K f r)
  (u:QE X o mo)(k:QA X (e::es) ms n)(v:dE o=c7)(p:(apos.endLine==cpos.line)=c7)(s:(e::es).length<30):QE X (.Call (.Attribute o name apos) (e::es) [] cpos) (dJ f mo ms):=by
 have h:=k.s;have d:=h;rw[WN,VW]at d;exact⟨cN (Ko a1N i j q u.h k.h (iZ v) (DZ h s) p (c9 d.1) (eC d.2)) (Nw l)⟩
theorem Ny{f:D->List D->Hm->Option (D×Hm)}{r:V->List V->Hp->VK->Prop}{name:Str}{id:String}(d:a5a "list" name id) (h:a1T (.builtin id)=pure (.type "method_descriptor")) (k:iT X id r)(i:hJ X.K f r)
  (l:QE X o mo)(p:dE o=c7)(j:(apos.endLine==cpos.line)=c7):QE X (.Call (.Attribute o name apos) [] [] cpos) (dJ f mo aD):=
 ⟨cN (Kn a1N d h k l.h (iZ p) j) (Nx i)⟩
noncomputable def fF:D->List D->Hm->Option (D×Hm)
 |.loc a,[y],μ=>(oY μ a y).map λd=>(.non,d)|_,_,_=>c4
noncomputable def pH:D->List D->Hm->Option (D×Hm)
 |.loc a,[.loc b],μ=>match μ[a]?,μ[b]? with
  |some (.lst xs),b4 (.lst ys)=>if xs.length+ys.length<=Wb then b4 (.non,μ.set a (.lst (xs++ys)))else c4|_,_=>c4
 |_,_,_=>c4
noncomputable def jT:D->List D->Hm->Option (D×Hm)
 |.loc a,[],μ=>match μ[a]? with
  |some (.lst xs)=>(xs[xs.length-1]?).map λy=>(y,μ.set a (.lst xs.dropLast))|_=>c4
 |_,_,_=>c4
theorem Nz{K:VU}{π:Nat->Addr}{n:Nat}{H:Hp}{vs:List V}{ds:List D}(h:IsDs K π n H vs ds):IsDs K π n H vs.reverse ds.reverse:=by
 induction ds generalizing vs with
 |nil=>cases h;exact .nil|cons d ds i=>
  cases h with
  |cons h t=>rw[ZX,ZX];exact(i t).append (.cons h .nil)
theorem NA{K:VU}{π:Nat->Addr}{n:Nat}{H:Hp}{vs:List V}{ds:List D}(h:IsDs K π n H vs ds):IsDs K π n H vs.dropLast ds.dropLast:=by rw[a2R,a2R,h.length];exact h.take _
theorem NB{K:VU}:hJ K fF CJ:=by
 intro J H N x M d G v L Q R B j i k;unfold fF at i;split at i
 ·rename_i a y;obtain⟨I,h,i⟩:=VZ.mp i;cases i;unfold oY at h;split at h
  ·rename_i s r;split at h
   ·rename_i z;cases h;obtain⟨l,p,q⟩:=R.lst a s r;cases B;cases j with
    |cons E A=>cases A;obtain⟨w,u⟩:=R.put (a:=a) (c:=.lst (s++[y])) (o:=.lst (l++[_])) (VY.mp r).1 p (.inl ⟨l,rfl⟩) (q.append (.cons E .nil));exact⟨_,l,_,rfl,rfl,p,by rw[q.length];exact z,k J _ _ w u .non⟩
   ·cases h
  ·cases h
 ·cases i
theorem NC{K:VU}:hJ K pH CL:=by
 intro M H T x O d L v N Q R I i h k;unfold pH at h;split at h
 ·rename_i a b;split at h
  ·rename_i w u r E;split at h
   ·rename_i B;cases h;obtain⟨j,l,p⟩:=R.lst a w r;obtain⟨s,A,q⟩:=R.lst b u E;cases I;cases i with
    |cons J G=>cases G;cases J;obtain⟨z,y⟩:=R.put (a:=a) (c:=.lst (w++u)) (o:=.lst (j++s)) (VY.mp r).1 l (.inl ⟨j,rfl⟩) (p.append q);exact⟨_,_,j,s,rfl,rfl,l,A,by rw[p.length,q.length];exact B,k M _ _ z y .non⟩
   ·cases h
  ·cases h
 ·cases h
theorem ND{K:VU}:hJ K jT CM:=by
 intro I H M x L d G v J Q R E j h k;unfold jT at h;split at h
 ·rename_i a;split at h
  ·rename_i s r;obtain⟨y,z,h⟩:=VZ.mp h;cases h;obtain⟨l,q,i⟩:=R.lst a s r;cases E;cases j;obtain⟨w,A,B⟩:=i.get z;obtain⟨p,u⟩:=R.put (a:=a) (c:=.lst s.dropLast) (o:=.lst l.dropLast) (VY.mp r).1 q (.inl ⟨l,rfl⟩) (NA i);refine⟨_,l,w,rfl,rfl,q,by rw[i.length];exact A,k I w _ p u (B.mono p)⟩
  ·cases h
 ·cases h
noncomputable def pI(d:Hm):D->Option Bool
 |.non=>b4 c6|.bl b=>b4 b|.int i=>b4 (i != 0)|.str z=>if z.length<=Wb then b4 ((z.length:Int) != 0)else c4|.tup xs=>b4 (!xs.isEmpty)|.rol xs=>b4 (!xs.isEmpty)|.loc a=>match d[a]? with|some (.lst xs)=>b4 (!xs.isEmpty)|some (.dK kvs)=>b4 (!kvs.isEmpty)|_=>c4
 |.ty _=>c4
theorem uW{i j:Type}{xs:List i}{d:List j}(h:xs.length=d.length):xs.isEmpty=d.isEmpty:=by cases xs<;>cases d<;>first|rfl|cases h
theorem NF{K:VU}{π:Nat->Addr}{H:Hp}{q:Hm}{v:V}{x:D}{b:Bool}(R:Rp K π H q)(h:IsD K π q.length H v x)(e:pI q x=b4 b):xR K v H b:=by
 cases h with
 |non=>cases e;rfl|bl c=>cases e;rfl|int i=>cases e;rfl|str z=>
  simp only[pI]at e;split at e
  ·rename_i r;cases e;exact⟨r,rfl⟩
  ·cases e
 |tup h t=>cases e;exact .inr (.inl ⟨_,h,by rw[uW t.length]⟩)|rol h t=>cases e;exact .inl ⟨_,h.sq,by rw[uW t.length]⟩|@loc a u=>
  simp only[pI]at e;split at e
  ·rename_i s k;cases e;obtain⟨p,d,j⟩:=R.lst a s k;exact .inl ⟨p,.of d,by rw[uW j.length]⟩
  ·rename_i l k;cases e;obtain⟨p,d,j,_⟩:=R.dK a l k;refine .inr (.inr ⟨p,d,?_⟩);have:=congrArg WY j;rw[V0,V0]at this;rw[uW this]
  ·cases e
 |ty n=>cases e
noncomputable def cA(m:ME):MT:=λh d=>(m h d).bind λp=>(pI p.2 p.1).map λb=>(b,p.2)
theorem NG(h:QE X e m)(s:rP e=c7):QT X e (cA m):=⟨rD (Jx h.h (DG s)) (by
 rintro I H Q ⟨z,A,v,b,w,R,E,d,k⟩;obtain⟨⟨x,y⟩,q,d⟩:=VT.mp d;obtain⟨B,r,d⟩:=VZ.mp d;cases d;exact⟨z,A,v,x,_,R,E,q,λi G l p j u=>⟨_,NF j u r,k i l p j⟩⟩)⟩
theorem NH{k:Nat}{f:Addr}{l:W8}{ps:List Str}{q:MF}{x:Str}{p:XD}(F:FnOk X.prog X.w X.K X.mg X.base dB k f l ps (cT X.K 0 q))(w:Room k X.A)(h:X.mg x=b4 (.ref f))
  (v:Xe X.K (.ref f)=c7)(s:Binds X.K l ps [])(u:Gl X x)(i:(x==("__debug__":Str))=c6):QE X (.Call (.Name x p) [] [] pos) (aH q aD):=
 ⟨cN (JT F w u h v s .nil (E:=E0) nB i) (by
  rintro I H Q ⟨A,G,y,d,j,R,E,h,k⟩;obtain⟨⟨B,z⟩,r,h⟩:=VT.mp h;cases r;exact⟨rfl,A,[],y,d,j,R,.nil,h,k⟩)⟩
theorem NI:QS X (.Return c4 pos) (a6 (mC .non)):=⟨jO IT (by
 rintro E s H ⟨i,r,q,p,j,h,R,l,d,k⟩;cases d;exact k i .non H .refl R .non)⟩
end
end L3
namespace L3
open PySem L2
section
variable{X:Cx}
end
end L3
namespace L3
open PySem L2
open PyProof.Rows (IntsAre)
open PySem.W (KasT kas_asc kas_desc kas_tail3 kas_descPart kas_count kas_place kas_bin kas_sort kas_rev kas_ask)
section
variable{X:Cx}{a5T:List (Addr×Obj)}{σ:St}{H:Hp}{s:V1}
theorem NJ{P:Wv}{w:WO}{H:Hp}{h:Xo}{a:Addr}{o:HO}(x:ObjOk P w H h a o):∃ob,h.get? a=b4 ob:=by
 cases o with
 |lst c=>obtain⟨_,_,_,_,e⟩:=x;exact⟨_,e⟩|tup c=>obtain⟨_,_,_,ob,e,_⟩:=x;exact⟨_,e⟩|dK b=>obtain⟨_,_,_,_,o,_,_,e,_⟩:=x;exact⟨_,e⟩|dT b=>obtain⟨_,_,_,_,o,_,_,e,_⟩:=x;exact⟨_,e⟩|set S n=>obtain⟨o,_,_,_,e,_⟩:=x;exact⟨_,e⟩|ins C d fs=>obtain⟨_,_,_,e,_⟩:=x;exact⟨_,e⟩|own y=>exact x|xd fs=>obtain⟨_,⟨_,_,_,e,_⟩,_⟩:=x;exact⟨_,e⟩|rng j i=>obtain⟨_,_,_,e⟩:=x;exact⟨_,e⟩|frz ob u=>exact⟨_,x.1⟩|tbl k=>exact⟨_,x⟩|met f y=>exact⟨_,x⟩|ext l=>exact x.2.1
end
section
open PyProof.Rows
variable{prog:Wv}{w:WO}{A:WJ}{E:Value->V1->Prop}{s:V1}
end
end L3
namespace L3
open PySem L2 PySem.Spec PyProof.Rows
structure XRec(h:Xo)(e:Addr)(cls:Value)(dc:Option Addr)(T:Option (Addr×Value)):Prop where
 ob:∃o vs,h.get? e=b4 o/\o.cls=cls/\o.dict=dc/\o.data=.fields vs/\vs[1]?=b4 (match T with|none=>Xg|some p=>.ref p.1)/\vs[2]?=b4 Xg
 tb:∀p,T=b4 p->p.1≠e/\∃oT ts,h.get? p.1=b4 oT/\oT.data=.fields ts/\ts[3]?=b4 p.2
structure XKept(fs:List Addr)(e:Addr)(T:Option (Addr×Value))(h h':Xo):Prop where
 keep:∀b o,h.get? b=b4 o->b≠e->(∀p,T=b4 p->b≠p.1)->b∉fs->h'.get? b=b4 o
 slot:∀b o,h.get? b=b4 o->b≠e->(∀p,T=b4 p->b≠p.1)->∃sl,h'.get? b=b4 {o with slots:=sl}
theorem NK(o:Obj) (f):(o.mapFields f).dict=o.dict:=by
 cases o with
 |mk c d a b=>cases a<;>rfl
section
variable{M:a2l}{A:WJ}{E:Value->V1->Prop}{s:V1}{base:Xo}{env:ZS}{outer:List ZS}{L e:Addr}{cls:Value}{dc:Option Addr}
theorem XRec.noFrame{h:Xo}{T:Option (Addr×Value)}{l:List ZS}(x:XRec h e cls dc T)(d:h.FunFrames base l):e∉dS l/\∀p,T=b4 p->p.1∉dS l:=by
 obtain⟨o,r,j,_,_,k,_,_⟩:=x.ob;refine⟨λc=>?_,λp m c=>?_⟩
 ·obtain⟨_,n,a,b⟩:=d.mem c;rw[j]at a;cases a;exact b r k
 ·obtain⟨_,u,q,i,g2,_⟩:=x.tb p m;obtain⟨_,n,a,b⟩:=d.mem c;rw[i]at a;cases a;exact b q g2
theorem D1{T:Option (Addr×Value)}{hd:Value}{nx:Bool}{Q:Unit->V1->Prop}(j:A.frames=b4 (env::outer))(v:s.heap.FunFrames base (env::outer))(O:env.frame=b4 L)(x:XRec s.heap e cls dc T)
  (k:∀d m,XRec d e cls dc (b4 (m,Zl L))->s.heap.objs.size<=m->XKept (dS (env::outer)) e T s.heap d->Q () {s with heap:=d}) :
  Wm M A (do a2G (.ref e) 1 (<- a2h hd (<- frameOf env) .none (Zl L) .none (<- entryPlaceOf L nx))) Q E s:=by
 obtain⟨o,X,H,g2,I,u,J,K⟩:=x.ob;have y:1<X.size:=(XN.mp J).1;have ne:=(x.noFrame v).1;refine VX (wpAny_frameOf_fun j v O λa c=>?_);refine VX (wpAny_entryPlaceOf λG w=>?_);unfold a2h newFields;refine VX (X9 ?_ (w.sizeOk5 _ _ _ _ _));have q:a.get? e=b4 o:=(c.2.1 e ne).trans H;generalize hob:({cls:=.type "traceback",dict:=c4,data:=.fields ([hd,.ref L,.none,Zl L,.none]++(if G.isEmpty then WH 6 Xg else G)).toArray}:Obj)=tb;have r:(a.push tb).get? e=b4 o:=V8 _ q;refine Zy r u y (k _ a.objs.size ?_ ?_ ?_)
 ·have z:a.objs.size≠e:=ZL (Wi q);have n:=Zd u (·.setIfInBounds 1 (Wg a.objs.size));refine⟨⟨_,_,Yd _ r (Zw n),by rw[a3V];exact g2,?_,n,by simp[y],by simp[K]⟩,λp l=>?_⟩
  ·rw[<- I,NK]
  ·cases l;refine⟨z,tb,_,?_,by rw[<- hob],?_⟩
   ·rw[XR _ _ (WL z)];exact Ws _ (by rw[<- hob];rfl)
   ·first|(simp;done)|(rcases w with rfl|⟨_,_,_,_,_,_,_,rfl⟩<;>simp)
 ·rw[c.1];exact Wa _
 ·refine⟨λb B i h _ N=>?_,λb B i h _=>?_⟩
  ·rw[XR _ _ (WL h)];exact V8 _ ((c.2.1 b N).trans i)
  ·obtain⟨U,R⟩:=c.2.2 b B i;refine⟨U,?_⟩;rw[XR _ _ (WL h)];exact V8 _ R
theorem D2{T:Option (Addr×Value)}{Q:Unit->V1->Prop}(i:∀p,T=b4 p->p.2=.none\/p.2=Zl L)(l:A.frames=b4 (env::outer))(I:s.heap.FunFrames base (env::outer))(H:env.frame=b4 L)(x:XRec s.heap e cls dc T)
  (k:∀h d,XRec h e cls dc (b4 (d,Zl L))->(s.heap.objs.size<=d\/∃p,T=b4 p/\d=p.1)->XKept (dS (env::outer)) e T s.heap h->Q () {s with heap:=h}):Wm M A (a1Y (.ref e) env) Q E s:=by
 obtain⟨o,Z,w,g2,U,y,B,X⟩:=x.ob;unfold a1Y;simp only[H];refine VX (ZK w y B ?_);cases T with
 |none=>rw[if_neg (by decide)];exact D1 l I H x λh d O K u=>k h d O (.inl K) u|some p=>
  obtain⟨N,oT,Y,n,r,v⟩:=x.tb p rfl;rw[if_pos (show(Wg p.1 != Xg)=c7 by simp)];refine VX (ZK n r v ?_);rcases i p rfl with i|i;case inr=>rw[i,if_pos (beq_self_eq_true _)];exact V7 (k s.heap p.1 ⟨⟨o,Z,w,g2,U,y,B,X⟩,λq J=>by cases J;exact⟨N,oT,Y,n,r,by rw[<- i];exact v⟩⟩ (.inr ⟨p,rfl,rfl⟩) ⟨λb o c _ _ _=>c,λb o c _ _=>⟨o.slots,c⟩⟩)
  rw[i,if_neg (show ¬ (Xg==Zl L)=c7 by simp[Zl])];refine VX (Zy n r (XN.mp v).1 ?_);have a:∀b,b≠p.1->(s.heap.update p.1 (a0J (·.setIfInBounds 3 Xg))).get? b=s.heap.get? b:=λb c=>XR _ _ (WL c);have nfr:=(x.noFrame I).2 p rfl;refine D1 (T:=b4 p) l (I.of_keeps λb m c nf=>⟨m,(a b λz=>by rw[z,n]at c;cases c;exact nf Y r).trans c,rfl⟩) H ⟨⟨o,Z,(a e (WL N)).trans w,g2,U,y,B,X⟩,λq J=>?_⟩ λh d O K u=>k h d O (.inl (by simpa using K)) ⟨λb m c G j h3=>?_,λb m c G j=>?_⟩
  ·cases J;have R:=Zd r (·.setIfInBounds 3 Xg);exact⟨N,_,_,Yd _ n (Zw R),R,by rw[i];simp[(XN.mp v).1]⟩
  ·exact u.keep b m ((a b (j p rfl)).trans c) G j h3
  ·exact u.slot b m ((a b (j p rfl)).trans c) G j
theorem rQ{h:Xo}{b:Addr}{o:Obj}{T:Option (Addr×Value)}{a:Addr}(c:h.get? b=b4 o)(i:∀p,T=b4 p->b≠p.1)(z:h.objs.size<=a\/∃p,T=b4 p/\a=p.1):b≠a:=by
 rcases z with z|⟨p,d,rfl⟩
 ·exact WB (Wy (Wi c) z)
 ·exact i p d
theorem zC{T:Addr}{q:Value}{Q:Unit->V1->Prop}(x:XRec s.heap e cls dc (b4 (T,q)))(k:∀h',XRec h' e cls dc (b4 (T,.none))->h'.objs.size=s.heap.objs.size->(∀b,b≠T->h'.get? b=s.heap.get? b)->Q () {s with heap:=h'}) :
  Wm M A (a1U (.ref e) c4) Q E s:=by
 obtain⟨o,y,d,g2,r,h,i,u⟩:=x.ob;obtain⟨j,z,B,l,m,n⟩:=x.tb _ rfl;unfold a1U;refine VX (ZK d h i ?_);rw[if_pos (show(Wg T != Xg)=c7 by simp)];have a:∀b,b≠T->(s.heap.update T (a0J (·.setIfInBounds 3 Xg))).get? b=s.heap.get? b:=λb v=>XR _ _ (WL v);have c:=Zd m (·.setIfInBounds 3 Xg);refine Zy l m (XN.mp n).1 (k _ ⟨⟨o,y,(a e (WL j)).trans d,g2,r,h,i,u⟩,λp w=>?_⟩ (by simp) a);cases w;exact⟨j,_,_,Yd _ l (Zw c),c,by simp[(XN.mp n).1]⟩
theorem NL{T:Option (Addr×Value)}{Q:Unit->V1->Prop}(w:∀p,T=b4 p->p.2=.none\/p.2=Zl L)(i:A.frames=b4 (env::outer))(z:s.heap.FunFrames base (env::outer))(y:env.frame=b4 L)(x:XRec s.heap e cls dc T)
  (k:∀h d,XRec h e cls dc (b4 (d,.none))->(s.heap.objs.size<=d\/∃p,T=b4 p/\d=p.1)->XKept (dS (env::outer)) e T s.heap h->Q () {s with heap:=h}):Wm M A (a4P env (.ref e)) Q E s:=by
 unfold a4P;refine VX (D2 w i z y x λr q H l m=>?_);refine zC (s:={s with heap:=r}) H λu I _ n=>k u q I l ⟨λb o a j c B=>?_,λb o a j c=>?_⟩
 ·rw[n b (rQ a c l)];exact m.keep b o a j c B
 ·obtain⟨G,v⟩:=m.slot b o a j c;refine⟨G,?_⟩;rw[n b (rQ a c l)];exact v
end
end L3
namespace L3
open PySem L2 PySem.Spec PyProof.Rows
structure Ex(X:Cx)(a5T:List (Addr×Obj))(H:Hp)(s:V1)(e:Addr)(cls:Value)(dc:Option Addr)(T:Option (Addr×Value)):Prop where
 rc:XRec s.heap e cls dc T
 hT:∀p,T=b4 p->p.2=.none\/∃L,X.env.frame=b4 L/\p.2=Zl L
 lo:X.s₀.heap.get? e=c4/\∀p,T=b4 p->X.s₀.heap.get? p.1=c4
 fr:H e=c4/\∀p,T=b4 p->H p.1=c4
 pn:∀q∈X.pn++a5T,q.1≠e/\∀p,T=b4 p->q.1≠p.1
noncomputable def dX(P:Wv)(w:WO):gU:=λouter H s E e a=>∃b H' cls c T,e=.ref b/\a.os=s.os/\a0d a.gens/\Un (dS outer) [] H H' s.heap a.heap/\HOk P w H' a.heap /\
 XRec a.heap b cls c (b4 (T,.none))/\s.heap.get? b=c4/\s.heap.get? T=c4/\H' b=c4/\H' T=c4/\E cls c H'
section
variable{X:Cx}{a5T:List (Addr×Obj)}{σ:L2.St}{H H':Hp}{s s':V1}{e:Addr}{cls:Value}{dc:Option Addr}{T:Option (Addr×Value)}
theorem XKept.hok{P:Wv}{w:WO}{h h':Xo}{fs:List Addr}(k:XKept fs e T h h')(ok:HOk P w H h)(l:H e=c4)(j:∀p,T=b4 p->H p.1=c4)(m:∀b∈fs,H b=c4):HOk P w H h':=λb u q=>by
 have ne:∀c v,H c=b4 v->c≠e/\(∀p,T=b4 p->c≠p.1)/\c∉fs:=λc v hc=>⟨(λz=>by rw[z,l]at hc;cases hc),(λp n z=>by rw[z,j p n]at hc;cases hc),(λz=>by rw[m c z]at hc;cases hc)⟩;refine(ok b u q).stay (λc v hc g=>?_) (λ_ g=>g) λ_ _ g=>g;rcases hc with rfl|hc
 ·obtain⟨a,d,i⟩:=ne c u q;exact k.keep c v g a d i
 ·obtain⟨a,d,i⟩:=ne c _ hc;exact k.keep c v g a d i
theorem rR{E:XK}{v:Value}(k:X.ex=[])(I:Inv X a5T σ H s)(h:dX X.prog X.w X.stack H s E v s'):∃e H' cls dc T,v=.ref e/\Inv X a5T σ H' s'/\Ex X a5T H' s' e cls dc (b4 (T,.none))/\E cls dc H':=by
 obtain⟨e,H',cls,dc,T,rfl,y,i,un,hok,A,l,m,n,r,u⟩:=h;have j:∀a,s.heap.get? a=c4->X.s₀.heap.get? a=none:=λa w=>by
  cases q:X.s₀.heap.get? a with
  |none=>rfl|some o=>obtain⟨B,g⟩:=I.base.there a o q (by rw[k];simp);rw[w]at g;cases g
 refine⟨e,H',cls,dc,T,rfl,I.call' (ch:=[]) y un hok i (λb z=>absurd z (by simp)),⟨A,(λp d=>by cases d;exact .inl rfl),⟨j e l,(λp d=>by cases d;exact j T m)⟩,⟨n,(λp d=>by cases d;exact r)⟩,λq x=>?_⟩,u⟩;have c:=(I.pin q x).1;exact⟨(λz=>by rw[z,l]at c;cases c),(λp d z=>by cases d;rw[z,m]at c;cases c)⟩
theorem D3{ch:List Addr}(I:Inv X a5T σ H s)(k:X.ex=[])(n:∀b∈ch,X.s₀.heap.get? b=c4)(p:∀b∈ch,∃o vs,s.heap.get? b=b4 o/\o.data=.fields vs):Inv {X with ex:=ch} a5T σ H s:=by
 have i:∀b o,X.s₀.heap.get? b=b4 o->b∉ch:=λb o a z=>by rw[n b z]at a;cases a
 have o:=I.ok;refine⟨⟨o.mod,o.kind,o.glob,o.blt,o.above,o.inj,o.has,o.cab,o.hd,o.frames,o.stk,λb a=>?_,o.bs,o.bsz,λb j a=>i b j (o.bs b j a).1,λb a q=>?_,o.funs,o.frf⟩,I.os,I.bare,?_,I.loc,I.cell,I.free,I.freeC,I.pin,I.hok,I.len⟩
 ·obtain⟨j,vs,l,g2⟩:=p b a;refine⟨λz=>?_,λy c hc z=>?_⟩
  ·obtain⟨m,⟨x,w,r,d,h,_⟩,_⟩:=I.loc;have z:b=X.env.locals:=z;rw[<- z,l]at d;cases d;rw[g2]at h;cases h
  ·obtain⟨v,A,d,h⟩:=I.cell y c hc;rw[z,l]at d;cases d;rw[g2]at h;cases h
 ·obtain⟨_,j,d,_⟩:=o.funs.mem q;exact i b j d a
 ·have u:=I.base;rw[k]at u;exact u.mono (λ_ z=>z) (by simp)
theorem D4{ch:List Addr}(I:Inv {X with ex:=ch} a5T σ H s)(h:X.ex=[])(j:∀b∈ch,X.s₀.heap.get? b=c4):Inv X a5T σ H s:=by
 have d:∀b o,X.s₀.heap.get? b=b4 o->b∉ch:=λb o a z=>by rw[j b z]at a;cases a
 have o:=I.ok;have u:=I.base;refine⟨⟨o.mod,o.kind,o.glob,o.blt,o.above,o.inj,o.has,o.cab,o.hd,o.frames,o.stk,(by rw[h];intro b z;cases z),o.bs,o.bsz,(by rw[h];intro b _ _ z;cases z),(by rw[h];intro b z;cases z),o.funs,o.frf⟩,I.os,I.bare,?_,I.loc,I.cell,I.free,I.freeC,I.pin,I.hok,I.len⟩;exact⟨λb c a n i _=>u.keep b c a n i (d b c a),λb c a n i _=>u.slot b c a n i (d b c a),λb c a n _=>u.free b c a n (d b c a),λb c a _=>u.there b c a (d b c a),u.tups,u.frzs,u.tbls⟩
noncomputable def nN(e:Addr)(T:Option (Addr×Value)):List Addr:=e::(match T with|none=>[]|some p=>[p.1])
theorem mem_ch{b:Addr}:b∈nN e T↔b=e\/∃p,T=b4 p/\b=p.1:=by
 unfold nN;cases T with
 |none=>simp|some p=>simp
theorem Ex.kept(h:X.ex=[])(I:Inv X a5T σ H s)(x:Ex X a5T H s e cls dc T){h':Xo}(k:XKept (dS X.stack) e T s.heap h'):Inv X a5T σ H {s with heap:=h'}:=by
 have r:∀b∈nN e T,X.s₀.heap.get? b=none:=λb a=>by
  rcases mem_ch.mp a with rfl|⟨p,d,rfl⟩
  ·exact x.lo.1
  ·exact x.lo.2 p d
 have E:∀b∈nN e T,∃o l,s.heap.get? b=b4 o/\o.data=.fields l:=λb a=>by
  rcases mem_ch.mp a with rfl|⟨p,d,rfl⟩
  ·obtain⟨o,l,j,_,_,B,_,_⟩:=x.rc.ob
   exact⟨o,l,j,B⟩
  ·obtain⟨_,N,O,j,g2,_⟩:=x.rc.tb p d
   exact⟨N,O,j,g2⟩
 have ne:∀b,b∉nN e T->b≠e/\∀p,T=b4 p->b≠p.1:=λb a=>⟨λz=>a (mem_ch.mpr (.inl z)),λp d z=>a (mem_ch.mpr (.inr ⟨p,d,z⟩))⟩
 have i:=D3 I h r E
 have w:=i.step (H':=H) (h':=h') (g':=s.gens) (d':=s.drawn) (t':=s.toks) (ch:=nN e T) (λb a=>⟨.inl a,(i.ok.exf b a).1,(i.ok.exf b a).2,λq u=>?_⟩)
  (λb o L M c g _=>k.keep b o g (ne b c).1 (ne b c).2 λz=>(Wr.mp (I.stkSub b z)).elim L M)
  (λb o _ _ c g _=>k.slot b o g (ne b c).1 (ne b c).2) (λ_ _ _ _ n=>n) (λb o c g=>let⟨_,z⟩:=k.slot b o g (ne b c).1 (ne b c).2;⟨_,z⟩)
  (λ_ _ g=>g) (λ_ _ _ g=>g) (λb R g=>⟨#[],by rw[g];simp⟩) (λm G=>?_) (k.hok I.hok x.fr.1 x.fr.2 I.stkFree) I.bare
 ·exact D4 w h r
 ·rcases mem_ch.mp a with rfl|⟨p,d,rfl⟩
  ·exact(x.pn q u).1
  ·exact(x.pn q u).2 p d
 ·obtain⟨Q,A,y,J,K⟩:=G
  have v:X.env.locals∉nN e T:=λz=>(i.ok.exf _ z).1 rfl
  obtain⟨U,g⟩:=k.slot _ _ J (ne _ v).1 (ne _ v).2
  exact⟨_,A,y,g,K⟩
end
theorem NM{P:Wv}{w:WO}{K:VU}{B:Str->Option Value}{base:Xo}{N:List Str}{a:Str}{scope:Yl}{f:Addr}{j:Value}{A:WJ}{outer:List ZS}{s₀ s:V1}{H₀ H:Hp}{E:XK}{a5T:List (Addr×Obj)}{σ:L2.St}{e:Addr}{cls:Value}{u:Option Addr}{T:Option (Addr×Value)}
  (I:Inv (fA (dX P w) P w K B base N a scope f j A outer s₀ H₀ E) a5T σ H s)(x:Ex (fA (dX P w) P w K B base N a scope f j A outer s₀ H₀ E) a5T H s e cls u T)(h:E cls u H) :
  (fA (dX P w) P w K B base N a scope f j A outer s₀ H₀ E).xe (.ref e) s:=by
 have d:∀b o,s₀.heap.get? b=b4 o->b≠e/\(∀p,T=b4 p->b≠p.1)/\b≠s₀.heap.objs.size:=λb o c=>⟨(λz=>by rw[z]at c;rw[show s₀.heap.get? e=c4 from x.lo.1]at c;cases c),(λp i z=>by rw[z]at c;rw[show s₀.heap.get? p.1=c4 from x.lo.2 p i]at c;cases c),WB (Wi c)⟩;have y:dS (envOfC a scope s₀.heap.objs.size f j::outer)=s₀.heap.objs.size::dS outer:=rfl;show Wm (WC P w) (A.deeper (envOfC a scope s₀.heap.objs.size f j)) (a4P (envOfC a scope s₀.heap.objs.size f j) (.ref e)) _ _ s;refine NL (λp i=>(x.hT p i).imp id λ⟨L,Q,q⟩=>by cases Q;exact q) I.ok.frames I.stack rfl x.rc λY O X M k=>?_;refine⟨e,H,cls,u,O,rfl,I.os,I.bare,⟨λb o c n r _=>?_,λb o c n r _=>?_,λb o c n _=>I.base.free b o c n (by simp[fA]),λb o c _=>?_,I.base.tups,I.base.frzs,I.base.tbls⟩,k.hok I.hok x.fr.1 x.fr.2 I.stkFree,X,x.lo.1,M.elim (λz=>a0t (Xk I.sz z)) (λ⟨p,i,q⟩=>q▸x.lo.2 p i),x.fr.1,M.elim (λz=>I.hok.fresh z) (λ⟨p,i,q⟩=>q▸x.fr.2 p i),h⟩
 ·obtain⟨l,m,G⟩:=d b o c;refine k.keep b o (I.base.keep b o c n r (by simp[fA])) l m ?_;rw[y];intro z;rcases Wr.mp z with z|z
  ·exact G z
  ·exact r z
 ·obtain⟨l,m,G⟩:=d b o c;obtain⟨U,g⟩:=I.base.slot b o c n r (by simp[fA]);obtain⟨J,v⟩:=k.slot b _ g l m;exact⟨J,v⟩
 ·obtain⟨l,m,G⟩:=d b o c;obtain⟨R,g⟩:=I.base.there b o c (by simp[fA]);obtain⟨U,v⟩:=k.slot b R g l m;exact⟨_,v⟩
end L3
namespace L3
open PySem L2
noncomputable abbrev Xn:=Str×List (Str×D)
noncomputable abbrev MR:=aG->Hm->Option (Xn×aG×Hm)
noncomputable abbrev RF:=List D->Hm->Option (Xn×Hm)
noncomputable def NN(K:VU)(cls:Value)(x:Str):Prop:=XC K WZ x=b4 (b4 cls)
noncomputable def lX(K:VU)(π:Nat->Addr)(n:Nat)(H:Hp)(cls:Value)(a:Option Addr)(x:Xn):Prop:=
 NN K cls x.1/\(x.2=[]/\a=c4\/∃(b:Addr)(ob:Obj)(vs:List (Str×V)),a=b4 b/\H b=b4 (.frz ob (.xd vs))/\vs.map (·.1)=x.2.map (·.1)/\IsDs K π n H (vs.map (·.2)) (x.2.map (·.2)))
noncomputable def Wish(X:Cx)(a5T:List (Addr×Obj))(π:Nat->Addr)(n:Nat)(H:Hp)(x:Xn)(i:aG)(a:Hm):Prop:=
 ∀b d c h e cls j T,Ext π n H b a.length c->Rp X.K b c a->En X.K b a.length c d i->Inv X a5T d c h->Ex X a5T c h e cls j T->lX X.K b a.length c cls j x->X.xe (.ref e) h
theorem Wish.after{X:Cx}{a5T:List (Addr×Obj)}{π c:Nat->Addr}{n l:Nat}{H k:Hp}{x:Xn}{d:aG}{b:Hm}(h:Wish X a5T π n H x d b)(e:Ext π n H c l k):Wish X a5T c l k x d b:=
 λi j m q a cls o T p=>h i j m q a cls o T (e.trans p)
structure QRE(X:Cx)(e:Expr)(r:MR):Prop where
 h:∀a5T s σ H π ρ μ x ρ' μ',Inv X a5T σ H s->Rp X.K π H μ->En X.K π μ.length H σ ρ->r ρ μ=b4 (x,ρ',μ')->Wish X a5T π μ.length H x ρ' μ'->Wm (WC X.prog X.w) X.A (eval e X.env) (λ_ _=>False) X.xe s
structure QR(X:Cx)(st:Stmt)(r:MR):Prop where
 h:∀a5T s σ H π ρ μ x ρ' μ',Inv X a5T σ H s->Rp X.K π H μ->En X.K π μ.length H σ ρ->r ρ μ=b4 (x,ρ',μ')->Wish X a5T π μ.length H x ρ' μ'->Wm (WC X.prog X.w) X.A (exec st X.env) (λ_ _=>False) X.xe s
structure QRB(X:Cx)(st:List Stmt)(r:MR):Prop where
 h:∀a5T s σ H π ρ μ x ρ' μ',Inv X a5T σ H s->Rp X.K π H μ->En X.K π μ.length H σ ρ->r ρ μ=b4 (x,ρ',μ')->Wish X a5T π μ.length H x ρ' μ'->Wm (WC X.prog X.w) X.A (execs st X.env) (λ_ _=>False) X.xe s
noncomputable def bD:MR:=λ_ _=>c4
theorem i0{X:Cx}{st:Stmt}:QR X st bD:=⟨λ_ _ _ _ _ _ _ _ _ _ _ _ _ h=>by cases h⟩
theorem i7{X:Cx}{e:Expr}:QRE X e bD:=⟨λ_ _ _ _ _ _ _ _ _ _ _ _ _ h=>by cases h⟩
theorem NO{X:Cx}{st:List Stmt}:QRB X st bD:=⟨λ_ _ _ _ _ _ _ _ _ _ _ _ _ h=>by cases h⟩
section
variable{X:Cx}{e:Expr}{st:Stmt}{bT a b:List Stmt}{r ra rb:MR}{m:MS}{pos:XD}
theorem NP(j:QRE X e r)(h:eK e=c7):QR X (.Expr e pos) r:=
 ⟨λc s p H n o l x i d I R E k w=>a5M (aT (j.h c s p H n o l x i d I R E k w) λ_ _ z=>z.elim) I.quiet (o9 h)⟩
theorem NQ(i:QRE X e r):QR X (.Return (b4 e) pos) r:=
 ⟨λc s o H l n k x h d I R E j w=>a4L (aT (i.h c s o H l n k x h d I R E j w) λ_ _ z=>z.elim)⟩
theorem NR{y:Str}{c:XD}(k:QRE X e r)(h:eK e=c7):QR X (.Assign [.Name y c] e pos) r:=
 ⟨λd s q H o p n x j i I R E l w=>a4M (aT (k.h d s q H o p n x j i I R E l w) λ_ _ z=>z.elim) (o9 h)⟩
noncomputable def bX(m:MS)(ra rb:MR):MR:=λd c=>match ra d c with
 |some p=>b4 p|none=>match m d c with
  |some (.nx,ρ1,μ1)=>rb ρ1 μ1|_=>c4
theorem NS(T:QS X.nox st m)(O:QR X st ra)(Q:QRB X bT rb):QRB X (st::bT) (bX m ra rb):=by
 refine⟨λi s L H J K G x v o I R E n w=>a1S ?_⟩;unfold bX at n;split at n
 ·rename_i p U;cases n;exact aT (O.h i s L H J K G x v o I R E U w) λ_ _ z=>z.elim
 ·split at n
  ·rename_i j d N;have k:=T.h i s L H {nx:=λh l=>∃c,Ext J G.length H c d.length l/\Rp X.K c l d/\En X.K c d.length l h j,rt:=λ_ _=>False} (I.wish _)
    ⟨J,K,G,.nx,j,d,R,E,N,λc h l B A y=>⟨c,B,A,y⟩⟩
   refine WR k (λf Y q=>?_) λ_ _ z=>Wo z;cases f with
   |next=>obtain⟨h,l,M,c,B,A,y⟩:=q;exact Q.h i Y h l c j d x v o M.unwish A y n (w.after B)|ret u=>obtain⟨_,_,_,_,_,q⟩:=q;exact q.elim|brk=>obtain⟨_,_,_,q⟩:=q;exact q.elim|cont=>obtain⟨_,_,_,q⟩:=q;exact q.elim
  ·cases n
theorem NT:QRB X [] bD:=NO
noncomputable def hV(t:MT)(ra rb:MR):MR:=λc d=>(t c d).bind λp=>if p.1=c7 then ra c p.2 else rb c p.2
theorem NU{c:Expr}{t:MT}(hc:QT X.nox c t)(N:QRB X a ra)(O:QRB X b rb):QR X (.If c a b pos) (hV t ra rb):=by
 refine⟨λj s B H L A K x u p I R E l w=>wpAny_If ?_⟩;obtain⟨⟨d,i⟩,M,l⟩:=VT.mp l;have k:=hc.h j s B H (λy n=>y=d/\∃h,Ext L K.length H h i.length n/\Rp X.K h n i) (I.wish _) ⟨L,A,K,d,i,R,E,M,λh n o v=>⟨rfl,h,o,v⟩⟩;refine WR k (λy J q=>?_) λ_ _ z=>Wo z;obtain⟨n,G,rfl,h,o,v⟩:=q;dsimp only at l;cases y with
 |true=>rw[if_pos rfl]at l;exact N.h j J B n h A i x u p G.unwish v (E.mono o) l (w.after o)|false=>rw[if_neg (by decide)]at l;exact O.h j J B n h A i x u p G.unwish v (E.mono o) l (w.after o)
end
noncomputable def eD(K:VU)(n:Nat)(r:RF):Sp:=λvs H _ E=>vs.length=n/\∃π ds d x a,Rp K π H d/\IsDs K π d.length H vs ds/\r ds d=b4 (x,a) /\
 ∀b c cls e,Ext π d.length H b a.length c->Rp K b c a->lX K b a.length c cls e x->E cls e c
noncomputable def lY(r:RF)(ms:MA):MR:=λa b=>(ms a b).bind λp=>(r p.1 p.2).map λq=>(q.1,a,q.2)
section
variable{X:Cx}{k n:Nat}{f:Addr}{fd:W8}{ps:List Str}{x:Str}{p pos:XD}{e:Expr}{es:List Expr}{ms:MA}{r:RF}
theorem NV(Z:X.ex=[])(F:FnOk X.prog X.w X.K X.mg X.base (dX X.prog X.w) k f fd ps (eD X.K n r))(hr:Room k X.A)(hg:Gl X x)(hm:X.mg x=b4 (.ref f))(hk:Xe X.K (.ref f)=c7)(hb:Binds X.K fd ps [])(U:QA X.nox (e::es) ms n)
  (Y:(x==("__debug__":Str))=c6):QRE X (.Call (.Name x p) (e::es) [] pos) (lY r ms):=by
 refine⟨λQ s σ H π ρ μ y ρ' μ' I R E h w=>?_⟩;obtain⟨⟨ds,b⟩,h1,h⟩:=VT.mp h;obtain⟨⟨y',i⟩,h2,h⟩:=VZ.mp h;cases h;have hst:=U.s;have d:=hst;rw[WN,VW]at d;refine XG (jK I hg hm ?_ Y);have k1:=U.h pos Q s σ H (λo j=>∃a,Ext π μ.length H a b.length j/\Rp X.K a j b/\IsDs X.K a b.length j o ds) (I.wish _) ⟨π,ρ,μ,ds,b,R,E,h1,λa o j K O L=>⟨a,K,O,L⟩⟩;refine Yb (h₀:=X.base) I.ok.mod.kin hk (WR k1 (λM s1 ⟨o,j,m,rv,a,K,O,L⟩=>⟨m.unwish.kIn,?_⟩) λ_ _ z=>Wo z) (c9 d.1) (eC d.2);have m:=m.unwish;have hn:o.length=n:=by rw[L.length];exact U.l ρ μ ds b h1
 have B:eD X.K n r o j (λ_ _=>False) (λcls G l=>∃c,Ext a b.length j c i.length l/\Rp X.K c l i/\lX X.K c i.length l cls G y'):=
  ⟨hn,a,ds,b,y',i,O,L,h2,λc l cls G J N ix=>⟨c,J,N,ix⟩⟩
 have hl:M.length=ps.length:=by rw[<- rv.length];exact F.len _ _ _ _ B
 refine Y3 (Yv (F.run X.A X.stack s1 j ⟨M,[]⟩ M o _ _ hr m.env0 (by have:=hb s1 M m.kIn (by simpa using hl);rwa [W4]at this) rv B) λrr s' A=>?_);cases rr with
 |error v=>obtain⟨ee,l,cls,G,T,rfl,I',x',c,J,N,ix⟩:=rR Z m A;exact w c σ l s' ee cls G (b4 (T,.none)) (K.trans J) N ((E.mono K).mono J) I' x' ix|ok fl=>
  cases fl with
  |ret u=>obtain⟨_,_,_,_,_,_,_,q⟩:=A;exact q|next=>exact Wo A|brk=>exact Wo A|cont=>exact Wo A
end
noncomputable def zD(n:Nat)(r:MR):RF:=λds a=>(r (rK n ds) a).map λp=>(p.1,p.2.2)
theorem NW{P:Wv}{w:WO}{K:VU}{J:Str->Option Value}{base:Xo}{x a:Str}{st:Stmt}{f:Addr}{G:W8}{N ps:List Str}{k:Nat}{body:List Stmt}{r:MR}(F:Fun K x a st f G)(S:FnScope N ps (bN st))(p:ps.length<=N.length)(m:dC st=body)
  (c:∀(b:Value)(A:WJ)(outer:List ZS)(s:V1)(H:Hp)(E:XK),Room k (A.deeper (Zn a (bN st) s.heap.objs.size f b))->
   QRB (fA (dX P w) P w K J base N a (bN st) f b A outer s H E) body r):FnOk P w K J base (dX P w) (k+1) f G ps (eD K ps.length (zD N.length r)):=by
 obtain⟨oc,od,dV,kV,X,pm,an,b,ct,osl,rfl,lk,n⟩:=F.ex;refine Cp (CX:=dX P w) (sp:=eD K ps.length (zD N.length r)) lk n S (λL H Q E h=>h.1) λA outer s H L Q E hr h=>⟨λ_ d j=>d=L2.start N L/\j=H,?_,rfl,rfl⟩;obtain⟨hv,π,ds,μ,y,μ',R,i,o,kc⟩:=h;obtain⟨⟨y',v,q⟩,Z,o⟩:=VZ.mp o;cases o;rintro l s1 σ B D I ⟨rfl,rfl⟩;rw[m];refine aT ((c b A outer s B E hr).h l s1 _ B π _ μ y' v q I R (yG i (by rw[hv];exact p)) Z λu d j s' e cls U T Y O E' M x' ix=>?_) λ_ _ z=>Wo z;exact NM M x' (kc u j cls U Y O ix)
end L3
namespace L3
open PySem L2
noncomputable abbrev zE:List Value:=[.type "ValueError",.type "Exception",.type "BaseException",.type "object"]
structure ClsK(K:VU)(x:Str)(C:Addr):Prop where
 exc:a0p K C zE "ValueError.__new__"=c7
 nm:XC K WZ x=b4 (b4 (.ref C))
theorem NX{K:VU}{h:Xo}{C:Addr}{d:List Value}{a:String}(X:K.In h)(q:a0p K C d a=c7) :
  ∃i N s u bs hd v c p b r j k l m o w,h.get? C=b4 (a0O s u C N bs i hd v c p b r j k l m o a)/\h.Ns N w/\w "__init__"=c4/\OwnTail h d i:=by
 unfold a0p at q;split at q
 ·rename_i r y Q B;split at q
  ·rename_i R i j k l m n o A E;rw[VW,VW,VW,VW,VW,beq_iff_eq,beq_iff_eq,beq_iff_eq,Zj]at q;obtain⟨⟨⟨⟨⟨I,J⟩,L⟩,M⟩,x⟩,O⟩:=q;subst I J;cases y with
   |mk s bs G H u hd v c p b z=>cases A;cases L;have e:Q=#[j,k,l,m,b4 (.builtin n),o]:=a3N.mp E;subst e;exact⟨i,H,s,u,bs,hd,v,c,p,b,r,j,k,l,m,o,_,X _ _ B,.of_isNs (PySem.W.isNs_of_in X x),PySem.W.nsMap_none_of_in X x O,PySem.W.tail_of_in X M⟩
  ·cases q
 ·cases q
noncomputable def l6(x:Str)(ms:MA):MR:=λa b=>(ms a b).map λp=>((x,[]),a,p.2)
theorem NY{P:Wv}{w:WO}{H:Hp}{h:Xo}(ok:HOk P w H h){a:Addr}(b:h.get? a=c4):H a=none:=by
 cases q:H a with
 |none=>rfl|some u=>obtain⟨o,g⟩:=NJ (ok a u q);rw[b]at g;cases g
theorem NZ{X:Cx}{a5T:List (Addr×Obj)}{σ:L2.St}{H:Hp}{s:V1}(I:Inv X a5T σ H s)(b:X.ex=[]){a:Addr}(c:s.heap.get? a=c4):X.s₀.heap.get? a=none:=by
 cases q:X.s₀.heap.get? a with
 |none=>rfl|some o=>obtain⟨d,g⟩:=I.base.there a o q (by rw[b];simp);rw[c]at g;cases g
theorem N0{X:Cx}{x:Str}{C:Addr}{e:Expr}{es:List Expr}{ms:MA}{n:Nat}{np a pos:XD}(c:ClsK X.K x C)(K:X.ex=[])(hc:X.calm=c7)(hg:Gl X x)(G:QA X.nox (e::es) ms n)(hn:n<=30)
  (J:(x==("__debug__":Str))=c6):QR X (.Raise (b4 (.Call (.Name x np) (e::es) [] a)) c4 pos) (l6 x ms):=by
 refine⟨λm s Y H π ρ U y ρ' μ' I R E h w=>?_⟩;obtain⟨⟨ds,k⟩,Z,h⟩:=VZ.mp h;cases h;have M:=G.s;have d:=M;rw[WN,VW]at d;have he:Wn (e::es) X.env=_:=c9 d.1;have L:(XM a (Wn es X.env)).any (·.1)=false:=eC d.2;obtain⟨bm,N,nm,qn,bs,hd,sn,Q,ab,B,dd,k0,O,k2,k3,k5,mN,o1,o2,o3,o4⟩:=NX I.mod.kin c.exc;refine wpAny_Raise_call_subT (C:=C) (nm:=nm) (q:=qn) (N:=N) (bs:=bs) (bm:=bm) (hdct:=hd) (sn:=sn) (sub:=Q) (ab:=ab) (col:=B) (dd:=dd) (k0:=k0) (k1:=O) (k2:=k2) (k3:=k3) (k5:=k5) a1v (mN:=mN)
  (o4.hasType a1v.hasBase) (I.ok.hd hc) (by rw[he];show(c6||(XM a (Wn es X.env)).any (·.1))=c6;rw[L];rfl) o3 (jK I hg (YI I.mod.kin I.mod.glob c.nm) ⟨rfl,?_⟩ J)
 have O:=G.h a m s Y H (λT l=>∃b,Ext π U.length H b k.length l/\Rp X.K b l k/\T.length=n) (I.wish _) ⟨π,ρ,U,ds,k,R,E,Z,λb T l v A i1=>⟨b,v,A,by rw[i1.length];exact G.l ρ U ds k Z⟩⟩;have r:Wm (WC X.prog X.w) X.A (a4N (XM a (Wn (e::es) X.env))) _ _ s:=O;rw[he]at r ⊢;refine a0o (WR r (λus s1 ⟨T,l,i,rv,b,v,A,hl⟩=>?_) λ_ _ z=>Wo z);have i:=i.unwish;have u:us.length<=Wb:=by have:=rv.length;rw[<- this,hl,W6];omega
 refine⟨rfl,u,i.bk _ _ o1,o2.keeps i.bk,o4.keeps i.bk,λh' ea o=>?_⟩;obtain⟨t,t1,_,_⟩:=o.there;have I2:Inv X m Y l {s1 with heap:=h'}:=i.kept (t':=s1.toks) o.keeps;refine w b Y l _ ea (.ref C) c4 c4 v A (E.mono v) I2 ⟨⟨⟨_,_,t1,rfl,rfl,rfl,rfl,rfl⟩,λp j=>nomatch j⟩,(λp j=>nomatch j),⟨NZ i K o.new,λp j=>nomatch j⟩,⟨NY i.hok o.new,λp j=>nomatch j⟩,λq hq=>⟨λz=>?_,λp j=>nomatch j⟩⟩ ⟨c.nm,.inl ⟨rfl,rfl⟩⟩;have:=(i.pin q hq).1;rw[z,o.new]at this;cases this
end L3
namespace L3
open PySem L2 PySem.Spec PyProof.Rows
noncomputable def rS(K:VU)(C:Addr):Option (List Value):=match K.lookup C with
 |some ⟨.type "type",_,.cls cd,sl⟩=>(match cd.mro,sl.toList with
  |.ref C'::bm,[_,_,_,_,b4 (.builtin n),_]=>if(C'==C&&n=="ValueError.__new__" && !cd.hasDel&&bm.contains (.type "BaseException")&&cd.hasDict)=c7 then b4 bm else c4
  |_,_=>c4)
 |_=>c4
theorem rV{K:VU}{h:Xo}{C:Addr}{bm:List Value}(X:K.In h)(q:rS K C=b4 bm) :
  (∃N p r bs s b m a o d i j k l,h.get? C=b4 (a0O p r C N bs bm c7 s b m a o d i j k l "ValueError.__new__"))/\bm.contains (.type "BaseException")=true:=by
 unfold rS at q;split at q
 ·rename_i o A L G;split at q
  ·rename_i M u d i j k n l E H;split at q
   ·rename_i c;cases q;rw[VW,VW,VW,VW,beq_iff_eq,beq_iff_eq,Zj]at c;obtain⟨⟨⟨⟨v,w⟩,x⟩,y⟩,z⟩:=c;subst v w;cases A with
    |mk p bs I J r hd s b m a B=>cases E;cases x;cases z;have e:L=#[d,i,j,k,b4 (.builtin "ValueError.__new__"),l]:=a3N.mp H;subst e;exact⟨⟨J,p,r,bs,s,b,m,a,o,d,i,j,k,l,X _ _ G⟩,y⟩
   ·cases q
  ·cases q
 ·cases q
noncomputable def kU(K:VU)(x:Str):Option Addr:=match XC K WZ x with
 |some (b4 (.ref C))=>b4 C|_=>c4
theorem rW{K:VU}{x:Str}{C:Addr}(h:kU K x=b4 C):XC K WZ x=b4 (b4 (.ref C)):=by
 unfold kU at h;split at h
 ·cases h;assumption
 ·cases h
noncomputable def rX(K:VU)(x y:Str):Option Bool:=(kU K x).bind λB=>(kU K y).bind λC=>(rS K B).bind λa=>(rS K C).map λ_=>(Wg B::a).contains (.ref C)
section
variable{M:a2l}{A:WJ}{E:Value->V1->Prop}
theorem N3{s:V1}{B C e:Addr}{nm q z L:Str}{N J:Addr}{bs bm o a:List Value}{hdct i:Bool}{sn G:List Str}{sub l:List Value}{ab n:Bool}{col j:Option Bool}{dd p:Option Addr}{k0 k1 k2 k3 k5 u v w x y:Option Value}{I:Obj}{Q:Bool->V1->Prop}
  (hB:s.heap.get? B=b4 (a0O nm q B N bs bm hdct sn sub ab col dd k0 k1 k2 k3 k5 "ValueError.__new__")) (hC:s.heap.get? C=b4 (a0O z L C J o a i G l n j p u v w x y "ValueError.__new__"))
  (K:s.heap.get? e=b4 I)(k:I.cls=.ref B)(c:a.contains (.type "BaseException")=c7) (H:Q ((Wg B::bm).contains (.ref C)) s):Wm M A (excMatches (.ref e) (.ref C)) Q E s:=by
 obtain⟨h,g,d,t,O⟩:=s;have r:(Wg C::a).contains (.type "BaseException")=true:=by rw[a0L,c,a4V]
 have f:=tc_notTuple;have m:∃b,(Wg B::bm).contains (.ref C)=b:=⟨_,rfl⟩;obtain⟨b,m⟩:=m;rw[m]at H;unfold excMatches;repeat (first|(with_reducible refine a0a K ?_;rw[k])|with_reducible refine a0a hC ?_|(with_reducible refine a0Z hC ?_;rw[r])|(with_reducible refine a0Z hB ?_;rw[m])|wp_step)
 cases b<;>(wp_walk;exact H)
end
noncomputable def N4(o:Obj):Prop:=∃vs,o.data=.fields vs/\vs[2]?=b4 Xg
noncomputable def uX(e:Addr)(H:Hp):Prop:=∃o u,H e=b4 (.frz o u)/\N4 o
structure QBh(X:Cx)(e:Addr)(st:List Stmt)(m:MS):Prop where
 h:∀(a5T:List (Addr×Obj))(s:V1)(σ:L2.St)(H:Hp)(D:Ends),uX e H->Inv X a5T σ H s->dP X.K m D σ H->Wm (WC X.prog X.w) X.A (execs st X.env) (SP X a5T D) X.xe s
theorem QB.soft{X:Cx}{e:Addr}{st:List Stmt}{m:MS}(h:QB X st m):QBh X e st m:=⟨λa5T s σ H D _ I t=>h.h a5T s σ H D I t⟩
noncomputable abbrev _root_.L2.Cx.hnd(X:Cx)(e:Value):Cx:={X with A:=X.A.mark (b4 e),calm:=c6,xe:=λ_ _=>False}
section
variable{X:Cx}{a5T:List (Addr×Obj)}{σ:L2.St}{H H':Hp}{s s':V1}{e:Addr}{cls:Value}{dc:Option Addr}{T:Option (Addr×Value)}
theorem D5(I:Inv X a5T σ H s)(v:Value):Inv (X.hnd v) a5T σ H s:=
 ⟨⟨I.ok.mod,I.ok.kind,I.ok.glob,I.ok.blt,I.ok.above,I.ok.inj,I.ok.has,I.ok.cab,(λz=>nomatch z),I.ok.frames,I.ok.stk,I.ok.exf,I.ok.bs,I.ok.bsz,I.ok.noex,I.ok.exfs,I.ok.funs,I.ok.frf⟩,I.os,I.bare,I.base,I.loc,I.cell,I.free,I.freeC,I.pin,I.hok,I.len⟩
theorem uY(ok:X.Ok){v:Value}(I:Inv (X.hnd v) a5T σ H s):Inv X a5T σ H s:=⟨ok,I.os,I.bare,I.base,I.loc,I.cell,I.free,I.freeC,I.pin,I.hok,I.len⟩
theorem N5{M:a2l}{E:Value->V1->Prop}{Q:Unit->V1->Prop}{L:Addr}(l:X.ex=[])(c:X.stack=X.env::X.outer)(v:X.env.frame=b4 L)(I:Inv X a5T σ H s)(x:Ex X a5T H s e cls dc T)
  (k:∀s' A,Inv X a5T σ H s'->Ex X a5T H s' e cls dc (b4 (A,.none))->Q () s'):Wm M X.A (a1Y (.ref e) X.env) (λ_ i=>Wm M X.A (a1U (.ref e) c4) Q E i) E s:=by
 refine D2 (λp a=>(x.hT p a).imp id λ⟨L,u,q⟩=>by rw[v]at u;cases u;exact q) (by rw[<- c];exact I.ok.frames) (by rw[<- c];exact I.stack) v x.rc λG B R j w=>?_;refine zC (s:={s with heap:=G}) R λr U _ y=>?_;have K:XKept (dS X.stack) e T s.heap r:=by
  rw[c];refine⟨λb o d n h N=>?_,λb o d n h=>?_⟩
  ·rw[y b (rQ d h j)];exact w.keep b o d n h N
  ·obtain⟨O,J⟩:=w.slot b o d n h;refine⟨O,?_⟩;rw[y b (rQ d h j)];exact J
 refine k {s with heap:=r} B (x.kept l I K) ⟨U,(λp a=>by cases a;exact .inl rfl),⟨x.lo.1,λp a=>?_⟩,⟨x.fr.1,λp a=>?_⟩,λq m=>⟨(x.pn q m).1,λp a=>?_⟩⟩
 ·cases a;exact j.elim (λz=>a0t (Xk I.sz z)) (λ⟨p,a,q⟩=>q▸x.lo.2 p a)
 ·cases a;exact j.elim (λz=>I.hok.fresh z) (λ⟨p,a,q⟩=>q▸x.fr.2 p a)
 ·cases a;exact rQ (I.pin q m).1 (x.pn q m).2 j
theorem N6{M:a2l}{A:WJ}{E:Value->V1->Prop}{Q:Unit->V1->Prop}{T:Addr}(c:X.ex=[])(I:Inv X a5T σ H s)(x:Ex X a5T H s e cls dc (b4 (T,.none)))
  (k:∀s',Inv X a5T σ H s'->Ex X a5T H s' e cls dc (b4 (T,.none))->Q () s'):Wm M A (a1U (.ref e) c4) Q E s:=by
 refine zC x.rc λh i _ d=>k {s with heap:=h} (x.kept c I ⟨λb o a _ n _=>?_,λb o a _ n=>⟨o.slots,?_⟩⟩) ⟨i,x.hT,x.lo,x.fr,x.pn⟩
 ·rw[d b (n _ rfl)];exact a
 ·rw[d b (n _ rfl)];exact a
theorem Ex.cell{π:Nat->Addr}{d:Hm}{y:Xn}(j:X.ex=[])(I:Inv X a5T σ H s)(x:Ex X a5T H s e cls dc T)(R:Rp X.K π H d)(B:lX X.K π d.length H cls dc y) :
  ∃i H',Ext π d.length H i (d++[C.exc y.1 (y.2.map (·.1)) (y.2.map (·.2))]).length H'/\Rp X.K i H' (d++[C.exc y.1 (y.2.map (·.1)) (y.2.map (·.2))])/\Inv X a5T σ H' s/\i d.length=e/\uX e H':=by
 obtain⟨o,v,q,g2,w,r,g5,K⟩:=x.rc.ob;have hc:oN X.K π d.length H e (C.exc y.1 (y.2.map (·.1)) (y.2.map (·.2))) (.frz o (.ext λ_=>True)):=by
  refine⟨o,_,rfl,by rw[g2];exact B.1,⟨v,r⟩,?_⟩;rcases B.2 with⟨h,Q⟩|⟨G,Z,us,L,M,N,O⟩
  ·rw[h];exact .inl ⟨rfl,rfl,w.trans Q⟩
  ·exact .inr ⟨G,Z,us,by rw[w];exact L,M,N,O⟩
 obtain⟨J,E,p1⟩:=R.alloc x.fr.1 hc;refine⟨_,_,J,E,?_,p1,o,_,dG,v,r,K⟩;have l:∀b u,H b=b4 u->b≠e:=λb u h z=>by rw[z,x.fr.1]at h;cases h
 have A:∀b∈[e],X.s₀.heap.get? b=none:=λb a=>by cases WS.mp a;exact x.lo.1
 have m:=D3 I j A λb a=>by cases WS.mp a;exact⟨o,v,q,r⟩
 have k:=m.step (H':=upd H e (.frz o (.ext λ_=>True))) (h':=s.heap) (g':=s.gens) (d':=s.drawn) (t':=s.toks) (ch:=[e]) (λb a=>?_) (λb o _ _ _ g _=>g) (λb o _ _ _ g _=>⟨o.slots,g⟩)
  (λb o Y g n=>?_) (λb o _ g=>⟨o,g⟩) (λb xs h=>by rw[bG (l _ _ h)];exact h) (λb o u h=>by rw[bG (l _ _ h)];exact h) (λb ps h=>⟨#[],by rw[bG (l _ _ h),h];simp⟩) (λ_ h=>h) ?_ I.bare
 ·exact D4 k j A
 ·refine⟨.inl a,(m.ok.exf b a).1,(m.ok.exf b a).2,λp U=>?_⟩;cases WS.mp a;exact(x.pn p U).1
 ·rw[bG (λz=>Y (by rw[z];exact WS.mpr rfl))];exact n
 ·intro b u h;by_cases a:b=e
  ·subst a;rw[dG]at h;cases h;exact⟨q,trivial,⟨o,q⟩,λ_ _ _ _=>trivial⟩
  ·rw[bG a]at h;exact(I.hok b u h).stay (λ_ _ _ g=>g) (λc g=>by rw[bG (l _ _ g)];exact g) (λc xs g=>by rw[bG (l _ _ g)];exact g)
theorem En.unset{K:VU}{π:Nat->Addr}{n:Nat}{H:Hp}{σ:L2.St}{b:aG}(E:En K π n H σ b)(i:Nat):En K π n H (σ.set i c4) (b.set i c4):=by
 refine⟨by rw[WG,WG];exact E.len,λj c e=>?_⟩;rw[a3J]at e ⊢;by_cases a:i=j
 ·rw[if_pos a]at e;split at e<;>cases e
 ·rw[if_neg a]at e ⊢;exact E.get j c e
theorem uZ{M:a2l}{A:WJ}{E:Value->V1->Prop}{Q:Unit->V1->Prop}{i:Nat}{y:Str}{pos:XD}(I:Inv X a5T σ H s)(Y:X.N.Nodup)(N:X.N[i]?=b4 y)(O:X.env.scope.names.lookup y=b4 .local)
  (h:∀s',Inv X a5T (σ.set i c4) H s'->Q () s'):Wm M A (do bindName X.env y .none;a4g X.env y pos) Q E s:=by
 have Z:X.env.kindOf y=b4 .local:=O;have G:(X.env.scope.kind==.class||(X.env.scope.kind==.module&&X.env.locals != X.env.globals))=false:=by rw[I.ok.kind];rfl
 refine VX (wpAny_bindName (tX (v:=.non) I Y N (.inl O) rfl (λs1 a _=>?_) (.inr O)));unfold a4g;refine wpAny_onRaise ?_;unfold unbindName;refine VX (wpAny_point (VX ?_));unfold deleteName;simp only[Z,G];rw[if_neg (by decide)];obtain⟨m,hn,hl⟩:=id a.loc;have r:i<(σ.set i (b4 V.non)).length:=by rw[a.len];exact(VY.mp N).1
 have my:(m y).isSome=true:=by
  obtain⟨u,_,q⟩:=hl i y .non N (by rw[Wh (by simpa using r)]) (.inl O);rcases q with⟨_,q⟩|⟨q,_⟩
  ·rw[q];rfl
  ·rw[Z]at q;rcases q with q|q<;>cases q
 refine VX (wpAny_nsDel_keeps hn λh2 v U x=>?_);simp only[my,W9,V6,if_false];refine V7 (wpAny_point (h _ ?_));have cne:=a.cne;obtain⟨oL,_,_,hoL,_⟩:=id hn;refine⟨I.ok,a.os,a.bare,⟨λb o e n R K=>?_,λb o e n R K=>?_,a.base.free,λb o e K=>?_,a.base.tups,a.base.frzs,a.base.tbls⟩,⟨_,U,λj z v' B L e3=>?_⟩,λy c e=>?_,a.free,a.freeC,λp hp=>?_,λb ob e=>?_,by rw[WG];exact I.len⟩
 ·exact(x.2 b (WB (Wy (Wi e) I.ok.above))).trans (a.base.keep b o e n R K)
 ·obtain⟨sl,B⟩:=a.base.slot b o e n R K;exact⟨sl,(x.2 b (WB (Wy (Wi e) I.ok.above))).trans B⟩
 ·obtain⟨o',B⟩:=a.base.there b o e K;exact⟨o',(x.2 b (WB (Wy (Wi e) I.ok.above))).trans B⟩
 ·have J:j≠i:=λJ=>by subst J;rw[Wh (by simpa using r)]at L;cases L
  rw[V9 (WL J)]at L;obtain⟨u',r',q⟩:=hl j z v' B (by rw[V9 (WL J)];exact L) e3;refine⟨u',r',?_⟩;rcases q with⟨k,e⟩|⟨k,c,e,w⟩
  ·refine .inl ⟨k,?_⟩;have:z≠y:=λe=>J (xE Y B (e▸N));simp[this,e]
  ·exact .inr ⟨k,c,e,w.sameBut x (cne z c e)⟩
 ·obtain⟨w',z⟩:=a.cell y c e;exact⟨w',z.sameBut x (cne y c e)⟩
 ·obtain⟨e,n,ne,nf,d⟩:=a.pin p hp;exact⟨(x.2 p.1 ne).trans e,n,ne,nf,d⟩
 ·refine(a.hok b ob e).stay (λc w' hc q=>(x.2 c ?_).trans q) (λ_ q=>q) λ_ _ q=>q;intro z;have l:=a.free;rw[<- z]at l;rcases hc with hc|hc
  ·rw[hc,e]at l;cases l
  ·rw[l]at hc;cases hc
end
noncomputable def jU(m:MS)(r:MR)(sup:Str->Option Bool)(i:Nat)(c:MS):MS:=λb a=>match r b a with
 |some p=>if sup p.1.1=b4 c7 then(c (p.2.1.set i (b4 (.loc p.2.2.length))) (p.2.2++[C.exc p.1.1 (p.1.2.map (·.1)) (p.1.2.map (·.2))])).map λq=>(q.1,q.2.1.set i c4,q.2.2)else c4|none=>m b a
theorem N7{X:Cx}{body hb:List Stmt}{l:Stmt}{c y:Str}{cp hp pos:XD}{L:Addr}{i:Nat}{m mh:MS}{r:MR}{sup:Str->Option Bool}(O:X.ex=[])(hst:X.stack=X.env::X.outer)(hf:X.env.frame=b4 L)(hN:X.N.Nodup)
  (hi:X.N[i]?=b4 y)(hy:X.env.scope.names.lookup y=b4 .local)(hg:Gl X c)(hdb:(c==("__debug__":Str))=c6) (hs:∀x b,sup x=b4 b->rX X.K x c=b4 b)
  (hm:QB X.nox body m)(hr:∀E,QRB (X.wish E) body r)(hh:∀e,QBh (X.hnd (.ref e)) e (l::hb) mh) :
  QS X (.Try body [.ExceptHandler (b4 (.Name c cp)) (b4 y) (l::hb) hp] [] [] pos) (jU m r sup i mh):=by
 refine⟨λj s A H D I t=>wpAny_Try_except ?_⟩;obtain⟨π,ρ,μ,fl,ρ',μ',R,En0,o,n⟩:=t;unfold jU at o;split at o
 ·rename_i p hp';obtain⟨x,ρ1,Y⟩:=p;dsimp only at o;split at o
  ·rename_i w;obtain⟨⟨fl2,ρ2,μ2⟩,hq,o⟩:=VZ.mp o;cases o;refine aT ((hr (λe s₁=>Wm (WC X.prog X.w) X.A (a1Y e X.env) (λ_ s₂=>Wm (WC X.prog X.w) X.A (a1U e c4) (λ_ s₃=>Wm (WC X.prog X.w) X.A (handleBy e X.env [.ExceptHandler (b4 (.Name c cp)) (b4 y) (l::hb) hp]) (SP X j D) X.xe s₃) X.xe s₂) X.xe s₁)).h j s A H π ρ μ x ρ1 Y (I.wish _) R En0 hp' ?_) λ_ _ z=>z.elim;intro π1 σ1 H1 s1 e cls dc T e1 R1 E1 I1 U ix;have I1:=I1.unwish;have U:Ex X j H1 s1 e cls dc T:=⟨U.rc,U.hT,U.lo,U.fr,U.pn⟩;refine N5 O hst hf I1 U λs2 T2 I2 x2=>?_;obtain⟨B,hB⟩:∃B,kU X.K x.1=b4 B:=by have:=hs _ _ w;unfold rX at this;obtain⟨B,hB,_⟩:=VT.mp this;exact⟨B,hB⟩
   have a:=hs _ _ w;unfold rX at a;rw[hB,Wl]at a;obtain⟨Ca,hC,a⟩:=VT.mp a;obtain⟨b1,hb1,a⟩:=VT.mp a;obtain⟨b2,hb2,a⟩:=VZ.mp a;have hcls:cls=.ref B:=by have h1:XC X.K WZ x.1=b4 (b4 cls):=ix.1;rw[rW hB]at h1;cases h1;rfl
   subst hcls;have hmg:X.mg c=b4 (.ref Ca):=YI I.mod.kin I.mod.glob (rW hC);have kin:=I2.kIn;obtain⟨⟨N1,nW,q1,bs1,sn1,su1,ab1,col1,dd1,a0,a1,a2,a3,a5,o1⟩,_⟩:=rV kin hb1;obtain⟨⟨N2,nm2,q2,bs2,sn2,su2,ab2,col2,dd2,c0,c1,c2,c3,c5,o2⟩,ob2⟩:=rV kin hb2;obtain⟨oe,vs,g1,g2,_⟩:=x2.rc.ob;refine wpAny_handleBy_cons (codeAny_handlers_test ?_) (by intro q;cases q);refine jK (X:=X.hnd (.ref e)) (D5 I2 (.ref e)) hg hmg ?_ hdb;refine N3 o1 o2 g1 g2 ob2 ?_;rw[a];dsimp only[if_true];refine codeAny_handlers_suite_as ?_;refine N6 O I2 x2 λs3 I3 x3=>?_;obtain⟨π4,H4,e4,R4,I4,p4,sf⟩:=x3.cell O I3 R1 ix;refine tX (v:=.ref e) I4 hN hi (.inl hy) rfl (λs5 I5 _=>?_) (.inr hy);have dl:IsD X.K π4 (Y++[C.exc x.1 (x.2.map (·.1)) (x.2.map (·.2))]).length H4 (.ref e) (.loc Y.length):=by rw[<- p4];exact .loc (by simp)
   have k:=(hh e).h j s5 _ H4 {nx:=λA H=>D.nx (A.set i c4) H,bk:=λA H=>D.bk (A.set i c4) H,ct:=λA H=>D.ct (A.set i c4) H,rt:=D.rt} sf (D5 I5 (.ref e))
    ⟨π4,_,_,fl2,ρ2,μ2,R4,(E1.mono e4).set dl i,hq,?_⟩
   ·refine WR k (λf s6 q=>?_) λ_ _ z=>Wo z;cases f with
    |next=>obtain⟨Z,J,K,Q⟩:=q;exact uZ (uY I.ok K) hN hi hy λs7 M=>⟨_,J,M,Q⟩|brk=>obtain⟨Z,J,K,Q⟩:=q;exact uZ (uY I.ok K) hN hi hy λs7 M=>⟨_,J,M,Q⟩|cont=>obtain⟨Z,J,K,Q⟩:=q;exact uZ (uY I.ok K) hN hi hy λs7 M=>⟨_,J,M,Q⟩|ret u=>obtain⟨v6,Z,J,K,r6,Q⟩:=q;exact uZ (uY I.ok K) hN hi hy λs7 M=>⟨v6,_,J,M,r6,Q⟩
   ·have ee:=e1.trans e4;cases fl2 with
    |nx=>exact λh σ' G N R' E'=>n h _ G (ee.trans N) R' (E'.unset i)|bk=>exact λh σ' G N R' E'=>n h _ G (ee.trans N) R' (E'.unset i)|ct=>exact λh σ' G N R' E'=>n h _ G (ee.trans N) R' (E'.unset i)|rt d=>exact λh v G N=>n h v G (ee.trans N)
  ·cases o
 ·refine WR (hm.h j s A H D (I.wish _) ⟨π,ρ,μ,fl,ρ',μ',R,En0,o,n⟩) (λf s1 q=>?_) λ_ _ z=>Wo z;cases f with
  |next=>exact a0y (SP.unwish (f:=.next) q)|brk=>exact SP.unwish (f:=.brk) q|cont=>exact SP.unwish (f:=.cont) q|ret u=>exact SP.unwish (f:=.ret u) q
end L3
namespace L3
open PySem L2 PySem.Spec PyProof.Rows
section
variable{prog:Wv}{w:WO}{A:WJ}{E:Value->V1->Prop}{s:V1}
variable{nm q:Str}{C N fI:Addr}{bs bm bmB:List Value}{hdct:Bool}{sn:List Str}{sub:List Value}{ab:Bool}{col:Option Bool}{dd:Option Addr}{k0 k1 k2 k3 k5:Option Value}{B newId initId:String}{mN:Str->Option Value}{bT:List Value}
end
end L3
namespace L3
open PySem L2 PySem.Spec PyProof.Rows
noncomputable def N8(K:VU)(C f:Addr):Bool:=match K.lookup C with
 |some ⟨.type "type",_,.cls cd,sl⟩=>(match cd.mro,sl.toList with
  |.ref C'::bm,[_,_,_,_,b4 (.builtin n),_]=>C'==C&&n=="ValueError.__new__" && !cd.hasDel&&cd.hasDict&&PySem.W.tailIn K zE bm&&PySem.W.nsOkIn K cd.ns&&XC K cd.ns "__init__"==b4 (b4 (.ref f))
  |_,_=>c6)
 |_=>c6
noncomputable def N9(K:VU)(B:Addr):Bool:=PySem.W.readsIn K B (.type "type")&&(match PySem.W.findCls K (.ref B) (.type "type") "__init__" with|some (.val (.builtin n))=>n=="ValueError.__init__" |_=>c6) &&
 ZN K (.ref B) "__getattribute__"==b4 (b4 (.builtin "type.__getattribute__"))
structure InitK(K:VU)(C f B:Addr)(bn at':Str):Prop where
 cls:N8 K C f=c7
 base:N9 K B=c7
 bnm:XC K WZ bn=b4 (b4 (.ref B))
 set:W5 K (.ref C) "__setattr__"=b4 (b4 (.builtin "object.__setattr__"))
 c4:W5 K (.ref C) at'=b4 c4
section
variable{X:Cx}{a5T:List (Addr×Obj)}{σ:L2.St}{H:Hp}{s:V1}{e C f B:Addr}{bn at':Str}
end
end L3
namespace L3
open PySem L2 PySem.Spec PyProof.Rows
end L3
namespace L3
open PySem L2 PySem.Spec PyProof.Rows
section
variable{prog:Wv}{w:WO}{A:WJ}{E:Value->V1->Prop}{s:V1}
variable{nm q:Str}{C N x dx:Addr}{bs bm:List Value}{sn:List Str}{sub:List Value}{ab:Bool}{col:Option Bool}{dd:Option Addr}{k0 k1 k2 k3 k5:Option Value}{newId:String}{name:Str}{v:Value}{o:Obj}{vs:Array Value}{mA:Str->Option Value}
theorem Oa{M:a2l}{a:Value}{Q:Unit->V1->Prop}(e:bm.contains (.type "BaseException")=c7) (hC:s.heap.get? C=b4 (a0O nm q C N bs bm c7 sn sub ab col dd k0 k1 k2 k3 k5 newId))(k:s.heap.get? x=b4 o)(hc:o.cls=.ref C)(j:Q () s) :
  Wm M A (a4Z "BaseException.__getattribute__" ⟨[.ref x,a],[]⟩) Q E s:=by
 have i:builtinKind "BaseException.__getattribute__"=b4 .slot:=by decide +kernel
 have c:splitId "BaseException.__getattribute__"=b4 ("BaseException","__getattribute__"):=by decide +kernel
 have b:(Wg C::bm).contains (.type "BaseException")=true:=by rw[a0L,e,a4V]
 have l:=PySem.F.args_bexc_ga (.ref x) a;obtain⟨h,g,d,t,m⟩:=s;simp only[a4Z,i,c];refine VX ?_;unfold isInstance;repeat (first|(with_reducible refine a0a k ?_;rw[hc])|(with_reducible refine a0Z hC ?_;rw[b])|wp_step)
 exact j
end
end L3
namespace L3
open PySem L2 PySem.Spec PyProof.Rows
noncomputable def pJ(K:VU)(C:Addr):Bool:=(rS K C).isSome&&W5 K (.ref C) "__getattribute__"==b4 (b4 (.builtin "BaseException.__getattribute__"))&&W5 K (.ref C) "__getattr__"==b4 c4 &&
 (PySem.W.clsIn K C).isSome&&W5 K (.ref C) "__class__"==b4 (b4 (.builtin "object.__class__"))&&ZN K (.builtin "object.__class__") "__get__"==b4 (b4 (.builtin "getset_descriptor.__get__")) &&
 a3l K (.builtin "object.__class__")==b4 c7&&a3S K C (.type "object")==b4 c7
section
variable{prog:Wv}{w:WO}{A:WJ}{E:Value->V1->Prop}{s:V1}{K:VU}{x C:Addr}{ox:Obj}{od:Option Obj}
theorem Ob{Q:Option Value->V1->Prop}(c:pJ K C=c7)(X:K.In s.heap)(I:a0g s.heap x ox C od)(h:Q (b4 (.ref C)) {s with toks:=s.toks+1}):Wm (WC prog w) A (getAttr? (.ref x) "__class__") Q E s:=by
 unfold pJ at c;rw[VW,VW,VW,VW,VW,VW,VW,beq_iff_eq,beq_iff_eq,beq_iff_eq,beq_iff_eq,beq_iff_eq,beq_iff_eq]at c;obtain⟨⟨⟨⟨⟨⟨⟨e,q⟩,r⟩,i⟩,u⟩,y⟩,B⟩,G⟩:=c;obtain⟨bm,e⟩:=Xc.mp e;obtain⟨⟨N1,nW,q1,p,sn1,su1,o,l,H,b0,b1,b2,b3,b5,J⟩,M⟩:=rV X e;have N:a3m K C od "__class__"=b4 (.bind (.builtin "getset_descriptor.__get__") (.builtin "object.__class__")):=by obtain⟨cd,i⟩:=Xc.mp i;unfold a3m;rw[i,Wl,u,Wl];simp[y,B]
 have k:=PySem.F.attrBase_ValueError;have f3:=k.ga.bind (.ref x);have O:(c6&&onTheHeap (W0 "BaseException.__getattribute__"))=false:=rfl;have j:(W0 "BaseException.__getattribute__"==W0 "object.__getattribute__")=false:=by decide +kernel
 have R:(onTheHeap (Wg C)&&W0 "BaseException.__getattribute__"==W0 "object.__getattribute__")=false:=by rw[j];rfl
 obtain⟨a,g,d,t,b⟩:=s;have U:=a0e (M:=WC prog w) X q;have Y:=a0e (M:=WC prog w) X r;have Z:=PySem.W.looks_find (M:=WC prog w) X I N;have T:=I.type (M:=WC prog w);have m:=I.at_;have hc:=I.cls;unfold getAttr? getAttrBy?;repeat (any_goals (first|assumption|(with_reducible refine a0a m ?_;rw[hc])|with_reducible refine YV (s:=⟨a,g,d,_,b⟩) U ?_|with_reducible refine YV (s:=⟨a,g,d,_,b⟩) Y ?_|wp_step))
 refine codeAny_call_builtin k.ga.plain PySem.F.entry_bexc_ga (Oa (s:=⟨a,g,d,t+1,b⟩) M J m hc ?_);have L:Wm (WC prog w) A.in1 (call (.builtin "getset_descriptor.__get__") [.builtin "object.__class__",.ref x,.ref C]) (λv n=>v=.ref C/\n=⟨a,g,d,t+1,b⟩) (λ_ _=>False) ⟨a,g,d,t+1,b⟩:=
  Y3 (PySem.W.class_get (s:=⟨a,g,d,t+1,b⟩) X I G ⟨rfl,rfl⟩)
 refine VX (V7 (VX (V7 (VX (YV (s:=⟨a,g,d,t+1,b⟩) T (VX (YV (s:=⟨a,g,d,t+1,b⟩) Z ?_)))))));refine VX (Yi (WR L (λv n z=>?_) λ_ _ z=>z.elim));obtain⟨rfl,rfl⟩:=z;repeat (any_goals (first|assumption|wp_step))
end
theorem Oc{K:VU}{x C:Addr}{o:Obj}(c:pJ K C=c7)(hc:o.cls=.ref C)(hd:∃vs,o.data=.fields vs):PySem.W.KitX K (.ref x) (.ref C) (λh=>∃G,a0g h x o C G) where
 ty:=λ_ _ _ ⟨_,I⟩=>I.type
 it:=λM h X _=>by unfold pJ at c;rw[VW,VW,VW,VW,VW,VW,VW]at c;obtain⟨A,j⟩:=Xc.mp c.1.1.1.1.1.1.1;obtain⟨⟨s,nW,H,i,p,r,d,b,l,u,v,w,y,z,a⟩,B⟩:=rV X j;intro L O N R k q;unfold isType loadHead;exact VX (a5K (k _ _ a) (V7 q))
 ne:=λh J Q E n T X m=>by unfold pJ at c;rw[VW,VW,VW,VW,VW,VW,VW]at c;obtain⟨A,j⟩:=Xc.mp c.1.1.1.1.1.1.1;obtain⟨⟨s,nW,H,i,p,r,d,b,l,u,v,w,y,z,a⟩,B⟩:=rV X j;refine Bool.eq_false_iff.mpr λq=>?_;have e:C=J:=Value.ref.inj (beq_iff_eq.mp q);subst e;rw[m]at a;injection a with a;injection a with h1;injection h1 with h2;exact absurd h2 (by decide)
 ca:=λX ⟨_,I⟩ k=>Ob c X I k
end L3
namespace L3
open PySem L2 PySem.Spec PyProof.Rows
noncomputable def dY(sup:Str->Option Bool)(m:ME):ME:=λd c=>(m d c).bind λp=>match p.1 with
 |.loc a=>(match p.2[a]? with
  |some (.exc x _ _)=>(sup x).map λb=>(.bl b,p.2)
  |_=>c4)
 |_=>c4
noncomputable def l7(K:VU)(cv:Value)(x:Str):Option Bool:=(kU K x).bind λB=>if pJ K B=c7 then a1t K (.ref B) cv else c4
theorem D6{X:Cx}{a:Expr}{c:Str}{cv:Value}{m:ME}{p G pos:XD}{sup:Str->Option Bool}(ha:QE X a m)(hs:b9 a=c7)(hg:Gl X "isinstance") (hm:X.mg "isinstance"=c4)
  (L:∀k s J H Q,Inv X k J H s->Q cv s->Wm (WC X.prog X.w) X.A (eval (.Name c G) X.env) Q X.xe s)(y:∀x b,sup x=b4 b->l7 X.K cv x=b4 b) :
  QE X (.Call (.Name "isinstance" p) [a,.Name c G] [] pos) (dY sup m):=by
 refine⟨λk s J H Q I t=>?_⟩;obtain⟨π,ρ,μ,d,U,R,E,h,kc⟩:=t;unfold dY at h;obtain⟨⟨d1,j⟩,h1,h⟩:=VT.mp h;dsimp only at h;split at h
 ·rename_i i;split at h
  ·rename_i x ns ds hx;obtain⟨b,h2,h⟩:=VZ.mp h;obtain⟨rfl,rfl⟩:D.bl b=d/\j=U:=by cases h;exact⟨rfl,rfl⟩
   have w:Wn [a,.Name c G] X.env=(c6,eval a X.env)::Wn [.Name c G] X.env:=c9 hs;refine XG (jL I hg hm Z5 ?_);refine a0q (args_cons (aT (ha.h k s J H (λv l=>∃e,Ext π μ.length H e j.length l/\Rp X.K e l j/\IsD X.K e j.length l v (.loc i)) I ⟨π,ρ,μ,_,j,R,E,h1,λe v l K A N=>⟨e,K,A,N⟩⟩) λu s1 ⟨v,l,q,rv,e,K,A,N⟩=>args_cons (L k s1 J l _ q (args_nil ?_))) w) w rfl;cases N;obtain rfl:u=Wg (e i):=rv;obtain⟨O,φ,g1,g2,⟨vs,Y⟩,r⟩:=A.exc i x ns ds hx;have o:=y x b h2;unfold l7 at o;obtain⟨B,hB,o⟩:=VT.mp o;split at o
   ·rename_i hI;have n:O.cls=.ref B:=by rw[rW hB]at g2;exact(Wj (Wj g2)).symm
    obtain⟨y1,_⟩:=q.hok _ _ g1;have M:∃T,a0g s1.heap (e i) O B T:=by
     have Z:a3y O=true:=by unfold a3y;rw[Y]
     rcases r with⟨_,_,r⟩|⟨dx,T,us,r,g5,_⟩
     ·exact⟨c4,y1,n,Z,by rw[r];trivial⟩
     ·obtain⟨y2,_⟩:=q.hok _ _ g5;exact⟨b4 T,y1,n,Z,by rw[r];exact y2⟩
    exact X4 (Oc hI n ⟨vs,Y⟩) q.kIn M o (λz=>nomatch z) λtk=>⟨.bl b,l,q.tok tk,rfl,kc e _ l K A (.bl b)⟩
   ·cases o
  ·cases h
 ·cases h
end L3
namespace L3
open PySem L2 PySem.Spec PyProof.Rows
noncomputable def zF(X:Cx):Prop:=∃e,X.A.handled=b4 (.ref e)/\uX e X.H₀
structure FnU(l:Bool)(P:Wv)(w:WO)(K:VU)(mg:Str->Option Value)(base:Xo)(f:Addr)(fd:W8)(ps:List Str)(sp:Sp):Prop where
 len:∀vs H Q E,sp vs H Q E->vs.length=ps.length
 run:∀(A:WJ)(outer:List ZS)(s:V1)(H:Hp)(args:Args)(us:List Value)(vs:List V)(Q:VK)(E:XK),A.depth<Z2->(l=c7->∃e,A.handled=b4 (.ref e)/\uX e H)->Env0 P w K mg base A outer s H->a0Y s fd args (ps.zip us)->Vals vs us->sp vs H Q E->
  ZI (WC P w) A (.call (.ref f) args) (CR dB outer P w H s Q E) s
noncomputable abbrev l8(P:Wv)(w:WO)(K:VU)(c:Str->Option Value)(base:Xo)(N:List Str)(a:Str)(scope:Yl)(f:Addr)(b:Value)(A:WJ)(outer:List ZS)(s:V1)(H:Hp):Cx:=
 {fA dB P w K c base N a scope f b A outer s H (λ_ _ _=>False)with calm:=c6,xe:=λ_ _=>False}
section
variable{P:Wv}{w:WO}{K:VU}{mg:Str->Option Value}{base:Xo}{l:Bool}
theorem Od{N ps:List Str}{a:Str}{scope:Yl}{f:Addr}{c:Value}{A:WJ}{outer:List ZS}{s d:V1}{H:Hp}{us:List Value}{vs:List V}
  (S:FnScope N ps scope)(b:Env0 P w K mg base A outer s H)(e:vs.length=ps.length)(r:Vals vs us)
  (x:InCallC s s.heap.objs.size (a2I (envOfC a scope s.heap.objs.size f c).kindOf (ps.zip us) λ_=>c4) (a2a (s.heap.objs.size+1) scope.names []) (a2J (envOfC a scope s.heap.objs.size f c).kindOf (ps.zip us) λ_=>c4) d) :
  Inv (l8 P w K mg base N a scope f c A outer s H) [] (L2.start N vs) H d:=by
 have I:=Co (CX:=dB) (A:={A with handled:=c4}) (E:=λ_ _ _=>False) S rfl ⟨b.frames,b.mod,b.bs,b.bsz,b.funs,b.frf,b.hok,b.bare⟩ e r x;exact⟨⟨I.ok.mod,I.ok.kind,I.ok.glob,I.ok.blt,I.ok.above,I.ok.inj,I.ok.has,I.ok.cab,(λz=>nomatch z),a2C b.frames,I.ok.stk,I.ok.exf,I.ok.bs,I.ok.bsz,I.ok.noex,I.ok.exfs,I.ok.funs,I.ok.frf⟩,I.os,I.bare,I.base,I.loc,I.cell,I.free,I.freeC,I.pin,I.hok,I.len⟩
theorem Oe{f:Addr}{name a:Str}{c:a5m}{body:List Stmt}{scope:Yl}{Y kV m Z d ct oc:Value}{U od:Option Addr}
  {O:Array (Option Value)}{N ps:List Str}{sp:Sp}(lk:K.lookup f=b4 ⟨oc,od,.func (Xm name a c body scope Y kV m Z U d ct),O⟩)(G:Zc K d a=c7)(S:FnScope N ps scope)
  (len:∀vs H Q E,sp vs H Q E->vs.length=ps.length)
  (h:∀(A:WJ)(outer:List ZS)(s:V1)(H:Hp)(vs:List V)(Q:VK)(E:XK),(l=c7->zF (l8 P w K mg base N a scope f d A outer s H))->sp vs H Q E->
   ∃t,PSs (l8 P w K mg base N a scope f d A outer s H) body t/\t {nx:=λ_ k=>Q .non k,rt:=Q} (L2.start N vs) H) :
  FnU l P w K mg base f (Xm name a c body scope Y kV m Z U d ct) ps sp:=by
 refine⟨len,λA outer s H X us vs Q E hr L p hb r B=>?_⟩;have hl:=len _ _ _ _ B;have T:K.In s.heap:=p.mod.kin.keeps λb o e=>(p.bs b o e).1;have M:s.heap.NoLimit:=p.mod.nolimit.keeps λb o e=>(p.bs b o e).1;have i:∀y∈ps.zip us,scope.names.lookup y.1=b4 .local\/(scope.names.lookup y.1=b4 .cell/\((a2a (s.heap.objs.size+1) scope.names []).lookup y.1).isSome=c7):=λ⟨n,v⟩ hy=>by
  rcases S.par n (a0i hy).1 with q|q
  ·exact .inl q
  ·exact .inr ⟨q,Z4 _ _ _ (.inl q)⟩
 refine a3Q hr (T _ _ lk) rfl S.co S.gen rfl (a2M T G) (hb _ _ _ _ ?_);refine a2D S.kind i λenv he s1 x=>?_;subst he;refine⟨M.keeps x.toInCall.keep,codeAny_func ?_⟩;obtain⟨t,ht,hq⟩:=h A outer s H vs Q E (λz=>L z) B;have I:Inv (l8 P w K mg base N a scope f d A outer s H) [] (L2.start N vs) H s1:=Od S p hl r x;refine WR (ht [] s1 (L2.start N vs) H _ I hq) (λfl s' j=>?_) λe s' j=>j.elim;cases fl with
 |ret u=>obtain⟨v,R,k,J,rv,q⟩:=j;exact⟨v,k,J.os,J.bare,J.base,J.hok,rv,q⟩|next=>obtain⟨R,k,J,q⟩:=j;exact⟨.non,k,J.os,J.bare,J.base,J.hok,rfl,q⟩|brk=>obtain⟨_,_,_,q⟩:=j;exact Wo q|cont=>obtain⟨_,_,_,q⟩:=j;exact Wo q
theorem Of{x a:Str}{st:Stmt}{f:Addr}{r:W8}{N ps:List Str}{m:MS}(F:Fun K x a st f r)(S:FnScope N ps (bN st))(k:ps.length<=N.length)
  (c:∀(b:Value)(A:WJ)(outer:List ZS)(s:V1)(H:Hp),(l=c7->zF (l8 P w K mg base N a (bN st) f b A outer s H))->QB (l8 P w K mg base N a (bN st) f b A outer s H) (dC st) m):FnU l P w K mg base f r ps (cT K ps.length (rL N.length m)):=by
 obtain⟨oc,od,dV,kV,B,pm,Z,b,ct,L,rfl,lk,j⟩:=F.ex;refine Oe lk j S (λM H Q E h=>h.1) λA outer s H M Q E n h=>⟨_,(c b A outer s H n).h,?_⟩;obtain⟨J,U,ds,O,d,T,R,i,e,v⟩:=h;obtain⟨⟨u,q,o⟩,I,e⟩:=VT.mp e;refine⟨U,_,O,u,q,o,R,yG i (by rw[J];exact k),I,?_⟩;cases u with
 |rt d'=>cases e;exact v|nx=>cases e;exact λp X y G z Y=>v p .non y G z .non|bk=>cases e|ct=>cases e
end
section
variable{X:Cx}
theorem Og{f:Addr}{o:W8}{ps:List Str}{i:MF}{x:Str}{p pos:XD}{e:Expr}{es:List Expr}{ms:MA}{n:Nat}(F:FnU c6 X.prog X.w X.K X.mg X.base f o ps (cT X.K n i))(N:X.A.depth<Z2)(M:X.mg x=b4 (.ref f))
  (K:Xe X.K (.ref f)=c7)(E:Binds X.K o ps [])(j:QA X (e::es) ms n)(J:Gl X x)(k:(x==("__debug__":Str))=c6):QE X (.Call (.Name x p) (e::es) [] pos) (aH i ms):=by
 have m:=j.s;rw[WN,VW]at m;have G:=c9 (env:=X.env) m.1 (es:=es);have l:=eC (env:=X.env) m.2 (pos:=pos);refine⟨cN (t:=t8 (cT X.K n i) [] E0 (eT X.K ms)) (λd s O H Q I h=>?_) (CY j.l)⟩;refine XG (jK I J M ?_ k);refine Yb (h₀:=X.base) I.ok.mod.kin K (aT (j.h pos d s O H _ I h) λb w ⟨y,A,c,r,q⟩=>⟨c.kIn,?_⟩) G l;have v:Vals (y++[]) (b++[]):=r.append .nil;have L:(b++[]).length=ps.length:=by rw[<- v.length];exact F.len _ _ _ _ q
 refine Y3 (Yv (F.run X.A X.stack w A ⟨b,[]⟩ (b++[]) (y++[]) Q E0 N (λz=>nomatch z) c.env0 (E w b c.kIn L) v q) λr R a=>?_);cases r with
 |error e=>exact a.elim|ok B=>
  cases B with
  |ret u=>exact c.after a|next=>exact Wo a|brk=>exact Wo a|cont=>exact Wo a
end
end L3
namespace L3
open PySem L2
noncomputable def CAt(K:VU)(x:Str)(C:Addr):Prop:=XC K WZ x=b4 (b4 (.ref C))
theorem CAt.eq{K:VU}{x:Str}{C a:Addr}(h:CAt K x C)(h':CAt K x a):C=a:=by unfold CAt at h h';rw[h]at h';cases h';rfl
theorem kW{K:VU}{π:Nat->Addr}{n:Nat}{H:Hp}{k:Str}:∀(us:List (Str×V))(fs:List (Str×D)),us.map (·.1)=fs.map (·.1)->IsDs K π n H (us.map (·.2)) (fs.map (·.2))->(fs.lookup k=c4->us.lookup k=c4)/\∀d,fs.lookup k=b4 d->∃v,us.lookup k=b4 v/\IsD K π n H v d
 |[],[],_,_=>⟨λ_=>rfl,λd h=>nomatch h⟩|[],_::_,e,_=>nomatch e|_::_,[],e,_=>nomatch e|(y,v)::us,(z,d)::fs,e,i=>by
  rw[We,We,ZZ]at e;obtain⟨a,b⟩:=e;dsimp only at a;subst a;cases i with
  |cons l m=>
   obtain⟨c,j⟩:=kW us fs b m;simp only[Yh];cases p:k==y with
   |true=>exact⟨λh=>(nomatch h),λo h=>by cases h;exact⟨v,rfl,l⟩⟩|false=>exact⟨c,j⟩
noncomputable def hW(f:Str)(v:D):List (Str×D)->List (Str×D)
 |[]=>[(f,v)]|(g,x)::r=>if g=f then(g,v)::r else(g,x)::hW f v r
theorem D7{K:VU}{π:Nat->Addr}{n:Nat}{H:Hp}{k:Str}{v:V}{d:D}(a:IsD K π n H v d):∀(us:List (Str×V))(fs:List (Str×D)),us.map (·.1)=fs.map (·.1)->IsDs K π n H (us.map (·.2)) (fs.map (·.2))->
  (eI k v us).map (·.1)=(hW k d fs).map (·.1)/\IsDs K π n H ((eI k v us).map (·.2)) ((hW k d fs).map (·.2))
 |[],[],_,_=>⟨rfl,.cons a .nil⟩|[],_::_,e,_=>nomatch e|_::_,[],e,_=>nomatch e|(y,w)::us,(z,d')::fs,e,i=>by
  rw[We,We,ZZ]at e;obtain⟨b,c⟩:=e;dsimp only at b;subst b;cases i with
  |cons m h=>
   obtain⟨j,l⟩:=D7 a us fs c h;unfold eI hW;split
   ·exact⟨by rw[We,We,c],.cons a h⟩
   ·exact⟨by rw[We,We,j],.cons m l⟩
noncomputable def fG(x f:Str)(m:ME):ME:=λc b=>(m c b).bind λp=>match p.1 with
 |.loc a=>(match p.2[a]? with
  |some (.ins y fs)=>if y=x then(fs.lookup f).map λd=>(d,p.2)else c4
  |_=>c4)
 |_=>c4
noncomputable def i8(x f:Str)(c mv:ME):MS:=λb d=>(mv b d).bind λp=>(c b p.2).bind λq=>match q.1 with
 |.loc a=>(match q.2[a]? with
  |some (.ins y fs)=>if y=x/\fs.length<100 then b4 (.nx,b,q.2.set a (.ins y (hW f p.1 fs)))else c4
  |_=>c4)
 |_=>c4
noncomputable def cG(x m:Str)(c:MF)(d:ME)(ms:MA):ME:=λb e=>(d b e).bind λp=>match p.1 with
 |.loc a=>(match p.2[a]? with
  |some (.ins y fs)=>if y=x/\fs.lookup m=c4 then(ms b p.2).bind λq=>c (.loc a::q.1) q.2 else c4
  |_=>c4)
 |_=>c4
noncomputable def hX(x:Str)(a:MF)(ms:MA):ME:=λc b=>(ms c b).bind λq=>(a (.loc q.2.length::q.1) (q.2++[.ins x []])).bind λr=>match r.1 with
 |.non=>b4 (.loc q.2.length,r.2)|_=>c4
theorem Rp.insAt{K:VU}{π:Nat->Addr}{H:Hp}{c:Hm}(R:Rp K π H c){a:Nat}{x:Str}{fs:List (Str×D)}{C:Addr}(h:c[a]?=b4 (.ins x fs))(hc:CAt K x C):∃b vs,H (π a)=b4 (.ins C b vs)/\vs.map (·.1)=fs.map (·.1)/\IsDs K π c.length H (vs.map (·.2)) (fs.map (·.2)):=by obtain⟨o,d,k,b,vs,rfl,e,i,j⟩:=R.ins a x fs h;obtain rfl:=CAt.eq hc e;exact⟨b,vs,d,i,j⟩
section
variable{X:Cx}{o e value:Expr}{x f m:Str}{C:Addr}{mo mv:ME}{ms:MA}{pos pos' apos cpos:XD}{k n:Nat}{g:Addr}{fd:W8}{ps:List Str}{fm:MF}
theorem Oh(G:QE X o mo)(I:dE o=c7)(hC:CAt X.K x C)(c:Cls X.K C)(M:NoAttr X.K C f):QE X (.Attribute o f pos) (fG x f mo):=
 ⟨cN (JK G.h (iZ I)) (by
  rintro σ H Q ⟨Z,ρ,T,d,U,R,E,l,L⟩;unfold fG at l;obtain⟨⟨d1,Y⟩,A,h⟩:=VT.mp l;dsimp only at h;split at h
  ·rename_i a;split at h
   ·rename_i y fs J;split at h
    ·rename_i b;subst b;obtain⟨d2,B,h⟩:=VZ.mp h;cases h;refine⟨Z,ρ,T,_,_,R,E,A,λi v q s j K=>?_⟩;cases K;obtain⟨r,p,u,g2,z⟩:=j.insAt J hC;obtain⟨w,N,O⟩:=(kW p fs g2 z).2 _ B;exact⟨_,C,r,p,w,rfl,u,c,M,N,L i w q s j O⟩
    ·cases h
   ·cases h
  ·cases h)⟩
theorem Oi(U:QE X o mo)(Y:QE X value mv)(T:eK value=c7)(hC:CAt X.K x C)(c:Cls X.K C)(na:NoAttr X.K C f):QS X (.Assign [.Attribute o f pos'] value pos) (i8 x f mo mv):=
 ⟨jO (JL U.h Y.h (o9 T)) (by
  rintro D σ H ⟨π,K,μ,fl,ρ',μ',R,E,G,kc⟩;unfold i8 at G;obtain⟨⟨d,b⟩,O,h⟩:=VT.mp G;obtain⟨⟨d2,r⟩,Q,B⟩:=VT.mp h;clear h;have h:=B;clear B;dsimp only at h;split at h
  ·rename_i a;split at h
   ·rename_i y fs J;split at h
    ·rename_i q;obtain⟨rfl,hl⟩:=q;cases h;refine⟨π,K,μ,_,b,R,E,O,λs v H1 l L Z=>⟨s,K,b,_,r,L,E.mono l,Q,λu v2 H2 p R2 i2=>?_⟩⟩;cases i2;obtain⟨j,i,A,g2,N⟩:=R2.insAt J hC;have I:i.length=fs.length:=by simpa using congrArg WY g2
     obtain⟨p1,p2⟩:=D7 (k:=f) (Z.mono p) i fs g2 N;obtain⟨w,M⟩:=R2.putE (c:=.ins y (hW f d fs)) (o:=.ins C j (eI f v i)) (VY.mp J).1 A ⟨λ_ z=>(nomatch z),λ_ _ z=>(nomatch z)⟩ ⟨C,j,_,rfl,hC,p1,p2⟩;exact⟨_,C,j,i,rfl,A,c,na,by omega,kc u _ _ ((l.trans p).trans w) M (((E.mono l).mono p).mono w)⟩
    ·cases h
   ·cases h
  ·cases h)⟩
theorem pK {env:ZS}{args:List Expr}(l:dE o=c7)(i:(apos.endLine == cpos.line)=c7)(c:args.all b9=c7)(j:args.length<30):eval (.Call (.Attribute o m apos) args [] cpos) env=(do
   let d <- eval o env
   a0b apos.atName
   let (f,first) <- holding [d] (a0l d m (do return (<- a0c o env).getD c7))
   a2H cpos f first (XM cpos (Wn args env)) (Yu cpos (XJ [] env))):=by
 have h:(XM cpos (Wn args env)).all (fun x=>!x.1)=true:=by
  have:=eC (pos:=cpos) (env:=env) c
  rw [Z9]
  simpa using this
 have a:a0M (args.length+([]:List YE).length) (XM cpos (Wn args env)) (Yu cpos (XJ [] env))=true:=by
  unfold a0M
  rw [h]
  simpa [Yu,XJ] using j
 have b:a1l c7 o env apos cpos=pure cpos:=by unfold a1l;simp [i]
 rw [arm_eval_Call,iZ l]
 congr 1
 funext d
 congr 1
 funext _
 unfold methodCall
 rw [a]
 unfold calleeOf
 simp only [if_true]
 congr 1
 funext p
 rw [b]
 rfl
theorem D8{K:VU}{E:XK}(hC:CAt K x C)(Y:∀j r ds b,ms j r=b4 (ds,b)->ds.length=n):∀σ H Q,tM K (cG x m fm mo ms) σ H Q->t9 C m (cT K (n+1) fm) [] E (tM K mo) (eT K ms) σ H Q:=by
 rintro σ H Q ⟨π,j,r,d,b,R,E,B,kc⟩;unfold cG at B;obtain⟨⟨d1,c⟩,T,h⟩:=VT.mp B;dsimp only at h;split at h
 ·rename_i a;split at h
  ·rename_i y fs Z;split at h
   ·rename_i p;obtain⟨rfl,l⟩:=p;obtain⟨⟨q,i⟩,G,h⟩:=VT.mp h;refine⟨π,j,r,_,c,R,E,T,λs v H1 z w i1=>?_⟩;cases i1;rename_i U;obtain⟨M,J,N,g2,O⟩:=w.insAt Z hC;refine⟨_,M,J,rfl,N,(kW J fs g2 O).1 l,s,j,c,q,i,w,E.mono z,G,λu ws L A R2 I=>?_⟩;show cT K (n+1) fm (_::(ws++[])) L Q _;rw[W4];refine⟨by rw[Ww,I.length,Y j c q i G],u,.loc a::q,i,d,b,R2,.cons ((IsD.loc U).mono A) I,h,kc.after (z.trans A)⟩
   ·cases h
  ·cases h
 ·cases h
theorem Oj{es:List Expr}(l:QE X o mo)(q:dE o=c7)(h:(apos.endLine==cpos.line)=c7)(hC:CAt X.K x C)(c:Cls X.K C)(i:Meth X.K C m g)(F:FnOk X.prog X.w X.K X.mg X.base dB k g fd ps (cT X.K (n+1) fm))(p:Room k X.A)(d:Binds X.K fd ps [])(b:QA X (e::es) ms n)(j:(e::es).length<30) :
  QE X (.Call (.Attribute o m apos) (e::es) [] cpos) (cG x m fm mo ms):=by
 have a:=b.s;rw[WN,VW]at a;exact⟨cN (Cf l.h c i F p d .nil (E:=E0) nB b.h (c9 a.1) (eC a.2) (pK q h b.s j)) (D8 hC b.l)⟩
theorem Ol(I:QE X o mo)(K:dE o=c7)(B:(apos.endLine==cpos.line)=c7)(hC:CAt X.K x C)(c:Cls X.K C)(G:Meth X.K C m g)(F:FnOk X.prog X.w X.K X.mg X.base dB k g fd ps (cT X.K 1 fm))(J:Room k X.A)(z:Binds X.K fd ps []) :
  QE X (.Call (.Attribute o m apos) [] [] cpos) (cG x m fm mo aD):=
 ⟨cN (JU I.h c G F J z .nil (E:=E0) nB (pK K B rfl (by decide))) λσ H Q h=>by
  obtain⟨Y,Z,O,d,i,R,E,w,N⟩:=D8 (n:=0) (E:=E0) hC CZ σ H Q h;refine⟨Y,Z,O,d,i,R,E,w,λj v p s q L=>?_⟩;obtain⟨a,r,fs,u,A,b,l,ρ2,T,xs,U,R2,E2,y,M⟩:=N j v p s q L;cases y;exact⟨a,r,fs,u,A,b,M l [] p .refl R2 .nil⟩⟩
theorem Om{K:VU}{E:XK}(hC:CAt K x C)(Z:∀l j ds b,ms l j=b4 (ds,b)->ds.length=n):∀σ H Q,tM K (hX x fm ms) σ H Q->Ce C (cT K (n+1) fm) [] E (eT K ms) σ H Q:=by
 rintro σ H Q ⟨π,l,j,d,b,R,E,G,kc⟩;unfold hX at G;obtain⟨⟨w,a⟩,I,h⟩:=VT.mp G;obtain⟨⟨d2,μ2⟩,J,h⟩:=VT.mp h;dsimp only at h J;split at h
 ·cases h;refine⟨π,l,j,w,a,R,E,I,λc ws M Y O L p i hp hd r=>?_⟩;obtain⟨z,R2⟩:=O.fresh (o:=.own p) hd;obtain⟨A,T,p3⟩:=R2.alloc (p:=p) (c:=.ins x []) (o:=.ins C i []) (by rw[bG (WL r)];exact hp) ⟨C,i,[],rfl,hC,rfl,.nil⟩;show cT K (n+1) fm (_::(ws++[])) _ _ _;rw[W4];have q:a.length<(a++[L3.C.ins x []]).length:=by rw[V5];exact XT _
  have s:IsD K (fH c a.length p) (a++[L3.C.ins x []]).length (upd (upd M i (.own p)) p (.ins C i [])) (V.ref (fH c a.length p a.length)) (.loc a.length):=IsD.loc q;rw[p3]at s;refine⟨by rw[Ww,L.length,Z l j w a I],_,.loc a.length::w,_,.non,_,T,.cons s ((L.mono z).mono A),J,λy v N B U i4=>?_⟩;cases i4;have u:=s.mono B;exact⟨rfl,kc y _ N (((Y.trans z).trans A).trans B) U u⟩
 ·cases h
theorem Oo{es:List Expr}{p:XD}(M:Mk X.K C g)(hC:CAt X.K x C)(F:FnOk X.prog X.w X.K X.mg X.base dB k g fd ps (cT X.K (n+1) fm))(q:Room (k+1) X.A)(l:Gl X x)(j:Binds X.K fd ps [])(c:QA X (e::es) ms n)(d:(x==("__debug__":Str))=c6) :
  QE X (.Call (.Name x p) (e::es) [] pos) (hX x fm ms):=by
 have a:=c.s;rw[WN,VW]at a;refine⟨λb s i H Q I h=>?_⟩;exact JW M F q l (YI I.mod.kin I.mod.glob hC) j .nil (E:=E0) nB c.h d (c9 a.1) (eC a.2) b s i H Q I (Om hC c.l i H Q h)
end
end L3
namespace L3
open PySem L2
theorem Oq{X:Cx}{e:Expr}{m:ME}(h:∀c b,m c b=c4):QE X e m:=⟨λa5T s σ H Q I t=>by
 obtain⟨k,c,b,d,i,R,E,a,j⟩:=t;rw[h]at a;cases a⟩
noncomputable def eE(x m:Str)(r:RF)(c:ME)(ms:MA):MR:=λb d=>(c b d).bind λp=>match p.1 with
 |.loc a=>(match p.2[a]? with
  |some (.ins y fs)=>if y=x/\fs.lookup m=c4 then(ms b p.2).bind λq=>(r (.loc a::q.1) q.2).map λz=>(z.1,b,z.2)else c4
  |_=>c4)
 |_=>c4
section
variable{X:Cx}{k n:Nat}{f C:Addr}{fd:W8}{ps:List Str}{x m:Str}{pos apos cpos:XD}{o e:Expr}{es:List Expr}{mo:ME}{ms:MA}{r:RF}
theorem D9{a5T:List (Addr×Obj)}{σ:St}{h:Hp}{z:V1}{d:Nat->Addr}{a c:Hm}{I:aG}{vs:List V}{us:List Value}{ds:List D}{y:Xn}(E:X.ex=[])(F:FnOk X.prog X.w X.K X.mg X.base (dX X.prog X.w) k f fd ps (eD X.K n r))(Y:Room k X.A)(Q:Binds X.K fd ps [])
  (A:Inv X a5T σ h z)(L:Rp X.K d h a)(J:En X.K d a.length h σ I)(H:Vals vs us)(U:vs.length=n)(i1:IsDs X.K d a.length h vs ds)(O:r ds a=b4 (y,c))(w:Wish X a5T d a.length h y I c) :
  Wm (WC X.prog X.w) X.A (call (.ref f) us) (λ_ _=>False) X.xe z:=by
 have l:eD X.K n r vs h (λ_ _=>False) (λcls p i=>∃b,Ext d a.length h b c.length i/\Rp X.K b i c/\lX X.K b c.length i cls p y):=
  ⟨U,d,ds,a,y,c,L,i1,O,λb i cls p s B G=>⟨b,s,B,G⟩⟩
 have R:us.length=ps.length:=by rw[<- H.length];exact F.len _ _ _ _ l
 refine Y3 (Yv (F.run X.A X.stack z h ⟨us,[]⟩ us vs _ _ Y A.env0 (by have:=Q z us A.kIn (by simpa using R);rwa [W4]at this) H l) λZ s' j=>?_);cases Z with
 |error v=>obtain⟨M,i,cls,p,T,rfl,K,x',b,s,B,G⟩:=rR E A j;exact w b σ i s' M cls p (b4 (T,.none)) s B (J.mono s) K x' G|ok N=>
  cases N with
  |ret u=>obtain⟨_,_,_,_,_,_,_,q⟩:=j;exact q|next=>exact Wo j|brk=>exact Wo j|cont=>exact Wo j
theorem Ot(O:X.ex=[])(ho:QE X.nox o mo)(hs:dE o=c7)(hl:(apos.endLine==cpos.line)=c7)(hC:CAt X.K x C)(c:Cls X.K C)(hm:Meth X.K C m f)(F:FnOk X.prog X.w X.K X.mg X.base (dX X.prog X.w) k f fd ps (eD X.K (n+1) r))(hr:Room k X.A)(hb:Binds X.K fd ps [])
  (L:QA X.nox (e::es) ms n)(hn:(e::es).length<30):QRE X (.Call (.Attribute o m apos) (e::es) [] cpos) (eE x m r mo ms):=by
 refine⟨λA s σ H π Z μ y ρ' μ' I R E h0 w=>?_⟩;unfold eE at h0;obtain⟨⟨d1,d⟩,h1,h⟩:=VT.mp h0;dsimp only at h;split at h
 ·rename_i a;split at h
  ·rename_i z fs hz;split at h
   ·rename_i U;obtain⟨rfl,Q⟩:=U;obtain⟨⟨ds,j⟩,h2,h⟩:=VT.mp h;obtain⟨⟨y',μ3⟩,h3,h⟩:=VZ.mp h;cases h;refine X7 (pl:=do return(<- a0c o X.env).getD c7) ?_ (pK hs hl L.s hn);have k1:=ho.h A s σ H (λv l=>∃b,Ext π μ.length H b d.length l/\Rp X.K b l d/\IsD X.K b d.length l v (.loc a)) (I.wish _) ⟨π,Z,μ,_,d,R,E,h1,λb v l B K Y=>⟨b,B,K,Y⟩⟩;refine WR k1 (λu s1 ⟨v,l,J,rv,b,B,K,Y⟩=>?_) λ_ _ z=>Wo z;have J:=J.unwish;cases Y;rename_i T;obtain rfl:u=Wg (b a):=rv;obtain⟨dx,vs,g1,g2,g3⟩:=K.insAt hz hC;refine m9 J g1 c hm ((kW vs fs g2 g3).1 Q) ?_;have p:=L.s;rw[WN,VW]at p;have k2:=L.h cpos A s1 σ l (λN q=>∃i,Ext b d.length l i j.length q/\Rp X.K i q j/\IsDs X.K i j.length q N ds) (J.wish _) ⟨b,Z,d,ds,j,K,E.mono B,h2,λi N q G R2 M=>⟨i,G,R2,M⟩⟩;refine Yb (first:=[.ref (b a)]) (h₀:=X.base) I.ok.mod.kin hm.kp (WR k2 (λus s2 ⟨N,q,I2,r2,i,G,R2,M⟩=>⟨I2.unwish.kIn,?_⟩) λ_ _ z=>Wo z) (c9 p.1) (eC p.2);have il:=(IsD.loc (K:=X.K) (π:=b) (H:=l) T).mono G;exact D9 (us:=.ref (b a)::us) (vs:=.ref (b a)::N) O F hr hb I2.unwish R2 ((E.mono B).mono G) (.cons rfl r2) (by rw[Ww,M.length,L.l Z d ds j h2]) (.cons il M) h3 (w.after (B.trans G))
   ·cases h
  ·cases h
 ·cases h
theorem Ou(A:X.ex=[])(ho:QE X.nox o mo)(hs:dE o=c7)(hl:(apos.endLine==cpos.line)=c7)(hC:CAt X.K x C)(c:Cls X.K C)(M:Meth X.K C m f)(F:FnOk X.prog X.w X.K X.mg X.base (dX X.prog X.w) k f fd ps (eD X.K 1 r))(hr:Room k X.A)(hb:Binds X.K fd ps []):QRE X (.Call (.Attribute o m apos) [] [] cpos) (eE x m r mo aD):=by
 refine⟨λq s σ H O ρ N y ρ' μ' I R E L w=>?_⟩;unfold eE at L;obtain⟨⟨d1,d⟩,U,h⟩:=VT.mp L;dsimp only at h;split at h
 ·rename_i a;split at h
  ·rename_i z fs hz;split at h
   ·rename_i J;obtain⟨rfl,B⟩:=J;obtain⟨⟨ds,μ2⟩,Y,h⟩:=VT.mp h;obtain⟨⟨y',μ3⟩,Z,h⟩:=VZ.mp h;cases h;refine X7 (pl:=do return(<- a0c o X.env).getD c7) ?_ (pK hs hl rfl (by decide));have k1:=ho.h q s σ H (λv i=>∃b,Ext O N.length H b d.length i/\Rp X.K b i d/\IsD X.K b d.length i v (.loc a)) (I.wish _) ⟨O,ρ,N,_,d,R,E,U,λb v i p l K=>⟨b,p,l,K⟩⟩;refine WR k1 (λu s1 ⟨v,i,j,rv,b,p,l,K⟩=>?_) λ_ _ z=>Wo z;have j:=j.unwish;cases K;rename_i G;obtain rfl:u=Wg (b a):=rv;obtain⟨dx,vs,Q,g2,T⟩:=l.insAt hz hC;refine m9 j Q c M ((kW vs fs g2 T).1 B) ?_;cases Y;have il:=IsD.loc (K:=X.K) (π:=b) (H:=i) G;exact a0n (first:=[.ref (b a)]) j.kIn M.kp (D9 (us:=[.ref (b a)]) (vs:=[.ref (b a)]) A F hr hb j l (E.mono p) (.cons rfl .nil) rfl (.cons il .nil) Z (w.after p))
   ·cases h
  ·cases h
 ·cases h
theorem Ov{c:MR}(d:QRE X e c)(i:b9 e=c7):QRE X (.List [e] pos) c:=⟨λa5T s σ H π l j y b a I R E h w=>
 a4x (a5z (aT (d.h a5T s σ H π l j y b a I R E h w) λ_ _ z=>z.elim) (c9 i))⟩
end
end L3
namespace L3
open PySem L2
noncomputable def l9(ex:List D)(a:MF):MF:=λds b=>a (ds++ex) b
noncomputable def mD(K:VU)(a:List V)(ex:List D):Prop:=∀π n H,IsDs K π n H a ex
section
variable{X:Cx}{o e:Expr}{x m:Str}{C:Addr}{mo:ME}{ms:MA}{pos apos cpos:XD}{k n:Nat}{g:Addr}{fd:W8}{ps:List Str}{fm:MF}{ex:List D}{dvs:List V}{dsV:List Value}
theorem Ox{K:VU}{E:XK}(hx:mD K dvs ex)(hC:CAt K x C)(Z:∀l s ds c,ms l s=b4 (ds,c)->ds.length=n):∀σ H Q,tM K (cG x m (l9 ex fm) mo ms) σ H Q->t9 C m (cT K (n+1+ex.length) fm) dvs E (tM K mo) (eT K ms) σ H Q:=by
 rintro σ H Q ⟨π,l,s,d,c,R,E,B,kc⟩;unfold cG at B;obtain⟨⟨d1,i⟩,U,h⟩:=VT.mp B;dsimp only at h;split at h
 ·rename_i a;split at h
  ·rename_i y fs hy;split at h
   ·rename_i q;obtain⟨rfl,p⟩:=q;obtain⟨⟨r,b⟩,G,h⟩:=VT.mp h;refine⟨π,l,s,_,i,R,E,U,λu v H1 z w i1=>?_⟩;cases i1;rename_i Y;obtain⟨N,L,O,g2,T⟩:=w.insAt hy hC;refine⟨_,N,L,rfl,O,(kW L fs g2 T).1 p,u,l,i,r,b,w,E.mono z,G,λj ws M A R2 I=>?_⟩;have J:=hx j b.length M;refine⟨by rw[Ww,V5,I.length,J.length,Z l i r b G];omega,j,.loc a::(r++ex),b,d,c,R2,.cons ((IsD.loc Y).mono A) (I.append J),h,kc.after (z.trans A)⟩
   ·cases h
  ·cases h
 ·cases h
theorem Oy{es:List Expr}(r:mD X.K dvs ex)(hd:Vals dvs dsV)(l:QE X o mo)(q:dE o=c7)(h:(apos.endLine==cpos.line)=c7)(hC:CAt X.K x C)(c:Cls X.K C)(i:Meth X.K C m g)(F:FnOk X.prog X.w X.K X.mg X.base dB k g fd ps (cT X.K (n+1+ex.length) fm))(p:Room k X.A)(d:Binds X.K fd ps dsV)(b:QA X (e::es) ms n)(j:(e::es).length<30) :
  QE X (.Call (.Attribute o m apos) (e::es) [] cpos) (cG x m (l9 ex fm) mo ms):=by
 have a:=b.s;rw[WN,VW]at a;exact⟨cN (Cf l.h c i F p d hd (E:=E0) nB b.h (c9 a.1) (eC a.2) (pK q h b.s j)) (Ox r hC b.l)⟩
end
noncomputable def mE(b:MF):MF:=λds c=>match ds with
 |[s,a,u,v]=>b [s,a,v,u] c|_=>c4
noncomputable def g2{b:Type}(us ws:List b):List b:=match us,ws with
 |[s,a],[u,v]=>[s,a,v,u]|_,_=>[]
noncomputable def Ea(C:Addr)(m:Str)(sp:Sp)(h:List V->List V->List V)(E:XK)(i:TE)(t tk:TA):TE:=λσ H Q=>i σ H λx b=>∃a e fs,x=.ref a/\b a=b4 (.ins C e fs)/\fs.lookup m=c4 /\
 t σ b λj c=>tk σ c λk d=>sp (h (x::j) k) d Q E
section
variable{X:Cx}{CX:gU}{k:Nat}{f C:Addr}{fd:W8}{ps ks:List Str}{sp:Sp}{E:XK}{x m:Str}{pos apos cpos p1 p2:XD}{e o e1 e2:Expr}{kws:List YE}{ta:TE}{t tk:TA}{g:List Value->List Value->List Value}{gV:List V->List V->List V}{k1 k2:Str}{mo ma mu mv:ME}{fm:MF}
theorem Oz {pl:a3x Bool}(O:PE X o ta)(c:Cls X.K C)(z:Meth X.K C m f)(F:FnOk X.prog X.w X.K X.mg X.base CX k f fd ps sp)(R:Room k X.A)(N:KBinds X.K fd ps ks g gV)(U:jM CX X E)(M:PA X [e] t)(j:PK X kws tk)(d:(Yu pos (XJ kws X.env)).all (·.1.isSome)=c7)(i:(Yu pos (XJ kws X.env)).filterMap (·.1)=ks)
  (p:Wn [e] X.env=(c6,eval e X.env)::Wn [] X.env)(n:((XM pos (Wn [e] X.env)).any (·.1)||(Yu pos (XJ kws X.env)).any (·.1.isNone))=c6)
  (T:eval (.Call (.Attribute o m apos) [e] kws pos) X.env=(do
   let A <- eval o X.env
   a0b apos.atName
   let (f,first) <- holding [A] (a0l A m pl)
   a2H pos f first (XM pos (Wn [e] X.env)) (Yu pos (XJ kws X.env)))) :
  PE X (.Call (.Attribute o m apos) [e] kws pos) (Ea C m sp gV E ta t tk):=by
 intro b s v H Q I h
 refine X7 (pl:=pl) (aT (O b s v H _ I h) fun u s1 ⟨x,B,w,rx,a,dx,fs,L,K,l,q⟩=>?_) T
 subst L
 obtain rfl:u=Wg a:=rx
 refine m9 w K c z l ?_
 refine a2x (first:=[.ref a]) (h₀:=X.base) I.ok.mod.kin z.kp d (aT (M pos b s1 v B _ w q) fun us s2 ⟨vs,G,J,r,Y⟩=>?_) n p
 refine aT (j pos b s2 v G _ J Y) fun ws s3 ⟨zs,H3,y,rz,Z⟩=>⟨y.kIn,?_⟩
 rw [i]
 exact JX (us:=.ref a::us) (vs:=.ref a::vs) F R N U y (.cons rfl r) rz Z
theorem Eb {env:ZS}(j:dE o=c7)(i:(apos.endLine == cpos.line)=c7)(c:b9 e=c7):eval (.Call (.Attribute o m apos) [e] [⟨b4 k1,e1,p1⟩,⟨b4 k2,e2,p2⟩] cpos) env=(do
   let d <- eval o env
   a0b apos.atName
   let (f,first) <- holding [d] (a0l d m (do return (<- a0c o env).getD c7))
   a2H cpos f first (XM cpos (Wn [e] env)) (Yu cpos (XJ [⟨b4 k1,e1,p1⟩,⟨b4 k2,e2,p2⟩] env))):=by
 have h:(XM cpos (Wn [e] env)).all (fun x=>!x.1)=true:=by
  have:=eC (pos:=cpos) (env:=env) (es:=[e]) (by simpa using c)
  rw [Z9]
  simpa using this
 have a:a0M ([e].length+([⟨b4 k1,e1,p1⟩,⟨b4 k2,e2,p2⟩]:List YE).length) (XM cpos (Wn [e] env)) (Yu cpos (XJ [⟨b4 k1,e1,p1⟩,⟨b4 k2,e2,p2⟩] env))=true:=by
  unfold a0M
  rw [h]
  rfl
 have b:a1l c7 o env apos cpos=pure cpos:=by unfold a1l;simp [i]
 rw [arm_eval_Call,iZ j]
 congr 1
 funext d
 congr 1
 funext _
 unfold methodCall
 rw [a]
 unfold calleeOf
 simp only [if_true]
 congr 1
 funext p
 rw [b]
 rfl
theorem Ec{ma mu mv:ME}{q:aG}{i j:Hm}{xs:List D}(h:aB ma (aB mu (aB mv aD)) q i=b4 (xs,j)):∃l a n b p,ma q i=b4 (l,a)/\mu q a=b4 (n,b)/\mv q b=b4 (p,j)/\xs=[l,n,p]:=by unfold aB at h;obtain⟨⟨l,a⟩,w,h⟩:=VT.mp h;obtain⟨⟨G,s⟩,c,h⟩:=VT.mp h;cases h;obtain⟨⟨n,b⟩,y,c⟩:=VT.mp c;obtain⟨⟨H,u⟩,d,z⟩:=VT.mp c;cases z;obtain⟨⟨p,B⟩,A,d⟩:=VT.mp d;obtain⟨⟨I,v⟩,r,z⟩:=VT.mp d;cases z;cases r;exact⟨l,a,n,b,p,w,y,A,rfl⟩
theorem OA{K:VU}{E:XK}(hC:CAt K x C):∀σ H Q,tM K (cG x m (mE fm) mo (aB ma (aB mu (aB mv aD)))) σ H Q->Ea C m (cT K 4 fm) g2 E (tM K mo) (q0 (tM K ma) oJ) (q0 (tM K mu) (q0 (tM K mv) oJ)) σ H Q:=by
 rintro σ H Q ⟨π,q,μ,d,u,R,E,M,kc⟩;unfold cG at M;obtain⟨⟨d1,b⟩,h1,h⟩:=VT.mp M;dsimp only at h;split at h
 ·rename_i a;split at h
  ·rename_i y fs hy;split at h
   ·rename_i s;obtain⟨rfl,r⟩:=s;obtain⟨⟨xs,c⟩,h2,h⟩:=VT.mp h;refine⟨π,q,μ,_,b,R,E,h1,λw v H1 e1 G i1=>?_⟩;cases i1;rename_i ha;obtain⟨Y,N,Z,g2,g3⟩:=G.insAt hy hC;obtain⟨I,i,J,j,L,ja,ju,jv,rfl⟩:=Ec h2;refine⟨_,Y,N,rfl,Z,(kW N fs g2 g3).1 r,w,q,b,I,i,G,E.mono e1,ja,λz va Ha l O ia=>?_⟩;refine⟨z,q,i,J,j,O,(E.mono e1).mono l,ju,λA vu Hu n T iu=>?_⟩;refine⟨A,q,j,L,c,T,((E.mono e1).mono l).mono n,jv,λB vv Hv p U iv=>?_⟩;exact⟨rfl,B,[.loc a,I,L,J],c,d,u,U,.cons ((((IsD.loc ha).mono l).mono n).mono p) (.cons ((ia.mono n).mono p) (.cons iv (.cons (iu.mono p) .nil))),h,kc.after (((e1.trans l).trans n).trans p)⟩
   ·cases h
  ·cases h
 ·cases h
theorem OB(n:QE X o mo)(q:dE o=c7)(j:(apos.endLine==cpos.line)=c7)(hC:CAt X.K x C)(c:Cls X.K C)(l:Meth X.K C m f)(F:FnOk X.prog X.w X.K X.mg X.base dB k f fd ps (cT X.K 4 fm))(p:Room k X.A)(i:KBinds X.K fd ps [k1,k2] g2 g2)(h:QE X e ma)(b:QE X e1 mu)(d:QE X e2 mv)(a:b9 e=c7) :
  QE X (.Call (.Attribute o m apos) [e] [⟨b4 k1,e1,p1⟩,⟨b4 k2,e2,p2⟩] cpos) (cG x m (mE fm) mo (aB ma (aB mu (aB mv aD)))):=by
 have r:([e]:List Expr).all b9=true:=by simpa using a
 refine⟨cN (Oz n.h c l F p i (E:=E0) nB (xW h.h xV (c9 a)) (uB b.h (uB d.h Cg)) rfl rfl (c9 a) ?_ (Eb q j a)) (OA hC)⟩;rw[eC r];rfl
end
noncomputable def rY(ex:List D)(r:RF):RF:=λds a=>r (ds++ex) a
noncomputable def kX(x:Str)(r:RF)(ms:MA):MR:=λa b=>(ms a b).bind λq=>(r (.loc q.2.length::q.1) (q.2++[.ins x []])).map λz=>(z.1,a,z.2)
section
variable{X:Cx}{k n:Nat}{f C:Addr}{fd:W8}{ps:List Str}{x m:Str}{pos apos cpos p:XD}{o e:Expr}{es:List Expr}{mo:ME}{ms:MA}{r:RF}{ex:List D}{dvs:List V}{dsV:List Value}
theorem OC{a5T:List (Addr×Obj)}{σ:St}{h:Hp}{E:V1}{c:Nat->Addr}{a d:Hm}{J:aG}{vs:List V}{us:List Value}{ds:List D}{y:Xn}(hx:mD X.K dvs ex)(hd:Vals dvs dsV)(I:X.ex=[])(F:FnOk X.prog X.w X.K X.mg X.base (dX X.prog X.w) k f fd ps (eD X.K (n+ex.length) r))(Z:Room k X.A)(R:Binds X.K fd ps dsV)
  (G:Inv X a5T σ h E)(M:Rp X.K c h a)(K:En X.K c a.length h σ J)(rv:Vals vs us)(Y:vs.length=n)(i1:IsDs X.K c a.length h vs ds)(Q:rY ex r ds a=b4 (y,d))(w:Wish X a5T c a.length h y J d) :
  Wm (WC X.prog X.w) X.A (call (.ref f) us) (λ_ _=>False) X.xe E:=by
 have j:=hx c a.length h;have s:eD X.K (n+ex.length) r (vs++dvs) h (λ_ _=>False) (λcls A i=>∃b,Ext c a.length h b d.length i/\Rp X.K b i d/\lX X.K b d.length i cls A y):=
  ⟨by rw[V5,Y,j.length],c,ds++ex,a,y,d,M,i1.append j,Q,λb i cls A B H j=>⟨b,B,H,j⟩⟩
 have z:=rv.append hd;have U:(us++dsV).length=ps.length:=by rw[<- z.length];exact F.len _ _ _ _ s
 refine Y3 (Yv (F.run X.A X.stack E h ⟨us,[]⟩ (us++dsV) (vs++dvs) _ _ Z G.env0 (R E us G.kIn U) z s) λrr s' l=>?_);cases rr with
 |error v=>obtain⟨N,i,cls,A,T,rfl,L,x',b,B,H,j⟩:=rR I G l;exact w b σ i s' N cls A (b4 (T,.none)) B H (K.mono B) L x' j|ok O=>
  cases O with
  |ret u=>obtain⟨_,_,_,_,_,_,_,q⟩:=l;exact q|next=>exact Wo l|brk=>exact Wo l|cont=>exact Wo l
theorem OD(hx:mD X.K dvs ex)(hd:Vals dvs dsV)(Q:X.ex=[])(ho:QE X.nox o mo)(hs:dE o=c7)(hl:(apos.endLine==cpos.line)=c7)(hC:CAt X.K x C)(c:Cls X.K C)(hm:Meth X.K C m f)(F:FnOk X.prog X.w X.K X.mg X.base (dX X.prog X.w) k f fd ps (eD X.K (n+1+ex.length) r))(hr:Room k X.A)(hb:Binds X.K fd ps dsV)
  (M:QA X.nox (e::es) ms n)(hn:(e::es).length<30):QRE X (.Call (.Attribute o m apos) (e::es) [] cpos) (eE x m (rY ex r) mo ms):=by
 refine⟨λB s σ H π ρ μ y ρ' μ' I R E h0 w=>?_⟩;unfold eE at h0;obtain⟨⟨d1,d⟩,h1,h⟩:=VT.mp h0;dsimp only at h;split at h
 ·rename_i a;split at h
  ·rename_i z fs hz;split at h
   ·rename_i Y;obtain⟨rfl,T⟩:=Y;obtain⟨⟨ds,j⟩,h2,h⟩:=VT.mp h;obtain⟨⟨y',μ3⟩,h3,h⟩:=VZ.mp h;cases h;refine X7 (pl:=do return(<- a0c o X.env).getD c7) ?_ (pK hs hl M.s hn);have k1:=ho.h B s σ H (λv l=>∃b,Ext π μ.length H b d.length l/\Rp X.K b l d/\IsD X.K b d.length l v (.loc a)) (I.wish _) ⟨π,ρ,μ,_,d,R,E,h1,λb v l G L Z=>⟨b,G,L,Z⟩⟩;refine WR k1 (λu s1 ⟨v,l,K,rv,b,G,L,Z⟩=>?_) λ_ _ z=>Wo z;have K:=K.unwish;cases Z;rename_i U;obtain rfl:u=Wg (b a):=rv;obtain⟨dx,vs,g1,g2,g3⟩:=L.insAt hz hC;refine m9 K g1 c hm ((kW vs fs g2 g3).1 T) ?_;have q:=M.s;rw[WN,VW]at q;have k2:=M.h cpos B s1 σ l (λO A=>∃i,Ext b d.length l i j.length A/\Rp X.K i A j/\IsDs X.K i j.length A O ds) (K.wish _) ⟨b,ρ,d,ds,j,L,E.mono G,h2,λi O A J R2 N=>⟨i,J,R2,N⟩⟩;refine Yb (first:=[.ref (b a)]) (h₀:=X.base) I.ok.mod.kin hm.kp (WR k2 (λus s2 ⟨O,A,I2,r2,i,J,R2,N⟩=>⟨I2.unwish.kIn,?_⟩) λ_ _ z=>Wo z) (c9 q.1) (eC q.2);have il:=(IsD.loc (K:=X.K) (π:=b) (H:=l) U).mono J;exact OC (us:=.ref (b a)::us) (vs:=.ref (b a)::O) hx hd Q F hr hb I2.unwish R2 ((E.mono G).mono J) (.cons rfl r2) (by rw[Ww,N.length,M.l ρ d ds j h2]) (.cons il N) h3 (w.after (G.trans J))
   ·cases h
  ·cases h
 ·cases h
theorem OE(hex:X.ex=[])(M:Mk X.K C f)(hC:CAt X.K x C)(F:FnOk X.prog X.w X.K X.mg X.base (dX X.prog X.w) k f fd ps (eD X.K (n+1) r))(hr:Room (k+1) X.A)(hg:Gl X x)(hb:Binds X.K fd ps [])(ha:QA X.nox (e::es) ms n)(hdb:(x==("__debug__":Str))=c6) :
  QRE X (.Call (.Name x p) (e::es) [] pos) (kX x r ms):=by
 have l:=ha.s;rw[WN,VW]at l;refine⟨λa5T s σ H π ρ μ y ρ' μ' I R E h0 w=>?_⟩;unfold kX at h0;obtain⟨⟨ds,a⟩,h1,h⟩:=VT.mp h0;obtain⟨⟨y',i⟩,h2,h⟩:=VZ.mp h;cases h;dsimp only at h2;refine XG (jK I hg (YI I.mod.kin I.mod.glob hC) ?_ hdb);have k2:=ha.h pos a5T s σ H (λN O=>∃d,Ext π μ.length H d a.length O/\Rp X.K d O a/\IsDs X.K d a.length O N ds) (I.wish _) ⟨π,ρ,μ,ds,a,R,E,h1,λd N O J R2 i2=>⟨d,J,R2,i2⟩⟩;refine Yb (h₀:=X.base) I.ok.mod.kin M.kp (WR k2 (λA b ⟨N,Y,j,r1,B,e1,R1,i1⟩=>⟨j.unwish.kIn,?_⟩) λ_ _ z=>Wo z) (c9 l.1) (eC l.2);have j:=j.unwish;have hp:=j.hok.fresh (a:=b.heap.objs.size+1) (a3b _);have hd:=j.hok.fresh (a:=b.heap.objs.size) (Wa _);have hne:b.heap.objs.size≠b.heap.objs.size+1:=WB (XT _);obtain⟨J,R2⟩:=R1.fresh (o:=.own (b.heap.objs.size+1)) hd;obtain⟨e3,R3,p3⟩:=R2.alloc (p:=b.heap.objs.size+1) (c:=.ins x []) (o:=.ins C b.heap.objs.size []) (by rw[bG (WL hne)];exact hp) ⟨C,b.heap.objs.size,[],rfl,hC,rfl,.nil⟩;have hlt:a.length<(a++[L3.C.ins x []]).length:=by rw[V5];exact XT _
 have il:IsD X.K (fH B a.length (b.heap.objs.size+1)) (a++[L3.C.ins x []]).length (upd (upd Y b.heap.objs.size (.own (b.heap.objs.size+1))) (b.heap.objs.size+1) (.ins C b.heap.objs.size [])) (V.ref (fH B a.length (b.heap.objs.size+1) a.length)) (.loc a.length):=IsD.loc hlt;rw[p3]at il;have i3:=(i1.mono J).mono e3;have L:eD X.K (n+1) r (.ref (b.heap.objs.size+1)::N) (upd (upd Y b.heap.objs.size (.own (b.heap.objs.size+1))) (b.heap.objs.size+1) (.ins C b.heap.objs.size [])) (λ_ _=>False) (λcls Q G=>∃c,Ext (fH B a.length (b.heap.objs.size+1)) (a++[L3.C.ins x []]).length (upd (upd Y b.heap.objs.size (.own (b.heap.objs.size+1))) (b.heap.objs.size+1) (.ins C b.heap.objs.size [])) c i.length G/\Rp X.K c G i/\lX X.K c i.length G cls Q y'):=
  ⟨by rw[Ww,i1.length,ha.l ρ μ ds a h1],_,.loc a.length::ds,_,y',i,R3,.cons il i3,h2,λc G cls Q U R' ix=>⟨c,U,R',ix⟩⟩
 have Z:=Inv.made (C:=C) j;have r2:Vals (V.ref (b.heap.objs.size+1)::N) (Wg (b.heap.objs.size+1)::A):=.cons rfl r1;have hl:(Wg (b.heap.objs.size+1)::A).length=ps.length:=by rw[<- r2.length];exact F.len _ _ _ _ L
 refine Y3 (B9 (f:=f) j.kIn M.makes M.init (beq_iff_eq.mp M.fn) (Yv (F.run _ X.stack _ _ ⟨Wg (b.heap.objs.size+1)::A,[]⟩ (Wg (b.heap.objs.size+1)::A) _ _ _ (hr.make C A [])
  (Z.env0.make C A []) (by have:=hb _ (Wg (b.heap.objs.size+1)::A) Z.kIn (by rw[W4];exact hl);rwa [W4]at this) r2 L) λrr s' K=>?_))
 cases rr with
 |error v=>obtain⟨ee,G,cls,Q,T,rfl,I',x',c,U,R',ix⟩:=rR hex Z K;exact(w.after (((e1.trans J).trans e3))) c σ G s' ee cls Q (b4 (T,.none)) U R' ((((E.mono e1).mono J).mono e3).mono U) I' x' ix|ok fl=>
  cases fl with
  |ret u=>obtain⟨_,_,_,_,_,_,_,q⟩:=K;exact q.elim|next=>exact Wo K|brk=>exact Wo K|cont=>exact Wo K
end
noncomputable def u3(r:RF):RF:=λds b=>match ds with
 |[s,a,u,v]=>r [s,a,v,u] b|_=>c4
section
variable{X:Cx}{k:Nat}{f C:Addr}{fd:W8}{ps:List Str}{x m k1 k2:Str}{apos cpos p1 p2:XD}{o e e1 e2:Expr}{mo ma mu mv:ME}{r:RF}
theorem OF(hex:X.ex=[])(ho:QE X.nox o mo)(hs:dE o=c7)(hl:(apos.endLine==cpos.line)=c7)(hC:CAt X.K x C)(c:Cls X.K C)(hm:Meth X.K C m f)(F:FnOk X.prog X.w X.K X.mg X.base (dX X.prog X.w) k f fd ps (eD X.K 4 r))(hr:Room k X.A)(hb:KBinds X.K fd ps [k1,k2] g2 g2)
  (ha:QE X.nox e ma)(q1:QE X.nox e1 mu)(q2:QE X.nox e2 mv)(B:b9 e=c7):QRE X (.Call (.Attribute o m apos) [e] [⟨b4 k1,e1,p1⟩,⟨b4 k2,e2,p2⟩] cpos) (eE x m (u3 r) mo (aB ma (aB mu (aB mv aD)))):=by
 have sa:([e]:List Expr).all b9=true:=by simpa using B
 refine⟨λO s σ H π ρ μ y ρ' μ' I R E h0 w=>?_⟩;unfold eE at h0;obtain⟨⟨d1,n⟩,h1,h⟩:=VT.mp h0;dsimp only at h;split at h
 ·rename_i a;split at h
  ·rename_i z fs hz;split at h
   ·rename_i hzx;obtain⟨rfl,hlk⟩:=hzx;obtain⟨⟨ds,j⟩,h2,h⟩:=VT.mp h;obtain⟨⟨y',L⟩,h3,h⟩:=VZ.mp h;cases h;obtain⟨da,p,du,μu,dv,ja,ju,jv,rfl⟩:=Ec h2;refine X7 (pl:=do return(<- a0c o X.env).getD c7) ?_ (Eb hs hl B);have ko:=ho.h O s σ H (λv M=>∃b,Ext π μ.length H b n.length M/\Rp X.K b M n/\IsD X.K b n.length M v (.loc a)) (I.wish _) ⟨π,ρ,μ,_,n,R,E,h1,λb v M e1 R1 i1=>⟨b,e1,R1,i1⟩⟩;refine WR ko (λu s1 ⟨v,M,I1,rv,b,e1,R1,i1⟩=>?_) λ_ _ z=>Wo z;have I1:=I1.unwish;cases i1;rename_i hlt;obtain rfl:u=Wg (b a):=rv;obtain⟨dx,vs,g1,g2,g3⟩:=R1.insAt hz hC;refine m9 I1 g1 c hm ((kW vs fs g2 g3).1 hlk) ?_;have E1:=E.mono e1;have ka:=xW ha.h xV (c9 B) cpos O s1 σ M (λK N=>∃v i,K=[v]/\Ext b n.length M i p.length N/\Rp X.K i N p/\IsD X.K i p.length N v da) (I1.wish _) ⟨b,ρ,n,da,p,R1,E1,ja,λi v N e2 R2 i2=>⟨v,i,rfl,e2,R2,i2⟩⟩;refine a2x (first:=[.ref (b a)]) (h₀:=X.base) I.ok.mod.kin hm.kp rfl (WR ka (λus s2 ⟨K,N,I2,r2,va,i,ew,e2,R2,i2⟩=>?_) λ_ _ z=>Wo z) (by rw[eC sa];rfl) (c9 B);subst ew;have I2:=I2.unwish;have E2:=E1.mono e2;have kk:=uB (nm:=b4 k1) (kpos:=p1) q1.h (uB (nm:=b4 k2) (kpos:=p2) q2.h Cg) cpos O s2 σ N (λK A=>∃G J d,K=[G,J]/\Ext i p.length N d j.length A/\Rp X.K d A j/\IsD X.K d j.length A G du/\IsD X.K d j.length A J dv) (I2.wish _) ⟨i,ρ,p,du,μu,R2,E2,ju,λd G A Q R3 i3=>⟨d,ρ,μu,dv,j,R3,E2.mono Q,jv,λπ4 J H4 e4 R4 i4=>⟨G,J,π4,rfl,Q.trans e4,R4,i3.mono e4,i4⟩⟩⟩;refine WR kk (λK s3 ⟨zs,A,Y,rz,G,J,d,ez,Q,R3,iu,iv⟩=>⟨Y.unwish.kIn,?_⟩) λ_ _ z=>Wo z;subst ez;have Y:=Y.unwish;have il:=((IsD.loc (K:=X.K) (π:=b) (H:=M) hlt).mono e2).mono Q;have hsp:eD X.K 4 r [.ref (b a),va,J,G] A (λ_ _=>False) (λcls dc U=>∃l,Ext d j.length A l L.length U/\Rp X.K l U L/\lX X.K l L.length U cls dc y'):=
     ⟨rfl,d,[.loc a,da,dv,du],j,y',L,R3,.cons il (.cons (i2.mono Q) (.cons iv (.cons iu .nil))),h3,λl U cls dc e' R' ix=>⟨l,e',R',ix⟩⟩
    have rg:Vals [V.ref (b a),va,J,G] (L3.g2 (Wg (b a)::us) K):=hb.rel (vs:=[.ref (b a),va]) (zs:=[G,J]) (.cons rfl r2) rz;have Z:(L3.g2 (Wg (b a)::us) K).length=ps.length:=by rw[<- rg.length];exact F.len _ _ _ _ hsp
    refine Y3 (Yv (F.run X.A X.stack s3 A ⟨Wg (b a)::us,_⟩ (L3.g2 (Wg (b a)::us) K) [.ref (b a),va,J,G] _ _ hr Y.env0 (hb.to s3 _ K Y.kIn Z) rg hsp) λrr s' hq=>?_);cases rr with
    |error v=>obtain⟨ee,U,cls,dc,T,rfl,I',x',l,e',R',ix⟩:=rR hex Y hq;exact(w.after ((e1.trans e2).trans Q)) l σ U s' ee cls dc (b4 (T,.none)) e' R' ((E2.mono Q).mono e') I' x' ix|ok fl=>
     cases fl with
     |ret u=>obtain⟨_,_,_,_,_,_,_,q⟩:=hq;exact q.elim|next=>exact Wo hq|brk=>exact Wo hq|cont=>exact Wo hq
   ·cases h
  ·cases h
 ·cases h
end
end L3
namespace L3
open PySem PySem.Spec
namespace Tb
section
variable{prog:Wv}{w:WO}{A:WJ}{E:Value->V1->Prop}{s:V1}
noncomputable abbrev IsT(prog:Wv)(w:WO)(h:Xo)(k:List Int)(b:Addr):Prop:=IsTupleKey (YO prog w) h k b
end
section
variable{prog:Wv}{w:WO}{A:WJ}{R:a2L->V1->Prop}{I:Addr}{fp wr:List Addr}{G:Array a4l->Array a4l->Prop}{n:Nat}{P:Nat->Value->Prop}{St:Nat->V1->Prop}
end
section
variable{prog:Wv}{w:WO}{A:WJ}{E:Value->V1->Prop}{s:V1}
noncomputable abbrev f9(a:Bool):Obj:={cls:=.type "set",dict:=c4,data:=.set #[] 0 (.fresh 0 0 a)}
end
end Tb
end L3
namespace L3
open PySem L2
open PyProof.Rows (IntsAre)
theorem Ed:∀{ds:List D}{k:List Int},y8 ds=b4 k->ds=k.map D.int
 |[],k,h=>by cases h;rfl
 |d::ds,k,h=>by
  cases d with
  |int i=>obtain⟨c,a,b⟩:=VZ.mp h;subst b;rw[Ed a];rfl|_=>cases h
theorem OG{x:D}{k:List Int}(h:fE x=b4 k):x=.tup (k.map D.int):=by
 cases x with
 |tup ds=>rw[Ed h]|_=>cases h
noncomputable def u4(b:Hm):D->Option (List D)
 |.rol xs=>b4 xs|.loc a=>match b[a]? with
  |some (.lst xs)=>b4 xs|_=>c4
 |_=>c4
section
variable{K:VU}{π:Nat->Addr}{n:Nat}{H:Hp}{μ:Hm}
theorem OH{v:V}{x:D}{xs:List D}(R:Rp K π H μ)(h:IsD K π μ.length H v x)(e:u4 μ x=b4 xs):∃p vs,v=.ref p/\SqL K H p vs/\IsDs K π μ.length H vs xs:=by
 cases h with
 |rol q t=>cases e;exact⟨_,_,rfl,q.sq,t⟩|@loc a i=>
  simp only[u4]at e;split at e
  ·rename_i j d;cases e;obtain⟨vs,b,c⟩:=R.lst a xs d;exact⟨_,vs,rfl,.of b,c⟩
  ·cases e
 |_=>cases e
theorem ints_of':∀{vs:List V}{k:List Int},IsDs K π n H vs (k.map D.int)->vs=k.map V.int
 |_,[],h=>by cases h;rfl
 |_,i::k,h=>by
  cases h with
  |cons h t=>cases h;rw[ints_of' t];rfl
theorem Ee:∀(k:List Int),IsDs K π n H (k.map V.int) (k.map D.int)
 |[]=>.nil|i::k=>.cons (.int i) (Ee k)
end
theorem Ef{X:Cx}:∀{k:List Int}{xs:List Value},Vals (k.map V.int) xs->ItemsAre (YO X.prog X.w) k xs
 |[],_,h=>by cases h;exact .nil
 |i::k,_,h=>by
  cases h with
  |cons h t=>obtain⟨a,rfl⟩:=h;exact .cons (intKind_is _ _ _ _) (Ef t)
section
variable{X:Cx}{a5T:List (Addr×Obj)}{σ:St}{H:Hp}{s:V1}
theorem pL(I:Inv X a5T σ H s){b:Addr}{k:List Int}(h:SqT X.K H b (k.map V.int)):Tb.IsT X.prog X.w s.heap k b:=by obtain⟨j,i,⟨a,e,c,n,d⟩,_⟩:=I.tuple h;exact⟨a,j.toArray,n,e,c,d,by simpa using Ef i⟩
theorem call_lenT:CallR X (.builtin "len") (λxs H Q=>∃a L,xs=[V.ref a]/\H a=b4 (uG a L)/\Q (.int L.length) H):=by
 intro a5T s σ H xs z Q I r h;obtain⟨a,L,rfl,e,q⟩:=h;obtain⟨u,rfl,x⟩:=lQ r;cases x;obtain⟨⟨o,n,w,d,y,t,R,c,hd,i,ok,p,hnd,l,j,v,k⟩,_,_⟩:=I.hok a _ e;have b:d.size=L.length:=by have:=p.length_eq;simpa using this
 have m:t.mask<=511:=by rcases l with h|h|h|h<;>omega
 refine call_len_set n c hd (Tb.fits_of ok i) (by rw[b];omega) ?_;rw[b];exact⟨.int L.length,H,I.tok _,⟨_,rfl⟩,q⟩
end
end L3
namespace L3
open PySem L2
end L3
namespace L3
open PySem L2
open PyProof.Rows (IntsAre Fr News seqObj)
end L3
namespace L3
open PySem
open PySem.W (KasT kas_asc kas_desc kas_tail3 kas_descPart kas_count kas_place kas_bin kas_sort kas_rev)
open PyProof.Rows (mirror bubble getElem?_bubble getElem?_mirror_all mirror_size bubble_size)
section
variable{α:Type}{lt:α->α->Bool}(irr:∀a,lt a a=c6)(tr:∀a b c,lt a b=c7->lt b c=c7->lt a c=c7)(nt:∀a b c,lt a b=c7->lt a c=c7\/lt c b=c7)
end
end L3
namespace L3
open PySem L2
section
variable{X:Cx}{a b c:Expr}{ma mb mc:ME}{pos:XD}
noncomputable def mF(f g:D->D->Hm->Option (D×Hm))(a b c:ME):ME:=λd e=>(a d e).bind λp=>(b d p.2).bind λq=>(f p.1 q.1 q.2).bind λr=>match r.1 with
 |.bl c7=>(c d r.2).bind λt=>g q.1 t.1 t.2|.bl c6=>b4 (.bl c6,r.2)|_=>c4
theorem Eg{f g:D->D->Hm->Option (D×Hm)}{r J:R2}{K:VU}(hf:cZ K f r)(hg:cZ K g J):∀σ H Q,tM K (mF f g ma mb mc) σ H Q->xQ r J (tM K ma) (tM K mb) (tM K mc) σ H Q:=by
 rintro σ H Q ⟨π,w,μ,d,q,R,E,e,k⟩;obtain⟨⟨x,h⟩,Y,e⟩:=VT.mp e;obtain⟨⟨y,i⟩,Z,e⟩:=VT.mp e;obtain⟨⟨z,j⟩,h3,e⟩:=VT.mp e;refine⟨π,w,μ,x,h,R,E,Y,λs v1 H1 n T i1=>⟨s,w,h,y,i,T,E.mono n,Z,λu L M o R2 I=>?_⟩⟩;refine hf u M i x y z j v1 L _ R2 (i1.mono o) I h3 λm v3 N p A i3=>?_;cases z with
 |bl B=>
  cases i3;refine⟨B,rfl,?_⟩;cases B with
  |true=>refine nD ?_;obtain⟨⟨t,l⟩,h4,e⟩:=VT.mp e;exact⟨m,w,j,t,l,A,((E.mono n).mono o).mono p,h4,λv v4 O G U i4=>hg v O l y t d q L v4 Q U ((I.mono p).mono G) i4 e (k.after (((n.trans o).trans p).trans G))⟩|false=>refine nC ?_;cases e;exact k m _ N ((n.trans o).trans p) A (.bl c6)
 |_=>cases e
noncomputable def kY:Zf->Option (Int->Int->Bool)
 |.Lt=>b4 λi j=>decide (i<j)|.LtE=>b4 λi j=>decide (i<=j)|.Gt=>b4 λi j=>decide (j<i)|.GtE=>b4 λi j=>decide (j<=i)|_=>c4
theorem pM{op:Zf}{p:Int->Int->Bool}(h:kY op=b4 p):OpR X (Xd op) (gT λi j=>.bl (p i j))/\(op=.Lt\/op=.LtE\/op=.Gt\/op=.GtE):=by cases op<;>first|(cases h;first|exact⟨xK,by simp⟩|exact⟨xM,by simp⟩|exact⟨xO,by simp⟩|exact⟨xP,by simp⟩)|cases h
theorem Eh{op d:Zf}(h':d=.Lt\/d=.LtE\/d=.Gt\/d=.GtE):a4Y [op,d] [b,c]=false:=by show YW d c=c6;rcases h' with rfl|rfl|rfl|rfl<;>exact dH _
theorem OI{op d:Zf}{p q:Int->Int->Bool}(h:kY op=b4 p)(h':kY d=b4 q)(e:QE X a ma)(i:QE X b mb)(hc:QE X c mc):QE X (.Compare a [op,d] [b,c] pos) (mF (gI p) (gI q) ma mb mc):=
 ⟨cN (Jt (pM h).1 (pM h').1 e.h i.h hc.h (Eh (pM (X:=X) h').2)) (Eg iG iG)⟩
theorem OJ{op d:Zf}{p q:Int->Int->Bool}(h:kY op=b4 p)(h':kY d=b4 q)(i:QE X a ma)(j:QE X b mb)(hc:QE X c mc):QT X (.Compare a [op,d] [b,c] pos) (aN (mF (gI p) (gI q) ma mb mc)):=
 ⟨rD (Ju (pM h).1 (pM h').1 i.h j.h hc.h (Eh (pM (X:=X) h').2)) λe H Q h=>Eg iG iG e H _ (yC e H Q h)⟩
noncomputable def u5(neg:Bool):D->D->Hm->Option (D×Hm)
 |.bl b,.bl c,μ=>b4 (.bl (if neg then !(b==c)else b==c),μ)|.int _,.bl _,μ=>b4 (.bl neg,μ)|_,_,_=>c4
noncomputable def cL(neg:Bool):D->D->Hm->Option (D×Hm):=λx y d=>match y with
 |.bl _=>u5 neg x y d|_=>jR neg x y d
noncomputable def zG(neg:Bool):R2:=λx y H Q=>∃c,y=.bl c/\((∃b,x=.bl b/\Q (.bl (if neg then !(b==c)else b==c)) H)\/((∃i,x=.int i)/\Q (.bl neg) H))
theorem u6{K:VU}{neg:Bool}:cZ K (u5 neg) (zG neg):=by
 intro j H o x y d l m n Q R h i e k;unfold u5 at e;split at e
 ·cases e;cases h;cases i;exact⟨_,rfl,.inl ⟨_,rfl,k j _ H .refl R (.bl _)⟩⟩
 ·cases e;cases h;cases i;exact⟨_,rfl,.inr ⟨⟨_,rfl⟩,k j _ H .refl R (.bl _)⟩⟩
 ·cases e
theorem Ei:OpR X (Xd .Is) (zG c6):=by
 intro e s k H x y v u Q I d j h;obtain⟨c,rfl,h⟩:=h;cases j;rcases h with⟨b,rfl,q⟩|⟨⟨i,rfl⟩,q⟩
 ·cases d;exact V7 (m8 I q (by cases b<;>cases c<;>rfl))
 ·obtain⟨t,rfl⟩:=d;exact V7 (m8 I q rfl)
theorem Ej:OpR X (Xd .IsNot) (zG c7):=by
 intro e s k H x y v u Q I d j h;obtain⟨c,rfl,h⟩:=h;cases j;rcases h with⟨b,rfl,q⟩|⟨⟨i,rfl⟩,q⟩
 ·cases d;exact V7 (m8 I q (by cases b<;>cases c<;>rfl))
 ·obtain⟨t,rfl⟩:=d;exact V7 (m8 I q rfl)
theorem u7{neg:Bool}(x y:D)(d:Hm)(r:D×Hm)(h:cL neg x y d=b4 r):u5 neg x y d=b4 r\/jR neg x y d=b4 r:=by
 unfold cL at h;split at h
 ·exact .inl h
 ·exact .inr h
theorem OK(d:QE X a ma)(e:QE X b mb):QE X (.Compare a [.Is] [b] pos) (aC (cL c6) ma mb):=nM ⟨fB Ei u6 d.h e.h (dH _)⟩ (Nr d e) (g8 u7)
theorem OL(d:QE X a ma)(e:QE X b mb):QE X (.Compare a [.IsNot] [b] pos) (aC (cL c7) ma mb):=nM ⟨fB Ej u6 d.h e.h (dH _)⟩ (Nt d e) (g8 u7)
theorem OM(d:QE X a ma)(e:QE X b mb):QT X (.Compare a [.Is] [b] pos) (aN (aC (cL c6) ma mb)):=pF ⟨fC Ei u6 d.h e.h (dH _)⟩ (Nu d e) (pG (g8 u7))
theorem ON(d:QE X a ma)(e:QE X b mb):QT X (.Compare a [.IsNot] [b] pos) (aN (aC (cL c7) ma mb)):=pF ⟨fC Ej u6 d.h e.h (dH _)⟩ (Nv d e) (pG (g8 u7))
end
section
variable{X:Cx}
end
noncomputable def zH:MF:=λds a=>match ds with
 |[.int i,.int j]=>b4 (.int (if j<i then j else i),a)|_=>c4
noncomputable def zI:MF:=λds a=>match ds with
 |[.int i,.int j]=>b4 (.int (if j>i then j else i),a)|_=>c4
theorem OO{K:VU}:fR K zH (λxs H Q=>∃i j,xs=[.int i,.int j]/\Q (.int (if j<i then j else i)) H):=by
 intro h H m xs d e l Q R i a k;unfold zH at a;split at a
 ·cases a;cases i with
  |cons i t=>
   cases i;cases t with
   |cons b c=>cases b;cases c;exact⟨_,_,rfl,k h _ H .refl R (.int _)⟩
 ·cases a
theorem OP{K:VU}:fR K zI (λxs H Q=>∃i j,xs=[.int i,.int j]/\Q (.int (if j>i then j else i)) H):=by
 intro h H m xs d e l Q R i a k;unfold zI at a;split at a
 ·cases a;cases i with
  |cons i t=>
   cases i;cases t with
   |cons b c=>cases b;cases c;exact⟨_,_,rfl,k h _ H .refl R (.int _)⟩
 ·cases a
noncomputable def eF{b:Type}(xs:List b)(lo a st:Option Int):List b:=(a2F (Yk lo a st xs.length).1 (Yk lo a st xs.length).2.1 (Yk lo a st xs.length).2.2).filterMap (xs[·]?)
noncomputable def nO(a:ME)(lo d st:MO):ME:=λb e=>(a b e).bind λp=>(lo b p.2).bind λq=>(d b q.2).bind λr=>(st b r.2).bind λt=>if t.1≠b4 0 then(u4 t.2 p.1).bind λc=>if(eF c q.1 r.1 t.1).length<=Wb then b4 (.loc t.2.length,t.2++[.lst (eF c q.1 r.1 t.1)])else c4 else c4
theorem OQ{K:VU}{π:Nat->Addr}{n:Nat}{H:Hp}{vs:List V}{ds:List D}(h:IsDs K π n H vs ds)(lo a st:Option Int):IsDs K π n H (eF vs lo a st) (eF ds lo a st):=by
 unfold eF;rw[h.length];generalize a2F _ _ _=l;induction l with
 |nil=>exact .nil|cons i l b=>
  rw[X6,X6];cases a:ds[i]? with
  |none=>
   have:vs[i]?=none:=by rw[XE]at a ⊢;rw[h.length];exact a
   rw[this];exact b
  |some d=>obtain⟨v,c,e⟩:=h.get a;rw[c];exact .cons e b
theorem OR{vs:List V}{its:List Value}(r:Vals vs its)(lo a st:Option Int):Vals (eF vs lo a st) (eF its lo a st):=by
 unfold eF;rw[r.length];generalize a2F _ _ _=l;induction l with
 |nil=>exact .nil|cons i l b=>
  rw[X6,X6];cases a:vs[i]? with
  |none=>
   have:its[i]?=none:=by rw[XE]at a ⊢;rw[<- r.length];exact a
   rw[this];exact b
  |some v=>obtain⟨u,c,d⟩:=r.get a;rw[c];exact .cons d b
section
variable{X:Cx}{e:Expr}{te:TE}{lo hi:Option Expr}{st:Expr}{tl th tt:TO}{pos p2:XD}
noncomputable def OS(K:VU)(te:TE)(tl th tt:TO):TE:=λσ H Q=>te σ H λx c=>tl σ c λl d=>th σ d λu h=>tt σ h λt b=>t≠b4 0/\∃a xs,x=.ref a/\SqL K b a xs/\(eF xs l u t).length<=Wb/\∀p,b p=c4->Q (.ref p) (upd b p (.lst (eF xs l u t)))
open PyProof.Rows in
theorem OT(N:PE X e te)(O:PO X lo tl)(T:PO X hi th)(R:PO X (b4 st) tt):PE X (.Subscript e (.Slice lo hi (b4 st) p2) pos) (OS X.K te tl th tt):=by
 intro c s j H Q I h;refine a2K (aT (N c s j H _ I h) λv s1 ⟨x,z,G,r1,q1⟩=>?_);refine wpAny_Slice (aT (O c s1 j z _ G q1) λp s2 ⟨l,A,J,pl,q2⟩=>aT (T c s2 j A _ J q2) λy s3 ⟨u,B,K,pu,q3⟩=>aT (R c s3 j B _ K q3) λw d ⟨t,E,L,pt,q4⟩=>?_);obtain⟨M,a,xs,rfl,U,Y,q⟩:=q4;cases r1;have n:Inv X c j E {d with heap:=d.heap.push {cls:=.type "slice",data:=.fields #[p,y,w]}}:=L.kept (t':=d.toks) λb ob q=>V8 _ q;obtain⟨m,r,k,Z⟩:=n.list U;have o:=r.length;show Wm (WC X.prog X.w) X.A (a1k e (.Slice lo hi (b4 st) p2) (.ref a) (.ref d.heap.objs.size)) (EP X c j Q) X.xe {d with heap:=d.heap.push {cls:=.type "slice",data:=.fields #[p,y,w]}};refine a5N (ops:=[.ref a,.ref d.heap.objs.size]) k.isList.typeIs a1E.lookup ?_ (by with_unfolding_all rfl);refine a2X k.isList (a1C ..) pl pu pt M ?_ (by rw[WA]<;>omega);have i:a3k m.toArray l u t=(eF m l u t).toArray:=by unfold a3k eF;simp
 rw[i];refine⟨.ref _,_,n.laid (t':=d.toks) (o:=.lst (eF xs l u t)) (λb ob q=>V8 _ q) (Wa _) ?_,rfl,q _ (n.hok.fresh (Wa _))⟩;exact⟨Y,_,0,OR r l u t,Ws _ rfl⟩
theorem OU{me:ME}{B A mt:MO}(Z:QE X e me)(hl:QO X lo B)(hu:QO X hi A)(ht:QO X (b4 st) mt):QE X (.Subscript e (.Slice lo hi (b4 st) p2) pos) (nO me B A mt):=⟨cN (OT Z.h hl.h hu.h ht.h) (by
 rintro σ H Q ⟨π,n,μ,d,μ',R,E,a,k⟩;obtain⟨⟨x,c⟩,N,a⟩:=VT.mp a;obtain⟨⟨l,h⟩,O,a⟩:=VT.mp a;obtain⟨⟨u,i⟩,T,a⟩:=VT.mp a;obtain⟨⟨t,r⟩,U,a⟩:=VT.mp a;refine⟨π,n,μ,x,c,R,E,N,λs v1 H1 j I i1=>⟨s,n,c,l,h,I,E.mono j,O,λv H2 m R2=>⟨v,n,h,u,i,R2,(E.mono j).mono m,T,λw H3 o J=>⟨w,n,i,t,r,J,((E.mono j).mono m).mono o,U,λπ4 H4 z y=>?_⟩⟩⟩⟩;split at a
 ·rename_i M;obtain⟨xs,Y,a⟩:=VT.mp a;split at a
  ·rename_i hz;cases a;obtain⟨p,G,rfl,q,hd⟩:=OH y (((i1.mono m).mono o).mono z) Y;have b:=OQ hd l u t;refine⟨M,p,G,rfl,q,by rw[b.length];exact hz,λp' hp=>?_⟩;obtain⟨L,K,_⟩:=y.alloc (c:=.lst (eF xs l u t)) (o:=.lst (eF G l u t)) hp b;exact k _ _ _ ((((j.trans m).trans o).trans z).trans L) K jP
  ·cases a
 ·cases a)⟩
end
section
variable{X:Cx}{a5T:List (Addr×Obj)}{σ:St}{H:Hp}{s:V1}{h':Xo}
theorem OV{t':Nat}{ch:List Addr}{a:Addr}{o:HO}(I:Inv X a5T σ H s)(k:∀b u,b∉ch->s.heap.get? b=b4 u->h'.get? b=b4 u)(j:∀b∈ch,iS X a5T H b)(l:s.heap.objs.size<=a)
  (new:ObjOk X.prog X.w (upd H a o) h' a o):Inv X a5T σ (upd H a o) {s with heap:=h',toks:=t'}:=by
 have d:=I.hok.fresh l;have h:∀b u,H b=b4 u->b∉ch:=λb u e z=>by have:=(j b z).1;rw[e]at this;cases this
 refine I.step (g':=s.gens) (d':=s.drawn) (ch:=ch) (λb i=>let⟨L,y,M,A,B,E⟩:=j b i;⟨A,y,B,E⟩) (λb o _ _ hc e _=>k b o hc e) (λb o _ _ hc e _=>⟨o.slots,k b o hc e⟩) (λb K hc e n=>?_)
  (λb o hc e=>⟨o,k b o hc e⟩) (λb p q=>?_) (λb K p q=>?_) (λb N q=>?_) (λm G=>?_) (λb u e=>?_) I.bare
 ·rw[bG (WB (Wy (Wi e) l))];exact n
 ·rw[bG (iE q d)];exact q
 ·rw[bG (iE q d)];exact q
 ·exact⟨#[],by rw[bG (iE q d),q];simp⟩
 ·obtain⟨o,x,w,J,r⟩:=G;exact⟨o,x,w,k _ o (λz=>(j _ z).2.1 rfl) J,r⟩
 ·by_cases i:b=a
  ·subst i;rw[dG]at e;cases e;exact new
  ·rw[bG i]at e;refine(I.hok b u e).stay (λc v hc q=>k c v ?_ q) (λc q=>by rw[bG (iE q d)];exact q) λc p q=>by rw[bG (iE q d)];exact q
   rcases hc with z|z
   ·rw[z];exact h b u e
   ·exact h c _ z
end
structure QJT(X:Cx)(e:Expr)(m:MI):Prop where
 h:∀es k p,PI X (.Tuple es k p) e (iY X.K m)
theorem QJ.t{X:Cx}{e:Expr}{m:MI}(h:QJ X e m):QJT X e m:=⟨λes k p=>h.h _⟩
section
variable{X:Cx}{pos:XD}
theorem u9{tg iter:Expr}{w:MI}{g:MG}{v:MS}{body:List Stmt}(I:PI X tg iter (iY X.K w))(G:QG X tg g)(B:QB X body v)(K:a5d (WC X.prog X.w) X.A X.env X.xe)(hc:X.calm=c7)(L:f9 iter=c7) :
  QS X (.For tg iter body [] pos) (cW w g v):=⟨jO (Ji K hc I G.h B.h (by intro z;cases iter<;>first|rfl|cases L)) (by
 rintro E T H ⟨O,Q,N,u,r,p,R,s,m,k⟩;obtain⟨⟨o,n,l⟩,A,m⟩:=VT.mp m;refine⟨O,Q,N,o,n,l,R,s,A,λq x J i y W=>?_⟩;have M:oO X.K E q l.length x u r p:=by
  cases u with
  |nx=>exact λa b e j h c=>k a b e (i.trans j) h c|bk=>exact λa b e j h c=>k a b e (i.trans j) h c|ct=>exact λa b e j h c=>k a b e (i.trans j) h c|rt d=>exact KC.after k i
 exact LZ W M .refl y (s.mono i) m)⟩
noncomputable def zJ(put:D->D->D->Hm->Option Hm)(o i v:ME):MS:=λa c=>(v a c).bind λp=>(o a p.2).bind λq=>(i a q.2).bind λr=>(put q.1 r.1 p.1 r.2).map λb=>(.nx,a,b)
noncomputable def rZ:D->D->D->Hm->Option Hm
 |.loc a,y,d,μ=>match μ[a]? with
  |some (.dT kvs)=>(fE y).bind λk=>if kvs.length<Wb then b4 (μ.set a (.dT (fT kvs k d)))else c4|_=>c4
 |_,_,_,_=>c4
noncomputable def kZ:D->D->D->Hm->Option Hm:=rZ
noncomputable def dR:=zJ kZ
theorem Ek{st:Stmt}{i:Nat}:QS X st (aK i bE):=⟨λa5T s σ H D I q=>by
 obtain⟨h,j,e,d,c,b,R,E,a,k⟩:=q;cases a⟩
end
end L3
namespace L3
open PySem L2
section
variable{X:Cx}
end
section
variable{X:Cx}
end
section
variable{X:Cx}{e o:Expr}{mo:ME}{apos cpos:XD}{es:List Expr}{ms:MA}{n:Nat}
end
end L3
namespace L3
open PySem L2
section
variable{prog:Wv}{w:WO}{A:WJ}{E:Value->V1->Prop}{s:V1}{r:Addr}{Q:Bool->V1->Prop}
theorem OW:a2E (.type "list_reverseiterator") "__len__"=pure none:=by rw[a5n,a3R];kernel_rfl
theorem OX:a2E (.type "list_reverseiterator") "__length_hint__"=pure (b4 (.builtin "list_reverseiterator.__length_hint__")):=by rw[a5n,a3R];kernel_rfl
theorem OY(b:s.TypeIs (.ref r) "list_reverseiterator") (h:Q c6 s):Wm (WC prog w) A (a0H (.ref r)) Q E s:=by unfold a0H;refine VX (Zg b OW ?_);dsimp only;refine Zh (λa=>absurd a (by decide +kernel)) (λ_=>?_);refine Zh (λa=>absurd a (by decide)) (λ_=>?_);refine VX (Zg b OX ?_);generalize bK:("list_reverseiterator.__length_hint__":String)=id0;wp_delta;rw[show splitId id0=b4 ("list_reverseiterator","__length_hint__")from by subst bK;decide +kernel];subst bK;refine VX (Y5 (T:="list_reverseiterator") (b:=c7) b (by rw[isSubtype_type];kernel_rfl) ?_);refine Zh (λa=>absurd a (by decide)) (λ_=>?_);refine Zh (λ_=>?_) (λa=>absurd (by decide +kernel) a);refine Zh (λa=>absurd a (by decide +kernel)) (λ_=>?_);exact V7 h
end
section
variable{prog:Wv}{w:WO}{A:WJ}{E:Value->V1->Prop}{s:V1}{p a:Addr}{its:Array Value}
theorem OZ{R:a2L->V1->Prop}(X:A.handled=c4)(hit:s.heap.IsRevIter p a ((its.size:Int)-1))(Z:s.heap.IsList a its)(H:a≠p)(S:Addr)(q:S≠p)(z:S≠a)(res:Value)(k:Nat)(U:s.heap.get? S=b4 {cls:=.type "list",data:=.seq #[] k})
  (T:∀x tk c n,(∀b o,b≠S->b≠p->s.heap.get? b=b4 o->x.get? b=b4 o)->x.get? S=b4 {cls:=.type "list",dict:=c4,data:=.seq c n,slots:=#[]}->ItemsOf (λi v=>its[its.size-1-i]?=b4 v) c its.size->R (.ok (.ret res)) {s with heap:=x,toks:=tk}) (hn:its.size<=Wb) :
  Wm (WC prog w) A.in1 (YG (.ref S) (.ref p) res)
   (λaS m=>match aS with|.done f=>R (.ok f) m|.again n=>n.quiet=c7/\ZI (WC prog w) A n R m) (λe m=>R (.error e) m) s:=by
 have B:S∉[p,a]:=by simp only[Wr,Y0,or_false,not_or];exact⟨q,z⟩
 have W:=Walks.listRev (prog:=prog) (w:=w) (A:=A.in1) X p a H its;have key:∀(h:Xo)(d tk:Nat),h.IsRevIter p a ((its.size:Int)-1)->h.IsList a its->(∀b o,b≠S->s.heap.get? b=b4 o->h.get? b=b4 o)->
   h.get? S=b4 {cls:=.type "list",data:=.seq #[] d}->ZI (WC prog w) A (.builtin "list.extend.loop" ⟨[.ref S,.ref p,res],[]⟩) R {s with heap:=h,toks:=tk}:=by
  intro h d tk J u Y l;refine codeAny_extend_loopS W.toS hn S B res its.size 0 _ #[] d rfl (W7 _) ⟨W7 _,by simpa using J,u⟩ l (ItemsOf.nil _) λm c n L y r=>?_;rw[Moved.eq_with L];refine T m.heap m.toks c n (λb o K I e=>L.heap b o (λj=>?_) (Y b o K e)) y r;rcases Wr.mp j with M|j
  ·exact K M
  ·exact I (WS.mp j)
 unfold YG;refine VX (wpAny_typeOf (T:="list_reverseiterator") hit.typeIs ?_);have N:a0X (.ref S) (.ref p)=false:=by simp[a0X,q]
 have O:(Wc "list_reverseiterator"==Wc "list")=false:=by decide +kernel
 have Q:(Wc "list_reverseiterator"==Wc "tuple")=false:=by decide +kernel
 simp only[N,O,Q,a4F,V6,if_false];refine VX (wpAny_pyIter_revIter hit ?_);refine VX (Yi (OY hit.typeIs ?_));refine Zh (λG=>absurd G (by decide +kernel)) (λ_=>V7 ⟨plainId_quiet PySem.F.plain_extend_loop _,?_⟩);exact key _ k s.toks hit Z (λb o _ e=>e) U
theorem O0{R:a2L->V1->Prop}(J:A.handled=c4)(hit:s.heap.IsRevIter p a ((its.size:Int)-1))(L:s.heap.IsList a its)(z:a≠p)(S:Addr)(m:S≠p)(l:S≠a)(u:s.heap.get? S=b4 {cls:=.type "list",data:=.seq #[]})
  (I:∀k H c j,(∀b o,b≠S->b≠p->s.heap.get? b=b4 o->k.get? b=b4 o)->k.get? S=b4 {cls:=.type "list",dict:=c4,data:=.seq c j,slots:=#[]}->ItemsOf (λi v=>its[its.size-1-i]?=b4 v) c its.size->R (.ok (.ret .none)) {s with heap:=k,toks:=H}) (M:its.size<=Wb) :
  Wm (WC prog w) A.in1 (Builtin.«list.__init__» ⟨[.ref S,.ref p],[]⟩)
   (λaS r=>match aS with|.done f=>R (.ok f) r|.again j=>j.quiet=c7/\ZI (WC prog w) A j R r) (λe r=>R (.error e) r) s:=by
 show Wm _ _ (do let G <- a1p (.ref S);a5D (.ref S) (λ_=>#[]);letGo G.toList.reverse;YG (.ref S) (.ref p) .none) _ _ s;refine VX ?_;unfold a1p;refine VX (wpAny_seqItems u rfl (V7 ?_));show Wm _ _ (updateSeq S (λ_=>#[]) >>= λ_=>letGo (#[]:Array Value).toList.reverse >>= λ_=>YG (.ref S) (.ref p) .none) _ _ s;refine VX (wpAny_updateSeq u rfl ?_);have d:=Yd (a2d (λ_=>(#[]:Array Value))) u rfl;have h:∀b o,b≠S->s.heap.get? b=b4 o->(s.heap.update S (a2d (λ_=>(#[]:Array Value)))).get? b=b4 o:=
  λb o q e=>(XR _ _ (WL q)).trans e
 refine VX (a4f ?_);refine OZ J (hit.at λo e=>h p o (WL m) e) (let⟨o,N,x⟩:=L;⟨o,h a o (WL l) N,x⟩) z S m l .none _ d (λk H c j K y n=>?_) M;exact I k H c j (λb o q B e=>K b o q B (h b o q e)) y n
theorem O1{Q:Value->V1->Prop}(I:A.handled=c4)(hit:s.heap.IsRevIter p a ((its.size:Int)-1))(z:s.heap.IsList a its)(r:a≠p)(K:its.size<=Wb)
  (B:∀h u c n,(∀b o,b≠p->s.heap.get? b=b4 o->h.get? b=b4 o)->h.get? s.heap.objs.size=b4 {cls:=.type "list",dict:=c4,data:=.seq c n,slots:=#[]}->ItemsOf (λi v=>its[its.size-1-i]?=b4 v) c its.size->Q (.ref s.heap.objs.size) {s with heap:=h,toks:=u}) :
  Wm (WC prog w) A (call (.type "list") [.ref p]) Q E s:=by
 refine a5R (Q₁:=λm d=>m=.ref s.heap.objs.size/\d={s with heap:=s.heap.push {cls:=.type "list",data:=.seq #[]}}) PySem.F.called_list (PySem.F.typeCall_list_1 _) PySem.F.entry_list_init
  (code_list_new _ ⟨rfl,rfl⟩) λm d l=>?_
 obtain⟨rfl,rfl⟩:=l;have y:(s.heap.push {cls:=.type "list",data:=.seq #[]}).get? s.heap.objs.size=b4 {cls:=.type "list",data:=.seq #[]}:=Ws _ rfl;have L:p<s.heap.objs.size:=let⟨o,k,_⟩:=hit;Wi k;have G:a<s.heap.objs.size:=let⟨o,k,_⟩:=z;Wi k;refine⟨⟨_,y,rfl⟩,PySem.F.args_list_init_2 _ _,O0 (A:=A.in1) I (hit.at λo e=>V8 _ e) (let⟨o,k,x⟩:=z;⟨o,V8 _ k,x⟩) r _ (ZL L) (ZL G) y (λh u c n J q j=>?_) K⟩;exact⟨rfl,B h u c n (λb o H e=>J b o (WB (Wi e)) H (V8 _ e)) q j⟩
end
noncomputable def Em(K:VU):List V->Hp->VK->Prop:=λxs H Q=>∃(p:Addr)(a:List V),xs=[.ref p]/\SqL K H p a/\∀l,H l=c4->Q (.ref l) (upd H l (.lst a.reverse))
theorem Eo:∀{a:List V}{its:List Value},Vals a its->Vals a.reverse its.reverse
 |_,_,.nil=>.nil|_,_,.cons h t=>by rw[ZX,ZX];exact(Eo t).append (.cons h .nil)
theorem O2{X:Cx}{e:Expr}{t:TA}{p J pos d:XD}(hc:X.calm=c7)(O:Gl X "list") (T:X.mg "list"=c4) (v:Gl X "reversed") (y:X.mg "reversed"=c4) (N:PA X [e] t)(Y:Wn [e] X.env=(c6,eval e X.env)::Wn [] X.env) :
  PE X (.Call (.Name "list" p) [.Call (.Name "reversed" J) [e] [] d] [] pos) (uC (Em X.K) t):=by
 intro n s σ H Q I h;refine XG (jL I O T Zo ?_ (by decide) (by decide));refine XY ?_ rfl rfl;show Wm _ _ (a4N ((c6,eval (.Call (.Name "reversed" J) [e] [] d) X.env)::XM pos (Wn [] X.env))) _ _ s;refine a3g (XG (jL I v y a3B ?_ (by decide) (by decide)));refine XY (aT (N d n s σ H _ I h) λus l ⟨vs,H1,m,r1,q1⟩=>?_) Y rfl;obtain⟨q,ys,rfl,U,k⟩:=q1;obtain⟨u,rfl,ru⟩:=lQ r1;cases ru;obtain⟨a,K,pl,Z⟩:=m.list U;have G:=K.length;have w:=pl.isList;have A:q<l.heap.objs.size:=let⟨o,z,_⟩:=w;Wi z;refine call_reversed_list w ?_;refine a3r ?_;refine O1 (m.ok.hd hc) (p:=l.heap.objs.size) (a:=q) (its:=a.toArray) ⟨_,Ws _ rfl,rfl,rfl⟩ (let⟨o,z,x⟩:=w;⟨o,V8 _ z,x⟩) (WB A) (by simp only[WA]<;>omega) λh' tk c L kp E j=>?_;have r:c.toList=a.reverse:=by
  refine a3L λi=>?_;have hn:c.size=a.length:=by simpa using j.1
  by_cases R:i<a.length
  ·have M:=j.2 i c[i] (a1R (by omega));rw[Yc,a1R (by omega),<- M,List.getElem?_reverse R,WA,List.getElem?_toArray]
  ·rw[Zv (by rw[Y2];omega),Zv (by rw[XU];omega)]
 have B:(l.heap.push (revObj q ((a.toArray.size:Int)-1))).objs.size=l.heap.objs.size+1:=by simp[Heap.push]
 rw[B]at E ⊢;refine⟨.ref (l.heap.objs.size+1),_,m.laid (t':=tk) (a:=l.heap.objs.size+1) (o:=.lst ys.reverse) (λb o e=>kp b o (WB (Wi e)) (V8 _ e)) (by omega) ⟨by rw[XU];exact Z,a.reverse,L,Eo K,by rw[<- r];simpa using E⟩,rfl,k _ (m.hok.fresh (by omega))⟩
noncomputable def mG:MF:=λds b=>match ds with
 |[.loc a]=>match b[a]? with
  |some (.lst xs)=>b4 (.loc b.length,b++[.lst xs.reverse])|_=>c4
 |_=>c4
theorem O3{K:VU}:fR K mG (Em K):=by
 intro u H s r d p q Q R i b k;unfold mG at b;split at b
 ·rename_i a;split at b
  ·rename_i e o;cases b;cases i with
   |cons i t=>cases t;cases i;obtain⟨c,j,m⟩:=R.lst a e o;refine⟨_,c,rfl,.of j,λl n=>?_⟩;obtain⟨h,R2,_⟩:=R.alloc (c:=.lst e.reverse) (o:=.lst c.reverse) n (Nz m);exact k _ _ _ h R2 jP
  ·cases b
 ·cases b
theorem O4{X:Cx}{e:Expr}{ms:MA}{n:Nat}{p k pos a:XD}(hc:X.calm=c7)(d:X.mg "list"=c4) (h:X.mg "reversed"=c4) (i:QA X [e] ms n)(b:Gl X "list") (c:Gl X "reversed") :
  QE X (.Call (.Name "list" p) [.Call (.Name "reversed" k) [e] [] a] [] pos) (aH mG ms):=by
 have j:=i.s;rw[WN,VW]at j;exact⟨cN (O2 hc b d c h i.h (c9 j.1)) (yE O3)⟩
noncomputable def zK(lo c:Int)(n:Nat):It:=⟨λi _=>i<n,λi H x H'=>H'=H/\x=.int (lo+(i:Nat)*c),λi _=>n<=i⟩
theorem O5{P:Wv}{w:WO}{K:VU}{tg:Expr}(a:Addr)(lo c:Int)(n:Nat):Turn Qc P w K tg (zK lo c n) [a] a (λi h=>ZM h a (lo+(i:Nat)*c) ((n:Int)-(i:Nat)) c) where
 mem:=by simp
 obj:=λi h st b d=>by
  have e:b=a:=by simpa using d
  subst e;exact⟨_,st,λv z=>by
   have T:WK _=a4b v:=z;cases T⟩
 keep:=λi h m st k=>k a (by simp) _ st;item:=by intro X B hw A hc i j s L H E I p st G;subst B hw A;obtain⟨q,r,O,u,x,y⟩:=p a (by simp);have W:=a4Q (prog:=X.prog) (w:=X.w) (I.ok.hd hc) a lo c n;refine W.item i s _ _ G st λv m J Q l R=>?_;obtain⟨t,rfl⟩:=Q;have M:Inv X j L H {s with heap:=m,toks:=J}:=I.turned (λb o d e=>R b o (by simpa using d) e) q r u x y;exact⟨_,rfl,qX (s:={s with heap:=m,toks:=J}) (n:="range_iterator") l rfl rfl (by decide) ⟨.int (lo+(i:Nat)*c),H,M,⟨t,rfl⟩,⟨rfl,rfl⟩,l,λb d=>(p b d).1⟩⟩
 done:=by intro X B hw A hc i j s L H E I p st G;subst B hw A;obtain⟨q,r,O,u,x,y⟩:=p a (by simp);exact a3s (I.ok.hd hc) st (by have:n<=i:=G;omega) λm N=>⟨rfl,I.turned (t':=s.toks) (λb o d e=>N b o d e) q r u x y⟩
 self:=λ_ _ _ _ _ st h=>a3u st h
noncomputable def r8(a b c:Int):Bool:=a5l a b c&&decide (c≠0)&&decide (c.natAbs<1073741824)&&decide (0<=W3 a b c)
noncomputable def O6(e:TA):TI:=λσ H R=>e σ H λvs d=>∃a b c:Int,vs=[.int a,.int b,.int c]/\r8 a b c=c7/\R (zK a c (W3 a b c).toNat) d
open PyProof.Rows in
theorem O7{X:Cx}{tg a b c:Expr}{E:TA}{p pos:XD}(O:Gl X "range") (Q:X.mg "range"=c4) (M:PA X [a,b,c] E)(U:Wn [a,b,c] X.env=(c6,eval a X.env)::Wn [b,c] X.env)(y:(XM pos (Wn [b,c] X.env)).any (·.1)=c6) :
  PI X tg (.Call (.Name "range" p) [a,b,c] [] pos) (O6 E):=by
 intro m s G H R I h;refine Call_ (jL I O Q a4B (XY (aT (M pos m s G H _ I h) λus l ⟨vs,B,J,r1,Y⟩=>?_) U y));obtain⟨i,j,k,e,hok,q⟩:=Y;subst e;unfold r8 at hok;rw[VW,VW,VW,decide_eq_true_eq,decide_eq_true_eq,decide_eq_true_eq]at hok;obtain⟨⟨⟨z,w⟩,x⟩,T⟩:=hok;cases r1 with
 |cons r n=>
  cases n with
  |cons Z n=>
   cases n with
   |cons A n=>
    cases n;obtain⟨t,rfl⟩:=r;obtain⟨u,rfl⟩:=Z;obtain⟨d,rfl⟩:=A;refine call_range_3 w ?_ (.inl (PyProof.noPylong_small x));refine a4v (a4r ..) z ?_;have v:Inv X m G B {l with heap:=l.heap.push {cls:=.type "range",data:=.fields #[.int i t,.int j u,.int k d]},toks:=l.toks}:=J.kept λb o e=>V8 _ e;refine⟨(l.heap.push {cls:=.type "range",data:=.fields #[.int i t,.int j u,.int k d]}).objs.size,[(l.heap.push {cls:=.type "range",data:=.fields #[.int i t,.int j u,.int k d]}).objs.size],_,_,B,rfl,
     v.kept (t':=l.toks) λb o e=>V8 _ e,O5 _ i k (W3 i j k).toNat,?_,λb N=>?_,q⟩
    ·have K:i+((0:Nat):Int)*k=i:=by simp
     have L:(((W3 i j k).toNat:Nat):Int)-((0:Nat):Int)=W3 i j k:=by omega
     show ZM _ _ (i+((0:Nat):Int)*k) ((((W3 i j k).toNat:Nat):Int)-((0:Nat):Int)) k;rw[K,L];exact Ws _ rfl
    ·have e:b=(l.heap.push {cls:=.type "range",data:=.fields #[.int i t,.int j u,.int k d]}).objs.size:=by simpa using N
     subst e;exact v.fpOk (Wa _) (v.hok.fresh (Wa _))
noncomputable def pN(lo c:Int)(n:Nat):kQ:=λ_ i=>b4 (if i<n then b4 (.int (lo+(i:Nat)*c))else c4)
theorem O8{K:VU}{lo c:Int}{k:Nat}{π:Nat->Addr}{n:Nat}{H:Hp}:Wk K (zK lo c k) (pN lo c k) π n H:=by
 refine⟨λb o j i e R z=>?_,λb o j i d e R z=>?_⟩
 ·have a:=Wj z;split at a
  ·cases a
  ·exact ZR.mp (by assumption)
 ·have a:=Wj z;split at a
  ·cases a;rename_i h;exact⟨h,λx p ⟨l,m⟩=>by subst l;rw[m];exact⟨.refl,R,.int _⟩⟩
  ·cases a
noncomputable def pO(ms:MA):MI:=λb a=>(ms b a).bind λp=>match p.1 with
 |[.int i,.int j,.int c]=>if r8 i j c=c7 then b4 (pN i c (W3 i j c).toNat,(W3 i j c).toNat+1,p.2)else c4|_=>c4
theorem O9{X:Cx}{a b c:Expr}{ms:MA}{n:Nat}{p pos:XD}(e:Gl X "range") (h:X.mg "range"=c4) (r:QA X [a,b,c] ms n):QJ X (.Call (.Name "range" p) [a,b,c] [] pos) (pO ms):=⟨λtg a5T s σ H R I hw=>by
 have l:=r.s;rw[WN,VW]at l;obtain⟨Q,T,N,J,U,O,w,E,d,k⟩:=hw;obtain⟨⟨x,o⟩,z,d⟩:=VT.mp d;refine O7 e h r.h (c9 l.1) (eC l.2) a5T s σ H R I ⟨Q,T,N,x,o,w,E,z,λq Y u y v m=>?_⟩;dsimp only at d;split at d
 ·rename_i i j c;split at d
  ·rename_i A;cases d;cases m with
   |cons m K=>
    cases m;cases K with
    |cons B L=>
     cases B;cases L with
     |cons G M=>cases G;cases M;exact⟨i,j,c,rfl,A,k q u _ y v O8⟩
  ·cases d
 ·cases d⟩
end L3
namespace L3
open PySem L2
noncomputable def vA:MF:=zI
noncomputable def vB:MF:=zH
end L3
namespace L3
open PySem L2
noncomputable abbrev cC:=List (List Int×Addr×V)
noncomputable def bU(ps:cC)(ws:List Value):List (List Int×Addr×Value):=ZJ (λp w=>(p.1,p.2.1,w)) ps ws
theorem vC{P:Wv}{w:WO}:∀(ps:cC)(ws:List Value),ZJ rC ps ws=(bU ps ws).map (entryOfKey (Yz (YO P w)))
 |[],_=>by simp[bU]
 |p::ps,[]=>by simp[bU]
 |p::ps,u::ws=>by have a:=vC (P:=P) (w:=w) ps ws;unfold bU at a ⊢;rw[WT,WT,We,a];rfl
theorem pP:∀{ps:cC}{ws:List Value},Vals (ps.map (·.2.2)) ws->(bU ps ws).map (·.1)=ps.map (·.1)
 |[],_,_=>by simp[bU]
 |p::ps,_,.cons r t=>by have a:=pP (ps:=ps) t;unfold bU at a ⊢;rw[WT,We,We,a]
theorem Ep:∀{ps:cC}{ws:List Value}{x:List Int×Addr×Value},x∈bU ps ws->∃p∈ps,p.1=x.1/\p.2.1=x.2.1
 |[],_,x,h=>by simp[bU]at h
 |p::ps,[],x,h=>by simp[bU]at h
 |p::ps,u::ws,x,h=>by
  unfold bU at h;rw[WT]at h;rcases Wr.mp h with e|h
  ·subst e;exact⟨p,WU ..,rfl,rfl⟩
  ·obtain⟨q,a,e⟩:=Ep (ps:=ps) (ws:=ws) h;exact⟨q,Wq _ a,e⟩
noncomputable def eU(ps:cC)(k:List Int):Option V:=(ps.find? λp=>decide (p.1=k)).map (·.2.2)
noncomputable def jV(ps:cC)(k:List Int)(b:Addr)(v:V):cC:=if(eU ps k).isSome then ps.map (λp=>if p.1=k then(p.1,p.2.1,v)else p)else ps++[(k,b,v)]
theorem nP:∀{ps:cC}{ws:List Value},Vals (ps.map (·.2.2)) ws->∀k,RelO (eU ps k) ((Z3 (bU ps ws) k).map (·.2))
 |[],_,.nil,k=>by simp[eU,bU,Z3];exact YC
 |p::ps,_,.cons r t,k=>by
  have a:=nP (ps:=ps) t k;unfold eU Z3 bU at a ⊢;rw[WT,Xf,Xf];by_cases e:p.1=k
  ·simp only[e,decide_true];exact r
  ·simp only[e,decide_false];exact a
theorem Pa(ps:cC)(k:List Int)(b:Addr)(v:V):(jV ps k b v).length<=ps.length+1:=by unfold jV;split<;>simp
theorem Er{k:List Int}{v:V}{u:Value}(d:RelV v u):∀{ps:cC}{ws:List Value},Vals (ps.map (·.2.2)) ws->
  ∃a,Vals ((ps.map λp=>if p.1=k then(p.1,p.2.1,v)else p).map (·.2.2)) a/\(bU ps ws).map (putAt k u)=bU (ps.map λp=>if p.1=k then(p.1,p.2.1,v)else p) a
 |[],_,.nil=>⟨[],.nil,by simp[bU]⟩|p::ps,_,.cons (b:=w) r t=>by
  obtain⟨a,c,b⟩:=Er d (ps:=ps) t;by_cases e:p.1=k
  ·refine⟨u::a,?_,?_⟩
   ·rw[We,We,if_pos e];exact .cons d c
   ·unfold bU at b ⊢;rw[WT,We,b,We,if_pos e,WT];unfold putAt;rw[if_pos e]
  ·refine⟨w::a,?_,?_⟩
   ·rw[We,We,if_neg e];exact .cons r c
   ·unfold bU at b ⊢;rw[WT,We,b,We,if_neg e,WT];unfold putAt;rw[if_neg e]
theorem Es{k:List Int}{b:Addr}{v:V}{u:Value}:∀{ps:cC}{ws:List Value},Vals (ps.map (·.2.2)) ws->bU ps ws++[(k,b,u)]=bU (ps++[(k,b,v)]) (ws++[u])
 |[],_,.nil=>by simp[bU]
 |p::ps,_,.cons r t=>by have a:=Es (k:=k) (b:=b) (v:=v) (u:=u) (ps:=ps) t;unfold bU at a ⊢;rw[WT,Xp,a,Xp,Xp,WT]
theorem Pb{ps:cC}{ws:List Value}(r:Vals (ps.map (·.2.2)) ws)(k:List Int)(b:Addr){v:V}{u:Value}(c:RelV v u) :
  ∃a,Vals ((jV ps k b v).map (·.2.2)) a/\storedH (bU ps ws) k b u=bU (jV ps k b v) a:=by
 have e:=(nP r k).isSome_eq;rw[a0I]at e;unfold jV storedH;rw[e];by_cases h:(Z3 (bU ps ws) k).isSome=c7
 ·rw[if_pos h,if_pos h];exact Er c r
 ·rw[if_neg h,if_neg h];refine⟨ws++[u],?_,Es r⟩;rw[Wf];exact a4C r c
section
variable{X:Cx}{a5T:List (Addr×Obj)}{σ:St}{H:Hp}{s:V1}{a:Addr}{ps:cC}
noncomputable def fK(K:VU)(H:Hp)(ps:cC):Prop:=∀p∈ps,SqT K H p.2.1 (p.1.map V.int)
theorem k7(I:Inv X a5T σ H s)(e:Rd H a (aZ a ps))(q:fK X.K H ps):(a==Xs)=c6/\ps.length<=Wb /\
  ∃b,Vals (ps.map (·.2.2)) b/\s.heap.DictOfH (Yz (YO X.prog X.w)) a (bU ps b):=by
 obtain⟨⟨b,r,w,u,o,i,h,j,k,l,m,n⟩,_⟩:=(show ObjOk X.prog X.w H s.heap a (aZ a ps)from e.ok I.hok);refine⟨w,u,b,r,o,i,h,j,k,l,by rw[m];exact vC ps b,λx y=>?_,by rw[pP r];exact n⟩;obtain⟨p,v,c,d⟩:=Ep y;rw[<- c,<- d];exact pL I (q p v)
theorem zL{P:Wv}{w:WO}{H':Hp}{h':Xo}{ws:List Value}(m:(a==Xs)=c6)(l:ps.length<=Wb)(r:Vals (ps.map (·.2.2)) ws)(d:h'.DictOfH (Yz (YO P w)) a (bU ps ws)):ObjOk P w H' h' a (aZ a ps):=by obtain⟨o,e,c,b,h,i,j,_,k⟩:=d;refine⟨⟨ws,r,m,l,o,e,c,b,h,i,by rw[j,vC (P:=P) (w:=w)],by rw[<- pP r];exact k⟩,⟨o,b⟩,?_⟩;rintro p g2 ⟨ws,r,m,l,o,e,c,b,h,i,j,k⟩ n;exact⟨ws,r,m,l,o,e,c,n o b,h,i,j,k⟩
theorem Pc(I:Inv X a5T σ H s)(e:Rd H a (aZ a ps))(b:fK X.K H ps):s.TypeIs (.ref a) "dict":=by obtain⟨_,_,c,_,d⟩:=k7 I e b;exact d.typeIs
theorem nQ{A:WJ}(b:A.units+1<Yt):(Yz (YO X.prog X.w)).room A.in1:=by show A.in1.units<Yt;rw[nG];omega
variable{A:WJ}{E:Value->V1->Prop}{b:Addr}{k:List Int}{v:V}
theorem Pd{Q:Value->V1->Prop}(q:A.units+1<Yt)(I:Inv X a5T σ H s)(e:Rd H a (aZ a ps))(n:fK X.K H ps)(m:SqT X.K H b (k.map V.int))(u:eU ps k=b4 v)
  (h:∀c l,Inv X a5T σ H l->RelV v c->Q c l):Wm (WC X.prog X.w) A (a2w (.ref a) (.ref b)) Q E s:=by
 obtain⟨y,x,w,r,d⟩:=k7 I e n;obtain⟨c,hw,j⟩:=RelO.some_of (v:=v) (o:=(Z3 (bU ps w) k).map (·.2)) (by rw[<- u];exact nP r k);obtain⟨p,o,i⟩:=VZ.mp hw;refine wpAny_getItem_heap (nQ q) (pL I m) d o ?_;rw[i];exact h c _ (I.tok _) j
theorem Pe{Q:Value->V1->Prop}(m:A.units+1<Yt)(I:Inv X a5T σ H s)(e:Rd H a (aZ a ps))(j:fK X.K H ps)(i:SqT X.K H b (k.map V.int))
  (h:∀c,Inv X a5T σ H c->Q (.bool (eU ps k).isSome) c):Wm (WC X.prog X.w) A (Xd .In (.ref b) (.ref a)) Q E s:=by
 obtain⟨l,n,o,r,d⟩:=k7 I e j;refine wpAny_in_heap (nQ m) (pL I i) l d ?_;have q:=(nP r k).isSome_eq;rw[a0I]at q;rw[<- q];exact h _ (I.tok _)
theorem Pf{Q:Value->V1->Prop}(m:A.units+1<Yt)(I:Inv X a5T σ H s)(e:Rd H a (aZ a ps))(j:fK X.K H ps)(i:SqT X.K H b (k.map V.int))
  (h:∀c,Inv X a5T σ H c->Q (.bool (!(eU ps k).isSome)) c):Wm (WC X.prog X.w) A (Xd .NotIn (.ref b) (.ref a)) Q E s:=by
 obtain⟨l,n,o,r,d⟩:=k7 I e j;refine a5r (nQ m) (pL I i) l d ?_;have q:=(nP r k).isSome_eq;rw[a0I]at q;rw[<- q];exact h _ (I.tok _)
theorem Pg{Q:Unit->V1->Prop}{u:Value}(y:A.units+1<Yt)(I:Inv X a5T σ H s)(e:H a=b4 (aZ a ps))(p:fK X.K H ps)(n:SqT X.K H b (k.map V.int))(hz:ps.length<Wb)(G:RelV v u)
  (h:∀j,Inv X a5T σ (upd H a (aZ a (jV ps k b v))) j->Q () j):Wm (WC X.prog X.w) A (setItem (.ref a) (.ref b) u) Q E s:=by
 obtain⟨x,L,J,r,d⟩:=k7 I (.of e) p;have z:(bU ps J).length<=Wb:=by have:=congrArg WY (pP r);rw[V0,V0]at this;omega
 refine wpAny_setItem_heap (hsz:=z) (nQ y) (pL I n) d λm c i=>h _ ?_;obtain⟨K,B,l⟩:=Pb r k b G;rw[l]at c;have o:∃q,m.get? a=b4 q:=let⟨q,_,_,w,_⟩:=c;⟨q,w⟩;exact Ct I (by rw[e];exact YC) i o (zL x (by have:=Pa ps k b v;omega) B c)
end
noncomputable def IsTs(K:VU)(π:Nat->Addr)(n:Nat)(H:Hp):cC->List (List Int×D)->Prop:=a0w λp q=>p.1=q.1/\SqT K H p.2.1 (p.1.map V.int)/\IsD K π n H p.2.2 q.2
section
variable{K:VU}{π:Nat->Addr}{n:Nat}{H:Hp}{μ:Hm}
theorem Ph{b:Addr}{k:List Int}(h:IsD K π n H (.ref b) (.tup (k.map D.int))):SqT K H b (k.map V.int):=by
 cases h with
 |tup q t=>rw[ints_of' t]at q;exact q
theorem IsTs.of:∀{ps:cC}{a:List (List Int×D)},ps.map (·.1)=a.map (·.1)->IsDs K π n H (ps.map λp=>V.ref p.2.1) (a.map λk=>D.tup (k.1.map D.int))->IsDs K π n H (ps.map (·.2.2)) (a.map (·.2))->IsTs K π n H ps a
 |[],[],_,_,_=>.nil|[],_::_,h,_,_=>by cases h
 |_::_,[],h,_,_=>by cases h
 |p::ps,q::a,h,h2,h3=>by
  cases h2 with
  |cons b c=>
   cases h3 with
   |cons d e=>rw[We,We,ZZ]at h;refine .cons ⟨h.1,?_,d⟩ (IsTs.of h.2 c e);rw[h.1];exact Ph b
theorem IsTs.keys:∀{ps:cC}{b:List (List Int×D)},IsTs K π n H ps b->fK K H ps
 |_,_,.nil=>λp a=>nomatch a|_,_,.cons h t=>λp a=>by
  rcases Wr.mp a with e|a
  ·subst e;exact h.2.1
  ·exact IsTs.keys t p a
theorem IsTs.to:∀{ps:cC}{a:List (List Int×D)},IsTs K π n H ps a->ps.map (·.1)=a.map (·.1)/\IsDs K π n H (ps.map λp=>V.ref p.2.1) (a.map λk=>D.tup (k.1.map D.int))/\IsDs K π n H (ps.map (·.2.2)) (a.map (·.2))
 |_,_,.nil=>⟨rfl,.nil,.nil⟩|_,_,.cons (a:=p) (b:=q) h t=>by obtain⟨b,c,d⟩:=IsTs.to t;refine⟨by rw[We,We,h.1,b],.cons ?_ c,.cons h.2.2 d⟩;show IsD K π n H (.ref p.2.1) (.tup (q.1.map D.int));rw[<- h.1];exact .tup h.2.1 (Ee p.1)
theorem IsTs.val(k:List Int):∀{ps:cC}{a:List (List Int×D)},IsTs K π n H ps a->(eU ps k=c4/\cF a k=c4)\/∃v d,eU ps k=b4 v/\cF a k=b4 d/\IsD K π n H v d
 |_,_,.nil=>.inl ⟨rfl,rfl⟩|_,_,.cons (a:=p) (b:=q) h t=>by
  have b:=IsTs.val k t;unfold eU cF at b ⊢;rw[Xf,Xf,<- h.1];by_cases e:p.1=k
  ·simp only[e,decide_true];exact .inr ⟨_,_,rfl,rfl,h.2.2⟩
  ·simp only[e,decide_false];exact b
theorem IsTs.put{ps:cC}{a:List (List Int×D)}(h:IsTs K π n H ps a)(k:List Int){b:Addr}{v:V}{d:D}(m:SqT K H b (k.map V.int))(l:IsD K π n H v d):IsTs K π n H (jV ps k b v) (fT a k d):=by
 have e:(eU ps k).isSome=(cF a k).isSome:=by rcases h.val k with⟨i,j⟩|⟨v,d,i,j,_⟩<;>rw[i,j]<;>rfl
 have c:∀{ps:cC}{a:List (List Int×D)},IsTs K π n H ps a->IsTs K π n H (ps.map λp=>if p.1=k then(p.1,p.2.1,v)else p) (a.map λp=>if p.1=k then(p.1,d)else p):=by
  intro ps a h;unfold IsTs at h;induction h with
  |nil=>exact .nil|@cons p q ps r h t o=>
   rw[We,We];refine .cons ?_ o;by_cases z:p.1=k
   ·rw[if_pos z,if_pos (h.1.symm.trans z)];exact⟨h.1,h.2.1,l⟩
   ·rw[if_neg z,if_neg λy=>z (h.1.trans y)];exact h
 unfold jV fT;rw[e];split
 ·exact c h
 ·exact a4C h ⟨rfl,m,l⟩
theorem iJ{a:Nat}{b:List (List Int×D)}(R:Rp K π H μ)(h:μ[a]?=b4 (.dT b)):∃ps,H (π a)=b4 (aZ (π a) ps)/\IsTs K π μ.length H ps b:=by obtain⟨ps,c,d,e,i⟩:=R.dT a b h;exact⟨ps,c,.of d e i⟩
theorem r9{a:Nat}{b:List (List Int×D)}(R:Rp K π H μ)(h:μ[a]?=b4 (.dF b)):∃ob ps,H (π a)=b4 (.frz ob (aZ (π a) ps))/\IsTs K π μ.length H ps b:=by obtain⟨ob,ps,c,d,e,i⟩:=R.dF a b h;exact⟨ob,ps,c,.of d e i⟩
theorem pQ{v:V}{x:D}{k:List Int}(h:IsD K π n H v x)(e:fE x=b4 k):∃b,v=.ref b/\SqT K H b (k.map V.int):=by
 have:=OG e;subst this;cases h with
 |tup q t=>rw[ints_of' t]at q;exact⟨_,rfl,q⟩
end
noncomputable def i9:ME:=λ_ a=>b4 (.loc a.length,a++[.dT []])
section
variable{X:Cx}{pos:XD}
theorem Pj{P:Wv}{w:WO}{H:Hp}(h:Xo)(a:Xs<h.objs.size):ObjOk P w H (h.push {cls:=.type "dict",data:=.dict #[]}) h.objs.size (aZ h.objs.size []):=
 zL (ws:=[]) (beq_eq_false_iff_ne.mpr (WL (WB a))) (W7 _) .nil (a5C h)
noncomputable def Pk:TE:=λ_ H Q=>∀p,H p=c4->Q (.ref p) (upd H p (aZ p []))
theorem Pl:PE X (.Dict [] [] pos) Pk:=λa5T s σ H Q I h=>wpAny_Dict_empty ⟨.ref s.heap.objs.size,_,I.laid (a:=s.heap.objs.size) (o:=aZ s.heap.objs.size []) (t':=s.toks) (λ_ _ q=>V8 _ q) (Wa _) (Pj s.heap I.big),rfl,h _ (I.hok.fresh (Wa _))⟩
theorem Pm:QE X (.Dict [] [] pos) i9:=⟨cN Pl (by
 rintro n H Q ⟨l,m,j,d,h,R,E,c,k⟩ p e;cases c;obtain⟨b,a,i⟩:=R.alloc (c:=.dT []) (o:=aZ p []) e ⟨[],rfl,rfl,.nil,.nil⟩;exact k _ _ _ b a jP)⟩
end
noncomputable def sA:D->D->Hm->Option (D×Hm)
 |.loc a,y,μ=>match μ[a]? with
  |some (.dT kvs)=>(fE y).bind λk=>(cF kvs k).map λd=>(d,μ)|some (.dF kvs)=>(fE y).bind λk=>(cF kvs k).map λd=>(d,μ)|_=>c4
 |_,_,_=>c4
section
variable{X:Cx}{a b e:Expr}{ma mb me:ME}{pos tpos:XD}{td ty tv:TE}
noncomputable def Et(K:VU):R2:=λx y H Q=>∃a b ps k v,x=.ref a/\y=.ref b/\Rd H a (aZ a ps)/\fK K H ps/\SqT K H b (k.map V.int)/\eU ps k=b4 v/\Q v H
theorem Pn(B:X.A.units+1<Yt)(z:PE X a td)(w:PE X b ty)(A:Cu b):PE X (.Subscript a b pos) (λσ H Q=>td σ H λx d=>ty σ d λy i=>Et X.K x y i Q):=by intro c s σ H Q I h;refine J6 PySem.F.slot_dict_getitem.lookup A (aT (z c s σ H _ I h) λu N ⟨x,d,n,L,J⟩=>aT (w c N σ d _ n J) λG R ⟨y,i,l,M,a,b,O,k,v,p,q,e,m,r,E,K⟩=>?_);subst p q;obtain rfl:u=Wg a:=L;obtain rfl:G=Wg b:=M;exact⟨Pc l e m,Pd B l e m r E λU T o j=>⟨v,i,o,j,K⟩⟩
theorem Po{K:VU}:cZ K sA (Et K):=by
 intro w H L x y d G I J Q R s u c k;unfold sA at c;split at c
 ·split at c
  ·rename_i n hc;obtain⟨i,l,c⟩:=VT.mp c;obtain⟨A,h,c⟩:=VZ.mp c;cases c;cases s;obtain⟨o,j,T⟩:=iJ R hc;obtain⟨b,rfl,m⟩:=pQ u l;rcases T.val i with⟨_,z⟩|⟨v,B,p,q,r⟩
   ·rw[z]at h;cases h
   ·rw[q]at h;cases h;exact⟨_,b,o,i,v,rfl,rfl,.of j,T.keys,m,p,k w _ H .refl R r⟩
  ·rename_i n hc;obtain⟨i,l,c⟩:=VT.mp c;obtain⟨A,h,c⟩:=VZ.mp c;cases c;cases s;obtain⟨E,o,j,T⟩:=r9 R hc;obtain⟨b,rfl,m⟩:=pQ u l;rcases T.val i with⟨_,z⟩|⟨v,B,p,q,r⟩
   ·rw[z]at h;cases h
   ·rw[q]at h;cases h;exact⟨_,b,o,i,v,rfl,rfl,.inr ⟨E,j⟩,T.keys,m,p,k w _ H .refl R r⟩
  ·cases c
 ·cases c
theorem Pp{k:Nat}(i:Room k X.A)(c:QE X a ma)(d:QE X b mb)(h:o8 b=c7):QE X (.Subscript a b pos) (aC sA ma mb):=⟨cN (Pn (lV i) c.h d.h (DF h)) (rG Po)⟩
end
section
variable{X:Cx}{o i e:Expr}{mo mi me:ME}{pos tpos:XD}{td ty tv:TE}
noncomputable def Pq(K:VU)(td ty tv:TE):TS:=λD σ H=>tv σ H λv d=>td σ d λx h=>ty σ h λy c=>∃a b ps k,x=.ref a/\y=.ref b/\c a=b4 (aZ a ps)/\fK K c ps/\SqT K c b (k.map V.int)/\ps.length<Wb/\D.nx σ (upd c a (aZ a (jV ps k b v)))
theorem Pr(K:X.A.units+1<Yt)(G:PE X o td)(B:PE X i ty)(L:PE X e tv)(J:ZF e (b4 (.Subscript o i tpos)) pos.line X.env=pure c6) :
  PS X (.Assign [.Subscript o i tpos] e pos) (Pq X.K td ty tv):=by
 intro c s d H D I h;refine wpAny_Assign_Subscript (aT (L c s d H _ I h) λr Z ⟨v,j,m,T,O⟩=>aT (G c Z d j _ m O) λu s2 ⟨x,l,n,U,Q⟩=>aT (B c s2 d l _ n Q) λN s3 ⟨y,H3,p,Y,a,b,ps,k,w,z,e,E,A,M,R⟩=>?_) J;subst w z;obtain rfl:u=Wg a:=U;obtain rfl:N=Wg b:=Y;exact Pg K p e E A M T λs4 q=>⟨d,_,q,R⟩
theorem Pt{j:Nat}(hr:Room j X.A)(ho:QE X o mo)(hi:QE X i mi)(he:QE X e me)(h:eK e=c7):QS X (.Assign [.Subscript o i tpos] e pos) (zJ rZ mo mi me):=
 ⟨jO (Pr (Kw hr) ho.h hi.h he.h (o9 h)) (by
 rintro E σ H ⟨π,K,μ,fl,ρ',μ',R,n,d,k⟩;obtain⟨⟨x,l⟩,h1,d⟩:=VT.mp d;obtain⟨⟨y,m⟩,h2,d⟩:=VT.mp d;obtain⟨⟨z,B⟩,h3,d⟩:=VT.mp d;obtain⟨μ4,c,d⟩:=VZ.mp d;cases d;refine⟨π,K,μ,x,l,R,n,h1,λG v1 H1 p Q i1=>⟨G,K,l,y,m,Q,n.mono p,h2,λI v2 H2 q R2 i2=>⟨I,K,m,z,B,R2,(n.mono p).mono q,h3,λJ v3 H3 r L i3=>?_⟩⟩⟩;cases y with
 |loc a=>
  simp only[rZ]at c;split at c
  ·rename_i w hc;obtain⟨j,h5,c⟩:=VT.mp c;split at c
   ·rename_i hz;cases c;have v:=i2.mono r;cases v with
    |loc s=>
     obtain⟨A,N,T⟩:=iJ L hc;obtain⟨b,rfl,O⟩:=pQ i3 h5;have hv:=(i1.mono q).mono r;have Y:=T.put j O hv;obtain⟨Z,g2,g3⟩:=Y.to;have u:A.length<Wb:=by have:=congrArg WY (T.to).1;rw[V0,V0]at this;omega
     refine⟨_,b,A,j,rfl,rfl,N,T.keys,O,u,?_⟩;obtain⟨M,U⟩:=L.put (c:=.dT (fT w j x)) (o:=aZ _ (jV A j b v1)) s N (.inr (.inr ⟨_,rfl⟩)) ⟨_,rfl,Z,g2,g3⟩;exact k J σ _ (((p.trans q).trans r).trans M) U ((((n.mono p).mono q).mono r).mono M)
   ·cases c
  ·cases c
 |_=>simp[rZ]at c)⟩
end
noncomputable def sC(neg:Bool):D->D->Hm->Option (D×Hm)
 |x,.loc a,μ=>match μ[a]? with
  |some (.dT kvs)=>(fE x).map λk=>(.bl (if neg then !(cF kvs k).isSome else(cF kvs k).isSome),μ)|some (.dF kvs)=>(fE x).map λk=>(.bl (if neg then !(cF kvs k).isSome else(cF kvs k).isSome),μ)|_=>c4
 |_,_,_=>c4
noncomputable def zM(K:VU)(neg:Bool):R2:=λx y H Q=>∃a b ps k,x=.ref b/\y=.ref a/\Rd H a (aZ a ps)/\fK K H ps/\SqT K H b (k.map V.int)/\Q (.bl (if neg then !(eU ps k).isSome else(eU ps k).isSome)) H
theorem Eu{X:Cx}(l:X.A.units+1<Yt):OpR X (Xd .In) (zM X.K c6):=by intro d s r H x y v u Q I m n h;obtain⟨a,b,o,k,rfl,rfl,e,j,i,q⟩:=h;obtain rfl:v=Wg b:=m;obtain rfl:u=Wg a:=n;exact Pe l I e j i λp c=>⟨.bl _,H,c,rfl,q⟩
theorem Ew{X:Cx}(l:X.A.units+1<Yt):OpR X (Xd .NotIn) (zM X.K c7):=by intro d s r H x y v u Q I m n h;obtain⟨a,b,o,k,rfl,rfl,e,j,i,q⟩:=h;obtain rfl:v=Wg b:=m;obtain rfl:u=Wg a:=n;exact Pf l I e j i λp c=>⟨.bl _,H,c,rfl,q⟩
theorem vD{K:VU}{neg:Bool}:cZ K (sC neg) (zM K neg):=by
 intro q H z x y d s u w Q R o p a k;unfold sC at a;split at a
 ·split at a
  ·rename_i i hc;obtain⟨h,c,a⟩:=VZ.mp a;cases a;cases p;obtain⟨l,m,T⟩:=iJ R hc;obtain⟨b,rfl,n⟩:=pQ o c;have e:(eU l h).isSome=(cF i h).isSome:=by rcases T.val h with⟨c,j⟩|⟨v,d,c,j,_⟩<;>rw[c,j]<;>rfl
   refine⟨_,b,l,h,rfl,rfl,.of m,T.keys,n,?_⟩;rw[e];exact k q _ H .refl R (.bl _)
  ·rename_i i hc;obtain⟨h,c,a⟩:=VZ.mp a;cases a;cases p;obtain⟨r,l,m,T⟩:=r9 R hc;obtain⟨b,rfl,n⟩:=pQ o c;have e:(eU l h).isSome=(cF i h).isSome:=by rcases T.val h with⟨c,j⟩|⟨v,d,c,j,_⟩<;>rw[c,j]<;>rfl
   refine⟨_,b,l,h,rfl,rfl,.inr ⟨r,m⟩,T.keys,n,?_⟩;rw[e];exact k q _ H .refl R (.bl _)
  ·cases a
 ·cases a
section
variable{X:Cx}{a b:Expr}{ma mb:ME}{pos:XD}
end
end L3
namespace L3
open PySem L2
noncomputable def RawD(h:Xo)(d:Addr)(es:Array DictEntry)(a:Nat):Prop:=∃z,h.get? d=b4 z/\z.ExactDict/\z.data=.dict es a
theorem RawD.ty{s:V1}{d:Addr} {es ep} (g:RawD s.heap d es ep):s.TypeIs (.ref d) "dict":=let⟨z,a,g2,_⟩:=g;⟨z,a,g2.1⟩
theorem RawD.stay{h h':Xo}{d:Addr} {es ep} (g:RawD h d es ep)(k:∀o,h.get? d=b4 o->h'.get? d=b4 o):RawD h' d es ep:=let⟨z,a,g2⟩:=g;⟨z,k z a,g2⟩
theorem RawD.lt{h:Xo}{d:Addr} {es ep} (g:RawD h d es ep):d<h.objs.size:=let⟨_,a,_⟩:=g;Wi a
section
variable{P:Wv}{w:WO}{A:WJ}{E:Value->V1->Prop}{s:V1}{d it:Addr}{i ep:Nat}{es:Array DictEntry}
theorem Ey{Q:Value->V1->Prop}(lo:(d==Xs)=c6)(g:RawD s.heap d es ep)
  (q:Q (.ref s.heap.objs.size) {s with heap:=s.heap.push {cls:=.type "dict_keyiterator",data:=.fields #[.ref d,.int 0 0,.int es.size 0,.int ep 0]}}):Wm (WC P w) A (a1X (.ref d)) Q E s:=by
 obtain⟨z,a,g2,b⟩:=id g;refine a4I g.ty F.slot_dict_iter (Y6 F.slot_dict_iter g.ty F.entry_dict_iter ?_ (F.args_dict_iter_1 _));unfold Builtin.«dict.__iter__» a5J;refine VX (VX (YB g.ty ?_));show Wm _ _ (pure (Wg d)) _ _ _;refine V7 ?_;show Wm _ _ (Yn d >>= _) _ _ _;unfold Yn;rw[if_neg (λx=>Wu (lo.symm.trans x))];refine VX (V7 (VX (Xj a b (VX (YT a b (VX (X9 (V7 ?_))))))));exact⟨_,rfl,"dict_keyiterator",_,⟨_,Ws _ rfl,rfl⟩,F.slot_dict_keyiterator_next.lookup,by simpa[Zl]using q⟩
theorem vF{Q:Option Value->V1->Prop}(o:A.handled=c4)(j:s.heap.IsKeyIter it d i es.size ep)(g:RawD s.heap d es ep)
  (r:∀e a,es[i]?=b4 e->a.IsKeyIter it d (i+1) es.size ep->Yg it s.heap a->Q (b4 e.key) {s with heap:=a})
  (v:es[i]?=c4->∀a,a1x it s.heap a->Q c4 {s with heap:=a}):Wm (WC P w) A (a1W (.ref it)) Q E s:=by
 obtain⟨y,c,p,b⟩:=id j;obtain⟨z,l,g2,m⟩:=id g;have k:∀{Q:String->V1->Prop}{A:WJ}{E:Value->V1->Prop},Q "dict_keyiterator" s->Wm (WC P w) A (typeNameOfWhole (.ref it)) Q E s:=λq=>wpAny_typeNameOfWhole_keyiter j.typeIs q;unfold a1W;refine VX (wpAny_attempt (a3j (name:=XS "__next__") j.typeIs F.slot_dict_keyiterator_next (Y6 F.slot_dict_keyiterator_next j.typeIs F.entry_dict_keyiterator_next ?_ (F.args_dict_keyiterator_next_1 _))));refine VX (V7 (VX (VX (VX (k (V7 (VX (a5L c b ?_))))))));simp only[show Y4 "dict_keyiterator"=c6 by decide,V6,if_false];show Wm _ _ (if(Wg d==Xg)=c7 then _ else _) _ _ _;rw[if_neg (show ¬ (Wg d==Xg)=c7 from λx=>Wu x)];refine VX (V7 (VX (Xj l m ?_)));rw[if_neg (λx=>by simp at x)];refine VX (V7 (VX (YT l m ?_)));rw[if_neg (λx=>by simp at x)];refine V7 ?_;simp only[if_neg (show ¬ ((i:Int)<0) by omega),Z0];cases n:es[i]? with
 |some e=>
  refine VX (VX (k (V7 (VX (a3P j.typeIs ?_)))));show Wm _ _ (a2G (.ref it) 1 (Zl ((i:Int)+1)) >>= _) _ _ _;refine VX (Zy c b (by simp) ?_);have h:(s.heap.update it (a0J (·.setIfInBounds 1 (Zl ((i:Int)+1))))).IsKeyIter it d (i+1) es.size ep:=
   ⟨_,Yd _ c (Zw (Zd b _)),(a3V ..).trans p,by simp[Zd b,Zl]⟩
  generalize hu:s.heap.update it (a0J (·.setIfInBounds 1 (Zl ((i:Int)+1))))=u at h;refine VX (Yi (VX (a3P (s:={s with heap:=u}) h.typeIs ?_)));show Wm _ _ (pure e.key) _ _ _;exact V7 (V7 ⟨_,rfl,V7 (r e u n h (hu▸YN ..))⟩)
 |none=>refine VX (VX (k (V7 ?_)));show Wm _ _ (a2G (.ref it) 0 .none >>= _) _ _ _;refine VX (Zy c b (by simp) ?_);show Wm _ _ (a5O (.type "StopIteration") [] >>= _) _ _ _;simp only[a5O,newTuple];refine VX (VX (X9 ?_ (by size_fits)));refine VX (m:=a0N _ _) (wpAny_of_eq (a:=Xg) (by first|rfl|(simp only[a0N];rfl)) (X9 ?_ (by size_fits)));simp only[raiseNew];refine VX (wpAny_handled ?_);rw[show A.in1.handled=c4 from o];refine VX (V7 (wpAny_throw ?thrown));case thrown=>exact VX (Y5 (T:="StopIteration") (b:=c7) ⟨_,Ws _ rfl,rfl⟩ a5Q (V7 (v n _ (((YN ..).extBut.push _).push _))))
theorem Pu(n:A.handled=c4)(m:d≠it)(es:Array DictEntry)(ep:Nat):Walks P w A it [it,d] [it] es.size (λi v=>∃e,es[i]?=b4 e/\v=e.key) (λi h=>h.IsKeyIter it d i es.size ep/\RawD h d es ep) where
 sub:=λb a=>by rw[WS.mp a];exact WU ..
 frame:=λ_ _ _ st k=>⟨st.1.at λo e=>k it (by simp) o e,st.2.stay λo e=>k d (by simp) o e⟩
 item:=λi s Q E u st q=>vF n st.1 st.2 (λe l c r p=>q _ l s.toks ⟨e,c,rfl⟩ ⟨r,st.2.stay λo j=>p.extBut d o m j⟩ λb o a j=>p.extBut b o (λz=>a (by simp[z])) j) (λc=>by simp at c;omega)
 done:=λs Q E st q=>vF n st.1 st.2 (λe l c=>by simp at c) (λ_ l x=>q l s.toks λb o a j=>x b o (λz=>a (by simp[z])) j)
 self:=λ_ _ _ _ st q=>a4e st.1 q
theorem Pw(lo:(d==Xs)=c6):PySem.W.KdlSrc P w "dict" d d es.size (λi v=>∃e,es[i]?=b4 e/\v=e.key) (λh=>RawD h d es ep) where
 type:=λ_ g=>g.ty
 there:=λ_ g=>⟨g.lt,g.lt⟩
 keep:=λ_ _ g k=>g.stay λo e=>k d (.inl rfl) o e
 notList:=by decide
 notTuple:=by decide
 hint:=λ_ _ _ _ g q=>PySem.W.kdl_hint_dict g.ty q
 iter:=λ_ _ a g=>⟨_,_,(λ_ _ q=>Ey lo g q),Pu a (WB g.lt) es ep,⟨⟨_,Ws _ rfl,rfl,rfl⟩,g.stay λo e=>V8 _ e⟩⟩
theorem Px(lo:(d==Xs)=c6):MeetsIn P w (Builtin.«dict.__len__» ⟨[.ref d],[]⟩) (λ_ R s=>∃es ep,RawD s.heap d es ep/\R (.ok (.ret (.int (es.size:Nat) s.toks))) {s with toks:=s.toks+1}):=
 .of_wp λA R s ⟨es,ep,⟨z,a,g2,b⟩,q⟩=>by show Wm _ _ (dictSize d >>= _) _ _ _;unfold dictSize;refine VX (VX (Xj a b (V7 ?_)));show Wm _ _ (a5G d >>= _) _ _ _;refine VX (wpAny_pendingCount_other lo (wpAny_ret_mkInt ?_));rw[a5g];exact q
theorem Py{Q:Value->V1->Prop}(lo:(d==Xs)=c6)(g:RawD s.heap d es ep)(hz:es.size<=Wb)(q:Q (.int (es.size:Nat) (s.toks+1)) {s with toks:=s.toks+1+1}):Wm (WC P w) A (call (.builtin "len") [.ref d]) Q E s:=
 a5w g.ty F.slot_dict_len (λb a=>a1H F.slot_dict_len g.ty F.entry_dict_len (F.args_dict_len_1 _) (Px lo) ⟨es,ep,g,a⟩) (by omega) (by rw[W6]at hz;omega) q
end
theorem zN:∀{ps:cC}{ws:List Value},Vals (ps.map (·.2.2)) ws->(bU ps ws).map (λx=>Wg x.2.1)=ps.map λp=>Wg p.2.1
 |[],_,_=>by simp[bU]
 |p::ps,_,.cons r t=>by have a:=zN (ps:=ps) t;unfold bU at a ⊢;rw[WT,We,We,a]
theorem Ez:∀ps:cC,Vals (ps.map λp=>V.ref p.2.1) (ps.map λp=>Wg p.2.1)
 |[]=>.nil|p::ps=>.cons rfl (Ez ps)
section
variable{X:Cx}{a5T:List (Addr×Obj)}{σ:St}{H:Hp}{s:V1}{a:Addr}{ps:cC}
theorem pR(I:Inv X a5T σ H s)(e:H a=b4 (aZ a ps))(j:fK X.K H ps):(a==Xs)=c6/\ps.length<=Wb/\∃es b,RawD s.heap a es b/\es.toList.map (·.key)=ps.map λp=>Wg p.2.1:=by obtain⟨l,k,m,r,z,es,b,c,d,h,i,_⟩:=k7 I (.of e) j;refine⟨l,k,es,b,⟨z,c,d,h⟩,?_⟩;rw[i,WI,<- zN r];rfl
noncomputable def EA(K:VU):List V->Hp->VK->Prop:=λxs H Q=>∃a ps,xs=[V.ref a]/\H a=b4 (aZ a ps)/\fK K H ps/\Q (.int ps.length) H
theorem PB:CallR X (.builtin "len") (EA X.K):=by
 intro a5T s σ H o n Q I r h;obtain⟨a,ps,rfl,c,e,q⟩:=h;obtain⟨u,rfl,k⟩:=lQ r;cases k;obtain⟨j,m,b,l,g,d⟩:=pR I c e;have i:b.size=ps.length:=by have:=congrArg WY d;simpa using this
 refine Py j g (by omega) ?_;rw[i];exact⟨.int ps.length,H,(I.tok _).tok _,⟨_,rfl⟩,q⟩
noncomputable def EB(K:VU):List V->Hp->VK->Prop:=λxs H Q=>∃a ps,xs=[V.ref a]/\H a=b4 (aZ a ps)/\fK K H ps/\∀l,H l=c4->Q (.ref l) (upd H l (.lst (ps.map λp=>V.ref p.2.1)))
theorem PC(hc:X.calm=c7):CallR X (.type "list") (EB X.K):=by
 intro a5T s σ H N M Q I r h;obtain⟨a,ps,rfl,x,y,q⟩:=h;obtain⟨u,rfl,E⟩:=lQ r;cases E;obtain⟨B,z,m,J,g,d⟩:=pR I x y;have L:m.size=ps.length:=by have:=congrArg WY d;simpa using this
 refine PySem.W.kdl_call (Pw B) (I.ok.hd hc) g (by omega) λK G b k A w c=>?_;refine⟨.ref s.heap.objs.size,_,I.laid (t':=G) (a:=s.heap.objs.size) (o:=.lst (ps.map λp=>V.ref p.2.1)) A (Wa _) ?_,rfl,q _ (I.hok.fresh (Wa _))⟩;refine⟨by rw[V0];exact z,b.toList,k,?_,by simpa using w⟩;have l:b.toList=ps.map λp=>Wg p.2.1:=by
  rw[<- d];refine a3L λi=>?_;rw[WD,Yc,Yc];cases j:b[i]? with
  |some v=>obtain⟨e,n,o⟩:=c.2 i v j;rw[n,o];rfl|none=>
   have:b.size<=i:=by simpa using j
   rw[Array.getElem?_eq_none (by rw[<- c.1];exact this)];rfl
 rw[l];exact Ez ps
end
section
variable{X:Cx}{a b o i e:Expr}{ma mb mo mi me:ME}{pos tpos:XD}{k:Nat}
theorem PD(m:Room k X.A)(j:QE X a ma)(l:QE X b mb)(h:o8 b=c7):QE X (.Subscript a b pos) (aC aE ma mb):=
 nM (Pp m j l h) (My j l h) (g8 λx y n r c=>by
  unfold aE at c;split at c
  ·split at c
   ·rename_i d hc;refine .inl ?_;simp only[sA,hc];exact c
   ·rename_i d hc;refine .inl ?_;simp only[sA,hc];exact c
   ·exact .inr c
  ·exact .inr c)
noncomputable def pS(neg:Bool):D->D->Hm->Option (D×Hm):=λx y c=>match sC neg x y c with
 |some r=>b4 r|none=>lW neg x y c
theorem vG{neg:Bool}(x y:D)(c:Hm)(r:D×Hm)(h:pS neg x y c=b4 r):sC neg x y c=b4 r\/lW neg x y c=b4 r:=by
 unfold pS at h;split at h
 ·rename_i z;rw[z];exact .inl h
 ·exact .inr h
theorem EC{neg:Bool}(x y:D)(l:Hm)(r:D×Hm)(h:cX neg x y l=b4 r):(∃i j,x=.str i/\y=.str j)\/pS neg x y l=b4 r:=by
 cases y with
 |loc a=>
  refine .inr ?_;have e:cX neg x (.loc a) l=(match l[a]? with
   |some (.dT d)=>(fE x).map λk=>(D.bl (if neg then !(cF d k).isSome else(cF d k).isSome),l)|some (.dF d)=>(fE x).map λk=>(D.bl (if neg then !(cF d k).isSome else(cF d k).isSome),l)
   |_=>lW neg x (.loc a) l):=by cases x<;>rfl
  rw[e]at h;unfold pS;simp only[sC];cases hc:l[a]? with
  |none=>rw[hc]at h;exact h|some c=>
   rw[hc]at h;cases c with
   |dT d=>dsimp only at h ⊢;rw[h]|dF d=>dsimp only at h ⊢;rw[h]|_=>exact h
 |str j=>
  cases x with
  |str i=>exact .inl ⟨i,j,rfl,rfl⟩|_=>exact .inr h
 |_=>cases x<;>exact .inr h
theorem ED(x y:D)(c:Hm)(r:D×Hm)(h:cX c6 x y c=b4 r):yT x y c=b4 r\/pS c6 x y c=b4 r:=by
 rcases EC x y c r h with⟨i,j,rfl,rfl⟩|z
 ·exact .inl h
 ·exact .inr z
theorem EE(x y:D)(c:Hm)(r:D×Hm)(h:cX c7 x y c=b4 r):zB x y c=b4 r\/pS c7 x y c=b4 r:=by
 rcases EC x y c r h with⟨i,j,rfl,rfl⟩|z
 ·exact .inl h
 ·exact .inr z
theorem PF(j:Room k X.A)(c:QE X a ma)(d:QE X b mb)(h:f9 b=c7):QE X (.Compare a [.In] [b] pos) (aC (cX c6) ma mb):=
 nM ⟨fB B4 Dk c.h d.h (iH h)⟩ (nM ⟨fB (Eu (lV j)) vD c.h d.h (iH h)⟩ ⟨fB (DT (uV j)) uT c.h d.h (iH h)⟩ (g8 vG)) (g8 ED)
theorem PH(j:Room k X.A)(c:QE X a ma)(d:QE X b mb)(h:f9 b=c7):QE X (.Compare a [.NotIn] [b] pos) (aC (cX c7) ma mb):=
 nM ⟨fB CC DV c.h d.h (iH h)⟩ (nM ⟨fB (Ew (lV j)) vD c.h d.h (iH h)⟩ ⟨fB (DU (uV j)) uT c.h d.h (iH h)⟩ (g8 vG)) (g8 EE)
theorem PL(j:Room k X.A)(c:QE X a ma)(d:QE X b mb)(h:f9 b=c7):QT X (.Compare a [.In] [b] pos) (aN (aC (cX c6) ma mb)):=
 pF ⟨fC B4 Dk c.h d.h (iH h)⟩ (pF ⟨fC (Eu (lV j)) vD c.h d.h (iH h)⟩ ⟨fC (DT (uV j)) uT c.h d.h (iH h)⟩ (pG (g8 vG))) (pG (g8 ED))
theorem PM(j:Room k X.A)(c:QE X a ma)(d:QE X b mb)(h:f9 b=c7):QT X (.Compare a [.NotIn] [b] pos) (aN (aC (cX c7) ma mb)):=
 pF ⟨fC CC DV c.h d.h (iH h)⟩ (pF ⟨fC (Ew (lV j)) vD c.h d.h (iH h)⟩ ⟨fC (DU (uV j)) uT c.h d.h (iH h)⟩ (pG (g8 vG))) (pG (g8 EE))
theorem PN(l:Room k X.A)(j:QE X o mo)(d:QE X i mi)(c:QE X e me)(h:eK e=c7):QS X (.Assign [.Subscript o i tpos] e pos) (dR mo mi me):=Pt l j d c h
end
end L3
namespace L3
open PySem L2
end L3
namespace L3
open PySem L2
end L3
namespace L3
open PySem L2
section
variable{P:Wv}{w:WO}{A:WJ}{E:Value->V1->Prop}{s:V1}{d it S:Addr}{i ep:Nat}{es:Array DictEntry}
end
structure PrsAt(es:Array DictEntry)(lo:Addr)(h:Xo)(as:List Addr):Prop where
 up:as.Pairwise (·<·)
 over:∀a∈as,lo<a
 prs:∀(j:Nat)(a:Addr),as[j]?=b4 a->∃e,es[j]?=b4 e/\h.get? a=b4 {cls:=.type "tuple",data:=.seq #[e.key,e.val]}
section
variable{P:Wv}{w:WO}{A:WJ}{s:V1}{R:a2L->V1->Prop}{es:Array DictEntry}{ep:Nat}{S I d:Addr}
end
end L3
namespace L3
open PySem L2 PySem.W PyProof.Rows
section
variable{P:Wv}{w:WO}{A:WJ}{E:Value->V1->Prop}{s:V1}
end
end L3
namespace L3
open PySem L2 PySem.W PyProof.Rows
section
variable{P:Wv}{w:WO}{A:WJ}{E:Value->V1->Prop}{s:V1}
end
end L3
namespace L3
open PySem L2
end L3
namespace L3
open PySem L2
section
variable{P:Wv}{w:WO}
theorem PQ(d:Addr)(hd:(d==Xs)=c6):MeetsIn P w (Builtin.«dict.items» ⟨[.ref d],[]⟩) (λ_ R s=>(∃es a,RawD s.heap d es a) /\
   R (.ok (.ret (.ref s.heap.objs.size))) {s with heap:=s.heap.push {cls:=.type "dict_items",data:=.fields #[.ref d]}}):=
 .of_wp λA R s ⟨⟨es,a,g⟩,h⟩=>by unfold Builtin.«dict.items»;refine VX ?_;unfold a1K;refine VX (YB g.ty ?_);show Wm _ _ (pure d) _ _ s;refine V7 ?_;show Wm _ _ (Yn d >>= _) _ _ s;unfold Yn;rw[if_neg (by rw[hd];exact Wu)];refine VX (V7 ?_);exact VX (X9 (V7 ⟨_,rfl,h⟩))
end
end L3
namespace L3
open PySem L2
section
variable{X:Cx}{a5T pins0:List (Addr×Obj)}{σ σ0:St}{H H0:Hp}{s s0:V1}{a:Addr}{ps ps0:cC}{ob:Obj}
theorem Inv.freeze(I:Inv X a5T σ H s)(e:H a=b4 (aZ a ps))(c:s.heap.get? a=b4 ob):Inv X a5T σ (upd H a (.frz ob (aZ a ps))) s:=by have ok:ObjOk X.prog X.w H s.heap a (aZ a ps):=I.hok a _ e;exact I.write (x:=a) (e:=a) (h':=s.heap) (t':=s.toks) (by rw[e];exact YC) (.inl rfl) (λb q _ z=>z) ⟨ob,c⟩ ⟨c,ok⟩
theorem Inv.thaw(n:Inv X pins0 σ0 H0 s0)(r:H0 a=b4 (aZ a ps0))(I:Inv X a5T σ H s)(e:H a=b4 (.frz ob (aZ a ps))):Inv X a5T σ (upd H a (aZ a ps)) s:=by
 have ne:∀{b:Addr},H b=c4->b≠a:=λ{b} h z=>by rw[z,e]at h;cases h
 refine⟨I.ok,I.os,I.bare,⟨I.base.keep,I.base.slot,λb o d i j=>?_,I.base.there,λb l h=>?_,λb o u h=>?_,λb w h=>?_⟩,I.loc,I.cell,?_,λx c h=>?_,λp v=>?_,λb u q=>?_,I.len⟩
 ·have:=I.base.free b o d i j;rw[bG (ne this)];exact this
 ·have:=I.base.tups b l h;rw[bG λz=>by rw[z,e]at this;cases this];exact this
 ·have:=I.base.frzs b o u h;rw[bG λz=>by
   have m:=n.base.frzs b o u h;rw[z,r]at m;cases m]
  exact this
 ·obtain⟨more,d⟩:=I.base.tbls b w h;exact⟨more,by rw[bG λz=>by rw[z,e]at d;cases d];exact d⟩
 ·rw[bG (ne I.free)];exact I.free
 ·have:=I.freeC x c h;rw[bG (ne this)];exact this
 ·obtain⟨d,i,j⟩:=I.pin p v;exact⟨d,by rw[bG (ne i)];exact i,j⟩
 ·by_cases k:b=a
  ·subst k;rw[dG]at q;cases q;exact(show ObjOk X.prog X.w H s.heap b (.frz ob (aZ b ps))from I.hok b _ e).2
  ·rw[bG k]at q;exact(I.hok b u q).stay (λ_ _ _ z=>z) (λc h=>by rw[bG λz=>by rw[z,e]at h;cases h];exact h) λc l h=>by rw[bG λz=>by rw[z,e]at h;cases h];exact h
end
noncomputable def zO(i:Nat)(a:aG):Option D:=if i<1000 then(a[i]?).bind id else match a[i/1000-1]? with
 |some (b4 (.tup ds))=>ds[i%1000]?|_=>c4
noncomputable def pT(i:Nat)(c:aG)(b:Hm):Option (Nat×List (List Int×D)):=match zO i c with
 |some (.loc a)=>match b[a]? with
  |some (.dT kvs)=>b4 (a,kvs)|_=>c4
 |_=>c4
theorem EF{i:Nat}{d:aG}{c:Hm}{a:Nat}{b:List (List Int×D)}(h:pT i d c=b4 (a,b)):c[a]?=b4 (.dT b):=by
 unfold pT at h;split at h
 ·split at h
  ·rename_i hc;cases h;exact hc
  ·cases h
 ·cases h
noncomputable def zP(i:Nat)(d e:ME):ME:=λc b=>match pT i c b with
 |some (a,kvs)=>(d c (b.set a (.dF kvs))).bind λr=>match r.2[a]? with
  |some (.dF kvs')=>b4 (r.1,r.2.set a (.dT kvs'))|_=>c4
 |none=>e c b
noncomputable def eN(i:Nat)(d e:MS):MS:=λc b=>match pT i c b with
 |some (a,kvs)=>(d c (b.set a (.dF kvs))).bind λr=>match r.2.2[a]? with
  |some (.dF kvs')=>b4 (r.1,r.2.1,r.2.2.set a (.dT kvs'))|_=>c4
 |none=>e c b
section
variable{X:Cx}{a5T:List (Addr×Obj)}{σ:St}{H:Hp}{s:V1}{π:Nat->Addr}{ρ:aG}{μ:Hm}{a:Nat}{kvs:List (List Int×D)}
theorem EG(I:Inv X a5T σ H s)(R:Rp X.K π H μ)(E:En X.K π μ.length H σ ρ)(hc:μ[a]?=b4 (.dT kvs)):∃ob ps,H (π a)=b4 (aZ (π a) ps)/\Inv X a5T σ (upd H (π a) (.frz ob (aZ (π a) ps))) s /\
  Rp X.K π (upd H (π a) (.frz ob (aZ (π a) ps))) (μ.set a (.dF kvs))/\En X.K π (μ.set a (.dF kvs)).length (upd H (π a) (.frz ob (aZ (π a) ps))) σ ρ:=by
 obtain⟨ps,b,T⟩:=iJ R hc;obtain⟨_,⟨ob,d⟩,_⟩:=(show ObjOk X.prog X.w H s.heap (π a) (aZ (π a) ps)from I.hok _ _ b);obtain⟨c,R2⟩:=R.put (c:=.dF kvs) (o:=.frz ob (aZ (π a) ps)) (VY.mp hc).1 b (.inr (.inr ⟨_,rfl⟩)) ⟨ob,ps,rfl,T.to⟩;exact⟨ob,ps,b,Inv.freeze I b d,R2,E.mono c⟩
theorem sD{j:List (Addr×Obj)}{n:St}{H':Hp}{x:V1}{c:Nat->Addr}{i:Hm}{ob:Obj}{ps:cC}{d:List (List Int×D)}(I:Inv X a5T σ H s)(e:H (π a)=b4 (aZ (π a) ps))(A:a<μ.length)
  (y:Inv X j n H' x)(w:Rp X.K c H' i)(l:Ext π (μ.set a (.dF kvs)).length (upd H (π a) (.frz ob (aZ (π a) ps))) c i.length H')(hc:i[a]?=b4 (.dF d)) :
  ∃q,Inv X j n q x/\Ext π μ.length H c (i.set a (.dT d)).length q/\Rp X.K c q (i.set a (.dT d))/\Ext0 c i.length H' c (i.set a (.dT d)).length q:=by
 have r:c a=π a:=l.pi a (by rw[WG];exact A);obtain⟨E,k,v,T⟩:=r9 w hc;obtain⟨J,R2⟩:=w.put0 (c:=.dT d) (o:=aZ (c a) k) (VY.mp hc).1 v (.inr (.inr (.inr ⟨_,_,rfl⟩))) ⟨k,rfl,T.to⟩;rw[r]at v;refine⟨upd H' (c a) (aZ (c a) k),?_,⟨?_,λb B=>l.pi b (by rw[WG];exact B),λp G h=>?_,λp o u h=>?_⟩,R2,J⟩
 ·rw[r];exact Inv.thaw I e y v
 ·have:=l.le;rw[WG]at this ⊢;exact this
 ·have m:p≠π a:=λz=>by rw[z,e]at h;cases h
  have:=l.tup p G (by rw[bG m];exact h);rw[r,bG m];exact this
 ·have m:p≠π a:=λz=>by rw[z,e]at h;cases h
  have:=l.frz p o u (by rw[bG m];exact h);rw[r,bG m];exact this
theorem En.mono0{K:VU}{b:Nat->Addr}{n c:Nat}{H':Hp}(E:En K π n H σ ρ)(e:Ext0 π n H b c H'):En K b c H' σ ρ:=
 ⟨E.len,λi d h=>let⟨v,j,k⟩:=E.get i d h;⟨v,j,k.mono0 e⟩⟩
end
section
variable{X:Cx}{e:Expr}{st:Stmt}{i:Nat}
theorem PR{z A:ME}(h1:QE X e z)(h2:QE X e A):QE X e (zP i z A):=⟨by
 intro l s J H Q I hw;obtain⟨m,G,B,d,r,R,E,c,k⟩:=hw;unfold zP at c;split at c
 ·rename_i a q hv;obtain⟨⟨x,h⟩,Z,c⟩:=VT.mp c;dsimp only at c;split at c
  ·rename_i y o;cases c;have hc:=EF hv;obtain⟨ob,ps,U,L,O,K⟩:=EG I R E hc;refine aT (h1.h l s J _ (λv j=>∃b,Ext m (B.set a (.dF q)).length (upd H (m a) (.frz ob (aZ (m a) ps))) b h.length j/\Rp X.K b j h/\IsD X.K b h.length j v d) L ⟨m,G,_,d,h,O,K,Z,λb v j n R2 p=>⟨b,n,R2,p⟩⟩) λu s2 ⟨v,j,M,rv,b,n,R2,p⟩=>?_;obtain⟨w,N,Y,T,x3⟩:=sD I U (VY.mp hc).1 M R2 n o;exact⟨v,w,N,rv,k b v w Y T (p.mono0 x3)⟩
  ·cases c
 ·exact h2.h l s J H Q I ⟨m,G,B,d,r,R,E,c,k⟩⟩
theorem zQ{Z m2:MS}(h1:QS X st Z)(h2:QS X st m2):QS X st (eN i Z m2):=⟨by
 intro K s σ H D I hw;obtain⟨m,ρ,L,G,p,U,R,E,w,k⟩:=hw;unfold eN at w;split at w
 ·rename_i a x hv;obtain⟨⟨fl1,ρ1,h⟩,g1,w⟩:=VT.mp w;dsimp only at w;split at w
  ·rename_i Y r;cases w;have hc:=EF hv;have N:=(VY.mp hc).1;obtain⟨O,Q,M,I1,R1,E1⟩:=EG I R E hc;refine aT (h1.h K s σ _ ⟨λc j=>G=.nx/\∃b,Ext m (L.set a (.dF x)).length (upd H (m a) (.frz O (aZ (m a) Q))) b h.length j/\Rp X.K b j h/\En X.K b h.length j c p,
     λv j=>∃d,G=.rt d/\∃b,Ext m (L.set a (.dF x)).length (upd H (m a) (.frz O (aZ (m a) Q))) b h.length j/\Rp X.K b j h/\IsD X.K b h.length j v d,
     λc j=>G=.bk/\∃b,Ext m (L.set a (.dF x)).length (upd H (m a) (.frz O (aZ (m a) Q))) b h.length j/\Rp X.K b j h/\En X.K b h.length j c p,
     λc j=>G=.ct/\∃b,Ext m (L.set a (.dF x)).length (upd H (m a) (.frz O (aZ (m a) Q))) b h.length j/\Rp X.K b j h/\En X.K b h.length j c p⟩ I1 ⟨m,ρ,_,G,p,h,R1,E1,g1,?_⟩) λf s2 q=>?_
   ·cases G with
    |nx=>exact λb c j l R2 n=>⟨rfl,b,l,R2,n⟩|bk=>exact λb c j l R2 n=>⟨rfl,b,l,R2,n⟩|ct=>exact λb c j l R2 n=>⟨rfl,b,l,R2,n⟩|rt d=>exact λb v j l R2 T=>⟨d,rfl,b,l,R2,T⟩
   ·cases f with
    |next=>obtain⟨c,j,y,rfl,b,l,R2,n⟩:=q;obtain⟨o,z,B,A,J⟩:=sD I M N y R2 l r;exact⟨c,o,z,k b c o B A (En.mono0 n J)⟩|brk=>obtain⟨c,j,y,rfl,b,l,R2,n⟩:=q;obtain⟨o,z,B,A,J⟩:=sD I M N y R2 l r;exact⟨c,o,z,k b c o B A (En.mono0 n J)⟩|cont=>obtain⟨c,j,y,rfl,b,l,R2,n⟩:=q;obtain⟨o,z,B,A,J⟩:=sD I M N y R2 l r;exact⟨c,o,z,k b c o B A (En.mono0 n J)⟩|ret u=>obtain⟨v,c,j,y,rv,d,rfl,b,l,R2,T⟩:=q;obtain⟨o,z,B,A,J⟩:=sD I M N y R2 l r;exact⟨v,c,o,z,rv,k b v o B A (T.mono0 J)⟩
  ·cases w
 ·exact h2.h K s σ H D I ⟨m,ρ,L,G,p,U,R,E,w,k⟩⟩
end
noncomputable def zR(d:Addr)(ob:Obj)(ps:cC):It:=⟨λi H=>H d=b4 (.frz ob (aZ d ps))/\i<ps.length,λi H x H'=>H'=H/\∃p,ps[i]?=b4 p/\x=.ref p.2.1,λi H=>H d=b4 (.frz ob (aZ d ps))/\ps.length<=i⟩
theorem nR{X:Cx}{a5T:List (Addr×Obj)}{σ:St}{H:Hp}{s:V1}{d:Addr}{ob:Obj}{ps:cC}(I:Inv X a5T σ H s)(e:H d=b4 (.frz ob (aZ d ps))) :
  (d==Xs)=c6/\ps.length<=Wb/\∃a b,RawD s.heap d a b/\ob.data=.dict a b/\a.toList.map (·.key)=ps.map λp=>Wg p.2.1:=by
 obtain⟨c,⟨q,r,m,l,o,a,b,h,j,i,k,n⟩,_⟩:=(show ObjOk X.prog X.w H s.heap d (.frz ob (aZ d ps))from I.hok d _ e);rw[c]at h;cases h;refine⟨m,l,a,b,⟨ob,c,j,i⟩,i,?_⟩;rw[k,vC (P:=X.prog) (w:=X.w),WI,<- zN r];rfl
theorem EH:∀(ps:cC)(ws:List Value),ps.length=ws.length->(ZJ rC ps ws).map (·.val)=ws
 |[],[],_=>rfl|[],_::_,h=>by cases h
 |_::_,[],h=>by cases h
 |p::ps,u::ws,h=>by rw[WT,We,EH ps ws (by simpa using h)];rfl
theorem PU{X:Cx}{a5T:List (Addr×Obj)}{σ:St}{H:Hp}{s:V1}{d:Addr}{ob:Obj}{ps:cC}(I:Inv X a5T σ H s)(e:H d=b4 (.frz ob (aZ d ps))) :
  (d==Xs)=c6/\ps.length<=Wb/\∃a b,RawD s.heap d a b/\ob.data=.dict a b/\Vals (ps.map (·.2.2)) (a.toList.map (·.val)):=by
 obtain⟨h,⟨c,r,p,n,o,a,b,i,l,j,m,q⟩,_⟩:=(show ObjOk X.prog X.w H s.heap d (.frz ob (aZ d ps))from I.hok d _ e);rw[h]at i;cases i;refine⟨p,n,a,b,⟨ob,h,l,j⟩,j,?_⟩;have k:(ZJ rC ps c).map (·.val)=c:=EH ps c (by
  have:=r.length;rw[V0]at this;exact this)
 rw[m,k];exact r
theorem PV{P:Wv}{w:WO}{K:VU}{tg:Expr}{d n:Addr}{ob:Obj}{ps:cC}{es:Array DictEntry}{R:Nat}(hd:ob.data=.dict es R):Turn Qc P w K tg (zR d ob ps) [n] n (λi h=>h.IsKeyIter n d i es.size R) where
 mem:=by simp
 obj:=λi h st b j=>by
  have e:b=n:=by simpa using j
  subst e;obtain⟨o,e,c,d⟩:=st;exact⟨o,e,λv z=>by rw[d]at z;cases z⟩
 keep:=λi h q st k=>st.at λo e=>k n (by simp) o e;item:=by
  intro X O hw N hc i p s Y H E I x st Q;subst O hw N;obtain⟨m,r⟩:=Q;obtain⟨lo,hl,A,y,g,a,u⟩:=nR I m;rw[hd]at a;cases a;have hs:es.size=ps.length:=by have:=congrArg WY u;simpa using this
  obtain⟨B,G,f2,J,L,M⟩:=x n (by simp);refine vF (I.ok.hd hc) st g (λe q l U sb=>?_) λhn=>by simp at hn;omega
  have Z:Inv X p Y H {s with heap:=q}:=I.turned (t':=s.toks) (λb o j e=>(sb.2 b j).trans e) B G J L M;obtain⟨o,e1,c,d1⟩:=id U;have T:ps[i]?=b4 ps[i]:=WM r;have ek:e.key=.ref (ps[i]).2.1:=by have:=congrArg (·[i]?) u;simp only[WD,Yc,l,T,WE]at this;exact Wj this
  exact⟨e.key,rfl,qX (s:={s with heap:=q}) e1 c d1 (by decide) ⟨.ref (ps[i]).2.1,H,Z,ek,⟨rfl,ps[i],T,rfl⟩,U,λb j=>(x b j).1⟩⟩
 done:=by
  intro X O hw N hc i p s Y H E I x st Q;subst O hw N;obtain⟨m,r⟩:=Q;obtain⟨lo,hl,A,y,g,a,u⟩:=nR I m;rw[hd]at a;cases a;have hs:es.size=ps.length:=by have:=congrArg WY u;simpa using this
  obtain⟨B,G,f2,J,L,M⟩:=x n (by simp);exact vF (I.ok.hd hc) st g (λe q l=>by
   have:=(XN.mp l).1;omega) λ_ q eb=>⟨rfl,I.turned (t':=s.toks) (λb o j e=>eb b o j e) B G J L M⟩
 self:=λ_ _ _ _ _ st h=>a4e st h
theorem PX{X:Cx}{l tg:Expr}{m:TE}(k:PE X l m):PI X tg l (λσ H R=>m σ H λv a=>∃d ob ps,v=.ref d/\a d=b4 (.frz ob (aZ d ps))/\R (zR d ob ps) a):=by
 intro j s σ H R I h;refine aT (k j s σ H _ I h) λv i ⟨y,a,c,w,u⟩=>?_;obtain⟨d,ob,ps,e,p,q⟩:=u;subst e;obtain rfl:v=Wg d:=w;obtain⟨r,k,z,x,g,hd,A⟩:=nR c p;refine Ey r g ⟨i.heap.objs.size,[i.heap.objs.size],_,_,a,rfl,c.kept (t':=i.toks) λb o e=>V8 _ e,PV hd,⟨_,Ws _ rfl,rfl,rfl⟩,λb n=>?_,q⟩;have e:b=i.heap.objs.size:=by simpa using n
 subst e;exact c.fpOk (Wa _) (c.hok.fresh (Wa _))
noncomputable def jB(a:List (List Int×D)):List D:=a.map λk=>D.tup (k.1.map D.int)
theorem PY{K:VU}{π:Nat->Addr}{n:Nat}{H:Hp}{d:Addr}{ob:Obj}{ps:cC}{a:List (List Int×D)}(h:H d=b4 (.frz ob (aZ d ps)))(T:IsTs K π n H ps a):Wk K (zR d ob ps) (eM (.tup (jB a))) π n H:=by
 have w:ps.length=a.length:=by have:=congrArg WY T.to.1;simpa using this
 refine⟨λc s k i e R z=>?_,λc s k i l e R z=>?_⟩
 ·have b:(jB a)[i]?=none:=Wj z;have:=XE.mp b;rw[jB,V0]at this;exact⟨e.frz _ _ _ h,by omega⟩
 ·have b:(jB a)[i]?=b4 l:=Wj z;have x:i<a.length:=by have:=(VY.mp b).1;rwa [jB,V0]at this
  refine⟨⟨e.frz _ _ _ h,by omega⟩,λv u ⟨m,p,o,q⟩=>?_⟩;subst m q;obtain⟨y,j,r⟩:=(T.to.2.1.mono e).get b;rw[WD,o]at j;cases j;exact⟨.refl,R,r⟩
noncomputable def iA(m:ME):MI:=λc b=>(m c b).bind λp=>match p.1 with
 |.loc a=>match p.2[a]? with
  |some (.dF kvs)=>b4 (eM (.tup (jB kvs)),kvs.length+1,p.2)|_=>c4
 |_=>c4
theorem zS{X:Cx}{e:Expr}{m:ME}(h:QE X e m):QJ X e (iA m):=⟨λtg a5T s σ H R I hw=>by
 obtain⟨A,B,w,v,n,y,j,E,a,k⟩:=hw;obtain⟨⟨x,z⟩,o,a⟩:=VT.mp a;dsimp only at a;split at a
 ·split at a
  ·rename_i q hc;cases a;refine PX h.h a5T s σ H R I ⟨A,B,w,_,_,j,E,o,λb G i l c p=>?_⟩;cases p;obtain⟨r,u,d,T⟩:=r9 c hc;exact⟨_,r,u,rfl,d,k b i _ l c (PY d T)⟩
  ·cases a
 ·cases a⟩
end L3
namespace L3
open PySem L2 PySem.W PyProof.Rows
section
variable{P:Wv}{w:WO}{A:WJ}{E:Value->V1->Prop}{s:V1}
end
end L3
namespace L3
open PySem L2
noncomputable def pU(b:Hm):D->Bool
 |.loc a=>match b[a]? with|some (.dT _)=>c7|_=>c6
 |_=>c6
noncomputable def iK(f:D->List D->Hm->Option (D×Hm))(b:ME)(ms:MA):ME:=λa c=>(b a c).bind λp=>match pU p.2 p.1 with
 |true=>(ms a p.2).bind λq=>f p.1 q.1 q.2|false=>c4
noncomputable def sE(K:VU)(x:V)(H:Hp):Prop:=∃a ps,x=.ref a/\H a=b4 (aZ a ps)/\fK K H ps
theorem EI{K:VU}{π:Nat->Addr}{H:Hp}{b:Hm}{v:V}{x:D}(R:Rp K π H b)(h:IsD K π b.length H v x)(e:pU b x=c7):sE K v H:=by
 cases h with
 |@loc a j=>
  simp only[pU]at e;split at e
  ·rename_i k d;obtain⟨i,c,T⟩:=iJ R d;exact⟨_,i,rfl,c,T.keys⟩
  ·cases e
 |_=>cases e
section
variable{X:Cx}{e o:Expr}{mo:ME}{to:TE}{t:TA}{apos cpos:XD}{es:List Expr}{ms:MA}{n:Nat}{r:V->List V->Hp->VK->Prop}{f:D->List D->Hm->Option (D×Hm)}{name:Str}{id:String}
theorem PZ(m:a5a "dict" name id) (w:a1T (.builtin id)=pure (.type "method_descriptor")) (M:iT X id r)(N:PE X o to)(K:PA X (e::es) t)(i:Yx o name X.env (eval o X.env)=eval o X.env)
  (l:((XM cpos (Wn (e::es) X.env)).all (λx=>!x.1)&&(Yu cpos (XJ [] X.env)).all (λx=>x.1.isSome)&&decide ((e::es).length+([]:List YE).length+(if([]:List YE).isEmpty then 0 else 1)<30))=c7)
  (j:(apos.endLine==cpos.line)=c7)(O:Wn (e::es) X.env=(c6,eval e X.env)::Wn es X.env)(c:(XM cpos (Wn es X.env)).any (·.1)=c6) :
  PE X (.Call (.Attribute o name apos) (e::es) [] cpos) (λk H Q=>to k H λx p=>sE X.K x p/\t k p λq u=>r x q u Q):=by
 intro d s k H Q I h;refine a3v i l j rfl (aT (N d s k H _ I h) λv Z ⟨x,p,y,U,ty,R⟩=>?_);obtain⟨a,ps,rfl,G,L⟩:=ty;obtain rfl:v=Wg a:=U;obtain⟨lo,hl,q,ep,g,_⟩:=pR y G L;refine⟨"dict",id,ZV,m,w,g.ty,λb E=>?_,?_⟩
 ·cases E;obtain⟨z,J,g2,_⟩:=g;exact⟨z,J,g2.2.1⟩
 have A:=K cpos d Z k p _ y R;rw[O]at A ⊢;refine YH (by show(c6||(XM cpos (Wn es X.env)).any (·.1))=c6;rw[c]<;>rfl) (a0o ?_);exact aT A λus s2 ⟨q,u,B,Y,T⟩=>M d s2 k u (.ref a) q _ us Q B rfl Y T
theorem P0(j:a5a "dict" name id) (m:a1T (.builtin id)=pure (.type "method_descriptor")) (A:iT X id r)(B:PE X o to)(c:Yx o name X.env (eval o X.env)=eval o X.env)(d:(apos.endLine==cpos.line)=c7) :
  PE X (.Call (.Attribute o name apos) [] [] cpos) (λl H Q=>to l H λx k=>sE X.K x k/\r x [] k Q):=by
 intro i s l H Q I h;refine a0k c d (aT (B i s l H _ I h) λv J ⟨x,k,p,G,ty,E⟩=>?_);obtain⟨a,N,rfl,u,y⟩:=ty;obtain rfl:v=Wg a:=G;obtain⟨M,L,O,K,g,_⟩:=pR p u y;refine⟨"dict",id,ZV,j,m,g.ty,λb q=>?_,YH rfl (a0v ?_)⟩
 ·cases q;obtain⟨z,w,g2,_⟩:=g;exact⟨z,w,g2.2.1⟩
 exact A i J l k (.ref a) [] _ [] Q p rfl .nil E
theorem P1{K:VU}(A:hJ K f r):∀σ H Q,tM K (iK f mo ms) σ H Q->tM K mo σ H λx h=>sE K x h/\eT K ms σ h λvs i=>r x vs i Q:=by
 rintro σ H Q ⟨L,w,J,d,j,R,E,a,k⟩;obtain⟨⟨x,b⟩,y,a⟩:=VT.mp a;dsimp only at a;split at a
 ·rename_i B;obtain⟨⟨v,c⟩,z,a⟩:=VT.mp a;refine⟨L,w,J,x,b,R,E,y,λl I h q p u=>⟨EI p u B,l,w,b,v,c,p,E.mono q,z,λm vs i s R2 G=>?_⟩⟩;exact A m i c x v d j I vs Q R2 (u.mono s) G a (k.after (q.trans s))
 ·cases a
theorem P2{K:VU}(s:hJ K f r):∀σ H Q,tM K (iK f mo aD) σ H Q->tM K mo σ H λx c=>sE K x c/\r x [] c Q:=by
 rintro σ H Q ⟨z,A,w,d,h,R,E,a,k⟩;obtain⟨⟨x,b⟩,p,a⟩:=VT.mp a;dsimp only at a;split at a
 ·rename_i u;obtain⟨⟨B,y⟩,q,a⟩:=VT.mp a;cases q;refine⟨z,A,w,x,b,R,E,p,λi v c m j l=>⟨EI j l u,?_⟩⟩;exact s i c b x [] d h v [] Q j l .nil a (k.after m)
 ·cases a
theorem P4(c:a5a "dict" name id) (d:a1T (.builtin id)=pure (.type "method_descriptor")) (k:iT X id r)(i:hJ X.K f r)
  (m:QE X o mo)(h:QA X (e::es) ms n)(p:dE o=c7)(j:(apos.endLine==cpos.line)=c7)(l:(e::es).length<30):QE X (.Call (.Attribute o name apos) (e::es) [] cpos) (iK f mo ms):=by
 have b:=h.s;have a:=b;rw[WN,VW]at a;exact⟨cN (PZ c d k m.h h.h (iZ p) (DZ b l) j (c9 a.1) (eC a.2)) (P1 i)⟩
theorem P5(a:a5a "dict" name id) (b:a1T (.builtin id)=pure (.type "method_descriptor")) (h:iT X id r)(c:hJ X.K f r)
  (i:QE X o mo)(j:dE o=c7)(d:(apos.endLine==cpos.line)=c7):QE X (.Call (.Attribute o name apos) [] [] cpos) (iK f mo aD):=
 ⟨cN (P0 a b h i.h (iZ j) d) (P2 c)⟩
end
noncomputable def jC:D->List D->Hm->Option (D×Hm)
 |.loc a,[y,z],μ=>match μ[a]? with
  |some (.dT kvs)=>(fE y).map λk=>((cF kvs k).getD z,μ)|_=>c4
 |_,_,_=>c4
noncomputable def EJ(K:VU):V->List V->Hp->VK->Prop:=λx vs H Q=>∃a b ps k z,x=.ref a/\vs=[.ref b,z]/\H a=b4 (aZ a ps)/\fK K H ps/\SqT K H b (k.map V.int)/\Q ((eU ps k).getD z) H
theorem P6{K:VU}:hJ K jC (EJ K):=by
 intro w H B x A d u v z Q R n c a k;unfold jC at a;split at a
 ·split at a
  ·rename_i q hc;obtain⟨i,l,a⟩:=VZ.mp a;cases a;cases n;cases c with
   |cons o t=>
    cases t with
    |cons p t=>
     cases t;obtain⟨r,j,T⟩:=iJ R hc;obtain⟨b,rfl,m⟩:=pQ o l;refine⟨_,b,r,i,_,rfl,rfl,j,T.keys,m,k w _ H .refl R ?_⟩;rcases T.val i with⟨e,h⟩|⟨v,y,e,h,s⟩
     ·rw[e,h];exact p
     ·rw[e,h];exact s
  ·cases a
 ·cases a
theorem P7{X:Cx}(A:X.A.units+1<Yt):iT X "dict.get" (EJ X.K):=by
 intro n s O H x M v L Q I G E h;obtain⟨a,b,i,k,z,rfl,rfl,e,p,o,q⟩:=h;cases G;obtain⟨u,J,rfl,B,j⟩:=E.two;obtain rfl:u=Wg b:=B;obtain⟨w,K,m,r,d⟩:=k7 I (.of e) p;refine a1H a2k d.typeIs PySem.F.entry_dict_get (PySem.F.args_dict_get_3 _ _ _) (meetsH_dict_get_default (Yz (YO X.prog X.w)) a b w J) ⟨nQ A,k,_,pL I o,d,?_⟩;refine⟨(eU i k).getD z,H,I.tok _,?_,q⟩;have:=nP r k;cases l:eU i k with
 |none=>
  rw[l]at this;cases c:(Z3 (bU i m) k).map (·.2)with
  |none=>exact j|some y=>rw[c]at this;exact this.elim
 |some N=>
  rw[l]at this;cases c:(Z3 (bU i m) k).map (·.2)with
  |none=>rw[c]at this;exact this.elim|some y=>rw[c]at this;exact this
end L3
namespace L3
open PySem L2
section
variable{P:Wv}{w:WO}{K:Type} [DecidableEq K] {knd:HeapKind P w K}{A:WJ}{E:Value->V1->Prop}{s:V1}{d a:Addr}{k:K}{xs:List (K×Addr×Value)}
end
noncomputable def zT:D->List D->Hm->Option (D×Hm)
 |.loc a,[],μ=>match μ[a]? with
  |some (.dT _)=>b4 (.non,μ.set a (.dT []))|_=>c4
 |_,_,_=>c4
noncomputable def EK(K:VU):V->List V->Hp->VK->Prop:=λx vs H Q=>∃a ps,x=.ref a/\vs=[]/\H a=b4 (aZ a ps)/\fK K H ps/\Q .non (upd H a (aZ a []))
theorem P8{K:VU}:hJ K zT (EK K):=by
 intro o H r x q d n v p Q R j c a k;unfold zT at a;split at a
 ·split at a
  ·rename_i l hc;cases a;cases c;cases j with
   |loc b=>obtain⟨m,e,T⟩:=iJ R hc;obtain⟨i,h⟩:=R.put (c:=.dT []) (o:=aZ _ []) b e (.inr (.inr ⟨_,rfl⟩)) ⟨[],rfl,rfl,.nil,.nil⟩;exact⟨_,m,rfl,rfl,e,T.keys,k o _ _ i h .non⟩
  ·cases a
 ·cases a
theorem P9{P:Wv}{w:WO}(d:Addr):MeetsIn P w (Builtin.«dict.clear» ⟨[.ref d],[]⟩) (λ_ R s=>∃es b,RawD s.heap d es b/\es.size<=Wb /\
   ∀e,(∃z,e.get? d=b4 z/\z.ExactDict/\z.data=.dict #[] (b+1))->Yg d s.heap e->R (.ok (.ret .none)) {s with heap:=e}):=
 .of_wp λA R s ⟨es,b,g,i,h⟩=>by
  obtain⟨o,c,hc,a⟩:=id g;unfold Builtin.«dict.clear»;refine VX ?_;unfold a1K;refine VX (YB g.ty (V7 (VX (Xj c a (VX ?_)))));unfold bearsInstanceDictMark;refine VX (wpAny_load c (V7 (VX (wpAny_updateDictKeys (hz:=i) c a ?_))));have new:∃z,(s.heap.update d (a4o λ_=>#[])).get? d=b4 z/\z.ExactDict/\z.data=.dict #[] (b+1):=
   ⟨_,Yd _ c (a3o (a0x a _)),hc.mapDictKeys _,a0x a _⟩
  split
  ·exact VX (a4f (V7 ⟨.none,rfl,h _ new (YN ..)⟩))
  ·exact VX (V7 (V7 ⟨.none,rfl,h _ new (YN ..)⟩))
theorem Qa{X:Cx}:iT X "dict.clear" (EK X.K):=by
 intro j s J H x G v E Q I r p h;obtain⟨a,o,rfl,rfl,e,l,q⟩:=h;cases r;cases p;obtain⟨n,A,d,c,g,k⟩:=pR I e l;have B:d.size=o.length:=by have:=congrArg WY k;simpa using this
 refine a1H a1M g.ty PySem.F.entry_dict_clear (PySem.F.args_dict_clear_1 _) (P9 a) ⟨d,c,g,by omega,λy ⟨z,i,u,w⟩ b=>?_⟩;refine⟨.non,_,Ct (t':=s.toks) I (by rw[e];exact YC) b ⟨z,i⟩ (zL (ps:=[]) (ws:=[]) n (W7 _) .nil ⟨z,#[],c+1,i,u,w,rfl,⟨λx m=>absurd m (by simp[bU]),by simp[bU]⟩⟩),rfl,q⟩
end L3
namespace L3
open PySem L2
section
variable{P:Wv}{w:WO}{A:WJ}{E:Value->V1->Prop}{s:V1}
theorem Qb{nm:String}{d:Addr}{es:Array DictEntry}{p:Nat}{bs:List Addr}{Q:Array DictEntry->V1->Prop}(g:RawD s.heap d es p)(n:es.toList.map (·.key)=bs.map Wg)(G:∀b∈bs,s.TypeIs (.ref b) "tuple")
  (nd:(es.toList.map (·.hash)).Nodup)(q:Q es s):Wm (WC P w) A (a0A nm d) Q E s:=by
 obtain⟨z,r,g2,u⟩:=id g;unfold a0A;refine VX (Xj r u (VX ?_));rw[<- Array.forIn_toList];refine a4W _ (λbT _ c=>c=s/\∀e∈bT,e∈es.toList) _ (λe bT b c ⟨h,j⟩=>?_) (λb c ⟨h,_⟩=>?_) _ _ ⟨rfl,λe i=>i⟩
 ·subst h;have i:=j e (WU ..);have y:e.key∈bs.map Wg:=by rw[<- n];exact Wt.mpr ⟨e,i,rfl⟩
  obtain⟨a,v,o⟩:=Wt.mp y;have quiet:∀{Q:Bool->V1->Prop},Q c6 c->Wm (WC P w) A (a1D e.key) Q E c:=λ{Q} q=>by rw[<- o];unfold a1D;exact VX (Zg (G a v) PySem.F.slot_tuple_eq.lookup (V7 q))
  refine VX (quiet ?_);have one:((es.filter (·.hash==e.hash)).size>1)=False:=by
   refine eq_false λz=>?_;have H:1<(es.toList.filter λx=>x.hash==e.hash).length:=by have l:(es.filter (·.hash==e.hash)).toList=es.toList.filter λx=>x.hash==e.hash:=Array.toList_filter ..;have m:=congrArg WY l;simp only[Y2]at m;omega
   have k:(es.toList.filter λx=>x.hash==e.hash).length=(es.toList.map (·.hash)).count e.hash:=by rw[List.count,List.countP_map,<- List.countP_eq_length_filter];rfl
   have:=List.nodup_iff_count.mp nd e.hash;omega
  simp only[X5,if_true,one,if_false];exact V7 ⟨rfl,λx B=>j x (Wq _ B)⟩
 ·subst h;exact V7 q
end
theorem EL:∀(ps:cC)(ws:List Value),ps.length=ws.length->(ZJ rC ps ws).map (·.hash)=ps.map λp=>Tb.hashT p.1
 |[],_,_=>by simp
 |p::ps,[],h=>by cases h
 |p::ps,u::ws,h=>by rw[WT,We,We,EL ps ws (by simpa using h)];rfl
theorem Qd{es:Array DictEntry}{bs:List Addr}(c:bs≠[])(a:es.toList.map (·.key)=bs.map Wg):(es.all λe=>(keyPart e.key).isSome)=false:=by
 rw[<- Array.all_toList];generalize es.toList=l at a;cases bs with
 |nil=>exact absurd rfl c|cons b bs=>
  cases l with
  |nil=>cases a|cons e l=>rw[We,We,ZZ]at a;rw[WN,a.1];rfl
theorem Qe{es:Array DictEntry}{bs:List Addr}(a:bs≠[])(c:es.toList.map (·.key)=bs.map Wg):es.isEmpty=false:=by have b:=congrArg WY c;simp only[V0,Y2]at b;have:bs.length≠0:=λz=>a (Z8.mp z);rw[Array.isEmpty];exact decide_eq_false (by omega)
noncomputable def EM(K:VU):List V->Hp->VK->Prop:=λxs H Q=>∃a ps,xs=[V.ref a]/\H a=b4 (aZ a ps)/\fK K H ps/\(ps.map λp=>Tb.hashT p.1).Nodup/\∀l,H l=c4->Q (.ref l) (upd H l (aZ l ps))
section
variable{X:Cx}
theorem EO:CallR X (.type "dict") (EM X.K):=by
 intro a5T s σ H xs us Q I r h;obtain⟨a,d,rfl,ha,hk,nd,q⟩:=h;obtain⟨u,rfl,ru⟩:=lQ r;cases ru;have hn:H s.heap.objs.size=none:=I.hok.fresh (Wa _);obtain⟨⟨m,R,lo,w,o,c,x,i,v,B,K,Z⟩,_⟩:=(show ObjOk X.prog X.w H s.heap a (aZ a d)from I.hok a _ ha);obtain⟨_,_,es',ep',g,E⟩:=pR I ha hk;obtain⟨z,T,g2,U⟩:=id g;rw[i]at T;cases T;rw[B]at U;cases U;have O:c.size=d.length:=by have:=congrArg WY E;simpa using this
 have hnd:(c.toList.map (·.hash)).Nodup:=by
  have:c.toList.map (·.hash)=d.map λp=>Tb.hashT p.1:=by rw[K];exact EL d m (by rw[<- R.length,V0])
  rw[this];exact nd
 refine a5R (Q₁:=λy j=>y=.ref s.heap.objs.size/\j={s with heap:=s.heap.push {cls:=.type "dict",data:=.dict #[]}}) F.kt_called_dict (F.kt_typeCall_dict_1 _) F.entry_dict_init (kt_code_dict_new _ ⟨rfl,rfl⟩) ?_;rintro y j ⟨rfl,rfl⟩;have n:({s with heap:=s.heap.push {cls:=.type "dict",data:=.dict #[]}}:V1).heap.get? s.heap.objs.size=b4 {cls:=.type "dict",data:=.dict #[]}:=Ws _ rfl;have ty:({s with heap:=s.heap.push {cls:=.type "dict",data:=.dict #[]}}:V1).TypeIs (.ref s.heap.objs.size) "dict":=⟨_,n,rfl⟩;have ga:RawD (s.heap.push {cls:=.type "dict",data:=.dict #[]}) a c x:=g.stay λo e=>V8 _ e;refine⟨ty,F.args_dict_init_2 _ _,?_⟩;unfold Builtin.«dict.__init__»;refine VX ?_;unfold a5E;refine VX (YB ty (V7 ?_));show Wm _ _ (a1i "dict.__init__" s.heap.objs.size (.ref a) [] .none) _ _ _;unfold a1i;refine VX (wpAny_typeOf (T:="dict") ⟨_,V8 _ i,v.1⟩ ?_);rw[if_neg (by decide)];refine VX ?_;unfold a5I a5F;have A:({s with heap:=s.heap.push {cls:=.type "dict",data:=.dict #[]}}:V1).TypeIs (.ref a) "dict":=⟨_,V8 _ i,v.1⟩;refine VX (VX (Y5 A isSubtype_dict_dict ?_));simp only[W9,V6,if_false];refine VX (Zg A F.slot_dict_iter.lookup (V7 ?_));simp only[beq_self_eq_true,if_true];refine VX (V7 ?_);unfold a5H;have L:(s.heap.objs.size==a)=false:=beq_eq_false_iff_ne.mpr (WL (WB (Wi i)));rw[if_neg (by rw[L];exact Wu)];unfold Yn;rw[if_neg (by rw[lo];exact Wu)];have k:=V8 {cls:=.type "dict",data:=.dict #[]} i;refine VX (V7 (VX (Xj k B ?_)));have big:(s.heap.objs.size==Xs)=false:=beq_eq_false_iff_ne.mpr (WL (WB I.big));by_cases l:d=[]
 ·have z:c=#[]:=Array.eq_empty_of_size_eq_zero (by rw[O,l];rfl);subst z;have fe:(decide ((#[]:Array DictEntry).size<=8)&&(#[]:Array DictEntry).all λe=>(keyPart e.key).isSome)=true:=by simp
  simp only[fe,W9,V6,if_false];refine VX (YT k B ?_);refine VX (Xj k B ?_);have fr:∀g:Nat->PUnit->a3x (ForInStep PUnit),(forIn [:(#[]:Array DictEntry).size] a5e g:a3x PUnit)=pure a5e:=λg=>by simp
  rw[fr];refine VX (V7 (V7 ?_));refine VX (V7 (V7 ?_));refine⟨rfl,.ref s.heap.objs.size,_,I.laid (t':=s.toks) (a:=s.heap.objs.size) (o:=aZ s.heap.objs.size d) (λb u e=>V8 _ e) (Wa _) ⟨⟨m,R,big,w,_,#[],0,n,⟨rfl,rfl,rfl⟩,rfl,K,Z⟩,⟨_,n⟩,?_⟩,rfl,q _ hn⟩;rintro k1 k2 ⟨m,r,N,w,o,c,x,i,v⟩ M;exact⟨m,r,N,w,o,c,x,M o i,v⟩
 have J:=Qd (bs:=d.map (·.2.1)) (λz=>l (a3c.mp z)) (by rw[E,WI];rfl);simp only[J,a4u,X5,if_true];refine VX (Xj n rfl ?_);simp only[Array.isEmpty_empty,if_true];have hes:c.size<=Wb:=by omega
 have G:=Qe (bs:=d.map (·.2.1)) (λz=>l (a3c.mp z)) (by rw[E,WI];rfl);refine VX (Qb (bs:=d.map (·.2.1)) ga (by rw[E,WI];rfl) (λb hb=>?_) hnd ?_)
 ·obtain⟨p,hp,rfl⟩:=Wt.mp hb;obtain⟨its,rx,⟨ot,e1,e2,_⟩,_⟩:=I.tuple (hk p hp);exact⟨ot,V8 _ e1,e2⟩
 simp only[G,X5,if_true];refine VX (wpAny_updateDictKeysTo n rfl (V7 ?_) (by omega));have Y:=Yd (a4o λ_=>c) n (a3o (a0x (o:={cls:=.type "dict",data:=.dict #[]}) rfl _));refine VX (V7 (V7 ?_));refine⟨rfl,.ref s.heap.objs.size,_,I.laid (t':=s.toks) (a:=s.heap.objs.size) (o:=aZ s.heap.objs.size d) (λb u e=>?_) (Wa _) ⟨⟨m,R,big,w,_,c,1,Y,?_,rfl,K,Z⟩,⟨_,Y⟩,?_⟩,rfl,q _ hn⟩
 ·rw[XR _ _ (WL (WB (Wi e)))];exact V8 _ e
 ·exact a5f ⟨rfl,rfl,rfl⟩ _
 ·rintro k1 k2 ⟨m,r,N,w,o,c,x,i,v⟩ M;exact⟨m,r,N,w,o,c,x,M o i,v⟩
end
end L3
namespace L3
open PySem L2
noncomputable abbrev sF:=List (List Int×Addr×Value)
inductive Hits (A:WJ)(s:V1)(ys:sF):sF->Bool->Prop
 |nil:Hits A s ys [] c7
 |miss {x:List Int×Addr×Value}{r:sF}:Z3 ys x.1=c4->Hits A s ys (x::r) c6
 |hit {x:List Int×Addr×Value}{p:Addr×Value}{r:sF}{e b:Bool}:Z3 ys x.1=b4 p->a2Z A s x.2.2 p.2 e->Hits A s ys r b->Hits A s ys (x::r) (e&&b)
section
variable{P:Wv}{w:WO}{A:WJ}{E:Value->V1->Prop}{s:V1}{a b:Addr}{xs ys:sF}{r:Bool}
theorem ER{nm:String}{Q:Bool->V1->Prop}(hu:(Yz (YO P w)).room A)(la:(a==Xs)=c6)(lb:(b==Xs)=c6)(Z:s.heap.DictOfH (Yz (YO P w)) a xs)(db:s.heap.DictOfH (Yz (YO P w)) b ys)
  (n:xs.length=ys.length->Hits A s ys xs r)(q:Q (xs.length==ys.length&&r) s):Wm (WC P w) A (a1q nm a b) Q E s:=by
 obtain⟨oa,d,ep,u,_,v,R,K,na⟩:=Z;obtain⟨ob,fs,fp,G,_,O,B,L,X⟩:=db;have Y:=a5o R;have sb:=a5o B;unfold a1q Yn;rw[if_neg (by rw[la];exact Wu),if_neg (by rw[lb];exact Wu)];refine VX (V7 (VX (V7 (VX (Xj u v ?_)))));dsimp only;refine VX (Xj G O ?_);by_cases m:d.size=fs.size
 ·have U:xs.length=ys.length:=by omega
  have M:Q r s:=by simpa[U]using q
  have hh:=n U;rw[if_neg (by rw[m];simp)];refine VX (YT u v (VX ?_));rw[a4n];simp only[a4m,Nat.sub_zero,Nat.add_sub_cancel,Nat.div_one];refine a4W _ (λbT c N=>N=s/\c=(c4,())/\∃i,bT=ZY i (d.size-i)/\i<=d.size/\Hits A s ys (xs.drop i) r) _ ?_ ?_ _ _ ⟨rfl,rfl,0,by simp,W7 _,hh⟩
  ·rintro x bT c N ⟨rfl,rfl,i,l,hi,k⟩;have I:i<d.size:=Nat.lt_of_not_le λz=>by rw[Nat.sub_eq_zero_of_le z]at l;cases l
   have e0:d.size-i=(d.size-(i+1))+1:=by omega
   rw[e0,Z6]at l;injection l with hx hrest;subst hx;have h:x<xs.length:=by omega
   rw[a2g h]at k;have ex:xs[x]?=b4 xs[x]:=WM h;refine VX (Xj u v ?_);rw[entry_at R x,ex,WE];dsimp only;have hk:=K xs[x] (a1n h);refine VX (Yi (VX (wpAny_dictFind_heap (k:=xs[x].1) (a:=xs[x].2.1) hu hk G O B L X (λJ=>?_) λj p T=>?_)))
   ·have o:=atKey_none_of_get J;have er:r=false:=by
     cases k with
     |miss _=>rfl|hit e _ _=>rw[o]at e;cases e
    subst er;refine V7 ?_;simp only[X5,if_true];exact V7 (V7 M)
   ·have o:=atKey_of_get X T;refine VX (Xj G O ?_);rw[entry_at B j,T,WE];dsimp only;generalize hxs:xs[x]=y at k o;cases k with
    |miss e=>rw[o]at e;cases e|@hit _ p' _ e' b' e h2 h3=>
     rw[o]at e;cases e;refine Yi (h2 P w _ _ ?_);cases e' with
     |false=>simp only[X5,if_true];exact V7 (V7 M)|true=>simp only[W9,V6,if_false];refine VX (YT u v ?_);rw[if_neg (by simp)];refine V7 ⟨rfl,rfl,x+1,hrest,I,?_⟩;simpa using h3
  ·rintro c N ⟨rfl,rfl,i,l,hi,k⟩;have H:i=d.size:=by
    rcases a2P i d.size with z|z
    ·rw[show d.size-i=(d.size-(i+1))+1 by omega,Z6]at l;cases l
    ·omega
   refine V7 ?_;rw[H,Y,List.drop_length]at k;cases k;exact M
 ·rw[if_pos (by simpa using m)];have:(xs.length==ys.length)=false:=by rw[<- Y,<- sb];simpa using m
  rw[this,a4t]at q;exact VX (wpAny_rule (V7 q))
theorem Qf{Q:Value->V1->Prop}(h:(Yz (YO P w)).room A.in1)(i:A.units<Yt)(j:(a==Xs)=c6)(k:(b==Xs)=c6)(d:s.heap.DictOfH (Yz (YO P w)) a xs)(e:s.heap.DictOfH (Yz (YO P w)) b ys)
  (c:xs.length=ys.length->Hits A.in1 s ys xs r)(q:Q (.bool (xs.length==ys.length&&r)) s):Wm (WC P w) A (Xd .Eq (.ref a) (.ref b)) Q E s:=by
 refine a2u (op:=.Eq) d.typeIs e.typeIs a2q (Y6 a2q d.typeIs PySem.F.entry_dict_eq ?_ (PySem.F.args_dict_eq_2 _ _)) i;show Wm _ _ (YM "__eq__" ⟨[.ref a,.ref b],[]⟩ >>= _) _ _ s;refine VX ?_;unfold YM;refine VX (YB d.typeIs (V7 (VX (Y5 (T:="dict") e.typeIs a2j ?_))));simp only[W9,V6,if_false];exact VX (V7 (VX (V7 (VX (ER h j k d e c (V7 ⟨_,rfl,(λx=>nomatch x),by simpa using q⟩))))))
theorem Qg{Q:Value->V1->Prop}(h:(Yz (YO P w)).room A.in1)(i:A.units<Yt)(j:(a==Xs)=c6)(k:(b==Xs)=c6)(d:s.heap.DictOfH (Yz (YO P w)) a xs)(e:s.heap.DictOfH (Yz (YO P w)) b ys)
  (c:xs.length=ys.length->Hits A.in1 s ys xs r)(q:Q (.bool (!(xs.length==ys.length&&r))) s):Wm (WC P w) A (Xd .NotEq (.ref a) (.ref b)) Q E s:=by
 refine a2u (op:=.NotEq) d.typeIs e.typeIs a2p (Y6 a2p d.typeIs PySem.F.entry_dict_ne ?_ (PySem.F.args_dict_ne_2 _ _)) i;show Wm _ _ (YM "__ne__" ⟨[.ref a,.ref b],[]⟩ >>= _) _ _ s;refine VX ?_;unfold YM;refine VX (YB d.typeIs (V7 (VX (Y5 (T:="dict") e.typeIs a2j ?_))));simp only[W9,V6,if_false];exact VX (V7 (VX (V7 (VX (ER h j k d e c (V7 ⟨_,rfl,(λx=>nomatch x),by simpa using q⟩))))))
end
noncomputable def iL(c:Hm)(a:List (List Int×D)):List (List Int×D)->Option Bool
 |[]=>b4 c7|(k,d)::r=>match cF a k with
  |none=>b4 c6|some y=>(cR 8 c d y).bind λe=>(iL c a r).map λb=>e&&b
noncomputable def iB(ne:Bool):D->D->Hm->Option (D×Hm)
 |.loc a,.loc b,μ=>match μ[a]?,μ[b]? with
  |some (.dT kvs),b4 (.dT kws)=>if kvs.length=kws.length then(iL μ kws kvs).map λe=>(.bl (if ne then !e else e),μ)else b4 (.bl ne,μ)|_,_=>c4
 |_,_,_=>c4
noncomputable def ES(K:VU)(ne:Bool):R2:=λx y H Q=>∃π h a b ps qs c d e,Rp K π H h/\x=.ref (π a)/\y=.ref (π b)/\H (π a)=b4 (aZ (π a) ps)/\H (π b)=b4 (aZ (π b) qs)/\IsTs K π h.length H ps c/\IsTs K π h.length H qs d /\
 (c.length=d.length->iL h d c=b4 e)/\Q (.bl (if ne then !(c.length==d.length&&e)else(c.length==d.length&&e))) H
theorem vH{K:VU}{ne:Bool}:cZ K (iB ne) (ES K ne):=by
 intro i H q x y d w A B Q R u v a k;unfold iB at a;split at a
 ·split at a
  ·rename_i b c hc j;cases u;cases v;obtain⟨o,m,T⟩:=iJ R hc;obtain⟨p,n,l⟩:=iJ R j;split at a
   ·rename_i h;obtain⟨e,s,a⟩:=VZ.mp a;cases a;refine⟨i,q,_,_,o,p,b,c,e,R,rfl,rfl,m,n,T,l,λ_=>s,?_⟩;rw[h,beq_self_eq_true,Bool.true_and];exact k i _ H .refl R (.bl _)
   ·rename_i h;cases a;refine⟨i,q,_,_,o,p,b,c,c7,R,rfl,rfl,m,n,T,l,λz=>absurd z h,?_⟩;have:(b.length==c.length)=false:=by simpa using h
    rw[this];have r:(if ne=c7 then !(c6&&c7)else(c6&&c7))=ne:=by cases ne<;>rfl
    rw[r];exact k i _ H .refl R (.bl _)
  ·cases a
 ·cases a
theorem ET{X:Cx}{a5T:List (Addr×Obj)}{σ:St}{H:Hp}{s:V1}{π:Nat->Addr}{r:Hm}{A:WJ}(I:Inv X a5T σ H s)(R:Rp X.K π H r)(B:A.units+8<Yt){qs:cC}{l:List (List Int×D)}{c:List Value}(w:IsTs X.K π r.length H qs l)(E:Vals (qs.map (·.2.2)) c) :
  ∀{ps:cC}{j:List (List Int×D)}{ws:List Value}{e:Bool},IsTs X.K π r.length H ps j->Vals (ps.map (·.2.2)) ws->iL r l j=b4 e->Hits A s (bU qs c) (bU ps ws) e
 |_,_,_,_,.nil,.nil,h=>by cases h;exact .nil
 |_,_,_,_,.cons (a:=p) (b:=q) h t,.cons (b:=u) ru tu,i=>by
  obtain⟨k,d⟩:=q;have z:p.1=k:=h.1;have a:=nP E p.1;unfold bU;rw[WT];simp only[iL]at i;split at i
  ·rename_i o;cases i;refine .miss ?_;rcases w.val p.1 with⟨m,b⟩|⟨v,J,m,b,G⟩
   ·rw[m]at a;cases n:Z3 (bU qs c) p.1 with
    |none=>exact n|some y=>rw[n]at a;exact a.elim
   ·rw[z]at b;rw[o]at b;cases b
  ·rename_i y o;obtain⟨M,K,i⟩:=VT.mp i;obtain⟨L,n,i⟩:=VZ.mp i;subst i;rcases w.val p.1 with⟨m,b⟩|⟨v,J,m,b,G⟩
   ·rw[z]at b;rw[o]at b;cases b
   ·rw[z]at b;rw[o]at b;cases b;rw[m]at a;cases x:Z3 (bU qs c) p.1 with
    |none=>rw[x]at a;exact a.elim|some N=>rw[x]at a;exact .hit (x:=(p.1,p.2.1,u)) x (yL I R 8 B ru a h.2.2 G K) (ET I R B w E t tu n)
section
variable{X:Cx}{a b:Expr}{ma mb:ME}{pos:XD}{k:Nat}
theorem vJ(ne:Bool)(hu:X.A.units+16<Yt):OpR X (Xd (if ne then .NotEq else .Eq)) (ES X.K ne):=by
 intro U s σ H x y v u Q I rx ry h;obtain⟨O,μ,i,j,o,p,m,n,e,R,rfl,rfl,Y,Z,T,l,hh,q⟩:=h;obtain rfl:v=Wg (O i):=rx;obtain rfl:u=Wg (O j):=ry;obtain⟨J,hl,w,r,E⟩:=k7 I (.of Y) T.keys;obtain⟨K,hl',d,N,G⟩:=k7 I (.of Z) l.keys;have L:(bU o w).length=m.length:=by have A:=congrArg WY (pP r);have B:=congrArg WY T.to.1;simp only[V0]at A B;omega
 have M:(bU p d).length=n.length:=by have A:=congrArg WY (pP N);have B:=congrArg WY l.to.1;simp only[V0]at A B;omega
 have c:(bU o w).length=(bU p d).length->Hits X.A.in1 s (bU p d) (bU o w) e:=λz=>ET I R (by rw[nG];omega) l N T r (hh (by omega));cases ne with
 |false=>exact Qf (nQ (by omega)) (by omega) J K E G c ⟨.bl _,H,I,rfl,by rw[L,M];exact q⟩|true=>exact Qg (nQ (by omega)) (by omega) J K E G c ⟨.bl _,H,I,rfl,by rw[L,M];exact q⟩
theorem Qh(e:Room k X.A)(c:QE X a ma)(d:QE X b mb):QE X (.Compare a [.Eq] [b] pos) (aC (iB c6) ma mb):=⟨fB (vJ c6 (by have:=e.un;omega)) vH c.h d.h (dH _)⟩
theorem Qi(e:Room k X.A)(c:QE X a ma)(d:QE X b mb):QE X (.Compare a [.NotEq] [b] pos) (aC (iB c7) ma mb):=⟨fB (vJ c7 (by have:=e.un;omega)) vH c.h d.h (dH _)⟩
theorem Qj(e:Room k X.A)(c:QE X a ma)(d:QE X b mb):QT X (.Compare a [.Eq] [b] pos) (aN (aC (iB c6) ma mb)):=⟨fC (vJ c6 (by have:=e.un;omega)) vH c.h d.h (dH _)⟩
theorem Qk(e:Room k X.A)(c:QE X a ma)(d:QE X b mb):QT X (.Compare a [.NotEq] [b] pos) (aN (aC (iB c7) ma mb)):=⟨fC (vJ c7 (by have:=e.un;omega)) vH c.h d.h (dH _)⟩
end
end L3
namespace L3
open PySem L2
section
variable{P:Wv}{w:WO}{A:WJ}{E:Value->V1->Prop}{s:V1}{d it:Addr}{i ep:Nat}{es:Array DictEntry}{ok ov:Value}
theorem Ql{v:Addr}{Q:Value->V1->Prop}(a:s.heap.IsItemsView v d)(g:RawD s.heap d es ep)
  (q:Q (.ref s.heap.objs.size) {s with heap:=s.heap.push {cls:=.type "dict_itemiterator",data:=.fields #[.none,.bool c6,.ref d,.int 0 0,.int es.size 0,.int ep 0,.none,.none]}}):Wm (WC P w) A (a1X (.ref v)) Q E s:=by
 obtain⟨k,e,j,h⟩:=id a;obtain⟨z,b,g2,c⟩:=id g;refine a4I a.typeIs F.slot_dict_items_iter (Y6 F.slot_dict_items_iter a.typeIs F.entry_dict_items_iter ?_ (F.args_dict_items_iter_1 _));unfold Builtin.«dict_items.__iter__»;refine VX (V7 (VX ?_));unfold a4d;refine VX (ZK e h (x:=.ref d) rfl (V7 (VX ?_)));unfold a4c;refine VX (Xj b c (VX (YT b c ?_)));simp only[show Y4 "dict_itemiterator"=c7 by decide,if_true];refine X9 (V7 ⟨_,rfl,"dict_itemiterator",_,⟨_,Ws _ rfl,rfl⟩,F.slot_dict_itemiterator_next.lookup,?_⟩) (by simp only[sizeOk,ZU,WA,V5,Ww,List.length_nil,W6];omega);simpa[Zl,ZU]using q
theorem EU{Q:Option Value->V1->Prop}(hh:A.handled=c4)(j:a1w s.heap it d i es.size ep ok ov)(g:RawD s.heap d es ep)
  (Y:∀e k,es[i]?=b4 e->IsItemIterOut k it d (i+1) es.size ep e.key e.val s.heap.objs.size->k.get? s.heap.objs.size=b4 {cls:=.type "tuple",data:=.seq #[e.key,e.val]}->
   (∀b o,b≠it->s.heap.get? b=b4 o->k.get? b=b4 o)->Q (b4 (.ref s.heap.objs.size)) {s with heap:=k})
  (Z:es[i]?=c4->∀k,a1x it s.heap k->Q c4 {s with heap:=k}):Wm (WC P w) A (a1W (.ref it)) Q E s:=by
 obtain⟨n,u,r,K,B⟩:=s;dsimp only at j g Y Z;obtain⟨z,L,g2,M⟩:=id g;have ty:∀{h:Xo}{i:Nat}{ok ov:Value},a1w h it d i es.size ep ok ov->Shared.TypeIs ⟨h,u,r,K,B⟩ (.ref it) "dict_itemiterator":=λj=>⟨_,j,rfl⟩;unfold a1W;refine VX (wpAny_attempt (a3j (name:=XS "__next__") (ty j) F.slot_dict_itemiterator_next (Y6 F.slot_dict_itemiterator_next (ty j) F.entry_dict_itemiterator_next ?_ (F.args_dict_itemiterator_next_1 _))));refine VX (V7 (VX (VX (VX (ZE (ty j) (V7 (VX (a5L j rfl ?_))))))));simp only[show Y4 "dict_itemiterator"=c7 by decide,if_true];show Wm _ _ (if(Wg d==Xg)=c7 then _ else _) _ _ _;rw[if_neg (show ¬ (Wg d==Xg)=c7 from λx=>Wu x)];refine VX (V7 (VX (Xj L M ?_)));rw[if_neg (λx=>by simp at x)];refine VX (V7 (VX (YT L M ?_)));rw[if_neg (λx=>by simp at x)];refine V7 ?_;simp only[if_neg (show ¬ ((i:Int)<0) by omega),Z0];cases T:es[i]? with
 |some e=>
  refine VX (VX (ZE (ty j) (V7 (VX (a0u (ty j) ?_)))));show Wm _ _ (a2G (.ref it) 3 (Zl ((i:Int)+1)) >>= _) _ _ _;refine VX (Zk j (by simp) λa l q=>?_);replace q:Yg it n a:=q;replace l:a1w a it d (i+1) es.size ep ok ov:=l;refine VX (Yi (VX (a0u (ty l) (VX (a0u (ty l) ?_)))));show Wm _ _ (Z1 (.ref it) 6 e.key e.val) _ _ ⟨a,u,r,K,B⟩;unfold Z1;refine VX (wpAny_newTuple ?_);have p:a.objs.size=n.objs.size:=q.1;have y:it<n.objs.size:=Wi j;have m:a1w (a.push {cls:=.type "tuple",data:=.seq #[e.key,e.val]}) it d (i+1) es.size ep ok ov:=V8 _ l;have t2:(a.push {cls:=.type "tuple",data:=.seq #[e.key,e.val]}).get? n.objs.size=b4 {cls:=.type "tuple",data:=.seq #[e.key,e.val]}:=by rw[<- p];exact Ws _ rfl
  have U:∀b o,b≠it->n.get? b=b4 o->(a.push {cls:=.type "tuple",data:=.seq #[e.key,e.val]}).get? b=b4 o:=λb o c x=>V8 _ (q.extBut b o c x);show Wm _ _ (ZT (.ref it) >>= _) _ _ ⟨a.push {cls:=.type "tuple",data:=.seq #[e.key,e.val]},u,r,K,B⟩;rw[p];generalize a.push {cls:=.type "tuple",data:=.seq #[e.key,e.val]}=h2 at m t2 U;refine VX ?_;unfold ZT;refine VX (ZK m rfl (x:=.none) rfl (V7 ?_));simp only[if_true];refine VX (ZK m rfl (x:=ok) rfl (VX (ZK m rfl (x:=ov) rfl (VX (Zk m (by simp) λN e3 G=>?_)))));replace G:Yg it h2 N:=G;refine VX (Zk e3 (by simp) λO e4 H=>?_);replace H:Yg it N O:=H;refine VX (Zk e4 (by simp) λR e5 I=>?_);replace I:Yg it O R:=I;refine VX (Zk e5 (by simp) λv e6 J=>?_);replace J:Yg it R v:=J;have X:∀b o,b≠it->h2.get? b=b4 o->v.get? b=b4 o:=λb o c x=>J.extBut b o c (I.extBut b o c (H.extBut b o c (G.extBut b o c x)));exact VX (a4f (V7 (V7 ⟨_,rfl,V7 (Y e v T e6 (X _ _ (ZL y) t2) λb o c x=>X b o c (U b o c x))⟩)))
 |none=>refine VX (VX (ZE (ty j) (V7 ?_)));show Wm _ _ (a2G (.ref it) 2 .none >>= _) _ _ _;refine VX (Zy j rfl (by simp) ?_);show Wm _ _ (a5O (.type "StopIteration") [] >>= _) _ _ _;simp only[a5O,newTuple];refine VX (VX (X9 ?_ (by size_fits)));refine VX (m:=a0N _ _) (wpAny_of_eq (a:=Xg) (by first|rfl|(simp only[a0N];rfl)) (X9 ?_ (by size_fits)));simp only[raiseNew];refine VX (wpAny_handled ?_);rw[show A.in1.handled=c4 from hh];refine VX (V7 (wpAny_throw ?thrown));case thrown=>exact VX (Y5 (T:="StopIteration") (b:=c7) ⟨_,Ws _ rfl,rfl⟩ a5Q (V7 (Z T _ (((YN ..).extBut.push _).push _))))
end
noncomputable def zU(d:Addr)(ob:Obj)(ps:cC):It:=⟨λi H=>H d=b4 (.frz ob (aZ d ps))/\i<ps.length,λi H x H'=>∃t p,x=.ref t/\H t=c4/\ps[i]?=b4 p/\H'=upd H t (.tup [.ref p.2.1,p.2.2]),λi H=>H d=b4 (.frz ob (aZ d ps))/\ps.length<=i⟩
theorem Qm{P:Wv}{w:WO}{K:VU}{el:List Expr}{kx:Nat}{pt:XD}{d j:Addr}{ob:Obj}{ps:cC}{es:Array DictEntry}{ep:Nat}(hd:ob.data=.dict es ep):Turn Qc P w K (.Tuple el kx pt) (zU d ob ps) [j] j (λi h=>∃ok ov,a1w h j d i es.size ep ok ov) where
 mem:=by simp
 obj:=λi h ⟨ok,ov,st⟩ b n=>by
  have e:b=j:=by simpa using n
  subst e;exact⟨_,st,λv z=>by
   have z':WK _=a4b v:=z;cases z'⟩
 keep:=λi h N ⟨ok,ov,st⟩ k=>⟨ok,ov,k j (by simp) _ st⟩;item:=by
  intro X R hw O hc i J s σ H E I B ⟨ok,ov,st⟩ U;subst R hw O;obtain⟨m,r⟩:=U;obtain⟨lo,hl,M,L,g,a,G⟩:=nR I m;rw[hd]at a;cases a;obtain⟨_,_,es2,ep2,_,q,he⟩:=PU I m;rw[hd]at q;cases q;have hs:es.size=ps.length:=by have:=congrArg WY G;simpa using this
  refine EU (I.ok.hd hc) st g (λe N l a1 a2 a3=>⟨_,rfl,wpAny_letOwnedTupleGo_items a1 λh2 b1 y=>?_⟩) λhn=>by simp at hn;omega
  have Y:ps[i]?=b4 ps[i]:=WM r;have ek:e.key=.ref (ps[i]).2.1:=by have:=congrArg (·[i]?) G;simp only[WD,Yc,l,Y,WE]at this;exact Wj this
  obtain⟨u,u1,u2⟩:=he.get (i:=i) (x:=ps[i].2.2) (by rw[WD,Y];rfl);rw[WD,Yc,l]at u1;cases u1;have x:j<s.heap.objs.size:=Wi st;have Z:h2.get? s.heap.objs.size=b4 {cls:=.type "tuple",data:=.seq #[e.key,e.val]}:=(y.2 _ (ZL x)).trans a2;have T:H s.heap.objs.size=none:=I.hok.fresh (Wa _);refine⟨.ref s.heap.objs.size,upd H s.heap.objs.size (.tup [.ref (ps[i]).2.1,(ps[i]).2.2]),?_,rfl,⟨_,ps[i],rfl,T,Y,rfl⟩,⟨_,_,b1⟩,λc n=>?_⟩
  ·refine OV (s:=s) (h':=h2) (t':=s.toks) (ch:=[j]) I (λc oc n ec=>?_) B (Wa _) ?_
   ·have p:c≠j:=by simpa using n
    exact(y.2 c p).trans (a3 c oc p ec)
   ·exact⟨by show(2:Nat)<=Wb;decide,[e.key,e.val],.cons ek (.cons u2 .nil),_,Z,rfl,0,rfl,rfl⟩
  ·rw[bG]
   ·exact(B c n).1
   ·have e:c=j:=by simpa using n
    rw[e];exact WB x
 done:=by
  intro X R hw O hc i J s σ H E I B ⟨ok,ov,st⟩ U;subst R hw O;obtain⟨m,r⟩:=U;obtain⟨lo,hl,M,L,g,a,G⟩:=nR I m;rw[hd]at a;cases a;have hs:es.size=ps.length:=by have:=congrArg WY G;simpa using this
  obtain⟨f0,f1,f2,f3,f4,f5⟩:=B j (by simp);exact EU (I.ok.hd hc) st g (λe N l=>by
   have:=(XN.mp l).1;omega) λ_ N eb=>⟨rfl,I.turned (t':=s.toks) (λb o n e=>eb b o n e) f0 f1 f3 f4 f5⟩
 self:=λA i s Q E ⟨ok,ov,st⟩ h=>PySem.W.kcp_self st h
theorem Qn{X:Cx}{l:Expr}{B:List Expr}{J:Nat}{pt:XD}{K:TE}{a c:XD}(G:PE X l K)(j:Yx l "items" X.env (eval l X.env)=eval l X.env) (k:(a.endLine==c.line)=c7) :
  PI X (.Tuple B J pt) (.Call (.Attribute l "items" a) [] [] c) (λp H R=>K p H λv m=>∃d w x,v=.ref d/\m d=b4 (.frz w (aZ d x))/\R (zU d w x) m):=by
 intro i s p H R I h;refine a0k j k (aT (G i s p H _ I h) λv n ⟨y,m,A,r1,q1⟩=>?_);obtain⟨d,w,x,e,E,q⟩:=q1;subst e;obtain rfl:v=Wg d:=r1;obtain⟨lo,G,O,M,g,hd,he⟩:=nR A E;refine⟨"dict","dict.items",ZV,a1L,PySem.F.type_dict_items,g.ty,λb L=>?_,YH rfl (a0v ?_)⟩
 ·cases L;obtain⟨z,T,g2,_⟩:=g;exact⟨z,T,g2.2.1⟩
 refine a1H a1L g.ty PySem.F.entry_dict_items (PySem.F.args_dict_items_1 _) (PQ d lo) ⟨⟨O,M,g⟩,?_⟩;have r:Inv X i p m {n with heap:=n.heap.push {cls:=.type "dict_items",data:=.fields #[.ref d]}}:=A.kept (t':=n.toks) λb o e=>V8 _ e;obtain⟨lo2,Z,Q,N,g2,u,Y⟩:=nR r E;show Wm (WC X.prog X.w) X.A (a1X (.ref n.heap.objs.size)) (BZ X i p (.Tuple B J pt) R) X.xe _;refine Ql ⟨_,Ws _ rfl,rfl,rfl⟩ g2 ⟨_,[_],_,_,m,rfl,r.kept (t':=n.toks) λb o e=>V8 _ e,Qm u,⟨_,_,Ws _ rfl⟩,λb U=>?_,q⟩;have e:=WS.mp U;subst e;exact r.fpOk (Wa _) (r.hok.fresh (Wa _))
noncomputable def gL(a:List (List Int×D)):List D:=a.map λk=>.tup [.tup (k.1.map D.int),k.2]
theorem Qo{K:VU}{π:Nat->Addr}{n:Nat}{H:Hp}{d:Addr}{ob:Obj}{ps:cC}{a:List (List Int×D)}(k:H d=b4 (.frz ob (aZ d ps)))(T:IsTs K π n H ps a):Wk K (zU d ob ps) (eM (.tup (gL a))) π n H:=by
 have G:ps.length=a.length:=by have:=congrArg WY T.to.1;simpa using this
 refine⟨λj B o i e R z=>?_,λj B o i q e R z=>?_⟩
 ·have b:(gL a)[i]?=none:=Wj z;have:=XE.mp b;rw[gL,V0]at this;exact⟨e.frz _ _ _ k,by omega⟩
 ·have b:(gL a)[i]?=b4 q:=Wj z;have A:i<a.length:=by have:=(VY.mp b).1;rwa [gL,V0]at this
  refine⟨⟨e.frz _ _ _ k,by omega⟩,λv E ⟨t,p,r,s,u,w⟩=>?_⟩;subst r w;have c:a[i]?=b4 a[i]:=WM A;obtain⟨I,l,x⟩:=(T.to.2.1.mono e).get (i:=i) (d:=D.tup ((a[i]).1.map D.int)) (by rw[WD,c];rfl);obtain⟨J,m,y⟩:=(T.to.2.2.mono e).get (i:=i) (d:=(a[i]).2) (by rw[WD,c];rfl);rw[WD,u]at l m;cases l;cases m;obtain⟨h,R2⟩:=R.fresh (o:=.tup [.ref p.2.1,p.2.2]) s;rw[gL,WD,c]at b;cases b;exact⟨h,R2,.tup (.of dG) (.cons (x.mono h) (.cons (y.mono h) .nil))⟩
noncomputable def k8(m:ME):MI:=λc b=>(m c b).bind λp=>match p.1 with
 |.loc a=>match p.2[a]? with
  |some (.dF kvs)=>b4 (eM (.tup (gL kvs)),kvs.length+1,p.2)|_=>c4
 |_=>c4
theorem Qp{X:Cx}{e:Expr}{m:ME}{a b:XD}(h:QE X e m)(u:dE e=c7)(r:(a.endLine==b.line)=c7):QJT X (.Call (.Attribute e "items" a) [] [] b) (k8 m):=⟨λes M pt a5T s σ H R I hw=>by
 obtain⟨K,L,B,A,n,G,o,E,c,k⟩:=hw;obtain⟨⟨x,J⟩,q,c⟩:=VT.mp c;dsimp only at c;split at c
 ·split at c
  ·rename_i w hc;cases c;refine Qn h.h (iZ u) r a5T s σ H R I ⟨K,L,B,_,_,o,E,q,λd N l p i v=>?_⟩;cases v;obtain⟨y,z,j,T⟩:=r9 i hc;exact⟨_,y,z,rfl,j,k d l _ p i (Qo j T)⟩
  ·cases c
 ·cases c⟩
end L3
namespace L3
open PySem L2
structure Sig where
 fn:List (Str×Nat)
 con:List (Str×D)
 tab:List (Str×List (bS×D))
 no:List Str
 dIt:List Str
 dEq:List Str
 dMe:List Str
 cls:List (Str×Str):=[]
 sup:List (Str×List Str):=[]
 rz:List Str:=[]
 uf:List (Str×Stmt):=[]
 ob:List (Str×Str):=[]
 mt:List (Str×Str×Str×Nat):=[]
 mc:List (Str×Str×Nat):=[]
 ms:List (Str×Stmt):=[]
 md:List (Str×Str×Str×Nat×List D):=[]
 mw:List (Str×Str×Str×Str×Str):=[]
structure Cs where
 N:List Str
 ks:List (Str×YD)
noncomputable def gC(x:Str):List Str->Option Nat
 |[]=>c4|y::r=>if x=y then b4 0 else(gC x r).map (·+1)
theorem k9{x:Str}:∀{N:List Str}{i:Nat},gC x N=b4 i->N[i]?=b4 x
 |[],_,h=>by cases h
 |y::r,i,h=>by
  unfold gC at h;split at h
  ·rename_i e;cases h;subst e;rfl
  ·obtain⟨j,a,b⟩:=VZ.mp h;subst b;have:=k9 a;simpa using this
noncomputable def glob(c:Cs)(x:Str):Bool:=decide (c.ks.lookup x=b4 .globalImplicit)&&!(x==("__debug__":Str))
noncomputable def kH(c:Cs)(x:Str):Bool:=(decide (c.ks.lookup x=b4 .local)||decide (c.ks.lookup x=b4 .cell)||decide (c.ks.lookup x=b4 .free))&&!(x==("__debug__":Str))&&!(x==("__classdict__":Str))
noncomputable def iM(c:Cs)(x:Str):Bool:=decide (c.ks.lookup x=b4 .local)||decide (c.ks.lookup x=b4 .cell)
noncomputable def zV(x:Str):Option String:=
 if x="int" then b4 "int" else if x="bool" then b4 "bool" else if x="str" then b4 "str" else if x="list" then b4 "list" else if x="tuple" then b4 "tuple" else if x="dict" then b4 "dict" else c4
theorem Qq{x:Str}{n:String}(h:zV x=b4 n):XW x=b4 (.type n)/\x ≠ "__name__":=by
 unfold zV at h;split at h
 ·rename_i e;subst e;cases h;exact⟨a3F,by decide⟩
 split at h
 ·rename_i e;subst e;cases h;exact⟨a3G,by decide⟩
 split at h
 ·rename_i e;subst e;cases h;exact⟨a3A,by decide⟩
 split at h
 ·rename_i e;subst e;cases h;exact⟨Zo,by decide⟩
 split at h
 ·rename_i e;subst e;cases h;exact⟨a3z,by decide⟩
 split at h
 ·rename_i e;subst e;cases h;exact⟨Zp,by decide⟩
 ·cases h
noncomputable def zW(S:Sig)(c:Cs)(x:Str):ME:=
 if kH c x=c7 then(match gC x c.N with|some i=>aA i|none=>bE)
 else if glob c x=c7 then(match S.con.lookup x with
  |some d=>mC d
  |none=>if S.no.contains x=c7 then(match zV x with|some n=>mC (.ty n)|none=>bE)else bE)
 else bE
noncomputable def dM(r:Expr->ME):List Expr->MA
 |[]=>aD|e::es=>aB (r e) (dM r es)
noncomputable def sG(op:BoolOp):List ME->ME
 |[]=>bE|[m]=>m|m::r=>match op with
  |.And=>iV m (sG op r)|.Or=>yD m (sG op r)
noncomputable def vK(op:BoolOp):List MT->MT
 |[]=>nK|[m]=>m|m::r=>match op with
  |.And=>dU m (vK op r)|.Or=>fD m (vK op r)
noncomputable def EV(op:a2N)(a b:ME):ME:=match op with
 |.Add=>aC bM a b|.Sub=>aC cE a b|.Mult=>aC bR a b|.FloorDiv=>aC dD a b|.Mod=>aC bL a b|.Pow=>aC fZ a b|_=>bE
noncomputable def mH(op:Zf)(ns:Bool)(a b:ME):ME:=match op with
 |.Eq=>aC (aY c6) a b|.NotEq=>aC (aY c7) a b|.Lt=>aC kL a b|.LtE=>aC oV a b|.Gt=>aC fS a b|.GtE=>aC yR a b|.In=>if ns=c7 then aC (cX c6) a b else bE|.NotIn=>if ns=c7 then aC (cX c7) a b else bE|.Is=>aC (cL c6) a b|.IsNot=>aC (cL c7) a b
noncomputable def pV(r:Expr->ME):Option Expr->MO
 |none=>kJ|some e=>oQ (r e)
noncomputable def cY:MF:=λds b=>match ds with
 |[.loc a]=>match b[a]? with
  |some (.lst xs)=>b4 (.int xs.length,b)|some (.st ks)=>b4 (.int ks.length,b)|some (.dT kvs)=>b4 (.int kvs.length,b)|_=>c4
 |_=>rN ds b
noncomputable def fU:MF:=λds b=>match ds with
 |[.loc a]=>match b[a]? with
  |some (.dT kvs)=>b4 (.loc b.length,b++[.lst (kvs.map λk=>D.tup (k.1.map D.int))])|_=>rO [.loc a] b
 |ds=>rO ds b
theorem Qr{K:VU}:fR K fU (λxs H Q=>(∃p h,xs=[.ref p]/\(SqL K H p h\/SqT K H p h)/\∀l,H l=c4->Q (.ref l) (upd H l (.lst h)))\/EB K xs H Q):=by
 intro o H n xs d c m Q R i b k;unfold fU at b;split at b
 ·rename_i a;split at b
  ·rename_i e u;cases b;cases i with
   |cons i t=>cases t;cases i;obtain⟨j,r,T⟩:=iJ R u;refine .inr ⟨_,j,rfl,r,T.keys,λl s=>?_⟩;obtain⟨q,R2,_⟩:=R.alloc (c:=.lst (e.map λk:List Int×D=>D.tup (k.1.map D.int))) (o:=.lst (j.map λp:List Int×Addr×V=>V.ref p.2.1)) s T.to.2.1;exact k _ _ _ q R2 jP
  ·exact .inl (Ds o H n _ d c m Q R i b k)
 ·exact .inl (Ds o H n _ d c m Q R i b k)
noncomputable def zX(x:Str):Option MF:=
 if x="len" then b4 cY
 else if x="isinstance" then b4 gJ
 else if x="list" then b4 fU
 else if x="min" then b4 vB else if x="max" then b4 vA
 else c4
noncomputable def Qs(K:VU):List V->Hp->VK->Prop:=λxs H Q=>yV K xs H Q\/(∃a L,xs=[V.ref a]/\H a=b4 (uG a L)/\Q (.int L.length) H)\/EA K xs H Q
theorem Qt{K:VU}:fR K cY (Qs K):=by
 intro h H m r d e l Q R i b k;unfold cY at b;split at b
 ·rename_i a;split at b
  ·rename_i s c;refine .inl (Dr h H m _ d e l Q R i ?_ k);simp only[rN,b8,c];exact b
  ·rename_i o c;cases b;cases i with
   |cons i t=>cases t;cases i;obtain⟨L,j,n,_⟩:=R.st a o c;have:=congrArg WY n;rw[V0]at this;refine .inr (.inl ⟨_,L,rfl,j,?_⟩);rw[this];exact k h _ H .refl R (.int _)
  ·rename_i p c;cases b;cases i with
   |cons i t=>cases t;cases i;obtain⟨q,j,T⟩:=iJ R c;have:=congrArg WY T.to.1;rw[V0,V0]at this;refine .inr (.inr ⟨_,q,rfl,j,T.keys,?_⟩);rw[this];exact k h _ H .refl R (.int _)
  ·cases b
 ·exact .inl (Dr h H m _ d e l Q R i b k)
theorem Qu{X:Cx}{x:Str}{f:MF}(a:X.calm=c7)(b:X.A.units+64<Yt)(h:zX x=b4 f):∃v r,XW x=b4 v/\((∃id,v=.builtin id)\/∃T,v=.type T)/\CallR X v r/\fR X.K f r/\x ≠ "__name__":=by
 unfold zX at h;split at h
 ·rename_i e;subst e;cases h;exact⟨_,_,a3E,.inl ⟨_,rfl⟩,call_lenM.or (call_lenT.or PB),Qt,by decide⟩
 split at h
 ·rename_i e;subst e;cases h;exact⟨_,_,Z5,.inl ⟨_,rfl⟩,Mb,Ma,by decide⟩
 split at h
 ·rename_i e;subst e;cases h;exact⟨_,_,Zo,.inr ⟨_,rfl⟩,call_list_of.or (PC a),Qr,by decide⟩
 split at h
 ·rename_i e;subst e;cases h;exact⟨_,_,a3C,.inl ⟨_,rfl⟩,Jz a,OO,by decide⟩
 split at h
 ·rename_i e;subst e;cases h;exact⟨_,_,a3D,.inl ⟨_,rfl⟩,Jy a,OP,by decide⟩
 ·cases h
noncomputable def zY(x:Str):Option MF:=
 zX x
theorem Qv{X:Cx}{x:Str}{f:MF}(a:X.calm=c7)(b:X.A.units+64<Yt)(h:zY x=b4 f):∃v r,XW x=b4 v/\((∃id,v=.builtin id)\/∃T,v=.type T)/\CallR X v r/\fR X.K f r/\x ≠ "__name__":=by unfold zY at h;exact Qu a b h
noncomputable def EW(m:Str)(n:Nat):Option (D->List D->Hm->Option (D×Hm)):=
 if n=1 then(if m="append" then b4 fF
  else if m="extend" then b4 pH
  else c4)
 else if n=0 then(
  if m="pop" then b4 jT else
  c4)
 else c4
noncomputable def nS:MF:=λds b=>match ds with
 |[.loc a]=>match b[a]? with
  |some (.dT kvs)=>if(kvs.map λp=>Tb.hashT p.1).Nodup then b4 (.loc b.length,b++[.dT kvs])else c4|_=>c4
 |_=>c4
theorem EX{K:VU}:fR K nS (EM K):=by
 intro v H u s d q r Q R i a k;unfold nS at a;split at a
 ·split at a
  ·rename_i b o;split at a
   ·rename_i m;cases a;cases i with
    |cons i t=>
     cases t;cases i;obtain⟨c,j,T⟩:=iJ R o;have h:=T.to.1;refine⟨_,c,rfl,j,T.keys,?_,λl n=>?_⟩
     ·have:(c.map λp=>Tb.hashT p.1)=b.map λp=>Tb.hashT p.1:=by have:=congrArg (a4q Tb.hashT) h;simpa[WI,Function.comp_def]using this
      rw[this];exact m
     ·obtain⟨e,R2,_⟩:=R.alloc (c:=.dT b) (o:=aZ l c) n ⟨c,rfl,T.to⟩;exact k _ _ _ e R2 jP
   ·cases a
  ·cases a
 ·cases a
noncomputable def EY(S:Sig):Expr->List Expr->Option (Bool×Expr)
 |.Name x _,[.Name y p]=>if S.dMe.contains y=c7 then(if x="sorted" then b4 (c7,.Name y p)else if x="dict" then b4 (c6,.Name y p)else c4)else c4|.Name x _,[.Subscript a b p]=>if x="dict"/\S.dMe.contains "[]"=c7 then b4 (c6,.Subscript a b p)else c4|_,_=>c4
noncomputable def EZ(S:Sig)(o:Expr)(m:Str)(n:Nat):Option (D->List D->Hm->Option (D×Hm)):=
 if m="get"/\n=2 then b4 jC else
 if m="clear"/\n=0 then(match o with|.Name x _=>if S.dMe.contains x=c7 then b4 zT else c4|_=>c4)else
 c4
noncomputable def E4(S:Sig):Expr->Bool
 |.Name x _=>S.dEq.contains x|.Dict [] [] _=>S.dEq.contains "{}"|.Subscript o _ _=>match o with|.Name x _=>S.dEq.contains x|_=>c6
 |_=>c6
noncomputable def pW(op:Zf)(a b:ME):ME:=match op with
 |.Eq=>aC (iB c6) a b|.NotEq=>aC (iB c7) a b|_=>bE
noncomputable def E6(S:Sig)(c:Cs):Expr->Option Nat
 |.Name x _=>if S.dIt.contains x=c7 then gC x c.N else c4|.Subscript o i _=>match o,i with
  |.Name x _,.Constant (.int n) _ _=>if S.dIt.contains x=c7 then(gC x c.N).map λj=>1000*(j+1)+n.toNat else c4|_,_=>c4
 |_=>c4
noncomputable def zZ(S:Sig)(c:Cs)(tg:Expr)(e:Expr):Option Nat:=match tg with
 |.Name _ _=>E6 S c e|_=>c4
noncomputable def z4(S:Sig)(F:Str->MF)(r:Expr->ME)(o:Expr)(m:Str)(args:List Expr):ME:=match S.md.lookup m with
 |some d=>if args.length=d.2.2.1&&(!args.isEmpty&&decide (args.length<30))then cG d.1 m (l9 d.2.2.2 (F d.2.1)) (r o) (dM r args)else bE|none=>bE
noncomputable def z5(S:Sig)(F:Str->MF)(r:Expr->ME)(f:Expr)(args:List Expr)(b:XD)(k1 k2:Str)(c d:Expr):ME:=match f with
 |.Attribute o m apos=>(match args with
  |[a]=>(match S.mw.lookup m with
   |some q=>if dE o&&(apos.endLine==b.line)&&b9 a&&(k1==q.2.2.1&&k2==q.2.2.2)then cG q.1 m (mE (F q.2.1)) (r o) (aB (r a) (aB (r c) (aB (r d) aD)))else bE
   |none=>bE)
  |_=>bE)
 |_=>bE
noncomputable def z6(S:Sig)(F:Str->MF)(r:Expr->ME)(c:Cs)(f:Expr)(args:List Expr)(a:XD):ME:=match f with
 |.Name x _=>if glob c x&&args.all b9 then(match S.fn.lookup x with
   |some n=>if args.length=n then aH (F x) (dM r args)else bE|none=>
   match S.mc.lookup x with
   |some q=>if args.length=q.2&&!args.isEmpty then hX x (F x) (dM r args)else bE|none=>
   if S.no.contains x&&!args.isEmpty then(match zY x with|some g=>aH g (dM r args)|none=>bE)else bE)
  else bE
 |.Attribute o m apos=>if dE o&&(apos.endLine==a.line)&&args.all b9 then(
   match S.mt.lookup m with
   |some q=>if args.length=q.2.2&&decide (args.length<30)then cG q.1 m (F q.2.1) (r o) (dM r args)else
    z4 S F r o m args
   |none=>
   match EZ S o m args.length with
   |some g=>iK g (r o) (dM r args)|none=>
   match EW m args.length with
   |some g=>dJ g (r o) (dM r args)|none=>
    bE)
  else bE
 |_=>bE
noncomputable def z7:Expr->Option (Expr×List Expr)
 |.Call f as [] _=>b4 (f,as)|_=>c4
theorem Qw{e f:Expr}{a:List Expr}(h:z7 e=b4 (f,a)):∃pos,e=.Call f a [] pos:=by
 unfold z7 at h;split at h
 ·cases h;exact⟨_,rfl⟩
 ·cases h
noncomputable def nU:Expr->Option Str
 |.Name x _=>b4 x|_=>c4
theorem z8{e:Expr}{x:Str}(h:nU e=b4 x):∃p,e=.Name x p:=by
 unfold nU at h;split at h
 ·cases h;exact⟨_,rfl⟩
 ·cases h
noncomputable def o1:List Expr->Option Expr
 |[e]=>b4 e|_=>c4
theorem E7{l:List Expr}{e:Expr}(h:o1 l=b4 e):l=[e]:=by
 unfold o1 at h;split at h
 ·cases h;rfl
 ·cases h
noncomputable def Fb(f:Expr)(args:List Expr):Option (Str×Str×Expr):=(nU f).bind λx=>(o1 args).bind λa=>(z7 a).bind λg=>(nU g.1).bind λy=>(o1 g.2).map λe=>(x,y,e)
theorem Qx{f:Expr}{args:List Expr}{x y:Str}{e:Expr}(h:Fb f args=b4 (x,y,e)):∃p c pos,f=.Name x p/\args=[.Call (.Name y c) [e] [] pos]:=by obtain⟨m,d,h⟩:=VT.mp h;obtain⟨a,i,h⟩:=VT.mp h;obtain⟨g,j,h⟩:=VT.mp h;obtain⟨n,b,h⟩:=VT.mp h;obtain⟨l,k,h⟩:=VZ.mp h;cases h;obtain⟨p,rfl⟩:=z8 d;obtain⟨pos,rfl⟩:=Qw j;obtain⟨c,b⟩:=z8 b;exact⟨p,c,pos,rfl,by rw[E7 i,b,E7 k]⟩
noncomputable def Qy(f:Expr)(args:List Expr):Option (Bool×Expr):=(Fb f args).bind λt=>
 if t.1="list"/\t.2.1="reversed" then b4 (c7,t.2.2)else
 c4
noncomputable def Fc:Bool->Str
 |false=>"range"|true=>"reversed"
noncomputable def lstM:Bool->MF
 |true=>mG|false=>mG
noncomputable def z9(S:Sig)(F:Str->MF)(r:Expr->ME)(c:Cs)(f:Expr)(args:List Expr)(a:XD):ME:=
 match Qy f args with
 |some (b,e)=>if glob c "list" && glob c (Fc b)&&S.no.contains "list" && S.no.contains (Fc b)&&b9 e then aH (lstM b) (dM r [e])else bE|none=>z6 S F r c f args a
noncomputable def Aa(S:Sig)(F:Str->MF)(r:Expr->ME)(c:Cs)(f:Expr)(args:List Expr)(a:XD):ME:=
 match EY S f args with
 |some (c7,e)=>bE|some (c6,e)=>if glob c "dict" && S.no.contains "dict" then aH nS (dM r [e])else bE|none=>
 z9 S F r c f args a
noncomputable def pX(c:Cs)(scope:Yl)(xs:List Str):Bool:=
 (scope.names.all λy=>decide (y.2≠.cell))&&decide (scope.kind=.function)&&(scope.names.all λy=>decide (y.2≠.local)||decide (scope.names.lookup y.1=b4 .local)) &&
 (xs.all λx=>decide (scope.names.lookup x=b4 .local))&&decide xs.Nodup&&(scope.names.all λy=>decide (y.2≠.free)||decide (c.ks.lookup y.1=b4 .cell)||decide (c.ks.lookup y.1=b4 .free)) &&
 (scope.names.all λy=>decide (y.2≠.local)||!(bK xs c.N).contains y.1)&&decide (bK xs c.N).Nodup&&(c.N.all λy=>!xs.contains y||decide (scope.names.lookup (oX y)=c4))
noncomputable def sH(c:Cs)(scope:Yl)(xs:List Str):Cs:=
 ⟨bK xs c.N++xs,scope.names.map λ(n,k)=>if(k==Ym&&c.ks.lookup n==b4 .cell)then(n,YA)else(n,k)⟩
noncomputable def Fd(r:Expr->MT):List Expr->MT
 |[]=>jQ|[t]=>r t|_=>nK
noncomputable def Ab(S:Sig)(c:Cs):Expr->Option (List Expr)
 |.Call (.Name x _) args [] _=>if x="range" then(if glob c x&&S.no.contains x&&args.all b9 then b4 args else c4)else c4|_=>c4
noncomputable def vL(S:Sig)(r:Expr->ME)(c:Cs)(e:Expr):MI:=match Ab S c e with
 |some [a]=>kS (dM r [a])|some [a,b]=>pE (dM r [a,b])|some [a,b,d]=>pO (dM r [a,b,d])|some _=>y4|none=>gA (r e)
noncomputable def Ac(S:Sig)(c:Cs):Expr->Option Expr
 |.Call (.Name x _) [a] [] _=>if x="enumerate" then(if glob c x&&S.no.contains x&&b9 a then b4 a else c4)else c4|_=>c4
noncomputable def Ad(S:Sig)(r:Expr->ME)(c:Cs)(e:Expr):MI:=match Ac S c e with
 |some _=>y4|none=>vL S r c e
noncomputable def Ae(S:Sig)(r:Expr->ME)(c:Cs)(e:Expr):MI:=Ad S r c e
noncomputable def Af:Expr->Option (List Str)
 |.Name x _=>b4 [x]|.Tuple es _ _=>es.mapM λe=>match e with|.Name x _=>b4 x|_=>c4
 |_=>c4
noncomputable def Ag:Expr->Nat->BD
 |.Tuple ..,n=>Dp n|_,_=>oZ
noncomputable def mI(S:Sig)(r:Expr->ME)(c:Cs)(tg e:Expr):MI:=match tg with
 |.Tuple ..=>Ae S r c e|_=>vL S r c e
noncomputable def jW(b:MI)(d:Cs->Expr->ME)(e:Cs->Expr->MT)(c:Cs)(elt tg iter:Expr)(ifs:List Expr)(scope:Yl):ME:=match Af tg with
 |some a=>if pX c scope a&&f9 iter then nJ (Ag tg a.length) b (Fd (e (sH c scope a)) ifs) (d (sH c scope a) elt)else bE|none=>bE
noncomputable def Ah(S:Sig)(a:Cs->Expr->ME)(b:Cs->Expr->MT)(c:Cs)(elt tg iter:Expr)(ifs:List Expr)(scope:Yl):ME:=
 match zZ S c tg iter with
 |some i=>zP i (jW (iA (a c iter)) a b c elt tg iter ifs scope) (jW (mI S (a c) c tg iter) a b c elt tg iter ifs scope)|none=>
 jW (mI S (a c) c tg iter) a b c elt tg iter ifs scope
noncomputable def vM:Const->ME
 |.int i=>mC (.int i)|.bool b=>mC (.bl b)|.str s=>mC (.str s)|.none=>mC .non|_=>bE
noncomputable def Fe(m:ME):UnaryOp->ME
 |.USub=>bW m|.Not=>kI m|_=>bE
noncomputable def Ai(S:Sig)(r:Expr->ME)(a:Expr):List Zf->List Expr->ME
 |[op],[b]=>if E4 S b then pW op (r a) (r b)else mH op (f9 b) (r a) (r b)
 |[op,op'],[b,b']=>(match kY op,kY op' with
  |some p,b4 q=>mF (gI p) (gI q) (r a) (r b) (r b')
  |_,_=>bE)
 |_,_=>bE
noncomputable def Aj(r:Expr->ME):List (Option Expr)->List Expr->ME
 |[],[]=>i9|_,_=>bE
noncomputable def Ak(S:Sig)(r:Expr->ME)(c:Cs)(a b:Expr):ME:=match b with
 |.Slice lo hi c4 _=>yF (r a) (pV r lo) (pV r hi)|.Slice lo hi (b4 st) _=>nO (r a) (pV r lo) (pV r hi) (pV r (b4 st))|b=>if o8 b then aC aE (r a) (r b)else bE
noncomputable def Al(r:Expr->ME)(es:List Expr):ME:=if es.all b9 then bY (dM r es)else bE
noncomputable def Am(r:Expr->ME)(es:List Expr):ME:=if es.all b9 then bO (dM r es)else bE
noncomputable def An(S:Sig)(F:Str->MF)(r:Expr->ME)(c:Cs)(f:Expr)(args:List Expr)(a:XD):List YE->ME
 |[]=>Aa S F r c f args a|[⟨b4 k1,e1,_⟩,⟨b4 k2,e2,_⟩]=>z5 S F r f args a k1 k2 e1 e2|_=>bE
noncomputable def Ao(S:Sig)(a:Cs->Expr->ME)(b:Cs->Expr->MT)(c:Cs)(elt:Expr)(scope:Yl):List Comprehension->ME
 |[⟨tg,iter,ifs,0⟩]=>Ah S a b c elt tg iter ifs scope|_=>bE
noncomputable def Ap(S:Sig)(f:Expr)(args:List Expr):Option (Expr×Str):=match f with
 |.Name x _=>(match args with
  |[a,b]=>(match b with
   |.Name cn _=>if(x=="isinstance" && ((S.sup.lookup cn).isSome||(cn=="ValueError" && !S.sup.isEmpty)))=c7 then b4 (a,cn)else c4
   |_=>c4)
  |_=>c4)
 |_=>c4
theorem Qz{S:Sig}{f:Expr}{args:List Expr}{a:Expr}{b:Str}(h:Ap S f args=b4 (a,b)):(∃p q,f=.Name "isinstance" p/\args=[a,.Name b q])/\((S.sup.lookup b).isSome=c7\/b="ValueError"):=by
 unfold Ap at h;split at h
 ·split at h
  ·split at h
   ·split at h
    ·rename_i hc;cases h;rw[VW,beq_iff_eq,Y9,VW,beq_iff_eq]at hc;rw[hc.1];exact⟨⟨_,_,rfl,rfl⟩,hc.2.imp id (·.1)⟩
    ·cases h
   ·cases h
  ·cases h
 ·cases h
noncomputable def Ff(S:Sig)(F:Str->MF)(d:Cs->Expr->ME)(e:Cs->Expr->MT)(c:Cs):Expr->ME
 |.Name x _=>zW S c x|.Constant v _ _=>vM v|.BinOp a op b _=>EV op (d c a) (d c b)|.UnaryOp op a _=>Fe (d c a) op|.Compare a ops bs _=>Ai S (d c) a ops bs|.BoolOp op vs _=>sG op (vs.map (d c))|.IfExp t a b _=>gX (e c t) (d c a) (d c b)|.Tuple es _ _=>Al (d c) es|.List es _=>Am (d c) es|.Dict keys values _=>Aj (d c) keys values|.Subscript a b _=>Ak S (d c) c a b|.Call f args kws cpos=>An S F (d c) c f args cpos kws|.Attribute o a _=>if dE o then(match S.ob.lookup a with|some x=>fG x a (d c o)|none=>bE)else bE|.ListComp elt gs scope _=>Ao S d e c elt scope gs|_=>bE
noncomputable def sI(r:Expr->ME)(e:Expr):MT:=if rP e then cA (r e)else nK
noncomputable def Aq(S:Sig)(r:Expr->ME)(a:Expr)(ops:List Zf)(bs:List Expr)(p:XD):MT:=match ops,bs with
 |[op],[b]=>if E4 S b then aN (pW op (r a) (r b))else aN (mH op (f9 b) (r a) (r b))
 |[op,op'],[b,b']=>(match kY op,kY op' with
  |some p,b4 q=>aN (mF (gI p) (gI q) (r a) (r b) (r b'))
  |_,_=>nK)
 |ops,bs=>sI r (.Compare a ops bs p)
noncomputable def QC(r:Expr->ME)(t:MT)(a:Expr)(p:XD):UnaryOp->MT
 |.Not=>t|op=>sI r (.UnaryOp op a p)
noncomputable def Fg(S:Sig)(b:Cs->Expr->ME)(d:Cs->Expr->MT)(c:Cs):Expr->MT
 |.BoolOp op vs _=>vK op (vs.map (d c))|.UnaryOp op a p=>QC (b c) (eJ (d c a)) a p op|.Compare a ops bs p=>Aq S (b c) a ops bs p|e=>sI (b c) e
noncomputable def tr(S:Sig)(F:Str->MF):Nat->(Cs->Expr->ME)×(Cs->Expr->MT)
 |0=>(λ_ _=>bE,λ_ _=>nK)|n+1=>(Ff S F (tr S F n).1 (tr S F n).2,Fg S (tr S F n).1 (tr S F n).2)
structure XcOk(S:Sig)(K:VU):Prop where
 sub:∀x ys c,S.sup.lookup x=b4 ys->(S.sup.lookup c).isSome=c7->rX K x c=b4 (ys.contains c)
 isx:∀x ys c,S.sup.lookup x=b4 ys->(S.sup.lookup c).isSome=c7->∃C,kU K c=b4 C/\l7 K (.ref C) x=b4 (ys.contains c)
 isv:∀x ys,S.sup.lookup x=b4 ys->l7 K (.type "ValueError") x=b4 (ys.contains "ValueError")
 plain:∀x ys,S.sup.lookup x=b4 ys->S.cls.lookup x=c4->∃C,ClsK K x C
structure Okx(S:Sig)(F:Str->MF)(k:Nat)(c:Cs)(X:Cx):Prop where
 N:X.N=c.N
 nd:X.N.Nodup
 ks:X.env.scope.names=c.ks
 kind:X.env.scope.kind=.function
 calm:X.calm=c7
 room:Room k X.A
 never:a5d (WC X.prog X.w) X.A X.env X.xe
 fn:∀x n,S.fn.lookup x=b4 n->∃(f:Addr)(fd:W8)(ps:List Str),FnOk X.prog X.w X.K X.mg X.base dB k f fd ps (cT X.K n (F x))/\X.mg x=b4 (.ref f)/\Xe X.K (.ref f)=c7/\Binds X.K fd ps []
 con:∀x d,S.con.lookup x=b4 d->∃v u,X.mg x=b4 u/\RelV v u/\∀π n H,IsD X.K π n H v d
 tab:∀x kvs,S.tab.lookup x=b4 kvs->TabOk X x kvs
 no:∀x,S.no.contains x=c7->X.mg x=c4
 xc:XcOk S X.K
 ob:∀f x,S.ob.lookup f=b4 x->∃C,CAt X.K x C/\Cls X.K C/\NoAttr X.K C f
 mt:∀m x y n,S.mt.lookup m=b4 (x,y,n)->∃(C g:Addr)(fd:W8)(ps:List Str),CAt X.K x C/\Cls X.K C/\Meth X.K C m g/\FnOk X.prog X.w X.K X.mg X.base dB k g fd ps (cT X.K (n+1) (F y))/\Binds X.K fd ps []
 mc:∀x y n,S.mc.lookup x=b4 (y,n)->(∀ds μ,F x ds μ=c4)\/∃(k':Nat)(C g:Addr)(fd:W8)(ps:List Str),k=k'+1/\CAt X.K x C/\Mk X.K C g/\FnOk X.prog X.w X.K X.mg X.base dB k' g fd ps (cT X.K (n+1) (F x))/\Binds X.K fd ps []
 md:∀m x y n ex,S.md.lookup m=b4 (x,y,n,ex)->∃(C g:Addr)(fd:W8)(ps:List Str)(dvs:List V)(dsV:List Value),CAt X.K x C/\Cls X.K C/\Meth X.K C m g/\FnOk X.prog X.w X.K X.mg X.base dB k g fd ps (cT X.K (n+1+ex.length) (F y))/\Binds X.K fd ps dsV/\Vals dvs dsV/\mD X.K dvs ex
 mw:∀m x y k1 k2,S.mw.lookup m=b4 (x,y,k1,k2)->∃(C g:Addr)(fd:W8)(ps:List Str),CAt X.K x C/\Cls X.K C/\Meth X.K C m g/\FnOk X.prog X.w X.K X.mg X.base dB k g fd ps (cT X.K 4 (F y))/\KBinds X.K fd ps [k1,k2] g2 g2
section
variable{S:Sig}{F:Str->MF}{k:Nat}{c:Cs}{X:Cx}
theorem vO(a:X.env.scope.names=c.ks){x:Str}(h:glob c x=c7):Gl X x/\(x==("__debug__":Str))=false:=by unfold glob at h;rw[VW]at h;refine⟨?_,by simpa using h.2⟩;show X.env.scope.names.lookup x=_;rw[a];exact of_decide_eq_true h.1
theorem Fh(e:X.env.scope.names=c.ks){x:Str}(h:kH c x=c7):oG X.env.scope x/\(x==("__debug__":Str))=c6/\(x==("__classdict__":Str))=false:=by
 unfold kH at h;rw[VW,VW,Y9,Y9]at h;obtain⟨⟨a,b⟩,d⟩:=h;refine⟨?_,by simpa using b,by simpa using d⟩;unfold oG;rw[e];rcases a with(a|a)|a
 ·exact .inl (of_decide_eq_true a)
 ·exact .inr (.inl (of_decide_eq_true a))
 ·exact .inr (.inr (of_decide_eq_true a))
theorem Okx.gl(O:Okx S F k c X){x:Str}(h:glob c x=c7):Gl X x/\(x==("__debug__":Str))=false:=vO O.ks h
theorem Okx.vis(O:Okx S F k c X){x:Str}(h:kH c x=c7):oG X.env.scope x/\(x==("__debug__":Str))=c6/\(x==("__classdict__":Str))=false:=Fh O.ks h
theorem QD(O:Okx S F k c X)(x:Str)(pos:XD):QE X (.Name x pos) (zW S c x):=by
 unfold zW;split
 ·rename_i h;obtain⟨a,b,l⟩:=O.vis h;split
  ·rename_i i o;exact Dx i (by rw[O.N];exact k9 o) a b l
  ·exact bJ
 split
 ·rename_i h;obtain⟨a,b⟩:=O.gl h;split
  ·rename_i d hd;obtain⟨v,u,m,r,i⟩:=O.con x d hd;exact⟨oP (Ih a m r b) i⟩
  ·split
   ·rename_i p;split
    ·rename_i n q;obtain⟨e,j⟩:=Qq q;exact MJ (O.no x p) e a j b
    ·exact bJ
   ·exact bJ
 ·exact bJ
theorem eV{r:Expr->ME}(a:∀e,QE X e (r e)):∀(es:List Expr),es.all b9=c7->QA X es (dM r es) es.length
 |[],_=>Mv|e::es,h=>by rw[WN,VW]at h;exact Mw (a e) (eV a es h.2) h.1
theorem Ar{r:Expr->ME}(a:∀e,QE X e (r e))(op:BoolOp)(pos:XD):∀(vs:List Expr),QE X (.BoolOp op vs pos) (sG op (vs.map r))
 |[]=>bJ|[e]=>Mr (a e)|e::d::es=>by
  have b:=Ar a op pos (d::es);cases op with
  |And=>exact Ms (a e) b|Or=>exact Mt (a e) b
theorem Fi{r:Expr->MT}(a:∀e,QT X e (r e))(op:BoolOp)(pos:XD):∀(vs:List Expr),QW X (.BoolOp op vs pos) (vK op (vs.map r))
 |[]=>Nq|[e]=>by
  cases op with
  |And=>exact MW (a e)|Or=>exact MX (a e)
 |e::d::es=>by
  have b:=Fi a op pos (d::es);cases op with
  |And=>exact MY (a e) b|Or=>exact MZ (a e) b
theorem QF{a b:Expr}{h i:ME}(d:QE X a h)(e:QE X b i)(op:a2N)(pos:XD):QE X (.BinOp a op b pos) (EV op h i):=by
 cases op with
 |Add=>exact DC d e|Sub=>exact Me d e|Mult=>exact Mf d e|FloorDiv=>exact Mg d e|Mod=>exact Mh d e|Pow=>exact Mi d e|_=>exact bJ
theorem QH(O:Okx S F k c X){a b:Expr}{i j:ME}(d:QE X a i)(e:QE X b j)(op:Zf)(pos:XD):QE X (.Compare a [op] [b] pos) (mH op (f9 b) i j):=by
 cases op with
 |Eq=>exact Ml O.room d e|NotEq=>exact Mm O.room d e|Lt=>exact Mn d e|LtE=>exact Mo d e|Gt=>exact Mp d e|GtE=>exact Mq d e|In=>
  simp only[mH];split
  ·rename_i h;exact PF O.room d e h
  ·exact bJ
 |NotIn=>
  simp only[mH];split
  ·rename_i h;exact PH O.room d e h
  ·exact bJ
 |Is=>exact OK d e|IsNot=>exact OL d e
theorem Fj{e:Expr}:QT X e (aN bE):=⟨λa5T s σ H Q I h=>by
 obtain⟨j,l,i,d,b,R,E,a,k⟩:=h;cases a⟩
theorem QK(O:Okx S F k c X){a b:Expr}{i j:ME}(d:QE X a i)(e:QE X b j)(op:Zf)(pos:XD):QT X (.Compare a [op] [b] pos) (aN (mH op (f9 b) i j)):=by
 cases op with
 |Eq=>exact MK O.room d e|NotEq=>exact ML O.room d e|Lt=>exact MM d e|LtE=>exact MN d e|Gt=>exact MP d e|GtE=>exact MQ d e|In=>
  simp only[mH];split
  ·rename_i h;exact PL O.room d e h
  ·exact Fj
 |NotIn=>
  simp only[mH];split
  ·rename_i h;exact PM O.room d e h
  ·exact Fj
 |Is=>exact OM d e|IsNot=>exact ON d e
theorem sJ{r:Expr->ME}(a:∀e,QE X e (r e)):∀o:Option Expr,QO X o (pV r o)
 |none=>Mz|some e=>MB (a e)
theorem QL(O:Okx S F k c X){r:Expr->ME}(j:∀e,QE X e (r e))(o:Expr)(m:Str)(a:XD)(args:List Expr)(p:XD)(s:dE o=c7)(u:(a.endLine==p.line)=c7)(v:args.all b9=c7):QE X (.Call (.Attribute o m a) args [] p) (z4 S F r o m args):=by
 unfold z4;split
 ·rename_i d hd;split
  ·rename_i i;rw[VW,VW]at i;obtain⟨A,B,E⟩:=i;obtain⟨C,I,H,J,q,n,w,l,M,h,x,z,y⟩:=O.md m d.1 d.2.1 d.2.2.1 d.2.2.2 hd;have b:=of_decide_eq_true A;rw[<- b]at h;cases args with
   |nil=>exact absurd B (by simp)|cons e G=>exact Oy y z (j o) s u w l M h O.room x (eV j _ v) (of_decide_eq_true E)
  ·exact bJ
 ·exact bJ
theorem QM(O:Okx S F k c X){r:Expr->ME}(a:∀e,QE X e (r e))(f:Expr)(args:List Expr)(p x y:XD)(k1 k2:Str)(b d:Expr):QE X (.Call f args [⟨b4 k1,b,x⟩,⟨b4 k2,d,y⟩] p) (z5 S F r f args p k1 k2 b d):=by
 unfold z5;split
 ·split
  ·split
   ·rename_i q w;split
    ·rename_i h;rw[VW,VW,VW,VW,beq_iff_eq (a:=k1),beq_iff_eq (a:=k2)]at h;obtain⟨⟨⟨l,m⟩,n⟩,o,s⟩:=h;subst o s;obtain⟨C,A,z,B,u,j,M,i,v⟩:=O.mw _ q.1 q.2.1 q.2.2.1 q.2.2.2 w;exact OB (a _) l m u j M i O.room v (a _) (a _) (a _) n
    ·exact bJ
   ·exact bJ
  ·exact bJ
 ·exact bJ
theorem QN(O:Okx S F k c X){r:Expr->ME}(d:∀e,QE X e (r e))(f:Expr)(args:List Expr)(u:XD):QE X (.Call f args [] u) (z6 S F r c f args u):=by
 unfold z6;split
 ·rename_i x p;split
  ·rename_i A;rw[VW]at A;obtain⟨G,g2⟩:=O.gl A.1;have j:=eV d args A.2;split
   ·rename_i n I;split
    ·rename_i b;obtain⟨fa,U,ps,h,a,Z,l⟩:=O.fn x n I;subst b;cases args with
     |nil=>exact NH h O.room a Z l G g2|cons e i=>exact MD h O.room a Z l j G g2
    ·exact bJ
   ·skip;split
    ·rename_i q J;split
     ·rename_i b;rw[VW]at b;cases args with
      |nil=>exact absurd b.2 (by simp)|cons e i=>
       rcases O.mc x q.1 q.2 J with hz|⟨k',C,ga,U,ps,rfl,H,M,h,l⟩
       ·exact Oq λρ μ=>by
         unfold hX;cases dM r (e::i) ρ μ with
         |none=>rfl|some p=>simp only[Wl,hz,Option.bind_none]
       ·have z:=of_decide_eq_true b.1;rw[<- z]at h;exact Oo M H h O.room G l j g2
     ·exact bJ
    split
    ·rename_i s;rw[VW]at s;split
     ·rename_i g l;obtain⟨v,rr,K,b2,L,N,Q⟩:=Qv (X:=X) O.calm O.room.units l;cases args with
      |nil=>exact absurd s.2 (by simp)|cons e i=>
       rcases b2 with⟨id,rfl⟩|⟨T,rfl⟩
       ·exact MH L N (O.no x s.1) K j G Q g2
       ·exact yW L N (O.no x s.1) K j G Q g2
     ·exact bJ
    ·exact bJ
  ·exact bJ
 ·rename_i o m B;split
  ·rename_i A;rw[VW,VW]at A;obtain⟨⟨w,y⟩,Y⟩:=A;have j:=eV d args Y;split
   ·rename_i q J;split
    ·rename_i b;rw[VW]at b;obtain⟨C,ga,U,ps,H,R,M,h,l⟩:=O.mt m q.1 q.2.1 q.2.2 J;have z:=of_decide_eq_true b.1;rw[<- z]at h;cases args with
     |nil=>exact Ol (d o) w y H R M h O.room l|cons e i=>exact Oj (d o) w y H R M h O.room l j (of_decide_eq_true b.2)
    ·exact QL O d o m B args _ w y Y
   split
   ·rename_i g a;unfold EZ at a;split at a
    ·rename_i b;obtain⟨rfl,b⟩:=b;cases a;cases args with
     |nil=>cases b|cons e i=>exact P4 a2k PySem.F.type_dict_get (P7 (by have:=O.room.units;omega)) P6 (d o) j w y (by rw[b];decide)
    split at a
    ·rename_i b;obtain⟨rfl,b⟩:=b;split at a
     ·split at a
      ·cases a;cases args with
       |cons e i=>cases b|nil=>exact P5 a1M PySem.F.type_dict_clear Qa P8 (d _) w y
      ·cases a
     ·cases a
    cases a
   split
   ·rename_i g a;unfold EW at a;split at a
    ·rename_i b;cases args with
     |nil=>cases b|cons e i=>
      have I:(e::i).length<30:=by rw[b];decide
      split at a
      ·rename_i E;subst E;cases a;exact D0 PySem.F.slot_list_append PySem.F.type_list_append CK NB (d o) j w y I
      split at a
      ·rename_i E;subst E;cases a;exact D0 PySem.F.slot_list_extend PySem.F.type_list_extend Kq NC (d o) j w y I
      ·cases a
    split at a
    ·rename_i b;cases args with
     |cons e i=>cases b|nil=>
      split at a
      ·rename_i E;subst E;cases a;exact Ny PySem.F.slot_list_pop PySem.F.type_list_pop Kr ND (d o) w y
      cases a
    ·cases a
   ·skip
    ·exact bJ
  ·exact bJ
 ·exact bJ
theorem QU(O:Okx S F k c X){r:Expr->ME}(l:∀e,QE X e (r e))(f:Expr)(args:List Expr)(a:XD):QE X (.Call f args [] a) (z9 S F r c f args a):=by
 unfold z9;split
 ·rename_i b e h;split
  ·rename_i j;rw[VW,VW,VW,VW]at j;obtain⟨⟨⟨⟨m,g2⟩,q⟩,s⟩,st⟩:=j;have o:=eV l [e] (by rw[WN,st];rfl);obtain⟨t,n,i⟩:=VT.mp h;obtain⟨p,u,pos,rfl,rfl⟩:=Qx n;split at i
   ·rename_i d;cases i;rw[d.1,d.2];exact O4 O.calm (O.no _ q) (O.no _ s) o (O.gl m).1 (O.gl g2).1
   ·cases i
  ·exact bJ
 ·exact QN O l f args a
theorem QV(nd:X.N.Nodup)(e:X.N=c.N)(u:X.env.scope.names=c.ks){scope:Yl}{xs:List Str}(h:pX c scope xs=c7):CompSt X.env.scope X.N scope xs/\xs.Nodup:=by
 unfold pX at h;rw[VW,VW]at h;obtain⟨⟨h,b⟩,r⟩:=h;have b:=of_decide_eq_true b;have d:∀y∈c.N,xs.contains y=c7->scope.names.lookup (oX y)=none:=λy a hc=>by have:=XB.mp r y a;rw[hc]at this;simpa using this
 simp only[VW,XB,decide_eq_true_eq,Y9,Zj,List.contains_eq_mem,decide_eq_false_iff_not]at h;obtain⟨⟨⟨⟨⟨⟨j,l⟩,m⟩,n⟩,q⟩,o⟩,p⟩:=h;refine⟨⟨j,l,λy a i=>(m y a).resolve_left (λz=>z i),n,λy a s=>?_,λy a i=>?_,nd,by rw[e];exact b,by rw[e];exact d⟩,q⟩
 ·rw[u];rcases o y a with(z|z)|z
  ·exact absurd s z
  ·exact .inl z
  ·exact .inr z
 ·rw[e];have:=(p y a).resolve_left (λz=>z i);exact this
theorem sM(O:Okx S F k c X){scope:Yl}{xs:List Str}(h:pX c scope xs=c7):CompSt X.env.scope X.N scope xs/\xs.Nodup:=QV O.nd O.N O.ks h
theorem Fm{N xs:List Str}(h:N.Nodup)(d:xs.Nodup)(i:∀x∈xs,x∉N):(N++xs).Nodup:=by rw[YQ];exact⟨h,d,λa j b l e=>by subst e;exact i _ l j⟩
theorem Fn{scope:Yl}{xs:List Str}(Q:CompSt X.env.scope X.N scope xs/\xs.Nodup):(bK xs X.N++xs).Nodup:=Fm Q.1.hnd Q.2 λx a=>Q.1.own (x,.local) (Xu (Q.1.here x a)) rfl
theorem QX(a:X.env.scope.kind=.function)(d:X.env.scope.names=c.ks)(scope:Yl)(xs:List Str):(a4O scope X.env).names=(sH c scope xs).ks:=by
 unfold a4O sH;dsimp only;refine XI λy _=>?_;obtain⟨n,b⟩:=y;dsimp only;have:(X.env.scope.kind==ScopeKind.function)=true:=by rw[a];rfl
 rw[this,a4G];show(if(b==Ym&&X.env.scope.names.lookup n==b4 YA)=c7 then _ else _)=_;rw[d]
theorem Okx.comp(O:Okx S F k c X){scope:Yl}{xs:List Str}(h:pX c scope xs=c7){b:List (Str×Addr)}{C:Addr}{s₀:V1}{H₀:Hp}{d:List Addr}:Okx S F k (sH c scope xs) (cS X scope b C (bK xs X.N++xs) s₀ H₀ d):=
 ⟨show bK xs X.N++xs=bK xs c.N++xs by rw[O.N],Fn (sM O h),QX O.kind O.ks scope xs,(sM O h).1.kind,O.calm,O.room,a2U,O.fn,O.con,λy a q=>⟨(O.tab y a q).ex⟩,O.no
  ,O.xc
  ,O.ob,O.mt,O.mc
  ,O.md,O.mw
  ⟩
theorem Fo{r:Expr->MT}(l:∀e,QT X e (r e)):∀es:List Expr,QI X es (Fd r es)
 |[]=>M3|[t]=>M4 (l t)
 |a::b::es=>⟨λi s q H Q I h=>by
   obtain⟨o,p,n,d,m,R,E,j,k⟩:=h;cases j⟩
theorem Au(O:Okx S F k c X){e:Expr}{args:List Expr}(h:Ab S c e=b4 args):∃p pos,e=.Call (.Name "range" p) args [] pos/\Gl X "range"/\X.mg "range"=c4/\args.all b9=true:=by
 unfold Ab at h;split at h
 ·split at h
  ·rename_i b;subst b;split at h
   ·rename_i a;cases h;rw[VW,VW]at a;exact⟨_,_,rfl,(O.gl a.1.1).1,O.no _ a.1.2,a.2⟩
   ·cases h
  ·cases h
 ·cases h
theorem Fp(O:Okx S F k c X){r:Expr->ME}(m:∀e,QE X e (r e))(e:Expr):QJ X e (vL S r c e):=by
 unfold vL;split
 ·rename_i a h;obtain⟨p,pos,rfl,i,j,l⟩:=Au O h;exact Nh i j (eV m [a] l)
 ·rename_i a b h;obtain⟨p,pos,rfl,i,j,l⟩:=Au O h;exact Ni i j (eV m [a,b] l)
 ·rename_i a b d h;obtain⟨p,pos,rfl,i,j,l⟩:=Au O h;exact O9 i j (eV m [a,b,d] l)
 ·exact j_bad
 ·exact Nf (m e)
theorem QY(O:Okx S F k c X){e a:Expr}(h:Ac S c e=b4 a):∃p pos,e=.Call (.Name "enumerate" p) [a] [] pos/\Gl X "enumerate"/\X.mg "enumerate"=c4/\b9 a=true:=by
 unfold Ac at h;split at h
 ·split at h
  ·rename_i d;subst d;split at h
   ·rename_i b;cases h;rw[VW,VW]at b;exact⟨_,_,rfl,(O.gl b.1.1).1,O.no _ b.1.2,b.2⟩
   ·cases h
  ·cases h
 ·cases h
theorem QZ(O:Okx S F k c X){r:Expr->ME}(b:∀e,QE X e (r e))(e:Expr):QJT X e (Ad S r c e):=by
 unfold Ad;split
 ·rename_i a h;obtain⟨p,pos,rfl,d,i,j⟩:=QY O h;exact j_bad.t
 ·exact(Fp O b e).t
theorem Q0(O:Okx S F k c X){r:Expr->ME}(a:∀e,QE X e (r e))(e:Expr):QJT X e (Ae S r c e):=by unfold Ae;exact QZ O a e
theorem pY(O:Okx S F k c X){r:Expr->ME}(a:∀e,QE X e (r e))(tg e:Expr):PI X tg e (iY X.K (mI S r c tg e)):=by
 unfold mI;split
 ·exact(Q0 O a e).h _ _ _
 ·exact(Fp O a e).h _
theorem Fq{iter:Expr}{env:ZS}(h:f9 iter=c7):∀x,YZ iter env x=pure x:=by intro z;cases iter<;>first|rfl|cases h
end
theorem Fs{X:Cx}(c:X.N.Nodup):∀(es:List Expr)(xs:List Str)(n:Nat),(es.mapM λe=>match e with|.Name x _=>b4 x|_=>c4)=b4 xs->(∀j x,xs[j]?=b4 x->X.N[n+j]?=b4 x/\X.env.scope.names.lookup x=b4 .local)->QGs X es (ZY n xs.length)
 |[],xs,n,h,hx=>by cases h;exact DJ
 |e::es,xs,n,h,hx=>by
  rw[List.mapM_cons]at h;obtain⟨x,b,h⟩:=VT.mp h;obtain⟨k,d,h⟩:=VT.mp h;cases h;cases e with
  |Name y p=>cases b;rw[Ww,Z6];have a:=hx 0 x rfl;refine DK n c (Fs c es k (n+1) d λj z i=>?_) (by simpa using a.1) (.inl a.2) (.inr a.2);have:=hx (j+1) z (by simpa using i);rw[show n+1+j=n+(j+1) by omega];exact this|_=>cases b
theorem Q1{c:Cs}{X:Cx}{scope:Yl}{x:Str}{p:XD}(Q:CompSt X.env.scope X.N scope [x]/\[x].Nodup)(a:List (Str×Addr))(C:Addr)(s₀:V1)(H₀:Hp)(b:List Addr):PG (cS X scope a C (bK [x] X.N++[x]) s₀ H₀ b) (.Name x p) (f6 X.K (gB X.N.length oZ)):=by have e:=Fn Q;have d:(a4O scope X.env).names.lookup x=b4 .local:=a4h (Q.1.here x (by simp));exact Nj (X:=cS X scope a C (bK [x] X.N++[x]) s₀ H₀ b) (by show(bK [x] X.N++[x]).length=_;rw[V5,nH];rfl) (Dl (X:=cS X scope a C (bK [x] X.N++[x]) s₀ H₀ b) e (by show(bK [x] X.N++[x])[X.N.length]?=_;rw[<- nH [x] X.N];simp) (.inl d) (.inr d))
theorem vP{S:Sig}{F:Str->MF}{k:Nat}{c:Cs}{X:Cx}(O:Okx S F k c X){scope:Yl}{tg:Expr}{xs:List Str}(a:Af tg=b4 xs)(h:pX c scope xs=c7)(b:List (Str×Addr))(C:Addr)(s₀:V1)(H₀:Hp)(e:List Addr) :
  PG (cS X scope b C (bK xs X.N++xs) s₀ H₀ e) tg (f6 X.K (gB X.N.length (Ag tg xs.length)))/\∀d n z,Ag tg xs.length d n=b4 z->z.length=xs.length:=by
 obtain⟨St,hnd⟩:=sM O h;have r:(bK xs X.N++xs).Nodup:=Fm St.hnd hnd λx a=>St.own (x,.local) (Xu (St.here x a)) rfl;have i:∀x∈xs,(a4O scope X.env).names.lookup x=b4 .local:=λx a=>a4h (St.here x a);unfold Af at a;split at a
 ·rename_i x p;cases a;refine⟨Q1 (c:=c) ⟨St,hnd⟩ b C s₀ H₀ e,λd n z m=>?_⟩;cases m;rfl
 ·rename_i q v pt;refine⟨Nk (X:=cS X scope b C (bK xs X.N++xs) s₀ H₀ e) (by show(bK xs X.N++xs).length=_;rw[V5,nH]) (yY (X:=cS X scope b C (bK xs X.N++xs) s₀ H₀ e) (Fs (X:=cS X scope b C (bK xs X.N++xs) s₀ H₀ e) r q xs X.N.length a λj x o=>⟨?_,i x (Xq o)⟩) O.calm).h,λd n z m=>?_⟩
  ·show(bK xs X.N++xs)[X.N.length+j]?=b4 x;rw[W2 (by rw[nH];omega),nH,show X.N.length+j-X.N.length=j by omega];exact o
  ·obtain⟨w,u,l⟩:=VT.mp m;split at l
   ·rename_i s;cases l;rw[V0];exact s
   ·cases l
 ·cases a
theorem Q2(O:Okx S F k c X){r:Expr->ME}(i:∀e,QE X e (r e))(f:Expr)(args:List Expr)(a:XD):QE X (.Call f args [] a) (Aa S F r c f args a):=by
 unfold Aa;split
 ·exact bJ
 ·rename_i e h;split
  ·rename_i b;rw[VW]at b;unfold EY at h;split at h
   ·split at h
    ·split at h
     ·cases h
     ·split at h
      ·rename_i d;subst d;cases h;exact yW EO EX (O.no _ b.2) Zp (eV i _ rfl) (O.gl b.1).1 (by decide) (O.gl b.1).2
      ·cases h
    ·cases h
   ·split at h
    ·rename_i d;cases d.1;cases h;exact yW EO EX (O.no _ b.2) Zp (eV i _ rfl) (O.gl b.1).1 (by decide) (O.gl b.1).2
    ·cases h
   ·cases h
  ·exact bJ
 exact QU O i _ _ _
theorem vQ{S:Sig}{F:Str->MF}{k:Nat}{n:Cs->Expr->ME}{o:Cs->Expr->MT}(p:∀c X,Okx S F k c X->∀e,QE X e (n c e))(r:∀c X,Okx S F k c X->∀e,QT X e (o c e))(c:Cs)(X:Cx)(O:Okx S F k c X)
  (elt tg iter:Expr)(ifs:List Expr)(scope:Yl)(pos:XD){m:MI}(u:PI X tg iter (iY X.K m)):QE X (.ListComp elt [⟨tg,iter,ifs,0⟩] scope pos) (jW m n o c elt tg iter ifs scope):=by
 unfold jW;split
 ·rename_i x l;split
  ·rename_i h;rw[VW]at h;refine⟨λi s w H Q I q=>?_⟩;exact Nn ((sM O h.1).1.ok I.ok) O.calm u (λd v z=>(vP O l h.1 [] 0 s H []).2 d v z) (λC b a j=>(vP O l h.1 _ C b a j).1) (λC b a j=>(Fo (r _ _ (O.comp h.1)) _).h) (λC b a j=>(p _ _ (O.comp h.1) _).h) (Fq h.2) i s w H Q I q
  ·exact bJ
 ·exact bJ
theorem Q3{S:Sig}{F:Str->MF}{k:Nat}{d:Cs->Expr->ME}{h:Cs->Expr->MT}(a:∀c X,Okx S F k c X->∀e,QE X e (d c e))(b:∀c X,Okx S F k c X->∀e,QT X e (h c e))(c:Cs)(X:Cx)(O:Okx S F k c X)
  (elt tg iter:Expr)(ifs:List Expr)(scope:Yl)(pos:XD):QE X (.ListComp elt [⟨tg,iter,ifs,0⟩] scope pos) (Ah S d h c elt tg iter ifs scope):=by
 unfold Ah;split
 ·exact PR (vQ a b c X O elt tg iter ifs scope pos ((zS (a c X O iter)).h tg)) (vQ a b c X O elt tg iter ifs scope pos (pY O (a c X O) tg iter))
 exact vQ a b c X O elt tg iter ifs scope pos (pY O (a c X O) tg iter)
theorem Q4{S:Sig}{F:Str->MF}{k:Nat}{c:Cs}{X:Cx}(O:Okx S F k c X){a b:Expr}{h i:ME}(d:QE X a h)(e:QE X b i)(op:Zf)(pos:XD):QE X (.Compare a [op] [b] pos) (pW op h i):=by
 unfold pW;split
 ·exact Qh O.room d e
 ·exact Qi O.room d e
 ·exact bJ
theorem Q5{S:Sig}{F:Str->MF}{k:Nat}{c:Cs}{X:Cx}(O:Okx S F k c X){a b:Expr}{h i:ME}(d:QE X a h)(e:QE X b i)(op:Zf)(pos:XD):QT X (.Compare a [op] [b] pos) (aN (pW op h i)):=by
 unfold pW;split
 ·exact Qj O.room d e
 ·exact Qk O.room d e
 ·exact⟨λj s r H Q I q=>by
   obtain⟨o,p,n,b,m,R,E,l,k⟩:=q;cases l⟩
section
variable{S:Sig}{F:Str->MF}{k:Nat}{c:Cs}{X:Cx}{r:Expr->ME}
theorem Q6(v:Const)(n:Nat)(p:XD):QE X (.Constant v n p) (vM v):=by cases v<;>first|exact Dy|exact Dz|exact DA|exact DB|exact bJ
theorem Q7(b:∀e,QE X e (r e))(op:UnaryOp)(a:Expr)(p:XD):QE X (.UnaryOp op a p) (Fe (r a) op):=by cases op<;>first|exact Mj (b _)|exact DD (b _)|exact bJ
theorem Q8(O:Okx S F k c X)(b:∀e,QE X e (r e))(a:Expr)(ops:List Zf)(bs:List Expr)(p:XD):QE X (.Compare a ops bs p) (Ai S r a ops bs):=by
 unfold Ai;split
 ·split
  ·exact Q4 O (b _) (b _) _ _
  ·exact QH O (b _) (b _) _ _
 ·split
  ·rename_i d h;exact OI d h (b _) (b _) (b _)
  ·exact bJ
 ·exact bJ
theorem Q9(O:Okx S F k c X)(b:∀e,QE X e (r e))(a:List (Option Expr))(vs:List Expr)(p:XD):QE X (.Dict a vs p) (Aj r a vs):=by
 unfold Aj;try split
 ·exact Pm
 ·exact bJ
theorem Rb(O:Okx S F k c X)(d:∀e,QE X e (r e))(a b:Expr)(p:XD):QE X (.Subscript a b p) (Ak S r c a b):=by
 unfold Ak;split
 ·exact MC (d _) (sJ d _) (sJ d _)
 ·exact OU (d _) (sJ d _) (sJ d _) (sJ d _)
 ·split
  ·rename_i h
   ·exact PD O.room (d _) (d _) h
  ·exact bJ
theorem Av(a:∀e,QE X e (r e))(e:Expr):QT X e (sI r e):=by
 unfold sI;split
 ·rename_i h;exact NG (a _) h
 ·exact y6
theorem Rc(O:Okx S F k c X)(b:∀e,QE X e (r e))(a:Expr)(ops:List Zf)(bs:List Expr)(p:XD):QT X (.Compare a ops bs p) (Aq S r a ops bs p):=by
 unfold Aq;split
 ·split
  ·exact Q5 O (b _) (b _) _ _
  ·exact QK O (b _) (b _) _ _
 ·split
  ·rename_i d h;exact OJ d h (b _) (b _) (b _)
  ·exact y6
 ·exact Av b _
theorem Rf(a:∀e,QE X e (r e))(es:List Expr)(n:Nat)(p:XD):QE X (.Tuple es n p) (Al r es):=by
 unfold Al;split
 ·rename_i h;exact Mx (eV a _ h)
 ·exact bJ
theorem Rg(a:∀e,QE X e (r e))(es:List Expr)(p:XD):QE X (.List es p) (Am r es):=by
 unfold Am;split
 ·rename_i h;exact DE (eV a _ h)
 ·exact bJ
theorem Rh(O:Okx S F k c X)(b:∀e,QE X e (r e))(f:Expr)(args:List Expr)(a:List YE)(p:XD):QE X (.Call f args a p) (An S F r c f args p a):=by
 unfold An;split
 ·exact Q2 O b _ _ _
 ·exact QM O b _ _ _ _ _ _ _ _ _
 ·exact bJ
theorem Ri(gl:∀{x:Str},glob c x=c7->Gl X x/\(x==("__debug__":Str))=c6) (no:∀x,S.no.contains x=c7->X.mg x=c4)(w:XcOk S X.K){a:Expr}{m:ME}(J:QE X a m){d:Str}{R T p:XD}(q:(S.sup.lookup d).isSome=c7\/d="ValueError") :
  QE X (.Call (.Name "isinstance" R) [a,.Name d T] [] p) (if glob c "isinstance" && S.no.contains "isinstance" && glob c d&&b9 a&&(!(d=="ValueError")||S.no.contains "ValueError")then dY (λx=>(S.sup.lookup x).map λe=>e.contains d) m else bE):=by
 split
 ·rename_i h;rw[VW,VW,VW,VW]at h;obtain⟨⟨⟨⟨A,B⟩,o⟩,E⟩,N⟩:=h;have K:∀n,(∀x e,S.sup.lookup x=b4 e->l7 X.K n x=b4 (e.contains d))->∀x b,(S.sup.lookup x).map (λe=>e.contains d)=b4 b->l7 X.K n x=b4 b:=λn j x b O=>by obtain⟨e,M,g2⟩:=VZ.mp O;rw[<- g2];exact j x e M
  by_cases j:d="ValueError"
  ·subst j;refine D6 (cv:=.type "ValueError") J E (gl A).1 (no _ B) (λl s U H Q I z=>?_) (K _ λx e g=>w.isv x e g);have u:S.no.contains "ValueError"=true:=by simpa using N
   exact jL I (gl o).1 (no _ u) a3H z
  ·have hc:=q.resolve_right j;obtain⟨y,v⟩:=Xc.mp hc;obtain⟨C,G,_⟩:=w.isx d y d v hc;refine D6 (cv:=.ref C) J E (gl A).1 (no _ B) (λl s U H Q I z=>?_) (K _ λx e g=>?_)
   ·exact jK I (gl o).1 (YI I.mod.kin I.mod.glob (rW G)) z (gl o).2
   ·obtain⟨Y,i,L⟩:=w.isx x e d g hc;rw[G]at i;cases i;exact L
 ·exact bJ
end
theorem Rj{S:Sig}{F:Str->MF}{k:Nat}{c:Cs}{X:Cx}(O:Okx S F k c X){o:Expr}{m:ME}{a:Str}{p:XD}(h:QE X o m):QE X (.Attribute o a p) (if dE o then(match S.ob.lookup a with|some x=>fG x a m|none=>bE)else bE):=by
 split
 ·rename_i i;split
  ·rename_i y j;obtain⟨C,b,d,e⟩:=O.ob a y j;exact Oh h i b d e
  ·exact bJ
 ·exact bJ
theorem Ft{S:Sig}{F:Str->MF}{k:Nat}{q:Cs->Expr->ME}{r:Cs->Expr->MT}(A:∀c X,Okx S F k c X->∀e,QE X e (q c e))(B:∀c X,Okx S F k c X->∀e,QT X e (r c e))(c:Cs)(X:Cx)(O:Okx S F k c X) :
  (∀e,QE X e (Ff S F q r c e))/\∀e,QT X e (Fg S q r c e):=by
 have d:=A c X O;have w:=B c X O;constructor
 ·intro e;cases e with
  |Name x p=>exact QD O _ _|Constant v n p=>exact Q6 v n p|BinOp a j b p=>exact QF (d _) (d _) _ _|UnaryOp j a p=>exact Q7 d j a p|Compare a h bs p=>exact Q8 O d a h bs p|BoolOp j z p=>exact Ar d _ _ _|IfExp t a b p=>exact Mu (w _) (d _) (d _)|Tuple u n p=>exact Rf d u n p|List u p=>exact Rg d u p|Dict G z p=>exact Q9 O d G z p|Subscript a b p=>exact Rb O d a b p|Call f l y m=>exact Rh O d f l y m|Attribute o a p=>exact Rj O (d _)|ListComp s E i p=>
   show QE X _ (Ao S q r c s i E);unfold Ao;split
   ·exact Q3 A B c X O _ _ _ _ _ _
   ·exact bJ
  |_=>exact bJ
 ·intro e;cases e with
  |BoolOp j z p=>exact M0 (Fi w _ _ _)|UnaryOp j a p=>
   cases j;case Not=>exact MV (w _)
   all_goals exact Av d _
  |Compare a h bs p=>exact Rc O d a h bs p|_=>exact Av d _
theorem sN{S:Sig}{F:Str->MF}{k:Nat}:∀(n:Nat),(∀c X,Okx S F k c X->∀e,QE X e ((tr S F n).1 c e))/\∀c X,Okx S F k c X->∀e,QT X e ((tr S F n).2 c e)
 |0=>⟨λc X O e=>bJ,λc X O e=>y6⟩|n+1=>by have a:=sN (S:=S) (F:=F) (k:=k) n;exact⟨λc X O e=>(Ft a.1 a.2 c X O).1 e,λc X O e=>(Ft a.1 a.2 c X O).2 e⟩
end L3
namespace L3
open PySem L2
noncomputable def vT:MG:=λ_ _ _=>c4
noncomputable def sO(c:Cs):List Expr->Option (List Nat)
 |[]=>b4 []|.Name x _::r=>if iM c x then(gC x c.N).bind λi=>(sO c r).map (i::·)else c4|_=>c4
noncomputable def pZ(c:Cs):Expr->MG
 |.Name x _=>if iM c x then(match gC x c.N with|some i=>dQ i|none=>vT)else vT|.Tuple es _ _=>match sO c es with|some a=>f7 a|none=>vT
 |_=>vT
noncomputable def gO(r:Stmt->MS):List Stmt->MS
 |[]=>a8|[s]=>r s|s::t=>aI (r s) (gO r t)
noncomputable def Aw(S:Sig)(E:Cs->Expr->ME)(T:Cs->Expr->MT)(c:Cs)(i:Nat):Expr->MS
 |.ListComp elt [⟨tg,iter,ifs,0⟩] scope _=>match zZ S c tg iter with
  |some j=>eN j (aK i (jW (iA (E c iter)) E T c elt tg iter ifs scope)) (aK i (jW (mI S (E c) c tg iter) E T c elt tg iter ifs scope))|none=>aK i (jW (mI S (E c) c tg iter) E T c elt tg iter ifs scope)
 |_=>bP
noncomputable def Ax(S:Sig)(E:Cs->Expr->ME)(T:Cs->Expr->MT)(c:Cs)(tg e:Expr):MS:=match tg with
 |.Name y _=>if iM c y then(match gC y c.N with
   |some i=>if eK e then aK i (E c e)else Aw S E T c i e
   |none=>bP)else bP
 |.Tuple es _ _=>if yZ e then(match sO c es with|some b=>lU (E c e) (f7 b)|none=>bP)
   else bP
 |.Subscript o i _=>if eK e&&o8 i then dR (E c o) (E c i) (E c e)else bP|.Attribute o a _=>match S.ob.lookup a with|some x=>if eK e then i8 x a (E c o) (E c e)else bP|none=>bP
 |_=>bP
noncomputable def Ay(S:Sig)(c:Cs)(tg:Expr):Expr->Option (Nat×Expr×XD×XD)
 |.Call g [] [] cpos=>match g with
  |.Attribute o m apos=>match tg with
   |.Tuple ..=>if m="items" then(E6 S c o).map λj=>(j,o,apos,cpos)else c4|_=>c4
  |_=>c4
 |_=>c4
theorem Rk{S:Sig}{c:Cs}{tg e:Expr}{q:Nat×Expr×XD×XD}(h:Ay S c tg e=b4 q):e=.Call (.Attribute q.2.1 "items" q.2.2.1) [] [] q.2.2.2/\∃es b p,tg=.Tuple es b p:=by
 unfold Ay at h;split at h
 ·split at h
  ·split at h
   ·split at h
    ·rename_i a;obtain⟨j,_,rfl⟩:=VZ.mp h;rw[a];exact⟨rfl,_,_,_,rfl⟩
    ·cases h
   ·cases h
  ·cases h
 ·cases h
noncomputable def Fu(S:Sig)(E:Cs->Expr->ME)(T:Cs->Expr->MT)(c:Cs)(r:Stmt->MS):Stmt->MS
 |.Return (b4 e) _=>a6 (E c e)|.Return c4 _=>a6 (mC .non)|.If t a b _=>aX (T c t) (gO r a) (gO r b)|.Assign [tg] e _=>Ax S E T c tg e|.Expr e _=>if eK e then cP (E c e)else bP|.For tg iter body [] _=>if f9 iter then
  (match Ay S c tg iter with
  |some q=>if dE q.2.1&&(q.2.2.1.endLine==q.2.2.2.line)then eN q.1 (cW (k8 (E c q.2.1)) (pZ c tg) (gO r body)) bP else bP|none=>
  (match zZ S c tg iter with
  |some j=>eN j (cW (iA (E c iter)) (pZ c tg) (gO r body)) (cW (mI S (E c) c tg iter) (pZ c tg) (gO r body))
  |none=>cW (mI S (E c) c tg iter) (pZ c tg) (gO r body))
  )
  else bP
 |.Pass _=>a8|_=>bP
section
variable{S:Sig}{F:Str->MF}{k:Nat}{c:Cs}{X:Cx}
theorem Fv(a:X.env.scope.names=c.ks){x:Str}(h:iM c x=c7):L2.Loc X.env.scope x:=by unfold iM at h;rw[Y9]at h;unfold L2.Loc;rw[a];exact h.imp of_decide_eq_true of_decide_eq_true
theorem Okx.own(O:Okx S F k c X){x:Str}(h:iM c x=c7):L2.Loc X.env.scope x:=Fv O.ks h
theorem Az(O:Okx S F k c X)(b:∀x,X.fn x=c7):∀(es:List Expr)(a:List Nat),sO c es=b4 a->QGs X es a
 |[],a,h=>by cases h;exact DJ
 |e::es,a,h=>by
  cases e with
  |Name x p=>
   unfold sO at h;split at h
   ·rename_i l;obtain⟨i,d,h⟩:=VT.mp h;obtain⟨m,j,h⟩:=VZ.mp h;subst h;exact DK i O.nd (Az O b es m j) (by rw[O.N];exact k9 d) (O.own l) (.inl (b x))
   ·cases h
  |_=>cases h
theorem vU(O:Okx S F k c X)(b:∀x,X.fn x=c7)(e:Expr):QG X e (pZ c e):=by
 unfold pZ;split
 ·split
  ·rename_i d;split
   ·rename_i i a;exact Na i O.nd (by rw[O.N];exact k9 a) (O.own d) (.inl (b _))
   ·exact uS λ_ _ _=>rfl
  ·exact uS λ_ _ _=>rfl
 ·split
  ·rename_i h a;exact yY (Az O b _ h a) O.calm
  ·exact uS λ_ _ _=>rfl
 ·exact uS λ_ _ _=>rfl
theorem iC{r:Stmt->MS}(a:∀s,QS X s (r s)):∀b:List Stmt,QB X b (gO r b)
 |[]=>M5|[s]=>M7 (a s)|s::t::ts=>M6 (a s) (iC a (t::ts))
theorem Rl{elt tg iter:Expr}{ifs:List Expr}{scope:Yl}{pos py:XD}{y:Str}{n:Nat}{env:ZS} :
  ∃b:Bool,ZF (.ListComp elt [⟨tg,iter,ifs,0⟩] scope pos) (b4 (.Name y py)) n env=pure b/\(b=c7->env.kindOf y=b4 .local):=by
 refine⟨env.blockKind==.function&&env.kindOf y==b4 .local&&py.line==pos.line&&!(scope.names.any λ(n,k)=>n==y&&(k==.local||k==.cell)),rfl,λh=>?_⟩;simp only[VW,beq_iff_eq]at h;exact h.1.1.2
theorem AA(O:Okx S F k c X)(G:∀x,X.fn x=c7){E:Cs->Expr->ME}{T:Cs->Expr->MT}(u:∀c X,Okx S F k c X->∀e,QE X e (E c e))(v:∀c X,Okx S F k c X->∀e,QT X e (T c e))
  {i:Nat}{y:Str}{py l:XD}(w:X.N[i]?=b4 y)(J:iM c y=c7)(elt tg iter:Expr)(ifs:List Expr)(scope:Yl)(pos:XD){B:MI}(n:PI X tg iter (iY X.K B)):QS X (.Assign [.Name y py] (.ListComp elt [⟨tg,iter,ifs,0⟩] scope pos) l) (aK i (jW B E T c elt tg iter ifs scope)):=by
  obtain⟨b,m,r⟩:=Rl (elt:=elt) (tg:=tg) (iter:=iter) (ifs:=ifs) (scope:=scope) (pos:=pos) (py:=py) (y:=y) (n:=l.line) (env:=X.env);cases b with
  |false=>exact⟨C3 O.nd w (O.own J) (vQ u v c X O elt tg iter ifs scope pos n).h m (.inl (G y))⟩|true=>
   unfold jW;split
   ·rename_i M A;split
    ·rename_i h;rw[VW]at h;refine⟨λo s L H D I q=>?_⟩;exact Np ((sM O h.1).1.ok I.ok) O.nd O.calm n (λd K z=>(vP O A h.1 [] 0 s H []).2 d K z) (λC j a p=>(vP O A h.1 _ C j a p).1) (λC j a p=>(Fo (v _ _ (O.comp h.1)) _).h) (λC j a p=>(u _ _ (O.comp h.1) _).h) (Fq h.2) w (r rfl) m o s L H D I q
    ·exact Ek
   ·exact Ek
theorem Rm(O:Okx S F k c X)(h:∀x,X.fn x=c7){E:Cs->Expr->ME}{T:Cs->Expr->MT}(a:∀c X,Okx S F k c X->∀e,QE X e (E c e))(d:∀c X,Okx S F k c X->∀e,QT X e (T c e))
  {i:Nat}{y:Str}{py b:XD}(j:X.N[i]?=b4 y)(l:iM c y=c7)(e:Expr):QS X (.Assign [.Name y py] e b) (Aw S E T c i e):=by
 unfold Aw;split
 ·split
  ·exact zQ (AA O h a d j l _ _ _ _ _ _ ((zS (a c X O _)).h _)) (AA O h a d j l _ _ _ _ _ _ (pY O (a c X O) _ _))
  ·exact AA O h a d j l _ _ _ _ _ _ (pY O (a c X O) _ _)
 ·exact cM
theorem Rn(O:Okx S F k c X)(d:∀x,X.fn x=c7){E:Cs->Expr->ME}{T:Cs->Expr->MT}(a:∀c X,Okx S F k c X->∀e,QE X e (E c e))(q:∀c X,Okx S F k c X->∀e,QT X e (T c e))(tg e:Expr)(pos:XD) :
  QS X (.Assign [tg] e pos) (Ax S E T c tg e):=by
 unfold Ax;split
 ·split
  ·rename_i m;split
   ·rename_i i j;have b:=k9 j;rw[<- O.N]at b;split
    ·rename_i l;exact yX i O.nd (a c X O e) l b (O.own m) (.inl (d _))
    ·exact Rm O d a q b m e
   ·exact cM
  ·exact cM
 ·split
  ·rename_i l;split
   ·rename_i s j;exact Nc (a c X O e) (yY (Az O d _ s j) O.calm) l
   ·exact cM
  ·exact cM
 ·split
  ·rename_i h;rw[VW]at h;exact PN O.room (a c X O _) (a c X O _) (a c X O _) h.1
  ·exact cM
 ·split
  ·rename_i y r;split
   ·rename_i h;obtain⟨C,n,o,p⟩:=O.ob _ y r;exact Oi (a c X O _) (a c X O _) h n o p
   ·exact cM
  ·exact cM
 ·exact cM
theorem Ro(O:Okx S F k c X)(l:∀x,X.fn x=c7){E:Cs->Expr->ME}{T:Cs->Expr->MT}(i:∀c X,Okx S F k c X->∀e,QE X e (E c e))(w:∀c X,Okx S F k c X->∀e,QT X e (T c e)){r:Stmt->MS}(j:∀s,QS X s (r s))(st:Stmt) :
  QS X st (Fu S E T c r st):=by
 cases st with
 |Return o p=>
  cases o with
  |none=>exact NI|some e=>exact DH (i c X O _)
 |If t a b p=>exact DI (w c X O _) (iC j _) (iC j _)|Assign u e p=>
  cases u with
  |nil=>exact cM|cons G H=>
   cases H with
   |nil=>exact Rn O l i w _ _ _|cons _ _=>exact cM
 |Expr e p=>
  show QS X _ (if eK e then cP (E c e)else bP);split
  ·rename_i h;exact M9 (i c X O _) h
  ·exact cM
 |For G m v d p=>
  cases d with
  |cons _ _=>exact cM|nil=>
   show QS X _ (if f9 m then _ else bP);split
   ·rename_i h;split
    ·rename_i q A;split
     ·rename_i n;rw[VW]at n;obtain⟨e,z,B,pt,y⟩:=Rk A;rw[e]at h ⊢;subst y;exact zQ (u9 ((Qp (i c X O _) n.1 n.2).h z B pt) (vU O l _) (iC j _) O.never O.calm h) cM
     ·exact cM
    split
    ·exact zQ (u9 ((zS (i c X O _)).h _) (vU O l _) (iC j _) O.never O.calm h) (u9 (pY O (i c X O) _ _) (vU O l _) (iC j _) O.never O.calm h)
    exact u9 (pY O (i c X O) _ _) (vU O l _) (iC j _) O.never O.calm h
   ·exact cM
 |Pass p=>exact M8|_=>exact cM
end
noncomputable def bV(st:Stmt):List Str:=(fQ st).args.map (·.arg)
noncomputable def eH(st:Stmt):List Str:=bV st++(bN st).names.filterMap λy=>if(y.2==NameKind.local||y.2==YA)&&!(bV st).contains y.1 then b4 y.1 else c4
noncomputable def jD(st:Stmt):Bool:=
 decide ((bN st).kind=.function)&&!(bN st).isCoroutine&&!(bN st).isGenerator&&decide (eH st).Nodup &&
 ((bV st).all λx=>decide ((bN st).names.lookup x=b4 .local)||decide ((bN st).names.lookup x=b4 .cell))&&((bN st).names.all λy=>decide (y.2≠.free))
theorem Fw{st:Stmt}(h:jD st=c7):FnScope (eH st) (bV st) (bN st):=by unfold jD at h;simp only[VW,decide_eq_true_eq,Zj,XB,Y9]at h;obtain⟨⟨⟨⟨⟨a,b⟩,c⟩,d⟩,e⟩,i⟩:=h;exact⟨a,b,c,d,by unfold eH;simp,e,i⟩
noncomputable def qA:Nat:=40
noncomputable def qB:Nat:=40
noncomputable def AB(S:Sig)(G:Str->RF)(E:Expr->ME)(o:Expr)(m:Str)(a:XD)(args:List Expr)(p:XD):MR:=match S.md.lookup m with
 |some d=>if dE o&&(a.endLine==p.line)&&args.all b9&&decide (args.length=d.2.2.1)&&(!args.isEmpty&&decide (args.length<30))&&S.rz.contains d.2.1 then eE d.1 m (rY d.2.2.2 (G d.2.1)) (E o) (dM E args)else bD|none=>bD
noncomputable def AD(S:Sig)(G:Str->RF)(E:Expr->ME)(o:Expr)(m:Str)(b:XD)(a:Expr)(p:XD)(k1 k2:Str)(c d:Expr):MR:=match S.mw.lookup m with
 |some q=>if dE o&&(b.endLine==p.line)&&b9 a&&(k1==q.2.2.1&&k2==q.2.2.2)&&S.rz.contains q.2.1 then eE q.1 m (u3 (G q.2.1)) (E o) (aB (E a) (aB (E c) (aB (E d) aD)))else bD|none=>bD
noncomputable def AE(S:Sig)(G:Str->RF)(E:Expr->ME)(c:Cs)(x:Str)(args:List Expr):MR:=match S.mc.lookup x with
 |some q=>if glob c x&&decide (args.length=q.2)&&args.all b9&&!args.isEmpty&&S.rz.contains q.1 then kX x (G x) (dM E args)else bD|none=>bD
noncomputable def AF(S:Sig)(G:Str->RF)(E:Expr->ME)(o:Expr)(m:Str)(a:XD)(args:List Expr)(p:XD):MR:=match S.mt.lookup m with
 |some q=>if dE o&&(a.endLine==p.line)&&args.all b9&&decide (args.length=q.2.2)&&decide (args.length<30)&&S.rz.contains q.2.1 then eE q.1 m (G q.2.1) (E o) (dM E args)else
  AB S G E o m a args p
 |none=>bD
noncomputable def vV(S:Sig)(G:Str->RF)(E:Expr->ME)(c:Cs):Expr->MR
 |.Call f args kws p=>(match f,args,kws with
  |.Name x _,e::es,[]=>if glob c x&&decide (S.fn.lookup x=b4 (e::es).length)&&(e::es).all b9&&S.rz.contains x then lY (G x) (dM E (e::es))else
   AE S G E c x (e::es)
  |.Attribute o m apos,args,[]=>AF S G E o m apos args p|.Attribute o m apos,[a],[⟨b4 k1,e1,_⟩,⟨b4 k2,e2,_⟩]=>AD S G E o m apos a p k1 k2 e1 e2
  |_,_,_=>bD)
 |_=>bD
noncomputable def AG:Expr->Option Expr
 |.List es _=>(match es with|[e]=>b4 e|_=>c4)|_=>c4
theorem Rq{e a:Expr}(h:AG e=b4 a):∃p,e=.List [a] p:=by
 unfold AG at h;split at h
 ·split at h
  ·cases h;exact⟨_,rfl⟩
  ·cases h
 ·cases h
noncomputable def nV(S:Sig)(G:Str->RF)(E:Expr->ME)(c:Cs)(e:Expr):MR:=match AG e with
 |some a=>if b9 a then vV S G E c a else bD|none=>vV S G E c e
noncomputable def vW:Option Expr->Option (Str×List Expr)
 |some (.Call f args kws _)=>(match f,kws with
  |.Name x _,[]=>b4 (x,args)
  |_,_=>c4)
 |_=>c4
theorem Rt{e:Option Expr}{x:Str}{args:List Expr}(h:vW e=b4 (x,args)):∃p q,e=b4 (.Call (.Name x p) args [] q):=by
 unfold vW at h;split at h
 ·split at h
  ·cases h;exact⟨_,_,rfl⟩
  ·cases h
 ·cases h
noncomputable def vX(S:Sig)(k:Nat)(E:Expr->ME)(c:Cs)(x:Str)(args:List Expr):MR:=
 if glob c x then(match S.cls.lookup x with
  |some _=>bD
  |none=>(match args with
   |e::es=>if(S.sup.lookup x).isSome&&(e::es).all b9&&decide ((e::es).length<=30)then l6 x (dM E (e::es))else bD
   |[]=>bD)
  )else bD
noncomputable def qC(N:Stmt->MS)(r:Stmt->MR):List Stmt->MR
 |[]=>bD|s::t=>bX (N s) (r s) (qC N r t)
noncomputable def nW:List Expr->Bool
 |[t]=>(nU t).isSome|_=>c6
theorem Rw{tg:List Expr}(h:nW tg=c7):∃x p,tg=[.Name x p]:=by
 cases tg with
 |nil=>cases h|cons t a=>
  cases a with
  |cons _ _=>cases h|nil=>
   cases t with
   |Name x p=>exact⟨x,p,rfl⟩|_=>cases h
noncomputable def AH(S:Sig)(G:Str->RF)(k:Nat)(E:Expr->ME)(T:Expr->MT)(c:Cs)(N:Stmt->MS)(r:Stmt->MR):Stmt->MR
 |.Expr e _=>if eK e then nV S G E c e else bD|.Return (b4 e) _=>nV S G E c e|.Assign tg e _=>if nW tg&&eK e then nV S G E c e else bD|.If t a b _=>hV (T t) (qC N r a) (qC N r b)
 |.Raise e o _=>if o.isNone then(match vW e with
  |some q=>vX S k E c q.1 q.2
  |none=>bD)else bD
 |_=>bD
noncomputable def AI(S:Sig)(c:Cs):Expr->ME
 |.Name x _=>if kH c x then(match gC x c.N with|some i=>aA i|none=>bE)else bE|_=>bE
noncomputable def Fx(S:Sig)(U:Str->MF)(c:Cs)(r:Expr->ME)(f:Expr)(args:List Expr):ME:=match Ap S f args with
 |some q=>if glob c "isinstance" && S.no.contains "isinstance" && glob c q.2&&b9 q.1&&(!(q.2=="ValueError")||S.no.contains "ValueError")then dY (λx=>(S.sup.lookup x).map λb=>b.contains q.2) (r q.1)else bE
 |none=>(match f with
  |.Name g _=>(match args with
   |[a]=>if glob c g&&b9 a&&(S.uf.lookup g).isSome then aH (U g) (aB (r a) aD)else bE
   |_=>bE)
  |_=>bE)
noncomputable def AJ(S:Sig)(U:Str->MF)(q:Bool)(c:Cs)(d:Cs->Expr->ME)(r:Expr->ME):Expr->ME
 |.Constant v _ _=>vM v
 |.UnaryOp op a _=>(match op with
  |.Not=>kI (r a)
  |_=>bE)
 |.BoolOp op es _=>sG op (es.map r)
 |.Call f args kws _=>(match kws with
  |[]=>Fx S U c r f args
  |_=>bE)
 |.List es _=>if es.all b9 then bO (dM r es)else bE
 |.BinOp a op b _=>(match op with
  |.Add=>aC bM (r a) (r b)
  |_=>bE)
 |e=>AI S c e
noncomputable def mJ(S:Sig)(U:Str->MF):Nat->Bool->Cs->Expr->ME
 |0=>λ_ _ _=>bE|n+1=>λq c=>AJ S U q c (mJ S U n c6) (mJ S U n q c)
noncomputable def sP(c:Cs)(r:Expr->ME):Nat->Stmt->MS
 |0=>λ_=>bP|n+1=>λst=>match st with
  |.Return (b4 e) _=>a6 (r e)|.If t a b _=>if rP t then aX (aN (r t)) (gO (sP c r n) a) (gO (sP c r n) b)else bP
  |.Assign tg e _=>(match tg with
   |[t]=>(match nU t with
    |some y=>if iM c y&&eK e then(match gC y c.N with|some i=>aK i (r e)|none=>bP)else bP
    |none=>bP)
   |_=>bP)
  |_=>bP
noncomputable def nX:Nat:=9
noncomputable def AK(S:Sig)(q:Bool)(st:Stmt):MF:=rL (eH st).length (gO (sP ⟨eH st,(bN st).names⟩ (mJ {S with uf:=[]} (λ_ _ _=>c4) nX q ⟨eH st,(bN st).names⟩) nX) (dC st))
noncomputable def jE(S:Sig)(x:Str):MF:=match S.uf.lookup x with
 |some st=>AK S c6 st|none=>λ_ _=>c4
noncomputable def Fy(S:Sig)(c:Cs):Stmt->MS
 |.Assign tg e _=>(match tg with
  |[t]=>(match nU t with
   |some y=>if iM c y&&eK e then(match gC y c.N with|some i=>aK i (mJ S (jE S) nX c6 c e)|none=>bP)else bP
   |none=>bP)
  |_=>bP)
 |_=>bP
noncomputable def AL(S:Sig)(c:Cs)(y:Str)(st:List Stmt):MS:=
 gO (Fy S c) st
noncomputable def AM:List a3f->Option (Str×Str×List Stmt)
 |[.ExceptHandler (b4 t) (b4 y) (b::bs) _]=>(match t with
  |.Name cn _=>b4 (cn,y,b::bs)
  |_=>c4)
 |_=>c4
theorem Ry{a:List a3f}{q:Str×Str×List Stmt}(h:AM a=b4 q):∃p c b bs,a=[.ExceptHandler (b4 (.Name q.1 p)) (b4 q.2.1) (b::bs) c]/\q.2.2=b::bs:=by
 unfold AM at h;split at h
 ·split at h
  ·cases h;exact⟨_,_,_,_,rfl,rfl⟩
  ·cases h
 ·cases h
noncomputable def Fz(S:Sig)(c:Cs)(N:Stmt->MS)(r:Stmt->MR)(body:List Stmt)(a:List a3f):MS:=match AM a with
 |some q=>if glob c q.1&&(S.sup.lookup q.1).isSome&&decide (c.ks.lookup q.2.1=b4 .local)then(match gC q.2.1 c.N with
  |some i=>jU (gO N body) (qC N r body) (λx=>(S.sup.lookup x).map λb=>b.contains q.1) i (AL S c q.2.1 q.2.2)
  |none=>bP)else bP
 |none=>bP
noncomputable def AN(S:Sig)(E:Cs->Expr->ME)(T:Cs->Expr->MT)(c:Cs)(N:Stmt->MS)(r:Stmt->MR):Stmt->MS
 |.Try body hs [] [] _=>Fz S c N r body hs|st=>Fu S E T c N st
noncomputable abbrev Rz:=@AH
noncomputable def iD(S:Sig)(F:Str->MF)(G:Str->RF)(k m:Nat)(c:Cs):Nat->(Stmt->MS)×(Stmt->MR)
 |0=>(λ_=>bP,λ_=>bD)|n+1=>(AN S (tr S F m).1 (tr S F m).2 c (iD S F G k m c n).1 (iD S F G k m c n).2,Rz S G k ((tr S F m).1 c) ((tr S F m).2 c) c (iD S F G k m c n).1 (iD S F G k m c n).2)
noncomputable abbrev vY(l:Bool)(L:List (Str×Stmt))(U:Str->MF)(X:Cx):Prop:=∀x,(L.lookup x).isSome=c7->∃(f:Addr)(a:W8)(ps:List Str),FnU l X.prog X.w X.K X.mg X.base f a ps (cT X.K 1 (U x))/\X.mg x=b4 (.ref f)/\Xe X.K (.ref f)=c7/\Binds X.K a ps []
structure Okr(S:Sig)(F:Str->MF)(G:Str->RF)(k:Nat)(c:Cs)(Y:Cx):Prop where
 o:Okx S F k c Y.nox
 ex:Y.ex=[]
 st:Y.stack=Y.env::Y.outer
 fr:∃L,Y.env.frame=b4 L
 own:∀x,Y.fn x=c7
 rf:∀x n,S.fn.lookup x=b4 n->∃(f:Addr)(fd:W8)(ps:List Str),FnOk Y.prog Y.w Y.K Y.mg Y.base (dX Y.prog Y.w) k f fd ps (eD Y.K n (G x))/\Y.mg x=b4 (.ref f)/\Xe Y.K (.ref f)=c7/\Binds Y.K fd ps []
 rt:∀m x y n,S.mt.lookup m=b4 (x,y,n)->∃(C g:Addr)(fd:W8)(ps:List Str),CAt Y.K x C/\Cls Y.K C/\Meth Y.K C m g/\FnOk Y.prog Y.w Y.K Y.mg Y.base (dX Y.prog Y.w) k g fd ps (eD Y.K (n+1) (G y))/\Binds Y.K fd ps []
 rd:∀m x y n ex,S.md.lookup m=b4 (x,y,n,ex)->∃(C g:Addr)(fd:W8)(ps:List Str)(dvs:List V)(dsV:List Value),CAt Y.K x C/\Cls Y.K C/\Meth Y.K C m g/\FnOk Y.prog Y.w Y.K Y.mg Y.base (dX Y.prog Y.w) k g fd ps (eD Y.K (n+1+ex.length) (G y))/\Binds Y.K fd ps dsV/\Vals dvs dsV/\mD Y.K dvs ex
 rk:∀m x y k1 k2,S.mw.lookup m=b4 (x,y,k1,k2)->∃(C g:Addr)(fd:W8)(ps:List Str),CAt Y.K x C/\Cls Y.K C/\Meth Y.K C m g/\FnOk Y.prog Y.w Y.K Y.mg Y.base (dX Y.prog Y.w) k g fd ps (eD Y.K 4 (G y))/\KBinds Y.K fd ps [k1,k2] g2 g2
 rc:∀x y n,S.mc.lookup x=b4 (y,n)->(∀ds μ,G x ds μ=c4)\/∃(k':Nat)(C g:Addr)(fd:W8)(ps:List Str),k=k'+1/\CAt Y.K x C/\Mk Y.K C g/\FnOk Y.prog Y.w Y.K Y.mg Y.base (dX Y.prog Y.w) k' g fd ps (eD Y.K (n+1) (G x))/\Binds Y.K fd ps []
 uf:vY c6 S.uf (jE S) Y
section
variable{S:Sig}{F:Str->MF}{G:Str->RF}{k:Nat}{c:Cs}{Y:Cx}
theorem RA(O:Okr S F G k c Y){E:Expr->ME}(i:∀e,QE Y.nox e (E e))(o:Expr)(m:Str)(a:XD)(args:List Expr)(p:XD):QRE Y (.Call (.Attribute o m a) args [] p) (AB S G E o m a args p):=by
 unfold AB;split
 ·rename_i d hd;split
  ·rename_i h;simp only[VW,decide_eq_true_eq]at h;obtain⟨⟨⟨⟨⟨w,x⟩,y⟩,z⟩,A,B⟩,_⟩:=h;obtain⟨C,g,I,J,v,u,j,l,n,b,q,r,s⟩:=O.rd m d.1 d.2.1 d.2.2.1 d.2.2.2 hd;rw[<- z]at b;cases args with
   |nil=>exact absurd A (by simp)|cons e H=>exact OD s r O.ex (i o) w x j l n b O.o.room q (eV i _ y) B
  ·exact i7
 ·exact i7
theorem RB(O:Okr S F G k c Y){E:Expr->ME}(d:∀e,QE Y.nox e (E e))(o:Expr)(m:Str)(b:XD)(a:Expr)(p B H:XD)(k1 k2:Str)(i j:Expr):QRE Y (.Call (.Attribute o m b) [a] [⟨b4 k1,i,B⟩,⟨b4 k2,j,H⟩] p) (AD S G E o m b a p k1 k2 i j):=by
 unfold AD;split
 ·rename_i q A;split
  ·rename_i h;simp only[VW,beq_iff_eq (a:=k1),beq_iff_eq (a:=k2)]at h;obtain⟨⟨⟨⟨v,w⟩,x⟩,y,z⟩,_⟩:=h;subst y z;obtain⟨C,g,I,J,l,n,r,s,u⟩:=O.rk m q.1 q.2.1 q.2.2.1 q.2.2.2 A;exact OF O.ex (d o) v w l n r s O.o.room u (d _) (d _) (d _) x
  ·exact i7
 ·exact i7
theorem RC(O:Okr S F G k c Y){E:Expr->ME}(o:∀e,QE Y.nox e (E e))(x:Str)(args:List Expr)(q p:XD):QRE Y (.Call (.Name x q) args [] p) (AE S G E c x args):=by
 unfold AE;split
 ·rename_i d hd;split
  ·rename_i h;simp only[VW,decide_eq_true_eq]at h;obtain⟨⟨⟨⟨i,j⟩,l⟩,m⟩,_⟩:=h;cases args with
   |nil=>exact absurd m (by simp)|cons e b=>
    rcases O.rc x d.1 d.2 hd with s|⟨w,C,v,u,y,rfl,n,M,a,r⟩
    ·have:kX x (G x) (dM E (e::b))=bD:=by
      funext ρ μ;unfold kX;cases dM E (e::b) ρ μ with
      |none=>rfl|some p=>simp only[Wl,s,Option.map_none];rfl
     rw[this];exact i7
    ·rw[<- j]at a;exact OE O.ex M n a O.o.room (O.o.gl i).1 r (eV o _ l) (O.o.gl i).2
  ·exact i7
 ·exact i7
theorem RD(O:Okr S F G k c Y){E:Expr->ME}(b:∀e,QE Y.nox e (E e))(o:Expr)(m:Str)(a:XD)(args:List Expr)(p:XD):QRE Y (.Call (.Attribute o m a) args [] p) (AF S G E o m a args p):=by
 unfold AF;split
 ·rename_i q x;split
  ·rename_i h;simp only[VW,decide_eq_true_eq]at h;obtain⟨⟨⟨⟨⟨r,s⟩,u⟩,v⟩,w⟩,_⟩:=h;obtain⟨C,g,z,A,i,j,l,d,n⟩:=O.rt m q.1 q.2.1 q.2.2 x;rw[<- v]at d;cases args with
   |nil=>exact Ou O.ex (b o) r s i j l d O.o.room n|cons e y=>exact Ot O.ex (b o) r s i j l d O.o.room n (eV b _ u) w
  ·exact RA O b o m a args p
 ·exact i7
theorem FA(O:Okr S F G k c Y){E:Expr->ME}(a:∀e,QE Y.nox e (E e))(e:Expr):QRE Y e (vV S G E c e):=by
 unfold vV;split
 ·split
  ·split
   ·rename_i h;rw[VW,VW,VW,decide_eq_true_eq]at h;obtain⟨⟨⟨b,d⟩,i⟩,_⟩:=h;obtain⟨f,o,p,j,l,m,n⟩:=O.rf _ _ d;exact NV O.ex j O.o.room (O.o.gl b).1 l m n (eV a _ i) (O.o.gl b).2
   ·exact RC O a _ _ _ _
  ·exact RD O a _ _ _ _ _
  ·exact RB O a _ _ _ _ _ _ _ _ _ _ _
  ·exact i7
 ·exact i7
theorem AO(O:Okr S F G k c Y){E:Expr->ME}(b:∀e,QE Y.nox e (E e))(e:Expr):QRE Y e (nV S G E c e):=by
 unfold nV;split
 ·rename_i a d;obtain⟨p,rfl⟩:=Rq d;split
  ·rename_i h;exact Ov (FA O b a) h
  ·exact i7
 ·exact FA O b e
theorem RE(O:Okr S F G k c Y){E:Expr->ME}(l:∀e,QE Y.nox e (E e))(x:Str)(args:List Expr)(p q pos:XD):QR Y (.Raise (b4 (.Call (.Name x p) args [] q)) c4 pos) (vX S k E c x args):=by
 unfold vX;split
 ·rename_i a;split
  ·exact i0
  ·rename_i m;split
   ·split
    ·rename_i h;rw[VW,VW,decide_eq_true_eq]at h;obtain⟨⟨b,d⟩,i⟩:=h;obtain⟨o,n⟩:=Xc.mp b;obtain⟨C,j⟩:=O.o.xc.plain x o n m;exact N0 j O.ex O.o.calm (O.o.gl a).1 (eV l _ d) i (O.o.gl a).2
    ·exact i0
   ·exact i0
 ·exact i0
theorem sQ{N:Stmt->MS}{r:Stmt->MR}(a:∀s,QS Y.nox s (N s))(b:∀s,QR Y s (r s)):∀d:List Stmt,QRB Y d (qC N r d)
 |[]=>NT|s::t=>NS (a s) (b s) (sQ a b t)
theorem RG(O:Okr S F G k c Y){E:Expr->ME}{T:Expr->MT}(d:∀e,QE Y.nox e (E e))(m:∀e,QT Y.nox e (T e)){N:Stmt->MS}{r:Stmt->MR}(j:∀s,QS Y.nox s (N s))(l:∀s,QR Y s (r s))(st:Stmt):QR Y st (AH S G k E T c N r st):=by
 cases st with
 |Expr e p=>
  show QR Y _ (if eK e then nV S G E c e else bD);split
  ·rename_i h;exact NP (AO O d _) h
  ·exact i0
 |Return o p=>
  cases o with
  |none=>exact i0|some e=>exact NQ (AO O d _)
 |Assign u e p=>
  show QR Y _ (if nW u&&eK e then nV S G E c e else bD);split
  ·rename_i h;rw[VW]at h;obtain⟨x,p,rfl⟩:=Rw h.1;exact NR (AO O d _) h.2
  ·exact i0
 |If t a b p=>exact NU (m _) (sQ j l _) (sQ j l _)|Raise e o p=>
  cases o with
  |some _=>exact i0|none=>
   show QR Y _ (match vW e with
    |some q=>vX S k E c q.1 q.2
    |none=>bD)
   split
   ·rename_i q n;obtain⟨x,i⟩:=q;obtain⟨v,w,rfl⟩:=Rt n;exact RE O d _ _ _ _ _
   ·exact i0
 |_=>exact i0
theorem RH{X:Cx}(l:X.N=c.N)(m:X.env.scope.names=c.ks)(o:XcOk S X.K)(e:Expr):QE X e (AI S c e):=by
 have n:∀x p i,kH c x=c7->gC x c.N=b4 i->QE X (.Name x p) (aA i):=λx p i h a=>by obtain⟨b,d,j⟩:=Fh m h;exact Dx i (by rw[l];exact k9 a) b d j
 unfold AI;split
 ·split
  ·rename_i h;split
   ·rename_i i a;exact n _ _ i h a
   ·exact bJ
  ·exact bJ
 ·exact bJ
structure Okw(S:Sig)(U:Str->MF)(q:Bool)(c:Cs)(X:Cx):Prop where
 N:X.N=c.N
 nd:X.N.Nodup
 ks:X.env.scope.names=c.ks
 kind:X.env.scope.kind=.function
 no:∀x,S.no.contains x=c7->X.mg x=c4
 xc:XcOk S X.K
 uf:vY c6 S.uf U X
 hd:S.uf≠[]->X.A.depth<Z2
 sf:q=c7->zF X
theorem trK_ok'{X:Cx}(v:Const)(j:Nat)(pos:XD):QE X (.Constant v j pos) (vM v):=by
 cases v with
 |int i=>exact Dy|bool b=>exact Dz|str s=>exact DA|none=>exact DB|_=>exact bJ
theorem AQ{U:Str->MF}:∀(n:Nat)(q:Bool)(c:Cs)(X:Cx),Okw S U q c X->∀e:Expr,QE X e (mJ S U n q c e)
 |0,_,_,_,_,_=>bJ|n+1,q,c,X,O,e=>by
  have b:=AQ (U:=U) n q c X O;show QE X e (AJ S U q c (mJ S U n c6) (mJ S U n q c) e);unfold AJ;split
  ·exact trK_ok' _ _ _
  ·split
   ·exact DD (b _)
   ·exact bJ
  ·exact Ar b _ _ _
  ·split
   ·unfold Fx;split
    ·rename_i q m;obtain⟨a,o⟩:=q;obtain⟨⟨r,s,rfl,rfl⟩,d⟩:=Qz m;exact Ri (vO O.ks) O.no O.xc (b a) d
    ·split
     ·split
      ·split
       ·rename_i h;rw[VW,VW]at h;obtain⟨f,p,u,i,g2,j,l⟩:=O.uf _ h.2;exact Og i (O.hd λz=>by rw[z]at h;cases h.2) g2 j l (eV b [_] (by rw[WN,h.1.2];rfl)) (vO O.ks h.1.1).1 (vO O.ks h.1.1).2
       ·exact bJ
      ·exact bJ
     ·exact bJ
   ·exact bJ
  ·split
   ·rename_i h;exact DE (eV b _ h)
   ·exact bJ
  ·split
   ·exact DC (b _) (b _)
   ·exact bJ
  ·exact RH O.N O.ks O.xc _
theorem AR{X:Cx}{c:Cs}{r:Expr->ME}(b:X.N=c.N)(nd:X.N.Nodup)(d:∀{y:Str},iM c y=c7->Loc X.env.scope y)(fn:∀x,X.fn x=c7)(a:∀e,QE X e (r e)):∀(n:Nat)(st:Stmt),QS X st (sP c r n st)
 |0,_=>cM|n+1,st=>by
  unfold sP;split
  ·exact DH (a _)
  ·split
   ·rename_i h;exact DI (MU (a _) h) (iC (AR b nd d fn a n) _) (iC (AR b nd d fn a n) _)
   ·exact cM
  ·split
   ·split
    ·rename_i y l;obtain⟨p,rfl⟩:=z8 l;split
     ·rename_i h;rw[VW]at h;split
      ·rename_i i j;exact yX i nd (a _) h.2 (by rw[b];exact k9 j) (d h.1) (.inl (fn _))
      ·exact cM
     ·exact cM
    ·exact cM
   ·exact cM
  ·exact cM
theorem RI(O:Okr S F G k c Y)(v:Value)(st:Stmt):QS (Y.hnd v) st (Fy S c st):=by
 have a:∀e,QE (Y.hnd v) e (mJ S (jE S) nX c6 c e):=AQ nX c6 c (Y.hnd v) ⟨O.o.N,O.o.nd,O.o.ks,O.o.kind,O.o.no,O.o.xc,O.uf,λ_=>O.o.room.depth,λz=>nomatch z⟩;cases st with
 |Assign d e p=>
  cases d with
  |nil=>exact cM|cons t j=>
   cases j with
   |cons _ _=>exact cM|nil=>
    cases t with
    |Name y p=>
     show QS _ _ (if iM c y&&eK e then(match gC y c.N with|some i=>aK i _|none=>bP)else bP);split
     ·rename_i h;rw[VW]at h;split
      ·rename_i i b;exact yX (X:=Y.hnd v) i O.o.nd (a _) h.2 (by show Y.N[i]?=_;rw[show Y.N=c.N from O.o.N];exact k9 b) (O.o.own h.1) (.inl (O.own _))
      ·exact cM
     ·exact cM
    |_=>exact cM
 |_=>exact cM
theorem RJ(O:Okr S F G k c Y)(y:Str)(e:Addr)(st:List Stmt):QBh (Y.hnd (.ref e)) e st (AL S c y st):=by unfold AL;exact(iC (RI O (.ref e)) st).soft
theorem vZ{m:Nat}:∀(n:Nat)(Y:Cx),Okr S F G k c Y->(∀st,QS Y.nox st ((iD S F G k m c n).1 st))/\∀st,QR Y st ((iD S F G k m c n).2 st)
 |0,Y,O=>⟨λ_=>cM,λ_=>i0⟩|n+1,Y,O=>by
  have a:=vZ (m:=m) n;refine⟨λst=>?_,λst=>?_⟩;rotate_left
  ·have d:QR Y st (AH S G k ((tr S F m).1 c) ((tr S F m).2 c) c (iD S F G k m c n).1 (iD S F G k m c n).2 st):=RG O ((sN m).1 c _ O.o) ((sN m).2 c _ O.o) (a Y O).1 (a Y O).2 st;exact d
  show QS Y.nox st (AN S (tr S F m).1 (tr S F m).2 c (iD S F G k m c n).1 (iD S F G k m c n).2 st);unfold AN;split
  ·unfold Fz;split
   ·rename_i q w;obtain⟨B,H,b,bs,rfl,s⟩:=Ry w;split
    ·rename_i h;rw[VW,VW,decide_eq_true_eq]at h;obtain⟨⟨j,o⟩,p⟩:=h;split
     ·rename_i i u;obtain⟨L,r⟩:=O.fr;refine N7 (X:=Y.nox) O.ex O.st r O.o.nd (by show Y.N[i]?=_;rw[show Y.N=c.N from O.o.N];exact k9 u) (by rw[<- p,<- O.o.ks]) (O.o.gl j).1 (O.o.gl j).2 (λx A y=>?_) (iC (a Y O).1 _) (λE=>?_) (λv=>?_)
      ·obtain⟨z,l,g2⟩:=VZ.mp y;rw[<- g2];exact O.o.xc.sub x z _ l o
      ·have e:Okr S F G k c (Y.nox.wish E):=⟨O.o,O.ex,O.st,O.fr,O.own,O.rf
        ,O.rt
        ,O.rd,O.rk,O.rc
        ,O.uf
        ⟩
       exact sQ (a _ e).1 (a _ e).2 _
      ·rw[s];exact RJ O _ v (b::bs)
     ·exact cM
    ·exact cM
   ·exact cM
  ·exact Ro O.o O.own (sN m).1 (sN m).2 (a Y O).1 st
end
noncomputable def lk(S:Sig)(ds:List (Str×Stmt))(x:Str):Option Stmt:=match ds.lookup x with
 |some st=>b4 st|none=>S.ms.lookup x
noncomputable abbrev Sig.at(S:Sig)(_:Nat):Sig:=S
noncomputable def AS(S:Sig)(F:Str->MF)(G:Str->RF)(k:Nat)(st:Stmt):MF:=rL (eH st).length (gO (iD (S.at k) F G k qA ⟨eH st,(bN st).names⟩ qB).1 (dC st))
noncomputable def AU(S:Sig)(F:Str->MF)(G:Str->RF)(k:Nat)(st:Stmt):RF:=zD (eH st).length (qC (iD (S.at k) F G k qA ⟨eH st,(bN st).names⟩ qB).1 (iD (S.at k) F G k qA ⟨eH st,(bN st).names⟩ qB).2 (dC st))
noncomputable def mK(S:Sig)(ds:List (Str×Stmt)):Nat->(Str->MF)×(Str->RF)
 |0=>(λ_ _ _=>c4,λ_ _ _=>c4)
 |k+1=>(λx=>match lk S ds x with
   |none=>match S.mc.lookup x with
    |none=>λ_ _=>c4|some q=>(mK S ds k).1 q.1
   |some st=>AS S (mK S ds k).1 (mK S ds k).2 k st,λx=>match lk S ds x with
   |none=>match S.mc.lookup x with
    |none=>λ_ _=>c4|some q=>(mK S ds k).2 q.1
   |some st=>AU S (mK S ds k).1 (mK S ds k).2 k st)
noncomputable def gD(S:Sig)(ds:List (Str×Stmt))(k:Nat):Str->MF:=(mK S ds k).1
noncomputable def jF(S:Sig)(ds:List (Str×Stmt))(k:Nat):Str->RF:=(mK S ds k).2
structure DefAt(K:VU)(mg:Str->Option Value)(x:Str)(st:Stmt):Prop where
 ex:∃f fd,Fun K x x st f fd/\mg x=b4 (.ref f)/\Binds K fd (bV st) []
noncomputable def nY(K:VU)(s:Option Stmt)(n:Nat)(g:Addr):Prop:=∃a nm q st,s=b4 st/\Fun K nm q st g a/\Binds K a (bV st) []/\(bV st).length=n+1
noncomputable def v5(K:VU)(s:Option Stmt)(n:Nat)(ex:List D)(g:Addr):Prop:=∃c nm q st b a,s=b4 st/\Fun K nm q st g c/\Binds K c (bV st) a/\Vals b a/\mD K b ex/\(bV st).length=n+1+ex.length
noncomputable def v7(K:VU)(s:Option Stmt)(k1 k2:Str)(g:Addr):Prop:=∃a nm q st,s=b4 st/\Fun K nm q st g a/\KBinds K a (bV st) [k1,k2] g2 g2/\(bV st).length=4
structure TxtOk(P:Wv)(w:WO)(K:VU)(mg:Str->Option Value)(S:Sig)(ds:List (Str×Stmt)):Prop where
 fns:∀x n,S.fn.lookup x=b4 n->∃st,ds.lookup x=b4 st/\(bV st).length=n
 defs:∀x st,ds.lookup x=b4 st->DefAt K mg x st/\jD st=c7
 con:∀x d,S.con.lookup x=b4 d->∃v u,mg x=b4 u/\RelV v u/\∀π n H,IsD K π n H v d
 tab:∀x kvs,S.tab.lookup x=b4 kvs->∃(p:Addr)(vs:List (bS×V))(ws:List (bS×Value)),mg x=b4 (.ref p)/\(∀h:Xo,K.In h->h.DictOf (qT P w) p ws)/\KV vs ws/\∀π n H,IsKs K π n H vs kvs
 no:∀x,S.no.contains x=c7->mg x=c4
 xc:XcOk S K
 uf:∀x st,S.uf.lookup x=b4 st->ds.lookup x=b4 st/\(bV st).length=1
 ob:∀f x,S.ob.lookup f=b4 x->∃C,CAt K x C/\Cls K C/\NoAttr K C f
 mt:∀m x y n,S.mt.lookup m=b4 (x,y,n)->∃(C g:Addr),CAt K x C/\Cls K C/\Meth K C m g/\nY K (lk S ds y) n g
 mc:∀x y n,S.mc.lookup x=b4 (y,n)->lk S ds x=c4/\∃(C g:Addr),CAt K x C/\Mk K C g/\nY K (lk S ds y) n g
 ms:∀y st,S.ms.lookup y=b4 st->jD st=c7
 md:∀m x y n ex,S.md.lookup m=b4 (x,y,n,ex)->∃(C g:Addr),CAt K x C/\Cls K C/\Meth K C m g/\v5 K (lk S ds y) n ex g
 mw:∀m x y k1 k2,S.mw.lookup m=b4 (x,y,k1,k2)->∃(C g:Addr),CAt K x C/\Cls K C/\Meth K C m g/\v7 K (lk S ds y) k1 k2 g
theorem RK{P:Wv}{w:WO}{K:VU}{j:Str->Option Value}{S:Sig}{ds:List (Str×Stmt)}(T:TxtOk P w K j S ds)(l:Bool)(L:List (Str×Stmt))(v:∀x st,L.lookup x=b4 st->ds.lookup x=b4 st/\(bV st).length=1)(U:Str->MF)(B:∀x st,L.lookup x=b4 st->U x=AK S l st)
  (X:Cx)(n:X.prog=P)(o:X.w=w)(p:X.K=K)(q:X.mg=j):vY l L U X:=λx I=>by
 subst n o p q;obtain⟨st,i⟩:=Xc.mp I;obtain⟨E,G⟩:=v x st i;obtain⟨u,r⟩:=T.defs x st E;obtain⟨f,k,F,m,b⟩:=u.ex;have c:=Fw r;refine⟨f,k,bV st,?_,m,F.kp,b⟩;rw[B x st i,<- G];unfold AK;refine Of F c (by unfold eH;simp) λa A outer s H d=>?_;refine iC (AR (X:=l8 X.prog X.w X.K X.mg X.base (eH st) x (bN st) f a A outer s H) (c:=⟨eH st,(bN st).names⟩) rfl c.nd (λ{y} h=>Fv (c:=⟨eH st,(bN st).names⟩) rfl h) (λ_=>rfl) (λe=>?_) nX) (dC st);exact AQ (S:={S with uf:=[]}) nX l ⟨eH st,(bN st).names⟩ (l8 X.prog X.w X.K X.mg X.base (eH st) x (bN st) f a A outer s H) ⟨rfl,c.nd,rfl,c.kind,T.no,{T.xc with},(λy J=>nomatch J),(λz=>absurd rfl z),d⟩ e
theorem RL{P:Wv}{w:WO}{K:VU}{a:Str->Option Value}{S:Sig}{ds:List (Str×Stmt)}(T:TxtOk P w K a S ds)(X:Cx)(b:X.prog=P)(c:X.w=w)(d:X.K=K)(e:X.mg=a):vY c6 S.uf (jE S) X:=
 RK T c6 S.uf T.uf (jE S) (λx st h=>by unfold jE;rw[h]) X b c d e
theorem TxtOk.at{P:Wv}{w:WO}{K:VU}{a:Str->Option Value}{S:Sig}{ds:List (Str×Stmt)}(T:TxtOk P w K a S ds)(k:Nat):TxtOk P w K a (S.at k) ds:=
 T
theorem AV{S:Sig}{ds:List (Str×Stmt)}{x:Str}{st:Stmt}(h:ds.lookup x=b4 st):lk S ds x=b4 st:=by unfold lk;rw[h]
theorem TxtOk.sc{P:Wv}{w:WO}{K:VU}{b:Str->Option Value}{S:Sig}{ds:List (Str×Stmt)}(T:TxtOk P w K b S ds){x:Str}{st:Stmt}(h:lk S ds x=b4 st):jD st=true:=by
 unfold lk at h;split at h
 ·rename_i a;cases h;exact(T.defs _ _ a).2
 ·exact T.ms _ _ h
theorem RM{P:Wv}{w:WO}{K:VU}{mg:Str->Option Value}{base:Xo}{S:Sig}{ds:List (Str×Stmt)}(T:TxtOk P w K mg S ds)(k:Nat):∀(x:Str)(st:Stmt)(nm q:Str)(f:Addr)(fd:W8),lk S ds x=b4 st->Fun K nm q st f fd->
  FnOk P w K mg base dB k f fd (bV st) (cT K (bV st).length (gD S ds k x))/\FnOk P w K mg base (dX P w) k f fd (bV st) (eD K (bV st).length (jF S ds k x)):=by
 induction k using Nat.strongRecOn with
 |_ k Y=>
 intro x st nm q f fd hl hF;cases k with
 |zero=>exact⟨⟨λvs H Q E h=>h.1,λA outer s H args us vs Q E X he hb hv hs=>by
   obtain⟨_,π,ds',μ,d,μ',R,i,hm,kc⟩:=hs;cases hm⟩,⟨λvs H Q E h=>h.1,λA outer s H args us vs Q E X he hb hv hs=>by
   obtain⟨_,π,ds',μ,d,μ',R,i,hm,kc⟩:=hs;cases hm⟩⟩
 |succ k=>
  have M:=Y k (XT k);have e:gD S ds (k+1) x=AS S (gD S ds k) (jF S ds k) k st:=by show(match lk S ds x with|none=>_|some st=>AS S (gD S ds k) (jF S ds k) k st)=_;rw[hl]
  have e2:jF S ds (k+1) x=AU S (gD S ds k) (jF S ds k) k st:=by show(match lk S ds x with|none=>_|some st=>AU S (gD S ds k) (jF S ds k) k st)=_;rw[hl]
  rw[e,e2];have Sc:=Fw (T.sc hl);have O:∀(CX:gU)(G:Value)(A:WJ)(outer:List ZS)(s:V1)(H:Hp)(E:XK),Room k (A.deeper (Zn q (bN st) s.heap.objs.size f G))->Okr (S.at k) (gD S ds k) (jF S ds k) k ⟨eH st,(bN st).names⟩ (fA CX P w K mg base (eH st) q (bN st) f G A outer s H E):=λCX G A outer s H E X=>by
   refine⟨⟨rfl,Sc.nd,rfl,Sc.kind,rfl,X,a2U,λy n p=>?_,T.con,λy kvs q=>⟨T.tab y kvs q⟩,T.no,(T.at k).xc
    ,T.ob,λm y z n p=>?_,λy z n p=>?_
    ,λm y z n ex p=>?_,λm y z k1 k2 p=>?_
    ⟩,rfl,rfl,⟨_,rfl⟩,λ_=>rfl,λy n p=>?_
    ,λm y z n p=>?_
    ,λm y z n ex p=>?_,λm y z k1 k2 p=>?_,λy z n p=>?_
    ,RL (T.at k) _ rfl rfl rfl rfl
    ⟩
   ·obtain⟨a,l,u⟩:=T.fns y n p;obtain⟨f',b,j,m',r⟩:=(T.defs y a l).1.ex;subst u;exact⟨f',b,bV a,(M y a _ _ f' b (AV l) j).1,m',j.kp,r⟩
   ·obtain⟨C,g,v,B,J,b,c,I,a,l,j,r,u⟩:=T.mt m y z n p;have:=(M z a c I g b l j).1;rw[u]at this;exact⟨C,g,b,bV a,v,B,J,this,r⟩
   ·obtain⟨h0,C,g,v,B,b,c,I,a,l,j,r,u⟩:=T.mc y z n p;cases k with
    |zero=>exact .inl λ_ _=>rfl|succ L=>
     have:=(Y L (by omega) z a c I g b l j).1;rw[u]at this;have e3:gD S ds (L+1) y=gD S ds L z:=by show(match lk S ds y with|none=>(match S.mc.lookup y with|none=>λ_ _=>c4|some q=>gD S ds L q.1)|some st=>_)=_;rw[h0];dsimp only;rw[p]
     rw[<- e3]at this;exact .inr ⟨L,C,g,b,bV a,rfl,v,B,this,r⟩
   ·obtain⟨C,g,v,B,J,b,c,I,a,U,N,l,j,r,v',Z,u⟩:=T.md m y z n ex p;have:=(M z a c I g b l j).1;rw[u]at this;exact⟨C,g,b,bV a,U,N,v,B,J,this,r,v',Z⟩
   ·obtain⟨C,g,v,B,J,b,c,I,a,l,j,r,u⟩:=T.mw m y z k1 k2 p;have:=(M z a c I g b l j).1;rw[u]at this;exact⟨C,g,b,bV a,v,B,J,this,r⟩
   ·obtain⟨a,l,u⟩:=T.fns y n p;obtain⟨f',b,j,m',r⟩:=(T.defs y a l).1.ex;subst u;exact⟨f',b,bV a,(M y a _ _ f' b (AV l) j).2,m',j.kp,r⟩
   ·obtain⟨C,g,v,B,J,b,c,I,a,l,j,r,u⟩:=T.mt m y z n p;have:=(M z a c I g b l j).2;rw[u]at this;exact⟨C,g,b,bV a,v,B,J,this,r⟩
   ·obtain⟨C,g,v,B,J,b,c,I,a,U,N,l,j,r,v',Z,u⟩:=T.md m y z n ex p;have:=(M z a c I g b l j).2;rw[u]at this;exact⟨C,g,b,bV a,U,N,v,B,J,this,r,v',Z⟩
   ·obtain⟨C,g,v,B,J,b,c,I,a,l,j,r,u⟩:=T.mw m y z k1 k2 p;have:=(M z a c I g b l j).2;rw[u]at this;exact⟨C,g,b,bV a,v,B,J,this,r⟩
   ·obtain⟨h0,C,g,v,B,b,c,I,a,l,j,r,u⟩:=T.mc y z n p;cases k with
    |zero=>exact .inl λ_ _=>rfl|succ L=>
     have:=(Y L (by omega) z a c I g b l j).2;rw[u]at this;have e3:jF S ds (L+1) y=jF S ds L z:=by show(match lk S ds y with|none=>(match S.mc.lookup y with|none=>λ_ _=>c4|some q=>jF S ds L q.1)|some st=>_)=_;rw[h0];dsimp only;rw[p]
     rw[<- e3]at this;exact .inr ⟨L,C,g,b,bV a,rfl,v,B,this,r⟩
  refine⟨Nd hF Sc (by unfold eH;simp) rfl λG A outer s H E X=>?_,NW hF Sc (by unfold eH;simp) rfl λG A outer s H E X=>?_⟩
  ·exact iC (vZ (m:=qA) qB _ (O dB G A outer s H E X)).1 (dC st)
  ·have o:=O (dX P w) G A outer s H E X;exact sQ (vZ (m:=qA) qB _ o).1 (vZ (m:=qA) qB _ o).2 (dC st)
theorem RN{P:Wv}{w:WO}{K:VU}{b:Str->Option Value}{base:Xo}{S:Sig}{ds:List (Str×Stmt)}(T:TxtOk P w K b S ds)(k:Nat)(x:Str)(st:Stmt)(f:Addr)(a:W8)(d:ds.lookup x=b4 st)(c:Fun K x x st f a) :
  FnOk P w K b base dB k f a (bV st) (cT K (bV st).length (gD S ds k x)):=(RM T k x st x x f a (AV d) c).1
theorem FC:∀{ns:List Int}{b:Nat},ZG (ns.map ZC)<=b->∀n∈ns,WQ n<=b
 |[],_,_,n,a=>nomatch a|m::ns,b,h,n,a=>by
  have e:ZG ((m::ns).map ZC)=a1u (.int m)+1+ZG (ns.map ZC):=rfl;have c:a1u (.int m)=WQ m:=rfl;rw[e,c]at h;rcases Wr.mp a with rfl|a
  ·omega
  ·exact FC (b:=b) (by omega) n a
section
open PySem PySem.W PySem.Calls PyProof.Rows
theorem RO{l:a3n}{n:Nat}{q:Wv}{loose:List Str}{XP:(Str->Option Value)->Xo->Prop}{YP:WO->Xo->Prop}{d:DefRec}
  (X:l.most=b4 n)(z:d.params.defaults=[])
  (call:∀(w:WO)(s₀ b:V1)(u E:Str->Option Value)(h:Addr)(o:Obj)(H s c:Value)(a:Addr)(vs:List Value)(ns:List Int),
   Ground q loose [] XP w s₀ u E b.heap->YP w b.heap->
   b.heap.get? h=b4 o->o.data=.func (docDef d.name d.params d.body d.scope H s c)->b.heap.CodeRec s d.name->u d.name=b4 (.ref h)->
   b.heap.get? a=b4 {cls:=.type "list",data:=.seq vs.toArray}->a3M vs ns->ns.length<=n->(∀m∈ns,WQ m<=2^20)->b.gens=#[]->
   ZI (WC l.prog w) a1G (.call (.ref h) ⟨[.ref a],[]⟩) (λr v=>r=.ok (.ret (.bool c7))/\OldK b.heap v.heap/\v.os=b.os/\a0d v.gens) b) :
  a3T q loose XP YP l.row.toRowW d [] (λf vs=>a5b f vs):=by
 intro w s₀ b u E G Y h o H s c L kV Z hd y J A R I K as p i hrd B T;obtain rfl:L=.none:=Dflts.none J z;obtain rfl:kV=.none:=Dflts.noKw J;obtain⟨a,vs,ns,rfl,rfl,k,e,j⟩:=Att.script_of X p B;have Q:∀m∈ns,WQ m<=2^20:=by
  have x:a1m (.list (ns.map ZC))=true:=by have:=i;unfold a5c at this;simpa using this
  unfold a1m at x;rw[VW]at x;exact FC (of_decide_eq_true x.2)
 refine enter_call (Yv (call w s₀ b u E h o H s c a vs ns G Y Z (fd_plain hd) y A k e j Q R) λr v hq=>?_);obtain⟨rfl,M,N,O⟩:=hq;exact⟨.inl ⟨.bool c7,.bool c7,[],rfl,λ_=>rfl,.bool c7,Att.post_true l _,λ_=>⟨a5i,λ_ U=>(nomatch U)⟩⟩,M,N,O⟩
end
theorem walkM{l:a3n}{q:Wv}{loose:List Str}{XP:(Str->Option Value)->Xo->Prop}{YP:WO->Xo->Prop}{d:DefRec}{K:Xi->VU}{S:Sig}{ds:List (Str×Stmt)}{k:Nat}{st:Stmt}{x:Str}(hn:l.most=b4 63)(N:d.params.defaults=[])
  (hr:Room k a1G)(hY:∀(w:WO)(h:Xo),YP w h->(K w.params).In h)(hl:ds.lookup d.name=b4 st)(hx:bV st=[x])
  (T:∀(w:WO)(E:Str->Option Value)(h:Xo),(K w.params).In h->h.Ns WZ E->TxtOk l.prog w (K w.params) E S ds/\∃f J,Fun (K w.params) d.name d.name st f J/\E d.name=b4 (.ref f)/\∀(s:V1)(u:Value),a0Y s J ⟨[u],[]⟩ [(x,u)])
  (M:∀b:List Int,b.length<=63->(∀m∈b,WQ m<=2^20)->∃y,gD S ds k d.name [.rol (b.map D.int)] []=b4 (.bl c7,y)) :
  a3T q loose XP YP l.row.toRowW d [] (λf vs=>a5b f vs):=by
 refine RO hn N λw Z s₁ E mb fa o pm cd doc a vs b G Y ho hd hcd Q B p c L hg=>?_;have U:=hY w _ Y;obtain⟨hT,f,J,hF,X,hb⟩:=T w E _ U G.T.g;rw[Q]at X;cases X;refine L2.law_call (CX:=dB) (sp:=cT (K w.params) 1 (gD S ds k d.name)) U G.T.g G.T.b G.T.builtins G.T.nolimit hg B p (Xk c (by decide)) hr (λA hb1 hb2=>?_) hb (λH hO hS=>?_) λH e s' z=>z
 ·have:=RN (base:=A) hT k d.name st fa J hl hF;rw[hx]at this;exact this
 ·refine⟨rfl,λ_=>0,[.rol (b.map D.int)],[],.bl c7,?_⟩;obtain⟨y,hM⟩:=M b c L;have R:RoL (K w.params) H a (b.map V.int):=by
   rcases hS with(h|h)|h
   ·rcases hO a with z|⟨o,I,z⟩
    ·rw[z]at h;cases h
    ·rw[z]at h;cases h
   ·exact .inl h
   ·exact .inr h
  refine⟨y,⟨λi j O=>absurd O (a1I _),λi O=>absurd O (a1I _),λi I h=>(by cases h),λi I h=>(by cases h),λi I h=>(by cases h)
   ,λi I h=>(by cases h)
   ,λi I h=>(by cases h)
   ,λi x b ds h=>(by cases h)
   ,λi x fs h=>(by cases h)
   ⟩,.cons (.rol R ?_) .nil,hM,λπ' v H' _ _ hv=>?_⟩
  ·have:∀b:List Int,IsDs (K w.params) (λ_=>0) ([]:Hm).length H (b.map V.int) (b.map D.int):=λb=>by
    induction b with
    |nil=>exact .nil|cons n r ih=>exact .cons (.int n) ih
   exact this b
  ·cases hv;rfl
end L3
namespace L3
open PySem L2
theorem fV{a:Type}:∀{l:List (Str×a)}{x:Str}{b:a},l.lookup x=b4 b->(x,b)∈l:=λh=>Xu h
theorem RP{S:Sig}{ds:List (Str×Stmt)}(h:(S.fn.all λp=>match ds.lookup p.1 with|some st=>decide ((bV st).length=p.2)|none=>c6)=c7):∀x n,S.fn.lookup x=b4 n->∃st,ds.lookup x=b4 st/\(bV st).length=n:=by
 intro x n e;have:=XB.mp h (x,n) (fV e);dsimp only at this;split at this
 ·rename_i st a;exact⟨st,a,of_decide_eq_true this⟩
 ·cases this
theorem RQ{K:VU}{a:Str->Option Value}{ds:List (Str×Stmt)}(h:∀p∈ds,DefAt K a p.1 p.2/\jD p.2=c7):∀x st,ds.lookup x=b4 st->DefAt K a x st/\jD st=true:=λx st e=>h (x,st) (fV e)
theorem RR{K:VU}{b:Str->Option Value}{a:List (Str×D)}(h:∀p∈a,∃v u,b p.1=b4 u/\RelV v u/\∀π n H,IsD K π n H v p.2):∀x d,a.lookup x=b4 d->∃v u,b x=b4 u/\RelV v u/\∀π n H,IsD K π n H v d:=λx d e=>h (x,d) (fV e)
theorem RS{L ds:List (Str×Stmt)}(h:L.map (λp=>ds.lookup p.1)=L.map λp=>b4 p.2)(a:(L.all λp=>decide ((bV p.2).length=1))=c7):∀x st,L.lookup x=b4 st->ds.lookup x=b4 st/\(bV st).length=1:=
 λx st e=>⟨a0U.mp h (x,st) (fV e),of_decide_eq_true (XB.mp a (x,st) (fV e))⟩
inductive EntsOf (w:WO):List DictEntry->List (bS×Value)->Prop where
 |nil:EntsOf w [] []
 |cons {e:DictEntry}{k:bS}{v:Value}{es:List DictEntry}{kvs:List (bS×Value)}(h:xD k e.key=c7)(hh:e.hash=BQ w k)(hv:e.val=v)(t:EntsOf w es kvs):EntsOf w (e::es) ((k,v)::kvs)
theorem RT{a:Str->Option Value}{ns:List Str}(h:∀x∈ns,a x=c4):∀x,ns.contains x=c7->a x=none:=λx e=>h x (by simpa using e)
noncomputable def mL:Nat->(Nat->Value)->List Value
 |0,_=>[]|n+1,u=>u 0::mL n λi=>u (i+1)
theorem v8:∀us:List Value,∃u,us=mL us.length u
 |[]=>⟨λ_=>.none,rfl⟩|v::us=>let⟨u,a⟩:=v8 us;⟨λi=>match i with|0=>v|i+1=>u i,congrArg (v::·) a⟩
noncomputable abbrev FD:Type:=Value->Value->Value->Option Addr->Value->Value->(Nat->Value)->a3x (List (Str×Value))
noncomputable def RU(x:Str)(st:Stmt)(m:Value)(c:Addr):Obj:=⟨Wc "function",c4,.func (Xm x x (fQ st) (dC st) (bN st) .none .none .none m c4 (.ref c) .none),#[]⟩
noncomputable def FE(K:VU)(d:(Str×Stmt)×Value×Addr×Addr):Option (Option Value)×Option Obj×Bool×Bool×Bool×FD:=(XC K WZ d.1.1,K.lookup d.2.2.2,Zc K (.ref d.2.2.1) d.1.1,Xe K (.ref d.2.2.2),jD d.1.2,λkV b e c a ct u=>a0P (Xm d.1.1 d.1.1 (fQ d.1.2) (dC d.1.2) (bN d.1.2) .none kV b e c a ct) ⟨mL (bV d.1.2).length u,[]⟩)
noncomputable def FF(d:(Str×Stmt)×Value×Addr×Addr):Option (Option Value)×Option Obj×Bool×Bool×Bool×FD:=(b4 (b4 (.ref d.2.2.2)),b4 (RU d.1.1 d.1.2 d.2.1 d.2.2.1),c7,c7,c7,λ_ _ _ _ _ _ u=>pure ((bV d.1.2).zip (mL (bV d.1.2).length u)))
noncomputable def v9(K:VU)(d:Str×Stmt):(Str×Stmt)×Value×Addr×Addr:=(d,match XC K WZ d.1 with
 |some (b4 (.ref f))=>(match K.lookup f with
  |some ⟨_,_,.func fd,_⟩=>(match fd.code with
   |.ref c=>(fd.pyModule,c,f)
   |_=>(.none,0,0))
  |_=>(.none,0,0))
 |_=>(.none,0,0))
noncomputable def wA(K:VU)(ds:List (Str×Stmt)):Prop:=ds.map (λd=>FE K (v9 K d))=ds.map λd=>FF (v9 K d)
theorem FG{K:VU}{h:Xo}{j:Str->Option Value}(X:K.In h)(G:h.Ns WZ j){ds:List (Str×Stmt)}(q:wA K ds):∀p∈ds,(DefAt K j p.1 p.2/\jD p.2=c7)/\∃f n,Fun K p.1 p.1 p.2 f n/\j p.1=b4 (.ref f)/\∀us:List Value,us.length=(bV p.2).length->a0P n ⟨us,[]⟩=pure ((bV p.2).zip us):=by
 intro i v;have t:=a0U.mp q i v;have e:(v9 K i).1=i:=rfl;generalize v9 K i=d at t e;obtain⟨p,m,c,f⟩:=d;cases e;unfold FE FF at t;obtain⟨a,t⟩:=a0h t;obtain⟨l,t⟩:=a0h t;obtain⟨c,t⟩:=a0h t;obtain⟨k,t⟩:=a0h t;obtain⟨s,b⟩:=a0h t;have F:=uE (st:=p.2) l c k;have D:=λkV doc pm an cdv ct (us:List Value)(r:us.length=(bV p.2).length)=>(by
  obtain⟨u,o⟩:=v8 us;rw[r]at o;rw[o];exact congrFun (congrFun (congrFun (congrFun (congrFun (congrFun (congrFun b kV) doc) pm) an) cdv) ct) u:a0P (Xm p.1 p.1 (fQ p.2) (dC p.2) (bN p.2) .none kV doc pm an cdv ct) ⟨us,[]⟩=pure ((bV p.2).zip us))
 exact⟨⟨⟨_,_,F,YI X G a,Binds.all (D _ _ _ _ _ _)⟩,s⟩,_,_,F,YI X G a,D _ _ _ _ _ _⟩
theorem RV{K:VU}{h:Xo}{c:Str->Option Value}(X:K.In h)(G:h.Ns WZ c){ds:List (Str×Stmt)}(q:wA K ds){x y:Str}{st:Stmt}(d:ds.lookup x=b4 st)(e:bV st=[y]):∃f a,Fun K x x st f a/\c x=b4 (.ref f)/\∀(s:V1)(u:Value),a0Y s a ⟨[u],[]⟩ [(y,u)]:=by obtain⟨f,a,F,m,b⟩:=(FG X G q (x,st) (fV d)).2;dsimp only at b;rw[e]at b;exact⟨f,a,F,m,λs u=>.of_eq (b [u] rfl)⟩
theorem RW{K:VU}{h:Xo}{a:Str->Option Value}(X:K.In h)(G:h.Ns WZ a){ns:List Str}(q:ns.map (XC K WZ)=ns.map λ_=>b4 c4):∀x∈ns,a x=none:=λx b=>PySem.W.mg_none_of X G (a0U.mp q x b)
noncomputable def sR{c d:Type}(f:c->d->Bool):List c->List d->Bool
 |[],[]=>c7|a::as,b::bs=>f a b&&sR f as bs|_,_=>c6
noncomputable def sS(K:VU):Nat->Value->D->Bool
 |0,_,_=>c6|k+1,u,d=>match d with
  |.non=>(match u with|.none=>c7|_=>c6)|.bl b=>(match u with|.bool c=>decide (b=c)|_=>c6)|.int i=>(match u with|.int j _=>decide (i=j)|_=>c6)|.str x=>(match u with|.str y _=>decide (x=y)|_=>c6)
  |.tup ds=>(match u with
   |.ref p=>(match K.lookup p with
    |some ⟨.type t,c4,.seq its _,_⟩=>decide (t="tuple")&&decide (its.size<=1000)&&sR (sS K k) its.toList ds
    |_=>c6)
   |_=>c6)
  |.rol ds=>(match u with
   |.ref p=>(match K.lookup p with
    |some ⟨.type t,c4,.seq its _,_⟩=>decide (t="list")&&decide (its.size<=1000)&&sR (sS K k) its.toList ds
    |_=>c6)
   |_=>c6)
  |_=>c6
theorem FH{K:VU}{f:Value->D->Bool}(h:∀u d,f u d=c7->∃v,RelV v u/\∀π n H,IsD K π n H v d):∀us ds,sR f us ds=c7->∃vs,Vals vs us/\∀π n H,IsDs K π n H vs ds
 |[],[],_=>⟨[],.nil,λ_ _ _=>.nil⟩|u::us,d::ds,e=>by obtain⟨a,b⟩:=YY.mp e;obtain⟨v,r,q⟩:=h u d a;obtain⟨vs,i,c⟩:=FH h us ds b;exact⟨v::vs,.cons r i,λ_ _ _=>.cons (q _ _ _) (c _ _ _)⟩
 |[],_::_,e=>nomatch e|_::_,[],e=>nomatch e
theorem FI{K:VU}:∀(k:Nat)(u:Value)(d:D),sS K k u d=c7->∃v,RelV v u/\∀π n H,IsD K π n H v d
 |0,_,_,e=>nomatch e|k+1,u,d,e=>by
  have seq:∀{p:Addr}{ds:List D}{c:String},(match K.lookup p with|some ⟨.type t,c4,.seq h _,_⟩=>decide (t=c)&&decide (h.size<=1000)&&sR (sS K k) h.toList ds|_=>c6)=c7->∃j h n m,K.lookup p=b4 ⟨.type c,c4,.seq h n,m⟩/\h.size<=Wb/\Vals j h.toList/\∀π n H,IsDs K π n H j ds:=λ{p ds c} e=>by
   split at e
   ·rename_i t h n m l;obtain⟨e,q⟩:=YY.mp e;obtain⟨a,b⟩:=YY.mp e;cases of_decide_eq_true a;obtain⟨j,r,i⟩:=FH (FI k) _ _ q;exact⟨j,h,n,m,l,Xk (of_decide_eq_true b) (by decide),r,i⟩
   ·cases e
  cases d with
  |non=>cases u with
   |none=>exact⟨.non,rfl,λ_ _ _=>.non⟩|_=>cases e
  |bl b=>cases u with
   |bool c=>cases of_decide_eq_true e;exact⟨.bl b,rfl,λ_ _ _=>.bl _⟩|_=>cases e
  |int b=>cases u with
   |int c=>cases of_decide_eq_true e;exact⟨.int b,⟨_,rfl⟩,λ_ _ _=>.int _⟩|_=>cases e
  |str b=>cases u with
   |str c=>cases of_decide_eq_true e;exact⟨.str b,⟨_,rfl⟩,λ_ _ _=>.str _⟩|_=>cases e
  |tup ds=>cases u with
   |ref p=>obtain⟨j,h,n,m,l,o,r,i⟩:=seq e;exact⟨.ref p,rfl,λ_ _ _=>.tup (vs:=j) (.inr ⟨_,h,n,l,rfl,rfl,rfl,o,r⟩) (i _ _ _)⟩|_=>cases e
  |rol ds=>cases u with
   |ref p=>obtain⟨j,h,n,m,l,o,r,i⟩:=seq e;exact⟨.ref p,rfl,λ_ _ _=>.rol (vs:=j) (.inr ⟨_,h,n,l,rfl,rfl,rfl,o,r⟩) (i _ _ _)⟩|_=>cases e
  |_=>cases e
noncomputable def FJ(K:VU)(a:List (Str×D)):Bool:=a.all λc=>match XC K WZ c.1 with|some (b4 u)=>sS K 8 u c.2|_=>c6
theorem RX{K:VU}{h:Xo}{b:Str->Option Value}(X:K.In h)(G:h.Ns WZ b){a:List (Str×D)}(q:FJ K a=c7):∀p∈a,∃v u,b p.1=b4 u/\RelV v u/\∀π n H,IsD K π n H v p.2:=λp c=>by
 have t:=XB.mp q p c;split at t
 ·rename_i u d;obtain⟨v,r,i⟩:=FI _ _ _ t;exact⟨v,u,YI X G d,r,i⟩
 ·cases t
end L3
namespace L3
open PySem L2
noncomputable def gE(K:VU)(x:Str):Addr:=match XC K WZ x with
 |some (b4 (.ref C))=>C|_=>0
noncomputable def nZ(K:VU)(x:Str):Bool:=XC K WZ x==b4 (b4 (.ref (gE K x)))&&Zm K (gE K x) Str.empty&&ZO K (gE K x)&&a0C K (gE K x) &&
 W5 K (.ref (gE K x)) "__setattr__"==b4 (b4 (.builtin "object.__setattr__"))
theorem lE{K:VU}{x:Str}(h:nZ K x=c7):CAt K x (gE K x)/\Cls K (gE K x):=by unfold nZ at h;rw[VW,VW,VW,VW,beq_iff_eq,beq_iff_eq]at h;obtain⟨⟨⟨⟨a,b⟩,c⟩,d⟩,e⟩:=h;exact⟨a,b,c,d,e⟩
theorem RY{K:VU}{L:List (Str×Str)}(h:(L.all λp=>nZ K p.2&&W5 K (.ref (gE K p.2)) p.1==b4 c4)=c7):∀f x,L.lookup f=b4 x->∃C,CAt K x C/\Cls K C/\NoAttr K C f:=λf x e=>by have:=XB.mp h (f,x) (fV e);rw[VW,beq_iff_eq]at this;exact⟨_,(lE this.1).1,(lE this.1).2,this.2⟩
noncomputable def eW(K:VU)(x m:Str):Addr:=match W5 K (.ref (gE K x)) m with
 |some (b4 (.ref g))=>g|_=>0
noncomputable def oA(K:VU)(g:Addr):Value×Value×Addr:=match K.lookup g with
 |some ⟨_,_,.func fd,_⟩=>(match fd.code with
  |.ref c=>(fd.defaults,fd.pyModule,c)
  |_=>(.none,.none,0))
 |_=>(.none,.none,0)
noncomputable def qD(x a:Str)(st:Stmt)(q:Value×Value×Addr):W8:=Xm x a (fQ st) (dC st) (bN st) q.1 .none .none q.2.1 c4 (.ref q.2.2) .none
noncomputable def qE(K:VU)(x m a:Str)(st:Stmt)(n:Nat):Bool:=W5 K (.ref (gE K x)) m==b4 (b4 (.ref (eW K x m)))&&a0E K (.ref (eW K x m))&&Xe K (.ref (eW K x m)) &&
 Zc K (.ref (oA K (eW K x m)).2.2) a&&decide ((bV st).length=n+1)
noncomputable abbrev AW(K:VU)(x m a:Str)(st:Stmt)(n:Nat):Prop:=qE K x m a st n=c7/\K.lookup (eW K x m)=b4 ⟨.type "function",c4,.func (qD m a st (oA K (eW K x m))),#[]⟩ /\
 (λS u=>a2c K S (a0P (qD m a st (oA K (eW K x m))) ⟨mL (n+1) u,[]⟩))=λ_ u=>b4 ((bV st).zip (mL (n+1) u))
theorem FK{K:VU}{x m a:Str}{st:Stmt}{n:Nat}(h:AW K x m a st n):Meth K (gE K x) m (eW K x m)/\nY K (b4 st) n (eW K x m):=by obtain⟨h,o,l⟩:=h;unfold qE at h;rw[VW,VW,VW,VW,beq_iff_eq,decide_eq_true_eq]at h;obtain⟨⟨⟨⟨i,j⟩,b⟩,k⟩,c⟩:=h;refine⟨⟨i,j,b⟩,_,m,a,st,rfl,uE (st:=st) o k b,λs p X d=>?_,c⟩;rw[W4]at d ⊢;obtain⟨u,e⟩:=v8 p;rw[d,c]at e;rw[e];exact a0Q X λS=>congrFun (congrFun l S) u
theorem RZ{K:VU}{S:Sig}{ds:List (Str×Stmt)}(h:∀p∈S.mt,nZ K p.2.1=c7/\∃a st,lk S ds p.2.2.1=b4 st/\AW K p.2.1 p.1 a st p.2.2.2):∀m x y n,S.mt.lookup m=b4 (x,y,n)->∃(C g:Addr),CAt K x C/\Cls K C/\Meth K C m g/\nY K (lk S ds y) n g:=λm x y n e=>by obtain⟨b,a,st,c,d⟩:=h (m,x,y,n) (fV e);dsimp only at b c d;rw[c];exact⟨_,_,(lE b).1,(lE b).2,FK d⟩
theorem R0{K:VU}{S:Sig}{ds:List (Str×Stmt)}(h:∀p∈S.mc,nZ K p.1=c7/\lk S ds p.1=c4/\(a1e K (gE K p.1)&&Xe K (.ref (gE K p.1)))=c7/\∃b st,lk S ds p.2.1=b4 st/\AW K p.1 "__init__" b st p.2.2) :
  ∀x y n,S.mc.lookup x=b4 (y,n)->lk S ds x=c4/\∃(C g:Addr),CAt K x C/\Mk K C g/\nY K (lk S ds y) n g:=λx y n e=>by
 obtain⟨d,i,c,b,st,j,k⟩:=h (x,y,n) (fV e);dsimp only at d i c j k;rw[j];rw[VW]at c;obtain⟨m,a⟩:=FK k;exact⟨i,_,_,(lE d).1,⟨c.1,m.at_,m.fn,c.2⟩,a⟩
theorem FL:∀bs:List Bool,Vals (bs.map V.bl) (bs.map Xx)
 |[]=>.nil|_::bs=>.cons rfl (FL bs)
theorem R6{K:VU}(bs:List Bool):mD K (bs.map V.bl) (bs.map D.bl):=λπ n H=>by
 induction bs with
 |nil=>exact .nil|cons b bs a=>exact .cons (.bl b) a
noncomputable abbrev FN(K:VU)(x m a:Str)(st:Stmt)(n:Nat)(bs:List Bool):Prop:=qE K x m a st (n+bs.length)=c7/\K.lookup (eW K x m)=b4 ⟨.type "function",c4,.func (qD m a st (oA K (eW K x m))),#[]⟩ /\
 (λS u=>a2c K S (a0P (qD m a st (oA K (eW K x m))) ⟨mL (n+1) u,[]⟩))=λ_ u=>b4 ((bV st).zip (mL (n+1) u++bs.map Xx))
theorem R8{K:VU}{x m a:Str}{st:Stmt}{n:Nat}{bs:List Bool}(h:FN K x m a st n bs):Meth K (gE K x) m (eW K x m)/\v5 K (b4 st) n (bs.map D.bl) (eW K x m):=by
 obtain⟨h,o,l⟩:=h;unfold qE at h;rw[VW,VW,VW,VW,beq_iff_eq,decide_eq_true_eq]at h;obtain⟨⟨⟨⟨d,i⟩,b⟩,j⟩,k⟩:=h;refine⟨⟨d,i,b⟩,_,m,a,st,bs.map V.bl,bs.map Xx,rfl,uE (st:=st) o j b,λs c X q=>?_,FL bs,R6 bs,by rw[V0];omega⟩;obtain⟨u,e⟩:=v8 c;have p:c.length=n+1:=by rw[V5,V0,k]at q;omega
 rw[p]at e;rw[e];exact a0Q X λS=>congrFun (congrFun l S) u
theorem Sa{K:VU}{S:Sig}{ds:List (Str×Stmt)}(h:∀p∈S.md,nZ K p.2.1=c7/\∃a st bs,p.2.2.2.2=bs.map D.bl/\lk S ds p.2.2.1=b4 st/\FN K p.2.1 p.1 a st p.2.2.2.1 bs):∀m x y n ex,S.md.lookup m=b4 (x,y,n,ex)->∃(C g:Addr),CAt K x C/\Cls K C/\Meth K C m g/\v5 K (lk S ds y) n ex g:=λm x y n ex e=>by obtain⟨b,a,st,bs,c,d,i⟩:=h (m,x,y,n,ex) (fV e);dsimp only at c b d i;rw[d,c];exact⟨_,_,(lE b).1,(lE b).2,R8 i⟩
noncomputable abbrev FP(K:VU)(x m b:Str)(st:Stmt)(k1 k2:Str):Prop:=qE K x m b st 3=c7/\K.lookup (eW K x m)=b4 ⟨.type "function",c4,.func (qD m b st (oA K (eW K x m))),#[]⟩ /\
 (λS a e u v=>a2c K S (a0P (qD m b st (oA K (eW K x m))) ⟨[a,e],[(k1,u),(k2,v)]⟩))=λ_ a e u v=>b4 ((bV st).zip [a,e,v,u])
theorem Sb{K:VU}{x m c:Str}{st:Stmt}{k1 k2:Str}(h:FP K x m c st k1 k2):Meth K (gE K x) m (eW K x m)/\v7 K (b4 st) k1 k2 (eW K x m):=by
 obtain⟨h,r,q⟩:=h;unfold qE at h;rw[VW,VW,VW,VW,beq_iff_eq,decide_eq_true_eq]at h;obtain⟨⟨⟨⟨n,o⟩,j⟩,p⟩,k⟩:=h;refine⟨⟨n,o,j⟩,_,m,c,st,rfl,uE (st:=st) r p j,⟨λs d i X l=>?_,λ{z d A i} w y=>?_⟩,k⟩
 ·rw[k]at l;match d,i,l with
  |[a,e],[u,v],_=>exact a0Q X λS=>congrFun (congrFun (congrFun (congrFun (congrFun q S) a) e) u) v|[],_,h=>cases h|[_],_,h=>cases h|[_,_],[],h=>cases h|[_,_],[_],h=>cases h|[_,_],_::_::_::_,h=>cases h|_::_::_::_,_,h=>cases h
 ·match z,d,A,i,w,y with
  |[_,_],[_,_],[_,_],[_,_],.cons a (.cons b .nil),.cons u (.cons v .nil)=>exact .cons a (.cons b (.cons v (.cons u .nil)))|[],[],_,_,_,_=>exact .nil|[_],[_],_,_,_,_=>exact .nil|[_,_],[_,_],[],[],_,_=>exact .nil|[_,_],[_,_],[_],[_],_,_=>exact .nil|[_,_],[_,_],_::_::_::_,_::_::_::_,_,_=>exact .nil|_::_::_::_,_::_::_::_,_,_,_,_=>exact .nil
theorem Se{K:VU}{S:Sig}{ds:List (Str×Stmt)}(h:∀p∈S.mw,nZ K p.2.1=c7/\∃a st,lk S ds p.2.2.1=b4 st/\FP K p.2.1 p.1 a st p.2.2.2.1 p.2.2.2.2):∀m x y k1 k2,S.mw.lookup m=b4 (x,y,k1,k2)->∃(C g:Addr),CAt K x C/\Cls K C/\Meth K C m g/\v7 K (lk S ds y) k1 k2 g:=λm x y k1 k2 e=>by obtain⟨b,a,st,c,d⟩:=h (m,x,y,k1,k2) (fV e);dsimp only at b c d;rw[c];exact⟨_,_,(lE b).1,(lE b).2,Sb d⟩
theorem Sf{L:List (Str×Stmt)}(h:(L.all λp=>jD p.2)=c7):∀y st,L.lookup y=b4 st->jD st=true:=λy st e=>XB.mp h (y,st) (fV e)
end L3
namespace L3
open PySem L2
theorem Sh{S:Sig}{K:VU}
  (l:(S.sup.all λp=>S.sup.all λq=>rX K p.1 q.1==b4 (p.2.contains q.1))=c7)
  (m:(S.sup.all λp=>S.sup.all λq=>match kU K q.1 with|some C=>l7 K (.ref C) p.1==b4 (p.2.contains q.1)|none=>c6)=c7)(n:(S.sup.all λp=>l7 K (.type "ValueError") p.1==b4 (p.2.contains "ValueError"))=c7)
  (o:(S.sup.all λp=>(S.cls.lookup p.1).isSome||match kU K p.1 with|some C=>a0p K C zE "ValueError.__new__" |none=>c6)=c7)
  : XcOk S K:=by
 have two:∀{g:Str×List Str->Str×List Str->Bool},(S.sup.all λp=>S.sup.all λq=>g p q)=c7->∀x a c b,S.sup.lookup x=b4 a->S.sup.lookup c=b4 b->g (x,a) (c,b)=true:=λ{g} h x a c b j k=>XB.mp (XB.mp h (x,a) (fV j)) (c,b) (fV k);refine⟨λx a c e hc=>?_,λx a c e hc=>?_,λx a e=>?_,λx a e r=>?_⟩
 ·obtain⟨b,i⟩:=Xc.mp hc;exact beq_iff_eq.mp (two l x a c b e i)
 ·obtain⟨b,i⟩:=Xc.mp hc;have:=two m x a c b e i;dsimp only at this;split at this
  ·rename_i C d;exact⟨C,d,beq_iff_eq.mp this⟩
  ·cases this
 ·exact beq_iff_eq.mp (XB.mp n (x,a) (fV e))
 ·have:=XB.mp o (x,a) (fV e);dsimp only at this;rw[r]at this;split at this
  ·rename_i C d;exact⟨C,by simpa using this,rW d⟩
  ·simp at this
end L3
namespace L3
open PySem L2
noncomputable def W{a:Type}(o:Option a)(Q:a->Prop):Prop:=∃r,o=b4 r/\Q r
section
variable{α β:Type}{o:Option α}{Q:α->Prop}
theorem W_some{r:α}{Q:α->Prop}:W (b4 r) Q↔Q r:=⟨λ⟨_,h,q⟩=>by cases h;exact q,λq=>⟨r,rfl,q⟩⟩
theorem W_none{Q:α->Prop}:W c4 Q↔False:=⟨λ⟨_,h,_⟩=>(by cases h),λh=>h.elim⟩
theorem W_bind{g:α->Option β}{Q:β->Prop}:W (o.bind g) Q↔W o λr=>W (g r) Q:=by
 cases o with
 |none=>exact⟨λ⟨_,h,_⟩=>(by cases h),λ⟨_,h,_⟩=>(by cases h)⟩|some a=>simp[W_some]
theorem W_map{g:α->β}{Q:β->Prop}:W (o.map g) Q↔W o λr=>Q (g r):=by
 cases o with
 |none=>exact⟨λ⟨_,h,_⟩=>(by cases h),λ⟨_,h,_⟩=>(by cases h)⟩|some a=>simp[W_some]
theorem bQ{a:α->Prop}(h:W o Q)(k:∀r,Q r->a r):W o a:=let⟨r,e,q⟩:=h;⟨r,e,k r q⟩
theorem wB{c:Prop} [Decidable c] {a b:Option α}:W (if c then a else b) Q↔if c then W a Q else W b Q:=by split<;>rfl
end
noncomputable def aS:Option (Fl×aG×Hm)->Option (D×Hm):=λo=>o.bind λp=>match p.1 with|.rt d=>b4 (d,p.2.2)|.nx=>b4 (.non,p.2.2)|_=>c4
noncomputable def mM:Option (Xn×aG×Hm)->Option (Xn×Hm):=λo=>o.map λp=>(p.1,p.2.2)
theorem W_fin{o:Option (Fl×aG×Hm)}{Q:D×Hm->Prop}:W (aS o) Q↔W o λp=>match p.1 with|.rt d=>Q (d,p.2.2)|.nx=>Q (.non,p.2.2)|_=>False:=by
 unfold aS;rw[W_bind];constructor
 ·exact λh=>bQ h λp q=>by obtain⟨a,c,b⟩:=p;cases a<;>simpa[W_some,W_none]using q
 ·exact λh=>bQ h λp q=>by obtain⟨a,c,b⟩:=p;cases a<;>simpa[W_some,W_none]using q
theorem aL{d b:Hm}(h:d<+:b){a:Nat}{c:C}(e:d[a]?=b4 c):b[a]?=b4 c:=by obtain⟨t,rfl⟩:=h;have i:=(VY.mp e).1;rw[Wz i];exact e
theorem aO(a:Hm)(c:C):a<+:a++[c]:=⟨[c],rfl⟩
theorem mO{d b:Hm}(h:d<+:b){a:Nat}(e:d.length<=a)(c:C):d<+:b.set a c:=by obtain⟨t,rfl⟩:=h;rw[Zu _ _ e];exact⟨_,rfl⟩
theorem bA{a b:MS}{d:aG}{c:Hm} {Q}:W (aI a b d c) Q↔W (a d c) λp=>match p.1 with|.nx=>W (b p.2.1 p.2.2) Q|_=>Q p:=by
 unfold aI;rw[W_bind];constructor
 ·exact λh=>bQ h λp q=>by obtain⟨e,d,c⟩:=p;cases e<;>simpa[W_some,W_none]using q
 ·exact λh=>bQ h λp q=>by obtain⟨e,d,c⟩:=p;cases e<;>simpa[W_some,W_none]using q
theorem w_mRet{m:ME}{a:aG}{b:Hm} {Q}:W (a6 m a b) Q↔W (m a b) λp=>Q (.rt p.1,a,p.2):=W_map
theorem lF{m:ME}{a:aG}{b:Hm} {Q}:W (cP m a b) Q↔W (m a b) λp=>Q (.nx,a,p.2):=W_map
theorem bH{i:Nat}{m:ME}{a:aG}{b:Hm} {Q}:W (aK i m a b) Q↔W (m a b) λp=>Q (.nx,a.set i (b4 p.1),p.2):=W_map
theorem cH{b:aG}{a:Hm} {Q}:W (a8 b a) Q↔Q (.nx,b,a):=W_some
theorem b6{t:MT}{a b:MS}{c:aG}{d:Hm} {Q}:W (aX t a b c d) Q↔W (t c d) λp=>if p.1=c7 then W (a c p.2) Q else W (b c p.2) Q:=by unfold aX;rw[W_bind];constructor<;>exact λh=>bQ h λp q=>by obtain⟨x,d⟩:=p;cases x<;>simpa using q
theorem sT{t:MT}{a b:ME}{c:aG}{d:Hm} {Q}:W (gX t a b c d) Q↔W (t c d) λp=>if p.1=c7 then W (a c p.2) Q else W (b c p.2) Q:=by unfold gX;rw[W_bind];constructor<;>exact λh=>bQ h λp q=>by obtain⟨x,d⟩:=p;cases x<;>simpa using q
theorem fW{a b:MT}{d:aG}{c:Hm} {Q}:W (dU a b d c) Q↔W (a d c) λp=>if p.1=c7 then W (b d p.2) Q else Q (c6,p.2):=by unfold dU;rw[W_bind];constructor<;>exact λh=>bQ h λp q=>by obtain⟨x,c⟩:=p;cases x<;>simpa[W_some]using q
theorem mP{a b:MT}{d:aG}{c:Hm} {Q}:W (fD a b d c) Q↔W (a d c) λp=>if p.1=c7 then Q (c7,p.2)else W (b d p.2) Q:=by unfold fD;rw[W_bind];constructor<;>exact λh=>bQ h λp q=>by obtain⟨x,c⟩:=p;cases x<;>simpa[W_some]using q
theorem sU{a:MT}{c:aG}{b:Hm} {Q}:W (eJ a c b) Q↔W (a c b) λp=>Q (!p.1,p.2):=W_map
theorem aU{f:D->D->Hm->Option (D×Hm)}{a b:ME}{c:aG}{d:Hm} {Q}:W (aC f a b c d) Q↔W (a c d) λp=>W (b c p.2) λq=>W (f p.1 q.1 q.2) Q:=by unfold aC;rw[W_bind];simp only[W_bind]
theorem aR{d:D}{b:aG}{a:Hm} {Q}:W (mC d b a) Q↔Q (d,a):=W_some
theorem aF{d:D}{b:aG}{a:Hm} {Q}:W (aA 0 (b4 d::b) a) Q↔Q (d,a):=by show W (b4 (d,a)) Q↔_;exact W_some
theorem aJ{i:Nat}{x:Option D}{b:aG}{a:Hm} {Q}:W (aA (i+1) (x::b) a) Q↔W (aA i b a) Q:=by unfold aA;rw[a2s]
theorem aM{b:aG}{a:Hm} {Q}:W (aD b a) Q↔Q ([],a):=W_some
theorem aP{a:ME}{r:MA}{b:aG}{c:Hm} {Q}:W (aB a r b c) Q↔W (a b c) λp=>W (r b p.2) λq=>Q (p.1::q.1,q.2):=by unfold aB;simp only[W_bind,W_some]
theorem gG {ms:MA}{b:aG}{a:Hm} {Q}:W (bY ms b a) Q↔W (ms b a) fun p=>p.1.length<=Wb/\Q (.tup p.1,p.2):=by
 unfold bY
 rw [W_bind]
 constructor<;>exact fun h=>bQ h fun p q=>by
  first
  | (rw [wB] at q;split at q
     ·exact ⟨by assumption,W_some.mp q⟩
     ·exact (W_none.mp q).elim)
  | (rw [if_pos q.1];exact W_some.mpr q.2)
theorem dZ {ms:MA}{b:aG}{a:Hm} {Q}:W (bO ms b a) Q↔W (ms b a) fun p=>p.1.length<=Wb/\Q (.loc p.2.length,p.2++[.lst p.1]):=by
 unfold bO
 rw [W_bind]
 constructor<;>exact fun h=>bQ h fun p q=>by
  first
  | (rw [wB] at q;split at q
     ·exact ⟨by assumption,W_some.mp q⟩
     ·exact (W_none.mp q).elim)
  | (rw [if_pos q.1];exact W_some.mpr q.2)
theorem bC {f:MF}{ms:MA}{b:aG}{a:Hm} {Q}:W (aH f ms b a) Q↔W (ms b a) fun p=>W (f p.1 p.2) Q:=W_bind
theorem cB{m:ME}{c:aG}{a:Hm} {Q}:W (aN m c a) Q↔W (m c a) λp=>match p.1 with|.bl b=>Q (b,p.2)|_=>False:=by unfold aN;rw[W_bind];constructor<;>exact λh=>bQ h λp q=>by obtain⟨d,a⟩:=p;cases d<;>simpa[W_some,W_none]using q
theorem gP{m:ME}{c:aG}{a:Hm} {Q}:W (cA m c a) Q↔W (m c a) λp=>W (pI p.2 p.1) λb=>Q (b,p.2):=by unfold cA;simp only[W_bind,W_map]
theorem mQ{a:ME}{c:aG}{b:Hm} {Q}:W (bW a c b) Q↔W (a c b) λp=>match p.1 with|.int i=>Q (.int (-i),p.2)|_=>False:=by unfold bW;rw[W_bind];constructor<;>exact λh=>bQ h λp q=>by obtain⟨d,b⟩:=p;cases d<;>simpa[W_some,W_none,W_map,yN]using q
theorem AX{a:ME}{e:aG}{c:Hm} {Q}:W (kI a e c) Q↔W (a e c) λp=>match p.1 with|.bl b=>Q (.bl (!b),p.2)|_=>False:=by unfold kI;rw[W_bind];constructor<;>exact λh=>bQ h λp q=>by obtain⟨d,c⟩:=p;cases d<;>simpa[W_some,W_none]using q
theorem jX{a b:ME}{i:aG}{e:Hm} {Q}:W (iV a b i e) Q↔W (a i e) λp=>match p.1 with|.bl c=>if c=c7 then W (b i p.2) Q else Q (.bl c6,p.2)|_=>False:=by
 unfold iV;rw[W_bind];constructor<;>exact λh=>bQ h λp q=>by
  obtain⟨d,e⟩:=p;cases d with
  |bl c=>cases c<;>simpa[W_some]using q|_=>simpa[W_none]using q
theorem Si{m:ME}{g:MG}{a:aG}{c:Hm} {Q}:W (lU m g a c) Q↔W (m a c) λp=>W (g p.1 a p.2) λb=>Q (.nx,b,p.2):=by unfold lU;simp only[W_bind,W_map]
section
variable{i j:Int}{μ:Hm}{Q:D×Hm->Prop}{a b c d e g:D}
theorem jY:W (bM (.int i) (.int j) μ) Q↔Q (.int (i+j),μ):=W_some
theorem jZ:W (cE (.int i) (.int j) μ) Q↔Q (.int (i-j),μ):=W_some
theorem dN(h:0<j):W (bL (.int i) (.int j) μ) Q↔Q (.int (i%j),μ):=by show W ((if 0<j then b4 (i%j)else c4).map λz=>(D.int z,μ)) Q↔_;rw[if_pos h];exact W_some
theorem Sj:(1073741824:Int)<2^4000:=by decide +kernel
theorem Sk(h:0<j)(k:j<2^4000):W (dD (.int i) (.int j) μ) Q↔Q (.int (i/j),μ):=by show W ((if 0<j/\j<2^4000 then b4 (i/j)else c4).map λz=>(D.int z,μ)) Q↔_;rw[if_pos ⟨h,k⟩];exact W_some
theorem iN(h:0<j)(k:j<1073741824):W (dD (.int i) (.int j) μ) Q↔Q (.int (i/j),μ):=Sk h (Int.lt_trans k Sj)
theorem j0(h:(-(2^64)<i/\i<2^64)\/(-(2^64)<j/\j<2^64)):W (bR (.int i) (.int j) μ) Q↔Q (.int (i*j),μ):=by show W ((if((-(2^64)<i/\i<2^64)\/(-(2^64)<j/\j<2^64))\/(i.natAbs<2^4000/\j.natAbs<2^4000)\/WQ i+WQ j<=134217728 then b4 (i*j)else c4).map λz=>(D.int z,μ)) Q↔_;rw[if_pos (.inl h)];exact W_some
theorem AY(h:0<=j/\j<=1000000/\i.natAbs<2^64):W (fZ (.int i) (.int j) μ) Q↔Q (.int (i^j.toNat),μ):=by show W ((if(0<=j/\j<=1000000/\i.natAbs<2^64)\/(0<=j/\j<=100/\i.natAbs<2^4000)then b4 (i^j.toNat)else c4).map λz=>(D.int z,μ)) Q↔_;rw[if_pos (.inl h)];exact W_some
theorem w_eqI:W (aY c6 (.int i) (.int j) μ) Q↔Q (.bl (i==j),μ):=W_some
theorem Sl:W (aY c7 (.int i) (.int j) μ) Q↔Q (.bl (!(i==j)),μ):=W_some
theorem wC{x y:Str}:W (aY c7 (.str x) (.str y) μ) Q↔Q (.bl (!(x==y)),μ):=W_some
theorem AZ:W (kL (.int i) (.int j) μ) Q↔Q (.bl (decide (i<j)),μ):=W_some
theorem A0:W (oV (.int i) (.int j) μ) Q↔Q (.bl (decide (i<=j)),μ):=W_some
theorem qF:W (fS (.int i) (.int j) μ) Q↔Q (.bl (decide (j<i)),μ):=W_some
theorem j4:W (aE (.tup [a,b]) (.int 0) μ) Q↔Q (a,μ):=W_some
theorem gQ:W (aE (.tup [a,b]) (.int 1) μ) Q↔Q (b,μ):=W_some
theorem Sm:W (aE (.tup [a,b,c,d,e,g]) (.int 0) μ) Q↔Q (a,μ):=W_some
theorem Sn:W (aE (.tup [a,b,c,d,e,g]) (.int 1) μ) Q↔Q (b,μ):=W_some
theorem So:W (aE (.tup [a,b,c,d,e,g]) (.int 2) μ) Q↔Q (c,μ):=W_some
theorem Sq:W (aE (.tup [a,b,c,d,e,g]) (.int 3) μ) Q↔Q (d,μ):=W_some
theorem Sr:W (aE (.tup [a,b,c,d,e,g]) (.int 4) μ) Q↔Q (e,μ):=W_some
theorem Ss:W (aE (.tup [a,b,c,d,e,g]) (.int 5) μ) Q↔Q (g,μ):=W_some
theorem eX{b:Bool}{Q:Bool->Prop}:W (pI μ (.bl b)) Q↔Q b:=W_some
end
theorem fM{b:Hm}{a:Nat}{xs:List D}{i:Int}{d:D}{Q:D×Hm->Prop}(h:b[a]?=b4 (.lst xs))(c:atI xs i=b4 d):W (aE (.loc a) (.int i) b) Q↔Q (d,b):=by
 have:aE (.loc a) (.int i) b=b4 (d,b):=by simp only[aE,gY,b8,h,Wl,c,WE]
 rw[this];exact W_some
end L3
namespace L3
open PySem L2
theorem sV{m:ME}{b:aG}{a:Hm}{Q:kQ×Nat×Hm->Prop}:W (gA m b a) Q↔W (m b a) λp=>W (kR p.2 p.1) λxs=>Q (eM p.1,xs.length+1,p.2):=by unfold gA;simp only[W_bind,W_map]
theorem j5{c:MI}{g:MG}{b:MS}{a:aG}{d:Hm} {Q}:W (cW c g b a d) Q↔W (c a d) λp=>W (fJ p.1 g b p.2.1 0 a p.2.2) Q:=W_bind
theorem A1 {j:Int}{ms:MA}{e:aG}{c:Hm}{Q:kQ×Nat×Hm->Prop}:W (kS ms e c) Q↔W (ms e c) fun p=>match p.1 with|[.int j]=>(-(2 ^ 62)<=j/\j<2 ^ 62)/\Q (g7 0 j.toNat,j.toNat+1,p.2)|_=>False:=by
 unfold kS
 rw [W_bind]
 constructor<;>exact fun h=>bQ h fun p q=>by
  obtain ⟨l,c⟩:=p
  match l,q with
  | [],q=>simpa [W_none] using q
  | [d],q=>
   cases d with
   | int j=>
    first
    | (dsimp only at q;rw [wB] at q;split at q
       ·rename_i i;exact ⟨i,W_some.mp q⟩
       ·exact (W_none.mp q).elim)
    | (dsimp only;rw [if_pos q.1];exact W_some.mpr q.2)
   | _=>simpa [W_none] using q
  | a::b::l,q=>simpa [W_none] using q
theorem FQ {ms:MA}{b:aG}{a:Hm}{Q:kQ×Nat×Hm->Prop}:W (pE ms b a) Q↔W (ms b a) fun p=>match p.1 with|[.int i,.int j]=>(-(2 ^ 62)<=i/\i<2 ^ 62/\-(2 ^ 62)<=j/\j<2 ^ 62)/\Q (g7 i (j - i).toNat,(j - i).toNat+1,p.2)|_=>False:=by
 unfold pE
 rw [W_bind]
 constructor<;>exact fun h=>bQ h fun p q=>by
  split at q
  ·rename_i e
   try rw [e]
   first
   | (rw [wB] at q;split at q
      ·rename_i c;exact ⟨c,W_some.mp q⟩
      ·exact (W_none.mp q).elim)
   | ((try dsimp only);rw [if_pos q.1];exact W_some.mpr q.2)
  ·first
   | exact (W_none.mp q).elim
   | exact q.elim
theorem qG {j:kQ}{g:MG}{b:MS}{N:Nat}{Q:Fl×aG×Hm->Prop}(I:Nat->aG->Hm->Prop)
  (o:∀ i c a,i<N->I i c a->∃ d k,j a i=b4 (b4 d)/\g d c a=b4 k/\W (b k a) fun p=>match p.1 with|.nx=>I (i+1) p.2.1 p.2.2|.ct=>I (i+1) p.2.1 p.2.2|.bk=>Q (.nx,p.2.1,p.2.2)|.rt d=>Q (.rt d,p.2.1,p.2.2))
  (e:∀ c a,I N c a->j a N=b4 c4/\Q (.nx,c,a)):∀ (m i:Nat)(c:aG)(a:Hm),i+m=N->I i c a->W (fJ j g b (m+1) i c a) Q
 | 0,i,c,a,h,hI=>by
  have:i=N:=by omega
  subst this
  obtain ⟨r,s⟩:=e c a hI
  unfold fJ
  rw [r]
  exact W_some.mpr s
 | m+1,i,c,a,h,hI=>by
  obtain ⟨d,k,r,s,v⟩:=o i c a (by omega) hI
  unfold fJ
  rw [r]
  simp only [Wl,s]
  rw [W_bind]
  refine bQ v fun p q=>?_
  obtain ⟨u,n,l⟩:=p
  cases u with
  | nx=>exact qG I o e m (i+1) n l (by omega) q
  | ct=>exact qG I o e m (i+1) n l (by omega) q
  | bk=>exact W_some.mpr q
  | rt d=>exact W_some.mpr q
theorem A2{a:Nat}{xs:List D}{g:MG}{b:MS}{h:aG}{c:Hm}{Q:Fl×aG×Hm->Prop}(I:Nat->aG->Hm->Prop)(o:I 0 h c)(m:∀i h c,I i h c->c[a]?=b4 (.lst xs))
  (n:∀i d h c,xs[i]?=b4 d->I i h c->∃j,g d h c=b4 j/\W (b j c) λp=>match p.1 with|.nx=>I (i+1) p.2.1 p.2.2|.ct=>I (i+1) p.2.1 p.2.2|.bk=>Q (.nx,p.2.1,p.2.2)|.rt d=>Q (.rt d,p.2.1,p.2.2))
  (l:∀h c,I xs.length h c->Q (.nx,h,c)):W (fJ (eM (.loc a)) g b (xs.length+1) 0 h c) Q:=by
 refine qG (N:=xs.length) I (λi h c s k=>?_) (λh c k=>⟨?_,l h c k⟩) xs.length 0 h c (by omega) o
 ·have e:xs[i]?=b4 xs[i]:=WM s;obtain⟨j,q,r⟩:=n i xs[i] h c e k;refine⟨xs[i],j,?_,q,r⟩;simp only[eM,kR,b8,m i h c k,WE,e]
 ·simp only[eM,kR,b8,m _ h c k,WE];simp
theorem Su{x:D}{xs:List D}(l:∀a,kR a x=b4 xs){g:MG}{b:MS}{c:aG}{a:Hm}{Q:Fl×aG×Hm->Prop}(I:Nat->aG->Hm->Prop)(n:I 0 c a)
  (m:∀i d c a,xs[i]?=b4 d->I i c a->∃h,g d c a=b4 h/\W (b h a) λp=>match p.1 with|.nx=>I (i+1) p.2.1 p.2.2|.ct=>I (i+1) p.2.1 p.2.2|.bk=>Q (.nx,p.2.1,p.2.2)|.rt d=>Q (.rt d,p.2.1,p.2.2))
  (j:∀c a,I xs.length c a->Q (.nx,c,a)):W (fJ (eM x) g b (xs.length+1) 0 c a) Q:=by
 refine qG (N:=xs.length) I (λi c a r k=>?_) (λc a k=>⟨?_,j c a k⟩) xs.length 0 c a (by omega) n
 ·have e:xs[i]?=b4 xs[i]:=WM r;obtain⟨h,o,q⟩:=m i xs[i] c a e k;refine⟨xs[i],h,?_,o,q⟩;simp only[eM,l,WE,e]
 ·simp only[eM,l,WE];simp
theorem wD{lo:Int}{n:Nat}{g:MG}{b:MS}{c:aG}{a:Hm}{Q:Fl×aG×Hm->Prop}(I:Nat->aG->Hm->Prop)(m:I 0 c a)
  (l:∀(i:Nat) c a,i<n->I i c a->∃e,g (.int (lo+i)) c a=b4 e/\W (b e a) λp=>match p.1 with|.nx=>I (i+1) p.2.1 p.2.2|.ct=>I (i+1) p.2.1 p.2.2|.bk=>Q (.nx,p.2.1,p.2.2)|.rt d=>Q (.rt d,p.2.1,p.2.2))
  (h:∀c a,I n c a->Q (.nx,c,a)):W (fJ (g7 lo n) g b (n+1) 0 c a) Q:=by
 refine qG (N:=n) I (λi c a k j=>?_) (λc a j=>⟨?_,h c a j⟩) n 0 c a (by omega) m
 ·obtain⟨e,o,q⟩:=l i c a k j;exact⟨_,e,by simp only[g7,if_pos k],o,q⟩
 ·simp only[g7,Y7,if_false]
theorem FR{c:Hm}{a:Nat}{b:List D}{y:D}(h:c[a]?=b4 (.lst b))(d:b.length<Wb):oY c a y=b4 (c.set a (.lst (b++[y]))):=by unfold oY;rw[h];exact if_pos d
theorem A3{w:kQ}{c:MT}{e:ME}{H:aG}{μ0:Hm}{xs:List D}{p:D->Bool}{v:D->D}{Q:Hm->Prop}(z:∀a i,μ0<+:a->w a i=b4 xs[i]?)(I:xs.length<=Wb)
  (hc:∀d a,d∈xs->μ0<+:a->W (c (H++[b4 d]) a) λr=>r.1=p d/\a<+:r.2)
  (A:∀d a,d∈xs->p d=c7->μ0<+:a->W (e (H++[b4 d]) a) λr=>r.1=v d/\a<+:r.2)
  (aS:∀a,μ0<+:a->a[μ0.length]?=b4 (.lst ((xs.filter p).map v))->Q a) :
  ∀(m i:Nat)(a:Hm),i+m=xs.length->μ0<+:a->a[μ0.length]?=b4 (.lst (((xs.take i).filter p).map v))->W (kP w oZ c e H μ0.length (m+1) i a) Q
 |0,i,a,hi,hp,ha=>by
  have:i=xs.length:=by omega
  subst this;unfold kP;rw[z a _ hp];rw[Zv (Wa _)];simp only[Wl];refine W_some.mpr (aS a hp ?_);simpa using ha
 |m+1,i,a,hi,hp,ha=>by
  have s:i<xs.length:=by omega
  have J:xs[i]?=b4 xs[i]:=WM s;have j:xs[i]∈xs:=a1n s;unfold kP;rw[z a _ hp,J];simp only[Wl,oZ];rw[W_bind];refine bQ (hc _ a j hp) λr q=>?_;obtain⟨b,x⟩:=r;obtain⟨K,u⟩:=q;dsimp only at K u ⊢;subst K;have h:xs.take (i+1)=xs.take i++[xs[i]]:=by rw[List.take_succ,J];rfl
  have l:=aL u ha;cases k:p xs[i]with
  |false=>refine A3 z I hc A aS m (i+1) x (by omega) (hp.trans u) ?_;rw[l,h,Ye];simp[k]|true=>
   dsimp only;rw[W_bind];refine bQ (A _ x j k (hp.trans u)) λr q=>?_;obtain⟨y,G⟩:=r;obtain⟨L,E⟩:=q;dsimp only at L E ⊢;subst L;have n:=aL E l;have o:(((xs.take i).filter p).map v).length<Wb:=by have M:=Xv p (xs.take i);rw[V0];rw[Xz]at M;omega
   rw[FR n o,Wl];have B:μ0<+:G:=(hp.trans u).trans E;refine A3 z I hc A aS m (i+1) _ (by omega) (mO B (Wa _) _) ?_;rw[Wh (VY.mp n).1,h,Ye];simp[k]
theorem wF{w:MI}{c:MT}{e:ME}{b:aG}{x:Hm}{xs:List D}{p:D->Bool}{v:D->D}{Q:D×Hm->Prop}
  (hit:W (w b x) λr=>(∀a i,r.2.2<+:a->r.1 a i=b4 xs[i]?)/\r.2.1=xs.length+1/\xs.length<=Wb /\
   (∀d a,d∈xs->r.2.2<+:a->W (c (b++[b4 d]) a) λs=>s.1=p d/\a<+:s.2)/\(∀d a,d∈xs->p d=c7->r.2.2<+:a->W (e (b++[b4 d]) a) λs=>s.1=v d/\a<+:s.2) /\
   ∀a,r.2.2<+:a->a[r.2.2.length]?=b4 (.lst ((xs.filter p).map v))->Q (.loc r.2.2.length,a)):W (iI w c e b x) Q:=by
 unfold iI nJ;rw[W_bind];refine bQ hit λr q=>?_;obtain⟨y,n,h⟩:=r;obtain⟨j,k,l,m,o,u⟩:=q;dsimp only at j k l m o u ⊢;subst k;rw[W_map];exact A3 j l m o u xs.length 0 (h++[.lst []]) (by omega) (aO _ _) (by simp)
theorem Sv{c:Hm}{a:Nat}{xs:List D}(h:c[a]?=b4 (.lst xs)):∀b i,c<+:b->eM (.loc a) b i=b4 xs[i]?:=λb i d=>by simp only[eM,kR,b8,aL d h,WE]
theorem FT{xs:List D}{b:Hm}:∀a i,b<+:a->eM (.tup xs) a i=b4 xs[i]?:=λa i c=>rfl
noncomputable def lG(lo:Int)(n:Nat):List D:=(Xh n).map λ(i:Nat)=>.int (lo+(i:Int))
theorem Sw{lo:Int}{n:Nat}{b:Hm}:∀a i,b<+:a->g7 lo n a i=b4 (lG lo n)[i]?:=λa i _=>by
 unfold g7 lG;rw[WD];by_cases h:i<n
 ·rw[if_pos h,List.getElem?_range h];rfl
 ·rw[if_neg h,Zv (by simpa using ZR.mp h)];rfl
noncomputable abbrev P(x y:Int):D:=.tup [.int x,.int y]
noncomputable abbrev PP(p:Int×Int):D:=P p.1 p.2
theorem FU(n:Nat)(e:Hm)(p q:Int×Int):cR (n+2) e (PP p) (PP q)=b4 (p==q):=by obtain⟨a,b⟩:=p;obtain⟨c,d⟩:=q;show b4 (a==c&&(b==d&&c7))=b4 ((a,b)==(c,d));rw[a4G];rfl
theorem FV(n:Nat)(a:Hm):∀ps qs:List (Int×Int),fY (iW (n+2) a) (ps.map PP) (qs.map PP)=b4 (ps==qs)
 |[],[]=>rfl|[],_::_=>rfl|_::_,[]=>rfl|p::ps,q::qs=>by rw[We,We];show(cR (n+2) a (PP p) (PP q)).bind (λb=>(fY (iW (n+2) a) (ps.map PP) (qs.map PP)).map λc=>b&&c)=_;rw[FU,FV n a ps qs];rfl
theorem Sx{c:Hm}{a b:Nat}{ps qs:List (Int×Int)}(h:c[a]?=b4 (.lst (ps.map PP)))(i:c[b]?=b4 (.lst (qs.map PP))):cR 8 c (.loc a) (.loc b)=b4 (ps==qs):=by
 have d:cQ c (.loc a)=b4 (.lst (ps.map PP)):=by simp only[cQ,h]
 have e:cQ c (.loc b)=b4 (.lst (qs.map PP)):=by simp only[cQ,i]
 show(cQ c (.loc a)).bind (λx=>(cQ c (.loc b)).bind λy=>gZ (iW 7 c) x y)=_;rw[d,e];exact FV 5 c ps qs
theorem FW(n:Nat)(a:Hm):∀ps qs:List Int,fY (iW (n+1) a) (ps.map D.int) (qs.map D.int)=b4 (ps==qs)
 |[],[]=>rfl|[],_::_=>rfl|_::_,[]=>rfl|p::ps,q::qs=>by rw[We,We];show(cR (n+1) a (.int p) (.int q)).bind (λb=>(fY (iW (n+1) a) (ps.map D.int) (qs.map D.int)).map λc=>b&&c)=_;rw[FW n a ps qs];rfl
theorem jG{c:Hm}{a b:Nat}{xs d:List D}{Q:D×Hm->Prop}(e:c[a]?=b4 (.lst xs))(h:c[b]?=b4 (.lst d))(i:xs.length+d.length<=Wb):W (bM (.loc a) (.loc b) c) Q↔Q (.loc c.length,c++[.lst (xs++d)]):=by simp only[bM,e,h,if_pos i];exact W_some
theorem mR{f:D->List D->Hm->Option (D×Hm)}{b:ME}{ms:MA}{a:aG}{c:Hm}{Q:D×Hm->Prop}(h:W (b a c) λp=>jS p.2 p.1=c7/\W (ms a p.2) λq=>W (f p.1 q.1 q.2) Q):W (dJ f b ms a c) Q:=by unfold dJ;rw[W_bind];refine bQ h λp q=>?_;rw[q.1];exact W_bind.mpr q.2
theorem FX{b:Hm}{a:Nat}{xs:List D}(h:b[a]?=b4 (.lst xs)):jS b (.loc a)=true:=by simp only[jS,h]
theorem sW{b:Hm}{a:Nat}{xs:List D}{y:D}{Q:D×Hm->Prop}(h:b[a]?=b4 (.lst xs))(c:xs.length<Wb):W (fF (.loc a) [y] b) Q↔Q (.non,b.set a (.lst (xs++[y]))):=by simp only[fF,FR h c,WE];exact W_some
theorem Sy{c:Hm}{a b:Nat}{xs d:List D}{Q:D×Hm->Prop}(h:c[a]?=b4 (.lst xs))(e:c[b]?=b4 (.lst d))(i:xs.length+d.length<=Wb):W (pH (.loc a) [.loc b] c) Q↔Q (.non,c.set a (.lst (xs++d))):=by simp only[pH,h,e,if_pos i];exact W_some
theorem FY{a:Hm}{i:Int}{Q:D×Hm->Prop}:W (gJ [.int i,.ty "bool"] a) Q↔Q (.bl c6,a):=W_some
theorem Sz{a:Hm}{i:Int}{Q:D×Hm->Prop}:W (gJ [.int i,.ty "int"] a) Q↔Q (.bl c7,a):=W_some
theorem SA{a:Hm}{b:Bool}{Q:D×Hm->Prop}:W (gJ [.bl b,.ty "bool"] a) Q↔Q (.bl c7,a):=W_some
theorem lH{b:Hm}{a:Nat}{xs:List D}{Q:D×Hm->Prop}(h:b[a]?=b4 (.lst xs)):W (cY [.loc a] b) Q↔Q (.int xs.length,b):=by simp only[cY,rN,b8,h,WE];exact W_some
theorem A4{a:Hm}{xs:List D}{Q:D×Hm->Prop}:W (cY [.rol xs] a) Q↔Q (.int xs.length,a):=W_some
theorem sX{b:Hm}{a:Nat}{xs:List D}{Q:List D->Prop}(h:b[a]?=b4 (.lst xs)):W (kR b (.loc a)) Q↔Q xs:=by simp only[kR,b8,h];exact W_some
theorem bF(a:Hm)(c:C):(a++[c])[a.length]?=b4 c:=by simp
end L3
namespace L3
open PySem L2
theorem FZ{f g:D->D->Hm->Option (D×Hm)}{a b c:ME}{e:aG}{i:Hm} {Q}:W (mF f g a b c e i) Q↔W (a e i) λp=>W (b e p.2) λq=>W (f p.1 q.1 q.2) λr=>match r.1 with|.bl k=>if k=c7 then W (c e r.2) λt=>W (g q.1 t.1 t.2) Q else Q (.bl c6,r.2)|_=>False:=by
 unfold mF;simp only[W_bind];constructor<;>exact λh=>bQ h λp q=>bQ q λm l=>bQ l λr j=>by
  obtain⟨d,i⟩:=r;cases d with
  |bl k=>cases k<;>simpa[W_some,W_bind]using j|_=>simpa[W_none]using j
section
variable{i j:Int}{μ:Hm}{Q:D×Hm->Prop}
theorem qH:W (cL c6 .non .non μ) Q↔Q (.bl c7,μ):=W_some
theorem mS:W (cL c7 .non .non μ) Q↔Q (.bl c6,μ):=W_some
theorem sY{xs:List D}:W (cL c6 (.tup xs) .non μ) Q↔Q (.bl c6,μ):=W_some
theorem wG{xs:List D}:W (cL c7 (.tup xs) .non μ) Q↔Q (.bl c7,μ):=W_some
theorem SD:W (vB [.int i,.int j] μ) Q↔Q (.int (min i j),μ):=by
 have:(if j<i then j else i)=min i j:=by split<;>omega
 show W (b4 (D.int (if j<i then j else i),μ)) Q↔_;rw[this];exact W_some
theorem SE:W (vA [.int i,.int j] μ) Q↔Q (.int (max i j),μ):=by
 have:(if j>i then j else i)=max i j:=by split<;>omega
 show W (b4 (D.int (if j>i then j else i),μ)) Q↔_;rw[this];exact W_some
end
theorem SF{a:ME}{lo c st:MO}{b:aG}{j:Hm}{Q:D×Hm->Prop}(h:W (a b j) λp=>∃l,p.1=.loc l/\W (lo b p.2) λq=>W (c b q.2) λr=>W (st b r.2) λt=>t.1≠b4 0/\∃xs,t.2[l]?=b4 (.lst xs)/\(eF xs q.1 r.1 t.1).length<=Wb/\Q (.loc t.2.length,t.2++[.lst (eF xs q.1 r.1 t.1)])):W (nO a lo c st b j) Q:=by unfold nO;rw[W_bind];refine bQ h λp q=>?_;obtain⟨d,u⟩:=p;obtain⟨l,e,i⟩:=q;dsimp only at e i ⊢;subst e;rw[W_bind];refine bQ i λs q=>?_;rw[W_bind];refine bQ q λr q=>?_;rw[W_bind];refine bQ q λt q=>?_;obtain⟨k,xs,m,n,o⟩:=q;rw[if_pos k];simp only[u4,m,Wl];rw[if_pos n];exact W_some.mpr o
theorem w_mTrue{b:aG}{a:Hm}{Q:Bool×Hm->Prop}:W (jQ b a) Q↔Q (c7,a):=W_some
theorem lI{o i v:ME}{a:aG}{c:Hm} {Q}:W (dR o i v a c) Q↔W (v a c) λp=>W (o a p.2) λq=>W (i a q.2) λr=>W (kZ q.1 r.1 p.1 r.2) λb=>Q (.nx,a,b):=by unfold dR zJ;simp only[W_bind,W_map]
section
variable{μ:Hm}{a:Nat}{kvs:List (List Int×D)}{k:List Int}{d y:D}{ρ:aG}{Q:D×Hm->Prop}
theorem qI:W (i9 ρ μ) Q↔Q (.loc μ.length,μ++[.dT []]):=W_some
theorem SG(h:μ[a]?=b4 (.dT kvs))(b:fE y=b4 k)(c:cF kvs k=b4 d):W (aE (.loc a) y μ) Q↔Q (d,μ):=by simp only[aE,h,b,Wl,c,WE];exact W_some
theorem sZ{Q:Hm->Prop}(h:μ[a]?=b4 (.dT kvs))(b:fE y=b4 k)(c:kvs.length<Wb):W (kZ (.loc a) y d μ) Q↔Q (μ.set a (.dT (fT kvs k d))):=by simp only[kZ,rZ,h,b,Wl,if_pos c];exact W_some
theorem SH(h:μ[a]?=b4 (.dT kvs)):W (cY [.loc a] μ) Q↔Q (.int kvs.length,μ):=by simp only[cY,h];exact W_some
theorem F0(h:μ[a]?=b4 (.dT kvs)):W (fU [.loc a] μ) Q↔Q (.loc μ.length,μ++[.lst (kvs.map λk=>D.tup (k.1.map D.int))]):=by simp only[fU,h];exact W_some
theorem A5{xs:List D}(h:μ[a]?=b4 (.lst xs)):W (fU [.loc a] μ) Q↔Q (.loc μ.length,μ++[.lst xs]):=by simp only[fU,h,rO,b8,WE];exact W_some
end
theorem SI{b:Hm}{a:Nat}{xs:List D}{Q:D×Hm->Prop}(h:b[a]?=b4 (.lst xs)):W (mG [.loc a] b) Q↔Q (.loc b.length,b++[.lst xs.reverse]):=by simp only[mG,h];exact W_some
theorem SJ{ms:MA}{b:aG}{a:Hm}{Q:kQ×Nat×Hm->Prop}(h:W (ms b a) λp=>∃i j c,p.1=[.int i,.int j,.int c]/\r8 i j c=c7/\Q (pN i c (W3 i j c).toNat,(W3 i j c).toNat+1,p.2)):W (pO ms b a) Q:=by unfold pO;rw[W_bind];refine bQ h λp q=>?_;obtain⟨i,j,c,d,e,k⟩:=q;rw[d];dsimp only;rw[if_pos e];exact W_some.mpr k
theorem SK{lo c:Int}{n:Nat}{g:MG}{b:MS}{e:aG}{a:Hm}{Q:Fl×aG×Hm->Prop}(I:Nat->aG->Hm->Prop)(o:I 0 e a)
  (m:∀(i:Nat) e a,i<n->I i e a->∃h,g (.int (lo+(i:Nat)*c)) e a=b4 h/\W (b h a) λp=>match p.1 with|.nx=>I (i+1) p.2.1 p.2.2|.ct=>I (i+1) p.2.1 p.2.2|.bk=>Q (.nx,p.2.1,p.2.2)|.rt d=>Q (.rt d,p.2.1,p.2.2))
  (j:∀e a,I n e a->Q (.nx,e,a)):W (fJ (pN lo c n) g b (n+1) 0 e a) Q:=by
 refine qG (N:=n) I (λi e a l k=>?_) (λe a k=>⟨?_,j e a k⟩) n 0 e a (by omega) o
 ·obtain⟨h,q,r⟩:=m i e a l k;refine⟨_,h,?_,q,r⟩;simp only[pN,l,if_true]
 ·simp[pN]
theorem F1{m c:MS}{r:MR}{sup:Str->Option Bool}{i:Nat}{e b:aG}{d a:Hm}{x:Xn}{Q:Fl×aG×Hm->Prop}(h:r e d=b4 (x,b,a))(j:sup x.1=b4 c7) :
  W (jU m r sup i c e d) Q↔W (c (b.set i (b4 (.loc a.length))) (a++[C.exc x.1 (x.2.map (·.1)) (x.2.map (·.2))])) λq=>Q (q.1,q.2.1.set i c4,q.2.2):=by
 unfold jU;rw[h];dsimp only;rw[if_pos j];exact W_map
theorem SM{m c:MS}{r:MR}{sup:Str->Option Bool}{i:Nat}{b:aG}{a:Hm}{Q:Fl×aG×Hm->Prop}(h:r b a=c4):W (jU m r sup i c b a) Q↔W (m b a) Q:=by unfold jU;rw[h]
theorem SN{sup:Str->Option Bool}{m:ME}{i:aG}{e:Hm}{Q:D×Hm->Prop}:W (dY sup m i e) Q↔W (m i e) λp=>∃a x ns ds b,p.1=.loc a/\p.2[a]?=b4 (.exc x ns ds)/\sup x=b4 b/\Q (.bl b,p.2):=by
 unfold dY;rw[W_bind];constructor
 ·rintro⟨p,h,a,c,d⟩;refine⟨p,h,?_⟩;split at c
  ·rename_i j n;split at c
   ·rename_i x ns ds q;obtain⟨b,o,rfl⟩:=VZ.mp c;exact⟨j,x,ns,ds,b,n,q,o,d⟩
   ·cases c
  ·cases c
 ·rintro⟨p,h,a,x,ns,ds,b,c,d,k,l⟩;refine⟨p,h,_,?_,l⟩;rw[c];dsimp only;rw[d];dsimp only;rw[k];rfl
theorem w_rCall{r:RF}{ms:MA}{a:aG}{b:Hm}{Q:Xn×aG×Hm->Prop}:W (lY r ms a b) Q↔W (ms a b) λp=>W (r p.1 p.2) λq=>Q (q.1,a,q.2):=by unfold lY;rw[W_bind];exact⟨λ⟨p,h,k⟩=>⟨p,h,W_map.mp k⟩,λ⟨p,h,k⟩=>⟨p,h,W_map.mpr k⟩⟩
theorem w_rRaise{x:Str}{ms:MA}{a:aG}{b:Hm}{Q:Xn×aG×Hm->Prop}:W (l6 x ms a b) Q↔W (ms a b) λp=>Q ((x,[]),a,p.2):=by unfold l6;exact W_map
theorem w_rIf{t:MT}{b c:MR}{a:aG}{d:Hm}{Q:Xn×aG×Hm->Prop}:W (hV t b c a d) Q↔W (t a d) λp=>W (if p.1=c7 then b a p.2 else c a p.2) Q:=by unfold hV;exact W_bind
theorem gH{m:MS}{a i:MR}{c:aG}{b:Hm}{Q:Xn×aG×Hm->Prop}(h:W (a c b) Q):W (bX m a i c b) Q:=by obtain⟨p,d,e⟩:=h;refine⟨p,?_,e⟩;unfold bX;rw[d]
theorem F2{m:MS}{c d:MR}{b:aG}{a:Hm}{Q:Xn×aG×Hm->Prop}(h:c b a=c4)(k:W (m b a) λp=>p.1=.nx/\W (d p.2.1 p.2.2) Q):W (bX m c d b a) Q:=by obtain⟨⟨f,o,n⟩,e,i,p,j,l⟩:=k;cases i;refine⟨p,?_,l⟩;unfold bX;rw[h,e];exact j
theorem tD{o:Option (Xn×aG×Hm)}{Q:Xn×Hm->Prop}:W (mM o) Q↔W o λp=>Q (p.1,p.2.2):=W_map
end L3
namespace Lw
open PySem L2 L3
noncomputable def ds:List (Str×Stmt):=(("is_whole",aQ 16)::("is_quarter",aQ 18)::("line_of",aQ 19)::("number_by",aQ 22)::("hand_of",aQ 23)::("mirrored",aQ 24)::("laying_by",aQ 27)::("mirror_in",aQ 28)::("led",aQ 29)::("then",aQ 30)::("is_size",aQ 33)::("check_size",aQ 34)::("places_within",aQ 35)::("quarters_in",aQ 36)::("copied_piles",aQ 45)::("folded_layings",aQ 46)::("folded_piles",aQ 47)::("check_fold",aQ 48)::("unfolded",aQ 50)::("_law_cell",aQ 53)::("_law_quarters",aQ 54)::("_law_led",aQ 55)::("_law_over",aQ 56)::("_law_value",aQ 57)::("_law_begun",aQ 58)::("_law_folded",aQ 59)::("_law_plan",aQ 60)::("_law_class",aQ 61)::("_law_no_size",aQ 62)::("_law_do",aQ 63)::("_law_deed",aQ 64)::("_law_stands",aQ 65)::("law",aQ 66)::[])
noncomputable def A6:D:=(.tup [(.int 1),(.int 0),(.int 0),(.int 1),(.int 0),(.int 0)])
noncomputable def S:Sig:={fn:=(("is_whole",1)::("is_quarter",1)::("line_of",1)::("number_by",2)::("hand_of",2)::("mirrored",2)::("laying_by",3)::("mirror_in",1)::("led",2)::("then",2)::("is_size",1)::("check_size",2)::("places_within",2)::("quarters_in",2)::("copied_piles",1)::("folded_layings",3)::("folded_piles",4)::("check_fold",2)::("unfolded",2)::("_law_cell",2)::("_law_quarters",2)::("_law_led",2)::("_law_over",2)::("_law_value",2)::("_law_begun",2)::("_law_folded",4)::("_law_plan",3)::("_law_class",1)::("_law_no_size",2)::("_law_do",3)::("_law_deed",4)::("_law_stands",2)::("law",1)::[]),con:=[("STILL",A6)],tab:=[],no:=["ValueError","bool","dict","int","isinstance","len","list","max","min","range","reversed"],dIt:=["piles","layings","_law_state"],dEq:=["_law_state"],dMe:=["_law_piles","_law_layings","[]"],cls:=[("NoEdge","edge"),("Twice","edge"),("Barred","corner")],sup:=[("CreaseError",["CreaseError","ValueError"]),("NoSize",["NoSize","CreaseError","ValueError"]),("NoMark",["NoMark","CreaseError","ValueError"]),("NoText",["NoText","CreaseError","ValueError"]),("NoRound",["NoRound","CreaseError","ValueError"]),("NoOrder",["NoOrder","CreaseError","ValueError"]),("TooMany",["TooMany","CreaseError","ValueError"]),("NoFold",["NoFold","CreaseError","ValueError"]),("NoRow",["NoRow","CreaseError","ValueError"]),("NoName",["NoName","CreaseError","ValueError"]),("Taken",["Taken","CreaseError","ValueError"]),("NoEdge",["NoEdge","CreaseError","ValueError"]),("Twice",["Twice","CreaseError","ValueError"]),("Barred",["Barred","CreaseError","ValueError"])],rz:=["check_size","check_fold","Folding.fold","Folding.back","Folding.__init__"],uf:=[("_law_class",aQ 61)],ob:=[("wide","Folding"),("high","Folding"),("states","Folding")],mt:=[("fold","Folding","Folding.fold",3),("back","Folding","Folding.back",0),("many","Folding","Folding.many",0),("layings","Folding","Folding.layings",0),("piles","Folding","Folding.piles",0)],mc:=[("Folding","Folding.__init__",2)],ms:=[("Folding.__init__",cV 51 0),("Folding.fold",cV 51 1),("Folding.back",cV 51 2),("Folding.many",cV 51 3),("Folding.layings",cV 51 4),("Folding.piles",cV 51 5)],md:=[("fold","Folding","Folding.fold",1,[.bl c7,.bl c7])],mw:=[("fold","Folding","Folding.fold","over","ahead")]}
@[irreducible] noncomputable def f(k:Nat)(x:Str):MF:=gD S ds k x
@[irreducible] noncomputable def g(k:Nat)(x:Str):RF:=jF S ds k x
noncomputable abbrev sup(c x:Str):Option Bool:=(S.sup.lookup x).map λa=>a.contains c
end Lw
namespace Lw
open PySem L2 L3
theorem A7(k:Nat)(a:D)(b:Hm):f (k+1) "is_whole" [a] b=aS ((a6 (iV (aH gJ (aB (aA 0) (aB (mC (.ty "int")) aD))) (kI (aH gJ (aB (aA 0) (aB (mC (.ty "bool")) aD)))))) [b4 a] b):=by kernel_rfl
theorem SO(k:Nat)(a:D)(b:Hm):f (k+1) "is_quarter" [a] b=aS ((aI (aX (aN (aC (aY c6) (aC bL (aC aE (aA 0) (mC (.int 0))) (mC (.int 2))) (mC (.int 1)))) (a6 (aC (aY c6) (aC bL (aC aE (aA 0) (mC (.int 1))) (mC (.int 4))) (mC (.int 2)))) a8) (a6 (iV (aC (aY c6) (aC bL (aC aE (aA 0) (mC (.int 0))) (mC (.int 4))) (mC (.int 2))) (aC (aY c6) (aC bL (aC aE (aA 0) (mC (.int 1))) (mC (.int 2))) (mC (.int 1)))))) [b4 a] b):=by kernel_rfl
theorem SQ(k:Nat)(a:D)(b:Hm):f (k+1) "line_of" [a] b=aS ((aI (aX (aN (aC (aY c6) (aC bL (aC aE (aA 0) (mC (.int 0))) (mC (.int 2))) (mC (.int 1)))) (a6 (gX (aN (aC (aY c6) (aC bL (aC aE (aA 0) (mC (.int 0))) (mC (.int 4))) (aC bL (aC aE (aA 0) (mC (.int 1))) (mC (.int 4))))) (mC (.str "falling")) (mC (.str "rising")))) a8) (a6 (gX (aN (aC (aY c6) (aC bL (aC aE (aA 0) (mC (.int 1))) (mC (.int 4))) (mC (.int 0)))) (mC (.str "level")) (mC (.str "upright"))))) [b4 a] b):=by kernel_rfl
theorem SR(k:Nat)(a b:D)(c:Hm):f (k+1) "number_by" [a,b] c=aS ((aI (aX (aN (aC (aY c6) (aA 0) (mC (.str "level")))) (a6 (aC aE (aA 1) (mC (.int 1)))) a8) (aI (aX (aN (aC (aY c6) (aA 0) (mC (.str "upright")))) (a6 (aC aE (aA 1) (mC (.int 0)))) a8) (aI (aX (aN (aC (aY c6) (aA 0) (mC (.str "falling")))) (a6 (aC cE (aC aE (aA 1) (mC (.int 0))) (aC aE (aA 1) (mC (.int 1))))) a8) (a6 (aC bM (aC aE (aA 1) (mC (.int 0))) (aC aE (aA 1) (mC (.int 1)))))))) [b4 a,b4 b] c):=by kernel_rfl
theorem SS(k:Nat)(a b:D)(c:Hm):f (k+1) "hand_of" [a,b] c=aS ((aI (aK 2 (aH (f k "line_of") (aB (aA 1) aD))) (aI (aK 3 (aC cE (aH (f k "number_by") (aB (aA 2) (aB (aA 0) aD))) (aH (f k "number_by") (aB (aA 2) (aB (aA 1) aD))))) (aI (aX (aN (aC fS (aA 3) (mC (.int 0)))) (a6 (mC (.int 1))) a8) (a6 (gX (aN (aC kL (aA 3) (mC (.int 0)))) (bW (mC (.int 1))) (mC (.int 0))))))) [b4 a,b4 b,c4,c4] c):=by kernel_rfl
theorem SU(k:Nat)(a b:D)(c:Hm):f (k+1) "mirrored" [a,b] c=aS ((aI (aK 2 (aC aE (aA 0) (mC (.int 0)))) (aI (aK 3 (aC aE (aA 0) (mC (.int 1)))) (aI (aK 4 (aH (f k "line_of") (aB (aA 1) aD))) (aI (aK 5 (aH (f k "number_by") (aB (aA 4) (aB (aA 1) aD)))) (aI (aX (aN (aC (aY c6) (aA 4) (mC (.str "level")))) (a6 (bY (aB (aA 2) (aB (aC cE (aC bR (mC (.int 2)) (aA 5)) (aA 3)) aD)))) a8) (aI (aX (aN (aC (aY c6) (aA 4) (mC (.str "upright")))) (a6 (bY (aB (aC cE (aC bR (mC (.int 2)) (aA 5)) (aA 2)) (aB (aA 3) aD)))) a8) (aI (aX (aN (aC (aY c6) (aA 4) (mC (.str "falling")))) (a6 (bY (aB (aC bM (aA 3) (aA 5)) (aB (aC cE (aA 2) (aA 5)) aD)))) a8) (a6 (bY (aB (aC cE (aA 5) (aA 3)) (aB (aC cE (aA 5) (aA 2)) aD))))))))))) [b4 a,b4 b,c4,c4,c4,c4] c):=by kernel_rfl
theorem SV(k:Nat)(a b c:D)(d:Hm):f (k+1) "laying_by" [a,b,c] d=aS ((a6 (bY (aB (aC cE (aC aE (aA 1) (mC (.int 0))) (aC aE (aA 0) (mC (.int 0)))) (aB (aC cE (aC aE (aA 2) (mC (.int 0))) (aC aE (aA 0) (mC (.int 0)))) (aB (aC cE (aC aE (aA 1) (mC (.int 1))) (aC aE (aA 0) (mC (.int 1)))) (aB (aC cE (aC aE (aA 2) (mC (.int 1))) (aC aE (aA 0) (mC (.int 1)))) (aB (aC aE (aA 0) (mC (.int 0))) (aB (aC aE (aA 0) (mC (.int 1))) aD)))))))) [b4 a,b4 b,b4 c] d):=by kernel_rfl
theorem SW(k:Nat)(a:D)(b:Hm):f (k+1) "mirror_in" [a] b=aS ((a6 (aH (f k "laying_by") (aB (aH (f k "mirrored") (aB (bY (aB (mC (.int 0)) (aB (mC (.int 0)) aD))) (aB (aA 0) aD))) (aB (aH (f k "mirrored") (aB (bY (aB (mC (.int 1)) (aB (mC (.int 0)) aD))) (aB (aA 0) aD))) (aB (aH (f k "mirrored") (aB (bY (aB (mC (.int 0)) (aB (mC (.int 1)) aD))) (aB (aA 0) aD))) aD))))) [b4 a] b):=by kernel_rfl
theorem SX(k:Nat)(a b:D)(c:Hm):f (k+1) "led" [a,b] c=aS ((aI (aK 2 (aC aE (aA 1) (mC (.int 0)))) (aI (aK 3 (aC aE (aA 1) (mC (.int 1)))) (a6 (bY (aB (aC bM (aC bM (aC bR (aC aE (aA 0) (mC (.int 0))) (aA 2)) (aC bR (aC aE (aA 0) (mC (.int 1))) (aA 3))) (aC aE (aA 0) (mC (.int 4)))) (aB (aC bM (aC bM (aC bR (aC aE (aA 0) (mC (.int 2))) (aA 2)) (aC bR (aC aE (aA 0) (mC (.int 3))) (aA 3))) (aC aE (aA 0) (mC (.int 5)))) aD)))))) [b4 a,b4 b,c4,c4] c):=by kernel_rfl
theorem SY(k:Nat)(a b:D)(c:Hm):f (k+1) "then" [a,b] c=aS ((a6 (aH (f k "laying_by") (aB (aH (f k "led") (aB (aA 1) (aB (aH (f k "led") (aB (aA 0) (aB (bY (aB (mC (.int 0)) (aB (mC (.int 0)) aD))) aD))) aD))) (aB (aH (f k "led") (aB (aA 1) (aB (aH (f k "led") (aB (aA 0) (aB (bY (aB (mC (.int 1)) (aB (mC (.int 0)) aD))) aD))) aD))) (aB (aH (f k "led") (aB (aA 1) (aB (aH (f k "led") (aB (aA 0) (aB (bY (aB (mC (.int 0)) (aB (mC (.int 1)) aD))) aD))) aD))) aD))))) [b4 a,b4 b] c):=by kernel_rfl
theorem wH(k:Nat)(a:D)(b:Hm):f (k+1) "is_size" [a] b=aS ((a6 (iV (aH (f k "is_whole") (aB (aA 0) aD)) (mF oV oV (mC (.int 1)) (aA 0) (mC (.int 6))))) [b4 a] b):=by kernel_rfl
theorem S3(k:Nat)(a b:D)(c:Hm):f (k+1) "check_size" [a,b] c=aS ((aX (eJ (dU (cA (aH (f k "is_size") (aB (aA 0) aD))) (cA (aH (f k "is_size") (aB (aA 1) aD))))) bP a8) [b4 a,b4 b] c):=by kernel_rfl
theorem S4(k:Nat)(a b:D)(c:Hm):g (k+3) "check_size" [a,b] c=mM ((bX (aX (eJ (dU (cA (aH (f (k+2) "is_size") (aB (aA 0) aD))) (cA (aH (f (k+2) "is_size") (aB (aA 1) aD))))) bP a8) (hV (eJ (dU (cA (aH (f (k+2) "is_size") (aB (aA 0) aD))) (cA (aH (f (k+2) "is_size") (aB (aA 1) aD))))) (bX bP (l6 "NoSize" (aB (mC (.str "a sheet is from 1 to 6 squares wide and high")) aD)) bD) bD) bD) [b4 a,b4 b] c):=by kernel_rfl
theorem S5(k:Nat)(a b:D)(c:Hm):f (k+1) "places_within" [a,b] c=aS ((aI (aK 2 (bO aD)) (aI (cW (pE (aB (mC (.int 1)) (aB (aC bR (mC (.int 4)) (aA 0)) aD))) (dQ 3) (cP (dJ pH (aA 2) (aB (iI (pE (aB (mC (.int 1)) (aB (aC bR (mC (.int 4)) (aA 1)) aD))) jQ (bY (aB (aA 3) (aB (aA 4) aD)))) aD)))) (a6 (aA 2)))) [b4 a,b4 b,c4,c4] c):=by kernel_rfl
theorem S6(k:Nat)(a b:D)(c:Hm):f (k+1) "quarters_in" [a,b] c=aS ((a6 (iI (gA (aH (f k "places_within") (aB (aA 0) (aB (aA 1) aD)))) (cA (aH (f k "is_quarter") (aB (aA 2) aD))) (aA 2))) [b4 a,b4 b] c):=by kernel_rfl
theorem S7(k:Nat)(a:D)(b:Hm):f (k+1) "copied_piles" [a] b=aS ((aI (aK 1 i9) (aI (eN 0 (cW (k8 (aA 0)) (f7 [2,3]) (dR (aA 1) (aA 2) (aH fU (aB (aA 3) aD)))) bP) (a6 (aA 1)))) [b4 a,c4,c4,c4] b):=by kernel_rfl
theorem S8(k:Nat)(a b c:D)(d:Hm):f (k+1) "folded_layings" [a,b,c] d=aS ((aI (aK 3 (aH (f k "mirror_in") (aB (aA 1) aD))) (aI (aK 4 i9) (aI (eN 0 (cW (k8 (aA 0)) (f7 [5,6]) (aI (aK 7 (aC (aY c6) (aH (f k "hand_of") (aB (aH (f k "led") (aB (aA 6) (aB (aA 5) aD))) (aB (aA 1) aD))) (aA 2))) (dR (aA 4) (aA 5) (gX (cA (aA 7)) (aH (f k "then") (aB (aA 6) (aB (aA 3) aD))) (aA 6))))) bP) (a6 (aA 4))))) [b4 a,b4 b,b4 c,c4,c4,c4,c4,c4] d):=by kernel_rfl
theorem S9(k:Nat)(a b c d:D)(e:Hm):f (k+1) "folded_piles" [a,b,c,d] e=aS ((aI (aK 4 i9) (aI (eN 0 (cW (k8 (aA 0)) (f7 [5,6]) (aX (aN (aC (aY c7) (aH (f k "hand_of") (aB (aA 5) (aB (aA 1) aD))) (aA 2))) (dR (aA 4) (aA 5) (aH fU (aB (aA 6) aD))) a8)) bP) (aI (eN 0 (cW (k8 (aA 0)) (f7 [5,6]) (aX (aN (aC (aY c6) (aH (f k "hand_of") (aB (aA 5) (aB (aA 1) aD))) (aA 2))) (aI (aK 7 (aH (f k "mirrored") (aB (aA 5) (aB (aA 1) aD)))) (aI (aK 8 (aH mG (aB (aA 6) aD))) (aI (aK 9 (iK jC (aA 4) (aB (aA 7) (aB (bO aD) aD)))) (dR (aA 4) (aA 7) (gX (cA (aA 3)) (aC bM (aA 9) (aA 8)) (aC bM (aA 8) (aA 9))))))) a8)) bP) (a6 (aA 4))))) [b4 a,b4 b,b4 c,b4 d,c4,c4,c4,c4,c4,c4] e):=by kernel_rfl
theorem Ta(k:Nat)(a b:D)(c:Hm):f (k+1) "check_fold" [a,b] c=aS ((aI (eN 0 (aK 2 (iI (iA (aA 0)) jQ (aH (f k "hand_of") (aB (aA 3) (aB (aA 1) aD))))) (aK 2 (iI (gA (aA 0)) jQ (aH (f k "hand_of") (aB (aA 3) (aB (aA 1) aD)))))) (aX (fD (aN (aC (cX c7) (mC (.int 1)) (aA 2))) (aN (aC (cX c7) (bW (mC (.int 1))) (aA 2)))) bP a8)) [b4 a,b4 b,c4] c):=by kernel_rfl
theorem F3(k:Nat)(a b:D)(c:Hm):g (k+3) "check_fold" [a,b] c=mM ((bX (eN 0 (aK 2 (iI (iA (aA 0)) jQ (aH (f (k+2) "hand_of") (aB (aA 3) (aB (aA 1) aD))))) (aK 2 (iI (gA (aA 0)) jQ (aH (f (k+2) "hand_of") (aB (aA 3) (aB (aA 1) aD)))))) bD (bX (aX (fD (aN (aC (cX c7) (mC (.int 1)) (aA 2))) (aN (aC (cX c7) (bW (mC (.int 1))) (aA 2)))) bP a8) (hV (fD (aN (aC (cX c7) (mC (.int 1)) (aA 2))) (aN (aC (cX c7) (bW (mC (.int 1))) (aA 2)))) (bX bP (l6 "NoFold" (aB (mC (.str "no quarter lies at the one side, or at the other one")) aD)) bD) bD) bD)) [b4 a,b4 b,c4] c):=by kernel_rfl
theorem Tc(k:Nat)(a b:D)(c:Hm):f (k+1) "unfolded" [a,b] c=aS ((aI (aK 2 i9) (aI (aK 3 i9) (aI (cW (gA (aH (f k "quarters_in") (aB (aA 0) (aB (aA 1) aD)))) (dQ 4) (aI (dR (aA 2) (aA 4) (mC A6)) (dR (aA 3) (aA 4) (bO (aB (aA 4) aD))))) (a6 (bY (aB (aA 2) (aB (aA 3) aD))))))) [b4 a,b4 b,c4,c4,c4] c):=by kernel_rfl
theorem Td(k:Nat)(a b:D)(c:Hm):f (k+1) "_law_cell" [a,b] c=aS ((aI (aX (aN (aC kL (aA 1) (aH cY (aB (aA 0) aD)))) (a6 (aC aE (aA 0) (aA 1))) a8) (aI (aX (aN (aC (aY c6) (aA 0) (bO aD))) (a6 (aC bL (aC bR (aC bR (aA 1) (aA 1)) (mC (.int 48271))) (mC (.int 2147483647)))) a8) (aI (aK 2 (aC bL (aC bR (aC bM (aC bL (aC aE (aA 0) (aC bL (aA 1) (aH cY (aB (aA 0) aD)))) (mC (.int 2147483629))) (aC bR (aC bR (aA 1) (aA 1)) (mC (.int 69623)))) (mC (.int 48271))) (mC (.int 2147483647)))) (a6 (aC bL (aC bR (aA 2) (aA 2)) (mC (.int 2147483629))))))) [b4 a,b4 b,c4] c):=by kernel_rfl
theorem Te(k:Nat)(a b:D)(c:Hm):f (k+1) "_law_quarters" [a,b] c=aS ((aI (aK 2 (bO aD)) (aI (cW (kS (aB (aC bR (mC (.int 4)) (aA 0)) aD)) (dQ 3) (cW (kS (aB (aC bR (mC (.int 4)) (aA 1)) aD)) (dQ 4) (aX (fD (dU (aN (aC (aY c6) (aC bL (aA 3) (mC (.int 4))) (mC (.int 2)))) (aN (aC (aY c6) (aC bL (aA 4) (mC (.int 2))) (mC (.int 1))))) (dU (aN (aC (aY c6) (aC bL (aA 3) (mC (.int 2))) (mC (.int 1)))) (aN (aC (aY c6) (aC bL (aA 4) (mC (.int 4))) (mC (.int 2)))))) (cP (dJ fF (aA 2) (aB (bY (aB (aA 3) (aB (aA 4) aD))) aD))) a8))) (a6 (aA 2)))) [b4 a,b4 b,c4,c4,c4] c):=by kernel_rfl
theorem Tf(k:Nat)(a b:D)(c:Hm):f (k+1) "_law_led" [a,b] c=aS ((aI (lU (aA 0) (f7 [2,3,4,5,6,7])) (a6 (bY (aB (aC bM (aC bM (aC bR (aA 2) (aC aE (aA 1) (mC (.int 0)))) (aC bR (aA 3) (aC aE (aA 1) (mC (.int 1))))) (aA 6)) (aB (aC bM (aC bM (aC bR (aA 4) (aC aE (aA 1) (mC (.int 0)))) (aC bR (aA 5) (aC aE (aA 1) (mC (.int 1))))) (aA 7)) aD))))) [b4 a,b4 b,c4,c4,c4,c4,c4,c4] c):=by kernel_rfl
theorem Tg(k:Nat)(a b:D)(c:Hm):f (k+1) "_law_over" [a,b] c=aS ((aI (lU (aA 0) (f7 [2,3,4,5,6,7])) (aI (lU (aA 1) (f7 [8,9])) (aI (aX (aN (aC (aY c6) (aA 8) (mC (.int 0)))) (a6 (bY (aB (aA 2) (aB (aA 3) (aB (bW (aA 4)) (aB (bW (aA 5)) (aB (aA 6) (aB (aC cE (aC bR (mC (.int 2)) (aA 9)) (aA 7)) aD)))))))) a8) (aI (aX (aN (aC (aY c6) (aA 8) (mC (.int 1)))) (a6 (bY (aB (bW (aA 2)) (aB (bW (aA 3)) (aB (aA 4) (aB (aA 5) (aB (aC cE (aC bR (mC (.int 2)) (aA 9)) (aA 6)) (aB (aA 7) aD)))))))) a8) (aI (aX (aN (aC (aY c6) (aA 8) (mC (.int 2)))) (a6 (bY (aB (aA 4) (aB (aA 5) (aB (aA 2) (aB (aA 3) (aB (aC bM (aA 7) (aA 9)) (aB (aC cE (aA 6) (aA 9)) aD)))))))) a8) (a6 (bY (aB (bW (aA 4)) (aB (bW (aA 5)) (aB (bW (aA 2)) (aB (bW (aA 3)) (aB (aC cE (aA 9) (aA 7)) (aB (aC cE (aA 9) (aA 6)) aD))))))))))))) [b4 a,b4 b,c4,c4,c4,c4,c4,c4,c4,c4] c):=by kernel_rfl
theorem Th(k:Nat)(a b:D)(c:Hm):f (k+1) "_law_value" [a,b] c=aS ((a6 (aC aE (bO (aB (aC aE (aA 0) (mC (.int 1))) (aB (aC aE (aA 0) (mC (.int 0))) (aB (aC cE (aC aE (aA 0) (mC (.int 0))) (aC aE (aA 0) (mC (.int 1)))) (aB (aC bM (aC aE (aA 0) (mC (.int 0))) (aC aE (aA 0) (mC (.int 1)))) aD))))) (aA 1))) [b4 a,b4 b] c):=by kernel_rfl
theorem Ti(k:Nat)(a b:D)(c:Hm):f (k+1) "_law_begun" [a,b] c=aS ((aI (aK 2 i9) (aI (aK 3 i9) (aI (cW (gA (aH (f k "_law_quarters") (aB (aA 0) (aB (aA 1) aD)))) (dQ 4) (aI (dR (aA 2) (aA 4) (bY (aB (mC (.int 1)) (aB (mC (.int 0)) (aB (mC (.int 0)) (aB (mC (.int 1)) (aB (mC (.int 0)) (aB (mC (.int 0)) aD)))))))) (dR (aA 3) (aA 4) (bO (aB (aA 4) aD))))) (a6 (bY (aB (aA 2) (aB (aA 3) aD))))))) [b4 a,b4 b,c4,c4,c4] c):=by kernel_rfl
theorem Tj(k:Nat)(a b c d:D)(e:Hm):f (k+1) "_law_folded" [a,b,c,d] e=aS ((aI (aK 4 (aH nS (aB (aC aE (aA 0) (mC (.int 0))) aD))) (aI (eN 1001 (aK 6 (iI (iA (aC aE (aA 0) (mC (.int 1)))) (aN (aC (aY c6) (aC fS (aH (f k "_law_value") (aB (aA 11) (aB (aC aE (aA 1) (mC (.int 0))) aD))) (aC aE (aA 1) (mC (.int 1)))) (aA 2))) (aA 11))) (aK 6 (iI (gA (aC aE (aA 0) (mC (.int 1)))) (aN (aC (aY c6) (aC fS (aH (f k "_law_value") (aB (aA 11) (aB (aC aE (aA 1) (mC (.int 0))) aD))) (aC aE (aA 1) (mC (.int 1)))) (aA 2))) (aA 11)))) (aI (aX (fD (aN (aC (aY c6) (aA 6) (bO aD))) (aN (aC (aY c6) (aH cY (aB (aA 6) aD)) (aH cY (aB (aC aE (aA 0) (mC (.int 1))) aD))))) (a6 (mC .non)) a8) (aI (cW (gA (aH fU (aB (aA 4) aD))) (dQ 7) (aX (aN (aC (cX c6) (aH (f k "_law_led") (aB (aC aE (aA 4) (aA 7)) (aB (aA 7) aD))) (aA 6))) (dR (aA 4) (aA 7) (aH (f k "_law_over") (aB (aC aE (aA 4) (aA 7)) (aB (aA 1) aD)))) a8)) (aI (aK 8 i9) (aI (eN 1001 (cW (iA (aC aE (aA 0) (mC (.int 1)))) (dQ 5) (aX (aN (aC (cX c7) (aA 5) (aA 6))) (dR (aA 8) (aA 5) (aH fU (aB (aC aE (aC aE (aA 0) (mC (.int 1))) (aA 5)) aD))) a8)) (cW (gA (aC aE (aA 0) (mC (.int 1)))) (dQ 5) (aX (aN (aC (cX c7) (aA 5) (aA 6))) (dR (aA 8) (aA 5) (aH fU (aB (aC aE (aC aE (aA 0) (mC (.int 1))) (aA 5)) aD))) a8))) (aI (cW (gA (aA 6)) (dQ 5) (aI (aK 9 (aH (f k "_law_led") (aB (aH (f k "_law_over") (aB (bY (aB (mC (.int 1)) (aB (mC (.int 0)) (aB (mC (.int 0)) (aB (mC (.int 1)) (aB (mC (.int 0)) (aB (mC (.int 0)) aD))))))) (aB (aA 1) aD))) (aB (aA 5) aD)))) (aI (aK 10 (nO (aC aE (aC aE (aA 0) (mC (.int 1))) (aA 5)) kJ kJ (oQ (bW (mC (.int 1)))))) (aX (cA (aA 3)) (dR (aA 8) (aA 9) (aC bM (iK jC (aA 8) (aB (aA 9) (aB (bO aD) aD))) (aA 10))) (dR (aA 8) (aA 9) (aC bM (aA 10) (iK jC (aA 8) (aB (aA 9) (aB (bO aD) aD))))))))) (a6 (bY (aB (aA 4) (aB (aA 8) aD))))))))))) [b4 a,b4 b,b4 c,b4 d,c4,c4,c4,c4,c4,c4,c4] e):=by kernel_rfl
theorem Tn(k:Nat)(a b c:D)(d:Hm):f (k+1) "_law_plan" [a,b,c] d=aS ((aI (aK 3 (aC bL (aA 1) (mC (.int 4)))) (aI (aK 4 (aH fU (aB (aC aE (aA 0) (mC (.int 1))) aD))) (aI (aK 5 (aC aE (aA 4) (aC bL (aC dD (aA 1) (mC (.int 64))) (aH cY (aB (aA 4) aD))))) (aI (aK 6 (aC bM (aC bR (aC dD (aH (f k "_law_value") (aB (aA 5) (aB (aA 3) aD))) (mC (.int 4))) (mC (.int 4))) (aC bR (aC bL (aC dD (aA 1) (mC (.int 4))) (mC (.int 2))) (mC (.int 4))))) (aI (aX (aN (aC (aY c6) (aC bL (aC dD (aA 1) (mC (.int 8))) (mC (.int 7))) (mC (.int 3)))) (aK 6 (aC bR (mC (.int 4)) (aC cE (aC bL (aA 2) (aC bR (mC (.int 2)) (aC fZ (mC (.int 10)) (mC (.int 58))))) (aC fZ (mC (.int 10)) (mC (.int 58)))))) a8) (aI (aK 7 (aC cE (aC bL (aC dD (aA 2) (mC (.int 3))) (mC (.int 9))) (mC (.int 4)))) (aI (aX (aN (aC (aY c6) (aC bL (aC dD (aA 1) (mC (.int 56))) (mC (.int 5))) (mC (.int 2)))) (aK 7 (aC bL (aC dD (aA 2) (mC (.int 7))) (aC fZ (mC (.int 10)) (mC (.int 57))))) a8) (aI (aK 8 (aC aE (bO (aB (bY (aB (aC bM (mC (.int 2)) (aC bR (mC (.int 4)) (aA 7))) (aB (aA 6) aD))) (aB (bY (aB (aA 6) (aB (aC bM (mC (.int 2)) (aC bR (mC (.int 4)) (aA 7))) aD))) (aB (bY (aB (aC bM (aC bM (aA 6) (mC (.int 1))) (aC bR (mC (.int 2)) (aA 7))) (aB (aC bM (mC (.int 1)) (aC bR (mC (.int 2)) (aA 7))) aD))) (aB (bY (aB (aC bM (mC (.int 1)) (aC bR (mC (.int 2)) (aA 7))) (aB (aC cE (aC cE (aA 6) (mC (.int 1))) (aC bR (mC (.int 2)) (aA 7))) aD))) aD))))) (aA 3))) (a6 (bY (aB (aA 8) (aB (bY (aB (aA 3) (aB (aA 6) aD))) (aB (aC (aY c6) (aC bL (aC dD (aA 1) (mC (.int 280))) (mC (.int 2))) (mC (.int 1))) (aB (aC (aY c6) (aC bL (aC dD (aA 1) (mC (.int 560))) (mC (.int 2))) (mC (.int 1))) aD)))))))))))))) [b4 a,b4 b,b4 c,c4,c4,c4,c4,c4,c4] d):=by kernel_rfl
theorem To(a:D)(b:Hm):jE S "_law_class" [a] b=aS ((aI (aK 1 (bO (aB (dY (sup "NoFold") (aA 0)) (aB (dY (sup "NoSize") (aA 0)) (aB (dY (sup "Barred") (aA 0)) (aB (dY (sup "NoEdge") (aA 0)) aD)))))) (aI (aK 1 (aC bM (aA 1) (bO (aB (dY (sup "NoMark") (aA 0)) (aB (dY (sup "NoName") (aA 0)) (aB (dY (sup "NoOrder") (aA 0)) (aB (dY (sup "NoRound") (aA 0)) aD))))))) (aI (aK 1 (aC bM (aA 1) (bO (aB (dY (sup "NoRow") (aA 0)) (aB (dY (sup "NoText") (aA 0)) (aB (dY (sup "Taken") (aA 0)) (aB (dY (sup "TooMany") (aA 0)) aD))))))) (a6 (aC bM (aA 1) (bO (aB (dY (sup "Twice") (aA 0)) (aB (dY (sup "ValueError") (aA 0)) aD)))))))) [b4 a,c4] b):=by kernel_rfl
theorem Tp(k:Nat)(a b:D)(c:Hm):f (k+1) "_law_no_size" [a,b] c=aS ((aI (aK 2 (bO aD)) (aI (jU (cP (hX "Folding" (f k "Folding") (aB (aA 0) (aB (aA 1) aD)))) (bX (cP (hX "Folding" (f k "Folding") (aB (aA 0) (aB (aA 1) aD)))) (kX "Folding" (g k "Folding") (aB (aA 0) (aB (aA 1) aD))) bD) (sup "CreaseError") 3 (aK 2 (aH (jE S "_law_class") (aB (aA 3) aD)))) (a6 (aC (aY c6) (aA 2) (aC bM (aC bM (bO (aB (mC (.bl c6)) (aB (mC (.bl c7)) aD))) (aC bR (bO (aB (mC (.bl c6)) aD)) (mC (.int 11)))) (bO (aB (mC (.bl c7)) aD))))))) [b4 a,b4 b,c4,c4] c):=by kernel_rfl
theorem Tq(k:Nat)(a b c:D)(d:Hm):f (k+1) "_law_do" [a,b,c] d=aS ((aI (aK 3 (bO aD)) (aI (aK 4 (mC (.int 0))) (aI (jU (aX (aN (aC (cL c6) (aA 1) (mC .non))) (aK 4 (cG "Folding" "back" (f k "Folding.back") (aA 0) aD)) (aX (cA (aA 2)) (aK 4 (cG "Folding" "fold" (l9 [.bl c7,.bl c7] (f k "Folding.fold")) (aA 0) (aB (aC aE (aA 1) (mC (.int 0))) aD))) (aK 4 (cG "Folding" "fold" (mE (f k "Folding.fold")) (aA 0) (aB (aC aE (aA 1) (mC (.int 0))) (aB (aC aE (aA 1) (mC (.int 3))) (aB (aC aE (aA 1) (mC (.int 2))) aD))))))) (bX (aX (aN (aC (cL c6) (aA 1) (mC .non))) (aK 4 (cG "Folding" "back" (f k "Folding.back") (aA 0) aD)) (aX (cA (aA 2)) (aK 4 (cG "Folding" "fold" (l9 [.bl c7,.bl c7] (f k "Folding.fold")) (aA 0) (aB (aC aE (aA 1) (mC (.int 0))) aD))) (aK 4 (cG "Folding" "fold" (mE (f k "Folding.fold")) (aA 0) (aB (aC aE (aA 1) (mC (.int 0))) (aB (aC aE (aA 1) (mC (.int 3))) (aB (aC aE (aA 1) (mC (.int 2))) aD))))))) (hV (aN (aC (cL c6) (aA 1) (mC .non))) (bX (aK 4 (cG "Folding" "back" (f k "Folding.back") (aA 0) aD)) (eE "Folding" "back" (g k "Folding.back") (aA 0) aD) bD) (bX (aX (cA (aA 2)) (aK 4 (cG "Folding" "fold" (l9 [.bl c7,.bl c7] (f k "Folding.fold")) (aA 0) (aB (aC aE (aA 1) (mC (.int 0))) aD))) (aK 4 (cG "Folding" "fold" (mE (f k "Folding.fold")) (aA 0) (aB (aC aE (aA 1) (mC (.int 0))) (aB (aC aE (aA 1) (mC (.int 3))) (aB (aC aE (aA 1) (mC (.int 2))) aD)))))) (hV (cA (aA 2)) (bX (aK 4 (cG "Folding" "fold" (l9 [.bl c7,.bl c7] (f k "Folding.fold")) (aA 0) (aB (aC aE (aA 1) (mC (.int 0))) aD))) (eE "Folding" "fold" (rY [.bl c7,.bl c7] (g k "Folding.fold")) (aA 0) (aB (aC aE (aA 1) (mC (.int 0))) aD)) bD) (bX (aK 4 (cG "Folding" "fold" (mE (f k "Folding.fold")) (aA 0) (aB (aC aE (aA 1) (mC (.int 0))) (aB (aC aE (aA 1) (mC (.int 3))) (aB (aC aE (aA 1) (mC (.int 2))) aD))))) (eE "Folding" "fold" (u3 (g k "Folding.fold")) (aA 0) (aB (aC aE (aA 1) (mC (.int 0))) (aB (aC aE (aA 1) (mC (.int 3))) (aB (aC aE (aA 1) (mC (.int 2))) aD)))) bD)) bD)) bD) (sup "CreaseError") 5 (aK 3 (aH (jE S "_law_class") (aB (aA 5) aD)))) (aI (aX (dU (aN (aC (aY c6) (aA 3) (bO aD))) (aN (aC (cL c6) (aA 4) (mC .non)))) (a6 (mC (.str "done"))) a8) (aI (aX (aN (aC (aY c6) (aA 3) (aC bM (aC bM (bO (aB (mC (.bl c7)) aD)) (aC bR (bO (aB (mC (.bl c6)) aD)) (mC (.int 12)))) (bO (aB (mC (.bl c7)) aD))))) (a6 (mC (.str "refused"))) a8) (a6 (mC (.str "neither")))))))) [b4 a,b4 b,b4 c,c4,c4,c4] d):=by kernel_rfl
theorem Tr(k:Nat)(a b c d:D)(e:Hm):f (k+1) "_law_deed" [a,b,c,d] e=aS ((aI (aK 4 (mC .non)) (aI (aK 5 (aC (aY c6) (aC bL (aC dD (aA 2) (mC (.int 1120))) (mC (.int 4))) (mC (.int 0)))) (aI (aX (aN (aC fS (aC bL (aA 2) (mC (.int 3))) (mC (.int 0)))) (aK 4 (aH (f k "_law_plan") (aB (aC aE (aA 1) (bW (mC (.int 1)))) (aB (aA 2) (aB (aA 3) aD))))) a8) (aI (aK 6 (mC .non)) (aI (aX (dU (aN (aC (cL c7) (aA 4) (mC .non))) (cA (aA 5))) (aK 6 (aH (f k "_law_folded") (aB (aC aE (aA 1) (bW (mC (.int 1)))) (aB (aC aE (aA 4) (mC (.int 1))) (aB (mC (.bl c7)) (aB (mC (.bl c7)) aD)))))) (aX (aN (aC (cL c7) (aA 4) (mC .non))) (aK 6 (aH (f k "_law_folded") (aB (aC aE (aA 1) (bW (mC (.int 1)))) (aB (aC aE (aA 4) (mC (.int 1))) (aB (aC aE (aA 4) (mC (.int 2))) (aB (aC aE (aA 4) (mC (.int 3))) aD)))))) a8)) (aI (aK 7 (mC (.str "done"))) (aI (aX (fD (dU (aN (aC (cL c6) (aA 4) (mC .non))) (aN (aC (aY c6) (aH cY (aB (aA 1) aD)) (mC (.int 1))))) (dU (aN (aC (cL c7) (aA 4) (mC .non))) (aN (aC (cL c6) (aA 6) (mC .non))))) (aK 7 (mC (.str "refused"))) a8) (aI (aX (aN (aC (aY c7) (aH (f k "_law_do") (aB (aA 0) (aB (aA 4) (aB (aA 5) aD)))) (aA 7))) (a6 (mC (.bl c6))) a8) (aI (aX (dU (aN (aC (cL c6) (aA 4) (mC .non))) (aN (aC fS (aH cY (aB (aA 1) aD)) (mC (.int 1))))) (cP (dJ jT (aA 1) aD)) a8) (aI (aX (aN (aC (cL c7) (aA 6) (mC .non))) (cP (dJ fF (aA 1) (aB (aA 6) aD))) a8) (aI (aK 8 (cG "Folding" "many" (f k "Folding.many") (aA 0) aD)) (a6 (iV (kI (aH gJ (aB (aA 8) (aB (mC (.ty "bool")) aD)))) (aC (aY c6) (aA 8) (aC cE (aH cY (aB (aA 1) aD)) (mC (.int 1))))))))))))))))) [b4 a,b4 b,b4 c,b4 d,c4,c4,c4,c4,c4] e):=by kernel_rfl
theorem Ts(k:Nat)(a b:D)(c:Hm):f (k+1) "_law_stands" [a,b] c=aS ((a6 (iV (aC (iB c6) (cG "Folding" "piles" (f k "Folding.piles") (aA 0) aD) (aC aE (aA 1) (mC (.int 1)))) (aC (iB c6) (cG "Folding" "layings" (f k "Folding.layings") (aA 0) aD) (aC aE (aA 1) (mC (.int 0)))))) [b4 a,b4 b] c):=by kernel_rfl
theorem Tt(k:Nat)(a:D)(b:Hm):f (k+1) "law" [a] b=aS ((aI (aK 1 (aC bL (aH (f k "_law_cell") (aB (aA 0) (aB (mC (.int 0)) aD))) (aC fZ (mC (.int 10)) (mC (.int 30))))) (aI (aK 2 (bO (aB (mC (.int 0)) (aB (mC (.int 7)) (aB (aC cE (bW (mC (.int 1))) (aA 1)) (aB (aC bM (mC (.int 7)) (aA 1)) (aB (mC (.bl c7)) (aB (mC .non) (aB (mC (.str "2")) (aB (bY (aB (mC (.int 2)) aD)) (aB (bO (aB (mC (.int 2)) aD)) aD))))))))))) (aI (aK 3 (aC aE (aA 2) (aC bL (aH (f k "_law_cell") (aB (aA 0) (aB (mC (.int 1)) aD))) (mC (.int 9))))) (aI (aX (fD (eJ (cA (aH (f k "_law_no_size") (aB (aA 3) (aB (mC (.int 2)) aD))))) (eJ (cA (aH (f k "_law_no_size") (aB (mC (.int 1)) (aB (aA 3) aD)))))) (a6 (mC (.bl c6))) a8) (aI (aK 4 (bO aD)) (aI (aK 5 (bO aD)) (aI (cW (kS (aB (mC (.int 2)) aD)) (dQ 6) (aI (aK 7 (aC bM (mC (.int 1)) (aC bL (aC dD (aH (f k "_law_cell") (aB (aA 0) (aB (aA 6) aD))) (mC (.int 9))) (mC (.int 3))))) (aI (aK 8 (aC bM (mC (.int 1)) (aC bL (aC dD (aH (f k "_law_cell") (aB (aA 0) (aB (aA 6) aD))) (mC (.int 27))) (mC (.int 3))))) (aI (cP (dJ fF (aA 4) (aB (hX "Folding" (f k "Folding") (aB (aA 7) (aB (aA 8) aD))) aD))) (cP (dJ fF (aA 5) (aB (bO (aB (aH (f k "_law_begun") (aB (aA 7) (aB (aA 8) aD))) aD)) aD))))))) (aI (cW (pO (aB (mC (.int 2)) (aB (aH vB (aB (mC (.int 26)) (aB (aH vA (aB (mC (.int 6)) (aB (aC cE (aH cY (aB (aA 0) aD)) (mC (.int 1))) aD))) aD))) (aB (mC (.int 2)) aD)))) (dQ 6) (aI (aK 9 (aH (f k "_law_cell") (aB (aA 0) (aB (aA 6) aD)))) (aI (aK 10 (aC bL (aC dD (aA 9) (mC (.int 5))) (mC (.int 2)))) (aI (aX (aN (aC fS (aH cY (aB (aC aE (aA 5) (aA 10)) aD)) (mC (.int 11)))) (aK 10 (aC cE (mC (.int 1)) (aA 10))) a8) (aI (aK 1 (aH (f k "_law_cell") (aB (aA 0) (aB (aC bM (aA 6) (mC (.int 1))) aD)))) (aI (aX (dU (aN (aC kL (aH cY (aB (aC aE (aA 5) (aA 10)) aD)) (mC (.int 12)))) (eJ (cA (aH (f k "_law_deed") (aB (aC aE (aA 4) (aA 10)) (aB (aC aE (aA 5) (aA 10)) (aB (aA 9) (aB (aA 1) aD)))))))) (a6 (mC (.bl c6))) a8) (aX (fD (eJ (cA (aH (f k "_law_stands") (aB (aC aE (aA 4) (mC (.int 0))) (aB (aC aE (aC aE (aA 5) (mC (.int 0))) (bW (mC (.int 1)))) aD))))) (eJ (cA (aH (f k "_law_stands") (aB (aC aE (aA 4) (mC (.int 1))) (aB (aC aE (aC aE (aA 5) (mC (.int 1))) (bW (mC (.int 1)))) aD)))))) (a6 (mC (.bl c6))) a8))))))) (a6 (mC (.bl c7))))))))))) [b4 a,c4,c4,c4,c4,c4,c4,c4,c4,c4,c4] b):=by kernel_rfl
theorem Tu(k:Nat)(a b c:D)(d:Hm):f (k+1) "Folding.__init__" [a,b,c] d=aS ((aI (cP (aH (f k "check_size") (aB (aA 1) (aB (aA 2) aD)))) (aI (i8 "Folding" "wide" (aA 0) (aA 1)) (aI (i8 "Folding" "high" (aA 0) (aA 2)) (i8 "Folding" "states" (aA 0) (bO (aB (aH (f k "unfolded") (aB (aA 1) (aB (aA 2) aD))) aD)))))) [b4 a,b4 b,b4 c] d):=by kernel_rfl
theorem Tv(k:Nat)(a b c:D)(d:Hm):g (k+3) "Folding.__init__" [a,b,c] d=mM ((bX (cP (aH (f (k+2) "check_size") (aB (aA 1) (aB (aA 2) aD)))) (lY (g (k+2) "check_size") (aB (aA 1) (aB (aA 2) aD))) (bX (i8 "Folding" "wide" (aA 0) (aA 1)) bD (bX (i8 "Folding" "high" (aA 0) (aA 2)) bD (bX (i8 "Folding" "states" (aA 0) (bO (aB (aH (f (k+2) "unfolded") (aB (aA 1) (aB (aA 2) aD))) aD))) bD bD)))) [b4 a,b4 b,b4 c] d):=by kernel_rfl
theorem Tw(k:Nat)(a b c d:D)(e:Hm):f (k+1) "Folding.fold" [a,b,c,d] e=aS ((aI (aK 4 (aC aE (fG "Folding" "states" (aA 0)) (bW (mC (.int 1))))) (aI (cP (aH (f k "check_fold") (aB (aC aE (aA 4) (mC (.int 1))) (aB (aA 1) aD)))) (aI (aK 5 (gX (cA (aA 2)) (mC (.int 1)) (bW (mC (.int 1))))) (cP (dJ fF (fG "Folding" "states" (aA 0)) (aB (bY (aB (aH (f k "folded_layings") (aB (aC aE (aA 4) (mC (.int 0))) (aB (aA 1) (aB (aA 5) aD)))) (aB (aH (f k "folded_piles") (aB (aC aE (aA 4) (mC (.int 1))) (aB (aA 1) (aB (aA 5) (aB (aA 3) aD))))) aD))) aD)))))) [b4 a,b4 b,b4 c,b4 d,c4,c4] e):=by kernel_rfl
theorem Tx(k:Nat)(a b c d:D)(e:Hm):g (k+3) "Folding.fold" [a,b,c,d] e=mM ((bX (aK 4 (aC aE (fG "Folding" "states" (aA 0)) (bW (mC (.int 1))))) bD (bX (cP (aH (f (k+2) "check_fold") (aB (aC aE (aA 4) (mC (.int 1))) (aB (aA 1) aD)))) (lY (g (k+2) "check_fold") (aB (aC aE (aA 4) (mC (.int 1))) (aB (aA 1) aD))) (bX (aK 5 (gX (cA (aA 2)) (mC (.int 1)) (bW (mC (.int 1))))) bD (bX (cP (dJ fF (fG "Folding" "states" (aA 0)) (aB (bY (aB (aH (f (k+2) "folded_layings") (aB (aC aE (aA 4) (mC (.int 0))) (aB (aA 1) (aB (aA 5) aD)))) (aB (aH (f (k+2) "folded_piles") (aB (aC aE (aA 4) (mC (.int 1))) (aB (aA 1) (aB (aA 5) (aB (aA 3) aD))))) aD))) aD))) bD bD)))) [b4 a,b4 b,b4 c,b4 d,c4,c4] e):=by kernel_rfl
theorem Tz(k:Nat)(a:D)(b:Hm):f (k+1) "Folding.back" [a] b=aS ((aI (aX (aN (aC (aY c6) (cG "Folding" "many" (f k "Folding.many") (aA 0) aD) (mC (.int 0)))) bP a8) (cP (dJ jT (fG "Folding" "states" (aA 0)) aD))) [b4 a] b):=by kernel_rfl
theorem F4(k:Nat)(a:D)(b:Hm):g (k+3) "Folding.back" [a] b=mM ((bX (aX (aN (aC (aY c6) (cG "Folding" "many" (f (k+2) "Folding.many") (aA 0) aD) (mC (.int 0)))) bP a8) (hV (aN (aC (aY c6) (cG "Folding" "many" (f (k+2) "Folding.many") (aA 0) aD) (mC (.int 0)))) (bX bP (l6 "NoFold" (aB (mC (.str "no fold stands that could be taken back")) aD)) bD) bD) (bX (cP (dJ jT (fG "Folding" "states" (aA 0)) aD)) bD bD)) [b4 a] b):=by kernel_rfl
theorem TB(k:Nat)(a:D)(b:Hm):f (k+1) "Folding.many" [a] b=aS ((a6 (aC cE (aH cY (aB (fG "Folding" "states" (aA 0)) aD)) (mC (.int 1)))) [b4 a] b):=by kernel_rfl
theorem TC(k:Nat)(a:D)(b:Hm):f (k+1) "Folding.layings" [a] b=aS ((a6 (aH nS (aB (aC aE (aC aE (fG "Folding" "states" (aA 0)) (bW (mC (.int 1)))) (mC (.int 0))) aD))) [b4 a] b):=by kernel_rfl
theorem TF(k:Nat)(a:D)(b:Hm):f (k+1) "Folding.piles" [a] b=aS ((a6 (aH (f k "copied_piles") (aB (aC aE (aC aE (fG "Folding" "states" (aA 0)) (bW (mC (.int 1)))) (mC (.int 1))) aD))) [b4 a] b):=by kernel_rfl
theorem TH(k:Nat)(xs:List D)(a:Hm):f (k+1) "Folding" xs a=f k "Folding.__init__" xs a:=by kernel_rfl
theorem TJ(k:Nat)(xs:List D)(a:Hm):g (k+1) "Folding" xs a=g k "Folding.__init__" xs a:=by kernel_rfl
end Lw
namespace Lw
open PySem L2 L3
theorem F5{z:Int}{a:Hm}{Q:D×Hm->Prop}:W (bR (.int 2) (.int z) a) Q↔Q (.int (2*z),a):=j0 (.inl ⟨by decide,by decide⟩)
theorem qJ{z:Int}{a:Hm}{Q:D×Hm->Prop}:W (bR (.int 4) (.int z) a) Q↔Q (.int (4*z),a):=j0 (.inl ⟨by decide,by decide⟩)
theorem F6{z:Int}{a:Hm}{Q:D×Hm->Prop}:W (bL (.int z) (.int 2) a) Q↔Q (.int (z%2),a):=dN (by decide)
theorem F7{z:Int}{a:Hm}{Q:D×Hm->Prop}:W (bL (.int z) (.int 4) a) Q↔Q (.int (z%4),a):=dN (by decide)
theorem TK:(2:Nat)<=Wb:=by decide
theorem fN{a b:D}:([a,b]:List D).length<=Wb:=TK
theorem TL:(1:Nat)<=Wb:=by decide
theorem j6{a:D}:([a]:List D).length<=Wb:=TL
theorem TM{z:Int}{a:Hm}{Q:D×Hm->Prop}:W (bR (.int z) (.int 4) a) Q↔Q (.int (z*4),a):=j0 (.inr ⟨by decide,by decide⟩)
noncomputable def t7:D->Int
 |.int i=>i|_=>0
theorem TN{lo:Int}{n:Nat}{d:D}(h:d∈lG lo n):∃j:Nat,j<n/\d=.int (lo+(j:Int)):=by unfold lG at h;obtain⟨j,a,rfl⟩:=Wt.mp h;exact⟨j,ZP.mp a,rfl⟩
theorem wI{a C:MS}{e c:aG}{d b:Hm}{Q:D×Hm->Prop}(h:a e d=b4 (.nx,c,b))(k:W (aS (C c b)) Q):W (aS (aI a C e d)) Q:=by unfold aI;rw[h];exact k
theorem F8{i:Nat}{m:ME}{b:aG}{c a:Hm}{d:D}(h:m b c=b4 (d,a)):aK i m b c=b4 (.nx,b.set i (b4 d),a):=by unfold aK;rw[h];rfl
theorem A8{a:Type}{o:Option a}{r:a}{Q:a->Prop}(h:W o λx=>x=r):W o Q↔Q r:=by obtain⟨_,h,rfl⟩:=h;rw[h];exact W_some
theorem F9{a:Type}{o:Option a}{r:a}(h:∀Q:a->Prop,W o Q↔Q r):o=b4 r:=by obtain⟨_,e,b⟩:=(h λx=>x=r).mpr rfl;rw[e,b]
theorem TQ{g:D->D->Hm->Option (D×Hm)}{a b:ME}{e:aG}{h c d:Hm}{x y:D}{Q:D×Hm->Prop}(i:a e h=b4 (x,c))(j:b e c=b4 (y,d))(k:W (g x y d) Q):W (aC g a b e h) Q:=by unfold aC;rw[i,Wl,j];exact k
theorem TR{m:ME}{b:aG}{a:Hm}{Q:D×Hm->Prop}(k:W (m b a) Q):W (aS (a6 m b a)) Q:=W_fin.mpr (w_mRet.mpr (bQ k λ_ q=>q))
noncomputable def tE(x y:Int):Str:=if x%2=1 then(if x%4=y%4 then "falling" else "rising")else if y%4=0 then "level" else "upright"
theorem Ga(k:Nat)(x y:Int)(a:Hm)(Q:D×Hm->Prop):W (f (k+1) "line_of" [P x y] a) Q↔Q (.str (tE x y),a):=by rw[SQ,W_fin];simp only[bA,w_mRet,cH,b6,sT,aU,aR,aF,cB,j4,gQ,w_eqI,dN (show(0:Int)<2 by decide),dN (show(0:Int)<4 by decide)];unfold tE;split<;>split<;>simp_all
noncomputable def iO(x y:Int)(a b:Int):Int:=if x%2=1 then(if x%4=y%4 then a-b else a+b)else if y%4=0 then b else a
theorem Gb(k:Nat)(x y a b:Int)(c:Hm)(Q:D×Hm->Prop):W (f (k+1) "number_by" [.str (tE x y),P a b] c) Q↔Q (.int (iO x y a b),c):=by refine A8 ?_;rw[SR];unfold tE iO;split<;>split<;>exact⟨_,rfl,rfl⟩
noncomputable def eA(p e:Int×Int):Int×Int:=
 if e.1%2=1 then(if e.1%4=e.2%4 then(p.2+(e.1-e.2),p.1-(e.1-e.2))else(e.1+e.2-p.2,e.1+e.2-p.1))else if e.2%4=0 then(p.1,2*e.2-p.2)else(2*e.1-p.1,p.2)
theorem Ge(k:Nat)(x y a b:Int)(c:Hm)(Q:D×Hm->Prop):W (f (k+2) "mirrored" [P x y,P a b] c) Q↔Q (PP (eA (x,y) (a,b)),c):=by refine A8 ?_;rw[SU];refine wI rfl (wI rfl (wI (F8 (F9 (Ga k a b c))) (wI (F8 (F9 (Gb k a b a b c))) ?_)));unfold tE iO eA;split<;>split<;>exact⟨_,rfl,rfl⟩
noncomputable def mT:D->Int×Int
 |.tup [.int x,.int y]=>(x,y)|_=>(0,0)
theorem Gf(p:Int×Int->Bool)(l:List (Int×Int)):((l.map PP).filter λd=>p (mT d)).map (λd=>d)=(l.filter p).map PP:=by
 rw[List.map_id'];induction l with
 |nil=>rfl|cons a l b=>
  have e:(a4q PP (a::l)).filter (λd=>p (mT d))=if p a then PP a::(l.map PP).filter (λd=>p (mT d))else(l.map PP).filter λd=>p (mT d):=by rw[We,a4a];rfl
  rw[e,b,a4a];split<;>rfl
theorem TU{d:D}{l:List (Int×Int)}(h:d∈l.map PP):∃x y,d=P x y:=by obtain⟨p,_,rfl⟩:=Wt.mp h;exact⟨p.1,p.2,rfl⟩
theorem A9{n:Nat}{i:Int}(a:0<=i)(h:i<n):lT n i=b4 i.toNat:=by unfold lT;rw[if_pos a,if_pos h]
theorem Gh{a:List Int}{i:Int}(b:0<=i)(h:i<a.length):atI (a.map D.int) i=b4 (.int (a.getD i.toNat 0)):=by
 unfold atI;rw[V0,A9 b h,Wl,WD];have c:i.toNat<a.length:=by omega
 simp[List.getD,c]
theorem Gi{xs:List D}{i:Int}{d:D}{a:Hm}{Q:D×Hm->Prop}(h:atI xs i=b4 d):W (aE (.rol xs) (.int i) a) Q↔Q (d,a):=by
 have:aE (.rol xs) (.int i) a=b4 (d,a):=by simp only[aE,gY,b8,Wl,h,WE]
 rw[this];exact W_some
theorem TV{a:Hm}{b:Nat}{ns:List Int}{Q:D×Hm->Prop}(e:a[b]?=b4 (.lst [])):W (aY c6 (.rol (ns.map D.int)) (.loc b) a) Q↔Q (.bl (ns==[]),a):=by
 have c:cQ a (.rol (ns.map D.int))=b4 (.lst (ns.map D.int)):=rfl;have d:cQ a (.loc b)=b4 (.lst (([]:List Int).map D.int)):=by simp only[cQ,e];rfl
 have:cR 8 a (.rol (ns.map D.int)) (.loc b)=b4 (ns==[]):=by show(cQ a (.rol (ns.map D.int))).bind (λx=>(cQ a (.loc b)).bind λy=>gZ (cR 7 a) x y)=_;rw[c,d];exact FW 6 a ns []
 unfold aY;rw[this];exact W_some
noncomputable def iP(ns:List Int)(i:Int):Int:=if i<ns.length then ns.getD i.toNat 0 else if ns=[]then i*i*48271%2147483647 else
 ((ns.getD (i%ns.length).toNat 0%2147483629+i*i*69623)*48271%2147483647)*((ns.getD (i%ns.length).toNat 0%2147483629+i*i*69623)*48271%2147483647)%2147483629
theorem TX{i:Int}(a:0<=i/\i<=100):0<=i*i/\i*i<=10000:=by refine⟨Int.mul_nonneg a.1 a.1,?_⟩;have:=a4E a.2 a.2 a.1 (by decide);omega
theorem qK(k:Nat)(ns:List Int)(i:Int)(c:0<=i/\i<=100)(j:Hm)(Q:D×Hm->Prop)(H:∀b,j<+:b->Q (.int (iP ns i),b)):W (f (k+1) "_law_cell" [.rol (ns.map D.int),.int i] j) Q:=by
 rw[Td,W_fin];have n:=TX c;simp only[bA,b6,cB,aU,bC,aP,aM,aF,aJ,aR,A4,AZ,V0];by_cases h:i<ns.length
 ·simp only[h,decide_true,if_true,w_mRet,aU,aF,aJ];rw[Gi (Gh c.1 h)];have e:iP ns i=ns.getD i.toNat 0:=by unfold iP;rw[if_pos h]
  rw[<- e];exact H _ (XQ _)
 ·simp only[h,decide_false,V6,if_false,cH,bA,b6,cB,aU,aF,dZ,aM];refine⟨W7 _,?_⟩;refine(TV (bF _ _)).mpr ?_;by_cases a:ns=[]
  ·have e:(ns==[])=true:=by rw[a];rfl
   simp only[e,if_true,w_mRet,aU,aF,aJ,aR];refine(j0 (.inl (by omega))).mpr ((j0 (.inr (by omega))).mpr ((dN (by decide)).mpr ?_));have e:iP ns i=i*i*48271%2147483647:=by unfold iP;rw[if_neg h,if_pos a]
   rw[<- e];exact H _ (aO _ _)
  ·have e:(ns==[])=false:=by
    cases ns with
    |nil=>exact absurd rfl a|cons=>rfl
   have m:0<ns.length:=a3d.mpr a;simp only[e,V6,if_false,cH,bA,bH,w_mRet,aU,aF,aJ,aR,bC,aP,aM,A4,V0];refine(dN (by omega)).mpr ?_;have d:0<=i%(ns.length:Int)/\i%(ns.length:Int)<ns.length:=⟨Za _ (by omega),Ze _ (by omega)⟩;rw[Gi (Gh d.1 d.2)];have e:iP ns i=((ns.getD (i%ns.length).toNat 0%2147483629+i*i*69623)*48271%2147483647)*((ns.getD (i%ns.length).toNat 0%2147483629+i*i*69623)*48271%2147483647)%2147483629:=by unfold iP;rw[if_neg h,if_neg a]
   refine(dN (by decide)).mpr ((j0 (.inl (by omega))).mpr ((j0 (.inr (by omega))).mpr ?_));simp only[jY];refine(j0 (.inr (by omega))).mpr ((dN (by decide)).mpr ?_);simp only[V3,V4,aF,aJ];generalize hy:(ns.getD (i%ns.length).toNat 0%2147483629+i*i*69623)*48271%2147483647=y at e;have l:0<=y/\y<2147483647:=by rw[<- hy];exact⟨Za _ (by decide),Ze _ (by decide)⟩
   refine(j0 (.inl (by omega))).mpr ((dN (by decide)).mpr ?_);rw[<- e];exact H _ (aO _ _)
structure Ly where
 a:Int
 b:Int
 c:Int
 d:Int
 e:Int
 g:Int
 deriving DecidableEq
noncomputable abbrev LD(A:Ly):D:=.tup [.int A.a,.int A.b,.int A.c,.int A.d,.int A.e,.int A.g]
noncomputable def Dih(A:Ly):Prop:=(A.b=0/\A.c=0/\(A.a=1\/A.a=-1)/\(A.d=1\/A.d=-1))\/(A.a=0/\A.d=0/\(A.b=1\/A.b=-1)/\(A.c=1\/A.c=-1))
theorem Dih.sm{A:Ly}(h:Dih A):(-1<=A.a/\A.a<=1)/\(-1<=A.b/\A.b<=1)/\(-1<=A.c/\A.c<=1)/\(-1<=A.d/\A.d<=1):=by unfold Dih at h;omega
noncomputable def aV(A:Ly)(p:Int×Int):Int×Int:=(A.a*p.1+A.b*p.2+A.e,A.c*p.1+A.d*p.2+A.g)
noncomputable def fX(A B:Ly):Ly:=⟨B.a*A.a+B.b*A.c,B.a*A.b+B.b*A.d,B.c*A.a+B.d*A.c,B.c*A.b+B.d*A.d,B.a*A.e+B.b*A.g+B.e,B.c*A.e+B.d*A.g+B.g⟩
noncomputable def eB:Ly:=⟨1,0,0,1,0,0⟩
noncomputable def wJ(e:Int×Int):Ly:=
 ⟨(eA (1,0) e).1-(eA (0,0) e).1,(eA (0,1) e).1-(eA (0,0) e).1,(eA (1,0) e).2-(eA (0,0) e).2,(eA (0,1) e).2-(eA (0,0) e).2,(eA (0,0) e).1,(eA (0,0) e).2⟩
theorem Ly.ext'{A B:Ly}(a:A.a=B.a)(b:A.b=B.b)(c:A.c=B.c)(d:A.d=B.d)(e:A.e=B.e)(h:A.g=B.g):A=B:=by cases A;cases B;simp_all
theorem TY(A B:Ly)(p:Int×Int):aV (fX A B) p=aV B (aV A p):=by unfold aV fX;refine a0r ?_ ?_<;>dsimp only<;>grind
theorem TZ(A:Ly):fX eB A=A:=by unfold fX eB;exact Ly.ext' (by dsimp only;omega) (by dsimp only;omega) (by dsimp only;omega) (by dsimp only;omega) (by dsimp only;omega) (by dsimp only;omega)
theorem T4:Dih eB:=.inl ⟨rfl,rfl,.inl rfl,.inl rfl⟩
theorem mU{x y:Int}(a:x=1\/x=-1)(b:y=1\/y=-1):x*y=1\/x*y=-1:=by rcases a with rfl|rfl<;>rcases b with rfl|rfl<;>decide
theorem T5{A B:Ly}(hA:Dih A)(hB:Dih B):Dih (fX A B):=by
 unfold Dih fX;dsimp only;rcases hA with⟨c,d,a,b⟩|⟨c,d,a,b⟩<;>rcases hB with⟨k1,k2,k3,k4⟩|⟨k1,k2,k3,k4⟩<;>rw[c,d,k1,k2]<;>simp only[Int.mul_zero,Int.zero_mul,Int.add_zero,Int.zero_add,true_and]
 ·exact .inl ⟨mU k3 a,mU k4 b⟩
 ·exact .inr ⟨mU k3 b,mU k4 a⟩
 ·exact .inr ⟨mU k3 a,mU k4 b⟩
 ·exact .inl ⟨mU k3 b,mU k4 a⟩
theorem Gj(p:Int×Int):aV eB p=p:=by unfold aV eB;refine a0r ?_ ?_<;>dsimp only<;>omega
theorem Gk{a b c d e g:D}:([a,b,c,d,e,g]:List D).length<=Wb:=by show(6:Nat)<=Wb;decide
theorem Gm(k:Nat)(p q r:Int×Int)(a:Hm)(Q:D×Hm->Prop):W (f (k+1) "laying_by" [PP p,PP q,PP r] a) Q↔Q (LD ⟨q.1-p.1,r.1-p.1,q.2-p.2,r.2-p.2,p.1,p.2⟩,a):=by rw[SV,W_fin];simp only[w_mRet,gG,aP,aM,aU,aF,aJ,aR,j4,gQ,jZ,Gk,true_and]
theorem T6(k:Nat)(x y:Int)(a:Hm)(Q:D×Hm->Prop):W (f (k+3) "mirror_in" [P x y] a) Q↔Q (LD (wJ (x,y)),a):=by rw[SW,W_fin];simp only[w_mRet,bC,aP,aM,gG,aF,aR,fN,true_and,Ge,Gm];rfl
theorem mV{i j:Int}(h:-1<=i/\i<=1){a:Hm}{Q:D×Hm->Prop}:W (bR (.int i) (.int j) a) Q↔Q (.int (i*j),a):=j0 (.inl ⟨by omega,by omega⟩)
theorem Ba(k:Nat)(A:Ly)(hA:Dih A)(x y:Int)(a:Hm)(Q:D×Hm->Prop):W (f (k+1) "led" [LD A,P x y] a) Q↔Q (PP (aV A (x,y)),a):=by obtain⟨b,c,d,e⟩:=hA.sm;rw[SX,W_fin];simp only[bA,bH,w_mRet,gG,aP,aM,aU,aF,aJ,aR,j4,gQ,Sm,Sn,So,Sq,Sr,Ss,V3,V4,mV b,mV c,mV d,mV e,jY,fN,true_and];rfl
theorem T7(k:Nat)(A B:Ly)(hA:Dih A)(hB:Dih B)(a:Hm)(Q:D×Hm->Prop):W (f (k+2) "then" [LD A,LD B] a) Q↔Q (LD (fX A B),a):=by
 rw[SY,W_fin];simp only[w_mRet,bC,aP,aM,gG,aF,aJ,aR,fN,true_and,Ba _ A hA,Ba _ B hB,Gm];have e:(⟨(aV B (aV A (1,0))).1-(aV B (aV A (0,0))).1,(aV B (aV A (0,1))).1-(aV B (aV A (0,0))).1,(aV B (aV A (1,0))).2-(aV B (aV A (0,0))).2,(aV B (aV A (0,1))).2-(aV B (aV A (0,0))).2,(aV B (aV A (0,0))).1,(aV B (aV A (0,0))).2⟩:Ly)=fX A B:=by unfold aV fX;refine Ly.ext' ?_ ?_ ?_ ?_ ?_ ?_<;>dsimp only<;>grind
 rw[<- e]
noncomputable def j7(lo:Int)(n m:Nat):List (Int×Int):=(Xh n).flatMap λ(i:Nat)=>(Xh m).map λ(j:Nat)=>(lo+(i:Int),lo+(j:Int))
noncomputable def jH(lo x:Int)(m:Nat):List (Int×Int):=(Xh m).map λ(j:Nat)=>(x,lo+(j:Int))
theorem Gn(lo:Int)(n m:Nat):j7 lo (n+1) m=j7 lo n m++jH lo (lo+(n:Int)) m:=by unfold j7 jH;rw[a1z,Yp];simp
theorem Gp(lo x:Int)(m:Nat):jH lo x (m+1)=jH lo x m++[(x,lo+(m:Int))]:=by unfold jH;rw[a1z,Wf];rfl
theorem Gq(lo x:Int)(m:Nat):(jH lo x m).length=m:=by unfold jH;simp
theorem Gs(lo:Int)(m:Nat):∀n:Nat,(j7 lo n m).length=n*m
 |0=>by simp[j7]
 |n+1=>by rw[Gn,V5,Gs lo m n,Gq,a1f]
theorem Gu{d:Hm}{a:Nat}{c b:C}:(d.set a c).set a b=d.set a b:=a0S ..
theorem oB{d:Hm}{a:Nat}{c b:C}(h:d[a]?=b4 c):(d.set a b)[a]?=b4 b:=by rw[Wh (VY.mp h).1]
theorem Bb(a:Hm)(c b:C):(a++[c]).set a.length b=a++[b]:=by rw[Zu _ _ (Wa _)];simp
theorem tF{b:Hm}{a:Nat}{c:C}(h:b[a]?=b4 c):b.set a c=b:=by obtain⟨d,rfl⟩:=VY.mp h;exact List.set_getElem_self d
noncomputable abbrev Gv:MS:=cP (dJ fF (aA 2) (aB (bY (aB (aA 3) (aB (aA 4) aD))) aD))
theorem T8(T:MT)(c:Int->Int->Bool)(e h:D)(a:Nat)(x:Int)(s:∀y b Q,W (T [b4 e,b4 h,b4 (.loc a),b4 (.int x),b4 (.int y)] b) Q↔Q (c x y,b))(lo:Int)(m:Nat)(ps:List (Int×Int))(u:ps.length+m<=1000)(b:Hm)(j:b[a]?=b4 (.lst (ps.map PP)))(o:Option D)(Q:Fl×aG×Hm->Prop)
  (d:∀o,Q (.nx,[b4 e,b4 h,b4 (.loc a),b4 (.int x),o],b.set a (.lst ((ps++(jH lo x m).filter λp=>c p.1 p.2).map PP)))):W (fJ (g7 lo m) (dQ 4) (aX T Gv a8) (m+1) 0 [b4 e,b4 h,b4 (.loc a),b4 (.int x),o] b) Q:=by
 refine wD (λi n k=>i<=m/\k=b.set a (.lst ((ps++(jH lo x i).filter λp=>c p.1 p.2).map PP))/\∃o,n=[b4 e,b4 h,b4 (.loc a),b4 (.int x),o]) ⟨W7 _,?_,o,rfl⟩ ?_ ?_
 ·simp only[jH,a4j,a0T,Y8,W4];exact(tF j).symm
 ·rintro i n l r ⟨_,rfl,o,rfl⟩;refine⟨_,rfl,?_⟩;simp only[V3,V4,b6];rw[s];cases q:c x (lo+(i:Int))with
  |false=>simp only[V6,if_false,cH];refine⟨r,?_,_,rfl⟩;rw[Gp,Ye];simp[q]|true=>
   simp only[if_true,lF];refine mR ?_;simp only[aF,aJ];refine⟨FX (oB j),?_⟩;simp only[aP,aM,gG,aF,aJ,fN,true_and];refine(sW (oB j) ?_).mpr ?_
   ·have:=Xv (λp=>c p.1 p.2) (jH lo x i);rw[Gq]at this;rw[V0,V5,W6];omega
   refine⟨r,?_,_,rfl⟩;rw[Gu,Gp,Ye];simp[q,PP,P]
 ·rintro n l ⟨_,rfl,o,rfl⟩;exact d o
theorem Ua(T:MT)(h:Int->Int->Bool)(d e:D)(a:Nat)(u:MI)(lo:Int)(m:Nat)(hit:∀o1 c b Q,W (u [b4 d,b4 e,b4 (.loc a),o1,c] b) Q↔Q (g7 lo m,m+1,b))(w:∀x y b Q,W (T [b4 d,b4 e,b4 (.loc a),b4 (.int x),b4 (.int y)] b) Q↔Q (h x y,b))(n:Nat)(A:n*m+m<=900)(b:Hm)(r:b[a]?=b4 (.lst []))(Q:Fl×aG×Hm->Prop)
  (j:∀o1 c,Q (.nx,[b4 d,b4 e,b4 (.loc a),o1,c],b.set a (.lst (((j7 lo n m).filter λp=>h p.1 p.2).map PP)))):W (fJ (g7 lo n) (dQ 3) (cW u (dQ 4) (aX T Gv a8)) (n+1) 0 [b4 d,b4 e,b4 (.loc a),c4,c4] b) Q:=by
 refine wD (λi q k=>i<=n/\k=b.set a (.lst (((j7 lo i m).filter λp=>h p.1 p.2).map PP))/\∃o1 c,q=[b4 d,b4 e,b4 (.loc a),o1,c]) ⟨W7 _,?_,c4,c4,rfl⟩ ?_ ?_
 ·simp only[j7,a4j,a1o,Y8,a0T];exact(tF r).symm
 ·rintro i q l s ⟨_,rfl,o1,c,rfl⟩;refine⟨_,rfl,?_⟩;simp only[V3,V4,j5];rw[hit];refine T8 T h d e a _ (w _) lo m _ ?_ _ (oB r) _ _ λo=>?_
  ·have v:=Xv (λp=>h p.1 p.2) (j7 lo i m);rw[Gs]at v;have z:i*m<=n*m:=Nat.mul_le_mul_right _ (a1g s);omega
  ·refine⟨s,?_,_,_,rfl⟩;rw[Gu,Gn,Ye]
 ·rintro q l ⟨_,rfl,o1,c,rfl⟩;exact j o1 c
noncomputable def Bc(x y:Int):Bool:=(x%4==2&&y%2==1)||(x%2==1&&y%4==2)
noncomputable def dO(w h:Int):List (Int×Int):=(j7 0 (4*w).toNat (4*h).toNat).filter λp=>Bc p.1 p.2
theorem Ub{w h:Int}(hw:1<=w/\w<=3)(e:1<=h/\h<=3):(4*w).toNat*(4*h).toNat+(4*h).toNat<=900/\(4*w-1).toNat*(4*h-1).toNat+(4*h-1).toNat<=900:=by
 have a:(4*w).toNat<=12:=by omega
 have b:(4*h).toNat<=12:=by omega
 have c:=a2e a b;have d:(4*w-1).toNat*(4*h-1).toNat<=12*12:=a2e (by omega) (by omega);omega
theorem Uc(k:Nat)(w h:Int)(hw:1<=w/\w<=3)(b:1<=h/\h<=3)(a:Hm)(Q:D×Hm->Prop)(H:Q (.loc a.length,a++[.lst ((dO w h).map PP)])):W (f (k+1) "_law_quarters" [.int w,.int h] a) Q:=by
 rw[Te,W_fin];simp only[bA,bH,dZ,aM];refine⟨W7 _,?_⟩;simp only[V3,V4,j5];rw[A1 (j:=0)];simp only[aP,aM,aR,aU,aF,aJ,qJ];refine⟨by omega,?_⟩;refine Ua _ Bc _ _ _ _ 0 (4*h).toNat (λo1 c a Q=>?_) (λx y a Q=>?_) (4*w).toNat (Ub hw b).1 _ (bF _ _) _ λo1 c=>?_
 ·rw[A1 (j:=0)];simp only[aP,aM,aR,aU,aF,aJ,qJ];exact and_iff_right (by omega)
 ·simp only[mP,fW,cB,aU,aF,aJ,aR,F6,F7,w_eqI,jY];unfold Bc;cases x%4==2<;>cases y%2==1<;>cases x%2==1<;>cases y%4==2<;>simp
 ·simp only[w_mRet,aF,aJ];rw[Bb];exact H
noncomputable def cI(p:Int×Int):List Int:=[p.1,p.2]
theorem Gw{es:List (Int×Int)}{i:Nat}{d:D}(h:(es.map PP)[i]?=b4 d):∃p,es[i]?=b4 p/\d=PP p:=by rw[WD]at h;obtain⟨p,a,b⟩:=VZ.mp h;exact⟨p,a,b.symm⟩
theorem j8(q:Int×Int):fE (PP q)=b4 (cI q):=rfl
theorem Gx{l:List (List Int×D)}(nd:(l.map (·.1)).Nodup){k:List Int}{d:D}(h:(k,d)∈l):cF l k=b4 d:=by
 induction l with
 |nil=>cases h|cons p l a=>
  rw[We,XO]at nd;unfold cF;rw[Xf];rcases Wr.mp h with h|h
  ·rw[<- h];simp
  ·have:decide (p.1=k)=false:=decide_eq_false λz=>nd.1 (Wt.mpr ⟨_,h,z.symm⟩);rw[this];exact a nd.2 h
theorem qL{p q:Int×Int}(h:cI p=cI q):p=q:=by unfold cI at h;injection h with h1 h2;injection h2 with h2;exact a0r h1 h2
theorem Ud{k:aG}{i1 i2 i3 h i j:Nat}{a b c d e g:D}{l:Hm}{Q:aG->Prop}:W (f7 [i1,i2,i3,h,i,j] (.tup [a,b,c,d,e,g]) k l) Q↔Q ((((((k.set i1 (b4 a)).set i2 (b4 b)).set i3 (b4 c)).set h (b4 d)).set i (b4 e)).set j (b4 g)):=W_some
noncomputable abbrev Gr:=List ((Int×Int)×List (Int×Int))
noncomputable abbrev Zr:=List ((Int×Int)×List (Int×Int)×Nat)
noncomputable def GZ(Z:Zr):Gr:=Z.map λz=>(z.1,z.2.1)
noncomputable def aW(Z:Zr):List (List Int×D):=Z.map λz=>(cI z.1,D.loc z.2.2)
structure GI(μ0 μ:Hm)(a:Nat)(Z:Zr):Prop where
 pre:μ0<+:μ
 lo:μ0.length<=a
 dic:μ[a]?=b4 (.dT (aW Z))
 kd:(Z.map (·.1)).Nodup
 bd:(Z.map (·.2.2)).Nodup
 at_:∀z∈Z,μ0.length<=z.2.2/\μ[z.2.2]?=b4 (.lst (z.2.1.map PP))
theorem tG{Z:Zr}{z:(Int×Int)×List (Int×Int)×Nat}(d:(Z.map (·.1)).Nodup)(h:z∈Z):cF (aW Z) (cI z.1)=b4 (.loc z.2.2):=by
 refine Gx ?_ (Wt.mpr ⟨z,h,rfl⟩);have e:(aW Z).map (·.1)=(Z.map (·.1)).map cI:=by unfold aW;rw[WI,WI];rfl
 rw[e];exact a0j _ (λa b c x=>c (qL x)) d
theorem Bd{Z:Zr}{p:Int×Int}(h:p∉Z.map (·.1)):cF (aW Z) (cI p)=none:=by
 unfold cF;rw[a3q.mpr]
 ·rfl
 ·intro x a;obtain⟨z,b,rfl⟩:=Wt.mp a;rw[decide_eq_true_iff];exact λe=>h (Wt.mpr ⟨z,b,qL e⟩)
theorem Gy{Z:Zr}{p:Int×Int}(h:p∈Z.map (·.1)):∃z∈Z,z.1=p:=by obtain⟨z,a,b⟩:=Wt.mp h;exact⟨z,a,b⟩
theorem lJ(Z:Zr):(GZ Z).map (·.1)=Z.map (·.1):=by unfold GZ;rw[WI];rfl
theorem Ue{Z:Zr}{p:Int×Int}{qs:List (Int×Int)}{b:Nat}(h:p∉Z.map (·.1)):fT (aW Z) (cI p) (.loc b)=aW (Z++[(p,qs,b)]):=by unfold fT;rw[Bd h,if_neg (by simp)];unfold aW;rw[Wf];rfl
theorem Ug{Z:Zr}{p:Int×Int}{qs:List (Int×Int)}{b:Nat}(h:p∈Z.map (·.1))(d:(Z.map (·.1)).Nodup):fT (aW Z) (cI p) (.loc b)=aW (Z.map λy=>if y.1=p then(y.1,qs,b)else y):=by
 obtain⟨z,c,e⟩:=Gy h;unfold fT;rw[<- e,tG d c,Option.isSome_some,if_pos rfl];unfold aW;rw[WI,WI];refine XI λy _=>?_;show(if cI y.1=cI z.1 then(cI y.1,D.loc b)else(cI y.1,D.loc y.2.2))=(cI (if y.1=z.1 then(y.1,qs,b)else y).1,D.loc (if y.1=z.1 then(y.1,qs,b)else y).2.2);by_cases a:y.1=z.1
 ·rw[if_pos (by rw[a]),if_pos a]
 ·rw[if_neg (λw=>a (qL w)),if_neg a]
theorem Gz{c:Hm}{a:Nat}{b:List (List Int×D)}{Q:D×Hm->Prop}(h:c[a]?=b4 (.dT b))(d:b≠[]/\(b.map λp=>Tb.hashT p.1).Nodup):W (nS [.loc a] c) Q↔Q (.loc c.length,c++[.dT b]):=by simp only[nS,h];rw[if_pos d.2];exact W_some
theorem Be{f:D->List D->Hm->Option (D×Hm)}{b:ME}{ms:MA}{a:aG}{c:Hm}{Q:D×Hm->Prop}(h:W (b a c) λp=>pU p.2 p.1=c7/\W (ms a p.2) λq=>W (f p.1 q.1 q.2) Q):W (iK f b ms a c) Q:=by unfold iK;rw[W_bind];refine bQ h λp q=>?_;rw[q.1];exact W_bind.mpr q.2
theorem Bf{c:Hm}{a:Nat}{b:List (List Int×D)}(h:c[a]?=b4 (.dT b)):pU c (.loc a)=true:=by simp only[pU,h]
theorem Uh{a:Hm}{A B:Nat}{ds:List D}{Q:D×Hm->Prop}(hA:a[A]?=b4 (.lst ds))(hB:a[B]?=b4 (.lst [])):W (aY c6 (.loc A) (.loc B) a) Q↔Q (.bl ds.isEmpty,a):=by
 have b:∀{x:Nat}{xs:List D},a[x]?=b4 (.lst xs)->cQ a (.loc x)=b4 (.lst xs):=λh=>by simp only[cQ,h]
 have e:cR 8 a (.loc A) (.loc B)=b4 ds.isEmpty:=by show(cQ a (.loc A)).bind (λu=>(cQ a (.loc B)).bind λv=>gZ (cR 7 a) u v)=_;rw[b hA,b hB];show fY (cR 7 a) ds []=_;cases ds<;>rfl
 unfold aY;rw[e];exact W_some
theorem tH(Z:Zr):(aW Z).length=Z.length:=V0 ..
theorem lK(Z:Zr):(GZ Z).length=Z.length:=V0 ..
noncomputable def cU(k:Int)(p:Int×Int):Int:=if k=0 then p.2 else if k=1 then p.1 else if k=2 then p.1-p.2 else p.1+p.2
noncomputable def bI(k n:Int):Ly:=if k=0 then⟨1,0,0,-1,0,2*n⟩else if k=1 then⟨-1,0,0,1,2*n,0⟩else if k=2 then⟨0,1,1,0,n,-n⟩else⟨0,-1,-1,0,n,n⟩
theorem Bg(k n:Int):Dih (bI k n):=by
 unfold bI;split
 ·exact .inl ⟨rfl,rfl,.inl rfl,.inr rfl⟩
 split
 ·exact .inl ⟨rfl,rfl,.inr rfl,.inl rfl⟩
 split
 ·exact .inr ⟨rfl,rfl,.inl rfl,.inl rfl⟩
 ·exact .inr ⟨rfl,rfl,.inr rfl,.inr rfl⟩
theorem Ui(k n:Int)(p:Int×Int):aV (bI k n) (aV (bI k n) p)=p:=by
 obtain⟨x,y⟩:=p;unfold bI aV;split
 ·refine a0r ?_ ?_<;>dsimp only<;>omega
 split
 ·refine a0r ?_ ?_<;>dsimp only<;>omega
 split
 ·refine a0r ?_ ?_<;>dsimp only<;>omega
 ·refine a0r ?_ ?_<;>dsimp only<;>omega
noncomputable def cJ(G:Gr)(p:Int×Int):List (Int×Int):=match G.find? (λg=>decide (g.1=p))with|some g=>g.2|none=>[]
noncomputable def gR(G:Gr)(p:Int×Int)(L:List (Int×Int)):Gr:=if(G.map (·.1)).contains p then G.map (λg=>if g.1=p then(g.1,L)else g)else G++[(p,L)]
theorem GA(p:Int×Int):cJ [] p=[]:=rfl
theorem gS(g:(Int×Int)×List (Int×Int))(G:Gr)(p:Int×Int):cJ (g::G) p=if g.1=p then g.2 else cJ G p:=by
 unfold cJ;rw[Xf];by_cases e:g.1=p
 ·rw[if_pos e,decide_eq_true e]
 ·rw[if_neg e,decide_eq_false e]
theorem qM{G:Gr}(a:(G.map (·.1)).Nodup){g:(Int×Int)×List (Int×Int)}(h:g∈G):cJ G g.1=g.2:=by
 induction G with
 |nil=>cases h|cons x G b=>
  rw[We,XO]at a;rw[gS];rcases Wr.mp h with rfl|h
  ·exact if_pos rfl
  ·rw[if_neg (λe:x.1=g.1=>a.1 (by rw[e];exact Wt.mpr ⟨g,h,rfl⟩)),b a.2 h]
theorem tI{G:Gr}{p:Int×Int}(h:p∉G.map (·.1)):cJ G p=[]:=by
 induction G with
 |nil=>rfl|cons x G a=>rw[We,Wr,not_or]at h;rw[gS,if_neg (λe=>h.1 e.symm),a h.2]
theorem GB{G K:Gr}{p:Int×Int}(h:p∉G.map (·.1)):cJ (G++K) p=cJ K p:=by
 induction G with
 |nil=>rfl|cons x G a=>rw[We,Wr,not_or]at h;rw[Xp,gS,if_neg (λe=>h.1 e.symm),a h.2]
theorem atG_append'{G K:Gr}{p:Int×Int}(h:p∈G.map (·.1)):cJ (G++K) p=cJ G p:=by
 induction G with
 |nil=>cases h|cons x G a=>
  rw[Xp,gS,gS];by_cases e:x.1=p
  ·rw[if_pos e,if_pos e]
  ·rw[if_neg e,if_neg e];rw[We,Wr]at h;exact a (h.resolve_left λw=>e w.symm)
theorem GC(G:Gr)(p:Int×Int)(L:List (Int×Int)):(gR G p L).map (·.1)=if(G.map (·.1)).contains p then G.map (·.1)else G.map (·.1)++[p]:=by
 unfold gR;split
 ·rw[WI];refine XI λg _=>?_;show(if g.1=p then(g.1,L)else g).1=g.1;split<;>rfl
 ·rw[Wf];rfl
theorem Uj{G:Gr}{p:Int×Int}{L:List (Int×Int)}(a:(G.map (·.1)).Nodup):((gR G p L).map (·.1)).Nodup:=by
 rw[GC];split
 ·exact a
 ·rename_i h;rw[YQ];exact⟨a,by simp,λx b y c e=>h (Xw.mpr (by rw[WS.mp c]at e;exact e▸b))⟩
theorem putG_mem{G:Gr}{p q:Int×Int}{L:List (Int×Int)}:q∈(gR G p L).map (·.1)↔q∈G.map (·.1)\/q=p:=by
 rw[GC];split
 ·rename_i h;exact⟨.inl,λz=>z.elim id λe=>e▸Xw.mp h⟩
 ·rw[XF,WS]
theorem GD(G:Gr)(p q:Int×Int)(L:List (Int×Int)):cJ (gR G p L) q=if q=p then L else cJ G q:=by
 unfold gR;split
 ·rename_i h;have h:=Xw.mp h;induction G with
  |nil=>cases h|cons x G d=>
   rw[We,gS,gS];by_cases e:x.1=p
   ·rw[if_pos e];by_cases a:q=p
    ·rw[if_pos a,if_pos (by rw[e,a])]
    ·rw[if_neg a,if_neg (by show ¬ x.1=q;rw[e];exact λw=>a w.symm),if_neg (by rw[e];exact λw=>a w.symm)];by_cases b:p∈G.map (·.1)
     ·rw[d (Xw.mpr b) b,if_neg a]
     ·have:(G.map λg=>if g.1=p then(g.1,L)else g)=G:=by have w:(G.map λg=>if g.1=p then(g.1,L)else g)=G.map id:=XI λg i=>if_neg λe=>b (Wt.mpr ⟨g,i,e⟩);rw[w,a5h]
      rw[this]
   ·rw[if_neg e];rw[We,Wr]at h;have c:=h.resolve_left λw=>e w.symm;rw[d (Xw.mpr c) c];by_cases a:x.1=q
    ·rw[if_pos a,if_pos a,if_neg (by rw[<- a];exact e)]
    ·rw[if_neg a,if_neg a]
 ·rename_i h;have h:p∉G.map (·.1):=λz=>h (Xw.mpr z);by_cases e:q=p
  ·rw[if_pos e,e,GB h,gS,if_pos rfl]
  ·rw[if_neg e];by_cases b:q∈G.map (·.1)
   ·exact atG_append' b
   ·rw[GB b,gS,if_neg (λw=>e w.symm),GA,tI b]
theorem Uk{G:Gr}{p:Int×Int}(h:cJ G p≠[]):p∈G.map (·.1):=Classical.byContradiction λz=>h (tI z)
structure Pil(qs:List (Int×Int))(f:Int×Int->Int×Int)(G:Gr):Prop where
 kd:(G.map (·.1)).Nodup
 ne:∀g∈G,g.2≠[]
 pm:∀p,(cJ G p).Perm (qs.filter λq=>decide (f q=p))
theorem Pil.key{qs:List (Int×Int)}{f:Int×Int->Int×Int}{G:Gr}(h:Pil qs f G){p:Int×Int}:p∈G.map (·.1)↔∃q∈qs,f q=p:=by
 constructor
 ·intro d;obtain⟨g,c,rfl⟩:=Wt.mp d;have a:=h.pm g.1;rw[qM h.kd c]at a;obtain⟨q,b⟩:=a2f _ (h.ne g c);have:=Xy.mp (a.mem_iff.mp b);exact⟨q,this.1,of_decide_eq_true this.2⟩
 ·rintro⟨q,b,rfl⟩;refine Uk λe=>?_;have a:=h.pm (f q);rw[e]at a;have:q∈([]:List (Int×Int)):=a.mem_iff.mpr (Xy.mpr ⟨b,decide_eq_true rfl⟩);cases this
theorem GF{h:Type}(a b:h->Bool)(hd:∀x,a x=c7->b x=c6):∀l:List h,(l.filter λx=>a x||b x).Perm (l.filter a++l.filter b)
 |[]=>.nil|x::l=>by
  have e:=GF a b hd l;cases c:a x with
  |true=>rw[XA (by simp[c]),XA c,Xl (by simp[hd x c])];exact e.cons x|false=>
   cases d:b x with
   |true=>rw[XA (by simp[d]),Xl (by simp[c]),XA d];exact(e.cons x).trans List.perm_middle.symm|false=>rw[Xl (by simp[c,d]),Xl (by simp[c]),Xl (by simp[d])];exact e
noncomputable def fP(mv:Int×Int->Bool)(G:Gr):Gr:=G.filter λg=>!mv g.1
noncomputable def dW(mv:Int×Int->Bool)(M:Int×Int->Int×Int)(G:Gr):Gr:=(G.filter λg=>mv g.1).map λg=>(M g.1,g.2.reverse)
noncomputable def dA(a:Bool)(S:Gr)(g:(Int×Int)×List (Int×Int)):Gr:=gR S g.1 (if a then cJ S g.1++g.2 else g.2++cJ S g.1)
noncomputable def lL(mv:Int×Int->Bool)(M:Int×Int->Int×Int)(a:Bool)(G:Gr):Gr:=(dW mv M G).foldl (dA a) (fP mv G)
theorem GG{mv:Int×Int->Bool}(p:Int×Int):∀G:Gr,cJ (fP mv G) p=if mv p then[]else cJ G p
 |[]=>by cases mv p<;>rfl
 |g::G=>by
  have a:=GG (mv:=mv) p G;unfold fP at a ⊢;rw[gS];cases h:mv g.1 with
  |true=>
   rw[Xl (by simp[h]),a];by_cases e:g.1=p
   ·rw[<- e,h];rfl
   ·rw[if_neg e]
  |false=>
   rw[XA (by simp[h]),gS];by_cases e:g.1=p
   ·rw[if_pos e,if_pos e,<- e,h];rfl
   ·rw[if_neg e,if_neg e,a]
theorem GH{mv:Int×Int->Bool}{M:Int×Int->Int×Int}(a:∀p,M (M p)=p)(p:Int×Int):∀G:Gr,cJ (dW mv M G) p=if mv (M p)then(cJ G (M p)).reverse else[]
 |[]=>by cases mv (M p)<;>rfl
 |g::G=>by
  have b:=GH (mv:=mv) a p G;unfold dW at b ⊢;rw[gS];have c:M g.1=p↔g.1=M p:=⟨λe=>by rw[<- e,a],λe=>by rw[e,a]⟩;cases h:mv g.1 with
  |true=>
   rw[XA (by simp[h]),We,gS];by_cases e:g.1=M p
   ·rw[if_pos (c.mpr e),if_pos e,<- e,h];rfl
   ·rw[if_neg (λw=>e (c.mp w)),if_neg e,b]
  |false=>
   rw[Xl (by simp[h]),b];by_cases e:g.1=M p
   ·rw[<- e,h];rfl
   ·rw[if_neg e]
theorem GJ(a:Bool):∀(K S:Gr),(K.map (·.1)).Nodup->(S.map (·.1)).Nodup->(∀g∈S,g.2≠[])->(∀g∈K,g.2≠[])->
  ((K.foldl (dA a) S).map (·.1)).Nodup/\(∀g∈K.foldl (dA a) S,g.2≠[])/\∀p,(cJ (K.foldl (dA a) S) p).Perm (cJ S p++cJ K p)
 |[],S,_,hs,ns,_=>⟨hs,ns,λp=>by rw[GA,W4];exact .refl _⟩|g::K,S,hk,hs,ns,nk=>by
  rw[We,XO]at hk;rw[a1A];have b:((dA a S g).map (·.1)).Nodup:=Uj hs;have i:∀x∈dA a S g,x.2≠[]:=λx c=>by
   have e:cJ (dA a S g) x.1=x.2:=qM b c;rw[<- e];unfold dA;rw[GD];have k:=nk g (WU ..);split
   ·cases a
    ·exact λw=>k (a2A.mp w).1
    ·exact λw=>k (a2A.mp w).2
   ·rename_i d;have:x.1∈(dA a S g).map (·.1):=Wt.mpr ⟨x,c,rfl⟩;rcases putG_mem.mp this with h|h
    ·obtain⟨y,j,l⟩:=Wt.mp h;rw[<- l,qM hs j];exact ns y j
    ·exact absurd h d
  obtain⟨m,n,o⟩:=GJ a K (dA a S g) hk.2 b i λx c=>nk x (Wq _ c);refine⟨m,n,λp=>(o p).trans ?_⟩;rw[gS];unfold dA;rw[GD];by_cases e:p=g.1
  ·rw[if_pos e,if_pos e.symm,e,tI hk.1,W4];cases a
   ·exact List.perm_append_comm
   ·exact .refl _
  ·rw[if_neg e,if_neg (λw=>e w.symm)]
theorem Ul{qs:List (Int×Int)}{f:Int×Int->Int×Int}{G:Gr}(h:Pil qs f G){mv:Int×Int->Bool}{M:Int×Int->Int×Int}(d:∀p,M (M p)=p)(c:Bool) :
  Pil qs (λq=>if mv (f q)then M (f q)else f q) (lL mv M c G):=by
 have j:∀(l:List ((Int×Int)×List (Int×Int))),l.Sublist G->(l.map (·.1)).Nodup:=λl x=>(x.map _).nodup h.kd;have o:((dW mv M G).map (·.1)).Nodup:=by
  have e:(dW mv M G).map (·.1)=((G.filter λg=>mv g.1).map (·.1)).map M:=by unfold dW;rw[WI,WI];rfl
  rw[e];exact a0j _ (λa b k w=>k (by rw[<- d a,w,d])) (j _ ZH)
 obtain⟨r,s,u⟩:=GJ c (dW mv M G) (fP mv G) o (j _ ZH) (λg m=>h.ne g (Xy.mp m).1) (λg m=>by
  obtain⟨y,z,rfl⟩:=Wt.mp m;exact λw=>h.ne y (Xy.mp z).1 (List.reverse_eq_nil_iff.mp w))
 refine⟨r,s,λp=>(u p).trans ?_⟩;rw[GG,GH d];have e:(qs.filter λq=>decide ((if mv (f q)then M (f q)else f q)=p))=qs.filter λq=>(!mv (f q)&&decide (f q=p))||(mv (f q)&&decide (f q=M p)):=by
  congr 1;funext q;have v:M (f q)=p↔f q=M p:=⟨λe=>by rw[<- e,d],λe=>by rw[e,d]⟩;cases mv (f q)with
  |true=>simp[v]|false=>simp
 rw[e];refine List.Perm.trans ?_ (GF _ _ (λq n=>?_) qs).symm
 ·refine List.Perm.append ?_ ?_
  ·cases i:mv p with
   |true=>rw[if_pos rfl,YJ.mpr];intro q _ w;rw[VW]at w;have e:=of_decide_eq_true w.2;rw[e,i]at w;exact Wu w.1|false=>
    rw[if_neg Wu];have:(qs.filter λq=>!mv (f q)&&decide (f q=p))=qs.filter λq=>decide (f q=p):=by
     congr 1;funext q;by_cases e:f q=p
     ·simp[e,i]
     ·simp[e]
    rw[this];exact h.pm p
  ·cases i:mv (M p)with
   |true=>
    rw[if_pos rfl];have:(qs.filter λq=>mv (f q)&&decide (f q=M p))=qs.filter λq=>decide (f q=M p):=by
     congr 1;funext q;by_cases e:f q=M p
     ·simp[e,i]
     ·simp[e]
    rw[this];exact(List.reverse_perm _).trans (h.pm (M p))
   |false=>rw[if_neg Wu,YJ.mpr];intro q _ w;rw[VW]at w;have e:=of_decide_eq_true w.2;rw[e,i]at w;exact Wu w.1
 ·rw[VW]at n;simp only[Zj]at n;rw[n.1];rfl
theorem Um{p:Int×Int}{u:Int}(a:0<=u/\u<4):atI [D.int p.2,.int p.1,.int (p.1-p.2),.int (p.1+p.2)] u=b4 (.int (cU u p)):=by
 have:u=0\/u=1\/u=2\/u=3:=by omega
 rcases this with rfl|rfl|rfl|rfl<;>rfl
theorem w_eqBl{a:Hm}{x y:Bool}{Q:D×Hm->Prop}:W (aY c6 (.bl x) (.bl y) a) Q↔Q (.bl (x==y),a):=W_some
theorem j9{w:Int}(h:1<=w/\w<=3):w∈[(1:Int),2,3]:=by
 have:w=1\/w=2\/w=3:=by omega
 rcases this with rfl|rfl|rfl<;>decide
noncomputable def Dc(c:Hm)(a:Nat)(b:List (List Int×D)):Prop:=c[a]?=b4 (.dT b)\/c[a]?=b4 (.dF b)
theorem Uo{c:Hm}{a:Nat}{b:List (List Int×D)}{y d:D}{k:List Int}{Q:D×Hm->Prop}(h:Dc c a b)(e:fE y=b4 k)(i:cF b k=b4 d):W (aE (.loc a) y c) Q↔Q (d,c):=by
 have:aE (.loc a) y c=b4 (d,c):=by rcases h with h|h<;>simp only[aE,h,e,Wl,i,WE]
 rw[this];exact W_some
structure HI(μ:Hm)(a:Nat)(Z:Zr):Prop where
 dic:Dc μ a (aW Z)
 kd:(Z.map (·.1)).Nodup
 at_:∀z∈Z,μ[z.2.2]?=b4 (.lst (z.2.1.map PP))
theorem Dc.more{d c:Hm}{a:Nat}{b:List (List Int×D)}(I:Dc d a b)(h:d<+:c):Dc c a b:=I.elim (λe=>.inl (aL h e)) λe=>.inr (aL h e)
theorem HI.more{c b:Hm}{a:Nat}{Z:Zr}(I:HI c a Z)(h:c<+:b):HI b a Z:=⟨I.dic.more h,I.kd,λz hz=>aL h (I.at_ z hz)⟩
theorem HI.ne{i:Hm}{a b:Nat}{d:List (List Int×D)}{Z:Zr}(I:HI i a Z)(h:Dc i b d){z:(Int×Int)×List (Int×Int)×Nat}(hz:z∈Z):z.2.2≠b:=λe=>by have c:=I.at_ z hz;rw[e]at c;rcases h with h|h<;>(rw[h]at c;cases c)
theorem Bh{d c:Hm}{a:Nat}{b:List (List Int×D)}(hc:d[a]?=b4 (.dT b))(h:d.set a (.dF b)<+:c):d<+:c.set a (.dT b):=by obtain⟨t,rfl⟩:=h;have e:a<d.length:=(VY.mp hc).1;rw[a0s _ _ (by rw[WG];exact e),a0S,tF hc];exact XZ _ _
theorem kE{a:Type}{l:List a}{n:Nat}{x:a}(h:l[n]?=b4 x):l.take (n+1)=l.take n++[x]:=by rw[List.take_add_one,h];rfl
theorem wK{c:Type}{l:List c}(nd:l.Nodup){n:Nat}{x:c}(h:l[n]?=b4 x):x∉l.take n:=λi=>by
 obtain⟨j,a⟩:=List.mem_iff_getElem?.mp i;have b:j<n:=by have:=(VY.mp a).1;rw[Xz]at this;omega
 rw[a2m b]at a;have k:n<l.length:=(VY.mp h).1;have d:=(VY.mp a).2;have e:=(VY.mp h).2;exact absurd ((a3Z nd).mp (d.trans e.symm)) (by omega)
theorem GK{a:Type}:∀xs:List a,(Xh xs.length).filterMap (λi=>xs[i]?)=xs
 |[]=>rfl|x::xs=>by rw[Ww,a2z,X6,List.filterMap_map];show x::(Xh xs.length).filterMap (λi=>(x::xs)[i+1]?)=x::xs;simp only[a2s];rw[GK xs]
noncomputable abbrev a9(v:Int×Int->D)(ps:List (Int×Int)):List (List Int×D):=ps.map λp=>(cI p,v p)
theorem Bi{v:Int×Int->D}{ps:List (Int×Int)}(nd:ps.Nodup){p:Int×Int}(h:p∈ps):cF (a9 v ps) (cI p)=b4 (v p):=by refine Gx ?_ (Wt.mpr ⟨p,h,rfl⟩);rw[WI];exact a0j _ (λa b c x=>c (qL x)) nd
theorem GL{v:Int×Int->D}{ps:List (Int×Int)}{p:Int×Int}(h:p∉ps):cF (a9 v ps) (cI p)=none:=by
 unfold cF;rw[a3q.mpr]
 ·rfl
 ·intro x a;obtain⟨z,b,rfl⟩:=Wt.mp a;rw[decide_eq_true_iff];exact λe=>h (qL e▸b)
theorem Up{v:Int×Int->D}{ps:List (Int×Int)}{p:Int×Int}(h:p∉ps):fT (a9 v ps) (cI p) (v p)=a9 v (ps++[p]):=by unfold fT;rw[GL h,if_neg (by simp)];show _=a4q _ _;rw[Wf];rfl
theorem GN{K:List (List Int×D)}{k:List Int}{d:D}(h:cF K k=c4):fT K k d=K++[(k,d)]:=by unfold fT;rw[h,if_neg (by simp)]
noncomputable def a7(u n:Int)(a:Bool)(p:Int×Int):Bool:=decide (n<cU u p)==a
noncomputable def b7(u n:Int)(a:Bool)(F:Int×Int->Ly)(q:Int×Int):Ly:=if a7 u n a (aV (F q) q)then fX (F q) (bI u n)else F q
theorem Uq{u n:Int}{a:Bool}{F:Int×Int->Ly}(b:∀q,Dih (F q))(q:Int×Int):Dih (b7 u n a F q):=by
 unfold b7;split
 ·exact T5 (b q) (Bg u n)
 ·exact b q
theorem GO(u n:Int)(a:Bool)(F:Int×Int->Ly)(q:Int×Int):aV (b7 u n a F q) q=if a7 u n a (aV (F q) q)then aV (bI u n) (aV (F q) q)else aV (F q) q:=by
 unfold b7;split
 ·rw[TY]
 ·rfl
theorem Ur{G:Gr}{p:Int×Int}{L:List (Int×Int)}(h:p∉G.map (·.1)):gR G p L=G++[(p,L)]:=by unfold gR;rw[if_neg (λw=>h (Xw.mp w))]
theorem Us(mv:Int×Int->Bool)(M:Int×Int->Int×Int)(G:Gr)(g:(Int×Int)×List (Int×Int)):dW mv M (G++[g])=if mv g.1 then dW mv M G++[(M g.1,g.2.reverse)]else dW mv M G:=by unfold dW;rw[Ye,Wf];cases h:mv g.1<;>simp[h]
theorem GP{c:Type} [DecidableEq c]:∀{l m:List c},l.Nodup->(∀x∈l,x∈m)->l.length<=m.length
 |[],_,_,_=>W7 _|x::l,m,h,hs=>by rw[XO]at h;have a:=hs x (WU ..);have d:=GP (l:=l) (m:=m.erase x) h.2 λy b=>(List.mem_erase_of_ne (λe:y=x=>h.1 (e▸b))).mpr (hs y (Wq _ b));rw[List.length_erase_of_mem a]at d;have:=List.length_pos_of_mem a;rw[Ww];omega
theorem Pil.len{qs:List (Int×Int)}{g:Int×Int->Int×Int}{G:Gr}(P:Pil qs g G):G.length<=qs.length/\∀x∈G,x.2.length<=qs.length:=by
 constructor
 ·have:=GP P.kd (m:=qs.map g) λp a=>by obtain⟨q,b,e⟩:=P.key.mp a;exact Wt.mpr ⟨q,b,e⟩
  rw[V0,V0]at this;exact this
 ·intro x c;have:=(P.pm x.1).length_eq;rw[qM P.kd c]at this;rw[this];exact Xv _ _
theorem Pil.lenZ{qs:List (Int×Int)}{g:Int×Int->Int×Int}{Z:Zr}(P:Pil qs g (GZ Z)):Z.length<=qs.length/\∀z∈Z,1<=z.2.1.length/\z.2.1.length<=qs.length:=by obtain⟨a,c⟩:=P.len;unfold GZ at a;rw[V0]at a;refine⟨a,λz d=>?_⟩;have b:(z.1,z.2.1)∈GZ Z:=Wt.mpr ⟨z,d,rfl⟩;exact⟨a3d.mpr (P.ne _ b),c _ b⟩
theorem GQ{a:Type} [DecidableEq a]:∀{l:List a},l.Nodup->∀{p:a},p∈l->(l.filter λq=>decide (q=p))=[p]
 |[],_,_,h=>by cases h
 |x::l,nd,p,h=>by
  rw[XO]at nd;by_cases e:x=p
  ·subst e;rw[XA (by simp),YJ.mpr];intro y b w;exact nd.1 (of_decide_eq_true w▸b)
  ·rw[Xl (by simp[e])];exact GQ nd.2 ((Wr.mp h).resolve_left λw=>e w.symm)
noncomputable def iQ(qs:List (Int×Int)):Gr:=qs.map λq=>(q,[q])
theorem Bj(qs:List (Int×Int)):(iQ qs).map (·.1)=qs:=by unfold iQ;rw[WI];exact a5h _
theorem Ut{qs:List (Int×Int)}(nd:qs.Nodup):Pil qs (λq=>aV eB q) (iQ qs):=by
 have a:((iQ qs).map (·.1)).Nodup:=by rw[Bj];exact nd
 refine⟨a,λg b=>?_,λp=>?_⟩
 ·obtain⟨q,_,rfl⟩:=Wt.mp b;simp
 ·have e:(λq=>decide (aV eB q=p))=λq=>decide (q=p):=funext λq=>by rw[Gj]
  rw[e];by_cases h:p∈qs
  ·have:=qM a (g:=(p,[p])) (Wt.mpr ⟨p,h,rfl⟩);rw[this,GQ nd h]
  ·rw[tI (by rw[Bj];exact h),YJ.mpr];intro q c w;exact h (of_decide_eq_true w▸c)
structure Grw(qs:List (Int×Int))(μ:Hm)(w h:Nat)(F:Int×Int->Ly)(Z:Zr):Prop where
 hw:μ[w]?=b4 (.dT (a9 (λq=>LD (F q)) qs))
 hi:HI μ h Z
 hh:μ[h]?=b4 (.dT (aW Z))
 di:∀q,Dih (F q)
 pl:Pil qs (λq=>aV (F q) q) (GZ Z)
noncomputable def iR(n:Int):Int:=if 0<n then 1 else if n<0 then -1 else 0
theorem Uu(k:Nat)(x y a b:Int)(d:Hm)(Q:D×Hm->Prop):W (f (k+2) "hand_of" [P x y,P a b] d) Q↔Q (.int (iR (iO a b x y-iO a b a b)),d):=by
 rw[SS,W_fin];simp only[bA,w_mRet,cH,b6,sT,bH,bC,aP,aM,aU,aR,aF,aJ,cB,mQ,jZ,qF,AZ,Ga,Gb,V3,V4];generalize iO a b x y-iO a b a b=n;unfold iR;by_cases c:0<n
 ·simp[c]
 ·by_cases e:n<0<;>simp[c,e]
noncomputable def oC(h:Int)(x:Int):List (Int×Int):=(Xh (4*h-1).toNat).map λ(j:Nat)=>(x,1+(j:Int))
noncomputable def mW(h:Int)(n:Nat):List (Int×Int):=(Xh n).flatMap λ(i:Nat)=>oC h (1+(i:Int))
noncomputable def qN(w h:Int):List (Int×Int):=mW h (4*w-1).toNat
theorem GR(h:Int)(n:Nat):mW h (n+1)=mW h n++oC h (1+(n:Int)):=by unfold mW;rw[a1z,Yp];simp
theorem GS(h x:Int):(oC h x).length=(4*h-1).toNat:=by unfold oC;simp
theorem Bk(h:Int):∀n:Nat,(mW h n).length=n*(4*h-1).toNat
 |0=>by simp[mW]
 |n+1=>by rw[GR,V5,Bk h n,GS,a1f]
theorem GU{h:Int}(b:h<=6){n:Nat}(a:n<=23):n*(4*h-1).toNat<=529:=by have:n*(4*h-1).toNat<=23*23:=a2e a (by omega);omega
theorem Uv(h x:Int):((lG 1 (4*h-1).toNat).filter λ_=>c7).map (λd=>P x (t7 d))=(oC h x).map PP:=by unfold lG oC;rw[show ∀l:List D,l.filter (λ_=>c7)=l from λl=>by simp,WI,WI];rfl
theorem Uw(k:Nat)(w h:Int)(hw:1<=w/\w<=6)(u:1<=h/\h<=6)(e:Hm)(Q:D×Hm->Prop)(H:∀a b,e<+:b->b[a]?=b4 (.lst ((qN w h).map PP))->e.length<=a->Q (.loc a,b)):W (f (k+1) "places_within" [.int w,.int h] e) Q:=by
 rw[S5,W_fin];simp only[bA,bH,dZ,aM];refine⟨W7 _,?_⟩;simp only[V3,V4,j5,FQ,aP,aM,aR,aU,aF,aJ,qJ];refine⟨by omega,?_⟩;refine wD (lo:=1) (λi r b=>e<+:b/\b[e.length]?=b4 (.lst ((mW h i).map PP))/\∃o,r=[b4 (.int w),b4 (.int h),b4 (.loc e.length),o]) ⟨aO _ _,bF _ _,c4,rfl⟩ ?_ ?_
 ·rintro i r q x ⟨p,l,o,rfl⟩;refine⟨_,rfl,?_⟩;simp only[V3,V4,lF];refine mR ?_;simp only[aF,aJ];refine⟨FX l,?_⟩;simp only[aP,aM];refine wF (xs:=lG 1 (4*h-1).toNat) (p:=λ_=>c7) (v:=λd=>P (1+(i:Int)) (t7 d)) ?_;simp only[FQ,aP,aM,aR,aU,aF,aJ,qJ];refine⟨by omega,Sw,by simp[lG],by rw[W6];simp[lG];omega,?_,?_,?_⟩
  ·intro d b hd p;exact w_mTrue.mpr ⟨rfl,XQ _⟩
  ·intro d b hd _ p;obtain⟨j,y,rfl⟩:=TN hd;simp only[Xp,Yj,gG,aP,aM,aF,aJ,fN,true_and];exact⟨rfl,XQ _⟩
  ·intro v c m;rw[Uv]at m;have n:((mW h i).map PP).length+((oC h (1+(i:Int))).map PP).length<=Wb:=by have s:=GU (h:=h) u.2 (n:=i+1) (by omega);rw[a1f]at s;rw[V0,V0,Bk,GS,W6];omega
   refine(Sy (aL c l) m n).mpr ?_;refine⟨mO (p.trans c) (Wa _) _,?_,_,rfl⟩;rw[Wh (VY.mp (aL c l)).1,GR,Wf]
 ·rintro r q ⟨p,l,o,rfl⟩;simp only[w_mRet,aF,aJ];exact H _ _ p l (Wa _)
theorem Ux{w h:Int}(hw:w<=6)(a:h<=6):(qN w h).length<=529:=by unfold qN;rw[Bk];exact GU a (by omega)
noncomputable def eP(p:Int×Int):Bool:=if p.1%2=1 then p.2%4==2 else p.1%4==2&&p.2%2==1
theorem Uy(k:Nat)(x y:Int)(a:Hm)(Q:D×Hm->Prop):W (f (k+1) "is_quarter" [P x y] a) Q↔Q (.bl (eP (x,y)),a):=by
 rw[SO,W_fin];simp only[bA,w_mRet,cH,b6,cB,jX,aU,aR,aF,j4,gQ,w_eqI,Sl,F6,F7];unfold eP;by_cases h:x%2=1
 ·simp[h]
 ·have e:(x%2==1)=false:=by simpa using h
  simp only[e,h,V6,if_false];cases x%4==2<;>simp
theorem GV(k:Nat)(i:Int)(a:Hm)(Q:D×Hm->Prop):W (f (k+1) "is_whole" [.int i] a) Q↔Q (.bl c7,a):=by rw[A7,W_fin];simp only[w_mRet,jX,AX,bC,aP,aM,aF,aR,Sz,FY,if_true,X5]
theorem Bl(k:Nat){i:Int}(h:1<=i/\i<=6)(a:Hm)(Q:D×Hm->Prop)(H:Q (.bl c7,a)):W (f (k+2) "is_size" [.int i] a) Q:=by rw[wH,W_fin];simp only[w_mRet,jX,bC,aP,aM,aF,aR,GV,if_true,FZ,A0,decide_eq_true h.1,decide_eq_true h.2];exact H
theorem Uz(k:Nat){w h:Int}(hw:1<=w/\w<=6)(b:1<=h/\h<=6)(a:Hm)(Q:D×Hm->Prop)(H:Q (.non,a)):W (f (k+3) "check_size" [.int w,.int h] a) Q:=by rw[S3,W_fin];simp only[b6,sU,fW,gP,bC,aP,aM,aF,aJ];refine Bl k hw _ _ ?_;simp only[eX,if_true];refine Bl k b _ _ ?_;simp only[eX,W9,V6,if_false,cH];exact H
theorem Bm{i:Nat}{j k:MS}{d:aG}{c:Hm}{a:Nat}{b:List (List Int×D)}{Q:Fl×aG×Hm->Prop}(h:zO i d=b4 (.loc a))(hc:c[a]?=b4 (.dT b))
  (H:W (j d (c.set a (.dF b))) λr=>r.2.2[a]?=b4 (.dF b)/\Q (r.1,r.2.1,r.2.2.set a (.dT b))):W (eN i j k d c) Q:=by
 have e:pT i d c=b4 (a,b):=by simp only[pT,h,hc]
 unfold eN;rw[e,W_bind];refine bQ H λr q=>?_;rw[q.1];exact W_some.mpr q.2
theorem tJ{i:Nat}{o:MI}{g:MG}{body x:MS}{m:aG}{l:Hm}{a:Nat}{e:List (List Int×D)}{ds:List D}{Q:Fl×aG×Hm->Prop}(h:zO i m=b4 (.loc a))(hc:l[a]?=b4 (.dT e))
  (hit:o m (l.set a (.dF e))=b4 (eM (.tup ds),ds.length+1,l.set a (.dF e)))(I:Nat->aG->Hm->Prop)(s:I 0 m (l.set a (.dF e)))
  (r:∀n d c b,ds[n]?=b4 d->I n c b->∃j,g d c b=b4 j/\W (body j b) λp=>p.1=.nx/\I (n+1) p.2.1 p.2.2)
  (k:∀c b,I ds.length c b->b[a]?=b4 (.dF e)/\Q (.nx,c,b.set a (.dT e))):W (eN i (cW o g body) x m l) Q:=by
 refine Bm h hc ?_;rw[j5,hit,W_some];refine Su (x:=.tup ds) (λ_=>rfl) I s (λn d c b hd w=>?_) k;obtain⟨j,u,v⟩:=r n d c b hd w;refine⟨j,u,bQ v λp q=>?_⟩;rw[q.1];exact q.2
theorem Bn{me:ME}{e:aG}{d c:Hm}{a:Nat}{b:List (List Int×D)}(h:me e d=b4 (.loc a,c))(g:c[a]?=b4 (.dF b)):iA me e d=b4 (eM (.tup (jB b)),(jB b).length+1,c):=by simp only[iA,h,Wl,g,jB,V0]
theorem wL{me:ME}{e:aG}{d c:Hm}{a:Nat}{b:List (List Int×D)}(h:me e d=b4 (.loc a,c))(g:c[a]?=b4 (.dF b)):k8 me e d=b4 (eM (.tup (gL b)),(gL b).length+1,c):=by simp only[k8,h,Wl,g,gL,V0]
theorem GW{V:Int×Int->D}{qs:List (Int×Int)}:gL (a9 V qs)=qs.map λq=>.tup [PP q,V q]:=by unfold gL a9;rw[WI];rfl
theorem qO(Z:Zr):gL (aW Z)=Z.map λz=>.tup [PP z.1,.loc z.2.2]:=by unfold gL aW;rw[WI];rfl
theorem wM(Z:Zr):jB (aW Z)=(Z.map (·.1)).map PP:=by unfold jB aW;rw[WI,WI];rfl
theorem jI{a:Hm}{l:Nat}{c:C}(h:l<a.length)(t:Hm):(a++t).set l c=a.set l c++t:=a0s _ _ h
theorem mX(a:Hm){l:Nat}{c:C}(h:l<a.length)(t:Hm):(a.set l c++t)[l]?=b4 c:=by rw[Wz (by rw[WG];exact h),Wh h]
theorem GX(a:Hm)(l:Nat)(c d d':C)(t:Hm):(a.set l c++d::t).set a.length d'=a.set l c++d'::t:=by rw[Zu _ _ (by rw[WG];exact Wa _),WG,Zq];rfl
theorem Bo(a:Hm)(l:Nat)(c d:C)(t:Hm):(a.set l c++d::t)[a.length]?=b4 d:=by rw[W2 (by rw[WG];exact Wa _),WG,Zq];rfl
theorem wN{a:Hm}{l:Nat}{c b:C}(h:a[l]?=b4 c)(t:Hm):(a.set l b++t).set l c=a++t:=by have d:l<a.length:=(VY.mp h).1;rw[a0s _ _ (by rw[WG];exact d),a0S,tF h]
structure OnL(e:Int×Int)(u n:Int):Prop where
 u0:0<=u/\u<4
 num:∀p:Int×Int,iO e.1 e.2 p.1 p.2=cU u p
 at_:cU u e=n
 mir:∀p,eA p e=aV (bI u n) p
 mirZ:wJ e=bI u n
noncomputable def sd(a:Bool):Int:=if a then 1 else -1
theorem Bp{u n:Int}{p:Int×Int}(h:cU u p≠n)(a:Bool):(iR (cU u p-n)==sd a)=a7 u n a p:=by
 unfold iR sd a7;by_cases b:n<cU u p
 ·have:0<cU u p-n:=by omega
  rw[if_pos this,decide_eq_true b];cases a<;>rfl
 ·have c:¬ 0<cU u p-n:=by omega
  have d:cU u p-n<0:=by omega
  rw[if_neg c,if_pos d,decide_eq_false b];cases a<;>rfl
theorem wO(k:Nat){e p:Int×Int}{u n:Int}(E:OnL e u n)(c:Hm)(Q:D×Hm->Prop):W (f (k+2) "hand_of" [PP p,PP e] c) Q↔Q (.int (iR (cU u p-n)),c):=by obtain⟨x,y⟩:=e;obtain⟨a,b⟩:=p;have d:=E.num (a,b);have h:=E.num (x,y);have i:=E.at_;dsimp only at d h;have:=Uu k a b x y c Q;rw[d,h,i]at this;exact this
theorem UA(k:Nat){e p:Int×Int}{u n:Int}(E:OnL e u n)(c:Hm)(Q:D×Hm->Prop):W (f (k+2) "mirrored" [PP p,PP e] c) Q↔Q (PP (aV (bI u n) p),c):=by obtain⟨x,y⟩:=e;obtain⟨a,b⟩:=p;have:=Ge k a b x y c Q;rw[E.mir (a,b)]at this;exact this
theorem UB(k:Nat){e:Int×Int}{u n:Int}(E:OnL e u n)(a:Hm)(Q:D×Hm->Prop):W (f (k+3) "mirror_in" [PP e] a) Q↔Q (LD (bI u n),a):=by obtain⟨x,y⟩:=e;have:=T6 k x y a Q;rw[E.mirZ]at this;exact this
theorem UC(k:Nat){l:Nat}{F:Int×Int->Ly}(w:∀q,Dih (F q)){qs:List (Int×Int)}(nd:qs.Nodup)(J:qs.length<=100){e:Int×Int}{u n:Int}{a:Bool}(E:OnL e u n)(G:∀q∈qs,cU u (aV (F q) q)≠n){b:Hm}
  (g:b[l]?=b4 (.dT (a9 (λq=>LD (F q)) qs)))(Q:D×Hm->Prop)(H:Q (.loc b.length,b++[.dT (a9 (λq=>LD (b7 u n a F q)) qs)])):W (f (k+4) "folded_layings" [.loc l,PP e,.int (sd a)] b) Q:=by
 have c:l<b.length:=(VY.mp g).1;rw[S8,W_fin];simp only[bA,bH,bC,aP,aM,aF,aJ,UB k E,qI,V3,V4];have A:(b++[C.dT []])[l]?=b4 (.dT (a9 (λq=>LD (F q)) qs)):=by rw[Wz c];exact g
 refine tJ rfl A (wL (a:=l) rfl (by rw[jI c];exact mX b c _)) (λi o m=>∃x y z,o=[b4 (.loc l),b4 (PP e),b4 (.int (sd a)),b4 (LD (bI u n)),b4 (.loc b.length),x,y,z]/\m=b.set l (.dF (a9 (λq=>LD (F q)) qs))++[.dT (a9 (λq=>LD (b7 u n a F q)) (qs.take i))])
  ⟨c4,c4,c4,rfl,jI c _⟩ (λi d o m hd p=>?_) λo m p=>?_
 ·obtain⟨x,y,z,rfl,rfl⟩:=p;rw[GW,WD]at hd;obtain⟨q,j,rfl⟩:=VZ.mp hd;refine⟨_,rfl,?_⟩;have r:q∈qs:=Xq j;have B:i<qs.length:=(VY.mp j).1;have s:∀b Q,W (f (k+3) "led" [LD (F q),PP q] b) Q↔Q (PP (aV (F q) q),b):=λb Q=>Ba (k+2) (F q) (w q) q.1 q.2 b Q;simp only[iX,V3,V4,bA,bH,aU,bC,aP,aM,aF,aJ,s,wO (k+1) E,w_eqI,Bp (G q r),lI,sT,gP,eX];have I:cF (a9 (λq=>LD (b7 u n a F q)) (qs.take i)) (cI q)=none:=GL (wK nd j);have put:∀d Q,Q (b.set l (.dF (a9 (λq=>LD (F q)) qs))++[.dT (a9 (λq=>LD (b7 u n a F q)) (qs.take i)++[(cI q,d)])])->W (kZ (.loc b.length) (PP q) d (b.set l (.dF (a9 (λq=>LD (F q)) qs))++[.dT (a9 (λq=>LD (b7 u n a F q)) (qs.take i))])) Q:=λd Q h=>by refine(sZ (Bo _ _ _ _ _) (j8 q) (by rw[V0,Xz,W6];omega)).mpr ?_;rw[GN I,GX];exact h
  have v:a9 (λq=>LD (b7 u n a F q)) (qs.take (i+1))=a9 (λq=>LD (b7 u n a F q)) (qs.take i)++[(cI q,LD (b7 u n a F q))]:=by unfold a9;rw[kE j,Wf];rfl
  cases hc:a7 u n a (aV (F q) q)with
  |true=>simp only[if_true,bC,aP,aM,aF,aJ];refine(T7 (k+1) (F q) (bI u n) (w q) (Bg u n) _ _).mpr (put _ _ ⟨trivial,_,_,_,rfl,?_⟩);rw[v];unfold b7;rw[if_pos hc]|false=>simp only[V6,if_false,aF,aJ];refine put _ _ ⟨trivial,_,_,_,rfl,?_⟩;rw[v];unfold b7;rw[if_neg (by rw[hc];exact Wu)]
 ·obtain⟨x,y,z,rfl,rfl⟩:=p;refine⟨mX b c _,?_⟩;rw[wN g,GW,V0,Ys];simp only[w_mRet,aF,aJ];exact H
noncomputable def cK(c:Nat):Zr->Zr
 |[]=>[]|z::Z=>(z.1,z.2.1,c)::cK (c+1) Z
theorem mY(z:(Int×Int)×List (Int×Int)×Nat):∀(Z:Zr)(c:Nat),cK c (Z++[z])=cK c Z++[(z.1,z.2.1,c+Z.length)]
 |[],c=>rfl|y::Z,c=>by show(y.1,y.2.1,c)::cK (c+1) (Z++[z])=(y.1,y.2.1,c)::(cK (c+1) Z++_);rw[mY z Z (c+1),Ww,show c+1+Z.length=c+(Z.length+1) by omega]
theorem mZ:∀(Z:Zr)(c:Nat),GZ (cK c Z)=GZ Z
 |[],_=>rfl|z::Z,c=>by show(z.1,z.2.1)::GZ (cK (c+1) Z)=(z.1,z.2.1)::GZ Z;rw[mZ Z (c+1)]
theorem wQ{Z Y:Zr}(h:GZ Z=GZ Y):Z.map (·.1)=Y.map (·.1):=by rw[<- lJ,<- lJ,h]
theorem wR:∀(Z:Zr)(c:Nat)(b t:Hm),c=b.length->∀z∈cK c Z,c<=z.2.2/\(b++(Z.map λz=>C.lst (z.2.1.map PP))++t)[z.2.2]?=b4 (.lst (z.2.1.map PP))
 |[],_,_,_,_,z,a=>nomatch a|y::Z,c,b,t,hc,z,a=>by
  rcases Wr.mp a with rfl|a
  ·refine⟨Wa _,?_⟩;rw[XX,W2 (by rw[hc];exact Wa _),hc,Zq];rfl
  ·have:=wR Z (c+1) (b++[.lst (y.2.1.map PP)]) t (by rw[hc,V5];rfl) z a;refine⟨by omega,?_⟩;rw[<- this.2,We,XX b [_],a2Q]
structure Pz(μ:Hm)(n a:Nat)(Z:Zr):Prop where
 dic:μ[a]?=b4 (.dT (aW Z))
 kd:(Z.map (·.1)).Nodup
 at_:∀z∈Z,n<=z.2.2/\μ[z.2.2]?=b4 (.lst (z.2.1.map PP))
theorem wU{ds:List D}{a:Hm}{p i:Nat}{c d:C}{L:List C}(h:a[i]?=b4 (.lst ds))(e:i≠p):(a.set p c++d::L)[i]?=b4 (.lst ds):=by have b:=(VY.mp h).1;rw[Wz (by rw[WG];exact b),V9 (WL e)];exact h
theorem HI.nd{a:Hm}{p:Nat}{Z:Zr}(I:HI a p Z){i:Nat}{z:(Int×Int)×List (Int×Int)×Nat}(h:Z[i]?=b4 z):z.1∉(Z.take i).map (·.1):=by have:=I.kd;rw[List.map_take];exact wK this (by rw[WD,h];rfl)
theorem Bq{a:Hm}{p:Nat}{c:C}{Y:Zr}{q:Int×Int}{L:List (Int×Int)}(i:q∉Y.map (·.1))(j:Y.length<=1000)(Q:Hm->Prop)
  (H:Q (a.set p c++(.dT (aW (cK (a.length+1) (Y++[(q,L,0)])))::(Y++[(q,L,0)]:Zr).map λz=>C.lst (z.2.1.map PP)))) :
  W (kZ (.loc a.length) (PP q) (.loc (a.set p c++(.dT (aW (cK (a.length+1) Y))::Y.map λz=>C.lst (z.2.1.map PP))).length) ((a.set p c++(.dT (aW (cK (a.length+1) Y))::Y.map λz=>C.lst (z.2.1.map PP)))++[.lst (L.map PP)])) Q:=by
 have e:(a.set p c++(.dT (aW (cK (a.length+1) Y))::Y.map λz=>C.lst (z.2.1.map PP))).length=a.length+1+Y.length:=by rw[V5,WG,Ww,V0];omega
 have d:(cK (a.length+1) Y).map (·.1)=Y.map (·.1):=wQ (mZ _ _);have b:(cK (a.length+1) Y).length=Y.length:=by simpa using congrArg WY d
 rw[e,XX,Xp];refine(sZ (Bo _ _ _ _ _) (j8 q) (by rw[tH,b,W6];omega)).mpr ?_;rw[GN (Bd (by rw[d];exact i)),GX];have h:aW (cK (a.length+1) Y)++[(cI q,D.loc (a.length+1+Y.length))]=aW (cK (a.length+1) (Y++[(q,L,0)])):=by rw[mY];unfold aW;rw[Wf];rfl
 rw[h];rw[Wf]at H;exact H
theorem UD(k:Nat){a:Hm}{p:Nat}{Z:Zr}(I:HI a p Z)(g:a[p]?=b4 (.dT (aW Z)))(o:Z.length<=1000)(Q:D×Hm->Prop)
  (H:Q (.loc a.length,a++(.dT (aW (cK (a.length+1) Z))::Z.map λz=>C.lst (z.2.1.map PP)))):W (f (k+1) "copied_piles" [.loc p] a) Q:=by
 have b:p<a.length:=(VY.mp g).1;rw[S7,W_fin];simp only[bA,bH,qI,V3,V4];have n:(a++[C.dT []])[p]?=b4 (.dT (aW Z)):=by rw[Wz b];exact g
 refine tJ rfl n (wL (a:=p) rfl (by rw[jI b];exact mX a b _)) (λi h c=>∃x y,h=[b4 (.loc p),b4 (.loc a.length),x,y]/\c=a.set p (.dF (aW Z))++(.dT (aW (cK (a.length+1) (Z.take i)))::(Z.take i).map λz=>C.lst (z.2.1.map PP)))
  ⟨c4,c4,rfl,jI b _⟩ (λi d h c hd m=>?_) λh c m=>?_
 ·obtain⟨x,y,rfl,rfl⟩:=m;rw[qO,WD]at hd;obtain⟨z,l,rfl⟩:=VZ.mp hd;refine⟨_,rfl,?_⟩;have j:=Xq l;simp only[iX,V3,V4,lI,bC,aP,aM,aF,aJ];refine(A5 (wU (I.at_ z j) (I.ne (.inl g) j))).mpr ?_;refine Bq (I.nd l) (by rw[Xz];omega) _ ⟨trivial,_,_,rfl,?_⟩;have e:cK (a.length+1) (Z.take i++[(z.1,z.2.1,0)])=cK (a.length+1) (Z.take (i+1)):=by rw[kE l,mY,mY]
  rw[e,kE l,Wf,Wf];rfl
 ·obtain⟨x,y,rfl,rfl⟩:=m;refine⟨mX a b _,?_⟩;rw[wN g,qO,V0,Ys];simp only[w_mRet,aF,aJ];exact H
theorem UE(k:Nat){b:Hm}{p:Nat}{Z:Zr}(I:HI b p Z)(g:b[p]?=b4 (.dT (aW Z)))(B:Z.length<=1000){e:Int×Int}{u n:Int}{a o:Bool}(E:OnL e u n)(A:∀z∈Z,cU u z.1≠n)(Q:Fl×aG×Hm->Prop)
  (H:∀x y,Q (.nx,[b4 (.loc p),b4 (PP e),b4 (.int (sd a)),b4 (.bl o),b4 (.loc b.length),x,y,c4,c4,c4],b++(.dT (aW (cK (b.length+1) (Z.filter λz=>!a7 u n a z.1)))::(Z.filter λz=>!a7 u n a z.1).map λz=>C.lst (z.2.1.map PP)))) :
  W (eN 0 (cW (k8 (aA 0)) (f7 [5,6]) (aX (aN (aC (aY c7) (aH (f (k+2) "hand_of") (aB (aA 5) (aB (aA 1) aD))) (aA 2))) (dR (aA 4) (aA 5) (aH fU (aB (aA 6) aD))) a8)) bP [b4 (.loc p),b4 (PP e),b4 (.int (sd a)),b4 (.bl o),b4 (.loc b.length),c4,c4,c4,c4,c4] (b++[.dT []])) Q:=by
 have c:p<b.length:=(VY.mp g).1;have s:(b++[C.dT []])[p]?=b4 (.dT (aW Z)):=by rw[Wz c];exact g
 refine tJ rfl s (wL (a:=p) rfl (by rw[jI c];exact mX b c _)) (λi m l=>∃x y,m=[b4 (.loc p),b4 (PP e),b4 (.int (sd a)),b4 (.bl o),b4 (.loc b.length),x,y,c4,c4,c4] /\
   l=b.set p (.dF (aW Z))++(.dT (aW (cK (b.length+1) ((Z.take i).filter λz=>!a7 u n a z.1)))::((Z.take i).filter λz=>!a7 u n a z.1).map λz=>C.lst (z.2.1.map PP)))
  ⟨c4,c4,rfl,jI c _⟩ (λi d m l hd q=>?_) λm l q=>?_
 ·obtain⟨x,y,rfl,rfl⟩:=q;rw[qO,WD]at hd;obtain⟨z,r,rfl⟩:=VZ.mp hd;refine⟨_,rfl,?_⟩;have j:=Xq r;have ne:∀{x y:Int}{b:Hm}{Q:D×Hm->Prop},W (aY c7 (.int x) (.int y) b) Q↔Q (.bl (!(x==y)),b):=W_some;simp only[iX,V3,V4,b6,cB,aU,bC,aP,aM,aF,aJ,wO k E,ne,Bp (A z j)];have e:(Z.take (i+1)).filter (λz=>!a7 u n a z.1)=(Z.take i).filter (λz=>!a7 u n a z.1)++[z].filter (λz=>!a7 u n a z.1):=by rw[kE r,Ye]
  cases hc:a7 u n a z.1 with
  |true=>simp only[W9,V6,if_false,cH];refine⟨trivial,_,_,rfl,?_⟩;rw[e,Xl (by rw[hc];decide),Y8,W4]|false=>
   simp only[X5,if_true,lI,bC,aP,aM,aF,aJ];refine(A5 (wU (I.at_ z j) (I.ne (.inl g) j))).mpr ?_;refine Bq (λh=>I.nd r ?_) (by have:=Xv (λz:(Int×Int)×List (Int×Int)×Nat=>!a7 u n a z.1) (Z.take i);rw[Xz]at this;omega) _ ⟨trivial,_,_,rfl,?_⟩
   ·obtain⟨y,v,w⟩:=Wt.mp h;exact Wt.mpr ⟨y,(Xy.mp v).1,w⟩
   ·rw[e,XA (by rw[hc];rfl),Y8,mY,mY,Wf,Wf];rfl
 ·obtain⟨x,y,rfl,rfl⟩:=q;refine⟨mX b c _,?_⟩;rw[wN g,qO,V0,Ys];exact H x y
theorem Pz.ne{c:Hm}{n a:Nat}{Z:Zr}(I:Pz c n a Z){z:(Int×Int)×List (Int×Int)×Nat}(hz:z∈Z):z.2.2≠a:=λe=>by have b:=(I.at_ z hz).2;rw[e,I.dic]at b;cases b
theorem Pz.keep{d b:Hm}{n a:Nat}{Z:Zr}(I:Pz d n a Z)(h:∀(c:Nat)(y:C),d[c]?=b4 y->b[c]?=b4 y):Pz b n a Z:=⟨h _ _ I.dic,I.kd,λz hz=>⟨(I.at_ z hz).1,h _ _ (I.at_ z hz).2⟩⟩
theorem Pz.put{k:Hm}{n a b:Nat}{Z:Zr}(I:Pz k n a Z){p:Int×Int}{L:List (Int×Int)}(j:k[b]?=b4 (.lst (L.map PP)))(l:n<=b) :
  ∃i,fT (aW Z) (cI p) (.loc b)=aW i/\GZ i=gR (GZ Z) p L/\Pz (k.set a (.dT (aW i))) n a i:=by
 have bs:b≠a:=λe=>by rw[e,I.dic]at j;cases j
 by_cases d:p∈Z.map (·.1)
 ·refine⟨Z.map λy=>if y.1=p then(y.1,L,b)else y,Ug d I.kd,?_,oB I.dic,?_,λy c=>?_⟩
  ·unfold gR;rw[lJ,if_pos (Xw.mpr d)];unfold GZ;rw[WI,WI];refine XI λz _=>?_;show((if z.1=p then(z.1,L,b)else z).1,(if z.1=p then(z.1,L,b)else z).2.1)=if z.1=p then(z.1,L)else(z.1,z.2.1)
   split<;>rfl
  ·have e:(Z.map λy=>if y.1=p then(y.1,L,b)else y).map (·.1)=Z.map (·.1):=by rw[WI];refine XI λy _=>?_;show(if y.1=p then(y.1,L,b)else y).1=y.1;split<;>rfl
   rw[e];exact I.kd
  ·obtain⟨x,h,rfl⟩:=Wt.mp c;split
   ·rw[V9 (WL bs)];exact⟨l,j⟩
   ·rw[V9 (WL (I.ne h))];exact I.at_ x h
 ·refine⟨Z++[(p,L,b)],Ue d,?_,oB I.dic,?_,λy c=>?_⟩
  ·unfold gR;rw[lJ,if_neg (λw=>d (Xw.mp w))];unfold GZ;rw[Wf];rfl
  ·rw[Wf,YQ];exact⟨I.kd,by simp,λx h y c e=>by
    simp only[We,a0T,WS]at c;rw[e,c]at h;exact d h⟩
  ·rcases XF.mp c with c|c
   ·rw[V9 (WL (I.ne c))];exact I.at_ y c
   ·rw[WS.mp c,V9 (WL bs)];exact⟨l,j⟩
theorem Br{d:Hm}{n a b:Nat}{Z:Zr}(I:Pz d n a Z){p:Int×Int}{L:List (Int×Int)}(j:d[b]?=b4 (.lst (L.map PP)))(k:n<=b)(l:Z.length<=10000)(Q:Hm->Prop)
  (H:∀c,GZ c=gR (GZ Z) p L->Pz (d.set a (.dT (aW c))) n a c->Q (d.set a (.dT (aW c)))):W (kZ (.loc a) (PP p) (.loc b) d) Q:=by
 obtain⟨c,e,i,h⟩:=I.put (p:=p) j k;refine(sZ I.dic (j8 p) (by rw[tH,W6];omega)).mpr ?_;rw[e];exact H c i h
theorem UG{Z:Zr}(a:(Z.map (·.1)).Nodup){z:(Int×Int)×List (Int×Int)×Nat}(h:z∈Z):cJ (GZ Z) z.1=z.2.1:=qM (by rw[lJ];exact a) (g:=(z.1,z.2.1)) (Wt.mpr ⟨z,h,rfl⟩)
theorem GY{b:Hm}{n a d:Nat}{Z:Zr}(I:Pz b n a Z){p:Int×Int}(hd:b[d]?=b4 (.lst [])):∃c,jC (.loc a) [PP p,.loc d] b=b4 (.loc c,b)/\b[c]?=b4 (.lst ((cJ (GZ Z) p).map PP)):=by
 by_cases e:p∈Z.map (·.1)
 ·obtain⟨z,h,rfl⟩:=Gy e;refine⟨z.2.2,?_,by rw[UG I.kd h];exact(I.at_ z h).2⟩;simp only[jC,I.dic,j8,WE,tG I.kd h,Option.getD_some]
 ·refine⟨d,?_,by rw[tI (by rw[lJ];exact e)];exact hd⟩;simp only[jC,I.dic,j8,WE,Bd e,a0R]
theorem Bt{G:Gr}{B:Nat}(h:∀x∈G,x.2.length<=B)(p:Int×Int):(cJ G p).length<=B:=by
 unfold cJ;split
 ·rename_i g a;exact h g (List.mem_of_find?_eq_some a)
 ·exact W7 _
theorem UH{G:Gr}{B:Nat}{o:Bool}{g:(Int×Int)×List (Int×Int)}(h:∀x∈G,x.2.length<=B)(d:g.2.length<=100):(dA o G g).length<=G.length+1/\∀x∈dA o G g,x.2.length<=B+100:=by
 have b:(if o then cJ G g.1++g.2 else g.2++cJ G g.1).length<=B+100:=by have:=Bt h g.1;split<;>rw[V5]<;>omega
 unfold dA gR;generalize(if o then cJ G g.1++g.2 else g.2++cJ G g.1)=L at b;split
 ·refine⟨by rw[V0];omega,λx a=>?_⟩;obtain⟨y,c,rfl⟩:=Wt.mp a;split
  ·exact b
  ·exact Xk (h y c) (by omega)
 ·refine⟨by rw[V5];exact Wa _,λx a=>?_⟩;rcases XF.mp a with a|a
  ·exact Xk (h x a) (by omega)
  ·rw[WS.mp a];exact b
theorem Bu(o:Bool):∀(K S:Gr)(B:Nat),(∀x∈S,x.2.length<=B)->(∀x∈K,x.2.length<=100)->(K.foldl (dA o) S).length<=S.length+K.length/\∀x∈K.foldl (dA o) S,x.2.length<=B+100*K.length
 |[],S,B,h,_=>⟨Wa _,h⟩|g::K,S,B,h,hk=>by obtain⟨d,b⟩:=UH (o:=o) h (hk g (WU ..));obtain⟨e,c⟩:=Bu o K (dA o S g) (B+100) b λx a=>hk x (Wq _ a);rw[a1A,Ww];exact⟨by omega,λx a=>by have:=c x a;omega⟩
theorem UI{Z:Zr}{i:Nat}{z:(Int×Int)×List (Int×Int)×Nat}(h:Z[i]?=b4 z):GZ (Z.take (i+1))=GZ (Z.take i)++[(z.1,z.2.1)]:=by unfold GZ;rw[kE h,Wf];rfl
theorem G0(mv:Int×Int->Bool)(Z:Zr):GZ (Z.filter λz=>!mv z.1)=fP mv (GZ Z):=by unfold GZ fP;rw[a1B];rfl
theorem UJ{Z:Zr}{mv:Int×Int->Bool}{M:Int×Int->Int×Int}(o:Bool)(h:Z.length<=100)(c:∀z∈Z,z.2.1.length<=100)(i:Nat):((dW mv M (GZ (Z.take i))).foldl (dA o) (fP mv (GZ Z))).length<=200/\∀x∈(dW mv M (GZ (Z.take i))).foldl (dA o) (fP mv (GZ Z)),x.2.length<=10100:=by
 have e:∀x∈GZ Z,x.2.length<=100:=λx a=>by obtain⟨z,b,rfl⟩:=Wt.mp a;exact c z b
 have l:(dW mv M (GZ (Z.take i))).length<=100:=by unfold dW;rw[V0];refine Xk (Xv _ _) ?_;rw[lK,Xz];omega
 obtain⟨k,d⟩:=Bu o (dW mv M (GZ (Z.take i))) (fP mv (GZ Z)) 100 (λx a=>e x (Xy.mp a).1) λx a=>by obtain⟨y,j,rfl⟩:=Wt.mp a;rw[XU];have:=(Xy.mp j).1;obtain⟨z,b,rfl⟩:=Wt.mp this;exact c z (a2W b)
 have m:(fP mv (GZ Z)).length<=100:=by refine Xk (Xv _ _) ?_;rw[lK];exact h
 exact⟨by omega,λx a=>by have:=d x a;omega⟩
theorem UK{mv:Int×Int->Bool}{M:Int×Int->Int×Int}{o:Bool}{S:Gr}{Z:Zr}{i:Nat}{z:(Int×Int)×List (Int×Int)×Nat}(h:Z[i]?=b4 z) :
  (dW mv M (GZ (Z.take (i+1)))).foldl (dA o) S=if mv z.1 then dA o ((dW mv M (GZ (Z.take i))).foldl (dA o) S) (M z.1,z.2.1.reverse)else(dW mv M (GZ (Z.take i))).foldl (dA o) S:=by
 rw[UI h,Us];dsimp only;split
 ·rw[a3K];rfl
 ·rfl
theorem UL(k:Nat){j:Hm}{p:Nat}{Z:Zr}(I:HI j p Z)(g:j[p]?=b4 (.dT (aW Z)))(hl:Z.length<=100)(hb:∀z∈Z,z.2.1.length<=100){e:Int×Int}{u n:Int}{a o:Bool}(E:OnL e u n)(hq:∀z∈Z,cU u z.1≠n)(Q:D×Hm->Prop)
  (H:∀S b,j<+:b->Pz b j.length j.length S->GZ S=lL (a7 u n a) (aV (bI u n)) o (GZ Z)->Q (.loc j.length,b)):W (f (k+3) "folded_piles" [.loc p,PP e,.int (sd a),.bl o] j) Q:=by
 have m:p<j.length:=(VY.mp g).1;rw[S9,W_fin];simp only[bA,bH,qI,V3,V4];refine UE k I g (by omega) E hq _ λx y=>?_;simp only[bA];generalize hS:(Z.filter λz=>!a7 u n a z.1)=S0;have g1:(j++(C.dT (aW (cK (j.length+1) S0))::S0.map λz=>C.lst (z.2.1.map PP)))[p]?=b4 (.dT (aW Z)):=by rw[Wz m];exact g
 have Y:(S0.map (·.1)).Nodup:=by rw[<- hS];exact(ZH.map _).nodup I.kd
 refine tJ rfl g1 (wL (a:=p) rfl (by rw[jI m];exact mX j m _)) (λi v b=>∃S x y gl B G,v=[b4 (.loc p),b4 (PP e),b4 (.int (sd a)),b4 (.bl o),b4 (.loc j.length),x,y,gl,B,G] /\
   j.set p (.dF (aW Z))<+:b/\Pz b j.length j.length S/\GZ S=(dW (a7 u n a) (aV (bI u n)) (GZ (Z.take i))).foldl (dA o) (fP (a7 u n a) (GZ Z)))
  ⟨cK (j.length+1) S0,x,y,c4,c4,c4,rfl,by rw[jI m];exact XZ _ _,?_,?_⟩ (λi d v b hd O=>?_) λv b O=>?_
 ·rw[jI m];refine⟨Bo _ _ _ _ _,by rw[wQ (mZ _ _)];exact Y,λz A=>?_⟩;have:=wR S0 (j.length+1) (j.set p (.dF (aW Z))++[.dT (aW (cK (j.length+1) S0))]) [] (by rw[V5,WG];rfl) z A;refine⟨by omega,?_⟩;rw[W4,XX]at this;exact this.2
 ·rw[mZ,<- hS,G0];rfl
 ·obtain⟨S,x,y,gl,B,G,rfl,l,J,w⟩:=O;rw[qO,WD]at hd;obtain⟨z,A,rfl⟩:=VZ.mp hd;refine⟨_,rfl,?_⟩;have s:=Xq A;simp only[iX,V3,V4,b6,cB,aU,bC,aP,aM,aF,aJ,wO k E,w_eqI,Bp (hq z s)];rw[UK A];cases hc:a7 u n a z.1 with
  |false=>simp only[V6,if_false,cH];exact⟨trivial,S,_,_,_,_,_,rfl,l,J,w⟩|true=>
   have X:b[z.2.2]?=b4 (.lst (z.2.1.map PP)):=aL l (by rw[V9 (WL (I.ne (.inl g) s))];exact I.at_ z s);have T:j.length<=b.length:=by have:=l.length_le;rwa [WG]at this
   simp only[if_true,bA,bH,bC,aP,aM,aF,aJ,V3,V4,UA k E];refine(SI X).mpr ?_;simp only[V3,V4];refine Be ?_;simp only[aF,aJ,aP,aM,dZ];have J1:Pz (b++[C.lst (z.2.1.map PP).reverse]) j.length j.length S:=J.keep λc y h=>aL (XZ _ _) h;refine⟨Bf J1.dic,W7 _,?_⟩;have K:Pz (b++[C.lst (z.2.1.map PP).reverse]++[C.lst []]) j.length j.length S:=J1.keep λc y h=>aL (XZ _ _) h;obtain⟨c,ec,M⟩:=GY (d:=(b++[C.lst (z.2.1.map PP).reverse]).length) K (p:=aV (bI u n) z.1) (by simp);have N:(b++[C.lst (z.2.1.map PP).reverse]++[C.lst []])[b.length]?=b4 (.lst (z.2.1.reverse.map PP)):=by rw[XX,W2 (Wa _),Zq,a3X];rfl
   rw[ec,W_some];have p2:b<+:b++[C.lst (z.2.1.map PP).reverse]++[C.lst []]:=by rw[XX];exact XZ _ _
   generalize b++[C.lst (z.2.1.map PP).reverse]++[C.lst []]=μ2 at K ec M N p2;simp only[V3,V4,lI,sT,gP,aF,aJ,eX];obtain⟨sm1,sm2⟩:=UJ (mv:=a7 u n a) (M:=aV (bI u n)) o hl hb i;have hat:=Bt (G:=GZ S) (by rw[w];exact sm2) (aV (bI u n) z.1);have hzl:=hb z s;have R:S.length<=10000:=by rw[<- lK,w];omega
   have e2:∀{L:List (Int×Int)},L=(if o then cJ (GZ S) (aV (bI u n) z.1)++z.2.1.reverse else z.2.1.reverse++cJ (GZ S) (aV (bI u n) z.1))->∀xs:List D,xs=L.map PP->W (kZ (.loc j.length) (PP (aV (bI u n) z.1)) (.loc μ2.length) (μ2++[.lst xs])) λr=>∃S' x y gl B G,[b4 (.loc p),b4 (PP e),b4 (.int (sd a)),b4 (.bl o),b4 (.loc j.length),b4 (PP z.1),b4 (.loc z.2.2),b4 (PP (aV (bI u n) z.1)),b4 (D.loc b.length),b4 (.loc c)]=[b4 (.loc p),b4 (PP e),b4 (.int (sd a)),b4 (.bl o),b4 (.loc j.length),x,y,gl,B,G] /\
     j.set p (.dF (aW Z))<+:r/\Pz r j.length j.length S'/\GZ S'=dA o ((dW (a7 u n a) (aV (bI u n)) (GZ (Z.take i))).foldl (dA o) (fP (a7 u n a) (GZ Z))) (aV (bI u n) z.1,z.2.1.reverse):=by
    intro L hL xs U;subst U;have J3:Pz (μ2++[C.lst (L.map PP)]) j.length j.length S:=K.keep λc y h=>aL (XZ _ _) h;refine Br J3 (p:=aV (bI u n) z.1) (L:=L) (by simp) (Xk T p2.length_le) R _ λZ' e1 J4=>⟨Z',_,_,_,_,_,rfl,?_,J4,?_⟩
    ·exact mO ((l.trans p2).trans (XZ _ _)) (by rw[WG];exact Wa _) _
    ·rw[e1,hL,<- w];rfl
   cases o with
   |true=>simp only[if_true,aU,aF,aJ];refine(jG M N (by rw[V0,V0,XU,W6];omega)).mpr ?_;exact bQ (e2 rfl _ (by rw[if_pos rfl,Wf])) λr q=>⟨trivial,q⟩|false=>simp only[V6,if_false,aU,aF,aJ];refine(jG N M (by rw[V0,V0,XU,W6];omega)).mpr ?_;exact bQ (e2 rfl _ (by rw[if_neg (by decide),Wf])) λr q=>⟨trivial,q⟩
 ·obtain⟨S,x,y,gl,B,G,rfl,l,J,w⟩:=O;refine⟨aL l (Wh m),?_⟩;simp only[w_mRet,aF,aJ];refine H S _ (Bh g l) ⟨?_,J.kd,λz A=>?_⟩ ?_
  ·rw[V9 (by omega)];exact J.dic
  ·have:=J.at_ z A;rw[V9 (by omega)];exact this
  ·rw[w,qO,V0,Ys];rfl
theorem G1(k:Nat)(p:Int×Int)(u:Int)(c:0<=u/\u<4)(b:Hm)(Q:D×Hm->Prop)(H:∀a,b<+:a->Q (.int (cU u p),a)):W (f (k+1) "_law_value" [PP p,.int u] b) Q:=by rw[Th];exact TR (TQ rfl rfl ((fM (bF _ _) (Um c)).mpr (H _ (aO _ _))))
theorem G3(k:Nat)(A:Ly)(hA:Dih A)(p:Int×Int)(a:Hm)(Q:D×Hm->Prop):W (f (k+1) "_law_led" [LD A,PP p] a) Q↔Q (PP (aV A p),a):=by obtain⟨b,c,d,e⟩:=hA.sm;rw[Tf,W_fin];simp only[bA,Si,aF,Ud,V3,V4,w_mRet,gG,aP,aM,aU,aR,j4,gQ,aJ,mV b,mV c,mV d,mV e,jY,fN,true_and];rfl
theorem UM(A:Ly)(n:Int):fX A (bI 0 n)=⟨A.a,A.b,-A.c,-A.d,A.e,2*n-A.g⟩/\fX A (bI 1 n)=⟨-A.a,-A.b,A.c,A.d,2*n-A.e,A.g⟩/\fX A (bI 2 n)=⟨A.c,A.d,A.a,A.b,A.g+n,A.e-n⟩/\fX A (bI 3 n)=⟨-A.c,-A.d,-A.a,-A.b,n-A.g,n-A.e⟩:=by refine⟨?_,?_,?_,?_⟩<;>(unfold fX bI;simp only[if_true,if_false,Int.reduceEq,Ly.mk.injEq];omega)
theorem G4(k:Nat)(A:Ly)(u n:Int)(h:0<=u/\u<4)(a:Hm)(Q:D×Hm->Prop):W (f (k+1) "_law_over" [LD A,.tup [.int u,.int n]] a) Q↔Q (LD (fX A (bI u n)),a):=by
 obtain⟨b,c,d,e⟩:=UM A n;refine A8 ?_;rw[Tg];have:u=0\/u=1\/u=2\/u=3:=by omega
 rcases this with rfl|rfl|rfl|rfl
 ·rw[b];exact⟨_,rfl,rfl⟩
 ·rw[c];exact⟨_,rfl,rfl⟩
 ·rw[d];exact⟨_,rfl,rfl⟩
 ·rw[e];exact⟨_,rfl,rfl⟩
noncomputable def G5(n:Nat):List Nat:=a2F (Yk c4 c4 (b4 (-1)) n).1 (Yk c4 c4 (b4 (-1)) n).2.1 (Yk c4 c4 (b4 (-1)) n).2.2
theorem UN:∀n∈Xh 101,G5 n=(Xh n).reverse:=by decide +kernel
theorem G6{a:Type}(xs:List a)(h:xs.length<=100):eF xs c4 c4 (b4 (-1))=xs.reverse:=by have e:=UN xs.length (ZP.mpr (by omega));unfold G5 at e;unfold eF;rw[e,List.filterMap_reverse,GK]
theorem UO{b:Hm}{l:Nat}{a:ME}{d:aG}{L:List (Int×Int)}{Q:D×Hm->Prop}(c:L.length<=100)(e:a d b=b4 (.loc l,b))(g:b[l]?=b4 (.lst (L.map PP)))(H:Q (.loc b.length,b++[.lst (L.reverse.map PP)])) :
  W (nO a kJ kJ (oQ (bW (mC (.int 1)))) d b) Q:=by
 refine SF ?_;rw[e,W_some];refine⟨l,rfl,?_⟩;refine W_some.mpr (W_some.mpr (W_some.mpr ⟨show(b4 (-1):Option Int)≠b4 0 by decide,_,g,?_,?_⟩))
 ·show(eF (L.map PP) c4 c4 (b4 (-1))).length<=Wb;rw[G6 _ (by rw[V0];exact c),XU,V0,W6];omega
 ·show Q (.loc b.length,b++[.lst (eF (L.map PP) c4 c4 (b4 (-1)))]);rw[G6 _ (by rw[V0];exact c),<- a3X];exact H
theorem G7(q:Int×Int)(a:Hm):∀ps:List (Int×Int),kT a (PP q) (ps.map PP)=b4 (ps.contains q)
 |[]=>rfl|p::ps=>by
  show(cR 8 a (PP p) (PP q)).bind (λb=>(kT a (PP q) (ps.map PP)).map λc=>b||c)=_;rw[FU 6,G7 q a ps,a0L];have:(p==q)=(q==p):=by rw[ZD,beq_iff_eq,beq_iff_eq];exact eq_comm
  rw[this];rfl
theorem G8{neg:Bool}{b:Hm}{a:Nat}{ps:List (Int×Int)}{q:Int×Int}{Q:D×Hm->Prop}(h:b[a]?=b4 (.lst (ps.map PP))):W (cX neg (PP q) (.loc a) b) Q↔Q (.bl (if neg then !(ps.contains q)else ps.contains q),b):=by
 have:cX neg (PP q) (.loc a) b=b4 (.bl (if neg then !(ps.contains q)else ps.contains q),b):=by
  have c:b8 b (.loc a)=b4 (ps.map PP):=by simp only[b8,h]
  simp only[cX,lW,h,c,Wl,G7,WE]
 rw[this];exact W_some
theorem UP{V:Int×Int->D}{qs:List (Int×Int)}(q:Int×Int)(a:q∈qs)(nd:qs.Nodup)(d:D):fT (a9 V qs) (cI q) d=a9 (λx=>if x=q then d else V x) qs:=by
 unfold fT;rw[Bi nd a,if_pos (show(b4 (V q)).isSome=c7 from rfl)];unfold a9;rw[WI];refine XI λx _=>?_;show(if cI x=cI q then(cI x,d)else(cI x,V x))=(cI x,if x=q then d else V x);by_cases e:x=q
 ·rw[if_pos (by rw[e]),if_pos e]
 ·rw[if_neg (λh=>e (qL h)),if_neg e]
theorem G9{p:Nat}{l:D}{r:aG}{a:Hm}:(aC aE (aA 0) (mC (.int 1))) (b4 (.tup [l,.loc p])::r) a=b4 (.loc p,a):=rfl
theorem UQ(k:Nat){e:Hm}{p:Nat}{Z:Zr}(g:e[p]?=b4 (.dT (aW Z)))(G:Z.length<=100){u n:Int}(z:0<=u/\u<4){a:Bool}{l j m v w x y c:Option D}{o:D}{A:MS}(Q:Fl×aG×Hm->Prop)
  (H:∀t b,e<+:b->b[t]?=b4 (.lst (((Z.map (·.1)).filter (a7 u n a)).map PP))->Q (.nx,[b4 (.tup [o,.loc p]),b4 (.tup [.int u,.int n]),b4 (.bl a),j,m,v,b4 (.loc t),w,x,y,c],b)) :
  W (eN 1001 (aK 6 (iI (iA (aC aE (aA 0) (mC (.int 1)))) (aN (aC (aY c6) (aC fS (aH (f (k+1) "_law_value") (aB (aA 11) (aB (aC aE (aA 1) (mC (.int 0))) aD))) (aC aE (aA 1) (mC (.int 1)))) (aA 2))) (aA 11))) A
   [b4 (.tup [o,.loc p]),b4 (.tup [.int u,.int n]),b4 (.bl a),j,m,v,c4,w,x,y,c] e) Q:=by
 have i:p<e.length:=(VY.mp g).1;have r:(e.set p (.dF (aW Z)))[p]?=b4 (.dF (aW Z)):=Wh i;refine Bm (a:=p) rfl g ?_;rw[bH];refine wF (xs:=(Z.map (·.1)).map PP) (p:=λd=>a7 u n a (mT d)) (v:=λd=>d) ?_;rw[Bn (a:=p) G9 r,wM,W_some];refine⟨FT,rfl,by rw[V0,V0,W6];omega,λd b hd h=>?_,λd b hd _ h=>?_,λb h s=>?_⟩
 ·obtain⟨q,_,rfl⟩:=Wt.mp hd;simp only[Xp,Yj,cB,aU,bC,aP,aM,aR,aF,aJ,j4,gQ];refine G1 k q u z _ _ λE B=>?_;simp only[qF];exact w_eqBl.mpr ⟨rfl,B⟩
 ·simp only[Xp,Yj,aF,aJ];exact⟨trivial,XQ _⟩
 ·refine⟨aL h r,?_⟩;dsimp only;rw[Gf,WG]at s;rw[WG];exact H _ _ (Bh g h) (by rw[V9 (by omega)];exact s)
theorem UR(k:Nat){b:Hm}{l t:Nat}{F:Int×Int->Ly}(O:∀q,Dih (F q)){qs ps:List (Int×Int)}(nd:qs.Nodup)(Z:qs.length<=100){u n:Int}(X:0<=u/\u<4){a:Bool}(g:b[l]?=b4 (.dT (a9 (λq=>LD (F q)) qs)))(v:b[t]?=b4 (.lst (ps.map PP)))
  (R:∀q∈qs,ps.contains (aV (F q) q)=a7 u n a (aV (F q) q)){w y z I J K r:Option D}(Q:Fl×aG×Hm->Prop)
  (H:∀x,Q (.nx,[w,b4 (.tup [.int u,.int n]),y,z,b4 (.loc l),I,b4 (.loc t),x,J,K,r],(b++[C.lst (qs.map PP)]).set l (.dT (a9 (λq=>LD (b7 u n a F q)) qs)))) :
  W (cW (gA (aH fU (aB (aA 4) aD))) (dQ 7) (aX (aN (aC (cX c6) (aH (f (k+1) "_law_led") (aB (aC aE (aA 4) (aA 7)) (aB (aA 7) aD))) (aA 6))) (dR (aA 4) (aA 7) (aH (f (k+1) "_law_over") (aB (aC aE (aA 4) (aA 7)) (aB (aA 1) aD)))) a8)
   [w,b4 (.tup [.int u,.int n]),y,z,b4 (.loc l),I,b4 (.loc t),c4,J,K,r] b) Q:=by
 have T:l<b.length:=(VY.mp g).1;have G:t≠l:=λe=>by rw[e,g]at v;cases v
 have U:t<b.length:=(VY.mp v).1;simp only[j5,sV,bC,aP,aM,aF,aJ];refine(F0 g).mpr ?_;have N:(a9 (λq=>LD (F q)) qs).map (λk=>D.tup (k.1.map D.int))=qs.map PP:=by unfold a9;rw[WI];rfl
 rw[N];refine(sX (bF _ _)).mpr ?_;have L:l<(b++[C.lst (qs.map PP)]).length:=by rw[V5];omega
 have g2:(b++[C.lst (qs.map PP)])[l]?=b4 (.dT (a9 (λq=>LD (F q)) qs)):=aL (aO _ _) g;refine A2 (λi o m=>∃x,o=[w,b4 (.tup [.int u,.int n]),y,z,b4 (.loc l),I,b4 (.loc t),x,J,K,r]/\m=(b++[C.lst (qs.map PP)]).set l (.dT (a9 (λq=>LD (if q∈qs.take i then b7 u n a F q else F q)) qs)))
  ⟨c4,rfl,?_⟩ ?_ (λi d o m hd B=>?_) λo m B=>?_
 ·rw[show(λq=>LD (if q∈qs.take 0 then b7 u n a F q else F q))=λq=>LD (F q)from funext λq=>by rw[if_neg (by simp)]];exact(tF g2).symm
 ·rintro i o m ⟨x,_,rfl⟩;rw[V9 (by omega)];exact bF _ _
 ·obtain⟨x,rfl,rfl⟩:=B;obtain⟨q,E,rfl⟩:=Gw hd;refine⟨_,rfl,?_⟩;have p:q∈qs:=Xq E;have Y:q∉qs.take i:=wK nd E;have gl:((b++[C.lst (qs.map PP)]).set l (.dT (a9 (λq=>LD (if q∈qs.take i then b7 u n a F q else F q)) qs)))[l]?=b4 (.dT (a9 (λq=>LD (if q∈qs.take i then b7 u n a F q else F q)) qs)):=oB g2;have A:((b++[C.lst (qs.map PP)]).set l (.dT (a9 (λq=>LD (if q∈qs.take i then b7 u n a F q else F q)) qs)))[t]?=b4 (.lst (ps.map PP)):=by rw[V9 (WL G)];exact aL (aO _ _) v
  have M:∀Q,Q (LD (F q),(b++[C.lst (qs.map PP)]).set l (.dT (a9 (λq=>LD (if q∈qs.take i then b7 u n a F q else F q)) qs)))->W (aE (.loc l) (PP q) ((b++[C.lst (qs.map PP)]).set l (.dT (a9 (λq=>LD (if q∈qs.take i then b7 u n a F q else F q)) qs)))) Q:=λQ h=>by refine(SG gl (j8 q) (Bi nd p)).mpr ?_;rw[if_neg Y];exact h
  simp only[V3,V4,b6,cB,aU,bC,aP,aM,aF,aJ];refine M _ ((G3 k (F q) (O q) q _ _).mpr ((G8 A).mpr ?_));rw[if_neg Wu,R q p];have s:∀x∈qs,x∈qs.take (i+1)↔x∈qs.take i\/x=q:=λx _=>by rw[kE E,XF,WS]
  cases hc:a7 u n a (aV (F q) q)with
  |true=>
   simp only[if_true,lI,bC,aP,aM,aU,aF,aJ];refine M _ ((G4 k (F q) u n X _ _).mpr ((sZ gl (j8 q) (by rw[V0,W6];omega)).mpr ⟨_,rfl,?_⟩));rw[UP q p nd,a0S];congr 2;refine XI λx j=>?_;dsimp only;by_cases e:x=q
   ·rw[if_pos e,if_pos ((s x j).mpr (.inr e)),e];unfold b7;rw[if_pos hc]
   ·rw[if_neg e];by_cases c:x∈qs.take i
    ·rw[if_pos c,if_pos ((s x j).mpr (.inl c))]
    ·rw[if_neg c,if_neg λh=>((s x j).mp h).elim c e]
  |false=>
   simp only[V6,if_false,cH];refine⟨_,rfl,?_⟩;congr 2;refine XI λx j=>?_;dsimp only;by_cases c:x∈qs.take i
   ·rw[if_pos c,if_pos ((s x j).mpr (.inl c))]
   ·by_cases e:x=q
    ·rw[if_neg c,if_pos ((s x j).mpr (.inr e)),e];unfold b7;rw[if_neg (by rw[hc];exact Wu)]
    ·rw[if_neg c,if_neg λh=>((s x j).mp h).elim c e]
 ·obtain⟨x,rfl,rfl⟩:=B;have e:a9 (λq=>LD (if q∈qs.take (qs.map PP).length then b7 u n a F q else F q)) qs=a9 (λq=>LD (b7 u n a F q)) qs:=by refine XI λx j=>?_;dsimp only;rw[V0,Ys,if_pos j]
  rw[e];exact H x
theorem Hb{Z:Zr}{mv:Int×Int->Bool}{q:Int×Int}(h:q∈Z.map (·.1)):((Z.map (·.1)).filter mv).contains q=mv q:=by rw[ZD,Xw,Xy];exact⟨λx=>x.2,λx=>⟨h,x⟩⟩
theorem US{a:Hm}{p t:Nat}{Z:Zr}(I:HI a p Z)(g:a[p]?=b4 (.dT (aW Z)))(R:Z.length<=100){mv:Int×Int->Bool}(v:a[t]?=b4 (.lst (((Z.map (·.1)).filter mv).map PP))){r:D}{m n o q E G j:Option D}{O:MS}(Q:Fl×aG×Hm->Prop)
  (H:∀x,Q (.nx,[b4 (.tup [r,.loc p]),m,n,o,q,x,b4 (.loc t),E,b4 (.loc a.length),G,j],a++(C.dT (aW (cK (a.length+1) (Z.filter λz=>!mv z.1)))::(Z.filter λz=>!mv z.1).map λz=>C.lst (z.2.1.map PP)))) :
  W (eN 1001 (cW (iA (aC aE (aA 0) (mC (.int 1)))) (dQ 5) (aX (aN (aC (cX c7) (aA 5) (aA 6))) (dR (aA 8) (aA 5) (aH fU (aB (aC aE (aC aE (aA 0) (mC (.int 1))) (aA 5)) aD))) a8)) O
   [b4 (.tup [r,.loc p]),m,n,o,q,c4,b4 (.loc t),E,b4 (.loc a.length),G,j] (a++[C.dT []])) Q:=by
 have b:p<a.length:=(VY.mp g).1;have A:t≠p:=λe=>by rw[e,g]at v;cases v
 have J:(a++[C.dT []])[p]?=b4 (.dT (aW Z)):=by rw[Wz b];exact g
 have s:∀L,(a.set p (.dF (aW Z))++L)[p]?=b4 (.dF (aW Z)):=λL=>mX a b _;refine tJ rfl J (Bn (a:=p) G9 (by rw[jI b];exact s _)) (λi l k=>∃x,l=[b4 (.tup [r,.loc p]),m,n,o,q,x,b4 (.loc t),E,b4 (.loc a.length),G,j] /\
   k=a.set p (.dF (aW Z))++(C.dT (aW (cK (a.length+1) ((Z.take i).filter λz=>!mv z.1)))::((Z.take i).filter λz=>!mv z.1).map λz=>C.lst (z.2.1.map PP)))
  ⟨c4,rfl,jI b _⟩ (λi d l k hd w=>?_) λl k w=>?_
 ·obtain⟨x,rfl,rfl⟩:=w;rw[wM,WI,WD]at hd;obtain⟨z,B,rfl⟩:=VZ.mp hd;refine⟨_,rfl,?_⟩;have c:=Xq B;have N:z.1∈Z.map (·.1):=Wt.mpr ⟨z,c,rfl⟩;have u:=wU (p:=p) (c:=.dF (aW Z)) (d:=C.dT (aW (cK (a.length+1) ((Z.take i).filter λz=>!mv z.1)))) (L:=((Z.take i).filter λz=>!mv z.1).map λz=>C.lst (z.2.1.map PP)) v A;simp only[a2t,V3,V4,b6,cB,aU,aF,aJ];refine(G8 u).mpr ?_;rw[if_pos rfl,Hb N];have e:(Z.take (i+1)).filter (λz=>!mv z.1)=(Z.take i).filter (λz=>!mv z.1)++[z].filter (λz=>!mv z.1):=by rw[kE B,Ye]
  cases hc:mv z.1 with
  |true=>simp only[W9,V6,if_false,cH];refine⟨trivial,_,rfl,?_⟩;rw[e,Xl (by rw[hc];decide),Y8,W4]|false=>
   simp only[X5,if_true,lI,bC,aP,aM,aU,aR,gQ,aF,aJ];refine(Uo (.inr (s _)) (j8 z.1) (tG I.kd c)).mpr ?_;refine(A5 (wU (I.at_ z c) (I.ne (.inl g) c))).mpr ?_;refine Bq (λh=>I.nd B ?_) (by have:=Xv (λz:(Int×Int)×List (Int×Int)×Nat=>!mv z.1) (Z.take i);rw[Xz]at this;omega) _ ⟨trivial,_,rfl,?_⟩
   ·obtain⟨y,K,M⟩:=Wt.mp h;exact Wt.mpr ⟨y,(Xy.mp K).1,M⟩
   ·rw[e,XA (by rw[hc];rfl),Y8,mY,mY,Wf,Wf];rfl
 ·obtain⟨x,rfl,rfl⟩:=w;refine⟨s _,?_⟩;rw[wN g,wM,V0,V0,Ys];exact H x
theorem UT(mv:Int×Int->Bool)(M:Int×Int->Int×Int)(Z:Zr):dW mv M (GZ Z)=(Z.filter λz=>mv z.1).map λz=>(M z.1,z.2.1.reverse):=by unfold dW GZ;rw[a1B,WI];rfl
theorem wV(mv:Int×Int->Bool)(Z:Zr):(Z.map (·.1)).filter mv=(Z.filter λz=>mv z.1).map (·.1):=by rw[a1B];rfl
theorem UU(k:Nat){μ0 μ:Hm}{p t b:Nat}{Z S0:Zr}(E:μ0<+:μ)(I:HI μ0 p Z)(g:μ0[p]?=b4 (.dT (aW Z)))(hl:Z.length<=100)(M:∀z∈Z,z.2.1.length<=100){u n:Int}(hu:0<=u/\u<4){a o:Bool}(gt:μ0[t]?=b4 (.lst (((Z.map (·.1)).filter (a7 u n a)).map PP)))
  (J0:Pz μ μ0.length b S0)(R:μ0.length<=b)(e0:GZ S0=fP (a7 u n a) (GZ Z)){s:D}{q x5 G:Option D}(Q:Fl×aG×Hm->Prop)
  (H:∀x y z S e,μ0<+:e->Pz e μ0.length b S->GZ S=lL (a7 u n a) (aV (bI u n)) o (GZ Z)->Q (.nx,[b4 (.tup [s,.loc p]),b4 (.tup [.int u,.int n]),b4 (.bl a),b4 (.bl o),q,x,b4 (.loc t),G,b4 (.loc b),y,z],e)) :
  W (cW (gA (aA 6)) (dQ 5) (aI (aK 9 (aH (f (k+1) "_law_led") (aB (aH (f (k+1) "_law_over") (aB (bY (aB (mC (.int 1)) (aB (mC (.int 0)) (aB (mC (.int 0)) (aB (mC (.int 1)) (aB (mC (.int 0)) (aB (mC (.int 0)) aD))))))) (aB (aA 1) aD))) (aB (aA 5) aD)))) (aI (aK 10 (nO (aC aE (aC aE (aA 0) (mC (.int 1))) (aA 5)) kJ kJ (oQ (bW (mC (.int 1)))))) (aX (cA (aA 3)) (dR (aA 8) (aA 9) (aC bM (iK jC (aA 8) (aB (aA 9) (aB (bO aD) aD))) (aA 10))) (dR (aA 8) (aA 9) (aC bM (aA 10) (iK jC (aA 8) (aB (aA 9) (aB (bO aD) aD))))))))
   [b4 (.tup [s,.loc p]),b4 (.tup [.int u,.int n]),b4 (.bl a),b4 (.bl o),q,x5,b4 (.loc t),G,b4 (.loc b),c4,c4] μ) Q:=by
 simp only[j5,sV,aF,aJ];refine(sX (aL E gt)).mpr ?_;refine A2 (λi l e=>∃x y z S,l=[b4 (.tup [s,.loc p]),b4 (.tup [.int u,.int n]),b4 (.bl a),b4 (.bl o),q,x,b4 (.loc t),G,b4 (.loc b),y,z]/\μ0<+:e/\Pz e μ0.length b S /\
   GZ S=(((Z.filter λz=>a7 u n a z.1).take i).map λz=>(aV (bI u n) z.1,z.2.1.reverse)).foldl (dA o) (fP (a7 u n a) (GZ Z)))
  ⟨x5,c4,c4,S0,rfl,E,J0,e0⟩ (λi l e ⟨_,_,_,_,_,h,_⟩=>aL h gt) (λi d l e hd N=>?_) λl e N=>?_
 ·obtain⟨x,y,w,S,rfl,m,J,v⟩:=N;rw[wV,WI,WD]at hd;obtain⟨z,hz,rfl⟩:=VZ.mp hd;refine⟨_,rfl,?_⟩;have X:=Xy.mp (Xq hz);have j:=X.1;have hge:μ0.length<=e.length:=m.length_le;have stl:D.tup [.int 1,.int 0,.int 0,.int 1,.int 0,.int 0]=LD eB:=rfl;simp only[a2t,V3,V4,bA,bH,bC,gG,aP,aM,aR,aF,aJ,stl];refine⟨Gk,(G4 k eB u n hu _ _).mpr ?_⟩;rw[TZ];refine(G3 k (bI u n) (Bg u n) z.1 _ _).mpr ?_;simp only[V3,V4];have ei:aE (.loc p) (PP z.1) e=b4 (.loc z.2.2,e):=by have h1:e[p]?=b4 (.dT (aW Z)):=aL m g;simp only[aE,h1,j8,Wl,tG I.kd j,WE]
  refine UO (M z j) ei (aL m (I.at_ z j)) ?_;simp only[V3,V4,b6,gP,aF,aJ,eX];have q1:μ0<+:e++[C.lst (z.2.1.reverse.map PP)]:=m.trans (aO _ _);have K:Pz (e++[C.lst (z.2.1.reverse.map PP)]) μ0.length b S:=J.keep λc y h=>aL (aO _ _) h;have A:(e++[C.lst (z.2.1.reverse.map PP)])[e.length]?=b4 (.lst (z.2.1.reverse.map PP)):=bF _ _;generalize hν:e++[C.lst (z.2.1.reverse.map PP)]=ν at q1 K A;have q2:μ0<+:ν++[C.lst []]:=q1.trans (aO _ _);have J2:Pz (ν++[C.lst []]) μ0.length b S:=K.keep λc y h=>aL (aO _ _) h;have gr:(ν++[C.lst []])[e.length]?=b4 (.lst (z.2.1.reverse.map PP)):=aL (aO _ _) A;obtain⟨c,ec,gc⟩:=GY (d:=ν.length) J2 (p:=aV (bI u n) z.1) (bF _ _);have hK:(((Z.filter λz=>a7 u n a z.1).take i).map λz=>(aV (bI u n) z.1,z.2.1.reverse)).length<=100:=by rw[V0,Xz];have:=Xv (λz:(Int×Int)×List (Int×Int)×Nat=>a7 u n a z.1) Z;omega
  obtain⟨sm1,Y⟩:=Bu o (((Z.filter λz=>a7 u n a z.1).take i).map λz=>(aV (bI u n) z.1,z.2.1.reverse)) (fP (a7 u n a) (GZ Z)) 100 (λx B=>by
    obtain⟨y,U,rfl⟩:=Wt.mp (Xy.mp B).1;exact M y U) λx B=>by
    obtain⟨y,U,rfl⟩:=Wt.mp B;rw[XU];exact M y (Xy.mp (a2W U)).1
  have hS0:(fP (a7 u n a) (GZ Z)).length<=100:=by refine Xk (Xv _ _) ?_;rw[lK];exact hl
  have hat:=Bt (G:=GZ S) (B:=10100) (by rw[v];exact λx B=>by have:=Y x B;omega) (aV (bI u n) z.1);have hzl:=M z j;have O:S.length<=10000:=by rw[<- lK,v];omega
  have e2:∀{L:List (Int×Int)},L=(if o then cJ (GZ S) (aV (bI u n) z.1)++z.2.1.reverse else z.2.1.reverse++cJ (GZ S) (aV (bI u n) z.1))->∀xs:List D,xs=L.map PP->W (kZ (.loc b) (PP (aV (bI u n) z.1)) (.loc (ν++[C.lst []]).length) (ν++[C.lst []]++[.lst xs])) λr=>∃x y w S,[b4 (.tup [s,.loc p]),b4 (.tup [.int u,.int n]),b4 (.bl a),b4 (.bl o),q,b4 (PP z.1),b4 (.loc t),G,b4 (.loc b),b4 (PP (aV (bI u n) z.1)),b4 (.loc e.length)]=[b4 (.tup [s,.loc p]),b4 (.tup [.int u,.int n]),b4 (.bl a),b4 (.bl o),q,x,b4 (.loc t),G,b4 (.loc b),y,w]/\μ0<+:r/\Pz r μ0.length b S /\
     GZ S=(((Z.filter λz=>a7 u n a z.1).take (i+1)).map λz=>(aV (bI u n) z.1,z.2.1.reverse)).foldl (dA o) (fP (a7 u n a) (GZ Z)):=by
   intro L hL xs T;subst T;have J3:Pz (ν++[C.lst []]++[C.lst (L.map PP)]) μ0.length b S:=J2.keep λc y h=>aL (aO _ _) h;refine Br J3 (p:=aV (bI u n) z.1) (L:=L) (bF _ _) q2.length_le O _ λZ' e1 J4=>⟨_,_,_,Z',rfl,?_,J4,?_⟩
   ·exact mO (q2.trans (aO _ _)) R _
   ·rw[e1,hL,kE hz,Wf,a3K,<- v];rfl
  cases o with
  |true=>simp only[if_true,lI,aU];refine Be ?_;simp only[aF,aJ,aP,aM,dZ];refine⟨Bf K.dic,W7 _,?_⟩;rw[ec,W_some];simp only[aF,aJ];refine(jG gc gr (by rw[V0,V0,XU,W6];omega)).mpr ?_;exact e2 rfl _ (by rw[if_pos rfl,Wf])|false=>simp only[V6,if_false,lI,aU,aF,aJ];refine Be ?_;simp only[aF,aJ,aP,aM,dZ];refine⟨Bf K.dic,W7 _,?_⟩;rw[ec,W_some];refine(jG gr gc (by rw[V0,V0,XU,W6];omega)).mpr ?_;exact e2 rfl _ (by rw[if_neg (by decide),Wf])
 ·obtain⟨x,y,w,S,rfl,m,J,v⟩:=N;refine H x y w S _ m J ?_;rw[v,V0,wV,V0,Ys,lL,UT]
noncomputable def lO(Z:Zr)(mv:Int×Int->Bool):Bool:=((Z.map (·.1)).filter mv).isEmpty||(((Z.map (·.1)).filter mv).length==Z.length)
theorem UW(k:Nat){b:Hm}{l p:Nat}{F:Int×Int->Ly}(hF:∀q,Dih (F q)){qs:List (Int×Int)}(nd:qs.Nodup)(hl:qs.length<=100)(G:qs≠[])(hh:(qs.map λq=>Tb.hashT (cI q)).Nodup){Z:Zr}(I:HI b p Z)(g:b[p]?=b4 (.dT (aW Z)))(gl:b[l]?=b4 (.dT (a9 (λq=>LD (F q)) qs)))
  (B:Z.length<=100)(hb:∀z∈Z,z.2.1.length<=100)(hk:∀q∈qs,aV (F q) q∈Z.map (·.1)){u n:Int}(J:0<=u/\u<4){a o:Bool}(Q:D×Hm->Prop)
  (O:lO Z (a7 u n a)=c7->∀d,b<+:d->Q (.non,d))
  (H1:lO Z (a7 u n a)=c6->∀S K Y d,b<+:d->b.length<=K->d[K]?=b4 (.dT (a9 (λq=>LD (b7 u n a F q)) qs))->Pz d b.length Y S->GZ S=lL (a7 u n a) (aV (bI u n)) o (GZ Z)->Q (.tup [.loc K,.loc Y],d)) :
  W (f (k+2) "_law_folded" [.tup [.loc l,.loc p],.tup [.int u,.int n],.bl a,.bl o] b) Q:=by
 have hlt:l<b.length:=(VY.mp gl).1;have hpt:p<b.length:=(VY.mp g).1;rw[Tj,W_fin];simp only[bA,bH,bC,aP,aM,aU,aR,j4,aF,aJ];refine(Gz gl ⟨?_,?_⟩).mpr ?_
 ·intro e;have:=congrArg WY e;rw[V0]at this;exact G (Z8.mp this)
 ·rw[WI];exact hh
 simp only[V3,V4];have L:b<+:b++[C.dT (a9 (λq=>LD (F q)) qs)]:=aO _ _;refine UQ k (aL L g) B J (l:=c4) _ λt c M U=>?_;have gc:c[b.length]?=b4 (.dT (a9 (λq=>LD (F q)) qs)):=aL M (bF _ _);have g2:=aL (L.trans M) g;have q2:=L.trans M;simp only[b6,mP,cB,aU,dZ,aM,bC,aP,aR,gQ,aF,aJ];refine⟨W7 _,(Uh (aL (aO _ _) U) (bF _ _)).mpr ?_⟩;have w:b<+:c++[C.lst []]:=q2.trans (aO _ _);have h:(c++[C.lst []])[t]?=b4 (.lst (((Z.map (·.1)).filter (a7 u n a)).map PP)):=aL (aO _ _) U;have i:(c++[C.lst []])[b.length]?=b4 (.dT (a9 (λq=>LD (F q)) qs)):=aL (aO _ _) gc;have em:(((Z.map (·.1)).filter (a7 u n a)).map PP).isEmpty=((Z.map (·.1)).filter (a7 u n a)).isEmpty:=by cases(Z.map (·.1)).filter (a7 u n a)<;>rfl
 have el:(((((Z.map (·.1)).filter (a7 u n a)).map PP).length:Int)==((aW Z).length:Int))=(((Z.map (·.1)).filter (a7 u n a)).length==Z.length):=by rw[V0,tH,ZD,beq_iff_eq,beq_iff_eq];omega
 dsimp only;rw[em];cases A:((Z.map (·.1)).filter (a7 u n a)).isEmpty with
 |true=>simp only[if_true,w_mRet,aR];exact O (by unfold lO;rw[A];rfl) _ w|false=>
  simp only[V6,if_false];refine(lH h).mpr ((SH (aL w g)).mpr (w_eqI.mpr ?_));dsimp only;rw[el];cases X:(((Z.map (·.1)).filter (a7 u n a)).length==Z.length)with
  |true=>simp only[if_true,w_mRet,aR];exact O (by unfold lO;rw[A,X];rfl) _ w|false=>
   simp only[V6,if_false,cH];refine UR k hF nd hl J i h (λq hq=>Hb (hk q hq)) _ λx=>?_;have E:b.length<(c++[C.lst []]++[C.lst (qs.map PP)]).length:=by have:=(VY.mp i).1;rw[V5];omega
   have r:b<+:(c++[C.lst []]++[C.lst (qs.map PP)]).set b.length (.dT (a9 (λq=>LD (b7 u n a F q)) qs)):=mO (w.trans (aO _ _)) (Wa _) _;have m:((c++[C.lst []]++[C.lst (qs.map PP)]).set b.length (.dT (a9 (λq=>LD (b7 u n a F q)) qs)))[b.length]?=b4 (.dT (a9 (λq=>LD (b7 u n a F q)) qs)):=Wh E;have H:t≠b.length:=λe=>by rw[e,i]at h;cases h
   have j:((c++[C.lst []]++[C.lst (qs.map PP)]).set b.length (.dT (a9 (λq=>LD (b7 u n a F q)) qs)))[t]?=b4 (.lst (((Z.map (·.1)).filter (a7 u n a)).map PP)):=by rw[V9 (WL H)];exact aL (aO _ _) h
   generalize(c++[C.lst []]++[C.lst (qs.map PP)]).set b.length (.dT (a9 (λq=>LD (b7 u n a F q)) qs))=μ4 at r m j;simp only[qI,V3,V4];have R:HI μ4 p Z:=I.more r;have T:=aL r g;refine US R T B j _ λx=>?_;simp only[];have pr:μ4<+:μ4++(C.dT (aW (cK (μ4.length+1) (Z.filter λz=>!a7 u n a z.1)))::(Z.filter λz=>!a7 u n a z.1).map λz=>C.lst (z.2.1.map PP)):=XZ _ _;refine UU k pr R T B hb J j (S0:=cK (μ4.length+1) (Z.filter λz=>!a7 u n a z.1)) ⟨?_,?_,λz v=>?_⟩ (Wa _) (by rw[mZ,G0]) _ λx y z S N p5 s e5=>?_
   ·rw[W2 (Wa _),Zq];rfl
   ·rw[wQ (mZ _ _)];exact(ZH.map _).nodup I.kd
   ·have:=wR (Z.filter λz=>!a7 u n a z.1) (μ4.length+1) (μ4++[.dT (aW (cK (μ4.length+1) (Z.filter λz=>!a7 u n a z.1)))]) [] (by rw[V5];rfl) z v;refine⟨by omega,?_⟩;rw[W4,XX]at this;exact this.2
   ·simp only[w_mRet,gG,aP,aM,aF,aJ];refine⟨fN,H1 (by unfold lO;rw[A,X];rfl) S _ _ N (r.trans p5) (Wa _) (aL p5 m) ⟨s.dic,s.kd,λz v=>⟨Xk r.length_le (s.at_ z v).1,(s.at_ z v).2⟩⟩ e5⟩
theorem Hc{me:ME}(w:∀ρ k Q,W (me ρ k) Q↔Q (LD eB,k)){μ0 k:Hm}{l a b:Nat}{qs:List (Int×Int)}(nd:qs.Nodup)(hl:qs.length<=100){K L:Option D}(I:μ0<+:k)(la:μ0.length<=a)(lb:μ0.length<=b)(ab:a≠b)(O:k[a]?=b4 (.dT []))(R:k[b]?=b4 (.dT []))(gl:k[l]?=b4 (.lst (qs.map PP)))(Q:Fl×aG×Hm->Prop)
  (H:∀x S j,μ0<+:j->j[a]?=b4 (.dT (a9 (λ_=>LD eB) qs))->Pz j μ0.length b S->GZ S=iQ qs->Q (.nx,[K,L,b4 (.loc a),b4 (.loc b),x],j)) :
  W (fJ (eM (.loc l)) (dQ 4) (aI (dR (aA 2) (aA 4) me) (dR (aA 3) (aA 4) (bO (aB (aA 4) aD)))) ((qs.map PP).length+1) 0 [K,L,b4 (.loc a),b4 (.loc b),c4] k) Q:=by
 have A:l≠a:=λe=>by rw[e,O]at gl;cases gl
 have B:l≠b:=λe=>by rw[e,R]at gl;cases gl
 refine A2 (λi n j=>∃x S,n=[K,L,b4 (.loc a),b4 (.loc b),x]/\μ0<+:j/\j[a]?=b4 (.dT (a9 (λ_=>LD eB) (qs.take i)))/\Pz j μ0.length b S/\GZ S=iQ (qs.take i)/\j[l]?=b4 (.lst (qs.map PP)))
  ⟨c4,[],rfl,I,O,⟨R,List.nodup_nil,λz u=>nomatch u⟩,rfl,gl⟩ (λ_ _ _ ⟨_,_,_,_,_,_,_,h⟩=>h) ?_ ?_
 ·rintro i d n j hd ⟨x,S,rfl,E,o,J,p,N⟩;obtain⟨q,v,rfl⟩:=Gw hd;refine⟨_,rfl,?_⟩;have Z:i<qs.length:=(VY.mp v).1;have T:q∉qs.take i:=wK nd v;have lS:S.length<=100:=by rw[<- lK,p];unfold iQ;rw[V0,Xz];omega
  simp only[V3,V4,bA,lI,w,aF,aJ];refine(sZ o (j8 q) (by rw[V0,Xz,W6];omega)).mpr ?_;rw[Up T,<- kE v];have m:∀(c:Nat)(y:C),c≠a->j[c]?=b4 y->(j.set a (C.dT (a9 (λ_=>LD eB) (qs.take (i+1)))))[c]?=b4 y:=λc y h e=>by rw[V9 (WL h)];exact e
  have M:Pz (j.set a (C.dT (a9 (λ_=>LD eB) (qs.take (i+1))))) μ0.length b S:=⟨m _ _ (WL ab) J.dic,J.kd,λz u=>⟨(J.at_ z u).1,m _ _ (λe=>by have:=(J.at_ z u).2;rw[e,o]at this;cases this) (J.at_ z u).2⟩⟩;have G:=mO E la (C.dT (a9 (λ_=>LD eB) (qs.take (i+1))));have r:(j.set a (C.dT (a9 (λ_=>LD eB) (qs.take (i+1)))))[a]?=b4 (C.dT (a9 (λ_=>LD eB) (qs.take (i+1)))):=oB o;have s:=m _ _ A N;generalize j.set a (C.dT (a9 (λ_=>LD eB) (qs.take (i+1))))=μ2 at M G r s;simp only[dZ,aP,aM,aF,aJ];refine⟨j6,?_⟩;refine Br (M.keep λc y h=>aL (aO μ2 (C.lst [PP q])) h) (p:=q) (L:=[q]) (bF _ _) G.length_le (by omega) _ λX Y U=>?_;refine⟨_,X,rfl,mO (G.trans (aO _ _)) lb _,by rw[V9 (WL ab)];exact aL (aO _ _) r,U,?_,by rw[V9 (WL B)];exact aL (aO _ _) s⟩;rw[Y,p,Ur (by rw[Bj];exact T),kE v];unfold iQ;rw[Wf];rfl
 ·rintro n j ⟨x,S,rfl,E,o,J,p,N⟩;rw[V0,Ys]at o p;exact H x S j E o J p
theorem wW{x g:Str}{m:ME}{c:aG}{b:Hm}{Q:D×Hm->Prop}(h:W (m c b) λp=>∃a fs d,p.1=.loc a/\p.2[a]?=b4 (.ins x fs)/\fs.lookup g=b4 d/\Q (d,p.2)):W (fG x g m c b) Q:=by unfold fG;rw[W_bind];refine bQ h λp ⟨a,fs,d,e,i,j,k⟩=>?_;rw[e];dsimp only;rw[i];dsimp only;rw[if_pos rfl,j];exact W_some.mpr k
theorem Bv{x g:Str}{c mv:ME}{b:aG}{d:Hm}{Q:Fl×aG×Hm->Prop}(h:W (mv b d) λp=>W (c b p.2) λq=>∃a fs,q.1=.loc a/\q.2[a]?=b4 (.ins x fs)/\fs.length<100/\Q (.nx,b,q.2.set a (.ins x (hW g p.1 fs)))):W (i8 x g c mv b d) Q:=by unfold i8;rw[W_bind];refine bQ h λp h=>?_;rw[W_bind];refine bQ h λq ⟨a,fs,e,i,j,k⟩=>?_;rw[e];dsimp only;rw[i];dsimp only;rw[if_pos ⟨rfl,j⟩];exact W_some.mpr k
theorem m3{x m:Str}{c:MF}{d:ME}{ms:MA}{b:aG}{e:Hm}{Q:D×Hm->Prop}(h:W (d b e) λp=>∃a fs,p.1=.loc a/\p.2[a]?=b4 (.ins x fs)/\fs.lookup m=c4/\W (ms b p.2) λq=>W (c (.loc a::q.1) q.2) Q):W (cG x m c d ms b e) Q:=by unfold cG;rw[W_bind];refine bQ h λp ⟨a,fs,i,j,k,l⟩=>?_;rw[i];dsimp only;rw[j];dsimp only;rw[if_pos ⟨rfl,k⟩,W_bind];exact l
theorem UX{x:Str}{a:MF}{ms:MA}{c:aG}{b:Hm}{Q:D×Hm->Prop}(h:W (ms c b) λq=>W (a (.loc q.2.length::q.1) (q.2++[.ins x []])) λr=>r.1=.non/\Q (.loc q.2.length,r.2)):W (hX x a ms c b) Q:=by unfold hX;rw[W_bind];refine bQ h λq h=>?_;rw[W_bind];refine bQ h λr ⟨d,e⟩=>?_;rw[d];exact W_some.mpr e
theorem tK{m:MT}{b c:MR}{a:aG}{d:Hm}(h:W (m a d) λp=>(if p.1=c7 then b a p.2 else c a p.2)=c4):hV m b c a d=none:=by obtain⟨p,e,i⟩:=h;unfold hV;rw[e];exact i
theorem wX{m:MS}{c d:MR}{b:aG}{a:Hm}(h:c b a=c4)(i:W (m b a) λp=>d p.2.1 p.2.2=c4):bX m c d b a=none:=by obtain⟨⟨f,k,j⟩,e,q⟩:=i;unfold bX;rw[h,e];cases f<;>first|rfl|exact q
theorem rSeq_no'{m:MS}{c d:MR}{b:aG}{a:Hm}(h:c b a=c4)(i:∀p,m b a=b4 p->p.1=.nx->d p.2.1 p.2.2=c4):bX m c d b a=none:=by
 unfold bX;rw[h];dsimp only;split
 ·rename_i k j e;exact i _ e rfl
 ·rfl
theorem Bw{o:Option (Xn×aG×Hm)}(h:o=c4):mM o=none:=by rw[h];rfl
theorem UY(k:Nat)(w h:Int)(hw:1<=w/\w<=3)(n:1<=h/\h<=3)(i:Hm)(Q:D×Hm->Prop)(H:∀a b,i<+:b->b[a]?=b4 (.lst (((qN w h).filter eP).map PP))->Q (.loc a,b)):W (f (k+2) "quarters_in" [.int w,.int h] i) Q:=by
 rw[S6,W_fin];simp only[w_mRet];refine wF (xs:=(qN w h).map PP) (p:=λd=>eP (mT d)) (v:=λd=>d) ?_;simp only[sV,bC,aP,aM,aF,aJ];refine Uw _ w h (by omega) (by omega) _ _ λa m l e o=>?_;refine(sX e).mpr ⟨Sv e,rfl,?_,λd b hd c=>?_,λd b hd _ c=>?_,λb c j=>?_⟩
 ·have:=Ux (w:=w) (h:=h) (by omega) (by omega);rw[V0,W6];omega
 ·obtain⟨u,v,rfl⟩:=TU hd;simp only[Xp,Yj,gP,bC,aP,aM,aF,aJ,Uy,eX];exact⟨rfl,XQ _⟩
 ·simp only[Xp,Yj,aF,aJ];exact⟨trivial,XQ _⟩
 ·refine H _ _ (l.trans c) ?_;rw[j,Gf eP]
theorem tL:∀w∈[(1:Int),2,3],∀h∈[(1:Int),2,3],(qN w h).filter eP=dO w h/\(dO w h).length<=36/\dO w h≠[]/\(dO w h).Nodup/\((dO w h).map λq=>Tb.hashT (cI q)).Nodup/\(dO w h).all eP=true:=by decide +kernel
theorem Hd{p:Int×Int}(h:eP p=c7){u n:Int}(a:n%4=0):cU u p≠n:=by
 unfold eP at h;unfold cU;split at h
 ·simp only[beq_iff_eq]at h;split<;>(try split)<;>(try split)<;>omega
 ·simp only[VW,beq_iff_eq]at h;split<;>(try split)<;>(try split)<;>omega
theorem UZ{p:Int×Int}(h:eP p=c7){u n:Int}(e:n%4=0):eP (aV (bI u n) p)=true:=by
 obtain⟨x,y⟩:=p;have q:∀a b:Int,(a%2=1/\b%4=2)\/(a%4=2/\b%2=1)->eP (a,b)=true:=λa b z=>by
  unfold eP;dsimp only;split
  ·rw[beq_iff_eq];omega
  ·rw[VW,beq_iff_eq,beq_iff_eq];omega
 have r:(x%2=1/\y%4=2)\/(x%4=2/\y%2=1):=by
  unfold eP at h;dsimp only at h;split at h
  ·rw[beq_iff_eq]at h;omega
  ·rw[VW,beq_iff_eq,beq_iff_eq]at h;omega
 obtain⟨m,rfl⟩:∃m,n=4*m:=⟨n/4,by omega⟩;clear e h;unfold bI;split
 ·show eP (1*x+0*y+0,0*x+(-1)*y+2*(4*m))=c7;rcases r with⟨c,d⟩|⟨c,d⟩
  ·exact q _ _ (.inl ⟨by omega,by omega⟩)
  ·exact q _ _ (.inr ⟨by omega,by omega⟩)
 ·split
  ·show eP ((-1)*x+0*y+2*(4*m),0*x+1*y+0)=c7;rcases r with⟨c,d⟩|⟨c,d⟩
   ·exact q _ _ (.inl ⟨by omega,by omega⟩)
   ·exact q _ _ (.inr ⟨by omega,by omega⟩)
  ·split
   ·show eP (0*x+1*y+4*m,1*x+0*y+-(4*m))=c7;rcases r with⟨c,d⟩|⟨c,d⟩
    ·exact q _ _ (.inr ⟨by omega,by omega⟩)
    ·exact q _ _ (.inl ⟨by omega,by omega⟩)
   ·show eP (0*x+(-1)*y+4*m,(-1)*x+0*y+4*m)=c7;rcases r with⟨c,d⟩|⟨c,d⟩
    ·exact q _ _ (.inr ⟨by omega,by omega⟩)
    ·exact q _ _ (.inl ⟨by omega,by omega⟩)
noncomputable def jJ(u n:Int)(Z:Zr):List Int:=(Z.map (·.1)).map λp=>iR (cU u p-n)
theorem He(a:Hm)(x:Int):∀ws:List Int,kT a (.int x) (ws.map D.int)=b4 (ws.any λw=>w==x)
 |[]=>rfl|w::ws=>by rw[We,a0F];show(cR 8 a (.int w) (.int x)).bind _=_;have e:cR 8 a (.int w) (.int x)=b4 (w==x):=rfl;rw[e,He a x ws];rfl
theorem U0{b:Hm}{a:Nat}{x:Int}{ws:List Int}{Q:D×Hm->Prop}(h:b[a]?=b4 (.lst (ws.map D.int))):W (cX c7 (.int x) (.loc a) b) Q↔Q (.bl (!(ws.any λw=>w==x)),b):=by
 have c:b8 b (.loc a)=b4 (ws.map D.int):=by simp only[b8,h]
 have:cX c7 (.int x) (.loc a) b=b4 (.bl (!(ws.any λw=>w==x)),b):=by simp only[cX,lW,h,c,Wl,He,WE,if_true]
 rw[this];exact W_some
theorem Bx(k:Nat){b:Hm}{p:Nat}{Z:Zr}(g:b[p]?=b4 (.dT (aW Z)))(o:Z.length<=100){e:Int×Int}{u n:Int}(E:OnL e u n){m:MS}(Q:Fl×aG×Hm->Prop)
  (H:∀t a,b<+:a->a[t]?=b4 (.lst ((jJ u n Z).map D.int))->Q (.nx,[b4 (.loc p),b4 (PP e),b4 (.loc t)],a)) :
  W (eN 0 (aK 2 (iI (iA (aA 0)) jQ (aH (f (k+2) "hand_of") (aB (aA 3) (aB (aA 1) aD))))) m [b4 (.loc p),b4 (PP e),c4] b) Q:=by
 have h:p<b.length:=(VY.mp g).1;have i:(b.set p (.dF (aW Z)))[p]?=b4 (.dF (aW Z)):=Wh h;refine Bm (a:=p) rfl g ?_;rw[bH];refine wF (xs:=(Z.map (·.1)).map PP) (p:=λ_=>c7) (v:=λd=>.int (iR (cU u (mT d)-n))) ?_;rw[Bn (a:=p) rfl i,wM,W_some];refine⟨FT,rfl,by rw[V0,V0,W6];omega,λd a hd c=>w_mTrue.mpr ⟨rfl,XQ _⟩,λd a hd _ c=>?_,λa c j=>?_⟩
 ·obtain⟨q,_,rfl⟩:=Wt.mp hd;simp only[Xp,Yj,bC,aP,aM,aF,aJ];exact(wO k E _ _).mpr ⟨rfl,XQ _⟩
 ·refine⟨aL c i,?_⟩;dsimp only;have l:(((Z.map (·.1)).map PP).filter λ_=>c7).map (λd=>D.int (iR (cU u (mT d)-n)))=(jJ u n Z).map D.int:=by rw[List.filter_eq_self.mpr (λ_ _=>rfl)];unfold jJ;simp only[WI];rfl
  rw[l,WG]at j;rw[WG];exact H _ _ (Bh g c) (by rw[V9 (by omega)];exact j)
noncomputable def oE(u n:Int)(Z:Zr):Bool:=!((jJ u n Z).any λw=>w==1)||!((jJ u n Z).any λw=>w==-1)
theorem wY{a:Hm}{t:Nat}{b c:Option D}{u n:Int}{Z:Zr}(g:a[t]?=b4 (.lst ((jJ u n Z).map D.int)))(Q:Bool×Hm->Prop) :
  W (fD (aN (aC (cX c7) (mC (.int 1)) (aA 2))) (aN (aC (cX c7) (bW (mC (.int 1))) (aA 2))) [b,c,b4 (.loc t)] a) Q↔Q (oE u n Z,a):=by
 simp only[mP,cB,aU,aR,mQ,aF,aJ,U0 g];unfold oE;cases !((jJ u n Z).any λw=>w==1)<;>simp
theorem U1(k:Nat){b:Hm}{p:Nat}{Z:Zr}(g:b[p]?=b4 (.dT (aW Z)))(d:Z.length<=100){e:Int×Int}{u n:Int}(E:OnL e u n)(hB:oE u n Z=c6)(Q:D×Hm->Prop)(H:∀a,b<+:a->Q (.non,a)):W (f (k+3) "check_fold" [.loc p,PP e] b) Q:=by rw[Ta,W_fin,bA];refine Bx k g d E _ λt i h c=>?_;simp only[b6];refine(wY c _).mpr ?_;rw[hB];simp only[V6,if_false,cH];exact H _ h
theorem U2(k:Nat){b:Hm}{p:Nat}{Z:Zr}(g:b[p]?=b4 (.dT (aW Z)))(d:Z.length<=100){e:Int×Int}{u n:Int}(E:OnL e u n)(hB:oE u n Z=c7)(Q:Xn×Hm->Prop)(H:∀a,b<+:a->Q (("NoFold",[]),a)):W (Lw.g (k+3) "check_fold" [.loc p,PP e] b) Q:=by rw[F3,tD];refine F2 rfl (Bx k g d E _ λt i h c=>⟨rfl,gH (w_rIf.mpr ((wY c _).mpr ?_))⟩);rw[hB];dsimp only;rw[if_pos rfl];exact gH (w_rRaise.mpr (by simp only[aP,aM,aR];exact H _ h))
theorem U3(k:Nat){b:Hm}{p:Nat}{Z:Zr}(g:b[p]?=b4 (.dT (aW Z)))(c:Z.length<=100){e:Int×Int}{u n:Int}(E:OnL e u n)(hB:oE u n Z=c6):Lw.g (k+3) "check_fold" [.loc p,PP e] b=none:=by
 rw[F3];refine Bw (wX rfl (Bx k g c E _ λt d h a=>wX (tK ((wY a _).mpr ?_)) ?_))
 ·rw[hB];rfl
 ·simp only[b6];refine(wY a _).mpr ?_;rw[hB];simp only[V6,if_false,cH];rfl
theorem By{a:Type}{p q:a->Bool}:∀{l:List a},(∀z∈l,p z=q z)->l.any p=l.any q
 |[],_=>rfl|x::l,h=>by rw[a0F,a0F,h x (WU ..),By λz b=>h z (Wq _ b)]
theorem Hf{u n:Int}{Z:Zr}(a:Bool)(h:∀z∈Z,cU u z.1≠n):oE u n Z=lO Z (a7 u n a):=by
 have one:((jJ u n Z).any λw=>w==1)=Z.any λz=>decide (n<cU u z.1):=by
  unfold jJ;rw[a0V,a0V];refine By λz b=>?_;show(iR (cU u z.1-n)==1)=_;unfold iR;by_cases c:n<cU u z.1
  ·rw[if_pos (by omega),decide_eq_true c];rfl
  ·rw[if_neg (by omega),decide_eq_false c];split<;>rfl
 have two:((jJ u n Z).any λw=>w==-1)=Z.any λz=>!decide (n<cU u z.1):=by
  unfold jJ;rw[a0V,a0V];refine By λz b=>?_;have:=h z b;show(iR (cU u z.1-n)==-1)=_;unfold iR;by_cases c:n<cU u z.1
  ·rw[if_pos (by omega),decide_eq_true c];rfl
  ·rw[if_neg (by omega),if_pos (by omega),decide_eq_false c];rfl
 have d:((Z.map (·.1)).filter (a7 u n a)).isEmpty=!(Z.any λz=>a7 u n a z.1):=by rw[wV];rw[ZD];simp[List.isEmpty_iff,YJ,a0W]
 have e:(((Z.map (·.1)).filter (a7 u n a)).length==Z.length)=!(Z.any λz=>!a7 u n a z.1):=by rw[wV,V0,ZD,beq_iff_eq,List.length_filter_eq_length_iff];simp[a0W]
 unfold oE lO;rw[one,two,d,e];unfold a7;cases a with
 |true=>simp only[beq_true]|false=>simp only[beq_false,Bool.not_not];rw[Bool.or_comm]
structure StZ(μ:Hm)(b:Nat)(d:D)(F:Int×Int->Ly)(qs:List (Int×Int))(G:Gr):Prop where
 ex:∃l p Z,d=.tup [.loc l,.loc p]/\μ[l]?=b4 (.dT (a9 (λq=>LD (F q)) qs))/\HI μ p Z/\μ[p]?=b4 (.dT (aW Z))/\GZ Z=G/\∀z∈Z,z.2.2≠b
theorem StZ.keep{j a:Hm}{b:Nat}{d:D}{F:Int×Int->Ly}{qs:List (Int×Int)}{G:Gr}{xs:List D}(S:StZ j b d F qs G)(k:j[b]?=b4 (.lst xs))(h:∀(c:Nat)(y:C),c≠b->j[c]?=b4 y->a[c]?=b4 y):StZ a b d F qs G:=by obtain⟨l,p,Z,e,i,I,g2,q,o⟩:=S.ex;have m:=h p _ (λe=>by rw[e,k]at g2;cases g2) g2;exact⟨l,p,Z,e,h l _ (λe=>by rw[e,k]at i;cases i) i,⟨.inl m,I.kd,λz n=>h _ _ (o z n) (I.at_ z n)⟩,m,q,o⟩
theorem StZ.more{c a:Hm}{b:Nat}{d:D}{F:Int×Int->Ly}{qs:List (Int×Int)}{G:Gr}(S:StZ c b d F qs G)(h:c<+:a):StZ a b d F qs G:=by obtain⟨l,p,Z,e,j,I,g2,i,k⟩:=S.ex;exact⟨l,p,Z,e,aL h j,I.more h,aL h g2,i,k⟩
structure Gd(qs:List (Int×Int))(F:Int×Int->Ly)(G:Gr):Prop where
 di:∀q,Dih (F q)
 pl:Pil qs (λq=>aV (F q) q) G
 qr:∀q∈qs,eP (aV (F q) q)=c7
theorem Gd.fold{qs:List (Int×Int)}{F:Int×Int->Ly}{G:Gr}(h:Gd qs F G){u n:Int}(c:n%4=0)(a o:Bool):Gd qs (b7 u n a F) (lL (a7 u n a) (aV (bI u n)) o G):=by
 refine⟨Uq h.di,?_,λq b=>?_⟩
 ·have:=Ul h.pl (mv:=a7 u n a) (Ui u n) o;rw[show(λq=>aV (b7 u n a F q) q)=λq=>if a7 u n a (aV (F q) q)then aV (bI u n) (aV (F q) q)else aV (F q) q from funext λq=>GO u n a F q];exact this
 ·rw[GO];split
  ·exact UZ (h.qr q b) c
  ·exact h.qr q b
theorem Gd.key{qs:List (Int×Int)}{F:Int×Int->Ly}{Z:Zr}(h:Gd qs F (GZ Z)):(∀q∈qs,aV (F q) q∈Z.map (·.1))/\(∀z∈Z,eP z.1=c7)/\Z.length<=qs.length/\∀z∈Z,z.2.1.length<=qs.length:=by
 refine⟨λq a=>?_,λz b=>?_,h.pl.lenZ.1,λz b=>(h.pl.lenZ.2 z b).2⟩
 ·rw[<- lJ];exact h.pl.key.mpr ⟨q,a,rfl⟩
 ·have:z.1∈(GZ Z).map (·.1):=by rw[lJ];exact Wt.mpr ⟨z,b,rfl⟩
  obtain⟨q,a,e⟩:=h.pl.key.mp this;rw[<- e];exact h.qr q a
noncomputable def m4(G:Gr)(mv:Int×Int->Bool):Bool:=((G.map (·.1)).filter mv).isEmpty||(((G.map (·.1)).filter mv).length==G.length)
theorem wZ(Z:Zr)(mv:Int×Int->Bool):lO Z mv=m4 (GZ Z) mv:=by unfold lO m4;rw[lJ,lK]
noncomputable abbrev eQ(w h:Int)(b:Nat):List (Str×D):=[("wide",.int w),("high",.int h),("states",.loc b)]
theorem tP{a:Type}(xs:List a)(d:a):atI (xs++[d]) (-1)=b4 d:=by unfold atI lT;rw[if_neg (by decide),if_pos (by rw[V5,WW];omega)];show(xs++[d])[_]?=_;rw[show((-1:Int)+((xs++[d]).length:Int)).toNat=xs.length by rw[V5,WW];omega];simp
theorem tQ{a:Hm}{o b:Nat}{w h:Int}{xs:List D}{d:D}{r:aG}(i1:a[o]?=b4 (.ins "Folding" (eQ w h b))) (i2:a[b]?=b4 (.lst (xs++[d])))(Q:D×Hm->Prop)(H:Q (d,a)):W ((aC aE (fG "Folding" "states" (aA 0)) (bW (mC (.int 1)))) (b4 (.loc o)::r) a) Q:=by rw[aU];refine wW ?_;simp only[aF];refine⟨o,_,_,rfl,i1,rfl,?_⟩;simp only[mQ,aR];exact(fM i2 (tP xs d)).mpr H
theorem Bz(k:Nat){a:Hm}{o b:Nat}{w h:Int}{xs:List D}{d:D}(i1:a[o]?=b4 (.ins "Folding" (eQ w h b))) (i2:a[b]?=b4 (.lst (xs++[d])))(Q:D×Hm->Prop)(H:Q (.int xs.length,a)):W (f (k+1) "Folding.many" [.loc o] a) Q:=by rw[TB,W_fin];simp only[w_mRet,aU,bC,aP,aM];refine wW ?_;simp only[aF];refine⟨o,_,_,rfl,i1,rfl,?_⟩;refine(lH i2).mpr ?_;simp only[aR,jZ];rw[show(((xs++[d]).length:Nat):Int)-1=xs.length by rw[V5,WW];omega];exact H
theorem U4(k:Nat){a:Hm}{o b l p:Nat}{w h:Int}{xs:List D}{F:Int×Int->Ly}{qs:List (Int×Int)}(c:qs≠[])(d:(qs.map λq=>Tb.hashT (cI q)).Nodup)(i1:a[o]?=b4 (.ins "Folding" (eQ w h b))) (i2:a[b]?=b4 (.lst (xs++[.tup [.loc l,.loc p]])))(g:a[l]?=b4 (.dT (a9 (λq=>LD (F q)) qs)))(Q:D×Hm->Prop)
  (H:Q (.loc a.length,a++[.dT (a9 (λq=>LD (F q)) qs)])):W (f (k+1) "Folding.layings" [.loc o] a) Q:=by
 rw[TC,W_fin];simp only[w_mRet,bC,aP,aM];rw[aU];refine tQ i1 i2 _ ?_;simp only[aR,j4];refine(Gz g ⟨?_,?_⟩).mpr H
 ·intro e;have:=congrArg WY e;rw[V0]at this;exact c (Z8.mp this)
 ·rw[WI];exact d
theorem U5(k:Nat){a:Hm}{o b l p:Nat}{w h:Int}{xs:List D}{Z:Zr}(i1:a[o]?=b4 (.ins "Folding" (eQ w h b))) (i2:a[b]?=b4 (.lst (xs++[.tup [.loc l,.loc p]])))(I:HI a p Z)(g:a[p]?=b4 (.dT (aW Z)))(c:Z.length<=1000)(Q:D×Hm->Prop)
  (H:Q (.loc a.length,a++(.dT (aW (cK (a.length+1) Z))::Z.map λz=>C.lst (z.2.1.map PP)))):W (f (k+2) "Folding.piles" [.loc o] a) Q:=by
 rw[TF,W_fin];simp only[w_mRet,bC,aP,aM];rw[aU];refine tQ i1 i2 _ ?_;simp only[aR,gQ];exact UD k I g c _ H
theorem Hg{qs:List (Int×Int)}{F:Int×Int->Ly}{Z:Zr}(G:Gd qs F (GZ Z)){u n:Int}(a:n%4=0):(∀q∈qs,cU u (aV (F q) q)≠n)/\∀z∈Z,cU u z.1≠n:=⟨λq b=>Hd (G.qr q b) a,λz hz=>Hd (G.key.2.1 z hz) a⟩
noncomputable abbrev BA:Xn:=("NoFold",[])
theorem U6(k:Nat){c:Hm}{o b:Nat}{w h:Int}{xs:List D}{d:D}{F:Int×Int->Ly}{qs:List (Int×Int)}{G:Gr}(N:qs.length<=36)(i1:c[o]?=b4 (.ins "Folding" (eQ w h b))) (i2:c[b]?=b4 (.lst (xs++[d])))(S:StZ c b d F qs G)(z:Gd qs F G)
  {e:Int×Int}{u n:Int}(E:OnL e u n)(B:n%4=0){a ov:Bool} :
  (m4 G (a7 u n a)=c7->∃i,g (k+4) "Folding.fold" [.loc o,PP e,.bl a,.bl ov] c=b4 (BA,i)/\c<+:i)/\(m4 G (a7 u n a)=c6->g (k+4) "Folding.fold" [.loc o,PP e,.bl a,.bl ov] c=c4):=by
 obtain⟨l,p,Z,rfl,M,I,g2,rfl,R⟩:=S.ex;obtain⟨T,J⟩:=Hg z (u:=u) B;obtain⟨_,_,O,L⟩:=z.key;rw[<- wZ,<- Hf a J,Tx];have j:∀Q:List D×Hm->Prop,Q ([.loc p,PP e],c)->W ((aB (aC aE (aA 4) (mC (.int 1))) (aB (aA 1) aD)) [b4 (.loc o),b4 (PP e),b4 (.bl a),b4 (.bl ov),b4 (.tup [.loc l,.loc p]),c4] c) Q:=λQ h=>by simp only[aP,aM,aU,aR,gQ,aF,aJ];exact h
 constructor
 ·intro v;have:W (mM ((bX (aK 4 (aC aE (fG "Folding" "states" (aA 0)) (bW (mC (.int 1))))) bD (bX (cP (aH (f (k+3) "check_fold") (aB (aC aE (aA 4) (mC (.int 1))) (aB (aA 1) aD)))) (lY (Lw.g (k+3) "check_fold") (aB (aC aE (aA 4) (mC (.int 1))) (aB (aA 1) aD))) (bX (aK 5 (gX (cA (aA 2)) (mC (.int 1)) (bW (mC (.int 1))))) bD (bX (cP (dJ fF (fG "Folding" "states" (aA 0)) (aB (bY (aB (aH (f (k+3) "folded_layings") (aB (aC aE (aA 4) (mC (.int 0))) (aB (aA 1) (aB (aA 5) aD)))) (aB (aH (f (k+3) "folded_piles") (aB (aC aE (aA 4) (mC (.int 1))) (aB (aA 1) (aB (aA 5) (aB (aA 3) aD))))) aD))) aD))) bD bD)))) [b4 (.loc o),b4 (PP e),b4 (.bl a),b4 (.bl ov),c4,c4] c)) λr=>r.1=BA/\c<+:r.2:=by rw[tD];refine F2 rfl ?_;rw[bH];refine tQ i1 i2 _ ⟨rfl,gH (w_rCall.mpr (j _ (U2 k g2 (by omega) E v _ λy H=>⟨rfl,H⟩)))⟩
  obtain⟨⟨x,i⟩,s,m,A⟩:=this;dsimp only at m A;subst m;exact⟨i,s,A⟩
 ·intro v;refine Bw (wX rfl ?_);rw[bH];refine tQ i1 i2 _ (rSeq_no' ?_ λq _ _=>rSeq_no' rfl λq _ _=>rSeq_no' rfl λq _ _=>rfl);obtain⟨⟨K,y⟩,s,m⟩:=j (λr=>r=([.loc p,PP e],c)) rfl;cases m;unfold lY;dsimp only[V3,V4];rw[s,Wl,U3 k g2 (by omega) E v];rfl
theorem U7(k:Nat){w h:Int}(hw:1<=w/\w<=3)(c:1<=h/\h<=3)(b:Hm)(Q:D×Hm->Prop)(H:∀l p S a,b<+:a->a[l]?=b4 (.dT (a9 (λ_=>LD eB) (dO w h)))->Pz a b.length p S->GZ S=iQ (dO w h)->Q (.tup [.loc l,.loc p],a)) :
  W (f (k+2) "_law_begun" [.int w,.int h] b) Q:=by
 obtain⟨_,m,n,j,_,_⟩:=tL w (j9 hw) h (j9 c);rw[Ti,W_fin];simp only[bA,bH,qI,V3,V4,j5,sV,bC,aP,aM,aF,aJ];refine Uc k w h hw c _ _ ((sX (bF _ _)).mpr ?_);refine Hc (me:=bY (aB (mC (.int 1)) (aB (mC (.int 0)) (aB (mC (.int 0)) (aB (mC (.int 1)) (aB (mC (.int 0)) (aB (mC (.int 0)) aD))))))) (λo b Q=>W_some) (μ0:=b) j (by omega) (((aO _ _).trans (aO _ _)).trans (aO _ _)) (Wa _) (by rw[V5];omega) (by rw[V5];exact WB (XT _)) ?_ ?_ (bF _ _) _ λx S a i e J d=>?_
 ·exact aL ((aO _ _).trans (aO _ _)) (bF _ _)
 ·exact aL (aO _ _) (bF _ _)
 ·simp only[w_mRet,gG,aP,aM,aF,aJ];exact⟨fN,H _ _ S a i e J d⟩
theorem U8(k:Nat){w h:Int}(hw:1<=w/\w<=3)(i:1<=h/\h<=3)(b:Hm)(Q:D×Hm->Prop)(H:∀l p S a,b<+:a->a[l]?=b4 (.dT (a9 (λ_=>LD eB) (dO w h)))->Pz a b.length p S->GZ S=iQ (dO w h)->Q (.tup [.loc l,.loc p],a)) :
  W (f (k+3) "unfolded" [.int w,.int h] b) Q:=by
 obtain⟨q,u,v,r,_,_⟩:=tL w (j9 hw) h (j9 i);rw[Tc,W_fin];simp only[bA,bH,qI,V3,V4,j5,sV,bC,aP,aM,aF,aJ];refine UY k w h hw i _ _ λc s e d=>?_;rw[q]at d;refine(sX d).mpr ?_;have m:(b++[C.dT []]).length=b.length+1:=by rw[V5];rfl
 refine Hc (me:=mC A6) (λy b Q=>W_some) (μ0:=b) r (by omega) (((aO _ _).trans (aO _ _)).trans e) (Wa _) (by omega) (by rw[m];exact WB (XT _)) ?_ ?_ d _ λx S a o n J j=>?_
 ·exact aL ((aO _ _).trans e) (bF _ _)
 ·exact aL e (bF _ _)
 ·simp only[w_mRet,gG,aP,aM,aF,aJ];exact⟨fN,H _ _ S a o n J j⟩
theorem U9(a:D):hW "wide" a []=([("wide",a)]:List (Str×D)):=rfl
theorem Va(a b:D):hW "high" b [("wide",a)]=([("wide",a),("high",b)]:List (Str×D)):=by unfold hW;rw[if_neg (by decide)];rfl
theorem Vb(a b c:D):hW "states" c [("wide",a),("high",b)]=([("wide",a),("high",b),("states",c)]:List (Str×D)):=by unfold hW;rw[if_neg (by decide)];unfold hW;rw[if_neg (by decide)];rfl
noncomputable def qP(u n j:Int):Int×Int:=if u=0 then(2+4*j,n)else if u=1 then(n,2+4*j)else if u=2 then(n+1+2*j,1+2*j)else(1+2*j,n-1-2*j)
theorem w4{e:Int×Int}{A:Ly}(m:∀p,eA p e=aV A p):wJ e=A:=by unfold wJ;rw[m (1,0),m (0,0),m (0,1)];unfold aV;refine Ly.ext' ?_ ?_ ?_ ?_ ?_ ?_<;>(dsimp only;omega)
theorem Vc{u n:Int}(a:0<=u/\u<4)(b:n%4=0)(j:Int):OnL (qP u n j) u n:=by
 have c:u=0\/u=1\/u=2\/u=3:=by omega
 rcases c with rfl|rfl|rfl|rfl
 ·have e:qP 0 n j=(2+4*j,n):=rfl;have m:∀p,eA p (2+4*j,n)=aV (bI 0 n) p:=λp=>by unfold eA;rw[if_neg (by dsimp only;omega),if_pos b];show(p.1,2*n-p.2)=(1*p.1+0*p.2+0,0*p.1+(-1)*p.2+2*n);congr 1<;>omega
  rw[e];refine⟨a,λp=>?_,rfl,m,?_⟩
  ·unfold iO;rw[if_neg (by dsimp only;omega),if_pos b];rfl
  ·exact w4 m
 ·have e:qP 1 n j=(n,2+4*j):=rfl;have m:∀p,eA p (n,2+4*j)=aV (bI 1 n) p:=λp=>by unfold eA;rw[if_neg (by dsimp only;omega),if_neg (by dsimp only;omega)];show(2*n-p.1,p.2)=((-1)*p.1+0*p.2+2*n,0*p.1+1*p.2+0);congr 1<;>omega
  rw[e];refine⟨a,λp=>?_,rfl,m,?_⟩
  ·unfold iO;rw[if_neg (by dsimp only;omega),if_neg (by dsimp only;omega)];rfl
  ·exact w4 m
 ·have e:qP 2 n j=(n+1+2*j,1+2*j):=rfl;have m:∀p,eA p (n+1+2*j,1+2*j)=aV (bI 2 n) p:=λp=>by unfold eA;rw[if_pos (by dsimp only;omega),if_pos (by dsimp only;omega)];show(p.2+(n+1+2*j-(1+2*j)),p.1-(n+1+2*j-(1+2*j)))=(0*p.1+1*p.2+n,1*p.1+0*p.2+-n);congr 1<;>omega
  rw[e];refine⟨a,λp=>?_,?_,m,?_⟩
  ·unfold iO;rw[if_pos (by dsimp only;omega),if_pos (by dsimp only;omega)];rfl
  ·show n+1+2*j-(1+2*j)=n;omega
  ·exact w4 m
 ·have e:qP 3 n j=(1+2*j,n-1-2*j):=rfl;have m:∀p,eA p (1+2*j,n-1-2*j)=aV (bI 3 n) p:=λp=>by unfold eA;rw[if_pos (by dsimp only;omega),if_neg (by dsimp only;omega)];show(1+2*j+(n-1-2*j)-p.2,1+2*j+(n-1-2*j)-p.1)=(0*p.1+(-1)*p.2+n,(-1)*p.1+0*p.2+n);congr 1<;>omega
  rw[e];refine⟨a,λp=>?_,?_,m,?_⟩
  ·unfold iO;rw[if_pos (by dsimp only;omega),if_neg (by dsimp only;omega)];rfl
  ·show 1+2*j+(n-1-2*j)=n;omega
  ·exact w4 m
theorem Vd{a:Hm}{Q:D×Hm->Prop}:W (fZ (.int 10) (.int 58) a) Q↔Q (.int (10^58),a):=AY (by decide)
theorem Ve{a:Hm}{Q:D×Hm->Prop}:W (fZ (.int 10) (.int 57) a) Q↔Q (.int (10^57),a):=AY (by decide)
theorem Vf{u n j:Int}(a:0<=u/\u<4):atI [P (2+4*j) n,P n (2+4*j),P (n+1+2*j) (1+2*j),P (1+2*j) (n-1-2*j)] u=b4 (PP (qP u n j)):=by
 have:u=0\/u=1\/u=2\/u=3:=by omega
 rcases this with rfl|rfl|rfl|rfl<;>rfl
theorem Vg{ps:List (Int×Int)}{i:Int}(a:0<=i)(h:i<ps.length):∃q,atI (ps.map PP) i=b4 (PP q):=by
 unfold atI;rw[A9 a (by rw[V0];exact h)];have b:i.toNat<ps.length:=by omega
 exact⟨ps[i.toNat],by rw[Wl,WD,WM b];rfl⟩
theorem Vh(k:Nat){d:Hm}{p:Nat}{i:D}{Z:Zr}(g:d[p]?=b4 (.dT (aW Z)))(hz:0<Z.length)(v b:Int)(Q:D×Hm->Prop)
  (H:∀e u n a o l,d<+:l->OnL e u n->n%4=0->Q (.tup [PP e,.tup [.int u,.int n],.bl a,.bl o],l)):W (f (k+2) "_law_plan" [.tup [i,.loc p],.int v,.int b] d) Q:=by
 have w:0<=v%4/\v%4<4:=⟨Za _ (by decide),Ze _ (by decide)⟩;rw[Tn,W_fin];simp only[bA,bH,bC,aP,aM,aU,aR,gQ,aF,aJ,dN (show(0:Int)<4 by decide),V3,V4];refine(F0 g).mpr ?_;have y:(aW Z).map (λk=>D.tup (k.1.map D.int))=(Z.map (·.1)).map PP:=by unfold aW;rw[WI,WI];rfl
 rw[y];simp only[V3,V4,aF,aJ,iN (show(0:Int)<64 by decide) (by decide),lH (bF d (C.lst ((Z.map (·.1)).map PP)))];have h:(0:Int)<(((Z.map (·.1)).map PP).length:Nat):=by rw[V0,V0];omega
 refine(dN h).mpr ?_;obtain⟨q,A⟩:=Vg (ps:=Z.map (·.1)) (i:=v/64%(((Z.map (·.1)).map PP).length:Nat)) (Za _ (by omega)) (by have:=Ze (v/64) h;rw[V0]at this ⊢;exact this);refine(fM (bF _ _) A).mpr ?_;simp only[V3,V4,aF,aJ];refine G1 k q (v%4) w _ _ λc G=>?_;simp only[iN (show(0:Int)<4 by decide) (by decide),TM,dN (show(0:Int)<2 by decide),jY,aF,aJ];have I:d<+:c:=(aO _ _).trans G;generalize hn0:cU (v%4) q/4*4+v/4%2*4=n0;have z:n0%4=0:=by omega
 have E:W ((aX (aN (aC (aY c6) (aC bL (aC dD (aA 1) (mC (.int 8))) (mC (.int 7))) (mC (.int 3)))) (aK 6 (aC bR (mC (.int 4)) (aC cE (aC bL (aA 2) (aC bR (mC (.int 2)) (aC fZ (mC (.int 10)) (mC (.int 58))))) (aC fZ (mC (.int 10)) (mC (.int 58)))))) a8) [b4 (.tup [i,.loc p]),b4 (.int v),b4 (.int b),b4 (.int (v%4)),b4 (.loc d.length),b4 (PP q),b4 (.int n0),c4,c4] c)
   λr=>∃n:Int,n%4=0/\r=(.nx,[b4 (.tup [i,.loc p]),b4 (.int v),b4 (.int b),b4 (.int (v%4)),b4 (.loc d.length),b4 (PP q),b4 (.int n),c4,c4],c):=by
  simp only[b6,cB,aU,aR,aF,aJ,iN (show(0:Int)<8 by decide) (by decide),dN (show(0:Int)<7 by decide),w_eqI];split
  ·simp only[bH,aU,aR,aF,aJ,Vd];have m:(0:Int)<10^58:=by decide
   generalize(10:Int)^58=t at m;simp only[F5,dN (show(0:Int)<2*t by omega),jZ,qJ,V3,V4];exact⟨_,by omega,rfl⟩
  ·simp only[cH];exact⟨n0,z,rfl⟩
 refine bQ E λr ⟨n,x,s⟩=>?_;subst s;simp only[bA,bH,aU,aR,aF,aJ,iN (show(0:Int)<3 by decide) (by decide),dN (show(0:Int)<9 by decide),jZ,V3,V4];have B:W ((aX (aN (aC (aY c6) (aC bL (aC dD (aA 1) (mC (.int 56))) (mC (.int 5))) (mC (.int 2)))) (aK 7 (aC bL (aC dD (aA 2) (mC (.int 7))) (aC fZ (mC (.int 10)) (mC (.int 57))))) a8) [b4 (.tup [i,.loc p]),b4 (.int v),b4 (.int b),b4 (.int (v%4)),b4 (.loc d.length),b4 (PP q),b4 (.int n),b4 (.int (b/3%9-4)),c4] c)
   λr=>∃j:Int,r=(.nx,[b4 (.tup [i,.loc p]),b4 (.int v),b4 (.int b),b4 (.int (v%4)),b4 (.loc d.length),b4 (PP q),b4 (.int n),b4 (.int j),c4],c):=by
  simp only[b6,cB,aU,aR,aF,aJ,iN (show(0:Int)<56 by decide) (by decide),dN (show(0:Int)<5 by decide),w_eqI];split
  ·simp only[bH,aU,aR,aF,aJ,Ve,iN (show(0:Int)<7 by decide) (by decide)];have m:(0:Int)<10^57:=by decide
   generalize(10:Int)^57=t at m;simp only[dN m,V3,V4];exact⟨_,rfl⟩
  ·simp only[cH];exact⟨_,rfl⟩
 refine bQ B λr ⟨j,s⟩=>?_;subst s;simp only[bA,bH,aU,aR,dZ,gG,aP,aM,aF,aJ,qJ,F5,jY,jZ];refine⟨fN,fN,fN,fN,(by show(4:Nat)<=Wb;decide),?_⟩;refine(fM (bF _ _) (Vf w)).mpr ?_;simp only[w_mRet,gG,aP,aM,aU,aR,aF,aJ,iN (show(0:Int)<280 by decide) (by decide),iN (show(0:Int)<560 by decide) (by decide),dN (show(0:Int)<2 by decide),w_eqI,V3,V4];exact⟨fN,(by show(4:Nat)<=Wb;decide),H _ _ _ _ _ _ (I.trans (aO _ _)) (Vc w x j) x⟩
noncomputable abbrev xN(c:Str):Xn:=(c,[])
noncomputable def BadS(d:D)(b:Hm):Prop:=∀a,b<+:a->∀(k:Nat)(Q:D×Hm->Prop),Q (.bl c6,a)->W (f (k+2) "is_size" [d] a) Q
theorem w5{d:D}{b:Hm}(h:∀a,b<+:a->gJ [d,.ty "int"] a=b4 (.bl c6,a)):BadS d b:=λa p k Q H=>by rw[wH,W_fin];simp only[w_mRet,jX,bC,aP,aM,aF];rw[A7,W_fin];simp only[w_mRet,jX,bC,aP,aM,aF,aR];rw[h a p,W_some];simp only[V6,if_false];exact H
theorem Vi(b:Bool)(c:Hm):BadS (.bl b) c:=λa p k Q H=>by rw[wH,W_fin];simp only[w_mRet,jX,bC,aP,aM,aF];rw[A7,W_fin];simp only[w_mRet,jX,AX,bC,aP,aM,aF,aR];rw[show gJ [.bl b,.ty "int"] a=b4 (.bl c7,a)from rfl,W_some];simp only[if_true,SA,W9,V6,if_false];exact H
theorem w6{i:Int}(h:i<1\/6<i)(b:Hm):BadS (.int i) b:=λc p k Q H=>by
 rw[wH,W_fin];simp only[w_mRet,jX,bC,aP,aM,aF,GV,if_true,FZ,aR,A0];by_cases a:1<=i
 ·simp only[decide_eq_true a,if_true,A0,decide_eq_false (show ¬ i<=6 by omega)];exact H
 ·simp only[decide_eq_false a,V6,if_false];exact H
theorem Vj(k:Nat){c d:D}{a:Hm}(b:BadS c a\/(∃i,c=.int i/\1<=i/\i<=6)/\BadS d a):W (g (k+3) "check_size" [c,d] a) λq=>q.1=xN "NoSize"/\q.2=a:=by
 rw[S4,tD];refine gH (w_rIf.mpr ?_);simp only[sU,fW,gP,bC,aP,aM,aF,aJ];have aS:W (bX bP (l6 "NoSize" (aB (mC (.str "a sheet is from 1 to 6 squares wide and high")) aD)) bD [b4 c,b4 d] a) λp=>p.1=xN "NoSize"/\p.2.2=a:=by refine gH (w_rRaise.mpr ?_);simp only[aP,aM,aR];exact⟨trivial,trivial⟩
 rcases b with b|⟨⟨i,rfl,e,h⟩,b⟩
 ·refine b a (XQ _) k _ ?_;simp only[eX,V6,if_false,X5,if_true];exact aS
 ·refine Bl k ⟨e,h⟩ _ _ ?_;simp only[eX,if_true];refine b a (XQ _) k _ ?_;simp only[eX,X5,if_true];exact aS
theorem w8{d:D}{b:Hm}{t c:String}(h:∀a,b<+:a->oW a d=b4 t)(e:rM t c=b4 c6):∀a,b<+:a->gJ [d,.ty c] a=b4 (.bl c6,a):=λa p=>by simp only[gJ,h a p,Wl,e,WE]
theorem Vk{a:Nat}{xs:List D}{c:Hm}(h:c[a]?=b4 (.lst xs)):∀b,c<+:b->oW b (.loc a)=b4 "list":=λb p=>by simp only[oW,aL p h]
noncomputable def tR(x:Str):List Str:=["NoFold","NoSize","Barred","NoEdge","NoMark","NoName","NoOrder","NoRound","NoRow","NoText","Taken","TooMany","Twice","ValueError"]
noncomputable def Vl(x:Str):List D:=(tR x).map λc=>D.bl (c==x||c=="ValueError")
theorem Vm:∀x∈[("NoFold":Str),"NoSize"],∀c∈tR x,sup c x=b4 (c==x||c=="ValueError"):=by decide +kernel
theorem Vn{c x:Str}(j:x∈[("NoFold":Str),"NoSize"]) (hc:c∈tR x){a:Nat}{ns:List Str}{ds:List D}{d:aG}{b:Hm}(h:d[0]?=b4 (b4 (.loc a)))(i:b[a]?=b4 (.exc x ns ds))(Q:D×Hm->Prop)(H:Q (.bl (c==x||c=="ValueError"),b)):W (dY (sup c) (aA 0) d b) Q:=by
 rw[SN];have e:aA 0 d b=b4 (.loc a,b):=by unfold aA;rw[h]
 rw[e,W_some];exact⟨_,_,_,_,_,rfl,i,Vm x j c hc,H⟩
theorem Hh{b:Hm}{a:Nat}{xs:List D}{y:D}{Q:D×Hm->Prop}(h:b[a]?=b4 (.lst (xs++[y]))):W (jT (.loc a) [] b) Q↔Q (y,b.set a (.lst xs)):=by
 have:jT (.loc a) [] b=b4 (y,b.set a (.lst xs)):=by simp only[jT,h];simp
 rw[this];exact W_some
theorem Vo(k:Nat){a:Hm}{o b:Nat}{w h:Int}{xs:List D}{d e:D}(i1:a[o]?=b4 (.ins "Folding" (eQ w h b))) (i2:a[b]?=b4 (.lst (xs++[d]++[e])))(Q:D×Hm->Prop)(H:Q (.non,a.set b (.lst (xs++[d])))):W (f (k+2) "Folding.back" [.loc o] a) Q:=by
 rw[Tz,W_fin,bA,b6,cB,aU];refine m3 ?_;simp only[aF];refine⟨o,_,rfl,i1,rfl,?_⟩;simp only[aM];refine Bz k i1 i2 _ ?_;have ne:(((xs++[d]).length:Nat):Int)≠0:=by rw[V5,WW];omega
 simp only[aR,w_eqI,beq_eq_false_iff_ne.mpr ne,V6,if_false,cH,lF];refine mR (wW ?_);simp only[aF];refine⟨o,_,_,rfl,i1,rfl,by simp only[jS,i2],?_⟩;simp only[aM];exact(Hh i2).mpr H
theorem BB(k:Nat){a:Hm}{o b:Nat}{w h:Int}{xs:List D}{d:D}{r:aG}(i1:a[o]?=b4 (.ins "Folding" (eQ w h b))) (i2:a[b]?=b4 (.lst (xs++[d])))(Q:Bool×Hm->Prop)(H:Q (((xs.length:Nat):Int)==0,a)):W ((aN (aC (aY c6) (cG "Folding" "many" (f (k+1) "Folding.many") (aA 0) aD) (mC (.int 0)))) (b4 (.loc o)::r) a) Q:=by rw[cB,aU];refine m3 ?_;simp only[aF];refine⟨o,_,rfl,i1,rfl,?_⟩;simp only[aM];refine Bz k i1 i2 _ ?_;simp only[aR,w_eqI];exact H
theorem Vp(k:Nat){a:Hm}{o b:Nat}{w h:Int}{xs:List D}{d e:D}(i1:a[o]?=b4 (.ins "Folding" (eQ w h b))) (i2:a[b]?=b4 (.lst (xs++[d]++[e]))):g (k+3) "Folding.back" [.loc o] a=none:=by
 have ne:((((xs++[d]).length:Nat):Int)==0)=false:=by rw[beq_eq_false_iff_ne,V5,WW];omega
 rw[F4];refine Bw (wX (tK (BB (k+1) i1 i2 _ ?_)) ?_)
 ·rw[ne];rfl
 ·rw[b6];refine BB (k+1) i1 i2 _ ?_;rw[ne];simp only[V6,if_false,cH];exact rSeq_no' rfl λ_ _ _=>rfl
theorem Vq(k:Nat){a:Hm}{o b:Nat}{w h:Int}{d:D}(i1:a[o]?=b4 (.ins "Folding" (eQ w h b))) (i2:a[b]?=b4 (.lst [d]))(Q:Xn×Hm->Prop)(H:Q (("NoFold",[]),a)):W (g (k+3) "Folding.back" [.loc o] a) Q:=by rw[F4,tD];refine gH (w_rIf.mpr (BB (k+1) (xs:=[]) i1 i2 _ ?_));have e:(((([]:List D).length:Nat):Int)==0)=true:=rfl;dsimp only;rw[e,if_pos rfl];exact gH (w_rRaise.mpr (by simp only[aP,aM,aR];exact H))
theorem Hi{x:Str}(n:x∈[("NoFold":Str),"NoSize"]) {a:Nat}{ns:List Str}{ds:List D}{e:Hm}(l:e[a]?=b4 (.exc x ns ds))(Q:D×Hm->Prop)(H:∀b d,e<+:d->d[b]?=b4 (.lst (Vl x))->Q (.loc b,d)):W (jE S "_law_class" [.loc a] e) Q:=by
 have j:(4:Nat)<=Wb:=by decide
 have m:∀c,c∈(["NoFold","NoSize","Barred","NoEdge","NoMark","NoName","NoOrder","NoRound","NoRow","NoText","Taken","TooMany","Twice","ValueError"]:List Str)->c∈tR x:=λc h=>h;have one:∀{c:Str}{r:aG}{k:Hm}{Q:D×Hm->Prop},c∈tR x->e<+:k->Q (.bl (c==x||c=="ValueError"),k)->W (dY (sup c) (aA 0) (b4 (.loc a)::r) k) Q:=λhc p h=>Vn n hc rfl (aL p l) _ h;rw[To,W_fin];simp only[bA,bH,dZ,aP,aM,aU,w_mRet,aF,aJ];have i:=XQ e;refine one (m _ (by decide)) i (one (m _ (by decide)) i (one (m _ (by decide)) i (one (m _ (by decide)) i ⟨j,?_⟩)));dsimp only;simp only[V3,V4,aF,aJ];refine one (m _ (by decide)) (aO _ _) (one (m _ (by decide)) (aO _ _) (one (m _ (by decide)) (aO _ _) (one (m _ (by decide)) (aO _ _) ⟨j,?_⟩)));refine(jG (aL (aO _ _) (bF _ _)) (bF _ _) (by show(8:Nat)<=Wb;decide)).mpr ?_;simp only[V3,V4,aF,aJ,Xp,Yj];refine one (m _ (by decide)) (((aO _ _).trans (aO _ _)).trans (aO _ _)) (one (m _ (by decide)) (((aO _ _).trans (aO _ _)).trans (aO _ _)) (one (m _ (by decide)) (((aO _ _).trans (aO _ _)).trans (aO _ _)) (one (m _ (by decide)) (((aO _ _).trans (aO _ _)).trans (aO _ _)) ⟨j,?_⟩)));refine(jG (aL (aO _ _) (bF _ _)) (bF _ _) (by show(12:Nat)<=Wb;decide)).mpr ?_;simp only[V3,V4,aF,aJ,Xp,Yj];refine one (m _ (by decide)) (((((aO _ _).trans (aO _ _)).trans (aO _ _)).trans (aO _ _)).trans (aO _ _)) (one (m _ (by decide)) (((((aO _ _).trans (aO _ _)).trans (aO _ _)).trans (aO _ _)).trans (aO _ _)) ⟨fN,?_⟩);refine(jG (aL (aO _ _) (bF _ _)) (bF _ _) (by show(14:Nat)<=Wb;decide)).mpr ?_;exact H _ _ (((((((aO _ _).trans (aO _ _)).trans (aO _ _)).trans (aO _ _)).trans (aO _ _)).trans (aO _ _)).trans (aO _ _)) (bF _ _)
theorem Vr(k:Nat){a:Nat}{c d:D}{b:Hm}(e:BadS c b\/(∃i,c=.int i/\1<=i/\i<=6)/\BadS d b):W (g (k+6) "Folding" [.loc a,c,d] b) λq=>q.1=xN "NoSize"/\q.2=b:=by rw[TJ,Tv,tD];refine gH (w_rCall.mpr ?_);simp only[aP,aM,aF,aJ];exact Vj (k+1) e
theorem Vs{x:Str}{r:RF}{ms:MA}{a:aG}{b:Hm}{Q:Xn×aG×Hm->Prop}(h:W (ms a b) λq=>W (r (.loc q.2.length::q.1) (q.2++[.ins x []])) λz=>Q (z.1,a,z.2)):W (kX x r ms a b) Q:=by unfold kX;rw[W_bind];exact bQ h λq h=>W_map.mpr h
theorem BadS.more{d:D}{b a:Hm}(h:BadS d b)(p:b<+:a):BadS d a:=λc q=>h c (p.trans q)
theorem Hj{b:Hm}{a:Nat}{xs:List D}{n:Nat}{Q:D×Hm->Prop}(h:b[a]?=b4 (.lst xs))(d:xs.length*n<=1000)(c:n<=1000):W (bR (.loc a) (.int (n:Nat)) b) Q↔Q (.loc b.length,b++[.lst (WH n xs).flatten]):=by
 have:bR (.loc a) (.int (n:Nat)) b=b4 (.loc b.length,b++[.lst (WH n xs).flatten]):=by simp only[bR,h];rw[if_pos ⟨by omega,by omega,by rw[Z0,W6];omega⟩,Z0]
 rw[this];exact W_some
theorem Vt{c:Hm}{a b:Nat}{xs:List D}{Q:D×Hm->Prop}(i:c[a]?=b4 (.lst xs))(j:c[b]?=b4 (.lst xs))(k:fY (cR 7 c) xs xs=b4 c7):W (aY c6 (.loc a) (.loc b) c) Q↔Q (.bl c7,c):=by
 have d:cQ c (.loc a)=b4 (.lst xs):=by simp only[cQ,i]
 have h:cQ c (.loc b)=b4 (.lst xs):=by simp only[cQ,j]
 have e:cR 8 c (.loc a) (.loc b)=b4 true:=by show((cQ c (.loc a)).bind λx=>(cQ c (.loc b)).bind λy=>gZ (cR 7 c) x y)=_;rw[d,h];exact k
 have:aY c6 (.loc a) (.loc b) c=b4 (.bl c7,c):=by unfold aY;rw[e];rfl
 rw[this];exact W_some
theorem Hk(k:Nat){c e:D}{a:Hm}(A:BadS c a\/(∃i,c=.int i/\1<=i/\i<=6)/\BadS e a)(Q:D×Hm->Prop)(H:∀j,a<+:j->Q (.bl c7,j)):W (f (k+7) "_law_no_size" [c,e] a) Q:=by
 rw[Tp,W_fin];simp only[bA,bH,dZ,aM];refine⟨W7 _,?_⟩;simp only[V3,V4];have l:a<+:a++[C.lst []]:=aO _ _;generalize a++[C.lst []]=μ0 at l;have m:BadS c (μ0++[C.ins "Folding" []])\/(∃i,c=.int i/\1<=i/\i<=6)/\BadS e (μ0++[C.ins "Folding" []]):=A.imp (λh=>h.more (l.trans (aO _ _))) λh=>⟨h.1,h.2.more (l.trans (aO _ _))⟩;have E:W ((bX (cP (hX "Folding" (f (k+6) "Folding") (aB (aA 0) (aB (aA 1) aD)))) (kX "Folding" (g (k+6) "Folding") (aB (aA 0) (aB (aA 1) aD))) bD) [b4 c,b4 e,b4 (.loc a.length),c4] μ0) λr=>r=(xN "NoSize",[b4 c,b4 e,b4 (.loc a.length),c4],μ0++[C.ins "Folding" []]):=by refine gH (Vs ?_);simp only[aP,aM,aF,aJ];refine bQ (Vr k m) λq ⟨y,z⟩=>?_;rw[y,z]
 obtain⟨_,x,rfl⟩:=E;refine(F1 x rfl).mpr ?_;simp only[V3,V4,bH,bC,aP,aM,aF,aJ];refine Hi (x:="NoSize") (by decide) (bF _ _) _ λb d B g2=>?_;simp only[V3,V4,w_mRet,aU,dZ,aP,aM,aR,aF,aJ];refine⟨fN,j6,(Hj (n:=11) (bF _ _) (by decide) (by decide)).mpr ?_⟩;refine(jG (aL ((aO _ _).trans (aO _ _)) (bF _ _)) (bF _ _) (by show(13:Nat)<=Wb;decide)).mpr ⟨j6,?_⟩;refine(jG (aL (aO _ _) (bF _ _)) (bF _ _) (by show(14:Nat)<=Wb;decide)).mpr ?_;have n:∀o p s u v w:C,d<+:d++[o]++[p]++[s]++[u]++[v]++[w]:=λ_ _ _ _ _ _=>(((((aO d _).trans (aO _ _)).trans (aO _ _)).trans (aO _ _)).trans (aO _ _)).trans (aO _ _);refine(Vt (aL (n _ _ _ _ _ _) g2) (bF _ _) rfl).mpr (H _ ?_);exact((l.trans (aO _ _)).trans (aO _ _)).trans (B.trans (n _ _ _ _ _ _))
structure StB(μ:Hm)(B:List Nat)(d:D)(F:Int×Int->Ly)(qs:List (Int×Int))(G:Gr):Prop where
 ex:∃l p Z,d=.tup [.loc l,.loc p]/\μ[l]?=b4 (.dT (a9 (λq=>LD (F q)) qs))/\HI μ p Z/\μ[p]?=b4 (.dT (aW Z))/\GZ Z=G/\∀z∈Z,z.2.2∉B
theorem StB.st{a:Hm}{B:List Nat}{b:Nat}{d:D}{F:Int×Int->Ly}{qs:List (Int×Int)}{G:Gr}(S:StB a B d F qs G)(h:b∈B):StZ a b d F qs G:=by obtain⟨l,p,Z,e,j,I,g2,i,m⟩:=S.ex;exact⟨l,p,Z,e,j,I,g2,i,λz k c=>m z k (c▸h)⟩
theorem StB.keep{i b:Hm}{B:List Nat}{d:D}{F:Int×Int->Ly}{qs:List (Int×Int)}{G:Gr}(S:StB i B d F qs G)(hB:∀c∈B,∃xs,i[c]?=b4 (.lst xs))(h:∀(c:Nat)(y:C),c∉B->i[c]?=b4 y->b[c]?=b4 y):StB b B d F qs G:=by
 obtain⟨l,p,Z,e,j,I,g2,r,o⟩:=S.ex;have q:∀c a,i[c]?=b4 (.dT a)->c∉B:=λc a g m=>by obtain⟨xs,s⟩:=hB c m;rw[s]at g;cases g
 have k:=h p _ (q _ _ g2) g2;exact⟨l,p,Z,e,h l _ (q _ _ j) j,⟨.inl k,I.kd,λz n=>h _ _ (o z n) (I.at_ z n)⟩,k,r,o⟩
theorem StB.more{b a:Hm}{B:List Nat}{d:D}{F:Int×Int->Ly}{qs:List (Int×Int)}{G:Gr}(S:StB b B d F qs G)(h:b<+:a):StB a B d F qs G:=by obtain⟨l,p,Z,e,i,I,g2,c,j⟩:=S.ex;exact⟨l,p,Z,e,aL h i,I.more h,aL h g2,c,j⟩
theorem StB.new{b:Hm}{B:List Nat}{l p n:Nat}{F:Int×Int->Ly}{qs:List (Int×Int)}{Z:Zr}(g:b[l]?=b4 (.dT (a9 (λq=>LD (F q)) qs)))(J:Pz b n p Z)(d:∀c∈B,c<n):StB b B (.tup [.loc l,.loc p]) F qs (GZ Z):=
 ⟨l,p,Z,rfl,g,⟨.inl J.dic,J.kd,λz a=>(J.at_ z a).2⟩,J.dic,rfl,λz a e=>by have:=(J.at_ z a).1;have:=d _ e;omega⟩
theorem StB.add{a:Hm}{B:List Nat}{c:Nat}{d:D}{F:Int×Int->Ly}{qs:List (Int×Int)}{G:Gr}(S:StB a B d F qs G)(h:a.length<=c):StB a (c::B) d F qs G:=by
 obtain⟨l,p,Z,e,j,I,g2,i,k⟩:=S.ex;refine⟨l,p,Z,e,j,I,g2,i,λz b m=>?_⟩;rcases Wr.mp m with e|m
 ·have:=(VY.mp (I.at_ z b)).1;omega
 ·exact k z b m
theorem Hl(k:Nat){j:Hm}{o b:Nat}{w h:Int}{xs:List D}{d:D}{F:Int×Int->Ly}{qs:List (Int×Int)}{G:Gr}(nd:qs.Nodup)(hl:qs.length<=36)(i1:j[o]?=b4 (.ins "Folding" (eQ w h b))) (i2:j[b]?=b4 (.lst (xs++[d])))(hx:xs.length<=1000)(S:StZ j b d F qs G)(L:Gd qs F G)
  {e:Int×Int}{u n:Int}(E:OnL e u n)(hn:n%4=0){a ov:Bool}(hN:m4 G (a7 u n a)=c6)(Q:D×Hm->Prop)
  (H:∀R m,(∀(c:Nat)(y:C),c≠b->j[c]?=b4 y->m[c]?=b4 y)->m[b]?=b4 (.lst (xs++[d]++[R]))->(∀B:List Nat,(∀c∈B,c<j.length)->StB m B R (b7 u n a F) qs (lL (a7 u n a) (aV (bI u n)) ov G))->Q (.non,m)) :
  W (f (k+5) "Folding.fold" [.loc o,PP e,.bl a,.bl ov] j) Q:=by
 obtain⟨l,p,Z,rfl,g1,I,g2,rfl,nb⟩:=S.ex;obtain⟨v1,T⟩:=Hg L (u:=u) hn;obtain⟨_,_,lZ,Y⟩:=L.key;rw[Tw,W_fin,bA,bH];refine tQ i1 i2 _ ?_;simp only[V3,V4,bA,lF,bC,aP,aM,aU,aR,gQ,aF,aJ];refine U1 (k+1) g2 (by omega) E (by rw[Hf a T,wZ];exact hN) _ λi x=>?_;have ib:b<j.length:=(VY.mp i2).1;simp only[bH,sT,gP,aF,aJ,eX];have step:∀Q:D×Hm->Prop,Q (.int (sd a),i)->(if a=c7 then W ((mC (.int 1)) [b4 (.loc o),b4 (PP e),b4 (.bl a),b4 (.bl ov),b4 (.tup [.loc l,.loc p]),c4] i) Q else W ((bW (mC (.int 1))) [b4 (.loc o),b4 (PP e),b4 (.bl a),b4 (.bl ov),b4 (.tup [.loc l,.loc p]),c4] i) Q):=λQ h=>by
  cases a with
  |true=>exact W_some.mpr h|false=>exact W_some.mpr h
 refine step _ ?_;simp only[V3,V4];refine mR (wW ?_);simp only[aF];have M:=aL x i2;refine⟨o,_,_,rfl,aL x i1,rfl,by simp only[jS,M],?_⟩;simp only[aP,aM,gG,bC,aU,aR,j4,gQ,aF,aJ];refine UC k L.di nd (by omega) E v1 (aL x g1) _ ?_;have r:j<+:i++[C.dT (a9 (λq=>LD (b7 u n a F q)) qs)]:=x.trans (aO _ _);have gl:(i++[C.dT (a9 (λq=>LD (b7 u n a F q)) qs)])[i.length]?=b4 (.dT (a9 (λq=>LD (b7 u n a F q)) qs)):=bF _ _;have hge:j.length<=i.length:=x.length_le;have s:(i++[C.dT (a9 (λq=>LD (b7 u n a F q)) qs)]).length=i.length+1:=by rw[V5];rfl
 generalize i++[C.dT (a9 (λq=>LD (b7 u n a F q)) qs)]=μ2 at r gl s;refine UL (k+1) (I.more r) (aL r g2) (by omega) (λz v=>by have:=Y z v;omega) E T _ λX A K J e3=>?_;refine⟨fN,(sW (aL (r.trans K) i2) (by rw[V5,WW,W6];omega)).mpr ?_⟩;have N:b<A.length:=Wy ib (r.trans K).length_le;have ne:i.length≠b:=by omega
 have O:μ2.length≠b:=by omega
 refine H _ _ (λc y hc h=>by rw[V9 (WL hc)];exact aL (r.trans K) h) (Wh N) ?_;have U:Pz (A.set b (.lst (xs++[.tup [.loc l,.loc p]]++[.tup [.loc i.length,.loc μ2.length]]))) μ2.length μ2.length X:=
  ⟨by rw[V9 (WL O)];exact J.dic,J.kd,λz v=>⟨(J.at_ z v).1,by rw[V9 (by have:=(J.at_ z v).1;omega)];exact(J.at_ z v).2⟩⟩
 intro B hB;have:=StB.new (B:=B) (l:=i.length) (F:=b7 u n a F) (qs:=qs) (by rw[V9 (WL ne)];exact aL K gl) U λc hc=>by have:=hB c hc;omega
 rw[e3]at this;exact this
theorem Vu(k:Nat){w h:Int}(hw:1<=w/\w<=3)(A:1<=h/\h<=3)(i:Hm)(Q:D×Hm->Prop)
  (H:∀b d j,i<+:j->b<j.length->i.length<b->j[i.length]?=b4 (.ins "Folding" (eQ w h b))->j[b]?=b4 (.lst [d])->(∀B:List Nat,(∀c∈B,c<i.length\/c=b)->StB j B d (λ_=>eB) (dO w h) (iQ (dO w h)))->Q (.non,j)):W (f (k+5) "Folding" [.loc i.length,.int w,.int h] (i++[.ins "Folding" []])) Q:=by
 rw[TH,Tu,W_fin];simp only[bA,lF,bC,aP,aM,aF,aJ];refine Uz k (by omega) (by omega) _ _ ?_;refine Bv ?_;simp only[aF,aJ];refine⟨_,_,rfl,bF _ _,by decide,?_⟩;rw[Bb,U9];try dsimp only
 refine Bv ?_;simp only[aF,aJ];refine⟨_,_,rfl,bF _ _,show(1:Nat)<100 by decide,?_⟩;rw[Bb,Va];try dsimp only
 refine Bv ?_;simp only[dZ,bC,aP,aM,aF,aJ];refine U8 k hw A _ _ λl p S a o q J u=>⟨j6,_,_,rfl,aL (o.trans (aO _ _)) (bF _ _),show(2:Nat)<100 by decide,?_⟩;rw[Vb];have o1:i.length<a.length:=by have:=o.length_le;rw[V5]at this;exact this
 have ne:a.length≠i.length:=by omega
 have E:i<+:(a++[C.lst [.tup [.loc l,.loc p]]]).set i.length (.ins "Folding" (eQ w h a.length)):=mO (((aO _ _).trans o).trans (aO _ _)) (Wa _) _;have m:∀(c:Nat)(y:C),c≠i.length->a[c]?=b4 y->((a++[C.lst [.tup [.loc l,.loc p]]]).set i.length (.ins "Folding" (eQ w h a.length)))[c]?=b4 y:=λc y hc e=>by rw[V9 (WL hc)];exact aL (aO _ _) e
 have r:a[i.length]?=b4 (.ins "Folding" [("wide",.int w),("high",.int h)]):=aL o (bF _ _);have s:=m p _ (λe=>by have:=J.dic;rw[e,r]at this;cases this) J.dic;refine H a.length _ _ E (by rw[WG,V5];exact XT _) o1 (Wh (Wy o1 (aO a _).length_le)) (by rw[V9 (WL ne)];exact bF _ _) λB x=>⟨l,p,S,rfl,m l _ (λe=>by rw[e,r]at q;cases q) q,⟨.inl s,J.kd,λz n=>m _ _ (λe=>by have:=(J.at_ z n).2;rw[e,r]at this;cases this) (J.at_ z n).2⟩,s,u,λz n e=>?_⟩;have G:=(VY.mp (J.at_ z n).2).1;have v:=(J.at_ z n).1;rw[V5]at v;rcases x _ e with h|h<;>omega
noncomputable abbrev Hn(k:Nat):MS:=aK 4 (cG "Folding" "back" (f k "Folding.back") (aA 0) aD)
noncomputable abbrev Ho:MA:=aB (aC aE (aA 1) (mC (.int 0))) aD
noncomputable abbrev Hq:MA:=aB (aC aE (aA 1) (mC (.int 0))) (aB (aC aE (aA 1) (mC (.int 3))) (aB (aC aE (aA 1) (mC (.int 2))) aD))
noncomputable abbrev BC(k:Nat):MS:=aK 4 (cG "Folding" "fold" (l9 [.bl c7,.bl c7] (f k "Folding.fold")) (aA 0) Ho)
noncomputable abbrev BE(k:Nat):MS:=aK 4 (cG "Folding" "fold" (mE (f k "Folding.fold")) (aA 0) Hq)
noncomputable def tS(k:Nat):MS:=aX (aN (aC (cL c6) (aA 1) (mC .non))) (Hn k) (aX (cA (aA 2)) (BC k) (BE k))
noncomputable def BF(k:Nat):MR:=bX (tS k) (hV (aN (aC (cL c6) (aA 1) (mC .non))) (bX (Hn k) (eE "Folding" "back" (g k "Folding.back") (aA 0) aD) bD) (bX (aX (cA (aA 2)) (BC k) (BE k)) (hV (cA (aA 2)) (bX (BC k) (eE "Folding" "fold" (rY [.bl c7,.bl c7] (g k "Folding.fold")) (aA 0) Ho) bD) (bX (BE k) (eE "Folding" "fold" (u3 (g k "Folding.fold")) (aA 0) Hq) bD)) bD)) bD
noncomputable def BG:MS:=aI (aX (dU (aN (aC (aY c6) (aA 3) (bO aD))) (aN (aC (cL c6) (aA 4) (mC .non)))) (a6 (mC (.str "done"))) a8) (aI (aX (aN (aC (aY c6) (aA 3) (aC bM (aC bM (bO (aB (mC (.bl c7)) aD)) (aC bR (bO (aB (mC (.bl c6)) aD)) (mC (.int 12)))) (bO (aB (mC (.bl c7)) aD))))) (a6 (mC (.str "refused"))) a8) (a6 (mC (.str "neither"))))
theorem Hr(k:Nat)(a b c:D)(d:Hm):f (k+1) "_law_do" [a,b,c] d=aS ((aI (aK 3 (bO aD)) (aI (aK 4 (mC (.int 0))) (aI (jU (tS k) (BF k) (sup "CreaseError") 5 (aK 3 (aH (jE S "_law_class") (aB (aA 5) aD)))) BG))) [b4 a,b4 b,b4 c,c4,c4,c4] d):=Tq k a b c d
theorem BH{c:Hm}{a b:Nat}{xs d:List D}{v:Bool}{Q:D×Hm->Prop}(j:c[a]?=b4 (.lst xs))(k:c[b]?=b4 (.lst d))(l:fY (cR 7 c) xs d=b4 v):W (aY c6 (.loc a) (.loc b) c) Q↔Q (.bl v,c):=by
 have h:cQ c (.loc a)=b4 (.lst xs):=by simp only[cQ,j]
 have i:cQ c (.loc b)=b4 (.lst d):=by simp only[cQ,k]
 have e:cR 8 c (.loc a) (.loc b)=b4 v:=by show((cQ c (.loc a)).bind λx=>(cQ c (.loc b)).bind λy=>gZ (cR 7 c) x y)=_;rw[h,i];exact l
 have:aY c6 (.loc a) (.loc b) c=b4 (.bl v,c):=by unfold aY;rw[e];cases v<;>rfl
 rw[this];exact W_some
noncomputable abbrev tT(a b c:D)(t:Nat)(v:D):aG:=[b4 a,b4 b,b4 c,b4 (.loc t),b4 v,c4]
theorem Hs(k:Nat){e h i:D}{c:Hm}(w:W (BF k (tT e h i c.length (.int 0)) (c++[.lst []])) λr=>r.1=BA/\r.2.1=tT e h i c.length (.int 0)/\c<+:r.2.2)(Q:D×Hm->Prop)(H:∀d,c<+:d->Q (.str "refused",d)):W (f (k+1) "_law_do" [e,h,i] c) Q:=by obtain⟨⟨x,A,z⟩,v,rfl,rfl,j⟩:=w;dsimp only at j;rw[Hr,W_fin];simp only[bA,bH,dZ,aM,aR,V3,V4];refine⟨W7 _,(F1 v rfl).mpr ?_⟩;simp only[V3,V4,bH,bC,aP,aM,aF,aJ];refine Hi (x:="NoFold") (by decide) (bF _ _) _ λb a y g2=>?_;unfold BG;simp only[V3,V4,bA,b6,fW,cB,w_mRet,aU,dZ,aP,aM,aR,aF,aJ];refine⟨W7 _,(BH (v:=c6) (aL (aO _ _) g2) (bF _ _) rfl).mpr ?_⟩;simp only[V6,if_false,cH,bA,b6,fW,cB,w_mRet,aU,dZ,aP,aM,aR,aF,aJ];refine⟨j6,j6,(Hj (n:=12) (bF _ _) (by decide) (by decide)).mpr ?_⟩;refine(jG (aL ((aO _ _).trans (aO _ _)) (bF _ _)) (bF _ _) (by show(13:Nat)<=Wb;decide)).mpr ⟨j6,?_⟩;refine(jG (aL (aO _ _) (bF _ _)) (bF _ _) (by show(14:Nat)<=Wb;decide)).mpr ?_;have l:∀m n o p q s u:C,a<+:a++[m]++[n]++[o]++[p]++[q]++[s]++[u]:=λ_ _ _ _ _ _ _=>((((((aO a _).trans (aO _ _)).trans (aO _ _)).trans (aO _ _)).trans (aO _ _)).trans (aO _ _)).trans (aO _ _);refine(BH (v:=c7) (aL (l _ _ _ _ _ _ _) g2) (bF _ _) rfl).mpr ?_;simp only[if_true];exact H _ ((j.trans (aO _ _)).trans (y.trans (l _ _ _ _ _ _ _)))
theorem Ht(k:Nat){c d e:D}{a:Hm}(j:BF k (tT c d e a.length (.int 0)) (a++[.lst []])=c4)(Q:D×Hm->Prop)
  (H:W (tS k (tT c d e a.length (.int 0)) (a++[.lst []])) λr=>r.1=.nx/\r.2.1=tT c d e a.length .non/\r.2.2[a.length]?=b4 (.lst [])/\∀b,r.2.2<+:b->Q (.str "done",b)):W (f (k+1) "_law_do" [c,d,e] a) Q:=by
 rw[Hr,W_fin];simp only[bA,bH,dZ,aM,aR,V3,V4];refine⟨W7 _,(SM j).mpr (bQ H ?_)⟩;rintro⟨_,_,l⟩ ⟨rfl,rfl,h,i⟩;unfold BG;dsimp only at h i;simp only[bA,b6,fW,cB,w_mRet,aU,dZ,aP,aM,aR,aF,aJ];refine⟨W7 _,(BH (v:=c7) (aL (aO _ _) h) (bF _ _) rfl).mpr ?_⟩;simp only[if_true,cB,aU,aR,aF,aJ,qH];exact i _ (aO _ _)
theorem BI{x m:Str}{r:RF}{c:ME}{ms:MA}{b:aG}{d:Hm}{Q:Xn×aG×Hm->Prop}(h:W (c b d) λp=>∃a fs,p.1=.loc a/\p.2[a]?=b4 (.ins x fs)/\fs.lookup m=c4/\W (ms b p.2) λq=>W (r (.loc a::q.1) q.2) λz=>Q (z.1,b,z.2)):W (eE x m r c ms b d) Q:=by unfold eE;rw[W_bind];refine bQ h λp ⟨a,fs,e,i,j,k⟩=>?_;rw[e];dsimp only;rw[i];dsimp only;rw[if_pos ⟨rfl,j⟩,W_bind];exact bQ k λq h=>W_map.mpr h
theorem BJ{x m:Str}{r:RF}{c:ME}{ms:MA}{b:aG}{d:Hm}(h:W (c b d) λp=>∃a fs,p.1=.loc a/\p.2[a]?=b4 (.ins x fs)/\fs.lookup m=c4/\W (ms b p.2) λq=>r (.loc a::q.1) q.2=c4):eE x m r c ms b d=none:=by obtain⟨p,l,a,fs,e,i,j,q,n,k⟩:=h;unfold eE;rw[l,Wl,e];dsimp only;rw[i];dsimp only;rw[if_pos ⟨rfl,j⟩,n,Wl,k];rfl
theorem BK{c:aG}{b:Option D}{a:Hm}{Q:Bool×Hm->Prop}(h:Q (c7,a)):W ((aN (aC (cL c6) (aA 1) (mC .non))) (b::b4 .non::c) a) Q:=by simp only[cB,aU,aR,aF,aJ,qH];exact h
theorem BM{d:aG}{b:Option D}{c:List D}{a:Hm}{Q:Bool×Hm->Prop}(h:Q (c6,a)):W ((aN (aC (cL c6) (aA 1) (mC .non))) (b::b4 (.tup c)::d) a) Q:=by simp only[cB,aU,aR,aF,aJ,sY];exact h
theorem Vv(k:Nat){c:Hm}{o b:Nat}{w h:Int}{d e:D}(i1:c[o]?=b4 (.ins "Folding" (eQ w h b))) (i2:c[b]?=b4 (.lst [d]))(Q:D×Hm->Prop)(H:∀a,c<+:a->Q (.str "refused",a)):W (f (k+4) "_law_do" [.loc o,.non,e] c) Q:=by refine Hs (k+3) (gH (w_rIf.mpr (BK ?_))) Q H;dsimp only;rw[if_pos rfl];refine gH (BI ?_);simp only[aF,aM];refine⟨o,_,rfl,aL (aO _ _) i1,rfl,Vq k (aL (aO _ _) i1) (aL (aO _ _) i2) _ ⟨rfl,trivial,aO _ _⟩⟩
theorem Vx(k:Nat){i:Hm}{o b:Nat}{w h:Int}{xs:List D}{d e m:D}(i1:i[o]?=b4 (.ins "Folding" (eQ w h b))) (i2:i[b]?=b4 (.lst (xs++[d]++[e])))(Q:D×Hm->Prop)
  (H:∀a,(∀(c:Nat)(y:C),c≠b->i[c]?=b4 y->a[c]?=b4 y)->a[b]?=b4 (.lst (xs++[d]))->Q (.str "done",a)):W (f (k+4) "_law_do" [.loc o,.non,m] i) Q:=by
 have j:=aL (aO i (C.lst [])) i1;have l:=aL (aO i (C.lst [])) i2;have bl:=(VY.mp i2).1;refine Ht (k+3) (rSeq_no' (tK (BK ?_)) λ_ _ _=>rfl) Q ?_
 ·dsimp only;rw[if_pos rfl];refine rSeq_no' (BJ ?_) λ_ _ _=>rfl;simp only[aF,aM];exact⟨o,_,rfl,j,rfl,Vp k j l⟩
 ·unfold tS;rw[b6];refine BK ?_;dsimp only;rw[if_pos rfl,bH];refine m3 ?_;simp only[aF,aM];refine⟨o,_,rfl,j,rfl,Vo (k+1) j l _ ⟨trivial,rfl,?_,λa p=>H a (λc y hc e=>aL p ?_) (aL p ?_)⟩⟩
  ·dsimp only;rw[V9 (by omega)];exact bF _ _
  ·rw[V9 (WL hc)];exact aL (aO _ _) e
  ·exact Wh (by rw[V5];omega)
theorem qQ{x y z t:D}{a:Hm}{Q:D×Hm->Prop}:W (aE (.tup [x,y,z,t]) (.int 0) a) Q↔Q (x,a):=W_some
theorem Hw{x y z t:D}{a:Hm}{Q:D×Hm->Prop}:W (aE (.tup [x,y,z,t]) (.int 1) a) Q↔Q (y,a):=W_some
theorem w9{x y z t:D}{a:Hm}{Q:D×Hm->Prop}:W (aE (.tup [x,y,z,t]) (.int 2) a) Q↔Q (z,a):=W_some
theorem xA{x y z t:D}{a:Hm}{Q:D×Hm->Prop}:W (aE (.tup [x,y,z,t]) (.int 3) a) Q↔Q (t,a):=W_some
theorem Hx(k:Nat){l:Hm}{o b:Nat}{w h:Int}{xs:List D}{d U:D}{F:Int×Int->Ly}{qs:List (Int×Int)}{G:Gr}(nd:qs.Nodup)(H:qs.length<=36)(i1:l[o]?=b4 (.ins "Folding" (eQ w h b))) (i2:l[b]?=b4 (.lst (xs++[d])))(K:xs.length<=1000)(S:StZ l b d F qs G)(A:Gd qs F G)
  {e:Int×Int}{u n:Int}(E:OnL e u n)(I:n%4=0)(c a ov:Bool)(Q:D×Hm->Prop)
  (M:m4 G (a7 u n (c||a))=c7->∀i,l<+:i->Q (.str "refused",i))
  (N:m4 G (a7 u n (c||a))=c6->∀m i,(∀(c:Nat)(y:C),c≠b->l[c]?=b4 y->i[c]?=b4 y)->i[b]?=b4 (.lst (xs++[d]++[m]))->(∀B:List Nat,(∀c∈B,c<l.length)->StB i B m (b7 u n (c||a) F) qs (lL (a7 u n (c||a)) (aV (bI u n)) (c||ov) G))->Q (.str "done",i)) :
  W (f (k+6) "_law_do" [.loc o,.tup [PP e,U,.bl a,.bl ov],.bl c] l) Q:=by
 have r:l<+:l++[C.lst []]:=aO _ _;have q:=aL r i1;have J:=aL r i2;have bl:=(VY.mp i2).1;obtain⟨Y,X⟩:=U6 (k+1) H q J (S.more r) A E I (a:=c||a) (ov:=c||ov);cases hc:m4 G (a7 u n (c||a))with
 |true=>
  obtain⟨Z,x,L⟩:=Y hc;refine Hs (k+5) (gH (w_rIf.mpr (BM ?_))) Q (M hc);dsimp only;rw[if_neg Wu];refine gH (w_rIf.mpr ?_);simp only[gP,aF,aJ,eX];cases c with
  |true=>rw[if_pos rfl];refine gH (BI ?_);simp only[aF];refine⟨o,_,rfl,q,rfl,?_⟩;simp only[aP,aM,aU,aR,aF,aJ,qQ];exact⟨_,x,rfl,trivial,r.trans L⟩|false=>rw[if_neg Wu];refine gH (BI ?_);simp only[aF];refine⟨o,_,rfl,q,rfl,?_⟩;simp only[aP,aM,aU,aR,aF,aJ,qQ,w9,xA];exact⟨_,x,rfl,trivial,r.trans L⟩
 |false=>
  have x:=X hc;have aS:∀m j,(∀(c:Nat)(y:C),c≠b->(l++[C.lst []])[c]?=b4 y->j[c]?=b4 y)->j[b]?=b4 (.lst (xs++[d]++[m]))->(∀B:List Nat,(∀c∈B,c<(l++[C.lst []]).length)->StB j B m (b7 u n (c||a) F) qs (lL (a7 u n (c||a)) (aV (bI u n)) (c||ov) G))->
    j[l.length]?=b4 (.lst [])/\∀i,j<+:i->Q (.str "done",i):=λm j s z v=>by
   refine⟨s _ _ (by omega) (bF _ _),λi p=>N hc m i (λc y O R=>aL p (s c y O (aL r R))) (aL p z) λB T=>(v B λc hc=>?_).more p⟩;have:=T c hc;rw[V5];omega
  refine Ht (k+5) (rSeq_no' (tK (BM ?_)) λ_ _ _=>rfl) Q ?_
  ·dsimp only;rw[if_neg Wu];refine rSeq_no' (tK ?_) λ_ _ _=>rfl;simp only[gP,aF,aJ,eX];cases c with
   |true=>rw[if_pos rfl];refine rSeq_no' (BJ ?_) λ_ _ _=>rfl;simp only[aF];refine⟨o,_,rfl,q,rfl,?_⟩;simp only[aP,aM,aU,aR,aF,aJ,qQ];exact x|false=>rw[if_neg Wu];refine rSeq_no' (BJ ?_) λ_ _ _=>rfl;simp only[aF];refine⟨o,_,rfl,q,rfl,?_⟩;simp only[aP,aM,aU,aR,aF,aJ,qQ,w9,xA];exact x
  ·unfold tS;rw[b6];refine BM ?_;dsimp only;rw[if_neg Wu,b6];simp only[gP,aF,aJ,eX];cases c with
   |true=>rw[if_pos rfl,bH];refine m3 ?_;simp only[aF];refine⟨o,_,rfl,q,rfl,?_⟩;simp only[aP,aM,aU,aR,aF,aJ,qQ];refine Hl k nd H q J K (S.more r) A E I hc _ λm j s z v=>?_;exact⟨trivial,rfl,aS m j s z v⟩|false=>rw[if_neg Wu,bH];refine m3 ?_;simp only[aF];refine⟨o,_,rfl,q,rfl,?_⟩;simp only[aP,aM,aU,aR,aF,aJ,qQ,w9,xA];refine Hl k nd H q J K (S.more r) A E I hc _ λm j s z v=>?_;exact⟨trivial,rfl,aS m j s z v⟩
theorem Vy(a:Hm)(A:Ly):cR 8 a (LD A) (LD A)=b4 true:=by show b4 (A.a==A.a&&(A.b==A.b&&(A.c==A.c&&(A.d==A.d&&(A.e==A.e&&(A.g==A.g&&c7))))))=_;simp
theorem Hy(a:Hm){F:Int×Int->Ly}{qs:List (Int×Int)}(nd:qs.Nodup):∀l:List (Int×Int),(∀q∈l,q∈qs)->iL a (a9 (λq=>LD (F q)) qs) (a9 (λq=>LD (F q)) l)=b4 c7
 |[],_=>rfl|q::l,h=>by have b:=Bi (v:=λq=>LD (F q)) nd (h q (WU ..));have d:=Hy a (F:=F) nd l λx c=>h x (Wq _ c);show iL a (a9 (λq=>LD (F q)) qs) ((cI q,LD (F q))::a9 (λq=>LD (F q)) l)=b4 c7;unfold iL;rw[b];dsimp only;rw[Vy,d];rfl
theorem Hz{a:Hm}{Y:Zr}(j:(Y.map (·.1)).Nodup)(b:∀y∈Y,a[y.2.2]?=b4 (.lst (y.2.1.map PP))):∀l:Zr,(∀z∈l,a[z.2.2]?=b4 (.lst (z.2.1.map PP))/\(z.1,z.2.1)∈GZ Y)->iL a (aW Y) (aW l)=b4 c7
 |[],_=>rfl|z::l,h=>by obtain⟨n,o⟩:=h z (WU ..);obtain⟨y,i,e⟩:=Wt.mp o;have q:=Hz j b l λx p=>h x (Wq _ p);have k:y.1=z.1:=congrArg (·.1) e;have m:y.2.1=z.2.1:=congrArg (·.2) e;have d:=tG j i;rw[k]at d;have c:=b y i;rw[m]at c;show iL a (aW Y) ((cI z.1,.loc z.2.2)::aW l)=b4 c7;unfold iL;rw[d];dsimp only;rw[Sx n c,q,beq_self_eq_true];rfl
theorem HA{e:Hm}{a b:Nat}{c d:List (List Int×D)}{Q:D×Hm->Prop}(h:e[a]?=b4 (.dT c))(i:e[b]?=b4 (.dT d))(k:c.length=d.length)(j:iL e d c=b4 c7):W (iB c6 (.loc a) (.loc b) e) Q↔Q (.bl c7,e):=by
 have:iB c6 (.loc a) (.loc b) e=b4 (.bl c7,e):=by simp only[iB,h,i,if_pos k,j,WE];rfl
 rw[this];exact W_some
theorem Vz(k:Nat){a:Hm}{o b:Nat}{w h:Int}{xs:List D}{d r:D}{F:Int×Int->Ly}{qs:List (Int×Int)}{G:Gr}(nd:qs.Nodup)(R:qs.length<=36)(m:qs≠[])(L:(qs.map λq=>Tb.hashT (cI q)).Nodup)(i1:a[o]?=b4 (.ins "Folding" (eQ w h b))) (i2:a[b]?=b4 (.lst (xs++[d])))(S:StZ a b d F qs G)(v:StZ a b r F qs G)(u:Gd qs F G)
  (Q:D×Hm->Prop)(H:∀i,a<+:i->Q (.bl c7,i)):W (f (k+3) "_law_stands" [.loc o,r] a) Q:=by
 obtain⟨l,p,Z,rfl,B,I,g2,A,X⟩:=S.ex;obtain⟨T,p',Y,rfl,E,n,K,x,N⟩:=v.ex;subst A;obtain⟨_,_,U,O⟩:=u.key;rw[Ts,W_fin,w_mRet,jX,aU];refine m3 ?_;simp only[aF,aM];refine⟨o,_,rfl,i1,rfl,?_⟩;refine U5 k i1 i2 I g2 (by omega) _ ?_;generalize hν:a++(C.dT (aW (cK (a.length+1) Z))::Z.map λz=>C.lst (z.2.1.map PP))=ν;have c:a<+:ν:=by rw[<- hν];exact XZ _ _
 have J:Pz ν a.length a.length (cK (a.length+1) Z):=by
  refine⟨?_,by rw[wQ (mZ _ _)];exact I.kd,λz j=>?_⟩
  ·rw[<- hν,W2 (Wa _),Zq];rfl
  ·have:=wR Z (a.length+1) (a++[.dT (aW (cK (a.length+1) Z))]) [] (by rw[V5];rfl) z j;refine⟨by omega,?_⟩;rw[W4,XX]at this;rw[<- hν];exact this.2
 have e:GZ (cK (a.length+1) Z)=GZ Y:=by rw[mZ,x]
 simp only[aU,aR,aF,aJ,gQ];refine(HA J.dic (aL c K) (by rw[tH,tH,<- lK,<- lK,e]) (Hz n.kd (λy M=>aL c (n.at_ y M)) _ λz j=>⟨(J.at_ z j).2,by rw[<- e];exact Wt.mpr ⟨z,j,rfl⟩⟩)).mpr ?_;dsimp only;rw[if_pos rfl];refine m3 ?_;simp only[aF,aM];refine⟨o,_,rfl,aL c i1,rfl,U4 (k+1) m L (aL c i1) (aL c i2) (aL c B) _ ?_⟩;simp only[aU,aR,aF,aJ,j4];have s:=c.trans (aO ν (C.dT (a9 (λq=>LD (F q)) qs)));exact(HA (bF _ _) (aL s E) rfl (Hy _ nd qs λ_ h=>h)).mpr (H _ s)
structure Sid(μ:Hm)(B:List Nat)(w h:Int)(o b s:Nat)(ps:List (D×D)):Prop where
 i1:μ[o]?=b4 (.ins "Folding" (eQ w h b))
 i2:μ[b]?=b4 (.lst (ps.map (·.1)))
 i3:μ[s]?=b4 (.lst (ps.map (·.2)))
 st:∀p∈ps,∃F G,StB μ B p.1 F (dO w h) G/\StB μ B p.2 F (dO w h) G/\Gd (dO w h) F G
 ne:ps≠[]
theorem Sid.more{c a:Hm}{B:List Nat}{w h:Int}{o b s:Nat}{ps:List (D×D)}(I:Sid c B w h o b s ps)(p:c<+:a):Sid a B w h o b s ps:=
 ⟨aL p I.i1,aL p I.i2,aL p I.i3,λx j=>by obtain⟨F,G,d,e,i⟩:=I.st x j;exact⟨F,G,d.more p,e.more p,i⟩,I.ne⟩
theorem Sid.keep{e a:Hm}{B:List Nat}{w h:Int}{o b s:Nat}{ps:List (D×D)}(I:Sid e B w h o b s ps)(hB:∀c∈B,∃xs,e[c]?=b4 (.lst xs)){ps':List (D×D)}(j:a[o]?=b4 (.ins "Folding" (eQ w h b))) (g2:a[b]?=b4 (.lst (ps'.map (·.1))))(k:a[s]?=b4 (.lst (ps'.map (·.2))))(ne:ps'≠[])
  (i:∀(c:Nat)(y:C),c∉B->e[c]?=b4 y->a[c]?=b4 y)(q:∀p∈ps',p∈ps\/∃F G,StB a B p.1 F (dO w h) G/\StB a B p.2 F (dO w h) G/\Gd (dO w h) F G):Sid a B w h o b s ps':=
 ⟨j,g2,k,λp d=>(q p d).elim (λd=>by obtain⟨F,G,l,m,n⟩:=I.st p d;exact⟨F,G,l.keep hB i,m.keep hB i,n⟩) id,ne⟩
noncomputable def oF(k:Nat):MS:=aI (aK 8 (cG "Folding" "many" (f k "Folding.many") (aA 0) aD)) (a6 (iV (kI (aH gJ (aB (aA 8) (aB (mC (.ty "bool")) aD)))) (aC (aY c6) (aA 8) (aC cE (aH cY (aB (aA 1) aD)) (mC (.int 1))))))
theorem HB(k:Nat){a:Hm}{o b s:Nat}{w h:Int}{ps:List (D×D)}(ne:ps≠[])(i1:a[o]?=b4 (.ins "Folding" (eQ w h b))) (i2:a[b]?=b4 (.lst (ps.map (·.1))))(i3:a[s]?=b4 (.lst (ps.map (·.2)))){c d e i j l m:Option D}(Q:D×Hm->Prop)(H:Q (.bl c7,a)) :
  W (aS (oF (k+1) [b4 (.loc o),b4 (.loc s),c,d,e,i,j,l,m] a)) Q:=by
 obtain⟨ps,p,rfl⟩:∃n x,ps=n++[x]:=⟨_,_,(YK ne).symm⟩;rw[Wf]at i2 i3;unfold oF;rw[W_fin,bA,bH];refine m3 ?_;simp only[aF,aM];refine⟨o,_,rfl,i1,rfl,Bz k i1 i2 _ ?_⟩;simp only[V3,V4,w_mRet,jX,AX,bC,aP,aM,aR,aF,aJ,FY,X5,if_true,aU,lH i3,jZ,w_eqI];have:(((ps.map (·.1)).length:Nat):Int)=(((ps.map (·.2)++[p].map (·.2)).length:Nat):Int)-1:=by simp only[V5,V0,WW];omega
 rw[this,beq_self_eq_true];exact H
noncomputable def m5(k:Nat):MS:=aI (aX (dU (aN (aC (cL c6) (aA 4) (mC .non))) (aN (aC fS (aH cY (aB (aA 1) aD)) (mC (.int 1))))) (cP (dJ jT (aA 1) aD)) a8) (aI (aX (aN (aC (cL c7) (aA 6) (mC .non))) (cP (dJ fF (aA 1) (aB (aA 6) aD))) a8) (oF k))
noncomputable def tU(k:Nat):MS:=aI (aX (aN (aC (aY c7) (aH (f k "_law_do") (aB (aA 0) (aB (aA 4) (aB (aA 5) aD)))) (aA 7))) (a6 (mC (.bl c6))) a8) (m5 k)
noncomputable def qR:MS:=aX (fD (dU (aN (aC (cL c6) (aA 4) (mC .non))) (aN (aC (aY c6) (aH cY (aB (aA 1) aD)) (mC (.int 1))))) (dU (aN (aC (cL c7) (aA 4) (mC .non))) (aN (aC (cL c6) (aA 6) (mC .non))))) (aK 7 (mC (.str "refused"))) a8
noncomputable def tV(k:Nat):MS:=aI (aK 7 (mC (.str "done"))) (aI qR (tU k))
theorem wC{x y:Str}{a:Hm}{Q:D×Hm->Prop}:W (aY c7 (.str x) (.str y) a) Q↔Q (.bl (!(x==y)),a):=W_some
theorem xB{b:Hm}{a:Nat}{xs:List D}(h:b[a]?=b4 (.lst xs)):jS b (.loc a)=true:=by simp only[jS,h]
section
variable(k:Nat){μ:Hm}{B:List Nat}{w h:Int}{o b s:Nat}{ps:List (D×D)}(hw:1<=w/\w<=3)(hh:1<=h/\h<=3)(I:Sid μ B w h o b s ps)(hps:ps.length<=11)(hB:∀c∈B,∃xs,μ[c]?=b4 (.lst xs))(bB:b∈B)(sB:s∈B)(bs:b≠s)(Q:D×Hm->Prop)
 (H:∀ps' μ',(∀(c:Nat)(y:C),c≠b->c≠s->μ[c]?=b4 y->μ'[c]?=b4 y)->Sid μ' B w h o b s ps'->ps'.length<=ps.length+1->Q (.bl c7,μ'))
include I bB sB bs H hB
theorem HC{a:Hm}(d:μ<+:a){i j l m n p q:Option D}:W (aS (oF (k+1) [b4 (.loc o),b4 (.loc s),i,j,l,m,n,p,q] a)) Q:=
 HB k I.ne (aL d I.i1) (aL d I.i2) (aL d I.i3) _ (H ps a (λ_ _ _ _ e=>aL d e) (I.more d) (by omega))
theorem HD{ps':List (D×D)}{a:Hm}(ne:ps'≠[])(d:∀(c:Nat)(y:C),c≠b->c≠s->μ[c]?=b4 y->a[c]?=b4 y)(g2:a[b]?=b4 (.lst (ps'.map (·.1))))(j:a[s]?=b4 (.lst (ps'.map (·.2))))(x:ps'.length<=ps.length+1)(z:∀p∈ps',p∈ps\/∃F G,StB a B p.1 F (dO w h) G/\StB a B p.2 F (dO w h) G/\Gd (dO w h) F G)
  {l m n q r u v:Option D}:W (aS (oF (k+1) [b4 (.loc o),b4 (.loc s),l,m,n,q,r,u,v] a)) Q:=by
 have A:o≠b:=λe=>by have:=I.i1;rw[e,I.i2]at this;cases this
 have E:o≠s:=λe=>by have:=I.i1;rw[e,I.i3]at this;cases this
 have i:=d o _ A E I.i1;exact HB k ne i g2 j _ (H ps' a d (I.keep hB i g2 j ne (λc y hc e=>d c y (λe=>hc (e▸bB)) (λe=>hc (e▸sB)) e) z) x)
theorem VA{E G:Option D}{J:D}:W (aS (tV (k+4) [b4 (.loc o),b4 (.loc s),E,G,b4 .non,b4 J,b4 .non,c4,c4] μ)) Q:=by
 obtain⟨ps,p,rfl⟩:∃xs x,ps=xs++[x]:=⟨_,_,(YK I.ne).symm⟩;have u:=I.i2;have d:=I.i3;rw[W_fin];unfold tV;rw[bA,bH,aR];dsimp only[V3,V4];rw[bA];unfold qR;simp only[b6,mP,fW,cB,aU,bC,aP,aM,aR,aF,aJ,qH,mS,if_true,V6,if_false,lH d,w_eqI];rcases List.eq_nil_or_concat ps with rfl|⟨ps,q,rfl⟩
 ·have r:(((([]++[p]:List (D×D)).map (·.2)).length:Nat):Int)=1:=rfl;rw[r];simp only[beq_self_eq_true,if_true,bH,aR,V3,V4];unfold tU;simp only[bA,b6,cB,aU,bC,aP,aM,aF,aJ];refine Vv k I.i1 u _ λn z=>?_;have a:=aL z d;simp only[wC,beq_self_eq_true,W9,V6,if_false,cH];unfold m5;simp only[bA,b6,fW,beq_self_eq_true,W9,V6,if_false,cH,aF,aJ,qH,mS,if_true,bC,aP,aM,aR,aU,cB,lH a,qF];rw[r];simp only[Int.lt_irrefl,decide_false,V6,if_false,cH,mS,aF,aJ];rw[<- W_fin];exact HC (k+3) I hB bB sB bs Q H z
 ·rw[List.concat_eq_append]at *;have v:((((ps++[q]++[p]).map (·.2)).length:Nat):Int)=ps.length+2:=by simp only[V0,V5,WW];omega
  rw[v];have A:((ps.length:Int)+2==1)=false:=by rw[beq_eq_false_iff_ne];omega
  rw[A];simp only[V6,if_false,cH,mS,aF,aJ];unfold tU;simp only[bA,b6,cB,aU,bC,aP,aM,aF,aJ];have i:μ[b]?=b4 (.lst (ps.map (·.1)++[q.1]++[p.1])):=by rw[u,Wf,Wf];rfl
  have a:μ[s]?=b4 (.lst (ps.map (·.2)++[q.2]++[p.2])):=by rw[d,Wf,Wf];rfl
  refine Vx k I.i1 i _ λn m K=>?_;have j:=m s _ (WL bs) a;have l:=m s _ (WL bs) d;simp only[wC,beq_self_eq_true,W9,V6,if_false,cH];unfold m5;simp only[bA,b6,fW,beq_self_eq_true,W9,V6,if_false,cH,aF,aJ,qH,mS,if_true,bC,aP,aM,aR,aU,cB,lH l,qF];rw[v,decide_eq_true (by omega)];simp only[if_true,lF];refine mR ?_;simp only[aF,aJ,aM];refine⟨xB j,(Hh j).mpr ?_⟩;simp only[bA,b6,cB,aU,aR,aF,aJ,mS,V6,if_false,cH];rw[<- W_fin];have O:=(VY.mp j).1;refine HD (k+3) I hB bB sB bs Q H (ps':=ps++[q]) (by simp) (λc y L M e=>?_) ?_ ?_ (by simp only[V5,WW];omega) λx N=>.inl (YX _ N)
  ·rw[V9 (WL M)];exact m c y L e
  ·rw[V9 (WL bs),K,Wf];rfl
  ·rw[Wh O,Wf];rfl
end
noncomputable def xC(k:Nat):MS:=aX (dU (aN (aC (cL c7) (aA 4) (mC .non))) (cA (aA 5))) (aK 6 (aH (f k "_law_folded") (aB (aC aE (aA 1) (bW (mC (.int 1)))) (aB (aC aE (aA 4) (mC (.int 1))) (aB (mC (.bl c7)) (aB (mC (.bl c7)) aD)))))) (aX (aN (aC (cL c7) (aA 4) (mC .non))) (aK 6 (aH (f k "_law_folded") (aB (aC aE (aA 1) (bW (mC (.int 1)))) (aB (aC aE (aA 4) (mC (.int 1))) (aB (aC aE (aA 4) (mC (.int 2))) (aB (aC aE (aA 4) (mC (.int 3))) aD)))))) a8)
noncomputable def BN(k:Nat):MS:=aI (aK 6 (mC .non)) (aI (xC k) (tV k))
noncomputable def HE(k:Nat):MS:=aX (aN (aC fS (aC bL (aA 2) (mC (.int 3))) (mC (.int 0)))) (aK 4 (aH (f k "_law_plan") (aB (aC aE (aA 1) (bW (mC (.int 1)))) (aB (aA 2) (aB (aA 3) aD))))) a8
theorem VB(k:Nat)(a b c d:D)(e:Hm):f (k+1) "_law_deed" [a,b,c,d] e=aS ((aI (aK 4 (mC .non)) (aI (aK 5 (aC (aY c6) (aC bL (aC dD (aA 2) (mC (.int 1120))) (mC (.int 4))) (mC (.int 0)))) (aI (HE k) (BN k)))) [b4 a,b4 b,b4 c,b4 d,c4,c4,c4,c4,c4] e):=Tr k a b c d e
noncomputable abbrev HF(e:Int×Int)(u n:Int)(a ov:Bool):D:=.tup [PP e,.tup [.int u,.int n],.bl a,.bl ov]
theorem VC(k:Nat){o s:Nat}{v b:Option D}{e:Int×Int}{u n:Int}{a ov c:Bool}{xs:List D}{y:D}{d:Hm}(i3:d[s]?=b4 (.lst (xs++[y])))(Q:Fl×aG×Hm->Prop)
  (h:W (f k "_law_folded" [y,.tup [.int u,.int n],.bl (c||a),.bl (c||ov)] d) λr=>Q (.nx,[b4 (.loc o),b4 (.loc s),v,b,b4 (HF e u n a ov),b4 (.bl c),b4 r.1,c4,c4],r.2)) :
  W (xC k [b4 (.loc o),b4 (.loc s),v,b,b4 (HF e u n a ov),b4 (.bl c),b4 .non,c4,c4] d) Q:=by
 unfold xC;simp only[b6,fW,cB,gP,aU,aR,aF,aJ,wG,if_true,eX];cases c with
 |true=>simp only[if_true,bH,bC,aP,aM,aU,aR,mQ,aF,aJ];refine(fM i3 (tP _ _)).mpr ?_;simp only[Hw];exact h|false=>simp only[V6,if_false,bH,bC,aP,aM,aU,aR,mQ,aF,aJ];refine(fM i3 (tP _ _)).mpr ?_;simp only[Hw,w9,xA];exact h
theorem VD{a b c d e i:Option D}{j:List D}{k:Hm}(Q:Fl×aG×Hm->Prop)(h:Q (.nx,[a,b,c,d,b4 (.tup j),e,b4 .non,b4 (.str "refused"),i],k)):W (qR [a,b,c,d,b4 (.tup j),e,b4 .non,b4 (.str "done"),i] k) Q:=by unfold qR;simp only[b6,mP,fW,cB,aU,aR,aF,aJ,sY,wG,qH,if_true,V6,if_false,bH,V3,V4];exact h
theorem VE{a b c d e i:Option D}{j us:List D}{k:Hm}(Q:Fl×aG×Hm->Prop)(h:Q (.nx,[a,b,c,d,b4 (.tup j),e,b4 (.tup us),b4 (.str "done"),i],k)):W (qR [a,b,c,d,b4 (.tup j),e,b4 (.tup us),b4 (.str "done"),i] k) Q:=by unfold qR;simp only[b6,mP,fW,cB,aU,aR,aF,aJ,sY,wG,V6,if_false,if_true,cH];exact h
theorem VF(k:Nat){a b c d e i j:Option D}{l:List D}{m:Hm}(Q:Fl×aG×Hm->Prop)(h:W (oF k [a,b,c,d,b4 (.tup l),e,b4 .non,i,j] m) Q):W (m5 k [a,b,c,d,b4 (.tup l),e,b4 .non,i,j] m) Q:=by unfold m5;simp only[bA,b6,fW,cB,aU,aR,aF,aJ,sY,mS,V6,if_false,cH];exact h
theorem VG(k:Nat){b c d e i j:Option D}{s:Nat}{l us xs:List D}{a:Hm}(g:a[s]?=b4 (.lst xs))(m:xs.length<1000)(Q:Fl×aG×Hm->Prop)(h:W (oF k [b,b4 (.loc s),c,d,b4 (.tup l),e,b4 (.tup us),i,j] (a.set s (.lst (xs++[.tup us])))) Q):W (m5 k [b,b4 (.loc s),c,d,b4 (.tup l),e,b4 (.tup us),i,j] a) Q:=by unfold m5;simp only[bA,b6,fW,cB,aU,aR,aF,aJ,sY,wG,V6,if_false,if_true,cH,lF];refine mR ?_;simp only[aF,aJ,aP,aM];exact⟨xB g,(sW g (by rw[W6];omega)).mpr h⟩
theorem HG(k:Nat){a d i j b c l:Option D}{m n o:D}{x:Str}{p:Hm}(Q:Fl×aG×Hm->Prop)(q:a=b4 m)(s:b=b4 n)(u:c=b4 o)(h:W (f k "_law_do" [m,n,o] p) λr=>r.1=.str x/\W (m5 k [a,d,i,j,b,c,l,b4 (.str x),c4] r.2) Q):W (tU k [a,d,i,j,b,c,l,b4 (.str x),c4] p) Q:=by subst q s u;unfold tU;rw[bA,b6];simp only[cB,aU,bC,aP,aM,aF,aJ];refine bQ h λr ⟨e,h⟩=>?_;rw[e];simp only[wC,beq_self_eq_true,W9,V6,if_false,cH];exact h
theorem VH(k:Nat){L:Hm}{B:List Nat}{w h:Int}{o b s:Nat}{ps:List (D×D)}(hw:1<=w/\w<=3)(hh:1<=h/\h<=3)(I:Sid L B w h o b s ps)(hps:ps.length<=11)(hB:∀c∈B,∃xs,L[c]?=b4 (.lst xs))(K:b∈B)(T:s∈B)(bs:b≠s)(v far:Int)(Q:D×Hm->Prop)
  (H:∀R A,(∀(c:Nat)(y:C),c≠b->c≠s->L[c]?=b4 y->A[c]?=b4 y)->Sid A B w h o b s R->R.length<=ps.length+1->Q (.bl c7,A)):W (f (k+7) "_law_deed" [.loc o,.loc s,.int v,.int far] L) Q:=by
 obtain⟨_,q2,q3,q4,q5,_⟩:=tL w (j9 hw) h (j9 hh);rw[VB,W_fin];rw[bA,bH,aR,bA,bH];simp only[aU,aR,aF,aJ,V3,V4,iN (show(0:Int)<1120 by decide) (by decide),dN (show(0:Int)<4 by decide),w_eqI];generalize(v/1120%4==0)=c;rw[bA];unfold HE;simp only[b6,cB,aU,aR,aF,aJ,dN (show(0:Int)<3 by decide),qF];by_cases hv:0<v%3;case neg=>rw[decide_eq_false hv];simp only[V6,if_false,cH];unfold BN;rw[bA,bH,aR,bA];unfold xC;simp only[b6,fW,cB,aU,aR,aF,aJ,V3,V4,mS,V6,if_false,cH];rw[<- W_fin];exact VA (k+2) I hB K T bs Q H
 case pos=>
  rw[decide_eq_true hv];simp only[if_true,bH,bC,aP,aM,aU,aR,mQ,aF,aJ];obtain⟨ps,p,rfl⟩:∃xs x,ps=xs++[x]:=⟨_,_,(YK I.ne).symm⟩;rw[V5,WW]at hps;obtain⟨F,G,S1,S2,X⟩:=I.st p (WV _ (a2r p));have i2:L[b]?=b4 (.lst (ps.map (·.1)++[p.1])):=by rw[I.i2,Wf];rfl
  have i3:L[s]?=b4 (.lst (ps.map (·.2)++[p.2])):=by rw[I.i3,Wf];rfl
  refine(fM i3 (tP _ _)).mpr ?_;obtain⟨l,pp,Z,e2,g1,J,g2,Y,nb⟩:=S2.ex;have G2:Gd (dO w h) F (GZ Z):=by rw[Y];exact X
  obtain⟨kq,_,lZ,bZ⟩:=G2.key;have zp:0<Z.length:=by
   cases Z with
   |nil=>obtain⟨q,hq⟩:=a2f _ q3;exact absurd (kq q hq) (by simp)|cons _ _=>exact a2O _
  rw[e2];refine Vh (k+4) g2 zp _ _ _ λe u n a ov U r E hn=>?_;have i3':=aL r i3;unfold BN;rw[bA,bH,aR];dsimp only[V3,V4];rw[bA];refine VC (k+6) i3' _ ?_;have bm:b<U.length:=(VY.mp (aL r i2)).1;have BL:∀c∈B,c<U.length:=λc hc=>by obtain⟨xs,i⟩:=hB c hc;exact(VY.mp (aL r i)).1
  rw[e2];refine UW (k+4) G2.di q4 (by omega) q3 q5 (J.more r) (aL r g2) (aL r g1) (by omega) (λz hz=>by have:=bZ z hz;omega) kq E.u0 _ (λN j p2=>?_) λN Sg l' p' j p2 _ gl PJ eS=>?_
  ·rw[wZ,Y]at N;have d:=r.trans p2;unfold tV;rw[bA,bH,aR];dsimp only[V3,V4];rw[bA];refine VD _ (HG (k+6) _ rfl rfl rfl ?_);refine Hx k q4 q2 (aL d I.i1) (aL d i2) (by rw[V0];omega) ((S1.st K).more d) X E hn c a ov _ (λ_ m p3=>⟨rfl,VF _ _ ?_⟩) λh=>absurd (N.symm.trans h) (by decide);rw[<- W_fin];exact HC (k+5) I hB K T bs Q H (d.trans p3)
  ·rw[wZ,Y]at N;have d:=r.trans p2;have T2:=StB.new (B:=B) gl PJ BL;rw[eS,Y]at T2;unfold tV;rw[bA,bH,aR];dsimp only[V3,V4];rw[bA];refine VE _ (HG (k+6) _ rfl rfl rfl ?_);refine Hx k q4 q2 (aL d I.i1) (aL d i2) (by rw[V0];omega) ((S1.st K).more d) X E hn c a ov _ (λh=>absurd (N.symm.trans h) (by decide)) λ_ d' m kp gb S'=>⟨rfl,?_⟩;have j3:=kp s _ (WL bs) (aL d i3);have sl:=(VY.mp j3).1;have M:∀c∈B,∃xs,j[c]?=b4 (.lst xs):=λc hc=>by obtain⟨xs,i⟩:=hB c hc;exact⟨xs,aL d i⟩
   refine VG _ j3 (by rw[V5,V0,WW];omega) _ ?_;have O:∀(c:Nat)(y:C),c≠b->c≠s->j[c]?=b4 y->(m.set s (.lst (ps.map (·.2)++[p.2]++[.tup [.loc l',.loc p']])))[c]?=b4 y:=λc y h1 h2 e=>by rw[V9 (WL h2)];exact kp c y h1 e
   have kB:∀(c:Nat)(y:C),c∉B->j[c]?=b4 y->(m.set s (.lst (ps.map (·.2)++[p.2]++[.tup [.loc l',.loc p']])))[c]?=b4 y:=λc y hc e=>O c y (λe=>hc (e▸K)) (λe=>hc (e▸T)) e;have B3:=S' B λc hc=>Wy (BL c hc) p2.length_le;have hB3:∀c∈B,∃xs,m[c]?=b4 (.lst xs):=λc hc=>by
    by_cases e:c=b
    ·exact⟨_,e▸gb⟩
    ·obtain⟨xs,i⟩:=M c hc;exact⟨xs,kp c _ e i⟩
   rw[<- W_fin];refine HD (k+5) I hB K T bs Q H (ps':=ps++[p]++[(d',.tup [.loc l',.loc p'])]) (by simp) (λc y h1 h2 e=>O c y h1 h2 (aL d e)) ?_ ?_ (by simp only[V5,WW];omega) λx i=>?_
   ·rw[V9 (WL bs),gb,Wf,Wf];rfl
   ·rw[Wh sl,Wf,Wf];rfl
   ·rcases XF.mp i with i|i
    ·exact .inl i
    ·rw[WS.mp i];exact .inr ⟨_,_,B3.keep hB3 λc y hc e=>by rw[V9 (λ(x:s=c)=>hc (x▸T))];exact e,T2.keep M kB,X.fold hn (c||a) (c||ov)⟩
structure Sd where
 (o b s:Nat)(w h:Int)(ps:List (D×D))
noncomputable def Bs(a b:Nat)(L:List Sd):List Nat:=a::b::L.flatMap λx=>[x.b,x.s]
structure Two(μ:Hm)(fl sl:Nat)(L:List Sd):Prop where
 a1:μ[fl]?=b4 (.lst (L.map λx=>.loc x.o))
 a2:μ[sl]?=b4 (.lst (L.map λx=>.loc x.s))
 nd:(Bs fl sl L).Nodup
 sz:∀x∈L,(1<=x.w/\x.w<=3)/\(1<=x.h/\x.h<=3)/\x.ps.length<=12
 si:∀x∈L,Sid μ (Bs fl sl L) x.w x.h x.o x.b x.s x.ps
theorem StB.mono{b:Hm}{B a:List Nat}{d:D}{F:Int×Int->Ly}{qs:List (Int×Int)}{G:Gr}(S:StB b B d F qs G)(h:∀c∈a,c∈B):StB b a d F qs G:=by obtain⟨l,p,Z,e,j,I,g2,i,n⟩:=S.ex;exact⟨l,p,Z,e,j,I,g2,i,λz k m=>n z k (h _ m)⟩
theorem Two.more{d a:Hm}{b c:Nat}{L:List Sd}(T:Two d b c L)(p:d<+:a):Two a b c L:=⟨aL p T.a1,aL p T.a2,T.nd,T.sz,λx e=>(T.si x e).more p⟩
theorem Two.lst{e:Hm}{a d:Nat}{L:List Sd}(T:Two e a d L):∀c∈Bs a d L,∃xs,e[c]?=b4 (.lst xs):=λc hc=>by
 rcases Wr.mp hc with rfl|hc
 ·exact⟨_,T.a1⟩
 ·rcases Wr.mp hc with rfl|hc
  ·exact⟨_,T.a2⟩
  ·obtain⟨x,b,hc⟩:=Z7.mp hc;rcases Wr.mp hc with rfl|hc
   ·exact⟨_,(T.si x b).i2⟩
   ·rw[WS.mp hc];exact⟨_,(T.si x b).i3⟩
theorem qS{a b:Nat}{L:List Sd}{x:Sd}(h:x∈L):x.b∈Bs a b L/\x.s∈Bs a b L:=by have m:∀c∈[x.b,x.s],c∈Bs a b L:=λc hc=>Wq _ (Wq _ (Z7.mpr ⟨x,h,hc⟩));exact⟨m _ (by simp),m _ (by simp)⟩
theorem HH{a b:Nat}{L M:List Sd}{x:Sd}{ps:List (D×D)}:Bs a b (L++⟨x.o,x.b,x.s,x.w,x.h,ps⟩::M)=Bs a b (L++x::M):=by unfold Bs;simp only[Yp,Zi]
theorem Two.upd{r d:Hm}{n o:Nat}{L M:List Sd}{x:Sd}(T:Two r n o (L++x::M)){ps:List (D×D)}(A:ps.length<=12)(i:∀(c:Nat)(y:C),c≠x.b->c≠x.s->r[c]?=b4 y->d[c]?=b4 y)(S:Sid d (Bs n o (L++x::M)) x.w x.h x.o x.b x.s ps):Two d n o (L++⟨x.o,x.b,x.s,x.w,x.h,ps⟩::M):=by
 have j:x∈L++x::M:=WV _ (WU ..);have nd:=T.nd;unfold Bs at nd;simp only[Yp,Zi,XO,Wr,XF,YQ,Y0,or_false,not_or,Z7]at nd;obtain⟨⟨n1,n2,⟨K,N⟩,n5⟩,⟨n6,⟨O,Q⟩,n9⟩,G,⟨H,J,k⟩,l⟩:=nd;have E:∀{c:Nat}{y:C},(∀Y,y≠.lst Y)->r[c]?=b4 y->c≠x.b/\c≠x.s:=λ{c y} a e=>⟨λh=>by rw[h,(T.si x j).i2]at e;cases e;exact a _ rfl,λh=>by rw[h,(T.si x j).i3]at e;cases e;exact a _ rfl⟩;have q:∀y:Sd,y∈L\/y∈M->(y.b≠x.b/\y.b≠x.s)/\y.s≠x.b/\y.s≠x.s:=λy a=>by
  rcases a with a|a
  ·have b:∀c,(c=x.b\/c=x.s)->y.b≠c/\y.s≠c:=λc hc=>⟨l _ ⟨y,a,.inl rfl⟩ c (.inl hc),l _ ⟨y,a,.inr rfl⟩ c (.inl hc)⟩;exact⟨⟨(b _ (.inl rfl)).1,(b _ (.inr rfl)).1⟩,(b _ (.inl rfl)).2,(b _ (.inr rfl)).2⟩
  ·have b:∀c,(c=x.b\/c=x.s)->y.b≠c/\y.s≠c:=λc hc=>⟨WL (k c hc _ ⟨y,a,.inl rfl⟩),WL (k c hc _ ⟨y,a,.inr rfl⟩)⟩;exact⟨⟨(b _ (.inl rfl)).1,(b _ (.inr rfl)).1⟩,(b _ (.inl rfl)).2,(b _ (.inr rfl)).2⟩
 have s:∀{Z:Type}(u:Sd->Z),u ⟨x.o,x.b,x.s,x.w,x.h,ps⟩=u x->(L++⟨x.o,x.b,x.s,x.w,x.h,ps⟩::M).map u=(L++x::M).map u:=λu e=>by simp only[Wf,We,e]
 refine⟨by rw[s _ rfl];exact i _ _ K N T.a1,by rw[s _ rfl];exact i _ _ O Q T.a2,by rw[HH];exact T.nd,λy a=>?_,λy a=>?_⟩
 ·rcases XF.mp a with a|a
  ·exact T.sz y (YX _ a)
  ·rcases Wr.mp a with rfl|a
   ·have:=T.sz x j;exact⟨this.1,this.2.1,A⟩
   ·exact T.sz y (WV _ (Wq _ a))
 ·rw[HH];have m:y∈L\/y∈M->Sid d (Bs n o (L++x::M)) y.w y.h y.o y.b y.s y.ps:=λa=>by have I:=T.si y (a.elim (YX _) λh=>WV _ (Wq _ h));obtain⟨⟨v,w⟩,U,X⟩:=q y a;obtain⟨o1,R⟩:=E (λ_ h=>by cases h) I.i1;refine I.keep T.lst (i _ _ o1 R I.i1) (i _ _ v w I.i2) (i _ _ U X I.i3) I.ne (λc z hc e=>i c z (λh=>hc (h▸(qS j).1)) (λh=>hc (h▸(qS j).2)) e) λp B=>.inl B
  rcases XF.mp a with a|a
  ·exact m (.inl a)
  ·rcases Wr.mp a with rfl|a
   ·exact S
   ·exact m (.inr a)
theorem StB.set{b:Hm}{B:List Nat}{a:Nat}{c:C}{d:D}{F:Int×Int->Ly}{qs:List (Int×Int)}{G:Gr}(S:StB b B d F qs G)(hB:∀c∈B,∃xs,b[c]?=b4 (.lst xs))(i:a∈B):StB (b.set a c) B d F qs G:=
 S.keep hB λx y j e=>by rw[V9 (λ(h:a=x)=>j (h▸i))];exact e
theorem VI(k:Nat){z:Hm}{j i:Nat}{L:List Sd}(T:Two z j i L)(hL:L.length<=1){w h:Int}(hw:1<=w/\w<=3)(U:1<=h/\h<=3){d0 d1 d2 d3 d6 d9 E:Option D}(Q:Fl×aG×Hm->Prop)(H:∀x R,Two R j i (L++[x])->Q (.nx,[d0,d1,d2,d3,b4 (.loc j),b4 (.loc i),d6,b4 (.int w),b4 (.int h),d9,E],R)) :
  W ((aI (cP (dJ fF (aA 4) (aB (hX "Folding" (f (k+5) "Folding") (aB (aA 7) (aB (aA 8) aD))) aD))) (cP (dJ fF (aA 5) (aB (bO (aB (aH (f (k+5) "_law_begun") (aB (aA 7) (aB (aA 8) aD))) aD)) aD)))) [d0,d1,d2,d3,b4 (.loc j),b4 (.loc i),d6,b4 (.int w),b4 (.int h),d9,E] z) Q:=by
 obtain⟨_,q2,q3,q4,q5,q6⟩:=tL w (j9 hw) h (j9 U);have gd:Gd (dO w h) (λ_=>eB) (iQ (dO w h)):=by refine⟨λ_=>T4,Ut q4,λq M=>?_⟩;rw[Gj];exact XB.mp q6 q M
 rw[bA,lF];refine mR ?_;simp only[aF,aJ];refine⟨xB T.a1,?_⟩;rw[aP];refine UX ?_;simp only[aP,aM,aF,aJ];refine Vu k hw U _ _ λb d r v bl1 bl2 i1 i2 S=>⟨rfl,?_⟩;refine(sW (aL v T.a1) (by rw[V0,W6];omega)).mpr ?_;simp only[lF];have N:j≠i:=λe=>by have:=T.nd;unfold Bs at this;rw[e]at this;simp at this
 have o:∀c∈Bs j i L,c<z.length:=λc hc=>by obtain⟨u,e⟩:=T.lst c hc;exact(VY.mp e).1
 have fm:j∈Bs j i L:=WU ..;have sm:i∈Bs j i L:=Wq _ (WU ..);have fL:=o _ fm;have sL:=o _ sm;have p1l:=v.length_le;refine mR ?_;simp only[aF,aJ];have Z:(r.set j (.lst (L.map (λx=>D.loc x.o)++[.loc z.length])))[i]?=b4 (.lst (L.map λx=>.loc x.s)):=by rw[V9 N];exact aL v T.a2
 refine⟨xB Z,?_⟩;simp only[aP,aM,dZ,bC,aF,aJ];refine U7 (k+3) hw U _ _ λl p Sg a A gl PJ eS=>⟨j6,?_⟩;have p2l:=A.length_le;rw[WG]at p2l PJ;refine(sW (aL (A.trans (aO _ _)) Z) (by rw[V0,W6];omega)).mpr ?_;generalize hM:r.set j (.lst (L.map (λx=>D.loc x.o)++[.loc z.length]))=M1 at A Z;have gM:∀{c:Nat}{y:C},c≠j->r[c]?=b4 y->M1[c]?=b4 y:=λ{c y} hc e=>by rw[<- hM,V9 (WL hc)];exact e
 have g3:∀{c:Nat}{y:C},c≠i->(a++[C.lst [.tup [.loc l,.loc p]]])[c]?=b4 y->((a++[C.lst [.tup [.loc l,.loc p]]]).set i (.lst (L.map (λx=>D.loc x.s)++[.loc a.length])))[c]?=b4 y:=λ{c y} hc e=>by rw[V9 (WL hc)];exact e
 have J:∀{c:Nat}{y:C},c≠j->c≠i->r[c]?=b4 y->((a++[C.lst [.tup [.loc l,.loc p]]]).set i (.lst (L.map (λx=>D.loc x.s)++[.loc a.length])))[c]?=b4 y:=λ{c y} h1 h2 e=>g3 h2 (aL (A.trans (aO _ _)) (gM h1 e));have K:∀c∈b::Bs j i L,∃u,r[c]?=b4 (.lst u):=λc hc=>by
  rcases Wr.mp hc with rfl|hc
  ·exact⟨_,i2⟩
  ·obtain⟨u,e⟩:=T.lst c hc;exact⟨u,aL v e⟩
 have hBM:∀c∈b::Bs j i L,∃u,M1[c]?=b4 (.lst u):=λc hc=>by
  by_cases e:c=j
  ·rw[e,<- hM];exact⟨_,Wh (by omega)⟩
  ·obtain⟨u,h⟩:=K c hc;exact⟨u,gM e h⟩
 have hB2:∀c∈a.length::b::Bs j i L,∃u,(a++[C.lst [.tup [.loc l,.loc p]]])[c]?=b4 (.lst u):=λc hc=>by
  rcases Wr.mp hc with rfl|hc
  ·exact⟨_,bF _ _⟩
  ·obtain⟨u,e⟩:=hBM c hc;exact⟨u,aL (A.trans (aO _ _)) e⟩
 have O:∀{d:D}{F:Int×Int->Ly}{qs:List (Int×Int)}{G:Gr},StB a (b::Bs j i L) d F qs G->StB ((a++[C.lst [.tup [.loc l,.loc p]]]).set i (.lst (L.map (λx=>D.loc x.s)++[.loc a.length]))) (a.length::b::Bs j i L) d F qs G:=λs=>((s.add (Wa _)).more (aO _ _)).set hB2 (Wq _ (Wq _ sm));have B:∀{d:D}{F:Int×Int->Ly}{qs:List (Int×Int)}{G:Gr},StB r (b::Bs j i L) d F qs G->StB ((a++[C.lst [.tup [.loc l,.loc p]]]).set i (.lst (L.map (λx=>D.loc x.s)++[.loc a.length]))) (a.length::b::Bs j i L) d F qs G:=λs=>O ((hM▸s.set K (Wq _ fm)).more A);have X:∀c∈Bs j i (L++[⟨z.length,b,a.length,w,h,[(d,.tup [.loc l,.loc p])]⟩]),c∈a.length::b::Bs j i L:=λc hc=>by unfold Bs at hc ⊢;simp only[Yp,Zi,a1o,W4,Wr,XF,Y0,or_false]at hc ⊢;rcases hc with h|h|h|h|h<;>simp[h]
 refine H ⟨z.length,b,a.length,w,h,[(d,.tup [.loc l,.loc p])]⟩ _ ⟨?_,?_,?_,λx n=>?_,λx n=>?_⟩
 ·rw[Wf];refine g3 N (aL (A.trans (aO _ _)) ?_);rw[<- hM];exact Wh (by omega)
 ·rw[Wf];exact Wh (by rw[V5];omega)
 ·have nd:=T.nd;have nb:b∉Bs j i L:=λm=>by have:=o b m;omega
  have Y:a.length∉Bs j i L:=λm=>by have:=o _ m;omega
  have n3:b≠a.length:=by omega
  unfold Bs at nd nb Y ⊢;simp only[Yp,Zi,a1o,W4];have e:j::i::(L.flatMap (λx=>[x.b,x.s])++[b,a.length])=(j::i::L.flatMap λx=>[x.b,x.s])++[b,a.length]:=rfl;rw[e,YQ];refine⟨nd,by simp[n3],λc hc y hy e=>?_⟩;subst e;rcases Wr.mp hy with rfl|hy
  ·exact nb hc
  ·rw[WS.mp hy]at hc;exact Y hc
 ·rcases XF.mp n with n|n
  ·exact T.sz x n
  ·rw[WS.mp n];exact⟨hw,U,by simp⟩
 ·rcases XF.mp n with n|n
  ·have I:=T.si x n;have nd:=T.nd;unfold Bs at nd;simp only[XO,Wr,not_or,Z7,not_exists,not_and]at nd;obtain⟨⟨n1,Y⟩,n3,n4⟩:=nd;have b1:x.b≠j/\x.s≠j:=by have:=Y x n;simp only[Wr,Y0,or_false,not_or]at this;exact⟨WL this.1,WL this.2.1⟩
   have b2:x.b≠i/\x.s≠i:=by have:=n3 x n;simp only[Wr,Y0,or_false,not_or]at this;exact⟨WL this.1,WL this.2.1⟩
   have of':x.o≠j:=λe=>by have:=I.i1;rw[e,T.a1]at this;cases this
   have os:x.o≠i:=λe=>by have:=I.i1;rw[e,T.a2]at this;cases this
   refine⟨J of' os (aL v I.i1),J b1.1 b2.1 (aL v I.i2),J b1.2 b2.2 (aL v I.i3),λq M=>?_,I.ne⟩;obtain⟨F,G,h1,h2,h3⟩:=I.st q M;exact⟨F,G,(B ((h1.add (by omega)).more v)).mono X,(B ((h2.add (by omega)).more v)).mono X,h3⟩
  ·rw[WS.mp n];refine⟨J (c:=z.length) (by omega) (by omega) i1,J (c:=b) (by omega) (by omega) i2,g3 (by show a.length≠i;omega) (bF _ _),λq M=>?_,List.cons_ne_nil _ _⟩;rw[WS.mp M];refine⟨_,_,(B (S (b::Bs j i L) λc hc=>?_)).mono X,?_,gd⟩
   ·rcases Wr.mp hc with h|h
    ·exact .inr h
    ·exact .inl (o c h)
   ·have:=StB.new (B:=b::Bs j i L) gl PJ λc hc=>by
     rcases Wr.mp hc with h|h
     ·omega
     ·have:=o c h;omega
    rw[eS]at this;exact(O this).mono X
theorem HJ{x y:Sd}{j:Int}(h:j=0\/j=1):∃L z M,[x,y]=L++z::M/\∀u:Sd->D,atI ([x,y].map u) j=b4 (u z):=by
 rcases h with rfl|rfl
 ·exact⟨[],x,[y],rfl,λ_=>rfl⟩
 ·exact⟨[x],y,[],rfl,λ_=>rfl⟩
theorem VJ{L M:List Sd}{x y z z':Sd}(h:[x,y]=L++z::M):∃c d,L++z'::M=[c,d]:=by
 have:(L++z'::M).length=2:=by have:=congrArg WY h;rw[V5,Ww]at this ⊢;exact this.symm
 match L++z'::M,this with
 |[a,b],_=>exact⟨a,b,rfl⟩
theorem HK(k:Nat){a:Hm}{B:List Nat}{w h:Int}{o b s:Nat}{ps:List (D×D)}(hw:1<=w/\w<=3)(l:1<=h/\h<=3)(I:Sid a B w h o b s ps)(d:b∈B)(Q:D×Hm->Prop)(H:∀c,a<+:c->Q (.bl c7,c)):W (aE (.loc s) (.int (-1)) a) λq=>W (f (k+3) "_law_stands" [.loc o,q.1] q.2) Q:=by
 obtain⟨_,r,u,v,y,_⟩:=tL w (j9 hw) h (j9 l);obtain⟨ps,p,rfl⟩:∃z x,ps=z++[x]:=⟨_,_,(YK I.ne).symm⟩;obtain⟨F,G,i,j,e⟩:=I.st p (WV _ (a2r p));have m:a[b]?=b4 (.lst (ps.map (·.1)++[p.1])):=by rw[I.i2,Wf];rfl
 have n:a[s]?=b4 (.lst (ps.map (·.2)++[p.2])):=by rw[I.i3,Wf];rfl
 refine(fM n (tP _ _)).mpr ?_;exact Vz k v r u y I.i1 m (i.st d) (j.st d) e Q H
noncomputable abbrev BO(ns:List Int)(b c:Nat)(n:aG)(m:Hm):Prop:=∃d e h i j k l a x y,n=[b4 (.rol (ns.map D.int)),d,e,h,b4 (.loc b),b4 (.loc c),i,j,k,l,a]/\Two m b c [x,y]
noncomputable def BP(k:Nat):MS:=aX (fD (eJ (cA (aH (f k "_law_stands") (aB (aC aE (aA 4) (mC (.int 0))) (aB (aC aE (aC aE (aA 5) (mC (.int 0))) (bW (mC (.int 1)))) aD))))) (eJ (cA (aH (f k "_law_stands") (aB (aC aE (aA 4) (mC (.int 1))) (aB (aC aE (aC aE (aA 5) (mC (.int 1))) (bW (mC (.int 1)))) aD)))))) (a6 (mC (.bl c6))) a8
theorem HL(k:Nat){ns:List Int}{h:Hm}{d e:Nat}{x y:Sd}(T:Two h d e [x,y]){j l m n o p q c:Option D}(Q:Fl×aG×Hm->Prop)(H:∀i a,BO ns d e i a->Q (.nx,i,a)):W (BP (k+3) [b4 (.rol (ns.map D.int)),j,l,m,b4 (.loc d),b4 (.loc e),n,o,p,q,c] h) Q:=by obtain⟨w,r,_⟩:=T.sz x (by simp);obtain⟨z,s,_⟩:=T.sz y (by simp);unfold BP;simp only[b6,mP,sU,gP,bC,aP,aM,aU,aR,mQ,aF,aJ];refine(fM T.a1 (d:=.loc x.o) rfl).mpr ((fM T.a2 (d:=.loc x.s) rfl).mpr ?_);refine HK k w r (T.si x (by simp)) (qS (by simp)).1 _ λA u=>?_;have b:=T.more u;simp only[eX,W9,V6,if_false];refine(fM b.a1 (d:=.loc y.o) rfl).mpr ((fM b.a2 (d:=.loc y.s) rfl).mpr ?_);refine HK k z s (b.si y (by simp)) (qS (by simp)).1 _ λB v=>?_;simp only[eX,W9,V6,if_false,cH];exact H _ _ ⟨_,_,_,_,_,_,_,_,x,y,rfl,b.more v⟩
theorem VL(k:Nat){ns:List Int}{c:Int}(hc:0<=c/\c<=50){N:Hm}{h m:Nat}{x y:Sd}(T:Two N h m [x,y]){s w A B E R u:Option D}(Q:Fl×aG×Hm->Prop)(H:∀O n,BO ns h m O n->Q (.nx,O,n)) :
  W ((aI (aK 9 (aH (f (k+7) "_law_cell") (aB (aA 0) (aB (aA 6) aD)))) (aI (aK 10 (aC bL (aC dD (aA 9) (mC (.int 5))) (mC (.int 2)))) (aI (aX (aN (aC fS (aH cY (aB (aC aE (aA 5) (aA 10)) aD)) (mC (.int 11)))) (aK 10 (aC cE (mC (.int 1)) (aA 10))) a8) (aI (aK 1 (aH (f (k+7) "_law_cell") (aB (aA 0) (aB (aC bM (aA 6) (mC (.int 1))) aD)))) (aI (aX (dU (aN (aC kL (aH cY (aB (aC aE (aA 5) (aA 10)) aD)) (mC (.int 12)))) (eJ (cA (aH (f (k+7) "_law_deed") (aB (aC aE (aA 4) (aA 10)) (aB (aC aE (aA 5) (aA 10)) (aB (aA 9) (aB (aA 1) aD)))))))) (a6 (mC (.bl c6))) a8) (BP (k+7)))))))
   [b4 (.rol (ns.map D.int)),s,w,A,b4 (.loc h),b4 (.loc m),b4 (.int c),B,E,R,u] N) Q:=by
 simp only[bA,bH,bC,aP,aM,aF,aJ];refine qK (k+6) ns c (by omega) _ _ λo p1=>?_;have q:=T.more p1;generalize iP ns c=v;simp only[V3,V4,aU,aR,aF,aJ,iN (show(0:Int)<5 by decide) (by decide),dN (show(0:Int)<2 by decide)];have G:v/5%2=0\/v/5%2=1:=by omega
 generalize v/5%2=j at G;have first:W ((aX (aN (aC fS (aH cY (aB (aC aE (aA 5) (aA 10)) aD)) (mC (.int 11)))) (aK 10 (aC cE (mC (.int 1)) (aA 10))) a8) [b4 (.rol (ns.map D.int)),s,w,A,b4 (.loc h),b4 (.loc m),b4 (.int c),B,E,b4 (.int v),b4 (.int j)] o) λr=>∃i:Int,(i=0\/i=1)/\r=(.nx,[b4 (.rol (ns.map D.int)),s,w,A,b4 (.loc h),b4 (.loc m),b4 (.int c),B,E,b4 (.int v),b4 (.int i)],o):=by
  obtain⟨L,z,M,d,a⟩:=HJ (x:=x) (y:=y) G;have I:=q.si z (by rw[d];simp);simp only[b6,cB,bC,aP,aM,aU,aR,aF,aJ];refine(fM q.a2 (a _)).mpr ((lH I.i3).mpr ?_);simp only[qF];split
  ·simp only[bH,aU,aR,aF,aJ,jZ,V3,V4];exact⟨1-j,by omega,rfl⟩
  ·simp only[cH];exact⟨j,G,rfl⟩
 refine bQ first λr ⟨i,Y,hr⟩=>?_
 subst hr;simp only[bH,bC,aP,aM,aU,aR,aF,aJ,jY];refine qK (k+6) ns (c+1) (by omega) _ _ λμ2 p2=>?_;have b:=q.more p2;generalize iP ns (c+1)=far;obtain⟨L,z,M,d,a⟩:=HJ (x:=x) (y:=y) Y;have p:z∈[x,y]:=by rw[d];simp
 have I:=b.si z p;obtain⟨hw,X,Z⟩:=b.sz z p;simp only[V3,V4,b6,fW,cB,sU,gP,bC,aP,aM,aU,aR,aF,aJ];refine(fM b.a2 (a _)).mpr ((lH I.i3).mpr ?_);simp only[AZ,V0];by_cases l:(z.ps.length:Int)<12
 ·rw[decide_eq_true l];simp only[if_true];refine(fM b.a1 (a _)).mpr ((fM b.a2 (a _)).mpr ?_);have bs:z.b≠z.s:=λe=>by have:=b.nd;rw[d]at this;unfold Bs at this;simp only[Yp,Zi,XO,YQ,e]at this;simp at this
  refine VH k hw X I (by omega) b.lst (qS p).1 (qS p).2 bs _ _ _ λJ μ3 kp S hl=>?_;simp only[eX,W9,V6,if_false,cH];rw[d]at b S;have K:=b.upd (by omega) kp S;obtain⟨x',y',U⟩:=VJ (z':=⟨z.o,z.b,z.s,z.w,z.h,J⟩) d;rw[U]at K;exact HL (k+4) K _ H
 ·rw[decide_eq_false l];simp only[V6,if_false,cH];exact HL (k+4) b _ H
theorem VM:∀E∈(Xh 27).map Int.ofNat,6<=E->r8 2 E 2=c7/\(W3 2 E 2).toNat<=12:=by decide +kernel
noncomputable def m7(b:Int)(a:Nat):List D:=[.int 0,.int 7,.int (-1-b),.int (7+b),.bl c7,.non,.str "2",.tup [.int 2],.loc a]
theorem VN{b:Int}(h:0<=b){a:Nat}{xs:List D}{c:Hm}(e:c[a]?=b4 (.lst xs)):∀d∈m7 b a,BadS d c:=by
 intro d hd;unfold m7 at hd;simp only[Wr,Y0,or_false]at hd;rcases hd with rfl|rfl|rfl|rfl|rfl|rfl|rfl|rfl|rfl
 ·exact w6 (by decide) _
 ·exact w6 (by decide) _
 ·exact w6 (by omega) _
 ·exact w6 (by omega) _
 ·exact Vi _ _
 ·exact w5 (w8 (t:="NoneType") (λ_ _=>rfl) rfl)
 ·exact w5 (w8 (t:="str") (λ_ _=>rfl) rfl)
 ·exact w5 (w8 (t:="tuple") (λ_ _=>rfl) rfl)
 ·exact w5 (w8 (Vk e) rfl)
theorem VO{c:Type}{xs:List c}{i:Int}(a:0<=i)(h:i<xs.length):∃x∈xs,atI xs i=b4 x:=by
 unfold atI;rw[A9 a h];have b:i.toNat<xs.length:=by omega
 exact⟨xs[i.toNat],a1n _,by rw[Wl,WM b]⟩
noncomputable def HM(k:Nat):MS:=cW (kS (aB (mC (.int 2)) aD)) (dQ 6) (aI (aK 7 (aC bM (mC (.int 1)) (aC bL (aC dD (aH (f k "_law_cell") (aB (aA 0) (aB (aA 6) aD))) (mC (.int 9))) (mC (.int 3))))) (aI (aK 8 (aC bM (mC (.int 1)) (aC bL (aC dD (aH (f k "_law_cell") (aB (aA 0) (aB (aA 6) aD))) (mC (.int 27))) (mC (.int 3))))) (aI (cP (dJ fF (aA 4) (aB (hX "Folding" (f k "Folding") (aB (aA 7) (aB (aA 8) aD))) aD))) (cP (dJ fF (aA 5) (aB (bO (aB (aH (f k "_law_begun") (aB (aA 7) (aB (aA 8) aD))) aD)) aD))))))
noncomputable def HN(k:Nat):MS:=cW (pO (aB (mC (.int 2)) (aB (aH vB (aB (mC (.int 26)) (aB (aH vA (aB (mC (.int 6)) (aB (aC cE (aH cY (aB (aA 0) aD)) (mC (.int 1))) aD))) aD))) (aB (mC (.int 2)) aD)))) (dQ 6) (aI (aK 9 (aH (f k "_law_cell") (aB (aA 0) (aB (aA 6) aD)))) (aI (aK 10 (aC bL (aC dD (aA 9) (mC (.int 5))) (mC (.int 2)))) (aI (aX (aN (aC fS (aH cY (aB (aC aE (aA 5) (aA 10)) aD)) (mC (.int 11)))) (aK 10 (aC cE (mC (.int 1)) (aA 10))) a8) (aI (aK 1 (aH (f k "_law_cell") (aB (aA 0) (aB (aC bM (aA 6) (mC (.int 1))) aD)))) (aI (aX (dU (aN (aC kL (aH cY (aB (aC aE (aA 5) (aA 10)) aD)) (mC (.int 12)))) (eJ (cA (aH (f k "_law_deed") (aB (aC aE (aA 4) (aA 10)) (aB (aC aE (aA 5) (aA 10)) (aB (aA 9) (aB (aA 1) aD)))))))) (a6 (mC (.bl c6))) a8) (aX (fD (eJ (cA (aH (f k "_law_stands") (aB (aC aE (aA 4) (mC (.int 0))) (aB (aC aE (aC aE (aA 5) (mC (.int 0))) (bW (mC (.int 1)))) aD))))) (eJ (cA (aH (f k "_law_stands") (aB (aC aE (aA 4) (mC (.int 1))) (aB (aC aE (aC aE (aA 5) (mC (.int 1))) (bW (mC (.int 1)))) aD)))))) (a6 (mC (.bl c6))) a8))))))
noncomputable def HP(k:Nat):MS:=aI (HM k) (aI (HN k) (a6 (mC (.bl c7))))
theorem VP(k:Nat)(a:D)(b:Hm):f (k+1) "law" [a] b=aS ((aI (aK 1 (aC bL (aH (f k "_law_cell") (aB (aA 0) (aB (mC (.int 0)) aD))) (aC fZ (mC (.int 10)) (mC (.int 30))))) (aI (aK 2 (bO (aB (mC (.int 0)) (aB (mC (.int 7)) (aB (aC cE (bW (mC (.int 1))) (aA 1)) (aB (aC bM (mC (.int 7)) (aA 1)) (aB (mC (.bl c7)) (aB (mC .non) (aB (mC (.str "2")) (aB (bY (aB (mC (.int 2)) aD)) (aB (bO (aB (mC (.int 2)) aD)) aD))))))))))) (aI (aK 3 (aC aE (aA 2) (aC bL (aH (f k "_law_cell") (aB (aA 0) (aB (mC (.int 1)) aD))) (mC (.int 9))))) (aI (aX (fD (eJ (cA (aH (f k "_law_no_size") (aB (aA 3) (aB (mC (.int 2)) aD))))) (eJ (cA (aH (f k "_law_no_size") (aB (mC (.int 1)) (aB (aA 3) aD)))))) (a6 (mC (.bl c6))) a8) (aI (aK 4 (bO aD)) (aI (aK 5 (bO aD)) (HP k))))))) [b4 a,c4,c4,c4,c4,c4,c4,c4,c4,c4,c4] b):=Tt k a b
theorem VQ(k:Nat)(ns:List Int)(Z:ns.length<=63)(o:Hm):W (f (k+8) "law" [.rol (ns.map D.int)] o) λr=>r.1=.bl true:=by
 rw[VP,W_fin,bA];simp only[bH,aU,aR,bC,aP,aM,aF,aJ];have l:∀{o:Hm}{Q:D×Hm->Prop},W (fZ (.int 10) (.int 30) o) Q↔Q (.int (10^30),o):=AY (by decide);refine qK (k+6) ns 0 (by omega) _ _ λc p1=>?_;simp only[l];have O:(0:Int)<10^30:=by decide
 generalize(10:Int)^30=t at O;refine(dN O).mpr ?_;have N:0<=iP ns 0%t:=Za _ (by omega);generalize iP ns 0%t=far at N;simp only[V3,V4];rw[bA];simp only[bH,dZ,gG,aU,aR,mQ,aP,aM,aF,aJ,jZ,jY];refine⟨j6,j6,show(9:Nat)<=Wb by decide,?_⟩;simp only[V3,V4];have J:(c++[C.lst [.int 2]]++[C.lst (m7 far c.length)])[c.length]?=b4 (.lst [.int 2]):=aL (aO _ _) (bF _ _);have B:(c++[C.lst [.int 2]]++[C.lst (m7 far c.length)])[(c++[C.lst [.int 2]]).length]?=b4 (.lst (m7 far c.length)):=bF _ _;show W _ _;change W (aI _ _ _ (c++[C.lst [.int 2]]++[C.lst (m7 far c.length)])) _;generalize c++[C.lst [.int 2]]++[C.lst (m7 far c.length)]=μ2 at J B;generalize(c++[C.lst [.int 2]]).length=z at B;rw[bA];simp only[bH,aU,aR,bC,aP,aM,aF,aJ];refine qK (k+6) ns 1 (by omega) _ _ λI R=>?_;refine(dN (show(0:Int)<9 by decide)).mpr ?_;obtain⟨d,hd,p⟩:=VO (xs:=m7 far c.length) (i:=iP ns 1%9) (Za _ (by decide)) (Ze _ (by decide));refine(fM (aL R B) p).mpr ?_;have M:BadS d I:=VN N (aL R J) d hd;simp only[V3,V4];rw[bA];simp only[b6,mP,sU,gP,aR,bC,aP,aM,aF,aJ];refine Hk k (.inl M) _ λμ4 p4=>?_;simp only[eX,W9,V6,if_false];refine Hk k (.inr ⟨⟨1,rfl,by decide,by decide⟩,M.more p4⟩) _ λh p5=>?_;simp only[eX,W9,V6,if_false,cH];rw[bA];simp only[bH,dZ,aM];refine⟨W7 _,?_⟩;simp only[V3,V4];rw[bA];simp only[bH,dZ,aM];refine⟨W7 _,?_⟩;simp only[V3,V4];have n:Two (h++[C.lst []]++[C.lst []]) h.length (h++[C.lst []]).length []:=by refine⟨aL (aO _ _) (bF _ _),bF _ _,?_,(λx H=>nomatch H),(λx H=>nomatch H)⟩;show[h.length,(h++[C.lst []]).length].Nodup;rw[V5];simp
 generalize h++[C.lst []]++[C.lst []]=μ6 at n;generalize(h++[C.lst []]).length=sl at n;generalize h.length=fl at n;unfold HP;rw[bA];unfold HM;simp only[j5,A1 (j:=0),aP,aR,aM];refine⟨by decide,?_⟩;refine wD (lo:=0) (n:=2) (λi j e=>∃q s u v w A L,j=[b4 (.rol (ns.map D.int)),q,s,u,b4 (.loc fl),b4 (.loc sl),v,w,A,c4,c4]/\L.length=i/\Two e fl sl L) ⟨_,_,_,c4,c4,c4,[],rfl,rfl,n⟩ (λi j e Y m=>?_) λj e m=>?_
 ·obtain⟨q,s,u,v,w,A,L,rfl,G,T⟩:=m;refine⟨_,rfl,?_⟩;simp only[V3,V4];rw[bA];simp only[bH,aU,aR,bC,aP,aM,aF,aJ];refine qK (k+6) ns _ (by omega) _ _ λμ7 p7=>?_;simp only[iN (show(0:Int)<9 by decide) (by decide),dN (show(0:Int)<3 by decide),jY,V3,V4];rw[bA];simp only[bH,aU,aR,bC,aP,aM,aF,aJ];refine qK (k+6) ns _ (by omega) _ _ λμ8 p8=>?_;simp only[iN (show(0:Int)<27 by decide) (by decide),dN (show(0:Int)<3 by decide),jY,V3,V4];refine VI (k+2) ((T.more p7).more p8) (by omega) (by omega) (by omega) _ λx μ9 U=>?_;exact⟨_,_,_,_,_,_,L++[x],rfl,by rw[V5,WW,G],U⟩
 ·obtain⟨q,s,u,v,w,A,L,rfl,G,T⟩:=m;obtain⟨x,y,rfl⟩:∃x y,L=[x,y]:=by
   match L,G with
   |[a,b],_=>exact⟨a,b,rfl⟩
  rw[bA];unfold HN;rw[j5];refine SJ ?_;simp only[aP,aM,aR,bC,aU,aF,aJ,A4,jZ,SE,SD,V0];have K:6<=min (26:Int) (max 6 ((ns.length:Int)-1))/\min (26:Int) (max 6 ((ns.length:Int)-1))<=26:=by omega
  generalize min (26:Int) (max 6 ((ns.length:Int)-1))=E at K;obtain⟨r1,r2⟩:=VM E (Wt.mpr ⟨E.toNat,ZP.mpr (by omega),Int.toNat_of_nonneg (by omega)⟩) K.1;refine⟨2,E,2,rfl,r1,?_⟩;refine SK (λi j e=>BO ns fl sl j e) ⟨_,_,_,_,_,_,_,_,x,y,rfl,T⟩ (λi j e Y m=>?_) λj e m=>?_
  ·obtain⟨e1,e2,e3,e6,e7,e8,e9,X,x,y,rfl,T⟩:=m;refine⟨_,rfl,?_⟩;simp only[V3,V4];exact VL k (by omega) T _ λρ e t=>t
  ·simp only[w_mRet,aR]
theorem VR:∀ns:List Int,ns.length<=63->∃a,gD S ds 8 "law" [.rol (ns.map D.int)] []=b4 (.bl c7,a):=λns e=>by obtain⟨⟨d,a⟩,b,c⟩:=VQ 0 ns e [];dsimp only at c;subst c;refine⟨a,?_⟩;unfold f at b;exact b
end Lw
namespace Lw
open PySem L2 L3
theorem xz(Q:Xi):XcOk S (Kx Q):=Sh (by kernel_rfl) (by kernel_rfl) (by kernel_rfl) (by kernel_rfl)
theorem oz(Q:Xi):∀f x,S.ob.lookup f=b4 x → ∃C,CAt (Kx Q) x C ∧ Cls (Kx Q) C ∧ NoAttr (Kx Q) C f:=RY (by kernel_rfl)
theorem mz(Q:Xi):∀m x y n,S.mt.lookup m=b4 (x,y,n) → ∃(C g:Addr),CAt (Kx Q) x C ∧ Cls (Kx Q) C ∧ Meth (Kx Q) C m g ∧ nY (Kx Q) (lk S ds y) n g:=RZ (X0.mpr ⟨⟨by kernel_rfl,"Folding.fold",cV 51 1,by kernel_rfl,⟨by kernel_rfl,by kernel_rfl,by kernel_rfl⟩⟩,X0.mpr ⟨⟨by kernel_rfl,"Folding.back",cV 51 2,by kernel_rfl,⟨by kernel_rfl,by kernel_rfl,by kernel_rfl⟩⟩,X0.mpr ⟨⟨by kernel_rfl,"Folding.many",cV 51 3,by kernel_rfl,⟨by kernel_rfl,by kernel_rfl,by kernel_rfl⟩⟩,X0.mpr ⟨⟨by kernel_rfl,"Folding.layings",cV 51 4,by kernel_rfl,⟨by kernel_rfl,by kernel_rfl,by kernel_rfl⟩⟩,X0.mpr ⟨⟨by kernel_rfl,"Folding.piles",cV 51 5,by kernel_rfl,⟨by kernel_rfl,by kernel_rfl,by kernel_rfl⟩⟩,λ_ z=>nomatch z⟩⟩⟩⟩⟩)
theorem yz(Q:Xi):∀x y n,S.mc.lookup x=b4 (y,n) → lk S ds x=c4 ∧ ∃(C g:Addr),CAt (Kx Q) x C ∧ Mk (Kx Q) C g ∧ nY (Kx Q) (lk S ds y) n g:=R0 (X0.mpr ⟨⟨by kernel_rfl,by kernel_rfl,by kernel_rfl,"Folding.__init__",cV 51 0,by kernel_rfl,⟨by kernel_rfl,by kernel_rfl,by kernel_rfl⟩⟩,λ_ z=>nomatch z⟩)
theorem qz(Q:Xi):∀m x y n ex,S.md.lookup m=b4 (x,y,n,ex) → ∃(C g:Addr),CAt (Kx Q) x C ∧ Cls (Kx Q) C ∧ Meth (Kx Q) C m g ∧ v5 (Kx Q) (lk S ds y) n ex g:=Sa (X0.mpr ⟨⟨by kernel_rfl,"Folding.fold",cV 51 1,[c7,c7],rfl,by kernel_rfl,⟨by kernel_rfl,by kernel_rfl,by kernel_rfl⟩⟩,λ_ z=>nomatch z⟩)
theorem wz(Q:Xi):∀m x y k1 k2,S.mw.lookup m=b4 (x,y,k1,k2) → ∃(C g:Addr),CAt (Kx Q) x C ∧ Cls (Kx Q) C ∧ Meth (Kx Q) C m g ∧ v7 (Kx Q) (lk S ds y) k1 k2 g:=Se (X0.mpr ⟨⟨by kernel_rfl,"Folding.fold",cV 51 1,by kernel_rfl,⟨by kernel_rfl,by kernel_rfl,by kernel_rfl⟩⟩,λ_ z=>nomatch z⟩)
theorem dz(Q:Xi):wA (Kx Q) ds:=by unfold wA;kernel_rfl
theorem cz(Q:Xi):FJ (Kx Q) S.con=true:=by kernel_rfl
theorem nz(Q:Xi):S.no.map (XC (Kx Q) WZ)=S.no.map λ_=>b4 none:=by kernel_rfl
theorem VS{P:Wv}{w:WO}{Q:Xi}
  {h:Xo}{a:Str → Option Value}(X:(Kx Q).In h)(G:h.Ns WZ a):TxtOk P w (Kx Q) a S ds ∧ ∃f b,Fun (Kx Q) "law" "law" (aQ 66) f b ∧ a "law"=b4 (.ref f) ∧ ∀(s:V1)(u:Value),a0Y s b ⟨[u],[]⟩ [("_law_script",u)]:=by
 refine⟨⟨RP (by decide +kernel),RQ λp c=>(FG X G (dz Q) p c).1,RR (RX X G (cz Q)),λx d e=>?_,RT (RW X G (nz Q)),xz Q,RS (by kernel_rfl) (by kernel_rfl),oz Q,mz Q,yz Q,Sf (by kernel_rfl),qz Q,wz Q⟩,RV X G (dz Q) (by kernel_rfl) (by kernel_rfl)⟩
 ·cases e
end Lw
open PySem PySem.W PyProof.Rows
set_option maxRecDepth 100000 in
set_option maxHeartbeats 0 in
theorem PySem.Challenge.cw_creasecourt_k82_back_and_refused_holds : PySem.Challenge.rw_creasecourt_k82_back_and_refused.Holds := by
 w_on
 refine holds_law (by decide +kernel) fun a=>?_
 refine holds_open (q:=Lw.Vw) (loose:=[]) (Xt:=fun s=>xlAt Lw.Vw [] s&&recOk (a4U (a3I (Xb V2))) s) (XP:=XL Lw.Vw []) (Yf:=Hook.obs (a5P Lw.Kx Lw.As Lw.q8)) (Ya:=Hook.val (a5P Lw.Kx Lw.As Lw.q8)) (YP:=Hook.says (a5P Lw.Kx Lw.As Lw.q8)) (N:=9964) Lw.run (Hook.of _) (Hook.keeps _) (fun s e=>xl_of s (YY.mp e).1) XL.keeps (by rfl) (by rfl) (by rfl) (fun s e=>recFacts_of (YY.mp e).2) (by rfl) (by first|assumption|decide +kernel) (by decide +kernel) ⟨rfl,rfl,rfl,rfl,rfl,by decide +kernel⟩ ?hw ?hc
 case hw=>w_witness2
 k_fill
 refine L3.walkM (l:=V2) (S:=Lw.S) (ds:=Lw.ds) (k:=8) (st:=Lw.aQ 66) (x:="_law_script") rfl rfl ⟨rfl,by decide,by decide⟩ (fun w h Y=>PySem.W.kIn_of Y) (by kernel_rfl) (by kernel_rfl) ?F (fun c h _=>Lw.VR c h)
 case F=>
  intro w d h b G
  refine' Lw.VS (P:=Xa) (w:=w)  b G
