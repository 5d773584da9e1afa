import PyProof.Rows.All
import Wide.All
import OpenK.AllK
import Wide.FinOn
import PyProof.EqAt
import PyProof.EqKinds
import PyProof.TupleCall
import KE.KDictSum
import PyProof.SliceStr2
import PyProof.NeKinds
import PyProof.StrWalks
import PyProof.ConsumeWalk
import KE.KSortTup
import PyProof.StationsW
import OpenK.KOwn
import PyProof.RulesAs
import PyProof.NsDelKeeps
import PyProof.InstStoreFacts
import OpenK.KCls
import PyProof.ExcArgs
import PyProof.ExcAttrAll.ValueError
import KE.KIsAll
import PyProof.Rows.SetFrom
import PyProof.Rows.SortStr
import PyProof.SumAny
import PyProof.EnumMake
import KE.KRevIter
import PyProof.MeetsStr
import PyProof.ListRange
import PyProof.Rows.Range3
import KE.KDictList
import PyProof.PureStr
import PyProof.WalkInts
import PyProof.ConsumeS
import PyProof.ZipIter
import PyProof.AttrMissHeap
import KE.KDictOf
import PyProof.DictItems
import KE.KItemsList
import KE.KEqDict
import PyProof.DictValues
import PyProof.DictWalks
import PyProof.Rows.StrNews
import PySem.Challenge.RW_creasecourt_k30_corners_refused
open Array renaming mk->Ub,getElem?_eq_some_iff->UZ,length_toList->U9,getD->Ve,replicate->XE,getElem?_toList->Yo,append_assoc->YX,size_append->Zc,toList_inj->ZG,toList->a0g
open Bool renaming and_eq_true->Sy,false_eq_true->SI,not_true->UK,or_eq_true->U4,and_eq_true_iff->Vp,false_ne_true->VE,not_eq_true'->VM,eq_iff_iff->WO,not_false->WZ,true_and->Xb,false_and->Z5,false_or->a0f,or_true->a0x
open Classical renaming byContradiction->Xx
open False renaming elim->Tx
open ForInStep renaming yield->Vt
open Int renaming emod_nonneg->TF,emod_lt_of_pos->TM,toNat_natCast->U6,le_of_lt->Vy,mul_le_mul_of_nonneg_left->XH,le_refl->XI,le_of_mul_le_mul_left->Yh,zero_add->YD,natCast_mul->Z4,ne_of_gt->a0K,mul_comm->a0L,mul_sub->a1d,mul_one->a1e,mul_add->a1f
open List renaming length_map->Sx,replicate->Sz,set_cons_zero->SD,set_cons_succ->SE,getElem?_eq_some_iff->SH,getElem?_eq_getElem->SN,length_append->SU,prefix_refl->SV,map_cons->SW,length_cons->SY,cons_append->S2,size_toArray->S3,nil_append->S5,getElem?_set_self->S7,range->Td,replicate_succ->Te,map_append->Tn,getD_eq_getElem?_getD->To,getElem?_append_left->Tp,getElem?_map->Tr,map_map->Tv,length_take->Tw,all_cons->Tz,mem_map->TC,mem_cons->TH,all_eq_true->TJ,getElem?_set_ne->TR,getElem?_append_right->TU,length_set->T4,mem_append->T7,length_drop->T8,append_assoc->T9,mem_append_right->Ud,length_replicate->Ue,getElem_of_mem->Ug,mem_range->Uh,append_nil->Um,take_append_drop->Up,mem_cons_of_mem->Ur,length_singleton->Uu,take_of_length_le->UC,map_congr_left->UD,find?_cons->UE,getElem?_eq_none_iff->UG,mem_cons_self->UH,pairwise_map->UO,nodup_cons->UP,filterMap_cons->US,append_eq_nil_iff->UW,getElem?_eq_none->U0,mem_filter->U2,getD->U3,flatten_cons->U5,eraseIdx_eq_take_drop_succ->U7,not_mem_nil->Vb,getElem_mem->Vc,getElem?_replicate->Vd,mem_singleton->Vf,zip_append->Vh,mem_of_getElem?->Vn,length_eraseIdx_of_lt->Vo,pairwise_iff_getElem->Vx,map_drop->VA,filter_append->VC,range'->VF,length_eq_zero_iff->VG,range_succ_eq_map->VJ,lookup_cons->VX,filter_cons->VY,map_take->V5,any_cons->V6,mem_of_mem_drop->V9,length->Wa,filter_map->Wc,dropLast_concat_getLast->We,map_nil->Wm,drop_zero->Wr,length_range->Wv,countP_cons->WA,pairwise_lt_range->WD,all_map->WE,of_mem_zip->WM,length_nil->WN,length_filter_le->WQ,mem_of_mem_take->WW,lookup->WX,sum_cons->Xa,mem_filterMap->Xc,reverse_cons->Xg,map_inj_left->Xh,take_length->Xw,range_succ->XF,foldl_cons->XG,take_succ->XW,append_eq_append_iff->X9,find?_range_eq_some->Yg,reverse->Yl,drop_of_length_le->Ym,set_append_right->YB,perm_append_comm->YC,mem_append_left->YJ,mergeSort_perm->YS,getElem?_range->YT,getD_cons_succ->YU,mem_replicate->Y7,getElem?_take->Y8,foldl->Y9,find?_eq_none->Za,contains_cons->Zb,take_sublist->Zz,nodup_append->ZA,isEmpty_cons->ZC,head?_filter->ZD,getElem_take->ZE,getElem?_set->ZF,range'_succ->ZN,nodup_range->ZO,isEmpty_nil->ZP,forIn_cons->ZX,drop_left'->ZY,take_left->Z3,mem_set->a0v,map_id'->a0w
open List.Pairwise renaming imp->XX,nil->a0I,filterMap->a0J
open List.Perm renaming refl->YV
open List.cons renaming injEq->YK
open Nat renaming le_refl->SM,lt_of_lt_of_le->S6,ne_of_lt->S9,le_trans->TX,zero_le->Uo,lt_irrefl->UL,not_lt_zero->UQ,lt_succ_self->UY,lt_succ_of_lt->Vk,lt_or_ge->Vv,zero_add->VP,le_of_eq->VQ,not_lt->V4,le_succ->Ww,lt_trans->WL,le_of_ble_eq_true->WT,ne_of_gt->Xq,lt_trichotomy->Xr,lt_succ_iff->XS,exists_eq_add_of_le->Yk,le_of_lt->YA,pow_le_pow_right->YR,add_le_add_left->Y6,le_of_lt_succ->ZM,le_add_right->ZW,min_eq_left->Z2,add_assoc->a0u,succ_pos->a0D,succ_add->a0E,sub_zero->a0F,pow_succ->a0G,add_comm->a0H,log2_lt->a1a,le_zero->a1b,add_mul->a1c,mod_lt->a1m
open Ne renaming symm->Ux
open Option renaming bind_eq_some_iff->Su,map_eq_some_iff->SA,bind_some->S1,map_some->TB,isSome_iff_exists->TN,isSome_none->W7,isSome_some->YI,getD_none->Y5,none->a0e
open Option.some renaming inj->S8
open Or renaming inr->YH,inl->ZL
open Prod.mk renaming inj->WJ
open PyProof.Rows renaming callWith_builtin1->VB,envOfC->VN,AllBare->WG,callWith_type1->W9,subscriptTail->Xs,IntsAre->Yn,Subscript_->Yx,args_cons->YZ,subscriptTail_builtinR->Zf,sorted_ints->a0R,sortedAll_old->a0S,sortedAll_at->a0T,pow_int_small->a0U,pow_int->a0V,mul_int->a0W,floordiv_int->a0X,assign_Tuple_tuple->a0Y,assign_Tuple->a0Z,tail_any->a1i
open PyProof.Rows.Boot renaming isinstance->Vq,list->VO,tuple->Zl,sum->Zm,str->Zn,sorted->Zo,range->Zp,min->Zq,max->Zr,len->Zs,int->Zt,dict->Zu,bool->Zv,all->Zw,ValueError->Zx
open PySem renaming Shared->SF,sizeLine->SK,wpAny_bind->S0,sizeLine_eq->S4,Program->Tc,wpAny->Ti,model->Tq,World->Ts,Around->Tt,starEach->Tu,wpAny_mono->TK,mainGlobals->TQ,wpAny_pure->TV,Heap->Ua,mem_of_lookup->Uc,FuncData->Ul,bootBuiltins->Ut,wpAny_truthy_bool->Uw,wpAny_Call_Name_kw->Uy,Pos->UA,compareOp->UB,Scope->UN,Params->UU,assignEach->UX,treeTable->U8,NameKind->Va,backTo->Vg,sliceBounds->Vi,wpAny_passesOwn->Vl,binaryOp->Vm,wpAny_pyIter_list->Vr,foldedSetIterable->Vs,sysModules->Vz,wpAny_holding->VH,behindInMarks->VI,IsRangeIter->VS,recursionLimit->VZ,compEnvC->V0,cLine->V1,Keyword->V7,swapsWith->Wg,wpAny_field->Wn,CmpOp->Wo,wpAny_execs_nil->Ws,rawInt->Wt,codeAny_mono->Wu,Env->Wx,wpAny_newObj_type->WB,wpAny_loadPart_at->WC,Paired->WK,SetTable->WR,DictEntry->WU,call_meets->W0,OsState->W4,letOwnedTupleGo->W5,excClassObj->Xd,BindsTo->Xl,wpAny_isSubtype_exc->Xm,attributeBase->Xu,wpAny_pyIter_tuple->Xy,wpAny_call->Xz,typeIs_str->XA,assign->XB,valueAt->XM,slot_list_getitem->XN,codeAny->XO,callerA->XQ,wpAny_execs_cons->XY,tupleKind->XZ,setFlight->X0,seqIndex?->X1,noteFrame->X2,isTrue->X3,cellsFrom->X5,PassesOwn->X8,subscripted->Yc,keywordEach->Yd,Model->Ye,getItem->Yj,wpAny_setField->Yq,wpAny_newFunctionEnv_cells->Yr,fitsIndex_both->Ys,bindL->Yt,bindC->Yu,bindArgs->Yv,atKey->Yw,Operator->Yz,wpAny_standAt->YM,wpAny_getItem_list_slice->YN,swappedStores->YO,ExceptHandler->YW,slicePick->YY,wpAny_pyNext_list_item->Zd,wpAny_Assign_Subscript->Ze,seqIndex_neg->Zg,pyNext->Zi,wpAny_pyNext_list_end->ZH,codeAny_call_function->ZI,unbindBehindTheSuite->ZQ,seqIndex_of->ZR,lookup_relabel_local->ZT,backToKw->ZU,IntMulOk->ZZ,GenState->Z0,wpAny_Name->Z6,typeIs_int->Z7,tupleKind_room_in1->Z8,sliceRange->Z9,pyIter->a0a,closureFor->a0b,builtinsNs->a0c,wpAny_pyIter_enum->a0h,wpAny_assign_Name->a0i,wpAny_Return_some->a0j,wpAny_Assign_Name->a0k,standAt->a0l,relabel->a0m,leaving->a0n,call_sum_walkAnyS->a0o,lastMarks->a0y,checkBuiltinCall->a0z,Tok->a0A,call->a0B,Arguments->a0N,wpAny_specialOf->a0O,importedModules->a0P,Sem->a0Q,wpAny_Expr_any->a1h,sliceRange_one->a1j,firstArgMember->a1l,IsPart->a1n
open PySem.Around renaming frames_deeper->Yp
open PySem.Builtin.Int renaming intBits->SX,intTooBig->VD
open PySem.Builtin.List renaming listTooLong->Wf
open PySem.Builtin.Range renaming rangeSize->Xk
open PySem.Builtin.Str renaming occurrences->T3,strSliceIndices->Uv,glued->UI,tooLong->VT,subAt->a1q
open PySem.Builtin.Tuple renaming tupleHashOf->a0M
open PySem.Calls renaming Name_function_global->XT,evalArgs_plain->YE
open PySem.Challenge renaming rw_creasecourt_k30_corners_refused->SG,pw_creasecourt_k30_corners_refused->TZ
open PySem.Data renaming fields->SR,dict->Th,cls->Ui,seq->Xj,cell->a1p
open PySem.EntryCells renaming newEntry->Yb
open PySem.F renaming excBase_ValueError->XD
open PySem.Heap renaming lt_size->SO,get?_push_of_some->SS,get?_push_size->Tf,get?_update_other->Us,get?_update_self->Vj,size_push->VL,get?_none_of_le->WY,SameBut->Xi,ExtBut->YL
open PySem.Heap.DictOf renaming new->a1o
open PySem.Heap.IsSliceOf renaming new->XJ
open PySem.Heap.IsTuple renaming push->W2
open PySem.Heap.SameBut renaming refl->a1g
open PySem.NameKind renaming free->UR,cell->U1
open PySem.Obj renaming isFreed_of_fields->WS,mapSeq->Xe,data_mapFields->Xf,mapFields->a0t
open PySem.Paired renaming length->W3,snoc->a0d
open PySem.PassesOwn renaming never->YG
open PySem.SeqAt renaming ne_of_list_tuple->UT
open PySem.SetTable renaming below->T5,has->XU,slot->Zj
open PySem.SetTable.below renaming go->V3
open PySem.SetTable.layClean renaming free->Wb
open PySem.SetTable.probe renaming go->V2
open PySem.Str renaming ofString->SQ,length->X7
open PySem.StrLaws renaming occBody->Y0
open PySem.Value renaming type->Sv,builtin->SJ,bool->Ta,int->Tg,ref->TL,none->Uk,str->Xo,isStrOf->Z1,isInt->a0r
open PySem.W renaming Frag->Sw,behindTheImports->Tj,fnOf->TY,keepIn->T6,boot_drawn->Uq,nsIn->Uz,findIn->UJ,kia_one->UM,mg_of->Vu,boot_heap->VR,kitOne->Wh,codeIn->Wi,callWith_K->Wj,specialIn->Wq,topFrame->Wy,cellsFrom_some->Wz,notCls->WH,InstAt->WI,excIn->WV,methodObj->W8,hashAt->X4,boot_toks->X6,looks_findIn->Yi,codeRec_of->Yy,kitx_list->YF,plainGet->YQ,takesIn->Y1,instObj->Y2,findObj->Y3,OpenLaw->Y4,segRun->Zh,kitAny->Zk,mroIn->ZJ,WalkO->ZK,piecesOf->ZS,isFn->ZV,kHook->a1k
open PySem.W.Looks renaming here->VU
open PySem.W.OpenLaw renaming row->Uj
open PySem.W.OpenRow renaming toRowW->Zy
open PySem.W.RowW renaming records->a0s
open PySem.W.WData renaming int->V8,weightAll->Wl,layable->Xv,weight->XC,layableAll->a0C
open PySem.W.WShape renaming has->a0q
open PySem.Walks renaming list->XR,tuple->a0p
open Sum renaming inl->W6,inr->Xp
open True renaming intro->VW
local macro_rules|`(tactic| omega) => `(tactic| lia)
set_option compiler.extract_closed false
set_option bootstrap.genMatcherCode false
set_option Elab.async false
set_option linter.all false
set_option maxRecDepth 100000
set_option linter.all false
namespace L2
open PySem PySem.Spec PyProof.Rows
noncomputable abbrev aR:=Sum Int Str
noncomputable def lI:aR->Value->Bool
 | .inl k,v=>a0r k v
 | .inr x,v=>Z1 x v
noncomputable def z5 (w:Ts):aR->Int
 | .inl k=>hashInt k
 | .inr x=>hashStr w x
theorem jK:∀ {k:aR}{v:Value},lI k v=true->(∃ i t,k=W6 i/\v=Tg i t)\/(∃ x t,k=Xp x/\v=Xo x t)
 | .inl i,v,h=>by
  obtain ⟨t,e⟩:=Value.isInt_shape (k:=i) (v:=v) h
  exact .inl ⟨i,t,rfl,e⟩
 | .inr x,v,h=>by
  obtain ⟨t,e⟩:=Value.isStrOf_shape (x:=x) (v:=v) h
  exact .inr ⟨x,t,rfl,e⟩
theorem EX (i:Int)(t:a0A):lI (.inl i) (.int i t)=true:=by simp [lI,a0r]
theorem EY (x:Str)(t:a0A):lI (.inr x) (.str x t)=true:=by simp [lI,Z1]
theorem EZ (a b:Int):decide ((W6 a:aR)=W6 b)=(a == b):=by
 by_cases e:a=b
 ·subst e;simp
 ·have h:¬ (W6 a:aR)=W6 b:=fun q=>e (Sum.inl.inj q)
  rw [decide_eq_false h]
  exact (beq_eq_false_iff_ne.mpr e).symm
theorem E4 (a b:Str):decide ((Xp a:aR)=Xp b)=decide (a=b):=by
 by_cases e:a=b
 ·subst e;simp
 ·have h:¬ (Xp a:aR)=Xp b:=fun q=>e (Sum.inr.inj q)
  rw [decide_eq_false h,decide_eq_false e]
theorem E6 (a:Int)(b:Str):decide ((W6 a:aR)=Xp b)=false:=decide_eq_false (fun q=>nomatch q)
theorem E7 (a:Str)(b:Int):decide ((Xp a:aR)=W6 b)=false:=decide_eq_false (fun q=>nomatch q)
noncomputable def d7 (prog:Tc)(w:Ts):PySem.KeyKind prog w aR where
 is:=lI
 hash:=z5 w
 inj:=fun v a b l d=>by
  rcases jK l with ⟨i,t,rfl,rfl⟩|⟨x,t,rfl,rfl⟩
  ·rcases jK d with ⟨j,u,rfl,e⟩|⟨y,u,rfl,e⟩
   ·injection e with e1 _;rw [e1]
   ·exact nomatch e
  ·rcases jK d with ⟨j,u,rfl,e⟩|⟨y,u,rfl,e⟩
   ·exact nomatch e
   ·injection e with e1 _;rw [e1]
 byValue:=fun k v h=>by
  rcases jK h with ⟨i,t,rfl,rfl⟩|⟨x,t,rfl,rfl⟩<;>rfl
 pyHash:=fun c h=>by
  rcases jK c with ⟨i,t,rfl,rfl⟩|⟨x,t,rfl,rfl⟩
  ·exact wpAny_pyHash_int h
  ·exact wpAny_pyHash_str h
 eqBool:=fun m c h=>by
  rcases jK m with ⟨i,t,rfl,rfl⟩|⟨x,t,rfl,rfl⟩
  ·rcases jK c with ⟨j,u,rfl,rfl⟩|⟨y,u,rfl,rfl⟩
   ·rw [EZ] at h;exact wpAny_eqBool_int h
   ·rw [E6] at h;exact SeqAt.EqAt.int_str i t y u _ _ _ _ h
  ·rcases jK c with ⟨j,u,rfl,rfl⟩|⟨y,u,rfl,rfl⟩
   ·rw [E7] at h;exact SeqAt.EqAt.str_int x t j u _ _ _ _ h
   ·rw [E4] at h;exact wpAny_eqBool_str h
 «strs»:=fun k x t v h=>by
  rcases jK h with ⟨i,u,rfl,e⟩|⟨y,u,rfl,e⟩
  ·exact nomatch e
  ·injection e with e1 _
   subst e1
   cases v<;>rfl
theorem Fb (prog:Tc)(w:Ts)(i:Int)(t:a0A):(d7 prog w).is (.inl i) (.int i t)=true:=EX i t
theorem Fc (prog:Tc)(w:Ts)(x:Str)(t:a0A):(d7 prog w).is (.inr x) (.str x t)=true:=EY x t
end L2
namespace L2
open PySem PySem.Spec PyProof.Rows
inductive V where
 | non|bl (b:Bool)|int (i:Int)|str (x:Str)|byt (b:Array UInt8)|flt (b:UInt64)|ref (a:Addr)|ty (n:String)
 deriving DecidableEq
noncomputable def RelV:V->Value->Prop
 | .non,u=>u=Uk
 | .bl b,u=>u=Ta b
 | .int i,u=>∃ t,u=Tg i t
 | .str x,u=>∃ t,u=Xo x t
 | .byt b,u=>∃ t,u=Value.bytes b t
 | .flt b,u=>∃ t,u=Value.float b t
 | .ref a,u=>u=TL a
 | .ty n,u=>u=Sv n
noncomputable abbrev Vals:List V->List Value->Prop:=WK RelV
theorem Vals.length {xs:List V}{us:List Value}(r:Vals xs us):xs.length=us.length:=W3 r
theorem Vals.get:∀ {xs:List V}{us:List Value}{i:Nat}{x:V},Vals xs us->xs[i]? = some x->∃ u,us[i]? = some u/\RelV x u
 | _,_,_,_,.nil,e=>by simp at e
 | _,_,0,_,.cons r _,e=>by simp at e;subst e;exact ⟨_,rfl,r⟩
 | _,_,i+1,x,.cons _ t,e=>by
  obtain ⟨u,a,c⟩:=Vals.get (i:=i) (x:=x) t (by simpa using e)
  exact ⟨u,by simpa using a,c⟩
theorem Vals.set {x:V}{u:Value}(r:RelV x u):∀ {xs:List V}{us:List Value}(i:Nat),Vals xs us->Vals (xs.set i x) (us.set i u)
 | _,_,_,.nil=>.nil
 | _,_,0,.cons _ t=>.cons r t
 | _,_,i+1,.cons q t=>.cons q (Vals.set r i t)
theorem Vals.append:∀ {xs c:List V}{us a:List Value},Vals xs us->Vals c a->Vals (xs++c) (us++a)
 | _,_,_,_,.nil,s=>s
 | _,_,_,_,.cons r t,s=>.cons r (Vals.append t s)
theorem Vals.take:∀ {xs:List V}{us:List Value}(n:Nat),Vals xs us->Vals (xs.take n) (us.take n)
 | _,_,0,_=>.nil
 | _,_,_+1,.nil=>.nil
 | _,_,n+1,.cons r t=>.cons r (Vals.take n t)
theorem Vals.drop:∀ {xs:List V}{us:List Value}(n:Nat),Vals xs us->Vals (xs.drop n) (us.drop n)
 | _,_,0,r=>r
 | _,_,_+1,.nil=>.nil
 | _,_,n+1,.cons _ t=>Vals.drop n t
noncomputable def RelO:Option V->Option Value->Prop
 | some v,some u=>RelV v u
 | none,none=>True
 | _,_=>False
noncomputable def KV {a:Type}:List (a×V)->List (a×Value)->Prop:=WK fun (p:a×V)(q:a×Value)=>p.1=q.1/\RelV p.2 q.2
noncomputable def kV:aR->V
 | .inl i=>.int i
 | .inr x=>.str x
inductive HO where
 | lst (xs:List V)
 | tup (xs:List V)
 | dK (kvs:List (aR×V))|dT (kvs:List (List aR×V))
 | set (S:Int->Bool)(n:Nat)
 | ins (C dx:Addr)(fs:List (Str×V))
 | own (x:Addr)
 | xd (fs:List (Str×V))
 | met (f x:Addr)
 | rng (lo hi:Int)
 | frz (o:Obj)(u:HO)
 | tbl (ps:Array Value)
 | ext (φ:Ua->Prop)
noncomputable abbrev Hp:=Addr->Option HO
noncomputable def bA (H:Hp)(a:Addr)(o:HO):Hp:=fun b=>if b=a then some o else H b
theorem dX {H:Hp}{a:Addr}{o:HO}:bA H a o a=some o:=by unfold bA;rw [if_pos rfl]
theorem bX {H:Hp}{a b:Addr}{o:HO}(h:b≠a):bA H a o b=H b:=by unfold bA;rw [if_neg h]
theorem Fd {H:Hp}{a b:Addr}{o u:HO}(h:H a=some o)(h':H b=some u)(d:o≠u):a≠b:=by
 intro e;subst e;rw [h] at h';exact d (S8 h')
theorem gO {H:Hp}{a b:Addr}{o:HO}(h:H a=some o)(h':H b=none):a≠b:=by
 intro e;subst e;rw [h] at h';cases h'
section
variable (P:Tc)(w:Ts)
noncomputable def TupN (h:Ua)(a:Addr)(xs:Array Value):Prop:=∃ o,h.get? a=some o/\o.cls=.type "tuple"/\∃ n,o.data=.seq xs n/\o.dict=none
theorem TupN.tup {h:Ua}{a:Addr}{xs:Array Value}(x:TupN h a xs):IsTup h a xs:=let ⟨o,e,c,n,d,_⟩:=x;⟨o,e,c,n,d⟩
theorem TupN.new (h:Ua)(a:Array Value):TupN (h.push { cls:=.type "tuple",data:=.seq a }) h.objs.size a:=⟨_,Tf _ rfl,rfl,_,rfl,rfl⟩
noncomputable def ObjOk (H:Hp)(h:Ua)(a:Addr):HO->Prop
 | .lst d=>d.length<=SK/\∃ (c:List Value)(n:Nat),Vals d c/\h.get? a=some { cls:=.type "list",data:=.seq c.toArray n }
 | .tup d=>d.length<=SK/\∃ c:List Value,Vals d c/\TupN h a c.toArray
 | .dK kvs=>kvs.length<=SK/\(a == Vz)=false/\∃ m,KV kvs m/\h.DictOf (d7 P w) a m
 | .dT kvs=>kvs.length<=SK/\(a == Vz)=false/\∃ d:List (List aR×Addr×Value),
   WK (fun (p:List aR×V)(q:List aR×Addr×Value)=>p.1=q.1/\H q.2.1=some (.tup (p.1.map kV))/\RelV p.2 q.2.2) kvs d /\
   ∃ o i r,h.get? a=some o/\o.ExactDict/\o.data=.dict i r/\i.toList=d.map (entryOfKey (XZ (d7 P w)))/\(d.map (·.1)).Nodup
 | .set S n=>h.SetOf (intKind P w) a S n
 | .ins C dx fs=>H dx=some (.own a)/\fs.length<=1000/\dx≠a/\h.get? a=some (Y2 C dx) /\
   ∃ e,h.Ns1 dx e/\(∀ f,RelO (fs.lookup f) (e f))/\PySem.Within e (fs.map (·.1))
 | .own _=>∃ o,h.get? a=some o
 | .xd fs=>∃ e,h.Ns1 a e/\∀ f,RelO (fs.lookup f) (e f)
 | .rng lo hi=>∃ t u v,h.get? a=some { cls:=.type "range",data:=.fields #[.int lo t,.int hi u,.int 1 v] }
 | .frz o u=>h.get? a=some o/\ObjOk H h a u
 | .tbl ps=>h.get? a=some { cls:=.none,data:=.fields ps }
 | .met f x=>h.get? a=some (W8 (.ref f) (.ref x))
 | .ext φ=>φ h/\(∃ o,h.get? a=some o)/\∀ j l:Ua,φ j->(∀ o,j.get? a=some o->l.get? a=some o)->φ l
noncomputable def HOk (H:Hp)(h:Ua):Prop:=∀ a o,H a=some o->ObjOk P w H h a o
end
section
variable {P:Tc}{w:Ts}{H H':Hp}{h h':Ua}{a:Addr}{o:HO}
theorem ObjOk.lt (x:ObjOk P w H h a o):a<h.objs.size:=by
 cases o with
 | lst d=>obtain ⟨_,_,_,_,e⟩:=x;exact SO e
 | tup d=>obtain ⟨_,_,_,p⟩:=x;exact p.tup.lt
 | dK c=>obtain ⟨_,_,_,_,o,_,_,e,_⟩:=x;exact SO e
 | dT c=>obtain ⟨_,_,_,_,o,_,_,e,_⟩:=x;exact SO e
 | set S n=>obtain ⟨o,_,_,_,e,_⟩:=x;exact SO e
 | ins C i fs=>obtain ⟨_,_,_,e,_⟩:=x;exact SO e
 | own y=>obtain ⟨_,e⟩:=x;exact SO e
 | xd fs=>obtain ⟨_,⟨_,_,_,e,_⟩,_⟩:=x;exact SO e
 | rng l j=>obtain ⟨_,_,_,e⟩:=x;exact SO e
 | frz m u=>obtain ⟨e,_⟩:=x;exact SO e
 | tbl q=>exact SO (show h.get? a=some _ from x)
 | met f y=>exact SO (show h.get? a=some _ from x)
 | ext r=>obtain ⟨_,⟨_,e⟩,_⟩:=x;exact SO e
theorem WK.mapP {c d:Type}{F G:c->d->Prop}:∀ {l₁:List c}{l₂:List d},WK F l₁ l₂->(∀ a b,F a b->G a b)->WK G l₁ l₂
 | _,_,.nil,_=>.nil
 | _,_,.cons r t,f=>.cons (f _ _ r) (WK.mapP t f)
theorem ObjOk.stay (x:ObjOk P w H h a o)(k:∀ b u,(b=a\/H b=some (.own a))->h.get? b=some u->h'.get? b=some u)
  (J:∀ b,H b=some (.own a)->H' b=some (.own a))(K:∀ b s,H b=some (.tup s)->H' b=some (.tup s)):ObjOk P w H' h' a o:=by
 induction o with
 | lst s=>obtain ⟨z,m,n,r,e⟩:=x;exact ⟨z,m,n,r,k _ _ (.inl rfl) e⟩
 | tup s=>obtain ⟨z,m,r,i,e,c⟩:=x;exact ⟨z,m,r,i,k _ _ (.inl rfl) e,c⟩
 | dK A=>obtain ⟨z,y,M,r,i,l,j,e,c⟩:=x;exact ⟨z,y,M,r,i,l,j,k _ _ (.inl rfl) e,c⟩
 | dT A=>
  obtain ⟨z,y,s,r,i,l,j,e,c⟩:=x
  exact ⟨z,y,s,WK.mapP r fun p q z=>⟨z.1,K _ _ z.2.1,z.2.2⟩,i,l,j,k _ _ (.inl rfl) e,c⟩
 | set S n=>obtain ⟨i,l,j,t,e,c⟩:=x;exact ⟨i,l,j,t,k _ _ (.inl rfl) e,c⟩
 | ins C N fs=>
  obtain ⟨d,z,ne,e,B,⟨E,l,j,I,c⟩,r⟩:=x
  exact ⟨J _ d,z,ne,k _ _ (.inl rfl) e,B,⟨E,l,j,k _ _ (.inr d) I,c⟩,r⟩
 | own y=>obtain ⟨i,e⟩:=x;exact ⟨i,k _ _ (.inl rfl) e⟩
 | xd fs=>obtain ⟨B,⟨E,l,j,e,c⟩,r⟩:=x;exact ⟨B,⟨E,l,j,k _ _ (.inl rfl) e,c⟩,r⟩
 | rng Q O=>obtain ⟨t,u,v,e⟩:=x;exact ⟨t,u,v,k _ _ (.inl rfl) e⟩
 | frz i u L=>obtain ⟨e,q⟩:=x;exact ⟨k _ _ (.inl rfl) e,L q⟩
 | tbl G=>
  have e:h.get? a=some { cls:=.none,data:=.fields G }:=x
  show h'.get? a=some { cls:=.none,data:=.fields G }
  exact k a _ (.inl rfl) e
 | met f y=>
  have e:h.get? a=some (W8 (.ref f) (.ref y)):=x
  show h'.get? a=some (W8 (.ref f) (.ref y))
  exact k a _ (.inl rfl) e
 | ext R=>obtain ⟨p,⟨o,e⟩,st⟩:=x;exact ⟨st _ _ p fun o q=>k _ _ (.inl rfl) q,⟨o,k _ _ (.inl rfl) e⟩,st⟩
theorem HOk.lt (x:HOk P w H h)(e:H a=some o):a<h.objs.size:=(x a o e).lt
theorem HOk.fresh (x:HOk P w H h)(e:h.objs.size<=a):H a=none:=by
 cases q:H a with
 | none=>rfl
 | some u=>exact absurd (S6 (x.lt q) e) (UL _)
theorem HOk.kept (x:HOk P w H h)(k:∀ b u,h.get? b=some u->h'.get? b=some u):HOk P w H h':=fun a o e=>
 (x a o e).stay (fun b u _ q=>k b u q) (fun _ q=>q) fun _ _ q=>q
theorem HOk.laid (x:HOk P w H h)(k:∀ b u,h.get? b=some u->h'.get? b=some u)(j:h.objs.size<=a)(new:ObjOk P w (bA H a o) h' a o):HOk P w (bA H a o) h':=fun b u e=>by
 have i:=x.fresh j
 by_cases d:b=a
 ·subst d;rw [dX] at e;cases e;exact new
 ·rw [bX d] at e
  exact (x b u e).stay (fun c v _ q=>k c v q) (fun c q=>by rw [bX (gO q i)];exact q) fun c l q=>by rw [bX (gO q i)];exact q
end
noncomputable def Rd (H:Hp)(a:Addr)(u:HO):Prop:=H a=some u\/∃ o,H a=some (.frz o u)
theorem Rd.of {H:Hp}{a:Addr}{u:HO}(h:H a=some u):Rd H a u:=.inl h
theorem Rd.ok {P:Tc}{w:Ts}{H:Hp}{h:Ua}{a:Addr}{u:HO}(r:Rd H a u)(x:HOk P w H h):ObjOk P w H h a u:=by
 rcases r with r|⟨o,r⟩
 ·exact x a u r
 ·obtain ⟨_,q⟩:=x a _ r
  exact q
noncomputable def oR:Option HO->Prop
 | some (.lst _)=>True
 | some (.dK _)=>True
 | some (.dT _)=>True
 | some (.set _ _)=>True
 | some (.ins _ _ _)=>True
 | some (.ext _)=>True
 | _=>False
section
variable {P:Tc}{w:Ts}{H:Hp}{h h':Ua}{x e:Addr}{o':HO}
theorem HOk.write (ok:HOk P w H h)(l:oR (H x))(o:e=x\/H e=some (.own x))(k:∀ b u,b≠e->h.get? b=some u->h'.get? b=some u)(n:∃ u,h'.get? e=some u)
  (new:ObjOk P w (bA H x o') h' x o'):HOk P w (bA H x o') h':=fun b u q=>by
 have d:∀ c y,H c=some (.own y)->c≠x:=fun c y r z=>by subst z;rw [r] at l;exact l
 have i:∀ c m,H c=some (.tup m)->c≠x:=fun c m r z=>by subst z;rw [r] at l;exact l
 by_cases j:b=x
 ·subst j;rw [dX] at q;cases q;exact new
 ·rw [bX j] at q
  by_cases a:b=e
  ·have p:H b=some (.own x):=by
    rcases o with z|z
    ·exact absurd (a.trans z) j
    ·rw [a];exact z
   rw [q] at p;cases p
   obtain ⟨v,s⟩:=n
   exact ⟨v,by rw [a];exact s⟩
  ·refine (ok b u q).stay (fun c v hc r=>k c v ?_ r) (fun c r=>by rw [bX (d c b r)];exact r) fun c m r=>by rw [bX (i c m r)];exact r
   rcases hc with rfl|hc
   ·exact a
   ·rintro rfl
    rcases o with z|z
    ·exact d c b hc z
    ·rw [hc] at z;cases z;exact j rfl
end
structure Un (fs ex:List Addr)(H H':Hp)(h h':Ua):Prop where
 keep:∀ b o,h.get? b=some o->H b=none->b∉fs->b∉ex->h'.get? b=some o
 slot:∀ b o,h.get? b=some o->H b=none->b∈fs->b∉ex->∃ sl,h'.get? b=some { o with slots:=sl }
 free:∀ b o,h.get? b=some o->H b=none->b∉ex->H' b=none
 there:∀ b o,h.get? b=some o->b∉ex->∃ o',h'.get? b=some o'
 tups:∀ b xs,H b=some (.tup xs)->H' b=some (.tup xs)
 frzs:∀ b o u,H b=some (.frz o u)->H' b=some (.frz o u)
 tbls:∀ b ps,H b=some (.tbl ps)->∃ more,H' b=some (.tbl (ps++more))
section
variable {fs fs' ex ex':List Addr}{H H1 H2:Hp}{h h1 h2 h':Ua}{a x e:Addr}{o:HO}
theorem Un.any (u:Un fs ex H H1 h h1){b:Addr}{c:Obj}(q:h.get? b=some c)(n:H b=none)(i:b∉ex):∃ j,h1.get? b=some { c with slots:=j }:=by
 by_cases d:b∈fs
 ·exact u.slot b c q n d i
 ·exact ⟨c.slots,u.keep b c q n d i⟩
theorem Un.trans (a:Un fs ex H H1 h h1)(b:Un fs ex H1 H2 h1 h2):Un fs ex H H2 h h2 where
 keep:=fun c i q n hc d=>b.keep c i (a.keep c i q n hc d) (a.free c i q n d) hc d
 slot:=fun c i q n hc d=>by
  obtain ⟨w,j⟩:=a.slot c i q n hc d
  obtain ⟨r,m⟩:=b.slot c _ j (a.free c i q n d) hc d
  exact ⟨r,m⟩
 free:=fun c i q n d=>by
  obtain ⟨p,j⟩:=a.there c i q d
  exact b.free c p j (a.free c i q n d) d
 there:=fun c i q d=>by
  obtain ⟨p,j⟩:=a.there c i q d
  exact b.there c p j d
 tups:=fun c l q=>b.tups c l (a.tups c l q)
 frzs:=fun c i l q=>b.frzs c i l (a.frzs c i l q)
 tbls:=fun c v q=>by
  obtain ⟨s,j⟩:=a.tbls c v q
  obtain ⟨u,m⟩:=b.tbls c _ j
  exact ⟨s++u,by rw [m,YX]⟩
theorem Un.kept (k:∀ b u,h.get? b=some u->h'.get? b=some u):Un fs ex H H h h':=
 ⟨fun b c q _ _ _=>k b c q,fun b c q _ _ _=>⟨c.slots,k b c q⟩,fun _ _ _ n _=>n,fun b c q _=>⟨c,k b c q⟩,fun _ _ q=>q,fun _ _ _ q=>q,fun _ d q=>⟨#[],by rw [q];simp⟩⟩
theorem Un.refl:Un fs ex H H h h:=Un.kept fun _ _ q=>q
theorem Un.laid (k:∀ b u,h.get? b=some u->h'.get? b=some u)(d:h.objs.size<=a)(c:H a=none):Un fs ex H (bA H a o) h h' where
 keep:=fun b u q _ _ _=>k b u q
 slot:=fun b u q _ _ _=>⟨u.slots,k b u q⟩
 free:=fun b u q n _=>by rw [bX (S9 (S6 (SO q) d))];exact n
 there:=fun b u q _=>⟨u,k b u q⟩
 tups:=fun b i q=>by rw [bX (gO q c)];exact q
 frzs:=fun b u i q=>by rw [bX (gO q c)];exact q
 tbls:=fun b j q=>⟨#[],by rw [bX (gO q c),q];simp⟩
theorem Un.write (d:oR (H x))(p:e=x\/H e=some (.own x))(k:∀ b u,b≠e->h.get? b=some u->h'.get? b=some u)(i:∃ u,h'.get? e=some u):Un fs ex H (bA H x o) h h':=by
 have m:∀ b,H b=none->b≠x:=fun b n z=>by subst z;rw [n] at d;exact d
 have l:∀ b,H b=none->b≠e:=fun b n z=>by
  subst z
  rcases p with r|r
  ·exact m b n r
  ·rw [n] at r;cases r
 have j:∀ b u,H b=some u->¬ oR (some u)->b≠x:=fun b u q s z=>by subst z;rw [q] at d;exact s d
 refine ⟨fun b u q n _ _=>k b u (l b n) q,fun b u q n _ _=>⟨u.slots,k b u (l b n) q⟩,fun b u q n _=>by rw [bX (m b n)];exact n,fun b u q _=>?_,
  fun b v q=>by rw [bX (j b _ q fun z=>z)];exact q,fun b u v q=>by rw [bX (j b _ q fun z=>z)];exact q,fun b w q=>⟨#[],by rw [bX (j b _ q fun z=>z),q];simp⟩⟩
 by_cases c:b=e
 ·subst c;exact i
 ·exact ⟨u,k b u c q⟩
theorem Un.mono (u:Un fs ex H H1 h h1)(l:∀ b∈fs,b∈fs')(i:∀ b∈ex,b∈ex'):Un fs' ex' H H1 h h1:=
 ⟨fun b d q n j c=>u.keep b d q n (fun z=>j (l b z)) fun z=>c (i b z),fun _ _ q n _ c=>u.any q n fun z=>c (i _ z),fun b d q n c=>u.free b d q n fun z=>c (i b z),fun b d q c=>u.there b d q fun z=>c (i b z),u.tups,u.frzs,u.tbls⟩
end
noncomputable def rJ (h:Ua)(H:Hp):List Addr:=(Td h.objs.size).filter fun a=>(H a).isSome
noncomputable def jL (h:Ua)(H:Hp):Ua:=PySem.W.hideAll h (rJ h H)
theorem Fe (h:Ua)(H:Hp):(jL h H).objs.size=h.objs.size:=PySem.W.hideAll_size _ _
theorem Ff {h:Ua}{H:Hp}{b:Addr}{o:Obj}(e:h.get? b=some o)(n:H b=none):(jL h H).get? b=some o:=
 PySem.W.hideAll_get _ e fun a=>by
  have q:(H b).isSome=true:=(U2.mp a).2
  rw [n] at q;simp at q
theorem Fg {h:Ua}{H:Hp}{b:Addr}{o:Obj}(e:(jL h H).get? b=some o):h.get? b=some o/\H b=none:=by
 have a:h.get? b=some o:=PySem.W.of_hideAll (rJ h H) e
 refine ⟨a,?_⟩
 cases q:H b with
 | none=>rfl
 | some x=>
  have c:b∈rJ h H:=U2.mpr ⟨Uh.mpr (SO a),by simp [q]⟩
  have z:(jL h H).get? b=none:=PySem.W.hideAll_none (rJ h H) c
  rw [z] at e;cases e
noncomputable def Fh (g h:Ua)(L:Addr):List (Addr×Obj):=(Td h.objs.size).filterMap fun a=>if a=L\/(g.get? a).isSome=true then none else (h.get? a).map fun o=>(a,o)
noncomputable def rest (g h:Ua)(L d:Addr):List (Addr×Obj):=(Fh g h L).filter fun p=>decide (p.1≠d)
end L2
namespace L2
open PySem PySem.Spec PyProof.Rows
structure Mod (K:Sw)(mg:Str->Option Value)(base:Ua):Prop where
 kin:K.In base
 glob:base.Ns TQ mg
 blt:∃ mb,base.Ns a0c mb/\∀ x:Str,x ≠ "__name__"->mb x=Ut x
 nolimit:base.NoLimit
structure Cx where
 prog:Tc
 w:Ts
 K:Sw
 mg:Str->Option Value
 base:Ua
 A:Tt
 N:List Str
 s₀:SF
 H₀:Hp
 env:Wx
 outer:List Wx
 stack:List Wx
 ex:List Addr
 fn:Str->Bool
 calm:Bool
 pn:List (Addr×Obj)
 xe:Value->SF->Prop
noncomputable def cX (l:List Wx):List Addr:=l.filterMap (·.frame)
noncomputable abbrev Cx.fs (X:Cx):List Addr:=cX X.outer
noncomputable def lJ (a:UN)(x:Str):Prop:=a.names.lookup x=some .local\/a.names.lookup x=some .cell\/a.names.lookup x=some .free
noncomputable def Loc (a:UN)(x:Str):Prop:=a.names.lookup x=some .local\/a.names.lookup x=some .cell
noncomputable def Fi (env:Wx)(h:Ua)(m:Str->Option Value)(x:Str)(u:Value):Prop:=
 (env.kindOf x=some .local/\m x=some u)\/((env.kindOf x=some .cell\/env.kindOf x=some .free)/\∃ c,env.cells.lookup x=some c/\h.IsCell c (some u))
structure Cx.Ok (X:Cx):Prop where
 mod:Mod X.K X.mg X.base
 kind:X.env.scope.kind=.function
 glob:X.env.globals=TQ
 blt:X.env.builtins=a0c
 above:X.s₀.heap.objs.size<=X.env.locals
 inj:∀ x y c,X.env.cells.lookup x=some c->X.env.cells.lookup y=some c->x=y
 has:∀ x,(X.env.kindOf x=some .cell\/X.env.kindOf x=some .free)->∃ c,X.env.cells.lookup x=some c
 cab:∀ x c,X.fn x=true->X.env.cells.lookup x=some c->X.s₀.heap.objs.size<=c
 hd:X.calm=true->X.A.handled=none
 frames:X.A.frames=some X.stack
 stk:X.stack=X.outer\/(X.stack=X.env::X.outer/\X.env.frame=some X.env.locals)
 exf:∀ b∈X.ex,b≠X.env.locals/\∀ x c,X.env.cells.lookup x=some c->c≠b
 bs:∀ b o,X.base.get? b=some o->X.s₀.heap.get? b=some o/\X.H₀ b=none
 bsz:X.base.objs.size<=X.s₀.heap.objs.size
 noex:∀ b o,X.base.get? b=some o->b∉X.ex
 exfs:∀ b∈X.ex,b∉X.fs
 funs:X.s₀.heap.FunFrames X.base X.outer
 frf:∀ b∈X.fs,X.H₀ b=none
structure Inv (X:Cx)(a1r:List (Addr×Obj))(σ:List (Option V))(H:Hp)(s:SF):Prop where
 ok:X.Ok
 os:s.os=X.s₀.os
 bare:WG s.gens
 base:Un X.fs X.ex X.H₀ H X.s₀.heap s.heap
 loc:∃ m,s.heap.Ns X.env.locals m/\∀ (i:Nat)(x:Str)(v:V),X.N[i]? = some x->σ[i]? = some (some v)->lJ X.env.scope x->∃ u,RelV v u/\Fi X.env s.heap m x u
 cell:∀ x c,X.env.cells.lookup x=some c->∃ v,s.heap.IsCell c v
 free:H X.env.locals=none
 freeC:∀ x c,X.env.cells.lookup x=some c->H c=none
 pin:∀ p∈X.pn++a1r,s.heap.get? p.1=some p.2/\H p.1=none/\p.1≠X.env.locals/\p.1∉X.fs/\∀ v,p.2.data≠.cell v
 hok:HOk X.prog X.w H s.heap
 len:σ.length=X.N.length
section
variable {X:Cx}{a1r:List (Addr×Obj)}{σ:List (Option V)}{H H':Hp}{s:SF}{h':Ua}
theorem Cx.Ok.nofr (ok:X.Ok){b:Addr}{o:Obj}(e:X.base.get? b=some o):b∉X.fs:=fun a=>by
 have:=(ok.funs.mem a).1
 rw [e] at this;cases this
theorem Inv.bs (I:Inv X a1r σ H s):∀ b o,X.base.get? b=some o->s.heap.get? b=some o/\H b=none:=fun b o e=>
 ⟨I.base.keep b o (I.ok.bs b o e).1 (I.ok.bs b o e).2 (I.ok.nofr e) (I.ok.noex b o e),I.base.free b o (I.ok.bs b o e).1 (I.ok.bs b o e).2 (I.ok.noex b o e)⟩
theorem Inv.bk (I:Inv X a1r σ H s):∀ b o,X.base.get? b=some o->s.heap.get? b=some o:=fun b o e=>(I.bs b o e).1
theorem Inv.mod (I:Inv X a1r σ H s):Mod X.K X.mg X.base:=I.ok.mod
theorem Inv.kIn (I:Inv X a1r σ H s):X.K.In s.heap:=I.ok.mod.kin.keeps I.bk
theorem Inv.nolimit (I:Inv X a1r σ H s):s.heap.NoLimit:=I.ok.mod.nolimit.keeps I.bk
theorem Inv.fr (I:Inv X a1r σ H s):∃ m,Fr X.base X.env.locals s.heap m:=
 let ⟨m,a,_⟩:=I.loc
 ⟨m,a,I.bk,TX I.ok.bsz I.ok.above⟩
theorem Inv.lt (I:Inv X a1r σ H s):X.env.locals<s.heap.objs.size:=let ⟨_,a,_⟩:=I.loc;a.lt
theorem Inv.sz (I:Inv X a1r σ H s):X.s₀.heap.objs.size<=s.heap.objs.size:=TX I.ok.above (YA I.lt)
theorem Inv.nofs (I:Inv X a1r σ H s){a:Addr}(h:s.heap.objs.size<=a):a∉X.fs:=fun c=>by
 obtain ⟨_,o,d,_⟩:=I.ok.funs.mem c
 exact absurd (S6 (SO d) (TX I.sz h)) (UL _)
theorem Inv.cne (I:Inv X a1r σ H s):∀ x c,X.env.cells.lookup x=some c->c≠X.env.locals:=fun x c e z=>by
 obtain ⟨v,o,h,hd⟩:=I.cell x c e
 obtain ⟨m,⟨l,j,i,d,a,_⟩,_⟩:=I.loc
 rw [z,d] at h;cases h;rw [a] at hd;cases hd
theorem Inv.funs (I:Inv X a1r σ H s):s.heap.FunFrames X.base X.outer:=by
 have all:∀ (l:List Wx),(∀ b∈cX l,b∈X.fs)->X.s₀.heap.FunFrames X.base l->s.heap.FunFrames X.base l:=by
  intro l
  induction l with
  | nil=>intro _ _;trivial
  | cons i r u=>
   intro h m
   obtain ⟨j,⟨L,o,d,n,p,hd⟩,q⟩:=m
   have a:L∈X.fs:=h L (by unfold cX;rw [US,d];exact UH)
   obtain ⟨v,e⟩:=I.base.slot L o p (I.ok.frf L a) a fun z=>I.ok.exfs L z a
   exact ⟨j,⟨L,_,d,n,e,hd⟩,u (fun b c=>h b (by unfold cX;rw [US,d];exact Ur _ c)) q⟩
 exact all X.outer (fun _ c=>c) I.ok.funs
theorem Inv.stack (I:Inv X a1r σ H s):s.heap.FunFrames X.base X.stack:=by
 rcases I.ok.stk with e|⟨e,a⟩
 ·rw [e];exact I.funs
 ·rw [e]
  obtain ⟨m,c,_⟩:=I.loc
  refine .cons (by rw [I.ok.kind];decide) a c ?_ I.funs
  exact WY (TX I.ok.bsz I.ok.above)
theorem Inv.stkSub (I:Inv X a1r σ H s):∀ b∈cX X.stack,b∈X.env.locals::X.fs:=fun b a=>by
 rcases I.ok.stk with e|⟨e,c⟩
 ·rw [e] at a;exact Ur _ a
 ·rw [e] at a
  unfold cX at a
  rw [US,c] at a
  exact a
theorem Inv.stkFree (I:Inv X a1r σ H s):∀ b∈cX X.stack,H b=none:=fun b a=>by
 rcases TH.mp (I.stkSub b a) with e|a
 ·rw [e];exact I.free
 ·obtain ⟨_,o,c,_⟩:=I.ok.funs.mem a
  exact I.base.free b o c (I.ok.frf b a) fun z=>I.ok.exfs b z a
theorem Inv.step {g':Array Z0}{t':Nat}{d':Drawn}{ch:List Addr}(I:Inv X a1r σ H s)
  (j:∀ b∈ch,(b∈X.ex\/X.s₀.heap.objs.size<=b)/\b≠X.env.locals/\(∀ x c,X.env.cells.lookup x=some c->c≠b)/\∀ p∈X.pn++a1r,p.1≠b)
  (w:∀ b o,b≠X.env.locals->b∉X.fs->b∉ch->s.heap.get? b=some o->H b=none->h'.get? b=some o)
  (slot:∀ b o,b≠X.env.locals->b∈X.fs->b∉ch->s.heap.get? b=some o->H b=none->∃ Y,h'.get? b=some { o with slots:=Y })(free:∀ b o,b∉ch->s.heap.get? b=some o->H b=none->H' b=none)
  (J:∀ b o,b∉ch->s.heap.get? b=some o->∃ Q,h'.get? b=some Q)
  (T:∀ b E,H b=some (.tup E)->H' b=some (.tup E))(M:∀ b o u,H b=some (.frz o u)->H' b=some (.frz o u))(R:∀ b U,H b=some (.tbl U)->∃ N,H' b=some (.tbl (U++N)))
  (ns:∀ m,s.heap.Ns X.env.locals m->h'.Ns X.env.locals m)(hok:HOk X.prog X.w H' h')(hg:WG g') :
  Inv X a1r σ H' { s with heap:=h',gens:=g',drawn:=d',toks:=t' }:=by
 have O:∀ b o,X.s₀.heap.get? b=some o->b≠X.env.locals:=fun b o e=>S9 (S6 (SO e) I.ok.above)
 have B:∀ b o,X.s₀.heap.get? b=some o->b∉X.ex->b∉ch:=fun b o e a G=>by
  rcases (j b G).1 with z|z
  ·exact a z
  ·exact absurd (S6 (SO e) z) (UL _)
 have h:∀ x c,X.env.cells.lookup x=some c->∀ v,s.heap.IsCell c v->h'.IsCell c v:=fun x c e v ⟨o,K,hd⟩=>by
  have y:c∉ch:=fun z=>(j c z).2.2.1 x c e rfl
  by_cases hc:c∈X.fs
  ·obtain ⟨Y,q⟩:=slot c o (I.cne x c e) hc y K (I.freeC x c e)
   exact ⟨_,q,hd⟩
  ·exact ⟨o,w c o (I.cne x c e) hc y K (I.freeC x c e),hd⟩
 refine ⟨I.ok,I.os,hg,⟨fun b o e n G a=>?_,fun b o e n G a=>?_,fun b o e n a=>?_,fun b o e a=>?_,fun b E e=>T b E (I.base.tups b E e),fun b o E e=>M b o E (I.base.frzs b o E e),fun b U e=>?_⟩,?_,fun x c e=>?_,?_,fun x c e=>?_,fun p hp=>?_,hok,I.len⟩
 ·exact w b o (O b o e) G (B b o e a) (I.base.keep b o e n G a) (I.base.free b o e n a)
 ·obtain ⟨Y,A⟩:=I.base.slot b o e n G a
  obtain ⟨Z,L⟩:=slot b _ (O b o e) G (B b o e a) A (I.base.free b o e n a)
  exact ⟨Z,L⟩
 ·obtain ⟨Q,A⟩:=I.base.there b o e a
  exact free b Q (B b o e a) A (I.base.free b o e n a)
 ·obtain ⟨Q,A⟩:=I.base.there b o e a
  exact J b Q (B b o e a) A
 ·obtain ⟨m1,A⟩:=I.base.tbls b U e
  obtain ⟨m2,L⟩:=R b _ A
  exact ⟨m1++m2,by rw [L,YX]⟩
 ·obtain ⟨m,hn,hl⟩:=I.loc
  refine ⟨m,ns m hn,fun i x v A L e3=>?_⟩
  obtain ⟨u,r,l⟩:=hl i x v A L e3
  refine ⟨u,r,?_⟩
  rcases l with l|⟨k,c,e,z⟩
  ·exact .inl l
  ·exact .inr ⟨k,c,e,h x c e _ z⟩
 ·obtain ⟨v,z⟩:=I.cell x c e
  exact ⟨v,h x c e v z⟩
 ·obtain ⟨m,⟨o,_,_,K,_⟩,_⟩:=I.loc
  exact free _ o (fun z=>(j _ z).2.1 rfl) K I.free
 ·obtain ⟨v,o,K,hd⟩:=I.cell x c e
  exact free c o (fun z=>(j c z).2.2.1 x c e rfl) K (I.freeC x c e)
 ·obtain ⟨e,n,ne,nf,d⟩:=I.pin p hp
  have y:p.1∉ch:=fun z=>(j p.1 z).2.2.2 p hp rfl
  exact ⟨w p.1 p.2 ne nf y e n,free p.1 p.2 y e n,ne,nf,d⟩
theorem Inv.un {t':Nat}(I:Inv X a1r σ H s)(u:Un X.fs [] H H' s.heap h')(hok:HOk X.prog X.w H' h'):Inv X a1r σ H' { s with heap:=h',toks:=t' }:=by
 obtain ⟨m,⟨o,v,q,i,r⟩,_⟩:=id I.loc
 obtain ⟨y,j⟩:=u.any i I.free (by simp)
 exact I.step (g':=s.gens) (d':=s.drawn) (ch:=[]) (fun _ z=>nomatch z) (fun b o _ h _ e n=>u.keep b o e n h (by simp)) (fun b o _ h _ e n=>u.slot b o e n h (by simp)) (fun b o _ e n=>u.free b o e n (by simp)) (fun b o _ e=>u.there b o e (by simp)) u.tups u.frzs u.tbls (fun w l=>by
  obtain ⟨x,d,c,a,p⟩:=l
  rw [i] at a;cases a
  exact ⟨_,d,c,j,p⟩) hok I.bare
theorem Inv.call {g':Array Z0}{t':Nat}{d':Drawn}{ch:List Addr}(I:Inv X a1r σ H s)(u:Un (cX X.stack) ch H H' s.heap h')(hok:HOk X.prog X.w H' h')(v:WG g')
  (a:∀ b∈ch,(b∈X.ex\/X.s₀.heap.objs.size<=b)/\b≠X.env.locals/\(∀ x c,X.env.cells.lookup x=some c->c≠b)/\∀ p∈X.pn++a1r,p.1≠b) :
  Inv X a1r σ H' { s with heap:=h',gens:=g',drawn:=d',toks:=t' }:=by
 obtain ⟨m,⟨o,B,A,l,r⟩,_⟩:=id I.loc
 obtain ⟨J,j⟩:=u.any l I.free fun z=>(a _ z).2.1 rfl
 exact I.step (ch:=ch) a (fun b o j q hc e n=>u.keep b o e n (fun z=>(TH.mp (I.stkSub b z)).elim j q) hc) (fun b o _ _ hc e n=>u.any e n hc) (fun b o hc e n=>u.free b o e n hc) (fun b o hc e=>u.there b o e hc) u.tups u.frzs u.tbls (fun E w=>by
  obtain ⟨G,i,h,d,y⟩:=w
  rw [l] at d;cases d
  exact ⟨_,i,h,j,y⟩) hok v
theorem Inv.turned {t':Nat}{a:Addr}(I:Inv X a1r σ H s)(k:∀ b o,b≠a->s.heap.get? b=some o->h'.get? b=some o)(E:H a=none)(h:a≠X.env.locals)
  (l:a∈X.ex\/X.s₀.heap.objs.size<=a)(w:∀ x c,X.env.cells.lookup x=some c->c≠a)(y:∀ p∈X.pn++a1r,p.1≠a):Inv X a1r σ H { s with heap:=h',toks:=t' }:=by
 have d:∀ b u,H b=some u->b≠a:=fun b u e z=>by rw [z,E] at e;cases e
 refine I.step (g':=s.gens) (d':=s.drawn) (ch:=[a]) (fun b A=>?_) (fun b o _ _ hc e _=>k b o (fun z=>hc (by simp [z])) e) (fun b o _ _ hc e _=>⟨o.slots,k b o (fun z=>hc (by simp [z])) e⟩) (fun _ _ _ _ n=>n)
  (fun b o hc e=>⟨o,k b o (fun z=>hc (by simp [z])) e⟩) (fun _ _ e=>e) (fun _ _ _ e=>e) (fun b J e=>⟨#[],by rw [e];simp⟩) (fun m B=>?_) (fun b u e=>?_) I.bare
 ·have e:b=a:=by simpa using A
  subst e
  exact ⟨l,h,w,y⟩
 ·obtain ⟨o,j,i,G,r⟩:=B
  exact ⟨o,j,i,k _ o (Ux h) G,r⟩
 ·refine (I.hok b u e).stay (fun c v hc q=>k c v ?_ q) (fun _ q=>q) fun _ _ q=>q
  rcases hc with z|z
  ·rw [z];exact d b u e
  ·exact d c _ z
theorem Inv.tok (I:Inv X a1r σ H s)(t:Nat):Inv X a1r σ H { s with toks:=t }:=I.un (h':=s.heap) (t':=t) Un.refl I.hok
theorem Inv.kept {t':Nat}(I:Inv X a1r σ H s)(k:∀ b u,s.heap.get? b=some u->h'.get? b=some u):Inv X a1r σ H { s with heap:=h',toks:=t' }:=I.un (Un.kept k) (I.hok.kept k)
theorem Inv.laid {a:Addr}{o:HO}{t':Nat}(I:Inv X a1r σ H s)(k:∀ b u,s.heap.get? b=some u->h'.get? b=some u)(c:s.heap.objs.size<=a)(new:ObjOk X.prog X.w (bA H a o) h' a o) :
  Inv X a1r σ (bA H a o) { s with heap:=h',toks:=t' }:=I.un (Un.laid k c (I.hok.fresh c)) (I.hok.laid k c new)
theorem Inv.write {x e:Addr}{o:HO}{t':Nat}(I:Inv X a1r σ H s)(d:oR (H x))(c:e=x\/H e=some (.own x))(k:∀ b u,b≠e->s.heap.get? b=some u->h'.get? b=some u)(a:∃ u,h'.get? e=some u)
  (new:ObjOk X.prog X.w (bA H x o) h' x o):Inv X a1r σ (bA H x o) { s with heap:=h',toks:=t' }:=I.un (Un.write d c k a) (I.hok.write d c k a new)
theorem Inv.weak {a:List (Option V)}(I:Inv X a1r σ H s)(j:a.length=σ.length)(w:∀ (i:Nat) v,a[i]? = some (some v)->σ[i]? = some (some v)):Inv X a1r a H s:=
 ⟨I.ok,I.os,I.bare,I.base,let ⟨m,l,c⟩:=I.loc;⟨m,l,fun i x v d e h=>c i x v d (w i v e) h⟩,I.cell,I.free,I.freeC,I.pin,I.hok,j.trans I.len⟩
theorem Inv.pins_of {a:List (Addr×Obj)}(I:Inv X a1r σ H s)(h:∀ p∈a,s.heap.get? p.1=some p.2/\H p.1=none/\p.1≠X.env.locals/\p.1∉X.fs/\∀ v,p.2.data≠.cell v):Inv X a σ H s:=
 ⟨I.ok,I.os,I.bare,I.base,I.loc,I.cell,I.free,I.freeC,fun p c=>(T7.mp c).elim (fun z=>I.pin p (YJ _ z)) (h p),I.hok,I.len⟩
theorem uS {N:List Str}(e:N.Nodup){i j:Nat}{x:Str}(a:N[i]? = some x)(b:N[j]? = some x):i=j:=by
 obtain ⟨h,c⟩:=SH.mp a
 obtain ⟨l,d⟩:=SH.mp b
 exact (List.getElem_inj e).mp (c.trans d.symm)
theorem rK {M:Ye}{A:Tt}{E:Value->SF->Prop}{i:Nat}{x:Str}{v:V}{u:Value}{Q:Unit->SF->Prop}(I:Inv X a1r σ H s)(hN:X.N.Nodup)(hi:X.N[i]? = some x)(G:Loc X.env.scope x)(r:RelV v u)
  (h:∀ s',Inv X a1r (σ.set i (some v)) H s'->(∃ a,Xi a s.heap s'.heap/\(a=X.env.locals\/X.env.cells.lookup x=some a))->Q () s')(hf:X.fn x=true\/X.env.scope.names.lookup x=some .local:=by first|exact .inl rfl|exact .inr rfl|assumption):Ti M A (storeName X.env x u) Q E s:=by
 obtain ⟨m,hn,hl⟩:=id I.loc
 have Z:(X.env.scope.kind == .class||(X.env.scope.kind == .module&&X.env.locals != X.env.globals))=false:=by rw [I.ok.kind];rfl
 have L:i<σ.length:=by rw [I.len];exact (SH.mp hi).1
 have cne:=I.cne
 have B:∀ {a:Addr}{h':Ua},(∃ o,s.heap.get? a=some o/\H a=none)->Xi a s.heap h'->HOk X.prog X.w H h':=fun {a h'} ha l b ob e=>by
  obtain ⟨_,_,J⟩:=ha
  refine (I.hok b ob e).stay (fun c w' hc q=>(l.2 c ?_).trans q) (fun _ q=>q) fun _ _ q=>q
  rintro rfl
  rcases hc with rfl|hc
  ·rw [J] at e;cases e
  ·rw [J] at hc;cases hc
 rcases G with N|N
 ·refine wpAny_storeName_local N hn (fun h' hn' l=>?_) Z
  obtain ⟨oL,_,_,hoL,_⟩:=id hn
  refine h _ ⟨I.ok,I.os,I.bare,⟨fun b o e n O G=>?_,fun b o e n O G=>?_,I.base.free,fun b o e G=>?_,I.base.tups,I.base.frzs,I.base.tbls⟩,⟨_,hn',fun j y v' w K e3=>?_⟩,fun y c e=>?_,I.free,I.freeC,fun p hp=>?_,B ⟨oL,hoL,I.free⟩ l,by simpa using I.len⟩ ⟨_,l,.inl rfl⟩
  ·exact (l.2 b (S9 (S6 (SO e) I.ok.above))).trans (I.base.keep b o e n O G)
  ·obtain ⟨sl,w⟩:=I.base.slot b o e n O G
   exact ⟨sl,(l.2 b (S9 (S6 (SO e) I.ok.above))).trans w⟩
  ·obtain ⟨o',w⟩:=I.base.there b o e G
   exact ⟨o',(l.2 b (S9 (S6 (SO e) I.ok.above))).trans w⟩
  ·by_cases T:j=i
   ·subst T
    rw [hi] at w;cases w
    rw [S7 L] at K
    cases K
    exact ⟨u,r,.inl ⟨N,by simp⟩⟩
   ·rw [TR (Ux T)] at K
    obtain ⟨u',r',q⟩:=hl j y v' w K e3
    refine ⟨u',r',?_⟩
    rcases q with ⟨k,e⟩|⟨k,c,e,z⟩
    ·refine .inl ⟨k,?_⟩
     have:y≠x:=fun e=>T (uS hN w (e ▸ hi))
     simp [this,e]
    ·exact .inr ⟨k,c,e,z.sameBut l (cne y c e)⟩
  ·obtain ⟨w',z⟩:=I.cell y c e
   exact ⟨w',z.sameBut l (cne y c e)⟩
  ·obtain ⟨e,n,ne,nf,d⟩:=I.pin p hp
   exact ⟨(l.2 p.1 ne).trans e,n,ne,nf,d⟩
 ·have R:X.fn x=true:=by
   rcases hf with z|z
   ·exact z
   ·rw [z] at N;cases N
  obtain ⟨c,hc⟩:=I.ok.has x (.inl N)
  obtain ⟨w',z⟩:=I.cell x c hc
  refine wpAny_storeName_cell I.ok.kind N hc z (fun h' U l=>?_)
  obtain ⟨oc,hoc,hocd⟩:=id z
  refine h { s with heap:=h' } ⟨I.ok,I.os,I.bare,⟨fun b o e n O G=>?_,fun b o e n O G=>?_,I.base.free,fun b o e G=>?_,I.base.tups,I.base.frzs,I.base.tbls⟩,⟨m,hn.sameBut l (Ux (cne x c hc)),fun j y v' w K e3=>?_⟩,fun y c' e=>?_,I.free,I.freeC,fun p hp=>?_,B ⟨oc,hoc,I.freeC x c hc⟩ l,by simpa using I.len⟩ ⟨c,l,.inr hc⟩
  ·exact (l.2 b (S9 (S6 (SO e) (I.ok.cab x c R hc)))).trans (I.base.keep b o e n O G)
  ·obtain ⟨sl,w⟩:=I.base.slot b o e n O G
   exact ⟨sl,(l.2 b (S9 (S6 (SO e) (I.ok.cab x c R hc)))).trans w⟩
  ·obtain ⟨o',w⟩:=I.base.there b o e G
   exact ⟨o',(l.2 b (S9 (S6 (SO e) (I.ok.cab x c R hc)))).trans w⟩
  ·by_cases T:j=i
   ·subst T
    rw [hi] at w;cases w
    rw [S7 L] at K
    cases K
    exact ⟨u,r,.inr ⟨.inl N,c,hc,U⟩⟩
   ·rw [TR (Ux T)] at K
    obtain ⟨u',r',q⟩:=hl j y v' w K e3
    refine ⟨u',r',?_⟩
    rcases q with q|⟨k,c',e,z'⟩
    ·exact .inl q
    ·refine .inr ⟨k,c',e,z'.sameBut l ?_⟩
     rintro rfl
     exact T (uS hN w (I.ok.inj _ _ _ e hc ▸ hi))
  ·by_cases Y:c'=c
   ·subst Y;exact ⟨_,U⟩
   ·obtain ⟨w2,z2⟩:=I.cell y c' e
    exact ⟨w2,z2.sameBut l Y⟩
  ·obtain ⟨e,n,ne,nf,d⟩:=I.pin p hp
   refine ⟨(l.2 p.1 ?_).trans e,n,ne,nf,d⟩
   intro q
   rw [q,hoc] at e
   have q':oc=p.2:=S8 e
   exact d w' (by rw [<- q'];exact hocd)
theorem z6 {M:Ye}{A:Tt}{E:Value->SF->Prop}{i:Nat}{x:Str}{v:V}{u:Value}{Q:Unit->SF->Prop}(I:Inv X a1r σ H s)(d:X.N.Nodup)(j:X.N[i]? = some x)(l:Loc X.env.scope x)(r:RelV v u)
  (h:∀ a,Inv X a1r (σ.set i (some v)) H a->Q () a)(e:X.fn x=true\/X.env.scope.names.lookup x=some .local:=by first|exact .inl rfl|exact .inr rfl|assumption):Ti M A (storeName X.env x u) Q E s:=
 rK I d j l r (fun a c _=>h a c) e
theorem Inv.call' {a:SF}{ch:List Addr}(I:Inv X a1r σ H s)(l:a.os=s.os)(u:Un (cX X.stack) ch H H' s.heap a.heap)(hok:HOk X.prog X.w H' a.heap)(j:WG a.gens)
  (d:∀ b∈ch,(b∈X.ex\/X.s₀.heap.objs.size<=b)/\b≠X.env.locals/\(∀ x c,X.env.cells.lookup x=some c->c≠b)/\∀ p∈X.pn++a1r,p.1≠b):Inv X a1r σ H' a:=by
 obtain ⟨h',i,h,n,m⟩:=a
 have e:m=s.os:=l
 subst e
 exact I.call (g':=i) (t':=n) (d':=h) u hok j d
end
noncomputable abbrev XK:=Value->Option Addr->Hp->Prop
noncomputable abbrev St:=List (Option V)
noncomputable abbrev VK:=V->Hp->Prop
noncomputable abbrev TE:=St->Hp->VK->Prop
noncomputable abbrev TT:=St->Hp->(Bool->Hp->Prop)->Prop
noncomputable abbrev TA:=St->Hp->(List V->Hp->Prop)->Prop
structure Ends where
 nx:St->Hp->Prop
 rt:VK
 bk:St->Hp->Prop:=fun _ _=>False
 ct:St->Hp->Prop:=fun _ _=>False
noncomputable abbrev TS:=Ends->St->Hp->Prop
noncomputable def EP (X:Cx)(a1r:List (Addr×Obj))(σ:St)(Q:VK)(u:Value)(a:SF):Prop:=∃ v H',Inv X a1r σ H' a/\RelV v u/\Q v H'
noncomputable def TP (X:Cx)(a1r:List (Addr×Obj))(σ:St)(Q:Bool->Hp->Prop)(b:Bool)(a:SF):Prop:=∃ H',Inv X a1r σ H' a/\Q b H'
noncomputable def AP (X:Cx)(a1r:List (Addr×Obj))(σ:St)(Q:List V->Hp->Prop)(us:List Value)(a:SF):Prop:=∃ vs H',Inv X a1r σ H' a/\Vals vs us/\Q vs H'
noncomputable def SP (X:Cx)(a1r:List (Addr×Obj))(D:Ends)(f:Flow)(d:SF):Prop:=
 match f with
 | .next=>∃ a c,Inv X a1r a c d/\D.nx a c
 | .brk=>∃ a c,Inv X a1r a c d/\D.bk a c
 | .cont=>∃ a c,Inv X a1r a c d/\D.ct a c
 | .ret u=>∃ v a c,Inv X a1r a c d/\RelV v u/\D.rt v c
noncomputable def PE (X:Cx)(e:Expr)(t:TE):Prop:=
 ∀ (a1r:List (Addr×Obj))(s:SF)(σ:St)(H:Hp)(Q:VK),Inv X a1r σ H s->t σ H Q->Ti (Tq X.prog X.w) X.A (eval e X.env) (EP X a1r σ Q) X.xe s
noncomputable def PT (X:Cx)(e:Expr)(t:TT):Prop:=
 ∀ (a1r:List (Addr×Obj))(s:SF)(σ:St)(H:Hp)(Q:Bool->Hp->Prop),Inv X a1r σ H s->t σ H Q->Ti (Tq X.prog X.w) X.A (X3 e X.env (eval e X.env)) (TP X a1r σ Q) X.xe s
noncomputable def PW (X:Cx)(e:Expr)(t:TT):Prop:=
 ∀ (a:a0Q Value)(a1r:List (Addr×Obj))(s:SF)(σ:St)(H:Hp)(Q:Bool->Hp->Prop),Inv X a1r σ H s->t σ H Q->Ti (Tq X.prog X.w) X.A (X3 e X.env a) (TP X a1r σ Q) X.xe s
theorem PW.pt {X:Cx}{e:Expr}{t:TT}(h:PW X e t):PT X e t:=h _
noncomputable def PA (X:Cx)(es:List Expr)(t:TA):Prop:=
 ∀ (pos:UA)(a1r:List (Addr×Obj))(s:SF)(σ:St)(H:Hp)(Q:List V->Hp->Prop),Inv X a1r σ H s->t σ H Q->Ti (Tq X.prog X.w) X.A (spliced (Vg pos (Tu es X.env))) (AP X a1r σ Q) X.xe s
noncomputable def PS (X:Cx)(st:Stmt)(t:TS):Prop:=
 ∀ (a1r:List (Addr×Obj))(s:SF)(σ:St)(H:Hp)(D:Ends),Inv X a1r σ H s->t D σ H->Ti (Tq X.prog X.w) X.A (exec st X.env) (SP X a1r D) X.xe s
noncomputable def PSs (X:Cx)(st:List Stmt)(t:TS):Prop:=
 ∀ (a1r:List (Addr×Obj))(s:SF)(σ:St)(H:Hp)(D:Ends),Inv X a1r σ H s->t D σ H->Ti (Tq X.prog X.w) X.A (execs st X.env) (SP X a1r D) X.xe s
theorem aX {d:Type}{t:a0Q d}{Q c:d->SF->Prop}{M:Ye}{A:Tt}{E:Value->SF->Prop}{s:SF}(h:Ti M A t Q E s)(e:∀ a s,Q a s->c a s):Ti M A t c E s:=TK h e fun _ _ x=>x
end L2
namespace L2
open PySem PySem.Spec PyProof.Rows
section
variable {X:Cx}
noncomputable def uT (i:Nat):TE:=fun σ H Q=>∃ v,σ[i]? = some (some v)/\Q v H
noncomputable def tC (v:V):TE:=fun _ H Q=>Q v H
theorem z7 {i:Nat}{x:Str}{pos:UA}(o:X.N[i]? = some x)(y:lJ X.env.scope x)(hd:(x == ("__debug__":Str))=false:=by decide) (n:(x == ("__classdict__":Str))=false:=by decide):PE X (.Name x pos) (uT i):=by
 intro j s z H Q I h
 obtain ⟨v,e,h⟩:=h
 obtain ⟨m,w,p⟩:=I.loc
 obtain ⟨u,r,l⟩:=p i x v o e y
 have aV:EP X j z Q u s:=⟨v,H,I,r,h⟩
 rcases l with ⟨d,q⟩|⟨d,c,hc,a⟩
 ·exact Z6 (wpAny_loadName_local I.ok.kind d w q aV) hd
 ·rcases d with d|d
  ·exact Z6 (wpAny_loadName_cell I.ok.kind d hc a aV) hd
  ·exact Z6 (wpAny_loadName_free I.ok.kind d hc a aV n) hd
theorem Fj {i j pos}:PE X (.Constant (.int i) j pos) (tC (.int i)):=fun _ _ _ H _ I h=>wpAny_Constant_int ⟨.int i,H,I.tok _,⟨_,rfl⟩,h⟩
theorem Fm {b j pos}:PE X (.Constant (.bool b) j pos) (tC (.bl b)):=fun _ _ _ H _ I h=>Constant_bool ⟨.bl b,H,I,rfl,h⟩
theorem Fn {j pos}:PE X (.Constant .none j pos) (tC .non):=fun _ _ _ H _ I h=>Constant_none ⟨.non,H,I,rfl,h⟩
theorem Fp {x j pos}:PE X (.Constant (.str x) j pos) (tC (.str x)):=fun _ _ _ H _ I h=>Calls.Constant_str ⟨.str x,H,I.tok _,⟨_,rfl⟩,h⟩
noncomputable def Gl (X:Cx)(x:Str):Prop:=X.env.kindOf x=some .globalImplicit
theorem iT {E:Value->SF->Prop}{a1r:List (Addr×Obj)}{s:SF}{σ:St}{H:Hp}{x:Str}{u:Value}{pos:UA}{Q:Value->SF->Prop}(I:Inv X a1r σ H s)(a:Gl X x)(c:X.mg x=some u)(h:Q u s)
  (hd:(x == ("__debug__":Str))=false:=by decide):Ti (Tq X.prog X.w) X.A (eval (.Name x pos) X.env) Q E s:=
 XT I.ok.kind a (Calls.loadGlobal_global (by rw [I.ok.glob];exact I.mod.glob.keeps I.bk) c h) hd
theorem kD {E:Value->SF->Prop}{a1r:List (Addr×Obj)}{s:SF}{σ:St}{H:Hp}{x:Str}{u:Value}{pos:UA}{Q:Value->SF->Prop}(I:Inv X a1r σ H s)(d:Gl X x)(e:X.mg x=none)(j:Ut x=some u)(h:Q u s)
  (i:x ≠ "__name__":=by decide) (hd:(x == ("__debug__":Str))=false:=by decide):Ti (Tq X.prog X.w) X.A (eval (.Name x pos) X.env) Q E s:=by
 obtain ⟨l,a,c⟩:=I.mod.blt
 exact XT I.ok.kind d (Calls.loadGlobal_builtin (by rw [I.ok.glob];exact I.mod.glob.keeps I.bk) e (by rw [I.ok.blt];exact a.keeps I.bk) ((c x i).trans j) h) hd
theorem Fq {x:Str}{v:V}{u:Value}{pos:UA}(a:Gl X x)(c:X.mg x=some u)(r:RelV v u)(hd:(x == ("__debug__":Str))=false:=by decide):PE X (.Name x pos) (tC v):=
 fun _ _ _ H _ I h=>iT I a c ⟨v,H,I,r,h⟩ hd
theorem Fs {x:Str}{v:V}{u:Value}{pos:UA}(a:Gl X x)(c:X.mg x=none)(e:Ut x=some u)(r:RelV v u)(d:x ≠ "__name__":=by decide) (hd:(x == ("__debug__":Str))=false:=by decide):PE X (.Name x pos) (tC v):=
 fun _ _ _ H _ I h=>kD I a c e ⟨v,H,I,r,h⟩ d hd
variable {a b:Expr}{ta tb:TE}{pos:UA}
noncomputable def tB (t:TE):TT:=fun σ H Q=>t σ H fun x d=>∃ c,x=.bl c/\Q c d
theorem Ft {e:Expr}{t:TE}(h:PE X e t)(m:∀ c,X3 e X.env c=(do let v <- c;a0l e.pos;holding [v] (truthy v)):=by intro _;rfl):PT X e (tB t):=by
 intro i s p H Q I hw
 refine isTrue_plain (aX (h i s p H _ I hw) fun v r ⟨x,j,l,o,n⟩=>?_) (m _)
 obtain ⟨d,rfl,q⟩:=n
 cases o
 exact Uw ⟨j,l,q⟩
variable {tA tB':TT}{rest:List Expr}
noncomputable def Fu (t u:TT):TT:=fun σ H Q=>t σ H fun c d=>if c=true then u σ d Q else Q false d
noncomputable def Fv (t u:TT):TT:=fun σ H Q=>t σ H fun c d=>if c=true then Q true d else u σ d Q
noncomputable def Fw (t:TT):TT:=fun σ H Q=>t σ H fun c d=>Q (!c) d
theorem Fx (i:PT X a tA):PW X (.BoolOp .And [a] pos) tA:=by
 intro m d s j H Q I h
 refine isTrue_and (aX (i d s j H Q I h) fun c l e=>?_)
 cases c with
 | true=>exact isTrue_and_nil e
 | false=>exact e
theorem Fy (i:PT X a tA):PW X (.BoolOp .Or [a] pos) tA:=by
 intro m d s j H Q I h
 refine isTrue_or (aX (i d s j H Q I h) fun c l e=>?_)
 cases c with
 | false=>exact isTrue_or_nil e
 | true=>exact e
theorem Fz (m:PT X a tA)(n:PW X (.BoolOp .And (b::rest) pos) tB'):PW X (.BoolOp .And (a::b::rest) pos) (Fu tA tB'):=by
 intro p d s l H Q I h
 refine isTrue_and (aX (m d s l H _ I h) fun c o ⟨e,i,j⟩=>?_)
 cases c with
 | true=>exact n p d o l e Q i j
 | false=>exact ⟨e,i,j⟩
theorem FA (m:PT X a tA)(n:PW X (.BoolOp .Or (b::rest) pos) tB'):PW X (.BoolOp .Or (a::b::rest) pos) (Fv tA tB'):=by
 intro p d s l H Q I h
 refine isTrue_or (aX (m d s l H _ I h) fun c o ⟨e,i,j⟩=>?_)
 cases c with
 | true=>exact ⟨e,i,j⟩
 | false=>exact n p d o l e Q i j
theorem FC (i:PT X a tA):PT X (.UnaryOp .Not a pos) (Fw tA):=by
 intro d s j H Q I h
 exact isTrue_not (i d s j H (fun c e=>Q (!c) e) I h)
noncomputable def FD (ta tb:TE):TE:=fun σ H Q=>ta σ H fun x d=>∃ c,x=.bl c/\if c=true then tb σ d Q else Q (.bl false) d
noncomputable def FE (ta tb:TE):TE:=fun σ H Q=>ta σ H fun x d=>∃ c,x=.bl c/\if c=true then Q (.bl true) d else tb σ d Q
noncomputable def FF (ta:TE):TE:=fun σ H Q=>ta σ H fun x d=>∃ c,x=.bl c/\Q (.bl (!c)) d
theorem FG {op} {t:TE}(h:PE X a t):PE X (.BoolOp op [a] pos) t:=fun a1r s σ H Q I hw=>BoolOp_one (h a1r s σ H Q I hw)
theorem FH (m:PE X a ta)(n:PE X (.BoolOp .And (b::rest) pos) tb):PE X (.BoolOp .And (a::b::rest) pos) (FD ta tb):=by
 intro d s l H Q I h
 refine BoolOp_and (aX (m d s l H _ I h) fun v p ⟨x,i,j,o,e⟩=>?_)
 obtain ⟨c,rfl,e⟩:=e
 cases o
 refine Uw ?_
 cases c with
 | true=>exact n d p l i Q j e
 | false=>exact ⟨.bl false,i,j,rfl,e⟩
theorem FI (m:PE X a ta)(n:PE X (.BoolOp .Or (b::rest) pos) tb):PE X (.BoolOp .Or (a::b::rest) pos) (FE ta tb):=by
 intro d s l H Q I h
 refine BoolOp_or (aX (m d s l H _ I h) fun v p ⟨x,i,j,o,e⟩=>?_)
 obtain ⟨c,rfl,e⟩:=e
 cases o
 refine Uw ?_
 cases c with
 | false=>exact n d p l i Q j e
 | true=>exact ⟨.bl true,i,j,rfl,e⟩
theorem FJ (l:PE X a ta):PE X (.UnaryOp .Not a pos) (FF ta):=by
 intro d s n H Q I h
 refine UnaryOp_ (aX (l d s n H _ I h) fun v o ⟨x,i,j,m,e⟩=>?_)
 obtain ⟨c,rfl,e⟩:=e
 cases m
 exact not_of (Uw ⟨.bl (!c),i,j,rfl,e⟩)
noncomputable def FK (t:TT)(ta tb:TE):TE:=fun σ H Q=>t σ H fun c d=>if c=true then ta σ d Q else tb σ d Q
theorem FL {c:Expr}(hc:PT X c tA)(o:PE X a ta)(p:PE X b tb):PE X (.IfExp c a b pos) (FK tA ta tb):=by
 intro e s i H Q I h
 refine wpAny_IfExp (aX (hc e s i H _ I h) fun d n ⟨j,l,m⟩=>?_)
 cases d with
 | true=>exact o e n i j Q l m
 | false=>exact p e n i j Q l m
end
end L2
namespace L2
open PySem PySem.Spec PyProof.Rows
noncomputable def SqL (K:Sw)(H:Hp)(a:Addr)(xs:List V):Prop:=
 Rd H a (.lst xs) \/
  ∃ (o:Obj)(c:Array Value)(n:Nat),K.lookup a=some o/\o.cls=.type "list"/\o.dict=none/\o.data=.seq c n/\c.size<=SK/\Vals xs c.toList
noncomputable def SqT (K:Sw)(H:Hp)(a:Addr)(xs:List V):Prop:=
 Rd H a (.tup xs) \/
  ∃ (o:Obj)(c:Array Value)(n:Nat),K.lookup a=some o/\o.cls=.type "tuple"/\o.dict=none/\o.data=.seq c n/\c.size<=SK/\Vals xs c.toList
noncomputable def FN:Value->Option V
 | .none=>some .non
 | .bool b=>some (.bl b)
 | .int i _=>some (.int i)
 | .str x _=>some (.str x)
 | .bytes b _=>some (.byt b)
 | .float b _=>some (.flt b)
 | .ref a=>some (.ref a)
 | .type n=>some (.ty n)
 | _=>none
theorem RelV.abs {x:V}{u:Value}(r:RelV x u):FN u=some x:=by
 cases x with
 | non=>cases r;rfl
 | bl _=>cases r;rfl
 | int _=>obtain ⟨t,rfl⟩:=r;rfl
 | str _=>obtain ⟨t,rfl⟩:=r;rfl
 | byt _=>obtain ⟨t,rfl⟩:=r;rfl
 | flt _=>obtain ⟨t,rfl⟩:=r;rfl
 | ref _=>cases r;rfl
 | ty _=>cases r;rfl
theorem RelV.inj {x y:V}{u:Value}(r:RelV x u)(q:RelV y u):x=y:=S8 (r.abs.symm.trans q.abs)
theorem Vals.inj:∀ {xs a:List V}{us:List Value},Vals xs us->Vals a us->xs=a
 | _,_,_,.nil,.nil=>rfl
 | _,_,_,.cons r t,.cons r' t'=>by rw [r.inj r',Vals.inj t t']
section
variable {X:Cx}{a1r:List (Addr×Obj)}{σ:St}{H:Hp}{s:SF}{a:Addr}{xs ys:List V}
theorem SqL.of {K:Sw}(h:H a=some (.lst xs)):SqL K H a xs:=.inl (.inl h)
theorem SqT.of {K:Sw}(h:H a=some (.tup xs)):SqT K H a xs:=.inl (.inl h)
theorem Inv.list (I:Inv X a1r σ H s)(h:SqL X.K H a xs):∃ c:List Value,Vals xs c/\PlainL s.heap a c.toArray/\xs.length<=SK:=by
 rcases h with h|⟨o,c,n,d,hc,hd,i,j,r⟩
 ·obtain ⟨z,c,n,r,e⟩:=h.ok I.hok
  exact ⟨c,r,⟨_,n,e,rfl,rfl,rfl⟩,z⟩
 ·refine ⟨c.toList,r,⟨o,n,I.kIn a o d,hc,hd,by simpa using i⟩,?_⟩
  have e:=r.length
  simp only [U9] at e
  omega
theorem Inv.tuple (I:Inv X a1r σ H s)(h:SqT X.K H a xs):∃ c:List Value,Vals xs c/\IsTup s.heap a c.toArray/\xs.length<=SK:=by
 rcases h with h|⟨o,c,n,d,hc,hd,i,j,r⟩
 ·obtain ⟨z,c,r,p⟩:=h.ok I.hok
  exact ⟨c,r,p.tup,z⟩
 ·refine ⟨c.toList,r,⟨o,I.kIn a o d,hc,n,by simpa using i⟩,?_⟩
  have e:=r.length
  simp only [U9] at e
  omega
theorem Inv.list_inj (I:Inv X a1r σ H s)(h:SqL X.K H a xs)(h':SqL X.K H a ys):xs=ys:=by
 obtain ⟨i,r,⟨o,n,e,_,_,d⟩,_⟩:=I.list h
 obtain ⟨c,m,⟨q,p,l,_,_,j⟩,_⟩:=I.list h'
 rw [e] at l;cases l
 rw [d] at j
 injection j with d1 _
 have:i=c:=by simpa using congrArg a0g d1
 subst this
 exact r.inj m
theorem Inv.tuple_inj (I:Inv X a1r σ H s)(h:SqT X.K H a xs)(h':SqT X.K H a ys):xs=ys:=by
 obtain ⟨i,r,⟨o,e,_,n,d⟩,_⟩:=I.tuple h
 obtain ⟨c,m,⟨q,l,_,p,j⟩,_⟩:=I.tuple h'
 rw [e] at l;cases l
 rw [d] at j
 injection j with d1 _
 have:i=c:=by simpa using congrArg a0g d1
 subst this
 exact r.inj m
end
noncomputable abbrev Cx.wish (X:Cx)(E:Value->SF->Prop):Cx:={ X with xe:=E }
noncomputable abbrev Cx.nox (X:Cx):Cx:=X.wish fun _ _=>False
theorem Cx.Ok.wish {X:Cx}(ok:X.Ok)(E:Value->SF->Prop):(X.wish E).Ok:=
 ⟨ok.mod,ok.kind,ok.glob,ok.blt,ok.above,ok.inj,ok.has,ok.cab,ok.hd,ok.frames,ok.stk,ok.exf,ok.bs,ok.bsz,ok.noex,ok.exfs,ok.funs,ok.frf⟩
theorem Cx.Ok.unwish {X:Cx}{E:Value->SF->Prop}(ok:(X.wish E).Ok):X.Ok:=
 ⟨ok.mod,ok.kind,ok.glob,ok.blt,ok.above,ok.inj,ok.has,ok.cab,ok.hd,ok.frames,ok.stk,ok.exf,ok.bs,ok.bsz,ok.noex,ok.exfs,ok.funs,ok.frf⟩
section
variable {X:Cx}{a1r:List (Addr×Obj)}{σ:St}{H:Hp}{s:SF}{E:Value->SF->Prop}
theorem Inv.wish (I:Inv X a1r σ H s)(E:Value->SF->Prop):Inv (X.wish E) a1r σ H s:=⟨I.ok.wish E,I.os,I.bare,I.base,I.loc,I.cell,I.free,I.freeC,I.pin,I.hok,I.len⟩
theorem Inv.unwish (I:Inv (X.wish E) a1r σ H s):Inv X a1r σ H s:=⟨I.ok.unwish,I.os,I.bare,I.base,I.loc,I.cell,I.free,I.freeC,I.pin,I.hok,I.len⟩
theorem SP.unwish {D:Ends}{f:Flow}{d:SF}(h:SP (X.wish E) a1r D f d):SP X a1r D f d:=by
 cases f with
 | next=>obtain ⟨a,c,I,q⟩:=h;exact ⟨a,c,I.unwish,q⟩
 | brk=>obtain ⟨a,c,I,q⟩:=h;exact ⟨a,c,I.unwish,q⟩
 | cont=>obtain ⟨a,c,I,q⟩:=h;exact ⟨a,c,I.unwish,q⟩
 | ret u=>obtain ⟨v,a,c,I,r,q⟩:=h;exact ⟨v,a,c,I.unwish,r,q⟩
theorem PE.nox {e:Expr}{t:TE}(h:PE X.nox e t):PE X e t:=fun a1r s σ H Q I hw=>
 TK (h a1r s σ H Q (I.wish _) hw) (fun _ _ ⟨v,a,c,r,q⟩=>⟨v,a,c.unwish,r,q⟩) fun _ _ z=>Tx z
theorem PT.nox {e:Expr}{t:TT}(h:PT X.nox e t):PT X e t:=fun a1r s σ H Q I hw=>
 TK (h a1r s σ H Q (I.wish _) hw) (fun _ _ ⟨a,c,q⟩=>⟨a,c.unwish,q⟩) fun _ _ z=>Tx z
theorem PSs.nox {st:List Stmt}{t:TS}(h:PSs X.nox st t):PSs X st t:=fun a1r s σ H D I hw=>
 TK (h a1r s σ H D (I.wish _) hw) (fun _ _ q=>q.unwish) fun _ _ z=>Tx z
end
section
variable {X:Cx}{st:Stmt}{rest:List Stmt}{t u:TS}{e:Expr}{te:TE}{pos:UA}
noncomputable def z8:TS:=fun D σ H=>D.nx σ H
noncomputable def FP (t u:TS):TS:=fun D σ H=>t { D with nx:=u D } σ H
theorem FQ:PSs X [] z8:=fun _ _ σ H _ I h=>Ws ⟨σ,H,I,h⟩
theorem FR (j:PS X st t)(l:PSs X rest u):PSs X (st::rest) (FP t u):=by
 intro a s n H D I h
 refine XY (aX (j a s n H { D with nx:=u D } I h) fun f m q=>?_)
 cases f with
 | next=>
  obtain ⟨c,d,i,q⟩:=q
  exact l a m c d D i q
 | ret v=>exact q
 | brk=>exact q
 | cont=>exact q
theorem z9 (c:PS X st t):PSs X [st] t:=by
 intro a s d H D I h
 refine XY (aX (c a s d H D I h) fun f i q=>?_)
 cases f with
 | next=>exact Ws q
 | ret v=>exact q
 | brk=>exact q
 | cont=>exact q
theorem FT:PS X (.Pass pos) z8:=fun _ _ σ H _ I h=>wpAny_Pass ⟨σ,H,I,h⟩
theorem Inv.quiet {a1r:List (Addr×Obj)}{σ:St}{H:Hp}{s:SF}(I:Inv X a1r σ H s):interactive X.env=false:=by simp [interactive,I.ok.kind]
noncomputable def FU (te:TE):TS:=fun D σ H=>te σ H fun _ a=>D.nx σ a
theorem FV (j:PE X e te)(l:Wg e none pos.line X.env=pure false:=by rfl):PS X (.Expr e pos) (FU te):=by
 intro a s c H D I h
 exact a1h (aX (j a s c H _ I h) fun v o ⟨x,d,i,n,m⟩=>⟨c,d,i,m⟩) I.quiet l
noncomputable def FW (te:TE):TS:=fun D σ H=>te σ H D.rt
theorem FX (j:PE X e te):PS X (.Return (some e) pos) (FW te):=by
 intro a s c H D I h
 exact a0j (aX (j a s c H _ I h) fun v n ⟨x,d,i,m,l⟩=>⟨x,c,d,i,m,l⟩)
noncomputable def FY:TS:=fun D _ H=>D.rt .non H
theorem FZ:PS X (.Return none pos) FY:=fun _ _ σ H _ I h=>wpAny_Return_none ⟨.non,σ,H,I,rfl,h⟩
noncomputable def F0 (c:TT)(t u:TS):TS:=fun D σ H=>c σ H fun b a=>if b=true then t D σ a else u D σ a
theorem F1 {c:Expr}{a b:List Stmt}{p:TT}(hc:PT X c p)(q:PSs X a t)(r:PSs X b u):PS X (.If c a b pos) (F0 p t u):=by
 intro i s j H D I h
 refine wpAny_If (aX (hc i s j H _ I h) fun d o ⟨l,m,n⟩=>?_)
 cases d with
 | true=>exact q i o j l D m n
 | false=>exact r i o j l D m n
end
noncomputable abbrev TG:=V->St->Hp->(St->Hp->Prop)->Prop
noncomputable abbrev m3:=List V->St->Hp->(St->Hp->Prop)->Prop
noncomputable def PG (X:Cx)(a:Expr)(t:TG):Prop:=
 ∀ (a1r:List (Addr×Obj))(s:SF)(σ:St)(H:Hp)(v:V)(u:Value)(Q:St->Hp->Prop),Inv X a1r σ H s->RelV v u->t v σ H Q->
  Ti (Tq X.prog X.w) X.A (XB a X.env u) (fun _ e=>∃ c d,Inv X a1r c d e/\Q c d) X.xe s
noncomputable def oS (X:Cx)(e:List Expr)(t:m3):Prop:=
 ∀ (a1r:List (Addr×Obj))(s:SF)(σ:St)(H:Hp)(vs:List V)(us:List Value)(Q:St->Hp->Prop),Inv X a1r σ H s->Vals vs us->t vs σ H Q->
  Ti (Tq X.prog X.w) X.A (assignInOrder ((UX e X.env).map (·.2)) us) (fun _ d=>∃ a c,Inv X a1r a c d/\Q a c) X.xe s
noncomputable abbrev Aa:=V->V->V->Hp->(Hp->Prop)->Prop
noncomputable def F5 (X:Cx)(t:Aa):Prop:=
 ∀ (a1r:List (Addr×Obj))(s:SF)(σ:St)(H:Hp)(o i v:V)(d c u:Value)(Q:Hp->Prop),Inv X a1r σ H s->RelV o d->RelV i c->RelV v u->t o i v H Q->
  Ti (Tq X.prog X.w) X.A (setItem d c u) (fun _ e=>∃ a,Inv X a1r σ a e/\Q a) X.xe s
section
variable {X:Cx}{pos:UA}
noncomputable def uU (i:Nat):TG:=fun v σ H Q=>Q (σ.set i (some v)) H
theorem Ab {i:Nat}{x:Str}(d:X.N.Nodup)(j:X.N[i]? = some x)(l:Loc X.env.scope x)(e:X.fn x=true\/X.env.scope.names.lookup x=some .local:=by first|exact .inl rfl|exact .inr rfl|assumption):PG X (.Name x pos) (uU i):=by
 intro c s n H v u Q I r h
 exact a0i (z6 I d j l r (fun m a=>⟨_,H,a,h⟩) e)
noncomputable def Ac:m3:=fun vs σ H Q=>vs=[]/\Q σ H
noncomputable def Ad (t:TG)(u:m3):m3:=fun vs σ H Q=>∃ v r,vs=v::r/\t v σ H fun a H'=>u r a H' Q
theorem F6:oS X [] Ac:=by
 intro a s c H i d Q I r h
 obtain ⟨e,h⟩:=h
 subst e
 cases r
 exact assignInOrder_nil ⟨c,H,I,h⟩
theorem F7 {e:Expr}{es:List Expr}{t:TG}{u:m3}(l:PG X e t)(m:oS X es u)
  (n:(UX (e::es) X.env).map (·.2)=XB e X.env::(UX es X.env).map (·.2):=by rfl):oS X (e::es) (Ad t u):=by
 intro a s w H z x Q I r h
 obtain ⟨v,y,j,h⟩:=h
 subst j
 cases r with
 | cons r p=>
  rw [n]
  refine assignInOrder_cons (aX (l a s w H _ _ _ I r h) fun _ q ⟨c,d,i,o⟩=>?_)
  exact m a q c d _ _ Q i p o
noncomputable def Ae (te:TE)(g:TG):TS:=fun D σ H=>te σ H fun x a=>g x σ a D.nx
theorem F8 {tg e:Expr}{te:TE}{g:TG}(l:PE X e te)(m:PG X tg g)(n:swapsWithSole [tg] e pos.line X.env=pure false:=by rfl)(hw:YO [tg] e X.env=pure none:=by rfl)
  (j:(UX [tg] X.env).map (·.2)=[XB tg X.env]:=by rfl):PS X (.Assign [tg] e pos) (Ae te g):=by
 intro a s c H D I h
 refine wpAny_Assign_stores (aX (l a s c H _ I h) fun v r ⟨x,d,i,p,o⟩=>?_) n hw
 rw [j]
 exact aX (m a r c d x v _ i p o) fun _ u q=>q
theorem Af {i:Nat}{x:Str}{e:Expr}{te:TE}{a:UA}(m:X.N.Nodup)(p:X.N[i]? = some x)(r:Loc X.env.scope x)(n:PE X e te)(q:Wg e (some (.Name x a)) pos.line X.env=pure false:=by rfl)(o:X.fn x=true\/X.env.scope.names.lookup x=some .local:=by first|exact .inl rfl|exact .inr rfl|assumption) :
  PS X (.Assign [.Name x a] e pos) (Ae te (uU i)):=by
 intro c s z H D I h
 refine a0k (aX (n c s z H _ I h) fun v A ⟨y,d,j,w,u⟩=>?_) q
 exact z6 j m p r w (fun B l=>⟨_,d,l,u⟩) o
end
section
variable {X:Cx}{pos:UA}
noncomputable def F9 (c:TT)(i:TS):TS:=fun D σ H=>∃ W:Nat->St->Hp->Prop,(∃ m,W m σ H)/\∀ m σ H,W m σ H->
 c σ H fun b e=>if b=true then ∃ N:St->Hp->Prop,(∀ a d,N a d->∃ h,h<m/\W h a d)/\i { D with nx:=N,ct:=N,bk:=D.nx } σ e else D.nx σ e
theorem Ga {c:Expr}{body:List Stmt}{G:TT}{E:TS}(B:X8 (Tq X.prog X.w) X.A X.env X.xe)(hc:PT X c G)(K:PSs X body E):PS X (.While c body [] pos) (F9 G E):=by
 intro e s U H D I h
 obtain ⟨W,⟨L,R⟩,turn⟩:=h
 refine wpAny_While (codeAny_whileLoop (fun n M=>∃ j w,Inv X e j w M/\W n j w) ?_ L ⟨U,H,I,R⟩)
 rintro n O ⟨d,x,J,T⟩
 refine Vl B (aX (hc e O d x _ J (turn n d x T)) fun b Q ⟨y,z,l⟩=>?_)
 cases b with
 | true=>
  obtain ⟨N,A,l⟩:=l
  rw [if_pos rfl]
  refine Vl B (aX (K e Q d y _ z l) fun f Y m=>?_)
  cases f with
  | next=>
   obtain ⟨a,i,o,r⟩:=m
   obtain ⟨q,p,u⟩:=A a i r
   exact ⟨q,p,a,i,o,u⟩
  | cont=>
   obtain ⟨a,i,o,r⟩:=m
   obtain ⟨q,p,u⟩:=A a i r
   exact ⟨q,p,a,i,o,u⟩
  | brk=>exact m
  | ret v=>exact m
 | false=>
  rw [if_neg VE]
  exact Ws ⟨d,y,z,l⟩
end
structure It where
 go:Nat->Hp->Prop
 yld:Nat->Hp->V->Hp->Prop
 stop:Nat->Hp->Prop
noncomputable def gP (X:Cx)(a1r:List (Addr×Obj))(H:Hp)(b:Addr):Prop:=
 H b=none/\b≠X.env.locals/\b∉X.fs/\(b∈X.ex\/X.s₀.heap.objs.size<=b)/\(∀ x c,X.env.cells.lookup x=some c->c≠b)/\∀ p∈X.pn++a1r,p.1≠b
theorem Inv.fpOk {X:Cx}{a1r:List (Addr×Obj)}{σ:St}{H H':Hp}{s:SF}{b:Addr}(I:Inv X a1r σ H s)(a:s.heap.objs.size<=b)(d:H' b=none):gP X a1r H' b:=by
 refine ⟨d,Xq (S6 I.lt a),I.nofs a,.inr (TX I.sz a),fun x c e z=>?_,fun p h z=>?_⟩
 ·obtain ⟨v,q⟩:=I.cell x c e
  exact absurd (S6 q.lt (by rw [z];exact a)) (UL _)
 ·exact absurd (S6 (SO (I.pin p h).1) (by rw [z];exact a)) (UL _)
noncomputable abbrev Qc (X:Cx):Prop:=X.calm=true
structure Turn (q:Cx->Prop)(P:Tc)(w:Ts)(K:Sw)(tg:Expr)(J:It)(fp:List Addr)(it:Addr)(tn:Nat->Ua->Prop):Prop where
 mem:it∈fp
 obj:∀ i h,tn i h->∀ b∈fp,∃ o,h.get? b=some o/\∀ v,o.data≠.cell v
 keep:∀ i h h',tn i h->(∀ b∈fp,∀ o,h.get? b=some o->h'.get? b=some o)->tn i h'
 item:∀ (X:Cx),X.prog=P->X.w=w->X.K=K->q X->∀ (i:Nat)(a1r:List (Addr×Obj))(s:SF)(σ:St)(H:Hp)(E:Value->SF->Prop),Inv X a1r σ H s->(∀ b∈fp,gP X a1r H b)->tn i s.heap->J.go i H->
  Ti (Tq P w) X.A (Zi (.ref it)) (fun r s1=>∃ u,r=some u /\
   Ti (Tq P w) X.A (W5 tg (.ref it) u) (fun _ s2=>∃ x H',Inv X a1r σ H' s2/\RelV x u/\J.yld i H x H'/\tn (i+1) s2.heap/\∀ b∈fp,H' b=none) E s1) E s
 done:∀ (X:Cx),X.prog=P->X.w=w->X.K=K->q X->∀ (i:Nat)(a1r:List (Addr×Obj))(s:SF)(σ:St)(H:Hp)(E:Value->SF->Prop),Inv X a1r σ H s->(∀ b∈fp,gP X a1r H b)->tn i s.heap->J.stop i H->
  Ti (Tq P w) X.A (Zi (.ref it)) (fun r s1=>r=none/\Inv X a1r σ H s1) E s
 self:∀ (A:Tt)(i:Nat)(s:SF)(Q:Value->SF->Prop)(E:Value->SF->Prop),tn i s.heap->Q (.ref it) s->Ti (Tq P w) A (a0a (.ref it)) Q E s
noncomputable abbrev TI:=St->Hp->(It->Hp->Prop)->Prop
noncomputable def rL (q:Cx->Prop)(X:Cx)(a1r:List (Addr×Obj))(σ:St)(tg:Expr)(R:It->Hp->Prop)(a:Value)(e:SF):Prop:=
 ∃ (d:Addr)(c:List Addr)(h:Nat->Ua->Prop)(J:It)(H':Hp),a=.ref d/\Inv X a1r σ H' e/\Turn q X.prog X.w X.K tg J c d h/\h 0 e.heap/\(∀ b∈c,gP X a1r H' b)/\R J H'
noncomputable abbrev Gb:=rL Qc
noncomputable def oU (q:Cx->Prop)(X:Cx)(tg iter:Expr)(c:TI):Prop:=
 ∀ (a1r:List (Addr×Obj))(s:SF)(σ:St)(H:Hp)(R:It->Hp->Prop),Inv X a1r σ H s->c σ H R->
  Ti (Tq X.prog X.w) X.A (eval iter X.env) (fun v a=>Ti (Tq X.prog X.w) X.A (a0a v) (rL q X a1r σ tg R) X.xe a) X.xe s
noncomputable abbrev PI:=oU Qc
theorem rM {M:Ye}{A:Tt}{E:Value->SF->Prop}{s:SF}{tg:Expr}{c:Addr}{u:Value}{o:Obj}{n:String}{vs:Array Value}{Q:Unit->SF->Prop}(e:s.heap.get? c=some o)(hc:o.cls=.type n)(hd:o.data=.fields vs)
  (d:["enumerate","zip","dict_itemiterator","dict_reverseitemiterator","odict_iterator","itertools.zip_longest","itertools.pairwise"].contains n=false) (a:Q () s):Ti M A (W5 tg (.ref c) u) Q E s:=by
 unfold W5
 cases tg<;>first
  | exact TV a
  | (cases u<;>first
    | exact TV a
    | (refine S0 (wpAny_load e ?_)
       rw [hc,hd]
       show Ti M A (if (["enumerate","zip","dict_itemiterator","dict_reverseitemiterator","odict_iterator","itertools.zip_longest","itertools.pairwise"].contains n&&vs[0]? == some (Wt _))=true then _ else _) Q E s
       rw [if_neg (by intro h;rw [d,Z5] at h;cases h)]
       exact TV a))
noncomputable def uV (K:Sw)(a:Addr):It:=
 ⟨fun i H=>∃ c x,SqL K H a c/\c[i]? = some x,fun i H x d=>d=H/\∀ c,SqL K H a c->c[i]? = some x,fun i H=>∃ c,SqL K H a c/\c.length<=i⟩
noncomputable def uW (K:Sw)(a:Addr):It:=
 ⟨fun i H=>∃ c x,SqT K H a c/\c[i]? = some x,fun i H x d=>d=H/\∀ c,SqT K H a c->c[i]? = some x,fun i H=>∃ c,SqT K H a c/\c.length<=i⟩
noncomputable def kE (lo:Int)(n:Nat):It:=⟨fun i _=>i<n,fun i H x H'=>H'=H/\x=.int (lo+i),fun i _=>n<=i⟩
theorem Gd {P:Tc}{w:Ts}{K:Sw}{tg:Expr}(a l:Addr):Turn Qc P w K tg (uV K a) [l] l (fun i h=>h.IsListIter l a i) where
 mem:=by simp
 obj:=fun i h st b j=>by
  have e:b=l:=by simpa using j
  subst e
  obtain ⟨o,e,c,d⟩:=st
  exact ⟨o,e,fun v z=>by rw [d] at z;cases z⟩
 keep:=fun i h q st k=>st.at fun o e=>k l (by simp) o e
 item:=by
  intro X N hw M hc i m s U H E I r st O
  subst N hw M
  obtain ⟨xs,x,y,Q⟩:=O
  obtain ⟨R,T,p,hz⟩:=I.list y
  obtain ⟨u,hu,ru⟩:=T.get Q
  obtain ⟨A,B,f2,G,J,L⟩:=r l (by simp)
  refine Zd st p.isList (x:=u) (by simpa using hu) fun q n sb=>?_
  have Y:Inv X m U H { s with heap:=q }:=I.turned (t':=s.toks) (fun b o j e=>(sb.2 b j).trans e) A B G J L
  obtain ⟨o,e,c,d⟩:=id n
  exact ⟨u,rfl,rM (s:={ s with heap:=q }) e c d (by decide) ⟨x,H,Y,ru,⟨rfl,fun ys hy=>by rw [I.list_inj hy y];exact Q⟩,n,fun b j=>(r b j).1⟩⟩
 done:=by
  intro X N hw M hc i m s U H E I r st O
  subst N hw M
  obtain ⟨xs,y,Q⟩:=O
  obtain ⟨R,T,p,hz⟩:=I.list y
  obtain ⟨A,B,f2,G,J,L⟩:=r l (by simp)
  have hl:=T.length
  exact ZH (I.ok.hd hc) st p.isList (by simp;omega) fun q Z=>⟨rfl,I.turned (t':=s.toks) (fun b o j e=>Z b o j e) A B G J L⟩
 self:=fun _ _ _ _ _ st h=>wpAny_pyIter_listiter st h
theorem Ge {P:Tc}{w:Ts}{K:Sw}{tg:Expr}(a l:Addr):Turn Qc P w K tg (uW K a) [l] l (fun i h=>h.IsTupleIter l a i) where
 mem:=by simp
 obj:=fun i h st b j=>by
  have e:b=l:=by simpa using j
  subst e
  obtain ⟨o,e,c,d⟩:=st
  exact ⟨o,e,fun v z=>by rw [d] at z;cases z⟩
 keep:=fun i h r st k=>st.at fun o e=>k l (by simp) o e
 item:=by
  intro X O hw N hc i n s U H E I y st Q
  subst O hw N
  obtain ⟨xs,x,A,R⟩:=Q
  obtain ⟨m,T,p,hz⟩:=I.tuple A
  obtain ⟨u,hu,ru⟩:=T.get R
  obtain ⟨B,G,f2,J,L,M⟩:=y l (by simp)
  refine wpAny_pyNext_tuple_item st (show s.heap.IsTuple a m.toArray from p) (x:=u) (by simpa using hu) fun r q sb=>?_
  have Y:Inv X n U H { s with heap:=r }:=I.turned (t':=s.toks) (fun b o j e=>(sb.2 b j).trans e) B G J L M
  obtain ⟨o,e,c,d⟩:=id q
  exact ⟨u,rfl,rM (s:={ s with heap:=r }) e c d (by decide) ⟨x,H,Y,ru,⟨rfl,fun ys hy=>by rw [I.tuple_inj hy A];exact R⟩,q,fun b j=>(y b j).1⟩⟩
 done:=by
  intro X O hw N hc i n s U H E I y st Q
  subst O hw N
  obtain ⟨xs,A,R⟩:=Q
  obtain ⟨m,T,p,hz⟩:=I.tuple A
  obtain ⟨B,G,f2,J,L,M⟩:=y l (by simp)
  have hl:=T.length
  exact wpAny_pyNext_tuple_end (I.ok.hd hc) st (show s.heap.IsTuple a m.toArray from p) (by simp;omega) fun r Z=>⟨rfl,I.turned (t':=s.toks) (fun b o j e=>Z b o j e) B G J L M⟩
 self:=fun _ _ _ _ _ st h=>wpAny_pyIter_tupleiter st h
theorem oV {P:Tc}{w:Ts}{K:Sw}{tg:Expr}(a:Addr)(lo:Int)(n:Nat):Turn Qc P w K tg (kE lo n) [a] a (fun i h=>VS h a (lo+(i:Nat) * 1) ((n:Int) - (i:Nat)) 1) where
 mem:=by simp
 obj:=fun i h st b c=>by
  have e:b=a:=by simpa using c
  subst e
  exact ⟨_,st,fun v z=>by
   have R:SR _=a1p v:=z
   cases R⟩
 keep:=fun i h l st k=>k a (by simp) _ st
 item:=by
  intro X A hw y hc i d s J H E I m st B
  subst A hw y
  obtain ⟨p,q,N,r,u,x⟩:=m a (by simp)
  have W:=Walks.range (prog:=X.prog) (w:=X.w) (I.ok.hd hc) a lo 1 n
  refine W.item i s _ _ B st fun v l G O j Q=>?_
  obtain ⟨t,rfl⟩:=O
  have L:Inv X d J H { s with heap:=l,toks:=G }:=I.turned (fun b o c e=>Q b o (by simpa using c) e) p q r u x
  refine ⟨_,rfl,rM (s:={ s with heap:=l,toks:=G }) (n:="range_iterator") j rfl rfl (by decide) ⟨.int (lo+i),H,L,⟨t,?_⟩,⟨rfl,rfl⟩,j,fun b c=>(m b c).1⟩⟩
  rw [a1e]
 done:=by
  intro X A hw y hc i d s J H E I m st B
  subst A hw y
  obtain ⟨p,q,N,r,u,x⟩:=m a (by simp)
  exact wpAny_pyNext_range_end (I.ok.hd hc) st (by have:n<=i:=B;omega) fun l M=>⟨rfl,I.turned (t':=s.toks) (fun b o c e=>M b o c e) p q r u x⟩
 self:=fun _ _ _ _ _ st h=>wpAny_pyIter_rangeiter st h
end L2
namespace L2
open PySem PySem.Spec PyProof.Rows
section
variable {X:Cx}{tg:Expr}
theorem Gf {q:Cx->Prop}(tr:∀ (d:Addr)(lo:Int)(n:Nat),Turn q X.prog X.w X.K tg (kE lo n) [d] d (fun i h=>VS h d (lo+(i:Nat) * 1) ((n:Int) - (i:Nat)) 1)){a1r:List (Addr×Obj)}{σ:St}{H:Hp}{s:SF}{R:It->Hp->Prop}{E:Value->SF->Prop}{lo a:Int}{t u v:a0A}{tk:Nat}(I:Inv X a1r σ H s)(m:-(2 ^ 62)<=lo)(p:lo<2 ^ 62)(r:-(2 ^ 62)<=a)(w:a<2 ^ 62)
  (x:R (kE lo (a - lo).toNat) H):Ti (Tq X.prog X.w) X.A (a0a (.ref s.heap.objs.size)) (rL q X a1r σ tg R) E { s with heap:=s.heap.push { cls:=.type "range",data:=.fields #[.int lo t,.int a u,.int 1 v] },toks:=tk }:=by
 refine wpAny_pyIter_range (IsRange.new ..) (small_one m p r w) ?_
 have c:Inv X a1r σ H { s with heap:=s.heap.push { cls:=.type "range",data:=.fields #[.int lo t,.int a u,.int 1 v] },toks:=tk }:=I.kept fun b o e=>SS _ e
 refine ⟨(s.heap.push { cls:=.type "range",data:=.fields #[.int lo t,.int a u,.int 1 v] }).objs.size,[(s.heap.push { cls:=.type "range",data:=.fields #[.int lo t,.int a u,.int 1 v] }).objs.size],_,_,H,rfl,
  c.kept (t':=tk) fun b o e=>SS _ e,tr _ lo (a - lo).toNat,?_,fun b y=>?_,x⟩
 ·have j:lo+((0:Nat):Int) * 1=lo:=by simp
  have l:(((a - lo).toNat:Nat):Int) - ((0:Nat):Int)=Xk lo a 1:=by rw [rangeSize_one];split<;>omega
  show VS _ _ (lo+((0:Nat):Int) * 1) ((((a - lo).toNat:Nat):Int) - ((0:Nat):Int)) 1
  rw [j,l]
  exact Tf _ rfl
 ·have e:b=(s.heap.push { cls:=.type "range",data:=.fields #[.int lo t,.int a u,.int 1 v] }).objs.size:=by simpa using y
  subst e
  exact c.fpOk (SM _) (c.hok.fresh (SM _))
noncomputable def Gg (c:TA):TI:=fun σ H R=>c σ H fun vs a=>∃ j:Int,vs=[.int j]/\-(2 ^ 62)<=j/\j<2 ^ 62/\R (kE 0 j.toNat) a
theorem Gh {q:Cx->Prop}(tr:∀ (d:Addr)(lo:Int)(n:Nat),Turn q X.prog X.w X.K tg (kE lo n) [d] d (fun i h=>VS h d (lo+(i:Nat) * 1) ((n:Int) - (i:Nat)) 1)){a:Expr}{m:TA}{p pos:UA}(v:Gl X "range") (w:X.mg "range" = none) (u:PA X [a] m)(x:Tu [a] X.env=[(false,eval a X.env)]:=by rfl):oU q X tg (.Call (.Name "range" p) [a] [] pos) (Gg m):=by
 intro c s E H R I h
 refine Call_ (kD I v w boot_range (W9 (aX (u pos c s E H _ I h) fun K J ⟨L,G,o,A,l⟩=>?_) x rfl))
 obtain ⟨j,e,l,y,z⟩:=l
 subst e
 cases A with
 | cons r B=>
  cases B
  obtain ⟨t,rfl⟩:=r
  exact call_range_1 (Gf tr o (by omega) (by omega) l y (by simpa using z))
noncomputable def Gi (n:TI)(g:TG)(l:TS):TS:=fun D σ H=>n σ H fun J h=>∃ W:Nat->Nat->St->Hp->Prop,(∃ m,W 0 m σ h)/\∀ i m σ H,W i m σ H->
 (J.stop i H/\D.nx σ H)\/(J.go i H/\∃ N:St->Hp->Prop,(∀ c a,N c a->∃ e,e<m/\W (i+1) e c a)/\∀ x a,J.yld i H x a->g x σ a fun d j=>l { D with nx:=N,ct:=N,bk:=D.nx } d j)
noncomputable def oW (a:List Addr)(h:Ua):List (Addr×Obj):=a.filterMap fun b=>(h.get? b).map fun o=>(b,o)
theorem rN {a:List Addr}{h:Ua}{b:Addr}{o:Obj}(c:b∈a)(e:h.get? b=some o):(b,o)∈oW a h:=Xc.mpr ⟨b,c,by rw [e];rfl⟩
theorem Gj {a:List Addr}{h:Ua}{p:Addr×Obj}(i:p∈oW a h):p.1∈a/\h.get? p.1=some p.2:=by
 obtain ⟨b,d,e⟩:=Xc.mp i
 cases q:h.get? b with
 | none=>rw [q] at e;cases e
 | some o=>
  rw [q] at e
  have c:(b,o)=p:=S8 e
  subst c
  exact ⟨d,q⟩
theorem Inv.pinned {a1r:List (Addr×Obj)}{σ:St}{H:Hp}{s:SF}{a:List Addr}(I:Inv X a1r σ H s)(m:∀ b∈a,gP X a1r H b)(n:∀ b∈a,∃ o,s.heap.get? b=some o/\∀ v,o.data≠.cell v):Inv X (a1r++oW a s.heap) σ H s:=
 I.pins_of fun p q=>(T7.mp q).elim (fun z=>I.pin p (Ud _ z)) fun z=>by
  obtain ⟨h,e⟩:=Gj z
  obtain ⟨i,j,l,_⟩:=m p.1 h
  obtain ⟨o,c,d⟩:=n p.1 h
  rw [e] at c;cases c
  exact ⟨e,i,j,l,d⟩
theorem Inv.unpinned {a1r c:List (Addr×Obj)}{σ:St}{H:Hp}{s:SF}(I:Inv X (a1r++c) σ H s):Inv X a1r σ H s:=I.pins_of fun p a=>I.pin p (Ud _ (YJ _ a))
theorem Gk {iter:Expr}{body:List Stmt}{wi:TI}{g:TG}{tb:TS}{pos:UA}(K:X8 (Tq X.prog X.w) X.A X.env X.xe)(hc:X.calm=true)(hi:PI X tg iter wi)(hg:PG X tg g)(q:PSs X body tb)
  (hs:∀ x,Vs iter X.env x=pure x:=by intro _;rfl):PS X (.For tg iter body [] pos) (Gi wi g tb):=by
 intro c s σ H D I h
 refine wpAny_For (aX (hi c s σ H _ I h) fun v s1 h1=>aX h1 fun itv s2 h2=>?_) hs
 obtain ⟨it,E,tn,J,H2,e,I2,T,st2,f2,W,⟨m0,w0⟩,turn⟩:=h2
 subst e
  -- what stays true of the iterator's objects through the loop
 have w:∀ {H':Hp},(∀ b∈E,H' b=none)->∀ b∈E,gP X c H' b:=fun hn b q=>⟨hn b q,(f2 b q).2⟩
 refine codeAny_forLoop_any (fun n s'=>∃ i y H',Inv X c y H' s'/\tn i s'.heap/\(∀ b∈E,H' b=none)/\W i n y H') ?_ m0 ⟨0,σ,H2,I2,st2,fun b q=>(f2 b q).1,w0⟩
 rintro n s3 ⟨i,z,Q,I3,M,G,w3⟩
 rcases turn i n z Q w3 with ⟨O,qn⟩|⟨go,N,hN,step⟩
 ·refine Vl K (aX (T.done X rfl rfl rfl hc i c s3 z Q X.xe I3 (w G) M O) fun r s4 ⟨Y,I4⟩=>?_)
  subst Y
  exact Ws ⟨z,Q,I4,qn⟩
 ·refine Vl K (aX (T.item X rfl rfl rfl hc i c s3 z Q X.xe I3 (w G) M go) fun r s4 ⟨u,Y,h4⟩=>?_)
  subst Y
  refine Vl K (aX h4 fun _ s5 ⟨x,H5,I5,r5,y5,B,U⟩=>?_)
  have R:=I5.pinned (w U) (T.obj _ _ B)
  refine Vl K (aX (hg _ s5 z H5 x u _ R r5 (step x H5 y5)) fun _ s6 ⟨σ6,H6,I6,q6⟩=>?_)
  refine Vl K (aX (q _ s6 σ6 H6 _ I6 q6) fun f Z A=>?_)
  have p:∀ {a:St}{j:Hp},Inv X (c++oW E s5.heap) a j Z->N a j->∃ m,m<n/\∃ i y H',Inv X c y H' Z/\tn i Z.heap/\(∀ b∈E,H' b=none)/\W i m y H':=fun {a j} l L=>by
   obtain ⟨m',hm,w7⟩:=hN a j L
   refine ⟨m',hm,i+1,a,j,l.unpinned,T.keep _ _ _ B fun b q o e=>(l.pin (b,o) (Ud _ (Ud _ (rN q e)))).1,fun b q=>?_,w7⟩
   obtain ⟨o,e,d⟩:=T.obj _ _ B b q
   exact (l.pin (b,o) (Ud _ (Ud _ (rN q e)))).2.1
  cases f with
  | next=>obtain ⟨a,j,l,L⟩:=A;exact p l L
  | cont=>obtain ⟨a,j,l,L⟩:=A;exact p l L
  | brk=>obtain ⟨a,j,l,A⟩:=A;exact ⟨a,j,l.unpinned,A⟩
  | ret v=>obtain ⟨x7,a,j,l,r7,A⟩:=A;exact ⟨x7,a,j,l.unpinned,r7,A⟩
end
end L2
namespace L2
open PySem PySem.Spec PyProof.Rows
noncomputable abbrev R2:=V->V->Hp->VK->Prop
noncomputable def OpR (X:Cx)(f:Value->Value->a0Q Value)(r:R2):Prop:=
 ∀ (a1r:List (Addr×Obj))(s:SF)(σ:St)(H:Hp)(x y:V)(v u:Value)(Q:VK),Inv X a1r σ H s->RelV x v->RelV y u->r x y H Q->
  Ti (Tq X.prog X.w) X.A (f v u) (EP X a1r σ Q) X.xe s
noncomputable def uX (X:Cx)(f:Value->a0Q Value)(r:V->Hp->VK->Prop):Prop:=
 ∀ (a1r:List (Addr×Obj))(s:SF)(σ:St)(H:Hp)(x:V)(v:Value)(Q:VK),Inv X a1r σ H s->RelV x v->r x H Q->
  Ti (Tq X.prog X.w) X.A (f v) (EP X a1r σ Q) X.xe s
noncomputable def CallR (X:Cx)(f:Value)(r:List V->Hp->VK->Prop):Prop:=
 ∀ (a1r:List (Addr×Obj))(s:SF)(σ:St)(H:Hp)(xs:List V)(us:List Value)(Q:VK),Inv X a1r σ H s->Vals xs us->r xs H Q->
  Ti (Tq X.prog X.w) X.A (call f us) (EP X a1r σ Q) X.xe s
noncomputable def Gn (X:Cx)(r:V->Hp->(Bool->Hp->Prop)->Prop):Prop:=
 ∀ (a1r:List (Addr×Obj))(s:SF)(σ:St)(H:Hp)(x:V)(v:Value)(Q:Bool->Hp->Prop),Inv X a1r σ H s->RelV x v->r x H Q->
  Ti (Tq X.prog X.w) X.A (truthy v) (TP X a1r σ Q) X.xe s
noncomputable def oX (r:R2)(d e:TE):TE:=fun σ H Q=>d σ H fun x a=>e σ a fun y c=>r x y c Q
noncomputable def Gp (r:V->Hp->VK->Prop)(c:TE):TE:=fun σ H Q=>c σ H fun x a=>r x a Q
noncomputable def rI (C:Int->Int->Prop)(g:Int->Int->V):R2:=fun x y H Q=>∃ i j,x=.int i/\y=.int j/\C i j/\Q (g i j) H
noncomputable def f7 (g:Int->Int->V):R2:=fun x y H Q=>∃ i j,x=.int i/\y=.int j/\Q (g i j) H
noncomputable def rU (g:Int->V):V->Hp->VK->Prop:=fun x H Q=>∃ i,x=.int i/\Q (g i) H
section
variable {X:Cx}{a b c:Expr}{ta tb tc:TE}{pos:UA}
theorem uY (o:PE X a ta)(p:PE X b tb){a1r:List (Addr×Obj)}{s:SF}{σ:St}{H:Hp}{R:V->V->Hp->Prop}(I:Inv X a1r σ H s)
  (h:ta σ H fun x l=>tb σ l fun y d=>R x y d){Q:Value->SF->Prop}{f:Value->Value->a0Q Value}
  (q:∀ v u j x y d,Inv X a1r σ d j->RelV x v->RelV y u->R x y d->Ti (Tq X.prog X.w) X.A (f v u) Q X.xe j) :
  Ti (Tq X.prog X.w) X.A (eval a X.env) (fun v e=>Ti (Tq X.prog X.w) X.A (eval b X.env) (fun u i=>Ti (Tq X.prog X.w) X.A (f v u) Q X.xe i) X.xe e) X.xe s:=by
 refine aX (o a1r s σ H _ I h) fun v B ⟨x,l,m,z,r⟩=>?_
 refine aX (p a1r B σ l _ m r) fun u j ⟨y,d,n,A,w⟩=>?_
 exact q v u j x y d n z A w
theorem Gq {e:Yz}{r:R2}(n:OpR X (Vm e) r)(l:PE X a ta)(m:PE X b tb):PE X (.BinOp a e b pos) (oX r ta tb):=by
 intro d s z H Q I h
 exact wpAny_BinOp (uY l m I h fun v u w x y i j o p q=>n d w z i x y v u Q j o p q)
theorem Gr {e:UnaryOp}{r:V->Hp->VK->Prop}(n:uX X (unaryOp e) r)(m:PE X a ta):PE X (.UnaryOp e a pos) (Gp r ta):=by
 intro d s i H Q I h
 exact UnaryOp_ (aX (m d s i H _ I h) fun v q ⟨x,j,l,p,o⟩=>n d q i j x v Q l p o)
theorem rO {f:Value->Value->a0Q Value}{C:Int->Int->Prop}{g:Int->Int->Int}
  (d:∀ (i j:Int)(t u:a0A)(s:SF)(Q:Value->SF->Prop)(E:Value->SF->Prop),C i j->Q (.int (g i j) s.toks) { s with toks:=s.toks+1 }->Ti (Tq X.prog X.w) X.A (f (.int i t) (.int j u)) Q E s) :
  OpR X f (rI C fun i j=>.int (g i j)):=by
 intro e s o H x y v u Q I l m h
 obtain ⟨i,j,rfl,rfl,hc,q⟩:=h
 obtain ⟨t,rfl⟩:=l
 obtain ⟨n,rfl⟩:=m
 exact d i j t n s _ _ hc ⟨.int (g i j),H,I.tok _,⟨_,rfl⟩,q⟩
theorem Ag {f:Value->Value->a0Q Value}{g:Int->Int->Int}
  (d:∀ (i j:Int)(t u:a0A)(s:SF)(Q:Value->SF->Prop)(E:Value->SF->Prop),Q (.int (g i j) s.toks) { s with toks:=s.toks+1 }->Ti (Tq X.prog X.w) X.A (f (.int i t) (.int j u)) Q E s) :
  OpR X f (f7 fun i j=>.int (g i j)):=by
 intro e s o H x y v u Q I l m h
 obtain ⟨i,j,rfl,rfl,q⟩:=h
 obtain ⟨t,rfl⟩:=l
 obtain ⟨n,rfl⟩:=m
 exact d i j t n s _ _ ⟨.int (g i j),H,I.tok _,⟨_,rfl⟩,q⟩
theorem rP {f:Value->Value->a0Q Value}{g:Int->Int->Bool}
  (d:∀ (i j:Int)(t u:a0A)(s:SF)(Q:Value->SF->Prop)(E:Value->SF->Prop),Q (.bool (g i j)) s->Ti (Tq X.prog X.w) X.A (f (.int i t) (.int j u)) Q E s) :
  OpR X f (f7 fun i j=>.bl (g i j)):=by
 intro e s o H x y v u Q I l m h
 obtain ⟨i,j,rfl,rfl,q⟩:=h
 obtain ⟨t,rfl⟩:=l
 obtain ⟨n,rfl⟩:=m
 exact d i j t n s _ _ ⟨.bl (g i j),H,I,rfl,q⟩
noncomputable def Gs (i j:Int):Prop:=0<=j/\j<=1000000/\i.natAbs<2 ^ 64
noncomputable def CMul (i j:Int):Prop:=(-(2 ^ 64)<i/\i<2 ^ 64)\/(-(2 ^ 64)<j/\j<2 ^ 64)
theorem CMul.ok {i j:Int}(h:CMul i j):ZZ i j:=by
 rcases h with ⟨d,e⟩|⟨d,e⟩
 ·exact .of_left (intBits_le_64 d e)
 ·exact .of_right (intBits_le_64 d e)
theorem op_add:OpR X (Vm .Add) (f7 fun i j=>.int (i+j)):=Ag fun _ _ _ _ _ _ _ q=>add_int q
theorem Gu:OpR X (Vm .Sub) (f7 fun i j=>.int (i - j)):=Ag fun _ _ _ _ _ _ _ q=>sub_int q
theorem Gv:OpR X (Vm .Mod) (rI (fun _ j=>0<j) fun i j=>.int (i % j)):=rO fun i j _ _ _ _ _ hc q=>by
 have d:(0:Int)<j:=hc
 exact mod_int' (by omega) (by rw [Int.fmod_eq_emod_of_nonneg i (by omega)];exact q)
theorem dJ {f:Value->a0Q Value}{g:Int->Int}
  (d:∀ (i:Int)(t:a0A)(s:SF)(Q:Value->SF->Prop)(E:Value->SF->Prop),Q (.int (g i) s.toks) { s with toks:=s.toks+1 }->Ti (Tq X.prog X.w) X.A (f (.int i t)) Q E s) :
  uX X f (rU fun i=>.int (g i)):=by
 intro e s l H x v Q I j h
 obtain ⟨i,rfl,q⟩:=h
 obtain ⟨t,rfl⟩:=j
 exact d i t s _ _ ⟨.int (g i),H,I.tok _,⟨_,rfl⟩,q⟩
theorem Gw:uX X (unaryOp .USub) (rU fun i=>.int (-i)):=dJ fun _ _ _ _ _ q=>neg_int q
end
section
variable {X:Cx}{a b c:Expr}{ta tb tc:TE}{pos:UA}
theorem m4 {a1r:List (Addr×Obj)}{σ:St}{H:Hp}{s:SF}{Q:VK}{k k':Bool}(I:Inv X a1r σ H s)(q:Q (.bl k) H)(e:k=k'):EP X a1r σ Q (.bool k') s:=by
 subst e
 exact ⟨.bl k,H,I,rfl,q⟩
theorem uZ:OpR X (UB .Lt) (f7 fun i j=>.bl (decide (i<j))):=rP fun _ _ _ _ _ _ _ q=>lt_int q
theorem u1:OpR X (UB .LtE) (f7 fun i j=>.bl (decide (i<=j))):=rP fun _ _ _ _ _ _ _ q=>le_int q
theorem u3:OpR X (UB .Gt) (f7 fun i j=>.bl (decide (j<i))):=rP fun _ _ _ _ _ _ _ q=>gt_int q
theorem u4:OpR X (UB .GtE) (f7 fun i j=>.bl (decide (j<=i))):=rP fun _ _ _ _ _ _ _ q=>ge_int q
theorem Ah:OpR X (UB .Is) (fun x y H Q=>y=.non/\Q (.bl (decide (x=.non))) H):=by
 intro e s j H x y v u Q I d i h
 obtain ⟨rfl,q⟩:=h
 cases i
 refine is_none_gen (m4 I q ?_)
 cases x<;>first
  | (cases d;rfl)
  | (obtain ⟨t,rfl⟩:=d;rfl)
theorem Ai:OpR X (UB .IsNot) (fun x y H Q=>y=.non/\Q (.bl (!decide (x=.non))) H):=by
 intro e s j H x y v u Q I d i h
 obtain ⟨rfl,q⟩:=h
 cases i
 refine isnot_none_gen (m4 I q ?_)
 cases x<;>first
  | (cases d;rfl)
  | (obtain ⟨t,rfl⟩:=d;rfl)
theorem OpR.or {f:Value->Value->a0Q Value}{r e:R2}(h:OpR X f r)(h':OpR X f e):OpR X f (fun x y H Q=>r x y H Q\/e x y H Q):=by
 intro d s l H x y v u Q I i j q
 rcases q with q|q
 ·exact h d s l H x y v u Q I i j q
 ·exact h' d s l H x y v u Q I i j q
theorem dM (b:Expr){d:Wo}(h:d≠.In:=by decide)(j:d≠.NotIn:=by decide):VI d b=false:=by
 have e:(d == CmpOp.In)=false:=by cases d<;>first|rfl|exact absurd rfl h
 have i:(d == CmpOp.NotIn)=false:=by cases d<;>first|rfl|exact absurd rfl j
 cases b<;>simp [VI,e,i]
theorem Gx {e:Wo}{r:R2}(o:OpR X (UB e) r)(l:PE X a ta)(m:PE X b tb)(n:VI e b=false):PE X (.Compare a [e] [b] pos) (oX r ta tb):=by
 intro d s A H Q I h
 exact wpAny_Compare1 (uY l m I h fun v u z x y i j p w q=>o d z A i x y v u Q j p w q) n
noncomputable def Aj (t:TE):TT:=fun σ H Q=>t σ H fun x H'=>∃ k,x=.bl k/\Q k H'
theorem Gy {i:Wo}{r:R2}(E:OpR X (UB i) r)(w:PE X a ta)(A:PE X b tb)(B:VI i b=false):PT X (.Compare a [i] [b] pos) (Aj (oX r ta tb)):=by
 intro d s j H Q I h
 refine wpAny_isTrue_Compare1 (aX (w d s j H _ I h) fun v O ⟨x,l,o,L,G⟩=>aX (A d O j l _ o G) fun u R ⟨y,m,p,M,J⟩=>
  aX (E d R j m x y v u _ p L M J) fun c T ⟨z,n,q,N,k,e,K⟩=>?_) B
 subst e
 cases N
 exact Uw ⟨n,q,K⟩
noncomputable def u5 (r j:R2)(ta tb tc:TE):TE:=fun σ H Q=>ta σ H fun x e=>tb σ e fun y h=>r x y h fun z d=>∃ k,z=.bl k /\
 (if k=true then tc σ d fun l i=>j y l i Q else Q (.bl false) d)
theorem Gz {n j:Wo}{r w:R2}(R:OpR X (UB n) r)(m:OpR X (UB j) w)(M:PE X a ta)(N:PE X b tb)(hc:PE X c tc)
  (O:a0y [n,j] [b,c]=false:=by with_unfolding_all rfl):PE X (.Compare a [n,j] [b,c] pos) (u5 r w ta tb tc):=by
 intro i s l H Q I h
 refine Compare_chain (aX (M i s l H _ I h) fun v s1 ⟨x,B,J,Z,T⟩=>chain_link (aX (N i s1 l B _ J T) fun u s2 ⟨y,E,K,A,U⟩=>
  aX (R i s2 l E x y v u _ K Z A U) fun d s3 ⟨z,o,p,r3,k,e,q⟩=>?_)) O
 subst e
 cases r3
 refine Uw ?_
 cases k with
 | false=>exact ite_ff ⟨.bl false,o,p,rfl,q⟩
 | true=>exact ite_tt (chain_last (aX (hc i s3 l o _ p q) fun w' s4 ⟨z',G,L,r4,Y⟩=>m i s4 l G y z' u w' Q L A r4 Y))
theorem GA {n j:Wo}{r w:R2}(Z:OpR X (UB n) r)(m:OpR X (UB j) w)(T:PE X a ta)(U:PE X b tb)(hc:PE X c tc)
  (Y:a0y [n,j] [b,c]=false:=by with_unfolding_all rfl):PT X (.Compare a [n,j] [b,c] pos) (Aj (u5 r w ta tb tc)):=by
 intro i s l H Q I h
 refine isTrue_chain (aX (T i s l H _ I h) fun v s1 ⟨x,B,K,r1,q1⟩=>test_link (aX (U i s1 l B _ K q1) fun u s2 ⟨y,E,L,A,q2⟩=>
  aX (Z i s2 l E x y v u _ L r1 A q2) fun d s3 ⟨z,o,p,r3,k,e,q⟩=>?_)) Y
 subst e
 cases r3
 refine Uw ?_
 cases k with
 | false=>
  obtain ⟨k',O,q'⟩:=q
  cases O
  exact ite_ff ⟨o,p,q'⟩
 | true=>
  refine ite_tt (test_last (aX (hc i s3 l o _ p q) fun w' s4 ⟨z',G,M,r4,q4⟩=>aX (m i s4 l G y z' u w' _ M A r4 q4) fun d' s5 ⟨z2,J,N,r5,k2,R,q5⟩=>?_))
  subst R
  cases r5
  exact Uw ⟨J,N,q5⟩
noncomputable def u6 (K:Sw)(x:V)(H:Hp)(k:Bool):Prop:=
 match x with
 | .non=>k=false
 | .bl b=>k=b
 | .int i=>k=(i != 0)
 | .str y=>y.length<=SK/\k=((y.length:Int) != 0)
 | .byt y=>y.size<=SK/\k=((y.size:Int) != 0)
 | .ref p=>(∃ e,SqL K H p e/\k = !e.isEmpty)\/(∃ e,SqT K H p e/\k = !e.isEmpty)\/∃ d,H p=some (.dK d)/\k = !d.isEmpty
 | _=>False
theorem GB {e:Type}{d:List (e×V)}{vs:List (e×Value)}(r:KV d vs):(!vs.isEmpty) = !d.isEmpty:=by
 cases r<;>rfl
theorem Ak {xs:List V}{d:List Value}(r:Vals xs d):(!d.toArray.isEmpty) = !xs.isEmpty:=by
 cases r<;>simp
theorem lK:(SK:Nat)<2 ^ 63:=by rw [S4];decide
theorem GC:Gn X (fun x H Q=>∃ k,u6 X.K x H k/\Q k H):=by
 intro E s M H x v Q I o h
 obtain ⟨k,e,q⟩:=h
 have K:=lK
 have L:SK=16777216:=S4
 cases x with
 | non=>
  cases o
  have d:k=false:=e
  subst d
  exact truthy_none ⟨H,I,q⟩
 | bl b=>
  cases o
  have d:k=b:=e
  subst d
  exact Uw ⟨H,I,q⟩
 | int i=>
  obtain ⟨t,rfl⟩:=o
  have d:k=(i != 0):=e
  subst d
  exact PySem.P.truthy_int ⟨H,I,q⟩
 | str y=>
  obtain ⟨t,rfl⟩:=o
  obtain ⟨J,d⟩:y.length<=SK/\k=((y.length:Int) != 0):=e
  subst d
  exact PySem.P.truthy_str (by omega) ⟨H,I.tok _,q⟩
 | byt y=>
  obtain ⟨t,rfl⟩:=o
  obtain ⟨J,d⟩:y.size<=SK/\k=((y.size:Int) != 0):=e
  subst d
  exact PySem.W.truthy_bytes (by omega) ⟨H,I.tok _,q⟩
 | ref p=>
  cases o
  have d:(∃ n,SqL X.K H p n/\k = !n.isEmpty)\/(∃ n,SqT X.K H p n/\k = !n.isEmpty)\/∃ j,H p=some (.dK j)/\k = !j.isEmpty:=e
  rcases d with ⟨n,u,d⟩|⟨n,u,d⟩|⟨j,u,d⟩
  ·subst d
   obtain ⟨z,r,A,B⟩:=I.list u
   have l:=r.length
   exact wpAny_truthy_list A.isList (by simp only [S3];omega) ⟨H,I.tok _,by rw [Ak r];exact q⟩
  ·subst d
   obtain ⟨z,r,A,B⟩:=I.tuple u
   have l:=r.length
   exact truthy_tuple A (by simp only [S3];omega) ⟨H,I.tok _,by rw [Ak r];exact q⟩
  ·subst d
   obtain ⟨B,G,w,r,m⟩:j.length<=SK/\(p == Vz)=false/\∃ w,KV j w/\s.heap.DictOf (d7 X.prog X.w) p w:=I.hok p _ u
   have l:j.length=w.length:=W3 r
   exact wpAny_truthy_dict G m (by omega) ⟨H,I.tok _,by rw [GB r];exact q⟩
 | _=>exact (show False from e).elim
theorem GD (n:PE X a ta)(o:∀ d,X3 a X.env d=(do let v <- d;a0l a.pos;holding [v] (truthy v))) :
  PT X a (fun i H Q=>ta i H fun x j=>∃ k,u6 X.K x j k/\Q k j):=by
 intro e s i H Q I h
 exact isTrue_plain (aX (n e s i H _ I h) fun v r ⟨x,l,m,q,p⟩=>GC e r i l x v Q m q p) (o _)
theorem op_add_str:OpR X (Vm .Add) (fun x y H Q=>∃ i j,x=.str i/\y=.str j/\i.length+j.length<=SK/\Q (.str (i++j)) H):=by
 intro d s p H x y v u Q I l m h
 obtain ⟨i,j,rfl,rfl,e,q⟩:=h
 obtain ⟨t,rfl⟩:=l
 obtain ⟨n,rfl⟩:=m
 exact add_str (fun n o=>⟨.str (i++j),H,I.tok _,⟨_,rfl⟩,q⟩) e
theorem f9 {x:V}{us:List Value}(r:Vals [x] us):∃ u,us=[u]/\RelV x u:=by
 cases r with
 | cons d e=>cases e;exact ⟨_,rfl,d⟩
theorem u7 {x y:V}{us:List Value}(r:Vals [x,y] us):∃ u d,us=[u,d]/\RelV x u/\RelV y d:=by
 cases r with
 | cons e h=>
  cases h with
  | cons i j=>cases j;exact ⟨_,_,rfl,e,i⟩
theorem GF (hc:X.calm=true):CallR X (.builtin "max") (fun xs H Q=>∃ i j,xs=[.int i,.int j]/\Q (.int (if j>i then j else i)) H):=by
 intro e s v H xs o Q I r h
 obtain ⟨i,j,rfl,q⟩:=h
 obtain ⟨u,p,rfl,⟨t,rfl⟩,⟨m,rfl⟩⟩:=u7 r
 refine max_two_ints (I.ok.hd hc) fun l n k=>⟨_,H,I.kept k,?_,q⟩
 by_cases d:j>i
 ·rw [if_pos d,if_pos d];exact ⟨_,rfl⟩
 ·rw [if_neg d,if_neg d];exact ⟨_,rfl⟩
theorem GG (hc:X.calm=true):CallR X (.builtin "min") (fun xs H Q=>∃ i j,xs=[.int i,.int j]/\Q (.int (if j<i then j else i)) H):=by
 intro e s v H xs o Q I r h
 obtain ⟨i,j,rfl,q⟩:=h
 obtain ⟨u,p,rfl,⟨t,rfl⟩,⟨m,rfl⟩⟩:=u7 r
 refine min_two_ints (I.ok.hd hc) fun l n k=>⟨_,H,I.kept k,?_,q⟩
 by_cases d:j<i
 ·rw [if_pos d,if_pos d];exact ⟨_,rfl⟩
 ·rw [if_neg d,if_neg d];exact ⟨_,rfl⟩
end
end L2
namespace L2
open PySem PySem.Spec PyProof.Rows
structure ObjM (h:Ua)(x dx C:Addr)(mA:Str->Option Value):Prop where
 obj:h.get? x=some (Y2 C dx)
 ns:h.Ns1 dx mA
 ne:dx≠x
theorem RelO.some_of {v:V}{o:Option Value}(r:RelO (some v) o):∃ u,o=some u/\RelV v u:=by
 cases o with
 | none=>exact (show False from r).elim
 | some u=>exact ⟨u,rfl,r⟩
structure Cls (K:Sw)(C:Addr):Prop where
 pg:YQ K C Str.empty=true
 hd:PySem.W.hasDictIn K C=true
 po:PySem.W.plainOver K C=true
 sa:UJ K (.ref C) "__setattr__" = some (some (.builtin "object.__setattr__"))
theorem Cls.get {K:Sw}{C:Addr}(c:Cls K C)(f:Str):YQ K C f=true:=c.pg
structure Con (K:Sw)(C:Addr)(f:Str)(v:V)(u:Value):Prop where
 at_:UJ K (.ref C) f=some (some u)
 rel:RelV v u
 get:Wq K u "__get__" = some none
 cp:PySem.W.copiedNames.contains f=false
structure Meth (K:Sw)(C:Addr)(m:Str)(f:Addr):Prop where
 at_:UJ K (.ref C) m=some (some (.ref f))
 fn:ZV K (.ref f)=true
 kp:T6 K (.ref f)=true
section
variable {X:Cx}{a1r:List (Addr×Obj)}{σ:St}{H:Hp}{s:SF}{A:Tt}{E:Value->SF->Prop}{Q:Value->SF->Prop}{c:Value}{b:Bool}
inductive TyOf (K:Sw)(H:Hp):V->Value->Prop where
 | non:TyOf K H .non (.type "NoneType")
 | bl (x:Bool):TyOf K H (.bl x) (.type "bool")
 | int (i:Int):TyOf K H (.int i) (.type "int")
 | str (x:Str):TyOf K H (.str x) (.type "str")
 | flt (x:UInt64):TyOf K H (.flt x) (.type "float")
 | lst {a:Addr}{xs:List V}(e:H a=some (.lst xs)):TyOf K H (.ref a) (.type "list")
 | frz {a:Addr}{o:Obj}{xs:List V}(e:H a=some (.frz o (.lst xs))):TyOf K H (.ref a) (.type "list")
 | tup {a:Addr}{xs:List V}(e:H a=some (.tup xs)):TyOf K H (.ref a) (.type "tuple")
 | dK {a:Addr}{kvs:List (aR×V)}(e:H a=some (.dK kvs)):TyOf K H (.ref a) (.type "dict")
 | dT {a:Addr}{kvs:List (List aR×V)}(e:H a=some (.dT kvs)):TyOf K H (.ref a) (.type "dict")
 | ins {a C dx:Addr}{fs:List (Str×V)}(e:H a=some (.ins C dx fs))(cl:Cls K C)(ha:UJ K (.ref C) "__class__" = some (some (.builtin "object.__class__")))
   (hn:Wq K (.builtin "object.__class__") "__get__" = some (some (.builtin "getset_descriptor.__get__"))) (htk:Y1 K (.builtin "object.__class__")=some true)
   (hm:ZJ K C (.type "object")=some true):TyOf K H (.ref a) (.ref C)
end
end L2
namespace L2
open PySem PySem.Spec PyProof.Rows
structure Room (k:Nat)(A:Tt):Prop where
 hd:A.handled=none
 dp:A.depth+3 * k+5<VZ
 un:A.units+16 * k+200<V1
theorem Room.mono {j k:Nat}{A:Tt}(r:Room k A)(h:j<=k):Room j A:=⟨r.hd,by have:=r.dp;omega,by have:=r.un;omega⟩
theorem Room.deeper {k:Nat}{A:Tt}(r:Room (k+1) A)(env:Wx):Room k (A.deeper env):=
 ⟨r.hd,by have:=r.dp;show A.depth+1+3 * k+5<_;omega,by have:=r.un;show A.units+3+16 * k+200<_;omega⟩
theorem Room.in1 {k:Nat}{A:Tt}(r:Room (k+1) A):Room k A.in1:=
 ⟨r.hd,by have:=r.dp;show A.depth+3 * k+5<_;omega,by have:=r.un;show A.units+1+16 * k+200<_;omega⟩
theorem Room.depth {k:Nat}{A:Tt}(r:Room k A):A.depth<VZ:=by have:=r.dp;omega
theorem Room.units {k:Nat}{A:Tt}(r:Room k A):A.units+64<V1:=by have:=r.un;omega
noncomputable def rQ:TA:=fun _ H Q=>Q [] H
noncomputable def u9 (d:TE)(tr:TA):TA:=fun σ H Q=>d σ H fun x a=>tr σ a fun xs c=>Q (x::xs) c
section
variable {X:Cx}{e:Expr}{es:List Expr}{te:TE}{t:TA}{pos:UA}
theorem rR:PA X [] rQ:=fun _ _ _ _ H Q I h=>Calls.spliced_nil ⟨[],H,I,.nil,h⟩
theorem rS (m:PE X e te)(n:PA X es t)(o:Tu (e::es) X.env=(false,eval e X.env)::Tu es X.env:=by rfl):PA X (e::es) (u9 te t):=by
 intro pos a s c H Q I h
 rw [o]
 show Ti _ _ (spliced ((false,eval e X.env)::Vg pos (Tu es X.env))) _ _ s
 refine Calls.spliced_cons (aX (m a s c H _ I h) fun u w ⟨x,d,j,r,p⟩=>?_)
 exact aX (n pos a w c d _ j p) fun A z ⟨y,i,l,v,q⟩=>⟨x::y,i,l,.cons r v,q⟩
noncomputable def GH (t:TA):TE:=fun σ H Q=>t σ H fun xs a=>xs.length<=SK/\∀ p,a p=none->Q (.ref p) (bA a p (.tup xs))
noncomputable def GI (t:TA):TE:=fun σ H Q=>t σ H fun xs a=>xs.length<=SK/\∀ p,a p=none->Q (.ref p) (bA a p (.lst xs))
theorem Al {x1} (h:PA X es t):PE X (.Tuple es x1 pos) (GH t):=by
 intro c s o H Q I l
 refine wpAny_Tuple_spliced (aX (h pos c s o H _ I l) fun m a ⟨n,d,i,r,z,q⟩=>⟨by rw [<- r.length];exact z,?_⟩)
 have j:d a.heap.objs.size=none:=i.hok.fresh (SM _)
 refine ⟨.ref a.heap.objs.size,bA d a.heap.objs.size (.tup n),i.laid (t':=a.toks) (fun b u e=>SS _ e) (SM _) ?_,rfl,q _ j⟩
 exact ⟨z,m,r,⟨_,Tf _ rfl,rfl,_,rfl,rfl⟩⟩
theorem GJ (h:PA X es t):PE X (.List es pos) (GI t):=by
 intro c s o H Q I l
 refine wpAny_List_spliced (aX (h pos c s o H _ I l) fun m a ⟨n,d,i,r,z,q⟩=>⟨by rw [<- r.length];exact z,?_⟩)
 have j:d a.heap.objs.size=none:=i.hok.fresh (SM _)
 refine ⟨.ref a.heap.objs.size,bA d a.heap.objs.size (.lst n),i.laid (t':=a.toks) (fun b u e=>SS _ e) (SM _) ?_,rfl,q _ j⟩
 exact ⟨z,m,0,r,Tf _ rfl⟩
end
noncomputable abbrev Sp:=List V->Hp->VK->XK->Prop
noncomputable abbrev fL:=List Wx->Hp->SF->XK->Value->SF->Prop
structure Env0 (P:Tc)(w:Ts)(K:Sw)(mg:Str->Option Value)(base:Ua)(A:Tt)(outer:List Wx)(s:SF)(H:Hp):Prop where
 frames:A.frames=some outer
 mod:Mod K mg base
 bs:∀ b o,base.get? b=some o->s.heap.get? b=some o/\H b=none
 bsz:base.objs.size<=s.heap.objs.size
 funs:s.heap.FunFrames base outer
 frf:∀ b∈cX outer,H b=none
 hok:HOk P w H s.heap
 bare:WG s.gens
noncomputable def CE (outer:List Wx)(P:Tc)(w:Ts)(H:Hp)(s:SF)(Q:VK)(u:Value)(a:SF):Prop:=
 ∃ v c,a.os=s.os/\WG a.gens/\Un (cX outer) [] H c s.heap a.heap/\HOk P w c a.heap/\RelV v u/\Q v c
noncomputable def CR (CX:fL)(outer:List Wx)(P:Tc)(w:Ts)(H:Hp)(s:SF)(Q:VK)(E:XK)(r:Result)(a:SF):Prop:=
 match r with
 | .ok (.ret u)=>CE outer P w H s Q u a
 | .ok _=>False
 | .error e=>CX outer H s E e a
structure FnOk (P:Tc)(w:Ts)(K:Sw)(mg:Str->Option Value)(base:Ua)(CX:fL)(k:Nat)(f:Addr)(fd:Ul)(ps:List Str)(sp:Sp):Prop where
 len:∀ vs H Q E,sp vs H Q E->vs.length=ps.length
 run:∀ (A:Tt)(outer:List Wx)(s:SF)(H:Hp)(args:Args)(us:List Value)(vs:List V)(Q:VK)(E:XK),Room k A->Env0 P w K mg base A outer s H->Xl s fd args (ps.zip us)->Vals vs us->sp vs H Q E->
  XO (Tq P w) A (.call (.ref f) args) (CR CX outer P w H s Q E) s
theorem FnOk.mono {P:Tc}{w:Ts}{K:Sw}{d:Str->Option Value}{base:Ua}{CX:fL}{j k:Nat}{f:Addr}{c:Ul}{ps:List Str}{sp:Sp}(F:FnOk P w K d base CX j f c ps sp)(h:j<=k) :
  FnOk P w K d base CX k f c ps sp:=⟨F.len,fun A outer s H a i l Q E e=>F.run A outer s H a i l Q E (e.mono h)⟩
theorem FnOk.imp {P:Tc}{w:Ts}{K:Sw}{i:Str->Option Value}{base:Ua}{CX:fL}{k:Nat}{f:Addr}{e:Ul}{ps:List Str}{sp d:Sp}(F:FnOk P w K i base CX k f e ps sp)
  (h:∀ a H Q E,d a H Q E->sp a H Q E):FnOk P w K i base CX k f e ps d:=
 ⟨fun a H Q E q=>F.len a H Q E (h _ _ _ _ q),fun A outer s H c p a Q E m l j o n=>F.run A outer s H c p a Q E m l j o (h _ _ _ _ n)⟩
theorem Env0.in1 {P:Tc}{w:Ts}{K:Sw}{a:Str->Option Value}{base:Ua}{A:Tt}{outer:List Wx}{s:SF}{H:Hp}(e:Env0 P w K a base A outer s H) :
  Env0 P w K a base A.in1 outer s H:=⟨e.frames,e.mod,e.bs,e.bsz,e.funs,e.frf,e.hok,e.bare⟩
section
variable {X:Cx}{a1r:List (Addr×Obj)}{σ:St}{H:Hp}{s s':SF}
theorem Inv.env0 (I:Inv X a1r σ H s):Env0 X.prog X.w X.K X.mg X.base X.A X.stack s H:=
 ⟨I.ok.frames,I.ok.mod,I.bs,TX I.ok.bsz I.sz,I.stack,I.stkFree,I.hok,I.bare⟩
theorem Inv.after {Q:VK}{u:Value}(I:Inv X a1r σ H s)(h:CE X.stack X.prog X.w H s Q u s'):EP X a1r σ Q u s':=by
 obtain ⟨v,e,j,a,un,hok,r,q⟩:=h
 obtain ⟨i,g,d,t,c⟩:=s'
 obtain rfl:c=s.os:=j
 exact ⟨v,e,I.call (h':=i) (g':=g) (d':=d) (t':=t) (ch:=[]) un hok a (fun b z=>absurd z (by simp)),r,q⟩
end
noncomputable def rV (sp:Sp)(a:List V)(E:XK)(t:TA):TE:=fun σ H Q=>t σ H fun vs c=>sp (vs++a) c Q E
noncomputable def Binds (K:Sw)(a:Ul)(ps:List Str)(ds:List Value):Prop:=
 ∀ (s:SF)(us:List Value),K.In s.heap->(us++ds).length=ps.length->Xl s a ⟨us,[]⟩ (ps.zip (us++ds))
theorem Binds.all {K:Sw}{a:Ul}{ps:List Str}(h:∀ us:List Value,us.length=ps.length->Yv a ⟨us,[]⟩=pure (ps.zip us)):Binds K a ps []:=fun s us _ c=>by
 rw [Um] at c ⊢
 exact .of_eq (h us c)
noncomputable def rW (CX:fL)(X:Cx)(E:XK):Prop:=∀ (a1r:List (Addr×Obj))(σ:St)(H:Hp)(s:SF)(e:Value)(a:SF),Inv X a1r σ H s->CX X.stack H s E e a->X.xe e a
section
variable {X:Cx}{CX:fL}{k:Nat}{f C:Addr}{fd:Ul}{ps:List Str}{sp:Sp}{dvs:List V}{ds:List Value}{E:XK}{x m:Str}{p pos apos:UA}{e o:Expr}{es:List Expr}{ta:TE}{t:TA}
theorem Am {a1r:List (Addr×Obj)}{σ:St}{H:Hp}{s:SF}{Q:VK}{us:List Value}{vs:List V}(F:FnOk X.prog X.w X.K X.mg X.base CX k f fd ps sp)(l:Room k X.A)(i:Binds X.K fd ps ds)(hd:Vals dvs ds)(n:rW CX X E)
  (I:Inv X a1r σ H s)(r:Vals vs us)(h:sp (vs++dvs) H Q E):Ti (Tq X.prog X.w) X.A (call (.ref f) us) (EP X a1r σ Q) X.xe s:=by
 have c:Vals (vs++dvs) (us++ds):=r.append hd
 have j:(us++ds).length=ps.length:=by rw [<- c.length];exact F.len _ _ _ _ h
 refine Xz (Wu (F.run X.A X.stack s H ⟨us,[]⟩ (us++ds) (vs++dvs) Q E l I.env0 (i s us I.kIn j) c h) fun r q a=>?_)
 cases r with
 | error e=>exact n a1r σ H s e q I a
 | ok d=>
  cases d with
  | ret u=>exact I.after a
  | next=>exact Tx a
  | brk=>exact Tx a
  | cont=>exact Tx a
theorem GK (F:FnOk X.prog X.w X.K X.mg X.base CX k f fd ps sp)(y:Room k X.A)(u:Gl X x)(w:X.mg x=some (.ref f))(v:T6 X.K (.ref f)=true)(l:Binds X.K fd ps ds)(hd:Vals dvs ds)(z:rW CX X E)
  (j:PA X (e::es) t)(c:(x == ("__debug__":Str))=false:=by decide) (n:Tu (e::es) X.env=(false,eval e X.env)::Tu es X.env:=by rfl)(d:(Vg pos (Tu es X.env)).any (·.1)=false:=by rfl) :
  PE X (.Call (.Name x p) (e::es) [] pos) (rV sp dvs E t):=by
 intro a s A H Q I h
 refine Uy (iT I u w ?_ c)
 refine Wj (h₀:=X.base) I.ok.mod.kin v (aX (j pos a s A H _ I h) fun J G ⟨K,B,i,r,q⟩=>⟨i.kIn,?_⟩) n d
 exact Am F y l hd z i r q
theorem GL (F:FnOk X.prog X.w X.K X.mg X.base CX k f fd ps sp)(n:Room k X.A)(i:Gl X x)(l:X.mg x=some (.ref f))(j:T6 X.K (.ref f)=true)(d:Binds X.K fd ps ds)(hd:Vals dvs ds)(q:rW CX X E)
  (a:(x == ("__debug__":Str))=false:=by decide):PE X (.Call (.Name x p) [] [] pos) (rV sp dvs E rQ):=by
 intro c s r H Q I h
 refine Uy (iT I i l ?_ a)
 exact PySem.W.callWith_K0 I.kIn j (Am (us:=[]) F n d hd q I .nil h)
structure Mk (K:Sw)(C f:Addr):Prop where
 makes:PySem.W.makesIn K C=true
 init:UJ K (.ref C) "__init__" = some (some (.ref f))
 fn:ZV K (.ref f)=true
 kp:T6 K (.ref C)=true
end
section
variable {X:Cx}{CX:fL}{k:Nat}{f C:Addr}{fd:Ul}{ps ks:List Str}{sp:Sp}{E:XK}{x m:Str}{p pos apos kpos:UA}{e o:Expr}{es:List Expr}{kws:List V7}{te ta:TE}{t tk:TA}{nm:Option Str}
structure KBinds (K:Sw)(fd:Ul)(ps ks:List Str)(g:List Value->List Value->List Value)(gV:List V->List V->List V):Prop where
 to:∀ (s:SF)(us ws:List Value),K.In s.heap->(g us ws).length=ps.length->Xl s fd ⟨us,ks.zip ws⟩ (ps.zip (g us ws))
 rel:∀ {vs:List V}{us:List Value}{zs:List V}{ws:List Value},Vals vs us->Vals zs ws->Vals (gV vs zs) (g us ws)
variable {g:List Value->List Value->List Value}{gV:List V->List V->List V}
end
structure FnScope (N P:List Str)(sc:UN):Prop where
 kind:sc.kind=.function
 co:sc.isCoroutine=false
 gen:sc.isGenerator=false
 nd:N.Nodup
 pre:N.take P.length=P
 par:∀ x∈P,sc.names.lookup x=some .local\/sc.names.lookup x=some .cell
 nofree:∀ y∈sc.names,y.2≠.free
theorem An {kindOf:Str->Option Va}{x:Str}:∀ {binds:List (Str×Value)}{m:Str->Option Value},(∀ v,(x,v)∉binds)->Yt kindOf binds m x=m x
 | [],_,_=>rfl
 | (n,v)::r,m,h=>by
  unfold Yt
  rw [An fun w hw=>h w (Ur _ hw)]
  split
  ·have:x≠n:=by rintro rfl;exact h v UH
   simp [this]
  ·rfl
theorem Ao {kindOf:Str->Option Va}{x:Str}:∀ {binds:List (Str×Value)}{m:Str->Option Value},(∀ v,(x,v)∉binds)->Yu kindOf binds m x=m x
 | [],_,_=>rfl
 | (n,v)::r,m,h=>by
  unfold Yu
  rw [Ao fun w hw=>h w (Ur _ hw)]
  split
  ·rfl
  ·have:x≠n:=by rintro rfl;exact h v UH
   simp [this]
theorem Ap {kindOf:Str->Option Va}{x:Str}{v:Value}:∀ {P:List Str}{vs:List Value}{i:Nat}{m:Str->Option Value},P.Nodup->P[i]? = some x->vs[i]? = some v->kindOf x=some .local->
  Yt kindOf (P.zip vs) m x=some v
 | [],_,_,_,_,h,_,_=>by simp at h
 | _::_,[],_,_,_,_,h,_=>by simp at h
 | p::P,w::vs,0,m,nd,h1,h2,hk=>by
  simp at h1 h2;subst h1;subst h2
  show Yt kindOf ((p,w)::P.zip vs) m p=_
  unfold Yt
  rw [An fun v a=>(UP.mp nd).1 (WM a).1,if_pos hk]
  simp
 | p::P,w::vs,i+1,m,nd,h1,h2,hk=>by
  show Yt kindOf ((p,w)::P.zip vs) m x=_
  unfold Yt
  exact Ap (i:=i) (UP.mp nd).2 (by simpa using h1) (by simpa using h2) hk
theorem Aq {kindOf:Str->Option Va}{x:Str}{v:Value}:∀ {P:List Str}{vs:List Value}{i:Nat}{m:Str->Option Value},P.Nodup->P[i]? = some x->vs[i]? = some v->kindOf x≠some .local->
  Yu kindOf (P.zip vs) m x=some v
 | [],_,_,_,_,h,_,_=>by simp at h
 | _::_,[],_,_,_,_,h,_=>by simp at h
 | p::P,w::vs,0,m,nd,h1,h2,hk=>by
  simp at h1 h2;subst h1;subst h2
  show Yu kindOf ((p,w)::P.zip vs) m p=_
  unfold Yu
  rw [Ao fun v a=>(UP.mp nd).1 (WM a).1,if_neg hk]
  simp
 | p::P,w::vs,i+1,m,nd,h1,h2,hk=>by
  show Yu kindOf ((p,w)::P.zip vs) m x=_
  unfold Yu
  exact Aq (i:=i) (UP.mp nd).2 (by simpa using h1) (by simpa using h2) hk
noncomputable def start (N:List Str)(vs:List V):St:=vs.map some++Sz (N.length - vs.length) none
noncomputable def d8 (CX:fL)(P:Tc)(w:Ts)(K:Sw)(i:Str->Option Value)(base:Ua)(N:List Str)(a:Str)(scope:UN)(f:Addr)(d:Value)(A:Tt)(outer:List Wx)(s:SF)(H:Hp)(E:XK):Cx where
 prog:=P
 w:=w
 K:=K
 mg:=i
 base:=base
 A:=A.deeper (envOfC a scope s.heap.objs.size f d)
 N:=N
 s₀:=s
 H₀:=H
 env:=envOfC a scope s.heap.objs.size f d
 outer:=outer
 stack:=envOfC a scope s.heap.objs.size f d::outer
 ex:=[]
 calm:=true
 fn:=fun _=>true
 pn:=[]
 xe:=fun e j=>Ti (Tq P w) (A.deeper (envOfC a scope s.heap.objs.size f d)) (a0n (envOfC a scope s.heap.objs.size f d) e) (fun _ c=>CX outer H s E e c) (fun h c=>CX outer H s E h c) j
theorem Ar {a:UN}{n:Nat}{x:Str}(h:a.names.lookup x=some .cell):∃ c,(X5 n a.names []).lookup x=some c:=by
 have q:=Wz a.names n [] (.inl h)
 exact TN.mp q
theorem Au {CX:fL}{P:Tc}{w:Ts}{K:Sw}{L:Str->Option Value}{base:Ua}{N ps:List Str}{d:Str}{scope:UN}{f:Addr}{G:Value}{A:Tt}{outer:List Wx}{s Q:SF}{H:Hp}{E:XK}{us:List Value}{vs:List V}
  (S:FnScope N ps scope)(hd:A.handled=none)(l:Env0 P w K L base A outer s H)(Y:vs.length=ps.length)(r:Vals vs us)
  (x:InCallC s s.heap.objs.size (Yt (envOfC d scope s.heap.objs.size f G).kindOf (ps.zip us) fun _=>none) (X5 (s.heap.objs.size+1) scope.names []) (Yu (envOfC d scope s.heap.objs.size f G).kindOf (ps.zip us) fun _=>none) Q) :
  Inv (d8 CX P w K L base N d scope f G A outer s H E) [] (start N vs) H Q:=by
 have T:ps.length<=N.length:=by have:=congrArg Wa S.pre;rw [Tw] at this;omega
 obtain ⟨I,Z,rfl,M⟩:=x.done
 have n:∀ b:Addr,b∉(d8 CX P w K L base N d scope f G A outer s H E).ex:=fun b z=>absurd (show b∈([]:List Addr) from z) (by simp)
 refine ⟨⟨l.mod,S.kind,rfl,rfl,SM _,fun y z c I j=>?_,fun y m=>?_,fun y c _ h=>?_,fun _=>hd,Yp l.frames,.inr ⟨rfl,rfl⟩,fun b z=>absurd z (n b),l.bs,l.bsz,fun b _ _=>n b,fun b z=>absurd z (n b),l.funs,l.frf⟩,
  rfl,l.bare,Un.kept M,⟨_,x.toInCall.ns,fun i y v I j X=>?_⟩,fun y c h=>⟨_,x.cell y c h⟩,l.hok.fresh (SM _),fun y c h=>?_,fun p o=>absurd (show p∈([]:List (Addr×Obj)) from o) (by simp),l.hok.kept M,?_⟩
 ·exact name_of_addr x.apart (Uc I) (Uc j)
 ·have m:scope.names.lookup y=some .cell\/scope.names.lookup y=some .free:=m
  rcases m with m|m
  ·exact Ar m
  ·exact absurd rfl (S.nofree _ (Uc m))
 ·exact YA (x.above y c (Uc h))
 ·have J:i<vs.length:=by
   unfold start at j
   by_cases J:i<vs.length
   ·exact J
   ·rw [TU (by simpa using J)] at j
    rw [Vd] at j
    split at j<;>cases j
  have R:vs[i]? = some v:=by
   unfold start at j
   rw [Tp (by simpa using J),Tr] at j
   cases e:vs[i]? with
   | none=>rw [e] at j;cases j
   | some a=>rw [e] at j;cases j;rfl
  obtain ⟨u,O,U⟩:=r.get R
  have o:ps[i]? = some y:=by
   rw [<- S.pre,List.getElem?_take_of_lt (by omega)];exact I
  have B:ps.Nodup:=by rw [<- S.pre];exact S.nd.sublist (Zz _ _)
  refine ⟨u,U,?_⟩
  rcases S.par y (Vn o) with k|k
  ·exact .inl ⟨k,Ap B o O k⟩
  ·obtain ⟨c,e⟩:=Ar (n:=s.heap.objs.size+1) k
   refine .inr ⟨.inl k,c,e,?_⟩
   have q:=x.cell y c e
   rw [Aq B o O (by show scope.names.lookup y≠_;rw [k];decide)] at q
   exact q
 ·exact l.hok.fresh (YA (x.above y c (Uc h)))
 ·unfold start
  show _=N.length
  rw [SU,Sx,Ue]
  omega
theorem Av {CX:fL}{P:Tc}{w:Ts}{K:Sw}{B:Str->Option Value}{base:Ua}{k:Nat}{f:Addr}{name a:Str}{d:a0N}{body:List Stmt}{scope:UN}{Z kV m pm c ct oc:Value}{X od:Option Addr}
  {O:Array (Option Value)}{N ps:List Str}{sp:Sp}(lk:K.lookup f=some ⟨oc,od,.func (TY name a d body scope Z kV m pm X c ct),O⟩)(G:Wi K c a=true)(S:FnScope N ps scope)
  (len:∀ vs H Q E,sp vs H Q E->vs.length=ps.length)
  (i:∀ (A:Tt)(outer:List Wx)(s:SF)(H:Hp)(vs:List V)(Q:VK)(E:XK),Room k (A.deeper (envOfC a scope s.heap.objs.size f c))->sp vs H Q E->
   ∃ t,PSs (d8 CX P w K B base N a scope f c A outer s H E) body t/\t { nx:=fun _ H'=>Q .non H',rt:=Q } (start N vs) H) :
  FnOk P w K B base CX (k+1) f (TY name a d body scope Z kV m pm X c ct) ps sp:=by
 refine ⟨len,fun A outer s H Y us vs Q E L p hb r z=>?_⟩
 have hl:=len _ _ _ _ z
 have U:K.In s.heap:=p.mod.kin.keeps fun b o e=>(p.bs b o e).1
 have M:s.heap.NoLimit:=p.mod.nolimit.keeps fun b o e=>(p.bs b o e).1
 have j:∀ y∈ps.zip us,scope.names.lookup y.1=some .local\/(scope.names.lookup y.1=some .cell/\((X5 (s.heap.objs.size+1) scope.names []).lookup y.1).isSome=true):=fun ⟨n,v⟩ hy=>by
  rcases S.par n (WM hy).1 with q|q
  ·exact .inl q
  ·exact .inr ⟨q,Wz _ _ _ (.inl q)⟩
 refine ZI L.depth (U _ _ lk) rfl S.co S.gen rfl (Yy U G) (hb _ _ _ _ ?_)
 refine Yr S.kind j fun env he s1 x=>?_
 subst he
 refine ⟨M.keeps x.toInCall.keep,codeAny_func ?_⟩
 obtain ⟨t,ht,hq⟩:=i A outer s H vs Q E (L.deeper _) z
 have I:Inv (d8 CX P w K B base N a scope f c A outer s H E) [] (start N vs) H s1:=Au S L.hd p hl r x
 refine TK (ht [] s1 (start N vs) H _ I hq) (fun fl T l=>?_) fun e T l=>l
 have aV:∀ {h:St}{H':Hp}{v:V}{u:Value},Inv (d8 CX P w K B base N a scope f c A outer s H E) [] h H' T->RelV v u->Q v H'->CE outer P w H s Q u T:=
  fun {h H' v u} J R q=>⟨v,H',J.os,J.bare,J.base,J.hok,R,q⟩
 cases fl with
 | ret u=>
  obtain ⟨v,h,H',J,R,q⟩:=l
  exact aV J R q
 | next=>
  obtain ⟨h,H',J,q⟩:=l
  exact aV (v:=V.non) (u:=Uk) J rfl q
 | brk=>
  obtain ⟨_,_,_,q⟩:=l
  exact Tx q
 | cont=>
  obtain ⟨_,_,_,q⟩:=l
  exact Tx q
end L2
namespace L2
open PySem PySem.Spec PyProof.Rows
section
variable {X:Cx}{x:Str}{p pos:UA}{e:Expr}{es:List Expr}{t:TA}{id T:String}{r:List V->Hp->VK->Prop}
noncomputable def m5 (r:List V->Hp->VK->Prop)(t:TA):TE:=fun σ H Q=>t σ H fun vs a=>r vs a Q
theorem GN (hc:CallR X (.builtin id) r)(o:Gl X x)(q:X.mg x=none)(v:Ut x=some (.builtin id))(m:PA X (e::es) t)(u:x ≠ "__name__":=by decide) (c:(x == ("__debug__":Str))=false:=by decide)
  (n:Tu (e::es) X.env=(false,eval e X.env)::Tu es X.env:=by rfl)(d:(Vg pos (Tu es X.env)).any (·.1)=false:=by rfl):PE X (.Call (.Name x p) (e::es) [] pos) (m5 r t):=by
 intro a s i H Q I h
 refine Uy (kD I o q v ?_ u c)
 exact VB (aX (m pos a s i H _ I h) fun A z ⟨B,j,l,y,w⟩=>hc a z i j B A Q l y w) n d
theorem vA (hc:CallR X (.type T) r)(o:Gl X x)(q:X.mg x=none)(v:Ut x=some (.type T))(m:PA X (e::es) t)(u:x ≠ "__name__":=by decide) (c:(x == ("__debug__":Str))=false:=by decide)
  (n:Tu (e::es) X.env=(false,eval e X.env)::Tu es X.env:=by rfl)(d:(Vg pos (Tu es X.env)).any (·.1)=false:=by rfl):PE X (.Call (.Name x p) (e::es) [] pos) (m5 r t):=by
 intro a s i H Q I h
 refine Uy (kD I o q v ?_ u c)
 exact W9 (aX (m pos a s i H _ I h) fun A z ⟨B,j,l,y,w⟩=>hc a z i j B A Q l y w) n d
end
end L2
namespace L2
open PySem PySem.Spec PyProof.Rows
section
variable {κ:Type} [DecidableEq κ]
noncomputable def d9 (a:List (κ×V))(k:κ):Option V:=(a.find? fun c=>decide (c.1=k)).map (·.2)
noncomputable def e6 (a:List (κ×V))(k:κ)(v:V):List (κ×V):=
 if (a.any fun c=>decide (c.1=k))=true then a.map (fun c=>if c.1=k then (c.1,v) else c) else a++[(k,v)]
noncomputable def Aw (a:List (κ×V))(k:κ):List (κ×V):=a.filter fun c=>decide (c.1≠k)
theorem vC {p:κ×V}{r:List (κ×V)}{k:κ}(e:p.1=k):d9 (p::r) k=some p.2:=by simp [d9,UE,e]
theorem vD {p:κ×V}{r:List (κ×V)}{k:κ}(e:¬ p.1=k):d9 (p::r) k=d9 r k:=by simp [d9,UE,e]
theorem Ax (k:κ):∀ a:List (κ×V),(a.any fun c=>decide (c.1=k))=(d9 a k).isSome
 | []=>rfl
 | p::r=>by
  rw [V6]
  by_cases e:p.1=k
  ·simp only [vC e,decide_eq_true e,Bool.true_or,YI]
  ·rw [vD e,decide_eq_false e,a0f];exact Ax k r
theorem Ay (a:List (κ×V))(k:κ)(v:V):(e6 a k v).length<=a.length+1:=by
 unfold e6
 split
 ·rw [Sx];omega
 ·rw [SU,SY,WN];omega
theorem RelO.isSome_eq {o:Option V}{u:Option Value}(r:RelO o u):o.isSome=u.isSome:=by
 cases o with
 | none=>cases u with
  | none=>rfl
  | some _=>exact (show False from r).elim
 | some _=>cases u with
  | none=>exact (show False from r).elim
  | some _=>rfl
theorem RelO.getD {o:Option V}{u:Option Value}{d:V}{d':Value}(r:RelO o u)(a:RelV d d'):RelV (o.getD d) (u.getD d'):=by
 cases o with
 | none=>cases u with
  | none=>exact a
  | some _=>exact (show False from r).elim
 | some _=>cases u with
  | none=>exact (show False from r).elim
  | some _=>exact r
theorem KV.val {a:List (κ×V)}{vs:List (κ×Value)}(r:KV a vs)(k:κ):RelO (d9 a k) (XM vs k):=by
 unfold KV at r
 induction r with
 | nil=>exact VW
 | @cons p q m d h t l=>
  obtain ⟨i,j⟩:=h
  by_cases e:p.1=k
  ·have c:q.1=k:=i.symm.trans e
   have b:XM (q::d) k=some q.2:=by simp [XM,UE,c]
   rw [vC e,b];exact j
  ·have c:¬ q.1=k:=fun z=>e (i.trans z)
   have b:XM (q::d) k=XM d k:=by simp [XM,UE,c]
   rw [vD e,b];exact l
theorem KV.any {a:List (κ×V)}{vs:List (κ×Value)}(r:KV a vs)(k:κ):(a.any fun c=>decide (c.1=k))=vs.any fun c=>decide (c.1=k):=by
 unfold KV at r
 induction r with
 | nil=>rfl
 | cons h t d=>rw [V6,V6,d,h.1]
theorem KV.repl {c:List (κ×V)}{vs:List (κ×Value)}(r:KV c vs)(k:κ){y:V}{u:Value}(l:RelV y u) :
  KV (c.map fun a=>if a.1=k then (a.1,y) else a) (vs.map fun a=>if a.1=k then (a.1,u) else a):=by
 unfold KV at r ⊢
 induction r with
 | nil=>exact .nil
 | @cons p q m n h t j=>
  rw [SW,SW]
  refine .cons ?_ j
  obtain ⟨d,i⟩:=h
  by_cases e:p.1=k
  ·rw [if_pos e,if_pos (d.symm.trans e)];exact ⟨d,l⟩
  ·rw [if_neg e,if_neg (fun z=>e (d.trans z))];exact ⟨d,i⟩
theorem KV.put {a:List (κ×V)}{vs:List (κ×Value)}(r:KV a vs)(k:κ){y:V}{u:Value}(c:RelV y u):KV (e6 a k y) (stored vs k u):=by
 unfold e6 stored
 rw [r.any k]
 by_cases e:(vs.any fun d=>decide (d.1=k))=true
 ·rw [if_pos e,if_pos e];exact r.repl k c
 ·rw [if_neg e,if_neg e];exact a0d r ⟨rfl,c⟩
theorem KV.drop {c:List (κ×V)}{vs:List (κ×Value)}(r:KV c vs)(k:κ):KV (Aw c k) (without vs k):=by
 unfold KV at r ⊢
 unfold Aw without
 induction r with
 | nil=>exact .nil
 | @cons p q m n h t i=>
  obtain ⟨d,l⟩:=h
  rw [VY,VY]
  by_cases e:p.1=k
  ·have a:¬ decide (p.1≠k)=true:=by simp [e]
   have b:¬ decide (q.1≠k)=true:=by simp [d.symm.trans e]
   rw [if_neg a,if_neg b];exact i
  ·have j:¬ q.1=k:=fun z=>e (d.trans z)
   have a:decide (p.1≠k)=true:=by simp [e]
   have b:decide (q.1≠k)=true:=by simp [j]
   rw [if_pos a,if_pos b];exact .cons ⟨d,l⟩ i
theorem KV.keys {a:List (κ×V)}{vs:List (κ×Value)}(r:KV a vs):a.map (·.1)=vs.map (·.1):=by
 unfold KV at r
 induction r with
 | nil=>rfl
 | cons h t c=>rw [SW,SW,c,h.1]
theorem KV.length {a:List (κ×V)}{vs:List (κ×Value)}(r:KV a vs):a.length=vs.length:=W3 r
end
theorem vF {P:Tc}{w:Ts}{k:aR}{u:Value}(r:RelV (kV k) u):(d7 P w).is k u=true:=by
 cases k with
 | inl i=>obtain ⟨t,e⟩:=(show ∃ t,u=Tg i t from r);subst e;exact Fb P w i t
 | inr x=>obtain ⟨t,e⟩:=(show ∃ t,u=Xo x t from r);subst e;exact Fc P w x t
theorem Az {P:Tc}{w:Ts}:∀ {a:List aR}{us:List Value},Vals (a.map kV) us->ItemsAre (d7 P w) a us
 | [],_,r=>by rw [Wm] at r;cases r;exact .nil
 | k::a,_,r=>by
  rw [SW] at r
  cases r with
  | cons h t=>exact .cons (vF h) (Az t)
noncomputable abbrev KT (H:Hp):List (List aR×V)->List (List aR×Addr×Value)->Prop:=WK fun p q=>p.1=q.1/\H q.2.1=some (.tup (p.1.map kV))/\RelV p.2 q.2.2
theorem KT.val {H:Hp}{a:List (List aR×V)}{xs:List (List aR×Addr×Value)}(r:KT H a xs)(k:List aR):RelO (d9 a k) ((Yw xs k).map (·.2)):=by
 induction r with
 | nil=>exact VW
 | @cons p q m d h t l=>
  obtain ⟨i,_,j⟩:=h
  by_cases e:p.1=k
  ·have c:q.1=k:=i.symm.trans e
   have b:Yw (q::d) k=some q.2:=by simp [Yw,UE,c]
   rw [vC e,b];exact j
  ·have c:¬ q.1=k:=fun z=>e (i.trans z)
   have b:Yw (q::d) k=Yw d k:=by simp [Yw,UE,c]
   rw [vD e,b];exact l
theorem KT.repl {H:Hp}{a:List (List aR×V)}{xs:List (List aR×Addr×Value)}(r:KT H a xs)(k:List aR){y:V}{u:Value}(m:RelV y u) :
  KT H (a.map fun d=>if d.1=k then (d.1,y) else d) (xs.map (putAt k u)):=by
 induction r with
 | nil=>exact .nil
 | @cons p q n o h t l=>
  rw [SW,SW]
  refine .cons ?_ l
  obtain ⟨c,i,j⟩:=h
  unfold putAt
  by_cases e:p.1=k
  ·rw [if_pos e,if_pos (c.symm.trans e)];exact ⟨c,i,m⟩
  ·rw [if_neg e,if_neg (fun z=>e (c.trans z))];exact ⟨c,i,j⟩
theorem KT.put {H:Hp}{a:List (List aR×V)}{xs:List (List aR×Addr×Value)}(r:KT H a xs)(k:List aR){b:Addr}{y:V}{u:Value}(d:H b=some (.tup (k.map kV)))(c:RelV y u) :
  KT H (e6 a k y) (storedH xs k b u):=by
 have e:(a.any fun h=>decide (h.1=k))=(Yw xs k).isSome:=by
  rw [Ax,(r.val k).isSome_eq,Option.isSome_map]
 unfold e6 storedH
 rw [e]
 by_cases q:(Yw xs k).isSome=true
 ·rw [if_pos q,if_pos q];exact r.repl k c
 ·rw [if_neg q,if_neg q];exact a0d r ⟨rfl,d,c⟩
theorem KT.keeps {H H':Hp}{a:List (List aR×V)}{xs:List (List aR×Addr×Value)}(r:KT H a xs)(d:∀ b c,H b=some (.tup c)->H' b=some (.tup c)):KT H' a xs:=
 WK.mapP r fun _ _ z=>⟨z.1,d _ _ z.2.1,z.2.2⟩
section
variable {P:Tc}{w:Ts}{H:Hp}{h:Ua}{a:Addr}
theorem AA {u:HO}(ok:HOk P w H h)(e:Rd H a u):ObjOk P w H h a u:=e.ok ok
theorem rX {c:List (aR×V)}(ok:HOk P w H h)(e:Rd H a (.dK c)):c.length<=SK/\(a == Vz)=false/\∃ vs,KV c vs/\h.DictOf (d7 P w) a vs:=
 show ObjOk P w H h a (.dK c) from AA ok e
theorem GO {c:List (aR×V)}(ok:HOk P w H h)(e:H a=some (.dK c)):c.length<=SK/\(a == Vz)=false/\∃ vs,KV c vs/\h.DictOf (d7 P w) a vs:=rX ok (.inl e)
theorem vG {d:List aR}(ok:HOk P w H h)(e:H a=some (.tup (d.map kV))):(XZ (d7 P w)).is h d a:=by
 obtain ⟨_,c,r,o,i,j,n,l,_⟩:=(show ObjOk P w H h a (.tup (d.map kV)) from ok a _ e)
 exact ⟨o,c.toArray,n,i,j,l,by simpa using Az r⟩
theorem vH {c:List (List aR×V)}(ok:HOk P w H h)(e:Rd H a (.dT c)):c.length<=SK/\(a == Vz)=false /\
  ∃ i,KT H c i/\h.DictOfH (XZ (d7 P w)) a i:=by
 obtain ⟨z,y,i,r,o,s,n,u,v,A,B,E⟩:=(show ObjOk P w H h a (.dT c) from AA ok e)
 refine ⟨z,y,i,r,o,s,n,u,v,A,B,fun x d=>?_,E⟩
 have all:∀ {l:List (List aR×V)}{m:List (List aR×Addr×Value)},KT H l m->∀ x∈m,(XZ (d7 P w)).is h x.1 x.2.1:=by
  intro l m q
  induction q with
  | nil=>intro x d;exact nomatch d
  | @cons p q I J j t G=>
   intro x d
   rcases TH.mp d with e|d
   ·subst e
    exact vG ok (by rw [<- j.1];exact j.2.1)
   ·exact G x d
 exact all r x d
theorem GP {c:List (List aR×V)}(ok:HOk P w H h)(e:H a=some (.dT c)):c.length<=SK/\(a == Vz)=false /\
  ∃ d,KT H c d/\h.DictOfH (XZ (d7 P w)) a d:=vH ok (.inl e)
end
noncomputable def DGet (H:Hp)(a:Addr)(y:V)(r:Option V):Prop:=
 (∃ c k,Rd H a (.dK c)/\y=kV k/\r=d9 c k)\/∃ c k b,Rd H a (.dT c)/\y=.ref b/\H b=some (.tup (k.map kV))/\r=d9 c k
noncomputable def DPut (H:Hp)(a:Addr)(y v:V)(H':Hp):Prop:=
 (∃ c k,H a=some (.dK c)/\y=kV k/\c.length<SK/\H'=bA H a (.dK (e6 c k v))) \/
 ∃ c k b,H a=some (.dT c)/\y=.ref b/\H b=some (.tup (k.map kV))/\c.length<SK/\H'=bA H a (.dT (e6 c k v))
theorem DGet.k {H:Hp}{a:Addr}{c:List (aR×V)}{k:aR}(e:H a=some (.dK c)):DGet H a (kV k) (d9 c k):=.inl ⟨c,k,.inl e,rfl,rfl⟩
theorem DGet.t {H:Hp}{a b:Addr}{c:List (List aR×V)}{k:List aR}(e:H a=some (.dT c))(d:H b=some (.tup (k.map kV))):DGet H a (.ref b) (d9 c k):=.inr ⟨c,k,b,.inl e,rfl,d,rfl⟩
theorem DPut.k {H:Hp}{a:Addr}{c:List (aR×V)}{k:aR}{v:V}(e:H a=some (.dK c))(d:c.length<SK):DPut H a (kV k) v (bA H a (.dK (e6 c k v))):=.inl ⟨c,k,e,rfl,d,rfl⟩
theorem DPut.t {H:Hp}{a b:Addr}{c:List (List aR×V)}{k:List aR}{v:V}(e:H a=some (.dT c))(d:H b=some (.tup (k.map kV)))(h:c.length<SK) :
  DPut H a (.ref b) v (bA H a (.dT (e6 c k v))):=.inr ⟨c,k,b,e,rfl,d,h,rfl⟩
section
variable {X:Cx}{a1r:List (Addr×Obj)}{σ:St}{H:Hp}{s:SF}{a:Addr}{y v:V}{u r:Value}{o:Option V}{A:Tt}{E:Value->SF->Prop}
theorem Inv.big (I:Inv X a1r σ H s):Vz<s.heap.objs.size:=by
 have h:TQ<s.heap.objs.size:=(I.mod.glob.keeps I.bk).lt
 exact WL (by decide) h
theorem GQ {Q:Value->SF->Prop}(J:A.units+1<V1)(I:Inv X a1r σ H s)(g:DGet H a y (some v))(w:RelV y u)(h:∀ i x,Inv X a1r σ H x->RelV v i->Q i x) :
  Ti (Tq X.prog X.w) A (Yj (.ref a) u) Q E s:=by
 rcases g with ⟨q,k,e,m,l⟩|⟨q,k,b,e,m,B,l⟩
 ·subst m
  obtain ⟨z,hd,K,c,j⟩:=rX I.hok e
  obtain ⟨i,hw,d⟩:=RelO.some_of (v:=v) (o:=XM K k) (by rw [l];exact c.val k)
  exact wpAny_getItem_of (vF w) j.mapOf hw (h i _ (I.tok _) d)
 ·subst m
  cases (show u=TL b from w)
  obtain ⟨z,hd,L,c,j⟩:=vH I.hok e
  obtain ⟨i,hw,d⟩:=RelO.some_of (v:=v) (o:=(Yw L k).map (·.2)) (by rw [l];exact c.val k)
  obtain ⟨p,G,n⟩:=SA.mp hw
  refine wpAny_getItem_heap (Z8 J) (vG I.hok B) j G ?_
  rw [n]
  exact h i _ (I.tok _) d
theorem AB {h':Ua}{t':Nat}{c:HO}(I:Inv X a1r σ H s)(i:oR (H a))(h:Xi a s.heap h')(e:∃ q,h'.get? a=some q)(new:ObjOk X.prog X.w (bA H a c) h' a c) :
  Inv X a1r σ (bA H a c) { s with heap:=h',toks:=t' }:=
 I.write (x:=a) (e:=a) i (.inl rfl) (fun b q d z=>(h.2 b d).trans z) e new
theorem GR {P:Tc}{w:Ts}{H':Hp}{h':Ua}{c:List (aR×V)}{vs:List (aR×Value)}(z:c.length<=SK)(hd:(a == Vz)=false)(d:KV c vs)(dd:h'.DictOf (d7 P w) a vs) :
  ObjOk P w H' h' a (.dK c):=⟨z,hd,vs,d,dd⟩
theorem GS {H':Hp}{Q:Unit->SF->Prop}(hu:A.units+1<V1)(I:Inv X a1r σ H s)(g:DPut H a y v H')(N:RelV y u)(M:RelV v r)(h:∀ O,Inv X a1r σ H' O->Q () O) :
  Ti (Tq X.prog X.w) A (setItem (.ref a) u r) Q E s:=by
 rcases g with ⟨d,k,e,w,l,p⟩|⟨d,k,b,e,w,J,l,p⟩
 ·subst w p
  obtain ⟨z,hd,vs,i,n⟩:=GO I.hok e
  have G:vs.length<=SK:=by rw [<- i.length];exact z
  have x:(e6 d k v).length<=SK:=by have:=Ay d k v;omega
  refine wpAny_setItem_pairs (hsz:=G) (vF N) n fun L j B=>h _ ?_
  have he:∃ q,L.get? a=some q:=let ⟨q,_,_,m,_⟩:=j;⟨q,m⟩
  exact AB I (by rw [e];exact VW) B he (GR x hd (i.put k M) j)
 ·subst w p
  cases (show u=TL b from N)
  obtain ⟨z,hd,xs,i,n⟩:=GP I.hok e
  have G:xs.length<=SK:=by rw [<- W3 i];exact z
  have x:(e6 d k v).length<=SK:=by have:=Ay d k v;omega
  refine wpAny_setItem_heap (hsz:=G) (Z8 hu) (vG I.hok J) n fun L j B=>h _ ?_
  obtain ⟨q,T,R,m,U,Y,Z,_,h5⟩:=j
  refine AB I (by rw [e];exact VW) B ⟨q,m⟩ ⟨x,hd,_,(i.put k J M).keeps fun c ys K=>?_,q,T,R,m,U,Y,Z,h5⟩
  rw [bX (Fd K e (fun z=>nomatch z))]
  exact K
end
section
variable {X:Cx}{a1r:List (Addr×Obj)}{σ:St}{H:Hp}{s:SF}{a:Addr}{kvs:List (aR×V)}{k:aR}{u:Value}{A:Tt}{E:Value->SF->Prop}
theorem GU {Q:Value->SF->Prop}(I:Inv X a1r σ H s)(e:Rd H a (.dK kvs))(h:∀ t d,Inv X a1r σ H d->Q (.int kvs.length t) d):Ti (Tq X.prog X.w) A (call (.builtin "len") [.ref a]) Q E s:=by
 obtain ⟨z,hd,j,c,i⟩:=rX I.hok e
 refine call_len_dict hd i (by rw [<- c.length];rw [S4] at z;omega) ?_
 rw [<- c.length]
 exact h _ _ (I.tok _)
end
noncomputable def vJ (i:Expr):Prop:=∀ c a,Yc i false c a=operate [c,a] (Yj c a)
theorem GV {prog:Tc}{w:Ts}{A:Tt}{E:Value->SF->Prop}{s:SF}{env:Wx}{c a:Expr}{pos:UA}{T id:String}{Q:Value->SF->Prop}
  (q:typeLookup (.type T) "__getitem__" = pure (some (.builtin id))) (u:vJ a)
  (h:Ti (Tq prog w) A (eval c env) (fun o j=>Ti (Tq prog w) A (eval a env) (fun i d=>d.TypeIs o T/\Ti (Tq prog w) A (Yj o i) Q E d) E j) E s) :
  Ti (Tq prog w) A (eval (.Subscript c a pos) env) Q E s:=by
 refine Yx (TK h (fun o j m=>TK m (fun i d e=>?_) fun _ _ x=>x) fun _ _ x=>x)
 obtain ⟨p,e⟩:=e
 unfold Xs
 refine S0 ?_
 rw [getitemInPython_of_ne p.not_modules]
 refine S0 (a0O p q ?_)
 have aV:Ti (Tq prog w) A (Yc a false o i) (fun r l=>Ti (Tq prog w) A (letTemporaryGo c o r >>= fun _=>pure r) Q E l) E d:=by
  rw [u o i]
  exact wpAny_operating (TK e (fun r l n=>S0 (wpAny_letTemporaryGo (TV n))) fun _ _ x=>x)
 first
  | exact TV (S0 aV)
  | exact S0 (TV (S0 aV))
  | exact S0 aV
theorem GW {X:Cx}{a1r:List (Addr×Obj)}{σ:St}{H:Hp}{s:SF}{a:Addr}{y:V}{o:Option V}(I:Inv X a1r σ H s)(g:DGet H a y o):s.TypeIs (.ref a) "dict":=by
 rcases g with ⟨d,k,e,_,_⟩|⟨d,k,b,e,_,_,_⟩
 ·obtain ⟨_,_,h,_,c⟩:=rX I.hok e
  exact c.typeIs
 ·obtain ⟨_,_,i,_,c⟩:=vH I.hok e
  exact c.typeIs
noncomputable def GX (e ty:TE):TE:=fun σ H Q=>e σ H fun x d=>ty σ d fun y c=>∃ a v,x=.ref a/\DGet c a y (some v)/\Q v c
noncomputable def GY (i ty j:TE):TS:=fun D σ H=>j σ H fun v d=>i σ d fun x e=>ty σ e fun y h=>∃ a c,x=.ref a/\DPut h a y v c/\D.nx σ c
section
variable {X:Cx}{o i e value:Expr}{pos pos' tpos:UA}{td ty tv:TE}
theorem GZ (B:X.A.units+1<V1)(z:PE X o td)(w:PE X i ty)(A:vJ i):PE X (.Subscript o i pos) (GX td ty):=by
 intro c s l H Q I h
 refine GV PySem.F.slot_dict_getitem.lookup A (aX (z c s l H _ I h) fun u L ⟨x,m,p,J,E⟩=>aX (w c L l m _ p E) fun M N ⟨y,n,j,K,a,v,r,g,G⟩=>?_)
 subst r
 obtain rfl:u=TL a:=J
 exact ⟨GW j g,GQ B j g K fun R O q d=>⟨v,n,q,d,G⟩⟩
theorem G0 (G:X.A.units+1<V1)(B:PE X o td)(A:PE X i ty)(J:PE X value tv)(E:Wg value (some (.Subscript o i pos')) pos.line X.env=pure false) :
  PS X (.Assign [.Subscript o i pos'] value pos) (GY td ty tv):=by
 intro c s d H D I h
 refine Ze (aX (J c s d H _ I h) fun r R ⟨v,j,n,N,K⟩=>aX (B c R d j _ n K) fun u T ⟨x,l,p,O,L⟩=>aX (A c T d l _ p L) fun Y Z ⟨y,U,q,Q,a,m,z,g,M⟩=>?_) E
 subst z
 obtain rfl:u=TL a:=O
 exact GS G q g Q N fun s4 w=>⟨d,m,w,M⟩
end
theorem G1 {P:Tc}{w:Ts}{H:Hp}(h:Ua)(a:Vz<h.objs.size):ObjOk P w H (h.push { cls:=.type "dict",data:=.dict #[] }) h.objs.size (.dK []):=
 ⟨Uo _,beq_eq_false_iff_ne.mpr (Ux (S9 a)),[],.nil,a1o h⟩
noncomputable def G2:TE:=fun _ H Q=>∀ p,H p=none->Q (.ref p) (bA H p (.dK []))
section
variable {X:Cx}{pos:UA}
theorem G3:PE X (.Dict [] [] pos) G2:=fun a1r s σ H Q I h=>
 wpAny_Dict_empty ⟨.ref s.heap.objs.size,_,I.laid (a:=s.heap.objs.size) (o:=.dK []) (t':=s.toks) (fun _ _ q=>SS _ q) (SM _) (G1 s.heap I.big),rfl,h _ (I.hok.fresh (SM _))⟩
end
noncomputable def AD:List (TE×TE)->St->Hp->(List (V×V)->Hp->Prop)->Prop
 | [],_,H,Q=>Q [] H
 | (tk,tv)::r,σ,H,Q=>tk σ H fun x a=>tv σ a fun y c=>AD r σ c fun e d=>Q ((x,y)::e) d
noncomputable abbrev VV:List (V×V)->List (Value×Value)->Prop:=WK fun p q=>RelV p.1 q.1/\RelV p.2 q.2
noncomputable def G4 (X:Cx)(pos:UA)(keys:List (Option Expr))(a:List Expr)(c:List (TE×TE)):Prop:=
 ∀ (a1r:List (Addr×Obj))(s:SF)(σ:St)(H:Hp)(Q:List (V×V)->Hp->Prop),Inv X a1r σ H s->AD c σ H Q->
  Ti (Tq X.prog X.w) X.A (evalPairs (pairTrees keys a X.env pos)) (fun i h=>∃ e d,Inv X a1r σ d h/\VV e i/\Q e d) X.xe s
structure M1 (X:Cx)(o:Expr)(m:Str)(apos:UA)(e:Expr)(cpos:UA):Prop where
 base:Xu o m X.env (eval o X.env)=eval o X.env
 few:((Vg cpos (Tu [e] X.env)).all (fun x=>!x.1)&&(ZU cpos (Yd [] X.env)).all (fun x=>x.1.isSome)
  && decide (([e]:List Expr).length+([]:List V7).length+(if ([]:List V7).isEmpty then 0 else 1)<30))=true
 line:(apos.endLine == cpos.line)=true
 trees:Vg cpos (Tu [e] X.env)=[(false,eval e X.env)]
structure M2 (X:Cx)(o:Expr)(m:Str)(apos:UA)(e f:Expr)(cpos:UA):Prop where
 base:Xu o m X.env (eval o X.env)=eval o X.env
 few:((Vg cpos (Tu [e,f] X.env)).all (fun x=>!x.1)&&(ZU cpos (Yd [] X.env)).all (fun x=>x.1.isSome)
  && decide (([e,f]:List Expr).length+([]:List V7).length+(if ([]:List V7).isEmpty then 0 else 1)<30))=true
 line:(apos.endLine == cpos.line)=true
 trees:Vg cpos (Tu [e,f] X.env)=[(false,eval e X.env),(false,eval f X.env)]
noncomputable def IsD (H:Hp)(a:Addr):Prop:=(∃ c,Rd H a (.dK c))\/∃ c,Rd H a (.dT c)
end L2
namespace HT
open PySem PyProof.Rows
section
open PySem.SeqAt
open PySem.AutoSeq1 (wpAny_loadPart')
open PySem.MeetsSeq PySem.MeetsSeq2 PySem.MeetsSeq3
end
section
variable {prog:Tc}{w:Ts}{A:Tt}{E:Value->SF->Prop}{s:SF}
noncomputable def sIx (n d:Nat):Option Int->Nat
 | none=>d
 | some v=>if v<0 then (v+(n:Int)).toNat else min v.toNat n
theorem sIx_none (n d:Nat):sIx n d none=d:=rfl
theorem sIx_nat (n d k:Nat):sIx n d (some (k:Int))=min k n:=by
 show (if (k:Int)<0 then ((k:Int)+(n:Int)).toNat else min (k:Int).toNat n)=min k n
 rw [if_neg (by omega),U6]
theorem oY (n d:Nat)(hd:d<=n)(o:Option Int):sIx n d o<=n:=by
 cases o with
 | none=>exact hd
 | some v=>
  show (if v<0 then (v+(n:Int)).toNat else min v.toNat n)<=n
  by_cases a:v<0
  ·rw [if_pos a];omega
  ·rw [if_neg a];exact Nat.min_le_right _ _
end
end HT
namespace L2
open PySem PySem.Spec PyProof.Rows
noncomputable abbrev TO:=St->Hp->(Option Int->Hp->Prop)->Prop
noncomputable def PO (X:Cx)(e:Option Expr)(t:TO):Prop:=
 ∀ (a1r:List (Addr×Obj))(s:SF)(σ:St)(H:Hp)(Q:Option Int->Hp->Prop),Inv X a1r σ H s->t σ H Q->
  Ti (Tq X.prog X.w) X.A (evalPart e X.env) (fun u c=>∃ o a,Inv X a1r σ a c/\a1n u o/\Q o a) X.xe s
noncomputable def G5:TO:=fun _ H Q=>Q none H
noncomputable def G6 (t:TE):TO:=fun σ H Q=>t σ H fun x a=>∃ i,x=.int i/\Q (some i) a
theorem G7 {ns:List Int}:∀ {us:List Value},Vals (ns.map V.int) us->Yn us ns:=by
 induction ns with
 | nil=>intro us r;rw [Wm] at r;cases r;exact .nil
 | cons n ns a=>
  intro us r
  rw [SW] at r
  cases r with
  | cons c d=>
   obtain ⟨t,e⟩:=c
   subst e
   exact .cons n t (a d)
section
variable {X:Cx}{e:Expr}{te:TE}{lo hi:Option Expr}{tl th:TO}{pos p2:UA}
theorem G8:PO X none G5:=by
 intro a s c H Q I h
 rw [evalPart_none]
 exact TV ⟨none,H,I,.none,h⟩
theorem G9 (h:PE X e te):PO X (some e) (G6 te):=by
 intro a s m H Q I hw
 rw [evalPart_some]
 refine aX (h a s m H _ I hw) fun u n ⟨x,c,d,l,j⟩=>?_
 obtain ⟨i,rfl,q⟩:=j
 obtain ⟨t,rfl⟩:=l
 exact ⟨some i,c,d,.int i t,q⟩
noncomputable def SlR (X:Cx)(r:V->Option Int->Option Int->Hp->VK->Prop):Prop:=
 ∀ (a1r:List (Addr×Obj))(s:SF)(σ:St)(H:Hp)(x:V)(v c d:Value)(lo hi:Option Int)(a:Addr)(Q:VK),Inv X a1r σ H s->RelV x v->s.heap.IsSliceOf a c d .none->a1n c lo->a1n d hi->r x lo hi H Q->
  ∃ T id,typeLookup (.type T) "__getitem__" = pure (some (.builtin id))/\s.TypeIs v T/\Ti (Tq X.prog X.w) X.A (Yj v (.ref a)) (EP X a1r σ Q) X.xe s
theorem SlR.or {r j:V->Option Int->Option Int->Hp->VK->Prop}(h:SlR X r)(h':SlR X j):SlR X (fun x lo hi H Q=>r x lo hi H Q\/j x lo hi H Q):=by
 intro a s p H x v n o lo hi m Q I l c d i q
 rcases q with q|q
 ·exact h a s p H x v n o lo hi m Q I l c d i q
 ·exact h' a s p H x v n o lo hi m Q I l c d i q
noncomputable def Ha (r:V->Option Int->Option Int->Hp->VK->Prop)(te:TE)(tl th:TO):TE:=fun σ H Q=>te σ H fun x a=>tl σ a fun l c=>th σ c fun u d=>r x l u d Q
theorem Hb {r:V->Option Int->Option Int->Hp->VK->Prop}(J:SlR X r)(B:PE X e te)(G:PO X lo tl)(L:PO X hi th):PE X (.Subscript e (.Slice lo hi none p2) pos) (Ha r te tl th):=by
 intro a s d H Q I h
 refine Yx (aX (B a s d H _ I h) fun v Z ⟨x,n,p,Y,O⟩=>?_)
 refine wpAny_Slice (aX (G a Z d n _ p O) fun i s2 ⟨l,o,w,M,R⟩=>aX (L a s2 d o _ w R) fun j c ⟨u,m,y,N,U⟩=>?_)
 rw [evalPart_none]
 refine TV ?_
 have z:Inv X a d m { c with heap:=c.heap.push { cls:=.type "slice",data:=.fields #[i,j,.none] } }:=y.kept (t':=c.toks) fun b ob q=>SS _ q
 obtain ⟨T,id,A,K,E⟩:=J a { c with heap:=c.heap.push { cls:=.type "slice",data:=.fields #[i,j,.none] } } d m x v i j l u c.heap.objs.size Q z Y (XJ ..) M N U
 show Ti (Tq X.prog X.w) X.A (Xs e (.Slice lo hi none p2) v (.ref c.heap.objs.size)) (EP X a d Q) X.xe { c with heap:=c.heap.push { cls:=.type "slice",data:=.fields #[i,j,.none] } }
 exact a1i (ops:=[.ref c.heap.objs.size,v]) K A E (by with_unfolding_all rfl)
noncomputable def kH (xs:List V)(lo hi:Option Int):List V:=(xs.drop (HT.sIx xs.length 0 lo)).take (HT.sIx xs.length xs.length hi - HT.sIx xs.length 0 lo)
theorem Hc (xs:List V)(lo hi:Option Int):(kH xs lo hi).length<=xs.length:=by
 unfold kH
 rw [Tw,T8]
 omega
end
end L2
namespace L2
open PySem PySem.Spec PyProof.Rows
noncomputable def fM (n:Nat)(i:Int):Option Nat:=if 0<=i then (if i<n then some i.toNat else none) else if -(n:Int)<=i then some (i+n).toNat else none
noncomputable def atI {a:Type}(xs:List a)(i:Int):Option a:=(fM xs.length i).bind fun j=>xs[j]?
theorem AE {n:Nat}{i:Int}{j:Nat}(h:fM n i=some j):X1 i n=some j/\j<n/\-(n:Int)<=i/\i<n:=by
 unfold fM at h
 by_cases c:0<=i
 ·rw [if_pos c] at h
  by_cases a:i<n
  ·rw [if_pos a] at h
   have e:i.toNat=j:=S8 h
   exact ⟨by rw [ZR c a,e],by omega,by omega,a⟩
  ·rw [if_neg a] at h;cases h
 ·rw [if_neg c] at h
  by_cases a:-(n:Int)<=i
  ·rw [if_pos a] at h
   have e:(i+n).toNat=j:=S8 h
   exact ⟨by rw [Zg (by omega) a,e],by omega,a,by omega⟩
  ·rw [if_neg a] at h;cases h
theorem vK {a:Type}{xs:List a}{i:Int}{v:a}(h:atI xs i=some v):∃ j,X1 i xs.length=some j/\xs[j]? = some v/\j<xs.length/\-(xs.length:Int)<=i/\i<xs.length:=by
 unfold atI at h
 cases e:fM xs.length i with
 | none=>rw [e] at h;cases h
 | some j=>
  rw [e] at h
  obtain ⟨c,d,l,m⟩:=AE e
  exact ⟨j,c,h,d,l,m⟩
noncomputable def vL (b:Expr):Prop:=∀ o i,Yc b false o i=operate [o,i] (Yj o i)
noncomputable def IxR (X:Cx)(r:R2):Prop:=
 ∀ (c a:Expr)(a1r:List (Addr×Obj))(s:SF)(σ:St)(H:Hp)(x y:V)(v u:Value)(Q:VK),Inv X a1r σ H s->RelV x v->RelV y u->r x y H Q->
  Yc a false v u=operate [v,u] (Yj v u)->Ti (Tq X.prog X.w) X.A (Xs c a v u) (EP X a1r σ Q) X.xe s
noncomputable def MtR (X:Cx)(id:String)(r:V->List V->Hp->VK->Prop):Prop:=
 ∀ (a1r:List (Addr×Obj))(s:SF)(σ:St)(H:Hp)(x:V)(xs:List V)(v:Value)(us:List Value)(Q:VK),Inv X a1r σ H s->RelV x v->Vals xs us->r x xs H Q->
  Ti (Tq X.prog X.w) X.A (call (.builtin id) (v::us)) (EP X a1r σ Q) X.xe s
section
variable {X:Cx}{a b:Expr}{ta tb:TE}{pos:UA}
theorem IxR.or {r j:R2}(h:IxR X r)(h':IxR X j):IxR X (fun x y H Q=>r x y H Q\/j x y H Q):=by
 intro d c e s n H x y v u Q I l m q i
 rcases q with q|q
 ·exact h d c e s n H x y v u Q I l m q i
 ·exact h' d c e s n H x y v u Q I l m q i
theorem MtR.or {id:String}{r d:V->List V->Hp->VK->Prop}(h:MtR X id r)(h':MtR X id d):MtR X id (fun x xs H Q=>r x xs H Q\/d x xs H Q):=by
 intro c s l H x xs v j Q I i e q
 rcases q with q|q
 ·exact h c s l H x xs v j Q I i e q
 ·exact h' c s l H x xs v j Q I i e q
theorem Hd {r:R2}(l:IxR X r)(i:PE X a ta)(j:PE X b tb)(m:vL b):PE X (.Subscript a b pos) (oX r ta tb):=by
 intro c s w H Q I h
 exact Yx (uY i j I h fun v u p x y d e n o q=>l a b c p w d x y v u Q e n o q (m _ _))
noncomputable def AF (K:Sw):R2:=fun x y H Q=>∃ p xs i v,x=.ref p/\y=.int i/\SqL K H p xs/\atI xs i=some v/\Q v H
noncomputable def AG (K:Sw):R2:=fun x y H Q=>∃ p xs i v,x=.ref p/\y=.int i/\SqT K H p xs/\atI xs i=some v/\Q v H
noncomputable def AH:R2:=fun x y H Q=>∃ z i c,x=.str z/\y=.int i/\z.length<=SK/\atI z.cps.toList i=some c/\Q (.str ⟨#[c]⟩) H
theorem ix_list:IxR X (AF X.K):=by
 intro A o c s J H x y v u Q I T U h G
 obtain ⟨p,xs,i,z,rfl,rfl,R,N,q⟩:=h
 cases T
 obtain ⟨t,rfl⟩:=U
 obtain ⟨l,r,m,hz⟩:=I.list R
 obtain ⟨j,d,K,Z,L,M⟩:=vK N
 obtain ⟨w,B,n⟩:=r.get K
 have O:=r.length
 have hn:=lK
 have aV:EP X c J Q w s:=⟨z,H,I,n,q⟩
 by_cases E:0<=i
 ·have e:i.toNat=j:=by
   rw [ZR E M] at d
   exact S8 d
  exact item_listR m.isList E (by omega) (by rw [e];simpa using B) aV G
 ·have e:(i+(l.toArray.size:Int)).toNat=j:=by
   rw [Zg (by omega) L] at d
   rw [S3,<- O]
   exact S8 d
  exact Zf (x:=w) m.isList.typeIs XN.lookup
   (wpAny_getItem_list_neg (Q:=fun r Y=>r=w/\EP X c J Q r Y) m.isList (by omega) (by rw [S3]<;>omega) (by omega) (by rw [e];simpa using B) ⟨rfl,aV⟩) G
theorem ix_tup:IxR X (AG X.K):=by
 intro l e c s n H x y v u Q I M N h K
 obtain ⟨p,xs,i,z,rfl,rfl,J,E,q⟩:=h
 cases M
 obtain ⟨t,rfl⟩:=N
 obtain ⟨L,r,m,Z⟩:=I.tuple J
 obtain ⟨j,A,B,R,T,U⟩:=vK E
 obtain ⟨w,o,d⟩:=r.get B
 have G:=r.length
 have Y:=lK
 have aV:EP X c n Q w s:=⟨z,H,I,d,q⟩
 exact Zf (x:=w) m.typeIs slot_tuple_getitem.lookup
  (getItem_tuple (j:=j) (Q:=fun r O=>r=w/\EP X c n Q r O) m (by omega) (by omega) (by rw [S3,<- G];exact A) (by simpa using o) ⟨rfl,aV⟩) K
theorem He:IxR X AH:=by
 intro e d m s O H x y v u Q I G J h E
 obtain ⟨z,i,c,rfl,rfl,M,A,q⟩:=h
 obtain ⟨t,rfl⟩:=G
 obtain ⟨N,rfl⟩:=J
 obtain ⟨j,l,p,K,r,w⟩:=vK A
 have B:z.cps.toList.length=z.length:=by simp [X7]
 rw [B] at l r w
 have L:=lK
 exact a1i (XA s z t) slot_str_getitem.lookup (getItem_str (c:=c) (by
  have n:decide (i < -(2 ^ 63:Int))=false:=decide_eq_false (by omega)
  have o:decide (i >= 2 ^ 63)=false:=decide_eq_false (by omega)
  rw [n,o,Bool.or_false]) (by rw [l];simpa using p) ⟨.str ⟨#[c]⟩,H,I.tok _,⟨_,rfl⟩,q⟩) E
noncomputable def AI (K:Sw):R2:=fun x y H Q=>AF K x y H Q\/AG K x y H Q\/AH x y H Q
theorem Hf:IxR X (AI X.K):=ix_list.or (ix_tup.or He)
theorem Hg (c:List Value)(n j:Nat)(u:Value):Xe (·.setIfInBounds j u) { cls:=.type "list",data:=.seq c.toArray n } = { cls:=.type "list",data:=.seq (c.set j u).toArray n }:=by
 simp [Xe]
theorem Inv.lst {a1r:List (Addr×Obj)}{σ:St}{H:Hp}{s:SF}{p:Addr}{xs:List V}(I:Inv X a1r σ H s)(h:H p=some (.lst xs)) :
  ∃ (c:List Value)(n:Nat),Vals xs c/\s.heap.get? p=some { cls:=.type "list",data:=.seq c.toArray n }/\xs.length<=SK:=by
 obtain ⟨z,c,n,r,e⟩:=I.hok p _ h
 exact ⟨c,n,r,e,z⟩
theorem Inv.lstUpd {a1r:List (Addr×Obj)}{σ:St}{H:Hp}{s:SF}{p:Addr}{xs i:List V}{c its':List Value}{n d:Nat}{f:Obj->Obj}(I:Inv X a1r σ H s)(h:H p=some (.lst xs))
  (m:s.heap.get? p=some { cls:=.type "list",data:=.seq c.toArray n }) (j:f { cls:=.type "list",data:=.seq c.toArray n } = { cls:=.type "list",data:=.seq its'.toArray d }) (r:Vals i its')(o:i.length<=SK)(t:Nat) :
  Inv X a1r σ (bA H p (.lst i)) { s with heap:=s.heap.update p f,toks:=t }:=by
 have e:(s.heap.update p f).get? p=some { cls:=.type "list",data:=.seq its'.toArray d }:=by
  rw [Vj f m (by rw [j]<;>rfl),j]
 refine I.write (x:=p) (e:=p) (by rw [h];trivial) (.inl rfl) (fun b u l q=>(Us _ _ (Ux l)).trans q) ⟨_,e⟩ ?_
 exact ⟨o,its',d,r,e⟩
noncomputable def AJ:V->V->V->Hp->(Hp->Prop)->Prop:=fun o i v H Q=>∃ p xs k j,o=.ref p/\i=.int k/\H p=some (.lst xs)/\fM xs.length k=some j/\Q (bA H p (.lst (xs.set j v)))
theorem Hh:F5 X AJ:=by
 intro e s N H o i v U T u Q I K J L h
 obtain ⟨p,M,k,j,rfl,rfl,B,E,q⟩:=h
 cases K
 obtain ⟨t,rfl⟩:=J
 obtain ⟨c,n,r,w,G⟩:=I.lst B
 obtain ⟨d,O,z,A⟩:=AE E
 have m:=r.length
 have R:=lK
 have x:Inv X e N (bA H p (.lst (M.set j v))) { s with heap:=s.heap.update p (Xe (·.setIfInBounds j u)) }:=
  I.lstUpd B w (Hg c n j u) (r.set L j) (by rw [T4];exact G) s.toks
 by_cases y:0<=k
 ·have l:k.toNat=j:=by
   rw [ZR y A] at d
   exact S8 d
  exact PySem.W.ki_setAt w y (by omega) (by rw [S3,<- m];exact A) (by rw [l];exact ⟨_,x,q⟩)
 ·have l:(k+(c.toArray.size:Int)).toNat=j:=by
   rw [Zg (by omega) z] at d
   rw [S3,<- m]
   exact S8 d
  exact PySem.W.ki_setBack w (by omega) (by rw [S3,<- m];exact z) (by omega) (by rw [l];exact ⟨_,x,q⟩)
theorem Hi (lo c:Option Int)(n:Nat):(Vi lo c none n).1=((HT.sIx n 0 lo:Nat):Int)/\(Vi lo c none n).2.1=((HT.sIx n n c:Nat):Int)/\(Vi lo c none n).2.2=1:=by
 refine ⟨?_,?_,rfl⟩
 ·cases lo with
  | none=>simp [Vi,HT.sIx]
  | some i=>
   simp only [Vi,HT.sIx,Y5,show (1:Int)>0 by decide,if_true]
   by_cases h:i<0
   ·simp only [h,if_true]<;>omega
   ·simp only [h,if_false]<;>omega
 ·cases c with
  | none=>simp [Vi,HT.sIx]
  | some i=>
   simp only [Vi,HT.sIx,Y5,show (1:Int)>0 by decide,if_true]
   by_cases h:i<0
   ·simp only [h,if_true]<;>omega
   ·simp only [h,if_false]<;>omega
theorem Hj (c:List Value)(lo d:Option Int):YY c.toArray lo d none=((c.drop (HT.sIx c.length 0 lo)).take (HT.sIx c.length c.length d - HT.sIx c.length 0 lo)).toArray:=by
 obtain ⟨e,h,i⟩:=Hi lo d c.toArray.size
 unfold YY
 rw [e,h,i]
 simp only [a1j,pick_run,S3]<;>rfl
noncomputable def vO (K:Sw):V->Option Int->Option Int->Hp->VK->Prop:=fun x lo c H Q=>∃ a xs,x=.ref a/\SqL K H a xs/\∀ p,H p=none->Q (.ref p) (bA H p (.lst (kH xs lo c)))
theorem sl_list:SlR X (vO X.K):=by
 intro l s G H x v B E e i A Q I y m u w h
 obtain ⟨a,c,rfl,n,q⟩:=h
 cases y
 obtain ⟨p,r,j,o⟩:=I.list n
 have d:=r.length
 refine ⟨"list",_,XN.lookup,j.isList.typeIs,?_⟩
 refine YN j.isList m u w .none (by simp) ?_ (by rw [S3]<;>omega)
 rw [Hj,<- d]
 refine ⟨.ref s.heap.objs.size,_,I.laid (t':=s.toks) (o:=.lst (kH c e i)) (fun b z q=>SS _ q) (SM _) ?_,rfl,q _ (I.hok.fresh (SM _))⟩
 exact ⟨TX (Hc c e i) o,_,0,(r.drop (HT.sIx c.length 0 e)).take (HT.sIx c.length c.length i - HT.sIx c.length 0 e),Tf _ rfl⟩
theorem call_len_seq:CallR X (.builtin "len") (fun xs H Q=>∃ p d,xs=[.ref p]/\(SqL X.K H p d\/SqT X.K H p d)/\Q (.int d.length) H):=by
 intro m s x H xs w Q I r h
 obtain ⟨p,d,rfl,e,q⟩:=h
 obtain ⟨u,rfl,o⟩:=f9 r
 cases o
 have v:=lK
 rcases e with e|e
 ·obtain ⟨i,l,j,n⟩:=I.list e
  have c:=l.length
  exact Calls.call_len_list j.isList (by simp only [S3]<;>omega) ⟨.int d.length,H,I.tok _,⟨s.toks+1,by rw [S3,c]⟩,q⟩
 ·obtain ⟨i,l,j,n⟩:=I.tuple e
  have c:=l.length
  exact len_tuple j (by simp only [S3]<;>omega) ⟨.int d.length,H,I.tok _,⟨s.toks+1,by rw [S3,c]⟩,q⟩
theorem Hk:CallR X (.builtin "len") (fun xs H Q=>∃ z,xs=[.str z]/\z.length<=SK/\Q (.int z.length) H):=by
 intro c s j H xs i Q I r h
 obtain ⟨z,rfl,e,q⟩:=h
 obtain ⟨u,rfl,t,rfl⟩:=f9 r
 have d:=lK
 exact len_str (by omega) ⟨.int z.length,H,I.tok _,⟨_,rfl⟩,q⟩
theorem CallR.or {f:Value}{r d:List V->Hp->VK->Prop}(h:CallR X f r)(h':CallR X f d):CallR X f (fun xs H Q=>r xs H Q\/d xs H Q):=by
 intro c s j H xs i Q I e q
 rcases q with q|q
 ·exact h c s j H xs i Q I e q
 ·exact h' c s j H xs i Q I e q
theorem Hl:CallR X (.type "list") (fun xs H Q=>∃ p j,xs=[.ref p]/\(SqL X.K H p j\/SqT X.K H p j)/\∀ l,H l=none->Q (.ref l) (bA H l (.lst j))):=by
 intro y s G H xs J Q I r h
 obtain ⟨p,j,rfl,v,q⟩:=h
 obtain ⟨u,rfl,E⟩:=f9 r
 cases E
 have aV:∀ (c:List Value),Vals j c->j.length<=SK->∀ (h':Ua)(d:Nat),(∀ b B,s.heap.get? b=some B->h'.get? b=some B)->
   h'.get? s.heap.objs.size=some { cls:=.type "list",dict:=none,data:=.seq c.toArray d,slots:=#[] }->EP X y G Q (.ref s.heap.objs.size) { s with heap:=h' }:=fun c i w h' d x e=>
  ⟨.ref s.heap.objs.size,_,I.laid (t':=s.toks) x (SM _) (show ObjOk X.prog X.w _ h' _ (.lst j) from ⟨w,c,d,i,e⟩),rfl,q _ (I.hok.fresh (SM _))⟩
 rcases v with v|v
 ·obtain ⟨c,i,A,w⟩:=I.list v
  have m:=i.length
  obtain ⟨o,z,hc,n,hd⟩:=A.isList
  exact call_list_seq p (.inl rfl) z hc hd (fun h' d x e=>aV c i w h' d x e) (by simp only [S3]<;>omega)
 ·obtain ⟨c,i,A,w⟩:=I.tuple v
  have m:=i.length
  obtain ⟨o,z,hc,n,hd⟩:=A
  exact call_list_seq p (.inr rfl) z hc hd (fun h' d x e=>aV c i w h' d x e) (by simp only [S3]<;>omega)
noncomputable def vP (K:Sw)(T:String)(x:V)(H:Hp):Prop:=match x with
 | .str _=>T = "str"
 | .int _=>T = "int"
 | .ref p=>(T = "list"/\∃ d,SqL K H p d)\/(T = "tuple"/\∃ o,K.lookup p=some o/\o.cls=.type "tuple"/\o.dict=none) \/
   (T = "dict"/\((∃ c,H p=some (.dK c))\/∃ c,H p=some (.dT c)))\/(T = "set"/\∃ S n,H p=some (.set S n))
 | _=>False
theorem Hn {a1r:List (Addr×Obj)}{σ:St}{H:Hp}{s:SF}{T:String}{x:V}{v:Value}(I:Inv X a1r σ H s)(r:RelV x v)(ty:vP X.K T x H) :
  s.TypeIs v T/\∀ a,v=.ref a->∃ m,s.heap.get? a=some m/\m.dict=none:=by
 cases x with
 | str z=>
  obtain ⟨t,rfl⟩:=r
  cases (show T = "str" from ty)
  exact ⟨XA s z t,fun _ e=>nomatch e⟩
 | int i=>
  obtain ⟨t,rfl⟩:=r
  cases (show T = "int" from ty)
  exact ⟨Z7 s i t,fun _ e=>nomatch e⟩
 | ref p=>
  cases r
  rcases ty with ⟨rfl,y,u⟩|⟨rfl,o,d,hc,hd⟩|⟨rfl,d⟩|⟨rfl,S,n,d⟩
  ·obtain ⟨w,_,q,_⟩:=I.list u
   refine ⟨q.isList.typeIs,fun a e=>?_⟩
   cases e
   obtain ⟨o,n,e,c,hd,_⟩:=q
   exact ⟨o,e,hd⟩
  ·refine ⟨⟨o,I.kIn p o d,hc⟩,fun a e=>?_⟩
   cases e
   exact ⟨o,I.kIn _ o d,hd⟩
  ·have z:∃ o,s.heap.get? p=some o/\o.ExactDict:=by
    rcases d with ⟨l,d⟩|⟨l,d⟩
    ·obtain ⟨_,_,_,_,o,_,_,e,h,_⟩:=I.hok p _ d
     exact ⟨o,e,h⟩
    ·obtain ⟨_,_,_,_,o,_,_,e,h,_⟩:=I.hok p _ d
     exact ⟨o,e,h⟩
   obtain ⟨o,e,h⟩:=z
   refine ⟨⟨o,e,h.1⟩,fun a j=>?_⟩
   cases j
   exact ⟨o,e,h.2.1⟩
  ·obtain ⟨o,_,_,_,e,h,_⟩:=I.hok p _ d
   refine ⟨⟨o,e,h.1⟩,fun a j=>?_⟩
   cases j
   exact ⟨o,e,h.2.1⟩
 | _=>exact Tx ty
noncomputable def vQ (K:Sw)(T:String)(r:V->List V->Hp->VK->Prop)(e:TE)(t:TA):TE:=fun σ H Q=>e σ H fun x c=>vP K T x c/\t σ c fun xs d=>r x xs d Q
variable {o e:Expr}{es:List Expr}{to:TE}{t:TA}{name:Str}{apos cpos:UA}{T id:String}{r:V->List V->Hp->VK->Prop}
theorem AK (L:PlainAttrs T)(slot:Slot T name id)(m:typeOf (.builtin id)=pure (.type "method_descriptor")) (G:MtR X id r)(J:PE X o to)(E:PA X (e::es) t)
  (i:Xu o name X.env (eval o X.env)=eval o X.env:=by rfl)
  (l:((Vg cpos (Tu (e::es) X.env)).all (fun x=>!x.1)&&(ZU cpos (Yd [] X.env)).all (fun x=>x.1.isSome)
   && decide ((e::es).length+([]:List V7).length+(if ([]:List V7).isEmpty then 0 else 1)<30))=true:=by rfl)
  (j:(apos.endLine == cpos.line)=true:=by rfl)(K:Tu (e::es) X.env=(false,eval e X.env)::Tu es X.env:=by rfl)(c:(Vg cpos (Tu es X.env)).any (·.1)=false:=by rfl) :
  PE X (.Call (.Attribute o name apos) (e::es) [] cpos) (vQ X.K T r to t):=by
 intro d s n H Q I h
 refine wpAny_Call_method_late i l j rfl (aX (J d s n H _ I h) fun v R ⟨x,w,p,u,ty,M⟩=>?_)
 obtain ⟨A,B⟩:=Hn p u ty
 refine ⟨T,id,L,slot,m,A,B,?_⟩
 have q:=E cpos d R n w _ p M
 rw [K] at q ⊢
 refine Calls.callWith_builtin (by show (false||(Vg cpos (Tu es X.env)).any (·.1))=false;rw [c]<;>rfl) (YE ?_)
 exact aX q fun Y U ⟨Z,y,z,O,N⟩=>G d U n y x Z v Y Q z u O N
end
end L2
namespace L2
open PySem PySem.Spec PyProof.Rows
noncomputable def lL (X:Cx)(id:String)(r:V->List V->Hp->VK->Prop):Prop:=
 ∀ (a1r:List (Addr×Obj))(s:SF)(σ:St)(H:Hp)(x:V)(xs:List V)(v:Value)(us:List Value)(Q:VK),Inv X a1r σ H s->RelV x v->Vals xs us->r x xs H Q->
  Ti (Tq X.prog X.w) X.A (call (.builtin id) (v::us)) (EP X a1r σ Q) X.xe s
theorem Vals.one:∀ {x:V}{us:List Value},Vals [x] us->∃ u,us=[u]/\RelV x u
 | _,_,.cons r .nil=>⟨_,rfl,r⟩
theorem Vals.two:∀ {x y:V}{us:List Value},Vals [x,y] us->∃ u v,us=[u,v]/\RelV x u/\RelV y v
 | _,_,_,.cons r (.cons q .nil)=>⟨_,_,rfl,r,q⟩
theorem Vals.zero:∀ {us:List Value},Vals [] us->us=[]
 | _,.nil=>rfl
theorem Vals.dropLast {xs:List V}{us:List Value}(h:Vals xs us):Vals xs.dropLast us.dropLast:=by
 induction h with
 | nil=>exact .nil
 | cons r t a=>
  cases t with
  | nil=>exact .nil
  | cons q c=>exact .cons r a
theorem Vals.eraseIdx:∀ {xs:List V}{us:List Value}(i:Nat),Vals xs us->Vals (xs.eraseIdx i) (us.eraseIdx i)
 | _,_,_,.nil=>.nil
 | _,_,0,.cons _ t=>t
 | _,_,i+1,.cons r t=>.cons r (Vals.eraseIdx i t)
theorem Vals.reverse {xs:List V}{us:List Value}(h:Vals xs us):Vals xs.reverse us.reverse:=by
 induction h with
 | nil=>exact .nil
 | cons r t a=>rw [Xg,Xg];exact Vals.append a (.cons r .nil)
theorem Vals.rep {xs:List V}{us:List Value}(h:Vals xs us):∀ k:Nat,Vals (Sz k xs).flatten (Sz k us).flatten
 | 0=>.nil
 | k+1=>by
  rw [Te,Te,U5,U5]
  exact Vals.append h (Vals.rep h k)
theorem AL {a:Type}:∀ (l:List a)(i:Nat),(l.eraseIdx i).length<=l.length
 | [],_=>SM _
 | _::_,0=>Ww _
 | _::r,i+1=>Nat.succ_le_succ (AL r i)
theorem AM (c:List Value):∀ (k:Nat)(a:List Value),
  Y9 (fun h i=>h++i) a.toArray (Sz k c.toArray)=(a++(Sz k c).flatten).toArray
 | 0,a=>by simp
 | k+1,a=>by
  have e:a.toArray++c.toArray=(a++c).toArray:=by simp
  have d:(a++c)++(Sz k c).flatten=a++(Sz (k+1) c).flatten:=by
   rw [Te,U5,T9]
  rw [<- d,<- AM c k (a++c),<- e,Te,XG]
section
variable {X:Cx}{a1r:List (Addr×Obj)}{σ:St}{H:Hp}{s:SF}{l b:Addr}{xs ys zs:List V}
theorem Inv.lset {a its':List Value}{n:Nat}{f:Array Value->Array Value}{t':Nat}(I:Inv X a1r σ H s)(c:H l=some (.lst xs))
  (e:s.heap.get? l=some { cls:=.type "list",data:=.seq a.toArray n }) (h:f a.toArray=its'.toArray)(j:Vals ys its')(m:ys.length<=SK) :
  Inv X a1r σ (bA H l (.lst ys)) { s with heap:=s.heap.update l (Xe f),toks:=t' }:=by
 have q:=PySem.IsL.update e f
 rw [h] at q
 refine I.write (x:=l) (e:=l) (by rw [c];exact trivial) (.inl rfl) (fun o u d i=>(Us s.heap (Xe f) (Ux d)).trans i) ⟨_,q⟩ ?_
 exact ⟨m,its',_,j,q⟩
theorem Inv.lnew {a:List Value}{t':Nat}(I:Inv X a1r σ H s)(c:Vals ys a)(d:ys.length<=SK) :
  Inv X a1r σ (bA H s.heap.objs.size (.lst ys)) { s with heap:=s.heap.push { cls:=.type "list",data:=.seq a.toArray },toks:=t' }:=
 I.laid (fun _ _ q=>SS _ q) (SM _) ⟨d,a,0,c,Tf _ rfl⟩
theorem Inv.fresh (I:Inv X a1r σ H s):H s.heap.objs.size=none:=I.hok.fresh (SM _)
theorem Inv.lstM (I:Inv X a1r σ H s)(c:H l=some (.lst xs)):xs.length<=SK/\∃ (a:List Value)(n:Nat),Vals xs a/\xs.length=a.length/\s.heap.get? l=some { cls:=.type "list",data:=.seq a.toArray n }:=by
 obtain ⟨z,a,n,r,e⟩:=I.hok l _ c
 exact ⟨z,a,n,r,r.length,e⟩
theorem Ho {n:Nat}(h:n<=SK):Wf n=false:=by
 unfold Wf
 exact decide_eq_false (by omega)
end
section
variable {X:Cx}
noncomputable def AN:V->List V->Hp->VK->Prop:=fun x vs H Q=>∃ l xs y,x=.ref l/\vs=[y]/\H l=some (.lst xs)/\xs.length<SK/\Q .non (bA H l (.lst (xs++[y])))
theorem AO:lL X "list.append" AN:=by
 intro d s E H x A v w Q I m j h
 obtain ⟨l,B,y,rfl,rfl,c,p,q⟩:=h
 cases m
 obtain ⟨u,rfl,i⟩:=j.one
 obtain ⟨z,a,n,r,o,e⟩:=I.lstM c
 refine W0 F.slot_list_append ⟨_,e,rfl⟩ F.entry_list_append (F.args_list_append_2 _ _) (PySem.list_append l a.toArray n u (by rw [S3];omega)) ⟨e,?_⟩
 refine ⟨.non,_,I.lset (its':=a++[u]) c e (by simp) (r.append (.cons i .nil)) ?_,rfl,q⟩
 rw [SU,Uu]
 omega
noncomputable def AQ:V->List V->Hp->VK->Prop:=fun x vs H Q=>∃ l xs i k y,x=.ref l/\vs=[.int i]/\H l=some (.lst xs)/\-(2 ^ 63)<=i/\i<2 ^ 63/\X1 i xs.length=some k/\xs[k]? = some y/\Q y (bA H l (.lst (xs.eraseIdx k)))
theorem Hq:lL X "list.pop" AQ:=by
 intro j s N H x M v L Q I J G h
 obtain ⟨l,K,i,k,y,rfl,rfl,d,m,o,p,B,q⟩:=h
 cases J
 obtain ⟨u,rfl,E⟩:=G.one
 obtain ⟨t,rfl⟩:=E
 obtain ⟨z,a,n,r,A,e⟩:=I.lstM d
 obtain ⟨w,hw,c⟩:=r.get B
 refine W0 F.slot_list_pop ⟨_,e,rfl⟩ F.entry_list_pop (F.args_list_pop_2 _ _)
  (MeetsSeq.list_pop_at l a.toArray n i t k w (Ys m o) (by rw [S3,<- A];exact p) (by rw [<- Yo];exact hw) (by rw [S3];omega)) ⟨e,?_⟩
 refine ⟨y,_,I.lset (its':=a.eraseIdx k) d e ?_ (r.eraseIdx k) ?_,c,q⟩
 ·show a.toArray.eraseIdxIfInBounds k=(a.eraseIdx k).toArray
  rw [List.eraseIdxIfInBounds_toArray]
 ·have:=AL K k
  omega
noncomputable def AR:R2:=fun x y H Q=>∃ l b xs a,x=.ref l/\y=.ref b/\H l=some (.lst xs)/\H b=some (.lst a)/\xs.length+a.length<=SK/\∀ p,H p=none->Q (.ref p) (bA H p (.lst (xs++a)))
theorem Hr:OpR X (Vm .Add) AR:=by
 intro d s N H x y v u Q I A B h
 obtain ⟨l,b,K,M,rfl,rfl,o,m,G,q⟩:=h
 cases A
 cases B
 obtain ⟨z,c,n,r,E,e⟩:=I.lstM o
 obtain ⟨L,a,J,w,p,i⟩:=I.lstM m
 refine PySem.P.add_list e i ?_ (by rw [S3,S3];omega)
 have j:c.toArray++a.toArray=(c++a).toArray:=by simp
 rw [j]
 exact ⟨.ref _,_,I.lnew (t':=s.toks) (r.append w) (by rw [SU];omega),rfl,q _ I.fresh⟩
noncomputable def AS:R2:=fun x y H Q=>∃ l k xs,x=.ref l/\y=.int k/\H l=some (.lst xs)/\-(2 ^ 63)<=k/\k<2 ^ 63/\xs.length * k.toNat<=SK /\
 ∀ p,H p=none->Q (.ref p) (bA H p (.lst (Sz k.toNat xs).flatten))
theorem Hs {c:Type}(xs:List c)(k:Nat):(Sz k xs).flatten.length=k * xs.length:=by
 induction k with
 | zero=>simp
 | succ k a=>rw [Te,U5,SU,a,Nat.succ_mul,a0H]
theorem Ht:OpR X (Vm .Mult) AS:=by
 intro E s Y H x y v u Q I N O h
 obtain ⟨l,k,U,rfl,rfl,L,J,K,B,q⟩:=h
 cases N
 obtain ⟨t,rfl⟩:=O
 obtain ⟨z,c,n,r,M,e⟩:=I.lstM L
 have o:c.toArray.size * k.toNat<=SK:=by rw [S3,<- M];exact B
 have i:¬ c.toArray.size * k.toNat>(2 ^ 63 - 1) / 8:=by
  have:(SK:Nat)<=(2 ^ 63 - 1) / 8:=by decide
  omega
 have j:¬ (!Builtin.List.listFitsIndex k)=true:=by
  rw [Ys J K]
  exact VE
 have d:¬ Wf (c.toArray.size * k.toNat)=true:=by
  rw [Ho o]
  exact VE
 have p:Y9 (fun w A=>w++A) #[] (Sz (if c.toArray.isEmpty=true then 0 else k.toNat) c.toArray)=(Sz k.toNat c).flatten.toArray:=by
  have G:∀ m:Nat,Y9 (fun w A=>w++A) #[] (Sz m c.toArray)=(Sz m c).flatten.toArray:=fun m=>by
   have:=AM c m []
   rw [S5] at this
   exact this
  rw [G]
  cases c with
  | nil=>simp
  | cons a T=>rw [if_neg (by simp)]
 refine wpAny_binaryOp_repeat_ref (T:="list") (U:="int") (by decide) ⟨_,e,rfl⟩ (fun R=>Z7 R k t) noFill_list_mul F.fills_int_mul F.slot_int_rmul repeat_list F.slot_int_index.lookup
  (W0 F.slot_int_rmul (Z7 s k t) F.entry_int_rmul (F.args_int_rmul_2 _ _) (int___rmul___int_list k t l c.toArray n)
   ⟨e,rfl,⟨_,e,rfl⟩,W0 F.slot_list_mul ⟨_,e,rfl⟩ F.entry_list_mul (F.args_list_mul_2 _ _) (AutoListH.list___mul___list_int_3 l c.toArray n k t j i d) ⟨e,?_⟩⟩)
 rw [p]
 exact ⟨.ref _,_,I.lnew (t':=s.toks) (r.rep k.toNat) (by rw [Hs,Nat.mul_comm];exact B),rfl,q _ I.fresh⟩
end
end L2
namespace Att
open PySem PySem.W PySem.Calls PyProof.Rows
theorem Hu {P:UU}{h:Ua}:∀ (ns:List Int)(vs:List Value),WellAll P h vs (ns.map V8)->Yn vs ns:=by
 intro ns
 induction ns with
 | nil=>
  intro vs w
  rw [Wm] at w
  cases w
  exact .nil
 | cons n ns c=>
  intro vs w
  rw [SW] at w
  cases w with
  | cons a b=>
   cases a
   exact .cons _ _ (c _ b)
theorem script_of {l:OpenLaw}{n:Nat}(z:l.most=some n){P:UU}{h:Ua}{args:List WData}{i:List Value}
  (e:l.row.toRowW.claim.pre args=true)(u:WellAll P h i args) :
  ∃ a v c,i=[TL a]/\args=[WData.list (c.map V8)]/\h.get? a=some { cls:=.type "list",data:=.seq v.toArray }/\Yn v c/\c.length<=n:=by
 have s:WShape.hasAll [] args [.list .int]=true:=(pre_splitW e).1
 have hc:l.pre.holds [] { args:=args } = true:=(pre_splitW e).2
 obtain ⟨d,r,rfl,w,x⟩:=hasAllW_cons s
 obtain rfl:=hasAllW_nil x
 obtain ⟨H,rfl,y⟩:=hasW_list w
 obtain ⟨c,rfl⟩:=items_int y
 have m:c.length<=n:=by
  unfold OpenLaw.pre at hc
  have o:(WTm.not (.lt (.lit (.int (n:Int))) (.len (.arg 0)))).holds [] { args:=[.list (c.map .int)] } = true:=by
   have o:=(holds_andW hc).1
   rw [z] at o
   exact o
  have p:=condW_of o (w_not (w_lt w_lit (w_len_list (w_arg rfl))))
  rw [Sx] at p
  refine Nat.le_of_not_lt fun q=>?_
  have B:(n:Int)<((c.length:Nat):Int):=by omega
  first
   | (rw [decide_eq_true B] at p;exact absurd p (by decide))
   | (simp at p;omega)
 cases u with
 | cons E G=>
  cases G
  cases E with
  | list A j=>exact ⟨_,_,c,rfl,rfl,A,Hu c _ j,m⟩
theorem post_true (l:OpenLaw)(args:List WData):l.row.toRowW.claim.post args (.bool true) args=true:=
 postW_of (r:=l.row.toRowW) (X:=(true == true))
  (show a0q [] (.bool true) .bool=true by first|rfl|decide|simp [a0q,WShape.arms,WShape.armsAll])
  (show (WTm.eq .res (.lit (.bool true))).value [] { args:=args,res:=some (.bool true),after:=args } = some (.bool (true == true)) from w_eq_bool (w_res rfl) w_lit) rfl
end Att
namespace L2
open PySem PySem.Spec PyProof.Rows
theorem vT:∀ {vs:List Value}{ns:List Int},Yn vs ns->Vals (ns.map V.int) vs
 | _,_,.nil=>.nil
 | _,_,.cons n t h=>.cons ⟨t,rfl⟩ (vT h)
noncomputable def AU (H:Hp):Prop:=∀ b,H b=none\/∃ o xs,H b=some (.frz o (.lst xs))
theorem law_call {P:Tc}{w:Ts}{K:Sw}{N mb:Str->Option Value}{CX:fL}{k:Nat}{T a:Addr}{fd:Ul}{x:Str}{sp:Sp}{c:SF}{vs:List Value}{ns:List Int}
  (KX:K.In c.heap)(J:c.heap.Ns TQ N)(i:c.heap.Ns a0c mb)(X:∀ x:Str,x ≠ "__name__"->mb x=Ut x) (I:c.heap.NoLimit)(hg:c.gens = #[])
  (Q:c.heap.get? a=some { cls:=.type "list",data:=.seq vs.toArray }) (hi:Yn vs ns)(hl:ns.length<=SK)(hr:Room k XQ)
  (F:∀ j:Ua,K.In j->j.Ns TQ N->FnOk P w K N j CX k T fd [x] sp)(A:∀ (s:SF)(u:Value),Xl s fd ⟨[u],[]⟩ [(x,u)])
  (Z:∀ H:Hp,AU H->SqL K H a (ns.map V.int)->sp [.ref a] H (fun v _=>v=.bl true) fun _ _ _=>False)
  (U:∀ H e l,CX [] H c (fun _ _ _=>False) e l->False) :
  XO (Tq P w) XQ (.call (.ref T) ⟨[.ref a],[]⟩) (fun r l=>r=.ok (.ret (.bool true))/\OldK c.heap l.heap/\l.os=c.os/\WG l.gens) c:=by
 have rv:=vT hi
 have M:=hi.length
  -- from an abstract heap in which nothing but the script may be tracked
 have y:∀ H:Hp,AU H->SqL K H a (ns.map V.int)->HOk P w H c.heap->(∀ b,H b≠none->b=a)->(H a≠none->K.lookup a=none)->
   XO (Tq P w) XQ (.call (.ref T) ⟨[.ref a],[]⟩) (fun r l=>r=.ok (.ret (.bool true))/\OldK c.heap l.heap/\l.os=c.os/\WG l.gens) c:=by
  intro H hO hS hok hA hK
  have pL:∀ {b:Addr}{o:Obj},c.heap.get? b=some o->H b=none->(jL c.heap H).get? b=some o:=fun e n=>Ff e n
  have noA:∀ {b:Addr}{o:Obj}{es:Array WU}{E:Nat},c.heap.get? b=some o->o.data=.dict es E->H b=none:=fun {b o es E} e d=>by
   cases q:H b with
   | none=>rfl
   | some u=>
    have R:b=a:=hA b (by rw [q];simp)
    subst R
    rw [Q] at e;cases e
    have d':Xj vs.toArray _=Th es E:=d
    cases d'
  have p:∀ {b:Addr}{m:Str->Option Value},c.heap.Ns b m->(jL c.heap H).Ns b m:=fun {b m} ⟨o,es,E,e,d,r⟩=>⟨o,es,E,pL e (noA e d),d,r⟩
  have G:K.In (jL c.heap H):=fun b o e=>pL (KX b o e) (by
   cases q:H b with
   | none=>rfl
   | some u=>
    have R:b=a:=hA b (by rw [q];simp)
    subst R
    rw [hK (by rw [q];simp)] at e;cases e)
  have hM:Mod K N (jL c.heap H):=⟨G,p J,⟨mb,p i,X⟩,let ⟨mc,h1,h2⟩:=I;⟨mc,p h1,h2⟩⟩
  have e0:Env0 P w K N (jL c.heap H) XQ [] c H:=⟨rfl,hM,fun b o e=>Fg e,VQ (Fe _ _),trivial,fun b i=>absurd (show b∈([]:List Addr) from i) (by simp),hok,.of_eq hg⟩
  refine Wu ((F _ G (p J)).run XQ [] c H ⟨[.ref a],[]⟩ [.ref a] [.ref a] _ _ hr e0 (A c (.ref a)) (.cons rfl .nil) (Z H hO hS)) fun r l h=>?_
  cases r with
  | error e=>exact (U H e l h).elim
  | ok fl=>
   cases fl with
   | next=>exact Tx h
   | brk=>exact Tx h
   | cont=>exact Tx h
   | ret u=>
    obtain ⟨v,H',os,B,un,L,r',q⟩:=h
    have q':v=.bl true:=q
    subst q'
    obtain rfl:u=Ta true:=r'
    refine ⟨rfl,OldK.of_keep fun b o e=>?_,os,B⟩
    cases q:H b with
    | none=>exact un.keep b o e q (by intro z;exact absurd (show b∈([]:List Addr) from z) (by simp)) (by simp)
    | some u=>
     rcases hO b with z|⟨ob,xs,z⟩
     ·rw [q] at z;cases z
     ·have z2:=un.frzs b ob _ z
      obtain ⟨e1,_⟩:=hok b _ z
      obtain ⟨e2,_⟩:=L b _ z2
      rw [e] at e1;cases e1
      exact e2
 cases Y:K.lookup a with
 | some o=>
    -- the script is one of the module's own objects
  have e:=KX a o Y
  rw [Q] at e
  cases e
  refine y (fun _=>none) (fun _=>.inl rfl) (.inr ⟨_,vs.toArray,_,Y,rfl,rfl,rfl,by rw [S3,M];exact hl,by simpa using rv⟩) (fun b u z=>by have O:(none:Option HO)=some u:=z;cases O) (fun b z=>absurd rfl z) fun z=>absurd rfl z
 | none=>
  refine y (fun b=>if b=a then some (.frz { cls:=.type "list",data:=.seq vs.toArray } (.lst (ns.map V.int))) else none) (fun b=>?_) (.inl (.inr ⟨{ cls:=.type "list",data:=.seq vs.toArray },if_pos rfl⟩)) (fun b u z=>?_) (fun b z=>?_) fun _=>Y
  ·by_cases i:b=a
   ·exact .inr ⟨_,_,if_pos i⟩
   ·exact .inl (if_neg i)
  ·by_cases i:b=a
   ·have O:=(if_pos i).symm.trans z
    cases O
    subst i
    exact ⟨Q,by rw [Sx];exact hl,vs,_,rv,Q⟩
   ·have O:=(if_neg i).symm.trans z
    cases O
  ·by_cases i:b=a
   ·exact i
   ·exact absurd (if_neg i) z
end L2
namespace L2
open PySem PySem.Spec PyProof.Rows
end L2
namespace L2
open PySem PySem.Spec PyProof.Rows
noncomputable def eA (s:Stmt):a0N:=match s with
 | .FunctionDef _ a _ _ _ _ _ _ _ _=>a
 | _=>{ posonlyargs:=[],args:=[],vararg:=none,kwonlyargs:=[],kw_defaults:=[],kwarg:=none,defaults:=[] }
noncomputable def cJ (s:Stmt):List Stmt:=match s with
 | .FunctionDef _ _ b _ _ _ _ _ _ _=>b
 | _=>[]
noncomputable def bL (s:Stmt):UN:=match s with
 | .FunctionDef _ _ _ _ _ _ sc _ _ _=>sc
 | _=>{ kind:=.function,names:=[],isGenerator:=false,isCoroutine:=false }
noncomputable abbrev eB:fL:=fun _ _ _ _ _ _=>False
noncomputable abbrev E0:XK:=fun _ _ _=>False
theorem AV {X:Cx}:rW eB X E0:=fun _ _ _ _ _ _ _ h=>h.elim
structure Fun (K:Sw)(x qual:Str)(st:Stmt)(f:Addr)(fd:Ul):Prop where
 ex:∃ (oc:Value)(od:Option Addr)(kV doc pm:Value)(an:Option Addr)(cdv ct:Value)(osl:Array (Option Value)),
  fd=TY x qual (eA st) (cJ st) (bL st) .none kV doc pm an cdv ct/\K.lookup f=some ⟨oc,od,.func fd,osl⟩/\Wi K cdv qual=true
 kp:T6 K (.ref f)=true
section
variable {P:Tc}{w:Ts}{K:Sw}{mg:Str->Option Value}{base:Ua}
theorem Fun.ok {x a:Str}{st:Stmt}{f:Addr}{j:Ul}{N ps:List Str}{k:Nat}{sp:Sp}(F:Fun K x a st f j)(S:FnScope N ps (bL st))(len:∀ vs H Q E,sp vs H Q E->vs.length=ps.length)
  (d:∀ (c:Value)(A:Tt)(outer:List Wx)(s:SF)(H:Hp)(vs:List V)(Q:VK)(E:XK),Room k (A.deeper (envOfC a (bL st) s.heap.objs.size f c))->sp vs H Q E->
   ∃ t,PSs (d8 eB P w K mg base N a (bL st) f c A outer s H E).nox (cJ st) t/\t { nx:=fun _ l=>Q .non l,rt:=Q } (start N vs) H):FnOk P w K mg base eB (k+1) f j ps sp:=by
 obtain ⟨u,v,kV,m,y,r,c,ct,p,rfl,o,e⟩:=F.ex
 refine Av o e S len fun A outer s H vs Q E n i=>?_
 obtain ⟨t,h,q⟩:=d c A outer s H vs Q E n i
 exact ⟨t,h.nox,q⟩
theorem Fun.binds {x a:Str}{st:Stmt}{f:Addr}{j:Ul}{ps:List Str}(F:Fun K x a st f j)
  (h:∀ (kV d i:Value)(e:Option Addr)(c ct:Value)(us:List Value),us.length=ps.length->Yv (TY x a (eA st) (cJ st) (bL st) .none kV d i e c ct) ⟨us,[]⟩=pure (ps.zip us)):Binds K j ps []:=by
 obtain ⟨o,p,kV,d,i,e,c,ct,m,rfl,n,l⟩:=F.ex
 exact .all (h kV d i e c ct)
theorem Hv {x a:Str}{st:Stmt}{f:Addr}{m:Value}{n i:Option Addr}{h:Array (Option Value)}{kV e j d ct:Value}(l:K.lookup f=some ⟨m,n,.func (TY x a (eA st) (cJ st) (bL st) .none kV e j i d ct),h⟩)
  (c:Wi K d a=true)(k:T6 K (.ref f)=true):Fun K x a st f (TY x a (eA st) (cJ st) (bL st) .none kV e j i d ct):=⟨⟨m,n,kV,e,j,i,d,ct,h,rfl,l,c⟩,k⟩
end
theorem Hw {A:Tt}{k:Nat}(a:Room k A):A.units+1<V1:=Nat.lt_of_le_of_lt (Y6 (by decide:1<=64) _) a.units
section
variable {X:Cx}
theorem call_lenD:CallR X (.builtin "len") (fun xs H Q=>∃ a c,xs=[V.ref a]/\H a=some (.dK c)/\Q (.int c.length) H):=by
 intro e s n H xs m Q I r h
 obtain ⟨a,c,rfl,i,q⟩:=h
 obtain ⟨u,rfl,j⟩:=f9 r
 cases j
 exact GU I (.inl i) fun t l d=>⟨.int c.length,H,d,⟨t,rfl⟩,q⟩
end
theorem kI {A B:Prop}(h:B):if false=true then A else B:=by
 rw [if_neg VE]
 exact h
theorem kJ {A B:Prop}(h:A):if true=true then A else B:=by
 rw [if_pos rfl]
 exact h
noncomputable def Same (H H':Hp):Prop:=∀ b o,H b=some o->H' b=some o
theorem Same.refl (H:Hp):Same H H:=fun _ _ h=>h
theorem Same.trans {H d e:Hp}(a:Same H d)(b:Same d e):Same H e:=fun c o h=>b c o (a c o h)
theorem Same.free {H H':Hp}(e:Same H H'){l:Addr}(h:H' l=a0e):H l=a0e:=by
 cases q:H l with
 | none=>rfl
 | some o=>
  rw [e l o q] at h
  cases h
theorem Same.seq {K:Sw}{H H':Hp}{a:Addr}{xs:List V}(e:Same H H')(h:SqL K H a xs):SqL K H' a xs:=by
 rcases h with (h|⟨o,h⟩)|h
 ·exact .inl (.inl (e _ _ h))
 ·exact .inl (.inr ⟨o,e _ _ h⟩)
 ·exact .inr h
end L2
namespace L3
open PySem PySem.W
theorem left_cut {p q:Tc}{loose:List Str}{Xt:SF → Bool}{L:Type}{Yf:SF → L}{Ya:Ts → L}{N:Nat}{A:Bool}{hA hB hC:UU → Ua}{kA B E a:Nat}{j:Option Value}{u m n o n3:Nat}{env:Wx}{x G v H I:UA}{i1 i2:Nat}
  (l:∀ w:Ts,(fencedOpening U8 p w N).map (fun s=>(s.heap,s.gens,s.drawn,s.toks))=some (VR w.params,Ub [],Uq,X6))
  (size:∀ w:Ts,((VR w.params).isNs TQ,(VR w.params).objs.size,(VR w.params).nsMap TQ "__annotations__")=(true,a,j))
  (z:∀ (w:Ts)(c:W4),topGo U8 p w a j u ⟨VR w.params,Ub [],Uq,X6,c⟩ (topStub p)=some (⟨hA w.params,Ub [],Uq,kA,c⟩,⟨denote U8 (.body (Tj p) env),.body (Tj p) env,G,[Wy x]⟩))
  (y:∀ (w:Ts)(c:W4),Zh U8 p w a j 1 m ⟨hA w.params,Ub [],Uq,kA,c⟩ (blockOf (Tj p) env (.body (Tj p) env) G [Wy x])=some (.next,⟨hA w.params,Ub [],Uq,kA,c⟩,.body (Tj p) env,v))
  (Y:∀ (w:Ts)(c:W4),Zh U8 p w a j 1 n ⟨hA w.params,Ub [],Uq,kA,c⟩ (ZS ((Tj p).take i1) env (.body (Tj p) env) v [Wy x])=some (.next,⟨hB w.params,Ub [],Uq,B,c⟩,.body (Tj p) env,H))
  (Z:∀ (w:Ts)(c:W4),Zh U8 p w a j 1 o ⟨hB w.params,Ub [],Uq,B,c⟩ (ZS (((Tj p).drop i1).take i2) env (.body (Tj p) env) H [Wy x])=some (.next,⟨hC w.params,Ub [],Uq,E,c⟩,.body (Tj p) env,I))
  (aV:∀ (w:Ts)(c:W4),((topRun U8 p w a j n3 ⟨hC w.params,Ub [],Uq,E,c⟩ (restOf (((Tj p).drop i1).drop i2) env (.body (Tj p) env) I [Wy x])).bind fun i=>match staticsOk (a0P p.main.body) (VR w.params) i.heap&&namesBound p i.heap&&gensDone i&&laidKept (VR w.params) i.heap with
   | true=>some i
   | false=>none).map (fun s=>(openSeen q loose (a0P p.main.body) Xt A s,Yf s))=some (openGood q loose,Ya w))
  (le:Nat.ble (u+(m+(n+(o+n3)))) N=true):LeftO p q loose Xt Yf Ya N A:=fun w=>by
 obtain ⟨⟨h,O,d,k,c⟩,e,M⟩:=SA.mp (l w)
 obtain ⟨rfl,rfl,rfl,rfl⟩:h=VR w.params ∧ O=Ub [] ∧ d=Uq ∧ k=X6:=by simpa using M
 obtain ⟨z1,z2,z3⟩:_ ∧ _ ∧ _:=by simpa only [Prod.mk.injEq] using size w
 obtain ⟨s,T,U⟩:=SA.mp (aV w c)
 obtain ⟨i,Q,R⟩:=Su.mp T
 have K:=piece_app (Z w c) Q
 rw [Up] at K
 have J:=piece_app (Y w c) K
 rw [Up] at J
 have X:=go_top (z w c) (piece_block (y w c) J)
 have r:=topRun_mono (N - (u+(m+(n+(o+n3))))) _ _ _ _ X
 rw [show u+(m+(n+(o+n3)))+(N - (u+(m+(n+(o+n3)))))=N by have:=WT le;omega] at r
 have t:topFrom U8 p w N ⟨VR w.params,Ub [],Uq,X6,c⟩=some s:=by
  unfold topFrom
  dsimp only
  rw [z1,z2,z3,r]
  exact R
 unfold openEnds
 rw [e]
 show (topFrom U8 p w N _).map _=_
 rw [t]
 exact congrArg some U
end L3
namespace Lw
open PySem L2
noncomputable def aS (i:Nat):Stmt:=TZ.main.body.getD i (.Pass ⟨0,0,0,0⟩)
noncomputable def Vw:Tc:={ TZ with main:={ TZ.main with body:=aS 1::aS 2::aS 3::aS 4::aS 5::aS 6::aS 7::aS 8::aS 9::aS 10::aS 11::aS 12::aS 13::aS 14::aS 16::aS 18::aS 19::aS 20::aS 21::aS 22::aS 23::aS 24::aS 25::aS 26::aS 27::aS 28::aS 29::aS 30::aS 31::aS 32::aS 34::aS 35::aS 36::aS 37::aS 38::aS 39::aS 40::aS 41::aS 42::aS 43::aS 44::aS 45::aS 46::aS 47::aS 48::aS 49::aS 51::aS 52::aS 53::aS 54::aS 55::aS 56::aS 57::aS 58::aS 59::aS 60::[] } }
noncomputable abbrev vS (x:String)(n:Nat):Value:=Xo (SQ x) n
noncomputable abbrev vI (i:Int):Value:=Tg i 0
noncomputable abbrev vR (a:Addr):Value:=TL a
noncomputable abbrev vN:Value:=Uk
noncomputable abbrev cO (fs:Array Value):Obj:={ cls:=Sv "code",data:=SR fs }
noncomputable abbrev kO (x y:String)(a b c:Nat)(l n i j k:Int)(r:Addr)(q:Int)(vs:Array Value)(t d:Int)(e:Nat):Obj:={ cls:=Sv "code",data:=SR (#[vS x a,vS x b,vS y c,vI l,vI n,vI i,vI j,vI k,vR r,Ta true,vI q]++vs++#[vI t,vI d,vS y e]) }
noncomputable abbrev tO (fs:Array Value):Obj:={ cls:=Sv "tuple",data:=Xj fs }
noncomputable abbrev fO (x:Str)(n:Nat)(m:Value)(c:Addr):Obj:=⟨Sv "function",none,.func (TY x x (eA (aS n)) (cJ (aS n)) (bL (aS n)) Uk Uk Uk m none (TL c) Uk),#[]⟩
noncomputable abbrev eO (P:UU)(x:String)(n:Nat)(v:Value):WU:={ hash:=PyData.keyHash P (SQ x),key:=Xo (SQ x) n,val:=v }
noncomputable abbrev eR (P:UU)(x:String)(n:Nat)(a:Addr):WU:=eO P x n (vR a)
noncomputable abbrev kA (p:Addr×Obj)(R:Sw):Sw:=p::R
noncomputable abbrev vM (n:Nat):Value:=[vS "creasecourt.places" 442,vS "creasecourt.wedges" 451,vS "creasecourt.crimps" 575,vS "law_creasecourt_k30_corners_refused" 706].getD n vN
noncomputable abbrev kF (x:String)(r a:Nat)(l n:Int)(t i:Nat)(m:Value)(R:Sw):Sw:=(r+5,kO x "/claim/cut.py" a (a+1) (a+2) l n 0 0 3 r 181 #[vR (r+1),vN,vR (r+2),vR (r+3),vR (r+4)] t l (t+1))::(r+6,fO x i m (r+5))::R
noncomputable abbrev kG (x:String)(r a:Nat)(l n:Int)(t i:Nat)(m:Value)(R:Sw):Sw:=(r+3,kO x "/claim/cut.py" a (a+1) (a+2) l n 0 0 3 r 181 #[vR (r+1),vN,vN,vN,vR (r+2)] t l (t+1))::(r+4,fO x i m (r+3))::R
noncomputable def cM (i j:Nat):Stmt:=match aS i with|.ClassDef _ _ _ b _ _ _ _ _ _ _=>b.getD j (.Pass ⟨0,0,0,0⟩)|_=>.Pass ⟨0,0,0,0⟩
noncomputable def Kx:UU → Sw:=fun P=>kA (3,{ cls:=Sv "dict",data:=Th #[eO P "__name__" 165 (vS "law_creasecourt_k30_corners_refused" 706),eO P "__doc__" 166 vN,eO P "__package__" 167 vN,eO P "__loader__" 168 (SJ "__main__.__loader__#opaque"),eO P "__spec__" 169 vN,eR P "__annotations__" 170 6,eR P "__builtins__" 171 4,eO P "__file__" 173 (vS "/claim/cut.py" 172),eO P "__cached__" 174 vN,eR P "CreaseError" 206 24,eR P "NoSize" 222 37,eR P "NoMark" 238 49,eR P "NoText" 254 61,eR P "NoRound" 270 73,eR P "NoOrder" 286 85,eR P "TooMany" 302 97,eR P "NoFold" 318 109,eR P "NoRow" 334 121,eR P "NoName" 350 133,eR P "Taken" 366 145,eR P "NoEdge" 391 164,eR P "Twice" 416 183,eR P "Barred" 441 202,eR P "is_whole" 450 211,eR P "is_good" 458 216,eR P "check_round" 465 223,eR P "check_order" 471 228,eR P "spots_of" 481 235,eR P "wedges_at" 489 242,eR P "heights_of" 499 249,eR P "is_between" 508 256,eR P "between_at" 514 261,eR P "reaches_beyond" 523 268,eR P "shutting_wedges" 529 273,eR P "is_shutting_crease" 539 280,eR P "shutting_creases" 545 285,eR P "shut_at" 557 292,eR P "mark_by" 568 299,eR P "marks_of" 574 304,eR P "check_row" 584 311,eR P "wedges_by" 590 316,eR P "is_crimp" 599 323,eR P "brought_ahead" 608 330,eR P "is_turned_part" 615 337,eR P "crimped" 625 344,eR P "last_two" 633 351,eR P "folded_order" 643 358,eR P "order_for" 651 365,eR P "rows_of" 657 370,eR P "all_marks" 663 375,eR P "ways_to_choose" 673 382,eR P "least_ahead" 679 387,eR P "run_of_least" 687 394,eR P "ways_to_fold" 698 401,eR P "how_many" 705 408,eR P "_law_nth" 715 415,eR P "_law_gaps" 721 420,eR P "_law_order" 732 427,eR P "_law_kinds" 738 432,eR P "_law_asked" 748 439,eR P "_law_refused" 761 446,eR P "_law_bad_gaps" 767 451,eR P "_law_bad_order" 777 458,eR P "_law_bad_marks" 786 465,eR P "law" 792 470] 65 }) <|
 kA (2,{ cls:=vN,data:=Th #[] }) <|
 kA (22,tO #[]) <|
 kA (23,{ cls:=Sv "dict",data:=Th #[eO P "__module__" 196 (vS "creasecourt.errors" 187),eO P "__firstlineno__" 200 (Tg 2 199),eR P "__static_attributes__" 201 22,eR P "__weakref__" 203 25,eO P "__doc__" 204 vN] 3 }) <|
 kA (24,{ cls:=Sv "type",data:=Ui { name:=SQ "CreaseError",bases:=[Sv "ValueError"],mro:=[vR 24,Sv "ValueError",Sv "Exception",Sv "BaseException",Sv "object"],ns:=23,qualname:=SQ "CreaseError",subclasses:=[vR 37,vR 49,vR 61,vR 73,vR 85,vR 97,vR 109,vR 121,vR 133,vR 145,vR 164,vR 183,vR 202] },slots:=#[some (vR 15),none,some (vS "CreaseError" 189),some (vS "CreaseError" 197),some (SJ "ValueError.__new__"),some (Ta true)] }) <|
 kA (25,{ cls:=Sv "getset_descriptor",data:=SR #[vS "__weakref__" 202,vR 24,SJ "ExceptionGroup.__weakref__",vN] }) <|
 kA (35,tO #[]) <|
 kA (36,{ cls:=Sv "dict",data:=Th #[eO P "__module__" 214 (vS "creasecourt.errors" 187),eO P "__firstlineno__" 218 (Tg 4 217),eR P "__static_attributes__" 219 35,eO P "__doc__" 220 vN] 2 }) <|
 kA (37,{ cls:=Sv "type",data:=Ui { name:=SQ "NoSize",bases:=[vR 24],mro:=[vR 37,vR 24,Sv "ValueError",Sv "Exception",Sv "BaseException",Sv "object"],ns:=36,qualname:=SQ "NoSize" },slots:=#[some (vR 28),none,some (vS "NoSize" 207),some (vS "NoSize" 215),some (SJ "ValueError.__new__"),some (Ta true)] }) <|
 kA (47,tO #[]) <|
 kA (48,{ cls:=Sv "dict",data:=Th #[eO P "__module__" 230 (vS "creasecourt.errors" 187),eO P "__firstlineno__" 234 (Tg 6 233),eR P "__static_attributes__" 235 47,eO P "__doc__" 236 vN] 2 }) <|
 kA (49,{ cls:=Sv "type",data:=Ui { name:=SQ "NoMark",bases:=[vR 24],mro:=[vR 49,vR 24,Sv "ValueError",Sv "Exception",Sv "BaseException",Sv "object"],ns:=48,qualname:=SQ "NoMark" },slots:=#[some (vR 40),none,some (vS "NoMark" 223),some (vS "NoMark" 231),some (SJ "ValueError.__new__"),some (Ta true)] }) <|
 kA (59,tO #[]) <|
 kA (60,{ cls:=Sv "dict",data:=Th #[eO P "__module__" 246 (vS "creasecourt.errors" 187),eO P "__firstlineno__" 250 (Tg 8 249),eR P "__static_attributes__" 251 59,eO P "__doc__" 252 vN] 2 }) <|
 kA (61,{ cls:=Sv "type",data:=Ui { name:=SQ "NoText",bases:=[vR 24],mro:=[vR 61,vR 24,Sv "ValueError",Sv "Exception",Sv "BaseException",Sv "object"],ns:=60,qualname:=SQ "NoText" },slots:=#[some (vR 52),none,some (vS "NoText" 239),some (vS "NoText" 247),some (SJ "ValueError.__new__"),some (Ta true)] }) <|
 kA (71,tO #[]) <|
 kA (72,{ cls:=Sv "dict",data:=Th #[eO P "__module__" 262 (vS "creasecourt.errors" 187),eO P "__firstlineno__" 266 (Tg 10 265),eR P "__static_attributes__" 267 71,eO P "__doc__" 268 vN] 2 }) <|
 kA (73,{ cls:=Sv "type",data:=Ui { name:=SQ "NoRound",bases:=[vR 24],mro:=[vR 73,vR 24,Sv "ValueError",Sv "Exception",Sv "BaseException",Sv "object"],ns:=72,qualname:=SQ "NoRound" },slots:=#[some (vR 64),none,some (vS "NoRound" 255),some (vS "NoRound" 263),some (SJ "ValueError.__new__"),some (Ta true)] }) <|
 kA (83,tO #[]) <|
 kA (84,{ cls:=Sv "dict",data:=Th #[eO P "__module__" 278 (vS "creasecourt.errors" 187),eO P "__firstlineno__" 282 (Tg 12 281),eR P "__static_attributes__" 283 83,eO P "__doc__" 284 vN] 2 }) <|
 kA (85,{ cls:=Sv "type",data:=Ui { name:=SQ "NoOrder",bases:=[vR 24],mro:=[vR 85,vR 24,Sv "ValueError",Sv "Exception",Sv "BaseException",Sv "object"],ns:=84,qualname:=SQ "NoOrder" },slots:=#[some (vR 76),none,some (vS "NoOrder" 271),some (vS "NoOrder" 279),some (SJ "ValueError.__new__"),some (Ta true)] }) <|
 kA (95,tO #[]) <|
 kA (96,{ cls:=Sv "dict",data:=Th #[eO P "__module__" 294 (vS "creasecourt.errors" 187),eO P "__firstlineno__" 298 (Tg 14 297),eR P "__static_attributes__" 299 95,eO P "__doc__" 300 vN] 2 }) <|
 kA (97,{ cls:=Sv "type",data:=Ui { name:=SQ "TooMany",bases:=[vR 24],mro:=[vR 97,vR 24,Sv "ValueError",Sv "Exception",Sv "BaseException",Sv "object"],ns:=96,qualname:=SQ "TooMany" },slots:=#[some (vR 88),none,some (vS "TooMany" 287),some (vS "TooMany" 295),some (SJ "ValueError.__new__"),some (Ta true)] }) <|
 kA (107,tO #[]) <|
 kA (108,{ cls:=Sv "dict",data:=Th #[eO P "__module__" 310 (vS "creasecourt.errors" 187),eO P "__firstlineno__" 314 (Tg 16 313),eR P "__static_attributes__" 315 107,eO P "__doc__" 316 vN] 2 }) <|
 kA (109,{ cls:=Sv "type",data:=Ui { name:=SQ "NoFold",bases:=[vR 24],mro:=[vR 109,vR 24,Sv "ValueError",Sv "Exception",Sv "BaseException",Sv "object"],ns:=108,qualname:=SQ "NoFold" },slots:=#[some (vR 100),none,some (vS "NoFold" 303),some (vS "NoFold" 311),some (SJ "ValueError.__new__"),some (Ta true)] }) <|
 kA (119,tO #[]) <|
 kA (120,{ cls:=Sv "dict",data:=Th #[eO P "__module__" 326 (vS "creasecourt.errors" 187),eO P "__firstlineno__" 330 (Tg 18 329),eR P "__static_attributes__" 331 119,eO P "__doc__" 332 vN] 2 }) <|
 kA (121,{ cls:=Sv "type",data:=Ui { name:=SQ "NoRow",bases:=[vR 24],mro:=[vR 121,vR 24,Sv "ValueError",Sv "Exception",Sv "BaseException",Sv "object"],ns:=120,qualname:=SQ "NoRow" },slots:=#[some (vR 112),none,some (vS "NoRow" 319),some (vS "NoRow" 327),some (SJ "ValueError.__new__"),some (Ta true)] }) <|
 kA (131,tO #[]) <|
 kA (132,{ cls:=Sv "dict",data:=Th #[eO P "__module__" 342 (vS "creasecourt.errors" 187),eO P "__firstlineno__" 346 (Tg 20 345),eR P "__static_attributes__" 347 131,eO P "__doc__" 348 vN] 2 }) <|
 kA (133,{ cls:=Sv "type",data:=Ui { name:=SQ "NoName",bases:=[vR 24],mro:=[vR 133,vR 24,Sv "ValueError",Sv "Exception",Sv "BaseException",Sv "object"],ns:=132,qualname:=SQ "NoName" },slots:=#[some (vR 124),none,some (vS "NoName" 335),some (vS "NoName" 343),some (SJ "ValueError.__new__"),some (Ta true)] }) <|
 kA (143,tO #[]) <|
 kA (144,{ cls:=Sv "dict",data:=Th #[eO P "__module__" 358 (vS "creasecourt.errors" 187),eO P "__firstlineno__" 362 (Tg 22 361),eR P "__static_attributes__" 363 143,eO P "__doc__" 364 vN] 2 }) <|
 kA (145,{ cls:=Sv "type",data:=Ui { name:=SQ "Taken",bases:=[vR 24],mro:=[vR 145,vR 24,Sv "ValueError",Sv "Exception",Sv "BaseException",Sv "object"],ns:=144,qualname:=SQ "Taken" },slots:=#[some (vR 136),none,some (vS "Taken" 351),some (vS "Taken" 359),some (SJ "ValueError.__new__"),some (Ta true)] }) <|
 kA (160,cO #[vS "__init__" 379,vS "NoEdge.__init__" 380,vS "/claim/cut.py" 381,vI 26,vI 2,vI 0,vI 0,vI 3,vR 155,Ta true,vI 181,vR 156,vN,vR 157,vR 158,vR 159,vI 384,vI 26,vS "/claim/cut.py" 385]) <|
 kA (161,⟨Sv "function",none,.func (TY "__init__" "NoEdge.__init__" (eA (cM 12 0)) (cJ (cM 12 0)) (bL (cM 12 0)) vN vN vN (vS "creasecourt.errors" 187) (none) (vR 160) vN),#[]⟩) <|
 kA (162,tO #[vS "edge" 387]) <|
 kA (163,{ cls:=Sv "dict",data:=Th #[eO P "__module__" 374 (vS "creasecourt.errors" 187),eO P "__firstlineno__" 378 (Tg 24 377),eR P "__init__" 386 161,eR P "__static_attributes__" 388 162,eO P "__doc__" 389 vN] 2 }) <|
 kA (164,{ cls:=Sv "type",data:=Ui { name:=SQ "NoEdge",bases:=[vR 24],mro:=[vR 164,vR 24,Sv "ValueError",Sv "Exception",Sv "BaseException",Sv "object"],ns:=163,qualname:=SQ "NoEdge" },slots:=#[some (vR 148),none,some (vS "NoEdge" 367),some (vS "NoEdge" 375),some (SJ "ValueError.__new__"),some (Ta true)] }) <|
 kA (179,cO #[vS "__init__" 404,vS "Twice.__init__" 405,vS "/claim/cut.py" 406,vI 31,vI 2,vI 0,vI 0,vI 3,vR 174,Ta true,vI 181,vR 175,vN,vR 176,vR 177,vR 178,vI 409,vI 31,vS "/claim/cut.py" 410]) <|
 kA (180,⟨Sv "function",none,.func (TY "__init__" "Twice.__init__" (eA (cM 13 0)) (cJ (cM 13 0)) (bL (cM 13 0)) vN vN vN (vS "creasecourt.errors" 187) (none) (vR 179) vN),#[]⟩) <|
 kA (181,tO #[vS "edge" 412]) <|
 kA (182,{ cls:=Sv "dict",data:=Th #[eO P "__module__" 399 (vS "creasecourt.errors" 187),eO P "__firstlineno__" 403 (Tg 29 402),eR P "__init__" 411 180,eR P "__static_attributes__" 413 181,eO P "__doc__" 414 vN] 2 }) <|
 kA (183,{ cls:=Sv "type",data:=Ui { name:=SQ "Twice",bases:=[vR 24],mro:=[vR 183,vR 24,Sv "ValueError",Sv "Exception",Sv "BaseException",Sv "object"],ns:=182,qualname:=SQ "Twice" },slots:=#[some (vR 167),none,some (vS "Twice" 392),some (vS "Twice" 400),some (SJ "ValueError.__new__"),some (Ta true)] }) <|
 kA (198,cO #[vS "__init__" 429,vS "Barred.__init__" 430,vS "/claim/cut.py" 431,vI 36,vI 2,vI 0,vI 0,vI 3,vR 193,Ta true,vI 181,vR 194,vN,vR 195,vR 196,vR 197,vI 434,vI 36,vS "/claim/cut.py" 435]) <|
 kA (199,⟨Sv "function",none,.func (TY "__init__" "Barred.__init__" (eA (cM 14 0)) (cJ (cM 14 0)) (bL (cM 14 0)) vN vN vN (vS "creasecourt.errors" 187) (none) (vR 198) vN),#[]⟩) <|
 kA (200,tO #[vS "corner" 437]) <|
 kA (201,{ cls:=Sv "dict",data:=Th #[eO P "__module__" 424 (vS "creasecourt.errors" 187),eO P "__firstlineno__" 428 (Tg 34 427),eR P "__init__" 436 199,eR P "__static_attributes__" 438 200,eO P "__doc__" 439 vN] 2 }) <|
 kA (202,{ cls:=Sv "type",data:=Ui { name:=SQ "Barred",bases:=[vR 24],mro:=[vR 202,vR 24,Sv "ValueError",Sv "Exception",Sv "BaseException",Sv "object"],ns:=201,qualname:=SQ "Barred" },slots:=#[some (vR 186),none,some (vS "Barred" 417),some (vS "Barred" 425),some (SJ "ValueError.__new__"),some (Ta true)] }) <|
 kF "is_whole" 205 444 40 1 448 16 (vM 0) <|
 kG "is_good" 212 453 43 1 456 18 (vM 1) <|
 kF "check_round" 217 459 49 1 463 19 (vM 1) <|
 kG "check_order" 224 466 52 2 469 20 (vM 1) <|
 kF "spots_of" 229 472 55 1 479 21 (vM 1) <|
 kF "wedges_at" 236 482 61 2 487 22 (vM 1) <|
 kF "heights_of" 243 490 63 1 497 23 (vM 1) <|
 kF "is_between" 250 500 68 3 506 24 (vM 1) <|
 kG "between_at" 257 509 70 3 512 25 (vM 1) <|
 kF "reaches_beyond" 262 515 74 3 521 26 (vM 1) <|
 kG "shutting_wedges" 269 524 76 3 527 27 (vM 1) <|
 kF "is_shutting_crease" 274 530 79 4 537 28 (vM 1) <|
 kG "shutting_creases" 281 540 83 3 543 29 (vM 1) <|
 kF "shut_at" 286 546 85 2 555 30 (vM 1) <|
 kF "mark_by" 293 558 96 2 566 31 (vM 1) <|
 kG "marks_of" 300 569 101 2 572 32 (vM 1) <|
 kF "check_row" 305 577 107 2 582 34 (vM 2) <|
 kG "wedges_by" 312 585 110 2 588 35 (vM 2) <|
 kF "is_crimp" 317 591 112 3 597 36 (vM 2) <|
 kF "brought_ahead" 324 600 114 1 606 37 (vM 2) <|
 kF "is_turned_part" 331 609 120 1 613 38 (vM 2) <|
 kF "crimped" 338 616 122 3 623 39 (vM 2) <|
 kF "last_two" 345 626 127 2 631 40 (vM 2) <|
 kF "folded_order" 352 634 133 2 641 41 (vM 2) <|
 kF "order_for" 359 644 141 2 649 42 (vM 2) <|
 kG "rows_of" 366 652 145 1 655 43 (vM 2) <|
 kG "all_marks" 371 658 150 1 661 44 (vM 2) <|
 kF "ways_to_choose" 376 664 153 2 671 45 (vM 2) <|
 kG "least_ahead" 383 674 158 1 677 46 (vM 2) <|
 kF "run_of_least" 388 680 162 1 685 47 (vM 2) <|
 kF "ways_to_fold" 395 688 167 1 696 48 (vM 2) <|
 kF "how_many" 402 699 177 1 703 49 (vM 2) <|
 kF "_law_nth" 409 708 181 2 713 51 (vM 3) <|
 kG "_law_gaps" 416 716 183 2 719 52 (vM 3) <|
 kF "_law_order" 421 722 199 3 730 53 (vM 3) <|
 kG "_law_kinds" 428 733 204 1 736 54 (vM 3) <|
 kF "_law_asked" 433 739 210 4 746 55 (vM 3) <|
 kF "_law_refused" 440 749 223 4 759 56 (vM 3) <|
 kG "_law_bad_gaps" 447 762 233 2 765 57 (vM 3) <|
 kF "_law_bad_order" 452 768 247 2 775 58 (vM 3) <|
 kF "_law_bad_marks" 459 778 263 2 784 59 (vM 3) <|
 kG "law" 466 787 272 1 790 60 (vM 3) <| []
noncomputable def As:List Addr:=[3,2,22,23,24,25,35,36,37,47,48,49,59,60,61,71,72,73,83,84,85,95,96,97,107,108,109,119,120,121,131,132,133,143,144,145,160,161,162,163,164,179,180,181,182,183,198,199,200,201,202,210,211,215,216,222,223,227,228,234,235,241,242,248,249,255,256,260,261,267,268,272,273,279,280,284,285,291,292,298,299,303,304,310,311,315,316,322,323,329,330,336,337,343,344,350,351,357,358,364,365,369,370,374,375,381,382,386,387,393,394,400,401,407,408,414,415,419,420,426,427,431,432,438,439,445,446,450,451,457,458,464,465,469,470]
theorem oZ:∀ P,As=(Kx P).map (·.1):=fun _=>by kernel_rfl
open PySem.W in
noncomputable def lA (P:UU):List Obj:=((boot_o_0 P)::(boot_o_1 P)::(boot_o_2 P)::(boot_o_3 P)::(boot_o_4 P)::(boot_o_5 P)::(boot_o_6 P)::(boot_o_7 P)::(boot_o_8 P)::(boot_o_9 P)::(boot_o_10 P)::(tO #[])::({ cls:=vN,data:=SR #[] })::(cO #[vS "<module>" 182,vS "<module>" 183,vS "/claim/cut.py" 184,vI 1,vI 0,vI 0,vI 0,vI 0,vR 11,Ta false,vI 181,vR 12,vN,vN,vN,vN,vI 185,vI 1,vS "/claim/cut.py" 186])::({ cls:=Sv "frame",slots:=#[some (vR 13),some (vR 3),some (vR 3),none,some (vS "__main__" 164),none,some (vR 0)] })::[])
open PySem.W in
noncomputable def lB (P:UU):List Obj:=(((lA P).set 3 ({ cls:=Sv "dict",data:=Th #[eO P "__name__" 165 (vS "creasecourt.errors" 187),eO P "__doc__" 166 vN,eO P "__package__" 167 vN,eO P "__loader__" 168 (SJ "__main__.__loader__#opaque"),eO P "__spec__" 169 vN,eR P "__annotations__" 170 6,eR P "__builtins__" 171 4,eO P "__file__" 173 (vS "/claim/cut.py" 172),eO P "__cached__" 174 vN,eR P "CreaseError" 206 24,eR P "NoSize" 222 37,eR P "NoMark" 238 49,eR P "NoText" 254 61,eR P "NoRound" 270 73,eR P "NoOrder" 286 85,eR P "TooMany" 302 97] 16 })).set 12 ({ cls:=vN,data:=SR #[vI 2,vI 0,vR 20,vI 4,vI 0,vR 33,vI 6,vI 0,vR 45,vI 8,vI 0,vR 57,vI 10,vI 0,vR 69,vI 12,vI 0,vR 81,vI 14,vI 0,vR 93] }))++((tO #[Sv "ValueError"])::({ cls:=Sv "builtin_function_or_method",data:=SR #[SJ "type.__prepare__",Sv "type"] })::({ cls:=Sv "dict",data:=Th #[eO P "__module__" 196 (vS "creasecourt.errors" 187),eO P "__qualname__" 198 (vS "CreaseError" 197),eO P "__firstlineno__" 200 (Tg 2 199),eR P "__static_attributes__" 201 22] 4 })::(tO #[])::({ cls:=vN,data:=SR #[] })::(cO #[vS "CreaseError" 191,vS "CreaseError" 192,vS "/claim/cut.py" 193,vI 2,vI 0,vI 0,vI 0,vI 0,vR 18,Ta false,vI 181,vR 19,vN,vN,vN,vN,vI 194,vI 2,vS "/claim/cut.py" 195])::({ cls:=Sv "frame",slots:=#[some (vR 20),some (vR 3),some (vR 17),none,some (vS "creasecourt.errors" 187),none,some (vR 0)] })::(tO #[])::({ cls:=Sv "dict",data:=Th #[eO P "__module__" 196 (vS "creasecourt.errors" 187),eO P "__firstlineno__" 200 (Tg 2 199),eR P "__static_attributes__" 201 22,eR P "__weakref__" 203 25,eO P "__doc__" 204 vN] 3 })::({ cls:=Sv "type",data:=Ui { name:=SQ "CreaseError",bases:=[Sv "ValueError"],mro:=[vR 24,Sv "ValueError",Sv "Exception",Sv "BaseException",Sv "object"],ns:=23,qualname:=SQ "CreaseError",subclasses:=[vR 37,vR 49,vR 61,vR 73,vR 85,vR 97] },slots:=#[some (vR 15),none,some (vS "CreaseError" 189),some (vS "CreaseError" 197),some (SJ "ValueError.__new__"),some (Ta true)] })::({ cls:=Sv "getset_descriptor",data:=SR #[vS "__weakref__" 202,vR 24,SJ "ExceptionGroup.__weakref__",vN] })::({ cls:=Sv "super",data:=SR #[vR 24,vR 24,vR 24] })::({ cls:=Sv "builtin_function_or_method",data:=SR #[SJ "object.__init_subclass__",vR 24] })::(tO #[vR 24])::({ cls:=Sv "builtin_function_or_method",data:=SR #[SJ "type.__prepare__",Sv "type"] })::({ cls:=Sv "dict",data:=Th #[eO P "__module__" 214 (vS "creasecourt.errors" 187),eO P "__qualname__" 216 (vS "NoSize" 215),eO P "__firstlineno__" 218 (Tg 4 217),eR P "__static_attributes__" 219 35] 4 })::(tO #[])::({ cls:=vN,data:=SR #[] })::(cO #[vS "NoSize" 209,vS "NoSize" 210,vS "/claim/cut.py" 211,vI 4,vI 0,vI 0,vI 0,vI 0,vR 31,Ta false,vI 181,vR 32,vN,vN,vN,vN,vI 212,vI 4,vS "/claim/cut.py" 213])::({ cls:=Sv "frame",slots:=#[some (vR 33),some (vR 3),some (vR 30),none,some (vS "creasecourt.errors" 187),none,some (vR 0)] })::(tO #[])::({ cls:=Sv "dict",data:=Th #[eO P "__module__" 214 (vS "creasecourt.errors" 187),eO P "__firstlineno__" 218 (Tg 4 217),eR P "__static_attributes__" 219 35,eO P "__doc__" 220 vN] 2 })::({ cls:=Sv "type",data:=Ui { name:=SQ "NoSize",bases:=[vR 24],mro:=[vR 37,vR 24,Sv "ValueError",Sv "Exception",Sv "BaseException",Sv "object"],ns:=36,qualname:=SQ "NoSize" },slots:=#[some (vR 28),none,some (vS "NoSize" 207),some (vS "NoSize" 215),some (SJ "ValueError.__new__"),some (Ta true)] })::({ cls:=Sv "super",data:=SR #[vR 37,vR 37,vR 37] })::({ cls:=Sv "builtin_function_or_method",data:=SR #[SJ "object.__init_subclass__",vR 37] })::(tO #[vR 24])::({ cls:=Sv "builtin_function_or_method",data:=SR #[SJ "type.__prepare__",Sv "type"] })::({ cls:=Sv "dict",data:=Th #[eO P "__module__" 230 (vS "creasecourt.errors" 187),eO P "__qualname__" 232 (vS "NoMark" 231),eO P "__firstlineno__" 234 (Tg 6 233),eR P "__static_attributes__" 235 47] 4 })::(tO #[])::({ cls:=vN,data:=SR #[] })::(cO #[vS "NoMark" 225,vS "NoMark" 226,vS "/claim/cut.py" 227,vI 6,vI 0,vI 0,vI 0,vI 0,vR 43,Ta false,vI 181,vR 44,vN,vN,vN,vN,vI 228,vI 6,vS "/claim/cut.py" 229])::({ cls:=Sv "frame",slots:=#[some (vR 45),some (vR 3),some (vR 42),none,some (vS "creasecourt.errors" 187),none,some (vR 0)] })::(tO #[])::({ cls:=Sv "dict",data:=Th #[eO P "__module__" 230 (vS "creasecourt.errors" 187),eO P "__firstlineno__" 234 (Tg 6 233),eR P "__static_attributes__" 235 47,eO P "__doc__" 236 vN] 2 })::({ cls:=Sv "type",data:=Ui { name:=SQ "NoMark",bases:=[vR 24],mro:=[vR 49,vR 24,Sv "ValueError",Sv "Exception",Sv "BaseException",Sv "object"],ns:=48,qualname:=SQ "NoMark" },slots:=#[some (vR 40),none,some (vS "NoMark" 223),some (vS "NoMark" 231),some (SJ "ValueError.__new__"),some (Ta true)] })::({ cls:=Sv "super",data:=SR #[vR 49,vR 49,vR 49] })::({ cls:=Sv "builtin_function_or_method",data:=SR #[SJ "object.__init_subclass__",vR 49] })::(tO #[vR 24])::({ cls:=Sv "builtin_function_or_method",data:=SR #[SJ "type.__prepare__",Sv "type"] })::({ cls:=Sv "dict",data:=Th #[eO P "__module__" 246 (vS "creasecourt.errors" 187),eO P "__qualname__" 248 (vS "NoText" 247),eO P "__firstlineno__" 250 (Tg 8 249),eR P "__static_attributes__" 251 59] 4 })::(tO #[])::({ cls:=vN,data:=SR #[] })::(cO #[vS "NoText" 241,vS "NoText" 242,vS "/claim/cut.py" 243,vI 8,vI 0,vI 0,vI 0,vI 0,vR 55,Ta false,vI 181,vR 56,vN,vN,vN,vN,vI 244,vI 8,vS "/claim/cut.py" 245])::({ cls:=Sv "frame",slots:=#[some (vR 57),some (vR 3),some (vR 54),none,some (vS "creasecourt.errors" 187),none,some (vR 0)] })::(tO #[])::({ cls:=Sv "dict",data:=Th #[eO P "__module__" 246 (vS "creasecourt.errors" 187),eO P "__firstlineno__" 250 (Tg 8 249),eR P "__static_attributes__" 251 59,eO P "__doc__" 252 vN] 2 })::({ cls:=Sv "type",data:=Ui { name:=SQ "NoText",bases:=[vR 24],mro:=[vR 61,vR 24,Sv "ValueError",Sv "Exception",Sv "BaseException",Sv "object"],ns:=60,qualname:=SQ "NoText" },slots:=#[some (vR 52),none,some (vS "NoText" 239),some (vS "NoText" 247),some (SJ "ValueError.__new__"),some (Ta true)] })::({ cls:=Sv "super",data:=SR #[vR 61,vR 61,vR 61] })::({ cls:=Sv "builtin_function_or_method",data:=SR #[SJ "object.__init_subclass__",vR 61] })::(tO #[vR 24])::({ cls:=Sv "builtin_function_or_method",data:=SR #[SJ "type.__prepare__",Sv "type"] })::({ cls:=Sv "dict",data:=Th #[eO P "__module__" 262 (vS "creasecourt.errors" 187),eO P "__qualname__" 264 (vS "NoRound" 263),eO P "__firstlineno__" 266 (Tg 10 265),eR P "__static_attributes__" 267 71] 4 })::(tO #[])::({ cls:=vN,data:=SR #[] })::(cO #[vS "NoRound" 257,vS "NoRound" 258,vS "/claim/cut.py" 259,vI 10,vI 0,vI 0,vI 0,vI 0,vR 67,Ta false,vI 181,vR 68,vN,vN,vN,vN,vI 260,vI 10,vS "/claim/cut.py" 261])::({ cls:=Sv "frame",slots:=#[some (vR 69),some (vR 3),some (vR 66),none,some (vS "creasecourt.errors" 187),none,some (vR 0)] })::(tO #[])::({ cls:=Sv "dict",data:=Th #[eO P "__module__" 262 (vS "creasecourt.errors" 187),eO P "__firstlineno__" 266 (Tg 10 265),eR P "__static_attributes__" 267 71,eO P "__doc__" 268 vN] 2 })::({ cls:=Sv "type",data:=Ui { name:=SQ "NoRound",bases:=[vR 24],mro:=[vR 73,vR 24,Sv "ValueError",Sv "Exception",Sv "BaseException",Sv "object"],ns:=72,qualname:=SQ "NoRound" },slots:=#[some (vR 64),none,some (vS "NoRound" 255),some (vS "NoRound" 263),some (SJ "ValueError.__new__"),some (Ta true)] })::({ cls:=Sv "super",data:=SR #[vR 73,vR 73,vR 73] })::({ cls:=Sv "builtin_function_or_method",data:=SR #[SJ "object.__init_subclass__",vR 73] })::(tO #[vR 24])::({ cls:=Sv "builtin_function_or_method",data:=SR #[SJ "type.__prepare__",Sv "type"] })::({ cls:=Sv "dict",data:=Th #[eO P "__module__" 278 (vS "creasecourt.errors" 187),eO P "__qualname__" 280 (vS "NoOrder" 279),eO P "__firstlineno__" 282 (Tg 12 281),eR P "__static_attributes__" 283 83] 4 })::(tO #[])::({ cls:=vN,data:=SR #[] })::(cO #[vS "NoOrder" 273,vS "NoOrder" 274,vS "/claim/cut.py" 275,vI 12,vI 0,vI 0,vI 0,vI 0,vR 79,Ta false,vI 181,vR 80,vN,vN,vN,vN,vI 276,vI 12,vS "/claim/cut.py" 277])::({ cls:=Sv "frame",slots:=#[some (vR 81),some (vR 3),some (vR 78),none,some (vS "creasecourt.errors" 187),none,some (vR 0)] })::(tO #[])::({ cls:=Sv "dict",data:=Th #[eO P "__module__" 278 (vS "creasecourt.errors" 187),eO P "__firstlineno__" 282 (Tg 12 281),eR P "__static_attributes__" 283 83,eO P "__doc__" 284 vN] 2 })::({ cls:=Sv "type",data:=Ui { name:=SQ "NoOrder",bases:=[vR 24],mro:=[vR 85,vR 24,Sv "ValueError",Sv "Exception",Sv "BaseException",Sv "object"],ns:=84,qualname:=SQ "NoOrder" },slots:=#[some (vR 76),none,some (vS "NoOrder" 271),some (vS "NoOrder" 279),some (SJ "ValueError.__new__"),some (Ta true)] })::({ cls:=Sv "super",data:=SR #[vR 85,vR 85,vR 85] })::({ cls:=Sv "builtin_function_or_method",data:=SR #[SJ "object.__init_subclass__",vR 85] })::(tO #[vR 24])::({ cls:=Sv "builtin_function_or_method",data:=SR #[SJ "type.__prepare__",Sv "type"] })::({ cls:=Sv "dict",data:=Th #[eO P "__module__" 294 (vS "creasecourt.errors" 187),eO P "__qualname__" 296 (vS "TooMany" 295),eO P "__firstlineno__" 298 (Tg 14 297),eR P "__static_attributes__" 299 95] 4 })::(tO #[])::({ cls:=vN,data:=SR #[] })::(cO #[vS "TooMany" 289,vS "TooMany" 290,vS "/claim/cut.py" 291,vI 14,vI 0,vI 0,vI 0,vI 0,vR 91,Ta false,vI 181,vR 92,vN,vN,vN,vN,vI 292,vI 14,vS "/claim/cut.py" 293])::({ cls:=Sv "frame",slots:=#[some (vR 93),some (vR 3),some (vR 90),none,some (vS "creasecourt.errors" 187),none,some (vR 0)] })::(tO #[])::({ cls:=Sv "dict",data:=Th #[eO P "__module__" 294 (vS "creasecourt.errors" 187),eO P "__firstlineno__" 298 (Tg 14 297),eR P "__static_attributes__" 299 95,eO P "__doc__" 300 vN] 2 })::({ cls:=Sv "type",data:=Ui { name:=SQ "TooMany",bases:=[vR 24],mro:=[vR 97,vR 24,Sv "ValueError",Sv "Exception",Sv "BaseException",Sv "object"],ns:=96,qualname:=SQ "TooMany" },slots:=#[some (vR 88),none,some (vS "TooMany" 287),some (vS "TooMany" 295),some (SJ "ValueError.__new__"),some (Ta true)] })::({ cls:=Sv "super",data:=SR #[vR 97,vR 97,vR 97] })::({ cls:=Sv "builtin_function_or_method",data:=SR #[SJ "object.__init_subclass__",vR 97] })::[])
open PySem.W in
noncomputable def lC (P:UU):List Obj:=((((lB P).set 3 ({ cls:=Sv "dict",data:=Th #[eO P "__name__" 165 (vS "creasecourt.errors" 187),eO P "__doc__" 166 vN,eO P "__package__" 167 vN,eO P "__loader__" 168 (SJ "__main__.__loader__#opaque"),eO P "__spec__" 169 vN,eR P "__annotations__" 170 6,eR P "__builtins__" 171 4,eO P "__file__" 173 (vS "/claim/cut.py" 172),eO P "__cached__" 174 vN,eR P "CreaseError" 206 24,eR P "NoSize" 222 37,eR P "NoMark" 238 49,eR P "NoText" 254 61,eR P "NoRound" 270 73,eR P "NoOrder" 286 85,eR P "TooMany" 302 97,eR P "NoFold" 318 109,eR P "NoRow" 334 121,eR P "NoName" 350 133,eR P "Taken" 366 145,eR P "NoEdge" 391 164,eR P "Twice" 416 183,eR P "Barred" 441 202] 23 })).set 12 ({ cls:=vN,data:=SR #[vI 2,vI 0,vR 20,vI 4,vI 0,vR 33,vI 6,vI 0,vR 45,vI 8,vI 0,vR 57,vI 10,vI 0,vR 69,vI 12,vI 0,vR 81,vI 14,vI 0,vR 93,vI 16,vI 0,vR 105,vI 18,vI 0,vR 117,vI 20,vI 0,vR 129,vI 22,vI 0,vR 141,vI 24,vI 0,vR 153,vI 29,vI 0,vR 172,vI 34,vI 0,vR 191] })).set 24 ({ cls:=Sv "type",data:=Ui { name:=SQ "CreaseError",bases:=[Sv "ValueError"],mro:=[vR 24,Sv "ValueError",Sv "Exception",Sv "BaseException",Sv "object"],ns:=23,qualname:=SQ "CreaseError",subclasses:=[vR 37,vR 49,vR 61,vR 73,vR 85,vR 97,vR 109,vR 121,vR 133,vR 145,vR 164,vR 183,vR 202] },slots:=#[some (vR 15),none,some (vS "CreaseError" 189),some (vS "CreaseError" 197),some (SJ "ValueError.__new__"),some (Ta true)] }))++((tO #[vR 24])::({ cls:=Sv "builtin_function_or_method",data:=SR #[SJ "type.__prepare__",Sv "type"] })::({ cls:=Sv "dict",data:=Th #[eO P "__module__" 310 (vS "creasecourt.errors" 187),eO P "__qualname__" 312 (vS "NoFold" 311),eO P "__firstlineno__" 314 (Tg 16 313),eR P "__static_attributes__" 315 107] 4 })::(tO #[])::({ cls:=vN,data:=SR #[] })::(cO #[vS "NoFold" 305,vS "NoFold" 306,vS "/claim/cut.py" 307,vI 16,vI 0,vI 0,vI 0,vI 0,vR 103,Ta false,vI 181,vR 104,vN,vN,vN,vN,vI 308,vI 16,vS "/claim/cut.py" 309])::({ cls:=Sv "frame",slots:=#[some (vR 105),some (vR 3),some (vR 102),none,some (vS "creasecourt.errors" 187),none,some (vR 0)] })::(tO #[])::({ cls:=Sv "dict",data:=Th #[eO P "__module__" 310 (vS "creasecourt.errors" 187),eO P "__firstlineno__" 314 (Tg 16 313),eR P "__static_attributes__" 315 107,eO P "__doc__" 316 vN] 2 })::({ cls:=Sv "type",data:=Ui { name:=SQ "NoFold",bases:=[vR 24],mro:=[vR 109,vR 24,Sv "ValueError",Sv "Exception",Sv "BaseException",Sv "object"],ns:=108,qualname:=SQ "NoFold" },slots:=#[some (vR 100),none,some (vS "NoFold" 303),some (vS "NoFold" 311),some (SJ "ValueError.__new__"),some (Ta true)] })::({ cls:=Sv "super",data:=SR #[vR 109,vR 109,vR 109] })::({ cls:=Sv "builtin_function_or_method",data:=SR #[SJ "object.__init_subclass__",vR 109] })::(tO #[vR 24])::({ cls:=Sv "builtin_function_or_method",data:=SR #[SJ "type.__prepare__",Sv "type"] })::({ cls:=Sv "dict",data:=Th #[eO P "__module__" 326 (vS "creasecourt.errors" 187),eO P "__qualname__" 328 (vS "NoRow" 327),eO P "__firstlineno__" 330 (Tg 18 329),eR P "__static_attributes__" 331 119] 4 })::(tO #[])::({ cls:=vN,data:=SR #[] })::(cO #[vS "NoRow" 321,vS "NoRow" 322,vS "/claim/cut.py" 323,vI 18,vI 0,vI 0,vI 0,vI 0,vR 115,Ta false,vI 181,vR 116,vN,vN,vN,vN,vI 324,vI 18,vS "/claim/cut.py" 325])::({ cls:=Sv "frame",slots:=#[some (vR 117),some (vR 3),some (vR 114),none,some (vS "creasecourt.errors" 187),none,some (vR 0)] })::(tO #[])::({ cls:=Sv "dict",data:=Th #[eO P "__module__" 326 (vS "creasecourt.errors" 187),eO P "__firstlineno__" 330 (Tg 18 329),eR P "__static_attributes__" 331 119,eO P "__doc__" 332 vN] 2 })::({ cls:=Sv "type",data:=Ui { name:=SQ "NoRow",bases:=[vR 24],mro:=[vR 121,vR 24,Sv "ValueError",Sv "Exception",Sv "BaseException",Sv "object"],ns:=120,qualname:=SQ "NoRow" },slots:=#[some (vR 112),none,some (vS "NoRow" 319),some (vS "NoRow" 327),some (SJ "ValueError.__new__"),some (Ta true)] })::({ cls:=Sv "super",data:=SR #[vR 121,vR 121,vR 121] })::({ cls:=Sv "builtin_function_or_method",data:=SR #[SJ "object.__init_subclass__",vR 121] })::(tO #[vR 24])::({ cls:=Sv "builtin_function_or_method",data:=SR #[SJ "type.__prepare__",Sv "type"] })::({ cls:=Sv "dict",data:=Th #[eO P "__module__" 342 (vS "creasecourt.errors" 187),eO P "__qualname__" 344 (vS "NoName" 343),eO P "__firstlineno__" 346 (Tg 20 345),eR P "__static_attributes__" 347 131] 4 })::(tO #[])::({ cls:=vN,data:=SR #[] })::(cO #[vS "NoName" 337,vS "NoName" 338,vS "/claim/cut.py" 339,vI 20,vI 0,vI 0,vI 0,vI 0,vR 127,Ta false,vI 181,vR 128,vN,vN,vN,vN,vI 340,vI 20,vS "/claim/cut.py" 341])::({ cls:=Sv "frame",slots:=#[some (vR 129),some (vR 3),some (vR 126),none,some (vS "creasecourt.errors" 187),none,some (vR 0)] })::(tO #[])::({ cls:=Sv "dict",data:=Th #[eO P "__module__" 342 (vS "creasecourt.errors" 187),eO P "__firstlineno__" 346 (Tg 20 345),eR P "__static_attributes__" 347 131,eO P "__doc__" 348 vN] 2 })::({ cls:=Sv "type",data:=Ui { name:=SQ "NoName",bases:=[vR 24],mro:=[vR 133,vR 24,Sv "ValueError",Sv "Exception",Sv "BaseException",Sv "object"],ns:=132,qualname:=SQ "NoName" },slots:=#[some (vR 124),none,some (vS "NoName" 335),some (vS "NoName" 343),some (SJ "ValueError.__new__"),some (Ta true)] })::({ cls:=Sv "super",data:=SR #[vR 133,vR 133,vR 133] })::({ cls:=Sv "builtin_function_or_method",data:=SR #[SJ "object.__init_subclass__",vR 133] })::(tO #[vR 24])::({ cls:=Sv "builtin_function_or_method",data:=SR #[SJ "type.__prepare__",Sv "type"] })::({ cls:=Sv "dict",data:=Th #[eO P "__module__" 358 (vS "creasecourt.errors" 187),eO P "__qualname__" 360 (vS "Taken" 359),eO P "__firstlineno__" 362 (Tg 22 361),eR P "__static_attributes__" 363 143] 4 })::(tO #[])::({ cls:=vN,data:=SR #[] })::(cO #[vS "Taken" 353,vS "Taken" 354,vS "/claim/cut.py" 355,vI 22,vI 0,vI 0,vI 0,vI 0,vR 139,Ta false,vI 181,vR 140,vN,vN,vN,vN,vI 356,vI 22,vS "/claim/cut.py" 357])::({ cls:=Sv "frame",slots:=#[some (vR 141),some (vR 3),some (vR 138),none,some (vS "creasecourt.errors" 187),none,some (vR 0)] })::(tO #[])::({ cls:=Sv "dict",data:=Th #[eO P "__module__" 358 (vS "creasecourt.errors" 187),eO P "__firstlineno__" 362 (Tg 22 361),eR P "__static_attributes__" 363 143,eO P "__doc__" 364 vN] 2 })::({ cls:=Sv "type",data:=Ui { name:=SQ "Taken",bases:=[vR 24],mro:=[vR 145,vR 24,Sv "ValueError",Sv "Exception",Sv "BaseException",Sv "object"],ns:=144,qualname:=SQ "Taken" },slots:=#[some (vR 136),none,some (vS "Taken" 351),some (vS "Taken" 359),some (SJ "ValueError.__new__"),some (Ta true)] })::({ cls:=Sv "super",data:=SR #[vR 145,vR 145,vR 145] })::({ cls:=Sv "builtin_function_or_method",data:=SR #[SJ "object.__init_subclass__",vR 145] })::(tO #[vR 24])::({ cls:=Sv "builtin_function_or_method",data:=SR #[SJ "type.__prepare__",Sv "type"] })::({ cls:=Sv "dict",data:=Th #[eO P "__module__" 374 (vS "creasecourt.errors" 187),eO P "__qualname__" 376 (vS "NoEdge" 375),eO P "__firstlineno__" 378 (Tg 24 377),eR P "__init__" 386 161,eR P "__static_attributes__" 388 162] 5 })::(tO #[])::({ cls:=vN,data:=SR #[vI 26,vI 4,vR 160] })::(cO #[vS "NoEdge" 369,vS "NoEdge" 370,vS "/claim/cut.py" 371,vI 24,vI 0,vI 0,vI 0,vI 0,vR 151,Ta false,vI 181,vR 152,vN,vN,vN,vN,vI 372,vI 24,vS "/claim/cut.py" 373])::({ cls:=Sv "frame",slots:=#[some (vR 153),some (vR 3),some (vR 150),none,some (vS "creasecourt.errors" 187),none,some (vR 0)] })::(tO #[])::({ cls:=vN,data:=SR #[] })::(tO #[vS "self" 382,vS "edge" 383])::(tO #[])::(⟨vN,none,.func ({ TY "__init__" "NoEdge.__init__" (eA (cM 12 0)) (cJ (cM 12 0)) (bL (cM 12 0)) vN vN vN vN (none) vN vN with globals:=0 }),#[]⟩)::(cO #[vS "__init__" 379,vS "NoEdge.__init__" 380,vS "/claim/cut.py" 381,vI 26,vI 2,vI 0,vI 0,vI 3,vR 155,Ta true,vI 181,vR 156,vN,vR 157,vR 158,vR 159,vI 384,vI 26,vS "/claim/cut.py" 385])::(⟨Sv "function",none,.func (TY "__init__" "NoEdge.__init__" (eA (cM 12 0)) (cJ (cM 12 0)) (bL (cM 12 0)) vN vN vN (vS "creasecourt.errors" 187) (none) (vR 160) vN),#[]⟩)::(tO #[vS "edge" 387])::({ cls:=Sv "dict",data:=Th #[eO P "__module__" 374 (vS "creasecourt.errors" 187),eO P "__firstlineno__" 378 (Tg 24 377),eR P "__init__" 386 161,eR P "__static_attributes__" 388 162,eO P "__doc__" 389 vN] 2 })::({ cls:=Sv "type",data:=Ui { name:=SQ "NoEdge",bases:=[vR 24],mro:=[vR 164,vR 24,Sv "ValueError",Sv "Exception",Sv "BaseException",Sv "object"],ns:=163,qualname:=SQ "NoEdge" },slots:=#[some (vR 148),none,some (vS "NoEdge" 367),some (vS "NoEdge" 375),some (SJ "ValueError.__new__"),some (Ta true)] })::({ cls:=Sv "super",data:=SR #[vR 164,vR 164,vR 164] })::({ cls:=Sv "builtin_function_or_method",data:=SR #[SJ "object.__init_subclass__",vR 164] })::(tO #[vR 24])::({ cls:=Sv "builtin_function_or_method",data:=SR #[SJ "type.__prepare__",Sv "type"] })::({ cls:=Sv "dict",data:=Th #[eO P "__module__" 399 (vS "creasecourt.errors" 187),eO P "__qualname__" 401 (vS "Twice" 400),eO P "__firstlineno__" 403 (Tg 29 402),eR P "__init__" 411 180,eR P "__static_attributes__" 413 181] 5 })::(tO #[])::({ cls:=vN,data:=SR #[vI 31,vI 4,vR 179] })::(cO #[vS "Twice" 394,vS "Twice" 395,vS "/claim/cut.py" 396,vI 29,vI 0,vI 0,vI 0,vI 0,vR 170,Ta false,vI 181,vR 171,vN,vN,vN,vN,vI 397,vI 29,vS "/claim/cut.py" 398])::({ cls:=Sv "frame",slots:=#[some (vR 172),some (vR 3),some (vR 169),none,some (vS "creasecourt.errors" 187),none,some (vR 0)] })::(tO #[])::({ cls:=vN,data:=SR #[] })::(tO #[vS "self" 407,vS "edge" 408])::(tO #[])::(⟨vN,none,.func ({ TY "__init__" "Twice.__init__" (eA (cM 13 0)) (cJ (cM 13 0)) (bL (cM 13 0)) vN vN vN vN (none) vN vN with globals:=0 }),#[]⟩)::(cO #[vS "__init__" 404,vS "Twice.__init__" 405,vS "/claim/cut.py" 406,vI 31,vI 2,vI 0,vI 0,vI 3,vR 174,Ta true,vI 181,vR 175,vN,vR 176,vR 177,vR 178,vI 409,vI 31,vS "/claim/cut.py" 410])::(⟨Sv "function",none,.func (TY "__init__" "Twice.__init__" (eA (cM 13 0)) (cJ (cM 13 0)) (bL (cM 13 0)) vN vN vN (vS "creasecourt.errors" 187) (none) (vR 179) vN),#[]⟩)::(tO #[vS "edge" 412])::({ cls:=Sv "dict",data:=Th #[eO P "__module__" 399 (vS "creasecourt.errors" 187),eO P "__firstlineno__" 403 (Tg 29 402),eR P "__init__" 411 180,eR P "__static_attributes__" 413 181,eO P "__doc__" 414 vN] 2 })::({ cls:=Sv "type",data:=Ui { name:=SQ "Twice",bases:=[vR 24],mro:=[vR 183,vR 24,Sv "ValueError",Sv "Exception",Sv "BaseException",Sv "object"],ns:=182,qualname:=SQ "Twice" },slots:=#[some (vR 167),none,some (vS "Twice" 392),some (vS "Twice" 400),some (SJ "ValueError.__new__"),some (Ta true)] })::({ cls:=Sv "super",data:=SR #[vR 183,vR 183,vR 183] })::({ cls:=Sv "builtin_function_or_method",data:=SR #[SJ "object.__init_subclass__",vR 183] })::(tO #[vR 24])::({ cls:=Sv "builtin_function_or_method",data:=SR #[SJ "type.__prepare__",Sv "type"] })::({ cls:=Sv "dict",data:=Th #[eO P "__module__" 424 (vS "creasecourt.errors" 187),eO P "__qualname__" 426 (vS "Barred" 425),eO P "__firstlineno__" 428 (Tg 34 427),eR P "__init__" 436 199,eR P "__static_attributes__" 438 200] 5 })::(tO #[])::({ cls:=vN,data:=SR #[vI 36,vI 4,vR 198] })::(cO #[vS "Barred" 419,vS "Barred" 420,vS "/claim/cut.py" 421,vI 34,vI 0,vI 0,vI 0,vI 0,vR 189,Ta false,vI 181,vR 190,vN,vN,vN,vN,vI 422,vI 34,vS "/claim/cut.py" 423])::({ cls:=Sv "frame",slots:=#[some (vR 191),some (vR 3),some (vR 188),none,some (vS "creasecourt.errors" 187),none,some (vR 0)] })::(tO #[])::({ cls:=vN,data:=SR #[] })::(tO #[vS "self" 432,vS "corner" 433])::(tO #[])::(⟨vN,none,.func ({ TY "__init__" "Barred.__init__" (eA (cM 14 0)) (cJ (cM 14 0)) (bL (cM 14 0)) vN vN vN vN (none) vN vN with globals:=0 }),#[]⟩)::(cO #[vS "__init__" 429,vS "Barred.__init__" 430,vS "/claim/cut.py" 431,vI 36,vI 2,vI 0,vI 0,vI 3,vR 193,Ta true,vI 181,vR 194,vN,vR 195,vR 196,vR 197,vI 434,vI 36,vS "/claim/cut.py" 435])::(⟨Sv "function",none,.func (TY "__init__" "Barred.__init__" (eA (cM 14 0)) (cJ (cM 14 0)) (bL (cM 14 0)) vN vN vN (vS "creasecourt.errors" 187) (none) (vR 198) vN),#[]⟩)::(tO #[vS "corner" 437])::({ cls:=Sv "dict",data:=Th #[eO P "__module__" 424 (vS "creasecourt.errors" 187),eO P "__firstlineno__" 428 (Tg 34 427),eR P "__init__" 436 199,eR P "__static_attributes__" 438 200,eO P "__doc__" 439 vN] 2 })::({ cls:=Sv "type",data:=Ui { name:=SQ "Barred",bases:=[vR 24],mro:=[vR 202,vR 24,Sv "ValueError",Sv "Exception",Sv "BaseException",Sv "object"],ns:=201,qualname:=SQ "Barred" },slots:=#[some (vR 186),none,some (vS "Barred" 417),some (vS "Barred" 425),some (SJ "ValueError.__new__"),some (Ta true)] })::({ cls:=Sv "super",data:=SR #[vR 202,vR 202,vR 202] })::({ cls:=Sv "builtin_function_or_method",data:=SR #[SJ "object.__init_subclass__",vR 202] })::[])
noncomputable def vE:Wx:={ scope:=TZ.main.scope,locals:=mainNs,globals:=mainNs,cells:=[],code:=TL 13,frame:=some 14 }
open PySem.W PyProof.Rows in
set_option maxRecDepth 100000 in
set_option maxHeartbeats 0 in
theorem Hx (w:Ts)(a:W4):topGo U8 (Uj SG).prog w 11 (some (TL 6)) 12 ⟨VR w.params,Ub [],Uq,X6,a⟩ (topStub (Uj SG).prog)=some (⟨⟨Ub (lA w.params),{}⟩,Ub [],Uq,187,a⟩,⟨denote U8 (.body (Tj (Uj SG).prog) vE),(.body (Tj (Uj SG).prog) vE),⟨0,0,0,0⟩,[Wy ⟨0,0,0,0⟩]⟩):=by kernel_rfl
open PySem.W PyProof.Rows in
set_option maxRecDepth 100000 in
set_option maxHeartbeats 0 in
theorem Hy (w:Ts)(a:W4):Zh U8 (Uj SG).prog w 11 (some (TL 6)) 1 1 ⟨⟨Ub (lA w.params),{}⟩,Ub [],Uq,187,a⟩ (blockOf (Tj (Uj SG).prog) vE (.body (Tj (Uj SG).prog) vE) ⟨0,0,0,0⟩ [Wy ⟨0,0,0,0⟩])=some (.next,⟨⟨Ub (lA w.params),{}⟩,Ub [],Uq,187,a⟩,(.body (Tj (Uj SG).prog) vE),⟨0,0,0,0⟩):=by kernel_rfl
open PySem.W PyProof.Rows in
set_option maxRecDepth 100000 in
set_option maxHeartbeats 0 in
theorem Hz (w:Ts)(a:W4):Zh U8 (Uj SG).prog w 11 (some (TL 6)) 1 1474 ⟨⟨Ub (lA w.params),{}⟩,Ub [],Uq,187,a⟩ (ZS ((Tj (Uj SG).prog).take 8) vE (.body (Tj (Uj SG).prog) vE) ⟨0,0,0,0⟩ [Wy ⟨0,0,0,0⟩])=some (.next,⟨⟨Ub (lB w.params),{}⟩,Ub [],Uq,303,a⟩,(.body (Tj (Uj SG).prog) vE),⟨14,0,15,8⟩):=by kernel_rfl
open PySem.W PyProof.Rows in
set_option maxRecDepth 100000 in
set_option maxHeartbeats 0 in
theorem HA (w:Ts)(a:W4):Zh U8 (Uj SG).prog w 11 (some (TL 6)) 1 1588 ⟨⟨Ub (lB w.params),{}⟩,Ub [],Uq,303,a⟩ (ZS (((Tj (Uj SG).prog).drop 8).take 7) vE (.body (Tj (Uj SG).prog) vE) ⟨14,0,15,8⟩ [Wy ⟨0,0,0,0⟩])=some (.next,⟨⟨Ub (lC w.params),{}⟩,Ub [],Uq,442,a⟩,(.body (Tj (Uj SG).prog) vE),⟨34,0,38,28⟩):=by kernel_rfl
open PySem.W PyProof.Rows in
set_option maxRecDepth 100000 in
set_option maxHeartbeats 0 in
theorem run:LeftO (Uj SG).prog Vw [] (fun s=>xlAt Vw [] s&&recOk (a0s (Zy (Uj SG))) s) (Hook.obs (a1k Kx As oZ)) (Hook.val (a1k Kx As oZ)) 8796:=
 L3.left_cut (hA:=fun P=>⟨Ub (lA P),{}⟩) (hB:=fun P=>⟨Ub (lB P),{}⟩) (hC:=fun P=>⟨Ub (lC P),{}⟩) (n3:=1476) (i1:=8) (i2:=7) (env:=vE) (boot_open (by kernel_rfl) (by kernel_rfl) (fun _=>by kernel_rfl)) (fun w=>by kernel_rfl) Hx Hy Hz HA (fun w a=>by kernel_rfl) (by kernel_rfl)
end Lw
set_option maxHeartbeats 4000000
namespace L3
open PySem
open PySem.SetTable (Probe Met Slot bits runEnd leap turns insertAt sizeAbove)
namespace Tb
noncomputable def lN (m:Nat)(p:Probe):Probe:=
 if p.more>0 then { p with j:=p.j+1,more:=p.more - 1 } else
 { p with j:=(leap m p.i p.perturb).1,more:=runEnd m (leap m p.i p.perturb).1 - (leap m p.i p.perturb).1,i:=(leap m p.i p.perturb).1,perturb:=(leap m p.i p.perturb).2 }
noncomputable def HB (m:Nat)(b:Nat):Probe:={ j:=b % (m+1),more:=runEnd m (b % (m+1)) - b % (m+1),i:=b % (m+1),perturb:=b,dummy:=none }
noncomputable def cC (m b:Nat):Nat->Probe
 | 0=>HB m b
 | k+1=>lN m (cC m b k)
noncomputable def lp (m b:Nat):Nat->Nat×Nat
 | 0=>(b % (m+1),b)
 | n+1=>leap m (lp m b n).1 (lp m b n).2
noncomputable def hd (m i q:Nat):Probe:={ j:=i,more:=runEnd m i - i,i:=i,perturb:=q,dummy:=none }
theorem o7 {m b k i q:Nat}(h:cC m b k=hd m i q):∀ r,r<=runEnd m i - i->cC m b (k+r) = { j:=i+r,more:=runEnd m i - i - r,i:=i,perturb:=q,dummy:=none }
 | 0,_=>by rw [Nat.add_zero,h];rfl
 | r+1,hr=>by
  have e:=o7 h r (by omega)
  show lN m (cC m b (k+r))=_
  rw [e]
  unfold lN
  rw [if_pos (show runEnd m i - i - r>0 by omega)]
  show Probe.mk (i+r+1) (runEnd m i - i - r - 1) i q none=_
  rw [a0u,Nat.sub_sub]
theorem HC {m b k i q:Nat}(h:cC m b k=hd m i q):cC m b (k+(runEnd m i - i)+1)=hd m (leap m i q).1 (leap m i q).2:=by
 have e:=o7 h (runEnd m i - i) (SM _)
 show lN m (cC m b (k+(runEnd m i - i)))=_
 rw [e]
 unfold lN
 rw [if_neg (show ¬ (runEnd m i - i - (runEnd m i - i)>0) by omega)]
 rfl
noncomputable def nx (m i:Nat):Nat:=(i * 5+1) % (m+1)
noncomputable def iC (m:Nat):Nat->Nat->Nat
 | 0,i=>i
 | n+1,i=>iC m n (nx m i)
theorem o8 (m:Nat):∀ (a b i:Nat),iC m (a+b) i=iC m b (iC m a i)
 | 0,b,i=>by rw [VP];rfl
 | a+1,b,i=>by rw [a0E];exact o8 m a b (nx m i)
noncomputable def gQ (m:Nat):Nat->Nat->Nat->Nat
 | 0,_,acc=>acc
 | f+1,i,acc=>gQ m f (nx m i) (acc ||| (1 <<< i))
theorem AW (m j:Nat):∀ (f i a:Nat),(gQ m f i a).testBit j=true->a.testBit j=true\/∃ n,n<f/\iC m n i=j
 | 0,_,_,h=>.inl h
 | f+1,i,a,h=>by
  rcases AW m j f (nx m i) _ h with h|⟨n,l,e⟩
  ·rw [Nat.testBit_or] at h
   cases d:a.testBit j with
   | true=>exact .inl rfl
   | false=>
    rw [d,a0f,Nat.testBit_shiftLeft] at h
    refine .inr ⟨0,by omega,?_⟩
    simp at h
    have c:Nat.testBit 1 (j - i)=true:=h.2
    rw [Nat.testBit_one_eq_true_iff_self_eq_zero] at c
    show i=j
    omega
  ·exact .inr ⟨n+1,by omega,e⟩
noncomputable def m7 (m:Nat):Bool:=gQ m (m+1) 0 0 == 2 ^ (m+1) - 1&&iC m (m+1) 0 == 0
theorem HD {m:Nat}(h:m7 m=true){i j:Nat}(r:i<=m)(o:j<=m):∃ n,n<=m/\iC m n i=j:=by
 unfold m7 at h
 rw [Sy,beq_iff_eq,beq_iff_eq] at h
 have d:∀ j,j<=m->∃ n,n<m+1/\iC m n 0=j:=fun j o=>by
  rcases AW m j (m+1) 0 0 (by rw [h.1,Nat.testBit_two_pow_sub_one];simp;omega) with q|q
  ·simp at q
  ·exact q
 obtain ⟨a,s,e⟩:=d i r
 obtain ⟨c,hc,l⟩:=d j o
 by_cases p:a<=c
 ·refine ⟨c - a,by omega,?_⟩
  rw [<- e,<- o8,show a+(c - a)=c by omega,l]
 ·refine ⟨m+1 - a+c,by omega,?_⟩
  rw [<- e,<- o8,show a+(m+1 - a+c)=m+1+c by omega,o8,h.2,l]
theorem AX (m b:Nat):∀ n,(lp m b n).2=b / 32 ^ n
 | 0=>by simp [lp]
 | n+1=>by
  show (lp m b n).2 / 32=_
  rw [AX m b n,Nat.div_div_eq_div_mul,a0G]
theorem AY (m b:Nat):∀ n,(lp m b n).1<=m
 | 0=>ZM (a1m _ (a0D _))
 | n+1=>ZM (a1m _ (a0D _))
theorem HE {m b:Nat}(c:b<2 ^ 64):∀ n,lp m b (13+n)=(iC m n (lp m b 13).1,0):=by
 have a:∀ n,13<=n->(lp m b n).2=0:=fun n d=>by
  rw [AX]
  apply Nat.div_eq_of_lt
  refine S6 c ?_
  have:(2:Nat) ^ 64<=32 ^ 13:=by decide
  exact TX this (YR (by decide) d)
 intro n
 have one:∀ n i,iC m (n+1) i=nx m (iC m n i):=fun n i=>by
  rw [o8];rfl
 induction n with
 | zero=>exact Prod.ext rfl (a 13 (SM _))
 | succ n e=>
  show leap m (lp m b (13+n)).1 (lp m b (13+n)).2=_
  rw [e,one]
  simp [leap,nx]
theorem HF {m b j:Nat}(hc:m7 m=true)(a:b<2 ^ 64)(c:j<=m):∃ n,n<=m+13/\(lp m b n).1=j:=by
 obtain ⟨n,d,e⟩:=HD hc (AY m b 13) c
 exact ⟨13+n,by omega,by rw [HE a];exact e⟩
noncomputable def Reach (m:Nat)(S:List Nat)(b j:Nat):Prop:=∃ k,(cC m b k).j=j/\∀ k',k'<k->(cC m b k').j∈S
theorem Reach.mono {m b j:Nat}{S c:List Nat}(h:Reach m S b j)(i:∀ x,x∈S->x∈c):Reach m c b j:=
 let ⟨k,e,a⟩:=h;⟨k,e,fun l d=>i _ (a l d)⟩
theorem HG {m:Nat}{S:List Nat}(c:S.length<=m):∃ j,j<=m/\j∉S:=by
 refine Xx fun h=>?_
 have all:∀ j,j<=m->j∈S:=fun j a=>Xx fun q=>h ⟨j,a,q⟩
 have:=List.Nodup.length_le_of_subset (l₁:=Td (m+1)) (l₂:=S) ZO fun j a=>all j (by simpa [XS] using a)
 rw [Wv] at this
 omega
theorem vU {xs:Array Nat}{j:Nat}(l:∀ a b,a<b->b<xs.size->xs.getD a 0<xs.getD b 0):∀ (f lo d:Nat),d - lo<=f->lo<=d->d<=xs.size->(∀ i,i<lo->xs.getD i 0<j)->(∀ i,d<=i->i<xs.size->j<=xs.getD i 0)->
  V3 xs j f lo d<=xs.size/\(∀ i,i<V3 xs j f lo d->xs.getD i 0<j)/\∀ i,V3 xs j f lo d<=i->i<xs.size->j<=xs.getD i 0
 | 0,lo,d,hf,h1,h2,a,b=>by
  have e:lo=d:=by omega
  show lo<=xs.size/\(∀ i,i<lo->_)/\∀ i,lo<=i->_
  exact ⟨by omega,a,by rw [e];exact b⟩
 | f+1,lo,d,hf,h1,h2,a,b=>by
  unfold V3
  by_cases q:lo<d
  ·rw [if_pos q]
   dsimp only
   have o:(lo+d) / 2<xs.size:=by omega
   have e:xs.getD ((lo+d) / 2) j=xs.getD ((lo+d) / 2) 0:=by simp [Ve,o]
   rw [e]
   by_cases c:xs.getD ((lo+d) / 2) 0<j
   ·rw [if_pos c]
    refine vU l f _ _ (by omega) (by omega) h2 (fun i m=>?_) b
    rcases Vv i ((lo+d) / 2) with z|z
    ·exact WL (l _ _ z o) c
    ·have:i=(lo+d) / 2:=by omega
     rw [this];exact c
   ·rw [if_neg c]
    refine vU l f _ _ (by omega) (by omega) (by omega) a fun i m n=>?_
    rcases Vv ((lo+d) / 2) i with z|z
    ·have:=l _ _ z n;omega
    ·have:i=(lo+d) / 2:=by omega
     rw [this];omega
  ·rw [if_neg q]
   exact ⟨by omega,a,fun i h n=>b i (by omega) n⟩
theorem AZ {xs:Array Nat}(h:xs.toList.Pairwise (·<·)):∀ a b,a<b->b<xs.size->xs.getD a 0<xs.getD b 0:=fun a b c d=>by
 have:=Vx.mp h a b (by simpa using WL c d) (by simpa using d) c
 simpa [Ve,d,WL c d] using this
theorem A0 {xs:Array Nat}(h:xs.toList.Pairwise (·<·))(j:Nat):T5 xs j<=xs.size/\(∀ i,i<T5 xs j->xs.getD i 0<j)/\∀ i,T5 xs j<=i->i<xs.size->j<=xs.getD i 0:=
 vU (AZ h) _ _ _ (by omega) (by omega) (SM _) (fun i z=>absurd z (UQ _)) fun i z a=>by omega
theorem HH {a:Type}(xs:Array a)(p:Nat)(x:a):(insertAt xs p x).toList=xs.toList.take p++x::xs.toList.drop p:=by
 unfold insertAt
 simp
 exact UC (by simp)
noncomputable abbrev m8:=Nat×Int×Value
structure Ok (t:WR)(R:List m8):Prop where
 place:t.place.toList=R.map (·.1)
 dum:t.dummies = #[]
 rise:(R.map (·.1)).Pairwise (·<·)
 le:∀ r∈R,r.1<=t.mask
 cov:m7 t.mask=true
 odd:t.mask % 2=1
 room:R.length<=t.mask
 road:∀ r∈R,Reach t.mask (R.map (·.1)) (bits r.2.1) r.1
section
variable {t:WR}{R:List m8}
theorem HI (h:Int):bits h<2 ^ 64:=by
 unfold bits
 have a:0<=h % (2 ^ 64:Int):=TF _ (by decide)
 have c:h % (2 ^ 64:Int)<2 ^ 64:=TM _ (by decide)
 omega
theorem Ok.size (o:Ok t R):t.place.size=R.length:=by
 have:=congrArg Wa o.place
 simpa using this
theorem Ok.uniq (o:Ok t R){r d:m8}(h:r∈R)(h':d∈R)(e:r.1=d.1):r=d:=by
 have p:=UO.mp o.rise
 obtain ⟨i,j,a⟩:=Ug h
 obtain ⟨k,l,c⟩:=Ug h'
 rcases Xr i k with z|z|z
 ·have:=Vx.mp p i k j l z
  rw [a,c] at this;omega
 ·subst z;rw [<- a,<- c]
 ·have:=Vx.mp p k i l j z
  rw [a,c] at this;omega
theorem Ok.getD (o:Ok t R){i:Nat}(a:i<R.length):t.place.getD i 0=(R[i]).1:=by
 have h:t.place.toList[i]? = (R.map (·.1))[i]?:=by rw [o.place]
 have c:i<t.place.size:=by rw [o.size];exact a
 simp [a,c] at h
 simp [Ve,c,h]
theorem Ok.sorted (o:Ok t R):t.place.toList.Pairwise (·<·):=by rw [o.place];exact o.rise
theorem A1 (j:Nat):XU #[] j=false:=by
 unfold XU
 simp
theorem Ok.live (o:Ok t R){j:Nat}(h:j∈R.map (·.1)):∃ i r,t.slot j=.live i/\R[i]? = some r/\r.1=j:=by
 obtain ⟨r,n,e⟩:=TC.mp h
 obtain ⟨i,a,d⟩:=Ug n
 have b:=A0 o.sorted j
 have m:t.place.getD i 0=j:=by rw [o.getD a,d];exact e
 have c:i<t.place.size:=by rw [o.size];exact a
 have l:T5 t.place j=i:=by
  rcases Xr (T5 t.place j) i with z|z|z
  ·have p:=b.2.2 _ (SM _) (by omega)
   have q:=AZ o.sorted _ _ z c
   omega
  ·exact z
  ·have:=b.2.1 i z;omega
 refine ⟨i,r,?_,by rw [<- d];exact SN a,e⟩
 unfold Zj
 dsimp only
 rw [l,if_pos]
 have:t.place[i]? = some j:=by
  rw [Array.getElem?_eq_getElem c]
  simpa [Ve,c] using m
 rw [this]
 exact beq_self_eq_true _
theorem Ok.empty (o:Ok t R){j:Nat}(h:j∉R.map (·.1)):t.slot j=.empty:=by
 unfold Zj
 dsimp only
 rw [if_neg,o.dum,A1]
 ·rfl
 ·intro q
  rw [beq_iff_eq] at q
  apply h
  rw [<- o.place]
  exact Array.mem_toList_iff.mpr (Array.mem_of_getElem? q)
theorem A2 (m b:Nat):∀ k,(cC m b k).dummy=none
 | 0=>rfl
 | k+1=>by
  show (lN m (cC m b k)).dummy=none
  unfold lN
  split<;>exact A2 m b k
theorem Ok.go (o:Ok t R)(X4:Nat->Int)(x:∀ i r,R[i]? = some r->X4 i=r.2.1){h:Int}{K:Nat}(v:(cC t.mask (bits h) K).j∉R.map (·.1))(w:∀ k',k'<K->(cC t.mask (bits h) k').j∈R.map (·.1)) :
  ∀ (f k:Nat),k<=K->K<k+f->
   (V2 t X4 h f (cC t.mask (bits h) k)=some (.empty (cC t.mask (bits h) K).j none)/\∀ k' r,k<=k'->k'<K->r∈R->r.1=(cC t.mask (bits h) k').j->r.2.1≠h) \/
   ∃ k' i r,k<=k'/\k'<K/\R[i]? = some r/\r.1=(cC t.mask (bits h) k').j/\r.2.1=h/\V2 t X4 h f (cC t.mask (bits h) k)=some (.candidate (cC t.mask (bits h) k').j i (cC t.mask (bits h) (k'+1))) /\
    ∀ c j,k<=c->c<k'->j∈R->j.1=(cC t.mask (bits h) c).j->j.2.1≠h
 | 0,k,h1,h2=>by omega
 | f+1,k,h1,h2=>by
  rcases Vv k K with z|z
  ·obtain ⟨i,r,e,p,u⟩:=o.live (w k z)
   have L:V2 t X4 h (f+1) (cC t.mask (bits h) k)=if X4 i == h then some (.candidate (cC t.mask (bits h) k).j i (cC t.mask (bits h) (k+1))) else V2 t X4 h f (cC t.mask (bits h) (k+1)):=by
    show (match t.slot (cC t.mask (bits h) k).j with|.empty=>_|.dummy=>_|.live i=>_)=_
    rw [e]
    rfl
   rw [L,x i r p]
   have s:r∈R:=Vn p
   by_cases q:r.2.1=h
   ·refine .inr ⟨k,i,r,SM _,z,p,u,q,?_,fun c j a b=>by omega⟩
    rw [q,if_pos (beq_self_eq_true _)]
   ·rw [if_neg (by simpa using q)]
    have here:∀ j,j∈R->j.1=(cC t.mask (bits h) k).j->j.2.1≠h:=fun j d l=>by
     rw [o.uniq d s (l.trans u.symm)];exact q
    rcases Ok.go o X4 x v w f (k+1) z (by omega) with ⟨a,b⟩|⟨k',M,j,N,A,B,E,G,H,I⟩
    ·refine .inl ⟨a,fun k' j J n d l=>?_⟩
     rcases Vv k k' with y|y
     ·exact b k' j y n d l
     ·have:k'=k:=by omega
      subst this;exact here j d l
    ·refine .inr ⟨k',M,j,by omega,A,B,E,G,H,fun c m J n d l=>?_⟩
     rcases Vv k c with y|y
     ·exact I c m y n d l
     ·have:c=k:=by omega
      subst this;exact here m d l
  ·have:k=K:=by omega
   subst this
   refine .inl ⟨?_,fun k' r a b=>by omega⟩
   show (match t.slot (cC t.mask (bits h) k).j with|.empty=>_|.dummy=>_|.live i=>_)=_
   rw [o.empty v]
   show some (Met.empty _ (cC t.mask (bits h) k).dummy)=_
   rw [A2]
theorem Ok.put (o:Ok t R){j:Nat}{h:Int}{x:Value}(n:j<=t.mask)(u:j∉R.map (·.1))(a:Reach t.mask (R.map (·.1)) (bits h) j)(A:R.length+1<=t.mask) :
  (t.put j).2=T5 t.place j/\(t.put j).1.mask=t.mask/\(t.put j).1.led=t.led/\(t.put j).1.plain=t.plain/\Ok (t.put j).1 (R.take (T5 t.place j)++(j,h,x)::R.drop (T5 t.place j)):=by
 have b:=A0 o.sorted j
 rw [o.size] at b
 refine ⟨rfl,rfl,rfl,rfl,?_⟩
 have mem:∀ r,r∈R.take (T5 t.place j)++(j,h,x)::R.drop (T5 t.place j)↔r=(j,h,x)\/r∈R:=fun r=>by
  constructor
  ·intro q
   rcases T7.mp q with q|q
   ·exact .inr (WW q)
   ·rcases TH.mp q with q|q
    ·exact .inl q
    ·exact .inr (V9 q)
  ·rintro (q|q)
   ·exact T7.mpr (.inr (TH.mpr (.inl q)))
   ·rw [<- Up (T5 t.place j) R] at q
    rcases T7.mp q with q|q
    ·exact T7.mpr (.inl q)
    ·exact T7.mpr (.inr (TH.mpr (.inr q)))
 have d:∀ y,y∈R.map (·.1)->y∈(R.take (T5 t.place j)++(j,h,x)::R.drop (T5 t.place j)).map (·.1):=fun y v=>by
  obtain ⟨r,q,e⟩:=TC.mp v
  exact TC.mpr ⟨r,(mem r).mpr (.inr q),e⟩
 have m:∀ r,r∈R.take (T5 t.place j)->r.1<j:=fun r a=>by
  obtain ⟨i,c,e⟩:=Ug a
  rw [Tw] at c
  have:=b.2.1 i (by omega)
  rw [o.getD (by omega)] at this
  rw [ZE] at e
  rw [<- e];exact this
 have c:∀ r,r∈R.drop (T5 t.place j)->j<r.1:=fun r a=>by
  have s:r∈R:=V9 a
  obtain ⟨i,c,e⟩:=Ug a
  rw [T8] at c
  have:=b.2.2 (T5 t.place j+i) (by omega) (by omega)
  rw [o.getD (by omega)] at this
  rw [List.getElem_drop] at e
  rw [e] at this
  have ne:r.1≠j:=fun z=>u (TC.mpr ⟨r,s,z⟩)
  omega
 refine ⟨?_,?_,?_,?_,o.cov,o.odd,?_,?_⟩
 ·show (insertAt t.place _ j).toList=_
  rw [HH,o.place,Tn,SW,V5,VA]
 ·show (if XU t.dummies j=true then _ else t.dummies) = #[]
  rw [o.dum,A1];rfl
 ·have p:=UO.mp o.rise
  rw [UO,List.pairwise_append]
  refine ⟨p.sublist (Zz _ _),List.pairwise_cons.mpr ⟨fun r a=>c r a,p.sublist (List.drop_sublist _ _)⟩,fun r a w l=>?_⟩
  rcases TH.mp l with q|q
  ·subst q;exact m r a
  ·exact WL (m r a) (c w q)
 ·intro r q
  rcases (mem r).mp q with q|q
  ·subst q;exact n
  ·exact o.le r q
 ·rw [SU,SY,Tw,T8]
  show _<=t.mask
  omega
 ·intro r q
  rcases (mem r).mp q with q|q
  ·subst q;exact a.mono d
  ·exact (o.road r q).mono d
end
noncomputable def lv (m:Nat)(a:Array (Option Nat)):List (Nat×Nat):=(Td (m+1)).filterMap fun j=>(a.getD j none).map (j,·)
theorem mem_lv {m:Nat}{c:Array (Option Nat)}{j i:Nat}:(j,i)∈lv m c↔j<=m/\c.getD j none=some i:=by
 unfold lv
 rw [Xc]
 constructor
 ·rintro ⟨a,o,e⟩
  rw [SA] at e
  obtain ⟨b,d,h⟩:=e
  cases h
  exact ⟨by simpa [XS] using o,d⟩
 ·rintro ⟨l,n⟩
  exact ⟨j,by simpa [XS] using l,by rw [n];rfl⟩
theorem HJ (m:Nat)(j:Array (Option Nat)):((lv m j).map (·.1)).Pairwise (·<·):=by
 rw [UO]
 unfold lv
 refine a0J (R:=(·<·)) _ (fun a l h b d n c=>?_) WD
 rw [SA] at d c
 obtain ⟨_,_,e⟩:=d
 obtain ⟨_,_,i⟩:=c
 rw [<- e,<- i]
 exact h
structure Ow (m:Nat)(ds:List Int)(ow:Array (Option Nat)):Prop where
 size:ow.size=m+1
 lt:∀ j i,ow.getD j none=some i->i<ds.length
 all:∀ i,i<ds.length->∃ j,ow.getD j none=some i
 inj:∀ j j' i,ow.getD j none=some i->ow.getD j' none=some i->j=j'
 road:∀ j i,ow.getD j none=some i->Reach m ((lv m ow).map (·.1)) (bits (ds.getD i 0)) j
section
variable {m:Nat}{ds:List Int}{ow:Array (Option Nat)}
theorem Ow.le (o:Ow m ds ow){j i:Nat}(h:ow.getD j none=some i):j<=m:=by
 rcases Vv j ow.size with z|z
 ·rw [o.size] at z;omega
 ·simp [Ve,V4.mpr z] at h
theorem Ow.taken (o:Ow m ds ow){j:Nat}(c:j<=m):j∈(lv m ow).map (·.1)↔(ow.getD j (some 0)).isNone=false:=by
 have d:j<ow.size:=by rw [o.size];omega
 have e:ow.getD j (some 0)=ow.getD j none:=by simp [Ve,d]
 rw [e]
 constructor
 ·intro q
  obtain ⟨⟨a,i⟩,h,rfl⟩:=TC.mp q
  rw [(mem_lv.mp h).2];rfl
 ·intro q
  cases z:ow.getD j none with
  | none=>rw [z] at q;cases q
  | some i=>exact TC.mpr ⟨(j,i),mem_lv.mpr ⟨c,z⟩,rfl⟩
theorem Ow.perm (o:Ow m ds ow):((lv m ow).map (·.2)).Perm (Td ds.length):=by
 have nd:((lv m ow).map (·.2)).Nodup:=by
  have p:=UO.mp (HJ m ow)
  unfold List.Nodup
  rw [UO]
  refine p.imp_of_mem fun {a b} n r c e=>?_
  obtain ⟨d,h⟩:=a
  obtain ⟨l,u⟩:=b
  have:=o.inj d l h (mem_lv.mp n).2 (by have:=(mem_lv.mp r).2;rw [this];exact congrArg some e.symm)
  exact UL _ (this ▸ c)
 refine (List.perm_ext_iff_of_nodup nd ZO).mpr fun i=>?_
 rw [Uh]
 constructor
 ·intro q
  obtain ⟨⟨a,i⟩,s,rfl⟩:=TC.mp q
  exact o.lt a i (mem_lv.mp s).2
 ·intro q
  obtain ⟨j,e⟩:=o.all i q
  exact TC.mpr ⟨(j,i),mem_lv.mpr ⟨o.le e,e⟩,rfl⟩
theorem Ow.count (o:Ow m ds ow):(lv m ow).length=ds.length:=by
 have:=o.perm.length_eq
 simpa using this
theorem Ow.free (o:Ow m ds ow){b:Nat}:∀ (f n k0:Nat),cC m b k0=hd m (lp m b n).1 (lp m b n).2->(∀ k',k'<k0->(cC m b k').j∈(lv m ow).map (·.1))->(∃ N,n<=N/\N<n+f/\(lp m b N).1∉(lv m ow).map (·.1))->
  ∃ j,Wb m ow f (lp m b n).1 (lp m b n).2=some j/\j<=m/\j∉(lv m ow).map (·.1)/\Reach m ((lv m ow).map (·.1)) b j
 | 0,n,k0,_,_,⟨N,h1,h2,_⟩=>by omega
 | f+1,n,k0,hk,ht,⟨N,h1,h2,hN⟩=>by
  have v:=AY m b n
  have l:runEnd m (lp m b n).1<=m:=by unfold runEnd;split<;>omega
  have p:(lp m b n).1<=runEnd m (lp m b n).1:=by unfold runEnd;split<;>omega
  unfold Wb
  cases z:(Td (runEnd m (lp m b n).1+1 - (lp m b n).1)).find? fun k=>(ow.getD ((lp m b n).1+k) (some 0)).isNone with
  | some r=>
   rw [Yg] at z
   obtain ⟨h,s,u⟩:=z
   rw [Uh] at s
   refine ⟨(lp m b n).1+r,rfl,by omega,fun q=>?_,k0+r,by rw [o7 hk r (by omega)],fun k' a=>?_⟩
   ·rw [o.taken (by omega)] at q
    rw [q] at h;cases h
   ·rcases Vv k' k0 with y|y
    ·exact ht k' y
    ·obtain ⟨d,rfl⟩:=Yk y
     rw [o7 hk d (by omega)]
     show (lp m b n).1+d∈_
     rw [o.taken (by omega)]
     have:=u d (by omega)
     simpa using this
  | none=>
   rw [List.find?_range_eq_none] at z
   have c:∀ r,r<runEnd m (lp m b n).1+1 - (lp m b n).1->(lp m b n).1+r∈(lv m ow).map (·.1):=fun r i=>by
    rw [o.taken (by omega)]
    have:=z r i
    simpa using this
   have ne:N≠n:=fun e=>hN (by rw [e];exact c 0 (by omega))
   refine Ow.free o f (n+1) _ (HC hk) (fun k' a=>?_) ⟨N,by omega,by omega,hN⟩
   rcases Vv k' k0 with y|y
   ·exact ht k' y
   ·obtain ⟨d,rfl⟩:=Yk y
    rw [o7 hk d (by omega)]
    exact c d (by omega)
theorem Ow.step (o:Ow m ds ow)(hc:m7 m=true)(H:ds.length<=m)(h:Int):∃ j,Wb m ow (turns m) (bits h % (m+1)) (bits h)=some j/\Ow m (ds++[h]) (ow.setIfInBounds j (some ds.length)):=by
 obtain ⟨g,E,v⟩:=HG (m:=m) (S:=(lv m ow).map (·.1)) (by rw [Sx,o.count];exact H)
 obtain ⟨N,K,B⟩:=HF hc (HI h) E
 obtain ⟨j,e,G,x,I⟩:=o.free (b:=bits h) (turns m) 0 0 rfl (fun n z=>absurd z (UQ _)) ⟨N,Uo _,by unfold turns;omega,by rw [B];exact v⟩
 have A:j<ow.size:=by rw [o.size];omega
 have get:∀ k,(ow.setIfInBounds j (some ds.length)).getD k none=if k=j then some ds.length else ow.getD k none:=fun k=>by
  by_cases q:k=j
  ·subst q;simp [Ve,A]
  ·rw [if_neg q]
   simp [Ve]
   split
   ·rw [Array.getElem_setIfInBounds]
    rw [if_neg (Ux q)]
   ·rfl
 have s:ow.getD j none=none:=by
  cases z:ow.getD j none with
  | none=>rfl
  | some i=>exact absurd (TC.mpr ⟨(j,i),mem_lv.mpr ⟨G,z⟩,rfl⟩) x
 have r:∀ y,y∈(lv m ow).map (·.1)->y∈(lv m (ow.setIfInBounds j (some ds.length))).map (·.1):=fun y J=>by
  obtain ⟨⟨a,i⟩,q,rfl⟩:=TC.mp J
  have u:=mem_lv.mp q
  refine TC.mpr ⟨(a,i),mem_lv.mpr ⟨u.1,?_⟩,rfl⟩
  rw [get,if_neg (fun z=>by rw [z,s] at u;cases u.2)]
  exact u.2
 refine ⟨j,e,⟨by rw [Array.size_setIfInBounds];exact o.size,fun k i c=>?_,fun i w=>?_,fun k n i d l=>?_,fun k i c=>?_⟩⟩
 ·rw [get] at c
  rw [SU,Uu]
  by_cases q:k=j
  ·rw [if_pos q] at c;cases c;omega
  ·rw [if_neg q] at c;have:=o.lt k i c;omega
 ·rw [SU,Uu] at w
  by_cases q:i=ds.length
  ·exact ⟨j,by rw [get,if_pos rfl,q]⟩
  ·obtain ⟨k,c⟩:=o.all i (by omega)
   exact ⟨k,by rw [get,if_neg (fun z=>by rw [z,s] at c;cases c)];exact c⟩
 ·rw [get] at d l
  by_cases q:k=j
  ·by_cases p:n=j
   ·rw [q,p]
   ·rw [if_pos q] at d;rw [if_neg p] at l
    cases d;exact absurd (o.lt n _ l) (UL _)
  ·by_cases p:n=j
   ·rw [if_neg q] at d;rw [if_pos p] at l
    cases l;exact absurd (o.lt k _ d) (UL _)
   ·rw [if_neg q] at d;rw [if_neg p] at l
    exact o.inj k n i d l
 ·rw [get] at c
  by_cases q:k=j
  ·rw [if_pos q] at c;cases c
   rw [q]
   have:(ds++[h]).getD ds.length 0=h:=by simp [U3]
   rw [this]
   exact I.mono r
  ·rw [if_neg q] at c
   have w:=o.lt k i c
   have:(ds++[h]).getD i 0=ds.getD i 0:=by simp [U3,Tp w]
   rw [this]
   exact (o.road k i c).mono r
end
theorem Ow.nil (m:Nat):Ow m [] (XE (m+1) none):=by
 have e:∀ j,(XE (m+1) (none:Option Nat)).getD j none=none:=fun j=>by
  simp [Ve]
 have a:∀ {P:Prop}(j i:Nat),(XE (m+1) (none:Option Nat)).getD j none=some i->P:=fun j i h=>by
  rw [e] at h;exact nomatch h
 exact ⟨by simp,fun j i h=>a j i h,fun i h=>absurd h (UQ _),fun j c i h _=>a j i h,fun j i h=>a j i h⟩
end Tb
end L3
namespace L3
open PySem
open PySem.SetTable (Probe Met Slot bits runEnd leap turns insertAt sizeAbove)
namespace Tb
section
variable {prog:Tc}{w:Ts}{K:Type} [DecidableEq K] {knd:KeyKind prog w K}{A:Tt}{E:Value->SF->Prop}{s:SF}
theorem fits_of {t:WR}{R:List m8}{es:Array (Int×Value)}(o:Ok t R)(d:es.toList=R.map (·.2)):t.fits es.size=true:=by
 have a:es.size=R.length:=by simpa using congrArg Wa d
 have c:=o.room
 unfold SetTable.fits SetTable.fill
 rw [o.size,a,o.dum]
 simp;exact c
end
section
variable {prog:Tc}{w:Ts}{A:Tt}{E:Value->SF->Prop}{s:SF}
noncomputable abbrev El:=List Int×Addr
noncomputable def HK (k:List Int):Int:=reduceHash (a0M (k.map hashInt))
noncomputable def HL (p:El):Int×Value:=(HK p.1,TL p.2)
noncomputable def Msk (m:Nat):Prop:=m=7\/m=31\/m=127\/m=511
theorem Msk.cov {m:Nat}(h:Msk m):m7 m=true:=by
 rcases h with rfl|rfl|rfl|rfl<;>decide +kernel
theorem Msk.odd {m:Nat}(h:Msk m):m % 2=1:=by
 rcases h with rfl|rfl|rfl|rfl<;>rfl
noncomputable def vV (w:Ts):Bool:=w.params.followText "set-order"
noncomputable def A3 (a:Bool)(L:List El)(o:Obj):Prop:=∃ es c t R,o.ExactSet/\o.data=.set es c t/\es.toList=R.map (·.2)/\Ok t R/\es.toList.Perm (L.map HL)/\(L.map (·.1)).Nodup/\Msk t.mask/\L.length * 5<t.mask * 3/\t.plain=true/\t.led=a
noncomputable def SObj (L:List El)(o:Obj):Prop:=∃ a,A3 a L o
noncomputable def Aa (prog:Tc)(w:Ts)(h:Ua)(a:Addr)(L:List El):Prop:=∃ o,h.get? a=some o/\A3 (!vV w) L o/\∀ p∈L,IsTupleKey (intKind prog w) h p.1 p.2
end
end Tb
end L3
namespace L3
open PySem
namespace Tb
noncomputable def HM (w:Ts)(t:WR):Nat->Nat
 | 0=>0
 | i+1=>if vV w then 0 else t.place.getD i 0+1
section
variable {prog:Tc}{w:Ts}{A:Tt}{E:Value->SF->Prop}{s:SF}
noncomputable def SIt (w:Ts)(h:Ua)(I a:Addr)(t:WR)(i n c:Nat):Prop:=∃ o,h.get? I=some o/\o.cls=.type "set_iterator"/\o.data=.fields #[Wt (HM w t i),Wt i,.ref a,Wt n,Wt c]
theorem SIt.ty {I a:Addr}{t:WR}{i n c:Nat}(x:SIt w s.heap I a t i n c):s.TypeIs (.ref I) "set_iterator":=let ⟨o,d,hc,_⟩:=x;⟨o,d,hc⟩
structure SAt (w:Ts)(h:Ua)(a:Addr)(es:Array (Int×Value))(ep:Nat)(t:WR)(R:List m8):Prop where
 at_:∃ o,h.get? a=some o/\o.cls=.type "set"/\o.data=.set es ep t
 he:es.toList=R.map (·.2)
 ok:Ok t R
 pl:t.plain=true
 led:t.led = !vV w
theorem SAt.ty {a:Addr}{es:Array (Int×Value)}{c:Nat}{t:WR}{R:List m8}(x:SAt w s.heap a es c t R):s.TypeIs (.ref a) "set":=let ⟨o,d,hc,_⟩:=x.at_;⟨o,d,hc⟩
end
end Tb
end L3
namespace L3
open PySem L2
inductive D where
 | non|bl (b:Bool)|int (i:Int)|str (x:Str)|tup (xs:List D)|rol (xs:List D)|loc (a:Nat)|ty (n:String)
 deriving Inhabited
inductive C where
 | lst (xs:List D)
 | dK (kvs:List (aR×D))
 | st (ks:List (List Int))
 | exc (x:Str)(ns:List Str)(ds:List D)
 deriving Inhabited
noncomputable abbrev Hm:=List C
noncomputable abbrev aJ:=List (Option D)
noncomputable abbrev ME:=aJ->Hm->Option (D×Hm)
noncomputable abbrev MT:=aJ->Hm->Option (Bool×Hm)
noncomputable abbrev MA:=aJ->Hm->Option (List D×Hm)
inductive Fl where
 | nx|rt (d:D)|bk|ct
noncomputable abbrev MS:=aJ->Hm->Option (Fl×aJ×Hm)
noncomputable abbrev MF:=List D->Hm->Option (D×Hm)
noncomputable def RoL (K:Sw)(H:Hp)(p:Addr)(xs:List V):Prop:=
 (∃ o,H p=some (.frz o (.lst xs))) \/
  ∃ (o:Obj)(a:Array Value)(n:Nat),K.lookup p=some o/\o.cls=.type "list"/\o.dict=none/\o.data=.seq a n/\a.size<=SK/\Vals xs a.toList
theorem RoL.sq {K:Sw}{H:Hp}{p:Addr}{xs:List V}(h:RoL K H p xs):SqL K H p xs:=by
 rcases h with ⟨o,h⟩|h
 ·exact .inl (.inr ⟨o,h⟩)
 ·exact .inr h
mutual
inductive IsD (K:Sw)(π:Nat->Addr)(n:Nat)(H:Hp):V->D->Prop where
 | non:IsD K π n H .non .non
 | bl (b:Bool):IsD K π n H (.bl b) (.bl b)
 | int (i:Int):IsD K π n H (.int i) (.int i)
 | str (x:Str):IsD K π n H (.str x) (.str x)
 | tup {p:Addr}{vs:List V}{ds:List D}(h:SqT K H p vs)(t:IsDs K π n H vs ds):IsD K π n H (.ref p) (.tup ds)
 | rol {p:Addr}{vs:List V}{ds:List D}(h:RoL K H p vs)(t:IsDs K π n H vs ds):IsD K π n H (.ref p) (.rol ds)
 | loc {a:Nat}(h:a<n):IsD K π n H (.ref (π a)) (.loc a)
 | ty (x:String):IsD K π n H (.ty x) (.ty x)
inductive IsDs (K:Sw)(π:Nat->Addr)(n:Nat)(H:Hp):List V->List D->Prop where
 | nil:IsDs K π n H [] []
 | cons {v:V}{d:D}{vs:List V}{ds:List D}(h:IsD K π n H v d)(t:IsDs K π n H vs ds):IsDs K π n H (v::vs) (d::ds)
end
structure Ext (π:Nat->Addr)(n:Nat)(H:Hp)(π':Nat->Addr)(n':Nat)(H':Hp):Prop where
 le:n<=n'
 pi:∀ a,a<n->π' a=π a
 tup:∀ p vs,H p=some (.tup vs)->H' p=some (.tup vs)
 frz:∀ p o u,H p=some (.frz o u)->H' p=some (.frz o u)
structure Ext0 (π:Nat->Addr)(n:Nat)(H:Hp)(π':Nat->Addr)(n':Nat)(H':Hp):Prop where
 le:n<=n'
 pi:∀ a,a<n->π' a=π a
 tup:∀ p vs,H p=some (.tup vs)->H' p=some (.tup vs)
 frz:∀ p o u,(∀ φ,u≠HO.ext φ)->H p=some (.frz o u)->H' p=some (.frz o u)
section
variable {K:Sw}{π π' π2:Nat->Addr}{n n' n2:Nat}{H H' H2:Hp}
theorem Ext.weak (e:Ext π n H π' n' H'):Ext0 π n H π' n' H':=⟨e.le,e.pi,e.tup,fun p o u _ h=>e.frz p o u h⟩
theorem Ext.refl:Ext π n H π n H:=⟨SM _,fun _ _=>rfl,fun _ _ h=>h,fun _ _ _ h=>h⟩
theorem Ext.trans (a:Ext π n H π' n' H')(b:Ext π' n' H' π2 n2 H2):Ext π n H π2 n2 H2:=
 ⟨TX a.le b.le,fun i h=>(b.pi i (S6 h a.le)).trans (a.pi i h),fun p c h=>b.tup p c (a.tup p c h),fun p o u h=>b.frz p o u (a.frz p o u h)⟩
theorem Ext0.sqT (e:Ext0 π n H π' n' H'){p:Addr}{vs:List V}(h:SqT K H p vs):SqT K H' p vs:=by
 rcases h with h|h
 ·rcases h with h|⟨o,h⟩
  ·exact .inl (.inl (e.tup _ _ h))
  ·exact .inl (.inr ⟨o,e.frz _ _ _ (fun _ z=>nomatch z) h⟩)
 ·exact .inr h
theorem Ext.sqT (e:Ext π n H π' n' H'){p:Addr}{vs:List V}(h:SqT K H p vs):SqT K H' p vs:=e.weak.sqT h
theorem Ext0.roL (e:Ext0 π n H π' n' H'){p:Addr}{vs:List V}(h:RoL K H p vs):RoL K H' p vs:=by
 rcases h with ⟨o,h⟩|h
 ·exact .inl ⟨o,e.frz _ _ _ (fun _ z=>nomatch z) h⟩
 ·exact .inr h
theorem Ext.roL (e:Ext π n H π' n' H'){p:Addr}{vs:List V}(h:RoL K H p vs):RoL K H' p vs:=e.weak.roL h
mutual
theorem IsD.mono0 {v:V}{d:D}(e:Ext0 π n H π' n' H'):IsD K π n H v d->IsD K π' n' H' v d
 | .non=>.non
 | .bl b=>.bl b
 | .int i=>.int i
 | .str x=>.str x
 | .ty x=>.ty x
 | .tup h t=>.tup (e.sqT h) (IsDs.mono0 e t)
 | .rol h t=>.rol (e.roL h) (IsDs.mono0 e t)
 | .loc h=>by
  rw [<- e.pi _ h]
  exact .loc (S6 h e.le)
theorem IsDs.mono0 {vs:List V}{ds:List D}(e:Ext0 π n H π' n' H'):IsDs K π n H vs ds->IsDs K π' n' H' vs ds
 | .nil=>.nil
 | .cons h t=>.cons (IsD.mono0 e h) (IsDs.mono0 e t)
end
theorem IsD.mono {v:V}{d:D}(e:Ext π n H π' n' H')(h:IsD K π n H v d):IsD K π' n' H' v d:=h.mono0 e.weak
theorem IsDs.mono {vs:List V}{ds:List D}(e:Ext π n H π' n' H')(h:IsDs K π n H vs ds):IsDs K π' n' H' vs ds:=h.mono0 e.weak
theorem IsDs.length {vs:List V}{ds:List D}(h:IsDs K π n H vs ds):vs.length=ds.length:=by
 induction ds generalizing vs with
 | nil=>cases h;rfl
 | cons d ds a=>
  cases h with
  | cons h t=>rw [SY,SY,a t]
theorem IsDs.get {vs:List V}{ds:List D}(h:IsDs K π n H vs ds){i:Nat}{d:D}(e:ds[i]? = some d):∃ v,vs[i]? = some v/\IsD K π n H v d:=by
 induction ds generalizing vs i with
 | nil=>simp at e
 | cons l ds j=>
  cases h with
  | cons h t=>
   cases i with
   | zero=>
    simp at e
    subst e
    exact ⟨_,rfl,h⟩
   | succ i=>
    obtain ⟨v,a,c⟩:=j t (by simpa using e)
    exact ⟨v,by simpa using a,c⟩
theorem IsDs.append {vs a:List V}{ds es:List D}(h:IsDs K π n H vs ds)(c:IsDs K π n H a es):IsDs K π n H (vs++a) (ds++es):=by
 induction ds generalizing vs with
 | nil=>cases h;exact c
 | cons d ds e=>
  cases h with
  | cons h t=>exact .cons h (e t)
theorem IsDs.drop {vs:List V}{ds:List D}(h:IsDs K π n H vs ds)(k:Nat):IsDs K π n H (vs.drop k) (ds.drop k):=by
 induction ds generalizing vs k with
 | nil=>cases h;simpa using IsDs.nil
 | cons d ds a=>
  cases h with
  | cons h t=>
   cases k with
   | zero=>exact .cons h t
   | succ k=>exact a t k
theorem IsDs.take {vs:List V}{ds:List D}(h:IsDs K π n H vs ds)(k:Nat):IsDs K π n H (vs.take k) (ds.take k):=by
 induction ds generalizing vs k with
 | nil=>cases h;simpa using IsDs.nil
 | cons d ds a=>
  cases h with
  | cons h t=>
   cases k with
   | zero=>exact .nil
   | succ k=>exact .cons h (a t k)
theorem IsDs.atI {vs:List V}{ds:List D}(h:IsDs K π n H vs ds){i:Int}{d:D}(e:L2.atI ds i=some d):∃ v,L2.atI vs i=some v/\IsD K π n H v d:=by
 unfold L2.atI at e ⊢
 rw [h.length]
 cases q:fM ds.length i with
 | none=>rw [q] at e;cases e
 | some j=>
  rw [q] at e
  exact h.get e
end
noncomputable def rY (p:Addr)(L:List Tb.El):HO:=.ext fun h=>∃ o,h.get? p=some o/\Tb.SObj L o
noncomputable def ExcIs (K:Sw)(π:Nat->Addr)(n:Nat)(H:Hp)(c:Obj)(x:Str)(ns:List Str)(ds:List D):Prop:=
 Uz K TQ x=some (some c.cls)/\(∃ a,c.data=.fields a) /\
  (ns=[]/\ds=[]/\c.dict=none\/∃ d e a,c.dict=some d/\H d=some (.frz e (.xd a))/\a.map (·.1)=ns/\IsDs K π n H (a.map (·.2)) ds)
theorem ExcIs.mono0 {K:Sw}{π a:Nat->Addr}{n d:Nat}{H H':Hp}{i:Obj}{x:Str}{ns:List Str}{ds:List D}(e:Ext0 π n H a d H')(h:ExcIs K π n H i x ns ds):ExcIs K a d H' i x ns ds:=by
 obtain ⟨q,r,c⟩:=h
 refine ⟨q,r,?_⟩
 rcases c with c|⟨j,s,u,l,m,o,p⟩
 ·exact .inl c
 ·exact .inr ⟨j,s,u,l,e.frz _ _ _ (fun _ z=>nomatch z) m,o,p.mono0 e⟩
theorem ExcIs.mono {K:Sw}{π a:Nat->Addr}{n c:Nat}{H H':Hp}{d:Obj}{x:Str}{ns:List Str}{ds:List D}(e:Ext π n H a c H')(h:ExcIs K π n H d x ns ds):ExcIs K a c H' d x ns ds:=h.mono0 e.weak
structure Rp (K:Sw)(π:Nat->Addr)(H:Hp)(μ:Hm):Prop where
 inj:∀ a b,a<μ.length->b<μ.length->π a=π b->a=b
 has:∀ a,a<μ.length->(H (π a)).isSome=true
 lst:∀ a xs,μ[a]? = some (.lst xs)->∃ vs,H (π a)=some (.lst vs)/\IsDs K π μ.length H vs xs
 dK:∀ a kvs,μ[a]? = some (.dK kvs)->∃ vs,H (π a)=some (.dK vs)/\vs.map (·.1)=kvs.map (·.1)/\IsDs K π μ.length H (vs.map (·.2)) (kvs.map (·.2))
 st:∀ a ks,μ[a]? = some (.st ks)->∃ L:List Tb.El,H (π a)=some (rY (π a) L)/\L.map (·.1)=ks/\IsDs K π μ.length H (L.map fun p=>V.ref p.2) (ks.map fun k=>D.tup (k.map D.int))
 exc:∀ a x ns ds,μ[a]? = some (.exc x ns ds)->∃ (ob:Obj)(φ:Ua->Prop),H (π a)=some (.frz ob (.ext φ))/\ExcIs K π μ.length H ob x ns ds
structure En (K:Sw)(π:Nat->Addr)(n:Nat)(H:Hp)(σ:St)(ρ:aJ):Prop where
 len:σ.length=ρ.length
 get:∀ (i:Nat)(d:D),ρ[i]? = some (some d)->∃ v,σ[i]? = some (some v)/\IsD K π n H v d
section
variable {K:Sw}{π π' π2:Nat->Addr}{n n' n2:Nat}{H H' H2:Hp}{μ μ':Hm}{σ:St}{ρ:aJ}
theorem En.mono (E:En K π n H σ ρ)(e:Ext π n H π' n' H'):En K π' n' H' σ ρ:=
 ⟨E.len,fun i d h=>let ⟨v,a,c⟩:=E.get i d h;⟨v,a,c.mono e⟩⟩
theorem En.set (E:En K π n H σ ρ){v:V}{d:D}(h:IsD K π n H v d)(i:Nat):En K π n H (σ.set i (some v)) (ρ.set i (some d)):=by
 refine ⟨by rw [T4,T4];exact E.len,fun j l e=>?_⟩
 rw [ZF] at e ⊢
 by_cases a:i=j
 ·subst a
  rw [if_pos rfl] at e ⊢
  rw [E.len]
  by_cases c:i<ρ.length
  ·rw [if_pos c] at e ⊢
   cases e
   exact ⟨v,rfl,h⟩
  ·rw [if_neg c] at e
   cases e
 ·rw [if_neg a] at e ⊢
  exact E.get j l e
theorem Rp.ne {p:Addr}(R:Rp K π H μ)(h:H p=none){a:Nat}(c:a<μ.length):π a≠p:=fun e=>by
 have:=R.has a c
 rw [e,h] at this
 cases this
theorem Rp.fresh {p:Addr}{o:HO}(R:Rp K π H μ)(h:H p=none):Ext π μ.length H π μ.length (bA H p o)/\Rp K π (bA H p o) μ:=by
 have c:∀ b u,H b=some u->bA H p o b=some u:=fun b u e=>by
  rw [bX (gO e h)]
  exact e
 have e:Ext π μ.length H π μ.length (bA H p o):=⟨SM _,fun _ _=>rfl,fun q l e=>c q _ e,fun q o u e=>c q _ e⟩
 refine ⟨e,R.inj,fun a d=>?_,fun a y d=>?_,fun a r d=>?_,fun a s d=>?_
  ,fun a x v ds d=>?_
  ⟩
 ·rw [bX (R.ne h d)]
  exact R.has a d
 ·obtain ⟨l,i,j⟩:=R.lst a y d
  exact ⟨l,c _ _ i,j.mono e⟩
 ·obtain ⟨l,i,j,m⟩:=R.dK a r d
  exact ⟨l,c _ _ i,j,m.mono e⟩
 ·obtain ⟨l,i,j,m⟩:=R.st a s d
  exact ⟨l,c _ _ i,j,m.mono e⟩
 ·obtain ⟨w,z,i,j⟩:=R.exc a x v ds d
  exact ⟨w,z,c _ _ i,j.mono e⟩
noncomputable def rZ (K:Sw)(π:Nat->Addr)(n:Nat)(H:Hp)(p:Addr):C->HO->Prop
 | .lst xs,.lst vs=>IsDs K π n H vs xs
 | .dK kvs,.dK vs=>vs.map (·.1)=kvs.map (·.1)/\IsDs K π n H (vs.map (·.2)) (kvs.map (·.2))
 | .st ks,o=>∃ L:List Tb.El,o=rY p L/\L.map (·.1)=ks/\IsDs K π n H (L.map fun p=>V.ref p.2) (ks.map fun k=>D.tup (k.map D.int))
 | .exc x ns ds,o=>∃ (a:Obj)(c:Ua->Prop),o=.frz a (.ext c)/\ExcIs K π n H a x ns ds
 | _,_=>False
noncomputable def gR (π:Nat->Addr)(n:Nat)(p:Addr):Nat->Addr:=fun a=>if a=n then p else π a
theorem Rp.alloc {p:Addr}{c:C}{o:HO}(R:Rp K π H μ)(h:H p=none)(hc:rZ K π μ.length H p c o) :
  Ext π μ.length H (gR π μ.length p) (μ++[c]).length (bA H p o)/\Rp K (gR π μ.length p) (bA H p o) (μ++[c])/\gR π μ.length p μ.length=p:=by
 have I:(μ++[c]).length=μ.length+1:=by simp
 have i:∀ b u,H b=some u->bA H p o b=some u:=fun b u e=>by
  rw [bX (gO e h)]
  exact e
 have w:gR π μ.length p μ.length=p:=if_pos rfl
 have s:∀ a,a<μ.length->gR π μ.length p a=π a:=fun a d=>if_neg (S9 d)
 have e:Ext π μ.length H (gR π μ.length p) (μ++[c]).length (bA H p o):=⟨by rw [I];exact Ww _,s,fun q v e=>i q _ e,fun q o u e=>i q _ e⟩
 have split:∀ a,a<(μ++[c]).length->a<μ.length\/a=μ.length:=fun a d=>by rw [I] at d;omega
 have get:∀ a,a<μ.length->(μ++[c])[a]? = μ[a]?:=fun a d=>Tp d
 have l:(μ++[c])[μ.length]? = some c:=by simp
 refine ⟨e,⟨fun a b d z q=>?_,fun a d=>?_,fun a N d=>?_,fun a B d=>?_,fun a J d=>?_
  ,fun a x M ds d=>?_
  ⟩,w⟩
 ·rcases split a d with d|rfl<;>rcases split b z with z|rfl
  ·rw [s a d,s b z] at q
   exact R.inj a b d z q
  ·rw [s a d,w] at q
   exact absurd q (R.ne h d)
  ·rw [w,s b z] at q
   exact absurd q.symm (R.ne h z)
  ·rfl
 ·rcases split a d with d|rfl
  ·rw [s a d,bX (R.ne h d)]
   exact R.has a d
  ·rw [w,dX]
   rfl
 ·have j:a<(μ++[c]).length:=(SH.mp d).1
  rcases split a j with m|rfl
  ·rw [get a m] at d
   obtain ⟨v,y,r⟩:=R.lst a N d
   rw [s a m]
   exact ⟨v,i _ _ y,r.mono e⟩
  ·rw [l] at d
   cases d
   cases o with
   | lst v=>
    rw [w]
    exact ⟨v,dX,IsDs.mono e hc⟩
   | _=>exact Tx hc
 ·have j:a<(μ++[c]).length:=(SH.mp d).1
  rcases split a j with m|rfl
  ·rw [get a m] at d
   obtain ⟨v,y,r,A⟩:=R.dK a B d
   rw [s a m]
   exact ⟨v,i _ _ y,r,A.mono e⟩
  ·rw [l] at d
   cases d
   cases o with
   | dK v=>
    rw [w]
    exact ⟨v,dX,hc.1,IsDs.mono e hc.2⟩
   | _=>exact Tx hc
 ·have j:a<(μ++[c]).length:=(SH.mp d).1
  rcases split a j with m|rfl
  ·rw [get a m] at d
   obtain ⟨v,y,r,A⟩:=R.st a J d
   rw [s a m]
   exact ⟨v,i _ _ y,r,A.mono e⟩
  ·rw [l] at d
   cases d
   obtain ⟨L,rfl,r,A⟩:=hc
   rw [w]
   exact ⟨L,dX,r,A.mono e⟩
 ·have j:a<(μ++[c]).length:=(SH.mp d).1
  rcases split a j with m|rfl
  ·rw [get a m] at d
   obtain ⟨E,G,y,r⟩:=R.exc a x M ds d
   rw [s a m]
   exact ⟨E,G,i _ _ y,r.mono e⟩
  ·rw [l] at d
   cases d
   obtain ⟨E,G,rfl,r⟩:=hc
   rw [w]
   exact ⟨E,G,dX,r.mono e⟩
theorem Rp.put0 {a:Nat}{c:C}{o u:HO}(R:Rp K π H μ)(I:a<μ.length)(B:H (π a)=some u)(E:(∃ vs,u=.lst vs)\/(∃ vs,u=.dK vs)\/(∃ r,u=.ext r)\/∃ p r,u=.frz p (.ext r))(hc:rZ K π μ.length H (π a) c o) :
  Ext0 π μ.length H π (μ.set a c).length (bA H (π a) o)/\Rp K π (bA H (π a) o) (μ.set a c):=by
 have l:(μ.set a c).length=μ.length:=T4 ..
 have e:Ext0 π μ.length H π (μ.set a c).length (bA H (π a) o):=by
  refine ⟨VQ l.symm,fun _ _=>rfl,fun q vs z=>?_,fun q O Q nx z=>?_⟩
  ·rw [bX]
   ·exact z
   ·intro e
    subst e
    rw [B] at z
    rcases E with ⟨w,rfl⟩|⟨w,rfl⟩|⟨w,rfl⟩|⟨p,w,rfl⟩<;>cases z
  ·rw [bX]
   ·exact z
   ·intro e
    subst e
    rw [B] at z
    rcases E with ⟨w,rfl⟩|⟨w,rfl⟩|⟨w,rfl⟩|⟨p,w,rfl⟩<;>cases z
    exact nx _ rfl
 have other:∀ b,b<μ.length->b≠a->bA H (π a) o (π b)=H (π b):=fun b d y=>bX fun q=>y (R.inj b a d I q)
 refine ⟨e,⟨fun b G d v=>R.inj b G (l ▸ d) (l ▸ v),fun b d=>?_,fun b N d=>?_,fun b A d=>?_,fun b J d=>?_
  ,fun b x M ds d=>?_
  ⟩⟩
 ·by_cases h:b=a
  ·subst h
   rw [dX]
   rfl
  ·rw [other b (l ▸ d) h]
   exact R.has b (l ▸ d)
 ·have i:b<μ.length:=l ▸ (SH.mp d).1
  by_cases h:b=a
  ·subst h
   rw [S7 i] at d
   cases d
   cases o with
   | lst vs=>exact ⟨vs,dX,IsDs.mono0 e hc⟩
   | _=>exact Tx hc
  ·rw [TR (Ux h)] at d
   obtain ⟨vs,m,j⟩:=R.lst b N d
   exact ⟨vs,by rw [other b i h];exact m,j.mono0 e⟩
 ·have i:b<μ.length:=l ▸ (SH.mp d).1
  by_cases h:b=a
  ·subst h
   rw [S7 i] at d
   cases d
   cases o with
   | dK vs=>exact ⟨vs,dX,hc.1,IsDs.mono0 e hc.2⟩
   | _=>exact Tx hc
  ·rw [TR (Ux h)] at d
   obtain ⟨vs,m,j,s⟩:=R.dK b A d
   exact ⟨vs,by rw [other b i h];exact m,j,s.mono0 e⟩
 ·have i:b<μ.length:=l ▸ (SH.mp d).1
  by_cases h:b=a
  ·subst h
   rw [S7 i] at d
   cases d
   obtain ⟨L,rfl,j,s⟩:=hc
   exact ⟨L,dX,j,s.mono0 e⟩
  ·rw [TR (Ux h)] at d
   obtain ⟨vs,m,j,s⟩:=R.st b J d
   exact ⟨vs,by rw [other b i h];exact m,j,s.mono0 e⟩
 ·have i:b<μ.length:=l ▸ (SH.mp d).1
  by_cases h:b=a
  ·subst h
   rw [S7 i] at d
   cases d
   obtain ⟨p,r,rfl,j⟩:=hc
   exact ⟨p,r,dX,j.mono0 e⟩
  ·rw [TR (Ux h)] at d
   obtain ⟨p,r,m,j⟩:=R.exc b x M ds d
   exact ⟨p,r,by rw [other b i h];exact m,j.mono0 e⟩
theorem Rp.put {a:Nat}{c:C}{o u:HO}(R:Rp K π H μ)(j:a<μ.length)(d:H (π a)=some u)(i:(∃ vs,u=.lst vs)\/(∃ vs,u=.dK vs)\/∃ m,u=.ext m)(hc:rZ K π μ.length H (π a) c o) :
  Ext π μ.length H π (μ.set a c).length (bA H (π a) o)/\Rp K π (bA H (π a) o) (μ.set a c):=by
 have l:(μ.set a c).length=μ.length:=T4 ..
 have e:Ext π μ.length H π (μ.set a c).length (bA H (π a) o):=by
  refine ⟨VQ l.symm,fun _ _=>rfl,fun q vs z=>?_,fun q p r z=>?_⟩
  ·rw [bX]
   ·exact z
   ·intro e
    subst e
    rw [d] at z
    rcases i with ⟨w,rfl⟩|⟨w,rfl⟩|⟨w,rfl⟩<;>cases z
  ·rw [bX]
   ·exact z
   ·intro e
    subst e
    rw [d] at z
    rcases i with ⟨w,rfl⟩|⟨w,rfl⟩|⟨w,rfl⟩<;>cases z
 exact ⟨e,(R.put0 j d (i.imp_right fun h=>h.imp_right .inl) hc).2⟩
end
noncomputable def KC (K:Sw)(Q:VK)(π:Nat->Addr)(n:Nat)(H:Hp)(d:D)(a:Hm):Prop:=
 ∀ c v e,Ext π n H c a.length e->Rp K c e a->IsD K c a.length e v d->Q v e
theorem KC.after {K:Sw}{Q:VK}{π c:Nat->Addr}{n l:Nat}{H j:Hp}{d:D}{a:Hm}(k:KC K Q π n H d a)(e:Ext π n H c l j):KC K Q c l j d a:=
 fun h v m o R i=>k h v m (e.trans o) R i
noncomputable def tM (K:Sw)(m:ME):TE:=fun σ H Q=>∃ π e c d a,Rp K π H c/\En K π c.length H σ e/\m e c=some (d,a)/\KC K Q π c.length H d a
noncomputable def cS (K:Sw)(m:MT):TT:=fun σ H Q=>∃ π e d b a,Rp K π H d/\En K π d.length H σ e/\m e d=some (b,a)/\∀ c H',Ext π d.length H c a.length H'->Rp K c H' a->Q b H'
noncomputable def eC (K:Sw)(m:MA):TA:=fun σ H Q=>∃ π e d ds a,Rp K π H d/\En K π d.length H σ e/\m e d=some (ds,a)/\∀ c vs H',Ext π d.length H c a.length H'->Rp K c H' a->IsDs K c a.length H' vs ds->Q vs H'
noncomputable def lO (K:Sw)(E:Ends)(π:Nat->Addr)(n:Nat)(H:Hp)(j:Fl)(i:aJ)(c:Hm):Prop:=
 match j with
 | .nx=>∀ a e h,Ext π n H a c.length h->Rp K a h c->En K a c.length h e i->E.nx e h
 | .bk=>∀ a e h,Ext π n H a c.length h->Rp K a h c->En K a c.length h e i->E.bk e h
 | .ct=>∀ a e h,Ext π n H a c.length h->Rp K a h c->En K a c.length h e i->E.ct e h
 | .rt d=>KC K E.rt π n H d c
noncomputable def cU (K:Sw)(m:MS):TS:=fun E σ H=>∃ π h d e c a,Rp K π H d/\En K π d.length H σ h/\m h d=some (e,c,a)/\lO K E π d.length H e c a
noncomputable def eI (K:Sw)(k:Nat)(f:MF):Sp:=fun vs H Q _=>vs.length=k/\∃ π ds c d a,Rp K π H c/\IsDs K π c.length H vs ds/\f ds c=some (d,a)/\KC K Q π c.length H d a
section
variable {X:Cx}{e a b c:Expr}{t:TE}{m ma mb mc:ME}{pos:UA}
theorem cT (h:PE X e t)(hw:∀ σ H Q,tM X.K m σ H Q->t σ H Q):PE X e (tM X.K m):=fun a1r s σ H Q I q=>h a1r s σ H Q I (hw σ H Q q)
theorem o9 {t:TT}{m:MT}(h:PT X e t)(hw:∀ σ H Q,cS X.K m σ H Q->t σ H Q):PT X e (cS X.K m):=fun a1r s σ H Q I q=>h a1r s σ H Q I (hw σ H Q q)
theorem A4 {t:TT}{m:MT}(h:PW X e t)(hw:∀ σ H Q,cS X.K m σ H Q->t σ H Q):PW X e (cS X.K m):=fun d a1r s σ H Q I q=>h d a1r s σ H Q I (hw σ H Q q)
theorem A5 {es:List Expr}{t:TA}{m:MA}(h:PA X es t)(hw:∀ σ H Q,eC X.K m σ H Q->t σ H Q):PA X es (eC X.K m):=fun p a1r s σ H Q I q=>h p a1r s σ H Q I (hw σ H Q q)
theorem iD {st:Stmt}{t:TS}{m:MS}(h:PS X st t)(hw:∀ E σ H,cU X.K m E σ H->t E σ H):PS X st (cU X.K m):=fun a1r s σ H E I q=>h a1r s σ H E I (hw E σ H q)
theorem A6 {st:List Stmt}{t:TS}{m:MS}(h:PSs X st t)(hw:∀ E σ H,cU X.K m E σ H->t E σ H):PSs X st (cU X.K m):=fun a1r s σ H E I q=>h a1r s σ H E I (hw E σ H q)
noncomputable def aA (i:Nat):ME:=fun j h=>match j[i]? with|some (some d)=>some (d,h)|_=>none
noncomputable def mC (d:D):ME:=fun _ h=>some (d,h)
theorem A7 {i:Nat}{n:aJ}{l j:Hm}{d:D}(h:aA i n l=some (d,j)):n[i]? = some (some d)/\j=l:=by
 unfold aA at h
 split at h
 ·rename_i o e
  cases h
  exact ⟨e,rfl⟩
 ·cases h
theorem HN {x:Str}(i:Nat)(h:PE X (.Name x pos) (uT i)):PE X (.Name x pos) (tM X.K (aA i)):=cT h (by
 rintro u H Q ⟨q,s,r,d,p,R,E,o,k⟩
 obtain ⟨j,rfl⟩:=A7 o
 obtain ⟨v,l,n⟩:=E.get i d j
 exact ⟨v,l,k q v H .refl R n⟩)
theorem m9 {v:V}{d:D}(h:PE X e (tC v))(hd:∀ π n H,IsD X.K π n H v d):PE X e (tM X.K (mC d)):=cT h (by
 rintro q H Q ⟨π,p,o,l,j,R,E,i,k⟩
 cases i
 exact k π v H .refl R (hd _ _ _))
theorem HP {i:Int}{j:Nat}:PE X (.Constant (.int i) j pos) (tM X.K (mC (.int i))):=m9 Fj fun _ _ _=>.int i
theorem HQ {i:Bool}{j:Nat}:PE X (.Constant (.bool i) j pos) (tM X.K (mC (.bl i))):=m9 Fm fun _ _ _=>.bl i
theorem HR {i:Str}{j:Nat}:PE X (.Constant (.str i) j pos) (tM X.K (mC (.str i))):=m9 Fp fun _ _ _=>.str i
theorem HS {j:Nat}:PE X (.Constant .none j pos) (tM X.K (mC .non)):=m9 Fn fun _ _ _=>.non
noncomputable def aC (f:D->D->Hm->Option (D×Hm))(a b:ME):ME:=fun d h=>(a d h).bind fun p=>(b d p.2).bind fun q=>f p.1 q.1 q.2
noncomputable def dC (K:Sw)(f:D->D->Hm->Option (D×Hm))(r:R2):Prop:=
 ∀ j H h x y d i l n Q,Rp K j H h->IsD K j h.length H l x->IsD K j h.length H n y->f x y h=some (d,i)->KC K Q j h.length H d i->r l n H Q
theorem pD {f:D->D->Hm->Option (D×Hm)}{r:R2}{K:Sw}(A:dC K f r):∀ σ H Q,tM K (aC f ma mb) σ H Q->oX r (tM K ma) (tM K mb) σ H Q:=by
 rintro σ H Q ⟨M,s,L,d,l,R,E,h,k⟩
 obtain ⟨⟨x,i⟩,w,h⟩:=Su.mp h
 obtain ⟨⟨y,j⟩,z,h⟩:=Su.mp h
 exact ⟨M,s,L,x,i,R,E,w,fun n I N p v B=>⟨n,s,i,y,j,v,E.mono p,z,fun o J u q R2 G=>A o u j x y d l I J Q R2 (B.mono q) G h (k.after (p.trans q))⟩⟩
theorem HU {d:Yz}{r:R2}{f:D->D->Hm->Option (D×Hm)}(l:OpR X (Vm d) r)(j:dC X.K f r)(h:PE X a (tM X.K ma))(i:PE X b (tM X.K mb)):PE X (.BinOp a d b pos) (tM X.K (aC f ma mb)):=
 cT (Gq l h i) (pD j)
theorem iU {d:Wo}{r:R2}{f:D->D->Hm->Option (D×Hm)}(n:OpR X (UB d) r)(j:dC X.K f r)(h:PE X a (tM X.K ma))(i:PE X b (tM X.K mb))(l:VI d b=false):PE X (.Compare a [d] [b] pos) (tM X.K (aC f ma mb)):=
 cT (Gx n h i l) (pD j)
noncomputable def aM (m:ME):MT:=fun h d=>(m h d).bind fun p=>match p.1 with|.bl b=>some (b,p.2)|_=>none
theorem vW {K:Sw}:∀ σ H Q,cS K (aM m) σ H Q->tM K m σ H fun x H'=>∃ k,x=.bl k/\Q k H':=by
 rintro σ H Q ⟨r,s,o,b,p,R,E,d,k⟩
 obtain ⟨⟨x,q⟩,l,d⟩:=Su.mp d
 cases x with
 | bl c=>
  cases d
  refine ⟨r,s,o,_,_,R,E,l,fun h v H' j i n=>?_⟩
  cases n
  exact ⟨_,rfl,k h H' j i⟩
 | _=>cases d
theorem iV {d:Wo}{r:R2}{f:D->D->Hm->Option (D×Hm)}(p:OpR X (UB d) r)(n:dC X.K f r)(j:PE X a (tM X.K ma))(l:PE X b (tM X.K mb))(o:VI d b=false):PT X (.Compare a [d] [b] pos) (cS X.K (aM (aC f ma mb))):=
 o9 (Gy p j l o) fun i H Q h=>pD n i H _ (vW i H Q h)
theorem HV (h:PE X e (tM X.K m))(i:∀ d,X3 e X.env d=(do let v <- d;a0l e.pos;holding [v] (truthy v)):=by intro _;rfl):PT X e (cS X.K (aM m)):=
 o9 (Ft h i) fun j H Q h=>vW j H Q h
end
end L3
namespace L3
open PySem L2
section
variable {X:Cx}{e a b c:Expr}{m ma mb mc:ME}{pos:UA}{mt mu:MT}{rest:List Expr}
noncomputable def nB (a b:MT):MT:=fun d h=>(a d h).bind fun p=>match p.1 with|true=>b d p.2|false=>some (false,p.2)
noncomputable def dR (a b:MT):MT:=fun d h=>(a d h).bind fun p=>match p.1 with|true=>some (true,p.2)|false=>b d p.2
noncomputable def gC (a:MT):MT:=fun h d=>(a h d).map fun p=>(!p.1,p.2)
theorem HW (d:PT X a (cS X.K mt)):PW X (.BoolOp .And [a] pos) (cS X.K mt):=Fx d
theorem HX (d:PT X a (cS X.K mt)):PW X (.BoolOp .Or [a] pos) (cS X.K mt):=Fy d
theorem HY (w:PT X a (cS X.K mt))(y:PW X (.BoolOp .And (b::rest) pos) (cS X.K mu)):PW X (.BoolOp .And (a::b::rest) pos) (cS X.K (nB mt mu)):=A4 (Fz w y) (by
 rintro B H Q ⟨A,q,z,d,n,R,E,j,k⟩
 obtain ⟨⟨x,h⟩,v,j⟩:=Su.mp j
 refine ⟨A,q,z,x,h,R,E,v,fun i r l p=>?_⟩
 cases x with
 | true=>
  refine kJ ?_
  exact ⟨i,q,h,d,n,p,E.mono l,j,fun o s u R2=>k o s (l.trans u) R2⟩
 | false=>
  refine kI ?_
  cases j
  exact k i r l p)
theorem HZ (w:PT X a (cS X.K mt))(y:PW X (.BoolOp .Or (b::rest) pos) (cS X.K mu)):PW X (.BoolOp .Or (a::b::rest) pos) (cS X.K (dR mt mu)):=A4 (FA w y) (by
 rintro B H Q ⟨A,q,z,d,n,R,E,j,k⟩
 obtain ⟨⟨x,h⟩,v,j⟩:=Su.mp j
 refine ⟨A,q,z,x,h,R,E,v,fun i r l p=>?_⟩
 cases x with
 | true=>
  refine kJ ?_
  cases j
  exact k i r l p
 | false=>
  refine kI ?_
  exact ⟨i,q,h,d,n,p,E.mono l,j,fun o s u R2=>k o s (l.trans u) R2⟩)
theorem Ia (q:PT X a (cS X.K mt)):PT X (.UnaryOp .Not a pos) (cS X.K (gC mt)):=o9 (FC q) (by
 rintro w H Q ⟨u,v,r,d,s,R,E,h,k⟩
 obtain ⟨⟨x,i⟩,p,h⟩:=SA.mp h
 cases h
 exact ⟨u,v,r,x,i,R,E,p,fun j l o n=>k j l o n⟩)
noncomputable def jM (a b:ME):ME:=fun d h=>(a d h).bind fun p=>match p.1 with|.bl true=>b d p.2|.bl false=>some (.bl false,p.2)|_=>none
noncomputable def vX (a b:ME):ME:=fun d h=>(a d h).bind fun p=>match p.1 with|.bl true=>some (.bl true,p.2)|.bl false=>b d p.2|_=>none
noncomputable def lP (a:ME):ME:=fun h d=>(a h d).bind fun p=>match p.1 with|.bl b=>some (.bl (!b),p.2)|_=>none
theorem Ib {d:BoolOp}(h:PE X a (tM X.K m)):PE X (.BoolOp d [a] pos) (tM X.K m):=FG h
theorem Ic (s:PE X a (tM X.K ma))(u:PE X (.BoolOp .And (b::rest) pos) (tM X.K mb)):PE X (.BoolOp .And (a::b::rest) pos) (tM X.K (jM ma mb)):=cT (FH s u) (by
 rintro A H Q ⟨y,p,w,d,n,R,E,h,k⟩
 obtain ⟨⟨x,i⟩,r,h⟩:=Su.mp h
 cases x with
 | bl c=>
  refine ⟨y,p,w,.bl c,i,R,E,r,fun j z q l o v=>?_⟩
  cases v
  refine ⟨c,rfl,?_⟩
  cases c with
  | true=>
   refine kJ ?_
   exact ⟨j,p,i,d,n,o,E.mono l,h,k.after l⟩
  | false=>
   refine kI ?_
   cases h
   exact k j _ q l o (.bl false)
 | _=>cases h)
theorem Ie (s:PE X a (tM X.K ma))(u:PE X (.BoolOp .Or (b::rest) pos) (tM X.K mb)):PE X (.BoolOp .Or (a::b::rest) pos) (tM X.K (vX ma mb)):=cT (FI s u) (by
 rintro A H Q ⟨y,p,w,d,n,R,E,h,k⟩
 obtain ⟨⟨x,i⟩,r,h⟩:=Su.mp h
 cases x with
 | bl c=>
  refine ⟨y,p,w,.bl c,i,R,E,r,fun j z q l o v=>?_⟩
  cases v
  refine ⟨c,rfl,?_⟩
  cases c with
  | true=>
   refine kJ ?_
   cases h
   exact k j _ q l o (.bl true)
  | false=>
   refine kI ?_
   exact ⟨j,p,i,d,n,o,E.mono l,h,k.after l⟩
 | _=>cases h)
theorem Ig (p:PE X a (tM X.K ma)):PE X (.UnaryOp .Not a pos) (tM X.K (lP ma)):=cT (FJ p) (by
 rintro z H Q ⟨v,w,r,d,s,R,E,h,k⟩
 obtain ⟨⟨x,u⟩,o,h⟩:=Su.mp h
 cases x with
 | bl c=>
  cases h
  refine ⟨v,w,r,_,_,R,E,o,fun i y j n l q=>?_⟩
  cases q
  exact ⟨_,rfl,k i _ j n l (.bl _)⟩
 | _=>cases h)
noncomputable def iW (t:MT)(a b:ME):ME:=fun d h=>(t d h).bind fun p=>match p.1 with|true=>a d p.2|false=>b d p.2
theorem Ih (hc:PT X c (cS X.K mt))(r:PE X a (tM X.K ma))(s:PE X b (tM X.K mb)):PE X (.IfExp c a b pos) (tM X.K (iW mt ma mb)):=cT (FL hc r s) (by
 rintro y H Q ⟨v,o,u,d,i,R,E,n,k⟩
 obtain ⟨⟨x,h⟩,q,n⟩:=Su.mp n
 refine ⟨v,o,u,x,h,R,E,q,fun j w l p=>?_⟩
 cases x with
 | true=>
  refine kJ ?_
  exact ⟨j,o,h,d,i,p,E.mono l,n,k.after l⟩
 | false=>
  refine kI ?_
  exact ⟨j,o,h,d,i,p,E.mono l,n,k.after l⟩)
noncomputable def aD:MA:=fun _ d=>some ([],d)
noncomputable def aB (a:ME)(r:MA):MA:=fun d h=>(a d h).bind fun p=>(r d p.2).bind fun q=>some (p.1::q.1,q.2)
variable {es:List Expr}{ms:MA}
theorem Ii:PA X [] (eC X.K aD):=A5 rR (by
 rintro o H Q ⟨j,n,l,d,i,R,E,h,k⟩
 cases h
 exact k j [] H .refl R .nil)
theorem Ij (w:PE X e (tM X.K m))(y:PA X es (eC X.K ms))(z:Tu (e::es) X.env=(false,eval e X.env)::Tu es X.env:=by rfl):PA X (e::es) (eC X.K (aB m ms)):=A5 (rS w y z) (by
 rintro O H Q ⟨K,q,I,d,J,R,E,h,k⟩
 obtain ⟨⟨x,i⟩,u,h⟩:=Su.mp h
 obtain ⟨⟨G,j⟩,v,h⟩:=Su.mp h
 cases h
 exact ⟨K,q,I,x,i,R,E,u,fun l M L o s A=>⟨l,q,i,G,j,s,E.mono o,v,fun n N r p R2 B=>k n _ r (o.trans p) R2 (.cons (A.mono p) B)⟩⟩)
noncomputable def gS (ms:MA):ME:=fun h d=>(ms h d).bind fun p=>if p.1.length<=SK then some (.tup p.1,p.2) else none
noncomputable def bU (ms:MA):ME:=fun h d=>(ms h d).bind fun p=>if p.1.length<=SK then some (.loc p.2.length,p.2++[.lst p.1]) else none
theorem Ik {x1:Nat}(h:PA X es (eC X.K ms)):PE X (.Tuple es x1 pos) (tM X.K (gS ms)):=cT (Al h) (by
 rintro I H Q ⟨z,A,w,d,x,R,E,i,k⟩
 obtain ⟨⟨G,y⟩,r,i⟩:=Su.mp i
 split at i
 ·rename_i s
  cases i
  refine ⟨z,A,w,_,_,R,E,r,fun j v B q o n=>⟨by rw [n.length];exact s,fun p u=>?_⟩⟩
  obtain ⟨l,R2⟩:=o.fresh (o:=.tup v) u
  exact k j _ _ (q.trans l) R2 (.tup (.of dX) (n.mono l))
 ·cases i)
theorem Il (h:PA X es (eC X.K ms)):PE X (.List es pos) (tM X.K (bU ms)):=cT (GJ h) (by
 rintro K H Q ⟨I,J,B,d,G,R,E,j,k⟩
 obtain ⟨⟨n,i⟩,x,j⟩:=Su.mp j
 split at j
 ·rename_i y
  cases j
  refine ⟨I,J,B,n,i,R,E,x,fun l o r v u s=>⟨by rw [s.length];exact y,fun p z=>?_⟩⟩
  obtain ⟨w,R2,q⟩:=u.alloc (c:=.lst n) (o:=.lst o) z s
  have A:IsD X.K (gR l i.length p) (i++[C.lst n]).length (bA r p (.lst o)) (.ref p) (.loc i.length):=by
   have:=IsD.loc (K:=X.K) (π:=gR l i.length p) (n:=(i++[C.lst n]).length) (H:=bA r p (.lst o)) (a:=i.length) (by simp)
   rw [q] at this
   exact this
  exact k _ _ _ (v.trans w) R2 A
 ·cases j)
noncomputable def aE (f:MF)(ms:MA):ME:=fun h d=>(ms h d).bind fun p=>f p.1 p.2
theorem A8 {K:Sw}{f:MF}{n:Nat}{E:XK}(x:∀ l j ds h,ms l j=some (ds,h)->ds.length=n):∀ σ H Q,tM K (aE f ms) σ H Q->rV (eI K n f) [] E (eC K ms) σ H Q:=by
 rintro σ H Q ⟨z,l,j,d,h,R,E,o,k⟩
 obtain ⟨⟨p,i⟩,r,o⟩:=Su.mp o
 refine ⟨z,l,j,p,i,R,E,r,fun q y u w v s=>?_⟩
 show eI K n f (y++[]) u Q _
 rw [Um]
 exact ⟨by rw [s.length];exact x l j p i r,q,p,i,d,h,v,s,o,k.after w⟩
theorem Im:∀ j i ds d,aD j i=some (ds,d)->ds.length=0:=by
 intro j i ds d h
 cases h
 rfl
theorem Io {n:Nat}(h:∀ j l ds d,ms j l=some (ds,d)->ds.length=n):∀ j l ds d,aB m ms j l=some (ds,d)->ds.length=n+1:=by
 intro j l ds d i
 obtain ⟨⟨x,o⟩,s,i⟩:=Su.mp i
 obtain ⟨⟨q,r⟩,p,i⟩:=Su.mp i
 cases i
 rw [SY,h j o q _ p]
theorem Ip {k:Nat}{f:Addr}{j:Ul}{ps:List Str}{l:MF}{x:Str}{p:UA}{n:Nat}(F:FnOk X.prog X.w X.K X.mg X.base eB k f j ps (eI X.K n l))(y:Room k X.A)(s:Gl X x)(v:X.mg x=some (.ref f))
  (u:T6 X.K (.ref f)=true)(q:Binds X.K j ps [])(o:PA X (e::es) (eC X.K ms))(w:∀ A z ds i,ms A z=some (ds,i)->ds.length=n)(d:(x == ("__debug__":Str))=false:=by decide)
  (r:Tu (e::es) X.env=(false,eval e X.env)::Tu es X.env:=by rfl)(h:(Vg pos (Tu es X.env)).any (·.1)=false:=by rfl) :
  PE X (.Call (.Name x p) (e::es) [] pos) (tM X.K (aE l ms)):=
 cT (GK F y s v u q .nil (E:=E0) AV o d r h) (A8 w)
noncomputable def cY (K:Sw)(f:MF)(r:List V->Hp->VK->Prop):Prop:=
 ∀ j H i n d h l Q,Rp K j H i->IsDs K j i.length H l n->f n i=some (d,h)->KC K Q j i.length H d h->r l H Q
theorem A9 {K:Sw}{f:MF}{r:List V->Hp->VK->Prop}(u:cY K f r):∀ σ H Q,tM K (aE f ms) σ H Q->m5 r (eC K ms) σ H Q:=by
 rintro σ H Q ⟨y,z,x,d,j,R,E,i,k⟩
 obtain ⟨⟨n,h⟩,s,i⟩:=Su.mp i
 exact ⟨y,z,x,n,h,R,E,s,fun l w o q p v=>u l o h n d j w Q p v i (k.after q)⟩
theorem Iq {f:MF}{r:List V->Hp->VK->Prop}{id:String}{x:Str}{p:UA}(hc:CallR X (.builtin id) r)(l:cY X.K f r)(n:Gl X x)(o:X.mg x=none)(s:Ut x=some (.builtin id))(i:PA X (e::es) (eC X.K ms))
  (q:x ≠ "__name__":=by decide) (d:(x == ("__debug__":Str))=false:=by decide)
  (j:Tu (e::es) X.env=(false,eval e X.env)::Tu es X.env:=by rfl)(h:(Vg pos (Tu es X.env)).any (·.1)=false:=by rfl):PE X (.Call (.Name x p) (e::es) [] pos) (tM X.K (aE f ms)):=
 cT (GN hc n o s i q d j h) (A9 l)
theorem Ir {f:MF}{r:List V->Hp->VK->Prop}{T:String}{x:Str}{p:UA}(hc:CallR X (.type T) r)(l:cY X.K f r)(n:Gl X x)(o:X.mg x=none)(s:Ut x=some (.type T))(i:PA X (e::es) (eC X.K ms))
  (q:x ≠ "__name__":=by decide) (d:(x == ("__debug__":Str))=false:=by decide)
  (j:Tu (e::es) X.env=(false,eval e X.env)::Tu es X.env:=by rfl)(h:(Vg pos (Tu es X.env)).any (·.1)=false:=by rfl):PE X (.Call (.Name x p) (e::es) [] pos) (tM X.K (aE f ms)):=
 cT (vA hc n o s i q d j h) (A9 l)
noncomputable def bS (d:Hm):D->Option (List D)
 | .tup xs=>some xs
 | .rol xs=>some xs
 | .loc a=>match d[a]? with|some (.lst xs)=>some xs|_=>none
 | _=>none
noncomputable def dY:D->D->Hm->Option (D×Hm)
 | .str z,.int i,μ=>if z.length<=SK then (atI z.cps.toList i).map fun c=>(.str ⟨#[c]⟩,μ) else none
 | x,.int i,μ=>(bS μ x).bind fun h=>(atI h i).map fun d=>(d,μ)
 | _,_,_=>none
theorem Iu {K:Sw}:dC K dY (AI K):=by
 intro q H O x y d I M N Q R s E j k
 cases E with
 | int i=>
  cases s with
  | str z=>
   simp only [dY] at j
   split at j
   ·rename_i A
    obtain ⟨c,l,n⟩:=SA.mp j
    cases n
    exact .inr (.inr ⟨z,i,c,rfl,rfl,A,l,k q _ H .refl R (.str _)⟩)
   ·cases j
  | tup h t=>
   simp only [dY,bS,S1] at j
   obtain ⟨r,l,n⟩:=SA.mp j
   cases n
   obtain ⟨v,o,p⟩:=t.atI l
   exact .inr (.inl ⟨_,_,i,v,rfl,rfl,h,o,k q _ H .refl R p⟩)
  | rol h t=>
   simp only [dY,bS,S1] at j
   obtain ⟨r,l,n⟩:=SA.mp j
   cases n
   obtain ⟨v,o,p⟩:=t.atI l
   exact .inl ⟨_,_,i,v,rfl,rfl,h.sq,o,k q _ H .refl R p⟩
  | @loc a J=>
   simp only [dY,bS] at j
   split at j
   ·rename_i G B
    simp only [S1] at j
    obtain ⟨r,l,n⟩:=SA.mp j
    cases n
    obtain ⟨L,u,w⟩:=R.lst a G B
    obtain ⟨v,o,p⟩:=w.atI l
    exact .inl ⟨_,_,i,v,rfl,rfl,.of u,o,k q _ H .refl R p⟩
   ·cases j
  | _=>simp [dY,bS] at j
 | _=>cases s<;>simp [dY] at j
theorem Iv (d:PE X a (tM X.K ma))(h:PE X b (tM X.K mb))(i:vL b):PE X (.Subscript a b pos) (tM X.K (aC dY ma mb)):=cT (Hd Hf d h i) (pD Iu)
noncomputable def e8 (xs:List D)(lo d:Option Int):List D:=(xs.drop (HT.sIx xs.length 0 lo)).take (HT.sIx xs.length xs.length d - HT.sIx xs.length 0 lo)
noncomputable abbrev MO:=aJ->Hm->Option (Option Int×Hm)
noncomputable def dZ:MO:=fun _ d=>some (none,d)
noncomputable def dD (m:ME):MO:=fun h d=>(m h d).bind fun p=>match p.1 with|.int i=>some (some i,p.2)|_=>none
noncomputable def pE (K:Sw)(m:MO):TO:=fun σ H Q=>∃ π j i o d,Rp K π H i/\En K π i.length H σ j/\m j i=some (o,d)/\∀ h H',Ext π i.length H h d.length H'->Rp K h H' d->Q o H'
theorem Iw:PO X none (pE X.K dZ):=fun a1r s σ H Q I q=>G8 a1r s σ H Q I (by
 obtain ⟨i,l,j,o,h,R,E,d,k⟩:=q
 cases d
 exact k i H .refl R)
theorem Iy (h:PE X e (tM X.K m)):PO X (some e) (pE X.K (dD m)):=fun a1r s σ H Q I q=>G9 h a1r s σ H Q I (by
 obtain ⟨z,A,v,o,w,R,E,d,k⟩:=q
 obtain ⟨⟨x,y⟩,r,d⟩:=Su.mp d
 cases x with
 | int i=>
  cases d
  refine ⟨z,A,v,_,_,R,E,r,fun j B l p n u=>?_⟩
  cases u
  exact ⟨_,rfl,k j l p n⟩
 | _=>cases d)
noncomputable def fN (z:Str)(lo d:Option Int):Str:=⟨((z.cps.toList.drop (HT.sIx z.length 0 lo)).take (HT.sIx z.length z.length d - HT.sIx z.length 0 lo)).toArray⟩
theorem Ba (lo l:Option Int)(n:Nat):Uv lo l 1 n=(Td (HT.sIx n n l - HT.sIx n 0 lo)).map (HT.sIx n 0 lo+·):=by
 rw [<- a1j]
 have d:∀ i:Int,max 0 (min (if i<0 then i+(n:Int) else i) (n:Int))=(((if i<0 then (i+(n:Int)).toNat else min i.toNat n:Nat)):Int):=fun i=>by
  by_cases h:i<0
  ·simp only [h,if_true];omega
  ·simp only [h,if_false];omega
 unfold Uv HT.sIx
 simp only [show ((1:Int)>0)=True from by simp,if_true]
 cases lo with
 | none=>
  cases l with
  | none=>rfl
  | some j=>dsimp only;rw [d j];rfl
 | some i=>
  cases l with
  | none=>dsimp only;rw [d i]
  | some j=>dsimp only;rw [d i,d j]
theorem oY {n d:Nat}(hd:d<=n)(v:Option Int):HT.sIx n d v<=n:=by
 unfold HT.sIx
 cases v with
 | none=>exact hd
 | some i=>simp only;split<;>omega
theorem Iz (z:Str)(lo d:Option Int):(⟨((Uv lo d 1 z.length).filterMap (z.cps[·]?)).toArray⟩:Str)=fN z lo d:=by
 unfold fN
 have i:z.cps.toList.length=z.length:=by simp [X7]
 have j:=oY (Uo z.length) lo
 have l:=oY (SM z.length) d
 rw [Ba]
 have h:=StrLaws.picks z.cps.toList (HT.sIx z.length z.length d - HT.sIx z.length 0 lo) (HT.sIx z.length 0 lo)
 by_cases c:HT.sIx z.length 0 lo<=HT.sIx z.length z.length d
 ·have h:=h (by rw [i];omega)
  have e:(fun x:Nat=>z.cps.toList[x]?)=(fun x:Nat=>z.cps[x]?):=by funext x;simp
  rw [e] at h
  rw [<- h]
 ·rw [show HT.sIx z.length z.length d - HT.sIx z.length 0 lo=0 by omega]
  simp
theorem IA {z:Str}{lo d:Option Int}(h:(Uv lo d 1 z.length).length=z.length):fN z lo d=z:=by
 have i:z.cps.toList.length=z.length:=by simp [X7]
 have j:=oY (Uo z.length) lo
 have l:=oY (SM z.length) d
 rw [Ba,Sx,Wv] at h
 unfold fN
 have:(z.cps.toList.drop (HT.sIx z.length 0 lo)).take (HT.sIx z.length z.length d - HT.sIx z.length 0 lo)=z.cps.toList:=by
  by_cases c:z.length=0
  ·have:z.cps.toList=[]:=VG.mp (by rw [i];exact c)
   rw [this];simp
  ·rw [show HT.sIx z.length 0 lo=0 by omega,Wr,UC (by rw [i];omega)]
 rw [this]
noncomputable def Bb:V->Option Int->Option Int->Hp->VK->Prop:=fun x lo d H Q=>∃ z,x=.str z/\z.length<=SK/\Q (.str (fN z lo d)) H
theorem Bc {v:Value}{o:Option Int}(p:a1n v o):∃ l:Option (Int×a0A),v=partValue l/\l.map (·.1)=o:=by
 cases p with
 | none=>exact ⟨none,rfl,rfl⟩
 | int i t=>exact ⟨some (i,t),rfl,rfl⟩
theorem IB {X:Cx}:SlR X Bb:=by
 intro n s T H x v O R d j N Q I L G J K h
 obtain ⟨z,rfl,M,q⟩:=h
 obtain ⟨t,rfl⟩:=L
 obtain ⟨l,rfl,p⟩:=Bc J
 obtain ⟨u,rfl,r⟩:=Bc K
 refine ⟨"str",_,F.slot_str_getitem.lookup,XA s z t,?_⟩
 obtain ⟨o,w,y,A⟩:=G
 refine wpAny_getItem_str_slice (l:=l) (u:=u) (st:=none) ⟨o,w,y,A⟩ rfl ?_
 have E:slicePicked z l u none=Uv d j 1 z.length:=by
  unfold slicePicked;rw [p,r];rfl
 unfold sliceMade
 rw [E]
 split
 ·rename_i hc
  have i:(Uv d j 1 z.length).length=z.length:=by
   simp only [Sy,beq_iff_eq] at hc
   exact hc.2
  rw [IA i] at q
  exact ⟨.str z,H,I,⟨t,rfl⟩,q⟩
 ·rw [Iz]
  refine ⟨?_,.str _,H,I.tok _,⟨_,rfl⟩,q⟩
  have B:z.cps.toList.length=z.length:=by simp [X7]
  show ((z.cps.toList.drop (HT.sIx z.length 0 d)).take (HT.sIx z.length z.length j - HT.sIx z.length 0 d)).toArray.size<=SK
  rw [S3,Tw,T8,B]
  omega
noncomputable def Bd (K:Sw):V->Option Int->Option Int->Hp->VK->Prop:=fun x lo d H Q=>vO K x lo d H Q\/Bb x lo d H Q
theorem IC {X:Cx}:SlR X (Bd X.K):=sl_list.or IB
theorem Be {K:Sw}{x:V}{lo d:Option Int}{H:Hp}{Q:VK}(h:vO K x lo d H Q):Bd K x lo d H Q:=.inl h
noncomputable def dN (a:ME)(lo h:MO):ME:=fun d j=>(a d j).bind fun p=>(lo d p.2).bind fun q=>(h d q.2).bind fun r=>
 match p.1 with
 | .tup _=>none
 | .str z=>if z.length<=SK then some (.str (fN z q.1 r.1),r.2) else none
 | x=>(bS r.2 x).bind fun i=>some (.loc r.2.length,r.2++[.lst (e8 i q.1 r.1)])
theorem Bf {K:Sw}{π:Nat->Addr}{n:Nat}{H:Hp}{vs:List V}{ds:List D}(h:IsDs K π n H vs ds)(lo d:Option Int):IsDs K π n H (kH vs lo d) (e8 ds lo d):=by
 unfold kH e8
 rw [h.length]
 exact (h.drop _).take _
theorem jN {K:Sw}{π:Nat->Addr}{d:Hm}{p:Addr}{c:C}{H:Hp}:IsD K (gR π d.length p) (d++[c]).length H (.ref p) (.loc d.length):=by
 have:=IsD.loc (K:=K) (π:=gR π d.length p) (n:=(d++[c]).length) (H:=H) (a:=d.length) (by simp)
 rw [show gR π d.length p d.length=p from if_pos rfl] at this
 exact this
theorem ID {lo L:Option Expr}{N M:MO}{p2:UA}(ha:PE X a (tM X.K ma))(hl:PO X lo (pE X.K N))(hu:PO X L (pE X.K M)):PE X (.Subscript a (.Slice lo L none p2) pos) (tM X.K (dN ma N M)):=cT (Hb IC ha hl hu) (by
 rintro σ H Q ⟨π,K,μ,d,μ',R,E,j,k⟩
 obtain ⟨⟨x,r⟩,U,j⟩:=Su.mp j
 obtain ⟨⟨l,s⟩,Y,j⟩:=Su.mp j
 obtain ⟨⟨u,G⟩,Z,j⟩:=Su.mp j
 refine ⟨π,K,μ,x,r,R,E,U,fun I v1 H1 n T i1=>⟨I,K,r,l,s,T,E.mono n,Y,fun J H2 o R2=>⟨J,K,s,u,G,R2,(E.mono n).mono o,Z,fun π3 H3 w v=>?_⟩⟩⟩
 have i3:=(i1.mono o).mono w
 cases i3 with
 | rol h t=>
  simp only [bS,S1] at j
  cases j
  refine Be ⟨_,_,rfl,h.sq,fun p B=>?_⟩
  obtain ⟨A,y,q⟩:=v.alloc (c:=.lst (e8 _ l u)) (o:=.lst (kH _ l u)) B (Bf t l u)
  exact k _ _ _ (((n.trans o).trans w).trans A) y jN
 | @loc i hi'=>
  simp only [bS] at j
  split at j
  ·rename_i O hx
   simp only [S1] at j
   cases j
   obtain ⟨vs,h5,h6⟩:=v.lst i O hx
   refine Be ⟨_,_,rfl,.of h5,fun p B=>?_⟩
   obtain ⟨A,y,q⟩:=v.alloc (c:=.lst (e8 O l u)) (o:=.lst (kH vs l u)) B (Bf h6 l u)
   exact k _ _ _ (((n.trans o).trans w).trans A) y jN
  ·cases j
 | tup h t=>simp at j
 | str z=>
  simp only at j
  split at j
  ·rename_i hz
   cases j
   exact .inr ⟨z,rfl,hz,k _ _ _ ((n.trans o).trans w) v (.str _)⟩
  ·cases j
 | _=>simp [bS] at j)
end
section
variable {X:Cx}{e a b c:Expr}{m:ME}{pos:UA}{mt:MT}{st:Stmt}{rest body orelse:List Stmt}{ms mr mu:MS}
noncomputable def bP:MS:=fun h d=>some (.nx,h,d)
noncomputable def aN (a b:MS):MS:=fun h d=>(a h d).bind fun p=>match p.1 with|.nx=>b p.2.1 p.2.2|_=>some p
noncomputable def aY (m:ME):MS:=fun d h=>(m d h).map fun p=>(.rt p.1,d,p.2)
noncomputable def bC (m:ME):MS:=fun d h=>(m d h).map fun p=>(.nx,d,p.2)
noncomputable def a9 (t:MT)(a b:MS):MS:=fun d h=>(t d h).bind fun p=>match p.1 with|true=>a d p.2|false=>b d p.2
noncomputable def aW (i:Nat)(m:ME):MS:=fun d h=>(m d h).map fun p=>(.nx,d.set i (some p.1),p.2)
theorem IE:PSs X [] (cU X.K bP):=A6 FQ (by
 rintro E n H ⟨j,q,p,o,l,i,R,d,h,k⟩
 cases h
 exact k j n H .refl R d)
theorem IF (s:PS X st (cU X.K ms))(G:PSs X rest (cU X.K mr)):PSs X (st::rest) (cU X.K (aN ms mr)):=A6 (FR s G) (by
 rintro E N H ⟨J,K,I,y,w,u,R,A,j,k⟩
 obtain ⟨⟨x,q,p⟩,s,j⟩:=Su.mp j
 refine ⟨J,K,I,x,q,p,R,A,s,?_⟩
 cases x with
 | nx=>
  intro v L M r B z
  refine ⟨v,q,p,y,w,u,B,z,j,?_⟩
  cases y with
  | nx=>exact fun h i n o R2 l=>k h i n (r.trans o) R2 l
  | bk=>exact fun h i n o R2 l=>k h i n (r.trans o) R2 l
  | ct=>exact fun h i n o R2 l=>k h i n (r.trans o) R2 l
  | rt d=>exact KC.after k r
 | rt d=>cases j;exact k
 | bk=>cases j;exact k
 | ct=>cases j;exact k)
theorem IG (d:PS X st (cU X.K ms)):PSs X [st] (cU X.K ms):=z9 d
theorem IH:PS X (.Pass pos) (cU X.K bP):=iD FT (by
 rintro E n H ⟨j,q,p,o,l,i,R,d,h,k⟩
 cases h
 exact k j n H .refl R d)
theorem II (l:PE X e (tM X.K m)):PS X (.Return (some e) pos) (cU X.K (aY m)):=iD (FX l) (by
 rintro E u H ⟨p,q,n,s,r,o,R,i,d,k⟩
 obtain ⟨⟨x,h⟩,j,d⟩:=SA.mp d
 cases d
 exact ⟨p,q,n,x,h,R,i,j,k⟩)
theorem IJ (q:PE X e (tM X.K m))(r:Wg e none pos.line X.env=pure false:=by rfl):PS X (.Expr e pos) (cU X.K (bC m)):=iD (FV q r) (by
 rintro E z H ⟨v,w,s,A,y,u,R,j,d,k⟩
 obtain ⟨⟨x,h⟩,p,d⟩:=SA.mp d
 cases d
 exact ⟨v,w,s,x,h,R,j,p,fun i G n l o B=>k i z n l o (j.mono l)⟩)
theorem IK (hc:PT X c (cS X.K mt))(I:PSs X body (cU X.K ms))(J:PSs X orelse (cU X.K mu)):PS X (.If c body orelse pos) (cU X.K (a9 mt ms mu)):=iD (F1 hc I J) (by
 rintro E M H ⟨L,y,K,u,o,l,R,w,v,k⟩
 obtain ⟨⟨x,j⟩,G,v⟩:=Su.mp v
 refine ⟨L,y,K,x,j,R,w,G,fun n B p z=>?_⟩
 have A:lO X.K E n j.length B u o l:=by
  cases u with
  | nx=>exact fun h i r s R2 q=>k h i r (p.trans s) R2 q
  | bk=>exact fun h i r s R2 q=>k h i r (p.trans s) R2 q
  | ct=>exact fun h i r s R2 q=>k h i r (p.trans s) R2 q
  | rt d=>exact KC.after k p
 cases x with
 | true=>
  refine kJ ?_
  exact ⟨n,y,j,u,o,l,z,w.mono p,v,A⟩
 | false=>
  refine kI ?_
  exact ⟨n,y,j,u,o,l,z,w.mono p,v,A⟩)
theorem Bg {i:Nat}{x:Str}{d:UA}(s:X.N.Nodup)(w:X.N[i]? = some x)(z:Loc X.env.scope x)(u:PE X e (tM X.K m))(y:Wg e (some (.Name x d)) pos.line X.env=pure false:=by rfl)
  (v:X.fn x=true\/X.env.scope.names.lookup x=some .local:=by first|exact .inl rfl|exact .inr rfl|assumption):PS X (.Assign [.Name x d] e pos) (cU X.K (aW i m)):=iD (Af s w z u y v) (by
 rintro E N H ⟨I,J,B,L,K,G,R,n,h,k⟩
 obtain ⟨⟨x,j⟩,r,h⟩:=SA.mp h
 cases h
 exact ⟨I,J,B,x,j,R,n,r,fun l M p o q A=>k l _ p o q ((n.mono o).set A i)⟩)
end
noncomputable def pF (n:Nat)(ds:List D):aJ:=ds.map some++Sz (n - ds.length) none
noncomputable def pG (n:Nat)(m:MS):MF:=fun ds a=>(m (pF n ds) a).bind fun p=>match p.1 with|.rt d=>some (d,p.2.2)|.nx=>some (.non,p.2.2)|_=>none
theorem vY {K:Sw}{π:Nat->Addr}{n:Nat}{H:Hp}{N:List Str}{vs:List V}{ds:List D}(h:IsDs K π n H vs ds)(q:vs.length<=N.length):En K π n H (L2.start N vs) (pF N.length ds):=by
 have a:=h.length
 refine ⟨by simp [L2.start,pF,a],fun i d e=>?_⟩
 unfold pF at e
 unfold L2.start
 by_cases c:i<ds.length
 ·rw [Tp (by simpa using c),Tr] at e
  obtain ⟨p,j,l⟩:=SA.mp e
  cases l
  obtain ⟨v,m,o⟩:=h.get j
  exact ⟨v,by rw [Tp (by rw [Sx,a];exact c),Tr,m];rfl,o⟩
 ·rw [TU (by simpa using V4.mp c)] at e
  have:=Vd (n:=N.length - ds.length) (a:=(none:Option D)) (i:=i - (ds.map some).length)
  rw [this] at e
  split at e<;>simp at e
section
variable {P:Tc}{w:Ts}{K:Sw}{mg:Str->Option Value}{base:Ua}
theorem IL {x a:Str}{st:Stmt}{f:Addr}{q:Ul}{N ps:List Str}{k:Nat}{m:MS}(F:Fun K x a st f q)(S:FnScope N ps (bL st))(l:ps.length<=N.length)
  (e:∀ (c:Value)(A:Tt)(outer:List Wx)(s:SF)(H:Hp)(E:XK),Room k (A.deeper (VN a (bL st) s.heap.objs.size f c))->
   PSs (d8 eB P w K mg base N a (bL st) f c A outer s H E).nox (cJ st) (cU K m)):FnOk P w K mg base eB (k+1) f q ps (eI K ps.length (pG N.length m)):=by
 refine F.ok S (fun J H Q E h=>h.1) fun c A outer s H J Q E G h=>⟨_,e c A outer s H E G,?_⟩
 obtain ⟨I,O,ds,L,d,M,R,i,j,u⟩:=h
 obtain ⟨⟨r,p,n⟩,B,j⟩:=Su.mp j
 refine ⟨O,_,L,r,p,n,R,vY i (by rw [I];exact l),B,?_⟩
 cases r with
 | rt X=>cases j;exact u
 | nx=>cases j;exact fun o T v z y U=>u o .non v z y .non
 | bk=>cases j
 | ct=>cases j
end
end L3
namespace L3
open PySem L2
open SeqAt (EqAt RcAt RcNeAt)
inductive KD where
 | non|bl (b:Bool)|int (i:Int)|str (x:Str)|tup (n:Nat)|lst (n:Nat)
inductive IsK (s:SF):Value->KD->Prop where
 | non:IsK s .none .non
 | bl (b:Bool):IsK s (.bool b) (.bl b)
 | int (i:Int)(t:a0A):IsK s (.int i t) (.int i)
 | str (x:Str)(t:a0A):IsK s (.str x t) (.str x)
 | tup {l:Addr}{its:List Value}(h:s.heap.IsTuple l its.toArray):IsK s (.ref l) (.tup its.length)
 | lst {l:Addr}{its:List Value}(h:s.heap.IsList l its.toArray):IsK s (.ref l) (.lst its.length)
noncomputable def nC (e:Nat->Bool):KD->KD->Bool
 | .non,.non=>true
 | .bl a,.bl b=>a == b
 | .bl a,.int b=>(if a then 1 else 0) == b
 | .int a,.bl b=>a == (if b then 1 else 0)
 | .int a,.int b=>a == b
 | .str a,.str b=>a == b
 | .tup n,.tup k=>(Td (min n k)).all e&&n == k
 | .lst n,.lst k=>(Td (min n k)).all e&&n == k
 | _,_=>false
noncomputable def r8 (A:Tt)(s:SF)(u v:Value)(e:Nat->Bool):Prop:=
 (∀ l b c a,u=.ref l->v=.ref b->s.heap.IsTuple l c->s.heap.IsTuple b a->∀ j (d:j<c.size)(h:j<a.size),EqAt A.in1 s c[j] a[j] (e j)) /\
 (∀ l b c a,u=.ref l->v=.ref b->s.heap.IsList l c->s.heap.IsList b a->∀ j (d:j<c.size)(h:j<a.size),EqAt A.in1 s c[j] a[j] (e j))
section
variable {A:Tt}{s:SF}{u v:Value}{k k':KD}{e:Nat->Bool}
theorem Bh {n k:Nat}(e:Nat->Bool)(h:n=k):((Td (min n k)).all e&&n == k)=(Td n).all e:=by
 subst h
 simp
theorem Bi {n k:Nat}(e:Nat->Bool)(h:n≠k):((Td (min n k)).all e&&n == k)=false:=by
 simp [h]
theorem vZ (h:IsK s u k)(h':IsK s v k')(c:A.units<V1)(o:r8 A s u v e):RcAt A s u v (nC e k k'):=by
 cases h with
 | non=>
  cases h' with
  | non=>exact RcAt.none_none
  | bl b=>exact RcAt.none_bool b
  | int i t=>exact RcAt.none_int i t
  | str x t=>exact RcAt.none_str x t
  | tup h=>exact RcAt.none_tuple h c
  | lst h=>exact RcAt.none_list h c
 | bl a=>
  cases h' with
  | non=>exact RcAt.bool_none a
  | bl b=>exact RcAt.bool_bool a b
  | int i t=>exact RcAt.bool_int a i t
  | str x t=>exact RcAt.bool_str a x t
  | tup h=>exact RcAt.bool_tuple a h c
  | lst h=>exact RcAt.bool_list a h c
 | int a j=>
  cases h' with
  | non=>exact RcAt.int_none a j
  | bl b=>exact RcAt.int_bool a j b
  | int i t=>exact RcAt.int_int a j i t
  | str x t=>exact RcAt.int_str a j x t
  | tup h=>exact RcAt.int_tuple a j h c
  | lst h=>exact RcAt.int_list a j h c
 | str a j=>
  cases h' with
  | non=>exact RcAt.str_none a j
  | bl b=>exact RcAt.str_bool a j b
  | int i t=>exact RcAt.str_int a j i t
  | str x t=>exact RcAt.str_str a j x t
  | tup h=>exact RcAt.str_tuple a j h c
  | lst h=>exact RcAt.str_list a j h c
 | tup g=>
  cases h' with
  | non=>exact RcAt.tuple_none g c
  | bl b=>exact RcAt.tuple_bool b g c
  | int i t=>exact RcAt.tuple_int i t g c
  | str x t=>exact RcAt.tuple_str x t g c
  | tup h=>
   have:=RcAt.tuples (e:=e) g h c (o.1 _ _ _ _ rfl rfl g h)
   simpa [nC] using this
  | lst h=>exact RcAt.tuple_list g h c
 | lst g=>
  cases h' with
  | non=>exact RcAt.list_none g c
  | bl b=>exact RcAt.list_bool b g c
  | int i t=>exact RcAt.list_int i t g c
  | str x t=>exact RcAt.list_str x t g c
  | tup h=>exact RcAt.list_tuple g h c
  | @lst b d h=>
   rename_i l m
   by_cases n:m.length=d.length
   ·have:=RcAt.lists (e:=e) g h (by simpa using n) c (o.2 _ _ _ _ rfl rfl g h)
    show RcAt A s _ _ ((Td (min m.length d.length)).all e&&m.length == d.length)
    rw [Bh e n]
    simpa using this
   ·have:=RcAt.lists_lengths g h (by simpa using n) c
    show RcAt A s _ _ ((Td (min m.length d.length)).all e&&m.length == d.length)
    rw [Bi e n]
    exact this
theorem IM (h:IsK s u k)(h':IsK s v k')(c:A.units<V1)(o:r8 A s u v e):RcNeAt A s u v (!nC e k k'):=by
 cases h with
 | non=>
  cases h' with
  | non=>exact RcNeAt.none_none
  | bl b=>exact RcNeAt.none_bool b
  | int i t=>exact RcNeAt.none_int i t
  | str x t=>exact RcNeAt.none_str x t
  | tup h=>exact RcNeAt.none_tuple h c
  | lst h=>exact RcNeAt.none_list h c
 | bl a=>
  cases h' with
  | non=>exact RcNeAt.bool_none a
  | bl b=>exact RcNeAt.bool_bool a b
  | int i t=>exact RcNeAt.bool_int a i t
  | str x t=>exact RcNeAt.bool_str a x t
  | tup h=>exact RcNeAt.bool_tuple a h c
  | lst h=>exact RcNeAt.bool_list a h c
 | int a j=>
  cases h' with
  | non=>exact RcNeAt.int_none a j
  | bl b=>exact RcNeAt.int_bool a j b
  | int i t=>exact RcNeAt.int_int a j i t
  | str x t=>exact RcNeAt.int_str a j x t
  | tup h=>exact RcNeAt.int_tuple a j h c
  | lst h=>exact RcNeAt.int_list a j h c
 | str a j=>
  cases h' with
  | non=>exact RcNeAt.str_none a j
  | bl b=>exact RcNeAt.str_bool a j b
  | int i t=>exact RcNeAt.str_int a j i t
  | str x t=>exact RcNeAt.str_str a j x t
  | tup h=>exact RcNeAt.str_tuple a j h c
  | lst h=>exact RcNeAt.str_list a j h c
 | tup g=>
  cases h' with
  | non=>exact RcNeAt.tuple_none g c
  | bl b=>exact RcNeAt.tuple_bool b g c
  | int i t=>exact RcNeAt.tuple_int i t g c
  | str x t=>exact RcNeAt.tuple_str x t g c
  | tup h=>
   have:=RcNeAt.tuples (e:=e) g h c (o.1 _ _ _ _ rfl rfl g h)
   simpa [nC] using this
  | lst h=>exact RcNeAt.tuple_list g h c
 | lst g=>
  cases h' with
  | non=>exact RcNeAt.list_none g c
  | bl b=>exact RcNeAt.list_bool b g c
  | int i t=>exact RcNeAt.list_int i t g c
  | str x t=>exact RcNeAt.list_str x t g c
  | tup h=>exact RcNeAt.list_tuple g h c
  | @lst b d h=>
   rename_i l m
   by_cases n:m.length=d.length
   ·have:=RcNeAt.lists (e:=e) g h (by simpa using n) c (o.2 _ _ _ _ rfl rfl g h)
    show RcNeAt A s _ _ (!((Td (min m.length d.length)).all e&&m.length == d.length))
    rw [Bh e n]
    simpa using this
   ·have:=RcNeAt.lists_lengths g h (by simpa using n) c
    show RcNeAt A s _ _ (!((Td (min m.length d.length)).all e&&m.length == d.length))
    rw [Bi e n]
    exact this
theorem IP (h:IsK s u k)(h':IsK s v k')(c:A.units<V1)(o:r8 A s u v e)(n:∀ l b,u=.ref l->v=.ref b->l≠b):EqAt A s u v (nC e k k'):=by
 cases h with
 | non=>
  cases h' with
  | non=>exact EqAt.same _
  | bl b=>exact EqAt.none_bool b
  | int i t=>exact EqAt.none_int i t
  | str x t=>exact EqAt.none_str x t
  | tup h=>exact EqAt.none_tuple h c
  | lst h=>exact EqAt.none_list h c
 | bl a=>
  cases h' with
  | non=>exact EqAt.bool_none a
  | bl b=>exact EqAt.bool_bool a b
  | int i t=>exact EqAt.bool_int a i t
  | str x t=>exact EqAt.bool_str a x t
  | tup h=>exact EqAt.bool_tuple a h c
  | lst h=>exact EqAt.bool_list a h c
 | int a d=>
  cases h' with
  | non=>exact EqAt.int_none a d
  | bl b=>exact EqAt.int_bool a d b
  | int i t=>exact EqAt.int_int a d i t
  | str x t=>exact EqAt.int_str a d x t
  | tup h=>exact EqAt.int_tuple a d h c
  | lst h=>exact EqAt.int_list a d h c
 | str a d=>
  cases h' with
  | non=>exact EqAt.str_none a d
  | bl b=>exact EqAt.str_bool a d b
  | int i t=>exact EqAt.str_int a d i t
  | str x t=>exact EqAt.str_str a d x t
  | tup h=>exact EqAt.str_tuple a d h c
  | lst h=>exact EqAt.str_list a d h c
 | @tup l m g=>
  cases h' with
  | non=>exact EqAt.tuple_none g c
  | bl b=>exact EqAt.tuple_bool b g c
  | int i t=>exact EqAt.tuple_int i t g c
  | str x t=>exact EqAt.tuple_str x t g c
  | @tup b j h=>exact EqAt.of_refs (n l b rfl rfl) (vZ (k:=.tup m.length) (k':=.tup j.length) (.tup g) (.tup h) c o)
  | lst h=>exact EqAt.tuple_list g h c
 | @lst l m g=>
  cases h' with
  | non=>exact EqAt.list_none g c
  | bl b=>exact EqAt.list_bool b g c
  | int i t=>exact EqAt.list_int i t g c
  | str x t=>exact EqAt.list_str x t g c
  | tup h=>exact EqAt.list_tuple g h c
  | @lst b j h=>exact EqAt.of_refs (n l b rfl rfl) (vZ (k:=.lst m.length) (k':=.lst j.length) (.lst g) (.lst h) c o)
end
inductive KdD where
 | non|bl (b:Bool)|int (i:Int)|str (x:Str)|tup (xs:List D)|lst (xs:List D)
noncomputable def dE (c:Hm):D->Option KdD
 | .non=>some .non
 | .bl b=>some (.bl b)
 | .int i=>some (.int i)
 | .str x=>some (.str x)
 | .tup xs=>some (.tup xs)
 | .rol xs=>some (.lst xs)
 | .loc a=>match c[a]? with|some (.lst xs)=>some (.lst xs)|_=>none
 | .ty _=>none
noncomputable def fA (f:D->D->Option Bool):List D->List D->Option Bool
 | x::xs,y::ys=>(f x y).bind fun b=>(fA f xs ys).map fun c=>b&&c
 | [],[]=>some true
 | _,_=>some false
noncomputable def gD (f:D->D->Option Bool):KdD->KdD->Option Bool
 | .non,.non=>some true
 | .bl a,.bl b=>some (a == b)
 | .bl a,.int b=>some ((if a then 1 else 0) == b)
 | .int a,.bl b=>some (a == (if b then 1 else 0))
 | .int a,.int b=>some (a == b)
 | .str a,.str b=>some (a == b)
 | .tup xs,.tup ys=>fA f xs ys
 | .lst xs,.lst ys=>fA f xs ys
 | _,_=>some false
noncomputable def cE:Nat->Hm->D->D->Option Bool
 | 0,_,_,_=>none
 | n+1,μ,x,y=>(dE μ x).bind fun a=>(dE μ y).bind fun b=>gD (cE n μ) a b
noncomputable def v5:KdD->KD
 | .non=>.non|.bl b=>.bl b|.int i=>.int i|.str x=>.str x|.tup xs=>.tup xs.length|.lst xs=>.lst xs.length
noncomputable def nD:KdD->List D
 | .tup xs=>xs|.lst xs=>xs|_=>[]
section
variable {X:Cx}{a1r:List (Addr×Obj)}{σ:St}{H:Hp}{s:SF}{π:Nat->Addr}{μ:Hm}
inductive KdAt (X:Cx)(π:Nat->Addr)(n:Nat)(H:Hp)(s:SF)(u:Value):KdD->Prop where
 | non (h:u=.none):KdAt X π n H s u .non
 | bl (b:Bool)(h:u=.bool b):KdAt X π n H s u (.bl b)
 | int (i:Int)(t:a0A)(h:u=.int i t):KdAt X π n H s u (.int i)
 | str (x:Str)(t:a0A)(h:u=.str x t):KdAt X π n H s u (.str x)
 | tup {xs:List D}(p:Addr)(vs:List V)(its:List Value)(h:u=.ref p)(q:SqT X.K H p vs)(i:IsDs X.K π n H vs xs)(r:Vals vs its)(t:s.heap.IsTuple p its.toArray):KdAt X π n H s u (.tup xs)
 | lst {xs:List D}(p:Addr)(vs:List V)(its:List Value)(h:u=.ref p)(q:SqL X.K H p vs)(i:IsDs X.K π n H vs xs)(r:Vals vs its)(t:s.heap.IsList p its.toArray):KdAt X π n H s u (.lst xs)
theorem nE (I:Inv X a1r σ H s)(R:Rp X.K π H μ){v:V}{d:D}{u:Value}(h:IsD X.K π μ.length H v d)(r:RelV v u){k:KdD}(e:dE μ d=some k):KdAt X π μ.length H s u k:=by
 cases h with
 | non=>cases e;exact .non r
 | bl b=>cases e;exact .bl b r
 | int i=>cases e;obtain ⟨t,q⟩:=r;exact .int i t q
 | str x=>cases e;obtain ⟨t,q⟩:=r;exact .str x t q
 | ty x=>cases e
 | tup q t=>
  cases e
  obtain ⟨c,j,p,_⟩:=I.tuple q
  exact .tup _ _ c r q t j p
 | rol q t=>
  cases e
  obtain ⟨c,j,p,_⟩:=I.list q.sq
  exact .lst _ _ c r q.sq t j p.isList
 | @loc a y=>
  simp only [dE] at e
  split at e
  ·rename_i w n
   cases e
   obtain ⟨o,l,m⟩:=R.lst a w n
   have q:SqL X.K H (π a) o:=.of l
   obtain ⟨c,j,p,_⟩:=I.list q
   exact .lst _ _ c r q m j p.isList
  ·cases e
theorem KdAt.isK {u:Value}{k:KdD}{n:Nat}(h:KdAt X π n H s u k):IsK s u (v5 k):=by
 cases h with
 | non h=>subst h;exact .non
 | bl b h=>subst h;exact .bl b
 | int i t h=>subst h;exact .int i t
 | str x t h=>subst h;exact .str x t
 | tup p c a h q i r t=>
  subst h
  have:a.length=_:=r.length.symm.trans i.length
  show IsK s (.ref p) (.tup _)
  rw [<- this]
  exact .tup t
 | lst p c a h q i r t=>
  subst h
  have:a.length=_:=r.length.symm.trans i.length
  show IsK s (.ref p) (.lst _)
  rw [<- this]
  exact .lst t
noncomputable def gT (f:D->D->Option Bool)(xs a:List D)(j:Nat):Bool:=match xs[j]?,a[j]? with
 | some x,some y=>(f x y).getD false
 | _,_=>false
theorem v7 {f:D->D->Option Bool}:∀ {xs a:List D}{b:Bool},fA f xs a=some b->b=((Td (min xs.length a.length)).all (gT f xs a)&&xs.length == a.length)/\∀ (j:Nat) x y,xs[j]? = some x->a[j]? = some y->f x y=some (gT f xs a j)
 | [],[],b,h=>by
  cases h
  exact ⟨rfl,fun j x y e=>by simp at e⟩
 | x::xs,[],b,h=>by
  cases h
  exact ⟨by simp,fun j x y _ e=>by simp at e⟩
 | [],y::a,b,h=>by
  cases h
  exact ⟨by simp,fun j x y e=>by simp at e⟩
 | x::xs,y::a,b,h=>by
  simp only [fA] at h
  obtain ⟨c,n,p⟩:=Su.mp h
  obtain ⟨d,q,r⟩:=SA.mp p
  obtain ⟨u,v⟩:=v7 q
  have m:gT f (x::xs) (y::a) 0=c:=by simp [gT,n]
  have o:∀ j,gT f (x::xs) (y::a) (j+1)=gT f xs a j:=fun j=>by simp [gT]
  refine ⟨?_,fun j w z i l=>?_⟩
  ·subst r
   rw [u]
   simp only [SY,Nat.add_min_add_right]
   rw [VJ,Tz,WE,m]
   have:(gT f (x::xs) (y::a) ∘ Nat.succ)=gT f xs a:=funext fun j=>o j
   rw [this]
   simp [Bool.and_assoc]
  ·cases j with
   | zero=>
    simp at i l
    subst i;subst l
    rw [m,n]
   | succ j=>
    rw [o j]
    exact v j w z (by simpa using i) (by simpa using l)
theorem Bj {f:D->D->Option Bool}{k k':KdD}{b:Bool}(h:gD f k k'=some b):b=nC (gT f (nD k) (nD k')) (v5 k) (v5 k'):=by
 cases k<;>cases k'<;>simp only [gD] at h<;>first
  | (have a:=S8 h;subst a;rfl)
  | (obtain ⟨c,_⟩:=v7 h;rw [c];rfl)
theorem IQ (I:Inv X a1r σ H s)(R:Rp X.K π H μ):∀ (n:Nat){v:V}{u:Value}{x y:D}{b:Bool},RelV v u->IsD X.K π μ.length H v x->IsD X.K π μ.length H v y->cE n μ x y=some b->b=true:=by
 intro n
 induction n with
 | zero=>intro v u x y b _ _ _ h;cases h
 | succ n ih=>
  intro v u x y b r hx hy h
  obtain ⟨k,U,h⟩:=Su.mp h
  obtain ⟨k',h2,h⟩:=Su.mp h
  have a1:=nE I R hx r U
  have A:=nE I R hy r h2
  have l:∀ {vs:List V}{xs T:List D}{c:Bool},(∀ v∈vs,∃ u,RelV v u)->IsDs X.K π μ.length H vs xs->IsDs X.K π μ.length H vs T->fA (cE n μ) xs T=some c->c=true:=by
   intro vs
   induction vs with
   | nil=>intro xs T c _ Z o h;cases Z;cases o;cases h;rfl
   | cons w vs ihv=>
    intro xs T c hr Z o h
    cases Z with
    | cons p1 t1=>
     cases o with
     | cons L E=>
      simp only [fA] at h
      obtain ⟨c1,U,h3⟩:=Su.mp h
      obtain ⟨c2,h4,h5⟩:=SA.mp h3
      obtain ⟨Q,N⟩:=hr w (UH ..)
      have a:=ih N p1 L U
      have m:=ihv (fun v J=>hr v (Ur _ J)) t1 E h4
      subst a;subst m
      exact h5.symm
  cases a1 with
  | non a=>
   subst a
   cases A with
   | non _=>simp only [gD] at h;exact (S8 h).symm
   | bl _ e=>cases e
   | int _ _ e=>cases e
   | str _ _ e=>cases e
   | tup _ _ _ e=>cases e
   | lst _ _ _ e=>cases e
  | bl c a=>
   subst a
   cases A with
   | non e=>cases e
   | bl _ e=>cases e;simp only [gD,beq_self_eq_true] at h;exact (S8 h).symm
   | int _ _ e=>cases e
   | str _ _ e=>cases e
   | tup _ _ _ e=>cases e
   | lst _ _ _ e=>cases e
  | int c t a=>
   subst a
   cases A with
   | non e=>cases e
   | bl _ e=>cases e
   | int _ _ e=>cases e;simp only [gD,beq_self_eq_true] at h;exact (S8 h).symm
   | str _ _ e=>cases e
   | tup _ _ _ e=>cases e
   | lst _ _ _ e=>cases e
  | str c t a=>
   subst a
   cases A with
   | non e=>cases e
   | bl _ e=>cases e
   | int _ _ e=>cases e
   | str _ _ e=>cases e;simp only [gD,beq_self_eq_true] at h;exact (S8 h).symm
   | tup _ _ _ e=>cases e
   | lst _ _ _ e=>cases e
  | tup p vs K a q i O t=>
   have z:KdAt X π μ.length H s (.ref p) _:=a ▸ KdAt.tup p vs K a q i O t
   rw [a] at A
   cases A with
   | non e=>cases e
   | bl _ e=>cases e
   | int _ _ e=>cases e
   | str _ _ e=>cases e
   | tup L G d m M o B E=>
    cases m
    have:=I.tuple_inj q M
    subst this
    exact l (fun v J=>by
     obtain ⟨j,Y,rfl⟩:=Ug J
     obtain ⟨Q,_,N⟩:=O.get (SN Y)
     exact ⟨Q,N⟩) i o h
   | lst L G d m M o B E=>
    cases m
    exact absurd rfl (UT E t)
  | lst p vs K a q i O t=>
   rw [a] at A
   cases A with
   | non e=>cases e
   | bl _ e=>cases e
   | int _ _ e=>cases e
   | str _ _ e=>cases e
   | tup L G d m M o B E=>
    cases m
    exact absurd rfl (UT t E)
   | lst L G d m M o B E=>
    cases m
    have:=I.list_inj q M
    subst this
    exact l (fun v J=>by
     obtain ⟨j,Y,rfl⟩:=Ug J
     obtain ⟨Q,_,N⟩:=O.get (SN Y)
     exact ⟨Q,N⟩) i o h
theorem IS (A:Tt):A.in1.units=A.units+1:=rfl
theorem Bk (I:Inv X a1r σ H s){A:Tt}{n:Nat}(ih:∀ {A:Tt}{v v':V}{u u':Value}{x y:D}{b:Bool},A.units+n<V1->RelV v u->RelV v' u'->IsD X.K π μ.length H v x->IsD X.K π μ.length H v' y->cE n μ x y=some b->EqAt A s u u' b)
  (hu:A.units+(n+1)<V1){u u':Value}{k k':KdD}{b:Bool}(a1:KdAt X π μ.length H s u k)(a2:KdAt X π μ.length H s u' k')(h:gD (cE n μ) k k'=some b):r8 A s u u' (gT (cE n μ) (nD k) (nD k')):=by
 have J:∀ {vs Q:List V}{z its':List Value}{xs Y:List D}{c:Bool},Vals vs z->Vals Q its'->IsDs X.K π μ.length H vs xs->IsDs X.K π μ.length H Q Y->fA (cE n μ) xs Y=some c->
   ∀ j (T:j<z.length)(U:j<its'.length),EqAt A.in1 s z[j] its'[j] (gT (cE n μ) xs Y j):=by
  intro vs Q z its' xs Y c r r' i i' e j T U
  have l1:=r.length
  have l2:=r'.length
  have l3:=i.length
  have l4:=i'.length
  have hx:xs[j]? = some (xs[j]'(by omega)):=SN _
  have hy:Y[j]? = some (Y[j]'(by omega)):=SN _
  obtain ⟨v,v1,v2⟩:=i.get hx
  obtain ⟨v',v1',v2'⟩:=i'.get hy
  obtain ⟨w,w1,w2⟩:=r.get v1
  obtain ⟨w',w1',w2'⟩:=r'.get v1'
  rw [SN T] at w1
  rw [SN U] at w1'
  cases w1
  cases w1'
  exact ih (by rw [IS];omega) w2 w2' v2 v2' ((v7 e).2 j _ _ hx hy)
 constructor
 ·intro l b' G B e1 e2 t1 t2 j T U
  subst e1;subst e2
  cases a1 with
  | tup p vs z e q i r t=>
   cases e
   cases a2 with
   | tup p2 R E a q2 Z r2 O=>
    cases a
    have z1:G=z.toArray:=by
     obtain ⟨o,K,g2,n1,M⟩:=t1
     obtain ⟨o',d,L,N,m⟩:=t
     rw [K] at d;cases d
     rw [M] at m
     injection m
    have z2:B=E.toArray:=by
     obtain ⟨o,K,g2,n1,M⟩:=t2
     obtain ⟨o',d,L,N,m⟩:=O
     rw [K] at d;cases d
     rw [M] at m
     injection m
    subst z1;subst z2
    have:=J r r2 i Z h j (by simpa using T) (by simpa using U)
    simpa [nD] using this
   | lst p2 R E a q2 Z r2 O=>
    cases a
    exact absurd rfl (UT O t2)
   | non a=>cases a
   | bl _ a=>cases a
   | int _ _ a=>cases a
   | str _ _ a=>cases a
  | lst p vs z e q i r t=>
   cases e
   exact absurd rfl (UT t t1)
  | non e=>cases e
  | bl _ e=>cases e
  | int _ _ e=>cases e
  | str _ _ e=>cases e
 ·intro l b' G B e1 e2 t1 t2 j T U
  subst e1;subst e2
  cases a1 with
  | lst p vs z e q i r t=>
   cases e
   cases a2 with
   | lst p2 R E a q2 Z r2 O=>
    cases a
    have z1:G=z.toArray:=by
     obtain ⟨o,K,g2,n1,M⟩:=t1
     obtain ⟨o',d,L,N,m⟩:=t
     rw [K] at d;cases d
     rw [M] at m
     injection m
    have z2:B=E.toArray:=by
     obtain ⟨o,K,g2,n1,M⟩:=t2
     obtain ⟨o',d,L,N,m⟩:=O
     rw [K] at d;cases d
     rw [M] at m
     injection m
    subst z1;subst z2
    have:=J r r2 i Z h j (by simpa using T) (by simpa using U)
    simpa [nD] using this
   | tup p2 R E a q2 Z r2 O=>
    cases a
    exact absurd rfl (UT t2 O)
   | non a=>cases a
   | bl _ a=>cases a
   | int _ _ a=>cases a
   | str _ _ a=>cases a
  | tup p vs z e q i r t=>
   cases e
   exact absurd rfl (UT t1 t)
  | non e=>cases e
  | bl _ e=>cases e
  | int _ _ e=>cases e
  | str _ _ e=>cases e
theorem IT (I:Inv X a1r σ H s)(R:Rp X.K π H μ):∀ (n:Nat){A:Tt}{v c:V}{u a:Value}{x y:D}{b:Bool},A.units+n<V1->RelV v u->RelV c a->IsD X.K π μ.length H v x->IsD X.K π μ.length H c y->cE n μ x y=some b->EqAt A s u a b:=by
 intro n
 induction n with
 | zero=>intro A v c u a x y b _ _ _ _ _ h;cases h
 | succ n K=>
  intro A v c u a x y b J r o j m h
  have w:=h
  obtain ⟨k,B,h⟩:=Su.mp h
  obtain ⟨M,E,h⟩:=Su.mp h
  have d:=nE I R j r B
  have e:=nE I R m o E
  by_cases i:u=a
  ·subst i
   have:v=c:=r.inj o
   subst this
   have:=IQ I R (n+1) r j m w
   subst this
   exact EqAt.same _
  ·have G:=Bk I K J d e h
   rw [Bj h]
   exact IP d.isK e.isK (by omega) G fun l L p q z=>i (by rw [p,q,z])
theorem Bl (I:Inv X a1r σ H s)(R:Rp X.K π H μ)(n:Nat){A:Tt}{v i:V}{u d:Value}{x y:D}{b:Bool}(m:A.units+n<V1)(r:RelV v u)(q:RelV i d)(o:IsD X.K π μ.length H v x)(p:IsD X.K π μ.length H i y)(h:cE n μ x y=some b) :
  RcAt A s u d b/\RcNeAt A s u d (!b):=by
 cases n with
 | zero=>cases h
 | succ n=>
  obtain ⟨k,j,h⟩:=Su.mp h
  obtain ⟨w,l,h⟩:=Su.mp h
  have a:=nE I R o r j
  have c:=nE I R p q l
  have e:=Bk I (A:=A) (IT I R n) m a c h
  rw [Bj h]
  exact ⟨vZ a.isK c.isK (by omega) e,IM a.isK c.isK (by omega) e⟩
end
end L3
namespace L3
open PySem L2
open SeqAt (EqAt RcAt RcNeAt)
section
variable {K:Sw}
noncomputable def jO (g:Int->Int->Option Int):D->D->Hm->Option (D×Hm)
 | .int i,.int j,μ=>(g i j).map fun z=>(.int z,μ)
 | _,_,_=>none
theorem Bm {g:Int->Int->Option Int}{x y d:D}{c a:Hm}(h:jO g x y c=some (d,a)):∃ i j z,x=.int i/\y=.int j/\g i j=some z/\d=.int z/\a=c:=by
 unfold jO at h
 split at h
 ·rename_i i j
  obtain ⟨z,e,l⟩:=SA.mp h
  cases l
  exact ⟨i,j,z,rfl,rfl,e,rfl,rfl⟩
 ·cases h
theorem r9 {a:Int->Int->Prop}{g:Int->Int->Option Int}{g':Int->Int->Int}(h:∀ i j z,g i j=some z->a i j/\z=g' i j):dC K (jO g) (rI a fun i j=>.int (g' i j)):=by
 intro p H s x y d o q r Q R m n l k
 obtain ⟨i,j,z,rfl,rfl,e,rfl,rfl⟩:=Bm l
 cases m
 cases n
 obtain ⟨c,rfl⟩:=h i j z e
 exact ⟨i,j,rfl,rfl,c,k p _ H .refl R (.int _)⟩
theorem IU {g':Int->Int->Int}:dC K (jO fun i j=>some (g' i j)) (f7 fun i j=>.int (g' i j)):=by
 intro m H p x y d l n o Q R e h c k
 obtain ⟨i,j,z,rfl,rfl,a,rfl,rfl⟩:=Bm c
 cases e
 cases h
 cases a
 exact ⟨i,j,rfl,rfl,k m _ H .refl R (.int _)⟩
noncomputable def dO:=jO fun i j=>some (i - j)
noncomputable def Bn:=jO fun i j=>if ((-(2 ^ 64)<i/\i<2 ^ 64)\/(-(2 ^ 64)<j/\j<2 ^ 64))\/(i.natAbs<2 ^ 4000/\j.natAbs<2 ^ 4000)\/SX i+SX j<=134217728 then some (i * j) else none
noncomputable def b8:D->D->Hm->Option (D×Hm)
 | .loc a,.int k,μ=>match μ[a]? with
  | some (.lst xs)=>if -(2 ^ 63)<=k/\k<2 ^ 63/\xs.length * k.toNat<=SK then some (.loc μ.length,μ++[.lst (Sz k.toNat xs).flatten]) else none
  | _=>none
 | x,y,μ=>Bn x y μ
noncomputable def cQ:=jO fun i j=>if 0<j/\j<2 ^ 4000 then some (i / j) else none
noncomputable def bF:=jO fun i j=>if 0<j then some (i % j) else none
noncomputable def dS:=jO fun i j=>if (0<=j/\j<=1000000/\i.natAbs<2 ^ 64)\/(0<=j/\j<=100/\i.natAbs<2 ^ 4000) then some (i ^ j.toNat) else none
noncomputable def CMulB (i j:Int):Prop:=CMul i j\/(i.natAbs<2 ^ 4000/\j.natAbs<2 ^ 4000)\/SX i+SX j<=134217728
noncomputable def Bo (i j:Int):Prop:=0<j/\j<2 ^ 4000
noncomputable def Bp (i j:Int):Prop:=Gs i j\/(0<=j/\j<=100/\i.natAbs<2 ^ 4000)
theorem v8 {i:Int}(h:i.natAbs<2 ^ 4000):SX i<=4000:=by
 unfold SX
 split
 ·exact Uo _
 ·rename_i c
  have a:i.natAbs≠0:=by
   intro z
   exact c (by simpa using z)
  have:=(a1a a).mpr h
  omega
theorem CMulB.ok {i j:Int}(h:CMulB i j):ZZ i j:=by
 rcases h with h|⟨c,d⟩|h
 ·exact h.ok
 rotate_left
 ·have a:VD (SX i+SX j)=false:=by
   unfold VD
   rw [decide_eq_false]
   have:bitsLine=134217728:=by decide
   omega
  unfold ZZ
  rw [a]
  simp
 ·have e:=v8 c
  have l:=v8 d
  have a:VD (SX i+SX j)=false:=by
   unfold VD
   rw [decide_eq_false]
   have:(8000:Int)<=bitsLine:=by decide
   omega
  unfold ZZ
  rw [a]
  simp
section
variable {X:Cx}
theorem op_mulB:OpR X (Vm .Mult) (rI CMulB fun i j=>.int (i * j)):=rO fun _ _ _ _ _ _ _ hc q=>a0W q hc.ok
theorem IV:OpR X (Vm .FloorDiv) (rI Bo fun i j=>.int (i / j)):=rO fun i j _ _ _ _ _ hc q=>by
 have d:(0:Int)<j:=hc.1
 have e:j<2 ^ 4000:=hc.2
 have a:j.natAbs≠0:=by omega
 have c:j.natAbs<2 ^ 4000:=by
  have:((2 ^ 4000:Nat):Int)=2 ^ 4000:=by decide
  omega
 have h:=(a1a a).mpr c
 exact a0X (by omega) (by rw [Int.fdiv_eq_ediv_of_nonneg i (by omega)];exact q) (.inl (PyProof.noPylong_of_log2 (by omega)))
theorem IW:OpR X (Vm .Pow) (rI Bp fun i j=>.int (i ^ j.toNat)):=rO fun i j _ _ _ _ _ hc q=>by
 rcases hc with hc|⟨a,c,d⟩
 ·exact a0U hc.1 hc.2.1 hc.2.2 q
 ·have b:=v8 d
  refine a0V a ?_ q
  have:(SX i:Int) * j<=4000 * 100:=Int.mul_le_mul (by omega) c a (by omega)
  omega
end
theorem sA {c:Prop} [Decidable c] {a z:Int}(h:(if c then some a else none)=some z):c/\z=a:=by
 split at h
 ·cases h;exact ⟨by assumption,rfl⟩
 ·cases h
theorem IX:dC K dO (f7 fun i j=>.int (i - j)):=IU
theorem IY:dC K Bn (rI CMulB fun i j=>.int (i * j)):=r9 fun i j z h=>by
 have:=sA h
 exact this
theorem Bq {π:Nat->Addr}{n:Nat}{H:Hp}{vs:List V}{ds:List D}(h:IsDs K π n H vs ds):∀ k:Nat,IsDs K π n H (Sz k vs).flatten (Sz k ds).flatten
 | 0=>.nil
 | k+1=>by
  rw [Te,Te,U5,U5]
  exact h.append (Bq h k)
theorem IZ:dC K b8 (fun x y H Q=>rI CMulB (fun i j=>.int (i * j)) x y H Q\/AS x y H Q):=by
 intro E H B x y d l z A Q R n o c k
 unfold b8 at c
 split at c
 ·rename_i a h
  split at c
  ·rename_i r w
   split at c
   ·rename_i e
    cases c
    cases n
    cases o
    obtain ⟨q,u,m⟩:=R.lst a r w
    refine .inr ⟨_,h,q,rfl,rfl,u,e.1,e.2.1,by rw [m.length];exact e.2.2,fun p v=>?_⟩
    obtain ⟨s,R2,_⟩:=R.alloc (c:=.lst (Sz h.toNat r).flatten) (o:=.lst (Sz h.toNat q).flatten) v (Bq m _)
    exact k _ _ _ s R2 jN
   ·cases c
  ·cases c
 ·exact .inl (IY E H B _ _ d l z A Q R n o c k)
theorem I0:dC K cQ (rI Bo fun i j=>.int (i / j)):=r9 fun i j z h=>by
 have:=sA h
 exact this
theorem Ja:dC K bF (rI (fun _ j=>0<j) fun i j=>.int (i % j)):=r9 fun _ _ _ h=>sA h
theorem Jb:dC K dS (rI Bp fun i j=>.int (i ^ j.toNat)):=r9 fun i j z h=>by
 have:=sA h
 exact this
noncomputable def v9:D->Option D
 | .int i=>some (.int (-i))
 | _=>none
noncomputable def aZ:D->D->Hm->Option (D×Hm)
 | .int i,.int j,μ=>some (.int (i+j),μ)
 | .str x,.str y,μ=>if x.length+y.length<=SK then some (.str (x++y),μ) else none
 | .loc a,.loc b,μ=>match μ[a]?,μ[b]? with
  | some (.lst xs),some (.lst ys)=>if xs.length+ys.length<=SK then some (.loc μ.length,μ++[.lst (xs++ys)]) else none
  | _,_=>none
 | _,_,_=>none
noncomputable def wA (K:Sw):R2:=fun x y H Q=>f7 (fun i j=>.int (i+j)) x y H Q\/(∃ i j,x=.str i/\y=.str j/\i.length+j.length<=SK/\Q (.str (i++j)) H)\/AR x y H Q
theorem Jc {X:Cx}:OpR X (Vm .Add) (wA X.K):=op_add.or (op_add_str.or Hr)
noncomputable abbrev wB (K:Sw):R2:=wA K
theorem Jd {X:Cx}:OpR X (Vm .Add) (wB X.K):=Jc
theorem wC {K:Sw}{x y:V}{H:Hp}{Q:VK}(h:wA K x y H Q):wB K x y H Q:=h
theorem Je:dC K aZ (wB K):=by
 intro s H I x y d B E G Q R e h a k
 unfold aZ at a
 split at a
 ·cases a
  cases e
  cases h
  exact wC (.inl ⟨_,_,rfl,rfl,k s _ H .refl R (.int _)⟩)
 ·split at a
  ·rename_i c
   cases a
   cases e
   cases h
   exact wC (.inr (.inl ⟨_,_,rfl,rfl,c,k s _ H .refl R (.str _)⟩))
  ·cases a
 ·split at a
  ·rename_i o r w z
   split at a
   ·rename_i c
    cases a
    cases e
    cases h
    obtain ⟨m,i,j⟩:=R.lst _ o w
    obtain ⟨n,v,l⟩:=R.lst _ r z
    refine wC (.inr (.inr ⟨_,_,m,n,rfl,rfl,by first|exact i|exact .inl (.inl i),v,by rw [j.length,l.length];exact c,fun p A=>?_⟩))
    obtain ⟨u,R2,q⟩:=R.alloc (c:=.lst (o++r)) (o:=.lst (m++n)) A (j.append l)
    exact k _ _ _ u R2 jN
   ·cases a
  ·cases a
 ·cases a
noncomputable def fP (p:Int->Int->Bool):D->D->Hm->Option (D×Hm)
 | .int i,.int j,μ=>some (.bl (p i j),μ)
 | _,_,_=>none
theorem gU {p:Int->Int->Bool}:dC K (fP p) (f7 fun i j=>.bl (p i j)):=by
 intro l H o x y d h m n Q R c e a k
 unfold fP at a
 split at a
 ·cases a
  cases c
  cases e
  exact ⟨_,_,rfl,rfl,k l _ H .refl R (.bl _)⟩
 ·cases a
noncomputable def gE:=fP fun i j=>decide (i<j)
noncomputable def nF:=fP fun i j=>decide (i<=j)
noncomputable def jP:=fP fun i j=>decide (j<i)
noncomputable def pH:=fP fun i j=>decide (j<=i)
noncomputable def wD (K:Sw)(ne:Bool):R2:=fun x y H Q=>∃ π a c d b,Rp K π H a/\IsD K π a.length H x c/\IsD K π a.length H y d/\cE 8 a c d=some b/\Q (.bl (if ne then !b else b)) H
theorem Br {X:Cx}(c:X.A.units+8<V1):OpR X (UB .Eq) (wD X.K false):=by
 intro a s r H x y v u Q I j l h
 obtain ⟨p,o,m,n,b,R,d,i,e,q⟩:=h
 exact (Bl I R 8 c j l d i e).1 _ _ _ _ ⟨.bl b,H,I,rfl,q⟩
theorem Bs {X:Cx}(c:X.A.units+8<V1):OpR X (UB .NotEq) (wD X.K true):=by
 intro a s r H x y v u Q I j l h
 obtain ⟨p,o,m,n,b,R,d,i,e,q⟩:=h
 exact (Bl I R 8 c j l d i e).2 _ _ _ _ ⟨.bl (!b),H,I,rfl,q⟩
noncomputable def aP (ne:Bool):D->D->Hm->Option (D×Hm):=fun x y a=>(cE 8 a x y).map fun b=>(.bl (if ne then !b else b),a)
theorem sC {ne:Bool}:dC K (aP ne) (wD K ne):=by
 intro a H l x y d m n o Q R i j h k
 obtain ⟨b,c,e⟩:=SA.mp h
 cases e
 exact ⟨a,l,x,y,b,R,i,j,c,k a _ H .refl R (.bl _)⟩
end
section
variable {X:Cx}{a b c:Expr}{ma mb mc:ME}{pos:UA}
theorem sD {k:Nat}{A:Tt}(r:Room k A):A.units+8<V1:=by have:=r.un;omega
theorem Jf (u:PE X a (tM X.K ma)):PE X (.UnaryOp .USub a pos) (tM X.K (fun l h=>(ma l h).bind fun p=>(v9 p.1).map fun d=>(d,p.2))):=cT (Gr Gw u) (by
 rintro G H Q ⟨A,l,h,d,w,R,E,e,k⟩
 obtain ⟨⟨x,z⟩,r,e⟩:=Su.mp e
 obtain ⟨y,m,s⟩:=SA.mp e
 cases s
 cases x with
 | int i=>
  cases m
  refine ⟨A,l,h,_,_,R,E,r,fun j B n q o v=>?_⟩
  cases v
  exact ⟨_,rfl,k j _ n q o (.int _)⟩
 | _=>cases m)
theorem Jg {x:Str}{n:String}(d:Gl X x)(e:X.mg x=none)(i:Ut x=some (.type n))(h:x ≠ "__name__":=by decide) (hd:(x == ("__debug__":Str))=false:=by decide):PE X (.Name x pos) (tM X.K (mC (.ty n))):=
 m9 (Fs (v:=.ty n) d e i rfl h hd) fun _ _ _=>.ty n
end
noncomputable def wF (c:Hm):D->Option String
 | .non=>some "NoneType"
 | .bl _=>some "bool"
 | .int _=>some "int"
 | .str _=>some "str"
 | .tup _=>some "tuple"
 | .rol _=>some "list"
 | .loc a=>match c[a]? with
  | some (.lst _)=>some "list"
  | some (.dK _)=>some "dict"
  | _=>none
 | .ty _=>none
noncomputable def sE (t c:String):Option Bool:=match c with
 | "int"=>some (t == "int" || t == "bool")
 | "bool"=>some (t == "bool")
 | "str"=>some (t == "str")
 | "list"=>some (t == "list")
 | "tuple"=>some (t == "tuple")
 | "dict"=>some (t == "dict")
 | _=>none
noncomputable def lQ:MF:=fun ds a=>match ds with
 | [x,.ty c]=>(wF a x).bind fun t=>(sE t c).map fun b=>(.bl b,a)
 | _=>none
theorem kK (K:Sw){t c:String}{b:Bool}(d:t = "NoneType"\/t = "bool"\/t = "int"\/t = "str"\/t = "tuple"\/t = "list"\/t = "dict") (h:sE t c=some b):Wh K (.type t) (.type c)=some b:=by
 unfold sE at h
 split at h<;>first
  | cases h;done
  | (have a:=S8 h;subst a
     rcases d with rfl|rfl|rfl|rfl|rfl|rfl|rfl<;>first|rfl|decide +kernel|(unfold Wh;simp;rfl))
end L3
namespace L3
open PySem L2
noncomputable abbrev MG:=D->aJ->Hm->Option aJ
noncomputable def fB (K:Sw)(g:MG):TG:=fun v σ H Q=>∃ π h a d c,Rp K π H a/\En K π a.length H σ h/\IsD K π a.length H v d/\g d h a=some c/\∀ e,En K π a.length H e c->Q e H
noncomputable def gW (i:Nat):MG:=fun d a _=>some (a.set i (some d))
section
variable {X:Cx}{pos:UA}
theorem Bt {i:Nat}{x:Str}(c:X.N.Nodup)(j:X.N[i]? = some x)(m:Loc X.env.scope x)(e:X.fn x=true\/X.env.scope.names.lookup x=some .local:=by first|exact .inl rfl|exact .inr rfl|assumption):PG X (.Name x pos) (fB X.K (gW i)):=by
 intro a s o H v u Q I r h
 obtain ⟨q,w,p,d,n,R,E,hd,l,k⟩:=h
 cases l
 exact Ab c j m e a s o H v u Q I r (k _ (E.set hd i))
noncomputable def Jh (K:Sw)(d:TE):TI:=fun σ H R=>d σ H fun x c=>∃ a,x=.ref a/\(((∃ xs,SqL K c a xs)/\R (uV K a) c)\/((∃ xs,SqT K c a xs)/\R (uW K a) c))
theorem Ji {l tg:Expr}{u:TE}(w:PE X l u):PI X tg l (Jh X.K u):=by
 intro j s G H R I h
 refine aX (w j s G H _ I h) fun v c ⟨x,r,d,A,z⟩=>?_
 obtain ⟨a,e,q⟩:=z
 subst e
 cases A
 rcases q with ⟨⟨E,n⟩,q⟩|⟨⟨E,n⟩,q⟩
 ·obtain ⟨i,B,p,y⟩:=d.list n
  refine Vr p.isList ?_
  refine ⟨c.heap.objs.size,[c.heap.objs.size],_,_,r,rfl,d.kept (t':=c.toks) fun b o e=>SS _ e,Gd a _,⟨_,Tf _ rfl,rfl,rfl⟩,fun b m=>?_,q⟩
  have e:b=c.heap.objs.size:=by simpa using m
  subst e
  exact d.fpOk (SM _) (d.hok.fresh (SM _))
 ·obtain ⟨i,B,p,y⟩:=d.tuple n
  refine Xy (show c.heap.IsTuple a i.toArray from p) ?_
  refine ⟨c.heap.objs.size,[c.heap.objs.size],_,_,r,rfl,d.kept (t':=c.toks) fun b o e=>SS _ e,Ge a _,⟨_,Tf _ rfl,rfl,rfl⟩,fun b m=>?_,q⟩
  have e:b=c.heap.objs.size:=by simpa using m
  subst e
  exact d.fpOk (SM _) (d.hok.fresh (SM _))
end
structure Wk (K:Sw)(J:It)(src:Hm->Nat->Option (Option D))(π:Nat->Addr)(n:Nat)(H:Hp):Prop where
 stop:∀ π' μ H' i,Ext π n H π' μ.length H'->Rp K π' H' μ->src μ i=some none->J.stop i H'
 go:∀ π' μ H' i d,Ext π n H π' μ.length H'->Rp K π' H' μ->src μ i=some (some d)->J.go i H'/\∀ x H2,J.yld i H' x H2->Ext π' μ.length H' π' μ.length H2/\Rp K π' H2 μ/\IsD K π' μ.length H2 x d
noncomputable def jQ (x:D):Hm->Nat->Option (Option D):=fun a i=>(bS a x).map fun xs=>xs[i]?
theorem Jj {K:Sw}{π:Nat->Addr}{G:Hm}{H:Hp}{v:V}{x:D}{xs:List D}(R:Rp K π H G)(h:IsD K π G.length H v x)(I:bS G x=some xs) :
  ∃ a,v=.ref a/\(((∃ c,SqL K H a c)/\Wk K (uV K a) (jQ x) π G.length H)\/((∃ c,SqT K H a c)/\Wk K (uW K a) (jQ x) π G.length H)):=by
 cases h with
 | @tup p c ds q t=>
  refine ⟨p,rfl,.inr ⟨⟨c,q⟩,⟨fun n m u i e o z=>?_,fun n m u i d e o z=>?_⟩⟩⟩
  ·simp only [jQ,bS,TB] at z
   have l:ds[i]? = none:=S8 z
   exact ⟨c,e.sqT q,by rw [t.length];exact UG.mp l⟩
  ·simp only [jQ,bS,TB] at z
   have l:ds[i]? = some d:=S8 z
   obtain ⟨w,j,r⟩:=t.get l
   refine ⟨⟨c,w,e.sqT q,j⟩,fun y M ⟨A,B⟩=>?_⟩
   subst A
   have:=B c (e.sqT q)
   rw [j] at this
   cases this
   exact ⟨.refl,o,r.mono e⟩
 | @rol p c ds q t=>
  refine ⟨p,rfl,.inl ⟨⟨c,q.sq⟩,⟨fun n m u i e o z=>?_,fun n m u i d e o z=>?_⟩⟩⟩
  ·simp only [jQ,bS,TB] at z
   have l:ds[i]? = none:=S8 z
   exact ⟨c,(e.roL q).sq,by rw [t.length];exact UG.mp l⟩
  ·simp only [jQ,bS,TB] at z
   have l:ds[i]? = some d:=S8 z
   obtain ⟨w,j,r⟩:=t.get l
   refine ⟨⟨c,w,(e.roL q).sq,j⟩,fun y M ⟨A,B⟩=>?_⟩
   subst A
   have:=B c (e.roL q).sq
   rw [j] at this
   cases this
   exact ⟨.refl,o,r.mono e⟩
 | @loc a O=>
  have hc:∃ c,H (π a)=some (.lst c):=by
   simp only [bS] at I
   split at I
   ·rename_i s E
    obtain ⟨c,j,_⟩:=R.lst a s E
    exact ⟨c,j⟩
   ·cases I
  obtain ⟨L,J⟩:=hc
  refine ⟨π a,rfl,.inl ⟨⟨L,.of J⟩,⟨fun n m u i e o z=>?_,fun n m u i d e o z=>?_⟩⟩⟩
  ·simp only [jQ,bS] at z
   split at z
   ·rename_i s E
    obtain ⟨c,j,r⟩:=o.lst a s E
    rw [e.pi a O] at j
    have l:s[i]? = none:=S8 z
    exact ⟨c,.of j,by rw [r.length];exact UG.mp l⟩
   ·cases z
  ·simp only [jQ,bS] at z
   split at z
   ·rename_i s E
    obtain ⟨c,j,r⟩:=o.lst a s E
    rw [e.pi a O] at j
    have l:s[i]? = some d:=S8 z
    obtain ⟨w,N,Q⟩:=r.get l
    refine ⟨⟨c,w,.of j,N⟩,fun y M ⟨A,B⟩=>?_⟩
    subst A
    have:=B c (.of j)
    rw [N] at this
    cases this
    exact ⟨.refl,o,Q⟩
   ·cases z
 | _=>cases I
noncomputable def gX (a:Hm->Nat->Option (Option D))(g:MG)(b:MS):Nat->Nat->MS
 | 0,_,_,_=>none
 | n+1,i,ρ,μ=>(a μ i).bind fun o=>match o with
  | none=>some (.nx,ρ,μ)
  | some d=>(g d ρ μ).bind fun c=>(b c μ).bind fun p=>match p.1 with
   | .nx=>gX a g b n (i+1) p.2.1 p.2.2
   | .ct=>gX a g b n (i+1) p.2.1 p.2.2
   | .bk=>some (.nx,p.2.1,p.2.2)
   | .rt d=>some (.rt d,p.2.1,p.2.2)
theorem Jk {K:Sw}{J:It}{B:Hm->Nat->Option (Option D)}{g:MG}{b:MS}{π:Nat->Addr}{Q:Nat}{O:Hp}(W:Wk K J B π Q O){E:Ends}{A:Fl}{p:aJ}{j:Hm}(hE:lO K E π Q O A p j)
  {G:Nat->Addr}{u:Hm}{H1:Hp}{T:aJ}{σ1:St}{n:Nat}(e1:Ext π Q O G u.length H1)(R1:Rp K G H1 u)(E1:En K G u.length H1 σ1 T)(h:gX B g b n 0 T u=some (A,p,j)) :
  ∃ Wd:Nat->Nat->St->Hp->Prop,(∃ m,Wd 0 m σ1 H1)/\∀ i m X H,Wd i m X H->
   (J.stop i H/\E.nx X H)\/(J.go i H/\∃ N:St->Hp->Prop,(∀ w s,N w s->∃ m',m'<m/\Wd (i+1) m' w s)/\∀ x s,J.yld i H x s->fB K g x X s fun σ2 H2=>cU K b { E with nx:=N,ct:=N,bk:=E.nx } σ2 H2):=by
 have lift:∀ {a:Nat->Addr}{n2:Nat}{H2:Hp}(e:Ext π Q O a n2 H2){A:Fl}{p:aJ}{j:Hm},lO K E π Q O A p j->lO K E a n2 H2 A p j:=fun {a n2 H2} e {A p j} k=>by
  cases A with
  | nx=>exact fun v r H3 e3 R3 M=>k v r H3 (e.trans e3) R3 M
  | bk=>exact fun v r H3 e3 R3 M=>k v r H3 (e.trans e3) R3 M
  | ct=>exact fun v r H3 e3 R3 M=>k v r H3 (e.trans e3) R3 M
  | rt d=>exact KC.after k e
 refine ⟨fun i m X H=>∃ a l I,Ext π Q O a l.length H/\Rp K a H l/\En K a l.length H X I/\gX B g b m i I l=some (A,p,j),⟨n,G,u,T,e1,R1,E1,h⟩,?_⟩
 rintro i m X H ⟨a,l,I,z,R2,E2,h2⟩
 cases m with
 | zero=>cases h2
 | succ m=>
  obtain ⟨o,h3,h4⟩:=Su.mp h2
  cases o with
  | none=>
   cases h4
   exact .inl ⟨W.stop a _ H i z R2 h3,hE a X H z R2 E2⟩
  | some d=>
   obtain ⟨g1,g2⟩:=W.go a l H i d z R2 h3
   obtain ⟨ρ3,h5,h6⟩:=Su.mp h4
   obtain ⟨⟨f4,U,R⟩,h7,h8⟩:=Su.mp h6
   refine .inr ⟨g1,fun w s=>∃ c L q,Ext π Q O c q.length s/\Rp K c s q/\En K c q.length s w L/\gX B g b m (i+1) L q=some (A,p,j),
    fun w s ⟨c,L,q,a1,a2,a3,a4⟩=>⟨m,UY _,c,q,L,a1,a2,a3,a4⟩,fun x s y=>?_⟩
   obtain ⟨ex,Rx,hx⟩:=g2 x s y
   have z:=z.trans ex
   refine ⟨a,I,l,d,ρ3,Rx,E2.mono ex,hx,h5,fun r M=>⟨a,ρ3,l,f4,U,R,Rx,M,h7,?_⟩⟩
   cases f4 with
   | nx=>exact fun c Y H5 e5 R5 Z=>⟨c,U,R,z.trans e5,R5,Z,h8⟩
   | ct=>exact fun c Y H5 e5 R5 Z=>⟨c,U,R,z.trans e5,R5,Z,h8⟩
   | bk=>
    cases h8
    exact fun c Y H5 e5 R5 Z=>hE c Y H5 (z.trans e5) R5 Z
   | rt d'=>
    cases h8
    exact KC.after hE z
section
variable {X:Cx}{pos:UA}{tg iter:Expr}{body:List Stmt}{mi:ME}{g:MG}{mb:MS}
noncomputable def iE (lo:Int)(n:Nat):Hm->Nat->Option (Option D):=fun _ i=>some (if i<n then some (.int (lo+i)) else none)
theorem Jl {K:Sw}{lo:Int}{k:Nat}{π:Nat->Addr}{n:Nat}{H:Hp}:Wk K (kE lo k) (iE lo k) π n H:=by
 refine ⟨fun c o j i e R z=>?_,fun c o j i d e R z=>?_⟩
 ·have a:=S8 z
  split at a
  ·cases a
  ·exact V4.mp (by assumption)
 ·have a:=S8 z
  split at a
  ·cases a
   rename_i h
   exact ⟨h,fun x p ⟨l,m⟩=>by subst l;rw [m];exact ⟨.refl,R,.int _⟩⟩
  ·cases a
end
end L3
namespace L3
open PySem L2
noncomputable def nG (y:Str):Str:="#"++y
noncomputable def bJ (xs N:List Str):List Str:=N.map fun y=>if xs.contains y then nG y else y
theorem lR (xs N:List Str):(bJ xs N).length=N.length:=by unfold bJ;simp
theorem Jm {xs N:List Str}{i:Nat}{y:Str}(h:(bJ xs N)[i]? = some y):∃ a,N[i]? = some a/\((xs.contains a=true/\y=nG a)\/(xs.contains a=false/\y=a)):=by
 unfold bJ at h
 rw [Tr] at h
 obtain ⟨a,d,c⟩:=SA.mp h
 refine ⟨a,d,?_⟩
 cases hc:xs.contains a with
 | true=>rw [hc] at c;exact .inl ⟨rfl,by simpa using c.symm⟩
 | false=>rw [hc] at c;exact .inr ⟨rfl,by simpa using c.symm⟩
noncomputable def cA (X:Cx)(scope:UN)(a:List (Str×Addr))(C:Addr)(N:List Str)(s₀:SF)(H₀:Hp)(c:List Addr):Cx:=
 { X with N:=N,s₀:=s₀,H₀:=H₀,env:=V0 scope a C X.env,outer:=X.stack,stack:=X.stack,ex:=c,fn:=fun _=>false,pn:=[],xe:=fun _ _=>False }
theorem Bu {env:Wx}:∀ (names:List (Str×Va))(x:Str),(names.map fun (n,k)=>if (k == UR&&env.scope.kind == .function&&env.kindOf n == some .cell) then (n,U1) else (n,k)).lookup x
  = (names.lookup x).map fun k=>if (k == UR&&env.scope.kind == .function&&env.kindOf x == some .cell) then U1 else k
 | [],_=>rfl
 | (n,k)::r,x=>by
  have e:=Bu (env:=env) r x
  rw [SW]
  by_cases d:x=n
  ·subst d
   have a:∀ (k':Va)(l:List (Str×Va)),WX x ((x,k')::l)=some k':=fun k' l=>by simp [VX]
   rw [a]
   show WX x ((if (k == UR&&env.scope.kind == .function&&env.kindOf x == some .cell)=true then (x,U1) else (x,k))::_)=some (if (k == UR&&env.scope.kind == .function&&env.kindOf x == some .cell)=true then U1 else k)
   split
   ·rw [a]
   ·rw [a]
  ·have c:(x == n)=false:=by simpa using d
   have a:∀ (k':Va)(l:List (Str×Va)),WX x ((n,k')::l)=WX x l:=fun k' l=>by simp only [VX,c]
   rw [a]
   show WX x ((if (k == UR&&env.scope.kind == .function&&env.kindOf n == some .cell)=true then (n,U1) else (n,k))::_)=_
   split
   ·rw [a]
    exact e
   ·rw [a]
    exact e
structure CompOk (X:Cx)(scope:UN)(cl:List (Str×Addr))(xs:List Str):Prop where
 clos:a0b scope X.env=pure cl
 nocell:∀ y∈scope.names,y.2≠.cell
 kind:scope.kind=.function
 names:∀ y∈scope.names,y.2=.local->scope.names.lookup y.1=some .local
 here:∀ x∈xs,scope.names.lookup x=some .local
 sub:∀ y c,cl.lookup y=some c->X.env.cells.lookup y=some c
 free:∀ y,scope.names.lookup y=some .free->(X.env.kindOf y=some .cell\/X.env.kindOf y=some .free)/\∃ c,cl.lookup y=some c
 own:∀ y,scope.names.lookup y=some .local->y∉bJ xs X.N
 hidn:∀ y∈X.N,xs.contains y=true->scope.names.lookup (nG y)=none
section
variable {X:Cx}{scope:UN}{cl:List (Str×Addr)}{xs:List Str}
theorem CompOk.kindOf (O:CompOk X scope cl xs)(C:Addr)(y:Str):(V0 scope cl C X.env).kindOf y=(scope.names.lookup y).map fun k=>if (k == UR&&X.env.scope.kind == .function&&X.env.kindOf y == some .cell) then U1 else k:=
 Bu scope.names y
theorem CompOk.outer (O:CompOk X scope cl xs){C:Addr}{y:Str}(h:(V0 scope cl C X.env).kindOf y=some .cell\/(V0 scope cl C X.env).kindOf y=some .free):scope.names.lookup y=some .free:=by
 rw [O.kindOf] at h
 cases q:scope.names.lookup y with
 | none=>rw [q] at h;rcases h with h|h<;>cases h
 | some k=>
  rw [q] at h
  cases k with
  | free=>rfl
  | cell=>exact absurd rfl (O.nocell _ (Uc q))
  | «local»=>rcases h with h|h<;>simp at h
  | globalExplicit=>rcases h with h|h<;>simp at h
  | globalImplicit=>rcases h with h|h<;>simp at h
theorem CompOk.inv {a1r:List (Addr×Obj)}{σ:St}{H:Hp}{s:SF}{Z:List Addr}{d:Ua}{tk:Nat}(O:CompOk X scope cl xs)(I:Inv X a1r σ H s)(E:∀ b∈Z,gP X a1r H b)(hob:∀ b∈Z,∃ o,s.heap.get? b=some o){m:Str->Option Value}
  (hns:d.Ns s.heap.objs.size m)(N:∀ b o,s.heap.get? b=some o->d.get? b=some o) :
  Inv (cA X scope cl s.heap.objs.size (bJ xs X.N++xs) s H Z) [] (σ++Sz xs.length none) H { s with heap:=d,toks:=tk }:=by
 refine ⟨⟨I.ok.mod,O.kind,I.ok.glob,I.ok.blt,SM _,fun y z c h1 B=>?_,fun y hy=>?_,(fun y c h=>by cases h),I.ok.hd,I.ok.frames,.inl rfl,fun b J=>?_,fun b o e=>I.bs b o e,TX I.ok.bsz I.sz,fun b o e J=>?_,fun b J hb2=>?_,I.stack,I.stkFree⟩,
  rfl,I.bare,Un.kept N,⟨m,hns,fun i y v h1 B x=>?_⟩,fun y c h=>?_,I.hok.fresh (SM _),fun y c h=>I.freeC y c (O.sub y c h),fun p hp=>absurd (show p∈([]:List (Addr×Obj)) from hp) (by simp),I.hok.kept N,?_⟩
 ·exact I.ok.inj y z c (O.sub y c h1) (O.sub z c B)
 ·exact (O.free y (O.outer hy)).2
 ·obtain ⟨f0,T,U,A,Y,f5⟩:=E b J
  obtain ⟨o,M⟩:=hob b J
  exact ⟨S9 (SO M),fun y c h=>Y y c (O.sub y c h)⟩
 ·obtain ⟨f0,T,U,A,Y,f5⟩:=E b J
  rcases A with A|A
  ·exact I.ok.noex b o e A
  ·exact absurd (S6 (SO (I.ok.bs b o e).1) A) (UL _)
 ·obtain ⟨f0,T,U,A,Y,f5⟩:=E b J
  rcases TH.mp (I.stkSub b hb2) with z|z
  ·exact T z
  ·exact U z
 ·have L:i<σ.length:=by
   by_cases L:i<σ.length
   ·exact L
   ·rw [TU (V4.mp L),Vd] at B
    split at B<;>cases B
  rw [Tp L] at B
  have K:(bJ xs X.N)[i]? = some y:=by
   have w:(bJ xs X.N++xs)[i]? = some y:=h1
   rw [Tp (by rw [lR,<- I.len];exact L)] at w
   exact w
  have n:scope.names.lookup y≠some .local:=fun z=>O.own y z (Vn K)
  have G:=O.kindOf s.heap.objs.size y
  have h1':X.N[i]? = some y:=by
   obtain ⟨y0,q1,R⟩:=Jm K
   rcases R with ⟨R,q3⟩|⟨R,q3⟩
   ·exfalso
    have hz:=O.hidn y0 (Vn q1) R
    rw [<- q3] at hz
    rw [hz] at G
    have a:(V0 scope cl s.heap.objs.size X.env).kindOf y=some .local\/(V0 scope cl s.heap.objs.size X.env).kindOf y=some .cell\/(V0 scope cl s.heap.objs.size X.env).kindOf y=some .free:=x
    rw [G] at a
    rcases a with a|a|a<;>cases a
   ·rw [q3];exact q1
  have a:(V0 scope cl s.heap.objs.size X.env).kindOf y=some .cell\/(V0 scope cl s.heap.objs.size X.env).kindOf y=some .free:=by
   rcases x with x|x|x
   ·exfalso
    have a:(V0 scope cl s.heap.objs.size X.env).kindOf y=some .local:=x
    rw [G] at a
    cases q:scope.names.lookup y with
    | none=>rw [q] at a;cases a
    | some k=>
     rw [q] at a
     cases k with
     | «local»=>exact n q
     | cell=>simp at a
     | free=>
      simp only [TB] at a
      split at a<;>cases a
     | globalExplicit=>simp at a
     | globalImplicit=>simp at a
   ·exact .inl x
   ·exact .inr x
  obtain ⟨j,c,hc⟩:=O.free y (O.outer a)
  obtain ⟨m0,hn0,hl0⟩:=I.loc
  obtain ⟨u,r,l⟩:=hl0 i y v h1' B (by rcases j with j|j;exact .inr (.inl j);exact .inr (.inr j))
  refine ⟨u,r,.inr ⟨a,c,hc,?_⟩⟩
  rcases l with ⟨Q,_⟩|⟨_,c',e',z⟩
  ·exfalso
   rcases j with j|j
   ·rw [j] at Q;cases Q
   ·rw [j] at Q;cases Q
  ·rw [O.sub y c hc] at e'
   cases e'
   obtain ⟨o,M,hd⟩:=z
   exact ⟨o,N c o M,hd⟩
 ·obtain ⟨v,q⟩:=I.cell y c (O.sub y c h)
  exact ⟨v,by obtain ⟨o,M,hd⟩:=q;exact ⟨o,N c o M,hd⟩⟩
 ·show (σ++Sz xs.length none).length=(bJ xs X.N++xs).length
  rw [SU,SU,I.len,Ue,lR]
theorem CompOk.back {a1r Q:List (Addr×Obj)}{σ E:St}{H H':Hp}{s i:SF}{j:List Addr}{h':Ua}{N:List Str}(I:Inv X a1r σ H s)(x:∀ b∈j,gP X a1r H b)
  (J:Inv (cA X scope cl s.heap.objs.size N s H j) Q E H' i)(p:∀ b o,b≠s.heap.objs.size->i.heap.get? b=some o->h'.get? b=some o):Inv X a1r σ H' { i with heap:=h' }:=by
 have u:Un (cX X.stack) j H H' s.heap h':=by
  have h:Un (cX X.stack) j H H' s.heap i.heap:=J.base
  have ne:∀ b o,s.heap.get? b=some o->b≠s.heap.objs.size:=fun b o e=>S9 (SO e)
  refine ⟨fun b o e n l m=>p b o (ne b o e) (h.keep b o e n l m),fun b o e n l m=>?_,h.free,fun b o e m=>?_,h.tups,h.frzs,h.tbls⟩
  ·obtain ⟨R,q⟩:=h.slot b o e n l m
   exact ⟨R,p b _ (ne b o e) q⟩
  ·obtain ⟨O,q⟩:=h.there b o e m
   exact ⟨O,p b _ (ne b o e) q⟩
 have a:H' s.heap.objs.size=none:=J.free
 have hok:HOk X.prog X.w H' h':=fun b v e=>by
  refine (J.hok b v e).stay (fun c w hc q=>p c w ?_ q) (fun _ q=>q) fun _ _ q=>q
  rcases hc with z|z
  ·rw [z]
   intro B
   rw [B,a] at e
   cases e
  ·intro B
   rw [B,a] at z
   cases z
 have y:i.os=s.os:=J.os
 obtain ⟨Y,g,d,t,A⟩:=i
 obtain rfl:A=s.os:=y
 have r:=Inv.call (X:=X) (a1r:=a1r) (σ:=σ) (H:=H) (s:=s) (h':=h') (g':=g) (d':=d) (t':=t) (ch:=j) I u hok J.bare fun b l=>let ⟨T,G,U,K,L,M⟩:=x b l;⟨K,G,L,M⟩
 exact r
end
theorem Jn {prog:Tc}{w:Ts}{A:Tt}{R:Result->SF->Prop}{s:SF}{elt a iter:Expr}{ifs:List Expr}{scope:UN}{pos:UA}{H y:Value}{env:Wx}(I:Nat->SF->Prop)
  (turn:∀ n s,I n s->Ti (Tq prog w) A (Zi H) (fun r e=>match r with
   | none=>R (.ok .next) e
   | some v=>Ti (Tq prog w) A (W5 a H v) (fun _ i=>Ti (Tq prog w) A (XB a env v) (fun _ p=>
     Ti (Tq prog w) A (forIn ifs true fun c r=>if r=true then do let ok <- X3 c env (eval c env);pure (Vt ok) else pure (Vt r)) (fun ok j=>
      if ok=true then Ti (Tq prog w) A (eval elt env) (fun x q=>
       Ti (Tq prog w) A (call (.builtin "list.append") [y,x]) (fun _ u=>∃ m,m<n/\I m u) (fun _ _=>False) q) (fun _ _=>False) j
      else ∃ m,m<n/\I m j) (fun _ _=>False) p) (fun _ _=>False) i) (fun _ _=>False) e) (fun _ _=>False) s)
  (n:Nat)(h:I n s) :
  XO (Tq prog w) A (.compLoop (.ListComp elt [⟨a,iter,ifs,0⟩] scope pos) 0 H y env) R s:=by
 refine codeAny_loop rfl I (fun n s J=>?_) n h
 show Ti _ A ((compTurn (.ListComp elt [⟨a,iter,ifs,0⟩] scope pos) 0 H y env).onRaise (fun x=>do X2 x env;theTreesLotGoes x)) _ _ s
 refine wpAny_noted ?_
 rw [compTurn_list]
 refine S0 (YM (S0 (TK (turn n s J) (fun r e l=>?_) fun _ _ d=>d.elim)))
 cases r with
 | none=>exact TV l
 | some v=>
  refine S0 (TK l (fun _ i z=>?_) fun _ _ d=>d.elim)
  refine S0 (TK z (fun _ p B=>S0 (TK B (fun ok j o=>?_) fun _ _ d=>d.elim)) fun _ _ d=>d.elim)
  cases ok with
  | false=>exact TV ⟨rfl,o⟩
  | true=>
   exact S0 (S0 (TK o (fun x q E=>S0 (TK E (fun _ u G=>TV (TV ⟨rfl,G⟩)) fun _ _ d=>d.elim)) fun _ _ d=>d.elim))
noncomputable def nH (c:Hm)(a:Nat)(y:D):Option Hm:=match c[a]? with
 | some (.lst xs)=>if xs.length<SK then some (c.set a (.lst (xs++[y]))) else none
 | _=>none
noncomputable abbrev BD:=D->Hm->Option aJ
noncomputable def lS:BD:=fun d _=>some [some d]
noncomputable def sF (k:Nat):BD:=fun d a=>(bS a d).bind fun xs=>if xs.length=k then some (xs.map some) else none
noncomputable def gF (a:Hm->Nat->Option (Option D))(l:BD)(c:MT)(e:ME)(h:aJ)(j:Nat):Nat->Nat->Hm->Option Hm
 | 0,_,_=>none
 | n+1,i,μ=>(a μ i).bind fun o=>match o with
  | none=>some μ
  | some d=>(l d μ).bind fun x=>(c (h++x) μ).bind fun p=>match p.1 with
   | true=>(e (h++x) p.2).bind fun q=>(nH q.2 j q.1).bind fun m=>gF a l c e h j n (i+1) m
   | false=>gF a l c e h j n (i+1) p.2
noncomputable def cZ:MT:=fun _ a=>some (true,a)
noncomputable def lT (X:Cx)(ifs:List Expr)(m:MT):Prop:=
 ∀ (a1r:List (Addr×Obj))(s:SF)(σ:St)(H:Hp)(Q:Bool->Hp->Prop),Inv X a1r σ H s->cS X.K m σ H Q->
  Ti (Tq X.prog X.w) X.A (forIn ifs true fun c r=>if r=true then do let ok <- X3 c X.env (eval c X.env);pure (Vt ok) else pure (Vt r)) (TP X a1r σ Q) X.xe s
theorem Jo {X:Cx}:lT X [] cZ:=by
 intro a s l H Q I h
 obtain ⟨e,j,i,b,d,R,E,c,k⟩:=h
 cases c
 exact wpAny_tests_nil ⟨H,I,k e H .refl R⟩
theorem Jp {X:Cx}{c:Expr}{m:MT}(h:PT X c (cS X.K m)):lT X [c] m:=fun a1r s σ H Q I q=>wpAny_tests_one (h a1r s σ H Q I q)
end L3
namespace L3
open PySem L2
section
variable {prog:Tc}{w:Ts}{A:Tt}{E:Value->SF->Prop}{s:SF}
theorem Bv {j t:Addr}{a:Array Value}(m:t≠j):∀ (n i:Nat)(s:SF)(Q:List Value->SF->Prop),s.heap.IsListIter j t i->s.heap.IsList t a->i+n<=a.size->
  (∀ p,p.IsListIter j t (i+n)->Xi j s.heap p->Q ((a.toList.drop i).take n) { s with heap:=p })->Ti (Tq prog w) A (draw (.ref j) n) Q E s
 | 0,i,s,Q,hit,_,_,hQ=>by
  show Ti _ _ (pure []) Q E s
  exact TV (by simpa using hQ s.heap hit (a1g ..))
 | n+1,i,s,Q,hit,ht,hle,hQ=>by
  have l:i<a.size:=by omega
  show Ti _ _ (Zi (.ref j) >>= _) Q E s
  refine S0 (Zd hit ht (x:=a[i]) (by simp [l]) fun q d c=>?_)
  refine S0 (VH (Bv m n (i+1) _ _ d (ht.extBut c.extBut m) (by omega) fun o e h=>TV ?_))
  have hd:a.toList.drop i=a[i]::a.toList.drop (i+1):=by simp [List.drop_eq_getElem_cons,l]
  have:=hQ o (by rw [show i+(n+1)=i+1+n by omega];exact e) (c.trans h)
  rw [hd,List.take_succ_cons] at this
  exact this
theorem Jq {t:Addr}{a:Array Value}{Q:List Value->SF->Prop}(v:A.handled=none)(m:s.heap.IsList t a)
  (u:∀ q,YL s.heap.objs.size s.heap q->Q a.toList { s with heap:=q }):Ti (Tq prog w) A (unpackItems (.ref t) a.size none) Q E s:=by
 have l:t≠s.heap.objs.size:=by obtain ⟨o,x,_⟩:=m;exact S9 (SO x)
 unfold unpackItems
 refine S0 ?_
 ·unfold notIterableAtAll
  refine S0 (a0O m.typeIs slot_list_iter.lookup ?_)
  refine TV ?_
  simp only [SI,if_false]
  refine S0 (VH (Vr m ?_))
  refine S0 (VH (Bv l a.size 0 _ _ ⟨_,Tf _ rfl,rfl,rfl⟩ (m.push _) (by omega) fun n d c=>?_))
  have j:List.take a.size (List.drop 0 a.toList)=a.toList:=by
   rw [Wr];exact UC (by simp)
  rw [j]
  rw [if_neg (by simp)]
  have i:n.IsList t a:=(m.push _).extBut c.extBut l
  refine S0 (VH (ZH v d i (by simp) fun p h=>?_))
  simp only [W7,SI,if_false]
  refine TV (u p fun b o r e=>h b o r (c.extBut b o r (SS _ e)))
theorem Jr {env:Wx}{c:List Expr} {x1} {pos:UA}{t:Addr}{a:Array Value}{Q:Unit->SF->Prop}(i:A.handled=none)(l:s.heap.IsList t a)
  (j:(UX c env).length=a.size)(d:(UX c env).findIdx? (·.1)=none)
  (h:∀ e,YL s.heap.objs.size s.heap e->Ti (Tq prog w) A (assignInOrder ((UX c env).map (·.2)) a.toList) Q E { s with heap:=e }) :
  Ti (Tq prog w) A (XB (.Tuple c x1 pos) env (.ref t)) Q E s:=by
 rw [a0Z]
 refine S0 (YM ?_)
 unfold unpack
 rw [j,d]
 exact S0 (VH (Jq i l h))
end
noncomputable def lU:aJ->List Nat->List D->aJ
 | ρ,i::is,x::xs=>lU (ρ.set i (some x)) is xs
 | ρ,_,_=>ρ
noncomputable def jR (is:List Nat):MG:=fun d c a=>(bS a d).bind fun xs=>if xs.length=is.length then some (lU c is xs) else none
noncomputable def sG:List Nat->m3
 | []=>Ac
 | i::r=>Ad (uU i) (sG r)
theorem wG {K:Sw}{π:Nat->Addr}{n:Nat}{H:Hp}:∀ (is:List Nat){vs:List V}{xs:List D}{σ:St}{c:aJ}{Q:St->Hp->Prop},IsDs K π n H vs xs->En K π n H σ c->xs.length=is.length->(∀ a,En K π n H a (lU c is xs)->Q a H)->sG is vs σ H Q
 | [],vs,xs,σ,c,Q,h,E,hl,k=>by
  cases h with
  | nil=>exact ⟨rfl,k σ E⟩
  | cons h t=>cases hl
 | i::is,vs,xs,σ,c,Q,h,E,hl,k=>by
  cases h with
  | nil=>cases hl
  | cons h t=>exact ⟨_,_,rfl,wG is t (E.set h i) (by simpa using hl) k⟩
section
variable {X:Cx}{pos:UA}
theorem Js {es:List Expr}{k:Nat}{is:List Nat}(hc:X.calm=true)(h:oS X es (sG is))(L:(UX es X.env).length=is.length:=by rfl)(p:(UX es X.env).findIdx? (·.1)=none:=by rfl) :
  PG X (.Tuple es k pos) (fB X.K (jR is)):=by
 intro j s y H v u Q I r hw
 obtain ⟨O,ρ,N,d,ρ',R,E,hd,Y,M⟩:=hw
 obtain ⟨K,l,B⟩:=Su.mp Y
 split at B
 ·rename_i x
  cases B
  have n:(∃ a i,v=.ref a/\SqT X.K H a i/\IsDs X.K O N.length H i K)\/(∃ a i,v=.ref a/\SqL X.K H a i/\IsDs X.K O N.length H i K):=by
   cases hd with
   | tup q t=>cases l;exact .inl ⟨_,_,rfl,q,t⟩
   | rol q t=>cases l;exact .inr ⟨_,_,rfl,q.sq,t⟩
   | @loc a ha=>
    simp only [bS] at l
    split at l
    ·rename_i ys Z
     cases l
     obtain ⟨i,T,U⟩:=R.lst a K Z
     exact .inr ⟨_,i,rfl,.of T,U⟩
    ·cases l
   | _=>cases l
  rcases n with ⟨a,i,rfl,q,t⟩|⟨a,i,rfl,q,t⟩
  ·cases r
   obtain ⟨m,w,G,hz⟩:=I.tuple q
   have c:m.length=is.length:=by rw [<- w.length,t.length];exact x
   refine a0Y (I.ok.hd hc) G (by simp [L,c]) p fun A J=>?_
   have z:Inv X j y H { s with heap:=A }:=I.kept (t':=s.toks) fun b o e=>J b o (S9 (SO e)) e
   exact h j _ y H i _ Q z (by simpa using w) (wG is t E x M)
  ·cases r
   obtain ⟨m,w,G,hz⟩:=I.list q
   have c:m.length=is.length:=by rw [<- w.length,t.length];exact x
   refine Jr (I.ok.hd hc) G.isList (by simp [L,c]) p fun A J=>?_
   have z:Inv X j y H { s with heap:=A }:=I.kept (t':=s.toks) fun b o e=>J b o (S9 (SO e)) e
   exact h j _ y H i _ Q z (by simpa using w) (wG is t E x M)
 ·cases B
noncomputable def wH (m:ME)(g:MG):MS:=fun c d=>(m c d).bind fun p=>(g p.1 c p.2).map fun a=>(.nx,a,p.2)
theorem Jt {tg e:Expr}{m:ME}{g:MG}(s:PE X e (tM X.K m))(u:PG X tg (fB X.K g))(v:swapsWithSole [tg] e pos.line X.env=pure false:=by rfl)(hw:YO [tg] e X.env=pure none:=by rfl)
  (d:(UX [tg] X.env).map (·.2)=[XB tg X.env]:=by rfl):PS X (.Assign [tg] e pos) (cU X.K (wH m g)):=iD (F8 s u v hw d) (by
 rintro E K H ⟨A,o,y,I,B,z,R,j,a,k⟩
 obtain ⟨⟨x,h⟩,d,a⟩:=Su.mp a
 obtain ⟨G,r,a⟩:=SA.mp a
 cases a
 exact ⟨A,o,y,x,h,R,j,d,fun c J q n l w=>⟨c,o,_,x,_,l,j.mono n,w,r,fun i p=>k c i q n l p⟩⟩)
end
section
variable {X:Cx}{K:Sw}
noncomputable def pI:MF:=fun ds a=>match ds with
 | [.str z]=>if z.length<=SK then some (.int z.length,a) else none
 | [x]=>(bS a x).map fun c=>(.int c.length,a)
 | _=>none
noncomputable def wI (K:Sw):List V->Hp->VK->Prop:=fun xs H Q=>(∃ p a,xs=[.ref p]/\(SqL K H p a\/SqT K H p a)/\Q (.int a.length) H)\/(∃ z,xs=[.str z]/\z.length<=SK/\Q (.int z.length) H)
theorem call_lenM:CallR X (.builtin "len") (wI X.K):=call_len_seq.or Hk
theorem sH {π:Nat->Addr}{c:Hm}{H:Hp}{v:V}{x:D}{xs:List D}(R:Rp K π H c)(h:IsD K π c.length H v x)(e:bS c x=some xs):∃ p vs,v=.ref p/\(SqL K H p vs\/SqT K H p vs)/\IsDs K π c.length H vs xs:=by
 cases h with
 | tup q t=>cases e;exact ⟨_,_,rfl,.inr q,t⟩
 | rol q t=>cases e;exact ⟨_,_,rfl,.inl q.sq,t⟩
 | @loc a l=>
  simp only [bS] at e
  split at e
  ·rename_i m j
   cases e
   obtain ⟨vs,d,i⟩:=R.lst a xs j
   exact ⟨_,vs,rfl,.inl (.of d),i⟩
  ·cases e
 | _=>cases e
theorem Bw:cY K pI (wI K):=by
 intro c H s o d m n Q R i a k
 unfold pI at a
 split at a
 ·split at a
  ·rename_i j
   cases a
   cases i with
   | cons i t=>cases i;cases t;exact .inr ⟨_,rfl,j,k c _ H .refl R (.int _)⟩
  ·cases a
 ·obtain ⟨r,e,h⟩:=SA.mp a
  cases h
  cases i with
  | cons i t=>
   cases t
   obtain ⟨p,l,rfl,q,hd⟩:=sH R i e
   refine .inl ⟨p,l,rfl,q,?_⟩
   rw [hd.length]
   exact k c _ H .refl R (.int _)
 ·cases a
noncomputable def iX:MF:=fun ds a=>match ds with
 | [x]=>(bS a x).map fun c=>(.loc a.length,a++[.lst c])
 | _=>none
theorem Ju:cY K iX (fun xs H Q=>∃ p a,xs=[.ref p]/\(SqL K H p a\/SqT K H p a)/\∀ l,H l=none->Q (.ref l) (bA H l (.lst a))):=by
 intro u H s xs d o r Q R i c k
 unfold iX at c
 split at c
 ·obtain ⟨a,j,m⟩:=SA.mp c
  cases m
  cases i with
  | cons i t=>
   cases t
   obtain ⟨p,e,rfl,q,hd⟩:=sH R i j
   refine ⟨p,e,rfl,q,fun l n=>?_⟩
   obtain ⟨h,R2,_⟩:=R.alloc (c:=.lst a) (o:=.lst e) n hd
   exact k _ _ _ h R2 jN
 ·cases c
noncomputable def Bx (K:Sw):List V->Hp->VK->Prop:=fun vs H Q=>∃ π a x v t c b,vs=[v,.ty c]/\Rp K π H a/\IsD K π a.length H v x/\wF a x=some t/\sE t c=some b/\Q (.bl b) H
theorem Jv:cY K lQ (Bx K):=by
 intro c H q p d n o Q R i a k
 unfold lQ at a
 split at a
 ·obtain ⟨t,e,a⟩:=Su.mp a
  obtain ⟨b,h,a⟩:=SA.mp a
  cases a
  cases i with
  | cons i l=>
   cases l with
   | cons j m=>
    cases m
    cases j
    exact ⟨c,_,_,_,t,_,b,rfl,R,i,e,h,k c _ H .refl R (.bl _)⟩
 ·cases a
theorem Jw:CallR X (.builtin "isinstance") (Bx X.K):=by
 intro A s U H N us Q I r h
 obtain ⟨T,μ,x,v,t,c,b,rfl,R,i,d,e,q⟩:=h
 obtain ⟨u,u2,rfl,m,O⟩:=u7 r
 cases O
 have aV:∀ J,EP X A U Q (.bool b) { s with toks:=J }:=fun J=>⟨.bl b,H,I.tok J,rfl,q⟩
 cases i with
 | non=>cases d;cases m;exact UM PySem.W.kitx_none I.kIn VW (kK X.K (by simp) e) (fun z=>nomatch z) aV
 | bl y=>cases d;cases m;exact UM PySem.W.kitx_bool I.kIn VW (kK X.K (by simp) e) (fun z=>nomatch z) aV
 | int y=>cases d;obtain ⟨t,rfl⟩:=m;exact UM PySem.W.kitx_int I.kIn VW (kK X.K (by simp) e) (fun z=>nomatch z) aV
 | str y=>cases d;obtain ⟨t,rfl⟩:=m;exact UM PySem.W.kitx_str I.kIn VW (kK X.K (by simp) e) (fun z=>nomatch z) aV
 | tup g t=>
  cases d
  cases m
  obtain ⟨w,L,p,_⟩:=I.tuple g
  obtain ⟨o,j,l,_⟩:=p
  exact UM PySem.W.kitx_tuple I.kIn ⟨o,j,l⟩ (kK X.K (by simp) e) (fun z=>nomatch z) aV
 | rol g t=>
  cases d
  cases m
  obtain ⟨w,L,p,_⟩:=I.list g.sq
  obtain ⟨o,j,l,_⟩:=p.isList
  exact UM YF I.kIn ⟨o,j,l⟩ (kK X.K (by simp) e) (fun z=>nomatch z) aV
 | @loc a ha=>
  cases m
  simp only [wF] at d
  split at d
  ·rename_i N E
   cases d
   obtain ⟨M,B,h4⟩:=R.lst a N E
   obtain ⟨w,L,p,_⟩:=I.list (SqL.of (K:=X.K) B)
   obtain ⟨o,j,l,_⟩:=p.isList
   exact UM YF I.kIn ⟨o,j,l⟩ (kK X.K (by simp) e) (fun z=>nomatch z) aV
  ·rename_i G E
   cases d
   obtain ⟨M,B,_⟩:=R.dK a G E
   obtain ⟨_,_,ws,_,p⟩:=(show ObjOk X.prog X.w H s.heap (T a) (.dK M) from I.hok _ _ B)
   obtain ⟨o,Z,Y,j,l,_⟩:=p
   exact UM PySem.W.kitx_dict I.kIn ⟨o,j,l.1⟩ (kK X.K (by simp) e) (fun z=>nomatch z) aV
  ·cases d
 | ty n=>cases d
end
noncomputable def lV:D->Option aR
 | .int i=>some (.inl i)
 | .str x=>some (.inr x)
 | _=>none
noncomputable def nI (a:List (aR×D))(k:aR)(d:D):List (aR×D):=
 if (a.any fun c=>decide (c.1=k))=true then a.map (fun c=>if c.1=k then (c.1,d) else c) else a++[(k,d)]
noncomputable def fQ (a:List (aR×D))(k:aR):Option D:=(a.find? fun c=>decide (c.1=k)).map (·.2)
inductive IsKs (K:Sw)(π:Nat->Addr)(n:Nat)(H:Hp):List (aR×V)->List (aR×D)->Prop where
 | nil:IsKs K π n H [] []
 | cons {k:aR}{v:V}{d:D}{vs:List (aR×V)}{ds:List (aR×D)}(h:IsD K π n H v d)(t:IsKs K π n H vs ds):IsKs K π n H ((k,v)::vs) ((k,d)::ds)
section
variable {K:Sw}{π π':Nat->Addr}{n n':Nat}{H H':Hp}
theorem IsKs.mono {vs:List (aR×V)}{ds:List (aR×D)}(e:Ext π n H π' n' H')(h:IsKs K π n H vs ds):IsKs K π' n' H' vs ds:=by
 induction h with
 | nil=>exact .nil
 | cons h t a=>exact .cons (h.mono e) a
theorem IsKs.maps {vs:List (aR×V)}{ds:List (aR×D)}(h:IsKs K π n H vs ds):vs.map (·.1)=ds.map (·.1)/\IsDs K π n H (vs.map (·.2)) (ds.map (·.2)):=by
 induction h with
 | nil=>exact ⟨rfl,.nil⟩
 | cons h t a=>exact ⟨by rw [SW,SW,a.1],.cons h a.2⟩
theorem IsKs.of:∀ {vs:List (aR×V)}{ds:List (aR×D)},vs.map (·.1)=ds.map (·.1)->IsDs K π n H (vs.map (·.2)) (ds.map (·.2))->IsKs K π n H vs ds
 | [],[],_,_=>.nil
 | [],_::_,h,_=>by cases h
 | _::_,[],h,_=>by cases h
 | (k,v)::vs,(k',d)::ds,h,t=>by
  rw [SW,SW] at h t
  injection h with h1 h2
  dsimp only at h1
  subst h1
  cases t with
  | cons a c=>exact .cons a (IsKs.of h2 c)
theorem IsKs.append {vs a:List (aR×V)}{ds es:List (aR×D)}(h:IsKs K π n H vs ds)(c:IsKs K π n H a es):IsKs K π n H (vs++a) (ds++es):=by
 induction h with
 | nil=>exact c
 | cons h t d=>exact .cons h d
theorem IsKs.any {vs:List (aR×V)}{ds:List (aR×D)}(h:IsKs K π n H vs ds)(k:aR):(vs.any fun a=>decide (a.1=k))=ds.any fun a=>decide (a.1=k):=by
 induction h with
 | nil=>rfl
 | cons h t c=>rw [V6,V6,c]
theorem IsKs.repl {vs:List (aR×V)}{ds:List (aR×D)}(h:IsKs K π n H vs ds){v:V}{d:D}(i:IsD K π n H v d)(k:aR):IsKs K π n H (vs.map fun a=>if a.1=k then (a.1,v) else a) (ds.map fun a=>if a.1=k then (a.1,d) else a):=by
 induction h with
 | nil=>exact .nil
 | @cons j m l vs ds h t c=>
  rw [SW,SW]
  by_cases e:j=k
  ·simp only [e,if_true]
   exact .cons i c
  ·simp only [e,if_false]
   exact .cons h c
theorem IsKs.put {vs:List (aR×V)}{ds:List (aR×D)}(h:IsKs K π n H vs ds){v:V}{d:D}(a:IsD K π n H v d)(k:aR):IsKs K π n H (e6 vs k v) (nI ds k d):=by
 unfold e6 nI
 rw [h.any k]
 split
 ·exact h.repl a k
 ·exact h.append (.cons a .nil)
theorem IsKs.val {vs:List (aR×V)}{ds:List (aR×D)}(h:IsKs K π n H vs ds)(k:aR):(fQ ds k=none/\d9 vs k=none)\/∃ v d,fQ ds k=some d/\d9 vs k=some v/\IsD K π n H v d:=by
 induction h with
 | nil=>exact .inl ⟨rfl,rfl⟩
 | @cons a i c vs ds h t m=>
  by_cases e:a=k
  ·exact .inr ⟨i,c,by simp [fQ,UE,e],by simp [d9,UE,e],h⟩
  ·have j:fQ ((a,c)::ds) k=fQ ds k:=by simp [fQ,UE,e]
   have l:d9 ((a,i)::vs) k=d9 vs k:=by simp [d9,UE,e]
   rw [j,l]
   exact m
theorem IsKs.length {vs:List (aR×V)}{ds:List (aR×D)}(h:IsKs K π n H vs ds):vs.length=ds.length:=by
 induction h with
 | nil=>rfl
 | cons h t a=>rw [SY,SY,a]
theorem By {y:V}{d:D}{k:aR}(h:IsD K π n H y d)(e:lV d=some k):y=kV k:=by
 cases h<;>first|cases e;done|(cases e;rfl)
end
noncomputable def Jx (K:Sw)(a:List (ME×ME)):List (TE×TE):=a.map fun p=>(tM K p.1,tM K p.2)
section
variable {X:Cx}{a b c:Expr}{ma mb mc:ME}{pos:UA}
noncomputable def sI:D->D->Hm->Option (D×Hm)
 | .loc a,y,μ=>match μ[a]? with
  | some (.dK kvs)=>(lV y).bind fun k=>(fQ kvs k).map fun d=>(d,μ)
  | _=>none
 | _,_,_=>none
theorem Jy {K:Sw}{π:Nat->Addr}{j:Hm}{H:Hp}{a:Nat}{i:List (aR×D)}(R:Rp K π H j)(h:j[a]? = some (.dK i)){y:V}{n:D}{k:aR}(s:IsD K π j.length H y n)(r:lV n=some k) :
  (fQ i k=none/\DGet H (π a) y none)\/∃ v d,fQ i k=some d/\DGet H (π a) y (some v)/\IsD K π j.length H v d:=by
 obtain ⟨w,o,p,q⟩:=R.dK a i h
 have e:=By s r
 subst e
 have g:=DGet.k (k:=k) o
 rcases (IsKs.of p q).val k with ⟨l,m⟩|⟨v,d,l,m,u⟩
 ·exact .inl ⟨l,by rw [<- m];exact g⟩
 ·exact .inr ⟨v,d,l,by rw [<- m];exact g,u⟩
theorem Jz (p:X.A.units+1<V1)(m:PE X a (tM X.K ma))(n:PE X b (tM X.K mb))(o:vJ b):PE X (.Subscript a b pos) (tM X.K (aC sI ma mb)):=cT (GZ p m n o) (by
 intro B H Q h
 refine pD (r:=fun x y H Q=>∃ a v,x=.ref a/\DGet H a y (some v)/\Q v H) ?_ B H Q h
 intro A H L x y d z J K Q R q r e k
 unfold sI at e
 split at e
 ·split at e
  ·rename_i s hc
   obtain ⟨I,l,e⟩:=Su.mp e
   obtain ⟨E,i,e⟩:=SA.mp e
   cases e
   cases q
   rcases Jy R hc r l with ⟨j,_⟩|⟨v,G,j,u,w⟩
   ·rw [j] at i;cases i
   ·rw [j] at i
    cases i
    exact ⟨_,v,rfl,u,k A _ H .refl R w⟩
  ·cases e
 ·cases e)
end
theorem JA {k:Nat}{A:Tt}(r:Room k A):A.units+1<V1:=by have:=r.un;omega
noncomputable def iF (a:ME):ME:=fun e c=>(a e c).bind fun p=>(v9 p.1).map fun d=>(d,p.2)
end L3
namespace L3
open PySem L2
noncomputable def fR (cells:List (Str×Addr)):List (Str×Va)->List (Str×Addr)->List (Str×Addr)
 | [],acc=>acc
 | (n,k)::r,acc=>if k=.free then (match cells.lookup n with|some c=>fR cells r ((n,c)::acc)|none=>fR cells r acc) else fR cells r acc
theorem Bz {env:Wx}:∀ (names:List (Str×Va))(a:List (Str×Addr)),(∀ y∈names,y.2=.free->∃ c,env.cells.lookup y.1=some c)->
  (forIn names a fun (x:Str×Va)(i:List (Str×Addr))=>(do
   if x.2 == .free then (do let c <- cellOf env x.1;pure (Vt ((x.1,c)::i))) else pure (Vt i):a0Q (ForInStep (List (Str×Addr)))))=pure (fR env.cells names a)
 | [],a,_=>rfl
 | (n,k)::r,a,h=>by
  have j:=fun a=>Bz r a fun y l=>h y (Ur _ l)
  rw [ZX]
  by_cases d:k=.free
  ·subst d
   obtain ⟨c,hc⟩:=h (n,.free) (UH ..) rfl
   dsimp only at hc
   have e:cellOf env n=pure c:=by unfold cellOf;rw [hc]
   simp only [fR,hc,e,beq_self_eq_true,if_true,pure_bind]
   exact j _
  ·have e:(k == UR)=false:=by simpa using d
   simp only [fR,e,d,if_false,SI,pure_bind]
   exact j _
theorem JB {scope:UN}{env:Wx}(h:∀ y∈scope.names,y.2=.free->∃ c,env.cells.lookup y.1=some c):a0b scope env=pure (fR env.cells scope.names []):=by
 have:=Bz (env:=env) scope.names [] h
 unfold a0b
 simp only [bind_pure] at *
 exact this
theorem sJ {cells:List (Str×Addr)}:∀ (names:List (Str×Va))(a:List (Str×Addr)),(∀ y c,a.lookup y=some c->cells.lookup y=some c)->∀ y c,(fR cells names a).lookup y=some c->cells.lookup y=some c
 | [],a,h=>h
 | (n,k)::r,a,h=>by
  unfold fR
  split
  ·split
   ·rename_i i hc
    refine sJ r _ fun y c e=>?_
    rw [VX] at e
    by_cases d:y=n
    ·subst d
     simp only [beq_self_eq_true] at e
     cases e
     exact hc
    ·have:(y == n)=false:=by simpa using d
     rw [this] at e
     exact h y c e
   ·exact sJ r a h
  ·exact sJ r a h
theorem sL {cells:List (Str×Addr)}:∀ (names:List (Str×Va))(a:List (Str×Addr))(y:Str),(∃ c,a.lookup y=some c)->∃ c,(fR cells names a).lookup y=some c
 | [],a,y,h=>h
 | (n,k)::r,a,y,h=>by
  unfold fR
  split
  ·split
   ·refine sL r _ y ?_
    rw [VX]
    by_cases d:(y == n)=true
    ·rw [d];exact ⟨_,rfl⟩
    ·have:(y == n)=false:=by simpa using d
     rw [this]
     exact h
   ·exact sL r a y h
  ·exact sL r a y h
theorem sM {cells:List (Str×Addr)}:∀ (names:List (Str×Va))(a:List (Str×Addr))(y:Str),(y,UR)∈names->(∃ c,cells.lookup y=some c)->∃ c,(fR cells names a).lookup y=some c
 | [],a,y,h,_=>by cases h
 | (n,k)::r,a,y,h,hc=>by
  unfold fR
  rcases TH.mp h with h|h
  ·cases h
   obtain ⟨c,hc⟩:=hc
   rw [if_pos rfl,hc]
   exact sL r _ _ ⟨c,by simp [VX]⟩
  ·split
   ·split
    ·exact sM r _ y h hc
    ·exact sM r _ y h hc
   ·exact sM r _ y h hc
structure CompSt (osc:UN)(N:List Str)(scope:UN)(xs:List Str):Prop where
 nocell:∀ y∈scope.names,y.2≠.cell
 kind:scope.kind=.function
 names:∀ y∈scope.names,y.2=.local->scope.names.lookup y.1=some .local
 here:∀ x∈xs,scope.names.lookup x=some .local
 free:∀ y∈scope.names,y.2=.free->osc.names.lookup y.1=some .cell\/osc.names.lookup y.1=some .free
 own:∀ y∈scope.names,y.2=.local->y.1∉bJ xs N
 nd:N.Nodup
 hnd:(bJ xs N).Nodup
 hidn:∀ y∈N,xs.contains y=true->scope.names.lookup (nG y)=none
theorem CompSt.ok {X:Cx}{scope:UN}{xs:List Str}(S:CompSt X.env.scope X.N scope xs)(ok:X.Ok):CompOk X scope (fR X.env.cells scope.names []) xs:=by
 have has:∀ y∈scope.names,y.2=.free->∃ c,X.env.cells.lookup y.1=some c:=fun y h d=>ok.has y.1 (S.free y h d)
 refine ⟨JB has,S.nocell,S.kind,S.names,S.here,sJ scope.names [] (fun y c e=>by cases e),fun y e=>?_,fun y e=>?_,S.hidn⟩
 ·have a:=Uc e
  exact ⟨S.free _ a rfl,sM scope.names [] y a (has _ a rfl)⟩
 ·exact S.own _ (Uc e) rfl
end L3
namespace L3
open PySem L2
end L3
namespace L3
open PySem L2
noncomputable def cF (e:Expr):Bool:=!(e.ctorIdx == 22)
theorem eD {e:Expr}{es:List Expr}{env:Wx}(h:cF e=true):Tu (e::es) env=(false,eval e env)::Tu es env:=by
 cases e<;>first|rfl|cases h
theorem iY {pos:UA}{env:Wx}:∀ {es:List Expr},es.all cF=true->(Vg pos (Tu es env)).any (·.1)=false
 | [],_=>rfl
 | e::es,h=>by
  rw [Tz,Sy] at h
  rw [eD h.1]
  have:=iY (pos:=pos) (env:=env) h.2
  simpa [Vg] using this
theorem sN {e:Expr}{es:List Expr}{env:Wx}(h:cF e=true):UX (e::es) env=(false,XB e env)::UX es env:=by
 cases e<;>first|rfl|cases h
theorem BA {env:Wx}:∀ {es:List Expr},es.all cF=true->(UX es env).length=es.length
 | [],_=>rfl
 | e::es,h=>by
  rw [Tz,Sy] at h
  rw [sN h.1,SY,SY,BA h.2]
theorem BB {env:Wx}:∀ {es:List Expr},es.all cF=true->(UX es env).findIdx? (·.1)=none
 | [],_=>rfl
 | e::es,h=>by
  rw [Tz,Sy] at h
  rw [sN h.1,List.findIdx?_cons,BB h.2]
  rfl
end L3
namespace L3
open PySem L2
structure QE (X:Cx)(e:Expr)(m:ME):Prop where
 h:PE X e (tM X.K m)
structure QT (X:Cx)(e:Expr)(m:MT):Prop where
 h:PT X e (cS X.K m)
structure QW (X:Cx)(e:Expr)(m:MT):Prop where
 h:PW X e (cS X.K m)
structure QA (X:Cx)(es:List Expr)(m:MA)(n:Nat):Prop where
 h:PA X es (eC X.K m)
 l:∀ ρ μ ds μ',m ρ μ=some (ds,μ')->ds.length=n
 s:es.all cF=true
structure QO (X:Cx)(e:Option Expr)(m:MO):Prop where
 h:PO X e (pE X.K m)
structure QS (X:Cx)(st:Stmt)(m:MS):Prop where
 h:PS X st (cU X.K m)
structure QB (X:Cx)(st:List Stmt)(m:MS):Prop where
 h:PSs X st (cU X.K m)
structure QG (X:Cx)(e:Expr)(g:MG):Prop where
 h:PG X e (fB X.K g)
structure QGs (X:Cx)(es:List Expr)(is:List Nat):Prop where
 h:oS X es (sG is)
 n:es.length=is.length
 s:es.all cF=true
structure QI (X:Cx)(ifs:List Expr)(m:MT):Prop where
 h:lT X ifs m
structure QP (X:Cx)(pos:UA)(keys:List (Option Expr))(values:List Expr)(prs:List (ME×ME)):Prop where
 h:G4 X pos keys values (Jx X.K prs)
 a:keys.all (·.isSome)=true
 l:keys.length=values.length
section
variable {X:Cx}{e a b c:Expr}{m ma mb mc:ME}{pos:UA}{mt mu:MT}{rest es:List Expr}{ms:MA}{n:Nat}
theorem BC {x:Str}(i:Nat)(h:X.N[i]? = some x:=by rfl)(j:lJ X.env.scope x:=by first|exact ZL rfl|exact YH (ZL rfl)|exact YH (YH rfl))(hd:(x == ("__debug__":Str))=false:=by decide)
  (d:(x == ("__classdict__":Str))=false:=by decide):QE X (.Name x pos) (aA i):=⟨HN i (z7 h j hd d)⟩
theorem BE {i:Int}{j:Nat}:QE X (.Constant (.int i) j pos) (mC (.int i)):=⟨HP⟩
theorem BF {i:Bool}{j:Nat}:QE X (.Constant (.bool i) j pos) (mC (.bl i)):=⟨HQ⟩
theorem BG {i:Str}{j:Nat}:QE X (.Constant (.str i) j pos) (mC (.str i)):=⟨HR⟩
theorem BH {j:Nat}:QE X (.Constant .none j pos) (mC .non):=⟨HS⟩
theorem nJ {d:Yz}{r:R2}{f:D->D->Hm->Option (D×Hm)}(l:OpR X (Vm d) r)(j:dC X.K f r)(h:QE X a ma)(i:QE X b mb):QE X (.BinOp a d b pos) (aC f ma mb):=⟨HU l j h.h i.h⟩
theorem BI (d:QE X a ma)(h:QE X b mb):QE X (.BinOp a .Add b pos) (aC aZ ma mb):=nJ Jd Je d h
theorem JC (d:QE X a ma)(h:QE X b mb):QE X (.BinOp a .Sub b pos) (aC dO ma mb):=nJ Gu IX d h
theorem JD (d:QE X a ma)(h:QE X b mb):QE X (.BinOp a .Mult b pos) (aC b8 ma mb):=nJ (op_mulB.or Ht) IZ d h
theorem JE (d:QE X a ma)(h:QE X b mb):QE X (.BinOp a .FloorDiv b pos) (aC cQ ma mb):=nJ IV I0 d h
theorem JF (d:QE X a ma)(h:QE X b mb):QE X (.BinOp a .Mod b pos) (aC bF ma mb):=nJ Gv Ja d h
theorem JG (d:QE X a ma)(h:QE X b mb):QE X (.BinOp a .Pow b pos) (aC dS ma mb):=nJ IW Jb d h
theorem JH (d:QE X a ma):QE X (.UnaryOp .USub a pos) (iF ma):=⟨Jf d.h⟩
theorem BJ (d:QE X a ma):QE X (.UnaryOp .Not a pos) (lP ma):=⟨Ig d.h⟩
theorem JI {k:Nat}(i:Room k X.A)(d:QE X a ma)(h:QE X b mb):QE X (.Compare a [.Eq] [b] pos) (aC (aP false) ma mb):=⟨iU (Br (sD i)) sC d.h h.h (dM _)⟩
theorem JJ {k:Nat}(i:Room k X.A)(d:QE X a ma)(h:QE X b mb):QE X (.Compare a [.NotEq] [b] pos) (aC (aP true) ma mb):=⟨iU (Bs (sD i)) sC d.h h.h (dM _)⟩
theorem JK (d:QE X a ma)(h:QE X b mb):QE X (.Compare a [.Lt] [b] pos) (aC gE ma mb):=⟨iU uZ gU d.h h.h (dM _)⟩
theorem JL (d:QE X a ma)(h:QE X b mb):QE X (.Compare a [.LtE] [b] pos) (aC nF ma mb):=⟨iU u1 gU d.h h.h (dM _)⟩
theorem JM (d:QE X a ma)(h:QE X b mb):QE X (.Compare a [.Gt] [b] pos) (aC jP ma mb):=⟨iU u3 gU d.h h.h (dM _)⟩
theorem JN (d:QE X a ma)(h:QE X b mb):QE X (.Compare a [.GtE] [b] pos) (aC pH ma mb):=⟨iU u4 gU d.h h.h (dM _)⟩
noncomputable def iG (e:Expr):Bool:=!(e.ctorIdx == 7)
theorem JO {d:BoolOp}(h:QE X a m):QE X (.BoolOp d [a] pos) m:=⟨Ib h.h⟩
theorem JP (d:QE X a ma)(h:QE X (.BoolOp .And (b::rest) pos) mb):QE X (.BoolOp .And (a::b::rest) pos) (jM ma mb):=⟨Ic d.h h.h⟩
theorem JQ (d:QE X a ma)(h:QE X (.BoolOp .Or (b::rest) pos) mb):QE X (.BoolOp .Or (a::b::rest) pos) (vX ma mb):=⟨Ie d.h h.h⟩
theorem JR (hc:QT X c mt)(d:QE X a ma)(h:QE X b mb):QE X (.IfExp c a b pos) (iW mt ma mb):=⟨Ih hc.h d.h h.h⟩
theorem JS:QA X [] aD 0:=⟨Ii,Im,rfl⟩
theorem JT (i:QE X e m)(d:QA X es ms n)(h:cF e=true:=by rfl):QA X (e::es) (aB m ms) (n+1):=⟨Ij i.h d.h (eD h),Io d.l,by rw [Tz,h,d.s];rfl⟩
theorem JU {x1:Nat}(h:QA X es ms n):QE X (.Tuple es x1 pos) (gS ms):=⟨Ik h.h⟩
theorem BK (h:QA X es ms n):QE X (.List es pos) (bU ms):=⟨Il h.h⟩
noncomputable def lX (e:Expr):Bool:=!(e.ctorIdx == 26)
theorem BL {b:Expr}(h:lX b=true):vL b:=by
 intro o i
 cases b<;>first|rfl|cases h
theorem BM (d:QE X a ma)(i:QE X b mb)(h:lX b=true:=by rfl):QE X (.Subscript a b pos) (aC dY ma mb):=⟨Iv d.h i.h (BL h)⟩
theorem JV {k:Nat}(j:Room k X.A)(d:QE X a ma)(i:QE X b mb)(h:lX b=true:=by rfl):QE X (.Subscript a b pos) (aC sI ma mb):=⟨Jz (JA j) d.h i.h (BL h)⟩
theorem JW:QO X none dZ:=⟨Iw⟩
theorem JX (h:QE X e m):QO X (some e) (dD m):=⟨Iy h.h⟩
theorem JY {lo d:Option Expr}{i h:MO}{p:UA}(j:QE X a ma)(l:QO X lo i)(o:QO X d h):QE X (.Subscript a (.Slice lo d none p) pos) (dN ma i h):=⟨ID j.h l.h o.h⟩
theorem JZ {k:Nat}{f:Addr}{j:Ul}{ps:List Str}{l:MF}{x:Str}{p:UA}(F:FnOk X.prog X.w X.K X.mg X.base eB k f j ps (eI X.K n l))(u:Room k X.A)(s:X.mg x=some (.ref f))
  (r:T6 X.K (.ref f)=true)(o:Binds X.K j ps [])(d:QA X (e::es) ms n)(q:Gl X x:=by rfl)(h:(x == ("__debug__":Str))=false:=by decide):QE X (.Call (.Name x p) (e::es) [] pos) (aE l ms):=by
 have i:=d.s
 rw [Tz,Sy] at i
 exact ⟨Ip F u q s r o d.h d.l h (eD i.1) (iY i.2)⟩
theorem J0 {f:MF}{r:List V->Hp->VK->Prop}{id:String}{x:Str}{p:UA}(hc:CallR X (.builtin id) r)(j:cY X.K f r)(o:X.mg x=none)(s:Ut x=some (.builtin id))(i:QA X (e::es) ms n)
  (l:Gl X x:=by rfl)(q:x ≠ "__name__":=by decide) (d:(x == ("__debug__":Str))=false:=by decide):QE X (.Call (.Name x p) (e::es) [] pos) (aE f ms):=by
 have h:=i.s
 rw [Tz,Sy] at h
 exact ⟨Iq hc j l o s i.h q d (eD h.1) (iY h.2)⟩
theorem J1 {f:MF}{r:List V->Hp->VK->Prop}{T:String}{x:Str}{p:UA}(hc:CallR X (.type T) r)(j:cY X.K f r)(o:X.mg x=none)(s:Ut x=some (.type T))(i:QA X (e::es) ms n)
  (l:Gl X x:=by rfl)(q:x ≠ "__name__":=by decide) (d:(x == ("__debug__":Str))=false:=by decide):QE X (.Call (.Name x p) (e::es) [] pos) (aE f ms):=by
 have h:=i.s
 rw [Tz,Sy] at h
 exact ⟨Ir hc j l o s i.h q d (eD h.1) (iY h.2)⟩
theorem J2 {x:Str}{n:String}(h:X.mg x=none)(j:Ut x=some (.type n))(d:Gl X x:=by rfl)(i:x ≠ "__name__":=by decide) (hd:(x == ("__debug__":Str))=false:=by decide):QE X (.Name x pos) (mC (.ty n)):=⟨Jg d h j i hd⟩
theorem J3 {k:Nat}(i:Room k X.A)(d:QE X a ma)(h:QE X b mb):QT X (.Compare a [.Eq] [b] pos) (aM (aC (aP false) ma mb)):=⟨iV (Br (sD i)) sC d.h h.h (dM _)⟩
theorem J4 {k:Nat}(i:Room k X.A)(d:QE X a ma)(h:QE X b mb):QT X (.Compare a [.NotEq] [b] pos) (aM (aC (aP true) ma mb)):=⟨iV (Bs (sD i)) sC d.h h.h (dM _)⟩
theorem J5 (d:QE X a ma)(h:QE X b mb):QT X (.Compare a [.Lt] [b] pos) (aM (aC gE ma mb)):=⟨iV uZ gU d.h h.h (dM _)⟩
theorem J6 (d:QE X a ma)(h:QE X b mb):QT X (.Compare a [.LtE] [b] pos) (aM (aC nF ma mb)):=⟨iV u1 gU d.h h.h (dM _)⟩
theorem J7 (d:QE X a ma)(h:QE X b mb):QT X (.Compare a [.Gt] [b] pos) (aM (aC jP ma mb)):=⟨iV u3 gU d.h h.h (dM _)⟩
theorem J8 (d:QE X a ma)(h:QE X b mb):QT X (.Compare a [.GtE] [b] pos) (aM (aC pH ma mb)):=⟨iV u4 gU d.h h.h (dM _)⟩
noncomputable def nK:Expr->Bool
 | .UnaryOp .Not ..=>false
 | .BoolOp ..=>false
 | .IfExp ..=>false
 | .Compare ..=>false
 | _=>true
theorem BN {e:Expr}{env:Wx}(h:nK e=true):∀ d,X3 e env d=(do let v <- d;a0l e.pos;holding [v] (truthy v)):=by
 intro d
 cases e<;>first|rfl|cases h|skip
 rename_i i x p
 cases i<;>first|rfl|cases h
theorem BO (h:QE X e m)(d:nK e=true:=by rfl):QT X e (aM m):=⟨HV h.h (BN d)⟩
theorem J9 (d:QT X a mt):QT X (.UnaryOp .Not a pos) (gC mt):=⟨Ia d.h⟩
theorem Ka (d:QT X a mt):QW X (.BoolOp .And [a] pos) mt:=⟨HW d.h⟩
theorem Kb (d:QT X a mt):QW X (.BoolOp .Or [a] pos) mt:=⟨HX d.h⟩
theorem Kc (d:QT X a mt)(h:QW X (.BoolOp .And (b::rest) pos) mu):QW X (.BoolOp .And (a::b::rest) pos) (nB mt mu):=⟨HY d.h h.h⟩
theorem Kd (d:QT X a mt)(h:QW X (.BoolOp .Or (b::rest) pos) mu):QW X (.BoolOp .Or (a::b::rest) pos) (dR mt mu):=⟨HZ d.h h.h⟩
theorem Ke (h:QW X e mt):QT X e mt:=⟨h.h.pt⟩
theorem Kf:QI X [] cZ:=⟨Jo⟩
theorem Kg (h:QT X c mt):QI X [c] mt:=⟨Jp h.h⟩
end
section
variable {X:Cx}{e a b c:Expr}{m:ME}{pos:UA}{mt:MT}{st:Stmt}{rest body orelse:List Stmt}{ms mr mu:MS}{n:Nat}{is:List Nat}{es:List Expr}{g:MG}
theorem Kh:QB X [] bP:=⟨IE⟩
theorem Ki (d:QS X st ms)(h:QB X rest mr):QB X (st::rest) (aN ms mr):=⟨IF d.h h.h⟩
theorem BP (d:QS X st ms):QB X [st] ms:=⟨IG d.h⟩
theorem Kj:QS X (.Pass pos) bP:=⟨IH⟩
theorem BQ (d:QE X e m):QS X (.Return (some e) pos) (aY m):=⟨II d.h⟩
noncomputable def d4 (e:Expr):Bool:=!(e.ctorIdx == 8||e.ctorIdx == 9||e.ctorIdx == 10)
theorem lY {e:Expr}{t:Option Expr}{n:Nat}{env:Wx}(h:d4 e=true):Wg e t n env=pure false:=by
 cases e<;>first|rfl|cases h
theorem Kk (d:QE X e m)(h:d4 e=true:=by rfl):QS X (.Expr e pos) (bC m):=⟨IJ d.h (lY h)⟩
theorem BR (hc:QT X c mt)(d:QB X body ms)(h:QB X orelse mu):QS X (.If c body orelse pos) (a9 mt ms mu):=⟨IK hc.h d.h h.h⟩
theorem wJ (i:Nat){x:Str}{d:UA}(j:X.N.Nodup)(l:QE X e m)(h:d4 e=true:=by rfl)(p:X.N[i]? = some x:=by rfl)(q:Loc X.env.scope x:=by first|exact ZL rfl|exact YH rfl)
  (o:X.fn x=true\/X.env.scope.names.lookup x=some .local:=by first|exact .inl rfl|exact .inr rfl):QS X (.Assign [.Name x d] e pos) (aW i m):=⟨Bg j p q l.h (lY h) o⟩
theorem Kl (i:Nat){x:Str}(d:X.N.Nodup)(j:X.N[i]? = some x:=by rfl)(l:Loc X.env.scope x:=by first|exact ZL rfl|exact YH rfl)
  (h:X.fn x=true\/X.env.scope.names.lookup x=some .local:=by first|exact .inl rfl|exact .inr rfl):QG X (.Name x pos) (gW i):=⟨Bt d j l h⟩
theorem BS:QGs X [] []:=⟨F6,rfl,rfl⟩
theorem BU (i:Nat){x:Str}(h:X.N.Nodup)(d:QGs X es is)(l:X.N[i]? = some x:=by rfl)(o:Loc X.env.scope x:=by first|exact ZL rfl|exact YH rfl)
  (j:X.fn x=true\/X.env.scope.names.lookup x=some .local:=by first|exact .inl rfl|exact .inr rfl):QGs X (.Name x pos::es) (i::is):=
 ⟨F7 (Ab h l o j) d.h (by rw [sN (e:=.Name x pos) rfl];rfl),by rw [SY,SY,d.n],by rw [Tz,d.s];rfl⟩
theorem wK {k:Nat}(h:QGs X es is)(hc:X.calm=true:=by rfl):QG X (.Tuple es k pos) (jR is):=⟨Js hc h.h ((BA h.s).trans h.n) (BB h.s)⟩
noncomputable def wL (e:Expr):Bool:=!(e.ctorIdx == 25)
theorem Km {es:List Expr}{k:Nat}{pt:UA}{e:Expr}{env:Wx}(h:wL e=true):YO [.Tuple es k pt] e env=pure none:=by
 cases e<;>first|rfl|cases h
theorem Kn {k:Nat}{pt:UA}(d:QE X e m)(i:QG X (.Tuple es k pt) g)(h:wL e=true:=by rfl):QS X (.Assign [.Tuple es k pt] e pos) (wH m g):=
 ⟨Jt d.h i.h (by cases e<;>rfl) (Km h) (by rw [sN (e:=.Tuple es k pt) rfl];rfl)⟩
end
section
variable {P:Tc}{w:Ts}{K:Sw}{mg:Str->Option Value}{base:Ua}
theorem Ko {x a:Str}{st:Stmt}{f:Addr}{i:Ul}{N ps:List Str}{k:Nat}{body:List Stmt}{m:MS}(F:Fun K x a st f i)(S:FnScope N ps (bL st))(h:ps.length<=N.length)(e:cJ st=body)
  (d:∀ (c:Value)(A:Tt)(outer:List Wx)(s:SF)(H:Hp)(E:XK),Room k (A.deeper (VN a (bL st) s.heap.objs.size f c))->
   QB (d8 eB P w K mg base N a (bL st) f c A outer s H E).nox body m):FnOk P w K mg base eB (k+1) f i ps (eI K ps.length (pG N.length m)):=
 IL F S h fun c A outer s H E j=>by
  rw [e]
  exact (d c A outer s H E j).h
end
end L3
namespace L3
open PySem L2
noncomputable abbrev iZ:=Hm->Nat->Option (Option D)
noncomputable abbrev MI:=aJ->Hm->Option (iZ×Nat×Hm)
noncomputable def iH (K:Sw)(m:MI):TI:=fun σ H R=>∃ π i h d n a,Rp K π H h/\En K π h.length H σ i/\m i h=some (d,n,a) /\
 ∀ c e J,Ext π h.length H c a.length e->Rp K c e a->Wk K J d c a.length e->R J e
structure QJ (X:Cx)(e:Expr)(m:MI):Prop where
 h:∀ tg,PI X tg e (iH X.K m)
section
variable {X:Cx}{pos:UA}{e:Expr}{m:ME}
noncomputable def BV:MI:=fun _ _=>none
theorem Kp:QJ X e BV:=⟨fun tg a1r s σ H R I hw=>by
 obtain ⟨j,l,i,c,n,d,h,E,a,k⟩:=hw
 cases a⟩
noncomputable def nM (a:Hm):D->Option (List D)
 | d=>bS a d
noncomputable def pJ (x:D):iZ:=fun a i=>(nM a x).map fun xs=>xs[i]?
noncomputable def eJ (m:ME):MI:=fun c a=>(m c a).bind fun p=>(nM p.2 p.1).map fun xs=>(pJ p.1,xs.length+1,p.2)
theorem Kq (h:QE X e m):QJ X e (eJ m):=⟨fun tg a1r s σ H R I hw=>by
 obtain ⟨N,O,L,J,n,M,y,E,c,k⟩:=hw
 obtain ⟨⟨x,o⟩,z,c⟩:=Su.mp c
 obtain ⟨K,A,c⟩:=SA.mp c
 cases c
 have j:∀ (u:bS o x=some K)(w:pJ x=jQ x),Ti (Tq X.prog X.w) X.A (eval e X.env) (fun v G=>Ti (Tq X.prog X.w) X.A (a0a v) (Gb X a1r σ tg R) X.xe G) X.xe s:=fun u w=>by
  refine Ji h.h a1r s σ H R I ⟨N,O,L,x,_,y,E,z,fun d Q p r i B=>?_⟩
  obtain ⟨a,e,q⟩:=Jj i B u
  subst e
  refine ⟨a,rfl,?_⟩
  dsimp only at k
  rw [w] at k
  rcases q with ⟨l,W⟩|⟨l,W⟩
  ·exact .inl ⟨l,k d p _ r i W⟩
  ·exact .inr ⟨l,k d p _ r i W⟩
 cases x with
 | _=>exact j A rfl⟩
noncomputable def cN (a:MA):MI:=fun d c=>(a d c).bind fun p=>match p.1 with
 | [.int j]=>if -(2 ^ 62)<=j/\j<2 ^ 62 then some (iE 0 j.toNat,j.toNat+1,p.2) else none
 | _=>none
theorem BW {q:Cx->Prop}{tg:Expr}(tr:∀ (r:Addr)(lo:Int)(n:Nat),Turn q X.prog X.w X.K tg (kE lo n) [r] r (fun i h=>VS h r (lo+(i:Nat) * 1) ((n:Int) - (i:Nat)) 1)){a:Expr}{A:MA}{n:Nat}{p:UA}(d:Gl X "range") (l:X.mg "range" = none) (w:QA X [a] A n):oU q X tg (.Call (.Name "range" p) [a] [] pos) (iH X.K (cN A)):=fun a1r s σ H R I hw=>by
 have z:=w.s
 rw [Tz,Sy] at z
 obtain ⟨T,U,O,M,Y,Q,J,E,c,k⟩:=hw
 obtain ⟨⟨x,u⟩,L,c⟩:=Su.mp c
 refine Gh tr d l w.h (eD z.1) a1r s σ H R I ⟨T,U,O,x,u,J,E,L,fun v Z B K G o=>?_⟩
 dsimp only at c
 split at c
 ·rename_i j
  split at c
  ·rename_i y
   cases c
   cases o with
   | cons o N=>
    cases o
    cases N
    exact ⟨j,rfl,y.1,y.2,k v B _ K G Jl⟩
  ·cases c
 ·cases c
theorem Kr {a:Expr}{h:MA}{n:Nat}{p:UA}(c:Gl X "range") (d:X.mg "range" = none) (i:QA X [a] h n):QJ X (.Call (.Name "range" p) [a] [] pos) (cN h):=⟨fun tg=>BW oV c d i⟩
noncomputable def fS (c:MI)(g:MG)(b:MS):MS:=fun a d=>(c a d).bind fun p=>gX p.1 g b p.2.1 0 a p.2.2
end
noncomputable def fT (h:BD)(i:MI)(c:MT)(e:ME):ME:=fun d j=>(i d j).bind fun p=>
 (gF p.1 h c e d p.2.2.length p.2.1 0 (p.2.2++[.lst []])).map fun a=>(.loc p.2.2.length,a)
noncomputable abbrev cR (a:MI)(c:MT)(e:ME):ME:=fT lS a c e
noncomputable def gB (n:Nat)(a:BD):MG:=fun d e c=>(a d c).map fun x=>e.take n++x
theorem Ks {X:Cx}{n:Nat}{x:Str}{l:UA}(m:X.N.length=n+1)(h:PG X (.Name x l) (fB X.K (gW n))):PG X (.Name x l) (fB X.K (gB n lS)):=by
 intro c s z H v u Q I r hw
 obtain ⟨w,a,q,d,y,R,E,hd,o,k⟩:=hw
 cases o
 refine h c s z H v u Q I r ⟨w,a,q,d,_,R,E,hd,rfl,fun i j=>k i ?_⟩
 have p:a.length=n+1:=by rw [<- E.len,I.len,m]
 have e:a.set n (some d)=a.take n++[some d]:=by
  rw [List.set_eq_take_append_cons_drop,if_pos (by omega),Ym (by omega)]
 rw [e] at j
 exact j
theorem BX:∀ (xs:List D)(a b:aJ),b.length=xs.length->lU (a++b) (VF a.length xs.length) xs=a++xs.map some
 | [],a,[],_=>by simp [lU]
 | x::xs,a,y::b,h=>by
  have c:=BX xs (a++[some x]) b (by simpa using h)
  rw [SY,ZN]
  show lU ((a++y::b).set a.length (some x)) (VF (a.length+1) xs.length) xs=_
  rw [YB _ _ (SM _),Nat.sub_self,SD]
  rw [SU,Uu] at c
  rw [T9,List.singleton_append] at c
  rw [c]
  simp
theorem Kt {X:Cx}{n k:Nat}{tg:Expr}(x:X.N.length=n+k)(h:PG X tg (fB X.K (jR (VF n k)))):PG X tg (fB X.K (gB n (sF k))):=by
 intro c s L H v u Q I r hw
 obtain ⟨J,a,G,d,K,R,E,hd,z,B⟩:=hw
 obtain ⟨y,p,q⟩:=SA.mp z
 obtain ⟨o,w,i⟩:=Su.mp p
 split at i
 ·rename_i m
  cases i
  subst q
  have A:a.length=n+k:=by rw [<- E.len,I.len,x]
  refine h c s L H v u Q I r ⟨J,a,G,d,lU a (VF n k) o,R,E,hd,(by simp only [jR,w,S1,List.length_range',if_pos m]),fun j l=>B j ?_⟩
  have e:=BX o (a.take n) (a.drop n) (by rw [T8];omega)
  rw [Up,Tw,Z2 (by omega),m] at e
  rw [e] at l
  exact l
 ·cases i
section
variable {X:Cx}{scope:UN}{cl:List (Str×Addr)}{xs:List Str}{tg elt iter:Expr}{ifs:List Expr}{pos ppos:UA}{mi:MI}{me:ME}{mc:MT}{bd:BD}
theorem Ku {K:Sw}{π:Nat->Addr}{n:Nat}{H:Hp}{σ:St}{c o:aJ}{k:Nat}(E:En K π n H σ (c++o))(e:o.length=k):En K π n H σ (c++Sz k none):=by
 refine ⟨by rw [E.len,SU,SU,Ue,e],fun i d q=>?_⟩
 by_cases a:i<c.length
 ·rw [Tp a] at q
  exact E.get i d (by rw [Tp a];exact q)
 ·rw [TU (V4.mp a),Vd] at q
  split at q<;>cases q
theorem BY {q:Cx->Prop}(O:CompOk X scope cl xs)(hq:∀ a1r σ H s l,Inv X a1r σ H s->q (cA X scope cl s.heap.objs.size (bJ xs X.N++xs) s H l))(hi:oU q X tg iter (iH X.K mi))(hb':∀ d μ z,bd d μ=some z->z.length=xs.length)(hg:∀ C s₀ H₀ l,PG (cA X scope cl C (bJ xs X.N++xs) s₀ H₀ l) tg (fB X.K (gB X.N.length bd)))
  (hc:∀ C s₀ H₀ l,lT (cA X scope cl C (bJ xs X.N++xs) s₀ H₀ l) ifs mc)(he:∀ C s₀ H₀ l,PE (cA X scope cl C (bJ xs X.N++xs) s₀ H₀ l) elt (tM X.K me))
  (hs:∀ x,Vs iter X.env x=pure x){use:Option (Value->a0Q Unit)}{QQ:Value->SF->Prop}{a1r:List (Addr×Obj)}{s:SF}{σ:St}{H:Hp}{π:Nat->Addr}{Y:aJ}{μ Z:Hm}{d:D}
  (I:Inv X a1r σ H s)(R:Rp X.K π H μ)(E:En X.K π μ.length H σ Y)(hm:fT bd mi mc me Y μ=some (d,Z))
  (aV:∀ (p C:Addr)(w:Nat->Addr)(H':Hp)(s':SF),Ext π μ.length H w Z.length H'->Rp X.K w H' Z->IsD X.K w Z.length H' (.ref p) d->(∃ m,s'.heap.Ns C m)->X.s₀.heap.objs.size<=C->C≠X.env.locals->H' C=none->
   (∀ y c,X.env.cells.lookup y=some c->c≠C)->(∀ q∈X.pn++a1r,q.1≠C)->(∀ h',(∀ b o,b≠C->s'.heap.get? b=some o->h'.get? b=some o)->Inv X a1r σ H' { s' with heap:=h' })->
   compPost (Tq X.prog X.w) X.A X.xe use QQ (.ref p) C (.ok .next) s') :
  Ti (Tq X.prog X.w) X.A (comprehension (.ListComp elt [⟨tg,iter,ifs,0⟩] scope pos) scope X.env ppos (newList []) false (eval iter X.env) use) QQ X.xe s:=by
 obtain ⟨⟨src,nt,a⟩,h1,hm⟩:=Su.mp hm
 obtain ⟨μ2,h3,hm⟩:=SA.mp hm
 cases hm
 have hit:Ti (Tq X.prog X.w) X.A (eval iter X.env) (fun v s1=>Ti (Tq X.prog X.w) X.A (a0a v) (rL q X a1r σ tg fun J H1=>∃ π1,Ext π μ.length H π1 a.length H1/\Rp X.K π1 H1 a/\Wk X.K J src π1 a.length H1) X.xe s1) X.xe s:=
  hi a1r s σ H _ I ⟨π,Y,μ,src,nt,a,R,E,h1,fun π1 H1 J e1 R1 W=>⟨π1,e1,R1,W⟩⟩
 refine wpAny_comprehension_free rfl hs O.clos O.kind O.names (TK hit (fun v s1 hv=>TK hv (fun itv G h4=>?_) fun _ _ z=>z) fun _ _ z=>z)
 obtain ⟨it,l,tn,J,H2,rfl,I2,T,st2,f2,π1,e1,R1,W⟩:=h4
 refine WB (wpAny_newFunctionEnv O.nocell (by intro y hy;simp at hy) (fun h₁ L M=>?_) O.kind)
 dsimp only at L M ⊢
 have hfr:H2 G.heap.objs.size=none:=I2.hok.fresh (SM _)
 have I3:Inv X a1r σ (bA H2 G.heap.objs.size (.lst [])) { G with heap:=G.heap.push { cls:=.type "list",dict:=none,data:=.seq ([]:List Value).toArray } }:=
  I2.laid (t':=G.toks) (fun b u e=>SS _ e) (SM _) ⟨Uo _,[],0,.nil,Tf _ rfl⟩
 obtain ⟨e2,R2,q2⟩:=R1.alloc (c:=.lst []) (o:=.lst []) hfr .nil
 generalize hs3:({ G with heap:=G.heap.push { cls:=.type "list",dict:=none,data:=.seq ([]:List Value).toArray } }:SF)=s3 at I3
 have K:G.heap.push { cls:=.type "list",dict:=none,data:=.seq ([]:List Value).toArray } = s3.heap:=by rw [<- hs3]
 have e12:=e1.trans e2
 generalize hH3:bA H2 G.heap.objs.size (.lst [])=H3 at I3 e2 R2 e12
 generalize hπ3:gR π1 a.length G.heap.objs.size=π3 at e2 R2 q2 e12
 have hob:∀ b∈l,∃ o,s3.heap.get? b=some o:=fun b B=>by
  obtain ⟨o,ho,_⟩:=T.obj 0 _ st2 b B
  exact ⟨o,by rw [<- K];exact SS _ ho⟩
 have f3:∀ b∈l,gP X a1r H3 b:=fun b B=>by
  obtain ⟨o,ho,_⟩:=T.obj 0 _ st2 b B
  refine ⟨?_,(f2 b B).2⟩
  rw [<- hH3,bX (S9 (SO ho))]
  exact (f2 b B).1
 have st3:tn 0 s3.heap:=T.keep 0 _ _ st2 fun b B o e=>by rw [<- K];exact SS _ e
 have hC:(G.heap.push { cls:=.type "list",dict:=none,data:=.seq ([]:List Value).toArray }).objs.size=s3.heap.objs.size:=by rw [K]
 rw [K] at L M
 have hk1:∀ b o,s3.heap.get? b=some o->h₁.get? b=some o:=fun b o e=>M.extBut b o (S9 (SO e)) (SS _ e)
 have E3:En X.K π3 (a++[C.lst []]).length H3 (σ++Sz xs.length none) (Y++Sz xs.length none):=by
  have E':=E.mono e12
  refine ⟨by rw [SU,SU,E'.len,Ue,Ue],fun i d' q=>?_⟩
  by_cases hi:i<Y.length
  ·rw [Tp hi] at q
   obtain ⟨v,h5,h6⟩:=E'.get i d' q
   exact ⟨v,by rw [Tp (by rw [E'.len];exact hi)];exact h5,h6⟩
  ·rw [TU (V4.mp hi),Vd] at q
   split at q<;>cases q
 have hlen:Y.length=X.N.length:=by rw [<- E.len];exact I.len
 have stat:∀ {H':Hp}{pl:List (Addr×Obj)},(∀ b∈l,H' b=none)->pl=[]->∀ b∈l,gP (cA X scope cl s3.heap.objs.size (bJ xs X.N++xs) s3 H3 l) pl H' b:=fun {H' pl} hn hpl b B=>by
  obtain ⟨f0,f1,f2',f3',f4,f5⟩:=f3 b B
  obtain ⟨o,ho⟩:=hob b B
  refine ⟨hn b B,S9 (SO ho),fun z=>?_,.inl B,fun y c h=>f4 y c (O.sub y c h),fun p hp=>?_⟩
  ·rcases TH.mp (I3.stkSub b z) with z|z
   ·exact f1 z
   ·exact f2' z
  ·subst hpl
   exact absurd (show p∈([]:List (Addr×Obj)) from hp) (by simp)
 have loop:∀ s4:SF,(∃ tk,s4 = { s3 with heap:=h₁,toks:=tk })->
   XO (Tq X.prog X.w) X.A (.compLoop (.ListComp elt [⟨tg,iter,ifs,0⟩] scope pos) 0 (.ref it) (.ref G.heap.objs.size) (V0 scope cl s3.heap.objs.size X.env))
    (compPost (Tq X.prog X.w) X.A X.xe use QQ (.ref G.heap.objs.size) s3.heap.objs.size) s4:=by
  rintro s4 ⟨tk,rfl⟩
  have I4:=O.inv (tk:=tk) I3 f3 hob L hk1
  refine Jn (fun n s'=>∃ i U H' w N o,Inv (cA X scope cl s3.heap.objs.size (bJ xs X.N++xs) s3 H3 l) [] U H' s'/\tn i s'.heap/\(∀ b∈l,H' b=none)/\Ext π3 (a++[C.lst []]).length H3 w N.length H'/\Rp X.K w H' N /\
   En X.K w N.length H' U (Y++o)/\o.length=xs.length/\gF src bd mc me Y a.length n i N=some Z) ?_ nt
   ⟨0,_,H3,π3,a++[C.lst []],Sz xs.length none,I4,T.keep 0 _ _ st3 fun b B o e=>hk1 b o e,fun b B=>(f3 b B).1,.refl,R2,E3,Ue,h3⟩
  rintro n s5 ⟨i,σ5,H5,Q,μ5,o5,I5,st5,fr5,e5,R5,E5,l5,g5⟩
  cases n with
  | zero=>cases g5
  | succ n=>
   obtain ⟨o,h6,h7⟩:=Su.mp g5
   cases o with
   | none=>
    cases h7
    have stop:=W.stop Q _ H5 i (e2.trans e5) R5 h6
    refine TK (T.done (cA X scope cl s3.heap.objs.size (bJ xs X.N++xs) s3 H3 l) rfl rfl rfl (hq a1r σ H3 s3 l I3) i [] s5 σ5 H5 (fun _ _=>False) I5 (stat fr5 rfl) st5 stop) (fun r s6 ⟨hr,I6⟩=>?_) fun _ _ z=>z
    subst hr
    obtain ⟨m6,hn6,_⟩:=id I6.loc
    have hp:Q a.length=G.heap.objs.size:=by rw [e5.pi a.length (by simp),q2]
    refine aV G.heap.objs.size s3.heap.objs.size Q H5 s6 (e12.trans e5) R5 ?_ ⟨m6,hn6⟩ I3.sz (Ux (S9 I3.lt)) I6.free (fun y c hc z=>?_) (fun q hq z=>?_) fun h' hh=>CompOk.back I3 f3 I6 hh
    ·rw [<- hp]
     exact .loc (S6 (by simp) e5.le)
    ·obtain ⟨v,o,ho,_⟩:=I3.cell y c hc
     exact S9 (SO ho) z
    ·exact S9 (SO (I3.pin q hq).1) z
   | some d=>
    obtain ⟨z,hz,h7⟩:=Su.mp h7
    obtain ⟨⟨b,μ6⟩,h8,h9⟩:=Su.mp h7
    obtain ⟨g1,g2⟩:=W.go Q μ5 H5 i d (e2.trans e5) R5 h6
    refine TK (T.item (cA X scope cl s3.heap.objs.size (bJ xs X.N++xs) s3 H3 l) rfl rfl rfl (hq a1r σ H3 s3 l I3) i [] s5 σ5 H5 (fun _ _=>False) I5 (stat fr5 rfl) st5 g1) (fun r s6 ⟨u,hr,h10⟩=>?_) fun _ _ z=>z
    subst hr
    refine TK h10 (fun _ s7 ⟨v,H7,I7,r7,y7,st7,fr7⟩=>?_) fun _ _ z=>z
    obtain ⟨e7,R7,hd⟩:=g2 v H7 y7
    have I7':=I7.pinned (stat fr7 rfl) (T.obj _ _ st7)
    have e5:=e5.trans e7
    refine TK (hg _ _ _ _ _ s7 σ5 H7 v u (fun U H'=>En X.K Q μ5.length H7 U (Y++z)/\H'=H7) I7' r7
     ⟨Q,Y++Sz xs.length none,μ5,d,Y++z,R7,Ku (E5.mono e7) l5,hd,(by
      show (bd d μ5).map (fun x=>(Y++Sz xs.length none).take X.N.length++x)=_
      rw [hz,<- hlen,Z3]
      rfl),fun U E'=>⟨E',rfl⟩⟩) (fun _ s8 ⟨σ8,H8,I8,E8,z2⟩=>?_) fun _ _ z=>z
    subst z2
    have again:∀ {s9:SF}{H9:Hp}{j:Nat->Addr}{μ9:Hm},Inv (cA X scope cl s3.heap.objs.size (bJ xs X.N++xs) s3 H3 l) ([]++oW l s7.heap) σ8 H9 s9->Ext π3 (a++[C.lst []]).length H3 j μ9.length H9->Rp X.K j H9 μ9->
      En X.K j μ9.length H9 σ8 (Y++z)->gF src bd mc me Y a.length n (i+1) μ9=some Z->
      ∃ m,m<n+1/\∃ i U H' w N o,Inv (cA X scope cl s3.heap.objs.size (bJ xs X.N++xs) s3 H3 l) [] U H' s9/\tn i s9.heap/\(∀ b∈l,H' b=none)/\Ext π3 (a++[C.lst []]).length H3 w N.length H'/\Rp X.K w H' N /\
       En X.K w N.length H' U (Y++o)/\o.length=xs.length/\gF src bd mc me Y a.length m i N=some Z:=fun {s9 H9 j μ9} I9 e9 R9 E9 g9=>by
     refine ⟨n,UY _,i+1,_,H9,j,μ9,z,I9.unpinned,T.keep _ _ _ st7 fun b B o e=>(I9.pin (b,o) (Ud _ (Ud _ (rN B e)))).1,fun b B=>?_,e9,R9,E9,hb' _ _ _ hz,g9⟩
     obtain ⟨o,e,_⟩:=T.obj _ _ st7 b B
     exact (I9.pin (b,o) (Ud _ (Ud _ (rN B e)))).2.1
    refine TK (hc _ _ _ _ _ s8 _ H8 (fun b' H'=>∃ j,b'=b/\Ext Q μ5.length H8 j μ6.length H'/\Rp X.K j H' μ6) I8 ⟨Q,_,μ5,b,μ6,R7,E8,h8,fun j H9 e9 R9=>⟨j,rfl,e9,R9⟩⟩) (fun ok s9 ⟨H9,I9,j,B,e9,R9⟩=>?_) fun _ _ z=>z
    subst B
    cases ok with
    | false=>
     rw [if_neg VE]
     exact again I9 (e5.trans e9) R9 (E8.mono e9) h9
    | true=>
     rw [if_pos rfl]
     obtain ⟨⟨dy,μ7⟩,h11,h12⟩:=Su.mp h9
     obtain ⟨μ8,h13,h14⟩:=Su.mp h12
     refine TK (he _ _ _ _ _ s9 _ H9 (fun y H'=>∃ A,Ext j μ6.length H9 A μ7.length H'/\Rp X.K A H' μ7/\IsD X.K A μ7.length H' y dy) I9 ⟨j,_,μ6,dy,μ7,R9,E8.mono e9,h11,fun A y H10 e10 R10 i10=>⟨A,e10,R10,i10⟩⟩)
      (fun u' s10 ⟨y,H10,I10,ry,A,e10,R10,i10⟩=>?_) fun _ _ z=>z
     unfold nH at h13
     split at h13
     ·rename_i zs hz
      split at h13
      ·rename_i hl
       cases h13
       obtain ⟨vs,h15,h16⟩:=R10.lst _ zs hz
       have eall:=(e5.trans e9).trans e10
       have hp:A a.length=G.heap.objs.size:=by rw [eall.pi a.length (by simp),q2]
       obtain ⟨e11,R11⟩:=R10.put (a:=a.length) (c:=.lst (zs++[dy])) (o:=.lst (vs++[y])) (SH.mp hz).1 h15 (.inl ⟨vs,rfl⟩) (h16.append (.cons i10 .nil))
       rw [hp] at h15 e11 R11
       refine TK (AO (X:=cA X scope cl s3.heap.objs.size (bJ xs X.N++xs) s3 H3 l) _ s10 _ H10 (.ref G.heap.objs.size) [y] (.ref G.heap.objs.size) [u'] (fun _ H'=>H'=bA H10 G.heap.objs.size (.lst (vs++[y]))) I10 rfl (.cons ry .nil)
        ⟨G.heap.objs.size,vs,y,rfl,rfl,h15,by rw [h16.length];exact hl,rfl⟩) (fun _ s11 ⟨_,H11,I11,_,z⟩=>?_) fun _ _ z=>z
       subst z
       exact again I11 (eall.trans e11) R11 ((E8.mono (e9.trans e10)).mono e11) h14
      ·cases h13
     ·cases h13
 have l4:=loop { s3 with heap:=h₁,toks:=G.toks+([]:List (Str×Value)).length } ⟨_,rfl⟩
 have hst4:tn 0 h₁:=T.keep 0 _ _ st3 fun b B o e=>hk1 b o e
 subst hs3
 exact codeAny_compStart_list l4 (T.self _ 0 _ _ _ hst4 l4)
theorem BZ {q:Cx->Prop}(O:CompOk X scope cl xs)(N:∀ a1r σ H s a,Inv X a1r σ H s->q (cA X scope cl s.heap.objs.size (bJ xs X.N++xs) s H a))(J:oU q X tg iter (iH X.K mi))(c:∀ d u z,bd d u=some z->z.length=xs.length)(G:∀ C s₀ H₀ a,PG (cA X scope cl C (bJ xs X.N++xs) s₀ H₀ a) tg (fB X.K (gB X.N.length bd)))
  (hc:∀ C s₀ H₀ a,lT (cA X scope cl C (bJ xs X.N++xs) s₀ H₀ a) ifs mc)(B:∀ C s₀ H₀ a,PE (cA X scope cl C (bJ xs X.N++xs) s₀ H₀ a) elt (tM X.K me))
  (T:∀ x,Vs iter X.env x=pure x):PE X (.ListComp elt [⟨tg,iter,ifs,0⟩] scope pos) (tM X.K (fT bd mi mc me)):=by
 intro a1r s σ H Q I hw
 obtain ⟨π,ρ,u,d,μ',R,E,K,k⟩:=hw
 rw [eval_ListComp]
 refine BY (use:=none) O N J c G hc B T I R E K fun p C j l s' w v Y i U M h n r back=>?_
 obtain ⟨m,L⟩:=i
 exact ⟨m,L,fun y Z=>⟨.ref p,l,back y (fun b o A e=>(Z.2 b A).trans e),rfl,k j _ l w v Y⟩⟩
theorem Kv (O:CompOk X scope cl xs)(a:X.calm=true)(j:PI X tg iter (iH X.K mi))(e:∀ d m z,bd d m=some z->z.length=xs.length)(i:∀ C s₀ H₀ c,PG (cA X scope cl C (bJ xs X.N++xs) s₀ H₀ c) tg (fB X.K (gB X.N.length bd)))
  (hc:∀ C s₀ H₀ c,lT (cA X scope cl C (bJ xs X.N++xs) s₀ H₀ c) ifs mc)(h:∀ C s₀ H₀ c,PE (cA X scope cl C (bJ xs X.N++xs) s₀ H₀ c) elt (tM X.K me))
  (l:∀ x,Vs iter X.env x=pure x):PE X (.ListComp elt [⟨tg,iter,ifs,0⟩] scope pos) (tM X.K (fT bd mi mc me)):=BZ O (fun _ _ _ _ _ _=>a) j e i hc h l
theorem Kw {i:Nat}{y:Str}{py h:UA}(O:CompOk X scope cl xs)(hN:X.N.Nodup)(j:X.calm=true)(hi:PI X tg iter (iH X.K mi))(G:∀ d Z z,bd d Z=some z->z.length=xs.length)(hg:∀ C s₀ H₀ q,PG (cA X scope cl C (bJ xs X.N++xs) s₀ H₀ q) tg (fB X.K (gB X.N.length bd)))
  (hc:∀ C s₀ H₀ q,lT (cA X scope cl C (bJ xs X.N++xs) s₀ H₀ q) ifs mc)(he:∀ C s₀ H₀ q,PE (cA X scope cl C (bJ xs X.N++xs) s₀ H₀ q) elt (tM X.K me))
  (hs:∀ x,Vs iter X.env x=pure x)(hy:X.N[i]? = some y)(Y:X.env.scope.names.lookup y=some .local)
  (L:Wg (.ListComp elt [⟨tg,iter,ifs,0⟩] scope pos) (some (.Name y py)) h.line X.env=pure true) :
  PS X (.Assign [.Name y py] (.ListComp elt [⟨tg,iter,ifs,0⟩] scope pos) h) (cU X.K (aW i (fT bd mi mc me))):=by
 intro n s σ H EN I hw
 obtain ⟨π,ρ,Z,fl,ρ',μ',R,E,J,k⟩:=hw
 obtain ⟨⟨d,μ1⟩,h1,J⟩:=SA.mp J
 cases J
 rw [exec_Assign_Name_used _ _ _ _ L]
 refine S0 (YM ?_)
 refine S0 (S0 ?_)
 refine BY (use:=some (XB (.Name y py) X.env)) (QQ:=fun _ v=>Ti (Tq X.prog X.w) X.A (pure ()) (fun _ N=>Ti (Tq X.prog X.w) X.A (pure Flow.next) (SP X n EN) X.xe N) X.xe v) O (fun _ _ _ _ _ _=>j) hi G hg hc he hs I R E h1 fun p C T w v U R1 i1 K M r l c u back=>?_
 obtain ⟨m,hn⟩:=K
 have I1:Inv X n σ w v:=back v.heap fun b o _ e=>e
 show Ti (Tq X.prog X.w) X.A (XB (.Name y py) X.env (.ref p)) _ X.xe v
 refine a0i ?_
 refine rK I1 hN hy (.inl Y) (show RelV (.ref p) (.ref p) from rfl) (fun s2 I2 ⟨a,sb,B⟩=>?_) (.inr Y)
 have A:C≠a:=by
  rcases B with rfl|B
  ·exact r
  ·exact Ux (c _ _ B)
 refine ⟨m,hn.sameBut sb A,fun h' Q=>TV (TV ?_)⟩
 refine ⟨σ.set i (some (.ref p)),w,I2.turned (t':=s2.toks) (fun b o hb e=>(Q.2 b hb).trans e) l r (.inr M) c u,?_⟩
 exact k T _ w U R1 ((E.mono U).set i1 i)
end
end L3
namespace L3
open PySem L2
noncomputable def bK:ME:=fun _ _=>none
noncomputable def kL:MT:=fun _ _=>none
noncomputable def bW:MS:=fun _ _=>none
section
variable {X:Cx}{e a b c o:Expr}{m m1 m2 ma mb mc:ME}{pos:UA}{mt mu:MT}{rest es:List Expr}{ms:MA}{n:Nat}
theorem bN:QE X e bK:=⟨fun a1r s σ H Q I h=>by
 obtain ⟨p,q,l,d,j,R,E,i,k⟩:=h
 cases i⟩
theorem sO:QT X e kL:=⟨fun a1r s σ H Q I h=>by
 obtain ⟨p,q,l,d,j,R,E,i,k⟩:=h
 cases i⟩
theorem Ky:QW X e kL:=⟨fun l a1r s σ H Q I h=>by
 obtain ⟨q,r,p,d,j,R,E,i,k⟩:=h
 cases i⟩
theorem cB {st:Stmt}:QS X st bW:=⟨fun a1r s σ H D I h=>by
 obtain ⟨q,r,p,l,j,i,R,E,d,k⟩:=h
 cases d⟩
theorem sP {g:MG}(p:∀ d l j,g d l j=none):QG X e g:=⟨fun a1r s σ H v u Q I r h=>by
 obtain ⟨w,l,j,d,q,R,E,hd,i,k⟩:=h
 rw [p] at i
 cases i⟩
theorem wM (u:QE X e m1)(v:QE X e m2)(h:∀ j i r,m j i=some r->m1 j i=some r\/m2 j i=some r):QE X e m:=⟨fun a1r s σ H Q I q=>by
 obtain ⟨p,j,i,d,l,R,E,w,k⟩:=q
 rcases h j i _ w with z|z
 ·exact u.h a1r s σ H Q I ⟨p,j,i,d,l,R,E,z,k⟩
 ·exact v.h a1r s σ H Q I ⟨p,j,i,d,l,R,E,z,k⟩⟩
theorem B0 {m m1 m2:MT}(u:QT X e m1)(v:QT X e m2)(h:∀ j i r,m j i=some r->m1 j i=some r\/m2 j i=some r):QT X e m:=⟨fun a1r s σ H Q I q=>by
 obtain ⟨p,j,i,d,l,R,E,w,k⟩:=q
 rcases h j i _ w with z|z
 ·exact u.h a1r s σ H Q I ⟨p,j,i,d,l,R,E,z,k⟩
 ·exact v.h a1r s σ H Q I ⟨p,j,i,d,l,R,E,z,k⟩⟩
theorem pK {f l s:D->D->Hm->Option (D×Hm)}(h:∀ x y d r,f x y d=some r->l x y d=some r\/s x y d=some r) :
  ∀ j d r,aC f ma mb j d=some r->aC l ma mb j d=some r\/aC s ma mb j d=some r:=by
 intro j d r i
 obtain ⟨p,u,i⟩:=Su.mp i
 obtain ⟨q,v,i⟩:=Su.mp i
 rcases h _ _ _ _ i with z|z
 ·exact .inl (Su.mpr ⟨p,u,Su.mpr ⟨q,v,z⟩⟩)
 ·exact .inr (Su.mpr ⟨p,u,Su.mpr ⟨q,v,z⟩⟩)
theorem B1 (h:∀ i d r,m i d=some r->m1 i d=some r\/m2 i d=some r):∀ i d r,aM m i d=some r->aM m1 i d=some r\/aM m2 i d=some r:=by
 intro i d r j
 obtain ⟨p,l,j⟩:=Su.mp j
 rcases h _ _ _ l with z|z
 ·exact .inl (Su.mpr ⟨p,z,j⟩)
 ·exact .inr (Su.mpr ⟨p,z,j⟩)
noncomputable def kM:List D->Option (List Int)
 | []=>some []
 | .int i::r=>(kM r).map (i::·)
 | _=>none
noncomputable def aL:D->D->Hm->Option (D×Hm):=fun x y h=>match x with
 | .loc a=>match h[a]? with
  | some (.dK kvs)=>(lV y).bind fun k=>(fQ kvs k).map fun d=>(d,h)
  | _=>dY x y h
 | _=>dY x y h
theorem Kz {k:Nat}(l:Room k X.A)(i:QE X a ma)(j:QE X b mb)(h:lX b=true):QE X (.Subscript a b pos) (aC aL ma mb):=
 wM (BM i j h) (JV l i j h) (pK fun x y q r d=>by
  unfold aL at d
  split at d
  ·split at d
   ·rename_i p hc
    refine .inr ?_
    simp only [sI,hc]
    exact d
   ·exact .inl d
  ·exact .inl d)
structure TabOk (X:Cx)(x:Str)(kvs:List (aR×D)):Prop where
 ex:∃ (p:Addr)(vs:List (aR×V))(ws:List (aR×Value)),X.mg x=some (.ref p)/\(∀ h:Ua,X.K.In h->h.DictOf (d7 X.prog X.w) p ws)/\KV vs ws/\∀ π n H,IsKs X.K π n H vs kvs
noncomputable def i5 (a:Bool):D->D->Hm->Option (D×Hm)
 | x,.non,μ=>some (.bl (match x with|.non=>!a|_=>a),μ)
 | _,_,_=>none
theorem B2 {K:Sw}:dC K (i5 false) (fun x y H Q=>y=.non/\Q (.bl (decide (x=.non))) H):=by
 intro i H m x y d h j l Q R c e a k
 unfold i5 at a
 split at a
 ·cases a
  cases e
  refine ⟨rfl,?_⟩
  cases c<;>exact k i _ H .refl R (.bl _)
 ·cases a
theorem B3 {K:Sw}:dC K (i5 true) (fun x y H Q=>y=.non/\Q (.bl (!decide (x=.non))) H):=by
 intro i H m x y d h j l Q R c e a k
 unfold i5 at a
 split at a
 ·cases a
  cases e
  refine ⟨rfl,?_⟩
  cases c<;>exact k i _ H .refl R (.bl _)
 ·cases a
theorem KA (c:QE X a ma)(d:QE X b mb):QE X (.Compare a [.Is] [b] pos) (aC (i5 false) ma mb):=⟨iU Ah B2 c.h d.h (dM _)⟩
theorem KG (c:QE X a ma)(d:QE X b mb):QE X (.Compare a [.IsNot] [b] pos) (aC (i5 true) ma mb):=⟨iU Ai B3 c.h d.h (dM _)⟩
theorem KH (c:QE X a ma)(d:QE X b mb):QT X (.Compare a [.Is] [b] pos) (aM (aC (i5 false) ma mb)):=⟨iV Ah B2 c.h d.h (dM _)⟩
theorem KI (c:QE X a ma)(d:QE X b mb):QT X (.Compare a [.IsNot] [b] pos) (aM (aC (i5 true) ma mb)):=⟨iV Ai B3 c.h d.h (dM _)⟩
end
end L3
namespace L3
open PySem L2
section
variable {X:Cx}{e a b c o:Expr}{m m1 m2 ma mb mc mo:ME}{pos apos cpos:UA}{mt mu:MT}{rest es:List Expr}{ms:MA}{n:Nat}
noncomputable def nN (d:Hm):D->Bool
 | .rol _=>true
 | .loc a=>match d[a]? with|some (.lst _)=>true|_=>false
 | _=>false
noncomputable def iI (f:D->List D->Hm->Option (D×Hm))(mo:ME)(ms:MA):ME:=fun d h=>(mo d h).bind fun p=>match nN p.2 p.1 with
 | true=>(ms d p.2).bind fun q=>f p.1 q.1 q.2
 | false=>none
noncomputable def jS (K:Sw)(f:D->List D->Hm->Option (D×Hm))(r:V->List V->Hp->VK->Prop):Prop:=
 ∀ j H h x p d i v l Q,Rp K j H h->IsD K j h.length H v x->IsDs K j h.length H l p->f x p h=some (d,i)->KC K Q j h.length H d i->r v l H Q
theorem KJ {K:Sw}{π:Nat->Addr}{H:Hp}{d:Hm}{v:V}{x:D}(R:Rp K π H d)(h:IsD K π d.length H v x)(e:nN d x=true):vP K "list" v H:=by
 cases h with
 | rol h t=>exact .inl ⟨rfl,_,h.sq⟩
 | @loc a q=>
  simp only [nN] at e
  split at e
  ·rename_i p j
   obtain ⟨l,i,_⟩:=R.lst a p j
   exact .inl ⟨rfl,l,.of i⟩
  ·cases e
 | _=>cases e
theorem KL {K:Sw}{f:D->List D->Hm->Option (D×Hm)}{r:V->List V->Hp->VK->Prop}(I:jS K f r):∀ σ H Q,tM K (iI f mo ms) σ H Q->vQ K "list" r (tM K mo) (eC K ms) σ H Q:=by
 rintro σ H Q ⟨T,z,O,d,l,R,E,h,k⟩
 obtain ⟨⟨x,i⟩,B,h⟩:=Su.mp h
 dsimp only at h
 split at h
 ·rename_i J
  obtain ⟨⟨y,j⟩,G,h⟩:=Su.mp h
  refine ⟨T,z,O,x,i,R,E,B,fun p M U u s w=>⟨KJ s w J,p,z,i,y,j,s,E.mono u,G,fun q N A v R2 L=>?_⟩⟩
  exact I q A j x y d l M N Q R2 (w.mono v) L h (k.after (u.trans v))
 ·cases h
noncomputable def sQ:Expr->Bool
 | .Call (.Name _ _) [] [] _=>false
 | _=>true
theorem pL {o:Expr}{j:Str}{env:Wx}{d:a0Q Value}(h:sQ o=true):Xu o j env d=d:=by
 cases o with
 | Call f i l p=>
  cases f with
  | Name id q=>
   cases i with
   | nil=>
    cases l with
    | nil=>cases h
    | cons _ _=>rfl
   | cons _ _=>rfl
  | _=>rfl
 | _=>rfl
theorem B4 {e:Expr}{es:List Expr}{env:Wx}{cpos:UA}(h:(e::es).all cF=true)(j:(e::es).length<30) :
  ((Vg cpos (Tu (e::es) env)).all (fun x=>!x.1)&&(ZU cpos (Yd [] env)).all (fun x=>x.1.isSome)
   && decide ((e::es).length+([]:List V7).length+(if ([]:List V7).isEmpty then 0 else 1)<30))=true:=by
 have d:(Vg cpos (Tu (e::es) env)).all (fun x=>!x.1)=true:=by
  have:=iY (pos:=cpos) (env:=env) h
  rw [List.all_eq_not_any_not]
  simpa using this
 rw [d]
 have i:(e::es).length+([]:List V7).length+(if ([]:List V7).isEmpty then 0 else 1)<30:=by
  show (e::es).length+0+0<30
  omega
 rw [decide_eq_true i]
 rfl
theorem wN {f:D->List D->Hm->Option (D×Hm)}{r:V->List V->Hp->VK->Prop}{name:Str}{id:String}(slot:Slot "list" name id) (i:typeOf (.builtin id)=pure (.type "method_descriptor")) (q:lL X id r)(l:jS X.K f r)
  (u:QE X o mo)(j:QA X (e::es) ms n)(v:sQ o=true)(p:(apos.endLine == cpos.line)=true)(s:(e::es).length<30):QE X (.Call (.Attribute o name apos) (e::es) [] cpos) (iI f mo ms):=by
 have h:=j.s
 have d:=h
 rw [Tz,Sy] at d
 exact ⟨cT (AK PySem.F.plainAttrs_list slot i q u.h j.h (pL v) (B4 h s) p (eD d.1) (iY d.2)) (KL l)⟩
noncomputable def jT:D->List D->Hm->Option (D×Hm)
 | .loc a,[y],μ=>(nH μ a y).map fun d=>(.non,d)
 | _,_,_=>none
theorem KN {K:Sw}:jS K jT AN:=by
 intro J H N x M d G v L Q R B j i k
 unfold jT at i
 split at i
 ·rename_i a y
  obtain ⟨I,h,i⟩:=SA.mp i
  cases i
  unfold nH at h
  split at h
  ·rename_i s r
   split at h
   ·rename_i z
    cases h
    obtain ⟨l,p,q⟩:=R.lst a s r
    cases B
    cases j with
    | cons E A=>
     cases A
     obtain ⟨w,u⟩:=R.put (a:=a) (c:=.lst (s++[y])) (o:=.lst (l++[_])) (SH.mp r).1 p (.inl ⟨l,rfl⟩) (q.append (.cons E .nil))
     exact ⟨_,l,_,rfl,rfl,p,by rw [q.length];exact z,k J _ _ w u .non⟩
   ·cases h
  ·cases h
 ·cases i
noncomputable def kN:D->List D->Hm->Option (D×Hm)
 | .loc a,[.int i],μ=>match μ[a]? with
  | some (.lst xs)=>if 0<=i/\i<2 ^ 62 then (xs[i.toNat]?).map fun y=>(y,μ.set a (.lst (xs.eraseIdx i.toNat))) else none
  | _=>none
 | _,_,_=>none
theorem KO {K:Sw}{π:Nat->Addr}{n:Nat}{H:Hp}{vs:List V}{ds:List D}(h:IsDs K π n H vs ds)(k:Nat):IsDs K π n H (vs.eraseIdx k) (ds.eraseIdx k):=by
 rw [U7,U7]
 exact (h.take k).append (h.drop (k+1))
theorem KP {i:Int}{n:Nat}(d:0<=i)(h:i.toNat<n):X1 i n=some i.toNat:=by
 have e:(if i<0 then i+(n:Int) else i)=i:=if_neg (by omega)
 unfold X1
 dsimp only
 rw [e,if_pos (by rw [Sy,decide_eq_true_iff,decide_eq_true_iff];omega)]
theorem KQ {K:Sw}:jS K kN AQ:=by
 intro M H T x O d L v N Q R I i h k
 unfold kN at h
 split at h
 ·split at h
  ·rename_i u s
   split at h
   ·rename_i E
    obtain ⟨y,A,h⟩:=SA.mp h
    cases h
    obtain ⟨j,p,q⟩:=R.lst _ u s
    cases I
    cases i with
    | cons G J=>
     cases G
     cases J
     obtain ⟨w,r,B⟩:=q.get A
     obtain ⟨l,z⟩:=R.put (c:=.lst (u.eraseIdx _)) (o:=.lst (j.eraseIdx _)) (SH.mp s).1 p (.inl ⟨j,rfl⟩) (KO q _)
     have hw:=(SH.mp r).1
     refine ⟨_,j,_,_,w,rfl,rfl,p,by omega,by omega,KP E.1 hw,r,k M w _ l z (B.mono l)⟩
   ·cases h
  ·cases h
 ·cases h
noncomputable def kP (d:Hm):D->Option Bool
 | .non=>some false
 | .bl b=>some b
 | .int i=>some (i != 0)
 | .str z=>if z.length<=SK then some ((z.length:Int) != 0) else none
 | .tup xs=>some (!xs.isEmpty)
 | .rol xs=>some (!xs.isEmpty)
 | .loc a=>match d[a]? with|some (.lst xs)=>some (!xs.isEmpty)|some (.dK kvs)=>some (!kvs.isEmpty)|_=>none
 | .ty _=>none
theorem sR {i j:Type}{xs:List i}{d:List j}(h:xs.length=d.length):xs.isEmpty=d.isEmpty:=by
 cases xs<;>cases d<;>first|rfl|cases h
theorem KR {K:Sw}{π:Nat->Addr}{H:Hp}{r:Hm}{v:V}{x:D}{b:Bool}(R:Rp K π H r)(h:IsD K π r.length H v x)(e:kP r x=some b):u6 K v H b:=by
 cases h with
 | non=>cases e;rfl
 | bl c=>cases e;rfl
 | int i=>cases e;rfl
 | str z=>
  simp only [kP] at e
  split at e
  ·rename_i s;cases e;exact ⟨s,rfl⟩
  ·cases e
 | tup h t=>cases e;exact .inr (.inl ⟨_,h,by rw [sR t.length]⟩)
 | rol h t=>cases e;exact .inl ⟨_,h.sq,by rw [sR t.length]⟩
 | @loc a w=>
  simp only [kP] at e
  split at e
  ·rename_i u l
   cases e
   obtain ⟨q,d,j⟩:=R.lst a u l
   exact .inl ⟨q,.of d,by rw [sR j.length]⟩
  ·rename_i p l
   cases e
   obtain ⟨q,d,j,_⟩:=R.dK a p l
   refine .inr (.inr ⟨q,d,?_⟩)
   have:=congrArg Wa j
   rw [Sx,Sx] at this
   rw [sR this]
  ·cases e
 | ty n=>cases e
noncomputable def dP (m:ME):MT:=fun h d=>(m h d).bind fun p=>(kP p.2 p.1).map fun b=>(b,p.2)
theorem KS (h:QE X e m)(s:nK e=true):QT X e (dP m):=⟨o9 (GD h.h (BN s)) (by
 rintro I H Q ⟨z,A,v,b,w,R,E,d,k⟩
 obtain ⟨⟨x,y⟩,q,d⟩:=Su.mp d
 obtain ⟨B,r,d⟩:=SA.mp d
 cases d
 exact ⟨z,A,v,x,_,R,E,q,fun i G l p j u=>⟨_,KR j u r,k i l p j⟩⟩)⟩
theorem KU {k:Nat}{f:Addr}{l:Ul}{ps:List Str}{q:MF}{x:Str}{p:UA}(F:FnOk X.prog X.w X.K X.mg X.base eB k f l ps (eI X.K 0 q))(w:Room k X.A)(h:X.mg x=some (.ref f))
  (v:T6 X.K (.ref f)=true)(s:Binds X.K l ps [])(u:Gl X x)(i:(x == ("__debug__":Str))=false):QE X (.Call (.Name x p) [] [] pos) (aE q aD):=
 ⟨cT (GL F w u h v s .nil (E:=E0) AV i) (by
  rintro I H Q ⟨A,G,y,d,j,R,E,h,k⟩
  obtain ⟨⟨B,z⟩,r,h⟩:=Su.mp h
  cases r
  exact ⟨rfl,A,[],y,d,j,R,.nil,h,k⟩)⟩
noncomputable def lZ (c:MT)(b:MS):Nat->MS
 | 0,_,_=>none
 | n+1,ρ,μ=>(c ρ μ).bind fun p=>match p.1 with
  | false=>some (.nx,ρ,p.2)
  | true=>(b ρ p.2).bind fun q=>match q.1 with
   | .nx=>lZ c b n q.2.1 q.2.2
   | .ct=>lZ c b n q.2.1 q.2.2
   | .bk=>some (.nx,q.2.1,q.2.2)
   | .rt d=>some (.rt d,q.2.1,q.2.2)
noncomputable def nO (n:Nat)(c:MT)(b:MS):MS:=lZ c b n
theorem KW {body:List Stmt}{mb:MS}(n:Nat)(hc:QT X c mt)(hb:QB X body mb)(hp:X8 (Tq X.prog X.w) X.A X.env X.xe):QS X (.While c body [] pos) (nO n mt mb):=⟨iD (Ga hp hc.h hb.h) (by
 rintro E σ H ⟨Z,ρ,Y,T,G,A,R,EN,hm,k⟩
 have r:∀ {i:Nat->Addr}{n2:Nat}{H2:Hp}(e:Ext Z Y.length H i n2 H2),lO X.K E i n2 H2 T G A:=fun {i n2 H2} e=>by
  cases T with
  | nx=>exact fun j u z l y K=>k j u z (e.trans l) y K
  | bk=>exact fun j u z l y K=>k j u z (e.trans l) y K
  | ct=>exact fun j u z l y K=>k j u z (e.trans l) y K
  | rt d=>exact KC.after k e
 refine ⟨fun m w x=>∃ i p s,Ext Z Y.length H i p.length x/\Rp X.K i x p/\En X.K i p.length x w s/\lZ mt mb m s p=some (T,G,A),⟨n,Z,Y,ρ,.refl,R,EN,hm⟩,?_⟩
 rintro m σ1 H1 ⟨i,p,s,N,R2,E2,h2⟩
 cases m with
 | zero=>cases h2
 | succ m=>
  obtain ⟨⟨b,Q⟩,h3,h4⟩:=Su.mp h2
  refine ⟨i,s,p,b,Q,R2,E2,h3,fun j z l y=>?_⟩
  cases b with
  | false=>
   refine kI ?_
   cases h4
   exact r N j σ1 z l y (E2.mono l)
  | true=>
   refine kJ ?_
   obtain ⟨⟨f4,I,B⟩,h5,U⟩:=Su.mp h4
   refine ⟨fun w x=>∃ h v q,Ext Z Y.length H h q.length x/\Rp X.K h x q/\En X.K h q.length x w v/\lZ mt mb m v q=some (T,G,A),
    fun w x ⟨h,v,q,a1,a2,a3,a4⟩=>⟨m,UY _,h,q,v,a1,a2,a3,a4⟩,j,s,Q,f4,I,B,y,E2.mono l,h5,?_⟩
   cases f4 with
   | nx=>exact fun h J H5 O M L=>⟨h,I,B,(N.trans l).trans O,M,L,U⟩
   | ct=>exact fun h J H5 O M L=>⟨h,I,B,(N.trans l).trans O,M,L,U⟩
   | bk=>
    cases U
    exact fun h J H5 O M L=>r (N.trans l) h J H5 O M L
   | rt d'=>
    cases U
    exact r (N.trans l))⟩
theorem KY:QS X (.Return none pos) (aY (mC .non)):=⟨iD FZ (by
 rintro E s H ⟨i,r,q,p,j,h,R,l,d,k⟩
 cases d
 exact k i .non H .refl R .non)⟩
end
end L3
namespace L3
open PySem L2
noncomputable def nP:List D->Option (List Bool)
 | []=>some []
 | .bl b::r=>(nP r).map (b::·)
 | _=>none
noncomputable def kQ:MF:=fun ds a=>match ds with
 | [x]=>(bS a x).bind fun c=>(nP c).map fun bs=>(.bl (bs.all id),a)
 | _=>none
theorem B5 {K:Sw}{π:Nat->Addr}{n:Nat}{H:Hp}:∀ {xs:List D}{vs:List V}{bs:List Bool},IsDs K π n H vs xs->nP xs=some bs->vs=bs.map V.bl
 | [],_,bs,h,e=>by cases h;cases e;rfl
 | x::xs,vs,bs,h,e=>by
  cases h with
  | cons h t=>
   cases x with
   | bl b=>
    obtain ⟨a,c,d⟩:=SA.mp e
    subst d
    cases h
    rw [B5 t c]
    rfl
   | _=>cases e
noncomputable def B6 (K:Sw)(g:List Bool->Bool):List V->Hp->VK->Prop:=fun xs H Q=>∃ p bs,xs=[.ref p]/\(SqL K H p (bs.map V.bl)\/SqT K H p (bs.map V.bl))/\Q (.bl (g bs)) H
theorem KZ {K:Sw}{g:List Bool->Bool}{f:MF}(j:f=fun ds c=>match ds with|[x]=>(bS c x).bind fun xs=>(nP xs).map fun bs=>(.bl (g bs),c)|_=>none):cY K f (B6 K g):=by
 subst j
 intro m H c xs d l n Q R i a k
 dsimp only at a
 split at a
 ·obtain ⟨r,e,a⟩:=Su.mp a
  obtain ⟨bs,h,a⟩:=SA.mp a
  cases a
  cases i with
  | cons i t=>
   cases t
   obtain ⟨p,o,rfl,q,hd⟩:=sH R i e
   have:=B5 hd h
   subst this
   exact ⟨p,bs,rfl,q,k m _ H .refl R (.bl _)⟩
 ·cases a
theorem B7 {bs:List Bool}{n:Nat}(a:n=bs.length):(Td n).all (fun i=>bs.getD i false)=bs.all id:=by
 subst a
 induction bs with
 | nil=>rfl
 | cons b bs c=>
  rw [SY,VJ,Tz,WE,Tz,<- c]
  rfl
section
variable {X:Cx}
theorem B8 {prog:Tc}{w:Ts}{A:Tt}{bs:List Bool}{a:List Value}(r:Vals (bs.map V.bl) a):TruthOf prog w A (fun i v=>a.toArray[i]? = some v) (fun i=>bs.getD i false):=by
 intro i v s Q E m d
 have c:a[i]? = some v:=by simpa using m
 have j:i<bs.length:=by
  have:=(SH.mp c).1
  have:=r.length
  rw [Sx] at this
  omega
 obtain ⟨u,h,l⟩:=r.get (i:=i) (x:=.bl bs[i]) (by rw [Tr,SN j];rfl)
 rw [c] at h
 cases h
 cases l
 have e:bs.getD i false=bs[i]:=by simp [U3,j]
 dsimp only at d
 rw [e] at d
 exact Uw d
theorem K0 (hc:X.calm=true):CallR X (.builtin "all") (B6 X.K (·.all id)):=by
 intro z s K H J G Q I r h
 obtain ⟨p,bs,rfl,l,q⟩:=h
 obtain ⟨u,rfl,E⟩:=f9 r
 cases E
 have y:X.A.in1.handled=none:=I.ok.hd hc
 rcases l with l|l
 ·obtain ⟨a,m,j,B⟩:=I.list l
  refine call_all_walk (Vr j.isList ?_)
  have d:p≠s.heap.objs.size:=by
   obtain ⟨o,v,_⟩:=j.isList
   exact S9 (SO v)
  refine ⟨s.heap.objs.size,_,_,_,_,_,fun i=>bs.getD i false,rfl,XR y _ p d a.toArray,⟨⟨_,Tf _ rfl,rfl,rfl⟩,j.isList.push _⟩,B8 m,fun A x w=>?_⟩
  have c:a.toArray.size=bs.length:=by rw [S3,<- m.length,Sx]
  refine ⟨.bl _,H,I.kept (t':=x) fun b o e=>w b o ?_ (SS _ e),rfl,?_⟩
  ·intro n
   have:b=s.heap.objs.size:=by simpa using n
   exact S9 (SO e) this
  ·rw [B7 c]
   exact q
 ·obtain ⟨a,m,j,B⟩:=I.tuple l
  refine call_all_walk (Xy (show s.heap.IsTuple p a.toArray from j) ?_)
  have d:p≠s.heap.objs.size:=by
   obtain ⟨o,v,_⟩:=j
   exact S9 (SO v)
  refine ⟨s.heap.objs.size,_,_,_,_,_,fun i=>bs.getD i false,rfl,a0p y _ p d a.toArray,⟨⟨_,Tf _ rfl,rfl,rfl⟩,W2 j _⟩,B8 m,fun A x w=>?_⟩
  have c:a.toArray.size=bs.length:=by rw [S3,<- m.length,Sx]
  refine ⟨.bl _,H,I.kept (t':=x) fun b o e=>w b o ?_ (SS _ e),rfl,?_⟩
  ·intro n
   have:b=s.heap.objs.size:=by simpa using n
   exact S9 (SO e) this
  ·rw [B7 c]
   exact q
end
end L3
namespace L3
open PySem L2
open PyProof.Rows (IntsAre)
open PySem.W (KasT kas_asc kas_desc kas_tail3 kas_descPart kas_count kas_place kas_bin kas_sort kas_rev kas_ask)
noncomputable def InR {c:Type}(n:Nat)(R:c->Prop):KasT c->Prop
 | .ret a=>R a
 | .ask i j k=>i<n/\j<n/\∀ b,InR n R (k b)
theorem InR.mono {d:Type}{n:Nat}{R c:d->Prop}(h:∀ a,R a->c a):∀ {t:KasT d},InR n R t->InR n c t
 | .ret a,q=>h a q
 | .ask i j k,q=>⟨q.1,q.2.1,fun b=>InR.mono h (q.2.2 b)⟩
theorem InR.bind {c h:Type}{n:Nat}{R:c->Prop}{d:h->Prop}{f:c->KasT h}(e:∀ a,R a->InR n d (f a)):∀ {t:KasT c},InR n R t->InR n d (t.bind f)
 | .ret a,q=>e a q
 | .ask i j k,q=>⟨q.1,q.2.1,fun b=>InR.bind e (q.2.2 b)⟩
section
variable {n:Nat}
noncomputable def IxOk (n:Nat)(p:Array Nat):Prop:=p.Perm (Td n).toArray
theorem IxOk.lt {p:Array Nat}(h:IxOk n p)(d:0<n)(i:Nat):p.getD i 0<n:=by
 by_cases a:i<p.size
 ·have e:p.getD i 0=p[i]:=by simp [Ve,a]
  rw [e]
  have j:p[i]∈p:=Array.getElem_mem a
  have c:p[i]∈(Td n).toArray:=h.mem_iff.mp j
  simpa using c
 ·have e:p.getD i 0=0:=by simp [Ve,a]
  rw [e];exact d
end
section
variable {X:Cx}{a1r:List (Addr×Obj)}{σ:St}{H:Hp}{s:SF}
theorem K1 {P:Tc}{w:Ts}{H:Hp}{h:Ua}{a:Addr}{o:HO}(x:ObjOk P w H h a o):∃ d,h.get? a=some d:=by
 cases o with
 | lst i=>obtain ⟨_,_,_,_,e⟩:=x;exact ⟨_,e⟩
 | tup i=>obtain ⟨_,_,_,d,e,_⟩:=x;exact ⟨_,e⟩
 | dK c=>obtain ⟨_,_,_,_,o,_,_,e,_⟩:=x;exact ⟨_,e⟩
 | dT c=>obtain ⟨_,_,_,_,o,_,_,e,_⟩:=x;exact ⟨_,e⟩
 | set S n=>obtain ⟨o,_,_,_,e,_⟩:=x;exact ⟨_,e⟩
 | ins C j fs=>obtain ⟨_,_,_,e,_⟩:=x;exact ⟨_,e⟩
 | own y=>exact x
 | xd fs=>obtain ⟨_,⟨_,_,_,e,_⟩,_⟩:=x;exact ⟨_,e⟩
 | rng m l=>obtain ⟨_,_,_,e⟩:=x;exact ⟨_,e⟩
 | frz d u=>exact ⟨_,x.1⟩
 | tbl p=>exact ⟨_,x⟩
 | met f y=>exact ⟨_,x⟩
 | ext q=>exact x.2.1
end
noncomputable abbrev TupsV (K:Sw)(H:Hp):List V->List (List Int)->Prop:=WK fun v t=>∃ a,v=V.ref a/\SqT K H a (t.map V.int)
theorem TupsV.get {K:Sw}{H:Hp}:∀ {vs:List V}{c:List (List Int)}{i:Nat},TupsV K H vs c->i<vs.length->∃ a,vs[i]? = some (V.ref a)/\SqT K H a ((c.getD i []).map V.int)
 | _,_,_,.nil,h=>by simp at h
 | _,_,0,.cons ⟨a,e,q⟩ _,_=>⟨a,by rw [e];rfl,q⟩
 | _,_,i+1,.cons _ t,h=>by
  obtain ⟨a,e,q⟩:=TupsV.get (i:=i) t (by simpa using h)
  exact ⟨a,by simpa using e,q⟩
section
open PyProof.Rows
variable {prog:Tc}{w:Ts}{A:Tt}{E:Value->SF->Prop}{s:SF}
end
end L3
namespace L3
open PySem L2 PySem.Spec PyProof.Rows
structure XRec (h:Ua)(e:Addr)(cls:Value)(dc:Option Addr)(T:Option (Addr×Value)):Prop where
 ob:∃ o vs,h.get? e=some o/\o.cls=cls/\o.dict=dc/\o.data=.fields vs/\vs[1]? = some (match T with|none=>Uk|some p=>.ref p.1)/\vs[2]? = some Uk
 tb:∀ p,T=some p->p.1≠e/\∃ oT ts,h.get? p.1=some oT/\oT.data=.fields ts/\ts[3]? = some p.2
structure XKept (fs:List Addr)(e:Addr)(T:Option (Addr×Value))(h h':Ua):Prop where
 keep:∀ b o,h.get? b=some o->b≠e->(∀ p,T=some p->b≠p.1)->b∉fs->h'.get? b=some o
 slot:∀ b o,h.get? b=some o->b≠e->(∀ p,T=some p->b≠p.1)->∃ sl,h'.get? b=some { o with slots:=sl }
theorem K2 (o:Obj) (f):(o.mapFields f).dict=o.dict:=by
 cases o with
 | mk c d a e=>cases a<;>rfl
section
variable {M:Ye}{A:Tt}{E:Value->SF->Prop}{s:SF}{base:Ua}{env:Wx}{outer:List Wx}{L e:Addr}{cls:Value}{dc:Option Addr}
theorem XRec.noFrame {h:Ua}{T:Option (Addr×Value)}{l:List Wx}(x:XRec h e cls dc T)(i:h.FunFrames base l):e∉cX l/\∀ p,T=some p->p.1∉cX l:=by
 obtain ⟨o,w,n,_,_,q,_,_⟩:=x.ob
 refine ⟨fun d=>?_,fun p r d=>?_⟩
 ·obtain ⟨_,u,a,c⟩:=i.mem d
  rw [n] at a;cases a
  exact c w q
 ·obtain ⟨_,y,v,j,m,_⟩:=x.tb p r
  obtain ⟨_,u,a,c⟩:=i.mem d
  rw [j] at a;cases a
  exact c v m
theorem B9 {T:Option (Addr×Value)}{hd:Value}{nx:Bool}{Q:Unit->SF->Prop}(j:A.frames=some (env::outer))(v:s.heap.FunFrames base (env::outer))(R:env.frame=some L)(x:XRec s.heap e cls dc T)
  (k:∀ d m,XRec d e cls dc (some (m,Wt L))->s.heap.objs.size<=m->XKept (cX (env::outer)) e T s.heap d->Q () { s with heap:=d }) :
  Ti M A (do setField (.ref e) 1 (<- Yb hd (<- frameOf env) .none (Wt L) .none (<- entryPlaceOf L nx))) Q E s:=by
 obtain ⟨o,Y,H,I,J,u,K,N⟩:=x.ob
 have y:1<Y.size:=(UZ.mp K).1
 have ne:=(x.noFrame v).1
 refine S0 (wpAny_frameOf_fun j v R fun a c=>?_)
 refine S0 (wpAny_entryPlaceOf fun G w=>?_)
 unfold Yb newFields
 refine S0 (WB ?_ (w.sizeOk5 _ _ _ _ _))
 have q:a.get? e=some o:=(c.2.1 e ne).trans H
 generalize hob:({ cls:=.type "traceback",dict:=none,data:=.fields ([hd,.ref L,.none,Wt L,.none]++(if G.isEmpty then Sz 6 Uk else G)).toArray }:Obj)=tb
 have r:(a.push tb).get? e=some o:=SS _ q
 refine Yq r u y (k _ a.objs.size ?_ ?_ ?_)
 ·have z:a.objs.size≠e:=Xq (SO q)
  have n:=Xf u (·.setIfInBounds 1 (TL a.objs.size))
  refine ⟨⟨_,_,Vj _ r (WS n),by rw [Obj.cls_mapFields];exact I,?_,n,by simp [y],by simp [N]⟩,fun p l=>?_⟩
  ·rw [<- J,K2]
  ·cases l
   refine ⟨z,tb,_,?_,by rw [<- hob],?_⟩
   ·rw [Us _ _ (Ux z)]
    exact Tf _ (by rw [<- hob];rfl)
   ·first|(simp;done)|(rcases w with rfl|⟨_,_,_,_,_,_,_,rfl⟩<;>simp)
 ·rw [c.1]
  exact SM _
 ·refine ⟨fun b B i h _ O=>?_,fun b B i h _=>?_⟩
  ·rw [Us _ _ (Ux h)]
   exact SS _ ((c.2.1 b O).trans i)
  ·obtain ⟨X,U⟩:=c.2.2 b B i
   refine ⟨X,?_⟩
   rw [Us _ _ (Ux h)]
   exact SS _ U
theorem Cb {T:Option (Addr×Value)}{Q:Unit->SF->Prop}(H:∀ p,T=some p->p.2=.none)(h:A.frames=some (env::outer))(u:s.heap.FunFrames base (env::outer))(r:env.frame=some L)(x:XRec s.heap e cls dc T)
  (k:∀ c j,XRec c e cls dc (some (j,Wt L))->s.heap.objs.size<=j->XKept (cX (env::outer)) e T s.heap c->Q () { s with heap:=c }):Ti M A (X2 (.ref e) env) Q E s:=by
 obtain ⟨o,vs,y,K,N,B,G,O⟩:=x.ob
 unfold X2
 simp only [r]
 refine S0 (Wn y B G ?_)
 cases T with
 | none=>
  rw [if_neg (by decide)]
  exact B9 h u r x k
 | some p=>
  obtain ⟨J,oT,ts,l,m,v⟩:=x.tb p rfl
  rw [if_pos (show (TL p.1 != Uk)=true by simp)]
  refine S0 (Wn l m v ?_)
  rw [H p rfl,if_neg (show ¬ (Uk == Wt L)=true by simp [Wt])]
  refine S0 (Yq l m (UZ.mp v).1 ?_)
  have same:∀ b,b≠p.1->(s.heap.update p.1 (a0t (·.setIfInBounds 3 Uk))).get? b=s.heap.get? b:=fun b a=>Us _ _ (Ux a)
  have Z:=(x.noFrame u).2 p rfl
  refine B9 (T:=some p) h (u.of_keeps fun b i a Y=>⟨i,(same b fun z=>by rw [z,l] at a;cases a;exact Y ts m).trans a,rfl⟩) r ⟨⟨o,vs,(same e (Ux J)).trans y,K,N,B,G,O⟩,fun q U=>?_⟩ fun c j x' X I=>k c j x' (by simpa using X) ⟨fun b i a n d R=>?_,fun b i a n d=>?_⟩
  ·cases U
   have w:=Xf m (·.setIfInBounds 3 Uk)
   exact ⟨J,_,_,Vj _ l (WS w),w,by rw [H p rfl];simp [(UZ.mp v).1]⟩
  ·exact I.keep b i ((same b (d p rfl)).trans a) n d R
  ·exact I.slot b i ((same b (d p rfl)).trans a) n d
theorem wO {T:Addr}{n:Value}{Q:Unit->SF->Prop}(x:XRec s.heap e cls dc (some (T,n)))(k:∀ h',XRec h' e cls dc (some (T,.none))->h'.objs.size=s.heap.objs.size->(∀ b,b≠T->h'.get? b=s.heap.get? b)->Q () { s with heap:=h' }) :
  Ti M A (X0 (.ref e) none) Q E s:=by
 obtain ⟨o,y,c,q,r,d,h,u⟩:=x.ob
 obtain ⟨i,z,B,j,l,m⟩:=x.tb _ rfl
 unfold X0
 refine S0 (Wn c d h ?_)
 rw [if_pos (show (TL T != Uk)=true by simp)]
 have same:∀ b,b≠T->(s.heap.update T (a0t (·.setIfInBounds 3 Uk))).get? b=s.heap.get? b:=fun b v=>Us _ _ (Ux v)
 have a:=Xf l (·.setIfInBounds 3 Uk)
 refine Yq j l (UZ.mp m).1 (k _ ⟨⟨o,y,(same e (Ux i)).trans c,q,r,d,h,u⟩,fun p w=>?_⟩ (by simp) same)
 cases w
 exact ⟨i,_,_,Vj _ j (WS a),a,by simp [(UZ.mp m).1]⟩
theorem K3 {T:Option (Addr×Value)}{Q:Unit->SF->Prop}(w:∀ p,T=some p->p.2=.none)(d:A.frames=some (env::outer))(z:s.heap.FunFrames base (env::outer))(y:env.frame=some L)(x:XRec s.heap e cls dc T)
  (k:∀ c l,XRec c e cls dc (some (l,.none))->s.heap.objs.size<=l->XKept (cX (env::outer)) e T s.heap c->Q () { s with heap:=c }):Ti M A (a0n env (.ref e)) Q E s:=by
 unfold a0n
 refine S0 (Cb w d z y x fun r q H j m=>?_)
 refine wO (s:={ s with heap:=r }) H fun u I _ n=>k u q I j ⟨fun b o a h i B=>?_,fun b o a h i=>?_⟩
 ·rw [n b (S9 (S6 (SO a) j))]
  exact m.keep b o a h i B
 ·obtain ⟨G,v⟩:=m.slot b o a h i
  refine ⟨G,?_⟩
  rw [n b (S9 (S6 (SO a) j))]
  exact v
end
end L3
namespace L3
open PySem L2 PySem.Spec PyProof.Rows
structure Ex (X:Cx)(a1r:List (Addr×Obj))(H:Hp)(s:SF)(e:Addr)(cls:Value)(dc:Option Addr)(T:Option (Addr×Value)):Prop where
 rc:XRec s.heap e cls dc T
 hT:∀ p,T=some p->p.2=.none
 lo:X.s₀.heap.get? e=none/\∀ p,T=some p->X.s₀.heap.get? p.1=none
 fr:H e=none/\∀ p,T=some p->H p.1=none
 pn:∀ q∈X.pn++a1r,q.1≠e/\∀ p,T=some p->q.1≠p.1
noncomputable def iJ (P:Tc)(w:Ts):fL:=fun outer H s E e a=>∃ c H' cls d T,e=.ref c/\a.os=s.os/\WG a.gens/\Un (cX outer) [] H H' s.heap a.heap/\HOk P w H' a.heap /\
 XRec a.heap c cls d (some (T,.none))/\s.heap.get? c=none/\s.heap.get? T=none/\H' c=none/\H' T=none/\E cls d H'
section
variable {X:Cx}{a1r:List (Addr×Obj)}{σ:L2.St}{H H':Hp}{s s':SF}{e:Addr}{cls:Value}{dc:Option Addr}{T:Option (Addr×Value)}
theorem XKept.hok {P:Tc}{w:Ts}{h h':Ua}{fs:List Addr}(k:XKept fs e T h h')(ok:HOk P w H h)(l:H e=none)(j:∀ p,T=some p->H p.1=none)(m:∀ b∈fs,H b=none):HOk P w H h':=fun b u q=>by
 have ne:∀ c v,H c=some v->c≠e/\(∀ p,T=some p->c≠p.1)/\c∉fs:=fun c v hc=>
  ⟨(fun z=>by rw [z,l] at hc;cases hc),(fun p n z=>by rw [z,j p n] at hc;cases hc),(fun z=>by rw [m c z] at hc;cases hc)⟩
 refine (ok b u q).stay (fun c v hc g=>?_) (fun _ g=>g) fun _ _ g=>g
 rcases hc with rfl|hc
 ·obtain ⟨a,d,i⟩:=ne c u q
  exact k.keep c v g a d i
 ·obtain ⟨a,d,i⟩:=ne c _ hc
  exact k.keep c v g a d i
theorem K4 {E:XK}{v:Value}(l:X.ex=[])(I:Inv X a1r σ H s)(h:iJ X.prog X.w X.stack H s E v s'):∃ e H' cls dc T,v=.ref e/\Inv X a1r σ H' s'/\Ex X a1r H' s' e cls dc (some (T,.none))/\E cls dc H':=by
 obtain ⟨e,H',cls,dc,T,rfl,A,i,un,hok,B,m,n,r,u,w⟩:=h
 have j:∀ a,s.heap.get? a=none->X.s₀.heap.get? a=none:=fun a x=>by
  cases q:X.s₀.heap.get? a with
  | none=>rfl
  | some o=>
   obtain ⟨G,g⟩:=I.base.there a o q (by rw [l];simp)
   rw [x] at g;cases g
 refine ⟨e,H',cls,dc,T,rfl,I.call' (ch:=[]) A un hok i (fun b z=>absurd z (by simp)),⟨B,(fun p d=>by cases d;rfl),⟨j e m,(fun p d=>by cases d;exact j T n)⟩,⟨r,(fun p d=>by cases d;exact u)⟩,fun q y=>?_⟩,w⟩
 have c:=(I.pin q y).1
 exact ⟨(fun z=>by rw [z,m] at c;cases c),(fun p d z=>by cases d;rw [z,n] at c;cases c)⟩
theorem Cd {ch:List Addr}(I:Inv X a1r σ H s)(l:X.ex=[])(q:∀ b∈ch,X.s₀.heap.get? b=none)(r:∀ b∈ch,∃ o vs,s.heap.get? b=some o/\o.data=.fields vs):Inv { X with ex:=ch } a1r σ H s:=by
 have i:∀ b o,X.s₀.heap.get? b=some o->b∉ch:=fun b o a z=>by rw [q b z] at a;cases a
 have o:=I.ok
 refine ⟨⟨o.mod,o.kind,o.glob,o.blt,o.above,o.inj,o.has,o.cab,o.hd,o.frames,o.stk,fun b a=>?_,o.bs,o.bsz,fun b j a=>i b j (o.bs b j a).1,fun b a w=>?_,o.funs,o.frf⟩,I.os,I.bare,?_,I.loc,I.cell,I.free,I.freeC,I.pin,I.hok,I.len⟩
 ·obtain ⟨j,vs,n,p⟩:=r b a
  refine ⟨fun z=>?_,fun y c hc z=>?_⟩
  ·obtain ⟨m,⟨B,A,x,d,h,_⟩,_⟩:=I.loc
   have z:b=X.env.locals:=z
   rw [<- z,n] at d
   cases d
   rw [p] at h
   cases h
  ·obtain ⟨v,E,d,h⟩:=I.cell y c hc
   rw [z,n] at d
   cases d
   rw [p] at h
   cases h
 ·obtain ⟨_,j,d,_⟩:=o.funs.mem w
  exact i b j d a
 ·have u:=I.base
  rw [l] at u
  exact u.mono (fun _ z=>z) (by simp)
theorem Ce {ch:List Addr}(I:Inv { X with ex:=ch } a1r σ H s)(h:X.ex=[])(j:∀ b∈ch,X.s₀.heap.get? b=none):Inv X a1r σ H s:=by
 have d:∀ b o,X.s₀.heap.get? b=some o->b∉ch:=fun b o a z=>by rw [j b z] at a;cases a
 have o:=I.ok
 have u:=I.base
 refine ⟨⟨o.mod,o.kind,o.glob,o.blt,o.above,o.inj,o.has,o.cab,o.hd,o.frames,o.stk,(by rw [h];intro b z;cases z),o.bs,o.bsz,(by rw [h];intro b _ _ z;cases z),(by rw [h];intro b z;cases z),o.funs,o.frf⟩,I.os,I.bare,?_,I.loc,I.cell,I.free,I.freeC,I.pin,I.hok,I.len⟩
 exact ⟨fun b c a n i _=>u.keep b c a n i (d b c a),fun b c a n i _=>u.slot b c a n i (d b c a),fun b c a n _=>u.free b c a n (d b c a),fun b c a _=>u.there b c a (d b c a),u.tups,u.frzs,u.tbls⟩
noncomputable def l7 (e:Addr)(T:Option (Addr×Value)):List Addr:=e::(match T with|none=>[]|some p=>[p.1])
theorem mem_ch {b:Addr}:b∈l7 e T↔b=e\/∃ p,T=some p/\b=p.1:=by
 unfold l7
 cases T with
 | none=>simp
 | some p=>simp
theorem Ex.kept (h:X.ex=[])(I:Inv X a1r σ H s)(x:Ex X a1r H s e cls dc T){h':Ua}(k:XKept (cX X.stack) e T s.heap h'):Inv X a1r σ H { s with heap:=h' }:=by
 have r:∀ b∈l7 e T,X.s₀.heap.get? b=none:=fun b a=>by
  rcases mem_ch.mp a with rfl|⟨p,d,rfl⟩
  ·exact x.lo.1
  ·exact x.lo.2 p d
 have G:∀ b∈l7 e T,∃ o l,s.heap.get? b=some o/\o.data=.fields l:=fun b a=>by
  rcases mem_ch.mp a with rfl|⟨p,d,rfl⟩
  ·obtain ⟨o,l,j,_,_,E,_,_⟩:=x.rc.ob
   exact ⟨o,l,j,E⟩
  ·obtain ⟨_,O,Q,j,B,_⟩:=x.rc.tb p d
   exact ⟨O,Q,j,B⟩
 have ne:∀ b,b∉l7 e T->b≠e/\∀ p,T=some p->b≠p.1:=fun b a=>⟨fun z=>a (mem_ch.mpr (.inl z)),fun p d z=>a (mem_ch.mpr (.inr ⟨p,d,z⟩))⟩
 have i:=Cd I h r G
 have w:=i.step (H':=H) (h':=h') (g':=s.gens) (d':=s.drawn) (t':=s.toks) (ch:=l7 e T) (fun b a=>⟨.inl a,(i.ok.exf b a).1,(i.ok.exf b a).2,fun q u=>?_⟩)
  (fun b o M N c g _=>k.keep b o g (ne b c).1 (ne b c).2 fun z=>(TH.mp (I.stkSub b z)).elim M N)
  (fun b o _ _ c g _=>k.slot b o g (ne b c).1 (ne b c).2) (fun _ _ _ _ n=>n) (fun b o c g=>let ⟨_,z⟩:=k.slot b o g (ne b c).1 (ne b c).2;⟨_,z⟩)
  (fun _ _ g=>g) (fun _ _ _ g=>g) (fun b U g=>⟨#[],by rw [g];simp⟩) (fun m J=>?_) (k.hok I.hok x.fr.1 x.fr.2 I.stkFree) I.bare
 ·exact Ce w h r
 ·rcases mem_ch.mp a with rfl|⟨p,d,rfl⟩
  ·exact (x.pn q u).1
  ·exact (x.pn q u).2 p d
 ·obtain ⟨R,A,y,K,L⟩:=J
  have v:X.env.locals∉l7 e T:=fun z=>(i.ok.exf _ z).1 rfl
  obtain ⟨Y,g⟩:=k.slot _ _ K (ne _ v).1 (ne _ v).2
  exact ⟨_,A,y,g,L⟩
end
theorem K5 {P:Tc}{w:Ts}{K:Sw}{v:Str->Option Value}{base:Ua}{N:List Str}{a:Str}{scope:UN}{f:Addr}{i:Value}{A:Tt}{outer:List Wx}{s₀ s:SF}{H₀ H:Hp}{E:XK}{a1r:List (Addr×Obj)}{σ:L2.St}{e:Addr}{cls:Value}{q:Option Addr}{T:Option (Addr×Value)}
  (I:Inv (d8 (iJ P w) P w K v base N a scope f i A outer s₀ H₀ E) a1r σ H s)(x:Ex (d8 (iJ P w) P w K v base N a scope f i A outer s₀ H₀ E) a1r H s e cls q T)(h:E cls q H) :
  (d8 (iJ P w) P w K v base N a scope f i A outer s₀ H₀ E).xe (.ref e) s:=by
 have d:∀ b o,s₀.heap.get? b=some o->b≠e/\(∀ p,T=some p->b≠p.1)/\b≠s₀.heap.objs.size:=fun b o c=>
  ⟨(fun z=>by rw [z] at c;rw [show s₀.heap.get? e=none from x.lo.1] at c;cases c),(fun p L z=>by rw [z] at c;rw [show s₀.heap.get? p.1=none from x.lo.2 p L] at c;cases c),S9 (SO c)⟩
 have u:cX (envOfC a scope s₀.heap.objs.size f i::outer)=s₀.heap.objs.size::cX outer:=rfl
 show Ti (Tq P w) (A.deeper (envOfC a scope s₀.heap.objs.size f i)) (a0n (envOfC a scope s₀.heap.objs.size f i) (.ref e)) _ _ s
 refine K3 x.hT I.ok.frames I.stack rfl x.rc fun R J Q G k=>?_
 refine ⟨e,H,cls,q,J,rfl,I.os,I.bare,⟨fun b o c n m _=>?_,fun b o c n m _=>?_,fun b o c n _=>I.base.free b o c n (by simp [d8]),fun b o c _=>?_,I.base.tups,I.base.frzs,I.base.tbls⟩,k.hok I.hok x.fr.1 x.fr.2 I.stkFree,Q,x.lo.1,WY (TX I.sz G),x.fr.1,I.hok.fresh G,h⟩
 ·obtain ⟨j,l,y⟩:=d b o c
  refine k.keep b o (I.base.keep b o c n m (by simp [d8])) j l ?_
  rw [u]
  intro z
  rcases TH.mp z with z|z
  ·exact y z
  ·exact m z
 ·obtain ⟨j,l,y⟩:=d b o c
  obtain ⟨O,g⟩:=I.base.slot b o c n m (by simp [d8])
  obtain ⟨B,r⟩:=k.slot b _ g j l
  exact ⟨B,r⟩
 ·obtain ⟨j,l,y⟩:=d b o c
  obtain ⟨M,g⟩:=I.base.there b o c (by simp [d8])
  obtain ⟨O,r⟩:=k.slot b M g j l
  exact ⟨_,r⟩
end L3
namespace L3
open PySem L2
noncomputable abbrev Xn:=Str×List (Str×D)
noncomputable abbrev MR:=aJ->Hm->Option (Xn×aJ×Hm)
noncomputable abbrev RF:=List D->Hm->Option (Xn×Hm)
noncomputable def K6 (K:Sw)(cls:Value)(x:Str):Prop:=Uz K TQ x=some (some cls)
noncomputable def sS (K:Sw)(π:Nat->Addr)(n:Nat)(H:Hp)(cls:Value)(a:Option Addr)(x:Xn):Prop:=
 K6 K cls x.1/\(x.2=[]/\a=none\/∃ (c:Addr)(d:Obj)(vs:List (Str×V)),a=some c/\H c=some (.frz d (.xd vs))/\vs.map (·.1)=x.2.map (·.1)/\IsDs K π n H (vs.map (·.2)) (x.2.map (·.2)))
noncomputable def Wish (X:Cx)(a1r:List (Addr×Obj))(π:Nat->Addr)(n:Nat)(H:Hp)(x:Xn)(j:aJ)(a:Hm):Prop:=
 ∀ c h d i e cls l T,Ext π n H c a.length d->Rp X.K c d a->En X.K c a.length d h j->Inv X a1r h d i->Ex X a1r d i e cls l T->sS X.K c a.length d cls l x->X.xe (.ref e) i
theorem Wish.after {X:Cx}{a1r:List (Addr×Obj)}{π d:Nat->Addr}{n o:Nat}{H m:Hp}{x:Xn}{i:aJ}{c:Hm}(h:Wish X a1r π n H x i c)(e:Ext π n H d o m):Wish X a1r d o m x i c:=
 fun j l p s a cls q T r=>h j l p s a cls q T (e.trans r)
structure QRE (X:Cx)(e:Expr)(r:MR):Prop where
 h:∀ a1r s σ H π ρ μ x ρ' μ',Inv X a1r σ H s->Rp X.K π H μ->En X.K π μ.length H σ ρ->r ρ μ=some (x,ρ',μ')->Wish X a1r π μ.length H x ρ' μ'->Ti (Tq X.prog X.w) X.A (eval e X.env) (fun _ _=>False) X.xe s
structure QR (X:Cx)(st:Stmt)(r:MR):Prop where
 h:∀ a1r s σ H π ρ μ x ρ' μ',Inv X a1r σ H s->Rp X.K π H μ->En X.K π μ.length H σ ρ->r ρ μ=some (x,ρ',μ')->Wish X a1r π μ.length H x ρ' μ'->Ti (Tq X.prog X.w) X.A (exec st X.env) (fun _ _=>False) X.xe s
structure QRB (X:Cx)(st:List Stmt)(r:MR):Prop where
 h:∀ a1r s σ H π ρ μ x ρ' μ',Inv X a1r σ H s->Rp X.K π H μ->En X.K π μ.length H σ ρ->r ρ μ=some (x,ρ',μ')->Wish X a1r π μ.length H x ρ' μ'->Ti (Tq X.prog X.w) X.A (execs st X.env) (fun _ _=>False) X.xe s
noncomputable def bG:MR:=fun _ _=>none
theorem iK {X:Cx}{st:Stmt}:QR X st bG:=⟨fun _ _ _ _ _ _ _ _ _ _ _ _ _ h=>by cases h⟩
theorem wQ {X:Cx}{e:Expr}:QRE X e bG:=⟨fun _ _ _ _ _ _ _ _ _ _ _ _ _ h=>by cases h⟩
theorem K7 {X:Cx}{st:List Stmt}:QRB X st bG:=⟨fun _ _ _ _ _ _ _ _ _ _ _ _ _ h=>by cases h⟩
section
variable {X:Cx}{e:Expr}{st:Stmt}{rest a b:List Stmt}{r ra rb:MR}{m:MS}{pos:UA}
theorem K8 (j:QRE X e r)(h:d4 e=true):QR X (.Expr e pos) r:=
 ⟨fun c s q H o p n x i d I R E l w=>a1h (aX (j.h c s q H o p n x i d I R E l w) fun _ _ z=>z.elim) I.quiet (lY h)⟩
theorem K9 (i:QRE X e r):QR X (.Return (some e) pos) r:=
 ⟨fun c s p H n o l x h d I R E j w=>a0j (aX (i.h c s p H n o l x h d I R E j w) fun _ _ z=>z.elim)⟩
theorem La {y:Str}{c:UA}(l:QRE X e r)(h:d4 e=true):QR X (.Assign [.Name y c] e pos) r:=
 ⟨fun d s u H p q o x j i I R E n w=>a0k (aX (l.h d s u H p q o x j i I R E n w) fun _ _ z=>z.elim) (lY h)⟩
noncomputable def bO (m:MS)(ra rb:MR):MR:=fun d c=>match ra d c with
 | some p=>some p
 | none=>match m d c with
  | some (.nx,ρ1,μ1)=>rb ρ1 μ1
  | _=>none
theorem Lb (T:QS X.nox st m)(O:QR X st ra)(Q:QRB X rest rb):QRB X (st::rest) (bO m ra rb):=by
 refine ⟨fun i s L H J K G x v o I R E n w=>XY ?_⟩
 unfold bO at n
 split at n
 ·rename_i p U
  cases n
  exact aX (O.h i s L H J K G x v o I R E U w) fun _ _ z=>z.elim
 ·split at n
  ·rename_i j d N
   have k:=T.h i s L H { nx:=fun h l=>∃ c,Ext J G.length H c d.length l/\Rp X.K c l d/\En X.K c d.length l h j,rt:=fun _ _=>False } (I.wish _)
    ⟨J,K,G,.nx,j,d,R,E,N,fun c h l B A y=>⟨c,B,A,y⟩⟩
   refine TK k (fun f Y q=>?_) fun _ _ z=>Tx z
   cases f with
   | next=>
    obtain ⟨h,l,M,c,B,A,y⟩:=q
    exact Q.h i Y h l c j d x v o M.unwish A y n (w.after B)
   | ret u=>obtain ⟨_,_,_,_,_,q⟩:=q;exact q.elim
   | brk=>obtain ⟨_,_,_,q⟩:=q;exact q.elim
   | cont=>obtain ⟨_,_,_,q⟩:=q;exact q.elim
  ·cases n
theorem Lc:QRB X [] bG:=K7
noncomputable def eE (t:MT)(ra rb:MR):MR:=fun c d=>(t c d).bind fun p=>if p.1=true then ra c p.2 else rb c p.2
theorem Ld {c:Expr}{t:MT}(hc:QT X.nox c t)(N:QRB X a ra)(O:QRB X b rb):QR X (.If c a b pos) (eE t ra rb):=by
 refine ⟨fun j s B H L A K x u p I R E l w=>wpAny_If ?_⟩
 obtain ⟨⟨d,i⟩,M,l⟩:=Su.mp l
 have k:=hc.h j s B H (fun y n=>y=d/\∃ h,Ext L K.length H h i.length n/\Rp X.K h n i) (I.wish _) ⟨L,A,K,d,i,R,E,M,fun h n o v=>⟨rfl,h,o,v⟩⟩
 refine TK k (fun y J q=>?_) fun _ _ z=>Tx z
 obtain ⟨n,G,rfl,h,o,v⟩:=q
 dsimp only at l
 cases y with
 | true=>
  rw [if_pos rfl] at l
  exact N.h j J B n h A i x u p G.unwish v (E.mono o) l (w.after o)
 | false=>
  rw [if_neg (by decide)] at l
  exact O.h j J B n h A i x u p G.unwish v (E.mono o) l (w.after o)
end
noncomputable def nQ (K:Sw)(n:Nat)(r:RF):Sp:=fun vs H _ E=>vs.length=n/\∃ π ds e x a,Rp K π H e/\IsDs K π e.length H vs ds/\r ds e=some (x,a) /\
 ∀ c d cls h,Ext π e.length H c a.length d->Rp K c d a->sS K c a.length d cls h x->E cls h d
noncomputable def cP (r:RF)(c:MA):MR:=fun a d=>(c a d).bind fun p=>(r p.1 p.2).map fun q=>(q.1,a,q.2)
section
variable {X:Cx}{k n:Nat}{f:Addr}{fd:Ul}{ps:List Str}{x:Str}{p pos:UA}{e:Expr}{es:List Expr}{ms:MA}{r:RF}
theorem Le (hex:X.ex=[])(F:FnOk X.prog X.w X.K X.mg X.base (iJ X.prog X.w) k f fd ps (nQ X.K n r))(hr:Room k X.A)(hg:Gl X x)(hm:X.mg x=some (.ref f))(hk:T6 X.K (.ref f)=true)(hb:Binds X.K fd ps [])(Y:QA X.nox (e::es) ms n)
  (Z:(x == ("__debug__":Str))=false):QRE X (.Call (.Name x p) (e::es) [] pos) (cP r ms):=by
 refine ⟨fun U s σ H π ρ μ y ρ' μ' I R E h w=>?_⟩
 obtain ⟨⟨ds,c⟩,h1,h⟩:=Su.mp h
 obtain ⟨⟨y',j⟩,h2,h⟩:=SA.mp h
 cases h
 have hst:=Y.s
 have i:=hst
 rw [Tz,Sy] at i
 refine Uy (iT I hg hm ?_ Z)
 have k1:=Y.h pos U s σ H (fun A l=>∃ a,Ext π μ.length H a c.length l/\Rp X.K a l c/\IsDs X.K a c.length l A ds) (I.wish _) ⟨π,ρ,μ,ds,c,R,E,h1,fun a A l L Q M=>⟨a,L,Q,M⟩⟩
 refine Wj (h₀:=X.base) I.ok.mod.kin hk (TK k1 (fun N s1 ⟨A,l,o,rv,a,L,Q,M⟩=>⟨o.unwish.kIn,?_⟩) fun _ _ z=>Tx z) (eD i.1) (iY i.2)
 have o:=o.unwish
 have hn:A.length=n:=by
  rw [M.length]
  exact Y.l ρ μ ds c h1
 have G:nQ X.K n r A l (fun _ _=>False) (fun cls J m=>∃ d,Ext a c.length l d j.length m/\Rp X.K d m j/\sS X.K d j.length m cls J y'):=
  ⟨hn,a,ds,c,y',j,Q,M,h2,fun d m cls J K O ix=>⟨d,K,O,ix⟩⟩
 have hl:N.length=ps.length:=by rw [<- rv.length];exact F.len _ _ _ _ G
 refine Xz (Wu (F.run X.A X.stack s1 l ⟨N,[]⟩ N A _ _ hr o.env0 (by have:=hb s1 N o.kIn (by simpa using hl);rwa [Um] at this) rv G) fun rr s' B=>?_)
 cases rr with
 | error v=>
  obtain ⟨ee,m,cls,J,T,rfl,I',x',d,K,O,ix⟩:=K4 hex o B
  exact w d σ m s' ee cls J (some (T,.none)) (L.trans K) O ((E.mono L).mono K) I' x' ix
 | ok fl=>
  cases fl with
  | ret u=>obtain ⟨_,_,_,_,_,_,_,q⟩:=B;exact q
  | next=>exact Tx B
  | brk=>exact Tx B
  | cont=>exact Tx B
end
noncomputable def wR (n:Nat)(r:MR):RF:=fun ds a=>(r (pF n ds) a).map fun p=>(p.1,p.2.2)
theorem Lf {P:Tc}{w:Ts}{K:Sw}{L:Str->Option Value}{base:Ua}{x a:Str}{st:Stmt}{f:Addr}{J:Ul}{N ps:List Str}{k:Nat}{body:List Stmt}{r:MR}(F:Fun K x a st f J)(S:FnScope N ps (bL st))(q:ps.length<=N.length)(n:cJ st=body)
  (d:∀ (c:Value)(A:Tt)(outer:List Wx)(s:SF)(H:Hp)(E:XK),Room k (A.deeper (VN a (bL st) s.heap.objs.size f c))->
   QRB (d8 (iJ P w) P w K L base N a (bL st) f c A outer s H E) body r):FnOk P w K L base (iJ P w) (k+1) f J ps (nQ K ps.length (wR N.length r)):=by
 obtain ⟨oc,od,kV,Y,pm,an,c,ct,osl,rfl,lk,o⟩:=F.ex
 refine Av (CX:=iJ P w) (sp:=nQ K ps.length (wR N.length r)) lk o S (fun M H Q E h=>h.1) fun A outer s H M Q E hr h=>⟨fun _ j l=>j=L2.start N M/\l=H,?_,rfl,rfl⟩
 obtain ⟨hv,π,ds,μ,y,μ',R,i,p,kc⟩:=h
 obtain ⟨⟨y',B,u⟩,h1,p⟩:=SA.mp p
 cases p
 rintro m s1 σ G D I ⟨rfl,rfl⟩
 rw [n]
 refine aX ((d c A outer s G E hr).h m s1 _ G π _ μ y' B u I R (vY i (by rw [hv];exact q)) h1 fun v j l s' e cls X T Z U E' O x' ix=>?_) fun _ _ z=>Tx z
 exact K5 O x' (kc v l cls X Z U ix)
end L3
namespace L3
open PySem L2
noncomputable abbrev wU:List Value:=[.type "ValueError",.type "Exception",.type "BaseException",.type "object"]
structure ClsK (K:Sw)(x:Str)(C:Addr):Prop where
 exc:WV K C wU "ValueError.__new__" = true
 nm:Uz K TQ x=some (some (.ref C))
theorem Lg {K:Sw}{h:Ua}{C:Addr}{i:List Value}{a:String}(X:K.In h)(q:WV K C i a=true) :
  ∃ j N v w bs hd x d s c u l m o p r y,h.get? C=some (Xd v w C N bs j hd x d s c u l m o p r a)/\h.Ns N y/\y "__init__" = none/\OwnTail h i j:=by
 unfold WV at q
 split at q
 ·rename_i u A T G
  split at q
  ·rename_i U j l m o p n r E H
   rw [Sy,Sy,Sy,Sy,Sy,beq_iff_eq,beq_iff_eq,beq_iff_eq,VM] at q
   obtain ⟨⟨⟨⟨⟨L,M⟩,O⟩,Q⟩,z⟩,R⟩:=q
   subst L M
   cases A with
   | mk v bs I J w hd x d s c B=>
    cases E
    cases O
    have e:T = #[l,m,o,p,some (.builtin n),r]:=ZG.mp H
    subst e
    exact ⟨j,J,v,w,bs,hd,x,d,s,c,u,l,m,o,p,r,_,X _ _ G,.of_isNs (PySem.W.isNs_of_in X z),PySem.W.nsMap_none_of_in X z R,PySem.W.tail_of_in X Q⟩
  ·cases q
 ·cases q
noncomputable def l8 (x:Str)(c:MA):MR:=fun a d=>(c a d).map fun p=>((x,[]),a,p.2)
theorem Lh {P:Tc}{w:Ts}{H:Hp}{h:Ua}(ok:HOk P w H h){a:Addr}(c:h.get? a=none):H a=none:=by
 cases q:H a with
 | none=>rfl
 | some u=>
  obtain ⟨o,g⟩:=K1 (ok a u q)
  rw [c] at g;cases g
theorem Li {X:Cx}{a1r:List (Addr×Obj)}{σ:L2.St}{H:Hp}{s:SF}(I:Inv X a1r σ H s)(c:X.ex=[]){a:Addr}(d:s.heap.get? a=none):X.s₀.heap.get? a=none:=by
 cases q:X.s₀.heap.get? a with
 | none=>rfl
 | some o=>
  obtain ⟨e,g⟩:=I.base.there a o q (by rw [c];simp)
  rw [d] at g;cases g
theorem Lj {X:Cx}{x:Str}{C:Addr}{e:Expr}{es:List Expr}{ms:MA}{n:Nat}{np a pos:UA}(c:ClsK X.K x C)(M:X.ex=[])(hc:X.calm=true)(hg:Gl X x)(K:QA X.nox (e::es) ms n)(hn:n<=30)
  (L:(x == ("__debug__":Str))=false):QR X (.Raise (some (.Call (.Name x np) (e::es) [] a)) none pos) (l8 x ms):=by
 refine ⟨fun r s σ H π ρ Z y ρ' μ' I R E h w=>?_⟩
 obtain ⟨⟨ds,m⟩,h1,h⟩:=SA.mp h
 cases h
 have Q:=K.s
 have i:=Q
 rw [Tz,Sy] at i
 have he:Tu (e::es) X.env=_:=eD i.1
 have O:(Vg a (Tu es X.env)).any (·.1)=false:=iY i.2
 obtain ⟨bm,N,nm,qn,bs,hd,sn,U,ab,J,dd,k0,T,k2,k3,k5,mN,o1,o2,o3,o4⟩:=Lg I.mod.kin c.exc
 refine wpAny_Raise_call_subT (C:=C) (nm:=nm) (q:=qn) (N:=N) (bs:=bs) (bm:=bm) (hdct:=hd) (sn:=sn) (sub:=U) (ab:=ab) (col:=J) (dd:=dd) (k0:=k0) (k1:=T) (k2:=k2) (k3:=k3) (k5:=k5) XD (mN:=mN)
  (o4.hasType XD.hasBase) (I.ok.hd hc) (by rw [he];show (false||(Vg a (Tu es X.env)).any (·.1))=false;rw [O];rfl) o3 (iT I hg (Vu I.mod.kin I.mod.glob c.nm) ⟨rfl,?_⟩ L)
 have T:=K.h a r s σ H (fun Y o=>∃ d,Ext π Z.length H d m.length o/\Rp X.K d o m/\Y.length=n) (I.wish _) ⟨π,ρ,Z,ds,m,R,E,h1,fun d Y o B G i1=>⟨d,B,G,by rw [i1.length];exact K.l ρ Z ds m h1⟩⟩
 have v:Ti (Tq X.prog X.w) X.A (spliced (Vg a (Tu (e::es) X.env))) _ _ s:=T
 rw [he] at v ⊢
 refine YE (TK v (fun us s1 ⟨Y,o,j,rv,d,B,G,hl⟩=>?_) fun _ _ z=>Tx z)
 have j:=j.unwish
 have A:us.length<=SK:=by
  have:=rv.length
  rw [<- this,hl,S4]
  omega
 refine ⟨rfl,A,j.bk _ _ o1,o2.keeps j.bk,o4.keeps j.bk,fun h' ea u=>?_⟩
 obtain ⟨t,t1,_,_⟩:=u.there
 have I2:Inv X r σ o { s1 with heap:=h' }:=j.kept (t':=s1.toks) u.keeps
 refine w d σ o _ ea (.ref C) none none B G (E.mono B) I2 ⟨⟨⟨_,_,t1,rfl,rfl,rfl,rfl,rfl⟩,fun p l=>nomatch l⟩,(fun p l=>nomatch l),⟨Li j M u.new,fun p l=>nomatch l⟩,⟨Lh j.hok u.new,fun p l=>nomatch l⟩,fun q hq=>⟨fun z=>?_,fun p l=>nomatch l⟩⟩ ⟨c.nm,.inl ⟨rfl,rfl⟩⟩
 have:=(j.pin q hq).1
 rw [z,u.new] at this
 cases this
end L3
namespace L3
open PySem L2 PySem.Spec PyProof.Rows
noncomputable def pM (K:Sw)(C:Addr):Option (List Value):=match K.lookup C with
 | some ⟨.type "type",_,.cls cd,sl⟩=>(match cd.mro,sl.toList with
  | .ref C'::bm,[_,_,_,_,some (.builtin n),_]=>if (C' == C&&n == "ValueError.__new__" && !cd.hasDel&&bm.contains (.type "BaseException")&&cd.hasDict)=true then some bm else none
  | _,_=>none)
 | _=>none
theorem pN {K:Sw}{h:Ua}{C:Addr}{bm:List Value}(X:K.In h)(q:pM K C=some bm) :
  (∃ N s u bs v d p a r i j l m o,h.get? C=some (Xd s u C N bs bm true v d p a r i j l m o "ValueError.__new__"))/\bm.contains (.type "BaseException")=true:=by
 unfold pM at q
 split at q
 ·rename_i r E O I
  split at q
  ·rename_i Q w i j l m n o H J
   split at q
   ·rename_i c
    cases q
    rw [Sy,Sy,Sy,Sy,beq_iff_eq,beq_iff_eq,VM] at c
    obtain ⟨⟨⟨⟨x,y⟩,z⟩,A⟩,B⟩:=c
    subst x y
    cases E with
    | mk s bs L M u hd v d p a G=>
     cases H
     cases z
     cases B
     have e:O = #[i,j,l,m,some (.builtin "ValueError.__new__"),o]:=ZG.mp J
     subst e
     exact ⟨⟨M,s,u,bs,v,d,p,a,r,i,j,l,m,o,X _ _ I⟩,A⟩
   ·cases q
  ·cases q
 ·cases q
noncomputable def i6 (K:Sw)(x:Str):Option Addr:=match Uz K TQ x with
 | some (some (.ref C))=>some C
 | _=>none
theorem l9 {K:Sw}{x:Str}{C:Addr}(h:i6 K x=some C):Uz K TQ x=some (some (.ref C)):=by
 unfold i6 at h
 split at h
 ·cases h;assumption
 ·cases h
noncomputable def pO (K:Sw)(x y:Str):Option Bool:=(i6 K x).bind fun B=>(i6 K y).bind fun C=>(pM K B).bind fun b1=>(pM K C).map fun _=>(TL B::b1).contains (.ref C)
section
variable {M:Ye}{A:Tt}{E:Value->SF->Prop}
theorem Lk {s:SF}{B C e:Addr}{nm q G O:Str}{N K:Addr}{bs bm p a:List Value}{hdct i:Bool}{sn H:List Str}{sub m:List Value}{ab o:Bool}{col j:Option Bool}{dd r:Option Addr}{k0 k1 k2 k3 k5 v w x y z:Option Value}{J:Obj}{Q:Bool->SF->Prop}
  (hB:s.heap.get? B=some (Xd nm q B N bs bm hdct sn sub ab col dd k0 k1 k2 k3 k5 "ValueError.__new__")) (hC:s.heap.get? C=some (Xd G O C K p a i H m o j r v w x y z "ValueError.__new__"))
  (L:s.heap.get? e=some J)(l:J.cls=.ref B)(c:a.contains (.type "BaseException")=true) (I:Q ((TL B::bm).contains (.ref C)) s):Ti M A (excMatches (.ref e) (.ref C)) Q E s:=by
 obtain ⟨h,g,d,t,R⟩:=s
 have u:(TL C::a).contains (.type "BaseException")=true:=by rw [Zb,c,a0x]
 have f:=tc_notTuple
 have n:∃ b,(TL B::bm).contains (.ref C)=b:=⟨_,rfl⟩
 obtain ⟨b,n⟩:=n
 rw [n] at I
 unfold excMatches
 repeat (first|(with_reducible refine WC L ?_;rw [l])|with_reducible refine WC hC ?_|(with_reducible refine Xm hC ?_;rw [u])|(with_reducible refine Xm hB ?_;rw [n])|wp_step)
 cases b<;>(wp_walk;exact I)
end
noncomputable def Ll (o:Obj):Prop:=∃ vs,o.data=.fields vs/\vs[2]? = some Uk
noncomputable def mB (e:Addr)(H:Hp):Prop:=∃ o u,H e=some (.frz o u)/\Ll o
structure QBh (X:Cx)(e:Addr)(st:List Stmt)(m:MS):Prop where
 h:∀ (a1r:List (Addr×Obj))(s:SF)(σ:L2.St)(H:Hp)(D:Ends),mB e H->Inv X a1r σ H s->cU X.K m D σ H->Ti (Tq X.prog X.w) X.A (execs st X.env) (SP X a1r D) X.xe s
theorem QB.soft {X:Cx}{e:Addr}{st:List Stmt}{m:MS}(h:QB X st m):QBh X e st m:=⟨fun a1r s σ H D _ I t=>h.h a1r s σ H D I t⟩
noncomputable abbrev _root_.L2.Cx.hnd (X:Cx)(e:Value):Cx:={ X with A:=X.A.mark (some e),calm:=false,xe:=fun _ _=>False }
section
variable {X:Cx}{a1r:List (Addr×Obj)}{σ:L2.St}{H H':Hp}{s s':SF}{e:Addr}{cls:Value}{dc:Option Addr}{T:Option (Addr×Value)}
theorem Cf (I:Inv X a1r σ H s)(v:Value):Inv (X.hnd v) a1r σ H s:=
 ⟨⟨I.ok.mod,I.ok.kind,I.ok.glob,I.ok.blt,I.ok.above,I.ok.inj,I.ok.has,I.ok.cab,(fun z=>nomatch z),I.ok.frames,I.ok.stk,I.ok.exf,I.ok.bs,I.ok.bsz,I.ok.noex,I.ok.exfs,I.ok.funs,I.ok.frf⟩,I.os,I.bare,I.base,I.loc,I.cell,I.free,I.freeC,I.pin,I.hok,I.len⟩
theorem sT (ok:X.Ok){v:Value}(I:Inv (X.hnd v) a1r σ H s):Inv X a1r σ H s:=⟨ok,I.os,I.bare,I.base,I.loc,I.cell,I.free,I.freeC,I.pin,I.hok,I.len⟩
theorem Lm {M:Ye}{E:Value->SF->Prop}{Q:Unit->SF->Prop}{L:Addr}(j:X.ex=[])(c:X.stack=X.env::X.outer)(B:X.env.frame=some L)(I:Inv X a1r σ H s)(x:Ex X a1r H s e cls dc T)
  (k:∀ s' w,Inv X a1r σ H s'->Ex X a1r H s' e cls dc (some (w,.none))->Q () s'):Ti M X.A (X2 (.ref e) X.env) (fun _ h=>Ti M X.A (X0 (.ref e) none) Q E h) E s:=by
 refine Cb x.hT (by rw [<- c];exact I.ok.frames) (by rw [<- c];exact I.stack) B x.rc fun z y N i u=>?_
 refine wO (s:={ s with heap:=z }) N fun n O _ v=>?_
 have G:XKept (cX X.stack) e T s.heap n:=by
  rw [c]
  refine ⟨fun b o d l m J=>?_,fun b o d l m=>?_⟩
  ·rw [v b (S9 (S6 (SO d) i))]
   exact u.keep b o d l m J
  ·obtain ⟨K,A⟩:=u.slot b o d l m
   refine ⟨K,?_⟩
   rw [v b (S9 (S6 (SO d) i))]
   exact A
 refine k { s with heap:=n } y (x.kept j I G) ⟨O,(fun p a=>by cases a;rfl),⟨x.lo.1,fun p a=>?_⟩,⟨x.fr.1,fun p a=>?_⟩,fun q r=>⟨(x.pn q r).1,fun p a=>?_⟩⟩
 ·cases a
  exact WY (TX I.sz i)
 ·cases a
  exact I.hok.fresh i
 ·cases a
  exact S9 (S6 (SO (I.pin q r).1) i)
theorem Ln {M:Ye}{A:Tt}{E:Value->SF->Prop}{Q:Unit->SF->Prop}{T:Addr}(c:X.ex=[])(I:Inv X a1r σ H s)(x:Ex X a1r H s e cls dc (some (T,.none)))
  (k:∀ s',Inv X a1r σ H s'->Ex X a1r H s' e cls dc (some (T,.none))->Q () s'):Ti M A (X0 (.ref e) none) Q E s:=by
 refine wO x.rc fun h i _ d=>k { s with heap:=h } (x.kept c I ⟨fun b o a _ n _=>?_,fun b o a _ n=>⟨o.slots,?_⟩⟩) ⟨i,x.hT,x.lo,x.fr,x.pn⟩
 ·rw [d b (n _ rfl)];exact a
 ·rw [d b (n _ rfl)];exact a
theorem Ex.cell {π:Nat->Addr}{d:Hm}{y:Xn}(j:X.ex=[])(I:Inv X a1r σ H s)(x:Ex X a1r H s e cls dc T)(R:Rp X.K π H d)(B:sS X.K π d.length H cls dc y) :
  ∃ i H',Ext π d.length H i (d++[C.exc y.1 (y.2.map (·.1)) (y.2.map (·.2))]).length H'/\Rp X.K i H' (d++[C.exc y.1 (y.2.map (·.1)) (y.2.map (·.2))])/\Inv X a1r σ H' s/\i d.length=e/\mB e H':=by
 obtain ⟨o,v,q,K,w,r,g5,L⟩:=x.rc.ob
 have hc:rZ X.K π d.length H e (C.exc y.1 (y.2.map (·.1)) (y.2.map (·.2))) (.frz o (.ext fun _=>True)):=by
  refine ⟨o,_,rfl,by rw [K];exact B.1,⟨v,r⟩,?_⟩
  rcases B.2 with ⟨h,U⟩|⟨G,od,us,M,N,O,Q⟩
  ·rw [h];exact .inl ⟨rfl,rfl,w.trans U⟩
  ·exact .inr ⟨G,od,us,by rw [w];exact M,N,O,Q⟩
 obtain ⟨J,E,p1⟩:=R.alloc x.fr.1 hc
 refine ⟨_,_,J,E,?_,p1,o,_,dX,v,r,L⟩
 have l:∀ b u,H b=some u->b≠e:=fun b u h z=>by rw [z,x.fr.1] at h;cases h
 have A:∀ b∈[e],X.s₀.heap.get? b=none:=fun b a=>by cases Vf.mp a;exact x.lo.1
 have m:=Cd I j A fun b a=>by cases Vf.mp a;exact ⟨o,v,q,r⟩
 have k:=m.step (H':=bA H e (.frz o (.ext fun _=>True))) (h':=s.heap) (g':=s.gens) (d':=s.drawn) (t':=s.toks) (ch:=[e]) (fun b a=>?_) (fun b o _ _ _ g _=>g) (fun b o _ _ _ g _=>⟨o.slots,g⟩)
  (fun b o Z g n=>?_) (fun b o _ g=>⟨o,g⟩) (fun b xs h=>by rw [bX (l _ _ h)];exact h) (fun b o u h=>by rw [bX (l _ _ h)];exact h) (fun b ps h=>⟨#[],by rw [bX (l _ _ h),h];simp⟩) (fun _ h=>h) ?_ I.bare
 ·exact Ce k j A
 ·refine ⟨.inl a,(m.ok.exf b a).1,(m.ok.exf b a).2,fun p Y=>?_⟩
  cases Vf.mp a
  exact (x.pn p Y).1
 ·rw [bX (fun z=>Z (by rw [z];exact Vf.mpr rfl))]
  exact n
 ·intro b u h
  by_cases a:b=e
  ·subst a
   rw [dX] at h
   cases h
   exact ⟨q,trivial,⟨o,q⟩,fun _ _ _ _=>trivial⟩
  ·rw [bX a] at h
   exact (I.hok b u h).stay (fun _ _ _ g=>g) (fun c g=>by rw [bX (l _ _ g)];exact g) (fun c xs g=>by rw [bX (l _ _ g)];exact g)
theorem En.unset {K:Sw}{π:Nat->Addr}{n:Nat}{H:Hp}{σ:L2.St}{c:aJ}(E:En K π n H σ c)(i:Nat):En K π n H (σ.set i none) (c.set i none):=by
 refine ⟨by rw [T4,T4];exact E.len,fun j d e=>?_⟩
 rw [ZF] at e ⊢
 by_cases a:i=j
 ·rw [if_pos a] at e
  split at e<;>cases e
 ·rw [if_neg a] at e ⊢
  exact E.get j d e
theorem sU {M:Ye}{A:Tt}{E:Value->SF->Prop}{Q:Unit->SF->Prop}{i:Nat}{y:Str}{pos:UA}(I:Inv X a1r σ H s)(Y:X.N.Nodup)(N:X.N[i]? = some y)(O:X.env.scope.names.lookup y=some .local)
  (h:∀ s',Inv X a1r (σ.set i none) H s'->Q () s'):Ti M A (do bindName X.env y .none;ZQ X.env y pos) Q E s:=by
 have Z:X.env.kindOf y=some .local:=O
 have G:(X.env.scope.kind == .class||(X.env.scope.kind == .module&&X.env.locals != X.env.globals))=false:=by rw [I.ok.kind];rfl
 refine S0 (wpAny_bindName (rK (v:=.non) I Y N (.inl O) rfl (fun s1 a _=>?_) (.inr O)))
 unfold ZQ
 refine wpAny_onRaise ?_
 unfold unbindName
 refine S0 (wpAny_point (S0 ?_))
 unfold deleteName
 simp only [Z,G]
 rw [if_neg (by decide)]
 obtain ⟨m,hn,hl⟩:=id a.loc
 have r:i<(σ.set i (some V.non)).length:=by rw [a.len];exact (SH.mp N).1
 have my:(m y).isSome=true:=by
  obtain ⟨u,_,q⟩:=hl i y .non N (by rw [S7 (by simpa using r)]) (.inl O)
  rcases q with ⟨_,q⟩|⟨q,_⟩
  ·rw [q];rfl
  ·rw [Z] at q;rcases q with q|q<;>cases q
 refine S0 (wpAny_nsDel_keeps hn fun h2 v U x=>?_)
 simp only [my,UK,SI,if_false]
 refine TV (wpAny_point (h _ ?_))
 have cne:=a.cne
 obtain ⟨oL,_,_,hoL,_⟩:=id hn
 refine ⟨I.ok,a.os,a.bare,⟨fun b o e n R K=>?_,fun b o e n R K=>?_,a.base.free,fun b o e K=>?_,a.base.tups,a.base.frzs,a.base.tbls⟩,⟨_,U,fun j z v' B L e3=>?_⟩,fun y c e=>?_,a.free,a.freeC,fun p hp=>?_,fun b ob e=>?_,by rw [T4];exact I.len⟩
 ·exact (x.2 b (S9 (S6 (SO e) I.ok.above))).trans (a.base.keep b o e n R K)
 ·obtain ⟨sl,B⟩:=a.base.slot b o e n R K
  exact ⟨sl,(x.2 b (S9 (S6 (SO e) I.ok.above))).trans B⟩
 ·obtain ⟨o',B⟩:=a.base.there b o e K
  exact ⟨o',(x.2 b (S9 (S6 (SO e) I.ok.above))).trans B⟩
 ·have J:j≠i:=fun J=>by
   subst J
   rw [S7 (by simpa using r)] at L
   cases L
  rw [TR (Ux J)] at L
  obtain ⟨u',r',q⟩:=hl j z v' B (by rw [TR (Ux J)];exact L) e3
  refine ⟨u',r',?_⟩
  rcases q with ⟨k,e⟩|⟨k,c,e,w⟩
  ·refine .inl ⟨k,?_⟩
   have:z≠y:=fun e=>J (uS Y B (e ▸ N))
   simp [this,e]
  ·exact .inr ⟨k,c,e,w.sameBut x (cne z c e)⟩
 ·obtain ⟨w',z⟩:=a.cell y c e
  exact ⟨w',z.sameBut x (cne y c e)⟩
 ·obtain ⟨e,n,ne,nf,d⟩:=a.pin p hp
  exact ⟨(x.2 p.1 ne).trans e,n,ne,nf,d⟩
 ·refine (a.hok b ob e).stay (fun c w' hc q=>(x.2 c ?_).trans q) (fun _ q=>q) fun _ _ q=>q
  intro z
  have l:=a.free
  rw [<- z] at l
  rcases hc with hc|hc
  ·rw [hc,e] at l;cases l
  ·rw [l] at hc;cases hc
end
noncomputable def jU (m:MS)(r:MR)(sup:Str->Option Bool)(i:Nat)(d:MS):MS:=fun c a=>match r c a with
 | some p=>if sup p.1.1=some true then (d (p.2.1.set i (some (.loc p.2.2.length))) (p.2.2++[C.exc p.1.1 (p.1.2.map (·.1)) (p.1.2.map (·.2))])).map fun q=>(q.1,q.2.1.set i none,q.2.2) else none
 | none=>m c a
theorem Lo {X:Cx}{body hb:List Stmt}{l:Stmt}{c y:Str}{cp hp pos:UA}{L:Addr}{i:Nat}{m mh:MS}{r:MR}{sup:Str->Option Bool}(O:X.ex=[])(hst:X.stack=X.env::X.outer)(hf:X.env.frame=some L)(hN:X.N.Nodup)
  (hi:X.N[i]? = some y)(hy:X.env.scope.names.lookup y=some .local)(hg:Gl X c)(hdb:(c == ("__debug__":Str))=false) (hs:∀ x b,sup x=some b->pO X.K x c=some b)
  (hm:QB X.nox body m)(hr:∀ E,QRB (X.wish E) body r)(hh:∀ e,QBh (X.hnd (.ref e)) e (l::hb) mh) :
  QS X (.Try body [.ExceptHandler (some (.Name c cp)) (some y) (l::hb) hp] [] [] pos) (jU m r sup i mh):=by
 refine ⟨fun j s A H D I t=>wpAny_Try_except ?_⟩
 obtain ⟨π,ρ,μ,fl,ρ',μ',R,En0,o,n⟩:=t
 unfold jU at o
 split at o
 ·rename_i p hp'
  obtain ⟨x,ρ1,Y⟩:=p
  dsimp only at o
  split at o
  ·rename_i w
   obtain ⟨⟨fl2,ρ2,μ2⟩,hq,o⟩:=SA.mp o
   cases o
   refine aX ((hr (fun e s₁=>Ti (Tq X.prog X.w) X.A (X2 e X.env) (fun _ s₂=>Ti (Tq X.prog X.w) X.A (X0 e none) (fun _ s₃=>Ti (Tq X.prog X.w) X.A (handleBy e X.env [.ExceptHandler (some (.Name c cp)) (some y) (l::hb) hp]) (SP X j D) X.xe s₃) X.xe s₂) X.xe s₁)).h j s A H π ρ μ x ρ1 Y (I.wish _) R En0 hp' ?_) fun _ _ z=>z.elim
   intro π1 σ1 H1 s1 e cls dc T e1 R1 E1 I1 U ix
   have I1:=I1.unwish
   have U:Ex X j H1 s1 e cls dc T:=⟨U.rc,U.hT,U.lo,U.fr,U.pn⟩
   refine Lm O hst hf I1 U fun s2 T2 I2 x2=>?_
   obtain ⟨B,hB⟩:∃ B,i6 X.K x.1=some B:=by
    have:=hs _ _ w
    unfold pO at this
    obtain ⟨B,hB,_⟩:=Su.mp this
    exact ⟨B,hB⟩
   have a:=hs _ _ w
   unfold pO at a
   rw [hB,S1] at a
   obtain ⟨Ca,hC,a⟩:=Su.mp a
   obtain ⟨b1,hb1,a⟩:=Su.mp a
   obtain ⟨b2,hb2,a⟩:=SA.mp a
   have hcls:cls=.ref B:=by
    have h1:Uz X.K TQ x.1=some (some cls):=ix.1
    rw [l9 hB] at h1
    cases h1;rfl
   subst hcls
   have hmg:X.mg c=some (.ref Ca):=Vu I.mod.kin I.mod.glob (l9 hC)
   have kin:=I2.kIn
   obtain ⟨⟨N1,mL,q1,bs1,sn1,su1,ab1,col1,dd1,a0,a1,a2,a3,a5,o1⟩,_⟩:=pN kin hb1
   obtain ⟨⟨N2,nm2,q2,bs2,sn2,su2,ab2,col2,dd2,c0,c1,c2,c3,c5,o2⟩,ob2⟩:=pN kin hb2
   obtain ⟨oe,vs,g1,g2,_⟩:=x2.rc.ob
   refine wpAny_handleBy_cons (codeAny_handlers_test ?_) (by intro q;cases q)
   refine iT (X:=X.hnd (.ref e)) (Cf I2 (.ref e)) hg hmg ?_ hdb
   refine Lk o1 o2 g1 g2 ob2 ?_
   rw [a]
   dsimp only [if_true]
   refine codeAny_handlers_suite_as ?_
   refine Ln O I2 x2 fun s3 I3 x3=>?_
   obtain ⟨π4,H4,e4,R4,I4,p4,sf⟩:=x3.cell O I3 R1 ix
   refine rK (v:=.ref e) I4 hN hi (.inl hy) rfl (fun s5 I5 _=>?_) (.inr hy)
   have dl:IsD X.K π4 (Y++[C.exc x.1 (x.2.map (·.1)) (x.2.map (·.2))]).length H4 (.ref e) (.loc Y.length):=by
    rw [<- p4]
    exact .loc (by simp)
   have k:=(hh e).h j s5 _ H4 { nx:=fun A H=>D.nx (A.set i none) H,bk:=fun A H=>D.bk (A.set i none) H,ct:=fun A H=>D.ct (A.set i none) H,rt:=D.rt } sf (Cf I5 (.ref e))
    ⟨π4,_,_,fl2,ρ2,μ2,R4,(E1.mono e4).set dl i,hq,?_⟩
   ·refine TK k (fun f s6 q=>?_) fun _ _ z=>Tx z
    cases f with
    | next=>
     obtain ⟨Z,J,K,Q⟩:=q
     exact sU (sT I.ok K) hN hi hy fun s7 M=>⟨_,J,M,Q⟩
    | brk=>
     obtain ⟨Z,J,K,Q⟩:=q
     exact sU (sT I.ok K) hN hi hy fun s7 M=>⟨_,J,M,Q⟩
    | cont=>
     obtain ⟨Z,J,K,Q⟩:=q
     exact sU (sT I.ok K) hN hi hy fun s7 M=>⟨_,J,M,Q⟩
    | ret u=>
     obtain ⟨v6,Z,J,K,r6,Q⟩:=q
     exact sU (sT I.ok K) hN hi hy fun s7 M=>⟨v6,_,J,M,r6,Q⟩
   ·have ee:=e1.trans e4
    cases fl2 with
    | nx=>exact fun h σ' G N R' E'=>n h _ G (ee.trans N) R' (E'.unset i)
    | bk=>exact fun h σ' G N R' E'=>n h _ G (ee.trans N) R' (E'.unset i)
    | ct=>exact fun h σ' G N R' E'=>n h _ G (ee.trans N) R' (E'.unset i)
    | rt d=>exact fun h v G N=>n h v G (ee.trans N)
  ·cases o
 ·refine TK (hm.h j s A H D (I.wish _) ⟨π,ρ,μ,fl,ρ',μ',R,En0,o,n⟩) (fun f s1 q=>?_) fun _ _ z=>Tx z
  cases f with
  | next=>exact Ws (SP.unwish (f:=.next) q)
  | brk=>exact SP.unwish (f:=.brk) q
  | cont=>exact SP.unwish (f:=.cont) q
  | ret u=>exact SP.unwish (f:=.ret u) q
end L3
namespace L3
open PySem L2 PySem.Spec PyProof.Rows
section
variable {prog:Tc}{w:Ts}{A:Tt}{E:Value->SF->Prop}{s:SF}
variable {nm q:Str}{C N fI:Addr}{bs bm bmB:List Value}{hdct:Bool}{sn:List Str}{sub:List Value}{ab:Bool}{col:Option Bool}{dd:Option Addr}{k0 k1 k2 k3 k5:Option Value}{B newId initId:String}{mN:Str->Option Value}{rest:List Value}
end
end L3
namespace L3
open PySem L2 PySem.Spec PyProof.Rows
noncomputable def Lp (K:Sw)(C f:Addr):Bool:=match K.lookup C with
 | some ⟨.type "type",_,.cls cd,sl⟩=>(match cd.mro,sl.toList with
  | .ref C'::bm,[_,_,_,_,some (.builtin n),_]=>C' == C&&n == "ValueError.__new__" && !cd.hasDel&&cd.hasDict&&PySem.W.tailIn K wU bm&&PySem.W.nsOkIn K cd.ns&&Uz K cd.ns "__init__" == some (some (.ref f))
  | _,_=>false)
 | _=>false
noncomputable def Lq (K:Sw)(B:Addr):Bool:=PySem.W.readsIn K B (.type "type")&&(match PySem.W.findCls K (.ref B) (.type "type") "__init__" with|some (.val (.builtin n))=>n == "ValueError.__init__" | _=>false) &&
 Wq K (.ref B) "__getattribute__" == some (some (.builtin "type.__getattribute__"))
structure InitK (K:Sw)(C f B:Addr)(bn at':Str):Prop where
 cls:Lp K C f=true
 base:Lq K B=true
 bnm:Uz K TQ bn=some (some (.ref B))
 set:UJ K (.ref C) "__setattr__" = some (some (.builtin "object.__setattr__"))
 none:UJ K (.ref C) at'=some none
end L3
namespace L3
open PySem L2 PySem.Spec PyProof.Rows
end L3
namespace L3
open PySem L2 PySem.Spec PyProof.Rows
section
variable {prog:Tc}{w:Ts}{A:Tt}{E:Value->SF->Prop}{s:SF}
variable {nm q:Str}{C N x dx:Addr}{bs bm:List Value}{sn:List Str}{sub:List Value}{ab:Bool}{col:Option Bool}{dd:Option Addr}{k0 k1 k2 k3 k5:Option Value}{newId:String}{name:Str}{v:Value}{o:Obj}{vs:Array Value}{mA:Str->Option Value}
theorem Lr {M:Ye}{a:Value}{Q:Unit->SF->Prop}(i:bm.contains (.type "BaseException")=true) (hC:s.heap.get? C=some (Xd nm q C N bs bm true sn sub ab col dd k0 k1 k2 k3 k5 newId))(m:s.heap.get? x=some o)(hc:o.cls=.ref C)(l:Q () s) :
  Ti M A (a0z "BaseException.__getattribute__" ⟨[.ref x,a],[]⟩) Q E s:=by
 have j:builtinKind "BaseException.__getattribute__" = some .slot:=by decide +kernel
 have e:splitId "BaseException.__getattribute__" = some ("BaseException","__getattribute__"):=by decide +kernel
 have c:(TL C::bm).contains (.type "BaseException")=true:=by rw [Zb,i,a0x]
 have n:=PySem.F.args_bexc_ga (.ref x) a
 obtain ⟨h,g,d,t,p⟩:=s
 simp only [a0z,j,e]
 refine S0 ?_
 unfold isInstance
 repeat (first|(with_reducible refine WC m ?_;rw [hc])|(with_reducible refine Xm hC ?_;rw [c])|wp_step)
 exact l
end
end L3
namespace L3
open PySem L2 PySem.Spec PyProof.Rows
noncomputable def mD (K:Sw)(C:Addr):Bool:=(pM K C).isSome&&UJ K (.ref C) "__getattribute__" == some (some (.builtin "BaseException.__getattribute__"))&&UJ K (.ref C) "__getattr__" == some none &&
 (PySem.W.clsIn K C).isSome&&UJ K (.ref C) "__class__" == some (some (.builtin "object.__class__"))&&Wq K (.builtin "object.__class__") "__get__" == some (some (.builtin "getset_descriptor.__get__")) &&
 Y1 K (.builtin "object.__class__") == some true&&ZJ K C (.type "object") == some true
section
variable {prog:Tc}{w:Ts}{A:Tt}{E:Value->SF->Prop}{s:SF}{K:Sw}{x C:Addr}{ox:Obj}{od:Option Obj}
theorem Ls {Q:Option Value->SF->Prop}(c:mD K C=true)(X:K.In s.heap)(I:WI s.heap x ox C od)(h:Q (some (.ref C)) { s with toks:=s.toks+1 }):Ti (Tq prog w) A (getAttr? (.ref x) "__class__") Q E s:=by
 unfold mD at c
 rw [Sy,Sy,Sy,Sy,Sy,Sy,Sy,beq_iff_eq,beq_iff_eq,beq_iff_eq,beq_iff_eq,beq_iff_eq,beq_iff_eq] at c
 obtain ⟨⟨⟨⟨⟨⟨⟨i,u⟩,y⟩,j⟩,B⟩,c6⟩,c7⟩,G⟩:=c
 obtain ⟨bm,i⟩:=TN.mp i
 obtain ⟨⟨N1,mL,q1,r,sn1,su1,q,n,H,b0,b1,b2,b3,b5,J⟩,M⟩:=pN X i
 have N:Y3 K C od "__class__" = some (.bind (.builtin "getset_descriptor.__get__") (.builtin "object.__class__")):=by
  obtain ⟨cd,j⟩:=TN.mp j
  unfold Y3
  rw [j,S1,B,S1]
  simp [c6,c7]
 have m:=PySem.F.attrBase_ValueError
 have f3:=m.ga.bind (.ref x)
 have O:(false&&onTheHeap (SJ "BaseException.__getattribute__"))=false:=rfl
 have l:(SJ "BaseException.__getattribute__" == SJ "object.__getattribute__")=false:=by decide +kernel
 have R:(onTheHeap (TL C)&&SJ "BaseException.__getattribute__" == SJ "object.__getattribute__")=false:=by rw [l];rfl
 obtain ⟨a,g,d,t,e⟩:=s
 have U:=Yi (M:=Tq prog w) X u
 have Y:=Yi (M:=Tq prog w) X y
 have Z:=PySem.W.looks_find (M:=Tq prog w) X I N
 have T:=I.type (M:=Tq prog w)
 have o:=I.at_
 have hc:=I.cls
 unfold getAttr? getAttrBy?
 repeat (any_goals (first|assumption|(with_reducible refine WC o ?_;rw [hc])|with_reducible refine VU (s:=⟨a,g,d,_,e⟩) U ?_|with_reducible refine VU (s:=⟨a,g,d,_,e⟩) Y ?_|wp_step))
 refine codeAny_call_builtin m.ga.plain PySem.F.entry_bexc_ga (Lr (s:=⟨a,g,d,t+1,e⟩) M J o hc ?_)
 have L:Ti (Tq prog w) A.in1 (call (.builtin "getset_descriptor.__get__") [.builtin "object.__class__",.ref x,.ref C]) (fun v p=>v=.ref C/\p=⟨a,g,d,t+1,e⟩) (fun _ _=>False) ⟨a,g,d,t+1,e⟩:=
  Xz (PySem.W.class_get (s:=⟨a,g,d,t+1,e⟩) X I G ⟨rfl,rfl⟩)
 refine S0 (TV (S0 (TV (S0 (VU (s:=⟨a,g,d,t+1,e⟩) T (S0 (VU (s:=⟨a,g,d,t+1,e⟩) Z ?_)))))))
 refine S0 (VH (TK L (fun v p z=>?_) fun _ _ z=>z.elim))
 obtain ⟨rfl,rfl⟩:=z
 repeat (any_goals (first|assumption|wp_step))
end
theorem Cg {K:Sw}{x C:Addr}{p:Obj}(c:mD K C=true)(hc:p.cls=.ref C)(hd:∃ vs,p.data=.fields vs):PySem.W.KitX K (.ref x) (.ref C) (fun h=>∃ H,WI h x p C H) where
 ty:=fun _ _ _ ⟨_,I⟩=>I.type
 it:=fun M h X _=>by
  unfold mD at c
  rw [Sy,Sy,Sy,Sy,Sy,Sy,Sy] at c
  obtain ⟨B,l⟩:=TN.mp c.1.1.1.1.1.1.1
  obtain ⟨⟨u,mL,J,j,r,s,i,d,m,v,w,y,z,A,a⟩,E⟩:=pN X l
  intro N Q O T k q
  unfold isType loadHead
  exact S0 (wpAny_loadPart (k _ _ a) (TV q))
 ne:=fun h L R G n U X o=>by
  unfold mD at c
  rw [Sy,Sy,Sy,Sy,Sy,Sy,Sy] at c
  obtain ⟨B,l⟩:=TN.mp c.1.1.1.1.1.1.1
  obtain ⟨⟨u,mL,J,j,r,s,i,d,m,v,w,y,z,A,a⟩,E⟩:=pN X l
  refine Bool.eq_false_iff.mpr fun q=>?_
  have e:C=L:=Value.ref.inj (beq_iff_eq.mp q)
  subst e
  rw [o] at a
  injection a with a
  injection a with h1
  injection h1 with h2
  exact absurd h2 (by decide)
 ca:=fun X ⟨_,I⟩ k=>Ls c X I k
end L3
namespace L3
open PySem L2 PySem.Spec PyProof.Rows
noncomputable def b9 (sup:Str->Option Bool)(m:ME):ME:=fun d c=>(m d c).bind fun p=>match p.1 with
 | .loc a=>(match p.2[a]? with
  | some (.exc x _ _)=>(sup x).map fun b=>(.bl b,p.2)
  | _=>none)
 | _=>none
noncomputable def gY (K:Sw)(cv:Value)(x:Str):Option Bool:=(i6 K x).bind fun B=>if mD K B=true then Wh K (.ref B) cv else none
theorem Ci {X:Cx}{a:Expr}{c:Str}{cv:Value}{m:ME}{p J pos:UA}{sup:Str->Option Bool}(ha:QE X a m)(hs:cF a=true)(hg:Gl X "isinstance") (hm:X.mg "isinstance" = none)
  (M:∀ l s K H Q,Inv X l K H s->Q cv s->Ti (Tq X.prog X.w) X.A (eval (.Name c J) X.env) Q X.xe s)(A:∀ x b,sup x=some b->gY X.K cv x=some b) :
  QE X (.Call (.Name "isinstance" p) [a,.Name c J] [] pos) (b9 sup m):=by
 refine ⟨fun l s K H Q I t=>?_⟩
 obtain ⟨π,ρ,μ,d,Y,R,E,h,kc⟩:=t
 unfold b9 at h
 obtain ⟨⟨d1,j⟩,h1,h⟩:=Su.mp h
 dsimp only at h
 split at h
 ·rename_i i
  split at h
  ·rename_i x ns ds hx
   obtain ⟨b,h2,h⟩:=SA.mp h
   obtain ⟨rfl,rfl⟩:D.bl b=d/\j=Y:=by cases h;exact ⟨rfl,rfl⟩
   have y:Tu [a,.Name c J] X.env=(false,eval a X.env)::Tu [.Name c J] X.env:=eD hs
   refine Uy (kD I hg hm Vq ?_)
   refine VB (YZ (aX (ha.h l s K H (fun v n=>∃ e,Ext π μ.length H e j.length n/\Rp X.K e n j/\IsD X.K e j.length n v (.loc i)) I ⟨π,ρ,μ,_,j,R,E,h1,fun e v n L G O=>⟨e,L,G,O⟩⟩) fun u s1 ⟨v,n,r,rv,e,L,G,O⟩=>YZ (M l s1 K n _ r (args_nil ?_))) y) y rfl
   cases O
   obtain rfl:u=TL (e i):=rv
   obtain ⟨T,φ,g1,Z,⟨vs,g3⟩,w⟩:=G.exc i x ns ds hx
   have q:=A x b h2
   unfold gY at q
   obtain ⟨B,hB,q⟩:=Su.mp q
   split at q
   ·rename_i hI
    have o:T.cls=.ref B:=by
     rw [l9 hB] at Z
     exact (S8 (S8 Z)).symm
    obtain ⟨y1,_⟩:=r.hok _ _ g1
    have N:∃ U,WI s1.heap (e i) T B U:=by
     have no:WH T=true:=by
      unfold WH
      rw [g3]
     rcases w with ⟨_,_,w⟩|⟨dx,U,us,w,g5,_⟩
     ·exact ⟨none,y1,o,no,by rw [w];trivial⟩
     ·obtain ⟨y2,_⟩:=r.hok _ _ g5
      exact ⟨some U,y1,o,no,by rw [w];exact y2⟩
    exact UM (Cg hI o ⟨vs,g3⟩) r.kIn N q (fun z=>nomatch z) fun tk=>⟨.bl b,n,r.tok tk,rfl,kc e _ n L G (.bl b)⟩
   ·cases q
  ·cases h
 ·cases h
end L3
namespace L3
open PySem L2 PySem.Spec PyProof.Rows
noncomputable def Soft (X:Cx):Prop:=∃ e,X.A.handled=some (.ref e)/\mB e X.H₀
structure FnU (l:Bool)(P:Tc)(w:Ts)(K:Sw)(mg:Str->Option Value)(base:Ua)(f:Addr)(fd:Ul)(ps:List Str)(sp:Sp):Prop where
 len:∀ vs H Q E,sp vs H Q E->vs.length=ps.length
 run:∀ (A:Tt)(outer:List Wx)(s:SF)(H:Hp)(args:Args)(us:List Value)(vs:List V)(Q:VK)(E:XK),A.depth<VZ->(l=true->∃ e,A.handled=some (.ref e)/\mB e H)->Env0 P w K mg base A outer s H->Xl s fd args (ps.zip us)->Vals vs us->sp vs H Q E->
  XO (Tq P w) A (.call (.ref f) args) (CR eB outer P w H s Q E) s
noncomputable abbrev kR (P:Tc)(w:Ts)(K:Sw)(d:Str->Option Value)(base:Ua)(N:List Str)(a:Str)(scope:UN)(f:Addr)(c:Value)(A:Tt)(outer:List Wx)(s:SF)(H:Hp):Cx:=
 { d8 eB P w K d base N a scope f c A outer s H (fun _ _ _=>False) with calm:=false,xe:=fun _ _=>False }
section
variable {P:Tc}{w:Ts}{K:Sw}{mg:Str->Option Value}{base:Ua}{l:Bool}
theorem Lu {N ps:List Str}{a:Str}{scope:UN}{f:Addr}{d:Value}{A:Tt}{outer:List Wx}{s e:SF}{H:Hp}{us:List Value}{vs:List V}
  (S:FnScope N ps scope)(c:Env0 P w K mg base A outer s H)(h:vs.length=ps.length)(r:Vals vs us)
  (x:InCallC s s.heap.objs.size (Yt (envOfC a scope s.heap.objs.size f d).kindOf (ps.zip us) fun _=>none) (X5 (s.heap.objs.size+1) scope.names []) (Yu (envOfC a scope s.heap.objs.size f d).kindOf (ps.zip us) fun _=>none) e) :
  Inv (kR P w K mg base N a scope f d A outer s H) [] (L2.start N vs) H e:=by
 have I:=Au (CX:=eB) (A:={ A with handled:=none }) (E:=fun _ _ _=>False) S rfl ⟨c.frames,c.mod,c.bs,c.bsz,c.funs,c.frf,c.hok,c.bare⟩ h r x
 exact ⟨⟨I.ok.mod,I.ok.kind,I.ok.glob,I.ok.blt,I.ok.above,I.ok.inj,I.ok.has,I.ok.cab,(fun z=>nomatch z),Yp c.frames,I.ok.stk,I.ok.exf,I.ok.bs,I.ok.bsz,I.ok.noex,I.ok.exfs,I.ok.funs,I.ok.frf⟩,I.os,I.bare,I.base,I.loc,I.cell,I.free,I.freeC,I.pin,I.hok,I.len⟩
theorem Lv {f:Addr}{name a:Str}{c:a0N}{body:List Stmt}{scope:UN}{Z kV p pm d ct oc:Value}{X od:Option Addr}
  {R:Array (Option Value)}{N ps:List Str}{sp:Sp}(lk:K.lookup f=some ⟨oc,od,.func (TY name a c body scope Z kV p pm X d ct),R⟩)(L:Wi K d a=true)(S:FnScope N ps scope)
  (len:∀ vs H Q E,sp vs H Q E->vs.length=ps.length)
  (h:∀ (A:Tt)(outer:List Wx)(s:SF)(H:Hp)(vs:List V)(Q:VK)(E:XK),(l=true->Soft (kR P w K mg base N a scope f d A outer s H))->sp vs H Q E->
   ∃ t,PSs (kR P w K mg base N a scope f d A outer s H) body t/\t { nx:=fun _ m=>Q .non m,rt:=Q } (L2.start N vs) H) :
  FnU l P w K mg base f (TY name a c body scope Z kV p pm X d ct) ps sp:=by
 refine ⟨len,fun A outer s H Y us vs Q E hr M B hb r G=>?_⟩
 have hl:=len _ _ _ _ G
 have U:K.In s.heap:=B.mod.kin.keeps fun b o e=>(B.bs b o e).1
 have O:s.heap.NoLimit:=B.mod.nolimit.keeps fun b o e=>(B.bs b o e).1
 have i:∀ y∈ps.zip us,scope.names.lookup y.1=some .local\/(scope.names.lookup y.1=some .cell/\((X5 (s.heap.objs.size+1) scope.names []).lookup y.1).isSome=true):=fun ⟨n,v⟩ hy=>by
  rcases S.par n (WM hy).1 with q|q
  ·exact .inl q
  ·exact .inr ⟨q,Wz _ _ _ (.inl q)⟩
 refine ZI hr (U _ _ lk) rfl S.co S.gen rfl (Yy U L) (hb _ _ _ _ ?_)
 refine Yr S.kind i fun env he s1 x=>?_
 subst he
 refine ⟨O.keeps x.toInCall.keep,codeAny_func ?_⟩
 obtain ⟨t,ht,hq⟩:=h A outer s H vs Q E (fun z=>M z) G
 have I:Inv (kR P w K mg base N a scope f d A outer s H) [] (L2.start N vs) H s1:=Lu S B hl r x
 refine TK (ht [] s1 (L2.start N vs) H _ I hq) (fun fl s' j=>?_) fun e s' j=>j.elim
 cases fl with
 | ret u=>
  obtain ⟨v,T,m,J,rv,q⟩:=j
  exact ⟨v,m,J.os,J.bare,J.base,J.hok,rv,q⟩
 | next=>
  obtain ⟨T,m,J,q⟩:=j
  exact ⟨.non,m,J.os,J.bare,J.base,J.hok,rfl,q⟩
 | brk=>
  obtain ⟨_,_,_,q⟩:=j
  exact Tx q
 | cont=>
  obtain ⟨_,_,_,q⟩:=j
  exact Tx q
theorem Lx {x a:Str}{st:Stmt}{f:Addr}{v:Ul}{N ps:List Str}{m:MS}(F:Fun K x a st f v)(S:FnScope N ps (bL st))(o:ps.length<=N.length)
  (e:∀ (c:Value)(A:Tt)(outer:List Wx)(s:SF)(H:Hp),(l=true->Soft (kR P w K mg base N a (bL st) f c A outer s H))->QB (kR P w K mg base N a (bL st) f c A outer s H) (cJ st) m):FnU l P w K mg base f v ps (eI K ps.length (pG N.length m)):=by
 obtain ⟨oc,od,kV,I,pm,an,c,ct,T,rfl,O,n⟩:=F.ex
 refine Lv O n S (fun U H Q E h=>h.1) fun A outer s H U Q E p h=>⟨_,(e c A outer s H p).h,?_⟩
 obtain ⟨M,Z,ds,X,d,Y,R,i,j,z⟩:=h
 obtain ⟨⟨y,u,q⟩,L,j⟩:=Su.mp j
 refine ⟨Z,_,X,y,u,q,R,vY i (by rw [M];exact o),L,?_⟩
 cases y with
 | rt d'=>cases j;exact z
 | nx=>cases j;exact fun r σ1 B J G E1=>z r .non B J G .non
 | bk=>cases j
 | ct=>cases j
end
section
variable {X:Cx}
theorem Ly {f:Addr}{y:Ul}{ps:List Str}{j:MF}{x:Str}{p pos:UA}{e:Expr}{es:List Expr}{w:MA}{n:Nat}(F:FnU false X.prog X.w X.K X.mg X.base f y ps (eI X.K n j))(T:X.A.depth<VZ)(R:X.mg x=some (.ref f))
  (N:T6 X.K (.ref f)=true)(K:Binds X.K y ps [])(l:QA X (e::es) w n)(M:Gl X x)(m:(x == ("__debug__":Str))=false):QE X (.Call (.Name x p) (e::es) [] pos) (aE j w):=by
 have v:=l.s
 rw [Tz,Sy] at v
 have L:=eD (env:=X.env) v.1 (es:=es)
 have o:=iY (env:=X.env) v.2 (pos:=pos)
 refine ⟨cT (t:=rV (eI X.K n j) [] E0 (eC X.K w)) (fun i s U H Q I h=>?_) (A8 l.l)⟩
 refine Uy (iT I M R ?_ m)
 refine Wj (h₀:=X.base) I.ok.mod.kin N (aX (l.h pos i s U H _ I h) fun c B ⟨E,G,d,r,q⟩=>⟨d.kIn,?_⟩) L o
 have A:Vals (E++[]) (c++[]):=r.append .nil
 have O:(c++[]).length=ps.length:=by rw [<- A.length];exact F.len _ _ _ _ q
 refine Xz (Wu (F.run X.A X.stack B G ⟨c,[]⟩ (c++[]) (E++[]) Q E0 T (fun z=>nomatch z) d.env0 (K B c d.kIn O) A q) fun r Y a=>?_)
 cases r with
 | error e=>exact a.elim
 | ok J=>
  cases J with
  | ret u=>exact d.after a
  | next=>exact Tx a
  | brk=>exact Tx a
  | cont=>exact Tx a
theorem Lz {f e:Addr}{G:Ul}{ps:List Str}{l:MF}{x:Str}{p pos:UA}{i:Nat}{y:Str}{py:UA}(F:FnU true X.prog X.w X.K X.mg X.base f G ps (eI X.K 1 l))(hr:X.A.depth<VZ)(hm:X.mg x=some (.ref f))
  (hk:T6 X.K (.ref f)=true)(Y:Binds X.K G ps [])(hi:X.N[i]? = some y)(hN:X.N.Nodup)(hv:lJ X.env.scope y)(hy:(y == ("__debug__":Str))=false) (z:(y == ("__classdict__":Str))=false) (Z:Gl X x)(n:(x == ("__debug__":Str))=false) (hh:X.A.handled=some (.ref e))
  (a1r:List (Addr×Obj))(s:SF)(σ:L2.St)(H:Hp)(Q:VK)(sf:mB e H)(I:Inv X a1r σ H s)(t:tM X.K (aE l (aB (aA i) aD)) σ H Q) :
  Ti (Tq X.prog X.w) X.A (eval (.Call (.Name x p) [.Name y py] [] pos) X.env) (EP X a1r σ Q) X.xe s:=by
 have U:PA X [.Name y py] (u9 (uT i) rQ):=rS (z7 hi hv hy z) rR (eD rfl)
 obtain ⟨π,ρ,μ,d,A,R,E,o,k⟩:=t
 obtain ⟨⟨xs,μ1⟩,m,w⟩:=Su.mp o
 obtain ⟨⟨B,μ2⟩,M,m⟩:=Su.mp m
 cases m
 obtain ⟨N,rfl⟩:=A7 M
 obtain ⟨v,O,T⟩:=E.get i B N
 refine Uy (iT I Z hm ?_ n)
 refine Wj (h₀:=X.base) I.ok.mod.kin hk (aX (U pos a1r s σ H (fun K h=>K=[v]/\h=H) I ⟨v,O,rfl,rfl⟩) fun c J ⟨K,h,j,r,q1,q2⟩=>⟨j.kIn,?_⟩) (eD rfl) rfl
 subst q1 q2
 have q:eI X.K 1 l [v] h Q E0:=⟨rfl,π,[B],_,d,A,R,.cons T .nil,w,k⟩
 have hl:(c++[]).length=ps.length:=by rw [Um,<- r.length];exact F.len _ _ _ _ q
 have r2:Vals [v] (c++[]):=by rw [Um];exact r
 refine Xz (Wu (F.run X.A X.stack J h ⟨c,[]⟩ (c++[]) [v] Q E0 hr (fun _=>⟨e,hh,sf⟩) j.env0 (Y J c j.kIn hl) r2 q) fun r s' a=>?_)
 cases r with
 | error e=>exact a.elim
 | ok L=>
  cases L with
  | ret u=>exact j.after a
  | next=>exact Tx a
  | brk=>exact Tx a
  | cont=>exact Tx a
noncomputable def sV (X:Cx):List Expr->List Addr->Prop
 | [],[]=>True
 | .Name x _::r,C::l=>Gl X x/\X.mg x=some (.ref C)/\(x == ("__debug__":Str))=false/\sV X r l
 | _,_=>False
theorem Cj:∀ {es:List Expr}{l:List Addr},sV X es l->PA X es (fun _ H Q=>Q (l.map V.ref) H)/\es.all cF=true
 | [],[],_=>⟨rR,rfl⟩
 | .Name x p::r,C::l,⟨h1,h2,h3,h4⟩=>by
  obtain ⟨d,c⟩:=Cj h4
  refine ⟨?_,by rw [Tz,c];rfl⟩
  have k:=rS (X:=X) (e:=.Name x p) (te:=fun _ H Q=>Q (V.ref C) H) (fun a s e H Q I h=>iT I h1 h2 ⟨V.ref C,H,I,rfl,h⟩ h3) d (eD rfl)
  exact k
 | [],_::_,h=>h.elim
 | .Name _ _::_,[],h=>h.elim
end
theorem Ck:∀ {l:List Addr}{us:List Value},Vals (l.map V.ref) us->us=l.map TL
 | [],_,.nil=>rfl
 | C::l,_,.cons ra rb=>by rw [SW,<- Ck rb,show _=TL C from ra]
theorem LA {K:Sw}{B:Addr}{b:List Bool}{l:List Addr}(h:l.map (fun C=>Wh K (.ref B) (.ref C))=b.map some):Zk K (.ref B) (l.map TL)=some (b.any id):=by
 induction l generalizing b with
 | nil=>cases b with
  | nil=>rfl
  | cons=>cases h
 | cons C l a=>cases b with
  | nil=>cases h
  | cons c b=>
   rw [SW,SW,YK] at h
   rw [SW]
   unfold Zk
   rw [h.1]
   cases c
   ·exact (a (b:=b) h.2)
   ·rfl
theorem LB {X:Cx}{a:Expr}{es:List Expr}{l:List Addr}{m:ME}{p pos tp:UA}{Z:Nat}{sup:Str->Option (List Bool)}(ha:QE X a m)(hs:cF a=true)(hg:Gl X "isinstance") (hm:X.mg "isinstance" = none)
  (hl:sV X es l)(hz:l.length<=SK)(T:∀ x b,sup x=some b->l.map (fun C=>gY X.K (.ref C) x)=b.map some/\b≠[]) :
  QE X (.Call (.Name "isinstance" p) [a,.Tuple es Z tp] [] pos) (b9 (fun x=>(sup x).map fun b=>b.any id) m):=by
 refine ⟨fun J s σ H Q I t=>?_⟩
 obtain ⟨π,ρ,μ,d,μ',R,E,h,kc⟩:=t
 unfold b9 at h
 obtain ⟨⟨d1,j⟩,h1,h⟩:=Su.mp h
 dsimp only at h
 split at h
 ·rename_i i
  split at h
  ·rename_i x ns ds hx
   obtain ⟨b0,h2,h⟩:=SA.mp h
   obtain ⟨rfl,rfl⟩:D.bl b0=d/\j=μ':=by cases h;exact ⟨rfl,rfl⟩
   obtain ⟨b,h3,rfl⟩:=SA.mp h2
   have O:Tu [a,.Tuple es Z tp] X.env=(false,eval a X.env)::Tu [.Tuple es Z tp] X.env:=eD hs
   refine Uy (kD I hg hm Vq ?_)
   have tpl:=Al (x1:=Z) (pos:=tp) (Cj hl).1
   refine VB (YZ (aX (ha.h J s σ H (fun v w=>∃ e,Ext π μ.length H e j.length w/\Rp X.K e w j/\IsD X.K e j.length w v (.loc i)) I ⟨π,ρ,μ,_,j,R,E,h1,fun e v w e1 R1 i1=>⟨e,e1,R1,i1⟩⟩) fun u s1 ⟨v,w,I1,rv,e,e1,R1,i1⟩=>
    YZ (aX (tpl J s1 σ w (fun v2 H2=>∃ q,v2=.ref q/\w q=none/\H2=bA w q (.tup (l.map V.ref))) I1 ⟨by rw [Sx];exact hz,fun q hq=>⟨q,rfl,hq,rfl⟩⟩) fun u2 s2 ⟨v2,H2,G,rv2,q,hv2,hq,hH2⟩=>args_nil ?_)) O) O rfl
   subst hv2 hH2
   obtain rfl:u2=TL q:=rv2
   cases i1
   obtain rfl:u=TL (e i):=rv
   obtain ⟨e2,R2⟩:=R1.fresh (o:=.tup (l.map V.ref)) hq
   obtain ⟨ob,φ,g1,g2,⟨vs,g3⟩,K⟩:=R2.exc i x ns ds hx
   obtain ⟨A,hne⟩:=T x b h3
   obtain ⟨B,U,Y,A⟩:∃ B,i6 X.K x=some B/\mD X.K B=true/\l.map (fun C=>Wh X.K (.ref B) (.ref C))=b.map some:=by
    cases l with
    | nil=>cases b with
     | nil=>exact absurd rfl hne
     | cons=>cases A
    | cons C l=>
     cases b with
     | nil=>cases A
     | cons c b=>
      have M:=A
      rw [SW,SW,YK] at M
      have L:=M.1
      unfold gY at L
      obtain ⟨B,U,L⟩:=Su.mp L
      split at L
      ·rename_i Y
       refine ⟨B,U,Y,?_⟩
       rw [<- A]
       refine UD fun C' _=>?_
       unfold gY
       rw [U,S1,if_pos Y]
      ·cases L
   have y:ob.cls=.ref B:=by
    rw [l9 U] at g2
    exact (S8 (S8 g2)).symm
   obtain ⟨y1,_⟩:=G.hok _ _ g1
   have hin:∃ od,WI s2.heap (e i) ob B od:=by
    have no:WH ob=true:=by
     unfold WH
     rw [g3]
    rcases K with ⟨_,_,K⟩|⟨dx,od,us,K,g5,_⟩
    ·exact ⟨none,y1,y,no,by rw [K];trivial⟩
    ·obtain ⟨y2,_⟩:=G.hok _ _ g5
     exact ⟨some od,y1,y,no,by rw [K];exact y2⟩
   obtain ⟨z,its,r,o,t1,t2,n,t3,t4⟩:=(show ObjOk X.prog X.w _ s2.heap q (.tup (l.map V.ref)) from G.hok q _ dX)
   have N:its=l.map TL:=Ck r
   subst N
   have ho:s2.heap.get? q=some ⟨.type "tuple",o.dict,.seq (l.map TL).toArray n,o.slots⟩:=by rw [t1];cases o;cases t2;cases t3;rfl
   exact PySem.W.kia_tup (Cg Y y ⟨vs,g3⟩) G.kIn hin ho (LA A) (fun z=>nomatch z) fun tk=>⟨.bl _,_,G.tok tk,rfl,kc e _ _ (e1.trans e2) R2 (.bl _)⟩
  ·cases h
 ·cases h
end L3
namespace L3
open PySem L2 PySem.Spec PyProof.Rows
theorem LC:entryFor table "proto.unchain" = some Builtin.«proto.unchain»:=entryFor_of_fast (by kernel_rfl)
section
variable {prog:Tc}{w:Ts}{A:Tt}{E:Value->SF->Prop}{s:SF}
theorem LD {d e:Addr}{x left step:Int}{o:Obj}{vs:Array Value}{Q:Option Value->SF->Prop}(m:A.handled=some (.ref e))(n:s.heap.get? e=some o)(hd:o.data=.fields vs)(B:vs[2]? = some Uk)
  (a:VS s.heap d x left step)(c:left<=0)(y:∀ j,YL d s.heap j->Q none { s with heap:=j }):Ti (Tq prog w) A (Zi (.ref d)) Q E s:=by
 have l:s.TypeIs (.ref d) "range_iterator":=⟨_,a,rfl⟩
 unfold Zi
 refine S0 (wpAny_attempt (wpAny_callSpecial?_slot (name:=SQ "__next__") l F.slot_range_iterator_next
  (wpAny_call_entry F.slot_range_iterator_next l F.entry_range_iterator_next ?_ (F.args_range_iterator_next_1 _))))
 show Ti _ _ (field (.ref d) 0 >>= _) _ _ s
 refine S0 (Wn a rfl (x:=Wt x) rfl ?_)
 show Ti _ _ (field (.ref d) 1 >>= _) _ _ s
 refine S0 (Wn a rfl (x:=Wt left) rfl ?_)
 show Ti _ _ (field (.ref d) 2 >>= _) _ _ s
 refine S0 (Wn a rfl (x:=Wt step) rfl ?_)
 show Ti _ _ (if left<=0 then _ else _) _ _ s
 rw [if_pos c]
 refine S0 (wpAny_rule ?_)
 refine S0 ?_
 show Ti _ _ (newExc (.type "StopIteration") [] >>= _) _ _ _
 refine S0 ?_
 simp only [newExc,newTuple]
 refine S0 (WB ?_ (by size_fits))
 refine S0 (m:=a1l _ _) (wpAny_of_eq (a:=Uk) (by first|rfl|(simp only [a1l];rfl)) ?_)
 refine WB ?_ (by size_fits)
 simp only [raiseNew]
 refine S0 (wpAny_handled ?_)
 first|rw [show A.in1.handled=some (.ref e) from m]|rw [m]
 have i:(TL e != TL (s.heap.push { cls:=Sv "tuple",data:=Xj #[] }).objs.size)=true:=by
  have r:=SO n
  have u:(s.heap.push { cls:=Sv "tuple",data:=Xj #[] }).objs.size=s.heap.objs.size+1:=VL ..
  have v:e≠(s.heap.push { cls:=Sv "tuple",data:=Xj #[] }).objs.size:=S9 (u ▸ Vk r)
  rw [bne_iff_ne]
  intro z
  injection z with z
  exact v z
 dsimp only
 rw [if_pos i]
 have p:=fun (z:Obj)=>SS z (SS { cls:=Sv "tuple",data:=Xj #[] } n)
 refine S0 (VH (wpAny_runValue (codeAny_builtin LC ?_)))
 show Ti _ _ (field (.ref e) 2 >>= _) _ _ _
 refine S0 (Wn (p _) hd B ?_)
 rw [if_pos (by rfl)]
 refine TV ?_
 show Ti _ _ (updateField _ 2 (TL e) >>= _) _ _ _
 simp only [updateField]
 refine S0 (S0 (wpAny_load (Tf _ rfl) ?_))
 dsimp only
 rw [if_pos (by rw [Zc];show 2<6+_;omega)]
 refine wpAny_update (Tf _ rfl) (wpAny_throw ?_)
 refine S0 (wpAny_isInstance (T:="StopIteration") (b:=true) ⟨_,Vj _ (Tf _ rfl) rfl,rfl⟩ isSubtype_stop ?_)
 refine TV (y _ fun b H G q=>?_)
 have h:=SO q
 rw [Us _ _ (Xq (by rw [VL];exact Vk h))]
 exact SS _ (SS _ q)
end
theorem Soft.at {X:Cx}{a1r:List (Addr×Obj)}{σ:L2.St}{H:Hp}{s:SF}(S:Soft X)(I:Inv X a1r σ H s):∃ e,X.A.handled=some (.ref e)/\mB e H/\∃ o vs,s.heap.get? e=some o/\o.data=.fields vs/\vs[2]? = some Uk:=by
 obtain ⟨e,h,o,u,i,vs,a,c⟩:=S
 have d:=I.base.frzs _ _ _ i
 exact ⟨e,h,⟨o,u,d,vs,a,c⟩,o,vs,(I.hok _ _ d).1,a,c⟩
theorem LF {P:Tc}{w:Ts}{K:Sw}{tg:Expr}(a:Addr)(lo:Int)(n:Nat):Turn Soft P w K tg (kE lo n) [a] a (fun i h=>VS h a (lo+(i:Nat) * 1) ((n:Int) - (i:Nat)) 1) where
 mem:=(oV (P:=P) (w:=w) (K:=K) (tg:=tg) a lo n).mem
 obj:=(oV (P:=P) (w:=w) (K:=K) (tg:=tg) a lo n).obj
 keep:=(oV (P:=P) (w:=w) (K:=K) (tg:=tg) a lo n).keep
 item:=by
  intro X A hw z hc i c s G H E I p st q
  subst A hw z
  obtain ⟨r,u,O,v,x,y⟩:=p a (by simp)
  have q:i<n:=q
  refine wpAny_pyNext_range_item st (by omega) fun m j B=>?_
  have J:Inv X c G H { s with heap:=m,toks:=s.toks+1 }:=I.turned (fun b o d e=>B.extBut b o (by simpa using d) e) r u v x y
  have l:VS m a (lo+((i+1:Nat):Int) * 1) ((n:Int) - ((i+1:Nat):Int)) 1:=by
   have L:lo+((i+1:Nat):Int) * 1=lo+(i:Int) * 1+1:=by omega
   have M:(n:Int) - ((i+1:Nat):Int)=(n:Int) - (i:Int) - 1:=by omega
   rw [L,M]
   exact j
  refine ⟨_,rfl,rM (s:={ s with heap:=m,toks:=s.toks+1 }) (n:="range_iterator") l rfl rfl (by decide) ⟨.int (lo+i),H,J,⟨s.toks,?_⟩,⟨rfl,rfl⟩,l,fun b d=>(p b d).1⟩⟩
  rw [a1e]
 done:=by
  intro X A hw z hc i c s G H E I p st q
  subst A hw z
  obtain ⟨r,u,O,v,x,y⟩:=p a (by simp)
  obtain ⟨e,Q,_,o,Y,R,T,U⟩:=hc.at I
  exact LD Q R T U st (by have:n<=i:=q;omega) fun m N=>⟨rfl,I.turned (t':=s.toks) (fun b o d e=>N b o d e) r u v x y⟩
 self:=(oV (P:=P) (w:=w) (K:=K) (tg:=tg) a lo n).self
end L3
namespace L3
open PySem PySem.Spec
namespace Tb
section
variable {prog:Tc}{w:Ts}{A:Tt}{E:Value->SF->Prop}{s:SF}
noncomputable abbrev iG (a:Bool):Obj:={ cls:=.type "set",dict:=none,data:=.set #[] 0 (.fresh 0 0 a) }
end
end Tb
end L3
namespace L3
open PySem L2
open PyProof.Rows (IntsAre)
theorem pP:∀ {ds:List D}{k:List Int},kM ds=some k->ds=k.map D.int
 | [],k,h=>by cases h;rfl
 | d::ds,k,h=>by
  cases d with
  | int i=>
   obtain ⟨e,a,c⟩:=SA.mp h
   subst c
   rw [pP a];rfl
  | _=>cases h
noncomputable def eQ (c:Hm):D->Option (List D)
 | .rol xs=>some xs
 | .loc a=>match c[a]? with
  | some (.lst xs)=>some xs
  | _=>none
 | _=>none
section
variable {K:Sw}{π:Nat->Addr}{n:Nat}{H:Hp}{μ:Hm}
theorem mE {v:V}{x:D}{xs:List D}(R:Rp K π H μ)(h:IsD K π μ.length H v x)(e:eQ μ x=some xs):∃ p vs,v=.ref p/\SqL K H p vs/\IsDs K π μ.length H vs xs:=by
 cases h with
 | rol q t=>cases e;exact ⟨_,_,rfl,q.sq,t⟩
 | @loc a j=>
  simp only [eQ] at e
  split at e
  ·rename_i l i
   cases e
   obtain ⟨vs,c,d⟩:=R.lst a xs i
   exact ⟨_,vs,rfl,.of c,d⟩
  ·cases e
 | _=>cases e
theorem ints_of':∀ {vs:List V}{k:List Int},IsDs K π n H vs (k.map D.int)->vs=k.map V.int
 | _,[],h=>by cases h;rfl
 | _,i::k,h=>by
  cases h with
  | cons h t=>cases h;rw [ints_of' t];rfl
theorem Cm:∀ (k:List Int),IsDs K π n H (k.map V.int) (k.map D.int)
 | []=>.nil
 | i::k=>.cons (.int i) (Cm k)
end
section
variable {X:Cx}{a1r:List (Addr×Obj)}{σ:St}{H:Hp}{s:SF}
theorem LG:CallR X (.builtin "len") (fun xs H Q=>∃ a L,xs=[V.ref a]/\H a=some (rY a L)/\Q (.int L.length) H):=by
 intro a1r s σ H xs B Q I r h
 obtain ⟨a,L,rfl,i,q⟩:=h
 obtain ⟨u,rfl,z⟩:=f9 r
 cases z
 obtain ⟨⟨o,v,y,e,A,t,R,d,hd,j,ok,w,hnd,n,l,x,m⟩,_,_⟩:=I.hok a _ i
 have c:e.size=L.length:=by
  have:=w.length_eq
  simpa using this
 have p:t.mask<=511:=by rcases n with h|h|h|h<;>omega
 refine call_len_set v d hd (Tb.fits_of ok j) (by rw [c];omega) ?_
 rw [c]
 exact ⟨.int L.length,H,I.tok _,⟨_,rfl⟩,q⟩
end
end L3
namespace L3
open PySem L2
end L3
namespace L3
open PySem L2
open PyProof.Rows (IntsAre Fr News seqObj)
end L3
namespace L3
open PySem
open PySem.W (KasT kas_asc kas_desc kas_tail3 kas_descPart kas_count kas_place kas_bin kas_sort kas_rev)
open PyProof.Rows (mirror bubble getElem?_bubble getElem?_mirror_all mirror_size bubble_size)
section
variable {ans:Nat->Nat->Bool}{κ:Nat->Nat}(hk:∀ i j,ans i j=decide (κ i<κ j))
noncomputable def gK (κ:Nat->Nat)(p:Array Nat)(k:Nat):Nat:=κ (p.getD k 0)
structure Falls (κ:Nat->Nat)(p:Array Nat)(n q:Nat):Prop where
 fall:∀ i j,i<=j->j<n->gK κ p j<=gK κ p i
 alike:∀ k,n - 1 - q<=k->k<n->gK κ p k=gK κ p (n - 1)
 qn:q<n
theorem Falls.same {p d:Array Nat}{n q:Nat}(F:Falls κ p n q)(h:∀ k,gK κ d k=gK κ p k):Falls κ d n q:=
 ⟨fun i j a c=>by rw [h,h];exact F.fall i j a c,fun k a c=>by rw [h,h];exact F.alike k a c,F.qn⟩
end
end L3
namespace L3
open PySem L2
section
variable {X:Cx}{a b c:Expr}{ma mb mc:ME}{pos:UA}
noncomputable def kS (f g:D->D->Hm->Option (D×Hm))(a b c:ME):ME:=fun d e=>(a d e).bind fun p=>(b d p.2).bind fun q=>(f p.1 q.1 q.2).bind fun r=>match r.1 with
 | .bl true=>(c d r.2).bind fun t=>g q.1 t.1 t.2
 | .bl false=>some (.bl false,r.2)
 | _=>none
theorem Cn {f g:D->D->Hm->Option (D×Hm)}{r J:R2}{K:Sw}(hf:dC K f r)(hg:dC K g J):∀ σ H Q,tM K (kS f g ma mb mc) σ H Q->u5 r J (tM K ma) (tM K mb) (tM K mc) σ H Q:=by
 rintro σ H Q ⟨π,w,μ,d,q,R,E,e,k⟩
 obtain ⟨⟨x,h⟩,Y,e⟩:=Su.mp e
 obtain ⟨⟨y,i⟩,Z,e⟩:=Su.mp e
 obtain ⟨⟨z,j⟩,h3,e⟩:=Su.mp e
 refine ⟨π,w,μ,x,h,R,E,Y,fun s v1 H1 n T i1=>⟨s,w,h,y,i,T,E.mono n,Z,fun u L M o R2 I=>?_⟩⟩
 refine hf u M i x y z j v1 L _ R2 (i1.mono o) I h3 fun m v3 N p A i3=>?_
 cases z with
 | bl B=>
  cases i3
  refine ⟨B,rfl,?_⟩
  cases B with
  | true=>
   refine kJ ?_
   obtain ⟨⟨t,l⟩,h4,e⟩:=Su.mp e
   exact ⟨m,w,j,t,l,A,((E.mono n).mono o).mono p,h4,fun v v4 O G U i4=>hg v O l y t d q L v4 Q U ((I.mono p).mono G) i4 e (k.after (((n.trans o).trans p).trans G))⟩
  | false=>
   refine kI ?_
   cases e
   exact k m _ N ((n.trans o).trans p) A (.bl false)
 | _=>cases e
noncomputable def jV:Wo->Option (Int->Int->Bool)
 | .Lt=>some fun i j=>decide (i<j)
 | .LtE=>some fun i j=>decide (i<=j)
 | .Gt=>some fun i j=>decide (j<i)
 | .GtE=>some fun i j=>decide (j<=i)
 | _=>none
theorem nR {d:Wo}{p:Int->Int->Bool}(h:jV d=some p):OpR X (UB d) (f7 fun i j=>.bl (p i j))/\(d=.Lt\/d=.LtE\/d=.Gt\/d=.GtE):=by
 cases d<;>first|(cases h;first|exact ⟨uZ,by simp⟩|exact ⟨u1,by simp⟩|exact ⟨u3,by simp⟩|exact ⟨u4,by simp⟩)|cases h
theorem Co {e d:Wo}(h':d=.Lt\/d=.LtE\/d=.Gt\/d=.GtE):a0y [e,d] [b,c]=false:=by
 show VI d c=false
 rcases h' with rfl|rfl|rfl|rfl<;>exact dM _
theorem LH {e d:Wo}{p q:Int->Int->Bool}(h:jV e=some p)(h':jV d=some q)(i:QE X a ma)(j:QE X b mb)(hc:QE X c mc):QE X (.Compare a [e,d] [b,c] pos) (kS (fP p) (fP q) ma mb mc):=
 ⟨cT (Gz (nR h).1 (nR h').1 i.h j.h hc.h (Co (nR (X:=X) h').2)) (Cn gU gU)⟩
theorem LI {e d:Wo}{p q:Int->Int->Bool}(h:jV e=some p)(h':jV d=some q)(j:QE X a ma)(l:QE X b mb)(hc:QE X c mc):QT X (.Compare a [e,d] [b,c] pos) (aM (kS (fP p) (fP q) ma mb mc)):=
 ⟨o9 (GA (nR h).1 (nR h').1 j.h l.h hc.h (Co (nR (X:=X) h').2)) fun i H Q h=>Cn gU gU i H _ (vW i H Q h)⟩
noncomputable def sW (d:Bool):D->D->Hm->Option (D×Hm)
 | .bl b,.bl c,μ=>some (.bl (if d then !(b == c) else b == c),μ)
 | .int _,.bl _,μ=>some (.bl d,μ)
 | _,_,_=>none
noncomputable def fC (d:Bool):D->D->Hm->Option (D×Hm):=fun x y e=>match y with
 | .bl _=>sW d x y e
 | _=>i5 d x y e
noncomputable def wV (d:Bool):R2:=fun x y H Q=>∃ c,y=.bl c/\((∃ b,x=.bl b/\Q (.bl (if d then !(b == c) else b == c)) H)\/((∃ i,x=.int i)/\Q (.bl d) H))
theorem sX {K:Sw}{h:Bool}:dC K (sW h) (wV h):=by
 intro l H p x y d m n o Q R i j e k
 unfold sW at e
 split at e
 ·cases e;cases i;cases j
  exact ⟨_,rfl,.inl ⟨_,rfl,k l _ H .refl R (.bl _)⟩⟩
 ·cases e;cases i;cases j
  exact ⟨_,rfl,.inr ⟨⟨_,rfl⟩,k l _ H .refl R (.bl _)⟩⟩
 ·cases e
theorem Cp:OpR X (UB .Is) (wV false):=by
 intro e s l H x y v u Q I d j h
 obtain ⟨c,rfl,h⟩:=h
 cases j
 rcases h with ⟨b,rfl,q⟩|⟨⟨i,rfl⟩,q⟩
 ·cases d
  exact TV (m4 I q (by cases b<;>cases c<;>rfl))
 ·obtain ⟨t,rfl⟩:=d
  exact TV (m4 I q rfl)
theorem Cq:OpR X (UB .IsNot) (wV true):=by
 intro e s l H x y v u Q I d j h
 obtain ⟨c,rfl,h⟩:=h
 cases j
 rcases h with ⟨b,rfl,q⟩|⟨⟨i,rfl⟩,q⟩
 ·cases d
  exact TV (m4 I q (by cases b<;>cases c<;>rfl))
 ·obtain ⟨t,rfl⟩:=d
  exact TV (m4 I q rfl)
theorem sY {d:Bool}(x y:D)(e:Hm)(r:D×Hm)(h:fC d x y e=some r):sW d x y e=some r\/i5 d x y e=some r:=by
 unfold fC at h
 split at h
 ·exact .inl h
 ·exact .inr h
theorem LJ (d:QE X a ma)(e:QE X b mb):QE X (.Compare a [.Is] [b] pos) (aC (fC false) ma mb):=wM ⟨iU Cp sX d.h e.h (dM _)⟩ (KA d e) (pK sY)
theorem LK (d:QE X a ma)(e:QE X b mb):QE X (.Compare a [.IsNot] [b] pos) (aC (fC true) ma mb):=wM ⟨iU Cq sX d.h e.h (dM _)⟩ (KG d e) (pK sY)
theorem LL (d:QE X a ma)(e:QE X b mb):QT X (.Compare a [.Is] [b] pos) (aM (aC (fC false) ma mb)):=B0 ⟨iV Cp sX d.h e.h (dM _)⟩ (KH d e) (B1 (pK sY))
theorem LM (d:QE X a ma)(e:QE X b mb):QT X (.Compare a [.IsNot] [b] pos) (aM (aC (fC true) ma mb)):=B0 ⟨iV Cq sX d.h e.h (dM _)⟩ (KI d e) (B1 (pK sY))
end
noncomputable def jW:MF:=fun ds a=>match ds with
 | [x]=>(bS a x).bind fun d=>(kM d).map fun c=>(.int c.sum,a)
 | _=>none
noncomputable def Cr (K:Sw):List V->Hp->VK->Prop:=fun xs H Q=>∃ (p:Addr)(is:List Int),xs=[.ref p]/\(SqL K H p (is.map V.int)\/SqT K H p (is.map V.int))/\Q (.int is.sum) H
theorem LN {K:Sw}:cY K jW (Cr K):=by
 intro l H s o d j m Q R i a k
 unfold jW at a
 split at a
 ·obtain ⟨r,c,a⟩:=Su.mp a
  obtain ⟨h,e,a⟩:=SA.mp a
  cases a
  cases i with
  | cons i t=>
   cases t
   obtain ⟨p,n,rfl,q,hd⟩:=sH R i c
   rw [pP e] at hd
   have:=ints_of' hd
   subst this
   exact ⟨p,h,rfl,q,k l _ H .refl R (.int _)⟩
 ·cases a
theorem Ct (is:List Int):∀ n,n<=is.length->preSum (fun i=>is.getD i 0) n=(is.take n).sum
 | 0,_=>rfl
 | n+1,h=>by
  have a:=Ct is n (by omega)
  have e:is.take (n+1)=is.take n++[is[n]]:=by rw [XW,SN (by omega)];rfl
  show preSum (fun i=>is.getD i 0) n+is.getD n 0=_
  rw [a,e,List.sum_append]
  simp [U3,SN (show n<is.length by omega)]
section
variable {X:Cx}
theorem sZ {a1r:List (Addr×Obj)}{σ:St}{H:Hp}{s d c:SF}{p:List Addr}(I:Inv X a1r σ H s)(m:Moved p (fun a b=>b=a) d c)(q:∀ b o,s.heap.get? b=some o->d.heap.get? b=some o)(hw:∀ b∈p,s.heap.objs.size<=b)(h:d.gens=s.gens/\d.drawn=s.drawn/\d.os=s.os):Inv X a1r σ H c:=by
 have n:∀ b o,s.heap.get? b=some o->c.heap.get? b=some o:=fun b o e=>m.heap b o (fun z=>absurd (S6 (SO e) (hw b z)) (UL _)) (q b o e)
 have i:c.gens=s.gens:=m.gens.trans h.1
 have j:c.drawn=s.drawn:=m.drawn.trans h.2.1
 have l:c.os=s.os:=m.os.trans h.2.2
 obtain ⟨w,v,u,r,x⟩:=c
 dsimp only at i j l n
 subst i j l
 exact I.kept (t':=r) n
theorem nS {is:List Int}{a:List Value}(r:Vals (is.map V.int) a){i:Nat}{v:Value}(h:a.toArray[i]? = some v):∃ t,v=.int (is.getD i 0) t:=by
 have c:a[i]? = some v:=by simpa using h
 have e:i<is.length:=by
  have:=(SH.mp c).1
  have:=r.length
  rw [Sx] at this
  omega
 obtain ⟨u,d,j⟩:=r.get (i:=i) (x:=.int is[i]) (by rw [Tr,SN e];rfl)
 rw [c] at d
 cases d
 obtain ⟨t,rfl⟩:=j
 exact ⟨t,by simp [U3,e]⟩
theorem LO (hc:X.calm=true):CallR X (.builtin "sum") (Cr X.K):=by
 intro G s O H N M Q I r h
 obtain ⟨p,d,rfl,y,q⟩:=h
 obtain ⟨u,rfl,K⟩:=f9 r
 cases K
 have E:X.A.in1.handled=none:=I.ok.hd hc
 have aV:∀ a:List Value,Vals (d.map V.int) a->preSum (fun i=>d.getD i 0) a.toArray.size=d.sum:=fun a w=>by
  have x:a.toArray.size=d.length:=by rw [S3,<- w.length,Sx]
  rw [x,Ct d _ (SM _),Xw]
 rcases y with y|y
 ·obtain ⟨a,w,j,J⟩:=I.list y
  refine a0o (Vr j.isList ?_)
  have l:p≠s.heap.objs.size:=by
   obtain ⟨o,n,_⟩:=j.isList
   exact S9 (SO n)
  refine ⟨s.heap.objs.size,_,_,_,_,_,_,fun i=>d.getD i 0,rfl,(XR E _ p l a.toArray).toS,⟨⟨_,Tf _ rfl,rfl,rfl⟩,j.isList.push _⟩,?_,fun i v A=>nS w A,fun L B m=>?_⟩
  ·intro b c
   show b<(s.heap.push _).objs.size
   rw [VL]
   obtain ⟨o,n,_⟩:=j.isList
   have z:=SO n
   simp only [TH,Vb,or_false] at c
   rcases c with rfl|rfl
   ·exact UY _
   ·exact Vk z
  ·refine ⟨.int d.sum,H,sZ I m (fun b o e=>SS _ e) (fun b c=>?_) ⟨rfl,rfl,rfl⟩,⟨B,?_⟩,q⟩
   ·have e:b=s.heap.objs.size:=by simpa using c
    exact VQ e.symm
   ·rw [aV a w]
 ·obtain ⟨a,w,j,J⟩:=I.tuple y
  refine a0o (Xy (show s.heap.IsTuple p a.toArray from j) ?_)
  have l:p≠s.heap.objs.size:=by
   obtain ⟨o,n,_⟩:=j
   exact S9 (SO n)
  refine ⟨s.heap.objs.size,_,_,_,_,_,_,fun i=>d.getD i 0,rfl,(a0p E _ p l a.toArray).toS,⟨⟨_,Tf _ rfl,rfl,rfl⟩,W2 j _⟩,?_,fun i v A=>nS w A,fun L B m=>?_⟩
  ·intro b c
   show b<(s.heap.push _).objs.size
   rw [VL]
   obtain ⟨o,n,_⟩:=j
   have z:=SO n
   simp only [TH,Vb,or_false] at c
   rcases c with rfl|rfl
   ·exact UY _
   ·exact Vk z
  ·refine ⟨.int d.sum,H,sZ I m (fun b o e=>SS _ e) (fun b c=>?_) ⟨rfl,rfl,rfl⟩,⟨B,?_⟩,q⟩
   ·have e:b=s.heap.objs.size:=by simpa using c
    exact VQ e.symm
   ·rw [aV a w]
end
noncomputable def tD:MF:=fun ds a=>match ds with
 | [.int i,.int j]=>some (.int (if j<i then j else i),a)
 | _=>none
noncomputable def tE:MF:=fun ds a=>match ds with
 | [.int i,.int j]=>some (.int (if j>i then j else i),a)
 | _=>none
theorem LP {K:Sw}:cY K tD (fun xs H Q=>∃ i j,xs=[.int i,.int j]/\Q (.int (if j<i then j else i)) H):=by
 intro l H n xs d h m Q R i a k
 unfold tD at a
 split at a
 ·cases a
  cases i with
  | cons i t=>
   cases i
   cases t with
   | cons c e=>
    cases c
    cases e
    exact ⟨_,_,rfl,k l _ H .refl R (.int _)⟩
 ·cases a
theorem LQ {K:Sw}:cY K tE (fun xs H Q=>∃ i j,xs=[.int i,.int j]/\Q (.int (if j>i then j else i)) H):=by
 intro l H n xs d h m Q R i a k
 unfold tE at a
 split at a
 ·cases a
  cases i with
  | cons i t=>
   cases i
   cases t with
   | cons c e=>
    cases c
    cases e
    exact ⟨_,_,rfl,k l _ H .refl R (.int _)⟩
 ·cases a
noncomputable def d5 {c:Type}(xs:List c)(lo a st:Option Int):List c:=(Z9 (Vi lo a st xs.length).1 (Vi lo a st xs.length).2.1 (Vi lo a st xs.length).2.2).filterMap (xs[·]?)
noncomputable def nU (a:ME)(lo e st:MO):ME:=fun c h=>(a c h).bind fun p=>(lo c p.2).bind fun q=>(e c q.2).bind fun r=>(st c r.2).bind fun t=>
 if t.1≠some 0 then (eQ t.2 p.1).bind fun d=>if (d5 d q.1 r.1 t.1).length<=SK then some (.loc t.2.length,t.2++[.lst (d5 d q.1 r.1 t.1)]) else none else none
theorem LR {K:Sw}{π:Nat->Addr}{n:Nat}{H:Hp}{vs:List V}{ds:List D}(h:IsDs K π n H vs ds)(lo a st:Option Int):IsDs K π n H (d5 vs lo a st) (d5 ds lo a st):=by
 unfold d5
 rw [h.length]
 generalize Z9 _ _ _=l
 induction l with
 | nil=>exact .nil
 | cons i l c=>
  rw [US,US]
  cases a:ds[i]? with
  | none=>
   have:vs[i]? = none:=by
    rw [UG] at a ⊢
    rw [h.length];exact a
   rw [this]
   exact c
  | some d=>
   obtain ⟨v,e,j⟩:=h.get a
   rw [e]
   exact .cons j c
theorem LS {vs:List V}{a:List Value}(r:Vals vs a)(lo c st:Option Int):Vals (d5 vs lo c st) (d5 a lo c st):=by
 unfold d5
 rw [r.length]
 generalize Z9 _ _ _=l
 induction l with
 | nil=>exact .nil
 | cons i l d=>
  rw [US,US]
  cases c:vs[i]? with
  | none=>
   have:a[i]? = none:=by
    rw [UG] at c ⊢
    rw [<- r.length];exact c
   rw [this]
   exact d
  | some v=>
   obtain ⟨u,e,h⟩:=r.get c
   rw [e]
   exact .cons h d
section
variable {X:Cx}{e:Expr}{te:TE}{lo hi:Option Expr}{st:Expr}{tl th tt:TO}{pos p2:UA}
noncomputable def LU (K:Sw)(te:TE)(tl th tt:TO):TE:=fun σ H Q=>te σ H fun x d=>tl σ d fun l h=>th σ h fun u i=>tt σ i fun t c=>t≠some 0/\∃ a xs,x=.ref a/\SqL K c a xs/\(d5 xs l u t).length<=SK/\∀ p,c p=none->Q (.ref p) (bA c p (.lst (d5 xs l u t)))
open PyProof.Rows in
theorem LV (O:PE X e te)(R:PO X lo tl)(U:PO X hi th)(T:PO X (some st) tt):PE X (.Subscript e (.Slice lo hi (some st) p2) pos) (LU X.K te tl th tt):=by
 intro c s j H Q I h
 refine Yx (aX (O c s j H _ I h) fun v s1 ⟨x,A,J,r1,q1⟩=>?_)
 refine wpAny_Slice (aX (R c s1 j A _ J q1) fun w s2 ⟨l,B,K,pl,q2⟩=>aX (U c s2 j B _ K q2) fun z s3 ⟨u,E,L,pu,q3⟩=>aX (T c s3 j E _ L q3) fun y d ⟨t,G,M,pt,q4⟩=>?_)
 obtain ⟨N,a,xs,rfl,Y,Z,q⟩:=q4
 cases r1
 have o:Inv X c j G { d with heap:=d.heap.push { cls:=.type "slice",data:=.fields #[w,z,y] } }:=M.kept (t':=d.toks) fun b ob q=>SS _ q
 obtain ⟨n,r,m,hz'⟩:=o.list Y
 have p:=r.length
 show Ti (Tq X.prog X.w) X.A (Xs e (.Slice lo hi (some st) p2) (.ref a) (.ref d.heap.objs.size)) (EP X c j Q) X.xe { d with heap:=d.heap.push { cls:=.type "slice",data:=.fields #[w,z,y] } }
 refine a1i (ops:=[.ref a,.ref d.heap.objs.size]) m.isList.typeIs XN.lookup ?_ (by with_unfolding_all rfl)
 refine YN m.isList (XJ ..) pl pu pt N ?_ (by rw [S3]<;>omega)
 have i:YY n.toArray l u t=(d5 n l u t).toArray:=by
  unfold YY d5
  simp
 rw [i]
 refine ⟨.ref _,_,o.laid (t':=d.toks) (o:=.lst (d5 xs l u t)) (fun b ob q=>SS _ q) (SM _) ?_,rfl,q _ (o.hok.fresh (SM _))⟩
 exact ⟨Z,_,0,LS r l u t,Tf _ rfl⟩
theorem LW {B:ME}{I G J:MO}(he:QE X e B)(hl:QO X lo I)(hu:QO X hi G)(ht:QO X (some st) J):QE X (.Subscript e (.Slice lo hi (some st) p2) pos) (nU B I G J):=⟨cT (LV he.h hl.h hu.h ht.h) (by
 rintro σ H Q ⟨π,o,μ,d,μ',R,E,a,k⟩
 obtain ⟨⟨x,h⟩,U,a⟩:=Su.mp a
 obtain ⟨⟨l,i⟩,Y,a⟩:=Su.mp a
 obtain ⟨⟨u,j⟩,Z,a⟩:=Su.mp a
 obtain ⟨⟨t,s⟩,h4,a⟩:=Su.mp a
 refine ⟨π,o,μ,x,h,R,E,U,fun v v1 H1 m L i1=>⟨v,o,h,l,i,L,E.mono m,Y,fun w H2 n R2=>⟨w,o,i,u,j,R2,(E.mono m).mono n,Z,fun y H3 r M=>⟨y,o,j,t,s,M,((E.mono m).mono n).mono r,h4,fun π4 H4 A z=>?_⟩⟩⟩⟩
 split at a
 ·rename_i T
  obtain ⟨xs,h5,a⟩:=Su.mp a
  split at a
  ·rename_i hz
   cases a
   obtain ⟨p,K,rfl,q,hd⟩:=mE z (((i1.mono n).mono r).mono A) h5
   have c:=LR hd l u t
   refine ⟨T,p,K,rfl,q,by rw [c.length];exact hz,fun p' hp=>?_⟩
   obtain ⟨O,N,_⟩:=z.alloc (c:=.lst (d5 xs l u t)) (o:=.lst (d5 K l u t)) hp c
   exact k _ _ _ ((((m.trans n).trans r).trans A).trans O) N jN
  ·cases a
 ·cases a)⟩
end
section
variable {X:Cx}{a1r:List (Addr×Obj)}{σ:St}{H:Hp}{s:SF}{h':Ua}
theorem LX {t':Nat}{ch:List Addr}{a:Addr}{o:HO}(I:Inv X a1r σ H s)(k:∀ b u,b∉ch->s.heap.get? b=some u->h'.get? b=some u)(j:∀ b∈ch,gP X a1r H b)(l:s.heap.objs.size<=a)
  (new:ObjOk X.prog X.w (bA H a o) h' a o):Inv X a1r σ (bA H a o) { s with heap:=h',toks:=t' }:=by
 have d:=I.hok.fresh l
 have h:∀ b u,H b=some u->b∉ch:=fun b u e z=>by
  have:=(j b z).1
  rw [e] at this;cases this
 refine I.step (g':=s.gens) (d':=s.drawn) (ch:=ch) (fun b i=>let ⟨L,y,M,A,B,E⟩:=j b i;⟨A,y,B,E⟩) (fun b o _ _ hc e _=>k b o hc e) (fun b o _ _ hc e _=>⟨o.slots,k b o hc e⟩) (fun b K hc e n=>?_)
  (fun b o hc e=>⟨o,k b o hc e⟩) (fun b p q=>?_) (fun b K p q=>?_) (fun b N q=>?_) (fun m G=>?_) (fun b u e=>?_) I.bare
 ·rw [bX (S9 (S6 (SO e) l))];exact n
 ·rw [bX (gO q d)];exact q
 ·rw [bX (gO q d)];exact q
 ·exact ⟨#[],by rw [bX (gO q d),q];simp⟩
 ·obtain ⟨o,x,w,J,r⟩:=G
  exact ⟨o,x,w,k _ o (fun z=>(j _ z).2.1 rfl) J,r⟩
 ·by_cases i:b=a
  ·subst i;rw [dX] at e;cases e;exact new
  ·rw [bX i] at e
   refine (I.hok b u e).stay (fun c v hc q=>k c v ?_ q) (fun c q=>by rw [bX (gO q d)];exact q) fun c p q=>by rw [bX (gO q d)];exact q
   rcases hc with z|z
   ·rw [z];exact h b u e
   ·exact h c _ z
theorem LY {t':Nat}{ch:List Addr}(I:Inv X a1r σ H s)(k:∀ b u,b∉ch->s.heap.get? b=some u->h'.get? b=some u)(d:∀ b∈ch,gP X a1r H b):Inv X a1r σ H { s with heap:=h',toks:=t' }:=by
 have a:∀ b u,H b=some u->b∉ch:=fun b u e z=>by
  have:=(d b z).1
  rw [e] at this;cases this
 refine I.step (g':=s.gens) (d':=s.drawn) (ch:=ch) (fun b y=>let ⟨G,l,J,p,w,x⟩:=d b y;⟨p,l,w,x⟩) (fun b o _ _ hc e _=>k b o hc e) (fun b o _ _ hc e _=>⟨o.slots,k b o hc e⟩) (fun b E hc e n=>n)
  (fun b o hc e=>⟨o,k b o hc e⟩) (fun b h q=>q) (fun b E h q=>q) (fun b K q=>⟨#[],by rw [q];simp⟩) (fun m A=>?_) (fun b u e=>?_) I.bare
 ·obtain ⟨o,j,i,B,r⟩:=A
  exact ⟨o,j,i,k _ o (fun z=>(d _ z).2.1 rfl) B,r⟩
 ·refine (I.hok b u e).stay (fun c v hc q=>k c v ?_ q) (fun c q=>q) fun c h q=>q
  rcases hc with z|z
  ·rw [z];exact a b u e
  ·exact a c _ z
end
noncomputable def wW (K:Sw)(a:Addr):It:=
 ⟨fun i H=>∃ c x,SqL K H a c/\c[i]? = some x,fun i H x d=>∃ p v,x=.ref p/\H p=none/\d=bA H p (.tup [.int i,v])/\∀ c,SqL K H a c->c[i]? = some v,fun i H=>∃ c,SqL K H a c/\c.length<=i⟩
theorem LZ {P:Tc}{w:Ts}{K:Sw}{es:List Expr}{kx:Nat}{pt:UA}(a e n:Addr)(y:e≠n) :
  Turn Qc P w K (.Tuple es kx pt) (wW K a) [e,n] e (fun i h=>∃ m,IsEnum h e n i m/\h.IsListIter n a i) where
 mem:=by simp
 obj:=fun i h ⟨m,st,l⟩ b q=>by
  have j:b=e\/b=n:=by simpa using q
  rcases j with rfl|rfl
  ·exact ⟨_,st,fun v z=>by
    have z':SR _=a1p v:=z
    cases z'⟩
  ·obtain ⟨o,L,c,d⟩:=l
   exact ⟨o,L,fun v z=>by rw [d] at z;cases z⟩
 keep:=fun i h h' ⟨m,st,l⟩ k=>⟨m,k e (by simp) _ st,l.at fun o L=>k n (by simp) o L⟩
 item:=by
  intro X O hw N hc i J s σ H E I B ⟨m,st,l⟩ T
  subst O hw N
  obtain ⟨xs,x,G,hx⟩:=T
  obtain ⟨its,rv,p,hz⟩:=I.list G
  obtain ⟨u,hu,ru⟩:=rv.get hx
  refine wpAny_pyNext_enum_item st l p.isList (x:=u) (by simpa using hu) y fun h1 ho U ht hsz hk=>⟨_,rfl,wpAny_letOwnedTupleGo_enum ho fun h2 Q r=>?_⟩
  have A:e<s.heap.objs.size:=SO st
  have Y:s.heap.objs.size≠e:=Xq A
  have ht2:h2.get? s.heap.objs.size=some { cls:=.type "tuple",data:=.seq #[.int i s.toks,u] }:=(r.2 _ Y).trans ht
  have R:H s.heap.objs.size=none:=I.hok.fresh (SM _)
  refine ⟨.ref s.heap.objs.size,bA H s.heap.objs.size (.tup [.int i,x]),?_,rfl,⟨s.heap.objs.size,x,rfl,R,rfl,fun ys hy=>by rw [I.list_inj hy G];exact hx⟩,⟨u,Q,U.extBut r.extBut (Ux y)⟩,fun b q=>?_⟩
  ·refine LX (s:=s) (h':=h2) (t':=s.toks+1) (ch:=[e,n]) I (fun b ob q M=>?_) B (SM _) ?_
   ·have j:b≠e/\b≠n:=by simpa using q
    exact (r.2 b j.1).trans (hk b ob j.1 j.2 M)
   ·exact ⟨by show (2:Nat)<=SK;decide,[.int i s.toks,u],.cons ⟨_,rfl⟩ (.cons ru .nil),_,ht2,rfl,0,rfl,rfl⟩
  ·have j:b=e\/b=n:=by simpa using q
   have hn:=(B b q).1
   obtain ⟨o,Z,_⟩:=l
   rw [bX]
   ·exact hn
   ·rcases j with rfl|rfl
    ·exact S9 A
    ·exact S9 (SO Z)
 done:=by
  intro X O hw N hc i J s σ H E I B ⟨m,st,l⟩ T
  subst O hw N
  obtain ⟨xs,G,hx⟩:=T
  obtain ⟨its,rv,p,hz⟩:=I.list G
  have hl:=rv.length
  refine wpAny_pyNext_enum_end (I.ok.hd hc) st l p.isList (by simp;omega) fun h' M=>⟨rfl,LY (t':=s.toks) (ch:=[e,n]) I (fun b o q z=>M b o ?_ z) B⟩
  have j:b≠e/\b≠n:=by simpa using q
  exact j.2
 self:=fun _ _ _ _ _ ⟨m,st,_⟩ h=>a0h st h
structure QJT (X:Cx)(e:Expr)(m:MI):Prop where
 h:∀ es k p,PI X (.Tuple es k p) e (iH X.K m)
theorem QJ.t {X:Cx}{e:Expr}{m:MI}(h:QJ X e m):QJT X e m:=⟨fun es k p=>h.h _⟩
noncomputable def kT (x:D):iZ:=fun a i=>(bS a x).map fun xs=>(xs[i]?).map fun d=>.tup [.int i,d]
noncomputable def jX (a:MA):MI:=fun e d=>(a e d).bind fun p=>match p.1 with
 | [x]=>(eQ p.2 x).map fun c=>(kT x,c.length+1,p.2)
 | _=>none
theorem L0 {K:Sw}{π:Nat->Addr}{u:Hm}{H:Hp}{v:V}{x:D}{xs:List D}(R:Rp K π H u)(h:IsD K π u.length H v x)(A:eQ u x=some xs):∃ a,v=.ref a/\(∃ vs,SqL K H a vs)/\Wk K (wW K a) (kT x) π u.length H:=by
 have hw:bS u x=some xs:=by
  cases x with
  | rol m=>exact A
  | loc b=>exact A
  | _=>cases A
 obtain ⟨p,vs,rfl,U,_⟩:=mE R h A
 refine ⟨p,rfl,⟨vs,U⟩,?_⟩
  -- the list as it stands l
 have l:∀ j c n,Ext π u.length H j c.length n->Rp K j n c->∀ m,bS c x=some m->∃ o,SqL K n p o/\IsDs K j c.length n o m:=fun j c n e r m L=>by
  have Y:=h.mono e
  have Q:eQ c x=some m:=by
   cases x with
   | rol zs=>exact L
   | loc b=>exact L
   | _=>cases A
  obtain ⟨p',o,M,s,w⟩:=mE r Y Q
  cases M
  exact ⟨o,s,w⟩
 refine ⟨fun j c n i e r z=>?_,fun j c n i d e r z=>?_⟩
 ·obtain ⟨m,E,B⟩:=SA.mp z
  obtain ⟨o,s,w⟩:=l j c n e r m E
  have G:m[i]? = none:=by
   cases q:m[i]? with
   | none=>rfl
   | some d=>rw [q] at B;cases B
  exact ⟨o,s,by rw [w.length];exact UG.mp G⟩
 ·obtain ⟨m,E,B⟩:=SA.mp z
  obtain ⟨d',G,N⟩:=SA.mp B
  subst N
  obtain ⟨o,s,w⟩:=l j c n e r m E
  obtain ⟨v,J,O⟩:=w.get G
  refine ⟨⟨o,v,s,J⟩,?_⟩
  rintro y Z ⟨t,v',rfl,T,rfl,X⟩
  have:=X o s
  rw [J] at this
  cases this
  obtain ⟨I,R2⟩:=r.fresh (o:=.tup [.int i,v]) T
  exact ⟨I,R2,.tup (.of dX) (.cons (.int _) (.cons (O.mono I) .nil))⟩
noncomputable def L1 (K:Sw)(d:TA):TI:=fun σ H R=>d σ H fun vs c=>∃ a,vs=[.ref a]/\(∃ xs,SqL K c a xs)/\R (wW K a) c
open PyProof.Rows in
theorem L4 {X:Cx}{a:Expr}{n:TA}{p pos pt:UA}{es:List Expr}{L:Nat}(z:Gl X "enumerate") (B:X.mg "enumerate" = none) (x:PA X [a] n)(G:Tu [a] X.env=[(false,eval a X.env)]):PI X (.Tuple es L pt) (.Call (.Name "enumerate" p) [a] [] pos) (L1 X.K n):=by
 intro e s o H R I h
 refine Call_ (kD I z B Boot.«enumerate» (callWith_type1 (aX (x pos e s o H _ I h) fun Y c ⟨Z,l,d,O,N⟩=>?_) G rfl))
 obtain ⟨v,rfl,⟨ws,E⟩,q⟩:=N
 obtain ⟨u,rfl,Q⟩:=f9 O
 cases Q
 obtain ⟨K,U,M,T⟩:=d.list E
 refine call_enumerate_list M.isList fun w m j J A=>?_
 refine a0h m ?_
 have r:Inv X e o l { c with heap:=w }:=d.kept (t':=c.toks) A
 refine ⟨c.heap.objs.size+1,[c.heap.objs.size+1,c.heap.objs.size],_,_,l,rfl,r,LZ v _ _ (Nat.succ_ne_self _),⟨_,m,j⟩,fun b y=>?_,q⟩
 have i:b=c.heap.objs.size+1\/b=c.heap.objs.size:=by simpa using y
 rcases i with rfl|rfl
 ·exact d.fpOk (Ww _) (d.hok.fresh (Ww _))
 ·exact d.fpOk (SM _) (d.hok.fresh (SM _))
theorem L5 {X:Cx}{a:Expr}{q:MA}{n:Nat}{p pos:UA}(d:Gl X "enumerate") (e:X.mg "enumerate" = none) (m:QA X [a] q n):QJT X (.Call (.Name "enumerate" p) [a] [] pos) (jX q):=⟨fun es N pt a1r s σ H R I hw=>by
 have o:=m.s
 rw [Tz,Sy] at o
 obtain ⟨L,M,J,B,O,K,u,E,c,k⟩:=hw
 obtain ⟨⟨x,i⟩,y,c⟩:=Su.mp c
 refine L4 d e m.h (eD o.1) a1r s σ H R I ⟨L,M,J,x,i,u,E,y,fun j Q r w l h=>?_⟩
 dsimp only at c
 split at c
 ·rename_i x
  obtain ⟨T,z,c⟩:=SA.mp c
  cases c
  cases h with
  | cons h G=>
   cases G
   obtain ⟨v,rfl,A,W⟩:=L0 l h z
   exact ⟨v,rfl,A,k j r _ w l W⟩
 ·cases c⟩
section
variable {X:Cx}{pos:UA}
theorem L6 {tg iter:Expr}{x:MI}{g:MG}{w:MS}{body:List Stmt}(K:PI X tg iter (iH X.K x))(I:QG X tg g)(G:QB X body w)(L:X8 (Tq X.prog X.w) X.A X.env X.xe)(hc:X.calm=true)(M:iG iter=true) :
  QS X (.For tg iter body [] pos) (fS x g w):=⟨iD (Gk L hc K I.h G.h (by intro z;cases iter<;>first|rfl|cases M)) (by
 rintro E U H ⟨Q,T,O,v,s,q,R,u,o,k⟩
 obtain ⟨⟨p,n,m⟩,B,o⟩:=Su.mp o
 refine ⟨Q,T,O,p,n,m,R,u,B,fun r y J j A W=>?_⟩
 have N:lO X.K E r m.length y v s q:=by
  cases v with
  | nx=>exact fun a c h l i e=>k a c h (j.trans l) i e
  | bk=>exact fun a c h l i e=>k a c h (j.trans l) i e
  | ct=>exact fun a c h l i e=>k a c h (j.trans l) i e
  | rt d=>exact KC.after k j
 exact Jk W N .refl A (u.mono j) o)⟩
theorem L7 {st:Stmt}{m j l:MS}(o:QS X st j)(p:QS X st l)(h:∀ c a r,m c a=some r->j c a=some r\/l c a=some r):QS X st m:=⟨fun a1r s σ H D I q=>by
 obtain ⟨n,c,a,i,e,d,R,E,u,k⟩:=q
 rcases h c a _ u with z|z
 ·exact o.h a1r s σ H D I ⟨n,c,a,i,e,d,R,E,z,k⟩
 ·exact p.h a1r s σ H D I ⟨n,c,a,i,e,d,R,E,z,k⟩⟩
noncomputable def mF (put:D->D->D->Hm->Option Hm)(o i v:ME):MS:=fun a d=>(v a d).bind fun p=>(o a p.2).bind fun q=>(i a q.2).bind fun r=>(put q.1 r.1 p.1 r.2).map fun c=>(.nx,a,c)
noncomputable def nV:D->D->D->Hm->Option Hm
 | .loc a,.int i,d,μ=>match μ[a]? with
  | some (.lst xs)=>(fM xs.length i).map fun j=>μ.set a (.lst (xs.set j d))
  | _=>none
 | _,_,_,_=>none
noncomputable def pQ:D->D->D->Hm->Option Hm
 | .loc a,k,d,μ=>match μ[a]? with
  | some (.dK kvs)=>(lV k).bind fun c=>if kvs.length<SK then some (μ.set a (.dK (nI kvs c d))) else none
  | _=>none
 | _,_,_,_=>none
noncomputable def mG:D->D->D->Hm->Option Hm:=fun o i d c=>match o with
 | .loc a=>match c[a]? with
  | some (.dK _)=>pQ o i d c
  | _=>nV o i d c
 | _=>none
noncomputable def fU:=mF mG
theorem Cu {K:Sw}{π:Nat->Addr}{n:Nat}{H:Hp}:∀ {vs:List V}{ds:List D}(j:Nat){v:V}{d:D},IsDs K π n H vs ds->IsD K π n H v d->IsDs K π n H (vs.set j v) (ds.set j d)
 | _,_,j,_,_,.nil,h=>by simp;exact .nil
 | _,_,0,_,_,.cons _ t,h=>.cons h t
 | _,_,j+1,_,_,.cons h0 t,h=>.cons h0 (Cu j t h)
noncomputable def L8 (h ty i:TE):TS:=fun D σ H=>i σ H fun v a=>h σ a fun x c=>ty σ c fun y d=>AJ x y v d fun e=>D.nx σ e
open PyProof.Rows in
theorem L9 {o i a:Expr}{d:UA}{j ty l:TE}(G:PE X o j)(E:PE X i ty)(K:PE X a l)(J:Wg a (some (.Subscript o i d)) pos.line X.env=pure false):PS X (.Assign [.Subscript o i d] a pos) (L8 j ty l):=by
 intro c s e H D I h
 refine Ze (aX (K c s e H _ I h) fun r Y ⟨v,m,w,R,M⟩=>aX (G c Y e m _ w M) fun u Z ⟨x,n,z,T,N⟩=>aX (E c Z e n _ z N) fun L s3 ⟨y,p,A,U,O⟩=>?_) J
 exact aX (Hh c s3 e p x y v u L r _ A T U R O) fun _ s4 ⟨q,B,Q⟩=>⟨e,q,B,Q⟩
theorem Ma {o i e:Expr}{U T Q:ME}{l:UA}(ho:QE X o U)(hi:QE X i T)(he:QE X e Q)(h:d4 e=true):QS X (.Assign [.Subscript o i l] e pos) (mF nV U T Q):=
 ⟨iD (L9 ho.h hi.h he.h (lY h)) (by
 rintro E σ H ⟨π,J,μ,fl,ρ',μ',R,p,c,k⟩
 obtain ⟨⟨x,m⟩,h1,c⟩:=Su.mp c
 obtain ⟨⟨y,n⟩,h2,c⟩:=Su.mp c
 obtain ⟨⟨z,A⟩,h3,c⟩:=Su.mp c
 obtain ⟨μ4,d,c⟩:=SA.mp c
 cases c
 refine ⟨π,J,μ,x,m,R,p,h1,fun B v1 H1 q Z i1=>⟨B,J,m,y,n,Z,p.mono q,h2,fun G v2 H2 r R2 i2=>⟨G,J,n,z,A,R2,(p.mono q).mono r,h3,fun I v3 H3 s K i3=>?_⟩⟩⟩
 dsimp only at d
 cases y with
 | loc a=>
  cases z with
  | int i=>
   simp only [nV] at d
   split at d
   ·rename_i Y O
    obtain ⟨j,h5,h6⟩:=SA.mp d
    subst h6
    obtain ⟨w,M,N⟩:=K.lst _ Y O
    have v:=i2.mono s
    cases v
    cases i3
    have u:=(SH.mp O).1
    have iv:=(i1.mono r).mono s
    refine ⟨_,w,i,j,rfl,rfl,M,by rw [N.length];exact h5,?_⟩
    obtain ⟨L,R4⟩:=K.put (c:=.lst (Y.set j x)) (o:=.lst (w.set j v1)) u M (.inl ⟨w,rfl⟩) (Cu j N iv)
    exact k I σ _ (((q.trans r).trans s).trans L) R4 ((((p.mono q).mono r).mono s).mono L)
   ·cases d
  | _=>simp [nV] at d
 | _=>simp [nV] at d)⟩
theorem Mb {l:Nat}(hr:Room l X.A){o i e:Expr}{Y U T:ME}{n:UA}(ho:QE X o Y)(hi:QE X i U)(he:QE X e T)(h:d4 e=true):QS X (.Assign [.Subscript o i n] e pos) (mF pQ Y U T):=
 ⟨iD (G0 (Hw hr) ho.h hi.h he.h (lY h)) (by
 rintro E σ H ⟨π,L,μ,fl,ρ',μ',R,r,c,k⟩
 obtain ⟨⟨x,p⟩,h1,c⟩:=Su.mp c
 obtain ⟨⟨y,q⟩,h2,c⟩:=Su.mp c
 obtain ⟨⟨z,G⟩,h3,c⟩:=Su.mp c
 obtain ⟨μ4,d,c⟩:=SA.mp c
 cases c
 refine ⟨π,L,μ,x,p,R,r,h1,fun I v1 H1 s R1 i1=>⟨I,L,p,y,q,R1,r.mono s,h2,fun J v2 H2 u R2 i2=>⟨J,L,q,z,G,R2,(r.mono s).mono u,h3,fun K v3 H3 v M i3=>?_⟩⟩⟩
 dsimp only at d
 cases y with
 | loc a=>
  simp only [pQ] at d
  split at d
  ·rename_i m Q
   obtain ⟨l,h5,w⟩:=Su.mp d
   split at w
   ·rename_i hl
    cases w
    obtain ⟨Z,O,h8,h9⟩:=M.dK _ m Q
    have B:=i2.mono v
    cases B
    have hk:=By i3 h5
    subst hk
    have A:=(SH.mp Q).1
    have iv:=(i1.mono u).mono v
    have j:=IsKs.of h8 h9
    refine ⟨_,_,rfl,DPut.k O (by rw [j.length];exact hl),?_⟩
    obtain ⟨N,R4⟩:=M.put (c:=.dK (nI m l x)) (o:=.dK (e6 Z l v1)) A O (.inr (.inl ⟨Z,rfl⟩)) (j.put iv l).maps
    exact k K σ _ (((s.trans u).trans v).trans N) R4 ((((r.mono s).mono u).mono v).mono N)
   ·cases w
  ·cases d
 | _=>simp [pQ] at d)⟩
theorem Mc {f m n:D->D->D->Hm->Option Hm}{l j i:ME}(h:∀ x y z c r,f x y z c=some r->m x y z c=some r\/n x y z c=some r):∀ e c r,mF f l j i e c=some r->mF m l j i e c=some r\/mF n l j i e c=some r:=by
 intro e c r a
 obtain ⟨p,o,a⟩:=Su.mp a
 obtain ⟨q,s,a⟩:=Su.mp a
 obtain ⟨t,u,a⟩:=Su.mp a
 obtain ⟨d,v,a⟩:=SA.mp a
 rcases h _ _ _ _ _ v with z|z
 ·exact .inl (Su.mpr ⟨p,o,Su.mpr ⟨q,s,Su.mpr ⟨t,u,SA.mpr ⟨d,z,a⟩⟩⟩⟩)
 ·exact .inr (Su.mpr ⟨p,o,Su.mpr ⟨q,s,Su.mpr ⟨t,u,SA.mpr ⟨d,z,a⟩⟩⟩⟩)
theorem Md {s:Nat}(q:Room s X.A){o i e:Expr}{p n m:ME}{c:UA}(l:QE X o p)(j:QE X i n)(d:QE X e m)(h:d4 e=true):QS X (.Assign [.Subscript o i c] e pos) (fU p n m):=
 L7 (Mb q l j d h) (Ma l j d h) (Mc fun x y z u r a=>by
  unfold mG at a
  split at a
  ·split at a
   ·exact .inl a
   ·exact .inr a
  ·cases a)
theorem Cv {st:Stmt}{i:Nat}:QS X st (aW i bK):=⟨fun a1r s σ H D I q=>by
 obtain ⟨j,l,h,e,d,c,R,E,a,k⟩:=q
 cases a⟩
noncomputable def tF:ME:=fun _ a=>some (.loc a.length,a++[.dK []])
theorem Me:QE X (.Dict [] [] pos) tF:=⟨cT G3 (by
 rintro o H Q ⟨m,n,l,d,i,R,E,e,k⟩ p h
 cases e
 obtain ⟨c,a,j⟩:=R.alloc (c:=.dK []) (o:=.dK []) h ⟨rfl,.nil⟩
 exact k _ _ _ c a jN)⟩
end
end L3
namespace L3
open PySem L2
noncomputable def dU {a:Type}(xs:List a)(k:Nat)(d:a):List a:=xs.take k++d::xs.drop k
noncomputable def nW:D->List D->Hm->Option (D×Hm)
 | .loc a,[.int i,d],μ=>match μ[a]? with
  | some (.lst xs)=>if 0<=i/\i<2 ^ 63/\xs.length<SK then some (.non,μ.set a (.lst (dU xs i.toNat d))) else none
  | _=>none
 | _,_,_=>none
noncomputable def Cw:V->List V->Hp->VK->Prop:=fun x vs H Q=>∃ l xs i y,x=.ref l/\vs=[.int i,y]/\H l=some (.lst xs)/\0<=i/\i<2 ^ 63/\xs.length<SK/\Q .non (bA H l (.lst (dU xs i.toNat y)))
theorem Mf {K:Sw}{π:Nat->Addr}{n:Nat}{H:Hp}{vs:List V}{ds:List D}(h:IsDs K π n H vs ds)(k:Nat){v:V}{d:D}(a:IsD K π n H v d):IsDs K π n H (dU vs k v) (dU ds k d):=
 (h.take k).append (.cons a (h.drop k))
theorem Vals.ins {xs:List V}{us:List Value}(h:Vals xs us)(k:Nat){v:V}{u:Value}(r:RelV v u):Vals (dU xs k v) (dU us k u):=(h.take k).append (.cons r (h.drop k))
section
variable {X:Cx}
theorem Mg {K:Sw}:jS K nW Cw:=by
 intro z H B x ds d y v A Q R s r a k
 unfold nW at a
 split at a
 ·split at a
  ·rename_i m l
   split at a
   ·rename_i c
    cases a
    cases r with
    | cons p u=>
     cases p
     cases u with
     | cons q w=>
      cases w
      cases s
      obtain ⟨h,i,j⟩:=R.lst _ m l
      have e:=(SH.mp l).1
      refine ⟨_,h,_,_,rfl,rfl,i,c.1,c.2.1,by rw [j.length];exact c.2.2,?_⟩
      obtain ⟨o,n⟩:=R.put (c:=.lst (dU m _ _)) (o:=.lst (dU h _ _)) e i (.inl ⟨h,rfl⟩) (Mf j _ q)
      exact k z _ _ o n .non
   ·cases a
  ·cases a
 ·cases a
theorem Mh (a:List Value)(k:Nat)(y:Value):(a.toArray.extract 0 (min k a.toArray.size)).push y++a.toArray.extract (min k a.toArray.size)=(dU a k y).toArray:=by
 apply Array.ext'
 simp only [dU,Array.toList_append,Array.toList_push,Array.toList_extract,S3]
 simp [List.extract_eq_drop_take]
 by_cases h:k<=a.length
 ·rw [Z2 h]
  simp
  rw [UC (by simp)]
 ·rw [Nat.min_eq_right (by omega)]
  simp
  rw [UC (by omega),Ym (by omega)]
theorem Mi:lL X "list.insert" Cw:=by
 intro m s L H x J v G Q I w p h
 obtain ⟨l,K,i,y,rfl,rfl,j,A,o,B,q⟩:=h
 cases w
 obtain ⟨u,c,rfl,⟨t,rfl⟩,d⟩:=p.two
 obtain ⟨z,a,n,r,E,e⟩:=I.lstM j
 refine W0 F.slot_list_insert ⟨_,e,rfl⟩ F.entry_list_insert (F.args_list_insert_3 _ _ _) (AutoSeq1.list_insert_list_int_val_1 l a.toArray n i t c (by
  rw [Ys (by omega) o];decide) (by rw [S3];omega)) ⟨e,?_⟩
 refine ⟨.non,_,I.lset (its':=dU a i.toNat c) j e ?_ (Vals.ins r _ d) ?_,rfl,q⟩
 ·show (a.toArray.extract 0 (if i<0 then (i+((a.toArray.size:Nat):Int)).toNat else min i.toNat a.toArray.size)).push c++a.toArray.extract (if i<0 then (i+((a.toArray.size:Nat):Int)).toNat else min i.toNat a.toArray.size)=_
  rw [if_neg (by omega)]
  exact Mh a i.toNat c
 ·unfold dU
  rw [SU,SY,Tw,T8]
  omega
end
noncomputable def pR:List D->Option (List Str)
 | []=>some []
 | .str x::r=>(pR r).map (x::·)
 | _=>none
noncomputable def eK (f:D->List D->Hm->Option (D×Hm))(c:ME)(d:MA):ME:=fun a e=>(c a e).bind fun p=>match p.1 with
 | .str x=>(d a p.2).bind fun q=>f (.str x) q.1 q.2
 | _=>none
section
variable {X:Cx}{e o:Expr}{mo:ME}{apos cpos:UA}{es:List Expr}{ms:MA}{n:Nat}
theorem Mj {K:Sw}{f:D->List D->Hm->Option (D×Hm)}{r:V->List V->Hp->VK->Prop}(A:jS K f r):∀ σ H Q,tM K (eK f mo ms) σ H Q->vQ K "str" r (tM K mo) (eC K ms) σ H Q:=by
 rintro σ H Q ⟨L,q,J,d,i,R,E,a,k⟩
 obtain ⟨⟨x,c⟩,w,a⟩:=Su.mp a
 cases x with
 | str z=>
  obtain ⟨⟨p,h⟩,y,a⟩:=Su.mp a
  refine ⟨L,q,J,_,c,R,E,w,fun j N M m u B=>?_⟩
  cases B
  refine ⟨rfl,j,q,c,p,h,u,E.mono m,y,fun l I s v R2 G=>?_⟩
  exact A l s h _ p d i _ I Q R2 (.str _) G a (k.after (m.trans v))
 | _=>cases a
theorem Cy {f:D->List D->Hm->Option (D×Hm)}{r:V->List V->Hp->VK->Prop}{name:Str}{id:String}(slot:Slot "str" name id) (d:typeOf (.builtin id)=pure (.type "method_descriptor")) (l:lL X id r)(i:jS X.K f r)
  (p:QE X o mo)(h:QA X (e::es) ms n)(q:sQ o=true)(j:(apos.endLine == cpos.line)=true)(m:(e::es).length<30):QE X (.Call (.Attribute o name apos) (e::es) [] cpos) (eK f mo ms):=by
 have c:=h.s
 have a:=c
 rw [Tz,Sy] at a
 exact ⟨cT (AK PySem.F.plainAttrs_str slot d l p.h h.h (pL q) (B4 c m) j (eD a.1) (iY a.2)) (Mj i)⟩
end
noncomputable def jY:D->List D->Hm->Option (D×Hm)
 | .str sep,[y],μ=>(eQ μ y).bind fun c=>(pR c).bind fun a=>if VT (a.toArray.foldl (·+·.length+sep.length) 0)=false/\(UI sep a).length<=SK then some (.str (UI sep a),μ) else none
 | _,_,_=>none
noncomputable def Cz (K:Sw):V->List V->Hp->VK->Prop:=fun x vs H Q=>∃ (a:Str)(p:Addr)(c:List Str),x=.str a/\vs=[.ref p]/\SqL K H p (c.map V.str)/\VT (c.toArray.foldl (·+·.length+a.length) 0)=false/\(UI a c).length<=SK/\Q (.str (UI a c)) H
theorem CA:∀ {ds:List D}{k:List Str},pR ds=some k->ds=k.map D.str
 | [],k,h=>by cases h;rfl
 | d::ds,k,h=>by
  cases d with
  | str i=>
   obtain ⟨e,a,c⟩:=SA.mp h
   subst c
   rw [CA a];rfl
  | _=>cases h
theorem strs_of' {K:Sw}{π:Nat->Addr}{n:Nat}{H:Hp}:∀ {vs:List V}{k:List Str},IsDs K π n H vs (k.map D.str)->vs=k.map V.str
 | _,[],h=>by cases h;rfl
 | _,i::k,h=>by
  cases h with
  | cons h t=>cases h;rw [strs_of' t];rfl
theorem Ml {K:Sw}:jS K jY (Cz K):=by
 intro r H y x ds d o v s Q R l j a k
 unfold jY at a
 split at a
 ·obtain ⟨w,e,a⟩:=Su.mp a
  obtain ⟨m,h,a⟩:=Su.mp a
  split at a
  ·rename_i c
   cases a
   cases l
   cases j with
   | cons i n=>
    cases n
    obtain ⟨p,u,rfl,q,hd⟩:=mE R i e
    rw [CA h] at hd
    have:=strs_of' hd
    subst this
    exact ⟨_,p,m,rfl,rfl,q,c.1,c.2,k r _ H .refl R (.str _)⟩
  ·cases a
 ·cases a
theorem CB:∀ {c:List Str}{a:List Value},Vals (c.map V.str) a->∃ l:List (Str×a0A),a=strValues l/\l.map (·.1)=c
 | [],_,h=>by cases h;exact ⟨[],rfl,rfl⟩
 | x::c,_,h=>by
  cases h with
  | cons h t=>
   obtain ⟨d,rfl⟩:=h
   obtain ⟨l,rfl,e⟩:=CB t
   exact ⟨(x,d)::l,rfl,by rw [SW,e]⟩
theorem Mm {X:Cx}:lL X "str.join" (Cz X.K):=by
 intro e s G H x E v B Q I y w h
 obtain ⟨d,p,A,rfl,rfl,j,i,c,q⟩:=h
 obtain ⟨t,rfl⟩:=y
 obtain ⟨u,rfl,o⟩:=w.one
 cases o
 obtain ⟨m,r,n,z⟩:=I.list j
 obtain ⟨l,rfl,rfl⟩:=CB r
 refine W0 F.slot_str_join (XA _ _ _) F.entry_str_join (F.args_str_join_2 _ _) (meets_str_join_list d t p l i) ⟨n.isList,?_⟩
 match l,c,q with
 | [],c,q=>exact ⟨c,.str _,H,I.tok _,⟨_,rfl⟩,q⟩
 | [a],c,q=>exact ⟨.str _,H,I,⟨_,rfl⟩,q⟩
 | a::b::r,c,q=>exact ⟨c,.str _,H,I.tok _,⟨_,rfl⟩,q⟩
noncomputable def eS (is:List Int):List Int:=is.mergeSort fun a b=>decide (a<=b)
theorem CC {is ns:List Int}(i:ns.Perm is)(j:ns.Pairwise (·<=·)):ns=eS is:=by
 have d:(eS is).Perm is:=YS _ _
 have e:(eS is).Pairwise (·<=·):=by
  have:=List.pairwise_mergeSort (le:=fun a b:Int=>decide (a<=b)) (fun a b c d e=>by simp only [decide_eq_true_eq] at *;omega) (fun a b=>by simp only [U4,decide_eq_true_eq];omega) is
  exact this.imp fun h=>by simpa using h
 exact List.Perm.eq_of_pairwise (le:=fun a b:Int=>a<=b) (fun a b _ _ d e=>by omega) j e (i.trans d.symm)
noncomputable def nX:MF:=fun ds a=>match ds with
 | [x]=>(eQ a x).bind fun d=>(kM d).bind fun c=>if c.length<64 then some (.loc a.length,a++[.lst ((eS c).map D.int)]) else none
 | _=>none
noncomputable def wX (K:Sw):List V->Hp->VK->Prop:=fun xs H Q=>∃ (p:Addr)(is:List Int),xs=[.ref p]/\SqL K H p (is.map V.int)/\is.length<64/\∀ l,H l=none->Q (.ref l) (bA H l (.lst ((eS is).map V.int)))
theorem Mn {K:Sw}:cY K nX (wX K):=by
 intro x H w u d o r Q R i a k
 unfold nX at a
 split at a
 ·obtain ⟨v,h,a⟩:=Su.mp a
  obtain ⟨c,j,a⟩:=Su.mp a
  split at a
  ·rename_i m
   cases a
   cases i with
   | cons i t=>
    cases t
    obtain ⟨p,s,rfl,q,hd⟩:=mE R i h
    rw [pP j] at hd
    have:=ints_of' hd
    subst this
    refine ⟨p,c,rfl,q,m,fun l n=>?_⟩
    obtain ⟨e,R2,_⟩:=R.alloc (c:=.lst ((eS c).map D.int)) (o:=.lst ((eS c).map V.int)) n (Cm _)
    exact k _ _ _ e R2 jN
  ·cases a
 ·cases a
theorem Mo {X:Cx}:CallR X (.builtin "sorted") (wX X.K):=by
 intro q s O H N M Q I r h
 obtain ⟨p,i,rfl,B,x,k⟩:=h
 obtain ⟨u,rfl,G⟩:=f9 r
 cases G
 obtain ⟨j,n,E,K⟩:=I.list B
 have a:=n.length
 rw [Sx] at a
 refine a0R E.isList (G7 n) (by omega) fun c l o m v=>?_
 obtain ⟨e,y⟩:=a0T s.heap j c
 have A:H (s.heap.objs.size+1)=none:=I.hok.fresh (Ww _)
 have w:l=eS i:=CC m v
 subst w
 refine ⟨.ref (s.heap.objs.size+1),_,I.laid (t':=s.toks) (a:=s.heap.objs.size+1) (o:=.lst ((eS i).map V.int)) (fun b L z=>a0S z) (Ww _) ?_,rfl,k _ A⟩
 have d:(eS i).length<=SK:=by
  have:=m.length_eq
  have J:=S4
  omega
 refine ⟨by rw [Sx];exact d,c.toList,e,vT o,?_⟩
 rw [y]
noncomputable def kU:MF:=nX
theorem Mp {K:Sw}:cY K kU (wX K):=Mn
end L3
namespace L3
open PySem L2
noncomputable def wY:List V->Hp->VK->Prop:=fun xs H Q=>∃ j:Int,xs=[.int j]/\-(2 ^ 62)<=j/\j<2 ^ 62/\∀ p,H p=none->Q (.ref p) (bA H p (.rng 0 j))
noncomputable def CD:List V->Hp->VK->Prop:=fun xs H Q=>∃ (p:Addr)(j:Int),xs=[.ref p]/\H p=some (.rng 0 j)/\0<=j/\j<=2 ^ 20/\∀ l,H l=none->Q (.ref l) (bA H l (.lst ((Td j.toNat).map fun (i:Nat)=>V.int (i:Int))))
section
variable {X:Cx}
theorem Mq:CallR X (.type "range") wY:=by
 intro a s m H l i Q I r h
 obtain ⟨j,rfl,c,d,k⟩:=h
 obtain ⟨u,rfl,t,rfl⟩:=f9 r
 refine call_range_1 ⟨.ref s.heap.objs.size,_,I.laid (a:=s.heap.objs.size) (o:=.rng 0 j) (fun b o e=>SS _ e) (SM _) ⟨_,_,_,Tf _ rfl⟩,rfl,k _ (I.hok.fresh (SM _))⟩
theorem Mr (hc:X.calm=true):CallR X (.type "list") CD:=by
 intro A s Z H Y U Q I r h
 obtain ⟨p,j,rfl,K,T,E,k⟩:=h
 obtain ⟨u,rfl,N⟩:=f9 r
 cases N
 obtain ⟨t,u,v,J⟩:=I.hok p _ K
 have w:Xk 0 j 1=((j.toNat:Nat):Int):=by
  rw [rangeSize_one];split<;>omega
 refine call_list_range (I.ok.hd hc) J (small_one (by decide) (by decide) (by omega) (by omega)) w (by omega) fun R O a B M G c=>?_
 refine ⟨.ref s.heap.objs.size,_,I.laid (t':=O) (a:=s.heap.objs.size) (o:=.lst ((Td j.toNat).map fun (i:Nat)=>V.int (i:Int))) M (SM _) ?_,rfl,k _ (I.hok.fresh (SM _))⟩
 refine ⟨by rw [Sx,Wv,S4];omega,a.toList,B,?_,by simpa using G⟩
 have o:a.toList.length=j.toNat:=by rw [U9];exact c.1
 have d:∀ (n m:Nat)(l:List Value),l.length=n->(∀ i v,l[i]? = some v->∃ t,v=Tg ((m+i:Nat):Int) t)->Vals ((Td n).map fun (i:Nat)=>V.int ((m+i:Nat):Int)) l:=by
  intro n
  induction n with
  | zero=>
   intro m l e _
   have:l=[]:=VG.mp e
   subst this
   exact .nil
  | succ n L=>
   intro m l e y
   match l,e with
   | x::l,e=>
    rw [VJ,SW,Tv]
    obtain ⟨t,rfl⟩:=y 0 x rfl
    refine .cons ⟨t,by simp⟩ ?_
    have:=L (m+1) l (by simpa using e) fun i v q=>by
     obtain ⟨t,rfl⟩:=y (i+1) v (by simpa using q)
     exact ⟨t,by rw [show m+(i+1)=m+1+i by omega]⟩
    refine cast (congrArg (fun z=>Vals z l) ?_) this
    refine UD fun i _=>?_
    show V.int ((m+1+i:Nat):Int)=V.int ((m+(i+1):Nat):Int)
    rw [show m+1+i=m+(i+1) by omega]
 have:=d j.toNat 0 a.toList o fun i v q=>by
  obtain ⟨t,rfl⟩:=c.2 i v (by rw [<- Yo];exact q)
  exact ⟨t,by simp⟩
 simpa using this
end
noncomputable def iL:MF:=fun ds a=>match ds with
 | [.int j]=>if 0<=j/\j<=2 ^ 20 then some (.loc a.length,a++[.lst ((Td j.toNat).map fun (i:Nat)=>D.int (i:Int))]) else none
 | _=>none
theorem Ms {K:Sw}{π:Nat->Addr}{n:Nat}{H:Hp}(l:List Nat):IsDs K π n H (l.map fun (i:Nat)=>V.int (i:Int)) (l.map fun (i:Nat)=>D.int (i:Int)):=by
 induction l with
 | nil=>exact .nil
 | cons i l a=>exact .cons (.int _) a
theorem Mt {K:Sw}{m:MA}:∀ σ H Q,tM K (aE iL m) σ H Q->m5 CD (u9 (m5 wY (eC K m)) rQ) σ H Q:=by
 rintro σ H Q ⟨A,G,y,d,z,R,E,a,k⟩
 obtain ⟨⟨L,c⟩,u,a⟩:=Su.mp a
 unfold iL at a
 split at a
 ·rename_i j h
  dsimp only at h
  subst h
  split at a
  ·rename_i e
   cases a
   refine ⟨A,G,y,_,c,R,E,u,fun B J I q n x=>?_⟩
   cases x with
   | cons i t=>
    cases i
    cases t
    refine ⟨j,rfl,by omega,by omega,fun p w=>?_⟩
    obtain ⟨r,R2⟩:=n.fresh (o:=.rng 0 j) w
    refine ⟨p,j,rfl,dX,e.1,e.2,fun l v=>?_⟩
    obtain ⟨s,o,_⟩:=R2.alloc (c:=.lst ((Td j.toNat).map fun (i:Nat)=>D.int (i:Int))) (o:=.lst ((Td j.toNat).map fun (i:Nat)=>V.int (i:Int))) v (Ms _)
    exact k _ _ _ ((q.trans r).trans s) o jN
  ·cases a
 ·cases a
theorem Mu {X:Cx}{e:Expr}{j:MA}{n:Nat}{p o pos a:UA}(hc:X.calm=true)(h:X.mg "list" = none) (i:X.mg "range" = none) (l:QA X [e] j n)(c:Gl X "list") (d:Gl X "range") :
  QE X (.Call (.Name "list" p) [.Call (.Name "range" o) [e] [] a] [] pos) (aE iL j):=by
 have m:=l.s
 rw [Tz,Sy] at m
 have q:PE X (.Call (.Name "range" o) [e] [] a) (m5 wY (eC X.K j)):=vA Mq d i Zp l.h (by decide) (by decide) (eD m.1) rfl
 exact ⟨cT (vA (Mr hc) c h VO (rS q rR) (by decide) (by decide)) Mt⟩
end L3
namespace L3
open PySem L2
noncomputable def gZ:D->List D->Hm->Option (D×Hm)
 | .str x,[.str y],μ=>some (.int (T3 x y 0 x.length (x.length+1)).length,μ)
 | _,_,_=>none
noncomputable def CF:V->List V->Hp->VK->Prop:=fun x vs H Q=>∃ (a b:Str),x=.str a/\vs=[.str b]/\Q (.int (T3 a b 0 a.length (a.length+1)).length) H
theorem Mv {K:Sw}:jS K gZ CF:=by
 intro j H n x m d h v l Q R e c a k
 unfold gZ at a
 split at a
 ·cases a
  cases e
  cases c with
  | cons i t=>
   cases i
   cases t
   exact ⟨_,_,rfl,rfl,k j _ H .refl R (.int _)⟩
 ·cases a
theorem Mw {X:Cx}:lL X "str.count" CF:=by
 intro c s n H x m v l Q I i e h
 obtain ⟨a,b,rfl,rfl,q⟩:=h
 obtain ⟨t,rfl⟩:=i
 obtain ⟨u,rfl,d⟩:=e.one
 obtain ⟨j,rfl⟩:=d
 refine call_gives F.slot_str_count (XA _ _ _) F.entry_str_count (F.args_str_count_2 _ _) (gives_str_count a b t j) ?_
 exact ⟨.int _,H,I.tok _,⟨_,rfl⟩,q⟩
noncomputable def g7 (is:List Int):Int:=is.getD (argBest (fun i j=>decide (is.getD i 0>is.getD j 0)) (is.length - 1)) 0
noncomputable def tG:MF:=fun ds c=>match ds with
 | [x]=>(eQ c x).bind fun d=>(kM d).bind fun a=>if 0<a.length then some (.int (g7 a),c) else none
 | _=>none
noncomputable def wZ (K:Sw):List V->Hp->VK->Prop:=fun xs H Q=>∃ (p:Addr)(is:List Int),xs=[.ref p]/\SqL K H p (is.map V.int)/\0<is.length/\Q (.int (g7 is)) H
theorem Mx {X:Cx}(hc:X.calm=true):CallR X (.builtin "max") (wZ X.K):=by
 intro z s O H N M Q I r h
 obtain ⟨p,x,rfl,E,J,q⟩:=h
 obtain ⟨u,rfl,G⟩:=f9 r
 cases G
 have A:X.A.in1.handled=none:=I.ok.hd hc
 obtain ⟨c,y,j,K⟩:=I.list E
 have a:c.toArray.size=x.length:=by rw [S3,<- y.length,Sx]
 refine call_max_walkS (Vr j.isList ?_)
 have l:p≠s.heap.objs.size:=by
  obtain ⟨o,n,_⟩:=j.isList
  exact S9 (SO n)
 refine ⟨s.heap.objs.size,_,_,_,_,_,_,_,rfl,(XR A _ p l c.toArray).toS,⟨⟨_,Tf _ rfl,rfl,rfl⟩,j.isList.push _⟩,?_,by omega,CmpOf.ints_gt (fun i=>x.getD i 0) (fun i v w=>nS y w),fun v L w m=>?_⟩
 ·intro b d
  show b<(s.heap.push _).objs.size
  rw [VL]
  obtain ⟨o,n,_⟩:=j.isList
  have B:=SO n
  simp only [TH,Vb,or_false] at d
  rcases d with rfl|rfl
  ·exact UY _
  ·exact Vk B
 ·refine ⟨.int (g7 x),H,sZ I m (fun b o e=>SS _ e) (fun b d=>?_) ⟨rfl,rfl,rfl⟩,?_,q⟩
  ·have e:b=s.heap.objs.size:=by simpa using d
   exact VQ e.symm
  ·obtain ⟨t,rfl⟩:=nS y w
   refine ⟨t,?_⟩
   rw [a];rfl
theorem My {K:Sw}:cY K tG (wZ K):=by
 intro m H u r d l n Q R i a k
 unfold tG at a
 split at a
 ·obtain ⟨s,e,a⟩:=Su.mp a
  obtain ⟨j,h,a⟩:=Su.mp a
  split at a
  ·rename_i c
   cases a
   cases i with
   | cons i t=>
    cases t
    obtain ⟨p,o,rfl,q,hd⟩:=mE R i e
    rw [pP h] at hd
    have:=ints_of' hd
    subst this
    exact ⟨p,j,rfl,q,c,k m _ H .refl R (.int _)⟩
  ·cases a
 ·cases a
noncomputable def jZ:MF:=fun ds a=>match ds with
 | [x]=>tG [x] a
 | _=>tE ds a
theorem Mz {K:Sw}{e:List V->Hp->VK->Prop}(m:cY K tE e):cY K jZ (fun xs H Q=>wZ K xs H Q\/e xs H Q):=by
 intro l H j xs d a h Q R i c k
 unfold jZ at c
 split at c
 ·exact .inl (My l H j _ d a h Q R i c k)
 ·exact .inr (m l H j _ d a h Q R i c k)
noncomputable def eT (is:List Int):Int:=is.getD (argBest (fun i j=>decide (is.getD i 0<is.getD j 0)) (is.length - 1)) 0
noncomputable def tH:MF:=fun ds c=>match ds with
 | [x]=>(eQ c x).bind fun d=>(kM d).bind fun a=>if 0<a.length then some (.int (eT a),c) else none
 | _=>none
noncomputable def w4 (K:Sw):List V->Hp->VK->Prop:=fun xs H Q=>∃ (p:Addr)(is:List Int),xs=[.ref p]/\SqL K H p (is.map V.int)/\0<is.length/\Q (.int (eT is)) H
theorem MB {X:Cx}(hc:X.calm=true):CallR X (.builtin "min") (w4 X.K):=by
 intro z s O H N M Q I r h
 obtain ⟨p,x,rfl,E,J,q⟩:=h
 obtain ⟨u,rfl,G⟩:=f9 r
 cases G
 have A:X.A.in1.handled=none:=I.ok.hd hc
 obtain ⟨c,y,j,K⟩:=I.list E
 have a:c.toArray.size=x.length:=by rw [S3,<- y.length,Sx]
 refine call_min_walkS (Vr j.isList ?_)
 have l:p≠s.heap.objs.size:=by
  obtain ⟨o,n,_⟩:=j.isList
  exact S9 (SO n)
 refine ⟨s.heap.objs.size,_,_,_,_,_,_,_,rfl,(XR A _ p l c.toArray).toS,⟨⟨_,Tf _ rfl,rfl,rfl⟩,j.isList.push _⟩,?_,by omega,CmpOf.ints_lt (fun i=>x.getD i 0) (fun i v w=>nS y w),fun v L w m=>?_⟩
 ·intro b d
  show b<(s.heap.push _).objs.size
  rw [VL]
  obtain ⟨o,n,_⟩:=j.isList
  have B:=SO n
  simp only [TH,Vb,or_false] at d
  rcases d with rfl|rfl
  ·exact UY _
  ·exact Vk B
 ·refine ⟨.int (eT x),H,sZ I m (fun b o e=>SS _ e) (fun b d=>?_) ⟨rfl,rfl,rfl⟩,?_,q⟩
  ·have e:b=s.heap.objs.size:=by simpa using d
   exact VQ e.symm
  ·obtain ⟨t,rfl⟩:=nS y w
   refine ⟨t,?_⟩
   rw [a];rfl
theorem MC {K:Sw}:cY K tH (w4 K):=by
 intro m H u r d l n Q R i a k
 unfold tH at a
 split at a
 ·obtain ⟨s,e,a⟩:=Su.mp a
  obtain ⟨j,h,a⟩:=Su.mp a
  split at a
  ·rename_i c
   cases a
   cases i with
   | cons i t=>
    cases t
    obtain ⟨p,o,rfl,q,hd⟩:=mE R i e
    rw [pP h] at hd
    have:=ints_of' hd
    subst this
    exact ⟨p,j,rfl,q,c,k m _ H .refl R (.int _)⟩
  ·cases a
 ·cases a
noncomputable def i7:MF:=fun ds a=>match ds with
 | [x]=>tH [x] a
 | _=>tD ds a
theorem MD {K:Sw}{e:List V->Hp->VK->Prop}(m:cY K tD e):cY K i7 (fun xs H Q=>w4 K xs H Q\/e xs H Q):=by
 intro l H j xs d a h Q R i c k
 unfold i7 at c
 split at c
 ·exact .inl (MC l H j _ d a h Q R i c k)
 ·exact .inr (m l H j _ d a h Q R i c k)
end L3
namespace L3
open PySem L2
end L3
namespace L3
open PySem L2
end L3
namespace L3
open PySem L2
end L3
namespace L3
open PySem L2
end L3
namespace L3
open PySem L2
end L3
namespace L3
open PySem L2
structure Sig where
 fn:List (Str×Nat)
 con:List (Str×D)
 tab:List (Str×List (aR×D))
 no:List Str
 dIt:List Str
 dEq:List Str
 dMe:List Str
 cls:List (Str×Str):=[]
 sup:List (Str×List Str):=[]
 rz:List Str:=[]
 uf:List (Str×Stmt):=[]
 ul:List (Str×Stmt):=[]
structure Cs where
 N:List Str
 ks:List (Str×Va)
noncomputable def eU (x:Str):List Str->Option Nat
 | []=>none
 | y::r=>if x=y then some 0 else (eU x r).map (·+1)
theorem i8 {x:Str}:∀ {N:List Str}{i:Nat},eU x N=some i->N[i]? = some x
 | [],_,h=>by cases h
 | y::r,i,h=>by
  unfold eU at h
  split at h
  ·rename_i e;cases h;subst e;rfl
  ·obtain ⟨j,a,c⟩:=SA.mp h
   subst c
   have:=i8 a
   simpa using this
noncomputable def glob (c:Cs)(x:Str):Bool:=decide (c.ks.lookup x=some .globalImplicit)&&!(x == ("__debug__":Str))
noncomputable def gQ (c:Cs)(x:Str):Bool:=(decide (c.ks.lookup x=some .local)||decide (c.ks.lookup x=some .cell)||decide (c.ks.lookup x=some .free))&&!(x == ("__debug__":Str))&&!(x == ("__classdict__":Str))
noncomputable def fV (c:Cs)(x:Str):Bool:=decide (c.ks.lookup x=some .local)||decide (c.ks.lookup x=some .cell)
noncomputable def w5 (x:Str):Option String:=
 if x = "int" then some "int" else if x = "bool" then some "bool" else if x = "str" then some "str" else if x = "list" then some "list" else if x = "tuple" then some "tuple" else if x = "dict" then some "dict" else none
theorem MH {x:Str}{n:String}(h:w5 x=some n):Ut x=some (.type n)/\x ≠ "__name__":=by
 unfold w5 at h
 split at h
 ·rename_i e;subst e;cases h;exact ⟨Zt,by decide⟩
 split at h
 ·rename_i e;subst e;cases h;exact ⟨Zv,by decide⟩
 split at h
 ·rename_i e;subst e;cases h;exact ⟨Zn,by decide⟩
 split at h
 ·rename_i e;subst e;cases h;exact ⟨VO,by decide⟩
 split at h
 ·rename_i e;subst e;cases h;exact ⟨Zl,by decide⟩
 split at h
 ·rename_i e;subst e;cases h;exact ⟨Zu,by decide⟩
 ·cases h
noncomputable def w6 (S:Sig)(c:Cs)(x:Str):ME:=
 if gQ c x=true then (match eU x c.N with|some i=>aA i|none=>bK)
 else if glob c x=true then (match S.con.lookup x with
  | some d=>mC d
  | none=>if S.no.contains x=true then (match w5 x with|some n=>mC (.ty n)|none=>bK) else bK)
 else bK
noncomputable def eV (r:Expr->ME):List Expr->MA
 | []=>aD
 | e::es=>aB (r e) (eV r es)
noncomputable def pS (a:BoolOp):List ME->ME
 | []=>bK
 | [m]=>m
 | m::r=>match a with
  | .And=>jM m (pS a r)
  | .Or=>vX m (pS a r)
noncomputable def tI (a:BoolOp):List MT->MT
 | []=>kL
 | [m]=>m
 | m::r=>match a with
  | .And=>nB m (tI a r)
  | .Or=>dR m (tI a r)
noncomputable def CG (c:Yz)(a b:ME):ME:=match c with
 | .Add=>aC aZ a b
 | .Sub=>aC dO a b
 | .Mult=>aC b8 a b
 | .FloorDiv=>aC cQ a b
 | .Mod=>aC bF a b
 | .Pow=>aC dS a b
 | _=>bK
noncomputable def tJ (c:Wo)(ns:Bool)(a b:ME):ME:=match c with
 | .Eq=>aC (aP false) a b
 | .NotEq=>aC (aP true) a b
 | .Lt=>aC gE a b
 | .LtE=>aC nF a b
 | .Gt=>aC jP a b
 | .GtE=>aC pH a b
 | .Is=>aC (fC false) a b
 | .IsNot=>aC (fC true) a b
 | _=>bK
noncomputable def nY (r:Expr->ME):Option Expr->MO
 | none=>dZ
 | some e=>dD (r e)
noncomputable def bH:MF:=fun ds c=>match ds with
 | [.loc a]=>match c[a]? with
  | some (.lst xs)=>some (.int xs.length,c)
  | some (.dK kvs)=>some (.int kvs.length,c)
  | some (.st ks)=>some (.int ks.length,c)
  | _=>none
 | _=>pI ds c
noncomputable def w8 (x:Str):Option MF:=
 if x = "len" then some bH
 else if x = "isinstance" then some lQ
 else if x = "list" then some iX
 else if x = "all" then some kQ
 else if x = "sorted" then some kU
 else if x = "sum" then some jW
 else if x = "min" then some i7 else if x = "max" then some jZ
 else none
noncomputable def MJ (K:Sw):List V->Hp->VK->Prop:=fun xs H Q=>wI K xs H Q\/(∃ a c,xs=[V.ref a]/\H a=some (.dK c)/\Q (.int c.length) H)\/∃ a L,xs=[V.ref a]/\H a=some (rY a L)/\Q (.int L.length) H
theorem MK {K:Sw}:cY K bH (MJ K):=by
 intro j H p s d h o Q R i c k
 unfold bH at c
 split at c
 ·rename_i a
  split at c
  ·rename_i u e
   refine .inl (Bw j H p _ d h o Q R i ?_ k)
   simp only [pI,bS,e]
   exact c
  ·rename_i n e
   cases c
   cases i with
   | cons i t=>
    cases t
    cases i
    obtain ⟨r,l,m,_⟩:=R.dK a n e
    refine .inr (.inl ⟨_,r,rfl,l,?_⟩)
    have:=congrArg Wa m
    rw [Sx,Sx] at this
    rw [this]
    exact k j _ H .refl R (.int _)
  ·rename_i q e
   cases c
   cases i with
   | cons i t=>
    cases t
    cases i
    obtain ⟨L,l,m,_⟩:=R.st a q e
    have:=congrArg Wa m
    rw [Sx] at this
    refine .inr (.inr ⟨_,L,rfl,l,?_⟩)
    rw [this]
    exact k j _ H .refl R (.int _)
  ·cases c
 ·exact .inl (Bw j H p _ d h o Q R i c k)
theorem ML {X:Cx}{x:Str}{f:MF}(a:X.calm=true)(c:X.A.units+64<V1)(h:w8 x=some f):∃ v r,Ut x=some v/\((∃ id,v=.builtin id)\/∃ T,v=.type T)/\CallR X v r/\cY X.K f r/\x ≠ "__name__":=by
 unfold w8 at h
 split at h
 ·rename_i e;subst e;cases h;exact ⟨_,_,Zs,.inl ⟨_,rfl⟩,call_lenM.or (call_lenD.or LG),MK,by decide⟩
 split at h
 ·rename_i e;subst e;cases h;exact ⟨_,_,Vq,.inl ⟨_,rfl⟩,Jw,Jv,by decide⟩
 split at h
 ·rename_i e;subst e;cases h;exact ⟨_,_,VO,.inr ⟨_,rfl⟩,Hl,Ju,by decide⟩
 split at h
 ·rename_i e;subst e;cases h;exact ⟨_,_,Zw,.inl ⟨_,rfl⟩,K0 a,KZ rfl,by decide⟩
 split at h
 ·rename_i e;subst e;cases h;exact ⟨_,_,Zo,.inl ⟨_,rfl⟩,Mo,Mp,by decide⟩
 split at h
 ·rename_i e;subst e;cases h;exact ⟨_,_,Zm,.inl ⟨_,rfl⟩,LO a,LN,by decide⟩
 split at h
 ·rename_i e;subst e;cases h;exact ⟨_,_,Zq,.inl ⟨_,rfl⟩,(MB a).or (GG a),MD LP,by decide⟩
 split at h
 ·rename_i e;subst e;cases h;exact ⟨_,_,Zr,.inl ⟨_,rfl⟩,(Mx a).or (GF a),Mz LQ,by decide⟩
 ·cases h
noncomputable def w9 (x:Str):Option MF:=
 w8 x
theorem MM {X:Cx}{x:Str}{f:MF}(a:X.calm=true)(c:X.A.units+64<V1)(h:w9 x=some f):∃ v r,Ut x=some v/\((∃ id,v=.builtin id)\/∃ T,v=.type T)/\CallR X v r/\cY X.K f r/\x ≠ "__name__":=by
 unfold w9 at h
 exact ML a c h
noncomputable def CH (m:Str)(n:Nat):Option (D->List D->Hm->Option (D×Hm)):=
 if n=1 then (if m = "append" then some jT
  else if m = "pop" then some kN
  else none)
 else if n=2 then (if m = "insert" then some nW else none)
 else none
noncomputable def xA (S:Sig)(F:Str->MF)(r:Expr->ME)(c:Cs)(f:Expr)(args:List Expr)(a:UA):ME:=match f with
 | .Name x _=>if glob c x&&args.all cF then (match S.fn.lookup x with
   | some n=>if args.length=n then aE (F x) (eV r args) else bK
   | none=>if S.no.contains x&&!args.isEmpty then (match w9 x with|some g=>aE g (eV r args)|none=>bK) else bK)
  else bK
 | .Attribute o m apos=>if sQ o&&(apos.endLine == a.line)&&args.all cF then (
   match CH m args.length with
   | some g=>iI g (r o) (eV r args)
   | none=>
    if m = "count" then (match args with|[b]=>eK gZ (r o) (eV r [b])|_=>bK) else
    if m = "join" then (match args with|[b]=>eK jY (r o) (eV r [b])|_=>bK) else
    bK)
  else bK
 | _=>bK
noncomputable def xB:Expr->Option (Expr×List Expr)
 | .Call f as [] _=>some (f,as)
 | _=>none
theorem MN {e f:Expr}{a:List Expr}(h:xB e=some (f,a)):∃ pos,e=.Call f a [] pos:=by
 unfold xB at h
 split at h
 ·cases h;exact ⟨_,rfl⟩
 ·cases h
noncomputable def i9:Expr->Option Str
 | .Name x _=>some x
 | _=>none
theorem nZ {e:Expr}{x:Str}(h:i9 e=some x):∃ p,e=.Name x p:=by
 unfold i9 at h
 split at h
 ·cases h;exact ⟨_,rfl⟩
 ·cases h
noncomputable def o1:List Expr->Option Expr
 | [e]=>some e
 | _=>none
theorem CI {l:List Expr}{e:Expr}(h:o1 l=some e):l=[e]:=by
 unfold o1 at h
 split at h
 ·cases h;rfl
 ·cases h
noncomputable def CJ (f:Expr)(args:List Expr):Option (Str×Str×Expr):=(i9 f).bind fun x=>(o1 args).bind fun a=>(xB a).bind fun g=>(i9 g.1).bind fun y=>(o1 g.2).map fun e=>(x,y,e)
theorem MP {f:Expr}{args:List Expr}{x y:Str}{e:Expr}(h:CJ f args=some (x,y,e)):∃ p d pos,f=.Name x p/\args=[.Call (.Name y d) [e] [] pos]:=by
 obtain ⟨o,i,h⟩:=Su.mp h
 obtain ⟨a,j,h⟩:=Su.mp h
 obtain ⟨g,l,h⟩:=Su.mp h
 obtain ⟨q,c,h⟩:=Su.mp h
 obtain ⟨n,m,h⟩:=SA.mp h
 cases h
 obtain ⟨p,rfl⟩:=nZ i
 obtain ⟨pos,rfl⟩:=MN l
 obtain ⟨d,c⟩:=nZ c
 exact ⟨p,d,pos,rfl,by rw [CI j,c,CI m]⟩
noncomputable def MQ (f:Expr)(args:List Expr):Option (Bool×Expr):=(CJ f args).bind fun t=>
 if t.1 = "list"/\t.2.1 = "range" then some (false,t.2.2) else
 none
noncomputable def CK:Bool->Str
 | false=>"range"
 | true=>"reversed"
noncomputable def lstM:Bool->MF
 | false=>iL
 | true=>iL
noncomputable def xC (S:Sig)(F:Str->MF)(r:Expr->ME)(c:Cs)(f:Expr)(args:List Expr)(a:UA):ME:=
 match MQ f args with
 | some (b,e)=>if glob c "list" && glob c (CK b)&&S.no.contains "list" && S.no.contains (CK b)&&cF e then aE (lstM b) (eV r [e]) else bK
 | none=>xA S F r c f args a
noncomputable def xD (S:Sig)(F:Str->MF)(r:Expr->ME)(c:Cs)(f:Expr)(args:List Expr)(a:UA):ME:=
 xC S F r c f args a
noncomputable def mH (c:Cs)(scope:UN)(xs:List Str):Bool:=
 (scope.names.all fun y=>decide (y.2≠.cell))&&decide (scope.kind=.function)&&(scope.names.all fun y=>decide (y.2≠.local)||decide (scope.names.lookup y.1=some .local)) &&
 (xs.all fun x=>decide (scope.names.lookup x=some .local))&&decide xs.Nodup&&(scope.names.all fun y=>decide (y.2≠.free)||decide (c.ks.lookup y.1=some .cell)||decide (c.ks.lookup y.1=some .free)) &&
 (scope.names.all fun y=>decide (y.2≠.local)||!(bJ xs c.N).contains y.1)&&decide (bJ xs c.N).Nodup&&(c.N.all fun y=>!xs.contains y||decide (scope.names.lookup (nG y)=none))
noncomputable def kW (c:Cs)(scope:UN)(xs:List Str):Cs:=
 ⟨bJ xs c.N++xs,scope.names.map fun (n,k)=>if (k == UR&&c.ks.lookup n == some .cell) then (n,U1) else (n,k)⟩
noncomputable def xE (r:Expr->MT):List Expr->MT
 | []=>cZ
 | [t]=>r t
 | _=>kL
noncomputable def n5 (S:Sig)(c:Cs):Expr->Option (List Expr)
 | .Call (.Name x _) args [] _=>if x = "range" then (if glob c x&&S.no.contains x&&args.all cF then some args else none) else none
 | _=>none
noncomputable def tK (S:Sig)(r:Expr->ME)(c:Cs)(e:Expr):MI:=match n5 S c e with
 | some [a]=>cN (eV r [a])
 | some _=>BV
 | none=>eJ (r e)
noncomputable def xF (S:Sig)(c:Cs):Expr->Option Expr
 | .Call (.Name x _) [a] [] _=>if x = "enumerate" then (if glob c x&&S.no.contains x&&cF a then some a else none) else none
 | _=>none
noncomputable def xG (S:Sig)(r:Expr->ME)(c:Cs)(e:Expr):MI:=match xF S c e with
 | some a=>jX (eV r [a])
 | none=>tK S r c e
noncomputable def xH (S:Sig)(r:Expr->ME)(c:Cs)(e:Expr):MI:=xG S r c e
noncomputable def xI:Expr->Option (List Str)
 | .Name x _=>some [x]
 | .Tuple es _ _=>es.mapM fun e=>match e with|.Name x _=>some x|_=>none
 | _=>none
noncomputable def xJ:Expr->Nat->BD
 | .Tuple ..,n=>sF n
 | _,_=>lS
noncomputable def tL (S:Sig)(r:Expr->ME)(c:Cs)(tg e:Expr):MI:=match tg with
 | .Tuple ..=>xH S r c e
 | _=>tK S r c e
noncomputable def pT (d:MI)(e:Cs->Expr->ME)(h:Cs->Expr->MT)(c:Cs)(elt tg iter:Expr)(ifs:List Expr)(scope:UN):ME:=match xI tg with
 | some a=>if mH c scope a&&iG iter then fT (xJ tg a.length) d (xE (h (kW c scope a)) ifs) (e (kW c scope a) elt) else bK
 | none=>bK
noncomputable def tN (S:Sig)(a:Cs->Expr->ME)(d:Cs->Expr->MT)(c:Cs)(elt tg iter:Expr)(ifs:List Expr)(scope:UN):ME:=
 pT (tL S (a c) c tg iter) a d c elt tg iter ifs scope
noncomputable def tP:Const->ME
 | .int i=>mC (.int i)
 | .bool b=>mC (.bl b)
 | .str s=>mC (.str s)
 | .none=>mC .non
 | _=>bK
noncomputable def CL (m:ME):UnaryOp->ME
 | .USub=>iF m
 | .Not=>lP m
 | _=>bK
noncomputable def xK (S:Sig)(r:Expr->ME)(a:Expr):List Wo->List Expr->ME
 | [op],[b]=>tJ op (iG b) (r a) (r b)
 | [op,op'],[b,b']=>(match jV op,jV op' with
  | some p,some q=>kS (fP p) (fP q) (r a) (r b) (r b')
  | _,_=>bK)
 | _,_=>bK
noncomputable def xM (r:Expr->ME):List (Option Expr)->List Expr->ME
 | [],[]=>tF
 | _,_=>bK
noncomputable def xO (S:Sig)(r:Expr->ME)(c:Cs)(a b:Expr):ME:=match b with
 | .Slice lo hi none _=>dN (r a) (nY r lo) (nY r hi)
 | .Slice lo hi (some st) _=>nU (r a) (nY r lo) (nY r hi) (nY r (some st))
 | b=>if lX b then aC aL (r a) (r b) else bK
noncomputable def xP (r:Expr->ME)(es:List Expr):ME:=if es.all cF then gS (eV r es) else bK
noncomputable def xQ (r:Expr->ME)(es:List Expr):ME:=if es.all cF then bU (eV r es) else bK
noncomputable def xR (S:Sig)(F:Str->MF)(r:Expr->ME)(c:Cs)(f:Expr)(args:List Expr)(a:UA):List V7->ME
 | []=>xD S F r c f args a
 | _=>bK
noncomputable def xS (S:Sig)(a:Cs->Expr->ME)(d:Cs->Expr->MT)(c:Cs)(elt:Expr)(scope:UN):List Comprehension->ME
 | [⟨tg,iter,ifs,0⟩]=>tN S a d c elt tg iter ifs scope
 | _=>bK
noncomputable def xT (S:Sig)(f:Expr)(args:List Expr):Option (Expr×Str):=match f with
 | .Name x _=>(match args with
  | [a,b]=>(match b with
   | .Name cn _=>if (x == "isinstance" && ((S.sup.lookup cn).isSome||(cn == "ValueError" && !S.sup.isEmpty)))=true then some (a,cn) else none
   | _=>none)
  | _=>none)
 | _=>none
theorem MU {S:Sig}{f:Expr}{args:List Expr}{a:Expr}{c:Str}(h:xT S f args=some (a,c)):(∃ p q,f=.Name "isinstance" p/\args=[a,.Name c q])/\((S.sup.lookup c).isSome=true\/c = "ValueError"):=by
 unfold xT at h
 split at h
 ·split at h
  ·split at h
   ·split at h
    ·rename_i hc
     cases h
     rw [Sy,beq_iff_eq,U4,Sy,beq_iff_eq] at hc
     rw [hc.1]
     exact ⟨⟨_,_,rfl,rfl⟩,hc.2.imp id (·.1)⟩
    ·cases h
   ·cases h
  ·cases h
 ·cases h
noncomputable def CM (S:Sig)(F:Str->MF)(d:Cs->Expr->ME)(e:Cs->Expr->MT)(c:Cs):Expr->ME
 | .Name x _=>w6 S c x
 | .Constant v _ _=>tP v
 | .BinOp a op b _=>CG op (d c a) (d c b)
 | .UnaryOp op a _=>CL (d c a) op
 | .Compare a ops bs _=>xK S (d c) a ops bs
 | .BoolOp op vs _=>pS op (vs.map (d c))
 | .IfExp t a b _=>iW (e c t) (d c a) (d c b)
 | .Tuple es _ _=>xP (d c) es
 | .List es _=>xQ (d c) es
 | .Dict keys values _=>xM (d c) keys values
 | .Subscript a b _=>xO S (d c) c a b
 | .Call f args kws cpos=>xR S F (d c) c f args cpos kws
 | .ListComp elt gs scope _=>xS S d e c elt scope gs
 | _=>bK
noncomputable def pU (r:Expr->ME)(e:Expr):MT:=if nK e then dP (r e) else kL
noncomputable def xU (S:Sig)(r:Expr->ME)(a:Expr)(ops:List Wo)(bs:List Expr)(p:UA):MT:=match ops,bs with
 | [op],[b]=>aM (tJ op (iG b) (r a) (r b))
 | [op,op'],[b,b']=>(match jV op,jV op' with
  | some p,some q=>aM (kS (fP p) (fP q) (r a) (r b) (r b'))
  | _,_=>kL)
 | ops,bs=>pU r (.Compare a ops bs p)
noncomputable def MV (r:Expr->ME)(t:MT)(a:Expr)(p:UA):UnaryOp->MT
 | .Not=>t
 | op=>pU r (.UnaryOp op a p)
noncomputable def CN (S:Sig)(d:Cs->Expr->ME)(h:Cs->Expr->MT)(c:Cs):Expr->MT
 | .BoolOp op vs _=>tI op (vs.map (h c))
 | .UnaryOp op a p=>MV (d c) (gC (h c a)) a p op
 | .Compare a ops bs p=>xU S (d c) a ops bs p
 | e=>pU (d c) e
noncomputable def tr (S:Sig)(F:Str->MF):Nat->(Cs->Expr->ME)×(Cs->Expr->MT)
 | 0=>(fun _ _=>bK,fun _ _=>kL)
 | n+1=>(CM S F (tr S F n).1 (tr S F n).2,CN S (tr S F n).1 (tr S F n).2)
structure XcOk (S:Sig)(K:Sw):Prop where
 sub:∀ x ys c,S.sup.lookup x=some ys->(S.sup.lookup c).isSome=true->pO K x c=some (ys.contains c)
 isx:∀ x ys c,S.sup.lookup x=some ys->(S.sup.lookup c).isSome=true->∃ C,i6 K c=some C/\gY K (.ref C) x=some (ys.contains c)
 isv:∀ x ys,S.sup.lookup x=some ys->gY K (.type "ValueError") x=some (ys.contains "ValueError")
 plain:∀ x ys,S.sup.lookup x=some ys->S.cls.lookup x=none->∃ C,ClsK K x C
structure Okx (S:Sig)(F:Str->MF)(k:Nat)(c:Cs)(X:Cx):Prop where
 N:X.N=c.N
 nd:X.N.Nodup
 ks:X.env.scope.names=c.ks
 kind:X.env.scope.kind=.function
 calm:X.calm=true
 room:Room k X.A
 never:X8 (Tq X.prog X.w) X.A X.env X.xe
 fn:∀ x n,S.fn.lookup x=some n->∃ (f:Addr)(fd:Ul)(ps:List Str),FnOk X.prog X.w X.K X.mg X.base eB k f fd ps (eI X.K n (F x))/\X.mg x=some (.ref f)/\T6 X.K (.ref f)=true/\Binds X.K fd ps []
 con:∀ x d,S.con.lookup x=some d->∃ v u,X.mg x=some u/\RelV v u/\∀ π n H,IsD X.K π n H v d
 tab:∀ x kvs,S.tab.lookup x=some kvs->TabOk X x kvs
 no:∀ x,S.no.contains x=true->X.mg x=none
 xc:XcOk S X.K
section
variable {S:Sig}{F:Str->MF}{k:Nat}{c:Cs}{X:Cx}
theorem mI (a:X.env.scope.names=c.ks){x:Str}(h:glob c x=true):Gl X x/\(x == ("__debug__":Str))=false:=by
 unfold glob at h
 rw [Sy] at h
 refine ⟨?_,by simpa using h.2⟩
 show X.env.scope.names.lookup x=_
 rw [a]
 exact of_decide_eq_true h.1
theorem CO (i:X.env.scope.names=c.ks){x:Str}(h:gQ c x=true):lJ X.env.scope x/\(x == ("__debug__":Str))=false/\(x == ("__classdict__":Str))=false:=by
 unfold gQ at h
 rw [Sy,Sy,U4,U4] at h
 obtain ⟨⟨a,d⟩,e⟩:=h
 refine ⟨?_,by simpa using d,by simpa using e⟩
 unfold lJ
 rw [i]
 rcases a with (a|a)|a
 ·exact .inl (of_decide_eq_true a)
 ·exact .inr (.inl (of_decide_eq_true a))
 ·exact .inr (.inr (of_decide_eq_true a))
theorem Okx.gl (O:Okx S F k c X){x:Str}(h:glob c x=true):Gl X x/\(x == ("__debug__":Str))=false:=mI O.ks h
theorem Okx.vis (O:Okx S F k c X){x:Str}(h:gQ c x=true):lJ X.env.scope x/\(x == ("__debug__":Str))=false/\(x == ("__classdict__":Str))=false:=CO O.ks h
theorem MW (O:Okx S F k c X)(x:Str)(pos:UA):QE X (.Name x pos) (w6 S c x):=by
 unfold w6
 split
 ·rename_i h
  obtain ⟨a,e,o⟩:=O.vis h
  split
  ·rename_i i p
   exact BC i (by rw [O.N];exact i8 p) a e o
  ·exact bN
 split
 ·rename_i h
  obtain ⟨a,e⟩:=O.gl h
  split
  ·rename_i d hd
   obtain ⟨v,u,m,r,i⟩:=O.con x d hd
   exact ⟨m9 (Fq a m r e) i⟩
  ·split
   ·rename_i q
    split
    ·rename_i n s
     obtain ⟨j,l⟩:=MH s
     exact J2 (O.no x q) j a l e
    ·exact bN
   ·exact bN
 ·exact bN
theorem gG {r:Expr->ME}(a:∀ e,QE X e (r e)):∀ (es:List Expr),es.all cF=true->QA X es (eV r es) es.length
 | [],_=>JS
 | e::es,h=>by
  rw [Tz,Sy] at h
  exact JT (a e) (gG a es h.2) h.1
theorem xV {r:Expr->ME}(a:∀ e,QE X e (r e))(d:BoolOp)(pos:UA):∀ (vs:List Expr),QE X (.BoolOp d vs pos) (pS d (vs.map r))
 | []=>bN
 | [e]=>JO (a e)
 | e::i::es=>by
  have h:=xV a d pos (i::es)
  cases d with
  | And=>exact JP (a e) h
  | Or=>exact JQ (a e) h
theorem CP {r:Expr->MT}(a:∀ e,QT X e (r e))(d:BoolOp)(pos:UA):∀ (vs:List Expr),QW X (.BoolOp d vs pos) (tI d (vs.map r))
 | []=>Ky
 | [e]=>by
  cases d with
  | And=>exact Ka (a e)
  | Or=>exact Kb (a e)
 | e::i::es=>by
  have h:=CP a d pos (i::es)
  cases d with
  | And=>exact Kc (a e) h
  | Or=>exact Kd (a e) h
theorem MX {a b:Expr}{i j:ME}(d:QE X a i)(e:QE X b j)(h:Yz)(pos:UA):QE X (.BinOp a h b pos) (CG h i j):=by
 cases h with
 | Add=>exact BI d e
 | Sub=>exact JC d e
 | Mult=>exact JD d e
 | FloorDiv=>exact JE d e
 | Mod=>exact JF d e
 | Pow=>exact JG d e
 | _=>exact bN
theorem MY (O:Okx S F k c X){a b:Expr}{i j:ME}(d:QE X a i)(e:QE X b j)(h:Wo)(pos:UA):QE X (.Compare a [h] [b] pos) (tJ h (iG b) i j):=by
 cases h with
 | Eq=>exact JI O.room d e
 | NotEq=>exact JJ O.room d e
 | Lt=>exact JK d e
 | LtE=>exact JL d e
 | Gt=>exact JM d e
 | GtE=>exact JN d e
 | Is=>exact LJ d e
 | IsNot=>exact LK d e
 | _=>exact bN
theorem MZ {e:Expr}:QT X e (aM bK):=⟨fun a1r s σ H Q I h=>by
 obtain ⟨l,m,j,d,i,R,E,a,k⟩:=h
 cases a⟩
theorem M0 (O:Okx S F k c X){a b:Expr}{i j:ME}(d:QE X a i)(e:QE X b j)(h:Wo)(pos:UA):QT X (.Compare a [h] [b] pos) (aM (tJ h (iG b) i j)):=by
 cases h with
 | Eq=>exact J3 O.room d e
 | NotEq=>exact J4 O.room d e
 | Lt=>exact J5 d e
 | LtE=>exact J6 d e
 | Gt=>exact J7 d e
 | GtE=>exact J8 d e
 | Is=>exact LL d e
 | IsNot=>exact LM d e
 | _=>exact MZ
theorem pV {r:Expr->ME}(a:∀ e,QE X e (r e)):∀ o:Option Expr,QO X o (nY r o)
 | none=>JW
 | some e=>JX (a e)
theorem M3 (O:Okx S F k c X){r:Expr->ME}(q:∀ e,QE X e (r e))(f:Expr)(args:List Expr)(j:UA):QE X (.Call f args [] j) (xA S F r c f args j):=by
 unfold xA
 split
 ·rename_i x p
  split
  ·rename_i s
   rw [Sy] at s
   obtain ⟨A,B⟩:=O.gl s.1
   have h:=gG q args s.2
   split
   ·rename_i n u
    split
    ·rename_i l
     obtain ⟨R,U,Y,G,a,M,E⟩:=O.fn x n u
     subst l
     cases args with
     | nil=>exact KU G O.room a M E A B
     | cons e w=>exact JZ G O.room a M E h A B
    ·exact bN
   ·split
    ·rename_i i
     rw [Sy] at i
     split
     ·rename_i g E
      obtain ⟨v,Z,I,N,J,K,L⟩:=MM (X:=X) O.calm O.room.units E
      cases args with
      | nil=>exact absurd i.2 (by simp)
      | cons e w=>
       rcases N with ⟨id,rfl⟩|⟨T,rfl⟩
       ·exact J0 J K (O.no x i.1) I h A L B
       ·exact J1 J K (O.no x i.1) I h A L B
     ·exact bN
    ·exact bN
  ·exact bN
 ·rename_i o m H
  split
  ·rename_i s
   rw [Sy,Sy] at s
   obtain ⟨⟨y,z⟩,Q⟩:=s
   have h:=gG q args Q
   split
   ·rename_i g a
    unfold CH at a
    split at a
    ·rename_i l
     cases args with
     | nil=>cases l
     | cons e w=>
      have u:(e::w).length<30:=by rw [l];decide
      split at a
      ·rename_i d;subst d;cases a
       exact wN PySem.F.slot_list_append PySem.F.type_list_append AO KN (q o) h y z u
      split at a
      ·rename_i d;subst d;cases a
       exact wN PySem.F.slot_list_pop PySem.F.type_list_pop Hq KQ (q o) h y z u
      ·cases a
    split at a
    ·rename_i l
     cases args with
     | nil=>cases l
     | cons e w=>
      have u:(e::w).length<30:=by rw [l];decide
      split at a
      ·rename_i d;subst d;cases a
       exact wN PySem.F.slot_list_insert PySem.F.type_list_insert Mi Mg (q o) h y z u
      ·cases a
    ·cases a
   ·skip
    split
    ·rename_i d
     subst d
     split
     ·exact Cy PySem.F.slot_str_count PySem.F.type_str_count Mw Mv (q o) h y z (by show 1<30;decide)
     ·exact bN
    split
    ·rename_i d
     subst d
     split
     ·exact Cy PySem.F.slot_str_join PySem.F.type_str_join Mm Ml (q o) h y z (by show 1<30;decide)
     ·exact bN
    ·exact bN
  ·exact bN
 ·exact bN
theorem M4 (O:Okx S F k c X){r:Expr->ME}(l:∀ e,QE X e (r e))(f:Expr)(args:List Expr)(a:UA):QE X (.Call f args [] a) (xC S F r c f args a):=by
 unfold xC
 split
 ·rename_i b e h
  split
  ·rename_i j
   rw [Sy,Sy,Sy,Sy] at j
   obtain ⟨⟨⟨⟨m,n⟩,s⟩,u⟩,st⟩:=j
   have q:=gG l [e] (by rw [Tz,st];rfl)
   obtain ⟨t,o,i⟩:=Su.mp h
   obtain ⟨p,w,v,rfl,rfl⟩:=MP o
   split at i
   ·rename_i d
    cases i
    rw [d.1,d.2]
    exact Mu O.calm (O.no _ s) (O.no _ u) q (O.gl m).1 (O.gl n).1
   ·cases i
  ·exact bN
 ·exact M3 O l f args a
theorem CQ (nd:X.N.Nodup)(i:X.N=c.N)(v:X.env.scope.names=c.ks){scope:UN}{xs:List Str}(h:mH c scope xs=true):CompSt X.env.scope X.N scope xs/\xs.Nodup:=by
 unfold mH at h
 rw [Sy,Sy] at h
 obtain ⟨⟨h,d⟩,s⟩:=h
 have d:=of_decide_eq_true d
 have e:∀ y∈c.N,xs.contains y=true->scope.names.lookup (nG y)=none:=fun y a hc=>by
  have:=TJ.mp s y a
  rw [hc] at this
  simpa using this
 simp only [Sy,TJ,decide_eq_true_eq,U4,VM,List.contains_eq_mem,decide_eq_false_iff_not] at h
 obtain ⟨⟨⟨⟨⟨⟨l,m⟩,n⟩,o⟩,r⟩,p⟩,q⟩:=h
 refine ⟨⟨l,m,fun y a j=>(n y a).resolve_left (fun z=>z j),o,fun y a u=>?_,fun y a j=>?_,nd,by rw [i];exact d,by rw [i];exact e⟩,r⟩
 ·rw [v]
  rcases p y a with (z|z)|z
  ·exact absurd u z
  ·exact .inl z
  ·exact .inr z
 ·rw [i]
  have:=(q y a).resolve_left (fun z=>z j)
  exact this
theorem pW (O:Okx S F k c X){scope:UN}{xs:List Str}(h:mH c scope xs=true):CompSt X.env.scope X.N scope xs/\xs.Nodup:=CQ O.nd O.N O.ks h
theorem CS {N xs:List Str}(h:N.Nodup)(d:xs.Nodup)(i:∀ x∈xs,x∉N):(N++xs).Nodup:=by
 rw [ZA]
 exact ⟨h,d,fun a j b l e=>by subst e;exact i _ l j⟩
theorem xW {scope:UN}{xs:List Str}(Q:CompSt X.env.scope X.N scope xs/\xs.Nodup):(bJ xs X.N++xs).Nodup:=CS Q.1.hnd Q.2 fun x a=>Q.1.own (x,.local) (Uc (Q.1.here x a)) rfl
theorem CT (a:X.env.scope.kind=.function)(e:X.env.scope.names=c.ks)(scope:UN)(xs:List Str):(a0m scope X.env).names=(kW c scope xs).ks:=by
 unfold a0m kW
 dsimp only
 refine UD fun y _=>?_
 obtain ⟨n,d⟩:=y
 dsimp only
 have:(X.env.scope.kind == ScopeKind.function)=true:=by rw [a];rfl
 rw [this,Bool.and_true]
 show (if (d == UR&&X.env.scope.names.lookup n == some U1)=true then _ else _)=_
 rw [e]
theorem Okx.comp (O:Okx S F k c X){scope:UN}{xs:List Str}(h:mH c scope xs=true){d:List (Str×Addr)}{C:Addr}{s₀:SF}{H₀:Hp}{e:List Addr}:Okx S F k (kW c scope xs) (cA X scope d C (bJ xs X.N++xs) s₀ H₀ e):=
 ⟨show bJ xs X.N++xs=bJ xs c.N++xs by rw [O.N],xW (pW O h),CT O.kind O.ks scope xs,(pW O h).1.kind,O.calm,O.room,YG,O.fn,O.con,fun y a q=>⟨(O.tab y a q).ex⟩,O.no
  ,O.xc
  ⟩
theorem xX {r:Expr->MT}(l:∀ e,QT X e (r e)):∀ es:List Expr,QI X es (xE r es)
 | []=>Kf
 | [t]=>Kg (l t)
 | a::b::es=>⟨fun i s q H Q I h=>by
   obtain ⟨o,p,n,d,m,R,E,j,k⟩:=h
   cases j⟩
theorem M5 (O:Okx S F k c X){e:Expr}{args:List Expr}(h:n5 S c e=some args):∃ p pos,e=.Call (.Name "range" p) args [] pos/\Gl X "range"/\X.mg "range" = none/\args.all cF=true:=by
 unfold n5 at h
 split at h
 ·split at h
  ·rename_i d
   subst d
   split at h
   ·rename_i a
    cases h
    rw [Sy,Sy] at a
    exact ⟨_,_,rfl,(O.gl a.1.1).1,O.no _ a.1.2,a.2⟩
   ·cases h
  ·cases h
 ·cases h
theorem CU (O:Okx S F k c X){r:Expr->ME}(d:∀ e,QE X e (r e))(e:Expr):QJ X e (tK S r c e):=by
 unfold tK
 split
 ·rename_i a h
  obtain ⟨p,m,rfl,i,j,l⟩:=M5 O h
  exact Kr i j (gG d [a] l)
 ·exact Kp
 ·exact Kq (d e)
theorem M6 (O:Okx S F k c X){e a:Expr}(h:xF S c e=some a):∃ p pos,e=.Call (.Name "enumerate" p) [a] [] pos/\Gl X "enumerate"/\X.mg "enumerate" = none/\cF a=true:=by
 unfold xF at h
 split at h
 ·split at h
  ·rename_i i
   subst i
   split at h
   ·rename_i d
    cases h
    rw [Sy,Sy] at d
    exact ⟨_,_,rfl,(O.gl d.1.1).1,O.no _ d.1.2,d.2⟩
   ·cases h
  ·cases h
 ·cases h
theorem M7 (O:Okx S F k c X){r:Expr->ME}(d:∀ e,QE X e (r e))(e:Expr):QJT X e (xG S r c e):=by
 unfold xG
 split
 ·rename_i a h
  obtain ⟨p,m,rfl,i,j,l⟩:=M6 O h
  exact L5 i j (gG d [a] (by rw [Tz,l];rfl))
 ·exact (CU O d e).t
theorem M8 (O:Okx S F k c X){r:Expr->ME}(a:∀ e,QE X e (r e))(e:Expr):QJT X e (xH S r c e):=by
 unfold xH
 exact M7 O a e
theorem xY (O:Okx S F k c X){r:Expr->ME}(a:∀ e,QE X e (r e))(tg e:Expr):PI X tg e (iH X.K (tL S r c tg e)):=by
 unfold tL
 split
 ·exact (M8 O a e).h _ _ _
 ·exact (CU O a e).h _
theorem xZ {iter:Expr}{env:Wx}(h:iG iter=true):∀ x,Vs iter env x=pure x:=by
 intro z
 cases iter<;>first|rfl|cases h
end
theorem CV {X:Cx}(d:X.N.Nodup):∀ (es:List Expr)(xs:List Str)(n:Nat),(es.mapM fun e=>match e with|.Name x _=>some x|_=>none)=some xs->(∀ j x,xs[j]? = some x->X.N[n+j]? = some x/\X.env.scope.names.lookup x=some .local)->QGs X es (VF n xs.length)
 | [],xs,n,h,hx=>by
  cases h
  exact BS
 | e::es,xs,n,h,hx=>by
  rw [List.mapM_cons] at h
  obtain ⟨x,c,h⟩:=Su.mp h
  obtain ⟨m,i,h⟩:=Su.mp h
  cases h
  cases e with
  | Name y p=>
   cases c
   rw [SY,ZN]
   have a:=hx 0 x rfl
   refine BU n d (CV d es m (n+1) i fun j z l=>?_) (by simpa using a.1) (.inl a.2) (.inr a.2)
   have:=hx (j+1) z (by simpa using l)
   rw [show n+1+j=n+(j+1) by omega]
   exact this
  | _=>cases c
theorem CW {c:Cs}{X:Cx}{scope:UN}{x:Str}{p:UA}(Q:CompSt X.env.scope X.N scope [x]/\[x].Nodup)(a:List (Str×Addr))(C:Addr)(s₀:SF)(H₀:Hp)(d:List Addr):PG (cA X scope a C (bJ [x] X.N++[x]) s₀ H₀ d) (.Name x p) (fB X.K (gB X.N.length lS)):=by
 have h:=xW Q
 have e:(a0m scope X.env).names.lookup x=some .local:=ZT (Q.1.here x (by simp))
 exact Ks (X:=cA X scope a C (bJ [x] X.N++[x]) s₀ H₀ d) (by show (bJ [x] X.N++[x]).length=_;rw [SU,lR];rfl) (Bt (X:=cA X scope a C (bJ [x] X.N++[x]) s₀ H₀ d) h (by show (bJ [x] X.N++[x])[X.N.length]? = _;rw [<- lR [x] X.N];simp) (.inl e) (.inr e))
theorem tQ {S:Sig}{F:Str->MF}{k:Nat}{c:Cs}{X:Cx}(O:Okx S F k c X){scope:UN}{tg:Expr}{xs:List Str}(a:xI tg=some xs)(h:mH c scope xs=true)(e:List (Str×Addr))(C:Addr)(s₀:SF)(H₀:Hp)(i:List Addr) :
  PG (cA X scope e C (bJ xs X.N++xs) s₀ H₀ i) tg (fB X.K (gB X.N.length (xJ tg xs.length)))/\∀ d o z,xJ tg xs.length d o=some z->z.length=xs.length:=by
 obtain ⟨St,hnd⟩:=pW O h
 have s:(bJ xs X.N++xs).Nodup:=CS St.hnd hnd fun x a=>St.own (x,.local) (Uc (St.here x a)) rfl
 have l:∀ x∈xs,(a0m scope X.env).names.lookup x=some .local:=fun x a=>ZT (St.here x a)
 unfold xI at a
 split at a
 ·rename_i x p
  cases a
  refine ⟨CW (c:=c) ⟨St,hnd⟩ e C s₀ H₀ i,fun d o z n=>?_⟩
  cases n
  rfl
 ·rename_i r w pt
  refine ⟨Kt (X:=cA X scope e C (bJ xs X.N++xs) s₀ H₀ i) (by show (bJ xs X.N++xs).length=_;rw [SU,lR]) (wK (X:=cA X scope e C (bJ xs X.N++xs) s₀ H₀ i) (CV (X:=cA X scope e C (bJ xs X.N++xs) s₀ H₀ i) s r xs X.N.length a fun j x q=>⟨?_,l x (Vn q)⟩) O.calm).h,fun d o z n=>?_⟩
  ·show (bJ xs X.N++xs)[X.N.length+j]? = some x
   rw [TU (by rw [lR];omega),lR,show X.N.length+j - X.N.length=j by omega]
   exact q
  ·obtain ⟨y,v,m⟩:=Su.mp n
   split at m
   ·rename_i u
    cases m
    rw [Sx];exact u
   ·cases m
 ·cases a
theorem M9 (O:Okx S F k c X){r:Expr->ME}(d:∀ e,QE X e (r e))(f:Expr)(args:List Expr)(a:UA):QE X (.Call f args [] a) (xD S F r c f args a):=by
 unfold xD
 exact M4 O d _ _ _
theorem CY {S:Sig}{F:Str->MF}{k:Nat}{o:Cs->Expr->ME}{p:Cs->Expr->MT}(r:∀ c X,Okx S F k c X->∀ e,QE X e (o c e))(u:∀ c X,Okx S F k c X->∀ e,QT X e (p c e))(c:Cs)(X:Cx)(O:Okx S F k c X)
  (elt tg iter:Expr)(ifs:List Expr)(scope:UN)(pos:UA){n:MI}(v:PI X tg iter (iH X.K n)):QE X (.ListComp elt [⟨tg,iter,ifs,0⟩] scope pos) (pT n o p c elt tg iter ifs scope):=by
 unfold pT
 split
 ·rename_i y m
  split
  ·rename_i h
   rw [Sy] at h
   refine ⟨fun j s x H Q I q=>?_⟩
   exact Kv ((pW O h.1).1.ok I.ok) O.calm v (fun d w z=>(tQ O m h.1 [] 0 s H []).2 d w z) (fun C i a l=>(tQ O m h.1 _ C i a l).1) (fun C i a l=>(xX (u _ _ (O.comp h.1)) _).h) (fun C i a l=>(r _ _ (O.comp h.1) _).h) (xZ h.2) j s x H Q I q
  ·exact bN
 ·exact bN
theorem Na {S:Sig}{F:Str->MF}{k:Nat}{d:Cs->Expr->ME}{h:Cs->Expr->MT}(a:∀ c X,Okx S F k c X->∀ e,QE X e (d c e))(i:∀ c X,Okx S F k c X->∀ e,QT X e (h c e))(c:Cs)(X:Cx)(O:Okx S F k c X)
  (elt tg iter:Expr)(ifs:List Expr)(scope:UN)(pos:UA):QE X (.ListComp elt [⟨tg,iter,ifs,0⟩] scope pos) (tN S d h c elt tg iter ifs scope):=by
 unfold tN
 exact CY a i c X O elt tg iter ifs scope pos (xY O (a c X O) tg iter)
section
variable {S:Sig}{F:Str->MF}{k:Nat}{c:Cs}{X:Cx}{r:Expr->ME}
theorem Nb (v:Const)(n:Nat)(p:UA):QE X (.Constant v n p) (tP v):=by
 cases v<;>first|exact BE|exact BF|exact BG|exact BH|exact bN
theorem Nc (h:∀ e,QE X e (r e))(d:UnaryOp)(a:Expr)(p:UA):QE X (.UnaryOp d a p) (CL (r a) d):=by
 cases d<;>first|exact JH (h _)|exact BJ (h _)|exact bN
theorem Nd (O:Okx S F k c X)(d:∀ e,QE X e (r e))(a:Expr)(ops:List Wo)(bs:List Expr)(p:UA):QE X (.Compare a ops bs p) (xK S r a ops bs):=by
 unfold xK
 split
 ·exact MY O (d _) (d _) _ _
 ·split
  ·rename_i h i
   exact LH h i (d _) (d _) (d _)
  ·exact bN
 ·exact bN
theorem Nf (O:Okx S F k c X)(d:∀ e,QE X e (r e))(a:List (Option Expr))(vs:List Expr)(p:UA):QE X (.Dict a vs p) (xM r a vs):=by
 unfold xM
 try split
 ·exact Me
 ·exact bN
theorem Ng (O:Okx S F k c X)(d:∀ e,QE X e (r e))(a b:Expr)(p:UA):QE X (.Subscript a b p) (xO S r c a b):=by
 unfold xO
 split
 ·exact JY (d _) (pV d _) (pV d _)
 ·exact LW (d _) (pV d _) (pV d _) (pV d _)
 ·split
  ·rename_i h
   ·exact Kz O.room (d _) (d _) h
  ·exact bN
theorem x4 (a:∀ e,QE X e (r e))(e:Expr):QT X e (pU r e):=by
 unfold pU
 split
 ·rename_i h;exact KS (a _) h
 ·exact sO
theorem Nh (O:Okx S F k c X)(d:∀ e,QE X e (r e))(a:Expr)(ops:List Wo)(bs:List Expr)(p:UA):QT X (.Compare a ops bs p) (xU S r a ops bs p):=by
 unfold xU
 split
 ·exact M0 O (d _) (d _) _ _
 ·split
  ·rename_i h i
   exact LI h i (d _) (d _) (d _)
  ·exact sO
 ·exact x4 d _
theorem Ni (a:∀ e,QE X e (r e))(es:List Expr)(n:Nat)(p:UA):QE X (.Tuple es n p) (xP r es):=by
 unfold xP
 split
 ·rename_i h;exact JU (gG a _ h)
 ·exact bN
theorem Nj (a:∀ e,QE X e (r e))(es:List Expr)(p:UA):QE X (.List es p) (xQ r es):=by
 unfold xQ
 split
 ·rename_i h;exact BK (gG a _ h)
 ·exact bN
theorem Nk (O:Okx S F k c X)(d:∀ e,QE X e (r e))(f:Expr)(args:List Expr)(a:List V7)(p:UA):QE X (.Call f args a p) (xR S F r c f args p a):=by
 unfold xR
 split
 ·exact M9 O d _ _ _
 ·exact bN
theorem Nl (gl:∀ {x:Str},glob c x=true->Gl X x/\(x == ("__debug__":Str))=false) (no:∀ x,S.no.contains x=true->X.mg x=none)(w:XcOk S X.K){a:Expr}{m:ME}(J:QE X a m){d:Str}{T U p:UA}(q:(S.sup.lookup d).isSome=true\/d = "ValueError") :
  QE X (.Call (.Name "isinstance" T) [a,.Name d U] [] p) (if glob c "isinstance" && S.no.contains "isinstance" && glob c d&&cF a&&(!(d == "ValueError")||S.no.contains "ValueError") then b9 (fun x=>(S.sup.lookup x).map fun e=>e.contains d) m else bK):=by
 split
 ·rename_i h
  rw [Sy,Sy,Sy,Sy] at h
  obtain ⟨⟨⟨⟨A,B⟩,o⟩,E⟩,O⟩:=h
  have K:∀ n,(∀ x e,S.sup.lookup x=some e->gY X.K n x=some (e.contains d))->∀ x b,(S.sup.lookup x).map (fun e=>e.contains d)=some b->gY X.K n x=some b:=fun n j x b R=>by
   obtain ⟨e,M,N⟩:=SA.mp R
   rw [<- N]
   exact j x e M
  by_cases j:d = "ValueError"
  ·subst j
   refine Ci (cv:=.type "ValueError") J E (gl A).1 (no _ B) (fun l s Y H Q I z=>?_) (K _ fun x e g=>w.isv x e g)
   have u:S.no.contains "ValueError" = true:=by simpa using O
   exact kD I (gl o).1 (no _ u) Zx z
  ·have hc:=q.resolve_right j
   obtain ⟨y,v⟩:=TN.mp hc
   obtain ⟨C,G,_⟩:=w.isx d y d v hc
   refine Ci (cv:=.ref C) J E (gl A).1 (no _ B) (fun l s Y H Q I z=>?_) (K _ fun x e g=>?_)
   ·exact iT I (gl o).1 (Vu I.mod.kin I.mod.glob (l9 G)) z (gl o).2
   ·obtain ⟨Z,i,L⟩:=w.isx x e d g hc
    rw [G] at i
    cases i
    exact L
 ·exact bN
end
theorem CZ {S:Sig}{F:Str->MF}{k:Nat}{o:Cs->Expr->ME}{q:Cs->Expr->MT}(z:∀ c X,Okx S F k c X->∀ e,QE X e (o c e))(A:∀ c X,Okx S F k c X->∀ e,QT X e (q c e))(c:Cs)(X:Cx)(O:Okx S F k c X) :
  (∀ e,QE X e (CM S F o q c e))/\∀ e,QT X e (CN S o q c e):=by
 have d:=z c X O
 have u:=A c X O
 constructor
 ·intro e
  cases e with
  | Name x p=>exact MW O _ _
  | Constant v n p=>exact Nb v n p
  | BinOp a j b p=>exact MX (d _) (d _) _ _
  | UnaryOp j a p=>exact Nc d j a p
  | Compare a h bs p=>exact Nd O d a h bs p
  | BoolOp j y p=>exact xV d _ _ _
  | IfExp t a b p=>exact JR (u _) (d _) (d _)
  | Tuple s n p=>exact Ni d s n p
  | List s p=>exact Nj d s p
  | Dict E y p=>exact Nf O d E y p
  | Subscript a b p=>exact Ng O d a b p
  | Call f l w m=>exact Nk O d f l w m
  | ListComp r B i p=>
   show QE X _ (xS S o q c r i B)
   unfold xS
   split
   ·exact Na z A c X O _ _ _ _ _ _
   ·exact bN
  | _=>exact bN
 ·intro e
  cases e with
  | BoolOp j y p=>exact Ke (CP u _ _ _)
  | UnaryOp j a p=>
   cases j
   case Not=>exact J9 (u _)
   all_goals exact x4 d _
  | Compare a h bs p=>exact Nh O d a h bs p
  | _=>exact x4 d _
theorem pX {S:Sig}{F:Str->MF}{k:Nat}:∀ (n:Nat),(∀ c X,Okx S F k c X->∀ e,QE X e ((tr S F n).1 c e))/\∀ c X,Okx S F k c X->∀ e,QT X e ((tr S F n).2 c e)
 | 0=>⟨fun c X O e=>bN,fun c X O e=>sO⟩
 | n+1=>by
  have a:=pX (S:=S) (F:=F) (k:=k) n
  exact ⟨fun c X O e=>(CZ a.1 a.2 c X O).1 e,fun c X O e=>(CZ a.1 a.2 c X O).2 e⟩
end L3
namespace L3
open PySem L2
noncomputable def tR:MG:=fun _ _ _=>none
noncomputable def pY (c:Cs):List Expr->Option (List Nat)
 | []=>some []
 | .Name x _::r=>if fV c x then (eU x c.N).bind fun i=>(pY c r).map (i::·) else none
 | _=>none
noncomputable def x5 (c:Cs):Expr->MG
 | .Name x _=>if fV c x then (match eU x c.N with|some i=>gW i|none=>tR) else tR
 | .Tuple es _ _=>match pY c es with|some a=>jR a|none=>tR
 | _=>tR
noncomputable def hJ (r:Stmt->MS):List Stmt->MS
 | []=>bP
 | [s]=>r s
 | s::t=>aN (r s) (hJ r t)
noncomputable def x6 (S:Sig)(E:Cs->Expr->ME)(T:Cs->Expr->MT)(c:Cs)(i:Nat):Expr->MS
 | .ListComp elt [⟨tg,iter,ifs,0⟩] scope _=>aW i (tN S E T c elt tg iter ifs scope)
 | _=>bW
noncomputable def x8 (S:Sig)(E:Cs->Expr->ME)(T:Cs->Expr->MT)(c:Cs)(tg e:Expr):MS:=match tg with
 | .Name y _=>if fV c y then (match eU y c.N with
   | some i=>if d4 e then aW i (E c e) else x6 S E T c i e
   | none=>bW) else bW
 | .Tuple es _ _=>if wL e then (match pY c es with|some a=>wH (E c e) (jR a)|none=>bW)
   else bW
 | .Subscript o i _=>if d4 e&&lX i then fU (E c o) (E c i) (E c e) else bW
 | _=>bW
noncomputable def n6:Nat:=1000000000
noncomputable def C0 (S:Sig)(E:Cs->Expr->ME)(T:Cs->Expr->MT)(c:Cs)(r:Stmt->MS):Stmt->MS
 | .Return (some e) _=>aY (E c e)
 | .Return none _=>aY (mC .non)
 | .If t a b _=>a9 (T c t) (hJ r a) (hJ r b)
 | .Assign [tg] e _=>x8 S E T c tg e
 | .Expr e _=>if d4 e then bC (E c e) else bW
 | .For tg iter body [] _=>if iG iter then fS (tL S (E c) c tg iter) (x5 c tg) (hJ r body) else bW
 | .While t body [] _=>nO n6 (T c t) (hJ r body)
 | .Pass _=>bP
 | _=>bW
section
variable {S:Sig}{F:Str->MF}{k:Nat}{c:Cs}{X:Cx}
theorem C1 (a:X.env.scope.names=c.ks){x:Str}(h:fV c x=true):L2.Loc X.env.scope x:=by
 unfold fV at h
 rw [U4] at h
 unfold L2.Loc
 rw [a]
 exact h.imp of_decide_eq_true of_decide_eq_true
theorem Okx.own (O:Okx S F k c X){x:Str}(h:fV c x=true):L2.Loc X.env.scope x:=C1 O.ks h
theorem x9 (O:Okx S F k c X)(a:∀ x,X.fn x=true):∀ (es:List Expr)(is:List Nat),pY c es=some is->QGs X es is
 | [],is,h=>by cases h;exact BS
 | e::es,is,h=>by
  cases e with
  | Name x p=>
   unfold pY at h
   split at h
   ·rename_i l
    obtain ⟨i,d,h⟩:=Su.mp h
    obtain ⟨m,j,h⟩:=SA.mp h
    subst h
    exact BU i O.nd (x9 O a es m j) (by rw [O.N];exact i8 d) (O.own l) (.inl (a x))
   ·cases h
  | _=>cases h
theorem Nm (O:Okx S F k c X)(d:∀ x,X.fn x=true)(e:Expr):QG X e (x5 c e):=by
 unfold x5
 split
 ·split
  ·rename_i h
   split
   ·rename_i i a
    exact Kl i O.nd (by rw [O.N];exact i8 a) (O.own h) (.inl (d _))
   ·exact sP fun _ _ _=>rfl
  ·exact sP fun _ _ _=>rfl
 ·split
  ·rename_i j a
   exact wK (x9 O d _ j a) O.calm
  ·exact sP fun _ _ _=>rfl
 ·exact sP fun _ _ _=>rfl
theorem iM {r:Stmt->MS}(a:∀ s,QS X s (r s)):∀ d:List Stmt,QB X d (hJ r d)
 | []=>Kh
 | [s]=>BP (a s)
 | s::t::ts=>Ki (a s) (iM a (t::ts))
theorem Nn {elt tg iter:Expr}{ifs:List Expr}{scope:UN}{pos py:UA}{y:Str}{n:Nat}{env:Wx} :
  ∃ b:Bool,Wg (.ListComp elt [⟨tg,iter,ifs,0⟩] scope pos) (some (.Name y py)) n env=pure b/\(b=true->env.kindOf y=some .local):=by
 refine ⟨env.blockKind == .function&&env.kindOf y == some .local&&py.line == pos.line&&!(scope.names.any fun (n,k)=>n == y&&(k == .local||k == .cell)),rfl,fun h=>?_⟩
 simp only [Sy,beq_iff_eq] at h
 exact h.1.1.2
theorem Np (O:Okx S F k c X)(G:∀ x,X.fn x=true){E:Cs->Expr->ME}{T:Cs->Expr->MT}(u:∀ c X,Okx S F k c X->∀ e,QE X e (E c e))(v:∀ c X,Okx S F k c X->∀ e,QT X e (T c e))
  {i:Nat}{y:Str}{py l:UA}(w:X.N[i]? = some y)(J:fV c y=true)(elt tg iter:Expr)(ifs:List Expr)(scope:UN)(pos:UA){B:MI}(n:PI X tg iter (iH X.K B)):QS X (.Assign [.Name y py] (.ListComp elt [⟨tg,iter,ifs,0⟩] scope pos) l) (aW i (pT B E T c elt tg iter ifs scope)):=by
  obtain ⟨b,m,r⟩:=Nn (elt:=elt) (tg:=tg) (iter:=iter) (ifs:=ifs) (scope:=scope) (pos:=pos) (py:=py) (y:=y) (n:=l.line) (env:=X.env)
  cases b with
  | false=>exact ⟨Bg O.nd w (O.own J) (CY u v c X O elt tg iter ifs scope pos n).h m (.inl (G y))⟩
  | true=>
   unfold pT
   split
   ·rename_i M A
    split
    ·rename_i h
     rw [Sy] at h
     refine ⟨fun o s L H D I q=>?_⟩
     exact Kw ((pW O h.1).1.ok I.ok) O.nd O.calm n (fun d K z=>(tQ O A h.1 [] 0 s H []).2 d K z) (fun C j a p=>(tQ O A h.1 _ C j a p).1) (fun C j a p=>(xX (v _ _ (O.comp h.1)) _).h) (fun C j a p=>(u _ _ (O.comp h.1) _).h) (xZ h.2) w (r rfl) m o s L H D I q
    ·exact Cv
   ·exact Cv
theorem Nq (O:Okx S F k c X)(j:∀ x,X.fn x=true){E:Cs->Expr->ME}{T:Cs->Expr->MT}(d:∀ c X,Okx S F k c X->∀ e,QE X e (E c e))(h:∀ c X,Okx S F k c X->∀ e,QT X e (T c e))
  {i:Nat}{y:Str}{py a:UA}(l:X.N[i]? = some y)(m:fV c y=true)(e:Expr):QS X (.Assign [.Name y py] e a) (x6 S E T c i e):=by
 unfold x6
 split
 ·exact Np O j d h l m _ _ _ _ _ _ (xY O (d c X O) _ _)
 ·exact cB
theorem Nr (O:Okx S F k c X)(j:∀ x,X.fn x=true){E:Cs->Expr->ME}{T:Cs->Expr->MT}(d:∀ c X,Okx S F k c X->∀ e,QE X e (E c e))(o:∀ c X,Okx S F k c X->∀ e,QT X e (T c e))(tg e:Expr)(pos:UA) :
  QS X (.Assign [tg] e pos) (x8 S E T c tg e):=by
 unfold x8
 split
 ·split
  ·rename_i n
   split
   ·rename_i i l
    have a:=i8 l
    rw [<- O.N] at a
    split
    ·rename_i m
     exact wJ i O.nd (d c X O e) m a (O.own n) (.inl (j _))
    ·exact Nq O j d o a n e
   ·exact cB
  ·exact cB
 ·split
  ·rename_i m
   split
   ·rename_i p l
    exact Kn (d c X O e) (wK (x9 O j _ p l) O.calm) m
   ·exact cB
  ·exact cB
 ·split
  ·rename_i h
   rw [Sy] at h
   exact Md O.room (d c X O _) (d c X O _) (d c X O _) h.1
  ·exact cB
 ·exact cB
theorem Nt (O:Okx S F k c X)(u:∀ x,X.fn x=true){E:Cs->Expr->ME}{T:Cs->Expr->MT}(l:∀ c X,Okx S F k c X->∀ e,QE X e (E c e))(n:∀ c X,Okx S F k c X->∀ e,QT X e (T c e)){r:Stmt->MS}(m:∀ s,QS X s (r s))(st:Stmt) :
  QS X st (C0 S E T c r st):=by
 cases st with
 | Return o p=>
  cases o with
  | none=>exact KY
  | some e=>exact BQ (l c X O _)
 | If t a b p=>exact BR (n c X O _) (iM m _) (iM m _)
 | Assign q e p=>
  cases q with
  | nil=>exact cB
  | cons v w=>
   cases w with
   | nil=>exact Nr O u l n _ _ _
   | cons _ _=>exact cB
 | Expr e p=>
  show QS X _ (if d4 e then bC (E c e) else bW)
  split
  ·rename_i h;exact Kk (l c X O _) h
  ·exact cB
 | For v j i d p=>
  cases d with
  | cons _ _=>exact cB
  | nil=>
   show QS X _ (if iG j then _ else bW)
   split
   ·rename_i h
    exact L6 (xY O (l c X O) _ _) (Nm O u _) (iM m _) O.never O.calm h
   ·exact cB
 | While t i d p=>
  cases d with
  | nil=>exact KW _ (n c X O _) (iM m _) O.never
  | cons _ _=>exact cB
 | Pass p=>exact Kj
 | _=>exact cB
end
noncomputable def cD (st:Stmt):List Str:=(eA st).args.map (·.arg)
noncomputable def dQ (st:Stmt):List Str:=cD st++(bL st).names.filterMap fun y=>if (y.2 == NameKind.local||y.2 == U1)&&!(cD st).contains y.1 then some y.1 else none
noncomputable def mJ (st:Stmt):Bool:=
 decide ((bL st).kind=.function)&&!(bL st).isCoroutine&&!(bL st).isGenerator&&decide (dQ st).Nodup &&
 ((cD st).all fun x=>decide ((bL st).names.lookup x=some .local)||decide ((bL st).names.lookup x=some .cell))&&((bL st).names.all fun y=>decide (y.2≠.free))
theorem C2 {st:Stmt}(h:mJ st=true):FnScope (dQ st) (cD st) (bL st):=by
 unfold mJ at h
 simp only [Sy,decide_eq_true_eq,VM,TJ,U4] at h
 obtain ⟨⟨⟨⟨⟨a,c⟩,d⟩,e⟩,i⟩,j⟩:=h
 exact ⟨a,c,d,e,by unfold dQ;simp,i,j⟩
noncomputable def n8:Nat:=40
noncomputable def n9:Nat:=40
noncomputable def mK (S:Sig)(G:Str->RF)(E:Expr->ME)(c:Cs):Expr->MR
 | .Call f args kws _=>(match f,args,kws with
  | .Name x _,e::es,[]=>if glob c x&&decide (S.fn.lookup x=some (e::es).length)&&(e::es).all cF&&S.rz.contains x then cP (G x) (eV E (e::es)) else bG
  | _,_,_=>bG)
 | _=>bG
noncomputable def tS:Option Expr->Option (Str×List Expr)
 | some (.Call f args kws _)=>(match f,kws with
  | .Name x _,[]=>some (x,args)
  | _,_=>none)
 | _=>none
theorem Nu {e:Option Expr}{x:Str}{args:List Expr}(h:tS e=some (x,args)):∃ p q,e=some (.Call (.Name x p) args [] q):=by
 unfold tS at h
 split at h
 ·split at h
  ·cases h;exact ⟨_,_,rfl⟩
  ·cases h
 ·cases h
noncomputable def tT (S:Sig)(k:Nat)(E:Expr->ME)(c:Cs)(x:Str)(args:List Expr):MR:=
 if glob c x then (match S.cls.lookup x with
  | some _=>bG
  | none=>(match args with
   | e::es=>if (S.sup.lookup x).isSome&&(e::es).all cF&&decide ((e::es).length<=30) then l8 x (eV E (e::es)) else bG
   | []=>bG)
  ) else bG
noncomputable def oA (N:Stmt->MS)(r:Stmt->MR):List Stmt->MR
 | []=>bG
 | s::t=>bO (N s) (r s) (oA N r t)
noncomputable def mL:List Expr->Bool
 | [t]=>(i9 t).isSome
 | _=>false
theorem Nv {tg:List Expr}(h:mL tg=true):∃ x p,tg=[.Name x p]:=by
 cases tg with
 | nil=>cases h
 | cons t a=>
  cases a with
  | cons _ _=>cases h
  | nil=>
   cases t with
   | Name x p=>exact ⟨x,p,rfl⟩
   | _=>cases h
noncomputable def C3 (S:Sig)(G:Str->RF)(k:Nat)(E:Expr->ME)(T:Expr->MT)(c:Cs)(N:Stmt->MS)(r:Stmt->MR):Stmt->MR
 | .Expr e _=>if d4 e then mK S G E c e else bG
 | .Return (some e) _=>mK S G E c e
 | .Assign tg e _=>if mL tg&&d4 e then mK S G E c e else bG
 | .If t a b _=>eE (T t) (oA N r a) (oA N r b)
 | .Raise e o _=>if o.isNone then (match tS e with
  | some q=>tT S k E c q.1 q.2
  | none=>bG) else bG
 | _=>bG
noncomputable def yA (S:Sig)(c:Cs):Expr->ME
 | .Name x _=>if gQ c x then (match eU x c.N with|some i=>aA i|none=>bK) else bK
 | _=>bK
noncomputable def tU:List Expr->Option (List Str)
 | []=>some []
 | e::r=>(i9 e).bind fun x=>(tU r).map (x::·)
noncomputable def yB (f:Expr)(args:List Expr):Option (Expr×List Str):=match f with
 | .Name x _=>if (x == "isinstance")=true then (match args with
  | [a,b]=>(match b with
   | .Tuple es _ _=>(tU es).map fun l=>(a,l)
   | _=>none)
  | _=>none) else none
 | _=>none
noncomputable def C4 (S:Sig)(U:Str->MF)(c:Cs)(r:Expr->ME)(f:Expr)(args:List Expr):ME:=match xT S f args with
 | some q=>if glob c "isinstance" && S.no.contains "isinstance" && glob c q.2&&cF q.1&&(!(q.2 == "ValueError")||S.no.contains "ValueError") then b9 (fun x=>(S.sup.lookup x).map fun d=>d.contains q.2) (r q.1) else bK
 | none=>(match yB f args with
  | some q=>if glob c "isinstance" && S.no.contains "isinstance" && cF q.1&&(q.2.all fun n=>glob c n&&(S.sup.lookup n).isSome)&&decide (q.2.length<=SK)&&!q.2.isEmpty then b9 (fun x=>((S.sup.lookup x).map fun d=>q.2.map fun n=>d.contains n).map fun b=>b.any id) (r q.1) else bK
  | none=>(match f with
   | .Name g _=>(match args with
    | [a]=>if glob c g&&cF a&&(S.uf.lookup g).isSome then aE (U g) (aB (r a) aD) else bK
    | _=>bK)
   | _=>bK))
noncomputable def C5 (S:Sig)(d:Cs->Expr->ME)(r:Expr->ME)(c:Cs)(elt:Expr)(scope:UN):List Comprehension->ME
 | [⟨tg,iter,ifs,0⟩]=>(match i9 tg with
  | some x=>(match n5 S c iter with
   | some [a]=>if mH c scope [x]&&iG iter then fT lS (cN (eV r [a])) (xE (fun e=>if nK e then aM (d (kW c scope [x]) e) else kL) ifs) (d (kW c scope [x]) elt) else bK
   | _=>bK)
  | none=>bK)
 | _=>bK
noncomputable def yC (S:Sig)(U:Str->MF)(q:Bool)(c:Cs)(d:Cs->Expr->ME)(r:Expr->ME):Expr->ME
 | .Constant v _ _=>tP v
 | .UnaryOp op a _=>(match op with
  | .Not=>lP (r a)
  | _=>bK)
 | .BoolOp op es _=>pS op (es.map r)
 | .Call f args kws _=>(match kws with
  | []=>C4 S U c r f args
  | _=>bK)
 | .List es _=>if es.all cF then bU (eV r es) else bK
 | .BinOp a op b _=>(match op with
  | .Add=>aC aZ (r a) (r b)
  | _=>bK)
 | .Subscript a b _=>if lX b then aC dY (r a) (r b) else bK
 | .ListComp elt gs scope _=>if q then C5 S d r c elt scope gs else bK
 | e=>yA S c e
noncomputable def kX (S:Sig)(U:Str->MF):Nat->Bool->Cs->Expr->ME
 | 0=>fun _ _ _=>bK
 | n+1=>fun q c=>yC S U q c (kX S U n false) (kX S U n q c)
noncomputable def pZ (c:Cs)(r:Expr->ME):Nat->Stmt->MS
 | 0=>fun _=>bW
 | n+1=>fun st=>match st with
  | .Return (some e) _=>aY (r e)
  | .If t a b _=>if nK t then a9 (aM (r t)) (hJ (pZ c r n) a) (hJ (pZ c r n) b) else bW
  | .Assign tg e _=>(match tg with
   | [t]=>(match i9 t with
    | some y=>if fV c y&&d4 e then (match eU y c.N with|some i=>aW i (r e)|none=>bW) else bW
    | none=>bW)
   | _=>bW)
  | _=>bW
noncomputable def mM:Nat:=9
noncomputable def tV (S:Sig)(q:Bool)(st:Stmt):MF:=pG (dQ st).length (hJ (pZ ⟨dQ st,(bL st).names⟩ (kX { S with uf:=[] } (fun _ _ _=>none) mM q ⟨dQ st,(bL st).names⟩) mM) (cJ st))
noncomputable def oB (S:Sig)(x:Str):MF:=match S.uf.lookup x with
 | some st=>tV S false st
 | none=>fun _ _=>none
noncomputable def jA (S:Sig)(x:Str):MF:=match S.ul.lookup x with
 | some st=>tV S true st
 | none=>fun _ _=>none
noncomputable def C6 (S:Sig)(c:Cs):Stmt->MS
 | .Assign tg e _=>(match tg with
  | [t]=>(match i9 t with
   | some y=>if fV c y&&d4 e then (match eU y c.N with|some i=>aW i (kX S (oB S) mM false c e)|none=>bW) else bW
   | none=>bW)
  | _=>bW)
 | _=>bW
noncomputable def yD (S:Sig)(c:Cs)(y:Str):List Stmt->Option (Str×Str)
 | [.Assign [t] e _]=>(i9 t).bind fun z=>(match e with
  | .Call f args kws _=>(match f,args,kws with
   | .Name g _,[.Name x _],[]=>if (S.ul.lookup g).isSome&&glob c g&&fV c z&&gQ c x&&(x == y) then some (z,g) else none
   | _,_,_=>none)
  | _=>none)
 | _=>none
noncomputable def yE (S:Sig)(c:Cs)(y:Str)(st:List Stmt):MS:=
 match yD S c y st with
 | some q=>(match eU q.1 c.N,eU y c.N with
  | some i,some j=>aW i (aE (jA S q.2) (aB (aA j) aD))
  | _,_=>bW)
 | none=>
 hJ (C6 S c) st
noncomputable def yF:List YW->Option (Str×Str×List Stmt)
 | [.ExceptHandler (some t) (some y) (b::bs) _]=>(match t with
  | .Name cn _=>some (cn,y,b::bs)
  | _=>none)
 | _=>none
theorem Nw {a:List YW}{q:Str×Str×List Stmt}(h:yF a=some q):∃ p c b bs,a=[.ExceptHandler (some (.Name q.1 p)) (some q.2.1) (b::bs) c]/\q.2.2=b::bs:=by
 unfold yF at h
 split at h
 ·split at h
  ·cases h;exact ⟨_,_,_,_,rfl,rfl⟩
  ·cases h
 ·cases h
noncomputable def C7 (S:Sig)(c:Cs)(N:Stmt->MS)(r:Stmt->MR)(body:List Stmt)(a:List YW):MS:=match yF a with
 | some q=>if glob c q.1&&(S.sup.lookup q.1).isSome&&decide (c.ks.lookup q.2.1=some .local) then (match eU q.2.1 c.N with
  | some i=>jU (hJ N body) (oA N r body) (fun x=>(S.sup.lookup x).map fun d=>d.contains q.1) i (yE S c q.2.1 q.2.2)
  | none=>bW) else bW
 | none=>bW
noncomputable def yG (S:Sig)(E:Cs->Expr->ME)(T:Cs->Expr->MT)(c:Cs)(N:Stmt->MS)(r:Stmt->MR):Stmt->MS
 | .Try body hs [] [] _=>C7 S c N r body hs
 | st=>C0 S E T c N st
noncomputable def iN (S:Sig)(F:Str->MF)(G:Str->RF)(k m:Nat)(c:Cs):Nat->(Stmt->MS)×(Stmt->MR)
 | 0=>(fun _=>bW,fun _=>bG)
 | n+1=>(yG S (tr S F m).1 (tr S F m).2 c (iN S F G k m c n).1 (iN S F G k m c n).2,C3 S G k ((tr S F m).1 c) ((tr S F m).2 c) c (iN S F G k m c n).1 (iN S F G k m c n).2)
noncomputable abbrev oC (l:Bool)(L:List (Str×Stmt))(U:Str->MF)(X:Cx):Prop:=∀ x,(L.lookup x).isSome=true->∃ (f:Addr)(a:Ul)(ps:List Str),FnU l X.prog X.w X.K X.mg X.base f a ps (eI X.K 1 (U x))/\X.mg x=some (.ref f)/\T6 X.K (.ref f)=true/\Binds X.K a ps []
structure Okr (S:Sig)(F:Str->MF)(G:Str->RF)(k:Nat)(c:Cs)(Y:Cx):Prop where
 o:Okx S F k c Y.nox
 ex:Y.ex=[]
 st:Y.stack=Y.env::Y.outer
 fr:∃ L,Y.env.frame=some L
 own:∀ x,Y.fn x=true
 rf:∀ x n,S.fn.lookup x=some n->∃ (f:Addr)(fd:Ul)(ps:List Str),FnOk Y.prog Y.w Y.K Y.mg Y.base (iJ Y.prog Y.w) k f fd ps (nQ Y.K n (G x))/\Y.mg x=some (.ref f)/\T6 Y.K (.ref f)=true/\Binds Y.K fd ps []
 uf:oC false S.uf (oB S) Y
 ul:oC true S.ul (jA S) Y
section
variable {S:Sig}{F:Str->MF}{G:Str->RF}{k:Nat}{c:Cs}{Y:Cx}
theorem yH (O:Okr S F G k c Y){E:Expr->ME}(o:∀ e,QE Y.nox e (E e))(e:Expr):QRE Y e (mK S G E c e):=by
 unfold mK
 split
 ·split
  ·split
   ·rename_i h
    rw [Sy,Sy,Sy,decide_eq_true_eq] at h
    obtain ⟨⟨⟨a,d⟩,i⟩,_⟩:=h
    obtain ⟨f,p,q,j,l,m,n⟩:=O.rf _ _ d
    exact Le O.ex j O.o.room (O.o.gl a).1 l m n (gG o _ i) (O.o.gl a).2
   ·exact wQ
  ·exact wQ
 ·exact wQ
theorem Nx (O:Okr S F G k c Y){E:Expr->ME}(m:∀ e,QE Y.nox e (E e))(x:Str)(args:List Expr)(p q pos:UA):QR Y (.Raise (some (.Call (.Name x p) args [] q)) none pos) (tT S k E c x args):=by
 unfold tT
 split
 ·rename_i a
  split
  ·exact iK
  ·rename_i n
   split
   ·split
    ·rename_i h
     rw [Sy,Sy,decide_eq_true_eq] at h
     obtain ⟨⟨d,i⟩,j⟩:=h
     obtain ⟨r,o⟩:=TN.mp d
     obtain ⟨C,l⟩:=O.o.xc.plain x r o n
     exact Lj l O.ex O.o.calm (O.o.gl a).1 (gG m _ i) j (O.o.gl a).2
    ·exact iK
   ·exact iK
 ·exact iK
theorem qA {N:Stmt->MS}{r:Stmt->MR}(a:∀ s,QS Y.nox s (N s))(d:∀ s,QR Y s (r s)):∀ e:List Stmt,QRB Y e (oA N r e)
 | []=>Lc
 | s::t=>Lb (a s) (d s) (qA a d t)
theorem Ny (O:Okr S F G k c Y){E:Expr->ME}{T:Expr->MT}(d:∀ e,QE Y.nox e (E e))(m:∀ e,QT Y.nox e (T e)){N:Stmt->MS}{r:Stmt->MR}(j:∀ s,QS Y.nox s (N s))(l:∀ s,QR Y s (r s))(st:Stmt):QR Y st (C3 S G k E T c N r st):=by
 cases st with
 | Expr e p=>
  show QR Y _ (if d4 e then mK S G E c e else bG)
  split
  ·rename_i h;exact K8 (yH O d _) h
  ·exact iK
 | Return o p=>
  cases o with
  | none=>exact iK
  | some e=>exact K9 (yH O d _)
 | Assign u e p=>
  show QR Y _ (if mL u&&d4 e then mK S G E c e else bG)
  split
  ·rename_i h
   rw [Sy] at h
   obtain ⟨x,p,rfl⟩:=Nv h.1
   exact La (yH O d _) h.2
  ·exact iK
 | If t a b p=>exact Ld (m _) (qA j l _) (qA j l _)
 | Raise e o p=>
  cases o with
  | some _=>exact iK
  | none=>
   show QR Y _ (match tS e with
    | some q=>tT S k E c q.1 q.2
    | none=>bG)
   split
   ·rename_i q n
    obtain ⟨x,i⟩:=q
    obtain ⟨v,w,rfl⟩:=Nu n
    exact Nx O d _ _ _ _ _
   ·exact iK
 | _=>exact iK
theorem Nz {X:Cx}(m:X.N=c.N)(n:X.env.scope.names=c.ks)(q:XcOk S X.K)(e:Expr):QE X e (yA S c e):=by
 have o:∀ x p i,gQ c x=true->eU x c.N=some i->QE X (.Name x p) (aA i):=fun x p i h a=>by
  obtain ⟨d,j,l⟩:=CO n h
  exact BC i (by rw [m];exact i8 a) d j l
 unfold yA
 split
 ·split
  ·rename_i h
   split
   ·rename_i i a;exact o _ _ i h a
   ·exact bN
  ·exact bN
 ·exact bN
theorem NA {f:Expr}{args:List Expr}{a:Expr}{l:List Str}(h:yB f args=some (a,l)):∃ p es j m,f=.Name "isinstance" p/\args=[a,.Tuple es j m]/\tU es=some l:=by
 unfold yB at h
 split at h
 ·split at h
  ·rename_i i
   cases beq_iff_eq.mp i
   split at h
   ·split at h
    ·obtain ⟨n,d,e⟩:=SA.mp h
     cases e
     exact ⟨_,_,_,_,rfl,rfl,d⟩
    ·cases h
   ·cases h
  ·cases h
 ·cases h
theorem C8 {X:Cx}(v:X.env.scope.names=c.ks)(d:X.K.In X.base)(q:X.base.Ns TQ X.mg)(m:XcOk S X.K):∀ {es:List Expr}{l:List Str},tU es=some l->(l.all fun n=>glob c n&&(S.sup.lookup n).isSome)=true->
  ∃ Cs,sV X es Cs/\Cs.length=l.length/\∀ x i,S.sup.lookup x=some i->Cs.map (fun C=>gY X.K (.ref C) x)=(l.map fun n=>i.contains n).map some
 | [],l,h,_=>by cases h;exact ⟨[],trivial,rfl,fun _ _ _=>rfl⟩
 | e::r,l,h,ha=>by
  obtain ⟨x,B,h⟩:=Su.mp h
  obtain ⟨K,z,A⟩:=SA.mp h
  cases A
  obtain ⟨p,rfl⟩:=nZ B
  rw [Tz,Sy,Sy] at ha
  obtain ⟨Cs,E,H,I⟩:=C8 v d q m z ha.2
  obtain ⟨o,j⟩:=TN.mp ha.1.2
  obtain ⟨C,s,_⟩:=m.isx x o x j ha.1.2
  have g:=mI (X:=X) v ha.1.1
  refine ⟨C::Cs,⟨g.1,Vu d q (l9 s),g.2,E⟩,by rw [SY,SY,H],fun y i u=>?_⟩
  obtain ⟨J,a,w⟩:=m.isx y i x u ha.1.2
  rw [s] at a
  cases a
  rw [SW,SW,SW,w,I y i u]
structure Okw (S:Sig)(U:Str->MF)(q:Bool)(c:Cs)(X:Cx):Prop where
 N:X.N=c.N
 nd:X.N.Nodup
 ks:X.env.scope.names=c.ks
 kind:X.env.scope.kind=.function
 no:∀ x,S.no.contains x=true->X.mg x=none
 xc:XcOk S X.K
 uf:oC false S.uf U X
 hd:S.uf≠[]->X.A.depth<VZ
 sf:q=true->Soft X
theorem trK_ok' {X:Cx}(v:Const)(j:Nat)(pos:UA):QE X (.Constant v j pos) (tP v):=by
 cases v with
 | int i=>exact BE
 | bool b=>exact BF
 | str s=>exact BG
 | none=>exact BH
 | _=>exact bN
theorem NB {c:Cs}{iter a:Expr}(h:n5 S c iter=some [a]):∃ e i,iter=.Call (.Name "range" e) [a] [] i/\glob c "range" = true/\S.no.contains "range" = true/\[a].all cF=true:=by
 unfold n5 at h
 split at h
 ·split at h
  ·rename_i d
   subst d
   split at h
   ·rename_i hc
    cases h
    rw [Sy,Sy] at hc
    exact ⟨_,_,rfl,hc.1.1,hc.1.2,hc.2⟩
   ·cases h
  ·cases h
 ·cases h
theorem qB {U:Str->MF}:∀ (n:Nat)(q:Bool)(c:Cs)(X:Cx),Okw S U q c X->∀ e:Expr,QE X e (kX S U n q c e)
 | 0,_,_,_,_,_=>bN
 | n+1,q,c,X,O,e=>by
  have m:=qB (U:=U) n q c X O
  show QE X e (yC S U q c (kX S U n false) (kX S U n q c) e)
  unfold yC
  split
  ·exact trK_ok' _ _ _
  ·split
   ·exact BJ (m _)
   ·exact bN
  ·exact xV m _ _ _
  ·split
   ·unfold C4
    split
    ·rename_i q v
     obtain ⟨a,cn⟩:=q
     obtain ⟨⟨p1,p2,rfl,rfl⟩,K⟩:=MU v
     exact Nl (mI O.ks) O.no O.xc (m a) K
    ·split
     ·rename_i q v
      obtain ⟨a,l⟩:=q
      obtain ⟨p,es,kt,tp,rfl,rfl,hl⟩:=NA v
      split
      ·rename_i h
       rw [Sy,Sy,Sy,Sy,Sy,decide_eq_true_eq] at h
       obtain ⟨⟨⟨⟨⟨E,J⟩,T⟩,Z⟩,h5⟩,h6⟩:=h
       refine ⟨fun o s w H Q I t=>?_⟩
       obtain ⟨Cs,t1,t2,t3⟩:=C8 O.ks I.mod.kin I.mod.glob O.xc hl Z
       refine (LB (sup:=fun x=>(S.sup.lookup x).map fun L=>l.map fun n=>L.contains n) (m a) T (mI O.ks E).1 (O.no _ J) t1 (by rw [t2];exact h5) fun x b hb=>?_).h o s w H Q I t
       obtain ⟨L,u,rfl⟩:=SA.mp hb
       refine ⟨t3 x L u,fun z=>?_⟩
       rw [List.map_eq_nil_iff] at z
       subst z
       cases h6
      ·exact bN
     ·split
      ·split
       ·split
        ·rename_i h
         rw [Sy,Sy] at h
         obtain ⟨f,fd,ps,u,y,A,R⟩:=O.uf _ h.2
         exact Ly u (O.hd fun z=>by rw [z] at h;cases h.2) y A R (gG m [_] (by rw [Tz,h.1.2];rfl)) (mI O.ks h.1.1).1 (mI O.ks h.1.1).2
        ·exact bN
       ·exact bN
      ·exact bN
   ·exact bN
  ·split
   ·rename_i h
    exact BK (gG m _ h)
   ·exact bN
  ·split
   ·exact BI (m _) (m _)
   ·exact bN
  ·split
   ·rename_i h
    exact BM (m _) (m _) h
   ·exact bN
  ·split
   ·rename_i v
    subst v
    unfold C5
    split
    ·split
     ·rename_i x hx
      obtain ⟨px,rfl⟩:=nZ hx
      split
      ·rename_i a ha
       split
       ·rename_i h
        rw [Sy] at h
        obtain ⟨p1,p2,rfl,u,y,A⟩:=NB ha
        have B:=CQ O.nd O.N O.ks h.1
        have M:∀ N C j i r,Okw S U false (kW c _ [x]) (cA X _ N C (bJ [x] X.N++[x]) j i r):=fun N C j i r=>⟨show bJ [x] X.N++[x]=bJ [x] c.N++[x] by rw [O.N],xW B,CT O.kind O.ks _ _,B.1.kind,O.no,O.xc,O.uf,O.hd,fun z=>nomatch z⟩
        refine ⟨fun o s w H Q I t=>?_⟩
        refine BZ (q:=Soft) (B.1.ok I.ok) (fun o w H s r I=>?_) (BW LF (mI O.ks u).1 (O.no _ y) (gG m [a] A)) (fun d μ z hz=>by cases hz;rfl) (fun C j i r=>CW (c:=c) B _ C j i r) (fun C j i r=>(xX (fun e=>?_) _).h) (fun C j i r=>(qB n false _ _ (M _ C j i r) _).h) (xZ h.2) o s w H Q I t
        ·obtain ⟨e,E,J,_⟩:=(O.sf rfl).at I
         exact ⟨e,E,J⟩
        ·split
         ·rename_i hp
          exact BO (qB n false _ _ (M _ C j i r) e) hp
         ·exact sO
       ·exact bN
      ·exact bN
     ·exact bN
    ·exact bN
   ·exact bN
  ·exact Nz O.N O.ks O.xc _
theorem yI {X:Cx}{c:Cs}{r:Expr->ME}(d:X.N=c.N)(nd:X.N.Nodup)(j:∀ {y:Str},fV c y=true->Loc X.env.scope y)(fn:∀ x,X.fn x=true)(a:∀ e,QE X e (r e)):∀ (n:Nat)(st:Stmt),QS X st (pZ c r n st)
 | 0,_=>cB
 | n+1,st=>by
  unfold pZ
  split
  ·exact BQ (a _)
  ·split
   ·rename_i h
    exact BR (BO (a _) h) (iM (yI d nd j fn a n) _) (iM (yI d nd j fn a n) _)
   ·exact cB
  ·split
   ·split
    ·rename_i y m
     obtain ⟨p,rfl⟩:=nZ m
     split
     ·rename_i h
      rw [Sy] at h
      split
      ·rename_i i l
       exact wJ i nd (a _) h.2 (by rw [d];exact i8 l) (j h.1) (.inl (fn _))
      ·exact cB
     ·exact cB
    ·exact cB
   ·exact cB
  ·exact cB
theorem NC (O:Okr S F G k c Y)(v:Value)(st:Stmt):QS (Y.hnd v) st (C6 S c st):=by
 have a:∀ e,QE (Y.hnd v) e (kX S (oB S) mM false c e):=qB mM false c (Y.hnd v) ⟨O.o.N,O.o.nd,O.o.ks,O.o.kind,O.o.no,O.o.xc,O.uf,fun _=>O.o.room.depth,fun z=>nomatch z⟩
 cases st with
 | Assign j e p=>
  cases j with
  | nil=>exact cB
  | cons t l=>
   cases l with
   | cons _ _=>exact cB
   | nil=>
    cases t with
    | Name y p=>
     show QS _ _ (if fV c y&&d4 e then (match eU y c.N with|some i=>aW i _|none=>bW) else bW)
     split
     ·rename_i h
      rw [Sy] at h
      split
      ·rename_i i d
       exact wJ (X:=Y.hnd v) i O.o.nd (a _) h.2 (by show Y.N[i]? = _;rw [show Y.N=c.N from O.o.N];exact i8 d) (O.o.own h.1) (.inl (O.own _))
      ·exact cB
     ·exact cB
    | _=>exact cB
 | _=>exact cB
theorem ND {c:Cs}{y z g:Str}{st:List Stmt}(h:yD S c y st=some (z,g)):∃ d p py n o,st=[.Assign [.Name z d] (.Call (.Name g p) [.Name y py] [] n) o]/\(S.ul.lookup g).isSome=true/\glob c g=true/\fV c z=true/\gQ c y=true:=by
 unfold yD at h
 split at h
 ·obtain ⟨q,m,a⟩:=Su.mp h
  clear h
  obtain ⟨d,rfl⟩:=nZ m
  split at a
  ·split at a
   ·split at a
    ·rename_i hc
     cases a
     rw [Sy,Sy,Sy,Sy,beq_iff_eq] at hc
     obtain ⟨⟨⟨⟨e,i⟩,j⟩,l⟩,rfl⟩:=hc
     exact ⟨_,_,_,_,_,rfl,e,i,j,l⟩
    ·cases a
   ·cases a
  ·cases a
 ·cases h
theorem NF (O:Okr S F G k c Y)(y:Str)(e:Addr)(st:List Stmt):QBh (Y.hnd (.ref e)) e st (yE S c y st):=by
 unfold yE
 split
 ·rename_i q hq
  obtain ⟨z,g⟩:=q
  obtain ⟨pz,pg,py,p1,p2,rfl,J,u,K,L⟩:=ND hq
  split
  ·rename_i i j Z hj
   obtain ⟨f,fd,ps,M,N,T,U⟩:=O.ul _ J
   obtain ⟨A,v2,v3⟩:=O.o.vis L
   refine ⟨fun a s d H D sf I t=>?_⟩
   have w:∀ {n:Nat}{x:Str},eU x c.N=some n->Y.N[n]? = some x:=fun h=>by rw [show Y.N=c.N from O.o.N];exact i8 h
   have m:PE (Y.hnd (.ref e)) (.Call (.Name g pg) [.Name y py] [] p1) (fun d H Q=>mB e H/\tM Y.K (aE (jA S g) (aB (aA j) aD)) d H Q):=fun a s d H Q I t=>Lz (X:=Y.hnd (.ref e)) M O.o.room.depth N T U (w hj) O.o.nd A v2 v3 (O.o.gl u).1 (O.o.gl u).2 rfl a s d H Q t.1 I t.2
   refine z9 (Af (X:=Y.hnd (.ref e)) O.o.nd (w Z) (O.o.own K) m (lY rfl) (.inl (O.own _))) a s d H D I ⟨sf,?_⟩
   obtain ⟨π,ρ,μ,fl,ρ',μ',R,r,l,k⟩:=t
   obtain ⟨⟨x,o⟩,X,l⟩:=SA.mp l
   cases l
   exact ⟨π,ρ,μ,x,o,R,r,X,fun p A B v E i1=>k p _ B v E ((r.mono v).set i1 i)⟩
  ·exact (BP cB).soft
 ·exact (iM (NC O (.ref e)) st).soft
theorem tW {m:Nat}:∀ (n:Nat)(Y:Cx),Okr S F G k c Y->(∀ st,QS Y.nox st ((iN S F G k m c n).1 st))/\∀ st,QR Y st ((iN S F G k m c n).2 st)
 | 0,Y,O=>⟨fun _=>cB,fun _=>iK⟩
 | n+1,Y,O=>by
  have a:=tW (m:=m) n
  refine ⟨fun st=>?_,fun st=>Ny O ((pX m).1 c _ O.o) ((pX m).2 c _ O.o) (a Y O).1 (a Y O).2 st⟩
  show QS Y.nox st (yG S (tr S F m).1 (tr S F m).2 c (iN S F G k m c n).1 (iN S F G k m c n).2 st)
  unfold yG
  split
  ·unfold C7
   split
   ·rename_i q w
    obtain ⟨B,H,b,bs,rfl,s⟩:=Nw w
    split
    ·rename_i h
     rw [Sy,Sy,decide_eq_true_eq] at h
     obtain ⟨⟨e,o⟩,p⟩:=h
     split
     ·rename_i i u
      obtain ⟨L,r⟩:=O.fr
      refine Lo (X:=Y.nox) O.ex O.st r O.o.nd (by show Y.N[i]? = _;rw [show Y.N=c.N from O.o.N];exact i8 u) (by rw [<- p,<- O.o.ks]) (O.o.gl e).1 (O.o.gl e).2 (fun x A y=>?_) (iM (a Y O).1 _) (fun E=>?_) (fun v=>?_)
      ·obtain ⟨z,j,l⟩:=SA.mp y
       rw [<- l]
       exact O.o.xc.sub x z _ j o
      ·have d:Okr S F G k c (Y.nox.wish E):=⟨O.o,O.ex,O.st,O.fr,O.own,O.rf
        ,O.uf
        ,O.ul
        ⟩
       exact qA (a _ d).1 (a _ d).2 _
      ·rw [s]
       exact NF O _ v (b::bs)
     ·exact cB
    ·exact cB
   ·exact cB
  ·exact Nt O.o O.own (pX m).1 (pX m).2 (a Y O).1 st
end
noncomputable def yJ (S:Sig)(F:Str->MF)(G:Str->RF)(k:Nat)(st:Stmt):MF:=pG (dQ st).length (hJ (iN S F G k n8 ⟨dQ st,(bL st).names⟩ n9).1 (cJ st))
noncomputable def yK (S:Sig)(F:Str->MF)(G:Str->RF)(k:Nat)(st:Stmt):RF:=wR (dQ st).length (oA (iN S F G k n8 ⟨dQ st,(bL st).names⟩ n9).1 (iN S F G k n8 ⟨dQ st,(bL st).names⟩ n9).2 (cJ st))
noncomputable def oD (S:Sig)(ds:List (Str×Stmt)):Nat->(Str->MF)×(Str->RF)
 | 0=>(fun _ _ _=>none,fun _ _ _=>none)
 | k+1=>(fun x=>match ds.lookup x with
   | none=>fun _ _=>none
   | some st=>yJ S (oD S ds k).1 (oD S ds k).2 k st,fun x=>match ds.lookup x with
   | none=>fun _ _=>none
   | some st=>yK S (oD S ds k).1 (oD S ds k).2 k st)
noncomputable def hV (S:Sig)(ds:List (Str×Stmt))(k:Nat):Str->MF:=(oD S ds k).1
noncomputable def kY (S:Sig)(ds:List (Str×Stmt))(k:Nat):Str->RF:=(oD S ds k).2
structure DefAt (K:Sw)(mg:Str->Option Value)(x:Str)(st:Stmt):Prop where
 ex:∃ f fd,Fun K x x st f fd/\mg x=some (.ref f)/\Binds K fd (cD st) []
structure TxtOk (P:Tc)(w:Ts)(K:Sw)(mg:Str->Option Value)(S:Sig)(ds:List (Str×Stmt)):Prop where
 fns:∀ x n,S.fn.lookup x=some n->∃ st,ds.lookup x=some st/\(cD st).length=n
 defs:∀ x st,ds.lookup x=some st->DefAt K mg x st/\mJ st=true
 con:∀ x d,S.con.lookup x=some d->∃ v u,mg x=some u/\RelV v u/\∀ π n H,IsD K π n H v d
 tab:∀ x kvs,S.tab.lookup x=some kvs->∃ (p:Addr)(vs:List (aR×V))(ws:List (aR×Value)),mg x=some (.ref p)/\(∀ h:Ua,K.In h->h.DictOf (d7 P w) p ws)/\KV vs ws/\∀ π n H,IsKs K π n H vs kvs
 no:∀ x,S.no.contains x=true->mg x=none
 xc:XcOk S K
 uf:∀ x st,S.uf.lookup x=some st->ds.lookup x=some st/\(cD st).length=1
 ul:∀ x st,S.ul.lookup x=some st->ds.lookup x=some st/\(cD st).length=1
theorem C9 {P:Tc}{w:Ts}{K:Sw}{j:Str->Option Value}{S:Sig}{ds:List (Str×Stmt)}(T:TxtOk P w K j S ds)(l:Bool)(L:List (Str×Stmt))(B:∀ x st,L.lookup x=some st->ds.lookup x=some st/\(cD st).length=1)(U:Str->MF)(E:∀ x st,L.lookup x=some st->U x=tV S l st)
  (X:Cx)(o:X.prog=P)(p:X.w=w)(q:X.K=K)(r:X.mg=j):oC l L U X:=fun x J=>by
 subst o p q r
 obtain ⟨st,i⟩:=TN.mp J
 obtain ⟨G,I⟩:=B x st i
 obtain ⟨v,u⟩:=T.defs x st G
 obtain ⟨f,n,F,m,b⟩:=v.ex
 have c:=C2 u
 refine ⟨f,n,cD st,?_,m,F.kp,b⟩
 rw [E x st i,<- I]
 unfold tV
 refine Lx F c (by unfold dQ;simp) fun a A outer s H d=>?_
 refine iM (yI (X:=kR X.prog X.w X.K X.mg X.base (dQ st) x (bL st) f a A outer s H) (c:=⟨dQ st,(bL st).names⟩) rfl c.nd (fun {y} h=>C1 (c:=⟨dQ st,(bL st).names⟩) rfl h) (fun _=>rfl) (fun e=>?_) mM) (cJ st)
 exact qB (S:={ S with uf:=[] }) mM l ⟨dQ st,(bL st).names⟩ (kR X.prog X.w X.K X.mg X.base (dQ st) x (bL st) f a A outer s H) ⟨rfl,c.nd,rfl,c.kind,T.no,{ T.xc with },(fun y M=>nomatch M),(fun z=>absurd rfl z),d⟩ e
theorem NG {P:Tc}{w:Ts}{K:Sw}{a:Str->Option Value}{S:Sig}{ds:List (Str×Stmt)}(T:TxtOk P w K a S ds)(X:Cx)(c:X.prog=P)(d:X.w=w)(e:X.K=K)(h:X.mg=a):oC false S.uf (oB S) X:=
 C9 T false S.uf T.uf (oB S) (fun x st i=>by unfold oB;rw [i]) X c d e h
theorem NH {P:Tc}{w:Ts}{K:Sw}{a:Str->Option Value}{S:Sig}{ds:List (Str×Stmt)}(T:TxtOk P w K a S ds)(X:Cx)(c:X.prog=P)(d:X.w=w)(e:X.K=K)(h:X.mg=a):oC true S.ul (jA S) X:=
 C9 T true S.ul T.ul (jA S) (fun x st i=>by unfold jA;rw [i]) X c d e h
theorem Dc {P:Tc}{w:Ts}{K:Sw}{B:Str->Option Value}{base:Ua}{S:Sig}{ds:List (Str×Stmt)}(T:TxtOk P w K B S ds):∀ (k:Nat)(x:Str)(st:Stmt)(f:Addr)(u:Ul),ds.lookup x=some st->Fun K x x st f u->
  FnOk P w K B base eB k f u (cD st) (eI K (cD st).length (hV S ds k x))/\FnOk P w K B base (iJ P w) k f u (cD st) (nQ K (cD st).length (kY S ds k x))
 | 0,x,st,f,u,hl,hF=>⟨⟨fun Y H Q E h=>h.1,fun A outer s H p us Y Q E l he hb hv M=>by
   obtain ⟨_,π,I,μ,d,Z,R,i,L,kc⟩:=M
   cases L⟩,⟨fun Y H Q E h=>h.1,fun A outer s H p us Y Q E l he hb hv M=>by
   obtain ⟨_,π,I,μ,d,Z,R,i,L,kc⟩:=M
   cases L⟩⟩
 | k+1,x,st,f,u,hl,hF=>by
  have ih:=Dc (base:=base) T k
  have e:hV S ds (k+1) x=yJ S (hV S ds k) (kY S ds k) k st:=by
   show (match ds.lookup x with|none=>fun _ _=>none|some st=>yJ S (hV S ds k) (kY S ds k) k st)=_
   rw [hl]
  have e2:kY S ds (k+1) x=yK S (hV S ds k) (kY S ds k) k st:=by
   show (match ds.lookup x with|none=>fun _ _=>none|some st=>yK S (hV S ds k) (kY S ds k) k st)=_
   rw [hl]
  rw [e,e2]
  have z:=C2 (T.defs x st hl).2
  have O:∀ (CX:fL)(a:Value)(A:Tt)(outer:List Wx)(s:SF)(H:Hp)(E:XK),Room k (A.deeper (VN x (bL st) s.heap.objs.size f a))->Okr S (hV S ds k) (kY S ds k) k ⟨dQ st,(bL st).names⟩ (d8 CX P w K B base (dQ st) x (bL st) f a A outer s H E):=fun CX a A outer s H E l=>by
   refine ⟨⟨rfl,z.nd,rfl,z.kind,rfl,l,YG,fun y n N=>?_,T.con,fun y U q=>⟨T.tab y U q⟩,T.no,T.xc⟩,rfl,rfl,⟨_,rfl⟩,fun _=>rfl,fun y n N=>?_
    ,NG T _ rfl rfl rfl rfl
    ,NH T _ rfl rfl rfl rfl
    ⟩
   ·obtain ⟨c,v,J⟩:=T.fns y n N
    obtain ⟨r,j,m,X,G⟩:=(T.defs y c v).1.ex
    subst J
    exact ⟨r,j,cD c,(ih y c r j v m).1,X,m.kp,G⟩
   ·obtain ⟨c,v,J⟩:=T.fns y n N
    obtain ⟨r,j,m,X,G⟩:=(T.defs y c v).1.ex
    subst J
    exact ⟨r,j,cD c,(ih y c r j v m).2,X,m.kp,G⟩
  refine ⟨Ko hF z (by unfold dQ;simp) rfl fun a A outer s H E l=>?_,Lf hF z (by unfold dQ;simp) rfl fun a A outer s H E l=>?_⟩
  ·exact iM (tW (m:=n8) n9 _ (O eB a A outer s H E l)).1 (cJ st)
  ·have o:=O (iJ P w) a A outer s H E l
   exact qA (tW (m:=n8) n9 _ o).1 (tW (m:=n8) n9 _ o).2 (cJ st)
theorem NI {P:Tc}{w:Ts}{K:Sw}{c:Str->Option Value}{base:Ua}{S:Sig}{ds:List (Str×Stmt)}(T:TxtOk P w K c S ds)(k:Nat)(x:Str)(st:Stmt)(f:Addr)(a:Ul)(e:ds.lookup x=some st)(d:Fun K x x st f a) :
  FnOk P w K c base eB k f a (cD st) (eI K (cD st).length (hV S ds k x)):=(Dc T k x st f a e d).1
theorem Dd:∀ {ns:List Int}{b:Nat},Wl (ns.map V8)<=b->∀ n∈ns,SX n<=b
 | [],_,_,n,a=>nomatch a
 | m::ns,b,h,n,a=>by
  have e:Wl ((m::ns).map V8)=XC (.int m)+1+Wl (ns.map V8):=rfl
  have c:XC (.int m)=SX m:=rfl
  rw [e,c] at h
  rcases TH.mp a with rfl|a
  ·omega
  ·exact Dd (b:=b) (by omega) n a
section
open PySem PySem.W PySem.Calls PyProof.Rows
theorem NJ {l:Y4}{n:Nat}{q:Tc}{loose:List Str}{XP:(Str->Option Value)->Ua->Prop}{YP:Ts->Ua->Prop}{d:DefRec}
  (hn:l.most=some n)(B:d.params.defaults=[])
  (call:∀ (w:Ts)(s₀ c:SF)(x I:Str->Option Value)(i:Addr)(o:Obj)(J v e:Value)(a:Addr)(vs:List Value)(ns:List Int),
   Ground q loose [] XP w s₀ x I c.heap->YP w c.heap->
   c.heap.get? i=some o->o.data=.func (docDef d.name d.params d.body d.scope J v e)->c.heap.CodeRec v d.name->x d.name=some (.ref i)->
   c.heap.get? a=some { cls:=.type "list",data:=.seq vs.toArray }->Yn vs ns->ns.length<=n->(∀ m∈ns,SX m<=2 ^ 20)->c.gens = #[]->
   XO (Tq l.prog w) XQ (.call (.ref i) ⟨[.ref a],[]⟩) (fun r y=>r=.ok (.ret (.bool true))/\OldK c.heap y.heap/\y.os=c.os/\WG y.gens) c) :
  ZK q loose XP YP l.row.toRowW d [] (fun f vs=>a0B f vs):=by
 intro w s₀ c x I G Y i o J v e N kV ho hd A L E U K M as u j hrd H X
 obtain rfl:N=.none:=Dflts.none L B
 obtain rfl:kV=.none:=Dflts.noKw L
 obtain ⟨a,vs,ns,rfl,rfl,s,h,p⟩:=Att.script_of hn u H
 have T:∀ m∈ns,SX m<=2 ^ 20:=by
  have z:Xv (.list (ns.map V8))=true:=by
   have:=j
   unfold a0C at this
   simpa using this
  unfold Xv at z
  rw [Sy] at z
  exact Dd (of_decide_eq_true z.2)
 refine enter_call (Wu (call w s₀ c x I i o J v e a vs ns G Y ho (fd_plain hd) A E s h p T U) fun r y hq=>?_)
 obtain ⟨rfl,O,Q,R⟩:=hq
 exact ⟨.inl ⟨.bool true,.bool true,[],rfl,fun _=>rfl,.bool true,Att.post_true l _,fun _=>⟨a0I,fun _ Z=>(nomatch Z)⟩⟩,O,Q,R⟩
end
theorem walkM {l:Y4}{q:Tc}{loose:List Str}{XP:(Str->Option Value)->Ua->Prop}{YP:Ts->Ua->Prop}{d:DefRec}{K:UU->Sw}{S:Sig}{ds:List (Str×Stmt)}{k:Nat}{st:Stmt}{x:Str}(hn:l.most=some 63)(N:d.params.defaults=[])
  (hr:Room k XQ)(hY:∀ (w:Ts)(h:Ua),YP w h->(K w.params).In h)(hl:ds.lookup d.name=some st)(hx:cD st=[x])
  (T:∀ (w:Ts)(I:Str->Option Value)(h:Ua),(K w.params).In h->h.Ns TQ I->TxtOk l.prog w (K w.params) I S ds/\∃ f J,Fun (K w.params) d.name d.name st f J/\I d.name=some (.ref f)/\∀ (s:SF)(u:Value),Xl s J ⟨[u],[]⟩ [(x,u)])
  (M:∀ c:List Int,c.length<=63->(∀ m∈c,SX m<=2 ^ 20)->∃ A,hV S ds k d.name [.rol (c.map D.int)] []=some (.bl true,A)) :
  ZK q loose XP YP l.row.toRowW d [] (fun f vs=>a0B f vs):=by
 refine NJ hn N fun w s₀ s₁ I mb fa o pm cd doc a vs c G Y ho hd hcd Q E y p L hg=>?_
 have X:=hY w _ Y
 obtain ⟨hT,f,J,hF,Z,hb⟩:=T w I _ X G.T.g
 rw [Q] at Z
 cases Z
 refine L2.law_call (CX:=eB) (sp:=eI (K w.params) 1 (hV S ds k d.name)) X G.T.g G.T.b G.T.builtins G.T.nolimit hg E y (TX p (by decide)) hr (fun B hb1 hb2=>?_) hb (fun H hO hS=>?_) fun H e s' z=>z
 ·have:=NI (base:=B) hT k d.name st fa J hl hF
  rw [hx] at this
  exact this
 ·refine ⟨rfl,fun _=>0,[.rol (c.map D.int)],[],.bl true,?_⟩
  obtain ⟨A,hM⟩:=M c p L
  have R:RoL (K w.params) H a (c.map V.int):=by
   rcases hS with (h|h)|h
   ·rcases hO a with z|⟨o,U,z⟩
    ·rw [z] at h;cases h
    ·rw [z] at h;cases h
   ·exact .inl h
   ·exact .inr h
  refine ⟨A,⟨fun i j O=>absurd O (UQ _),fun i O=>absurd O (UQ _),fun i U h=>(by cases h),fun i U h=>(by cases h),fun i U h=>(by cases h)
   ,fun i x c ds h=>(by cases h)
   ⟩,.cons (.rol R ?_) .nil,hM,fun π' v H' _ _ hv=>?_⟩
  ·have:∀ c:List Int,IsDs (K w.params) (fun _=>0) ([]:Hm).length H (c.map V.int) (c.map D.int):=fun c=>by
    induction c with
    | nil=>exact .nil
    | cons n r ih=>exact .cons (.int n) ih
   exact this c
  ·cases hv
   rfl
end L3
namespace L3
open PySem L2
theorem jB {a:Type}:∀ {l:List (Str×a)}{x:Str}{b:a},l.lookup x=some b->(x,b)∈l:=fun h=>Uc h
theorem NK {S:Sig}{ds:List (Str×Stmt)}(h:(S.fn.all fun p=>match ds.lookup p.1 with|some st=>decide ((cD st).length=p.2)|none=>false)=true):∀ x n,S.fn.lookup x=some n->∃ st,ds.lookup x=some st/\(cD st).length=n:=by
 intro x n e
 have:=TJ.mp h (x,n) (jB e)
 dsimp only at this
 split at this
 ·rename_i st a
  exact ⟨st,a,of_decide_eq_true this⟩
 ·cases this
theorem NL {K:Sw}{a:Str->Option Value}{ds:List (Str×Stmt)}(h:∀ p∈ds,DefAt K a p.1 p.2/\mJ p.2=true):∀ x st,ds.lookup x=some st->DefAt K a x st/\mJ st=true:=fun x st e=>h (x,st) (jB e)
theorem NM {K:Sw}{c:Str->Option Value}{a:List (Str×D)}(h:∀ p∈a,∃ v u,c p.1=some u/\RelV v u/\∀ π n H,IsD K π n H v p.2):∀ x d,a.lookup x=some d->∃ v u,c x=some u/\RelV v u/\∀ π n H,IsD K π n H v d:=fun x d e=>h (x,d) (jB e)
theorem De {L ds:List (Str×Stmt)}(h:L.map (fun p=>ds.lookup p.1)=L.map fun p=>some p.2)(a:(L.all fun p=>decide ((cD p.2).length=1))=true):∀ x st,L.lookup x=some st->ds.lookup x=some st/\(cD st).length=1:=
 fun x st e=>⟨Xh.mp h (x,st) (jB e),of_decide_eq_true (TJ.mp a (x,st) (jB e))⟩
inductive EntsOf (w:Ts):List WU->List (aR×Value)->Prop where
 | nil:EntsOf w [] []
 | cons {e:WU}{k:aR}{v:Value}{es:List WU}{kvs:List (aR×Value)}(h:lI k e.key=true)(hh:e.hash=z5 w k)(hv:e.val=v)(t:EntsOf w es kvs):EntsOf w (e::es) ((k,v)::kvs)
theorem EntsOf.keys {P:Tc}{w:Ts}{es:List WU}{c:List (aR×Value)}(x:EntsOf w es c):∀ e∈es,∃ k,(d7 P w).is k e.key=true/\e.hash=(d7 P w).hash k:=by
 induction x with
 | nil=>intro e a;exact nomatch a
 | @cons e k v es c h i l _ j=>
  intro d a
  rcases TH.mp a with rfl|a
  ·exact ⟨k,h,i⟩
  ·exact j d a
theorem NN {a:Str->Option Value}{ns:List Str}(h:∀ x∈ns,a x=none):∀ x,ns.contains x=true->a x=none:=fun x e=>h x (by simpa using e)
noncomputable def tX:Nat->(Nat->Value)->List Value
 | 0,_=>[]
 | n+1,u=>u 0::tX n fun i=>u (i+1)
theorem Df:∀ us:List Value,∃ u,us=tX us.length u
 | []=>⟨fun _=>.none,rfl⟩
 | v::us=>let ⟨u,a⟩:=Df us;⟨fun i=>match i with|0=>v|i+1=>u i,congrArg (v::·) a⟩
noncomputable abbrev Dg:Type:=Value->Value->Value->Option Addr->Value->Value->(Nat->Value)->a0Q (List (Str×Value))
noncomputable def NO (x:Str)(st:Stmt)(m:Value)(c:Addr):Obj:=⟨Sv "function",none,.func (TY x x (eA st) (cJ st) (bL st) .none .none .none m none (.ref c) .none),#[]⟩
noncomputable def Dh (K:Sw)(d:(Str×Stmt)×Value×Addr×Addr):Option (Option Value)×Option Obj×Bool×Bool×Bool×Dg:=(Uz K TQ d.1.1,K.lookup d.2.2.2,Wi K (.ref d.2.2.1) d.1.1,T6 K (.ref d.2.2.2),mJ d.1.2,fun kV c h e a ct u=>Yv (TY d.1.1 d.1.1 (eA d.1.2) (cJ d.1.2) (bL d.1.2) .none kV c h e a ct) ⟨tX (cD d.1.2).length u,[]⟩)
noncomputable def Di (d:(Str×Stmt)×Value×Addr×Addr):Option (Option Value)×Option Obj×Bool×Bool×Bool×Dg:=(some (some (.ref d.2.2.2)),some (NO d.1.1 d.1.2 d.2.1 d.2.2.1),true,true,true,fun _ _ _ _ _ _ u=>pure ((cD d.1.2).zip (tX (cD d.1.2).length u)))
noncomputable def tY (K:Sw)(d:Str×Stmt):(Str×Stmt)×Value×Addr×Addr:=(d,match Uz K TQ d.1 with
 | some (some (.ref f))=>(match K.lookup f with
  | some ⟨_,_,.func fd,_⟩=>(match fd.code with
   | .ref c=>(fd.pyModule,c,f)
   | _=>(.none,0,0))
  | _=>(.none,0,0))
 | _=>(.none,0,0))
noncomputable def tZ (K:Sw)(ds:List (Str×Stmt)):Prop:=ds.map (fun d=>Dh K (tY K d))=ds.map fun d=>Di (tY K d)
theorem Dj {K:Sw}{h:Ua}{j:Str->Option Value}(X:K.In h)(G:h.Ns TQ j){ds:List (Str×Stmt)}(q:tZ K ds):∀ p∈ds,(DefAt K j p.1 p.2/\mJ p.2=true)/\∃ f n,Fun K p.1 p.1 p.2 f n/\j p.1=some (.ref f)/\∀ us:List Value,us.length=(cD p.2).length->Yv n ⟨us,[]⟩=pure ((cD p.2).zip us):=by
 intro i v
 have t:=Xh.mp q i v
 have e:(tY K i).1=i:=rfl
 generalize tY K i=d at t e
 obtain ⟨p,m,c,f⟩:=d
 cases e
 unfold Dh Di at t
 obtain ⟨a,t⟩:=WJ t
 obtain ⟨l,t⟩:=WJ t
 obtain ⟨c,t⟩:=WJ t
 obtain ⟨k,t⟩:=WJ t
 obtain ⟨s,b⟩:=WJ t
 have F:=Hv (st:=p.2) l c k
 have D:=fun kV doc pm an cdv ct (us:List Value)(r:us.length=(cD p.2).length)=>(by
  obtain ⟨u,o⟩:=Df us
  rw [r] at o
  rw [o]
  exact congrFun (congrFun (congrFun (congrFun (congrFun (congrFun (congrFun b kV) doc) pm) an) cdv) ct) u:Yv (TY p.1 p.1 (eA p.2) (cJ p.2) (bL p.2) .none kV doc pm an cdv ct) ⟨us,[]⟩=pure ((cD p.2).zip us))
 exact ⟨⟨⟨_,_,F,Vu X G a,F.binds D⟩,s⟩,_,_,F,Vu X G a,D _ _ _ _ _ _⟩
theorem NP {K:Sw}{h:Ua}{c:Str->Option Value}(X:K.In h)(G:h.Ns TQ c){ds:List (Str×Stmt)}(q:tZ K ds){x y:Str}{st:Stmt}(d:ds.lookup x=some st)(e:cD st=[y]):∃ f a,Fun K x x st f a/\c x=some (.ref f)/\∀ (s:SF)(u:Value),Xl s a ⟨[u],[]⟩ [(y,u)]:=by
 obtain ⟨f,a,F,m,b⟩:=(Dj X G q (x,st) (jB d)).2
 dsimp only at b
 rw [e] at b
 exact ⟨f,a,F,m,fun s u=>.of_eq (b [u] rfl)⟩
theorem NQ {K:Sw}{h:Ua}{a:Str->Option Value}(X:K.In h)(G:h.Ns TQ a){ns:List Str}(q:ns.map (Uz K TQ)=ns.map fun _=>some none):∀ x∈ns,a x=none:=fun x c=>PySem.W.mg_none_of X G (Xh.mp q x c)
noncomputable def qC {c d:Type}(f:c->d->Bool):List c->List d->Bool
 | [],[]=>true
 | a::as,b::bs=>f a b&&qC f as bs
 | _,_=>false
noncomputable def qD (K:Sw):Nat->Value->D->Bool
 | 0,_,_=>false
 | k+1,u,d=>match d with
  | .non=>(match u with|.none=>true|_=>false)
  | .bl b=>(match u with|.bool c=>decide (b=c)|_=>false)
  | .int i=>(match u with|.int j _=>decide (i=j)|_=>false)
  | .str x=>(match u with|.str y _=>decide (x=y)|_=>false)
  | .tup ds=>(match u with
   | .ref p=>(match K.lookup p with
    | some ⟨.type t,none,.seq its _,_⟩=>decide (t = "tuple")&&decide (its.size<=1000)&&qC (qD K k) its.toList ds
    | _=>false)
   | _=>false)
  | .rol ds=>(match u with
   | .ref p=>(match K.lookup p with
    | some ⟨.type t,none,.seq its _,_⟩=>decide (t = "list")&&decide (its.size<=1000)&&qC (qD K k) its.toList ds
    | _=>false)
   | _=>false)
  | _=>false
theorem Dk {K:Sw}{f:Value->D->Bool}(h:∀ u d,f u d=true->∃ v,RelV v u/\∀ π n H,IsD K π n H v d):∀ us ds,qC f us ds=true->∃ vs,Vals vs us/\∀ π n H,IsDs K π n H vs ds
 | [],[],_=>⟨[],.nil,fun _ _ _=>.nil⟩
 | u::us,d::ds,e=>by
  obtain ⟨a,b⟩:=Vp.mp e
  obtain ⟨v,r,q⟩:=h u d a
  obtain ⟨vs,i,c⟩:=Dk h us ds b
  exact ⟨v::vs,.cons r i,fun _ _ _=>.cons (q _ _ _) (c _ _ _)⟩
 | [],_::_,e=>nomatch e
 | _::_,[],e=>nomatch e
theorem Dl {K:Sw}:∀ (k:Nat)(u:Value)(d:D),qD K k u d=true->∃ v,RelV v u/\∀ π n H,IsD K π n H v d
 | 0,_,_,e=>nomatch e
 | k+1,u,d,e=>by
  have seq:∀ {p:Addr}{ds:List D}{c:String},(match K.lookup p with|some ⟨.type t,none,.seq h _,_⟩=>decide (t=c)&&decide (h.size<=1000)&&qC (qD K k) h.toList ds|_=>false)=true->∃ j h n m,K.lookup p=some ⟨.type c,none,.seq h n,m⟩/\h.size<=SK/\Vals j h.toList/\∀ π n H,IsDs K π n H j ds:=fun {p ds c} e=>by
   split at e
   ·rename_i t h n m l
    obtain ⟨e,q⟩:=Vp.mp e
    obtain ⟨a,b⟩:=Vp.mp e
    cases of_decide_eq_true a
    obtain ⟨j,r,i⟩:=Dk (Dl k) _ _ q
    exact ⟨j,h,n,m,l,TX (of_decide_eq_true b) (by decide),r,i⟩
   ·cases e
  cases d with
  | non=>cases u with
   | none=>exact ⟨.non,rfl,fun _ _ _=>.non⟩
   | _=>cases e
  | bl b=>cases u with
   | bool c=>cases of_decide_eq_true e;exact ⟨.bl b,rfl,fun _ _ _=>.bl _⟩
   | _=>cases e
  | int b=>cases u with
   | int c=>cases of_decide_eq_true e;exact ⟨.int b,⟨_,rfl⟩,fun _ _ _=>.int _⟩
   | _=>cases e
  | str b=>cases u with
   | str c=>cases of_decide_eq_true e;exact ⟨.str b,⟨_,rfl⟩,fun _ _ _=>.str _⟩
   | _=>cases e
  | tup ds=>cases u with
   | ref p=>
    obtain ⟨j,h,n,m,l,o,r,i⟩:=seq e
    exact ⟨.ref p,rfl,fun _ _ _=>.tup (vs:=j) (.inr ⟨_,h,n,l,rfl,rfl,rfl,o,r⟩) (i _ _ _)⟩
   | _=>cases e
  | rol ds=>cases u with
   | ref p=>
    obtain ⟨j,h,n,m,l,o,r,i⟩:=seq e
    exact ⟨.ref p,rfl,fun _ _ _=>.rol (vs:=j) (.inr ⟨_,h,n,l,rfl,rfl,rfl,o,r⟩) (i _ _ _)⟩
   | _=>cases e
  | _=>cases e
noncomputable def Dm (K:Sw)(a:List (Str×D)):Bool:=a.all fun c=>match Uz K TQ c.1 with|some (some u)=>qD K 8 u c.2|_=>false
theorem NR {K:Sw}{h:Ua}{c:Str->Option Value}(X:K.In h)(G:h.Ns TQ c){a:List (Str×D)}(q:Dm K a=true):∀ p∈a,∃ v u,c p.1=some u/\RelV v u/\∀ π n H,IsD K π n H v p.2:=fun p d=>by
 have t:=TJ.mp q p d
 split at t
 ·rename_i u e
  obtain ⟨v,r,i⟩:=Dl _ _ _ t
  exact ⟨v,u,Vu X G e,r,i⟩
 ·cases t
end L3
namespace L3
open PySem L2
theorem NS {S:Sig}{K:Sw}
  (n:(S.sup.all fun p=>S.sup.all fun q=>pO K p.1 q.1 == some (p.2.contains q.1))=true)
  (o:(S.sup.all fun p=>S.sup.all fun q=>match i6 K q.1 with|some C=>gY K (.ref C) p.1 == some (p.2.contains q.1)|none=>false)=true)(r:(S.sup.all fun p=>gY K (.type "ValueError") p.1 == some (p.2.contains "ValueError"))=true)
  (s:(S.sup.all fun p=>(S.cls.lookup p.1).isSome||match i6 K p.1 with|some C=>WV K C wU "ValueError.__new__" | none=>false)=true)
  : XcOk S K:=by
 have two:∀ {g:Str×List Str->Str×List Str->Bool},(S.sup.all fun p=>S.sup.all fun q=>g p q)=true->∀ x a c d,S.sup.lookup x=some a->S.sup.lookup c=some d->g (x,a) (c,d)=true:=fun {g} h x a c d l m=>
  TJ.mp (TJ.mp h (x,a) (jB l)) (c,d) (jB m)
 refine ⟨fun x a c e hc=>?_,fun x a c e hc=>?_,fun x a e=>?_,fun x a e u=>?_⟩
 ·obtain ⟨d,j⟩:=TN.mp hc
  exact beq_iff_eq.mp (two n x a c d e j)
 ·obtain ⟨d,j⟩:=TN.mp hc
  have:=two o x a c d e j
  dsimp only at this
  split at this
  ·rename_i C i
   exact ⟨C,i,beq_iff_eq.mp this⟩
  ·cases this
 ·exact beq_iff_eq.mp (TJ.mp r (x,a) (jB e))
 ·have:=TJ.mp s (x,a) (jB e)
  dsimp only at this
  rw [u] at this
  split at this
  ·rename_i C i
   exact ⟨C,by simpa using this,l9 i⟩
  ·simp at this
end L3
namespace L3
open PySem L2
noncomputable def W {a:Type}(o:Option a)(Q:a->Prop):Prop:=∃ r,o=some r/\Q r
section
variable {α β:Type}{o:Option α}{Q:α->Prop}
theorem W_some {r:α}{Q:α->Prop}:W (some r) Q↔Q r:=⟨fun ⟨_,h,q⟩=>by cases h;exact q,fun q=>⟨r,rfl,q⟩⟩
theorem W_none {Q:α->Prop}:W none Q↔False:=⟨fun ⟨_,h,_⟩=>(by cases h),fun h=>h.elim⟩
theorem W_bind {g:α->Option β}{Q:β->Prop}:W (o.bind g) Q↔W o fun r=>W (g r) Q:=by
 cases o with
 | none=>exact ⟨fun ⟨_,h,_⟩=>(by cases h),fun ⟨_,h,_⟩=>(by cases h)⟩
 | some a=>simp [W_some]
theorem W_map {g:α->β}{Q:β->Prop}:W (o.map g) Q↔W o fun r=>Q (g r):=by
 cases o with
 | none=>exact ⟨fun ⟨_,h,_⟩=>(by cases h),fun ⟨_,h,_⟩=>(by cases h)⟩
 | some a=>simp [W_some]
theorem bM {a:α->Prop}(h:W o Q)(k:∀ r,Q r->a r):W o a:=let ⟨r,e,q⟩:=h;⟨r,e,k r q⟩
theorem yL {c:Prop} [Decidable c] {a b:Option α}:W (if c then a else b) Q↔if c then W a Q else W b Q:=by split<;>rfl
end
noncomputable def aV:Option (Fl×aJ×Hm)->Option (D×Hm):=fun o=>o.bind fun p=>match p.1 with|.rt d=>some (d,p.2.2)|.nx=>some (.non,p.2.2)|_=>none
noncomputable def gH:Option (Xn×aJ×Hm)->Option (Xn×Hm):=fun o=>o.map fun p=>(p.1,p.2.2)
theorem bV {o:Option (Fl×aJ×Hm)}{Q:D×Hm->Prop}:W (aV o) Q↔W o fun p=>match p.1 with|.rt d=>Q (d,p.2.2)|.nx=>Q (.non,p.2.2)|_=>False:=by
 unfold aV
 rw [W_bind]
 constructor
 ·exact fun h=>bM h fun p q=>by
   obtain ⟨a,e,c⟩:=p
   cases a<;>simpa [W_some,W_none] using q
 ·exact fun h=>bM h fun p q=>by
   obtain ⟨a,e,c⟩:=p
   cases a<;>simpa [W_some,W_none] using q
theorem aK {i d:Hm}(h:i <+: d){a:Nat}{c:C}(e:i[a]? = some c):d[a]? = some c:=by
 obtain ⟨t,rfl⟩:=h
 have j:=(SH.mp e).1
 rw [Tp j]
 exact e
theorem qE {c a:Hm}(h:c <+: a):c.length<=a.length:=h.length_le
theorem aQ (a:Hm)(c:C):a <+: a++[c]:=⟨[c],rfl⟩
theorem eW {e d:Hm}(h:e <+: d){a:Nat}(i:e.length<=a)(c:C):e <+: d.set a c:=by
 obtain ⟨t,rfl⟩:=h
 rw [YB _ _ i]
 exact ⟨_,rfl⟩
theorem bE {a b:MS}{d:aJ}{c:Hm} {Q}:W (aN a b d c) Q↔W (a d c) fun p=>match p.1 with|.nx=>W (b p.2.1 p.2.2) Q|_=>Q p:=by
 unfold aN
 rw [W_bind]
 constructor
 ·exact fun h=>bM h fun p q=>by
   obtain ⟨e,d,c⟩:=p
   cases e<;>simpa [W_some,W_none] using q
 ·exact fun h=>bM h fun p q=>by
   obtain ⟨e,d,c⟩:=p
   cases e<;>simpa [W_some,W_none] using q
theorem bB {m:ME}{a:aJ}{c:Hm} {Q}:W (aY m a c) Q↔W (m a c) fun p=>Q (.rt p.1,a,p.2):=W_map
theorem d6 {m:ME}{a:aJ}{c:Hm} {Q}:W (bC m a c) Q↔W (m a c) fun p=>Q (.nx,a,p.2):=W_map
theorem bQ {i:Nat}{m:ME}{a:aJ}{c:Hm} {Q}:W (aW i m a c) Q↔W (m a c) fun p=>Q (.nx,a.set i (some p.1),p.2):=W_map
theorem dF {c:aJ}{a:Hm} {Q}:W (bP c a) Q↔Q (.nx,c,a):=W_some
theorem c9 {t:MT}{a b:MS}{c:aJ}{d:Hm} {Q}:W (a9 t a b c d) Q↔W (t c d) fun p=>if p.1=true then W (a c p.2) Q else W (b c p.2) Q:=by
 unfold a9
 rw [W_bind]
 constructor<;>exact fun h=>bM h fun p q=>by
   obtain ⟨x,d⟩:=p
   cases x<;>simpa using q
theorem yM {t:MT}{a b:ME}{c:aJ}{d:Hm} {Q}:W (iW t a b c d) Q↔W (t c d) fun p=>if p.1=true then W (a c p.2) Q else W (b c p.2) Q:=by
 unfold iW
 rw [W_bind]
 constructor<;>exact fun h=>bM h fun p q=>by
   obtain ⟨x,d⟩:=p
   cases x<;>simpa using q
theorem NT {a b:MT}{d:aJ}{c:Hm} {Q}:W (nB a b d c) Q↔W (a d c) fun p=>if p.1=true then W (b d p.2) Q else Q (false,p.2):=by
 unfold nB
 rw [W_bind]
 constructor<;>exact fun h=>bM h fun p q=>by
   obtain ⟨x,c⟩:=p
   cases x<;>simpa [W_some] using q
theorem kZ {a b:MT}{d:aJ}{c:Hm} {Q}:W (dR a b d c) Q↔W (a d c) fun p=>if p.1=true then Q (true,p.2) else W (b d p.2) Q:=by
 unfold dR
 rw [W_bind]
 constructor<;>exact fun h=>bM h fun p q=>by
   obtain ⟨x,c⟩:=p
   cases x<;>simpa [W_some] using q
theorem qF {a:MT}{d:aJ}{c:Hm} {Q}:W (gC a d c) Q↔W (a d c) fun p=>Q (!p.1,p.2):=W_map
theorem aT {f:D->D->Hm->Option (D×Hm)}{a b:ME}{c:aJ}{d:Hm} {Q}:W (aC f a b c d) Q↔W (a c d) fun p=>W (b c p.2) fun q=>W (f p.1 q.1 q.2) Q:=by
 unfold aC
 rw [W_bind]
 simp only [W_bind]
theorem aO {d:D}{c:aJ}{a:Hm} {Q}:W (mC d c a) Q↔Q (d,a):=W_some
theorem aF {d:D}{c:aJ}{a:Hm} {Q}:W (aA 0 (some d::c) a) Q↔Q (d,a):=by
 show W (some (d,a)) Q↔_
 exact W_some
theorem aG {i:Nat}{x:Option D}{c:aJ}{a:Hm} {Q}:W (aA (i+1) (x::c) a) Q↔W (aA i c a) Q:=by
 unfold aA
 rw [List.getElem?_cons_succ]
theorem aH {c:aJ}{a:Hm} {Q}:W (aD c a) Q↔Q ([],a):=W_some
theorem aI {a:ME}{r:MA}{c:aJ}{d:Hm} {Q}:W (aB a r c d) Q↔W (a c d) fun p=>W (r c p.2) fun q=>Q (p.1::q.1,q.2):=by
 unfold aB
 simp only [W_bind,W_some]
theorem qG {a:MA}{d:aJ}{c:Hm} {Q}:W (gS a d c) Q↔W (a d c) fun p=>p.1.length<=SK/\Q (.tup p.1,p.2):=by
 unfold gS
 rw [W_bind]
 constructor<;>exact fun h=>bM h fun p q=>by
  first
  | (rw [yL] at q;split at q
     ·exact ⟨by assumption,W_some.mp q⟩
     ·exact (W_none.mp q).elim)
  | (rw [if_pos q.1];exact W_some.mpr q.2)
theorem dA {a:MA}{d:aJ}{c:Hm} {Q}:W (bU a d c) Q↔W (a d c) fun p=>p.1.length<=SK/\Q (.loc p.2.length,p.2++[.lst p.1]):=by
 unfold bU
 rw [W_bind]
 constructor<;>exact fun h=>bM h fun p q=>by
  first
  | (rw [yL] at q;split at q
     ·exact ⟨by assumption,W_some.mp q⟩
     ·exact (W_none.mp q).elim)
  | (rw [if_pos q.1];exact W_some.mpr q.2)
theorem aU {f:MF}{a:MA}{d:aJ}{c:Hm} {Q}:W (aE f a d c) Q↔W (a d c) fun p=>W (f p.1 p.2) Q:=W_bind
theorem b6 {m:ME}{c:aJ}{a:Hm} {Q}:W (aM m c a) Q↔W (m c a) fun p=>match p.1 with|.bl b=>Q (b,p.2)|_=>False:=by
 unfold aM
 rw [W_bind]
 constructor<;>exact fun h=>bM h fun p q=>by
  obtain ⟨d,a⟩:=p
  cases d<;>simpa [W_some,W_none] using q
theorem iO {m:ME}{c:aJ}{a:Hm} {Q}:W (dP m c a) Q↔W (m c a) fun p=>W (kP p.2 p.1) fun b=>Q (b,p.2):=by
 unfold dP
 simp only [W_bind,W_map]
theorem t5 {a:ME}{e:aJ}{c:Hm} {Q}:W (iF a e c) Q↔W (a e c) fun p=>match p.1 with|.int i=>Q (.int (-i),p.2)|_=>False:=by
 unfold iF
 rw [W_bind]
 constructor<;>exact fun h=>bM h fun p q=>by
  obtain ⟨d,c⟩:=p
  cases d<;>simpa [W_some,W_none,W_map,v9] using q
theorem NU {a:ME}{e:aJ}{c:Hm} {Q}:W (lP a e c) Q↔W (a e c) fun p=>match p.1 with|.bl b=>Q (.bl (!b),p.2)|_=>False:=by
 unfold lP
 rw [W_bind]
 constructor<;>exact fun h=>bM h fun p q=>by
  obtain ⟨d,c⟩:=p
  cases d<;>simpa [W_some,W_none] using q
theorem yN {a b:ME}{i:aJ}{e:Hm} {Q}:W (jM a b i e) Q↔W (a i e) fun p=>match p.1 with|.bl c=>if c=true then W (b i p.2) Q else Q (.bl false,p.2)|_=>False:=by
 unfold jM
 rw [W_bind]
 constructor<;>exact fun h=>bM h fun p q=>by
  obtain ⟨d,e⟩:=p
  cases d with
  | bl c=>cases c<;>simpa [W_some] using q
  | _=>simpa [W_none] using q
section
variable {i j:Int}{μ:Hm}{Q:D×Hm->Prop}{a b c d e g:D}
theorem w_addI:W (aZ (.int i) (.int j) μ) Q↔Q (.int (i+j),μ):=W_some
theorem w_subI:W (dO (.int i) (.int j) μ) Q↔Q (.int (i - j),μ):=W_some
theorem dW (h:0<j):W (bF (.int i) (.int j) μ) Q↔Q (.int (i % j),μ):=by
 show W ((if 0<j then some (i % j) else none).map fun z=>(D.int z,μ)) Q↔_
 rw [if_pos h]
 exact W_some
theorem NV:(1073741824:Int)<2 ^ 4000:=by decide +kernel
theorem NW (h:0<j)(l:j<2 ^ 4000):W (cQ (.int i) (.int j) μ) Q↔Q (.int (i / j),μ):=by
 show W ((if 0<j/\j<2 ^ 4000 then some (i / j) else none).map fun z=>(D.int z,μ)) Q↔_
 rw [if_pos ⟨h,l⟩]
 exact W_some
theorem eY (h:0<j)(l:j<1073741824):W (cQ (.int i) (.int j) μ) Q↔Q (.int (i / j),μ):=NW h (Int.lt_trans l NV)
theorem Dn (h:SX i+SX j<=134217728):W (b8 (.int i) (.int j) μ) Q↔Q (.int (i * j),μ):=by
 show W ((if ((-(2 ^ 64)<i/\i<2 ^ 64)\/(-(2 ^ 64)<j/\j<2 ^ 64))\/(i.natAbs<2 ^ 4000/\j.natAbs<2 ^ 4000)\/SX i+SX j<=134217728 then some (i * j) else none).map fun z=>(D.int z,μ)) Q↔_
 rw [if_pos (.inr (.inr h))]
 exact W_some
theorem oE (h:(-(2 ^ 64)<i/\i<2 ^ 64)\/(-(2 ^ 64)<j/\j<2 ^ 64)):W (b8 (.int i) (.int j) μ) Q↔Q (.int (i * j),μ):=by
 show W ((if ((-(2 ^ 64)<i/\i<2 ^ 64)\/(-(2 ^ 64)<j/\j<2 ^ 64))\/(i.natAbs<2 ^ 4000/\j.natAbs<2 ^ 4000)\/SX i+SX j<=134217728 then some (i * j) else none).map fun z=>(D.int z,μ)) Q↔_
 rw [if_pos (.inl h)]
 exact W_some
theorem t6 (h:0<=j/\j<=1000000/\i.natAbs<2 ^ 64):W (dS (.int i) (.int j) μ) Q↔Q (.int (i ^ j.toNat),μ):=by
 show W ((if (0<=j/\j<=1000000/\i.natAbs<2 ^ 64)\/(0<=j/\j<=100/\i.natAbs<2 ^ 4000) then some (i ^ j.toNat) else none).map fun z=>(D.int z,μ)) Q↔_
 rw [if_pos (.inl h)]
 exact W_some
theorem w_eqI:W (aP false (.int i) (.int j) μ) Q↔Q (.bl (i == j),μ):=W_some
theorem w_neI:W (aP true (.int i) (.int j) μ) Q↔Q (.bl (!(i == j)),μ):=W_some
theorem Dp {x y:Str}:W (aP false (.str x) (.str y) μ) Q↔Q (.bl (x == y),μ):=W_some
theorem Dq {x y:Str}:W (aP true (.str x) (.str y) μ) Q↔Q (.bl (!(x == y)),μ):=W_some
theorem Dr {x y:Bool}:W (aP false (.bl x) (.bl y) μ) Q↔Q (.bl (x == y),μ):=W_some
theorem qH:W (gE (.int i) (.int j) μ) Q↔Q (.bl (decide (i<j)),μ):=W_some
theorem NX:W (nF (.int i) (.int j) μ) Q↔Q (.bl (decide (i<=j)),μ):=W_some
theorem w_gtI:W (jP (.int i) (.int j) μ) Q↔Q (.bl (decide (j<i)),μ):=W_some
theorem NY:W (pH (.int i) (.int j) μ) Q↔Q (.bl (decide (j<=i)),μ):=W_some
theorem w_truB {b:Bool}{Q:Bool->Prop}:W (kP μ (.bl b)) Q↔Q b:=W_some
end
theorem bT {c:Hm}{a:Nat}{xs:List D}{i:Int}{d:D}{Q:D×Hm->Prop}(h:c[a]? = some (.lst xs))(e:atI xs i=some d):W (aL (.loc a) (.int i) c) Q↔Q (d,c):=by
 have:aL (.loc a) (.int i) c=some (d,c):=by
  simp only [aL,dY,bS,h,S1,e,TB]
 rw [this]
 exact W_some
end L3
namespace L3
open PySem L2
theorem k4 {m:ME}{c:aJ}{a:Hm}{Q:iZ×Nat×Hm->Prop}:W (eJ m c a) Q↔W (m c a) fun p=>W (nM p.2 p.1) fun xs=>Q (pJ p.1,xs.length+1,p.2):=by
 unfold eJ
 simp only [W_bind,W_map]
theorem j4 {c:MI}{g:MG}{b:MS}{a:aJ}{d:Hm} {Q}:W (fS c g b a d) Q↔W (c a d) fun p=>W (gX p.1 g b p.2.1 0 a p.2.2) Q:=W_bind
theorem gI {j:Int}{e:MA}{i:aJ}{c:Hm}{Q:iZ×Nat×Hm->Prop}:W (cN e i c) Q↔W (e i c) fun p=>match p.1 with|[.int j]=>(-(2 ^ 62)<=j/\j<2 ^ 62)/\Q (iE 0 j.toNat,j.toNat+1,p.2)|_=>False:=by
 unfold cN
 rw [W_bind]
 constructor<;>exact fun h=>bM h fun p q=>by
  obtain ⟨l,c⟩:=p
  match l,q with
  | [],q=>simpa [W_none] using q
  | [d],q=>
   cases d with
   | int j=>
    first
    | (dsimp only at q;rw [yL] at q;split at q
       ·rename_i m;exact ⟨m,W_some.mp q⟩
       ·exact (W_none.mp q).elim)
    | (dsimp only;rw [if_pos q.1];exact W_some.mpr q.2)
   | _=>simpa [W_none] using q
  | a::b::l,q=>simpa [W_none] using q
theorem t7 {j:iZ}{g:MG}{b:MS}{N:Nat}{Q:Fl×aJ×Hm->Prop}(I:Nat->aJ->Hm->Prop)
  (go:∀ i c a,i<N->I i c a->∃ d l,j a i=some (some d)/\g d c a=some l/\W (b l a) fun p=>match p.1 with|.nx=>I (i+1) p.2.1 p.2.2|.ct=>I (i+1) p.2.1 p.2.2|.bk=>Q (.nx,p.2.1,p.2.2)|.rt d=>Q (.rt d,p.2.1,p.2.2))
  (e:∀ c a,I N c a->j a N=some none/\Q (.nx,c,a)):∀ (m i:Nat)(c:aJ)(a:Hm),i+m=N->I i c a->W (gX j g b (m+1) i c a) Q
 | 0,i,c,a,h,hI=>by
  have:i=N:=by omega
  subst this
  obtain ⟨r,s⟩:=e c a hI
  unfold gX
  rw [r]
  exact W_some.mpr s
 | m+1,i,c,a,h,hI=>by
  obtain ⟨d,l,r,s,v⟩:=go i c a (by omega) hI
  unfold gX
  rw [r]
  simp only [S1,s]
  rw [W_bind]
  refine bM v fun p q=>?_
  obtain ⟨u,o,n⟩:=p
  cases u with
  | nx=>exact t7 I go e m (i+1) o n (by omega) q
  | ct=>exact t7 I go e m (i+1) o n (by omega) q
  | bk=>exact W_some.mpr q
  | rt d=>exact W_some.mpr q
theorem mO {lo:Int}{n:Nat}{g:MG}{b:MS}{c:aJ}{a:Hm}{Q:Fl×aJ×Hm->Prop}(I:Nat->aJ->Hm->Prop)(m:I 0 c a)
  (go:∀ (i:Nat) c a,i<n->I i c a->∃ e,g (.int (lo+i)) c a=some e/\W (b e a) fun p=>match p.1 with|.nx=>I (i+1) p.2.1 p.2.2|.ct=>I (i+1) p.2.1 p.2.2|.bk=>Q (.nx,p.2.1,p.2.2)|.rt d=>Q (.rt d,p.2.1,p.2.2))
  (h:∀ c a,I n c a->Q (.nx,c,a)):W (gX (iE lo n) g b (n+1) 0 c a) Q:=by
 refine t7 (N:=n) I (fun i c a l j=>?_) (fun c a j=>⟨?_,h c a j⟩) n 0 c a (by omega) m
 ·obtain ⟨e,o,q⟩:=go i c a l j
  exact ⟨_,e,by simp only [iE,if_pos l],o,q⟩
 ·simp only [iE,UL,if_false]
theorem yO {d:Hm}{a:Nat}{c:List D}{y:D}(h:d[a]? = some (.lst c))(e:c.length<SK):nH d a y=some (d.set a (.lst (c++[y]))):=by
 unfold nH
 rw [h]
 exact if_pos e
theorem yP {z:iZ}{c:MT}{e:ME}{J:aJ}{h:Hm}{xs:List D}{p:D->Bool}{v:D->D}{Q:Hm->Prop}(B:∀ a i,h <+: a->z a i=some xs[i]?)(K:xs.length<=SK)
  (hc:∀ d a,d∈xs->h <+: a->W (c (J++[some d]) a) fun r=>r.1=p d/\a <+: r.2)
  (E:∀ d a,d∈xs->p d=true->h <+: a->W (e (J++[some d]) a) fun r=>r.1=v d/\a <+: r.2)
  (aV:∀ a,h <+: a->a[h.length]? = some (.lst ((xs.filter p).map v))->Q a) :
  ∀ (m i:Nat)(a:Hm),i+m=xs.length->h <+: a->a[h.length]? = some (.lst (((xs.take i).filter p).map v))->W (gF z lS c e J h.length (m+1) i a) Q
 | 0,i,a,hi,hp,ha=>by
  have:i=xs.length:=by omega
  subst this
  unfold gF
  rw [B a _ hp]
  rw [U0 (SM _)]
  simp only [S1]
  refine W_some.mpr (aV a hp ?_)
  simpa using ha
 | m+1,i,a,hi,hp,ha=>by
  have w:i<xs.length:=by omega
  have L:xs[i]? = some xs[i]:=SN w
  have l:xs[i]∈xs:=Vc w
  unfold gF
  rw [B a _ hp,L]
  simp only [S1,lS]
  rw [W_bind]
  refine bM (hc _ a l hp) fun r q=>?_
  obtain ⟨b,A⟩:=r
  obtain ⟨M,x⟩:=q
  dsimp only at M x ⊢
  subst M
  have j:xs.take (i+1)=xs.take i++[xs[i]]:=by rw [XW,L];rfl
  have o:=aK x ha
  cases n:p xs[i] with
  | false=>
   refine yP B K hc E aV m (i+1) A (by omega) (hp.trans x) ?_
   rw [o,j,VC]
   simp [n]
  | true=>
   dsimp only
   rw [W_bind]
   refine bM (E _ A l n (hp.trans x)) fun r q=>?_
   obtain ⟨y,I⟩:=r
   obtain ⟨N,H⟩:=q
   dsimp only at N H ⊢
   subst N
   have s:=aK H o
   have u:(((xs.take i).filter p).map v).length<SK:=by
    have O:=WQ p (xs.take i)
    rw [Sx]
    rw [Tw] at O
    omega
   rw [yO s u,S1]
   have G:h <+: I:=(hp.trans x).trans H
   refine yP B K hc E aV m (i+1) _ (by omega) (eW G (SM _) _) ?_
   rw [S7 (SH.mp s).1,j,VC]
   simp [n]
theorem fD {z:MI}{c:MT}{e:ME}{h:aJ}{A:Hm}{xs:List D}{p:D->Bool}{v:D->D}{Q:D×Hm->Prop}
  (j:W (z h A) fun r=>(∀ a i,r.2.2 <+: a->r.1 a i=some xs[i]?)/\r.2.1=xs.length+1/\xs.length<=SK /\
   (∀ d a,d∈xs->r.2.2 <+: a->W (c (h++[some d]) a) fun s=>s.1=p d/\a <+: s.2)/\(∀ d a,d∈xs->p d=true->r.2.2 <+: a->W (e (h++[some d]) a) fun s=>s.1=v d/\a <+: s.2) /\
   ∀ a,r.2.2 <+: a->a[r.2.2.length]? = some (.lst ((xs.filter p).map v))->Q (.loc r.2.2.length,a)):W (cR z c e h A) Q:=by
 unfold cR fT
 rw [W_bind]
 refine bM j fun r q=>?_
 obtain ⟨B,n,l⟩:=r
 obtain ⟨m,o,u,w,x,y⟩:=q
 dsimp only at m o u w x y ⊢
 subst o
 rw [W_map]
 exact yP m u w x y xs.length 0 (l++[.lst []]) (by omega) (aQ _ _) (by simp)
theorem k6 {d:Hm}{a:Nat}{xs:List D}(h:d[a]? = some (.lst xs)):∀ c i,d <+: c->pJ (.loc a) c i=some xs[i]?:=fun c i e=>by
 simp only [pJ,nM,bS,aK e h,TB]
noncomputable def cH (lo:Int)(n:Nat):List D:=(Td n).map fun (i:Nat)=>.int (lo+(i:Int))
theorem mP {lo:Int}{n:Nat}{c:Hm}:∀ a i,c <+: a->iE lo n a i=some (cH lo n)[i]?:=fun a i _=>by
 unfold iE cH
 rw [Tr]
 by_cases h:i<n
 ·rw [if_pos h,YT h];rfl
 ·rw [if_neg h,U0 (by simpa using V4.mp h)];rfl
noncomputable abbrev P (x y:Int):D:=.tup [.int x,.int y]
theorem yQ (n:Nat)(a:Hm):∀ ps qs:List Int,fA (cE (n+1) a) (ps.map D.int) (qs.map D.int)=some (ps == qs)
 | [],[]=>rfl
 | [],_::_=>rfl
 | _::_,[]=>rfl
 | p::ps,q::qs=>by
  rw [SW,SW]
  show (cE (n+1) a (.int p) (.int q)).bind (fun b=>(fA (cE (n+1) a) (ps.map D.int) (qs.map D.int)).map fun c=>b&&c)=_
  rw [yQ n a ps qs]
  rfl
theorem NZ {c:Hm}{a b:Nat}{ps qs:List Int}{ne:Bool}{Q:D×Hm->Prop}(h:c[a]? = some (.lst (ps.map D.int)))(i:c[b]? = some (.lst (qs.map D.int))):W (aP ne (.loc a) (.loc b) c) Q↔Q (.bl (if ne then !(ps == qs) else ps == qs),c):=by
 have d:dE c (.loc a)=some (.lst (ps.map D.int)):=by simp only [dE,h]
 have e:dE c (.loc b)=some (.lst (qs.map D.int)):=by simp only [dE,i]
 have:cE 8 c (.loc a) (.loc b)=some (ps == qs):=by
  show (dE c (.loc a)).bind (fun x=>(dE c (.loc b)).bind fun y=>gD (cE 7 c) x y)=_
  rw [d,e]
  exact yQ 6 c ps qs
 unfold aP
 rw [this]
 exact W_some
theorem gJ {c:Hm}{a b:Nat}{xs d:List D}{Q:D×Hm->Prop}(e:c[a]? = some (.lst xs))(h:c[b]? = some (.lst d))(i:xs.length+d.length<=SK):W (aZ (.loc a) (.loc b) c) Q↔Q (.loc c.length,c++[.lst (xs++d)]):=by
 simp only [aZ,e,h,if_pos i]
 exact W_some
theorem qI {e:Hm}{a:Nat}{c:List (aR×D)}{y d:D}{k:aR}{Q:D×Hm->Prop}(h:e[a]? = some (.dK c))(i:lV y=some k)(j:fQ c k=some d):W (aL (.loc a) y e) Q↔Q (d,e):=by
 have:aL (.loc a) y e=some (d,e):=by
  simp only [aL,h,i,S1,j,TB]
 rw [this]
 exact W_some
theorem qJ {f:D->List D->Hm->Option (D×Hm)}{c:ME}{d:MA}{a:aJ}{e:Hm}{Q:D×Hm->Prop}(h:W (c a e) fun p=>nN p.2 p.1=true/\W (d a p.2) fun q=>W (f p.1 q.1 q.2) Q):W (iI f c d a e) Q:=by
 unfold iI
 rw [W_bind]
 refine bM h fun p q=>?_
 rw [q.1]
 exact W_bind.mpr q.2
theorem qK {c:Hm}{a:Nat}{xs:List D}(h:c[a]? = some (.lst xs)):nN c (.loc a)=true:=by
 simp only [nN,h]
theorem Ds {c:Hm}{a:Nat}{xs:List D}{y:D}{Q:D×Hm->Prop}(h:c[a]? = some (.lst xs))(d:xs.length<SK):W (jT (.loc a) [y] c) Q↔Q (.non,c.set a (.lst (xs++[y]))):=by
 simp only [jT,yO h d,TB]
 exact W_some
theorem N0 {a:Hm}{i:Int}{Q:D×Hm->Prop}:W (lQ [.int i,.ty "bool"] a) Q↔Q (.bl false,a):=W_some
theorem N3 {a:Hm}{i:Int}{Q:D×Hm->Prop}:W (lQ [.int i,.ty "int"] a) Q↔Q (.bl true,a):=W_some
theorem cK {c:Hm}{a:Nat}{xs:List D}{Q:D×Hm->Prop}(h:c[a]? = some (.lst xs)):W (bH [.loc a] c) Q↔Q (.int xs.length,c):=by
 simp only [bH,pI,bS,h,TB]
 exact W_some
theorem N4 {a:Hm}{xs:List D}{Q:D×Hm->Prop}:W (bH [.rol xs] a) Q↔Q (.int xs.length,a):=W_some
theorem k7 {c:Hm}{a:Nat}{xs:List D}{Q:List D->Prop}(h:c[a]? = some (.lst xs)):W (nM c (.loc a)) Q↔Q xs:=by
 simp only [nM,bS,h]
 exact W_some
theorem j5 {c:aJ}{a:Hm}{Q:Option Int×Hm->Prop}:W (dZ c a) Q↔Q (none,a):=W_some
theorem jC {m:ME}{c:aJ}{a:Hm}{Q:Option Int×Hm->Prop}:W (dD m c a) Q↔W (m c a) fun p=>match p.1 with|.int i=>Q (some i,p.2)|_=>False:=by
 unfold dD
 rw [W_bind]
 constructor<;>exact fun h=>bM h fun p q=>by
  obtain ⟨d,a⟩:=p
  cases d<;>simpa [W_some,W_none] using q
theorem k8 {a:ME}{lo e:MO}{c:aJ}{m:Hm}{Q:D×Hm->Prop}(h:W (a c m) fun p=>∃ l,p.1=.loc l/\W (lo c p.2) fun q=>W (e c q.2) fun r=>∃ xs,r.2[l]? = some (.lst xs)/\Q (.loc r.2.length,r.2++[.lst (e8 xs q.1 r.1)])):W (dN a lo e c m) Q:=by
 unfold dN
 rw [W_bind]
 refine bM h fun p q=>?_
 obtain ⟨d,u⟩:=p
 obtain ⟨l,i,j⟩:=q
 dsimp only at i j ⊢
 subst i
 rw [W_bind]
 refine bM j fun s q=>?_
 rw [W_bind]
 refine bM q fun r q=>?_
 obtain ⟨xs,n,o⟩:=q
 simp only [bS,n,S1]
 exact W_some.mpr o
theorem bD (a:Hm)(c:C):(a++[c])[a.length]? = some c:=by simp
end L3
namespace L3
open PySem L2
theorem N5 {f g:D->D->Hm->Option (D×Hm)}{a b c:ME}{e:aJ}{i:Hm} {Q}:W (kS f g a b c e i) Q↔W (a e i) fun p=>W (b e p.2) fun q=>W (f p.1 q.1 q.2) fun r=>match r.1 with|.bl k=>if k=true then W (c e r.2) fun t=>W (g q.1 t.1 t.2) Q else Q (.bl false,r.2)|_=>False:=by
 unfold kS
 simp only [W_bind]
 constructor<;>exact fun h=>bM h fun p q=>bM q fun m l=>bM l fun r j=>by
  obtain ⟨d,i⟩:=r
  cases d with
  | bl k=>cases k<;>simpa [W_some,W_bind] using j
  | _=>simpa [W_none] using j
section
variable {i j:Int}{μ:Hm}{Q:D×Hm->Prop}
theorem N6:W (fC false .non .non μ) Q↔Q (.bl true,μ):=W_some
theorem w_isnotNN:W (fC true .non .non μ) Q↔Q (.bl false,μ):=W_some
theorem N7 {a:Nat}:W (fC false (.loc a) .non μ) Q↔Q (.bl false,μ):=W_some
theorem w_isnotLN {a:Nat}:W (fC true (.loc a) .non μ) Q↔Q (.bl true,μ):=W_some
theorem N8:W (i7 [.int i,.int j] μ) Q↔Q (.int (min i j),μ):=by
 have:(if j<i then j else i)=min i j:=by split<;>omega
 show W (some (D.int (if j<i then j else i),μ)) Q↔_
 rw [this]
 exact W_some
theorem N9:W (jZ [.int i,.int j] μ) Q↔Q (.int (max i j),μ):=by
 have:(if j>i then j else i)=max i j:=by split<;>omega
 show W (some (D.int (if j>i then j else i),μ)) Q↔_
 rw [this]
 exact W_some
theorem qL:∀ is:List Int,kM (is.map D.int)=some is
 | []=>rfl
 | i::is=>by
  show (kM (is.map D.int)).map (i::·)=_
  rw [qL is];rfl
theorem yR {a:Nat}{is:List Int}(h:μ[a]? = some (.lst (is.map D.int))):W (jW [.loc a] μ) Q↔Q (.int is.sum,μ):=by
 simp only [jW,bS,h,S1,qL,TB]
 exact W_some
theorem yS {a:Nat}{bs:List Bool}(h:μ[a]? = some (.lst (bs.map D.bl))):W (kQ [.loc a] μ) Q↔Q (.bl (bs.all id),μ):=by
 have e:∀ bs:List Bool,nP (bs.map D.bl)=some bs:=fun bs=>by
  induction bs with
  | nil=>rfl
  | cons b bs c=>
   show (nP (bs.map D.bl)).map (b::·)=_
   rw [c];rfl
 simp only [kQ,bS,h,S1,e,TB]
 exact W_some
theorem Oa {a:Nat}{xs:List D}(h:μ[a]? = some (.lst xs))(c:xs.length<=SK):W (iX [.loc a] μ) Q↔Q (.loc μ.length,μ++[.lst xs]):=by
 simp only [iX,bS,h,S1]
 first
 | exact W_some
 | (rw [if_pos c];exact W_some)
end
theorem Dt {a:ME}{lo e st:MO}{c:aJ}{m:Hm}{Q:D×Hm->Prop}(h:W (a c m) fun p=>∃ l,p.1=.loc l/\W (lo c p.2) fun q=>W (e c q.2) fun r=>W (st c r.2) fun t=>t.1≠some 0/\∃ xs,t.2[l]? = some (.lst xs)/\(d5 xs q.1 r.1 t.1).length<=SK/\Q (.loc t.2.length,t.2++[.lst (d5 xs q.1 r.1 t.1)])):W (nU a lo e st c m) Q:=by
 unfold nU
 rw [W_bind]
 refine bM h fun p q=>?_
 obtain ⟨d,w⟩:=p
 obtain ⟨l,i,j⟩:=q
 dsimp only at i j ⊢
 subst i
 rw [W_bind]
 refine bM j fun s q=>?_
 rw [W_bind]
 refine bM q fun r q=>?_
 rw [W_bind]
 refine bM q fun t q=>?_
 obtain ⟨n,xs,o,u,v⟩:=q
 rw [if_pos n]
 simp only [eQ,o,S1]
 rw [if_pos u]
 exact W_some.mpr v
theorem t8 {c:MA}{m:aJ}{j:Hm}{Q:iZ×Nat×Hm->Prop}(h:W (c m j) fun p=>∃ a xs,p.1=[.loc a]/\p.2[a]? = some (.lst xs)/\Q (kT (.loc a),xs.length+1,p.2)):W (jX c m j) Q:=by
 unfold jX
 rw [W_bind]
 refine bM h fun p q=>?_
 obtain ⟨l,n⟩:=p
 obtain ⟨a,xs,d,e,i⟩:=q
 dsimp only at d e i ⊢
 subst d
 dsimp only
 simp only [eQ,e,TB]
 exact W_some.mpr i
noncomputable def iP:Nat->List D->List D
 | _,[]=>[]
 | n,d::r=>.tup [.int n,d]::iP (n+1) r
theorem qM:∀ (xs:List D)(n i:Nat),(iP n xs)[i]? = (xs[i]?).map fun d=>.tup [.int ((n+i:Nat):Int),d]
 | [],n,i=>by simp [iP]
 | d::r,n,0=>by simp [iP]
 | d::r,n,i+1=>by
  show (iP (n+1) r)[i]? = _
  rw [qM r (n+1) i,show n+1+i=n+(i+1) by omega]
  simp
theorem yT:∀ (xs:List D)(n:Nat),(iP n xs).length=xs.length
 | [],_=>rfl
 | d::r,n=>by rw [iP,SY,yT r,SY]
theorem yU {d:Hm}{a:Nat}{xs:List D}(h:d[a]? = some (.lst xs)):∀ c i,d <+: c->kT (.loc a) c i=some (iP 0 xs)[i]?:=fun c i e=>by
 simp only [kT,bS,aK e h,TB,qM]
 congr 3
 simp
theorem Du {a:Nat}{xs:List D}{g:MG}{b:MS}{h:aJ}{c:Hm}{Q:Fl×aJ×Hm->Prop}(I:Nat->aJ->Hm->Prop)(o:I 0 h c)(n:∀ i h c,I i h c->c[a]? = some (.lst xs))
  (go:∀ (i:Nat) d h c,xs[i]? = some d->I i h c->∃ j,g (.tup [.int i,d]) h c=some j/\W (b j c) fun p=>match p.1 with|.nx=>I (i+1) p.2.1 p.2.2|.ct=>I (i+1) p.2.1 p.2.2|.bk=>Q (.nx,p.2.1,p.2.2)|.rt d=>Q (.rt d,p.2.1,p.2.2))
  (m:∀ h c,I xs.length h c->Q (.nx,h,c)):W (gX (kT (.loc a)) g b (xs.length+1) 0 h c) Q:=by
 refine t7 (N:=xs.length) I (fun i h c s l=>?_) (fun h c l=>⟨?_,m h c l⟩) xs.length 0 h c (by omega) o
 ·have e:xs[i]? = some xs[i]:=SN s
  obtain ⟨j,q,r⟩:=go i xs[i] h c e l
  refine ⟨_,j,?_,q,r⟩
  simp only [kT,bS,n i h c l,TB,e]
 ·simp only [kT,bS,n _ h c l,TB]
  simp
theorem t9 {p:iZ}{E:BD}{c:MT}{e:ME}{B:aJ}{a N:Nat}{Q:Hm->Prop}(I:Nat->List D->Hm->Prop)(G:N<=SK)(n:∀ i j l,I i j l->j.length<=i)
  (go:∀ i j l,i<N->I i j l->l[a]? = some (.lst j)->∃ d x,p l i=some (some d)/\E d l=some x/\W (c (B++x) l) fun r=>(r.1=false->r.2[a]? = some (.lst j)/\I (i+1) j r.2) /\
   (r.1=true->W (e (B++x) r.2) fun s=>s.2[a]? = some (.lst j)/\I (i+1) (j++[s.1]) (s.2.set a (.lst (j++[s.1])))))
  (o:∀ j l,I N j l->l[a]? = some (.lst j)->p l N=some none/\Q l):∀ (m i:Nat)(j:List D)(l:Hm),i+m=N->I i j l->l[a]? = some (.lst j)->W (gF p E c e B a (m+1) i l) Q
 | 0,i,j,l,h,hI,hg=>by
  have:i=N:=by omega
  subst this
  obtain ⟨w,z⟩:=o j l hI hg
  unfold gF
  rw [w]
  exact W_some.mpr z
 | m+1,i,j,l,h,hI,hg=>by
  obtain ⟨d,x,w,z,H⟩:=go i j l (by omega) hI hg
  unfold gF
  rw [w]
  simp only [S1,z]
  rw [W_bind]
  refine bM H fun r q=>?_
  obtain ⟨b,A⟩:=r
  cases b with
  | false=>
   obtain ⟨u,v⟩:=q.1 rfl
   exact t9 I G n go o m (i+1) j A (by omega) v u
  | true=>
   dsimp only
   rw [W_bind]
   refine bM (q.2 rfl) fun s q=>?_
   obtain ⟨y,J⟩:=s
   obtain ⟨u,v⟩:=q
   dsimp only at u v ⊢
   have K:=n i j l hI
   rw [yO u (by omega),S1]
   refine t9 I G n go o m (i+1) _ _ (by omega) v ?_
   rw [S7 (SH.mp u).1]
theorem Dv {m:BD}{A:MI}{c:MT}{e:ME}{j:aJ}{a:Hm}{Q:D×Hm->Prop}
  (l:W (A j a) fun r=>∃ (N:Nat)(I:Nat->List D->Hm->Prop),r.2.1=N+1/\N<=SK/\(∀ i h a,I i h a->h.length<=i)/\I 0 [] (r.2.2++[.lst []]) /\
   (∀ i h a,i<N->I i h a->a[r.2.2.length]? = some (.lst h)->∃ d x,r.1 a i=some (some d)/\m d a=some x/\W (c (j++x) a) fun p=>(p.1=false->p.2[r.2.2.length]? = some (.lst h)/\I (i+1) h p.2) /\
    (p.1=true->W (e (j++x) p.2) fun s=>s.2[r.2.2.length]? = some (.lst h)/\I (i+1) (h++[s.1]) (s.2.set r.2.2.length (.lst (h++[s.1]))))) /\
   (∀ h a,I N h a->a[r.2.2.length]? = some (.lst h)->r.1 a N=some none/\Q (.loc r.2.2.length,a))):W (fT m A c e j a) Q:=by
 unfold fT
 rw [W_bind]
 refine bM l fun r q=>?_
 obtain ⟨B,n,E⟩:=r
 obtain ⟨N,I,o,u,v,w,y,z⟩:=q
 dsimp only at o u v w y z ⊢
 subst o
 rw [W_map]
 exact t9 I u v y z N 0 [] _ (by omega) w (by simp)
theorem Ob {z:iZ}{H:BD}{c:MT}{e:ME}{G:aJ}{h:Hm}{xs:List D}{x:D->aJ}{p:D->Bool}{v:D->D}{Q:Hm->Prop}(J:∀ a i,h <+: a->z a i=some xs[i]?)(O:xs.length<=SK)(M:∀ d a,d∈xs->H d a=some (x d))
  (hc:∀ d a,d∈xs->h <+: a->W (c (G++x d) a) fun r=>r.1=p d/\a <+: r.2)
  (N:∀ d a,d∈xs->p d=true->h <+: a->W (e (G++x d) a) fun r=>r.1=v d/\a <+: r.2)
  (aV:∀ a,h <+: a->a[h.length]? = some (.lst ((xs.filter p).map v))->Q a):W (gF z H c e G h.length (xs.length+1) 0 (h++[.lst []])) Q:=by
 refine t9 (N:=xs.length) (fun i A a=>A=((xs.take i).filter p).map v/\h <+: a) O ?_ ?_ ?_ xs.length 0 [] _ (by omega) ⟨by simp,aQ _ _⟩ (by simp)
 ·rintro i A a ⟨rfl,_⟩
  rw [Sx]
  refine TX (WQ _ _) ?_
  rw [Tw];omega
 ·rintro i A a I ⟨rfl,m⟩ w
  have K:xs[i]? = some xs[i]:=SN I
  have j:xs[i]∈xs:=Vc I
  have l:xs.take (i+1)=xs.take i++[xs[i]]:=by rw [XW,K];rfl
  refine ⟨xs[i],x xs[i],by rw [J a i m,K],M _ _ j,bM (hc _ a j m) fun r q=>?_⟩
  obtain ⟨b,E⟩:=r
  obtain ⟨o,u⟩:=q
  dsimp only at o u ⊢
  refine ⟨fun n=>⟨aK u w,?_,m.trans u⟩,fun n=>?_⟩
  ·rw [l,VC]
   rw [n] at o
   simp [<- o]
  ·rw [n] at o
   refine bM (N _ E j o.symm (m.trans u)) fun s q=>?_
   obtain ⟨y,R⟩:=s
   obtain ⟨L,B⟩:=q
   dsimp only at L B ⊢
   subst L
   refine ⟨aK (u.trans B) w,?_,eW ((m.trans u).trans B) (SM _) _⟩
   rw [l,VC,Tn]
   simp [<- o]
 ·rintro A a ⟨rfl,m⟩ w
  refine ⟨by rw [J a _ m];simp,aV a m ?_⟩
  rw [Xw] at w
  exact w
theorem Od {l:BD}{B:MI}{c:MT}{e:ME}{h:aJ}{E:Hm}{xs:List D}{x:D->aJ}{p:D->Bool}{v:D->D}{Q:D×Hm->Prop}
  (j:W (B h E) fun r=>(∀ a i,r.2.2 <+: a->r.1 a i=some xs[i]?)/\r.2.1=xs.length+1/\xs.length<=SK/\(∀ d a,d∈xs->l d a=some (x d)) /\
   (∀ d a,d∈xs->r.2.2 <+: a->W (c (h++x d) a) fun s=>s.1=p d/\a <+: s.2)/\(∀ d a,d∈xs->p d=true->r.2.2 <+: a->W (e (h++x d) a) fun s=>s.1=v d/\a <+: s.2) /\
   ∀ a,r.2.2 <+: a->a[r.2.2.length]? = some (.lst ((xs.filter p).map v))->Q (.loc r.2.2.length,a)):W (fT l B c e h E) Q:=by
 unfold fT
 rw [W_bind]
 refine bM j fun r q=>?_
 obtain ⟨G,n,H⟩:=r
 obtain ⟨m,o,u,w,y,z,A⟩:=q
 dsimp only at m o u w y z A ⊢
 subst o
 rw [W_map]
 exact Ob m u w y z A
theorem w_mTrue {c:aJ}{a:Hm}{Q:Bool×Hm->Prop}:W (cZ c a) Q↔Q (true,a):=W_some
theorem mQ {o i v:ME}{a:aJ}{d:Hm} {Q}:W (fU o i v a d) Q↔W (v a d) fun p=>W (o a p.2) fun q=>W (i a q.2) fun r=>W (mG q.1 r.1 p.1 r.2) fun c=>Q (.nx,a,c):=by
 unfold fU mF
 simp only [W_bind,W_map]
theorem oF {c:Hm}{a:Nat}{xs:List D}{i:Int}{j:Nat}{d:D}{Q:Hm->Prop}(h:c[a]? = some (.lst xs))(e:fM xs.length i=some j):W (mG (.loc a) (.int i) d c) Q↔Q (c.set a (.lst (xs.set j d))):=by
 simp only [mG,nV,h,e,TB]
 exact W_some
theorem Oe {e:Hm}{a:Nat}{c:List (aR×D)}{y d:D}{k:aR}{Q:Hm->Prop}(h:e[a]? = some (.dK c))(i:lV y=some k)(j:c.length<SK):W (mG (.loc a) y d e) Q↔Q (e.set a (.dK (nI c k d))):=by
 simp only [mG,pQ,h,i,S1,if_pos j]
 exact W_some
theorem Of {c:aJ}{a:Hm}{Q:D×Hm->Prop}:W (tF c a) Q↔Q (.loc a.length,a++[.dK []]):=W_some
theorem yV {c:Hm}{a b:Nat}{ps qs:List Int}{Q:D×Hm->Prop}(d:c[a]? = some (.lst (ps.map D.int)))(e:c[b]? = some (.lst (qs.map D.int))):W (aP true (.loc a) (.loc b) c) Q↔Q (.bl (!(ps == qs)),c):=NZ d e
theorem oG {f:D->List D->Hm->Option (D×Hm)}{j:ME}{l:MA}{a:aJ}{m:Hm}{Q:D×Hm->Prop}(h:W (j a m) fun p=>∃ x,p.1=.str x/\W (l a p.2) fun q=>W (f (.str x) q.1 q.2) Q):W (eK f j l a m) Q:=by
 obtain ⟨⟨d,u⟩,n,x,c,⟨w,v⟩,e,i⟩:=h
 dsimp only at c e i
 subst c
 obtain ⟨r,o,s⟩:=i
 refine ⟨r,?_,s⟩
 simp only [eK,n,S1,e]
 exact o
theorem Dw:∀ a:List Str,pR (a.map D.str)=some a
 | []=>rfl
 | x::a=>by
  rw [SW]
  simp only [pR,Dw a,TB]
theorem Og {e:Hm}{a:Nat}{c:Str}{d:List Str}{Q:D×Hm->Prop}(h:e[a]? = some (.lst (d.map D.str)))(i:VT (d.toArray.foldl (·+·.length+c.length) 0)=false)(j:(UI c d).length<=SK) :
  W (jY (.str c) [.loc a] e) Q↔Q (.str (UI c d),e):=by
 simp only [jY,eQ,h,S1,Dw]
 rw [if_pos ⟨i,j⟩]
 exact W_some
theorem Oh {c:Hm}{a:Nat}{xs:List D}{i:Int}{y:D}{Q:D×Hm->Prop}(h:c[a]? = some (.lst xs))(d:0<=i)(e:i<2 ^ 63)(j:xs.length<SK):W (nW (.loc a) [.int i,y] c) Q↔Q (.non,c.set a (.lst (dU xs i.toNat y))):=by
 simp only [nW,h]
 rw [if_pos ⟨d,e,j⟩]
 exact W_some
theorem Dx {c:Hm}{a:Nat}{is:List Int}{Q:D×Hm->Prop}(h:c[a]? = some (.lst (is.map D.int)))(d:is.length<64):W (kU [.loc a] c) Q↔Q (.loc c.length,c++[.lst ((eS is).map D.int)]):=by
 have:nX [.loc a] c=some (.loc c.length,c++[.lst ((eS is).map D.int)]):=by
  simp only [nX,eQ,h,S1,qL]
  rw [if_pos d]
 rw [show kU [.loc a] c=nX [.loc a] c from rfl,this]
 exact W_some
theorem Dy {a:Hm}{j:Int}{Q:D×Hm->Prop}(h:0<=j/\j<=2 ^ 20):W (iL [.int j] a) Q↔Q (.loc a.length,a++[.lst (((Td j.toNat).map fun (i:Nat)=>(i:Int)).map D.int)]):=by
 simp only [iL]
 rw [if_pos h,Tv]
 exact W_some
theorem yW {z:Str}{i:Int}{c:Nat}{a:Hm}{Q:D×Hm->Prop}(d:z.length<=SK)(h:atI z.cps.toList i=some c):W (aL (.str z) (.int i) a) Q↔Q (.str ⟨#[c]⟩,a):=by
 have:aL (.str z) (.int i) a=some (.str ⟨#[c]⟩,a):=by
  simp only [aL,dY]
  rw [if_pos d,h];rfl
 rw [this]
 exact W_some
theorem uA {x y:Str}{a:Hm}{Q:D×Hm->Prop}(h:x.length+y.length<=SK):W (aZ (.str x) (.str y) a) Q↔Q (.str (x++y),a):=by
 have:aZ (.str x) (.str y) a=some (.str (x++y),a):=by
  simp only [aZ];rw [if_pos h]
 rw [this]
 exact W_some
theorem Oi {d:Hm}{a:Nat}{c:List (aR×D)}{Q:D×Hm->Prop}(h:d[a]? = some (.dK c)):W (bH [.loc a] d) Q↔Q (.int c.length,d):=by
 simp only [bH,h]
 exact W_some
theorem Oj {m d:MS}{r:MR}{sup:Str->Option Bool}{i:Nat}{j c:aJ}{e a:Hm}{x:Xn}{Q:Fl×aJ×Hm->Prop}(h:r j e=some (x,c,a))(l:sup x.1=some true) :
  W (jU m r sup i d j e) Q↔W (d (c.set i (some (.loc a.length))) (a++[C.exc x.1 (x.2.map (·.1)) (x.2.map (·.2))])) fun q=>Q (q.1,q.2.1.set i none,q.2.2):=by
 unfold jU
 rw [h]
 dsimp only
 rw [if_pos l]
 exact W_map
theorem Ol {m d:MS}{r:MR}{sup:Str->Option Bool}{i:Nat}{c:aJ}{a:Hm}{Q:Fl×aJ×Hm->Prop}(h:r c a=none):W (jU m r sup i d c a) Q↔W (m c a) Q:=by
 unfold jU
 rw [h]
theorem w_rCall {r:RF}{c:MA}{a:aJ}{d:Hm}{Q:Xn×aJ×Hm->Prop}:W (cP r c a d) Q↔W (c a d) fun p=>W (r p.1 p.2) fun q=>Q (q.1,a,q.2):=by
 unfold cP
 rw [W_bind]
 exact ⟨fun ⟨p,h,k⟩=>⟨p,h,W_map.mp k⟩,fun ⟨p,h,k⟩=>⟨p,h,W_map.mpr k⟩⟩
theorem w_rRaise {x:Str}{c:MA}{a:aJ}{d:Hm}{Q:Xn×aJ×Hm->Prop}:W (l8 x c a d) Q↔W (c a d) fun p=>Q ((x,[]),a,p.2):=by
 unfold l8
 exact W_map
theorem w_rIf {t:MT}{c d:MR}{a:aJ}{e:Hm}{Q:Xn×aJ×Hm->Prop}:W (eE t c d a e) Q↔W (t a e) fun p=>W (if p.1=true then c a p.2 else d a p.2) Q:=by
 unfold eE
 exact W_bind
theorem fE {m:MS}{a j:MR}{d:aJ}{c:Hm}{Q:Xn×aJ×Hm->Prop}(h:W (a d c) Q):W (bO m a j d c) Q:=by
 obtain ⟨p,e,i⟩:=h
 refine ⟨p,?_,i⟩
 unfold bO
 rw [e]
theorem yX {m:MS}{d e:MR}{c:aJ}{a:Hm}{Q:Xn×aJ×Hm->Prop}(h:d c a=none)(k:W (m c a) fun p=>p.1=.nx/\W (e p.2.1 p.2.2) Q):W (bO m d e c a) Q:=by
 obtain ⟨⟨f,q,o⟩,i,j,p,l,n⟩:=k
 cases j
 refine ⟨p,?_,n⟩
 unfold bO
 rw [h,i]
 exact l
theorem hZ {o:Option (Xn×aJ×Hm)}{Q:Xn×Hm->Prop}:W (gH o) Q↔W o fun p=>Q (p.1,p.2.2):=W_map
end L3
namespace Lw
open PySem L2 L3
noncomputable def ds:List (Str×Stmt):=(("is_whole",aS 16)::("is_good",aS 18)::("check_round",aS 19)::("check_order",aS 20)::("spots_of",aS 21)::("wedges_at",aS 22)::("heights_of",aS 23)::("is_between",aS 24)::("between_at",aS 25)::("reaches_beyond",aS 26)::("shutting_wedges",aS 27)::("is_shutting_crease",aS 28)::("shutting_creases",aS 29)::("shut_at",aS 30)::("mark_by",aS 31)::("marks_of",aS 32)::("check_row",aS 34)::("wedges_by",aS 35)::("is_crimp",aS 36)::("brought_ahead",aS 37)::("is_turned_part",aS 38)::("crimped",aS 39)::("last_two",aS 40)::("folded_order",aS 41)::("order_for",aS 42)::("rows_of",aS 43)::("all_marks",aS 44)::("ways_to_choose",aS 45)::("least_ahead",aS 46)::("run_of_least",aS 47)::("ways_to_fold",aS 48)::("how_many",aS 49)::("_law_nth",aS 51)::("_law_gaps",aS 52)::("_law_order",aS 53)::("_law_kinds",aS 54)::("_law_asked",aS 55)::("_law_refused",aS 56)::("_law_bad_gaps",aS 57)::("_law_bad_order",aS 58)::("_law_bad_marks",aS 59)::("law",aS 60)::[])
noncomputable def S:Sig:={ fn:=(("is_whole",1)::("is_good",1)::("check_round",1)::("check_order",2)::("spots_of",1)::("wedges_at",2)::("heights_of",1)::("is_between",3)::("between_at",3)::("reaches_beyond",3)::("shutting_wedges",3)::("is_shutting_crease",4)::("shutting_creases",3)::("shut_at",2)::("mark_by",2)::("marks_of",2)::("check_row",2)::("wedges_by",2)::("is_crimp",3)::("brought_ahead",1)::("is_turned_part",1)::("crimped",3)::("last_two",2)::("folded_order",2)::("order_for",2)::("rows_of",1)::("all_marks",1)::("ways_to_choose",2)::("least_ahead",1)::("run_of_least",1)::("ways_to_fold",1)::("how_many",1)::("_law_nth",2)::("_law_gaps",2)::("_law_order",3)::("_law_kinds",1)::("_law_asked",4)::("_law_refused",4)::("_law_bad_gaps",2)::("_law_bad_order",2)::("_law_bad_marks",2)::("law",1)::[]),con:=[],tab:=[],no:=["ValueError","all","bool","enumerate","int","isinstance","len","list","max","min","range","sorted","sum"],dIt:=[],dEq:=[],dMe:=[],cls:=[("NoEdge","edge"),("Twice","edge"),("Barred","corner")],sup:=[("CreaseError",["CreaseError","ValueError"]),("NoSize",["NoSize","CreaseError","ValueError"]),("NoMark",["NoMark","CreaseError","ValueError"]),("NoText",["NoText","CreaseError","ValueError"]),("NoRound",["NoRound","CreaseError","ValueError"]),("NoOrder",["NoOrder","CreaseError","ValueError"]),("TooMany",["TooMany","CreaseError","ValueError"]),("NoFold",["NoFold","CreaseError","ValueError"]),("NoRow",["NoRow","CreaseError","ValueError"]),("NoName",["NoName","CreaseError","ValueError"]),("Taken",["Taken","CreaseError","ValueError"]),("NoEdge",["NoEdge","CreaseError","ValueError"]),("Twice",["Twice","CreaseError","ValueError"]),("Barred",["Barred","CreaseError","ValueError"])],rz:=["check_round","check_order","spots_of","shut_at","marks_of","check_row","order_for","all_marks","how_many","_law_asked"],ul:=[("_law_kinds",aS 54)] }
@[irreducible] noncomputable def f (k:Nat)(x:Str):MF:=hV S ds k x
@[irreducible] noncomputable def g (k:Nat)(x:Str):RF:=kY S ds k x
noncomputable abbrev sup (c x:Str):Option Bool:=(S.sup.lookup x).map fun a=>a.contains c
end Lw
namespace Lw
open PySem L2 L3
theorem Om (k:Nat)(a:D)(c:Hm):f (k+1) "is_whole" [a] c=aV ((aY (jM (aE lQ (aB (aA 0) (aB (mC (.ty "int")) aD))) (lP (aE lQ (aB (aA 0) (aB (mC (.ty "bool")) aD)))))) [some a] c):=by
 kernel_rfl
theorem Oo (k:Nat)(a:D)(c:Hm):f (k+1) "is_good" [a] c=aV ((aN (a9 (dR (aM (aC jP (aE bH (aB (aA 0) aD)) (mC (.int 8)))) (aM (aC (aP false) (aC bF (aE bH (aB (aA 0) aD)) (mC (.int 2))) (mC (.int 1))))) (aY (mC (.bl false))) bP) (aN (a9 (gC (dP (aE kQ (aB (cR (eJ (aA 0)) cZ (jM (aE (f k "is_whole") (aB (aA 1) aD)) (aC pH (aA 1) (mC (.int 1))))) aD)))) (aY (mC (.bl false))) bP) (aY (aC (aP false) (aE jW (aB (nU (aA 0) dZ dZ (dD (mC (.int 2)))) aD)) (aE jW (aB (nU (aA 0) (dD (mC (.int 1))) dZ (dD (mC (.int 2)))) aD)))))) [some a] c):=by
 kernel_rfl
theorem Oq (k:Nat)(a:D)(c:Hm):f (k+1) "check_round" [a] c=aV ((a9 (dR (aM (aC gE (aE bH (aB (aA 0) aD)) (mC (.int 2)))) (gC (dP (aE (f k "is_good") (aB (aA 0) aD))))) bW bP) [some a] c):=by
 kernel_rfl
theorem Dz (k:Nat)(a:D)(c:Hm):g (k+3) "check_round" [a] c=gH ((bO (a9 (dR (aM (aC gE (aE bH (aB (aA 0) aD)) (mC (.int 2)))) (gC (dP (aE (f (k+2) "is_good") (aB (aA 0) aD))))) bW bP) (eE (dR (aM (aC gE (aE bH (aB (aA 0) aD)) (mC (.int 2)))) (gC (dP (aE (f (k+2) "is_good") (aB (aA 0) aD))))) (bO bW (l8 "NoRound" (aB (mC (.str "a corner alone has two to eight good gaps")) aD)) bG) bG) bG) [some a] c):=by
 kernel_rfl
theorem Ot (k:Nat)(a c:D)(d:Hm):f (k+1) "check_order" [a,c] d=aV ((a9 (dR (gC (dP (aE kQ (aB (cR (eJ (aA 1)) cZ (aE (f k "is_whole") (aB (aA 2) aD))) aD)))) (aM (aC (aP true) (aE kU (aB (aA 1) aD)) (aE iL (aB (aE bH (aB (aA 0) aD)) aD))))) bW bP) [some a,some c] d):=by
 kernel_rfl
theorem DA (k:Nat)(a c:D)(d:Hm):g (k+3) "check_order" [a,c] d=gH ((bO (a9 (dR (gC (dP (aE kQ (aB (cR (eJ (aA 1)) cZ (aE (f (k+2) "is_whole") (aB (aA 2) aD))) aD)))) (aM (aC (aP true) (aE kU (aB (aA 1) aD)) (aE iL (aB (aE bH (aB (aA 0) aD)) aD))))) bW bP) (eE (dR (gC (dP (aE kQ (aB (cR (eJ (aA 1)) cZ (aE (f (k+2) "is_whole") (aB (aA 2) aD))) aD)))) (aM (aC (aP true) (aE kU (aB (aA 1) aD)) (aE iL (aB (aE bH (aB (aA 0) aD)) aD))))) (bO bW (l8 "NoOrder" (aB (mC (.str "an order names each wedge once")) aD)) bG) bG) bG) [some a,some c] d):=by
 kernel_rfl
theorem Ou (k:Nat)(a:D)(c:Hm):f (k+1) "spots_of" [a] c=aV ((aN (bC (aE (f k "check_round") (aB (aA 0) aD))) (aN (aW 1 (bU (aB (mC (.int 0)) aD))) (aN (fS (jX (aB (dN (aA 0) dZ (dD (iF (mC (.int 1))))) aD)) (jR [2,3]) (bC (iI jT (aA 1) (aB (aC aZ (aC aL (aA 1) (aA 2)) (iW (aM (aC (aP false) (aC bF (aA 2) (mC (.int 2))) (mC (.int 0)))) (aA 3) (iF (aA 3)))) aD)))) (aY (aA 1))))) [some a,none,none,none] c):=by
 kernel_rfl
theorem DB (k:Nat)(a:D)(c:Hm):g (k+3) "spots_of" [a] c=gH ((bO (bC (aE (f (k+2) "check_round") (aB (aA 0) aD))) (cP (g (k+2) "check_round") (aB (aA 0) aD)) (bO (aW 1 (bU (aB (mC (.int 0)) aD))) bG (bO (fS (jX (aB (dN (aA 0) dZ (dD (iF (mC (.int 1))))) aD)) (jR [2,3]) (bC (iI jT (aA 1) (aB (aC aZ (aC aL (aA 1) (aA 2)) (iW (aM (aC (aP false) (aC bF (aA 2) (mC (.int 2))) (mC (.int 0)))) (aA 3) (iF (aA 3)))) aD)))) bG (bO (aY (aA 1)) bG bG)))) [some a,none,none,none] c):=by
 kernel_rfl
theorem Ov (k:Nat)(a c:D)(d:Hm):f (k+1) "wedges_at" [a,c] d=aV ((aY (bU (aB (aC bF (aC dO (aA 1) (mC (.int 1))) (aA 0)) (aB (aA 1) aD)))) [some a,some c] d):=by
 kernel_rfl
theorem Ox (k:Nat)(a:D)(c:Hm):f (k+1) "heights_of" [a] c=aV ((aN (aW 1 tF) (aN (fS (jX (aB (aA 0) aD)) (jR [2,3]) (fU (aA 1) (aA 3) (aA 2))) (aY (aA 1)))) [some a,none,none,none] c):=by
 kernel_rfl
theorem Oy (k:Nat)(a c d:D)(e:Hm):f (k+1) "is_between" [a,c,d] e=aV ((aY (kS gE gE (aE i7 (aB (aA 1) (aB (aA 2) aD))) (aA 0) (aE jZ (aB (aA 1) (aB (aA 2) aD))))) [some a,some c,some d] e):=by
 kernel_rfl
theorem Oz (k:Nat)(a c d:D)(e:Hm):f (k+1) "between_at" [a,c,d] e=aV ((aN (aW 3 (aE (f k "heights_of") (aB (aA 0) aD))) (aN (aW 4 (cR (eJ (aE (f k "wedges_at") (aB (aE bH (aB (aA 0) aD)) (aB (aA 1) aD)))) cZ (aC aL (aA 3) (aA 5)))) (aY (cR (eJ (aA 2)) (dP (aE (f k "is_between") (aB (aC aL (aA 3) (aA 5)) (aB (aC aL (aA 4) (mC (.int 0))) (aB (aC aL (aA 4) (mC (.int 1))) aD))))) (aA 5))))) [some a,some c,some d,none,none] e):=by
 kernel_rfl
theorem OA (k:Nat)(a c d:D)(e:Hm):f (k+1) "reaches_beyond" [a,c,d] e=aV ((aY (aE (f k "is_between") (aB (aA 2) (aB (aC aL (aA 0) (aA 1)) (aB (aC aL (aA 0) (aC bF (aC aZ (aA 1) (mC (.int 1))) (aE bH (aB (aA 0) aD)))) aD))))) [some a,some c,some d] e):=by
 kernel_rfl
theorem OB (k:Nat)(a c d:D)(e:Hm):f (k+1) "shutting_wedges" [a,c,d] e=aV ((aN (aW 3 (cR (cN (aB (aE bH (aB (aA 0) aD)) aD)) (dP (aE (f k "reaches_beyond") (aB (aA 0) (aB (aA 4) (aB (aC aL (aA 0) (aA 2)) aD))))) (aA 4))) (aY (aE (f k "between_at") (aB (aA 1) (aB (aA 2) (aB (aA 3) aD)))))) [some a,some c,some d,none] e):=by
 kernel_rfl
theorem OC (k:Nat)(a c d e:D)(h:Hm):f (k+1) "is_shutting_crease" [a,c,d,e] h=aV ((aN (a9 (dR (aM (aC (aP false) (aA 3) (aA 2))) (dR (aM (aC (aP true) (aC bF (aA 3) (mC (.int 2))) (aC bF (aA 2) (mC (.int 2))))) (aM (aC (aP true) (aC aL (aA 0) (aA 3)) (aC aL (aA 0) (aA 2)))))) (aY (mC (.bl false))) bP) (aY (aC (aP false) (aE bH (aB (aE (f k "between_at") (aB (aA 1) (aB (aA 2) (aB (aE (f k "wedges_at") (aB (aE bH (aB (aA 0) aD)) (aB (aA 3) aD))) aD)))) aD)) (mC (.int 1))))) [some a,some c,some d,some e] h):=by
 kernel_rfl
theorem OD (k:Nat)(a c d:D)(e:Hm):f (k+1) "shutting_creases" [a,c,d] e=aV ((aY (cR (cN (aB (aE bH (aB (aA 0) aD)) aD)) (dP (aE (f k "is_shutting_crease") (aB (aA 0) (aB (aA 1) (aB (aA 2) (aB (aA 3) aD)))))) (aA 3))) [some a,some c,some d] e):=by
 kernel_rfl
theorem OE (k:Nat)(a c:D)(d:Hm):f (k+1) "shut_at" [a,c] d=aV ((aN (aW 2 (aE (f k "spots_of") (aB (aA 0) aD))) (aN (bC (aE (f k "check_order") (aB (aA 0) (aB (aA 1) aD)))) (aN (fS (cN (aB (aE bH (aB (aA 0) aD)) aD)) (gW 3) (aN (aW 4 (aE (f k "shutting_wedges") (aB (aA 2) (aB (aA 1) (aB (aA 3) aD))))) (aN (a9 (dP (aA 4)) (aY (gS (aB (mC (.str "wedge")) (aB (aA 3) (aB (aC aL (aA 4) (mC (.int 0))) aD))))) bP) (aN (aW 5 (aE (f k "shutting_creases") (aB (aA 2) (aB (aA 1) (aB (aA 3) aD))))) (a9 (dP (aA 5)) (aY (gS (aB (mC (.str "crease")) (aB (aA 3) (aB (aC aL (aA 5) (mC (.int 0))) aD))))) bP))))) (aY (mC .non))))) [some a,some c,none,none,none,none] d):=by
 kernel_rfl
theorem yY (k:Nat)(a c:D)(d:Hm):g (k+3) "shut_at" [a,c] d=gH ((bO (aW 2 (aE (f (k+2) "spots_of") (aB (aA 0) aD))) (cP (g (k+2) "spots_of") (aB (aA 0) aD)) (bO (bC (aE (f (k+2) "check_order") (aB (aA 0) (aB (aA 1) aD)))) (cP (g (k+2) "check_order") (aB (aA 0) (aB (aA 1) aD))) (bO (fS (cN (aB (aE bH (aB (aA 0) aD)) aD)) (gW 3) (aN (aW 4 (aE (f (k+2) "shutting_wedges") (aB (aA 2) (aB (aA 1) (aB (aA 3) aD))))) (aN (a9 (dP (aA 4)) (aY (gS (aB (mC (.str "wedge")) (aB (aA 3) (aB (aC aL (aA 4) (mC (.int 0))) aD))))) bP) (aN (aW 5 (aE (f (k+2) "shutting_creases") (aB (aA 2) (aB (aA 1) (aB (aA 3) aD))))) (a9 (dP (aA 5)) (aY (gS (aB (mC (.str "crease")) (aB (aA 3) (aB (aC aL (aA 5) (mC (.int 0))) aD))))) bP))))) bG (bO (aY (mC .non)) bG bG)))) [some a,some c,none,none,none,none] d):=by
 kernel_rfl
theorem OF (k:Nat)(a c:D)(d:Hm):f (k+1) "mark_by" [a,c] d=aV ((aN (aW 2 (aE (f k "wedges_at") (aB (aE bH (aB (aA 0) aD)) (aB (aA 1) aD)))) (aN (aW 3 (aC aL (aA 2) (aC bF (aA 1) (mC (.int 2))))) (aN (aW 4 (aC aL (aA 2) (aC dO (mC (.int 1)) (aC bF (aA 1) (mC (.int 2)))))) (aY (iW (aM (aC jP (aC aL (aA 0) (aA 3)) (aC aL (aA 0) (aA 4)))) (mC (.str "v")) (mC (.str "h"))))))) [some a,some c,none,none,none] d):=by
 kernel_rfl
theorem OG (k:Nat)(a c:D)(d:Hm):f (k+1) "marks_of" [a,c] d=aV ((aN (bC (aE (f k "check_round") (aB (aA 0) aD))) (aN (bC (aE (f k "check_order") (aB (aA 0) (aB (aA 1) aD)))) (aN (aW 2 (aE (f k "heights_of") (aB (aA 1) aD))) (aY (eK jY (mC (.str "")) (aB (cR (cN (aB (aE bH (aB (aA 0) aD)) aD)) cZ (aE (f k "mark_by") (aB (aA 2) (aB (aA 3) aD)))) aD)))))) [some a,some c,none] d):=by
 kernel_rfl
theorem yZ (k:Nat)(a c:D)(d:Hm):g (k+3) "marks_of" [a,c] d=gH ((bO (bC (aE (f (k+2) "check_round") (aB (aA 0) aD))) (cP (g (k+2) "check_round") (aB (aA 0) aD)) (bO (bC (aE (f (k+2) "check_order") (aB (aA 0) (aB (aA 1) aD)))) (cP (g (k+2) "check_order") (aB (aA 0) (aB (aA 1) aD))) (bO (aW 2 (aE (f (k+2) "heights_of") (aB (aA 1) aD))) bG (bO (aY (eK jY (mC (.str "")) (aB (cR (cN (aB (aE bH (aB (aA 0) aD)) aD)) cZ (aE (f (k+2) "mark_by") (aB (aA 2) (aB (aA 3) aD)))) aD))) bG bG)))) [some a,some c,none] d):=by
 kernel_rfl
theorem OH (k:Nat)(a c:D)(d:Hm):f (k+1) "check_row" [a,c] d=aV ((a9 (dR (aM (aC (aP true) (aE bH (aB (aA 1) aD)) (aE bH (aB (aA 0) aD)))) (aM (aC (aP true) (aC aZ (eK gZ (aA 1) (aB (mC (.str "h")) aD)) (eK gZ (aA 1) (aB (mC (.str "v")) aD))) (aE bH (aB (aA 1) aD))))) bW bP) [some a,some c] d):=by
 kernel_rfl
theorem DC (k:Nat)(a c:D)(d:Hm):g (k+3) "check_row" [a,c] d=gH ((bO (a9 (dR (aM (aC (aP true) (aE bH (aB (aA 1) aD)) (aE bH (aB (aA 0) aD)))) (aM (aC (aP true) (aC aZ (eK gZ (aA 1) (aB (mC (.str "h")) aD)) (eK gZ (aA 1) (aB (mC (.str "v")) aD))) (aE bH (aB (aA 1) aD))))) bW bP) (eE (dR (aM (aC (aP true) (aE bH (aB (aA 1) aD)) (aE bH (aB (aA 0) aD)))) (aM (aC (aP true) (aC aZ (eK gZ (aA 1) (aB (mC (.str "h")) aD)) (eK gZ (aA 1) (aB (mC (.str "v")) aD))) (aE bH (aB (aA 1) aD))))) (bO bW (l8 "NoMark" (aB (mC (.str "a row of marks has one h or v for each crease")) aD)) bG) bG) bG) [some a,some c] d):=by
 kernel_rfl
theorem OI (k:Nat)(a c:D)(d:Hm):f (k+1) "wedges_by" [a,c] d=aV ((aY (fT (sF 2) (jX (aB (aA 0) aD)) cZ (gS (aB (aA 3) (aB (aC aL (aA 1) (aA 2)) (aB (bU (aB (aA 2) aD)) aD)))))) [some a,some c] d):=by
 kernel_rfl
theorem OJ (k:Nat)(a c d:D)(e:Hm):f (k+1) "is_crimp" [a,c,d] e=aV ((aY (jM (aC nF (aC aL (aA 1) (mC (.int 0))) (aC aL (aA 0) (mC (.int 0)))) (jM (aC nF (aC aL (aA 1) (mC (.int 0))) (aC aL (aA 2) (mC (.int 0)))) (aC (aP true) (aC aL (aA 1) (mC (.int 1))) (aC aL (aA 2) (mC (.int 1))))))) [some a,some c,some d] e):=by
 kernel_rfl
theorem OK (k:Nat)(a:D)(c:Hm):f (k+1) "brought_ahead" [a] c=aV ((aN (fS (cN (aB (aE bH (aB (aA 0) aD)) aD)) (gW 1) (aN (aW 2 (aC aZ (dN (aA 0) (dD (aA 1)) dZ) (dN (aA 0) dZ (dD (aA 1))))) (a9 (dP (aE (f k "is_crimp") (aB (aC aL (aA 2) (mC (.int 0))) (aB (aC aL (aA 2) (mC (.int 1))) (aB (aC aL (aA 2) (mC (.int 2))) aD))))) (aY (aA 2)) bP))) (aY (mC .non))) [some a,none,none] c):=by
 kernel_rfl
theorem OL (k:Nat)(a:D)(c:Hm):f (k+1) "is_turned_part" [a] c=aV ((aY (aC (aP false) (aC bF (aC aL (aC aL (aA 0) (mC (.int 2))) (mC (.int 0))) (mC (.int 2))) (mC (.int 1)))) [some a] c):=by
 kernel_rfl
theorem OM (k:Nat)(a c d:D)(e:Hm):f (k+1) "crimped" [a,c,d] e=aV ((aN (aW 3 (aC aZ (aC dO (aC aL (aA 0) (mC (.int 0))) (aC aL (aA 1) (mC (.int 0)))) (aC aL (aA 2) (mC (.int 0))))) (aN (a9 (aM (aC (aP false) (aC (aP false) (aC aL (aA 1) (mC (.int 1))) (mC (.str "v"))) (aE (f k "is_turned_part") (aB (aA 1) aD)))) (aY (gS (aB (aA 3) (aB (aC aL (aA 0) (mC (.int 1))) (aB (aC aZ (aC aZ (aC aL (aA 0) (mC (.int 2))) (aC aL (aA 1) (mC (.int 2)))) (aC aL (aA 2) (mC (.int 2)))) aD))))) bP) (aY (gS (aB (aA 3) (aB (aC aL (aA 0) (mC (.int 1))) (aB (aC aZ (aC aZ (aC aL (aA 2) (mC (.int 2))) (aC aL (aA 1) (mC (.int 2)))) (aC aL (aA 0) (mC (.int 2)))) aD))))))) [some a,some c,some d,none] e):=by
 kernel_rfl
theorem ON (k:Nat)(a c:D)(d:Hm):f (k+1) "last_two" [a,c] d=aV ((aN (a9 (aM (aC (aP true) (aC aL (aA 0) (mC (.int 1))) (aC aL (aA 1) (mC (.int 1))))) (aY (mC .non)) bP) (aN (a9 (aM (aC (aP false) (aC (aP false) (aC aL (aA 0) (mC (.int 1))) (mC (.str "v"))) (aE (f k "is_turned_part") (aB (aA 0) aD)))) (aY (aC aZ (aC aL (aA 1) (mC (.int 2))) (aC aL (aA 0) (mC (.int 2))))) bP) (aY (aC aZ (aC aL (aA 0) (mC (.int 2))) (aC aL (aA 1) (mC (.int 2))))))) [some a,some c] d):=by
 kernel_rfl
theorem OO (k:Nat)(a c:D)(d:Hm):f (k+1) "folded_order" [a,c] d=aV ((aN (aW 2 (aE (f k "wedges_by") (aB (aA 0) (aB (aA 1) aD)))) (aN (nO n6 (aM (aC jP (aE bH (aB (aA 2) aD)) (mC (.int 2)))) (aN (aW 3 (aE (f k "brought_ahead") (aB (aA 2) aD))) (aN (a9 (aM (aC (fC false) (aA 3) (mC .non))) (aY (mC .non)) bP) (aW 2 (aC aZ (bU (aB (aE (f k "crimped") (aB (aC aL (aA 3) (mC (.int 0))) (aB (aC aL (aA 3) (mC (.int 1))) (aB (aC aL (aA 3) (mC (.int 2))) aD)))) aD)) (dN (aA 3) (dD (mC (.int 3))) dZ)))))) (aY (aE (f k "last_two") (aB (aC aL (aA 2) (mC (.int 0))) (aB (aC aL (aA 2) (mC (.int 1))) aD)))))) [some a,some c,none,none] d):=by
 kernel_rfl
theorem OP (k:Nat)(a c:D)(d:Hm):f (k+1) "order_for" [a,c] d=aV ((aN (bC (aE (f k "check_round") (aB (aA 0) aD))) (aN (bC (aE (f k "check_row") (aB (aA 0) (aB (aA 1) aD)))) (aY (aE (f k "folded_order") (aB (aA 0) (aB (aA 1) aD)))))) [some a,some c] d):=by
 kernel_rfl
theorem y3 (k:Nat)(a c:D)(d:Hm):g (k+3) "order_for" [a,c] d=gH ((bO (bC (aE (f (k+2) "check_round") (aB (aA 0) aD))) (cP (g (k+2) "check_round") (aB (aA 0) aD)) (bO (bC (aE (f (k+2) "check_row") (aB (aA 0) (aB (aA 1) aD)))) (cP (g (k+2) "check_row") (aB (aA 0) (aB (aA 1) aD))) (bO (aY (aE (f (k+2) "folded_order") (aB (aA 0) (aB (aA 1) aD)))) bG bG))) [some a,some c] d):=by
 kernel_rfl
theorem OQ (k:Nat)(a:D)(c:Hm):f (k+1) "rows_of" [a] c=aV ((aN (aW 1 (bU (aB (mC (.str "")) aD))) (aN (fS (cN (aB (aA 0) aD)) (gW 2) (aW 1 (aC aZ (cR (eJ (aA 1)) cZ (aC aZ (mC (.str "h")) (aA 3))) (cR (eJ (aA 1)) cZ (aC aZ (mC (.str "v")) (aA 3)))))) (aY (aA 1)))) [some a,none,none] c):=by
 kernel_rfl
theorem OR (k:Nat)(a:D)(c:Hm):f (k+1) "all_marks" [a] c=aV ((aN (bC (aE (f k "check_round") (aB (aA 0) aD))) (aY (cR (eJ (aE (f k "rows_of") (aB (aE bH (aB (aA 0) aD)) aD))) (aM (aC (fC true) (aE (f k "folded_order") (aB (aA 0) (aB (aA 1) aD))) (mC .non))) (aA 1)))) [some a] c):=by
 kernel_rfl
theorem DD (k:Nat)(a:D)(c:Hm):g (k+3) "all_marks" [a] c=gH ((bO (bC (aE (f (k+2) "check_round") (aB (aA 0) aD))) (cP (g (k+2) "check_round") (aB (aA 0) aD)) (bO (aY (cR (eJ (aE (f (k+2) "rows_of") (aB (aE bH (aB (aA 0) aD)) aD))) (aM (aC (fC true) (aE (f (k+2) "folded_order") (aB (aA 0) (aB (aA 1) aD))) (mC .non))) (aA 1))) bG bG)) [some a] c):=by
 kernel_rfl
theorem OS (k:Nat)(a c:D)(d:Hm):f (k+1) "ways_to_choose" [a,c] d=aV ((aN (aW 2 (mC (.int 1))) (aN (fS (cN (aB (aA 0) aD)) (gW 3) (aW 2 (aC cQ (aC b8 (aA 2) (aC dO (aA 1) (aA 3))) (aC aZ (aA 3) (mC (.int 1)))))) (aY (aA 2)))) [some a,some c,none,none] d):=by
 kernel_rfl
theorem OT (k:Nat)(a:D)(c:Hm):f (k+1) "least_ahead" [a] c=aV ((aN (aW 1 (aE i7 (aB (aA 0) aD))) (aN (aW 2 (aC aL (fT (sF 2) (jX (aB (aA 0) aD)) (nB (aM (aC (aP false) (aA 4) (aA 1))) (aM (aC jP (aC aL (aA 0) (aC dO (aA 3) (mC (.int 1)))) (aA 1)))) (aA 3)) (mC (.int 0)))) (aY (aC aZ (dN (aA 0) (dD (aA 2)) dZ) (dN (aA 0) dZ (dD (aA 2))))))) [some a,none,none] c):=by
 kernel_rfl
theorem OU (k:Nat)(a:D)(c:Hm):f (k+1) "run_of_least" [a] c=aV ((aN (aW 1 (mC (.int 1))) (aN (nO n6 (aM (aC (aP false) (aC aL (aA 0) (aA 1)) (aC aL (aA 0) (mC (.int 0))))) (aW 1 (aC aZ (aA 1) (mC (.int 1))))) (aY (aA 1)))) [some a,none] c):=by
 kernel_rfl
theorem OV (k:Nat)(a:D)(c:Hm):f (k+1) "ways_to_fold" [a] c=aV ((aN (a9 (aM (aC (aP false) (aE i7 (aB (aA 0) aD)) (aE jZ (aB (aA 0) aD)))) (aY (aC b8 (mC (.int 2)) (aE (f k "ways_to_choose") (aB (aC dO (aC cQ (aE bH (aB (aA 0) aD)) (mC (.int 2))) (mC (.int 1))) (aB (aE bH (aB (aA 0) aD)) aD))))) bP) (aN (aW 1 (aE (f k "least_ahead") (aB (aA 0) aD))) (aN (aW 2 (aE (f k "run_of_least") (aB (aA 1) aD))) (aN (aW 3 (aE (f k "ways_to_choose") (aB (aC cQ (aC aZ (aA 2) (mC (.int 1))) (mC (.int 2))) (aB (aC aZ (aA 2) (mC (.int 1))) aD)))) (aN (a9 (aM (aC (aP false) (aC bF (aA 2) (mC (.int 2))) (mC (.int 0)))) (aY (aC b8 (aA 3) (aE (f k "ways_to_fold") (aB (dN (aA 1) (dD (aA 2)) dZ) aD)))) bP) (aN (aW 4 (aC dO (aC aZ (aC aL (aA 1) (iF (mC (.int 1)))) (aC aL (aA 1) (aA 2))) (aC aL (aA 1) (mC (.int 0))))) (aY (aC b8 (aA 3) (aE (f k "ways_to_fold") (aB (aC aZ (dN (aA 1) (dD (aC aZ (aA 2) (mC (.int 1)))) (dD (iF (mC (.int 1))))) (bU (aB (aA 4) aD))) aD)))))))))) [some a,none,none,none,none] c):=by
 kernel_rfl
theorem OW (k:Nat)(a:D)(c:Hm):f (k+1) "how_many" [a] c=aV ((aN (bC (aE (f k "check_round") (aB (aA 0) aD))) (aY (aE (f k "ways_to_fold") (aB (aA 0) aD)))) [some a] c):=by
 kernel_rfl
theorem DE (k:Nat)(a:D)(c:Hm):g (k+3) "how_many" [a] c=gH ((bO (bC (aE (f (k+2) "check_round") (aB (aA 0) aD))) (cP (g (k+2) "check_round") (aB (aA 0) aD)) (bO (aY (aE (f (k+2) "ways_to_fold") (aB (aA 0) aD))) bG bG)) [some a] c):=by
 kernel_rfl
theorem OX (k:Nat)(a c:D)(d:Hm):f (k+1) "_law_nth" [a,c] d=aV ((aY (iW (aM (aC gE (aA 1) (aE bH (aB (aA 0) aD)))) (aC aL (aA 0) (aA 1)) (mC (.int 0)))) [some a,some c] d):=by
 kernel_rfl
theorem OY (k:Nat)(a c:D)(d:Hm):f (k+1) "_law_gaps" [a,c] d=aV ((aN (aW 2 (aE (f k "_law_nth") (aB (aA 0) (aB (aA 1) aD)))) (aN (a9 (aM (aC (aP false) (aC bF (aC cQ (aA 2) (mC (.int 640))) (mC (.int 8))) (mC (.int 1)))) (aN (aW 3 (aC aZ (mC (.int 1)) (aC bF (aC b8 (aE (f k "_law_nth") (aB (aA 0) (aB (aC aZ (aA 1) (mC (.int 1))) aD))) (aC dS (mC (.int 982451653)) (mC (.int 7)))) (aC dO (aC dS (mC (.int 10)) (mC (.int 60))) (mC (.int 99)))))) (aN (aW 4 (aC aZ (mC (.int 1)) (aC bF (aC b8 (aE (f k "_law_nth") (aB (aA 0) (aB (aC aZ (aA 1) (mC (.int 2))) aD))) (aC dS (mC (.int 982451653)) (mC (.int 7)))) (aC dO (aC dS (mC (.int 10)) (mC (.int 60))) (mC (.int 99)))))) (aY (aC aL (bU (aB (bU (aB (aA 3) (aB (aA 3) aD))) (aB (bU (aB (aA 3) (aB (aA 4) (aB (aA 4) (aB (aA 3) aD))))) aD))) (aC bF (aC cQ (aA 2) (mC (.int 5120))) (mC (.int 2))))))) bP) (aN (aW 5 (aC aL (bU (aB (mC (.int 1)) (aB (mC (.int 2)) (aB (mC (.int 2)) (aB (mC (.int 3)) (aB (mC (.int 3)) (aB (mC (.int 4)) (aB (mC (.int 2)) (aB (mC (.int 3)) aD))))))))) (aC bF (aA 2) (mC (.int 8))))) (aN (aW 6 (aC aL (bU (aB (mC (.int 1)) (aB (mC (.int 2)) (aB (mC (.int 3)) (aB (mC (.int 9)) (aB (aC dS (mC (.int 10)) (mC (.int 59))) aD)))))) (aC bF (aC cQ (aA 2) (mC (.int 8))) (mC (.int 5))))) (aN (aW 7 (cR (cN (aB (aC b8 (mC (.int 2)) (aA 5)) aD)) cZ (aC aZ (mC (.int 1)) (aC bF (aC b8 (aE (f k "_law_nth") (aB (aA 0) (aB (aC aZ (aC aZ (aA 1) (mC (.int 1))) (aA 10)) aD))) (aC dS (mC (.int 982451653)) (mC (.int 6)))) (aA 6))))) (aN (aW 8 (aE jW (aB (cR (cN (aB (aA 5) aD)) cZ (aC dO (aC aL (aA 7) (aC b8 (mC (.int 2)) (aA 10))) (aC aL (aA 7) (aC aZ (aC b8 (mC (.int 2)) (aA 10)) (mC (.int 1)))))) aD))) (aN (aW 9 (aC b8 (aC bF (aC cQ (aA 2) (mC (.int 40))) (aA 5)) (mC (.int 2)))) (aN (a9 (aM (aC gE (aA 8) (mC (.int 0)))) (fU (aA 7) (aA 9) (aC dO (aC aL (aA 7) (aA 9)) (aA 8))) (fU (aA 7) (aC aZ (aA 9) (mC (.int 1))) (aC aZ (aC aL (aA 7) (aC aZ (aA 9) (mC (.int 1)))) (aA 8)))) (aY (aA 7)))))))))) [some a,some c,none,none,none,none,none,none,none,none] d):=by
 kernel_rfl
theorem OZ (k:Nat)(a c d:D)(e:Hm):f (k+1) "_law_order" [a,c,d] e=aV ((aN (aW 3 (bU aD)) (aN (fS (cN (aB (aA 2) aD)) (gW 4) (bC (iI nW (aA 3) (aB (aC bF (aE (f k "_law_nth") (aB (aA 0) (aB (aC aZ (aA 1) (aA 4)) aD))) (aC aZ (aA 4) (mC (.int 1)))) (aB (aA 4) aD))))) (aY (aA 3)))) [some a,some c,some d,none,none] e):=by
 kernel_rfl
theorem O0 (a:D)(c:Hm):jA S "_law_kinds" [a] c=aV ((aN (aW 1 (bU (aB (b9 (sup "ValueError") (aA 0)) (aB (b9 (sup "NoRound") (aA 0)) (aB (b9 (sup "NoOrder") (aA 0)) (aB (b9 (sup "NoMark") (aA 0)) aD)))))) (aN (aW 1 (aC aZ (aA 1) (bU (aB (b9 (sup "Barred") (aA 0)) (aB (b9 (sup "NoEdge") (aA 0)) (aB (b9 (sup "NoFold") (aA 0)) (aB (b9 (sup "NoName") (aA 0)) aD))))))) (aN (aW 1 (aC aZ (aA 1) (bU (aB (b9 (sup "NoRow") (aA 0)) (aB (b9 (sup "NoSize") (aA 0)) (aB (b9 (sup "NoText") (aA 0)) (aB (b9 (sup "Taken") (aA 0)) aD))))))) (aN (aW 1 (aC aZ (aA 1) (bU (aB (b9 (sup "TooMany") (aA 0)) (aB (b9 (sup "Twice") (aA 0)) aD))))) (aY (cR (cN (aB (mC (.int 14)) aD)) (aM (aC dY (aA 1) (aA 2))) (aA 2))))))) [some a,none] c):=by
 kernel_rfl
theorem O1 (k:Nat)(a c d e:D)(h:Hm):f (k+1) "_law_asked" [a,c,d,e] h=aV ((a9 (aM (aC (aP false) (aA 0) (mC (.int 0)))) (bC (aE (f k "shut_at") (aB (aA 1) (aB (aA 2) aD)))) (a9 (aM (aC (aP false) (aA 0) (mC (.int 1)))) (bC (aE (f k "marks_of") (aB (aA 1) (aB (aA 2) aD)))) (a9 (aM (aC (aP false) (aA 0) (mC (.int 2)))) (bC (aE (f k "order_for") (aB (aA 1) (aB (aA 3) aD)))) (a9 (aM (aC (aP false) (aA 0) (mC (.int 3)))) (bC (aE (f k "spots_of") (aB (aA 1) aD))) (a9 (aM (aC (aP false) (aA 0) (mC (.int 4)))) (bC (aE (f k "all_marks") (aB (aA 1) aD))) (bC (aE (f k "how_many") (aB (aA 1) aD)))))))) [some a,some c,some d,some e] h):=by
 kernel_rfl
theorem O2 (k:Nat)(a c d e:D)(h:Hm):g (k+3) "_law_asked" [a,c,d,e] h=gH ((bO (a9 (aM (aC (aP false) (aA 0) (mC (.int 0)))) (bC (aE (f (k+2) "shut_at") (aB (aA 1) (aB (aA 2) aD)))) (a9 (aM (aC (aP false) (aA 0) (mC (.int 1)))) (bC (aE (f (k+2) "marks_of") (aB (aA 1) (aB (aA 2) aD)))) (a9 (aM (aC (aP false) (aA 0) (mC (.int 2)))) (bC (aE (f (k+2) "order_for") (aB (aA 1) (aB (aA 3) aD)))) (a9 (aM (aC (aP false) (aA 0) (mC (.int 3)))) (bC (aE (f (k+2) "spots_of") (aB (aA 1) aD))) (a9 (aM (aC (aP false) (aA 0) (mC (.int 4)))) (bC (aE (f (k+2) "all_marks") (aB (aA 1) aD))) (bC (aE (f (k+2) "how_many") (aB (aA 1) aD)))))))) (eE (aM (aC (aP false) (aA 0) (mC (.int 0)))) (bO (bC (aE (f (k+2) "shut_at") (aB (aA 1) (aB (aA 2) aD)))) (cP (g (k+2) "shut_at") (aB (aA 1) (aB (aA 2) aD))) bG) (bO (a9 (aM (aC (aP false) (aA 0) (mC (.int 1)))) (bC (aE (f (k+2) "marks_of") (aB (aA 1) (aB (aA 2) aD)))) (a9 (aM (aC (aP false) (aA 0) (mC (.int 2)))) (bC (aE (f (k+2) "order_for") (aB (aA 1) (aB (aA 3) aD)))) (a9 (aM (aC (aP false) (aA 0) (mC (.int 3)))) (bC (aE (f (k+2) "spots_of") (aB (aA 1) aD))) (a9 (aM (aC (aP false) (aA 0) (mC (.int 4)))) (bC (aE (f (k+2) "all_marks") (aB (aA 1) aD))) (bC (aE (f (k+2) "how_many") (aB (aA 1) aD))))))) (eE (aM (aC (aP false) (aA 0) (mC (.int 1)))) (bO (bC (aE (f (k+2) "marks_of") (aB (aA 1) (aB (aA 2) aD)))) (cP (g (k+2) "marks_of") (aB (aA 1) (aB (aA 2) aD))) bG) (bO (a9 (aM (aC (aP false) (aA 0) (mC (.int 2)))) (bC (aE (f (k+2) "order_for") (aB (aA 1) (aB (aA 3) aD)))) (a9 (aM (aC (aP false) (aA 0) (mC (.int 3)))) (bC (aE (f (k+2) "spots_of") (aB (aA 1) aD))) (a9 (aM (aC (aP false) (aA 0) (mC (.int 4)))) (bC (aE (f (k+2) "all_marks") (aB (aA 1) aD))) (bC (aE (f (k+2) "how_many") (aB (aA 1) aD)))))) (eE (aM (aC (aP false) (aA 0) (mC (.int 2)))) (bO (bC (aE (f (k+2) "order_for") (aB (aA 1) (aB (aA 3) aD)))) (cP (g (k+2) "order_for") (aB (aA 1) (aB (aA 3) aD))) bG) (bO (a9 (aM (aC (aP false) (aA 0) (mC (.int 3)))) (bC (aE (f (k+2) "spots_of") (aB (aA 1) aD))) (a9 (aM (aC (aP false) (aA 0) (mC (.int 4)))) (bC (aE (f (k+2) "all_marks") (aB (aA 1) aD))) (bC (aE (f (k+2) "how_many") (aB (aA 1) aD))))) (eE (aM (aC (aP false) (aA 0) (mC (.int 3)))) (bO (bC (aE (f (k+2) "spots_of") (aB (aA 1) aD))) (cP (g (k+2) "spots_of") (aB (aA 1) aD)) bG) (bO (a9 (aM (aC (aP false) (aA 0) (mC (.int 4)))) (bC (aE (f (k+2) "all_marks") (aB (aA 1) aD))) (bC (aE (f (k+2) "how_many") (aB (aA 1) aD)))) (eE (aM (aC (aP false) (aA 0) (mC (.int 4)))) (bO (bC (aE (f (k+2) "all_marks") (aB (aA 1) aD))) (cP (g (k+2) "all_marks") (aB (aA 1) aD)) bG) (bO (bC (aE (f (k+2) "how_many") (aB (aA 1) aD))) (cP (g (k+2) "how_many") (aB (aA 1) aD)) bG)) bG)) bG)) bG)) bG)) bG) [some a,some c,some d,some e] h):=by
 kernel_rfl
theorem O3 (k:Nat)(a c d e:D)(h:Hm):f (k+1) "_law_refused" [a,c,d,e] h=aV ((aN (aW 4 (bU (aB (aE iX (aB (aA 1) aD)) (aB (aE iX (aB (aA 2) aD)) aD)))) (aN (aW 5 (bU aD)) (aN (jU (bC (aE (f k "_law_asked") (aB (aA 0) (aB (aC aL (aA 4) (mC (.int 0))) (aB (aC aL (aA 4) (mC (.int 1))) (aB (aA 3) aD)))))) (bO (bC (aE (f k "_law_asked") (aB (aA 0) (aB (aC aL (aA 4) (mC (.int 0))) (aB (aC aL (aA 4) (mC (.int 1))) (aB (aA 3) aD)))))) (cP (g k "_law_asked") (aB (aA 0) (aB (aC aL (aA 4) (mC (.int 0))) (aB (aC aL (aA 4) (mC (.int 1))) (aB (aA 3) aD))))) bG) (sup "CreaseError") 6 (aW 5 (aE (jA S "_law_kinds") (aB (aA 6) aD)))) (aN (a9 (aM (aC (aP true) (aA 4) (bU (aB (aA 1) (aB (aA 2) aD))))) (aY (bU (aB (iF (mC (.int 1))) aD))) bP) (aY (aA 5)))))) [some a,some c,some d,some e,none,none,none] h):=by
 kernel_rfl
theorem O4 (k:Nat)(a c:D)(d:Hm):f (k+1) "_law_bad_gaps" [a,c] d=aV ((aN (aW 2 (aC bF (aC cQ (aA 1) (mC (.int 8))) (aE bH (aB (aA 0) aD)))) (aN (aW 3 (aE iX (aB (aA 0) aD))) (aN (a9 (aM (aC (aP false) (aC bF (aA 1) (mC (.int 5))) (mC (.int 0)))) (aN (bC (iI kN (aA 3) (aB (aA 2) aD))) (aY (aA 3))) bP) (aN (a9 (aM (aC (aP false) (aC bF (aA 1) (mC (.int 5))) (mC (.int 1)))) (aN (fU (aA 3) (aA 2) (aC aZ (aC aZ (aC aL (aA 3) (aA 2)) (mC (.int 1))) (aC bF (aC cQ (aA 1) (mC (.int 64))) (mC (.int 9))))) (aY (aA 3))) bP) (aN (a9 (aM (aC (aP false) (aC bF (aA 1) (mC (.int 5))) (mC (.int 2)))) (aY (cR (eJ (aA 0)) cZ (aC dO (mC (.int 0)) (aA 4)))) bP) (aN (a9 (aM (aC (aP false) (aC bF (aA 1) (mC (.int 5))) (mC (.int 3)))) (aY (aC b8 (bU (aB (aC aZ (mC (.int 1)) (aC bF (aC cQ (aA 1) (mC (.int 64))) (mC (.int 9)))) aD)) (mC (.int 10)))) bP) (aY (bU aD)))))))) [some a,some c,none,none] d):=by
 kernel_rfl
theorem O5 (k:Nat)(a c:D)(d:Hm):f (k+1) "_law_bad_order" [a,c] d=aV ((aN (aW 2 (aC bF (aC cQ (aA 1) (mC (.int 6))) (aE bH (aB (aA 0) aD)))) (aN (aW 3 (aE iX (aB (aA 0) aD))) (aN (a9 (aM (aC (aP false) (aC bF (aA 1) (mC (.int 6))) (mC (.int 0)))) (bC (iI kN (aA 3) (aB (aA 2) aD))) bP) (aN (a9 (aM (aC (aP false) (aC bF (aA 1) (mC (.int 6))) (mC (.int 1)))) (fU (aA 3) (aA 2) (aC bF (aC aZ (aC aL (aA 3) (aA 2)) (mC (.int 1))) (aE bH (aB (aA 0) aD)))) bP) (aN (a9 (aM (aC (aP false) (aC bF (aA 1) (mC (.int 6))) (mC (.int 2)))) (fU (aA 3) (aA 2) (aC dO (aC aL (aA 3) (aA 2)) (aE bH (aB (aA 0) aD)))) bP) (aN (a9 (aM (aC (aP false) (aC bF (aA 1) (mC (.int 6))) (mC (.int 3)))) (aY (bU aD)) bP) (aN (a9 (aM (aC (aP false) (aC bF (aA 1) (mC (.int 6))) (mC (.int 4)))) (bC (iI jT (aA 3) (aB (aC aL (aA 3) (aA 2)) aD))) bP) (aN (a9 (aM (aC (aP false) (aC bF (aA 1) (mC (.int 6))) (mC (.int 5)))) (fU (aA 3) (aA 2) (aC aZ (aE bH (aB (aA 0) aD)) (aC bF (aC cQ (aA 1) (mC (.int 64))) (mC (.int 9))))) bP) (aY (aA 3)))))))))) [some a,some c,none,none] d):=by
 kernel_rfl
theorem O6 (k:Nat)(a c:D)(d:Hm):f (k+1) "_law_bad_marks" [a,c] d=aV ((aN (aW 2 (aC bF (aC cQ (aA 1) (mC (.int 8))) (aE bH (aB (aA 0) aD)))) (aN (a9 (aM (aC (aP false) (aC bF (aA 1) (mC (.int 4))) (mC (.int 0)))) (aY (aC aZ (dN (aA 0) dZ (dD (aA 2))) (dN (aA 0) (dD (aC aZ (aA 2) (mC (.int 1)))) dZ))) bP) (aN (a9 (aM (aC (aP false) (aC bF (aA 1) (mC (.int 4))) (mC (.int 1)))) (aY (aC aZ (aA 0) (aC aL (mC (.str "hv")) (aC bF (aC cQ (aA 1) (mC (.int 64))) (mC (.int 2)))))) bP) (aN (a9 (aM (aC (aP false) (aC bF (aA 1) (mC (.int 4))) (mC (.int 2)))) (aY (aC aZ (aC aZ (dN (aA 0) dZ (dD (aA 2))) (aC aL (mC (.str "oHV. 0")) (aC bF (aC cQ (aA 1) (mC (.int 64))) (mC (.int 6))))) (dN (aA 0) (dD (aC aZ (aA 2) (mC (.int 1)))) dZ))) bP) (aY (mC (.str ""))))))) [some a,some c,none] d):=by
 kernel_rfl
theorem O7 (k:Nat)(a:D)(c:Hm):f (k+1) "law" [a] c=aV ((aN (aW 1 (aE (f k "_law_gaps") (aB (aA 0) (aB (mC (.int 0)) aD)))) (aN (aW 2 (aE (f k "_law_order") (aB (aA 0) (aB (mC (.int 9)) (aB (aE bH (aB (aA 1) aD)) aD))))) (aN (aW 3 (aE (f k "_law_nth") (aB (aA 0) (aB (mC (.int 17)) aD)))) (aN (aW 4 (eK jY (mC (.str "")) (aB (cR (cN (aB (aE bH (aB (aA 1) aD)) aD)) cZ (aC aL (mC (.str "hv")) (aC bF (aC cQ (aA 3) (aC aZ (aC b8 (aA 9) (aA 9)) (mC (.int 1)))) (mC (.int 2))))) aD))) (aN (aW 5 (aE (f k "_law_bad_gaps") (aB (aA 1) (aB (aE (f k "_law_nth") (aB (aA 0) (aB (mC (.int 18)) aD))) aD)))) (aN (aW 6 (aE (f k "_law_bad_order") (aB (aA 2) (aB (aE (f k "_law_nth") (aB (aA 0) (aB (mC (.int 19)) aD))) aD)))) (aN (aW 7 (aE (f k "_law_bad_marks") (aB (aA 4) (aB (aE (f k "_law_nth") (aB (aA 0) (aB (mC (.int 20)) aD))) aD)))) (aN (fS (cN (aB (mC (.int 6)) aD)) (gW 8) (aN (a9 (aM (aC (aP true) (aE (f k "_law_refused") (aB (aA 8) (aB (aA 5) (aB (aA 2) (aB (aA 4) aD))))) (bU (aB (mC (.int 0)) (aB (mC (.int 1)) aD))))) (aY (mC (.bl false))) bP) (a9 (aM (aC (aP true) (aE (f k "_law_refused") (aB (aA 8) (aB (aA 5) (aB (aA 6) (aB (aA 7) aD))))) (bU (aB (mC (.int 0)) (aB (mC (.int 1)) aD))))) (aY (mC (.bl false))) bP))) (aN (fS (cN (aB (mC (.int 2)) aD)) (gW 8) (a9 (aM (aC (aP true) (aE (f k "_law_refused") (aB (aA 8) (aB (aA 1) (aB (aA 6) (aB (aA 4) aD))))) (bU (aB (mC (.int 0)) (aB (mC (.int 2)) aD))))) (aY (mC (.bl false))) bP)) (aN (a9 (aM (aC (aP true) (aE (f k "_law_refused") (aB (mC (.int 2)) (aB (aA 1) (aB (aA 2) (aB (aA 7) aD))))) (bU (aB (mC (.int 0)) (aB (mC (.int 3)) aD))))) (aY (mC (.bl false))) bP) (aY (aC (aP false) (cR (cN (aB (mC (.int 6)) aD)) cZ (aE (f k "_law_refused") (aB (aA 9) (aB (aA 1) (aB (aA 2) (aB (aA 4) aD)))))) (aC b8 (bU (aB (bU aD) aD)) (mC (.int 6))))))))))))))) [some a,none,none,none,none,none,none,none,none] c):=by
 kernel_rfl
end Lw
namespace Lw
open PySem L2 L3
theorem w_mul2 {z:Int}{a:Hm}{Q:D×Hm->Prop}:W (b8 (.int 2) (.int z) a) Q↔Q (.int (2 * z),a):=oE (.inl ⟨by decide,by decide⟩)
theorem jD {z:Int}{a:Hm}{Q:D×Hm->Prop}:W (bF (.int z) (.int 2) a) Q↔Q (.int (z % 2),a):=dW (by decide)
theorem O8:(2:Nat)<=SK:=by decide
theorem jE {a b:D}:([a,b]:List D).length<=SK:=O8
theorem O9:(1:Nat)<=SK:=by decide
theorem qN {a:D}:([a]:List D).length<=SK:=O9
theorem Pa {z:Int}{a:Hm}{Q:D×Hm->Prop}:W (b8 (.int z) (.int 2) a) Q↔Q (.int (z * 2),a):=oE (.inr ⟨by decide,by decide⟩)
theorem Pb {z:Int}{a:Hm}{Q:D×Hm->Prop}:W (cQ (.int z) (.int 8) a) Q↔Q (.int (z / 8),a):=eY (by decide) (by decide)
noncomputable def dJ:D->Int
 | .int i=>i
 | _=>0
theorem qO {lo:Int}{n:Nat}{d:D}(h:d∈cH lo n):∃ j:Nat,j<n/\d=.int (lo+(j:Int)):=by
 unfold cH at h
 obtain ⟨j,a,rfl⟩:=TC.mp h
 exact ⟨j,Uh.mp a,rfl⟩
theorem jF {n:Nat}{i:Int}(a:0<=i)(h:i<n):fM n i=some i.toNat:=by
 unfold fM;rw [if_pos a,if_pos h]
theorem fF {gs:List Int}{i:Int}(a:0<=i)(h:i<gs.length):atI (gs.map D.int) i=some (.int (gs.getD i.toNat 0)):=by
 unfold atI
 rw [Sx,jF a h,S1,Tr]
 have c:i.toNat<gs.length:=by omega
 simp [U3,c]
theorem Pc {xs:List D}{i:Int}{d:D}{a:Hm}{Q:D×Hm->Prop}(h:atI xs i=some d):W (aL (.rol xs) (.int i) a) Q↔Q (d,a):=by
 have:aL (.rol xs) (.int i) a=some (d,a):=by
  simp only [aL,dY,bS,S1,h,TB]
 rw [this]
 exact W_some
noncomputable def dG (ns:List Int)(i:Int):Int:=ns.getD i.toNat 0
theorem j6 (k:Nat)(ns:List Int)(i:Int)(c:0<=i)(a:Hm)(Q:D×Hm->Prop):W (f (k+1) "_law_nth" [.rol (ns.map D.int),.int i] a) Q↔Q (.int (dG ns i),a):=by
 rw [OX,bV]
 simp only [bB,yM,b6,aT,aU,aI,aH,aF,aG,aO,N4,qH,Sx]
 by_cases h:i<ns.length
 ·simp only [h,decide_true,if_true]
  rw [Pc (fF c h)]
  rfl
 ·have e:dG ns i=0:=by
   unfold dG
   have:ns.length<=i.toNat:=by omega
   simp [U3,U0 this]
  simp only [h,decide_false,SI,if_false,e]
theorem DF {ns:List Int}(a:∀ m∈ns,SX m<=2 ^ 20)(i:Int):SX (dG ns i)<=2 ^ 20:=by
 unfold dG
 by_cases h:i.toNat<ns.length
 ·have e:ns.getD i.toNat 0=ns[i.toNat]:=by simp [U3,h]
  rw [e]
  exact a _ (Vc h)
 ·have e:ns.getD i.toNat 0=0:=by simp [U3,U0 (V4.mp h)]
  rw [e]
  decide
noncomputable def c7:Int:=982451653 ^ 7
noncomputable def c6:Int:=982451653 ^ 6
noncomputable def oH:Int:=10 ^ 60
noncomputable def qP:Int:=10 ^ 59
theorem Pd {a:Hm}{Q:D×Hm->Prop}:W (dS (.int 982451653) (.int 7) a) Q↔Q (.int c7,a):=t6 (by decide)
theorem Pe {a:Hm}{Q:D×Hm->Prop}:W (dS (.int 982451653) (.int 6) a) Q↔Q (.int c6,a):=t6 (by decide)
theorem Pf {a:Hm}{Q:D×Hm->Prop}:W (dS (.int 10) (.int 60) a) Q↔Q (.int oH,a):=t6 (by decide)
theorem w_p59' {a:Hm}{Q:D×Hm->Prop}:W (dS (.int 10) (.int 59) a) Q↔Q (.int qP,a):=t6 (by decide)
theorem Pg:SX c7<=1000:=by decide +kernel
theorem Ph:SX c6<=1000:=by decide +kernel
theorem y4:(0:Int)<oH - 99:=by decide +kernel
theorem Pj:(1:Int)<=qP:=by decide +kernel
theorem Pk {ns:List Int}(c:∀ m∈ns,SX m<=2 ^ 20){i:Int}{a:Hm}{Q:D×Hm->Prop}:W (b8 (.int (dG ns i)) (.int c7) a) Q↔Q (.int (dG ns i * c7),a):=
 Dn (by have:=DF c i;have:=Pg;omega)
theorem Pl {ns:List Int}(c:∀ m∈ns,SX m<=2 ^ 20){i:Int}{a:Hm}{Q:D×Hm->Prop}:W (b8 (.int (dG ns i)) (.int c6) a) Q↔Q (.int (dG ns i * c6),a):=
 Dn (by have:=DF c i;have:=Ph;omega)
noncomputable def bI:List Int->Int
 | []=>0
 | g::r=>g - bI r
structure GoodG (gs:List Int):Prop where
 len:gs.length=2\/gs.length=4\/gs.length=6\/gs.length=8
 pos:∀ g∈gs,1<=g
 alt:bI gs=0
theorem GoodG.rgl {gs:List Int}(h:GoodG gs):2<=gs.length/\gs.length<=8:=by have:=h.len;omega
theorem uB:∀ (l:List Int)(i:Nat)(v:Int),i<l.length->bI (l.set i v)=bI l+(if i % 2=0 then v - l.getD i 0 else l.getD i 0 - v)
 | [],i,v,h=>absurd h (UQ _)
 | g::r,0,v,h=>by
  simp only [SD,bI,List.getD_cons_zero]
  rw [if_pos trivial]
  omega
 | g::r,i+1,v,h=>by
  have a:=uB r i v (by simpa using h)
  simp only [SE,bI,YU,a]
  by_cases e:i % 2=0
  ·rw [if_pos e,if_neg (by omega)];omega
  ·rw [if_neg e,if_pos (by omega)];omega
theorem DG:∀ (h:Nat)(l:List Int),l.length=2 * h->((Td h).map fun k=>l.getD (2 * k) 0 - l.getD (2 * k+1) 0).sum=bI l
 | 0,l,hl=>by
  have:l=[]:=VG.mp (by omega)
  subst this
  rfl
 | h+1,l,hl=>by
  match l,hl with
  | a::b::r,hl=>
   have c:=DG h r (by simp at hl;omega)
   rw [VJ,SW,Tv,Xa]
   have e:((fun k=>(a::b::r).getD (2 * k) 0 - (a::b::r).getD (2 * k+1) 0) ∘ Nat.succ)=fun k=>r.getD (2 * k) 0 - r.getD (2 * k+1) 0:=by
    funext k
    show (a::b::r).getD (2 * (k+1)) 0 - (a::b::r).getD (2 * (k+1)+1) 0=_
    rw [show 2 * (k+1)=2 * k+1+1 by omega,show 2 * k+1+1+1=(2 * k+1)+1+1 by omega]
    simp only [YU]
   rw [e,c]
   show (a - b)+bI r=a - (b - bI r)
   omega
theorem Pm {i:Int}(a:0<=i)(c:i<8):∃ h:Nat,atI [D.int 1,D.int 2,D.int 2,D.int 3,D.int 3,D.int 4,D.int 2,D.int 3] i=some (.int (h:Int))/\1<=h/\h<=4:=by
 have:i=0\/i=1\/i=2\/i=3\/i=4\/i=5\/i=6\/i=7:=by omega
 rcases this with rfl|rfl|rfl|rfl|rfl|rfl|rfl|rfl
 ·exact ⟨1,rfl,by omega⟩
 ·exact ⟨2,rfl,by omega⟩
 ·exact ⟨2,rfl,by omega⟩
 ·exact ⟨3,rfl,by omega⟩
 ·exact ⟨3,rfl,by omega⟩
 ·exact ⟨4,rfl,by omega⟩
 ·exact ⟨2,rfl,by omega⟩
 ·exact ⟨3,rfl,by omega⟩
theorem Pn {i:Int}(a:0<=i)(c:i<5):∃ m:Int,atI [D.int 1,D.int 2,D.int 3,D.int 9,D.int qP] i=some (.int m)/\1<=m:=by
 have:i=0\/i=1\/i=2\/i=3\/i=4:=by omega
 rcases this with rfl|rfl|rfl|rfl|rfl
 ·exact ⟨1,rfl,by omega⟩
 ·exact ⟨2,rfl,by omega⟩
 ·exact ⟨3,rfl,by omega⟩
 ·exact ⟨9,rfl,by omega⟩
 ·exact ⟨qP,rfl,Pj⟩
noncomputable def mR (ns:List Int)(at' m:Int)(n:Nat):List Int:=(Td n).map fun (j:Nat)=>1+dG ns (at'+1+(0+(j:Int))) * c6 % m
theorem Po (ns:List Int)(at' m:Int)(n:Nat):((cH 0 n).filter fun _=>true).map (fun d=>D.int (1+dG ns (at'+1+dJ d) * c6 % m))=(mR ns at' m n).map D.int:=by
 unfold cH mR
 rw [show ∀ l:List D,l.filter (fun _=>true)=l from fun l=>by simp,Tv,Tv]
 rfl
theorem Pp (ns:List Int)(at' m:Int)(n:Nat):(mR ns at' m n).length=n:=by unfold mR;simp
theorem Pq {ns:List Int}{at' m:Int}{n:Nat}(c:1<=m):∀ g∈mR ns at' m n,1<=g:=fun g a=>by
 unfold mR at a
 obtain ⟨j,_,rfl⟩:=TC.mp a
 have:=TF (dG ns (at'+1+(0+(j:Int))) * c6) (show m≠0 by omega)
 omega
theorem DH {gs:List Int}{i:Nat}{v:Int}(h:∀ g∈gs,1<=g)(d:1<=v):∀ g∈gs.set i v,1<=g:=fun g c=>by
 rcases List.mem_or_eq_of_mem_set c with a|a
 ·exact h g a
 ·subst a;exact d
theorem DI {gs:List Int}{i:Nat}(h:∀ g∈gs,1<=g)(a:i<gs.length):1<=gs.getD i 0:=by
 have e:gs.getD i 0=gs[i]:=by simp [U3,a]
 rw [e];exact h _ (Vc a)
theorem oI (gs:List Int)(j:Nat)(v:Int):(gs.map D.int).set j (.int v)=(gs.set j v).map D.int:=by rw [List.map_set]
noncomputable def y6 (k:Nat):MS:=(aN (aW 3 (aC aZ (mC (.int 1)) (aC bF (aC b8 (aE (f k "_law_nth") (aB (aA 0) (aB (aC aZ (aA 1) (mC (.int 1))) aD))) (aC dS (mC (.int 982451653)) (mC (.int 7)))) (aC dO (aC dS (mC (.int 10)) (mC (.int 60))) (mC (.int 99)))))) (aN (aW 4 (aC aZ (mC (.int 1)) (aC bF (aC b8 (aE (f k "_law_nth") (aB (aA 0) (aB (aC aZ (aA 1) (mC (.int 2))) aD))) (aC dS (mC (.int 982451653)) (mC (.int 7)))) (aC dO (aC dS (mC (.int 10)) (mC (.int 60))) (mC (.int 99)))))) (aY (aC aL (bU (aB (bU (aB (aA 3) (aB (aA 3) aD))) (aB (bU (aB (aA 3) (aB (aA 4) (aB (aA 4) (aB (aA 3) aD))))) aD))) (aC bF (aC cQ (aA 2) (mC (.int 5120))) (mC (.int 2)))))))
noncomputable def y8 (_:Nat):MS:=(aN (aW 8 (aE jW (aB (cR (cN (aB (aA 5) aD)) cZ (aC dO (aC aL (aA 7) (aC b8 (mC (.int 2)) (aA 10))) (aC aL (aA 7) (aC aZ (aC b8 (mC (.int 2)) (aA 10)) (mC (.int 1)))))) aD))) (aN (aW 9 (aC b8 (aC bF (aC cQ (aA 2) (mC (.int 40))) (aA 5)) (mC (.int 2)))) (aN (a9 (aM (aC gE (aA 8) (mC (.int 0)))) (fU (aA 7) (aA 9) (aC dO (aC aL (aA 7) (aA 9)) (aA 8))) (fU (aA 7) (aC aZ (aA 9) (mC (.int 1))) (aC aZ (aC aL (aA 7) (aC aZ (aA 9) (mC (.int 1)))) (aA 8)))) (aY (aA 7)))))
noncomputable def y9 (k:Nat):MS:=(aN (aW 5 (aC aL (bU (aB (mC (.int 1)) (aB (mC (.int 2)) (aB (mC (.int 2)) (aB (mC (.int 3)) (aB (mC (.int 3)) (aB (mC (.int 4)) (aB (mC (.int 2)) (aB (mC (.int 3)) aD))))))))) (aC bF (aA 2) (mC (.int 8))))) (aN (aW 6 (aC aL (bU (aB (mC (.int 1)) (aB (mC (.int 2)) (aB (mC (.int 3)) (aB (mC (.int 9)) (aB (aC dS (mC (.int 10)) (mC (.int 59))) aD)))))) (aC bF (aC cQ (aA 2) (mC (.int 8))) (mC (.int 5))))) (aN (aW 7 (cR (cN (aB (aC b8 (mC (.int 2)) (aA 5)) aD)) cZ (aC aZ (mC (.int 1)) (aC bF (aC b8 (aE (f k "_law_nth") (aB (aA 0) (aB (aC aZ (aC aZ (aA 1) (mC (.int 1))) (aA 10)) aD))) (aC dS (mC (.int 982451653)) (mC (.int 6)))) (aA 6))))) (y8 k))))
theorem Pr (k:Nat)(a c:D)(d:Hm):f (k+1) "_law_gaps" [a,c] d=aV ((aN (aW 2 (aE (f k "_law_nth") (aB (aA 0) (aB (aA 1) aD)))) (aN (a9 (aM (aC (aP false) (aC bF (aC cQ (aA 2) (mC (.int 640))) (mC (.int 8))) (mC (.int 1)))) (y6 k) bP) (y9 k))) [some a,some c,none,none,none,none,none,none,none,none] d):=OY k a c d
noncomputable def qQ (c:Hm)(p:Fl×aJ×Hm):Prop:=∃ a gs,p.1=.rt (.loc a)/\c <+: p.2.2/\p.2.2[a]? = some (.lst (gs.map D.int))/\GoodG gs/\c.length<=a
theorem uC {d c:Hm}{l:aJ}(a:Nat)(gs:List Int)(e:d <+: c)(h:c[a]? = some (.lst (gs.map D.int)))(i:GoodG gs)(j:d.length<=a):qQ d (.rt (.loc a),l,c):=⟨a,gs,rfl,e,h,i,j⟩
theorem Pt (k:Nat)(ns:List Int)(d:∀ m∈ns,SX m<=2 ^ 20)(i:Int)(j:0<=i)(hd:Int)(c:Hm):W (y6 (k+1) [some (.rol (ns.map D.int)),some (.int i),some (.int hd),none,none,none,none,none,none,none] c) (qQ c):=by
 unfold y6
 simp only [bE,bQ,aT,aU,aI,aH,aF,aG,aO,w_addI,j6 _ ns (i+1) (by omega),j6 _ ns (i+2) (by omega),Pd,Pk d,Pf,w_subI,dW y4,SD,SE]
 have e:=TF (dG ns (i+1) * c7) (show oH - 99≠0 from a0K y4)
 have h:=TF (dG ns (i+2) * c7) (show oH - 99≠0 from a0K y4)
 generalize dG ns (i+1) * c7 % (oH - 99)=u at e
 generalize dG ns (i+2) * c7 % (oH - 99)=v at h
 simp only [bB,aT,dA,aI,aH,aF,aG]
 refine ⟨jE,by show (4:Nat)<=SK;decide,jE,?_⟩
 simp only [aO,eY (show (0:Int)<5120 by decide) (show (5120:Int)<1073741824 by decide),jD]
 have hc:hd / 5120 % 2=0\/hd / 5120 % 2=1:=by omega
 rcases hc with hc|hc
 ·rw [hc]
  refine (bT (bD _ _) (d:=.loc c.length) rfl).mpr ?_
  refine uC _ [1+u,1+u] ((aQ _ _).trans ((aQ _ _).trans (aQ _ _))) ?_ ⟨.inl rfl,fun g a=>?_,?_⟩ (SM _)
  ·exact aK ((aQ _ _).trans (aQ _ _)) (bD _ _)
  ·simp only [TH,Vb,or_false] at a
   rcases a with rfl|rfl<;>omega
  ·simp only [bI];omega
 ·rw [hc]
  refine (bT (bD _ _) (d:=.loc (c++[C.lst [D.int (1+u),D.int (1+u)]]).length) rfl).mpr ?_
  refine uC _ [1+u,1+v,1+v,1+u] ((aQ _ _).trans ((aQ _ _).trans (aQ _ _))) ?_ ⟨.inr (.inl rfl),fun g a=>?_,?_⟩ (by simp)
  ·exact aK (aQ _ _) (bD _ _)
  ·simp only [TH,Vb,or_false] at a
   rcases a with rfl|rfl|rfl|rfl<;>omega
  ·simp only [bI];omega
theorem Pu (k:Nat){A n:Hm}{a h:Nat}{gs:List Int}{hd:Int}{I o1 J:Option D}(p:A <+: n)(i:n[a]? = some (.lst (gs.map D.int)))(v:A.length<=a)(s:gs.length=2 * h)(c:∀ g∈gs,1<=g)(E:1<=h)(G:h<=4):W (y8 k [I,o1,some (.int hd),none,none,some (.int h),J,some (.loc a),none,none] n) (qQ A):=by
 unfold y8
 simp only [bE,bQ,aU,aI,aH]
 refine fD (xs:=cH 0 h) (p:=fun _=>true) (v:=fun d=>.int (gs.getD (2 * dJ d).toNat 0 - gs.getD (2 * dJ d+1).toNat 0)) ?_
 simp only [gI (j:=0),aI,aH,aF,aG]
 have y:(h:Int).toNat=h:=by omega
 rw [y]
 refine ⟨by omega,mP,by simp [cH],by rw [S4];simp [cH];omega,?_,?_,?_⟩
 ·intro d B hd p
  exact w_mTrue.mpr ⟨rfl,SV _⟩
 ·intro d B w _ p
  obtain ⟨j,M,rfl⟩:=qO w
  simp only [S2,S5,aT,aF,aG,aO,w_mul2,w_addI]
  refine (bT (aK p i) (fF (by omega) (by omega))).mpr ?_
  refine (bT (aK p i) (fF (by omega) (by omega))).mpr ?_
  exact (w_subI).mpr ⟨rfl,SV _⟩
 ·intro L m q
  have H:((cH 0 h).filter fun _=>true).map (fun d=>D.int (gs.getD (2 * dJ d).toNat 0 - gs.getD (2 * dJ d+1).toNat 0))=((Td h).map fun k=>gs.getD (2 * k) 0 - gs.getD (2 * k+1) 0).map D.int:=by
   unfold cH
   rw [show ∀ l:List D,l.filter (fun _=>true)=l from fun l=>by simp,Tv,Tv]
   refine UD fun k _=>?_
   show D.int (gs.getD (2 * (0+(k:Int))).toNat 0 - gs.getD (2 * (0+(k:Int))+1).toNat 0)=_
   rw [show (2 * (0+(k:Int))).toNat=2 * k by omega,show (2 * (0+(k:Int))+1).toNat=2 * k+1 by omega]
   rfl
  rw [H] at q
  refine (yR q).mpr ?_
  rw [DG h gs s]
  have o:=aK m i
  have N:0<=hd / 40 % (h:Int)/\hd / 40 % (h:Int)<h:=⟨TF _ (by omega),TM _ (by omega)⟩
  simp only [SD,SE,aT,aF,aG,aO,eY (show (0:Int)<40 by decide) (show (40:Int)<1073741824 by decide),dW (show (0:Int)<(h:Int) by omega),Pa,c9,b6,qH]
  generalize hsp:hd / 40 % (h:Int) * 2=sp
  have u:0<=sp:=by omega
  have K:sp+1<gs.length:=by omega
  have x:sp.toNat % 2=0:=by omega
  have z:¬ (sp+1).toNat % 2=0:=by omega
  have r:gs.length=2\/gs.length=4\/gs.length=6\/gs.length=8:=by omega
  by_cases e:bI gs<0
  ·simp only [e,decide_true,if_true,mQ,aT,aF,aG]
   refine (bT o (fF u (by omega))).mpr ?_
   refine (w_subI).mpr ?_
   refine (oF o (jF u (by rw [Sx];omega))).mpr ?_
   simp only [bB,aF,aG]
   rw [oI]
   refine uC _ (gs.set sp.toNat (gs.getD sp.toNat 0 - bI gs)) (eW (p.trans m) v _) ?_ ⟨by rw [T4];exact r,DH c ?_,?_⟩ v
   ·rw [S7 (SH.mp o).1]
   ·have:=DI c (show sp.toNat<gs.length by omega)
    omega
   ·rw [uB _ _ _ (by omega),if_pos x]
    omega
  ·simp only [e,decide_false,SI,if_false,mQ,aT,aF,aG,aO,w_addI]
   refine (bT o (fF (by omega) (by omega))).mpr ?_
   refine (w_addI).mpr ?_
   refine (oF o (jF (by omega) (by rw [Sx];omega))).mpr ?_
   simp only [bB,aF,aG]
   rw [oI]
   refine uC _ (gs.set (sp+1).toNat (gs.getD (sp+1).toNat 0+bI gs)) (eW (p.trans m) v _) ?_ ⟨by rw [T4];exact r,DH c ?_,?_⟩ v
   ·rw [S7 (SH.mp o).1]
   ·have:=DI c (show (sp+1).toNat<gs.length by omega)
    omega
   ·rw [uB _ _ _ (by omega),if_neg z]
    omega
theorem Pw (k:Nat)(ns:List Int)(v:∀ m∈ns,SX m<=2 ^ 20)(i:Int)(B:0<=i)(hd:Int)(n:Hm):W (y9 (k+1) [some (.rol (ns.map D.int)),some (.int i),some (.int hd),none,none,none,none,none,none,none] n) (qQ n):=by
 unfold y9
 simp only [bE,bQ,aT,dA,aI,aH,aF,aG,aO,dW (show (0:Int)<8 by decide)]
 refine ⟨by show (8:Nat)<=SK;decide,?_⟩
 obtain ⟨h,w,p,q⟩:=Pm (i:=hd % 8) (by omega) (by omega)
 refine (bT (bD _ _) w).mpr ?_
 simp only [SD,SE,aT,dA,aI,aH,aF,aG,aO,w_p59',Pb,dW (show (0:Int)<5 by decide)]
 refine ⟨by show (5:Nat)<=SK;decide,?_⟩
 obtain ⟨m,x,r⟩:=Pn (i:=hd / 8 % 5) (by omega) (by omega)
 refine (bT (bD _ _) x).mpr ?_
 simp only [SD,SE]
 refine fD (xs:=cH 0 (2 * h)) (p:=fun _=>true) (v:=fun d=>.int (1+dG ns (i+1+dJ d) * c6 % m)) ?_
 simp only [gI (j:=0),aI,aH,aO,aT,aF,aG,w_mul2]
 have y:(2 * (h:Int)).toNat=2 * h:=by omega
 rw [y]
 refine ⟨by omega,mP,by simp [cH],by rw [S4];simp [cH];omega,?_,?_,?_⟩
 ·intro d s hd z
  exact w_mTrue.mpr ⟨rfl,SV _⟩
 ·intro d s o _ z
  obtain ⟨j,E,rfl⟩:=qO o
  simp only [S2,S5,aT,aU,aI,aH,aF,aG,aO,w_addI,j6 _ ns (i+1+(0+(j:Int))) (by omega),Pe,Pl v,dW (show (0:Int)<m by omega)]
  exact ⟨rfl,SV _⟩
 ·intro A l a
  rw [Po] at a
  have c:=Pp ns i m (2 * h)
  have e:=Pq (ns:=ns) (at':=i) (n:=2 * h) r
  generalize mR ns i m (2 * h)=gs at a c e
  generalize hμ0:(n++[C.lst [D.int 1,D.int 2,D.int 2,D.int 3,D.int 3,D.int 4,D.int 2,D.int 3]]++[C.lst [D.int 1,D.int 2,D.int 3,D.int 9,D.int qP]])=μ0 at l a
  have u:n <+: μ0:=by rw [<- hμ0];exact (aQ _ _).trans (aQ _ _)
  exact Pu _ (u.trans l) a (qE u) c e p q
theorem Px (k:Nat)(ns:List Int)(o:∀ m∈ns,SX m<=2 ^ 20)(i:Int)(l:0<=i)(h:Hm)(Q:D×Hm->Prop)
  (H:∀ a c d,h <+: c->c[a]? = some (.lst (d.map D.int))->GoodG d->h.length<=a->Q (.loc a,c)):W (f (k+2) "_law_gaps" [.rol (ns.map D.int),.int i] h) Q:=by
 rw [Pr,bV]
 refine bM (Q:=qQ h) ?_ fun p q=>?_
 ·simp only [bE,bQ,aU,aI,aH,aF,aG,j6 _ ns i l]
  generalize dG ns i=hd
  simp only [SD,SE,c9,b6,aT,aF,aG,aO,eY (show (0:Int)<640 by decide) (show (640:Int)<1073741824 by decide),dW (show (0:Int)<8 by decide),w_eqI]
  by_cases n:hd / 640 % 8=1
  ·have j:(hd / 640 % 8 == 1)=true:=by simpa using n
   simp only [j,if_true]
   refine bM (Pt _ ns o i l hd h) fun p q=>?_
   obtain ⟨a,d,e,q⟩:=q
   simp only [e]
   exact ⟨a,d,e,q⟩
  ·have j:(hd / 640 % 8 == 1)=false:=by simpa using n
   simp only [j,SI,if_false,dF]
   exact Pw _ ns o i l hd h
 ·obtain ⟨a,d,e,r,s,u,v⟩:=q
  simp only [e]
  exact H _ _ d r s u v
noncomputable def eL (gs:List Int):Bool:=decide (gs.length<=8)&&decide (gs.length % 2=0)&&gs.all (fun g=>decide (1<=g))&&bI gs == 0
theorem GoodG.b {gs:List Int}(h:GoodG gs):eL gs=true:=by
 unfold eL
 have:=h.len
 rw [decide_eq_true (by omega),decide_eq_true (by omega),h.alt]
 have:gs.all (fun g=>decide (1<=g))=true:=TJ.mpr fun g a=>by simpa using h.pos g a
 rw [this]
 rfl
theorem zA (k:Nat)(i:Int)(a:Hm)(Q:D×Hm->Prop):W (f (k+1) "is_whole" [.int i] a) Q↔Q (.bl true,a):=by
 rw [Om,bV]
 simp only [bB,yN,NU,aU,aI,aH,aF,aO,N0,N3]
 simp
theorem Py:∀ gs:List Int,gs.length<=8->gs.length % 2=0->∃ es i:List Int,d5 (gs.map D.int) none none (some 2)=es.map D.int/\d5 (gs.map D.int) (some 1) none (some 2)=i.map D.int/\es.sum - i.sum=bI gs/\es.length<=8/\i.length<=8
 | [],_,_=>⟨[],[],rfl,rfl,rfl,by decide,by decide⟩
 | [_],_,h=>by simp at h
 | [a,b],_,_=>⟨[a],[b],by kernel_rfl,by kernel_rfl,by simp [bI]<;>omega,by simp,by simp⟩
 | [_,_,_],_,h=>by simp at h
 | [a,b,c,d],_,_=>⟨[a,c],[b,d],by kernel_rfl,by kernel_rfl,by simp [bI]<;>omega,by simp,by simp⟩
 | [_,_,_,_,_],_,h=>by simp at h
 | [a,b,c,d,e,g],_,_=>⟨[a,c,e],[b,d,g],by kernel_rfl,by kernel_rfl,by simp [bI]<;>omega,by simp,by simp⟩
 | [_,_,_,_,_,_,_],_,h=>by simp at h
 | [a,b,c,d,e,g,x,y],_,_=>⟨[a,c,e,x],[b,d,g,y],by kernel_rfl,by kernel_rfl,by simp [bI]<;>omega,by simp,by simp⟩
 | _::_::_::_::_::_::_::_::_::_,h,_=>absurd h (by simp)
theorem mS {d:D}{gs:List Int}(h:d∈gs.map D.int):∃ g∈gs,d=.int g:=by
 obtain ⟨g,a,rfl⟩:=TC.mp h
 exact ⟨g,a,rfl⟩
theorem oJ {a:Type}(l:List a):l.filter (fun _=>true)=l:=by simp
theorem DJ (k:Nat)(a:Nat)(gs:List Int)(B:gs.length<=1000)(o:Hm)(Q:D×Hm->Prop)(i:o[a]? = some (.lst (gs.map D.int)))(H:∀ c,o <+: c->Q (.bl (eL gs),c)):W (f (k+2) "is_good" [.loc a] o) Q:=by
 rw [Oo,bV]
 simp only [bE,c9,kZ,b6,aT,aU,aI,aH,aF,aO]
 refine (cK i).mpr ?_
 simp only [w_gtI,Sx]
 by_cases r:(8:Int)<gs.length
 ·have e:eL gs=false:=by
   unfold eL;rw [decide_eq_false (show ¬ gs.length<=8 by omega)];rfl
  simp only [r,decide_true,if_true,bB,aO]
  rw [<- e]
  exact H _ (SV _)
 ·simp only [r,decide_false,SI,if_false]
  refine (cK i).mpr ?_
  simp only [jD,w_eqI,Sx]
  by_cases v:(gs.length:Int) % 2=1
  ·have e:eL gs=false:=by
    unfold eL;rw [decide_eq_false (show ¬ gs.length % 2=0 by omega)];simp
   simp only [v,beq_self_eq_true,if_true,bB,aO]
   rw [<- e]
   exact H _ (SV _)
  ·have w:((gs.length:Int) % 2 == 1)=false:=by simpa using v
   simp only [w,SI,if_false,dF,qF,iO,aU,aI,aH]
   refine fD (xs:=gs.map D.int) (p:=fun _=>true) (v:=fun d=>.bl (decide (1<=dJ d))) ?_
   simp only [k4,aF]
   refine (k7 i).mpr ?_
   refine ⟨k6 i,rfl,by rw [Sx,S4];omega,fun d c hd y=>w_mTrue.mpr ⟨rfl,SV _⟩,fun d c hd _ y=>?_,fun q h p=>?_⟩
   ·obtain ⟨g,_,rfl⟩:=mS hd
    simp only [S2,S5,yN,aU,aI,aH,aF,aG,zA,if_true,aT,aO,NY]
    exact ⟨rfl,SV _⟩
   ·have m:q[o.length]? = some (.lst ((gs.map fun g=>decide (1<=g)).map D.bl)):=by
     rw [p,oJ,Tv,Tv]
     rfl
    refine (yS m).mpr ?_
    have l:(gs.map fun g=>decide (1<=g)).all id=gs.all fun g=>decide (1<=g):=by
     rw [WE];rfl
    rw [l]
    simp only [w_truB]
    cases s:gs.all fun g=>decide (1<=g) with
    | false=>
     have e:eL gs=false:=by
      unfold eL;rw [s];simp
     simp only [WZ,if_true,bB,aO]
     rw [<- e]
     exact H _ h
    | true=>
     simp only [UK,SI,if_false,dF,bB,aT,aU,aI,aH]
     obtain ⟨x,z,u,n,A,E,G⟩:=Py gs (by omega) (by omega)
     have j:=aK h i
     refine Dt ?_
     simp only [aF]
     refine ⟨a,rfl,?_⟩
     simp only [j5,jC,aO]
     refine ⟨by decide,_,j,?_,?_⟩
     ·rw [u,Sx,S4];omega
     rw [u]
     refine (yR (bD _ _)).mpr ?_
     refine Dt ?_
     simp only [aF]
     refine ⟨a,rfl,?_⟩
     simp only [j5,jC,aO]
     refine ⟨by decide,_,aK (aQ _ _) j,?_,?_⟩
     ·rw [n,Sx,S4];omega
     rw [n]
     refine (yR (bD _ _)).mpr ?_
     refine (w_eqI).mpr ?_
     have e:eL gs=(x.sum == z.sum):=by
      unfold eL
      rw [s,decide_eq_true (show gs.length<=8 by omega),decide_eq_true (show gs.length % 2=0 by omega)]
      simp only [Xb]
      rw [WO,beq_iff_eq,beq_iff_eq]
      omega
     rw [<- e]
     exact H _ (h.trans ((aQ _ _).trans (aQ _ _)))
theorem oK (k:Nat)(a:Nat)(gs:List Int)(d:GoodG gs)(e:Hm)(Q:D×Hm->Prop)(h:e[a]? = some (.lst (gs.map D.int)))(H:∀ c,e <+: c->Q (.non,c)):W (f (k+3) "check_round" [.loc a] e) Q:=by
 have n:=d.len
 have j:=d.rgl
 rw [Oq,bV]
 simp only [c9,kZ,b6,aT,aU,aI,aH,aF,aO]
 refine (cK h).mpr ?_
 have i:¬ ((gs.length:Int)<2):=by omega
 simp only [qH,Sx,i,decide_false,SI,if_false,qF,iO,aU,aI,aH,aF]
 refine DJ _ a gs (by omega) _ _ h fun m l=>?_
 simp only [d.b,w_truB,UK,SI,if_false,dF]
 exact H _ l
noncomputable def mT (gs:List Int):Nat->Int
 | 0=>0
 | j+1=>mT gs j+(if j % 2=0 then gs.getD j 0 else -(gs.getD j 0))
noncomputable def fW (gs:List Int)(n:Nat):List Int:=(Td n).map (mT gs)
theorem zB (gs:List Int)(n:Nat):(fW gs n).length=n:=by unfold fW;simp
theorem Pz (gs:List Int){n j:Nat}(h:j<n):(fW gs n).getD j 0=mT gs j:=by
 unfold fW
 simp [U3,h]
theorem PB (gs:List Int)(n:Nat):fW gs (n+1)=fW gs n++[mT gs n]:=by
 unfold fW;rw [XF,Tn];rfl
theorem PC (xs:List D)(h:0<xs.length):e8 xs none (some (-1))=xs.take (xs.length - 1):=by
 unfold e8
 have a:HT.sIx xs.length 0 none=0:=HT.sIx_none _ _
 have c:HT.sIx xs.length xs.length (some (-1))=xs.length - 1:=by
  unfold HT.sIx
  first
  | (simp;omega)
  | (rw [if_pos (by decide)];omega)
  | omega
 rw [a,c]
 simp
theorem uD (k:Nat)(a:Nat)(gs:List Int)(u:GoodG gs)(o:Hm)(Q:D×Hm->Prop)(B:o[a]? = some (.lst (gs.map D.int)))
  (H:∀ b h,o <+: h->h[b]? = some (.lst ((fW gs gs.length).map D.int))->o.length<=b->Q (.loc b,h)):W (f (k+4) "spots_of" [.loc a] o) Q:=by
 have R:=u.len
 have M:=u.rgl
 rw [Ou,bV]
 simp only [bE,d6,aU,aI,aH,aF]
 refine oK _ a gs u _ _ B fun c A=>?_
 have w:=aK A B
 simp only [bQ,dA,aI,aH,aO]
 refine ⟨qN,?_⟩
 simp only [SD,SE,j4]
 refine t8 ?_
 simp only [aI,aH]
 refine k8 ?_
 simp only [aF]
 refine ⟨a,rfl,?_⟩
 simp only [j5,jC,t5,aO]
 have I:(c++[C.lst [D.int 0]])[c.length]? = some (C.lst ((fW gs 1).map D.int)):=bD _ _
 have l:e8 (gs.map D.int) none (some (-1))=(gs.take (gs.length - 1)).map D.int:=by
  rw [PC _ (by rw [Sx];omega),Sx,V5]
 refine ⟨_,aK (aQ _ _) w,?_⟩
 rw [l]
 refine ⟨_,_,rfl,bD _ _,?_⟩
 generalize hμ3:c++[C.lst [D.int 0]]++[C.lst ((gs.take (gs.length - 1)).map D.int)]=μ3
 have s:μ3[(c++[C.lst [D.int 0]]).length]? = some (C.lst ((gs.take (gs.length - 1)).map D.int)):=by rw [<- hμ3];exact bD _ _
 have r:μ3[c.length]? = some (C.lst ((fW gs 1).map D.int)):=by rw [<- hμ3];exact aK (aQ _ _) I
 have O:c <+: μ3:=by rw [<- hμ3];exact (aQ _ _).trans (aQ _ _)
 have m:((gs.take (gs.length - 1)).map D.int).length=gs.length - 1:=by rw [Sx,Tw];omega
 refine Du (fun i q h=>c <+: h/\i<=gs.length - 1/\h[(c++[C.lst [D.int 0]]).length]? = some (C.lst ((gs.take (gs.length - 1)).map D.int))/\h[c.length]? = some (C.lst ((fW gs (i+1)).map D.int))/\∃ o1 n,q=[some (.loc a),some (.loc c.length),o1,n])
  ⟨O,Uo _,s,r,none,none,rfl⟩ (fun i q h K=>K.2.2.1) ?_ ?_
 ·rintro i d q h hd ⟨z,L,G,j,o1,n,rfl⟩
  have y:i<gs.length - 1:=by
   have:=(SH.mp hd).1
   rw [m] at this;exact this
  have x:d=.int (gs.getD i 0):=by
   rw [Tr,Y8,if_pos y,SN (by omega)] at hd
   have:=S8 hd
   rw [<- this]
   have J:i<gs.length:=by omega
   simp [U3,J]
  subst x
  refine ⟨_,rfl,?_⟩
  show W (bC _ [some (.loc a),some (.loc c.length),some (.int (i:Int)),some (.int (gs.getD i 0))] h) _
  simp only [d6]
  refine qJ ?_
  simp only [aF,aG]
  refine ⟨qK j,?_⟩
  simp only [aI,aH,aT,aF,aG]
  refine (bT j (fF (by omega) (by rw [zB];omega))).mpr ?_
  rw [show ((i:Int)).toNat=i by omega,Pz gs (show i<i+1 by omega)]
  simp only [yM,b6,aT,aF,aG,aO,jD,w_eqI]
  have aV:∀ v:Int,v=(if i % 2=0 then gs.getD i 0 else -(gs.getD i 0))->W (jT (.loc c.length) [.int (mT gs i+v)] h) fun p=>c <+: p.2/\i+1<=gs.length - 1/\p.2[(c++[C.lst [D.int 0]]).length]? = some (C.lst ((gs.take (gs.length - 1)).map D.int))/\p.2[c.length]? = some (C.lst ((fW gs (i+1+1)).map D.int))/\∃ o1 n,[some (D.loc a),some (D.loc c.length),some (D.int (i:Int)),some (D.int (gs.getD i 0))]=[some (D.loc a),some (D.loc c.length),o1,n]:=fun v N=>by
   refine (Ds j (by rw [Sx,zB,S4];omega)).mpr ?_
   refine ⟨eW z (SM _) _,by omega,?_,?_,_,_,rfl⟩
   ·rw [TR (by simp)];exact G
   ·rw [S7 (SH.mp j).1,PB gs (i+1),Tn]
    show some (C.lst (_++[D.int (mT gs i+v)]))=some (C.lst (_++[D.int (mT gs (i+1))]))
    rw [N]
    rfl
  by_cases E:(i:Int) % 2=0
  ·simp only [E,beq_self_eq_true,if_true,w_addI]
   exact aV _ (by rw [if_pos (by omega)])
  ·have e:((i:Int) % 2 == 0)=false:=by simpa using E
   simp only [e,SI,if_false,t5,aF,aG,w_addI]
   exact aV _ (by rw [if_neg (by omega)])
 ·rintro q h ⟨z,L,G,j,o1,n,rfl⟩
  simp only [bB,aF,aG]
  rw [m,show gs.length - 1+1=gs.length by omega] at j
  exact H _ _ (A.trans z) j (qE A)
noncomputable def cG (n:Nat):List Int:=(Td n).map fun (i:Nat)=>(i:Int)
theorem PD (n:Nat):cG (n+1)=cG n++[(n:Int)]:=by unfold cG;rw [XF,Tn];rfl
theorem mem_upto {n:Nat}{x:Int}:x∈cG n↔0<=x/\x<n:=by
 unfold cG
 rw [TC]
 constructor
 ·rintro ⟨i,h,rfl⟩
  have:=Uh.mp h
  omega
 ·intro h
  exact ⟨x.toNat,Uh.mpr (by omega),by omega⟩
theorem DK (n:Nat):(cG n).Nodup:=by
 unfold cG
 show List.Pairwise _ _
 rw [UO]
 exact XX (fun h=>by omega) WD
theorem PF (n:Nat):(cG n).Pairwise (·<=·):=by
 unfold cG
 rw [UO]
 exact XX (fun h=>by omega) WD
theorem mU (n:Nat):(cG n).length=n:=by unfold cG;simp
structure Ord (n:Nat)(os:List Int):Prop where
 perm:os.Perm (cG n)
theorem Ord.len {n:Nat}{a:List Int}(h:Ord n a):a.length=n:=by rw [h.perm.length_eq,mU]
theorem Ord.mem {n:Nat}{a:List Int}(h:Ord n a){x:Int}:x∈a↔0<=x/\x<n:=by rw [h.perm.mem_iff,mem_upto]
theorem Ord.nd {n:Nat}{a:List Int}(h:Ord n a):a.Nodup:=h.perm.nodup_iff.mpr (DK n)
theorem Ord.sort {n:Nat}{a:List Int}(h:Ord n a):eS a=cG n:=(CC h.perm.symm (PF n)).symm
theorem PH (a:List Int)(p:Nat)(x:Int):(dU a p x).Perm (x::a):=by
 unfold dU
 refine List.perm_middle.trans ?_
 rw [Up]
theorem Ord.ins {n:Nat}{a:List Int}(h:Ord n a)(p:Nat):Ord (n+1) (dU a p (n:Int)):=by
 refine ⟨(PH a p n).trans ((List.Perm.cons _ h.perm).trans ?_)⟩
 rw [PD]
 exact (List.perm_append_singleton _ _).symm
theorem PJ (a:List Int)(p:Nat)(x:Int):dU (a.map D.int) p (.int x)=(dU a p x).map D.int:=by
 unfold dU
 rw [Tn,SW,V5,VA]
theorem PK (k:Nat)(ns:List Int)(e:Int)(u:0<=e)(n:Nat)(x:n<=8)(h:Hm)(Q:D×Hm->Prop)
  (H:∀ a c d,h <+: c->c[a]? = some (.lst (d.map D.int))->Ord n d->h.length<=a->Q (.loc a,c)):W (f (k+2) "_law_order" [.rol (ns.map D.int),.int e,.int (n:Int)] h) Q:=by
 rw [OZ,bV]
 simp only [bE,bQ,dA,aH]
 refine ⟨Uo _,?_⟩
 simp only [SD,SE,j4,gI (j:=0),aI,aH,aF,aG]
 refine ⟨by omega,?_⟩
 rw [show ((n:Int)).toNat=n by omega]
 refine mO (lo:=0) (fun i q c=>h <+: c/\(∃ d,c[h.length]? = some (C.lst (d.map D.int))/\Ord i d)/\∃ o,q=[some (.rol (ns.map D.int)),some (.int e),some (.int (n:Int)),some (.loc h.length),o])
  ⟨aQ _ _,⟨[],bD _ _,⟨YV _⟩⟩,none,rfl⟩ ?_ ?_
 ·rintro i q c v ⟨m,⟨d,j,l⟩,o,rfl⟩
  refine ⟨_,rfl,?_⟩
  simp only [SD,SE,d6]
  refine qJ ?_
  simp only [aF,aG]
  refine ⟨qK j,?_⟩
  simp only [aI,aH,aT,aU,aF,aG,aO,w_addI,j6 _ ns (e+(0+(i:Int))) (by omega),dW (show (0:Int)<0+(i:Int)+1 by omega)]
  have r:=TF (dG ns (e+(0+(i:Int)))) (show 0+(i:Int)+1≠0 by omega)
  have s:=TM (dG ns (e+(0+(i:Int)))) (show (0:Int)<0+(i:Int)+1 by omega)
  generalize dG ns (e+(0+(i:Int))) % (0+(i:Int)+1)=p at r s
  have w:=l.len
  refine (Oh j r (by omega) (by rw [Sx,S4];omega)).mpr ?_
  refine ⟨eW m (SM _) _,⟨dU d p.toNat (i:Int),?_,l.ins _⟩,_,rfl⟩
  rw [S7 (SH.mp j).1,show (0:Int)+(i:Int)=(i:Int) by omega,PJ]
 ·rintro q c ⟨m,⟨d,j,l⟩,o,rfl⟩
  simp only [bB,aF,aG]
  exact H _ _ d m j l (SM _)
theorem DL (k:Nat)(g a:Nat)(gs m:List Int)(w:gs.length<=8)(r:Ord gs.length m)(n:Hm)(Q:D×Hm->Prop)(s:n[g]? = some (.lst (gs.map D.int)))(o:n[a]? = some (.lst (m.map D.int)))
  (H:∀ c,n <+: c->Q (.non,c)):W (f (k+2) "check_order" [.loc g,.loc a] n) Q:=by
 have v:=r.len
 rw [Ot,bV]
 simp only [c9,kZ,qF,iO,aU,aI,aH]
 refine fD (xs:=m.map D.int) (p:=fun _=>true) (v:=fun _=>.bl true) ?_
 simp only [k4,aF,aG]
 refine (k7 o).mpr ?_
 refine ⟨k6 o,rfl,by rw [Sx,S4];omega,fun d c hd u=>w_mTrue.mpr ⟨rfl,SV _⟩,fun d c hd _ u=>?_,fun q h p=>?_⟩
 ·obtain ⟨x,_,rfl⟩:=mS hd
  simp only [S2,S5,aU,aI,aH,aF,aG,zA]
  exact ⟨trivial,SV _⟩
 ·have l:q[n.length]? = some (.lst ((m.map fun _=>true).map D.bl)):=by
   rw [p,oJ,Tv,Tv];rfl
  refine (yS l).mpr ?_
  have j:(m.map fun _=>true).all id=true:=by
   rw [WE];simp
  rw [j]
  simp only [w_truB,UK,SI,if_false,b6,aT,aU,aI,aH,aF,aG]
  refine (Dx (aK h o) (by omega)).mpr ?_
  refine (cK (aK (h.trans (aQ _ _)) s)).mpr ?_
  rw [Sx]
  refine (Dy (by omega)).mpr ?_
  rw [show ((gs.length:Nat):Int).toNat=gs.length by omega,r.sort]
  refine (yV (aK (aQ _ _) (bD _ _)) (bD _ _)).mpr ?_
  have e:(cG gs.length == (Td gs.length).map fun (i:Nat)=>(i:Int))=true:=by rw [beq_iff_eq];rfl
  rw [e]
  simp only [UK,SI,if_false,dF]
  exact H _ (h.trans ((aQ _ _).trans (aQ _ _)))
noncomputable def fX (n:Nat):List Int->List (aR×D)
 | []=>[]
 | o::os=>(.inl o,.int (n:Int))::fX (n+1) os
theorem DM (a:List Int):∀ n,(fX n a).length=a.length:=by
 induction a with
 | nil=>intro n;rfl
 | cons o a c=>intro n;show (fX (n+1) a).length+1=_;rw [c];rfl
theorem PL (a:List Int)(x:Int):∀ n,fX n (a++[x])=fX n a++[(.inl x,.int ((n+a.length:Nat):Int))]:=by
 induction a with
 | nil=>intro n;rfl
 | cons o a c=>
  intro n
  show (W6 o,D.int (n:Int))::fX (n+1) (a++[x])=_
  rw [c,show n+1+a.length=n+(o::a).length by simp;omega]
  rfl
theorem mV (a:List Int){x:Int}(h:x∈a):∀ n,fQ (fX n a) (.inl x)=some (.int ((n+a.idxOf x:Nat):Int)):=by
 induction a with
 | nil=>cases h
 | cons o a j=>
  intro n
  by_cases e:o=x
  ·subst e
   unfold fQ fX
   simp
  ·have d:x∈a:=by
    rcases TH.mp h with h|h
    ·exact absurd h.symm e
    ·exact h
   have:=j d (n+1)
   unfold fQ at this ⊢
   unfold fX
   have i:(o == x)=false:=by simpa using e
   have c:(o::a).idxOf x=a.idxOf x+1:=by rw [List.idxOf_cons,i];rfl
   rw [List.find?_cons_of_neg (by simpa using e),this,c]
   congr 3
   omega
theorem PM (a:List Int){x:Int}(h:x∉a):∀ n,((fX n a).any fun j=>decide (j.1=(.inl x:aR)))=false:=by
 induction a with
 | nil=>intro n;rfl
 | cons o a i=>
  intro n
  have c:¬ (o=x):=fun e=>h (by rw [e];exact UH)
  have d:x∉a:=fun z=>h (Ur _ z)
  unfold fX
  rw [V6,i d]
  simp [c]
theorem DN (k:Nat)(a:Nat)(l:List Int)(G:l.length<=8)(hd:l.Nodup)(m:Hm)(Q:D×Hm->Prop)(y:m[a]? = some (.lst (l.map D.int)))
  (H:∀ h c,m <+: c->c[h]? = some (.dK (fX 0 l))->Q (.loc h,c)):W (f (k+1) "heights_of" [.loc a] m) Q:=by
 rw [Ox,bV]
 simp only [bE,bQ,Of,SD,SE,j4]
 refine t8 ?_
 simp only [aI,aH,aF]
 have o:=aK (aQ m (C.dK [])) y
 have u:a≠m.length:=S9 (SH.mp y).1
 refine ⟨a,_,rfl,o,?_⟩
 refine Du (fun i q c=>m <+: c/\c[a]? = some (C.lst (l.map D.int))/\c[m.length]? = some (C.dK (fX 0 (l.take i)))/\∃ o1 x,q=[some (.loc a),some (.loc m.length),o1,x])
  ⟨aQ _ _,o,bD _ _,none,none,rfl⟩ (fun i q c B=>B.2.1) ?_ ?_
 ·rintro i d q c n ⟨w,A,p,o1,x,rfl⟩
  have s:i<l.length:=by
   have:=(SH.mp n).1
   rw [Sx] at this;exact this
  have r:d=.int l[i]:=by
   rw [Tr,SN s] at n
   exact (S8 n).symm
  subst r
  refine ⟨_,rfl,?_⟩
  show W (fU _ _ _ [some (.loc a),some (.loc m.length),some (.int (i:Int)),some (.int l[i])] c) _
  simp only [mQ,aF,aG]
  refine (Oe p rfl (by rw [DM,Tw,S4];omega)).mpr ?_
  refine ⟨eW w (SM _) _,?_,?_,_,_,rfl⟩
  ·rw [TR (Ux u)];exact A
  ·rw [S7 (SH.mp p).1,List.take_succ_eq_append_getElem s,PL]
   unfold nI
   have v:l[i]∉l.take i:=fun z=>by
    obtain ⟨j,E,e⟩:=List.mem_iff_getElem.mp z
    rw [Tw] at E
    rw [ZE] at e
    exact (Vx.mp hd) j i (by omega) s (by omega) e
   rw [PM _ v,if_neg (by decide),Tw,show 0+min i l.length=i by omega]
 ·rintro q c ⟨w,A,p,o1,x,rfl⟩
  simp only [bB,aF,aG]
  rw [Sx,Xw] at p
  exact H _ _ w p
theorem zC (k:Nat)(c j:Int)(hc:0<c)(a:Hm)(Q:D×Hm->Prop):W (f (k+1) "wedges_at" [.int c,.int j] a) Q↔Q (.loc a.length,a++[.lst [.int ((j - 1) % c),.int j]]):=by
 rw [Ov,bV]
 simp only [bB,dA,aI,aH,aT,aF,aG,aO,w_subI,dW hc]
 exact ⟨fun h=>h.2,fun h=>⟨jE,h⟩⟩
theorem PN {c:Hm}{a b i b1 j b2:Nat}{ps qs:List Int}{Q:D×Hm->Prop}(q:c[a]? = some (.lst [.loc i,.loc j]))(r:c[b]? = some (.lst [.loc b1,.loc b2]))
  (m:c[i]? = some (.lst (ps.map D.int)))(n:c[j]? = some (.lst (qs.map D.int)))(o:c[b1]? = some (.lst (ps.map D.int)))(p:c[b2]? = some (.lst (qs.map D.int))):W (aP true (.loc a) (.loc b) c) Q↔Q (.bl false,c):=by
 have e:∀ {x:Nat}{xs:List D},c[x]? = some (.lst xs)->dE c (.loc x)=some (.lst xs):=fun h=>by simp only [dE,h]
 have l:∀ {x y:Nat}{d:List Int},c[x]? = some (.lst (d.map D.int))->c[y]? = some (.lst (d.map D.int))->cE 7 c (.loc x) (.loc y)=some true:=fun {x y d} s w=>by
  show (dE c (.loc x)).bind (fun u=>(dE c (.loc y)).bind fun v=>gD (cE 6 c) u v)=_
  rw [e s,e w]
  show fA (cE 6 c) (d.map D.int) (d.map D.int)=_
  rw [yQ 5 c d d]
  simp
 have:cE 8 c (.loc a) (.loc b)=some true:=by
  show (dE c (.loc a)).bind (fun x=>(dE c (.loc b)).bind fun y=>gD (cE 7 c) x y)=_
  rw [e q,e r]
  show fA (cE 7 c) [.loc i,.loc j] [.loc b1,.loc b2]=_
  simp only [fA,l m o,l n p]
  rfl
 unfold aP
 rw [this]
 exact W_some
noncomputable def qR (h a b:Int):Bool:=decide (min a b<h)&&decide (h<max a b)
theorem DO (k:Nat)(h a b:Int)(d:Hm)(Q:D×Hm->Prop):W (f (k+1) "is_between" [.int h,.int a,.int b] d) Q↔Q (.bl (qR h a b),d):=by
 rw [Oy,bV]
 simp only [bB,N5,aU,aI,aH,aF,aG,N8,N9,qH]
 unfold qR
 by_cases c:min a b<h
 ·simp only [c,decide_true,if_true,Xb]
 ·simp only [c,decide_false,SI,if_false,Z5]
noncomputable def jG (a:List Int)(n:Nat)(k:Int)(w:Int):Bool:=qR (a.idxOf w:Nat) (a.idxOf ((k - 1) % n):Nat) (a.idxOf k:Nat)
noncomputable def qS (sp:List Int)(n:Nat)(k:Int)(w:Int):Bool:=qR (sp.getD k.toNat 0) (sp.getD w.toNat 0) (sp.getD ((w+1) % n).toNat 0)
noncomputable def fY (sp a:List Int)(n:Nat)(k:Int)(m:Int):Bool:=decide (m≠k)&&decide (m % 2=k % 2)&&decide (sp.getD m.toNat 0=sp.getD k.toNat 0)&&(jG a n k m != jG a n k ((m - 1) % n))
theorem zD (a:List Int)(p:Int->Bool):((a.map D.int).filter fun d=>p (dJ d)).map (fun d=>d)=(a.filter p).map D.int:=by
 rw [a0w,Wc]
 rfl
theorem DP (k:Nat)(a b:Nat)(e u:List Int)(n:Nat)(Z:2<=n/\n<=8)(r:Ord n e)(j:Int)(O:0<=j/\j<n)(A:∀ w∈u,0<=w/\w<n)(T:u.length<=8)(v:Hm)(Q:D×Hm->Prop)
  (J:v[a]? = some (.lst (e.map D.int)))(N:v[b]? = some (.lst (u.map D.int)))
  (H:∀ c i,v <+: i->i[c]? = some (.lst ((u.filter (jG e n j)).map D.int))->Q (.loc c,i)):W (f (k+2) "between_at" [.loc a,.int j,.loc b] v) Q:=by
 have R:=r.len
 rw [Oz,bV]
 simp only [bE,bQ,aU,aI,aH,aF]
 refine DN _ a e (by omega) r.nd _ _ J fun h o L I=>?_
 have U:(j - 1) % n∈e:=r.mem.mpr ⟨TF _ (by omega),TM _ (by omega)⟩
 have X:j∈e:=r.mem.mpr O
 simp only [SD,SE]
 refine fD (xs:=[.int ((j - 1) % n),.int j]) (p:=fun _=>true) (v:=fun d=>.int (e.idxOf (dJ d):Nat)) ?_
 simp only [k4,aU,aI,aH,aF,aG]
 refine (cK (aK L J)).mpr ?_
 rw [Sx,R]
 rw [zC _ _ _ (by omega)]
 have G:=bD o (C.lst [D.int ((j - 1) % n),D.int j])
 have B:=aQ o (C.lst [D.int ((j - 1) % n),D.int j])
 refine (k7 G).mpr ?_
 refine ⟨k6 G,rfl,jE,fun d i hd m=>w_mTrue.mpr ⟨rfl,SV _⟩,fun d i hd _ m=>?_,fun E s y=>?_⟩
 ·have x:d=.int ((j - 1) % n)\/d=.int j:=by simpa using hd
  simp only [S2,S5,aT,aF,aG]
  have K:=aK (B.trans m) I
  rcases x with rfl|rfl
  ·refine (qI K rfl (mV e U 0)).mpr ⟨?_,SV _⟩
   show D.int _=D.int _
   rw [VP];rfl
  ·refine (qI K rfl (mV e X 0)).mpr ⟨?_,SV _⟩
   show D.int _=D.int _
   rw [VP];rfl
 ·have l:E[(o++[C.lst [D.int ((j - 1) % n),D.int j]]).length]? = some (.lst [.int (e.idxOf ((j - 1) % n):Nat),.int (e.idxOf j:Nat)]):=by rw [y];rfl
  have M:=L.trans (B.trans s)
  simp only [SD,SE,bB]
  refine fD (xs:=u.map D.int) (p:=fun d=>jG e n j (dJ d)) (v:=fun d=>d) ?_
  simp only [k4,aF,aG]
  have p:=aK M N
  refine (k7 p).mpr ?_
  refine ⟨k6 p,rfl,by rw [Sx,S4];omega,fun d i hd m=>?_,fun d i hd _ m=>?_,fun Y z q=>?_⟩
  ·obtain ⟨w,hw,rfl⟩:=mS hd
   simp only [S2,S5,iO,aU,aI,aH,aT,aF,aG,aO]
   refine (qI (aK (B.trans (s.trans m)) I) rfl (mV e (r.mem.mpr (A w hw)) 0)).mpr ?_
   refine (bT (aK m l) (d:=.int (e.idxOf ((j - 1) % n):Nat)) rfl).mpr ?_
   refine (bT (aK m l) (d:=.int (e.idxOf j:Nat)) rfl).mpr ?_
   rw [VP,DO]
   refine w_truB.mpr ⟨rfl,SV _⟩
  ·simp only [S2,S5,aF,aG]
   exact ⟨trivial,SV _⟩
  ·rw [zD] at q
   exact H _ _ (M.trans z) q
theorem PQ (k:Nat)(s:Nat)(sp:List Int)(n:Nat)(h:2<=n/\n<=8)(d:sp.length=n)(w x:Int)(hw:0<=w/\w<n)(c:Hm)(Q:D×Hm->Prop)(a:c[s]? = some (.lst (sp.map D.int))) :
  W (f (k+2) "reaches_beyond" [.loc s,.int w,.int x] c) Q↔Q (.bl (qR x (sp.getD w.toNat 0) (sp.getD ((w+1) % n).toNat 0)),c):=by
 have e:0<=(w+1) % (n:Int)/\(w+1) % (n:Int)<n:=⟨TF _ (by omega),TM _ (by omega)⟩
 rw [OA,bV]
 simp only [bB,aU,aI,aH,aT,aF,aG,aO,w_addI,cK a,Sx,d,dW (show (0:Int)<(n:Int) by omega),bT a (fF (gs:=sp) (i:=w) (by omega) (by omega)),bT a (fF (gs:=sp) (i:=(w+1) % (n:Int)) (by omega) (by omega)),DO]
theorem DQ (n:Nat):cH 0 n=(cG n).map D.int:=by
 unfold cH cG
 rw [Tv]
 refine UD fun i _=>?_
 show D.int (0+(i:Int))=D.int (i:Int)
 rw [YD]
theorem PR (k:Nat)(s a:Nat)(sp h:List Int)(n:Nat)(v:2<=n/\n<=8)(u:sp.length=n)(A:Ord n h)(j:Int)(z:0<=j/\j<n)(i:Hm)(Q:D×Hm->Prop)
  (o:i[s]? = some (.lst (sp.map D.int)))(y:i[a]? = some (.lst (h.map D.int)))
  (H:∀ c e,i <+: e->e[c]? = some (.lst (((cG n).filter fun w=>jG h n j w&&qS sp n j w).map D.int))->Q (.loc c,e)):W (f (k+3) "shutting_wedges" [.loc s,.loc a,.int j] i) Q:=by
 rw [OB,bV]
 simp only [bE,bQ]
 refine fD (xs:=(cG n).map D.int) (p:=fun d=>qS sp n j (dJ d)) (v:=fun d=>d) ?_
 simp only [gI (j:=0),aI,aH,aU,aF]
 refine (cK o).mpr ?_
 rw [Sx,u]
 have l:((n:Nat):Int).toNat=n:=by omega
 dsimp only
 rw [l]
 refine ⟨by omega,by rw [<- DQ];exact mP,by rw [Sx,mU],by rw [Sx,mU,S4];omega,fun d e hd m=>?_,fun d e hd _ m=>?_,fun E x q=>?_⟩
 ·obtain ⟨w,hw,rfl⟩:=mS hd
  have p:=mem_upto.mp hw
  simp only [S2,S5,iO,aU,aI,aH,aT,aF,aG]
  refine (bT (aK m o) (fF (by omega) (by omega))).mpr ?_
  rw [PQ _ s sp n v u w _ p _ _ (aK m o)]
  exact w_truB.mpr ⟨rfl,SV _⟩
 ·simp only [S2,S5,aF,aG]
  exact ⟨trivial,SV _⟩
 ·rw [zD] at q
  simp only [SD,SE,bB,aU,aI,aH,aF,aG]
  refine DP _ a _ h _ n v A j z (fun w hw=>mem_upto.mp (U2.mp hw).1) (TX (WQ _ _) (by rw [mU];omega)) _ _ (aK x y) q fun c G B r=>?_
  rw [List.filter_filter] at r
  exact H _ _ (x.trans B) r
theorem PU (p:Int->Bool)(x y:Int):(((([x,y].filter p).length:Nat):Int) == 1)=(p y != p x):=by
 cases a:p x<;>cases c:p y<;>simp [List.filter,a,c]
theorem PV (k:Nat)(s a:Nat)(sp d:List Int)(n:Nat)(I:2<=n/\n<=8)(E:sp.length=n)(J:Ord n d)(j m:Int)(B:0<=j/\j<n)(G:0<=m/\m<n)(h:Hm)(Q:D×Hm->Prop)
  (v:h[s]? = some (.lst (sp.map D.int)))(A:h[a]? = some (.lst (d.map D.int)))
  (H:∀ i,h <+: i->Q (.bl (fY sp d n j m),i)):W (f (k+3) "is_shutting_crease" [.loc s,.loc a,.int j,.int m] h) Q:=by
 rw [OC,bV]
 simp only [bE,c9,kZ,b6,aT,aF,aG,aO,w_eqI]
 by_cases l:m=j
 ·have q:(m == j)=true:=by rw [beq_iff_eq];exact l
  simp only [q,if_true,bB,aO]
  have e:fY sp d n j m=false:=by unfold fY;simp [l]
  rw [<- e];exact H _ (SV _)
 have q:(m == j)=false:=by rw [beq_eq_false_iff_ne];exact l
 simp only [q,SI,if_false,b6,aT,aF,aG,aO,jD,w_neI]
 by_cases o:m % 2=j % 2
 ·have r:(!(m % 2 == j % 2))=false:=by rw [o];simp
  simp only [r,SI,if_false]
  refine (bT v (fF (by omega) (by omega))).mpr ?_
  refine (bT v (fF (by omega) (by omega))).mpr ?_
  refine w_neI.mpr ?_
  dsimp only
  by_cases p:sp.getD m.toNat 0=sp.getD j.toNat 0
  ·have u:(!(sp.getD m.toNat 0 == sp.getD j.toNat 0))=false:=by rw [p];simp
   rw [u]
   simp only [SI,if_false,dF,bB,aT,aU,aI,aH,aF,aG]
   refine (cK v).mpr ?_
   rw [Sx,E,zC _ _ _ (by omega)]
   have y:(h++[C.lst [D.int ((m - 1) % n),D.int m]])[h.length]? = some (.lst ([(m - 1) % (n:Int),m].map D.int)):=bD _ _
   have x:=aQ h (C.lst [D.int ((m - 1) % n),D.int m])
   refine DP _ a _ d _ n I J j B (fun w hw=>?_) (by show 2<=8;decide) _ _ (aK x A) y fun c L K z=>?_
   ·have:w=(m - 1) % (n:Int)\/w=m:=by simpa using hw
    rcases this with rfl|rfl
    ·exact ⟨TF _ (by omega),TM _ (by omega)⟩
    ·exact G
   ·refine (cK z).mpr ?_
    simp only [aO]
    refine w_eqI.mpr ?_
    rw [Sx,PU]
    have e:fY sp d n j m=(jG d n j m != jG d n j ((m - 1) % n)):=by
     unfold fY
     rw [decide_eq_true l,decide_eq_true o,decide_eq_true p];rfl
    rw [<- e];exact H _ (x.trans K)
  ·have u:(!(sp.getD m.toNat 0 == sp.getD j.toNat 0))=true:=by simpa using p
   rw [u]
   simp only [if_true,bB,aO]
   have e:fY sp d n j m=false:=by unfold fY;rw [decide_eq_false p];simp
   rw [<- e];exact H _ (SV _)
 ·have r:(!(m % 2 == j % 2))=true:=by simpa using o
  simp only [r,if_true,bB,aO]
  have e:fY sp d n j m=false:=by unfold fY;rw [decide_eq_false o];simp
  rw [<- e];exact H _ (SV _)
theorem PX (k:Nat)(s a:Nat)(sp h:List Int)(n:Nat)(x:2<=n/\n<=8)(q:sp.length=n)(y:Ord n h)(j:Int)(v:0<=j/\j<n)(i:Hm)(Q:D×Hm->Prop)
  (r:i[s]? = some (.lst (sp.map D.int)))(u:i[a]? = some (.lst (h.map D.int)))
  (H:∀ c e,i <+: e->e[c]? = some (.lst (((cG n).filter (fY sp h n j)).map D.int))->Q (.loc c,e)):W (f (k+4) "shutting_creases" [.loc s,.loc a,.int j] i) Q:=by
 rw [OD,bV]
 simp only [bB]
 refine fD (xs:=(cG n).map D.int) (p:=fun d=>fY sp h n j (dJ d)) (v:=fun d=>d) ?_
 simp only [gI (j:=0),aI,aH,aU,aF]
 refine (cK r).mpr ?_
 rw [Sx,q]
 have l:((n:Nat):Int).toNat=n:=by omega
 dsimp only
 rw [l]
 refine ⟨by omega,by rw [<- DQ];exact mP,by rw [Sx,mU],by rw [Sx,mU,S4];omega,fun d e hd m=>?_,fun d e hd _ m=>?_,fun B z p=>?_⟩
 ·obtain ⟨w,hw,rfl⟩:=mS hd
  have o:=mem_upto.mp hw
  simp only [S2,S5,iO,aU,aI,aH,aF,aG]
  refine PV _ s a sp h n x q y j w v o _ _ (aK m r) (aK m u) fun E A=>?_
  exact w_truB.mpr ⟨rfl,A⟩
 ·simp only [S2,S5,aF,aG]
  exact ⟨trivial,SV _⟩
 ·rw [zD] at p
  exact H _ _ z p
theorem qT {x:D}{xs:List D}:atI (x::xs) 0=some x:=by
 unfold atI
 rw [jF (XI _) (by rw [SY];omega)]
 rfl
theorem uE {c:Hm}{a:Nat}{xs:List D}{Q:Bool->Prop}(h:c[a]? = some (.lst xs)):W (kP c (.loc a)) Q↔Q (!xs.isEmpty):=by
 simp only [kP,h]
 exact W_some
noncomputable def mW (sp a:List Int)(n:Nat)(k:Int):Option D:=
 match (cG n).find? fun w=>jG a n k w&&qS sp n k w with
 | some w=>some (.tup [.str "wedge",.int k,.int w])
 | none=>((cG n).find? (fY sp a n k)).map fun m=>.tup [.str "crease",.int k,.int m]
noncomputable def Shut (sp a:List Int)(n:Nat)(d:D):Prop:=(∃ k:Nat,k<n/\(∀ j:Nat,j<k->mW sp a n (j:Int)=none)/\mW sp a n (k:Int)=some d)\/((∀ j:Nat,j<n->mW sp a n (j:Int)=none)/\d=.non)
theorem Shut.one {sp e:List Int}{n:Nat}{d d':D}(h:Shut sp e n d)(h':Shut sp e n d'):d=d':=by
 rcases h with ⟨k,c,i,a⟩|⟨c,rfl⟩<;>rcases h' with ⟨j,j1,j2,j3⟩|⟨j1,rfl⟩
 ·rcases Xr k j with h|h|h
  ·rw [j2 k h] at a;cases a
  ·subst h;rw [a] at j3;exact S8 j3
  ·rw [i j h] at j3;cases j3
 ·rw [j1 k c] at a;cases a
 ·rw [c j j1] at j3;cases j3
 ·rfl
theorem PY (k:Nat)(g a:Nat)(gs h:List Int)(A:GoodG gs)(I:Ord gs.length h)(z:Hm)(Q:D×Hm->Prop)(B:z[g]? = some (.lst (gs.map D.int)))(O:z[a]? = some (.lst (h.map D.int)))
  (H:∀ d e,z <+: e->Shut (fW gs gs.length) h gs.length d->Q (d,e)):W (f (k+5) "shut_at" [.loc g,.loc a] z) Q:=by
 have hl:=A.len
 have hrg:=A.rgl
 have r:=zB gs gs.length
 have G:2<=gs.length/\gs.length<=8:=by omega
 rw [OE,bV]
 simp only [bE,bQ,aU,aI,aH,aF]
 refine uD _ g gs A _ _ B fun s μ1 o s1 l1=>?_
 generalize fW gs gs.length=sp at *
 simp only [SD,SE,d6,aU,aI,aH,aF,aG]
 refine DL _ g a gs h G.2 I _ _ (aK o B) (aK o O) fun L p=>?_
 simp only [j4,gI (j:=0),aU,aI,aH,aF]
 refine (cK (aK (o.trans p) B)).mpr ?_
 rw [Sx]
 refine ⟨by omega,?_⟩
 rw [show ((gs.length:Nat):Int).toNat=gs.length by omega]
 refine mO (lo:=0) (fun i M e=>L <+: e/\(∀ j:Nat,j<i->mW sp h gs.length (j:Int)=none)/\∃ o1 J K,M=[some (.loc g),some (.loc a),some (.loc s),o1,J,K])
  ⟨SV _,fun j T=>absurd T (UQ _),none,none,none,rfl⟩ ?_ ?_
 ·rintro i M e R ⟨n,q,o1,J,K,rfl⟩
  refine ⟨_,rfl,?_⟩
  rw [show (0:Int)+(i:Int)=(i:Int) by omega]
  have Y:=aK (p.trans n) s1
  have N:=aK (o.trans (p.trans n)) O
  simp only [SD,SE,bE,bQ,aU,aI,aH,aF,aG]
  refine PR _ s a sp h gs.length G r I (i:Int) (by omega) _ _ Y N fun c μ3 u v=>?_
  simp only [SD,SE,c9,iO,aF,aG]
  have y:=@ZD _ (fun w=>jG h gs.length (i:Int) w&&qS sp gs.length (i:Int) w) (cG gs.length)
  generalize (cG gs.length).filter (fun w=>jG h gs.length (i:Int) w&&qS sp gs.length (i:Int) w)=Z at v y
  cases Z with
  | cons w Z=>
   refine (uE v).mpr ?_
   simp only [SW,ZC,WZ,if_true,bB,qG,aI,aH,aO,aT,aF,aG]
   refine (bT v qT).mpr ?_
   refine ⟨by show (3:Nat)<=SK;decide,?_⟩
   refine H _ _ (o.trans (p.trans (n.trans u))) (.inl ⟨i,R,q,?_⟩)
   unfold mW
   rw [<- y];rfl
  | nil=>
   refine (uE v).mpr ?_
   simp only [Wm,ZP,UK,SI,if_false,dF,aU,aI,aH,aF,aG]
   refine PX _ s a sp h gs.length G r I (i:Int) (by omega) _ _ (aK u Y) (aK u N) fun c2 μ4 X x=>?_
   simp only [SD,SE,iO,aF,aG]
   have l:=@ZD _ (fY sp h gs.length (i:Int)) (cG gs.length)
   generalize (cG gs.length).filter (fY sp h gs.length (i:Int))=U at x l
   cases U with
   | cons m U=>
    refine (uE x).mpr ?_
    simp only [SW,ZC,WZ,if_true,bB,qG,aI,aH,aO,aT,aF,aG]
    refine (bT x qT).mpr ?_
    refine ⟨by show (3:Nat)<=SK;decide,?_⟩
    refine H _ _ (o.trans (p.trans (n.trans (u.trans X)))) (.inl ⟨i,R,q,?_⟩)
    unfold mW
    rw [<- y,<- l];rfl
   | nil=>
    refine (uE x).mpr ?_
    simp only [Wm,ZP,UK,SI,if_false,dF]
    refine ⟨n.trans (u.trans X),fun j T=>?_,_,_,_,rfl⟩
    by_cases E:j<i
    ·exact q j E
    ·have:j=i:=by omega
     subst this
     unfold mW
     rw [<- y,<- l];rfl
 ·rintro M e ⟨n,q,o1,J,K,rfl⟩
  simp only [bB,aO]
  exact H _ _ (o.trans (p.trans n)) (.inr ⟨q,rfl⟩)
noncomputable def cI:Bool->Str
 | true=>"v"
 | false=>"h"
noncomputable def cV:Bool->Nat
 | true=>118
 | false=>104
theorem k9 (b:Bool):cI b=⟨#[cV b]⟩:=by cases b<;>kernel_rfl
theorem DR:("":Str)=⟨#[]⟩:=by kernel_rfl
noncomputable def a8 (bs:List Bool):Str:=⟨(bs.map cV).toArray⟩
theorem dH (bs:List Bool):(a8 bs).length=bs.length:=by
 show ((bs.map cV).toArray).size=_
 simp
theorem PZ (bs:List Bool):∀ a:Array Nat,(bs.map cI).foldl (fun a p=>a++("":Str).cps++p.cps) a=a++(bs.map cV).toArray:=by
 induction bs with
 | nil=>intro a;simp
 | cons b bs c=>
  intro a
  rw [SW,XG,c,DR,k9]
  simp
theorem DS (bs:List Bool):UI "" (bs.map cI)=a8 bs:=by
 cases bs with
 | nil=>rfl
 | cons b bs=>
  unfold UI a8
  rw [SW,List.drop_succ_cons,Wr,PZ,List.headD_cons,k9]
  simp
theorem P0 (bs:List Bool):∀ m:Nat,(bs.map cI).foldl (fun (a:Nat)(x:Str)=>a+x.length+("":Str).length) m=m+bs.length:=by
 induction bs with
 | nil=>intro m;rfl
 | cons b bs c=>
  intro m
  rw [SW,XG,c,DR,k9]
  show m+1+0+bs.length=m+(bs.length+1)
  omega
theorem DT {c:Hm}{a:Nat}{bs:List Bool}{Q:D×Hm->Prop}(h:c[a]? = some (.lst (bs.map fun b=>D.str (cI b))))(e:bs.length<=8):W (jY (.str "") [.loc a] c) Q↔Q (.str (a8 bs),c):=by
 have d:c[a]? = some (.lst ((bs.map cI).map D.str)):=by rw [h,Tv];rfl
 rw [Og d ?_ ?_,DS]
 ·rw [List.foldl_toArray,P0]
  unfold VT
  rw [S4]
  exact decide_eq_false (by omega)
 ·rw [DS,dH,S4];omega
noncomputable def vB (a:List Int)(n:Nat)(j:Nat):Bool:=
 if j % 2=1 then decide (a.idxOf (((j:Int) - 1) % n)<a.idxOf (j:Int)) else decide (a.idxOf (j:Int)<a.idxOf (((j:Int) - 1) % n))
noncomputable def qU (a:List Int)(n:Nat)(m:Nat):List Bool:=(Td m).map (vB a n)
theorem P1 (a:List Int)(n m:Nat):(qU a n m).length=m:=by unfold qU;simp
theorem P2 (k:Nat)(h:Nat)(a:List Int)(n:Nat)(E:2<=n/\n<=8)(m:Ord n a)(j:Nat)(B:j<n)(c:Hm)(Q:D×Hm->Prop)(x:c[h]? = some (.dK (fX 0 a)))
  (H:∀ l,c <+: l->Q (.str (cI (vB a n j)),l)):W (f (k+2) "mark_by" [.loc h,.int (j:Int)] c) Q:=by
 have y:=m.len
 rw [OF,bV]
 simp only [bE,bQ,aU,aI,aH,aF,aG]
 refine (Oi x).mpr ?_
 rw [DM,y,zC _ _ _ (by omega)]
 have u:=aQ c (C.lst [D.int (((j:Int) - 1) % n),D.int (j:Int)])
 have i:=bD c (C.lst [D.int (((j:Int) - 1) % n),D.int (j:Int)])
 generalize hμ1:c++[C.lst [D.int (((j:Int) - 1) % n),D.int (j:Int)]]=μ1 at u i
 have v:=aK u x
 have r:((j:Int) - 1) % n∈a:=m.mem.mpr ⟨TF _ (by omega),TM _ (by omega)⟩
 have s:(j:Int)∈a:=m.mem.mpr ⟨by omega,by omega⟩
 have G:=mV a r 0
 have I:=mV a s 0
 simp only [SD,SE,aT,aF,aG,aO,jD]
 have aV:∀ t o:Int,t∈a->o∈a->decide (a.idxOf o<a.idxOf t)=vB a n j->W (aY (iW (aM (aC jP (aC aL (aA 0) (aA 3)) (aC aL (aA 0) (aA 4)))) (mC (.str "v")) (mC (.str "h"))) [some (.loc h),some (.int (j:Int)),some (.loc c.length),some (.int t),some (.int o)] μ1) fun p=>match p.1 with|.rt d=>Q (d,p.2.2)|.nx=>Q (.non,p.2.2)|_=>False:=fun t o z q A=>by
  simp only [bB,yM,b6,aT,aF,aG]
  refine (qI v rfl (mV a z 0)).mpr ?_
  refine (qI v rfl (mV a q 0)).mpr ?_
  refine w_gtI.mpr ?_
  have e:decide (((0+a.idxOf o:Nat):Int)<((0+a.idxOf t:Nat):Int))=vB a n j:=by
   rw [<- A,decide_eq_decide];omega
  rw [e]
  have:=H μ1 u
  cases w:vB a n j with
  | true=>rw [w] at this;simp only [if_true,aO];exact this
  | false=>rw [w] at this;simp only [SI,if_false,aO];exact this
 have hc:(j:Int) % 2=0\/(j:Int) % 2=1:=by omega
 rcases hc with hc|hc
 ·rw [hc]
  refine (bT i (d:=.int (((j:Int) - 1) % n)) rfl).mpr ?_
  simp only [SD,SE,aT,aF,aG,aO,jD,w_subI]
  refine (bT i (d:=.int (j:Int)) rfl).mpr ?_
  simp only [SD,SE]
  exact aV _ _ r s (by unfold vB;rw [if_neg (by omega)])
 ·rw [hc]
  refine (bT i (d:=.int (j:Int)) rfl).mpr ?_
  simp only [SD,SE,aT,aF,aG,aO,jD,w_subI]
  refine (bT i (d:=.int (((j:Int) - 1) % n)) rfl).mpr ?_
  simp only [SD,SE]
  exact aV _ _ s r (by unfold vB;rw [if_pos (by omega)])
theorem P4 (k:Nat)(g a:Nat)(gs c:List Int)(q:GoodG gs)(n:Ord gs.length c)(p:Hm)(Q:D×Hm->Prop)(r:p[g]? = some (.lst (gs.map D.int)))(x:p[a]? = some (.lst (c.map D.int)))
  (H:∀ e,p <+: e->Q (.str (a8 (qU c gs.length gs.length)),e)):W (f (k+4) "marks_of" [.loc g,.loc a] p) Q:=by
 have R:=q.len
 have J:=q.rgl
 have I:=n.len
 rw [OG,bV]
 simp only [bE,d6,aU,aI,aH,aF,aG]
 refine oK _ g gs q _ _ r fun M o=>?_
 dsimp only
 refine DL _ g a gs c (by omega) n _ _ (aK o r) (aK o x) fun N A=>?_
 simp only [bQ,aU,aI,aH,aF,aG]
 refine DN _ a c (by omega) n.nd _ _ (aK (o.trans A) x) fun h v K B=>?_
 have m:=o.trans (A.trans K)
 simp only [SD,SE,bB]
 refine oG ?_
 simp only [aO]
 refine ⟨_,rfl,?_⟩
 simp only [aI,aH]
 refine fD (xs:=cH 0 gs.length) (p:=fun _=>true) (v:=fun d=>.str (cI (vB c gs.length (dJ d).toNat))) ?_
 simp only [gI (j:=0),aI,aH,aU,aF]
 refine (cK (aK m r)).mpr ?_
 rw [Sx]
 have G:((gs.length:Nat):Int).toNat=gs.length:=by omega
 dsimp only
 rw [G]
 refine ⟨by omega,mP,by simp [cH],by rw [S4];simp [cH];omega,fun d e hd y=>w_mTrue.mpr ⟨rfl,SV _⟩,fun d e hd _ y=>?_,fun w u s=>?_⟩
 ·obtain ⟨j,E,rfl⟩:=qO hd
  simp only [S2,S5,aU,aI,aH,aF,aG]
  rw [show (0:Int)+(j:Int)=(j:Int) by omega]
  refine P2 _ h c gs.length (by omega) n j E _ _ (aK y B) fun O L=>?_
  refine ⟨?_,L⟩
  show D.str _=D.str (cI (vB c gs.length ((j:Int)).toNat))
  rw [show ((j:Int)).toNat=j by omega]
 ·have l:w[v.length]? = some (.lst ((qU c gs.length gs.length).map fun b=>D.str (cI b))):=by
   rw [s,oJ]
   unfold cH qU
   rw [Tv,Tv]
   refine congrArg (fun z=>some (C.lst z)) (UD fun i _=>?_)
   show D.str (cI (vB c gs.length ((0:Int)+(i:Int)).toNat))=D.str (cI (vB c gs.length i))
   rw [show ((0:Int)+(i:Int)).toNat=i by omega]
  refine (DT l (by rw [P1];omega)).mpr ?_
  exact H _ (m.trans u)
noncomputable abbrev Gm:=Int×Bool
noncomputable def Rot {c:Type}(l a:List c):Prop:=∃ u v,l=u++v/\a=v++u
theorem Rot.symm {c:Type}{l a:List c}:Rot l a->Rot a l:=fun ⟨u,v,h,h'⟩=>⟨v,u,h',h⟩
theorem Rot.re {a:Type}{l:List a}:Rot l l:=⟨[],l,by simp,by simp⟩
theorem Rot.trans {i:Type}{l e d:List i}:Rot l e->Rot e d->Rot l d:=fun ⟨u,v,h,h'⟩ ⟨p,q,g,g'⟩=>by
 subst h g'
 rw [h'] at g
 rcases X9.mp g with ⟨a,rfl,rfl⟩|⟨c,rfl,rfl⟩
 ·exact ⟨a,q++v,by simp,by simp⟩
 ·exact ⟨u++p,c,by simp,by simp⟩
theorem Rot.len {c:Type}{l a:List c}:Rot l a->l.length=a.length:=fun ⟨u,v,h,h'⟩=>by subst h h';simp;omega
noncomputable def oM (x y z:Gm):Prop:=y.1<=x.1/\y.1<=z.1/\y.2≠z.2
noncomputable def bR (x y z:Gm):Gm:=(x.1 - y.1+z.1,x.2)
inductive Fo:List Gm->Prop
 | two {x y:Gm}:x.2=y.2->Fo [x,y]
 | step {l r:List Gm}{x y z:Gm}:Rot l (x::y::z::r)->oM x y z->Fo (bR x y z::r)->Fo l
theorem Fo.rot {l i:List Gm}(h:Fo l)(R:Rot l i):Fo i:=by
 cases h with
 | two h=>
  rename_i x y
  obtain ⟨u,v,d,e⟩:=R
  match u,d with
  | [],d=>simp at d;subst d e;exact .two h
  | [a],d=>simp at d;obtain ⟨rfl,rfl⟩:=d;subst e;exact .two h.symm
  | [a,b],d=>simp at d;obtain ⟨rfl,rfl,rfl⟩:=d;subst e;exact .two h
  | a::b::c::u,d=>simp at d
 | step j c F=>exact .step (R.symm.trans j) c F
theorem iQ {x y:Gm}(a:x.1=y.1)(c:x.2=y.2):x=y:=Prod.ext a c
theorem DU {a b c:Bool}(h:a≠b)(h':b≠c):a=c:=by cases a<;>cases b<;>cases c<;>simp_all
theorem P5:∀ (n:Nat)(x y z:Gm)(r:List Gm),r.length+3=2 * n->oM x y z->Fo (x::y::z::r)->Fo (bR x y z::r):=by
 intro n
 induction n with
 | zero=>intro x y z r h;omega
 | succ n O=>
  intro x y z r p c F
  cases F with
  | step R G w=>
   rename_i T i j l
   obtain ⟨u,v,o,m⟩:=R
   match u,o with
   | [],o=>
    simp at o;subst o;simp at m
    obtain ⟨rfl,rfl,rfl,rfl⟩:=m
    exact w
   | [a],o=>
    simp at o;obtain ⟨rfl,rfl⟩:=o
    match r,p with
    | [],p=>simp at p;omega
    | q::s,p=>
     simp at m;obtain ⟨rfl,rfl,rfl,rfl⟩:=m
     obtain ⟨H,I,B⟩:=c
     obtain ⟨J,K,E⟩:=G
     have M:bR x i j=x:=iQ (by show x.1 - i.1+j.1=x.1;omega) rfl
     have N:bR i j l=l:=iQ (by show i.1 - j.1+l.1=l.1;omega) (DU B E)
     rw [N] at w
     rw [M]
     exact w.rot ⟨l::s,[x],by simp,by simp⟩
   | [a,b],o=>
    simp at o;obtain ⟨rfl,rfl,rfl⟩:=o
    match r,p with
    | [],p=>simp at p;omega
    | [q],p=>
     simp at m;obtain ⟨rfl,rfl,rfl,rfl⟩:=m
     have:(bR i j l).2=y.2:=by
      cases w with
      | two h=>exact h
      | step R _ _=>have:=R.len;simp at this
     exact absurd this.symm c.2.2
    | q::t::s,p=>
     simp at m;obtain ⟨rfl,rfl,rfl,rfl⟩:=m
     obtain ⟨H,I,B⟩:=c
     obtain ⟨J,K,E⟩:=G
     have L:Fo (x::y::bR i j l::s):=w.rot ⟨bR i j l::s,[x,y],by simp,by simp⟩
     have A:=O x y (bR i j l) s (by simp at p;omega) ⟨H,by show y.1<=i.1 - j.1+l.1;omega,B⟩ L
     have e:bR x y (bR i j l)=bR (bR x y i) j l:=iQ (by show x.1 - y.1+(i.1 - j.1+l.1)=x.1 - y.1+i.1 - j.1+l.1;omega) rfl
     rw [e] at A
     exact .step .re ⟨by show j.1<=x.1 - y.1+i.1;omega,K,E⟩ A
   | a::b::d::r1,o=>
    simp at o;obtain ⟨rfl,rfl,rfl,rfl⟩:=o
    match v,m with
    | [],m=>
     simp at m
     obtain ⟨rfl,rfl,rfl,rfl⟩:=m
     simpa using w
    | [a],m=>
     simp at m;obtain ⟨rfl,rfl,rfl,rfl⟩:=m
     obtain ⟨H,I,B⟩:=c
     obtain ⟨J,K,E⟩:=G
     have M:bR j l z=z:=iQ (by show j.1 - l.1+z.1=z.1;omega) (DU E B)
     have N:bR i j l=i:=iQ (by show i.1 - j.1+l.1=i.1;omega) rfl
     rw [N] at w
     rw [M]
     exact w.rot ⟨[i],z::r1,by simp,by simp⟩
    | [a,b],m=>
     simp at m;obtain ⟨rfl,rfl,rfl,rfl⟩:=m
     obtain ⟨H,I,B⟩:=c
     obtain ⟨J,K,E⟩:=G
     have A:=O (bR i j l) y z r1 (by simp at p;omega) ⟨by show y.1<=i.1 - j.1+l.1;omega,I,B⟩ w
     have e:bR (bR i j l) y z=bR i j (bR l y z):=iQ (by show i.1 - j.1+l.1 - y.1+z.1=i.1 - j.1+(l.1 - y.1+z.1);omega) rfl
     rw [e] at A
     exact .step (x:=i) (y:=j) (z:=bR l y z) (r:=r1) ⟨bR l y z::r1,[i,j],by simp,by simp⟩ ⟨J,by show j.1<=l.1 - y.1+z.1;omega,E⟩ A
    | a::b::d::v,m=>
     simp at m;obtain ⟨rfl,rfl,rfl,rfl⟩:=m
     have L:Fo (x::y::z::(r1++bR i j l::v)):=w.rot ⟨bR i j l::v,x::y::z::r1,by simp,by simp⟩
     have A:=O x y z _ (by simp at p ⊢;omega) c L
     have Q:Fo (bR i j l::(v++bR x y z::r1)):=A.rot ⟨bR x y z::r1,bR i j l::v,by simp,by simp⟩
     exact .step (x:=i) (y:=j) (z:=l) (r:=v++bR x y z::r1) ⟨bR x y z::r1,i::j::l::v,by simp,by simp⟩ G Q
theorem Fo.iff {l r:List Gm}{x y z:Gm}(R:Rot l (x::y::z::r))(a:l.length % 2=0)(c:oM x y z):Fo l↔Fo (bR x y z::r):=by
 refine ⟨fun F=>P5 (l.length / 2) x y z r ?_ c (F.rot R),fun F=>.step R c F⟩
 have:=R.len
 simp at this
 omega
noncomputable abbrev Wd:=Int×Bool×List Int
noncomputable def gm (w:Wd):Gm:=(w.1,w.2.1)
noncomputable def iR (x y z:Wd):Bool:=decide (y.1<=x.1)&&decide (y.1<=z.1)&&(y.2.1 != z.2.1)
theorem crB_iff {x y z:Wd}:iR x y z=true↔oM (gm x) (gm y) (gm z):=by
 unfold iR oM gm
 simp [and_assoc]
noncomputable def mX (w:Wd):Bool:=w.2.2.headD 0 % 2 == 1
noncomputable def fG (x y z:Wd):Wd:=(x.1 - y.1+z.1,x.2.1,if y.2.1 == mX y then x.2.2++y.2.2++z.2.2 else z.2.2++y.2.2++x.2.2)
noncomputable def oN (x y:Wd):Option (List Int):=if x.2.1 != y.2.1 then none else some (if x.2.1 == mX x then y.2.2++x.2.2 else x.2.2++y.2.2)
noncomputable def j7:List Wd->Bool
 | x::y::z::_=>iR x y z
 | _=>false
noncomputable def eZ (l:List Wd)(k:Nat):List Wd:=l.drop k++l.take k
noncomputable def fZ (l:List Wd):Option (List Wd):=((Td l.length).find? fun k=>j7 (eZ l k)).map (eZ l)
noncomputable def fH:Nat->List Wd->Option (List Int)
 | 0,_=>none
 | t+1,l=>if 2<l.length then (match fZ l with
   | some (x::y::z::r)=>fH t (fG x y z::r)
   | _=>none) else (match l with
   | [x,y]=>oN x y
   | _=>none)
theorem P6 {l:List Wd}(h:j7 l=true):∃ x y z r,l=x::y::z::r/\iR x y z=true:=by
 match l,h with
 | x::y::z::r,h=>exact ⟨x,y,z,r,rfl,h⟩
theorem P7 (l:List Wd)(k:Nat):Rot l (eZ l k):=⟨l.take k,l.drop k,by simp,rfl⟩
theorem DV {l a:List Wd}(h:fZ l=some a):Rot l a/\∃ x y z r,a=x::y::z::r/\iR x y z=true:=by
 unfold fZ at h
 obtain ⟨k,c,rfl⟩:=SA.mp h
 exact ⟨P7 l k,P6 (by simpa using List.find?_some c)⟩
theorem P8 {l:List Wd}(h:fZ l=none){x y z:Wd}{r:List Wd}(R:Rot l (x::y::z::r)):iR x y z=false:=by
 unfold fZ at h
 have d:=Za.mp (Option.map_eq_none_iff.mp h)
 obtain ⟨u,v,c,a⟩:=R
 cases hc:iR x y z with
 | false=>rfl
 | true=>
  exfalso
  match v,a with
  | [],a=>
   refine d 0 (Uh.mpr (by subst c;simp at a;rw [<- a];simp)) ?_
   subst c
   simp at a
   unfold eZ
   simp [<- a,j7,hc]
  | w::v,a=>
   refine d u.length (Uh.mpr (by subst c;simp)) ?_
   subst c
   unfold eZ
   simp only [List.drop_left,Z3,<- a]
   exact hc
theorem Rot.map {c i:Type}{l a:List c}(g:c->i)(h:Rot l a):Rot (l.map g) (a.map g):=by
 obtain ⟨u,v,d,e⟩:=h
 exact ⟨u.map g,v.map g,by rw [d];simp,by rw [e];simp⟩
theorem Rot.unmap {i j:Type}{l:List i}{m:List j}(g:i->j)(h:Rot (l.map g) m):∃ a,Rot l a/\a.map g=m:=by
 obtain ⟨u,v,p,q⟩:=h
 obtain ⟨c,d,e,n,o⟩:=List.map_eq_append_iff.mp p
 exact ⟨d++c,⟨c,d,e,rfl⟩,by rw [q];simp [n,o]⟩
theorem P9 (x y z:Wd):gm (fG x y z)=bR (gm x) (gm y) (gm z):=rfl
theorem Qa:∀ (t:Nat)(l:List Wd),l.length % 2=0->2<=l.length->l.length<=2 * t->((fH t l).isSome=true↔Fo (l.map gm)):=by
 intro t
 induction t with
 | zero=>intro l _ j p;omega
 | succ t s=>
  intro l q j p
  unfold fH
  by_cases a:2<l.length
  ·rw [if_pos a]
   cases n:fZ l with
   | none=>
    simp only [W7,SI,false_iff]
    intro F
    generalize hm:l.map gm=m at F
    cases F with
    | two h=>have:=congrArg Wa hm;simp at this;omega
    | step R c _=>
     rw [<- hm] at R
     obtain ⟨o,i,e⟩:=R.unmap
     match o,e with
     | x::y::z::r,e=>
      simp at e
      obtain ⟨rfl,rfl,rfl,rfl⟩:=e
      have:=P8 n i
      rw [crB_iff.mpr c] at this
      cases this
   | some o=>
    obtain ⟨R,x,y,z,r,rfl,c⟩:=DV n
    have d:=R.len
    simp only [SY] at d
    dsimp only
    rw [s _ (by simp only [SY];omega) (by simp only [SY];omega) (by simp only [SY];omega)]
    have i:=R.map gm
    simp only [SW] at i
    rw [Fo.iff i (by rw [Sx];exact q) (crB_iff.mp c)]
    rw [SW,P9]
  ·rw [if_neg a]
   match l,j,a with
   | [x,y],_,_=>
    dsimp only
    unfold oN
    by_cases e:x.2.1=y.2.1
    ·have:(x.2.1 != y.2.1)=false:=by simp [e]
     rw [this]
     simp only [SI,if_false,YI,true_iff]
     exact .two e
    ·have:(x.2.1 != y.2.1)=true:=by simp [e]
     rw [this]
     simp only [if_true,W7,SI,false_iff]
     intro F
     cases F with
     | two h=>exact e h
     | step R _ _=>have:=R.len;simp at this
   | _::_::_::_,_,a=>exact absurd (by simp) a
theorem Qb (x y z:Wd):(fG x y z).2.2.Perm (x.2.2++y.2.2++z.2.2):=by
 unfold fG
 dsimp only
 split
 ·exact YV _
 ·refine YC.trans ?_
  rw [T9]
  exact List.Perm.append_left _ YC
noncomputable def eM (gs:List Int)(bs:List Bool):List Wd:=(Td gs.length).map fun k=>(gs.getD k 0,bs.getD k false,[((k:Nat):Int)])
inductive All2 {α β:Type}(R:α->β->Prop):List α->List β->Prop
 | nil:All2 R [] []
 | cons {d:α}{w:β}{ds:List α}{l:List β}:R d w->All2 R ds l->All2 R (d::ds) (w::l)
section
variable {α β:Type}{R R':α->β->Prop}
theorem All2.mono (p:∀ d w,R d w->R' d w){ds:List α}{l:List β}(h:All2 R ds l):All2 R' ds l:=by
 induction h with
 | nil=>exact .nil
 | cons h _ a=>exact .cons (p _ _ h) a
theorem All2.len {ds:List α}{l:List β}(h:All2 R ds l):ds.length=l.length:=by
 induction h with
 | nil=>rfl
 | cons h _ a=>simp [a]
theorem All2.app {ds a:List α}{l c:List β}(h:All2 R ds l)(h':All2 R a c):All2 R (ds++a) (l++c):=by
 induction h with
 | nil=>exact h'
 | cons h _ d=>exact .cons h d
theorem All2.one {d:α}{w:β}(h:R d w):All2 R [d] [w]:=.cons h .nil
theorem All2.drop {ds:List α}{l:List β}(h:All2 R ds l):∀ k,All2 R (ds.drop k) (l.drop k):=by
 induction h with
 | nil=>intro k;simp;exact .nil
 | cons h t a=>intro k;cases k with
  | zero=>exact .cons h t
  | succ k=>exact a k
theorem All2.take {ds:List α}{l:List β}(h:All2 R ds l):∀ k,All2 R (ds.take k) (l.take k):=by
 induction h with
 | nil=>intro k;simp;exact .nil
 | cons h t a=>intro k;cases k with
  | zero=>exact .nil
  | succ k=>exact .cons h (a k)
theorem All2.get {ds:List α}{l:List β}(h:All2 R ds l):∀ (k:Nat)(d:α),ds[k]? = some d->∃ w,l[k]? = some w/\R d w:=by
 induction h with
 | nil=>intro k d e;simp at e
 | cons h t i=>intro k d e;cases k with
  | zero=>simp at e;subst e;exact ⟨_,rfl,h⟩
  | succ k=>simp at e;obtain ⟨w,a,c⟩:=i k d e;exact ⟨w,by simpa using a,c⟩
theorem All2.map {c:Type}{f:c->α}{g:c->β}:∀ {r:List c},(∀ k∈r,R (f k) (g k))->All2 R (r.map f) (r.map g)
 | [],_=>.nil
 | a::r,h=>.cons (h a UH) (All2.map fun k d=>h k (Ur _ d))
end
noncomputable def IsW (c:Hm)(d:D)(w:Wd):Prop:=∃ a,d=.tup [.int w.1,.str (cI w.2.1),.loc a]/\c[a]? = some (.lst (w.2.2.map D.int))/\w.2.2≠[]/\w.2.2.length<=8
noncomputable abbrev iS (a:Hm):List D->List Wd->Prop:=All2 (IsW a)
theorem IsW.mono {e c:Hm}(p:e <+: c){d:D}{w:Wd}:IsW e d w->IsW c d w:=fun ⟨a,h,i,j⟩=>⟨a,h,aK p i,j⟩
theorem DW {c a:Hm}(p:c <+: a){ds:List D}{l:List Wd}(h:iS c ds l):iS a ds l:=All2.mono (fun _ _=>IsW.mono p) h
theorem Qd {a:Hm}{ds:List D}{l:List Wd}(h:iS a ds l)(k:Nat):iS a (ds.drop k++ds.take k) (eZ l k):=(h.drop k).app (h.take k)
theorem DX {a:Hm}{ds:List D}{x y z:Wd}{r:List Wd}(h:iS a ds (x::y::z::r)):∃ d e dz c,ds=d::e::dz::c/\IsW a d x/\IsW a e y/\IsW a dz z/\iS a c r:=by
 cases h with
 | cons i h=>cases h with
  | cons j h=>cases h with
   | cons l h=>exact ⟨_,_,_,_,rfl,i,j,l,h⟩
theorem Qe {a:Hm}{ds:List D}{x y:Wd}(h:iS a ds [x,y]):∃ c d,ds=[c,d]/\IsW a c x/\IsW a d y:=by
 cases h with
 | cons e h=>cases h with
  | cons i h=>cases h;exact ⟨_,_,rfl,e,i⟩
theorem Qf {c:MT}{b:MS}{Q:Fl×aJ×Hm->Prop}(I:Nat->aJ->Hm->Prop)
  (w:∀ m a i,I m a i->W (c a i) fun p=>if p.1=true then W (b a p.2) fun q=>match q.1 with
   | .nx=>∃ e,e<m/\I e q.2.1 q.2.2
   | .ct=>∃ e,e<m/\I e q.2.1 q.2.2
   | .bk=>Q (.nx,q.2.1,q.2.2)
   | .rt d=>Q (.rt d,q.2.1,q.2.2) else Q (.nx,a,p.2)):∀ (n m:Nat)(a:aJ)(i:Hm),m<n->I m a i->W (lZ c b n a i) Q:=by
 intro n
 induction n with
 | zero=>intro m a i h;omega
 | succ n r=>
  intro m a i B v
  unfold lZ
  rw [W_bind]
  refine bM (w m a i v) fun p o=>?_
  obtain ⟨x,y⟩:=p
  cases x with
  | false=>exact W_some.mpr (by simpa using o)
  | true=>
   simp only [if_true] at o
   dsimp only
   rw [W_bind]
   refine bM o fun q j=>?_
   obtain ⟨s,A,z⟩:=q
   cases s with
   | nx=>obtain ⟨e,u,l⟩:=j;exact r e _ _ (by omega) l
   | ct=>obtain ⟨e,u,l⟩:=j;exact r e _ _ (by omega) l
   | bk=>exact W_some.mpr j
   | rt d=>exact W_some.mpr j
theorem DY {c:MT}{b:MS}{a:aJ}{e:Hm}{Q:Fl×aJ×Hm->Prop}(I:Nat->aJ->Hm->Prop)(m:Nat)(j:m<1000000000)(i:I m a e)
  (l:∀ m a e,I m a e->W (c a e) fun p=>if p.1=true then W (b a p.2) fun q=>match q.1 with
   | .nx=>∃ h,h<m/\I h q.2.1 q.2.2
   | .ct=>∃ h,h<m/\I h q.2.1 q.2.2
   | .bk=>Q (.nx,q.2.1,q.2.2)
   | .rt d=>Q (.rt d,q.2.1,q.2.2) else Q (.nx,a,p.2)):W (nO n6 c b a e) Q:=by
 unfold nO
 exact Qf I l n6 m a e (by unfold n6;exact j) i
theorem uF (xs:List D){j:Int}(h:0<=j/\j<=xs.length):e8 xs (some j) none=xs.drop j.toNat:=by
 unfold e8
 have a:HT.sIx xs.length 0 (some j)=j.toNat:=by
  show (if j<0 then (j+(xs.length:Int)).toNat else min j.toNat xs.length)=j.toNat
  rw [if_neg (by omega)];omega
 have c:HT.sIx xs.length xs.length none=xs.length:=HT.sIx_none _ _
 rw [a,c,UC (by rw [T8];exact SM _)]
theorem DZ (xs:List D){j:Int}(h:0<=j/\j<=xs.length):e8 xs none (some j)=xs.take j.toNat:=by
 unfold e8
 have a:HT.sIx xs.length 0 none=0:=HT.sIx_none _ _
 have c:HT.sIx xs.length xs.length (some j)=j.toNat:=by
  show (if j<0 then (j+(xs.length:Int)).toNat else min j.toNat xs.length)=j.toNat
  rw [if_neg (by omega)];omega
 rw [a,c,Wr,a0F]
theorem fJ {xs:List D}{i:Nat}{d:D}(h:xs[i]? = some d):atI xs (i:Int)=some d:=by
 unfold atI
 rw [jF (by omega) (by have:=(SH.mp h).1;omega),S1,show ((i:Int)).toNat=i by omega,h]
theorem D0 (a b:Bool):(cI a == cI b)=(a == b):=by cases a<;>cases b<;>kernel_rfl
theorem D1 (a:Bool):(cI a == "v")=a:=by cases a<;>kernel_rfl
theorem D2 {a b c:D}{d:Hm}{Q:D×Hm->Prop}:W (aL (.tup [a,b,c]) (.int 0) d) Q↔Q (a,d):=W_some
theorem oO {a b c:D}{d:Hm}{Q:D×Hm->Prop}:W (aL (.tup [a,b,c]) (.int 1) d) Q↔Q (b,d):=W_some
theorem qV {a b c:D}{d:Hm}{Q:D×Hm->Prop}:W (aL (.tup [a,b,c]) (.int 2) d) Q↔Q (c,d):=W_some
theorem Qg (k:Nat){a:Hm}{c d dz:D}{x y z:Wd}(h:IsW a c x)(i:IsW a d y)(j:IsW a dz z)(Q:D×Hm->Prop):W (f (k+1) "is_crimp" [c,d,dz] a) Q↔Q (.bl (iR x y z),a):=by
 obtain ⟨l,rfl,_⟩:=h
 obtain ⟨m,rfl,_⟩:=i
 obtain ⟨n,rfl,_⟩:=j
 rw [OJ,bV]
 simp only [bB,yN,aT,aF,aG,aO,D2,oO,NX,Dq,D0]
 have e:(!(y.2.1 == z.2.1))=(y.2.1 != z.2.1):=rfl
 rw [e]
 unfold iR
 cases decide (y.1<=x.1)<;>cases decide (y.1<=z.1)<;>simp
theorem D3 (k:Nat){e:Hm}{h:D}{x:Wd}(c:IsW e h x)(Q:D×Hm->Prop):W (f (k+1) "is_turned_part" [h] e) Q↔Q (.bl (mX x),e):=by
 obtain ⟨j,rfl,c,a,_⟩:=c
 obtain ⟨g,m,d⟩:=x
 dsimp only at *
 cases d with
 | nil=>exact absurd rfl a
 | cons o d=>
  rw [OL,bV]
  have i:atI ((o::d).map D.int) 0=some (.int o):=qT
  simp only [bB,aT,aF,aG,aO,qV,bT c i,jD,w_eqI]
  rfl
theorem Qh (k:Nat){a:Hm}{p q dz:D}{x y z:Wd}(m:IsW a p x)(i:IsW a q y)(n:IsW a dz z)(v:x.2.2.length+y.2.2.length+z.2.2.length<=8)(Q:D×Hm->Prop)
  (H:∀ d h,a <+: h->IsW h d (fG x y z)->Q (d,h)):W (f (k+2) "crimped" [p,q,dz] a) Q:=by
 have o:=i
 obtain ⟨r,rfl,m,nx,w⟩:=m
 obtain ⟨s,rfl,i,E,A⟩:=i
 obtain ⟨u,rfl,n,nz,B⟩:=n
 rw [OM,bV]
 simp only [bE,bQ,c9,b6,aT,aF,aG,aO,D2,oO,w_subI,w_addI,SD,SE,Dp,D1,aU,aI,aH,D3 k o,Dr]
 by_cases c:(y.2.1 == mX y)=true
 ·simp only [c,if_true,bB,qG,aI,aH,aT,aF,aG,aO,oO,qV]
  refine (gJ m i (by rw [Sx,Sx,S4];omega)).mpr ?_
  have j:=aQ a (C.lst (x.2.2.map D.int++y.2.2.map D.int))
  refine (gJ (bD _ _) (aK j n) (by rw [SU,Sx,Sx,Sx,S4];omega)).mpr ?_
  refine ⟨by show (3:Nat)<=SK;decide,?_⟩
  refine H _ _ (j.trans (aQ _ _)) ⟨_,rfl,?_,?_,?_⟩
  ·rw [bD]
   unfold fG
   simp only [c,if_true,Tn]
  ·unfold fG
   simp only [c,if_true]
   intro e
   exact nx (UW.mp (UW.mp e).1).1
  ·unfold fG
   simp only [c,if_true,SU]
   omega
 ·have l:(y.2.1 == mX y)=false:=by simpa using c
  simp only [l,SI,if_false,dF,bB,qG,aI,aH,aT,aF,aG,aO,oO,qV]
  refine (gJ n i (by rw [Sx,Sx,S4];omega)).mpr ?_
  have j:=aQ a (C.lst (z.2.2.map D.int++y.2.2.map D.int))
  refine (gJ (bD _ _) (aK j m) (by rw [SU,Sx,Sx,Sx,S4];omega)).mpr ?_
  refine ⟨by show (3:Nat)<=SK;decide,?_⟩
  refine H _ _ (j.trans (aQ _ _)) ⟨_,rfl,?_,?_,?_⟩
  ·rw [bD]
   unfold fG
   simp only [l,SI,if_false,Tn]
  ·unfold fG
   simp only [l,SI,if_false]
   intro e
   exact nz (UW.mp (UW.mp e).1).1
  ·unfold fG
   simp only [l,SI,if_false,SU]
   omega
noncomputable def zE (h c:Hm)(d:D):Option (List Int)->Prop
 | none=>d=.non
 | some e=>∃ a,d=.loc a/\h.length<=a/\c[a]? = some (.lst (e.map D.int))
theorem Qi (k:Nat){h:Hm}{l m:D}{x y:Wd}(e:IsW h l x)(i:IsW h m y)(Q:D×Hm->Prop)
  (H:∀ d a,h <+: a->zE h a d (oN x y)->Q (d,a)):W (f (k+2) "last_two" [l,m] h) Q:=by
 have j:=e
 obtain ⟨q,rfl,e,nx,s⟩:=e
 obtain ⟨r,rfl,i,v,u⟩:=i
 rw [ON,bV]
 simp only [bE,c9,b6,aT,aF,aG,aO,oO,Dq,D0]
 have o:(!(x.2.1 == y.2.1))=(x.2.1 != y.2.1):=rfl
 rw [o]
 unfold oN at H
 by_cases c:(x.2.1 != y.2.1)=true
 ·simp only [c,if_true,bB,aO] at H ⊢
  exact H _ _ (SV _) rfl
 ·have n:(x.2.1 != y.2.1)=false:=by simpa using c
  simp only [n,SI,if_false,dF,b6,aT,aF,aG,aO,oO,Dp,D1,aU,aI,aH,D3 k j,Dr] at H ⊢
  by_cases t:(x.2.1 == mX x)=true
  ·simp only [t,if_true,bB,aT,aF,aG,aO,qV] at H ⊢
   refine (gJ i e (by rw [Sx,Sx,S4];omega)).mpr ?_
   exact H _ _ (aQ _ _) ⟨_,rfl,SM _,by rw [bD,Tn]⟩
  ·have p:(x.2.1 == mX x)=false:=by simpa using t
   simp only [p,SI,if_false,dF,bB,aT,aF,aG,aO,qV] at H ⊢
   refine (gJ e i (by rw [Sx,Sx,S4];omega)).mpr ?_
   exact H _ _ (aQ _ _) ⟨_,rfl,SM _,by rw [bD,Tn]⟩
theorem Qj {l:List Wd}{i:Nat}(a:i<l.length)(h:j7 (eZ l i)=true)(d:∀ j,j<i->j7 (eZ l j)=false):fZ l=some (eZ l i):=by
 unfold fZ
 have:(Td l.length).find? (fun k=>j7 (eZ l k))=some i:=by
  rw [Yg]
  exact ⟨h,Uh.mpr a,fun j c=>by rw [d j c];rfl⟩
 rw [this];rfl
theorem Qk {l:List Wd}(c:∀ j,j<l.length->j7 (eZ l j)=false):fZ l=none:=by
 unfold fZ
 rw [Za.mpr fun k a=>by rw [c k (Uh.mp a)];simp]
 rfl
noncomputable def Ql (c:Hm)(d:D):Option (List Wd)->Prop
 | none=>d=.non
 | some l=>∃ a ds,d=.loc a/\c[a]? = some (.lst ds)/\iS c ds l
theorem Qm (k:Nat){u:Hm}{a:Nat}{ds:List D}{l:List Wd}(E:u[a]? = some (.lst ds))(hw:iS u ds l)(X:3<=l.length/\l.length<=8)(Q:D×Hm->Prop)
  (H:∀ d e,u <+: e->Ql e d (fZ l)->Q (d,e)):W (f (k+2) "brought_ahead" [.loc a] u) Q:=by
 have s:=hw.len
 rw [OK,bV]
 simp only [bE,j4,gI (j:=0),aU,aI,aH,aF]
 refine (cK E).mpr ?_
 refine ⟨by omega,?_⟩
 rw [s,show ((l.length:Nat):Int).toNat=l.length by omega]
 refine mO (lo:=0) (fun i B e=>u <+: e/\(∀ j,j<i->j7 (eZ l j)=false)/\∃ o1 A,B=[some (.loc a),o1,A]) ⟨SV _,fun j I=>absurd I (UQ _),none,none,rfl⟩ ?_ ?_
 ·rintro i B e M ⟨o,v,o1,A,rfl⟩
  refine ⟨_,rfl,?_⟩
  rw [show (0:Int)+(i:Int)=(i:Int) by omega]
  simp only [SD,SE,bE,bQ,aT]
  have q:=aK o E
  refine k8 ?_
  simp only [aF]
  refine ⟨a,rfl,?_⟩
  simp only [j5,jC,aF,aG]
  refine ⟨_,q,?_⟩
  rw [uF ds (show 0<=(i:Int)/\(i:Int)<=ds.length by omega)]
  refine k8 ?_
  simp only [aF]
  refine ⟨a,rfl,?_⟩
  simp only [j5,jC,aF,aG]
  refine ⟨_,aK (aQ _ _) q,?_⟩
  rw [DZ ds (show 0<=(i:Int)/\(i:Int)<=ds.length by omega),show ((i:Int)).toNat=i by omega]
  refine (gJ (aK (aQ _ _) (bD _ _)) (bD _ _) (by rw [T8,Tw,S4];omega)).mpr ?_
  have w:e <+: e++[C.lst (ds.drop i)]++[C.lst (ds.take i)]++[C.lst (ds.drop i++ds.take i)]:=(aQ _ _).trans ((aQ _ _).trans (aQ _ _))
  have n:=bD (e++[C.lst (ds.drop i)]++[C.lst (ds.take i)]) (C.lst (ds.drop i++ds.take i))
  generalize (e++[C.lst (ds.drop i)]++[C.lst (ds.take i)]).length=c at n ⊢
  generalize e++[C.lst (ds.drop i)]++[C.lst (ds.take i)]++[C.lst (ds.drop i++ds.take i)]=μ3 at w n ⊢
  have p:=Qd (DW (o.trans w) hw) i
  have m:(eZ l i).length=l.length:=by unfold eZ;rw [SU,T8,Tw];omega
  generalize hR:eZ l i=R at p m
  generalize ds.drop i++ds.take i=es at n p
  match R,m,p,hR with
  | x::y::z::r,m,p,hR=>
   obtain ⟨J,K,dz,U,rfl,N,O,T,L⟩:=DX p
   have G:j7 (eZ l i)=iR x y z:=by rw [hR];rfl
   simp only [SD,SE,c9,iO,aU,aI,aH,aT,aF,aG,aO]
   refine (bT n (fJ (i:=0) (d:=J) rfl)).mpr ?_
   refine (bT n (fJ (i:=1) (d:=K) rfl)).mpr ?_
   refine (bT n (fJ (i:=2) (d:=dz) rfl)).mpr ?_
   rw [Qg k N O T]
   simp only [w_truB]
   cases hc:iR x y z with
   | true=>
    simp only [if_true,bB,aF,aG]
    refine H _ _ (o.trans w) ?_
    rw [Qj M (by rw [G,hc]) v,hR]
    exact ⟨c,_,rfl,n,p⟩
   | false=>
    simp only [SI,if_false,dF]
    refine ⟨o.trans w,fun j I=>?_,_,_,rfl⟩
    by_cases h:j<i
    ·exact v j h
    ·have:j=i:=by omega
     subst this
     rw [G,hc]
  | [],m,_,_=>simp at m;omega
  | [_],m,_,_=>simp at m;omega
  | [_,_],m,_,_=>simp at m;omega
 ·rintro B e ⟨o,v,o1,A,rfl⟩
  simp only [bB,aO]
  refine H _ _ o ?_
  rw [Qk v]
  rfl
theorem Qn {bs:List Bool}{i:Nat}(a:i<bs.length):atI ((a8 bs).cps.toList) (i:Int)=some (cV (bs.getD i false)):=by
 unfold atI a8
 have:((bs.map cV).toArray.toList).length=bs.length:=by simp
 dsimp only
 rw [jF (by omega) (by rw [this];omega)]
 simp [U3,a]
theorem Qo {bs:List Bool}{i:Int}{a:Hm}{Q:D×Hm->Prop}(d:bs.length<=8)(c:0<=i/\i<bs.length):W (aL (.str (a8 bs)) (.int i) a) Q↔Q (.str (cI (bs.getD i.toNat false)),a):=by
 have:=Qn (bs:=bs) (i:=i.toNat) (by omega)
 rw [show ((i.toNat:Nat):Int)=i by omega] at this
 rw [yW (by show (a8 bs).length<=SK;rw [dH,S4];omega) this,<- k9]
theorem Qp (k:Nat){l:Hm}{a:Nat}{gs:List Int}{bs:List Bool}(p:l[a]? = some (.lst (gs.map D.int)))(v:gs.length<=8)(u:bs.length=gs.length)(Q:D×Hm->Prop)
  (H:∀ b ds c,l <+: c->c[b]? = some (.lst ds)->iS c ds (eM gs bs)->Q (.loc b,c)):W (f (k+1) "wedges_by" [.loc a,.str (a8 bs)] l) Q:=by
 rw [OI,bV]
 simp only [bB]
 refine Dv ?_
 refine t8 ?_
 simp only [aI,aH,aF]
 refine ⟨a,_,rfl,p,?_⟩
 let s:Nat->D:=fun j=>.tup [.int (gs.getD j 0),.str (cI (bs.getD j false)),.loc (l.length+1+j)]
 refine ⟨gs.length,fun i o c=>o=(Td i).map s/\l <+: c/\c.length=l.length+1+i/\∀ j,j<i->c[l.length+1+j]? = some (.lst [.int ((j:Nat):Int)]),by rw [Sx],by rw [S4];omega,?_,?_,?_,?_⟩
 ·rintro i o c ⟨rfl,_⟩;simp
 ·exact ⟨rfl,aQ _ _,by simp,fun j m=>absurd m (UQ _)⟩
 ·rintro i o c r ⟨rfl,n,e,hc⟩ d
  have q:(gs.map D.int)[i]? = some (.int (gs.getD i 0)):=by
   rw [Tr,SN r]
   simp [U3,r]
  refine ⟨.tup [.int (i:Int),.int (gs.getD i 0)],[some (.int (i:Int)),some (.int (gs.getD i 0))],?_,rfl,?_⟩
  ·rw [yU p c i n,qM,q]
   simp
  ·rw [w_mTrue]
   refine ⟨fun h=>(by cases h),fun _=>?_⟩
   simp only [S2,S5,qG,aI,aH,aT,aF,aG,dA]
   rw [Qo (by omega) (by omega)]
   refine ⟨qN,by show (3:Nat)<=SK;decide,aK (aQ _ _) d,?_,eW (n.trans (aQ _ _)) (SM _) _,by rw [T4,SU,e];rfl,fun j m=>?_⟩
   ·rw [XF,Tn,show ((i:Int)).toNat=i by omega,e]
    rfl
   ·rw [TR (by omega)]
    by_cases h:j<i
    ·exact aK (aQ _ _) (hc j h)
    ·have:j=i:=by omega
     subst this
     rw [<- e,bD]
 ·rintro o c ⟨rfl,n,e,hc⟩ d
  refine ⟨?_,H _ _ _ n d ?_⟩
  ·rw [yU p c _ n,qM]
   simp
  ·unfold eM
   refine All2.map fun j m=>?_
   have m:=Uh.mp m
   exact ⟨_,rfl,by rw [hc j m];rfl,by simp,by simp⟩
noncomputable def jH (l:List Wd):Nat:=(l.map fun w=>w.2.2.length).sum
theorem Qq {l a:List Wd}(R:Rot l a):jH l=jH a:=by
 obtain ⟨u,v,rfl,rfl⟩:=R
 unfold jH;simp;omega
theorem Qr (x y z:Wd)(r:List Wd):jH (fG x y z::r)=jH (x::y::z::r):=by
 have:(fG x y z).2.2.length=x.2.2.length+y.2.2.length+z.2.2.length:=by rw [(Qb x y z).length_eq];simp [a0u]
 unfold jH
 simp only [SW,Xa,this]
 omega
theorem Qs (gs:List Int)(bs:List Bool):jH (eM gs bs)=gs.length:=by
 unfold jH eM
 rw [Tv]
 have:((Td gs.length).map ((fun w:Wd=>w.2.2.length) ∘ fun k=>(gs.getD k 0,bs.getD k false,[((k:Nat):Int)])))=(Td gs.length).map fun _=>1:=rfl
 rw [this]
 have one:∀ r:List Nat,(r.map fun _=>1).sum=r.length:=fun r=>by
  induction r with
  | nil=>rfl
  | cons a r c=>rw [SW,Xa,c,SY,a0H]
 rw [one,Wv]
theorem Qt {t:Nat}{l:List Wd}(h:2<l.length):fH (t+1) l=match fZ l with
  | some (x::y::z::r)=>fH t (fG x y z::r)
  | _=>none:=by
 conv=>lhs;unfold fH
 rw [if_pos h]
 all_goals (generalize fZ l=o;rcases o with _|(_|⟨_,_|⟨_,_|⟨_,_⟩⟩⟩)<;>rfl)
theorem D4 (k:Nat){B:Hm}{a:Nat}{gs:List Int}{bs:List Bool}(ha:B[a]? = some (.lst (gs.map D.int)))(hG:GoodG gs)(hb:bs.length=gs.length)(Q:D×Hm->Prop)
  (H:∀ d h,B <+: h->zE B h d (fH 4 (eM gs bs))->Q (d,h)):W (f (k+3) "folded_order" [.loc a,.str (a8 bs)] B) Q:=by
 have hl:=hG.len
 have hrg:=hG.rgl
 rw [OO,bV]
 simp only [bE,bQ,aU,aI,aH,aF,aG]
 refine Qp _ ha (by omega) hb _ fun b ds μ1 p1 g1 W1=>?_
 simp only [SD,SE]
 have hwl:(eM gs bs).length=gs.length:=by unfold eM;simp
 refine DY (fun m ρ h=>B <+: h/\m<=4/\∃ b ds l o,ρ=[some (.loc a),some (.str (a8 bs)),some (.loc b),o]/\h[b]? = some (.lst ds)/\iS h ds l/\l.length % 2=0/\2<=l.length/\l.length<=2 * m/\jH l<=8/\fH m l=fH 4 (eM gs bs)) 4 (by decide)
  ⟨p1,SM _,b,ds,eM gs bs,none,rfl,g1,W1,by omega,by omega,by omega,by rw [Qs];omega,rfl⟩ ?_
 rintro m ρ h ⟨K,hm4,b,ds,l,o,rfl,J,hw,he,M,ht,hs,j⟩
 have hlen:=hw.len
 obtain ⟨t,rfl⟩:∃ t,m=t+1:=⟨m - 1,by omega⟩
 simp only [b6,aT,aU,aI,aH,aF,aG,aO]
 refine (cK J).mpr ?_
 simp only [w_gtI]
 by_cases s:2<l.length
 ·have e:decide ((2:Int)<(ds.length:Int))=true:=decide_eq_true (by omega)
  simp only [e,if_true,bE,bQ,aU,aI,aH,aF,aG]
  refine Qm _ J hw ⟨by omega,by omega⟩ _ fun d E L A=>?_
  rw [Qt s] at j
  cases T:fZ l with
  | none=>
   rw [T] at A j
   have A:d=.non:=A
   subst A
   simp only [SD,SE,c9,b6,aT,aF,aG,aO,N6,if_true,bB]
   refine H _ _ (K.trans L) ?_
   rw [<- j]
   rfl
  | some l'=>
   rw [T] at A j
   obtain ⟨c,es,rfl,I,U⟩:=A
   obtain ⟨R,x,y,z,r,rfl,hc⟩:=DV T
   have Y:=R.len
   simp only [SY] at Y
   have v:=Qq R
   have w:x.2.2.length+y.2.2.length+z.2.2.length<=8:=by
    unfold jH at v hs
    simp only [SW,Xa] at v
    omega
   obtain ⟨p,q,dz,i,rfl,Z,hy,hz,u⟩:=DX U
   have hdl:=u.len
   simp only [SD,SE,c9,b6,aT,aF,aG,aO,N7,SI,if_false,dF,bQ,dA,aI,aH,aU]
   refine (bT I (fJ (i:=0) (d:=p) rfl)).mpr ?_
   refine (bT I (fJ (i:=1) (d:=q) rfl)).mpr ?_
   refine (bT I (fJ (i:=2) (d:=dz) rfl)).mpr ?_
   refine Qh _ Z hy hz w _ fun G n p3 N=>?_
   refine ⟨qN,?_⟩
   refine k8 ?_
   simp only [aF,aG]
   refine ⟨c,rfl,?_⟩
   simp only [j5,jC,aO]
   refine ⟨_,aK (p3.trans (aQ _ _)) I,?_⟩
   rw [uF (p::q::dz::i) (show (0:Int)<=3/\(3:Int)<=(p::q::dz::i).length by simp only [SY];omega)]
   have e3:(p::q::dz::i).drop (3:Int).toNat=i:=rfl
   rw [e3]
   refine (gJ (aK (aQ _ _) (bD _ _)) (bD _ _) (by rw [S4];simp only [SY,WN];omega)).mpr ?_
   have q4:E <+: n++[C.lst [G]]++[C.lst i]++[C.lst ([G]++i)]:=p3.trans ((aQ _ _).trans ((aQ _ _).trans (aQ _ _)))
   have q3:n <+: n++[C.lst [G]]++[C.lst i]++[C.lst ([G]++i)]:=(aQ _ _).trans ((aQ _ _).trans (aQ _ _))
   refine ⟨t,UY _,K.trans (L.trans q4),by omega,_,_,fG x y z::r,_,rfl,bD _ _,.cons (N.mono q3) (DW q4 u),by simp only [SY];omega,by simp only [SY];omega,by simp only [SY];omega,by rw [Qr];omega,j⟩
 ·have e:decide ((2:Int)<(ds.length:Int))=false:=decide_eq_false (by omega)
  simp only [e,SI,if_false,bB,aU,aI,aH,aT,aF,aG,aO]
  match l,M,s,hw,j with
  | [x,y],_,_,hw,j=>
   obtain ⟨p,q,rfl,Z,hy⟩:=Qe hw
   refine (bT J (fJ (i:=0) (d:=p) rfl)).mpr ?_
   refine (bT J (fJ (i:=1) (d:=q) rfl)).mpr ?_
   refine Qi _ Z hy _ fun d E L O=>?_
   refine H _ _ (K.trans L) ?_
   rw [<- j]
   have:fH (t+1) [x,y]=oN x y:=by unfold fH;rw [if_neg (by simp)]
   rw [this]
   have X:=qE K
   cases hL:oN x y with
   | none=>rw [hL] at O;exact O
   | some os=>
    rw [hL] at O
    obtain ⟨b',h1,M,s⟩:=O
    exact ⟨b',h1,TX X M,s⟩
  | _::_::_::_,_,s,_,_=>exact absurd (by simp) s
theorem zF {bs:List Bool}{a:Hm}{Q:D×Hm->Prop}(h:bs.length<=8):W (bH [.str (a8 bs)] a) Q↔Q (.int bs.length,a):=by
 have e:bH [.str (a8 bs)] a=some (.int bs.length,a):=by
  show (if (a8 bs).length<=SK then some (D.int (a8 bs).length,a) else none)=_
  rw [if_pos (by rw [dH,S4];omega),dH]
 rw [e]
 exact W_some
theorem uG {x y:Str}{a:Hm}{Q:D×Hm->Prop}:W (gZ (.str x) [.str y] a) Q↔Q (.int (T3 x y 0 x.length (x.length+1)).length,a):=W_some
noncomputable def qW:Nat->List (List Bool)
 | 0=>[[]]
 | n+1=>(qW n).flatMap fun r=>[false::r,true::r]
theorem zG:∀ bs:List Bool,bs∈qW bs.length
 | []=>by simp [qW]
 | b::bs=>by
  unfold qW
  refine List.mem_flatMap.mpr ⟨bs,zG bs,?_⟩
  cases b<;>simp
noncomputable def qX (bs:List Bool):Bool:=((T3 (a8 bs) "h" 0 (a8 bs).length ((a8 bs).length+1)).length+(T3 (a8 bs) "v" 0 (a8 bs).length ((a8 bs).length+1)).length == bs.length)
theorem D5:([2,4,6,8].all fun n=>(qW n).all qX)=true:=by decide +kernel
theorem Qu (k:Nat){c:Hm}{a:Nat}{gs:List Int}{bs:List Bool}(j:c[a]? = some (.lst (gs.map D.int)))(d:GoodG gs)(i:bs.length=gs.length)(Q:D×Hm->Prop):Q (.non,c)->W (f (k+1) "check_row" [.loc a,.str (a8 bs)] c) Q:=fun H=>by
 have l:=d.len
 have m:=d.rgl
 have hc:qX bs=true:=by
  have:=TJ.mp D5 bs.length (by rw [i];rcases l with h|h|h|h<;>rw [h]<;>decide)
  exact TJ.mp this bs (zG bs)
 unfold qX at hc
 rw [beq_iff_eq] at hc
 rw [OH,bV]
 simp only [c9,kZ,b6,aT,aU,aI,aH,aF,aG,aO]
 rw [zF (by omega),cK j]
 simp only [w_neI,Sx,i,beq_self_eq_true,UK,SI,if_false,b6,aT,aF,aG]
 refine oG ?_
 simp only [aF,aG]
 refine ⟨_,rfl,?_⟩
 simp only [aI,aH,aO,uG]
 refine oG ?_
 simp only [aF,aG]
 refine ⟨_,rfl,?_⟩
 simp only [aI,aH,aO,uG,w_addI,aU,aF,aG]
 rw [zF (by omega)]
 simp only [w_neI]
 have e:((((T3 (a8 bs) "h" 0 (a8 bs).length ((a8 bs).length+1)).length:Nat):Int)+(((T3 (a8 bs) "v" 0 (a8 bs).length ((a8 bs).length+1)).length:Nat):Int) == ((bs.length:Nat):Int))=true:=by
  rw [beq_iff_eq]
  omega
 rw [e]
 simp only [UK,SI,if_false,dF]
 exact H
theorem Qv (k:Nat){h:Hm}{a:Nat}{gs:List Int}{bs:List Bool}(j:h[a]? = some (.lst (gs.map D.int)))(i:GoodG gs)(n:bs.length=gs.length)(Q:D×Hm->Prop)
  (H:∀ d c,h <+: c->zE h c d (fH 4 (eM gs bs))->Q (d,c)):W (f (k+4) "order_for" [.loc a,.str (a8 bs)] h) Q:=by
 rw [OP,bV]
 simp only [bE,d6,aU,aI,aH,aF,aG]
 refine oK _ a gs i _ _ j fun u e=>?_
 dsimp only
 refine Qu _ (aK e j) i n _ ?_
 simp only [bB,aU,aI,aH,aF,aG]
 refine D4 _ (aK e j) i n _ fun d v s O=>?_
 refine H _ _ (e.trans s) ?_
 have l:=qE e
 cases m:fH 4 (eM gs bs) with
 | none=>rw [m] at O;exact O
 | some w=>
  rw [m] at O
  obtain ⟨o,p,q,r⟩:=O
  exact ⟨o,p,TX l q,r⟩
theorem Qw {c:Hm}{a:Nat}{is:List Int}{Q:D×Hm->Prop}(h:c[a]? = some (.lst (is.map D.int)))(d:0<is.length):W (jZ [.loc a] c) Q↔Q (.int (g7 is),c):=by
 have e:jZ [.loc a] c=some (.int (g7 is),c):=by
  simp only [jZ,tG,eQ,h,S1,qL,if_pos d]
 rw [e]
 exact W_some
theorem D6 {c:Hm}{a:Nat}{is:List Int}{Q:D×Hm->Prop}(h:c[a]? = some (.lst (is.map D.int)))(d:0<is.length):W (i7 [.loc a] c) Q↔Q (.int (eT is),c):=by
 have e:i7 [.loc a] c=some (.int (eT is),c):=by
  simp only [i7,tH,eQ,h,S1,qL,if_pos d]
 rw [e]
 exact W_some
theorem Fo.mid {A B:List Gm}{x y z:Gm}(a:(A++x::y::z::B).length % 2=0)(c:oM x y z):Fo (A++x::y::z::B)↔Fo (A++bR x y z::B):=by
 have R:Rot (A++x::y::z::B) (x::y::z::(B++A)):=⟨A,x::y::z::B,rfl,by simp⟩
 have R2:Rot (A++bR x y z::B) (bR x y z::(B++A)):=⟨A,bR x y z::B,rfl,by simp⟩
 rw [Fo.iff R a c]
 exact ⟨fun h=>h.rot R2.symm,fun h=>h.rot R2⟩
noncomputable def bY (a Y:Int):List Bool->List Gm
 | []=>[]
 | [m]=>[(Y,m)]
 | m::n::r=>(a,m)::bY a Y (n::r)
theorem oP (a Y:Int):∀ c:List Bool,(bY a Y c).length=c.length
 | []=>rfl
 | [_]=>rfl
 | _::n::r=>by simp [bY,oP a Y (n::r)]
theorem qY (a Y:Int):∀ (u v:List Bool),v≠[]->bY a Y (u++v)=u.map (fun m=>(a,m))++bY a Y v
 | [],v,_=>rfl
 | [m],v,h=>by
  cases v with
  | nil=>exact absurd rfl h
  | cons n r=>rfl
 | m::n::u,v,h=>by
  show (a,m)::bY a Y (n::u++v)=_
  rw [qY a Y (n::u) v h]
  rfl
noncomputable def b7:List Bool->Int
 | []=>0
 | b::r=>(if b then 1 else -1)+b7 r
theorem zH:∀ u v:List Bool,b7 (u++v)=b7 u+b7 v
 | [],v=>by simp [b7]
 | b::u,v=>by simp only [S2,b7,zH u v];omega
theorem D7 (u v:List Bool){b c:Bool}(h:b≠c):b7 (u++b::c::v)=b7 (u++v):=by
 rw [zH,zH]
 cases b<;>cases c<;>simp_all [b7]<;>omega
theorem zI (s:Bool):∀ j:Nat,b7 (Sz j s)=if s then (j:Int) else -(j:Int)
 | 0=>by cases s<;>simp [b7]
 | j+1=>by
  rw [Te]
  simp only [b7,zI s j]
  cases s<;>simp<;>omega
theorem zJ:∀ a:List Bool,(∃ u b c v,a=u++b::c::v/\b≠c)\/∃ j s,a=Sz j s
 | []=>.inr ⟨0,true,rfl⟩
 | [b]=>.inr ⟨1,b,rfl⟩
 | b::c::r=>by
  by_cases h:b=c
  ·subst h
   rcases zJ (b::r) with ⟨u,d,i,v,e,ne⟩|⟨j,s,e⟩
   ·exact .inl ⟨b::u,d,i,v,by rw [e];rfl,ne⟩
   ·cases j with
    | zero=>cases e
    | succ j=>
     rw [Te] at e
     injection e with e1 e2
     subst e1
     exact .inr ⟨j+2,b,by rw [e2];rfl⟩
  ·exact .inl ⟨[],b,c,r,rfl,h⟩
theorem D8 {R u v:List Bool}{P:List Gm}{X:Gm}{a Y:Int}{b c:Bool}(p:b≠c)(q:a<=X.1)(s:a<=Y)(i:u++v≠[])(l:(P++[X]++bY a Y (u++b::c::v)).length % 2=0) :
  Fo (P++[X]++bY a Y (u++b::c::v))↔Fo (P++[X]++bY a Y (u++v)):=by
  -- what stands d of the two
 have d:∃ A x,P++[X]++u.map (fun m=>(a,m))=A++[x]/\a<=x.1:=by
  cases j:u.reverse with
  | nil=>
   have:u=[]:=by simpa using j
   subst this
   exact ⟨P,X,by simp,q⟩
  | cons m w=>
   have:u=w.reverse++[m]:=by
    have:=congrArg Yl j
    simpa using this
   subst this
   exact ⟨P++[X]++w.reverse.map (fun m=>(a,m)),(a,m),by simp,XI _⟩
 obtain ⟨A,x,e,y⟩:=d
 cases v with
 | cons n r=>
  have h:P++[X]++bY a Y (u++b::c::n::r)=A++x::(a,b)::(a,c)::bY a Y (n::r):=by
   rw [qY _ _ _ _ (by simp),<- T9,e]
   simp [bY]
  have o:P++[X]++bY a Y (u++n::r)=A++x::bY a Y (n::r):=by
   rw [qY _ _ _ _ (by simp),<- T9,e]
   simp
  rw [h] at l
  rw [h,o,Fo.mid l ⟨y,XI _,p⟩]
  have:bR x (a,b) (a,c)=x:=iQ (by show x.1 - a+a=x.1;omega) rfl
  rw [this]
 | nil=>
  rw [Um] at i ⊢
  obtain ⟨w,m,rfl⟩:∃ w m,u=w++[m]:=by
   cases j:u.reverse with
   | nil=>exact absurd (by simpa using j) i
   | cons m w=>exact ⟨w.reverse,m,by have:=congrArg Yl j;simpa using this⟩
  have h:P++[X]++bY a Y (w++[m]++b::c::[])=(P++[X]++w.map (fun m=>(a,m)))++(a,m)::(a,b)::(Y,c)::[]:=by
   rw [qY _ _ _ _ (by simp)]
   simp [bY]
  have o:P++[X]++bY a Y (w++[m])=(P++[X]++w.map (fun m=>(a,m)))++[(Y,m)]:=by
   rw [qY _ _ _ _ (by simp)]
   simp [bY]
  rw [h] at l
  rw [h,o,Fo.mid l ⟨XI _,s,p⟩]
  have:bR (a,m) (a,b) (Y,c)=(Y,m):=iQ (by show a - a+Y=Y;omega) rfl
  rw [this]
theorem Qx {P:List Gm}{X:Gm}{a Y:Int}{b c:Bool}(i:b≠c)(d:a<=X.1)(h:a<=Y)(j:P.length % 2=1) :
  Fo (P++[X]++bY a Y [b,c])↔Fo (P++[(X.1 - a+Y,X.2)]):=by
 have e:P++[X]++bY a Y [b,c]=P++X::(a,b)::(Y,c)::[]:=by simp [bY]
 rw [e,Fo.mid (by simp;omega) ⟨d,h,i⟩]
 rfl
theorem lD:∀ u v:List Int,bI (u++v)=bI u+(if u.length % 2=0 then bI v else -(bI v))
 | [],v=>by simp [bI]
 | g::u,v=>by
  simp only [S2,bI,lD u v,SY]
  by_cases h:u.length % 2=0
  ·rw [if_pos h,if_neg (by omega)];omega
  ·rw [if_neg h,if_pos (by omega)];omega
theorem zK (p q:List Int)(x y z:Int):bI (p++x::y::z::q)=bI (p++(x - y+z)::q):=by
 rw [lD,lD]
 simp only [bI]
 split<;>omega
theorem Qy {c:Type}{n:Nat}{e:c}{u v:List c}(h:Sz n e=u++v):(∀ x∈u,x=e)/\∀ x∈v,x=e:=
 ⟨fun x a=>(Y7.mp (h ▸ T7.mpr (.inl a))).2,fun x a=>(Y7.mp (h ▸ T7.mpr (.inr a))).2⟩
theorem Qz {l:List Gm}(F:Fo l):∀ {X:Gm}{a Y:Int}{s:Bool}{j:Nat}{rest:List Gm},Rot l (X::(Sz (j+1) (a,s)++(Y,s)::rest))->a<X.1->a<Y->l.length % 2=0->
  bI ((X::(Sz (j+1) (a,s)++(Y,s)::rest)).map (·.1))=0->False:=by
 induction F with
 | two h=>
  intro X a Y s j rest R _ _ _ _
  have:=R.len
  simp at this
  omega
 | @step l r x y z R c F' M=>
  intro X a Y s j rest R2 hX hY he I
  obtain ⟨u,v,G,p⟩:=R2.symm.trans R
  obtain ⟨N,O,Q⟩:=c
  have hl:(bR x y z::r).length % 2=0:=by
   have:=R.len
   simp at this
   simp
   omega
  have E:x::y::z::r=X::(Sz (j+1) (a,s)++(Y,s)::rest)->False:=fun e=>by
   cases j with
   | zero=>
    simp at e
    obtain ⟨_,o,i,_⟩:=e
    exact Q (by rw [o,i])
   | succ j=>
    simp [Te] at e
    obtain ⟨_,o,i,_⟩:=e
    exact Q (by rw [o,i])
    -- from Y on
  have B:∀ t T:List Gm,(Y,s)::rest=t++T->x::y::z::r=T++X::(Sz (j+1) (a,s)++t)->False:=fun t T q d=>by
   match t,q with
   | [],q=>
    rw [S5] at q
    subst q
    rw [Um] at d
    match rest,d with
    | [],d=>
     simp [Te] at d
     obtain ⟨_,o,i,_⟩:=d
     rw [o,i] at O
     exact absurd O (by show ¬ X.1<=a;omega)
    | [y1],d=>
     simp at d
     obtain ⟨H,o,i,m⟩:=d
     subst H o i
     have hL:=R2.len
     simp at hL
     rw [SW,Tn] at I
     simp only [bI,lD,SW,Wm,Sx,Ue] at I
     have L:∀ n:Nat,bI ((Sz n ((a,s):Gm)).map (·.1))=if n % 2=0 then 0 else a:=fun n=>by
      induction n with
      | zero=>rfl
      | succ n M=>
       rw [Te,SW]
       simp only [bI,M]
       split<;>split<;>omega
     rw [L,if_neg (by omega),if_neg (by omega)] at I
     have U:y.1<=Y:=N
     omega
    | y1::z1::r1,d=>
     simp at d
     obtain ⟨H,o,i,m⟩:=d
     subst H o i
     have U:y.1<=Y:=N
     refine M (X:=X) (a:=a) (Y:=Y - y.1+z.1) (s:=s) (j:=j) (rest:=r1) ?_ hX (by omega) hl ?_
     ·rw [m]
      exact ⟨bR (Y,s) y z::r1,X::Sz (j+1) (a,s),by simp,by simp [bR]⟩
     ·rw [<- I]
      have:=zK ((X::Sz (j+1) ((a,s):Gm)).map (·.1)) (r1.map (·.1)) Y y.1 z.1
      simp only [SW,Tn,S2] at this ⊢
      exact this.symm
   | _::t',q=>
    simp at q
    obtain ⟨rfl,q⟩:=q
    match T,d with
    | [],d=>
     rw [Um] at q
     subst q
     exact E d
    | [x'],d=>
     simp [Te] at d
     obtain ⟨_,o,i,_⟩:=d
     rw [o,i] at O
     exact absurd O (by show ¬ X.1<=a;omega)
    | [x',y'],d=>
     simp at d
     obtain ⟨H,o,i,m⟩:=d
     subst H o i q
     refine M (X:=bR x y z) (a:=a) (Y:=Y) (s:=s) (j:=j) (rest:=t') ?_ (by show a<x.1 - y.1+z.1;omega) hY hl ?_
     ·rw [m]
      exact .re
     ·have hL:=R2.len
      simp at hL
      have e5:(z::(Sz (j+1) ((a,s):Gm)++(Y,s)::(t'++[x,y]))).map (·.1)=z.1::((Sz (j+1) ((a,s):Gm)++(Y,s)::t').map (·.1)++[x.1,y.1]):=by simp
      rw [e5] at I
      simp only [bI,lD] at I
      rw [if_neg (by simp;omega)] at I
      have h6:x.1 - y.1+z.1 - bI ((Sz (j+1) ((a,s):Gm)++(Y,s)::t').map (·.1))=0:=by omega
      exact h6
    | x'::y'::z'::w,d=>
     simp at d
     obtain ⟨H,o,i,m⟩:=d
     subst H o i q
     refine M (X:=X) (a:=a) (Y:=Y) (s:=s) (j:=j) (rest:=t'++bR x y z::w) ?_ hX hY hl ?_
     ·rw [m]
      exact ⟨bR x y z::w,X::(Sz (j+1) (a,s)++(Y,s)::t'),by simp,by simp⟩
     ·rw [<- I]
      have:=zK ((X::(Sz (j+1) ((a,s):Gm)++(Y,s)::t')).map (·.1)) (w.map (·.1)) x.1 y.1 z.1
      simp only [SW,Tn,S2,T9] at this ⊢
      exact this.symm
  match u,G with
  | [],G=>
   rw [S5] at G
   rw [Um,<- G] at p
   exact E p
  | _::u',G=>
   rw [S2] at G
   injection G with H G
   subst H
   rcases X9.mp G with ⟨t,i,m⟩|⟨t,i,m⟩
   ·-- u'=A++t
    exact B t v m (by rw [p,i])
   ·obtain ⟨hu,ht⟩:=Qy i
    match t,m with
    | [],m=>
     rw [Um] at i
     rw [S5] at m
     exact B [] v m.symm (by rw [p,<- i,Um])
    | [e],m=>
     subst m
     simp at p
     obtain ⟨g1,J,_⟩:=p
     have:=ht e (by simp)
     rw [g1,J,this] at N
     exact absurd N (by show ¬ Y<=a;omega)
    | e::e'::t',m=>
     subst m
     have K:=ht e' (by simp)
     match t',p with
     | [],p=>
      simp at p
      obtain ⟨_,J,Z,_⟩:=p
      exact Q (by rw [J,Z,K])
     | e''::t'',p=>
      simp at p
      obtain ⟨_,J,Z,_⟩:=p
      exact Q (by rw [J,Z,K,ht e'' (by simp)])
theorem zL (a Y:Int):∀ c:List Bool,c≠[]->(bY a Y c).map (·.1)=Sz (c.length - 1) a++[Y]
 | [],h=>absurd rfl h
 | [m],_=>rfl
 | m::n::r,_=>by
  show a::(bY a Y (n::r)).map (·.1)=_
  rw [zL a Y (n::r) (by simp)]
  simp [Te]
theorem qZ (p:List Int)(a:Int)(k:Nat)(q:List Int):bI (p++(Sz (k+2) a++q))=bI (p++(Sz k a++q)):=by
 rw [lD p,lD p,Te,Te,S2,S2]
 simp only [bI]
 split<;>omega
theorem D9 {u v:List Int}(c:(u++v).length % 2=0)(h:bI (u++v)=0):bI (v++u)=0:=by
 rw [SU] at c
 rw [lD] at h ⊢
 by_cases a:u.length % 2=0
 ·rw [if_pos a] at h
  rw [if_pos (by omega)]
  omega
 ·rw [if_neg a] at h
  rw [if_neg (by omega)]
  omega
theorem Ea (a Y:Int)(s:Bool):∀ j:Nat,bY a Y (Sz (j+1) s)=Sz j (a,s)++[(Y,s)]
 | 0=>rfl
 | j+1=>by
  show (a,s)::bY a Y (Sz (j+1) s)=_
  rw [Ea a Y s j,Te]
  rfl
theorem Eb {P:List Gm}{X:Gm}{a Y:Int}{s:Bool}{j:Nat}(d:a<X.1)(h:a<Y)(c:(P++[X]++bY a Y (Sz (j+2) s)).length % 2=0)(hA:bI ((P++[X]++bY a Y (Sz (j+2) s)).map (·.1))=0) :
  ¬ Fo (P++[X]++bY a Y (Sz (j+2) s)):=fun F=>by
 rw [Ea] at F c hA
 refine Qz F (X:=X) (a:=a) (Y:=Y) (s:=s) (j:=j) (rest:=P) ⟨P,X::(Sz (j+1) (a,s)++[(Y,s)]),by simp,by simp⟩ d h c ?_
 have e:(X::(Sz (j+1) ((a,s):Gm)++(Y,s)::P)).map (·.1)=(X::(Sz (j+1) ((a,s):Gm)++[(Y,s)])).map (·.1)++P.map (·.1):=by simp
 rw [e]
 refine D9 ?_ ?_
 ·rw [<- Tn,Sx]
  simpa using c
 ·rw [<- hA,<- Tn]
  simp
theorem Ec {P:List Gm}{X:Gm}{a Y:Int}{u v:List Bool}{b c:Bool}(d:u++v≠[])(hA:bI ((P++[X]++bY a Y (u++b::c::v)).map (·.1))=0):bI ((P++[X]++bY a Y (u++v)).map (·.1))=0:=by
 rw [Tn,zL _ _ _ (by simp)] at hA
 rw [Tn,zL _ _ _ d]
 have e:(u++b::c::v).length - 1=((u++v).length - 1)+2:=by
  have:0<(u++v).length:=List.length_pos_iff.mpr d
  simp at this ⊢
  omega
 rw [e,qZ] at hA
 exact hA
theorem Ed {P:List Gm}{X:Gm}{a Y:Int}(i:a<X.1)(l:a<Y):∀ (n:Nat)(d:List Bool),d.length<=n->d.length % 2=0->d≠[]->(P++[X]++bY a Y d).length % 2=0->bI ((P++[X]++bY a Y d).map (·.1))=0->
  (Fo (P++[X]++bY a Y d)↔b7 d=0/\Fo (P++[(X.1 - a+Y,X.2)]))
 | 0,d,h,_,h0,_,_=>absurd (VG.mp (a1b.mp h)) h0
 | n+1,d,h,he,h0,hn,hA=>by
  rcases zJ d with ⟨u,b,c,v,rfl,m⟩|⟨j,s,rfl⟩
  ·by_cases e:u++v=[]
   ·obtain ⟨rfl,rfl⟩:=UW.mp e
    have p:P.length % 2=1:=by
     rw [SU,oP] at hn
     simp at hn
     omega
    rw [S5,Qx m (Vy i) (Vy l) p]
    have:b7 [b,c]=0:=by cases b<;>cases c<;>simp_all [b7]
    simp [this]
   ·rw [D8 (R:=[]) m (Vy i) (Vy l) e hn,D7 _ _ m]
    refine Ed i l n (u++v) (by simp at h ⊢;omega) (by simp at he ⊢;omega) e ?_ (Ec e hA)
    rw [SU,oP] at hn ⊢
    simp at hn ⊢
    omega
  ·match j,he with
   | 0,_=>exact absurd rfl h0
   | 1,he=>simp at he
   | j+2,he=>
    refine ⟨fun F=>absurd F (Eb i l hn hA),fun ⟨o,_⟩=>?_⟩
    rw [zI] at o
    exfalso
    split at o<;>omega
theorem Ee {P:List Gm}{X:Gm}{a Y:Int}(m:a<X.1)(o:a<Y):∀ (n:Nat)(d:List Bool),d.length<=n->d.length % 2=1->(P++[X]++bY a Y d).length % 2=0->bI ((P++[X]++bY a Y d).map (·.1))=0->
  (Fo (P++[X]++bY a Y d)↔(b7 d=1/\Fo (P++[X]++[(Y,true)]))\/(b7 d = -1/\Fo (P++[X]++[(Y,false)])))
 | 0,d,h,he,_,_=>by omega
 | n+1,d,h,he,hn,hA=>by
  rcases zJ d with ⟨u,b,c,v,rfl,p⟩|⟨j,s,rfl⟩
  ·have i:u++v≠[]:=fun e=>by
    obtain ⟨rfl,rfl⟩:=UW.mp e
    simp at he
   rw [D8 (R:=[]) p (Vy m) (Vy o) i hn,D7 _ _ p]
   refine Ee m o n (u++v) (by simp at h ⊢;omega) (by simp at he ⊢;omega) ?_ (Ec i hA)
   rw [SU,oP] at hn ⊢
   simp at hn ⊢
   omega
  ·match j,he with
   | 0,he=>simp at he
   | 1,_=>
    show Fo (P++[X]++[(Y,s)])↔_
    cases s<;>simp [b7]
   | j+2,he=>
    refine ⟨fun F=>absurd F (Eb m o hn hA),fun l=>?_⟩
    rw [zI] at l
    exfalso
    simp at he
    rcases l with ⟨l,_⟩|⟨l,_⟩<;>split at l<;>omega
theorem Fo.scale {c:Int}(hc:0<c){l:List Gm}(F:Fo l):Fo (l.map fun g=>(c * g.1,g.2)):=by
 induction F with
 | two h=>exact .two h
 | @step l r x y z R k m a=>
  obtain ⟨d,i,j⟩:=k
  refine .step (R.map _) ⟨XH d (Vy hc),XH i (Vy hc),j⟩ ?_
  have e:bR (c * x.1,x.2) (c * y.1,y.2) (c * z.1,z.2)=(c * (bR x y z).1,(bR x y z).2):=iQ (by
   show c * x.1 - c * y.1+c * z.1=c * (x.1 - y.1+z.1)
   rw [a1f,a1d]) rfl
  rw [e]
  exact a
theorem Fo.other {l:List Gm}(F:Fo l):Fo (l.map fun g=>(g.1,!g.2)):=by
 induction F with
 | two h=>exact .two (congrArg (!·) h)
 | @step l r x y z R k j a=>
  obtain ⟨c,d,i⟩:=k
  exact .step (R.map _) ⟨c,d,fun e=>i (by cases m:y.2<;>cases n:z.2<;>simp_all)⟩ a
noncomputable def iA:Bool->List Gm->List Gm
 | _,[]=>[]
 | m,g::l=>(g.1,m)::iA g.2 l
noncomputable def dI:Bool->List Gm->Bool
 | d,[]=>d
 | _,g::l=>dI g.2 l
noncomputable def lE (l:List Gm):List Gm:=iA (dI false l) l
theorem q0:∀ (m:Bool)(u v:List Gm),iA m (u++v)=iA m u++iA (dI m u) v
 | _,[],_=>rfl
 | m,g::u,v=>by
  show (g.1,m)::iA g.2 (u++v)=_
  rw [q0 g.2 u v]
  rfl
theorem q8:∀ (d:Bool)(u v:List Gm),dI d (u++v)=dI (dI d u) v
 | _,[],_=>rfl
 | _,g::u,v=>q8 g.2 u v
theorem Ef {l:List Gm}(h:l≠[])(d d':Bool):dI d l=dI d' l:=by
 cases l with
 | nil=>exact absurd rfl h
 | cons=>rfl
theorem QC {l d:List Gm}(R:Rot l d):Rot (lE l) (lE d):=by
 obtain ⟨u,v,rfl,rfl⟩:=R
 by_cases a:u=[]
 ·subst a
  rw [Um]
  exact .re
 by_cases c:v=[]
 ·subst c
  rw [Um]
  exact .re
 unfold lE
 refine ⟨iA (dI false (u++v)) u,iA (dI (dI false (u++v)) u) v,q0 _ _ _,?_⟩
 rw [q0,q8 false v u,q8 false u v,Ef a (dI (dI false u) v) (dI false v),Ef c (dI (dI false v) u) (dI false u)]
theorem Fo.turn {l:List Gm}(F:Fo l):Fo (lE l.reverse):=by
 induction F with
 | @two x y h=>exact .two h
 | @step l r x y z R k s c=>
  obtain ⟨o,p,q⟩:=k
  have d:Rot l.reverse (r.reverse++[z,y,x]):=by
   obtain ⟨u,v,m,n⟩:=R
   refine ⟨v.reverse,u.reverse,by rw [m];simp,?_⟩
   have:=congrArg Yl n
   simp at this ⊢
   exact this
  have e:lE (r.reverse++[z,y,x])=iA x.2 r.reverse++[(z.1,dI x.2 r.reverse),(y.1,z.2),(x.1,y.2)]:=by
   unfold lE
   rw [q0,q8]
   rfl
  have i:lE (bR x y z::r).reverse=iA x.2 r.reverse++[(x.1 - y.1+z.1,dI x.2 r.reverse)]:=by
   unfold lE
   rw [Xg,q0,q8]
   rfl
  rw [i] at c
  have a:=QC d
  rw [e] at a
  refine .step (x:=(z.1,dI x.2 r.reverse)) (y:=(y.1,z.2)) (z:=(x.1,y.2)) (r:=iA x.2 r.reverse) (a.trans ⟨iA x.2 r.reverse,_,rfl,rfl⟩) ⟨p,o,Ux q⟩ ?_
  have j:bR (z.1,dI x.2 r.reverse) (y.1,z.2) (x.1,y.2)=(x.1 - y.1+z.1,dI x.2 r.reverse):=iQ (by show z.1 - y.1+x.1=x.1 - y.1+z.1;omega) rfl
  rw [j]
  exact c.rot ⟨_,_,rfl,rfl⟩
noncomputable def cW:Nat->List (List Bool)
 | 0=>[[]]
 | n+1=>(cW n).map (false::·)++(cW n).map (true::·)
theorem mem_rowsH:∀ {n:Nat}{bs:List Bool},bs∈cW n↔bs.length=n
 | 0,bs=>by simp [cW]
 | n+1,bs=>by
  simp only [cW,T7,TC]
  constructor
  ·rintro (⟨r,h,rfl⟩|⟨r,h,rfl⟩)<;>simp [mem_rowsH.mp h]
  ·intro h
   match bs,h with
   | false::r,h=>exact .inl ⟨r,mem_rowsH.mpr (by simpa using h),rfl⟩
   | true::r,h=>exact .inr ⟨r,mem_rowsH.mpr (by simpa using h),rfl⟩
theorem zM {d m:Type}{g:d->m}(c:∀ a b,g a=g b->a=b):∀ {l:List d},l.Nodup->(l.map g).Nodup
 | [],_=>by simp
 | a::l,h=>by
  rw [UP] at h
  rw [SW,UP]
  refine ⟨fun j=>?_,zM c h.2⟩
  obtain ⟨b,i,e⟩:=TC.mp j
  exact h.1 (c _ _ e ▸ i)
theorem zN:∀ n:Nat,(cW n).Nodup
 | 0=>by simp [cW]
 | n+1=>by
  rw [cW,ZA]
  refine ⟨zM (fun a b h=>by simpa using h) (zN n),zM (fun a b h=>by simpa using h) (zN n),?_⟩
  intro a c b d e
  obtain ⟨x,_,rfl⟩:=TC.mp c
  obtain ⟨y,_,rfl⟩:=TC.mp d
  simp at e
noncomputable def bZ (n:Nat)(P:List Bool->Bool):Nat:=((cW n).filter P).length
theorem Eg {n:Nat}{P P':List Bool->Bool}(h:∀ bs:List Bool,bs.length=n->P bs=P' bs):bZ n P=bZ n P':=by
 unfold bZ
 rw [List.filter_congr fun bs a=>h bs (mem_rowsH.mp a)]
theorem Eh {i:Type} [DecidableEq i]:∀ {l m:List i},l.Nodup->(∀ x∈l,x∈m)->l.length<=m.length
 | [],_,_,_=>by simp
 | a::l,m,h,s=>by
  rw [UP] at h
  have c:=s a (by simp)
  have:l.length<=(m.erase a).length:=Eh h.2 fun x d=>(List.mem_erase_of_ne (fun e:x=a=>h.1 (by rw [<- e];exact d))).mpr (s x (by simp [d]))
  rw [List.length_erase_of_mem c] at this
  have:=List.length_pos_of_mem c
  simp
  omega
theorem QD {n m:Nat}{P P':List Bool->Bool}(g:List Bool->List Bool)(q:∀ bs:List Bool,bs.length=n->(g bs).length=m)(p:∀ bs c:List Bool,bs.length=n->c.length=n->g bs=g c->bs=c)(o:∀ bs:List Bool,bs.length=n->P bs=true->P' (g bs)=true):bZ n P<=bZ m P':=by
 unfold bZ
 have:∀ l:List (List Bool),l.Nodup->(∀ x∈l,x.length=n)->(l.map g).Nodup:=by
  intro l
  induction l with
  | nil=>simp
  | cons a l u=>
   intro h i
   rw [UP] at h
   rw [SW,UP]
   refine ⟨fun r=>?_,u h.2 fun x h=>i x (by simp [h])⟩
   obtain ⟨b,d,e⟩:=TC.mp r
   exact h.1 (p _ _ (i b (by simp [d])) (i a (by simp)) e ▸ d)
 have j:=this ((cW n).filter P) ((zN n).filter _) fun x i=>mem_rowsH.mp (U2.mp i).1
 rw [<- Sx (f:=g)]
 refine Eh j fun x i=>?_
 obtain ⟨b,d,rfl⟩:=TC.mp i
 obtain ⟨d,s⟩:=U2.mp d
 exact U2.mpr ⟨mem_rowsH.mpr (q b (mem_rowsH.mp d)),o b (mem_rowsH.mp d) s⟩
theorem Ei (n:Nat)(P:List Bool->Bool):bZ (n+1) P=bZ n (fun r=>P (false::r))+bZ n (fun r=>P (true::r)):=by
 unfold bZ
 rw [cW,VC,SU,Wc,Wc,Sx,Sx]
 rfl
theorem QF (n:Nat):bZ n (fun _=>false)=0:=by
 unfold bZ
 rw [List.filter_eq_nil_iff.mpr (by simp)]
 rfl
theorem rA {n:Nat}{p q:List Bool->Bool}:∀ {m:Nat}{P:List Bool->Bool},(∀ u v:List Bool,u.length=m->v.length=n->P (u++v)=(p u&&q v))->bZ (m+n) P=bZ m p * bZ n q:=by
 intro m
 induction m generalizing p with
 | zero=>
  intro P h
  rw [VP,Eg (P:=P) (P':=fun v=>p []&&q v) fun bs i=>h [] bs rfl i]
  cases d:p [] with
  | false=>simp [QF,bZ,cW,d]
  | true=>simp [bZ,cW,d]
 | succ m e=>
  intro P h
  rw [a0E,Ei,Ei m p,a1c]
  rw [e (p:=fun r=>p (false::r)) fun u v a c=>h (false::u) v (by simp [a]) c]
  rw [e (p:=fun r=>p (true::r)) fun u v a c=>h (true::u) v (by simp [a]) c]
noncomputable def eP (gs:List Int)(bs:List Bool):Bool:=(fH 4 (eM gs bs)).isSome
noncomputable def dB (gs:List Int):Nat:=bZ gs.length (eP gs)
noncomputable def Ev (gs:List Int):Prop:=gs.length % 2=0/\2<=gs.length/\gs.length<=8
theorem QH {gs:List Int}{bs:List Bool}(h:bs.length=gs.length):(eM gs bs).map gm=gs.zip bs:=by
 unfold eM
 rw [Tv]
 apply List.ext_getElem
 ·simp [h]
 ·intro i a c
  simp at a
  simp [gm,To,a,h ▸ a]
theorem j8 {gs:List Int}{bs:List Bool}(a:Ev gs)(h:bs.length=gs.length):eP gs bs=true↔Fo (gs.zip bs):=by
 unfold eP
 obtain ⟨c,d,e⟩:=a
 have hw:(eM gs bs).length=gs.length:=by simp [eM]
 rw [Qa 4 _ (by omega) (by omega) (by omega),QH h]
theorem QK {gs a:List Int}{bs c:List Bool}(e:Ev gs)(d:Ev a)(h:bs.length=gs.length)(h':c.length=a.length)(H:Fo (gs.zip bs)↔Fo (a.zip c)):eP gs bs=eP a c:=by
 rw [WO,j8 e h,j8 d h',H]
theorem QL {gs:List Int}(j:Ev gs){c:Int}(hc:0<c):dB (gs.map (c * ·))=dB gs:=by
 unfold dB
 rw [Sx]
 have n:Ev (gs.map (c * ·)):=by unfold Ev at j ⊢;rw [Sx];exact j
 refine Eg fun bs p=>QK n j (by simp [p]) p ?_
 have e:(gs.map (c * ·)).zip bs=(gs.zip bs).map fun g=>(c * g.1,g.2):=by
  rw [List.zip_map_left]
  rfl
 rw [e]
 refine ⟨fun F=>?_,fun F=>F.scale hc⟩
  -- back: by dividing is awkward; crimps are told by order alone
 have o:∀ {l:List Gm},Fo l->∀ {m:List Gm},l=m.map (fun g=>(c * g.1,g.2))->Fo m:=by
  intro l F
  induction F with
  | @two x y h=>
   intro m e
   match m,e with
   | [a,b],e=>
    simp at e
    obtain ⟨rfl,rfl⟩:=e
    exact .two h
  | @step l r x y z R k B s=>
   intro m e
   rw [e] at R
   obtain ⟨A,q,i⟩:=R.unmap
   match A,i with
   | a::b::d::r',i=>
    simp at i
    obtain ⟨rfl,rfl,rfl,rfl⟩:=i
    obtain ⟨u,v,w⟩:=k
    refine .step q ⟨Yh u hc,Yh v hc,w⟩ (s ?_)
    rw [SW]
    congr 1
    exact iQ (by show c * a.1 - c * b.1+c * d.1=c * (a.1 - b.1+d.1);rw [a1f,a1d]) rfl
 exact o F rfl
theorem Ej {u v:List Int}(h:Ev (u++v)):dB (u++v)<=dB (v++u):=by
 have i:Ev (v++u):=by unfold Ev at h ⊢;simp at h ⊢;omega
 have n:(u++v).length=(v++u).length:=by simp;omega
 refine QD (fun bs=>bs.drop u.length++bs.take u.length) ?_ ?_ ?_
 ·intro bs a
  simp at a ⊢
  omega
 ·intro bs c a d e
  simp at a d
  obtain ⟨l,m⟩:=List.append_inj e (by simp;omega)
  rw [<- Up u.length bs,<- Up u.length c,l,m]
 ·intro bs a j
  simp at a
  rw [j8 h (by simp [a])] at j
  rw [j8 i (by simp;omega)]
  refine j.rot ⟨u.zip (bs.take u.length),v.zip (bs.drop u.length),?_,?_⟩
  ·rw [<- Vh (by simp;omega),Up]
  ·rw [<- Vh (by simp;omega)]
theorem QM {u v:List Int}(a:Ev (u++v)):dB (u++v)=dB (v++u):=
 Nat.le_antisymm (Ej a) (Ej (by unfold Ev at a ⊢;simp at a ⊢;omega))
noncomputable def zO (gs:List Int):List (List Bool):=(cW gs.length).filter (eP gs)
theorem Ek {n:Nat}{P A B:List Bool->Bool}(h:∀ bs:List Bool,bs.length=n->P bs=(A bs||B bs))(h':∀ bs:List Bool,bs.length=n->(A bs&&B bs)=false):bZ n P=bZ n A+bZ n B:=by
 unfold bZ
 have:∀ l:List (List Bool),(∀ x∈l,x.length=n)->(l.filter P).length=(l.filter A).length+(l.filter B).length:=by
  intro l
  induction l with
  | nil=>simp
  | cons x l d=>
   intro a
   have e:=h x (a x (by simp))
   have i:=h' x (a x (by simp))
   have:=d fun y c=>a y (by simp [c])
   rw [VY,VY,VY,e]
   cases j:A x<;>cases m:B x<;>simp_all<;>omega
 exact this _ fun x a=>mem_rowsH.mp a
theorem QN (n:Nat)(P:List Bool->Bool):bZ (n+1) P=bZ n (fun r=>P (r++[true]))+bZ n (fun r=>P (r++[false])):=by
 rw [Ek (A:=fun bs=>P (bs.take n++[true])&&(bs.drop n == [true])) (B:=fun bs=>P (bs.take n++[false])&&(bs.drop n == [false]))]
 ·rw [rA (m:=n) (n:=1) (p:=fun r=>P (r++[true])) (q:=fun v=>v == [true]) fun u v c d=>by simp [<- c]]
  rw [rA (m:=n) (n:=1) (p:=fun r=>P (r++[false])) (q:=fun v=>v == [false]) fun u v c d=>by simp [<- c]]
  have h:bZ 1 (fun v=>v == [true])=1:=by decide
  have i:bZ 1 (fun v=>v == [false])=1:=by decide
  rw [h,i]
  omega
 ·intro bs a
  have e:=Up n bs
  generalize bs.take n=u at e ⊢
  have hd:(bs.drop n).length=1:=by simp [a]
  generalize d:bs.drop n=v at e hd
  match v,hd with
  | [true],_=>rw [<- e];simp
  | [false],_=>rw [<- e];simp
 ·intro bs a
  have hd:(bs.drop n).length=1:=by simp [a]
  generalize bs.drop n=v at hd
  match v,hd with
  | [true],_=>simp
  | [false],_=>simp
theorem Em (a Y:Int):∀ (r:Nat)(c:List Bool),c.length=r+1->(Sz r a++[Y]).zip c=bY a Y c
 | 0,[m],_=>rfl
 | r+1,m::n::l,h=>by
  rw [Te,S2,List.zip_cons_cons,Em a Y r (n::l) (by simpa using h)]
  rfl
theorem uH {rest:List Int}{X a Y:Int}{r:Nat}{u:List Bool}{m:Bool}{v:List Bool}(c:u.length=rest.length)(d:v.length=r+1) :
  (rest++[X]++(Sz r a++[Y])).zip (u++[m]++v)=rest.zip u++[(X,m)]++bY a Y v:=by
 rw [Vh (by simp [c]),Vh (by simp [c]),Em _ _ _ _ d]
 rfl
theorem Eo {n:Nat}{u:List Bool}(h:u.length=n+1):∃ p m,u=p++[m]/\p.length=n:=by
 refine ⟨u.dropLast,u.getLast (by intro e;rw [e] at h;simp at h),(We _).symm,by simp [h]⟩
theorem Ep {gs:List Int}{bs:List Bool}(h:bs.length=gs.length):(gs.zip bs).map (·.1)=gs:=by
 rw [List.map_fst_zip (by omega)]
theorem QU {rest:List Int}{X a Y:Int}{r:Nat}(o:a<X)(q:a<Y)(w:r % 2=1)(h:Ev (rest++[X]++(Sz r a++[Y])))(hA:bI (rest++[X]++(Sz r a++[Y]))=0) :
  dB (rest++[X]++(Sz r a++[Y]))=dB (rest++[X - a+Y]) * bZ (r+1) (fun v=>b7 v == 0):=by
 have i:Ev (rest++[X - a+Y]):=by unfold Ev at h ⊢;simp at h ⊢;omega
 have n:(rest++[X]++(Sz r a++[Y])).length=(rest.length+1)+(r+1):=by simp;omega
 have l:(rest++[X - a+Y]).length=rest.length+1:=by simp
 have j:=h.1
 rw [n] at j
 unfold dB
 rw [n,l]
 refine rA fun u v s d=>?_
 obtain ⟨p,m,rfl,c⟩:=Eo s
 rw [WO,j8 h (by simp [c,d]),Sy,j8 i (by simp [c]),uH c d]
 rw [Ed (P:=rest.zip p) (X:=(X,m)) o q v.length v (SM _) (by omega) (by intro e;rw [e] at d;simp at d) (by simp [oP,c,d];omega) (by rw [<- uH c d,Ep (by simp [c,d])];exact hA)]
 rw [Vh (by simp [c])]
 show _/\Fo (rest.zip p++[(X - a+Y,m)])↔Fo (rest.zip p++[(X - a+Y,m)])/\_
 simp [and_comm]
theorem QV {rest:List Int}{X a Y:Int}{r:Nat}(B:a<X)(E:a<Y)(G:r % 2=0)(n:Ev (rest++[X]++(Sz r a++[Y])))(hA:bI (rest++[X]++(Sz r a++[Y]))=0)(hC:bZ (r+1) (fun v=>b7 v == 1)=bZ (r+1) (fun v=>b7 v == -1)) :
  dB (rest++[X]++(Sz r a++[Y]))=dB (rest++[X]++[Y]) * bZ (r+1) (fun v=>b7 v == 1):=by
 have l:Ev (rest++[X]++[Y]):=by unfold Ev at n ⊢;simp at n ⊢;omega
 have w:(rest++[X]++(Sz r a++[Y])).length=(rest.length+1)+(r+1):=by simp;omega
 have s:(rest++[X]++[Y]).length=rest.length+1+1:=by simp
 have q:=n.1
 rw [w] at q
 unfold dB
 rw [w,s,QN]
 have j:∀ {u v:List Bool},u.length=rest.length+1->(u++v).take (rest.length+1)=u/\(u++v).drop (rest.length+1)=v:=fun c=>by simp [<- c]
 rw [Ek (A:=fun bs=>eP (rest++[X]++[Y]) (bs.take (rest.length+1)++[true])&&(b7 (bs.drop (rest.length+1)) == 1)) (B:=fun bs=>eP (rest++[X]++[Y]) (bs.take (rest.length+1)++[false])&&(b7 (bs.drop (rest.length+1)) == -1))]
 ·have x:=rA (m:=rest.length+1) (n:=r+1) (P:=fun bs=>eP (rest++[X]++[Y]) (bs.take (rest.length+1)++[true])&&(b7 (bs.drop (rest.length+1)) == 1)) (p:=fun u=>eP (rest++[X]++[Y]) (u++[true])) (q:=fun v=>b7 v == 1) fun u v c i=>by rw [(j c).1,(j c).2]
  have y:=rA (m:=rest.length+1) (n:=r+1) (P:=fun bs=>eP (rest++[X]++[Y]) (bs.take (rest.length+1)++[false])&&(b7 (bs.drop (rest.length+1)) == -1)) (p:=fun u=>eP (rest++[X]++[Y]) (u++[false])) (q:=fun v=>b7 v == -1) fun u v c i=>by rw [(j c).1,(j c).2]
  rw [x,y,<- hC,a1c]
 ·intro bs o
  obtain ⟨u,v,rfl,c,i⟩:∃ u v,bs=u++v/\u.length=rest.length+1/\v.length=r+1:=⟨bs.take (rest.length+1),bs.drop (rest.length+1),by simp,by simp [o],by simp [o]⟩
  rw [(j c).1,(j c).2]
  obtain ⟨p,m,rfl,d⟩:=Eo c
  rw [WO,j8 n (by simp [d,i]),U4,Sy,Sy,j8 l (by simp [d]),j8 l (by simp [d]),uH d i]
  rw [Ee (P:=rest.zip p) (X:=(X,m)) B E v.length v (SM _) (by omega) (by simp [oP,d,i];omega) (by rw [<- uH d i,Ep (by simp [d,i])];exact hA)]
  have e:∀ b:Bool,(rest++[X]++[Y]).zip (p++[m]++[b])=rest.zip p++[(X,m)]++[(Y,b)]:=fun b=>by
   rw [Vh (by simp [d]),Vh (by simp [d])]
   rfl
  rw [e,e]
  simp [and_comm]
 ·intro bs o
  have:∀ z:Int,((z == 1)&&(z == -1))=false:=fun z=>by
   by_cases h:z=1
   ·subst h;decide
   ·simp [h]
  cases A:(b7 (bs.drop (rest.length+1)) == 1) with
  | false=>simp
  | true=>
   have:=this (b7 (bs.drop (rest.length+1)))
   rw [A,Xb] at this
   simp [this]
noncomputable def gL (count:Int):Nat->Int
 | 0=>1
 | k+1=>gL count k * (count - k) / (k+1)
theorem QX:∀ r:Nat,r<8->r % 2=1->((bZ (r+1) (fun v=>b7 v == 0):Nat):Int)=gL ((r+1:Nat):Int) ((r+1) / 2):=by decide +kernel
theorem QY:∀ r:Nat,r<8->r % 2=0->((bZ (r+1) (fun v=>b7 v == 1):Nat):Int)=gL ((r+1:Nat):Int) ((r+1) / 2)/\bZ (r+1) (fun v=>b7 v == 1)=bZ (r+1) (fun v=>b7 v == -1):=by decide +kernel
theorem QZ:∀ n∈[2,4,6,8],((dB (Sz n 1):Nat):Int)=2 * gL ((n:Nat):Int) (n / 2 - 1):=by decide +kernel
theorem Q0 {n:Nat}(a:n=2\/n=4\/n=6\/n=8){c:Int}(hc:0<c):((dB (Sz n c):Nat):Int)=2 * gL ((n:Nat):Int) (n / 2 - 1):=by
 have e:Sz n c=(Sz n 1).map (c * ·):=by simp
 rw [e,QL (by unfold Ev;rw [Ue];omega) hc]
 exact QZ n (by simp;exact a)
theorem Rot.ev {gs a:List Int}(R:Rot gs a)(h:Ev gs):Ev a:=by unfold Ev at h ⊢;rw [<- R.len];exact h
theorem rB {gs a:List Int}(R:Rot gs a)(h:Ev gs):dB gs=dB a:=by
 obtain ⟨u,v,rfl,rfl⟩:=R
 exact QM h
theorem uI {gs a:List Int}(R:Rot gs a)(h:Ev gs)(hA:bI gs=0):bI a=0:=by
 obtain ⟨u,v,rfl,rfl⟩:=R
 exact D9 h.1 hA
theorem run_rot {rest:List Int}{X a Y:Int}{r:Nat}:Rot (Sz r a++Y::rest++[X]) (rest++[X]++(Sz r a++[Y])):=⟨Sz r a++[Y],rest++[X],by simp,by simp⟩
theorem Q1 {rest:List Int}{X a Y:Int}{r:Nat}(m:a<X)(n:a<Y)(i:r % 2=1)(d:Ev (Sz r a++Y::rest++[X]))(hA:bI (Sz r a++Y::rest++[X])=0) :
  ((dB (Sz r a++Y::rest++[X]):Nat):Int)=gL ((r+1:Nat):Int) ((r+1) / 2) * dB (rest++[X+Y - a])/\bI (rest++[X+Y - a])=0/\Ev (rest++[X+Y - a]):=by
 have h:r<8:=by have:=d.2.2;simp at this;omega
 have e:=run_rot.ev d
 have c:=uI run_rot d hA
 have j:X+Y - a=X - a+Y:=by omega
 refine ⟨?_,?_,?_⟩
 ·rw [rB run_rot d,QU m n i e c,Z4,QX r h i,j,a0L]
 ·obtain ⟨k,rfl⟩:∃ k,r=2 * k+1:=⟨r / 2,by omega⟩
  rw [j]
  clear e d h i
  rw [T9] at c
  induction k with
  | zero=>
   have:=zK rest [] X a Y
   rw [<- this]
   simpa using c
  | succ k o=>
   refine o ?_ ?_
   ·rw [T9] at hA ⊢
    have:=qZ [] a (2 * k+1) (Y::rest++[X])
    rw [S5,S5] at this
    rw [<- this]
    exact hA
   ·have:=qZ (rest++[X]) a (2 * k+1) [Y]
    rw [T9,T9] at this
    rw [<- this]
    exact c
 ·have:=d.1
  have l:=d.2
  unfold Ev
  simp at this l ⊢
  omega
theorem Q2 {rest:List Int}{X a Y:Int}{r:Nat}(o:a<X)(p:a<Y)(j:r % 2=0)(c:Ev (Sz r a++Y::rest++[X]))(hA:bI (Sz r a++Y::rest++[X])=0) :
  ((dB (Sz r a++Y::rest++[X]):Nat):Int)=gL ((r+1:Nat):Int) ((r+1) / 2) * dB (Y::rest++[X])/\bI (Y::rest++[X])=0/\Ev (Y::rest++[X]):=by
 have i:r<8:=by have:=c.2.2;simp at this;omega
 have e:=run_rot.ev c
 have d:=uI run_rot c hA
 obtain ⟨l,m⟩:=QY r i j
 have h:Ev (Y::rest++[X]):=by
  have:=c.1
  have n:=c.2
  unfold Ev
  simp at this n ⊢
  omega
 refine ⟨?_,?_,h⟩
 ·have R:Rot (Y::rest++[X]) (rest++[X]++[Y]):=⟨[Y],rest++[X],by simp,by simp⟩
  rw [rB run_rot c,QV o p j e d m,Z4,l,<- rB R h,a0L]
 ·obtain ⟨k,rfl⟩:∃ k,r=2 * k:=⟨r / 2,by omega⟩
  clear e c i j d l m
  induction k with
  | zero=>simpa using hA
  | succ k q=>
   refine q ?_
   rw [T9] at hA ⊢
   have:=qZ [] a (2 * k) (Y::rest++[X])
   rw [S5,S5] at this
   rw [<- this]
   exact hA
theorem Er:∀ (l:List Int)(a:Int),(∀ x∈l,a<=x)->(∃ x∈l,a<x)->∃ r Y rest,l=Sz r a++Y::rest/\a<Y
 | [],a,_,⟨x,h,_⟩=>by cases h
 | b::l,a,h,⟨x,hx,h2⟩=>by
  by_cases e:b=a
  ·subst e
   obtain ⟨r,Y,rest,e,c⟩:=Er l b (fun y d=>h y (by simp [d])) ⟨x,(TH.mp hx).elim (fun e=>by omega) id,h2⟩
   exact ⟨r+1,Y,rest,by rw [e,Te];rfl,c⟩
  ·exact ⟨0,b,l,rfl,by have:=h b (by simp);omega⟩
theorem zP {p:Nat->Prop}:∀ (m:Nat),(∀ k,k<m->p (k+1)->p k)->p m->∀ j,j<=m->p j
 | 0,_,h,j,hj=>by rwa [a1b.mp hj]
 | m+1,hs,h,j,hj=>by
  by_cases e:j=m+1
  ·rwa [e]
  ·exact zP m (fun k a=>hs k (by omega)) (hs m (by omega) h) j (by omega)
noncomputable def eF (n k:Nat):Nat:=if k=0 then n - 1 else k - 1
theorem uJ {gs:List Int}{k:Nat}(h:k<gs.length):gs.getD k 0∈gs:=by
 rw [To,SN h]
 exact Vc h
theorem Q3 {gs:List Int}{a:Int}(u:a∈gs)(l:∀ x∈gs,a<=x)(i:∃ x∈gs,a<x):∃ k,k<gs.length/\gs.getD k 0=a/\a<gs.getD (eF gs.length k) 0:=by
 have d:∀ {x:Int},x∈gs->∃ k,k<gs.length/\gs.getD k 0=x:=fun h=>by
  obtain ⟨k,c,e⟩:=Ug h
  exact ⟨k,c,by rw [To,SN c];exact e⟩
 cases Classical.em (∃ k,k<gs.length/\gs.getD k 0=a/\a<gs.getD (eF gs.length k) 0) with
 | inl h=>exact h
 | inr h=>
  exfalso
  have H:∀ k,k<gs.length->gs.getD k 0=a->gs.getD (eF gs.length k) 0=a:=fun k c e=>by
   have v:eF gs.length k<gs.length:=by unfold eF;split<;>omega
   have:=l _ (uJ v)
   by_cases o:a<gs.getD (eF gs.length k) 0
   ·exact absurd ⟨k,c,e,o⟩ h
   ·omega
  obtain ⟨y,r,n⟩:=d u
  obtain ⟨x,w,q⟩:=i
  obtain ⟨z,s,A⟩:=d w
  have m:∀ k,k+1<gs.length->gs.getD (k+1) 0=a->gs.getD k 0=a:=fun k c e=>by
   have:=H (k+1) c e
   unfold eF at this
   rw [if_neg (by omega)] at this
   exact this
  have p:gs.getD 0 0=a:=zP (p:=fun k=>gs.getD k 0=a) y (fun k c=>m k (by omega)) n 0 (by omega)
  have j:=H 0 (by omega) p
  unfold eF at j
  rw [if_pos rfl] at j
  have:=zP (p:=fun k=>gs.getD k 0=a) (gs.length - 1) (fun k c=>m k (by omega)) j z (by omega)
  omega
theorem Q4 {gs:List Int}{a:Int}{k:Nat}(o:Ev gs)(hA:bI gs=0)(s:∀ x∈gs,a<=x)(H:k<gs.length)(e:gs.getD k 0=a)(B:a<gs.getD (eF gs.length k) 0) :
  ∃ r Y rest X,gs.drop k++gs.take k=Sz (r+1) a++Y::rest++[X]/\a<Y/\a<X:=by
 have R:Rot gs (gs.drop k++gs.take k):=⟨gs.take k,gs.drop k,by simp,rfl⟩
 have i:=uI R o hA
 have j:=R.ev o
 have q:(gs.drop k++gs.take k).length=gs.length:=by simp;omega
 have p:(gs.drop k++gs.take k).getD 0 0=a:=by
  rw [<- e,To,To,Tp (by simp;omega),List.getElem?_drop]
  simp
 have c:a<(gs.drop k++gs.take k).getD (gs.length - 1) 0:=by
  have:(gs.drop k++gs.take k).getD (gs.length - 1) 0=gs.getD (eF gs.length k) 0:=by
   rw [To,To]
   unfold eF
   by_cases v:k=0
   ·subst v
    simp
   ·rw [if_neg v,TU (by simp;omega),Y8]
    simp
    rw [if_pos (by omega)]
    congr 2
    omega
  rw [this]
  exact B
 have m:∀ x∈gs.drop k++gs.take k,a<=x:=fun x E=>s x (by
  rcases T7.mp E with h|h
  ·exact V9 h
  ·exact WW h)
 generalize gs.drop k++gs.take k=l at *
 match l,p with
 | b::l',p=>
  have z:b=a:=p
  subst z
  obtain ⟨r,Y,rest,d,y⟩:=Er (b::l') b m ⟨_,uJ (by rw [q];have:=o.2.1;omega),c⟩
  match r,d with
  | 0,d=>
   simp at d
   omega
  | r+1,d=>
   rw [d] at c q i j ⊢
   by_cases n:rest=[]
   ·exfalso
    subst n
    have A:=j.1
    simp at A
    have:∀ r:Nat,r % 2=1->bI (Sz r b++[Y])=b - Y:=fun r n=>by
     obtain ⟨k,rfl⟩:∃ k,r=2 * k+1:=⟨r / 2,by omega⟩
     clear n
     induction k with
     | zero=>simp [bI]
     | succ k G=>
      have:=qZ [] b (2 * k+1) [Y]
      rw [S5,S5] at this
      show bI (Sz (2 * k+1+2) b++[Y])=_
      rw [this,G]
    rw [this _ (by omega)] at i
    omega
   ·refine ⟨r,Y,rest.dropLast,rest.getLast n,?_,y,?_⟩
    ·rw [T9,S2,We]
    ·have u:Sz (r+1) b++Y::rest=(Sz (r+1) b++Y::rest.dropLast)++[rest.getLast n]:=by rw [T9,S2,We]
     have w:gs.length - 1=(Sz (r+1) b++Y::rest.dropLast).length:=by
      rw [<- q,u]
      simp
     rw [u,To,w,List.getElem?_concat_length] at c
     exact c
noncomputable def RS (bs:List Bool):D:=.str (a8 bs)
theorem Es:∀ n:Nat,(cW n).length=2 ^ n
 | 0=>rfl
 | n+1=>by
  rw [cW,SU,Sx,Sx,Es n,a0G]
  omega
theorem zQ {n:Nat}(h:n<=8):(cW n).length<=256:=by
 rw [Es]
 exact YR (by decide) h
noncomputable def zR (p:Str):D->D
 | .str x=>.str (p++x)
 | d=>d
theorem Q5 (b:Bool)(bs:List Bool):zR (cI b) (RS bs)=RS (b::bs):=by
 show D.str (cI b++a8 bs)=D.str (a8 (b::bs))
 rw [k9]
 congr 1
 show (⟨#[cV b]++(bs.map cV).toArray⟩:Str)=⟨((b::bs).map cV).toArray⟩
 simp
theorem Q6 {a:Type}(l:List a):l.filter (fun _=>true)=l:=by simp
theorem Q7 (b:Bool)(l:List (List Bool)):((l.map RS).filter (fun _=>true)).map (zR (cI b))=(l.map (b::·)).map RS:=by
 rw [Q6,Tv,Tv]
 exact UD fun bs _=>Q5 b bs
theorem Et {b:Bool}{c:Str}(hc:c=cI b){n:Nat}(u:n<=8){i:Nat}{o:aJ}{a:Nat}{h:Hm}{m v:ME}(s:W (m o h) fun p=>p=(.loc a,h))(w:∀ d e R,R (d,e)->W (v (o++[some d]) e) R)(q:h[a]? = some (.lst ((cW n).map RS))){Q:D×Hm->Prop}
  (H:∀ e,h <+: e->e[h.length]? = some (.lst (((cW n).map (b::·)).map RS))->Q (.loc h.length,e)):W (cR (eJ m) cZ (aC aZ (mC (.str c)) v) o h) Q:=by
 subst hc
 have y:=zQ u
 refine fD (xs:=(cW n).map RS) (p:=fun _=>true) (v:=zR (cI b)) ?_
 rw [k4]
 refine bM s fun p j=>?_
 subst j
 refine (k7 q).mpr ?_
 refine ⟨k6 q,rfl,by rw [S4,Sx];omega,?_,?_,?_⟩
 ·intro d e _ _
  exact w_mTrue.mpr ⟨rfl,SV _⟩
 ·intro d e hd _ j
  obtain ⟨bs,l,rfl⟩:=TC.mp hd
  have x:=mem_rowsH.mp l
  rw [aT,aO]
  refine w _ _ _ ?_
  refine (uA (by rw [dH,S4,k9];show 1+bs.length<=_;omega)).mpr ⟨?_,SV _⟩
  rfl
 ·intro e j r
  rw [Q7] at r
  exact H e j r
theorem Q8 (k:Nat){n:Nat}(y:n<=8){m:Hm}(Q:D×Hm->Prop)(H:∀ a c,m <+: c->c[a]? = some (.lst ((cW n).map RS))->Q (.loc a,c)):W (f (k+1) "rows_of" [.int (n:Int)] m) Q:=by
 rw [OQ,bV]
 simp only [bE,bQ,dA,aI,aH,aO]
 refine ⟨qN,?_⟩
 simp only [SD,SE,j4,gI (j:=0),aI,aH,aF]
 refine ⟨by omega,?_⟩
 rw [U6]
 refine mO (fun i p c=>∃ a o,m <+: c/\c[a]? = some (.lst ((cW i).map RS))/\p=[some (.int (n:Int)),some (.loc a),o]) ⟨_,_,aQ _ _,bD _ _,rfl⟩ ?_ ?_
 ·rintro i p c x ⟨a,o,l,j,rfl⟩
  refine ⟨_,rfl,?_⟩
  have z:=zQ (n:=i) (by omega)
  simp only [SD,SE,bQ,aT]
  refine Et (b:=false) (n:=i) rfl (by omega) (i:=0) ?_ ?_ j fun v q s=>?_
  ·simp only [aG,aF]
  ·intro d e R h
   simp only [S2,S5,aG,aF]
   exact h
  ·refine Et (b:=true) (n:=i) rfl (by omega) (i:=0) ?_ ?_ (aK q j) fun w r u=>?_
   ·simp only [aG,aF]
   ·intro d e R h
    simp only [S2,S5,aG,aF]
    exact h
   ·refine (gJ (aK r s) u (by simp only [Sx];rw [S4];omega)).mpr ?_
    refine ⟨_,_,((l.trans q).trans r).trans (aQ _ _),?_,rfl⟩
    rw [bD,cW,Tn]
 ·rintro p c ⟨a,o,l,j,rfl⟩
  simp only [bB,aG,aF]
  exact H a c l j
noncomputable def uK:D->List Bool
 | .str x=>x.cps.toList.map (· == 118)
 | _=>[]
theorem Eu (bs:List Bool):uK (RS bs)=bs:=by
 show ((bs.map cV).toArray.toList).map (· == 118)=bs
 rw [List.toList_toArray,Tv]
 have:((· == 118) ∘ cV)=id:=by funext b;cases b<;>rfl
 rw [this,List.map_id]
theorem Q9 (k:Nat){j:Hm}{a:Nat}{gs:List Int}(r:j[a]? = some (.lst (gs.map D.int)))(l:GoodG gs)(Q:D×Hm->Prop)(H:∀ b e,j <+: e->j.length<=b->e[b]? = some (.lst ((zO gs).map RS))->Q (.loc b,e)):W (f (k+4) "all_marks" [.loc a] j) Q:=by
 have x:=l.rgl
 rw [OR,bV]
 simp only [bE,d6,aU,aI,aH,aF]
 refine oK _ a gs l _ _ r fun y o=>?_
 have h:=aK o r
 simp only [bB]
 refine fD (xs:=(cW gs.length).map RS) (p:=fun d=>eP gs (uK d)) (v:=fun d=>d) ?_
 simp only [k4,aU,aI,aH,aF]
 refine (cK h).mpr ?_
 rw [Sx]
 refine Q8 _ (by omega) _ fun b z p q=>?_
 refine (k7 q).mpr ?_
 have B:=zQ (n:=gs.length) (by omega)
 refine ⟨k6 q,rfl,by rw [S4,Sx];omega,?_,?_,?_⟩
 ·intro d e hd n
  obtain ⟨bs,m,rfl⟩:=TC.mp hd
  have w:=mem_rowsH.mp m
  simp only [S2,S5,b6,aT,aU,aI,aH,aF,aG,aO]
  refine D4 _ (aK n (aK p h)) l w _ fun d A u i=>?_
  rw [Eu]
  unfold eP
  cases s:fH 4 (eM gs bs) with
  | none=>
   rw [s] at i
   cases i
   exact w_isnotNN.mpr ⟨rfl,u⟩
  | some E=>
   rw [s] at i
   obtain ⟨c,rfl,_⟩:=i
   exact w_isnotLN.mpr ⟨rfl,u⟩
 ·intro d e _ _ _
  simp only [S2,S5,aF,aG]
  exact ⟨trivial,SV _⟩
 ·intro e n v
  refine H _ e ((o.trans p).trans n) (qE (o.trans p)) ?_
  rw [v]
  congr 2
  unfold zO
  rw [Wc,Tv]
  have:((fun d=>eP gs (uK d)) ∘ RS)=eP gs:=by funext bs;show eP gs (uK (RS bs))=_;rw [Eu]
  rw [this]
  rfl
theorem Ra (k:Nat){d:Hm}{a:Nat}{gs:List Int}(h:d[a]? = some (.lst (gs.map D.int)))(e:GoodG gs)(Q:D×Hm->Prop)(H:∀ b c,d <+: c->c[b]? = some (.lst ((zO gs).map RS))->Q (.loc b,c)):W (f (k+4) "all_marks" [.loc a] d) Q:=
 Q9 k h e Q fun b c p _ g=>H b c p g
theorem Ew (k:Nat){m:Nat}{c:Int}(j:m<=100)(hc:-1000<c/\c<1000){d:Hm}(Q:D×Hm->Prop)(H:Q (.int (gL c m),d)):W (f (k+1) "ways_to_choose" [.int (m:Int),.int c] d) Q:=by
 rw [OS,bV]
 simp only [bE,bQ,aO,SD,SE,j4,gI (j:=0),aI,aH,aF]
 refine ⟨by omega,?_⟩
 rw [U6]
 refine mO (fun i e a=>d=a/\∃ o,e=[some (.int (m:Int)),some (.int c),some (.int (gL c i)),o]) ⟨rfl,_,rfl⟩ ?_ ?_
 ·rintro i e a h ⟨rfl,o,rfl⟩
  refine ⟨_,rfl,?_⟩
  simp only [SD,SE,bQ,aT,aG,aF,aO,w_subI,w_addI]
  refine (oE (.inr ⟨by omega,by omega⟩)).mpr ?_
  refine (eY (by omega) (by omega)).mpr ⟨rfl,some (.int (0+(i:Int))),?_⟩
  simp only [YD]
  rfl
 ·rintro e a ⟨rfl,o,rfl⟩
  simp only [bB,aG,aF]
  exact H
theorem Ey {is:List Int}(j:0<is.length):eT is∈is/\∀ x∈is,eT is<=x:=by
 unfold eT
 obtain ⟨l,c⟩:=argBest_lt (fun i=>is.getD i 0) (is.length - 1)
 refine ⟨uJ (by omega),fun x h=>?_⟩
 obtain ⟨k,d,e⟩:=Ug h
 have:=c k (by omega)
 have a:is.getD k 0=x:=by rw [To,SN d];exact e
 rw [<- a]
 exact this
theorem Rb {is:List Int}(j:0<is.length):g7 is∈is/\∀ x∈is,x<=g7 is:=by
 unfold g7
 obtain ⟨l,c⟩:=argBest_gt (fun i=>is.getD i 0) (is.length - 1)
 refine ⟨uJ (by omega),fun x h=>?_⟩
 obtain ⟨k,d,e⟩:=Ug h
 have:=c k (by omega)
 have a:is.getD k 0=x:=by rw [To,SN d];exact e
 rw [<- a]
 exact this
theorem Rc {gs:List Int}(a:GoodG gs):Ev gs:=by have:=a.len;unfold Ev;omega
theorem Ez {gs:List Int}(a:Ev gs)(c:∀ g∈gs,1<=g)(hA:bI gs=0):GoodG gs:=⟨by unfold Ev at a;omega,c,hA⟩
theorem Rf {gs:List Int}{k:Nat}(h:k<gs.length):atI (gs.map D.int) ((k:Int) - 1)=some (.int (gs.getD (eF gs.length k) 0)):=by
 unfold atI
 have e:fM (gs.map D.int).length ((k:Int) - 1)=some (eF gs.length k):=by
  rw [Sx]
  unfold fM eF
  by_cases c:k=0
  ·subst c
   rw [if_neg (by omega),if_pos (by omega),if_pos rfl]
   congr 1
   omega
  ·rw [if_pos (by omega),if_pos (by omega),if_neg c]
   congr 1
   omega
 have a:eF gs.length k<gs.length:=by unfold eF;split<;>omega
 rw [e,S1,Tr,SN a,To,SN a]
 rfl
noncomputable def iB (gs:List Int)(a:Int)(k:Nat):Bool:=(gs.getD k 0 == a)&&decide (a<gs.getD (eF gs.length k) 0)
noncomputable def uL (gs:List Int)(a:Int):D->Bool
 | .tup [.int i,.int _]=>iB gs a i.toNat
 | _=>false
noncomputable def EA:D->D
 | .tup [i,_]=>i
 | d=>d
theorem uM (gs:List Int):iP 0 (gs.map D.int)=(Td gs.length).map fun k=>.tup [.int (k:Int),.int (gs.getD k 0)]:=by
 apply List.ext_getElem?
 intro i
 rw [qM,Tr,Tr]
 by_cases h:i<gs.length
 ·rw [SN h,YT h]
  simp only [TB,To,SN h,VP,Option.getD_some]
 ·rw [U0 (by omega),U0 (by simp;omega)]
  rfl
theorem Rg (gs:List Int)(a:Int):((iP 0 (gs.map D.int)).filter (uL gs a)).map EA=((Td gs.length).filter (iB gs a)).map fun k=>.int ((k:Nat):Int):=by
 rw [uM,Wc,Tv]
 have:(uL gs a ∘ fun (k:Nat)=>D.tup [.int (k:Int),.int (gs.getD k 0)])=iB gs a:=by
  funext k
  show iB gs a ((k:Int)).toNat=_
  rw [U6]
 rw [this]
 rfl
theorem Rh (k:Nat){y:Hm}{p:Nat}{gs:List Int}(m:y[p]? = some (.lst (gs.map D.int)))(M:2<=gs.length/\gs.length<=8)(o:∃ x∈gs,eT gs<x)(Q:D×Hm->Prop)
  (H:∀ j b c,j<gs.length->gs.getD j 0=eT gs->eT gs<gs.getD (eF gs.length j) 0->y <+: c->c[b]? = some (.lst ((gs.drop j++gs.take j).map D.int))->Q (.loc b,c)):W (f (k+1) "least_ahead" [.loc p] y) Q:=by
 obtain ⟨A,u⟩:=Ey (is:=gs) (by omega)
 rw [OT,bV]
 simp only [bE,bQ,aU,aI,aH,aF]
 refine (D6 m (by omega)).mpr ?_
 generalize eT gs=a at A u o H
 simp only [SD,SE,aT]
 refine Od (xs:=iP 0 (gs.map D.int)) (x:=fun d=>match d with|.tup [i,g]=>[some i,some g]|_=>[]) (p:=uL gs a) (v:=EA) ?_
 refine t8 ?_
 simp only [aI,aH,aF]
 refine ⟨p,_,rfl,m,yU m,by rw [yT],by rw [yT,Sx,S4];omega,?_,?_,?_,?_⟩
 ·intro d c hd
  rw [uM] at hd
  obtain ⟨i,q,rfl⟩:=TC.mp hd
  rfl
 ·intro d c hd B
  rw [uM] at hd
  obtain ⟨i,q,rfl⟩:=TC.mp hd
  have q:=Uh.mp q
  simp only [S2,S5,NT,b6,aT,aF,aG,aO,w_eqI]
  show if (gs.getD i 0 == a)=true then _ else _
  have e:uL gs a (.tup [.int (i:Int),.int (gs.getD i 0)])=iB gs a i:=by
   show iB gs a ((i:Int)).toNat=_
   rw [U6]
  rw [e]
  unfold iB
  by_cases hc:(gs.getD i 0 == a)=true
  ·rw [if_pos hc,hc,Xb]
   simp only [w_subI]
   refine (bT (aK B m) (Rf q)).mpr ?_
   exact w_gtI.mpr ⟨rfl,SV _⟩
  ·rw [if_neg hc]
   exact ⟨by simp only [Bool.not_eq_true] at hc;rw [hc];rfl,SV _⟩
 ·intro d c hd _ B
  rw [uM] at hd
  obtain ⟨i,q,rfl⟩:=TC.mp hd
  simp only [S2,S5,aF,aG]
  exact ⟨rfl,SV _⟩
 ·intro L E v
  rw [Rg] at v
  obtain ⟨K,w,G,I⟩:=Q3 A u o
  have s:K∈(Td gs.length).filter (iB gs a):=U2.mpr ⟨Uh.mpr w,by unfold iB;rw [Sy,beq_iff_eq,decide_eq_true_eq];exact ⟨G,I⟩⟩
  obtain ⟨j,r,z⟩:∃ j r,(Td gs.length).filter (iB gs a)=j::r:=List.exists_cons_of_ne_nil (fun e=>by rw [e] at s;cases s)
  have J:j∈(Td gs.length).filter (iB gs a):=by rw [z];simp
  obtain ⟨l,h⟩:=U2.mp J
  have l:=Uh.mp l
  unfold iB at h
  rw [Sy,beq_iff_eq,decide_eq_true_eq] at h
  rw [z,SW] at v
  rw [aO]
  refine (bT v qT).mpr ?_
  have n:=aK E m
  simp only [SD,SE,bB,aT]
  refine k8 ?_
  simp only [aF,aG,jC,j5]
  refine ⟨p,rfl,_,n,?_⟩
  refine k8 ?_
  simp only [aF,aG,jC,j5]
  refine ⟨p,rfl,_,aK (aQ _ _) n,?_⟩
  rw [uF _ (by rw [Sx];omega),DZ _ (by rw [Sx];omega),U6]
  refine (gJ (aK (aQ _ _) (bD _ _)) (bD _ _) (by rw [T8,Tw,Sx,S4];omega)).mpr ?_
  refine H j _ _ l h.1 h.2 (E.trans (((aQ _ _).trans (aQ _ _)).trans (aQ _ _))) ?_
  rw [bD,Tn,VA,V5]
theorem uN {r:Nat}{a Y:Int}{q:List Int}{i:Nat}(c:i<=r):((Sz (r+1) a++q).map D.int)[i]? = some (.int a):=by
 rw [Tr,Tp (by simp;omega),List.getElem?_replicate_of_lt (by omega)]
 rfl
theorem EB {r:Nat}{a Y:Int}{q:List Int}:((Sz r a++Y::q).map D.int)[r]? = some (.int Y):=by
 rw [Tr,TU (by simp)]
 simp
theorem Ri (k:Nat){e:Hm}{p:Nat}{r:Nat}{a Y:Int}{q:List Int}(d:e[p]? = some (.lst ((Sz (r+1) a++Y::q).map D.int)))(o:r<8)(l:a<Y)(Q:D×Hm->Prop)(H:Q (.int ((r+1:Nat):Int),e)):W (f (k+1) "run_of_least" [.loc p] e) Q:=by
 rw [OU,bV]
 simp only [bE,bQ,aO,SD,SE]
 refine DY (fun m i c=>e=c/\∃ j:Nat,j<=r/\m=r - j/\i=[some (.loc p),some (.int ((j+1:Nat):Int))]) r (by omega) ⟨rfl,0,Uo _,rfl,rfl⟩ ?_
 rintro m i c ⟨rfl,j,n,rfl,rfl⟩
 simp only [b6,aT,aF,aG,aO]
 by_cases h:j=r
 ·subst h
  refine (bT d (fJ EB)).mpr ?_
  refine (bT d (fJ (i:=0) (uN (Y:=Y) (Uo _)))).mpr ?_
  rw [w_eqI]
  have:(Y == a)=false:=by rw [beq_eq_false_iff_ne];omega
  rw [this]
  simp only [SI,if_false,bB,aG,aF]
  exact H
 ·refine (bT d (fJ (uN (Y:=Y) (by omega)))).mpr ?_
  refine (bT d (fJ (i:=0) (uN (Y:=Y) (Uo _)))).mpr ?_
  rw [w_eqI,beq_self_eq_true]
  simp only [if_true,bQ,aT,aG,aF,aO,w_addI,SD,SE]
  refine ⟨r - (j+1),by omega,?_⟩
  exact ⟨trivial,j+1,by omega,rfl,rfl⟩
theorem Rj (xs:List D){i:Nat}(h:i+1<=xs.length):e8 xs (some (i:Int)) (some (-1))=(xs.drop i).dropLast:=by
 unfold e8
 have a:HT.sIx xs.length 0 (some (i:Int))=i:=by
  rw [HT.sIx_nat];omega
 have c:HT.sIx xs.length xs.length (some (-1))=xs.length - 1:=by
  show (if (-1:Int)<0 then (-1+(xs.length:Int)).toNat else min (-1:Int).toNat xs.length)=_
  rw [if_pos (by decide)];omega
 rw [a,c,List.dropLast_eq_take,T8]
 congr 1
 omega
theorem zS:∀ (t k:Nat){v:Hm}{p:Nat}{gs:List Int}(q:v[p]? = some (.lst (gs.map D.int)))(l:GoodG gs)(hl:gs.length<=2 * t)(Q:D×Hm->Prop)(H:∀ A,v <+: A->Q (.int (dB gs:Nat),A)),W (f (k+t+1) "ways_to_fold" [.loc p] v) Q
 | 0,k,v,p,gs,q,l,hl,Q,H=>by have:=l.rgl;omega
 | t+1,k,v,p,gs,q,l,hl,Q,H=>by
  have hrg:=l.rgl
  have z:=Rc l
  obtain ⟨hm,u⟩:=Ey (is:=gs) (by omega)
  obtain ⟨G,N⟩:=Rb (is:=gs) (by omega)
  rw [show k+(t+1)+1=(k+t+1)+1 by omega,OV,bV]
  simp only [bE,c9,b6,aT,aU,aI,aH,aF]
  refine (D6 q (by omega)).mpr ?_
  refine (Qw q (by omega)).mpr ?_
  rw [w_eqI]
  by_cases hc:eT gs=g7 gs
  ·rw [hc,beq_self_eq_true]
   have e:gs=Sz gs.length (g7 gs):=List.eq_replicate_of_mem fun x E=>by
    have y:=u x E
    have h2:=N x E
    omega
   simp only [if_true,bB,aT,aO,aU,aI,aH,aF]
   refine (cK q).mpr ?_
   rw [Sx]
   refine (eY (by decide) (by decide)).mpr ?_
   refine w_subI.mpr ?_
   refine (cK q).mpr ?_
   rw [Sx,show ((gs.length:Nat):Int) / 2 - 1=((gs.length / 2 - 1:Nat):Int) by omega]
   refine Ew (k+t) (by omega) (by omega) _ ?_
   refine w_mul2.mpr ?_
   have y:=Q0 l.len (c:=g7 gs) (by have:=l.pos _ G;omega)
   rw [<- e] at y
   rw [<- y]
   exact H v (SV _)
  ·have L:(eT gs == g7 gs)=false:=by rw [beq_eq_false_iff_ne];exact hc
   rw [L]
   simp only [SI,if_false,dF,bQ,aU,aI,aH,aF]
   refine Rh (k+t) q (by omega) ⟨_,G,by have:=u _ G;omega⟩ _ fun j b μ1 hj y h2 p1 n=>?_
   have R:Rot gs (gs.drop j++gs.take j):=⟨gs.take j,gs.drop j,by simp,rfl⟩
   obtain ⟨r,Y,rest,X,e1,B,I⟩:=Q4 z l.alt u hj y h2
   have c:∀ g∈gs.drop j++gs.take j,1<=g:=fun x E=>l.pos x (by
    rcases T7.mp E with h|h
    ·exact V9 h
    ·exact WW h)
   have d:=R.len
   rw [e1] at R c d n
   have m:=R.ev z
   have o:=uI R z l.alt
   have O:r<7:=by have:=m.2.2;simp at this;omega
   have i:(Sz (r+1) (eT gs)++Y::rest++[X]).length=r+rest.length+3:=by simp;omega
   generalize eT gs=a at I B R c n m o d i
   have w:Sz (r+1) a++Y::rest++[X]=Sz (r+1) a++Y::(rest++[X]):=by simp
   simp only [SD,SE,aF,aG]
   refine Ri (k+t) (r:=r) (a:=a) (Y:=Y) (q:=rest++[X]) (by rw [<- w];exact n) (by omega) B _ ?_
   simp only [SD,SE,aT,aF,aG,aO,w_addI]
   refine (eY (by decide) (by decide)).mpr ?_
   rw [show ((r+1:Nat):Int)+1=((r+1+1:Nat):Int) by omega,show ((r+1+1:Nat):Int) / 2=(((r+1+1) / 2:Nat):Int) by omega]
   refine Ew (k+t) (by omega) (by omega) _ ?_
   simp only [SD,SE,aF,aG,jD,w_eqI]
   have hcp:0<gL ((r+1+1:Nat):Int) ((r+1+1) / 2)/\gL ((r+1+1:Nat):Int) ((r+1+1) / 2)<1000:=by
    have:∀ r:Nat,r<7->0<gL ((r+1+1:Nat):Int) ((r+1+1) / 2)/\gL ((r+1+1:Nat):Int) ((r+1+1) / 2)<1000:=by decide +kernel
    exact this r O
   by_cases M:(r+1) % 2=0
   ·obtain ⟨U,Z,w3⟩:=Q2 I B M m o
    have:(((r+1:Nat):Int) % 2 == 0)=true:=by rw [beq_iff_eq];omega
    rw [this]
    simp only [if_true,bB,aT,aF,aG,aU,aI,aH]
    refine k8 ?_
    simp only [aF,aG,jC,j5]
    refine ⟨b,rfl,_,n,?_⟩
    rw [uF _ (by rw [Sx,i];omega),U6,<- VA,w,ZY (by simp)]
    refine zS t k (gs:=Y::rest++[X]) (by rw [bD];rfl) (Ez w3 (fun g s=>c g (by rw [w];exact T7.mpr (.inr s))) Z) (by rw [i] at d;simp;omega) _ fun μ2 T=>?_
    refine (oE (.inl ⟨by omega,by omega⟩)).mpr ?_
    rw [<- U,<- rB R z]
    exact H _ ((p1.trans (aQ _ _)).trans T)
   ·obtain ⟨U,Z,w3⟩:=Q1 I B (by omega) m o
    have:(((r+1:Nat):Int) % 2 == 0)=false:=by rw [beq_eq_false_iff_ne];omega
    rw [this]
    simp only [SI,if_false,dF,bQ,aT,aF,aG,t5,aO]
    have J:((Sz (r+1) a++Y::rest++[X]).map D.int)[r+rest.length+2]? = some (.int X):=by
     rw [Tr,TU (by simp;omega)]
     have:r+rest.length+2 - (Sz (r+1) a++Y::rest).length=0:=by simp;omega
     rw [this]
     rfl
    have K:atI ((Sz (r+1) a++Y::rest++[X]).map D.int) (-1)=some (.int X):=by
     unfold atI
     have:fM ((Sz (r+1) a++Y::rest++[X]).map D.int).length (-1)=some (r+rest.length+2):=by
      rw [Sx,i]
      unfold fM
      rw [if_neg (by decide),if_pos (by omega)]
      congr 1
      omega
     rw [this,S1,J]
    refine (bT n K).mpr ?_
    refine (bT n (fJ (by rw [w];exact EB))).mpr ?_
    refine w_addI.mpr ?_
    refine (bT n (fJ (i:=0) (by rw [w];exact uN (Y:=Y) (Uo _)))).mpr ?_
    refine w_subI.mpr ?_
    simp only [SD,SE,bB,aT,aF,aG,aU,aI,aH]
    refine k8 ?_
    simp only [aT,aF,aG,jC,aO,w_addI,t5]
    refine ⟨b,rfl,_,n,?_⟩
    rw [show ((r+1:Nat):Int)+1=((r+1+1:Nat):Int) by omega,Rj _ (by rw [Sx,i];omega),<- VA,<- List.map_dropLast]
    have e3:((Sz (r+1) a++Y::rest++[X]).drop (r+1+1)).dropLast=rest:=by
     have:Sz (r+1) a++Y::rest++[X]=(Sz (r+1) a++[Y])++(rest++[X]):=by simp
     rw [this,ZY (by simp),List.dropLast_concat]
    rw [e3]
    simp only [dA,aI,aH,aF,aG]
    refine ⟨qN,?_⟩
    refine (gJ (aK (aQ _ _) (bD _ _)) (bD _ _) (by rw [Sx,S4];rw [i] at d;simp;omega)).mpr ?_
    refine zS t k (gs:=rest++[X+Y - a]) (by rw [bD,Tn];rfl) (Ez w3 (fun g s=>?_) Z) (by rw [i] at d;simp;omega) _ fun μ2 T=>?_
    ·rcases T7.mp s with s|s
     ·exact c g (by simp [s])
     ·have h4:=c X (by simp)
      rw [Vf.mp s]
      omega
    ·refine (oE (.inl ⟨by omega,by omega⟩)).mpr ?_
     rw [<- U,<- rB R z]
     exact H _ ((p1.trans (((aQ _ _).trans (aQ _ _)).trans (aQ _ _))).trans T)
theorem Rk (k:Nat){d:Hm}{p:Nat}{gs:List Int}(h:d[p]? = some (.lst (gs.map D.int)))(c:GoodG gs)(Q:D×Hm->Prop)(H:∀ a,d <+: a->Q (.int (dB gs:Nat),a)):W (f (k+6) "how_many" [.loc p] d) Q:=by
 have j:=c.rgl
 rw [OW,bV]
 simp only [bE,d6,aU,aI,aH,aF]
 refine oK (k+2) p gs c _ _ h fun m i=>?_
 simp only [bB,aU,aI,aH,aF]
 exact zS 4 k (aK i h) c (by omega) _ fun e l=>H e (i.trans l)
noncomputable def mY (i:Int):Bool:=decide (i % 2=1)
theorem EC {i:Int}{a:Hm}{Q:D×Hm->Prop}:W (aL (.str "hv") (.int (i % 2)) a) Q↔Q (.str (cI (mY i)),a):=by
 have h:i % 2=0\/i % 2=1:=by omega
 have e:atI (("hv":Str).cps.toList) (i % 2)=some (cV (mY i)):=by
  unfold mY
  rcases h with h|h<;>rw [h]<;>kernel_rfl
 rw [yW (by show ("hv":Str).cps.size<=SK;rw [S4];decide) e,<- k9]
theorem Rl {a:ME}{lo e:MO}{c:aJ}{i:Hm}{Q:D×Hm->Prop}(h:W (a c i) fun p=>∃ z,p.1=.str z/\W (lo c p.2) fun q=>W (e c q.2) fun r=>z.length<=SK/\Q (.str (fN z q.1 r.1),r.2)):W (dN a lo e c i) Q:=by
 unfold dN
 rw [W_bind]
 refine bM h fun p q=>?_
 obtain ⟨d,l⟩:=p
 obtain ⟨z,rfl,q⟩:=q
 rw [W_bind]
 refine bM q fun p q=>?_
 rw [W_bind]
 refine bM q fun p q=>?_
 obtain ⟨j,q⟩:=q
 dsimp only
 rw [if_pos j]
 exact W_some.mpr q
theorem ED (bs:List Bool):(a8 bs).cps.toList=bs.map cV:=by unfold a8;simp
theorem Rm {bs:List Bool}{j:Int}(h:0<=j/\j<=bs.length):fN (a8 bs) none (some j)=a8 (bs.take j.toNat):=by
 unfold fN
 have a:HT.sIx (a8 bs).length (a8 bs).length (some j)=j.toNat:=by
  rw [dH]
  show (if j<0 then (j+(bs.length:Int)).toNat else min j.toNat bs.length)=j.toNat
  rw [if_neg (by omega)];omega
 rw [a,HT.sIx_none,Wr,a0F,ED,<- V5]
 rfl
theorem Rn {bs:List Bool}{j:Int}(h:0<=j/\j<=bs.length):fN (a8 bs) (some j) none=a8 (bs.drop j.toNat):=by
 unfold fN
 have a:HT.sIx (a8 bs).length 0 (some j)=j.toNat:=by
  rw [dH]
  show (if j<0 then (j+(bs.length:Int)).toNat else min j.toNat bs.length)=j.toNat
  rw [if_neg (by omega)];omega
 rw [a,HT.sIx_none,ED,UC (by rw [T8,Sx,dH];exact SM _),<- VA]
 rfl
theorem Ro (a b:List Bool):a8 a++a8 b=a8 (a++b):=by
 show (⟨(a.map cV).toArray++(b.map cV).toArray⟩:Str)=⟨((a++b).map cV).toArray⟩
 simp
theorem Rq (b:Bool):cI b=a8 [b]:=by rw [k9];rfl
theorem EE {a b:List Bool}{c:Hm}{Q:D×Hm->Prop}(h:a.length+b.length<=100):W (aZ (.str (a8 a)) (.str (a8 b)) c) Q↔Q (.str (a8 (a++b)),c):=by
 rw [uA (by rw [dH,dH,S4];omega),Ro]
noncomputable def eG (l:List Int):Prop:=¬ (2<=l.length/\eL l=true)
theorem Rt {gs:List Int}(h:GoodG gs){k:Nat}(a:k<gs.length):eG (gs.eraseIdx k):=fun z=>by
 have c:=h.len
 have e:=Vo a
 have:=z.2
 unfold eL at this
 simp only [Sy,decide_eq_true_eq] at this
 omega
theorem Ru {gs:List Int}(h:GoodG gs){k:Nat}(a:k<gs.length){c:Int}(hc:1<=c):eG (gs.set k (gs.getD k 0+c)):=fun z=>by
 have:=z.2
 unfold eL at this
 rw [Sy,beq_iff_eq,uB gs k _ a,h.alt] at this
 have:=this.2
 split at this<;>omega
theorem Rv {gs:List Int}(h:GoodG gs):eG (gs.map fun g=>0 - g):=fun z=>by
 have:=z.2
 unfold eL at this
 simp only [Sy,TJ,decide_eq_true_eq] at this
 have e:=h.rgl
 have a:=Vc (l:=gs) (show 0<gs.length by omega)
 have c:=h.pos _ a
 have d:=this.1.2 (0 - gs[0]) (TC.mpr ⟨_,a,rfl⟩)
 omega
theorem Rw (x:Int):eG (Sz 10 x):=fun z=>by
 have:=z.2
 unfold eL at this
 rw [Ue] at this
 simp at this
theorem Ry:eG []:=fun z=>absurd z.1 (by decide)
noncomputable def jI (n:Nat)(l:List Int):Prop:=¬ l.Perm (cG n)
theorem zT {n:Nat}{l:List Int}(h:l.length≠n):jI n l:=fun z=>h (by rw [z.length_eq,mU])
theorem EF {n:Nat}{l:List Int}{x:Int}(a:x∈l)(h:¬ (0<=x/\x<n)):jI n l:=fun z=>h (mem_upto.mp (z.mem_iff.mp a))
theorem Rz {n:Nat}{a:List Int}(h:Ord n a){k:Nat}(d:k<a.length){x:Int}(p:x∈a)(o:x≠a[k]):jI n (a.set k x):=fun z=>by
 have nd:(a.set k x).Nodup:=z.nodup_iff.mpr (DK n)
 obtain ⟨j,m,rfl⟩:=Ug p
 have c:k≠j:=fun e=>o (by subst e;rfl)
 have i:(a.set k a[j])[k]? = some a[j]:=S7 d
 have l:(a.set k a[j])[j]? = some a[j]:=by rw [TR c];exact SN m
 exact c ((List.getElem?_inj (by rw [T4];exact d) nd).mp (i.trans l.symm))
theorem RA {n:Nat}{l:List Int}(h:jI n l):(eS l == cG n)=false:=by
 rw [beq_eq_false_iff_ne]
 intro e
 exact h (e ▸ (YS l _).symm)
theorem zU {m:MT}{c d:MR}{a:aJ}{e:Hm}(h:W (m a e) fun p=>(if p.1=true then c a p.2 else d a p.2)=none):eE m c d a e=none:=by
 obtain ⟨⟨b,l⟩,i,j⟩:=h
 unfold eE
 rw [i]
 exact j
theorem gM {m:MS}{d h:MR}{c:aJ}{a:Hm}(i:d c a=none)(j:∀ p,m c a=some p->p.1=.nx->h p.2.1 p.2.2=none):bO m d h c a=none:=by
 unfold bO
 rw [i]
 dsimp only
 split
 ·rename_i n l e
  exact j _ e rfl
 ·rfl
theorem jJ {m:MS}{d:MR}(h:∀ c a,d c a=none)(c:aJ)(a:Hm):bO m bG d c a=none:=gM rfl fun p _ _=>h _ _
theorem oQ (c:aJ)(a:Hm):bG c a=none:=rfl
theorem gN {r:RF}{c:MA}{e:aJ}{d a:Hm}{ds:List D}(h:c e d=some (ds,a))(i:r ds a=none):cP r c e d=none:=by
 unfold cP
 rw [h]
 show (r ds a).map _=none
 rw [i]
 rfl
theorem j9 {o:Option (Xn×aJ×Hm)}(h:o=none):gH o=none:=by rw [h];rfl
theorem zV {a:Type}{o:Option a}{P:a->Prop}(h:W o P){p:a}(e:o=some p):P p:=by
 obtain ⟨q,c,d⟩:=h
 rw [e] at c
 cases c
 exact d
noncomputable abbrev xN (c:Str):Xn:=(c,[])
theorem EG (k:Nat){a:Nat}{l:List Int}(i:l.length<=1000){d:Hm}(h:d[a]? = some (.lst (l.map D.int))){Q:Bool×Hm->Prop}(H:∀ b c,d <+: c->(b=true↔eG l)->Q (b,c)) :
  W (dR (aM (aC gE (aE bH (aB (aA 0) aD)) (mC (.int 2)))) (gC (dP (aE (f (k+2) "is_good") (aB (aA 0) aD)))) [some (.loc a)] d) Q:=by
 simp only [kZ,b6,aT,aU,aI,aH,aF,aO]
 refine (cK h).mpr ?_
 simp only [qH,Sx]
 by_cases e:(l.length:Int)<2
 ·simp only [e,decide_true,if_true]
  exact H _ _ (SV _) ⟨fun _ z=>by omega,fun _=>rfl⟩
 ·simp only [e,decide_false,SI,if_false,qF,iO,aU,aI,aH,aF]
  refine DJ k a l i _ _ h fun m j=>?_
  rw [w_truB]
  refine H _ _ j ?_
  unfold eG
  cases eL l<;>simp<;>omega
theorem rC (k:Nat){a:Nat}{l:List Int}(j:l.length<=1000)(e:eG l){c:Hm}(d:c[a]? = some (.lst (l.map D.int))):W (g (k+3) "check_round" [.loc a] c) fun q=>q.1=xN "NoRound"/\c <+: q.2:=by
 rw [Dz,hZ]
 refine fE (w_rIf.mpr (EG k j d fun b m i h=>?_))
 rw [h.mpr e,if_pos rfl]
 refine fE (w_rRaise.mpr ?_)
 simp only [aI,aH,aO]
 exact ⟨trivial,i⟩
theorem RB {gs:List Int}(h:GoodG gs):¬ eG gs:=fun z=>z ⟨h.rgl.1,h.b⟩
theorem mZ (k:Nat){a:Nat}{gs:List Int}(c:GoodG gs){d:Hm}(e:d[a]? = some (.lst (gs.map D.int))):g (k+3) "check_round" [.loc a] d=none:=by
 have:=c.rgl
 rw [Dz]
 refine j9 (gM (zU (EG k (by omega) e fun b i j h=>?_)) fun p _ _=>rfl)
 cases b with
 | true=>exact absurd (h.mp rfl) (RB c)
 | false=>rfl
theorem EH (k:Nat){p a:Nat}{gs h:List Int}(u:gs.length<=8)(s:h.length<=20){l:Hm}(q:l[p]? = some (.lst (gs.map D.int)))(m:l[a]? = some (.lst (h.map D.int))){Q:Bool×Hm->Prop}(H:∀ b c,l <+: c->(b=false↔eS h=cG gs.length)->Q (b,c)) :
  W (dR (gC (dP (aE kQ (aB (cR (eJ (aA 1)) cZ (aE (f (k+1) "is_whole") (aB (aA 2) aD))) aD)))) (aM (aC (aP true) (aE kU (aB (aA 1) aD)) (aE iL (aB (aE bH (aB (aA 0) aD)) aD)))) [some (.loc p),some (.loc a)] l) Q:=by
 simp only [kZ,qF,iO,aU,aI,aH]
 refine fD (xs:=h.map D.int) (p:=fun _=>true) (v:=fun _=>.bl true) ?_
 simp only [k4,aF,aG]
 refine (k7 m).mpr ?_
 refine ⟨k6 m,rfl,by rw [Sx,S4];omega,fun d c hd r=>w_mTrue.mpr ⟨rfl,SV _⟩,fun d c hd _ r=>?_,fun o e n=>?_⟩
 ·obtain ⟨x,_,rfl⟩:=mS hd
  simp only [S2,S5,aU,aI,aH,aF,aG,zA]
  exact ⟨trivial,SV _⟩
 ·have j:o[l.length]? = some (.lst ((h.map fun _=>true).map D.bl)):=by
   rw [n,oJ,Tv,Tv];rfl
  refine (yS j).mpr ?_
  have i:(h.map fun _=>true).all id=true:=by
   rw [WE];simp
  rw [i]
  simp only [w_truB,UK,SI,if_false,b6,aT,aU,aI,aH,aF,aG]
  refine (Dx (aK e m) (by omega)).mpr ?_
  refine (cK (aK (e.trans (aQ _ _)) q)).mpr ?_
  rw [Sx]
  refine (Dy (by omega)).mpr ?_
  rw [show ((gs.length:Nat):Int).toNat=gs.length by omega]
  refine (yV (aK (aQ _ _) (bD _ _)) (bD _ _)).mpr ?_
  refine H _ _ (e.trans ((aQ _ _).trans (aQ _ _))) ?_
  rw [Bool.not_eq_false',beq_iff_eq]
  exact Iff.rfl
theorem EI (k:Nat){e a:Nat}{gs c:List Int}(p:gs.length<=8)(n:c.length<=20)(j:jI gs.length c){d:Hm}(l:d[e]? = some (.lst (gs.map D.int)))(i:d[a]? = some (.lst (c.map D.int))):W (g (k+3) "check_order" [.loc e,.loc a] d) fun q=>q.1=xN "NoOrder"/\d <+: q.2:=by
 rw [DA,hZ]
 refine fE (w_rIf.mpr (EH (k+1) p n l i fun b r o h=>?_))
 have m:¬ eS c=cG gs.length:=beq_eq_false_iff_ne.mp (RA j)
 cases b with
 | false=>exact absurd (h.mp rfl) m
 | true=>
  rw [if_pos rfl]
  refine fE (w_rRaise.mpr ?_)
  simp only [aI,aH,aO]
  exact ⟨trivial,o⟩
theorem EJ (k:Nat){d a:Nat}{gs i:List Int}(m:gs.length<=8)(e:Ord gs.length i){c:Hm}(l:c[d]? = some (.lst (gs.map D.int)))(j:c[a]? = some (.lst (i.map D.int))):g (k+3) "check_order" [.loc d,.loc a] c=none:=by
 have:=e.len
 rw [DA]
 refine j9 (gM (zU (EH (k+1) m (by omega) l j fun b n o h=>?_)) fun p _ _=>rfl)
 rw [h.mpr e.sort]
 rfl
noncomputable def rD (t:Str):Nat:=(T3 t "h" 0 t.length (t.length+1)).length+(T3 t "v" 0 t.length (t.length+1)).length
noncomputable def lF (n:Nat)(t:Str):Prop:=¬ (t.length=n/\rD t=n)
theorem w_lenT' {t:Str}(h:t.length<=100){a:Hm}{Q:D×Hm->Prop}:W (bH [.str t] a) Q↔Q (.int t.length,a):=by
 have e:bH [.str t] a=some (.int t.length,a):=by
  show (if t.length<=SK then some (D.int t.length,a) else none)=_
  rw [if_pos (by rw [S4];omega)]
 rw [e]
 exact W_some
theorem EK {d:Nat}{gs:List Int}{t:Str}(e:t.length<=100){c:Hm}(i:c[d]? = some (.lst (gs.map D.int))){Q:Bool×Hm->Prop}(H:∀ b,(b=true↔lF gs.length t)->Q (b,c)) :
  W (dR (aM (aC (aP true) (aE bH (aB (aA 1) aD)) (aE bH (aB (aA 0) aD)))) (aM (aC (aP true) (aC aZ (eK gZ (aA 1) (aB (mC (.str "h")) aD)) (eK gZ (aA 1) (aB (mC (.str "v")) aD))) (aE bH (aB (aA 1) aD)))) [some (.loc d),some (.str t)] c) Q:=by
 simp only [kZ,b6,aT,aU,aI,aH,aF,aG,aO]
 rw [w_lenT' e,cK i]
 simp only [w_neI,Sx]
 by_cases h:t.length=gs.length
 ·have a:((t.length:Int) == (gs.length:Int))=true:=by rw [beq_iff_eq];omega
  simp only [a,UK,SI,if_false,b6,aT,aF,aG]
  refine oG ?_
  simp only [aF,aG]
  refine ⟨_,rfl,?_⟩
  simp only [aI,aH,aO,uG]
  refine oG ?_
  simp only [aF,aG]
  refine ⟨_,rfl,?_⟩
  simp only [aI,aH,aO,uG,w_addI,aU,aF,aG]
  rw [w_lenT' e]
  simp only [w_neI]
  refine H _ ?_
  rw [VM,beq_eq_false_iff_ne]
  unfold lF rD
  omega
 ·have a:((t.length:Int) == (gs.length:Int))=false:=by rw [beq_eq_false_iff_ne];omega
  simp only [a,WZ,if_true]
  exact H _ ⟨fun _ z=>h z.1,fun _=>rfl⟩
theorem RC (k:Nat){c:Nat}{gs:List Int}{t:Str}(i:t.length<=100)(d:lF gs.length t){a:Hm}(e:a[c]? = some (.lst (gs.map D.int))):W (g (k+3) "check_row" [.loc c,.str t] a) fun q=>q.1=xN "NoMark"/\a <+: q.2:=by
 rw [DC,hZ]
 refine fE (w_rIf.mpr (EK i e fun b h=>?_))
 rw [h.mpr d,if_pos rfl]
 refine fE (w_rRaise.mpr ?_)
 simp only [aI,aH,aO]
 exact ⟨trivial,SV _⟩
theorem RD {gs:List Int}{bs:List Bool}(c:GoodG gs)(a:bs.length=gs.length):¬ lF gs.length (a8 bs):=fun z=>by
 have d:=c.len
 have hc:qX bs=true:=by
  have:=TJ.mp D5 bs.length (by rw [a];rcases d with h|h|h|h<;>rw [h]<;>decide)
  exact TJ.mp this bs (zG bs)
 unfold qX at hc
 rw [beq_iff_eq] at hc
 refine z ⟨by rw [dH,a],?_⟩
 unfold rD
 omega
theorem RE (k:Nat){a:Nat}{gs:List Int}{bs:List Bool}(c:GoodG gs)(e:bs.length=gs.length){d:Hm}(i:d[a]? = some (.lst (gs.map D.int))):g (k+3) "check_row" [.loc a,.str (a8 bs)] d=none:=by
 have:=c.rgl
 rw [DC]
 refine j9 (gM (zU (EK (by rw [dH];omega) i fun b h=>?_)) fun p _ _=>rfl)
 cases b with
 | true=>exact absurd (h.mp rfl) (RD c e)
 | false=>rfl
section
variable {gp op:Nat}{gs os:List Int}{μ:Hm}{t:Str}{bs:List Bool}
theorem EL (k:Nat)(e:gs.length<=1000)(c:eG gs)(d:μ[gp]? = some (.lst (gs.map D.int))):W (g (k+4) "spots_of" [.loc gp] μ) fun q=>q.1=xN "NoRound"/\μ <+: q.2:=by
 have a:=DB (k+1) (.loc gp) μ
 rw [a,hZ]
 refine fE (w_rCall.mpr ?_)
 simp only [aI,aH,aF]
 exact rC k e c d
theorem zW (k:Nat)(c:GoodG gs)(d:μ[gp]? = some (.lst (gs.map D.int))):g (k+4) "spots_of" [.loc gp] μ=none:=by
 have a:=DB (k+1) (.loc gp) μ
 rw [a]
 exact j9 (gM (gN rfl (mZ k c d)) fun p _ _=>jJ (fun _ _=>jJ (fun _ _=>jJ oQ _ _) _ _) _ _)
theorem RG (k:Nat)(h:gs.length<=1000)(c:eG gs)(e:μ[gp]? = some (.lst (gs.map D.int)))(d:D):W (g (k+5) "shut_at" [.loc gp,d] μ) fun q=>q.1=xN "NoRound"/\μ <+: q.2:=by
 have a:=yY (k+2) (.loc gp) d μ
 rw [a,hZ]
 refine fE (w_rCall.mpr ?_)
 simp only [aI,aH,aF]
 exact EL k h c e
theorem RH (k:Nat)(c:GoodG gs)(m:os.length<=20)(l:jI gs.length os)(d:μ[gp]? = some (.lst (gs.map D.int)))(j:μ[op]? = some (.lst (os.map D.int))):W (g (k+5) "shut_at" [.loc gp,.loc op] μ) fun q=>q.1=xN "NoOrder"/\μ <+: q.2:=by
 have i:=yY (k+2) (.loc gp) (.loc op) μ
 rw [i,hZ]
 refine yX (gN rfl (zW k c d)) ?_
 simp only [bQ,aU,aI,aH,aF]
 refine uD _ gp gs c _ _ d fun a n e=>?_
 intros
 refine ⟨trivial,fE (w_rCall.mpr ?_)⟩
 simp only [SD,SE,aI,aH,aF,aG]
 exact bM (EI (k+1) c.rgl.2 m l (aK e d) (aK e j)) fun q h=>⟨h.1,e.trans h.2⟩
theorem RI (k:Nat)(d:GoodG gs)(l:Ord gs.length os)(e:μ[gp]? = some (.lst (gs.map D.int)))(j:μ[op]? = some (.lst (os.map D.int))):g (k+5) "shut_at" [.loc gp,.loc op] μ=none:=by
 have i:=yY (k+2) (.loc gp) (.loc op) μ
 rw [i]
 refine j9 (gM (gN rfl (zW k d e)) fun p m _=>?_)
 have n:W (aW 2 (aE (f (k+2+2) "spots_of") (aB (aA 0) aD)) [some (.loc gp),some (.loc op),none,none,none,none] μ) fun p=>∃ o,p.2.1=[some (.loc gp),some (.loc op),o,none,none,none]/\μ <+: p.2.2:=by
  simp only [bQ,aU,aI,aH,aF]
  refine uD _ gp gs d _ _ e fun a q c=>?_
  intros
  exact ⟨_,rfl,c⟩
 obtain ⟨o,h,c⟩:=zV n m
 rw [h]
 exact gM (gN rfl (EJ (k+1) d.rgl.2 l (aK c e) (aK c j))) fun p _ _=>jJ (fun _ _=>jJ oQ _ _) _ _
theorem RJ (k:Nat)(h:gs.length<=1000)(c:eG gs)(e:μ[gp]? = some (.lst (gs.map D.int)))(d:D):W (g (k+4) "marks_of" [.loc gp,d] μ) fun q=>q.1=xN "NoRound"/\μ <+: q.2:=by
 have a:=yZ (k+1) (.loc gp) d μ
 rw [a,hZ]
 refine fE (w_rCall.mpr ?_)
 simp only [aI,aH,aF]
 exact rC k h c e
theorem uO (k:Nat)(c:GoodG gs)(d:μ[gp]? = some (.lst (gs.map D.int)))(a:aJ):W (bC (aE (f (k+3) "check_round") (aB (aA 0) aD)) (some (.loc gp)::a) μ) fun p=>p.1=.nx/\p.2.1=some (.loc gp)::a/\μ <+: p.2.2:=by
 simp only [d6,aU,aI,aH,aF]
 exact oK k gp gs c _ _ d fun h e=>⟨trivial,trivial,e⟩
theorem RK (k:Nat)(a:GoodG gs)(l:os.length<=20)(j:jI gs.length os)(c:μ[gp]? = some (.lst (gs.map D.int)))(i:μ[op]? = some (.lst (os.map D.int))):W (g (k+4) "marks_of" [.loc gp,.loc op] μ) fun q=>q.1=xN "NoOrder"/\μ <+: q.2:=by
 have e:=yZ (k+1) (.loc gp) (.loc op) μ
 rw [e,hZ]
 refine yX (gN rfl (mZ k a c)) (bM (uO k a c _) ?_)
 rintro ⟨n,o,m⟩ ⟨rfl,rfl,d⟩
 refine ⟨rfl,fE (w_rCall.mpr ?_)⟩
 simp only [aI,aH,aF,aG]
 exact bM (EI k a.rgl.2 l j (aK d c) (aK d i)) fun q h=>⟨h.1,d.trans h.2⟩
theorem RL (k:Nat)(a:GoodG gs)(j:Ord gs.length os)(c:μ[gp]? = some (.lst (gs.map D.int)))(i:μ[op]? = some (.lst (os.map D.int))):g (k+4) "marks_of" [.loc gp,.loc op] μ=none:=by
 have h:=yZ (k+1) (.loc gp) (.loc op) μ
 rw [h]
 refine j9 (gM (gN rfl (mZ k a c)) fun p l _=>?_)
 obtain ⟨_,e,d⟩:=zV (uO k a c _) l
 rw [e]
 exact gM (gN rfl (EJ k a.rgl.2 j (aK d c) (aK d i))) fun p _ _=>jJ (fun _ _=>jJ oQ _ _) _ _
theorem RM (k:Nat)(h:gs.length<=1000)(c:eG gs)(e:μ[gp]? = some (.lst (gs.map D.int)))(d:D):W (g (k+4) "order_for" [.loc gp,d] μ) fun q=>q.1=xN "NoRound"/\μ <+: q.2:=by
 have a:=y3 (k+1) (.loc gp) d μ
 rw [a,hZ]
 refine fE (w_rCall.mpr ?_)
 simp only [aI,aH,aF]
 exact rC k h c e
theorem RN (k:Nat)(c:GoodG gs)(j:t.length<=100)(i:lF gs.length t)(a:μ[gp]? = some (.lst (gs.map D.int))):W (g (k+4) "order_for" [.loc gp,.str t] μ) fun q=>q.1=xN "NoMark"/\μ <+: q.2:=by
 have e:=y3 (k+1) (.loc gp) (.str t) μ
 rw [e,hZ]
 refine yX (gN rfl (mZ k c a)) (bM (uO k c a _) ?_)
 rintro ⟨m,n,l⟩ ⟨rfl,rfl,d⟩
 refine ⟨rfl,fE (w_rCall.mpr ?_)⟩
 simp only [aI,aH,aF,aG]
 exact bM (RC k j i (aK d a)) fun q h=>⟨h.1,d.trans h.2⟩
theorem RO (k:Nat)(a:GoodG gs)(h:bs.length=gs.length)(c:μ[gp]? = some (.lst (gs.map D.int))):g (k+4) "order_for" [.loc gp,.str (a8 bs)] μ=none:=by
 have e:=y3 (k+1) (.loc gp) (.str (a8 bs)) μ
 rw [e]
 refine j9 (gM (gN rfl (mZ k a c)) fun p i _=>?_)
 obtain ⟨_,d,j⟩:=zV (uO k a c _) i
 rw [d]
 exact gM (gN rfl (RE k a h (aK j c))) fun p _ _=>jJ oQ _ _
theorem RP (k:Nat)(e:gs.length<=1000)(c:eG gs)(d:μ[gp]? = some (.lst (gs.map D.int))):W (g (k+4) "all_marks" [.loc gp] μ) fun q=>q.1=xN "NoRound"/\μ <+: q.2:=by
 have a:=DD (k+1) (.loc gp) μ
 rw [a,hZ]
 refine fE (w_rCall.mpr ?_)
 simp only [aI,aH,aF]
 exact rC k e c d
theorem RQ (k:Nat)(c:GoodG gs)(d:μ[gp]? = some (.lst (gs.map D.int))):g (k+4) "all_marks" [.loc gp] μ=none:=by
 have a:=DD (k+1) (.loc gp) μ
 rw [a]
 exact j9 (gM (gN rfl (mZ k c d)) fun p _ _=>jJ oQ _ _)
theorem RR (k:Nat)(e:gs.length<=1000)(c:eG gs)(d:μ[gp]? = some (.lst (gs.map D.int))):W (g (k+4) "how_many" [.loc gp] μ) fun q=>q.1=xN "NoRound"/\μ <+: q.2:=by
 have a:=DE (k+1) (.loc gp) μ
 rw [a,hZ]
 refine fE (w_rCall.mpr ?_)
 simp only [aI,aH,aF]
 exact rC k e c d
theorem RT (k:Nat)(c:GoodG gs)(d:μ[gp]? = some (.lst (gs.map D.int))):g (k+4) "how_many" [.loc gp] μ=none:=by
 have a:=DE (k+1) (.loc gp) μ
 rw [a]
 exact j9 (gM (gN rfl (mZ k c d)) fun p _ _=>jJ oQ _ _)
theorem EM {A B:ME}{x y:Int}{a:aJ}{μ:Hm}(c:A a μ=some (.int x,μ))(d:B a μ=some (.int y,μ)):aM (aC (aP false) A B) a μ=some (x == y,μ):=by
 have:W (aM (aC (aP false) A B) a μ) fun p=>p=(x == y,μ):=by
  rw [b6,aT,c,W_some,d,W_some,w_eqI]
 obtain ⟨p,e,rfl⟩:=this
 exact e
theorem rF {m:MT}{c d:MR}{a:aJ}{μ:Hm}(h:m a μ=some (true,μ)):eE m c d a μ=c a μ:=by unfold eE;rw [h];rfl
theorem fK {m:MT}{d c:MR}{a:aJ}{μ:Hm}(h:m a μ=some (false,μ)):eE m d c a μ=c a μ:=by unfold eE;rw [h];rfl
theorem cL {m:MS}{a:MR}{c:aJ}{μ:Hm}:bO m a bG c μ=a c μ:=by
 unfold bO
 split
 ·rename_i h;exact h.symm
 ·rename_i h
  rw [h]
  split<;>rfl
noncomputable def RU:Int->Str
 | 0=>"shut_at"
 | 1=>"marks_of"
 | 2=>"order_for"
 | 3=>"spots_of"
 | 4=>"all_marks"
 | _=>"how_many"
noncomputable def RV (d:Int)(a b c:D):List D:=if d=0\/d=1 then [a,b] else if d=2 then [a,c] else [a]
theorem uP (k:Nat)(d:Int)(j:0<=d/\d<6)(a b c:D)(μ:Hm):g (k+3) "_law_asked" [.int d,a,b,c] μ=g (k+2) (RU d) (RV d a b c) μ:=by
 rw [O2]
 have t:∀ n:Int,aM (aC (aP false) (aA 0) (mC (.int n))) [some (.int d),some a,some b,some c] μ=some (d == n,μ):=fun n=>EM rfl rfl
 have aV:∀ {r:RF}{e:MA}{ds:List D},e [some (.int d),some a,some b,some c] μ=some (ds,μ)->gH (cP r e [some (.int d),some a,some b,some c] μ)=r ds μ:=fun {r e ds} h=>by
  unfold cP
  rw [h]
  show ((r ds μ).map _).map _=_
  cases r ds μ<;>rfl
 have i:d=0\/d=1\/d=2\/d=3\/d=4\/d=5:=by omega
 rcases i with h|h|h|h|h|h<;>subst h
 ·rw [cL,rF (t 0),cL];exact aV rfl
 ·rw [cL,fK (t 0),cL,rF (t 1),cL];exact aV rfl
 ·rw [cL,fK (t 0),cL,fK (t 1),cL,rF (t 2),cL];exact aV rfl
 ·rw [cL,fK (t 0),cL,fK (t 1),cL,fK (t 2),cL,rF (t 3),cL];exact aV rfl
 ·rw [cL,fK (t 0),cL,fK (t 1),cL,fK (t 2),cL,fK (t 3),cL,rF (t 4),cL];exact aV rfl
 ·rw [cL,fK (t 0),cL,fK (t 1),cL,fK (t 2),cL,fK (t 3),cL,fK (t 4),cL];exact aV rfl
theorem RW (k:Nat){a:Int}(l:0<=a/\a<6)(i:gs.length<=1000)(d:eG gs)(e:μ[gp]? = some (.lst (gs.map D.int)))(b c:D):W (g (k+6) "_law_asked" [.int a,.loc gp,b,c] μ) fun q=>q.1=xN "NoRound"/\μ <+: q.2:=by
 rw [uP (k+3) a l]
 have j:a=0\/a=1\/a=2\/a=3\/a=4\/a=5:=by omega
 rcases j with h|h|h|h|h|h<;>subst h
 ·exact RG k i d e b
 ·exact RJ (k+1) i d e b
 ·exact RM (k+1) i d e c
 ·exact EL (k+1) i d e
 ·exact RP (k+1) i d e
 ·exact RR (k+1) i d e
theorem RX (k:Nat){a:Int}(m:a=0\/a=1)(d:GoodG gs)(l:os.length<=20)(i:jI gs.length os)(j:μ[gp]? = some (.lst (gs.map D.int)))(e:μ[op]? = some (.lst (os.map D.int)))(c:D):W (g (k+6) "_law_asked" [.int a,.loc gp,.loc op,c] μ) fun q=>q.1=xN "NoOrder"/\μ <+: q.2:=by
 rw [uP (k+3) a (by omega)]
 rcases m with h|h<;>subst h
 ·exact RH k d l i j e
 ·exact RK (k+1) d l i j e
theorem RY (k:Nat)(a:GoodG gs)(e:t.length<=100)(c:lF gs.length t)(d:μ[gp]? = some (.lst (gs.map D.int)))(b:D):W (g (k+6) "_law_asked" [.int 2,.loc gp,b,.str t] μ) fun q=>q.1=xN "NoMark"/\μ <+: q.2:=by
 rw [uP (k+3) 2 (by decide)]
 exact RN (k+1) a e c d
theorem RZ (k:Nat){a:Int}(m:0<=a/\a<6)(c:GoodG gs)(i:Ord gs.length os)(l:bs.length=gs.length)(d:μ[gp]? = some (.lst (gs.map D.int)))(e:μ[op]? = some (.lst (os.map D.int))):g (k+6) "_law_asked" [.int a,.loc gp,.loc op,.str (a8 bs)] μ=none:=by
 rw [uP (k+3) a m]
 have j:a=0\/a=1\/a=2\/a=3\/a=4\/a=5:=by omega
 rcases j with h|h|h|h|h|h<;>subst h
 ·exact RI k c i d e
 ·exact RL (k+1) c i d e
 ·exact RO (k+1) c l d
 ·exact zW (k+1) c d
 ·exact RQ (k+1) c d
 ·exact RT (k+1) c d
end
section
variable {gp op:Nat}{gs os:List Int}{μ:Hm}{bs:List Bool}
theorem R0 (k:Nat){a:Int}(z:0<=a/\a<6)(i:GoodG gs)(v:Ord gs.length os)(x:bs.length=gs.length)(j:μ[gp]? = some (.lst (gs.map D.int)))(u:μ[op]? = some (.lst (os.map D.int)))(Q:D×Hm->Prop)(H:∀ c,μ <+: c->Q (.non,c)) :
  W (f (k+7) "_law_asked" [.int a,.loc gp,.loc op,.str (a8 bs)] μ) Q:=by
 rw [O1,bV]
 have t:∀ n:Int,aM (aC (aP false) (aA 0) (mC (.int n))) [some (.int a),some (.loc gp),some (.loc op),some (.str (a8 bs))] μ=some (a == n,μ):=fun n=>EM rfl rfl
 have y:a=0\/a=1\/a=2\/a=3\/a=4\/a=5:=by omega
 have e:∀ {n:Int}{A B:MS}{R:Fl×aJ×Hm->Prop},a=n->W (A [some (.int a),some (.loc gp),some (.loc op),some (.str (a8 bs))] μ) R->W (a9 (aM (aC (aP false) (aA 0) (mC (.int n)))) A B [some (.int a),some (.loc gp),some (.loc op),some (.str (a8 bs))] μ) R:=fun {n A B R} h w=>by
  rw [c9,t n,W_some,beq_iff_eq.mpr h]
  exact w
 have l:∀ {n:Int}{A B:MS}{R:Fl×aJ×Hm->Prop},a≠n->W (B [some (.int a),some (.loc gp),some (.loc op),some (.str (a8 bs))] μ) R->W (a9 (aM (aC (aP false) (aA 0) (mC (.int n)))) A B [some (.int a),some (.loc gp),some (.loc op),some (.str (a8 bs))] μ) R:=fun {n A B R} h w=>by
  rw [c9,t n,W_some,beq_eq_false_iff_ne.mpr h]
  exact w
 by_cases m:a=0
 ·refine e m ?_
  simp only [d6,aU,aI,aH,aF,aG]
  exact PY (k+1) gp op gs os i v _ _ j u fun d c p _=>H _ p
 refine l m ?_
 by_cases o:a=1
 ·refine e o ?_
  simp only [d6,aU,aI,aH,aF,aG]
  exact P4 (k+2) gp op gs os i v _ _ j u fun c p=>H _ p
 refine l o ?_
 by_cases q:a=2
 ·refine e q ?_
  simp only [d6,aU,aI,aH,aF,aG]
  exact Qv (k+2) j i x _ fun d c p _=>H _ p
 refine l q ?_
 by_cases r:a=3
 ·refine e r ?_
  simp only [d6,aU,aI,aH,aF,aG]
  exact uD (k+2) gp gs i _ _ j fun b c p _ _=>H _ p
 refine l r ?_
 by_cases s:a=4
 ·refine e s ?_
  simp only [d6,aU,aI,aH,aF,aG]
  exact Ra (k+2) j i _ fun b c p _=>H _ p
 refine l s ?_
 simp only [d6,aU,aI,aH,aF,aG]
 exact Rk k j i _ fun c p=>H _ p
end
theorem R6 {s:Str->Option Bool}{x:Str}{ns:List Str}{ds:List D}{b:Bool}{i a:Nat}{d:aJ}{c:Hm}{Q:D×Hm->Prop}(l:d[i]? = some (some (.loc a)))(h:c[a]? = some (.exc x ns ds))(j:s x=some b):W (b9 s (aA i) d c) Q↔Q (.bl b,c):=by
 have e:b9 s (aA i) d c=some (.bl b,c):=by simp [b9,aA,l,h,j]
 rw [e]
 exact W_some
theorem R8 {c:Hm}{a:Nat}{xs:List D}{i:Int}{d:D}{Q:D×Hm->Prop}(h:c[a]? = some (.lst xs))(j:atI xs i=some d):W (dY (.loc a) (.int i) c) Q↔Q (d,c):=by
 have e:dY (.loc a) (.int i) c=some (d,c):=by simp only [dY,bS,h,S1,j,TB]
 rw [e]
 exact W_some
noncomputable def rG (b1 b2 b3:Bool):List Bool:=[true,b1,b2,b3]++[false,false,false,false]++[false,false,false,false]++[false,false]
theorem Sa {bs:List Bool}{i:Nat}(h:i<bs.length):atI (bs.map D.bl) (i:Int)=some (.bl (bs.getD i false)):=by
 refine fJ ?_
 rw [Tr,To,SN h]
 rfl
theorem Sb {x:Str}{b1 b2 b3:Bool}(r:sup "ValueError" x=some true) (y:sup "NoRound" x=some b1) (z:sup "NoOrder" x=some b2) (A:sup "NoMark" x=some b3)
  (M:∀ c∈(["Barred","NoEdge","NoFold","NoName","NoRow","NoSize","NoText","Taken","TooMany","Twice"]:List Str),sup c x=some false) {a:Nat}{o:Hm}(ha:o[a]? = some (C.exc x [] []))(Q:D×Hm->Prop)
  (H:∀ b e,o <+: e->o.length<=b->e[b]? = some (.lst ((cH 0 14).filter fun d=>(rG b1 b2 b3).getD (dJ d).toNat false))->Q (.loc b,e)):W (jA S "_law_kinds" [.loc a] o) Q:=by
 rw [O0,bV]
 have one:∀ {cn:Str}{b:Bool}{G:aJ}{e:Hm}{l:D×Hm->Prop},e[a]? = some (C.exc x [] [])->sup cn x=some b->(W (b9 (sup cn) (aA 0) (some (.loc a)::G) e) l↔l (.bl b,e)):=fun r M=>R6 rfl r M
 have l4:∀ {G:aJ}{e:Hm}{s u v w:Str}{T U X Y:Bool}{l:D×Hm->Prop},e[a]? = some (C.exc x [] [])->sup s x=some T->sup u x=some U->sup v x=some X->sup w x=some Y->l (.loc e.length,e++[C.lst ([T,U,X,Y].map D.bl)])->
   W (bU (aB (b9 (sup s) (aA 0)) (aB (b9 (sup u) (aA 0)) (aB (b9 (sup v) (aA 0)) (aB (b9 (sup w) (aA 0)) aD)))) (some (.loc a)::G) e) l:=fun {G e s u v w T U X Y l} r y z A K k=>by
  simp only [dA,aI,aH]
  rw [one r y,one r z,one r A,one r K]
  exact ⟨by show (4:Nat)<=SK;decide,k⟩
 have m:∀ {c:Str},c∈(["Barred","NoEdge","NoFold","NoName","NoRow","NoSize","NoText","Taken","TooMany","Twice"]:List Str)->sup c x=some false:=fun {c} h=>M c h
 rw [bE,bQ]
 refine l4 ha r y z A ?_
 simp only [SD,SE]
 have N:=aQ o (C.lst ([true,b1,b2,b3].map D.bl))
 have I:=bD o (C.lst ([true,b1,b2,b3].map D.bl))
 have B:=aK N ha
 generalize o++[C.lst ([true,b1,b2,b3].map D.bl)]=μ1 at N I B
 generalize o.length=n1 at I
 have q:∀ {xs:List Bool}{n:Nat}{e:Hm}{s u v w:Str}{l:D×Hm->Prop},e[a]? = some (C.exc x [] [])->e[n]? = some (.lst (xs.map D.bl))->xs.length<=20->sup s x=some false->sup u x=some false->sup v x=some false->sup w x=some false->
   (∀ n' p,e <+: p->p[n']? = some (.lst ((xs++[false,false,false,false]).map D.bl))->l (.loc n',p))->W (aC aZ (aA 1) (bU (aB (b9 (sup s) (aA 0)) (aB (b9 (sup u) (aA 0)) (aB (b9 (sup v) (aA 0)) (aB (b9 (sup w) (aA 0)) aD))))) [some (.loc a),some (.loc n)] e) l:=fun {xs n e s u v w l} e0 e1 hl y z A K k=>by
  simp only [aT,aF,aG]
  refine l4 e0 y z A K ?_
  refine (gJ (aK (aQ _ _) e1) (bD _ _) (by rw [Sx,Sx,S4];simp only [SY,WN];omega)).mpr ?_
  refine k _ _ ((aQ _ _).trans (aQ _ _)) ?_
  rw [Tn]
  exact bD _ _
 rw [bE,bQ]
 refine q B I (WT rfl) (m (by decide)) (m (by decide)) (m (by decide)) (m (by decide)) fun n2 p O g2=>?_
 simp only [SD,SE]
 rw [bE,bQ]
 refine q (aK O B) g2 (WT rfl) (m (by decide)) (m (by decide)) (m (by decide)) (m (by decide)) fun n3 j p3 g3=>?_
 simp only [SD,SE]
 have Z:=aK (O.trans p3) B
 rw [bE]
 simp only [bQ,aT,dA,aI,aH,aF,aG]
 rw [one Z (m (by decide)),one Z (m (by decide))]
 refine ⟨by show (2:Nat)<=SK;decide,?_⟩
 refine (gJ (aK (aQ _ _) g3) (bD _ _) (by show (14:Nat)<=SK;decide)).mpr ?_
 simp only [SD,SE,bB]
 have J:(j++[C.lst [D.bl false,D.bl false]]++[C.lst (([true,b1,b2,b3]++[false,false,false,false]++[false,false,false,false]).map D.bl++[D.bl false,D.bl false])])[(j++[C.lst [D.bl false,D.bl false]]).length]? = some (.lst ((rG b1 b2 b3).map D.bl)):=bD _ _
 have R:o <+: (j++[C.lst [D.bl false,D.bl false]]++[C.lst (([true,b1,b2,b3]++[false,false,false,false]++[false,false,false,false]).map D.bl++[D.bl false,D.bl false])]):=N.trans ((O.trans p3).trans ((aQ _ _).trans (aQ _ _)))
 generalize (j++[C.lst [D.bl false,D.bl false]]++[C.lst (([true,b1,b2,b3]++[false,false,false,false]++[false,false,false,false]).map D.bl++[D.bl false,D.bl false])])=μ4 at J R
 generalize (j++[C.lst [D.bl false,D.bl false]]).length=n4 at J
 refine fD (xs:=cH 0 14) (p:=fun d=>(rG b1 b2 b3).getD (dJ d).toNat false) (v:=fun d=>d) ?_
 have L:cN (aB (mC (.int 14)) aD) [some (.loc a),some (.loc n4)] μ4=some (iE 0 14,15,μ4):=rfl
 rw [L,W_some]
 refine ⟨mP,by simp [cH],by rw [S4];simp [cH],fun d e hd E=>?_,fun d e hd _ E=>?_,fun e E hg=>?_⟩
 ·obtain ⟨i,hi,rfl⟩:=qO hd
  simp only [S2,S5,b6,aT,aF,aG]
  rw [YD,R8 (aK E J) (Sa (bs:=rG b1 b2 b3) (by show i<14;exact hi))]
  exact ⟨rfl,SV _⟩
 ·simp only [S2,S5,aF,aG]
  exact ⟨trivial,SV _⟩
 ·rw [a0w] at hg
  exact H _ _ (R.trans E) R.length_le hg
theorem uQ {c:Hm}{a:Nat}{is:List Int}(d:is.length<=1000)(h:c[a]? = some (.lst (is.map D.int))){Q:D×Hm->Prop}:W (iX [.loc a] c) Q↔Q (.loc c.length,c++[.lst (is.map D.int)]):=Oa h (by rw [Sx,S4];omega)
noncomputable abbrev hnd (a:Hm)(gs c:List Int):Hm:=a++[.lst (gs.map D.int)]++[.lst (c.map D.int)]++[.lst [.loc a.length,.loc (a.length+1)]]++[.lst []]
theorem EO (k:Nat){p q:Nat}{gs e:List Int}(I:gs.length<=20)(J:e.length<=20){a:Hm}(y:a[p]? = some (.lst (gs.map D.int)))(z:a[q]? = some (.lst (e.map D.int)))(d c:D){rs:List Int}(Q:D×Hm->Prop)
  (T:∀ h n A R,a <+: h->h[n]? = some (.lst (gs.map D.int))->h[A]? = some (.lst (e.map D.int))->(∀ i j o,h <+: j->a.length<=i->j[i]? = some (.lst (rs.map D.int))->R (.nx,[some d,some (.loc p),some (.loc q),some c,some (.loc (a.length+2)),some (.loc i),o],j))->h[a.length+2]? = some (.lst [.loc n,.loc A])->h[a.length+3]? = some (.lst [])->
   W (jU (bC (aE (f k "_law_asked") (aB (aA 0) (aB (aC aL (aA 4) (mC (.int 0))) (aB (aC aL (aA 4) (mC (.int 1))) (aB (aA 3) aD)))))) (bO (bC (aE (f k "_law_asked") (aB (aA 0) (aB (aC aL (aA 4) (mC (.int 0))) (aB (aC aL (aA 4) (mC (.int 1))) (aB (aA 3) aD)))))) (cP (g k "_law_asked") (aB (aA 0) (aB (aC aL (aA 4) (mC (.int 0))) (aB (aC aL (aA 4) (mC (.int 1))) (aB (aA 3) aD))))) bG) (sup "CreaseError") 6 (aW 5 (aE (jA S "_law_kinds") (aB (aA 6) aD))) [some d,some (.loc p),some (.loc q),some c,some (.loc (a.length+2)),some (.loc (a.length+3)),none] h) R)
  (H:∀ b l,a <+: l->a.length<=b->l[b]? = some (.lst (rs.map D.int))->Q (.loc b,l)):W (f (k+1) "_law_refused" [d,.loc p,.loc q,c] a) Q:=by
 rw [O3,bV,bE]
 simp only [bQ,dA,aU,aI,aH,aF,aG]
 rw [uQ (by omega) y,uQ (by omega) (aK (aQ _ _) z)]
 refine ⟨jE,?_⟩
 rw [bE]
 simp only [SD,SE,bQ,dA,aH]
 refine ⟨Uo _,?_⟩
 rw [bE]
 have s:(a++[C.lst (gs.map D.int)]).length=a.length+1:=by simp
 have u:(a++[C.lst (gs.map D.int)]++[C.lst (e.map D.int)]).length=a.length+2:=by simp
 have v:(a++[C.lst (gs.map D.int)]++[C.lst (e.map D.int)]++[C.lst [D.loc a.length,D.loc (a.length+1)]]).length=a.length+3:=by simp
 rw [s,u,v]
 have n:(hnd a gs e)[a.length]? = some (.lst (gs.map D.int)):=aK ((aQ _ _).trans ((aQ _ _).trans (aQ _ _))) (bD a _)
 have w:(hnd a gs e)[a.length+1]? = some (.lst (e.map D.int)):=by
  have:=aK ((aQ _ (C.lst [D.loc a.length,D.loc (a.length+1)])).trans (aQ _ (C.lst []))) (bD (a++[C.lst (gs.map D.int)]) (C.lst (e.map D.int)))
  rw [s] at this
  exact this
 have x:(hnd a gs e)[a.length+2]? = some (.lst [.loc a.length,.loc (a.length+1)]):=by
  have:=aK (aQ _ (C.lst [])) (bD (a++[C.lst (gs.map D.int)]++[C.lst (e.map D.int)]) (C.lst [D.loc a.length,D.loc (a.length+1)]))
  rw [u] at this
  exact this
 have E:(hnd a gs e)[a.length+3]? = some (.lst []):=by
  have:=bD (a++[C.lst (gs.map D.int)]++[C.lst (e.map D.int)]++[C.lst [D.loc a.length,D.loc (a.length+1)]]) (C.lst [])
  rw [v] at this
  exact this
 have r:a <+: hnd a gs e:=(aQ _ _).trans ((aQ _ _).trans ((aQ _ _).trans (aQ _ _)))
 refine T (hnd a gs e) _ _ _ r n w (fun i j o K lt G=>?_) x E
 dsimp only
 rw [bE,c9,b6]
 simp only [aT,dA,aI,aH,aF,aG]
 refine ⟨jE,?_⟩
 have B:=aQ j (C.lst [D.loc p,D.loc q])
 have m:=K.trans B
 refine (PN (ps:=gs) (qs:=e) (aK m x) (bD _ _) (aK m n) (aK m w) (aK (r.trans m) y) (aK (r.trans m) z)).mpr ?_
 simp only [SI,if_false,dF,bB,aF,aG]
 exact H _ _ (r.trans m) lt (aK B G)
noncomputable abbrev Sd (x:Str):Prop:=∀ c∈(["Barred","NoEdge","NoFold","NoName","NoRow","NoSize","NoText","Taken","TooMany","Twice"]:List Str),sup c x=some false
theorem zX {d c:D}{n q m a l i:Nat}{o:Option D}{j:Hm}(h:j[m]? = some (.lst [.loc l,.loc i])):aB (aA 0) (aB (aC aL (aA 4) (mC (.int 0))) (aB (aC aL (aA 4) (mC (.int 1))) (aB (aA 3) aD))) [some d,some (.loc n),some (.loc q),some c,some (.loc m),some (.loc a),o] j=some ([d,.loc l,.loc i,c],j):=by
 have:W (aB (aA 0) (aB (aC aL (aA 4) (mC (.int 0))) (aB (aC aL (aA 4) (mC (.int 1))) (aB (aA 3) aD))) [some d,some (.loc n),some (.loc q),some c,some (.loc m),some (.loc a),o] j) fun p=>p=([d,.loc l,.loc i,c],j):=by
  simp only [aI,aH,aT,aF,aG,aO]
  rw [bT h qT,bT h (show atI [D.loc l,D.loc i] 1=some (.loc i) from rfl)]
 obtain ⟨p,e,rfl⟩:=this
 exact e
theorem zY (k:Nat){x:Str}{b1 b2 b3:Bool}{rs:List Int}(hc:sup "CreaseError" x=some true) (M:sup "ValueError" x=some true) (N:sup "NoRound" x=some b1) (O:sup "NoOrder" x=some b2) (T:sup "NoMark" x=some b3) (Z:Sd x)(y:((cH 0 14).filter fun d=>(rG b1 b2 b3).getD (dJ d).toNat false)=rs.map D.int)
  {m o:Nat}{gs z:List Int}(v:gs.length<=20)(w:z.length<=20){h:Hm}(X:h[m]? = some (.lst (gs.map D.int)))(Y:h[o]? = some (.lst (z.map D.int)))(d c:D)
  (ra:∀ a l n,h <+: a->a[l]? = some (.lst (gs.map D.int))->a[n]? = some (.lst (z.map D.int))->W (g k "_law_asked" [d,.loc l,.loc n,c] a) fun q=>q.1=xN x/\a <+: q.2) (Q:D×Hm->Prop)
  (H:∀ b i,h <+: i->i[b]? = some (.lst (rs.map D.int))->Q (.loc b,i)):W (f (k+1) "_law_refused" [d,.loc m,.loc o,c] h) Q:=by
 refine EO k v w X Y d c Q (fun a l n R G s u U K gd=>?_) fun b i p _ g=>H b i p g
 obtain ⟨⟨q,j⟩,J,B,r⟩:=ra a l n G s u
 dsimp only at B r
 subst B
 have e:bO (bC (aE (f k "_law_asked") (aB (aA 0) (aB (aC aL (aA 4) (mC (.int 0))) (aB (aC aL (aA 4) (mC (.int 1))) (aB (aA 3) aD)))))) (cP (g k "_law_asked") (aB (aA 0) (aB (aC aL (aA 4) (mC (.int 0))) (aB (aC aL (aA 4) (mC (.int 1))) (aB (aA 3) aD))))) bG [some d,some (.loc m),some (.loc o),some c,some (.loc (h.length+2)),some (.loc (h.length+3)),none] a=some (xN x,[some d,some (.loc m),some (.loc o),some c,some (.loc (h.length+2)),some (.loc (h.length+3)),none],j):=by
  rw [cL]
  unfold cP
  rw [zX K]
  show (g k "_law_asked" [d,.loc l,.loc n,c] a).map _=_
  rw [J]
  rfl
 refine (Oj e hc).mpr ?_
 have L:=bD j (C.exc x [] [])
 have I:=aQ j (C.exc x [] [])
 show W (aW 5 _ [some d,some (.loc m),some (.loc o),some c,some (.loc (h.length+2)),some (.loc (h.length+3)),some (.loc j.length)] (j++[C.exc x [] []])) _
 simp only [bQ,aU,aI,aH,aF,aG]
 refine Sb M N O T Z L _ fun b A p3 l3 E=>?_
 rw [y] at E
 exact U b A none (r.trans (I.trans p3)) (TX (G.trans (r.trans I)).length_le l3) E
theorem Se (k:Nat){u v:Nat}{gs r:List Int}(o:gs.length<=20)(p:r.length<=20){i:Hm}(A:i[u]? = some (.lst (gs.map D.int)))(B:i[v]? = some (.lst (r.map D.int)))(d c:D)
  (E:∀ a j l,i <+: a->a[j]? = some (.lst (gs.map D.int))->a[l]? = some (.lst (r.map D.int))->g k "_law_asked" [d,.loc j,.loc l,c] a=none/\W (f k "_law_asked" [d,.loc j,.loc l,c] a) fun q=>a <+: q.2) (Q:D×Hm->Prop)
  (H:∀ b e,i <+: e->i.length<=b->e[b]? = some (.lst [])->Q (.loc b,e)):W (f (k+1) "_law_refused" [d,.loc u,.loc v,c] i) Q:=by
 refine EO k (rs:=[]) o p A B d c Q (fun a j l R G m n z s y=>?_) H
 obtain ⟨w,x⟩:=E a j l G m n
 refine (Ol ?_).mpr ?_
 ·rw [cL]
  exact gN (zX s) w
 ·rw [d6,aU,zX s,W_some]
  exact bM x fun q h=>z _ _ _ h (ZW _ _) (aK h y)
section
variable {gp op:Nat}{gs os:List Int}{μ:Hm}
theorem ER (k:Nat){a:Int}(n:0<=a/\a<6)(j:eG gs)(e:gs.length<=20)(h:os.length<=20)(l:μ[gp]? = some (.lst (gs.map D.int)))(m:μ[op]? = some (.lst (os.map D.int)))(c:D)(Q:D×Hm->Prop)(H:∀ b d,μ <+: d->d[b]? = some (.lst ([0,1].map D.int))->Q (.loc b,d)) :
  W (f (k+7) "_law_refused" [.int a,.loc gp,.loc op,c] μ) Q:=
 zY (k+6) (x:="NoRound") (b1:=true) (b2:=false) (b3:=false) rfl rfl rfl rfl rfl (by decide) rfl e h l m _ _ (fun o r s p i q=>RW k n (by omega) j i _ _) Q H
theorem Sf (k:Nat){a:Int}(o:a=0\/a=1)(h:GoodG gs)(l:jI gs.length os)(e:os.length<=20)(m:μ[gp]? = some (.lst (gs.map D.int)))(n:μ[op]? = some (.lst (os.map D.int)))(c:D)(Q:D×Hm->Prop)(H:∀ b d,μ <+: d->d[b]? = some (.lst ([0,2].map D.int))->Q (.loc b,d)) :
  W (f (k+7) "_law_refused" [.int a,.loc gp,.loc op,c] μ) Q:=
 zY (k+6) (x:="NoOrder") (b1:=false) (b2:=true) (b3:=false) rfl rfl rfl rfl rfl (by decide) rfl (by have:=h.rgl;omega) e m n _ _ (fun q r s p i j=>RX k o h e l i j _) Q H
theorem Sg (k:Nat){t:Str}(d:GoodG gs)(l:t.length<=100)(h:lF gs.length t)(c:os.length<=20)(i:μ[gp]? = some (.lst (gs.map D.int)))(j:μ[op]? = some (.lst (os.map D.int)))(Q:D×Hm->Prop)(H:∀ b a,μ <+: a->a[b]? = some (.lst ([0,3].map D.int))->Q (.loc b,a)) :
  W (f (k+7) "_law_refused" [.int 2,.loc gp,.loc op,.str t] μ) Q:=
 zY (k+6) (x:="NoMark") (b1:=false) (b2:=false) (b3:=true) rfl rfl rfl rfl rfl (by decide) rfl (by have:=d.rgl;omega) c i j _ _ (fun m o q p e n=>RY k d l h e _) Q H
theorem Sh (k:Nat){a:Int}{bs:List Bool}(l:0<=a/\a<6)(d:GoodG gs)(e:Ord gs.length os)(j:bs.length=gs.length)(m:μ[gp]? = some (.lst (gs.map D.int)))(n:μ[op]? = some (.lst (os.map D.int)))(Q:D×Hm->Prop)(H:∀ b c,μ <+: c->μ.length<=b->c[b]? = some (.lst [])->Q (.loc b,c)) :
  W (f (k+8) "_law_refused" [.int a,.loc gp,.loc op,.str (a8 bs)] μ) Q:=
 Se (k+7) (by have:=d.rgl;omega) (by have:=d.rgl;have:=e.len;omega) m n _ _ (fun o q r p h i=>⟨RZ (k+1) l d e j h i,R0 k l d e j h i _ fun c p=>p⟩) Q H
end
theorem ES {c:Hm}{a:Nat}{xs:List D}{i:Int}{d:D}{Q:D×Hm->Prop}(h:c[a]? = some (.lst xs))(l:0<=i/\i<1000)(j:xs[i.toNat]? = some d):W (kN (.loc a) [.int i] c) Q↔Q (d,c.set a (.lst (xs.eraseIdx i.toNat))):=by
 have e:kN (.loc a) [.int i] c=some (d,c.set a (.lst (xs.eraseIdx i.toNat))):=by
  simp only [kN,h]
  rw [if_pos (by omega),j]
  rfl
 rw [e]
 exact W_some
theorem ET {c:Hm}{a:Nat}{d:D}{n:Nat}{Q:D×Hm->Prop}(h:c[a]? = some (.lst [d]))(i:n<=20):W (b8 (.loc a) (.int (n:Int)) c) Q↔Q (.loc c.length,c++[.lst (Sz n d)]):=by
 have e:b8 (.loc a) (.int (n:Int)) c=some (.loc c.length,c++[.lst (Sz n d)]):=by
  show (match c[a]? with|some (.lst xs)=>_|_=>_)=_
  rw [h]
  dsimp only
  rw [if_pos ⟨by omega,by omega,by rw [S4];simp only [SY,WN];omega⟩]
  have:(Sz ((n:Int)).toNat [d]).flatten=Sz n d:=by
   rw [show ((n:Int)).toNat=n by omega]
   clear h i
   induction n with
   | zero=>rfl
   | succ n j=>rw [Te,U5,j,Te];rfl
  rw [this]
 rw [e]
 exact W_some
theorem zZ {A:ME}{n m:Int}{d:aJ}{a:Hm}{c:Int}(i:0<n)(h:A d a=some (.int c,a)):aM (aC (aP false) (aC bF A (mC (.int n))) (mC (.int m))) d a=some (c % n == m,a):=by
 have:W (aM (aC (aP false) (aC bF A (mC (.int n))) (mC (.int m))) d a) fun p=>p=(c % n == m,a):=by
  rw [b6,aT,aT,h,W_some]
  simp only [aO]
  rw [dW i]
  simp only [aO]
  rw [w_eqI]
 obtain ⟨p,e,rfl⟩:=this
 exact e
theorem lG {t:MT}{A B:MS}{c:aJ}{a:Hm}{R:Fl×aJ×Hm->Prop}(h:t c a=some (true,a))(w:W (A c a) R):W (a9 t A B c a) R:=by rw [c9,h,W_some];exact w
theorem lH {t:MT}{A:MS}{c:aJ}{a:Hm}{R:Fl×aJ×Hm->Prop}(h:t c a=some (false,a))(w:R (.nx,c,a)):W (a9 t A bP c a) R:=by
 rw [c9,h,W_some]
 simp only [SI,if_false,dF]
 exact w
theorem EU (is:List Int)(k:Nat):(is.map D.int).eraseIdx k=(is.eraseIdx k).map D.int:=by
 rw [U7,U7,Tn,V5,VA]
theorem Si (k:Nat){r:Nat}{gs:List Int}(n:GoodG gs){a:Hm}(o:a[r]? = some (.lst (gs.map D.int)))(c:Int)(Q:D×Hm->Prop)(H:∀ b e l,a <+: e->e[b]? = some (.lst (l.map D.int))->eG l->l.length<=20->Q (.loc b,e)):W (f (k+1) "_law_bad_gaps" [.loc r,.int c] a) Q:=by
 have J:=n.rgl
 rw [O4,bV,bE]
 simp only [bQ,aT,aU,aI,aH,aF,aG,aO]
 rw [eY (by decide) (by decide),cK o,Sx,dW (by omega)]
 simp only [SD,SE]
 have q:0<=c / 8 % (gs.length:Int):=TF _ (by omega)
 have G:c / 8 % (gs.length:Int)<gs.length:=TM _ (by omega)
 generalize c / 8 % (gs.length:Int)=i at q G
 have p:i.toNat<gs.length:=by omega
 rw [bE]
 simp only [bQ,aU,aI,aH,aF,aG]
 rw [uQ (by omega) o]
 simp only [SD,SE]
 have j:=bD a (C.lst (gs.map D.int))
 have h:=aQ a (C.lst (gs.map D.int))
 have B:a.length<(a++[C.lst (gs.map D.int)]).length:=by simp
 have t:∀ m:Int,aM (aC (aP false) (aC bF (aA 1) (mC (.int 5))) (mC (.int m))) [some (.loc r),some (.int c),some (.int i),some (.loc a.length)] (a++[C.lst (gs.map D.int)])=some (c % 5 == m,a++[C.lst (gs.map D.int)]):=fun m=>zZ (by decide) rfl
 have N:∀ v:D,(a++[C.lst (gs.map D.int)]).set a.length (C.lst [v])=(a++[C.lst (gs.map D.int)]).set a.length (C.lst [v]):=fun _=>rfl
 have L:0<=c % 5:=TF _ (by decide)
 have M:c % 5<5:=TM _ (by decide)
 rw [bE]
 by_cases w:c % 5=0
 ·refine lG (by rw [t 0,beq_iff_eq.mpr w]) ?_
  rw [bE,d6]
  refine qJ ?_
  simp only [aF,aG]
  refine ⟨qK j,?_⟩
  simp only [aI,aH,aF,aG]
  refine (ES j ⟨q,by omega⟩ (by rw [Tr,SN p];rfl)).mpr ?_
  simp only [bB,aF,aG]
  refine H _ _ (gs.eraseIdx i.toNat) (eW h (SM _) _) ?_ (Rt n p) (by rw [Vo p];omega)
  rw [S7 B,EU]
 refine lH (by rw [t 0,beq_eq_false_iff_ne.mpr w]) ?_
 rw [bE]
 by_cases y:c % 5=1
 ·refine lG (by rw [t 1,beq_iff_eq.mpr y]) ?_
  rw [bE,mQ]
  simp only [aT,aF,aG,aO]
  rw [bT j (fF q (by omega)),w_addI,eY (by decide) (by decide),dW (by decide),w_addI]
  refine (oF j (jF q (by rw [Sx];omega))).mpr ?_
  simp only [bB,aF,aG]
  have K:0<=c / 64 % 9:=TF _ (by decide)
  refine H _ _ (gs.set i.toNat (gs.getD i.toNat 0+(1+c / 64 % 9))) (eW h (SM _) _) ?_ (Ru n p (by omega)) (by rw [T4];omega)
  rw [S7 B,oI,Int.add_assoc]
 refine lH (by rw [t 1,beq_eq_false_iff_ne.mpr y]) ?_
 rw [bE]
 by_cases z:c % 5=2
 ·refine lG (by rw [t 2,beq_iff_eq.mpr z]) ?_
  rw [bB]
  refine fD (xs:=gs.map D.int) (p:=fun _=>true) (v:=fun d=>.int (0 - dJ d)) ?_
  simp only [k4,aF,aG]
  refine (k7 (aK h o)).mpr ⟨k6 (aK h o),rfl,by rw [Sx,S4];omega,fun d e hd E=>w_mTrue.mpr ⟨rfl,SV _⟩,fun d e hd _ E=>?_,fun I u s=>?_⟩
  ·obtain ⟨x,_,rfl⟩:=mS hd
   simp only [S2,S5,aT,aF,aG,aO,w_subI]
   exact ⟨rfl,SV _⟩
  ·refine H _ _ (gs.map fun g=>0 - g) (h.trans u) ?_ (Rv n) (by rw [Sx];omega)
   rw [s,oJ,Tv,Tv]
   rfl
 refine lH (by rw [t 2,beq_eq_false_iff_ne.mpr z]) ?_
 rw [bE]
 by_cases A:c % 5=3
 ·refine lG (by rw [t 3,beq_iff_eq.mpr A]) ?_
  simp only [bB,aT,dA,aI,aH,aF,aG,aO]
  rw [eY (by decide) (by decide),dW (by decide),w_addI]
  refine ⟨by show (1:Nat)<=SK;decide,?_⟩
  refine (ET (n:=10) (bD _ _) (by decide)).mpr ?_
  refine H _ _ (Sz 10 (1+c / 64 % 9)) (h.trans ((aQ _ _).trans (aQ _ _))) ?_ (Rw _) (by rw [Ue];decide)
  rw [List.map_replicate]
  exact bD _ _
 refine lH (by rw [t 3,beq_eq_false_iff_ne.mpr A]) ?_
 simp only [bB,dA,aH]
 exact ⟨Uo _,H _ _ [] (h.trans (aQ _ _)) (bD _ _) Ry (Uo _)⟩
theorem Sj (k:Nat){x:Nat}{n:Nat}{a:List Int}(U:2<=n/\n<=8)(B:Ord n a){j:Hm}(E:j[x]? = some (.lst (a.map D.int)))(c:Int)(Q:D×Hm->Prop)(H:∀ b e l,j <+: e->e[b]? = some (.lst (l.map D.int))->jI n l->l.length<=20->Q (.loc b,e)):W (f (k+1) "_law_bad_order" [.loc x,.int c] j) Q:=by
 have T:=B.len
 rw [O5,bV,bE]
 simp only [bQ,aT,aU,aI,aH,aF,aG,aO]
 rw [eY (by decide) (by decide),cK E,Sx,dW (by omega)]
 simp only [SD,SE]
 have u:0<=c / 6 % (a.length:Int):=TF _ (by omega)
 have L:c / 6 % (a.length:Int)<a.length:=TM _ (by omega)
 generalize c / 6 % (a.length:Int)=i at u L
 have s:i.toNat<a.length:=by omega
 rw [bE]
 simp only [bQ,aU,aI,aH,aF,aG]
 rw [uQ (by omega) E]
 simp only [SD,SE]
 have r:=bD j (C.lst (a.map D.int))
 have y:=aQ j (C.lst (a.map D.int))
 have z:j.length<(j++[C.lst (a.map D.int)]).length:=by simp
 have go:=aK y E
 have G:a.getD i.toNat 0=a[i.toNat]:=by rw [To,SN s];rfl
 have mi:=B.mem.mp (Vc s)
 have t:∀ (m:Int)(e:Hm),aM (aC (aP false) (aC bF (aA 1) (mC (.int 6))) (mC (.int m))) [some (.loc x),some (.int c),some (.int i),some (.loc j.length)] e=some (c % 6 == m,e):=fun m e=>zZ (by decide) rfl
 have Y:0<=c % 6:=TF _ (by decide)
 have Z:c % 6<6:=TM _ (by decide)
 have d:∀ {m:Int}{A v:MS}{e:Hm}{R:Fl×aJ×Hm->Prop},c % 6≠m->W (v [some (.loc x),some (.int c),some (.int i),some (.loc j.length)] e) R->W (aN (a9 (aM (aC (aP false) (aC bF (aA 1) (mC (.int 6))) (mC (.int m)))) A bP) v [some (.loc x),some (.int c),some (.int i),some (.loc j.length)] e) R:=fun {m A v e R} h w=>by
  rw [bE]
  exact lH (by rw [t,beq_eq_false_iff_ne.mpr h]) w
 have o:∀ {m:Int}{A v:MS}{R:Fl×aJ×Hm->Prop},c % 6=m->W (A [some (.loc x),some (.int c),some (.int i),some (.loc j.length)] (j++[C.lst (a.map D.int)])) (fun p=>match p.1 with|.nx=>W (v p.2.1 p.2.2) R|_=>R p)->W (aN (a9 (aM (aC (aP false) (aC bF (aA 1) (mC (.int 6))) (mC (.int m)))) A bP) v [some (.loc x),some (.int c),some (.int i),some (.loc j.length)] (j++[C.lst (a.map D.int)])) R:=fun {m A v R} h w=>by
  rw [bE]
  refine lG (by rw [t,beq_iff_eq.mpr h]) (bM w ?_)
  rintro ⟨J,O,e⟩ q
  cases J<;>exact q
 have I:c % 6=0\/c % 6=1\/c % 6=2\/c % 6=3\/c % 6=4\/c % 6=5:=by omega
 rcases I with h|h|h|h|h|h
 ·refine o h ?_
  rw [d6]
  refine qJ ?_
  simp only [aF,aG]
  refine ⟨qK r,?_⟩
  simp only [aI,aH,aF,aG]
  refine (ES r ⟨u,by omega⟩ (by rw [Tr,SN s];rfl)).mpr ?_
  refine d (by omega) (d (by omega) (d (by omega) (d (by omega) (d (by omega) ?_))))
  simp only [bB,aF,aG]
  refine H _ _ (a.eraseIdx i.toNat) (eW y (SM _) _) ?_ (zT (by rw [Vo s];omega)) (by rw [Vo s];omega)
  rw [S7 z,EU]
 ·refine d (by omega) (o h ?_)
  rw [mQ]
  simp only [aT,aU,aI,aH,aF,aG,aO]
  rw [bT r (fF u (by omega)),w_addI,cK go,Sx,dW (by omega)]
  refine (oF r (jF u (by rw [Sx];omega))).mpr ?_
  refine d (by omega) (d (by omega) (d (by omega) (d (by omega) ?_)))
  simp only [bB,aF,aG]
  have M:0<=(a.getD i.toNat 0+1) % (a.length:Int):=TF _ (by omega)
  have v1:(a.getD i.toNat 0+1) % (a.length:Int)<a.length:=TM _ (by omega)
  have N:(a.getD i.toNat 0+1) % (a.length:Int)≠a[i.toNat]:=by
   rw [G]
   by_cases K:a[i.toNat]+1<(a.length:Int)
   ·rw [Int.emod_eq_of_lt (by omega) K];omega
   ·rw [show a[i.toNat]+1=(a.length:Int) by omega,Int.emod_self];omega
  refine H _ _ (a.set i.toNat ((a.getD i.toNat 0+1) % (a.length:Int))) (eW y (SM _) _) ?_ (Rz B s (B.mem.mpr ⟨M,by omega⟩) N) (by rw [T4];omega)
  rw [S7 z,oI]
 ·refine d (by omega) (d (by omega) (o h ?_))
  rw [mQ]
  simp only [aT,aU,aI,aH,aF,aG,aO]
  rw [bT r (fF u (by omega)),cK go,Sx,w_subI]
  refine (oF r (jF u (by rw [Sx];omega))).mpr ?_
  refine d (by omega) (d (by omega) (d (by omega) ?_))
  simp only [bB,aF,aG]
  refine H _ _ (a.set i.toNat (a.getD i.toNat 0 - (a.length:Int))) (eW y (SM _) _) ?_ (EF (a0v s _) (by rw [G];omega)) (by rw [T4];omega)
  rw [S7 z,oI]
 ·refine d (by omega) (d (by omega) (d (by omega) (o h ?_)))
  simp only [bB,dA,aH]
  exact ⟨Uo _,H _ _ [] (y.trans (aQ _ _)) (bD _ _) (zT (by show 0≠n;omega)) (Uo _)⟩
 ·refine d (by omega) (d (by omega) (d (by omega) (d (by omega) (o h ?_))))
  rw [d6]
  refine qJ ?_
  simp only [aF,aG]
  refine ⟨qK r,?_⟩
  simp only [aI,aH,aT,aF,aG]
  rw [bT r (fF u (by omega))]
  refine (Ds r (by rw [Sx,S4];omega)).mpr ?_
  refine d (by omega) ?_
  simp only [bB,aF,aG]
  refine H _ _ (a++[a.getD i.toNat 0]) (eW y (SM _) _) ?_ (zT (by rw [SU,Uu];omega)) (by rw [SU,Uu];omega)
  rw [S7 z,Tn]
  rfl
 ·refine d (by omega) (d (by omega) (d (by omega) (d (by omega) (d (by omega) (o h ?_)))))
  rw [mQ]
  simp only [aT,aU,aI,aH,aF,aG,aO]
  rw [cK go,Sx,eY (by decide) (by decide),dW (by decide),w_addI]
  refine (oF r (jF u (by rw [Sx];omega))).mpr ?_
  simp only [bB,aF,aG]
  have X:0<=c / 64 % 9:=TF _ (by decide)
  refine H _ _ (a.set i.toNat ((a.length:Int)+c / 64 % 9)) (eW y (SM _) _) ?_ (EF (a0v s _) (by omega)) (by rw [T4];omega)
  rw [S7 z,oI]
noncomputable def f6 (bs:List Bool)(k ch:Nat):Str:=⟨((bs.take k).map cV++ch::(bs.drop (k+1)).map cV).toArray⟩
theorem Sk (bs:List Bool)(k ch:Nat):a8 (bs.take k)++(⟨#[ch]⟩:Str)++a8 (bs.drop (k+1))=f6 bs k ch:=by
 show (⟨((bs.take k).map cV).toArray++#[ch]++((bs.drop (k+1)).map cV).toArray⟩:Str)=⟨((bs.take k).map cV++ch::(bs.drop (k+1)).map cV).toArray⟩
 simp
theorem z0 (s sub:Str)(d c:Nat):∀ (l:List Nat)(st:Array Nat×Nat),(forIn l st (Y0 s sub d c)).run.fst.size<=st.fst.size+l.countP fun i=>decide (i+sub.length<=d/\a1q s sub i=true)
 | [],st=>SM _
 | a::l,st=>by
  rw [ZX,WA]
  unfold Y0
  split
  ·rename_i hc
   refine TX (z0 s sub d c l _) ?_
   rw [if_pos (decide_eq_true ⟨hc.1.2,hc.2⟩),Array.size_push]
   omega
  ·refine TX (z0 s sub d c l _) ?_
   exact Y6 (ZW _ _) _
theorem EV (x:Str)(c m:Nat):(T3 x ⟨#[c]⟩ 0 x.length m).length<=(VF 0 (x.length+1)).countP fun i=>decide (x.cps.toList[i]? = some c):=by
 rw [StrLaws.occ_eq,U9]
 refine TX (z0 x ⟨#[c]⟩ x.length m _ _) ?_
 show 0+_<=_
 rw [VP]
 refine List.countP_mono_left fun i _ h=>?_
 rw [decide_eq_true_eq] at h ⊢
 exact (StrLaws.subAt_one x c i).mp h
theorem EW {p q r:Nat->Bool}(c:∀ i,p i=true->r i=true)(d:∀ i,q i=true->r i=true)(e:∀ i,p i=true->q i=true->False):∀ l:List Nat,l.countP p+l.countP q<=l.countP r
 | []=>SM _
 | a::l=>by
  have u:=EW c d e l
  have h:=c a
  have j:=d a
  have m:=e a
  rw [WA,WA,WA]
  cases n:p a<;>cases o:q a<;>cases s:r a<;>simp_all<;>omega
theorem Sl:([2,4,6,8].all fun n=>(Td n).all fun k=>decide ((VF 0 (n+1)).countP (fun i=>decide (i<n/\i≠k))<n))=true:=by decide +kernel
theorem Sm {bs:List Bool}(u:bs.length=2\/bs.length=4\/bs.length=6\/bs.length=8){k ch:Nat}(s:k<bs.length)(m:ch∈[111,72,86,46,32,48]):rD (f6 bs k ch)≠bs.length:=by
 have p:(f6 bs k ch).cps.toList=(bs.take k).map cV++ch::(bs.drop (k+1)).map cV:=rfl
 have n:(f6 bs k ch).length=bs.length:=by
  show (f6 bs k ch).cps.size=_
  rw [<- U9,p,SU,SY,Sx,Sx,Tw,T8]
  omega
 have a:(f6 bs k ch).cps.toList[k]? = some ch:=by
  rw [p,TU (by rw [Sx,Tw];omega),Sx,Tw,show k - min k bs.length=0 by omega]
  rfl
 have d:∀ i c,(f6 bs k ch).cps.toList[i]? = some c->i<bs.length:=fun i c h=>by
  obtain ⟨z,_⟩:=SH.mp h
  rw [U9] at z
  exact n ▸ z
 have j:ch≠104/\ch≠118:=by
  simp only [TH,Vb,or_false] at m
  omega
 have q:("h":Str)=⟨#[104]⟩:=by kernel_rfl
 have r:("v":Str)=⟨#[118]⟩:=by kernel_rfl
 have o1:=EV (f6 bs k ch) 104 ((f6 bs k ch).length+1)
 have v:=EV (f6 bs k ch) 118 ((f6 bs k ch).length+1)
 have w:=EW (p:=fun i=>decide ((f6 bs k ch).cps.toList[i]? = some 104)) (q:=fun i=>decide ((f6 bs k ch).cps.toList[i]? = some 118)) (r:=fun i=>decide (i<bs.length/\i≠k))
  (fun i h=>by
   have h:=of_decide_eq_true h
   refine decide_eq_true ⟨d _ _ h,fun e=>?_⟩
   rw [e,a] at h
   exact j.1 (S8 h))
  (fun i h=>by
   have h:=of_decide_eq_true h
   refine decide_eq_true ⟨d _ _ h,fun e=>?_⟩
   rw [e,a] at h
   exact j.2 (S8 h))
  (fun i h l=>by
   have h:=of_decide_eq_true h
   have l:=of_decide_eq_true l
   rw [h] at l
   exact absurd (S8 l) (by decide)) (VF 0 ((f6 bs k ch).length+1))
 have o:=TJ.mp (TJ.mp Sl bs.length (by rcases u with h|h|h|h<;>rw [h]<;>decide)) k (Uh.mpr s)
 have o:=of_decide_eq_true o
 rw [n] at w o1 v
 unfold rD
 rw [q,r,n]
 omega
theorem z4 (x y:Str):(x++y).length=x.length+y.length:=by
 show (x.cps++y.cps).size=_
 rw [Zc]
 rfl
theorem Sn (k:Nat){bs:List Bool}(K:bs.length=2\/bs.length=4\/bs.length=6\/bs.length=8)(c:Int)(a:Hm)(Q:D×Hm->Prop)(H:∀ t:Str,lF bs.length t->t.length<=100->Q (.str t,a)):W (f (k+1) "_law_bad_marks" [.str (a8 bs),.int c] a) Q:=by
 rw [O6,bV,bE]
 simp only [bQ,aT,aU,aI,aH,aF,aG,aO]
 rw [eY (by decide) (by decide),zF (by omega),dW (by omega)]
 simp only [SD,SE]
 have y:0<=c / 8 % (bs.length:Int):=TF _ (by omega)
 have L:c / 8 % (bs.length:Int)<bs.length:=TM _ (by omega)
 generalize c / 8 % (bs.length:Int)=i at y L
 have e:i.toNat<bs.length:=by omega
 have O:(a8 bs).length<=SK:=by rw [dH,S4];omega
 have t:∀ m:Int,aM (aC (aP false) (aC bF (aA 1) (mC (.int 4))) (mC (.int m))) [some (.str (a8 bs)),some (.int c),some (.int i)] a=some (c % 4 == m,a):=fun m=>zZ (by decide) rfl
 have n:∀ {lo e:MO}{l h:Option Int}{R:D×Hm->Prop},lo [some (.str (a8 bs)),some (.int c),some (.int i)] a=some (l,a)->e [some (.str (a8 bs)),some (.int c),some (.int i)] a=some (h,a)->R (.str (fN (a8 bs) l h),a)->W (dN (aA 0) lo e [some (.str (a8 bs)),some (.int c),some (.int i)] a) R:=fun {lo e l h R} G I J=>by
  refine Rl ?_
  simp only [aF]
  refine ⟨_,rfl,?_⟩
  rw [G,W_some,I,W_some]
  exact ⟨O,J⟩
 have w:fN (a8 bs) none (some i)=a8 (bs.take i.toNat):=Rm ⟨y,by omega⟩
 have x:fN (a8 bs) (some (i+1)) none=a8 (bs.drop (i.toNat+1)):=by rw [Rn ⟨by omega,by omega⟩,show (i+1).toNat=i.toNat+1 by omega]
 have q:(bs.take i.toNat).length=i.toNat:=by rw [Tw];omega
 have A:(bs.drop (i.toNat+1)).length=bs.length - (i.toNat+1):=T8
 have T:0<=c % 4:=TF _ (by decide)
 have U:c % 4<4:=TM _ (by decide)
 rw [bE]
 by_cases s:c % 4=0
 ·refine lG (by rw [t 0,beq_iff_eq.mpr s]) ?_
  rw [bB,aT]
  refine n rfl rfl ?_
  refine n rfl rfl ?_
  rw [w,x,EE (by omega)]
  refine H _ (fun z=>?_) ?_
  ·have:=z.1
   rw [dH,SU] at this
   omega
  ·rw [dH,SU];omega
 refine lH (by rw [t 0,beq_eq_false_iff_ne.mpr s]) ?_
 rw [bE]
 by_cases u:c % 4=1
 ·refine lG (by rw [t 1,beq_iff_eq.mpr u]) ?_
  simp only [bB,aT,aF,aG,aO]
  rw [eY (by decide) (by decide),dW (by decide),EC,Rq,EE (by show bs.length+1<=100;omega)]
  refine H _ (fun z=>?_) ?_
  ·have:=z.1
   rw [dH,SU,Uu] at this
   omega
  ·rw [dH,SU,Uu];omega
 refine lH (by rw [t 1,beq_eq_false_iff_ne.mpr u]) ?_
 rw [bE]
 by_cases v:c % 4=2
 ·refine lG (by rw [t 2,beq_iff_eq.mpr v]) ?_
  rw [bB,aT,aT]
  refine n rfl rfl ?_
  simp only [aT,aF,aG,aO]
  rw [eY (by decide) (by decide),dW (by decide)]
  have M:0<=c / 64 % 6:=TF _ (by decide)
  have N:c / 64 % 6<6:=TM _ (by decide)
  generalize c / 64 % 6=j at M N
  obtain ⟨d,o,p⟩:∃ d,atI (("oHV. 0":Str).cps.toList) j=some d/\d∈[111,72,86,46,32,48]:=by
   have E:j=0\/j=1\/j=2\/j=3\/j=4\/j=5:=by omega
   rcases E with h|h|h|h|h|h<;>subst h
   ·exact ⟨111,by kernel_rfl,by decide⟩
   ·exact ⟨72,by kernel_rfl,by decide⟩
   ·exact ⟨86,by kernel_rfl,by decide⟩
   ·exact ⟨46,by kernel_rfl,by decide⟩
   ·exact ⟨32,by kernel_rfl,by decide⟩
   ·exact ⟨48,by kernel_rfl,by decide⟩
  rw [yW (by show (6:Nat)<=SK;decide) o,w]
  have r:(⟨#[d]⟩:Str).length=1:=rfl
  rw [uA (by rw [dH,q,r,S4];omega)]
  refine n rfl rfl ?_
  rw [x,uA (by rw [z4,dH,dH,q,A,r,S4];omega)]
  refine H _ (fun z=>?_) ?_
  ·have B:=z.2
   rw [Sk] at B
   exact Sm K e p B
  ·show (a8 (bs.take i.toNat)++(⟨#[d]⟩:Str)++a8 (bs.drop (i.toNat+1))).length<=100
   rw [z4,z4,dH,dH,q,A,r]
   omega
 refine lH (by rw [t 2,beq_eq_false_iff_ne.mpr v]) ?_
 simp only [bB,aO]
 refine H _ (fun z=>?_) (by decide)
 have:(0:Nat)=bs.length:=z.1
 omega
theorem So {a:Hm}{A B e:Nat}{bs:List Nat}{Q:D×Hm->Prop}(hA:a[A]? = some (.lst (bs.map D.loc)))(hB:a[B]? = some (.lst (Sz bs.length (.loc e))))(i:∀ b∈bs,a[b]? = some (.lst []))(j:a[e]? = some (.lst [])):W (aP false (.loc A) (.loc B) a) Q↔Q (.bl true,a):=by
 have c:∀ {x:Nat}{xs:List D},a[x]? = some (.lst xs)->dE a (.loc x)=some (.lst xs):=fun h=>by simp only [dE,h]
 have d:∀ {x y:Nat},a[x]? = some (.lst [])->a[y]? = some (.lst [])->cE 7 a (.loc x) (.loc y)=some true:=fun {x y} m n=>by
  show (dE a (.loc x)).bind (fun u=>(dE a (.loc y)).bind fun v=>gD (cE 6 a) u v)=_
  rw [c m,c n]
  rfl
 have all:∀ bs:List Nat,(∀ b∈bs,a[b]? = some (.lst []))->fA (cE 7 a) (bs.map D.loc) (Sz bs.length (.loc e))=some true:=fun bs=>by
  induction bs with
  | nil=>intro _;rfl
  | cons b bs o=>
   intro h
   rw [SW,SY,Te]
   show (cE 7 a (.loc b) (.loc e)).bind (fun u=>(fA (cE 7 a) (bs.map D.loc) (Sz bs.length (.loc e))).map fun v=>u&&v)=_
   rw [d (h b (UH ..)) j,o fun b l=>h b (Ur _ l)]
   rfl
 have:cE 8 a (.loc A) (.loc B)=some true:=by
  show (dE a (.loc A)).bind (fun x=>(dE a (.loc B)).bind fun y=>gD (cE 7 a) x y)=_
  rw [c hA,c hB]
  exact all bs i
 unfold aP
 rw [this]
 exact W_some
noncomputable def rH (a:Int)(n:Nat):List Bool:=(Td n).map fun (i:Nat)=>mY (a / ((i:Int) * (i:Int)+1))
theorem uR {c:Hm}{a b:Nat}{ps:List Int}{Q:D×Hm->Prop}(d:c[a]? = some (.lst (ps.map D.int)))(e:c[b]? = some (.lst (ps.map D.int)))(H:Q (.bl false,c)):W (aP true (.loc a) (.loc b) c) Q:=by
 refine (yV d e).mpr ?_
 rw [beq_self_eq_true]
 exact H
theorem Sq (k:Nat)(ns:List Int)(Z:∀ m∈ns,SX m<=2 ^ 20)(μ:Hm):W (f (k+9) "law" [.rol (ns.map D.int)] μ) fun r=>r.1=.bl true:=by
 rw [O7,bV,bE]
 simp only [bQ,aU,aI,aH,aF,aG,aO]
 refine Px _ ns Z 0 (by decide) _ _ fun X μ1 n p1 R y l1=>?_
 have hl:=y.rgl
 simp only [SD,SE]
 rw [bE]
 simp only [bQ,aU,aI,aH,aF,aG,aO]
 refine (cK R).mpr ?_
 rw [Sx]
 refine PK _ ns 9 (by decide) n.length hl.2 _ _ fun op μ2 os p2 g2 Y l2=>?_
 have ol:=Y.len
 simp only [SD,SE]
 rw [bE]
 simp only [bQ,aU,aI,aH,aF,aG,aO]
 rw [j6 _ ns 17 (by decide)]
 simp only [SD,SE]
 generalize dG ns 17=num
 have w:=aK p2 R
 rw [bE,bQ]
 refine oG ?_
 simp only [aO]
 refine ⟨_,rfl,?_⟩
 simp only [aI,aH]
 refine fD (xs:=cH 0 n.length) (p:=fun _=>true) (v:=fun d=>.str (cI (mY (num / (dJ d * dJ d+1))))) ?_
 simp only [gI (j:=0),aI,aH,aU,aF,aG]
 refine (cK w).mpr ?_
 rw [Sx]
 have hn:((n.length:Nat):Int).toNat=n.length:=by omega
 dsimp only
 rw [hn]
 refine ⟨by omega,mP,by simp [cH],by rw [S4];simp [cH];omega,fun d a hd hp=>w_mTrue.mpr ⟨rfl,SV _⟩,fun d a hd _ hp=>?_,fun μ3 p3 g3=>?_⟩
 ·obtain ⟨j,hj,rfl⟩:=qO hd
  rw [show (0:Int)+(j:Int)=(j:Int) by omega]
  have e1:0<=(j:Int) * (j:Int)/\(j:Int) * (j:Int)<=49:=by
   have:j=0\/j=1\/j=2\/j=3\/j=4\/j=5\/j=6\/j=7:=by omega
   rcases this with rfl|rfl|rfl|rfl|rfl|rfl|rfl|rfl<;>decide
  simp only [S2,S5,aT,aF,aG,aO]
  refine (oE (.inl ⟨by omega,by omega⟩)).mpr ?_
  simp only [w_addI]
  refine (eY (by omega) (by omega)).mpr ?_
  simp only [jD,EC]
  exact ⟨rfl,SV _⟩
 have B:μ3[μ2.length]? = some (.lst ((rH num n.length).map fun b=>D.str (cI b))):=by
  rw [g3,oJ]
  unfold cH rH
  rw [Tv,Tv]
  refine congrArg (fun z=>some (C.lst z)) (UD fun i _=>?_)
  show D.str (cI (mY (num / ((0+(i:Int)) * (0+(i:Int))+1))))=D.str (cI (mY (num / ((i:Int) * (i:Int)+1))))
  rw [show (0:Int)+(i:Int)=(i:Int) by omega]
 have c:(rH num n.length).length=n.length:=by unfold rH;simp
 refine (DT B (by rw [c];omega)).mpr ?_
 generalize rH num n.length=bs at c
 simp only [SD,SE]
 have w:=aK p3 w
 have go:=aK p3 g2
 clear g3 B R g2 p1 p2 l1 l2
 rw [bE]
 simp only [bQ,aU,aI,aH,aF,aG,aO]
 rw [j6 _ ns 18 (by decide)]
 refine Si _ y w _ _ fun Q μ4 bg N gb hB lB=>?_
 simp only [SD,SE]
 rw [bE]
 simp only [bQ,aU,aI,aH,aF,aG,aO]
 rw [j6 _ ns 19 (by decide)]
 refine Sj _ hl Y (aK N go) _ _ fun wp I wo O gw hW lW=>?_
 simp only [SD,SE]
 rw [bE]
 simp only [bQ,aU,aI,aH,aF,aG,aO]
 rw [j6 _ ns 20 (by decide)]
 refine Sn _ (by rw [c];exact y.len) _ _ _ fun t hM lM=>?_
 simp only [SD,SE]
 have hg:=aK (N.trans O) w
 have ho:=aK (N.trans O) go
 have E:=aK O gb
 clear w go gb p3 N O
 rw [c] at hM
  -- the six roads
 rw [bE]
 simp only [j4,gI (j:=0),aI,aH,aO]
 refine ⟨by decide,?_⟩
 refine mO (lo:=0) (n:=6) (fun i v a=>I <+: a/\∃ o,v=[some (.rol (ns.map D.int)),some (.loc X),some (.loc op),some (.int num),some (.str (a8 bs)),some (.loc Q),some (.loc wp),some (.str t),o]) ⟨SV _,none,rfl⟩ ?_ ?_
 ·rintro i v a hi ⟨s,o,rfl⟩
  refine ⟨_,rfl,?_⟩
  simp only [SD,SE]
  rw [bE,c9,b6]
  simp only [aT,aU,aI,aH,aF,aG]
  refine ER (k+1) (by omega) hB lB (by omega) (aK s E) (aK s ho) _ _ fun b l G T=>?_
  simp only [dA,aI,aH,aO]
  refine ⟨jE,?_⟩
  refine uR (ps:=[0,1]) (aK (aQ _ _) T) (bD _ _) ?_
  simp only [SI,if_false,dF]
  have e:=s.trans (G.trans (aQ l (C.lst [D.int 0,D.int 1])))
  generalize l++[C.lst [D.int 0,D.int 1]]=μ7 at e
  rw [c9,b6]
  simp only [aT,aU,aI,aH,aF,aG]
  refine ER (k+1) (by omega) hB lB lW (aK e E) (aK e gw) _ _ fun b2 u p8 U=>?_
  simp only [dA,aI,aH,aO]
  refine ⟨jE,?_⟩
  refine uR (ps:=[0,1]) (aK (aQ _ _) U) (bD _ _) ?_
  simp only [SI,if_false,dF]
  exact ⟨e.trans (p8.trans (aQ _ _)),_,rfl⟩
 rintro v l ⟨G,o,rfl⟩
 rw [bE]
 simp only [j4,gI (j:=0),aI,aH,aO]
 refine ⟨by decide,?_⟩
 refine mO (lo:=0) (n:=2) (fun i v a=>I <+: a/\∃ o,v=[some (.rol (ns.map D.int)),some (.loc X),some (.loc op),some (.int num),some (.str (a8 bs)),some (.loc Q),some (.loc wp),some (.str t),o]) ⟨G,o,rfl⟩ ?_ ?_
 ·rintro i v a hi ⟨s,o,rfl⟩
  refine ⟨_,rfl,?_⟩
  simp only [SD,SE]
  rw [c9,b6]
  simp only [aT,aU,aI,aH,aF,aG]
  refine Sf (k+1) (by omega) y hW lW (aK s hg) (aK s gw) _ _ fun b l G T=>?_
  simp only [dA,aI,aH,aO]
  refine ⟨jE,?_⟩
  refine uR (ps:=[0,2]) (aK (aQ _ _) T) (bD _ _) ?_
  simp only [SI,if_false,dF]
  exact ⟨s.trans (G.trans (aQ _ _)),_,rfl⟩
 rintro v μ7 ⟨p7,o2,rfl⟩
 rw [bE,c9,b6]
 simp only [aT,aU,aI,aH,aF,aG,aO]
 refine Sg (k+1) y lM hM (by omega) (aK p7 hg) (aK p7 ho) _ fun b u p8 U=>?_
 simp only [dA,aI,aH,aO]
 refine ⟨jE,?_⟩
 refine uR (ps:=[0,3]) (aK (aQ _ _) U) (bD _ _) ?_
 simp only [SI,if_false,dF]
 have p9:=p7.trans (p8.trans (aQ u (C.lst [D.int 0,D.int 3])))
 generalize u++[C.lst [D.int 0,D.int 3]]=μ9 at p9
 have hg9:=aK p9 hg
 have ho9:=aK p9 ho
 rw [bB,aT]
 refine Dv ?_
 have hit:cN (aB (mC (.int 6)) aD) [some (.rol (ns.map D.int)),some (.loc X),some (.loc op),some (.int num),some (.str (a8 bs)),some (.loc Q),some (.loc wp),some (.str t),o2] μ9=some (iE 0 6,7,μ9):=rfl
 rw [hit,W_some]
 refine ⟨6,fun i H a=>H.length=i/\μ9 <+: a/\∃ q:List Nat,H=q.map D.loc/\∀ b∈q,b≠μ9.length/\a[b]? = some (.lst []),rfl,by decide,fun i H a h=>by omega,⟨rfl,aQ _ _,[],rfl,fun b z=>nomatch z⟩,?_,?_⟩
 ·rintro i H a hi ⟨J,K,q,rfl,L⟩ M
  refine ⟨.int (0+(i:Int)),[some (.int (0+(i:Int)))],by simp only [iE,if_pos hi],rfl,w_mTrue.mpr ⟨(fun z=>nomatch z),fun _=>?_⟩⟩
  simp only [S2,S5,aU,aI,aH,aF,aG]
  refine Sh k (by omega) y Y c (aK K hg9) (aK K ho9) _ fun b μA pA lA gA=>?_
  have hbn:b≠μ9.length:=by
   have hy2:μ9.length<a.length:=(SH.mp M).1
   omega
  refine ⟨aK pA M,by rw [SU,J];rfl,eW (K.trans pA) (SM _) _,q++[b],by rw [Tn];rfl,fun x A=>?_⟩
  have p:x≠μ9.length/\μA[x]? = some (.lst []):=by
   rcases T7.mp A with A|A
   ·exact ⟨(L x A).1,aK pA (L x A).2⟩
   ·rcases Vf.mp A with rfl
    exact ⟨hbn,gA⟩
  exact ⟨p.1,by rw [TR (Ux p.1)];exact p.2⟩
 ·rintro H a ⟨J,K,q,rfl,L⟩ M
  refine ⟨rfl,?_⟩
  simp only [aT,dA,aI,aH,aO]
  refine ⟨Uo _,by show (1:Nat)<=SK;decide,?_⟩
  have l6:q.length=6:=by rw [Sx] at J;exact J
  refine (ET (n:=6) (bD _ _) (by decide)).mpr ?_
  have pz:=((aQ a (C.lst [])).trans (aQ _ (C.lst [D.loc a.length]))).trans (aQ _ (C.lst (Sz 6 (D.loc a.length))))
  refine (So (bs:=q) (aK pz M) ?_ (fun b Z=>aK pz (L b Z).2) (aK ((aQ _ _).trans (aQ _ _)) (bD _ _))).mpr rfl
  rw [l6]
  exact bD _ _
theorem Sr:∀ ns:List Int,ns.length<=63->(∀ m∈ns,SX m<=2 ^ 20)->∃ a,hV S ds 9 "law" [.rol (ns.map D.int)] []=some (.bl true,a):=fun ns i h=>by
 obtain ⟨⟨d,a⟩,c,e⟩:=Sq 0 ns h []
 dsimp only at e
 subst e
 refine ⟨a,?_⟩
 unfold f at c
 exact c
end Lw
namespace Lw
open PySem L2 L3
theorem xz (Q:UU):XcOk S (Kx Q):=NS (by kernel_rfl) (by kernel_rfl) (by kernel_rfl) (by kernel_rfl)
theorem dz (Q:UU):tZ (Kx Q) ds:=by unfold tZ;kernel_rfl
theorem cz (Q:UU):Dm (Kx Q) S.con=true:=by kernel_rfl
theorem nz (Q:UU):S.no.map (Uz (Kx Q) TQ)=S.no.map fun _=>some none:=by kernel_rfl
theorem Ss {P:Tc}{w:Ts}{Q:UU}
  {h:Ua}{a:Str → Option Value}(X:(Kx Q).In h)(G:h.Ns TQ a):TxtOk P w (Kx Q) a S ds ∧ ∃ f c,Fun (Kx Q) "law" "law" (aS 60) f c ∧ a "law" = some (.ref f) ∧ ∀ (s:SF)(u:Value),Xl s c ⟨[u],[]⟩ [("_law_script",u)]:=by
 refine ⟨⟨NK (by decide +kernel),NL fun p d=>(Dj X G (dz Q) p d).1,NM (NR X G (cz Q)),fun x i e=>?_,NN (NQ X G (nz Q)),xz Q,De (by kernel_rfl) (by kernel_rfl),De (by kernel_rfl) (by kernel_rfl)⟩,NP X G (dz Q) (by kernel_rfl) (by kernel_rfl)⟩
 ·cases e
end Lw
open PySem PySem.W PyProof.Rows
set_option maxRecDepth 100000 in
set_option maxHeartbeats 0 in
theorem PySem.Challenge.cw_creasecourt_k30_corners_refused_holds : PySem.Challenge.rw_creasecourt_k30_corners_refused.Holds := by
 w_on
 refine holds_law (by decide +kernel) fun a=>?_
 refine holds_open (q:=Lw.Vw) (loose:=[]) (Xt:=fun s=>xlAt Lw.Vw [] s&&recOk (a0s (Zy (Uj SG))) s) (XP:=XL Lw.Vw []) (Yf:=Hook.obs (a1k Lw.Kx Lw.As Lw.oZ)) (Ya:=Hook.val (a1k Lw.Kx Lw.As Lw.oZ)) (YP:=Hook.says (a1k Lw.Kx Lw.As Lw.oZ)) (N:=8796) Lw.run (Hook.of _) (Hook.keeps _) (fun s e=>xl_of s (Vp.mp e).1) XL.keeps (by rfl) (by rfl) (by rfl) (fun s e=>recFacts_of (Vp.mp e).2) (by rfl) (by first|assumption|decide +kernel) (by decide +kernel) ⟨rfl,rfl,rfl,rfl,rfl,by decide +kernel⟩ ?hw ?hc
 case hw=>w_witness2
 k_fill
 refine L3.walkM (l:=SG) (S:=Lw.S) (ds:=Lw.ds) (k:=9) (st:=Lw.aS 60) (x:="_law_script") rfl rfl ⟨rfl,by decide,by decide⟩ (fun w h Y=>PySem.W.kIn_of Y) (by kernel_rfl) (by kernel_rfl) ?F Lw.Sr
 case F=>
  intro w d h c G
  refine' Lw.Ss (P:=TZ) (w:=w)  c G
