import PyProof.Rows.All
import Wide.All
import OpenK.AllK
import Wide.FinOn
import PyProof.EqAt
import PyProof.EqKinds
import PyProof.TupleCall
import KE.KDictSum
import PyProof.SliceStr2
import PyProof.NeKinds
import PyProof.StrWalks
import PyProof.ConsumeWalk
import KE.KSortTup
import PyProof.Rows.SetFrom
import PyProof.SumAny
import PyProof.EnumMake
import KE.KRevIter
import PyProof.MeetsStr
import PyProof.ListRange
import PyProof.Rows.Range3
import KE.KDictList
import PyProof.PureStr
import PyProof.WalkInts
import PyProof.ConsumeS
import PyProof.ZipIter
import PyProof.AttrMissHeap
import KE.KDictOf
import PyProof.DictItems
import KE.KItemsList
import KE.KEqDict
import PySem.Challenge.RW_creasecourt_k61_just_such_piles
open Array renaming getElem?_toList->Pw,getD->Qa,length_toList->QM,getElem?_eq_getElem->RH,replicate->Tf,getElem?_eq_none->Ue,append_assoc->UZ,getElem_mem->U9,toList->Wr,map->Xo
open Bool renaming and_eq_true->N5,false_eq_true->Ob,false_ne_true->OI,not_true->Qr,not_false->Qx,and_eq_true_iff->Qy,or_eq_true->Q0,false_and->Sg,not_eq_true'->SK,eq_iff_iff->To,true_and->T7,or_false->Wo,and_true->Wq
open Classical renaming choose->Sv,choose_spec->TM
open False renaming elim->PM
open ForInStep renaming yield->QK
open Function renaming comp_def->UB
open Int renaming emod_lt_of_pos->P0,emod_nonneg->Qp
open List renaming length_map->NP,getElem?_set_ne->NR,getElem?_eq_some_iff->NS,set_cons_zero->NX,set_cons_succ->NY,mem_map->NZ,map_cons->N0,map_map->N6,size_toArray->N8,getElem?_eq_getElem->N9,length_append->Oa,mem_cons_of_mem->Oc,map_congr_left->Oe,getElem?_map->Ol,mem_cons_self->Om,zipWith_cons_cons->Oq,length_set->Ou,mem_cons->Ov,filter_cons_of_neg->OA,mem_singleton->OC,map_append->OE,filter_cons_of_pos->OH,length->OJ,getElem?_set_self->OK,length_cons->OL,getElem?_append_left->OM,range->ON,length_take->OP,contains_iff_mem->OQ,all_cons->OR,nodup_cons->OS,find?_cons->OT,mem_of_getElem?->OX,mem_append_right->O1,mem_append->O2,length_filter_le->O8,getElem?_eq_none_iff->Pc,length_singleton->Ph,getD->Pj,mem_filter->Pl,all_eq_true->Pm,take_of_length_le->Pq,getElem?_append_right->Pr,filterMap_cons->Pt,cons_append->Pz,replicate->PF,mem_range->PH,filter_append->PY,length_replicate->PZ,length_pos_iff->Qd,nodup_nil->Qe,getElem?_replicate->Qf,filter_eq_nil_iff->Qi,getElem?_eq_none->Qs,reverse_cons->Qv,nodup_append->Qw,prefix_refl->QD,map_nil->QF,length_drop->QH,pairwise_iff_getElem->QL,length_reverse->QR,getElem_of_mem->QU,filter_sublist->QV,mem_filterMap->Q2,eraseIdx_cons_succ->Q5,pairwise_map->Rc,ext_getElem?->Rf,lookup_cons->Ri,set_append_left->Ro,nil_append->Ru,append_nil->Rv,prefix_append->RE,range'->RI,map_id->RJ,any_cons->RN,take_length->RP,range'_succ->RQ,length_eq_zero_iff->RR,getElem_mem->RS,countP_cons->RT,range_succ_eq_map->RV,length_pos_of_mem->RW,set_append_right->R8,lookup->Se,map_eq_nil_iff->Sn,filter_eq_self->So,map_take->Su,find?_eq_none->Sy,zipWith->SF,set_set->SG,all_map->SH,map_reverse->S4,exists_mem_of_length_pos->Te,of_mem_zip->Tg,foldl_cons->Th,drop_eq_getElem_cons->TX,getElem?_take_of_lt->T6,getElem?_cons_succ->Ud,drop_of_length_le->Uk,append_eq_nil_iff->Ul,take_append_drop->Ux,perm_append_comm->Uy,mem_iff_getElem?->Uz,dropLast_eq_take->UA,mem_append_left->UL,map->UM,length_dropLast->UN,mem_map_of_mem->UX,pairwise_cons->U7,take_add_one->Vy,reverse_perm->Vz,map_inj_left->VA,length_range->VB,foldl_append->VC,getElem_inj->VO,ext_getElem->VP,range_zero->VZ,range_succ->V0,filter_nil->V1,drop_zero->Wa,map_drop->Wn,map_set->WA
open List.Pairwise renaming map->Rq,nil->WN
open List.Perm renaming eq_of_pairwise->Qz
open List.cons renaming injEq->UO
open Nat renaming le_refl->N3,ne_of_lt->Oh,lt_of_lt_of_le->OD,le_trans->OU,zero_le->OW,lt_irrefl->Qb,lt_or_ge->Qo,not_lt->Q4,not_lt_zero->RC,le_succ->RM,le_of_lt->R6,succ_pos->SU,lt_trans->SV,le_of_eq->SW,lt_succ_self->Td,exists_eq_add_of_le->Uj,ne_of_gt->Uw,lt_trichotomy->VL,le_succ_of_le->VM,le_of_lt_succ->VN,le_of_not_lt->VY,min_eq_left->V8,lt_succ_iff->V9,mul_le_mul->Wm,sub_zero->WL,add_zero->WM,log2_lt->Xd,mod_lt->Xy
open Ne renaming symm->OB
open Option renaming bind_eq_some_iff->NN,map_eq_some_iff->NU,bind_some->Od,map_some->Oy,isSome_map->RG,getD_none->U6,none->Wl
open Option.some renaming inj->Oj,injEq->Xx
open Or renaming inr->UK,inl->VJ
open Prod renaming ext->Sd
open Prod.mk renaming inj->R0
open PyProof.Rows renaming seqObj->Pn,callWith_type1->PD,IntsAre->RK,sortedAll_old->Sx,sortedAll_at->SE,AllBare->SM,subscriptTail->S1,listUpdate_at->S2,envOfC->Tx,seqEpoch_at->TZ,entry_list_sort->T9,slot_list_sort->Uo,args_list_sort->Ut,Subscript_->Uu,subscriptTail_builtinR->Vd,sortedHeap->Wf,list_sort_plain->WU,get?_update_seq->WV,wpAny_notIn_heap->WX,sorted_ints->WY,pow_int_small->WZ,pow_int->W0,oneLt_int->W2,mul_int->W3,mirror_perm->W4,lt_int->W5,floordiv_int->W6,call_len_slot->W7,callWith_builtin1->W8,bubble_perm->W9,bubble->Xa,assign_Tuple_tuple->Xb,assign_Tuple->Xc,tail_any->Xr,IsTup->Xz
open PyProof.Rows.Boot renaming list->Rg,sorted->RZ,dict->Sb,tuple->Vn,str->Vo,reversed->Vp,len->Vq,isinstance->Vr,int->Vs,bool->Vt,all->Vu
open PySem renaming wpAny_bind->NQ,Value->NT,Shared->NV,wpAny_pure->N1,Expr->N2,sizeLine->N4,wpAny->Oi,Program->Oo,model->Ot,sizeLine_eq->Ox,starEach->OF,Around->OG,World->OO,wpAny_dictEntries->OV,sysModules->OY,wpAny_mono->OZ,mem_of_lookup->O0,Heap->O3,wpAny_holding->O4,compareOp->Pe,bootBuiltins->Pf,DictEntry->Pg,mainGlobals->Pk,Obj->Pu,Pos->Py,wpAny_notOrdered_dict->PB,tupleKind->PJ,sliceBounds->PN,cLine->PR,assignEach->PV,FuncData->P4,intKind->P8,NameKind->Qc,backTo->Qg,wpAny_call_entry->Ql,binaryOp->Qm,Scope->Qn,wpAny_Call_Name_kw->Qt,wpAny_truthy_bool->QC,Keyword->QY,atKey->Q1,behindInMarks->Q6,attributeBase->Q7,Params->Q8,wpAny_specialOf->Ra,wpAny_ite_split->Rb,foldedSetIterable->Rj,compEnvC->Rk,wpAny_isInstance->Rw,swapsWith->Ry,Paired->RB,wpAny_passesOwn->RF,wpAny_newObj_type->RU,CmpOp->RX,SetTable->Sa,rawInt->Sh,codeAny->Si,call_meetsIn->Sj,wpAny_dictEpoch->Sk,size_of_entries->Sl,letOwnedTupleGo->Sm,wpAny_updateDictKeys->SA,keywordEach->SD,Env->SI,wpAny_dictFind_heap->SN,wpAny_newList->SY,call_meets->S8,assign->Ta,wpAny_pyIter_list->Tp,slot_list_getitem->Tq,callerA->Tt,atKey_none_of_get->Tu,BindsTo->TB,typeOf->TQ,subscripted->TY,wpAny_execs_nil->T8,wpAny_richCompare_same_room->Ug,valueAt->Uh,getItem->Ui,typeLookup->Um,sliceRange->Up,dictSetDefault->Uq,bindArgs->Ur,backToKw->Us,Operator->Uv,evalArgs_none->UE,wpAny_standAt->UQ,wpAny_getItem_list_slice->UR,swappedStores->US,wpAny_Call_method0_late->U0,slicePick->U1,bindL->U3,bindC->U4,wpAny_pyNext_list_item->Va,wpAny_Call_method_late->Vb,wpAny_Assign_Subscript->Vc,seqIndex_neg->Ve,pyNext->Vf,pyIter->Vg,isTrue->Vh,codeAny_mono->Vi,atKey_of_get->Vj,Result->Vl,wpAny_pyNext_list_end->VD,wpAny_isOneOf_keyiter->VE,builtinLookup_eq_fast->VF,wpAny_pyIter_keyiter->VR,wpAny_letGo->VS,storedH_new->VT,seqIndex_of->VU,entry_at->VW,IntMulOk->V2,HeapKind->V3,GenState->V4,wpAny_rule->Wb,wpAny_pyIter_tuple->Wc,wpAny_Name->We,entryOfKey->Wg,closureFor->Wh,builtinsNs->Wi,wpAny_assign_Name->Ws,storedH->Wt,relabel->Wu,MeetsIn->Wz,wpAny_forIn_list->WB,wpAny_execs_cons->WC,noFill_tuple_add->WD,cellsFrom->WE,Slot->WG,call->WH,PassesOwn->WJ,typeLookup_type->WT,Sem->WW,wpAny_setField->Xp,wpAny_newTuple->Xq,recursionLimit->Xs,firstArgMember->Xv,callType_codes->Xw
open PySem.Builtin renaming sorted->UD
open PySem.Builtin.Dict renaming dictSlotArgs->Qq,showsAll->QZ,entriesForEmpty->Sq,keyAndDefault->Sz,updateFrom->SX,samePairs->S7,takeOut->Tj,quietEq->Tn,selfAndRest->Xh,readDirectly->Xi,pendingCount->Xj,noArgs->Xk,mergeDict->Xl,merge->Xm,dictSlotNone->Xn
open PySem.Builtin.Dict_items renaming ownsTuple->VQ
open PySem.Builtin.Int renaming intBits->Oz,intTooBig->Q3
open PySem.Builtin.List renaming listExtendWith->Qh,listLengthHint->Sw,listSameRef->SJ,listItems->S6,listUpdate->Xg
open PySem.Builtin.Range renaming rangeSize->WS
open PySem.Builtin.Str renaming occurrences->O7
open PySem.Builtin.Tuple renaming tupleHashOf->WR
open PySem.Calls renaming callWith_builtin->Q9,Name_function_global->Tz,call_function_entry->TN,evalArgs_plain->UC,spliced_cons->UY,spliced_nil->U8
open PySem.Challenge renaming rw_creasecourt_k61_just_such_piles->O5,pw_creasecourt_k61_just_such_piles->O6
open PySem.Data renaming fields->WQ,dict->XA
open PySem.F renaming slot_dict_setdefault->SS,args_tuple_add_2->Tw,slot_dict_clear->TC,plainAttrs_list->TF,plainAttrs_dict->TH,entry_tuple_add->TJ,slot_tuple_add->TV,sub_dict_dict->T3,slot_dict_pop->T4,slot_dict_get->T5,slot_dict_ne->Ua,slot_dict_eq->Ub
open PySem.Heap renaming get?_push_of_some->NW,lt_size->N7,get?_push_size->Of,get?_update_self->Px,get?_update_other->Qj,SameBut->Qk,size_push->TL,ExtBut->UP
open PySem.Heap.DictOfH renaming new->Xf
open PySem.Heap.IsSliceOf renaming new->Ti
open PySem.Heap.IsTuple renaming push->VI
open PySem.Heap.SameBut renaming update->Pa,refl->Xe
open PySem.NameKind renaming free->PU,cell->P2
open PySem.Obj renaming mapSeq->Pb,data_mapDictKeys->PL,isFreed_of_dict->RD,data_mapFields->Vx,mapDictKeys->V7,mapFields->Wy
open PySem.Obj.ExactDict renaming mapDictKeys->WK
open PySem.Paired renaming length->TK,snoc->Wj
open PySem.PassesOwn renaming never->UJ
open PySem.SeqAt renaming ne_of_list_tuple->Pp,EqAt->UU
open PySem.SetTable renaming below->Rt,slot->Vk,has->VG
open PySem.SetTable.below renaming go->Rm
open PySem.SetTable.layClean renaming free->Sr
open PySem.SetTable.probe renaming go->Rl
open PySem.Str renaming ofString->SR
open PySem.Value renaming ref->Og,none->O9,type->QX,int->Rh,str->T1,bool->UT
open PySem.W renaming Frag->NO,kas_place->Pd,keepIn->Po,emptyDict->PC,kia_one->PK,kas_desc->PQ,fnOf->P1,kas_rev->P5,kas_asc->P7,kas_descPart->Qu,instObj->QN,findIn->Rz,kas_tail3->RL,nsIn->RO,codeIn->RY,methodObj->Ss,kas_sort->Tr,kas_bin->Ts,mg_of->Tv,hashAt->TR,cellsFrom_some->TU,specialIn->UG,kitx_list->UH,kitx_dict->UI,plainGet->UW,kas_count->U2,OpenLaw->U5,kitOne->Vm,WalkO->VH,isFn->VX,KasT->WO,kHook->Xu
open PySem.W.KasFin renaming intro->Wx
open PySem.W.KasT renaming ret->P9,ask->Sf
open PySem.W.OpenLaw renaming row->Uc
open PySem.W.OpenRow renaming toRowW->Vv
open PySem.W.RowW renaming records->Ww
open PySem.W.WData renaming int->Rn,weightAll->RA,layable->S3,weight->Tc,layableAll->WI
open PySem.W.WShape renaming has->Wv
open Std.Legacy.Range renaming size->V5,forIn_eq_forIn_range'->V6
open Sum renaming inr->SO,inl->SQ
open True renaming intro->PX
local macro_rules|`(tactic| omega) => `(tactic| lia)
set_option compiler.extract_closed false
set_option Elab.async false
set_option linter.all false
set_option maxRecDepth 100000
set_option linter.all false
namespace L2
open PySem PySem.Spec PyProof.Rows
noncomputable abbrev aW:=Sum Int Str
noncomputable def qK:aW->NT->Bool
 | .inl k,v=>Value.isInt k v
 | .inr x,v=>Value.isStrOf x v
noncomputable def vZ (w:OO):aW->Int
 | .inl k=>hashInt k
 | .inr x=>hashStr w x
theorem gT:∀ {k:aW}{v:NT},qK k v=true->(∃ i t,k=SQ i/\v=Rh i t)\/(∃ x t,k=SO x/\v=T1 x t)
 | .inl i,v,h=>by
  obtain ⟨t,e⟩:=Value.isInt_shape (k:=i) (v:=v) h
  exact .inl ⟨i,t,rfl,e⟩
 | .inr x,v,h=>by
  obtain ⟨t,e⟩:=Value.isStrOf_shape (x:=x) (v:=v) h
  exact .inr ⟨x,t,rfl,e⟩
theorem CU (a b:Int):decide ((SQ a:aW)=SQ b)=(a == b):=by
 by_cases e:a=b
 ·subst e;simp
 ·have h:¬ (SQ a:aW)=SQ b:=fun q=>e (Sum.inl.inj q)
  rw [decide_eq_false h]
  exact (beq_eq_false_iff_ne.mpr e).symm
theorem CV (a b:Str):decide ((SO a:aW)=SO b)=decide (a=b):=by
 by_cases e:a=b
 ·subst e;simp
 ·have h:¬ (SO a:aW)=SO b:=fun q=>e (Sum.inr.inj q)
  rw [decide_eq_false h,decide_eq_false e]
theorem CW (a:Int)(b:Str):decide ((SQ a:aW)=SO b)=false:=decide_eq_false (fun q=>nomatch q)
theorem CY (a:Str)(b:Int):decide ((SO a:aW)=SQ b)=false:=decide_eq_false (fun q=>nomatch q)
noncomputable def jO (prog:Oo)(w:OO):PySem.KeyKind prog w aW where
 is:=qK
 hash:=vZ w
 inj:=fun v a b ha hb=>by
  rcases gT ha with ⟨i,t,rfl,rfl⟩|⟨x,t,rfl,rfl⟩
  ·rcases gT hb with ⟨j,u,rfl,e⟩|⟨y,u,rfl,e⟩
   ·injection e with e1 _;rw [e1]
   ·exact nomatch e
  ·rcases gT hb with ⟨j,u,rfl,e⟩|⟨y,u,rfl,e⟩
   ·exact nomatch e
   ·injection e with e1 _;rw [e1]
 byValue:=fun k v h=>by
  rcases gT h with ⟨i,t,rfl,rfl⟩|⟨x,t,rfl,rfl⟩<;>rfl
 pyHash:=fun hv h=>by
  rcases gT hv with ⟨i,t,rfl,rfl⟩|⟨x,t,rfl,rfl⟩
  ·exact wpAny_pyHash_int h
  ·exact wpAny_pyHash_str h
 eqBool:=fun hu hv h=>by
  rcases gT hu with ⟨i,t,rfl,rfl⟩|⟨x,t,rfl,rfl⟩
  ·rcases gT hv with ⟨j,u,rfl,rfl⟩|⟨y,u,rfl,rfl⟩
   ·rw [CU] at h;exact wpAny_eqBool_int h
   ·rw [CW] at h;exact SeqAt.EqAt.int_str i t y u _ _ _ _ h
  ·rcases gT hv with ⟨j,u,rfl,rfl⟩|⟨y,u,rfl,rfl⟩
   ·rw [CY] at h;exact SeqAt.EqAt.str_int x t j u _ _ _ _ h
   ·rw [CV] at h;exact wpAny_eqBool_str h
 «strs»:=fun k x t v h=>by
  rcases gT h with ⟨i,u,rfl,e⟩|⟨y,u,rfl,e⟩
  ·exact nomatch e
  ·injection e with e1 _
   subst e1
   cases v<;>rfl
end L2
namespace L2
open PySem PySem.Spec PyProof.Rows
inductive V where
 | non|bl (b:Bool)|int (i:Int)|str (x:Str)|byt (b:Array UInt8)|flt (b:UInt64)|ref (a:Addr)|ty (n:String)
 deriving DecidableEq
noncomputable def RelV:V->NT->Prop
 | .non,u=>u=O9
 | .bl b,u=>u=UT b
 | .int i,u=>∃ t,u=Rh i t
 | .str x,u=>∃ t,u=T1 x t
 | .byt b,u=>∃ t,u=Value.bytes b t
 | .flt b,u=>∃ t,u=Value.float b t
 | .ref a,u=>u=Og a
 | .ty n,u=>u=QX n
noncomputable abbrev Vals:List V->List NT->Prop:=RB RelV
theorem Vals.length {xs:List V}{us:List NT}(r:Vals xs us):xs.length=us.length:=TK r
theorem Vals.get:∀ {xs:List V}{us:List NT}{i:Nat}{x:V},Vals xs us->xs[i]? = some x->∃ u,us[i]? = some u/\RelV x u
 | _,_,_,_,.nil,e=>by simp at e
 | _,_,0,_,.cons r _,e=>by simp at e;subst e;exact ⟨_,rfl,r⟩
 | _,_,i+1,x,.cons _ t,e=>by
  obtain ⟨u,h1,h2⟩:=Vals.get (i:=i) (x:=x) t (by simpa using e)
  exact ⟨u,by simpa using h1,h2⟩
theorem Vals.set {x:V}{u:NT}(r:RelV x u):∀ {xs:List V}{us:List NT}(i:Nat),Vals xs us->Vals (xs.set i x) (us.set i u)
 | _,_,_,.nil=>.nil
 | _,_,0,.cons _ t=>.cons r t
 | _,_,i+1,.cons q t=>.cons q (Vals.set r i t)
theorem Vals.append:∀ {xs ys:List V}{us ws:List NT},Vals xs us->Vals ys ws->Vals (xs++ys) (us++ws)
 | _,_,_,_,.nil,s=>s
 | _,_,_,_,.cons r t,s=>.cons r (Vals.append t s)
theorem Vals.take:∀ {xs:List V}{us:List NT}(n:Nat),Vals xs us->Vals (xs.take n) (us.take n)
 | _,_,0,_=>.nil
 | _,_,_+1,.nil=>.nil
 | _,_,n+1,.cons r t=>.cons r (Vals.take n t)
theorem Vals.drop:∀ {xs:List V}{us:List NT}(n:Nat),Vals xs us->Vals (xs.drop n) (us.drop n)
 | _,_,0,r=>r
 | _,_,_+1,.nil=>.nil
 | _,_,n+1,.cons _ t=>Vals.drop n t
noncomputable def RelO:Option V->Option NT->Prop
 | some v,some u=>RelV v u
 | none,none=>True
 | _,_=>False
noncomputable def KV {κ:Type}:List (κ×V)->List (κ×NT)->Prop:=RB fun (p:κ×V)(q:κ×NT)=>p.1=q.1/\RelV p.2 q.2
noncomputable def kV:aW->V
 | .inl i=>.int i
 | .inr x=>.str x
inductive HO where
 | lst (xs:List V)
 | tup (xs:List V)
 | dK (kvs:List (aW×V))|dT (kvs:List (List aW×V))
 | set (S:Int->Bool)(n:Nat)
 | ins (C dx:Addr)(fs:List (Str×V))
 | own (x:Addr)
 | xd (fs:List (Str×V))
 | met (f x:Addr)
 | rng (lo hi:Int)
 | frz (o:Pu)(u:HO)
 | tbl (ps:Array NT)
 | ext (φ:O3->Prop)
noncomputable abbrev Hp:=Addr->Option HO
noncomputable def aI (H:Hp)(a:Addr)(o:HO):Hp:=fun b=>if b=a then some o else H b
theorem cY {H:Hp}{a:Addr}{o:HO}:aI H a o a=some o:=by unfold aI;rw [if_pos rfl]
theorem bH {H:Hp}{a b:Addr}{o:HO}(h:b≠a):aI H a o b=H b:=by unfold aI;rw [if_neg h]
theorem eX {H:Hp}{a b:Addr}{o:HO}(h:H a=some o)(h':H b=none):a≠b:=by
 intro e;subst e;rw [h] at h';cases h'
section
variable (P:Oo)(w:OO)
noncomputable def TupN (h:O3)(a:Addr)(xs:Array NT):Prop:=∃ o,h.get? a=some o/\o.cls=.type "tuple"/\∃ n,o.data=.seq xs n/\o.dict=none
theorem TupN.tup {h:O3}{a:Addr}{xs:Array NT}(x:TupN h a xs):Xz h a xs:=let ⟨o,e,c,n,d,_⟩:=x;⟨o,e,c,n,d⟩
theorem TupN.new (h:O3)(items:Array NT):TupN (h.push { cls:=.type "tuple",data:=.seq items }) h.objs.size items:=⟨_,Of _ rfl,rfl,_,rfl,rfl⟩
noncomputable def ObjOk (H:Hp)(h:O3)(a:Addr):HO->Prop
 | .lst xs=>xs.length<=N4/\∃ (its:List NT)(n:Nat),Vals xs its/\h.get? a=some { cls:=.type "list",data:=.seq its.toArray n }
 | .tup xs=>xs.length<=N4/\∃ its:List NT,Vals xs its/\TupN h a its.toArray
 | .dK kvs=>kvs.length<=N4/\(a == OY)=false/\∃ vs,KV kvs vs/\h.DictOf (jO P w) a vs
 | .dT kvs=>kvs.length<=N4/\(a == OY)=false/\∃ xs:List (List aW×Addr×NT),
   RB (fun (p:List aW×V)(q:List aW×Addr×NT)=>p.1=q.1/\H q.2.1=some (.tup (p.1.map kV))/\RelV p.2 q.2.2) kvs xs /\
   ∃ o es ep,h.get? a=some o/\o.ExactDict/\o.data=.dict es ep/\es.toList=xs.map (Wg (PJ (jO P w)))/\(xs.map (·.1)).Nodup
 | .set S n=>h.SetOf (P8 P w) a S n
 | .ins C dx fs=>H dx=some (.own a)/\fs.length<=1000/\dx≠a/\h.get? a=some (QN C dx) /\
   ∃ mA,h.Ns1 dx mA/\(∀ f,RelO (fs.lookup f) (mA f))/\PySem.Within mA (fs.map (·.1))
 | .own _=>∃ o,h.get? a=some o
 | .xd fs=>∃ mA,h.Ns1 a mA/\∀ f,RelO (fs.lookup f) (mA f)
 | .rng lo hi=>∃ t u v,h.get? a=some { cls:=.type "range",data:=.fields #[.int lo t,.int hi u,.int 1 v] }
 | .frz o u=>h.get? a=some o/\ObjOk H h a u
 | .tbl ps=>h.get? a=some { cls:=.none,data:=.fields ps }
 | .met f x=>h.get? a=some (Ss (.ref f) (.ref x))
 | .ext φ=>φ h/\(∃ o,h.get? a=some o)/\∀ h1 h2:O3,φ h1->(∀ o,h1.get? a=some o->h2.get? a=some o)->φ h2
noncomputable def HOk (H:Hp)(h:O3):Prop:=∀ a o,H a=some o->ObjOk P w H h a o
end
section
variable {P:Oo}{w:OO}{H H':Hp}{h h':O3}{a:Addr}{o:HO}
theorem ObjOk.lt (x:ObjOk P w H h a o):a<h.objs.size:=by
 cases o with
 | lst xs=>obtain ⟨_,_,_,_,e⟩:=x;exact N7 e
 | tup xs=>obtain ⟨_,_,_,p⟩:=x;exact p.tup.lt
 | dK kvs=>obtain ⟨_,_,_,_,o,_,_,e,_⟩:=x;exact N7 e
 | dT kvs=>obtain ⟨_,_,_,_,o,_,_,e,_⟩:=x;exact N7 e
 | set S n=>obtain ⟨o,_,_,_,e,_⟩:=x;exact N7 e
 | ins C dx fs=>obtain ⟨_,_,_,e,_⟩:=x;exact N7 e
 | own y=>obtain ⟨_,e⟩:=x;exact N7 e
 | xd fs=>obtain ⟨_,⟨_,_,_,e,_⟩,_⟩:=x;exact N7 e
 | rng lo hi=>obtain ⟨_,_,_,e⟩:=x;exact N7 e
 | frz ob u=>obtain ⟨e,_⟩:=x;exact N7 e
 | tbl ps=>exact N7 (show h.get? a=some _ from x)
 | met f y=>exact N7 (show h.get? a=some _ from x)
 | ext φ=>obtain ⟨_,⟨_,e⟩,_⟩:=x;exact N7 e
theorem RB.mapP {α β:Type}{F G:α->β->Prop}:∀ {l₁:List α}{l₂:List β},RB F l₁ l₂->(∀ a b,F a b->G a b)->RB G l₁ l₂
 | _,_,.nil,_=>.nil
 | _,_,.cons r t,f=>.cons (f _ _ r) (RB.mapP t f)
theorem ObjOk.stay (x:ObjOk P w H h a o)(k:∀ b u,(b=a\/H b=some (.own a))->h.get? b=some u->h'.get? b=some u)
  (ho:∀ b,H b=some (.own a)->H' b=some (.own a))(ht:∀ b xs,H b=some (.tup xs)->H' b=some (.tup xs)):ObjOk P w H' h' a o:=by
 induction o with
 | lst xs=>obtain ⟨z,its,n,r,e⟩:=x;exact ⟨z,its,n,r,k _ _ (.inl rfl) e⟩
 | tup xs=>obtain ⟨z,its,r,ob,e,c⟩:=x;exact ⟨z,its,r,ob,k _ _ (.inl rfl) e,c⟩
 | dK kvs=>obtain ⟨z,y,vs,r,ob,es,ep,e,c⟩:=x;exact ⟨z,y,vs,r,ob,es,ep,k _ _ (.inl rfl) e,c⟩
 | dT kvs=>
  obtain ⟨z,y,xs,r,ob,es,ep,e,c⟩:=x
  exact ⟨z,y,xs,RB.mapP r fun p q z=>⟨z.1,ht _ _ z.2.1,z.2.2⟩,ob,es,ep,k _ _ (.inl rfl) e,c⟩
 | set S n=>obtain ⟨ob,es,ep,t,e,c⟩:=x;exact ⟨ob,es,ep,t,k _ _ (.inl rfl) e,c⟩
 | ins C dx fs=>
  obtain ⟨d,z,ne,e,mA,⟨od,es,ep,e2,c⟩,r⟩:=x
  exact ⟨ho _ d,z,ne,k _ _ (.inl rfl) e,mA,⟨od,es,ep,k _ _ (.inr d) e2,c⟩,r⟩
 | own y=>obtain ⟨ob,e⟩:=x;exact ⟨ob,k _ _ (.inl rfl) e⟩
 | xd fs=>obtain ⟨mA,⟨od,es,ep,e,c⟩,r⟩:=x;exact ⟨mA,⟨od,es,ep,k _ _ (.inl rfl) e,c⟩,r⟩
 | rng lo hi=>obtain ⟨t,u,v,e⟩:=x;exact ⟨t,u,v,k _ _ (.inl rfl) e⟩
 | frz ob u ih=>obtain ⟨e,q⟩:=x;exact ⟨k _ _ (.inl rfl) e,ih q⟩
 | tbl ps=>
  have e:h.get? a=some { cls:=.none,data:=.fields ps }:=x
  show h'.get? a=some { cls:=.none,data:=.fields ps }
  exact k a _ (.inl rfl) e
 | met f y=>
  have e:h.get? a=some (Ss (.ref f) (.ref y)):=x
  show h'.get? a=some (Ss (.ref f) (.ref y))
  exact k a _ (.inl rfl) e
 | ext φ=>obtain ⟨p,⟨o,e⟩,st⟩:=x;exact ⟨st _ _ p fun o q=>k _ _ (.inl rfl) q,⟨o,k _ _ (.inl rfl) e⟩,st⟩
theorem HOk.lt (x:HOk P w H h)(e:H a=some o):a<h.objs.size:=(x a o e).lt
theorem HOk.fresh (x:HOk P w H h)(e:h.objs.size<=a):H a=none:=by
 cases q:H a with
 | none=>rfl
 | some u=>exact absurd (OD (x.lt q) e) (Qb _)
theorem HOk.kept (x:HOk P w H h)(k:∀ b u,h.get? b=some u->h'.get? b=some u):HOk P w H h':=fun a o e=>
 (x a o e).stay (fun b u _ q=>k b u q) (fun _ q=>q) fun _ _ q=>q
theorem HOk.laid (x:HOk P w H h)(k:∀ b u,h.get? b=some u->h'.get? b=some u)(hp:h.objs.size<=a)(new:ObjOk P w (aI H a o) h' a o):HOk P w (aI H a o) h':=fun b u e=>by
 have hn:=x.fresh hp
 by_cases hb:b=a
 ·subst hb;rw [cY] at e;cases e;exact new
 ·rw [bH hb] at e
  exact (x b u e).stay (fun c v _ q=>k c v q) (fun c q=>by rw [bH (eX q hn)];exact q) fun c xs q=>by rw [bH (eX q hn)];exact q
end
noncomputable def Rd (H:Hp)(a:Addr)(u:HO):Prop:=H a=some u\/∃ o,H a=some (.frz o u)
theorem Rd.of {H:Hp}{a:Addr}{u:HO}(h:H a=some u):Rd H a u:=.inl h
theorem Rd.ok {P:Oo}{w:OO}{H:Hp}{h:O3}{a:Addr}{u:HO}(r:Rd H a u)(x:HOk P w H h):ObjOk P w H h a u:=by
 rcases r with r|⟨o,r⟩
 ·exact x a u r
 ·obtain ⟨_,q⟩:=x a _ r
  exact q
noncomputable def mI:Option HO->Prop
 | some (.lst _)=>True
 | some (.dK _)=>True
 | some (.dT _)=>True
 | some (.set _ _)=>True
 | some (.ins _ _ _)=>True
 | some (.ext _)=>True
 | _=>False
section
variable {P:Oo}{w:OO}{H:Hp}{h h':O3}{x e:Addr}{o':HO}
theorem HOk.write (ok:HOk P w H h)(mu:mI (H x))(he:e=x\/H e=some (.own x))(k:∀ b u,b≠e->h.get? b=some u->h'.get? b=some u)(heo:∃ u,h'.get? e=some u)
  (new:ObjOk P w (aI H x o') h' x o'):HOk P w (aI H x o') h':=fun b u q=>by
 have nown:∀ c y,H c=some (.own y)->c≠x:=fun c y r z=>by subst z;rw [r] at mu;exact mu
 have ntup:∀ c xs,H c=some (.tup xs)->c≠x:=fun c xs r z=>by subst z;rw [r] at mu;exact mu
 by_cases hb:b=x
 ·subst hb;rw [cY] at q;cases q;exact new
 ·rw [bH hb] at q
  by_cases hbe:b=e
  ·have q':H b=some (.own x):=by
    rcases he with z|z
    ·exact absurd (hbe.trans z) hb
    ·rw [hbe];exact z
   rw [q] at q';cases q'
   obtain ⟨v,hv⟩:=heo
   exact ⟨v,by rw [hbe];exact hv⟩
  ·refine (ok b u q).stay (fun c v hc r=>k c v ?_ r) (fun c r=>by rw [bH (nown c b r)];exact r) fun c xs r=>by rw [bH (ntup c xs r)];exact r
   rcases hc with rfl|hc
   ·exact hbe
   ·rintro rfl
    rcases he with z|z
    ·exact nown c b hc z
    ·rw [hc] at z;cases z;exact hb rfl
end
structure Un (fs ex:List Addr)(H H':Hp)(h h':O3):Prop where
 keep:∀ b o,h.get? b=some o->H b=none->b∉fs->b∉ex->h'.get? b=some o
 slot:∀ b o,h.get? b=some o->H b=none->b∈fs->b∉ex->∃ sl,h'.get? b=some { o with slots:=sl }
 free:∀ b o,h.get? b=some o->H b=none->b∉ex->H' b=none
 there:∀ b o,h.get? b=some o->b∉ex->∃ o',h'.get? b=some o'
 tups:∀ b xs,H b=some (.tup xs)->H' b=some (.tup xs)
 frzs:∀ b o u,H b=some (.frz o u)->H' b=some (.frz o u)
 tbls:∀ b ps,H b=some (.tbl ps)->∃ more,H' b=some (.tbl (ps++more))
section
variable {fs fs' ex ex':List Addr}{H H1 H2:Hp}{h h1 h2 h':O3}{a x e:Addr}{o:HO}
theorem Un.any (u:Un fs ex H H1 h h1){b:Addr}{ob:Pu}(q:h.get? b=some ob)(n:H b=none)(hx:b∉ex):∃ sl,h1.get? b=some { ob with slots:=sl }:=by
 by_cases hb:b∈fs
 ·exact u.slot b ob q n hb hx
 ·exact ⟨ob.slots,u.keep b ob q n hb hx⟩
theorem Un.trans (a:Un fs ex H H1 h h1)(b:Un fs ex H1 H2 h1 h2):Un fs ex H H2 h h2 where
 keep:=fun c ob q n hc hx=>b.keep c ob (a.keep c ob q n hc hx) (a.free c ob q n hx) hc hx
 slot:=fun c ob q n hc hx=>by
  obtain ⟨sl,e1⟩:=a.slot c ob q n hc hx
  obtain ⟨sl',e2⟩:=b.slot c _ e1 (a.free c ob q n hx) hc hx
  exact ⟨sl',e2⟩
 free:=fun c ob q n hx=>by
  obtain ⟨o',e1⟩:=a.there c ob q hx
  exact b.free c o' e1 (a.free c ob q n hx) hx
 there:=fun c ob q hx=>by
  obtain ⟨o',e1⟩:=a.there c ob q hx
  exact b.there c o' e1 hx
 tups:=fun c xs q=>b.tups c xs (a.tups c xs q)
 frzs:=fun c ob xs q=>b.frzs c ob xs (a.frzs c ob xs q)
 tbls:=fun c ps q=>by
  obtain ⟨m1,e1⟩:=a.tbls c ps q
  obtain ⟨m2,e2⟩:=b.tbls c _ e1
  exact ⟨m1++m2,by rw [e2,UZ]⟩
theorem Un.kept (k:∀ b u,h.get? b=some u->h'.get? b=some u):Un fs ex H H h h':=
 ⟨fun b ob q _ _ _=>k b ob q,fun b ob q _ _ _=>⟨ob.slots,k b ob q⟩,fun _ _ _ n _=>n,fun b ob q _=>⟨ob,k b ob q⟩,fun _ _ q=>q,fun _ _ _ q=>q,fun _ ps q=>⟨#[],by rw [q];simp⟩⟩
theorem Un.refl:Un fs ex H H h h:=Un.kept fun _ _ q=>q
theorem Un.laid (k:∀ b u,h.get? b=some u->h'.get? b=some u)(hp:h.objs.size<=a)(hn:H a=none):Un fs ex H (aI H a o) h h' where
 keep:=fun b u q _ _ _=>k b u q
 slot:=fun b u q _ _ _=>⟨u.slots,k b u q⟩
 free:=fun b u q n _=>by rw [bH (Oh (OD (N7 q) hp))];exact n
 there:=fun b u q _=>⟨u,k b u q⟩
 tups:=fun b xs q=>by rw [bH (eX q hn)];exact q
 frzs:=fun b u xs q=>by rw [bH (eX q hn)];exact q
 tbls:=fun b ps q=>⟨#[],by rw [bH (eX q hn),q];simp⟩
theorem Un.write (mu:mI (H x))(he:e=x\/H e=some (.own x))(k:∀ b u,b≠e->h.get? b=some u->h'.get? b=some u)(heo:∃ u,h'.get? e=some u):Un fs ex H (aI H x o) h h':=by
 have hx:∀ b,H b=none->b≠x:=fun b n z=>by subst z;rw [n] at mu;exact mu
 have hb:∀ b,H b=none->b≠e:=fun b n z=>by
  subst z
  rcases he with r|r
  ·exact hx b n r
  ·rw [n] at r;cases r
 have hm:∀ b u,H b=some u->¬ mI (some u)->b≠x:=fun b u q nm z=>by subst z;rw [q] at mu;exact nm mu
 refine ⟨fun b u q n _ _=>k b u (hb b n) q,fun b u q n _ _=>⟨u.slots,k b u (hb b n) q⟩,fun b u q n _=>by rw [bH (hx b n)];exact n,fun b u q _=>?_,
  fun b xs q=>by rw [bH (hm b _ q fun z=>z)];exact q,fun b u xs q=>by rw [bH (hm b _ q fun z=>z)];exact q,fun b ps q=>⟨#[],by rw [bH (hm b _ q fun z=>z),q];simp⟩⟩
 by_cases hbe:b=e
 ·subst hbe;exact heo
 ·exact ⟨u,k b u hbe q⟩
end
noncomputable def n5 (h:O3)(H:Hp):List Addr:=(ON h.objs.size).filter fun a=>(H a).isSome
noncomputable def gU (h:O3)(H:Hp):O3:=PySem.W.hideAll h (n5 h H)
theorem CZ (h:O3)(H:Hp):(gU h H).objs.size=h.objs.size:=PySem.W.hideAll_size _ _
theorem C0 {h:O3}{H:Hp}{b:Addr}{o:Pu}(e:h.get? b=some o)(n:H b=none):(gU h H).get? b=some o:=
 PySem.W.hideAll_get _ e fun hm=>by
  have q:(H b).isSome=true:=(Pl.mp hm).2
  rw [n] at q;simp at q
theorem C1 {h:O3}{H:Hp}{b:Addr}{o:Pu}(e:(gU h H).get? b=some o):h.get? b=some o/\H b=none:=by
 have e':h.get? b=some o:=PySem.W.of_hideAll (n5 h H) e
 refine ⟨e',?_⟩
 cases q:H b with
 | none=>rfl
 | some x=>
  have hm:b∈n5 h H:=Pl.mpr ⟨PH.mpr (N7 e'),by simp [q]⟩
  have z:(gU h H).get? b=none:=PySem.W.hideAll_none (n5 h H) hm
  rw [z] at e;cases e
noncomputable def n6 (g h:O3)(L:Addr):List (Addr×Pu):=(ON h.objs.size).filterMap fun a=>if a=L\/(g.get? a).isSome=true then none else (h.get? a).map fun o=>(a,o)
theorem qL {g h:O3}{L a:Addr}{o:Pu}(h1:a≠L)(h2:g.get? a=none)(h3:h.get? a=some o):(a,o)∈n6 g h L:=
 Q2.mpr ⟨a,PH.mpr (N7 h3),by simp [h1,h2,h3]⟩
theorem C2 {g h:O3}{L:Addr}{p:Addr×Pu}(hp:p∈n6 g h L):p.1≠L/\g.get? p.1=none/\h.get? p.1=some p.2:=by
 obtain ⟨b,_,e⟩:=Q2.mp hp
 split at e
 ·cases e
 ·rename_i hn
  cases q:h.get? b with
  | none=>rw [q] at e;simp at e
  | some u=>
   rw [q] at e
   simp only [Oy,Xx] at e
   subst e
   refine ⟨fun z=>hn (.inl z),?_,q⟩
   show g.get? b=none
   cases r:g.get? b with
   | none=>rfl
   | some v=>exact (hn (.inr (by simp [r]))).elim
noncomputable def bJ (g h:O3)(L d:Addr):List (Addr×Pu):=(n6 g h L).filter fun p=>decide (p.1≠d)
theorem C3 {g h:O3}{L:Addr}:News g L h (n6 g h L):=fun p hp=>let ⟨a,b,c⟩:=C2 hp;⟨c,a,b⟩
end L2
namespace L2
open PySem PySem.Spec PyProof.Rows
structure Mod (K:NO)(mg:Str->Option NT)(base:O3):Prop where
 kin:K.In base
 glob:base.Ns Pk mg
 blt:∃ mb,base.Ns Wi mb/\∀ x:Str,x ≠ "__name__"->mb x=Pf x
 nolimit:base.NoLimit
structure Cx where
 prog:Oo
 w:OO
 K:NO
 mg:Str->Option NT
 base:O3
 A:OG
 N:List Str
 s₀:NV
 H₀:Hp
 env:SI
 outer:List SI
 stack:List SI
 ex:List Addr
 fn:Str->Bool
 calm:Bool
 pn:List (Addr×Pu)
 xe:NT->NV->Prop
noncomputable def eY (l:List SI):List Addr:=l.filterMap (·.frame)
noncomputable abbrev Cx.fs (X:Cx):List Addr:=eY X.outer
noncomputable def mJ (sc:Qn)(x:Str):Prop:=sc.names.lookup x=some .local\/sc.names.lookup x=some .cell\/sc.names.lookup x=some .free
noncomputable def Loc (sc:Qn)(x:Str):Prop:=sc.names.lookup x=some .local\/sc.names.lookup x=some .cell
noncomputable def C4 (env:SI)(h:O3)(m:Str->Option NT)(x:Str)(u:NT):Prop:=
 (env.kindOf x=some .local/\m x=some u)\/((env.kindOf x=some .cell\/env.kindOf x=some .free)/\∃ c,env.cells.lookup x=some c/\h.IsCell c (some u))
structure Cx.Ok (X:Cx):Prop where
 mod:Mod X.K X.mg X.base
 kind:X.env.scope.kind=.function
 glob:X.env.globals=Pk
 blt:X.env.builtins=Wi
 above:X.s₀.heap.objs.size<=X.env.locals
 inj:∀ x y c,X.env.cells.lookup x=some c->X.env.cells.lookup y=some c->x=y
 has:∀ x,(X.env.kindOf x=some .cell\/X.env.kindOf x=some .free)->∃ c,X.env.cells.lookup x=some c
 cab:∀ x c,X.fn x=true->X.env.cells.lookup x=some c->X.s₀.heap.objs.size<=c
 hd:X.calm=true->X.A.handled=none
 frames:X.A.frames=some X.stack
 stk:X.stack=X.outer\/(X.stack=X.env::X.outer/\X.env.frame=some X.env.locals)
 exf:∀ b∈X.ex,b≠X.env.locals/\∀ x c,X.env.cells.lookup x=some c->c≠b
 bs:∀ b o,X.base.get? b=some o->X.s₀.heap.get? b=some o/\X.H₀ b=none
 bsz:X.base.objs.size<=X.s₀.heap.objs.size
 noex:∀ b o,X.base.get? b=some o->b∉X.ex
 exfs:∀ b∈X.ex,b∉X.fs
 funs:X.s₀.heap.FunFrames X.base X.outer
 frf:∀ b∈X.fs,X.H₀ b=none
structure Inv (X:Cx)(XB:List (Addr×Pu))(σ:List (Option V))(H:Hp)(s:NV):Prop where
 ok:X.Ok
 os:s.os=X.s₀.os
 bare:SM s.gens
 base:Un X.fs X.ex X.H₀ H X.s₀.heap s.heap
 loc:∃ m,s.heap.Ns X.env.locals m/\∀ (i:Nat)(x:Str)(v:V),X.N[i]? = some x->σ[i]? = some (some v)->mJ X.env.scope x->∃ u,RelV v u/\C4 X.env s.heap m x u
 cell:∀ x c,X.env.cells.lookup x=some c->∃ v,s.heap.IsCell c v
 free:H X.env.locals=none
 freeC:∀ x c,X.env.cells.lookup x=some c->H c=none
 pin:∀ p∈X.pn++XB,s.heap.get? p.1=some p.2/\H p.1=none/\p.1≠X.env.locals/\p.1∉X.fs/\∀ v,p.2.data≠.cell v
 hok:HOk X.prog X.w H s.heap
 len:σ.length=X.N.length
section
variable {X:Cx}{XB:List (Addr×Pu)}{σ:List (Option V)}{H H':Hp}{s:NV}{h':O3}
theorem Cx.Ok.nofr (ok:X.Ok){b:Addr}{o:Pu}(e:X.base.get? b=some o):b∉X.fs:=fun hb=>by
 have:=(ok.funs.mem hb).1
 rw [e] at this;cases this
theorem Inv.bs (I:Inv X XB σ H s):∀ b o,X.base.get? b=some o->s.heap.get? b=some o/\H b=none:=fun b o e=>
 ⟨I.base.keep b o (I.ok.bs b o e).1 (I.ok.bs b o e).2 (I.ok.nofr e) (I.ok.noex b o e),I.base.free b o (I.ok.bs b o e).1 (I.ok.bs b o e).2 (I.ok.noex b o e)⟩
theorem Inv.bk (I:Inv X XB σ H s):∀ b o,X.base.get? b=some o->s.heap.get? b=some o:=fun b o e=>(I.bs b o e).1
theorem Inv.mod (I:Inv X XB σ H s):Mod X.K X.mg X.base:=I.ok.mod
theorem Inv.kIn (I:Inv X XB σ H s):X.K.In s.heap:=I.ok.mod.kin.keeps I.bk
theorem Inv.nolimit (I:Inv X XB σ H s):s.heap.NoLimit:=I.ok.mod.nolimit.keeps I.bk
theorem Inv.fr (I:Inv X XB σ H s):∃ m,Fr X.base X.env.locals s.heap m:=
 let ⟨m,hn,_⟩:=I.loc
 ⟨m,hn,I.bk,OU I.ok.bsz I.ok.above⟩
theorem Inv.lt (I:Inv X XB σ H s):X.env.locals<s.heap.objs.size:=let ⟨_,hn,_⟩:=I.loc;hn.lt
theorem Inv.sz (I:Inv X XB σ H s):X.s₀.heap.objs.size<=s.heap.objs.size:=OU I.ok.above (R6 I.lt)
theorem Inv.nofs (I:Inv X XB σ H s){a:Addr}(h:s.heap.objs.size<=a):a∉X.fs:=fun hb=>by
 obtain ⟨_,o,ho,_⟩:=I.ok.funs.mem hb
 exact absurd (OD (N7 ho) (OU I.sz h)) (Qb _)
theorem Inv.cne (I:Inv X XB σ H s):∀ x c,X.env.cells.lookup x=some c->c≠X.env.locals:=fun x c e z=>by
 obtain ⟨v,o,ho,hd⟩:=I.cell x c e
 obtain ⟨m,⟨o',es,ep,ho',hd',_⟩,_⟩:=I.loc
 rw [z,ho'] at ho;cases ho;rw [hd'] at hd;cases hd
theorem Inv.funs (I:Inv X XB σ H s):s.heap.FunFrames X.base X.outer:=by
 have all:∀ (l:List SI),(∀ b∈eY l,b∈X.fs)->X.s₀.heap.FunFrames X.base l->s.heap.FunFrames X.base l:=by
  intro l
  induction l with
  | nil=>intro _ _;trivial
  | cons env r ih=>
   intro hs hl
   obtain ⟨hk,⟨L,o,hf,hn,ho,hd⟩,hr⟩:=hl
   have hL:L∈X.fs:=hs L (by unfold eY;rw [Pt,hf];exact Om)
   obtain ⟨sl,e⟩:=I.base.slot L o ho (I.ok.frf L hL) hL fun z=>I.ok.exfs L z hL
   exact ⟨hk,⟨L,_,hf,hn,e,hd⟩,ih (fun b hb=>hs b (by unfold eY;rw [Pt,hf];exact Oc _ hb)) hr⟩
 exact all X.outer (fun _ hb=>hb) I.ok.funs
theorem Inv.stack (I:Inv X XB σ H s):s.heap.FunFrames X.base X.stack:=by
 rcases I.ok.stk with e|⟨e,hf⟩
 ·rw [e];exact I.funs
 ·rw [e]
  obtain ⟨m,hn,_⟩:=I.loc
  refine .cons (by rw [I.ok.kind];decide) hf hn ?_ I.funs
  exact Heap.get?_none_of_le (OU I.ok.bsz I.ok.above)
theorem Inv.stkSub (I:Inv X XB σ H s):∀ b∈eY X.stack,b∈X.env.locals::X.fs:=fun b hb=>by
 rcases I.ok.stk with e|⟨e,hf⟩
 ·rw [e] at hb;exact Oc _ hb
 ·rw [e] at hb
  unfold eY at hb
  rw [Pt,hf] at hb
  exact hb
theorem Inv.stkFree (I:Inv X XB σ H s):∀ b∈eY X.stack,H b=none:=fun b hb=>by
 rcases Ov.mp (I.stkSub b hb) with e|hb
 ·rw [e];exact I.free
 ·obtain ⟨_,o,ho,_⟩:=I.ok.funs.mem hb
  exact I.base.free b o ho (I.ok.frf b hb) fun z=>I.ok.exfs b z hb
theorem Inv.step {g':Array V4}{t':Nat}{d':Drawn}{ch:List Addr}(I:Inv X XB σ H s)
  (hch:∀ b∈ch,(b∈X.ex\/X.s₀.heap.objs.size<=b)/\b≠X.env.locals/\(∀ x c,X.env.cells.lookup x=some c->c≠b)/\∀ p∈X.pn++XB,p.1≠b)
  (keep:∀ b o,b≠X.env.locals->b∉X.fs->b∉ch->s.heap.get? b=some o->H b=none->h'.get? b=some o)
  (slot:∀ b o,b≠X.env.locals->b∈X.fs->b∉ch->s.heap.get? b=some o->H b=none->∃ sl,h'.get? b=some { o with slots:=sl })(free:∀ b o,b∉ch->s.heap.get? b=some o->H b=none->H' b=none)
  (there:∀ b o,b∉ch->s.heap.get? b=some o->∃ o',h'.get? b=some o')
  (tups:∀ b xs,H b=some (.tup xs)->H' b=some (.tup xs))(frzs:∀ b o u,H b=some (.frz o u)->H' b=some (.frz o u))(tbls:∀ b ps,H b=some (.tbl ps)->∃ more,H' b=some (.tbl (ps++more)))
  (ns:∀ m,s.heap.Ns X.env.locals m->h'.Ns X.env.locals m)(hok:HOk X.prog X.w H' h')(hg:SM g') :
  Inv X XB σ H' { s with heap:=h',gens:=g',drawn:=d',toks:=t' }:=by
 have neL:∀ b o,X.s₀.heap.get? b=some o->b≠X.env.locals:=fun b o e=>Oh (OD (N7 e) I.ok.above)
 have neC:∀ b o,X.s₀.heap.get? b=some o->b∉X.ex->b∉ch:=fun b o e hx hb=>by
  rcases (hch b hb).1 with z|z
  ·exact hx z
  ·exact absurd (OD (N7 e) z) (Qb _)
 have cellK:∀ x c,X.env.cells.lookup x=some c->∀ v,s.heap.IsCell c v->h'.IsCell c v:=fun x c e v ⟨o,ho,hd⟩=>by
  have nch:c∉ch:=fun z=>(hch c z).2.2.1 x c e rfl
  by_cases hc:c∈X.fs
  ·obtain ⟨sl,q⟩:=slot c o (I.cne x c e) hc nch ho (I.freeC x c e)
   exact ⟨_,q,hd⟩
  ·exact ⟨o,keep c o (I.cne x c e) hc nch ho (I.freeC x c e),hd⟩
 refine ⟨I.ok,I.os,hg,⟨fun b o e n hb hx=>?_,fun b o e n hb hx=>?_,fun b o e n hx=>?_,fun b o e hx=>?_,fun b xs e=>tups b xs (I.base.tups b xs e),fun b o xs e=>frzs b o xs (I.base.frzs b o xs e),fun b ps e=>?_⟩,?_,fun x c e=>?_,?_,fun x c e=>?_,fun p hp=>?_,hok,I.len⟩
 ·exact keep b o (neL b o e) hb (neC b o e hx) (I.base.keep b o e n hb hx) (I.base.free b o e n hx)
 ·obtain ⟨sl,e1⟩:=I.base.slot b o e n hb hx
  obtain ⟨sl',e2⟩:=slot b _ (neL b o e) hb (neC b o e hx) e1 (I.base.free b o e n hx)
  exact ⟨sl',e2⟩
 ·obtain ⟨o',e1⟩:=I.base.there b o e hx
  exact free b o' (neC b o e hx) e1 (I.base.free b o e n hx)
 ·obtain ⟨o',e1⟩:=I.base.there b o e hx
  exact there b o' (neC b o e hx) e1
 ·obtain ⟨m1,e1⟩:=I.base.tbls b ps e
  obtain ⟨m2,e2⟩:=tbls b _ e1
  exact ⟨m1++m2,by rw [e2,UZ]⟩
 ·obtain ⟨m,hn,hl⟩:=I.loc
  refine ⟨m,ns m hn,fun i x v e1 e2 e3=>?_⟩
  obtain ⟨u,r,l⟩:=hl i x v e1 e2 e3
  refine ⟨u,r,?_⟩
  rcases l with l|⟨k,c,e,z⟩
  ·exact .inl l
  ·exact .inr ⟨k,c,e,cellK x c e _ z⟩
 ·obtain ⟨v,z⟩:=I.cell x c e
  exact ⟨v,cellK x c e v z⟩
 ·obtain ⟨m,⟨o,_,_,ho,_⟩,_⟩:=I.loc
  exact free _ o (fun z=>(hch _ z).2.1 rfl) ho I.free
 ·obtain ⟨v,o,ho,hd⟩:=I.cell x c e
  exact free c o (fun z=>(hch c z).2.2.1 x c e rfl) ho (I.freeC x c e)
 ·obtain ⟨e,n,ne,nf,d⟩:=I.pin p hp
  have nch:p.1∉ch:=fun z=>(hch p.1 z).2.2.2 p hp rfl
  exact ⟨keep p.1 p.2 ne nf nch e n,free p.1 p.2 nch e n,ne,nf,d⟩
theorem Inv.un {t':Nat}(I:Inv X XB σ H s)(u:Un X.fs [] H H' s.heap h')(hok:HOk X.prog X.w H' h'):Inv X XB σ H' { s with heap:=h',toks:=t' }:=by
 obtain ⟨m,⟨o,es,ep,ho,r⟩,_⟩:=id I.loc
 obtain ⟨sl,hL⟩:=u.any ho I.free (by simp)
 exact I.step (g':=s.gens) (d':=s.drawn) (ch:=[]) (fun _ z=>nomatch z) (fun b o _ hb _ e n=>u.keep b o e n hb (by simp)) (fun b o _ hb _ e n=>u.slot b o e n hb (by simp)) (fun b o _ e n=>u.free b o e n (by simp)) (fun b o _ e=>u.there b o e (by simp)) u.tups u.frzs u.tbls (fun m' hm=>by
  obtain ⟨o',es',ep',ho',r'⟩:=hm
  rw [ho] at ho';cases ho'
  exact ⟨_,es',ep',hL,r'⟩) hok I.bare
theorem Inv.call {g':Array V4}{t':Nat}{d':Drawn}{ch:List Addr}(I:Inv X XB σ H s)(u:Un (eY X.stack) ch H H' s.heap h')(hok:HOk X.prog X.w H' h')(hg:SM g')
  (hch:∀ b∈ch,(b∈X.ex\/X.s₀.heap.objs.size<=b)/\b≠X.env.locals/\(∀ x c,X.env.cells.lookup x=some c->c≠b)/\∀ p∈X.pn++XB,p.1≠b) :
  Inv X XB σ H' { s with heap:=h',gens:=g',drawn:=d',toks:=t' }:=by
 obtain ⟨m,⟨o,es,ep,ho,r⟩,_⟩:=id I.loc
 obtain ⟨sl,hL⟩:=u.any ho I.free fun z=>(hch _ z).2.1 rfl
 exact I.step (ch:=ch) hch (fun b o hL hb hc e n=>u.keep b o e n (fun z=>(Ov.mp (I.stkSub b z)).elim hL hb) hc) (fun b o _ _ hc e n=>u.any e n hc) (fun b o hc e n=>u.free b o e n hc) (fun b o hc e=>u.there b o e hc) u.tups u.frzs u.tbls (fun m' hm=>by
  obtain ⟨o',es',ep',ho',r'⟩:=hm
  rw [ho] at ho';cases ho'
  exact ⟨_,es',ep',hL,r'⟩) hok hg
theorem Inv.turned {t':Nat}{it:Addr}(I:Inv X XB σ H s)(k:∀ b o,b≠it->s.heap.get? b=some o->h'.get? b=some o)(hn:H it=none)(hL:it≠X.env.locals)
  (h1:it∈X.ex\/X.s₀.heap.objs.size<=it)(h2:∀ x c,X.env.cells.lookup x=some c->c≠it)(h3:∀ p∈X.pn++XB,p.1≠it):Inv X XB σ H { s with heap:=h',toks:=t' }:=by
 have nit:∀ b u,H b=some u->b≠it:=fun b u e z=>by rw [z,hn] at e;cases e
 refine I.step (g':=s.gens) (d':=s.drawn) (ch:=[it]) (fun b hb=>?_) (fun b o _ _ hc e _=>k b o (fun z=>hc (by simp [z])) e) (fun b o _ _ hc e _=>⟨o.slots,k b o (fun z=>hc (by simp [z])) e⟩) (fun _ _ _ _ n=>n)
  (fun b o hc e=>⟨o,k b o (fun z=>hc (by simp [z])) e⟩) (fun _ _ e=>e) (fun _ _ _ e=>e) (fun b ps e=>⟨#[],by rw [e];simp⟩) (fun m hm=>?_) (fun b u e=>?_) I.bare
 ·have e:b=it:=by simpa using hb
  subst e
  exact ⟨h1,hL,h2,h3⟩
 ·obtain ⟨o,es,ep,ho,r⟩:=hm
  exact ⟨o,es,ep,k _ o (OB hL) ho,r⟩
 ·refine (I.hok b u e).stay (fun c v hc q=>k c v ?_ q) (fun _ q=>q) fun _ _ q=>q
  rcases hc with z|z
  ·rw [z];exact nit b u e
  ·exact nit c _ z
theorem Inv.tok (I:Inv X XB σ H s)(t:Nat):Inv X XB σ H { s with toks:=t }:=I.un (h':=s.heap) (t':=t) Un.refl I.hok
theorem Inv.kept {t':Nat}(I:Inv X XB σ H s)(k:∀ b u,s.heap.get? b=some u->h'.get? b=some u):Inv X XB σ H { s with heap:=h',toks:=t' }:=I.un (Un.kept k) (I.hok.kept k)
theorem Inv.laid {a:Addr}{o:HO}{t':Nat}(I:Inv X XB σ H s)(k:∀ b u,s.heap.get? b=some u->h'.get? b=some u)(hp:s.heap.objs.size<=a)(new:ObjOk X.prog X.w (aI H a o) h' a o) :
  Inv X XB σ (aI H a o) { s with heap:=h',toks:=t' }:=I.un (Un.laid k hp (I.hok.fresh hp)) (I.hok.laid k hp new)
theorem Inv.write {x e:Addr}{o:HO}{t':Nat}(I:Inv X XB σ H s)(mu:mI (H x))(he:e=x\/H e=some (.own x))(k:∀ b u,b≠e->s.heap.get? b=some u->h'.get? b=some u)(heo:∃ u,h'.get? e=some u)
  (new:ObjOk X.prog X.w (aI H x o) h' x o):Inv X XB σ (aI H x o) { s with heap:=h',toks:=t' }:=I.un (Un.write mu he k heo) (I.hok.write mu he k heo new)
theorem Inv.pins_of {pins':List (Addr×Pu)}(I:Inv X XB σ H s)(h:∀ p∈pins',s.heap.get? p.1=some p.2/\H p.1=none/\p.1≠X.env.locals/\p.1∉X.fs/\∀ v,p.2.data≠.cell v):Inv X pins' σ H s:=
 ⟨I.ok,I.os,I.bare,I.base,I.loc,I.cell,I.free,I.freeC,fun p hp=>(O2.mp hp).elim (fun z=>I.pin p (UL _ z)) (h p),I.hok,I.len⟩
theorem v5 {N:List Str}(hN:N.Nodup){i j:Nat}{x:Str}(a:N[i]? = some x)(b:N[j]? = some x):i=j:=by
 obtain ⟨h1,e1⟩:=NS.mp a
 obtain ⟨h2,e2⟩:=NS.mp b
 exact (VO hN).mp (e1.trans e2.symm)
theorem v7 {M:Model}{A:OG}{E:NT->NV->Prop}{i:Nat}{x:Str}{v:V}{u:NT}{Q:Unit->NV->Prop}(I:Inv X XB σ H s)(hN:X.N.Nodup)(hi:X.N[i]? = some x)(hx:Loc X.env.scope x)(r:RelV v u)
  (h:∀ s',Inv X XB (σ.set i (some v)) H s'->(∃ a,Qk a s.heap s'.heap/\(a=X.env.locals\/X.env.cells.lookup x=some a))->Q () s')(hf:X.fn x=true\/X.env.scope.names.lookup x=some .local:=by first|exact .inl rfl|exact .inr rfl|assumption):Oi M A (storeName X.env x u) Q E s:=by
 obtain ⟨m,hn,hl⟩:=id I.loc
 have hcls:(X.env.scope.kind == .class||(X.env.scope.kind == .module&&X.env.locals != X.env.globals))=false:=by rw [I.ok.kind];rfl
 have hiσ:i<σ.length:=by rw [I.len];exact (NS.mp hi).1
 have cne:=I.cne
 have tracked:∀ {a:Addr}{h':O3},(∃ o,s.heap.get? a=some o/\H a=none)->Qk a s.heap h'->HOk X.prog X.w H h':=fun {a h'} ha hs b ob e=>by
  obtain ⟨_,_,hfree⟩:=ha
  refine (I.hok b ob e).stay (fun c w' hc q=>(hs.2 c ?_).trans q) (fun _ q=>q) fun _ _ q=>q
  rintro rfl
  rcases hc with rfl|hc
  ·rw [hfree] at e;cases e
  ·rw [hfree] at hc;cases hc
 rcases hx with hk|hk
 ·refine wpAny_storeName_local hk hn (fun h' hn' hs=>?_) hcls
  obtain ⟨oL,_,_,hoL,_⟩:=id hn
  refine h _ ⟨I.ok,I.os,I.bare,⟨fun b o e n hb hx=>?_,fun b o e n hb hx=>?_,I.base.free,fun b o e hx=>?_,I.base.tups,I.base.frzs,I.base.tbls⟩,⟨_,hn',fun j y v' e1 e2 e3=>?_⟩,fun y c e=>?_,I.free,I.freeC,fun p hp=>?_,tracked ⟨oL,hoL,I.free⟩ hs,by simpa using I.len⟩ ⟨_,hs,.inl rfl⟩
  ·exact (hs.2 b (Oh (OD (N7 e) I.ok.above))).trans (I.base.keep b o e n hb hx)
  ·obtain ⟨sl,e1⟩:=I.base.slot b o e n hb hx
   exact ⟨sl,(hs.2 b (Oh (OD (N7 e) I.ok.above))).trans e1⟩
  ·obtain ⟨o',e1⟩:=I.base.there b o e hx
   exact ⟨o',(hs.2 b (Oh (OD (N7 e) I.ok.above))).trans e1⟩
  ·by_cases hj:j=i
   ·subst hj
    rw [hi] at e1;cases e1
    rw [OK hiσ] at e2
    cases e2
    exact ⟨u,r,.inl ⟨hk,by simp⟩⟩
   ·rw [NR (OB hj)] at e2
    obtain ⟨u',r',q⟩:=hl j y v' e1 e2 e3
    refine ⟨u',r',?_⟩
    rcases q with ⟨k,e⟩|⟨k,c,e,z⟩
    ·refine .inl ⟨k,?_⟩
     have:y≠x:=fun e=>hj (v5 hN e1 (e ▸ hi))
     simp [this,e]
    ·exact .inr ⟨k,c,e,z.sameBut hs (cne y c e)⟩
  ·obtain ⟨w',z⟩:=I.cell y c e
   exact ⟨w',z.sameBut hs (cne y c e)⟩
  ·obtain ⟨e,n,ne,nf,d⟩:=I.pin p hp
   exact ⟨(hs.2 p.1 ne).trans e,n,ne,nf,d⟩
 ·have hfn:X.fn x=true:=by
   rcases hf with z|z
   ·exact z
   ·rw [z] at hk;cases hk
  obtain ⟨c,hc⟩:=I.ok.has x (.inl hk)
  obtain ⟨w',z⟩:=I.cell x c hc
  refine wpAny_storeName_cell I.ok.kind hk hc z (fun h' hc' hs=>?_)
  obtain ⟨oc,hoc,hocd⟩:=id z
  refine h { s with heap:=h' } ⟨I.ok,I.os,I.bare,⟨fun b o e n hb hx=>?_,fun b o e n hb hx=>?_,I.base.free,fun b o e hx=>?_,I.base.tups,I.base.frzs,I.base.tbls⟩,⟨m,hn.sameBut hs (OB (cne x c hc)),fun j y v' e1 e2 e3=>?_⟩,fun y c' e=>?_,I.free,I.freeC,fun p hp=>?_,tracked ⟨oc,hoc,I.freeC x c hc⟩ hs,by simpa using I.len⟩ ⟨c,hs,.inr hc⟩
  ·exact (hs.2 b (Oh (OD (N7 e) (I.ok.cab x c hfn hc)))).trans (I.base.keep b o e n hb hx)
  ·obtain ⟨sl,e1⟩:=I.base.slot b o e n hb hx
   exact ⟨sl,(hs.2 b (Oh (OD (N7 e) (I.ok.cab x c hfn hc)))).trans e1⟩
  ·obtain ⟨o',e1⟩:=I.base.there b o e hx
   exact ⟨o',(hs.2 b (Oh (OD (N7 e) (I.ok.cab x c hfn hc)))).trans e1⟩
  ·by_cases hj:j=i
   ·subst hj
    rw [hi] at e1;cases e1
    rw [OK hiσ] at e2
    cases e2
    exact ⟨u,r,.inr ⟨.inl hk,c,hc,hc'⟩⟩
   ·rw [NR (OB hj)] at e2
    obtain ⟨u',r',q⟩:=hl j y v' e1 e2 e3
    refine ⟨u',r',?_⟩
    rcases q with q|⟨k,c',e,z'⟩
    ·exact .inl q
    ·refine .inr ⟨k,c',e,z'.sameBut hs ?_⟩
     rintro rfl
     exact hj (v5 hN e1 (I.ok.inj _ _ _ e hc ▸ hi))
  ·by_cases hcc:c'=c
   ·subst hcc;exact ⟨_,hc'⟩
   ·obtain ⟨w2,z2⟩:=I.cell y c' e
    exact ⟨w2,z2.sameBut hs hcc⟩
  ·obtain ⟨e,n,ne,nf,d⟩:=I.pin p hp
   refine ⟨(hs.2 p.1 ?_).trans e,n,ne,nf,d⟩
   intro q
   rw [q,hoc] at e
   have q':oc=p.2:=Oj e
   exact d w' (by rw [<- q'];exact hocd)
theorem v8 {M:Model}{A:OG}{E:NT->NV->Prop}{i:Nat}{x:Str}{v:V}{u:NT}{Q:Unit->NV->Prop}(I:Inv X XB σ H s)(hN:X.N.Nodup)(hi:X.N[i]? = some x)(hx:Loc X.env.scope x)(r:RelV v u)
  (h:∀ s',Inv X XB (σ.set i (some v)) H s'->Q () s')(hf:X.fn x=true\/X.env.scope.names.lookup x=some .local:=by first|exact .inl rfl|exact .inr rfl|assumption):Oi M A (storeName X.env x u) Q E s:=
 v7 I hN hi hx r (fun s' I' _=>h s' I') hf
end
noncomputable abbrev XK:=NT->Option Addr->Hp->Prop
noncomputable abbrev St:=List (Option V)
noncomputable abbrev VK:=V->Hp->Prop
noncomputable abbrev TE:=St->Hp->VK->Prop
noncomputable abbrev TT:=St->Hp->(Bool->Hp->Prop)->Prop
noncomputable abbrev TA:=St->Hp->(List V->Hp->Prop)->Prop
structure Ends where
 nx:St->Hp->Prop
 rt:VK
 bk:St->Hp->Prop:=fun _ _=>False
 ct:St->Hp->Prop:=fun _ _=>False
noncomputable abbrev TS:=Ends->St->Hp->Prop
noncomputable def EP (X:Cx)(XB:List (Addr×Pu))(σ:St)(Q:VK)(u:NT)(s':NV):Prop:=∃ v H',Inv X XB σ H' s'/\RelV v u/\Q v H'
noncomputable def TP (X:Cx)(XB:List (Addr×Pu))(σ:St)(Q:Bool->Hp->Prop)(b:Bool)(s':NV):Prop:=∃ H',Inv X XB σ H' s'/\Q b H'
noncomputable def AP (X:Cx)(XB:List (Addr×Pu))(σ:St)(Q:List V->Hp->Prop)(us:List NT)(s':NV):Prop:=∃ vs H',Inv X XB σ H' s'/\Vals vs us/\Q vs H'
noncomputable def SP (X:Cx)(XB:List (Addr×Pu))(D:Ends)(f:Flow)(s':NV):Prop:=
 match f with
 | .next=>∃ σ' H',Inv X XB σ' H' s'/\D.nx σ' H'
 | .brk=>∃ σ' H',Inv X XB σ' H' s'/\D.bk σ' H'
 | .cont=>∃ σ' H',Inv X XB σ' H' s'/\D.ct σ' H'
 | .ret u=>∃ v σ' H',Inv X XB σ' H' s'/\RelV v u/\D.rt v H'
noncomputable def PE (X:Cx)(e:N2)(t:TE):Prop:=
 ∀ (XB:List (Addr×Pu))(s:NV)(σ:St)(H:Hp)(Q:VK),Inv X XB σ H s->t σ H Q->Oi (Ot X.prog X.w) X.A (eval e X.env) (EP X XB σ Q) X.xe s
noncomputable def PT (X:Cx)(e:N2)(t:TT):Prop:=
 ∀ (XB:List (Addr×Pu))(s:NV)(σ:St)(H:Hp)(Q:Bool->Hp->Prop),Inv X XB σ H s->t σ H Q->Oi (Ot X.prog X.w) X.A (Vh e X.env (eval e X.env)) (TP X XB σ Q) X.xe s
noncomputable def PW (X:Cx)(e:N2)(t:TT):Prop:=
 ∀ (whole:WW NT)(XB:List (Addr×Pu))(s:NV)(σ:St)(H:Hp)(Q:Bool->Hp->Prop),Inv X XB σ H s->t σ H Q->Oi (Ot X.prog X.w) X.A (Vh e X.env whole) (TP X XB σ Q) X.xe s
theorem PW.pt {X:Cx}{e:N2}{t:TT}(h:PW X e t):PT X e t:=h _
noncomputable def PA (X:Cx)(es:List N2)(t:TA):Prop:=
 ∀ (pos:Py)(XB:List (Addr×Pu))(s:NV)(σ:St)(H:Hp)(Q:List V->Hp->Prop),Inv X XB σ H s->t σ H Q->Oi (Ot X.prog X.w) X.A (spliced (Qg pos (OF es X.env))) (AP X XB σ Q) X.xe s
noncomputable def PS (X:Cx)(st:Stmt)(t:TS):Prop:=
 ∀ (XB:List (Addr×Pu))(s:NV)(σ:St)(H:Hp)(D:Ends),Inv X XB σ H s->t D σ H->Oi (Ot X.prog X.w) X.A (exec st X.env) (SP X XB D) X.xe s
noncomputable def PSs (X:Cx)(st:List Stmt)(t:TS):Prop:=
 ∀ (XB:List (Addr×Pu))(s:NV)(σ:St)(H:Hp)(D:Ends),Inv X XB σ H s->t D σ H->Oi (Ot X.prog X.w) X.A (execs st X.env) (SP X XB D) X.xe s
theorem aT {α:Type}{t:WW α}{Q Q':α->NV->Prop}{M:Model}{A:OG}{E:NT->NV->Prop}{s:NV}(h:Oi M A t Q E s)(hQ:∀ a s,Q a s->Q' a s):Oi M A t Q' E s:=OZ h hQ fun _ _ x=>x
end L2
namespace L2
open PySem PySem.Spec PyProof.Rows
section
variable {X:Cx}
noncomputable def v9 (i:Nat):TE:=fun σ H Q=>∃ v,σ[i]? = some (some v)/\Q v H
noncomputable def tC (v:V):TE:=fun _ H Q=>Q v H
theorem C5 {i:Nat}{x:Str}{pos:Py}(hN:X.N[i]? = some x)(hv:mJ X.env.scope x)(hd:(x == ("__debug__":Str))=false:=by decide) (hcd:(x == ("__classdict__":Str))=false:=by decide):PE X (.Name x pos) (v9 i):=by
 intro XB s σ H Q I h
 obtain ⟨v,e,h⟩:=h
 obtain ⟨m,hn,hl⟩:=I.loc
 obtain ⟨u,r,l⟩:=hl i x v hN e hv
 have aS:EP X XB σ Q u s:=⟨v,H,I,r,h⟩
 rcases l with ⟨hk,hm⟩|⟨hk,c,hc,hcell⟩
 ·exact We (wpAny_loadName_local I.ok.kind hk hn hm aS) hd
 ·rcases hk with hk|hk
  ·exact We (wpAny_loadName_cell I.ok.kind hk hc hcell aS) hd
  ·exact We (wpAny_loadName_free I.ok.kind hk hc hcell aS hcd) hd
theorem C6 {i j pos}:PE X (.Constant (.int i) j pos) (tC (.int i)):=fun _ _ _ H _ I h=>wpAny_Constant_int ⟨.int i,H,I.tok _,⟨_,rfl⟩,h⟩
theorem C7 {b j pos}:PE X (.Constant (.bool b) j pos) (tC (.bl b)):=fun _ _ _ H _ I h=>Constant_bool ⟨.bl b,H,I,rfl,h⟩
theorem C8 {j pos}:PE X (.Constant .none j pos) (tC .non):=fun _ _ _ H _ I h=>Constant_none ⟨.non,H,I,rfl,h⟩
theorem C9 {x j pos}:PE X (.Constant (.str x) j pos) (tC (.str x)):=fun _ _ _ H _ I h=>Calls.Constant_str ⟨.str x,H,I.tok _,⟨_,rfl⟩,h⟩
noncomputable def Gl (X:Cx)(x:Str):Prop:=X.env.kindOf x=some .globalImplicit
theorem qM {E:NT->NV->Prop}{XB:List (Addr×Pu)}{s:NV}{σ:St}{H:Hp}{x:Str}{u:NT}{pos:Py}{Q:NT->NV->Prop}(I:Inv X XB σ H s)(hg:Gl X x)(hm:X.mg x=some u)(h:Q u s)
  (hd:(x == ("__debug__":Str))=false:=by decide):Oi (Ot X.prog X.w) X.A (eval (.Name x pos) X.env) Q E s:=
 Tz I.ok.kind hg (Calls.loadGlobal_global (by rw [I.ok.glob];exact I.mod.glob.keeps I.bk) hm h) hd
theorem jP {E:NT->NV->Prop}{XB:List (Addr×Pu)}{s:NV}{σ:St}{H:Hp}{x:Str}{u:NT}{pos:Py}{Q:NT->NV->Prop}(I:Inv X XB σ H s)(hg:Gl X x)(hm:X.mg x=none)(hv:Pf x=some u)(h:Q u s)
  (hn:x ≠ "__name__":=by decide) (hd:(x == ("__debug__":Str))=false:=by decide):Oi (Ot X.prog X.w) X.A (eval (.Name x pos) X.env) Q E s:=by
 obtain ⟨mb,h1,h2⟩:=I.mod.blt
 exact Tz I.ok.kind hg (Calls.loadGlobal_builtin (by rw [I.ok.glob];exact I.mod.glob.keeps I.bk) hm (by rw [I.ok.blt];exact h1.keeps I.bk) ((h2 x hn).trans hv) h) hd
theorem Dd {x:Str}{v:V}{u:NT}{pos:Py}(hg:Gl X x)(hm:X.mg x=some u)(r:RelV v u)(hd:(x == ("__debug__":Str))=false:=by decide):PE X (.Name x pos) (tC v):=
 fun _ _ _ H _ I h=>qM I hg hm ⟨v,H,I,r,h⟩ hd
theorem De {x:Str}{v:V}{u:NT}{pos:Py}(hg:Gl X x)(hm:X.mg x=none)(hv:Pf x=some u)(r:RelV v u)(hn:x ≠ "__name__":=by decide) (hd:(x == ("__debug__":Str))=false:=by decide):PE X (.Name x pos) (tC v):=
 fun _ _ _ H _ I h=>jP I hg hm hv ⟨v,H,I,r,h⟩ hn hd
variable {a b:N2}{ta tb:TE}{pos:Py}
variable {tA tB':TT}{bJ:List N2}
noncomputable def Df (t u:TT):TT:=fun σ H Q=>t σ H fun c H1=>if c=true then u σ H1 Q else Q false H1
noncomputable def Dg (t u:TT):TT:=fun σ H Q=>t σ H fun c H1=>if c=true then Q true H1 else u σ H1 Q
noncomputable def Dh (t:TT):TT:=fun σ H Q=>t σ H fun c H1=>Q (!c) H1
theorem Di (ha:PT X a tA):PW X (.BoolOp .And [a] pos) tA:=by
 intro wh XB s σ H Q I h
 refine isTrue_and (aT (ha XB s σ H Q I h) fun c s1 e=>?_)
 cases c with
 | true=>exact isTrue_and_nil e
 | false=>exact e
theorem Dj (ha:PT X a tA):PW X (.BoolOp .Or [a] pos) tA:=by
 intro wh XB s σ H Q I h
 refine isTrue_or (aT (ha XB s σ H Q I h) fun c s1 e=>?_)
 cases c with
 | false=>exact isTrue_or_nil e
 | true=>exact e
theorem Dk (ha:PT X a tA)(hb:PW X (.BoolOp .And (b::bJ) pos) tB'):PW X (.BoolOp .And (a::b::bJ) pos) (Df tA tB'):=by
 intro wh XB s σ H Q I h
 refine isTrue_and (aT (ha XB s σ H _ I h) fun c s1 ⟨H1,I1,q1⟩=>?_)
 cases c with
 | true=>exact hb wh XB s1 σ H1 Q I1 q1
 | false=>exact ⟨H1,I1,q1⟩
theorem Dl (ha:PT X a tA)(hb:PW X (.BoolOp .Or (b::bJ) pos) tB'):PW X (.BoolOp .Or (a::b::bJ) pos) (Dg tA tB'):=by
 intro wh XB s σ H Q I h
 refine isTrue_or (aT (ha XB s σ H _ I h) fun c s1 ⟨H1,I1,q1⟩=>?_)
 cases c with
 | true=>exact ⟨H1,I1,q1⟩
 | false=>exact hb wh XB s1 σ H1 Q I1 q1
theorem Dm (ha:PT X a tA):PT X (.UnaryOp .Not a pos) (Dh tA):=by
 intro XB s σ H Q I h
 exact isTrue_not (ha XB s σ H (fun c H1=>Q (!c) H1) I h)
noncomputable def Dn (ta tb:TE):TE:=fun σ H Q=>ta σ H fun x H1=>∃ c,x=.bl c/\if c=true then tb σ H1 Q else Q (.bl false) H1
noncomputable def Dp (ta tb:TE):TE:=fun σ H Q=>ta σ H fun x H1=>∃ c,x=.bl c/\if c=true then Q (.bl true) H1 else tb σ H1 Q
noncomputable def Dq (ta:TE):TE:=fun σ H Q=>ta σ H fun x H1=>∃ c,x=.bl c/\Q (.bl (!c)) H1
theorem Dr {op} {t:TE}(h:PE X a t):PE X (.BoolOp op [a] pos) t:=fun XB s σ H Q I hw=>BoolOp_one (h XB s σ H Q I hw)
theorem Ds (ha:PE X a ta)(hb:PE X (.BoolOp .And (b::bJ) pos) tb):PE X (.BoolOp .And (a::b::bJ) pos) (Dn ta tb):=by
 intro XB s σ H Q I h
 refine BoolOp_and (aT (ha XB s σ H _ I h) fun v s1 ⟨x,H1,I1,r1,q1⟩=>?_)
 obtain ⟨c,rfl,q1⟩:=q1
 cases r1
 refine QC ?_
 cases c with
 | true=>exact hb XB s1 σ H1 Q I1 q1
 | false=>exact ⟨.bl false,H1,I1,rfl,q1⟩
theorem Dt (ha:PE X a ta)(hb:PE X (.BoolOp .Or (b::bJ) pos) tb):PE X (.BoolOp .Or (a::b::bJ) pos) (Dp ta tb):=by
 intro XB s σ H Q I h
 refine BoolOp_or (aT (ha XB s σ H _ I h) fun v s1 ⟨x,H1,I1,r1,q1⟩=>?_)
 obtain ⟨c,rfl,q1⟩:=q1
 cases r1
 refine QC ?_
 cases c with
 | false=>exact hb XB s1 σ H1 Q I1 q1
 | true=>exact ⟨.bl true,H1,I1,rfl,q1⟩
theorem Du (ha:PE X a ta):PE X (.UnaryOp .Not a pos) (Dq ta):=by
 intro XB s σ H Q I h
 refine UnaryOp_ (aT (ha XB s σ H _ I h) fun v s1 ⟨x,H1,I1,r1,q1⟩=>?_)
 obtain ⟨c,rfl,q1⟩:=q1
 cases r1
 exact not_of (QC ⟨.bl (!c),H1,I1,rfl,q1⟩)
noncomputable def Dv (t:TT)(ta tb:TE):TE:=fun σ H Q=>t σ H fun c H1=>if c=true then ta σ H1 Q else tb σ H1 Q
theorem Dw {c:N2}(hc:PT X c tA)(ha:PE X a ta)(hb:PE X b tb):PE X (.IfExp c a b pos) (Dv tA ta tb):=by
 intro XB s σ H Q I h
 refine wpAny_IfExp (aT (hc XB s σ H _ I h) fun d s1 ⟨H1,I1,q1⟩=>?_)
 cases d with
 | true=>exact ha XB s1 σ H1 Q I1 q1
 | false=>exact hb XB s1 σ H1 Q I1 q1
end
end L2
namespace L2
open PySem PySem.Spec PyProof.Rows
noncomputable def SqL (K:NO)(H:Hp)(a:Addr)(xs:List V):Prop:=
 Rd H a (.lst xs) \/
  ∃ (o:Pu)(its:Array NT)(n:Nat),K.lookup a=some o/\o.cls=.type "list"/\o.dict=none/\o.data=.seq its n/\its.size<=N4/\Vals xs its.toList
noncomputable def SqT (K:NO)(H:Hp)(a:Addr)(xs:List V):Prop:=
 Rd H a (.tup xs) \/
  ∃ (o:Pu)(its:Array NT)(n:Nat),K.lookup a=some o/\o.cls=.type "tuple"/\o.dict=none/\o.data=.seq its n/\its.size<=N4/\Vals xs its.toList
noncomputable def Dx:NT->Option V
 | .none=>some .non
 | .bool b=>some (.bl b)
 | .int i _=>some (.int i)
 | .str x _=>some (.str x)
 | .bytes b _=>some (.byt b)
 | .float b _=>some (.flt b)
 | .ref a=>some (.ref a)
 | .type n=>some (.ty n)
 | _=>none
theorem RelV.abs {x:V}{u:NT}(r:RelV x u):Dx u=some x:=by
 cases x with
 | non=>cases r;rfl
 | bl _=>cases r;rfl
 | int _=>obtain ⟨t,rfl⟩:=r;rfl
 | str _=>obtain ⟨t,rfl⟩:=r;rfl
 | byt _=>obtain ⟨t,rfl⟩:=r;rfl
 | flt _=>obtain ⟨t,rfl⟩:=r;rfl
 | ref _=>cases r;rfl
 | ty _=>cases r;rfl
theorem RelV.inj {x y:V}{u:NT}(r:RelV x u)(q:RelV y u):x=y:=Oj (r.abs.symm.trans q.abs)
theorem Vals.inj:∀ {xs ys:List V}{us:List NT},Vals xs us->Vals ys us->xs=ys
 | _,_,_,.nil,.nil=>rfl
 | _,_,_,.cons r t,.cons r' t'=>by rw [r.inj r',Vals.inj t t']
section
variable {X:Cx}{XB:List (Addr×Pu)}{σ:St}{H:Hp}{s:NV}{a:Addr}{xs ys:List V}
theorem SqL.of {K:NO}(h:H a=some (.lst xs)):SqL K H a xs:=.inl (.inl h)
theorem SqT.of {K:NO}(h:H a=some (.tup xs)):SqT K H a xs:=.inl (.inl h)
theorem Inv.list (I:Inv X XB σ H s)(h:SqL X.K H a xs):∃ its:List NT,Vals xs its/\PlainL s.heap a its.toArray/\xs.length<=N4:=by
 rcases h with h|⟨o,its,n,hk,hc,hd,hs,hz,r⟩
 ·obtain ⟨z,its,n,r,e⟩:=h.ok I.hok
  exact ⟨its,r,⟨_,n,e,rfl,rfl,rfl⟩,z⟩
 ·refine ⟨its.toList,r,⟨o,n,I.kIn a o hk,hc,hd,by simpa using hs⟩,?_⟩
  have e:=r.length
  simp only [QM] at e
  omega
theorem Inv.tuple (I:Inv X XB σ H s)(h:SqT X.K H a xs):∃ its:List NT,Vals xs its/\Xz s.heap a its.toArray/\xs.length<=N4:=by
 rcases h with h|⟨o,its,n,hk,hc,hd,hs,hz,r⟩
 ·obtain ⟨z,its,r,p⟩:=h.ok I.hok
  exact ⟨its,r,p.tup,z⟩
 ·refine ⟨its.toList,r,⟨o,I.kIn a o hk,hc,n,by simpa using hs⟩,?_⟩
  have e:=r.length
  simp only [QM] at e
  omega
theorem Inv.list_inj (I:Inv X XB σ H s)(h:SqL X.K H a xs)(h':SqL X.K H a ys):xs=ys:=by
 obtain ⟨its,r,⟨o,n,e,_,_,d⟩,_⟩:=I.list h
 obtain ⟨its',r',⟨o',n',e',_,_,d'⟩,_⟩:=I.list h'
 rw [e] at e';cases e'
 rw [d] at d'
 injection d' with d1 _
 have:its=its':=by simpa using congrArg Wr d1
 subst this
 exact r.inj r'
theorem Inv.tuple_inj (I:Inv X XB σ H s)(h:SqT X.K H a xs)(h':SqT X.K H a ys):xs=ys:=by
 obtain ⟨its,r,⟨o,e,_,n,d⟩,_⟩:=I.tuple h
 obtain ⟨its',r',⟨o',e',_,n',d'⟩,_⟩:=I.tuple h'
 rw [e] at e';cases e'
 rw [d] at d'
 injection d' with d1 _
 have:its=its':=by simpa using congrArg Wr d1
 subst this
 exact r.inj r'
end
noncomputable abbrev Cx.wish (X:Cx)(E:NT->NV->Prop):Cx:={ X with xe:=E }
noncomputable abbrev Cx.nox (X:Cx):Cx:=X.wish fun _ _=>False
theorem Cx.Ok.wish {X:Cx}(ok:X.Ok)(E:NT->NV->Prop):(X.wish E).Ok:=
 ⟨ok.mod,ok.kind,ok.glob,ok.blt,ok.above,ok.inj,ok.has,ok.cab,ok.hd,ok.frames,ok.stk,ok.exf,ok.bs,ok.bsz,ok.noex,ok.exfs,ok.funs,ok.frf⟩
theorem Cx.Ok.unwish {X:Cx}{E:NT->NV->Prop}(ok:(X.wish E).Ok):X.Ok:=
 ⟨ok.mod,ok.kind,ok.glob,ok.blt,ok.above,ok.inj,ok.has,ok.cab,ok.hd,ok.frames,ok.stk,ok.exf,ok.bs,ok.bsz,ok.noex,ok.exfs,ok.funs,ok.frf⟩
section
variable {X:Cx}{XB:List (Addr×Pu)}{σ:St}{H:Hp}{s:NV}{E:NT->NV->Prop}
theorem Inv.wish (I:Inv X XB σ H s)(E:NT->NV->Prop):Inv (X.wish E) XB σ H s:=⟨I.ok.wish E,I.os,I.bare,I.base,I.loc,I.cell,I.free,I.freeC,I.pin,I.hok,I.len⟩
theorem Inv.unwish (I:Inv (X.wish E) XB σ H s):Inv X XB σ H s:=⟨I.ok.unwish,I.os,I.bare,I.base,I.loc,I.cell,I.free,I.freeC,I.pin,I.hok,I.len⟩
theorem SP.unwish {D:Ends}{f:Flow}{s':NV}(h:SP (X.wish E) XB D f s'):SP X XB D f s':=by
 cases f with
 | next=>obtain ⟨σ',H',I,q⟩:=h;exact ⟨σ',H',I.unwish,q⟩
 | brk=>obtain ⟨σ',H',I,q⟩:=h;exact ⟨σ',H',I.unwish,q⟩
 | cont=>obtain ⟨σ',H',I,q⟩:=h;exact ⟨σ',H',I.unwish,q⟩
 | ret u=>obtain ⟨v,σ',H',I,r,q⟩:=h;exact ⟨v,σ',H',I.unwish,r,q⟩
theorem PSs.nox {st:List Stmt}{t:TS}(h:PSs X.nox st t):PSs X st t:=fun XB s σ H D I hw=>
 OZ (h XB s σ H D (I.wish _) hw) (fun _ _ q=>q.unwish) fun _ _ z=>PM z
end
section
variable {X:Cx}{st:Stmt}{bJ:List Stmt}{t u:TS}{e:N2}{te:TE}{pos:Py}
noncomputable def wA:TS:=fun D σ H=>D.nx σ H
noncomputable def Dy (t u:TS):TS:=fun D σ H=>t { D with nx:=u D } σ H
theorem Dz:PSs X [] wA:=fun _ _ σ H _ I h=>T8 ⟨σ,H,I,h⟩
theorem DA (h1:PS X st t)(h2:PSs X bJ u):PSs X (st::bJ) (Dy t u):=by
 intro XB s σ H D I h
 refine WC (aT (h1 XB s σ H { D with nx:=u D } I h) fun f s1 q=>?_)
 cases f with
 | next=>
  obtain ⟨σ',H',I',q⟩:=q
  exact h2 XB s1 σ' H' D I' q
 | ret v=>exact q
 | brk=>exact q
 | cont=>exact q
theorem DB (h1:PS X st t):PSs X [st] t:=by
 intro XB s σ H D I h
 refine WC (aT (h1 XB s σ H D I h) fun f s1 q=>?_)
 cases f with
 | next=>exact T8 q
 | ret v=>exact q
 | brk=>exact q
 | cont=>exact q
theorem DC:PS X (.Pass pos) wA:=fun _ _ σ H _ I h=>wpAny_Pass ⟨σ,H,I,h⟩
theorem Inv.quiet {XB:List (Addr×Pu)}{σ:St}{H:Hp}{s:NV}(I:Inv X XB σ H s):interactive X.env=false:=by simp [interactive,I.ok.kind]
noncomputable def DD (te:TE):TS:=fun D σ H=>te σ H fun _ H1=>D.nx σ H1
theorem DE (he:PE X e te)(hs:Ry e none pos.line X.env=pure false:=by rfl):PS X (.Expr e pos) (DD te):=by
 intro XB s σ H D I h
 exact wpAny_Expr_any (aT (he XB s σ H _ I h) fun v s1 ⟨x,H1,I1,r1,q1⟩=>⟨σ,H1,I1,q1⟩) I.quiet hs
noncomputable def DF (te:TE):TS:=fun D σ H=>te σ H D.rt
theorem DG (he:PE X e te):PS X (.Return (some e) pos) (DF te):=by
 intro XB s σ H D I h
 exact wpAny_Return_some (aT (he XB s σ H _ I h) fun v s1 ⟨x,H1,I1,r1,q1⟩=>⟨x,σ,H1,I1,r1,q1⟩)
noncomputable def DH:TS:=fun D _ H=>D.rt .non H
theorem DI:PS X (.Return none pos) DH:=fun _ _ σ H _ I h=>wpAny_Return_none ⟨.non,σ,H,I,rfl,h⟩
noncomputable def DJ (c:TT)(t u:TS):TS:=fun D σ H=>c σ H fun b H1=>if b=true then t D σ H1 else u D σ H1
theorem DK {c:N2}{a b:List Stmt}{tc:TT}(hc:PT X c tc)(ha:PSs X a t)(hb:PSs X b u):PS X (.If c a b pos) (DJ tc t u):=by
 intro XB s σ H D I h
 refine wpAny_If (aT (hc XB s σ H _ I h) fun d s1 ⟨H1,I1,q1⟩=>?_)
 cases d with
 | true=>exact ha XB s1 σ H1 D I1 q1
 | false=>exact hb XB s1 σ H1 D I1 q1
end
noncomputable abbrev TG:=V->St->Hp->(St->Hp->Prop)->Prop
noncomputable abbrev kW:=List V->St->Hp->(St->Hp->Prop)->Prop
noncomputable def PG (X:Cx)(target:N2)(t:TG):Prop:=
 ∀ (XB:List (Addr×Pu))(s:NV)(σ:St)(H:Hp)(v:V)(u:NT)(Q:St->Hp->Prop),Inv X XB σ H s->RelV v u->t v σ H Q->
  Oi (Ot X.prog X.w) X.A (Ta target X.env u) (fun _ s'=>∃ σ' H',Inv X XB σ' H' s'/\Q σ' H') X.xe s
noncomputable def mK (X:Cx)(ts:List N2)(t:kW):Prop:=
 ∀ (XB:List (Addr×Pu))(s:NV)(σ:St)(H:Hp)(vs:List V)(us:List NT)(Q:St->Hp->Prop),Inv X XB σ H s->Vals vs us->t vs σ H Q->
  Oi (Ot X.prog X.w) X.A (assignInOrder ((PV ts X.env).map (·.2)) us) (fun _ s'=>∃ σ' H',Inv X XB σ' H' s'/\Q σ' H') X.xe s
noncomputable abbrev wB:=V->V->V->Hp->(Hp->Prop)->Prop
noncomputable def DL (X:Cx)(t:wB):Prop:=
 ∀ (XB:List (Addr×Pu))(s:NV)(σ:St)(H:Hp)(o i v:V)(ov iv u:NT)(Q:Hp->Prop),Inv X XB σ H s->RelV o ov->RelV i iv->RelV v u->t o i v H Q->
  Oi (Ot X.prog X.w) X.A (setItem ov iv u) (fun _ s'=>∃ H',Inv X XB σ H' s'/\Q H') X.xe s
section
variable {X:Cx}{pos:Py}
noncomputable def qN (i:Nat):TG:=fun v σ H Q=>Q (σ.set i (some v)) H
theorem wC {i:Nat}{x:Str}(hN:X.N.Nodup)(hi:X.N[i]? = some x)(hx:Loc X.env.scope x)(hf:X.fn x=true\/X.env.scope.names.lookup x=some .local:=by first|exact .inl rfl|exact .inr rfl|assumption):PG X (.Name x pos) (qN i):=by
 intro XB s σ H v u Q I r h
 exact Ws (v8 I hN hi hx r (fun s' I'=>⟨_,H,I',h⟩) hf)
noncomputable def wD:kW:=fun vs σ H Q=>vs=[]/\Q σ H
noncomputable def wF (t:TG)(u:kW):kW:=fun vs σ H Q=>∃ v r,vs=v::r/\t v σ H fun σ' H'=>u r σ' H' Q
theorem DM:mK X [] wD:=by
 intro XB s σ H vs us Q I r h
 obtain ⟨e,h⟩:=h
 subst e
 cases r
 exact assignInOrder_nil ⟨σ,H,I,h⟩
theorem DN {e:N2}{es:List N2}{t:TG}{u:kW}(h1:PG X e t)(h2:mK X es u)
  (hs:(PV (e::es) X.env).map (·.2)=Ta e X.env::(PV es X.env).map (·.2):=by rfl):mK X (e::es) (wF t u):=by
 intro XB s σ H vs us Q I r h
 obtain ⟨v,vr,e1,h⟩:=h
 subst e1
 cases r with
 | cons r rr=>
  rw [hs]
  refine assignInOrder_cons (aT (h1 XB s σ H _ _ _ I r h) fun _ s1 ⟨σ1,H1,I1,q1⟩=>?_)
  exact h2 XB s1 σ1 H1 _ _ Q I1 rr q1
noncomputable def wG (te:TE)(g:TG):TS:=fun D σ H=>te σ H fun x H1=>g x σ H1 D.nx
theorem DO {tg e:N2}{te:TE}{g:TG}(he:PE X e te)(hg:PG X tg g)(hs:swapsWithSole [tg] e pos.line X.env=pure false:=by rfl)(hw:US [tg] e X.env=pure none:=by rfl)
  (h1:(PV [tg] X.env).map (·.2)=[Ta tg X.env]:=by rfl):PS X (.Assign [tg] e pos) (wG te g):=by
 intro XB s σ H D I h
 refine wpAny_Assign_stores (aT (he XB s σ H _ I h) fun v s1 ⟨x,H1,I1,r1,q1⟩=>?_) hs hw
 rw [h1]
 exact aT (hg XB s1 σ H1 x v _ I1 r1 q1) fun _ s2 q=>q
theorem DP {i:Nat}{x:Str}{e:N2}{te:TE}{pos':Py}(hN:X.N.Nodup)(hi:X.N[i]? = some x)(hx:Loc X.env.scope x)(he:PE X e te)(hs:Ry e (some (.Name x pos')) pos.line X.env=pure false:=by rfl)(hf:X.fn x=true\/X.env.scope.names.lookup x=some .local:=by first|exact .inl rfl|exact .inr rfl|assumption) :
  PS X (.Assign [.Name x pos'] e pos) (wG te (qN i)):=by
 intro XB s σ H D I h
 refine wpAny_Assign_Name (aT (he XB s σ H _ I h) fun v s1 ⟨y,H1,I1,r1,q1⟩=>?_) hs
 exact v8 I1 hN hi hx r1 (fun s2 I2=>⟨_,H1,I2,q1⟩) hf
end
section
variable {X:Cx}{pos:Py}
end
structure It where
 go:Nat->Hp->Prop
 yld:Nat->Hp->V->Hp->Prop
 stop:Nat->Hp->Prop
noncomputable def f7 (X:Cx)(XB:List (Addr×Pu))(H:Hp)(b:Addr):Prop:=
 H b=none/\b≠X.env.locals/\b∉X.fs/\(b∈X.ex\/X.s₀.heap.objs.size<=b)/\(∀ x c,X.env.cells.lookup x=some c->c≠b)/\∀ p∈X.pn++XB,p.1≠b
theorem Inv.fpOk {X:Cx}{XB:List (Addr×Pu)}{σ:St}{H H':Hp}{s:NV}{b:Addr}(I:Inv X XB σ H s)(hb:s.heap.objs.size<=b)(hn:H' b=none):f7 X XB H' b:=by
 refine ⟨hn,Uw (OD I.lt hb),I.nofs hb,.inr (OU I.sz hb),fun x c e z=>?_,fun p hp z=>?_⟩
 ·obtain ⟨v,q⟩:=I.cell x c e
  exact absurd (OD q.lt (by rw [z];exact hb)) (Qb _)
 ·exact absurd (OD (N7 (I.pin p hp).1) (by rw [z];exact hb)) (Qb _)
structure Turn (P:Oo)(w:OO)(K:NO)(tg:N2)(J:It)(fp:List Addr)(it:Addr)(tn:Nat->O3->Prop):Prop where
 mem:it∈fp
 obj:∀ i h,tn i h->∀ b∈fp,∃ o,h.get? b=some o/\∀ v,o.data≠.cell v
 keep:∀ i h h',tn i h->(∀ b∈fp,∀ o,h.get? b=some o->h'.get? b=some o)->tn i h'
 item:∀ (X:Cx),X.prog=P->X.w=w->X.K=K->X.calm=true->∀ (i:Nat)(XB:List (Addr×Pu))(s:NV)(σ:St)(H:Hp)(E:NT->NV->Prop),Inv X XB σ H s->(∀ b∈fp,f7 X XB H b)->tn i s.heap->J.go i H->
  Oi (Ot P w) X.A (Vf (.ref it)) (fun r s1=>∃ u,r=some u /\
   Oi (Ot P w) X.A (Sm tg (.ref it) u) (fun _ s2=>∃ x H',Inv X XB σ H' s2/\RelV x u/\J.yld i H x H'/\tn (i+1) s2.heap/\∀ b∈fp,H' b=none) E s1) E s
 done:∀ (X:Cx),X.prog=P->X.w=w->X.K=K->X.calm=true->∀ (i:Nat)(XB:List (Addr×Pu))(s:NV)(σ:St)(H:Hp)(E:NT->NV->Prop),Inv X XB σ H s->(∀ b∈fp,f7 X XB H b)->tn i s.heap->J.stop i H->
  Oi (Ot P w) X.A (Vf (.ref it)) (fun r s1=>r=none/\Inv X XB σ H s1) E s
 self:∀ (A:OG)(i:Nat)(s:NV)(Q:NT->NV->Prop)(E:NT->NV->Prop),tn i s.heap->Q (.ref it) s->Oi (Ot P w) A (Vg (.ref it)) Q E s
noncomputable abbrev TI:=St->Hp->(It->Hp->Prop)->Prop
noncomputable def n8 (X:Cx)(XB:List (Addr×Pu))(σ:St)(tg:N2)(R:It->Hp->Prop)(itv:NT)(s2:NV):Prop:=
 ∃ (it:Addr)(fp:List Addr)(tn:Nat->O3->Prop)(J:It)(H':Hp),itv=.ref it/\Inv X XB σ H' s2/\Turn X.prog X.w X.K tg J fp it tn/\tn 0 s2.heap/\(∀ b∈fp,f7 X XB H' b)/\R J H'
noncomputable def PI (X:Cx)(tg iter:N2)(wi:TI):Prop:=
 ∀ (XB:List (Addr×Pu))(s:NV)(σ:St)(H:Hp)(R:It->Hp->Prop),Inv X XB σ H s->wi σ H R->
  Oi (Ot X.prog X.w) X.A (eval iter X.env) (fun v s1=>Oi (Ot X.prog X.w) X.A (Vg v) (n8 X XB σ tg R) X.xe s1) X.xe s
theorem n9 {M:Model}{A:OG}{E:NT->NV->Prop}{s:NV}{tg:N2}{it:Addr}{u:NT}{o:Pu}{n:String}{vs:Array NT}{Q:Unit->NV->Prop}(ho:s.heap.get? it=some o)(hc:o.cls=.type n)(hd:o.data=.fields vs)
  (hn:["enumerate","zip","dict_itemiterator","dict_reverseitemiterator","odict_iterator","itertools.zip_longest","itertools.pairwise"].contains n=false) (hQ:Q () s):Oi M A (Sm tg (.ref it) u) Q E s:=by
 unfold Sm
 cases tg<;>first
  | exact N1 hQ
  | (cases u<;>first
    | exact N1 hQ
    | (refine NQ (wpAny_load ho ?_)
       rw [hc,hd]
       show Oi M A (if (["enumerate","zip","dict_itemiterator","dict_reverseitemiterator","odict_iterator","itertools.zip_longest","itertools.pairwise"].contains n&&vs[0]? == some (Sh _))=true then _ else _) Q E s
       rw [if_neg (by intro h;rw [hn,Sg] at h;cases h)]
       exact N1 hQ))
noncomputable def qO (K:NO)(a:Addr):It:=
 ⟨fun i H=>∃ xs x,SqL K H a xs/\xs[i]? = some x,fun i H x H'=>H'=H/\∀ xs,SqL K H a xs->xs[i]? = some x,fun i H=>∃ xs,SqL K H a xs/\xs.length<=i⟩
noncomputable def qP (K:NO)(a:Addr):It:=
 ⟨fun i H=>∃ xs x,SqT K H a xs/\xs[i]? = some x,fun i H x H'=>H'=H/\∀ xs,SqT K H a xs->xs[i]? = some x,fun i H=>∃ xs,SqT K H a xs/\xs.length<=i⟩
noncomputable def mL (lo:Int)(n:Nat):It:=⟨fun i _=>i<n,fun i H x H'=>H'=H/\x=.int (lo+i),fun i _=>n<=i⟩
theorem DQ {P:Oo}{w:OO}{K:NO}{tg:N2}(a it:Addr):Turn P w K tg (qO K a) [it] it (fun i h=>h.IsListIter it a i) where
 mem:=by simp
 obj:=fun i h st b hb=>by
  have e:b=it:=by simpa using hb
  subst e
  obtain ⟨o,e,c,d⟩:=st
  exact ⟨o,e,fun v z=>by rw [d] at z;cases z⟩
 keep:=fun i h h' st k=>st.at fun o e=>k it (by simp) o e
 item:=by
  intro X hP hw hK hc i XB s σ H E I hf st hg
  subst hP hw hK
  obtain ⟨xs,x,hq,hx⟩:=hg
  obtain ⟨its,rv,p,hz⟩:=I.list hq
  obtain ⟨u,hu,ru⟩:=rv.get hx
  obtain ⟨f0,f1,f2,f3,f4,f5⟩:=hf it (by simp)
  refine Va st p.isList (x:=u) (by simpa using hu) fun h' st' sb=>?_
  have I1:Inv X XB σ H { s with heap:=h' }:=I.turned (t':=s.toks) (fun b o hb e=>(sb.2 b hb).trans e) f0 f1 f3 f4 f5
  obtain ⟨o,e,c,d⟩:=id st'
  exact ⟨u,rfl,n9 (s:={ s with heap:=h' }) e c d (by decide) ⟨x,H,I1,ru,⟨rfl,fun ys hy=>by rw [I.list_inj hy hq];exact hx⟩,st',fun b hb=>(hf b hb).1⟩⟩
 done:=by
  intro X hP hw hK hc i XB s σ H E I hf st hg
  subst hP hw hK
  obtain ⟨xs,hq,hx⟩:=hg
  obtain ⟨its,rv,p,hz⟩:=I.list hq
  obtain ⟨f0,f1,f2,f3,f4,f5⟩:=hf it (by simp)
  have hl:=rv.length
  exact VD (I.ok.hd hc) st p.isList (by simp;omega) fun h' eb=>⟨rfl,I.turned (t':=s.toks) (fun b o hb e=>eb b o hb e) f0 f1 f3 f4 f5⟩
 self:=fun _ _ _ _ _ st h=>wpAny_pyIter_listiter st h
theorem DR {P:Oo}{w:OO}{K:NO}{tg:N2}(a it:Addr):Turn P w K tg (qP K a) [it] it (fun i h=>h.IsTupleIter it a i) where
 mem:=by simp
 obj:=fun i h st b hb=>by
  have e:b=it:=by simpa using hb
  subst e
  obtain ⟨o,e,c,d⟩:=st
  exact ⟨o,e,fun v z=>by rw [d] at z;cases z⟩
 keep:=fun i h h' st k=>st.at fun o e=>k it (by simp) o e
 item:=by
  intro X hP hw hK hc i XB s σ H E I hf st hg
  subst hP hw hK
  obtain ⟨xs,x,hq,hx⟩:=hg
  obtain ⟨its,rv,p,hz⟩:=I.tuple hq
  obtain ⟨u,hu,ru⟩:=rv.get hx
  obtain ⟨f0,f1,f2,f3,f4,f5⟩:=hf it (by simp)
  refine wpAny_pyNext_tuple_item st (show s.heap.IsTuple a its.toArray from p) (x:=u) (by simpa using hu) fun h' st' sb=>?_
  have I1:Inv X XB σ H { s with heap:=h' }:=I.turned (t':=s.toks) (fun b o hb e=>(sb.2 b hb).trans e) f0 f1 f3 f4 f5
  obtain ⟨o,e,c,d⟩:=id st'
  exact ⟨u,rfl,n9 (s:={ s with heap:=h' }) e c d (by decide) ⟨x,H,I1,ru,⟨rfl,fun ys hy=>by rw [I.tuple_inj hy hq];exact hx⟩,st',fun b hb=>(hf b hb).1⟩⟩
 done:=by
  intro X hP hw hK hc i XB s σ H E I hf st hg
  subst hP hw hK
  obtain ⟨xs,hq,hx⟩:=hg
  obtain ⟨its,rv,p,hz⟩:=I.tuple hq
  obtain ⟨f0,f1,f2,f3,f4,f5⟩:=hf it (by simp)
  have hl:=rv.length
  exact wpAny_pyNext_tuple_end (I.ok.hd hc) st (show s.heap.IsTuple a its.toArray from p) (by simp;omega) fun h' eb=>⟨rfl,I.turned (t':=s.toks) (fun b o hb e=>eb b o hb e) f0 f1 f3 f4 f5⟩
 self:=fun _ _ _ _ _ st h=>wpAny_pyIter_tupleiter st h
theorem DS {P:Oo}{w:OO}{K:NO}{tg:N2}(it:Addr)(lo:Int)(n:Nat):Turn P w K tg (mL lo n) [it] it (fun i h=>IsRangeIter h it (lo+(i:Nat) * 1) ((n:Int) - (i:Nat)) 1) where
 mem:=by simp
 obj:=fun i h st b hb=>by
  have e:b=it:=by simpa using hb
  subst e
  exact ⟨_,st,fun v z=>by
   have z':WQ _=Data.cell v:=z
   cases z'⟩
 keep:=fun i h h' st k=>k it (by simp) _ st
 item:=by
  intro X hP hw hK hc i XB s σ H E I hf st hg
  subst hP hw hK
  obtain ⟨f0,f1,f2,f3,f4,f5⟩:=hf it (by simp)
  have W:=Walks.range (prog:=X.prog) (w:=X.w) (I.ok.hd hc) it lo 1 n
  refine W.item i s _ _ hg st fun v h' tk hv st' kk=>?_
  obtain ⟨t,rfl⟩:=hv
  have I1:Inv X XB σ H { s with heap:=h',toks:=tk }:=I.turned (fun b o hb e=>kk b o (by simpa using hb) e) f0 f1 f3 f4 f5
  refine ⟨_,rfl,n9 (s:={ s with heap:=h',toks:=tk }) (n:="range_iterator") st' rfl rfl (by decide) ⟨.int (lo+i),H,I1,⟨t,?_⟩,⟨rfl,rfl⟩,st',fun b hb=>(hf b hb).1⟩⟩
  rw [Int.mul_one]
 done:=by
  intro X hP hw hK hc i XB s σ H E I hf st hg
  subst hP hw hK
  obtain ⟨f0,f1,f2,f3,f4,f5⟩:=hf it (by simp)
  exact wpAny_pyNext_range_end (I.ok.hd hc) st (by have:n<=i:=hg;omega) fun h' eb=>⟨rfl,I.turned (t':=s.toks) (fun b o hb e=>eb b o hb e) f0 f1 f3 f4 f5⟩
 self:=fun _ _ _ _ _ st h=>wpAny_pyIter_rangeiter st h
end L2
namespace L2
open PySem PySem.Spec PyProof.Rows
section
variable {X:Cx}{tg:N2}
theorem wH {XB:List (Addr×Pu)}{σ:St}{H:Hp}{s:NV}{R:It->Hp->Prop}{E:NT->NV->Prop}{lo hi:Int}{t u v:Tok}{tk:Nat}(I:Inv X XB σ H s)(h1:-(2 ^ 62)<=lo)(h2:lo<2 ^ 62)(h3:-(2 ^ 62)<=hi)(h4:hi<2 ^ 62)
  (q:R (mL lo (hi - lo).toNat) H):Oi (Ot X.prog X.w) X.A (Vg (.ref s.heap.objs.size)) (n8 X XB σ tg R) E { s with heap:=s.heap.push { cls:=.type "range",data:=.fields #[.int lo t,.int hi u,.int 1 v] },toks:=tk }:=by
 refine wpAny_pyIter_range (IsRange.new ..) (small_one h1 h2 h3 h4) ?_
 have I1:Inv X XB σ H { s with heap:=s.heap.push { cls:=.type "range",data:=.fields #[.int lo t,.int hi u,.int 1 v] },toks:=tk }:=I.kept fun b o e=>NW _ e
 refine ⟨(s.heap.push { cls:=.type "range",data:=.fields #[.int lo t,.int hi u,.int 1 v] }).objs.size,[(s.heap.push { cls:=.type "range",data:=.fields #[.int lo t,.int hi u,.int 1 v] }).objs.size],_,_,H,rfl,
  I1.kept (t':=tk) fun b o e=>NW _ e,DS _ lo (hi - lo).toNat,?_,fun b hb=>?_,q⟩
 ·have e1:lo+((0:Nat):Int) * 1=lo:=by simp
  have e2:(((hi - lo).toNat:Nat):Int) - ((0:Nat):Int)=WS lo hi 1:=by rw [rangeSize_one];split<;>omega
  show IsRangeIter _ _ (lo+((0:Nat):Int) * 1) ((((hi - lo).toNat:Nat):Int) - ((0:Nat):Int)) 1
  rw [e1,e2]
  exact Of _ rfl
 ·have e:b=(s.heap.push { cls:=.type "range",data:=.fields #[.int lo t,.int hi u,.int 1 v] }).objs.size:=by simpa using hb
  subst e
  exact I1.fpOk (N3 _) (I1.hok.fresh (N3 _))
noncomputable def DT (ta:TA):TI:=fun σ H R=>ta σ H fun vs H1=>∃ j:Int,vs=[.int j]/\-(2 ^ 62)<=j/\j<2 ^ 62/\R (mL 0 j.toNat) H1
noncomputable def DU (ta:TA):TI:=fun σ H R=>ta σ H fun vs H1=>∃ i j:Int,vs=[.int i,.int j]/\(-(2 ^ 62)<=i/\i<2 ^ 62/\-(2 ^ 62)<=j/\j<2 ^ 62)/\R (mL i (j - i).toNat) H1
theorem DV {a:N2}{ta:TA}{p pos:Py}(hg:Gl X "range") (hm:X.mg "range" = none) (ha:PA X [a] ta)(hs:OF [a] X.env=[(false,eval a X.env)]:=by rfl):PI X tg (.Call (.Name "range" p) [a] [] pos) (DT ta):=by
 intro XB s σ H R I h
 refine Call_ (jP I hg hm boot_range (PD (aT (ha pos XB s σ H _ I h) fun us s1 ⟨vs,H1,I1,r1,q1⟩=>?_) hs rfl))
 obtain ⟨j,e,q1,q2,q⟩:=q1
 subst e
 cases r1 with
 | cons r rr=>
  cases rr
  obtain ⟨t,rfl⟩:=r
  exact call_range_1 (wH I1 (by omega) (by omega) q1 q2 (by simpa using q))
theorem DW {a b:N2}{ta:TA}{p pos:Py}(hg:Gl X "range") (hm:X.mg "range" = none) (ha:PA X [a,b] ta)(hs:OF [a,b] X.env=[(false,eval a X.env),(false,eval b X.env)]:=by rfl)(hs2:OF [b] X.env=[(false,eval b X.env)]:=by rfl) :
  PI X tg (.Call (.Name "range" p) [a,b] [] pos) (DU ta):=by
 intro XB s σ H R I h
 refine Call_ (jP I hg hm boot_range (PD (aT (ha pos XB s σ H _ I h) fun us s1 ⟨vs,H1,I1,r1,q1⟩=>?_) (by rw [hs,hs2]) (by rw [hs2];rfl)))
 obtain ⟨i,j,e,⟨q1,q2,q3,q4⟩,q⟩:=q1
 subst e
 cases r1 with
 | cons r rr=>
  cases rr with
  | cons r' rr=>
   cases rr
   obtain ⟨t,rfl⟩:=r
   obtain ⟨t',rfl⟩:=r'
   exact call_range_2 (wH I1 q1 q2 q3 q4 q)
noncomputable def DX (wi:TI)(g:TG)(tb:TS):TS:=fun D σ H=>wi σ H fun J H1=>∃ W:Nat->Nat->St->Hp->Prop,(∃ m,W 0 m σ H1)/\∀ i m σ H,W i m σ H->
 (J.stop i H/\D.nx σ H)\/(J.go i H/\∃ N:St->Hp->Prop,(∀ σ' H',N σ' H'->∃ m',m'<m/\W (i+1) m' σ' H')/\∀ x H',J.yld i H x H'->g x σ H' fun σ2 H2=>tb { D with nx:=N,ct:=N,bk:=D.nx } σ2 H2)
noncomputable def mM (fp:List Addr)(h:O3):List (Addr×Pu):=fp.filterMap fun b=>(h.get? b).map fun o=>(b,o)
theorem oA {fp:List Addr}{h:O3}{b:Addr}{o:Pu}(hb:b∈fp)(e:h.get? b=some o):(b,o)∈mM fp h:=Q2.mpr ⟨b,hb,by rw [e];rfl⟩
theorem DY {fp:List Addr}{h:O3}{p:Addr×Pu}(hp:p∈mM fp h):p.1∈fp/\h.get? p.1=some p.2:=by
 obtain ⟨b,hb,e⟩:=Q2.mp hp
 cases q:h.get? b with
 | none=>rw [q] at e;cases e
 | some o=>
  rw [q] at e
  have e':(b,o)=p:=Oj e
  subst e'
  exact ⟨hb,q⟩
theorem Inv.pinned {XB:List (Addr×Pu)}{σ:St}{H:Hp}{s:NV}{fp:List Addr}(I:Inv X XB σ H s)(hf:∀ b∈fp,f7 X XB H b)(ho:∀ b∈fp,∃ o,s.heap.get? b=some o/\∀ v,o.data≠.cell v):Inv X (XB++mM fp s.heap) σ H s:=
 I.pins_of fun p hp=>(O2.mp hp).elim (fun z=>I.pin p (O1 _ z)) fun z=>by
  obtain ⟨hb,e⟩:=DY z
  obtain ⟨f0,f1,f2,_⟩:=hf p.1 hb
  obtain ⟨o,e',d⟩:=ho p.1 hb
  rw [e] at e';cases e'
  exact ⟨e,f0,f1,f2,d⟩
theorem Inv.unpinned {XB pl:List (Addr×Pu)}{σ:St}{H:Hp}{s:NV}(I:Inv X (XB++pl) σ H s):Inv X XB σ H s:=I.pins_of fun p hp=>I.pin p (O1 _ (UL _ hp))
theorem DZ {iter:N2}{body:List Stmt}{wi:TI}{g:TG}{tb:TS}{pos:Py}(hp:WJ (Ot X.prog X.w) X.A X.env X.xe)(hc:X.calm=true)(hi:PI X tg iter wi)(hg:PG X tg g)(hb:PSs X body tb)
  (hs:∀ x,Rj iter X.env x=pure x:=by intro _;rfl):PS X (.For tg iter body [] pos) (DX wi g tb):=by
 intro XB s σ H D I h
 refine wpAny_For (aT (hi XB s σ H _ I h) fun v s1 h1=>aT h1 fun itv s2 h2=>?_) hs
 obtain ⟨it,fp,tn,J,H2,e,I2,T,st2,f2,W,⟨m0,w0⟩,turn⟩:=h2
 subst e
  -- what stays true of the iterator's objects through the loop
 have stat:∀ {H':Hp},(∀ b∈fp,H' b=none)->∀ b∈fp,f7 X XB H' b:=fun hn b hb=>⟨hn b hb,(f2 b hb).2⟩
 refine codeAny_forLoop_any (fun n s'=>∃ i σ' H',Inv X XB σ' H' s'/\tn i s'.heap/\(∀ b∈fp,H' b=none)/\W i n σ' H') ?_ m0 ⟨0,σ,H2,I2,st2,fun b hb=>(f2 b hb).1,w0⟩
 rintro n s3 ⟨i,σ3,H3,I3,st3,fr3,w3⟩
 rcases turn i n σ3 H3 w3 with ⟨stop,qn⟩|⟨go,N,hN,step⟩
 ·refine RF hp (aT (T.done X rfl rfl rfl hc i XB s3 σ3 H3 X.xe I3 (stat fr3) st3 stop) fun r s4 ⟨hr,I4⟩=>?_)
  subst hr
  exact T8 ⟨σ3,H3,I4,qn⟩
 ·refine RF hp (aT (T.item X rfl rfl rfl hc i XB s3 σ3 H3 X.xe I3 (stat fr3) st3 go) fun r s4 ⟨u,hr,h4⟩=>?_)
  subst hr
  refine RF hp (aT h4 fun _ s5 ⟨x,H5,I5,r5,y5,st5,fr5⟩=>?_)
  have I5':=I5.pinned (stat fr5) (T.obj _ _ st5)
  refine RF hp (aT (hg _ s5 σ3 H5 x u _ I5' r5 (step x H5 y5)) fun _ s6 ⟨σ6,H6,I6,q6⟩=>?_)
  refine RF hp (aT (hb _ s6 σ6 H6 _ I6 q6) fun f s7 q7=>?_)
  have again:∀ {σ7:St}{H7:Hp},Inv X (XB++mM fp s5.heap) σ7 H7 s7->N σ7 H7->∃ m,m<n/\∃ i σ' H',Inv X XB σ' H' s7/\tn i s7.heap/\(∀ b∈fp,H' b=none)/\W i m σ' H':=fun {σ7 H7} I7 n7=>by
   obtain ⟨m',hm,w7⟩:=hN σ7 H7 n7
   refine ⟨m',hm,i+1,σ7,H7,I7.unpinned,T.keep _ _ _ st5 fun b hb o e=>(I7.pin (b,o) (O1 _ (O1 _ (oA hb e)))).1,fun b hb=>?_,w7⟩
   obtain ⟨o,e,d⟩:=T.obj _ _ st5 b hb
   exact (I7.pin (b,o) (O1 _ (O1 _ (oA hb e)))).2.1
  cases f with
  | next=>obtain ⟨σ7,H7,I7,n7⟩:=q7;exact again I7 n7
  | cont=>obtain ⟨σ7,H7,I7,n7⟩:=q7;exact again I7 n7
  | brk=>obtain ⟨σ7,H7,I7,q7⟩:=q7;exact ⟨σ7,H7,I7.unpinned,q7⟩
  | ret v=>obtain ⟨x7,σ7,H7,I7,r7,q7⟩:=q7;exact ⟨x7,σ7,H7,I7.unpinned,r7,q7⟩
end
end L2
namespace L2
open PySem PySem.Spec PyProof.Rows
noncomputable abbrev R2:=V->V->Hp->VK->Prop
noncomputable def OpR (X:Cx)(f:NT->NT->WW NT)(r:R2):Prop:=
 ∀ (XB:List (Addr×Pu))(s:NV)(σ:St)(H:Hp)(x y:V)(v u:NT)(Q:VK),Inv X XB σ H s->RelV x v->RelV y u->r x y H Q->
  Oi (Ot X.prog X.w) X.A (f v u) (EP X XB σ Q) X.xe s
noncomputable def qQ (X:Cx)(f:NT->WW NT)(r:V->Hp->VK->Prop):Prop:=
 ∀ (XB:List (Addr×Pu))(s:NV)(σ:St)(H:Hp)(x:V)(v:NT)(Q:VK),Inv X XB σ H s->RelV x v->r x H Q->
  Oi (Ot X.prog X.w) X.A (f v) (EP X XB σ Q) X.xe s
noncomputable def CallR (X:Cx)(f:NT)(r:List V->Hp->VK->Prop):Prop:=
 ∀ (XB:List (Addr×Pu))(s:NV)(σ:St)(H:Hp)(xs:List V)(us:List NT)(Q:VK),Inv X XB σ H s->Vals xs us->r xs H Q->
  Oi (Ot X.prog X.w) X.A (call f us) (EP X XB σ Q) X.xe s
noncomputable def D0 (X:Cx)(r:V->Hp->(Bool->Hp->Prop)->Prop):Prop:=
 ∀ (XB:List (Addr×Pu))(s:NV)(σ:St)(H:Hp)(x:V)(v:NT)(Q:Bool->Hp->Prop),Inv X XB σ H s->RelV x v->r x H Q->
  Oi (Ot X.prog X.w) X.A (truthy v) (TP X XB σ Q) X.xe s
noncomputable def mN (r:R2)(ta tb:TE):TE:=fun σ H Q=>ta σ H fun x H1=>tb σ H1 fun y H2=>r x y H2 Q
noncomputable def D1 (r:V->Hp->VK->Prop)(ta:TE):TE:=fun σ H Q=>ta σ H fun x H1=>r x H1 Q
noncomputable def rI (C:Int->Int->Prop)(g:Int->Int->V):R2:=fun x y H Q=>∃ i j,x=.int i/\y=.int j/\C i j/\Q (g i j) H
noncomputable def eZ (g:Int->Int->V):R2:=fun x y H Q=>∃ i j,x=.int i/\y=.int j/\Q (g i j) H
noncomputable def rU (g:Int->V):V->Hp->VK->Prop:=fun x H Q=>∃ i,x=.int i/\Q (g i) H
section
variable {X:Cx}{a b c:N2}{ta tb tc:TE}{pos:Py}
theorem qR (ha:PE X a ta)(hb:PE X b tb){XB:List (Addr×Pu)}{s:NV}{σ:St}{H:Hp}{R:V->V->Hp->Prop}(I:Inv X XB σ H s)
  (h:ta σ H fun x H1=>tb σ H1 fun y H2=>R x y H2){Q:NT->NV->Prop}{f:NT->NT->WW NT}
  (hf:∀ v u s2 x y H2,Inv X XB σ H2 s2->RelV x v->RelV y u->R x y H2->Oi (Ot X.prog X.w) X.A (f v u) Q X.xe s2) :
  Oi (Ot X.prog X.w) X.A (eval a X.env) (fun v s₁=>Oi (Ot X.prog X.w) X.A (eval b X.env) (fun u s₂=>Oi (Ot X.prog X.w) X.A (f v u) Q X.xe s₂) X.xe s₁) X.xe s:=by
 refine aT (ha XB s σ H _ I h) fun v s1 ⟨x,H1,I1,r1,q1⟩=>?_
 refine aT (hb XB s1 σ H1 _ I1 q1) fun u s2 ⟨y,H2,I2,r2,q2⟩=>?_
 exact hf v u s2 x y H2 I2 r1 r2 q2
theorem D2 {op:Uv}{r:R2}(ho:OpR X (Qm op) r)(ha:PE X a ta)(hb:PE X b tb):PE X (.BinOp a op b pos) (mN r ta tb):=by
 intro XB s σ H Q I h
 exact wpAny_BinOp (qR ha hb I h fun v u s2 x y H2 I2 rx ry q=>ho XB s2 σ H2 x y v u Q I2 rx ry q)
theorem D3 {op:UnaryOp}{r:V->Hp->VK->Prop}(ho:qQ X (unaryOp op) r)(ha:PE X a ta):PE X (.UnaryOp op a pos) (D1 r ta):=by
 intro XB s σ H Q I h
 exact UnaryOp_ (aT (ha XB s σ H _ I h) fun v s1 ⟨x,H1,I1,r1,q1⟩=>ho XB s1 σ H1 x v Q I1 r1 q1)
theorem oB {f:NT->NT->WW NT}{C:Int->Int->Prop}{g:Int->Int->Int}
  (rule:∀ (i j:Int)(t u:Tok)(s:NV)(Q:NT->NV->Prop)(E:NT->NV->Prop),C i j->Q (.int (g i j) s.toks) { s with toks:=s.toks+1 }->Oi (Ot X.prog X.w) X.A (f (.int i t) (.int j u)) Q E s) :
  OpR X f (rI C fun i j=>.int (g i j)):=by
 intro XB s σ H x y v u Q I rx ry h
 obtain ⟨i,j,rfl,rfl,hc,q⟩:=h
 obtain ⟨t,rfl⟩:=rx
 obtain ⟨t',rfl⟩:=ry
 exact rule i j t t' s _ _ hc ⟨.int (g i j),H,I.tok _,⟨_,rfl⟩,q⟩
theorem wI {f:NT->NT->WW NT}{g:Int->Int->Int}
  (rule:∀ (i j:Int)(t u:Tok)(s:NV)(Q:NT->NV->Prop)(E:NT->NV->Prop),Q (.int (g i j) s.toks) { s with toks:=s.toks+1 }->Oi (Ot X.prog X.w) X.A (f (.int i t) (.int j u)) Q E s) :
  OpR X f (eZ fun i j=>.int (g i j)):=by
 intro XB s σ H x y v u Q I rx ry h
 obtain ⟨i,j,rfl,rfl,q⟩:=h
 obtain ⟨t,rfl⟩:=rx
 obtain ⟨t',rfl⟩:=ry
 exact rule i j t t' s _ _ ⟨.int (g i j),H,I.tok _,⟨_,rfl⟩,q⟩
theorem oC {f:NT->NT->WW NT}{g:Int->Int->Bool}
  (rule:∀ (i j:Int)(t u:Tok)(s:NV)(Q:NT->NV->Prop)(E:NT->NV->Prop),Q (.bool (g i j)) s->Oi (Ot X.prog X.w) X.A (f (.int i t) (.int j u)) Q E s) :
  OpR X f (eZ fun i j=>.bl (g i j)):=by
 intro XB s σ H x y v u Q I rx ry h
 obtain ⟨i,j,rfl,rfl,q⟩:=h
 obtain ⟨t,rfl⟩:=rx
 obtain ⟨t',rfl⟩:=ry
 exact rule i j t t' s _ _ ⟨.bl (g i j),H,I,rfl,q⟩
noncomputable def D4 (i j:Int):Prop:=0<=j/\j<=1000000/\i.natAbs<2 ^ 64
noncomputable def CMul (i j:Int):Prop:=(-(2 ^ 64)<i/\i<2 ^ 64)\/(-(2 ^ 64)<j/\j<2 ^ 64)
theorem CMul.ok {i j:Int}(h:CMul i j):V2 i j:=by
 rcases h with ⟨h1,h2⟩|⟨h1,h2⟩
 ·exact .of_left (intBits_le_64 h1 h2)
 ·exact .of_right (intBits_le_64 h1 h2)
theorem op_add:OpR X (Qm .Add) (eZ fun i j=>.int (i+j)):=wI fun _ _ _ _ _ _ _ q=>add_int q
theorem D5:OpR X (Qm .Sub) (eZ fun i j=>.int (i - j)):=wI fun _ _ _ _ _ _ _ q=>sub_int q
theorem D6:OpR X (Qm .Mod) (rI (fun _ j=>0<j) fun i j=>.int (i % j)):=oB fun i j _ _ _ _ _ hc q=>by
 have h1:(0:Int)<j:=hc
 exact mod_int' (by omega) (by rw [Int.fmod_eq_emod_of_nonneg i (by omega)];exact q)
theorem wJ {f:NT->WW NT}{g:Int->Int}
  (rule:∀ (i:Int)(t:Tok)(s:NV)(Q:NT->NV->Prop)(E:NT->NV->Prop),Q (.int (g i) s.toks) { s with toks:=s.toks+1 }->Oi (Ot X.prog X.w) X.A (f (.int i t)) Q E s) :
  qQ X f (rU fun i=>.int (g i)):=by
 intro XB s σ H x v Q I rx h
 obtain ⟨i,rfl,q⟩:=h
 obtain ⟨t,rfl⟩:=rx
 exact rule i t s _ _ ⟨.int (g i),H,I.tok _,⟨_,rfl⟩,q⟩
theorem D7:qQ X (unaryOp .USub) (rU fun i=>.int (-i)):=wJ fun _ _ _ _ _ q=>neg_int q
end
section
variable {X:Cx}{a b c:N2}{ta tb tc:TE}{pos:Py}
theorem D8 {XB:List (Addr×Pu)}{σ:St}{H:Hp}{s:NV}{Q:VK}{k k':Bool}(I:Inv X XB σ H s)(q:Q (.bl k) H)(e:k=k'):EP X XB σ Q (.bool k') s:=by
 subst e
 exact ⟨.bl k,H,I,rfl,q⟩
theorem wK:OpR X (Pe .Lt) (eZ fun i j=>.bl (decide (i<j))):=oC fun _ _ _ _ _ _ _ q=>lt_int q
theorem wL:OpR X (Pe .LtE) (eZ fun i j=>.bl (decide (i<=j))):=oC fun _ _ _ _ _ _ _ q=>le_int q
theorem wM:OpR X (Pe .Gt) (eZ fun i j=>.bl (decide (j<i))):=oC fun _ _ _ _ _ _ _ q=>gt_int q
theorem wN:OpR X (Pe .GtE) (eZ fun i j=>.bl (decide (j<=i))):=oC fun _ _ _ _ _ _ _ q=>ge_int q
theorem wO:OpR X (Pe .In) (fun x y H Q=>∃ i j,x=.str i/\y=.str j/\Q (.bl (!(O7 j i 0 j.length 1).isEmpty)) H):=by
 intro XB s σ H x y v u Q I rx ry h
 obtain ⟨i,j,rfl,rfl,q⟩:=h
 obtain ⟨t,rfl⟩:=rx
 obtain ⟨t',rfl⟩:=ry
 exact in_str (D8 I q rfl)
theorem OpR.or {f:NT->NT->WW NT}{r r':R2}(h:OpR X f r)(h':OpR X f r'):OpR X f (fun x y H Q=>r x y H Q\/r' x y H Q):=by
 intro XB s σ H x y v u Q I rx ry q
 rcases q with q|q
 ·exact h XB s σ H x y v u Q I rx ry q
 ·exact h' XB s σ H x y v u Q I rx ry q
theorem dG (b:N2){op:RX}(h:op≠.In:=by decide)(h2:op≠.NotIn:=by decide):Q6 op b=false:=by
 have e1:(op == CmpOp.In)=false:=by cases op<;>first|rfl|exact absurd rfl h
 have e2:(op == CmpOp.NotIn)=false:=by cases op<;>first|rfl|exact absurd rfl h2
 cases b<;>simp [Q6,e1,e2]
theorem D9 {op:RX}{r:R2}(ho:OpR X (Pe op) r)(ha:PE X a ta)(hb:PE X b tb)(hm:Q6 op b=false):PE X (.Compare a [op] [b] pos) (mN r ta tb):=by
 intro XB s σ H Q I h
 exact wpAny_Compare1 (qR ha hb I h fun v u s2 x y H2 I2 rx ry q=>ho XB s2 σ H2 x y v u Q I2 rx ry q) hm
noncomputable def Ea (t:TE):TT:=fun σ H Q=>t σ H fun x H'=>∃ k,x=.bl k/\Q k H'
theorem Eb {op:RX}{r:R2}(ho:OpR X (Pe op) r)(ha:PE X a ta)(hb:PE X b tb)(hm:Q6 op b=false):PT X (.Compare a [op] [b] pos) (Ea (mN r ta tb)):=by
 intro XB s σ H Q I h
 refine wpAny_isTrue_Compare1 (aT (ha XB s σ H _ I h) fun v s1 ⟨x,H1,I1,r1,q1⟩=>aT (hb XB s1 σ H1 _ I1 q1) fun u s2 ⟨y,H2,I2,r2,q2⟩=>
  aT (ho XB s2 σ H2 x y v u _ I2 r1 r2 q2) fun c s3 ⟨z,H3,I3,r3,k,e,q3⟩=>?_) hm
 subst e
 cases r3
 exact QC ⟨H3,I3,q3⟩
noncomputable def qS (K:NO)(x:V)(H:Hp)(k:Bool):Prop:=
 match x with
 | .non=>k=false
 | .bl b=>k=b
 | .int i=>k=(i != 0)
 | .str y=>y.length<=N4/\k=((y.length:Int) != 0)
 | .byt y=>y.size<=N4/\k=((y.size:Int) != 0)
 | .ref p=>(∃ xs,SqL K H p xs/\k = !xs.isEmpty)\/(∃ xs,SqT K H p xs/\k = !xs.isEmpty)\/∃ kvs,H p=some (.dK kvs)/\k = !kvs.isEmpty
 | _=>False
theorem Ec {κ:Type}{kvs:List (κ×V)}{vs:List (κ×NT)}(r:KV kvs vs):(!vs.isEmpty) = !kvs.isEmpty:=by
 cases r<;>rfl
theorem wQ {xs:List V}{its:List NT}(r:Vals xs its):(!its.toArray.isEmpty) = !xs.isEmpty:=by
 cases r<;>simp
theorem jQ:(N4:Nat)<2 ^ 63:=by rw [Ox];decide
theorem Ed:D0 X (fun x H Q=>∃ k,qS X.K x H k/\Q k H):=by
 intro XB s σ H x v Q I rx h
 obtain ⟨k,e,q⟩:=h
 have hl:=jQ
 have hs:N4=16777216:=Ox
 cases x with
 | non=>
  cases rx
  have e':k=false:=e
  subst e'
  exact truthy_none ⟨H,I,q⟩
 | bl b=>
  cases rx
  have e':k=b:=e
  subst e'
  exact QC ⟨H,I,q⟩
 | int i=>
  obtain ⟨t,rfl⟩:=rx
  have e':k=(i != 0):=e
  subst e'
  exact PySem.P.truthy_int ⟨H,I,q⟩
 | str y=>
  obtain ⟨t,rfl⟩:=rx
  obtain ⟨hy,e'⟩:y.length<=N4/\k=((y.length:Int) != 0):=e
  subst e'
  exact PySem.P.truthy_str (by omega) ⟨H,I.tok _,q⟩
 | byt y=>
  obtain ⟨t,rfl⟩:=rx
  obtain ⟨hy,e'⟩:y.size<=N4/\k=((y.size:Int) != 0):=e
  subst e'
  exact PySem.W.truthy_bytes (by omega) ⟨H,I.tok _,q⟩
 | ref p=>
  cases rx
  have e':(∃ xs,SqL X.K H p xs/\k = !xs.isEmpty)\/(∃ xs,SqT X.K H p xs/\k = !xs.isEmpty)\/∃ kvs,H p=some (.dK kvs)/\k = !kvs.isEmpty:=e
  rcases e' with ⟨xs,hx,e'⟩|⟨xs,hx,e'⟩|⟨kvs,hx,e'⟩
  ·subst e'
   obtain ⟨its,r,pl,hz⟩:=I.list hx
   have hlen:=r.length
   exact wpAny_truthy_list pl.isList (by simp only [N8];omega) ⟨H,I.tok _,by rw [wQ r];exact q⟩
  ·subst e'
   obtain ⟨its,r,pl,hz⟩:=I.tuple hx
   have hlen:=r.length
   exact truthy_tuple pl (by simp only [N8];omega) ⟨H,I.tok _,by rw [wQ r];exact q⟩
  ·subst e'
   obtain ⟨hz,hS,vs,r,m⟩:kvs.length<=N4/\(p == OY)=false/\∃ vs,KV kvs vs/\s.heap.DictOf (jO X.prog X.w) p vs:=I.hok p _ hx
   have hlen:kvs.length=vs.length:=TK r
   exact wpAny_truthy_dict hS m (by omega) ⟨H,I.tok _,by rw [Ec r];exact q⟩
 | _=>exact (show False from e).elim
theorem Ee (ha:PE X a ta)(he:∀ whole,Vh a X.env whole=(do let v <- whole;standAt a.pos;holding [v] (truthy v))) :
  PT X a (fun σ H Q=>ta σ H fun x H'=>∃ k,qS X.K x H' k/\Q k H'):=by
 intro XB s σ H Q I h
 exact isTrue_plain (aT (ha XB s σ H _ I h) fun v s1 ⟨x,H1,I1,r1,q1⟩=>Ed XB s1 σ H1 x v Q I1 r1 q1) (he _)
theorem op_add_str:OpR X (Qm .Add) (fun x y H Q=>∃ i j,x=.str i/\y=.str j/\i.length+j.length<=N4/\Q (.str (i++j)) H):=by
 intro XB s σ H x y v u Q I rx ry h
 obtain ⟨i,j,rfl,rfl,hz,q⟩:=h
 obtain ⟨t,rfl⟩:=rx
 obtain ⟨t',rfl⟩:=ry
 exact add_str (fun t' tk=>⟨.str (i++j),H,I.tok _,⟨_,rfl⟩,q⟩) hz
theorem e6 {x:V}{us:List NT}(r:Vals [x] us):∃ u,us=[u]/\RelV x u:=by
 cases r with
 | cons r1 r2=>cases r2;exact ⟨_,rfl,r1⟩
theorem Ef {x y:V}{us:List NT}(r:Vals [x,y] us):∃ u w',us=[u,w']/\RelV x u/\RelV y w':=by
 cases r with
 | cons r1 r2=>
  cases r2 with
  | cons r3 r4=>cases r4;exact ⟨_,_,rfl,r1,r3⟩
end
end L2
namespace L2
open PySem PySem.Spec PyProof.Rows
structure ObjM (h:O3)(x dx C:Addr)(mA:Str->Option NT):Prop where
 obj:h.get? x=some (QN C dx)
 ns:h.Ns1 dx mA
 ne:dx≠x
section
variable {prog:Oo}{w:OO}{A:OG}{E:NT->NV->Prop}{s:NV}{K:NO}{x dx C f:Addr}{mA:Str->Option NT}{name:Str}{v:NT}
end
theorem RelO.some_of {v:V}{o:Option NT}(r:RelO (some v) o):∃ u,o=some u/\RelV v u:=by
 cases o with
 | none=>exact (show False from r).elim
 | some u=>exact ⟨u,rfl,r⟩
section
variable {P:Oo}{w:OO}{H H':Hp}{h h':O3}{a C dx:Addr}{fs fs':List (Str×V)}
end
structure Cls (K:NO)(C:Addr):Prop where
 pg:UW K C Str.empty=true
 hd:PySem.W.hasDictIn K C=true
 po:PySem.W.plainOver K C=true
 sa:Rz K (.ref C) "__setattr__" = some (some (.builtin "object.__setattr__"))
theorem Cls.get {K:NO}{C:Addr}(c:Cls K C)(f:Str):UW K C f=true:=c.pg
structure Con (K:NO)(C:Addr)(f:Str)(v:V)(u:NT):Prop where
 at_:Rz K (.ref C) f=some (some u)
 rel:RelV v u
 get:UG K u "__get__" = some none
 cp:PySem.W.copiedNames.contains f=false
structure Meth (K:NO)(C:Addr)(m:Str)(f:Addr):Prop where
 at_:Rz K (.ref C) m=some (some (.ref f))
 fn:VX K (.ref f)=true
 kp:Po K (.ref f)=true
section
variable {X:Cx}{XB:List (Addr×Pu)}{σ:St}{H:Hp}{s:NV}{a C dx:Addr}{fs:List (Str×V)}{f:Str}{v:V}{A:OG}{E:NT->NV->Prop}
theorem Inv.made (I:Inv X XB σ H s):Inv X XB σ (aI (aI H s.heap.objs.size (.own (s.heap.objs.size+1))) (s.heap.objs.size+1) (.ins C s.heap.objs.size []))
  { s with heap:=(s.heap.push PC).push (QN C s.heap.objs.size) }:=by
 have e1:(s.heap.push PC).get? s.heap.objs.size=some PC:=Of s.heap rfl
 have e2:((s.heap.push PC).push (QN C s.heap.objs.size)).get? (s.heap.objs.size+1)=some (QN C s.heap.objs.size):=by
  have:=Of (s.heap.push PC) (o:=QN C s.heap.objs.size) rfl
  rwa [TL] at this
 have e3:(s.heap.push PC).Ns s.heap.objs.size (fun _=>none):=⟨PC,#[],_,e1,rfl,(fun e he=>absurd he (by simp)),fun _=>rfl⟩
 have I1:=I.laid (a:=s.heap.objs.size) (o:=.own (s.heap.objs.size+1)) (h':=s.heap.push PC) (t':=s.toks) (fun b u q=>NW _ q) (N3 _) ⟨_,e1⟩
 refine I1.laid (a:=s.heap.objs.size+1) (o:=.ins C s.heap.objs.size []) (t':=s.toks) (fun b u q=>NW _ q) (SW (TL _ _)) ?_
 have ne:s.heap.objs.size≠s.heap.objs.size+1:=Oh (Td _)
 refine ⟨by rw [bH ne,cY],OW _,ne,e2,fun _=>none,(Heap.Ns1.of_empty e3).at fun o q=>NW _ q,fun _=>PX,fun y hy=>absurd rfl hy⟩
end
section
variable {X:Cx}{o e value:N2}{f:Str}{pos pos' tpos:Py}{ta tv:TE}
end
section
variable {X:Cx}{XB:List (Addr×Pu)}{σ:St}{H:Hp}{s:NV}{A:OG}{E:NT->NV->Prop}{Q:NT->NV->Prop}{c:NT}{b:Bool}
inductive TyOf (K:NO)(H:Hp):V->NT->Prop where
 | non:TyOf K H .non (.type "NoneType")
 | bl (x:Bool):TyOf K H (.bl x) (.type "bool")
 | int (i:Int):TyOf K H (.int i) (.type "int")
 | str (x:Str):TyOf K H (.str x) (.type "str")
 | flt (x:UInt64):TyOf K H (.flt x) (.type "float")
 | lst {a:Addr}{xs:List V}(e:H a=some (.lst xs)):TyOf K H (.ref a) (.type "list")
 | frz {a:Addr}{o:Pu}{xs:List V}(e:H a=some (.frz o (.lst xs))):TyOf K H (.ref a) (.type "list")
 | tup {a:Addr}{xs:List V}(e:H a=some (.tup xs)):TyOf K H (.ref a) (.type "tuple")
 | dK {a:Addr}{kvs:List (aW×V)}(e:H a=some (.dK kvs)):TyOf K H (.ref a) (.type "dict")
 | dT {a:Addr}{kvs:List (List aW×V)}(e:H a=some (.dT kvs)):TyOf K H (.ref a) (.type "dict")
 | ins {a C dx:Addr}{fs:List (Str×V)}(e:H a=some (.ins C dx fs))(cl:Cls K C)(ha:Rz K (.ref C) "__class__" = some (some (.builtin "object.__class__")))
   (hn:UG K (.builtin "object.__class__") "__get__" = some (some (.builtin "getset_descriptor.__get__"))) (htk:PySem.W.takesIn K (.builtin "object.__class__")=some true)
   (hm:PySem.W.mroIn K C (.type "object")=some true):TyOf K H (.ref a) (.ref C)
end
end L2
namespace L2
open PySem PySem.Spec PyProof.Rows
structure Room (k:Nat)(A:OG):Prop where
 hd:A.handled=none
 dp:A.depth+3 * k+5<Xs
 un:A.units+16 * k+200<PR
theorem Room.deeper {k:Nat}{A:OG}(r:Room (k+1) A)(env:SI):Room k (A.deeper env):=
 ⟨r.hd,by have:=r.dp;show A.depth+1+3 * k+5<_;omega,by have:=r.un;show A.units+3+16 * k+200<_;omega⟩
theorem Room.depth {k:Nat}{A:OG}(r:Room k A):A.depth<Xs:=by have:=r.dp;omega
theorem Room.units {k:Nat}{A:OG}(r:Room k A):A.units+64<PR:=by have:=r.un;omega
noncomputable def wR:TA:=fun _ H Q=>Q [] H
noncomputable def Eg (ta:TE)(tr:TA):TA:=fun σ H Q=>ta σ H fun x H1=>tr σ H1 fun xs H2=>Q (x::xs) H2
section
variable {X:Cx}{e:N2}{es:List N2}{te:TE}{t:TA}{pos:Py}
theorem Eh:PA X [] wR:=fun _ _ _ _ H Q I h=>U8 ⟨[],H,I,.nil,h⟩
theorem Ei (ha:PE X e te)(hr:PA X es t)(hs:OF (e::es) X.env=(false,eval e X.env)::OF es X.env:=by rfl):PA X (e::es) (Eg te t):=by
 intro pos XB s σ H Q I h
 rw [hs]
 show Oi _ _ (spliced ((false,eval e X.env)::Qg pos (OF es X.env))) _ _ s
 refine UY (aT (ha XB s σ H _ I h) fun u s1 ⟨x,H1,I1,r1,q1⟩=>?_)
 exact aT (hr pos XB s1 σ H1 _ I1 q1) fun us s2 ⟨xs,H2,I2,r2,q2⟩=>⟨x::xs,H2,I2,.cons r1 r2,q2⟩
noncomputable def Ej (t:TA):TE:=fun σ H Q=>t σ H fun xs H1=>xs.length<=N4/\∀ p,H1 p=none->Q (.ref p) (aI H1 p (.tup xs))
noncomputable def Ek (t:TA):TE:=fun σ H Q=>t σ H fun xs H1=>xs.length<=N4/\∀ p,H1 p=none->Q (.ref p) (aI H1 p (.lst xs))
theorem Em {x1} (h:PA X es t):PE X (.Tuple es x1 pos) (Ej t):=by
 intro XB s σ H Q I hq
 refine wpAny_Tuple_spliced (aT (h pos XB s σ H _ I hq) fun us s1 ⟨xs,H1,I1,r,z,q⟩=>⟨by rw [<- r.length];exact z,?_⟩)
 have hf:H1 s1.heap.objs.size=none:=I1.hok.fresh (N3 _)
 refine ⟨.ref s1.heap.objs.size,aI H1 s1.heap.objs.size (.tup xs),I1.laid (t':=s1.toks) (fun b u e=>NW _ e) (N3 _) ?_,rfl,q _ hf⟩
 exact ⟨z,us,r,⟨_,Of _ rfl,rfl,_,rfl,rfl⟩⟩
theorem Eo (h:PA X es t):PE X (.List es pos) (Ek t):=by
 intro XB s σ H Q I hq
 refine wpAny_List_spliced (aT (h pos XB s σ H _ I hq) fun us s1 ⟨xs,H1,I1,r,z,q⟩=>⟨by rw [<- r.length];exact z,?_⟩)
 have hf:H1 s1.heap.objs.size=none:=I1.hok.fresh (N3 _)
 refine ⟨.ref s1.heap.objs.size,aI H1 s1.heap.objs.size (.lst xs),I1.laid (t':=s1.toks) (fun b u e=>NW _ e) (N3 _) ?_,rfl,q _ hf⟩
 exact ⟨z,us,0,r,Of _ rfl⟩
end
noncomputable abbrev Sp:=List V->Hp->VK->XK->Prop
noncomputable abbrev f9:=List SI->Hp->NV->XK->NT->NV->Prop
structure Env0 (P:Oo)(w:OO)(K:NO)(mg:Str->Option NT)(base:O3)(A:OG)(outer:List SI)(s:NV)(H:Hp):Prop where
 frames:A.frames=some outer
 mod:Mod K mg base
 bs:∀ b o,base.get? b=some o->s.heap.get? b=some o/\H b=none
 bsz:base.objs.size<=s.heap.objs.size
 funs:s.heap.FunFrames base outer
 frf:∀ b∈eY outer,H b=none
 hok:HOk P w H s.heap
 bare:SM s.gens
noncomputable def CE (outer:List SI)(P:Oo)(w:OO)(H:Hp)(s:NV)(Q:VK)(u:NT)(s':NV):Prop:=
 ∃ v H',s'.os=s.os/\SM s'.gens/\Un (eY outer) [] H H' s.heap s'.heap/\HOk P w H' s'.heap/\RelV v u/\Q v H'
noncomputable def CR (CX:f9)(outer:List SI)(P:Oo)(w:OO)(H:Hp)(s:NV)(Q:VK)(E:XK)(r:Vl)(s':NV):Prop:=
 match r with
 | .ok (.ret u)=>CE outer P w H s Q u s'
 | .ok _=>False
 | .error e=>CX outer H s E e s'
structure FnOk (P:Oo)(w:OO)(K:NO)(mg:Str->Option NT)(base:O3)(CX:f9)(k:Nat)(f:Addr)(fd:P4)(ps:List Str)(sp:Sp):Prop where
 len:∀ vs H Q E,sp vs H Q E->vs.length=ps.length
 run:∀ (A:OG)(outer:List SI)(s:NV)(H:Hp)(args:Args)(us:List NT)(vs:List V)(Q:VK)(E:XK),Room k A->Env0 P w K mg base A outer s H->TB s fd args (ps.zip us)->Vals vs us->sp vs H Q E->
  Si (Ot P w) A (.call (.ref f) args) (CR CX outer P w H s Q E) s
section
variable {X:Cx}{XB:List (Addr×Pu)}{σ:St}{H:Hp}{s s':NV}
theorem Inv.env0 (I:Inv X XB σ H s):Env0 X.prog X.w X.K X.mg X.base X.A X.stack s H:=
 ⟨I.ok.frames,I.ok.mod,I.bs,OU I.ok.bsz I.sz,I.stack,I.stkFree,I.hok,I.bare⟩
theorem Inv.after {Q:VK}{u:NT}(I:Inv X XB σ H s)(h:CE X.stack X.prog X.w H s Q u s'):EP X XB σ Q u s':=by
 obtain ⟨v,H',os,bare,un,hok,r,q⟩:=h
 obtain ⟨hh,g,d,t,os'⟩:=s'
 obtain rfl:os'=s.os:=os
 exact ⟨v,H',I.call (h':=hh) (g':=g) (d':=d) (t':=t) (ch:=[]) un hok bare (fun b z=>absurd z (by simp)),r,q⟩
end
noncomputable def qT (sp:Sp)(dvs:List V)(E:XK)(t:TA):TE:=fun σ H Q=>t σ H fun vs H1=>sp (vs++dvs) H1 Q E
noncomputable def Binds (K:NO)(fd:P4)(ps:List Str)(ds:List NT):Prop:=
 ∀ (s:NV)(us:List NT),K.In s.heap->(us++ds).length=ps.length->TB s fd ⟨us,[]⟩ (ps.zip (us++ds))
theorem Binds.all {K:NO}{fd:P4}{ps:List Str}(h:∀ us:List NT,us.length=ps.length->Ur fd ⟨us,[]⟩=pure (ps.zip us)):Binds K fd ps []:=fun s us _ hl=>by
 rw [Rv] at hl ⊢
 exact .of_eq (h us hl)
noncomputable def oD (CX:f9)(X:Cx)(E:XK):Prop:=∀ (XB:List (Addr×Pu))(σ:St)(H:Hp)(s:NV)(e:NT)(s':NV),Inv X XB σ H s->CX X.stack H s E e s'->X.xe e s'
section
variable {X:Cx}{CX:f9}{k:Nat}{f C:Addr}{fd:P4}{ps:List Str}{sp:Sp}{dvs:List V}{ds:List NT}{E:XK}{x m:Str}{p pos apos:Py}{e o:N2}{es:List N2}{ta:TE}{t:TA}
theorem wU {XB:List (Addr×Pu)}{σ:St}{H:Hp}{s:NV}{Q:VK}{us:List NT}{vs:List V}(F:FnOk X.prog X.w X.K X.mg X.base CX k f fd ps sp)(hr:Room k X.A)(hb:Binds X.K fd ps ds)(hd:Vals dvs ds)(hx:oD CX X E)
  (I:Inv X XB σ H s)(r:Vals vs us)(h:sp (vs++dvs) H Q E):Oi (Ot X.prog X.w) X.A (call (.ref f) us) (EP X XB σ Q) X.xe s:=by
 have r2:Vals (vs++dvs) (us++ds):=r.append hd
 have hl:(us++ds).length=ps.length:=by rw [<- r2.length];exact F.len _ _ _ _ h
 refine wpAny_call (Vi (F.run X.A X.stack s H ⟨us,[]⟩ (us++ds) (vs++dvs) Q E hr I.env0 (hb s us I.kIn hl) r2 h) fun r s' hq=>?_)
 cases r with
 | error e=>exact hx XB σ H s e s' I hq
 | ok fl=>
  cases fl with
  | ret u=>exact I.after hq
  | next=>exact PM hq
  | brk=>exact PM hq
  | cont=>exact PM hq
theorem Ep (F:FnOk X.prog X.w X.K X.mg X.base CX k f fd ps sp)(hr:Room k X.A)(hg:Gl X x)(hm:X.mg x=some (.ref f))(hk:Po X.K (.ref f)=true)(hb:Binds X.K fd ps ds)(hd:Vals dvs ds)(hx:oD CX X E)
  (ha:PA X (e::es) t)(hdb:(x == ("__debug__":Str))=false:=by decide) (he:OF (e::es) X.env=(false,eval e X.env)::OF es X.env:=by rfl)(hpl:(Qg pos (OF es X.env)).any (·.1)=false:=by rfl) :
  PE X (.Call (.Name x p) (e::es) [] pos) (qT sp dvs E t):=by
 intro XB s σ H Q I h
 refine Qt (qM I hg hm ?_ hdb)
 refine PySem.W.callWith_K (h₀:=X.base) I.ok.mod.kin hk (aT (ha pos XB s σ H _ I h) fun us s1 ⟨vs,H1,I1,r,q⟩=>⟨I1.kIn,?_⟩) he hpl
 exact wU F hr hb hd hx I1 r q
theorem Er (F:FnOk X.prog X.w X.K X.mg X.base CX k f fd ps sp)(hr:Room k X.A)(hg:Gl X x)(hm:X.mg x=some (.ref f))(hk:Po X.K (.ref f)=true)(hb:Binds X.K fd ps ds)(hd:Vals dvs ds)(hx:oD CX X E)
  (hdb:(x == ("__debug__":Str))=false:=by decide):PE X (.Call (.Name x p) [] [] pos) (qT sp dvs E wR):=by
 intro XB s σ H Q I h
 refine Qt (qM I hg hm ?_ hdb)
 exact PySem.W.callWith_K0 I.kIn hk (wU (us:=[]) F hr hb hd hx I .nil h)
structure Mk (K:NO)(C f:Addr):Prop where
 makes:PySem.W.makesIn K C=true
 init:Rz K (.ref C) "__init__" = some (some (.ref f))
 fn:VX K (.ref f)=true
 kp:Po K (.ref C)=true
end
section
variable {X:Cx}{CX:f9}{k:Nat}{f C:Addr}{fd:P4}{ps ks:List Str}{sp:Sp}{E:XK}{x m:Str}{p pos apos kpos:Py}{e o:N2}{es:List N2}{kws:List QY}{te ta:TE}{t tk:TA}{nm:Option Str}
structure KBinds (K:NO)(fd:P4)(ps ks:List Str)(g:List NT->List NT->List NT)(gV:List V->List V->List V):Prop where
 to:∀ (s:NV)(us ws:List NT),K.In s.heap->(g us ws).length=ps.length->TB s fd ⟨us,ks.zip ws⟩ (ps.zip (g us ws))
 rel:∀ {vs:List V}{us:List NT}{zs:List V}{ws:List NT},Vals vs us->Vals zs ws->Vals (gV vs zs) (g us ws)
variable {g:List NT->List NT->List NT}{gV:List V->List V->List V}
end
structure FnScope (N P:List Str)(sc:Qn):Prop where
 kind:sc.kind=.function
 co:sc.isCoroutine=false
 gen:sc.isGenerator=false
 nd:N.Nodup
 pre:N.take P.length=P
 par:∀ x∈P,sc.names.lookup x=some .local\/sc.names.lookup x=some .cell
 nofree:∀ y∈sc.names,y.2≠.free
theorem wV {kindOf:Str->Option Qc}{x:Str}:∀ {binds:List (Str×NT)}{m:Str->Option NT},(∀ v,(x,v)∉binds)->U3 kindOf binds m x=m x
 | [],_,_=>rfl
 | (n,v)::r,m,h=>by
  unfold U3
  rw [wV fun w hw=>h w (Oc _ hw)]
  split
  ·have:x≠n:=by rintro rfl;exact h v Om
   simp [this]
  ·rfl
theorem wW {kindOf:Str->Option Qc}{x:Str}:∀ {binds:List (Str×NT)}{m:Str->Option NT},(∀ v,(x,v)∉binds)->U4 kindOf binds m x=m x
 | [],_,_=>rfl
 | (n,v)::r,m,h=>by
  unfold U4
  rw [wW fun w hw=>h w (Oc _ hw)]
  split
  ·rfl
  ·have:x≠n:=by rintro rfl;exact h v Om
   simp [this]
theorem wX {kindOf:Str->Option Qc}{x:Str}{v:NT}:∀ {P:List Str}{vs:List NT}{i:Nat}{m:Str->Option NT},P.Nodup->P[i]? = some x->vs[i]? = some v->kindOf x=some .local->
  U3 kindOf (P.zip vs) m x=some v
 | [],_,_,_,_,h,_,_=>by simp at h
 | _::_,[],_,_,_,_,h,_=>by simp at h
 | p::P,w::vs,0,m,nd,h1,h2,hk=>by
  simp at h1 h2;subst h1;subst h2
  show U3 kindOf ((p,w)::P.zip vs) m p=_
  unfold U3
  rw [wV fun v hv=>(OS.mp nd).1 (Tg hv).1,if_pos hk]
  simp
 | p::P,w::vs,i+1,m,nd,h1,h2,hk=>by
  show U3 kindOf ((p,w)::P.zip vs) m x=_
  unfold U3
  exact wX (i:=i) (OS.mp nd).2 (by simpa using h1) (by simpa using h2) hk
theorem wY {kindOf:Str->Option Qc}{x:Str}{v:NT}:∀ {P:List Str}{vs:List NT}{i:Nat}{m:Str->Option NT},P.Nodup->P[i]? = some x->vs[i]? = some v->kindOf x≠some .local->
  U4 kindOf (P.zip vs) m x=some v
 | [],_,_,_,_,h,_,_=>by simp at h
 | _::_,[],_,_,_,_,h,_=>by simp at h
 | p::P,w::vs,0,m,nd,h1,h2,hk=>by
  simp at h1 h2;subst h1;subst h2
  show U4 kindOf ((p,w)::P.zip vs) m p=_
  unfold U4
  rw [wW fun v hv=>(OS.mp nd).1 (Tg hv).1,if_neg hk]
  simp
 | p::P,w::vs,i+1,m,nd,h1,h2,hk=>by
  show U4 kindOf ((p,w)::P.zip vs) m x=_
  unfold U4
  exact wY (i:=i) (OS.mp nd).2 (by simpa using h1) (by simpa using h2) hk
noncomputable def start (N:List Str)(vs:List V):St:=vs.map some++PF (N.length - vs.length) none
noncomputable def gW (CX:f9)(P:Oo)(w:OO)(K:NO)(mg:Str->Option NT)(base:O3)(N:List Str)(qual:Str)(scope:Qn)(f:Addr)(cd:NT)(A:OG)(outer:List SI)(s:NV)(H:Hp)(E:XK):Cx where
 prog:=P
 w:=w
 K:=K
 mg:=mg
 base:=base
 A:=A.deeper (envOfC qual scope s.heap.objs.size f cd)
 N:=N
 s₀:=s
 H₀:=H
 env:=envOfC qual scope s.heap.objs.size f cd
 outer:=outer
 stack:=envOfC qual scope s.heap.objs.size f cd::outer
 ex:=[]
 calm:=true
 fn:=fun _=>true
 pn:=[]
 xe:=fun e s'=>Oi (Ot P w) (A.deeper (envOfC qual scope s.heap.objs.size f cd)) (leaving (envOfC qual scope s.heap.objs.size f cd) e) (fun _ s''=>CX outer H s E e s'') (fun e' s''=>CX outer H s E e' s'') s'
theorem wZ {sc:Qn}{n:Nat}{x:Str}(h:sc.names.lookup x=some .cell):∃ c,(WE n sc.names []).lookup x=some c:=by
 have q:=TU sc.names n [] (.inl h)
 exact Option.isSome_iff_exists.mp q
theorem Es {CX:f9}{P:Oo}{w:OO}{K:NO}{mg:Str->Option NT}{base:O3}{N ps:List Str}{qual:Str}{scope:Qn}{f:Addr}{cd:NT}{A:OG}{outer:List SI}{s s1:NV}{H:Hp}{E:XK}{us:List NT}{vs:List V}
  (S:FnScope N ps scope)(hd:A.handled=none)(e0:Env0 P w K mg base A outer s H)(hl:vs.length=ps.length)(r:Vals vs us)
  (x:InCallC s s.heap.objs.size (U3 (envOfC qual scope s.heap.objs.size f cd).kindOf (ps.zip us) fun _=>none) (WE (s.heap.objs.size+1) scope.names []) (U4 (envOfC qual scope s.heap.objs.size f cd).kindOf (ps.zip us) fun _=>none) s1) :
  Inv (gW CX P w K mg base N qual scope f cd A outer s H E) [] (start N vs) H s1:=by
 have hpl:ps.length<=N.length:=by have:=congrArg OJ S.pre;rw [OP] at this;omega
 obtain ⟨h1,tk,rfl,hk⟩:=x.done
 have noA:∀ b:Addr,b∉(gW CX P w K mg base N qual scope f cd A outer s H E).ex:=fun b z=>absurd (show b∈([]:List Addr) from z) (by simp)
 refine ⟨⟨e0.mod,S.kind,rfl,rfl,N3 _,fun y z c h1 h2=>?_,fun y hy=>?_,fun y c _ h=>?_,fun _=>hd,Around.frames_deeper e0.frames,.inr ⟨rfl,rfl⟩,fun b z=>absurd z (noA b),e0.bs,e0.bsz,fun b _ _=>noA b,fun b z=>absurd z (noA b),e0.funs,e0.frf⟩,
  rfl,e0.bare,Un.kept hk,⟨_,x.toInCall.ns,fun i y v h1 h2 h3=>?_⟩,fun y c h=>⟨_,x.cell y c h⟩,e0.hok.fresh (N3 _),fun y c h=>?_,fun p hp=>absurd (show p∈([]:List (Addr×Pu)) from hp) (by simp),e0.hok.kept hk,?_⟩
 ·exact name_of_addr x.apart (O0 h1) (O0 h2)
 ·have hy:scope.names.lookup y=some .cell\/scope.names.lookup y=some .free:=hy
  rcases hy with hy|hy
  ·exact wZ hy
  ·exact absurd rfl (S.nofree _ (O0 hy))
 ·exact R6 (x.above y c (O0 h))
 ·have hi:i<vs.length:=by
   unfold start at h2
   by_cases hi:i<vs.length
   ·exact hi
   ·rw [Pr (by simpa using hi)] at h2
    rw [Qf] at h2
    split at h2<;>cases h2
  have ha:vs[i]? = some v:=by
   unfold start at h2
   rw [OM (by simpa using hi),Ol] at h2
   cases e:vs[i]? with
   | none=>rw [e] at h2;cases h2
   | some a=>rw [e] at h2;cases h2;rfl
  obtain ⟨u,hu,rv⟩:=r.get ha
  have hp:ps[i]? = some y:=by
   rw [<- S.pre,T6 (by omega)];exact h1
  have ndP:ps.Nodup:=by rw [<- S.pre];exact S.nd.sublist (List.take_sublist _ _)
  refine ⟨u,rv,?_⟩
  rcases S.par y (OX hp) with k|k
  ·exact .inl ⟨k,wX ndP hp hu k⟩
  ·obtain ⟨c,e⟩:=wZ (n:=s.heap.objs.size+1) k
   refine .inr ⟨.inl k,c,e,?_⟩
   have q:=x.cell y c e
   rw [wY ndP hp hu (by show scope.names.lookup y≠_;rw [k];decide)] at q
   exact q
 ·exact e0.hok.fresh (R6 (x.above y c (O0 h)))
 ·unfold start
  show _=N.length
  rw [Oa,NP,PZ]
  omega
theorem Et {CX:f9}{P:Oo}{w:OO}{K:NO}{mg:Str->Option NT}{base:O3}{k:Nat}{f:Addr}{name qual:Str}{params:Arguments}{body:List Stmt}{scope:Qn}{dV kV doc pm cdv ct oc:NT}{an od:Option Addr}
  {osl:Array (Option NT)}{N ps:List Str}{sp:Sp}(lk:K.lookup f=some ⟨oc,od,.func (P1 name qual params body scope dV kV doc pm an cdv ct),osl⟩)(hcd:RY K cdv qual=true)(S:FnScope N ps scope)
  (len:∀ vs H Q E,sp vs H Q E->vs.length=ps.length)
  (hbody:∀ (A:OG)(outer:List SI)(s:NV)(H:Hp)(vs:List V)(Q:VK)(E:XK),Room k (A.deeper (envOfC qual scope s.heap.objs.size f cdv))->sp vs H Q E->
   ∃ t,PSs (gW CX P w K mg base N qual scope f cdv A outer s H E) body t/\t { nx:=fun _ H'=>Q .non H',rt:=Q } (start N vs) H) :
  FnOk P w K mg base CX (k+1) f (P1 name qual params body scope dV kV doc pm an cdv ct) ps sp:=by
 refine ⟨len,fun A outer s H args us vs Q E hr e0 hb r hsp=>?_⟩
 have hl:=len _ _ _ _ hsp
 have KX:K.In s.heap:=e0.mod.kin.keeps fun b o e=>(e0.bs b o e).1
 have lim:s.heap.NoLimit:=e0.mod.nolimit.keeps fun b o e=>(e0.bs b o e).1
 have hkind:∀ y∈ps.zip us,scope.names.lookup y.1=some .local\/(scope.names.lookup y.1=some .cell/\((WE (s.heap.objs.size+1) scope.names []).lookup y.1).isSome=true):=fun ⟨n,v⟩ hy=>by
  rcases S.par n (Tg hy).1 with q|q
  ·exact .inl q
  ·exact .inr ⟨q,TU _ _ _ (.inl q)⟩
 refine codeAny_call_function hr.depth (KX _ _ lk) rfl S.co S.gen rfl (PySem.W.codeRec_of KX hcd) (hb _ _ _ _ ?_)
 refine wpAny_newFunctionEnv_cells S.kind hkind fun env he s1 x=>?_
 subst he
 refine ⟨lim.keeps x.toInCall.keep,codeAny_func ?_⟩
 obtain ⟨t,ht,hq⟩:=hbody A outer s H vs Q E (hr.deeper _) hsp
 have I:Inv (gW CX P w K mg base N qual scope f cdv A outer s H E) [] (start N vs) H s1:=Es S hr.hd e0 hl r x
 refine OZ (ht [] s1 (start N vs) H _ I hq) (fun fl s' hs=>?_) fun e s' hs=>hs
 have aS:∀ {σ':St}{H':Hp}{v:V}{u:NT},Inv (gW CX P w K mg base N qual scope f cdv A outer s H E) [] σ' H' s'->RelV v u->Q v H'->CE outer P w H s Q u s':=
  fun {σ' H' v u} J rv q=>⟨v,H',J.os,J.bare,J.base,J.hok,rv,q⟩
 cases fl with
 | ret u=>
  obtain ⟨v,σ',H',J,rv,q⟩:=hs
  exact aS J rv q
 | next=>
  obtain ⟨σ',H',J,q⟩:=hs
  exact aS (v:=V.non) (u:=O9) J rfl q
 | brk=>
  obtain ⟨_,_,_,q⟩:=hs
  exact PM q
 | cont=>
  obtain ⟨_,_,_,q⟩:=hs
  exact PM q
end L2
namespace L2
open PySem PySem.Spec PyProof.Rows
section
variable {X:Cx}{x:Str}{p pos:Py}{e:N2}{es:List N2}{t:TA}{id T:String}{r:List V->Hp->VK->Prop}
noncomputable def oE (r:List V->Hp->VK->Prop)(t:TA):TE:=fun σ H Q=>t σ H fun vs H1=>r vs H1 Q
theorem Eu (hc:CallR X (.builtin id) r)(hg:Gl X x)(hm:X.mg x=none)(hv:Pf x=some (.builtin id))(ha:PA X (e::es) t)(hn:x ≠ "__name__":=by decide) (hdb:(x == ("__debug__":Str))=false:=by decide)
  (he:OF (e::es) X.env=(false,eval e X.env)::OF es X.env:=by rfl)(hpl:(Qg pos (OF es X.env)).any (·.1)=false:=by rfl):PE X (.Call (.Name x p) (e::es) [] pos) (oE r t):=by
 intro XB s σ H Q I h
 refine Qt (jP I hg hm hv ?_ hn hdb)
 exact W8 (aT (ha pos XB s σ H _ I h) fun us s1 ⟨vs,H1,I1,r1,q1⟩=>hc XB s1 σ H1 vs us Q I1 r1 q1) he hpl
theorem Ew (hc:CallR X (.type T) r)(hg:Gl X x)(hm:X.mg x=none)(hv:Pf x=some (.type T))(ha:PA X (e::es) t)(hn:x ≠ "__name__":=by decide) (hdb:(x == ("__debug__":Str))=false:=by decide)
  (he:OF (e::es) X.env=(false,eval e X.env)::OF es X.env:=by rfl)(hpl:(Qg pos (OF es X.env)).any (·.1)=false:=by rfl):PE X (.Call (.Name x p) (e::es) [] pos) (oE r t):=by
 intro XB s σ H Q I h
 refine Qt (jP I hg hm hv ?_ hn hdb)
 exact PD (aT (ha pos XB s σ H _ I h) fun us s1 ⟨vs,H1,I1,r1,q1⟩=>hc XB s1 σ H1 vs us Q I1 r1 q1) he hpl
end
end L2
namespace L2
open PySem PySem.Spec PyProof.Rows
section
variable {κ:Type} [DecidableEq κ]
noncomputable def c8 (kvs:List (κ×V))(k:κ):Option V:=(kvs.find? fun kv=>decide (kv.1=k)).map (·.2)
noncomputable def oF (kvs:List (κ×V))(k:κ)(v:V):List (κ×V):=
 if (kvs.any fun kv=>decide (kv.1=k))=true then kvs.map (fun kv=>if kv.1=k then (kv.1,v) else kv) else kvs++[(k,v)]
theorem w4 {p:κ×V}{r:List (κ×V)}{k:κ}(e:p.1=k):c8 (p::r) k=some p.2:=by simp [c8,OT,e]
theorem w5 {p:κ×V}{r:List (κ×V)}{k:κ}(e:¬ p.1=k):c8 (p::r) k=c8 r k:=by simp [c8,OT,e]
theorem RelO.isSome_eq {o:Option V}{u:Option NT}(r:RelO o u):o.isSome=u.isSome:=by
 cases o with
 | none=>cases u with
  | none=>rfl
  | some _=>exact (show False from r).elim
 | some _=>cases u with
  | none=>exact (show False from r).elim
  | some _=>rfl
theorem RelO.getD {o:Option V}{u:Option NT}{d:V}{d':NT}(r:RelO o u)(rd:RelV d d'):RelV (o.getD d) (u.getD d'):=by
 cases o with
 | none=>cases u with
  | none=>exact rd
  | some _=>exact (show False from r).elim
 | some _=>cases u with
  | none=>exact (show False from r).elim
  | some _=>exact r
theorem KV.val {kvs:List (κ×V)}{vs:List (κ×NT)}(r:KV kvs vs)(k:κ):RelO (c8 kvs k) (Uh vs k):=by
 unfold KV at r
 induction r with
 | nil=>exact PX
 | @cons p q ps qs h t ih=>
  obtain ⟨h1,h2⟩:=h
  by_cases e:p.1=k
  ·have e':q.1=k:=h1.symm.trans e
   have b:Uh (q::qs) k=some q.2:=by simp [Uh,OT,e']
   rw [w4 e,b];exact h2
  ·have e':¬ q.1=k:=fun z=>e (h1.trans z)
   have b:Uh (q::qs) k=Uh qs k:=by simp [Uh,OT,e']
   rw [w5 e,b];exact ih
theorem KV.any {kvs:List (κ×V)}{vs:List (κ×NT)}(r:KV kvs vs)(k:κ):(kvs.any fun kv=>decide (kv.1=k))=vs.any fun kv=>decide (kv.1=k):=by
 unfold KV at r
 induction r with
 | nil=>rfl
 | cons h t ih=>rw [RN,RN,ih,h.1]
theorem KV.keys {kvs:List (κ×V)}{vs:List (κ×NT)}(r:KV kvs vs):kvs.map (·.1)=vs.map (·.1):=by
 unfold KV at r
 induction r with
 | nil=>rfl
 | cons h t ih=>rw [N0,N0,ih,h.1]
theorem KV.length {kvs:List (κ×V)}{vs:List (κ×NT)}(r:KV kvs vs):kvs.length=vs.length:=TK r
end
noncomputable abbrev KT (H:Hp):List (List aW×V)->List (List aW×Addr×NT)->Prop:=RB fun p q=>p.1=q.1/\H q.2.1=some (.tup (p.1.map kV))/\RelV p.2 q.2.2
theorem KT.val {H:Hp}{kvs:List (List aW×V)}{xs:List (List aW×Addr×NT)}(r:KT H kvs xs)(k:List aW):RelO (c8 kvs k) ((Q1 xs k).map (·.2)):=by
 induction r with
 | nil=>exact PX
 | @cons p q ps qs h t ih=>
  obtain ⟨h1,_,h2⟩:=h
  by_cases e:p.1=k
  ·have e':q.1=k:=h1.symm.trans e
   have b:Q1 (q::qs) k=some q.2:=by simp [Q1,OT,e']
   rw [w4 e,b];exact h2
  ·have e':¬ q.1=k:=fun z=>e (h1.trans z)
   have b:Q1 (q::qs) k=Q1 qs k:=by simp [Q1,OT,e']
   rw [w5 e,b];exact ih
theorem KT.keeps {H H':Hp}{kvs:List (List aW×V)}{xs:List (List aW×Addr×NT)}(r:KT H kvs xs)(ht:∀ b ys,H b=some (.tup ys)->H' b=some (.tup ys)):KT H' kvs xs:=
 RB.mapP r fun _ _ z=>⟨z.1,ht _ _ z.2.1,z.2.2⟩
section
variable {P:Oo}{w:OO}{H:Hp}{h:O3}{a:Addr}
end
noncomputable def DGet (H:Hp)(a:Addr)(y:V)(r:Option V):Prop:=
 (∃ kvs k,Rd H a (.dK kvs)/\y=kV k/\r=c8 kvs k)\/∃ kvs k b,Rd H a (.dT kvs)/\y=.ref b/\H b=some (.tup (k.map kV))/\r=c8 kvs k
noncomputable def DPut (H:Hp)(a:Addr)(y v:V)(H':Hp):Prop:=
 (∃ kvs k,H a=some (.dK kvs)/\y=kV k/\kvs.length<N4/\H'=aI H a (.dK (oF kvs k v))) \/
 ∃ kvs k b,H a=some (.dT kvs)/\y=.ref b/\H b=some (.tup (k.map kV))/\kvs.length<N4/\H'=aI H a (.dT (oF kvs k v))
theorem DGet.k {H:Hp}{a:Addr}{kvs:List (aW×V)}{k:aW}(e:H a=some (.dK kvs)):DGet H a (kV k) (c8 kvs k):=.inl ⟨kvs,k,.inl e,rfl,rfl⟩
theorem DGet.t {H:Hp}{a b:Addr}{kvs:List (List aW×V)}{k:List aW}(e:H a=some (.dT kvs))(eb:H b=some (.tup (k.map kV))):DGet H a (.ref b) (c8 kvs k):=.inr ⟨kvs,k,b,.inl e,rfl,eb,rfl⟩
theorem DPut.k {H:Hp}{a:Addr}{kvs:List (aW×V)}{k:aW}{v:V}(e:H a=some (.dK kvs))(hl:kvs.length<N4):DPut H a (kV k) v (aI H a (.dK (oF kvs k v))):=.inl ⟨kvs,k,e,rfl,hl,rfl⟩
theorem DPut.t {H:Hp}{a b:Addr}{kvs:List (List aW×V)}{k:List aW}{v:V}(e:H a=some (.dT kvs))(eb:H b=some (.tup (k.map kV)))(hl:kvs.length<N4) :
  DPut H a (.ref b) v (aI H a (.dT (oF kvs k v))):=.inr ⟨kvs,k,b,e,rfl,eb,hl,rfl⟩
section
variable {X:Cx}{XB:List (Addr×Pu)}{σ:St}{H:Hp}{s:NV}{a:Addr}{y v:V}{u r:NT}{o:Option V}{A:OG}{E:NT->NV->Prop}
theorem Inv.big (I:Inv X XB σ H s):OY<s.heap.objs.size:=by
 have h:Pk<s.heap.objs.size:=(I.mod.glob.keeps I.bk).lt
 exact SV (by decide) h
theorem oG {h':O3}{t':Nat}{ob:HO}(I:Inv X XB σ H s)(mu:mI (H a))(hs:Qk a s.heap h')(he:∃ q,h'.get? a=some q)(new:ObjOk X.prog X.w (aI H a ob) h' a ob) :
  Inv X XB σ (aI H a ob) { s with heap:=h',toks:=t' }:=
 I.write (x:=a) (e:=a) mu (.inl rfl) (fun b q hb z=>(hs.2 b hb).trans z) he new
end
section
variable {X:Cx}{XB:List (Addr×Pu)}{σ:St}{H:Hp}{s:NV}{a:Addr}{kvs:List (aW×V)}{k:aW}{u:NT}{A:OG}{E:NT->NV->Prop}
end
noncomputable def w6 (i:N2):Prop:=∀ ov iv,TY i false ov iv=operate [ov,iv] (Ui ov iv)
theorem Ex {prog:Oo}{w:OO}{A:OG}{E:NT->NV->Prop}{s:NV}{env:SI}{value slice:N2}{pos:Py}{T id:String}{Q:NT->NV->Prop}
  (hl:Um (.type T) "__getitem__" = pure (some (.builtin id))) (hs:w6 slice)
  (h:Oi (Ot prog w) A (eval value env) (fun o s₁=>Oi (Ot prog w) A (eval slice env) (fun i s₂=>s₂.TypeIs o T/\Oi (Ot prog w) A (Ui o i) Q E s₂) E s₁) E s) :
  Oi (Ot prog w) A (eval (.Subscript value slice pos) env) Q E s:=by
 refine Uu (OZ h (fun o s₁ h₁=>OZ h₁ (fun i s₂ h₂=>?_) fun _ _ x=>x) fun _ _ x=>x)
 obtain ⟨hT,h₂⟩:=h₂
 unfold S1
 refine NQ ?_
 rw [getitemInPython_of_ne hT.not_modules]
 refine NQ (Ra hT hl ?_)
 have aS:Oi (Ot prog w) A (TY slice false o i) (fun r s₃=>Oi (Ot prog w) A (letTemporaryGo value o r >>= fun _=>pure r) Q E s₃) E s₂:=by
  rw [hs o i]
  exact wpAny_operating (OZ h₂ (fun r s₃ h₃=>NQ (wpAny_letTemporaryGo (N1 h₃))) fun _ _ x=>x)
 first
  | exact N1 (NQ aS)
  | exact NQ (N1 (NQ aS))
  | exact NQ aS
section
variable {X:Cx}{o i e value:N2}{pos pos' tpos:Py}{td ty tv:TE}
end
section
variable {X:Cx}{pos:Py}
end
noncomputable def w8:List (TE×TE)->St->Hp->(List (V×V)->Hp->Prop)->Prop
 | [],_,H,Q=>Q [] H
 | (tk,tv)::r,σ,H,Q=>tk σ H fun x H1=>tv σ H1 fun y H2=>w8 r σ H2 fun ps H3=>Q ((x,y)::ps) H3
noncomputable abbrev VV:List (V×V)->List (NT×NT)->Prop:=RB fun p q=>RelV p.1 q.1/\RelV p.2 q.2
noncomputable def Ey (X:Cx)(pos:Py)(keys:List (Option N2))(values:List N2)(trs:List (TE×TE)):Prop:=
 ∀ (XB:List (Addr×Pu))(s:NV)(σ:St)(H:Hp)(Q:List (V×V)->Hp->Prop),Inv X XB σ H s->w8 trs σ H Q->
  Oi (Ot X.prog X.w) X.A (evalPairs (pairTrees keys values X.env pos)) (fun vs s'=>∃ ps H',Inv X XB σ H' s'/\VV ps vs/\Q ps H') X.xe s
structure M1 (X:Cx)(o:N2)(m:Str)(apos:Py)(e:N2)(cpos:Py):Prop where
 base:Q7 o m X.env (eval o X.env)=eval o X.env
 few:((Qg cpos (OF [e] X.env)).all (fun x=>!x.1)&&(Us cpos (SD [] X.env)).all (fun x=>x.1.isSome)
  && decide (([e]:List N2).length+([]:List QY).length+(if ([]:List QY).isEmpty then 0 else 1)<30))=true
 line:(apos.endLine == cpos.line)=true
 trees:Qg cpos (OF [e] X.env)=[(false,eval e X.env)]
structure M2 (X:Cx)(o:N2)(m:Str)(apos:Py)(e f:N2)(cpos:Py):Prop where
 base:Q7 o m X.env (eval o X.env)=eval o X.env
 few:((Qg cpos (OF [e,f] X.env)).all (fun x=>!x.1)&&(Us cpos (SD [] X.env)).all (fun x=>x.1.isSome)
  && decide (([e,f]:List N2).length+([]:List QY).length+(if ([]:List QY).isEmpty then 0 else 1)<30))=true
 line:(apos.endLine == cpos.line)=true
 trees:Qg cpos (OF [e,f] X.env)=[(false,eval e X.env),(false,eval f X.env)]
noncomputable def IsD (H:Hp)(a:Addr):Prop:=(∃ kvs,Rd H a (.dK kvs))\/∃ kvs,Rd H a (.dT kvs)
section
variable {X:Cx}{XB:List (Addr×Pu)}{σ:St}{H:Hp}{s:NV}{a:Addr}{y d:V}{u r:NT}{o:Option V}{A:OG}{E:NT->NV->Prop}
end
section
variable {X:Cx}{o e f:N2}{apos cpos:Py}{td ty tx:TE}
end
section
variable {X:Cx}{XB:List (Addr×Pu)}{σ:St}{H:Hp}{s:NV}{a:Addr}{kvs:List (aW×V)}{A:OG}{E:NT->NV->Prop}
end
section
variable {X:Cx}{XB:List (Addr×Pu)}{σ:St}{H:Hp}{s:NV}{a:Addr}{y:V}{u:NT}{A:OG}{E:NT->NV->Prop}
end
end L2
namespace HT
open PySem PyProof.Rows
noncomputable def lexLt:List Int->List Int->Bool
 | [],[]=>false
 | [],_::_=>true
 | _::_,[]=>false
 | x::xs,y::ys=>if x=y then lexLt xs ys else decide (x<y)
theorem lexLt_cons (x y:Int)(xs ys:List Int):lexLt (x::xs) (y::ys)=if x=y then lexLt xs ys else decide (x<y):=rfl
section
open PySem.SeqAt
open PySem.AutoSeq1 (wpAny_loadPart')
open PySem.MeetsSeq PySem.MeetsSeq2 PySem.MeetsSeq3
end
section
variable {prog:Oo}{w:OO}{A:OG}{E:NT->NV->Prop}{s:NV}
theorem cat_tup {t b:Addr}{vs ws:List NT}{Q:NT->NV->Prop}(ht:Xz s.heap t vs.toArray)(hb:Xz s.heap b ws.toArray)(hv:vs≠[])
  (h1:ws=[]->Q (.ref t) s)(h2:ws≠[]->Q (.ref s.heap.objs.size) { s with heap:=s.heap.push { cls:=.type "tuple",data:=.seq (vs++ws).toArray } })
  (hsz:vs.length+ws.length<=N4):Oi (Ot prog w) A (Qm .Add (.ref t) (.ref b)) Q E s:=by
 obtain ⟨⟨cls,dd,data,sl⟩,ho,hc,n,hd⟩:=id ht
 obtain ⟨⟨cls2,dd2,data2,sl2⟩,ho2,hc2,n2,hd2⟩:=id hb
 simp only at hc hd hc2 hd2
 subst hc hd hc2 hd2
 have e:vs.toArray++ws.toArray=(vs++ws).toArray:=by simp
 by_cases hw:ws=[]
 ·exact concat_meets ⟨_,ho,rfl⟩ ⟨_,ho2,rfl⟩ WD seq_tuple_add TV TJ (Tw _ _)
   (tuple_addW1 t b vs.toArray ws.toArray n n2 dd dd2 sl sl2 (by simpa using hv) (by simp [hw])) ⟨ho,ho2,h1 hw⟩
 ·refine concat_meets ⟨_,ho,rfl⟩ ⟨_,ho2,rfl⟩ WD seq_tuple_add TV TJ (Tw _ _)
   (tuple_addW2 t b vs.toArray ws.toArray n n2 dd dd2 sl sl2 (by simpa using hv) (by simpa using hw) (by rw [N8,N8];exact hsz)) ⟨ho,ho2,?_⟩
  rw [e]
  exact h2 hw
noncomputable def sIx (n d:Nat):Option Int->Nat
 | none=>d
 | some v=>if v<0 then (v+(n:Int)).toNat else min v.toNat n
theorem sIx_none (n d:Nat):sIx n d none=d:=rfl
end
end HT
namespace L2
open PySem PySem.Spec PyProof.Rows
noncomputable abbrev TO:=St->Hp->(Option Int->Hp->Prop)->Prop
noncomputable def PO (X:Cx)(e:Option N2)(t:TO):Prop:=
 ∀ (XB:List (Addr×Pu))(s:NV)(σ:St)(H:Hp)(Q:Option Int->Hp->Prop),Inv X XB σ H s->t σ H Q->
  Oi (Ot X.prog X.w) X.A (evalPart e X.env) (fun u s'=>∃ o H',Inv X XB σ H' s'/\IsPart u o/\Q o H') X.xe s
noncomputable def Ez:TO:=fun _ H Q=>Q none H
noncomputable def EA (t:TE):TO:=fun σ H Q=>t σ H fun x H1=>∃ i,x=.int i/\Q (some i) H1
theorem qU {ns:List Int}:∀ {us:List NT},Vals (ns.map V.int) us->RK us ns:=by
 induction ns with
 | nil=>intro us r;rw [QF] at r;cases r;exact .nil
 | cons n ns ih=>
  intro us r
  rw [N0] at r
  cases r with
  | cons r1 r2=>
   obtain ⟨t,e⟩:=r1
   subst e
   exact .cons n t (ih r2)
section
variable {X:Cx}{e:N2}{te:TE}{lo hi:Option N2}{tl th:TO}{pos p2:Py}
theorem EB:PO X none Ez:=by
 intro XB s σ H Q I h
 rw [evalPart_none]
 exact N1 ⟨none,H,I,.none,h⟩
theorem EC (h:PE X e te):PO X (some e) (EA te):=by
 intro XB s σ H Q I hw
 rw [evalPart_some]
 refine aT (h XB s σ H _ I hw) fun u s1 ⟨x,H1,I1,r1,q1⟩=>?_
 obtain ⟨i,rfl,q⟩:=q1
 obtain ⟨t,rfl⟩:=r1
 exact ⟨some i,H1,I1,.int i t,q⟩
noncomputable def SlR (X:Cx)(r:V->Option Int->Option Int->Hp->VK->Prop):Prop:=
 ∀ (XB:List (Addr×Pu))(s:NV)(σ:St)(H:Hp)(x:V)(v vl vu:NT)(lo hi:Option Int)(sl:Addr)(Q:VK),Inv X XB σ H s->RelV x v->s.heap.IsSliceOf sl vl vu .none->IsPart vl lo->IsPart vu hi->r x lo hi H Q->
  ∃ T id,Um (.type T) "__getitem__" = pure (some (.builtin id))/\s.TypeIs v T/\Oi (Ot X.prog X.w) X.A (Ui v (.ref sl)) (EP X XB σ Q) X.xe s
theorem SlR.or {r r':V->Option Int->Option Int->Hp->VK->Prop}(h:SlR X r)(h':SlR X r'):SlR X (fun x lo hi H Q=>r x lo hi H Q\/r' x lo hi H Q):=by
 intro XB s σ H x v vl vu lo hi sl Q I rx hs pl pu q
 rcases q with q|q
 ·exact h XB s σ H x v vl vu lo hi sl Q I rx hs pl pu q
 ·exact h' XB s σ H x v vl vu lo hi sl Q I rx hs pl pu q
noncomputable def ED (r:V->Option Int->Option Int->Hp->VK->Prop)(te:TE)(tl th:TO):TE:=fun σ H Q=>te σ H fun x H1=>tl σ H1 fun l H2=>th σ H2 fun u H3=>r x l u H3 Q
theorem EE {r:V->Option Int->Option Int->Hp->VK->Prop}(hr:SlR X r)(he:PE X e te)(hl:PO X lo tl)(hu:PO X hi th):PE X (.Subscript e (.Slice lo hi none p2) pos) (ED r te tl th):=by
 intro XB s σ H Q I h
 refine Uu (aT (he XB s σ H _ I h) fun v s1 ⟨x,H1,I1,r1,q1⟩=>?_)
 refine wpAny_Slice (aT (hl XB s1 σ H1 _ I1 q1) fun vl s2 ⟨l,H2,I2,pl,q2⟩=>aT (hu XB s2 σ H2 _ I2 q2) fun vu s3 ⟨u,H3,I3,pu,q3⟩=>?_)
 rw [evalPart_none]
 refine N1 ?_
 have I4:Inv X XB σ H3 { s3 with heap:=s3.heap.push { cls:=.type "slice",data:=.fields #[vl,vu,.none] } }:=I3.kept (t':=s3.toks) fun b ob q=>NW _ q
 obtain ⟨T,id,hT,ht,hg⟩:=hr XB { s3 with heap:=s3.heap.push { cls:=.type "slice",data:=.fields #[vl,vu,.none] } } σ H3 x v vl vu l u s3.heap.objs.size Q I4 r1 (Ti ..) pl pu q3
 show Oi (Ot X.prog X.w) X.A (S1 e (.Slice lo hi none p2) v (.ref s3.heap.objs.size)) (EP X XB σ Q) X.xe { s3 with heap:=s3.heap.push { cls:=.type "slice",data:=.fields #[vl,vu,.none] } }
 exact Xr (ops:=[.ref s3.heap.objs.size,v]) ht hT hg (by with_unfolding_all rfl)
noncomputable def iK (xs:List V)(lo hi:Option Int):List V:=(xs.drop (HT.sIx xs.length 0 lo)).take (HT.sIx xs.length xs.length hi - HT.sIx xs.length 0 lo)
theorem EF (xs:List V)(lo hi:Option Int):(iK xs lo hi).length<=xs.length:=by
 unfold iK
 rw [OP,QH]
 omega
noncomputable def w9 (K:NO):R2:=fun x y H Q=>∃ a b xs ys,x=.ref a/\y=.ref b/\SqT K H a xs/\SqT K H b ys/\xs≠[]/\xs.length+ys.length<=N4 /\
 (ys=[]->Q (.ref a) H)/\(ys≠[]->∀ p,H p=none->Q (.ref p) (aI H p (.tup (xs++ys))))
theorem Vals.nil_iff {xs:List V}{us:List NT}(r:Vals xs us):us=[]↔xs=[]:=by
 cases r with
 | nil=>simp
 | cons _ _=>simp
theorem EG:OpR X (Qm .Add) (w9 X.K):=by
 intro XB s σ H x y v u Q I rx ry h
 obtain ⟨a,b,xs,ys,rfl,rfl,ha,hb,hx,hz,q1,q2⟩:=h
 cases rx
 cases ry
 obtain ⟨its,r1,p1,_⟩:=I.tuple ha
 obtain ⟨its2,r2,p2,_⟩:=I.tuple hb
 refine HT.cat_tup p1 p2 (fun z=>hx (r1.nil_iff.mp z)) (fun z=>⟨.ref a,H,I,rfl,q1 (r2.nil_iff.mp z)⟩) (fun z=>?_) (by rw [<- r1.length,<- r2.length];exact hz)
 refine ⟨.ref s.heap.objs.size,_,I.laid (t':=s.toks) (o:=.tup (xs++ys)) (fun b ob q=>NW _ q) (N3 _) ?_,rfl,q2 (fun w=>z (r2.nil_iff.mpr w)) _ (I.hok.fresh (N3 _))⟩
 exact ⟨by rw [Oa];exact hz,_,r1.append r2,TupN.new _ _⟩
end
end L2
namespace L2
open PySem PySem.Spec PyProof.Rows
noncomputable def dI (n:Nat)(i:Int):Option Nat:=if 0<=i then (if i<n then some i.toNat else none) else if -(n:Int)<=i then some (i+n).toNat else none
noncomputable def atI {α:Type}(xs:List α)(i:Int):Option α:=(dI xs.length i).bind fun j=>xs[j]?
theorem xA {n:Nat}{i:Int}{j:Nat}(h:dI n i=some j):seqIndex? i n=some j/\j<n/\-(n:Int)<=i/\i<n:=by
 unfold dI at h
 by_cases h0:0<=i
 ·rw [if_pos h0] at h
  by_cases h1:i<n
  ·rw [if_pos h1] at h
   have e:i.toNat=j:=Oj h
   exact ⟨by rw [VU h0 h1,e],by omega,by omega,h1⟩
  ·rw [if_neg h1] at h;cases h
 ·rw [if_neg h0] at h
  by_cases h1:-(n:Int)<=i
  ·rw [if_pos h1] at h
   have e:(i+n).toNat=j:=Oj h
   exact ⟨by rw [Ve (by omega) h1,e],by omega,h1,by omega⟩
  ·rw [if_neg h1] at h;cases h
theorem qV {α:Type}{xs:List α}{i:Int}{v:α}(h:atI xs i=some v):∃ j,seqIndex? i xs.length=some j/\xs[j]? = some v/\j<xs.length/\-(xs.length:Int)<=i/\i<xs.length:=by
 unfold atI at h
 cases e:dI xs.length i with
 | none=>rw [e] at h;cases h
 | some j=>
  rw [e] at h
  obtain ⟨h1,h2,h3,h4⟩:=xA e
  exact ⟨j,h1,h,h2,h3,h4⟩
noncomputable def qW (b:N2):Prop:=∀ o i,TY b false o i=operate [o,i] (Ui o i)
noncomputable def IxR (X:Cx)(r:R2):Prop:=
 ∀ (value slice:N2)(XB:List (Addr×Pu))(s:NV)(σ:St)(H:Hp)(x y:V)(v u:NT)(Q:VK),Inv X XB σ H s->RelV x v->RelV y u->r x y H Q->
  TY slice false v u=operate [v,u] (Ui v u)->Oi (Ot X.prog X.w) X.A (S1 value slice v u) (EP X XB σ Q) X.xe s
noncomputable def MtR (X:Cx)(id:String)(r:V->List V->Hp->VK->Prop):Prop:=
 ∀ (XB:List (Addr×Pu))(s:NV)(σ:St)(H:Hp)(x:V)(xs:List V)(v:NT)(us:List NT)(Q:VK),Inv X XB σ H s->RelV x v->Vals xs us->r x xs H Q->
  Oi (Ot X.prog X.w) X.A (call (.builtin id) (v::us)) (EP X XB σ Q) X.xe s
section
variable {X:Cx}{a b:N2}{ta tb:TE}{pos:Py}
theorem IxR.or {r r':R2}(h:IxR X r)(h':IxR X r'):IxR X (fun x y H Q=>r x y H Q\/r' x y H Q):=by
 intro value slice XB s σ H x y v u Q I rx ry q hs
 rcases q with q|q
 ·exact h value slice XB s σ H x y v u Q I rx ry q hs
 ·exact h' value slice XB s σ H x y v u Q I rx ry q hs
theorem MtR.or {id:String}{r r':V->List V->Hp->VK->Prop}(h:MtR X id r)(h':MtR X id r'):MtR X id (fun x xs H Q=>r x xs H Q\/r' x xs H Q):=by
 intro XB s σ H x xs v us Q I rx rs q
 rcases q with q|q
 ·exact h XB s σ H x xs v us Q I rx rs q
 ·exact h' XB s σ H x xs v us Q I rx rs q
theorem EH {r:R2}(hr:IxR X r)(ha:PE X a ta)(hb:PE X b tb)(hs:qW b):PE X (.Subscript a b pos) (mN r ta tb):=by
 intro XB s σ H Q I h
 exact Uu (qR ha hb I h fun v u s2 x y H2 I2 rx ry q=>hr a b XB s2 σ H2 x y v u Q I2 rx ry q (hs _ _))
noncomputable def xB (K:NO):R2:=fun x y H Q=>∃ p xs i v,x=.ref p/\y=.int i/\SqL K H p xs/\atI xs i=some v/\Q v H
noncomputable def xC (K:NO):R2:=fun x y H Q=>∃ p xs i v,x=.ref p/\y=.int i/\SqT K H p xs/\atI xs i=some v/\Q v H
noncomputable def xD:R2:=fun x y H Q=>∃ z i c,x=.str z/\y=.int i/\z.length<=N4/\atI z.cps.toList i=some c/\Q (.str ⟨#[c]⟩) H
theorem ix_list:IxR X (xB X.K):=by
 intro value slice XB s σ H x y v u Q I rx ry h hs
 obtain ⟨p,xs,i,z,rfl,rfl,hq,he,q⟩:=h
 cases rx
 obtain ⟨t,rfl⟩:=ry
 obtain ⟨its,r,pl,hz⟩:=I.list hq
 obtain ⟨j,h1,h2,h3,h4,h5⟩:=qV he
 obtain ⟨w,ew,rw'⟩:=r.get h2
 have hl:=r.length
 have hn:=jQ
 have aS:EP X XB σ Q w s:=⟨z,H,I,rw',q⟩
 by_cases h0:0<=i
 ·have hj:i.toNat=j:=by
   rw [VU h0 h5] at h1
   exact Oj h1
  exact item_listR pl.isList h0 (by omega) (by rw [hj];simpa using ew) aS hs
 ·have hj:(i+(its.toArray.size:Int)).toNat=j:=by
   rw [Ve (by omega) h4] at h1
   rw [N8,<- hl]
   exact Oj h1
  exact Vd (x:=w) pl.isList.typeIs Tq.lookup
   (wpAny_getItem_list_neg (Q:=fun r s'=>r=w/\EP X XB σ Q r s') pl.isList (by omega) (by rw [N8]<;>omega) (by omega) (by rw [hj];simpa using ew) ⟨rfl,aS⟩) hs
theorem ix_tup:IxR X (xC X.K):=by
 intro value slice XB s σ H x y v u Q I rx ry h hs
 obtain ⟨p,xs,i,z,rfl,rfl,hq,he,q⟩:=h
 cases rx
 obtain ⟨t,rfl⟩:=ry
 obtain ⟨its,r,pl,hz⟩:=I.tuple hq
 obtain ⟨j,h1,h2,h3,h4,h5⟩:=qV he
 obtain ⟨w,ew,rw'⟩:=r.get h2
 have hl:=r.length
 have hn:=jQ
 have aS:EP X XB σ Q w s:=⟨z,H,I,rw',q⟩
 exact Vd (x:=w) pl.typeIs slot_tuple_getitem.lookup
  (getItem_tuple (j:=j) (Q:=fun r s'=>r=w/\EP X XB σ Q r s') pl (by omega) (by omega) (by rw [N8,<- hl];exact h1) (by simpa using ew) ⟨rfl,aS⟩) hs
theorem EI:IxR X xD:=by
 intro value slice XB s σ H x y v u Q I rx ry h hs
 obtain ⟨z,i,c,rfl,rfl,hz,he,q⟩:=h
 obtain ⟨t,rfl⟩:=rx
 obtain ⟨t',rfl⟩:=ry
 obtain ⟨j,h1,h2,h3,h4,h5⟩:=qV he
 have hl:z.cps.toList.length=z.length:=by simp [Str.length]
 rw [hl] at h1 h4 h5
 have hn:=jQ
 exact Xr (typeIs_str s z t) slot_str_getitem.lookup (getItem_str (c:=c) (by
  have e1:decide (i < -(2 ^ 63:Int))=false:=decide_eq_false (by omega)
  have e2:decide (i >= 2 ^ 63)=false:=decide_eq_false (by omega)
  rw [e1,e2,Wo]) (by rw [h1];simpa using h2) ⟨.str ⟨#[c]⟩,H,I.tok _,⟨_,rfl⟩,q⟩) hs
noncomputable def xE (K:NO):R2:=fun x y H Q=>xB K x y H Q\/xC K x y H Q\/xD x y H Q
theorem EJ:IxR X (xE X.K):=ix_list.or (ix_tup.or EI)
theorem EK (its:List NT)(n j:Nat)(u:NT):Pb (·.setIfInBounds j u) { cls:=.type "list",data:=.seq its.toArray n } = { cls:=.type "list",data:=.seq (its.set j u).toArray n }:=by
 simp [Pb]
theorem Inv.lst {XB:List (Addr×Pu)}{σ:St}{H:Hp}{s:NV}{p:Addr}{xs:List V}(I:Inv X XB σ H s)(h:H p=some (.lst xs)) :
  ∃ (its:List NT)(n:Nat),Vals xs its/\s.heap.get? p=some { cls:=.type "list",data:=.seq its.toArray n }/\xs.length<=N4:=by
 obtain ⟨z,its,n,r,e⟩:=I.hok p _ h
 exact ⟨its,n,r,e,z⟩
theorem Inv.lstUpd {XB:List (Addr×Pu)}{σ:St}{H:Hp}{s:NV}{p:Addr}{xs ys:List V}{its its':List NT}{n n':Nat}{f:Pu->Pu}(I:Inv X XB σ H s)(h:H p=some (.lst xs))
  (ho:s.heap.get? p=some { cls:=.type "list",data:=.seq its.toArray n }) (hf:f { cls:=.type "list",data:=.seq its.toArray n } = { cls:=.type "list",data:=.seq its'.toArray n' }) (r:Vals ys its')(hz:ys.length<=N4)(t:Nat) :
  Inv X XB σ (aI H p (.lst ys)) { s with heap:=s.heap.update p f,toks:=t }:=by
 have e:(s.heap.update p f).get? p=some { cls:=.type "list",data:=.seq its'.toArray n' }:=by
  rw [Px f ho (by rw [hf]<;>rfl),hf]
 refine I.write (x:=p) (e:=p) (by rw [h];trivial) (.inl rfl) (fun b u hb q=>(Qj _ _ (OB hb)).trans q) ⟨_,e⟩ ?_
 exact ⟨hz,its',n',r,e⟩
noncomputable def xF:V->V->V->Hp->(Hp->Prop)->Prop:=fun o i v H Q=>∃ p xs k j,o=.ref p/\i=.int k/\H p=some (.lst xs)/\dI xs.length k=some j/\Q (aI H p (.lst (xs.set j v)))
theorem EL:DL X xF:=by
 intro XB s σ H o i v ov iv u Q I ro ri rv h
 obtain ⟨p,xs,k,j,rfl,rfl,hp,hj,q⟩:=h
 cases ro
 obtain ⟨t,rfl⟩:=ri
 obtain ⟨its,n,r,ho,hz⟩:=I.lst hp
 obtain ⟨h1,h2,h3,h4⟩:=xA hj
 have hl:=r.length
 have hn:=jQ
 have I':Inv X XB σ (aI H p (.lst (xs.set j v))) { s with heap:=s.heap.update p (Pb (·.setIfInBounds j u)) }:=
  I.lstUpd hp ho (EK its n j u) (r.set rv j) (by rw [Ou];exact hz) s.toks
 by_cases h0:0<=k
 ·have hk:k.toNat=j:=by
   rw [VU h0 h4] at h1
   exact Oj h1
  exact PySem.W.ki_setAt ho h0 (by omega) (by rw [N8,<- hl];exact h4) (by rw [hk];exact ⟨_,I',q⟩)
 ·have hk:(k+(its.toArray.size:Int)).toNat=j:=by
   rw [Ve (by omega) h3] at h1
   rw [N8,<- hl]
   exact Oj h1
  exact PySem.W.ki_setBack ho (by omega) (by rw [N8,<- hl];exact h3) (by omega) (by rw [hk];exact ⟨_,I',q⟩)
theorem EM (lo hi:Option Int)(n:Nat):(PN lo hi none n).1=((HT.sIx n 0 lo:Nat):Int)/\(PN lo hi none n).2.1=((HT.sIx n n hi:Nat):Int)/\(PN lo hi none n).2.2=1:=by
 refine ⟨?_,?_,rfl⟩
 ·cases lo with
  | none=>simp [PN,HT.sIx]
  | some i=>
   simp only [PN,HT.sIx,U6,show (1:Int)>0 by decide,if_true]
   by_cases h:i<0
   ·simp only [h,if_true]<;>omega
   ·simp only [h,if_false]<;>omega
 ·cases hi with
  | none=>simp [PN,HT.sIx]
  | some i=>
   simp only [PN,HT.sIx,U6,show (1:Int)>0 by decide,if_true]
   by_cases h:i<0
   ·simp only [h,if_true]<;>omega
   ·simp only [h,if_false]<;>omega
theorem EO (its:List NT)(lo hi:Option Int):U1 its.toArray lo hi none=((its.drop (HT.sIx its.length 0 lo)).take (HT.sIx its.length its.length hi - HT.sIx its.length 0 lo)).toArray:=by
 obtain ⟨h1,h2,h3⟩:=EM lo hi its.toArray.size
 unfold U1
 rw [h1,h2,h3]
 simp only [sliceRange_one,pick_run,N8]<;>rfl
noncomputable def qX (K:NO):V->Option Int->Option Int->Hp->VK->Prop:=fun x lo hi H Q=>∃ a xs,x=.ref a/\SqL K H a xs/\∀ p,H p=none->Q (.ref p) (aI H p (.lst (iK xs lo hi)))
theorem ER:SlR X (qX X.K):=by
 intro XB s σ H x v vl vu lo hi sl Q I rx hs pl pu h
 obtain ⟨a,xs,rfl,hx,q⟩:=h
 cases rx
 obtain ⟨its,r,ht,hz⟩:=I.list hx
 have hlen:=r.length
 refine ⟨"list",_,Tq.lookup,ht.isList.typeIs,?_⟩
 refine UR ht.isList hs pl pu .none (by simp) ?_ (by rw [N8]<;>omega)
 rw [EO,<- hlen]
 refine ⟨.ref s.heap.objs.size,_,I.laid (t':=s.toks) (o:=.lst (iK xs lo hi)) (fun b ob q=>NW _ q) (N3 _) ?_,rfl,q _ (I.hok.fresh (N3 _))⟩
 exact ⟨OU (EF xs lo hi) hz,_,0,(r.drop (HT.sIx xs.length 0 lo)).take (HT.sIx xs.length xs.length hi - HT.sIx xs.length 0 lo),Of _ rfl⟩
theorem xG:OpR X (Pe .NotIn) (fun x y H Q=>∃ i j,x=.str i/\y=.str j/\Q (.bl (!(!(O7 j i 0 j.length 1).isEmpty))) H):=by
 intro XB s σ H x y v u Q I rx ry h
 obtain ⟨i,j,rfl,rfl,q⟩:=h
 obtain ⟨t,rfl⟩:=rx
 obtain ⟨t',rfl⟩:=ry
 exact notIn_str ⟨.bl _,H,I,rfl,q⟩
theorem call_len_seq:CallR X (.builtin "len") (fun xs H Q=>∃ p ys,xs=[.ref p]/\(SqL X.K H p ys\/SqT X.K H p ys)/\Q (.int ys.length) H):=by
 intro XB s σ H xs us Q I r h
 obtain ⟨p,ys,rfl,hq,q⟩:=h
 obtain ⟨u,rfl,rx⟩:=e6 r
 cases rx
 have hn:=jQ
 rcases hq with hq|hq
 ·obtain ⟨its,r',pl,hz⟩:=I.list hq
  have hlen:=r'.length
  exact Calls.call_len_list pl.isList (by simp only [N8]<;>omega) ⟨.int ys.length,H,I.tok _,⟨s.toks+1,by rw [N8,hlen]⟩,q⟩
 ·obtain ⟨its,r',pl,hz⟩:=I.tuple hq
  have hlen:=r'.length
  exact len_tuple pl (by simp only [N8]<;>omega) ⟨.int ys.length,H,I.tok _,⟨s.toks+1,by rw [N8,hlen]⟩,q⟩
theorem ES:CallR X (.builtin "len") (fun xs H Q=>∃ z,xs=[.str z]/\z.length<=N4/\Q (.int z.length) H):=by
 intro XB s σ H xs us Q I r h
 obtain ⟨z,rfl,hz,q⟩:=h
 obtain ⟨u,rfl,t,rfl⟩:=e6 r
 have hn:=jQ
 exact len_str (by omega) ⟨.int z.length,H,I.tok _,⟨_,rfl⟩,q⟩
theorem CallR.or {f:NT}{r r':List V->Hp->VK->Prop}(h:CallR X f r)(h':CallR X f r'):CallR X f (fun xs H Q=>r xs H Q\/r' xs H Q):=by
 intro XB s σ H xs us Q I rs q
 rcases q with q|q
 ·exact h XB s σ H xs us Q I rs q
 ·exact h' XB s σ H xs us Q I rs q
theorem call_list_of:CallR X (.type "list") (fun xs H Q=>∃ p ys,xs=[.ref p]/\(SqL X.K H p ys\/SqT X.K H p ys)/\∀ l,H l=none->Q (.ref l) (aI H l (.lst ys))):=by
 intro XB s σ H xs us Q I r h
 obtain ⟨p,ys,rfl,hq,q⟩:=h
 obtain ⟨u,rfl,rx⟩:=e6 r
 cases rx
 have aS:∀ (its:List NT),Vals ys its->ys.length<=N4->∀ (h':O3)(c':Nat),(∀ b o',s.heap.get? b=some o'->h'.get? b=some o')->
   h'.get? s.heap.objs.size=some { cls:=.type "list",dict:=none,data:=.seq its.toArray c',slots:=#[] }->EP X XB σ Q (.ref s.heap.objs.size) { s with heap:=h' }:=fun its r' hz h' c' kp e=>
  ⟨.ref s.heap.objs.size,_,I.laid (t':=s.toks) kp (N3 _) (show ObjOk X.prog X.w _ h' _ (.lst ys) from ⟨hz,its,c',r',e⟩),rfl,q _ (I.hok.fresh (N3 _))⟩
 rcases hq with hq|hq
 ·obtain ⟨its,r',pl,hz⟩:=I.list hq
  have hlen:=r'.length
  obtain ⟨o,ho,hc,n,hd⟩:=pl.isList
  exact call_list_seq p (.inl rfl) ho hc hd (fun h' c' kp e=>aS its r' hz h' c' kp e) (by simp only [N8]<;>omega)
 ·obtain ⟨its,r',pl,hz⟩:=I.tuple hq
  have hlen:=r'.length
  obtain ⟨o,ho,hc,n,hd⟩:=pl
  exact call_list_seq p (.inr rfl) ho hc hd (fun h' c' kp e=>aS its r' hz h' c' kp e) (by simp only [N8]<;>omega)
noncomputable def oH (K:NO)(T:String)(x:V)(H:Hp):Prop:=match x with
 | .str _=>T = "str"
 | .int _=>T = "int"
 | .ref p=>(T = "list"/\∃ xs,SqL K H p xs)\/(T = "tuple"/\∃ o,K.lookup p=some o/\o.cls=.type "tuple"/\o.dict=none) \/
   (T = "dict"/\((∃ kvs,H p=some (.dK kvs))\/∃ kvs,H p=some (.dT kvs)))\/(T = "set"/\∃ S n,H p=some (.set S n))
 | _=>False
theorem xH {XB:List (Addr×Pu)}{σ:St}{H:Hp}{s:NV}{T:String}{x:V}{v:NT}(I:Inv X XB σ H s)(r:RelV x v)(ty:oH X.K T x H) :
  s.TypeIs v T/\∀ a,v=.ref a->∃ ob,s.heap.get? a=some ob/\ob.dict=none:=by
 cases x with
 | str z=>
  obtain ⟨t,rfl⟩:=r
  cases (show T = "str" from ty)
  exact ⟨typeIs_str s z t,fun _ e=>nomatch e⟩
 | int i=>
  obtain ⟨t,rfl⟩:=r
  cases (show T = "int" from ty)
  exact ⟨typeIs_int s i t,fun _ e=>nomatch e⟩
 | ref p=>
  cases r
  rcases ty with ⟨rfl,xs,hq⟩|⟨rfl,o,hk,hc,hd⟩|⟨rfl,hk⟩|⟨rfl,S,n,hk⟩
  ·obtain ⟨its,_,pl,_⟩:=I.list hq
   refine ⟨pl.isList.typeIs,fun a e=>?_⟩
   cases e
   obtain ⟨o,n,e,c,hd,_⟩:=pl
   exact ⟨o,e,hd⟩
  ·refine ⟨⟨o,I.kIn p o hk,hc⟩,fun a e=>?_⟩
   cases e
   exact ⟨o,I.kIn _ o hk,hd⟩
  ·have z:∃ o,s.heap.get? p=some o/\o.ExactDict:=by
    rcases hk with ⟨kvs,hk⟩|⟨kvs,hk⟩
    ·obtain ⟨_,_,_,_,o,_,_,e,ex,_⟩:=I.hok p _ hk
     exact ⟨o,e,ex⟩
    ·obtain ⟨_,_,_,_,o,_,_,e,ex,_⟩:=I.hok p _ hk
     exact ⟨o,e,ex⟩
   obtain ⟨o,e,ex⟩:=z
   refine ⟨⟨o,e,ex.1⟩,fun a e2=>?_⟩
   cases e2
   exact ⟨o,e,ex.2.1⟩
  ·obtain ⟨o,_,_,_,e,ex,_⟩:=I.hok p _ hk
   refine ⟨⟨o,e,ex.1⟩,fun a e2=>?_⟩
   cases e2
   exact ⟨o,e,ex.2.1⟩
 | _=>exact PM ty
noncomputable def xI (K:NO)(T:String)(r:V->List V->Hp->VK->Prop)(to:TE):TE:=fun σ H Q=>to σ H fun x H1=>oH K T x H1/\r x [] H1 Q
noncomputable def xJ (K:NO)(T:String)(r:V->List V->Hp->VK->Prop)(to:TE)(t:TA):TE:=fun σ H Q=>to σ H fun x H1=>oH K T x H1/\t σ H1 fun xs H2=>r x xs H2 Q
variable {o e:N2}{es:List N2}{to:TE}{t:TA}{name:Str}{apos cpos:Py}{T id:String}{r:V->List V->Hp->VK->Prop}
theorem ET (pa:PlainAttrs T)(slot:WG T name id)(hty:TQ (.builtin id)=pure (.type "method_descriptor")) (hm:MtR X id r)(ho:PE X o to)
  (hbase:Q7 o name X.env (eval o X.env)=eval o X.env:=by rfl)(hline:(apos.endLine == cpos.line)=true:=by rfl):PE X (.Call (.Attribute o name apos) [] [] cpos) (xI X.K T r to):=by
 intro XB s σ H Q I h
 refine U0 hbase hline (aT (ho XB s σ H _ I h) fun v s1 ⟨x,H1,I1,r1,ty,q1⟩=>?_)
 obtain ⟨h1,h2⟩:=xH I1 r1 ty
 exact ⟨T,id,pa,slot,hty,h1,h2,Q9 rfl (UE (hm XB s1 σ H1 x [] v [] Q I1 r1 .nil q1))⟩
theorem EU (pa:PlainAttrs T)(slot:WG T name id)(hty:TQ (.builtin id)=pure (.type "method_descriptor")) (hm:MtR X id r)(ho:PE X o to)(ha:PA X (e::es) t)
  (hbase:Q7 o name X.env (eval o X.env)=eval o X.env:=by rfl)
  (hfew:((Qg cpos (OF (e::es) X.env)).all (fun x=>!x.1)&&(Us cpos (SD [] X.env)).all (fun x=>x.1.isSome)
   && decide ((e::es).length+([]:List QY).length+(if ([]:List QY).isEmpty then 0 else 1)<30))=true:=by rfl)
  (hline:(apos.endLine == cpos.line)=true:=by rfl)(hs:OF (e::es) X.env=(false,eval e X.env)::OF es X.env:=by rfl)(hplain:(Qg cpos (OF es X.env)).any (·.1)=false:=by rfl) :
  PE X (.Call (.Attribute o name apos) (e::es) [] cpos) (xJ X.K T r to t):=by
 intro XB s σ H Q I h
 refine Vb hbase hfew hline rfl (aT (ho XB s σ H _ I h) fun v s1 ⟨x,H1,I1,r1,ty,q1⟩=>?_)
 obtain ⟨h1,h2⟩:=xH I1 r1 ty
 refine ⟨T,id,pa,slot,hty,h1,h2,?_⟩
 have hA:=ha cpos XB s1 σ H1 _ I1 q1
 rw [hs] at hA ⊢
 refine Q9 (by show (false||(Qg cpos (OF es X.env)).any (·.1))=false;rw [hplain]<;>rfl) (UC ?_)
 exact aT hA fun us s2 ⟨vs,H2,I2,r2,q2⟩=>hm XB s2 σ H2 x vs v us Q I2 r1 r2 q2
end
end L2
namespace L2
open PySem PySem.Spec PyProof.Rows
noncomputable def dJ (X:Cx)(id:String)(r:V->List V->Hp->VK->Prop):Prop:=
 ∀ (XB:List (Addr×Pu))(s:NV)(σ:St)(H:Hp)(x:V)(xs:List V)(v:NT)(us:List NT)(Q:VK),Inv X XB σ H s->RelV x v->Vals xs us->r x xs H Q->
  Oi (Ot X.prog X.w) X.A (call (.builtin id) (v::us)) (EP X XB σ Q) X.xe s
theorem Vals.one:∀ {x:V}{us:List NT},Vals [x] us->∃ u,us=[u]/\RelV x u
 | _,_,.cons r .nil=>⟨_,rfl,r⟩
theorem Vals.two:∀ {x y:V}{us:List NT},Vals [x,y] us->∃ u v,us=[u,v]/\RelV x u/\RelV y v
 | _,_,_,.cons r (.cons q .nil)=>⟨_,_,rfl,r,q⟩
theorem Vals.zero:∀ {us:List NT},Vals [] us->us=[]
 | _,.nil=>rfl
theorem Vals.dropLast {xs:List V}{us:List NT}(h:Vals xs us):Vals xs.dropLast us.dropLast:=by
 induction h with
 | nil=>exact .nil
 | cons r t ih=>
  cases t with
  | nil=>exact .nil
  | cons q t'=>exact .cons r ih
theorem Vals.reverse {xs:List V}{us:List NT}(h:Vals xs us):Vals xs.reverse us.reverse:=by
 induction h with
 | nil=>exact .nil
 | cons r t ih=>rw [Qv,Qv];exact Vals.append ih (.cons r .nil)
theorem EV {α:Type}(l:List α):l.eraseIdx (l.length - 1)=l.dropLast:=by
 induction l with
 | nil=>rfl
 | cons a r ih=>
  cases r with
  | nil=>rfl
  | cons b r=>
   have e:(a::b::r).length - 1=((b::r).length - 1)+1:=by
    have h1:(a::b::r).length=r.length+2:=rfl
    have h2:(b::r).length=r.length+1:=rfl
    omega
   rw [e,Q5,ih]
   all_goals rfl
section
variable {X:Cx}{XB:List (Addr×Pu)}{σ:St}{H:Hp}{s:NV}{l b:Addr}{xs ys zs:List V}
theorem Inv.lset {its its':List NT}{n:Nat}{f:Array NT->Array NT}{t':Nat}(I:Inv X XB σ H s)(hH:H l=some (.lst xs))
  (e:s.heap.get? l=some { cls:=.type "list",data:=.seq its.toArray n }) (hf:f its.toArray=its'.toArray)(hv:Vals ys its')(hz:ys.length<=N4) :
  Inv X XB σ (aI H l (.lst ys)) { s with heap:=s.heap.update l (Pb f),toks:=t' }:=by
 have q:=PySem.IsL.update e f
 rw [hf] at q
 refine I.write (x:=l) (e:=l) (by rw [hH];exact trivial) (.inl rfl) (fun b' u hb hu=>(Qj s.heap (Pb f) (OB hb)).trans hu) ⟨_,q⟩ ?_
 exact ⟨hz,its',_,hv,q⟩
theorem Inv.lnew {its:List NT}{t':Nat}(I:Inv X XB σ H s)(hv:Vals ys its)(hz:ys.length<=N4) :
  Inv X XB σ (aI H s.heap.objs.size (.lst ys)) { s with heap:=s.heap.push { cls:=.type "list",data:=.seq its.toArray },toks:=t' }:=
 I.laid (fun _ _ q=>NW _ q) (N3 _) ⟨hz,its,0,hv,Of _ rfl⟩
theorem Inv.fresh (I:Inv X XB σ H s):H s.heap.objs.size=none:=I.hok.fresh (N3 _)
theorem Inv.lstM (I:Inv X XB σ H s)(hH:H l=some (.lst xs)):xs.length<=N4/\∃ (its:List NT)(n:Nat),Vals xs its/\xs.length=its.length/\s.heap.get? l=some { cls:=.type "list",data:=.seq its.toArray n }:=by
 obtain ⟨z,its,n,r,e⟩:=I.hok l _ hH
 exact ⟨z,its,n,r,r.length,e⟩
end
section
variable {X:Cx}
noncomputable def xK:V->List V->Hp->VK->Prop:=fun x vs H Q=>∃ l xs y,x=.ref l/\vs=[y]/\H l=some (.lst xs)/\xs.length<N4/\Q .non (aI H l (.lst (xs++[y])))
theorem xM:dJ X "list.append" xK:=by
 intro XB s σ H x vs v us Q I rx rv h
 obtain ⟨l,xs,y,rfl,rfl,hH,hz,q⟩:=h
 cases rx
 obtain ⟨u,rfl,ru⟩:=rv.one
 obtain ⟨z,its,n,r,hl,e⟩:=I.lstM hH
 refine S8 F.slot_list_append ⟨_,e,rfl⟩ F.entry_list_append (F.args_list_append_2 _ _) (PySem.list_append l its.toArray n u (by rw [N8];omega)) ⟨e,?_⟩
 refine ⟨.non,_,I.lset (its':=its++[u]) hH e (by simp) (r.append (.cons ru .nil)) ?_,rfl,q⟩
 rw [Oa,Ph]
 omega
noncomputable def xN:V->List V->Hp->VK->Prop:=fun x vs H Q=>∃ l xs y,x=.ref l/\vs=[]/\H l=some (.lst xs)/\xs[xs.length - 1]? = some y/\Q y (aI H l (.lst xs.dropLast))
theorem EW:dJ X "list.pop" xN:=by
 intro XB s σ H x vs v us Q I rx rv h
 obtain ⟨l,xs,y,rfl,rfl,hH,hy,q⟩:=h
 cases rx
 have hus:=rv.zero
 subst hus
 obtain ⟨z,its,n,r,hl,e⟩:=I.lstM hH
 obtain ⟨u,hu,ru⟩:=r.get hy
 have hy':its.toArray[its.toArray.size - 1]? = some u:=by
  show its.toArray[its.length - 1]? = some u
  rw [<- Pw,<- hl]
  exact hu
 refine S8 F.slot_list_pop ⟨_,e,rfl⟩ F.entry_list_pop (F.args_list_pop_1 _) (MeetsSeq.list_pop_last l its.toArray n u hy' (by rw [N8];omega)) ⟨e,?_⟩
 refine ⟨y,_,I.lset (its':=its.dropLast) hH e ?_ r.dropLast ?_,ru,q⟩
 ·show its.toArray.eraseIdxIfInBounds (its.toArray.size - 1)=its.dropLast.toArray
  rw [N8,List.eraseIdxIfInBounds_toArray,EV]
 ·rw [UN]
  omega
noncomputable def xO:V->List V->Hp->VK->Prop:=fun x vs H Q=>∃ l xs,x=.ref l/\vs=[]/\H l=some (.lst xs)/\Q .non (aI H l (.lst xs.reverse))
theorem EX:dJ X "list.reverse" xO:=by
 intro XB s σ H x vs v us Q I rx rv h
 obtain ⟨l,xs,rfl,rfl,hH,q⟩:=h
 cases rx
 have hus:=rv.zero
 subst hus
 obtain ⟨z,its,n,r,hl,e⟩:=I.lstM hH
 refine S8 F.slot_list_reverse ⟨_,e,rfl⟩ F.entry_list_reverse (F.args_list_reverse_1 _) (AutoSeq1.list_reverse_list_0 l its.toArray n (by rw [N8];omega)) ⟨e,?_⟩
 refine ⟨.non,_,I.lset (its':=its.reverse) hH e (by simp) r.reverse ?_,rfl,q⟩
 rw [QR]
 omega
noncomputable def xP:V->List V->Hp->VK->Prop:=fun x vs H Q=>∃ l xs,x=.ref l/\vs=[]/\H l=some (.lst xs)/\Q .non (aI H l (.lst []))
theorem EY:dJ X "list.clear" xP:=by
 intro XB s σ H x vs v us Q I rx rv h
 obtain ⟨l,xs,rfl,rfl,hH,q⟩:=h
 cases rx
 have hus:=rv.zero
 subst hus
 obtain ⟨z,its,n,r,hl,e⟩:=I.lstM hH
 refine S8 F.slot_list_clear ⟨_,e,rfl⟩ F.entry_list_clear (F.args_list_clear_1 _) (AutoSeq1.list_clear_list_0 l its.toArray n (by rw [N8];omega)) ⟨e,?_⟩
 exact ⟨.non,_,I.lset (its':=[]) (ys:=[]) hH e rfl .nil (OW _),rfl,q⟩
noncomputable def xQ:R2:=fun x y H Q=>∃ l b xs zs,x=.ref l/\y=.ref b/\H l=some (.lst xs)/\H b=some (.lst zs)/\xs.length+zs.length<=N4/\∀ p,H p=none->Q (.ref p) (aI H p (.lst (xs++zs)))
theorem EZ:OpR X (Qm .Add) xQ:=by
 intro XB s σ H x y v u Q I rx ry h
 obtain ⟨l,b,xs,zs,rfl,rfl,hH,hB,hz,q⟩:=h
 cases rx
 cases ry
 obtain ⟨z,its,n,r,hl,e⟩:=I.lstM hH
 obtain ⟨z2,its2,n2,r2,hl2,e2⟩:=I.lstM hB
 refine PySem.P.add_list e e2 ?_ (by rw [N8,N8];omega)
 have ea:its.toArray++its2.toArray=(its++its2).toArray:=by simp
 rw [ea]
 exact ⟨.ref _,_,I.lnew (t':=s.toks) (r.append r2) (by rw [Oa];omega),rfl,q _ I.fresh⟩
end
section
variable {prog:Oo}{w:OO}{A:OG}{E:NT->NV->Prop}{s:NV}
end
section
variable {X:Cx}
end
end L2
namespace Att
open PySem PySem.W PySem.Calls PyProof.Rows
theorem E4 {P:Params}{h:O3}:∀ (ns:List Int)(vs:List NT),WellAll P h vs (ns.map Rn)->RK vs ns:=by
 intro ns
 induction ns with
 | nil=>
  intro vs w
  rw [QF] at w
  cases w
  exact .nil
 | cons n ns ih=>
  intro vs w
  rw [N0] at w
  cases w with
  | cons a b=>
   cases a
   exact .cons _ _ (ih _ b)
theorem script_of {l:OpenLaw}{n:Nat}(hn:l.most=some n){P:Params}{h:O3}{args:List WData}{vals:List NT}
  (hpre:l.row.toRowW.claim.pre args=true)(hwl:WellAll P h vals args) :
  ∃ a vs ns,vals=[Og a]/\args=[WData.list (ns.map Rn)]/\h.get? a=some { cls:=.type "list",data:=.seq vs.toArray }/\RK vs ns/\ns.length<=n:=by
 have hsh:WShape.hasAll [] args [.list .int]=true:=(pre_splitW hpre).1
 have hc:l.pre.holds [] { args:=args } = true:=(pre_splitW hpre).2
 obtain ⟨d,r,rfl,h1,h2⟩:=hasAllW_cons hsh
 obtain rfl:=hasAllW_nil h2
 obtain ⟨xs,rfl,h3⟩:=hasW_list h1
 obtain ⟨ns,rfl⟩:=items_int h3
 have hlen:ns.length<=n:=by
  unfold OpenLaw.pre at hc
  have h4:(WTm.not (.lt (.lit (.int (n:Int))) (.len (.arg 0)))).holds [] { args:=[.list (ns.map .int)] } = true:=by
   have h4:=(holds_andW hc).1
   rw [hn] at h4
   exact h4
  have h5:=condW_of h4 (w_not (w_lt w_lit (w_len_list (w_arg rfl))))
  rw [NP] at h5
  refine VY fun q=>?_
  have q':(n:Int)<((ns.length:Nat):Int):=by omega
  first
   | (rw [decide_eq_true q'] at h5;exact absurd h5 (by decide))
   | (simp at h5;omega)
 cases hwl with
 | cons w1 w2=>
  cases w2
  cases w1 with
  | list ho hall=>exact ⟨_,_,ns,rfl,rfl,ho,E4 ns _ hall,hlen⟩
theorem post_true (l:OpenLaw)(args:List WData):l.row.toRowW.claim.post args (.bool true) args=true:=
 postW_of (r:=l.row.toRowW) (X:=(true == true))
  (show Wv [] (.bool true) .bool=true by first|rfl|decide|simp [Wv,WShape.arms,WShape.armsAll])
  (show (WTm.eq .res (.lit (.bool true))).value [] { args:=args,res:=some (.bool true),after:=args } = some (.bool (true == true)) from w_eq_bool (w_res rfl) w_lit) rfl
section
variable {prog:Oo}{w:OO}{A:OG}{E:NT->NV->Prop}{s:NV}{K:Frag}
end
end Att
namespace L2
open PySem PySem.Spec PyProof.Rows
theorem qY:∀ {vs:List NT}{ns:List Int},RK vs ns->Vals (ns.map V.int) vs
 | _,_,.nil=>.nil
 | _,_,.cons n t h=>.cons ⟨t,rfl⟩ (qY h)
noncomputable def xR (H:Hp):Prop:=∀ b,H b=none\/∃ o xs,H b=some (.frz o (.lst xs))
theorem law_call {P:Oo}{w:OO}{K:NO}{mg mb:Str->Option NT}{CX:f9}{k:Nat}{fa a:Addr}{fd:P4}{x:Str}{sp:Sp}{s₁:NV}{vs:List NT}{ns:List Int}
  (KX:K.In s₁.heap)(hns:s₁.heap.Ns Pk mg)(hb:s₁.heap.Ns Wi mb)(hbb:∀ x:Str,x ≠ "__name__"->mb x=Pf x) (hlim:s₁.heap.NoLimit)(hg:s₁.gens = #[])
  (ha:s₁.heap.get? a=some { cls:=.type "list",data:=.seq vs.toArray }) (hi:RK vs ns)(hl:ns.length<=N4)(hr:Room k Tt)
  (F:∀ base:O3,K.In base->base.Ns Pk mg->FnOk P w K mg base CX k fa fd [x] sp)(hbind:∀ (s:NV)(u:NT),TB s fd ⟨[u],[]⟩ [(x,u)])
  (hsp:∀ H:Hp,xR H->SqL K H a (ns.map V.int)->sp [.ref a] H (fun v _=>v=.bl true) fun _ _ _=>False)
  (hCX:∀ H e s',CX [] H s₁ (fun _ _ _=>False) e s'->False) :
  Si (Ot P w) Tt (.call (.ref fa) ⟨[.ref a],[]⟩) (fun r s'=>r=.ok (.ret (.bool true))/\OldK s₁.heap s'.heap/\s'.os=s₁.os/\SM s'.gens) s₁:=by
 have rv:=qY hi
 have lenV:=hi.length
  -- from an abstract heap in which nothing but the script may be tracked
 have core:∀ H:Hp,xR H->SqL K H a (ns.map V.int)->HOk P w H s₁.heap->(∀ b,H b≠none->b=a)->(H a≠none->K.lookup a=none)->
   Si (Ot P w) Tt (.call (.ref fa) ⟨[.ref a],[]⟩) (fun r s'=>r=.ok (.ret (.bool true))/\OldK s₁.heap s'.heap/\s'.os=s₁.os/\SM s'.gens) s₁:=by
  intro H hO hS hok hA hK
  have j6:∀ {b:Addr}{o:Pu},s₁.heap.get? b=some o->H b=none->(gU s₁.heap H).get? b=some o:=fun e n=>C0 e n
  have noA:∀ {b:Addr}{o:Pu}{es:Array Pg}{ep:Nat},s₁.heap.get? b=some o->o.data=.dict es ep->H b=none:=fun {b o es ep} e d=>by
   cases q:H b with
   | none=>rfl
   | some u=>
    have e':b=a:=hA b (by rw [q];simp)
    subst e'
    rw [ha] at e;cases e
    have d':Data.seq vs.toArray _=XA es ep:=d
    cases d'
  have nsK:∀ {b:Addr}{m:Str->Option NT},s₁.heap.Ns b m->(gU s₁.heap H).Ns b m:=fun {b m} ⟨o,es,ep,e,d,r⟩=>⟨o,es,ep,j6 e (noA e d),d,r⟩
  have hKb:K.In (gU s₁.heap H):=fun b o e=>j6 (KX b o e) (by
   cases q:H b with
   | none=>rfl
   | some u=>
    have e':b=a:=hA b (by rw [q];simp)
    subst e'
    rw [hK (by rw [q];simp)] at e;cases e)
  have hM:Mod K mg (gU s₁.heap H):=⟨hKb,nsK hns,⟨mb,nsK hb,hbb⟩,let ⟨mc,h1,h2⟩:=hlim;⟨mc,nsK h1,h2⟩⟩
  have e0:Env0 P w K mg (gU s₁.heap H) Tt [] s₁ H:=⟨rfl,hM,fun b o e=>C1 e,SW (CZ _ _),trivial,fun b hb=>absurd (show b∈([]:List Addr) from hb) (by simp),hok,.of_eq hg⟩
  refine Vi ((F _ hKb (nsK hns)).run Tt [] s₁ H ⟨[.ref a],[]⟩ [.ref a] [.ref a] _ _ hr e0 (hbind s₁ (.ref a)) (.cons rfl .nil) (hsp H hO hS)) fun r s' h=>?_
  cases r with
  | error e=>exact (hCX H e s' h).elim
  | ok fl=>
   cases fl with
   | next=>exact PM h
   | brk=>exact PM h
   | cont=>exact PM h
   | ret u=>
    obtain ⟨v,H',os,bare,un,hok',r',q⟩:=h
    have q':v=.bl true:=q
    subst q'
    obtain rfl:u=UT true:=r'
    refine ⟨rfl,OldK.of_keep fun b o e=>?_,os,bare⟩
    cases q:H b with
    | none=>exact un.keep b o e q (by intro z;exact absurd (show b∈([]:List Addr) from z) (by simp)) (by simp)
    | some u=>
     rcases hO b with z|⟨ob,xs,z⟩
     ·rw [q] at z;cases z
     ·have z2:=un.frzs b ob _ z
      obtain ⟨e1,_⟩:=hok b _ z
      obtain ⟨e2,_⟩:=hok' b _ z2
      rw [e] at e1;cases e1
      exact e2
 cases hk:K.lookup a with
 | some o=>
    -- the script is one of the module's own objects
  have e:=KX a o hk
  rw [ha] at e
  cases e
  refine core (fun _=>none) (fun _=>.inl rfl) (.inr ⟨_,vs.toArray,_,hk,rfl,rfl,rfl,by rw [N8,lenV];exact hl,by simpa using rv⟩) (fun b u z=>by have z':(none:Option HO)=some u:=z;cases z') (fun b z=>absurd rfl z) fun z=>absurd rfl z
 | none=>
  refine core (fun b=>if b=a then some (.frz { cls:=.type "list",data:=.seq vs.toArray } (.lst (ns.map V.int))) else none) (fun b=>?_) (.inl (.inr ⟨{ cls:=.type "list",data:=.seq vs.toArray },if_pos rfl⟩)) (fun b u z=>?_) (fun b z=>?_) fun _=>hk
  ·by_cases hb:b=a
   ·exact .inr ⟨_,_,if_pos hb⟩
   ·exact .inl (if_neg hb)
  ·by_cases hb:b=a
   ·have z':=(if_pos hb).symm.trans z
    cases z'
    subst hb
    exact ⟨ha,by rw [NP];exact hl,vs,_,rv,ha⟩
   ·have z':=(if_neg hb).symm.trans z
    cases z'
  ·by_cases hb:b=a
   ·exact hb
   ·exact absurd (if_neg hb) z
end L2
namespace L2
open PySem PySem.Spec PyProof.Rows
end L2
namespace L2
open PySem PySem.Spec PyProof.Rows
noncomputable def gX (s:Stmt):Arguments:=match s with
 | .FunctionDef _ a _ _ _ _ _ _ _ _=>a
 | _=>{ posonlyargs:=[],args:=[],vararg:=none,kwonlyargs:=[],kw_defaults:=[],kwarg:=none,defaults:=[] }
noncomputable def eJ (s:Stmt):List Stmt:=match s with
 | .FunctionDef _ _ b _ _ _ _ _ _ _=>b
 | _=>[]
noncomputable def cA (s:Stmt):Qn:=match s with
 | .FunctionDef _ _ _ _ _ _ sc _ _ _=>sc
 | _=>{ kind:=.function,names:=[],isGenerator:=false,isCoroutine:=false }
noncomputable abbrev dZ:f9:=fun _ _ _ _ _ _=>False
noncomputable abbrev E0:XK:=fun _ _ _=>False
theorem xS {X:Cx}:oD dZ X E0:=fun _ _ _ _ _ _ _ h=>h.elim
structure Fun (K:NO)(x qual:Str)(st:Stmt)(f:Addr)(fd:P4):Prop where
 ex:∃ (oc:NT)(od:Option Addr)(kV doc pm:NT)(an:Option Addr)(cdv ct:NT)(osl:Array (Option NT)),
  fd=P1 x qual (gX st) (eJ st) (cA st) .none kV doc pm an cdv ct/\K.lookup f=some ⟨oc,od,.func fd,osl⟩/\RY K cdv qual=true
 kp:Po K (.ref f)=true
section
variable {P:Oo}{w:OO}{K:NO}{mg:Str->Option NT}{base:O3}
theorem Fun.ok {x qual:Str}{st:Stmt}{f:Addr}{fd:P4}{N ps:List Str}{k:Nat}{sp:Sp}(F:Fun K x qual st f fd)(S:FnScope N ps (cA st))(len:∀ vs H Q E,sp vs H Q E->vs.length=ps.length)
  (hbody:∀ (cdv:NT)(A:OG)(outer:List SI)(s:NV)(H:Hp)(vs:List V)(Q:VK)(E:XK),Room k (A.deeper (envOfC qual (cA st) s.heap.objs.size f cdv))->sp vs H Q E->
   ∃ t,PSs (gW dZ P w K mg base N qual (cA st) f cdv A outer s H E).nox (eJ st) t/\t { nx:=fun _ H'=>Q .non H',rt:=Q } (start N vs) H):FnOk P w K mg base dZ (k+1) f fd ps sp:=by
 obtain ⟨oc,od,kV,doc,pm,an,cdv,ct,osl,rfl,lk,hcd⟩:=F.ex
 refine Et lk hcd S len fun A outer s H vs Q E hr hsp=>?_
 obtain ⟨t,h,q⟩:=hbody cdv A outer s H vs Q E hr hsp
 exact ⟨t,h.nox,q⟩
theorem Fun.binds {x qual:Str}{st:Stmt}{f:Addr}{fd:P4}{ps:List Str}(F:Fun K x qual st f fd)
  (h:∀ (kV doc pm:NT)(an:Option Addr)(cdv ct:NT)(us:List NT),us.length=ps.length->Ur (P1 x qual (gX st) (eJ st) (cA st) .none kV doc pm an cdv ct) ⟨us,[]⟩=pure (ps.zip us)):Binds K fd ps []:=by
 obtain ⟨oc,od,kV,doc,pm,an,cdv,ct,osl,rfl,lk,hcd⟩:=F.ex
 exact .all (h kV doc pm an cdv ct)
theorem E6 {x qual:Str}{st:Stmt}{f:Addr}{oc:NT}{od an:Option Addr}{osl:Array (Option NT)}{kV doc pm cdv ct:NT}(l:K.lookup f=some ⟨oc,od,.func (P1 x qual (gX st) (eJ st) (cA st) .none kV doc pm an cdv ct),osl⟩)
  (c:RY K cdv qual=true)(k:Po K (.ref f)=true):Fun K x qual st f (P1 x qual (gX st) (eJ st) (cA st) .none kV doc pm an cdv ct):=⟨⟨oc,od,kV,doc,pm,an,cdv,ct,osl,rfl,l,c⟩,k⟩
end
theorem E7 {A:OG}{k:Nat}(hr:Room k A):A.units+1<PR:=Nat.lt_of_le_of_lt (Nat.add_le_add_left (by decide:1<=64) _) hr.units
section
variable {X:Cx}
end
theorem kX {A B:Prop}(h:B):if false=true then A else B:=by
 rw [if_neg OI]
 exact h
theorem kY {A B:Prop}(h:A):if true=true then A else B:=by
 rw [if_pos rfl]
 exact h
noncomputable def Same (H H':Hp):Prop:=∀ b o,H b=some o->H' b=some o
theorem Same.trans {H H1 H2:Hp}(a:Same H H1)(b:Same H1 H2):Same H H2:=fun c o h=>b c o (a c o h)
theorem Same.free {H H':Hp}(e:Same H H'){l:Addr}(h:H' l=Wl):H l=Wl:=by
 cases q:H l with
 | none=>rfl
 | some o=>
  rw [e l o q] at h
  cases h
theorem Same.seq {K:NO}{H H':Hp}{a:Addr}{xs:List V}(e:Same H H')(h:SqL K H a xs):SqL K H' a xs:=by
 rcases h with (h|⟨o,h⟩)|h
 ·exact .inl (.inl (e _ _ h))
 ·exact .inl (.inr ⟨o,e _ _ h⟩)
 ·exact .inr h
section
variable {κ:Type} [DecidableEq κ]
end
end L2
namespace Lw
open PySem L2
noncomputable def bL (i:Nat):Stmt:=O6.main.body.getD i (.Pass ⟨0,0,0,0⟩)
noncomputable def Vw:Oo:={ O6 with main:={ O6.main with body:=bL 1::bL 3::bL 5::bL 7::bL 8::bL 9::bL 10::bL 11::bL 12::bL 13::bL 14::bL 15::bL 16::bL 17::bL 18::bL 19::bL 20::bL 21::bL 22::bL 23::[] } }
noncomputable abbrev vS (x:String)(n:Nat):NT:=T1 (SR x) n
noncomputable abbrev vI (i:Int):NT:=Rh i 0
noncomputable abbrev vR (a:Addr):NT:=Og a
noncomputable abbrev vN:NT:=O9
noncomputable abbrev kO (x y:String)(a b c:Nat)(l n i j k:Int)(r:Addr)(q:Int)(vs:Array NT)(t l2:Int)(e:Nat):Pu:={ cls:=QX "code",data:=WQ (#[vS x a,vS x b,vS y c,vI l,vI n,vI i,vI j,vI k,vR r,UT true,vI q]++vs++#[vI t,vI l2,vS y e]) }
noncomputable abbrev fO (x:Str)(n:Nat)(m:NT)(c:Addr):Pu:=⟨QX "function",none,.func (P1 x x (gX (bL n)) (eJ (bL n)) (cA (bL n)) O9 O9 O9 m none (Og c) O9),#[]⟩
noncomputable abbrev eO (P:Q8)(x:String)(n:Nat)(v:NT):Pg:={ hash:=PyData.keyHash P (SR x),key:=T1 (SR x) n,val:=v }
noncomputable abbrev eR (P:Q8)(x:String)(n:Nat)(a:Addr):Pg:=eO P x n (vR a)
noncomputable abbrev kA (p:Addr×Pu)(R:NO):NO:=p::R
noncomputable abbrev vM (n:Nat):NT:=[vS "creasecourt.layings" 187,vS "creasecourt.laid" 199,vS "creasecourt.piles" 210,vS "law_creasecourt_k61_just_such_piles" 218].getD n vN
noncomputable abbrev kF (x:String)(r a:Nat)(l n:Int)(t i:Nat)(m:NT)(R:NO):NO:=(r+5,kO x "/claim/cut.py" a (a+1) (a+2) l n 0 0 3 r 181 #[vR (r+1),vN,vR (r+2),vR (r+3),vR (r+4)] t l (t+1))::(r+6,fO x i m (r+5))::R
noncomputable abbrev kG (x:String)(r a:Nat)(l n:Int)(t i:Nat)(m:NT)(R:NO):NO:=(r+3,kO x "/claim/cut.py" a (a+1) (a+2) l n 0 0 3 r 181 #[vR (r+1),vN,vN,vN,vR (r+2)] t l (t+1))::(r+4,fO x i m (r+3))::R
noncomputable def Kx:Q8 → NO:=fun P=>kA (3,{ cls:=QX "dict",data:=XA #[eO P "__name__" 165 (vS "law_creasecourt_k61_just_such_piles" 218),eO P "__doc__" 166 vN,eO P "__package__" 167 vN,eO P "__loader__" 168 (Value.builtin "__main__.__loader__#opaque"),eO P "__spec__" 169 vN,eR P "__annotations__" 170 6,eR P "__builtins__" 171 4,eO P "__file__" 173 (vS "/claim/cut.py" 172),eO P "__cached__" 174 vN,eR P "led" 198 21,eR P "stacks" 209 28,eR P "are_piles" 217 33,eR P "_law_given" 228 40,eR P "_law_number" 237 47,eR P "_law_quarters" 248 54,eR P "_law_rims" 259 61,eR P "_law_beside" 268 68,eR P "_law_value" 278 75,eR P "_law_mirror" 287 82,eR P "_law_led" 303 89,eR P "_law_then" 324 96,eR P "_law_fold" 330 101,eR P "_law_grown" 350 108,eR P "_law_creased" 363 115,eR P "_law_other" 377 122,eR P "_law_due" 383 127,eR P "_law_in_turn" 395 134,eR P "_law_told" 409 141,eR P "law" 424 148] 29 }) <|
 kF "led" 15 189 2 2 196 1 (vM 0) <|
 kF "stacks" 22 201 7 1 207 3 (vM 1) <|
 kG "are_piles" 29 212 13 2 215 5 (vM 2) <|
 kF "_law_given" 34 220 19 2 226 7 (vM 3) <|
 kF "_law_number" 41 229 24 2 235 8 (vM 3) <|
 kF "_law_quarters" 48 238 27 2 246 9 (vM 3) <|
 kF "_law_value" 69 269 48 2 276 12 (vM 3) <|
 kF "_law_mirror" 76 279 51 2 285 13 (vM 3) <|
 kF "_law_led" 83 288 54 2 301 14 (vM 3) <|
 kF "_law_then" 90 304 58 2 322 15 (vM 3) <|
 kG "_law_fold" 97 325 63 6 328 16 (vM 3) <|
 kF "_law_grown" 102 331 84 5 348 17 (vM 3) <|
 kF "_law_other" 116 364 105 2 375 19 (vM 3) <|
 kG "_law_due" 123 378 130 2 381 20 (vM 3) <|
 kF "_law_in_turn" 128 384 134 2 393 21 (vM 3) <|
 kF "_law_told" 135 396 145 4 407 22 (vM 3) <|
 kF "law" 142 410 152 1 422 23 (vM 3) <| []
noncomputable def As:List Addr:=[3,20,21,27,28,32,33,39,40,46,47,53,54,74,75,81,82,88,89,95,96,100,101,107,108,121,122,126,127,133,134,140,141,147,148]
theorem mO:∀ P,As=(Kx P).map (·.1):=fun _=>by kernel_rfl
open PySem.W PyProof.Rows in
theorem run:LeftO (Uc O5).prog Vw [] (fun s=>xlAt Vw [] s&&recOk (Ww (Vv (Uc O5))) s) (Hook.obs (Xu Kx As mO)) (Hook.val (Xu Kx As mO)) 1526:=fun w=>by kernel_rfl
end Lw
set_option maxHeartbeats 4000000
namespace L3
open PySem
open PySem.SetTable (Probe Met Slot bits runEnd leap turns insertAt sizeAbove)
namespace Tb
noncomputable def jR (m:Nat)(p:Probe):Probe:=
 if p.more>0 then { p with j:=p.j+1,more:=p.more - 1 } else
 { p with j:=(leap m p.i p.perturb).1,more:=runEnd m (leap m p.i p.perturb).1 - (leap m p.i p.perturb).1,i:=(leap m p.i p.perturb).1,perturb:=(leap m p.i p.perturb).2 }
noncomputable def Fb (m:Nat)(b:Nat):Probe:={ j:=b % (m+1),more:=runEnd m (b % (m+1)) - b % (m+1),i:=b % (m+1),perturb:=b,dummy:=none }
noncomputable def bY (m b:Nat):Nat->Probe
 | 0=>Fb m b
 | k+1=>jR m (bY m b k)
noncomputable def lp (m b:Nat):Nat->Nat×Nat
 | 0=>(b % (m+1),b)
 | n+1=>leap m (lp m b n).1 (lp m b n).2
noncomputable def hd (m i q:Nat):Probe:={ j:=i,more:=runEnd m i - i,i:=i,perturb:=q,dummy:=none }
theorem mP {m b k i q:Nat}(h:bY m b k=hd m i q):∀ r,r<=runEnd m i - i->bY m b (k+r) = { j:=i+r,more:=runEnd m i - i - r,i:=i,perturb:=q,dummy:=none }
 | 0,_=>by rw [WM,h];rfl
 | r+1,hr=>by
  have e:=mP h r (by omega)
  show jR m (bY m b (k+r))=_
  rw [e]
  unfold jR
  rw [if_pos (show runEnd m i - i - r>0 by omega)]
  show Probe.mk (i+r+1) (runEnd m i - i - r - 1) i q none=_
  rw [Nat.add_assoc,Nat.sub_sub]
theorem Fc {m b k i q:Nat}(h:bY m b k=hd m i q):bY m b (k+(runEnd m i - i)+1)=hd m (leap m i q).1 (leap m i q).2:=by
 have e:=mP h (runEnd m i - i) (N3 _)
 show jR m (bY m b (k+(runEnd m i - i)))=_
 rw [e]
 unfold jR
 rw [if_neg (show ¬ (runEnd m i - i - (runEnd m i - i)>0) by omega)]
 rfl
noncomputable def nx (m i:Nat):Nat:=(i * 5+1) % (m+1)
noncomputable def xT (m:Nat):Nat->Nat->Nat
 | 0,i=>i
 | n+1,i=>xT m n (nx m i)
noncomputable def kZ (m:Nat):Nat->Nat->Nat->Nat
 | 0,_,acc=>acc
 | f+1,i,acc=>kZ m f (nx m i) (acc ||| (1 <<< i))
noncomputable def xU (m:Nat):Bool:=kZ m (m+1) 0 0 == 2 ^ (m+1) - 1&&xT m (m+1) 0 == 0
theorem Fd (m b:Nat):∀ n,(lp m b n).1<=m
 | 0=>VN (Xy _ (SU _))
 | n+1=>VN (Xy _ (SU _))
noncomputable def qZ (m:Nat)(S:List Nat)(b j:Nat):Prop:=∃ k,(bY m b k).j=j/\∀ k',k'<k->(bY m b k').j∈S
theorem q0 {xs:Array Nat}{j:Nat}(hr:∀ a b,a<b->b<xs.size->xs.getD a 0<xs.getD b 0):∀ (f lo hi:Nat),hi - lo<=f->lo<=hi->hi<=xs.size->(∀ i,i<lo->xs.getD i 0<j)->(∀ i,hi<=i->i<xs.size->j<=xs.getD i 0)->
  Rm xs j f lo hi<=xs.size/\(∀ i,i<Rm xs j f lo hi->xs.getD i 0<j)/\∀ i,Rm xs j f lo hi<=i->i<xs.size->j<=xs.getD i 0
 | 0,lo,hi,hf,h1,h2,a,b=>by
  have e:lo=hi:=by omega
  show lo<=xs.size/\(∀ i,i<lo->_)/\∀ i,lo<=i->_
  exact ⟨by omega,a,by rw [e];exact b⟩
 | f+1,lo,hi,hf,h1,h2,a,b=>by
  unfold Rm
  by_cases q:lo<hi
  ·rw [if_pos q]
   dsimp only
   have hm:(lo+hi) / 2<xs.size:=by omega
   have e:xs.getD ((lo+hi) / 2) j=xs.getD ((lo+hi) / 2) 0:=by simp [Qa,hm]
   rw [e]
   by_cases c:xs.getD ((lo+hi) / 2) 0<j
   ·rw [if_pos c]
    refine q0 hr f _ _ (by omega) (by omega) h2 (fun i hi'=>?_) b
    rcases Qo i ((lo+hi) / 2) with z|z
    ·exact SV (hr _ _ z hm) c
    ·have:i=(lo+hi) / 2:=by omega
     rw [this];exact c
   ·rw [if_neg c]
    refine q0 hr f _ _ (by omega) (by omega) (by omega) a fun i hi' hs=>?_
    rcases Qo ((lo+hi) / 2) i with z|z
    ·have:=hr _ _ z hs;omega
    ·have:i=(lo+hi) / 2:=by omega
     rw [this];omega
  ·rw [if_neg q]
   exact ⟨by omega,a,fun i h hs=>b i (by omega) hs⟩
theorem xV {xs:Array Nat}(h:xs.toList.Pairwise (·<·)):∀ a b,a<b->b<xs.size->xs.getD a 0<xs.getD b 0:=fun a b hab hb=>by
 have:=QL.mp h a b (by simpa using SV hab hb) (by simpa using hb) hab
 simpa [Qa,hb,SV hab hb] using this
theorem Fe {xs:Array Nat}(h:xs.toList.Pairwise (·<·))(j:Nat):Rt xs j<=xs.size/\(∀ i,i<Rt xs j->xs.getD i 0<j)/\∀ i,Rt xs j<=i->i<xs.size->j<=xs.getD i 0:=
 q0 (xV h) _ _ _ (by omega) (by omega) (N3 _) (fun i z=>absurd z (RC _)) fun i z z2=>by omega
noncomputable abbrev k5:=Nat×Int×NT
structure Ok (t:Sa)(R:List k5):Prop where
 place:t.place.toList=R.map (·.1)
 dum:t.dummies = #[]
 rise:(R.map (·.1)).Pairwise (·<·)
 le:∀ r∈R,r.1<=t.mask
 cov:xU t.mask=true
 odd:t.mask % 2=1
 room:R.length<=t.mask
 road:∀ r∈R,qZ t.mask (R.map (·.1)) (bits r.2.1) r.1
section
variable {t:Sa}{R:List k5}
theorem Ok.size (o:Ok t R):t.place.size=R.length:=by
 have:=congrArg OJ o.place
 simpa using this
theorem Ok.uniq (o:Ok t R){r r':k5}(h:r∈R)(h':r'∈R)(e:r.1=r'.1):r=r':=by
 have p:=Rc.mp o.rise
 obtain ⟨i,hi,e1⟩:=QU h
 obtain ⟨k,hk,e2⟩:=QU h'
 rcases VL i k with z|z|z
 ·have:=QL.mp p i k hi hk z
  rw [e1,e2] at this;omega
 ·subst z;rw [<- e1,<- e2]
 ·have:=QL.mp p k i hk hi z
  rw [e1,e2] at this;omega
theorem Ok.getD (o:Ok t R){i:Nat}(hi:i<R.length):t.place.getD i 0=(R[i]).1:=by
 have h:t.place.toList[i]? = (R.map (·.1))[i]?:=by rw [o.place]
 have hs:i<t.place.size:=by rw [o.size];exact hi
 simp [hi,hs] at h
 simp [Qa,hs,h]
theorem Ok.sorted (o:Ok t R):t.place.toList.Pairwise (·<·):=by rw [o.place];exact o.rise
theorem Ff (j:Nat):VG #[] j=false:=by
 unfold VG
 simp
theorem Ok.live (o:Ok t R){j:Nat}(h:j∈R.map (·.1)):∃ i r,t.slot j=.live i/\R[i]? = some r/\r.1=j:=by
 obtain ⟨r,hr,e⟩:=NZ.mp h
 obtain ⟨i,hi,ei⟩:=QU hr
 have b:=Fe o.sorted j
 have hp:t.place.getD i 0=j:=by rw [o.getD hi,ei];exact e
 have hs:i<t.place.size:=by rw [o.size];exact hi
 have e2:Rt t.place j=i:=by
  rcases VL (Rt t.place j) i with z|z|z
  ·have h1:=b.2.2 _ (N3 _) (by omega)
   have h2:=xV o.sorted _ _ z hs
   omega
  ·exact z
  ·have:=b.2.1 i z;omega
 refine ⟨i,r,?_,by rw [<- ei];exact N9 hi,e⟩
 unfold Vk
 dsimp only
 rw [e2,if_pos]
 have:t.place[i]? = some j:=by
  rw [RH hs]
  simpa [Qa,hs] using hp
 rw [this]
 exact beq_self_eq_true _
theorem Ok.empty (o:Ok t R){j:Nat}(h:j∉R.map (·.1)):t.slot j=.empty:=by
 unfold Vk
 dsimp only
 rw [if_neg,o.dum,Ff]
 ·rfl
 ·intro q
  rw [beq_iff_eq] at q
  apply h
  rw [<- o.place]
  exact Array.mem_toList_iff.mpr (Array.mem_of_getElem? q)
theorem xW (m b:Nat):∀ k,(bY m b k).dummy=none
 | 0=>rfl
 | k+1=>by
  show (jR m (bY m b k)).dummy=none
  unfold jR
  split<;>exact xW m b k
theorem Ok.go (o:Ok t R)(TR:Nat->Int)(hh:∀ i r,R[i]? = some r->TR i=r.2.1){h:Int}{K:Nat}(hK:(bY t.mask (bits h) K).j∉R.map (·.1))(hT:∀ k',k'<K->(bY t.mask (bits h) k').j∈R.map (·.1)) :
  ∀ (f k:Nat),k<=K->K<k+f->
   (Rl t TR h f (bY t.mask (bits h) k)=some (.empty (bY t.mask (bits h) K).j none)/\∀ k' r,k<=k'->k'<K->r∈R->r.1=(bY t.mask (bits h) k').j->r.2.1≠h) \/
   ∃ k' i r,k<=k'/\k'<K/\R[i]? = some r/\r.1=(bY t.mask (bits h) k').j/\r.2.1=h/\Rl t TR h f (bY t.mask (bits h) k)=some (.candidate (bY t.mask (bits h) k').j i (bY t.mask (bits h) (k'+1))) /\
    ∀ k'' r',k<=k''->k''<k'->r'∈R->r'.1=(bY t.mask (bits h) k'').j->r'.2.1≠h
 | 0,k,h1,h2=>by omega
 | f+1,k,h1,h2=>by
  rcases Qo k K with z|z
  ·obtain ⟨i,r,e,er,ej⟩:=o.live (hT k z)
   have eg:Rl t TR h (f+1) (bY t.mask (bits h) k)=if TR i == h then some (.candidate (bY t.mask (bits h) k).j i (bY t.mask (bits h) (k+1))) else Rl t TR h f (bY t.mask (bits h) (k+1)):=by
    show (match t.slot (bY t.mask (bits h) k).j with|.empty=>_|.dummy=>_|.live i=>_)=_
    rw [e]
    rfl
   rw [eg,hh i r er]
   have hrm:r∈R:=OX er
   by_cases q:r.2.1=h
   ·refine .inr ⟨k,i,r,N3 _,z,er,ej,q,?_,fun k'' r' a b=>by omega⟩
    rw [q,if_pos (beq_self_eq_true _)]
   ·rw [if_neg (by simpa using q)]
    have here:∀ r',r'∈R->r'.1=(bY t.mask (bits h) k).j->r'.2.1≠h:=fun r' hr' e'=>by
     rw [o.uniq hr' hrm (e'.trans ej.symm)];exact q
    rcases Ok.go o TR hh hK hT f (k+1) z (by omega) with ⟨a,b⟩|⟨k',i',r',a1,a2,a3,a4,a5,a6,a7⟩
    ·refine .inl ⟨a,fun k' r' c1 c2 hr' e'=>?_⟩
     rcases Qo k k' with y|y
     ·exact b k' r' y c2 hr' e'
     ·have:k'=k:=by omega
      subst this;exact here r' hr' e'
    ·refine .inr ⟨k',i',r',by omega,a2,a3,a4,a5,a6,fun k'' r'' c1 c2 hr' e'=>?_⟩
     rcases Qo k k'' with y|y
     ·exact a7 k'' r'' y c2 hr' e'
     ·have:k''=k:=by omega
      subst this;exact here r'' hr' e'
  ·have:k=K:=by omega
   subst this
   refine .inl ⟨?_,fun k' r a b=>by omega⟩
   show (match t.slot (bY t.mask (bits h) k).j with|.empty=>_|.dummy=>_|.live i=>_)=_
   rw [o.empty hK]
   show some (Met.empty _ (bY t.mask (bits h) k).dummy)=_
   rw [xW]
end
noncomputable def lv (m:Nat)(ow:Array (Option Nat)):List (Nat×Nat):=(ON (m+1)).filterMap fun j=>(ow.getD j none).map (j,·)
theorem mem_lv {m:Nat}{ow:Array (Option Nat)}{j i:Nat}:(j,i)∈lv m ow↔j<=m/\ow.getD j none=some i:=by
 unfold lv
 rw [Q2]
 constructor
 ·rintro ⟨a,ha,e⟩
  rw [NU] at e
  obtain ⟨b,e1,e2⟩:=e
  cases e2
  exact ⟨by simpa [V9] using ha,e1⟩
 ·rintro ⟨h1,h2⟩
  exact ⟨j,by simpa [V9] using h1,by rw [h2];rfl⟩
structure Ow (m:Nat)(ds:List Int)(ow:Array (Option Nat)):Prop where
 size:ow.size=m+1
 lt:∀ j i,ow.getD j none=some i->i<ds.length
 all:∀ i,i<ds.length->∃ j,ow.getD j none=some i
 inj:∀ j j' i,ow.getD j none=some i->ow.getD j' none=some i->j=j'
 road:∀ j i,ow.getD j none=some i->qZ m ((lv m ow).map (·.1)) (bits (ds.getD i 0)) j
section
variable {m:Nat}{ds:List Int}{ow:Array (Option Nat)}
theorem Ow.le (o:Ow m ds ow){j i:Nat}(h:ow.getD j none=some i):j<=m:=by
 rcases Qo j ow.size with z|z
 ·rw [o.size] at z;omega
 ·simp [Qa,Q4.mpr z] at h
theorem Ow.taken (o:Ow m ds ow){j:Nat}(hj:j<=m):j∈(lv m ow).map (·.1)↔(ow.getD j (some 0)).isNone=false:=by
 have hs:j<ow.size:=by rw [o.size];omega
 have e:ow.getD j (some 0)=ow.getD j none:=by simp [Qa,hs]
 rw [e]
 constructor
 ·intro q
  obtain ⟨⟨a,i⟩,q2,rfl⟩:=NZ.mp q
  rw [(mem_lv.mp q2).2];rfl
 ·intro q
  cases z:ow.getD j none with
  | none=>rw [z] at q;cases q
  | some i=>exact NZ.mpr ⟨(j,i),mem_lv.mpr ⟨hj,z⟩,rfl⟩
theorem Ow.free (o:Ow m ds ow){b:Nat}:∀ (f n k0:Nat),bY m b k0=hd m (lp m b n).1 (lp m b n).2->(∀ k',k'<k0->(bY m b k').j∈(lv m ow).map (·.1))->(∃ N,n<=N/\N<n+f/\(lp m b N).1∉(lv m ow).map (·.1))->
  ∃ j,Sr m ow f (lp m b n).1 (lp m b n).2=some j/\j<=m/\j∉(lv m ow).map (·.1)/\qZ m ((lv m ow).map (·.1)) b j
 | 0,n,k0,_,_,⟨N,h1,h2,_⟩=>by omega
 | f+1,n,k0,hk,ht,⟨N,h1,h2,hN⟩=>by
  have hi:=Fd m b n
  have hre:runEnd m (lp m b n).1<=m:=by unfold runEnd;split<;>omega
  have hri:(lp m b n).1<=runEnd m (lp m b n).1:=by unfold runEnd;split<;>omega
  unfold Sr
  cases z:(ON (runEnd m (lp m b n).1+1 - (lp m b n).1)).find? fun k=>(ow.getD ((lp m b n).1+k) (some 0)).isNone with
  | some r=>
   rw [List.find?_range_eq_some] at z
   obtain ⟨z1,z2,z3⟩:=z
   rw [PH] at z2
   refine ⟨(lp m b n).1+r,rfl,by omega,fun q=>?_,k0+r,by rw [mP hk r (by omega)],fun k' hk'=>?_⟩
   ·rw [o.taken (by omega)] at q
    rw [q] at z1;cases z1
   ·rcases Qo k' k0 with y|y
    ·exact ht k' y
    ·obtain ⟨d,rfl⟩:=Uj y
     rw [mP hk d (by omega)]
     show (lp m b n).1+d∈_
     rw [o.taken (by omega)]
     have:=z3 d (by omega)
     simpa using this
  | none=>
   rw [List.find?_range_eq_none] at z
   have tk:∀ r,r<runEnd m (lp m b n).1+1 - (lp m b n).1->(lp m b n).1+r∈(lv m ow).map (·.1):=fun r hr=>by
    rw [o.taken (by omega)]
    have:=z r hr
    simpa using this
   have ne:N≠n:=fun e=>hN (by rw [e];exact tk 0 (by omega))
   refine Ow.free o f (n+1) _ (Fc hk) (fun k' hk'=>?_) ⟨N,by omega,by omega,hN⟩
   rcases Qo k' k0 with y|y
   ·exact ht k' y
   ·obtain ⟨d,rfl⟩:=Uj y
    rw [mP hk d (by omega)]
    exact tk d (by omega)
end
theorem Ow.nil (m:Nat):Ow m [] (Tf (m+1) none):=by
 have e:∀ j,(Tf (m+1) (none:Option Nat)).getD j none=none:=fun j=>by
  simp [Qa]
 have no:∀ {P:Prop}(j i:Nat),(Tf (m+1) (none:Option Nat)).getD j none=some i->P:=fun j i h=>by
  rw [e] at h;exact nomatch h
 exact ⟨by simp,fun j i h=>no j i h,fun i h=>absurd h (RC _),fun j j' i h _=>no j i h,fun j i h=>no j i h⟩
end Tb
end L3
namespace L3
open PySem
open PySem.SetTable (Probe Met Slot bits runEnd leap turns insertAt sizeAbove)
namespace Tb
section
variable {prog:Oo}{w:OO}{K:Type} [DecidableEq K] {knd:KeyKind prog w K}{A:OG}{E:NT->NV->Prop}{s:NV}
theorem fits_of {t:Sa}{R:List k5}{es:Array (Int×NT)}(o:Ok t R)(he:es.toList=R.map (·.2)):t.fits es.size=true:=by
 have h1:es.size=R.length:=by simpa using congrArg OJ he
 have h2:=o.room
 unfold SetTable.fits SetTable.fill
 rw [o.size,h1,o.dum]
 simp;exact h2
end
section
variable {prog:Oo}{w:OO}{A:OG}{E:NT->NV->Prop}{s:NV}
noncomputable abbrev El:=List Int×Addr
noncomputable def hashT (k:List Int):Int:=reduceHash (WR (k.map hashInt))
noncomputable def Fg (p:El):Int×NT:=(hashT p.1,Og p.2)
noncomputable def Msk (m:Nat):Prop:=m=7\/m=31\/m=127\/m=511
theorem Msk.cov {m:Nat}(h:Msk m):xU m=true:=by
 rcases h with rfl|rfl|rfl|rfl<;>decide +kernel
theorem Msk.odd {m:Nat}(h:Msk m):m % 2=1:=by
 rcases h with rfl|rfl|rfl|rfl<;>rfl
noncomputable def q8 (w:OO):Bool:=w.params.followText "set-order"
noncomputable def xX (led:Bool)(L:List El)(o:Pu):Prop:=∃ es ep t R,o.ExactSet/\o.data=.set es ep t/\es.toList=R.map (·.2)/\Ok t R/\es.toList.Perm (L.map Fg)/\(L.map (·.1)).Nodup/\Msk t.mask/\L.length * 5<t.mask * 3/\t.plain=true/\t.led=led
noncomputable def SObj (L:List El)(o:Pu):Prop:=∃ led,xX led L o
noncomputable def wB (prog:Oo)(w:OO)(h:O3)(a:Addr)(L:List El):Prop:=∃ o,h.get? a=some o/\xX (!q8 w) L o/\∀ p∈L,IsTupleKey (P8 prog w) h p.1 p.2
end
end Tb
end L3
namespace L3
open PySem
namespace Tb
noncomputable def Fh (w:OO)(t:Sa):Nat->Nat
 | 0=>0
 | i+1=>if q8 w then 0 else t.place.getD i 0+1
section
variable {prog:Oo}{w:OO}{A:OG}{E:NT->NV->Prop}{s:NV}
noncomputable def SIt (w:OO)(h:O3)(I a:Addr)(t:Sa)(i n ep:Nat):Prop:=∃ o,h.get? I=some o/\o.cls=.type "set_iterator"/\o.data=.fields #[Sh (Fh w t i),Sh i,.ref a,Sh n,Sh ep]
theorem SIt.ty {I a:Addr}{t:Sa}{i n ep:Nat}(x:SIt w s.heap I a t i n ep):s.TypeIs (.ref I) "set_iterator":=let ⟨o,ho,hc,_⟩:=x;⟨o,ho,hc⟩
structure SAt (w:OO)(h:O3)(a:Addr)(es:Array (Int×NT))(ep:Nat)(t:Sa)(R:List k5):Prop where
 at_:∃ o,h.get? a=some o/\o.cls=.type "set"/\o.data=.set es ep t
 he:es.toList=R.map (·.2)
 ok:Ok t R
 pl:t.plain=true
 led:t.led = !q8 w
theorem SAt.ty {a:Addr}{es:Array (Int×NT)}{ep:Nat}{t:Sa}{R:List k5}(x:SAt w s.heap a es ep t R):s.TypeIs (.ref a) "set":=let ⟨o,ho,hc,_⟩:=x.at_;⟨o,ho,hc⟩
end
end Tb
end L3
namespace L3
open PySem L2
inductive D where
 | non|bl (b:Bool)|int (i:Int)|str (x:Str)|tup (xs:List D)|rol (xs:List D)|loc (a:Nat)|ty (n:String)
 deriving Inhabited
inductive C where
 | lst (xs:List D)
 | dK (kvs:List (aW×D))
 | st (ks:List (List Int))
 | dT (kvs:List (List Int×D))
 | dF (kvs:List (List Int×D))
 deriving Inhabited
noncomputable abbrev Hm:=List C
noncomputable abbrev aF:=List (Option D)
noncomputable abbrev ME:=aF->Hm->Option (D×Hm)
noncomputable abbrev MT:=aF->Hm->Option (Bool×Hm)
noncomputable abbrev MA:=aF->Hm->Option (List D×Hm)
inductive Fl where
 | nx|rt (d:D)|bk|ct
noncomputable abbrev MS:=aF->Hm->Option (Fl×aF×Hm)
noncomputable abbrev MF:=List D->Hm->Option (D×Hm)
noncomputable def RoL (K:NO)(H:Hp)(p:Addr)(xs:List V):Prop:=
 (∃ o,H p=some (.frz o (.lst xs))) \/
  ∃ (o:Pu)(its:Array NT)(n:Nat),K.lookup p=some o/\o.cls=.type "list"/\o.dict=none/\o.data=.seq its n/\its.size<=N4/\Vals xs its.toList
theorem RoL.sq {K:NO}{H:Hp}{p:Addr}{xs:List V}(h:RoL K H p xs):SqL K H p xs:=by
 rcases h with ⟨o,h⟩|h
 ·exact .inl (.inr ⟨o,h⟩)
 ·exact .inr h
mutual
inductive IsD (K:NO)(π:Nat->Addr)(n:Nat)(H:Hp):V->D->Prop where
 | non:IsD K π n H .non .non
 | bl (b:Bool):IsD K π n H (.bl b) (.bl b)
 | int (i:Int):IsD K π n H (.int i) (.int i)
 | str (x:Str):IsD K π n H (.str x) (.str x)
 | tup {p:Addr}{vs:List V}{ds:List D}(h:SqT K H p vs)(t:IsDs K π n H vs ds):IsD K π n H (.ref p) (.tup ds)
 | rol {p:Addr}{vs:List V}{ds:List D}(h:RoL K H p vs)(t:IsDs K π n H vs ds):IsD K π n H (.ref p) (.rol ds)
 | loc {a:Nat}(h:a<n):IsD K π n H (.ref (π a)) (.loc a)
 | ty (x:String):IsD K π n H (.ty x) (.ty x)
inductive IsDs (K:NO)(π:Nat->Addr)(n:Nat)(H:Hp):List V->List D->Prop where
 | nil:IsDs K π n H [] []
 | cons {v:V}{d:D}{vs:List V}{ds:List D}(h:IsD K π n H v d)(t:IsDs K π n H vs ds):IsDs K π n H (v::vs) (d::ds)
end
structure Ext (π:Nat->Addr)(n:Nat)(H:Hp)(π':Nat->Addr)(n':Nat)(H':Hp):Prop where
 le:n<=n'
 pi:∀ a,a<n->π' a=π a
 tup:∀ p vs,H p=some (.tup vs)->H' p=some (.tup vs)
 frz:∀ p o u,H p=some (.frz o u)->H' p=some (.frz o u)
structure Ext0 (π:Nat->Addr)(n:Nat)(H:Hp)(π':Nat->Addr)(n':Nat)(H':Hp):Prop where
 le:n<=n'
 pi:∀ a,a<n->π' a=π a
 tup:∀ p vs,H p=some (.tup vs)->H' p=some (.tup vs)
 frz:∀ p o u,(∀ φ,u≠HO.ext φ)->H p=some (.frz o u)->H' p=some (.frz o u)
section
variable {K:NO}{π π' π2:Nat->Addr}{n n' n2:Nat}{H H' H2:Hp}
theorem Ext.weak (e:Ext π n H π' n' H'):Ext0 π n H π' n' H':=⟨e.le,e.pi,e.tup,fun p o u _ h=>e.frz p o u h⟩
theorem Ext.refl:Ext π n H π n H:=⟨N3 _,fun _ _=>rfl,fun _ _ h=>h,fun _ _ _ h=>h⟩
theorem Ext.trans (a:Ext π n H π' n' H')(b:Ext π' n' H' π2 n2 H2):Ext π n H π2 n2 H2:=
 ⟨OU a.le b.le,fun i h=>(b.pi i (OD h a.le)).trans (a.pi i h),fun p vs h=>b.tup p vs (a.tup p vs h),fun p o u h=>b.frz p o u (a.frz p o u h)⟩
theorem Ext0.sqT (e:Ext0 π n H π' n' H'){p:Addr}{vs:List V}(h:SqT K H p vs):SqT K H' p vs:=by
 rcases h with h|h
 ·rcases h with h|⟨o,h⟩
  ·exact .inl (.inl (e.tup _ _ h))
  ·exact .inl (.inr ⟨o,e.frz _ _ _ (fun _ z=>nomatch z) h⟩)
 ·exact .inr h
theorem Ext.sqT (e:Ext π n H π' n' H'){p:Addr}{vs:List V}(h:SqT K H p vs):SqT K H' p vs:=e.weak.sqT h
theorem Ext0.roL (e:Ext0 π n H π' n' H'){p:Addr}{vs:List V}(h:RoL K H p vs):RoL K H' p vs:=by
 rcases h with ⟨o,h⟩|h
 ·exact .inl ⟨o,e.frz _ _ _ (fun _ z=>nomatch z) h⟩
 ·exact .inr h
theorem Ext.roL (e:Ext π n H π' n' H'){p:Addr}{vs:List V}(h:RoL K H p vs):RoL K H' p vs:=e.weak.roL h
mutual
theorem IsD.mono0 {v:V}{d:D}(e:Ext0 π n H π' n' H'):IsD K π n H v d->IsD K π' n' H' v d
 | .non=>.non
 | .bl b=>.bl b
 | .int i=>.int i
 | .str x=>.str x
 | .ty x=>.ty x
 | .tup h t=>.tup (e.sqT h) (IsDs.mono0 e t)
 | .rol h t=>.rol (e.roL h) (IsDs.mono0 e t)
 | .loc h=>by
  rw [<- e.pi _ h]
  exact .loc (OD h e.le)
theorem IsDs.mono0 {vs:List V}{ds:List D}(e:Ext0 π n H π' n' H'):IsDs K π n H vs ds->IsDs K π' n' H' vs ds
 | .nil=>.nil
 | .cons h t=>.cons (IsD.mono0 e h) (IsDs.mono0 e t)
end
theorem IsD.mono {v:V}{d:D}(e:Ext π n H π' n' H')(h:IsD K π n H v d):IsD K π' n' H' v d:=h.mono0 e.weak
theorem IsDs.mono {vs:List V}{ds:List D}(e:Ext π n H π' n' H')(h:IsDs K π n H vs ds):IsDs K π' n' H' vs ds:=h.mono0 e.weak
theorem IsDs.length {vs:List V}{ds:List D}(h:IsDs K π n H vs ds):vs.length=ds.length:=by
 induction ds generalizing vs with
 | nil=>cases h;rfl
 | cons d ds ih=>
  cases h with
  | cons h t=>rw [OL,OL,ih t]
theorem IsDs.get {vs:List V}{ds:List D}(h:IsDs K π n H vs ds){i:Nat}{d:D}(e:ds[i]? = some d):∃ v,vs[i]? = some v/\IsD K π n H v d:=by
 induction ds generalizing vs i with
 | nil=>simp at e
 | cons d' ds ih=>
  cases h with
  | cons h t=>
   cases i with
   | zero=>
    simp at e
    subst e
    exact ⟨_,rfl,h⟩
   | succ i=>
    obtain ⟨v,h1,h2⟩:=ih t (by simpa using e)
    exact ⟨v,by simpa using h1,h2⟩
theorem IsDs.append {vs ws:List V}{ds es:List D}(h:IsDs K π n H vs ds)(h2:IsDs K π n H ws es):IsDs K π n H (vs++ws) (ds++es):=by
 induction ds generalizing vs with
 | nil=>cases h;exact h2
 | cons d ds ih=>
  cases h with
  | cons h t=>exact .cons h (ih t)
theorem IsDs.drop {vs:List V}{ds:List D}(h:IsDs K π n H vs ds)(k:Nat):IsDs K π n H (vs.drop k) (ds.drop k):=by
 induction ds generalizing vs k with
 | nil=>cases h;simpa using IsDs.nil
 | cons d ds ih=>
  cases h with
  | cons h t=>
   cases k with
   | zero=>exact .cons h t
   | succ k=>exact ih t k
theorem IsDs.take {vs:List V}{ds:List D}(h:IsDs K π n H vs ds)(k:Nat):IsDs K π n H (vs.take k) (ds.take k):=by
 induction ds generalizing vs k with
 | nil=>cases h;simpa using IsDs.nil
 | cons d ds ih=>
  cases h with
  | cons h t=>
   cases k with
   | zero=>exact .nil
   | succ k=>exact .cons h (ih t k)
theorem IsDs.atI {vs:List V}{ds:List D}(h:IsDs K π n H vs ds){i:Int}{d:D}(e:L2.atI ds i=some d):∃ v,L2.atI vs i=some v/\IsD K π n H v d:=by
 unfold L2.atI at e ⊢
 rw [h.length]
 cases q:dI ds.length i with
 | none=>rw [q] at e;cases e
 | some j=>
  rw [q] at e
  exact h.get e
end
noncomputable def oI (p:Addr)(L:List Tb.El):HO:=.ext fun h=>∃ o,h.get? p=some o/\Tb.SObj L o
noncomputable def rA (p:List Int×Addr×V)(w:NT):Pg:=⟨Tb.hashT p.1,.ref p.2.1,w⟩
noncomputable def aP (a:Addr)(ps:List (List Int×Addr×V)):HO:=.ext fun h=>∃ ws:List NT,Vals (ps.map (·.2.2)) ws/\(a == OY)=false/\ps.length<=N4 /\
 ∃ o es ep,h.get? a=some o/\o.ExactDict/\o.data=.dict es ep/\es.toList=SF rA ps ws/\(ps.map (·.1)).Nodup
structure Rp (K:NO)(π:Nat->Addr)(H:Hp)(μ:Hm):Prop where
 inj:∀ a b,a<μ.length->b<μ.length->π a=π b->a=b
 has:∀ a,a<μ.length->(H (π a)).isSome=true
 lst:∀ a xs,μ[a]? = some (.lst xs)->∃ vs,H (π a)=some (.lst vs)/\IsDs K π μ.length H vs xs
 dK:∀ a kvs,μ[a]? = some (.dK kvs)->∃ vs,H (π a)=some (.dK vs)/\vs.map (·.1)=kvs.map (·.1)/\IsDs K π μ.length H (vs.map (·.2)) (kvs.map (·.2))
 st:∀ a ks,μ[a]? = some (.st ks)->∃ L:List Tb.El,H (π a)=some (oI (π a) L)/\L.map (·.1)=ks/\IsDs K π μ.length H (L.map fun p=>V.ref p.2) (ks.map fun k=>D.tup (k.map D.int))
 dT:∀ a kvs,μ[a]? = some (.dT kvs)->∃ ps:List (List Int×Addr×V),H (π a)=some (aP (π a) ps)/\ps.map (·.1)=kvs.map (·.1)/\IsDs K π μ.length H (ps.map fun p=>V.ref p.2.1) (kvs.map fun k=>D.tup (k.1.map D.int))/\IsDs K π μ.length H (ps.map (·.2.2)) (kvs.map (·.2))
 dF:∀ a kvs,μ[a]? = some (.dF kvs)->∃ (ob:Pu)(ps:List (List Int×Addr×V)),H (π a)=some (.frz ob (aP (π a) ps))/\ps.map (·.1)=kvs.map (·.1)/\IsDs K π μ.length H (ps.map fun p=>V.ref p.2.1) (kvs.map fun k=>D.tup (k.1.map D.int))/\IsDs K π μ.length H (ps.map (·.2.2)) (kvs.map (·.2))
structure En (K:NO)(π:Nat->Addr)(n:Nat)(H:Hp)(σ:St)(ρ:aF):Prop where
 len:σ.length=ρ.length
 get:∀ (i:Nat)(d:D),ρ[i]? = some (some d)->∃ v,σ[i]? = some (some v)/\IsD K π n H v d
section
variable {K:NO}{π π' π2:Nat->Addr}{n n' n2:Nat}{H H' H2:Hp}{μ μ':Hm}{σ:St}{ρ:aF}
theorem En.mono (E:En K π n H σ ρ)(e:Ext π n H π' n' H'):En K π' n' H' σ ρ:=
 ⟨E.len,fun i d h=>let ⟨v,h1,h2⟩:=E.get i d h;⟨v,h1,h2.mono e⟩⟩
theorem En.set (E:En K π n H σ ρ){v:V}{d:D}(h:IsD K π n H v d)(i:Nat):En K π n H (σ.set i (some v)) (ρ.set i (some d)):=by
 refine ⟨by rw [Ou,Ou];exact E.len,fun j d' e=>?_⟩
 rw [List.getElem?_set] at e ⊢
 by_cases hij:i=j
 ·subst hij
  rw [if_pos rfl] at e ⊢
  rw [E.len]
  by_cases hl:i<ρ.length
  ·rw [if_pos hl] at e ⊢
   cases e
   exact ⟨v,rfl,h⟩
  ·rw [if_neg hl] at e
   cases e
 ·rw [if_neg hij] at e ⊢
  exact E.get j d' e
theorem Rp.ne {p:Addr}(R:Rp K π H μ)(h:H p=none){a:Nat}(ha:a<μ.length):π a≠p:=fun e=>by
 have:=R.has a ha
 rw [e,h] at this
 cases this
theorem Rp.fresh {p:Addr}{o:HO}(R:Rp K π H μ)(h:H p=none):Ext π μ.length H π μ.length (aI H p o)/\Rp K π (aI H p o) μ:=by
 have keep:∀ b u,H b=some u->aI H p o b=some u:=fun b u e=>by
  rw [bH (eX e h)]
  exact e
 have e:Ext π μ.length H π μ.length (aI H p o):=⟨N3 _,fun _ _=>rfl,fun q vs e=>keep q _ e,fun q o u e=>keep q _ e⟩
 refine ⟨e,R.inj,fun a ha=>?_,fun a xs ha=>?_,fun a kvs ha=>?_,fun a ks ha=>?_
  ,fun a kvs ha=>?_
  ,fun a kvs ha=>?_
  ⟩
 ·rw [bH (R.ne h ha)]
  exact R.has a ha
 ·obtain ⟨vs,h1,h2⟩:=R.lst a xs ha
  exact ⟨vs,keep _ _ h1,h2.mono e⟩
 ·obtain ⟨vs,h1,h2,h3⟩:=R.dK a kvs ha
  exact ⟨vs,keep _ _ h1,h2,h3.mono e⟩
 ·obtain ⟨vs,h1,h2,h3⟩:=R.st a ks ha
  exact ⟨vs,keep _ _ h1,h2,h3.mono e⟩
 ·obtain ⟨vs,h1,h2,h3,h4⟩:=R.dT a kvs ha
  exact ⟨vs,keep _ _ h1,h2,h3.mono e,h4.mono e⟩
 ·obtain ⟨ob,vs,h1,h2,h3,h4⟩:=R.dF a kvs ha
  exact ⟨ob,vs,keep _ _ h1,h2,h3.mono e,h4.mono e⟩
noncomputable def rB (K:NO)(π:Nat->Addr)(n:Nat)(H:Hp)(p:Addr):C->HO->Prop
 | .lst xs,.lst vs=>IsDs K π n H vs xs
 | .dK kvs,.dK vs=>vs.map (·.1)=kvs.map (·.1)/\IsDs K π n H (vs.map (·.2)) (kvs.map (·.2))
 | .st ks,o=>∃ L:List Tb.El,o=oI p L/\L.map (·.1)=ks/\IsDs K π n H (L.map fun p=>V.ref p.2) (ks.map fun k=>D.tup (k.map D.int))
 | .dT kvs,o=>∃ ps:List (List Int×Addr×V),o=aP p ps/\ps.map (·.1)=kvs.map (·.1)/\IsDs K π n H (ps.map fun p=>V.ref p.2.1) (kvs.map fun k=>D.tup (k.1.map D.int))/\IsDs K π n H (ps.map (·.2.2)) (kvs.map (·.2))
 | .dF kvs,o=>∃ (ob:Pu)(ps:List (List Int×Addr×V)),o=.frz ob (aP p ps)/\ps.map (·.1)=kvs.map (·.1)/\IsDs K π n H (ps.map fun p=>V.ref p.2.1) (kvs.map fun k=>D.tup (k.1.map D.int))/\IsDs K π n H (ps.map (·.2.2)) (kvs.map (·.2))
 | _,_=>False
noncomputable def e8 (π:Nat->Addr)(n:Nat)(p:Addr):Nat->Addr:=fun a=>if a=n then p else π a
theorem Rp.alloc {p:Addr}{c:C}{o:HO}(R:Rp K π H μ)(h:H p=none)(hc:rB K π μ.length H p c o) :
  Ext π μ.length H (e8 π μ.length p) (μ++[c]).length (aI H p o)/\Rp K (e8 π μ.length p) (aI H p o) (μ++[c])/\e8 π μ.length p μ.length=p:=by
 have hl:(μ++[c]).length=μ.length+1:=by simp
 have keep:∀ b u,H b=some u->aI H p o b=some u:=fun b u e=>by
  rw [bH (eX e h)]
  exact e
 have pn:e8 π μ.length p μ.length=p:=if_pos rfl
 have po:∀ a,a<μ.length->e8 π μ.length p a=π a:=fun a ha=>if_neg (Oh ha)
 have e:Ext π μ.length H (e8 π μ.length p) (μ++[c]).length (aI H p o):=⟨by rw [hl];exact RM _,po,fun q vs e=>keep q _ e,fun q o u e=>keep q _ e⟩
 have split:∀ a,a<(μ++[c]).length->a<μ.length\/a=μ.length:=fun a ha=>by rw [hl] at ha;omega
 have get:∀ a,a<μ.length->(μ++[c])[a]? = μ[a]?:=fun a ha=>OM ha
 have getn:(μ++[c])[μ.length]? = some c:=by simp
 refine ⟨e,⟨fun a b ha hb q=>?_,fun a ha=>?_,fun a xs ha=>?_,fun a kvs ha=>?_,fun a ks ha=>?_
  ,fun a kvs ha=>?_
  ,fun a kvs ha=>?_
  ⟩,pn⟩
 ·rcases split a ha with ha|rfl<;>rcases split b hb with hb|rfl
  ·rw [po a ha,po b hb] at q
   exact R.inj a b ha hb q
  ·rw [po a ha,pn] at q
   exact absurd q (R.ne h ha)
  ·rw [pn,po b hb] at q
   exact absurd q.symm (R.ne h hb)
  ·rfl
 ·rcases split a ha with ha|rfl
  ·rw [po a ha,bH (R.ne h ha)]
   exact R.has a ha
  ·rw [pn,cY]
   rfl
 ·have hlt:a<(μ++[c]).length:=(NS.mp ha).1
  rcases split a hlt with h1|rfl
  ·rw [get a h1] at ha
   obtain ⟨vs,h2,h3⟩:=R.lst a xs ha
   rw [po a h1]
   exact ⟨vs,keep _ _ h2,h3.mono e⟩
  ·rw [getn] at ha
   cases ha
   cases o with
   | lst vs=>
    rw [pn]
    exact ⟨vs,cY,IsDs.mono e hc⟩
   | _=>exact PM hc
 ·have hlt:a<(μ++[c]).length:=(NS.mp ha).1
  rcases split a hlt with h1|rfl
  ·rw [get a h1] at ha
   obtain ⟨vs,h2,h3,h4⟩:=R.dK a kvs ha
   rw [po a h1]
   exact ⟨vs,keep _ _ h2,h3,h4.mono e⟩
  ·rw [getn] at ha
   cases ha
   cases o with
   | dK vs=>
    rw [pn]
    exact ⟨vs,cY,hc.1,IsDs.mono e hc.2⟩
   | _=>exact PM hc
 ·have hlt:a<(μ++[c]).length:=(NS.mp ha).1
  rcases split a hlt with h1|rfl
  ·rw [get a h1] at ha
   obtain ⟨vs,h2,h3,h4⟩:=R.st a ks ha
   rw [po a h1]
   exact ⟨vs,keep _ _ h2,h3,h4.mono e⟩
  ·rw [getn] at ha
   cases ha
   obtain ⟨L,rfl,h3,h4⟩:=hc
   rw [pn]
   exact ⟨L,cY,h3,h4.mono e⟩
 ·have hlt:a<(μ++[c]).length:=(NS.mp ha).1
  rcases split a hlt with h1|rfl
  ·rw [get a h1] at ha
   obtain ⟨vs,h2,h3,h4,h5⟩:=R.dT a kvs ha
   rw [po a h1]
   exact ⟨vs,keep _ _ h2,h3,h4.mono e,h5.mono e⟩
  ·rw [getn] at ha
   cases ha
   obtain ⟨L,rfl,h3,h4,h5⟩:=hc
   rw [pn]
   exact ⟨L,cY,h3,h4.mono e,h5.mono e⟩
 ·have hlt:a<(μ++[c]).length:=(NS.mp ha).1
  rcases split a hlt with h1|rfl
  ·rw [get a h1] at ha
   obtain ⟨ob,vs,h2,h3,h4,h5⟩:=R.dF a kvs ha
   rw [po a h1]
   exact ⟨ob,vs,keep _ _ h2,h3,h4.mono e,h5.mono e⟩
  ·rw [getn] at ha
   cases ha
   obtain ⟨ob,L,rfl,h3,h4,h5⟩:=hc
   rw [pn]
   exact ⟨ob,L,cY,h3,h4.mono e,h5.mono e⟩
theorem Rp.put0 {a:Nat}{c:C}{o u:HO}(R:Rp K π H μ)(ha:a<μ.length)(ho:H (π a)=some u)(hu:(∃ vs,u=.lst vs)\/(∃ vs,u=.dK vs)\/(∃ φ,u=.ext φ)\/∃ ob φ,u=.frz ob (.ext φ))(hc:rB K π μ.length H (π a) c o) :
  Ext0 π μ.length H π (μ.set a c).length (aI H (π a) o)/\Rp K π (aI H (π a) o) (μ.set a c):=by
 have hl:(μ.set a c).length=μ.length:=Ou ..
 have e:Ext0 π μ.length H π (μ.set a c).length (aI H (π a) o):=by
  refine ⟨SW hl.symm,fun _ _=>rfl,fun q vs z=>?_,fun q o' u' nx z=>?_⟩
  ·rw [bH]
   ·exact z
   ·intro e
    subst e
    rw [ho] at z
    rcases hu with ⟨w,rfl⟩|⟨w,rfl⟩|⟨w,rfl⟩|⟨ob,w,rfl⟩<;>cases z
  ·rw [bH]
   ·exact z
   ·intro e
    subst e
    rw [ho] at z
    rcases hu with ⟨w,rfl⟩|⟨w,rfl⟩|⟨w,rfl⟩|⟨ob,w,rfl⟩<;>cases z
    exact nx _ rfl
 have other:∀ b,b<μ.length->b≠a->aI H (π a) o (π b)=H (π b):=fun b hb hne=>bH fun q=>hne (R.inj b a hb ha q)
 refine ⟨e,⟨fun b b' hb hb'=>R.inj b b' (hl ▸ hb) (hl ▸ hb'),fun b hb=>?_,fun b xs hb=>?_,fun b kvs hb=>?_,fun b ks hb=>?_
  ,fun b kvs hb=>?_
  ,fun b kvs hb=>?_
  ⟩⟩
 ·by_cases h:b=a
  ·subst h
   rw [cY]
   rfl
  ·rw [other b (hl ▸ hb) h]
   exact R.has b (hl ▸ hb)
 ·have hlt:b<μ.length:=hl ▸ (NS.mp hb).1
  by_cases h:b=a
  ·subst h
   rw [OK hlt] at hb
   cases hb
   cases o with
   | lst vs=>exact ⟨vs,cY,IsDs.mono0 e hc⟩
   | _=>exact PM hc
  ·rw [NR (OB h)] at hb
   obtain ⟨vs,h2,h3⟩:=R.lst b xs hb
   exact ⟨vs,by rw [other b hlt h];exact h2,h3.mono0 e⟩
 ·have hlt:b<μ.length:=hl ▸ (NS.mp hb).1
  by_cases h:b=a
  ·subst h
   rw [OK hlt] at hb
   cases hb
   cases o with
   | dK vs=>exact ⟨vs,cY,hc.1,IsDs.mono0 e hc.2⟩
   | _=>exact PM hc
  ·rw [NR (OB h)] at hb
   obtain ⟨vs,h2,h3,h4⟩:=R.dK b kvs hb
   exact ⟨vs,by rw [other b hlt h];exact h2,h3,h4.mono0 e⟩
 ·have hlt:b<μ.length:=hl ▸ (NS.mp hb).1
  by_cases h:b=a
  ·subst h
   rw [OK hlt] at hb
   cases hb
   obtain ⟨L,rfl,h3,h4⟩:=hc
   exact ⟨L,cY,h3,h4.mono0 e⟩
  ·rw [NR (OB h)] at hb
   obtain ⟨vs,h2,h3,h4⟩:=R.st b ks hb
   exact ⟨vs,by rw [other b hlt h];exact h2,h3,h4.mono0 e⟩
 ·have hlt:b<μ.length:=hl ▸ (NS.mp hb).1
  by_cases h:b=a
  ·subst h
   rw [OK hlt] at hb
   cases hb
   obtain ⟨L,rfl,h3,h4,h5⟩:=hc
   exact ⟨L,cY,h3,h4.mono0 e,h5.mono0 e⟩
  ·rw [NR (OB h)] at hb
   obtain ⟨vs,h2,h3,h4,h5⟩:=R.dT b kvs hb
   exact ⟨vs,by rw [other b hlt h];exact h2,h3,h4.mono0 e,h5.mono0 e⟩
 ·have hlt:b<μ.length:=hl ▸ (NS.mp hb).1
  by_cases h:b=a
  ·subst h
   rw [OK hlt] at hb
   cases hb
   obtain ⟨ob,L,rfl,h3,h4,h5⟩:=hc
   exact ⟨ob,L,cY,h3,h4.mono0 e,h5.mono0 e⟩
  ·rw [NR (OB h)] at hb
   obtain ⟨ob,vs,h2,h3,h4,h5⟩:=R.dF b kvs hb
   exact ⟨ob,vs,by rw [other b hlt h];exact h2,h3,h4.mono0 e,h5.mono0 e⟩
theorem Rp.put {a:Nat}{c:C}{o u:HO}(R:Rp K π H μ)(ha:a<μ.length)(ho:H (π a)=some u)(hu:(∃ vs,u=.lst vs)\/(∃ vs,u=.dK vs)\/∃ φ,u=.ext φ)(hc:rB K π μ.length H (π a) c o) :
  Ext π μ.length H π (μ.set a c).length (aI H (π a) o)/\Rp K π (aI H (π a) o) (μ.set a c):=by
 have hl:(μ.set a c).length=μ.length:=Ou ..
 have e:Ext π μ.length H π (μ.set a c).length (aI H (π a) o):=by
  refine ⟨SW hl.symm,fun _ _=>rfl,fun q vs z=>?_,fun q o' u' z=>?_⟩
  ·rw [bH]
   ·exact z
   ·intro e
    subst e
    rw [ho] at z
    rcases hu with ⟨w,rfl⟩|⟨w,rfl⟩|⟨w,rfl⟩<;>cases z
  ·rw [bH]
   ·exact z
   ·intro e
    subst e
    rw [ho] at z
    rcases hu with ⟨w,rfl⟩|⟨w,rfl⟩|⟨w,rfl⟩<;>cases z
 exact ⟨e,(R.put0 ha ho (hu.imp_right fun h=>h.imp_right .inl) hc).2⟩
end
noncomputable def KC (K:NO)(Q:VK)(π:Nat->Addr)(n:Nat)(H:Hp)(d:D)(μ':Hm):Prop:=
 ∀ π' v H',Ext π n H π' μ'.length H'->Rp K π' H' μ'->IsD K π' μ'.length H' v d->Q v H'
theorem KC.after {K:NO}{Q:VK}{π π1:Nat->Addr}{n n1:Nat}{H H1:Hp}{d:D}{μ':Hm}(k:KC K Q π n H d μ')(e:Ext π n H π1 n1 H1):KC K Q π1 n1 H1 d μ':=
 fun π' v H' e' R i=>k π' v H' (e.trans e') R i
noncomputable def tM (K:NO)(m:ME):TE:=fun σ H Q=>∃ π ρ μ d μ',Rp K π H μ/\En K π μ.length H σ ρ/\m ρ μ=some (d,μ')/\KC K Q π μ.length H d μ'
noncomputable def cI (K:NO)(m:MT):TT:=fun σ H Q=>∃ π ρ μ b μ',Rp K π H μ/\En K π μ.length H σ ρ/\m ρ μ=some (b,μ')/\∀ π' H',Ext π μ.length H π' μ'.length H'->Rp K π' H' μ'->Q b H'
noncomputable def dM (K:NO)(m:MA):TA:=fun σ H Q=>∃ π ρ μ ds μ',Rp K π H μ/\En K π μ.length H σ ρ/\m ρ μ=some (ds,μ')/\∀ π' vs H',Ext π μ.length H π' μ'.length H'->Rp K π' H' μ'->IsDs K π' μ'.length H' vs ds->Q vs H'
noncomputable def k6 (K:NO)(E:Ends)(π:Nat->Addr)(n:Nat)(H:Hp)(fl:Fl)(ρ':aF)(μ':Hm):Prop:=
 match fl with
 | .nx=>∀ π' σ' H',Ext π n H π' μ'.length H'->Rp K π' H' μ'->En K π' μ'.length H' σ' ρ'->E.nx σ' H'
 | .bk=>∀ π' σ' H',Ext π n H π' μ'.length H'->Rp K π' H' μ'->En K π' μ'.length H' σ' ρ'->E.bk σ' H'
 | .ct=>∀ π' σ' H',Ext π n H π' μ'.length H'->Rp K π' H' μ'->En K π' μ'.length H' σ' ρ'->E.ct σ' H'
 | .rt d=>KC K E.rt π n H d μ'
noncomputable def cN (K:NO)(m:MS):TS:=fun E σ H=>∃ π ρ μ fl ρ' μ',Rp K π H μ/\En K π μ.length H σ ρ/\m ρ μ=some (fl,ρ',μ')/\k6 K E π μ.length H fl ρ' μ'
noncomputable def gA (K:NO)(k:Nat)(f:MF):Sp:=fun vs H Q _=>vs.length=k/\∃ π ds μ d μ',Rp K π H μ/\IsDs K π μ.length H vs ds/\f ds μ=some (d,μ')/\KC K Q π μ.length H d μ'
section
variable {X:Cx}{e a b c:N2}{t:TE}{m ma mb mc:ME}{pos:Py}
theorem cE (h:PE X e t)(hw:∀ σ H Q,tM X.K m σ H Q->t σ H Q):PE X e (tM X.K m):=fun XB s σ H Q I q=>h XB s σ H Q I (hw σ H Q q)
theorem rC {t:TT}{m:MT}(h:PT X e t)(hw:∀ σ H Q,cI X.K m σ H Q->t σ H Q):PT X e (cI X.K m):=fun XB s σ H Q I q=>h XB s σ H Q I (hw σ H Q q)
theorem xY {t:TT}{m:MT}(h:PW X e t)(hw:∀ σ H Q,cI X.K m σ H Q->t σ H Q):PW X e (cI X.K m):=fun wh XB s σ H Q I q=>h wh XB s σ H Q I (hw σ H Q q)
theorem xZ {es:List N2}{t:TA}{m:MA}(h:PA X es t)(hw:∀ σ H Q,dM X.K m σ H Q->t σ H Q):PA X es (dM X.K m):=fun p XB s σ H Q I q=>h p XB s σ H Q I (hw σ H Q q)
theorem gC {st:Stmt}{t:TS}{m:MS}(h:PS X st t)(hw:∀ E σ H,cN X.K m E σ H->t E σ H):PS X st (cN X.K m):=fun XB s σ H E I q=>h XB s σ H E I (hw E σ H q)
theorem x5 {st:List Stmt}{t:TS}{m:MS}(h:PSs X st t)(hw:∀ E σ H,cN X.K m E σ H->t E σ H):PSs X st (cN X.K m):=fun XB s σ H E I q=>h XB s σ H E I (hw E σ H q)
noncomputable def aA (i:Nat):ME:=fun ρ μ=>match ρ[i]? with|some (some d)=>some (d,μ)|_=>none
noncomputable def mC (d:D):ME:=fun _ μ=>some (d,μ)
theorem Fi {i:Nat}{ρ:aF}{μ μ':Hm}{d:D}(h:aA i ρ μ=some (d,μ')):ρ[i]? = some (some d)/\μ'=μ:=by
 unfold aA at h
 split at h
 ·rename_i d' e
  cases h
  exact ⟨e,rfl⟩
 ·cases h
theorem Fj {x:Str}(i:Nat)(h:PE X (.Name x pos) (v9 i)):PE X (.Name x pos) (tM X.K (aA i)):=cE h (by
 rintro σ H Q ⟨π,ρ,μ,d,μ',R,E,hm,k⟩
 obtain ⟨h1,rfl⟩:=Fi hm
 obtain ⟨v,h2,h3⟩:=E.get i d h1
 exact ⟨v,h2,k π v H .refl R h3⟩)
theorem k7 {v:V}{d:D}(h:PE X e (tC v))(hd:∀ π n H,IsD X.K π n H v d):PE X e (tM X.K (mC d)):=cE h (by
 rintro σ H Q ⟨π,ρ,μ,d',μ',R,E,hm,k⟩
 cases hm
 exact k π v H .refl R (hd _ _ _))
theorem Fm {i:Int}{j:Nat}:PE X (.Constant (.int i) j pos) (tM X.K (mC (.int i))):=k7 C6 fun _ _ _=>.int i
theorem Fn {i:Bool}{j:Nat}:PE X (.Constant (.bool i) j pos) (tM X.K (mC (.bl i))):=k7 C7 fun _ _ _=>.bl i
theorem Fo {i:Str}{j:Nat}:PE X (.Constant (.str i) j pos) (tM X.K (mC (.str i))):=k7 C9 fun _ _ _=>.str i
theorem Fp {j:Nat}:PE X (.Constant .none j pos) (tM X.K (mC .non)):=k7 C8 fun _ _ _=>.non
noncomputable def aB (f:D->D->Hm->Option (D×Hm))(a b:ME):ME:=fun ρ μ=>(a ρ μ).bind fun p=>(b ρ p.2).bind fun q=>f p.1 q.1 q.2
noncomputable def cO (K:NO)(f:D->D->Hm->Option (D×Hm))(r:R2):Prop:=
 ∀ π H μ x y d μ' vx vy Q,Rp K π H μ->IsD K π μ.length H vx x->IsD K π μ.length H vy y->f x y μ=some (d,μ')->KC K Q π μ.length H d μ'->r vx vy H Q
theorem mQ {f:D->D->Hm->Option (D×Hm)}{r:R2}{K:NO}(hf:cO K f r):∀ σ H Q,tM K (aB f ma mb) σ H Q->mN r (tM K ma) (tM K mb) σ H Q:=by
 rintro σ H Q ⟨π,ρ,μ,d,μ',R,E,hm,k⟩
 obtain ⟨⟨x,μ1⟩,h1,hm⟩:=NN.mp hm
 obtain ⟨⟨y,μ2⟩,h2,hm⟩:=NN.mp hm
 exact ⟨π,ρ,μ,x,μ1,R,E,h1,fun π1 v1 H1 e1 R1 i1=>⟨π1,ρ,μ1,y,μ2,R1,E.mono e1,h2,fun π2 v2 H2 e2 R2 i2=>hf π2 H2 μ2 x y d μ' v1 v2 Q R2 (i1.mono e2) i2 hm (k.after (e1.trans e2))⟩⟩
theorem Fq {op:Uv}{r:R2}{f:D->D->Hm->Option (D×Hm)}(ho:OpR X (Qm op) r)(hf:cO X.K f r)(ha:PE X a (tM X.K ma))(hb:PE X b (tM X.K mb)):PE X (.BinOp a op b pos) (tM X.K (aB f ma mb)):=
 cE (D2 ho ha hb) (mQ hf)
theorem d7 {op:RX}{r:R2}{f:D->D->Hm->Option (D×Hm)}(ho:OpR X (Pe op) r)(hf:cO X.K f r)(ha:PE X a (tM X.K ma))(hb:PE X b (tM X.K mb))(hm:Q6 op b=false):PE X (.Compare a [op] [b] pos) (tM X.K (aB f ma mb)):=
 cE (D9 ho ha hb hm) (mQ hf)
noncomputable def bC (m:ME):MT:=fun ρ μ=>(m ρ μ).bind fun p=>match p.1 with|.bl b=>some (b,p.2)|_=>none
theorem Fs {K:NO}:∀ σ H Q,cI K (bC m) σ H Q->tM K m σ H fun x H'=>∃ k,x=.bl k/\Q k H':=by
 rintro σ H Q ⟨π,ρ,μ,b,μ',R,E,hm,k⟩
 obtain ⟨⟨x,μ1⟩,h1,hm⟩:=NN.mp hm
 cases x with
 | bl c=>
  cases hm
  refine ⟨π,ρ,μ,_,_,R,E,h1,fun π' v H' e' R' i'=>?_⟩
  cases i'
  exact ⟨_,rfl,k π' H' e' R'⟩
 | _=>cases hm
theorem d8 {op:RX}{r:R2}{f:D->D->Hm->Option (D×Hm)}(ho:OpR X (Pe op) r)(hf:cO X.K f r)(ha:PE X a (tM X.K ma))(hb:PE X b (tM X.K mb))(hm:Q6 op b=false):PT X (.Compare a [op] [b] pos) (cI X.K (bC (aB f ma mb))):=
 rC (Eb ho ha hb hm) fun σ H Q h=>mQ hf σ H _ (Fs σ H Q h)
end
end L3
namespace L3
open PySem L2
section
variable {X:Cx}{e a b c:N2}{m ma mb mc:ME}{pos:Py}{mt mu:MT}{bJ:List N2}
noncomputable def jS (a b:MT):MT:=fun ρ μ=>(a ρ μ).bind fun p=>match p.1 with|true=>b ρ p.2|false=>some (false,p.2)
noncomputable def iL (a b:MT):MT:=fun ρ μ=>(a ρ μ).bind fun p=>match p.1 with|true=>some (true,p.2)|false=>b ρ p.2
noncomputable def k8 (a:MT):MT:=fun ρ μ=>(a ρ μ).map fun p=>(!p.1,p.2)
theorem Ft (ha:PT X a (cI X.K mt)):PW X (.BoolOp .And [a] pos) (cI X.K mt):=Di ha
theorem Fu (ha:PT X a (cI X.K mt)):PW X (.BoolOp .Or [a] pos) (cI X.K mt):=Dj ha
theorem Fv (ha:PT X a (cI X.K mt))(hb:PW X (.BoolOp .And (b::bJ) pos) (cI X.K mu)):PW X (.BoolOp .And (a::b::bJ) pos) (cI X.K (jS mt mu)):=xY (Dk ha hb) (by
 rintro σ H Q ⟨π,ρ,μ,d,μ',R,E,hm,k⟩
 obtain ⟨⟨x,μ1⟩,h1,hm⟩:=NN.mp hm
 refine ⟨π,ρ,μ,x,μ1,R,E,h1,fun π1 H1 e1 R1=>?_⟩
 cases x with
 | true=>
  refine kY ?_
  exact ⟨π1,ρ,μ1,d,μ',R1,E.mono e1,hm,fun π2 H2 e2 R2=>k π2 H2 (e1.trans e2) R2⟩
 | false=>
  refine kX ?_
  cases hm
  exact k π1 H1 e1 R1)
theorem Fw (ha:PT X a (cI X.K mt))(hb:PW X (.BoolOp .Or (b::bJ) pos) (cI X.K mu)):PW X (.BoolOp .Or (a::b::bJ) pos) (cI X.K (iL mt mu)):=xY (Dl ha hb) (by
 rintro σ H Q ⟨π,ρ,μ,d,μ',R,E,hm,k⟩
 obtain ⟨⟨x,μ1⟩,h1,hm⟩:=NN.mp hm
 refine ⟨π,ρ,μ,x,μ1,R,E,h1,fun π1 H1 e1 R1=>?_⟩
 cases x with
 | true=>
  refine kY ?_
  cases hm
  exact k π1 H1 e1 R1
 | false=>
  refine kX ?_
  exact ⟨π1,ρ,μ1,d,μ',R1,E.mono e1,hm,fun π2 H2 e2 R2=>k π2 H2 (e1.trans e2) R2⟩)
theorem Fx (ha:PT X a (cI X.K mt)):PT X (.UnaryOp .Not a pos) (cI X.K (k8 mt)):=rC (Dm ha) (by
 rintro σ H Q ⟨π,ρ,μ,d,μ',R,E,hm,k⟩
 obtain ⟨⟨x,μ1⟩,h1,hm⟩:=NU.mp hm
 cases hm
 exact ⟨π,ρ,μ,x,μ1,R,E,h1,fun π1 H1 e1 R1=>k π1 H1 e1 R1⟩)
noncomputable def iM (a b:ME):ME:=fun ρ μ=>(a ρ μ).bind fun p=>match p.1 with|.bl true=>b ρ p.2|.bl false=>some (.bl false,p.2)|_=>none
noncomputable def rD (a b:ME):ME:=fun ρ μ=>(a ρ μ).bind fun p=>match p.1 with|.bl true=>some (.bl true,p.2)|.bl false=>b ρ p.2|_=>none
noncomputable def rF (a:ME):ME:=fun ρ μ=>(a ρ μ).bind fun p=>match p.1 with|.bl b=>some (.bl (!b),p.2)|_=>none
theorem Fy {op:BoolOp}(h:PE X a (tM X.K m)):PE X (.BoolOp op [a] pos) (tM X.K m):=Dr h
theorem Fz (ha:PE X a (tM X.K ma))(hb:PE X (.BoolOp .And (b::bJ) pos) (tM X.K mb)):PE X (.BoolOp .And (a::b::bJ) pos) (tM X.K (iM ma mb)):=cE (Ds ha hb) (by
 rintro σ H Q ⟨π,ρ,μ,d,μ',R,E,hm,k⟩
 obtain ⟨⟨x,μ1⟩,h1,hm⟩:=NN.mp hm
 cases x with
 | bl c=>
  refine ⟨π,ρ,μ,.bl c,μ1,R,E,h1,fun π1 v1 H1 e1 R1 i1=>?_⟩
  cases i1
  refine ⟨c,rfl,?_⟩
  cases c with
  | true=>
   refine kY ?_
   exact ⟨π1,ρ,μ1,d,μ',R1,E.mono e1,hm,k.after e1⟩
  | false=>
   refine kX ?_
   cases hm
   exact k π1 _ H1 e1 R1 (.bl false)
 | _=>cases hm)
theorem FA (ha:PE X a (tM X.K ma))(hb:PE X (.BoolOp .Or (b::bJ) pos) (tM X.K mb)):PE X (.BoolOp .Or (a::b::bJ) pos) (tM X.K (rD ma mb)):=cE (Dt ha hb) (by
 rintro σ H Q ⟨π,ρ,μ,d,μ',R,E,hm,k⟩
 obtain ⟨⟨x,μ1⟩,h1,hm⟩:=NN.mp hm
 cases x with
 | bl c=>
  refine ⟨π,ρ,μ,.bl c,μ1,R,E,h1,fun π1 v1 H1 e1 R1 i1=>?_⟩
  cases i1
  refine ⟨c,rfl,?_⟩
  cases c with
  | true=>
   refine kY ?_
   cases hm
   exact k π1 _ H1 e1 R1 (.bl true)
  | false=>
   refine kX ?_
   exact ⟨π1,ρ,μ1,d,μ',R1,E.mono e1,hm,k.after e1⟩
 | _=>cases hm)
theorem FC (ha:PE X a (tM X.K ma)):PE X (.UnaryOp .Not a pos) (tM X.K (rF ma)):=cE (Du ha) (by
 rintro σ H Q ⟨π,ρ,μ,d,μ',R,E,hm,k⟩
 obtain ⟨⟨x,μ1⟩,h1,hm⟩:=NN.mp hm
 cases x with
 | bl c=>
  cases hm
  refine ⟨π,ρ,μ,_,_,R,E,h1,fun π1 v1 H1 e1 R1 i1=>?_⟩
  cases i1
  exact ⟨_,rfl,k π1 _ H1 e1 R1 (.bl _)⟩
 | _=>cases hm)
noncomputable def gY (t:MT)(a b:ME):ME:=fun ρ μ=>(t ρ μ).bind fun p=>match p.1 with|true=>a ρ p.2|false=>b ρ p.2
theorem FD (hc:PT X c (cI X.K mt))(ha:PE X a (tM X.K ma))(hb:PE X b (tM X.K mb)):PE X (.IfExp c a b pos) (tM X.K (gY mt ma mb)):=cE (Dw hc ha hb) (by
 rintro σ H Q ⟨π,ρ,μ,d,μ',R,E,hm,k⟩
 obtain ⟨⟨x,μ1⟩,h1,hm⟩:=NN.mp hm
 refine ⟨π,ρ,μ,x,μ1,R,E,h1,fun π1 H1 e1 R1=>?_⟩
 cases x with
 | true=>
  refine kY ?_
  exact ⟨π1,ρ,μ1,d,μ',R1,E.mono e1,hm,k.after e1⟩
 | false=>
  refine kX ?_
  exact ⟨π1,ρ,μ1,d,μ',R1,E.mono e1,hm,k.after e1⟩)
noncomputable def aD:MA:=fun _ μ=>some ([],μ)
noncomputable def aC (a:ME)(r:MA):MA:=fun ρ μ=>(a ρ μ).bind fun p=>(r ρ p.2).bind fun q=>some (p.1::q.1,q.2)
variable {es:List N2}{ms:MA}
theorem FE:PA X [] (dM X.K aD):=xZ Eh (by
 rintro σ H Q ⟨π,ρ,μ,d,μ',R,E,hm,k⟩
 cases hm
 exact k π [] H .refl R .nil)
theorem FF (ha:PE X e (tM X.K m))(hr:PA X es (dM X.K ms))(hs:OF (e::es) X.env=(false,eval e X.env)::OF es X.env:=by rfl):PA X (e::es) (dM X.K (aC m ms)):=xZ (Ei ha hr hs) (by
 rintro σ H Q ⟨π,ρ,μ,d,μ',R,E,hm,k⟩
 obtain ⟨⟨x,μ1⟩,h1,hm⟩:=NN.mp hm
 obtain ⟨⟨xs,μ2⟩,h2,hm⟩:=NN.mp hm
 cases hm
 exact ⟨π,ρ,μ,x,μ1,R,E,h1,fun π1 v1 H1 e1 R1 i1=>⟨π1,ρ,μ1,xs,μ2,R1,E.mono e1,h2,fun π2 vs H2 e2 R2 i2=>k π2 _ H2 (e1.trans e2) R2 (.cons (i1.mono e2) i2)⟩⟩)
noncomputable def cP (ms:MA):ME:=fun ρ μ=>(ms ρ μ).bind fun p=>if p.1.length<=N4 then some (.tup p.1,p.2) else none
noncomputable def c5 (ms:MA):ME:=fun ρ μ=>(ms ρ μ).bind fun p=>if p.1.length<=N4 then some (.loc p.2.length,p.2++[.lst p.1]) else none
theorem FG {x1:Nat}(h:PA X es (dM X.K ms)):PE X (.Tuple es x1 pos) (tM X.K (cP ms)):=cE (Em h) (by
 rintro σ H Q ⟨π,ρ,μ,d,μ',R,E,hm,k⟩
 obtain ⟨⟨xs,μ1⟩,h1,hm⟩:=NN.mp hm
 split at hm
 ·rename_i hl
  cases hm
  refine ⟨π,ρ,μ,_,_,R,E,h1,fun π1 vs H1 e1 R1 i1=>⟨by rw [i1.length];exact hl,fun p hp=>?_⟩⟩
  obtain ⟨e2,R2⟩:=R1.fresh (o:=.tup vs) hp
  exact k π1 _ _ (e1.trans e2) R2 (.tup (.of cY) (i1.mono e2))
 ·cases hm)
theorem FH (h:PA X es (dM X.K ms)):PE X (.List es pos) (tM X.K (c5 ms)):=cE (Eo h) (by
 rintro σ H Q ⟨π,ρ,μ,d,μ',R,E,hm,k⟩
 obtain ⟨⟨xs,μ1⟩,h1,hm⟩:=NN.mp hm
 split at hm
 ·rename_i hl
  cases hm
  refine ⟨π,ρ,μ,xs,μ1,R,E,h1,fun π1 vs H1 e1 R1 i1=>⟨by rw [i1.length];exact hl,fun p hp=>?_⟩⟩
  obtain ⟨e2,R2,q⟩:=R1.alloc (c:=.lst xs) (o:=.lst vs) hp i1
  have i2:IsD X.K (e8 π1 μ1.length p) (μ1++[C.lst xs]).length (aI H1 p (.lst vs)) (.ref p) (.loc μ1.length):=by
   have:=IsD.loc (K:=X.K) (π:=e8 π1 μ1.length p) (n:=(μ1++[C.lst xs]).length) (H:=aI H1 p (.lst vs)) (a:=μ1.length) (by simp)
   rw [q] at this
   exact this
  exact k _ _ _ (e1.trans e2) R2 i2
 ·cases hm)
noncomputable def aM (f:MF)(ms:MA):ME:=fun ρ μ=>(ms ρ μ).bind fun p=>f p.1 p.2
theorem FI {K:NO}{f:MF}{n:Nat}{E:XK}(hn:∀ ρ μ ds μ',ms ρ μ=some (ds,μ')->ds.length=n):∀ σ H Q,tM K (aM f ms) σ H Q->qT (gA K n f) [] E (dM K ms) σ H Q:=by
 rintro σ H Q ⟨π,ρ,μ,d,μ',R,E,hm,k⟩
 obtain ⟨⟨xs,μ1⟩,h1,hm⟩:=NN.mp hm
 refine ⟨π,ρ,μ,xs,μ1,R,E,h1,fun π1 vs H1 e1 R1 i1=>?_⟩
 show gA K n f (vs++[]) H1 Q _
 rw [Rv]
 exact ⟨by rw [i1.length];exact hn ρ μ xs μ1 h1,π1,xs,μ1,d,μ',R1,i1,hm,k.after e1⟩
theorem FJ:∀ ρ μ ds μ',aD ρ μ=some (ds,μ')->ds.length=0:=by
 intro ρ μ ds μ' h
 cases h
 rfl
theorem FK {n:Nat}(h:∀ ρ μ ds μ',ms ρ μ=some (ds,μ')->ds.length=n):∀ ρ μ ds μ',aC m ms ρ μ=some (ds,μ')->ds.length=n+1:=by
 intro ρ μ ds μ' hm
 obtain ⟨⟨x,μ1⟩,h1,hm⟩:=NN.mp hm
 obtain ⟨⟨xs,μ2⟩,h2,hm⟩:=NN.mp hm
 cases hm
 rw [OL,h ρ μ1 xs _ h2]
theorem FL {k:Nat}{f:Addr}{fd:P4}{ps:List Str}{fm:MF}{x:Str}{p:Py}{n:Nat}(F:FnOk X.prog X.w X.K X.mg X.base dZ k f fd ps (gA X.K n fm))(hr:Room k X.A)(hg:Gl X x)(hm:X.mg x=some (.ref f))
  (hk:Po X.K (.ref f)=true)(hb:Binds X.K fd ps [])(ha:PA X (e::es) (dM X.K ms))(hn:∀ ρ μ ds μ',ms ρ μ=some (ds,μ')->ds.length=n)(hdb:(x == ("__debug__":Str))=false:=by decide)
  (he:OF (e::es) X.env=(false,eval e X.env)::OF es X.env:=by rfl)(hpl:(Qg pos (OF es X.env)).any (·.1)=false:=by rfl) :
  PE X (.Call (.Name x p) (e::es) [] pos) (tM X.K (aM fm ms)):=
 cE (Ep F hr hg hm hk hb .nil (E:=E0) xS ha hdb he hpl) (FI hn)
noncomputable def cZ (K:NO)(f:MF)(r:List V->Hp->VK->Prop):Prop:=
 ∀ π H μ xs d μ' vs Q,Rp K π H μ->IsDs K π μ.length H vs xs->f xs μ=some (d,μ')->KC K Q π μ.length H d μ'->r vs H Q
theorem rG {K:NO}{f:MF}{r:List V->Hp->VK->Prop}(hf:cZ K f r):∀ σ H Q,tM K (aM f ms) σ H Q->oE r (dM K ms) σ H Q:=by
 rintro σ H Q ⟨π,ρ,μ,d,μ',R,E,hm,k⟩
 obtain ⟨⟨xs,μ1⟩,h1,hm⟩:=NN.mp hm
 exact ⟨π,ρ,μ,xs,μ1,R,E,h1,fun π1 vs H1 e1 R1 i1=>hf π1 H1 μ1 xs d μ' vs Q R1 i1 hm (k.after e1)⟩
theorem FN {f:MF}{r:List V->Hp->VK->Prop}{id:String}{x:Str}{p:Py}(hc:CallR X (.builtin id) r)(hf:cZ X.K f r)(hg:Gl X x)(hm:X.mg x=none)(hv:Pf x=some (.builtin id))(ha:PA X (e::es) (dM X.K ms))
  (hn:x ≠ "__name__":=by decide) (hdb:(x == ("__debug__":Str))=false:=by decide)
  (he:OF (e::es) X.env=(false,eval e X.env)::OF es X.env:=by rfl)(hpl:(Qg pos (OF es X.env)).any (·.1)=false:=by rfl):PE X (.Call (.Name x p) (e::es) [] pos) (tM X.K (aM f ms)):=
 cE (Eu hc hg hm hv ha hn hdb he hpl) (rG hf)
theorem FP {f:MF}{r:List V->Hp->VK->Prop}{T:String}{x:Str}{p:Py}(hc:CallR X (.type T) r)(hf:cZ X.K f r)(hg:Gl X x)(hm:X.mg x=none)(hv:Pf x=some (.type T))(ha:PA X (e::es) (dM X.K ms))
  (hn:x ≠ "__name__":=by decide) (hdb:(x == ("__debug__":Str))=false:=by decide)
  (he:OF (e::es) X.env=(false,eval e X.env)::OF es X.env:=by rfl)(hpl:(Qg pos (OF es X.env)).any (·.1)=false:=by rfl):PE X (.Call (.Name x p) (e::es) [] pos) (tM X.K (aM f ms)):=
 cE (Ew hc hg hm hv ha hn hdb he hpl) (rG hf)
noncomputable def bM (μ:Hm):D->Option (List D)
 | .tup xs=>some xs
 | .rol xs=>some xs
 | .loc a=>match μ[a]? with|some (.lst xs)=>some xs|_=>none
 | _=>none
noncomputable def eK:D->D->Hm->Option (D×Hm)
 | .str z,.int i,μ=>if z.length<=N4 then (atI z.cps.toList i).map fun c=>(.str ⟨#[c]⟩,μ) else none
 | x,.int i,μ=>(bM μ x).bind fun xs=>(atI xs i).map fun d=>(d,μ)
 | _,_,_=>none
theorem FQ {K:NO}:cO K eK (xE K):=by
 intro π H μ x y d μ' vx vy Q R ix iy hm k
 cases iy with
 | int i=>
  cases ix with
  | str z=>
   simp only [eK] at hm
   split at hm
   ·rename_i hl
    obtain ⟨c,h1,h2⟩:=NU.mp hm
    cases h2
    exact .inr (.inr ⟨z,i,c,rfl,rfl,hl,h1,k π _ H .refl R (.str _)⟩)
   ·cases hm
  | tup h t=>
   simp only [eK,bM,Od] at hm
   obtain ⟨d',h1,h2⟩:=NU.mp hm
   cases h2
   obtain ⟨v,h3,h4⟩:=t.atI h1
   exact .inr (.inl ⟨_,_,i,v,rfl,rfl,h,h3,k π _ H .refl R h4⟩)
  | rol h t=>
   simp only [eK,bM,Od] at hm
   obtain ⟨d',h1,h2⟩:=NU.mp hm
   cases h2
   obtain ⟨v,h3,h4⟩:=t.atI h1
   exact .inl ⟨_,_,i,v,rfl,rfl,h.sq,h3,k π _ H .refl R h4⟩
  | @loc a ha=>
   simp only [eK,bM] at hm
   split at hm
   ·rename_i xs hx
    simp only [Od] at hm
    obtain ⟨d',h1,h2⟩:=NU.mp hm
    cases h2
    obtain ⟨vs,h5,h6⟩:=R.lst a xs hx
    obtain ⟨v,h3,h4⟩:=h6.atI h1
    exact .inl ⟨_,_,i,v,rfl,rfl,.of h5,h3,k π _ H .refl R h4⟩
   ·cases hm
  | _=>simp [eK,bM] at hm
 | _=>cases ix<;>simp [eK] at hm
theorem FR (ha:PE X a (tM X.K ma))(hb:PE X b (tM X.K mb))(hs:qW b):PE X (.Subscript a b pos) (tM X.K (aB eK ma mb)):=cE (EH EJ ha hb hs) (mQ FQ)
noncomputable def gZ (xs:List D)(lo hi:Option Int):List D:=(xs.drop (HT.sIx xs.length 0 lo)).take (HT.sIx xs.length xs.length hi - HT.sIx xs.length 0 lo)
noncomputable abbrev MO:=aF->Hm->Option (Option Int×Hm)
noncomputable def iN:MO:=fun _ μ=>some (none,μ)
noncomputable def iO (m:ME):MO:=fun ρ μ=>(m ρ μ).bind fun p=>match p.1 with|.int i=>some (some i,p.2)|_=>none
noncomputable def mR (K:NO)(m:MO):TO:=fun σ H Q=>∃ π ρ μ o μ',Rp K π H μ/\En K π μ.length H σ ρ/\m ρ μ=some (o,μ')/\∀ π' H',Ext π μ.length H π' μ'.length H'->Rp K π' H' μ'->Q o H'
theorem FT:PO X none (mR X.K iN):=fun XB s σ H Q I q=>EB XB s σ H Q I (by
 obtain ⟨π,ρ,μ,o,μ',R,E,hm,k⟩:=q
 cases hm
 exact k π H .refl R)
theorem FU (h:PE X e (tM X.K m)):PO X (some e) (mR X.K (iO m)):=fun XB s σ H Q I q=>EC h XB s σ H Q I (by
 obtain ⟨π,ρ,μ,o,μ',R,E,hm,k⟩:=q
 obtain ⟨⟨x,μ1⟩,h1,hm⟩:=NN.mp hm
 cases x with
 | int i=>
  cases hm
  refine ⟨π,ρ,μ,_,_,R,E,h1,fun π1 v1 H1 e1 R1 i1=>?_⟩
  cases i1
  exact ⟨_,rfl,k π1 H1 e1 R1⟩
 | _=>cases hm)
noncomputable abbrev yA (K:NO):V->Option Int->Option Int->Hp->VK->Prop:=qX K
theorem FV {X:Cx}:SlR X (yA X.K):=ER
theorem yB {K:NO}{x:V}{lo hi:Option Int}{H:Hp}{Q:VK}(h:qX K x lo hi H Q):yA K x lo hi H Q:=h
noncomputable def jT (a:ME)(lo hi:MO):ME:=fun ρ μ=>(a ρ μ).bind fun p=>(lo ρ p.2).bind fun q=>(hi ρ q.2).bind fun r=>
 match p.1 with
 | .tup _=>none
 | x=>(bM r.2 x).bind fun xs=>some (.loc r.2.length,r.2++[.lst (gZ xs q.1 r.1)])
theorem yC {K:NO}{π:Nat->Addr}{n:Nat}{H:Hp}{vs:List V}{ds:List D}(h:IsDs K π n H vs ds)(lo hi:Option Int):IsDs K π n H (iK vs lo hi) (gZ ds lo hi):=by
 unfold iK gZ
 rw [h.length]
 exact (h.drop _).take _
theorem fA {K:NO}{π:Nat->Addr}{μ:Hm}{p:Addr}{c:C}{H:Hp}:IsD K (e8 π μ.length p) (μ++[c]).length H (.ref p) (.loc μ.length):=by
 have:=IsD.loc (K:=K) (π:=e8 π μ.length p) (n:=(μ++[c]).length) (H:=H) (a:=μ.length) (by simp)
 rw [show e8 π μ.length p μ.length=p from if_pos rfl] at this
 exact this
theorem FW {lo hi:Option N2}{ml mh:MO}{p2:Py}(ha:PE X a (tM X.K ma))(hl:PO X lo (mR X.K ml))(hu:PO X hi (mR X.K mh)):PE X (.Subscript a (.Slice lo hi none p2) pos) (tM X.K (jT ma ml mh)):=cE (EE FV ha hl hu) (by
 rintro σ H Q ⟨π,ρ,μ,d,μ',R,E,hm,k⟩
 obtain ⟨⟨x,μ1⟩,h1,hm⟩:=NN.mp hm
 obtain ⟨⟨l,μ2⟩,h2,hm⟩:=NN.mp hm
 obtain ⟨⟨u,μ3⟩,h3,hm⟩:=NN.mp hm
 refine ⟨π,ρ,μ,x,μ1,R,E,h1,fun π1 v1 H1 e1 R1 i1=>⟨π1,ρ,μ1,l,μ2,R1,E.mono e1,h2,fun π2 H2 e2 R2=>⟨π2,ρ,μ2,u,μ3,R2,(E.mono e1).mono e2,h3,fun π3 H3 e3 R3=>?_⟩⟩⟩
 have i3:=(i1.mono e2).mono e3
 cases i3 with
 | rol h t=>
  simp only [bM,Od] at hm
  cases hm
  refine yB ⟨_,_,rfl,h.sq,fun p hp=>?_⟩
  obtain ⟨e4,R4,q⟩:=R3.alloc (c:=.lst (gZ _ l u)) (o:=.lst (iK _ l u)) hp (yC t l u)
  exact k _ _ _ (((e1.trans e2).trans e3).trans e4) R4 fA
 | @loc i hi'=>
  simp only [bM] at hm
  split at hm
  ·rename_i xs hx
   simp only [Od] at hm
   cases hm
   obtain ⟨vs,h5,h6⟩:=R3.lst i xs hx
   refine yB ⟨_,_,rfl,.of h5,fun p hp=>?_⟩
   obtain ⟨e4,R4,q⟩:=R3.alloc (c:=.lst (gZ xs l u)) (o:=.lst (iK vs l u)) hp (yC h6 l u)
   exact k _ _ _ (((e1.trans e2).trans e3).trans e4) R4 fA
  ·cases hm
 | tup h t=>simp at hm
 | _=>simp [bM] at hm)
end
section
variable {X:Cx}{e a b c:N2}{m:ME}{pos:Py}{mt:MT}{st:Stmt}{bJ body orelse:List Stmt}{ms mr mu:MS}
noncomputable def b6:MS:=fun ρ μ=>some (.nx,ρ,μ)
noncomputable def aG (a b:MS):MS:=fun ρ μ=>(a ρ μ).bind fun p=>match p.1 with|.nx=>b p.2.1 p.2.2|_=>some p
noncomputable def b8 (m:ME):MS:=fun ρ μ=>(m ρ μ).map fun p=>(.rt p.1,ρ,p.2)
noncomputable def eL (m:ME):MS:=fun ρ μ=>(m ρ μ).map fun p=>(.nx,ρ,p.2)
noncomputable def bS (t:MT)(a b:MS):MS:=fun ρ μ=>(t ρ μ).bind fun p=>match p.1 with|true=>a ρ p.2|false=>b ρ p.2
noncomputable def bA (i:Nat)(m:ME):MS:=fun ρ μ=>(m ρ μ).map fun p=>(.nx,ρ.set i (some p.1),p.2)
theorem FX:PSs X [] (cN X.K b6):=x5 Dz (by
 rintro E σ H ⟨π,ρ,μ,fl,ρ',μ',R,EN,hm,k⟩
 cases hm
 exact k π σ H .refl R EN)
theorem FY (h1:PS X st (cN X.K ms))(h2:PSs X bJ (cN X.K mr)):PSs X (st::bJ) (cN X.K (aG ms mr)):=x5 (DA h1 h2) (by
 rintro E σ H ⟨π,ρ,μ,fl,ρ',μ',R,EN,hm,k⟩
 obtain ⟨⟨f1,ρ1,μ1⟩,h1,hm⟩:=NN.mp hm
 refine ⟨π,ρ,μ,f1,ρ1,μ1,R,EN,h1,?_⟩
 cases f1 with
 | nx=>
  intro π1 σ1 H1 e1 R1 E1
  refine ⟨π1,ρ1,μ1,fl,ρ',μ',R1,E1,hm,?_⟩
  cases fl with
  | nx=>exact fun π2 σ2 H2 e2 R2 E2=>k π2 σ2 H2 (e1.trans e2) R2 E2
  | bk=>exact fun π2 σ2 H2 e2 R2 E2=>k π2 σ2 H2 (e1.trans e2) R2 E2
  | ct=>exact fun π2 σ2 H2 e2 R2 E2=>k π2 σ2 H2 (e1.trans e2) R2 E2
  | rt d=>exact KC.after k e1
 | rt d=>cases hm;exact k
 | bk=>cases hm;exact k
 | ct=>cases hm;exact k)
theorem FZ (h1:PS X st (cN X.K ms)):PSs X [st] (cN X.K ms):=DB h1
theorem F0:PS X (.Pass pos) (cN X.K b6):=gC DC (by
 rintro E σ H ⟨π,ρ,μ,fl,ρ',μ',R,EN,hm,k⟩
 cases hm
 exact k π σ H .refl R EN)
theorem F3 (he:PE X e (tM X.K m)):PS X (.Return (some e) pos) (cN X.K (b8 m)):=gC (DG he) (by
 rintro E σ H ⟨π,ρ,μ,fl,ρ',μ',R,EN,hm,k⟩
 obtain ⟨⟨x,μ1⟩,h1,hm⟩:=NU.mp hm
 cases hm
 exact ⟨π,ρ,μ,x,μ1,R,EN,h1,k⟩)
theorem F4 (he:PE X e (tM X.K m))(hs:Ry e none pos.line X.env=pure false:=by rfl):PS X (.Expr e pos) (cN X.K (eL m)):=gC (DE he hs) (by
 rintro E σ H ⟨π,ρ,μ,fl,ρ',μ',R,EN,hm,k⟩
 obtain ⟨⟨x,μ1⟩,h1,hm⟩:=NU.mp hm
 cases hm
 exact ⟨π,ρ,μ,x,μ1,R,EN,h1,fun π1 v1 H1 e1 R1 i1=>k π1 σ H1 e1 R1 (EN.mono e1)⟩)
theorem F5 (hc:PT X c (cI X.K mt))(ha:PSs X body (cN X.K ms))(hb:PSs X orelse (cN X.K mu)):PS X (.If c body orelse pos) (cN X.K (bS mt ms mu)):=gC (DK hc ha hb) (by
 rintro E σ H ⟨π,ρ,μ,fl,ρ',μ',R,EN,hm,k⟩
 obtain ⟨⟨x,μ1⟩,h1,hm⟩:=NN.mp hm
 refine ⟨π,ρ,μ,x,μ1,R,EN,h1,fun π1 H1 e1 R1=>?_⟩
 have k':k6 X.K E π1 μ1.length H1 fl ρ' μ':=by
  cases fl with
  | nx=>exact fun π2 σ2 H2 e2 R2 E2=>k π2 σ2 H2 (e1.trans e2) R2 E2
  | bk=>exact fun π2 σ2 H2 e2 R2 E2=>k π2 σ2 H2 (e1.trans e2) R2 E2
  | ct=>exact fun π2 σ2 H2 e2 R2 E2=>k π2 σ2 H2 (e1.trans e2) R2 E2
  | rt d=>exact KC.after k e1
 cases x with
 | true=>
  refine kY ?_
  exact ⟨π1,ρ,μ1,fl,ρ',μ',R1,EN.mono e1,hm,k'⟩
 | false=>
  refine kX ?_
  exact ⟨π1,ρ,μ1,fl,ρ',μ',R1,EN.mono e1,hm,k'⟩)
theorem yD {i:Nat}{x:Str}{pos':Py}(hN:X.N.Nodup)(hi:X.N[i]? = some x)(hx:Loc X.env.scope x)(he:PE X e (tM X.K m))(hs:Ry e (some (.Name x pos')) pos.line X.env=pure false:=by rfl)
  (hf:X.fn x=true\/X.env.scope.names.lookup x=some .local:=by first|exact .inl rfl|exact .inr rfl|assumption):PS X (.Assign [.Name x pos'] e pos) (cN X.K (bA i m)):=gC (DP hN hi hx he hs hf) (by
 rintro E σ H ⟨π,ρ,μ,fl,ρ',μ',R,EN,hm,k⟩
 obtain ⟨⟨x,μ1⟩,h1,hm⟩:=NU.mp hm
 cases hm
 exact ⟨π,ρ,μ,x,μ1,R,EN,h1,fun π1 v1 H1 e1 R1 i1=>k π1 _ H1 e1 R1 ((EN.mono e1).set i1 i)⟩)
end
noncomputable def oJ (n:Nat)(ds:List D):aF:=ds.map some++PF (n - ds.length) none
noncomputable def rH (n:Nat)(m:MS):MF:=fun ds μ=>(m (oJ n ds) μ).bind fun p=>match p.1 with|.rt d=>some (d,p.2.2)|.nx=>some (.non,p.2.2)|_=>none
theorem F6 {K:NO}{π:Nat->Addr}{n:Nat}{H:Hp}{N:List Str}{vs:List V}{ds:List D}(h:IsDs K π n H vs ds)(hl:vs.length<=N.length):En K π n H (L2.start N vs) (oJ N.length ds):=by
 have hlen:=h.length
 refine ⟨by simp [L2.start,oJ,hlen],fun i d e=>?_⟩
 unfold oJ at e
 unfold L2.start
 by_cases hi:i<ds.length
 ·rw [OM (by simpa using hi),Ol] at e
  obtain ⟨d',h1,h2⟩:=NU.mp e
  cases h2
  obtain ⟨v,h3,h4⟩:=h.get h1
  exact ⟨v,by rw [OM (by rw [NP,hlen];exact hi),Ol,h3];rfl,h4⟩
 ·rw [Pr (by simpa using Q4.mp hi)] at e
  have:=Qf (n:=N.length - ds.length) (a:=(none:Option D)) (i:=i - (ds.map some).length)
  rw [this] at e
  split at e<;>simp at e
section
variable {P:Oo}{w:OO}{K:NO}{mg:Str->Option NT}{base:O3}
theorem F7 {x qual:Str}{st:Stmt}{f:Addr}{fd:P4}{N ps:List Str}{k:Nat}{m:MS}(F:Fun K x qual st f fd)(S:FnScope N ps (cA st))(hps:ps.length<=N.length)
  (hbody:∀ (cdv:NT)(A:OG)(outer:List SI)(s:NV)(H:Hp)(E:XK),Room k (A.deeper (Tx qual (cA st) s.heap.objs.size f cdv))->
   PSs (gW dZ P w K mg base N qual (cA st) f cdv A outer s H E).nox (eJ st) (cN K m)):FnOk P w K mg base dZ (k+1) f fd ps (gA K ps.length (rH N.length m)):=by
 refine F.ok S (fun vs H Q E h=>h.1) fun cdv A outer s H vs Q E hr h=>⟨_,hbody cdv A outer s H E hr,?_⟩
 obtain ⟨hv,π,ds,μ,d,μ',R,i,hm,kc⟩:=h
 obtain ⟨⟨fl,ρ',μ1⟩,h1,hm⟩:=NN.mp hm
 refine ⟨π,_,μ,fl,ρ',μ1,R,F6 i (by rw [hv];exact hps),h1,?_⟩
 cases fl with
 | rt d'=>cases hm;exact kc
 | nx=>cases hm;exact fun π1 σ1 H1 e1 R1 E1=>kc π1 .non H1 e1 R1 .non
 | bk=>cases hm
 | ct=>cases hm
end
end L3
namespace L3
open PySem L2
open SeqAt (EqAt RcAt RcNeAt)
inductive KD where
 | non|bl (b:Bool)|int (i:Int)|str (x:Str)|tup (n:Nat)|lst (n:Nat)
inductive IsK (s:NV):NT->KD->Prop where
 | non:IsK s .none .non
 | bl (b:Bool):IsK s (.bool b) (.bl b)
 | int (i:Int)(t:Tok):IsK s (.int i t) (.int i)
 | str (x:Str)(t:Tok):IsK s (.str x t) (.str x)
 | tup {l:Addr}{its:List NT}(h:s.heap.IsTuple l its.toArray):IsK s (.ref l) (.tup its.length)
 | lst {l:Addr}{its:List NT}(h:s.heap.IsList l its.toArray):IsK s (.ref l) (.lst its.length)
noncomputable def k9 (e:Nat->Bool):KD->KD->Bool
 | .non,.non=>true
 | .bl a,.bl b=>a == b
 | .bl a,.int b=>(if a then 1 else 0) == b
 | .int a,.bl b=>a == (if b then 1 else 0)
 | .int a,.int b=>a == b
 | .str a,.str b=>a == b
 | .tup n,.tup k=>(ON (min n k)).all e&&n == k
 | .lst n,.lst k=>(ON (min n k)).all e&&n == k
 | _,_=>false
noncomputable def oK (A:OG)(s:NV)(u v:NT)(e:Nat->Bool):Prop:=
 (∀ l b items items2,u=.ref l->v=.ref b->s.heap.IsTuple l items->s.heap.IsTuple b items2->∀ j (h1:j<items.size)(h2:j<items2.size),EqAt A.in1 s items[j] items2[j] (e j)) /\
 (∀ l b items items2,u=.ref l->v=.ref b->s.heap.IsList l items->s.heap.IsList b items2->∀ j (h1:j<items.size)(h2:j<items2.size),EqAt A.in1 s items[j] items2[j] (e j))
section
variable {A:OG}{s:NV}{u v:NT}{k k':KD}{e:Nat->Bool}
theorem yE {n k:Nat}(e:Nat->Bool)(h:n=k):((ON (min n k)).all e&&n == k)=(ON n).all e:=by
 subst h
 simp
theorem yF {n k:Nat}(e:Nat->Bool)(h:n≠k):((ON (min n k)).all e&&n == k)=false:=by
 simp [h]
theorem rJ (h:IsK s u k)(h':IsK s v k')(hu:A.units<PR)(he:oK A s u v e):RcAt A s u v (k9 e k k'):=by
 cases h with
 | non=>
  cases h' with
  | non=>exact RcAt.none_none
  | bl b=>exact RcAt.none_bool b
  | int i t=>exact RcAt.none_int i t
  | str x t=>exact RcAt.none_str x t
  | tup h=>exact RcAt.none_tuple h hu
  | lst h=>exact RcAt.none_list h hu
 | bl a=>
  cases h' with
  | non=>exact RcAt.bool_none a
  | bl b=>exact RcAt.bool_bool a b
  | int i t=>exact RcAt.bool_int a i t
  | str x t=>exact RcAt.bool_str a x t
  | tup h=>exact RcAt.bool_tuple a h hu
  | lst h=>exact RcAt.bool_list a h hu
 | int a ta=>
  cases h' with
  | non=>exact RcAt.int_none a ta
  | bl b=>exact RcAt.int_bool a ta b
  | int i t=>exact RcAt.int_int a ta i t
  | str x t=>exact RcAt.int_str a ta x t
  | tup h=>exact RcAt.int_tuple a ta h hu
  | lst h=>exact RcAt.int_list a ta h hu
 | str a ta=>
  cases h' with
  | non=>exact RcAt.str_none a ta
  | bl b=>exact RcAt.str_bool a ta b
  | int i t=>exact RcAt.str_int a ta i t
  | str x t=>exact RcAt.str_str a ta x t
  | tup h=>exact RcAt.str_tuple a ta h hu
  | lst h=>exact RcAt.str_list a ta h hu
 | tup g=>
  cases h' with
  | non=>exact RcAt.tuple_none g hu
  | bl b=>exact RcAt.tuple_bool b g hu
  | int i t=>exact RcAt.tuple_int i t g hu
  | str x t=>exact RcAt.tuple_str x t g hu
  | tup h=>
   have:=RcAt.tuples (e:=e) g h hu (he.1 _ _ _ _ rfl rfl g h)
   simpa [k9] using this
  | lst h=>exact RcAt.tuple_list g h hu
 | lst g=>
  cases h' with
  | non=>exact RcAt.list_none g hu
  | bl b=>exact RcAt.list_bool b g hu
  | int i t=>exact RcAt.list_int i t g hu
  | str x t=>exact RcAt.list_str x t g hu
  | tup h=>exact RcAt.list_tuple g h hu
  | @lst b its2 h=>
   rename_i l its
   by_cases hl:its.length=its2.length
   ·have:=RcAt.lists (e:=e) g h (by simpa using hl) hu (he.2 _ _ _ _ rfl rfl g h)
    show RcAt A s _ _ ((ON (min its.length its2.length)).all e&&its.length == its2.length)
    rw [yE e hl]
    simpa using this
   ·have:=RcAt.lists_lengths g h (by simpa using hl) hu
    show RcAt A s _ _ ((ON (min its.length its2.length)).all e&&its.length == its2.length)
    rw [yF e hl]
    exact this
theorem F8 (h:IsK s u k)(h':IsK s v k')(hu:A.units<PR)(he:oK A s u v e):RcNeAt A s u v (!k9 e k k'):=by
 cases h with
 | non=>
  cases h' with
  | non=>exact RcNeAt.none_none
  | bl b=>exact RcNeAt.none_bool b
  | int i t=>exact RcNeAt.none_int i t
  | str x t=>exact RcNeAt.none_str x t
  | tup h=>exact RcNeAt.none_tuple h hu
  | lst h=>exact RcNeAt.none_list h hu
 | bl a=>
  cases h' with
  | non=>exact RcNeAt.bool_none a
  | bl b=>exact RcNeAt.bool_bool a b
  | int i t=>exact RcNeAt.bool_int a i t
  | str x t=>exact RcNeAt.bool_str a x t
  | tup h=>exact RcNeAt.bool_tuple a h hu
  | lst h=>exact RcNeAt.bool_list a h hu
 | int a ta=>
  cases h' with
  | non=>exact RcNeAt.int_none a ta
  | bl b=>exact RcNeAt.int_bool a ta b
  | int i t=>exact RcNeAt.int_int a ta i t
  | str x t=>exact RcNeAt.int_str a ta x t
  | tup h=>exact RcNeAt.int_tuple a ta h hu
  | lst h=>exact RcNeAt.int_list a ta h hu
 | str a ta=>
  cases h' with
  | non=>exact RcNeAt.str_none a ta
  | bl b=>exact RcNeAt.str_bool a ta b
  | int i t=>exact RcNeAt.str_int a ta i t
  | str x t=>exact RcNeAt.str_str a ta x t
  | tup h=>exact RcNeAt.str_tuple a ta h hu
  | lst h=>exact RcNeAt.str_list a ta h hu
 | tup g=>
  cases h' with
  | non=>exact RcNeAt.tuple_none g hu
  | bl b=>exact RcNeAt.tuple_bool b g hu
  | int i t=>exact RcNeAt.tuple_int i t g hu
  | str x t=>exact RcNeAt.tuple_str x t g hu
  | tup h=>
   have:=RcNeAt.tuples (e:=e) g h hu (he.1 _ _ _ _ rfl rfl g h)
   simpa [k9] using this
  | lst h=>exact RcNeAt.tuple_list g h hu
 | lst g=>
  cases h' with
  | non=>exact RcNeAt.list_none g hu
  | bl b=>exact RcNeAt.list_bool b g hu
  | int i t=>exact RcNeAt.list_int i t g hu
  | str x t=>exact RcNeAt.list_str x t g hu
  | tup h=>exact RcNeAt.list_tuple g h hu
  | @lst b its2 h=>
   rename_i l its
   by_cases hl:its.length=its2.length
   ·have:=RcNeAt.lists (e:=e) g h (by simpa using hl) hu (he.2 _ _ _ _ rfl rfl g h)
    show RcNeAt A s _ _ (!((ON (min its.length its2.length)).all e&&its.length == its2.length))
    rw [yE e hl]
    simpa using this
   ·have:=RcNeAt.lists_lengths g h (by simpa using hl) hu
    show RcNeAt A s _ _ (!((ON (min its.length its2.length)).all e&&its.length == its2.length))
    rw [yF e hl]
    exact this
theorem F9 (h:IsK s u k)(h':IsK s v k')(hu:A.units<PR)(he:oK A s u v e)(hne:∀ l b,u=.ref l->v=.ref b->l≠b):EqAt A s u v (k9 e k k'):=by
 cases h with
 | non=>
  cases h' with
  | non=>exact EqAt.same _
  | bl b=>exact EqAt.none_bool b
  | int i t=>exact EqAt.none_int i t
  | str x t=>exact EqAt.none_str x t
  | tup h=>exact EqAt.none_tuple h hu
  | lst h=>exact EqAt.none_list h hu
 | bl a=>
  cases h' with
  | non=>exact EqAt.bool_none a
  | bl b=>exact EqAt.bool_bool a b
  | int i t=>exact EqAt.bool_int a i t
  | str x t=>exact EqAt.bool_str a x t
  | tup h=>exact EqAt.bool_tuple a h hu
  | lst h=>exact EqAt.bool_list a h hu
 | int a ta=>
  cases h' with
  | non=>exact EqAt.int_none a ta
  | bl b=>exact EqAt.int_bool a ta b
  | int i t=>exact EqAt.int_int a ta i t
  | str x t=>exact EqAt.int_str a ta x t
  | tup h=>exact EqAt.int_tuple a ta h hu
  | lst h=>exact EqAt.int_list a ta h hu
 | str a ta=>
  cases h' with
  | non=>exact EqAt.str_none a ta
  | bl b=>exact EqAt.str_bool a ta b
  | int i t=>exact EqAt.str_int a ta i t
  | str x t=>exact EqAt.str_str a ta x t
  | tup h=>exact EqAt.str_tuple a ta h hu
  | lst h=>exact EqAt.str_list a ta h hu
 | @tup l its g=>
  cases h' with
  | non=>exact EqAt.tuple_none g hu
  | bl b=>exact EqAt.tuple_bool b g hu
  | int i t=>exact EqAt.tuple_int i t g hu
  | str x t=>exact EqAt.tuple_str x t g hu
  | @tup b its2 h=>exact EqAt.of_refs (hne l b rfl rfl) (rJ (k:=.tup its.length) (k':=.tup its2.length) (.tup g) (.tup h) hu he)
  | lst h=>exact EqAt.tuple_list g h hu
 | @lst l its g=>
  cases h' with
  | non=>exact EqAt.list_none g hu
  | bl b=>exact EqAt.list_bool b g hu
  | int i t=>exact EqAt.list_int i t g hu
  | str x t=>exact EqAt.list_str x t g hu
  | tup h=>exact EqAt.list_tuple g h hu
  | @lst b its2 h=>exact EqAt.of_refs (hne l b rfl rfl) (rJ (k:=.lst its.length) (k':=.lst its2.length) (.lst g) (.lst h) hu he)
end
inductive KdD where
 | non|bl (b:Bool)|int (i:Int)|str (x:Str)|tup (xs:List D)|lst (xs:List D)
noncomputable def c3 (μ:Hm):D->Option KdD
 | .non=>some .non
 | .bl b=>some (.bl b)
 | .int i=>some (.int i)
 | .str x=>some (.str x)
 | .tup xs=>some (.tup xs)
 | .rol xs=>some (.lst xs)
 | .loc a=>match μ[a]? with|some (.lst xs)=>some (.lst xs)|_=>none
 | .ty _=>none
noncomputable def eM (f:D->D->Option Bool):List D->List D->Option Bool
 | x::xs,y::ys=>(f x y).bind fun b=>(eM f xs ys).map fun c=>b&&c
 | [],[]=>some true
 | _,_=>some false
noncomputable def fQ (f:D->D->Option Bool):KdD->KdD->Option Bool
 | .non,.non=>some true
 | .bl a,.bl b=>some (a == b)
 | .bl a,.int b=>some ((if a then 1 else 0) == b)
 | .int a,.bl b=>some (a == (if b then 1 else 0))
 | .int a,.int b=>some (a == b)
 | .str a,.str b=>some (a == b)
 | .tup xs,.tup ys=>eM f xs ys
 | .lst xs,.lst ys=>eM f xs ys
 | _,_=>some false
noncomputable def bZ:Nat->Hm->D->D->Option Bool
 | 0,_,_,_=>none
 | n+1,μ,x,y=>(c3 μ x).bind fun a=>(c3 μ y).bind fun b=>fQ (bZ n μ) a b
noncomputable def rK:KdD->KD
 | .non=>.non|.bl b=>.bl b|.int i=>.int i|.str x=>.str x|.tup xs=>.tup xs.length|.lst xs=>.lst xs.length
noncomputable def lA:KdD->List D
 | .tup xs=>xs|.lst xs=>xs|_=>[]
section
variable {X:Cx}{XB:List (Addr×Pu)}{σ:St}{H:Hp}{s:NV}{π:Nat->Addr}{μ:Hm}
inductive KdAt (X:Cx)(π:Nat->Addr)(n:Nat)(H:Hp)(s:NV)(u:NT):KdD->Prop where
 | non (h:u=.none):KdAt X π n H s u .non
 | bl (b:Bool)(h:u=.bool b):KdAt X π n H s u (.bl b)
 | int (i:Int)(t:Tok)(h:u=.int i t):KdAt X π n H s u (.int i)
 | str (x:Str)(t:Tok)(h:u=.str x t):KdAt X π n H s u (.str x)
 | tup {xs:List D}(p:Addr)(vs:List V)(its:List NT)(h:u=.ref p)(q:SqT X.K H p vs)(i:IsDs X.K π n H vs xs)(r:Vals vs its)(t:s.heap.IsTuple p its.toArray):KdAt X π n H s u (.tup xs)
 | lst {xs:List D}(p:Addr)(vs:List V)(its:List NT)(h:u=.ref p)(q:SqL X.K H p vs)(i:IsDs X.K π n H vs xs)(r:Vals vs its)(t:s.heap.IsList p its.toArray):KdAt X π n H s u (.lst xs)
theorem lB (I:Inv X XB σ H s)(R:Rp X.K π H μ){v:V}{d:D}{u:NT}(h:IsD X.K π μ.length H v d)(r:RelV v u){k:KdD}(e:c3 μ d=some k):KdAt X π μ.length H s u k:=by
 cases h with
 | non=>cases e;exact .non r
 | bl b=>cases e;exact .bl b r
 | int i=>cases e;obtain ⟨t,q⟩:=r;exact .int i t q
 | str x=>cases e;obtain ⟨t,q⟩:=r;exact .str x t q
 | ty x=>cases e
 | tup q t=>
  cases e
  obtain ⟨its,r',p,_⟩:=I.tuple q
  exact .tup _ _ its r q t r' p
 | rol q t=>
  cases e
  obtain ⟨its,r',p,_⟩:=I.list q.sq
  exact .lst _ _ its r q.sq t r' p.isList
 | @loc a ha=>
  simp only [c3] at e
  split at e
  ·rename_i xs hx
   cases e
   obtain ⟨vs,h1,h2⟩:=R.lst a xs hx
   have q:SqL X.K H (π a) vs:=.of h1
   obtain ⟨its,r',p,_⟩:=I.list q
   exact .lst _ _ its r q h2 r' p.isList
  ·cases e
theorem KdAt.isK {u:NT}{k:KdD}{n:Nat}(h:KdAt X π n H s u k):IsK s u (rK k):=by
 cases h with
 | non h=>subst h;exact .non
 | bl b h=>subst h;exact .bl b
 | int i t h=>subst h;exact .int i t
 | str x t h=>subst h;exact .str x t
 | tup p vs its h q i r t=>
  subst h
  have:its.length=_:=r.length.symm.trans i.length
  show IsK s (.ref p) (.tup _)
  rw [<- this]
  exact .tup t
 | lst p vs its h q i r t=>
  subst h
  have:its.length=_:=r.length.symm.trans i.length
  show IsK s (.ref p) (.lst _)
  rw [<- this]
  exact .lst t
noncomputable def fB (f:D->D->Option Bool)(xs ys:List D)(j:Nat):Bool:=match xs[j]?,ys[j]? with
 | some x,some y=>(f x y).getD false
 | _,_=>false
theorem rL {f:D->D->Option Bool}:∀ {xs ys:List D}{b:Bool},eM f xs ys=some b->b=((ON (min xs.length ys.length)).all (fB f xs ys)&&xs.length == ys.length)/\∀ (j:Nat) x y,xs[j]? = some x->ys[j]? = some y->f x y=some (fB f xs ys j)
 | [],[],b,h=>by
  cases h
  exact ⟨rfl,fun j x y e=>by simp at e⟩
 | x::xs,[],b,h=>by
  cases h
  exact ⟨by simp,fun j x y _ e=>by simp at e⟩
 | [],y::ys,b,h=>by
  cases h
  exact ⟨by simp,fun j x y e=>by simp at e⟩
 | x::xs,y::ys,b,h=>by
  simp only [eM] at h
  obtain ⟨c,h1,h2⟩:=NN.mp h
  obtain ⟨d,h3,h4⟩:=NU.mp h2
  obtain ⟨i1,i2⟩:=rL h3
  have h0:fB f (x::xs) (y::ys) 0=c:=by simp [fB,h1]
  have hs:∀ j,fB f (x::xs) (y::ys) (j+1)=fB f xs ys j:=fun j=>by simp [fB]
  refine ⟨?_,fun j x' y' e1 e2=>?_⟩
  ·subst h4
   rw [i1]
   simp only [OL,Nat.add_min_add_right]
   rw [RV,OR,SH,h0]
   have:(fB f (x::xs) (y::ys) ∘ Nat.succ)=fB f xs ys:=funext fun j=>hs j
   rw [this]
   simp [Bool.and_assoc]
  ·cases j with
   | zero=>
    simp at e1 e2
    subst e1;subst e2
    rw [h0,h1]
   | succ j=>
    rw [hs j]
    exact i2 j x' y' (by simpa using e1) (by simpa using e2)
theorem yG {f:D->D->Option Bool}{k k':KdD}{b:Bool}(h:fQ f k k'=some b):b=k9 (fB f (lA k) (lA k')) (rK k) (rK k'):=by
 cases k<;>cases k'<;>simp only [fQ] at h<;>first
  | (have h':=Oj h;subst h';rfl)
  | (obtain ⟨h1,_⟩:=rL h;rw [h1];rfl)
theorem Ga (I:Inv X XB σ H s)(R:Rp X.K π H μ):∀ (n:Nat){v:V}{u:NT}{x y:D}{b:Bool},RelV v u->IsD X.K π μ.length H v x->IsD X.K π μ.length H v y->bZ n μ x y=some b->b=true:=by
 intro n
 induction n with
 | zero=>intro v u x y b _ _ _ h;cases h
 | succ n ih=>
  intro v u x y b r hx hy h
  obtain ⟨k,h1,h⟩:=NN.mp h
  obtain ⟨k',h2,h⟩:=NN.mp h
  have a1:=lB I R hx r h1
  have a2:=lB I R hy r h2
  have lists:∀ {vs:List V}{xs ys:List D}{c:Bool},(∀ v∈vs,∃ u,RelV v u)->IsDs X.K π μ.length H vs xs->IsDs X.K π μ.length H vs ys->eM (bZ n μ) xs ys=some c->c=true:=by
   intro vs
   induction vs with
   | nil=>intro xs ys c _ i1 i2 h;cases i1;cases i2;cases h;rfl
   | cons w vs ihv=>
    intro xs ys c hr i1 i2 h
    cases i1 with
    | cons p1 t1=>
     cases i2 with
     | cons p2 t2=>
      simp only [eM] at h
      obtain ⟨c1,h1,h3⟩:=NN.mp h
      obtain ⟨c2,h4,h5⟩:=NU.mp h3
      obtain ⟨u',ru⟩:=hr w (Om ..)
      have e1:=ih ru p1 p2 h1
      have e2:=ihv (fun v hv=>hr v (Oc _ hv)) t1 t2 h4
      subst e1;subst e2
      exact h5.symm
  cases a1 with
  | non e1=>
   subst e1
   cases a2 with
   | non _=>simp only [fQ] at h;exact (Oj h).symm
   | bl _ e=>cases e
   | int _ _ e=>cases e
   | str _ _ e=>cases e
   | tup _ _ _ e=>cases e
   | lst _ _ _ e=>cases e
  | bl c e1=>
   subst e1
   cases a2 with
   | non e=>cases e
   | bl _ e=>cases e;simp only [fQ,beq_self_eq_true] at h;exact (Oj h).symm
   | int _ _ e=>cases e
   | str _ _ e=>cases e
   | tup _ _ _ e=>cases e
   | lst _ _ _ e=>cases e
  | int c t e1=>
   subst e1
   cases a2 with
   | non e=>cases e
   | bl _ e=>cases e
   | int _ _ e=>cases e;simp only [fQ,beq_self_eq_true] at h;exact (Oj h).symm
   | str _ _ e=>cases e
   | tup _ _ _ e=>cases e
   | lst _ _ _ e=>cases e
  | str c t e1=>
   subst e1
   cases a2 with
   | non e=>cases e
   | bl _ e=>cases e
   | int _ _ e=>cases e
   | str _ _ e=>cases e;simp only [fQ,beq_self_eq_true] at h;exact (Oj h).symm
   | tup _ _ _ e=>cases e
   | lst _ _ _ e=>cases e
  | tup p vs its e1 q i rv t=>
   have z:KdAt X π μ.length H s (.ref p) _:=e1 ▸ KdAt.tup p vs its e1 q i rv t
   rw [e1] at a2
   cases a2 with
   | non e=>cases e
   | bl _ e=>cases e
   | int _ _ e=>cases e
   | str _ _ e=>cases e
   | tup p2 vs2 its2 e2 q2 i2 rv2 t2=>
    cases e2
    have:=I.tuple_inj q q2
    subst this
    exact lists (fun v hv=>by
     obtain ⟨j,hj,rfl⟩:=QU hv
     obtain ⟨u',_,ru⟩:=rv.get (N9 hj)
     exact ⟨u',ru⟩) i i2 h
   | lst p2 vs2 its2 e2 q2 i2 rv2 t2=>
    cases e2
    exact absurd rfl (Pp t2 t)
  | lst p vs its e1 q i rv t=>
   rw [e1] at a2
   cases a2 with
   | non e=>cases e
   | bl _ e=>cases e
   | int _ _ e=>cases e
   | str _ _ e=>cases e
   | tup p2 vs2 its2 e2 q2 i2 rv2 t2=>
    cases e2
    exact absurd rfl (Pp t t2)
   | lst p2 vs2 its2 e2 q2 i2 rv2 t2=>
    cases e2
    have:=I.list_inj q q2
    subst this
    exact lists (fun v hv=>by
     obtain ⟨j,hj,rfl⟩:=QU hv
     obtain ⟨u',_,ru⟩:=rv.get (N9 hj)
     exact ⟨u',ru⟩) i i2 h
theorem jU (A:OG):A.in1.units=A.units+1:=rfl
theorem yH (I:Inv X XB σ H s){A:OG}{n:Nat}(ih:∀ {A:OG}{v v':V}{u u':NT}{x y:D}{b:Bool},A.units+n<PR->RelV v u->RelV v' u'->IsD X.K π μ.length H v x->IsD X.K π μ.length H v' y->bZ n μ x y=some b->EqAt A s u u' b)
  (hu:A.units+(n+1)<PR){u u':NT}{k k':KdD}{b:Bool}(a1:KdAt X π μ.length H s u k)(a2:KdAt X π μ.length H s u' k')(h:fQ (bZ n μ) k k'=some b):oK A s u u' (fB (bZ n μ) (lA k) (lA k')):=by
 have core:∀ {vs vs':List V}{its its':List NT}{xs ys:List D}{c:Bool},Vals vs its->Vals vs' its'->IsDs X.K π μ.length H vs xs->IsDs X.K π μ.length H vs' ys->eM (bZ n μ) xs ys=some c->
   ∀ j (h1:j<its.length)(h2:j<its'.length),EqAt A.in1 s its[j] its'[j] (fB (bZ n μ) xs ys j):=by
  intro vs vs' its its' xs ys c r r' i i' e j h1 h2
  have l1:=r.length
  have l2:=r'.length
  have l3:=i.length
  have l4:=i'.length
  have hx:xs[j]? = some (xs[j]'(by omega)):=N9 _
  have hy:ys[j]? = some (ys[j]'(by omega)):=N9 _
  obtain ⟨v,v1,v2⟩:=i.get hx
  obtain ⟨v',v1',v2'⟩:=i'.get hy
  obtain ⟨w,w1,w2⟩:=r.get v1
  obtain ⟨w',w1',w2'⟩:=r'.get v1'
  rw [N9 h1] at w1
  rw [N9 h2] at w1'
  cases w1
  cases w1'
  exact ih (by rw [jU];omega) w2 w2' v2 v2' ((rL e).2 j _ _ hx hy)
 constructor
 ·intro l b' items items2 e1 e2 t1 t2 j h1 h2
  subst e1;subst e2
  cases a1 with
  | tup p vs its e q i r t=>
   cases e
   cases a2 with
   | tup p2 vs2 its2 e' q2 i2 r2 t'=>
    cases e'
    have z1:items=its.toArray:=by
     obtain ⟨o,g1,g2,n1,g3⟩:=t1
     obtain ⟨o',g1',g2',n1',g3'⟩:=t
     rw [g1] at g1';cases g1'
     rw [g3] at g3'
     injection g3'
    have z2:items2=its2.toArray:=by
     obtain ⟨o,g1,g2,n1,g3⟩:=t2
     obtain ⟨o',g1',g2',n1',g3'⟩:=t'
     rw [g1] at g1';cases g1'
     rw [g3] at g3'
     injection g3'
    subst z1;subst z2
    have:=core r r2 i i2 h j (by simpa using h1) (by simpa using h2)
    simpa [lA] using this
   | lst p2 vs2 its2 e' q2 i2 r2 t'=>
    cases e'
    exact absurd rfl (Pp t' t2)
   | non e'=>cases e'
   | bl _ e'=>cases e'
   | int _ _ e'=>cases e'
   | str _ _ e'=>cases e'
  | lst p vs its e q i r t=>
   cases e
   exact absurd rfl (Pp t t1)
  | non e=>cases e
  | bl _ e=>cases e
  | int _ _ e=>cases e
  | str _ _ e=>cases e
 ·intro l b' items items2 e1 e2 t1 t2 j h1 h2
  subst e1;subst e2
  cases a1 with
  | lst p vs its e q i r t=>
   cases e
   cases a2 with
   | lst p2 vs2 its2 e' q2 i2 r2 t'=>
    cases e'
    have z1:items=its.toArray:=by
     obtain ⟨o,g1,g2,n1,g3⟩:=t1
     obtain ⟨o',g1',g2',n1',g3'⟩:=t
     rw [g1] at g1';cases g1'
     rw [g3] at g3'
     injection g3'
    have z2:items2=its2.toArray:=by
     obtain ⟨o,g1,g2,n1,g3⟩:=t2
     obtain ⟨o',g1',g2',n1',g3'⟩:=t'
     rw [g1] at g1';cases g1'
     rw [g3] at g3'
     injection g3'
    subst z1;subst z2
    have:=core r r2 i i2 h j (by simpa using h1) (by simpa using h2)
    simpa [lA] using this
   | tup p2 vs2 its2 e' q2 i2 r2 t'=>
    cases e'
    exact absurd rfl (Pp t2 t')
   | non e'=>cases e'
   | bl _ e'=>cases e'
   | int _ _ e'=>cases e'
   | str _ _ e'=>cases e'
  | tup p vs its e q i r t=>
   cases e
   exact absurd rfl (Pp t1 t)
  | non e=>cases e
  | bl _ e=>cases e
  | int _ _ e=>cases e
  | str _ _ e=>cases e
theorem rM (I:Inv X XB σ H s)(R:Rp X.K π H μ):∀ (n:Nat){A:OG}{v v':V}{u u':NT}{x y:D}{b:Bool},A.units+n<PR->RelV v u->RelV v' u'->IsD X.K π μ.length H v x->IsD X.K π μ.length H v' y->bZ n μ x y=some b->EqAt A s u u' b:=by
 intro n
 induction n with
 | zero=>intro A v v' u u' x y b _ _ _ _ _ h;cases h
 | succ n ih=>
  intro A v v' u u' x y b hu r r' hx hy h
  have h0:=h
  obtain ⟨k,h1,h⟩:=NN.mp h
  obtain ⟨k',h2,h⟩:=NN.mp h
  have a1:=lB I R hx r h1
  have a2:=lB I R hy r' h2
  by_cases hs:u=u'
  ·subst hs
   have:v=v':=r.inj r'
   subst this
   have:=Ga I R (n+1) r hx hy h0
   subst this
   exact EqAt.same _
  ·have he:=yH I ih hu a1 a2 h
   rw [yG h]
   exact F9 a1.isK a2.isK (by omega) he fun l b' e1 e2 z=>hs (by rw [e1,e2,z])
theorem yI (I:Inv X XB σ H s)(R:Rp X.K π H μ)(n:Nat){A:OG}{v v':V}{u u':NT}{x y:D}{b:Bool}(hu:A.units+n<PR)(r:RelV v u)(r':RelV v' u')(hx:IsD X.K π μ.length H v x)(hy:IsD X.K π μ.length H v' y)(h:bZ n μ x y=some b) :
  RcAt A s u u' b/\RcNeAt A s u u' (!b):=by
 cases n with
 | zero=>cases h
 | succ n=>
  obtain ⟨k,h1,h⟩:=NN.mp h
  obtain ⟨k',h2,h⟩:=NN.mp h
  have a1:=lB I R hx r h1
  have a2:=lB I R hy r' h2
  have he:=yH I (A:=A) (rM I R n) hu a1 a2 h
  rw [yG h]
  exact ⟨rJ a1.isK a2.isK (by omega) he,F8 a1.isK a2.isK (by omega) he⟩
end
end L3
namespace L3
open PySem L2
open SeqAt (EqAt RcAt RcNeAt)
section
variable {K:NO}
noncomputable def hG (g:Int->Int->Option Int):D->D->Hm->Option (D×Hm)
 | .int i,.int j,μ=>(g i j).map fun z=>(.int z,μ)
 | _,_,_=>none
theorem yJ {g:Int->Int->Option Int}{x y d:D}{μ μ':Hm}(h:hG g x y μ=some (d,μ')):∃ i j z,x=.int i/\y=.int j/\g i j=some z/\d=.int z/\μ'=μ:=by
 unfold hG at h
 split at h
 ·rename_i i j
  obtain ⟨z,h1,h2⟩:=NU.mp h
  cases h2
  exact ⟨i,j,z,rfl,rfl,h1,rfl,rfl⟩
 ·cases h
theorem oM {Cc:Int->Int->Prop}{g:Int->Int->Option Int}{g':Int->Int->Int}(hg:∀ i j z,g i j=some z->Cc i j/\z=g' i j):cO K (hG g) (rI Cc fun i j=>.int (g' i j)):=by
 intro π H μ x y d μ' vx vy Q R ix iy hm k
 obtain ⟨i,j,z,rfl,rfl,h1,rfl,rfl⟩:=yJ hm
 cases ix
 cases iy
 obtain ⟨c,rfl⟩:=hg i j z h1
 exact ⟨i,j,rfl,rfl,c,k π _ H .refl R (.int _)⟩
theorem Gb {g':Int->Int->Int}:cO K (hG fun i j=>some (g' i j)) (eZ fun i j=>.int (g' i j)):=by
 intro π H μ x y d μ' vx vy Q R ix iy hm k
 obtain ⟨i,j,z,rfl,rfl,h1,rfl,rfl⟩:=yJ hm
 cases ix
 cases iy
 cases h1
 exact ⟨i,j,rfl,rfl,k π _ H .refl R (.int _)⟩
noncomputable def lC:=hG fun i j=>some (i - j)
noncomputable def yK:=hG fun i j=>if ((-(2 ^ 64)<i/\i<2 ^ 64)\/(-(2 ^ 64)<j/\j<2 ^ 64))\/(i.natAbs<2 ^ 4000/\j.natAbs<2 ^ 4000)\/Oz i+Oz j<=134217728 then some (i * j) else none
noncomputable def bQ:D->D->Hm->Option (D×Hm)
 | x,y,μ=>yK x y μ
noncomputable def cJ:=hG fun i j=>if 0<j/\j<2 ^ 4000 then some (i / j) else none
noncomputable def bX:=hG fun i j=>if 0<j then some (i % j) else none
noncomputable def rN:=hG fun i j=>if (0<=j/\j<=1000000/\i.natAbs<2 ^ 64)\/(0<=j/\j<=100/\i.natAbs<2 ^ 4000) then some (i ^ j.toNat) else none
noncomputable def CMulB (i j:Int):Prop:=CMul i j\/(i.natAbs<2 ^ 4000/\j.natAbs<2 ^ 4000)\/Oz i+Oz j<=134217728
noncomputable def yL (i j:Int):Prop:=0<j/\j<2 ^ 4000
noncomputable def yM (i j:Int):Prop:=D4 i j\/(0<=j/\j<=100/\i.natAbs<2 ^ 4000)
theorem rO {i:Int}(h:i.natAbs<2 ^ 4000):Oz i<=4000:=by
 unfold Oz
 split
 ·exact OW _
 ·rename_i hz
  have h0:i.natAbs≠0:=by
   intro z
   exact hz (by simpa using z)
  have:=(Xd h0).mpr h
  omega
theorem CMulB.ok {i j:Int}(h:CMulB i j):V2 i j:=by
 rcases h with h|⟨h1,h2⟩|h
 ·exact h.ok
 rotate_left
 ·have hl:Q3 (Oz i+Oz j)=false:=by
   unfold Q3
   rw [decide_eq_false]
   have:bitsLine=134217728:=by decide
   omega
  unfold V2
  rw [hl]
  simp
 ·have b1:=rO h1
  have b2:=rO h2
  have hl:Q3 (Oz i+Oz j)=false:=by
   unfold Q3
   rw [decide_eq_false]
   have:(8000:Int)<=bitsLine:=by decide
   omega
  unfold V2
  rw [hl]
  simp
section
variable {X:Cx}
theorem Gd:OpR X (Qm .Mult) (rI CMulB fun i j=>.int (i * j)):=oB fun _ _ _ _ _ _ _ hc q=>W3 q hc.ok
theorem Ge:OpR X (Qm .FloorDiv) (rI yL fun i j=>.int (i / j)):=oB fun i j _ _ _ _ _ hc q=>by
 have h1:(0:Int)<j:=hc.1
 have h2:j<2 ^ 4000:=hc.2
 have h0:j.natAbs≠0:=by omega
 have h3:j.natAbs<2 ^ 4000:=by
  have:((2 ^ 4000:Nat):Int)=2 ^ 4000:=by decide
  omega
 have h4:=(Xd h0).mpr h3
 exact W6 (by omega) (by rw [Int.fdiv_eq_ediv_of_nonneg i (by omega)];exact q) (.inl (PyProof.noPylong_of_log2 (by omega)))
theorem Gf:OpR X (Qm .Pow) (rI yM fun i j=>.int (i ^ j.toNat)):=oB fun i j _ _ _ _ _ hc q=>by
 rcases hc with hc|⟨h1,h2,h3⟩
 ·exact WZ hc.1 hc.2.1 hc.2.2 q
 ·have b:=rO h3
  refine W0 h1 ?_ q
  have:(Oz i:Int) * j<=4000 * 100:=Int.mul_le_mul (by omega) h2 h1 (by omega)
  omega
end
theorem oN {c:Prop} [Decidable c] {a z:Int}(h:(if c then some a else none)=some z):c/\z=a:=by
 split at h
 ·cases h;exact ⟨by assumption,rfl⟩
 ·cases h
theorem Gg:cO K lC (eZ fun i j=>.int (i - j)):=Gb
theorem Gh:cO K yK (rI CMulB fun i j=>.int (i * j)):=oM fun i j z h=>by
 have:=oN h
 exact this
theorem Gi:cO K bQ (rI CMulB fun i j=>.int (i * j)):=Gh
theorem Gj:cO K cJ (rI yL fun i j=>.int (i / j)):=oM fun i j z h=>by
 have:=oN h
 exact this
theorem Gk:cO K bX (rI (fun _ j=>0<j) fun i j=>.int (i % j)):=oM fun _ _ _ h=>oN h
theorem Gm:cO K rN (rI yM fun i j=>.int (i ^ j.toNat)):=oM fun i j z h=>by
 have:=oN h
 exact this
noncomputable def rP:D->Option D
 | .int i=>some (.int (-i))
 | _=>none
noncomputable def bB:D->D->Hm->Option (D×Hm)
 | .int i,.int j,μ=>some (.int (i+j),μ)
 | .str x,.str y,μ=>if x.length+y.length<=N4 then some (.str (x++y),μ) else none
 | .loc a,.loc b,μ=>match μ[a]?,μ[b]? with
  | some (.lst xs),some (.lst ys)=>if xs.length+ys.length<=N4 then some (.loc μ.length,μ++[.lst (xs++ys)]) else none
  | _,_=>none
 | .tup xs,.tup ys,μ=>if xs≠[]/\ys≠[]/\xs.length+ys.length<=N4 then some (.tup (xs++ys),μ) else none
 | _,_,_=>none
noncomputable def rQ (K:NO):R2:=fun x y H Q=>eZ (fun i j=>.int (i+j)) x y H Q\/(∃ i j,x=.str i/\y=.str j/\i.length+j.length<=N4/\Q (.str (i++j)) H)\/xQ x y H Q
theorem op_addB {X:Cx}:OpR X (Qm .Add) (rQ X.K):=op_add.or (op_add_str.or EZ)
noncomputable def rR (K:NO):R2:=fun x y H Q=>rQ K x y H Q\/w9 K x y H Q
theorem Gn {X:Cx}:OpR X (Qm .Add) (rR X.K):=op_addB.or EG
theorem rS {K:NO}{x y:V}{H:Hp}{Q:VK}(h:rQ K x y H Q):rR K x y H Q:=.inl h
theorem Gp:cO K bB (rR K):=by
 intro π H μ x y d μ' vx vy Q R ix iy hm k
 unfold bB at hm
 split at hm
 ·cases hm
  cases ix
  cases iy
  exact rS (.inl ⟨_,_,rfl,rfl,k π _ H .refl R (.int _)⟩)
 ·split at hm
  ·rename_i hl
   cases hm
   cases ix
   cases iy
   exact rS (.inr (.inl ⟨_,_,rfl,rfl,hl,k π _ H .refl R (.str _)⟩))
  ·cases hm
 ·split at hm
  ·rename_i xs ys ha hb
   split at hm
   ·rename_i hl
    cases hm
    cases ix
    cases iy
    obtain ⟨vs,h1,h2⟩:=R.lst _ xs ha
    obtain ⟨ws,h3,h4⟩:=R.lst _ ys hb
    refine rS (.inr (.inr ⟨_,_,vs,ws,rfl,rfl,by first|exact h1|exact .inl (.inl h1),h3,by rw [h2.length,h4.length];exact hl,fun p hp=>?_⟩))
    obtain ⟨e2,R2,q⟩:=R.alloc (c:=.lst (xs++ys)) (o:=.lst (vs++ws)) hp (h2.append h4)
    exact k _ _ _ e2 R2 fA
   ·cases hm
  ·cases hm
 ·split at hm
  ·rename_i hb
   cases hm
   cases ix with
   | tup h1 i1=>
    cases iy with
    | tup h2 i2=>
     refine .inr ⟨_,_,_,_,rfl,rfl,h1,h2,fun e=>hb.1 (by rw [e] at i1;cases i1;rfl),by rw [i1.length,i2.length];exact hb.2.2,fun e=>absurd (by rw [e] at i2;cases i2;rfl) hb.2.1,fun _ p hp=>?_⟩
     obtain ⟨e2,R2⟩:=R.fresh (o:=.tup _) hp
     exact k π _ _ e2 R2 (.tup (.of cY) ((i1.mono e2).append (i2.mono e2)))
  ·cases hm
 ·cases hm
noncomputable def lD (p:Int->Int->Bool):D->D->Hm->Option (D×Hm)
 | .int i,.int j,μ=>some (.bl (p i j),μ)
 | _,_,_=>none
theorem iP {p:Int->Int->Bool}:cO K (lD p) (eZ fun i j=>.bl (p i j)):=by
 intro π H μ x y d μ' vx vy Q R ix iy hm k
 unfold lD at hm
 split at hm
 ·cases hm
  cases ix
  cases iy
  exact ⟨_,_,rfl,rfl,k π _ H .refl R (.bl _)⟩
 ·cases hm
noncomputable def lE:=lD fun i j=>decide (i<j)
noncomputable def rV:=lD fun i j=>decide (i<=j)
noncomputable def fC:=lD fun i j=>decide (j<i)
noncomputable def rW:=lD fun i j=>decide (j<=i)
noncomputable def rX (K:NO)(ne:Bool):R2:=fun x y H Q=>∃ π μ dx dy b,Rp K π H μ/\IsD K π μ.length H x dx/\IsD K π μ.length H y dy/\bZ 8 μ dx dy=some b/\Q (.bl (if ne then !b else b)) H
theorem yN {X:Cx}(hu:X.A.units+8<PR):OpR X (Pe .Eq) (rX X.K false):=by
 intro XB s σ H x y v u Q I rx ry h
 obtain ⟨π,μ,dx,dy,b,R,ix,iy,e,q⟩:=h
 exact (yI I R 8 hu rx ry ix iy e).1 _ _ _ _ ⟨.bl b,H,I,rfl,q⟩
theorem yO {X:Cx}(hu:X.A.units+8<PR):OpR X (Pe .NotEq) (rX X.K true):=by
 intro XB s σ H x y v u Q I rx ry h
 obtain ⟨π,μ,dx,dy,b,R,ix,iy,e,q⟩:=h
 exact (yI I R 8 hu rx ry ix iy e).2 _ _ _ _ ⟨.bl (!b),H,I,rfl,q⟩
noncomputable def bE (ne:Bool):D->D->Hm->Option (D×Hm):=fun x y μ=>(bZ 8 μ x y).map fun b=>(.bl (if ne then !b else b),μ)
theorem oO {ne:Bool}:cO K (bE ne) (rX K ne):=by
 intro π H μ x y d μ' vx vy Q R ix iy hm k
 obtain ⟨b,h1,h2⟩:=NU.mp hm
 cases h2
 exact ⟨π,μ,x,y,b,R,ix,iy,h1,k π _ H .refl R (.bl _)⟩
noncomputable def rY:D->D->Hm->Option (D×Hm)
 | .str i,.str j,μ=>some (.bl (!(O7 j i 0 j.length 1).isEmpty),μ)
 | _,_,_=>none
theorem yP:cO K rY (fun x y H Q=>∃ i j,x=.str i/\y=.str j/\Q (.bl (!(O7 j i 0 j.length 1).isEmpty)) H):=by
 intro π H μ x y d μ' vx vy Q R ix iy hm k
 unfold rY at hm
 split at hm
 ·cases hm
  cases ix
  cases iy
  exact ⟨_,_,rfl,rfl,k π _ H .refl R (.bl _)⟩
 ·cases hm
end
section
variable {X:Cx}{a b c:N2}{ma mb mc:ME}{pos:Py}
theorem oP {k:Nat}{A:OG}(r:Room k A):A.units+8<PR:=by have:=r.un;omega
theorem Gq (ha:PE X a (tM X.K ma)):PE X (.UnaryOp .USub a pos) (tM X.K (fun ρ μ=>(ma ρ μ).bind fun p=>(rP p.1).map fun d=>(d,p.2))):=cE (D3 D7 ha) (by
 rintro σ H Q ⟨π,ρ,μ,d,μ',R,E,hm,k⟩
 obtain ⟨⟨x,μ1⟩,h1,hm⟩:=NN.mp hm
 obtain ⟨y,h2,h3⟩:=NU.mp hm
 cases h3
 cases x with
 | int i=>
  cases h2
  refine ⟨π,ρ,μ,_,_,R,E,h1,fun π1 v1 H1 e1 R1 i1=>?_⟩
  cases i1
  exact ⟨_,rfl,k π1 _ H1 e1 R1 (.int _)⟩
 | _=>cases h2)
theorem Gs {x:Str}{n:String}(hg:Gl X x)(hm:X.mg x=none)(hv:Pf x=some (.type n))(hn:x ≠ "__name__":=by decide) (hd:(x == ("__debug__":Str))=false:=by decide):PE X (.Name x pos) (tM X.K (mC (.ty n))):=
 k7 (De (v:=.ty n) hg hm hv rfl hn hd) fun _ _ _=>.ty n
end
noncomputable def rZ (μ:Hm):D->Option String
 | .non=>some "NoneType"
 | .bl _=>some "bool"
 | .int _=>some "int"
 | .str _=>some "str"
 | .tup _=>some "tuple"
 | .rol _=>some "list"
 | .loc a=>match μ[a]? with
  | some (.lst _)=>some "list"
  | some (.dK _)=>some "dict"
  | some (.dT _)=>some "dict"
  | _=>none
 | .ty _=>none
noncomputable def oQ (t c:String):Option Bool:=match c with
 | "int"=>some (t == "int" || t == "bool")
 | "bool"=>some (t == "bool")
 | "str"=>some (t == "str")
 | "list"=>some (t == "list")
 | "tuple"=>some (t == "tuple")
 | "dict"=>some (t == "dict")
 | _=>none
noncomputable def mS:MF:=fun ds μ=>match ds with
 | [x,.ty c]=>(rZ μ x).bind fun t=>(oQ t c).map fun b=>(.bl b,μ)
 | _=>none
theorem hJ (K:NO){t c:String}{b:Bool}(ht:t = "NoneType"\/t = "bool"\/t = "int"\/t = "str"\/t = "tuple"\/t = "list"\/t = "dict") (h:oQ t c=some b):Vm K (.type t) (.type c)=some b:=by
 unfold oQ at h
 split at h<;>first
  | cases h;done
  | (have h':=Oj h;subst h'
     rcases ht with rfl|rfl|rfl|rfl|rfl|rfl|rfl<;>first|rfl|decide +kernel|(unfold Vm;simp;rfl))
end L3
namespace L3
open PySem L2
noncomputable abbrev MG:=D->aF->Hm->Option aF
noncomputable def eN (K:NO)(g:MG):TG:=fun v σ H Q=>∃ π ρ μ d ρ',Rp K π H μ/\En K π μ.length H σ ρ/\IsD K π μ.length H v d/\g d ρ μ=some ρ'/\∀ σ',En K π μ.length H σ' ρ'->Q σ' H
noncomputable def b7 (i:Nat):MG:=fun d ρ _=>some (ρ.set i (some d))
section
variable {X:Cx}{pos:Py}
theorem yQ {i:Nat}{x:Str}(hN:X.N.Nodup)(hi:X.N[i]? = some x)(hx:Loc X.env.scope x)(hf:X.fn x=true\/X.env.scope.names.lookup x=some .local:=by first|exact .inl rfl|exact .inr rfl|assumption):PG X (.Name x pos) (eN X.K (b7 i)):=by
 intro XB s σ H v u Q I r h
 obtain ⟨π,ρ,μ,d,ρ',R,E,hd,hm,k⟩:=h
 cases hm
 exact wC hN hi hx hf XB s σ H v u Q I r (k _ (E.set hd i))
noncomputable def Gu (K:NO)(tl:TE):TI:=fun σ H R=>tl σ H fun x H1=>∃ a,x=.ref a/\(((∃ xs,SqL K H1 a xs)/\R (qO K a) H1)\/((∃ xs,SqT K H1 a xs)/\R (qP K a) H1))
theorem Gv {l tg:N2}{tl:TE}(hl:PE X l tl):PI X tg l (Gu X.K tl):=by
 intro XB s σ H R I h
 refine aT (hl XB s σ H _ I h) fun v s1 ⟨x,H1,I1,r1,q1⟩=>?_
 obtain ⟨a,e,q⟩:=q1
 subst e
 cases r1
 rcases q with ⟨⟨xs,hq⟩,q⟩|⟨⟨xs,hq⟩,q⟩
 ·obtain ⟨its,rv,p,hz⟩:=I1.list hq
  refine Tp p.isList ?_
  refine ⟨s1.heap.objs.size,[s1.heap.objs.size],_,_,H1,rfl,I1.kept (t':=s1.toks) fun b o e=>NW _ e,DQ a _,⟨_,Of _ rfl,rfl,rfl⟩,fun b hb=>?_,q⟩
  have e:b=s1.heap.objs.size:=by simpa using hb
  subst e
  exact I1.fpOk (N3 _) (I1.hok.fresh (N3 _))
 ·obtain ⟨its,rv,p,hz⟩:=I1.tuple hq
  refine Wc (show s1.heap.IsTuple a its.toArray from p) ?_
  refine ⟨s1.heap.objs.size,[s1.heap.objs.size],_,_,H1,rfl,I1.kept (t':=s1.toks) fun b o e=>NW _ e,DR a _,⟨_,Of _ rfl,rfl,rfl⟩,fun b hb=>?_,q⟩
  have e:b=s1.heap.objs.size:=by simpa using hb
  subst e
  exact I1.fpOk (N3 _) (I1.hok.fresh (N3 _))
end
structure Wk (K:NO)(J:It)(src:Hm->Nat->Option (Option D))(π:Nat->Addr)(n:Nat)(H:Hp):Prop where
 stop:∀ π' μ H' i,Ext π n H π' μ.length H'->Rp K π' H' μ->src μ i=some none->J.stop i H'
 go:∀ π' μ H' i d,Ext π n H π' μ.length H'->Rp K π' H' μ->src μ i=some (some d)->J.go i H'/\∀ x H2,J.yld i H' x H2->Ext π' μ.length H' π' μ.length H2/\Rp K π' H2 μ/\IsD K π' μ.length H2 x d
noncomputable def hU (x:D):Hm->Nat->Option (Option D):=fun μ i=>(bM μ x).map fun xs=>xs[i]?
theorem Gw {K:NO}{π:Nat->Addr}{μ:Hm}{H:Hp}{v:V}{x:D}{xs:List D}(R:Rp K π H μ)(h:IsD K π μ.length H v x)(hs:bM μ x=some xs) :
  ∃ a,v=.ref a/\(((∃ vs,SqL K H a vs)/\Wk K (qO K a) (hU x) π μ.length H)\/((∃ vs,SqT K H a vs)/\Wk K (qP K a) (hU x) π μ.length H)):=by
 cases h with
 | @tup p vs ds q t=>
  refine ⟨p,rfl,.inr ⟨⟨vs,q⟩,⟨fun π' μ' H' i e R' z=>?_,fun π' μ' H' i d e R' z=>?_⟩⟩⟩
  ·simp only [hU,bM,Oy] at z
   have z':ds[i]? = none:=Oj z
   exact ⟨vs,e.sqT q,by rw [t.length];exact Pc.mp z'⟩
  ·simp only [hU,bM,Oy] at z
   have z':ds[i]? = some d:=Oj z
   obtain ⟨w,h1,h2⟩:=t.get z'
   refine ⟨⟨vs,w,e.sqT q,h1⟩,fun y H2 ⟨e1,e2⟩=>?_⟩
   subst e1
   have:=e2 vs (e.sqT q)
   rw [h1] at this
   cases this
   exact ⟨.refl,R',h2.mono e⟩
 | @rol p vs ds q t=>
  refine ⟨p,rfl,.inl ⟨⟨vs,q.sq⟩,⟨fun π' μ' H' i e R' z=>?_,fun π' μ' H' i d e R' z=>?_⟩⟩⟩
  ·simp only [hU,bM,Oy] at z
   have z':ds[i]? = none:=Oj z
   exact ⟨vs,(e.roL q).sq,by rw [t.length];exact Pc.mp z'⟩
  ·simp only [hU,bM,Oy] at z
   have z':ds[i]? = some d:=Oj z
   obtain ⟨w,h1,h2⟩:=t.get z'
   refine ⟨⟨vs,w,(e.roL q).sq,h1⟩,fun y H2 ⟨e1,e2⟩=>?_⟩
   subst e1
   have:=e2 vs (e.roL q).sq
   rw [h1] at this
   cases this
   exact ⟨.refl,R',h2.mono e⟩
 | @loc a ha=>
  have hc:∃ vs,H (π a)=some (.lst vs):=by
   simp only [bM] at hs
   split at hs
   ·rename_i ys hy
    obtain ⟨vs,h1,_⟩:=R.lst a ys hy
    exact ⟨vs,h1⟩
   ·cases hs
  obtain ⟨vs0,hv0⟩:=hc
  refine ⟨π a,rfl,.inl ⟨⟨vs0,.of hv0⟩,⟨fun π' μ' H' i e R' z=>?_,fun π' μ' H' i d e R' z=>?_⟩⟩⟩
  ·simp only [hU,bM] at z
   split at z
   ·rename_i ys hy
    obtain ⟨vs,h1,h2⟩:=R'.lst a ys hy
    rw [e.pi a ha] at h1
    have z':ys[i]? = none:=Oj z
    exact ⟨vs,.of h1,by rw [h2.length];exact Pc.mp z'⟩
   ·cases z
  ·simp only [hU,bM] at z
   split at z
   ·rename_i ys hy
    obtain ⟨vs,h1,h2⟩:=R'.lst a ys hy
    rw [e.pi a ha] at h1
    have z':ys[i]? = some d:=Oj z
    obtain ⟨w,h3,h4⟩:=h2.get z'
    refine ⟨⟨vs,w,.of h1,h3⟩,fun y H2 ⟨e1,e2⟩=>?_⟩
    subst e1
    have:=e2 vs (.of h1)
    rw [h3] at this
    cases this
    exact ⟨.refl,R',h4⟩
   ·cases z
 | _=>cases hs
noncomputable def dH (src:Hm->Nat->Option (Option D))(g:MG)(b:MS):Nat->Nat->MS
 | 0,_,_,_=>none
 | n+1,i,ρ,μ=>(src μ i).bind fun o=>match o with
  | none=>some (.nx,ρ,μ)
  | some d=>(g d ρ μ).bind fun ρ1=>(b ρ1 μ).bind fun p=>match p.1 with
   | .nx=>dH src g b n (i+1) p.2.1 p.2.2
   | .ct=>dH src g b n (i+1) p.2.1 p.2.2
   | .bk=>some (.nx,p.2.1,p.2.2)
   | .rt d=>some (.rt d,p.2.1,p.2.2)
theorem Gx {K:NO}{J:It}{src:Hm->Nat->Option (Option D)}{g:MG}{b:MS}{π:Nat->Addr}{n0:Nat}{H0:Hp}(W:Wk K J src π n0 H0){E:Ends}{fl:Fl}{ρ':aF}{μ':Hm}(hE:k6 K E π n0 H0 fl ρ' μ')
  {π1:Nat->Addr}{μ1:Hm}{H1:Hp}{ρ1:aF}{σ1:St}{n:Nat}(e1:Ext π n0 H0 π1 μ1.length H1)(R1:Rp K π1 H1 μ1)(E1:En K π1 μ1.length H1 σ1 ρ1)(h:dH src g b n 0 ρ1 μ1=some (fl,ρ',μ')) :
  ∃ Wd:Nat->Nat->St->Hp->Prop,(∃ m,Wd 0 m σ1 H1)/\∀ i m σ H,Wd i m σ H->
   (J.stop i H/\E.nx σ H)\/(J.go i H/\∃ N:St->Hp->Prop,(∀ σ' H',N σ' H'->∃ m',m'<m/\Wd (i+1) m' σ' H')/\∀ x H',J.yld i H x H'->eN K g x σ H' fun σ2 H2=>cN K b { E with nx:=N,ct:=N,bk:=E.nx } σ2 H2):=by
 have lift:∀ {π2:Nat->Addr}{n2:Nat}{H2:Hp}(e:Ext π n0 H0 π2 n2 H2){fl:Fl}{ρ':aF}{μ':Hm},k6 K E π n0 H0 fl ρ' μ'->k6 K E π2 n2 H2 fl ρ' μ':=fun {π2 n2 H2} e {fl ρ' μ'} k=>by
  cases fl with
  | nx=>exact fun π3 σ3 H3 e3 R3 E3=>k π3 σ3 H3 (e.trans e3) R3 E3
  | bk=>exact fun π3 σ3 H3 e3 R3 E3=>k π3 σ3 H3 (e.trans e3) R3 E3
  | ct=>exact fun π3 σ3 H3 e3 R3 E3=>k π3 σ3 H3 (e.trans e3) R3 E3
  | rt d=>exact KC.after k e
 refine ⟨fun i m σ H=>∃ π2 μ2 ρ2,Ext π n0 H0 π2 μ2.length H/\Rp K π2 H μ2/\En K π2 μ2.length H σ ρ2/\dH src g b m i ρ2 μ2=some (fl,ρ',μ'),⟨n,π1,μ1,ρ1,e1,R1,E1,h⟩,?_⟩
 rintro i m σ H ⟨π2,μ2,ρ2,e2,R2,E2,h2⟩
 cases m with
 | zero=>cases h2
 | succ m=>
  obtain ⟨o,h3,h4⟩:=NN.mp h2
  cases o with
  | none=>
   cases h4
   exact .inl ⟨W.stop π2 _ H i e2 R2 h3,hE π2 σ H e2 R2 E2⟩
  | some d=>
   obtain ⟨g1,g2⟩:=W.go π2 μ2 H i d e2 R2 h3
   obtain ⟨ρ3,h5,h6⟩:=NN.mp h4
   obtain ⟨⟨f4,ρ4,μ4⟩,h7,h8⟩:=NN.mp h6
   refine .inr ⟨g1,fun σ' H'=>∃ π5 ρ5 μ5,Ext π n0 H0 π5 μ5.length H'/\Rp K π5 H' μ5/\En K π5 μ5.length H' σ' ρ5/\dH src g b m (i+1) ρ5 μ5=some (fl,ρ',μ'),
    fun σ' H' ⟨π5,ρ5,μ5,a1,a2,a3,a4⟩=>⟨m,Td _,π5,μ5,ρ5,a1,a2,a3,a4⟩,fun x H' y=>?_⟩
   obtain ⟨ex,Rx,hx⟩:=g2 x H' y
   have e2:=e2.trans ex
   refine ⟨π2,ρ2,μ2,d,ρ3,Rx,E2.mono ex,hx,h5,fun σ3 E3=>⟨π2,ρ3,μ2,f4,ρ4,μ4,Rx,E3,h7,?_⟩⟩
   cases f4 with
   | nx=>exact fun π5 σ5 H5 e5 R5 E5=>⟨π5,ρ4,μ4,e2.trans e5,R5,E5,h8⟩
   | ct=>exact fun π5 σ5 H5 e5 R5 E5=>⟨π5,ρ4,μ4,e2.trans e5,R5,E5,h8⟩
   | bk=>
    cases h8
    exact fun π5 σ5 H5 e5 R5 E5=>hE π5 σ5 H5 (e2.trans e5) R5 E5
   | rt d'=>
    cases h8
    exact KC.after hE e2
section
variable {X:Cx}{pos:Py}{tg iter:N2}{body:List Stmt}{mi:ME}{g:MG}{mb:MS}
noncomputable def fR (lo:Int)(n:Nat):Hm->Nat->Option (Option D):=fun _ i=>some (if i<n then some (.int (lo+i)) else none)
theorem yR {K:NO}{lo:Int}{k:Nat}{π:Nat->Addr}{n:Nat}{H:Hp}:Wk K (mL lo k) (fR lo k) π n H:=by
 refine ⟨fun π' μ H' i e R z=>?_,fun π' μ H' i d e R z=>?_⟩
 ·have z':=Oj z
  split at z'
  ·cases z'
  ·exact Q4.mp (by assumption)
 ·have z':=Oj z
  split at z'
  ·cases z'
   rename_i h
   exact ⟨h,fun x H2 ⟨e1,e2⟩=>by subst e1;rw [e2];exact ⟨.refl,R,.int _⟩⟩
  ·cases z'
end
end L3
namespace L3
open PySem L2
noncomputable def lF (y:Str):Str:="#"++y
noncomputable def bD (xs N:List Str):List Str:=N.map fun y=>if xs.contains y then lF y else y
theorem jV (xs N:List Str):(bD xs N).length=N.length:=by unfold bD;simp
theorem Gy {xs N:List Str}{i:Nat}{y:Str}(h:(bD xs N)[i]? = some y):∃ y0,N[i]? = some y0/\((xs.contains y0=true/\y=lF y0)\/(xs.contains y0=false/\y=y0)):=by
 unfold bD at h
 rw [Ol] at h
 obtain ⟨y0,h1,h2⟩:=NU.mp h
 refine ⟨y0,h1,?_⟩
 cases hc:xs.contains y0 with
 | true=>rw [hc] at h2;exact .inl ⟨rfl,by simpa using h2.symm⟩
 | false=>rw [hc] at h2;exact .inr ⟨rfl,by simpa using h2.symm⟩
noncomputable def cF (X:Cx)(scope:Qn)(cl:List (Str×Addr))(C:Addr)(N:List Str)(s₀:NV)(H₀:Hp)(fp:List Addr):Cx:=
 { X with N:=N,s₀:=s₀,H₀:=H₀,env:=Rk scope cl C X.env,outer:=X.stack,stack:=X.stack,ex:=fp,fn:=fun _=>false,pn:=[],xe:=fun _ _=>False }
theorem yS {env:SI}:∀ (names:List (Str×Qc))(x:Str),(names.map fun (n,k)=>if (k == PU&&env.scope.kind == .function&&env.kindOf n == some .cell) then (n,P2) else (n,k)).lookup x
  = (names.lookup x).map fun k=>if (k == PU&&env.scope.kind == .function&&env.kindOf x == some .cell) then P2 else k
 | [],_=>rfl
 | (n,k)::r,x=>by
  have ih:=yS (env:=env) r x
  rw [N0]
  by_cases hx:x=n
  ·subst hx
   have key:∀ (k':Qc)(l:List (Str×Qc)),Se x ((x,k')::l)=some k':=fun k' l=>by simp [Ri]
   rw [key]
   show Se x ((if (k == PU&&env.scope.kind == .function&&env.kindOf x == some .cell)=true then (x,P2) else (x,k))::_)=some (if (k == PU&&env.scope.kind == .function&&env.kindOf x == some .cell)=true then P2 else k)
   split
   ·rw [key]
   ·rw [key]
  ·have hx':(x == n)=false:=by simpa using hx
   have key:∀ (k':Qc)(l:List (Str×Qc)),Se x ((n,k')::l)=Se x l:=fun k' l=>by simp only [Ri,hx']
   rw [key]
   show Se x ((if (k == PU&&env.scope.kind == .function&&env.kindOf n == some .cell)=true then (n,P2) else (n,k))::_)=_
   split
   ·rw [key]
    exact ih
   ·rw [key]
    exact ih
structure CompOk (X:Cx)(scope:Qn)(cl:List (Str×Addr))(xs:List Str):Prop where
 clos:Wh scope X.env=pure cl
 nocell:∀ y∈scope.names,y.2≠.cell
 kind:scope.kind=.function
 names:∀ y∈scope.names,y.2=.local->scope.names.lookup y.1=some .local
 here:∀ x∈xs,scope.names.lookup x=some .local
 sub:∀ y c,cl.lookup y=some c->X.env.cells.lookup y=some c
 free:∀ y,scope.names.lookup y=some .free->(X.env.kindOf y=some .cell\/X.env.kindOf y=some .free)/\∃ c,cl.lookup y=some c
 own:∀ y,scope.names.lookup y=some .local->y∉bD xs X.N
 hidn:∀ y∈X.N,xs.contains y=true->scope.names.lookup (lF y)=none
section
variable {X:Cx}{scope:Qn}{cl:List (Str×Addr)}{xs:List Str}
theorem CompOk.kindOf (O:CompOk X scope cl xs)(C:Addr)(y:Str):(Rk scope cl C X.env).kindOf y=(scope.names.lookup y).map fun k=>if (k == PU&&X.env.scope.kind == .function&&X.env.kindOf y == some .cell) then P2 else k:=
 yS scope.names y
theorem CompOk.outer (O:CompOk X scope cl xs){C:Addr}{y:Str}(h:(Rk scope cl C X.env).kindOf y=some .cell\/(Rk scope cl C X.env).kindOf y=some .free):scope.names.lookup y=some .free:=by
 rw [O.kindOf] at h
 cases q:scope.names.lookup y with
 | none=>rw [q] at h;rcases h with h|h<;>cases h
 | some k=>
  rw [q] at h
  cases k with
  | free=>rfl
  | cell=>exact absurd rfl (O.nocell _ (O0 q))
  | «local»=>rcases h with h|h<;>simp at h
  | globalExplicit=>rcases h with h|h<;>simp at h
  | globalImplicit=>rcases h with h|h<;>simp at h
theorem CompOk.inv {XB:List (Addr×Pu)}{σ:St}{H:Hp}{s:NV}{fp:List Addr}{h₁:O3}{tk:Nat}(O:CompOk X scope cl xs)(I:Inv X XB σ H s)(hfp:∀ b∈fp,f7 X XB H b)(hob:∀ b∈fp,∃ o,s.heap.get? b=some o){m:Str->Option NT}
  (hns:h₁.Ns s.heap.objs.size m)(hk:∀ b o,s.heap.get? b=some o->h₁.get? b=some o) :
  Inv (cF X scope cl s.heap.objs.size (bD xs X.N++xs) s H fp) [] (σ++PF xs.length none) H { s with heap:=h₁,toks:=tk }:=by
 refine ⟨⟨I.ok.mod,O.kind,I.ok.glob,I.ok.blt,N3 _,fun y z c h1 h2=>?_,fun y hy=>?_,(fun y c h=>by cases h),I.ok.hd,I.ok.frames,.inl rfl,fun b hb=>?_,fun b o e=>I.bs b o e,OU I.ok.bsz I.sz,fun b o e hb=>?_,fun b hb hb2=>?_,I.stack,I.stkFree⟩,
  rfl,I.bare,Un.kept hk,⟨m,hns,fun i y v h1 h2 h3=>?_⟩,fun y c h=>?_,I.hok.fresh (N3 _),fun y c h=>I.freeC y c (O.sub y c h),fun p hp=>absurd (show p∈([]:List (Addr×Pu)) from hp) (by simp),I.hok.kept hk,?_⟩
 ·exact I.ok.inj y z c (O.sub y c h1) (O.sub z c h2)
 ·exact (O.free y (O.outer hy)).2
 ·obtain ⟨f0,f1,f2,f3,f4,f5⟩:=hfp b hb
  obtain ⟨o,ho⟩:=hob b hb
  exact ⟨Oh (N7 ho),fun y c h=>f4 y c (O.sub y c h)⟩
 ·obtain ⟨f0,f1,f2,f3,f4,f5⟩:=hfp b hb
  rcases f3 with f3|f3
  ·exact I.ok.noex b o e f3
  ·exact absurd (OD (N7 (I.ok.bs b o e).1) f3) (Qb _)
 ·obtain ⟨f0,f1,f2,f3,f4,f5⟩:=hfp b hb
  rcases Ov.mp (I.stkSub b hb2) with z|z
  ·exact f1 z
  ·exact f2 z
 ·have hi:i<σ.length:=by
   by_cases hi:i<σ.length
   ·exact hi
   ·rw [Pr (Q4.mp hi),Qf] at h2
    split at h2<;>cases h2
  rw [OM hi] at h2
  have h0':(bD xs X.N)[i]? = some y:=by
   have h1'':(bD xs X.N++xs)[i]? = some y:=h1
   rw [OM (by rw [jV,<- I.len];exact hi)] at h1''
   exact h1''
  have notown:scope.names.lookup y≠some .local:=fun z=>O.own y z (OX h0')
  have hk':=O.kindOf s.heap.objs.size y
  have h1':X.N[i]? = some y:=by
   obtain ⟨y0,q1,q2⟩:=Gy h0'
   rcases q2 with ⟨q2,q3⟩|⟨q2,q3⟩
   ·exfalso
    have hz:=O.hidn y0 (OX q1) q2
    rw [<- q3] at hz
    rw [hz] at hk'
    have h3':(Rk scope cl s.heap.objs.size X.env).kindOf y=some .local\/(Rk scope cl s.heap.objs.size X.env).kindOf y=some .cell\/(Rk scope cl s.heap.objs.size X.env).kindOf y=some .free:=h3
    rw [hk'] at h3'
    rcases h3' with h3'|h3'|h3'<;>cases h3'
   ·rw [q3];exact q1
  have h3':(Rk scope cl s.heap.objs.size X.env).kindOf y=some .cell\/(Rk scope cl s.heap.objs.size X.env).kindOf y=some .free:=by
   rcases h3 with h3|h3|h3
   ·exfalso
    have h3':(Rk scope cl s.heap.objs.size X.env).kindOf y=some .local:=h3
    rw [hk'] at h3'
    cases q:scope.names.lookup y with
    | none=>rw [q] at h3';cases h3'
    | some k=>
     rw [q] at h3'
     cases k with
     | «local»=>exact notown q
     | cell=>simp at h3'
     | free=>
      simp only [Oy] at h3'
      split at h3'<;>cases h3'
     | globalExplicit=>simp at h3'
     | globalImplicit=>simp at h3'
   ·exact .inl h3
   ·exact .inr h3
  obtain ⟨hf,c,hc⟩:=O.free y (O.outer h3')
  obtain ⟨m0,hn0,hl0⟩:=I.loc
  obtain ⟨u,r,l⟩:=hl0 i y v h1' h2 (by rcases hf with hf|hf;exact .inr (.inl hf);exact .inr (.inr hf))
  refine ⟨u,r,.inr ⟨h3',c,hc,?_⟩⟩
  rcases l with ⟨lk,_⟩|⟨_,c',e',z⟩
  ·exfalso
   rcases hf with hf|hf
   ·rw [hf] at lk;cases lk
   ·rw [hf] at lk;cases lk
  ·rw [O.sub y c hc] at e'
   cases e'
   obtain ⟨o,ho,hd⟩:=z
   exact ⟨o,hk c o ho,hd⟩
 ·obtain ⟨v,q⟩:=I.cell y c (O.sub y c h)
  exact ⟨v,by obtain ⟨o,ho,hd⟩:=q;exact ⟨o,hk c o ho,hd⟩⟩
 ·show (σ++PF xs.length none).length=(bD xs X.N++xs).length
  rw [Oa,Oa,I.len,PZ,jV]
theorem CompOk.back {XB pl:List (Addr×Pu)}{σ σ':St}{H H':Hp}{s s1:NV}{fp:List Addr}{h':O3}{N:List Str}(I:Inv X XB σ H s)(hfp:∀ b∈fp,f7 X XB H b)
  (J:Inv (cF X scope cl s.heap.objs.size N s H fp) pl σ' H' s1)(hs:∀ b o,b≠s.heap.objs.size->s1.heap.get? b=some o->h'.get? b=some o):Inv X XB σ H' { s1 with heap:=h' }:=by
 have u:Un (eY X.stack) fp H H' s.heap h':=by
  have u0:Un (eY X.stack) fp H H' s.heap s1.heap:=J.base
  have ne:∀ b o,s.heap.get? b=some o->b≠s.heap.objs.size:=fun b o e=>Oh (N7 e)
  refine ⟨fun b o e n hb hx=>hs b o (ne b o e) (u0.keep b o e n hb hx),fun b o e n hb hx=>?_,u0.free,fun b o e hx=>?_,u0.tups,u0.frzs,u0.tbls⟩
  ·obtain ⟨sl,q⟩:=u0.slot b o e n hb hx
   exact ⟨sl,hs b _ (ne b o e) q⟩
  ·obtain ⟨o',q⟩:=u0.there b o e hx
   exact ⟨o',hs b _ (ne b o e) q⟩
 have hfree:H' s.heap.objs.size=none:=J.free
 have hok:HOk X.prog X.w H' h':=fun b v e=>by
  refine (J.hok b v e).stay (fun c w hc q=>hs c w ?_ q) (fun _ q=>q) fun _ _ q=>q
  rcases hc with z|z
  ·rw [z]
   intro z2
   rw [z2,hfree] at e
   cases e
  ·intro z2
   rw [z2,hfree] at z
   cases z
 have hos:s1.os=s.os:=J.os
 obtain ⟨hh,g,d,t,os'⟩:=s1
 obtain rfl:os'=s.os:=hos
 have r:=Inv.call (X:=X) (XB:=XB) (σ:=σ) (H:=H) (s:=s) (h':=h') (g':=g) (d':=d) (t':=t) (ch:=fp) I u hok J.bare fun b hb=>let ⟨f0,f1,f2,f3,f4,f5⟩:=hfp b hb;⟨f3,f1,f4,f5⟩
 exact r
end
theorem Gz {prog:Oo}{w:OO}{A:OG}{R:Vl->NV->Prop}{s:NV}{elt target iter:N2}{ifs:List N2}{scope:Qn}{pos:Py}{it acc:NT}{env:SI}(I:Nat->NV->Prop)
  (turn:∀ n s,I n s->Oi (Ot prog w) A (Vf it) (fun r s₁=>match r with
   | none=>R (.ok .next) s₁
   | some v=>Oi (Ot prog w) A (Sm target it v) (fun _ s₁'=>Oi (Ot prog w) A (Ta target env v) (fun _ s₂=>
     Oi (Ot prog w) A (forIn ifs true fun c r=>if r=true then do let ok <- Vh c env (eval c env);pure (QK ok) else pure (QK r)) (fun ok s₃=>
      if ok=true then Oi (Ot prog w) A (eval elt env) (fun x s₄=>
       Oi (Ot prog w) A (call (.builtin "list.append") [acc,x]) (fun _ s₅=>∃ m,m<n/\I m s₅) (fun _ _=>False) s₄) (fun _ _=>False) s₃
      else ∃ m,m<n/\I m s₃) (fun _ _=>False) s₂) (fun _ _=>False) s₁') (fun _ _=>False) s₁) (fun _ _=>False) s)
  (n:Nat)(h:I n s) :
  Si (Ot prog w) A (.compLoop (.ListComp elt [⟨target,iter,ifs,0⟩] scope pos) 0 it acc env) R s:=by
 refine codeAny_loop rfl I (fun n s hI=>?_) n h
 show Oi _ A ((compTurn (.ListComp elt [⟨target,iter,ifs,0⟩] scope pos) 0 it acc env).onRaise (fun x=>do noteFrame x env;theTreesLotGoes x)) _ _ s
 refine wpAny_noted ?_
 rw [compTurn_list]
 refine NQ (UQ (NQ (OZ (turn n s hI) (fun r s₁ h₁=>?_) fun _ _ h'=>h'.elim)))
 cases r with
 | none=>exact N1 h₁
 | some v=>
  refine NQ (OZ h₁ (fun _ s₁' h₁'=>?_) fun _ _ h'=>h'.elim)
  refine NQ (OZ h₁' (fun _ s₂ h₂=>NQ (OZ h₂ (fun ok s₃ h₃=>?_) fun _ _ h'=>h'.elim)) fun _ _ h'=>h'.elim)
  cases ok with
  | false=>exact N1 ⟨rfl,h₃⟩
  | true=>
   exact NQ (NQ (OZ h₃ (fun x s₄ h₄=>NQ (OZ h₄ (fun _ s₅ h₅=>N1 (N1 ⟨rfl,h₅⟩)) fun _ _ h'=>h'.elim)) fun _ _ h'=>h'.elim))
noncomputable def lH (μ:Hm)(a:Nat)(y:D):Option Hm:=match μ[a]? with
 | some (.lst xs)=>if xs.length<N4 then some (μ.set a (.lst (xs++[y]))) else none
 | _=>none
noncomputable abbrev BD:=D->Hm->Option aF
noncomputable def mT:BD:=fun d _=>some [some d]
noncomputable def yT (k:Nat):BD:=fun d μ=>(bM μ d).bind fun xs=>if xs.length=k then some (xs.map some) else none
noncomputable def hV (src:Hm->Nat->Option (Option D))(bd:BD)(c:MT)(e:ME)(ρ:aF)(a0:Nat):Nat->Nat->Hm->Option Hm
 | 0,_,_=>none
 | n+1,i,μ=>(src μ i).bind fun o=>match o with
  | none=>some μ
  | some d=>(bd d μ).bind fun x=>(c (ρ++x) μ).bind fun p=>match p.1 with
   | true=>(e (ρ++x) p.2).bind fun q=>(lH q.2 a0 q.1).bind fun μ3=>hV src bd c e ρ a0 n (i+1) μ3
   | false=>hV src bd c e ρ a0 n (i+1) p.2
noncomputable def iQ:MT:=fun _ μ=>some (true,μ)
noncomputable def lI (X:Cx)(ifs:List N2)(m:MT):Prop:=
 ∀ (XB:List (Addr×Pu))(s:NV)(σ:St)(H:Hp)(Q:Bool->Hp->Prop),Inv X XB σ H s->cI X.K m σ H Q->
  Oi (Ot X.prog X.w) X.A (forIn ifs true fun c r=>if r=true then do let ok <- Vh c X.env (eval c X.env);pure (QK ok) else pure (QK r)) (TP X XB σ Q) X.xe s
theorem GA {X:Cx}:lI X [] iQ:=by
 intro XB s σ H Q I h
 obtain ⟨π,ρ,μ,b,μ',R,E,hm,k⟩:=h
 cases hm
 exact wpAny_tests_nil ⟨H,I,k π H .refl R⟩
theorem GB {X:Cx}{c:N2}{m:MT}(h:PT X c (cI X.K m)):lI X [c] m:=fun XB s σ H Q I q=>wpAny_tests_one (h XB s σ H Q I q)
end L3
namespace L3
open PySem L2
section
variable {prog:Oo}{w:OO}{A:OG}{E:NT->NV->Prop}{s:NV}
theorem yU {it t:Addr}{items:Array NT}(hne:t≠it):∀ (n i:Nat)(s:NV)(Q:List NT->NV->Prop),s.heap.IsListIter it t i->s.heap.IsList t items->i+n<=items.size->
  (∀ h',h'.IsListIter it t (i+n)->Qk it s.heap h'->Q ((items.toList.drop i).take n) { s with heap:=h' })->Oi (Ot prog w) A (draw (.ref it) n) Q E s
 | 0,i,s,Q,hit,_,_,hQ=>by
  show Oi _ _ (pure []) Q E s
  exact N1 (by simpa using hQ s.heap hit (Xe ..))
 | n+1,i,s,Q,hit,ht,hle,hQ=>by
  have hlt:i<items.size:=by omega
  show Oi _ _ (Vf (.ref it) >>= _) Q E s
  refine NQ (Va hit ht (x:=items[i]) (by simp [hlt]) fun h₁ hit₁ hs₁=>?_)
  refine NQ (O4 (yU hne n (i+1) _ _ hit₁ (ht.extBut hs₁.extBut hne) (by omega) fun h₂ hit₂ hs₂=>N1 ?_))
  have hd:items.toList.drop i=items[i]::items.toList.drop (i+1):=by simp [TX,hlt]
  have:=hQ h₂ (by rw [show i+(n+1)=i+1+n by omega];exact hit₂) (hs₁.trans hs₂)
  rw [hd,List.take_succ_cons] at this
  exact this
theorem GC {t:Addr}{items:Array NT}{Q:List NT->NV->Prop}(hh:A.handled=none)(ht:s.heap.IsList t items)
  (hQ:∀ h',UP s.heap.objs.size s.heap h'->Q items.toList { s with heap:=h' }):Oi (Ot prog w) A (unpackItems (.ref t) items.size none) Q E s:=by
 have hlt:t≠s.heap.objs.size:=by obtain ⟨o,ho,_⟩:=ht;exact Oh (N7 ho)
 unfold unpackItems
 refine NQ ?_
 ·unfold notIterableAtAll
  refine NQ (Ra ht.typeIs slot_list_iter.lookup ?_)
  refine N1 ?_
  simp only [Ob,if_false]
  refine NQ (O4 (Tp ht ?_))
  refine NQ (O4 (yU hlt items.size 0 _ _ ⟨_,Of _ rfl,rfl,rfl⟩ (ht.push _) (by omega) fun h₁ hit₁ hs₁=>?_))
  have hall:List.take items.size (List.drop 0 items.toList)=items.toList:=by
   rw [Wa];exact Pq (by simp)
  rw [hall]
  rw [if_neg (by simp)]
  have ht₁:h₁.IsList t items:=(ht.push _).extBut hs₁.extBut hlt
  refine NQ (O4 (VD hh hit₁ ht₁ (by simp) fun h₂ he₂=>?_))
  simp only [Option.isSome_none,Ob,if_false]
  refine N1 (hQ h₂ fun b o hb e=>he₂ b o hb (hs₁.extBut b o hb (NW _ e)))
theorem GD {env:SI}{elts:List N2} {x1} {pos:Py}{t:Addr}{items:Array NT}{Q:Unit->NV->Prop}(hh:A.handled=none)(ht:s.heap.IsList t items)
  (hn:(PV elts env).length=items.size)(hstar:(PV elts env).findIdx? (·.1)=none)
  (h:∀ h',UP s.heap.objs.size s.heap h'->Oi (Ot prog w) A (assignInOrder ((PV elts env).map (·.2)) items.toList) Q E { s with heap:=h' }) :
  Oi (Ot prog w) A (Ta (.Tuple elts x1 pos) env (.ref t)) Q E s:=by
 rw [Xc]
 refine NQ (UQ ?_)
 unfold unpack
 rw [hn,hstar]
 exact NQ (O4 (GC hh ht h))
end
noncomputable def jW:aF->List Nat->List D->aF
 | ρ,i::is,x::xs=>jW (ρ.set i (some x)) is xs
 | ρ,_,_=>ρ
noncomputable def dN (is:List Nat):MG:=fun d ρ μ=>(bM μ d).bind fun xs=>if xs.length=is.length then some (jW ρ is xs) else none
noncomputable def oR:List Nat->kW
 | []=>wD
 | i::r=>wF (qN i) (oR r)
theorem r0 {K:NO}{π:Nat->Addr}{n:Nat}{H:Hp}:∀ (is:List Nat){vs:List V}{xs:List D}{σ:St}{ρ:aF}{Q:St->Hp->Prop},IsDs K π n H vs xs->En K π n H σ ρ->xs.length=is.length->(∀ σ',En K π n H σ' (jW ρ is xs)->Q σ' H)->oR is vs σ H Q
 | [],vs,xs,σ,ρ,Q,h,E,hl,k=>by
  cases h with
  | nil=>exact ⟨rfl,k σ E⟩
  | cons h t=>cases hl
 | i::is,vs,xs,σ,ρ,Q,h,E,hl,k=>by
  cases h with
  | nil=>cases hl
  | cons h t=>exact ⟨_,_,rfl,r0 is t (E.set h i) (by simpa using hl) k⟩
section
variable {X:Cx}{pos:Py}
theorem GF {es:List N2}{k:Nat}{is:List Nat}(hc:X.calm=true)(h:mK X es (oR is))(hn:(PV es X.env).length=is.length:=by rfl)(hst:(PV es X.env).findIdx? (·.1)=none:=by rfl) :
  PG X (.Tuple es k pos) (eN X.K (dN is)):=by
 intro XB s σ H v u Q I r hw
 obtain ⟨π,ρ,μ,d,ρ',R,E,hd,hm,kk⟩:=hw
 obtain ⟨xs,h1,h2⟩:=NN.mp hm
 split at h2
 ·rename_i hl
  cases h2
  have both:(∃ a vs,v=.ref a/\SqT X.K H a vs/\IsDs X.K π μ.length H vs xs)\/(∃ a vs,v=.ref a/\SqL X.K H a vs/\IsDs X.K π μ.length H vs xs):=by
   cases hd with
   | tup q t=>cases h1;exact .inl ⟨_,_,rfl,q,t⟩
   | rol q t=>cases h1;exact .inr ⟨_,_,rfl,q.sq,t⟩
   | @loc a ha=>
    simp only [bM] at h1
    split at h1
    ·rename_i ys hy
     cases h1
     obtain ⟨vs,h3,h4⟩:=R.lst a xs hy
     exact .inr ⟨_,vs,rfl,.of h3,h4⟩
    ·cases h1
   | _=>cases h1
  rcases both with ⟨a,vs,rfl,q,t⟩|⟨a,vs,rfl,q,t⟩
  ·cases r
   obtain ⟨its,rv,ht,hz⟩:=I.tuple q
   have hlen:its.length=is.length:=by rw [<- rv.length,t.length];exact hl
   refine Xb (I.ok.hd hc) ht (by simp [hn,hlen]) hst fun h' hx=>?_
   have I1:Inv X XB σ H { s with heap:=h' }:=I.kept (t':=s.toks) fun b o e=>hx b o (Oh (N7 e)) e
   exact h XB _ σ H vs _ Q I1 (by simpa using rv) (r0 is t E hl kk)
  ·cases r
   obtain ⟨its,rv,ht,hz⟩:=I.list q
   have hlen:its.length=is.length:=by rw [<- rv.length,t.length];exact hl
   refine GD (I.ok.hd hc) ht.isList (by simp [hn,hlen]) hst fun h' hx=>?_
   have I1:Inv X XB σ H { s with heap:=h' }:=I.kept (t':=s.toks) fun b o e=>hx b o (Oh (N7 e)) e
   exact h XB _ σ H vs _ Q I1 (by simpa using rv) (r0 is t E hl kk)
 ·cases h2
noncomputable def fD (m:ME)(g:MG):MS:=fun ρ μ=>(m ρ μ).bind fun p=>(g p.1 ρ p.2).map fun ρ'=>(.nx,ρ',p.2)
theorem GG {tg e:N2}{m:ME}{g:MG}(he:PE X e (tM X.K m))(hg:PG X tg (eN X.K g))(hs:swapsWithSole [tg] e pos.line X.env=pure false:=by rfl)(hw:US [tg] e X.env=pure none:=by rfl)
  (h1:(PV [tg] X.env).map (·.2)=[Ta tg X.env]:=by rfl):PS X (.Assign [tg] e pos) (cN X.K (fD m g)):=gC (DO he hg hs hw h1) (by
 rintro E σ H ⟨π,ρ,μ,fl,ρ',μ',R,EN,hm,k⟩
 obtain ⟨⟨x,μ1⟩,h1,hm⟩:=NN.mp hm
 obtain ⟨ρ1,h2,hm⟩:=NU.mp hm
 cases hm
 exact ⟨π,ρ,μ,x,μ1,R,EN,h1,fun π1 v1 H1 e1 R1 i1=>⟨π1,ρ,_,x,_,R1,EN.mono e1,i1,h2,fun σ' E'=>k π1 σ' H1 e1 R1 E'⟩⟩)
end
section
variable {X:Cx}{K:NO}
noncomputable def mU:MF:=fun ds μ=>match ds with
 | [.str z]=>if z.length<=N4 then some (.int z.length,μ) else none
 | [x]=>(bM μ x).map fun xs=>(.int xs.length,μ)
 | _=>none
noncomputable def r6 (K:NO):List V->Hp->VK->Prop:=fun xs H Q=>(∃ p ys,xs=[.ref p]/\(SqL K H p ys\/SqT K H p ys)/\Q (.int ys.length) H)\/(∃ z,xs=[.str z]/\z.length<=N4/\Q (.int z.length) H)
theorem call_lenM:CallR X (.builtin "len") (r6 X.K):=call_len_seq.or ES
theorem mV {π:Nat->Addr}{μ:Hm}{H:Hp}{v:V}{x:D}{xs:List D}(R:Rp K π H μ)(h:IsD K π μ.length H v x)(e:bM μ x=some xs):∃ p vs,v=.ref p/\(SqL K H p vs\/SqT K H p vs)/\IsDs K π μ.length H vs xs:=by
 cases h with
 | tup q t=>cases e;exact ⟨_,_,rfl,.inr q,t⟩
 | rol q t=>cases e;exact ⟨_,_,rfl,.inl q.sq,t⟩
 | @loc a ha=>
  simp only [bM] at e
  split at e
  ·rename_i ys hy
   cases e
   obtain ⟨vs,h3,h4⟩:=R.lst a xs hy
   exact ⟨_,vs,rfl,.inl (.of h3),h4⟩
  ·cases e
 | _=>cases e
theorem yV:cZ K mU (r6 K):=by
 intro π H μ xs d μ' vs Q R i hm k
 unfold mU at hm
 split at hm
 ·split at hm
  ·rename_i hl
   cases hm
   cases i with
   | cons i t=>cases i;cases t;exact .inr ⟨_,rfl,hl,k π _ H .refl R (.int _)⟩
  ·cases hm
 ·obtain ⟨ys,h1,h2⟩:=NU.mp hm
  cases h2
  cases i with
  | cons i t=>
   cases t
   obtain ⟨p,ws,rfl,q,hd⟩:=mV R i h1
   refine .inl ⟨p,ws,rfl,q,?_⟩
   rw [hd.length]
   exact k π _ H .refl R (.int _)
 ·cases hm
noncomputable def mW:MF:=fun ds μ=>match ds with
 | [x]=>(bM μ x).map fun xs=>(.loc μ.length,μ++[.lst xs])
 | _=>none
theorem yW:cZ K mW (fun xs H Q=>∃ p ys,xs=[.ref p]/\(SqL K H p ys\/SqT K H p ys)/\∀ l,H l=none->Q (.ref l) (aI H l (.lst ys))):=by
 intro π H μ xs d μ' vs Q R i hm k
 unfold mW at hm
 split at hm
 ·obtain ⟨ys,h1,h2⟩:=NU.mp hm
  cases h2
  cases i with
  | cons i t=>
   cases t
   obtain ⟨p,ws,rfl,q,hd⟩:=mV R i h1
   refine ⟨p,ws,rfl,q,fun l hl=>?_⟩
   obtain ⟨e2,R2,_⟩:=R.alloc (c:=.lst ys) (o:=.lst ws) hl hd
   exact k _ _ _ e2 R2 fA
 ·cases hm
noncomputable def yX (K:NO):List V->Hp->VK->Prop:=fun vs H Q=>∃ π μ x v t c b,vs=[v,.ty c]/\Rp K π H μ/\IsD K π μ.length H v x/\rZ μ x=some t/\oQ t c=some b/\Q (.bl b) H
theorem GH:cZ K mS (yX K):=by
 intro π H μ xs d μ' vs Q R i hm k
 unfold mS at hm
 split at hm
 ·obtain ⟨t,h1,hm⟩:=NN.mp hm
  obtain ⟨b,h2,hm⟩:=NU.mp hm
  cases hm
  cases i with
  | cons i t1=>
   cases t1 with
   | cons i2 t2=>
    cases t2
    cases i2
    exact ⟨π,_,_,_,t,_,b,rfl,R,i,h1,h2,k π _ H .refl R (.bl _)⟩
 ·cases hm
theorem GJ:CallR X (.builtin "isinstance") (yX X.K):=by
 intro XB s σ H xs us Q I r h
 obtain ⟨π,μ,x,v,t,c,b,rfl,R,i,h1,h2,q⟩:=h
 obtain ⟨u,u2,rfl,r1,r2⟩:=Ef r
 cases r2
 have aS:∀ tk,EP X XB σ Q (.bool b) { s with toks:=tk }:=fun tk=>⟨.bl b,H,I.tok tk,rfl,q⟩
 cases i with
 | non=>cases h1;cases r1;exact PK PySem.W.kitx_none I.kIn PX (hJ X.K (by simp) h2) (fun z=>nomatch z) aS
 | bl y=>cases h1;cases r1;exact PK PySem.W.kitx_bool I.kIn PX (hJ X.K (by simp) h2) (fun z=>nomatch z) aS
 | int y=>cases h1;obtain ⟨t,rfl⟩:=r1;exact PK PySem.W.kitx_int I.kIn PX (hJ X.K (by simp) h2) (fun z=>nomatch z) aS
 | str y=>cases h1;obtain ⟨t,rfl⟩:=r1;exact PK PySem.W.kitx_str I.kIn PX (hJ X.K (by simp) h2) (fun z=>nomatch z) aS
 | tup g t=>
  cases h1
  cases r1
  obtain ⟨its,r',p,_⟩:=I.tuple g
  obtain ⟨o,e1,e2,_⟩:=p
  exact PK PySem.W.kitx_tuple I.kIn ⟨o,e1,e2⟩ (hJ X.K (by simp) h2) (fun z=>nomatch z) aS
 | rol g t=>
  cases h1
  cases r1
  obtain ⟨its,r',p,_⟩:=I.list g.sq
  obtain ⟨o,e1,e2,_⟩:=p.isList
  exact PK UH I.kIn ⟨o,e1,e2⟩ (hJ X.K (by simp) h2) (fun z=>nomatch z) aS
 | @loc a ha=>
  cases r1
  simp only [rZ] at h1
  split at h1
  ·rename_i xs hx
   cases h1
   obtain ⟨vs,h3,h4⟩:=R.lst a xs hx
   obtain ⟨its,r',p,_⟩:=I.list (SqL.of (K:=X.K) h3)
   obtain ⟨o,e1,e2,_⟩:=p.isList
   exact PK UH I.kIn ⟨o,e1,e2⟩ (hJ X.K (by simp) h2) (fun z=>nomatch z) aS
  ·rename_i kvs hx
   cases h1
   obtain ⟨vs,h3,_⟩:=R.dK a kvs hx
   obtain ⟨_,_,ws,_,p⟩:=(show ObjOk X.prog X.w H s.heap (π a) (.dK vs) from I.hok _ _ h3)
   obtain ⟨o,es,ep,e1,e2,_⟩:=p
   exact PK UI I.kIn ⟨o,e1,e2.1⟩ (hJ X.K (by simp) h2) (fun z=>nomatch z) aS
  ·rename_i kvs hx
   cases h1
   obtain ⟨vs,h3,_⟩:=R.dT a kvs hx
   obtain ⟨⟨ws,_,_,_,o,es,ep,e1,e2,_⟩,_⟩:=(show ObjOk X.prog X.w H s.heap (π a) (aP (π a) vs) from I.hok _ _ h3)
   exact PK UI I.kIn ⟨o,e1,e2.1⟩ (hJ X.K (by simp) h2) (fun z=>nomatch z) aS
  ·cases h1
 | ty n=>cases h1
end
noncomputable def lJ (kvs:List (aW×D))(k:aW):Option D:=(kvs.find? fun kv=>decide (kv.1=k)).map (·.2)
inductive IsKs (K:NO)(π:Nat->Addr)(n:Nat)(H:Hp):List (aW×V)->List (aW×D)->Prop where
 | nil:IsKs K π n H [] []
 | cons {k:aW}{v:V}{d:D}{vs:List (aW×V)}{ds:List (aW×D)}(h:IsD K π n H v d)(t:IsKs K π n H vs ds):IsKs K π n H ((k,v)::vs) ((k,d)::ds)
section
variable {K:NO}{π π':Nat->Addr}{n n':Nat}{H H':Hp}
theorem IsKs.of:∀ {vs:List (aW×V)}{ds:List (aW×D)},vs.map (·.1)=ds.map (·.1)->IsDs K π n H (vs.map (·.2)) (ds.map (·.2))->IsKs K π n H vs ds
 | [],[],_,_=>.nil
 | [],_::_,h,_=>by cases h
 | _::_,[],h,_=>by cases h
 | (k,v)::vs,(k',d)::ds,h,t=>by
  rw [N0,N0] at h t
  injection h with h1 h2
  dsimp only at h1
  subst h1
  cases t with
  | cons t1 t2=>exact .cons t1 (IsKs.of h2 t2)
theorem IsKs.any {vs:List (aW×V)}{ds:List (aW×D)}(h:IsKs K π n H vs ds)(k:aW):(vs.any fun kv=>decide (kv.1=k))=ds.any fun kv=>decide (kv.1=k):=by
 induction h with
 | nil=>rfl
 | cons h t ih=>rw [RN,RN,ih]
theorem IsKs.val {vs:List (aW×V)}{ds:List (aW×D)}(h:IsKs K π n H vs ds)(k:aW):(lJ ds k=none/\c8 vs k=none)\/∃ v d,lJ ds k=some d/\c8 vs k=some v/\IsD K π n H v d:=by
 induction h with
 | nil=>exact .inl ⟨rfl,rfl⟩
 | @cons k' v' d' vs ds h t ih=>
  by_cases e:k'=k
  ·exact .inr ⟨v',d',by simp [lJ,OT,e],by simp [c8,OT,e],h⟩
  ·have e1:lJ ((k',d')::ds) k=lJ ds k:=by simp [lJ,OT,e]
   have e2:c8 ((k',v')::vs) k=c8 vs k:=by simp [c8,OT,e]
   rw [e1,e2]
   exact ih
theorem IsKs.length {vs:List (aW×V)}{ds:List (aW×D)}(h:IsKs K π n H vs ds):vs.length=ds.length:=by
 induction h with
 | nil=>rfl
 | cons h t ih=>rw [OL,OL,ih]
end
noncomputable def GK (K:NO)(prs:List (ME×ME)):List (TE×TE):=prs.map fun p=>(tM K p.1,tM K p.2)
section
variable {X:Cx}{a b c:N2}{ma mb mc:ME}{pos:Py}
end
theorem iR {k:Nat}{A:OG}(r:Room k A):A.units+1<PR:=by have:=r.un;omega
noncomputable def fS (ma:ME):ME:=fun ρ μ=>(ma ρ μ).bind fun p=>(rP p.1).map fun d=>(d,p.2)
end L3
namespace L3
open PySem L2
noncomputable def d9 (cells:List (Str×Addr)):List (Str×Qc)->List (Str×Addr)->List (Str×Addr)
 | [],acc=>acc
 | (n,k)::r,acc=>if k=.free then (match cells.lookup n with|some c=>d9 cells r ((n,c)::acc)|none=>d9 cells r acc) else d9 cells r acc
theorem yY {env:SI}:∀ (names:List (Str×Qc))(acc:List (Str×Addr)),(∀ y∈names,y.2=.free->∃ c,env.cells.lookup y.1=some c)->
  (forIn names acc fun (x:Str×Qc)(cs:List (Str×Addr))=>(do
   if x.2 == .free then (do let c <- cellOf env x.1;pure (QK ((x.1,c)::cs))) else pure (QK cs):WW (ForInStep (List (Str×Addr)))))=pure (d9 env.cells names acc)
 | [],acc,_=>rfl
 | (n,k)::r,acc,h=>by
  have ih:=fun acc=>yY r acc fun y hy=>h y (Oc _ hy)
  rw [List.forIn_cons]
  by_cases hk:k=.free
  ·subst hk
   obtain ⟨c,hc⟩:=h (n,.free) (Om ..) rfl
   dsimp only at hc
   have e:cellOf env n=pure c:=by unfold cellOf;rw [hc]
   simp only [d9,hc,e,beq_self_eq_true,if_true,pure_bind]
   exact ih _
  ·have e:(k == PU)=false:=by simpa using hk
   simp only [d9,e,hk,if_false,Ob,pure_bind]
   exact ih _
theorem GL {scope:Qn}{env:SI}(h:∀ y∈scope.names,y.2=.free->∃ c,env.cells.lookup y.1=some c):Wh scope env=pure (d9 env.cells scope.names []):=by
 have:=yY (env:=env) scope.names [] h
 unfold Wh
 simp only [bind_pure] at *
 exact this
theorem oS {cells:List (Str×Addr)}:∀ (names:List (Str×Qc))(acc:List (Str×Addr)),(∀ y c,acc.lookup y=some c->cells.lookup y=some c)->∀ y c,(d9 cells names acc).lookup y=some c->cells.lookup y=some c
 | [],acc,h=>h
 | (n,k)::r,acc,h=>by
  unfold d9
  split
  ·split
   ·rename_i c0 hc
    refine oS r _ fun y c e=>?_
    rw [Ri] at e
    by_cases hy:y=n
    ·subst hy
     simp only [beq_self_eq_true] at e
     cases e
     exact hc
    ·have:(y == n)=false:=by simpa using hy
     rw [this] at e
     exact h y c e
   ·exact oS r acc h
  ·exact oS r acc h
theorem oT {cells:List (Str×Addr)}:∀ (names:List (Str×Qc))(acc:List (Str×Addr))(y:Str),(∃ c,acc.lookup y=some c)->∃ c,(d9 cells names acc).lookup y=some c
 | [],acc,y,h=>h
 | (n,k)::r,acc,y,h=>by
  unfold d9
  split
  ·split
   ·refine oT r _ y ?_
    rw [Ri]
    by_cases hy:(y == n)=true
    ·rw [hy];exact ⟨_,rfl⟩
    ·have:(y == n)=false:=by simpa using hy
     rw [this]
     exact h
   ·exact oT r acc y h
  ·exact oT r acc y h
theorem oU {cells:List (Str×Addr)}:∀ (names:List (Str×Qc))(acc:List (Str×Addr))(y:Str),(y,PU)∈names->(∃ c,cells.lookup y=some c)->∃ c,(d9 cells names acc).lookup y=some c
 | [],acc,y,h,_=>by cases h
 | (n,k)::r,acc,y,h,hc=>by
  unfold d9
  rcases Ov.mp h with h|h
  ·cases h
   obtain ⟨c,hc⟩:=hc
   rw [if_pos rfl,hc]
   exact oT r _ _ ⟨c,by simp [Ri]⟩
  ·split
   ·split
    ·exact oU r _ y h hc
    ·exact oU r _ y h hc
   ·exact oU r _ y h hc
structure CompSt (osc:Qn)(N:List Str)(scope:Qn)(xs:List Str):Prop where
 nocell:∀ y∈scope.names,y.2≠.cell
 kind:scope.kind=.function
 names:∀ y∈scope.names,y.2=.local->scope.names.lookup y.1=some .local
 here:∀ x∈xs,scope.names.lookup x=some .local
 free:∀ y∈scope.names,y.2=.free->osc.names.lookup y.1=some .cell\/osc.names.lookup y.1=some .free
 own:∀ y∈scope.names,y.2=.local->y.1∉bD xs N
 nd:N.Nodup
 hnd:(bD xs N).Nodup
 hidn:∀ y∈N,xs.contains y=true->scope.names.lookup (lF y)=none
theorem CompSt.ok {X:Cx}{scope:Qn}{xs:List Str}(S:CompSt X.env.scope X.N scope xs)(ok:X.Ok):CompOk X scope (d9 X.env.cells scope.names []) xs:=by
 have has:∀ y∈scope.names,y.2=.free->∃ c,X.env.cells.lookup y.1=some c:=fun y hy hf=>ok.has y.1 (S.free y hy hf)
 refine ⟨GL has,S.nocell,S.kind,S.names,S.here,oS scope.names [] (fun y c e=>by cases e),fun y e=>?_,fun y e=>?_,S.hidn⟩
 ·have hm:=O0 e
  exact ⟨S.free _ hm rfl,oU scope.names [] y hm (has _ hm rfl)⟩
 ·exact S.own _ (O0 e) rfl
end L3
namespace L3
open PySem L2
section
variable {X:Cx}{pos:Py}
end
end L3
namespace L3
open PySem L2
noncomputable def c4:N2->Bool
 | .Starred ..=>false
 | _=>true
theorem fE {e:N2}{es:List N2}{env:SI}(h:c4 e=true):OF (e::es) env=(false,eval e env)::OF es env:=by
 cases e<;>first|rfl|cases h
theorem jX {pos:Py}{env:SI}:∀ {es:List N2},es.all c4=true->(Qg pos (OF es env)).any (·.1)=false
 | [],_=>rfl
 | e::es,h=>by
  rw [OR,N5] at h
  rw [fE h.1]
  have:=jX (pos:=pos) (env:=env) h.2
  simpa [Qg] using this
theorem oV {e:N2}{es:List N2}{env:SI}(h:c4 e=true):PV (e::es) env=(false,Ta e env)::PV es env:=by
 cases e<;>first|rfl|cases h
theorem yZ {env:SI}:∀ {es:List N2},es.all c4=true->(PV es env).length=es.length
 | [],_=>rfl
 | e::es,h=>by
  rw [OR,N5] at h
  rw [oV h.1,OL,OL,yZ h.2]
theorem y1 {env:SI}:∀ {es:List N2},es.all c4=true->(PV es env).findIdx? (·.1)=none
 | [],_=>rfl
 | e::es,h=>by
  rw [OR,N5] at h
  rw [oV h.1,List.findIdx?_cons,y1 h.2]
  rfl
section
variable {X:Cx}{e a b c:N2}{es:List N2}{m:ME}{ms:MA}{pos:Py}
end
end L3
namespace L3
open PySem L2
structure QE (X:Cx)(e:N2)(m:ME):Prop where
 h:PE X e (tM X.K m)
structure QT (X:Cx)(e:N2)(m:MT):Prop where
 h:PT X e (cI X.K m)
structure QW (X:Cx)(e:N2)(m:MT):Prop where
 h:PW X e (cI X.K m)
structure QA (X:Cx)(es:List N2)(m:MA)(n:Nat):Prop where
 h:PA X es (dM X.K m)
 l:∀ ρ μ ds μ',m ρ μ=some (ds,μ')->ds.length=n
 s:es.all c4=true
structure QO (X:Cx)(e:Option N2)(m:MO):Prop where
 h:PO X e (mR X.K m)
structure QS (X:Cx)(st:Stmt)(m:MS):Prop where
 h:PS X st (cN X.K m)
structure QB (X:Cx)(st:List Stmt)(m:MS):Prop where
 h:PSs X st (cN X.K m)
structure QG (X:Cx)(e:N2)(g:MG):Prop where
 h:PG X e (eN X.K g)
structure QGs (X:Cx)(es:List N2)(is:List Nat):Prop where
 h:mK X es (oR is)
 n:es.length=is.length
 s:es.all c4=true
structure QI (X:Cx)(ifs:List N2)(m:MT):Prop where
 h:lI X ifs m
structure QP (X:Cx)(pos:Py)(keys:List (Option N2))(values:List N2)(prs:List (ME×ME)):Prop where
 h:Ey X pos keys values (GK X.K prs)
 a:keys.all (·.isSome)=true
 l:keys.length=values.length
section
variable {X:Cx}{e a b c:N2}{m ma mb mc:ME}{pos:Py}{mt mu:MT}{bJ es:List N2}{ms:MA}{n:Nat}
theorem GN {x:Str}(i:Nat)(hN:X.N[i]? = some x:=by rfl)(hv:mJ X.env.scope x:=by first|exact VJ rfl|exact UK (VJ rfl)|exact UK (UK rfl))(hd:(x == ("__debug__":Str))=false:=by decide)
  (hcd:(x == ("__classdict__":Str))=false:=by decide):QE X (.Name x pos) (aA i):=⟨Fj i (C5 hN hv hd hcd)⟩
theorem GO {i:Int}{j:Nat}:QE X (.Constant (.int i) j pos) (mC (.int i)):=⟨Fm⟩
theorem GP {i:Bool}{j:Nat}:QE X (.Constant (.bool i) j pos) (mC (.bl i)):=⟨Fn⟩
theorem GQ {i:Str}{j:Nat}:QE X (.Constant (.str i) j pos) (mC (.str i)):=⟨Fo⟩
theorem GR {j:Nat}:QE X (.Constant .none j pos) (mC .non):=⟨Fp⟩
theorem lK {op:Uv}{r:R2}{f:D->D->Hm->Option (D×Hm)}(ho:OpR X (Qm op) r)(hf:cO X.K f r)(ha:QE X a ma)(hb:QE X b mb):QE X (.BinOp a op b pos) (aB f ma mb):=⟨Fq ho hf ha.h hb.h⟩
theorem GS (ha:QE X a ma)(hb:QE X b mb):QE X (.BinOp a .Add b pos) (aB bB ma mb):=lK Gn Gp ha hb
theorem GU (ha:QE X a ma)(hb:QE X b mb):QE X (.BinOp a .Sub b pos) (aB lC ma mb):=lK D5 Gg ha hb
theorem GV (ha:QE X a ma)(hb:QE X b mb):QE X (.BinOp a .Mult b pos) (aB bQ ma mb):=lK Gd Gi ha hb
theorem GW (ha:QE X a ma)(hb:QE X b mb):QE X (.BinOp a .FloorDiv b pos) (aB cJ ma mb):=lK Ge Gj ha hb
theorem GX (ha:QE X a ma)(hb:QE X b mb):QE X (.BinOp a .Mod b pos) (aB bX ma mb):=lK D6 Gk ha hb
theorem GY (ha:QE X a ma)(hb:QE X b mb):QE X (.BinOp a .Pow b pos) (aB rN ma mb):=lK Gf Gm ha hb
theorem G0 (ha:QE X a ma):QE X (.UnaryOp .USub a pos) (fS ma):=⟨Gq ha.h⟩
theorem G4 (ha:QE X a ma):QE X (.UnaryOp .Not a pos) (rF ma):=⟨FC ha.h⟩
theorem G5 {k:Nat}(hr:Room k X.A)(ha:QE X a ma)(hb:QE X b mb):QE X (.Compare a [.Eq] [b] pos) (aB (bE false) ma mb):=⟨d7 (yN (oP hr)) oO ha.h hb.h (dG _)⟩
theorem G6 {k:Nat}(hr:Room k X.A)(ha:QE X a ma)(hb:QE X b mb):QE X (.Compare a [.NotEq] [b] pos) (aB (bE true) ma mb):=⟨d7 (yO (oP hr)) oO ha.h hb.h (dG _)⟩
theorem G7 (ha:QE X a ma)(hb:QE X b mb):QE X (.Compare a [.Lt] [b] pos) (aB lE ma mb):=⟨d7 wK iP ha.h hb.h (dG _)⟩
theorem G8 (ha:QE X a ma)(hb:QE X b mb):QE X (.Compare a [.LtE] [b] pos) (aB rV ma mb):=⟨d7 wL iP ha.h hb.h (dG _)⟩
theorem G9 (ha:QE X a ma)(hb:QE X b mb):QE X (.Compare a [.Gt] [b] pos) (aB fC ma mb):=⟨d7 wM iP ha.h hb.h (dG _)⟩
theorem Ha (ha:QE X a ma)(hb:QE X b mb):QE X (.Compare a [.GtE] [b] pos) (aB rW ma mb):=⟨d7 wN iP ha.h hb.h (dG _)⟩
noncomputable def eA:N2->Bool
 | .Set ..=>false
 | _=>true
theorem fF {op:RX}{b:N2}(h:eA b=true):Q6 op b=false:=by
 cases b<;>first|rfl|cases h
theorem Hb {op:BoolOp}(h:QE X a m):QE X (.BoolOp op [a] pos) m:=⟨Fy h.h⟩
theorem Hc (ha:QE X a ma)(hb:QE X (.BoolOp .And (b::bJ) pos) mb):QE X (.BoolOp .And (a::b::bJ) pos) (iM ma mb):=⟨Fz ha.h hb.h⟩
theorem Hd (ha:QE X a ma)(hb:QE X (.BoolOp .Or (b::bJ) pos) mb):QE X (.BoolOp .Or (a::b::bJ) pos) (rD ma mb):=⟨FA ha.h hb.h⟩
theorem He (hc:QT X c mt)(ha:QE X a ma)(hb:QE X b mb):QE X (.IfExp c a b pos) (gY mt ma mb):=⟨FD hc.h ha.h hb.h⟩
theorem Hf:QA X [] aD 0:=⟨FE,FJ,rfl⟩
theorem Hg (ha:QE X e m)(hr:QA X es ms n)(h:c4 e=true:=by rfl):QA X (e::es) (aC m ms) (n+1):=⟨FF ha.h hr.h (fE h),FK hr.l,by rw [OR,h,hr.s];rfl⟩
theorem Hh {x1:Nat}(h:QA X es ms n):QE X (.Tuple es x1 pos) (cP ms):=⟨FG h.h⟩
theorem Hi (h:QA X es ms n):QE X (.List es pos) (c5 ms):=⟨FH h.h⟩
noncomputable def lM:N2->Bool
 | .Slice ..=>false
 | _=>true
theorem y3 {b:N2}(h:lM b=true):qW b:=by
 intro o i
 cases b<;>first|rfl|cases h
theorem Hj (ha:QE X a ma)(hb:QE X b mb)(h:lM b=true:=by rfl):QE X (.Subscript a b pos) (aB eK ma mb):=⟨FR ha.h hb.h (y3 h)⟩
theorem Hk:QO X none iN:=⟨FT⟩
theorem Hl (h:QE X e m):QO X (some e) (iO m):=⟨FU h.h⟩
theorem Hn {lo hi:Option N2}{ml mh:MO}{p2:Py}(ha:QE X a ma)(hl:QO X lo ml)(hu:QO X hi mh):QE X (.Subscript a (.Slice lo hi none p2) pos) (jT ma ml mh):=⟨FW ha.h hl.h hu.h⟩
theorem Ho {k:Nat}{f:Addr}{fd:P4}{ps:List Str}{fm:MF}{x:Str}{p:Py}(F:FnOk X.prog X.w X.K X.mg X.base dZ k f fd ps (gA X.K n fm))(hr:Room k X.A)(hm:X.mg x=some (.ref f))
  (hk:Po X.K (.ref f)=true)(hb:Binds X.K fd ps [])(ha:QA X (e::es) ms n)(hg:Gl X x:=by rfl)(hdb:(x == ("__debug__":Str))=false:=by decide):QE X (.Call (.Name x p) (e::es) [] pos) (aM fm ms):=by
 have hs:=ha.s
 rw [OR,N5] at hs
 exact ⟨FL F hr hg hm hk hb ha.h ha.l hdb (fE hs.1) (jX hs.2)⟩
theorem y4 {f:MF}{r:List V->Hp->VK->Prop}{id:String}{x:Str}{p:Py}(hc:CallR X (.builtin id) r)(hf:cZ X.K f r)(hm:X.mg x=none)(hv:Pf x=some (.builtin id))(ha:QA X (e::es) ms n)
  (hg:Gl X x:=by rfl)(hn:x ≠ "__name__":=by decide) (hdb:(x == ("__debug__":Str))=false:=by decide):QE X (.Call (.Name x p) (e::es) [] pos) (aM f ms):=by
 have hs:=ha.s
 rw [OR,N5] at hs
 exact ⟨FN hc hf hg hm hv ha.h hn hdb (fE hs.1) (jX hs.2)⟩
theorem y6 {f:MF}{r:List V->Hp->VK->Prop}{T:String}{x:Str}{p:Py}(hc:CallR X (.type T) r)(hf:cZ X.K f r)(hm:X.mg x=none)(hv:Pf x=some (.type T))(ha:QA X (e::es) ms n)
  (hg:Gl X x:=by rfl)(hn:x ≠ "__name__":=by decide) (hdb:(x == ("__debug__":Str))=false:=by decide):QE X (.Call (.Name x p) (e::es) [] pos) (aM f ms):=by
 have hs:=ha.s
 rw [OR,N5] at hs
 exact ⟨FP hc hf hg hm hv ha.h hn hdb (fE hs.1) (jX hs.2)⟩
theorem Hq {x:Str}{n:String}(hm:X.mg x=none)(hv:Pf x=some (.type n))(hg:Gl X x:=by rfl)(hn:x ≠ "__name__":=by decide) (hd:(x == ("__debug__":Str))=false:=by decide):QE X (.Name x pos) (mC (.ty n)):=⟨Gs hg hm hv hn hd⟩
theorem Hr {k:Nat}(hr:Room k X.A)(ha:QE X a ma)(hb:QE X b mb):QT X (.Compare a [.Eq] [b] pos) (bC (aB (bE false) ma mb)):=⟨d8 (yN (oP hr)) oO ha.h hb.h (dG _)⟩
theorem Hs {k:Nat}(hr:Room k X.A)(ha:QE X a ma)(hb:QE X b mb):QT X (.Compare a [.NotEq] [b] pos) (bC (aB (bE true) ma mb)):=⟨d8 (yO (oP hr)) oO ha.h hb.h (dG _)⟩
theorem Ht (ha:QE X a ma)(hb:QE X b mb):QT X (.Compare a [.Lt] [b] pos) (bC (aB lE ma mb)):=⟨d8 wK iP ha.h hb.h (dG _)⟩
theorem Hu (ha:QE X a ma)(hb:QE X b mb):QT X (.Compare a [.LtE] [b] pos) (bC (aB rV ma mb)):=⟨d8 wL iP ha.h hb.h (dG _)⟩
theorem Hv (ha:QE X a ma)(hb:QE X b mb):QT X (.Compare a [.Gt] [b] pos) (bC (aB fC ma mb)):=⟨d8 wM iP ha.h hb.h (dG _)⟩
theorem Hw (ha:QE X a ma)(hb:QE X b mb):QT X (.Compare a [.GtE] [b] pos) (bC (aB rW ma mb)):=⟨d8 wN iP ha.h hb.h (dG _)⟩
noncomputable def r8:N2->Bool
 | .UnaryOp .Not ..=>false
 | .BoolOp ..=>false
 | .IfExp ..=>false
 | .Compare ..=>false
 | _=>true
theorem Hx {e:N2}{env:SI}(h:r8 e=true):∀ whole,Vh e env whole=(do let v <- whole;standAt e.pos;holding [v] (truthy v)):=by
 intro whole
 cases e<;>first|rfl|cases h|skip
 rename_i op x p
 cases op<;>first|rfl|cases h
theorem Hy (ha:QT X a mt):QT X (.UnaryOp .Not a pos) (k8 mt):=⟨Fx ha.h⟩
theorem Hz (ha:QT X a mt):QW X (.BoolOp .And [a] pos) mt:=⟨Ft ha.h⟩
theorem HA (ha:QT X a mt):QW X (.BoolOp .Or [a] pos) mt:=⟨Fu ha.h⟩
theorem HB (ha:QT X a mt)(hb:QW X (.BoolOp .And (b::bJ) pos) mu):QW X (.BoolOp .And (a::b::bJ) pos) (jS mt mu):=⟨Fv ha.h hb.h⟩
theorem HC (ha:QT X a mt)(hb:QW X (.BoolOp .Or (b::bJ) pos) mu):QW X (.BoolOp .Or (a::b::bJ) pos) (iL mt mu):=⟨Fw ha.h hb.h⟩
theorem HD (h:QW X e mt):QT X e mt:=⟨h.h.pt⟩
theorem HE:QI X [] iQ:=⟨GA⟩
theorem HF (h:QT X c mt):QI X [c] mt:=⟨GB h.h⟩
end
section
variable {X:Cx}{e a b c:N2}{m:ME}{pos:Py}{mt:MT}{st:Stmt}{bJ body orelse:List Stmt}{ms mr mu:MS}{n:Nat}{is:List Nat}{es:List N2}{g:MG}
theorem HG:QB X [] b6:=⟨FX⟩
theorem HH (h1:QS X st ms)(h2:QB X bJ mr):QB X (st::bJ) (aG ms mr):=⟨FY h1.h h2.h⟩
theorem HJ (h1:QS X st ms):QB X [st] ms:=⟨FZ h1.h⟩
theorem HK:QS X (.Pass pos) b6:=⟨F0⟩
theorem HL (he:QE X e m):QS X (.Return (some e) pos) (b8 m):=⟨F3 he.h⟩
noncomputable def hW:N2->Bool
 | .ListComp ..=>false
 | .SetComp ..=>false
 | .DictComp ..=>false
 | _=>true
theorem oW {e:N2}{t:Option N2}{n:Nat}{env:SI}(h:hW e=true):Ry e t n env=pure false:=by
 cases e<;>first|rfl|cases h
theorem HM (he:QE X e m)(h:hW e=true:=by rfl):QS X (.Expr e pos) (eL m):=⟨F4 he.h (oW h)⟩
theorem HN (hc:QT X c mt)(ha:QB X body ms)(hb:QB X orelse mu):QS X (.If c body orelse pos) (bS mt ms mu):=⟨F5 hc.h ha.h hb.h⟩
theorem HP (i:Nat){x:Str}{pos':Py}(hN:X.N.Nodup)(he:QE X e m)(h:hW e=true:=by rfl)(hi:X.N[i]? = some x:=by rfl)(hx:Loc X.env.scope x:=by first|exact VJ rfl|exact UK rfl)
  (hf:X.fn x=true\/X.env.scope.names.lookup x=some .local:=by first|exact .inl rfl|exact .inr rfl):QS X (.Assign [.Name x pos'] e pos) (bA i m):=⟨yD hN hi hx he.h (oW h) hf⟩
theorem HQ (i:Nat){x:Str}(hN:X.N.Nodup)(hi:X.N[i]? = some x:=by rfl)(hx:Loc X.env.scope x:=by first|exact VJ rfl|exact UK rfl)
  (hf:X.fn x=true\/X.env.scope.names.lookup x=some .local:=by first|exact .inl rfl|exact .inr rfl):QG X (.Name x pos) (b7 i):=⟨yQ hN hi hx hf⟩
theorem y8:QGs X [] []:=⟨DM,rfl,rfl⟩
theorem y9 (i:Nat){x:Str}(hN:X.N.Nodup)(hr:QGs X es is)(hi:X.N[i]? = some x:=by rfl)(hx:Loc X.env.scope x:=by first|exact VJ rfl|exact UK rfl)
  (hf:X.fn x=true\/X.env.scope.names.lookup x=some .local:=by first|exact .inl rfl|exact .inr rfl):QGs X (.Name x pos::es) (i::is):=
 ⟨DN (wC hN hi hx hf) hr.h (by rw [oV (e:=.Name x pos) rfl];rfl),by rw [OL,OL,hr.n],by rw [OR,hr.s];rfl⟩
theorem r9 {k:Nat}(h:QGs X es is)(hc:X.calm=true:=by rfl):QG X (.Tuple es k pos) (dN is):=⟨GF hc h.h ((yZ h.s).trans h.n) (y1 h.s)⟩
noncomputable def sA:N2->Bool
 | .Tuple ..=>false
 | _=>true
theorem HR {tg e:N2}{env:SI}(h:sA e=true):US [tg] e env=pure none:=by
 cases e<;>first|(cases tg<;>rfl)|cases h
theorem HS {k:Nat}{pt:Py}(he:QE X e m)(hg:QG X (.Tuple es k pt) g)(h:sA e=true:=by rfl):QS X (.Assign [.Tuple es k pt] e pos) (fD m g):=
 ⟨GG he.h hg.h (by cases e<;>rfl) (HR h) (by rw [oV (e:=.Tuple es k pt) rfl];rfl)⟩
end
section
variable {P:Oo}{w:OO}{K:NO}{mg:Str->Option NT}{base:O3}
theorem HU {x qual:Str}{st:Stmt}{f:Addr}{fd:P4}{N ps:List Str}{k:Nat}{body:List Stmt}{m:MS}(F:Fun K x qual st f fd)(S:FnScope N ps (cA st))(hps:ps.length<=N.length)(hbd:eJ st=body)
  (hbody:∀ (cdv:NT)(A:OG)(outer:List SI)(s:NV)(H:Hp)(E:XK),Room k (A.deeper (Tx qual (cA st) s.heap.objs.size f cdv))->
   QB (gW dZ P w K mg base N qual (cA st) f cdv A outer s H E).nox body m):FnOk P w K mg base dZ (k+1) f fd ps (gA K ps.length (rH N.length m)):=
 F7 F S hps fun cdv A outer s H E hr=>by
  rw [hbd]
  exact (hbody cdv A outer s H E hr).h
end
end L3
namespace L3
open PySem L2
noncomputable abbrev jY:=Hm->Nat->Option (Option D)
noncomputable abbrev MI:=aF->Hm->Option (jY×Nat×Hm)
noncomputable def hX (K:NO)(m:MI):TI:=fun σ H R=>∃ π ρ μ src n μ',Rp K π H μ/\En K π μ.length H σ ρ/\m ρ μ=some (src,n,μ') /\
 ∀ π' H' J,Ext π μ.length H π' μ'.length H'->Rp K π' H' μ'->Wk K J src π' μ'.length H'->R J H'
structure QJ (X:Cx)(e:N2)(m:MI):Prop where
 h:∀ tg,PI X tg e (hX X.K m)
section
variable {X:Cx}{pos:Py}{e:N2}{m:ME}
noncomputable def sC:MI:=fun _ _=>none
theorem j_bad:QJ X e sC:=⟨fun tg XB s σ H R I hw=>by
 obtain ⟨π,ρ,μ,src,n,μ',Rr,E,hm,k⟩:=hw
 cases hm⟩
noncomputable def jZ (μ:Hm):D->Option (List D)
 | d=>bM μ d
noncomputable def eP (x:D):jY:=fun μ i=>(jZ μ x).map fun xs=>xs[i]?
noncomputable def dO (m:ME):MI:=fun ρ μ=>(m ρ μ).bind fun p=>(jZ p.2 p.1).map fun xs=>(eP p.1,xs.length+1,p.2)
theorem HV (h:QE X e m):QJ X e (dO m):=⟨fun tg XB s σ H R I hw=>by
 obtain ⟨π,ρ,μ,src,n,μ',Rr,E,hm,k⟩:=hw
 obtain ⟨⟨x,μ1⟩,h1,hm⟩:=NN.mp hm
 obtain ⟨xs,h2,hm⟩:=NU.mp hm
 cases hm
 have key:∀ (hs:bM μ1 x=some xs)(hx:eP x=hU x),Oi (Ot X.prog X.w) X.A (eval e X.env) (fun v s1=>Oi (Ot X.prog X.w) X.A (Vg v) (n8 X XB σ tg R) X.xe s1) X.xe s:=fun hs hx=>by
  refine Gv h.h XB s σ H R I ⟨π,ρ,μ,x,_,Rr,E,h1,fun π1 v1 H1 e1 R1 i1=>?_⟩
  obtain ⟨a,e,q⟩:=Gw R1 i1 hs
  subst e
  refine ⟨a,rfl,?_⟩
  dsimp only at k
  rw [hx] at k
  rcases q with ⟨q1,W⟩|⟨q1,W⟩
  ·exact .inl ⟨q1,k π1 H1 _ e1 R1 W⟩
  ·exact .inr ⟨q1,k π1 H1 _ e1 R1 W⟩
 cases x with
 | _=>exact key h2 rfl⟩
noncomputable def mX (ms:MA):MI:=fun ρ μ=>(ms ρ μ).bind fun p=>match p.1 with
 | [.int j]=>if -(2 ^ 62)<=j/\j<2 ^ 62 then some (fR 0 j.toNat,j.toNat+1,p.2) else none
 | _=>none
theorem HW {a:N2}{ms:MA}{n:Nat}{p:Py}(hgl:Gl X "range") (hmg:X.mg "range" = none) (ha:QA X [a] ms n):QJ X (.Call (.Name "range" p) [a] [] pos) (mX ms):=⟨fun tg XB s σ H R I hw=>by
 have hs:=ha.s
 rw [OR,N5] at hs
 obtain ⟨π,ρ,μ,src,n',μ',Rr,E,hm,k⟩:=hw
 obtain ⟨⟨x,μ1⟩,h1,hm⟩:=NN.mp hm
 refine DV hgl hmg ha.h (fE hs.1) XB s σ H R I ⟨π,ρ,μ,x,μ1,Rr,E,h1,fun π1 vs H1 e1 R1 i1=>?_⟩
 dsimp only at hm
 split at hm
 ·rename_i j
  split at hm
  ·rename_i hb
   cases hm
   cases i1 with
   | cons i1 t1=>
    cases i1
    cases t1
    exact ⟨j,rfl,hb.1,hb.2,k π1 H1 _ e1 R1 yR⟩
  ·cases hm
 ·cases hm⟩
noncomputable def lN (ms:MA):MI:=fun ρ μ=>(ms ρ μ).bind fun p=>match p.1 with
 | [.int i,.int j]=>if -(2 ^ 62)<=i/\i<2 ^ 62/\-(2 ^ 62)<=j/\j<2 ^ 62 then some (fR i (j - i).toNat,(j - i).toNat+1,p.2) else none
 | _=>none
theorem HX {a b:N2}{ms:MA}{n:Nat}{p:Py}(hgl:Gl X "range") (hmg:X.mg "range" = none) (ha:QA X [a,b] ms n):QJ X (.Call (.Name "range" p) [a,b] [] pos) (lN ms):=⟨fun tg XB s σ H R I hw=>by
 have hs:=ha.s
 rw [OR,N5,OR,N5] at hs
 obtain ⟨π,ρ,μ,src,n',μ',Rr,E,hm,k⟩:=hw
 obtain ⟨⟨x,μ1⟩,h1,hm⟩:=NN.mp hm
 refine DW hgl hmg ha.h (by rw [fE hs.1,fE hs.2.1];rfl) (by rw [fE hs.2.1];rfl) XB s σ H R I ⟨π,ρ,μ,x,μ1,Rr,E,h1,fun π1 vs H1 e1 R1 i1=>?_⟩
 dsimp only at hm
 split at hm
 ·rename_i i j
  split at hm
  ·rename_i hb
   cases hm
   cases i1 with
   | cons i1 t1=>
    cases i1
    cases t1 with
    | cons i2 t2=>
     cases i2
     cases t2
     exact ⟨i,j,rfl,hb,k π1 H1 _ e1 R1 yR⟩
  ·cases hm
 ·cases hm⟩
noncomputable def cB (it:MI)(g:MG)(b:MS):MS:=fun ρ μ=>(it ρ μ).bind fun p=>dH p.1 g b p.2.1 0 ρ p.2.2
end
noncomputable def lO (bd:BD)(it:MI)(c:MT)(e:ME):ME:=fun ρ μ=>(it ρ μ).bind fun p=>
 (hV p.1 bd c e ρ p.2.2.length p.2.1 0 (p.2.2++[.lst []])).map fun μ'=>(.loc p.2.2.length,μ')
noncomputable abbrev iS (it:MI)(c:MT)(e:ME):ME:=lO mT it c e
noncomputable def gB (n:Nat)(bd:BD):MG:=fun d ρ μ=>(bd d μ).map fun x=>ρ.take n++x
theorem HY {X:Cx}{n:Nat}{x:Str}{px:Py}(hl:X.N.length=n+1)(h:PG X (.Name x px) (eN X.K (b7 n))):PG X (.Name x px) (eN X.K (gB n mT)):=by
 intro XB s σ H v u Q I r hw
 obtain ⟨π,ρ,μ,d,ρ',R,E,hd,hm,k⟩:=hw
 cases hm
 refine h XB s σ H v u Q I r ⟨π,ρ,μ,d,_,R,E,hd,rfl,fun σ' E'=>k σ' ?_⟩
 have hρ:ρ.length=n+1:=by rw [<- E.len,I.len,hl]
 have e:ρ.set n (some d)=ρ.take n++[some d]:=by
  rw [List.set_eq_take_append_cons_drop,if_pos (by omega),Uk (by omega)]
 rw [e] at E'
 exact E'
theorem zA:∀ (xs:List D)(a b:aF),b.length=xs.length->jW (a++b) (RI a.length xs.length) xs=a++xs.map some
 | [],a,[],_=>by simp [jW]
 | x::xs,a,y::b,h=>by
  have ih:=zA xs (a++[some x]) b (by simpa using h)
  rw [OL,RQ]
  show jW ((a++y::b).set a.length (some x)) (RI (a.length+1) xs.length) xs=_
  rw [R8 _ _ (N3 _),Nat.sub_self,NX]
  rw [Oa,Ph] at ih
  rw [List.append_assoc,List.singleton_append] at ih
  rw [ih]
  simp
theorem HZ {X:Cx}{n k:Nat}{tg:N2}(hl:X.N.length=n+k)(h:PG X tg (eN X.K (dN (RI n k)))):PG X tg (eN X.K (gB n (yT k))):=by
 intro XB s σ H v u Q I r hw
 obtain ⟨π,ρ,μ,d,ρ',R,E,hd,hm,kk⟩:=hw
 obtain ⟨y,h1,h2⟩:=NU.mp hm
 obtain ⟨xs,h3,h4⟩:=NN.mp h1
 split at h4
 ·rename_i hx
  cases h4
  subst h2
  have hρ:ρ.length=n+k:=by rw [<- E.len,I.len,hl]
  refine h XB s σ H v u Q I r ⟨π,ρ,μ,d,jW ρ (RI n k) xs,R,E,hd,(by simp only [dN,h3,Od,List.length_range',if_pos hx]),fun σ' E'=>kk σ' ?_⟩
  have e:=zA xs (ρ.take n) (ρ.drop n) (by rw [QH];omega)
  rw [Ux,OP,V8 (by omega),hx] at e
  rw [e] at E'
  exact E'
 ·cases h4
section
variable {X:Cx}{scope:Qn}{cl:List (Str×Addr)}{xs:List Str}{tg elt iter:N2}{ifs:List N2}{pos ppos:Py}{mi:MI}{me:ME}{mc:MT}{bd:BD}
theorem Ia {K:NO}{π:Nat->Addr}{n:Nat}{H:Hp}{σ:St}{ρ o:aF}{k:Nat}(E:En K π n H σ (ρ++o))(ho:o.length=k):En K π n H σ (ρ++PF k none):=by
 refine ⟨by rw [E.len,Oa,Oa,PZ,ho],fun i d q=>?_⟩
 by_cases hi:i<ρ.length
 ·rw [OM hi] at q
  exact E.get i d (by rw [OM hi];exact q)
 ·rw [Pr (Q4.mp hi),Qf] at q
  split at q<;>cases q
theorem zB (O:CompOk X scope cl xs)(hcalm:X.calm=true)(hi:PI X tg iter (hX X.K mi))(hb':∀ d μ z,bd d μ=some z->z.length=xs.length)(hg:∀ C s₀ H₀ fp,PG (cF X scope cl C (bD xs X.N++xs) s₀ H₀ fp) tg (eN X.K (gB X.N.length bd)))
  (hc:∀ C s₀ H₀ fp,lI (cF X scope cl C (bD xs X.N++xs) s₀ H₀ fp) ifs mc)(he:∀ C s₀ H₀ fp,PE (cF X scope cl C (bD xs X.N++xs) s₀ H₀ fp) elt (tM X.K me))
  (hs:∀ x,Rj iter X.env x=pure x){use:Option (NT->WW Unit)}{QQ:NT->NV->Prop}{XB:List (Addr×Pu)}{s:NV}{σ:St}{H:Hp}{π:Nat->Addr}{ρ:aF}{μ μ':Hm}{d:D}
  (I:Inv X XB σ H s)(R:Rp X.K π H μ)(E:En X.K π μ.length H σ ρ)(hm:lO bd mi mc me ρ μ=some (d,μ'))
  (aS:∀ (p C:Addr)(π':Nat->Addr)(H':Hp)(s':NV),Ext π μ.length H π' μ'.length H'->Rp X.K π' H' μ'->IsD X.K π' μ'.length H' (.ref p) d->(∃ m,s'.heap.Ns C m)->X.s₀.heap.objs.size<=C->C≠X.env.locals->H' C=none->
   (∀ y c,X.env.cells.lookup y=some c->c≠C)->(∀ q∈X.pn++XB,q.1≠C)->(∀ h',(∀ b o,b≠C->s'.heap.get? b=some o->h'.get? b=some o)->Inv X XB σ H' { s' with heap:=h' })->
   compPost (Ot X.prog X.w) X.A X.xe use QQ (.ref p) C (.ok .next) s') :
  Oi (Ot X.prog X.w) X.A (comprehension (.ListComp elt [⟨tg,iter,ifs,0⟩] scope pos) scope X.env ppos (newList []) false (eval iter X.env) use) QQ X.xe s:=by
 obtain ⟨⟨src,nt,μ1⟩,h1,hm⟩:=NN.mp hm
 obtain ⟨μ2,h3,hm⟩:=NU.mp hm
 cases hm
 have hit:Oi (Ot X.prog X.w) X.A (eval iter X.env) (fun v s1=>Oi (Ot X.prog X.w) X.A (Vg v) (n8 X XB σ tg fun J H1=>∃ π1,Ext π μ.length H π1 μ1.length H1/\Rp X.K π1 H1 μ1/\Wk X.K J src π1 μ1.length H1) X.xe s1) X.xe s:=
  hi XB s σ H _ I ⟨π,ρ,μ,src,nt,μ1,R,E,h1,fun π1 H1 J e1 R1 W=>⟨π1,e1,R1,W⟩⟩
 refine wpAny_comprehension_free rfl hs O.clos O.kind O.names (OZ hit (fun v s1 hv=>OZ hv (fun itv s2 h4=>?_) fun _ _ z=>z) fun _ _ z=>z)
 obtain ⟨it,fp,tn,J,H2,rfl,I2,T,st2,f2,π1,e1,R1,W⟩:=h4
 refine RU (wpAny_newFunctionEnv O.nocell (by intro y hy;simp at hy) (fun h₁ hns₁ hsb₁=>?_) O.kind)
 dsimp only at hns₁ hsb₁ ⊢
 have hfr:H2 s2.heap.objs.size=none:=I2.hok.fresh (N3 _)
 have I3:Inv X XB σ (aI H2 s2.heap.objs.size (.lst [])) { s2 with heap:=s2.heap.push { cls:=.type "list",dict:=none,data:=.seq ([]:List NT).toArray } }:=
  I2.laid (t':=s2.toks) (fun b u e=>NW _ e) (N3 _) ⟨OW _,[],0,.nil,Of _ rfl⟩
 obtain ⟨e2,R2,q2⟩:=R1.alloc (c:=.lst []) (o:=.lst []) hfr .nil
 generalize hs3:({ s2 with heap:=s2.heap.push { cls:=.type "list",dict:=none,data:=.seq ([]:List NT).toArray } }:NV)=s3 at I3
 have hheap:s2.heap.push { cls:=.type "list",dict:=none,data:=.seq ([]:List NT).toArray } = s3.heap:=by rw [<- hs3]
 have e12:=e1.trans e2
 generalize hH3:aI H2 s2.heap.objs.size (.lst [])=H3 at I3 e2 R2 e12
 generalize hπ3:e8 π1 μ1.length s2.heap.objs.size=π3 at e2 R2 q2 e12
 have hob:∀ b∈fp,∃ o,s3.heap.get? b=some o:=fun b hb=>by
  obtain ⟨o,ho,_⟩:=T.obj 0 _ st2 b hb
  exact ⟨o,by rw [<- hheap];exact NW _ ho⟩
 have f3:∀ b∈fp,f7 X XB H3 b:=fun b hb=>by
  obtain ⟨o,ho,_⟩:=T.obj 0 _ st2 b hb
  refine ⟨?_,(f2 b hb).2⟩
  rw [<- hH3,bH (Oh (N7 ho))]
  exact (f2 b hb).1
 have st3:tn 0 s3.heap:=T.keep 0 _ _ st2 fun b hb o e=>by rw [<- hheap];exact NW _ e
 have hC:(s2.heap.push { cls:=.type "list",dict:=none,data:=.seq ([]:List NT).toArray }).objs.size=s3.heap.objs.size:=by rw [hheap]
 rw [hheap] at hns₁ hsb₁
 have hk1:∀ b o,s3.heap.get? b=some o->h₁.get? b=some o:=fun b o e=>hsb₁.extBut b o (Oh (N7 e)) (NW _ e)
 have E3:En X.K π3 (μ1++[C.lst []]).length H3 (σ++PF xs.length none) (ρ++PF xs.length none):=by
  have E':=E.mono e12
  refine ⟨by rw [Oa,Oa,E'.len,PZ,PZ],fun i d' q=>?_⟩
  by_cases hi:i<ρ.length
  ·rw [OM hi] at q
   obtain ⟨v,h5,h6⟩:=E'.get i d' q
   exact ⟨v,by rw [OM (by rw [E'.len];exact hi)];exact h5,h6⟩
  ·rw [Pr (Q4.mp hi),Qf] at q
   split at q<;>cases q
 have hlen:ρ.length=X.N.length:=by rw [<- E.len];exact I.len
 have stat:∀ {H':Hp}{pl:List (Addr×Pu)},(∀ b∈fp,H' b=none)->pl=[]->∀ b∈fp,f7 (cF X scope cl s3.heap.objs.size (bD xs X.N++xs) s3 H3 fp) pl H' b:=fun {H' pl} hn hpl b hb=>by
  obtain ⟨f0,f1,f2',f3',f4,f5⟩:=f3 b hb
  obtain ⟨o,ho⟩:=hob b hb
  refine ⟨hn b hb,Oh (N7 ho),fun z=>?_,.inl hb,fun y c h=>f4 y c (O.sub y c h),fun p hp=>?_⟩
  ·rcases Ov.mp (I3.stkSub b z) with z|z
   ·exact f1 z
   ·exact f2' z
  ·subst hpl
   exact absurd (show p∈([]:List (Addr×Pu)) from hp) (by simp)
 have loop:∀ s4:NV,(∃ tk,s4 = { s3 with heap:=h₁,toks:=tk })->
   Si (Ot X.prog X.w) X.A (.compLoop (.ListComp elt [⟨tg,iter,ifs,0⟩] scope pos) 0 (.ref it) (.ref s2.heap.objs.size) (Rk scope cl s3.heap.objs.size X.env))
    (compPost (Ot X.prog X.w) X.A X.xe use QQ (.ref s2.heap.objs.size) s3.heap.objs.size) s4:=by
  rintro s4 ⟨tk,rfl⟩
  have I4:=O.inv (tk:=tk) I3 f3 hob hns₁ hk1
  refine Gz (fun n s'=>∃ i σ' H' π' μi o,Inv (cF X scope cl s3.heap.objs.size (bD xs X.N++xs) s3 H3 fp) [] σ' H' s'/\tn i s'.heap/\(∀ b∈fp,H' b=none)/\Ext π3 (μ1++[C.lst []]).length H3 π' μi.length H'/\Rp X.K π' H' μi /\
   En X.K π' μi.length H' σ' (ρ++o)/\o.length=xs.length/\hV src bd mc me ρ μ1.length n i μi=some μ') ?_ nt
   ⟨0,_,H3,π3,μ1++[C.lst []],PF xs.length none,I4,T.keep 0 _ _ st3 fun b hb o e=>hk1 b o e,fun b hb=>(f3 b hb).1,.refl,R2,E3,PZ,h3⟩
  rintro n s5 ⟨i,σ5,H5,π5,μ5,o5,I5,st5,fr5,e5,R5,E5,l5,g5⟩
  cases n with
  | zero=>cases g5
  | succ n=>
   obtain ⟨o,h6,h7⟩:=NN.mp g5
   cases o with
   | none=>
    cases h7
    have stop:=W.stop π5 _ H5 i (e2.trans e5) R5 h6
    refine OZ (T.done (cF X scope cl s3.heap.objs.size (bD xs X.N++xs) s3 H3 fp) rfl rfl rfl hcalm i [] s5 σ5 H5 (fun _ _=>False) I5 (stat fr5 rfl) st5 stop) (fun r s6 ⟨hr,I6⟩=>?_) fun _ _ z=>z
    subst hr
    obtain ⟨m6,hn6,_⟩:=id I6.loc
    have hp:π5 μ1.length=s2.heap.objs.size:=by rw [e5.pi μ1.length (by simp),q2]
    refine aS s2.heap.objs.size s3.heap.objs.size π5 H5 s6 (e12.trans e5) R5 ?_ ⟨m6,hn6⟩ I3.sz (OB (Oh I3.lt)) I6.free (fun y c hc z=>?_) (fun q hq z=>?_) fun h' hh=>CompOk.back I3 f3 I6 hh
    ·rw [<- hp]
     exact .loc (OD (by simp) e5.le)
    ·obtain ⟨v,o,ho,_⟩:=I3.cell y c hc
     exact Oh (N7 ho) z
    ·exact Oh (N7 (I3.pin q hq).1) z
   | some d=>
    obtain ⟨z,hz,h7⟩:=NN.mp h7
    obtain ⟨⟨b,μ6⟩,h8,h9⟩:=NN.mp h7
    obtain ⟨g1,g2⟩:=W.go π5 μ5 H5 i d (e2.trans e5) R5 h6
    refine OZ (T.item (cF X scope cl s3.heap.objs.size (bD xs X.N++xs) s3 H3 fp) rfl rfl rfl hcalm i [] s5 σ5 H5 (fun _ _=>False) I5 (stat fr5 rfl) st5 g1) (fun r s6 ⟨u,hr,h10⟩=>?_) fun _ _ z=>z
    subst hr
    refine OZ h10 (fun _ s7 ⟨v,H7,I7,r7,y7,st7,fr7⟩=>?_) fun _ _ z=>z
    obtain ⟨e7,R7,hd⟩:=g2 v H7 y7
    have I7':=I7.pinned (stat fr7 rfl) (T.obj _ _ st7)
    have e5:=e5.trans e7
    refine OZ (hg _ _ _ _ _ s7 σ5 H7 v u (fun σ' H'=>En X.K π5 μ5.length H7 σ' (ρ++z)/\H'=H7) I7' r7
     ⟨π5,ρ++PF xs.length none,μ5,d,ρ++z,R7,Ia (E5.mono e7) l5,hd,(by
      show (bd d μ5).map (fun x=>(ρ++PF xs.length none).take X.N.length++x)=_
      rw [hz,<- hlen,List.take_left]
      rfl),fun σ' E'=>⟨E',rfl⟩⟩) (fun _ s8 ⟨σ8,H8,I8,E8,z2⟩=>?_) fun _ _ z=>z
    subst z2
    have again:∀ {s9:NV}{H9:Hp}{π9:Nat->Addr}{μ9:Hm},Inv (cF X scope cl s3.heap.objs.size (bD xs X.N++xs) s3 H3 fp) ([]++mM fp s7.heap) σ8 H9 s9->Ext π3 (μ1++[C.lst []]).length H3 π9 μ9.length H9->Rp X.K π9 H9 μ9->
      En X.K π9 μ9.length H9 σ8 (ρ++z)->hV src bd mc me ρ μ1.length n (i+1) μ9=some μ'->
      ∃ m,m<n+1/\∃ i σ' H' π' μi o,Inv (cF X scope cl s3.heap.objs.size (bD xs X.N++xs) s3 H3 fp) [] σ' H' s9/\tn i s9.heap/\(∀ b∈fp,H' b=none)/\Ext π3 (μ1++[C.lst []]).length H3 π' μi.length H'/\Rp X.K π' H' μi /\
       En X.K π' μi.length H' σ' (ρ++o)/\o.length=xs.length/\hV src bd mc me ρ μ1.length m i μi=some μ':=fun {s9 H9 π9 μ9} I9 e9 R9 E9 g9=>by
     refine ⟨n,Td _,i+1,_,H9,π9,μ9,z,I9.unpinned,T.keep _ _ _ st7 fun b hb o e=>(I9.pin (b,o) (O1 _ (O1 _ (oA hb e)))).1,fun b hb=>?_,e9,R9,E9,hb' _ _ _ hz,g9⟩
     obtain ⟨o,e,_⟩:=T.obj _ _ st7 b hb
     exact (I9.pin (b,o) (O1 _ (O1 _ (oA hb e)))).2.1
    refine OZ (hc _ _ _ _ _ s8 _ H8 (fun b' H'=>∃ π9,b'=b/\Ext π5 μ5.length H8 π9 μ6.length H'/\Rp X.K π9 H' μ6) I8 ⟨π5,_,μ5,b,μ6,R7,E8,h8,fun π9 H9 e9 R9=>⟨π9,rfl,e9,R9⟩⟩) (fun ok s9 ⟨H9,I9,π9,hb,e9,R9⟩=>?_) fun _ _ z=>z
    subst hb
    cases ok with
    | false=>
     rw [if_neg OI]
     exact again I9 (e5.trans e9) R9 (E8.mono e9) h9
    | true=>
     rw [if_pos rfl]
     obtain ⟨⟨dy,μ7⟩,h11,h12⟩:=NN.mp h9
     obtain ⟨μ8,h13,h14⟩:=NN.mp h12
     refine OZ (he _ _ _ _ _ s9 _ H9 (fun y H'=>∃ π10,Ext π9 μ6.length H9 π10 μ7.length H'/\Rp X.K π10 H' μ7/\IsD X.K π10 μ7.length H' y dy) I9 ⟨π9,_,μ6,dy,μ7,R9,E8.mono e9,h11,fun π10 y H10 e10 R10 i10=>⟨π10,e10,R10,i10⟩⟩)
      (fun u' s10 ⟨y,H10,I10,ry,π10,e10,R10,i10⟩=>?_) fun _ _ z=>z
     unfold lH at h13
     split at h13
     ·rename_i zs hz
      split at h13
      ·rename_i hl
       cases h13
       obtain ⟨vs,h15,h16⟩:=R10.lst _ zs hz
       have eall:=(e5.trans e9).trans e10
       have hp:π10 μ1.length=s2.heap.objs.size:=by rw [eall.pi μ1.length (by simp),q2]
       obtain ⟨e11,R11⟩:=R10.put (a:=μ1.length) (c:=.lst (zs++[dy])) (o:=.lst (vs++[y])) (NS.mp hz).1 h15 (.inl ⟨vs,rfl⟩) (h16.append (.cons i10 .nil))
       rw [hp] at h15 e11 R11
       refine OZ (xM (X:=cF X scope cl s3.heap.objs.size (bD xs X.N++xs) s3 H3 fp) _ s10 _ H10 (.ref s2.heap.objs.size) [y] (.ref s2.heap.objs.size) [u'] (fun _ H'=>H'=aI H10 s2.heap.objs.size (.lst (vs++[y]))) I10 rfl (.cons ry .nil)
        ⟨s2.heap.objs.size,vs,y,rfl,rfl,h15,by rw [h16.length];exact hl,rfl⟩) (fun _ s11 ⟨_,H11,I11,_,z⟩=>?_) fun _ _ z=>z
       subst z
       exact again I11 (eall.trans e11) R11 ((E8.mono (e9.trans e10)).mono e11) h14
      ·cases h13
     ·cases h13
 have l4:=loop { s3 with heap:=h₁,toks:=s2.toks+([]:List (Str×NT)).length } ⟨_,rfl⟩
 have hst4:tn 0 h₁:=T.keep 0 _ _ st3 fun b hb o e=>hk1 b o e
 subst hs3
 exact codeAny_compStart_list l4 (T.self _ 0 _ _ _ hst4 l4)
theorem Ib (O:CompOk X scope cl xs)(hcalm:X.calm=true)(hi:PI X tg iter (hX X.K mi))(hb':∀ d μ z,bd d μ=some z->z.length=xs.length)(hg:∀ C s₀ H₀ fp,PG (cF X scope cl C (bD xs X.N++xs) s₀ H₀ fp) tg (eN X.K (gB X.N.length bd)))
  (hc:∀ C s₀ H₀ fp,lI (cF X scope cl C (bD xs X.N++xs) s₀ H₀ fp) ifs mc)(he:∀ C s₀ H₀ fp,PE (cF X scope cl C (bD xs X.N++xs) s₀ H₀ fp) elt (tM X.K me))
  (hs:∀ x,Rj iter X.env x=pure x):PE X (.ListComp elt [⟨tg,iter,ifs,0⟩] scope pos) (tM X.K (lO bd mi mc me)):=by
 intro XB s σ H Q I hw
 obtain ⟨π,ρ,μ,d,μ',R,E,hm,k⟩:=hw
 rw [eval_ListComp]
 refine zB (use:=none) O hcalm hi hb' hg hc he hs I R E hm fun p C π' H' s' e1 R1 i1 hns hsz hne hfree hcel hpin back=>?_
 obtain ⟨m,hn⟩:=hns
 exact ⟨m,hn,fun h' sb=>⟨.ref p,H',back h' (fun b o hb e=>(sb.2 b hb).trans e),rfl,k π' _ H' e1 R1 i1⟩⟩
theorem Ic {i:Nat}{y:Str}{py spos:Py}(O:CompOk X scope cl xs)(hN:X.N.Nodup)(hcalm:X.calm=true)(hi:PI X tg iter (hX X.K mi))(hb':∀ d μ z,bd d μ=some z->z.length=xs.length)(hg:∀ C s₀ H₀ fp,PG (cF X scope cl C (bD xs X.N++xs) s₀ H₀ fp) tg (eN X.K (gB X.N.length bd)))
  (hc:∀ C s₀ H₀ fp,lI (cF X scope cl C (bD xs X.N++xs) s₀ H₀ fp) ifs mc)(he:∀ C s₀ H₀ fp,PE (cF X scope cl C (bD xs X.N++xs) s₀ H₀ fp) elt (tM X.K me))
  (hs:∀ x,Rj iter X.env x=pure x)(hy:X.N[i]? = some y)(hl:X.env.scope.names.lookup y=some .local)
  (hsw:Ry (.ListComp elt [⟨tg,iter,ifs,0⟩] scope pos) (some (.Name y py)) spos.line X.env=pure true) :
  PS X (.Assign [.Name y py] (.ListComp elt [⟨tg,iter,ifs,0⟩] scope pos) spos) (cN X.K (bA i (lO bd mi mc me))):=by
 intro XB s σ H EN I hw
 obtain ⟨π,ρ,μ,fl,ρ',μ',R,E,hm,k⟩:=hw
 obtain ⟨⟨d,μ1⟩,h1,hm⟩:=NU.mp hm
 cases hm
 rw [exec_Assign_Name_used _ _ _ _ hsw]
 refine NQ (UQ ?_)
 refine NQ (NQ ?_)
 refine zB (use:=some (Ta (.Name y py) X.env)) (QQ:=fun _ s'=>Oi (Ot X.prog X.w) X.A (pure ()) (fun _ s''=>Oi (Ot X.prog X.w) X.A (pure Flow.next) (SP X XB EN) X.xe s'') X.xe s') O hcalm hi hb' hg hc he hs I R E h1 fun p C π' H' s' e1 R1 i1 hns hsz hne hfree hcel hpin back=>?_
 obtain ⟨m,hn⟩:=hns
 have I1:Inv X XB σ H' s':=back s'.heap fun b o _ e=>e
 show Oi (Ot X.prog X.w) X.A (Ta (.Name y py) X.env (.ref p)) _ X.xe s'
 refine Ws ?_
 refine v7 I1 hN hy (.inl hl) (show RelV (.ref p) (.ref p) from rfl) (fun s2 I2 ⟨a,sb,ha⟩=>?_) (.inr hl)
 have hCa:C≠a:=by
  rcases ha with rfl|ha
  ·exact hne
  ·exact OB (hcel _ _ ha)
 refine ⟨m,hn.sameBut sb hCa,fun h' sb'=>N1 (N1 ?_)⟩
 refine ⟨σ.set i (some (.ref p)),H',I2.turned (t':=s2.toks) (fun b o hb e=>(sb'.2 b hb).trans e) hfree hne (.inr hsz) hcel hpin,?_⟩
 exact k π' _ H' e1 R1 ((E.mono e1).set i1 i)
end
end L3
namespace L3
open PySem L2
noncomputable def bT:ME:=fun _ _=>none
noncomputable def lP:MT:=fun _ _=>none
noncomputable def fG:MS:=fun _ _=>none
section
variable {X:Cx}{e a b c o:N2}{m m1 m2 ma mb mc:ME}{pos:Py}{mt mu:MT}{bJ es:List N2}{ms:MA}{n:Nat}
theorem bV:QE X e bT:=⟨fun XB s σ H Q I h=>by
 obtain ⟨π,ρ,μ,d,μ',R,E,hm,k⟩:=h
 cases hm⟩
theorem zC:QT X e lP:=⟨fun XB s σ H Q I h=>by
 obtain ⟨π,ρ,μ,d,μ',R,E,hm,k⟩:=h
 cases hm⟩
theorem Ie:QW X e lP:=⟨fun wh XB s σ H Q I h=>by
 obtain ⟨π,ρ,μ,d,μ',R,E,hm,k⟩:=h
 cases hm⟩
theorem fT {st:Stmt}:QS X st fG:=⟨fun XB s σ H D I h=>by
 obtain ⟨π,ρ,μ,fl,ρ',μ',R,E,hm,k⟩:=h
 cases hm⟩
theorem oX {g:MG}(hg:∀ d ρ μ,g d ρ μ=none):QG X e g:=⟨fun XB s σ H v u Q I r h=>by
 obtain ⟨π,ρ,μ,d,ρ',R,E,hd,hm,k⟩:=h
 rw [hg] at hm
 cases hm⟩
theorem mY (h1:QE X e m1)(h2:QE X e m2)(h:∀ ρ μ r,m ρ μ=some r->m1 ρ μ=some r\/m2 ρ μ=some r):QE X e m:=⟨fun XB s σ H Q I q=>by
 obtain ⟨π,ρ,μ,d,μ',R,E,hm,k⟩:=q
 rcases h ρ μ _ hm with z|z
 ·exact h1.h XB s σ H Q I ⟨π,ρ,μ,d,μ',R,E,z,k⟩
 ·exact h2.h XB s σ H Q I ⟨π,ρ,μ,d,μ',R,E,z,k⟩⟩
theorem oY {m m1 m2:MT}(h1:QT X e m1)(h2:QT X e m2)(h:∀ ρ μ r,m ρ μ=some r->m1 ρ μ=some r\/m2 ρ μ=some r):QT X e m:=⟨fun XB s σ H Q I q=>by
 obtain ⟨π,ρ,μ,d,μ',R,E,hm,k⟩:=q
 rcases h ρ μ _ hm with z|z
 ·exact h1.h XB s σ H Q I ⟨π,ρ,μ,d,μ',R,E,z,k⟩
 ·exact h2.h XB s σ H Q I ⟨π,ρ,μ,d,μ',R,E,z,k⟩⟩
theorem iA {f f1 f2:D->D->Hm->Option (D×Hm)}(h:∀ x y μ r,f x y μ=some r->f1 x y μ=some r\/f2 x y μ=some r) :
  ∀ ρ μ r,aB f ma mb ρ μ=some r->aB f1 ma mb ρ μ=some r\/aB f2 ma mb ρ μ=some r:=by
 intro ρ μ r hm
 obtain ⟨p,h1,hm⟩:=NN.mp hm
 obtain ⟨q,h2,hm⟩:=NN.mp hm
 rcases h _ _ _ _ hm with z|z
 ·exact .inl (NN.mpr ⟨p,h1,NN.mpr ⟨q,h2,z⟩⟩)
 ·exact .inr (NN.mpr ⟨p,h1,NN.mpr ⟨q,h2,z⟩⟩)
theorem oZ (h:∀ ρ μ r,m ρ μ=some r->m1 ρ μ=some r\/m2 ρ μ=some r):∀ ρ μ r,bC m ρ μ=some r->bC m1 ρ μ=some r\/bC m2 ρ μ=some r:=by
 intro ρ μ r hm
 obtain ⟨p,h1,hm⟩:=NN.mp hm
 rcases h _ _ _ h1 with z|z
 ·exact .inl (NN.mpr ⟨p,z,hm⟩)
 ·exact .inr (NN.mpr ⟨p,z,hm⟩)
noncomputable def j0:List D->Option (List Int)
 | []=>some []
 | .int i::r=>(j0 r).map (i::·)
 | _=>none
noncomputable def cK:D->Option (List Int)
 | .tup ds=>j0 ds
 | _=>none
noncomputable def bF (kvs:List (List Int×D))(k:List Int):Option D:=(kvs.find? fun p=>decide (p.1=k)).map (·.2)
noncomputable def cS (kvs:List (List Int×D))(k:List Int)(d:D):List (List Int×D):=if (bF kvs k).isSome then kvs.map (fun p=>if p.1=k then (p.1,d) else p) else kvs++[(k,d)]
noncomputable def aH:D->D->Hm->Option (D×Hm):=fun x y μ=>match x with
 | .loc a=>match μ[a]? with
  | some (.dT kvs)=>(cK y).bind fun k=>(bF kvs k).map fun d=>(d,μ)
  | some (.dF kvs)=>(cK y).bind fun k=>(bF kvs k).map fun d=>(d,μ)
  | _=>eK x y μ
 | _=>eK x y μ
structure TabOk (X:Cx)(x:Str)(kvs:List (aW×D)):Prop where
 ex:∃ (p:Addr)(vs:List (aW×V))(ws:List (aW×NT)),X.mg x=some (.ref p)/\(∀ h:O3,X.K.In h->h.DictOf (jO X.prog X.w) p ws)/\KV vs ws/\∀ π n H,IsKs X.K π n H vs kvs
theorem zD {XB:List (Addr×Pu)}{σ:St}{H:Hp}{s:NV}(I:Inv X XB σ H s){p:Addr}{ob:Pu}(h:X.K.lookup p=some ob):H p=none:=(I.bs p ob (I.mod.kin p ob h)).2
theorem zE {K:NO}{π:Nat->Addr}{H:Hp}{μ:Hm}(R:Rp K π H μ){a':Nat}(ha:a'<μ.length):(∃ vs,H (π a')=some (.lst vs))\/(∃ vs,H (π a')=some (.dK vs))\/(∃ φ,H (π a')=some (.ext φ))\/∃ ob φ,H (π a')=some (.frz ob (.ext φ)):=by
 cases q:μ[a']? with
 | none=>exact absurd (Pc.mp q) (by omega)
 | some cl=>
  cases cl with
  | lst xs=>obtain ⟨vs,h,_⟩:=R.lst a' xs q;exact .inl ⟨vs,h⟩
  | dK xs=>obtain ⟨vs,h,_⟩:=R.dK a' xs q;exact .inr (.inl ⟨vs,h⟩)
  | st xs=>obtain ⟨vs,h,_⟩:=R.st a' xs q;exact .inr (.inr (.inl ⟨_,h⟩))
  | dT xs=>obtain ⟨vs,h,_⟩:=R.dT a' xs q;exact .inr (.inr (.inl ⟨_,h⟩))
  | dF xs=>obtain ⟨ob,vs,h,_⟩:=R.dF a' xs q;exact .inr (.inr (.inr ⟨ob,_,h⟩))
section
variable {XB:List (Addr×Pu)}{σ:St}{H:Hp}{s:NV}{π:Nat->Addr}{μ:Hm}
theorem zF (I:Inv X XB σ H s)(R:Rp X.K π H μ){a':Nat}(ha:a'<μ.length){vs:List V}(h:SqT X.K H (π a') vs):False:=by
 have hc:=zE R ha
 rcases h with h|h
 ·rcases h with h|⟨ob,h⟩<;>rcases hc with ⟨ws,z⟩|⟨ws,z⟩|⟨ws,z⟩|⟨_,ws,z⟩<;>(rw [h] at z;cases z)
 ·obtain ⟨ob,its,n,hk,_⟩:=h
  have:=zD I hk
  rcases hc with ⟨ws,z⟩|⟨ws,z⟩|⟨ws,z⟩|⟨_,ws,z⟩<;>(rw [this] at z;cases z)
theorem zG (I:Inv X XB σ H s)(R:Rp X.K π H μ){a':Nat}(ha:a'<μ.length){vs:List V}(h:RoL X.K H (π a') vs):False:=by
 have hc:=zE R ha
 rcases h with ⟨ob,h⟩|h
 ·rcases hc with ⟨ws,z⟩|⟨ws,z⟩|⟨ws,z⟩|⟨_,ws,z⟩<;>(rw [h] at z;cases z)
 ·obtain ⟨ob,its,n,hk,_⟩:=h
  have:=zD I hk
  rcases hc with ⟨ws,z⟩|⟨ws,z⟩|⟨ws,z⟩|⟨_,ws,z⟩<;>(rw [this] at z;cases z)
theorem zH (I:Inv X XB σ H s){p:Addr}{vs ws:List V}(h:SqT X.K H p vs)(h':RoL X.K H p ws):False:=by
 obtain ⟨its,_,t,_⟩:=I.tuple h
 obtain ⟨its',_,l,_⟩:=I.list h'.sq
 exact absurd rfl (Pp l.isList t)
mutual
theorem zI (I:Inv X XB σ H s)(R:Rp X.K π H μ){v:V}{d d':D}:IsD X.K π μ.length H v d->IsD X.K π μ.length H v d'->d=d'
 | .non,h'=>by cases h';rfl
 | .bl _,h'=>by cases h';rfl
 | .int _,h'=>by cases h';rfl
 | .str _,h'=>by cases h';rfl
 | .ty _,h'=>by cases h';rfl
 | .tup h t,h'=>by
  cases h' with
  | tup h2 t2=>
   have:=I.tuple_inj h h2
   subst this
   rw [sD I R t t2]
  | rol h2 t2=>exact (zH I h h2).elim
  | loc h2=>exact (zF I R h2 h).elim
 | .rol h t,h'=>by
  cases h' with
  | tup h2 t2=>exact (zH I h2 h).elim
  | rol h2 t2=>
   have:=I.list_inj h.sq h2.sq
   subst this
   rw [sD I R t t2]
  | loc h2=>exact (zG I R h2 h).elim
 | .loc (a:=a1) ha,h'=>by
  generalize hz:V.ref (π a1)=z at h'
  cases h' with
  | tup h2 t2=>cases hz;exact (zF I R ha h2).elim
  | rol h2 t2=>cases hz;exact (zG I R ha h2).elim
  | loc h2=>
   have:=R.inj _ _ ha h2 (V.ref.inj hz)
   rw [this]
  | _=>cases hz
theorem sD (I:Inv X XB σ H s)(R:Rp X.K π H μ){vs:List V}{ds ds':List D}:IsDs X.K π μ.length H vs ds->IsDs X.K π μ.length H vs ds'->ds=ds'
 | .nil,h'=>by cases h';rfl
 | .cons h t,h'=>by
  cases h' with
  | cons h2 t2=>rw [zI I R h h2,sD I R t t2]
end
end
noncomputable def iT (μ:Hm)(x:D):List D->Option Bool
 | []=>some false
 | y::r=>(bZ 8 μ y x).bind fun b=>(iT μ x r).map fun c=>b||c
noncomputable def j4 (neg:Bool):D->D->Hm->Option (D×Hm):=fun x y μ=>(bM μ y).bind fun ys=>(iT μ x ys).map fun b=>(.bl (if neg then !b else b),μ)
noncomputable def sE (K:NO)(neg:Bool):R2:=fun x y H Q=>∃ π μ dx dy ys b,Rp K π H μ/\IsD K π μ.length H x dx/\IsD K π μ.length H y dy/\bM μ dy=some ys/\iT μ dx ys=some b/\Q (.bl (if neg then !b else b)) H
theorem o3 {K:NO}{neg:Bool}:cO K (j4 neg) (sE K neg):=by
 intro π H μ x y d μ' vx vy Q R ix iy hm k
 obtain ⟨ys,h1,hm⟩:=NN.mp hm
 obtain ⟨b,h2,hm⟩:=NU.mp hm
 cases hm
 exact ⟨π,_,x,y,ys,b,R,ix,iy,h1,h2,k π _ H .refl R (.bl _)⟩
theorem o4 {XB:List (Addr×Pu)}{σ:St}{H:Hp}{s:NV}{π:Nat->Addr}{μ:Hm}(I:Inv X XB σ H s)(R:Rp X.K π H μ){A:OG}(hu:A.units+8<PR){x:V}{v:NT}{dx:D}(rx:RelV x v)(ix:IsD X.K π μ.length H x dx) :
  ∀ {ys:List D}{vs:List V}{us:List NT}{b:Bool},IsDs X.K π μ.length H vs ys->Vals vs us->iT μ dx ys=some b->
   ∃ g:NT->Bool,(∀ u∈us,UU A s u v (g u))/\us.any g=b:=by
 classical
 intro ys vs us b hi hv hm
 have each:∀ {ys:List D}{vs:List V}{us:List NT}{b:Bool},IsDs X.K π μ.length H vs ys->Vals vs us->iT μ dx ys=some b->(∀ u∈us,∃ c,UU A s u v c/\∃ w dy,RelV w u/\IsD X.K π μ.length H w dy/\bZ 8 μ dy dx=some c):=by
  intro ys
  induction ys with
  | nil=>
   intro vs us b hi hv hm u hu'
   cases hi
   cases hv
   cases hu'
  | cons y ys ih=>
   intro vs us b hi hv hm u hu'
   cases hi with
   | cons h t=>
    cases hv with
    | cons r rt=>
     obtain ⟨c,h1,hm⟩:=NN.mp hm
     obtain ⟨c2,h2,hm⟩:=NU.mp hm
     rcases Ov.mp hu' with rfl|hu'
     ·exact ⟨c,rM I R 8 hu r rx h ix h1,_,_,r,h,h1⟩
     ·exact ih t rt h2 u hu'
 have ec:=each hi hv hm
 refine ⟨fun u=>if h:u∈us then Sv (ec u h) else false,fun u hu'=>?_,?_⟩
 ·simp only [dif_pos hu']
  exact (TM (ec u hu')).1
 ·have key:∀ u (h:u∈us) w dy c,RelV w u->IsD X.K π μ.length H w dy->bZ 8 μ dy dx=some c->Sv (ec u h)=c:=by
   intro u h w dy c rw' iw ew
   obtain ⟨_,w2,dy2,r2,i2,e2⟩:=TM (ec u h)
   have:w2=w:=r2.inj rw'
   subst this
   have:=zI I R i2 iw
   subst this
   rw [e2] at ew
   exact Oj ew
  have main:∀ {ys:List D}{vs:List V}{us':List NT}{b:Bool},(∀ u∈us',u∈us)->IsDs X.K π μ.length H vs ys->Vals vs us'->iT μ dx ys=some b->us'.any (fun u=>if h:u∈us then Sv (ec u h) else false)=b:=by
   intro ys
   induction ys with
   | nil=>
    intro vs us' b hs hi hv hm
    cases hi
    cases hv
    cases hm
    rfl
   | cons y ys ih=>
    intro vs us' b hs hi hv hm
    cases hi with
    | cons h t=>
     cases hv with
     | @cons _ u _ us2 r rt=>
      obtain ⟨c,h1,hm⟩:=NN.mp hm
      obtain ⟨c2,h2,hm⟩:=NU.mp hm
      have iR:u∈us:=hs u (Om ..)
      rw [RN,ih (fun z hz=>hs z (Oc _ hz)) t rt h2,dif_pos iR,key u iR _ _ c r h h1]
      exact hm
  exact main (fun _ h=>h) hi hv hm
theorem o6 {k:Nat}{A:OG}(r:Room k A):A.units+9<PR:=by have:=r.un;omega
theorem zJ (hu:X.A.units+9<PR):OpR X (Pe .In) (sE X.K false):=by
 intro XB s σ H x y v u Q I rx ry h
 obtain ⟨π,μ,dx,dy,ys,b,R,ix,iy,e1,e2,q⟩:=h
 obtain ⟨p,vs,rfl,hq,hd⟩:=mV R iy e1
 cases ry
 rcases hq with hq|hq
 ·obtain ⟨its,r,pl,hz⟩:=I.list hq
  obtain ⟨g,g1,g2⟩:=o4 I R (A:=X.A.in1) (by rw [jU];omega) rx ix hd r e2
  refine SeqAt.in_listAt g pl.isList (fun w hw=>g1 w (by simpa using hw)) ⟨.bl _,H,I,rfl,?_⟩
  rw [show its.toArray.any g=its.any g by simp,g2]
  exact q
 ·obtain ⟨its,r,pl,hz⟩:=I.tuple hq
  obtain ⟨g,g1,g2⟩:=o4 I R (A:=X.A.in1) (by rw [jU];omega) rx ix hd r e2
  refine SeqAt.in_tupleAt g pl (fun w hw=>g1 w (by simpa using hw)) ⟨.bl _,H,I,rfl,?_⟩
  rw [show its.toArray.any g=its.any g by simp,g2]
  exact q
theorem zK (hu:X.A.units+9<PR):OpR X (Pe .NotIn) (sE X.K true):=by
 intro XB s σ H x y v u Q I rx ry h
 obtain ⟨π,μ,dx,dy,ys,b,R,ix,iy,e1,e2,q⟩:=h
 obtain ⟨p,vs,rfl,hq,hd⟩:=mV R iy e1
 cases ry
 rcases hq with hq|hq
 ·obtain ⟨its,r,pl,hz⟩:=I.list hq
  obtain ⟨g,g1,g2⟩:=o4 I R (A:=X.A.in1) (by rw [jU];omega) rx ix hd r e2
  refine SeqAt.notIn_listAt g pl.isList (fun w hw=>g1 w (by simpa using hw)) ⟨.bl _,H,I,rfl,?_⟩
  rw [show its.toArray.any g=its.any g by simp,g2]
  exact q
 ·obtain ⟨its,r,pl,hz⟩:=I.tuple hq
  obtain ⟨g,g1,g2⟩:=o4 I R (A:=X.A.in1) (by rw [jU];omega) rx ix hd r e2
  refine SeqAt.notIn_tupleAt g pl (fun w hw=>g1 w (by simpa using hw)) ⟨.bl _,H,I,rfl,?_⟩
  rw [show its.toArray.any g=its.any g by simp,g2]
  exact q
noncomputable def eB (neg:Bool):D->D->Hm->Option (D×Hm)
 | .str i,.str j,μ=>some (.bl (if neg then !(!(O7 j i 0 j.length 1).isEmpty) else !(O7 j i 0 j.length 1).isEmpty),μ)
 | x,.loc a,μ=>match μ[a]? with
  | some (.dT kvs)=>(cK x).map fun k=>(.bl (if neg then !(bF kvs k).isSome else (bF kvs k).isSome),μ)
  | some (.dF kvs)=>(cK x).map fun k=>(.bl (if neg then !(bF kvs k).isSome else (bF kvs k).isSome),μ)
  | _=>j4 neg x (.loc a) μ
 | x,y,μ=>j4 neg x y μ
noncomputable def sF:D->D->Hm->Option (D×Hm)
 | .str i,.str j,μ=>some (.bl (!(!(O7 j i 0 j.length 1).isEmpty)),μ)
 | _,_,_=>none
theorem zL {K:NO}:cO K sF (fun x y H Q=>∃ i j,x=.str i/\y=.str j/\Q (.bl (!(!(O7 j i 0 j.length 1).isEmpty))) H):=by
 intro π H μ x y d μ' vx vy Q R ix iy hm k
 unfold sF at hm
 split at hm
 ·cases hm
  cases ix
  cases iy
  exact ⟨_,_,rfl,rfl,k π _ H .refl R (.bl _)⟩
 ·cases hm
end
end L3
namespace L3
open PySem L2
section
variable {X:Cx}{e a b c o:N2}{m m1 m2 ma mb mc mo:ME}{pos apos cpos:Py}{mt mu:MT}{bJ es:List N2}{ms:MA}{n:Nat}
noncomputable def j5 (μ:Hm):D->Bool
 | .rol _=>true
 | .loc a=>match μ[a]? with|some (.lst _)=>true|_=>false
 | _=>false
noncomputable def dP (f:D->List D->Hm->Option (D×Hm))(mo:ME)(ms:MA):ME:=fun ρ μ=>(mo ρ μ).bind fun p=>match j5 p.2 p.1 with
 | true=>(ms ρ p.2).bind fun q=>f p.1 q.1 q.2
 | false=>none
noncomputable def c9 (K:NO)(f:D->List D->Hm->Option (D×Hm))(r:V->List V->Hp->VK->Prop):Prop:=
 ∀ π H μ x xs d μ' v vs Q,Rp K π H μ->IsD K π μ.length H v x->IsDs K π μ.length H vs xs->f x xs μ=some (d,μ')->KC K Q π μ.length H d μ'->r v vs H Q
theorem zM {K:NO}{π:Nat->Addr}{H:Hp}{μ:Hm}{v:V}{x:D}(R:Rp K π H μ)(h:IsD K π μ.length H v x)(e:j5 μ x=true):oH K "list" v H:=by
 cases h with
 | rol h t=>exact .inl ⟨rfl,_,h.sq⟩
 | @loc a ha=>
  simp only [j5] at e
  split at e
  ·rename_i xs hx
   obtain ⟨vs,h1,_⟩:=R.lst a xs hx
   exact .inl ⟨rfl,vs,.of h1⟩
  ·cases e
 | _=>cases e
theorem Ig {K:NO}{f:D->List D->Hm->Option (D×Hm)}{r:V->List V->Hp->VK->Prop}(hf:c9 K f r):∀ σ H Q,tM K (dP f mo ms) σ H Q->xJ K "list" r (tM K mo) (dM K ms) σ H Q:=by
 rintro σ H Q ⟨π,ρ,μ,d,μ',R,E,hm,k⟩
 obtain ⟨⟨x,μ1⟩,h1,hm⟩:=NN.mp hm
 dsimp only at hm
 split at hm
 ·rename_i hl
  obtain ⟨⟨xs,μ2⟩,h2,hm⟩:=NN.mp hm
  refine ⟨π,ρ,μ,x,μ1,R,E,h1,fun π1 v1 H1 e1 R1 i1=>⟨zM R1 i1 hl,π1,ρ,μ1,xs,μ2,R1,E.mono e1,h2,fun π2 vs H2 e2 R2 i2=>?_⟩⟩
  exact hf π2 H2 μ2 x xs d μ' v1 vs Q R2 (i1.mono e2) i2 hm (k.after (e1.trans e2))
 ·cases hm
theorem Ii {K:NO}{f:D->List D->Hm->Option (D×Hm)}{r:V->List V->Hp->VK->Prop}(hf:c9 K f r):∀ σ H Q,tM K (dP f mo aD) σ H Q->xI K "list" r (tM K mo) σ H Q:=by
 rintro σ H Q ⟨π,ρ,μ,d,μ',R,E,hm,k⟩
 obtain ⟨⟨x,μ1⟩,h1,hm⟩:=NN.mp hm
 dsimp only at hm
 split at hm
 ·rename_i hl
  obtain ⟨⟨xs,μ2⟩,h2,hm⟩:=NN.mp hm
  cases h2
  refine ⟨π,ρ,μ,x,μ1,R,E,h1,fun π1 v1 H1 e1 R1 i1=>⟨zM R1 i1 hl,?_⟩⟩
  exact hf π1 H1 μ1 x [] d μ' v1 [] Q R1 i1 .nil hm (k.after e1)
 ·cases hm
noncomputable def lQ:N2->Bool
 | .Call (.Name _ _) [] [] _=>false
 | _=>true
theorem j6 {o:N2}{attr:Str}{env:SI}{whole:WW NT}(h:lQ o=true):Q7 o attr env whole=whole:=by
 cases o with
 | Call f args kws p=>
  cases f with
  | Name id q=>
   cases args with
   | nil=>
    cases kws with
    | nil=>cases h
    | cons _ _=>rfl
   | cons _ _=>rfl
  | _=>rfl
 | _=>rfl
theorem zN {e:N2}{es:List N2}{env:SI}{cpos:Py}(h:(e::es).all c4=true)(hn:(e::es).length<30) :
  ((Qg cpos (OF (e::es) env)).all (fun x=>!x.1)&&(Us cpos (SD [] env)).all (fun x=>x.1.isSome)
   && decide ((e::es).length+([]:List QY).length+(if ([]:List QY).isEmpty then 0 else 1)<30))=true:=by
 have h1:(Qg cpos (OF (e::es) env)).all (fun x=>!x.1)=true:=by
  have:=jX (pos:=cpos) (env:=env) h
  rw [List.all_eq_not_any_not]
  simpa using this
 rw [h1]
 have h2:(e::es).length+([]:List QY).length+(if ([]:List QY).isEmpty then 0 else 1)<30:=by
  show (e::es).length+0+0<30
  omega
 rw [decide_eq_true h2]
 rfl
theorem zO {f:D->List D->Hm->Option (D×Hm)}{r:V->List V->Hp->VK->Prop}{name:Str}{id:String}(slot:WG "list" name id) (hty:TQ (.builtin id)=pure (.type "method_descriptor")) (hm:dJ X id r)(hf:c9 X.K f r)
  (ho:QE X o mo)(ha:QA X (e::es) ms n)(hs:lQ o=true)(hl:(apos.endLine == cpos.line)=true)(hn:(e::es).length<30):QE X (.Call (.Attribute o name apos) (e::es) [] cpos) (dP f mo ms):=by
 have hst:=ha.s
 have hst':=hst
 rw [OR,N5] at hst'
 exact ⟨cE (EU TF slot hty hm ho.h ha.h (j6 hs) (zN hst hn) hl (fE hst'.1) (jX hst'.2)) (Ig hf)⟩
theorem sG {f:D->List D->Hm->Option (D×Hm)}{r:V->List V->Hp->VK->Prop}{name:Str}{id:String}(slot:WG "list" name id) (hty:TQ (.builtin id)=pure (.type "method_descriptor")) (hm:dJ X id r)(hf:c9 X.K f r)
  (ho:QE X o mo)(hs:lQ o=true)(hl:(apos.endLine == cpos.line)=true):QE X (.Call (.Attribute o name apos) [] [] cpos) (dP f mo aD):=
 ⟨cE (ET TF slot hty hm ho.h (j6 hs) hl) (Ii hf)⟩
noncomputable def gD:D->List D->Hm->Option (D×Hm)
 | .loc a,[y],μ=>(lH μ a y).map fun μ'=>(.non,μ')
 | _,_,_=>none
noncomputable def sH:D->List D->Hm->Option (D×Hm)
 | .loc a,[],μ=>match μ[a]? with
  | some (.lst _)=>some (.non,μ.set a (.lst []))
  | _=>none
 | _,_,_=>none
noncomputable def j7:D->List D->Hm->Option (D×Hm)
 | .loc a,[],μ=>match μ[a]? with
  | some (.lst xs)=>(xs[xs.length - 1]?).map fun y=>(y,μ.set a (.lst xs.dropLast))
  | _=>none
 | _,_,_=>none
noncomputable def j8:D->List D->Hm->Option (D×Hm)
 | .loc a,[],μ=>match μ[a]? with
  | some (.lst xs)=>some (.non,μ.set a (.lst xs.reverse))
  | _=>none
 | _,_,_=>none
theorem zP {K:NO}{π:Nat->Addr}{n:Nat}{H:Hp}{vs:List V}{ds:List D}(h:IsDs K π n H vs ds):IsDs K π n H vs.reverse ds.reverse:=by
 induction ds generalizing vs with
 | nil=>cases h;exact .nil
 | cons d ds ih=>
  cases h with
  | cons h t=>
   rw [Qv,Qv]
   exact (ih t).append (.cons h .nil)
theorem Ij {K:NO}{π:Nat->Addr}{n:Nat}{H:Hp}{vs:List V}{ds:List D}(h:IsDs K π n H vs ds):IsDs K π n H vs.dropLast ds.dropLast:=by
 rw [UA,UA,h.length]
 exact h.take _
theorem Ik {K:NO}:c9 K gD xK:=by
 intro π H μ x xs d μ' v vs Q R ix ixs hm k
 unfold gD at hm
 split at hm
 ·rename_i a y
  obtain ⟨μ1,h1,hm⟩:=NU.mp hm
  cases hm
  unfold lH at h1
  split at h1
  ·rename_i zs hz
   split at h1
   ·rename_i hl
    cases h1
    obtain ⟨ws,h2,h3⟩:=R.lst a zs hz
    cases ix
    cases ixs with
    | cons iy it=>
     cases it
     obtain ⟨e1,R1⟩:=R.put (a:=a) (c:=.lst (zs++[y])) (o:=.lst (ws++[_])) (NS.mp hz).1 h2 (.inl ⟨ws,rfl⟩) (h3.append (.cons iy .nil))
     exact ⟨_,ws,_,rfl,rfl,h2,by rw [h3.length];exact hl,k π _ _ e1 R1 .non⟩
   ·cases h1
  ·cases h1
 ·cases hm
theorem Il {K:NO}:c9 K sH xP:=by
 intro π H μ x xs d μ' v vs Q R ix ixs hm k
 unfold sH at hm
 split at hm
 ·rename_i a
  split at hm
  ·rename_i zs hz
   cases hm
   obtain ⟨ws,h2,h3⟩:=R.lst a zs hz
   cases ix
   cases ixs
   obtain ⟨e1,R1⟩:=R.put (a:=a) (c:=.lst []) (o:=.lst []) (NS.mp hz).1 h2 (.inl ⟨ws,rfl⟩) .nil
   exact ⟨_,ws,rfl,rfl,h2,k π _ _ e1 R1 .non⟩
  ·cases hm
 ·cases hm
theorem Io {K:NO}:c9 K j8 xO:=by
 intro π H μ x xs d μ' v vs Q R ix ixs hm k
 unfold j8 at hm
 split at hm
 ·rename_i a
  split at hm
  ·rename_i zs hz
   cases hm
   obtain ⟨ws,h2,h3⟩:=R.lst a zs hz
   cases ix
   cases ixs
   obtain ⟨e1,R1⟩:=R.put (a:=a) (c:=.lst zs.reverse) (o:=.lst ws.reverse) (NS.mp hz).1 h2 (.inl ⟨ws,rfl⟩) (zP h3)
   exact ⟨_,ws,rfl,rfl,h2,k π _ _ e1 R1 .non⟩
  ·cases hm
 ·cases hm
theorem Ip {K:NO}:c9 K j7 xN:=by
 intro π H μ x xs d μ' v vs Q R ix ixs hm k
 unfold j7 at hm
 split at hm
 ·rename_i a
  split at hm
  ·rename_i zs hz
   obtain ⟨y,h1,hm⟩:=NU.mp hm
   cases hm
   obtain ⟨ws,h2,h3⟩:=R.lst a zs hz
   cases ix
   cases ixs
   obtain ⟨w,h4,h5⟩:=h3.get h1
   obtain ⟨e1,R1⟩:=R.put (a:=a) (c:=.lst zs.dropLast) (o:=.lst ws.dropLast) (NS.mp hz).1 h2 (.inl ⟨ws,rfl⟩) (Ij h3)
   refine ⟨_,ws,w,rfl,rfl,h2,by rw [h3.length];exact h4,k π w _ e1 R1 (h5.mono e1)⟩
  ·cases hm
 ·cases hm
noncomputable def lR (μ:Hm):D->Option Bool
 | .non=>some false
 | .bl b=>some b
 | .int i=>some (i != 0)
 | .str z=>if z.length<=N4 then some ((z.length:Int) != 0) else none
 | .tup xs=>some (!xs.isEmpty)
 | .rol xs=>some (!xs.isEmpty)
 | .loc a=>match μ[a]? with|some (.lst xs)=>some (!xs.isEmpty)|some (.dK kvs)=>some (!kvs.isEmpty)|_=>none
 | .ty _=>none
theorem o7 {α β:Type}{xs:List α}{ys:List β}(h:xs.length=ys.length):xs.isEmpty=ys.isEmpty:=by
 cases xs<;>cases ys<;>first|rfl|cases h
theorem Iq {K:NO}{π:Nat->Addr}{H:Hp}{μ:Hm}{v:V}{x:D}{b:Bool}(R:Rp K π H μ)(h:IsD K π μ.length H v x)(e:lR μ x=some b):qS K v H b:=by
 cases h with
 | non=>cases e;rfl
 | bl c=>cases e;rfl
 | int i=>cases e;rfl
 | str z=>
  simp only [lR] at e
  split at e
  ·rename_i hl;cases e;exact ⟨hl,rfl⟩
  ·cases e
 | tup h t=>cases e;exact .inr (.inl ⟨_,h,by rw [o7 t.length]⟩)
 | rol h t=>cases e;exact .inl ⟨_,h.sq,by rw [o7 t.length]⟩
 | @loc a ha=>
  simp only [lR] at e
  split at e
  ·rename_i xs hx
   cases e
   obtain ⟨vs,h1,h2⟩:=R.lst a xs hx
   exact .inl ⟨vs,.of h1,by rw [o7 h2.length]⟩
  ·rename_i kvs hx
   cases e
   obtain ⟨vs,h1,h2,_⟩:=R.dK a kvs hx
   refine .inr (.inr ⟨vs,h1,?_⟩)
   have:=congrArg OJ h2
   rw [NP,NP] at this
   rw [o7 this]
  ·cases e
 | ty n=>cases e
noncomputable def iB (m:ME):MT:=fun ρ μ=>(m ρ μ).bind fun p=>(lR p.2 p.1).map fun b=>(b,p.2)
theorem Ir (h:QE X e m)(he:r8 e=true):QT X e (iB m):=⟨rC (Ee h.h (Hx he)) (by
 rintro σ H Q ⟨π,ρ,μ,b,μ',R,E,hm,k⟩
 obtain ⟨⟨x,μ1⟩,h1,hm⟩:=NN.mp hm
 obtain ⟨b',h2,hm⟩:=NU.mp hm
 cases hm
 exact ⟨π,ρ,μ,x,_,R,E,h1,fun π1 v1 H1 e1 R1 i1=>⟨_,Iq R1 i1 h2,k π1 H1 e1 R1⟩⟩)⟩
theorem Iu {k:Nat}{f:Addr}{fd:P4}{ps:List Str}{fm:MF}{x:Str}{p:Py}(F:FnOk X.prog X.w X.K X.mg X.base dZ k f fd ps (gA X.K 0 fm))(hr:Room k X.A)(hm:X.mg x=some (.ref f))
  (hk:Po X.K (.ref f)=true)(hb:Binds X.K fd ps [])(hg:Gl X x)(hdb:(x == ("__debug__":Str))=false):QE X (.Call (.Name x p) [] [] pos) (aM fm aD):=
 ⟨cE (Er F hr hg hm hk hb .nil (E:=E0) xS hdb) (by
  rintro σ H Q ⟨π,ρ,μ,d,μ',R,E,hm,k⟩
  obtain ⟨⟨xs,μ1⟩,h1,hm⟩:=NN.mp hm
  cases h1
  exact ⟨rfl,π,[],μ,d,μ',R,.nil,hm,k⟩)⟩
theorem Iv:QS X (.Return none pos) (b8 (mC .non)):=⟨gC DI (by
 rintro E σ H ⟨π,ρ,μ,fl,ρ',μ',R,EN,hm,k⟩
 cases hm
 exact k π .non H .refl R .non)⟩
end
end L3
namespace L3
open PySem L2
noncomputable def lT:List D->Option (List Bool)
 | []=>some []
 | .bl b::r=>(lT r).map (b::·)
 | _=>none
noncomputable def o8:MF:=fun ds μ=>match ds with
 | [x]=>(bM μ x).bind fun xs=>(lT xs).map fun bs=>(.bl (bs.all id),μ)
 | _=>none
theorem zQ {K:NO}{π:Nat->Addr}{n:Nat}{H:Hp}:∀ {xs:List D}{vs:List V}{bs:List Bool},IsDs K π n H vs xs->lT xs=some bs->vs=bs.map V.bl
 | [],_,bs,h,e=>by cases h;cases e;rfl
 | x::xs,vs,bs,h,e=>by
  cases h with
  | cons h t=>
   cases x with
   | bl b=>
    obtain ⟨bs',h1,h2⟩:=NU.mp e
    subst h2
    cases h
    rw [zQ t h1]
    rfl
   | _=>cases e
noncomputable def zR (K:NO)(g:List Bool->Bool):List V->Hp->VK->Prop:=fun xs H Q=>∃ p bs,xs=[.ref p]/\(SqL K H p (bs.map V.bl)\/SqT K H p (bs.map V.bl))/\Q (.bl (g bs)) H
theorem Iw {K:NO}{g:List Bool->Bool}{f:MF}(hf:f=fun ds μ=>match ds with|[x]=>(bM μ x).bind fun xs=>(lT xs).map fun bs=>(.bl (g bs),μ)|_=>none):cZ K f (zR K g):=by
 subst hf
 intro π H μ xs d μ' vs Q R i hm k
 dsimp only at hm
 split at hm
 ·obtain ⟨ys,h1,hm⟩:=NN.mp hm
  obtain ⟨bs,h2,hm⟩:=NU.mp hm
  cases hm
  cases i with
  | cons i t=>
   cases t
   obtain ⟨p,ws,rfl,q,hd⟩:=mV R i h1
   have:=zQ hd h2
   subst this
   exact ⟨p,bs,rfl,q,k π _ H .refl R (.bl _)⟩
 ·cases hm
theorem zS {bs:List Bool}{n:Nat}(hn:n=bs.length):(ON n).all (fun i=>bs.getD i false)=bs.all id:=by
 subst hn
 induction bs with
 | nil=>rfl
 | cons b bs ih=>
  rw [OL,RV,OR,SH,OR,<- ih]
  rfl
section
variable {X:Cx}
theorem zT {prog:Oo}{w:OO}{A:OG}{bs:List Bool}{its:List NT}(r:Vals (bs.map V.bl) its):TruthOf prog w A (fun i v=>its.toArray[i]? = some v) (fun i=>bs.getD i false):=by
 intro i v s Q E hP hQ
 have hP':its[i]? = some v:=by simpa using hP
 have hi:i<bs.length:=by
  have:=(NS.mp hP').1
  have:=r.length
  rw [NP] at this
  omega
 obtain ⟨u,h1,h2⟩:=r.get (i:=i) (x:=.bl bs[i]) (by rw [Ol,N9 hi];rfl)
 rw [hP'] at h1
 cases h1
 cases h2
 have e:bs.getD i false=bs[i]:=by simp [Pj,hi]
 dsimp only at hQ
 rw [e] at hQ
 exact QC hQ
theorem Iy (hc:X.calm=true):CallR X (.builtin "all") (zR X.K (·.all id)):=by
 intro XB s σ H xs us Q I r h
 obtain ⟨p,bs,rfl,hq,q⟩:=h
 obtain ⟨u,rfl,ru⟩:=e6 r
 cases ru
 have hh:X.A.in1.handled=none:=I.ok.hd hc
 rcases hq with hq|hq
 ·obtain ⟨its,rv,pl,hz⟩:=I.list hq
  refine call_all_walk (Tp pl.isList ?_)
  have hne:p≠s.heap.objs.size:=by
   obtain ⟨o,ho,_⟩:=pl.isList
   exact Oh (N7 ho)
  refine ⟨s.heap.objs.size,_,_,_,_,_,fun i=>bs.getD i false,rfl,Walks.list hh _ p hne its.toArray,⟨⟨_,Of _ rfl,rfl,rfl⟩,pl.isList.push _⟩,zT rv,fun h' tk kp=>?_⟩
  have hlen:its.toArray.size=bs.length:=by rw [N8,<- rv.length,NP]
  refine ⟨.bl _,H,I.kept (t':=tk) fun b o e=>kp b o ?_ (NW _ e),rfl,?_⟩
  ·intro hb
   have:b=s.heap.objs.size:=by simpa using hb
   exact Oh (N7 e) this
  ·rw [zS hlen]
   exact q
 ·obtain ⟨its,rv,pl,hz⟩:=I.tuple hq
  refine call_all_walk (Wc (show s.heap.IsTuple p its.toArray from pl) ?_)
  have hne:p≠s.heap.objs.size:=by
   obtain ⟨o,ho,_⟩:=pl
   exact Oh (N7 ho)
  refine ⟨s.heap.objs.size,_,_,_,_,_,fun i=>bs.getD i false,rfl,Walks.tuple hh _ p hne its.toArray,⟨⟨_,Of _ rfl,rfl,rfl⟩,VI pl _⟩,zT rv,fun h' tk kp=>?_⟩
  have hlen:its.toArray.size=bs.length:=by rw [N8,<- rv.length,NP]
  refine ⟨.bl _,H,I.kept (t':=tk) fun b o e=>kp b o ?_ (NW _ e),rfl,?_⟩
  ·intro hb
   have:b=s.heap.objs.size:=by simpa using hb
   exact Oh (N7 e) this
  ·rw [zS hlen]
   exact q
end
end L3
namespace L3
open PySem L2
open PyProof.Rows (IntsAre)
open PySem.W (KasT kas_asc kas_desc kas_tail3 kas_descPart kas_count kas_place kas_bin kas_sort kas_rev kas_ask)
noncomputable def aR {α:Type}(ans:Nat->Nat->Bool):WO α->α
 | .ret a=>a
 | .ask i j k=>aR ans (k (ans i j))
noncomputable def InR {α:Type}(n:Nat)(R:α->Prop):WO α->Prop
 | .ret a=>R a
 | .ask i j k=>i<n/\j<n/\∀ b,InR n R (k b)
theorem InR.bind {α β:Type}{n:Nat}{R:α->Prop}{R':β->Prop}{f:α->WO β}(hf:∀ a,R a->InR n R' (f a)):∀ {t:WO α},InR n R t->InR n R' (t.bind f)
 | .ret a,q=>hf a q
 | .ask i j k,q=>⟨q.1,q.2.1,fun b=>InR.bind hf (q.2.2 b)⟩
theorem sI {α:Type}{n:Nat}{R:α->Prop}{ans:Nat->Nat->Bool}{cmp:Nat->Nat->(Bool->NV->Prop)->NV->Prop}{s:NV}(hc:∀ i j (C:Bool->NV->Prop),i<n->j<n->C (ans i j) s->cmp i j C s){Q:α->NV->Prop} :
  ∀ {t:WO α},InR n R t->Q (aR ans t) s->t.kasWp cmp Q s
 | .ret a,_,q=>q
 | .ask i j k,h,q=>hc i j _ h.1 h.2.1 (sI hc (h.2.2 _) q)
theorem zU {α:Type}{n:Nat}{R:α->Prop}{ans:Nat->Nat->Bool}:∀ {t:WO α},InR n R t->R (aR ans t)
 | .ret a,q=>q
 | .ask i j k,h=>zU (t:=k (ans i j)) (h.2.2 _)
section
variable {n:Nat}
noncomputable def IxOk (n:Nat)(p:Array Nat):Prop:=p.Perm (ON n).toArray
theorem IxOk.lt {p:Array Nat}(h:IxOk n p)(h0:0<n)(i:Nat):p.getD i 0<n:=by
 by_cases hi:i<p.size
 ·have e:p.getD i 0=p[i]:=by simp [Qa,hi]
  rw [e]
  have hm:p[i]∈p:=U9 hi
  have hm2:p[i]∈(ON n).toArray:=h.mem_iff.mp hm
  simpa using hm2
 ·have e:p.getD i 0=0:=by simp [Qa,hi]
  rw [e];exact h0
theorem IxOk.rev {p:Array Nat}(h:IxOk n p)(i j:Nat):IxOk n (P5 p i j):=(W4 _ _ _ _).trans h
theorem IxOk.bub {p:Array Nat}(h:IxOk n p)(i j:Nat):IxOk n (Xa p i j):=(W9 _ _ _).trans h
theorem sJ {p:Array Nat}(h:IxOk n p)(h0:0<n):∀ (f m:Nat),InR n (fun _=>True) (P7 p f m)
 | 0,m=>trivial
 | f+1,m=>⟨h.lt h0 _,h.lt h0 _,fun b=>by
   cases b with
   | true=>exact trivial
   | false=>exact sJ h h0 f (m+1)⟩
theorem o9 (h0:0<n):∀ (f:Nat)(p:Array Nat)(m q:Nat),IxOk n p->InR n (fun r=>IxOk n r.1) (PQ f p m q)
 | 0,p,m,q,h=>h
 | f+1,p,m,q,h=>⟨h.lt h0 _,h.lt h0 _,fun b=>by
   cases b with
   | true=>
    show InR n _ (if q>0 then PQ f (P5 p (m - (q+1)) m) (m+1) 0 else PQ f p (m+1) 0)
    split
    ·exact o9 h0 f _ _ _ (h.rev _ _)
    ·exact o9 h0 f _ _ _ h
   | false=>
    refine ⟨h.lt h0 _,h.lt h0 _,fun d=>?_⟩
    cases d with
    | true=>exact h
    | false=>exact o9 h0 f _ _ _ h⟩
theorem zV (h0:0<n){p:Array Nat}(h:IxOk n p)(a r:Nat):InR n (fun r=>IxOk n r.2) (RL a r p):=
 by
 have h':IxOk n (P5 p 0 a):=h.rev 0 a
 unfold RL
 refine InR.bind (R:=fun _=>True) (fun m _=>?_) (sJ h' h0 _ _)
 exact h'
theorem zW (h0:0<n){p:Array Nat}(h:IxOk n p)(a r:Nat):InR n (fun r=>IxOk n r.2) (Qu a r p):=
 InR.bind (fun q hq=>by
  show InR n _ (if q.2.2>0 then RL q.2.1 r (P5 q.1 (q.2.1 - (q.2.2+1)) q.2.1) else RL q.2.1 r q.1)
  split
  ·exact zV h0 (hq.rev _ _) _ _
  ·exact zV h0 hq _ _) (o9 h0 _ _ _ _ h)
theorem Iz (h0:0<n){p:Array Nat}(h:IxOk n p)(r:Nat):InR n (fun r=>IxOk n r.2) (U2 r p):=
 InR.bind (fun m _=>by
  show InR n _ (if (m == r)=true then P9 (m,p) else if m>1 then Sf (p.getD 0 0) (p.getD (m - 1) 0) (fun c=>if c=true then P9 (m,p) else Qu m r (P5 p 0 m)) else Qu m r p)
  split
  ·exact h
  ·split
   ·refine ⟨h.lt h0 _,h.lt h0 _,fun b=>?_⟩
    cases b with
    | true=>exact h
    | false=>exact zW h0 (h.rev _ _) _ _
   ·exact zW h0 h _ _) (sJ h h0 _ _)
theorem sL {p:Array Nat}(h:IxOk n p)(h0:0<n)(k:Nat):∀ (f l r:Nat),InR n (fun _=>True) (Pd p k f l r)
 | 0,l,r=>trivial
 | f+1,l,r=>by
  show InR n _ (if l >= r then P9 l else Sf (p.getD k 0) (p.getD ((l+r) / 2) 0) fun c=>if c=true then Pd p k f l ((l+r) / 2) else Pd p k f ((l+r) / 2+1) r)
  split
  ·exact trivial
  ·refine ⟨h.lt h0 _,h.lt h0 _,fun b=>?_⟩
   cases b with
   | true=>exact sL h h0 k f _ _
   | false=>exact sL h h0 k f _ _
theorem zX (h0:0<n):∀ (f:Nat)(p:Array Nat)(k:Nat),IxOk n p->InR n (IxOk n) (Ts f p k)
 | 0,p,k,h=>h
 | f+1,p,k,h=>InR.bind (fun l _=>zX h0 f _ _ (h.bub _ _)) (sL h h0 k _ _ _)
theorem sM (h0:0<n):InR n (IxOk n) (Tr n):=
 InR.bind (fun r hr=>by
  show InR n _ (if r.1<n then Ts (n - max r.1 1) r.2 (max r.1 1) else P9 r.2)
  split
  ·exact zX h0 _ _ _ hr
  ·exact hr) (Iz h0 (Array.Perm.refl _) n)
end
noncomputable def cC (lt:Nat->Nat->Bool)(n:Nat):List Nat:=(aR lt (Tr n)).toList
theorem lU (lt:Nat->Nat->Bool){n:Nat}(h0:0<n):(cC lt n).Perm (ON n):=by
 have h:IxOk n (aR lt (Tr n)):=zU (sM h0)
 have:=Array.perm_iff_toList_perm.mp h
 simpa [cC] using this
section
variable {X:Cx}{XB:List (Addr×Pu)}{σ:St}{H:Hp}{s:NV}
theorem zY {P:Oo}{w:OO}{H:Hp}{h:O3}{a:Addr}{o:HO}(x:ObjOk P w H h a o):∃ ob,h.get? a=some ob:=by
 cases o with
 | lst xs=>obtain ⟨_,_,_,_,e⟩:=x;exact ⟨_,e⟩
 | tup xs=>obtain ⟨_,_,_,ob,e,_⟩:=x;exact ⟨_,e⟩
 | dK kvs=>obtain ⟨_,_,_,_,o,_,_,e,_⟩:=x;exact ⟨_,e⟩
 | dT kvs=>obtain ⟨_,_,_,_,o,_,_,e,_⟩:=x;exact ⟨_,e⟩
 | set S n=>obtain ⟨o,_,_,_,e,_⟩:=x;exact ⟨_,e⟩
 | ins C dx fs=>obtain ⟨_,_,_,e,_⟩:=x;exact ⟨_,e⟩
 | own y=>exact x
 | xd fs=>obtain ⟨_,⟨_,_,_,e,_⟩,_⟩:=x;exact ⟨_,e⟩
 | rng lo hi=>obtain ⟨_,_,_,e⟩:=x;exact ⟨_,e⟩
 | frz ob u=>exact ⟨_,x.1⟩
 | tbl ps=>exact ⟨_,x⟩
 | met f y=>exact ⟨_,x⟩
 | ext φ=>exact x.2.1
theorem IA {h':O3}{D:Addr}{o:HO}{t':Nat}{m:Str->Option NT}(I:Inv X XB σ H s)(hm:s.heap.Ns X.env.locals m)(keep:∀ b ob,b≠X.env.locals->s.heap.get? b=some ob->h'.get? b=some ob)(hL:h'.Ns X.env.locals m)
  (hD:s.heap.get? D=none)(new:ObjOk X.prog X.w (aI H D o) h' D o):Inv X XB σ (aI H D o) { s with heap:=h',toks:=t' }:=by
 have hn:H D=none:=by
  cases q:H D with
  | none=>rfl
  | some u=>
   obtain ⟨ob,e⟩:=zY (I.hok D u q)
   rw [hD] at e;cases e
 have neL:∀ b u,H b=some u->b≠X.env.locals:=fun b u e z=>by rw [z,I.free] at e;cases e
 refine I.step (g':=s.gens) (d':=s.drawn) (ch:=[]) (fun _ z=>nomatch z) (fun b ob hb _ _ e _=>keep b ob hb e) (fun b ob hb _ _ e _=>⟨ob.slots,keep b ob hb e⟩) (fun b ob _ e n=>?_) (fun b ob _ e=>?_)
  (fun b xs e=>by rw [bH (eX e hn)];exact e) (fun b ob u e=>by rw [bH (eX e hn)];exact e) (fun b ps e=>⟨#[],by rw [bH (eX e hn),e];simp⟩) (fun m' hm'=>?_) (fun b u e=>?_) I.bare
 ·have:b≠D:=fun z=>by rw [z,hD] at e;cases e
  rw [bH this];exact n
 ·by_cases hb:b=X.env.locals
  ·obtain ⟨ob',_,_,e',_⟩:=hL
   exact ⟨ob',by rw [hb];exact e'⟩
  ·exact ⟨ob,keep b ob hb e⟩
 ·rw [hm'.eq_nsMap,<- hm.eq_nsMap]
  exact hL
 ·by_cases hb:b=D
  ·subst hb
   rw [cY] at e
   cases e
   exact new
  ·rw [bH hb] at e
   refine (I.hok b u e).stay (fun c v hc q=>keep c v ?_ q) (fun c q=>by rw [bH (eX q hn)];exact q) fun c xs q=>by rw [bH (eX q hn)];exact q
   rcases hc with rfl|hc
   ·exact neL _ _ e
   ·exact neL _ _ hc
end
theorem sN {prog:Oo}{w:OO}{A:OG}{s:NV}{Q:Bool->NV->Prop}:∀ {us vs:List NT}{ns ms:List Int}(i:Nat),RK us ns->RK vs ms->Q (HT.lexLt ns ms) s->
  PySem.W.KatLex prog w A true (decide (us.length<vs.length)) Q (us.zip vs) i s
 | _,_,_,_,i,.nil,.nil,h=>by exact h
 | _,_,_,_,i,.nil,.cons c u hv,h=>by
  show Q (decide (0<_+1)) s
  rw [decide_eq_true (SU _)]
  exact h
 | _,_,_,_,i,.cons a t hu,.nil,h=>by
  show Q (decide (_+1<0)) s
  rw [decide_eq_false (RC _)]
  exact h
 | _,_,_,_,i,.cons (vs:=us) (ns:=ns) a t hu,.cons (vs:=vs) (ns:=ms) c u hv,h=>by
  rw [HT.lexLt_cons] at h
  refine PySem.W.kat_cons (SeqAt.EqAt.int_int a t c u prog w _ _ ?_)
  by_cases e:a=c
  ·subst e
   rw [if_pos rfl] at h
   rw [beq_self_eq_true]
   refine PySem.W.kat_yes ?_
   have:=sN (prog:=prog) (w:=w) (A:=A) (s:=s) (Q:=Q) (i+1) hu hv h
   have e2:decide ((Rh a t::us).length<(Rh a u::vs).length)=decide (us.length<vs.length):=by simp
   rw [e2]
   exact this
  ·rw [if_neg e] at h
   have e':(a == c)=false:=by simpa using e
   rw [e']
   refine PySem.W.kat_no ?_
   cases hi:(true&&i == 0) with
   | true=>exact W2 h
   | false=>exact PySem.W.kat_one _ _ (W5 h)
noncomputable abbrev TupsV (K:NO)(H:Hp):List V->List (List Int)->Prop:=RB fun v t=>∃ a,v=V.ref a/\SqT K H a (t.map V.int)
theorem TupsV.get {K:NO}{H:Hp}:∀ {vs:List V}{ts:List (List Int)}{i:Nat},TupsV K H vs ts->i<vs.length->∃ a,vs[i]? = some (V.ref a)/\SqT K H a ((ts.getD i []).map V.int)
 | _,_,_,.nil,h=>by simp at h
 | _,_,0,.cons ⟨a,e,q⟩ _,_=>⟨a,by rw [e];rfl,q⟩
 | _,_,i+1,.cons _ t,h=>by
  obtain ⟨a,e,q⟩:=TupsV.get (i:=i) t (by simpa using h)
  exact ⟨a,by simpa using e,q⟩
section
open PyProof.Rows
variable {prog:Oo}{w:OO}{A:OG}{E:NT->NV->Prop}{s:NV}
theorem zZ {c:Addr}{us:List NT}{z:Nat}{R:Fin->NV->Prop}(hu:us.length<2)(g:s.heap.get? c=some (Pn "list" us.toArray z)) (q:R (.done (.ret .none)) { s with heap:=Wf s.heap c us us.toArray }) :
  Oi (Ot prog w) A (Builtin.«list.sort» ⟨[.ref c],[]⟩) R E s:=by
 rw [WU]
 have lt:c<s.heap.objs.size:=N7 g
 refine NQ (listItems_at g rfl (NQ (S2 g rfl ?_)))
 obtain ⟨y,g1⟩:∃ y,(s.heap.update c (Pb fun _=>#[])).get? c=some (Pn "list" #[] y):=⟨_,WV g _⟩
 refine NQ (TZ g1 rfl (NQ (Xq (NQ (SY (O4 ?_))))))
 have g6:(((s.heap.update c (Pb fun _=>#[])).push (Pn "tuple" us.toArray 0)).push (Pn "list" #[] 0)).get? c=some (Pn "list" #[] y):=
  NW _ (NW _ g1)
 show Oi (Ot prog w) A _ R E ⟨((s.heap.update c (Pb fun _=>#[])).push (Pn "tuple" us.toArray 0)).push (Pn "list" #[] 0),s.gens,s.drawn,s.toks,s.os⟩
 dsimp only
 have few:us.toArray.size<2:=by simpa using hu
 rw [if_pos few,if_pos few]
 refine NQ (N1 ?_)
 rw [StateT.run_pure]
 refine NQ (N1 ?_)
 dsimp only
 have ez:Xo (fun x=>x.2) (arrOf (SortSt.mk' general' (us.toArray.zip us.toArray) #[] 7 none))=us.toArray:=by
  show Xo (fun x=>x.2) (us.toArray.zip us.toArray)=us.toArray
  exact Array.ext (by simp) (fun i h1 h2=>by simp)
 refine NQ (TZ g6 rfl (NQ (S2 g6 rfl ?_ (hsz2:=by rw [ez,Ox];omega))))
 rw [ez]
 simp only [bne_self_eq_false,Ob,if_false]
 exact N1 q
theorem IB {l:Addr}{u:NT}{Q:NT->NV->Prop}(hl:s.heap.IsList l [u].toArray)(q:Q (.ref (s.heap.objs.size+1)) { s with heap:=sortedAll s.heap [u] [u].toArray }):Oi (Ot prog w) A (call (.builtin "sorted") [.ref l]) Q E s:=by
 refine TN kind_sorted plain_sorted entry_sorted (args_sorted1 _) ?_
 unfold UD
 refine NQ (m:=checkCount "sorted" 1 1 _) (N1 (NQ (collect_list hl (NQ (SY ?_)))))
 have z:((s.heap.push (Pn "list" #[] 0)).update s.heap.objs.size (Pb (·++[u].toArray))).objs.size=s.heap.objs.size+1:=by rw [Heap.size_update,size_push']
 have g:(((s.heap.push (Pn "list" #[] 0)).update s.heap.objs.size (Pb (·++[u].toArray))).push (Pn "list" [u].toArray 0)).get? (s.heap.objs.size+1)=some (Pn "list" [u].toArray 0):=z ▸ Of _ rfl
 show Oi _ _ _ _ _ ⟨((s.heap.push (Pn "list" #[] 0)).update s.heap.objs.size (Pb (·++[u].toArray))).push (Pn "list" [u].toArray 0),s.gens,s.drawn,s.toks,s.os⟩
 rw [z]
 refine NQ (O4 (Ql Uo ⟨_,g,rfl⟩ T9 (zZ (us:=[u]) (by simp) g ⟨_,rfl,?_⟩) (Ut _)))
 exact N1 ⟨_,rfl,q⟩
end
theorem z4 (lt:Nat->Nat->Bool):cC lt 1=[0]:=rfl
theorem z5 (lt:Nat->Nat->Bool):cC lt 0=[]:=rfl
theorem j9 (lt:Nat->Nat->Bool)(n:Nat):(cC lt n).Perm (ON n):=by
 cases n with
 | zero=>rw [z5];exact .nil
 | succ n=>exact lU lt (SU n)
section
variable {X:Cx}
theorem IC {XB:List (Addr×Pu)}{s:NV}{σ:St}{H:Hp}{q:Addr}{v:V}{Q:VK}(I:Inv X XB σ H s)(hq:SqL X.K H q [v])(k:∀ l,H l=none->Q (.ref l) (aI H l (.lst [v]))) :
  Oi (Ot X.prog X.w) X.A (call (.builtin "sorted") [.ref q]) (EP X XB σ Q) X.xe s:=by
 obtain ⟨its,rv,pl,hz⟩:=I.list hq
 cases rv with
 | cons ru rt=>
  cases rt
  rename_i u
  refine IB (u:=u) pl.isList ?_
  obtain ⟨e,he⟩:=SE s.heap [u] [u].toArray
  refine ⟨.ref (s.heap.objs.size+1),_,I.laid (t':=s.toks) (a:=s.heap.objs.size+1) (o:=.lst [v]) (fun b ob z=>Sx z) (RM _) ?_,rfl,k _ (I.hok.fresh (RM _))⟩
  exact ⟨by rw [Ox];show 1<=_;decide,[u],e,.cons ru .nil,he⟩
end
noncomputable def sO (K:NO):List V->Hp->VK->Prop:=fun xs H Q=>∃ q ws ts,xs=[.ref q]/\SqL K H q ws/\TupsV K H ws ts/\1<=ws.length/\ws.length<64/\(∀ t∈ts,t≠[]) /\
 ∀ l,H l=none->Q (.ref l) (aI H l (.lst ((cC (fun i j=>HT.lexLt (ts.getD i []) (ts.getD j [])) ws.length).map fun i=>ws.getD i .non)))
theorem ID {ns:List Int}{us:List NT}(h:Vals (ns.map V.int) us):RK us ns:=qU h
section
variable {X:Cx}
theorem IE:CallR X (.builtin "sorted") (sO X.K):=by
 intro XB s σ H xs us Q I r h
 obtain ⟨q,ws,ts,rfl,hq,ht,h1,h64,hne,k⟩:=h
 obtain ⟨u,rfl,ru⟩:=e6 r
 cases ru
 by_cases h2:ws.length<2
 ·obtain ⟨v,rfl⟩:=List.length_eq_one_iff.mp (by omega:ws.length=1)
  refine IC I hq fun l hl=>?_
  have z:=k l hl
  rw [Ph,z4] at z
  exact z
 replace h2:2<=ws.length:=VY h2
 obtain ⟨its,rv,pl,hz⟩:=I.list hq
 obtain ⟨m,F⟩:=I.fr
 have hlen:=rv.length
 refine PySem.W.kat_sorted F (C3 (g:=X.base) (h:=s.heap) (L:=X.env.locals)) pl.isList (by omega) (by omega) fun D e1 h' F' N' hD=>?_
 have keep:∀ b ob,b≠X.env.locals->s.heap.get? b=some ob->h'.get? b=some ob:=fun b ob hb e=>by
  cases z:X.base.get? b with
  | some ob'=>
   have:=I.bk b ob' z
   rw [e] at this;cases this
   exact F'.keep b _ z
  | none=>exact (N' (b,ob) (Oc _ (qL hb z e))).1
 have hDn:=N' (D,_) (Om ..)
 have hDs:s.heap.get? D=none:=by
  cases z:s.heap.get? D with
  | none=>rfl
  | some ob=>exact absurd (hD (D,ob) (qL hDn.2.1 hDn.2.2 z)) (Qb _)
 have neL:∀ {a:Addr}{vs:List V},SqT X.K H a vs->a≠X.env.locals:=fun {a vs} hs z=>by
  subst z
  rcases hs with (hs|⟨ob,hs⟩)|⟨ob,_,_,hk,_⟩
  ·rw [I.free] at hs;cases hs
  ·rw [I.free] at hs;cases hs
  ·have h1:X.env.locals<X.base.objs.size:=N7 (I.mod.kin _ _ hk)
   exact Qb _ (OD h1 F.above)
  -- the tuples stand there still
 have tupAt:∀ {a:Addr}{t:List Int},SqT X.K H a (t.map V.int)->∃ (ob:Pu)(xs:List NT)(n:Nat),h'.get? a=some ob/\ob.cls=.type "tuple"/\ob.data=.seq xs.toArray n/\RK xs t:=fun {a t} hs=>by
  obtain ⟨xs,rx,⟨ob,e,c,n,d⟩,_⟩:=I.tuple hs
  exact ⟨ob,xs,n,keep a ob (neL hs) e,c,d,ID rx⟩
 have tups:∀ {ws:List V}{its:List NT}{ts:List (List Int)},Vals ws its->TupsV X.K H ws ts->(∀ t∈ts,t≠[])->∃ fs:List NT,fs.length=its.length/\PySem.W.KatTups h' its fs/\∀ v∈fs,∃ i t,v=Rh i t:=by
  intro ws its ts rv ht
  induction ht generalizing its with
  | nil=>intro _;cases rv;exact ⟨[],rfl,.nil,fun v hv=>nomatch hv⟩
  | @cons v t ws ts hv _ ih=>
   intro hne
   cases rv with
   | cons r1 r2=>
    obtain ⟨a,rfl,hs⟩:=hv
    cases r1
    obtain ⟨fs,h1,h3,h4⟩:=ih r2 fun t ht=>hne t (Oc _ ht)
    obtain ⟨ob,xs,n,e,c,d,hi⟩:=tupAt hs
    cases hi with
    | nil=>exact absurd rfl (hne [] (Om ..))
    | @cons i tk xs' ns' hi'=>
     refine ⟨Rh i tk::fs,by simp [h1],.cons e c d (by simp) h3,fun v hv=>?_⟩
     rcases Ov.mp hv with rfl|hv
     ·exact ⟨i,tk,rfl⟩
     ·exact h4 v hv
 obtain ⟨fs,hf1,hf2,hf3⟩:=tups rv ht hne
 refine PySem.W.kat_kind (T:=.type "int") hf2 (by omega) (fun v hv=>?_) rfl ?_
 ·obtain ⟨i,t,rfl⟩:=hf3 v hv
  exact .now
 have htl:ts.length=ws.length:=ht.length.symm
 refine sI (n:=its.length) (ans:=fun i j=>HT.lexLt (ts.getD i []) (ts.getD j [])) (fun i j C hi hj hC=>?_) (sM (by omega)) ?_
 ·obtain ⟨a,ea,sa⟩:=ht.get (i:=i) (by omega)
  obtain ⟨b,eb,sb⟩:=ht.get (i:=j) (by omega)
  obtain ⟨ua,ha1,ha2⟩:=rv.get ea
  obtain ⟨ub,hb1,hb2⟩:=rv.get eb
  cases ha2
  cases hb2
  have ga:its.getD i O9=.ref a:=by simp [Pj,ha1]
  have gb:its.getD j O9=.ref b:=by simp [Pj,hb1]
  unfold kas_ask
  rw [ga,gb]
  obtain ⟨oa,xa,na,e1,_,d1,i1⟩:=tupAt sa
  obtain ⟨ob,xb,nb,e2,_,d2,i2⟩:=tupAt sb
  refine PySem.W.kat_lt e1 d1 e2 d2 ?_
  have:=sN (prog:=X.prog) (w:=X.w) (A:=X.A.in1.in1) (s:={ s with heap:=h' }) (Q:=C) 0 i1 i2 hC
  exact this
 ·refine Wx F' N' (.head fun p hp=>Oh (hD p hp)) fun h'' c F'' N''=>?_
  have keep2:∀ b ob,b≠X.env.locals->s.heap.get? b=some ob->h''.get? b=some ob:=fun b ob hb e=>by
   cases z:X.base.get? b with
   | some ob'=>
    have:=I.bk b ob' z
    rw [e] at this;cases this
    exact F''.keep b _ z
   | none=>exact (N'' (b,ob) (Oc _ (qL hb z e))).1
  have hnew:=(N'' (D,_) (Om ..)).1
  rw [<- hlen] at hnew
  have hperm:=lU (fun i j=>HT.lexLt (ts.getD i []) (ts.getD j [])) (n:=ws.length) (by omega)
  have hvals:Vals ((cC (fun i j=>HT.lexLt (ts.getD i []) (ts.getD j [])) ws.length).map fun i=>ws.getD i .non) ((cC (fun i j=>HT.lexLt (ts.getD i []) (ts.getD j [])) ws.length).map fun i=>its.getD i O9):=by
   have each:∀ l:List Nat,(∀ i∈l,i<ws.length)->Vals (l.map fun i=>ws.getD i .non) (l.map fun i=>its.getD i O9):=fun l=>by
    induction l with
    | nil=>intro _;exact .nil
    | cons i l ih=>
     intro hl
     refine .cons ?_ (ih fun j hj=>hl j (Oc _ hj))
     have hi:=hl i (Om ..)
     obtain ⟨u,g1,g2⟩:=rv.get (N9 hi)
     have e1:ws.getD i .non=ws[i]:=by simp [Pj,hi]
     have e2:its.getD i O9=u:=by simp [Pj,g1]
     show RelV (ws.getD i .non) (its.getD i O9)
     rw [e1,e2]
     exact g2
   exact each _ fun i hi=>by simpa using hperm.mem_iff.mp hi
  refine ⟨.ref D,_,IA (s:=s) (o:=.lst _) (t':=s.toks) I F.ns keep2 F''.ns hDs ⟨?_,_,_,hvals,hnew⟩,rfl,k D ?_⟩
  ·rw [NP,hperm.length_eq,VB]
   exact hz
  ·cases z:H D with
   | none=>rfl
   | some u=>
    obtain ⟨ob,e⟩:=zY (I.hok D u z)
    rw [hDs] at e;cases e
end
end L3
namespace L3
open PySem PySem.Spec
namespace Tb
section
variable {prog:Oo}{w:OO}{A:OG}{E:NT->NV->Prop}{s:NV}
noncomputable abbrev IsT (prog:Oo)(w:OO)(h:O3)(k:List Int)(b:Addr):Prop:=IsTupleKey (P8 prog w) h k b
end
section
variable {prog:Oo}{w:OO}{A:OG}{R:Vl->NV->Prop}{I:Addr}{fp wr:List Addr}{G:Array V4->Array V4->Prop}{n:Nat}{P:Nat->NT->Prop}{St:Nat->NV->Prop}
end
section
variable {prog:Oo}{w:OO}{A:OG}{E:NT->NV->Prop}{s:NV}
noncomputable abbrev eA (led:Bool):Pu:={ cls:=.type "set",dict:=none,data:=.set #[] 0 (.fresh 0 0 led) }
end
end Tb
end L3
namespace L3
open PySem L2
open PyProof.Rows (IntsAre)
noncomputable def m3:List D->Option (List (List Int))
 | []=>some []
 | x::r=>(cK x).bind fun k=>(m3 r).map (k::·)
theorem sP:∀ {ds:List D}{k:List Int},j0 ds=some k->ds=k.map D.int
 | [],k,h=>by cases h;rfl
 | d::ds,k,h=>by
  cases d with
  | int i=>
   obtain ⟨k',h1,h2⟩:=NU.mp h
   subst h2
   rw [sP h1];rfl
  | _=>cases h
theorem z6 {x:D}{k:List Int}(h:cK x=some k):x=.tup (k.map D.int):=by
 cases x with
 | tup ds=>rw [sP h]
 | _=>cases h
theorem z7:∀ {xs:List D}{ks:List (List Int)},m3 xs=some ks->xs=ks.map fun k=>D.tup (k.map D.int)
 | [],ks,h=>by cases h;rfl
 | x::xs,ks,h=>by
  obtain ⟨k,h1,h⟩:=NN.mp h
  obtain ⟨ks',h2,h3⟩:=NU.mp h
  subst h3
  rw [z6 h1,z7 h2];rfl
noncomputable def iC (μ:Hm):D->Option (List D)
 | .rol xs=>some xs
 | .loc a=>match μ[a]? with
  | some (.lst xs)=>some xs
  | _=>none
 | _=>none
section
variable {K:NO}{π:Nat->Addr}{n:Nat}{H:Hp}{μ:Hm}
theorem sQ {v:V}{x:D}{xs:List D}(R:Rp K π H μ)(h:IsD K π μ.length H v x)(e:iC μ x=some xs):∃ p vs,v=.ref p/\SqL K H p vs/\IsDs K π μ.length H vs xs:=by
 cases h with
 | rol q t=>cases e;exact ⟨_,_,rfl,q.sq,t⟩
 | @loc a ha=>
  simp only [iC] at e
  split at e
  ·rename_i ys hy
   cases e
   obtain ⟨vs,h3,h4⟩:=R.lst a xs hy
   exact ⟨_,vs,rfl,.of h3,h4⟩
  ·cases e
 | _=>cases e
theorem ints_of':∀ {vs:List V}{k:List Int},IsDs K π n H vs (k.map D.int)->vs=k.map V.int
 | _,[],h=>by cases h;rfl
 | _,i::k,h=>by
  cases h with
  | cons h t=>cases h;rw [ints_of' t];rfl
theorem sR:∀ (k:List Int),IsDs K π n H (k.map V.int) (k.map D.int)
 | []=>.nil
 | i::k=>.cons (.int i) (sR k)
end
theorem z8 {X:Cx}:∀ {k:List Int}{xs:List NT},Vals (k.map V.int) xs->ItemsAre (P8 X.prog X.w) k xs
 | [],_,h=>by cases h;exact .nil
 | i::k,_,h=>by
  cases h with
  | cons h t=>
   obtain ⟨tk,rfl⟩:=h
   exact .cons (intKind_is _ _ _ _) (z8 t)
section
variable {X:Cx}{XB:List (Addr×Pu)}{σ:St}{H:Hp}{s:NV}
theorem iU (I:Inv X XB σ H s){b:Addr}{k:List Int}(h:SqT X.K H b (k.map V.int)):Tb.IsT X.prog X.w s.heap k b:=by
 obtain ⟨xs,rx,⟨ob,e,c,n,d⟩,_⟩:=I.tuple h
 exact ⟨ob,xs.toArray,n,e,c,d,by simpa using z8 rx⟩
theorem call_lenT:CallR X (.builtin "len") (fun xs H Q=>∃ a L,xs=[V.ref a]/\H a=some (oI a L)/\Q (.int L.length) H):=by
 intro XB s σ H xs us Q I r h
 obtain ⟨a,L,rfl,ha,q⟩:=h
 obtain ⟨u,rfl,ru⟩:=e6 r
 cases ru
 obtain ⟨⟨o,ho,led,es,ep,t,R,hex,hd,he,ok,hp,hnd,hm,hf5,hpl,hle⟩,_,_⟩:=I.hok a _ ha
 have hsz:es.size=L.length:=by
  have:=hp.length_eq
  simpa using this
 have hm5:t.mask<=511:=by rcases hm with h|h|h|h<;>omega
 refine call_len_set ho hex hd (Tb.fits_of ok he) (by rw [hsz];omega) ?_
 rw [hsz]
 exact ⟨.int L.length,H,I.tok _,⟨_,rfl⟩,q⟩
end
end L3
namespace L3
open PySem L2
noncomputable def sS (ks:List (List Int)):Nat->Nat->Bool:=fun i j=>HT.lexLt (ks.getD i []) (ks.getD j [])
noncomputable def m4:MF:=fun ds μ=>match ds with
 | [x]=>(iC μ x).bind fun xs=>(m3 xs).bind fun ks=>if 1<=ks.length/\ks.length<64/\∀ t∈ks,t≠[] then some (.loc μ.length,μ++[.lst ((cC (sS ks) ks.length).map fun i=>xs.getD i .non)]) else none
 | _=>none
theorem z9 {K:NO}{π:Nat->Addr}{n:Nat}{H:Hp}:∀ {vs:List V}{ks:List (List Int)},IsDs K π n H vs (ks.map fun k=>D.tup (k.map D.int))->TupsV K H vs ks
 | _,[],h=>by cases h;exact .nil
 | _,k::ks,h=>by
  cases h with
  | cons h t=>
   cases h with
   | @tup p vs ds hq hd=>
    have:=ints_of' hd
    subst this
    exact .cons ⟨p,rfl,hq⟩ (z9 t)
theorem Aa {K:NO}{π:Nat->Addr}{n:Nat}{H:Hp}:∀ {vs:List V}{xs:List D}(i:Nat),IsDs K π n H vs xs->IsD K π n H (vs.getD i .non) (xs.getD i .non)
 | _,_,i,.nil=>by simp;exact .non
 | _,_,0,.cons h _=>h
 | _,_,i+1,.cons _ t=>by simpa using Aa i t
theorem Ab {K:NO}{π:Nat->Addr}{n:Nat}{H:Hp}{vs:List V}{xs:List D}(h:IsDs K π n H vs xs):∀ (l:List Nat),IsDs K π n H (l.map fun i=>vs.getD i .non) (l.map fun i=>xs.getD i .non)
 | []=>.nil
 | i::l=>.cons (Aa i h) (Ab h l)
theorem IH {K:NO}:cZ K m4 (sO K):=by
 intro π H μ xs d μ' vs Q R i hm k
 unfold m4 at hm
 split at hm
 ·obtain ⟨ys,h1,hm⟩:=NN.mp hm
  obtain ⟨ks,h2,hm⟩:=NN.mp hm
  split at hm
  ·rename_i hb
   cases hm
   cases i with
   | cons i t=>
    cases t
    obtain ⟨p,ws,rfl,q,hd⟩:=sQ R i h1
    have hd':=hd
    rw [z7 h2] at hd'
    have hl:ws.length=ks.length:=by
     have:=hd'.length
     rw [NP] at this
     exact this
    refine ⟨p,ws,ks,rfl,q,z9 hd',by omega,by omega,hb.2.2,fun l hl'=>?_⟩
    obtain ⟨e2,R2,_⟩:=R.alloc (c:=.lst ((cC (sS ks) ks.length).map fun i=>ys.getD i .non)) (o:=.lst ((cC (fun i j=>HT.lexLt (ks.getD i []) (ks.getD j [])) ws.length).map fun i=>ws.getD i .non)) hl' (by
     show IsDs _ _ _ _ _ _
     rw [hl]
     exact Ab hd _)
    exact k _ _ _ e2 R2 fA
  ·cases hm
 ·cases hm
end L3
namespace L3
open PySem L2
open PyProof.Rows (IntsAre Fr News seqObj)
section
variable {prog:Oo}{w:OO}{A:OG}{E:NT->NV->Prop}{s:NV}{h₀:O3}{L:Addr}{m:Str->Option NT}{news:List (Addr×Pu)}
end
theorem kB:∀ a:List Int,HT.lexLt a a=false
 | []=>rfl
 | x::a=>by rw [HT.lexLt_cons,if_pos rfl];exact kB a
theorem kC:∀ {a b c:List Int},HT.lexLt a b=true->HT.lexLt b c=true->HT.lexLt a c=true
 | _,[],[],_,h=>absurd h (by intro z;cases z)
 | _,_::_,[],_,h=>absurd h (by intro z;cases z)
 | [],_,_::_,_,_=>rfl
 | _::_,[],_::_,h,_=>absurd h (by intro z;cases z)
 | x::a,y::b,z::c,h1,h2=>by
  rw [HT.lexLt_cons] at h1 h2 ⊢
  by_cases e1:x=y
  ·subst e1
   rw [if_pos rfl] at h1
   by_cases e2:x=z
   ·subst e2
    rw [if_pos rfl] at h2 ⊢
    exact kC h1 h2
   ·rw [if_neg e2] at h2 ⊢
    exact h2
  ·rw [if_neg e1] at h1
   by_cases e2:y=z
   ·subst e2
    rw [if_neg e1];exact h1
   ·rw [if_neg e2] at h2
    rw [decide_eq_true_eq] at h1 h2
    rw [if_neg (by omega),decide_eq_true_eq];omega
section
variable {X:Cx}{XB:List (Addr×Pu)}{σ:St}{H:Hp}{s:NV}
end
end L3
namespace L3
open PySem
open PySem.W (KasT kas_asc kas_desc kas_tail3 kas_descPart kas_count kas_place kas_bin kas_sort kas_rev)
open PyProof.Rows (mirror bubble getElem?_bubble getElem?_mirror_all mirror_size bubble_size)
theorem lV {α β:Type}{ans:Nat->Nat->Bool}{f:α->WO β}:∀ t:WO α,aR ans (t.bind f)=aR ans (f (aR ans t))
 | .ret a=>rfl
 | .ask i j k=>by
  show aR ans ((k (ans i j)).bind f)=_
  rw [lV]
  rfl
section
variable {ans:Nat->Nat->Bool}{κ:Nat->Nat}(hk:∀ i j,ans i j=decide (κ i<κ j))
noncomputable def gK (κ:Nat->Nat)(p:Array Nat)(k:Nat):Nat:=κ (p.getD k 0)
theorem m7 {p q:Array Nat}{k m:Nat}(h:p[k]? = q[m]?):p.getD k 0=q.getD m 0:=by
 have e:∀ (a:Array Nat)(i:Nat),a.getD i 0=(a[i]?).getD 0:=fun a i=>by
  by_cases hi:i<a.size
  ·simp [Qa,hi]
  ·simp [Qa,hi]
 rw [e,e,h]
theorem kD {p:Array Nat}{i j:Nat}(hj:j<=p.size)(k:Nat):gK κ (P5 p i j) k=if i<=k/\k<j then gK κ p (i+j - 1 - k) else gK κ p k:=by
 have h:=getElem?_mirror_all (i:=i) hj k
 by_cases c:i<=k/\k<j
 ·rw [if_pos c] at h ⊢
  exact congrArg κ (m7 h)
 ·rw [if_neg c] at h ⊢
  exact congrArg κ (m7 h)
theorem Ac {p:Array Nat}{s d:Nat}(hs:s<p.size)(hd:d<=s)(k:Nat):gK κ (bubble p s d) k=if k=s - d then gK κ p s else if s - d<k/\k<=s then gK κ p (k - 1) else gK κ p k:=by
 have h:=getElem?_bubble hs d hd k
 by_cases c:k=s - d
 ·rw [if_pos c] at h ⊢
  exact congrArg κ (m7 h)
 ·rw [if_neg c] at h ⊢
  by_cases c2:s - d<k/\k<=s
  ·rw [if_pos c2] at h ⊢
   exact congrArg κ (m7 h)
  ·rw [if_neg c2] at h ⊢
   exact congrArg κ (m7 h)
theorem m8 (p:Array Nat)(i j:Nat):(P5 p i j).size=p.size:=mirror_size _ _ _ _
noncomputable def gE (κ:Nat->Nat)(p:Array Nat)(m:Nat):Prop:=∀ i j,i<=j->j<m->gK κ p i<=gK κ p j
include hk in
theorem sT (p:Array Nat):∀ (f m:Nat),m<=aR ans (P7 p f m)/\aR ans (P7 p f m)<=m+f/\(∀ j,m<=j->j<aR ans (P7 p f m)->gK κ p (j - 1)<=gK κ p j) /\
  (aR ans (P7 p f m)<m+f->gK κ p (aR ans (P7 p f m))<gK κ p (aR ans (P7 p f m) - 1))
 | 0,m=>⟨N3 _,N3 _,fun j h1 h2=>absurd (show j<m from h2) (by omega),fun h=>absurd (show m<m+0 from h) (by omega)⟩
 | f+1,m=>by
  have e:aR ans (P7 p (f+1) m)=if ans (p.getD m 0) (p.getD (m - 1) 0)=true then m else aR ans (P7 p f (m+1)):=by
   show aR ans (if ans (p.getD m 0) (p.getD (m - 1) 0)=true then P9 m else P7 p f (m+1))=_
   split<;>rfl
  rw [e,hk]
  by_cases h:κ (p.getD m 0)<κ (p.getD (m - 1) 0)
  ·rw [if_pos (by simpa using h)]
   exact ⟨N3 _,by omega,fun j h1 h2=>absurd h2 (by omega),fun _=>h⟩
  ·rw [if_neg (by simpa using h)]
   obtain ⟨i1,i2,i3,i4⟩:=sT p f (m+1)
   refine ⟨by omega,by omega,fun j h1 h2=>?_,fun h2=>i4 (by omega)⟩
   by_cases hj:j=m
   ·subst hj;exact Q4.mp h
   ·exact i3 j (by omega) h2
theorem Ad {p:Array Nat}{m:Nat}(h:∀ j,1<=j->j<m->gK κ p (j - 1)<=gK κ p j):gE κ p m:=by
 intro i j hij hj
 induction j with
 | zero=>
  have:i=0:=by omega
  subst this;exact N3 _
 | succ j ih=>
  by_cases e:i=j+1
  ·subst e;exact N3 _
  ·exact OU (ih (by omega) (by omega)) (h (j+1) (by omega) hj)
structure Falls (κ:Nat->Nat)(p:Array Nat)(n q:Nat):Prop where
 fall:∀ i j,i<=j->j<n->gK κ p j<=gK κ p i
 alike:∀ k,n - 1 - q<=k->k<n->gK κ p k=gK κ p (n - 1)
 qn:q<n
theorem Falls.rev {p:Array Nat}{n q:Nat}(F:Falls κ p n q)(hn:n<=p.size):∀ k,gK κ (P5 p (n - (q+1)) n) k=gK κ p k:=fun k=>by
 rw [kD hn]
 split
 ·rename_i c
  have:=F.qn
  rw [F.alike (n - (q+1)+n - 1 - k) (by omega) (by omega),F.alike k (by omega) c.2]
 ·rfl
theorem Falls.same {p p':Array Nat}{n q:Nat}(F:Falls κ p n q)(h:∀ k,gK κ p' k=gK κ p k):Falls κ p' n q:=
 ⟨fun i j h1 h2=>by rw [h,h];exact F.fall i j h1 h2,fun k h1 h2=>by rw [h,h];exact F.alike k h1 h2,F.qn⟩
include hk in
theorem pB:∀ (f:Nat)(p:Array Nat)(n q:Nat),1<=n->n+f<=p.size->Falls κ p n q->
  ∃ p' n' q',aR ans (PQ f p n q)=(p',n',q')/\p'.size=p.size/\n<=n'/\n'<=n+f/\Falls κ p' n' q'
 | 0,p,n,q,_,_,F=>⟨p,n,q,rfl,rfl,N3 _,N3 _,F⟩
 | f+1,p,n,q,h1,hs,F=>by
  have hqn:=F.qn
  by_cases h:κ (p.getD n 0)<κ (p.getD (n - 1) 0)
  ·have h':gK κ p n<gK κ p (n - 1):=h
   have grow:∀ p':Array Nat,(∀ k,gK κ p' k=gK κ p k)->Falls κ p' (n+1) 0:=fun p' hp=>⟨fun i j hi hj=>by
     rw [hp,hp]
     by_cases e:j=n
     ·subst j
      by_cases e2:i=n
      ·subst i;exact N3 _
      ·have:=F.fall i (n - 1) (by omega) (by omega)
       omega
     ·exact F.fall i j hi (by omega),fun k hk1 hk2=>by
     have:k=n:=by omega
     subst this
     simp,by omega⟩
   by_cases hq:q>0
   ·have e:aR ans (PQ (f+1) p n q)=aR ans (PQ f (P5 p (n - (q+1)) n) (n+1) 0):=by
     show aR ans (if ans (p.getD n 0) (p.getD (n - 1) 0)=true then (if q>0 then PQ f (P5 p (n - (q+1)) n) (n+1) 0 else PQ f p (n+1) 0) else _)=_
     rw [hk,if_pos (by simpa using h),if_pos hq]
    obtain ⟨p',n',q',r1,r2,r3,r4,r5⟩:=pB f (P5 p (n - (q+1)) n) (n+1) 0 (by omega) (by rw [m8];omega) (grow _ (F.rev (by omega)))
    exact ⟨p',n',q',e.trans r1,r2.trans (m8 _ _ _),by omega,by omega,r5⟩
   ·have e:aR ans (PQ (f+1) p n q)=aR ans (PQ f p (n+1) 0):=by
     show aR ans (if ans (p.getD n 0) (p.getD (n - 1) 0)=true then (if q>0 then PQ f (P5 p (n - (q+1)) n) (n+1) 0 else PQ f p (n+1) 0) else _)=_
     rw [hk,if_pos (by simpa using h),if_neg hq]
    obtain ⟨p',n',q',r1,r2,r3,r4,r5⟩:=pB f p (n+1) 0 (by omega) (by omega) (grow p fun _=>rfl)
    exact ⟨p',n',q',e.trans r1,r2,by omega,by omega,r5⟩
  ·by_cases h2:κ (p.getD (n - 1) 0)<κ (p.getD n 0)
   ·have e:aR ans (PQ (f+1) p n q)=(p,n,q):=by
     show aR ans (if ans (p.getD n 0) (p.getD (n - 1) 0)=true then _ else Sf (p.getD (n - 1) 0) (p.getD n 0) fun d=>if d=true then P9 (p,n,q) else PQ f p (n+1) (q+1))=_
     rw [hk,if_neg (by simpa using h)]
     show aR ans (if ans (p.getD (n - 1) 0) (p.getD n 0)=true then P9 (p,n,q) else PQ f p (n+1) (q+1))=_
     rw [hk,if_pos (by simpa using h2)]
     rfl
    exact ⟨p,n,q,e,rfl,N3 _,by omega,F⟩
   ·have e:aR ans (PQ (f+1) p n q)=aR ans (PQ f p (n+1) (q+1)):=by
     show aR ans (if ans (p.getD n 0) (p.getD (n - 1) 0)=true then _ else Sf (p.getD (n - 1) 0) (p.getD n 0) fun d=>if d=true then P9 (p,n,q) else PQ f p (n+1) (q+1))=_
     rw [hk,if_neg (by simpa using h)]
     show aR ans (if ans (p.getD (n - 1) 0) (p.getD n 0)=true then P9 (p,n,q) else PQ f p (n+1) (q+1))=_
     rw [hk,if_neg (by simpa using h2)]
    have heq:gK κ p n=gK κ p (n - 1):=by
     have a1:¬ gK κ p n<gK κ p (n - 1):=h
     have a2:¬ gK κ p (n - 1)<gK κ p n:=h2
     omega
    have G:Falls κ p (n+1) (q+1):=⟨fun i j hi hj=>by
      by_cases e:j=n
      ·subst j
       by_cases e2:i=n
       ·subst i;exact N3 _
       ·rw [heq];exact F.fall i (n - 1) (by omega) (by omega)
      ·exact F.fall i j hi (by omega),fun k hk1 hk2=>by
      have e3:n+1 - 1=n:=by omega
      rw [e3]
      by_cases e:k=n
      ·rw [e]
      ·rw [heq];exact F.alike k (by omega) (by omega),by omega⟩
    obtain ⟨p',n',q',r1,r2,r3,r4,r5⟩:=pB f p (n+1) (q+1) (by omega) (by omega) G
    exact ⟨p',n',q',e.trans r1,r2,by omega,by omega,r5⟩
include hk in
theorem Ae {p:Array Nat}{n N q:Nat}(h1:1<=n)(hn:n<=N)(hs:p.size=N)(F:Falls κ p n q) :
  ∃ m p',aR ans (RL n N p)=(m,p')/\p'.size=N/\1<=m/\m<=N/\gE κ p' m:=by
 have up:∀ j,1<=j->j<n->gK κ (P5 p 0 n) (j - 1)<=gK κ (P5 p 0 n) j:=fun j a b=>by
  rw [kD (by omega),kD (by omega),if_pos ⟨by omega,by omega⟩,if_pos ⟨by omega,by omega⟩]
  exact F.fall _ _ (by omega) (by omega)
 obtain ⟨a1,a2,a3,_⟩:=sT hk (P5 p 0 n) (N - n) n
 refine ⟨aR ans (P7 (P5 p 0 n) (N - n) n),P5 p 0 n,?_,by rw [m8,hs],?_,?_,Ad fun j h1 h2=>?_⟩
 ·unfold RL
  rw [lV]
  rfl
 ·omega
 ·omega
 ·by_cases h:j<n
  ·exact up j h1 h
  ·exact a3 j (by omega) h2
include hk in
theorem Af {p:Array Nat}{n N:Nat}(h1:1<=n)(hn:n<N)(hs:p.size=N)(hall:∀ i j,i<=j->j<n->gK κ p j<=gK κ p i)(hlt:gK κ p n<gK κ p (n - 1)) :
  ∃ m p',aR ans (Qu n N p)=(m,p')/\p'.size=N/\1<=m/\m<=N/\gE κ p' m:=by
 have F:Falls κ p (n+1) 0:=⟨fun i j hi hj=>by
   by_cases e:j=n
   ·subst j
    by_cases e2:i=n
    ·subst i;exact N3 _
    ·have:=hall i (n - 1) (by omega) (by omega)
     omega
   ·exact hall i j hi (by omega),fun k a b=>by
   have:k=n:=by omega
   subst this
   simp,by omega⟩
 obtain ⟨p',n',q',r1,r2,r3,r4,r5⟩:=pB hk (N - (n+1)) p (n+1) 0 (by omega) (by omega) F
 have e:aR ans (Qu n N p)=aR ans (if q'>0 then RL n' N (P5 p' (n' - (q'+1)) n') else RL n' N p'):=by
  unfold Qu
  rw [lV,r1]
 rw [e]
 split
 ·exact Ae hk (by omega) (by omega) (by rw [m8,r2,hs]) (r5.same (r5.rev (by omega)))
 ·exact Ae hk (by omega) (by omega) (r2.trans hs) r5
include hk in
theorem II {p:Array Nat}{N:Nat}(h1:1<=N)(hs:p.size=N):∃ m p',aR ans (U2 N p)=(m,p')/\p'.size=N/\1<=m/\m<=N/\gE κ p' m:=by
 obtain ⟨a1,a2,a3,a4⟩:=sT hk p (N - 1) 1
 have e:aR ans (U2 N p)=aR ans (if (aR ans (P7 p (N - 1) 1) == N)=true then P9 (aR ans (P7 p (N - 1) 1),p) else if aR ans (P7 p (N - 1) 1)>1 then Sf (p.getD 0 0) (p.getD (aR ans (P7 p (N - 1) 1) - 1) 0) (fun c=>if c=true then P9 (aR ans (P7 p (N - 1) 1),p) else Qu (aR ans (P7 p (N - 1) 1)) N (P5 p 0 (aR ans (P7 p (N - 1) 1)))) else Qu (aR ans (P7 p (N - 1) 1)) N p):=by
  unfold U2
  rw [lV]
 rw [e]
 generalize aR ans (P7 p (N - 1) 1)=n at *
 have up:=Ad (κ:=κ) (p:=p) (m:=n) a3
 split
 ·exact ⟨n,p,rfl,hs,a1,by omega,up⟩
 ·rename_i hne
  have hne:n≠N:=by simpa using hne
  have hlt:=a4 (by omega)
  split
  ·rename_i hg
   show ∃ m p',aR ans (if ans (p.getD 0 0) (p.getD (n - 1) 0)=true then P9 (n,p) else Qu n N (P5 p 0 n))=(m,p')/\_
   rw [hk]
   by_cases h:κ (p.getD 0 0)<κ (p.getD (n - 1) 0)
   ·rw [if_pos (by simpa using h)]
    exact ⟨n,p,rfl,hs,a1,by omega,up⟩
   ·rw [if_neg (by simpa using h)]
    have h':¬ gK κ p 0<gK κ p (n - 1):=h
    have all:∀ k,k<n->gK κ p k=gK κ p 0:=fun k hkn=>by
     have u1:=up 0 k (OW _) hkn
     have u2:=up k (n - 1) (by omega) (by omega)
     omega
    refine Af hk a1 (by omega) (by rw [m8,hs]) (fun i j hi hj=>?_) ?_
    ·rw [kD (by omega),kD (by omega),if_pos ⟨by omega,by omega⟩,if_pos ⟨by omega,by omega⟩,all (0+n - 1 - j) (by omega),all (0+n - 1 - i) (by omega)]
     exact N3 _
    ·rw [kD (by omega),kD (by omega),if_neg (by omega),if_pos ⟨by omega,by omega⟩,all (0+n - 1 - (n - 1)) (by omega),<- all (n - 1) (by omega)]
     exact hlt
  ·rename_i hg
   refine Af hk a1 (by omega) hs (fun i j hi hj=>?_) hlt
   have:i=j:=by omega
   subst this
   exact N3 _
include hk in
theorem sU {p:Array Nat}{k:Nat}(S:gE κ p k):∀ (f l r:Nat),r - l<=f->l<=r->r<=k->(∀ j,j<l->gK κ p j<=gK κ p k)->(∀ j,r<=j->j<k->gK κ p k<gK κ p j)->
  aR ans (Pd p k f l r)<=k/\(∀ j,j<aR ans (Pd p k f l r)->gK κ p j<=gK κ p k)/\∀ j,aR ans (Pd p k f l r)<=j->j<k->gK κ p k<gK κ p j
 | 0,l,r,h1,h2,h3,lo,hi=>by
  have:l=r:=by omega
  subst this
  exact ⟨h3,lo,hi⟩
 | f+1,l,r,h1,h2,h3,lo,hi=>by
  by_cases h:l >= r
  ·have e:aR ans (Pd p k (f+1) l r)=l:=by
    show aR ans (if l >= r then P9 l else _)=_
    rw [if_pos h];rfl
   have:l=r:=by omega
   subst this
   rw [e]
   exact ⟨h3,lo,hi⟩
  ·by_cases c:κ (p.getD k 0)<κ (p.getD ((l+r) / 2) 0)
   ·have e:aR ans (Pd p k (f+1) l r)=aR ans (Pd p k f l ((l+r) / 2)):=by
     show aR ans (if l >= r then P9 l else Sf (p.getD k 0) (p.getD ((l+r) / 2) 0) fun c=>if c=true then Pd p k f l ((l+r) / 2) else Pd p k f ((l+r) / 2+1) r)=_
     rw [if_neg h]
     show aR ans (if ans (p.getD k 0) (p.getD ((l+r) / 2) 0)=true then Pd p k f l ((l+r) / 2) else Pd p k f ((l+r) / 2+1) r)=_
     rw [hk,if_pos (by simpa using c)]
    rw [e]
    refine sU S f l ((l+r) / 2) (by omega) (by omega) (by omega) lo fun j hj hjk=>?_
    have:=S ((l+r) / 2) j hj hjk
    have c':gK κ p k<gK κ p ((l+r) / 2):=c
    omega
   ·have e:aR ans (Pd p k (f+1) l r)=aR ans (Pd p k f ((l+r) / 2+1) r):=by
     show aR ans (if l >= r then P9 l else Sf (p.getD k 0) (p.getD ((l+r) / 2) 0) fun c=>if c=true then Pd p k f l ((l+r) / 2) else Pd p k f ((l+r) / 2+1) r)=_
     rw [if_neg h]
     show aR ans (if ans (p.getD k 0) (p.getD ((l+r) / 2) 0)=true then Pd p k f l ((l+r) / 2) else Pd p k f ((l+r) / 2+1) r)=_
     rw [hk,if_neg (by simpa using c)]
    rw [e]
    refine sU S f ((l+r) / 2+1) r (by omega) (by omega) h3 (fun j hj=>?_) hi
    have c':¬ gK κ p k<gK κ p ((l+r) / 2):=c
    have:=S j ((l+r) / 2) (by omega) (by omega)
    omega
theorem IJ {p:Array Nat}{k l:Nat}(hs:k<p.size)(hl:l<=k)(S:gE κ p k)(lo:∀ j,j<l->gK κ p j<=gK κ p k)(hi:∀ j,l<=j->j<k->gK κ p k<gK κ p j):gE κ (bubble p k (k - l)) (k+1):=by
 intro i j hij hj
 rw [Ac hs (by omega),Ac hs (by omega)]
 have e:k - (k - l)=l:=by omega
 rw [e]
 repeat' split
 all_goals first
  | exact N3 _
  | (exfalso;omega)
  | (exact R6 (hi _ (by omega) (by omega)))
  | (exact lo _ (by omega))
  | (exact S _ _ (by omega) (by omega))
include hk in
theorem Ag {N:Nat}:∀ (f:Nat)(p:Array Nat)(k:Nat),p.size=N->k+f=N->gE κ p k->gE κ (aR ans (Ts f p k)) N
 | 0,p,k,hs,h,S=>by
  have:k=N:=by omega
  subst this
  exact S
 | f+1,p,k,hs,h,S=>by
  have e:aR ans (Ts (f+1) p k)=aR ans (Ts f (bubble p k (k - aR ans (Pd p k k 0 k))) (k+1)):=by
   show aR ans ((Pd p k k 0 k).bind fun l=>Ts f (bubble p k (k - l)) (k+1))=_
   rw [lV]
  rw [e]
  obtain ⟨a,b,c⟩:=sU hk S k 0 k (by omega) (by omega) (N3 _) (fun j hj=>absurd hj (by omega)) (fun j h1 h2=>absurd h2 (by omega))
  exact Ag f _ (k+1) (by rw [bubble_size,hs]) (by omega) (IJ (by omega) a S b c)
include hk in
theorem IK {N:Nat}(h1:1<=N):gE κ (aR ans (Tr N)) N:=by
 obtain ⟨m,p',e,hs,hm1,hm,S⟩:=II hk (p:=(ON N).toArray) h1 (by simp)
 have e2:aR ans (Tr N)=aR ans (if m<N then Ts (N - max m 1) p' (max m 1) else P9 p'):=by
  unfold Tr
  rw [lV,e]
 rw [e2]
 split
 ·have:max m 1=m:=by omega
  rw [this]
  exact Ag hk (N - m) p' m hs (by omega) S
 ·have:m=N:=by omega
  subst this
  exact S
end
section
variable {α:Type}{lt:α->α->Bool}(irr:∀ a,lt a a=false)(tr:∀ a b c,lt a b=true->lt b c=true->lt a c=true)(nt:∀ a b c,lt a b=true->lt a c=true\/lt c b=true)
theorem sV {p q:α->Bool}:∀ {l:List α},(∀ a∈l,p a=true->q a=true)->l.countP p<=l.countP q
 | [],_=>N3 _
 | a::l,h=>by
  have ih:=sV (l:=l) fun b hb=>h b (Oc _ hb)
  rw [RT,RT]
  have:=h a (Om ..)
  cases hp:p a<;>cases hq:q a<;>simp_all<;>omega
theorem Ah {p q:α->Bool}:∀ {l:List α}{b:α},(∀ a∈l,p a=true->q a=true)->b∈l->p b=false->q b=true->l.countP p<l.countP q
 | a::l,b,h,hb,h1,h2=>by
  rw [RT,RT]
  have hle:=sV (l:=l) fun c hc=>h c (Oc _ hc)
  rcases Ov.mp hb with rfl|hb
  ·simp only [h1,h2,Ob,if_false,if_true];omega
  ·have ih:=Ah (l:=l) (fun c hc=>h c (Oc _ hc)) hb h1 h2
   have:=h a (Om ..)
   cases hp:p a<;>cases hq:q a<;>simp_all<;>omega
include irr tr nt in
theorem IL {l:List α}{a b:α}(ha:a∈l):lt a b=decide (l.countP (fun c=>lt c a)<l.countP (fun c=>lt c b)):=by
 cases h:lt a b with
 | true=>
  have:=Ah (p:=fun c=>lt c a) (q:=fun c=>lt c b) (l:=l) (fun c _ hc=>tr _ _ _ hc h) ha (irr a) h
  simpa using this
 | false=>
  have:=sV (p:=fun c=>lt c b) (q:=fun c=>lt c a) (l:=l) fun c _ hc=>by
   rcases nt c b a hc with z|z
   ·exact z
   ·rw [h] at z;cases z
  simpa using this
include irr tr nt in
theorem Ai (d:α)(xs:List α){n:Nat}(h0:1<=n):(cC (fun i j=>lt (xs.getD i d) (xs.getD j d)) n).Pairwise fun i j=>lt (xs.getD j d) (xs.getD i d)=false:=by
 have hk:∀ i j,lt (xs.getD i d) (xs.getD j d)=decide ((d::xs).countP (fun c=>lt c (xs.getD i d))<(d::xs).countP (fun c=>lt c (xs.getD j d))):=fun i j=>by
  refine IL irr tr nt ?_
  by_cases hi:i<xs.length
  ·have:xs.getD i d=xs[i]:=by simp [Pj,hi]
   rw [this]
   exact Oc _ (RS hi)
  ·have:xs.getD i d=d:=by simp [Pj,Qs (Q4.mp hi)]
   rw [this]
   exact Om ..
 have S:=IK (κ:=fun i=>(d::xs).countP fun c=>lt c (xs.getD i d)) hk h0 (N:=n)
 have hp:=lU (fun i j=>lt (xs.getD i d) (xs.getD j d)) (n:=n) h0
 have hl:(cC (fun i j=>lt (xs.getD i d) (xs.getD j d)) n).length=n:=by
  have:=hp.length_eq
  simpa using this
 rw [QL]
 intro i j hi hj hij
 rw [hk]
 have s:=S i j (by omega) (by omega)
 have e:∀ (a:Array Nat)(k:Nat)(hk:k<a.toList.length),a.getD k 0=a.toList[k]:=fun a k hk=>by
  have hk':k<a.size:=by simpa using hk
  simp [Qa,hk']
 unfold gK at s
 rw [e _ i hi,e _ j hj] at s
 simp only [decide_eq_false_iff_not,Q4]
 exact s
end
end L3
namespace L3
open PySem L2
section
variable {X:Cx}{a b c:N2}{ma mb mc:ME}{pos:Py}
end
section
variable {X:Cx}
end
noncomputable def cL {α:Type}(xs:List α)(lo hi st:Option Int):List α:=(Up (PN lo hi st xs.length).1 (PN lo hi st xs.length).2.1 (PN lo hi st xs.length).2.2).filterMap (xs[·]?)
noncomputable def lW (a:ME)(lo hi st:MO):ME:=fun ρ μ=>(a ρ μ).bind fun p=>(lo ρ p.2).bind fun q=>(hi ρ q.2).bind fun r=>(st ρ r.2).bind fun t=>
 if t.1≠some 0 then (iC t.2 p.1).bind fun xs=>if (cL xs q.1 r.1 t.1).length<=N4 then some (.loc t.2.length,t.2++[.lst (cL xs q.1 r.1 t.1)]) else none else none
theorem IM {K:NO}{π:Nat->Addr}{n:Nat}{H:Hp}{vs:List V}{ds:List D}(h:IsDs K π n H vs ds)(lo hi st:Option Int):IsDs K π n H (cL vs lo hi st) (cL ds lo hi st):=by
 unfold cL
 rw [h.length]
 generalize Up _ _ _=l
 induction l with
 | nil=>exact .nil
 | cons i l ih=>
  rw [Pt,Pt]
  cases hi:ds[i]? with
  | none=>
   have:vs[i]? = none:=by
    rw [Pc] at hi ⊢
    rw [h.length];exact hi
   rw [this]
   exact ih
  | some d=>
   obtain ⟨v,h1,h2⟩:=h.get hi
   rw [h1]
   exact .cons h2 ih
theorem IP {vs:List V}{its:List NT}(r:Vals vs its)(lo hi st:Option Int):Vals (cL vs lo hi st) (cL its lo hi st):=by
 unfold cL
 rw [r.length]
 generalize Up _ _ _=l
 induction l with
 | nil=>exact .nil
 | cons i l ih=>
  rw [Pt,Pt]
  cases hi:vs[i]? with
  | none=>
   have:its[i]? = none:=by
    rw [Pc] at hi ⊢
    rw [<- r.length];exact hi
   rw [this]
   exact ih
  | some v=>
   obtain ⟨u,h1,h2⟩:=r.get hi
   rw [h1]
   exact .cons h2 ih
section
variable {X:Cx}{e:N2}{te:TE}{lo hi:Option N2}{st:N2}{tl th tt:TO}{pos p2:Py}
noncomputable def IQ (K:NO)(te:TE)(tl th tt:TO):TE:=fun σ H Q=>te σ H fun x H1=>tl σ H1 fun l H2=>th σ H2 fun u H3=>tt σ H3 fun t H4=>t≠some 0/\∃ a xs,x=.ref a/\SqL K H4 a xs/\(cL xs l u t).length<=N4/\∀ p,H4 p=none->Q (.ref p) (aI H4 p (.lst (cL xs l u t)))
open PyProof.Rows in
theorem IT (he:PE X e te)(hl:PO X lo tl)(hu:PO X hi th)(ht:PO X (some st) tt):PE X (.Subscript e (.Slice lo hi (some st) p2) pos) (IQ X.K te tl th tt):=by
 intro XB s σ H Q I h
 refine Uu (aT (he XB s σ H _ I h) fun v s1 ⟨x,H1,I1,r1,q1⟩=>?_)
 refine wpAny_Slice (aT (hl XB s1 σ H1 _ I1 q1) fun vl s2 ⟨l,H2,I2,pl,q2⟩=>aT (hu XB s2 σ H2 _ I2 q2) fun vu s3 ⟨u,H3,I3,pu,q3⟩=>aT (ht XB s3 σ H3 _ I3 q3) fun vt s4 ⟨t,H4,I4,pt,q4⟩=>?_)
 obtain ⟨h0,a,xs,rfl,hx,hz,q⟩:=q4
 cases r1
 have I5:Inv X XB σ H4 { s4 with heap:=s4.heap.push { cls:=.type "slice",data:=.fields #[vl,vu,vt] } }:=I4.kept (t':=s4.toks) fun b ob q=>NW _ q
 obtain ⟨its,r,hl',hz'⟩:=I5.list hx
 have hlen:=r.length
 show Oi (Ot X.prog X.w) X.A (S1 e (.Slice lo hi (some st) p2) (.ref a) (.ref s4.heap.objs.size)) (EP X XB σ Q) X.xe { s4 with heap:=s4.heap.push { cls:=.type "slice",data:=.fields #[vl,vu,vt] } }
 refine Xr (ops:=[.ref a,.ref s4.heap.objs.size]) hl'.isList.typeIs Tq.lookup ?_ (by with_unfolding_all rfl)
 refine UR hl'.isList (Ti ..) pl pu pt h0 ?_ (by rw [N8]<;>omega)
 have hpick:U1 its.toArray l u t=(cL its l u t).toArray:=by
  unfold U1 cL
  simp
 rw [hpick]
 refine ⟨.ref _,_,I5.laid (t':=s4.toks) (o:=.lst (cL xs l u t)) (fun b ob q=>NW _ q) (N3 _) ?_,rfl,q _ (I5.hok.fresh (N3 _))⟩
 exact ⟨hz,_,0,IP r l u t,Of _ rfl⟩
theorem IU {me:ME}{ml mh mt:MO}(he:QE X e me)(hl:QO X lo ml)(hu:QO X hi mh)(ht:QO X (some st) mt):QE X (.Subscript e (.Slice lo hi (some st) p2) pos) (lW me ml mh mt):=⟨cE (IT he.h hl.h hu.h ht.h) (by
 rintro σ H Q ⟨π,ρ,μ,d,μ',R,E,hm,k⟩
 obtain ⟨⟨x,μ1⟩,h1,hm⟩:=NN.mp hm
 obtain ⟨⟨l,μ2⟩,h2,hm⟩:=NN.mp hm
 obtain ⟨⟨u,μ3⟩,h3,hm⟩:=NN.mp hm
 obtain ⟨⟨t,μ4⟩,h4,hm⟩:=NN.mp hm
 refine ⟨π,ρ,μ,x,μ1,R,E,h1,fun π1 v1 H1 e1 R1 i1=>⟨π1,ρ,μ1,l,μ2,R1,E.mono e1,h2,fun π2 H2 e2 R2=>⟨π2,ρ,μ2,u,μ3,R2,(E.mono e1).mono e2,h3,fun π3 H3 e3 R3=>⟨π3,ρ,μ3,t,μ4,R3,((E.mono e1).mono e2).mono e3,h4,fun π4 H4 e4 R4=>?_⟩⟩⟩⟩
 split at hm
 ·rename_i h0
  obtain ⟨xs,h5,hm⟩:=NN.mp hm
  split at hm
  ·rename_i hz
   cases hm
   obtain ⟨p,vs,rfl,q,hd⟩:=sQ R4 (((i1.mono e2).mono e3).mono e4) h5
   have hpk:=IM hd l u t
   refine ⟨h0,p,vs,rfl,q,by rw [hpk.length];exact hz,fun p' hp=>?_⟩
   obtain ⟨e5,R5,_⟩:=R4.alloc (c:=.lst (cL xs l u t)) (o:=.lst (cL vs l u t)) hp hpk
   exact k _ _ _ ((((e1.trans e2).trans e3).trans e4).trans e5) R5 fA
  ·cases hm
 ·cases hm)⟩
end
section
variable {X:Cx}{XB:List (Addr×Pu)}{σ:St}{H:Hp}{s:NV}{h':O3}
end
structure QJT (X:Cx)(e:N2)(m:MI):Prop where
 h:∀ es k p,PI X (.Tuple es k p) e (hX X.K m)
theorem QJ.t {X:Cx}{e:N2}{m:MI}(h:QJ X e m):QJT X e m:=⟨fun es k p=>h.h _⟩
section
variable {X:Cx}{pos:Py}
theorem sW {tg iter:N2}{mi:MI}{g:MG}{mb:MS}{body:List Stmt}(hi:PI X tg iter (hX X.K mi))(hg:QG X tg g)(hb:QB X body mb)(hp:WJ (Ot X.prog X.w) X.A X.env X.xe)(hc:X.calm=true)(hs:eA iter=true) :
  QS X (.For tg iter body [] pos) (cB mi g mb):=⟨gC (DZ hp hc hi hg.h hb.h (by intro z;cases iter<;>first|rfl|cases hs)) (by
 rintro E σ H ⟨π,ρ,μ,fl,ρ',μ',R,EN,hm,k⟩
 obtain ⟨⟨src,n,μ1⟩,h1,hm⟩:=NN.mp hm
 refine ⟨π,ρ,μ,src,n,μ1,R,EN,h1,fun π1 H1 J e1 R1 W=>?_⟩
 have kk:k6 X.K E π1 μ1.length H1 fl ρ' μ':=by
  cases fl with
  | nx=>exact fun π3 σ3 H3 e3 R3 E3=>k π3 σ3 H3 (e1.trans e3) R3 E3
  | bk=>exact fun π3 σ3 H3 e3 R3 E3=>k π3 σ3 H3 (e1.trans e3) R3 E3
  | ct=>exact fun π3 σ3 H3 e3 R3 E3=>k π3 σ3 H3 (e1.trans e3) R3 E3
  | rt d=>exact KC.after k e1
 exact Gx W kk .refl R1 (EN.mono e1) hm)⟩
theorem IV {st:Stmt}{m m1 m2:MS}(h1:QS X st m1)(h2:QS X st m2)(h:∀ ρ μ r,m ρ μ=some r->m1 ρ μ=some r\/m2 ρ μ=some r):QS X st m:=⟨fun XB s σ H D I q=>by
 obtain ⟨π,ρ,μ,fl,ρ',μ',R,E,hm,k⟩:=q
 rcases h ρ μ _ hm with z|z
 ·exact h1.h XB s σ H D I ⟨π,ρ,μ,fl,ρ',μ',R,E,z,k⟩
 ·exact h2.h XB s σ H D I ⟨π,ρ,μ,fl,ρ',μ',R,E,z,k⟩⟩
noncomputable def kE (put:D->D->D->Hm->Option Hm)(o i v:ME):MS:=fun ρ μ=>(v ρ μ).bind fun p=>(o ρ p.2).bind fun q=>(i ρ q.2).bind fun r=>(put q.1 r.1 p.1 r.2).map fun μ'=>(.nx,ρ,μ')
noncomputable def lX:D->D->D->Hm->Option Hm
 | .loc a,.int i,d,μ=>match μ[a]? with
  | some (.lst xs)=>(dI xs.length i).map fun j=>μ.set a (.lst (xs.set j d))
  | _=>none
 | _,_,_,_=>none
noncomputable def nA:D->D->D->Hm->Option Hm
 | .loc a,y,d,μ=>match μ[a]? with
  | some (.dT kvs)=>(cK y).bind fun k=>if kvs.length<N4 then some (μ.set a (.dT (cS kvs k d))) else none
  | _=>none
 | _,_,_,_=>none
noncomputable def iV:D->D->D->Hm->Option Hm:=fun o i d μ=>match o with
 | .loc a=>match μ[a]? with
  | some (.dT _)=>nA o i d μ
  | _=>lX o i d μ
 | _=>none
noncomputable def bW:=kE iV
theorem Aj {K:NO}{π:Nat->Addr}{n:Nat}{H:Hp}:∀ {vs:List V}{ds:List D}(j:Nat){v:V}{d:D},IsDs K π n H vs ds->IsD K π n H v d->IsDs K π n H (vs.set j v) (ds.set j d)
 | _,_,j,_,_,.nil,h=>by simp;exact .nil
 | _,_,0,_,_,.cons _ t,h=>.cons h t
 | _,_,j+1,_,_,.cons h0 t,h=>.cons h0 (Aj j t h)
noncomputable def IW (td ty tv:TE):TS:=fun D σ H=>tv σ H fun v H1=>td σ H1 fun x H2=>ty σ H2 fun y H3=>xF x y v H3 fun H4=>D.nx σ H4
open PyProof.Rows in
theorem IX {o i value:N2}{pos':Py}{td ty tv:TE}(ho:PE X o td)(hi:PE X i ty)(hv:PE X value tv)(hs:Ry value (some (.Subscript o i pos')) pos.line X.env=pure false):PS X (.Assign [.Subscript o i pos'] value pos) (IW td ty tv):=by
 intro XB s σ H D I h
 refine Vc (aT (hv XB s σ H _ I h) fun r s1 ⟨v,H1,I1,rv,q1⟩=>aT (ho XB s1 σ H1 _ I1 q1) fun u s2 ⟨x,H2,I2,rx,q2⟩=>aT (hi XB s2 σ H2 _ I2 q2) fun iv s3 ⟨y,H3,I3,ry,q3⟩=>?_) hs
 exact aT (EL XB s3 σ H3 x y v u iv r _ I3 rx ry rv q3) fun _ s4 ⟨H4,I4,q4⟩=>⟨σ,H4,I4,q4⟩
theorem IY {o i e:N2}{mo mi me:ME}{tpos:Py}(ho:QE X o mo)(hi:QE X i mi)(he:QE X e me)(h:hW e=true):QS X (.Assign [.Subscript o i tpos] e pos) (kE lX mo mi me):=
 ⟨gC (IX ho.h hi.h he.h (oW h)) (by
 rintro E σ H ⟨π,ρ,μ,fl,ρ',μ',R,EN,hm,k⟩
 obtain ⟨⟨x,μ1⟩,h1,hm⟩:=NN.mp hm
 obtain ⟨⟨y,μ2⟩,h2,hm⟩:=NN.mp hm
 obtain ⟨⟨z,μ3⟩,h3,hm⟩:=NN.mp hm
 obtain ⟨μ4,h4,hm⟩:=NU.mp hm
 cases hm
 refine ⟨π,ρ,μ,x,μ1,R,EN,h1,fun π1 v1 H1 e1 R1 i1=>⟨π1,ρ,μ1,y,μ2,R1,EN.mono e1,h2,fun π2 v2 H2 e2 R2 i2=>⟨π2,ρ,μ2,z,μ3,R2,(EN.mono e1).mono e2,h3,fun π3 v3 H3 e3 R3 i3=>?_⟩⟩⟩
 dsimp only at h4
 cases y with
 | loc a=>
  cases z with
  | int i=>
   simp only [lX] at h4
   split at h4
   ·rename_i xs hx
    obtain ⟨j,h5,h6⟩:=NU.mp h4
    subst h6
    obtain ⟨vs,h7,h8⟩:=R3.lst _ xs hx
    have i2':=i2.mono e3
    cases i2'
    cases i3
    have hlt:=(NS.mp hx).1
    have iv:=(i1.mono e2).mono e3
    refine ⟨_,vs,i,j,rfl,rfl,h7,by rw [h8.length];exact h5,?_⟩
    obtain ⟨e4,R4⟩:=R3.put (c:=.lst (xs.set j x)) (o:=.lst (vs.set j v1)) hlt h7 (.inl ⟨vs,rfl⟩) (Aj j h8 iv)
    exact k π3 σ _ (((e1.trans e2).trans e3).trans e4) R4 ((((EN.mono e1).mono e2).mono e3).mono e4)
   ·cases h4
  | _=>simp [lX] at h4
 | _=>simp [lX] at h4)⟩
theorem IZ {f f1 f2:D->D->D->Hm->Option Hm}{mo mi me:ME}(h:∀ x y z μ r,f x y z μ=some r->f1 x y z μ=some r\/f2 x y z μ=some r):∀ ρ μ r,kE f mo mi me ρ μ=some r->kE f1 mo mi me ρ μ=some r\/kE f2 mo mi me ρ μ=some r:=by
 intro ρ μ r hm
 obtain ⟨p,h1,hm⟩:=NN.mp hm
 obtain ⟨q,h2,hm⟩:=NN.mp hm
 obtain ⟨t,h3,hm⟩:=NN.mp hm
 obtain ⟨μ',h4,hm⟩:=NU.mp hm
 rcases h _ _ _ _ _ h4 with z|z
 ·exact .inl (NN.mpr ⟨p,h1,NN.mpr ⟨q,h2,NN.mpr ⟨t,h3,NU.mpr ⟨μ',z,hm⟩⟩⟩⟩)
 ·exact .inr (NN.mpr ⟨p,h1,NN.mpr ⟨q,h2,NN.mpr ⟨t,h3,NU.mpr ⟨μ',z,hm⟩⟩⟩⟩)
theorem Ak {st:Stmt}{i:Nat}:QS X st (bA i bT):=⟨fun XB s σ H D I q=>by
 obtain ⟨π,ρ,μ,fl,ρ',μ',R,E,hm,k⟩:=q
 cases hm⟩
end
end L3
namespace L3
open PySem L2
noncomputable def dA {α:Type}(xs:List α)(k:Nat)(d:α):List α:=xs.take k++d::xs.drop k
noncomputable def lY:D->List D->Hm->Option (D×Hm)
 | .loc a,[.int i,d],μ=>match μ[a]? with
  | some (.lst xs)=>if 0<=i/\i<2 ^ 63/\xs.length<N4 then some (.non,μ.set a (.lst (dA xs i.toNat d))) else none
  | _=>none
 | _,_,_=>none
noncomputable def Al:V->List V->Hp->VK->Prop:=fun x vs H Q=>∃ l xs i y,x=.ref l/\vs=[.int i,y]/\H l=some (.lst xs)/\0<=i/\i<2 ^ 63/\xs.length<N4/\Q .non (aI H l (.lst (dA xs i.toNat y)))
theorem Ja {K:NO}{π:Nat->Addr}{n:Nat}{H:Hp}{vs:List V}{ds:List D}(h:IsDs K π n H vs ds)(k:Nat){v:V}{d:D}(hv:IsD K π n H v d):IsDs K π n H (dA vs k v) (dA ds k d):=
 (h.take k).append (.cons hv (h.drop k))
theorem Vals.ins {xs:List V}{us:List NT}(h:Vals xs us)(k:Nat){v:V}{u:NT}(r:RelV v u):Vals (dA xs k v) (dA us k u):=(h.take k).append (.cons r (h.drop k))
section
variable {X:Cx}
theorem Jb {K:NO}:c9 K lY Al:=by
 intro π H μ x ds d μ' v vs Q R ix is hm k
 unfold lY at hm
 split at hm
 ·split at hm
  ·rename_i xs hx
   split at hm
   ·rename_i hb
    cases hm
    cases is with
    | cons i1 t1=>
     cases i1
     cases t1 with
     | cons i2 t2=>
      cases t2
      cases ix
      obtain ⟨ws,h1,h2⟩:=R.lst _ xs hx
      have hlt:=(NS.mp hx).1
      refine ⟨_,ws,_,_,rfl,rfl,h1,hb.1,hb.2.1,by rw [h2.length];exact hb.2.2,?_⟩
      obtain ⟨e3,R3⟩:=R.put (c:=.lst (dA xs _ _)) (o:=.lst (dA ws _ _)) hlt h1 (.inl ⟨ws,rfl⟩) (Ja h2 _ i2)
      exact k π _ _ e3 R3 .non
   ·cases hm
  ·cases hm
 ·cases hm
theorem Jc (its:List NT)(k:Nat)(y:NT):(its.toArray.extract 0 (min k its.toArray.size)).push y++its.toArray.extract (min k its.toArray.size)=(dA its k y).toArray:=by
 apply Array.ext'
 simp only [dA,Array.toList_append,Array.toList_push,Array.toList_extract,N8]
 simp [List.extract_eq_drop_take]
 by_cases h:k<=its.length
 ·rw [V8 h]
  simp
  rw [Pq (by simp)]
 ·rw [Nat.min_eq_right (by omega)]
  simp
  rw [Pq (by omega),Uk (by omega)]
theorem Jd:dJ X "list.insert" Al:=by
 intro XB s σ H x vs v us Q I rx rv h
 obtain ⟨l,xs,i,y,rfl,rfl,hH,h1,h2,h3,q⟩:=h
 cases rx
 obtain ⟨u,u2,rfl,⟨t,rfl⟩,ru2⟩:=rv.two
 obtain ⟨z,its,n,r,hl,e⟩:=I.lstM hH
 refine S8 F.slot_list_insert ⟨_,e,rfl⟩ F.entry_list_insert (F.args_list_insert_3 _ _ _) (AutoSeq1.list_insert_list_int_val_1 l its.toArray n i t u2 (by
  rw [fitsIndex_both (by omega) h2];decide) (by rw [N8];omega)) ⟨e,?_⟩
 refine ⟨.non,_,I.lset (its':=dA its i.toNat u2) hH e ?_ (Vals.ins r _ ru2) ?_,rfl,q⟩
 ·show (its.toArray.extract 0 (if i<0 then (i+((its.toArray.size:Nat):Int)).toNat else min i.toNat its.toArray.size)).push u2++its.toArray.extract (if i<0 then (i+((its.toArray.size:Nat):Int)).toNat else min i.toNat its.toArray.size)=_
  rw [if_neg (by omega)]
  exact Jc its i.toNat u2
 ·unfold dA
  rw [Oa,OL,OP,QH]
  omega
end
section
variable {X:Cx}
end
section
variable {X:Cx}{e o:N2}{mo:ME}{apos cpos:Py}{es:List N2}{ms:MA}{n:Nat}
end
noncomputable def eC (is:List Int):List Int:=is.mergeSort fun a b=>decide (a<=b)
theorem Je {is ns:List Int}(hp:ns.Perm is)(hs:ns.Pairwise (·<=·)):ns=eC is:=by
 have h1:(eC is).Perm is:=List.mergeSort_perm _ _
 have h2:(eC is).Pairwise (·<=·):=by
  have:=List.pairwise_mergeSort (le:=fun a b:Int=>decide (a<=b)) (fun a b c h1 h2=>by simp only [decide_eq_true_eq] at *;omega) (fun a b=>by simp only [Q0,decide_eq_true_eq];omega) is
  exact this.imp fun h=>by simpa using h
 exact Qz (le:=fun a b:Int=>a<=b) (fun a b _ _ h1 h2=>by omega) hs h2 (hp.trans h1.symm)
noncomputable def kH:MF:=fun ds μ=>match ds with
 | [x]=>(iC μ x).bind fun xs=>(j0 xs).bind fun is=>if is.length<64 then some (.loc μ.length,μ++[.lst ((eC is).map D.int)]) else none
 | _=>none
noncomputable def sX (K:NO):List V->Hp->VK->Prop:=fun xs H Q=>∃ (p:Addr)(is:List Int),xs=[.ref p]/\SqL K H p (is.map V.int)/\is.length<64/\∀ l,H l=none->Q (.ref l) (aI H l (.lst ((eC is).map V.int)))
theorem Jf {K:NO}:cZ K kH (sX K):=by
 intro π H μ xs d μ' vs Q R i hm k
 unfold kH at hm
 split at hm
 ·obtain ⟨ys,h1,hm⟩:=NN.mp hm
  obtain ⟨is,h2,hm⟩:=NN.mp hm
  split at hm
  ·rename_i hb
   cases hm
   cases i with
   | cons i t=>
    cases t
    obtain ⟨p,ws,rfl,q,hd⟩:=sQ R i h1
    rw [sP h2] at hd
    have:=ints_of' hd
    subst this
    refine ⟨p,is,rfl,q,hb,fun l hl=>?_⟩
    obtain ⟨e2,R2,_⟩:=R.alloc (c:=.lst ((eC is).map D.int)) (o:=.lst ((eC is).map V.int)) hl (sR _)
    exact k _ _ _ e2 R2 fA
  ·cases hm
 ·cases hm
theorem call_sortI {X:Cx}:CallR X (.builtin "sorted") (sX X.K):=by
 intro XB s σ H xs us Q I r h
 obtain ⟨p,is,rfl,hq,h64,k⟩:=h
 obtain ⟨u,rfl,ru⟩:=e6 r
 cases ru
 obtain ⟨its,rv,pl,hz⟩:=I.list hq
 have hlen:=rv.length
 rw [NP] at hlen
 refine WY pl.isList (qU rv) (by omega) fun out ns' a1 a2 a3=>?_
 obtain ⟨e,he⟩:=SE s.heap its out
 have hn:H (s.heap.objs.size+1)=none:=I.hok.fresh (RM _)
 have e1:ns'=eC is:=Je a2 a3
 subst e1
 refine ⟨.ref (s.heap.objs.size+1),_,I.laid (t':=s.toks) (a:=s.heap.objs.size+1) (o:=.lst ((eC is).map V.int)) (fun b ob z=>Sx z) (RM _) ?_,rfl,k _ hn⟩
 have hl2:(eC is).length<=N4:=by
  have:=a2.length_eq
  have h5:=Ox
  omega
 refine ⟨by rw [NP];exact hl2,out.toList,e,qY a1,?_⟩
 rw [he]
noncomputable def eD:MF:=fun ds μ=>match kH ds μ with
 | some r=>some r
 | none=>m4 ds μ
theorem Jg {K:NO}:cZ K eD (fun xs H Q=>sX K xs H Q\/sO K xs H Q):=by
 intro π H μ xs d μ' vs Q R i hm k
 unfold eD at hm
 split at hm
 ·rename_i r hr
  cases hm
  exact .inl (Jf π H μ xs d μ' vs Q R i hr k)
 ·exact .inr (IH π H μ xs d μ' vs Q R i hm k)
end L3
namespace L3
open PySem L2
section
variable {prog:Oo}{w:OO}{A:OG}{E:NT->NV->Prop}{s:NV}{r:Addr}{Q:Bool->NV->Prop}
theorem Jh:Um (.type "list_reverseiterator") "__len__" = pure none:=by rw [WT,VF];kernel_rfl
theorem Ji:Um (.type "list_reverseiterator") "__length_hint__" = pure (some (.builtin "list_reverseiterator.__length_hint__")):=by rw [WT,VF];kernel_rfl
theorem Jj (hT:s.TypeIs (.ref r) "list_reverseiterator") (h:Q false s):Oi (Ot prog w) A (Sw (.ref r)) Q E s:=by
 unfold Sw
 refine NQ (Ra hT Jh ?_)
 dsimp only
 refine Rb (fun hab=>absurd hab (by decide +kernel)) (fun _=>?_)
 refine Rb (fun hab=>absurd hab (by decide)) (fun _=>?_)
 refine NQ (Ra hT Ji ?_)
 generalize bD:("list_reverseiterator.__length_hint__":String)=id0
 wp_delta
 rw [show splitId id0=some ("list_reverseiterator","__length_hint__") from by subst bD;decide +kernel]
 subst bD
 refine NQ (Rw (T:="list_reverseiterator") (b:=true) hT (by rw [isSubtype_type];kernel_rfl) ?_)
 refine Rb (fun hab=>absurd hab (by decide)) (fun _=>?_)
 refine Rb (fun _=>?_) (fun hab=>absurd (by decide +kernel) hab)
 refine Rb (fun hab=>absurd hab (by decide +kernel)) (fun _=>?_)
 exact N1 h
end
section
variable {prog:Oo}{w:OO}{A:OG}{E:NT->NV->Prop}{s:NV}{p a:Addr}{its:Array NT}
theorem Jk {R:Vl->NV->Prop}(hh:A.handled=none)(hit:s.heap.IsRevIter p a ((its.size:Int) - 1))(hl:s.heap.IsList a its)(hap:a≠p)(S:Addr)(hSr:S≠p)(hSd:S≠a)(res:NT)(c₀:Nat)(hS:s.heap.get? S=some { cls:=.type "list",data:=.seq #[] c₀ })
  (hR:∀ h' tk acc' c',(∀ b o,b≠S->b≠p->s.heap.get? b=some o->h'.get? b=some o)->h'.get? S=some { cls:=.type "list",dict:=none,data:=.seq acc' c',slots:=#[] }->ItemsOf (fun i v=>its[its.size - 1 - i]? = some v) acc' its.size->R (.ok (.ret res)) { s with heap:=h',toks:=tk }) (hn:its.size<=N4) :
  Oi (Ot prog w) A.in1 (Qh (.ref S) (.ref p) res)
   (fun aS s'=>match aS with|.done f=>R (.ok f) s'|.again c'=>c'.quiet=true/\Si (Ot prog w) A c' R s') (fun e s'=>R (.error e) s') s:=by
 have hSf:S∉[p,a]:=by simp only [Ov,List.not_mem_nil,or_false,not_or];exact ⟨hSr,hSd⟩
 have W:=Walks.listRev (prog:=prog) (w:=w) (A:=A.in1) hh p a hap its
 have key:∀ (h:O3)(c₁ tk:Nat),h.IsRevIter p a ((its.size:Int) - 1)->h.IsList a its->(∀ b o,b≠S->s.heap.get? b=some o->h.get? b=some o)->
   h.get? S=some { cls:=.type "list",data:=.seq #[] c₁ }->Si (Ot prog w) A (.builtin "list.extend.loop" ⟨[.ref S,.ref p,res],[]⟩) R { s with heap:=h,toks:=tk }:=by
  intro h c₁ tk hst hst2 hk hS₁
  refine codeAny_extend_loopS W.toS hn S hSf res its.size 0 _ #[] c₁ rfl (OW _) ⟨OW _,by simpa using hst,hst2⟩ hS₁ (ItemsOf.nil _) fun s' acc' c' hm hS' hacc=>?_
  rw [Moved.eq_with hm]
  refine hR s'.heap s'.toks acc' c' (fun b o hb hbp e=>hm.heap b o (fun hmem=>?_) (hk b o hb e)) hS' hacc
  rcases Ov.mp hmem with e'|hmem
  ·exact hb e'
  ·exact hbp (OC.mp hmem)
 unfold Qh
 refine NQ (wpAny_typeOf (T:="list_reverseiterator") hit.typeIs ?_)
 have h1:SJ (.ref S) (.ref p)=false:=by simp [SJ,hSr]
 have h2:(QX "list_reverseiterator" == QX "list")=false:=by decide +kernel
 have h3:(QX "list_reverseiterator" == QX "tuple")=false:=by decide +kernel
 simp only [h1,h2,h3,Wo,Ob,if_false]
 refine NQ (wpAny_pyIter_revIter hit ?_)
 refine NQ (O4 (Jj hit.typeIs ?_))
 refine Rb (fun hab=>absurd hab (by decide +kernel)) (fun _=>N1 ⟨plainId_quiet PySem.F.plain_extend_loop _,?_⟩)
 exact key _ c₀ s.toks hit hl (fun b o _ e=>e) hS
theorem Jl {R:Vl->NV->Prop}(hh:A.handled=none)(hit:s.heap.IsRevIter p a ((its.size:Int) - 1))(hl:s.heap.IsList a its)(hap:a≠p)(S:Addr)(hSr:S≠p)(hSd:S≠a)(hS:s.heap.get? S=some { cls:=.type "list",data:=.seq #[] })
  (hR:∀ h' tk acc' c',(∀ b o,b≠S->b≠p->s.heap.get? b=some o->h'.get? b=some o)->h'.get? S=some { cls:=.type "list",dict:=none,data:=.seq acc' c',slots:=#[] }->ItemsOf (fun i v=>its[its.size - 1 - i]? = some v) acc' its.size->R (.ok (.ret .none)) { s with heap:=h',toks:=tk }) (hn:its.size<=N4) :
  Oi (Ot prog w) A.in1 (Builtin.«list.__init__» ⟨[.ref S,.ref p],[]⟩)
   (fun aS s'=>match aS with|.done f=>R (.ok f) s'|.again c'=>c'.quiet=true/\Si (Ot prog w) A c' R s') (fun e s'=>R (.error e) s') s:=by
 show Oi _ _ (do let old <- S6 (.ref S);Xg (.ref S) (fun _=>#[]);letGo old.toList.reverse;Qh (.ref S) (.ref p) .none) _ _ s
 refine NQ ?_
 unfold S6
 refine NQ (wpAny_seqItems hS rfl (N1 ?_))
 show Oi _ _ (updateSeq S (fun _=>#[]) >>= fun _=>letGo (#[]:Array NT).toList.reverse >>= fun _=>Qh (.ref S) (.ref p) .none) _ _ s
 refine NQ (wpAny_updateSeq hS rfl ?_)
 have hS₂:=Px (Pb (fun _=>(#[]:Array NT))) hS rfl
 have oth:∀ b o,b≠S->s.heap.get? b=some o->(s.heap.update S (Pb (fun _=>(#[]:Array NT)))).get? b=some o:=
  fun b o hb e=>(Qj _ _ (OB hb)).trans e
 refine NQ (VS ?_)
 refine Jk hh (hit.at fun o e=>oth p o (OB hSr) e) (let ⟨o,ho,x⟩:=hl;⟨o,oth a o (OB hSd) ho,x⟩) hap S hSr hSd .none _ hS₂ (fun h' tk acc' c' hk hS' hacc=>?_) hn
 exact hR h' tk acc' c' (fun b o hb hb2 e=>hk b o hb hb2 (oth b o hb e)) hS' hacc
theorem Jm {Q:NT->NV->Prop}(hh:A.handled=none)(hit:s.heap.IsRevIter p a ((its.size:Int) - 1))(hl:s.heap.IsList a its)(hap:a≠p)(hn:its.size<=N4)
  (hQ:∀ h' tk acc' c',(∀ b o,b≠p->s.heap.get? b=some o->h'.get? b=some o)->h'.get? s.heap.objs.size=some { cls:=.type "list",dict:=none,data:=.seq acc' c',slots:=#[] }->ItemsOf (fun i v=>its[its.size - 1 - i]? = some v) acc' its.size->Q (.ref s.heap.objs.size) { s with heap:=h',toks:=tk }) :
  Oi (Ot prog w) A (call (.type "list") [.ref p]) Q E s:=by
 refine Xw (Q₁:=fun obj s₁=>obj=.ref s.heap.objs.size/\s₁ = { s with heap:=s.heap.push { cls:=.type "list",data:=.seq #[] } }) PySem.F.called_list (PySem.F.typeCall_list_1 _) PySem.F.entry_list_init
  (code_list_new _ ⟨rfl,rfl⟩) fun obj s₁ h₁=>?_
 obtain ⟨rfl,rfl⟩:=h₁
 have hS:(s.heap.push { cls:=.type "list",data:=.seq #[] }).get? s.heap.objs.size=some { cls:=.type "list",data:=.seq #[] }:=Of _ rfl
 have hp:p<s.heap.objs.size:=let ⟨o,ho,_⟩:=hit;N7 ho
 have ha:a<s.heap.objs.size:=let ⟨o,ho,_⟩:=hl;N7 ho
 refine ⟨⟨_,hS,rfl⟩,PySem.F.args_list_init_2 _ _,Jl (A:=A.in1) hh (hit.at fun o e=>NW _ e) (let ⟨o,ho,x⟩:=hl;⟨o,NW _ ho,x⟩) hap _ (Uw hp) (Uw ha) hS (fun h' tk acc' c' hk hS' hacc=>?_) hn⟩
 exact ⟨rfl,hQ h' tk acc' c' (fun b o hb e=>hk b o (Oh (N7 e)) hb (NW _ e)) hS' hacc⟩
end
noncomputable def Am (K:NO):List V->Hp->VK->Prop:=fun xs H Q=>∃ (p:Addr)(ys:List V),xs=[.ref p]/\SqL K H p ys/\∀ l,H l=none->Q (.ref l) (aI H l (.lst ys.reverse))
theorem An:∀ {ys:List V}{its:List NT},Vals ys its->Vals ys.reverse its.reverse
 | _,_,.nil=>.nil
 | _,_,.cons h t=>by
  rw [Qv,Qv]
  exact (An t).append (.cons h .nil)
theorem Jn {X:Cx}{e:N2}{t:TA}{p p2 pos pos2:Py}(hc:X.calm=true)(hg:Gl X "list") (hm:X.mg "list" = none) (hg2:Gl X "reversed") (hm2:X.mg "reversed" = none) (ha:PA X [e] t)(hs:OF [e] X.env=(false,eval e X.env)::OF [] X.env) :
  PE X (.Call (.Name "list" p) [.Call (.Name "reversed" p2) [e] [] pos2] [] pos) (oE (Am X.K) t):=by
 intro XB s σ H Q I h
 refine Qt (jP I hg hm Rg ?_ (by decide) (by decide))
 refine PD ?_ rfl rfl
 show Oi _ _ (spliced ((false,eval (.Call (.Name "reversed" p2) [e] [] pos2) X.env)::Qg pos (OF [] X.env))) _ _ s
 refine UY (Qt (jP I hg2 hm2 Vp ?_ (by decide) (by decide)))
 refine PD (aT (ha pos2 XB s σ H _ I h) fun us s1 ⟨vs,H1,I1,r1,q1⟩=>?_) hs rfl
 obtain ⟨q,ys,rfl,hq,k⟩:=q1
 obtain ⟨u,rfl,ru⟩:=e6 r1
 cases ru
 obtain ⟨its,r',pl,hz⟩:=I1.list hq
 have hlen:=r'.length
 have hl:=pl.isList
 have hq1:q<s1.heap.objs.size:=let ⟨o,ho,_⟩:=hl;N7 ho
 refine call_reversed_list hl ?_
 refine U8 ?_
 refine Jm (I1.ok.hd hc) (p:=s1.heap.objs.size) (a:=q) (its:=its.toArray) ⟨_,Of _ rfl,rfl,rfl⟩ (let ⟨o,ho,x⟩:=hl;⟨o,NW _ ho,x⟩) (Oh hq1) (by simp only [N8]<;>omega) fun h' tk acc' c' kp hS hacc=>?_
 have hac:acc'.toList=its.reverse:=by
  refine Rf fun i=>?_
  have hn:acc'.size=its.length:=by simpa using hacc.1
  by_cases hi:i<its.length
  ·have h1:=hacc.2 i acc'[i] (RH (by omega))
   rw [Pw,RH (by omega),<- h1,List.getElem?_reverse hi,N8,List.getElem?_toArray]
  ·rw [Qs (by rw [QM];omega),Qs (by rw [QR];omega)]
 have hsz:(s1.heap.push (revObj q ((its.toArray.size:Int) - 1))).objs.size=s1.heap.objs.size+1:=by simp [Heap.push]
 rw [hsz] at hS ⊢
 refine ⟨.ref (s1.heap.objs.size+1),_,I1.laid (t':=tk) (a:=s1.heap.objs.size+1) (o:=.lst ys.reverse) (fun b o e=>kp b o (Oh (N7 e)) (NW _ e)) (by omega) ⟨by rw [QR];exact hz,its.reverse,c',An r',by rw [<- hac];simpa using hS⟩,rfl,k _ (I1.hok.fresh (by omega))⟩
noncomputable def gG:MF:=fun ds μ=>match ds with
 | [.loc a]=>match μ[a]? with
  | some (.lst xs)=>some (.loc μ.length,μ++[.lst xs.reverse])
  | _=>none
 | _=>none
theorem Jo {K:NO}:cZ K gG (Am K):=by
 intro π H μ xs d μ' vs Q R i hm k
 unfold gG at hm
 split at hm
 ·rename_i a
  split at hm
  ·rename_i ys hy
   cases hm
   cases i with
   | cons i t=>
    cases t
    cases i
    obtain ⟨ws,h1,h2⟩:=R.lst a ys hy
    refine ⟨_,ws,rfl,.of h1,fun l hl=>?_⟩
    obtain ⟨e2,R2,_⟩:=R.alloc (c:=.lst ys.reverse) (o:=.lst ws.reverse) hl (zP h2)
    exact k _ _ _ e2 R2 fA
  ·cases hm
 ·cases hm
theorem Jp {X:Cx}{e:N2}{ms:MA}{n:Nat}{p p2 pos pos2:Py}(hc:X.calm=true)(hm1:X.mg "list" = none) (hm2:X.mg "reversed" = none) (ha:QA X [e] ms n)(hg1:Gl X "list") (hg2:Gl X "reversed") :
  QE X (.Call (.Name "list" p) [.Call (.Name "reversed" p2) [e] [] pos2] [] pos) (aM gG ms):=by
 have hs:=ha.s
 rw [OR,N5] at hs
 exact ⟨cE (Jn hc hg1 hm1 hg2 hm2 ha.h (fE hs.1)) (rG Jo)⟩
end L3
namespace L3
open PySem L2
end L3
namespace L3
open PySem L2
noncomputable abbrev bN:=List (List Int×Addr×V)
noncomputable def a8 (ps:bN)(ws:List NT):List (List Int×Addr×NT):=SF (fun p w=>(p.1,p.2.1,w)) ps ws
theorem pC {P:Oo}{w:OO}:∀ (ps:bN)(ws:List NT),SF rA ps ws=(a8 ps ws).map (Wg (PJ (P8 P w)))
 | [],_=>by simp [a8]
 | p::ps,[]=>by simp [a8]
 | p::ps,u::ws=>by
  have ih:=pC (P:=P) (w:=w) ps ws
  unfold a8 at ih ⊢
  rw [Oq,Oq,N0,ih]
  rfl
theorem iW:∀ {ps:bN}{ws:List NT},Vals (ps.map (·.2.2)) ws->(a8 ps ws).map (·.1)=ps.map (·.1)
 | [],_,_=>by simp [a8]
 | p::ps,_,.cons r t=>by
  have ih:=iW (ps:=ps) t
  unfold a8 at ih ⊢
  rw [Oq,N0,N0,ih]
theorem Ao:∀ {ps:bN}{ws:List NT}{x:List Int×Addr×NT},x∈a8 ps ws->∃ p∈ps,p.1=x.1/\p.2.1=x.2.1
 | [],_,x,h=>by simp [a8] at h
 | p::ps,[],x,h=>by simp [a8] at h
 | p::ps,u::ws,x,h=>by
  unfold a8 at h
  rw [Oq] at h
  rcases Ov.mp h with e|h
  ·subst e;exact ⟨p,Om ..,rfl,rfl⟩
  ·obtain ⟨q,hq,e⟩:=Ao (ps:=ps) (ws:=ws) h
   exact ⟨q,Oc _ hq,e⟩
noncomputable def cQ (ps:bN)(k:List Int):Option V:=(ps.find? fun p=>decide (p.1=k)).map (·.2.2)
noncomputable def fH (ps:bN)(k:List Int)(b:Addr)(v:V):bN:=if (cQ ps k).isSome then ps.map (fun p=>if p.1=k then (p.1,p.2.1,v) else p) else ps++[(k,b,v)]
theorem iD:∀ {ps:bN}{ws:List NT},Vals (ps.map (·.2.2)) ws->∀ k,RelO (cQ ps k) ((Q1 (a8 ps ws) k).map (·.2))
 | [],_,.nil,k=>by simp [cQ,a8,Q1];exact PX
 | p::ps,_,.cons r t,k=>by
  have ih:=iD (ps:=ps) t k
  unfold cQ Q1 a8 at ih ⊢
  rw [Oq,OT,OT]
  by_cases e:p.1=k
  ·simp only [e,decide_true]
   exact r
  ·simp only [e,decide_false]
   exact ih
theorem Ap (ps:bN)(k:List Int)(b:Addr)(v:V):(fH ps k b v).length<=ps.length+1:=by
 unfold fH;split<;>simp
theorem Aq {k:List Int}{v:V}{u:NT}(ru:RelV v u):∀ {ps:bN}{ws:List NT},Vals (ps.map (·.2.2)) ws->
  ∃ ws',Vals ((ps.map fun p=>if p.1=k then (p.1,p.2.1,v) else p).map (·.2.2)) ws'/\(a8 ps ws).map (putAt k u)=a8 (ps.map fun p=>if p.1=k then (p.1,p.2.1,v) else p) ws'
 | [],_,.nil=>⟨[],.nil,by simp [a8]⟩
 | p::ps,_,.cons (b:=w) r t=>by
  obtain ⟨ws',h1,h2⟩:=Aq ru (ps:=ps) t
  by_cases e:p.1=k
  ·refine ⟨u::ws',?_,?_⟩
   ·rw [N0,N0,if_pos e]
    exact .cons ru h1
   ·unfold a8 at h2 ⊢
    rw [Oq,N0,h2,N0,if_pos e,Oq]
    unfold putAt
    rw [if_pos e]
  ·refine ⟨w::ws',?_,?_⟩
   ·rw [N0,N0,if_neg e]
    exact .cons r h1
   ·unfold a8 at h2 ⊢
    rw [Oq,N0,h2,N0,if_neg e,Oq]
    unfold putAt
    rw [if_neg e]
theorem Ar {k:List Int}{b:Addr}{v:V}{u:NT}:∀ {ps:bN}{ws:List NT},Vals (ps.map (·.2.2)) ws->a8 ps ws++[(k,b,u)]=a8 (ps++[(k,b,v)]) (ws++[u])
 | [],_,.nil=>by simp [a8]
 | p::ps,_,.cons r t=>by
  have ih:=Ar (k:=k) (b:=b) (v:=v) (u:=u) (ps:=ps) t
  unfold a8 at ih ⊢
  rw [Oq,Pz,ih,Pz,Pz,Oq]
theorem Au {ps:bN}{ws:List NT}(r:Vals (ps.map (·.2.2)) ws)(k:List Int)(b:Addr){v:V}{u:NT}(ru:RelV v u) :
  ∃ ws',Vals ((fH ps k b v).map (·.2.2)) ws'/\Wt (a8 ps ws) k b u=a8 (fH ps k b v) ws':=by
 have e:=(iD r k).isSome_eq
 rw [RG] at e
 unfold fH Wt
 rw [e]
 by_cases h:(Q1 (a8 ps ws) k).isSome=true
 ·rw [if_pos h,if_pos h]
  exact Aq ru r
 ·rw [if_neg h,if_neg h]
  refine ⟨ws++[u],?_,Ar r⟩
  rw [OE]
  exact Wj r ru
section
variable {X:Cx}{XB:List (Addr×Pu)}{σ:St}{H:Hp}{s:NV}{a:Addr}{ps:bN}
noncomputable def cU (K:NO)(H:Hp)(ps:bN):Prop:=∀ p∈ps,SqT K H p.2.1 (p.1.map V.int)
theorem fU (I:Inv X XB σ H s)(e:Rd H a (aP a ps))(hk:cU X.K H ps):(a == OY)=false/\ps.length<=N4 /\
  ∃ ws,Vals (ps.map (·.2.2)) ws/\s.heap.DictOfH (PJ (P8 X.prog X.w)) a (a8 ps ws):=by
 obtain ⟨⟨ws,r,hs,hl,o,es,ep,h1,h2,h3,h4,h5⟩,_⟩:=(show ObjOk X.prog X.w H s.heap a (aP a ps) from e.ok I.hok)
 refine ⟨hs,hl,ws,r,o,es,ep,h1,h2,h3,by rw [h4];exact pC ps ws,fun x hx=>?_,by rw [iW r];exact h5⟩
 obtain ⟨p,hp,e1,e2⟩:=Ao hx
 rw [<- e1,<- e2]
 exact iU I (hk p hp)
theorem nB {P:Oo}{w:OO}{H':Hp}{h':O3}{ws:List NT}(hs:(a == OY)=false)(hl:ps.length<=N4)(r:Vals (ps.map (·.2.2)) ws)(d:h'.DictOfH (PJ (P8 P w)) a (a8 ps ws)):ObjOk P w H' h' a (aP a ps):=by
 obtain ⟨o,es,ep,h1,h2,h3,h4,_,h5⟩:=d
 refine ⟨⟨ws,r,hs,hl,o,es,ep,h1,h2,h3,by rw [h4,pC (P:=P) (w:=w)],by rw [<- iW r];exact h5⟩,⟨o,h1⟩,?_⟩
 rintro g1 g2 ⟨ws,r,hs,hl,o,es,ep,h1,h2,h3,h4,h5⟩ hh
 exact ⟨ws,r,hs,hl,o,es,ep,hh o h1,h2,h3,h4,h5⟩
theorem Jq (I:Inv X XB σ H s)(e:Rd H a (aP a ps))(hk:cU X.K H ps):s.TypeIs (.ref a) "dict":=by
 obtain ⟨_,_,ws,_,d⟩:=fU I e hk
 exact d.typeIs
theorem iE {A:OG}(hu:A.units+1<PR):(PJ (P8 X.prog X.w)).room A.in1:=by
 show A.in1.units<PR
 rw [jU];omega
variable {A:OG}{E:NT->NV->Prop}{b:Addr}{k:List Int}{v:V}
theorem Jr {Q:NT->NV->Prop}(hu:A.units+1<PR)(I:Inv X XB σ H s)(e:Rd H a (aP a ps))(hk:cU X.K H ps)(hb:SqT X.K H b (k.map V.int))(hv:cQ ps k=some v)
  (h:∀ w' s',Inv X XB σ H s'->RelV v w'->Q w' s'):Oi (Ot X.prog X.w) A (Ui (.ref a) (.ref b)) Q E s:=by
 obtain ⟨hs,hl,ws,r,d⟩:=fU I e hk
 obtain ⟨w',hw,rw'⟩:=RelO.some_of (v:=v) (o:=(Q1 (a8 ps ws) k).map (·.2)) (by rw [<- hv];exact iD r k)
 obtain ⟨p,hp,hp2⟩:=NU.mp hw
 refine wpAny_getItem_heap (iE hu) (iU I hb) d hp ?_
 rw [hp2]
 exact h w' _ (I.tok _) rw'
theorem Js {Q:NT->NV->Prop}(hu:A.units+1<PR)(I:Inv X XB σ H s)(e:Rd H a (aP a ps))(hk:cU X.K H ps)(hb:SqT X.K H b (k.map V.int))
  (h:∀ s',Inv X XB σ H s'->Q (.bool (cQ ps k).isSome) s'):Oi (Ot X.prog X.w) A (Pe .In (.ref b) (.ref a)) Q E s:=by
 obtain ⟨hs,hl,ws,r,d⟩:=fU I e hk
 refine wpAny_in_heap (iE hu) (iU I hb) hs d ?_
 have q:=(iD r k).isSome_eq
 rw [RG] at q
 rw [<- q]
 exact h _ (I.tok _)
theorem Jt {Q:NT->NV->Prop}(hu:A.units+1<PR)(I:Inv X XB σ H s)(e:Rd H a (aP a ps))(hk:cU X.K H ps)(hb:SqT X.K H b (k.map V.int))
  (h:∀ s',Inv X XB σ H s'->Q (.bool (!(cQ ps k).isSome)) s'):Oi (Ot X.prog X.w) A (Pe .NotIn (.ref b) (.ref a)) Q E s:=by
 obtain ⟨hs,hl,ws,r,d⟩:=fU I e hk
 refine WX (iE hu) (iU I hb) hs d ?_
 have q:=(iD r k).isSome_eq
 rw [RG] at q
 rw [<- q]
 exact h _ (I.tok _)
theorem Ju {Q:Unit->NV->Prop}{u:NT}(hu:A.units+1<PR)(I:Inv X XB σ H s)(e:H a=some (aP a ps))(hk:cU X.K H ps)(hb:SqT X.K H b (k.map V.int))(hz:ps.length<N4)(ru:RelV v u)
  (h:∀ s',Inv X XB σ (aI H a (aP a (fH ps k b v))) s'->Q () s'):Oi (Ot X.prog X.w) A (setItem (.ref a) (.ref b) u) Q E s:=by
 obtain ⟨hs,hl,ws,r,d⟩:=fU I (.of e) hk
 have hx:(a8 ps ws).length<=N4:=by
  have:=congrArg OJ (iW r)
  rw [NP,NP] at this
  omega
 refine wpAny_setItem_heap (hsz:=hx) (iE hu) (iU I hb) d fun h' d' hs'=>h _ ?_
 obtain ⟨ws',r',ex⟩:=Au r k b ru
 rw [ex] at d'
 have he:∃ q,h'.get? a=some q:=let ⟨q,_,_,hq,_⟩:=d';⟨q,hq⟩
 exact oG I (by rw [e];exact PX) hs' he (nB hs (by have:=Ap ps k b v;omega) r' d')
end
noncomputable def IsTs (K:NO)(π:Nat->Addr)(n:Nat)(H:Hp):bN->List (List Int×D)->Prop:=RB fun p q=>p.1=q.1/\SqT K H p.2.1 (p.1.map V.int)/\IsD K π n H p.2.2 q.2
section
variable {K:NO}{π:Nat->Addr}{n:Nat}{H:Hp}{μ:Hm}
theorem Jv {b:Addr}{k:List Int}(h:IsD K π n H (.ref b) (.tup (k.map D.int))):SqT K H b (k.map V.int):=by
 cases h with
 | tup q t=>rw [ints_of' t] at q;exact q
theorem IsTs.of:∀ {ps:bN}{kvs:List (List Int×D)},ps.map (·.1)=kvs.map (·.1)->IsDs K π n H (ps.map fun p=>V.ref p.2.1) (kvs.map fun k=>D.tup (k.1.map D.int))->IsDs K π n H (ps.map (·.2.2)) (kvs.map (·.2))->IsTs K π n H ps kvs
 | [],[],_,_,_=>.nil
 | [],_::_,h,_,_=>by cases h
 | _::_,[],h,_,_=>by cases h
 | p::ps,q::kvs,h,h2,h3=>by
  cases h2 with
  | cons k1 k2=>
   cases h3 with
   | cons v1 v2=>
    rw [N0,N0,UO] at h
    refine .cons ⟨h.1,?_,v1⟩ (IsTs.of h.2 k2 v2)
    rw [h.1]
    exact Jv k1
theorem IsTs.keys:∀ {ps:bN}{kvs:List (List Int×D)},IsTs K π n H ps kvs->cU K H ps
 | _,_,.nil=>fun p hp=>nomatch hp
 | _,_,.cons h t=>fun p hp=>by
  rcases Ov.mp hp with e|hp
  ·subst e;exact h.2.1
  ·exact IsTs.keys t p hp
theorem IsTs.to:∀ {ps:bN}{kvs:List (List Int×D)},IsTs K π n H ps kvs->ps.map (·.1)=kvs.map (·.1)/\IsDs K π n H (ps.map fun p=>V.ref p.2.1) (kvs.map fun k=>D.tup (k.1.map D.int))/\IsDs K π n H (ps.map (·.2.2)) (kvs.map (·.2))
 | _,_,.nil=>⟨rfl,.nil,.nil⟩
 | _,_,.cons (a:=p) (b:=q) h t=>by
  obtain ⟨h1,h2,h3⟩:=IsTs.to t
  refine ⟨by rw [N0,N0,h.1,h1],.cons ?_ h2,.cons h.2.2 h3⟩
  show IsD K π n H (.ref p.2.1) (.tup (q.1.map D.int))
  rw [<- h.1]
  exact .tup h.2.1 (sR p.1)
theorem IsTs.val (k:List Int):∀ {ps:bN}{kvs:List (List Int×D)},IsTs K π n H ps kvs->(cQ ps k=none/\bF kvs k=none)\/∃ v d,cQ ps k=some v/\bF kvs k=some d/\IsD K π n H v d
 | _,_,.nil=>.inl ⟨rfl,rfl⟩
 | _,_,.cons (a:=p) (b:=q) h t=>by
  have ih:=IsTs.val k t
  unfold cQ bF at ih ⊢
  rw [OT,OT,<- h.1]
  by_cases e:p.1=k
  ·simp only [e,decide_true]
   exact .inr ⟨_,_,rfl,rfl,h.2.2⟩
  ·simp only [e,decide_false]
   exact ih
theorem IsTs.put {ps:bN}{kvs:List (List Int×D)}(h:IsTs K π n H ps kvs)(k:List Int){b:Addr}{v:V}{d:D}(hb:SqT K H b (k.map V.int))(hv:IsD K π n H v d):IsTs K π n H (fH ps k b v) (cS kvs k d):=by
 have e:(cQ ps k).isSome=(bF kvs k).isSome:=by
  rcases h.val k with ⟨h1,h2⟩|⟨v,d,h1,h2,_⟩<;>rw [h1,h2]<;>rfl
 have repl:∀ {ps:bN}{kvs:List (List Int×D)},IsTs K π n H ps kvs->IsTs K π n H (ps.map fun p=>if p.1=k then (p.1,p.2.1,v) else p) (kvs.map fun p=>if p.1=k then (p.1,d) else p):=by
  intro ps kvs h
  unfold IsTs at h
  induction h with
  | nil=>exact .nil
  | @cons p q ps qs h t ih=>
   rw [N0,N0]
   refine .cons ?_ ih
   by_cases z:p.1=k
   ·rw [if_pos z,if_pos (h.1.symm.trans z)]
    exact ⟨h.1,h.2.1,hv⟩
   ·rw [if_neg z,if_neg fun y=>z (h.1.trans y)]
    exact h
 unfold fH cS
 rw [e]
 split
 ·exact repl h
 ·exact Wj h ⟨rfl,hb,hv⟩
theorem dQ {a:Nat}{kvs:List (List Int×D)}(R:Rp K π H μ)(h:μ[a]? = some (.dT kvs)):∃ ps,H (π a)=some (aP (π a) ps)/\IsTs K π μ.length H ps kvs:=by
 obtain ⟨ps,h1,h2,h3,h4⟩:=R.dT a kvs h
 exact ⟨ps,h1,.of h2 h3 h4⟩
theorem pD {a:Nat}{kvs:List (List Int×D)}(R:Rp K π H μ)(h:μ[a]? = some (.dF kvs)):∃ ob ps,H (π a)=some (.frz ob (aP (π a) ps))/\IsTs K π μ.length H ps kvs:=by
 obtain ⟨ob,ps,h1,h2,h3,h4⟩:=R.dF a kvs h
 exact ⟨ob,ps,h1,.of h2 h3 h4⟩
theorem iX {v:V}{x:D}{k:List Int}(h:IsD K π n H v x)(e:cK x=some k):∃ b,v=.ref b/\SqT K H b (k.map V.int):=by
 have:=z6 e
 subst this
 cases h with
 | tup q t=>rw [ints_of' t] at q;exact ⟨_,rfl,q⟩
end
noncomputable def fI:ME:=fun _ μ=>some (.loc μ.length,μ++[.dT []])
section
variable {X:Cx}{pos:Py}
theorem Jw {P:Oo}{w:OO}{H:Hp}(h:O3)(hb:OY<h.objs.size):ObjOk P w H (h.push { cls:=.type "dict",data:=.dict #[] }) h.objs.size (aP h.objs.size []):=
 nB (ws:=[]) (beq_eq_false_iff_ne.mpr (OB (Oh hb))) (OW _) .nil (Xf h)
noncomputable def Jx:TE:=fun _ H Q=>∀ p,H p=none->Q (.ref p) (aI H p (aP p []))
theorem Jy:PE X (.Dict [] [] pos) Jx:=fun XB s σ H Q I h=>
 wpAny_Dict_empty ⟨.ref s.heap.objs.size,_,I.laid (a:=s.heap.objs.size) (o:=aP s.heap.objs.size []) (t':=s.toks) (fun _ _ q=>NW _ q) (N3 _) (Jw s.heap I.big),rfl,h _ (I.hok.fresh (N3 _))⟩
theorem Jz:QE X (.Dict [] [] pos) fI:=⟨cE Jy (by
 rintro σ H Q ⟨π,ρ,μ,d,μ',R,E,hm,k⟩ p hp
 cases hm
 obtain ⟨e1,R1,q1⟩:=R.alloc (c:=.dT []) (o:=aP p []) hp ⟨[],rfl,rfl,.nil,.nil⟩
 exact k _ _ _ e1 R1 fA)⟩
end
noncomputable def nC:D->D->Hm->Option (D×Hm)
 | .loc a,y,μ=>match μ[a]? with
  | some (.dT kvs)=>(cK y).bind fun k=>(bF kvs k).map fun d=>(d,μ)
  | some (.dF kvs)=>(cK y).bind fun k=>(bF kvs k).map fun d=>(d,μ)
  | _=>none
 | _,_,_=>none
section
variable {X:Cx}{a b e:N2}{ma mb me:ME}{pos tpos:Py}{td ty tv:TE}
noncomputable def Av (K:NO):R2:=fun x y H Q=>∃ a b ps k v,x=.ref a/\y=.ref b/\Rd H a (aP a ps)/\cU K H ps/\SqT K H b (k.map V.int)/\cQ ps k=some v/\Q v H
theorem JA (hu:X.A.units+1<PR)(ho:PE X a td)(hi:PE X b ty)(hs:w6 b):PE X (.Subscript a b pos) (fun σ H Q=>td σ H fun x H1=>ty σ H1 fun y H2=>Av X.K x y H2 Q):=by
 intro XB s σ H Q I h
 refine Ex PySem.F.slot_dict_getitem.lookup hs (aT (ho XB s σ H _ I h) fun u s1 ⟨x,H1,I1,rx,q1⟩=>aT (hi XB s1 σ H1 _ I1 q1) fun iv s2 ⟨y,H2,I2,ry,a,b,ps,k,v,ex,ey,e,hk,hb,hv,q2⟩=>?_)
 subst ex ey
 obtain rfl:u=Og a:=rx
 obtain rfl:iv=Og b:=ry
 exact ⟨Jq I2 e hk,Jr hu I2 e hk hb hv fun w' s3 I3 rw'=>⟨v,H2,I3,rw',q2⟩⟩
theorem JB {K:NO}:cO K nC (Av K):=by
 intro π H μ x y d μ' vx vy Q R ix iy hm k
 unfold nC at hm
 split at hm
 ·split at hm
  ·rename_i kvs hc
   obtain ⟨kk,h1,hm⟩:=NN.mp hm
   obtain ⟨d',h2,hm⟩:=NU.mp hm
   cases hm
   cases ix
   obtain ⟨ps,e1,T⟩:=dQ R hc
   obtain ⟨b,rfl,hb⟩:=iX iy h1
   rcases T.val kk with ⟨_,z⟩|⟨v,d2,z1,z2,z3⟩
   ·rw [z] at h2;cases h2
   ·rw [z2] at h2
    cases h2
    exact ⟨_,b,ps,kk,v,rfl,rfl,.of e1,T.keys,hb,z1,k π _ H .refl R z3⟩
  ·rename_i kvs hc
   obtain ⟨kk,h1,hm⟩:=NN.mp hm
   obtain ⟨d',h2,hm⟩:=NU.mp hm
   cases hm
   cases ix
   obtain ⟨ob,ps,e1,T⟩:=pD R hc
   obtain ⟨b,rfl,hb⟩:=iX iy h1
   rcases T.val kk with ⟨_,z⟩|⟨v,d2,z1,z2,z3⟩
   ·rw [z] at h2;cases h2
   ·rw [z2] at h2
    cases h2
    exact ⟨_,b,ps,kk,v,rfl,rfl,.inr ⟨ob,e1⟩,T.keys,hb,z1,k π _ H .refl R z3⟩
  ·cases hm
 ·cases hm
theorem JC {k:Nat}(hr:Room k X.A)(ha:QE X a ma)(hb:QE X b mb)(h:lM b=true):QE X (.Subscript a b pos) (aB nC ma mb):=⟨cE (JA (iR hr) ha.h hb.h (y3 h)) (mQ JB)⟩
end
section
variable {X:Cx}{o i e:N2}{mo mi me:ME}{pos tpos:Py}{td ty tv:TE}
noncomputable def JD (K:NO)(td ty tv:TE):TS:=fun D σ H=>tv σ H fun v H1=>td σ H1 fun x H2=>ty σ H2 fun y H3=>∃ a b ps k,x=.ref a/\y=.ref b/\H3 a=some (aP a ps)/\cU K H3 ps/\SqT K H3 b (k.map V.int)/\ps.length<N4/\D.nx σ (aI H3 a (aP a (fH ps k b v)))
theorem JE (hu:X.A.units+1<PR)(ho:PE X o td)(hi:PE X i ty)(hv:PE X e tv)(hs:Ry e (some (.Subscript o i tpos)) pos.line X.env=pure false) :
  PS X (.Assign [.Subscript o i tpos] e pos) (JD X.K td ty tv):=by
 intro XB s σ H D I h
 refine Vc (aT (hv XB s σ H _ I h) fun r s1 ⟨v,H1,I1,rv,q1⟩=>aT (ho XB s1 σ H1 _ I1 q1) fun u s2 ⟨x,H2,I2,rx,q2⟩=>aT (hi XB s2 σ H2 _ I2 q2) fun iv s3 ⟨y,H3,I3,ry,a,b,ps,k,ex,ey,e,hk,hb,hz,q3⟩=>?_) hs
 subst ex ey
 obtain rfl:u=Og a:=rx
 obtain rfl:iv=Og b:=ry
 exact Ju hu I3 e hk hb hz rv fun s4 I4=>⟨σ,_,I4,q3⟩
theorem JF {kk:Nat}(hr:Room kk X.A)(ho:QE X o mo)(hi:QE X i mi)(he:QE X e me)(h:hW e=true):QS X (.Assign [.Subscript o i tpos] e pos) (kE nA mo mi me):=
 ⟨gC (JE (E7 hr) ho.h hi.h he.h (oW h)) (by
 rintro E σ H ⟨π,ρ,μ,fl,ρ',μ',R,EN,hm,k⟩
 obtain ⟨⟨x,μ1⟩,h1,hm⟩:=NN.mp hm
 obtain ⟨⟨y,μ2⟩,h2,hm⟩:=NN.mp hm
 obtain ⟨⟨z,μ3⟩,h3,hm⟩:=NN.mp hm
 obtain ⟨μ4,h4,hm⟩:=NU.mp hm
 cases hm
 refine ⟨π,ρ,μ,x,μ1,R,EN,h1,fun π1 v1 H1 e1 R1 i1=>⟨π1,ρ,μ1,y,μ2,R1,EN.mono e1,h2,fun π2 v2 H2 e2 R2 i2=>⟨π2,ρ,μ2,z,μ3,R2,(EN.mono e1).mono e2,h3,fun π3 v3 H3 e3 R3 i3=>?_⟩⟩⟩
 cases y with
 | loc a=>
  simp only [nA] at h4
  split at h4
  ·rename_i kvs hc
   obtain ⟨kk,h5,h4⟩:=NN.mp h4
   split at h4
   ·rename_i hz
    cases h4
    have i2':=i2.mono e3
    cases i2' with
    | loc hlt=>
     obtain ⟨ps,f1,T⟩:=dQ R3 hc
     obtain ⟨b,rfl,hb⟩:=iX i3 h5
     have hv:=(i1.mono e2).mono e3
     have T':=T.put kk hb hv
     obtain ⟨g1,g2,g3⟩:=T'.to
     have hpl:ps.length<N4:=by
      have:=congrArg OJ (T.to).1
      rw [NP,NP] at this
      omega
     refine ⟨_,b,ps,kk,rfl,rfl,f1,T.keys,hb,hpl,?_⟩
     obtain ⟨e4,R4⟩:=R3.put (c:=.dT (cS kvs kk x)) (o:=aP _ (fH ps kk b v1)) hlt f1 (.inr (.inr ⟨_,rfl⟩)) ⟨_,rfl,g1,g2,g3⟩
     exact k π3 σ _ (((e1.trans e2).trans e3).trans e4) R4 ((((EN.mono e1).mono e2).mono e3).mono e4)
   ·cases h4
  ·cases h4
 | _=>simp [nA] at h4)⟩
end
noncomputable def nD (neg:Bool):D->D->Hm->Option (D×Hm)
 | x,.loc a,μ=>match μ[a]? with
  | some (.dT kvs)=>(cK x).map fun k=>(.bl (if neg then !(bF kvs k).isSome else (bF kvs k).isSome),μ)
  | some (.dF kvs)=>(cK x).map fun k=>(.bl (if neg then !(bF kvs k).isSome else (bF kvs k).isSome),μ)
  | _=>none
 | _,_,_=>none
noncomputable def sY (K:NO)(neg:Bool):R2:=fun x y H Q=>∃ a b ps k,x=.ref b/\y=.ref a/\Rd H a (aP a ps)/\cU K H ps/\SqT K H b (k.map V.int)/\Q (.bl (if neg then !(cQ ps k).isSome else (cQ ps k).isSome)) H
theorem Aw {X:Cx}(hu:X.A.units+1<PR):OpR X (Pe .In) (sY X.K false):=by
 intro XB s σ H x y v u Q I rx ry h
 obtain ⟨a,b,ps,k,rfl,rfl,e,hk,hb,q⟩:=h
 obtain rfl:v=Og b:=rx
 obtain rfl:u=Og a:=ry
 exact Js hu I e hk hb fun s' I'=>⟨.bl _,H,I',rfl,q⟩
theorem Ax {X:Cx}(hu:X.A.units+1<PR):OpR X (Pe .NotIn) (sY X.K true):=by
 intro XB s σ H x y v u Q I rx ry h
 obtain ⟨a,b,ps,k,rfl,rfl,e,hk,hb,q⟩:=h
 obtain rfl:v=Og b:=rx
 obtain rfl:u=Og a:=ry
 exact Jt hu I e hk hb fun s' I'=>⟨.bl _,H,I',rfl,q⟩
theorem pE {K:NO}{neg:Bool}:cO K (nD neg) (sY K neg):=by
 intro π H μ x y d μ' vx vy Q R ix iy hm k
 unfold nD at hm
 split at hm
 ·split at hm
  ·rename_i kvs hc
   obtain ⟨kk,h1,hm⟩:=NU.mp hm
   cases hm
   cases iy
   obtain ⟨ps,e1,T⟩:=dQ R hc
   obtain ⟨b,rfl,hb⟩:=iX ix h1
   have e:(cQ ps kk).isSome=(bF kvs kk).isSome:=by
    rcases T.val kk with ⟨h1,h2⟩|⟨v,d,h1,h2,_⟩<;>rw [h1,h2]<;>rfl
   refine ⟨_,b,ps,kk,rfl,rfl,.of e1,T.keys,hb,?_⟩
   rw [e]
   exact k π _ H .refl R (.bl _)
  ·rename_i kvs hc
   obtain ⟨kk,h1,hm⟩:=NU.mp hm
   cases hm
   cases iy
   obtain ⟨ob,ps,e1,T⟩:=pD R hc
   obtain ⟨b,rfl,hb⟩:=iX ix h1
   have e:(cQ ps kk).isSome=(bF kvs kk).isSome:=by
    rcases T.val kk with ⟨h1,h2⟩|⟨v,d,h1,h2,_⟩<;>rw [h1,h2]<;>rfl
   refine ⟨_,b,ps,kk,rfl,rfl,.inr ⟨ob,e1⟩,T.keys,hb,?_⟩
   rw [e]
   exact k π _ H .refl R (.bl _)
  ·cases hm
 ·cases hm
section
variable {X:Cx}{a b:N2}{ma mb:ME}{pos:Py}
end
end L3
namespace L3
open PySem L2
noncomputable def RawD (h:O3)(d:Addr)(es:Array Pg)(ep:Nat):Prop:=∃ z,h.get? d=some z/\z.ExactDict/\z.data=.dict es ep
theorem RawD.ty {s:NV}{d:Addr} {es ep} (g:RawD s.heap d es ep):s.TypeIs (.ref d) "dict":=let ⟨z,g1,g2,_⟩:=g;⟨z,g1,g2.1⟩
theorem RawD.stay {h h':O3}{d:Addr} {es ep} (g:RawD h d es ep)(k:∀ o,h.get? d=some o->h'.get? d=some o):RawD h' d es ep:=let ⟨z,g1,g2⟩:=g;⟨z,k z g1,g2⟩
theorem RawD.lt {h:O3}{d:Addr} {es ep} (g:RawD h d es ep):d<h.objs.size:=let ⟨_,g1,_⟩:=g;N7 g1
section
variable {P:Oo}{w:OO}{A:OG}{E:NT->NV->Prop}{s:NV}{d it:Addr}{i ep:Nat}{es:Array Pg}
theorem Ay {Q:NT->NV->Prop}(lo:(d == OY)=false)(g:RawD s.heap d es ep)
  (q:Q (.ref s.heap.objs.size) { s with heap:=s.heap.push { cls:=.type "dict_keyiterator",data:=.fields #[.ref d,.int 0 0,.int es.size 0,.int ep 0] } }):Oi (Ot P w) A (Vg (.ref d)) Q E s:=by
 obtain ⟨z,g1,g2,g3⟩:=id g
 refine wpAny_pyIter_slot g.ty F.slot_dict_iter (Ql F.slot_dict_iter g.ty F.entry_dict_iter ?_ (F.args_dict_iter_1 _))
 unfold Builtin.«dict.__iter__» Xn
 refine NQ (NQ (PB g.ty ?_))
 show Oi _ _ (pure (Og d)) _ _ _
 refine N1 ?_
 show Oi _ _ (QZ d >>= _) _ _ _
 unfold QZ
 rw [if_neg (fun x=>OI (lo.symm.trans x))]
 refine NQ (N1 (NQ (OV g1 g3 (NQ (Sk g1 g3 (NQ (RU (N1 ?_))))))))
 exact ⟨_,rfl,"dict_keyiterator",_,⟨_,Of _ rfl,rfl⟩,F.slot_dict_keyiterator_next.lookup,by simpa [Sh] using q⟩
theorem pF {Q:Option NT->NV->Prop}(hh:A.handled=none)(j:s.heap.IsKeyIter it d i es.size ep)(g:RawD s.heap d es ep)
  (q1:∀ e h',es[i]? = some e->h'.IsKeyIter it d (i+1) es.size ep->Qk it s.heap h'->Q (some e.key) { s with heap:=h' })
  (q2:es[i]? = none->∀ h',UP it s.heap h'->Q none { s with heap:=h' }):Oi (Ot P w) A (Vf (.ref it)) Q E s:=by
 obtain ⟨y,j1,j2,j3⟩:=id j
 obtain ⟨z,g1,g2,g3⟩:=id g
 have nm:∀ {Q:String->NV->Prop}{A:OG}{E:NT->NV->Prop},Q "dict_keyiterator" s->Oi (Ot P w) A (typeNameOfWhole (.ref it)) Q E s:=fun q=>wpAny_typeNameOfWhole_keyiter j.typeIs q
 unfold Vf
 refine NQ (wpAny_attempt (wpAny_callSpecial?_slot (name:=SR "__next__") j.typeIs F.slot_dict_keyiterator_next (Ql F.slot_dict_keyiterator_next j.typeIs F.entry_dict_keyiterator_next ?_ (F.args_dict_keyiterator_next_1 _))))
 refine NQ (N1 (NQ (NQ (NQ (nm (N1 (NQ (wpAny_fieldsOf j1 j3 ?_))))))))
 simp only [show VQ "dict_keyiterator" = false by decide,Ob,if_false]
 show Oi _ _ (if (Og d == O9)=true then _ else _) _ _ _
 rw [if_neg (show ¬ (Og d == O9)=true from fun x=>OI x)]
 refine NQ (N1 (NQ (OV g1 g3 ?_)))
 rw [if_neg (fun x=>by simp at x)]
 refine NQ (N1 (NQ (Sk g1 g3 ?_)))
 rw [if_neg (fun x=>by simp at x)]
 refine N1 ?_
 simp only [if_neg (show ¬ ((i:Int)<0) by omega),Int.toNat_natCast]
 cases he:es[i]? with
 | some e=>
  refine NQ (NQ (nm (N1 (NQ (VE j.typeIs ?_)))))
  show Oi _ _ (setField (.ref it) 1 (Sh ((i:Int)+1)) >>= _) _ _ _
  refine NQ (Xp j1 j3 (by simp) ?_)
  have j':(s.heap.update it (Wy (·.setIfInBounds 1 (Sh ((i:Int)+1))))).IsKeyIter it d (i+1) es.size ep:=
   ⟨_,Px _ j1 (Obj.isFreed_of_fields (Vx j3 _)),(Obj.cls_mapFields ..).trans j2,by simp [Vx j3,Sh]⟩
  generalize hu:s.heap.update it (Wy (·.setIfInBounds 1 (Sh ((i:Int)+1))))=u at j'
  refine NQ (O4 (NQ (VE (s:={ s with heap:=u }) j'.typeIs ?_)))
  show Oi _ _ (pure e.key) _ _ _
  exact N1 (N1 ⟨_,rfl,N1 (q1 e u he j' (hu ▸ Pa ..))⟩)
 | none=>
  refine NQ (NQ (nm (N1 ?_)))
  show Oi _ _ (setField (.ref it) 0 .none >>= _) _ _ _
  refine NQ (Xp j1 j3 (by simp) ?_)
  show Oi _ _ (newExc (.type "StopIteration") [] >>= _) _ _ _
  simp only [newExc,newTuple]
  refine NQ (NQ (RU ?_ (by size_fits)))
  refine NQ (m:=Xv _ _) (wpAny_of_eq (a:=O9) (by first|rfl|(simp only [Xv];rfl)) (RU ?_ (by size_fits)))
  simp only [raiseNew]
  refine NQ (wpAny_handled ?_)
  rw [show A.in1.handled=none from hh]
  refine NQ (N1 (wpAny_throw ?thrown))
  case thrown=>exact NQ (Rw (T:="StopIteration") (b:=true) ⟨_,Of _ rfl,rfl⟩ isSubtype_stop (N1 (q2 he _ (((Pa ..).extBut.push _).push _))))
theorem JG (hh:A.handled=none)(hne:d≠it)(es:Array Pg)(ep:Nat):Walks P w A it [it,d] [it] es.size (fun i v=>∃ e,es[i]? = some e/\v=e.key) (fun i h=>h.IsKeyIter it d i es.size ep/\RawD h d es ep) where
 sub:=fun b hb=>by rw [OC.mp hb];exact Om ..
 frame:=fun _ _ _ st k=>⟨st.1.at fun o e=>k it (by simp) o e,st.2.stay fun o e=>k d (by simp) o e⟩
 item:=fun i s Q E hi st q=>pF hh st.1 st.2 (fun e h' he j' sb=>q _ h' s.toks ⟨e,he,rfl⟩ ⟨j',st.2.stay fun o ho=>sb.extBut d o hne ho⟩ fun b o hb ho=>sb.extBut b o (fun z=>hb (by simp [z])) ho) (fun he=>by simp at he;omega)
 done:=fun s Q E st q=>pF hh st.1 st.2 (fun e h' he=>by simp at he) (fun _ h' x=>q h' s.toks fun b o hb ho=>x b o (fun z=>hb (by simp [z])) ho)
 self:=fun _ _ _ _ st q=>VR st.1 q
theorem Az (lo:(d == OY)=false):PySem.W.KdlSrc P w "dict" d d es.size (fun i v=>∃ e,es[i]? = some e/\v=e.key) (fun h=>RawD h d es ep) where
 type:=fun _ g=>g.ty
 there:=fun _ g=>⟨g.lt,g.lt⟩
 keep:=fun _ _ g k=>g.stay fun o e=>k d (.inl rfl) o e
 notList:=by decide
 notTuple:=by decide
 hint:=fun _ _ _ _ g q=>PySem.W.kdl_hint_dict g.ty q
 iter:=fun _ _ hh g=>⟨_,_,(fun _ _ q=>Ay lo g q),JG hh (Oh g.lt) es ep,⟨⟨_,Of _ rfl,rfl,rfl⟩,g.stay fun o e=>NW _ e⟩⟩
theorem JH (lo:(d == OY)=false):Wz P w (Builtin.«dict.__len__» ⟨[.ref d],[]⟩) (fun _ R s=>∃ es ep,RawD s.heap d es ep/\R (.ok (.ret (.int (es.size:Nat) s.toks))) { s with toks:=s.toks+1 }):=
 .of_wp fun A R s ⟨es,ep,⟨z,g1,g2,g3⟩,q⟩=>by
  show Oi _ _ (dictSize d >>= _) _ _ _
  unfold dictSize
  refine NQ (NQ (OV g1 g3 (N1 ?_)))
  show Oi _ _ (Xj d >>= _) _ _ _
  refine NQ (wpAny_pendingCount_other lo (wpAny_ret_mkInt ?_))
  rw [WM];exact q
theorem JI {Q:NT->NV->Prop}(lo:(d == OY)=false)(g:RawD s.heap d es ep)(hz:es.size<=N4)(q:Q (.int (es.size:Nat) (s.toks+1)) { s with toks:=s.toks+1+1 }):Oi (Ot P w) A (call (.builtin "len") [.ref d]) Q E s:=
 W7 g.ty F.slot_dict_len (fun Q' q'=>Sj F.slot_dict_len g.ty F.entry_dict_len (F.args_dict_len_1 _) (JH lo) ⟨es,ep,g,q'⟩) (by omega) (by rw [Ox] at hz;omega) q
end
theorem sZ:∀ {ps:bN}{ws:List NT},Vals (ps.map (·.2.2)) ws->(a8 ps ws).map (fun x=>Og x.2.1)=ps.map fun p=>Og p.2.1
 | [],_,_=>by simp [a8]
 | p::ps,_,.cons r t=>by
  have ih:=sZ (ps:=ps) t
  unfold a8 at ih ⊢
  rw [Oq,N0,N0,ih]
theorem AA:∀ ps:bN,Vals (ps.map fun p=>V.ref p.2.1) (ps.map fun p=>Og p.2.1)
 | []=>.nil
 | p::ps=>.cons rfl (AA ps)
section
variable {X:Cx}{XB:List (Addr×Pu)}{σ:St}{H:Hp}{s:NV}{a:Addr}{ps:bN}
theorem kI (I:Inv X XB σ H s)(e:H a=some (aP a ps))(hk:cU X.K H ps):(a == OY)=false/\ps.length<=N4/\∃ es ep,RawD s.heap a es ep/\es.toList.map (·.key)=ps.map fun p=>Og p.2.1:=by
 obtain ⟨lo,hl,ws,r,z,es,ep,h1,h2,h3,h4,_⟩:=fU I (.of e) hk
 refine ⟨lo,hl,es,ep,⟨z,h1,h2,h3⟩,?_⟩
 rw [h4,N6,<- sZ r]
 rfl
noncomputable def AB (K:NO):List V->Hp->VK->Prop:=fun xs H Q=>∃ a ps,xs=[V.ref a]/\H a=some (aP a ps)/\cU K H ps/\Q (.int ps.length) H
theorem JJ:CallR X (.builtin "len") (AB X.K):=by
 intro XB s σ H xs us Q I r h
 obtain ⟨a,ps,rfl,ha,hk,q⟩:=h
 obtain ⟨u,rfl,ru⟩:=e6 r
 cases ru
 obtain ⟨lo,hl,es,ep,g,he⟩:=kI I ha hk
 have hs:es.size=ps.length:=by
  have:=congrArg OJ he
  simpa using this
 refine JI lo g (by omega) ?_
 rw [hs]
 exact ⟨.int ps.length,H,(I.tok _).tok _,⟨_,rfl⟩,q⟩
noncomputable def AD (K:NO):List V->Hp->VK->Prop:=fun xs H Q=>∃ a ps,xs=[V.ref a]/\H a=some (aP a ps)/\cU K H ps/\∀ l,H l=none->Q (.ref l) (aI H l (.lst (ps.map fun p=>V.ref p.2.1)))
theorem JK (hc:X.calm=true):CallR X (.type "list") (AD X.K):=by
 intro XB s σ H xs us Q I r h
 obtain ⟨a,ps,rfl,ha,hk,q⟩:=h
 obtain ⟨u,rfl,ru⟩:=e6 r
 cases ru
 obtain ⟨lo,hl,es,ep,g,he⟩:=kI I ha hk
 have hs:es.size=ps.length:=by
  have:=congrArg OJ he
  simpa using this
 refine PySem.W.kdl_call (Az lo) (I.ok.hd hc) g (by omega) fun h' tk acc' c' kp hS hacc=>?_
 refine ⟨.ref s.heap.objs.size,_,I.laid (t':=tk) (a:=s.heap.objs.size) (o:=.lst (ps.map fun p=>V.ref p.2.1)) kp (N3 _) ?_,rfl,q _ (I.hok.fresh (N3 _))⟩
 refine ⟨by rw [NP];exact hl,acc'.toList,c',?_,by simpa using hS⟩
 have e2:acc'.toList=ps.map fun p=>Og p.2.1:=by
  rw [<- he]
  refine Rf fun i=>?_
  rw [Ol,Pw,Pw]
  cases hv:acc'[i]? with
  | some v=>
   obtain ⟨e,h1,h2⟩:=hacc.2 i v hv
   rw [h1,h2];rfl
  | none=>
   have:acc'.size<=i:=by simpa using hv
   rw [Ue (by rw [<- hacc.1];exact this)];rfl
 rw [e2]
 exact AA ps
end
section
variable {X:Cx}{a b o i e:N2}{ma mb mo mi me:ME}{pos tpos:Py}{k:Nat}
theorem JL (hr:Room k X.A)(ha:QE X a ma)(hb:QE X b mb)(h:lM b=true):QE X (.Subscript a b pos) (aB aH ma mb):=
 mY (JC hr ha hb h) (Hj ha hb h) (iA fun x y μ r hm=>by
  unfold aH at hm
  split at hm
  ·split at hm
   ·rename_i kvs hc
    refine .inl ?_
    simp only [nC,hc]
    exact hm
   ·rename_i kvs hc
    refine .inl ?_
    simp only [nC,hc]
    exact hm
   ·exact .inr hm
  ·exact .inr hm)
noncomputable def l0 (neg:Bool):D->D->Hm->Option (D×Hm):=fun x y μ=>match nD neg x y μ with
 | some r=>some r
 | none=>j4 neg x y μ
theorem pG {neg:Bool}(x y:D)(μ:Hm)(r:D×Hm)(h:l0 neg x y μ=some r):nD neg x y μ=some r\/j4 neg x y μ=some r:=by
 unfold l0 at h
 split at h
 ·rename_i z;rw [z];exact .inl h
 ·exact .inr h
theorem AE {neg:Bool}(x y:D)(μ:Hm)(r:D×Hm)(h:eB neg x y μ=some r):(∃ i j,x=.str i/\y=.str j)\/l0 neg x y μ=some r:=by
 cases y with
 | loc a=>
  refine .inr ?_
  have e:eB neg x (.loc a) μ=(match μ[a]? with
   | some (.dT kvs)=>(cK x).map fun k=>(D.bl (if neg then !(bF kvs k).isSome else (bF kvs k).isSome),μ)
   | some (.dF kvs)=>(cK x).map fun k=>(D.bl (if neg then !(bF kvs k).isSome else (bF kvs k).isSome),μ)
   | _=>j4 neg x (.loc a) μ):=by cases x<;>rfl
  rw [e] at h
  unfold l0
  simp only [nD]
  cases hc:μ[a]? with
  | none=>rw [hc] at h;exact h
  | some c=>
   rw [hc] at h
   cases c with
   | dT kvs=>dsimp only at h ⊢;rw [h]
   | dF kvs=>dsimp only at h ⊢;rw [h]
   | _=>exact h
 | str j=>
  cases x with
  | str i=>exact .inl ⟨i,j,rfl,rfl⟩
  | _=>exact .inr h
 | _=>cases x<;>exact .inr h
theorem AF (x y:D)(μ:Hm)(r:D×Hm)(h:eB false x y μ=some r):rY x y μ=some r\/l0 false x y μ=some r:=by
 rcases AE x y μ r h with ⟨i,j,rfl,rfl⟩|z
 ·exact .inl h
 ·exact .inr z
theorem AG (x y:D)(μ:Hm)(r:D×Hm)(h:eB true x y μ=some r):sF x y μ=some r\/l0 true x y μ=some r:=by
 rcases AE x y μ r h with ⟨i,j,rfl,rfl⟩|z
 ·exact .inl h
 ·exact .inr z
theorem JM (hr:Room k X.A)(ha:QE X a ma)(hb:QE X b mb)(h:eA b=true):QE X (.Compare a [.In] [b] pos) (aB (eB false) ma mb):=
 mY ⟨d7 wO yP ha.h hb.h (fF h)⟩ (mY ⟨d7 (Aw (iR hr)) pE ha.h hb.h (fF h)⟩ ⟨d7 (zJ (o6 hr)) o3 ha.h hb.h (fF h)⟩ (iA pG)) (iA AF)
theorem JN (hr:Room k X.A)(ha:QE X a ma)(hb:QE X b mb)(h:eA b=true):QE X (.Compare a [.NotIn] [b] pos) (aB (eB true) ma mb):=
 mY ⟨d7 xG zL ha.h hb.h (fF h)⟩ (mY ⟨d7 (Ax (iR hr)) pE ha.h hb.h (fF h)⟩ ⟨d7 (zK (o6 hr)) o3 ha.h hb.h (fF h)⟩ (iA pG)) (iA AG)
theorem JO (hr:Room k X.A)(ha:QE X a ma)(hb:QE X b mb)(h:eA b=true):QT X (.Compare a [.In] [b] pos) (bC (aB (eB false) ma mb)):=
 oY ⟨d8 wO yP ha.h hb.h (fF h)⟩ (oY ⟨d8 (Aw (iR hr)) pE ha.h hb.h (fF h)⟩ ⟨d8 (zJ (o6 hr)) o3 ha.h hb.h (fF h)⟩ (oZ (iA pG))) (oZ (iA AF))
theorem JP (hr:Room k X.A)(ha:QE X a ma)(hb:QE X b mb)(h:eA b=true):QT X (.Compare a [.NotIn] [b] pos) (bC (aB (eB true) ma mb)):=
 oY ⟨d8 xG zL ha.h hb.h (fF h)⟩ (oY ⟨d8 (Ax (iR hr)) pE ha.h hb.h (fF h)⟩ ⟨d8 (zK (o6 hr)) o3 ha.h hb.h (fF h)⟩ (oZ (iA pG))) (oZ (iA AG))
theorem JQ (hr:Room k X.A)(ho:QE X o mo)(hi:QE X i mi)(he:QE X e me)(h:hW e=true):QS X (.Assign [.Subscript o i tpos] e pos) (bW mo mi me):=
 IV (JF hr ho hi he h) (IY ho hi he h) (IZ fun x y z μ r hm=>by
  unfold iV at hm
  split at hm
  ·split at hm
   ·exact .inl hm
   ·exact .inr hm
  ·cases hm)
end
end L3
namespace L3
open PySem L2
end L3
namespace L3
open PySem L2
end L3
namespace L3
open PySem L2
noncomputable def ItI (h:O3)(it d S:Addr)(i n ep:Nat):Prop:=∃ (wn ok ov:NT)(fl:Bool),h.get? it=some { cls:=.type "dict_itemiterator",dict:=none,data:=.fields #[wn,.bool fl,.ref d,.int i 0,.int n 0,.int ep 0,ok,ov],slots:=#[] } /\
 (wn=.none\/∃ (a:Addr)(o:Pu),wn=Sh a/\h.get? a=some o/\a≠it/\a≠S)
theorem ItI.ty {s:NV}{it d S:Addr} {i n ep} (j:ItI s.heap it d S i n ep):s.TypeIs (.ref it) "dict_itemiterator":=let ⟨_,_,_,_,e,_⟩:=j;⟨_,e,rfl⟩
section
variable {P:Oo}{w:OO}{A:OG}{E:NT->NV->Prop}{s:NV}{d it S:Addr}{i ep:Nat}{es:Array Pg}
end
structure PrsAt (es:Array Pg)(lo:Addr)(h:O3)(as:List Addr):Prop where
 up:as.Pairwise (·<·)
 over:∀ a∈as,lo<a
 prs:∀ (j:Nat)(a:Addr),as[j]? = some a->∃ e,es[j]? = some e/\h.get? a=some { cls:=.type "tuple",data:=.seq #[e.key,e.val] }
theorem PrsAt.lt {es:Array Pg}{lo:Addr}{h:O3}{as:List Addr}(p:PrsAt es lo h as){a:Addr}(ha:a∈as):a<h.objs.size:=by
 obtain ⟨j,hj⟩:=Uz.mp ha
 obtain ⟨_,_,e⟩:=p.prs j a hj
 exact N7 e
section
variable {P:Oo}{w:OO}{A:OG}{s:NV}{R:Vl->NV->Prop}{es:Array Pg}{ep:Nat}{S I d:Addr}
end
end L3
namespace L3
open PySem L2 PySem.W PyProof.Rows
section
variable {P:Oo}{w:OO}{A:OG}{E:NT->NV->Prop}{s:NV}
noncomputable def tB (P:Oo)(w:OO)(A:OG)(us:List NT)(an:Nat->Nat->Bool)(s:NV):Prop:=
 Oi (Ot P w) A (keyKind' us.toArray) (fun κ s'=>s'=s/\∀ (i j:Nat)(C:Bool->NV->Prop),i<us.length->j<us.length->C (an i j) s->Oi (Ot P w) A (keyLt' κ (us.getD i .none) (us.getD j .none)) C (fun _ _=>False) s) (fun _ _=>False) s
end
end L3
namespace L3
open PySem L2 PySem.W PyProof.Rows
section
variable {P:Oo}{w:OO}{A:OG}{E:NT->NV->Prop}{s:NV}
theorem JR {c:Addr}{us:List NT}{z:Nat}{R:PySem.Fin->NV->Prop}{an:Nat->Nat->Bool}(h2:2<=us.length)(h64:us.length<64)(g:s.heap.get? c=some (Pn "list" us.toArray z)) (H:∀ h3:O3,(∀ b o,b≠c->s.heap.get? b=some o->h3.get? b=some o)->tB P w A us an { s with heap:=h3 })
  (q:R (.done (.ret .none)) { s with heap:=Wf s.heap c us ((cC an us.length).map fun i=>us.getD i O9).toArray }):Oi (Ot P w) A (Builtin.«list.sort» ⟨[.ref c],[]⟩) R E s:=by
 rw [WU]
 refine NQ (listItems_at g rfl (NQ (S2 g rfl ?_ (by rw [N8,Ox];omega) (OW _))))
 obtain ⟨y,g1⟩:∃ y,(s.heap.update c (Pb fun _=>#[])).get? c=some (Pn "list" #[] y):=⟨_,WV g _⟩
 refine NQ (TZ g1 rfl (NQ (Xq (NQ (SY (O4 ?_) (OW _))) (by show us.length<=_;rw [Ox];omega))))
 have g6:(((s.heap.update c (Pb fun _=>#[])).push (Pn "tuple" us.toArray 0)).push (Pn "list" #[] 0)).get? c=some (Pn "list" #[] y):=
  NW _ (NW _ g1)
 have ask:=H (((s.heap.update c (Pb fun _=>#[])).push (Pn "tuple" us.toArray 0)).push (Pn "list" #[] 0)) fun b o hb e=>NW _ (NW _ ((Qj _ _ (OB hb)).trans e))
 show Oi (Ot P w) A _ R E ⟨((s.heap.update c (Pb fun _=>#[])).push (Pn "tuple" us.toArray 0)).push (Pn "list" #[] 0),s.gens,s.drawn,s.toks,s.os⟩
 dsimp only
 have many:¬ us.toArray.size<2:=by rw [N8];omega
 rw [if_neg many,if_neg many]
 refine NQ (OZ ask (fun κ s' hk=>?_) fun _ _ x=>x.elim)
 obtain ⟨rfl,hk⟩:=hk
 refine NQ (OZ (kat_run (ks:=us) (vs:=us) (κ:=κ) (Q:=fun st' s'=>s' = { s with heap:=((s.heap.update c (Pb fun _=>#[])).push (Pn "tuple" us.toArray 0)).push (Pn "list" #[] 0) }/\failedOf st'=none/\(arrOf st').map (·.2)=((cC an us.length).map fun i=>us.getD i O9).toArray)
  (G:=fun p s'=>s' = { s with heap:=((s.heap.update c (Pb fun _=>#[])).push (Pn "tuple" us.toArray 0)).push (Pn "list" #[] 0) }/\p.toList=cC an us.length) rfl h2 h64 (fun p st' s' a1 a2 a3 a4=>⟨a4.1,a3,by rw [kat_snds rfl a2,a4.2]⟩)
  (sI (n:=us.length) (ans:=an) (fun i j C hi hj hC=>hk i j C hi hj hC) (sM (by omega)) ⟨rfl,rfl⟩)) (fun r s' hr=>?_) fun _ _ e=>e)
 obtain ⟨⟨⟩,st'⟩:=r
 obtain ⟨rfl,hf,hout⟩:=hr
 dsimp only at hf hout ⊢
 rw [hout]
 have hsz:((cC an us.length).map fun i=>us.getD i O9).length=us.length:=by
  rw [NP,(lU an (n:=us.length) (by omega)).length_eq,VB]
 refine NQ (TZ g6 rfl (NQ (S2 g6 rfl ?_ (hsz2:=by rw [N8,hsz,Ox];omega))))
 rw [hf]
 simp only [bne_self_eq_false,Ob,if_false]
 exact N1 q
end
end L3
namespace L3
open PySem L2
noncomputable def iF (ps:bN):bN:=(cC (fun i j=>HT.lexLt ((ps.map (·.1)).getD i []) ((ps.map (·.1)).getD j [])) ps.length).map fun i=>ps.getD i ([],0,.non)
theorem sortT_perm {ps:bN}:(iF ps).Perm ps:=by
 unfold iF
 have p:=(j9 (fun i j=>HT.lexLt ((ps.map (·.1)).getD i []) ((ps.map (·.1)).getD j [])) ps.length).map fun i=>ps.getD i ([],0,.non)
 have e:(ON ps.length).map (fun i=>ps.getD i ([],0,.non))=ps:=by
  refine VP (by simp) fun i h1 h2=>?_
  simp [Pj,h2]
 rw [e] at p
 exact p
end L3
namespace L3
open PySem L2
section
variable {P:Oo}{w:OO}
end
noncomputable def eE (kvs:List (List Int×D)):List (List Int×D):=(cC (fun i j=>HT.lexLt ((kvs.map (·.1)).getD i []) ((kvs.map (·.1)).getD j [])) kvs.length).map fun i=>kvs.getD i ([],.non)
theorem JT {α β:Type}{R:α->β->Prop}{as:List α}{bs:List β}(h:RB R as bs)(a0:α)(b0:β):∀ i,i<as.length->R (as.getD i a0) (bs.getD i b0):=by
 induction h with
 | nil=>exact fun i hi=>nomatch hi
 | cons e t ih=>
  intro i hi
  cases i with
  | zero=>exact e
  | succ i=>exact ih i (by simpa using hi)
theorem AH {α β:Type}{R:α->β->Prop}{f:Nat->α}{g:Nat->β}:∀ {l:List Nat},(∀ i∈l,R (f i) (g i))->RB R (l.map f) (l.map g)
 | [],_=>.nil
 | i::l,h=>.cons (h i (Om ..)) (AH fun j hj=>h j (Oc _ hj))
theorem JU {K:NO}{π:Nat->Addr}{n:Nat}{H:Hp}{ps:bN}{kvs:List (List Int×D)}(h:IsTs K π n H ps kvs):ps.length=kvs.length/\IsTs K π n H (iF ps) (eE kvs):=by
 have ek:=h.to.1
 have el:ps.length=kvs.length:=by
  have:=congrArg OJ ek
  simpa using this
 refine ⟨el,?_⟩
 unfold iF eE
 rw [ek,el]
 refine AH fun i hi=>JT h _ _ i ?_
 have:=PH.mp ((j9 _ kvs.length).mem_iff.mp hi)
 omega
end L3
namespace L3
open PySem L2
section
variable {X:Cx}{XB pins0:List (Addr×Pu)}{σ σ0:St}{H H0:Hp}{s s0:NV}{a:Addr}{ps ps0:bN}{ob:Pu}
theorem Inv.freeze (I:Inv X XB σ H s)(e:H a=some (aP a ps))(ho:s.heap.get? a=some ob):Inv X XB σ (aI H a (.frz ob (aP a ps))) s:=by
 have ok:ObjOk X.prog X.w H s.heap a (aP a ps):=I.hok a _ e
 exact I.write (x:=a) (e:=a) (h':=s.heap) (t':=s.toks) (by rw [e];exact PX) (.inl rfl) (fun b q _ z=>z) ⟨ob,ho⟩ ⟨ho,ok⟩
theorem Inv.thaw (I0:Inv X pins0 σ0 H0 s0)(e0:H0 a=some (aP a ps0))(I:Inv X XB σ H s)(e:H a=some (.frz ob (aP a ps))):Inv X XB σ (aI H a (aP a ps)) s:=by
 have ne:∀ {b:Addr},H b=none->b≠a:=fun {b} h z=>by rw [z,e] at h;cases h
 refine ⟨I.ok,I.os,I.bare,⟨I.base.keep,I.base.slot,fun b o h1 h2 h3=>?_,I.base.there,fun b xs h=>?_,fun b o u h=>?_,fun b qs h=>?_⟩,I.loc,I.cell,?_,fun x c h=>?_,fun p hp=>?_,fun b u q=>?_,I.len⟩
 ·have:=I.base.free b o h1 h2 h3
  rw [bH (ne this)];exact this
 ·have:=I.base.tups b xs h
  rw [bH fun z=>by rw [z,e] at this;cases this];exact this
 ·have:=I.base.frzs b o u h
  rw [bH fun z=>by
   have z0:=I0.base.frzs b o u h
   rw [z,e0] at z0;cases z0]
  exact this
 ·obtain ⟨more,h1⟩:=I.base.tbls b qs h
  exact ⟨more,by rw [bH fun z=>by rw [z,e] at h1;cases h1];exact h1⟩
 ·rw [bH (ne I.free)];exact I.free
 ·have:=I.freeC x c h
  rw [bH (ne this)];exact this
 ·obtain ⟨h1,h2,h3⟩:=I.pin p hp
  exact ⟨h1,by rw [bH (ne h2)];exact h2,h3⟩
 ·by_cases hb:b=a
  ·subst hb
   rw [cY] at q
   cases q
   exact (show ObjOk X.prog X.w H s.heap b (.frz ob (aP b ps)) from I.hok b _ e).2
  ·rw [bH hb] at q
   exact (I.hok b u q).stay (fun _ _ _ z=>z) (fun c h=>by rw [bH fun z=>by rw [z,e] at h;cases h];exact h) fun c xs h=>by rw [bH fun z=>by rw [z,e] at h;cases h];exact h
end
noncomputable def iY (i:Nat)(ρ:aF)(μ:Hm):Option (Nat×List (List Int×D)):=match ρ[i]? with
 | some (some (.loc a))=>match μ[a]? with
  | some (.dT kvs)=>some (a,kvs)
  | _=>none
 | _=>none
theorem AI {i:Nat}{ρ:aF}{μ:Hm}{a:Nat}{kvs:List (List Int×D)}(h:iY i ρ μ=some (a,kvs)):μ[a]? = some (.dT kvs):=by
 unfold iY at h
 split at h
 ·split at h
  ·rename_i hc
   cases h
   exact hc
  ·cases h
 ·cases h
noncomputable def kJ (i:Nat)(m1 m2:ME):ME:=fun ρ μ=>match iY i ρ μ with
 | some (a,kvs)=>(m1 ρ (μ.set a (.dF kvs))).bind fun r=>match r.2[a]? with
  | some (.dF kvs')=>some (r.1,r.2.set a (.dT kvs'))
  | _=>none
 | none=>m2 ρ μ
noncomputable def dB (i:Nat)(m1 m2:MS):MS:=fun ρ μ=>match iY i ρ μ with
 | some (a,kvs)=>(m1 ρ (μ.set a (.dF kvs))).bind fun r=>match r.2.2[a]? with
  | some (.dF kvs')=>some (r.1,r.2.1,r.2.2.set a (.dT kvs'))
  | _=>none
 | none=>m2 ρ μ
section
variable {X:Cx}{XB:List (Addr×Pu)}{σ:St}{H:Hp}{s:NV}{π:Nat->Addr}{ρ:aF}{μ:Hm}{a:Nat}{kvs:List (List Int×D)}
theorem AJ (I:Inv X XB σ H s)(R:Rp X.K π H μ)(E:En X.K π μ.length H σ ρ)(hc:μ[a]? = some (.dT kvs)):∃ ob ps,H (π a)=some (aP (π a) ps)/\Inv X XB σ (aI H (π a) (.frz ob (aP (π a) ps))) s /\
  Rp X.K π (aI H (π a) (.frz ob (aP (π a) ps))) (μ.set a (.dF kvs))/\En X.K π (μ.set a (.dF kvs)).length (aI H (π a) (.frz ob (aP (π a) ps))) σ ρ:=by
 obtain ⟨ps,e1,T⟩:=dQ R hc
 obtain ⟨_,⟨ob,ho⟩,_⟩:=(show ObjOk X.prog X.w H s.heap (π a) (aP (π a) ps) from I.hok _ _ e1)
 obtain ⟨e2,R2⟩:=R.put (c:=.dF kvs) (o:=.frz ob (aP (π a) ps)) (NS.mp hc).1 e1 (.inr (.inr ⟨_,rfl⟩)) ⟨ob,ps,rfl,T.to⟩
 exact ⟨ob,ps,e1,Inv.freeze I e1 ho,R2,E.mono e2⟩
theorem nE {pins':List (Addr×Pu)}{σ':St}{H':Hp}{s':NV}{π':Nat->Addr}{μ':Hm}{ob:Pu}{ps:bN}{kvs':List (List Int×D)}(I:Inv X XB σ H s)(e:H (π a)=some (aP (π a) ps))(ha:a<μ.length)
  (I':Inv X pins' σ' H' s')(R':Rp X.K π' H' μ')(e':Ext π (μ.set a (.dF kvs)).length (aI H (π a) (.frz ob (aP (π a) ps))) π' μ'.length H')(hc:μ'[a]? = some (.dF kvs')) :
  ∃ H2,Inv X pins' σ' H2 s'/\Ext π μ.length H π' (μ'.set a (.dT kvs')).length H2/\Rp X.K π' H2 (μ'.set a (.dT kvs'))/\Ext0 π' μ'.length H' π' (μ'.set a (.dT kvs')).length H2:=by
 have hp:π' a=π a:=e'.pi a (by rw [Ou];exact ha)
 obtain ⟨ob',ps',h1,T⟩:=pD R' hc
 obtain ⟨x2,R2⟩:=R'.put0 (c:=.dT kvs') (o:=aP (π' a) ps') (NS.mp hc).1 h1 (.inr (.inr (.inr ⟨_,_,rfl⟩))) ⟨ps',rfl,T.to⟩
 rw [hp] at h1
 refine ⟨aI H' (π' a) (aP (π' a) ps'),?_,⟨?_,fun b hb=>e'.pi b (by rw [Ou];exact hb),fun p vs h=>?_,fun p o u h=>?_⟩,R2,x2⟩
 ·rw [hp]
  exact Inv.thaw I e I' h1
 ·have:=e'.le
  rw [Ou] at this ⊢
  exact this
 ·have n1:p≠π a:=fun z=>by rw [z,e] at h;cases h
  have:=e'.tup p vs (by rw [bH n1];exact h)
  rw [hp,bH n1];exact this
 ·have n1:p≠π a:=fun z=>by rw [z,e] at h;cases h
  have:=e'.frz p o u (by rw [bH n1];exact h)
  rw [hp,bH n1];exact this
theorem En.mono0 {K:NO}{π':Nat->Addr}{n n':Nat}{H':Hp}(E:En K π n H σ ρ)(e:Ext0 π n H π' n' H'):En K π' n' H' σ ρ:=
 ⟨E.len,fun i d h=>let ⟨v,h1,h2⟩:=E.get i d h;⟨v,h1,h2.mono0 e⟩⟩
end
section
variable {X:Cx}{e:N2}{st:Stmt}{i:Nat}
theorem JV {m1 m2:ME}(h1:QE X e m1)(h2:QE X e m2):QE X e (kJ i m1 m2):=⟨by
 intro XB s σ H Q I hw
 obtain ⟨π,ρ,μ,d,μ',R,E,hm,k⟩:=hw
 unfold kJ at hm
 split at hm
 ·rename_i a kvs hv
  obtain ⟨⟨x,μ1⟩,g1,hm⟩:=NN.mp hm
  dsimp only at hm
  split at hm
  ·rename_i kvs' hc'
   cases hm
   have hc:=AI hv
   obtain ⟨ob,ps,e1,I1,R1,E1⟩:=AJ I R E hc
   refine aT (h1.h XB s σ _ (fun v H2=>∃ π2,Ext π (μ.set a (.dF kvs)).length (aI H (π a) (.frz ob (aP (π a) ps))) π2 μ1.length H2/\Rp X.K π2 H2 μ1/\IsD X.K π2 μ1.length H2 v d) I1 ⟨π,ρ,_,d,μ1,R1,E1,g1,fun π2 v H2 e2 R2 i2=>⟨π2,e2,R2,i2⟩⟩) fun u s2 ⟨v,H2,I2,rv,π2,e2,R2,i2⟩=>?_
   obtain ⟨H3,I3,e3,R3,x3⟩:=nE I e1 (NS.mp hc).1 I2 R2 e2 hc'
   exact ⟨v,H3,I3,rv,k π2 v H3 e3 R3 (i2.mono0 x3)⟩
  ·cases hm
 ·exact h2.h XB s σ H Q I ⟨π,ρ,μ,d,μ',R,E,hm,k⟩⟩
theorem AK {m1 m2:MS}(h1:QS X st m1)(h2:QS X st m2):QS X st (dB i m1 m2):=⟨by
 intro XB s σ H D I hw
 obtain ⟨π,ρ,μ,fl,ρ',μ',R,E,hm,k⟩:=hw
 unfold dB at hm
 split at hm
 ·rename_i a kvs hv
  obtain ⟨⟨fl1,ρ1,μ1⟩,g1,hm⟩:=NN.mp hm
  dsimp only at hm
  split at hm
  ·rename_i kvs' hc'
   cases hm
   have hc:=AI hv
   have ha:=(NS.mp hc).1
   obtain ⟨ob,ps,e1,I1,R1,E1⟩:=AJ I R E hc
   refine aT (h1.h XB s σ _ ⟨fun σ2 H2=>fl=.nx/\∃ π2,Ext π (μ.set a (.dF kvs)).length (aI H (π a) (.frz ob (aP (π a) ps))) π2 μ1.length H2/\Rp X.K π2 H2 μ1/\En X.K π2 μ1.length H2 σ2 ρ',
     fun v H2=>∃ d,fl=.rt d/\∃ π2,Ext π (μ.set a (.dF kvs)).length (aI H (π a) (.frz ob (aP (π a) ps))) π2 μ1.length H2/\Rp X.K π2 H2 μ1/\IsD X.K π2 μ1.length H2 v d,
     fun σ2 H2=>fl=.bk/\∃ π2,Ext π (μ.set a (.dF kvs)).length (aI H (π a) (.frz ob (aP (π a) ps))) π2 μ1.length H2/\Rp X.K π2 H2 μ1/\En X.K π2 μ1.length H2 σ2 ρ',
     fun σ2 H2=>fl=.ct/\∃ π2,Ext π (μ.set a (.dF kvs)).length (aI H (π a) (.frz ob (aP (π a) ps))) π2 μ1.length H2/\Rp X.K π2 H2 μ1/\En X.K π2 μ1.length H2 σ2 ρ'⟩ I1 ⟨π,ρ,_,fl,ρ',μ1,R1,E1,g1,?_⟩) fun f s2 q=>?_
   ·cases fl with
    | nx=>exact fun π2 σ2 H2 e2 R2 E2=>⟨rfl,π2,e2,R2,E2⟩
    | bk=>exact fun π2 σ2 H2 e2 R2 E2=>⟨rfl,π2,e2,R2,E2⟩
    | ct=>exact fun π2 σ2 H2 e2 R2 E2=>⟨rfl,π2,e2,R2,E2⟩
    | rt d=>exact fun π2 v H2 e2 R2 i2=>⟨d,rfl,π2,e2,R2,i2⟩
   ·cases f with
    | next=>
     obtain ⟨σ2,H2,I2,rfl,π2,e2,R2,E2⟩:=q
     obtain ⟨H3,I3,e3,R3,x3⟩:=nE I e1 ha I2 R2 e2 hc'
     exact ⟨σ2,H3,I3,k π2 σ2 H3 e3 R3 (En.mono0 E2 x3)⟩
    | brk=>
     obtain ⟨σ2,H2,I2,rfl,π2,e2,R2,E2⟩:=q
     obtain ⟨H3,I3,e3,R3,x3⟩:=nE I e1 ha I2 R2 e2 hc'
     exact ⟨σ2,H3,I3,k π2 σ2 H3 e3 R3 (En.mono0 E2 x3)⟩
    | cont=>
     obtain ⟨σ2,H2,I2,rfl,π2,e2,R2,E2⟩:=q
     obtain ⟨H3,I3,e3,R3,x3⟩:=nE I e1 ha I2 R2 e2 hc'
     exact ⟨σ2,H3,I3,k π2 σ2 H3 e3 R3 (En.mono0 E2 x3)⟩
    | ret u=>
     obtain ⟨v,σ2,H2,I2,rv,d,rfl,π2,e2,R2,i2⟩:=q
     obtain ⟨H3,I3,e3,R3,x3⟩:=nE I e1 ha I2 R2 e2 hc'
     exact ⟨v,σ2,H3,I3,rv,k π2 v H3 e3 R3 (i2.mono0 x3)⟩
  ·cases hm
 ·exact h2.h XB s σ H D I ⟨π,ρ,μ,fl,ρ',μ',R,E,hm,k⟩⟩
end
noncomputable def tD (d:Addr)(ob:Pu)(ps:bN):It:=⟨fun i H=>H d=some (.frz ob (aP d ps))/\i<ps.length,fun i H x H'=>H'=H/\∃ p,ps[i]? = some p/\x=.ref p.2.1,fun i H=>H d=some (.frz ob (aP d ps))/\ps.length<=i⟩
theorem tE {X:Cx}{XB:List (Addr×Pu)}{σ:St}{H:Hp}{s:NV}{d:Addr}{ob:Pu}{ps:bN}(I:Inv X XB σ H s)(e:H d=some (.frz ob (aP d ps))) :
  (d == OY)=false/\ps.length<=N4/\∃ es ep,RawD s.heap d es ep/\ob.data=.dict es ep/\es.toList.map (·.key)=ps.map fun p=>Og p.2.1:=by
 obtain ⟨g0,⟨ws,r,hs,hl,o,es,ep,h1,h2,h3,h4,h5⟩,_⟩:=(show ObjOk X.prog X.w H s.heap d (.frz ob (aP d ps)) from I.hok d _ e)
 rw [g0] at h1
 cases h1
 refine ⟨hs,hl,es,ep,⟨ob,g0,h2,h3⟩,h3,?_⟩
 rw [h4,pC (P:=X.prog) (w:=X.w),N6,<- sZ r]
 rfl
theorem JW {P:Oo}{w:OO}{K:NO}{tg:N2}{d it:Addr}{ob:Pu}{ps:bN}{es:Array Pg}{ep:Nat}(hd:ob.data=.dict es ep):Turn P w K tg (tD d ob ps) [it] it (fun i h=>h.IsKeyIter it d i es.size ep) where
 mem:=by simp
 obj:=fun i h st b hb=>by
  have e:b=it:=by simpa using hb
  subst e
  obtain ⟨o,e,c,d⟩:=st
  exact ⟨o,e,fun v z=>by rw [d] at z;cases z⟩
 keep:=fun i h h' st k=>st.at fun o e=>k it (by simp) o e
 item:=by
  intro X hP hw hK hc i XB s σ H E I hf st hg
  subst hP hw hK
  obtain ⟨hg1,hg2⟩:=hg
  obtain ⟨lo,hl,es',ep',g,hd',he⟩:=tE I hg1
  rw [hd] at hd'
  cases hd'
  have hs:es.size=ps.length:=by
   have:=congrArg OJ he
   simpa using this
  obtain ⟨f0,f1,f2,f3,f4,f5⟩:=hf it (by simp)
  refine pF (I.ok.hd hc) st g (fun e h' he' j' sb=>?_) fun hn=>by simp at hn;omega
  have I1:Inv X XB σ H { s with heap:=h' }:=I.turned (t':=s.toks) (fun b o hb e=>(sb.2 b hb).trans e) f0 f1 f3 f4 f5
  obtain ⟨o,e1,c,d1⟩:=id j'
  have hp:ps[i]? = some ps[i]:=N9 hg2
  have ek:e.key=.ref (ps[i]).2.1:=by
   have:=congrArg (·[i]?) he
   simp only [Ol,Pw,he',hp,Oy] at this
   exact Oj this
  exact ⟨e.key,rfl,n9 (s:={ s with heap:=h' }) e1 c d1 (by decide) ⟨.ref (ps[i]).2.1,H,I1,ek,⟨rfl,ps[i],hp,rfl⟩,j',fun b hb=>(hf b hb).1⟩⟩
 done:=by
  intro X hP hw hK hc i XB s σ H E I hf st hg
  subst hP hw hK
  obtain ⟨hg1,hg2⟩:=hg
  obtain ⟨lo,hl,es',ep',g,hd',he⟩:=tE I hg1
  rw [hd] at hd'
  cases hd'
  have hs:es.size=ps.length:=by
   have:=congrArg OJ he
   simpa using this
  obtain ⟨f0,f1,f2,f3,f4,f5⟩:=hf it (by simp)
  exact pF (I.ok.hd hc) st g (fun e h' he'=>by
   have:=(Array.getElem?_eq_some_iff.mp he').1
   omega) fun _ h' eb=>⟨rfl,I.turned (t':=s.toks) (fun b o hb e=>eb b o hb e) f0 f1 f3 f4 f5⟩
 self:=fun _ _ _ _ _ st h=>VR st h
theorem JX {X:Cx}{l tg:N2}{tl:TE}(hl:PE X l tl):PI X tg l (fun σ H R=>tl σ H fun v H1=>∃ d ob ps,v=.ref d/\H1 d=some (.frz ob (aP d ps))/\R (tD d ob ps) H1):=by
 intro XB s σ H R I h
 refine aT (hl XB s σ H _ I h) fun v s1 ⟨y,H1,I1,r1,q1⟩=>?_
 obtain ⟨d,ob,ps,e,hf,q⟩:=q1
 subst e
 obtain rfl:v=Og d:=r1
 obtain ⟨lo,hl,es,ep,g,hd,he⟩:=tE I1 hf
 refine Ay lo g ⟨s1.heap.objs.size,[s1.heap.objs.size],_,_,H1,rfl,I1.kept (t':=s1.toks) fun b o e=>NW _ e,JW hd,⟨_,Of _ rfl,rfl,rfl⟩,fun b hb=>?_,q⟩
 have e:b=s1.heap.objs.size:=by simpa using hb
 subst e
 exact I1.fpOk (N3 _) (I1.hok.fresh (N3 _))
noncomputable def cD (kvs:List (List Int×D)):List D:=kvs.map fun k=>D.tup (k.1.map D.int)
theorem JY {K:NO}{π:Nat->Addr}{n:Nat}{H:Hp}{d:Addr}{ob:Pu}{ps:bN}{kvs:List (List Int×D)}(e0:H d=some (.frz ob (aP d ps)))(T:IsTs K π n H ps kvs):Wk K (tD d ob ps) (eP (.tup (cD kvs))) π n H:=by
 have el:ps.length=kvs.length:=by
  have:=congrArg OJ T.to.1
  simpa using this
 refine ⟨fun π' μ H' i e R z=>?_,fun π' μ H' i dd e R z=>?_⟩
 ·have z':(cD kvs)[i]? = none:=Oj z
  have:=Pc.mp z'
  rw [cD,NP] at this
  exact ⟨e.frz _ _ _ e0,by omega⟩
 ·have z':(cD kvs)[i]? = some dd:=Oj z
  have hi:i<kvs.length:=by
   have:=(NS.mp z').1
   rwa [cD,NP] at this
  refine ⟨⟨e.frz _ _ _ e0,by omega⟩,fun v H2 ⟨e1,p,e2,e3⟩=>?_⟩
  subst e1 e3
  obtain ⟨v',h1,h2⟩:=(T.to.2.1.mono e).get z'
  rw [Ol,e2] at h1
  cases h1
  exact ⟨.refl,R,h2⟩
noncomputable def cT (m:ME):MI:=fun ρ μ=>(m ρ μ).bind fun p=>match p.1 with
 | .loc a=>match p.2[a]? with
  | some (.dF kvs)=>some (eP (.tup (cD kvs)),kvs.length+1,p.2)
  | _=>none
 | _=>none
theorem tF {X:Cx}{e:N2}{m:ME}(h:QE X e m):QJ X e (cT m):=⟨fun tg XB s σ H R I hw=>by
 obtain ⟨π,ρ,μ,src,n,μ',Rr,E,hm,k⟩:=hw
 obtain ⟨⟨x,μ1⟩,h1,hm⟩:=NN.mp hm
 dsimp only at hm
 split at hm
 ·split at hm
  ·rename_i kvs hc
   cases hm
   refine JX h.h XB s σ H R I ⟨π,ρ,μ,_,_,Rr,E,h1,fun π1 v1 H1 e1 R1 i1=>?_⟩
   cases i1
   obtain ⟨ob,ps,f1,T⟩:=pD R1 hc
   exact ⟨_,ob,ps,rfl,f1,k π1 H1 _ e1 R1 (JY f1 T)⟩
  ·cases hm
 ·cases hm⟩
end L3
namespace L3
open PySem L2 PySem.W PyProof.Rows
section
variable {P:Oo}{w:OO}{A:OG}{E:NT->NV->Prop}{s:NV}
noncomputable def AL (h:O3)(b:Addr)(k:List Int):Prop:=∃ xs:List NT,Xz h b xs.toArray/\RK xs k
theorem JZ {bs:List Addr}{ks:List (List Int)}(h0:0<bs.length)(hl:ks.length=bs.length)(key:∀ (j:Nat)(b:Addr),bs[j]? = some b->AL s.heap b (ks.getD j [])/\ks.getD j []≠[]):tB P w A (bs.map Og) (fun i j=>HT.lexLt (ks.getD i []) (ks.getD j [])) s:=by
 have tups:∃ fs:List NT,fs.length=bs.length/\KatTups s.heap (bs.map Og) fs/\∀ v∈fs,∃ i t,v=Rh i t:=by
  clear h0
  induction bs generalizing ks with
  | nil=>exact ⟨[],rfl,.nil,fun v hv=>nomatch hv⟩
  | cons b bs ih=>
   match ks,hl with
   | k::ks,hl=>
    obtain ⟨fs,g0,g1,g2⟩:=ih (ks:=ks) (by simpa using hl) fun j c hc=>by simpa using key (j+1) c (by simpa using hc)
    obtain ⟨⟨xs,⟨o,e,c,n,d⟩,hi⟩,hne⟩:=key 0 b rfl
    simp only [List.getD_cons_zero] at hi hne
    cases hi with
    | nil=>exact absurd rfl hne
    | @cons i tk xs' ns' hi'=>
     refine ⟨Rh i tk::fs,by simp [g0],.cons e c d (by simp) g1,fun v hv=>?_⟩
     rcases Ov.mp hv with rfl|hv
     ·exact ⟨i,tk,rfl⟩
     ·exact g2 v hv
 obtain ⟨fs,g0,g1,g2⟩:=tups
 unfold tB
 refine kat_kind (T:=.type "int") g1 ?_ (fun v hv=>?_) rfl ⟨rfl,fun i j C hi hj hC=>?_⟩
 ·omega
 ·obtain ⟨i,t,rfl⟩:=g2 v hv
  exact .now
 ·rw [NP] at hi hj
  obtain ⟨⟨xa,⟨oa,ea,ca,na,da⟩,ia⟩,_⟩:=key i bs[i] (N9 hi)
  obtain ⟨⟨xb,⟨ob,eb,cb,nb,db⟩,ib⟩,_⟩:=key j bs[j] (N9 hj)
  have ga:(bs.map Og).getD i .none=.ref bs[i]:=by simp [Pj,hi]
  have gb:(bs.map Og).getD j .none=.ref bs[j]:=by simp [Pj,hj]
  rw [ga,gb]
  exact kat_lt ea da eb db (sN 0 ia ib hC)
theorem J0 {d:Addr}{es:Array Pg}{ep:Nat}{Q:NT->NV->Prop}{bs:List Addr}{ks:List (List Int)}(hh:A.handled=none)(lo:(d == OY)=false)(g:RawD s.heap d es ep)(eb:es.toList.map (·.key)=bs.map Og)(h64:es.size<64)(hl:ks.length=bs.length)
  (key:∀ (j:Nat)(b:Addr),bs[j]? = some b->AL s.heap b (ks.getD j [])/\ks.getD j []≠[])
  (q:∀ (h' h3:O3)(tk:Nat)(e:Nat),(∀ b o,s.heap.get? b=some o->h'.get? b=some o)->(∀ b o,h'.get? b=some o->h3.get? b=some o)->h3.get? h'.objs.size=some (Pn "list" ((cC (fun i j=>HT.lexLt (ks.getD i []) (ks.getD j [])) es.size).map fun i=>Og (bs.getD i 0)).toArray e)->Q (.ref h'.objs.size) { s with heap:=h3,toks:=tk }) :
  Oi (Ot P w) A (call (.builtin "sorted") [.ref d]) Q E s:=by
 have hbl:bs.length=es.size:=by
  have:=congrArg OJ eb
  simpa using this.symm
 refine TN kind_sorted plain_sorted entry_sorted (args_sorted1 _) ?_
 unfold UD
 refine NQ (m:=checkCount "sorted" 1 1 _) (N1 (NQ (kdu_collect (A:=A.in1) (Az lo) hh g (by rw [Ox];omega) fun h' tk acc kp hacc=>?_)))
 have ea:acc.toList=bs.map Og:=by
  rw [<- eb]
  refine Rf fun i=>?_
  rw [Ol,Pw,Pw]
  cases hv:acc[i]? with
  | some v=>
   obtain ⟨e,z1,z2⟩:=hacc.2 i v hv
   rw [z1,z2];rfl
  | none=>
   have:acc.size<=i:=by simpa using hv
   rw [Ue (by rw [<- hacc.1];exact this)];rfl
 rw [ea]
 have ul:(bs.map Og).length=es.size:=by rw [NP,hbl]
 refine NQ (SY ?_ (by rw [ul,Ox];omega))
 have gL:(h'.push (Pn "list" (bs.map Og).toArray 0)).get? h'.objs.size=some (Pn "list" (bs.map Og).toArray 0):=Of _ rfl
 have aS:∀ out:List NT,out=((cC (fun i j=>HT.lexLt (ks.getD i []) (ks.getD j [])) es.size).map fun i=>Og (bs.getD i 0))->Q (.ref h'.objs.size) { s with heap:=Wf (h'.push (Pn "list" (bs.map Og).toArray 0)) h'.objs.size (bs.map Og) out.toArray,toks:=tk }:=by
  rintro out rfl
  obtain ⟨e,he⟩:=sortedHeap_at (h:=h'.push (Pn "list" (bs.map Og).toArray 0)) (out:=((cC (fun i j=>HT.lexLt (ks.getD i []) (ks.getD j [])) es.size).map fun i=>Og (bs.getD i 0)).toArray) gL
  refine q h' _ tk e kp (fun b o x=>?_) he
  rw [sortedHeap_old (Oh (N7 x)) (by rw [TL];exact Nat.lt_succ_of_lt (N7 x))]
  exact NW _ x
 by_cases h2:2<=es.size
 ·refine NQ (O4 (Ql Uo (s:={ s with heap:=h'.push (Pn "list" (bs.map Og).toArray 0),toks:=tk }) ⟨_,gL,rfl⟩ T9 (JR (an:=fun i j=>HT.lexLt (ks.getD i []) (ks.getD j [])) (by omega) (by omega) gL (fun h3 k3=>?_) ⟨_,rfl,?_⟩) (Ut _)))
  ·refine JZ (by omega) hl fun j b hj=>?_
   obtain ⟨⟨xs,⟨o,o1,o2⟩,hi⟩,hne⟩:=key j b hj
   have o1':=kp _ _ o1
   exact ⟨⟨xs,⟨o,k3 b o (Oh (N7 o1')) (NW _ o1'),o2⟩,hi⟩,hne⟩
  ·refine N1 ⟨_,rfl,aS _ ?_⟩
   rw [ul]
   refine Oe fun i hi=>?_
   have hi:i<bs.length:=by
    have:=PH.mp ((lU _ (n:=es.size) (by omega)).mem_iff.mp hi)
    omega
   simp [Pj,hi]
 ·refine NQ (O4 (Ql Uo (s:={ s with heap:=h'.push (Pn "list" (bs.map Og).toArray 0),toks:=tk }) ⟨_,gL,rfl⟩ T9 (zZ (by omega) gL ⟨_,rfl,?_⟩) (Ut _)))
  refine N1 ⟨_,rfl,aS (bs.map Og) ?_⟩
  match bs,hbl with
  | [],e=>rw [<- e];show []=(cC _ 0).map _;rw [z5];rfl
  | [b],e=>rw [<- e];show [Og b]=(cC _ 1).map _;rw [z4];rfl
  | _::_::_,e=>rw [<- e] at h2;simp at h2
end
end L3
namespace L3
open PySem L2
noncomputable def AM (K:NO):List V->Hp->VK->Prop:=fun xs H Q=>∃ a ps,xs=[V.ref a]/\H a=some (aP a ps)/\cU K H ps/\ps.length<64/\(∀ p∈ps,p.1≠[])/\∀ l,H l=none->Q (.ref l) (aI H l (.lst ((iF ps).map fun p=>V.ref p.2.1)))
section
variable {X:Cx}
theorem J4 (hc:X.calm=true):CallR X (.builtin "sorted") (AM X.K):=by
 intro XB s σ H xs us Q I r h
 obtain ⟨a,ps,rfl,ha,hk,h64,hne,q⟩:=h
 obtain ⟨u,rfl,ru⟩:=e6 r
 cases ru
 obtain ⟨lo,hl,es,ep,g,he⟩:=kI I ha hk
 have hs:es.size=ps.length:=by
  have:=congrArg OJ he
  simpa using this
 have gd:∀ {j:Nat}{b:Addr},(ps.map (·.2.1))[j]? = some b->∃ p∈ps,ps[j]? = some p/\p.2.1=b:=fun {j b} hj=>by
  rw [Ol] at hj
  obtain ⟨p,g1,g2⟩:=NU.mp hj
  exact ⟨p,OX g1,g1,g2⟩
 refine J0 (bs:=ps.map (·.2.1)) (ks:=ps.map (·.1)) (I.ok.hd hc) lo g (by rw [he,N6];rfl) (by omega) (by simp) (fun j b hj=>?_) fun h' h3 tk e k1 k2 k3=>?_
 ·obtain ⟨p,hp,g1,rfl⟩:=gd hj
  have e0:(ps.map (·.1)).getD j []=p.1:=by simp [Pj,g1]
  rw [e0]
  obtain ⟨its,rx,t,_⟩:=I.tuple (hk p hp)
  exact ⟨⟨its,t,qU rx⟩,hne p hp⟩
 ·have I1:Inv X XB σ H { s with heap:=h',toks:=tk }:=I.kept (t':=tk) k1
  refine ⟨.ref h'.objs.size,_,I1.laid (t':=tk) (h':=h3) (a:=h'.objs.size) (o:=.lst ((iF ps).map fun p=>V.ref p.2.1)) k2 (N3 _) ?_,rfl,q _ (I1.hok.fresh (N3 _))⟩
  have hln:(iF ps).length=ps.length:=sortT_perm.length_eq
  refine ⟨by rw [NP,hln];exact hl,_,e,?_,k3⟩
  unfold iF
  rw [hs,N6]
  have:∀ l:List Nat,(∀ i∈l,i<ps.length)->Vals (l.map ((fun p:List Int×Addr×V=>V.ref p.2.1) ∘ fun i=>ps.getD i ([],0,.non))) (l.map fun i=>Og ((ps.map (·.2.1)).getD i 0)):=fun l hl=>by
   induction l with
   | nil=>exact .nil
   | cons i l ih=>
    refine .cons ?_ (ih fun j hj=>hl j (Oc _ hj))
    have hi:=hl i (Om ..)
    show Og _=Og _
    simp [Pj,hi]
  exact this _ fun i hi=>PH.mp ((j9 _ ps.length).mem_iff.mp hi)
end
noncomputable def l6 (μ:Hm):D->Bool
 | .loc a=>match μ[a]? with|some (.dT _)=>true|_=>false
 | _=>false
noncomputable def fJ (f:D->List D->Hm->Option (D×Hm))(mo:ME)(ms:MA):ME:=fun ρ μ=>(mo ρ μ).bind fun p=>match l6 p.2 p.1 with
 | true=>(ms ρ p.2).bind fun q=>f p.1 q.1 q.2
 | false=>none
noncomputable def nF (K:NO)(x:V)(H:Hp):Prop:=∃ a ps,x=.ref a/\H a=some (aP a ps)/\cU K H ps
theorem AN {K:NO}{π:Nat->Addr}{H:Hp}{μ:Hm}{v:V}{x:D}(R:Rp K π H μ)(h:IsD K π μ.length H v x)(e:l6 μ x=true):nF K v H:=by
 cases h with
 | @loc a ha=>
  simp only [l6] at e
  split at e
  ·rename_i xs hx
   obtain ⟨ps,h1,T⟩:=dQ R hx
   exact ⟨_,ps,rfl,h1,T.keys⟩
  ·cases e
 | _=>cases e
section
variable {X:Cx}{e o:N2}{mo:ME}{to:TE}{t:TA}{apos cpos:Py}{es:List N2}{ms:MA}{n:Nat}{r:V->List V->Hp->VK->Prop}{f:D->List D->Hm->Option (D×Hm)}{name:Str}{id:String}
theorem J5 (slot:WG "dict" name id) (hty:TQ (.builtin id)=pure (.type "method_descriptor")) (hm:dJ X id r)(ho:PE X o to)(ha:PA X (e::es) t)(hbase:Q7 o name X.env (eval o X.env)=eval o X.env)
  (hfew:((Qg cpos (OF (e::es) X.env)).all (fun x=>!x.1)&&(Us cpos (SD [] X.env)).all (fun x=>x.1.isSome)&&decide ((e::es).length+([]:List QY).length+(if ([]:List QY).isEmpty then 0 else 1)<30))=true)
  (hline:(apos.endLine == cpos.line)=true)(hs:OF (e::es) X.env=(false,eval e X.env)::OF es X.env)(hplain:(Qg cpos (OF es X.env)).any (·.1)=false) :
  PE X (.Call (.Attribute o name apos) (e::es) [] cpos) (fun σ H Q=>to σ H fun x H1=>nF X.K x H1/\t σ H1 fun vs H2=>r x vs H2 Q):=by
 intro XB s σ H Q I h
 refine Vb hbase hfew hline rfl (aT (ho XB s σ H _ I h) fun v s1 ⟨x,H1,I1,r1,ty,q1⟩=>?_)
 obtain ⟨a,ps,rfl,f1,hk⟩:=ty
 obtain rfl:v=Og a:=r1
 obtain ⟨lo,hl,vs,ep,g,_⟩:=kI I1 f1 hk
 refine ⟨"dict",id,TH,slot,hty,g.ty,fun b eb=>?_,?_⟩
 ·cases eb
  obtain ⟨z,g1,g2,_⟩:=g
  exact ⟨z,g1,g2.2.1⟩
 have hA:=ha cpos XB s1 σ H1 _ I1 q1
 rw [hs] at hA ⊢
 refine Q9 (by show (false||(Qg cpos (OF es X.env)).any (·.1))=false;rw [hplain]<;>rfl) (UC ?_)
 exact aT hA fun us s2 ⟨vs,H2,I2,r2,q2⟩=>hm XB s2 σ H2 (.ref a) vs _ us Q I2 rfl r2 q2
theorem J6 (slot:WG "dict" name id) (hty:TQ (.builtin id)=pure (.type "method_descriptor")) (hm:dJ X id r)(ho:PE X o to)(hbase:Q7 o name X.env (eval o X.env)=eval o X.env)(hline:(apos.endLine == cpos.line)=true) :
  PE X (.Call (.Attribute o name apos) [] [] cpos) (fun σ H Q=>to σ H fun x H1=>nF X.K x H1/\r x [] H1 Q):=by
 intro XB s σ H Q I h
 refine U0 hbase hline (aT (ho XB s σ H _ I h) fun v s1 ⟨x,H1,I1,r1,ty,q1⟩=>?_)
 obtain ⟨a,ps,rfl,f1,hk⟩:=ty
 obtain rfl:v=Og a:=r1
 obtain ⟨lo,hl,vs,ep,g,_⟩:=kI I1 f1 hk
 refine ⟨"dict",id,TH,slot,hty,g.ty,fun b eb=>?_,Q9 rfl (UE ?_)⟩
 ·cases eb
  obtain ⟨z,g1,g2,_⟩:=g
  exact ⟨z,g1,g2.2.1⟩
 exact hm XB s1 σ H1 (.ref a) [] _ [] Q I1 rfl .nil q1
theorem J7 {K:NO}(hf:c9 K f r):∀ σ H Q,tM K (fJ f mo ms) σ H Q->tM K mo σ H fun x H1=>nF K x H1/\dM K ms σ H1 fun vs H2=>r x vs H2 Q:=by
 rintro σ H Q ⟨π,ρ,μ,d,μ',R,E,hm,k⟩
 obtain ⟨⟨x,μ1⟩,h1,hm⟩:=NN.mp hm
 dsimp only at hm
 split at hm
 ·rename_i hl
  obtain ⟨⟨xs,μ2⟩,h2,hm⟩:=NN.mp hm
  refine ⟨π,ρ,μ,x,μ1,R,E,h1,fun π1 v1 H1 e1 R1 i1=>⟨AN R1 i1 hl,π1,ρ,μ1,xs,μ2,R1,E.mono e1,h2,fun π2 vs H2 e2 R2 i2=>?_⟩⟩
  exact hf π2 H2 μ2 x xs d μ' v1 vs Q R2 (i1.mono e2) i2 hm (k.after (e1.trans e2))
 ·cases hm
theorem J8 {K:NO}(hf:c9 K f r):∀ σ H Q,tM K (fJ f mo aD) σ H Q->tM K mo σ H fun x H1=>nF K x H1/\r x [] H1 Q:=by
 rintro σ H Q ⟨π,ρ,μ,d,μ',R,E,hm,k⟩
 obtain ⟨⟨x,μ1⟩,h1,hm⟩:=NN.mp hm
 dsimp only at hm
 split at hm
 ·rename_i hl
  obtain ⟨⟨xs,μ2⟩,h2,hm⟩:=NN.mp hm
  cases h2
  refine ⟨π,ρ,μ,x,μ1,R,E,h1,fun π1 v1 H1 e1 R1 i1=>⟨AN R1 i1 hl,?_⟩⟩
  exact hf π1 H1 μ1 x [] d μ' v1 [] Q R1 i1 .nil hm (k.after e1)
 ·cases hm
theorem tG (slot:WG "dict" name id) (hty:TQ (.builtin id)=pure (.type "method_descriptor")) (hm:dJ X id r)(hf:c9 X.K f r)
  (ho:QE X o mo)(ha:QA X (e::es) ms n)(hs:lQ o=true)(hl:(apos.endLine == cpos.line)=true)(hn:(e::es).length<30):QE X (.Call (.Attribute o name apos) (e::es) [] cpos) (fJ f mo ms):=by
 have hst:=ha.s
 have hst':=hst
 rw [OR,N5] at hst'
 exact ⟨cE (J5 slot hty hm ho.h ha.h (j6 hs) (zN hst hn) hl (fE hst'.1) (jX hst'.2)) (J7 hf)⟩
theorem J9 (slot:WG "dict" name id) (hty:TQ (.builtin id)=pure (.type "method_descriptor")) (hm:dJ X id r)(hf:c9 X.K f r)
  (ho:QE X o mo)(hs:lQ o=true)(hl:(apos.endLine == cpos.line)=true):QE X (.Call (.Attribute o name apos) [] [] cpos) (fJ f mo aD):=
 ⟨cE (J6 slot hty hm ho.h (j6 hs) hl) (J8 hf)⟩
end
noncomputable def iZ:D->List D->Hm->Option (D×Hm)
 | .loc a,[y,z],μ=>match μ[a]? with
  | some (.dT kvs)=>(cK y).map fun k=>((bF kvs k).getD z,μ)
  | _=>none
 | _,_,_=>none
noncomputable def AO (K:NO):V->List V->Hp->VK->Prop:=fun x vs H Q=>∃ a b ps k z,x=.ref a/\vs=[.ref b,z]/\H a=some (aP a ps)/\cU K H ps/\SqT K H b (k.map V.int)/\Q ((cQ ps k).getD z) H
theorem Ka {K:NO}:c9 K iZ (AO K):=by
 intro π H μ x xs d μ' v vs Q R ix ixs hm k
 unfold iZ at hm
 split at hm
 ·split at hm
  ·rename_i kvs hc
   obtain ⟨kk,h1,hm⟩:=NU.mp hm
   cases hm
   cases ix
   cases ixs with
   | cons iy t=>
    cases t with
    | cons iz t=>
     cases t
     obtain ⟨ps,e1,T⟩:=dQ R hc
     obtain ⟨b,rfl,hb⟩:=iX iy h1
     refine ⟨_,b,ps,kk,_,rfl,rfl,e1,T.keys,hb,k π _ H .refl R ?_⟩
     rcases T.val kk with ⟨z1,z2⟩|⟨v,d2,z1,z2,z3⟩
     ·rw [z1,z2];exact iz
     ·rw [z1,z2];exact z3
  ·cases hm
 ·cases hm
theorem Kb {X:Cx}(hu:X.A.units+1<PR):dJ X "dict.get" (AO X.K):=by
 intro XB s σ H x vs v us Q I rx rv h
 obtain ⟨a,b,ps,k,z,rfl,rfl,e,hk,hb,q⟩:=h
 cases rx
 obtain ⟨u,u2,rfl,ru,ru2⟩:=rv.two
 obtain rfl:u=Og b:=ru
 obtain ⟨hs,hl,ws,r,d⟩:=fU I (.of e) hk
 refine Sj T5 d.typeIs PySem.F.entry_dict_get (PySem.F.args_dict_get_3 _ _ _) (meetsH_dict_get_default (PJ (P8 X.prog X.w)) a b hs u2) ⟨iE hu,k,_,iU I hb,d,?_⟩
 refine ⟨(cQ ps k).getD z,H,I.tok _,?_,q⟩
 have:=iD r k
 cases h1:cQ ps k with
 | none=>
  rw [h1] at this
  cases h2:(Q1 (a8 ps ws) k).map (·.2) with
  | none=>exact ru2
  | some y=>rw [h2] at this;exact this.elim
 | some w'=>
  rw [h1] at this
  cases h2:(Q1 (a8 ps ws) k).map (·.2) with
  | none=>rw [h2] at this;exact this.elim
  | some y=>rw [h2] at this;exact this
end L3
namespace L3
open PySem L2
section
variable {P:Oo}{w:OO}{K:Type} [DecidableEq K] {knd:V3 P w K}{A:OG}{E:NT->NV->Prop}{s:NV}{d a:Addr}{k:K}{xs:List (K×Addr×NT)}
theorem Kc {v:NT}{Q:NT->NV->Prop}(hu:knd.room A)(hk:knd.is s.heap k a)(hm:s.heap.DictOfH knd d xs)(hz:xs.length<=N4)
  (h1:∀ p,Q1 xs k=some p->Q p.2 { s with toks:=s.toks+knd.draws k })(h2:Q1 xs k=none->∀ h',h'.DictOfH knd d (Wt xs k a v)->Qk d s.heap h'->Q v { s with heap:=h',toks:=s.toks+knd.draws k }) :
  Oi (Ot P w) A (Uq d (.ref a) v) Q E s:=by
 obtain ⟨o,es,ep,ho,hc,hd,he,his,hn⟩:=id hm
 unfold Uq
 refine O4 (NQ (knd.pyHash hu hk (NQ (SN (s:={ s with toks:=s.toks+knd.draws k }) hu hk ho hd he his hn (fun hno=>?_) fun j p hj=>?_))))
 ·have hnk:=Tu hno
  have hnot:k∉xs.map (·.1):=not_mem_keys_of_get hno
  refine NQ (Wb (NQ (SA (hz:=by have e:=Sl he;omega) (s:={ s with toks:=s.toks+knd.draws k }) ho hd (N1 (h2 hnk _ ⟨_,_,ep+1,Px _ ho (RD (PL hd _)),hc.mapDictKeys _,PL hd _,?_,fun x hx=>?_,?_⟩ (Pa ..))))))
  ·rw [VT hnk];simp [he,Wg]
  ·rw [VT hnk] at hx
   rcases O2.mp hx with hx|hx
   ·exact knd.keeps (his x hx) ho hd (Pa ..)
   ·rw [OC] at hx;subst hx;exact knd.keeps hk ho hd (Pa ..)
  ·rw [VT hnk,OE,Qw]
   exact ⟨hn,by simp,fun x hx y hy e=>by
    simp only [N0,QF,OC] at hy
    subst hy;exact hnot (e ▸ hx)⟩
 ·refine NQ (OV (s:={ s with toks:=s.toks+knd.draws k }) ho hd ?_)
  rw [VW he j,hj]
  exact NQ (Wb (N1 (h1 _ (Vj hn hj))))
theorem Kd (knd:V3 P w K)(d a:Addr)(hd:(d == OY)=false)(v:NT):Wz P w (Builtin.«dict.setdefault» ⟨[.ref d,.ref a,v],[]⟩) (fun A R s=>knd.room A.in1/\∃ k xs,knd.is s.heap k a/\s.heap.DictOfH knd d xs/\xs.length<=N4 /\
   (∀ p,Q1 xs k=some p->R (.ok (.ret p.2)) { s with toks:=s.toks+knd.draws k })/\(Q1 xs k=none->∀ h',h'.DictOfH knd d (Wt xs k a v)->Qk d s.heap h'->R (.ok (.ret v)) { s with heap:=h',toks:=s.toks+knd.draws k })):=
 .of_wp fun A R s ⟨hu,k,xs,hk,hm,hz,h1,h2⟩=>by
  unfold Builtin.«dict.setdefault»
  refine NQ ?_
  unfold Sz
  refine NQ (PB hm.typeIs (N1 ?_))
  show Oi _ _ (if (d == OY)=true then _ else (Uq d (.ref a) v >>= _)) _ _ s
  rw [if_neg (by rw [hd];exact OI)]
  exact NQ (Kc hu hk hm hz (fun p hp=>N1 ⟨_,rfl,h1 p hp⟩) fun hn h' hm' hs'=>N1 ⟨v,rfl,h2 hn h' hm' hs'⟩)
end
noncomputable def kK:D->List D->Hm->Option (D×Hm)
 | .loc a,[y,z],μ=>match μ[a]? with
  | some (.dT kvs)=>(cK y).bind fun k=>match bF kvs k with
   | some d=>some (d,μ)
   | none=>if kvs.length<N4 then some (z,μ.set a (.dT (cS kvs k z))) else none
  | _=>none
 | _,_,_=>none
noncomputable def AQ (K:NO):V->List V->Hp->VK->Prop:=fun x vs H Q=>∃ a b ps k z,x=.ref a/\vs=[.ref b,z]/\H a=some (aP a ps)/\cU K H ps/\SqT K H b (k.map V.int)/\((∃ v,cQ ps k=some v/\Q v H)\/(cQ ps k=none/\ps.length<N4/\Q z (aI H a (aP a (fH ps k b z)))))
theorem Ke {K:NO}:c9 K kK (AQ K):=by
 intro π H μ x xs d μ' v vs Q R ix ixs hm k
 unfold kK at hm
 split at hm
 ·split at hm
  ·rename_i kvs hc
   obtain ⟨kk,h1,hm⟩:=NN.mp hm
   cases ix with
   | loc hlt=>
    cases ixs with
    | cons iy t=>
     cases t with
     | cons iz t=>
      cases t
      obtain ⟨ps,e1,T⟩:=dQ R hc
      obtain ⟨b,rfl,hb⟩:=iX iy h1
      refine ⟨_,b,ps,kk,_,rfl,rfl,e1,T.keys,hb,?_⟩
      have hpl:ps.length=kvs.length:=by
       have:=congrArg OJ T.to.1
       simpa using this
      rcases T.val kk with ⟨z1,z2⟩|⟨v,d2,z1,z2,z3⟩
      ·rw [z2] at hm
       dsimp only at hm
       split at hm
       ·rename_i hz
        cases hm
        have T':=T.put kk hb iz
        obtain ⟨e4,R4⟩:=R.put (c:=.dT (cS kvs kk d)) (o:=aP _ (fH ps kk b _)) hlt e1 (.inr (.inr ⟨_,rfl⟩)) ⟨_,rfl,T'.to⟩
        exact .inr ⟨z1,by omega,k π _ _ e4 R4 (iz.mono e4)⟩
       ·cases hm
      ·rw [z2] at hm
       cases hm
       exact .inl ⟨v,z1,k π _ H .refl R z3⟩
  ·cases hm
 ·cases hm
theorem Kf {X:Cx}(hu:X.A.units+1<PR):dJ X "dict.setdefault" (AQ X.K):=by
 intro XB s σ H x vs v us Q I rx rv h
 obtain ⟨a,b,ps,k,z,rfl,rfl,e,hk,hb,q⟩:=h
 cases rx
 obtain ⟨u,u2,rfl,ru,ru2⟩:=rv.two
 obtain rfl:u=Og b:=ru
 obtain ⟨hs,hl,ws,r,d⟩:=fU I (.of e) hk
 have hx:(a8 ps ws).length<=N4:=by
  have:=congrArg OJ (iW r)
  rw [NP,NP] at this
  omega
 have rel:=iD r k
 refine Sj SS d.typeIs PySem.F.entry_dict_setdefault (PySem.F.args_dict_setdefault_3 _ _ _) (Kd (PJ (P8 X.prog X.w)) a b hs u2) ⟨iE hu,k,_,iU I hb,d,hx,fun p hp=>?_,fun hn h' d' hs'=>?_⟩
 ·rw [hp] at rel
  rcases q with ⟨v',h1,q⟩|⟨h1,_⟩
  ·rw [h1] at rel
   exact ⟨v',H,I.tok _,rel,q⟩
  ·rw [h1] at rel
   exact rel.elim
 ·rw [hn] at rel
  rcases q with ⟨v',h1,q⟩|⟨h1,hz,q⟩
  ·rw [h1] at rel
   exact rel.elim
  ·obtain ⟨ws',r',ex⟩:=Au r k b ru2
   rw [ex] at d'
   have he:∃ q,h'.get? a=some q:=let ⟨q,_,_,hq,_⟩:=d';⟨q,hq⟩
   exact ⟨z,_,oG I (by rw [e];exact PX) hs' he (nB hs (by have:=Ap ps k b z;omega) r' d'),ru2,q⟩
noncomputable def tH:D->List D->Hm->Option (D×Hm)
 | .loc a,[],μ=>match μ[a]? with
  | some (.dT _)=>some (.non,μ.set a (.dT []))
  | _=>none
 | _,_,_=>none
noncomputable def AR (K:NO):V->List V->Hp->VK->Prop:=fun x vs H Q=>∃ a ps,x=.ref a/\vs=[]/\H a=some (aP a ps)/\cU K H ps/\Q .non (aI H a (aP a []))
theorem Kg {K:NO}:c9 K tH (AR K):=by
 intro π H μ x xs d μ' v vs Q R ix ixs hm k
 unfold tH at hm
 split at hm
 ·split at hm
  ·rename_i kvs hc
   cases hm
   cases ixs
   cases ix with
   | loc hlt=>
    obtain ⟨ps,e1,T⟩:=dQ R hc
    obtain ⟨e4,R4⟩:=R.put (c:=.dT []) (o:=aP _ []) hlt e1 (.inr (.inr ⟨_,rfl⟩)) ⟨[],rfl,rfl,.nil,.nil⟩
    exact ⟨_,ps,rfl,rfl,e1,T.keys,k π _ _ e4 R4 .non⟩
  ·cases hm
 ·cases hm
theorem Kh {P:Oo}{w:OO}(d:Addr):Wz P w (Builtin.«dict.clear» ⟨[.ref d],[]⟩) (fun _ R s=>∃ es ep,RawD s.heap d es ep/\es.size<=N4 /\
   ∀ h',(∃ z,h'.get? d=some z/\z.ExactDict/\z.data=.dict #[] (ep+1))->Qk d s.heap h'->R (.ok (.ret .none)) { s with heap:=h' }):=
 .of_wp fun A R s ⟨es,ep,g,hz,h⟩=>by
  obtain ⟨o,ho,hc,hdat⟩:=id g
  unfold Builtin.«dict.clear»
  refine NQ ?_
  unfold Xk
  refine NQ (PB g.ty (N1 (NQ (OV ho hdat (NQ ?_)))))
  unfold bearsInstanceDictMark
  refine NQ (wpAny_load ho (N1 (NQ (SA (hz:=hz) ho hdat ?_))))
  have new:∃ z,(s.heap.update d (V7 fun _=>#[])).get? d=some z/\z.ExactDict/\z.data=.dict #[] (ep+1):=
   ⟨_,Px _ ho (RD (PL hdat _)),hc.mapDictKeys _,PL hdat _⟩
  split
  ·exact NQ (VS (N1 ⟨.none,rfl,h _ new (Pa ..)⟩))
  ·exact NQ (N1 (N1 ⟨.none,rfl,h _ new (Pa ..)⟩))
theorem Ki {X:Cx}:dJ X "dict.clear" (AR X.K):=by
 intro XB s σ H x vs v us Q I rx rv h
 obtain ⟨a,ps,rfl,rfl,e,hk,q⟩:=h
 cases rx
 cases rv
 obtain ⟨lo,hl,es,ep,g,he⟩:=kI I e hk
 have hs:es.size=ps.length:=by
  have:=congrArg OJ he
  simpa using this
 refine Sj TC g.ty PySem.F.entry_dict_clear (PySem.F.args_dict_clear_1 _) (Kh a) ⟨es,ep,g,by omega,fun h' ⟨z,z1,z2,z3⟩ hs'=>?_⟩
 refine ⟨.non,_,oG (t':=s.toks) I (by rw [e];exact PX) hs' ⟨z,z1⟩ (nB (ps:=[]) (ws:=[]) lo (OW _) .nil ⟨z,#[],ep+1,z1,z2,z3,rfl,⟨fun x hx=>absurd hx (by simp [a8]),by simp [a8]⟩⟩),rfl,q⟩
end L3
namespace L3
open PySem L2
section
variable {P:Oo}{w:OO}{A:OG}{E:NT->NV->Prop}{s:NV}
theorem Kj {nm:String}{d:Addr}{es:Array Pg}{ep:Nat}{bs:List Addr}{Q:Array Pg->NV->Prop}(g:RawD s.heap d es ep)(eb:es.toList.map (·.key)=bs.map Og)(tt:∀ b∈bs,s.TypeIs (.ref b) "tuple")
  (nd:(es.toList.map (·.hash)).Nodup)(q:Q es s):Oi (Ot P w) A (Sq nm d) Q E s:=by
 obtain ⟨z,g1,g2,g3⟩:=id g
 unfold Sq
 refine NQ (OV g1 g3 (NQ ?_))
 rw [<- Array.forIn_toList]
 refine WB _ (fun bJ _ s'=>s'=s/\∀ e∈bJ,e∈es.toList) _ (fun e bJ b s' ⟨h1,h2⟩=>?_) (fun b s' ⟨h1,_⟩=>?_) _ _ ⟨rfl,fun e he=>he⟩
 ·subst h1
  have he:=h2 e (Om ..)
  have hk:e.key∈bs.map Og:=by rw [<- eb];exact NZ.mpr ⟨e,he,rfl⟩
  obtain ⟨a,ha,ek⟩:=NZ.mp hk
  have quiet:∀ {Q:Bool->NV->Prop},Q false s'->Oi (Ot P w) A (Tn e.key) Q E s':=fun {Q} q=>by
   rw [<- ek]
   unfold Tn
   exact NQ (Ra (tt a ha) PySem.F.slot_tuple_eq.lookup (N1 q))
  refine NQ (quiet ?_)
  have one:((es.filter (·.hash == e.hash)).size>1)=False:=by
   refine eq_false fun z=>?_
   have z':1<(es.toList.filter fun x=>x.hash == e.hash).length:=by
    have e1:(es.filter (·.hash == e.hash)).toList=es.toList.filter fun x=>x.hash == e.hash:=Array.toList_filter ..
    have e2:=congrArg OJ e1
    simp only [QM] at e2
    omega
   have cnt:(es.toList.filter fun x=>x.hash == e.hash).length=(es.toList.map (·.hash)).count e.hash:=by
    rw [List.count,List.countP_map,<- List.countP_eq_length_filter];rfl
   have:=List.nodup_iff_count.mp nd e.hash
   omega
  simp only [Qx,if_true,one,if_false]
  exact N1 ⟨rfl,fun x hx=>h2 x (Oc _ hx)⟩
 ·subst h1;exact N1 q
end
theorem AS:∀ (ps:bN)(ws:List NT),ps.length=ws.length->(SF rA ps ws).map (·.hash)=ps.map fun p=>Tb.hashT p.1
 | [],_,_=>by simp
 | p::ps,[],h=>by cases h
 | p::ps,u::ws,h=>by
  rw [Oq,N0,N0,AS ps ws (by simpa using h)]
  rfl
theorem Kk {es:Array Pg}{bs:List Addr}(hne:bs≠[])(he:es.toList.map (·.key)=bs.map Og):(es.all fun e=>(keyPart e.key).isSome)=false:=by
 rw [<- Array.all_toList]
 generalize es.toList=l at he
 cases bs with
 | nil=>exact absurd rfl hne
 | cons b bs=>
  cases l with
  | nil=>cases he
  | cons e l=>
   rw [N0,N0,UO] at he
   rw [OR,he.1]
   rfl
theorem Kl {es:Array Pg}{bs:List Addr}(hne:bs≠[])(he:es.toList.map (·.key)=bs.map Og):es.isEmpty=false:=by
 have e1:=congrArg OJ he
 simp only [NP,QM] at e1
 have:bs.length≠0:=fun z=>hne (RR.mp z)
 rw [Array.isEmpty]
 exact decide_eq_false (by omega)
noncomputable def AU (K:NO):List V->Hp->VK->Prop:=fun xs H Q=>∃ a ps,xs=[V.ref a]/\H a=some (aP a ps)/\cU K H ps/\ps≠[]/\(ps.map fun p=>Tb.hashT p.1).Nodup/\∀ l,H l=none->Q (.ref l) (aI H l (aP l ps))
section
variable {X:Cx}
theorem Km:CallR X (.type "dict") (AU X.K):=by
 intro XB s σ H xs us Q I r h
 obtain ⟨a,ps,rfl,ha,hk,hne,nd,q⟩:=h
 obtain ⟨u,rfl,ru⟩:=e6 r
 cases ru
 have hn:H s.heap.objs.size=none:=I.hok.fresh (N3 _)
 obtain ⟨⟨ws,rv,lo,hl,o,es,ep,h1,h2,h3,h4,h5⟩,_⟩:=(show ObjOk X.prog X.w H s.heap a (aP a ps) from I.hok a _ ha)
 obtain ⟨_,_,es',ep',g,he⟩:=kI I ha hk
 obtain ⟨z,g1,g2,g3⟩:=id g
 rw [h1] at g1
 cases g1
 rw [h3] at g3
 cases g3
 have hsz:es.size=ps.length:=by
  have:=congrArg OJ he
  simpa using this
 have hnd:(es.toList.map (·.hash)).Nodup:=by
  have:es.toList.map (·.hash)=ps.map fun p=>Tb.hashT p.1:=by rw [h4];exact AS ps ws (by rw [<- rv.length,NP])
  rw [this];exact nd
 refine Xw (Q₁:=fun obj s₁=>obj=.ref s.heap.objs.size/\s₁ = { s with heap:=s.heap.push { cls:=.type "dict",data:=.dict #[] } }) F.kt_called_dict (F.kt_typeCall_dict_1 _) F.entry_dict_init (kt_code_dict_new _ ⟨rfl,rfl⟩) ?_
 rintro obj s₁ ⟨rfl,rfl⟩
 have g0:({ s with heap:=s.heap.push { cls:=.type "dict",data:=.dict #[] } }:NV).heap.get? s.heap.objs.size=some { cls:=.type "dict",data:=.dict #[] }:=Of _ rfl
 have ty:({ s with heap:=s.heap.push { cls:=.type "dict",data:=.dict #[] } }:NV).TypeIs (.ref s.heap.objs.size) "dict":=⟨_,g0,rfl⟩
 have ga:RawD (s.heap.push { cls:=.type "dict",data:=.dict #[] }) a es ep:=g.stay fun o e=>NW _ e
 refine ⟨ty,F.args_dict_init_2 _ _,?_⟩
 unfold Builtin.«dict.__init__»
 refine NQ ?_
 unfold Xh
 refine NQ (PB ty (N1 ?_))
 show Oi _ _ (SX "dict.__init__" s.heap.objs.size (.ref a) [] .none) _ _ _
 unfold SX
 refine NQ (wpAny_typeOf (T:="dict") ⟨_,NW _ h1,h2.1⟩ ?_)
 rw [if_neg (by decide)]
 refine NQ ?_
 unfold Xm Xi
 have tya:({ s with heap:=s.heap.push { cls:=.type "dict",data:=.dict #[] } }:NV).TypeIs (.ref a) "dict":=⟨_,NW _ h1,h2.1⟩
 refine NQ (NQ (Rw tya isSubtype_dict_dict ?_))
 simp only [Qr,Ob,if_false]
 refine NQ (Ra tya F.slot_dict_iter.lookup (N1 ?_))
 simp only [beq_self_eq_true,if_true]
 refine NQ (N1 ?_)
 unfold Xl
 have hda:(s.heap.objs.size == a)=false:=beq_eq_false_iff_ne.mpr (OB (Oh (N7 h1)))
 rw [if_neg (by rw [hda];exact OI)]
 unfold QZ
 rw [if_neg (by rw [lo];exact OI)]
 have h1':=NW { cls:=.type "dict",data:=.dict #[] } h1
 refine NQ (N1 (NQ (OV h1' h3 ?_)))
 have few:=Kk (bs:=ps.map (·.2.1)) (fun z=>hne (Sn.mp z)) (by rw [he,N6];rfl)
 simp only [few,Bool.and_false,Qx,if_true]
 refine NQ (OV g0 rfl ?_)
 simp only [Array.isEmpty_empty,if_true]
 have hes:es.size<=N4:=by omega
 have emp:=Kl (bs:=ps.map (·.2.1)) (fun z=>hne (Sn.mp z)) (by rw [he,N6];rfl)
 refine NQ (Kj (bs:=ps.map (·.2.1)) ga (by rw [he,N6];rfl) (fun b hb=>?_) hnd ?_)
 ·obtain ⟨p,hp,rfl⟩:=NZ.mp hb
  obtain ⟨its,rx,⟨ot,e1,e2,_⟩,_⟩:=I.tuple (hk p hp)
  exact ⟨ot,NW _ e1,e2⟩
 simp only [emp,Qx,if_true]
 refine NQ (wpAny_updateDictKeysTo g0 rfl (N1 ?_) (by omega))
 have gN:=Px (V7 fun _=>es) g0 (RD (PL (o:={ cls:=.type "dict",data:=.dict #[] }) rfl _))
 have big:(s.heap.objs.size == OY)=false:=beq_eq_false_iff_ne.mpr (OB (Oh I.big))
 refine NQ (N1 (N1 ?_))
 refine ⟨rfl,.ref s.heap.objs.size,_,I.laid (t':=s.toks) (a:=s.heap.objs.size) (o:=aP s.heap.objs.size ps) (fun b u e=>?_) (N3 _) ⟨⟨ws,rv,big,hl,_,es,1,gN,?_,rfl,h4,h5⟩,⟨_,gN⟩,?_⟩,rfl,q _ hn⟩
 ·rw [Qj _ _ (OB (Oh (N7 e)))]
  exact NW _ e
 ·exact WK ⟨rfl,rfl,rfl⟩ _
 ·rintro k1 k2 ⟨ws,r,hs,hl,o,es,ep,h1,h2⟩ hh
  exact ⟨ws,r,hs,hl,o,es,ep,hh o h1,h2⟩
end
end L3
namespace L3
open PySem L2
noncomputable abbrev nG:=List (List Int×Addr×NT)
inductive Hits (A:OG)(s:NV)(ys:nG):nG->Bool->Prop
 | nil:Hits A s ys [] true
 | miss {x:List Int×Addr×NT}{r:nG}:Q1 ys x.1=none->Hits A s ys (x::r) false
 | hit {x:List Int×Addr×NT}{p:Addr×NT}{r:nG}{e b:Bool}:Q1 ys x.1=some p->UU A s x.2.2 p.2 e->Hits A s ys r b->Hits A s ys (x::r) (e&&b)
section
variable {P:Oo}{w:OO}{A:OG}{E:NT->NV->Prop}{s:NV}{a b:Addr}{xs ys:nG}{r:Bool}
theorem AV {nm:String}{Q:Bool->NV->Prop}(hu:(PJ (P8 P w)).room A)(la:(a == OY)=false)(lb:(b == OY)=false)(da:s.heap.DictOfH (PJ (P8 P w)) a xs)(db:s.heap.DictOfH (PJ (P8 P w)) b ys)
  (hits:xs.length=ys.length->Hits A s ys xs r)(q:Q (xs.length == ys.length&&r) s):Oi (Ot P w) A (S7 nm a b) Q E s:=by
 obtain ⟨oa,es,ep,ga,_,va,ea,isa,na⟩:=da
 obtain ⟨ob,fs,fp,gb,_,vb,eb,isb,nb⟩:=db
 have sa:=Sl ea
 have sb:=Sl eb
 unfold S7 QZ
 rw [if_neg (by rw [la];exact OI),if_neg (by rw [lb];exact OI)]
 refine NQ (N1 (NQ (N1 (NQ (OV ga va ?_)))))
 dsimp only
 refine NQ (OV gb vb ?_)
 by_cases hsz:es.size=fs.size
 ·have hl:xs.length=ys.length:=by omega
  have q':Q r s:=by simpa [hl] using q
  have hh:=hits hl
  rw [if_neg (by rw [hsz];simp)]
  refine NQ (Sk ga va (NQ ?_))
  rw [V6]
  simp only [V5,WL,Nat.add_sub_cancel,Nat.div_one]
  refine WB _ (fun bJ c s'=>s'=s/\c=(none,())/\∃ i,bJ=RI i (es.size - i)/\i<=es.size/\Hits A s ys (xs.drop i) r) _ ?_ ?_ _ _ ⟨rfl,rfl,0,by simp,OW _,hh⟩
  ·rintro x bJ c s' ⟨rfl,rfl,i,hr,hi,hp⟩
   have hlt:i<es.size:=Nat.lt_of_not_le fun z=>by rw [Nat.sub_eq_zero_of_le z] at hr;cases hr
   have e0:es.size - i=(es.size - (i+1))+1:=by omega
   rw [e0,RQ] at hr
   injection hr with hx hrest
   subst hx
   have hlx:x<xs.length:=by omega
   rw [TX hlx] at hp
   have ex:xs[x]? = some xs[x]:=N9 hlx
   refine NQ (OV ga va ?_)
   rw [VW ea x,ex,Oy]
   dsimp only
   have hk:=isa xs[x] (RS hlx)
   refine NQ (O4 (NQ (SN (k:=xs[x].1) (a:=xs[x].2.1) hu hk gb vb eb isb nb (fun hno=>?_) fun j p hj=>?_)))
   ·have hz:=Tu hno
    have er:r=false:=by
     cases hp with
     | miss _=>rfl
     | hit h1 _ _=>rw [hz] at h1;cases h1
    subst er
    refine N1 ?_
    simp only [Qx,if_true]
    exact N1 (N1 q')
   ·have hz:=Vj nb hj
    refine NQ (OV gb vb ?_)
    rw [VW eb j,hj,Oy]
    dsimp only
    generalize hxs:xs[x]=y at hp hz
    cases hp with
    | miss h1=>rw [hz] at h1;cases h1
    | @hit _ p' _ e' b' h1 h2 h3=>
     rw [hz] at h1
     cases h1
     refine O4 (h2 P w _ _ ?_)
     cases e' with
     | false=>
      simp only [Qx,if_true]
      exact N1 (N1 q')
     | true=>
      simp only [Qr,Ob,if_false]
      refine NQ (Sk ga va ?_)
      rw [if_neg (by simp)]
      refine N1 ⟨rfl,rfl,x+1,hrest,hlt,?_⟩
      simpa using h3
  ·rintro c s' ⟨rfl,rfl,i,hr,hi,hp⟩
   have hin:i=es.size:=by
    rcases Qo i es.size with z|z
    ·rw [show es.size - i=(es.size - (i+1))+1 by omega,RQ] at hr;cases hr
    ·omega
   refine N1 ?_
   rw [hin,sa,List.drop_length] at hp
   cases hp
   exact q'
 ·rw [if_pos (by simpa using hsz)]
  have:(xs.length == ys.length)=false:=by rw [<- sa,<- sb];simpa using hsz
  rw [this,Sg] at q
  exact NQ (Wb (N1 q))
theorem Kn {Q:NT->NV->Prop}(hr:(PJ (P8 P w)).room A.in1)(hu:A.units<PR)(la:(a == OY)=false)(lb:(b == OY)=false)(da:s.heap.DictOfH (PJ (P8 P w)) a xs)(db:s.heap.DictOfH (PJ (P8 P w)) b ys)
  (hits:xs.length=ys.length->Hits A.in1 s ys xs r)(q:Q (.bool (xs.length == ys.length&&r)) s):Oi (Ot P w) A (Pe .Eq (.ref a) (.ref b)) Q E s:=by
 refine Ug (op:=.Eq) da.typeIs db.typeIs Ub (Ql Ub da.typeIs PySem.F.entry_dict_eq ?_ (PySem.F.args_dict_eq_2 _ _)) hu
 show Oi _ _ (Qq "__eq__" ⟨[.ref a,.ref b],[]⟩ >>= _) _ _ s
 refine NQ ?_
 unfold Qq
 refine NQ (PB da.typeIs (N1 (NQ (Rw (T:="dict") db.typeIs T3 ?_))))
 simp only [Qr,Ob,if_false]
 exact NQ (N1 (NQ (N1 (NQ (AV hr la lb da db hits (N1 ⟨_,rfl,(fun x=>nomatch x),by simpa using q⟩))))))
theorem Ko {Q:NT->NV->Prop}(hr:(PJ (P8 P w)).room A.in1)(hu:A.units<PR)(la:(a == OY)=false)(lb:(b == OY)=false)(da:s.heap.DictOfH (PJ (P8 P w)) a xs)(db:s.heap.DictOfH (PJ (P8 P w)) b ys)
  (hits:xs.length=ys.length->Hits A.in1 s ys xs r)(q:Q (.bool (!(xs.length == ys.length&&r))) s):Oi (Ot P w) A (Pe .NotEq (.ref a) (.ref b)) Q E s:=by
 refine Ug (op:=.NotEq) da.typeIs db.typeIs Ua (Ql Ua da.typeIs PySem.F.entry_dict_ne ?_ (PySem.F.args_dict_ne_2 _ _)) hu
 show Oi _ _ (Qq "__ne__" ⟨[.ref a,.ref b],[]⟩ >>= _) _ _ s
 refine NQ ?_
 unfold Qq
 refine NQ (PB da.typeIs (N1 (NQ (Rw (T:="dict") db.typeIs T3 ?_))))
 simp only [Qr,Ob,if_false]
 exact NQ (N1 (NQ (N1 (NQ (AV hr la lb da db hits (N1 ⟨_,rfl,(fun x=>nomatch x),by simpa using q⟩))))))
end
noncomputable def i0 (μ:Hm)(kws:List (List Int×D)):List (List Int×D)->Option Bool
 | []=>some true
 | (k,d)::r=>match bF kws k with
  | none=>some false
  | some y=>(bZ 8 μ d y).bind fun e=>(i0 μ kws r).map fun b=>e&&b
noncomputable def fK (ne:Bool):D->D->Hm->Option (D×Hm)
 | .loc a,.loc b,μ=>match μ[a]?,μ[b]? with
  | some (.dT kvs),some (.dT kws)=>if kvs.length=kws.length then (i0 μ kws kvs).map fun e=>(.bl (if ne then !e else e),μ) else some (.bl ne,μ)
  | _,_=>none
 | _,_,_=>none
noncomputable def AW (K:NO)(ne:Bool):R2:=fun x y H Q=>∃ π μ a b ps qs kvs kws e,Rp K π H μ/\x=.ref (π a)/\y=.ref (π b)/\H (π a)=some (aP (π a) ps)/\H (π b)=some (aP (π b) qs)/\IsTs K π μ.length H ps kvs/\IsTs K π μ.length H qs kws /\
 (kvs.length=kws.length->i0 μ kws kvs=some e)/\Q (.bl (if ne then !(kvs.length == kws.length&&e) else (kvs.length == kws.length&&e))) H
theorem pH {K:NO}{ne:Bool}:cO K (fK ne) (AW K ne):=by
 intro π H μ x y d μ' vx vy Q R ix iy hm k
 unfold fK at hm
 split at hm
 ·split at hm
  ·rename_i kvs kws hc hc'
   cases ix
   cases iy
   obtain ⟨ps,e1,T⟩:=dQ R hc
   obtain ⟨qs,e2,T'⟩:=dQ R hc'
   split at hm
   ·rename_i hl
    obtain ⟨e,h1,hm⟩:=NU.mp hm
    cases hm
    refine ⟨π,μ,_,_,ps,qs,kvs,kws,e,R,rfl,rfl,e1,e2,T,T',fun _=>h1,?_⟩
    rw [hl,beq_self_eq_true,T7]
    exact k π _ H .refl R (.bl _)
   ·rename_i hl
    cases hm
    refine ⟨π,μ,_,_,ps,qs,kvs,kws,true,R,rfl,rfl,e1,e2,T,T',fun z=>absurd z hl,?_⟩
    have:(kvs.length == kws.length)=false:=by simpa using hl
    rw [this]
    have e0:(if ne=true then !(false&&true) else (false&&true))=ne:=by cases ne<;>rfl
    rw [e0]
    exact k π _ H .refl R (.bl _)
  ·cases hm
 ·cases hm
theorem AX {X:Cx}{XB:List (Addr×Pu)}{σ:St}{H:Hp}{s:NV}{π:Nat->Addr}{μ:Hm}{A:OG}(I:Inv X XB σ H s)(R:Rp X.K π H μ)(hu:A.units+8<PR){qs:bN}{kws:List (List Int×D)}{ws':List NT}(T':IsTs X.K π μ.length H qs kws)(r':Vals (qs.map (·.2.2)) ws') :
  ∀ {ps:bN}{kvs:List (List Int×D)}{ws:List NT}{e:Bool},IsTs X.K π μ.length H ps kvs->Vals (ps.map (·.2.2)) ws->i0 μ kws kvs=some e->Hits A s (a8 qs ws') (a8 ps ws) e
 | _,_,_,_,.nil,.nil,h=>by cases h;exact .nil
 | _,_,_,_,.cons (a:=p) (b:=q) h t,.cons (b:=u) ru tu,hm=>by
  obtain ⟨k,d⟩:=q
  have hk:p.1=k:=h.1
  have rel:=iD r' p.1
  unfold a8
  rw [Oq]
  simp only [i0] at hm
  split at hm
  ·rename_i hv
   cases hm
   refine .miss ?_
   rcases T'.val p.1 with ⟨z1,z2⟩|⟨v,d2,z1,z2,z3⟩
   ·rw [z1] at rel
    cases h2:Q1 (a8 qs ws') p.1 with
    | none=>exact h2
    | some y=>rw [h2] at rel;exact rel.elim
   ·rw [hk] at z2;rw [hv] at z2;cases z2
  ·rename_i y hv
   obtain ⟨e1,h1,hm⟩:=NN.mp hm
   obtain ⟨b1,h2,hm⟩:=NU.mp hm
   subst hm
   rcases T'.val p.1 with ⟨z1,z2⟩|⟨v,d2,z1,z2,z3⟩
   ·rw [hk] at z2;rw [hv] at z2;cases z2
   ·rw [hk] at z2;rw [hv] at z2
    cases z2
    rw [z1] at rel
    cases h3:Q1 (a8 qs ws') p.1 with
    | none=>rw [h3] at rel;exact rel.elim
    | some y'=>
     rw [h3] at rel
     exact .hit (x:=(p.1,p.2.1,u)) h3 (rM I R 8 hu ru rel h.2.2 z3 h1) (AX I R hu T' r' t tu h2)
section
variable {X:Cx}{a b:N2}{ma mb:ME}{pos:Py}{k:Nat}
theorem pI (ne:Bool)(hu:X.A.units+16<PR):OpR X (Pe (if ne then .NotEq else .Eq)) (AW X.K ne):=by
 intro XB s σ H x y v u Q I rx ry h
 obtain ⟨π,μ,i,j,ps,qs,kvs,kws,e,R,rfl,rfl,e1,e2,T,T',hh,q⟩:=h
 obtain rfl:v=Og (π i):=rx
 obtain rfl:u=Og (π j):=ry
 obtain ⟨la,hl,ws,r,da⟩:=fU I (.of e1) T.keys
 obtain ⟨lb,hl',ws',r',db⟩:=fU I (.of e2) T'.keys
 have n1:(a8 ps ws).length=kvs.length:=by
  have z1:=congrArg OJ (iW r)
  have z2:=congrArg OJ T.to.1
  simp only [NP] at z1 z2
  omega
 have n2:(a8 qs ws').length=kws.length:=by
  have z1:=congrArg OJ (iW r')
  have z2:=congrArg OJ T'.to.1
  simp only [NP] at z1 z2
  omega
 have hits:(a8 ps ws).length=(a8 qs ws').length->Hits X.A.in1 s (a8 qs ws') (a8 ps ws) e:=fun z=>AX I R (by rw [jU];omega) T' r' T r (hh (by omega))
 cases ne with
 | false=>exact Kn (iE (by omega)) (by omega) la lb da db hits ⟨.bl _,H,I,rfl,by rw [n1,n2];exact q⟩
 | true=>exact Ko (iE (by omega)) (by omega) la lb da db hits ⟨.bl _,H,I,rfl,by rw [n1,n2];exact q⟩
theorem Kp (hr:Room k X.A)(ha:QE X a ma)(hb:QE X b mb):QE X (.Compare a [.Eq] [b] pos) (aB (fK false) ma mb):=⟨d7 (pI false (by have:=hr.un;omega)) pH ha.h hb.h (dG _)⟩
theorem Kq (hr:Room k X.A)(ha:QE X a ma)(hb:QE X b mb):QE X (.Compare a [.NotEq] [b] pos) (aB (fK true) ma mb):=⟨d7 (pI true (by have:=hr.un;omega)) pH ha.h hb.h (dG _)⟩
theorem Kr (hr:Room k X.A)(ha:QE X a ma)(hb:QE X b mb):QT X (.Compare a [.Eq] [b] pos) (bC (aB (fK false) ma mb)):=⟨d8 (pI false (by have:=hr.un;omega)) pH ha.h hb.h (dG _)⟩
theorem Ks (hr:Room k X.A)(ha:QE X a ma)(hb:QE X b mb):QT X (.Compare a [.NotEq] [b] pos) (bC (aB (fK true) ma mb)):=⟨d8 (pI true (by have:=hr.un;omega)) pH ha.h hb.h (dG _)⟩
end
end L3
namespace L3
open PySem L2
theorem AY {K β:Type} [DecidableEq K] {k:K}:∀ {xs:List (K×β)}{j:Nat}{p:β},(xs.map (·.1)).Nodup->xs[j]? = some (k,p)->xs.eraseIdx j=xs.filter fun x=>!decide (x.1=k)
 | [],j,p,_,h=>by simp at h
 | x::xs,0,p,hn,h=>by
  obtain rfl:x=(k,p):=by simpa using h
  rw [N0,OS] at hn
  rw [List.eraseIdx_cons_zero,OA (by simp),So.mpr]
  intro y hy
  have:y.1≠k:=fun e=>hn.1 (e ▸ UX (f:=(·.1)) hy)
  simp [this]
 | x::xs,j+1,p,hn,h=>by
  rw [N0,OS] at hn
  have hj:xs[j]? = some (k,p):=by simpa using h
  have:x.1≠k:=fun e=>hn.1 (e ▸ UX (f:=(·.1)) (OX hj))
  rw [Q5,OH (by simp [this]),AY hn.2 hj]
theorem AZ {α β:Type}(f:α->β):∀ (l:List α)(j:Nat),(l.map f).eraseIdx j=(l.eraseIdx j).map f
 | [],_=>rfl
 | _::_,0=>rfl
 | a::l,j+1=>by rw [N0,Q5,Q5,N0,AZ f l j]
noncomputable def kL (ps:bN)(k:List Int):bN:=ps.filter fun p=>!decide (p.1=k)
noncomputable def i7 (kvs:List (List Int×D))(k:List Int):List (List Int×D):=kvs.filter fun p=>!decide (p.1=k)
theorem A0 {k:List Int}:∀ {ps:bN}{ws:List NT},Vals (ps.map (·.2.2)) ws->∃ ws',Vals ((kL ps k).map (·.2.2)) ws'/\((a8 ps ws).filter fun x=>!decide (x.1=k))=a8 (kL ps k) ws'
 | [],_,.nil=>⟨[],.nil,by simp [a8]⟩
 | p::ps,_,.cons (b:=w) r t=>by
  obtain ⟨ws',h1,h2⟩:=A0 (ps:=ps) t
  unfold kL a8 at *
  by_cases e:p.1=k
  ·refine ⟨ws',?_,?_⟩
   ·rw [OA (by simp [e])];exact h1
   ·rw [OA (by simp [e]),Oq,OA (by simp [e])];exact h2
  ·refine ⟨w::ws',?_,?_⟩
   ·rw [OH (by simp [e])];exact .cons r h1
   ·rw [OH (by simp [e]),Oq,OH (by simp [e]),Oq,h2]
theorem IsTs.pop {K:NO}{π:Nat->Addr}{n:Nat}{H:Hp}(k:List Int):∀ {ps:bN}{kvs:List (List Int×D)},IsTs K π n H ps kvs->IsTs K π n H (kL ps k) (i7 kvs k)
 | _,_,.nil=>.nil
 | p::ps,q::kvs,.cons e t=>by
  have ih:=IsTs.pop k t
  unfold kL i7 at *
  by_cases h:p.1=k
  ·rw [OA (by simp [h]),OA (by simp [<- e.1,h])];exact ih
  ·rw [OH (by simp [h]),OH (by simp [<- e.1,h])];exact .cons e ih
section
variable {P:Oo}{w:OO}{K:Type} [DecidableEq K] {knd:V3 P w K}
theorem Kt (knd:V3 P w K)(d a:Addr):Wz P w (Builtin.«dict.pop» ⟨[.ref d,.ref a],[]⟩) (fun A R s=>knd.room A.in1/\∃ k xs p,knd.is s.heap k a/\s.heap.DictOfH knd d xs/\xs.length<=N4/\Q1 xs k=some p /\
   ∀ h',h'.DictOfH knd d (xs.filter fun x=>!decide (x.1=k))->Qk d s.heap h'->R (.ok (.ret p.2)) { s with heap:=h',toks:=s.toks+knd.draws k }):=
 .of_wp fun A R s ⟨hu,k,xs,p,hk,hm,hz,hp,q⟩=>by
  obtain ⟨o,es,ep,ho,hc,hd,he,his,hn⟩:=id hm
  have hes:es.size=xs.length:=Sl he
  have hpos:0<xs.length:=by
   cases xs with
   | nil=>simp [Q1] at hp
   | cons=>simp
  unfold Builtin.«dict.pop»
  refine NQ ?_
  unfold Sz
  refine NQ (PB hm.typeIs (N1 ?_))
  show Oi _ _ (dictEntries d >>= _) _ _ s
  refine NQ (OV ho hd (NQ (N1 ?_)))
  have hne:es.isEmpty=false:=by
   rw [Array.isEmpty_eq_false_iff_exists_mem.mpr]
   exact ⟨es[0]'(by omega),U9 _⟩
  rw [hne]
  show Oi _ _ (Tj d (.ref a) >>= _) _ _ s
  refine NQ ?_
  unfold Tj
  refine O4 (NQ (knd.pyHash hu hk (NQ (SN (s:={ s with toks:=s.toks+knd.draws k }) hu hk ho hd he his hn (fun hno=>?_) fun j p' hj=>?_))))
  ·exact absurd (Tu hno) (by rw [hp];simp)
  ·have e1:=Vj hn hj
   rw [hp] at e1
   cases e1
   refine NQ (OV (s:={ s with toks:=s.toks+knd.draws k }) ho hd ?_)
   rw [VW he j,hj]
   refine NQ (SA (hz:=by omega) (s:={ s with toks:=s.toks+knd.draws k }) ho hd (N1 ?_))
   refine NQ (VS (N1 ⟨_,rfl,?_⟩))
   refine q _ ⟨_,_,ep+1,Px _ ho (RD (PL hd _)),hc.mapDictKeys _,PL hd _,?_,fun x hx=>?_,?_⟩ (Pa ..)
   ·rw [<- AY hn hj,Array.toList_eraseIdxIfInBounds,he,AZ]
   ·exact knd.keeps (his x ((Pl.mp hx).1)) ho hd (Pa ..)
   ·exact (QV.map _).nodup hn
end
noncomputable def kM:D->List D->Hm->Option (D×Hm)
 | .loc a,[y],μ=>match μ[a]? with
  | some (.dT kvs)=>(cK y).bind fun k=>(bF kvs k).map fun d=>(d,μ.set a (.dT (i7 kvs k)))
  | _=>none
 | _,_,_=>none
noncomputable def A1 (K:NO):V->List V->Hp->VK->Prop:=fun x vs H Q=>∃ a b ps k v,x=.ref a/\vs=[.ref b]/\H a=some (aP a ps)/\cU K H ps/\SqT K H b (k.map V.int)/\cQ ps k=some v/\Q v (aI H a (aP a (kL ps k)))
theorem Ku {K:NO}:c9 K kM (A1 K):=by
 intro π H μ x xs d μ' v vs Q R ix ixs hm k
 unfold kM at hm
 split at hm
 ·split at hm
  ·rename_i kvs hc
   obtain ⟨kk,h1,hm⟩:=NN.mp hm
   obtain ⟨d2,h2,hm⟩:=NU.mp hm
   cases hm
   cases ix with
   | loc hlt=>
    cases ixs with
    | cons iy t=>
     cases t
     obtain ⟨ps,e1,T⟩:=dQ R hc
     obtain ⟨b,rfl,hb⟩:=iX iy h1
     rcases T.val kk with ⟨z1,z2⟩|⟨v,d3,z1,z2,z3⟩
     ·rw [z2] at h2;cases h2
     ·rw [z2] at h2
      cases h2
      obtain ⟨e4,R4⟩:=R.put (c:=.dT (i7 kvs kk)) (o:=aP _ (kL ps kk)) hlt e1 (.inr (.inr ⟨_,rfl⟩)) ⟨_,rfl,(T.pop kk).to⟩
      exact ⟨_,b,ps,kk,v,rfl,rfl,e1,T.keys,hb,z1,k π _ _ e4 R4 (z3.mono e4)⟩
  ·cases hm
 ·cases hm
theorem Kw {X:Cx}(hu:X.A.units+1<PR):dJ X "dict.pop" (A1 X.K):=by
 intro XB s σ H x vs v us Q I rx rv h
 obtain ⟨a,b,ps,k,z,rfl,rfl,e,hk,hb,hv,q⟩:=h
 cases rx
 cases rv with
 | cons ru t=>
  cases t
  rename_i u
  obtain rfl:u=Og b:=ru
  obtain ⟨hs,hl,ws,r,d⟩:=fU I (.of e) hk
  have hx:(a8 ps ws).length<=N4:=by
   have:=congrArg OJ (iW r)
   rw [NP,NP] at this
   omega
  have rel:=iD r k
  rw [hv] at rel
  cases hp:Q1 (a8 ps ws) k with
  | none=>rw [hp] at rel;exact rel.elim
  | some p=>
   rw [hp] at rel
   refine Sj T4 d.typeIs PySem.F.entry_dict_pop (PySem.F.args_dict_pop_2 _ _) (Kt (PJ (P8 X.prog X.w)) a b) ⟨iE hu,k,_,p,iU I hb,d,hx,hp,fun h' d' hs'=>?_⟩
   obtain ⟨ws',r',ex⟩:=A0 (k:=k) r
   rw [ex] at d'
   have he:∃ q,h'.get? a=some q:=let ⟨q,_,_,hq,_⟩:=d';⟨q,hq⟩
   exact ⟨z,_,oG I (by rw [e];exact PX) hs' he (nB hs (OU (O8 _ _) hl) r' d'),rel,q⟩
end L3
namespace L3
open PySem L2
structure Sig where
 fn:List (Str×Nat)
 con:List (Str×D)
 tab:List (Str×List (aW×D))
 no:List Str
 dIt:List Str
 dEq:List Str
 dMe:List Str
structure Cs where
 N:List Str
 ks:List (Str×Qc)
noncomputable def i8 (x:Str):List Str->Option Nat
 | []=>none
 | y::r=>if x=y then some 0 else (i8 x r).map (·+1)
theorem nH {x:Str}:∀ {N:List Str}{i:Nat},i8 x N=some i->N[i]? = some x
 | [],_,h=>by cases h
 | y::r,i,h=>by
  unfold i8 at h
  split at h
  ·rename_i e;cases h;subst e;rfl
  ·obtain ⟨j,h1,h2⟩:=NU.mp h
   subst h2
   have:=nH h1
   simpa using this
noncomputable def glob (c:Cs)(x:Str):Bool:=decide (c.ks.lookup x=some .globalImplicit)&&!(x == ("__debug__":Str))
noncomputable def kZ (c:Cs)(x:Str):Bool:=(decide (c.ks.lookup x=some .local)||decide (c.ks.lookup x=some .cell)||decide (c.ks.lookup x=some .free))&&!(x == ("__debug__":Str))&&!(x == ("__classdict__":Str))
noncomputable def kN (c:Cs)(x:Str):Bool:=decide (c.ks.lookup x=some .local)||decide (c.ks.lookup x=some .cell)
noncomputable def tI (x:Str):Option String:=
 if x = "int" then some "int" else if x = "bool" then some "bool" else if x = "str" then some "str" else if x = "list" then some "list" else if x = "tuple" then some "tuple" else if x = "dict" then some "dict" else none
theorem Ky {x:Str}{n:String}(h:tI x=some n):Pf x=some (.type n)/\x ≠ "__name__":=by
 unfold tI at h
 split at h
 ·rename_i e;subst e;cases h;exact ⟨Vs,by decide⟩
 split at h
 ·rename_i e;subst e;cases h;exact ⟨Vt,by decide⟩
 split at h
 ·rename_i e;subst e;cases h;exact ⟨Vo,by decide⟩
 split at h
 ·rename_i e;subst e;cases h;exact ⟨Rg,by decide⟩
 split at h
 ·rename_i e;subst e;cases h;exact ⟨Vn,by decide⟩
 split at h
 ·rename_i e;subst e;cases h;exact ⟨Sb,by decide⟩
 ·cases h
noncomputable def tJ (S:Sig)(c:Cs)(x:Str):ME:=
 if kZ c x=true then (match i8 x c.N with|some i=>aA i|none=>bT)
 else if glob c x=true then (match S.con.lookup x with
  | some d=>mC d
  | none=>if S.no.contains x=true then (match tI x with|some n=>mC (.ty n)|none=>bT) else bT)
 else bT
noncomputable def eQ (r:N2->ME):List N2->MA
 | []=>aD
 | e::es=>aC (r e) (eQ r es)
noncomputable def pJ (op:BoolOp):List ME->ME
 | []=>bT
 | [m]=>m
 | m::r=>match op with
  | .And=>iM m (pJ op r)
  | .Or=>rD m (pJ op r)
noncomputable def pK (op:BoolOp):List MT->MT
 | []=>lP
 | [m]=>m
 | m::r=>match op with
  | .And=>jS m (pK op r)
  | .Or=>iL m (pK op r)
noncomputable def A2 (op:Uv)(a b:ME):ME:=match op with
 | .Add=>aB bB a b
 | .Sub=>aB lC a b
 | .Mult=>aB bQ a b
 | .FloorDiv=>aB cJ a b
 | .Mod=>aB bX a b
 | .Pow=>aB rN a b
 | _=>bT
noncomputable def i9 (op:RX)(ns:Bool)(a b:ME):ME:=match op with
 | .Eq=>aB (bE false) a b
 | .NotEq=>aB (bE true) a b
 | .Lt=>aB lE a b
 | .LtE=>aB rV a b
 | .Gt=>aB fC a b
 | .GtE=>aB rW a b
 | .In=>if ns=true then aB (eB false) a b else bT
 | .NotIn=>if ns=true then aB (eB true) a b else bT
 | _=>bT
noncomputable def l7 (r:N2->ME):Option N2->MO
 | none=>iN
 | some e=>iO (r e)
noncomputable def eT:MF:=fun ds μ=>match ds with
 | [.loc a]=>match μ[a]? with
  | some (.lst xs)=>some (.int xs.length,μ)
  | some (.st ks)=>some (.int ks.length,μ)
  | some (.dT kvs)=>some (.int kvs.length,μ)
  | _=>none
 | _=>mU ds μ
noncomputable def gH:MF:=fun ds μ=>match ds with
 | [.loc a]=>match μ[a]? with
  | some (.dT kvs)=>some (.loc μ.length,μ++[.lst (kvs.map fun k=>D.tup (k.1.map D.int))])
  | _=>mW [.loc a] μ
 | ds=>mW ds μ
theorem Kz {K:NO}:cZ K gH (fun xs H Q=>(∃ p ys,xs=[.ref p]/\(SqL K H p ys\/SqT K H p ys)/\∀ l,H l=none->Q (.ref l) (aI H l (.lst ys)))\/AD K xs H Q):=by
 intro π H μ xs d μ' vs Q R i hm k
 unfold gH at hm
 split at hm
 ·rename_i a
  split at hm
  ·rename_i kvs hy
   cases hm
   cases i with
   | cons i t=>
    cases t
    cases i
    obtain ⟨ps,h1,T⟩:=dQ R hy
    refine .inr ⟨_,ps,rfl,h1,T.keys,fun l hl=>?_⟩
    obtain ⟨e2,R2,_⟩:=R.alloc (c:=.lst (kvs.map fun k:List Int×D=>D.tup (k.1.map D.int))) (o:=.lst (ps.map fun p:List Int×Addr×V=>V.ref p.2.1)) hl T.to.2.1
    exact k _ _ _ e2 R2 fA
  ·exact .inl (yW π H μ _ d μ' vs Q R i hm k)
 ·exact .inl (yW π H μ _ d μ' vs Q R i hm k)
noncomputable def tK (x:Str):Option MF:=
 if x = "len" then some eT
 else if x = "isinstance" then some mS
 else if x = "list" then some gH
 else if x = "all" then some o8
 else if x = "sorted" then some eD
 else none
noncomputable def KA (K:NO):List V->Hp->VK->Prop:=fun xs H Q=>r6 K xs H Q\/(∃ a L,xs=[V.ref a]/\H a=some (oI a L)/\Q (.int L.length) H)\/AB K xs H Q
theorem KG {K:NO}:cZ K eT (KA K):=by
 intro π H μ xs d μ' vs Q R i hm k
 unfold eT at hm
 split at hm
 ·rename_i a
  split at hm
  ·rename_i ys hy
   refine .inl (yV π H μ _ d μ' vs Q R i ?_ k)
   simp only [mU,bM,hy]
   exact hm
  ·rename_i ks hy
   cases hm
   cases i with
   | cons i t=>
    cases t
    cases i
    obtain ⟨L,h1,h2,_⟩:=R.st a ks hy
    have:=congrArg OJ h2
    rw [NP] at this
    refine .inr (.inl ⟨_,L,rfl,h1,?_⟩)
    rw [this]
    exact k π _ H .refl R (.int _)
  ·rename_i kvs hy
   cases hm
   cases i with
   | cons i t=>
    cases t
    cases i
    obtain ⟨ps,h1,T⟩:=dQ R hy
    have:=congrArg OJ T.to.1
    rw [NP,NP] at this
    refine .inr (.inr ⟨_,ps,rfl,h1,T.keys,?_⟩)
    rw [this]
    exact k π _ H .refl R (.int _)
  ·cases hm
 ·exact .inl (yV π H μ _ d μ' vs Q R i hm k)
theorem KH {X:Cx}{x:Str}{f:MF}(hcalm:X.calm=true)(hun:X.A.units+64<PR)(h:tK x=some f):∃ v r,Pf x=some v/\((∃ id,v=.builtin id)\/∃ T,v=.type T)/\CallR X v r/\cZ X.K f r/\x ≠ "__name__":=by
 unfold tK at h
 split at h
 ·rename_i e;subst e;cases h;exact ⟨_,_,Vq,.inl ⟨_,rfl⟩,call_lenM.or (call_lenT.or JJ),KG,by decide⟩
 split at h
 ·rename_i e;subst e;cases h;exact ⟨_,_,Vr,.inl ⟨_,rfl⟩,GJ,GH,by decide⟩
 split at h
 ·rename_i e;subst e;cases h;exact ⟨_,_,Rg,.inr ⟨_,rfl⟩,call_list_of.or (JK hcalm),Kz,by decide⟩
 split at h
 ·rename_i e;subst e;cases h;exact ⟨_,_,Vu,.inl ⟨_,rfl⟩,Iy hcalm,Iw rfl,by decide⟩
 split at h
 ·rename_i e;subst e;cases h;exact ⟨_,_,RZ,.inl ⟨_,rfl⟩,call_sortI.or IE,Jg,by decide⟩
 ·cases h
noncomputable def tL (x:Str):Option MF:=
 tK x
theorem KI {X:Cx}{x:Str}{f:MF}(hcalm:X.calm=true)(hun:X.A.units+64<PR)(h:tL x=some f):∃ v r,Pf x=some v/\((∃ id,v=.builtin id)\/∃ T,v=.type T)/\CallR X v r/\cZ X.K f r/\x ≠ "__name__":=by
 unfold tL at h
 exact KH hcalm hun h
noncomputable def A3 (m:Str)(n:Nat):Option (D->List D->Hm->Option (D×Hm)):=
 if n=1 then (if m = "append" then some gD
  else none)
 else if n=0 then (if m = "clear" then some sH else if m = "pop" then some j7 else if m = "reverse" then some j8 else none)
 else if n=2 then (if m = "insert" then some lY else none)
 else none
noncomputable def dR:MF:=fun ds μ=>match ds with
 | [.loc a]=>match μ[a]? with
  | some (.dT kvs)=>if kvs.length<64/\(∀ p∈kvs,p.1≠[]) then some (.loc μ.length,μ++[.lst ((eE kvs).map fun k=>D.tup (k.1.map D.int))]) else none
  | _=>none
 | _=>none
theorem KJ {K:NO}:cZ K dR (AM K):=by
 intro π H μ xs d μ' vs Q R i hm k
 unfold dR at hm
 split at hm
 ·split at hm
  ·rename_i kvs hy
   split at hm
   ·rename_i hb
    cases hm
    cases i with
    | cons i t=>
     cases t
     cases i
     obtain ⟨ps,h1,T⟩:=dQ R hy
     obtain ⟨el,T2⟩:=JU T
     refine ⟨_,ps,rfl,h1,T.keys,by omega,fun p hp z=>?_,fun l hl=>?_⟩
     ·have:p.1∈kvs.map (·.1):=by rw [<- T.to.1];exact NZ.mpr ⟨p,hp,rfl⟩
      obtain ⟨q,hq,e⟩:=NZ.mp this
      exact hb.2 q hq (e.trans z)
     ·obtain ⟨e2,R2,_⟩:=R.alloc (c:=.lst ((eE kvs).map fun k:List Int×D=>D.tup (k.1.map D.int))) (o:=.lst ((iF ps).map fun p:List Int×Addr×V=>V.ref p.2.1)) hl T2.to.2.1
      exact k _ _ _ e2 R2 fA
   ·cases hm
  ·cases hm
 ·cases hm
noncomputable def tN:MF:=fun ds μ=>match ds with
 | [.loc a]=>match μ[a]? with
  | some (.dT kvs)=>if kvs≠[]/\(kvs.map fun p=>Tb.hashT p.1).Nodup then some (.loc μ.length,μ++[.dT kvs]) else none
  | _=>none
 | _=>none
theorem KL {K:NO}:cZ K tN (AU K):=by
 intro π H μ xs d μ' vs Q R i hm k
 unfold tN at hm
 split at hm
 ·split at hm
  ·rename_i kvs hy
   split at hm
   ·rename_i hb
    cases hm
    cases i with
    | cons i t=>
     cases t
     cases i
     obtain ⟨ps,h1,T⟩:=dQ R hy
     have ek:=T.to.1
     refine ⟨_,ps,rfl,h1,T.keys,fun z=>?_,?_,fun l hl=>?_⟩
     ·rw [z] at ek
      exact hb.1 (Sn.mp ek.symm)
     ·have:(ps.map fun p=>Tb.hashT p.1)=kvs.map fun p=>Tb.hashT p.1:=by
       have:=congrArg (UM Tb.hashT) ek
       simpa [N6,UB] using this
      rw [this];exact hb.2
     ·obtain ⟨e2,R2,_⟩:=R.alloc (c:=.dT kvs) (o:=aP l ps) hl ⟨ps,rfl,T.to⟩
      exact k _ _ _ e2 R2 fA
   ·cases hm
  ·cases hm
 ·cases hm
noncomputable def tO (S:Sig):N2->List N2->Option (Bool×N2)
 | .Name x _,[.Name y p]=>if S.dMe.contains y=true then (if x = "sorted" then some (true,.Name y p) else if x = "dict" then some (false,.Name y p) else none) else none
 | _,_=>none
noncomputable def A4 (S:Sig)(o:N2)(m:Str)(n:Nat):Option (D->List D->Hm->Option (D×Hm)):=
 if m = "pop"/\n=1 then (match o with|.Name x _=>if S.dMe.contains x=true then some kM else none|_=>none) else
 if m = "setdefault"/\n=2 then some kK else if m = "get"/\n=2 then some iZ else if m = "clear"/\n=0 then (match o with|.Name x _=>if S.dMe.contains x=true then some tH else none|_=>none) else none
noncomputable def A5 (S:Sig):N2->Bool
 | .Name x _=>S.dEq.contains x
 | .Dict [] [] _=>S.dEq.contains "{}"
 | _=>false
noncomputable def l8 (op:RX)(a b:ME):ME:=match op with
 | .Eq=>aB (fK false) a b
 | .NotEq=>aB (fK true) a b
 | _=>bT
noncomputable def tP (S:Sig)(c:Cs)(tg:N2):N2->Option Nat
 | .Name x _=>match tg with
  | .Name _ _=>if S.dIt.contains x=true then i8 x c.N else none
  | _=>none
 | _=>none
noncomputable def tQ (S:Sig)(F:Str->MF)(r:N2->ME)(c:Cs)(f:N2)(args:List N2)(cpos:Py):ME:=match f with
 | .Name x _=>if glob c x&&args.all c4 then (match S.fn.lookup x with
   | some n=>if args.length=n then aM (F x) (eQ r args) else bT
   | none=>if S.no.contains x&&!args.isEmpty then (match tL x with|some g=>aM g (eQ r args)|none=>bT) else bT)
  else bT
 | .Attribute o m apos=>if lQ o&&(apos.endLine == cpos.line)&&args.all c4 then (
   match A4 S o m args.length with
   | some g=>fJ g (r o) (eQ r args)
   | none=>
   match A3 m args.length with
   | some g=>dP g (r o) (eQ r args)
   | none=>
    bT)
  else bT
 | _=>bT
noncomputable def tR:N2->Option (N2×List N2)
 | .Call f as [] _=>some (f,as)
 | _=>none
theorem KN {e f:N2}{as:List N2}(h:tR e=some (f,as)):∃ pos,e=.Call f as [] pos:=by
 unfold tR at h
 split at h
 ·cases h;exact ⟨_,rfl⟩
 ·cases h
noncomputable def pL:N2->Option Str
 | .Name x _=>some x
 | _=>none
theorem A6 {e:N2}{x:Str}(h:pL e=some x):∃ p,e=.Name x p:=by
 unfold pL at h
 split at h
 ·cases h;exact ⟨_,rfl⟩
 ·cases h
noncomputable def o1:List N2->Option N2
 | [e]=>some e
 | _=>none
theorem A7 {l:List N2}{e:N2}(h:o1 l=some e):l=[e]:=by
 unfold o1 at h
 split at h
 ·cases h;rfl
 ·cases h
noncomputable def A8 (f:N2)(args:List N2):Option (Str×Str×N2):=(pL f).bind fun x=>(o1 args).bind fun a=>(tR a).bind fun g=>(pL g.1).bind fun y=>(o1 g.2).map fun e=>(x,y,e)
theorem KO {f:N2}{args:List N2}{x y:Str}{e:N2}(h:A8 f args=some (x,y,e)):∃ p p2 pos,f=.Name x p/\args=[.Call (.Name y p2) [e] [] pos]:=by
 obtain ⟨x',h1,h⟩:=NN.mp h
 obtain ⟨a,h2,h⟩:=NN.mp h
 obtain ⟨g,h3,h⟩:=NN.mp h
 obtain ⟨y',h4,h⟩:=NN.mp h
 obtain ⟨e',h5,h⟩:=NU.mp h
 cases h
 obtain ⟨p,rfl⟩:=A6 h1
 obtain ⟨pos,rfl⟩:=KN h3
 obtain ⟨p2,h4⟩:=A6 h4
 exact ⟨p,p2,pos,rfl,by rw [A7 h2,h4,A7 h5]⟩
noncomputable def KP (f:N2)(args:List N2):Option (Bool×N2):=(A8 f args).bind fun t=>
 if t.1 = "list"/\t.2.1 = "reversed" then some (true,t.2.2) else
 none
noncomputable def A9:Bool->Str
 | false=>"range"
 | true=>"reversed"
noncomputable def lstM:Bool->MF
 | true=>gG
 | false=>gG
noncomputable def tS (S:Sig)(F:Str->MF)(r:N2->ME)(c:Cs)(f:N2)(args:List N2)(cpos:Py):ME:=
 match KP f args with
 | some (b,e)=>if glob c "list" && glob c (A9 b)&&S.no.contains "list" && S.no.contains (A9 b)&&c4 e then aM (lstM b) (eQ r [e]) else bT
 | none=>tQ S F r c f args cpos
noncomputable def tT (S:Sig)(F:Str->MF)(r:N2->ME)(c:Cs)(f:N2)(args:List N2)(cpos:Py):ME:=
 match tO S f args with
 | some (true,e)=>if glob c "sorted" && S.no.contains "sorted" then aM dR (eQ r [e]) else bT
 | some (false,e)=>if glob c "dict" && S.no.contains "dict" then aM tN (eQ r [e]) else bT
 | none=>
 tS S F r c f args cpos
noncomputable def nI (c:Cs)(scope:Qn)(xs:List Str):Bool:=
 (scope.names.all fun y=>decide (y.2≠.cell))&&decide (scope.kind=.function)&&(scope.names.all fun y=>decide (y.2≠.local)||decide (scope.names.lookup y.1=some .local)) &&
 (xs.all fun x=>decide (scope.names.lookup x=some .local))&&decide xs.Nodup&&(scope.names.all fun y=>decide (y.2≠.free)||decide (c.ks.lookup y.1=some .cell)||decide (c.ks.lookup y.1=some .free)) &&
 (scope.names.all fun y=>decide (y.2≠.local)||!(bD xs c.N).contains y.1)&&decide (bD xs c.N).Nodup&&(c.N.all fun y=>!xs.contains y||decide (scope.names.lookup (lF y)=none))
noncomputable def nJ (c:Cs)(scope:Qn)(xs:List Str):Cs:=
 ⟨bD xs c.N++xs,scope.names.map fun (n,k)=>if (k == PU&&c.ks.lookup n == some .cell) then (n,P2) else (n,k)⟩
noncomputable def Ba (r:N2->MT):List N2->MT
 | []=>iQ
 | [t]=>r t
 | _=>lP
noncomputable def tU (S:Sig)(c:Cs):N2->Option (List N2)
 | .Call (.Name x _) args [] _=>if x = "range" then (if glob c x&&S.no.contains x&&args.all c4 then some args else none) else none
 | _=>none
noncomputable def pM (S:Sig)(r:N2->ME)(c:Cs)(e:N2):MI:=match tU S c e with
 | some [a]=>mX (eQ r [a])
 | some [a,b]=>lN (eQ r [a,b])
 | some _=>sC
 | none=>dO (r e)
noncomputable def tV (S:Sig)(c:Cs):N2->Option N2
 | .Call (.Name x _) [a] [] _=>if x = "enumerate" then (if glob c x&&S.no.contains x&&c4 a then some a else none) else none
 | _=>none
noncomputable def tW (S:Sig)(r:N2->ME)(c:Cs)(e:N2):MI:=match tV S c e with
 | some _=>sC
 | none=>pM S r c e
noncomputable def tX (S:Sig)(r:N2->ME)(c:Cs)(e:N2):MI:=tW S r c e
noncomputable def tY:N2->Option (List Str)
 | .Name x _=>some [x]
 | .Tuple es _ _=>es.mapM fun e=>match e with|.Name x _=>some x|_=>none
 | _=>none
noncomputable def tZ:N2->Nat->BD
 | .Tuple ..,n=>yT n
 | _,_=>mT
noncomputable def jA (S:Sig)(r:N2->ME)(c:Cs)(tg e:N2):MI:=match tg with
 | .Tuple ..=>tX S r c e
 | _=>pM S r c e
noncomputable def gI (mi:MI)(rE:Cs->N2->ME)(rT:Cs->N2->MT)(c:Cs)(elt tg iter:N2)(ifs:List N2)(scope:Qn):ME:=match tY tg with
 | some xs=>if nI c scope xs&&eA iter then lO (tZ tg xs.length) mi (Ba (rT (nJ c scope xs)) ifs) (rE (nJ c scope xs) elt) else bT
 | none=>bT
noncomputable def t4 (S:Sig)(rE:Cs->N2->ME)(rT:Cs->N2->MT)(c:Cs)(elt tg iter:N2)(ifs:List N2)(scope:Qn):ME:=
 match tP S c tg iter with
 | some i=>kJ i (gI (cT (rE c iter)) rE rT c elt tg iter ifs scope) (gI (jA S (rE c) c tg iter) rE rT c elt tg iter ifs scope)
 | none=>
 gI (jA S (rE c) c tg iter) rE rT c elt tg iter ifs scope
noncomputable def Bb:Const->ME
 | .int i=>mC (.int i)
 | .bool b=>mC (.bl b)
 | .str s=>mC (.str s)
 | .none=>mC .non
 | _=>bT
noncomputable def Bc (m:ME):UnaryOp->ME
 | .USub=>fS m
 | .Not=>rF m
 | _=>bT
noncomputable def t5 (S:Sig)(r:N2->ME)(a:N2):List RX->List N2->ME
 | [op],[b]=>if A5 S b then l8 op (r a) (r b) else i9 op (eA b) (r a) (r b)
 | _,_=>bT
noncomputable def t6 (r:N2->ME):List (Option N2)->List N2->ME
 | [],[]=>fI
 | _,_=>bT
noncomputable def t7 (S:Sig)(r:N2->ME)(c:Cs)(a b:N2):ME:=match b with
 | .Slice lo hi none _=>jT (r a) (l7 r lo) (l7 r hi)
 | .Slice lo hi (some st) _=>lW (r a) (l7 r lo) (l7 r hi) (l7 r (some st))
 | b=>if lM b then aB aH (r a) (r b) else bT
noncomputable def t8 (r:N2->ME)(es:List N2):ME:=if es.all c4 then cP (eQ r es) else bT
noncomputable def t9 (r:N2->ME)(es:List N2):ME:=if es.all c4 then c5 (eQ r es) else bT
noncomputable def uA (S:Sig)(F:Str->MF)(r:N2->ME)(c:Cs)(f:N2)(args:List N2)(cpos:Py):List QY->ME
 | []=>tT S F r c f args cpos
 | _=>bT
noncomputable def uB (S:Sig)(rE:Cs->N2->ME)(rT:Cs->N2->MT)(c:Cs)(elt:N2)(scope:Qn):List Comprehension->ME
 | [⟨tg,iter,ifs,0⟩]=>t4 S rE rT c elt tg iter ifs scope
 | _=>bT
noncomputable def Bd (S:Sig)(F:Str->MF)(rE:Cs->N2->ME)(rT:Cs->N2->MT)(c:Cs):N2->ME
 | .Name x _=>tJ S c x
 | .Constant v _ _=>Bb v
 | .BinOp a op b _=>A2 op (rE c a) (rE c b)
 | .UnaryOp op a _=>Bc (rE c a) op
 | .Compare a ops bs _=>t5 S (rE c) a ops bs
 | .BoolOp op vs _=>pJ op (vs.map (rE c))
 | .IfExp t a b _=>gY (rT c t) (rE c a) (rE c b)
 | .Tuple es _ _=>t8 (rE c) es
 | .List es _=>t9 (rE c) es
 | .Dict keys values _=>t6 (rE c) keys values
 | .Subscript a b _=>t7 S (rE c) c a b
 | .Call f args kws cpos=>uA S F (rE c) c f args cpos kws
 | .ListComp elt gs scope _=>uB S rE rT c elt scope gs
 | _=>bT
noncomputable def nK (r:N2->ME)(e:N2):MT:=if r8 e then iB (r e) else lP
noncomputable def uC (S:Sig)(r:N2->ME)(a:N2)(ops:List RX)(bs:List N2)(p:Py):MT:=match ops,bs with
 | [op],[b]=>if A5 S b then bC (l8 op (r a) (r b)) else bC (i9 op (eA b) (r a) (r b))
 | ops,bs=>nK r (.Compare a ops bs p)
noncomputable def KQ (r:N2->ME)(t:MT)(a:N2)(p:Py):UnaryOp->MT
 | .Not=>t
 | op=>nK r (.UnaryOp op a p)
noncomputable def Be (S:Sig)(rE:Cs->N2->ME)(rT:Cs->N2->MT)(c:Cs):N2->MT
 | .BoolOp op vs _=>pK op (vs.map (rT c))
 | .UnaryOp op a p=>KQ (rE c) (k8 (rT c a)) a p op
 | .Compare a ops bs p=>uC S (rE c) a ops bs p
 | e=>nK (rE c) e
noncomputable def tr (S:Sig)(F:Str->MF):Nat->(Cs->N2->ME)×(Cs->N2->MT)
 | 0=>(fun _ _=>bT,fun _ _=>lP)
 | n+1=>(Bd S F (tr S F n).1 (tr S F n).2,Be S (tr S F n).1 (tr S F n).2)
structure Okx (S:Sig)(F:Str->MF)(k:Nat)(c:Cs)(X:Cx):Prop where
 N:X.N=c.N
 nd:X.N.Nodup
 ks:X.env.scope.names=c.ks
 kind:X.env.scope.kind=.function
 calm:X.calm=true
 room:Room k X.A
 never:WJ (Ot X.prog X.w) X.A X.env X.xe
 fn:∀ x n,S.fn.lookup x=some n->∃ (f:Addr)(fd:P4)(ps:List Str),FnOk X.prog X.w X.K X.mg X.base dZ k f fd ps (gA X.K n (F x))/\X.mg x=some (.ref f)/\Po X.K (.ref f)=true/\Binds X.K fd ps []
 con:∀ x d,S.con.lookup x=some d->∃ v u,X.mg x=some u/\RelV v u/\∀ π n H,IsD X.K π n H v d
 tab:∀ x kvs,S.tab.lookup x=some kvs->TabOk X x kvs
 no:∀ x,S.no.contains x=true->X.mg x=none
section
variable {S:Sig}{F:Str->MF}{k:Nat}{c:Cs}{X:Cx}
theorem Okx.gl (O:Okx S F k c X){x:Str}(h:glob c x=true):Gl X x/\(x == ("__debug__":Str))=false:=by
 unfold glob at h
 rw [N5] at h
 refine ⟨?_,by simpa using h.2⟩
 show X.env.scope.names.lookup x=_
 rw [O.ks]
 exact of_decide_eq_true h.1
theorem Okx.vis (O:Okx S F k c X){x:Str}(h:kZ c x=true):mJ X.env.scope x/\(x == ("__debug__":Str))=false/\(x == ("__classdict__":Str))=false:=by
 unfold kZ at h
 rw [N5,N5,Q0,Q0] at h
 obtain ⟨⟨h1,h2⟩,h3⟩:=h
 refine ⟨?_,by simpa using h2,by simpa using h3⟩
 unfold mJ
 rw [O.ks]
 rcases h1 with (h1|h1)|h1
 ·exact .inl (of_decide_eq_true h1)
 ·exact .inr (.inl (of_decide_eq_true h1))
 ·exact .inr (.inr (of_decide_eq_true h1))
theorem KR (O:Okx S F k c X)(x:Str)(pos:Py):QE X (.Name x pos) (tJ S c x):=by
 unfold tJ
 split
 ·rename_i h
  obtain ⟨h1,h2,h3⟩:=O.vis h
  split
  ·rename_i i hi
   exact GN i (by rw [O.N];exact nH hi) h1 h2 h3
  ·exact bV
 split
 ·rename_i h
  obtain ⟨h1,h2⟩:=O.gl h
  split
  ·rename_i d hd
   obtain ⟨v,u,m,r,i⟩:=O.con x d hd
   exact ⟨k7 (Dd h1 m r h2) i⟩
  ·split
   ·rename_i hn
    split
    ·rename_i n ht
     obtain ⟨b1,b2⟩:=Ky ht
     exact Hq (O.no x hn) b1 h1 b2 h2
    ·exact bV
   ·exact bV
 ·exact bV
theorem gJ {r:N2->ME}(hr:∀ e,QE X e (r e)):∀ (es:List N2),es.all c4=true->QA X es (eQ r es) es.length
 | [],_=>Hf
 | e::es,h=>by
  rw [OR,N5] at h
  exact Hg (hr e) (gJ hr es h.2) h.1
theorem Bf {r:N2->ME}(hr:∀ e,QE X e (r e))(op:BoolOp)(pos:Py):∀ (vs:List N2),QE X (.BoolOp op vs pos) (pJ op (vs.map r))
 | []=>bV
 | [e]=>Hb (hr e)
 | e::e2::es=>by
  have ih:=Bf hr op pos (e2::es)
  cases op with
  | And=>exact Hc (hr e) ih
  | Or=>exact Hd (hr e) ih
theorem Bg {r:N2->MT}(hr:∀ e,QT X e (r e))(op:BoolOp)(pos:Py):∀ (vs:List N2),QW X (.BoolOp op vs pos) (pK op (vs.map r))
 | []=>Ie
 | [e]=>by
  cases op with
  | And=>exact Hz (hr e)
  | Or=>exact HA (hr e)
 | e::e2::es=>by
  have ih:=Bg hr op pos (e2::es)
  cases op with
  | And=>exact HB (hr e) ih
  | Or=>exact HC (hr e) ih
theorem KS {a b:N2}{ma mb:ME}(ha:QE X a ma)(hb:QE X b mb)(op:Uv)(pos:Py):QE X (.BinOp a op b pos) (A2 op ma mb):=by
 cases op with
 | Add=>exact GS ha hb
 | Sub=>exact GU ha hb
 | Mult=>exact GV ha hb
 | FloorDiv=>exact GW ha hb
 | Mod=>exact GX ha hb
 | Pow=>exact GY ha hb
 | _=>exact bV
theorem KU (O:Okx S F k c X){a b:N2}{ma mb:ME}(ha:QE X a ma)(hb:QE X b mb)(op:RX)(pos:Py):QE X (.Compare a [op] [b] pos) (i9 op (eA b) ma mb):=by
 cases op with
 | Eq=>exact G5 O.room ha hb
 | NotEq=>exact G6 O.room ha hb
 | Lt=>exact G7 ha hb
 | LtE=>exact G8 ha hb
 | Gt=>exact G9 ha hb
 | GtE=>exact Ha ha hb
 | In=>
  simp only [i9]
  split
  ·rename_i h;exact JM O.room ha hb h
  ·exact bV
 | NotIn=>
  simp only [i9]
  split
  ·rename_i h;exact JN O.room ha hb h
  ·exact bV
 | _=>exact bV
theorem uD {e:N2}:QT X e (bC bT):=⟨fun XB s σ H Q I h=>by
 obtain ⟨π,ρ,μ,d,μ',R,E,hm,k⟩:=h
 cases hm⟩
theorem KW (O:Okx S F k c X){a b:N2}{ma mb:ME}(ha:QE X a ma)(hb:QE X b mb)(op:RX)(pos:Py):QT X (.Compare a [op] [b] pos) (bC (i9 op (eA b) ma mb)):=by
 cases op with
 | Eq=>exact Hr O.room ha hb
 | NotEq=>exact Hs O.room ha hb
 | Lt=>exact Ht ha hb
 | LtE=>exact Hu ha hb
 | Gt=>exact Hv ha hb
 | GtE=>exact Hw ha hb
 | In=>
  simp only [i9]
  split
  ·rename_i h;exact JO O.room ha hb h
  ·exact uD
 | NotIn=>
  simp only [i9]
  split
  ·rename_i h;exact JP O.room ha hb h
  ·exact uD
 | _=>exact uD
theorem nL {r:N2->ME}(hr:∀ e,QE X e (r e)):∀ o:Option N2,QO X o (l7 r o)
 | none=>Hk
 | some e=>Hl (hr e)
theorem KY (O:Okx S F k c X){r:N2->ME}(hr:∀ e,QE X e (r e))(f:N2)(args:List N2)(cpos:Py):QE X (.Call f args [] cpos) (tQ S F r c f args cpos):=by
 unfold tQ
 split
 ·rename_i x p
  split
  ·rename_i hg
   rw [N5] at hg
   obtain ⟨g1,g2⟩:=O.gl hg.1
   have ha:=gJ hr args hg.2
   split
   ·rename_i n hn
    split
    ·rename_i hl
     obtain ⟨fa,fd,ps,FO,hm,hk,hb⟩:=O.fn x n hn
     subst hl
     cases args with
     | nil=>exact Iu FO O.room hm hk hb g1 g2
     | cons e es=>exact Ho FO O.room hm hk hb ha g1 g2
    ·exact bV
   ·split
    ·rename_i hno
     rw [N5] at hno
     split
     ·rename_i g hb
      obtain ⟨v,rr,b1,b2,b3,b4,b5⟩:=KI (X:=X) O.calm O.room.units hb
      cases args with
      | nil=>exact absurd hno.2 (by simp)
      | cons e es=>
       rcases b2 with ⟨id,rfl⟩|⟨T,rfl⟩
       ·exact y4 b3 b4 (O.no x hno.1) b1 ha g1 b5 g2
       ·exact y6 b3 b4 (O.no x hno.1) b1 ha g1 b5 g2
     ·exact bV
    ·exact bV
  ·exact bV
 ·rename_i o m apos
  split
  ·rename_i hg
   rw [N5,N5] at hg
   obtain ⟨⟨h1,h2⟩,h3⟩:=hg
   have ha:=gJ hr args h3
   split
   ·rename_i g hm
    unfold A4 at hm
    split at hm
    ·rename_i hl
     obtain ⟨rfl,hl⟩:=hl
     split at hm
     ·split at hm
      ·cases hm
       cases args with
       | nil=>cases hl
       | cons e es=>exact tG T4 PySem.F.type_dict_pop (Kw (by have:=O.room.units;omega)) Ku (hr _) ha h1 h2 (by rw [hl];decide)
      ·cases hm
     ·cases hm
    split at hm
    ·rename_i hl
     obtain ⟨rfl,hl⟩:=hl
     cases hm
     cases args with
     | nil=>cases hl
     | cons e es=>exact tG SS PySem.F.type_dict_setdefault (Kf (by have:=O.room.units;omega)) Ke (hr o) ha h1 h2 (by rw [hl];decide)
    split at hm
    ·rename_i hl
     obtain ⟨rfl,hl⟩:=hl
     cases hm
     cases args with
     | nil=>cases hl
     | cons e es=>exact tG T5 PySem.F.type_dict_get (Kb (by have:=O.room.units;omega)) Ka (hr o) ha h1 h2 (by rw [hl];decide)
    split at hm
    ·rename_i hl
     obtain ⟨rfl,hl⟩:=hl
     split at hm
     ·split at hm
      ·cases hm
       cases args with
       | cons e es=>cases hl
       | nil=>exact J9 TC PySem.F.type_dict_clear Ki Kg (hr _) h1 h2
      ·cases hm
     ·cases hm
    ·cases hm
   split
   ·rename_i g hm
    unfold A3 at hm
    split at hm
    ·rename_i hl
     cases args with
     | nil=>cases hl
     | cons e es=>
      have hn:(e::es).length<30:=by rw [hl];decide
      split at hm
      ·rename_i e1;subst e1;cases hm
       exact zO PySem.F.slot_list_append PySem.F.type_list_append xM Ik (hr o) ha h1 h2 hn
      ·cases hm
    split at hm
    ·rename_i hl
     cases args with
     | cons e es=>cases hl
     | nil=>
      split at hm
      ·rename_i e1;subst e1;cases hm
       exact sG PySem.F.slot_list_clear PySem.F.type_list_clear EY Il (hr o) h1 h2
      split at hm
      ·rename_i e1;subst e1;cases hm
       exact sG PySem.F.slot_list_pop PySem.F.type_list_pop EW Ip (hr o) h1 h2
      split at hm
      ·rename_i e1;subst e1;cases hm
       exact sG PySem.F.slot_list_reverse PySem.F.type_list_reverse EX Io (hr o) h1 h2
      ·cases hm
    split at hm
    ·rename_i hl
     cases args with
     | nil=>cases hl
     | cons e es=>
      have hn:(e::es).length<30:=by rw [hl];decide
      split at hm
      ·rename_i e1;subst e1;cases hm
       exact zO PySem.F.slot_list_insert PySem.F.type_list_insert Jd Jb (hr o) ha h1 h2 hn
      ·cases hm
    ·cases hm
   ·skip
    ·exact bV
  ·exact bV
 ·exact bV
theorem KZ (O:Okx S F k c X){r:N2->ME}(hr:∀ e,QE X e (r e))(f:N2)(args:List N2)(cpos:Py):QE X (.Call f args [] cpos) (tS S F r c f args cpos):=by
 unfold tS
 split
 ·rename_i b e h
  split
  ·rename_i hg
   rw [N5,N5,N5,N5] at hg
   obtain ⟨⟨⟨⟨g1,g2⟩,n1⟩,n2⟩,st⟩:=hg
   have ha:=gJ hr [e] (by rw [OR,st];rfl)
   obtain ⟨t,h1,h2⟩:=NN.mp h
   obtain ⟨p,p2,pos,rfl,rfl⟩:=KO h1
   split at h2
   ·rename_i hxy
    cases h2
    rw [hxy.1,hxy.2]
    exact Jp O.calm (O.no _ n1) (O.no _ n2) ha (O.gl g1).1 (O.gl g2).1
   ·cases h2
  ·exact bV
 ·exact KY O hr f args cpos
theorem pN (O:Okx S F k c X){scope:Qn}{xs:List Str}(h:nI c scope xs=true):CompSt X.env.scope X.N scope xs/\xs.Nodup:=by
 unfold nI at h
 rw [N5,N5] at h
 obtain ⟨⟨h,h8⟩,h9⟩:=h
 have h8:=of_decide_eq_true h8
 have h9':∀ y∈c.N,xs.contains y=true->scope.names.lookup (lF y)=none:=fun y hy hc=>by
  have:=Pm.mp h9 y hy
  rw [hc] at this
  simpa using this
 simp only [N5,Pm,decide_eq_true_eq,Q0,SK,List.contains_eq_mem,decide_eq_false_iff_not] at h
 obtain ⟨⟨⟨⟨⟨⟨h1,h2⟩,h3⟩,h4⟩,h7⟩,h5⟩,h6⟩:=h
 refine ⟨⟨h1,h2,fun y hy hl=>(h3 y hy).resolve_left (fun z=>z hl),h4,fun y hy hf=>?_,fun y hy hl=>?_,O.nd,by rw [O.N];exact h8,by rw [O.N];exact h9'⟩,h7⟩
 ·rw [O.ks]
  rcases h5 y hy with (z|z)|z
  ·exact absurd hf z
  ·exact .inl z
  ·exact .inr z
 ·rw [O.N]
  have:=(h6 y hy).resolve_left (fun z=>z hl)
  exact this
theorem Bh {N xs:List Str}(h:N.Nodup)(h2:xs.Nodup)(h3:∀ x∈xs,x∉N):(N++xs).Nodup:=by
 rw [Qw]
 exact ⟨h,h2,fun a ha b hb e=>by subst e;exact h3 _ hb ha⟩
theorem Okx.comp (O:Okx S F k c X){scope:Qn}{xs:List Str}(h:nI c scope xs=true){cl:List (Str×Addr)}{C:Addr}{s₀:NV}{H₀:Hp}{fp:List Addr}:Okx S F k (nJ c scope xs) (cF X scope cl C (bD xs X.N++xs) s₀ H₀ fp):=by
 obtain ⟨St,hnd⟩:=pN O h
 refine ⟨show bD xs X.N++xs=bD xs c.N++xs by rw [O.N],?_,?_,?_,O.calm,O.room,UJ,O.fn,O.con,fun y kvs q=>⟨(O.tab y kvs q).ex⟩,O.no⟩
 ·show (bD xs X.N++xs).Nodup
  exact Bh St.hnd hnd fun x hx=>St.own (x,.local) (O0 (St.here x hx)) rfl
 ·show (Wu scope X.env).names=(nJ c scope xs).ks
  unfold Wu nJ
  dsimp only
  refine Oe fun y _=>?_
  obtain ⟨n,kk⟩:=y
  dsimp only
  have:(X.env.scope.kind == ScopeKind.function)=true:=by rw [O.kind];rfl
  rw [this,Wq]
  show (if (kk == PU&&X.env.scope.names.lookup n == some P2)=true then _ else _)=_
  rw [O.ks]
 ·show (Wu scope X.env).kind=.function
  exact St.kind
theorem Bi {r:N2->MT}(hr:∀ e,QT X e (r e)):∀ es:List N2,QI X es (Ba r es)
 | []=>HE
 | [t]=>HF (hr t)
 | a::b::es=>⟨fun XB s σ H Q I h=>by
   obtain ⟨π,ρ,μ,d,μ',R,E,hm,k⟩:=h
   cases hm⟩
theorem Bj (O:Okx S F k c X){e:N2}{args:List N2}(h:tU S c e=some args):∃ p pos,e=.Call (.Name "range" p) args [] pos/\Gl X "range"/\X.mg "range" = none/\args.all c4=true:=by
 unfold tU at h
 split at h
 ·split at h
  ·rename_i e1
   subst e1
   split at h
   ·rename_i hg
    cases h
    rw [N5,N5] at hg
    exact ⟨_,_,rfl,(O.gl hg.1.1).1,O.no _ hg.1.2,hg.2⟩
   ·cases h
  ·cases h
 ·cases h
theorem Bk (O:Okx S F k c X){r:N2->ME}(hr:∀ e,QE X e (r e))(e:N2):QJ X e (pM S r c e):=by
 unfold pM
 split
 ·rename_i a h
  obtain ⟨p,pos,rfl,h1,h2,h3⟩:=Bj O h
  exact HW h1 h2 (gJ hr [a] h3)
 ·rename_i a b h
  obtain ⟨p,pos,rfl,h1,h2,h3⟩:=Bj O h
  exact HX h1 h2 (gJ hr [a,b] h3)
 ·exact j_bad
 ·exact HV (hr e)
theorem K0 (O:Okx S F k c X){e a:N2}(h:tV S c e=some a):∃ p pos,e=.Call (.Name "enumerate" p) [a] [] pos/\Gl X "enumerate"/\X.mg "enumerate" = none/\c4 a=true:=by
 unfold tV at h
 split at h
 ·split at h
  ·rename_i e1
   subst e1
   split at h
   ·rename_i hg
    cases h
    rw [N5,N5] at hg
    exact ⟨_,_,rfl,(O.gl hg.1.1).1,O.no _ hg.1.2,hg.2⟩
   ·cases h
  ·cases h
 ·cases h
theorem K1 (O:Okx S F k c X){r:N2->ME}(hr:∀ e,QE X e (r e))(e:N2):QJT X e (tW S r c e):=by
 unfold tW
 split
 ·rename_i a h
  obtain ⟨p,pos,rfl,h1,h2,h3⟩:=K0 O h
  exact j_bad.t
 ·exact (Bk O hr e).t
theorem K2 (O:Okx S F k c X){r:N2->ME}(hr:∀ e,QE X e (r e))(e:N2):QJT X e (tX S r c e):=by
 unfold tX
 exact K1 O hr e
theorem mB (O:Okx S F k c X){r:N2->ME}(hr:∀ e,QE X e (r e))(tg e:N2):PI X tg e (hX X.K (jA S r c tg e)):=by
 unfold jA
 split
 ·exact (K2 O hr e).h _ _ _
 ·exact (Bk O hr e).h _
theorem Bl {iter:N2}{env:SI}(h:eA iter=true):∀ x,Rj iter env x=pure x:=by
 intro z
 cases iter<;>first|rfl|cases h
end
theorem Bm {X:Cx}(hN:X.N.Nodup):∀ (es:List N2)(xs:List Str)(n:Nat),(es.mapM fun e=>match e with|.Name x _=>some x|_=>none)=some xs->(∀ j x,xs[j]? = some x->X.N[n+j]? = some x/\X.env.scope.names.lookup x=some .local)->QGs X es (RI n xs.length)
 | [],xs,n,h,hx=>by
  cases h
  exact y8
 | e::es,xs,n,h,hx=>by
  rw [List.mapM_cons] at h
  obtain ⟨x,h1,h⟩:=NN.mp h
  obtain ⟨ys,h2,h⟩:=NN.mp h
  cases h
  cases e with
  | Name y p=>
   cases h1
   rw [OL,RQ]
   have h0:=hx 0 x rfl
   refine y9 n hN (Bm hN es ys (n+1) h2 fun j z hz=>?_) (by simpa using h0.1) (.inl h0.2) (.inr h0.2)
   have:=hx (j+1) z (by simpa using hz)
   rw [show n+1+j=n+(j+1) by omega]
   exact this
  | _=>cases h1
theorem pO {S:Sig}{F:Str->MF}{k:Nat}{c:Cs}{X:Cx}(O:Okx S F k c X){scope:Qn}{tg:N2}{xs:List Str}(hx:tY tg=some xs)(h:nI c scope xs=true)(cl:List (Str×Addr))(C:Addr)(s₀:NV)(H₀:Hp)(fp:List Addr) :
  PG (cF X scope cl C (bD xs X.N++xs) s₀ H₀ fp) tg (eN X.K (gB X.N.length (tZ tg xs.length)))/\∀ d μ z,tZ tg xs.length d μ=some z->z.length=xs.length:=by
 obtain ⟨St,hnd⟩:=pN O h
 have hN:(bD xs X.N++xs).Nodup:=Bh St.hnd hnd fun x hx=>St.own (x,.local) (O0 (St.here x hx)) rfl
 have hloc:∀ x∈xs,(Wu scope X.env).names.lookup x=some .local:=fun x hx=>lookup_relabel_local (St.here x hx)
 unfold tY at hx
 split at hx
 ·rename_i x p
  cases hx
  refine ⟨HY (X:=cF X scope cl C (bD [x] X.N++[x]) s₀ H₀ fp) (by show (bD [x] X.N++[x]).length=_;rw [Oa,jV];rfl) (yQ (X:=cF X scope cl C (bD [x] X.N++[x]) s₀ H₀ fp) hN (by show (bD [x] X.N++[x])[X.N.length]? = _;rw [<- jV [x] X.N];simp) (.inl (hloc x (by simp))) (.inr (hloc x (by simp)))),fun d μ z hz=>?_⟩
  cases hz
  rfl
 ·rename_i es kk pt
  refine ⟨HZ (X:=cF X scope cl C (bD xs X.N++xs) s₀ H₀ fp) (by show (bD xs X.N++xs).length=_;rw [Oa,jV]) (r9 (X:=cF X scope cl C (bD xs X.N++xs) s₀ H₀ fp) (Bm (X:=cF X scope cl C (bD xs X.N++xs) s₀ H₀ fp) hN es xs X.N.length hx fun j x hj=>⟨?_,hloc x (OX hj)⟩) O.calm).h,fun d μ z hz=>?_⟩
  ·show (bD xs X.N++xs)[X.N.length+j]? = some x
   rw [Pr (by rw [jV];omega),jV,show X.N.length+j - X.N.length=j by omega]
   exact hj
  ·obtain ⟨ys,h1,h2⟩:=NN.mp hz
   split at h2
   ·rename_i hl
    cases h2
    rw [NP];exact hl
   ·cases h2
 ·cases hx
theorem K3 (O:Okx S F k c X){r:N2->ME}(hr:∀ e,QE X e (r e))(f:N2)(args:List N2)(cpos:Py):QE X (.Call f args [] cpos) (tT S F r c f args cpos):=by
 unfold tT
 split
 ·rename_i e h
  split
  ·rename_i hg
   rw [N5] at hg
   unfold tO at h
   split at h
   ·split at h
    ·split at h
     ·rename_i e1;subst e1
      cases h
      exact y4 (J4 O.calm) KJ (O.no _ hg.2) RZ (gJ hr _ rfl) (O.gl hg.1).1 (by decide) (O.gl hg.1).2
     ·split at h
      ·cases h
      ·cases h
    ·cases h
   ·cases h
  ·exact bV
 ·rename_i e h
  split
  ·rename_i hg
   rw [N5] at hg
   unfold tO at h
   split at h
   ·split at h
    ·split at h
     ·cases h
     ·split at h
      ·rename_i e1;subst e1
       cases h
       exact y6 Km KL (O.no _ hg.2) Sb (gJ hr _ rfl) (O.gl hg.1).1 (by decide) (O.gl hg.1).2
      ·cases h
    ·cases h
   ·cases h
  ·exact bV
 exact KZ O hr _ _ _
theorem pP {S:Sig}{F:Str->MF}{k:Nat}{rE:Cs->N2->ME}{rT:Cs->N2->MT}(hE:∀ c X,Okx S F k c X->∀ e,QE X e (rE c e))(hT:∀ c X,Okx S F k c X->∀ e,QT X e (rT c e))(c:Cs)(X:Cx)(O:Okx S F k c X)
  (elt tg iter:N2)(ifs:List N2)(scope:Qn)(pos:Py){mi:MI}(hi:PI X tg iter (hX X.K mi)):QE X (.ListComp elt [⟨tg,iter,ifs,0⟩] scope pos) (gI mi rE rT c elt tg iter ifs scope):=by
 unfold gI
 split
 ·rename_i xs hx
  split
  ·rename_i h
   rw [N5] at h
   refine ⟨fun XB s σ H Q I q=>?_⟩
   exact Ib ((pN O h.1).1.ok I.ok) O.calm hi (fun d μ z=>(pO O hx h.1 [] 0 s H []).2 d μ z) (fun C s₀ H₀ fp=>(pO O hx h.1 _ C s₀ H₀ fp).1) (fun C s₀ H₀ fp=>(Bi (hT _ _ (O.comp h.1)) _).h) (fun C s₀ H₀ fp=>(hE _ _ (O.comp h.1) _).h) (Bl h.2) XB s σ H Q I q
  ·exact bV
 ·exact bV
theorem K4 {S:Sig}{F:Str->MF}{k:Nat}{rE:Cs->N2->ME}{rT:Cs->N2->MT}(hE:∀ c X,Okx S F k c X->∀ e,QE X e (rE c e))(hT:∀ c X,Okx S F k c X->∀ e,QT X e (rT c e))(c:Cs)(X:Cx)(O:Okx S F k c X)
  (elt tg iter:N2)(ifs:List N2)(scope:Qn)(pos:Py):QE X (.ListComp elt [⟨tg,iter,ifs,0⟩] scope pos) (t4 S rE rT c elt tg iter ifs scope):=by
 unfold t4
 split
 ·exact JV (pP hE hT c X O elt tg iter ifs scope pos ((tF (hE c X O iter)).h tg)) (pP hE hT c X O elt tg iter ifs scope pos (mB O (hE c X O) tg iter))
 exact pP hE hT c X O elt tg iter ifs scope pos (mB O (hE c X O) tg iter)
theorem K5 {S:Sig}{F:Str->MF}{k:Nat}{c:Cs}{X:Cx}(O:Okx S F k c X){a b:N2}{ma mb:ME}(ha:QE X a ma)(hb:QE X b mb)(op:RX)(pos:Py):QE X (.Compare a [op] [b] pos) (l8 op ma mb):=by
 unfold l8
 split
 ·exact Kp O.room ha hb
 ·exact Kq O.room ha hb
 ·exact bV
theorem K6 {S:Sig}{F:Str->MF}{k:Nat}{c:Cs}{X:Cx}(O:Okx S F k c X){a b:N2}{ma mb:ME}(ha:QE X a ma)(hb:QE X b mb)(op:RX)(pos:Py):QT X (.Compare a [op] [b] pos) (bC (l8 op ma mb)):=by
 unfold l8
 split
 ·exact Kr O.room ha hb
 ·exact Ks O.room ha hb
 ·exact ⟨fun XB s σ H Q I q=>by
   obtain ⟨π,ρ,μ,b,μ',R,E,hm,k⟩:=q
   cases hm⟩
section
variable {S:Sig}{F:Str->MF}{k:Nat}{c:Cs}{X:Cx}{r:N2->ME}
theorem K7 (v:Const)(n:Nat)(p:Py):QE X (.Constant v n p) (Bb v):=by
 cases v<;>first|exact GO|exact GP|exact GQ|exact GR|exact bV
theorem K8 (hr:∀ e,QE X e (r e))(op:UnaryOp)(a:N2)(p:Py):QE X (.UnaryOp op a p) (Bc (r a) op):=by
 cases op<;>first|exact G0 (hr _)|exact G4 (hr _)|exact bV
theorem K9 (O:Okx S F k c X)(hr:∀ e,QE X e (r e))(a:N2)(ops:List RX)(bs:List N2)(p:Py):QE X (.Compare a ops bs p) (t5 S r a ops bs):=by
 unfold t5
 split
 ·split
  ·exact K5 O (hr _) (hr _) _ _
  ·exact KU O (hr _) (hr _) _ _
 ·exact bV
theorem La (O:Okx S F k c X)(hr:∀ e,QE X e (r e))(ks:List (Option N2))(vs:List N2)(p:Py):QE X (.Dict ks vs p) (t6 r ks vs):=by
 unfold t6
 try split
 ·exact Jz
 ·exact bV
theorem Lb (O:Okx S F k c X)(hr:∀ e,QE X e (r e))(a b:N2)(p:Py):QE X (.Subscript a b p) (t7 S r c a b):=by
 unfold t7
 split
 ·exact Hn (hr _) (nL hr _) (nL hr _)
 ·exact IU (hr _) (nL hr _) (nL hr _) (nL hr _)
 ·split
  ·rename_i h
   ·exact JL O.room (hr _) (hr _) h
  ·exact bV
theorem uE (hr:∀ e,QE X e (r e))(e:N2):QT X e (nK r e):=by
 unfold nK
 split
 ·rename_i h;exact Ir (hr _) h
 ·exact zC
theorem Lc (O:Okx S F k c X)(hr:∀ e,QE X e (r e))(a:N2)(ops:List RX)(bs:List N2)(p:Py):QT X (.Compare a ops bs p) (uC S r a ops bs p):=by
 unfold uC
 split
 ·split
  ·exact K6 O (hr _) (hr _) _ _
  ·exact KW O (hr _) (hr _) _ _
 ·exact uE hr _
theorem Ld (hr:∀ e,QE X e (r e))(es:List N2)(n:Nat)(p:Py):QE X (.Tuple es n p) (t8 r es):=by
 unfold t8
 split
 ·rename_i h;exact Hh (gJ hr _ h)
 ·exact bV
theorem Le (hr:∀ e,QE X e (r e))(es:List N2)(p:Py):QE X (.List es p) (t9 r es):=by
 unfold t9
 split
 ·rename_i h;exact Hi (gJ hr _ h)
 ·exact bV
theorem Lf (O:Okx S F k c X)(hr:∀ e,QE X e (r e))(f:N2)(args:List N2)(kws:List QY)(p:Py):QE X (.Call f args kws p) (uA S F r c f args p kws):=by
 unfold uA
 split
 ·exact K3 O hr _ _ _
 ·exact bV
end
theorem Bn {S:Sig}{F:Str->MF}{k:Nat}{rE:Cs->N2->ME}{rT:Cs->N2->MT}(hE:∀ c X,Okx S F k c X->∀ e,QE X e (rE c e))(hT:∀ c X,Okx S F k c X->∀ e,QT X e (rT c e))(c:Cs)(X:Cx)(O:Okx S F k c X) :
  (∀ e,QE X e (Bd S F rE rT c e))/\∀ e,QT X e (Be S rE rT c e):=by
 have hr:=hE c X O
 have ht:=hT c X O
 constructor
 ·intro e
  cases e with
  | Name x p=>exact KR O _ _
  | Constant v n p=>exact K7 v n p
  | BinOp a op b p=>exact KS (hr _) (hr _) _ _
  | UnaryOp op a p=>exact K8 hr op a p
  | Compare a ops bs p=>exact K9 O hr a ops bs p
  | BoolOp op vs p=>exact Bf hr _ _ _
  | IfExp t a b p=>exact He (ht _) (hr _) (hr _)
  | Tuple es n p=>exact Ld hr es n p
  | List es p=>exact Le hr es p
  | Dict ks vs p=>exact La O hr ks vs p
  | Subscript a b p=>exact Lb O hr a b p
  | Call f args kws cpos=>exact Lf O hr f args kws cpos
  | ListComp elt gs scope p=>
   show QE X _ (uB S rE rT c elt scope gs)
   unfold uB
   split
   ·exact K4 hE hT c X O _ _ _ _ _ _
   ·exact bV
  | _=>exact bV
 ·intro e
  cases e with
  | BoolOp op vs p=>exact HD (Bg ht _ _ _)
  | UnaryOp op a p=>
   cases op
   case Not=>exact Hy (ht _)
   all_goals exact uE hr _
  | Compare a ops bs p=>exact Lc O hr a ops bs p
  | _=>exact uE hr _
theorem uF {S:Sig}{F:Str->MF}{k:Nat}:∀ (n:Nat),(∀ c X,Okx S F k c X->∀ e,QE X e ((tr S F n).1 c e))/\∀ c X,Okx S F k c X->∀ e,QT X e ((tr S F n).2 c e)
 | 0=>⟨fun c X O e=>bV,fun c X O e=>zC⟩
 | n+1=>by
  have ih:=uF (S:=S) (F:=F) (k:=k) n
  exact ⟨fun c X O e=>(Bn ih.1 ih.2 c X O).1 e,fun c X O e=>(Bn ih.1 ih.2 c X O).2 e⟩
end L3
namespace L3
open PySem L2
noncomputable def pQ:MG:=fun _ _ _=>none
noncomputable def nM (c:Cs):List N2->Option (List Nat)
 | []=>some []
 | .Name x _::r=>if kN c x then (i8 x c.N).bind fun i=>(nM c r).map (i::·) else none
 | _=>none
noncomputable def nN (c:Cs):N2->MG
 | .Name x _=>if kN c x then (match i8 x c.N with|some i=>b7 i|none=>pQ) else pQ
 | .Tuple es _ _=>match nM c es with|some is=>dN is|none=>pQ
 | _=>pQ
noncomputable def jB (r:Stmt->MS):List Stmt->MS
 | []=>b6
 | [s]=>r s
 | s::t=>aG (r s) (jB r t)
noncomputable def uG (S:Sig)(E:Cs->N2->ME)(T:Cs->N2->MT)(c:Cs)(i:Nat):N2->MS
 | .ListComp elt [⟨tg,iter,ifs,0⟩] scope _=>match tP S c tg iter with
  | some j=>dB j (bA i (gI (cT (E c iter)) E T c elt tg iter ifs scope)) (bA i (gI (jA S (E c) c tg iter) E T c elt tg iter ifs scope))
  | none=>bA i (gI (jA S (E c) c tg iter) E T c elt tg iter ifs scope)
 | _=>fG
noncomputable def uH (S:Sig)(E:Cs->N2->ME)(T:Cs->N2->MT)(c:Cs)(tg e:N2):MS:=match tg with
 | .Name y _=>if kN c y then (match i8 y c.N with
   | some i=>if hW e then bA i (E c e) else uG S E T c i e
   | none=>fG) else fG
 | .Tuple es _ _=>if sA e then (match nM c es with|some is=>fD (E c e) (dN is)|none=>fG)
   else fG
 | .Subscript o i _=>if hW e&&lM i then bW (E c o) (E c i) (E c e) else fG
 | _=>fG
noncomputable def uI (S:Sig)(E:Cs->N2->ME)(T:Cs->N2->MT)(c:Cs)(r:Stmt->MS):Stmt->MS
 | .Return (some e) _=>b8 (E c e)
 | .Return none _=>b8 (mC .non)
 | .If t a b _=>bS (T c t) (jB r a) (jB r b)
 | .Assign [tg] e _=>uH S E T c tg e
 | .Expr e _=>if hW e then eL (E c e) else fG
 | .For tg iter body [] _=>if eA iter then (match tP S c tg iter with
  | some j=>dB j (cB (cT (E c iter)) (nN c tg) (jB r body)) (cB (jA S (E c) c tg iter) (nN c tg) (jB r body))
  | none=>cB (jA S (E c) c tg iter) (nN c tg) (jB r body)) else fG
 | .Pass _=>b6
 | _=>fG
noncomputable def uJ (S:Sig)(F:Str->MF)(m:Nat)(c:Cs):Nat->Stmt->MS
 | 0=>fun _=>fG
 | n+1=>uI S (tr S F m).1 (tr S F m).2 c (uJ S F m c n)
section
variable {S:Sig}{F:Str->MF}{k:Nat}{c:Cs}{X:Cx}
theorem Okx.own (O:Okx S F k c X){x:Str}(h:kN c x=true):L2.Loc X.env.scope x:=by
 unfold kN at h
 rw [Q0] at h
 unfold L2.Loc
 rw [O.ks]
 exact h.imp of_decide_eq_true of_decide_eq_true
theorem uK (O:Okx S F k c X)(hf:∀ x,X.fn x=true):∀ (es:List N2)(is:List Nat),nM c es=some is->QGs X es is
 | [],is,h=>by cases h;exact y8
 | e::es,is,h=>by
  cases e with
  | Name x p=>
   unfold nM at h
   split at h
   ·rename_i ho
    obtain ⟨i,h1,h⟩:=NN.mp h
    obtain ⟨js,h2,h⟩:=NU.mp h
    subst h
    exact y9 i O.nd (uK O hf es js h2) (by rw [O.N];exact nH h1) (O.own ho) (.inl (hf x))
   ·cases h
  | _=>cases h
theorem uL (O:Okx S F k c X)(hf:∀ x,X.fn x=true)(e:N2):QG X e (nN c e):=by
 unfold nN
 split
 ·split
  ·rename_i ho
   split
   ·rename_i i hi
    exact HQ i O.nd (by rw [O.N];exact nH hi) (O.own ho) (.inl (hf _))
   ·exact oX fun _ _ _=>rfl
  ·exact oX fun _ _ _=>rfl
 ·split
  ·rename_i is hi
   exact r9 (uK O hf _ is hi) O.calm
  ·exact oX fun _ _ _=>rfl
 ·exact oX fun _ _ _=>rfl
theorem kP {r:Stmt->MS}(hr:∀ s,QS X s (r s)):∀ ss:List Stmt,QB X ss (jB r ss)
 | []=>HG
 | [s]=>HJ (hr s)
 | s::t::ts=>HH (hr s) (kP hr (t::ts))
theorem Lg {elt tg iter:N2}{ifs:List N2}{scope:Qn}{pos py:Py}{y:Str}{n:Nat}{env:SI} :
  ∃ b:Bool,Ry (.ListComp elt [⟨tg,iter,ifs,0⟩] scope pos) (some (.Name y py)) n env=pure b/\(b=true->env.kindOf y=some .local):=by
 refine ⟨env.blockKind == .function&&env.kindOf y == some .local&&py.line == pos.line&&!(scope.names.any fun (n,k)=>n == y&&(k == .local||k == .cell)),rfl,fun h=>?_⟩
 simp only [N5,beq_iff_eq] at h
 exact h.1.1.2
theorem uM (O:Okx S F k c X)(hf:∀ x,X.fn x=true){E:Cs->N2->ME}{T:Cs->N2->MT}(hE:∀ c X,Okx S F k c X->∀ e,QE X e (E c e))(hT:∀ c X,Okx S F k c X->∀ e,QT X e (T c e))
  {i:Nat}{y:Str}{py spos:Py}(hi:X.N[i]? = some y)(hy:kN c y=true)(elt tg iter:N2)(ifs:List N2)(scope:Qn)(pos:Py){mi:MI}(hmi:PI X tg iter (hX X.K mi)):QS X (.Assign [.Name y py] (.ListComp elt [⟨tg,iter,ifs,0⟩] scope pos) spos) (bA i (gI mi E T c elt tg iter ifs scope)):=by
  obtain ⟨b,hb1,hb2⟩:=Lg (elt:=elt) (tg:=tg) (iter:=iter) (ifs:=ifs) (scope:=scope) (pos:=pos) (py:=py) (y:=y) (n:=spos.line) (env:=X.env)
  cases b with
  | false=>exact ⟨yD O.nd hi (O.own hy) (pP hE hT c X O elt tg iter ifs scope pos hmi).h hb1 (.inl (hf y))⟩
  | true=>
   unfold gI
   split
   ·rename_i xs hx
    split
    ·rename_i h
     rw [N5] at h
     refine ⟨fun XB s σ H D I q=>?_⟩
     exact Ic ((pN O h.1).1.ok I.ok) O.nd O.calm hmi (fun d μ z=>(pO O hx h.1 [] 0 s H []).2 d μ z) (fun C s₀ H₀ fp=>(pO O hx h.1 _ C s₀ H₀ fp).1) (fun C s₀ H₀ fp=>(Bi (hT _ _ (O.comp h.1)) _).h) (fun C s₀ H₀ fp=>(hE _ _ (O.comp h.1) _).h) (Bl h.2) hi (hb2 rfl) hb1 XB s σ H D I q
    ·exact Ak
   ·exact Ak
theorem Lh (O:Okx S F k c X)(hf:∀ x,X.fn x=true){E:Cs->N2->ME}{T:Cs->N2->MT}(hE:∀ c X,Okx S F k c X->∀ e,QE X e (E c e))(hT:∀ c X,Okx S F k c X->∀ e,QT X e (T c e))
  {i:Nat}{y:Str}{py spos:Py}(hi:X.N[i]? = some y)(hy:kN c y=true)(e:N2):QS X (.Assign [.Name y py] e spos) (uG S E T c i e):=by
 unfold uG
 split
 ·split
  ·exact AK (uM O hf hE hT hi hy _ _ _ _ _ _ ((tF (hE c X O _)).h _)) (uM O hf hE hT hi hy _ _ _ _ _ _ (mB O (hE c X O) _ _))
  ·exact uM O hf hE hT hi hy _ _ _ _ _ _ (mB O (hE c X O) _ _)
 ·exact fT
theorem Li (O:Okx S F k c X)(hf:∀ x,X.fn x=true){E:Cs->N2->ME}{T:Cs->N2->MT}(hE:∀ c X,Okx S F k c X->∀ e,QE X e (E c e))(hT:∀ c X,Okx S F k c X->∀ e,QT X e (T c e))(tg e:N2)(pos:Py) :
  QS X (.Assign [tg] e pos) (uH S E T c tg e):=by
 unfold uH
 split
 ·split
  ·rename_i ho
   split
   ·rename_i i hi
    have hi':=nH hi
    rw [<- O.N] at hi'
    split
    ·rename_i hn
     exact HP i O.nd (hE c X O e) hn hi' (O.own ho) (.inl (hf _))
    ·exact Lh O hf hE hT hi' ho e
   ·exact fT
  ·exact fT
 ·split
  ·rename_i hn
   split
   ·rename_i is hi
    exact HS (hE c X O e) (r9 (uK O hf _ is hi) O.calm) hn
   ·exact fT
  ·exact fT
 ·split
  ·rename_i h
   rw [N5] at h
   exact JQ O.room (hE c X O _) (hE c X O _) (hE c X O _) h.1
  ·exact fT
 ·exact fT
theorem Lj (O:Okx S F k c X)(hf:∀ x,X.fn x=true){E:Cs->N2->ME}{T:Cs->N2->MT}(hE:∀ c X,Okx S F k c X->∀ e,QE X e (E c e))(hT:∀ c X,Okx S F k c X->∀ e,QT X e (T c e)){r:Stmt->MS}(hr:∀ s,QS X s (r s))(st:Stmt) :
  QS X st (uI S E T c r st):=by
 unfold uI
 split
 ·exact HL (hE c X O _)
 ·exact Iv
 ·exact HN (hT c X O _) (kP hr _) (kP hr _)
 ·exact Li O hf hE hT _ _ _
 ·split
  ·rename_i h;exact HM (hE c X O _) h
  ·exact fT
 ·split
  ·rename_i h
   split
   ·exact AK (sW ((tF (hE c X O _)).h _) (uL O hf _) (kP hr _) O.never O.calm h) (sW (mB O (hE c X O) _ _) (uL O hf _) (kP hr _) O.never O.calm h)
   exact sW (mB O (hE c X O) _ _) (uL O hf _) (kP hr _) O.never O.calm h
  ·exact fT
 ·exact HK
 ·exact fT
theorem Bo (O:Okx S F k c X)(hf:∀ x,X.fn x=true)(m:Nat):∀ (n:Nat)(st:Stmt),QS X st (uJ S F m c n st)
 | 0,_=>fT
 | n+1,st=>Lj O hf (uF m).1 (uF m).2 (Bo O hf m n) st
end
noncomputable def cV (st:Stmt):List Str:=(gX st).args.map (·.arg)
noncomputable def jC (st:Stmt):List Str:=cV st++(cA st).names.filterMap fun y=>if (y.2 == NameKind.local||y.2 == P2)&&!(cV st).contains y.1 then some y.1 else none
noncomputable def kQ (st:Stmt):Bool:=
 decide ((cA st).kind=.function)&&!(cA st).isCoroutine&&!(cA st).isGenerator&&decide (jC st).Nodup &&
 ((cV st).all fun x=>decide ((cA st).names.lookup x=some .local)||decide ((cA st).names.lookup x=some .cell))&&((cA st).names.all fun y=>decide (y.2≠.free))
theorem Lk {st:Stmt}(h:kQ st=true):FnScope (jC st) (cV st) (cA st):=by
 unfold kQ at h
 simp only [N5,decide_eq_true_eq,SK,Pm,Q0] at h
 obtain ⟨⟨⟨⟨⟨h1,h2⟩,h3⟩,h4⟩,h5⟩,h6⟩:=h
 exact ⟨h1,h2,h3,h4,by unfold jC;simp,h5,h6⟩
noncomputable def Bp:Nat:=40
noncomputable def Bq:Nat:=40
noncomputable def uN (S:Sig)(F:Str->MF)(st:Stmt):MF:=rH (jC st).length (jB (uJ S F Bp ⟨jC st,(cA st).names⟩ Bq) (eJ st))
noncomputable def gM (S:Sig)(ds:List (Str×Stmt)):Nat->Str->MF
 | 0,_=>fun _ _=>none
 | k+1,x=>match ds.lookup x with
  | none=>fun _ _=>none
  | some st=>uN S (gM S ds k) st
structure DefAt (K:NO)(mg:Str->Option NT)(x:Str)(st:Stmt):Prop where
 ex:∃ f fd,Fun K x x st f fd/\mg x=some (.ref f)/\Binds K fd (cV st) []
structure TxtOk (P:Oo)(w:OO)(K:NO)(mg:Str->Option NT)(S:Sig)(ds:List (Str×Stmt)):Prop where
 fns:∀ x n,S.fn.lookup x=some n->∃ st,ds.lookup x=some st/\(cV st).length=n
 defs:∀ x st,ds.lookup x=some st->DefAt K mg x st/\kQ st=true
 con:∀ x d,S.con.lookup x=some d->∃ v u,mg x=some u/\RelV v u/\∀ π n H,IsD K π n H v d
 tab:∀ x kvs,S.tab.lookup x=some kvs->∃ (p:Addr)(vs:List (aW×V))(ws:List (aW×NT)),mg x=some (.ref p)/\(∀ h:O3,K.In h->h.DictOf (jO P w) p ws)/\KV vs ws/\∀ π n H,IsKs K π n H vs kvs
 no:∀ x,S.no.contains x=true->mg x=none
theorem Br {P:Oo}{w:OO}{K:NO}{mg:Str->Option NT}{base:O3}{S:Sig}{ds:List (Str×Stmt)}(T:TxtOk P w K mg S ds):∀ (k:Nat)(x:Str)(st:Stmt)(f:Addr)(fd:P4),ds.lookup x=some st->Fun K x x st f fd->
  FnOk P w K mg base dZ k f fd (cV st) (gA K (cV st).length (gM S ds k x))
 | 0,x,st,f,fd,hl,hF=>⟨fun vs H Q E h=>h.1,fun A outer s H args us vs Q E hr he hb hv hs=>by
   obtain ⟨_,π,ds',μ,d,μ',R,i,hm,kc⟩:=hs
   cases hm⟩
 | k+1,x,st,f,fd,hl,hF=>by
  have ih:=Br (base:=base) T k
  have e:gM S ds (k+1) x=uN S (gM S ds k) st:=by
   show (match ds.lookup x with|none=>fun _ _=>none|some st=>uN S (gM S ds k) st)=_
   rw [hl]
  rw [e]
  have Sc:=Lk (T.defs x st hl).2
  refine HU hF Sc (by unfold jC;simp) rfl fun cdv A outer s H E hr=>?_
  have O:Okx S (gM S ds k) k ⟨jC st,(cA st).names⟩ (gW dZ P w K mg base (jC st) x (cA st) f cdv A outer s H E).nox:=by
   refine ⟨rfl,Sc.nd,rfl,Sc.kind,rfl,hr,UJ,fun y n hy=>?_,T.con,fun y kvs q=>⟨T.tab y kvs q⟩,T.no⟩
   obtain ⟨st',h1,h2⟩:=T.fns y n hy
   obtain ⟨f',fd',F',m',b'⟩:=(T.defs y st' h1).1.ex
   subst h2
   exact ⟨f',fd',cV st',ih y st' f' fd' h1 F',m',F'.kp,b'⟩
  exact kP (Bo O (fun _=>rfl) Bp Bq) (eJ st)
theorem Bs:∀ {ns:List Int}{b:Nat},RA (ns.map Rn)<=b->∀ n∈ns,Oz n<=b
 | [],_,_,n,hn=>nomatch hn
 | m::ns,b,h,n,hn=>by
  have e:RA ((m::ns).map Rn)=Tc (.int m)+1+RA (ns.map Rn):=rfl
  have e2:Tc (.int m)=Oz m:=rfl
  rw [e,e2] at h
  rcases Ov.mp hn with rfl|hn
  ·omega
  ·exact Bs (b:=b) (by omega) n hn
section
open PySem PySem.W PySem.Calls PyProof.Rows
theorem Ll {l:U5}{n:Nat}{q:Oo}{loose:List Str}{XP:(Str->Option NT)->O3->Prop}{YP:OO->O3->Prop}{d:DefRec}
  (hn:l.most=some n)(hdf:d.params.defaults=[])
  (call:∀ (w:OO)(s₀ s₁:NV)(mg mb:Str->Option NT)(fa:Addr)(o:Pu)(pm cd doc:NT)(a:Addr)(vs:List NT)(ns:List Int),
   Ground q loose [] XP w s₀ mg mb s₁.heap->YP w s₁.heap->
   s₁.heap.get? fa=some o->o.data=.func (docDef d.name d.params d.body d.scope pm cd doc)->s₁.heap.CodeRec cd d.name->mg d.name=some (.ref fa)->
   s₁.heap.get? a=some { cls:=.type "list",data:=.seq vs.toArray }->RK vs ns->ns.length<=n->(∀ m∈ns,Oz m<=2 ^ 20)->s₁.gens = #[]->
   Si (Ot l.prog w) Tt (.call (.ref fa) ⟨[.ref a],[]⟩) (fun r s'=>r=.ok (.ret (.bool true))/\OldK s₁.heap s'.heap/\s'.os=s₁.os/\SM s'.gens) s₁) :
  VH q loose XP YP l.row.toRowW d [] (fun f vs=>WH f vs):=by
 intro w s₀ s₁ mg mb G Y fa o pm cd doc dV kV ho hd hcd hD hmg hg args vals as hpre hlay hrd hwl hlo
 obtain rfl:dV=.none:=Dflts.none hD hdf
 obtain rfl:kV=.none:=Dflts.noKw hD
 obtain ⟨a,vs,ns,rfl,rfl,hobj,hints,hlen⟩:=Att.script_of hn hpre hwl
 have hb:∀ m∈ns,Oz m<=2 ^ 20:=by
  have h1:S3 (.list (ns.map Rn))=true:=by
   have:=hlay
   unfold WI at this
   simpa using this
  unfold S3 at h1
  rw [N5] at h1
  exact Bs (of_decide_eq_true h1.2)
 refine enter_call (Vi (call w s₀ s₁ mg mb fa o pm cd doc a vs ns G Y ho (fd_plain hd) hcd hmg hobj hints hlen hb hg) fun r s' hq=>?_)
 obtain ⟨rfl,h2,h3,h4⟩:=hq
 exact ⟨.inl ⟨.bool true,.bool true,[],rfl,fun _=>rfl,.bool true,Att.post_true l _,fun _=>⟨WN,fun _ hm=>(nomatch hm)⟩⟩,h2,h3,h4⟩
end
theorem walkM {l:U5}{q:Oo}{loose:List Str}{XP:(Str->Option NT)->O3->Prop}{YP:OO->O3->Prop}{d:DefRec}{K:Params->NO}{S:Sig}{ds:List (Str×Stmt)}{k:Nat}{st:Stmt}{x:Str}(hn:l.most=some 63)(hdf:d.params.defaults=[])
  (hr:Room k Tt)(hY:∀ (w:OO)(h:O3),YP w h->(K w.params).In h)(hl:ds.lookup d.name=some st)(hx:cV st=[x])
  (T:∀ (w:OO)(mg:Str->Option NT)(h:O3),(K w.params).In h->h.Ns Pk mg->TxtOk l.prog w (K w.params) mg S ds/\∃ f fd,Fun (K w.params) d.name d.name st f fd/\mg d.name=some (.ref f)/\∀ (s:NV)(u:NT),TB s fd ⟨[u],[]⟩ [(x,u)])
  (M:∀ ns:List Int,ns.length<=63->(∀ m∈ns,Oz m<=2 ^ 20)->∃ μ',gM S ds k d.name [.rol (ns.map D.int)] []=some (.bl true,μ')) :
  VH q loose XP YP l.row.toRowW d [] (fun f vs=>WH f vs):=by
 refine Ll hn hdf fun w s₀ s₁ mg mb fa o pm cd doc a vs ns G Y ho hd hcd hmg hobj hints hlen hbd hg=>?_
 have KX:=hY w _ Y
 obtain ⟨hT,f,fd,hF,hm,hb⟩:=T w mg _ KX G.T.g
 rw [hmg] at hm
 cases hm
 refine L2.law_call (CX:=dZ) (sp:=gA (K w.params) 1 (gM S ds k d.name)) KX G.T.g G.T.b G.T.builtins G.T.nolimit hg hobj hints (OU hlen (by decide)) hr (fun base hb1 hb2=>?_) hb (fun H hO hS=>?_) fun H e s' z=>z
 ·have:=Br (base:=base) hT k d.name st fa fd hl hF
  rw [hx] at this
  exact this
 ·refine ⟨rfl,fun _=>0,[.rol (ns.map D.int)],[],.bl true,?_⟩
  obtain ⟨μ',hM⟩:=M ns hlen hbd
  have hro:RoL (K w.params) H a (ns.map V.int):=by
   rcases hS with (h|h)|h
   ·rcases hO a with z|⟨o,xs,z⟩
    ·rw [z] at h;cases h
    ·rw [z] at h;cases h
   ·exact .inl h
   ·exact .inr h
  refine ⟨μ',⟨fun i j hi=>absurd hi (RC _),fun i hi=>absurd hi (RC _),fun i xs h=>(by cases h),fun i xs h=>(by cases h),fun i xs h=>(by cases h)
   ,fun i xs h=>(by cases h)
   ,fun i xs h=>(by cases h)
   ⟩,.cons (.rol hro ?_) .nil,hM,fun π' v H' _ _ hv=>?_⟩
  ·have:∀ ns:List Int,IsDs (K w.params) (fun _=>0) ([]:Hm).length H (ns.map V.int) (ns.map D.int):=fun ns=>by
    induction ns with
    | nil=>exact .nil
    | cons n r ih=>exact .cons (.int n) ih
   exact this ns
  ·cases hv
   rfl
end L3
namespace L3
open PySem L2
theorem pR {β:Type}:∀ {l:List (Str×β)}{x:Str}{b:β},l.lookup x=some b->(x,b)∈l:=fun h=>O0 h
theorem Lm {S:Sig}{ds:List (Str×Stmt)}(h:(S.fn.all fun p=>match ds.lookup p.1 with|some st=>decide ((cV st).length=p.2)|none=>false)=true):∀ x n,S.fn.lookup x=some n->∃ st,ds.lookup x=some st/\(cV st).length=n:=by
 intro x n e
 have:=Pm.mp h (x,n) (pR e)
 dsimp only at this
 split at this
 ·rename_i st hs
  exact ⟨st,hs,of_decide_eq_true this⟩
 ·cases this
theorem Ln {K:NO}{mg:Str->Option NT}{ds:List (Str×Stmt)}(h:∀ p∈ds,DefAt K mg p.1 p.2/\kQ p.2=true):∀ x st,ds.lookup x=some st->DefAt K mg x st/\kQ st=true:=fun x st e=>h (x,st) (pR e)
theorem Lo {K:NO}{mg:Str->Option NT}{cs:List (Str×D)}(h:∀ p∈cs,∃ v u,mg p.1=some u/\RelV v u/\∀ π n H,IsD K π n H v p.2):∀ x d,cs.lookup x=some d->∃ v u,mg x=some u/\RelV v u/\∀ π n H,IsD K π n H v d:=fun x d e=>h (x,d) (pR e)
inductive EntsOf (w:OO):List Pg->List (aW×NT)->Prop where
 | nil:EntsOf w [] []
 | cons {e:Pg}{k:aW}{v:NT}{es:List Pg}{kvs:List (aW×NT)}(h:qK k e.key=true)(hh:e.hash=vZ w k)(hv:e.val=v)(t:EntsOf w es kvs):EntsOf w (e::es) ((k,v)::kvs)
theorem EntsOf.keys {P:Oo}{w:OO}{es:List Pg}{kvs:List (aW×NT)}(x:EntsOf w es kvs):∀ e∈es,∃ k,(jO P w).is k e.key=true/\e.hash=(jO P w).hash k:=by
 induction x with
 | nil=>intro e he;exact nomatch he
 | @cons e k v es kvs h hh hv _ ih=>
  intro e' he
  rcases Ov.mp he with rfl|he
  ·exact ⟨k,h,hh⟩
  ·exact ih e' he
theorem Lp {mg:Str->Option NT}{ns:List Str}(h:∀ x∈ns,mg x=none):∀ x,ns.contains x=true->mg x=none:=fun x e=>h x (by simpa using e)
noncomputable def pS:Nat->(Nat->NT)->List NT
 | 0,_=>[]
 | n+1,u=>u 0::pS n fun i=>u (i+1)
theorem Bt:∀ us:List NT,∃ u,us=pS us.length u
 | []=>⟨fun _=>.none,rfl⟩
 | v::us=>let ⟨u,hu⟩:=Bt us;⟨fun i=>match i with|0=>v|i+1=>u i,congrArg (v::·) hu⟩
noncomputable abbrev Bu:Type:=NT->NT->NT->Option Addr->NT->NT->(Nat->NT)->WW (List (Str×NT))
noncomputable def Lq (x:Str)(st:Stmt)(m:NT)(c:Addr):Pu:=⟨QX "function",none,.func (P1 x x (gX st) (eJ st) (cA st) .none .none .none m none (.ref c) .none),#[]⟩
noncomputable def Bv (K:NO)(d:(Str×Stmt)×NT×Addr×Addr):Option (Option NT)×Option Pu×Bool×Bool×Bool×Bu:=(RO K Pk d.1.1,K.lookup d.2.2.2,RY K (.ref d.2.2.1) d.1.1,Po K (.ref d.2.2.2),kQ d.1.2,fun kV doc pm an cdv ct u=>Ur (P1 d.1.1 d.1.1 (gX d.1.2) (eJ d.1.2) (cA d.1.2) .none kV doc pm an cdv ct) ⟨pS (cV d.1.2).length u,[]⟩)
noncomputable def Bw (d:(Str×Stmt)×NT×Addr×Addr):Option (Option NT)×Option Pu×Bool×Bool×Bool×Bu:=(some (some (.ref d.2.2.2)),some (Lq d.1.1 d.1.2 d.2.1 d.2.2.1),true,true,true,fun _ _ _ _ _ _ u=>pure ((cV d.1.2).zip (pS (cV d.1.2).length u)))
noncomputable def pT (K:NO)(d:Str×Stmt):(Str×Stmt)×NT×Addr×Addr:=(d,match RO K Pk d.1 with
 | some (some (.ref f))=>(match K.lookup f with
  | some ⟨_,_,.func fd,_⟩=>(match fd.code with
   | .ref c=>(fd.pyModule,c,f)
   | _=>(.none,0,0))
  | _=>(.none,0,0))
 | _=>(.none,0,0))
noncomputable def pU (K:NO)(ds:List (Str×Stmt)):Prop:=ds.map (fun d=>Bv K (pT K d))=ds.map fun d=>Bw (pT K d)
theorem Bx {K:NO}{h:O3}{mg:Str->Option NT}(X:K.In h)(G:h.Ns Pk mg){ds:List (Str×Stmt)}(q:pU K ds):∀ p∈ds,(DefAt K mg p.1 p.2/\kQ p.2=true)/\∃ f fd,Fun K p.1 p.1 p.2 f fd/\mg p.1=some (.ref f)/\∀ us:List NT,us.length=(cV p.2).length->Ur fd ⟨us,[]⟩=pure ((cV p.2).zip us):=by
 intro p0 hp
 have t:=VA.mp q p0 hp
 have e:(pT K p0).1=p0:=rfl
 generalize pT K p0=d at t e
 obtain ⟨p,m,c,f⟩:=d
 cases e
 unfold Bv Bw at t
 obtain ⟨a,t⟩:=R0 t
 obtain ⟨l,t⟩:=R0 t
 obtain ⟨c,t⟩:=R0 t
 obtain ⟨k,t⟩:=R0 t
 obtain ⟨s,b⟩:=R0 t
 have F:=E6 (st:=p.2) l c k
 have D:=fun kV doc pm an cdv ct (us:List NT)(hl:us.length=(cV p.2).length)=>(by
  obtain ⟨u,hu⟩:=Bt us
  rw [hl] at hu
  rw [hu]
  exact congrFun (congrFun (congrFun (congrFun (congrFun (congrFun (congrFun b kV) doc) pm) an) cdv) ct) u:Ur (P1 p.1 p.1 (gX p.2) (eJ p.2) (cA p.2) .none kV doc pm an cdv ct) ⟨us,[]⟩=pure ((cV p.2).zip us))
 exact ⟨⟨⟨_,_,F,Tv X G a,F.binds D⟩,s⟩,_,_,F,Tv X G a,D _ _ _ _ _ _⟩
theorem Lr {K:NO}{h:O3}{mg:Str->Option NT}(X:K.In h)(G:h.Ns Pk mg){ds:List (Str×Stmt)}(q:pU K ds){x y:Str}{st:Stmt}(hl:ds.lookup x=some st)(hp:cV st=[y]):∃ f fd,Fun K x x st f fd/\mg x=some (.ref f)/\∀ (s:NV)(u:NT),TB s fd ⟨[u],[]⟩ [(y,u)]:=by
 obtain ⟨f,fd,F,m,b⟩:=(Bx X G q (x,st) (pR hl)).2
 dsimp only at b
 rw [hp] at b
 exact ⟨f,fd,F,m,fun s u=>.of_eq (b [u] rfl)⟩
theorem Ls {K:NO}{h:O3}{mg:Str->Option NT}(X:K.In h)(G:h.Ns Pk mg){ns:List Str}(q:ns.map (RO K Pk)=ns.map fun _=>some none):∀ x∈ns,mg x=none:=fun x hx=>PySem.W.mg_none_of X G (VA.mp q x hx)
noncomputable def nO {α β:Type}(f:α->β->Bool):List α->List β->Bool
 | [],[]=>true
 | a::as,b::bs=>f a b&&nO f as bs
 | _,_=>false
noncomputable def nP (K:NO):Nat->NT->D->Bool
 | 0,_,_=>false
 | k+1,u,d=>match d with
  | .non=>(match u with|.none=>true|_=>false)
  | .bl b=>(match u with|.bool c=>decide (b=c)|_=>false)
  | .int i=>(match u with|.int j _=>decide (i=j)|_=>false)
  | .str x=>(match u with|.str y _=>decide (x=y)|_=>false)
  | .tup ds=>(match u with
   | .ref p=>(match K.lookup p with
    | some ⟨.type t,none,.seq its _,_⟩=>decide (t = "tuple")&&decide (its.size<=1000)&&nO (nP K k) its.toList ds
    | _=>false)
   | _=>false)
  | .rol ds=>(match u with
   | .ref p=>(match K.lookup p with
    | some ⟨.type t,none,.seq its _,_⟩=>decide (t = "list")&&decide (its.size<=1000)&&nO (nP K k) its.toList ds
    | _=>false)
   | _=>false)
  | _=>false
theorem By {K:NO}{f:NT->D->Bool}(h:∀ u d,f u d=true->∃ v,RelV v u/\∀ π n H,IsD K π n H v d):∀ us ds,nO f us ds=true->∃ vs,Vals vs us/\∀ π n H,IsDs K π n H vs ds
 | [],[],_=>⟨[],.nil,fun _ _ _=>.nil⟩
 | u::us,d::ds,e=>by
  obtain ⟨a,b⟩:=Qy.mp e
  obtain ⟨v,r,q⟩:=h u d a
  obtain ⟨vs,rs,qs⟩:=By h us ds b
  exact ⟨v::vs,.cons r rs,fun _ _ _=>.cons (q _ _ _) (qs _ _ _)⟩
 | [],_::_,e=>nomatch e
 | _::_,[],e=>nomatch e
theorem Bz {K:NO}:∀ (k:Nat)(u:NT)(d:D),nP K k u d=true->∃ v,RelV v u/\∀ π n H,IsD K π n H v d
 | 0,_,_,e=>nomatch e
 | k+1,u,d,e=>by
  have seq:∀ {p:Addr}{ds:List D}{c:String},(match K.lookup p with|some ⟨.type t,none,.seq its _,_⟩=>decide (t=c)&&decide (its.size<=1000)&&nO (nP K k) its.toList ds|_=>false)=true->∃ vs its n sl,K.lookup p=some ⟨.type c,none,.seq its n,sl⟩/\its.size<=N4/\Vals vs its.toList/\∀ π n H,IsDs K π n H vs ds:=fun {p ds c} e=>by
   split at e
   ·rename_i t its n sl hk
    obtain ⟨e,q⟩:=Qy.mp e
    obtain ⟨a,b⟩:=Qy.mp e
    cases of_decide_eq_true a
    obtain ⟨vs,r,i⟩:=By (Bz k) _ _ q
    exact ⟨vs,its,n,sl,hk,OU (of_decide_eq_true b) (by decide),r,i⟩
   ·cases e
  cases d with
  | non=>cases u with
   | none=>exact ⟨.non,rfl,fun _ _ _=>.non⟩
   | _=>cases e
  | bl b=>cases u with
   | bool c=>cases of_decide_eq_true e;exact ⟨.bl b,rfl,fun _ _ _=>.bl _⟩
   | _=>cases e
  | int b=>cases u with
   | int c=>cases of_decide_eq_true e;exact ⟨.int b,⟨_,rfl⟩,fun _ _ _=>.int _⟩
   | _=>cases e
  | str b=>cases u with
   | str c=>cases of_decide_eq_true e;exact ⟨.str b,⟨_,rfl⟩,fun _ _ _=>.str _⟩
   | _=>cases e
  | tup ds=>cases u with
   | ref p=>
    obtain ⟨vs,its,n,sl,hk,hs,r,i⟩:=seq e
    exact ⟨.ref p,rfl,fun _ _ _=>.tup (vs:=vs) (.inr ⟨_,its,n,hk,rfl,rfl,rfl,hs,r⟩) (i _ _ _)⟩
   | _=>cases e
  | rol ds=>cases u with
   | ref p=>
    obtain ⟨vs,its,n,sl,hk,hs,r,i⟩:=seq e
    exact ⟨.ref p,rfl,fun _ _ _=>.rol (vs:=vs) (.inr ⟨_,its,n,hk,rfl,rfl,rfl,hs,r⟩) (i _ _ _)⟩
   | _=>cases e
  | _=>cases e
noncomputable def BA (K:NO)(cs:List (Str×D)):Bool:=cs.all fun c=>match RO K Pk c.1 with|some (some u)=>nP K 8 u c.2|_=>false
theorem Lu {K:NO}{h:O3}{mg:Str->Option NT}(X:K.In h)(G:h.Ns Pk mg){cs:List (Str×D)}(q:BA K cs=true):∀ p∈cs,∃ v u,mg p.1=some u/\RelV v u/\∀ π n H,IsD K π n H v p.2:=fun p hp=>by
 have t:=Pm.mp q p hp
 split at t
 ·rename_i u hu
  obtain ⟨v,r,i⟩:=Bz _ _ _ t
  exact ⟨v,u,Tv X G hu,r,i⟩
 ·cases t
end L3
namespace L3
open PySem L2
noncomputable def W {α:Type}(o:Option α)(Q:α->Prop):Prop:=∃ r,o=some r/\Q r
section
variable {α β:Type}{o:Option α}{Q:α->Prop}
theorem W_some {r:α}{Q:α->Prop}:W (some r) Q↔Q r:=⟨fun ⟨_,h,q⟩=>by cases h;exact q,fun q=>⟨r,rfl,q⟩⟩
theorem W_none {Q:α->Prop}:W none Q↔False:=⟨fun ⟨_,h,_⟩=>(by cases h),fun h=>h.elim⟩
theorem W_bind {g:α->Option β}{Q:β->Prop}:W (o.bind g) Q↔W o fun r=>W (g r) Q:=by
 cases o with
 | none=>exact ⟨fun ⟨_,h,_⟩=>(by cases h),fun ⟨_,h,_⟩=>(by cases h)⟩
 | some a=>simp [W_some]
theorem gO {g:α->β}{Q:β->Prop}:W (o.map g) Q↔W o fun r=>Q (g r):=by
 cases o with
 | none=>exact ⟨fun ⟨_,h,_⟩=>(by cases h),fun ⟨_,h,_⟩=>(by cases h)⟩
 | some a=>simp [W_some]
theorem bU {Q':α->Prop}(h:W o Q)(k:∀ r,Q r->Q' r):W o Q':=let ⟨r,e,q⟩:=h;⟨r,e,k r q⟩
theorem pV {c:Prop} [Decidable c] {a b:Option α}:W (if c then a else b) Q↔if c then W a Q else W b Q:=by split<;>rfl
end
noncomputable def aS:Option (Fl×aF×Hm)->Option (D×Hm):=fun o=>o.bind fun p=>match p.1 with|.rt d=>some (d,p.2.2)|.nx=>some (.non,p.2.2)|_=>none
theorem W_fin {o:Option (Fl×aF×Hm)}{Q:D×Hm->Prop}:W (aS o) Q↔W o fun p=>match p.1 with|.rt d=>Q (d,p.2.2)|.nx=>Q (.non,p.2.2)|_=>False:=by
 unfold aS
 rw [W_bind]
 constructor
 ·exact fun h=>bU h fun p q=>by
   obtain ⟨fl,ρ,μ⟩:=p
   cases fl<;>simpa [W_some,W_none] using q
 ·exact fun h=>bU h fun p q=>by
   obtain ⟨fl,ρ,μ⟩:=p
   cases fl<;>simpa [W_some,W_none] using q
theorem aO {μ μ':Hm}(h:μ <+: μ'){a:Nat}{c:C}(e:μ[a]? = some c):μ'[a]? = some c:=by
 obtain ⟨t,rfl⟩:=h
 have hl:=(NS.mp e).1
 rw [OM hl]
 exact e
theorem aQ (μ:Hm)(c:C):μ <+: μ++[c]:=⟨[c],rfl⟩
theorem c6 {μ μ':Hm}(h:μ <+: μ'){a:Nat}(ha:μ.length<=a)(c:C):μ <+: μ'.set a c:=by
 obtain ⟨t,rfl⟩:=h
 rw [R8 _ _ ha]
 exact ⟨_,rfl⟩
theorem bG {a b:MS}{ρ:aF}{μ:Hm} {Q}:W (aG a b ρ μ) Q↔W (a ρ μ) fun p=>match p.1 with|.nx=>W (b p.2.1 p.2.2) Q|_=>Q p:=by
 unfold aG
 rw [W_bind]
 constructor
 ·exact fun h=>bU h fun p q=>by
   obtain ⟨fl,ρ,μ⟩:=p
   cases fl<;>simpa [W_some,W_none] using q
 ·exact fun h=>bU h fun p q=>by
   obtain ⟨fl,ρ,μ⟩:=p
   cases fl<;>simpa [W_some,W_none] using q
theorem w_mRet {m:ME}{ρ:aF}{μ:Hm} {Q}:W (b8 m ρ μ) Q↔W (m ρ μ) fun p=>Q (.rt p.1,ρ,p.2):=gO
theorem jD {m:ME}{ρ:aF}{μ:Hm} {Q}:W (eL m ρ μ) Q↔W (m ρ μ) fun p=>Q (.nx,ρ,p.2):=gO
theorem bR {i:Nat}{m:ME}{ρ:aF}{μ:Hm} {Q}:W (bA i m ρ μ) Q↔W (m ρ μ) fun p=>Q (.nx,ρ.set i (some p.1),p.2):=gO
theorem iG {ρ:aF}{μ:Hm} {Q}:W (b6 ρ μ) Q↔Q (.nx,ρ,μ):=W_some
theorem gP {t:MT}{a b:MS}{ρ:aF}{μ:Hm} {Q}:W (bS t a b ρ μ) Q↔W (t ρ μ) fun p=>if p.1=true then W (a ρ p.2) Q else W (b ρ p.2) Q:=by
 unfold bS
 rw [W_bind]
 constructor<;>exact fun h=>bU h fun p q=>by
   obtain ⟨x,μ⟩:=p
   cases x<;>simpa using q
theorem BB {t:MT}{a b:ME}{ρ:aF}{μ:Hm} {Q}:W (gY t a b ρ μ) Q↔W (t ρ μ) fun p=>if p.1=true then W (a ρ p.2) Q else W (b ρ p.2) Q:=by
 unfold gY
 rw [W_bind]
 constructor<;>exact fun h=>bU h fun p q=>by
   obtain ⟨x,μ⟩:=p
   cases x<;>simpa using q
theorem Lv {a b:MT}{ρ:aF}{μ:Hm} {Q}:W (jS a b ρ μ) Q↔W (a ρ μ) fun p=>if p.1=true then W (b ρ p.2) Q else Q (false,p.2):=by
 unfold jS
 rw [W_bind]
 constructor<;>exact fun h=>bU h fun p q=>by
   obtain ⟨x,μ⟩:=p
   cases x<;>simpa [W_some] using q
theorem uO {a b:MT}{ρ:aF}{μ:Hm} {Q}:W (iL a b ρ μ) Q↔W (a ρ μ) fun p=>if p.1=true then Q (true,p.2) else W (b ρ p.2) Q:=by
 unfold iL
 rw [W_bind]
 constructor<;>exact fun h=>bU h fun p q=>by
   obtain ⟨x,μ⟩:=p
   cases x<;>simpa [W_some] using q
theorem Lx {a:MT}{ρ:aF}{μ:Hm} {Q}:W (k8 a ρ μ) Q↔W (a ρ μ) fun p=>Q (!p.1,p.2):=gO
theorem aX {f:D->D->Hm->Option (D×Hm)}{a b:ME}{ρ:aF}{μ:Hm} {Q}:W (aB f a b ρ μ) Q↔W (a ρ μ) fun p=>W (b ρ p.2) fun q=>W (f p.1 q.1 q.2) Q:=by
 unfold aB
 rw [W_bind]
 simp only [W_bind]
theorem bO {d:D}{ρ:aF}{μ:Hm} {Q}:W (mC d ρ μ) Q↔Q (d,μ):=W_some
theorem aJ {d:D}{ρ:aF}{μ:Hm} {Q}:W (aA 0 (some d::ρ) μ) Q↔Q (d,μ):=by
 show W (some (d,μ)) Q↔_
 exact W_some
theorem aL {i:Nat}{x:Option D}{ρ:aF}{μ:Hm} {Q}:W (aA (i+1) (x::ρ) μ) Q↔W (aA i ρ μ) Q:=by
 unfold aA
 rw [Ud]
theorem aV {ρ:aF}{μ:Hm} {Q}:W (aD ρ μ) Q↔Q ([],μ):=W_some
theorem aY {a:ME}{r:MA}{ρ:aF}{μ:Hm} {Q}:W (aC a r ρ μ) Q↔W (a ρ μ) fun p=>W (r ρ p.2) fun q=>Q (p.1::q.1,q.2):=by
 unfold aC
 simp only [W_bind,W_some]
theorem fL {ms:MA}{ρ:aF}{μ:Hm} {Q}:W (cP ms ρ μ) Q↔W (ms ρ μ) fun p=>p.1.length<=N4/\Q (.tup p.1,p.2):=by
 unfold cP
 rw [W_bind]
 constructor<;>exact fun h=>bU h fun p q=>by
  first
  | (rw [pV] at q;split at q
     ·exact ⟨by assumption,W_some.mp q⟩
     ·exact (W_none.mp q).elim)
  | (rw [if_pos q.1];exact W_some.mpr q.2)
theorem jE {ms:MA}{ρ:aF}{μ:Hm} {Q}:W (c5 ms ρ μ) Q↔W (ms ρ μ) fun p=>p.1.length<=N4/\Q (.loc p.2.length,p.2++[.lst p.1]):=by
 unfold c5
 rw [W_bind]
 constructor<;>exact fun h=>bU h fun p q=>by
  first
  | (rw [pV] at q;split at q
     ·exact ⟨by assumption,W_some.mp q⟩
     ·exact (W_none.mp q).elim)
  | (rw [if_pos q.1];exact W_some.mpr q.2)
theorem bP {f:MF}{ms:MA}{ρ:aF}{μ:Hm} {Q}:W (aM f ms ρ μ) Q↔W (ms ρ μ) fun p=>W (f p.1 p.2) Q:=W_bind
theorem fV {m:ME}{ρ:aF}{μ:Hm} {Q}:W (bC m ρ μ) Q↔W (m ρ μ) fun p=>match p.1 with|.bl b=>Q (b,p.2)|_=>False:=by
 unfold bC
 rw [W_bind]
 constructor<;>exact fun h=>bU h fun p q=>by
  obtain ⟨d,μ⟩:=p
  cases d<;>simpa [W_some,W_none] using q
theorem BC {m:ME}{ρ:aF}{μ:Hm} {Q}:W (iB m ρ μ) Q↔W (m ρ μ) fun p=>W (lR p.2 p.1) fun b=>Q (b,p.2):=by
 unfold iB
 simp only [W_bind,gO]
theorem uP {a:ME}{ρ:aF}{μ:Hm} {Q}:W (fS a ρ μ) Q↔W (a ρ μ) fun p=>match p.1 with|.int i=>Q (.int (-i),p.2)|_=>False:=by
 unfold fS
 rw [W_bind]
 constructor<;>exact fun h=>bU h fun p q=>by
  obtain ⟨d,μ⟩:=p
  cases d<;>simpa [W_some,W_none,gO,rP] using q
theorem BE {a b:ME}{ρ:aF}{μ:Hm} {Q}:W (iM a b ρ μ) Q↔W (a ρ μ) fun p=>match p.1 with|.bl c=>if c=true then W (b ρ p.2) Q else Q (.bl false,p.2)|_=>False:=by
 unfold iM
 rw [W_bind]
 constructor<;>exact fun h=>bU h fun p q=>by
  obtain ⟨d,μ⟩:=p
  cases d with
  | bl c=>cases c<;>simpa [W_some] using q
  | _=>simpa [W_none] using q
theorem pW {m:ME}{g:MG}{ρ:aF}{μ:Hm} {Q}:W (fD m g ρ μ) Q↔W (m ρ μ) fun p=>W (g p.1 ρ p.2) fun ρ'=>Q (.nx,ρ',p.2):=by
 unfold fD
 simp only [W_bind,gO]
section
variable {i j:Int}{μ:Hm}{Q:D×Hm->Prop}{a b c d e g:D}
theorem dS:W (bB (.int i) (.int j) μ) Q↔Q (.int (i+j),μ):=W_some
theorem Lz:W (lC (.int i) (.int j) μ) Q↔Q (.int (i - j),μ):=W_some
theorem dC (h:0<j):W (bX (.int i) (.int j) μ) Q↔Q (.int (i % j),μ):=by
 show W ((if 0<j then some (i % j) else none).map fun z=>(D.int z,μ)) Q↔_
 rw [if_pos h]
 exact W_some
theorem LA:(1073741824:Int)<2 ^ 4000:=by decide +kernel
theorem LB (h:0<j)(h2:j<2 ^ 4000):W (cJ (.int i) (.int j) μ) Q↔Q (.int (i / j),μ):=by
 show W ((if 0<j/\j<2 ^ 4000 then some (i / j) else none).map fun z=>(D.int z,μ)) Q↔_
 rw [if_pos ⟨h,h2⟩]
 exact W_some
theorem eF (h:0<j)(h2:j<1073741824):W (cJ (.int i) (.int j) μ) Q↔Q (.int (i / j),μ):=LB h (Int.lt_trans h2 LA)
theorem jF (h:(-(2 ^ 64)<i/\i<2 ^ 64)\/(-(2 ^ 64)<j/\j<2 ^ 64)):W (bQ (.int i) (.int j) μ) Q↔Q (.int (i * j),μ):=by
 show W ((if ((-(2 ^ 64)<i/\i<2 ^ 64)\/(-(2 ^ 64)<j/\j<2 ^ 64))\/(i.natAbs<2 ^ 4000/\j.natAbs<2 ^ 4000)\/Oz i+Oz j<=134217728 then some (i * j) else none).map fun z=>(D.int z,μ)) Q↔_
 rw [if_pos (.inl h)]
 exact W_some
theorem pX:W (bE false (.int i) (.int j) μ) Q↔Q (.bl (i == j),μ):=W_some
theorem BF:W (lE (.int i) (.int j) μ) Q↔Q (.bl (decide (i<j)),μ):=W_some
theorem uQ:W (fC (.int i) (.int j) μ) Q↔Q (.bl (decide (j<i)),μ):=W_some
theorem uR:W (aH (.tup [a,b]) (.int 0) μ) Q↔Q (a,μ):=W_some
theorem uS:W (aH (.tup [a,b]) (.int 1) μ) Q↔Q (b,μ):=W_some
theorem LC:W (aH (.tup [a,b,c,d,e,g]) (.int 0) μ) Q↔Q (a,μ):=W_some
theorem LF:W (aH (.tup [a,b,c,d,e,g]) (.int 1) μ) Q↔Q (b,μ):=W_some
theorem LG:W (aH (.tup [a,b,c,d,e,g]) (.int 2) μ) Q↔Q (c,μ):=W_some
theorem LH:W (aH (.tup [a,b,c,d,e,g]) (.int 3) μ) Q↔Q (d,μ):=W_some
theorem LI:W (aH (.tup [a,b,c,d,e,g]) (.int 4) μ) Q↔Q (e,μ):=W_some
theorem LJ:W (aH (.tup [a,b,c,d,e,g]) (.int 5) μ) Q↔Q (g,μ):=W_some
theorem uT {b:Bool}{Q:Bool->Prop}:W (lR μ (.bl b)) Q↔Q b:=W_some
theorem uU {ρ:aF}{i j:Nat}{Q:aF->Prop}:W (dN [i,j] (.tup [a,b]) ρ μ) Q↔Q ((ρ.set i (some a)).set j (some b)):=W_some
end
theorem jG {μ:Hm}{a:Nat}{xs:List D}{i:Int}{d:D}{Q:D×Hm->Prop}(h:μ[a]? = some (.lst xs))(hi:atI xs i=some d):W (aH (.loc a) (.int i) μ) Q↔Q (d,μ):=by
 have:aH (.loc a) (.int i) μ=some (d,μ):=by
  simp only [aH,eK,bM,h,Od,hi,Oy]
 rw [this]
 exact W_some
end L3
namespace L3
open PySem L2
theorem uV {m:ME}{ρ:aF}{μ:Hm}{Q:jY×Nat×Hm->Prop}:W (dO m ρ μ) Q↔W (m ρ μ) fun p=>W (jZ p.2 p.1) fun xs=>Q (eP p.1,xs.length+1,p.2):=by
 unfold dO
 simp only [W_bind,gO]
theorem kR {it:MI}{g:MG}{b:MS}{ρ:aF}{μ:Hm} {Q}:W (cB it g b ρ μ) Q↔W (it ρ μ) fun p=>W (dH p.1 g b p.2.1 0 ρ p.2.2) Q:=W_bind
theorem LK {j:Int}{ms:MA}{ρ:aF}{μ:Hm}{Q:jY×Nat×Hm->Prop}:W (mX ms ρ μ) Q↔W (ms ρ μ) fun p=>match p.1 with|[.int j]=>(-(2 ^ 62)<=j/\j<2 ^ 62)/\Q (fR 0 j.toNat,j.toNat+1,p.2)|_=>False:=by
 unfold mX
 rw [W_bind]
 constructor<;>exact fun h=>bU h fun p q=>by
  obtain ⟨l,μ⟩:=p
  match l,q with
  | [],q=>simpa [W_none] using q
  | [d],q=>
   cases d with
   | int j=>
    first
    | (dsimp only at q;rw [pV] at q;split at q
       ·rename_i hb;exact ⟨hb,W_some.mp q⟩
       ·exact (W_none.mp q).elim)
    | (dsimp only;rw [if_pos q.1];exact W_some.mpr q.2)
   | _=>simpa [W_none] using q
  | a::b::l,q=>simpa [W_none] using q
theorem BG {ms:MA}{ρ:aF}{μ:Hm}{Q:jY×Nat×Hm->Prop}:W (lN ms ρ μ) Q↔W (ms ρ μ) fun p=>match p.1 with|[.int i,.int j]=>(-(2 ^ 62)<=i/\i<2 ^ 62/\-(2 ^ 62)<=j/\j<2 ^ 62)/\Q (fR i (j - i).toNat,(j - i).toNat+1,p.2)|_=>False:=by
 unfold lN
 rw [W_bind]
 constructor<;>exact fun h=>bU h fun p q=>by
  split at q
  ·rename_i e
   try rw [e]
   first
   | (rw [pV] at q;split at q
      ·rename_i hb;exact ⟨hb,W_some.mp q⟩
      ·exact (W_none.mp q).elim)
   | ((try dsimp only);rw [if_pos q.1];exact W_some.mpr q.2)
  ·first
   | exact (W_none.mp q).elim
   | exact q.elim
theorem nQ {src:jY}{g:MG}{b:MS}{N:Nat}{Q:Fl×aF×Hm->Prop}(I:Nat->aF->Hm->Prop)
  (go:∀ i ρ μ,i<N->I i ρ μ->∃ d ρ1,src μ i=some (some d)/\g d ρ μ=some ρ1/\W (b ρ1 μ) fun p=>match p.1 with|.nx=>I (i+1) p.2.1 p.2.2|.ct=>I (i+1) p.2.1 p.2.2|.bk=>Q (.nx,p.2.1,p.2.2)|.rt d=>Q (.rt d,p.2.1,p.2.2))
  (stop:∀ ρ μ,I N ρ μ->src μ N=some none/\Q (.nx,ρ,μ)):∀ (m i:Nat)(ρ:aF)(μ:Hm),i+m=N->I i ρ μ->W (dH src g b (m+1) i ρ μ) Q
 | 0,i,ρ,μ,h,hI=>by
  have:i=N:=by omega
  subst this
  obtain ⟨h1,h2⟩:=stop ρ μ hI
  unfold dH
  rw [h1]
  exact W_some.mpr h2
 | m+1,i,ρ,μ,h,hI=>by
  obtain ⟨d,ρ1,h1,h2,h3⟩:=go i ρ μ (by omega) hI
  unfold dH
  rw [h1]
  simp only [Od,h2]
  rw [W_bind]
  refine bU h3 fun p q=>?_
  obtain ⟨fl,ρ2,μ2⟩:=p
  cases fl with
  | nx=>exact nQ I go stop m (i+1) ρ2 μ2 (by omega) q
  | ct=>exact nQ I go stop m (i+1) ρ2 μ2 (by omega) q
  | bk=>exact W_some.mpr q
  | rt d=>exact W_some.mpr q
theorem uW {a:Nat}{xs:List D}{g:MG}{b:MS}{ρ:aF}{μ:Hm}{Q:Fl×aF×Hm->Prop}(I:Nat->aF->Hm->Prop)(h0:I 0 ρ μ)(hl:∀ i ρ μ,I i ρ μ->μ[a]? = some (.lst xs))
  (go:∀ i d ρ μ,xs[i]? = some d->I i ρ μ->∃ ρ1,g d ρ μ=some ρ1/\W (b ρ1 μ) fun p=>match p.1 with|.nx=>I (i+1) p.2.1 p.2.2|.ct=>I (i+1) p.2.1 p.2.2|.bk=>Q (.nx,p.2.1,p.2.2)|.rt d=>Q (.rt d,p.2.1,p.2.2))
  (stop:∀ ρ μ,I xs.length ρ μ->Q (.nx,ρ,μ)):W (dH (eP (.loc a)) g b (xs.length+1) 0 ρ μ) Q:=by
 refine nQ (N:=xs.length) I (fun i ρ μ hi hI=>?_) (fun ρ μ hI=>⟨?_,stop ρ μ hI⟩) xs.length 0 ρ μ (by omega) h0
 ·have e:xs[i]? = some xs[i]:=N9 hi
  obtain ⟨ρ1,h1,h2⟩:=go i xs[i] ρ μ e hI
  refine ⟨xs[i],ρ1,?_,h1,h2⟩
  simp only [eP,jZ,bM,hl i ρ μ hI,Oy,e]
 ·simp only [eP,jZ,bM,hl _ ρ μ hI,Oy]
  simp
theorem uX {lo:Int}{n:Nat}{g:MG}{b:MS}{ρ:aF}{μ:Hm}{Q:Fl×aF×Hm->Prop}(I:Nat->aF->Hm->Prop)(h0:I 0 ρ μ)
  (go:∀ (i:Nat) ρ μ,i<n->I i ρ μ->∃ ρ1,g (.int (lo+i)) ρ μ=some ρ1/\W (b ρ1 μ) fun p=>match p.1 with|.nx=>I (i+1) p.2.1 p.2.2|.ct=>I (i+1) p.2.1 p.2.2|.bk=>Q (.nx,p.2.1,p.2.2)|.rt d=>Q (.rt d,p.2.1,p.2.2))
  (stop:∀ ρ μ,I n ρ μ->Q (.nx,ρ,μ)):W (dH (fR lo n) g b (n+1) 0 ρ μ) Q:=by
 refine nQ (N:=n) I (fun i ρ μ hi hI=>?_) (fun ρ μ hI=>⟨?_,stop ρ μ hI⟩) n 0 ρ μ (by omega) h0
 ·obtain ⟨ρ1,h1,h2⟩:=go i ρ μ hi hI
  exact ⟨_,ρ1,by simp only [fR,if_pos hi],h1,h2⟩
 ·simp only [fR,Qb,if_false]
theorem BH {μ:Hm}{a:Nat}{ys:List D}{y:D}(h:μ[a]? = some (.lst ys))(hl:ys.length<N4):lH μ a y=some (μ.set a (.lst (ys++[y]))):=by
 unfold lH
 rw [h]
 exact if_pos hl
theorem uY {src:jY}{c:MT}{e:ME}{ρ:aF}{μ0:Hm}{xs:List D}{p:D->Bool}{v:D->D}{Q:Hm->Prop}(hs:∀ μ i,μ0 <+: μ->src μ i=some xs[i]?)(hl:xs.length<=N4)
  (hc:∀ d μ,d∈xs->μ0 <+: μ->W (c (ρ++[some d]) μ) fun r=>r.1=p d/\μ <+: r.2)
  (he:∀ d μ,d∈xs->p d=true->μ0 <+: μ->W (e (ρ++[some d]) μ) fun r=>r.1=v d/\μ <+: r.2)
  (aS:∀ μ,μ0 <+: μ->μ[μ0.length]? = some (.lst ((xs.filter p).map v))->Q μ) :
  ∀ (m i:Nat)(μ:Hm),i+m=xs.length->μ0 <+: μ->μ[μ0.length]? = some (.lst (((xs.take i).filter p).map v))->W (hV src mT c e ρ μ0.length (m+1) i μ) Q
 | 0,i,μ,hi,hp,ha=>by
  have:i=xs.length:=by omega
  subst this
  unfold hV
  rw [hs μ _ hp]
  rw [Qs (N3 _)]
  simp only [Od]
  refine W_some.mpr (aS μ hp ?_)
  simpa using ha
 | m+1,i,μ,hi,hp,ha=>by
  have hlt:i<xs.length:=by omega
  have hx:xs[i]? = some xs[i]:=N9 hlt
  have hmem:xs[i]∈xs:=RS hlt
  unfold hV
  rw [hs μ _ hp,hx]
  simp only [Od,mT]
  rw [W_bind]
  refine bU (hc _ μ hmem hp) fun r q=>?_
  obtain ⟨b,μ1⟩:=r
  obtain ⟨q1,q2⟩:=q
  dsimp only at q1 q2 ⊢
  subst q1
  have htake:xs.take (i+1)=xs.take i++[xs[i]]:=by rw [List.take_succ,hx];rfl
  have ha1:=aO q2 ha
  cases hpd:p xs[i] with
  | false=>
   refine uY hs hl hc he aS m (i+1) μ1 (by omega) (hp.trans q2) ?_
   rw [ha1,htake,PY]
   simp [hpd]
  | true=>
   dsimp only
   rw [W_bind]
   refine bU (he _ μ1 hmem hpd (hp.trans q2)) fun r q=>?_
   obtain ⟨y,μ2⟩:=r
   obtain ⟨q3,q4⟩:=q
   dsimp only at q3 q4 ⊢
   subst q3
   have ha2:=aO q4 ha1
   have hlen:(((xs.take i).filter p).map v).length<N4:=by
    have h1:=O8 p (xs.take i)
    rw [NP]
    rw [OP] at h1
    omega
   rw [BH ha2 hlen,Od]
   have hp2:μ0 <+: μ2:=(hp.trans q2).trans q4
   refine uY hs hl hc he aS m (i+1) _ (by omega) (c6 hp2 (N3 _) _) ?_
   rw [OK (NS.mp ha2).1,htake,PY]
   simp [hpd]
theorem uZ {it:MI}{c:MT}{e:ME}{ρ:aF}{μ:Hm}{xs:List D}{p:D->Bool}{v:D->D}{Q:D×Hm->Prop}
  (hit:W (it ρ μ) fun r=>(∀ μ' i,r.2.2 <+: μ'->r.1 μ' i=some xs[i]?)/\r.2.1=xs.length+1/\xs.length<=N4 /\
   (∀ d μ',d∈xs->r.2.2 <+: μ'->W (c (ρ++[some d]) μ') fun s=>s.1=p d/\μ' <+: s.2)/\(∀ d μ',d∈xs->p d=true->r.2.2 <+: μ'->W (e (ρ++[some d]) μ') fun s=>s.1=v d/\μ' <+: s.2) /\
   ∀ μ',r.2.2 <+: μ'->μ'[r.2.2.length]? = some (.lst ((xs.filter p).map v))->Q (.loc r.2.2.length,μ')):W (iS it c e ρ μ) Q:=by
 unfold iS lO
 rw [W_bind]
 refine bU hit fun r q=>?_
 obtain ⟨src,n,μ1⟩:=r
 obtain ⟨h1,h2,h3,h4,h5,h6⟩:=q
 dsimp only at h1 h2 h3 h4 h5 h6 ⊢
 subst h2
 rw [gO]
 exact uY h1 h3 h4 h5 h6 xs.length 0 (μ1++[.lst []]) (by omega) (aQ _ _) (by simp)
theorem u3 {xs:List D}{μ:Hm}:∀ μ' i,μ <+: μ'->eP (.tup xs) μ' i=some xs[i]?:=fun μ' i hp=>rfl
noncomputable abbrev P (x y:Int):D:=.tup [.int x,.int y]
noncomputable abbrev PP (p:Int×Int):D:=P p.1 p.2
theorem LL (n:Nat)(μ:Hm)(p q:Int×Int):bZ (n+2) μ (PP p) (PP q)=some (p == q):=by
 obtain ⟨a,b⟩:=p
 obtain ⟨c,d⟩:=q
 show some (a == c&&(b == d&&true))=some ((a,b) == (c,d))
 rw [Wq]
 rfl
theorem BI (n:Nat)(μ:Hm):∀ ps qs:List (Int×Int),eM (bZ (n+2) μ) (ps.map PP) (qs.map PP)=some (ps == qs)
 | [],[]=>rfl
 | [],_::_=>rfl
 | _::_,[]=>rfl
 | p::ps,q::qs=>by
  rw [N0,N0]
  show (bZ (n+2) μ (PP p) (PP q)).bind (fun b=>(eM (bZ (n+2) μ) (ps.map PP) (qs.map PP)).map fun c=>b&&c)=_
  rw [LL,BI n μ ps qs]
  rfl
theorem BJ {μ:Hm}{a b:Nat}{ps qs:List (Int×Int)}(ha:μ[a]? = some (.lst (ps.map PP)))(hb:μ[b]? = some (.lst (qs.map PP))):bZ 8 μ (.loc a) (.loc b)=some (ps == qs):=by
 have h1:c3 μ (.loc a)=some (.lst (ps.map PP)):=by simp only [c3,ha]
 have h2:c3 μ (.loc b)=some (.lst (qs.map PP)):=by simp only [c3,hb]
 show (c3 μ (.loc a)).bind (fun x=>(c3 μ (.loc b)).bind fun y=>fQ (bZ 7 μ) x y)=_
 rw [h1,h2]
 exact BI 5 μ ps qs
theorem pY {μ:Hm}{a b:Nat}{ps qs:List (Int×Int)}{ne:Bool}{Q:D×Hm->Prop}(ha:μ[a]? = some (.lst (ps.map PP)))(hb:μ[b]? = some (.lst (qs.map PP))):W (bE ne (.loc a) (.loc b) μ) Q↔Q (.bl (if ne then !(ps == qs) else ps == qs),μ):=by
 unfold bE
 rw [BJ ha hb]
 exact W_some
theorem BK (n:Nat)(μ:Hm):∀ ps qs:List Int,eM (bZ (n+1) μ) (ps.map D.int) (qs.map D.int)=some (ps == qs)
 | [],[]=>rfl
 | [],_::_=>rfl
 | _::_,[]=>rfl
 | p::ps,q::qs=>by
  rw [N0,N0]
  show (bZ (n+1) μ (.int p) (.int q)).bind (fun b=>(eM (bZ (n+1) μ) (ps.map D.int) (qs.map D.int)).map fun c=>b&&c)=_
  rw [BK n μ ps qs]
  rfl
theorem nR {μ:Hm}{a b:Nat}{xs ys:List D}{Q:D×Hm->Prop}(ha:μ[a]? = some (.lst xs))(hb:μ[b]? = some (.lst ys))(hl:xs.length+ys.length<=N4):W (bB (.loc a) (.loc b) μ) Q↔Q (.loc μ.length,μ++[.lst (xs++ys)]):=by
 simp only [bB,ha,hb,if_pos hl]
 exact W_some
theorem kS {f:D->List D->Hm->Option (D×Hm)}{mo:ME}{ms:MA}{ρ:aF}{μ:Hm}{Q:D×Hm->Prop}(h:W (mo ρ μ) fun p=>j5 p.2 p.1=true/\W (ms ρ p.2) fun q=>W (f p.1 q.1 q.2) Q):W (dP f mo ms ρ μ) Q:=by
 unfold dP
 rw [W_bind]
 refine bU h fun p q=>?_
 rw [q.1]
 exact W_bind.mpr q.2
theorem jH {μ:Hm}{a:Nat}{xs:List D}(h:μ[a]? = some (.lst xs)):j5 μ (.loc a)=true:=by
 simp only [j5,h]
theorem pZ {μ:Hm}{a:Nat}{xs:List D}{y:D}{Q:D×Hm->Prop}(h:μ[a]? = some (.lst xs))(hl:xs.length<N4):W (gD (.loc a) [y] μ) Q↔Q (.non,μ.set a (.lst (xs++[y]))):=by
 simp only [gD,BH h hl,Oy]
 exact W_some
theorem LM {μ:Hm}{b:Bool}{Q:D×Hm->Prop}:W (mS [.bl b,.ty "bool"] μ) Q↔Q (.bl true,μ):=W_some
theorem nS {μ:Hm}{a:Nat}{xs:List D}{Q:D×Hm->Prop}(h:μ[a]? = some (.lst xs)):W (eT [.loc a] μ) Q↔Q (.int xs.length,μ):=by
 simp only [eT,mU,bM,h,Oy]
 exact W_some
theorem BL {μ:Hm}{xs:List D}{Q:D×Hm->Prop}:W (eT [.rol xs] μ) Q↔Q (.int xs.length,μ):=W_some
theorem u4 {μ:Hm}{a:Nat}{xs:List D}{Q:List D->Prop}(h:μ[a]? = some (.lst xs)):W (jZ μ (.loc a)) Q↔Q xs:=by
 simp only [jZ,bM,h]
 exact W_some
theorem BM {a:ME}{lo hi:MO}{ρ:aF}{μ:Hm}{Q:D×Hm->Prop}(h:W (a ρ μ) fun p=>∃ l,p.1=.loc l/\W (lo ρ p.2) fun q=>W (hi ρ q.2) fun r=>∃ xs,r.2[l]? = some (.lst xs)/\Q (.loc r.2.length,r.2++[.lst (gZ xs q.1 r.1)])):W (jT a lo hi ρ μ) Q:=by
 unfold jT
 rw [W_bind]
 refine bU h fun p q=>?_
 obtain ⟨d,μ1⟩:=p
 obtain ⟨l,q1,q2⟩:=q
 dsimp only at q1 q2 ⊢
 subst q1
 rw [W_bind]
 refine bU q2 fun s q=>?_
 rw [W_bind]
 refine bU q fun r q=>?_
 obtain ⟨xs,q3,q4⟩:=q
 simp only [bM,q3,Od]
 exact W_some.mpr q4
theorem bI (μ:Hm)(c:C):(μ++[c])[μ.length]? = some c:=by simp
end L3
namespace L3
open PySem L2
section
variable {i j:Int}{μ:Hm}{Q:D×Hm->Prop}
theorem BN:∀ is:List Int,j0 (is.map D.int)=some is
 | []=>rfl
 | i::is=>by
  show (j0 (is.map D.int)).map (i::·)=_
  rw [BN is];rfl
theorem LN {a:Nat}{bs:List Bool}(h:μ[a]? = some (.lst (bs.map D.bl))):W (o8 [.loc a] μ) Q↔Q (.bl (bs.all id),μ):=by
 have e:∀ bs:List Bool,lT (bs.map D.bl)=some bs:=fun bs=>by
  induction bs with
  | nil=>rfl
  | cons b bs ih=>
   show (lT (bs.map D.bl)).map (b::·)=_
   rw [ih];rfl
 simp only [o8,bM,h,Od,e,Oy]
 exact W_some
end
theorem BO {a:ME}{lo hi st:MO}{ρ:aF}{μ:Hm}{Q:D×Hm->Prop}(h:W (a ρ μ) fun p=>∃ l,p.1=.loc l/\W (lo ρ p.2) fun q=>W (hi ρ q.2) fun r=>W (st ρ r.2) fun t=>t.1≠some 0/\∃ xs,t.2[l]? = some (.lst xs)/\(cL xs q.1 r.1 t.1).length<=N4/\Q (.loc t.2.length,t.2++[.lst (cL xs q.1 r.1 t.1)])):W (lW a lo hi st ρ μ) Q:=by
 unfold lW
 rw [W_bind]
 refine bU h fun p q=>?_
 obtain ⟨d,μ1⟩:=p
 obtain ⟨l,q1,q2⟩:=q
 dsimp only at q1 q2 ⊢
 subst q1
 rw [W_bind]
 refine bU q2 fun s q=>?_
 rw [W_bind]
 refine bU q fun r q=>?_
 rw [W_bind]
 refine bU q fun t q=>?_
 obtain ⟨h0,xs,q3,q4,q5⟩:=q
 rw [if_pos h0]
 simp only [iC,q3,Od]
 rw [if_pos q4]
 exact W_some.mpr q5
theorem w_mTrue {ρ:aF}{μ:Hm}{Q:Bool×Hm->Prop}:W (iQ ρ μ) Q↔Q (true,μ):=W_some
theorem fM {o i v:ME}{ρ:aF}{μ:Hm} {Q}:W (bW o i v ρ μ) Q↔W (v ρ μ) fun p=>W (o ρ p.2) fun q=>W (i ρ q.2) fun r=>W (iV q.1 r.1 p.1 r.2) fun μ'=>Q (.nx,ρ,μ'):=by
 unfold bW kE
 simp only [W_bind,gO]
theorem BP {μ:Hm}{a:Nat}{xs:List D}{i:Int}{j:Nat}{d:D}{Q:Hm->Prop}(h:μ[a]? = some (.lst xs))(hi:dI xs.length i=some j):W (iV (.loc a) (.int i) d μ) Q↔Q (μ.set a (.lst (xs.set j d))):=by
 simp only [iV,lX,h,hi,Oy]
 exact W_some
section
variable {μ:Hm}{a:Nat}{kvs:List (List Int×D)}{k:List Int}{d y:D}{ρ:aF}{Q:D×Hm->Prop}
theorem iH:W (fI ρ μ) Q↔Q (.loc μ.length,μ++[.dT []]):=W_some
theorem LO (h:μ[a]? = some (.dT kvs))(hk:cK y=some k)(hv:bF kvs k=some d):W (aH (.loc a) y μ) Q↔Q (d,μ):=by
 simp only [aH,h,hk,Od,hv,Oy]
 exact W_some
theorem gQ {Q:Hm->Prop}(h:μ[a]? = some (.dT kvs))(hk:cK y=some k)(hl:kvs.length<N4):W (iV (.loc a) y d μ) Q↔Q (μ.set a (.dT (cS kvs k d))):=by
 simp only [iV,nA,h,hk,Od,if_pos hl]
 exact W_some
theorem LP {xs:List D}(h:μ[a]? = some (.lst xs)):W (gH [.loc a] μ) Q↔Q (.loc μ.length,μ++[.lst xs]):=by
 simp only [gH,h,mW,bM,Oy]
 exact W_some
end
theorem LQ {μ:Hm}{a:Nat}{xs:List D}{i:Int}{y:D}{Q:D×Hm->Prop}(h:μ[a]? = some (.lst xs))(h0:0<=i)(h1:i<2 ^ 63)(hl:xs.length<N4):W (lY (.loc a) [.int i,y] μ) Q↔Q (.non,μ.set a (.lst (dA xs i.toNat y))):=by
 simp only [lY,h]
 rw [if_pos ⟨h0,h1,hl⟩]
 exact W_some
theorem LR {μ:Hm}{a:Nat}{is:List Int}{Q:D×Hm->Prop}(h:μ[a]? = some (.lst (is.map D.int)))(hl:is.length<64):W (eD [.loc a] μ) Q↔Q (.loc μ.length,μ++[.lst ((eC is).map D.int)]):=by
 have:kH [.loc a] μ=some (.loc μ.length,μ++[.lst ((eC is).map D.int)]):=by
  simp only [kH,iC,h,Od,BN]
  rw [if_pos hl]
 simp only [eD,this]
 exact W_some
theorem LS {μ:Hm}{a:Nat}{xs:List D}{Q:D×Hm->Prop}(h:μ[a]? = some (.lst xs)):W (gG [.loc a] μ) Q↔Q (.loc μ.length,μ++[.lst xs.reverse]):=by
 simp only [gG,h]
 exact W_some
end L3
namespace Lw
open PySem L2 L3
noncomputable def ds:List (Str×Stmt):=[("led",bL 1),("stacks",bL 3),("are_piles",bL 5),("_law_given",bL 7),("_law_number",bL 8),("_law_quarters",bL 9),("_law_value",bL 12),("_law_mirror",bL 13),("_law_led",bL 14),("_law_then",bL 15),("_law_fold",bL 16),("_law_grown",bL 17),("_law_other",bL 19),("_law_due",bL 20),("_law_in_turn",bL 21),("_law_told",bL 22),("law",bL 23)]
noncomputable def S:Sig:=⟨[("led",2),("stacks",1),("are_piles",2),("_law_given",2),("_law_number",2),("_law_quarters",2),("_law_value",2),("_law_mirror",2),("_law_led",2),("_law_then",2),("_law_fold",6),("_law_grown",5),("_law_other",2),("_law_due",2),("_law_in_turn",2),("_law_told",4),("law",1)],[],[],["all","bool","isinstance","len","list","range","reversed","sorted"],["_law_heaps","_law_ways","_law_gone","_law_made","expected"],["_law_made"],["layings","piles","expected","_law_heaps","_law_made","_law_some"]⟩
@[irreducible] noncomputable def f (k:Nat)(x:Str):MF:=gM S ds k x
end Lw
namespace Lw
open PySem L2 L3
theorem LU (k:Nat)(d0 d1:D)(μ:Hm):f (k+1) "led" [d0,d1] μ=aS ((aG (bA 2 (aB aH (aA 1) (mC (.int 0)))) (aG (bA 3 (aB aH (aA 1) (mC (.int 1)))) (b8 (cP (aC (aB bB (aB bB (aB bQ (aB aH (aA 0) (mC (.int 0))) (aA 2)) (aB bQ (aB aH (aA 0) (mC (.int 1))) (aA 3))) (aB aH (aA 0) (mC (.int 4)))) (aC (aB bB (aB bB (aB bQ (aB aH (aA 0) (mC (.int 2))) (aA 2)) (aB bQ (aB aH (aA 0) (mC (.int 3))) (aA 3))) (aB aH (aA 0) (mC (.int 5)))) aD)))))) [some d0,some d1,none,none] μ):=by
 kernel_rfl
theorem LV (k:Nat)(d0:D)(μ:Hm):f (k+1) "stacks" [d0] μ=aS ((aG (bA 1 fI) (aG (cB (dO (aM dR (aC (aA 0) aD))) (b7 2) (eL (dP gD (fJ kK (aA 1) (aC (aM (f k "led") (aC (aB aH (aA 0) (aA 2)) (aC (aA 2) aD))) (aC (c5 aD) aD))) (aC (aA 2) aD)))) (b8 (aA 1)))) [some d0,none,none] μ):=by
 kernel_rfl
theorem LW (k:Nat)(d0 d1:D)(μ:Hm):f (k+1) "are_piles" [d0,d1] μ=aS ((aG (bA 2 (aM (f k "stacks") (aC (aA 0) aD))) (aG (bS (bC (aB (bE true) (aM dR (aC (aA 1) aD)) (aM dR (aC (aA 2) aD)))) (b8 (mC (.bl false))) b6) (b8 (aM o8 (aC (kJ 2 (iS (cT (aA 2)) iQ (aB (bE false) (aM eD (aC (aB aH (aA 1) (aA 3)) aD)) (aB aH (aA 2) (aA 3)))) (iS (dO (aA 2)) iQ (aB (bE false) (aM eD (aC (aB aH (aA 1) (aA 3)) aD)) (aB aH (aA 2) (aA 3))))) aD))))) [some d0,some d1,none] μ):=by
 kernel_rfl
theorem LX (k:Nat)(d0 d1:D)(μ:Hm):f (k+1) "_law_given" [d0,d1] μ=aS ((aG (bS (bC (aB lE (aA 1) (aM eT (aC (aA 0) aD)))) (b8 (aB aH (aA 0) (aA 1))) b6) (aG (bA 2 (aB bQ (aB bQ (aB bB (aA 1) (mC (.int 3))) (aB bB (aA 1) (mC (.int 3)))) (mC (.int 48271)))) (b8 (gY (bC (aB (bE false) (aA 0) (c5 aD))) (aA 2) (aB bB (aA 2) (aB bQ (aB aH (aA 0) (aB bX (aA 1) (aM eT (aC (aA 0) aD)))) (aB bB (aA 1) (mC (.int 5))))))))) [some d0,some d1,none] μ):=by
 kernel_rfl
theorem LY (k:Nat)(d0 d1:D)(μ:Hm):f (k+1) "_law_number" [d0,d1] μ=aS ((aG (bA 2 (aB bB (aB bB (aB bX (aM (f k "_law_given") (aC (aA 0) (aC (aA 1) aD))) (mC (.int 1000003))) (aB bQ (mC (.int 7)) (aA 1))) (mC (.int 3)))) (b8 (aB bX (aB bQ (aB bQ (aA 2) (aA 2)) (mC (.int 48271))) (mC (.int 2147483647))))) [some d0,some d1,none] μ):=by
 kernel_rfl
theorem LZ (k:Nat)(d0 d1:D)(μ:Hm):f (k+1) "_law_quarters" [d0,d1] μ=aS ((aG (bA 2 (c5 aD)) (aG (cB (lN (aC (mC (.int 1)) (aC (aB bQ (mC (.int 4)) (aA 0)) aD))) (b7 3) (cB (lN (aC (mC (.int 1)) (aC (aB bQ (mC (.int 4)) (aA 1)) aD))) (b7 4) (bS (iL (jS (bC (aB (bE false) (aB bX (aA 3) (mC (.int 4))) (mC (.int 2)))) (bC (aB (bE false) (aB bX (aA 4) (mC (.int 2))) (mC (.int 1))))) (jS (bC (aB (bE false) (aB bX (aA 4) (mC (.int 4))) (mC (.int 2)))) (bC (aB (bE false) (aB bX (aA 3) (mC (.int 2))) (mC (.int 1)))))) (eL (dP gD (aA 2) (aC (cP (aC (aA 3) (aC (aA 4) aD))) aD))) b6))) (b8 (aA 2)))) [some d0,some d1,none,none,none] μ):=by
 kernel_rfl
theorem L0 (k:Nat)(d0 d1:D)(μ:Hm):f (k+1) "_law_value" [d0,d1] μ=aS ((aG (fD (aA 0) (dN [2,3])) (b8 (aB aH (c5 (aC (aA 3) (aC (aA 2) (aC (aB lC (aA 2) (aA 3)) (aC (aB bB (aA 2) (aA 3)) aD))))) (aA 1)))) [some d0,some d1,none,none] μ):=by
 kernel_rfl
theorem L1 (k:Nat)(d0 d1:D)(μ:Hm):f (k+1) "_law_mirror" [d0,d1] μ=aS ((aG (bA 2 (c5 (aC (cP (aC (mC (.int 1)) (aC (mC (.int 0)) (aC (mC (.int 0)) (aC (fS (mC (.int 1))) (aC (mC (.int 0)) (aC (aB bQ (mC (.int 2)) (aA 1)) aD))))))) (aC (cP (aC (fS (mC (.int 1))) (aC (mC (.int 0)) (aC (mC (.int 0)) (aC (mC (.int 1)) (aC (aB bQ (mC (.int 2)) (aA 1)) (aC (mC (.int 0)) aD))))))) aD)))) (b8 (aB aH (aB bB (aA 2) (c5 (aC (cP (aC (mC (.int 0)) (aC (mC (.int 1)) (aC (mC (.int 1)) (aC (mC (.int 0)) (aC (aA 1) (aC (fS (aA 1)) aD))))))) (aC (cP (aC (mC (.int 0)) (aC (fS (mC (.int 1))) (aC (fS (mC (.int 1))) (aC (mC (.int 0)) (aC (aA 1) (aC (aA 1) aD))))))) aD)))) (aA 0)))) [some d0,some d1,none] μ):=by
 kernel_rfl
theorem L4 (k:Nat)(d0 d1:D)(μ:Hm):f (k+1) "_law_led" [d0,d1] μ=aS ((aG (fD (aA 0) (dN [2,3,4,5,6,7])) (aG (fD (aA 1) (dN [8,9])) (b8 (cP (aC (aB bB (aB bB (aB bQ (aA 2) (aA 8)) (aB bQ (aA 3) (aA 9))) (aA 6)) (aC (aB bB (aB bB (aB bQ (aA 4) (aA 8)) (aB bQ (aA 5) (aA 9))) (aA 7)) aD)))))) [some d0,some d1,none,none,none,none,none,none,none,none] μ):=by
 kernel_rfl
theorem L5 (k:Nat)(d0 d1:D)(μ:Hm):f (k+1) "_law_then" [d0,d1] μ=aS ((aG (fD (aA 0) (dN [2,3,4,5,6,7])) (aG (fD (aA 1) (dN [8,9,10,11,12,13])) (aG (bA 14 (cP (aC (aB bB (aB bQ (aA 8) (aA 2)) (aB bQ (aA 9) (aA 4))) (aC (aB bB (aB bQ (aA 8) (aA 3)) (aB bQ (aA 9) (aA 5))) (aC (aB bB (aB bQ (aA 10) (aA 2)) (aB bQ (aA 11) (aA 4))) (aC (aB bB (aB bQ (aA 10) (aA 3)) (aB bQ (aA 11) (aA 5))) aD)))))) (b8 (aB bB (aA 14) (cP (aC (aB bB (aB bB (aB bQ (aA 8) (aA 6)) (aB bQ (aA 9) (aA 7))) (aA 12)) (aC (aB bB (aB bB (aB bQ (aA 10) (aA 6)) (aB bQ (aA 11) (aA 7))) (aA 13)) aD)))))))) [some d0,some d1,none,none,none,none,none,none,none,none,none,none,none,none,none] μ):=by
 kernel_rfl
theorem L6 (k:Nat)(d0 d1 d2 d3 d4 d5:D)(μ:Hm):f (k+1) "_law_fold" [d0,d1,d2,d3,d4,d5] μ=aS ((aG (dB 1 (bA 7 (iS (cT (aA 1)) iQ (aB (bE false) (aB fC (aM (f k "_law_value") (aC (aA 14) (aC (aA 2) aD))) (aA 3)) (aA 4)))) (bA 7 (iS (dO (aA 1)) iQ (aB (bE false) (aB fC (aM (f k "_law_value") (aC (aA 14) (aC (aA 2) aD))) (aA 3)) (aA 4))))) (aG (bS (iL (bC (aB (eB true) (mC (.bl true)) (aA 7))) (bC (aB (eB true) (mC (.bl false)) (aA 7)))) (b8 (cP (aC (aA 0) (aC (aA 1) aD)))) b6) (aG (bA 8 (aM (f k "_law_mirror") (aC (aA 2) (aC (aA 3) aD)))) (aG (bA 9 fI) (aG (dB 0 (cB (cT (aA 0)) (b7 10) (aG (bW (aA 9) (aA 10) (aB aH (aA 0) (aA 10))) (bS (bC (aB (bE false) (aB fC (aM (f k "_law_value") (aC (aM (f k "_law_led") (aC (aB aH (aA 0) (aA 10)) (aC (aA 10) aD))) (aC (aA 2) aD))) (aA 3)) (aA 4))) (bW (aA 9) (aA 10) (aM (f k "_law_then") (aC (aB aH (aA 0) (aA 10)) (aC (aA 8) aD)))) b6))) (cB (dO (aA 0)) (b7 10) (aG (bW (aA 9) (aA 10) (aB aH (aA 0) (aA 10))) (bS (bC (aB (bE false) (aB fC (aM (f k "_law_value") (aC (aM (f k "_law_led") (aC (aB aH (aA 0) (aA 10)) (aC (aA 10) aD))) (aC (aA 2) aD))) (aA 3)) (aA 4))) (bW (aA 9) (aA 10) (aM (f k "_law_then") (aC (aB aH (aA 0) (aA 10)) (aC (aA 8) aD)))) b6)))) (aG (bA 11 fI) (aG (bA 12 fI) (aG (dB 1 (cB (cT (aA 1)) (b7 6) (bS (bC (aB (bE false) (aB fC (aM (f k "_law_value") (aC (aA 6) (aC (aA 2) aD))) (aA 3)) (aA 4))) (bW (aA 12) (aM (f k "_law_led") (aC (aA 8) (aC (aA 6) aD))) (aM gG (aC (aB aH (aA 1) (aA 6)) aD))) (bW (aA 11) (aA 6) (aB aH (aA 1) (aA 6))))) (cB (dO (aA 1)) (b7 6) (bS (bC (aB (bE false) (aB fC (aM (f k "_law_value") (aC (aA 6) (aC (aA 2) aD))) (aA 3)) (aA 4))) (bW (aA 12) (aM (f k "_law_led") (aC (aA 8) (aC (aA 6) aD))) (aM gG (aC (aB aH (aA 1) (aA 6)) aD))) (bW (aA 11) (aA 6) (aB aH (aA 1) (aA 6)))))) (aG (dB 12 (cB (cT (aA 12)) (b7 6) (aG (bA 13 (fJ iZ (aA 11) (aC (aA 6) (aC (c5 aD) aD)))) (bW (aA 11) (aA 6) (gY (iB (aA 5)) (aB bB (aA 13) (aB aH (aA 12) (aA 6))) (aB bB (aB aH (aA 12) (aA 6)) (aA 13)))))) (cB (dO (aA 12)) (b7 6) (aG (bA 13 (fJ iZ (aA 11) (aC (aA 6) (aC (c5 aD) aD)))) (bW (aA 11) (aA 6) (gY (iB (aA 5)) (aB bB (aA 13) (aB aH (aA 12) (aA 6))) (aB bB (aB aH (aA 12) (aA 6)) (aA 13))))))) (b8 (cP (aC (aA 9) (aC (aA 11) aD))))))))))))) [some d0,some d1,some d2,some d3,some d4,some d5,none,none,none,none,none,none,none,none] μ):=by
 kernel_rfl
theorem L7 (k:Nat)(d0 d1 d2 d3 d4:D)(μ:Hm):f (k+1) "_law_grown" [d0,d1,d2,d3,d4] μ=aS ((aG (bA 5 fI) (aG (bA 6 fI) (aG (cB (dO (aM (f k "_law_quarters") (aC (aA 1) (aC (aA 2) aD)))) (b7 7) (aG (bW (aA 5) (aA 7) (cP (aC (mC (.int 1)) (aC (mC (.int 0)) (aC (mC (.int 0)) (aC (mC (.int 1)) (aC (mC (.int 0)) (aC (mC (.int 0)) aD)))))))) (bW (aA 6) (aA 7) (c5 (aC (aA 7) aD))))) (aG (cB (mX (aC (aA 4) aD)) (b7 8) (aG (bA 9 (aM (f k "_law_number") (aC (aA 0) (aC (aB bB (aA 3) (aA 8)) aD)))) (aG (bA 10 (aB bX (aA 9) (mC (.int 4)))) (aG (bA 11 (aM dR (aC (aA 6) aD))) (aG (bA 12 (aM (f k "_law_value") (aC (aB aH (aA 11) (aB bX (aB cJ (aA 9) (mC (.int 4))) (aM eT (aC (aA 11) aD)))) (aC (aA 10) aD)))) (aG (bA 13 (aB bX (aB cJ (aA 9) (mC (.int 4096))) (mC (.int 4)))) (fD (aM (f k "_law_fold") (aC (aA 5) (aC (aA 6) (aC (aA 10) (aC (aB lC (aA 12) (aB bX (aA 12) (mC (.int 4)))) (aC (aB (bE false) (aB bX (aA 13) (mC (.int 2))) (mC (.int 0))) (aC (aB lE (aA 13) (mC (.int 2))) aD))))))) (dN [5,6])))))))) (b8 (cP (aC (aA 5) (aC (aA 6) aD)))))))) [some d0,some d1,some d2,some d3,some d4,none,none,none,none,none,none,none,none,none] μ):=by
 kernel_rfl
theorem L8 (k:Nat)(d0 d1:D)(μ:Hm):f (k+1) "_law_other" [d0,d1] μ=aS ((aG (bA 2 fI) (aG (dB 0 (cB (cT (aA 0)) (b7 3) (bW (aA 2) (aA 3) (aM gH (aC (aB aH (aA 0) (aA 3)) aD)))) (cB (dO (aA 0)) (b7 3) (bW (aA 2) (aA 3) (aM gH (aC (aB aH (aA 0) (aA 3)) aD))))) (aG (bA 4 (aM dR (aC (aA 0) aD))) (aG (bA 5 (aB aH (aA 4) (aB bX (aB cJ (aA 1) (mC (.int 8))) (aM eT (aC (aA 4) aD))))) (aG (bA 6 (aB aH (aA 4) (aB bX (aB cJ (aA 1) (mC (.int 512))) (aM eT (aC (aA 4) aD))))) (aG (bA 7 (aB bX (aA 1) (mC (.int 8)))) (aG (bS (bC (aB (bE false) (aA 7) (mC (.int 0)))) (eL (dP j8 (aB aH (aA 2) (aA 5)) aD)) b6) (aG (bS (bC (aB (bE false) (aA 7) (mC (.int 1)))) (eL (dP j7 (aB aH (aA 2) (aA 5)) aD)) b6) (aG (bS (bC (aB (bE false) (aA 7) (mC (.int 2)))) (eL (dP lY (aB aH (aA 2) (aA 5)) (aC (aB bX (aB cJ (aA 1) (mC (.int 64))) (aB bB (aM eT (aC (aB aH (aA 2) (aA 5)) aD)) (mC (.int 1)))) (aC (aB aH (aB aH (aA 2) (aA 5)) (mC (.int 0))) aD)))) b6) (aG (bS (bC (aB (bE false) (aA 7) (mC (.int 3)))) (eL (fJ kM (aA 2) (aC (aA 5) aD))) b6) (aG (bS (bC (aB (bE false) (aA 7) (mC (.int 4)))) (bW (aA 2) (cP (aC (aB bB (aB aH (aA 5) (mC (.int 0))) (aB bQ (mC (.int 4)) (aB bB (mC (.int 1)) (aB bX (aB cJ (aA 1) (mC (.int 64))) (mC (.int 50)))))) (aC (aB aH (aA 5) (mC (.int 1))) aD))) (c5 aD)) b6) (aG (bS (bC (aB (bE false) (aA 7) (mC (.int 5)))) (eL (dP gD (aB aH (aA 2) (aA 5)) (aC (aB aH (aB aH (aA 0) (aA 6)) (fS (mC (.int 1)))) aD))) b6) (aG (bS (bC (aB (bE false) (aA 7) (mC (.int 6)))) (bW (aB aH (aA 2) (aA 5)) (mC (.int 0)) (aB aH (aB aH (aA 0) (aA 6)) (mC (.int 0)))) b6) (aG (bS (bC (aB (bE false) (aA 7) (mC (.int 7)))) (bW (aB aH (aA 2) (aA 5)) (fS (mC (.int 1))) (cP (aC (aB bB (aB aH (aA 5) (mC (.int 0))) (aB bQ (mC (.int 4)) (aB bX (aB cJ (aA 1) (mC (.int 64))) (mC (.int 3))))) (aC (aB bB (aB aH (aA 5) (mC (.int 1))) (mC (.int 400))) aD)))) b6) (b8 (aA 2)))))))))))))))) [some d0,some d1,none,none,none,none,none,none] μ):=by
 kernel_rfl
theorem L9 (k:Nat)(d0 d1:D)(μ:Hm):f (k+1) "_law_due" [d0,d1] μ=aS ((aG (bS (bC (aB (bE true) (aM dR (aC (aA 0) aD)) (aM dR (aC (aA 1) aD)))) (b8 (mC (.bl false))) b6) (b8 (aB (bE false) (kJ 0 (iS (cT (aA 0)) (bC (aB (bE true) (aM eD (aC (aB aH (aA 0) (aA 2)) aD)) (aM eD (aC (aB aH (aA 1) (aA 2)) aD)))) (aA 2)) (iS (dO (aA 0)) (bC (aB (bE true) (aM eD (aC (aB aH (aA 0) (aA 2)) aD)) (aM eD (aC (aB aH (aA 1) (aA 2)) aD)))) (aA 2))) (c5 aD)))) [some d0,some d1] μ):=by
 kernel_rfl
theorem Ma (k:Nat)(d0 d1:D)(μ:Hm):f (k+1) "_law_in_turn" [d0,d1] μ=aS ((aG (bA 2 (aM dR (aC (aA 0) aD))) (aG (bS (bC (aB (bE false) (aB bX (aA 1) (mC (.int 3))) (mC (.int 1)))) (eL (dP j8 (aA 2) aD)) b6) (aG (bA 3 (aB bX (aB cJ (aA 1) (mC (.int 3))) (aB bB (aM eT (aC (aA 2) aD)) (mC (.int 1))))) (aG (bS (bC (aB (bE false) (aB bX (aA 1) (mC (.int 3))) (mC (.int 2)))) (bA 2 (aB bB (lW (aA 2) (iO (mC (.int 1))) iN (iO (mC (.int 2)))) (lW (aA 2) iN iN (iO (mC (.int 2)))))) b6) (aG (bA 4 fI) (aG (cB (dO (aB bB (jT (aA 2) (iO (aA 3)) iN) (jT (aA 2) iN (iO (aA 3))))) (b7 5) (bW (aA 4) (aA 5) (aB aH (aA 0) (aA 5)))) (b8 (aA 4)))))))) [some d0,some d1,none,none,none,none] μ):=by
 kernel_rfl
theorem Mb (k:Nat)(d0 d1 d2 d3:D)(μ:Hm):f (k+1) "_law_told" [d0,d1,d2,d3] μ=aS ((aG (bA 4 fI) (aG (dB 2 (cB (cT (aA 2)) (b7 5) (bW (aA 4) (aA 5) (aM gH (aC (aB aH (aA 2) (aA 5)) aD)))) (cB (dO (aA 2)) (b7 5) (bW (aA 4) (aA 5) (aM gH (aC (aB aH (aA 2) (aA 5)) aD))))) (aG (bA 6 (aM (f k "_law_in_turn") (aC (aA 4) (aC (aB cJ (aA 3) (mC (.int 512))) aD)))) (aG (bA 7 (aM (f k "are_piles") (aC (aM (f k "_law_in_turn") (aC (aA 0) (aC (aA 3) aD))) (aC (aA 6) aD)))) (b8 (iM (aM mS (aC (aA 7) (aC (mC (.ty "bool")) aD))) (iM (aB (bE false) (aA 7) (aM (f k "_law_due") (aC (aA 1) (aC (aA 2) aD)))) (aB (fK false) (aA 6) (aA 2))))))))) [some d0,some d1,some d2,some d3,none,none,none,none] μ):=by
 kernel_rfl
theorem Mc (k:Nat)(d0:D)(μ:Hm):f (k+1) "law" [d0] μ=aS ((aG (bA 1 (aM (f k "_law_number") (aC (aA 0) (aC (mC (.int 0)) aD)))) (aG (bA 2 (aB bB (mC (.int 1)) (aB bX (aA 1) (mC (.int 3))))) (aG (bA 3 (aB bB (mC (.int 1)) (aB bX (aB cJ (aA 1) (mC (.int 3))) (mC (.int 3))))) (aG (fD (aM (f k "_law_grown") (aC (aA 0) (aC (aA 2) (aC (aA 3) (aC (mC (.int 2)) (aC (aB bX (aB cJ (aA 1) (mC (.int 9))) (mC (.int 5))) aD)))))) (dN [4,5])) (aG (bA 6 (aM (f k "_law_number") (aC (aA 0) (aC (mC (.int 8)) aD)))) (aG (bA 7 (aM (f k "_law_other") (aC (aA 5) (aC (aM (f k "_law_number") (aC (aA 0) (aC (mC (.int 1)) aD))) aD)))) (aG (bS (iL (k8 (iB (aM (f k "_law_told") (aC (aA 4) (aC (aA 5) (aC (aA 5) (aC (aA 6) aD))))))) (k8 (iB (aM (f k "_law_told") (aC (aA 4) (aC (aA 5) (aC (aA 7) (aC (aB cJ (aA 6) (mC (.int 7))) aD)))))))) (b8 (mC (.bl false))) b6) (aG (bA 8 (aM (f k "_law_other") (aC (aA 5) (aC (aM (f k "_law_number") (aC (aA 0) (aC (mC (.int 7)) aD))) aD)))) (b8 (iM (aM (f k "_law_told") (aC (aA 4) (aC (aA 5) (aC (aA 8) (aC (aB cJ (aA 6) (mC (.int 11))) aD))))) (aM (f k "_law_told") (aC (aA 4) (aC (aA 5) (aC (aA 5) (aC (aB cJ (aA 6) (mC (.int 13))) aD))))))))))))))) [some d0,none,none,none,none,none,none,none,none] μ):=by
 kernel_rfl
end Lw
namespace Lw
open PySem L2 L3
theorem qA {z:Int}{μ:Hm}{Q:D×Hm->Prop}:W (bQ (.int 4) (.int z) μ) Q↔Q (.int (4 * z),μ):=jF (.inl ⟨by decide,by decide⟩)
theorem BQ {z:Int}{μ:Hm}{Q:D×Hm->Prop}:W (bX (.int z) (.int 2) μ) Q↔Q (.int (z % 2),μ):=dC (by decide)
theorem u5 {z:Int}{μ:Hm}{Q:D×Hm->Prop}:W (bX (.int z) (.int 4) μ) Q↔Q (.int (z % 4),μ):=dC (by decide)
theorem w_div4 {z:Int}{μ:Hm}{Q:D×Hm->Prop}:W (cJ (.int z) (.int 4) μ) Q↔Q (.int (z / 4),μ):=eF (by decide) (by decide)
theorem Md:(2:Nat)<=N4:=by decide
theorem fW {a b:D}:([a,b]:List D).length<=N4:=Md
theorem Me:(1:Nat)<=N4:=by decide
theorem Mf {a:D}:([a]:List D).length<=N4:=Me
theorem w_div9 {z:Int}{μ:Hm}{Q:D×Hm->Prop}:W (cJ (.int z) (.int 9) μ) Q↔Q (.int (z / 9),μ):=eF (by decide) (by decide)
theorem w_div11 {z:Int}{μ:Hm}{Q:D×Hm->Prop}:W (cJ (.int z) (.int 11) μ) Q↔Q (.int (z / 11),μ):=eF (by decide) (by decide)
theorem w_div7 {z:Int}{μ:Hm}{Q:D×Hm->Prop}:W (cJ (.int z) (.int 7) μ) Q↔Q (.int (z / 7),μ):=eF (by decide) (by decide)
theorem w_mod5 {z:Int}{μ:Hm}{Q:D×Hm->Prop}:W (bX (.int z) (.int 5) μ) Q↔Q (.int (z % 5),μ):=dC (by decide)
noncomputable def wJ:D->Int
 | .int i=>i
 | _=>0
theorem BR {t:MT}{A B C:MS}{ρ:aF}{μ μ':Hm}{b:Bool}{Q:D×Hm->Prop}(h:t ρ μ=some (b,μ'))(h1:b=true->W (aS (aG A C ρ μ')) Q)(h2:b=false->W (aS (aG B C ρ μ')) Q):W (aS (aG (bS t A B) C ρ μ)) Q:=by
 cases b
 ·have e:aG (bS t A B) C ρ μ=aG B C ρ μ':=by unfold aG bS;rw [h];rfl
  rw [e];exact h2 rfl
 ·have e:aG (bS t A B) C ρ μ=aG A C ρ μ':=by unfold aG bS;rw [h];rfl
  rw [e];exact h1 rfl
theorem BS {a C:MS}{ρ ρ':aF}{μ μ':Hm}{Q:D×Hm->Prop}(h:a ρ μ=some (.nx,ρ',μ'))(k:W (aS (C ρ' μ')) Q):W (aS (aG a C ρ μ)) Q:=by
 unfold aG
 rw [h]
 exact k
theorem Mg {g:D->D->Hm->Option (D×Hm)}{a b:ME}{ρ:aF}{μ μ1 μ2:Hm}{x y:D}{Q:D×Hm->Prop}(h1:a ρ μ=some (x,μ1))(h2:b ρ μ1=some (y,μ2))(k:W (g x y μ2) Q):W (aB g a b ρ μ) Q:=by
 unfold aB
 rw [h1,Od,h2]
 exact k
theorem Mh {m:ME}{ρ:aF}{μ:Hm}{Q:D×Hm->Prop}(k:W (m ρ μ) Q):W (aS (b8 m ρ μ)) Q:=W_fin.mpr (w_mRet.mpr (bU k fun _ q=>q))
noncomputable def fX:D->Int×Int
 | .tup [.int x,.int y]=>(x,y)
 | _=>(0,0)
theorem u6 {n:Nat}{i:Int}(h0:0<=i)(h:i<n):dI n i=some i.toNat:=by
 unfold dI;rw [if_pos h0,if_pos h]
theorem BU {gs:List Int}{i:Int}(h0:0<=i)(h:i<gs.length):atI (gs.map D.int) i=some (.int (gs.getD i.toNat 0)):=by
 unfold atI
 rw [NP,u6 h0 h,Od,Ol]
 have hi:i.toNat<gs.length:=by omega
 simp [Pj,hi]
theorem BV {xs:List D}{i:Int}{d:D}{μ:Hm}{Q:D×Hm->Prop}(h:atI xs i=some d):W (aH (.rol xs) (.int i) μ) Q↔Q (d,μ):=by
 have:aH (.rol xs) (.int i) μ=some (d,μ):=by
  simp only [aH,eK,bM,Od,h,Oy]
 rw [this]
 exact W_some
theorem Mi {μ:Hm}{b:Nat}{ns:List Int}{Q:D×Hm->Prop}(hb:μ[b]? = some (.lst [])):W (bE false (.rol (ns.map D.int)) (.loc b) μ) Q↔Q (.bl (ns == []),μ):=by
 have h1:c3 μ (.rol (ns.map D.int))=some (.lst (ns.map D.int)):=rfl
 have h2:c3 μ (.loc b)=some (.lst (([]:List Int).map D.int)):=by simp only [c3,hb];rfl
 have:bZ 8 μ (.rol (ns.map D.int)) (.loc b)=some (ns == []):=by
  show (c3 μ (.rol (ns.map D.int))).bind (fun x=>(c3 μ (.loc b)).bind fun y=>fQ (bZ 7 μ) x y)=_
  rw [h1,h2]
  exact BK 6 μ ns []
 unfold bE
 rw [this]
 exact W_some
structure Ly where
 a:Int
 b:Int
 c:Int
 d:Int
 e:Int
 g:Int
 deriving DecidableEq
noncomputable abbrev LD (A:Ly):D:=.tup [.int A.a,.int A.b,.int A.c,.int A.d,.int A.e,.int A.g]
noncomputable def Dih (A:Ly):Prop:=(A.b=0/\A.c=0/\(A.a=1\/A.a = -1)/\(A.d=1\/A.d = -1))\/(A.a=0/\A.d=0/\(A.b=1\/A.b = -1)/\(A.c=1\/A.c = -1))
theorem Dih.sm {A:Ly}(h:Dih A):(-1<=A.a/\A.a<=1)/\(-1<=A.b/\A.b<=1)/\(-1<=A.c/\A.c<=1)/\(-1<=A.d/\A.d<=1):=by
 unfold Dih at h
 omega
noncomputable def bK (A:Ly)(p:Int×Int):Int×Int:=(A.a * p.1+A.b * p.2+A.e,A.c * p.1+A.d * p.2+A.g)
noncomputable def mD (A B:Ly):Ly:=⟨B.a * A.a+B.b * A.c,B.a * A.b+B.b * A.d,B.c * A.a+B.d * A.c,B.c * A.b+B.d * A.d,B.a * A.e+B.b * A.g+B.e,B.c * A.e+B.d * A.g+B.g⟩
noncomputable def dD:Ly:=⟨1,0,0,1,0,0⟩
theorem Mj (A B:Ly)(p:Int×Int):bK (mD A B) p=bK B (bK A p):=by
 unfold bK mD
 refine Sd ?_ ?_<;>dsimp only<;>grind
theorem Ml:Dih dD:=.inl ⟨rfl,rfl,.inl rfl,.inl rfl⟩
theorem jI {x y:Int}(hx:x=1\/x = -1)(hy:y=1\/y = -1):x * y=1\/x * y = -1:=by
 rcases hx with rfl|rfl<;>rcases hy with rfl|rfl<;>decide
theorem Mm {A B:Ly}(hA:Dih A)(hB:Dih B):Dih (mD A B):=by
 unfold Dih mD
 dsimp only
 rcases hA with ⟨h1,h2,h3,h4⟩|⟨h1,h2,h3,h4⟩<;>rcases hB with ⟨k1,k2,k3,k4⟩|⟨k1,k2,k3,k4⟩<;>rw [h1,h2,k1,k2]<;>simp only [Int.mul_zero,Int.zero_mul,Int.add_zero,Int.zero_add,true_and]
 ·exact .inl ⟨jI k3 h3,jI k4 h4⟩
 ·exact .inr ⟨jI k3 h4,jI k4 h3⟩
 ·exact .inr ⟨jI k3 h3,jI k4 h4⟩
 ·exact .inl ⟨jI k3 h4,jI k4 h3⟩
theorem Mn (p:Int×Int):bK dD p=p:=by
 unfold bK dD
 refine Sd ?_ ?_<;>dsimp only<;>omega
theorem u7 {a b c d e g:D}:([a,b,c,d,e,g]:List D).length<=N4:=by show (6:Nat)<=N4;decide
theorem fN {i j:Int}(h:-1<=i/\i<=1){μ:Hm}{Q:D×Hm->Prop}:W (bQ (.int i) (.int j) μ) Q↔Q (.int (i * j),μ):=jF (.inl ⟨by omega,by omega⟩)
theorem Mo (k:Nat)(A:Ly)(hA:Dih A)(x y:Int)(μ:Hm)(Q:D×Hm->Prop):W (f (k+1) "led" [LD A,P x y] μ) Q↔Q (PP (bK A (x,y)),μ):=by
 obtain ⟨h1,h2,h3,h4⟩:=hA.sm
 rw [LU,W_fin]
 simp only [bG,bR,w_mRet,fL,aY,aV,aX,aJ,aL,bO,uR,uS,LC,LF,LG,LH,LI,LJ,NX,NY,fN h1,fN h2,fN h3,fN h4,dS,fW,true_and]
 rfl
noncomputable def gR (lo:Int)(n m:Nat):List (Int×Int):=(ON n).flatMap fun (i:Nat)=>(ON m).map fun (j:Nat)=>(lo+(i:Int),lo+(j:Int))
noncomputable def fY (lo x:Int)(m:Nat):List (Int×Int):=(ON m).map fun (j:Nat)=>(x,lo+(j:Int))
theorem BW (lo:Int)(n m:Nat):gR lo (n+1) m=gR lo n m++fY lo (lo+(n:Int)) m:=by
 unfold gR fY;rw [V0,List.flatMap_append];simp
theorem BX (lo x:Int)(m:Nat):fY lo x (m+1)=fY lo x m++[(x,lo+(m:Int))]:=by
 unfold fY;rw [V0,OE];rfl
theorem BY (lo x:Int)(m:Nat):(fY lo x m).length=m:=by unfold fY;simp
theorem BZ (lo:Int)(m:Nat):∀ n:Nat,(gR lo n m).length=n * m
 | 0=>by simp [gR]
 | n+1=>by rw [BW,Oa,BZ lo m n,BY,Nat.succ_mul]
theorem B0 {μ:Hm}{a:Nat}{c c':C}:(μ.set a c).set a c'=μ.set a c':=SG ..
theorem b9 {μ:Hm}{a:Nat}{c c':C}(h:μ[a]? = some c):(μ.set a c')[a]? = some c':=by
 rw [OK (NS.mp h).1]
theorem Mp (μ:Hm)(c c':C):(μ++[c]).set μ.length c'=μ++[c']:=by
 rw [R8 _ _ (N3 _)];simp
theorem u9 {μ:Hm}{a:Nat}{c:C}(h:μ[a]? = some c):μ.set a c=μ:=by
 obtain ⟨hl,rfl⟩:=NS.mp h
 exact List.set_getElem_self hl
noncomputable abbrev B1:MS:=eL (dP gD (aA 2) (aC (cP (aC (aA 3) (aC (aA 4) aD))) aD))
theorem Mq (T:MT)(pr:Int->Int->Bool)(d0 d1:D)(a:Nat)(x:Int)(hT:∀ y μ Q,W (T [some d0,some d1,some (.loc a),some (.int x),some (.int y)] μ) Q↔Q (pr x y,μ))(lo:Int)(m:Nat)(ps:List (Int×Int))(hl:ps.length+m<=1000)(μ:Hm)(ha:μ[a]? = some (.lst (ps.map PP)))(o:Option D)(Q:Fl×aF×Hm->Prop)
  (stop:∀ o,Q (.nx,[some d0,some d1,some (.loc a),some (.int x),o],μ.set a (.lst ((ps++(fY lo x m).filter fun p=>pr p.1 p.2).map PP)))):W (dH (fR lo m) (b7 4) (bS T B1 b6) (m+1) 0 [some d0,some d1,some (.loc a),some (.int x),o] μ) Q:=by
 refine uX (fun i ρ μ'=>i<=m/\μ'=μ.set a (.lst ((ps++(fY lo x i).filter fun p=>pr p.1 p.2).map PP))/\∃ o,ρ=[some d0,some d1,some (.loc a),some (.int x),o]) ⟨OW _,?_,o,rfl⟩ ?_ ?_
 ·simp only [fY,VZ,QF,V1,Rv]
  exact (u9 ha).symm
 ·rintro i ρ μ1 hi ⟨_,rfl,o,rfl⟩
  refine ⟨_,rfl,?_⟩
  simp only [NX,NY,gP]
  rw [hT]
  cases hb:pr x (lo+(i:Int)) with
  | false=>
   simp only [Ob,if_false,iG]
   refine ⟨hi,?_,_,rfl⟩
   rw [BX,PY]
   simp [hb]
  | true=>
   simp only [if_true,jD]
   refine kS ?_
   simp only [aJ,aL]
   refine ⟨jH (b9 ha),?_⟩
   simp only [aY,aV,fL,aJ,aL,fW,true_and]
   refine (pZ (b9 ha) ?_).mpr ?_
   ·have:=O8 (fun p=>pr p.1 p.2) (fY lo x i)
    rw [BY] at this
    rw [NP,Oa,Ox]
    omega
   refine ⟨hi,?_,_,rfl⟩
   rw [B0,BX,PY]
   simp [hb,PP,P]
 ·rintro ρ μ1 ⟨_,rfl,o,rfl⟩
  exact stop o
theorem Mr (T:MT)(pr:Int->Int->Bool)(d0 d1:D)(a:Nat)(it:MI)(lo:Int)(m:Nat)(hit:∀ o1 o2 μ Q,W (it [some d0,some d1,some (.loc a),o1,o2] μ) Q↔Q (fR lo m,m+1,μ))(hT:∀ x y μ Q,W (T [some d0,some d1,some (.loc a),some (.int x),some (.int y)] μ) Q↔Q (pr x y,μ))(n:Nat)(hl:n * m+m<=900)(μ:Hm)(ha:μ[a]? = some (.lst []))(Q:Fl×aF×Hm->Prop)
  (stop:∀ o1 o2,Q (.nx,[some d0,some d1,some (.loc a),o1,o2],μ.set a (.lst (((gR lo n m).filter fun p=>pr p.1 p.2).map PP)))):W (dH (fR lo n) (b7 3) (cB it (b7 4) (bS T B1 b6)) (n+1) 0 [some d0,some d1,some (.loc a),none,none] μ) Q:=by
 refine uX (fun i ρ μ'=>i<=n/\μ'=μ.set a (.lst (((gR lo i m).filter fun p=>pr p.1 p.2).map PP))/\∃ o1 o2,ρ=[some d0,some d1,some (.loc a),o1,o2]) ⟨OW _,?_,none,none,rfl⟩ ?_ ?_
 ·simp only [gR,VZ,List.flatMap_nil,V1,QF]
  exact (u9 ha).symm
 ·rintro i ρ μ1 hi ⟨_,rfl,o1,o2,rfl⟩
  refine ⟨_,rfl,?_⟩
  simp only [NX,NY,kR]
  rw [hit]
  refine Mq T pr d0 d1 a _ (hT _) lo m _ ?_ _ (b9 ha) _ _ fun o=>?_
  ·have h1:=O8 (fun p=>pr p.1 p.2) (gR lo i m)
   rw [BZ] at h1
   have h2:i * m<=n * m:=Nat.mul_le_mul_right _ (R6 hi)
   omega
  ·refine ⟨hi,?_,_,_,rfl⟩
   rw [B0,BW,PY]
 ·rintro ρ μ1 ⟨_,rfl,o1,o2,rfl⟩
  exact stop o1 o2
theorem Ms {w h:Int}(hw:1<=w/\w<=3)(hh:1<=h/\h<=3):(4 * w).toNat * (4 * h).toNat+(4 * h).toNat<=900/\(4 * w - 1).toNat * (4 * h - 1).toNat+(4 * h - 1).toNat<=900:=by
 have h1:(4 * w).toNat<=12:=by omega
 have h2:(4 * h).toNat<=12:=by omega
 have h3:=Wm h1 h2
 have h4:(4 * w - 1).toNat * (4 * h - 1).toNat<=12 * 12:=Wm (by omega) (by omega)
 omega
noncomputable def aK (p:Int×Int):List Int:=[p.1,p.2]
theorem B2:∀ ps:List (Int×Int),m3 (ps.map PP)=some (ps.map aK)
 | []=>rfl
 | p::ps=>by
  rw [N0]
  show (cK (PP p)).bind (fun k=>(m3 (ps.map PP)).map (k::·))=_
  rw [B2 ps]
  rfl
theorem Mt {ps:List (Int×Int)}(h:ps≠[]):j0 (ps.map PP)=none:=by
 cases ps with
 | nil=>exact absurd rfl h
 | cons p ps=>rfl
theorem B3 {α:Type}(l:List α)(d:α):(ON l.length).map (fun i=>l.getD i d)=l:=by
 refine VP (by simp) fun i h1 h2=>?_
 simp [Pj,h2]
theorem vA {es:List (Int×Int)}{i:Nat}{d:D}(h:(es.map PP)[i]? = some d):∃ p,es[i]? = some p/\d=PP p:=by
 rw [Ol] at h
 obtain ⟨p,h1,h2⟩:=NU.mp h
 exact ⟨p,h1,h2.symm⟩
theorem cM (q:Int×Int):cK (PP q)=some (aK q):=rfl
noncomputable abbrev Kv:=List ((Int×Int)×Ly)
noncomputable def eU (kvs:Kv):List (List Int×D):=kvs.map fun p=>(aK p.1,LD p.2)
theorem vB {l:List (List Int×D)}(nd:(l.map (·.1)).Nodup){k:List Int}{d:D}(h:(k,d)∈l):bF l k=some d:=by
 induction l with
 | nil=>cases h
 | cons p l ih=>
  rw [N0,OS] at nd
  unfold bF
  rw [OT]
  rcases Ov.mp h with h|h
  ·rw [<- h]
   simp
  ·have:decide (p.1=k)=false:=decide_eq_false fun z=>nd.1 (NZ.mpr ⟨_,h,z.symm⟩)
   rw [this]
   exact ih nd.2 h
theorem iI {p q:Int×Int}(h:aK p=aK q):p=q:=by
 unfold aK at h
 injection h with h1 h2
 injection h2 with h2
 exact Sd h1 h2
theorem B4 {ρ:aF}{i1 i2 i3 i4 i5 i6:Nat}{a b c d e g:D}{μ:Hm}{Q:aF->Prop}:W (dN [i1,i2,i3,i4,i5,i6] (.tup [a,b,c,d,e,g]) ρ μ) Q↔Q ((((((ρ.set i1 (some a)).set i2 (some b)).set i3 (some c)).set i4 (some d)).set i5 (some e)).set i6 (some g)):=W_some
theorem Mu {kvs:Kv}(nd:(kvs.map (·.1)).Nodup):((eU kvs).map (·.1)).Nodup:=by
 have e:(eU kvs).map (·.1)=(kvs.map (·.1)).map aK:=by
  unfold eU
  rw [N6,N6]
  rfl
 rw [e]
 exact Rq _ (fun a b hab z=>hab (iI z)) nd
noncomputable abbrev Gr:=List ((Int×Int)×List (Int×Int))
noncomputable def cW (G:Gr)(p q:Int×Int):Gr:=if (G.map (·.1)).contains p then G.map (fun g=>if g.1=p then (g.1,g.2++[q]) else g) else G++[(p,[q])]
noncomputable abbrev Zr:=List ((Int×Int)×List (Int×Int)×Nat)
noncomputable def GZ (Z:Zr):Gr:=Z.map fun z=>(z.1,z.2.1)
noncomputable def aE (Z:Zr):List (List Int×D):=Z.map fun z=>(aK z.1,D.loc z.2.2)
structure GI (μ0 μ:Hm)(a:Nat)(Z:Zr):Prop where
 pre:μ0 <+: μ
 lo:μ0.length<=a
 dic:μ[a]? = some (.dT (aE Z))
 kd:(Z.map (·.1)).Nodup
 bd:(Z.map (·.2.2)).Nodup
 at_:∀ z∈Z,μ0.length<=z.2.2/\μ[z.2.2]? = some (.lst (z.2.1.map PP))
theorem eV {Z:Zr}{z:(Int×Int)×List (Int×Int)×Nat}(kd:(Z.map (·.1)).Nodup)(h:z∈Z):bF (aE Z) (aK z.1)=some (.loc z.2.2):=by
 refine vB ?_ (NZ.mpr ⟨z,h,rfl⟩)
 have e:(aE Z).map (·.1)=(Z.map (·.1)).map aK:=by
  unfold aE
  rw [N6,N6]
  rfl
 rw [e]
 exact Rq _ (fun a b hab x=>hab (iI x)) kd
theorem vC {Z:Zr}{p:Int×Int}(h:p∉Z.map (·.1)):bF (aE Z) (aK p)=none:=by
 unfold bF
 rw [Sy.mpr]
 ·rfl
 ·intro x hx
  obtain ⟨z,hz,rfl⟩:=NZ.mp hx
  rw [decide_eq_true_iff]
  exact fun e=>h (NZ.mpr ⟨z,hz,iI e⟩)
theorem eW {Z:Zr}{p:Int×Int}(h:p∈Z.map (·.1)):∃ z∈Z,z.1=p:=by
 obtain ⟨z,h1,h2⟩:=NZ.mp h
 exact ⟨z,h1,h2⟩
theorem B5 {Z:Zr}(kd:(Z.map (·.1)).Nodup){z y:(Int×Int)×List (Int×Int)×Nat}(hz:z∈Z)(hy:y∈Z)(e:z.1=y.1):z=y:=by
 induction Z with
 | nil=>cases hz
 | cons x Z ih=>
  rw [N0,OS] at kd
  rcases Ov.mp hz with h1|h1<;>rcases Ov.mp hy with h2|h2
  ·rw [h1,h2]
  ·exact (kd.1 (NZ.mpr ⟨y,h2,by rw [<- h1];exact e.symm⟩)).elim
  ·exact (kd.1 (NZ.mpr ⟨z,h1,by rw [<- h2];exact e⟩)).elim
  ·exact ih kd.2 h1 h2
theorem B6 {Z:Zr}(bd:(Z.map (·.2.2)).Nodup){z y:(Int×Int)×List (Int×Int)×Nat}(hz:z∈Z)(hy:y∈Z)(e:z.2.2=y.2.2):z=y:=by
 induction Z with
 | nil=>cases hz
 | cons x Z ih=>
  rw [N0,OS] at bd
  rcases Ov.mp hz with h1|h1<;>rcases Ov.mp hy with h2|h2
  ·rw [h1,h2]
  ·exact (bd.1 (NZ.mpr ⟨y,h2,by rw [<- h1];exact e.symm⟩)).elim
  ·exact (bd.1 (NZ.mpr ⟨z,h1,by rw [<- h2];exact e⟩)).elim
  ·exact ih bd.2 h1 h2
theorem cG (Z:Zr):(GZ Z).map (·.1)=Z.map (·.1):=by
 unfold GZ
 rw [N6]
 rfl
theorem Mv {Z:Zr}{p q:Int×Int}(h:p∈Z.map (·.1)):cW (GZ Z) p q=GZ (Z.map fun z=>if z.1=p then (z.1,z.2.1++[q],z.2.2) else z):=by
 unfold cW
 rw [cG,if_pos (OQ.mpr h)]
 unfold GZ
 rw [N6,N6]
 refine Oe fun z _=>?_
 show (if z.1=p then (z.1,z.2.1++[q]) else (z.1,z.2.1))=_
 by_cases e:z.1=p
 ·simp [e]
 ·simp [e]
theorem Mw {Z:Zr}{p q:Int×Int}{b:Nat}(h:p∉Z.map (·.1)):cW (GZ Z) p q=GZ (Z++[(p,[q],b)]):=by
 unfold cW
 rw [cG,if_neg (fun z=>h (OQ.mp z))]
 unfold GZ
 rw [OE]
 rfl
theorem GI.more {μ0 μ μ':Hm}{a:Nat}{Z:Zr}(I:GI μ0 μ a Z)(h:μ <+: μ'):GI μ0 μ' a Z:=⟨I.pre.trans h,I.lo,aO h I.dic,I.kd,I.bd,fun z hz=>⟨(I.at_ z hz).1,aO h (I.at_ z hz).2⟩⟩
theorem GI.ne {μ0 μ:Hm}{a:Nat}{Z:Zr}(I:GI μ0 μ a Z){z:(Int×Int)×List (Int×Int)×Nat}(hz:z∈Z):z.2.2≠a:=fun e=>by
 have h1:=(I.at_ z hz).2
 rw [e,I.dic] at h1
 cases h1
theorem GI.hit {μ0 μ:Hm}{a:Nat}{Z:Zr}(I:GI μ0 μ a Z){z:(Int×Int)×List (Int×Int)×Nat}(hz:z∈Z)(q:Int×Int) :
  GI μ0 (μ.set z.2.2 (.lst (z.2.1.map PP++[PP q]))) a (Z.map fun y=>if y.1=z.1 then (y.1,y.2.1++[q],y.2.2) else y):=by
 have ek:(Z.map fun y=>if y.1=z.1 then (y.1,y.2.1++[q],y.2.2) else y).map (·.1)=Z.map (·.1):=by
  rw [N6]
  refine Oe fun y _=>?_
  show (if y.1=z.1 then (y.1,y.2.1++[q],y.2.2) else y).1=y.1
  split<;>rfl
 have eb:(Z.map fun y=>if y.1=z.1 then (y.1,y.2.1++[q],y.2.2) else y).map (·.2.2)=Z.map (·.2.2):=by
  rw [N6]
  refine Oe fun y _=>?_
  show (if y.1=z.1 then (y.1,y.2.1++[q],y.2.2) else y).2.2=y.2.2
  split<;>rfl
 have ev:aE (Z.map fun y=>if y.1=z.1 then (y.1,y.2.1++[q],y.2.2) else y)=aE Z:=by
  unfold aE
  rw [N6]
  refine Oe fun y _=>?_
  show (aK (if y.1=z.1 then (y.1,y.2.1++[q],y.2.2) else y).1,D.loc (if y.1=z.1 then (y.1,y.2.1++[q],y.2.2) else y).2.2)=_
  split<;>rfl
 refine ⟨c6 I.pre (I.at_ z hz).1 _,I.lo,?_,by rw [ek];exact I.kd,by rw [eb];exact I.bd,fun y hy=>?_⟩
 ·rw [ev,NR (I.ne hz)]
  exact I.dic
 ·obtain ⟨x,hx,rfl⟩:=NZ.mp hy
  obtain ⟨l1,l2⟩:=I.at_ x hx
  by_cases e:x.1=z.1
  ·have:x=z:=B5 I.kd hx hz e
   subst this
   rw [if_pos rfl]
   refine ⟨l1,?_⟩
   show (μ.set x.2.2 _)[x.2.2]? = _
   rw [b9 l2,OE]
   rfl
  ·rw [if_neg e]
   refine ⟨l1,?_⟩
   rw [NR fun w=>e (by rw [B6 I.bd hx hz w.symm])]
   exact l2
theorem B7 {Z:Zr}{p:Int×Int}{qs:List (Int×Int)}{b:Nat}(h:p∉Z.map (·.1)):cS (aE Z) (aK p) (.loc b)=aE (Z++[(p,qs,b)]):=by
 unfold cS
 rw [vC h,if_neg (by simp)]
 unfold aE
 rw [OE]
 rfl
theorem GI.new {μ0 μ:Hm}{a b:Nat}{Z:Zr}(I:GI μ0 μ a Z){p:Int×Int}(hp:p∉Z.map (·.1)){qs:List (Int×Int)}(hb:μ[b]? = some (.lst (qs.map PP)))(h0:μ0.length<=b)(hn:∀ z∈Z,z.2.2≠b) :
  GI μ0 (μ.set a (.dT (cS (aE Z) (aK p) (.loc b)))) a (Z++[(p,qs,b)]):=by
 have hba:b≠a:=fun e=>by
  rw [e,I.dic] at hb
  cases hb
 refine ⟨c6 I.pre I.lo _,I.lo,by rw [b9 I.dic,B7 hp],?_,?_,fun z hz=>?_⟩
 ·rw [OE,Qw]
  exact ⟨I.kd,by simp,fun x hx y hy e=>by
   simp only [N0,QF,OC] at hy
   rw [e,hy] at hx
   exact hp hx⟩
 ·rw [OE,Qw]
  exact ⟨I.bd,by simp,fun x hx y hy e=>by
   simp only [N0,QF,OC] at hy
   obtain ⟨z,hz,ez⟩:=NZ.mp hx
   exact hn z hz (by rw [ez,e,hy])⟩
 ·rcases O2.mp hz with hz|hz
  ·rw [NR (OB (I.ne hz))]
   exact I.at_ z hz
  ·rw [OC.mp hz]
   exact ⟨h0,by rw [NR (OB hba)];exact hb⟩
theorem B8 {Z:Zr}{p:Int×Int}{qs:List (Int×Int)}{b:Nat}(h:p∈Z.map (·.1))(kd:(Z.map (·.1)).Nodup):cS (aE Z) (aK p) (.loc b)=aE (Z.map fun y=>if y.1=p then (y.1,qs,b) else y):=by
 obtain ⟨z,hz,e⟩:=eW h
 unfold cS
 rw [<- e,eV kd hz,Option.isSome_some,if_pos rfl]
 unfold aE
 rw [N6,N6]
 refine Oe fun y _=>?_
 show (if aK y.1=aK z.1 then (aK y.1,D.loc b) else (aK y.1,D.loc y.2.2))=(aK (if y.1=z.1 then (y.1,qs,b) else y).1,D.loc (if y.1=z.1 then (y.1,qs,b) else y).2.2)
 by_cases e2:y.1=z.1
 ·rw [if_pos (by rw [e2]),if_pos e2]
 ·rw [if_neg (fun w=>e2 (iI w)),if_neg e2]
theorem GI.swap {μ0 μ:Hm}{a b:Nat}{Z:Zr}(I:GI μ0 μ a Z){z:(Int×Int)×List (Int×Int)×Nat}(hz:z∈Z){qs:List (Int×Int)}(hb:μ[b]? = some (.lst (qs.map PP)))(h0:μ0.length<=b)(hn:∀ z∈Z,z.2.2≠b) :
  GI μ0 (μ.set a (.dT (cS (aE Z) (aK z.1) (.loc b)))) a (Z.map fun y=>if y.1=z.1 then (y.1,qs,b) else y):=by
 have hba:b≠a:=fun e=>by
  rw [e,I.dic] at hb
  cases hb
 have ek:(Z.map fun y=>if y.1=z.1 then (y.1,qs,b) else y).map (·.1)=Z.map (·.1):=by
  rw [N6]
  refine Oe fun y _=>?_
  show (if y.1=z.1 then (y.1,qs,b) else y).1=y.1
  split<;>rfl
 refine ⟨c6 I.pre I.lo _,I.lo,by rw [b9 I.dic,B8 (NZ.mpr ⟨z,hz,rfl⟩) I.kd],by rw [ek];exact I.kd,?_,fun y hy=>?_⟩
 ·have kd:=I.kd
  have bd:=I.bd
  clear ek hba hb h0 I
  induction Z with
  | nil=>cases hz
  | cons x Z ih=>
   rw [N0,OS] at kd bd
   have off:∀ Y:Zr,(∀ y∈Y,y.1≠z.1)->(Y.map fun y=>if y.1=z.1 then (y.1,qs,b) else y)=Y:=fun Y hY=>by
    have:Y.map (fun y=>if y.1=z.1 then (y.1,qs,b) else y)=Y.map id:=Oe fun y hy=>if_neg (hY y hy)
    rw [this,RJ]
   rcases Ov.mp hz with rfl|hz'
   ·rw [N0,if_pos rfl,off Z (fun y hy e=>kd.1 (NZ.mpr ⟨y,hy,e⟩)),N0,OS]
    refine ⟨fun w=>?_,bd.2⟩
    obtain ⟨y,hy,ey⟩:=NZ.mp w
    exact hn y (Oc _ hy) ey
   ·have hx:x.1≠z.1:=fun e=>kd.1 (NZ.mpr ⟨z,hz',e.symm⟩)
    rw [N0,if_neg hx,N0,OS]
    refine ⟨fun w=>?_,ih hz' (fun y hy=>hn y (Oc _ hy)) kd.2 bd.2⟩
    obtain ⟨y,hy,ey⟩:=NZ.mp w
    obtain ⟨y',hy',rfl⟩:=NZ.mp hy
    by_cases e:y'.1=z.1
    ·rw [if_pos e] at ey
     exact hn x (Om ..) ey.symm
    ·rw [if_neg e] at ey
     exact bd.1 (NZ.mpr ⟨y',hy',ey⟩)
 ·obtain ⟨x,hx,rfl⟩:=NZ.mp hy
  by_cases e:x.1=z.1
  ·rw [if_pos e]
   exact ⟨h0,by rw [NR (OB hba)];exact hb⟩
  ·rw [if_neg e,NR (OB (I.ne hx))]
   exact I.at_ x hx
theorem kC:∀ a b c:List Int,HT.lexLt a b=true->HT.lexLt b c=true->HT.lexLt a c=true
 | [],[],_,h,_=>by cases h
 | [],_::_,[],_,h=>by cases h
 | [],_::_,_::_,_,_=>rfl
 | _::_,[],_,h,_=>by cases h
 | _::_,_::_,[],_,h=>by cases h
 | x::xs,y::ys,z::zs,h1,h2=>by
  rw [HT.lexLt_cons] at h1 h2 ⊢
  by_cases e1:x=y
  ·subst e1
   rw [if_pos rfl] at h1
   by_cases e2:x=z
   ·rw [if_pos e2] at h2 ⊢
    exact kC xs ys zs h1 h2
   ·rw [if_neg e2] at h2 ⊢
    exact h2
  ·rw [if_neg e1] at h1
   have h1:=of_decide_eq_true h1
   by_cases e2:y=z
   ·subst e2
    rw [if_neg e1]
    exact decide_eq_true h1
   ·rw [if_neg e2] at h2
    have h2:=of_decide_eq_true h2
    rw [if_neg (by omega)]
    exact decide_eq_true (by omega)
theorem vD:∀ a b c:List Int,HT.lexLt a b=true->HT.lexLt a c=true\/HT.lexLt c b=true
 | [],[],_,h=>by cases h
 | [],_::_,[],_=>.inr rfl
 | [],_::_,_::_,_=>.inl rfl
 | _::_,[],_,h=>by cases h
 | _::_,_::_,[],_=>.inr rfl
 | x::xs,y::ys,z::zs,h=>by
  rw [HT.lexLt_cons] at h ⊢
  rw [HT.lexLt_cons]
  by_cases e1:x=y
  ·subst e1
   rw [if_pos rfl] at h
   by_cases e2:x=z
   ·subst e2
    rw [if_pos rfl,if_pos rfl]
    exact vD xs ys zs h
   ·rw [if_neg e2,if_neg (OB e2),decide_eq_true_iff,decide_eq_true_iff]
    omega
  ·rw [if_neg e1] at h
   have h:=of_decide_eq_true h
   by_cases e2:x=z
   ·subst e2
    rw [if_neg e1]
    exact .inr (decide_eq_true h)
   ·rw [if_neg e2,decide_eq_true_iff]
    by_cases e3:z=y
    ·subst e3
     exact .inl h
    ·rw [if_neg e3,decide_eq_true_iff]
     omega
theorem kB:∀ k:List Int,HT.lexLt k k=false
 | []=>rfl
 | a::k=>by rw [HT.lexLt_cons,if_pos rfl];exact kB k
theorem qB:∀ a b:List Int,HT.lexLt a b=false->HT.lexLt b a=false->a=b
 | [],[],_,_=>rfl
 | [],_::_,h,_=>by cases h
 | _::_,[],_,h=>by cases h
 | x::xs,y::ys,h1,h2=>by
  rw [HT.lexLt_cons] at h1 h2
  by_cases e:x=y
  ·subst e
   rw [if_pos rfl] at h1 h2
   rw [qB xs ys h1 h2]
  ·rw [if_neg e] at h1
   rw [if_neg (OB e)] at h2
   have h1:=of_decide_eq_false h1
   have h2:=of_decide_eq_false h2
   omega
theorem B9 (l:List (List Int×D))(i:Nat):(l.getD i ([],.non)).1=(l.map (·.1)).getD i []:=by
 rw [Pj,Pj,Ol]
 cases l[i]?<;>rfl
theorem Mx {l:List (List Int×D)}{ks:List (List Int)}(h0:0<l.length)(hp:(l.map (·.1)).Perm ks)(hs:ks.Pairwise fun x y=>HT.lexLt y x=false):(eE l).map (·.1)=ks:=by
 have pm:((eE l).map (·.1)).Perm ks:=by
  have p:(eE l).Perm l:=by
   unfold eE
   have p:=(lU (fun i j=>HT.lexLt ((l.map (·.1)).getD i []) ((l.map (·.1)).getD j [])) h0).map fun i=>l.getD i ([],.non)
   rw [B3] at p
   exact p
  exact (p.map _).trans hp
 have S:=Ai (lt:=HT.lexLt) kB kC vD [] (l.map (·.1)) (n:=l.length) h0
 have S':((eE l).map (·.1)).Pairwise fun x y=>HT.lexLt y x=false:=by
  unfold eE
  rw [N6,Rc]
  refine S.imp fun {i j} h=>?_
  show HT.lexLt (l.getD j ([],.non)).1 (l.getD i ([],.non)).1=false
  rw [B9,B9]
  exact h
 exact Qz (le:=fun x y=>HT.lexLt y x=false) (fun a b _ _ h1 h2=>(qB b a h1 h2).symm) S' hs pm
theorem My (qs:List (Int×Int)):(qs.map aK).map (fun k=>D.tup (k.map D.int))=qs.map PP:=by
 rw [N6]
 rfl
theorem Ca {μ:Hm}{a:Nat}{kvs:List (List Int×D)}{Q:D×Hm->Prop}(h:μ[a]? = some (.dT kvs))(h1:kvs.length<64)(hne:∀ p∈kvs,p.1≠[]):W (dR [.loc a] μ) Q↔Q (.loc μ.length,μ++[.lst ((eE kvs).map fun k=>D.tup (k.1.map D.int))]):=by
 simp only [dR,h]
 rw [if_pos ⟨h1,hne⟩]
 exact W_some
theorem vE {f:D->List D->Hm->Option (D×Hm)}{mo:ME}{ms:MA}{ρ:aF}{μ:Hm}{Q:D×Hm->Prop}(h:W (mo ρ μ) fun p=>l6 p.2 p.1=true/\W (ms ρ p.2) fun q=>W (f p.1 q.1 q.2) Q):W (fJ f mo ms ρ μ) Q:=by
 unfold fJ
 rw [W_bind]
 refine bU h fun p q=>?_
 rw [q.1]
 exact W_bind.mpr q.2
theorem vF {μ:Hm}{a:Nat}{kvs:List (List Int×D)}(h:μ[a]? = some (.dT kvs)):l6 μ (.loc a)=true:=by
 simp only [l6,h]
theorem Mz {μ:Hm}{A B:Nat}{ds:List D}{Q:D×Hm->Prop}(hA:μ[A]? = some (.lst ds))(hB:μ[B]? = some (.lst [])):W (bE false (.loc A) (.loc B) μ) Q↔Q (.bl ds.isEmpty,μ):=by
 have kd:∀ {x:Nat}{xs:List D},μ[x]? = some (.lst xs)->c3 μ (.loc x)=some (.lst xs):=fun h=>by simp only [c3,h]
 have e:bZ 8 μ (.loc A) (.loc B)=some ds.isEmpty:=by
  show (c3 μ (.loc A)).bind (fun u=>(c3 μ (.loc B)).bind fun v=>fQ (bZ 7 μ) u v)=_
  rw [kd hA,kd hB]
  show eM (bZ 7 μ) ds []=_
  cases ds<;>rfl
 unfold bE
 rw [e]
 exact W_some
noncomputable def MB (a:Nat)(Z:Zr)(μ μ':Hm):Prop:=∀ c x,μ[c]? = some x->c≠a->(∀ z∈Z,z.2.2≠c)->μ'[c]? = some x
theorem MC {Z:Zr}{p q:Int×Int}{b:Nat}(h:p∉Z.map (·.1)):((Z++[(p,[],b)]:Zr).map fun y=>if y.1=p then (y.1,y.2.1++[q],y.2.2) else y)=Z++[(p,[q],b)]:=by
 rw [OE]
 have:(Z.map fun y=>if y.1=p then (y.1,y.2.1++[q],y.2.2) else y)=Z:=by
  have e:(Z.map fun y=>if y.1=p then (y.1,y.2.1++[q],y.2.2) else y)=Z.map id:=Oe fun y hy=>if_neg fun e=>h (NZ.mpr ⟨y,hy,e⟩)
  rw [e,RJ]
 rw [this]
 simp
theorem dU (Z:Zr):(aE Z).length=Z.length:=NP ..
theorem MD {μ0 μ:Hm}{a:Nat}{Z:Zr}(I:GI μ0 μ a Z)(p q:Int×Int)(hZ:Z.length<1000)(hl:∀ z∈Z,z.2.1.length<1000)(Q:D×Hm->Prop)
  (H:∀ Z' μ',GI μ0 μ' a Z'->GZ Z'=cW (GZ Z) p q->MB a Z μ μ'->(∀ z∈Z',(∃ y∈Z,y.2.2=z.2.2)\/μ.length<=z.2.2)->Q (.non,μ')) :
  W (kK (.loc a) [PP p,.loc μ.length] (μ++[.lst []])) fun r=>j5 r.2 r.1=true/\W (gD r.1 [PP q] r.2) Q:=by
 have I1:=I.more (aQ μ (C.lst []))
 have g1:=bI μ (C.lst [])
 have h0:μ0.length<=μ.length:=I.pre.length_le
 have old:∀ z∈Z,z.2.2<μ.length:=fun z hz=>(NS.mp (I.at_ z hz).2).1
 have ha:a<μ.length:=(NS.mp I.dic).1
 have kp1:∀ c x,μ[c]? = some x->(μ++[C.lst []])[c]? = some x:=fun c x e=>aO (aQ _ _) e
 by_cases hp:p∈Z.map (·.1)
 ·obtain ⟨z,hz,rfl⟩:=eW hp
  simp only [kK,I1.dic,cM,Od,eV I.kd hz]
  refine W_some.mpr ⟨jH (I1.at_ z hz).2,(pZ (I1.at_ z hz).2 (by rw [NP,Ox];have:=hl z hz;omega)).mpr ?_⟩
  refine H _ _ (I1.hit hz q) (Mv hp).symm (fun c x e h1 h2=>?_) fun y hy=>?_
  ·rw [NR (h2 z hz)]
   exact kp1 c x e
  ·obtain ⟨x,hx,rfl⟩:=NZ.mp hy
   refine .inl ⟨x,hx,?_⟩
   split<;>rfl
 ·have hsz:(aE Z).length<N4:=by rw [dU,Ox];omega
  simp only [kK,I1.dic,cM,Od,vC hp,if_pos hsz]
  have I2:=I1.new hp (qs:=[]) (b:=μ.length) g1 h0 (fun z hz=>Oh (old z hz))
  have hm:(p,([]:List (Int×Int)),μ.length)∈Z++[(p,[],μ.length)]:=O2.mpr (.inr (OC.mpr rfl))
  have g2:=(I2.at_ _ hm).2
  refine W_some.mpr ⟨jH g2,(pZ g2 (by rw [NP,Ox];show (0:Nat)<_;decide)).mpr ?_⟩
  have I3:=I2.hit hm q
  rw [MC hp] at I3
  refine H _ _ I3 (Mw hp).symm (fun c x e h1 h2=>?_) fun y hy=>?_
  ·have hc:c<μ.length:=(NS.mp e).1
   rw [NR (by show μ.length≠c;omega),NR (OB h1)]
   exact kp1 c x e
  ·rcases O2.mp hy with hy|hy
   ·exact .inl ⟨y,hy,rfl⟩
   ·rw [OC.mp hy]
    exact .inr (N3 _)
noncomputable def c7 (g:Int×Int->Int×Int)(qs:List (Int×Int)):Gr:=qs.foldl (fun G q=>cW G (g q) q) []
theorem MH {g:Int×Int->Int×Int}{qs:List (Int×Int)}{i:Nat}{q:Int×Int}(h:qs[i]? = some q):c7 g (qs.take (i+1))=cW (c7 g (qs.take i)) (g q) q:=by
 unfold c7
 rw [Vy,h,VC]
 rfl
theorem MJ (G:Gr)(p q:Int×Int):(cW G p q).length<=G.length+1:=by
 unfold cW
 split<;>simp
theorem MK {G:Gr}{p q:Int×Int}{n:Nat}(h:∀ g∈G,g.2.length<=n):∀ g∈cW G p q,g.2.length<=n+1:=by
 intro g hg
 unfold cW at hg
 split at hg
 ·obtain ⟨x,hx,rfl⟩:=NZ.mp hg
  have:=h x hx
  split
  ·simp;omega
  ·omega
 ·rcases O2.mp hg with hg|hg
  ·have:=h g hg;omega
  ·rw [OC.mp hg];simp
theorem Cb (g:Int×Int->Int×Int)(qs:List (Int×Int)):(c7 g qs).length<=qs.length/\∀ x∈c7 g qs,x.2.length<=qs.length:=by
 suffices ∀ (qs:List (Int×Int))(G:Gr)(n:Nat),G.length<=n->(∀ x∈G,x.2.length<=n)->(qs.foldl (fun G q=>cW G (g q) q) G).length<=n+qs.length/\∀ x∈qs.foldl (fun G q=>cW G (g q) q) G,x.2.length<=n+qs.length by
  have:=this qs [] 0 (N3 _) (fun x hx=>nomatch hx)
  unfold c7
  simpa using this
 intro qs
 induction qs with
 | nil=>exact fun G n h1 h2=>⟨h1,h2⟩
 | cons q qs ih=>
  intro G n h1 h2
  have:=ih (cW G (g q) q) (n+1) (by have:=MJ G (g q) q;omega) (MK h2)
  rw [OL,show n+(qs.length+1)=n+1+qs.length by omega]
  exact this
theorem ML (Z:Zr):(GZ Z).length=Z.length:=NP ..
theorem MM {Z:Zr}{G:Gr}{n:Nat}(e:GZ Z=G)(h:G.length<=n/\∀ x∈G,x.2.length<=n):Z.length<=n/\∀ z∈Z,z.2.1.length<=n:=by
 subst e
 exact ⟨by rw [<- ML];exact h.1,fun z hz=>h.2 (z.1,z.2.1) (NZ.mpr ⟨z,hz,rfl⟩)⟩
theorem MN {F:Int×Int->Ly}{row:List (Int×Int)}(nd:row.Nodup){q:Int×Int}(h:q∈row):bF (eU (row.map fun q=>(q,F q))) (aK q)=some (LD (F q)):=by
 refine vB (Mu (by rw [N6];exact (by simpa [UB] using nd))) ?_
 unfold eU
 rw [N6]
 exact NZ.mpr ⟨q,h,rfl⟩
theorem Cd (F:Int×Int->Ly)(row:List (Int×Int)):(eU (row.map fun q=>(q,F q))).map (·.1)=row.map aK:=by
 unfold eU
 rw [N6,N6]
 rfl
theorem Ce (F:Int×Int->Ly)(row:List (Int×Int)):(eU (row.map fun q=>(q,F q))).length=row.length:=by
 unfold eU
 rw [NP,NP]
theorem MP (μ:Hm)(xs:List D):GI μ ((μ++[C.dT []])++[C.lst xs]) μ.length []:=
 ⟨(aQ _ _).trans (aQ _ _),N3 _,aO (aQ _ _) (bI _ _),Qe,Qe,fun z hz=>nomatch hz⟩
theorem MQ (k t:Nat)(F:Int×Int->Ly)(hF:∀ q,Dih (F q))(row qs:List (Int×Int))(hpm:row.Perm qs)(hs:(qs.map aK).Pairwise fun x y=>HT.lexLt y x=false)(hn:1<=qs.length/\qs.length<64)(nd:qs.Nodup)(μ:Hm)(ht:μ[t]? = some (.dT (eU (row.map fun q=>(q,F q)))))
  (Q:D×Hm->Prop)(H:∀ a Z μ',GI μ μ' a Z->GZ Z=c7 (fun q=>bK (F q) q) qs->Q (.loc a,μ')):W (f (k+2) "stacks" [.loc t] μ) Q:=by
 have ndr:row.Nodup:=hpm.nodup_iff.mpr nd
 have hlr:row.length=qs.length:=hpm.length_eq
 rw [LV,W_fin]
 simp only [bG,bR,iH,NX,NY,kR,uV,bP,aY,aV,aJ,aL]
 refine (Ca (aO (aQ _ _) ht) (by rw [Ce];omega) fun p hp z=>?_).mpr ?_
 ·have:p.1∈row.map aK:=by rw [<- Cd F];exact NZ.mpr ⟨p,hp,rfl⟩
  obtain ⟨x,_,e⟩:=NZ.mp this
  rw [z] at e
  cases e
 have es:(eE (eU (row.map fun q=>(q,F q)))).map (fun k=>D.tup (k.1.map D.int))=qs.map PP:=by
  have e0:=Mx (l:=eU (row.map fun q=>(q,F q))) (by rw [Ce];omega) (by rw [Cd];exact hpm.map aK) hs
  rw [<- My,<- e0,N6]
  rfl
 rw [es]
 refine (u4 (bI _ _)).mpr ?_
 have hb:(μ++[C.dT []]).length=μ.length+1:=by simp
 have g0:=bI (μ++[C.dT []]) (C.lst (qs.map PP))
 have I0:=MP μ (qs.map PP)
 rw [hb] at g0 ⊢
 generalize (μ++[C.dT []])++[C.lst (qs.map PP)]=μ1 at g0 I0
 refine uW (fun i ρ μ'=>∃ Z o2,GI μ μ' μ.length Z/\GZ Z=c7 (fun q=>bK (F q) q) (qs.take i)/\μ'[μ.length+1]? = some (.lst (qs.map PP))/\(∀ z∈Z,μ.length+1<z.2.2)/\ρ=[some (.loc t),some (.loc μ.length),o2]) ⟨[],none,I0,rfl,g0,(fun z hz=>nomatch hz),rfl⟩ (fun i ρ μ' h=>let ⟨Z,o2,_,_,g,_⟩:=h;g) ?_ ?_
 ·rintro i d ρ μ2 hd ⟨Z,o2,I,eG,gb,hbz,rfl⟩
  obtain ⟨q,hq,rfl⟩:=vA hd
  have hmem:q∈row:=hpm.mem_iff.mpr (OX hq)
  refine ⟨[some (.loc t),some (.loc μ.length),some (PP q)],rfl,?_⟩
  simp only [jD]
  refine kS (vE ?_)
  simp only [aJ,aL]
  refine ⟨vF I.dic,?_⟩
  simp only [aY,aV,bP,aX,aJ,aL,jE]
  refine (LO (aO I.pre ht) (cM q) (MN ndr hmem)).mpr ?_
  refine (Mo k (F q) (hF q) q.1 q.2 _ _).mpr ⟨OW _,?_⟩
  have sm:=MM eG (Cb _ _)
  have ht2:=List.length_take_le' i qs
  refine MD I (bK (F q) q) q (by have:=sm.1;omega) (fun z hz=>by have:=sm.2 z hz;omega) _ fun Z' μ' I' eG' kp nw=>?_
  refine ⟨Z',some (PP q),I',by rw [eG',eG,MH hq],kp _ _ gb (by omega) (fun z hz=>by have:=hbz z hz;omega),fun z hz=>?_,rfl⟩
  rcases nw z hz with ⟨y,hy,e⟩|e
  ·rw [<- e];exact hbz y hy
  ·have:=(NS.mp gb).1
   omega
 ·rintro ρ μ2 ⟨Z,o2,I,eG,gb,hbz,rfl⟩
  rw [NP,RP] at eG
  simp only [w_mRet,aJ,aL]
  exact H _ _ _ I eG
noncomputable def nT (k:Int)(p:Int×Int):Int:=if k=0 then p.2 else if k=1 then p.1 else if k=2 then p.1 - p.2 else p.1+p.2
noncomputable def cH (k n:Int):Ly:=if k=0 then ⟨1,0,0,-1,0,2 * n⟩ else if k=1 then ⟨-1,0,0,1,2 * n,0⟩ else if k=2 then ⟨0,1,1,0,n,-n⟩ else ⟨0,-1,-1,0,n,n⟩
theorem vG (k n:Int):Dih (cH k n):=by
 unfold cH
 split
 ·exact .inl ⟨rfl,rfl,.inl rfl,.inr rfl⟩
 split
 ·exact .inl ⟨rfl,rfl,.inr rfl,.inl rfl⟩
 split
 ·exact .inr ⟨rfl,rfl,.inl rfl,.inl rfl⟩
 ·exact .inr ⟨rfl,rfl,.inr rfl,.inr rfl⟩
theorem vH (k n:Int)(p:Int×Int):bK (cH k n) (bK (cH k n) p)=p:=by
 obtain ⟨x,y⟩:=p
 unfold cH bK
 split
 ·refine Sd ?_ ?_<;>dsimp only<;>omega
 split
 ·refine Sd ?_ ?_<;>dsimp only<;>omega
 split
 ·refine Sd ?_ ?_<;>dsimp only<;>omega
 ·refine Sd ?_ ?_<;>dsimp only<;>omega
noncomputable def aU (G:Gr)(p:Int×Int):List (Int×Int):=match G.find? (fun g=>decide (g.1=p)) with|some g=>g.2|none=>[]
noncomputable def cX (G:Gr)(p:Int×Int)(L:List (Int×Int)):Gr:=if (G.map (·.1)).contains p then G.map (fun g=>if g.1=p then (g.1,L) else g) else G++[(p,L)]
theorem qC (p:Int×Int):aU [] p=[]:=rfl
theorem eH (g:(Int×Int)×List (Int×Int))(G:Gr)(p:Int×Int):aU (g::G) p=if g.1=p then g.2 else aU G p:=by
 unfold aU
 rw [OT]
 by_cases e:g.1=p
 ·rw [if_pos e,decide_eq_true e]
 ·rw [if_neg e,decide_eq_false e]
theorem jJ {G:Gr}(kd:(G.map (·.1)).Nodup){g:(Int×Int)×List (Int×Int)}(h:g∈G):aU G g.1=g.2:=by
 induction G with
 | nil=>cases h
 | cons x G ih=>
  rw [N0,OS] at kd
  rw [eH]
  rcases Ov.mp h with rfl|h
  ·exact if_pos rfl
  ·rw [if_neg (fun e:x.1=g.1=>kd.1 (by rw [e];exact NZ.mpr ⟨g,h,rfl⟩)),ih kd.2 h]
theorem iJ {G:Gr}{p:Int×Int}(h:p∉G.map (·.1)):aU G p=[]:=by
 induction G with
 | nil=>rfl
 | cons x G ih=>
  rw [N0,Ov,not_or] at h
  rw [eH,if_neg (fun e=>h.1 e.symm),ih h.2]
theorem Cf {G K:Gr}{p:Int×Int}(h:p∉G.map (·.1)):aU (G++K) p=aU K p:=by
 induction G with
 | nil=>rfl
 | cons x G ih=>
  rw [N0,Ov,not_or] at h
  rw [Pz,eH,if_neg (fun e=>h.1 e.symm),ih h.2]
theorem atG_append' {G K:Gr}{p:Int×Int}(h:p∈G.map (·.1)):aU (G++K) p=aU G p:=by
 induction G with
 | nil=>cases h
 | cons x G ih=>
  rw [Pz,eH,eH]
  by_cases e:x.1=p
  ·rw [if_pos e,if_pos e]
  ·rw [if_neg e,if_neg e]
   rw [N0,Ov] at h
   exact ih (h.resolve_left fun w=>e w.symm)
theorem Cg (G:Gr)(p:Int×Int)(L:List (Int×Int)):(cX G p L).map (·.1)=if (G.map (·.1)).contains p then G.map (·.1) else G.map (·.1)++[p]:=by
 unfold cX
 split
 ·rw [N6]
  refine Oe fun g _=>?_
  show (if g.1=p then (g.1,L) else g).1=g.1
  split<;>rfl
 ·rw [OE];rfl
theorem Ci {G:Gr}{p:Int×Int}{L:List (Int×Int)}(kd:(G.map (·.1)).Nodup):((cX G p L).map (·.1)).Nodup:=by
 rw [Cg]
 split
 ·exact kd
 ·rename_i h
  rw [Qw]
  exact ⟨kd,by simp,fun x hx y hy e=>h (OQ.mpr (by rw [OC.mp hy] at e;exact e ▸ hx))⟩
theorem putG_mem {G:Gr}{p q:Int×Int}{L:List (Int×Int)}:q∈(cX G p L).map (·.1)↔q∈G.map (·.1)\/q=p:=by
 rw [Cg]
 split
 ·rename_i h
  exact ⟨.inl,fun z=>z.elim id fun e=>e ▸ OQ.mp h⟩
 ·rw [O2,OC]
theorem vJ (G:Gr)(p q:Int×Int)(L:List (Int×Int)):aU (cX G p L) q=if q=p then L else aU G q:=by
 unfold cX
 split
 ·rename_i h
  have h:=OQ.mp h
  induction G with
  | nil=>cases h
  | cons x G ih=>
   rw [N0,eH,eH]
   by_cases e:x.1=p
   ·rw [if_pos e]
    by_cases e2:q=p
    ·rw [if_pos e2,if_pos (by rw [e,e2])]
    ·rw [if_neg e2,if_neg (by show ¬ x.1=q;rw [e];exact fun w=>e2 w.symm),if_neg (by rw [e];exact fun w=>e2 w.symm)]
     by_cases h2:p∈G.map (·.1)
     ·rw [ih (OQ.mpr h2) h2,if_neg e2]
     ·have:(G.map fun g=>if g.1=p then (g.1,L) else g)=G:=by
       have w:(G.map fun g=>if g.1=p then (g.1,L) else g)=G.map id:=Oe fun g hg=>if_neg fun e=>h2 (NZ.mpr ⟨g,hg,e⟩)
       rw [w,RJ]
      rw [this]
   ·rw [if_neg e]
    rw [N0,Ov] at h
    have h3:=h.resolve_left fun w=>e w.symm
    rw [ih (OQ.mpr h3) h3]
    by_cases e2:x.1=q
    ·rw [if_pos e2,if_pos e2,if_neg (by rw [<- e2];exact e)]
    ·rw [if_neg e2,if_neg e2]
 ·rename_i h
  have h:p∉G.map (·.1):=fun z=>h (OQ.mpr z)
  by_cases e:q=p
  ·rw [if_pos e,e,Cf h,eH,if_pos rfl]
  ·rw [if_neg e]
   by_cases h2:q∈G.map (·.1)
   ·exact atG_append' h2
   ·rw [Cf h2,eH,if_neg (fun w=>e w.symm),qC,iJ h2]
theorem MR {G:Gr}{p:Int×Int}(h:aU G p≠[]):p∈G.map (·.1):=Classical.byContradiction fun z=>h (iJ z)
structure Pil (qs:List (Int×Int))(f:Int×Int->Int×Int)(G:Gr):Prop where
 kd:(G.map (·.1)).Nodup
 ne:∀ g∈G,g.2≠[]
 pm:∀ p,(aU G p).Perm (qs.filter fun q=>decide (f q=p))
theorem Pil.key {qs:List (Int×Int)}{f:Int×Int->Int×Int}{G:Gr}(h:Pil qs f G){p:Int×Int}:p∈G.map (·.1)↔∃ q∈qs,f q=p:=by
 constructor
 ·intro hp
  obtain ⟨g,hg,rfl⟩:=NZ.mp hp
  have h1:=h.pm g.1
  rw [jJ h.kd hg] at h1
  obtain ⟨q,hq⟩:=List.exists_mem_of_ne_nil _ (h.ne g hg)
  have:=Pl.mp (h1.mem_iff.mp hq)
  exact ⟨q,this.1,of_decide_eq_true this.2⟩
 ·rintro ⟨q,hq,rfl⟩
  refine MR fun e=>?_
  have h1:=h.pm (f q)
  rw [e] at h1
  have:q∈([]:List (Int×Int)):=h1.mem_iff.mpr (Pl.mpr ⟨hq,decide_eq_true rfl⟩)
  cases this
theorem Cj {α:Type}(a b:α->Bool)(hd:∀ x,a x=true->b x=false):∀ l:List α,(l.filter fun x=>a x||b x).Perm (l.filter a++l.filter b)
 | []=>.nil
 | x::l=>by
  have ih:=Cj a b hd l
  cases ha:a x with
  | true=>
   rw [OH (by simp [ha]),OH ha,OA (by simp [hd x ha])]
   exact ih.cons x
  | false=>
   cases hb:b x with
   | true=>
    rw [OH (by simp [hb]),OA (by simp [ha]),OH hb]
    exact (ih.cons x).trans List.perm_middle.symm
   | false=>
    rw [OA (by simp [ha,hb]),OA (by simp [ha]),OA (by simp [hb])]
    exact ih
noncomputable def fP (mv:Int×Int->Bool)(G:Gr):Gr:=G.filter fun g=>!mv g.1
noncomputable def dW (mv:Int×Int->Bool)(M:Int×Int->Int×Int)(G:Gr):Gr:=(G.filter fun g=>mv g.1).map fun g=>(M g.1,g.2.reverse)
noncomputable def dX (over:Bool)(S:Gr)(g:(Int×Int)×List (Int×Int)):Gr:=cX S g.1 (if over then aU S g.1++g.2 else g.2++aU S g.1)
noncomputable def Ck (mv:Int×Int->Bool)(M:Int×Int->Int×Int)(over:Bool)(G:Gr):Gr:=(dW mv M G).foldl (dX over) (fP mv G)
theorem Cm {mv:Int×Int->Bool}(p:Int×Int):∀ G:Gr,aU (fP mv G) p=if mv p then [] else aU G p
 | []=>by cases mv p<;>rfl
 | g::G=>by
  have ih:=Cm (mv:=mv) p G
  unfold fP at ih ⊢
  rw [eH]
  cases h:mv g.1 with
  | true=>
   rw [OA (by simp [h]),ih]
   by_cases e:g.1=p
   ·rw [<- e,h];rfl
   ·rw [if_neg e]
  | false=>
   rw [OH (by simp [h]),eH]
   by_cases e:g.1=p
   ·rw [if_pos e,if_pos e,<- e,h];rfl
   ·rw [if_neg e,if_neg e,ih]
theorem Cn {mv:Int×Int->Bool}{M:Int×Int->Int×Int}(hM:∀ p,M (M p)=p)(p:Int×Int):∀ G:Gr,aU (dW mv M G) p=if mv (M p) then (aU G (M p)).reverse else []
 | []=>by cases mv (M p)<;>rfl
 | g::G=>by
  have ih:=Cn (mv:=mv) hM p G
  unfold dW at ih ⊢
  rw [eH]
  have hi:M g.1=p↔g.1=M p:=⟨fun e=>by rw [<- e,hM],fun e=>by rw [e,hM]⟩
  cases h:mv g.1 with
  | true=>
   rw [OH (by simp [h]),N0,eH]
   by_cases e:g.1=M p
   ·rw [if_pos (hi.mpr e),if_pos e,<- e,h];rfl
   ·rw [if_neg (fun w=>e (hi.mp w)),if_neg e,ih]
  | false=>
   rw [OA (by simp [h]),ih]
   by_cases e:g.1=M p
   ·rw [<- e,h];rfl
   ·rw [if_neg e]
theorem Co (over:Bool):∀ (K S:Gr),(K.map (·.1)).Nodup->(S.map (·.1)).Nodup->(∀ g∈S,g.2≠[])->(∀ g∈K,g.2≠[])->
  ((K.foldl (dX over) S).map (·.1)).Nodup/\(∀ g∈K.foldl (dX over) S,g.2≠[])/\∀ p,(aU (K.foldl (dX over) S) p).Perm (aU S p++aU K p)
 | [],S,_,hs,ns,_=>⟨hs,ns,fun p=>by rw [qC,Rv];exact .refl _⟩
 | g::K,S,hk,hs,ns,nk=>by
  rw [N0,OS] at hk
  rw [Th]
  have hs':((dX over S g).map (·.1)).Nodup:=Ci hs
  have ns':∀ x∈dX over S g,x.2≠[]:=fun x hx=>by
   have e:aU (dX over S g) x.1=x.2:=jJ hs' hx
   rw [<- e]
   unfold dX
   rw [vJ]
   have ng:=nk g (Om ..)
   split
   ·cases over
    ·exact fun w=>ng (Ul.mp w).1
    ·exact fun w=>ng (Ul.mp w).2
   ·rename_i hne
    have:x.1∈(dX over S g).map (·.1):=NZ.mpr ⟨x,hx,rfl⟩
    rcases putG_mem.mp this with h|h
    ·obtain ⟨y,hy,ey⟩:=NZ.mp h
     rw [<- ey,jJ hs hy]
     exact ns y hy
    ·exact absurd h hne
  obtain ⟨h1,h2,h3⟩:=Co over K (dX over S g) hk.2 hs' ns' fun x hx=>nk x (Oc _ hx)
  refine ⟨h1,h2,fun p=>(h3 p).trans ?_⟩
  rw [eH]
  unfold dX
  rw [vJ]
  by_cases e:p=g.1
  ·rw [if_pos e,if_pos e.symm,e,iJ hk.1,Rv]
   cases over
   ·exact Uy
   ·exact .refl _
  ·rw [if_neg e,if_neg (fun w=>e w.symm)]
theorem MU {qs:List (Int×Int)}{f:Int×Int->Int×Int}{G:Gr}(h:Pil qs f G){mv:Int×Int->Bool}{M:Int×Int->Int×Int}(hM:∀ p,M (M p)=p)(over:Bool) :
  Pil qs (fun q=>if mv (f q) then M (f q) else f q) (Ck mv M over G):=by
 have sub:∀ (l:List ((Int×Int)×List (Int×Int))),l.Sublist G->(l.map (·.1)).Nodup:=fun l hl=>(hl.map _).nodup h.kd
 have kd1:((dW mv M G).map (·.1)).Nodup:=by
  have e:(dW mv M G).map (·.1)=((G.filter fun g=>mv g.1).map (·.1)).map M:=by
   unfold dW
   rw [N6,N6]
   rfl
  rw [e]
  exact Rq _ (fun a b hab w=>hab (by rw [<- hM a,w,hM])) (sub _ QV)
 obtain ⟨h1,h2,h3⟩:=Co over (dW mv M G) (fP mv G) kd1 (sub _ QV) (fun g hg=>h.ne g (Pl.mp hg).1) (fun g hg=>by
  obtain ⟨y,hy,rfl⟩:=NZ.mp hg
  exact fun w=>h.ne y (Pl.mp hy).1 (List.reverse_eq_nil_iff.mp w))
 refine ⟨h1,h2,fun p=>(h3 p).trans ?_⟩
 rw [Cm,Cn hM]
 have e:(qs.filter fun q=>decide ((if mv (f q) then M (f q) else f q)=p))=qs.filter fun q=>(!mv (f q)&&decide (f q=p))||(mv (f q)&&decide (f q=M p)):=by
  congr 1
  funext q
  have hi:M (f q)=p↔f q=M p:=⟨fun e=>by rw [<- e,hM],fun e=>by rw [e,hM]⟩
  cases mv (f q) with
  | true=>simp [hi]
  | false=>simp
 rw [e]
 refine List.Perm.trans ?_ (Cj _ _ (fun q hq=>?_) qs).symm
 ·refine List.Perm.append ?_ ?_
  ·cases hm:mv p with
   | true=>
    rw [if_pos rfl,Qi.mpr]
    intro q _ w
    rw [N5] at w
    have e:=of_decide_eq_true w.2
    rw [e,hm] at w
    exact OI w.1
   | false=>
    rw [if_neg OI]
    have:(qs.filter fun q=>!mv (f q)&&decide (f q=p))=qs.filter fun q=>decide (f q=p):=by
     congr 1
     funext q
     by_cases e:f q=p
     ·simp [e,hm]
     ·simp [e]
    rw [this]
    exact h.pm p
  ·cases hm:mv (M p) with
   | true=>
    rw [if_pos rfl]
    have:(qs.filter fun q=>mv (f q)&&decide (f q=M p))=qs.filter fun q=>decide (f q=M p):=by
     congr 1
     funext q
     by_cases e:f q=M p
     ·simp [e,hm]
     ·simp [e]
    rw [this]
    exact (Vz _).trans (h.pm (M p))
   | false=>
    rw [if_neg OI,Qi.mpr]
    intro q _ w
    rw [N5] at w
    have e:=of_decide_eq_true w.2
    rw [e,hm] at w
    exact OI w.1
 ·rw [N5] at hq
  simp only [SK] at hq
  rw [hq.1];rfl
theorem MV {p:Int×Int}{u:Int}(hu:0<=u/\u<4):atI [D.int p.2,.int p.1,.int (p.1 - p.2),.int (p.1+p.2)] u=some (.int (nT u p)):=by
 have:u=0\/u=1\/u=2\/u=3:=by omega
 rcases this with rfl|rfl|rfl|rfl<;>rfl
theorem qD (k:Nat)(p:Int×Int)(u:Int)(hu:0<=u/\u<4)(μ:Hm)(Q:D×Hm->Prop)(H:∀ μ',μ <+: μ'->Q (.int (nT u p),μ')):W (f (k+1) "_law_value" [PP p,.int u] μ) Q:=by
 rw [L0]
 exact BS rfl (Mh (Mg rfl rfl ((jG (bI _ _) (MV hu)).mpr (H _ (aQ _ _)))))
theorem MW {n u:Int}(hu:0<=u/\u<4):atI [LD ⟨1,0,0,-1,0,2 * n⟩,LD ⟨-1,0,0,1,2 * n,0⟩,LD ⟨0,1,1,0,n,-n⟩,LD ⟨0,-1,-1,0,n,n⟩] u=some (LD (cH u n)):=by
 have:u=0\/u=1\/u=2\/u=3:=by omega
 rcases this with rfl|rfl|rfl|rfl<;>rfl
theorem MX (k:Nat)(u n:Int)(hu:0<=u/\u<4)(μ:Hm)(Q:D×Hm->Prop)(H:∀ μ',μ <+: μ'->Q (LD (cH u n),μ')):W (f (k+1) "_law_mirror" [.int u,.int n] μ) Q:=by
 rw [L1]
 refine BS rfl (W_fin.mpr ?_)
 simp only [w_mRet,aX,jE,fL,aY,aV,bO,uP,aJ,aL,NX,NY]
 refine ⟨u7,u7,fW,?_⟩
 refine (nR (aO (aQ _ _) (bI _ _)) (bI _ _) (by show (4:Nat)<=N4;decide)).mpr ?_
 exact (jG (bI _ _) (MW hu)).mpr (H _ (((aQ _ _).trans (aQ _ _)).trans (aQ _ _)))
theorem Cp (k:Nat)(A:Ly)(hA:Dih A)(p:Int×Int)(μ:Hm)(Q:D×Hm->Prop):W (f (k+1) "_law_led" [LD A,PP p] μ) Q↔Q (PP (bK A p),μ):=by
 obtain ⟨h1,h2,h3,h4⟩:=hA.sm
 rw [L4,W_fin]
 simp only [bG,pW,aJ,B4,uU,NX,NY,w_mRet,fL,aY,aV,aX,aL,fN h1,fN h2,fN h3,fN h4,dS,fW,true_and]
 rfl
theorem MY {xs ys:List D}{μ:Hm}{Q:D×Hm->Prop}(h:xs≠[]/\ys≠[]/\xs.length+ys.length<=N4):W (bB (.tup xs) (.tup ys) μ) Q↔Q (.tup (xs++ys),μ):=by
 simp only [bB]
 rw [if_pos h]
 exact W_some
theorem MZ (k:Nat)(A B:Ly)(hA:Dih A)(hB:Dih B)(μ:Hm)(Q:D×Hm->Prop):W (f (k+1) "_law_then" [LD A,LD B] μ) Q↔Q (LD (mD A B),μ):=by
 obtain ⟨h1,h2,h3,h4⟩:=hB.sm
 have e4:([D.int (B.a * A.a+B.b * A.c),.int (B.a * A.b+B.b * A.d),.int (B.c * A.a+B.d * A.c),.int (B.c * A.b+B.d * A.d)]:List D).length<=N4:=by show (4:Nat)<=N4;decide
 rw [L5,W_fin]
 simp only [bG,pW,bR,aJ,B4,NX,NY,w_mRet,fL,aY,aV,aX,aL,fN h1,fN h2,fN h3,fN h4,dS,fW,e4,true_and]
 rw [MY ⟨by simp,by simp,by show (6:Nat)<=N4;decide⟩]
 rfl
theorem M0 (k:Nat)(ns:List Int)(i:Int)(hi:0<=i/\i<=100)(μ:Hm)(Q:D×Hm->Prop)(H:∀ v μ',μ <+: μ'->Q (.int v,μ')):W (f (k+1) "_law_given" [.rol (ns.map D.int),.int i] μ) Q:=by
 rw [LX,W_fin]
 simp only [bG,gP,fV,aX,bP,aY,aV,aJ,aL,bO,BL,BF,NP]
 by_cases h:i<ns.length
 ·simp only [h,decide_true,if_true,w_mRet,aX,aJ,aL]
  rw [BV (BU hi.1 h)]
  exact H _ _ (QD _)
 ·simp only [h,decide_false,Ob,if_false,iG,bG,bR,aX,aJ,aL,bO,dS]
  refine (jF (.inl (by omega))).mpr ((jF (.inr (by decide))).mpr ?_)
  simp only [NX,NY,w_mRet,BB,fV,aX,aJ,aL,jE,aV,bO]
  refine ⟨OW _,(Mi (bI _ _)).mpr ?_⟩
  by_cases h0:ns=[]
  ·have e:(ns == [])=true:=by rw [h0];rfl
   rw [e]
   simp only [if_true]
   exact H _ _ (aQ _ _)
  ·have e:(ns == [])=false:=by
    cases ns with
    | nil=>exact absurd rfl h0
    | cons=>rfl
   have hp:0<ns.length:=Qd.mpr h0
   rw [e]
   simp only [Ob,if_false,bP,aY,aV,aJ,aL,BL,NP]
   refine (dC (by omega)).mpr ?_
   have hm:0<=i % (ns.length:Int)/\i % (ns.length:Int)<ns.length:=⟨Qp _ (by omega),P0 _ (by omega)⟩
   rw [BV (BU hm.1 hm.2)]
   simp only [dS]
   refine (jF (.inr (by omega))).mpr ?_
   simp only [dS]
   exact H _ _ (aQ _ _)
theorem nU (k:Nat)(ns:List Int)(i:Int)(hi:0<=i/\i<=100)(μ:Hm)(Q:D×Hm->Prop)(H:∀ v μ',0<=v->v<2147483647->μ <+: μ'->Q (.int v,μ')):W (f (k+2) "_law_number" [.rol (ns.map D.int),.int i] μ) Q:=by
 rw [LY,W_fin]
 simp only [bG,bR,aX,bP,aY,aV,aJ,aL,bO]
 refine M0 k ns i hi _ _ fun v μ1 p1=>?_
 refine (dC (by decide)).mpr ((jF (.inl (by decide))).mpr ?_)
 simp only [dS,NX,NY,w_mRet,aX,aJ,aL,bO]
 have h1:=Qp v (show (1000003:Int)≠0 by decide)
 have h2:=P0 v (show (0:Int)<1000003 by decide)
 refine (jF (.inl (by omega))).mpr ((jF (.inr (by decide))).mpr ((dC (by decide)).mpr ?_))
 exact H _ _ (Qp _ (by decide)) (P0 _ (by decide)) p1
noncomputable def vK (x y:Int):Bool:=(x % 4 == 2&&y % 2 == 1)||(y % 4 == 2&&x % 2 == 1)
noncomputable def eI (w h:Int):List (Int×Int):=(gR 1 (4 * w - 1).toNat (4 * h - 1).toNat).filter fun p=>vK p.1 p.2
theorem M3 (k:Nat)(w h:Int)(hw:1<=w/\w<=3)(hh:1<=h/\h<=3)(μ:Hm)(Q:D×Hm->Prop)(H:Q (.loc μ.length,μ++[.lst ((eI w h).map PP)])):W (f (k+1) "_law_quarters" [.int w,.int h] μ) Q:=by
 rw [LZ,W_fin]
 simp only [bG,bR,jE,aV]
 refine ⟨OW _,?_⟩
 simp only [NX,NY,kR,BG,aY,aV,bO,aX,aJ,aL,qA]
 refine ⟨by omega,?_⟩
 refine Mr _ vK _ _ _ _ 1 (4 * h - 1).toNat (fun o1 o2 μ Q=>?_) (fun x y μ Q=>?_) (4 * w - 1).toNat (Ms hw hh).2 _ (bI _ _) _ fun o1 o2=>?_
 ·simp only [BG,aY,aV,bO,aX,aJ,aL,qA]
  exact and_iff_right (by omega)
 ·simp only [uO,Lv,fV,aX,aJ,aL,bO,BQ,u5,pX,dS]
  unfold vK
  cases x % 4 == 2<;>cases y % 2 == 1<;>cases y % 4 == 2<;>cases x % 2 == 1<;>simp
 ·simp only [w_mRet,aJ,aL]
  rw [Mp]
  exact H
theorem Cq {w:Int}(h:1<=w/\w<=3):w∈[(1:Int),2,3]:=by
 have:w=1\/w=2\/w=3:=by omega
 rcases this with rfl|rfl|rfl<;>decide
noncomputable def qE:List (List Int)->Bool
 | x::y::r=>HT.lexLt x y&&qE (y::r)
 | _=>true
theorem M4:∀ w∈[(1:Int),2,3],∀ h∈[(1:Int),2,3],(eI w h).length<=36/\1<=(eI w h).length/\qE ((eI w h).map aK)=true:=by decide +kernel
theorem Cr:∀ {l:List (List Int)},qE l=true->l.Pairwise fun x y=>HT.lexLt x y=true
 | [],_=>.nil
 | [x],_=>List.pairwise_singleton _ _
 | x::y::r,h=>by
  unfold qE at h
  rw [N5] at h
  have ih:=Cr h.2
  refine U7.mpr ⟨fun z hz=>?_,ih⟩
  rcases Ov.mp hz with rfl|hz
  ·exact h.1
  ·exact kC _ _ _ h.1 ((U7.mp ih).1 z hz)
theorem M6 {a b:List Int}(h:HT.lexLt a b=true):HT.lexLt b a=false:=by
 cases e:HT.lexLt b a with
 | false=>rfl
 | true=>
  have:=kC _ _ _ h e
  rw [kB] at this
  exact this.symm
noncomputable def Dc (μ:Hm)(a:Nat)(kvs:List (List Int×D)):Prop:=μ[a]? = some (.dT kvs)\/μ[a]? = some (.dF kvs)
theorem gS {μ:Hm}{a:Nat}{kvs:List (List Int×D)}{y d:D}{k:List Int}{Q:D×Hm->Prop}(h:Dc μ a kvs)(hk:cK y=some k)(hv:bF kvs k=some d):W (aH (.loc a) y μ) Q↔Q (d,μ):=by
 have:aH (.loc a) y μ=some (d,μ):=by
  rcases h with h|h<;>simp only [aH,h,hk,Od,hv,Oy]
 rw [this]
 exact W_some
theorem Ct {i:Nat}{m1 m2:MS}{ρ:aF}{μ:Hm}{a:Nat}{kvs:List (List Int×D)}{Q:Fl×aF×Hm->Prop}(h:ρ[i]? = some (some (.loc a)))(hc:μ[a]? = some (.dT kvs))
  (H:W (m1 ρ (μ.set a (.dF kvs))) fun r=>r.2.2[a]? = some (.dF kvs)/\Q (r.1,r.2.1,r.2.2.set a (.dT kvs))):W (dB i m1 m2 ρ μ) Q:=by
 have e:iY i ρ μ=some (a,kvs):=by simp only [iY,h,hc]
 unfold dB
 rw [e]
 rw [W_bind]
 refine bU H fun r q=>?_
 rw [q.1]
 exact W_some.mpr q.2
theorem qF {i j:Nat}{body:MS}{m2:MS}{ρ:aF}{μ:Hm}{a:Nat}{kvs:List (List Int×D)}{Q:Fl×aF×Hm->Prop}(hi:ρ[i]? = some (some (.loc a)))(hc:μ[a]? = some (.dT kvs))(I:Nat->aF->Hm->Prop)
  (h0:I 0 ρ (μ.set a (.dF kvs)))(go:∀ n k d ρ' μ',kvs[n]? = some (k,d)->I n ρ' μ'->W (body (ρ'.set j (some (.tup (k.map D.int)))) μ') fun p=>p.1=.nx/\I (n+1) p.2.1 p.2.2)
  (stop:∀ ρ' μ',I kvs.length ρ' μ'->μ'[a]? = some (.dF kvs)/\Q (.nx,ρ',μ'.set a (.dT kvs))):W (dB i (cB (cT (aA i)) (b7 j) body) m2 ρ μ) Q:=by
 refine Ct hi hc ?_
 have gF:(μ.set a (.dF kvs))[a]? = some (.dF kvs):=b9 hc
 have hit:cT (aA i) ρ (μ.set a (.dF kvs))=some (eP (.tup (cD kvs)),kvs.length+1,μ.set a (.dF kvs)):=by
  simp only [cT,aA,hi,Od,gF]
 rw [kR,hit,W_some]
 refine nQ (N:=kvs.length) I (fun n ρ' μ' hn hI=>?_) (fun ρ' μ' hI=>⟨?_,stop ρ' μ' hI⟩) kvs.length 0 ρ _ (by omega) h0
 ·have e:kvs[n]? = some (kvs[n].1,kvs[n].2):=N9 hn
  refine ⟨.tup (kvs[n].1.map D.int),_,?_,rfl,bU (go n _ _ ρ' μ' e hI) fun p q=>?_⟩
  ·show some ((cD kvs)[n]?)=_
   unfold cD
   rw [Ol,e]
   rfl
  ·rw [q.1]
   exact q.2
 ·show some ((cD kvs)[kvs.length]?)=_
  rw [Qs (by unfold cD;simp)]
structure HI (μ:Hm)(a:Nat)(Z:Zr):Prop where
 dic:Dc μ a (aE Z)
 kd:(Z.map (·.1)).Nodup
 at_:∀ z∈Z,μ[z.2.2]? = some (.lst (z.2.1.map PP))
theorem Dc.more {μ μ':Hm}{a:Nat}{kvs:List (List Int×D)}(I:Dc μ a kvs)(h:μ <+: μ'):Dc μ' a kvs:=I.elim (fun e=>.inl (aO h e)) fun e=>.inr (aO h e)
theorem HI.more {μ μ':Hm}{a:Nat}{Z:Zr}(I:HI μ a Z)(h:μ <+: μ'):HI μ' a Z:=⟨I.dic.more h,I.kd,fun z hz=>aO h (I.at_ z hz)⟩
theorem HI.ne {μ:Hm}{a b:Nat}{kvs:List (List Int×D)}{Z:Zr}(I:HI μ a Z)(h:Dc μ b kvs){z:(Int×Int)×List (Int×Int)×Nat}(hz:z∈Z):z.2.2≠b:=fun e=>by
 have h1:=I.at_ z hz
 rw [e] at h1
 rcases h with h|h<;>(rw [h] at h1;cases h1)
theorem HI.frz {μ:Hm}{a b:Nat}{kvs:List (List Int×D)}{Z:Zr}(I:HI μ a Z)(h:μ[b]? = some (.dT kvs)):HI (μ.set b (.dF kvs)) a Z:=by
 refine ⟨?_,I.kd,fun z hz=>by rw [NR (OB (I.ne (.inl h) hz))];exact I.at_ z hz⟩
 by_cases e:b=a
 ·subst e
  have:kvs=aE Z:=by
   rcases I.dic with w|w
   ·rw [h] at w;injection w with w;injection w
   ·rw [h] at w;cases w
  rw [<- this]
  exact .inr (b9 h)
 ·unfold Dc
  rw [NR e]
  exact I.dic
theorem GI.hi {μ0 μ:Hm}{a:Nat}{Z:Zr}(I:GI μ0 μ a Z):HI μ a Z:=⟨.inl I.dic,I.kd,fun z hz=>(I.at_ z hz).2⟩
theorem mE {μ μ1:Hm}{a:Nat}{kvs:List (List Int×D)}(hc:μ[a]? = some (.dT kvs))(h:μ.set a (.dF kvs) <+: μ1):μ <+: μ1.set a (.dT kvs):=by
 obtain ⟨t,rfl⟩:=h
 have hl:a<μ.length:=(NS.mp hc).1
 rw [Ro _ _ (by rw [Ou];exact hl),SG,u9 hc]
 exact RE _ _
theorem GI.frz {μ0 μ:Hm}{a b:Nat}{kvs kvs':List (List Int×D)}{Z:Zr}(I:GI μ0 μ a Z)(h:Dc μ b kvs)(hb:b≠a)(c:C)(h0:μ0.length<=b):GI μ0 (μ.set b c) a Z:=
 ⟨c6 I.pre h0 c,I.lo,by rw [NR hb];exact I.dic,I.kd,I.bd,fun z hz=>⟨(I.at_ z hz).1,by rw [NR (OB (I.hi.ne h hz))];exact (I.at_ z hz).2⟩⟩
theorem jK {i:Nat}{ρ:aF}{μ:Hm}{d:D}{Q:D×Hm->Prop}(h:ρ[i]? = some (some d)):W (aA i ρ μ) Q↔Q (d,μ):=by
 have:aA i ρ μ=some (d,μ):=by simp only [aA,h]
 rw [this]
 exact W_some
theorem GI.thaw {μ0 μ':Hm}{m b:Nat}{kvs:List (List Int×D)}{Z:Zr}(hm:μ0[m]? = some (.dT kvs))(I:GI (μ0.set m (.dF kvs)) μ' b Z):GI μ0 (μ'.set m (.dT kvs)) b Z:=by
 have hl:m<μ0.length:=(NS.mp hm).1
 have lo:=I.lo
 rw [Ou] at lo
 refine ⟨mE hm I.pre,lo,by rw [NR (by omega)];exact I.dic,I.kd,I.bd,fun z hz=>?_⟩
 obtain ⟨h1,h2⟩:=I.at_ z hz
 rw [Ou] at h1
 exact ⟨h1,by rw [NR (by omega)];exact h2⟩
theorem vL {Z:Zr}{n:Nat}{k:List Int}{d:D}(h:(aE Z)[n]? = some (k,d)):∃ z∈Z,Z[n]? = some z/\k=aK z.1/\d=.loc z.2.2:=by
 unfold aE at h
 rw [Ol] at h
 obtain ⟨z,h1,h2⟩:=NU.mp h
 cases h2
 exact ⟨z,OX h1,h1,rfl,rfl⟩
theorem kT {α:Type}{l:List α}{n:Nat}{x:α}(h:l[n]? = some x):l.take (n+1)=l.take n++[x]:=by
 rw [Vy,h]
 rfl
theorem nV {α:Type}{l:List α}(nd:l.Nodup){n:Nat}{x:α}(h:l[n]? = some x):x∉l.take n:=fun hx=>by
 obtain ⟨j,hj⟩:=Uz.mp hx
 have hjn:j<n:=by
  have:=(NS.mp hj).1
  rw [OP] at this
  omega
 rw [T6 hjn] at hj
 have hn:n<l.length:=(NS.mp h).1
 have e1:=(NS.mp hj).2
 have e2:=(NS.mp h).2
 exact absurd ((VO nd).mp (e1.trans e2.symm)) (by omega)
theorem Cu {i j c:Nat}{ρ:aF}{m2:MS}{μ0 μ:Hm}{m b:Nat}{Z:Zr}(hi:ρ[i]? = some (some (.loc m)))(hc:ρ[c]? = some (some (.loc b)))(hj:ρ[j]? = some none)(ij:j≠i)(cj:j≠c)(pre:μ0 <+: μ)(lo:μ0.length<=b)
  (gb:μ[b]? = some (.dT []))(hm:μ0[m]? = some (.dT (aE Z)))(kd:(Z.map (·.1)).Nodup)(hat:∀ z∈Z,μ0[z.2.2]? = some (.lst (z.2.1.map PP)))(hZ:Z.length<=100)(hl:∀ z∈Z,z.2.1.length<=100)(Q:Fl×aF×Hm->Prop)
  (H:∀ Z' o μ',GZ Z'=GZ Z->GI μ0 μ' b Z'->(∀ z∈Z',μ.length<=z.2.2)->Q (.nx,ρ.set j o,μ')) :
  W (dB i (cB (cT (aA i)) (b7 j) (bW (aA c) (aA j) (aM gH (aC (aB aH (aA i) (aA j)) aD)))) m2 ρ μ) Q:=by
 have hm':=aO pre hm
 have hml:m<μ0.length:=(NS.mp hm).1
 have hpF:μ0.set m (.dF (aE Z)) <+: μ.set m (.dF (aE Z)):=by
  obtain ⟨t,rfl⟩:=pre
  rw [Ro _ _ hml]
  exact RE _ _
 have hj0:ρ.set j none=ρ:=by
  refine Rf fun x=>?_
  by_cases e:j=x
  ·subst e
   rw [OK (NS.mp hj).1,hj]
  ·rw [NR e]
 refine qF hi hm' (fun n ρ' μ'=>∃ o Zn,ρ'=ρ.set j o/\GZ Zn=(GZ Z).take n/\GI (μ0.set m (.dF (aE Z))) μ' b Zn/\(∀ z∈Zn,μ.length<=z.2.2)/\μ.length<=μ'.length) ⟨none,[],hj0.symm,rfl,⟨hpF,by rw [Ou];exact lo,by rw [NR (by omega)];exact gb,Qe,Qe,fun z hz=>nomatch hz⟩,(fun z hz=>nomatch hz),by simp⟩ ?_ ?_
 ·rintro n k d ρ' μ' hk ⟨o,Zn,rfl,eG,I,hn,hlen⟩
  obtain ⟨z,hz,hzn,rfl,rfl⟩:=vL hk
  rw [SG]
  have v1:(ρ.set j (some (D.tup ((aK z.1).map D.int))))[i]? = some (some (.loc m)):=by rw [NR ij];exact hi
  have v2:(ρ.set j (some (D.tup ((aK z.1).map D.int))))[c]? = some (some (.loc b)):=by rw [NR cj];exact hc
  have v3:(ρ.set j (some (D.tup ((aK z.1).map D.int))))[j]? = some (some (PP z.1)):=by rw [OK (NS.mp hj).1];rfl
  have gF:(μ0.set m (.dF (aE Z)))[m]? = some (.dF (aE Z)):=b9 hm
  have gm:=aO I.pre gF
  have gz:μ'[z.2.2]? = some (.lst (z.2.1.map PP)):=by
   refine aO I.pre ?_
   rw [NR (fun e=>by have:=hat z hz;rw [<- e,hm] at this;cases this)]
   exact hat z hz
  simp only [fM,bP,aY,aV,aX,jK v1,jK v2,jK v3]
  refine (gS (.inr gm) (cM z.1) (eV kd hz)).mpr ((LP gz).mpr ?_)
  simp only [jK v2,jK v3]
  have I1:=I.more (aQ μ' (C.lst (z.2.1.map PP)))
  have hZn:Zn.length=((GZ Z).take n).length:=by rw [<- eG,GZ,NP]
  have hZn2:Zn.length<=100:=by
   rw [hZn,OP,GZ,NP]
   omega
  refine (gQ I1.dic (cM z.1) (by rw [dU,Ox];omega)).mpr ?_
  have hnk:z.1∉Zn.map (·.1):=by
   rw [<- cG,eG,Su,cG]
   exact nV kd (by rw [Ol,hzn];rfl)
  have I2:=I1.new hnk (qs:=z.2.1) (b:=μ'.length) (bI _ _) (OU (by rw [Ou];exact pre.length_le) hlen) (fun y hy=>Oh (NS.mp (I.at_ y hy).2).1)
  refine ⟨trivial,some (D.tup ((aK z.1).map D.int)),_,rfl,?_,I2,fun y hy=>?_,by simp;omega⟩
  ·rw [kT (x:=(z.1,z.2.1)) (by unfold GZ;rw [Ol,hzn];rfl),<- eG]
   unfold GZ
   rw [OE]
   rfl
  ·rcases O2.mp hy with hy|hy
   ·exact hn y hy
   ·rw [OC.mp hy]
    exact hlen
 ·rintro ρ' μ' ⟨o,Zn,rfl,eG,I,hn,hlen⟩
  have gF:(μ0.set m (.dF (aE Z)))[m]? = some (.dF (aE Z)):=b9 hm
  refine ⟨aO I.pre gF,H Zn o _ ?_ (I.thaw hm) hn⟩
  rw [eG,Pq]
  rw [dU,GZ,NP]
  exact N3 _
theorem Cv {α:Type}:∀ xs:List α,(ON xs.length).filterMap (fun i=>xs[i]?)=xs
 | []=>rfl
 | x::xs=>by
  rw [OL,RV,Pt,List.filterMap_map]
  show x::(ON xs.length).filterMap (fun i=>(x::xs)[i+1]?)=x::xs
  simp only [Ud]
  rw [Cv xs]
noncomputable def Cw (n:Nat)(lo:Option Int):List Nat:=Up (PN lo none (some 2) n).1 (PN lo none (some 2) n).2.1 (PN lo none (some 2) n).2.2
theorem M7:∀ n∈ON 64,((Cw n (some 1))++Cw n none).isPerm (ON n)=true:=by decide +kernel
theorem mF {α β:Type}(g:α->β)(xs:List α)(lo:Option Int):cL (xs.map g) lo none (some 2)=(cL xs lo none (some 2)).map g:=by
 unfold cL
 rw [NP,List.map_filterMap]
 congr 1
 funext i
 rw [Ol]
theorem qG {α:Type}(xs:List α)(h:xs.length<64):(cL xs (some 1) none (some 2)++cL xs none none (some 2)).Perm xs:=by
 have e:=(List.isPerm_iff.mp (M7 xs.length (PH.mpr h))).filterMap fun i=>xs[i]?
 rw [Cv,List.filterMap_append] at e
 exact e
noncomputable abbrev a9 (v:Int×Int->D)(ps:List (Int×Int)):List (List Int×D):=ps.map fun p=>(aK p,v p)
theorem Cy {v:Int×Int->D}{ps:List (Int×Int)}(nd:ps.Nodup){p:Int×Int}(h:p∈ps):bF (a9 v ps) (aK p)=some (v p):=by
 refine vB ?_ (NZ.mpr ⟨p,h,rfl⟩)
 rw [N6]
 exact Rq _ (fun a b hab x=>hab (iI x)) nd
theorem Cz {v:Int×Int->D}{ps:List (Int×Int)}{p:Int×Int}(h:p∉ps):bF (a9 v ps) (aK p)=none:=by
 unfold bF
 rw [Sy.mpr]
 ·rfl
 ·intro x hx
  obtain ⟨z,hz,rfl⟩:=NZ.mp hx
  rw [decide_eq_true_iff]
  exact fun e=>h (iI e ▸ hz)
theorem CA {v:Int×Int->D}{ps:List (Int×Int)}{p:Int×Int}(h:p∉ps):cS (a9 v ps) (aK p) (v p)=a9 v (ps++[p]):=by
 unfold cS
 rw [Cz h,if_neg (by simp)]
 show _=UM _ _
 rw [OE]
 rfl
noncomputable def aN (ps:List (Int×Int)):List (Int×Int):=(cC (fun i j=>HT.lexLt ((ps.map aK).getD i []) ((ps.map aK).getD j [])) ps.length).map fun i=>ps.getD i (0,0)
theorem fZ (ps:List (Int×Int)):(aN ps).Perm ps:=by
 have p:=(j9 (fun i j=>HT.lexLt ((ps.map aK).getD i []) ((ps.map aK).getD j [])) ps.length).map fun i=>ps.getD i (0,0)
 rw [B3] at p
 exact p
theorem M8 (v:Int×Int->D)(ps:List (Int×Int)):eE (a9 v ps)=a9 v (aN ps):=by
 unfold eE aN a9
 have ek:(ps.map fun p=>(aK p,v p)).map (·.1)=ps.map aK:=by rw [N6];rfl
 rw [ek,NP,N6]
 refine Oe fun i hi=>?_
 have hi:i<ps.length:=PH.mp ((j9 _ _).mem_iff.mp hi)
 simp [Pj,hi]
theorem vO (ps:List (Int×Int)):((aN ps).map aK).Pairwise fun x y=>HT.lexLt y x=false:=by
 by_cases h:ps=[]
 ·subst h
  have:aN []=[]:=by
   have:=(fZ []).length_eq
   exact RR.mp this
  rw [this]
  exact .nil
 have h0:0<ps.length:=Qd.mpr h
 have S:=Ai (lt:=HT.lexLt) kB kC vD [] (ps.map aK) (n:=ps.length) h0
 unfold aN
 rw [N6,Rc]
 have hm:∀ i∈cC (fun i j=>HT.lexLt ((ps.map aK).getD i []) ((ps.map aK).getD j [])) ps.length,aK (ps.getD i (0,0))=(ps.map aK).getD i []:=fun i hi=>by
  have hi:i<ps.length:=PH.mp ((j9 _ _).mem_iff.mp hi)
  simp [Pj,hi]
 exact S.imp_of_mem fun {i j} hi hj h=>by
  show HT.lexLt (aK (ps.getD j (0,0))) (aK (ps.getD i (0,0)))=false
  rw [hm i hi,hm j hj]
  exact h
theorem srt_eq {ps qs:List (Int×Int)}:aN ps=aN qs↔ps.Perm qs:=by
 constructor
 ·intro h
  exact (fZ ps).symm.trans (h ▸ fZ qs)
 ·intro h
  have e:(aN ps).map aK=(aN qs).map aK:=Qz (le:=fun x y=>HT.lexLt y x=false) (fun a b _ _ h1 h2=>(qB b a h1 h2).symm) (vO ps) (vO qs) ((((fZ ps).trans h).trans (fZ qs).symm).map _)
  have inj:∀ {a b:List (Int×Int)},a.map aK=b.map aK->a=b:=fun {a}=>by
   induction a with
   | nil=>intro b h;cases b with
    | nil=>rfl
    | cons=>cases h
   | cons x a ih=>intro b h;cases b with
    | nil=>cases h
    | cons y b=>
     rw [N0,N0] at h
     injection h with h1 h2
     rw [iI h1,ih h2]
  exact inj e
theorem CB {μ:Hm}{a:Nat}{v:Int×Int->D}{ps:List (Int×Int)}{Q:D×Hm->Prop}(h:μ[a]? = some (.dT (a9 v ps)))(h1:ps.length<64):W (dR [.loc a] μ) Q↔Q (.loc μ.length,μ++[.lst ((aN ps).map PP)]):=by
 rw [Ca h (by rw [NP];exact h1) (fun p hp z=>by obtain ⟨x,_,rfl⟩:=NZ.mp hp;cases z),M8,N6]
 rfl
theorem M9 {i j c l:Nat}{ρ:aF}{μ0 μ:Hm}{a b:Nat}{v:Int×Int->D}{ps ks:List (Int×Int)}(hi:ρ[i]? = some (some (.loc a)))(hc:ρ[c]? = some (some (.loc b)))(hj:ρ[j]? = some none)(ij:j≠i)(cj:j≠c)(pre:μ0 <+: μ)(lo:μ0.length<=b)
  (gb:μ[b]? = some (.dT []))(ga:μ0[a]? = some (.dT (a9 v ps)))(gl:μ[l]? = some (.lst (ks.map PP)))(nd:ps.Nodup)(hp:ks.Perm ps)(hl:ps.length<=100)(Q:Fl×aF×Hm->Prop)
  (H:∀ o μ',μ0 <+: μ'->μ'[b]? = some (.dT (a9 v ks))->Q (.nx,ρ.set j o,μ')) :
  W (dH (eP (.loc l)) (b7 j) (bW (aA c) (aA j) (aB aH (aA i) (aA j))) ((ks.map PP).length+1) 0 ρ μ) Q:=by
 have hj0:ρ.set j none=ρ:=by
  refine Rf fun x=>?_
  by_cases e:j=x
  ·subst e
   rw [OK (NS.mp hj).1,hj]
  ·rw [NR e]
 have lb:l≠b:=fun e=>by rw [e,gb] at gl;cases gl
 refine uW (fun n ρ' μ'=>∃ o,ρ'=ρ.set j o/\μ0 <+: μ'/\μ'[b]? = some (.dT (a9 v (ks.take n)))/\μ'[l]? = some (.lst (ks.map PP))) ⟨none,hj0.symm,pre,gb,gl⟩ (fun _ _ _ ⟨_,_,_,_,h⟩=>h) ?_ ?_
 ·rintro n d ρ' μ' hd ⟨o,rfl,p1,g1,g2⟩
  obtain ⟨q,hq,rfl⟩:=vA hd
  have hqm:q∈ps:=hp.mem_iff.mp (OX hq)
  refine ⟨_,rfl,?_⟩
  rw [SG]
  have v1:(ρ.set j (some (PP q)))[i]? = some (some (.loc a)):=by rw [NR ij];exact hi
  have v2:(ρ.set j (some (PP q)))[c]? = some (some (.loc b)):=by rw [NR cj];exact hc
  have v3:(ρ.set j (some (PP q)))[j]? = some (some (PP q)):=by rw [OK (NS.mp hj).1]
  simp only [fM,aX,jK v1,jK v2,jK v3]
  refine (gS (.inl (aO p1 ga)) (cM q) (Cy nd hqm)).mpr ?_
  have hn:n<ks.length:=(NS.mp hq).1
  have hkl:=hp.length_eq
  refine (gQ g1 (cM q) (by rw [NP,OP,Ox];omega)).mpr ?_
  refine ⟨some (PP q),rfl,c6 p1 lo _,?_,by rw [NR (OB lb)];exact g2⟩
  rw [b9 g1,CA (nV (hp.nodup_iff.mpr nd) hq),kT hq]
 ·rintro ρ' μ' ⟨o,rfl,p1,g1,g2⟩
  refine H o μ' p1 ?_
  rw [NP,RP] at g1
  exact g1
theorem CC {μ:Hm}{a:Nat}{xs:List D}{Q:D×Hm->Prop}(h:μ[a]? = some (.lst xs)):W (j8 (.loc a) [] μ) Q↔Q (.non,μ.set a (.lst xs.reverse)):=by
 simp only [j8,h]
 exact W_some
theorem CD {α:Type}(l:List α)(n:Nat):(l.drop n++l.take n).Perm l:=by
 have:=Uy (l₁:=l.drop n) (l₂:=l.take n)
 rw [Ux] at this
 exact this
theorem Na {ks:List (Int×Int)}{t:Int}(ht:0<=t/\t<=ks.length):gZ (ks.map PP) (some t) none=(ks.drop t.toNat).map PP/\gZ (ks.map PP) none (some t)=(ks.take t.toNat).map PP:=by
 have e:HT.sIx (ks.map PP).length 0 (some t)=t.toNat:=by
  show (if t<0 then _ else min t.toNat _)=_
  rw [if_neg (by omega),NP]
  omega
 have e2:HT.sIx (ks.map PP).length (ks.map PP).length (some t)=t.toNat:=by
  show (if t<0 then _ else min t.toNat _)=_
  rw [if_neg (by omega),NP]
  omega
 unfold gZ
 constructor
 ·rw [e,HT.sIx_none,Pq (by rw [QH];exact N3 _),Wn]
 ·rw [e2,HT.sIx_none,Wa,WL,Su]
theorem CF (k:Nat)(a:Nat)(ps:List (Int×Int))(v:Int×Int->D)(nd:ps.Nodup)(hl:ps.length<64)(n:Int)(μ:Hm)(ha:μ[a]? = some (.dT (a9 v ps)))(Q:D×Hm->Prop)
  (H:∀ ks b μ',ks.Perm ps->μ <+: μ'->μ.length<=b->μ'[b]? = some (.dT (a9 v ks))->Q (.loc b,μ')):W (f (k+1) "_law_in_turn" [.loc a,.int n] μ) Q:=by
 rw [Ma,W_fin]
 simp only [bG,bR,bP,aY,aV,aJ,aL]
 refine (CB ha hl).mpr ?_
 simp only [NX,NY]
 have p1:=aQ μ (C.lst ((aN ps).map PP))
 have g1:=bI μ (C.lst ((aN ps).map PP))
 generalize μ++[C.lst ((aN ps).map PP)]=μ1 at p1 g1
  -- turned about
 refine bU (Q:=fun p:Fl×aF×Hm=>p.1=.nx/\p.2.1=[some (.loc a),some (.int n),some (.loc μ.length),none,none,none]/\μ <+: p.2.2/\∃ ks:List (Int×Int),ks.Perm ps/\p.2.2[μ.length]? = some (.lst (ks.map PP))) ?_ ?_
 ·simp only [gP,fV,aX,aJ,aL,bO]
  refine (dC (by decide)).mpr ?_
  simp only [pX]
  cases n % 3 == 1 with
  | true=>
   simp only [if_true,jD]
   refine kS ?_
   simp only [aJ,aL,aV]
   refine ⟨jH g1,(CC g1).mpr ⟨trivial,trivial,c6 p1 (N3 _) _,(aN ps).reverse,(Vz _).trans (fZ ps),?_⟩⟩
   rw [b9 g1,S4]
  | false=>
   simp only [Ob,if_false,iG]
   exact ⟨trivial,trivial,p1,aN ps,fZ ps,g1⟩
 rintro ⟨fl,ρ,μ2⟩ ⟨rfl,rfl,p2,ks,hk,g2⟩
 clear g1 p1
 dsimp only at p2 g2 ⊢
 have hkl:=hk.length_eq
 simp only [aX,bP,aY,aV,aJ,aL,bO]
 refine (eF (by decide) (by decide)).mpr ((nS g2).mpr ?_)
 simp only [dS,NP]
 refine (dC (by omega)).mpr ?_
 simp only [NX,NY]
 have ht:0<=n / 3 % ((ks.length:Int)+1)/\n / 3 % ((ks.length:Int)+1)<=ks.length:=by
  have h1:=Qp (n / 3) (show ((ks.length:Int)+1)≠0 by omega)
  have h2:=P0 (n / 3) (show 0<((ks.length:Int)+1) by omega)
  omega
 generalize n / 3 % ((ks.length:Int)+1)=t at ht
  -- every second one first
 refine bU (Q:=fun p:Fl×aF×Hm=>p.1=.nx/\∃ (l:Nat)(ks':List (Int×Int)),p.2.1=[some (.loc a),some (.int n),some (.loc l),some (.int t),none,none]/\μ <+: p.2.2/\ks'.Perm ps/\p.2.2[l]? = some (.lst (ks'.map PP))) ?_ ?_
 ·simp only [gP,fV,aX,aJ,aL,bO]
  refine (dC (by decide)).mpr ?_
  simp only [pX]
  cases n % 3 == 2 with
  | true=>
   simp only [if_true,bR,aX]
   refine BO ?_
   simp only [aJ,aL]
   refine ⟨_,rfl,⟨_,rfl,⟨_,rfl,⟨_,rfl,by simp,_,g2,?_,?_⟩⟩⟩⟩
   ·have:=(qG ks (by omega)).length_eq
    dsimp only
    rw [mF,NP,Ox]
    rw [Oa] at this
    omega
   refine BO ?_
   simp only [aJ,aL]
   refine ⟨_,rfl,⟨_,rfl,⟨_,rfl,⟨_,rfl,by simp,_,aO (aQ _ _) g2,?_,?_⟩⟩⟩⟩
   ·have:=(qG ks (by omega)).length_eq
    dsimp only
    rw [mF,NP,Ox]
    rw [Oa] at this
    omega
   refine (nR (aO (aQ _ _) (bI _ _)) (bI _ _) ?_).mpr ?_
   ·have:=(qG ks (by omega)).length_eq
    dsimp only
    rw [mF,mF,NP,NP,Ox]
    rw [Oa] at this
    omega
   refine ⟨trivial,_,cL ks (some 1) none (some 2)++cL ks none none (some 2),rfl,p2.trans (((aQ _ _).trans (aQ _ _)).trans (aQ _ _)),(qG ks (by omega)).trans hk,?_⟩
   rw [OE,<- mF,<- mF]
   exact bI _ _
  | false=>
   simp only [Ob,if_false,iG]
   exact ⟨trivial,_,ks,rfl,p2,hk,g2⟩
 rintro ⟨fl,ρ,μ3⟩ ⟨rfl,l,ks',rfl,p3,hk',g3⟩
 dsimp only at p3 g3 ⊢
 have hl':=hk'.length_eq
 have ht':0<=t/\t<=ks'.length:=by omega
 simp only [bR,iH,NX,NY,kR,uV,aX]
 refine BM ?_
 simp only [aJ,aL]
 refine ⟨_,rfl,⟨_,rfl,⟨_,rfl,_,aO (aQ _ _) g3,?_⟩⟩⟩
 refine BM ?_
 simp only [aJ,aL]
 refine ⟨_,rfl,⟨_,rfl,⟨_,rfl,_,aO ((aQ _ _).trans (aQ _ _)) g3,?_⟩⟩⟩
 obtain ⟨c1,c2⟩:=Na ht'
 dsimp only
 rw [c1,c2]
 refine (nR (aO (aQ _ _) (bI _ _)) (bI _ _) ?_).mpr ?_
 ·rw [NP,NP,QH,OP,Ox]
  omega
 rw [<- OE]
 refine (u4 (bI _ _)).mpr ?_
 have pz:μ3 <+: ((((μ3++[C.dT []])++[C.lst ((ks'.drop t.toNat).map PP)])++[C.lst ((ks'.take t.toNat).map PP)])++[C.lst ((ks'.drop t.toNat++ks'.take t.toNat).map PP)]):=(((aQ _ _).trans (aQ _ _)).trans (aQ _ _)).trans (aQ _ _)
 have gd:((((μ3++[C.dT []])++[C.lst ((ks'.drop t.toNat).map PP)])++[C.lst ((ks'.take t.toNat).map PP)])++[C.lst ((ks'.drop t.toNat++ks'.take t.toNat).map PP)])[μ3.length]? = some (C.dT []):=aO (((aQ _ _).trans (aQ _ _)).trans (aQ _ _)) (bI _ _)
 refine M9 (i:=0) (j:=5) (c:=4) (b:=μ3.length) (v:=v) (ps:=ps) (ks:=ks'.drop t.toNat++ks'.take t.toNat) rfl rfl rfl (by decide) (by decide) (p3.trans pz) p3.length_le gd ha (bI _ _) nd ((CD ks' _).trans hk') (by omega) _ fun o μ' h1 h2=>?_
 simp only [NX,NY,w_mRet,aJ,aL]
 exact H _ _ _ ((CD ks' _).trans hk') h1 p3.length_le h2
theorem Nb:aN []=[]:=RR.mp (fZ []).length_eq
theorem CG (ps:List (Int×Int)):(aN ps).length=ps.length:=(fZ ps).length_eq
theorem Nc {ps:List (Int×Int)}(h:(ps.map aK).Pairwise fun x y=>HT.lexLt y x=false):aN ps=ps:=by
 have e:(aN ps).map aK=ps.map aK:=Qz (le:=fun x y=>HT.lexLt y x=false) (fun a b _ _ h1 h2=>(qB b a h1 h2).symm) (vO ps) h ((fZ ps).map _)
 have inj:∀ {a b:List (Int×Int)},a.map aK=b.map aK->a=b:=fun {a}=>by
  induction a with
  | nil=>intro b h;cases b with
   | nil=>rfl
   | cons=>cases h
  | cons x a ih=>intro b h;cases b with
   | nil=>cases h
   | cons y b=>
    rw [N0,N0] at h
    injection h with h1 h2
    rw [iI h1,ih h2]
 exact inj e
theorem Nd {μ:Hm}{a:Nat}{ps:List (Int×Int)}{Q:D×Hm->Prop}(h:μ[a]? = some (.lst (ps.map PP)))(hl:ps.length<64):W (eD [.loc a] μ) Q↔Q (.loc μ.length,μ++[.lst ((aN ps).map PP)]):=by
 by_cases h0:ps=[]
 ·subst h0
  have e:eC []=[]:=by simp [eC]
  rw [LR (is:=[]) h (by decide),e,Nb]
  rfl
 have hp:0<ps.length:=Qd.mpr h0
 have e1:kH [.loc a] μ=none:=by
  simp only [kH,iC,h,Od]
  rw [Mt h0];rfl
 have e2:(cC (sS (ps.map aK)) ps.length).map (fun i=>(ps.map PP).getD i .non)=(aN ps).map PP:=by
  unfold aN
  rw [N6]
  refine Oe fun i hi=>?_
  have hi:i<ps.length:=PH.mp ((j9 _ _).mem_iff.mp hi)
  simp [Pj,hi]
 have e3:m4 [.loc a] μ=some (.loc μ.length,μ++[.lst ((aN ps).map PP)]):=by
  simp only [m4,iC,h,Od,B2]
  rw [if_pos ⟨by rw [NP];omega,by rw [NP];omega,fun t ht=>by obtain ⟨p,_,rfl⟩:=NZ.mp ht;simp [aK]⟩,NP,e2]
 simp only [eD,e1,e3]
 exact W_some
noncomputable def nW (G1 G2:Gr):Bool:=decide ((G1.map (·.1)).Perm (G2.map (·.1)))&&G1.all fun g=>aN g.2 == aN (aU G2 g.1)
theorem Nf {G:Gr}(kd:(G.map (·.1)).Nodup)(p q:Int×Int):cW G p q=cX G p (aU G p++[q]):=by
 unfold cW cX
 by_cases h:(G.map (·.1)).contains p=true
 ·rw [if_pos h,if_pos h]
  refine Oe fun g hg=>?_
  by_cases e:g.1=p
  ·rw [if_pos e,if_pos e,<- e,jJ kd hg]
  ·rw [if_neg e,if_neg e]
 ·rw [if_neg h,if_neg h,iJ fun w=>h (OQ.mpr w)]
  rfl
theorem vP (g:Int×Int->Int×Int):∀ (qs:List (Int×Int))(G:Gr),(G.map (·.1)).Nodup->((qs.foldl (fun G q=>cW G (g q) q) G).map (·.1)).Nodup/\∀ p,aU (qs.foldl (fun G q=>cW G (g q) q) G) p=aU G p++qs.filter fun q=>decide (g q=p)
 | [],G,kd=>⟨kd,fun p=>by simp⟩
 | q::qs,G,kd=>by
  rw [Th,Nf kd]
  obtain ⟨h1,h2⟩:=vP g qs (cX G (g q) (aU G (g q)++[q])) (Ci kd)
  refine ⟨h1,fun p=>?_⟩
  rw [h2,vJ]
  by_cases e:p=g q
  ·subst e
   rw [if_pos rfl,OH (by simp)]
   simp
  ·rw [if_neg e,OA (by simp;exact fun w=>e w.symm)]
theorem Ng {g:Int×Int->Int×Int}{qs:List (Int×Int)}:Pil qs g (c7 g qs):=by
 obtain ⟨h1,h2⟩:=vP g qs [] Qe
 refine ⟨h1,fun x hx e=>?_,fun p=>by unfold c7;rw [h2,qC];exact .refl _⟩
  -- no empty list is made
 have:∀ (qs:List (Int×Int))(G:Gr),(∀ x∈G,x.2≠[])->∀ x∈qs.foldl (fun G q=>cW G (g q) q) G,x.2≠[]:=fun qs=>by
  induction qs with
  | nil=>exact fun G h=>h
  | cons q qs ih=>
   intro G h
   rw [Th]
   refine ih _ fun x hx=>?_
   unfold cW at hx
   split at hx
   ·obtain ⟨y,hy,rfl⟩:=NZ.mp hx
    split
    ·simp
    ·exact h y hy
   ·rcases O2.mp hx with hx|hx
    ·exact h x hx
    ·rw [OC.mp hx];simp
 exact this qs [] (fun x hx=>nomatch hx) x hx e
theorem Nh {qs:List (Int×Int)}{g:Int×Int->Int×Int}{G K:Gr}(h:Pil qs g G)(h':Pil qs g K):(G.map (·.1)).Perm (K.map (·.1)):=
 (List.perm_ext_iff_of_nodup h.kd h'.kd).mpr fun p=>by rw [h.key,h'.key]
noncomputable def jL (S G2:Gr):Bool:=decide ((G2.map (·.1)).Perm (S.map (·.1)))&&S.all fun g=>aN (aU G2 g.1) == g.2
theorem Ni {qs:List (Int×Int)}{g:Int×Int->Int×Int}{G G2:Gr}(hs:(qs.map aK).Pairwise fun x y=>HT.lexLt y x=false)(h:Pil qs g G):jL (c7 g qs) G2=nW G G2:=by
 have h':Pil qs g (c7 g qs):=Ng
 have pk:=Nh h h'
 have ek:decide ((G2.map (·.1)).Perm ((c7 g qs).map (·.1)))=decide ((G.map (·.1)).Perm (G2.map (·.1))):=by
  refine decide_eq_decide.mpr ⟨fun w=>pk.trans w.symm,fun w=>w.symm.trans pk⟩
 unfold jL nW
 rw [ek]
 congr 1
 have at':∀ p,aU (c7 g qs) p=aN (aU G p):=fun p=>by
  have e1:aU (c7 g qs) p=qs.filter fun q=>decide (g q=p):=by
   have:=(vP g qs [] Qe).2 p
   rw [qC,Ru] at this
   exact this
  have e2:aN (qs.filter fun q=>decide (g q=p))=qs.filter fun q=>decide (g q=p):=Nc (by
   rw [Rc] at hs ⊢
   exact hs.sublist QV)
  rw [e1,<- e2,srt_eq]
  exact (h.pm p).symm
 have mem:∀ (K:Gr)(t:Int×Int->List (Int×Int)->Bool),(K.map (·.1)).Nodup->(K.all fun x=>t x.1 x.2)=(K.map (·.1)).all fun p=>t p (aU K p):=fun K t kd=>by
  rw [SH,To,Pm,Pm]
  refine forall_congr' fun x=>?_
  refine imp_congr_right fun hx=>?_
  show _↔t x.1 (aU K x.1)=true
  rw [jJ kd hx]
 rw [mem (c7 g qs) (fun p l=>aN (aU G2 p) == l) h'.kd,mem G (fun p l=>aN l == aN (aU G2 p)) h.kd,To,Pm,Pm]
 constructor
 ·intro w p hp
  have:=w p (pk.mem_iff.mp hp)
  rw [at'] at this
  rw [beq_iff_eq] at this ⊢
  exact this.symm
 ·intro w p hp
  have:=w p (pk.mem_iff.mpr hp)
  rw [at']
  rw [beq_iff_eq] at this ⊢
  exact this.symm
theorem CH {i:Nat}{m1 m2:ME}{ρ:aF}{μ:Hm}{a:Nat}{kvs:List (List Int×D)}{Q:D×Hm->Prop}(h:ρ[i]? = some (some (.loc a)))(hc:μ[a]? = some (.dT kvs))
  (H:W (m1 ρ (μ.set a (.dF kvs))) fun r=>r.2[a]? = some (.dF kvs)/\Q (r.1,r.2.set a (.dT kvs))):W (kJ i m1 m2 ρ μ) Q:=by
 have e:iY i ρ μ=some (a,kvs):=by simp only [iY,h,hc]
 unfold kJ
 rw [e]
 rw [W_bind]
 refine bU H fun r q=>?_
 rw [q.1]
 exact W_some.mpr q.2
noncomputable def jM (Z:Zr)(p:Int×Int):D:=match Z.find? (fun z=>decide (z.1=p)) with|some z=>.loc z.2.2|none=>.non
theorem vQ {Z:Zr}(kd:(Z.map (·.1)).Nodup){z:(Int×Int)×List (Int×Int)×Nat}(h:z∈Z):jM Z z.1=.loc z.2.2:=by
 unfold jM
 induction Z with
 | nil=>cases h
 | cons x Z ih=>
  rw [N0,OS] at kd
  rw [OT]
  rcases Ov.mp h with rfl|h
  ·rw [decide_eq_true rfl]
  ·have e:decide (x.1=z.1)=false:=decide_eq_false fun e=>kd.1 (by rw [e];exact NZ.mpr ⟨z,h,rfl⟩)
   rw [e]
   exact ih kd.2 h
theorem CI {Z:Zr}(kd:(Z.map (·.1)).Nodup):aE Z=a9 (jM Z) (Z.map (·.1)):=by
 unfold aE a9
 rw [N6]
 exact Oe fun z hz=>by show _=(aK z.1,jM Z z.1);rw [vQ kd hz]
theorem mH {μ:Hm}{a:Nat}{Z:Zr}{Q:D×Hm->Prop}(kd:(Z.map (·.1)).Nodup)(h:μ[a]? = some (.dT (aE Z)))(h1:Z.length<64):W (dR [.loc a] μ) Q↔Q (.loc μ.length,μ++[.lst ((aN (Z.map (·.1))).map PP)]):=by
 rw [CI kd] at h
 exact CB h (by rw [NP];exact h1)
theorem f6 {Z:Zr}(kd:(Z.map (·.1)).Nodup){z:(Int×Int)×List (Int×Int)×Nat}(h:z∈Z):aU (GZ Z) z.1=z.2.1:=jJ (by rw [cG];exact kd) (g:=(z.1,z.2.1)) (NZ.mpr ⟨z,h,rfl⟩)
theorem vT {μ:Hm}{a:Nat}{Z:Zr}(I:HI μ a Z)(hl:∀ z∈Z,z.2.1.length<64){p:Int×Int}(hp:p∈Z.map (·.1))(Q:D×Hm->Prop)(H:Q (.loc μ.length,μ++[.lst ((aN (aU (GZ Z) p)).map PP)])) :
  W (aH (.loc a) (PP p) μ) fun r=>W (eD [r.1] r.2) Q:=by
 obtain ⟨z,hz,rfl⟩:=eW hp
 refine (gS I.dic (cM z.1) (eV I.kd hz)).mpr ((Nd (I.at_ z hz) (hl z hz)).mpr ?_)
 rw [f6 I.kd hz] at H
 exact H
theorem qH {Z:Zr}{d:D}(h:d∈cD (aE Z)):∃ p∈Z.map (·.1),d=PP p:=by
 obtain ⟨kd,hk,rfl⟩:=NZ.mp h
 obtain ⟨z,hz,rfl⟩:=NZ.mp hk
 exact ⟨z.1,NZ.mpr ⟨z,hz,rfl⟩,rfl⟩
theorem vU (Z:Zr):cD (aE Z)=(Z.map (·.1)).map PP:=by
 unfold cD aE
 rw [N6,N6]
 rfl
theorem vV {i:Nat}{ρ:aF}{μ:Hm}{a:Nat}{kvs:List (List Int×D)}(hi:ρ[i]? = some (some (.loc a)))(gF:μ[a]? = some (.dF kvs)):cT (aA i) ρ μ=some (eP (.tup (cD kvs)),kvs.length+1,μ):=by
 simp only [cT,aA,hi,Od,gF]
theorem nX (p:Int×Int):fX (PP p)=p:=rfl
theorem Nj (k:Nat){μ:Hm}{a1 a2:Nat}{Z1 Z2:Zr}(I1:HI μ a1 Z1)(h1:μ[a1]? = some (.dT (aE Z1)))(I2:HI μ a2 Z2)(h2:μ[a2]? = some (.dT (aE Z2)))(l1:Z1.length<64)(l2:Z2.length<64)(m1:∀ z∈Z1,z.2.1.length<64)(m2:∀ z∈Z2,z.2.1.length<64)
  (Q:D×Hm->Prop)(H:∀ μ',μ <+: μ'->Q (.bl (nW (GZ Z1) (GZ Z2)),μ')):W (f (k+1) "_law_due" [.loc a1,.loc a2] μ) Q:=by
 rw [L9,W_fin]
 simp only [bG,gP,fV,aX,bP,aY,aV,aJ,aL]
 refine (mH I1.kd h1 l1).mpr ((mH I2.kd (aO (aQ _ _) h2) l2).mpr ((pY (aO (aQ _ _) (bI _ _)) (bI _ _)).mpr ?_))
 have p2:=(aQ μ (C.lst ((aN (Z1.map (·.1))).map PP))).trans (aQ _ (C.lst ((aN (Z2.map (·.1))).map PP)))
 generalize (μ++[C.lst ((aN (Z1.map (·.1))).map PP)])++[C.lst ((aN (Z2.map (·.1))).map PP)]=μ2 at p2
 simp only [if_true]
 unfold nW at H
 rw [cG,cG] at H
 by_cases hk:(Z1.map (·.1)).Perm (Z2.map (·.1))
 ·have e:(aN (Z1.map (·.1)) == aN (Z2.map (·.1)))=true:=by rw [beq_iff_eq];exact srt_eq.mpr hk
  rw [e]
  simp only [Qr,Ob,if_false,iG,w_mRet,aX]
  rw [decide_eq_true hk,T7] at H
  have J1:=I1.more p2
  have J2:=I2.more p2
  have g1:=aO p2 h1
  refine CH (a:=a1) (kvs:=aE Z1) rfl g1 ?_
  have F1:=J1.frz g1
  have F2:=J2.frz g1
  have gF:(μ2.set a1 (.dF (aE Z1)))[a1]? = some (.dF (aE Z1)):=b9 g1
  refine uZ (xs:=cD (aE Z1)) (p:=fun d=>!(aN (aU (GZ Z1) (fX d)) == aN (aU (GZ Z2) (fX d)))) (v:=fun d=>d) ?_
  rw [vV rfl gF]
  refine W_some.mpr ⟨u3,by rw [cD,NP],by rw [cD,NP,dU,Ox];omega,fun d μ' hd hp=>?_,fun d μ' hd _ hp=>?_,fun μ' hp hg=>?_⟩
  ·obtain ⟨p,hpm,rfl⟩:=qH hd
   simp only [Pz,Ru,fV,aX,bP,aY,aV,aJ,aL]
   refine vT (F1.more hp) m1 hpm _ ?_
   refine vT (F2.more (hp.trans (aQ _ _))) m2 (hk.mem_iff.mp hpm) _ ?_
   refine (pY (aO (aQ _ _) (bI _ _)) (bI _ _)).mpr ⟨?_,(aQ _ _).trans (aQ _ _)⟩
   simp only [if_true,nX]
  ·simp only [Pz,Ru,aJ,aL]
   exact ⟨trivial,QD _⟩
  ·refine ⟨aO hp gF,?_⟩
   have pb:=mE g1 hp
   have hb:(μ2.set a1 (.dF (aE Z1))).length≠a1:=by
    rw [Ou]
    have:=(NS.mp g1).1
    omega
   simp only [jE,aV]
   refine ⟨OW _,(Mz (aO (aQ _ _) (by rw [NR (OB hb)];exact hg)) (bI _ _)).mpr ?_⟩
   have e2:(((cD (aE Z1)).filter fun d=>!(aN (aU (GZ Z1) (fX d)) == aN (aU (GZ Z2) (fX d)))).map fun d=>d).isEmpty=(GZ Z1).all fun g=>aN g.2 == aN (aU (GZ Z2) g.1):=by
    rw [List.map_id',To,List.isEmpty_iff,Qi,Pm]
    constructor
    ·intro w x hx
     obtain ⟨z,hz,rfl⟩:=NZ.mp hx
     have:=w (PP z.1) (by rw [vU];exact NZ.mpr ⟨z.1,NZ.mpr ⟨z,hz,rfl⟩,rfl⟩)
     rw [nX,f6 I1.kd hz] at this
     simpa using this
    ·intro w d hd
     obtain ⟨p,hpm,rfl⟩:=qH hd
     obtain ⟨z,hz,rfl⟩:=eW hpm
     have:=w (z.1,z.2.1) (NZ.mpr ⟨z,hz,rfl⟩)
     rw [nX,f6 I1.kd hz]
     simpa using this
   rw [e2]
   exact H _ (p2.trans (pb.trans (aQ _ _)))
 ·have e:(aN (Z1.map (·.1)) == aN (Z2.map (·.1)))=false:=by
   rw [beq_eq_false_iff_ne]
   exact fun w=>hk (srt_eq.mp w)
  rw [e]
  simp only [Qx,if_true,w_mRet,bO]
  rw [decide_eq_false hk,Sg] at H
  exact H _ p2
theorem Nk (k t:Nat)(F:Int×Int->Ly)(hF:∀ q,Dih (F q))(row qs:List (Int×Int))(hpm:row.Perm qs)(hs:(qs.map aK).Pairwise fun x y=>HT.lexLt y x=false)(hn:1<=qs.length/\qs.length<64)(nd:qs.Nodup){μ:Hm}(ht:μ[t]? = some (.dT (a9 (fun q=>LD (F q)) row)))
  {a:Nat}{Z:Zr}(I:HI μ a Z)(h1:μ[a]? = some (.dT (aE Z)))(l1:Z.length<64)(m1:∀ z∈Z,z.2.1.length<64)(Q:D×Hm->Prop)(H:∀ μ',μ <+: μ'->Q (.bl (jL (c7 (fun q=>bK (F q) q) qs) (GZ Z)),μ')):W (f (k+3) "are_piles" [.loc t,.loc a] μ) Q:=by
 rw [LW,W_fin]
 simp only [bG,bR,bP,aY,aV,aJ,aL]
 refine MQ k t F hF row qs hpm hs hn nd _ (by rw [ht];unfold eU a9;rw [N6];rfl) _ fun b S μ1 J eG=>?_
 have p1:=J.pre
 have I':=I.more p1
 have h1':=aO p1 h1
 have JS:=J.hi
 have lS:S.length<=qs.length:=by
  have:=(Cb (fun q=>bK (F q) q) qs).1
  rw [<- eG,GZ,NP] at this
  exact this
 simp only [NX,NY,gP,fV,aX,bP,aY,aV,aJ,aL]
 refine (mH I.kd h1' l1).mpr ((mH J.kd (aO (aQ _ _) J.dic) (by omega)).mpr ((pY (aO (aQ _ _) (bI _ _)) (bI _ _)).mpr ?_))
 have p2:=(aQ μ1 (C.lst ((aN (Z.map (·.1))).map PP))).trans (aQ _ (C.lst ((aN (S.map (·.1))).map PP)))
 generalize (μ1++[C.lst ((aN (Z.map (·.1))).map PP)])++[C.lst ((aN (S.map (·.1))).map PP)]=μ2 at p2
 simp only [if_true]
 unfold jL at H
 rw [<- eG,cG,cG] at H
 by_cases hk:(Z.map (·.1)).Perm (S.map (·.1))
 ·have e:(aN (Z.map (·.1)) == aN (S.map (·.1)))=true:=by rw [beq_iff_eq];exact srt_eq.mpr hk
  rw [e]
  simp only [Qr,Ob,if_false,iG,w_mRet,bP,aY,aV]
  rw [decide_eq_true hk,T7] at H
  have J1:=I'.more p2
  have J2:=JS.more p2
  have g1:=aO p2 J.dic
  refine CH (a:=b) (kvs:=aE S) rfl g1 ?_
  have F1:=J1.frz g1
  have F2:=J2.frz g1
  have gF:(μ2.set b (.dF (aE S)))[b]? = some (.dF (aE S)):=b9 g1
  refine uZ (xs:=cD (aE S)) (p:=fun _=>true) (v:=fun d=>.bl (aN (aU (GZ Z) (fX d)) == aU (GZ S) (fX d))) ?_
  rw [vV rfl gF]
  refine W_some.mpr ⟨u3,by rw [cD,NP],by rw [cD,NP,dU,Ox];omega,fun d μ' hd hp=>w_mTrue.mpr ⟨rfl,QD _⟩,fun d μ' hd _ hp=>?_,fun μ' hp hg=>?_⟩
  ·obtain ⟨p,hpm,rfl⟩:=qH hd
   simp only [Pz,Ru,aX,bP,aY,aV,aJ,aL]
   refine vT (F1.more hp) m1 (hk.mem_iff.mpr hpm) _ ?_
   obtain ⟨z,hz,rfl⟩:=eW hpm
   have G2:=F2.more (hp.trans (aQ μ' (C.lst ((aN (aU (GZ Z) z.1)).map PP))))
   refine (gS G2.dic (cM z.1) (eV J.kd hz)).mpr ?_
   refine (pY (bI _ _) (G2.at_ z hz)).mpr ⟨?_,aQ _ _⟩
   rw [nX,f6 J.kd hz]
   simp only [Ob,if_false]
  ·refine ⟨aO hp gF,?_⟩
   have pb:=mE g1 hp
   have hb:(μ2.set b (.dF (aE S))).length≠b:=by
    rw [Ou]
    have:=(NS.mp g1).1
    omega
   have e1:((cD (aE S)).filter fun _=>true).map (fun d=>D.bl (aN (aU (GZ Z) (fX d)) == aU (GZ S) (fX d)))=((GZ S).map fun g=>aN (aU (GZ Z) g.1) == g.2).map D.bl:=by
    rw [So.mpr (fun _ _=>rfl),vU,N6,N6]
    show _=UM D.bl (UM _ (S.map fun z=>(z.1,z.2.1)))
    rw [N6,N6]
    refine Oe fun z hz=>?_
    show D.bl (aN (aU (GZ Z) z.1) == aU (GZ S) z.1)=D.bl (aN (aU (GZ Z) z.1) == z.2.1)
    rw [f6 J.kd hz]
   rw [e1] at hg
   refine (LN (by rw [NR (OB hb)];exact hg)).mpr ?_
   have e2:(((GZ S).map fun g=>aN (aU (GZ Z) g.1) == g.2).all id)=(GZ S).all fun g=>aN (aU (GZ Z) g.1) == g.2:=by rw [SH];rfl
   rw [e2]
   exact H _ (p1.trans (p2.trans pb))
 ·have e:(aN (Z.map (·.1)) == aN (S.map (·.1)))=false:=by
   rw [beq_eq_false_iff_ne]
   exact fun w=>hk (srt_eq.mp w)
  rw [e]
  simp only [Qx,if_true,w_mRet,bO]
  rw [decide_eq_false hk,Sg] at H
  exact H _ (p1.trans p2)
noncomputable def nY (Z:Zr)(p:Int×Int):Nat:=match Z.find? (fun z=>decide (z.1=p)) with|some z=>z.2.2|none=>0
theorem CJ {Z:Zr}(kd:(Z.map (·.1)).Nodup){z:(Int×Int)×List (Int×Int)×Nat}(h:z∈Z):nY Z z.1=z.2.2:=by
 have e:=vQ kd h
 unfold jM at e
 unfold nY
 split at e
 ·rename_i y hy
  try rw [hy]
  injection e
 ·cases e
noncomputable def dY (Z:Zr)(ks:List (Int×Int)):Zr:=ks.map fun p=>(p,aU (GZ Z) p,nY Z p)
theorem qI (Z:Zr)(ks:List (Int×Int)):(dY Z ks).map (·.1)=ks:=by
 unfold dY
 rw [N6]
 exact RJ _
theorem qJ {Z:Zr}(kd:(Z.map (·.1)).Nodup){ks:List (Int×Int)}(hk:ks.Perm (Z.map (·.1))){y:(Int×Int)×List (Int×Int)×Nat}(h:y∈dY Z ks):y∈Z:=by
 obtain ⟨p,hp,rfl⟩:=NZ.mp h
 obtain ⟨z,hz,rfl⟩:=eW (hk.mem_iff.mp hp)
 rw [f6 kd hz,CJ kd hz]
 exact hz
theorem Nl {Z:Zr}(kd:(Z.map (·.1)).Nodup){ks:List (Int×Int)}(hk:ks.Perm (Z.map (·.1))):aE (dY Z ks)=a9 (jM Z) ks:=by
 unfold aE dY a9
 rw [N6]
 refine Oe fun p hp=>?_
 obtain ⟨z,hz,rfl⟩:=eW (hk.mem_iff.mp hp)
 show (aK z.1,D.loc (nY Z z.1))=(aK z.1,jM Z z.1)
 rw [CJ kd hz,vQ kd hz]
theorem Nm {Z:Zr}(kd:(Z.map (·.1)).Nodup){ks:List (Int×Int)}(hk:ks.Perm (Z.map (·.1)))(p:Int×Int):aU (GZ (dY Z ks)) p=aU (GZ Z) p:=by
 have kd':((dY Z ks).map (·.1)).Nodup:=by rw [qI];exact hk.nodup_iff.mpr kd
 by_cases h:p∈ks
 ·have hm:(p,aU (GZ Z) p,nY Z p)∈dY Z ks:=NZ.mpr ⟨p,h,rfl⟩
  exact f6 kd' hm
 ·rw [iJ (by rw [cG,qI];exact h),iJ (by rw [cG];exact fun w=>h (hk.mem_iff.mpr w))]
theorem Nn {S G2 G3:Gr}(hk:(G2.map (·.1)).Perm (G3.map (·.1)))(ha:∀ p,aU G2 p=aU G3 p):jL S G2=jL S G3:=by
 unfold jL
 have e:decide ((G2.map (·.1)).Perm (S.map (·.1)))=decide ((G3.map (·.1)).Perm (S.map (·.1))):=decide_eq_decide.mpr ⟨fun w=>hk.symm.trans w,fun w=>hk.trans w⟩
 rw [e]
 simp only [ha]
theorem CK {μ:Hm}{Z:Zr}(kd:(Z.map (·.1)).Nodup)(hat:∀ z∈Z,μ[z.2.2]? = some (.lst (z.2.1.map PP))):∀ Y:Zr,(∀ y∈Y,μ[y.2.2]? = some (.lst (y.2.1.map PP))/\y.1∈Z.map (·.1)/\aU (GZ Z) y.1=y.2.1)->i0 μ (aE Z) (aE Y)=some true
 | [],_=>rfl
 | y::Y,h=>by
  have ih:=CK kd hat Y fun x hx=>h x (Oc _ hx)
  obtain ⟨h1,h2,h3⟩:=h y (Om ..)
  obtain ⟨z,hz,e⟩:=eW h2
  show (match bF (aE Z) (aK y.1) with|none=>some false|some d=>(bZ 8 μ (.loc y.2.2) d).bind fun e=>(i0 μ (aE Z) (aE Y)).map fun b=>e&&b)=some true
  rw [<- e,eV kd hz,ih]
  rw [<- e,f6 kd hz] at h3
  dsimp only
  rw [BJ h1 (hat z hz),h3,beq_self_eq_true]
  rfl
theorem Np {μ:Hm}{a b:Nat}{Y Z:Zr}{Q:D×Hm->Prop}(ha:μ[a]? = some (.dT (aE Y)))(hb:μ[b]? = some (.dT (aE Z)))(hl:Y.length=Z.length)(he:i0 μ (aE Z) (aE Y)=some true):W (fK false (.loc a) (.loc b) μ) Q↔Q (.bl true,μ):=by
 have:fK false (.loc a) (.loc b) μ=some (.bl true,μ):=by
  simp only [fK,ha,hb]
  rw [if_pos (by rw [dU,dU,hl]),he]
  rfl
 rw [this]
 exact W_some
theorem w_eqBl {μ:Hm}{x y:Bool}{Q:D×Hm->Prop}:W (bE false (.bl x) (.bl y) μ) Q↔Q (.bl (x == y),μ):=W_some
theorem Nq (k:Nat)(F:Int×Int->Ly)(hF:∀ q,Dih (F q))(qs:List (Int×Int))(hs:(qs.map aK).Pairwise fun x y=>HT.lexLt y x=false)(hn:1<=qs.length/\qs.length<64)(nd:qs.Nodup){μ:Hm}{w h m:Nat}(hw:μ[w]? = some (.dT (a9 (fun q=>LD (F q)) qs)))
  {Zh Zm:Zr}(Ih:HI μ h Zh)(hh:μ[h]? = some (.dT (aE Zh)))(Im:HI μ m Zm)(hm:μ[m]? = some (.dT (aE Zm)))(P:Pil qs (fun q=>bK (F q) q) (GZ Zh))(lh:Zh.length<64)(lm:Zm.length<64)(mh:∀ z∈Zh,z.2.1.length<64)(mm:∀ z∈Zm,z.2.1.length<64)(n:Int)
  (Q:D×Hm->Prop)(H:∀ μ',μ <+: μ'->Q (.bl true,μ')):W (f (k+4) "_law_told" [.loc w,.loc h,.loc m,.int n] μ) Q:=by
 rw [Mb,W_fin]
 simp only [bG,bR,iH,NX,NY]
 refine Cu (i:=2) (j:=5) (c:=4) (μ0:=μ) (m:=m) (b:=μ.length) (Z:=Zm) rfl rfl rfl (by decide) (by decide) (aQ _ _) (N3 _) (bI _ _) hm Im.kd Im.at_ (by omega) (fun z hz=>by have:=mm z hz;omega) _ fun Z' o μ1 eG J _=>?_
 simp only [NX,NY,bR,bP,aY,aV,aX,aJ,aL,bO]
 refine (eF (by decide) (by decide)).mpr ?_
 have ek:Z'.map (·.1)=Zm.map (·.1):=by rw [<- cG,eG,cG]
 have el:Z'.length=Zm.length:=by
  have:=congrArg OJ ek
  rw [NP,NP] at this
  exact this
 have d1:=J.dic
 rw [CI J.kd] at d1
 refine CF (k+2) μ.length (Z'.map (·.1)) (jM Z') J.kd (by rw [NP];omega) _ μ1 d1 _ fun ks b μ2 hk p2 _ g2=>?_
 simp only [NX,NY,bR,bP,aY,aV,aX,aJ,aL,bO]
 refine CF (k+2) w qs (fun q=>LD (F q)) nd hn.2 n μ2 (aO (J.pre.trans p2) hw) _ fun row b3 μ3 hr p3 _ g3=>?_
 have p03:μ <+: μ3:=J.pre.trans (p2.trans p3)
 have g2':μ3[b]? = some (.dT (aE (dY Z' ks))):=by rw [Nl J.kd hk];exact aO p3 g2
 have J3:=J.more (p2.trans p3)
 have kdr:((dY Z' ks).map (·.1)).Nodup:=by rw [qI];exact hk.nodup_iff.mpr J.kd
 have I3:HI μ3 b (dY Z' ks):=⟨.inl g2',kdr,fun z hz=>(J3.at_ z (qJ J.kd hk hz)).2⟩
 have lr:(dY Z' ks).length=Zm.length:=by
  have:=hk.length_eq
  unfold dY
  rw [NP,this,NP,el]
 have mr:∀ z∈dY Z' ks,z.2.1.length<64:=fun z hz=>by
  have hz':(z.1,z.2.1)∈GZ Zm:=by rw [<- eG];exact NZ.mpr ⟨z,qJ J.kd hk hz,rfl⟩
  obtain ⟨y,hy,e⟩:=NZ.mp hz'
  have:=mm y hy
  injection e with e1 e2
  rw [<- e2]
  exact this
 refine Nk k b3 F hF row qs hr hs hn nd g3 I3 g2' (by omega) mr _ fun μ4 p4=>?_
 have e5:jL (c7 (fun q=>bK (F q) q) qs) (GZ (dY Z' ks))=nW (GZ Zh) (GZ Zm):=by
  rw [Nn (G3:=GZ Zm) (by rw [cG,qI,<- eG,cG];exact hk) (fun p=>by rw [Nm J.kd hk,eG]),Ni hs P]
 rw [e5]
 have p04:=p03.trans p4
 simp only [NX,NY,w_mRet,BE,bP,aY,aV,aX,aJ,aL,bO,LM,if_true]
 refine Nj (k+2) (Ih.more p04) (aO p04 hh) (Im.more p04) (aO p04 hm) lh lm mh mm _ fun μ5 p5=>?_
 refine w_eqBl.mpr ?_
 simp only [beq_self_eq_true,if_true]
 have p05:=p04.trans p5
 have I5:=I3.more (p4.trans p5)
 have M5:=Im.more p05
 refine (Np (aO (p4.trans p5) g2') (aO p05 hm) lr (CK Im.kd M5.at_ _ fun y hy=>⟨I5.at_ y hy,?_,?_⟩)).mpr (H _ p05)
 ·rw [<- ek]
  exact NZ.mpr ⟨y,qJ J.kd hk hy,rfl⟩
 ·rw [<- eG]
  exact f6 J.kd (qJ J.kd hk hy)
theorem aZ {t:MT}{A C:MS}{ρ:aF}{μ:Hm}{Q:D×Hm->Prop}(h:t ρ μ=some (false,μ))(k:W (aS (C ρ μ)) Q):W (aS (aG (bS t A b6) C ρ μ)) Q:=BR h (fun e=>by cases e) fun _=>k
theorem jN {t:MT}{A C:MS}{ρ:aF}{μ:Hm}{Q:D×Hm->Prop}(h:t ρ μ=some (true,μ))(k:W (A ρ μ) fun p=>p.1=.nx/\p.2.1=ρ/\W (aS (C ρ p.2.2)) Q):W (aS (aG (bS t A b6) C ρ μ)) Q:=BR h (fun _=>by
 obtain ⟨⟨fl,ρ',μ'⟩,e,rfl,rfl,k⟩:=k
 unfold aG
 rw [e]
 exact k) fun e=>by cases e
theorem GI.mut {μ0 μ:Hm}{a:Nat}{Z:Zr}(I:GI μ0 μ a Z){z:(Int×Int)×List (Int×Int)×Nat}(hz:z∈Z)(L:List (Int×Int)) :
  GI μ0 (μ.set z.2.2 (.lst (L.map PP))) a (Z.map fun y=>if y.1=z.1 then (y.1,L,y.2.2) else y):=by
 have ek:(Z.map fun y=>if y.1=z.1 then (y.1,L,y.2.2) else y).map (·.1)=Z.map (·.1):=by
  rw [N6]
  refine Oe fun y _=>?_
  show (if y.1=z.1 then (y.1,L,y.2.2) else y).1=y.1
  split<;>rfl
 have eb:(Z.map fun y=>if y.1=z.1 then (y.1,L,y.2.2) else y).map (·.2.2)=Z.map (·.2.2):=by
  rw [N6]
  refine Oe fun y _=>?_
  show (if y.1=z.1 then (y.1,L,y.2.2) else y).2.2=y.2.2
  split<;>rfl
 have ev:aE (Z.map fun y=>if y.1=z.1 then (y.1,L,y.2.2) else y)=aE Z:=by
  unfold aE
  rw [N6]
  refine Oe fun y _=>?_
  show (aK (if y.1=z.1 then (y.1,L,y.2.2) else y).1,D.loc (if y.1=z.1 then (y.1,L,y.2.2) else y).2.2)=_
  split<;>rfl
 refine ⟨c6 I.pre (I.at_ z hz).1 _,I.lo,?_,by rw [ek];exact I.kd,by rw [eb];exact I.bd,fun y hy=>?_⟩
 ·rw [ev,NR (I.ne hz)]
  exact I.dic
 ·obtain ⟨x,hx,rfl⟩:=NZ.mp hy
  obtain ⟨l1,l2⟩:=I.at_ x hx
  by_cases e:x.1=z.1
  ·have:x=z:=B5 I.kd hx hz e
   subst this
   rw [if_pos rfl]
   exact ⟨l1,b9 l2⟩
  ·rw [if_neg e]
   refine ⟨l1,?_⟩
   rw [NR fun w=>e (by rw [B6 I.bd hx hz w.symm])]
   exact l2
noncomputable def nZ (μ0 μ:Hm)(b:Nat):Prop:=μ0 <+: μ/\∃ Z,HI μ b Z/\μ[b]? = some (.dT (aE Z))/\Z.length<=41/\∀ z∈Z,z.2.1.length<=41
theorem GI.spo {μ0 μ:Hm}{b:Nat}{Z:Zr}(I:GI μ0 μ b Z)(h1:Z.length<=41)(h2:∀ z∈Z,z.2.1.length<=41):nZ μ0 μ b:=⟨I.pre,Z,I.hi,I.dic,h1,h2⟩
theorem GI.mspo {μ0 μ:Hm}{b:Nat}{Z:Zr}(I:GI μ0 μ b Z)(h1:Z.length<=40)(h2:∀ z∈Z,z.2.1.length<=40){z:(Int×Int)×List (Int×Int)×Nat}(hz:z∈Z){L:List (Int×Int)}(hL:L.length<=41):nZ μ0 (μ.set z.2.2 (.lst (L.map PP))) b:=by
 refine (I.mut hz L).spo (by rw [NP];omega) fun y hy=>?_
 obtain ⟨x,hx,rfl⟩:=NZ.mp hy
 have:=h2 x hx
 split
 ·exact hL
 ·omega
theorem Nr {μ:Hm}{a:Nat}{L:List (Int×Int)}(hL:L≠[]){Q:D×Hm->Prop}(h:μ[a]? = some (.lst (L.map PP)))(H:∀ d,Q (d,μ.set a (.lst (L.dropLast.map PP)))):W (j7 (.loc a) [] μ) Q:=by
 have hp:0<L.length:=Qd.mpr hL
 have e:(L.map PP)[(L.map PP).length - 1]? = some (PP (L[L.length - 1]'(by omega))):=by
  rw [Ol,NP,N9 (by omega)]
  rfl
 have:j7 (.loc a) [] μ=some (PP (L[L.length - 1]'(by omega)),μ.set a (.lst (L.dropLast.map PP))):=by
  simp only [j7,h,e,Oy]
  rw [List.map_dropLast]
 rw [this]
 exact W_some.mpr (H _)
theorem Nt {μ:Hm}{a:Nat}{kvs:List (List Int×D)}{y d:D}{k:List Int}{Q:D×Hm->Prop}(h:μ[a]? = some (.dT kvs))(hk:cK y=some k)(hv:bF kvs k=some d):W (kM (.loc a) [y] μ) Q↔Q (d,μ.set a (.dT (i7 kvs k))):=by
 have:kM (.loc a) [y] μ=some (d,μ.set a (.dT (i7 kvs k))):=by
  simp only [kM,h,hk,Od,hv,Oy]
 rw [this]
 exact W_some
theorem Nu {Z:Zr}{p:Int×Int}:i7 (aE Z) (aK p)=aE (Z.filter fun z=>!decide (z.1=p)):=by
 unfold i7 aE
 rw [List.filter_map]
 congr 2
 funext z
 show (!decide (aK z.1=aK p)) = !decide (z.1=p)
 congr 1
 exact decide_eq_decide.mpr ⟨iI,fun e=>by rw [e]⟩
theorem Nv (L:List (Int×Int))(i:Nat)(q:Int×Int):dA (L.map PP) i (PP q)=(dA L i q).map PP:=by
 unfold dA
 simp [Su,Wn]
theorem n4 {L:List (Int×Int)}{i:Int}{q:Int×Int}{j:Nat}(hj:dI L.length i=some j)(hq:L[j]? = some q):atI (L.map PP) i=some (PP q):=by
 unfold atI
 rw [NP,hj,Od,Ol,hq]
 rfl
theorem vW {n:Nat}(h:0<n):dI n 0=some 0:=by
 unfold dI
 rw [if_pos (by decide),if_pos (by omega)]
 rfl
theorem CL {n:Nat}(h:0<n):dI n (-1)=some (n - 1):=by
 unfold dI
 rw [if_neg (by decide),if_pos (by omega)]
 congr 1
 omega
theorem Nw (k:Nat){μ:Hm}{h:Nat}{Z:Zr}(I:HI μ h Z)(hh:μ[h]? = some (.dT (aE Z)))(l1:1<=Z.length/\Z.length<=40)(m1:∀ z∈Z,1<=z.2.1.length/\z.2.1.length<=40)(n:Int)(hn:0<=n)(Q:D×Hm->Prop)(H:∀ b μ',nZ μ μ' b->Q (.loc b,μ')) :
  W (f (k+1) "_law_other" [.loc h,.int n] μ) Q:=by
 rw [L8]
 refine W_fin.mpr ?_
 rw [bG]
 simp only [bR,iH,NX,NY]
 rw [bG]
 refine Cu (i:=0) (j:=3) (c:=2) (μ0:=μ) (m:=h) (b:=μ.length) (Z:=Z) rfl rfl rfl (by decide) (by decide) (aQ _ _) (N3 _) (bI _ _) hh I.kd I.at_ (by omega) (fun z hz=>by have:=m1 z hz;omega) _ fun Z' o μ1 eG J _=>?_
 simp only [NX,NY]
 have ek:Z'.map (·.1)=Z.map (·.1):=by rw [<- cG,eG,cG]
 have el:Z'.length=Z.length:=by
  have:=congrArg OJ ek
  rw [NP,NP] at this
  exact this
 have m':∀ z∈Z',1<=z.2.1.length/\z.2.1.length<=40:=fun z hz=>by
  have hz':(z.1,z.2.1)∈GZ Z:=by rw [<- eG];exact NZ.mpr ⟨z,hz,rfl⟩
  obtain ⟨y,hy,e⟩:=NZ.mp hz'
  have:=m1 y hy
  injection e with e1 e2
  rw [<- e2]
  exact this
  -- the two places
 have hp0:0<(aN (Z.map (·.1))).length:=by rw [CG,NP];omega
 have pick:∀ t:Int,∃ p,p∈Z.map (·.1)/\atI ((aN (Z.map (·.1))).map PP) (t % ((aN (Z.map (·.1))).length:Int))=some (PP p):=fun t=>by
  have h1:=Qp t (show ((aN (Z.map (·.1))).length:Int)≠0 by omega)
  have h2:=P0 t (show 0<((aN (Z.map (·.1))).length:Int) by omega)
  have h3:(t % ((aN (Z.map (·.1))).length:Int)).toNat<(aN (Z.map (·.1))).length:=by omega
  refine ⟨(aN (Z.map (·.1)))[(t % ((aN (Z.map (·.1))).length:Int)).toNat]'h3,(fZ _).mem_iff.mp (RS _),n4 (u6 h1 h2) (N9 h3)⟩
 rw [bG]
 simp only [bR,bP,aY,aV,aJ,aL]
 refine (mH I.kd (aO J.pre hh) (by omega)).mpr ?_
 have p2:=aQ μ1 (C.lst ((aN (Z.map (·.1))).map PP))
 have g2:=bI μ1 (C.lst ((aN (Z.map (·.1))).map PP))
 have J2:=J.more p2
 generalize μ1++[C.lst ((aN (Z.map (·.1))).map PP)]=μ2 at p2 g2 J2
 have I2:=I.more J2.pre
 obtain ⟨p,hp,ep⟩:=pick (n / 8)
 obtain ⟨q,hq,eq⟩:=pick (n / 512)
 simp only [NX,NY]
 rw [bG]
 simp only [bR,aX,bP,aY,aV,aJ,aL,bO]
 refine (eF (by decide) (by decide)).mpr ((nS g2).mpr ((dC (by rw [NP];omega)).mpr ?_))
 rw [NP]
 refine (jG g2 ep).mpr ?_
 simp only [NX,NY]
 rw [bG]
 simp only [bR,aX,bP,aY,aV,aJ,aL,bO]
 refine (eF (by decide) (by decide)).mpr ((nS g2).mpr ((dC (by rw [NP];omega)).mpr ?_))
 rw [NP]
 refine (jG g2 eq).mpr ?_
 simp only [NX,NY]
 rw [bG]
 simp only [bR,aX,bP,aY,aV,aJ,aL,bO]
 refine (dC (by decide)).mpr ?_
 simp only [NX,NY]
 rw [<- W_fin]
 have hu:n % 8=0\/n % 8=1\/n % 8=2\/n % 8=3\/n % 8=4\/n % 8=5\/n % 8=6\/n % 8=7:=by omega
 obtain ⟨z,hz,rfl⟩:=eW (ek ▸ hp:p∈Z'.map (·.1))
 obtain ⟨y,hy,rfl⟩:=eW hq
 have gz:=(J2.at_ z hz).2
 have iz:∀ Q:D×Hm->Prop,Q (.loc z.2.2,μ2)->W (aH (.loc μ.length) (PP z.1) μ2) Q:=fun Q h=>(gS (.inl J2.dic) (cM z.1) (eV J2.kd hz)).mpr h
 have iy:∀ Q:D×Hm->Prop,Q (.loc y.2.2,μ2)->W (aH (.loc h) (PP y.1) μ2) Q:=fun Q h=>(gS I2.dic (cM y.1) (eV I2.kd hy)).mpr h
 have gy:=I2.at_ y hy
 obtain ⟨mz1,mz2⟩:=m' z hz
 obtain ⟨my1,my2⟩:=m1 y hy
 have zne:z.2.1≠[]:=Qd.mp (by omega)
 have zs:(z.2.1.map PP).length<N4:=by rw [NP,Ox];omega
 have m2:∀ z∈Z',z.2.1.length<=40:=fun z hz=>(m' z hz).2
 have fin':∀ {L:List (Int×Int)},L.length<=41->nZ μ (μ2.set z.2.2 (.lst (L.map PP))) μ.length:=fun hL=>J2.mspo (by omega) m2 hz hL
 have y0:y.2.1[0]? = some (y.2.1[0]'(by omega)):=N9 _
 have yl:y.2.1[y.2.1.length - 1]? = some (y.2.1[y.2.1.length - 1]'(by omega)):=N9 _
 have z0:z.2.1[0]? = some (z.2.1[0]'(by omega)):=N9 _
 rcases hu with e|e|e|e|e|e|e|e<;>rw [e]
 ·refine jN rfl ?_
  simp only [jD]
  refine kS ?_
  simp only [aX,aJ,aL,aV]
  refine iz _ ⟨jH gz,(CC gz).mpr ⟨trivial,trivial,?_⟩⟩
  rw [<- S4]
  exact aZ rfl (aZ rfl (aZ rfl (aZ rfl (aZ rfl (aZ rfl (aZ rfl ⟨_,rfl,H _ _ (fin' (by rw [QR];omega))⟩))))))
 ·refine aZ rfl (jN rfl ?_)
  simp only [jD]
  refine kS ?_
  simp only [aX,aJ,aL,aV]
  refine iz _ ⟨jH gz,Nr zne gz fun d=>⟨trivial,trivial,?_⟩⟩
  exact aZ rfl (aZ rfl (aZ rfl (aZ rfl (aZ rfl (aZ rfl ⟨_,rfl,H _ _ (fin' (by rw [UN];omega))⟩)))))
 ·refine aZ rfl (aZ rfl (jN rfl ?_))
  simp only [jD]
  refine kS ?_
  simp only [aX,aJ,aL,aV,aY,bP,bO]
  refine iz _ ⟨jH gz,(eF (by decide) (by decide)).mpr (iz _ ((nS gz).mpr ?_))⟩
  simp only [dS]
  refine (dC (by omega)).mpr (iz _ ((jG gz (n4 (vW (by omega)) z0)).mpr ?_))
  rw [NP]
  have h1:=Qp (n / 64) (show ((z.2.1.length:Int)+1)≠0 by omega)
  have h2:=P0 (n / 64) (show 0<((z.2.1.length:Int)+1) by omega)
  refine (LQ gz h1 (by omega) zs).mpr ⟨trivial,trivial,?_⟩
  rw [Nv]
  refine aZ rfl (aZ rfl (aZ rfl (aZ rfl (aZ rfl ⟨_,rfl,H _ _ (fin' ?_)⟩))))
  unfold dA
  rw [Oa,OP,OL,QH]
  omega
 ·refine aZ rfl (aZ rfl (aZ rfl (jN rfl ?_)))
  simp only [jD]
  refine vE ?_
  simp only [aX,aJ,aL,aV,aY]
  refine ⟨vF J2.dic,(Nt J2.dic (cM z.1) (eV J2.kd hz)).mpr ⟨trivial,trivial,?_⟩⟩
  rw [Nu]
  refine aZ rfl (aZ rfl (aZ rfl (aZ rfl ⟨_,rfl,H _ _ ?_⟩)))
  have sb:(Z'.filter fun y=>!decide (y.1=z.1)).Sublist Z':=QV
  have gb:(μ2.set μ.length (.dT (aE (Z'.filter fun y=>!decide (y.1=z.1)))))[μ.length]? = some (.dT (aE (Z'.filter fun y=>!decide (y.1=z.1)))):=b9 J2.dic
  refine ⟨c6 J2.pre J2.lo _,_,⟨.inl gb,(sb.map _).nodup J2.kd,fun x hx=>?_⟩,gb,OU sb.length_le (by omega),fun x hx=>by have:=m2 x (sb.subset hx);omega⟩
  rw [NR (OB (J2.ne (sb.subset hx)))]
  exact (J2.at_ x (sb.subset hx)).2
 ·refine aZ rfl (aZ rfl (aZ rfl (aZ rfl (jN rfl ?_))))
  simp only [fM,jE,aV,aJ,aL,fL,aY,aX,bO,uR,uS]
  refine ⟨OW _,(eF (by decide) (by decide)).mpr ((dC (by decide)).mpr ?_)⟩
  simp only [dS,qA,fW,true_and]
  have J3:=J2.more (aQ μ2 (C.lst []))
  have g3:(μ2++[C.lst []])[μ2.length]? = some (.lst (([]:List (Int×Int)).map PP)):=bI _ _
  have old:∀ x∈Z',x.2.2≠μ2.length:=fun x hx=>Oh (NS.mp (J2.at_ x hx).2).1
  generalize hk:(z.1.1+4 * (1+n / 64 % 50),z.1.2)=kk
  have hk':cK (D.tup [.int (z.1.1+4 * (1+n / 64 % 50)),.int z.1.2])=some (aK kk):=by rw [<- hk];rfl
  refine (gQ J3.dic hk' (by rw [dU,Ox];omega)).mpr ?_
  refine aZ rfl (aZ rfl (aZ rfl ⟨_,rfl,H _ _ ?_⟩))
  by_cases hin:kk∈Z'.map (·.1)
  ·obtain ⟨x,hx,ex⟩:=eW hin
   rw [<- ex]
   refine (J3.swap hx g3 (J2.pre.length_le) old).spo (by rw [NP];omega) fun y' hy'=>?_
   obtain ⟨x',hx',rfl⟩:=NZ.mp hy'
   have:=m2 x' hx'
   split
   ·simp
   ·omega
  ·refine (J3.new hin g3 (J2.pre.length_le) old).spo (by rw [Oa,Ph];omega) fun y' hy'=>?_
   rcases O2.mp hy' with hy'|hy'
   ·have:=m2 y' hy'
    omega
   ·rw [OC.mp hy'];simp
 ·refine aZ rfl (aZ rfl (aZ rfl (aZ rfl (aZ rfl (jN rfl ?_)))))
  simp only [jD]
  refine kS ?_
  simp only [aX,aJ,aL,aV,aY,bP,bO,uP]
  refine iz _ ⟨jH gz,iy _ ((jG gy (n4 (CL (by omega)) yl)).mpr ((pZ gz zs).mpr ⟨trivial,trivial,?_⟩))⟩
  have em:z.2.1.map PP++[PP (y.2.1[y.2.1.length - 1]'(by omega))]=(z.2.1++[y.2.1[y.2.1.length - 1]'(by omega)]).map PP:=by rw [OE];rfl
  rw [em]
  exact aZ rfl (aZ rfl ⟨_,rfl,H _ _ (fin' (by rw [Oa,Ph];omega))⟩)
 ·refine aZ rfl (aZ rfl (aZ rfl (aZ rfl (aZ rfl (aZ rfl (jN rfl ?_))))))
  simp only [fM,aX,aJ,aL,bO]
  refine iy _ ((jG gy (n4 (vW (by omega)) y0)).mpr (iz _ ((BP gz (by rw [NP];exact vW (by omega))).mpr ⟨trivial,trivial,?_⟩)))
  rw [<- WA]
  exact aZ rfl ⟨_,rfl,H _ _ (fin' (by rw [Ou];omega))⟩
 ·refine aZ rfl (aZ rfl (aZ rfl (aZ rfl (aZ rfl (aZ rfl (aZ rfl (jN rfl ?_)))))))
  simp only [fM,fL,aY,aV,aX,aJ,aL,bO,uP,uR,uS]
  refine (eF (by decide) (by decide)).mpr ((dC (by decide)).mpr ?_)
  simp only [qA,dS,fW,true_and]
  refine iz _ ((BP gz (by rw [NP];exact CL (by omega))).mpr ?_)
  have em:(z.2.1.map PP).set (z.2.1.length - 1) (D.tup [.int (z.1.1+4 * (n / 64 % 3)),.int (z.1.2+400)])=(z.2.1.set (z.2.1.length - 1) (z.1.1+4 * (n / 64 % 3),z.1.2+400)).map PP:=by rw [WA]
  rw [em]
  exact ⟨_,rfl,H _ _ (fin' (by rw [Ou];omega))⟩
theorem Nx {K:List (List Int×D)}{k:List Int}{d:D}(h:bF K k=none):cS K k d=K++[(k,d)]:=by
 unfold cS
 rw [h,if_neg (by simp)]
theorem Ny {K:List (List Int×D)}{k:List Int}{d e:D}(h:bF K k=none):cS (K++[(k,d)]) k e=K++[(k,e)]:=by
 have hn:∀ p∈K,p.1≠k:=fun p hp w=>by
  unfold bF at h
  rw [Option.map_eq_none_iff,Sy] at h
  exact h p hp (decide_eq_true w)
 have hs:(bF (K++[(k,d)]) k).isSome=true:=by
  unfold bF
  rw [RG,List.find?_isSome]
  exact ⟨(k,d),O2.mpr (.inr (OC.mpr rfl)),decide_eq_true rfl⟩
 unfold cS
 rw [if_pos hs,OE]
 have:(K.map fun p=>if p.1=k then (p.1,e) else p)=K:=by
  have w:(K.map fun p=>if p.1=k then (p.1,e) else p)=K.map id:=Oe fun p hp=>if_neg (hn p hp)
  rw [w,RJ]
 rw [this]
 simp
noncomputable def dE (u n:Int)(a:Bool)(p:Int×Int):Bool:=decide (n<nT u p) == a
noncomputable def cR (u n:Int)(a:Bool)(F:Int×Int->Ly)(q:Int×Int):Ly:=if dE u n a (bK (F q) q) then mD (F q) (cH u n) else F q
theorem Nz {u n:Int}{a:Bool}{F:Int×Int->Ly}(hF:∀ q,Dih (F q))(q:Int×Int):Dih (cR u n a F q):=by
 unfold cR
 split
 ·exact Mm (hF q) (vG u n)
 ·exact hF q
theorem NA (u n:Int)(a:Bool)(F:Int×Int->Ly)(q:Int×Int):bK (cR u n a F q) q=if dE u n a (bK (F q) q) then bK (cH u n) (bK (F q) q) else bK (F q) q:=by
 unfold cR
 split
 ·rw [Mj]
 ·rfl
theorem NB (k:Nat){μ0 μ:Hm}{w h b:Nat}{u n:Int}{a o:Bool}(hu:0<=u/\u<4){F:Int×Int->Ly}(hF:∀ q,Dih (F q)){qs:List (Int×Int)}(nd:qs.Nodup)(hl:qs.length<=100){x6 x7 x11 x12 x13:Option D}{m2:MS}
  (pre:μ0 <+: μ)(lo:μ0.length<=b)(hw:μ0[w]? = some (.dT (a9 (fun q=>LD (F q)) qs)))(gb:μ[b]? = some (.dT []))(Q:Fl×aF×Hm->Prop)
  (H:∀ x μ',μ0 <+: μ'->μ.length<=μ'.length->μ'[b]? = some (.dT (a9 (fun q=>LD (cR u n a F q)) qs))->(∀ c y,μ0.length<=c->c≠b->μ[c]? = some y->μ'[c]? = some y)->Q (.nx,[some (.loc w),some (.loc h),some (.int u),some (.int n),some (.bl a),some (.bl o),x6,x7,some (LD (cH u n)),some (.loc b),x,x11,x12,x13],μ')) :
  W (dB 0 (cB (cT (aA 0)) (b7 10) (aG (bW (aA 9) (aA 10) (aB aH (aA 0) (aA 10))) (bS (bC (aB (bE false) (aB fC (aM (f (k+1) "_law_value") (aC (aM (f (k+1) "_law_led") (aC (aB aH (aA 0) (aA 10)) (aC (aA 10) aD))) (aC (aA 2) aD))) (aA 3)) (aA 4))) (bW (aA 9) (aA 10) (aM (f (k+1) "_law_then") (aC (aB aH (aA 0) (aA 10)) (aC (aA 8) aD)))) b6))) m2
   [some (.loc w),some (.loc h),some (.int u),some (.int n),some (.bl a),some (.bl o),x6,x7,some (LD (cH u n)),some (.loc b),none,x11,x12,x13] μ) Q:=by
 have hwl:w<μ0.length:=(NS.mp hw).1
 have hm':=aO pre hw
 have hpF:μ0.set w (.dF (a9 (fun q=>LD (F q)) qs)) <+: μ.set w (.dF (a9 (fun q=>LD (F q)) qs)):=by
  obtain ⟨t,rfl⟩:=pre
  rw [Ro _ _ hwl]
  exact RE _ _
 have gF:(μ0.set w (.dF (a9 (fun q=>LD (F q)) qs)))[w]? = some (.dF (a9 (fun q=>LD (F q)) qs)):=b9 hw
 refine qF rfl hm' (fun i ρ' μ'=>∃ x,ρ'=[some (.loc w),some (.loc h),some (.int u),some (.int n),some (.bl a),some (.bl o),x6,x7,some (LD (cH u n)),some (.loc b),x,x11,x12,x13]/\μ0.set w (.dF (a9 (fun q=>LD (F q)) qs)) <+: μ'/\μ.length<=μ'.length /\
  μ'[b]? = some (.dT (a9 (fun q=>LD (cR u n a F q)) (qs.take i)))/\∀ c y,μ0.length<=c->c≠b->μ[c]? = some y->μ'[c]? = some y) ⟨none,rfl,hpF,by simp,by rw [NR (by omega)];exact gb,fun c y hc _ e=>by rw [NR (by omega)];exact e⟩ ?_ ?_
 ·rintro i kk d ρ' μ' hk ⟨x,rfl,p1,ln,g1,kp⟩
  unfold a9 at hk
  rw [Ol] at hk
  obtain ⟨q,hq,e⟩:=NU.mp hk
  cases e
  have hqm:q∈qs:=OX hq
  have hil:i<qs.length:=(NS.mp hq).1
  have ew:D.tup ((aK q).map D.int)=PP q:=rfl
  simp only [NX,NY,ew]
  have it:∀ {ν:Hm}{Q:D×Hm->Prop},μ0.set w (.dF (a9 (fun q=>LD (F q)) qs)) <+: ν->Q (LD (F q),ν)->W (aH (.loc w) (PP q) ν) Q:=fun hp h=>(gS (.inr (aO hp gF)) (cM q) (Cy nd hqm)).mpr h
  have vn:bF (a9 (fun q=>LD (cR u n a F q)) (qs.take i)) (aK q)=none:=Cz (nV nd hq)
  rw [bG]
  simp only [fM,aX,aJ,aL]
  refine it p1 ((gQ g1 (cM q) (by rw [NP,OP,Ox];omega)).mpr ?_)
  rw [Nx vn]
  have p2:μ0.set w (.dF (a9 (fun q=>LD (F q)) qs)) <+: μ'.set b (.dT (a9 (fun q=>LD (cR u n a F q)) (qs.take i)++[(aK q,LD (F q))])):=c6 p1 (by rw [Ou];exact lo) _
  have g2:(μ'.set b (.dT (a9 (fun q=>LD (cR u n a F q)) (qs.take i)++[(aK q,LD (F q))])))[b]? = some (.dT (a9 (fun q=>LD (cR u n a F q)) (qs.take i)++[(aK q,LD (F q))])):=b9 g1
  have kp2:∀ c y,μ0.length<=c->c≠b->μ[c]? = some y->(μ'.set b (.dT (a9 (fun q=>LD (cR u n a F q)) (qs.take i)++[(aK q,LD (F q))])))[c]? = some y:=fun c y h1 h2 e=>by rw [NR (OB h2)];exact kp c y h1 h2 e
  have ln2:μ.length<=(μ'.set b (.dT (a9 (fun q=>LD (cR u n a F q)) (qs.take i)++[(aK q,LD (F q))]))).length:=by rw [Ou];exact ln
  generalize μ'.set b (.dT (a9 (fun q=>LD (cR u n a F q)) (qs.take i)++[(aK q,LD (F q))]))=μ2 at p2 g2 kp2 ln2
  simp only [gP,fV,aX,bP,aY,aV,aJ,aL]
  refine it p2 ((Cp k (F q) (hF q) q _ _).mpr ?_)
  refine qD k _ u hu _ _ fun μ3 p3=>?_
  simp only [uQ]
  refine w_eqBl.mpr ?_
  have g3:=aO p3 g2
  have et:a9 (fun q=>LD (cR u n a F q)) (qs.take (i+1))=a9 (fun q=>LD (cR u n a F q)) (qs.take i)++[(aK q,LD (cR u n a F q))]:=by
   unfold a9
   rw [kT hq,OE]
   rfl
  have hmv:dE u n a (bK (F q) q)=(decide (n<nT u (bK (F q) q)) == a):=rfl
  rw [<- hmv]
  cases hc:dE u n a (bK (F q) q) with
  | true=>
   simp only [if_true,fM,bP,aY,aV,aX,aJ,aL]
   refine it (p2.trans p3) ((MZ k (F q) (cH u n) (hF q) (vG u n) _ _).mpr ?_)
   refine (gQ g3 (cM q) (by rw [Oa,NP,OP,Ph,Ox];omega)).mpr ?_
   rw [Ny vn]
   refine ⟨trivial,some (PP q),rfl,c6 (p2.trans p3) (by rw [Ou];exact lo) _,by rw [Ou];exact OU ln2 p3.length_le,?_,fun c y h1 h2 e=>?_⟩
   ·rw [b9 g3,et]
    unfold cR
    rw [if_pos hc]
   ·rw [NR (OB h2)]
    exact aO p3 (kp2 c y h1 h2 e)
  | false=>
   simp only [Ob,if_false,iG]
   refine ⟨trivial,some (PP q),rfl,p2.trans p3,OU ln2 p3.length_le,?_,fun c y h1 h2 e=>aO p3 (kp2 c y h1 h2 e)⟩
   rw [g3,et]
   have:cR u n a F q=F q:=by
    unfold cR
    rw [if_neg (by rw [hc];exact OI)]
   rw [this]
 ·rintro ρ' μ' ⟨x,rfl,p1,ln,g1,kp⟩
  refine ⟨aO p1 gF,H x _ (mE hw p1) (by rw [Ou];exact ln) ?_ fun c y h1 h2 e=>?_⟩
  ·rw [NR (by omega),g1,NP,RP]
  ·rw [NR (by omega)]
   exact kp c y h1 h2 e
theorem HI.put {μ:Hm}{s b:Nat}{Z:Zr}(I:HI μ s Z)(hs:μ[s]? = some (.dT (aE Z))){p:Int×Int}{L:List (Int×Int)}(hb:μ[b]? = some (.lst (L.map PP))) :
  ∃ Z',cS (aE Z) (aK p) (.loc b)=aE Z'/\GZ Z'=cX (GZ Z) p L/\HI (μ.set s (.dT (aE Z'))) s Z':=by
 have bs:b≠s:=fun e=>by rw [e,hs] at hb;cases hb
 have kdG:((GZ Z).map (·.1)).Nodup:=by rw [cG];exact I.kd
 by_cases hp:p∈Z.map (·.1)
 ·refine ⟨Z.map fun y=>if y.1=p then (y.1,L,b) else y,B8 hp I.kd,?_,.inl (b9 hs),?_,fun y hy=>?_⟩
  ·unfold cX
   rw [cG,if_pos (OQ.mpr hp)]
   unfold GZ
   rw [N6,N6]
   refine Oe fun z _=>?_
   show ((if z.1=p then (z.1,L,b) else z).1,(if z.1=p then (z.1,L,b) else z).2.1)=if z.1=p then (z.1,L) else (z.1,z.2.1)
   split<;>rfl
  ·have e:(Z.map fun y=>if y.1=p then (y.1,L,b) else y).map (·.1)=Z.map (·.1):=by
    rw [N6]
    refine Oe fun y _=>?_
    show (if y.1=p then (y.1,L,b) else y).1=y.1
    split<;>rfl
   rw [e]
   exact I.kd
  ·obtain ⟨x,hx,rfl⟩:=NZ.mp hy
   split
   ·rw [NR (OB bs)];exact hb
   ·rw [NR (OB (I.ne (.inl hs) hx))];exact I.at_ x hx
 ·refine ⟨Z++[(p,L,b)],B7 hp,?_,.inl (b9 hs),?_,fun y hy=>?_⟩
  ·unfold cX
   rw [cG,if_neg (fun w=>hp (OQ.mp w))]
   unfold GZ
   rw [OE]
   rfl
  ·rw [OE,Qw]
   exact ⟨I.kd,by simp,fun x hx y hy e=>by
    simp only [N0,QF,OC] at hy
    rw [e,hy] at hx
    exact hp hx⟩
  ·rcases O2.mp hy with hy|hy
   ·rw [NR (OB (I.ne (.inl hs) hy))];exact I.at_ y hy
   ·rw [OC.mp hy,NR (OB bs)];exact hb
theorem HI.off {μ:Hm}{a s:Nat}{Z:Zr}{kvs:List (List Int×D)}(I:HI μ a Z)(hs:μ[s]? = some (.dT kvs))(h:a≠s)(c:C):HI (μ.set s c) a Z:=by
 refine ⟨?_,I.kd,fun z hz=>by rw [NR (OB (I.ne (.inl hs) hz))];exact I.at_ z hz⟩
 unfold Dc
 rw [NR (OB h)]
 exact I.dic
theorem vX {G:Gr}{p:Int×Int}{L:List (Int×Int)}(h:p∉G.map (·.1)):cX G p L=G++[(p,L)]:=by
 unfold cX
 rw [if_neg (fun w=>h (OQ.mp w))]
theorem CM (mv:Int×Int->Bool)(G:Gr)(g:(Int×Int)×List (Int×Int)):fP mv (G++[g])=if mv g.1 then fP mv G else fP mv G++[g]:=by
 unfold fP
 rw [PY]
 cases h:mv g.1<;>simp [h]
theorem CN (mv:Int×Int->Bool)(M:Int×Int->Int×Int)(G:Gr)(g:(Int×Int)×List (Int×Int)):dW mv M (G++[g])=if mv g.1 then dW mv M G++[(M g.1,g.2.reverse)] else dW mv M G:=by
 unfold dW
 rw [PY,OE]
 cases h:mv g.1<;>simp [h]
theorem NC (k:Nat){μ0 μ:Hm}{w h s g:Nat}{u n:Int}{a o:Bool}(hu:0<=u/\u<4){Z:Zr}(I:HI μ0 h Z)(hh:μ0[h]? = some (.dT (aE Z)))(hl:Z.length<=100){x7 x9 x10 x13:Option D}{m2:MS}
  (pre:μ0 <+: μ)(ls:μ0.length<=s)(lg:μ0.length<=g)(sg:s≠g)(gs:μ[s]? = some (.dT []))(gg:μ[g]? = some (.dT []))(Q:Fl×aF×Hm->Prop)
  (H:∀ x S G μ',μ0 <+: μ'->HI μ' s S->μ'[s]? = some (.dT (aE S))->GZ S=fP (dE u n a) (GZ Z)->HI μ' g G->μ'[g]? = some (.dT (aE G))->GZ G=dW (dE u n a) (bK (cH u n)) (GZ Z)->(∀ c y,μ0.length<=c->c≠s->c≠g->μ[c]? = some y->μ'[c]? = some y)->
   Q (.nx,[some (.loc w),some (.loc h),some (.int u),some (.int n),some (.bl a),some (.bl o),x,x7,some (LD (cH u n)),x9,x10,some (.loc s),some (.loc g),x13],μ')) :
  W (dB 1 (cB (cT (aA 1)) (b7 6) (bS (bC (aB (bE false) (aB fC (aM (f (k+1) "_law_value") (aC (aA 6) (aC (aA 2) aD))) (aA 3)) (aA 4))) (bW (aA 12) (aM (f (k+1) "_law_led") (aC (aA 8) (aC (aA 6) aD))) (aM gG (aC (aB aH (aA 1) (aA 6)) aD))) (bW (aA 11) (aA 6) (aB aH (aA 1) (aA 6))))) m2
   [some (.loc w),some (.loc h),some (.int u),some (.int n),some (.bl a),some (.bl o),none,x7,some (LD (cH u n)),x9,x10,some (.loc s),some (.loc g),x13] μ) Q:=by
 have hhl:h<μ0.length:=(NS.mp hh).1
 have hm':=aO pre hh
 have hpF:μ0.set h (.dF (aE Z)) <+: μ.set h (.dF (aE Z)):=by
  obtain ⟨t,rfl⟩:=pre
  rw [Ro _ _ hhl]
  exact RE _ _
 have IF:=I.frz hh
 have len0:(μ0.set h (.dF (aE Z))).length=μ0.length:=Ou
 have hi0:∀ {c:Nat}{ν:Hm},ν[c]? = some (.dT [])->HI ν c []:=fun e=>⟨.inl e,Qe,fun z hz=>nomatch hz⟩
 have gs':(μ.set h (.dF (aE Z)))[s]? = some (.dT []):=by rw [NR (by omega)];exact gs
 have gg':(μ.set h (.dF (aE Z)))[g]? = some (.dT []):=by rw [NR (by omega)];exact gg
 refine qF rfl hm' (fun i ρ' μ'=>∃ x S G,ρ'=[some (.loc w),some (.loc h),some (.int u),some (.int n),some (.bl a),some (.bl o),x,x7,some (LD (cH u n)),x9,x10,some (.loc s),some (.loc g),x13]/\μ0.set h (.dF (aE Z)) <+: μ' /\
  HI μ' s S/\μ'[s]? = some (.dT (aE S))/\GZ S=fP (dE u n a) ((GZ Z).take i)/\HI μ' g G/\μ'[g]? = some (.dT (aE G))/\GZ G=dW (dE u n a) (bK (cH u n)) ((GZ Z).take i)/\∀ c y,μ0.length<=c->c≠s->c≠g->μ[c]? = some y->μ'[c]? = some y)
  ⟨none,[],[],rfl,hpF,hi0 gs',gs',rfl,hi0 gg',gg',rfl,fun c y hc _ _ e=>by rw [NR (by omega)];exact e⟩ ?_ ?_
 ·rintro i kk d ρ' μ' hk ⟨x,S,G,rfl,p1,IS,g1,eS,IG,g2,eGG,kp⟩
  obtain ⟨z,hz,hzi,rfl,rfl⟩:=vL hk
  have ew:D.tup ((aK z.1).map D.int)=PP z.1:=rfl
  simp only [NX,NY,ew]
  have hil:i<Z.length:=(NS.mp hzi).1
  have et:(GZ Z).take (i+1)=(GZ Z).take i++[(z.1,z.2.1)]:=kT (by unfold GZ;rw [Ol,hzi];rfl)
  have ndk:z.1∉((GZ Z).take i).map (·.1):=by
   rw [Su,cG]
   exact nV I.kd (by rw [Ol,hzi];rfl)
  simp only [gP,fV,aX,bP,aY,aV,aJ,aL]
  refine qD k _ u hu _ _ fun μ3 p3=>?_
  replace p3:μ' <+: μ3:=p3
  simp only [uQ]
  refine w_eqBl.mpr ?_
  have hmv:dE u n a z.1=(decide (n<nT u z.1) == a):=rfl
  rw [<- hmv]
  have IS3:=IS.more p3
  have IG3:=IG.more p3
  have g13:=aO p3 g1
  have g23:=aO p3 g2
  have IF3:=IF.more (p1.trans p3)
  have kp3:∀ c y,μ0.length<=c->c≠s->c≠g->μ[c]? = some y->μ3[c]? = some y:=fun c y h1 h2 h3 e=>aO p3 (kp c y h1 h2 h3 e)
  have lS:S.length<=i:=by
   have e1:S.length=(GZ S).length:=by unfold GZ;rw [NP]
   rw [e1,eS]
   unfold fP
   exact OU (O8 _ _) (by rw [OP];omega)
  have lG:G.length<=i:=by
   have e1:G.length=(GZ G).length:=by unfold GZ;rw [NP]
   rw [e1,eGG]
   unfold dW
   rw [NP]
   exact OU (O8 _ _) (by rw [OP];omega)
  cases hc:dE u n a z.1 with
  | true=>
   simp only [if_true,fM,bP,aY,aV,aX,aJ,aL]
   refine (gS IF3.dic (cM z.1) (eV I.kd hz)).mpr ((LS (IF3.at_ z hz)).mpr ?_)
   have p4:=aQ μ3 (C.lst (z.2.1.map PP).reverse)
   have g4:(μ3++[C.lst (z.2.1.map PP).reverse])[μ3.length]? = some (.lst (z.2.1.reverse.map PP)):=by rw [S4];exact bI _ _
   generalize μ3++[C.lst (z.2.1.map PP).reverse]=μ4 at p4 g4
   refine (Cp k (cH u n) (vG u n) z.1 _ _).mpr ?_
   have g24:=aO p4 g23
   obtain ⟨G',e1,e2,I4⟩:=(IG3.more p4).put g24 (p:=bK (cH u n) z.1) g4
   refine (gQ g24 (cM _) (by rw [dU,Ox];omega)).mpr ?_
   rw [e1]
   refine ⟨trivial,some (PP z.1),S,G',rfl,c6 (p1.trans (p3.trans p4)) (by rw [len0];exact lg) _,(IS3.more p4).off g24 sg _,by rw [NR (OB sg)];exact aO p4 g13,?_,I4,b9 g24,?_,fun c y h1 h2 h3 e=>?_⟩
   ·rw [et,CM,if_pos hc];exact eS
   ·rw [et,CN,if_pos hc,e2,eGG,vX]
    intro w
    obtain ⟨y,hy,ey⟩:=NZ.mp w
    obtain ⟨y',hy',rfl⟩:=NZ.mp hy
    have ey':bK (cH u n) y'.1=bK (cH u n) z.1:=ey
    have:y'.1=z.1:=by rw [<- vH u n y'.1,ey',vH]
    exact ndk (this ▸ NZ.mpr ⟨y',(Pl.mp hy').1,rfl⟩)
   ·rw [NR (OB h3)]
    exact aO p4 (kp3 c y h1 h2 h3 e)
  | false=>
   simp only [Ob,if_false,fM,aX,aJ,aL]
   refine (gS IF3.dic (cM z.1) (eV I.kd hz)).mpr ?_
   obtain ⟨S',e1,e2,I4⟩:=IS3.put g13 (p:=z.1) (IF3.at_ z hz)
   refine (gQ g13 (cM z.1) (by rw [dU,Ox];omega)).mpr ?_
   rw [e1]
   refine ⟨trivial,some (PP z.1),S',G,rfl,c6 (p1.trans p3) (by rw [len0];exact ls) _,I4,b9 g13,?_,IG3.off g13 (OB sg) _,by rw [NR sg];exact g23,?_,fun c y h1 h2 h3 e=>?_⟩
   ·rw [et,CM,if_neg (by rw [hc];exact OI),e2,eS,vX]
    intro w
    obtain ⟨y,hy,ey⟩:=NZ.mp w
    exact ndk (ey ▸ NZ.mpr ⟨y,(Pl.mp hy).1,rfl⟩)
   ·rw [et,CN,if_neg (by rw [hc];exact OI)];exact eGG
   ·rw [NR (OB h2)]
    exact kp3 c y h1 h2 h3 e
 ·rintro ρ' μ' ⟨x,S,G,rfl,p1,IS,g1,eS,IG,g2,eGG,kp⟩
  have gF:μ'[h]? = some (.dF (aE Z)):=aO p1 (b9 hh)
  have tk:(GZ Z).take (aE Z).length=GZ Z:=Pq (by rw [dU,GZ,NP];exact N3 _)
  rw [tk] at eS eGG
  have th:∀ {c:Nat}{Y:Zr},c≠h->HI μ' c Y->HI (μ'.set h (.dT (aE Z))) c Y:=fun {c Y} hc J=>by
   refine ⟨?_,J.kd,fun z hz=>by rw [NR (OB (J.ne (.inr gF) hz))];exact J.at_ z hz⟩
   unfold Dc
   rw [NR (OB hc)]
   exact J.dic
  exact ⟨gF,H x S G _ (mE hh p1) (th (by omega) IS) (by rw [NR (by omega)];exact g1) eS (th (by omega) IG) (by rw [NR (by omega)];exact g2) eGG fun c y h1 h2 h3 e=>by rw [NR (by omega)];exact kp c y h1 h2 h3 e⟩
theorem ND {μ0 μ:Hm}{s g:Nat}{o:Bool}{S0 G:Zr}(IS0:HI μ s S0)(hs:μ[s]? = some (.dT (aE S0)))(IG:HI μ g G)(hg:μ[g]? = some (.dT (aE G)))(lS:S0.length+G.length<=100)(ll:∀ z∈S0,z.2.1.length<=100)(lg:∀ z∈G,z.2.1.length<=100){x0 x1 x2 x3 x4 x7 x8 x9 x10:Option D}{m2:MS}
  (pre:μ0 <+: μ)(ls:μ0.length<=s)(lg0:μ0.length<=g)(sg:s≠g)(Q:Fl×aF×Hm->Prop){x6:Option D}
  (H:∀ x y S μ',μ0 <+: μ'->HI μ' s S->μ'[s]? = some (.dT (aE S))->GZ S=(GZ G).foldl (dX o) (GZ S0)->(∀ c v,μ0.length<=c->c≠s->c≠g->μ[c]? = some v->μ'[c]? = some v)->
   Q (.nx,[x0,x1,x2,x3,x4,some (.bl o),x,x7,x8,x9,x10,some (.loc s),some (.loc g),y],μ')) :
  W (dB 12 (cB (cT (aA 12)) (b7 6) (aG (bA 13 (fJ iZ (aA 11) (aC (aA 6) (aC (c5 aD) aD)))) (bW (aA 11) (aA 6) (gY (iB (aA 5)) (aB bB (aA 13) (aB aH (aA 12) (aA 6))) (aB bB (aB aH (aA 12) (aA 6)) (aA 13)))))) m2
   [x0,x1,x2,x3,x4,some (.bl o),x6,x7,x8,x9,x10,some (.loc s),some (.loc g),none] μ) Q:=by
 have gs':(μ.set g (.dF (aE G)))[s]? = some (.dT (aE S0)):=by rw [NR (OB sg)];exact hs
 have IGF:=IG.frz hg
 refine qF rfl hg (fun i ρ' μ'=>∃ x y S,ρ'=[x0,x1,x2,x3,x4,some (.bl o),x,x7,x8,x9,x10,some (.loc s),some (.loc g),y]/\μ0 <+: μ'/\HI μ' s S/\μ'[s]? = some (.dT (aE S))/\GZ S=((GZ G).take i).foldl (dX o) (GZ S0)/\S.length<=S0.length+i/\(∀ z∈S,z.2.1.length<=100+100 * i) /\
  HI μ' g G/\μ'[g]? = some (.dF (aE G))/\∀ c v,μ0.length<=c->c≠s->c≠g->μ[c]? = some v->μ'[c]? = some v)
  ⟨x6,none,S0,rfl,c6 pre lg0 _,?_,gs',rfl,by omega,fun z hz=>by have:=ll z hz;omega,IGF,b9 hg,fun c v hc _ h2 e=>by rw [NR (OB h2)];exact e⟩ ?_ ?_
 ·exact IS0.frz hg
 ·rintro i kk d ρ' μ' hk ⟨x,y,S,rfl,p1,IS,g1,eS,l1,l2,IG1,gF,kp⟩
  obtain ⟨z,hz,hzi,rfl,rfl⟩:=vL hk
  have ew:D.tup ((aK z.1).map D.int)=PP z.1:=rfl
  simp only [NX,NY,ew]
  have hil:i<G.length:=(NS.mp hzi).1
  have et:(GZ G).take (i+1)=(GZ G).take i++[(z.1,z.2.1)]:=kT (by unfold GZ;rw [Ol,hzi];rfl)
  have lz:=lg z hz
  rw [bG]
  simp only [bR]
  refine vE ?_
  simp only [aJ,aL]
  refine ⟨vF g1,?_⟩
  simp only [aY,aV,aJ,aL,jE]
  refine ⟨OW _,?_⟩
    -- the list at this place,or a new one
  have p2:=aQ μ' (C.lst [])
  have gl:∃ c,((bF (aE S) (aK z.1)).getD (.loc μ'.length))=.loc c/\(μ'++[C.lst []])[c]? = some (.lst ((aU (GZ S) z.1).map PP)):=by
   by_cases hp:z.1∈S.map (·.1)
   ·obtain ⟨t,ht,e⟩:=eW hp
    refine ⟨t.2.2,?_,?_⟩
    ·rw [<- e,eV IS.kd ht]
     rfl
    ·rw [<- e,f6 IS.kd ht]
     exact aO p2 (IS.at_ t ht)
   ·refine ⟨μ'.length,?_,?_⟩
    ·rw [vC hp]
     rfl
    ·rw [iJ (by rw [cG];exact hp)]
     exact bI _ _
  obtain ⟨c,e1,e2⟩:=gl
  have eg:iZ (.loc s) [PP z.1,.loc μ'.length] (μ'++[C.lst []])=some (.loc c,μ'++[C.lst []]):=by
   simp only [iZ,aO p2 g1,cM,Oy,e1]
  rw [eg,W_some]
  have IS2:=IS.more p2
  have g12:=aO p2 g1
  have IG2:=IG1.more p2
  have gF2:=aO p2 gF
  have kp2:∀ c v,μ0.length<=c->c≠s->c≠g->μ[c]? = some v->(μ'++[C.lst []])[c]? = some v:=fun c v h1 h2 h3 e=>aO p2 (kp c v h1 h2 h3 e)
  have p02:=p1.trans p2
  generalize μ'++[C.lst []]=μ2 at e2 IS2 g12 IG2 gF2 kp2 p02
  have la:(aU (GZ S) z.1).length<=100+100 * i:=by
   by_cases hp:z.1∈S.map (·.1)
   ·obtain ⟨t,ht,e⟩:=eW hp
    rw [<- e,f6 IS.kd ht]
    exact l2 t ht
   ·rw [iJ (by rw [cG];exact hp)]
    exact OW _
  simp only [NX,NY,fM,BB,BC,aJ,aL,uT]
  have fin':∀ (L:List (Int×Int))(μ3:Hm),μ2 <+: μ3->μ3[μ3.length - 1]? = some (.lst (L.map PP))->(dX o (GZ S) (z.1,z.2.1))=cX (GZ S) z.1 L->L.length<=100+100 * (i+1)->
    W (iV (.loc s) (PP z.1) (.loc (μ3.length - 1)) μ3) fun μ4=>True/\∃ x y S,[x0,x1,x2,x3,x4,some (.bl o),some (PP z.1),x7,x8,x9,x10,some (.loc s),some (.loc g),some (.loc c)]=[x0,x1,x2,x3,x4,some (.bl o),x,x7,x8,x9,x10,some (.loc s),some (.loc g),y]/\μ0 <+: μ4/\HI μ4 s S/\μ4[s]? = some (.dT (aE S))/\GZ S=((GZ G).take (i+1)).foldl (dX o) (GZ S0)/\S.length<=S0.length+(i+1)/\(∀ z∈S,z.2.1.length<=100+100 * (i+1)) /\
     HI μ4 g G/\μ4[g]? = some (.dF (aE G))/\∀ c v,μ0.length<=c->c≠s->c≠g->μ[c]? = some v->μ4[c]? = some v:=fun L μ3 p3 g3 eo lL=>by
   have g13:=aO p3 g12
   obtain ⟨S',e3,e4,I4⟩:=(IS2.more p3).put g13 (p:=z.1) g3
   refine (gQ g13 (cM z.1) (by rw [dU,Ox];omega)).mpr ?_
   rw [e3]
   have lS':S'.length=(cX (GZ S) z.1 L).length:=by rw [<- e4,GZ,NP]
   refine ⟨trivial,some (PP z.1),some (.loc c),S',rfl,c6 (p02.trans p3) ls _,I4,b9 g13,?_,?_,fun y hy=>?_,(IG2.more p3).off g13 (OB sg) _,by rw [NR sg];exact aO p3 gF2,fun c v h1 h2 h3 e=>?_⟩
   ·rw [et,VC,<- eS,e4,<- eo]
    rfl
   ·rw [lS']
    unfold cX
    split
    ·rw [NP,GZ,NP];omega
    ·rw [Oa,Ph,GZ,NP];omega
   ·have hy':(y.1,y.2.1)∈cX (GZ S) z.1 L:=by rw [<- e4];exact NZ.mpr ⟨y,hy,rfl⟩
    unfold cX at hy'
    have old:∀ {q:(Int×Int)×List (Int×Int)},q∈GZ S->q.2.length<=100+100 * i:=fun {q} hq=>by
     obtain ⟨t,ht,rfl⟩:=NZ.mp hq
     exact l2 t ht
    split at hy'
    ·obtain ⟨t,ht,e⟩:=NZ.mp hy'
     split at e
     ·injection e with _ e;rw [<- e];exact lL
     ·have:=old ht;rw [e] at this;dsimp only at this;omega
    ·rcases O2.mp hy' with hy'|hy'
     ·have:=old hy';dsimp only at this;omega
     ·injection (OC.mp hy') with _ e;rw [e];exact lL
   ·rw [NR (OB h2)]
    exact aO p3 (kp2 c v h1 h2 h3 e)
  have it:∀ {ν:Hm}{Q:D×Hm->Prop},μ2 <+: ν->Q (.loc z.2.2,ν)->W (aH (.loc g) (PP z.1) ν) Q:=fun hp h=>(gS (.inr (aO hp gF2)) (cM z.1) (eV IG.kd hz)).mpr h
  have gz2:=IG2.at_ z hz
  have ln:∀ L:List D,(μ2++[C.lst L]).length - 1=μ2.length:=fun L=>by simp
  cases o with
  | true=>
   simp only [if_true,aX,aJ,aL]
   refine it (QD _) ((nR e2 gz2 (by rw [NP,NP,Ox];omega)).mpr ?_)
   have:=fin' (aU (GZ S) z.1++z.2.1) (μ2++[.lst ((aU (GZ S) z.1).map PP++z.2.1.map PP)]) (aQ _ _) (by rw [ln,OE];exact bI _ _) rfl (by rw [Oa];omega)
   rw [ln] at this
   exact this
  | false=>
   simp only [Ob,if_false,aX,aJ,aL]
   refine it (QD _) ((nR gz2 e2 (by rw [NP,NP,Ox];omega)).mpr ?_)
   have:=fin' (z.2.1++aU (GZ S) z.1) (μ2++[.lst (z.2.1.map PP++(aU (GZ S) z.1).map PP)]) (aQ _ _) (by rw [ln,OE];exact bI _ _) rfl (by rw [Oa];omega)
   rw [ln] at this
   exact this
 ·rintro ρ' μ' ⟨x,y,S,rfl,p1,IS,g1,eS,l1,l2,IG1,gF,kp⟩
  rw [dU,Pq (by unfold GZ;rw [NP];exact N3 _)] at eS
  refine ⟨gF,H x y S _ (c6 p1 lg0 _) ⟨?_,IS.kd,fun z hz=>by rw [NR (OB (IS.ne (.inr gF) hz))];exact IS.at_ z hz⟩ (by rw [NR (OB sg)];exact g1) eS fun c v h1 h2 h3 e=>by rw [NR (OB h3)];exact kp c v h1 h2 h3 e⟩
  unfold Dc
  rw [NR (OB sg)]
  exact IS.dic
theorem CO {α:Type} [DecidableEq α]:∀ {l m:List α},l.Nodup->(∀ x∈l,x∈m)->l.length<=m.length
 | [],_,_,_=>OW _
 | x::l,m,h,hs=>by
  rw [OS] at h
  have hx:=hs x (Om ..)
  have ih:=CO (l:=l) (m:=m.erase x) h.2 fun y hy=>(List.mem_erase_of_ne (fun e:y=x=>h.1 (e ▸ hy))).mpr (hs y (Oc _ hy))
  rw [List.length_erase_of_mem hx] at ih
  have:=RW hx
  rw [OL]
  omega
theorem Pil.len {qs:List (Int×Int)}{g:Int×Int->Int×Int}{G:Gr}(P:Pil qs g G):G.length<=qs.length/\∀ x∈G,x.2.length<=qs.length:=by
 constructor
 ·have:=CO P.kd (m:=qs.map g) fun p hp=>by
   obtain ⟨q,hq,e⟩:=P.key.mp hp
   exact NZ.mpr ⟨q,hq,e⟩
  rw [NP,NP] at this
  exact this
 ·intro x hx
  have:=(P.pm x.1).length_eq
  rw [jJ P.kd hx] at this
  rw [this]
  exact O8 _ _
theorem Pil.lenZ {qs:List (Int×Int)}{g:Int×Int->Int×Int}{Z:Zr}(P:Pil qs g (GZ Z)):Z.length<=qs.length/\∀ z∈Z,1<=z.2.1.length/\z.2.1.length<=qs.length:=by
 obtain ⟨h1,h2⟩:=P.len
 unfold GZ at h1
 rw [NP] at h1
 refine ⟨h1,fun z hz=>?_⟩
 have hm:(z.1,z.2.1)∈GZ Z:=NZ.mpr ⟨z,hz,rfl⟩
 exact ⟨Qd.mpr (P.ne _ hm),h2 _ hm⟩
theorem CP (μ:Hm)(x:Bool):∀ bs:List Bool,∃ b,iT μ (.bl x) (bs.map D.bl)=some b
 | []=>⟨_,rfl⟩
 | b::bs=>by
  obtain ⟨c,e⟩:=CP μ x bs
  rw [N0]
  unfold iT
  cases b<;>cases x<;>first|exact ⟨_,rfl⟩|exact ⟨c,e⟩|(rw [e];exact ⟨_,rfl⟩)
theorem CQ {μ:Hm}{a:Nat}{bs:List Bool}(x:Bool)(h:μ[a]? = some (.lst (bs.map D.bl))):∃ b,eB true (.bl x) (.loc a) μ=some (.bl b,μ):=by
 obtain ⟨b,e⟩:=CP μ x bs
 refine ⟨!b,?_⟩
 simp only [eB,h,j4,bM,Od,e,Oy,if_true]
theorem NF (k:Nat){μ:Hm}{w h:Nat}{u n:Int}{a o:Bool}(hu:0<=u/\u<4){F:Int×Int->Ly}(hF:∀ q,Dih (F q)){qs:List (Int×Int)}(nd:qs.Nodup)(hl:qs.length<=36)(hw:μ[w]? = some (.dT (a9 (fun q=>LD (F q)) qs))){Z:Zr}(I:HI μ h Z)(hh:μ[h]? = some (.dT (aE Z)))
  (P:Pil qs (fun q=>bK (F q) q) (GZ Z))(Q:D×Hm->Prop)
  (H:∀ w' h' (F':Int×Int->Ly) Z' μ',μ <+: μ'->μ'[w']? = some (.dT (a9 (fun q=>LD (F' q)) qs))->HI μ' h' Z'->μ'[h']? = some (.dT (aE Z'))->(∀ q,Dih (F' q))->Pil qs (fun q=>bK (F' q) q) (GZ Z')->Q (.tup [.loc w',.loc h'],μ')) :
  W (f (k+2) "_law_fold" [.loc w,.loc h,.int u,.int n,.bl a,.bl o] μ) Q:=by
 obtain ⟨lZ,mZ⟩:=P.lenZ
 have hhl:h<μ.length:=(NS.mp hh).1
 rw [L6,W_fin,bG]
 refine Ct rfl hh ?_
 simp only [bR]
 have gF:(μ.set h (.dF (aE Z)))[h]? = some (.dF (aE Z)):=b9 hh
 refine uZ (xs:=cD (aE Z)) (p:=fun _=>true) (v:=fun d=>.bl (dE u n a (fX d))) ?_
 rw [vV rfl gF]
 refine W_some.mpr ⟨u3,by rw [cD,NP],by rw [cD,NP,dU,Ox];omega,fun d μ' hd hp=>w_mTrue.mpr ⟨rfl,QD _⟩,fun d μ' hd _ hp=>?_,fun μ' hp hg=>?_⟩
 ·obtain ⟨p,hpm,rfl⟩:=qH hd
  simp only [Pz,Ru,aX,bP,aY,aV,aJ,aL]
  refine qD k _ u hu _ _ fun μ3 p3=>?_
  simp only [uQ]
  refine w_eqBl.mpr ⟨?_,p3⟩
  rw [nX]
  rfl
 refine ⟨aO hp gF,?_⟩
 have p1:=mE hh hp
 have e1:((cD (aE Z)).filter fun _=>true).map (fun d=>D.bl (dE u n a (fX d)))=((Z.map (·.1)).map (dE u n a)).map D.bl:=by
  rw [So.mpr (fun _ _=>rfl),vU]
  simp only [N6]
  rfl
 have g1:(μ'.set h (.dT (aE Z)))[μ.length]? = some (.lst (((Z.map (·.1)).map (dE u n a)).map D.bl)):=by
  rw [NR (by omega),<- e1]
  have:=hg
  dsimp only at this
  rw [Ou] at this
  exact this
 dsimp only
 rw [show (μ.set h (.dF (aE Z))).length=μ.length from Ou]
 generalize μ'.set h (.dT (aE Z))=μ1 at p1 g1
 clear hg hp
 simp only [NX,NY]
 rw [bG]
 have fin0:=H w h F Z μ1 p1 (aO p1 hw) (I.more p1) (aO p1 hh) hF P
 obtain ⟨b1,i1⟩:=CQ true g1
 obtain ⟨b2,i2⟩:=CQ false g1
 simp only [gP,uO,fV,aX,bO,aJ,aL]
 rw [i1,W_some]
 cases b1 with
 | true=>
  simp only [if_true,w_mRet,fL,aY,aV,aJ,aL,fW,true_and]
  exact fin0
 | false=>
  simp only [Ob,if_false]
  rw [i2,W_some]
  cases b2 with
  | true=>
   simp only [if_true,w_mRet,fL,aY,aV,aJ,aL,fW,true_and]
   exact fin0
  | false=>
   simp only [Ob,if_false,iG]
   rw [bG]
   simp only [bR,bP,aY,aV,aJ,aL]
   refine MX k u n hu _ _ fun μ2 p2=>?_
   simp only [NX,NY]
   rw [bG]
   simp only [bR,iH,NX,NY]
   rw [bG]
   have q2:=p1.trans p2
   refine NB k (μ0:=μ) (b:=μ2.length) hu hF nd (by omega) (q2.trans (aQ _ _)) q2.length_le hw (bI _ _) _ fun x μ3 p3 ln3 g3 _=>?_
   dsimp only
   rw [bG]
   simp only [bR,iH,NX,NY]
   rw [bG]
   simp only [bR,iH,NX,NY]
   rw [bG]
   have p4:=(aQ μ3 (C.dT [])).trans (aQ _ (C.dT []))
   have l4:(μ3++[C.dT []]).length=μ3.length+1:=by simp
   rw [l4]
   refine NC k (μ0:=μ) (s:=μ3.length) (g:=μ3.length+1) hu I hh (by omega) (p3.trans p4) p3.length_le (VM p3.length_le) (by omega) (aO (aQ _ _) (bI _ _)) (by rw [<- l4];exact bI _ _) _ fun x' S G μ5 p5 IS g5 eS IG g6 eG kp5=>?_
   dsimp only
   rw [bG]
   have h3b:μ2.length<μ3.length:=by
    rw [Oa,Ph] at ln3
    omega
   have g7:μ5[μ2.length]? = some (.dT (a9 (fun q=>LD (cR u n a F q)) qs)):=kp5 _ _ q2.length_le (by omega) (by omega) (aO p4 g3)
   have lS:S.length<=qs.length:=by
    have e:S.length=(GZ S).length:=by unfold GZ;rw [NP]
    rw [e,eS]
    unfold fP
    exact OU (O8 _ _) (by unfold GZ;rw [NP];exact lZ)
   have lG:G.length<=qs.length:=by
    have e:G.length=(GZ G).length:=by unfold GZ;rw [NP]
    rw [e,eG]
    unfold dW
    rw [NP]
    exact OU (O8 _ _) (by unfold GZ;rw [NP];exact lZ)
   have mG:∀ g∈GZ Z,g.2.length<=qs.length:=P.len.2
   refine ND (μ0:=μ) IS g5 IG g6 (by omega) (fun z hz=>?_) (fun z hz=>?_) p5 p3.length_le (VM p3.length_le) (by omega) _ fun x2 y2 S' μ6 p6 IS' g8 eS' kp6=>?_
   ·have hm:(z.1,z.2.1)∈GZ S:=NZ.mpr ⟨z,hz,rfl⟩
    rw [eS] at hm
    have:=mG _ (Pl.mp hm).1
    dsimp only at this
    omega
   ·have hm:(z.1,z.2.1)∈GZ G:=NZ.mpr ⟨z,hz,rfl⟩
    rw [eG] at hm
    obtain ⟨y,hy,e⟩:=NZ.mp hm
    have:=mG _ (Pl.mp hy).1
    injection e with _ e
    rw [<- e,QR]
    omega
   simp only [w_mRet,fL,aY,aV,aJ,aL,fW,true_and]
   refine H μ2.length μ3.length (cR u n a F) S' μ6 p6 (kp6 _ _ q2.length_le (by omega) (by omega) g7) IS' g8 (Nz hF) ?_
   have e9:GZ S'=Ck (dE u n a) (bK (cH u n)) o (GZ Z):=by
    rw [eS',eS,eG]
    rfl
   rw [e9]
   have:=MU P (mv:=dE u n a) (M:=bK (cH u n)) (vH u n) o
   have e10:(fun q=>bK (cR u n a F q) q)=fun q=>if dE u n a (bK (F q) q) then bK (cH u n) (bK (F q) q) else bK (F q) q:=funext fun q=>NA u n a F q
   rw [e10]
   exact this
theorem CS {α:Type} [DecidableEq α]:∀ {l:List α},l.Nodup->∀ {p:α},p∈l->(l.filter fun q=>decide (q=p))=[p]
 | [],_,_,h=>by cases h
 | x::l,nd,p,h=>by
  rw [OS] at nd
  by_cases e:x=p
  ·subst e
   rw [OH (by simp),Qi.mpr]
   intro y hy w
   exact nd.1 (of_decide_eq_true w ▸ hy)
  ·rw [OA (by simp [e])]
   exact CS nd.2 ((Ov.mp h).resolve_left fun w=>e w.symm)
noncomputable def kU (qs:List (Int×Int)):Gr:=qs.map fun q=>(q,[q])
theorem vY (qs:List (Int×Int)):(kU qs).map (·.1)=qs:=by
 unfold kU
 rw [N6]
 exact RJ _
theorem NG {qs:List (Int×Int)}(nd:qs.Nodup):Pil qs (fun q=>bK dD q) (kU qs):=by
 have kd:((kU qs).map (·.1)).Nodup:=by rw [vY];exact nd
 refine ⟨kd,fun g hg=>?_,fun p=>?_⟩
 ·obtain ⟨q,_,rfl⟩:=NZ.mp hg
  simp
 ·have e:(fun q=>decide (bK dD q=p))=fun q=>decide (q=p):=funext fun q=>by rw [Mn]
  rw [e]
  by_cases h:p∈qs
  ·have:=jJ kd (g:=(p,[p])) (NZ.mpr ⟨p,h,rfl⟩)
   rw [this,CS nd h]
  ·rw [iJ (by rw [vY];exact h),Qi.mpr]
   intro q hq w
   exact h (of_decide_eq_true w ▸ hq)
structure Grw (qs:List (Int×Int))(μ:Hm)(w h:Nat)(F:Int×Int->Ly)(Z:Zr):Prop where
 hw:μ[w]? = some (.dT (a9 (fun q=>LD (F q)) qs))
 hi:HI μ h Z
 hh:μ[h]? = some (.dT (aE Z))
 di:∀ q,Dih (F q)
 pl:Pil qs (fun q=>bK (F q) q) (GZ Z)
theorem NH {μ0 μ:Hm}{l a b:Nat}{qs:List (Int×Int)}(nd:qs.Nodup)(hl:qs.length<=100){x0 x1 x2 x3 x4 x8 x9 x10 x11 x12 x13:Option D}(pre:μ0 <+: μ)(la:μ0.length<=a)(lb:μ0.length<=b)(ab:a≠b)(ga:μ[a]? = some (.dT []))(gb:μ[b]? = some (.dT []))(gl:μ[l]? = some (.lst (qs.map PP)))(Q:Fl×aF×Hm->Prop)
  (H:∀ x Z μ',μ0 <+: μ'->Grw qs μ' a b (fun _=>dD) Z->Q (.nx,[x0,x1,x2,x3,x4,some (.loc a),some (.loc b),x,x8,x9,x10,x11,x12,x13],μ')) :
  W (dH (eP (.loc l)) (b7 7) (aG (bW (aA 5) (aA 7) (cP (aC (mC (.int 1)) (aC (mC (.int 0)) (aC (mC (.int 0)) (aC (mC (.int 1)) (aC (mC (.int 0)) (aC (mC (.int 0)) aD)))))))) (bW (aA 6) (aA 7) (c5 (aC (aA 7) aD)))) ((qs.map PP).length+1) 0
   [x0,x1,x2,x3,x4,some (.loc a),some (.loc b),none,x8,x9,x10,x11,x12,x13] μ) Q:=by
 have l_a:l≠a:=fun e=>by rw [e,ga] at gl;cases gl
 have l_b:l≠b:=fun e=>by rw [e,gb] at gl;cases gl
 refine uW (fun i ρ' μ'=>∃ x Z,ρ'=[x0,x1,x2,x3,x4,some (.loc a),some (.loc b),x,x8,x9,x10,x11,x12,x13]/\μ0 <+: μ'/\μ'[a]? = some (.dT (a9 (fun _=>LD dD) (qs.take i)))/\HI μ' b Z/\μ'[b]? = some (.dT (aE Z))/\GZ Z=kU (qs.take i)/\μ'[l]? = some (.lst (qs.map PP)))
  ⟨none,[],rfl,pre,ga,⟨.inl gb,Qe,fun z hz=>nomatch hz⟩,gb,rfl,gl⟩ (fun _ _ _ ⟨_,_,_,_,_,_,_,_,h⟩=>h) ?_ ?_
 ·rintro i d ρ' μ' hd ⟨x,Z,rfl,p1,g1,I,g2,eG,g3⟩
  obtain ⟨q,hq,rfl⟩:=vA hd
  refine ⟨_,rfl,?_⟩
  have hil:i<qs.length:=(NS.mp hq).1
  have nq:q∉qs.take i:=nV nd hq
  have lZ:Z.length<=100:=by
   have e:Z.length=(GZ Z).length:=by unfold GZ;rw [NP]
   rw [e,eG]
   unfold kU
   rw [NP,OP]
   omega
  simp only [NX,NY]
  rw [bG]
  simp only [fM,fL,aY,aV,bO,aJ,aL]
  refine ⟨u7,(gQ g1 (cM q) (by rw [NP,OP,Ox];omega)).mpr ?_⟩
  have e1:cS (a9 (fun _=>LD dD) (qs.take i)) (aK q) (D.tup [.int 1,.int 0,.int 0,.int 1,.int 0,.int 0])=a9 (fun _=>LD dD) (qs.take (i+1)):=by
   rw [kT hq]
   exact CA (v:=fun _=>LD dD) nq
  rw [e1]
  have p2:=c6 p1 la (C.dT (a9 (fun _=>LD dD) (qs.take (i+1))))
  have g12:(μ'.set a (C.dT (a9 (fun _=>LD dD) (qs.take (i+1)))))[a]? = some (C.dT (a9 (fun _=>LD dD) (qs.take (i+1)))):=b9 g1
  have I2:=I.off g1 (OB ab) (C.dT (a9 (fun _=>LD dD) (qs.take (i+1))))
  have g22:(μ'.set a (C.dT (a9 (fun _=>LD dD) (qs.take (i+1)))))[b]? = some (.dT (aE Z)):=by rw [NR ab];exact g2
  have g32:(μ'.set a (C.dT (a9 (fun _=>LD dD) (qs.take (i+1)))))[l]? = some (.lst (qs.map PP)):=by rw [NR (OB l_a)];exact g3
  generalize μ'.set a (C.dT (a9 (fun _=>LD dD) (qs.take (i+1))))=μ2 at p2 g12 I2 g22 g32
  simp only [fM,jE,aY,aV,aJ,aL]
  refine ⟨Mf,?_⟩
  have gn:(μ2++[C.lst [PP q]])[μ2.length]? = some (.lst ([q].map PP)):=bI _ _
  have g23:=aO (aQ μ2 (C.lst [PP q])) g22
  obtain ⟨Z',e3,e4,I4⟩:=(I2.more (aQ μ2 (C.lst [PP q]))).put g23 (p:=q) gn
  refine (gQ g23 (cM q) (by rw [dU,Ox];omega)).mpr ?_
  rw [e3]
  refine ⟨some (PP q),Z',rfl,c6 (p2.trans (aQ _ _)) lb _,by rw [NR (OB ab)];exact aO (aQ _ _) g12,I4,b9 g23,?_,by rw [NR (OB l_b)];exact aO (aQ _ _) g32⟩
  rw [e4,eG,vX (by rw [vY];exact nq),kT hq]
  unfold kU
  rw [OE]
  rfl
 ·rintro ρ' μ' ⟨x,Z,rfl,p1,g1,I,g2,eG,g3⟩
  rw [NP,RP] at g1 eG
  exact H x Z μ' p1 ⟨g1,I,g2,fun _=>Ml,by rw [eG];exact NG nd⟩
theorem NI (k:Nat)(ns:List Int)(w h:Int)(hw:1<=w/\w<=3)(hh:1<=h/\h<=3)(c m:Int)(hc:0<=c/\c<=50)(hm:0<=m/\m<=10)(nd:(eI w h).Nodup)(hl:(eI w h).length<=36)(h1:1<=(eI w h).length)(μ:Hm)(Q:D×Hm->Prop)
  (H:∀ a b F Z μ',μ <+: μ'->Grw (eI w h) μ' a b F Z->Q (.tup [.loc a,.loc b],μ')):W (f (k+3) "_law_grown" [.rol (ns.map D.int),.int w,.int h,.int c,.int m] μ) Q:=by
 rw [L7,W_fin,bG]
 simp only [bR,iH,NX,NY]
 rw [bG]
 simp only [bR,iH,NX,NY]
 rw [bG]
 simp only [kR,uV,bP,aY,aV,aJ,aL]
 refine M3 (k+1) w h hw hh _ _ ((u4 (bI _ _)).mpr ?_)
 have l1:(μ++[C.dT []]).length=μ.length+1:=by simp
 have l2:((μ++[C.dT []])++[C.dT []]).length=μ.length+2:=by simp
 rw [l1]
 refine NH (μ0:=μ) (a:=μ.length) (b:=μ.length+1) nd (by omega) (((aQ _ _).trans (aQ _ _)).trans (aQ _ _)) (N3 _) (RM _) (by omega) (aO ((aQ _ _).trans (aQ _ _)) (bI _ _)) (aO (aQ _ _) (by rw [<- l1];exact bI _ _)) (bI _ _) _ fun x Z μ1 p1 G1=>?_
 dsimp only
 rw [bG]
 simp only [kR]
 rw [LK (j:=0)]
 simp only [aY,aV,aJ,aL]
 refine ⟨by omega,?_⟩
 refine uX (fun i ρ' μ'=>∃ a b F Z x7 x8 x9 x10 x11 x12 x13,ρ'=[some (.rol (ns.map D.int)),some (.int w),some (.int h),some (.int c),some (.int m),some (.loc a),some (.loc b),x7,x8,x9,x10,x11,x12,x13]/\μ <+: μ'/\Grw (eI w h) μ' a b F Z)
  ⟨_,_,_,Z,x,_,_,_,_,_,_,rfl,p1,G1⟩ ?_ ?_
 ·rintro i ρ' μ2 hi ⟨a,b,F,Z,x7,x8,x9,x10,x11,x12,x13,rfl,p2,G⟩
  refine ⟨_,rfl,?_⟩
  simp only [NX,NY]
  rw [bG]
  simp only [bR,bP,aY,aV,aX,aJ,aL,dS]
  refine nU k ns _ (by omega) _ _ fun v μ3 v0 v1 p3=>?_
  have G3:Grw (eI w h) μ3 a b F Z:=⟨aO p3 G.hw,G.hi.more p3,aO p3 G.hh,G.di,G.pl⟩
  obtain ⟨lZ,mZ⟩:=G.pl.lenZ
  have zp:0<Z.length:=by
   obtain ⟨q,hq⟩:=Te (l:=eI w h) h1
   have:=G.pl.key.mpr ⟨q,hq,rfl⟩
   rw [cG] at this
   have:=RW this
   rw [NP] at this
   exact this
  simp only [NX,NY]
  rw [bG]
  simp only [bR,aX,aJ,aL,bO,u5,NX,NY]
  rw [bG]
  simp only [bR,bP,aY,aV,aJ,aL]
  refine (mH G.hi.kd G3.hh (by omega)).mpr ?_
  have p4:=aQ μ3 (C.lst ((aN (Z.map (·.1))).map PP))
  have g4:=bI μ3 (C.lst ((aN (Z.map (·.1))).map PP))
  generalize μ3++[C.lst ((aN (Z.map (·.1))).map PP)]=μ4 at p4 g4
  simp only [NX,NY]
  rw [bG]
  simp only [bR,bP,aY,aV,aX,aJ,aL,bO]
  have hp0:0<(aN (Z.map (·.1))).length:=by rw [CG,NP];omega
  have b1:=Qp (v / 4) (show ((aN (Z.map (·.1))).length:Int)≠0 by omega)
  have b2:=P0 (v / 4) (show 0<((aN (Z.map (·.1))).length:Int) by omega)
  have b3:(v / 4 % ((aN (Z.map (·.1))).length:Int)).toNat<(aN (Z.map (·.1))).length:=by omega
  refine w_div4.mpr ((nS g4).mpr ((dC (by rw [NP];omega)).mpr ?_))
  rw [NP]
  refine (jG g4 (n4 (u6 b1 b2) (N9 b3))).mpr ?_
  refine qD (k+1) _ (v % 4) (by omega) _ _ fun μ5 p5=>?_
  replace p5:μ4 <+: μ5:=p5
  simp only [NX,NY]
  rw [bG]
  simp only [bR,aX,aJ,aL,bO]
  refine (eF (by decide) (by decide)).mpr ?_
  simp only [u5,NX,NY,pW,bP,aY,aV,aX,aJ,aL,bO,Lz,BQ,pX,BF]
  have p05:=(p3.trans p4).trans p5
  refine NF k (by omega) G.di nd hl (aO p05 G.hw) (G.hi.more p05) (aO p05 G.hh) G.pl _ fun w' h' F' Z' μ6 p6 g6 I6 g7 d6 P6=>?_
  simp only [uU,NX,NY]
  exact ⟨w',h',F',Z',_,_,_,_,_,_,_,rfl,p2.trans (p05.trans p6),g6,I6,g7,d6,P6⟩
 ·rintro ρ' μ2 ⟨a,b,F,Z,x7,x8,x9,x10,x11,x12,x13,rfl,p2,G⟩
  simp only [w_mRet,fL,aY,aV,aJ,aL,fW,true_and]
  exact H a b F Z μ2 p2 G
theorem CT {z:Int}{μ:Hm}{Q:D×Hm->Prop}:W (bX (.int z) (.int 3) μ) Q↔Q (.int (z % 3),μ):=dC (by decide)
theorem NJ {z:Int}{μ:Hm}{Q:D×Hm->Prop}:W (cJ (.int z) (.int 3) μ) Q↔Q (.int (z / 3),μ):=eF (by decide) (by decide)
theorem Grw.more {qs:List (Int×Int)}{μ μ':Hm}{w h:Nat}{F:Int×Int->Ly}{Z:Zr}(G:Grw qs μ w h F Z)(p:μ <+: μ'):Grw qs μ' w h F Z:=⟨aO p G.hw,G.hi.more p,aO p G.hh,G.di,G.pl⟩
theorem NK (k:Nat)(ns:List Int)(μ:Hm):W (f (k+5) "law" [.rol (ns.map D.int)] μ) fun r=>r.1=.bl true:=by
 rw [Mc,W_fin,bG]
 simp only [bR,bP,aY,aV,aJ,bO]
 refine nU (k+2) ns 0 (by decide) _ _ fun v μ1 v0 v1 p1=>?_
 simp only [NX,NY]
 rw [bG]
 simp only [bR,aX,aJ,aL,bO,CT,dS,NX,NY]
 rw [bG]
 simp only [bR,aX,aJ,aL,bO,NJ,CT,dS,NX,NY]
 have hw:1<=1+v % 3/\1+v % 3<=3:=by omega
 have hh:1<=1+v / 3 % 3/\1+v / 3 % 3<=3:=by omega
 obtain ⟨f1,f2,f3⟩:=M4 _ (Cq hw) _ (Cq hh)
 have up:=Cr f3
 have nd:(eI (1+v % 3) (1+v / 3 % 3)).Nodup:=by
  rw [Rc] at up
  exact up.imp fun {x y} h e=>by
   rw [e,kB] at h
   exact OI h
 have hs:((eI (1+v % 3) (1+v / 3 % 3)).map aK).Pairwise fun x y=>HT.lexLt y x=false:=up.imp fun h=>M6 h
 rw [bG]
 simp only [pW,bP,aY,aV,aX,aJ,aL,bO]
 refine w_div9.mpr (w_mod5.mpr ?_)
 refine NI (k+1) ns _ _ hw hh 2 (v / 9 % 5) (by decide) (by omega) nd f1 f2 _ _ fun a b F Z μ2 p2 G=>?_
 generalize eI (1+v % 3) (1+v / 3 % 3)=qs at f1 f2 nd hs G
 simp only [uU,NX,NY]
 obtain ⟨lZ,mZ⟩:=G.pl.lenZ
 have zp:1<=Z.length:=by
  obtain ⟨q,hq⟩:=Te (l:=qs) f2
  have:=G.pl.key.mpr ⟨q,hq,rfl⟩
  rw [cG] at this
  have:=RW this
  rw [NP] at this
  exact this
 have told:∀ {μ3:Hm}(p3:μ2 <+: μ3){c:Nat}{Y:Zr}(I:HI μ3 c Y)(g:μ3[c]? = some (.dT (aE Y)))(l:Y.length<64)(m:∀ z∈Y,z.2.1.length<64)(n:Int)(Q:D×Hm->Prop),(∀ μ',μ3 <+: μ'->Q (.bl true,μ'))->W (f (k+4) "_law_told" [.loc a,.loc b,.loc c,.int n] μ3) Q:=fun {μ3} p3 {c Y} I g l m n Q H=>by
  have G3:=G.more p3
  exact Nq k F G.di qs hs ⟨f2,by omega⟩ nd G3.hw G3.hi G3.hh I g G.pl (by omega) l (fun z hz=>by have:=mZ z hz;omega) m n Q H
 have tself:∀ {μ3:Hm}(p3:μ2 <+: μ3)(n:Int)(Q:D×Hm->Prop),(∀ μ',μ3 <+: μ'->Q (.bl true,μ'))->W (f (k+4) "_law_told" [.loc a,.loc b,.loc b,.int n] μ3) Q:=fun p3 n Q H=>told p3 (G.more p3).hi (G.more p3).hh (by omega) (fun z hz=>by have:=mZ z hz;omega) n Q H
 have other:∀ {μ3:Hm}(p3:μ2 <+: μ3)(n:Int)(hn:0<=n)(Q:D×Hm->Prop),(∀ c μ',nZ μ3 μ' c->Q (.loc c,μ'))->W (f (k+4) "_law_other" [.loc b,.int n] μ3) Q:=fun p3 n hn Q H=>Nw (k+3) (G.more p3).hi (G.more p3).hh ⟨zp,by omega⟩ (fun z hz=>by have:=mZ z hz;omega) n hn Q H
 rw [bG]
 simp only [bR,bP,aY,aV,aJ,aL,bO]
 refine nU (k+2) ns 8 (by decide) _ _ fun n μ3 n0 n1 p3=>?_
 simp only [NX,NY]
 rw [bG]
 simp only [bR,bP,aY,aV,aJ,aL,bO]
 refine nU (k+2) ns 1 (by decide) _ _ fun n2 μ4 n20 _ p4=>?_
 refine other (p3.trans p4) n2 n20 _ fun c μ5 S5=>?_
 obtain ⟨p5,Y,I5,g5,l5,m5⟩:=S5
 simp only [NX,NY]
 rw [bG]
 simp only [gP,uO,Lx,BC,bP,aY,aV,aJ,aL,aX,bO]
 have q5:=(p3.trans p4).trans p5
 refine tself q5 n _ fun μ6 p6=>?_
 simp only [uT,Qr,Ob,if_false]
 refine w_div7.mpr ?_
 refine told (q5.trans p6) (I5.more p6) (aO p6 g5) (by omega) (fun z hz=>by have:=m5 z hz;omega) _ _ fun μ7 p7=>?_
 simp only [uT,Qr,Ob,if_false,iG]
 have q7:=(q5.trans p6).trans p7
 rw [bG]
 simp only [bR,bP,aY,aV,aJ,aL,bO]
 refine nU (k+2) ns 7 (by decide) _ _ fun n3 μ8 n30 _ p8=>?_
 refine other (q7.trans p8) n3 n30 _ fun c' μ9 S9=>?_
 obtain ⟨p9,Y',I9,g9,l9,m9⟩:=S9
 have q9:=(q7.trans p8).trans p9
 simp only [NX,NY,w_mRet,BE,bP,aY,aV,aJ,aL,aX,bO]
 refine w_div11.mpr ?_
 refine told q9 I9 g9 (by omega) (fun z hz=>by have:=m9 z hz;omega) _ _ fun μA pA=>?_
 simp only [if_true]
 refine (eF (by decide) (by decide)).mpr ?_
 exact tself (q9.trans pA) _ _ fun μB _=>rfl
theorem NL:∀ ns:List Int,ns.length<=63->∃ μ',gM S ds 5 "law" [.rol (ns.map D.int)] []=some (.bl true,μ'):=fun ns _=>by
 obtain ⟨⟨d,μ'⟩,h1,h2⟩:=NK 0 ns []
 dsimp only at h2
 subst h2
 refine ⟨μ',?_⟩
 unfold f at h1
 exact h1
end Lw
namespace Lw
open PySem L2 L3
theorem dz (Q:Q8):pU (Kx Q) ds:=by unfold pU;kernel_rfl
theorem cz (Q:Q8):BA (Kx Q) S.con=true:=by kernel_rfl
theorem nz (Q:Q8):S.no.map (RO (Kx Q) Pk)=S.no.map fun _=>some none:=by kernel_rfl
theorem NM {P:Oo}{w:OO}{Q:Q8}
  {h:O3}{mg:Str → Option NT}(X:(Kx Q).In h)(G:h.Ns Pk mg):TxtOk P w (Kx Q) mg S ds ∧ ∃ f fd,Fun (Kx Q) "law" "law" (bL 23) f fd ∧ mg "law" = some (.ref f) ∧ ∀ (s:NV)(u:NT),TB s fd ⟨[u],[]⟩ [("_law_script",u)]:=by
 refine ⟨⟨Lm (by decide +kernel),Ln fun p hp=>(Bx X G (dz Q) p hp).1,Lo (Lu X G (cz Q)),fun x kvs e=>?_,Lp (Ls X G (nz Q))⟩,Lr X G (dz Q) (by kernel_rfl) (by kernel_rfl)⟩
 ·cases e
end Lw
open PySem PySem.W PyProof.Rows
set_option maxRecDepth 100000 in
set_option maxHeartbeats 0 in
theorem PySem.Challenge.cw_creasecourt_k61_just_such_piles_holds : PySem.Challenge.rw_creasecourt_k61_just_such_piles.Holds := by
 w_on
 refine holds_law (by decide +kernel) fun said=>?_
 refine holds_open (q:=Lw.Vw) (loose:=[]) (Xt:=fun s=>xlAt Lw.Vw [] s&&recOk (Ww (Vv (Uc O5))) s) (XP:=XL Lw.Vw []) (Yf:=Hook.obs (Xu Lw.Kx Lw.As Lw.mO)) (Ya:=Hook.val (Xu Lw.Kx Lw.As Lw.mO)) (YP:=Hook.says (Xu Lw.Kx Lw.As Lw.mO)) (N:=1526) Lw.run (Hook.of _) (Hook.keeps _) (fun s e=>xl_of s (Qy.mp e).1) XL.keeps (by rfl) (by rfl) (by rfl) (fun s e=>recFacts_of (Qy.mp e).2) (by rfl) (by first|assumption|decide +kernel) (by decide +kernel) ⟨rfl,rfl,rfl,rfl,rfl,by decide +kernel⟩ ?hw ?hc
 case hw=>w_witness2
 k_fill
 refine L3.walkM (l:=O5) (S:=Lw.S) (ds:=Lw.ds) (k:=5) (st:=Lw.bL 23) (x:="_law_script") rfl rfl ⟨rfl,by decide,by decide⟩ (fun w h Y=>PySem.W.kIn_of Y) (by kernel_rfl) (by kernel_rfl) ?F (fun ns h _=>Lw.NL ns h)
 case F=>
  intro w mg h KX G
  refine' Lw.NM (P:=O6) (w:=w)  KX G
