import PyProof.Rows.All
import Wide.All
import OpenK.AllK
import Wide.FinOn
import PyProof.EqAt
import PyProof.EqKinds
import PyProof.TupleCall
import KE.KDictSum
import PyProof.SliceStr2
import PyProof.NeKinds
import PyProof.StrWalks
import PyProof.ConsumeWalk
import KE.KSortTup
import PyProof.Rows.SetFrom
import PyProof.Rows.SortStr
import PyProof.SumAny
import PyProof.EnumMake
import KE.KRevIter
import PyProof.MeetsStr
import PyProof.ListRange
import PyProof.Rows.Range3
import KE.KDictList
import PyProof.PureStr
import PyProof.WalkInts
import PyProof.ConsumeS
import PyProof.ZipIter
import PyProof.AttrMissHeap
import KE.KDictOf
import PyProof.DictItems
import KE.KItemsList
import KE.KEqDict
import PyProof.DictValues
import PyProof.DictWalks
import PySem.Challenge.RW_creasecourt_k38_whole_counts
open Array renaming getD->OT,getElem?_toList->O8,getElem?_eq_getElem->Pp,length_toList->Qb,replicate->RB,append_assoc->SY,toList->Us
open Bool renaming false_eq_true->M8,and_eq_true->Nb,or_eq_true->O6,and_eq_true_iff->Pj,false_ne_true->Pz,not_true->P0,eq_iff_iff->Qz,true_and->Sa,not_eq_true'->TK,or_false->Uq,false_or->Ur
open Classical renaming byContradiction->Ru
open False renaming elim->Ov
open ForInStep renaming yield->Po
open Int renaming emod_nonneg->Oj,toNat_natCast->Oz,le_of_lt->O4,emod_lt_of_pos->O5,mul_le_mul_of_nonneg_left->P5,ne_of_gt->Qy,le_refl->RE,le_of_mul_le_mul_left->R8,mul_comm->Sz,mul_sub->SW,natCast_mul->Ua,lt_trans->UT,mul_pos->Vb,mul_add->Vc
open List renaming replicate->MY,length_map->MZ,set_cons_zero->M7,set_cons_succ->M9,length_cons->Na,getElem?_eq_some_iff->Ng,getElem?_eq_getElem->Nh,map_cons->Nj,length_append->Nk,size_toArray->Nl,replicate_succ->Nt,getD_eq_getElem?_getD->Nv,prefix_refl->Nw,cons_append->Nx,nil_append->NA,getElem?_append_left->NB,getElem?_map->ND,range->NF,mem_map->NG,map_map->NH,map_append->NJ,mem_cons->NN,all_cons->NQ,getElem?_set_self->NR,append_assoc->NS,getElem?_append_right->NT,mem_range->NV,mem_append_right->NX,mem_append->NY,getElem?_eq_none_iff->NZ,length_replicate->N0,getElem?_eq_none->N1,reverse_cons->N2,length_drop->N5,length_take->Oa,getElem_of_mem->Og,find?_cons->Oh,append_nil->Oi,take_append_drop->Ol,not_mem_nil->Oo,mem_cons_of_mem->Ot,nodup_cons->Ox,length_set->Oy,length_reverse->OC,filterMap_cons->OD,append_eq_nil_iff->OF,all_eq_true->OH,zip_append->OM,mem_filter->ON,pairwise_map->OP,mem_of_getElem?->OQ,getElem?_set_ne->OR,flatten_cons->OS,map_congr_left->OX,getElem?_replicate->OY,mem_cons_self->O1,getD->O7,range'->Pg,length->Ph,map_reverse->Pn,pairwise_iff_getElem->Pr,filter_append->Px,length_singleton->PK,lookup_cons->PL,getElem_mem->PM,filter_cons->PN,length_nil->P7,filter_map->P8,dropLast_concat_getLast->P9,zip_cons_cons->Qj,exists_cons_of_ne_nil->Qk,map_drop->Ql,any_cons->Qm,take_of_length_le->Qp,reverse->Qq,range_succ_eq_map->Qr,map_nil->Qs,mem_of_mem_take->QH,mem_of_mem_drop->QK,lookup->QL,drop_zero->QM,toList_toArray->Q1,sum_cons->Q3,mem_singleton->Q6,mem_replicate->Q7,mem_filterMap->Q8,ext_getElem?->Rb,of_mem_zip->RC,foldl_cons->RD,take_succ->RP,append_eq_append_iff->RV,map_take->RZ,find?_range_eq_some->R0,eq_replicate_of_mem->R6,length_eq_zero_iff->Sd,pairwise_lt_range->Sg,all_map->Sh,set_append_right->Su,perm_append_comm->Sv,length_filter_le->Sw,getElem?_reverse->Sx,cons_lt_cons_iff->Sy,reverse_reverse->SI,mem_append_left->SJ,getElem?_range->SU,getD_cons_succ->SV,foldl->S7,find?_eq_none->S8,nodup_append->TC,map_inj_left->TF,length_range->TH,filter_congr->TJ,take_length->TV,range'_succ->TX,nodup_range->TY,range_succ->T3,drop_left'->T4,take_left->T9,map_id->UP
open List.Pairwise renaming nil->UQ,imp->UR,filterMap->US
open Nat renaming le_refl->Ni,ne_of_lt->Nr,lt_of_lt_of_le->Ny,le_trans->N9,lt_irrefl->Oe,zero_le->Ou,lt_succ_self->OI,not_lt_zero->OO,lt_or_ge->Pq,lt_succ_of_lt->PD,le_of_eq->PF,not_lt->PY,le_succ->P4,zero_add->Qi,sub_zero->Qw,ne_of_gt->Qx,lt_trichotomy->Rl,lt_trans->Rm,lt_succ_iff->RM,exists_eq_add_of_le->Sf,le_of_lt->Ss,pow_le_pow_right->SS,le_of_lt_succ->TU,le_antisymm->T8,add_assoc->UC,succ_pos->UK,succ_add->UL,sub_self->UM,pow_succ->UN,add_comm->UO,log2_lt->U8,le_zero->U9,add_mul->Va,mod_lt->Vl
open Ne renaming symm->OU
open Option renaming bind_eq_some_iff->MW,map_eq_some_iff->M3,bind_some->Nn,map_some->NK,isSome_none->Q0,isSome_some->SH,getD_none->S6,none->Up
open Option.some renaming inj->Nq
open Or renaming inr->SG,inl->TR
open Prod.mk renaming inj->Qu
open PyProof.Rows renaming callWith_type1->OZ,Keyed->Pa,seqObj->Pu,sortedAll_old->Q5,SortSt->Q9,sortedAll_at->Ra,AllBare->Rh,subscriptTail->Rn,envOfC->RL,IntsAre->Si,Subscript_->So,subscriptTail_builtinR->Td,arrOf->Ux,sorted_ints->UZ,pow_int_small->U0,pow_int->U1,mul_int->U2,kindOf->U3,floordiv_int->U4,callWith_builtin1->U5,assign_Tuple_tuple->U6,assign_Tuple->U7,tail_any->Vf,mirror->Vi,SortKind->Vk
open PyProof.Rows.Boot renaming list->QD,tuple->Tj,sum->Tn,str->To,sorted->Tp,reversed->Tq,min->Tr,max->Ts,len->Tt,isinstance->Tu,int->Tv,dict->Tw,bool->Tx,all->Tz
open PyProof.Rows.SortSt renaming mk'->Qo
open PySem renaming Value->M0,Shared->M4,Expr->M5,sizeLine->Nd,wpAny_bind->Nm,sizeLine_eq->Np,Program->Nz,model->NC,wpAny->NI,starEach->NL,Around->NM,wpAny_pure->NO,World->NP,wpAny_mono->NU,mem_of_lookup->NW,Heap->N6,bootBuiltins->N7,mainGlobals->N8,Pos->Om,FuncData->OB,Obj->OE,assignEach->OG,compareOp->OV,NameKind->OW,Scope->O3,sliceBounds->O9,wpAny_Call_Name_kw->Pb,wpAny_passesOwn->Pc,binaryOp->Pd,wpAny_holding->Pe,backTo->Pk,wpAny_truthy_bool->Pl,wpAny_pyIter_list->Pm,sysModules->Pt,Params->PB,wpAny_ite_split->PC,foldedSetIterable->PQ,compEnvC->PR,cLine->PU,Keyword->PZ,swapsWith->Qc,behindInMarks->Qg,Paired->Qv,SetTable->QC,DictEntry->QF,codeAny->QR,wpAny_specialOf->QX,wpAny_execs_nil->QY,letOwnedTupleGo->QZ,Env->Rf,attributeBase->Ro,CmpOp->Rt,wpAny_pyIter_tuple->Rw,assign->Rz,valueAt->RG,slot_list_getitem->RH,callerA->RI,BindsTo->RO,tupleKind->RQ,PassesOwn->RU,subscripted->RW,keywordEach->RX,getItem->Se,typeLookup->Sj,call_meets->Sl,bindArgs->Sm,atKey->Sn,Operator->Sr,wpAny_standAt->SM,wpAny_getItem_list_slice->SN,swappedStores->SO,slicePick->S0,bindL->S2,bindC->S3,wpAny_pyNext_list_item->Ta,wpAny_Assign_Subscript->Tc,seqIndex_neg->Te,isTrue->Tf,codeAny_mono->Tg,wpAny_pyNext_list_end->TL,builtinLookup_eq_fast->TM,seqIndex_of->TZ,backToKw->T1,IntMulOk->T5,GenState->T6,wpAny_Name->Ub,typeIs_str->Uc,typeIs_int->Ud,tupleKind_room_in1->Ue,sliceRange->Ug,rawInt->Uh,pyIter->Ui,closureFor->Uk,builtinsNs->Ul,Result->Um,wpAny_pyIter_enum->Ut,wpAny_assign_Name->Uu,relabel->Uv,call_sum_walkAnyS->Uw,wpAny_execs_cons->UD,cellsFrom->UE,Tok->UG,Sem->UH,call->UI,typeLookup_type->UY,recursionLimit->Vg,pyNext->Vh,Model->Vm
open PySem.Builtin.Int renaming intBits->Nf,intTooBig->Py
open PySem.Builtin.List renaming listExtendWith->O0,listTooLong->Qa,listLengthHint->Q4,listSameRef->Rg,listItems->Rv,listUpdate->Ve
open PySem.Builtin.Range renaming rangeSize->UX
open PySem.Builtin.Str renaming glued->Oq,tooLong->PH
open PySem.Builtin.Tuple renaming tupleHashOf->UW
open PySem.Calls renaming Name_function_global->RN,spliced_cons->SX,spliced_nil->S9
open PySem.Challenge renaming rw_creasecourt_k38_whole_counts->N3,pw_creasecourt_k38_whole_counts->N4
open PySem.Data renaming fields->SK,dict->Vo,cell->Vp
open PySem.Heap renaming get?_push_of_some->M6,lt_size->Nc,get?_push_size->Nu,get?_update_other->O2,size_push->QN,SameBut->Rc,get?_update_self->SA,ExtBut->UU
open PySem.Heap.DictOf renaming new->Vn
open PySem.Heap.IsSliceOf renaming new->RF
open PySem.Heap.IsTuple renaming push->QU
open PySem.Heap.SameBut renaming refl->Vd
open PySem.NameKind renaming free->OA,cell->OL
open PySem.Obj renaming mapSeq->Of
open PySem.Paired renaming length->QV,snoc->Uo
open PySem.PassesOwn renaming never->SF
open PySem.SeqAt renaming ne_of_list_tuple->Od
open PySem.SetTable renaming below->P6,slot->Th,has->TN
open PySem.SetTable.below renaming go->PX
open PySem.SetTable.layClean renaming free->P2
open PySem.SetTable.probe renaming go->PV
open PySem.Str renaming ofString->Sq
open PySem.Value renaming type->Pw,ref->PJ,none->Qh,str->Ri,int->RY,bool->SQ,isStrOf->T7,isInt->UA
open PySem.W renaming Frag->MX,keepIn->Ob,kasC_bind->Oc,kia_one->OJ,fnOf->OK,kasC_pure->Qd,findIn->Qe,nsIn->Qn,codeIn->Qt,methodObj->Q2,kasC_range->Ry,mg_of->RK,hashAt->RR,cellsFrom_some->RT,kasC_get->Sk,specialIn->SD,kitx_list->SE,plainGet->SR,kasC_cons->S1,instObj->S4,OpenLaw->S5,kitOne->Ti,WalkO->TQ,isFn->T2,kasC->Uj,kHook->Vj
open PySem.W.OpenLaw renaming row->Sb
open PySem.W.OpenRow renaming toRowW->TB
open PySem.W.RowW renaming records->UB
open PySem.W.WData renaming int->P1,weightAll->Qf,layable->Rq,weight->RA,layableAll->UJ
open PySem.W.WShape renaming has->Uz
open PySem.Walks renaming list->RJ,tuple->Uy
open Sum renaming inr->Rj,inl->Rk
open True renaming intro->Pf
local macro_rules|`(tactic| omega) => `(tactic| lia)
set_option compiler.extract_closed false
set_option Elab.async false
set_option linter.all false
set_option maxRecDepth 100000
set_option linter.all false
namespace L2
open PySem PySem.Spec PyProof.Rows
noncomputable abbrev aF:=Sum Int Str
noncomputable def iW:aF->M0->Bool
 | .inl k,v=>UA k v
 | .inr x,v=>T7 x v
noncomputable def uU (w:NP):aF->Int
 | .inl k=>hashInt k
 | .inr x=>hashStr w x
theorem gN:∀ {k:aF}{v:M0},iW k v=true->(∃ i t,k=Rk i/\v=RY i t)\/(∃ x t,k=Rj x/\v=Ri x t)
 | .inl i,v,h=>by
  obtain ⟨t,e⟩:=Value.isInt_shape (k:=i) (v:=v) h
  exact .inl ⟨i,t,rfl,e⟩
 | .inr x,v,h=>by
  obtain ⟨t,e⟩:=Value.isStrOf_shape (x:=x) (v:=v) h
  exact .inr ⟨x,t,rfl,e⟩
theorem Bs (i:Int)(t:UG):iW (.inl i) (.int i t)=true:=by simp [iW,UA]
theorem Bt (x:Str)(t:UG):iW (.inr x) (.str x t)=true:=by simp [iW,T7]
theorem Bu (a b:Int):decide ((Rk a:aF)=Rk b)=(a == b):=by
 by_cases e:a=b
 ·subst e;simp
 ·have h:¬ (Rk a:aF)=Rk b:=fun q=>e (Sum.inl.inj q)
  rw [decide_eq_false h]
  exact (beq_eq_false_iff_ne.mpr e).symm
theorem Bv (a b:Str):decide ((Rj a:aF)=Rj b)=decide (a=b):=by
 by_cases e:a=b
 ·subst e;simp
 ·have h:¬ (Rj a:aF)=Rj b:=fun q=>e (Sum.inr.inj q)
  rw [decide_eq_false h,decide_eq_false e]
theorem Bw (a:Int)(b:Str):decide ((Rk a:aF)=Rj b)=false:=decide_eq_false (fun q=>nomatch q)
theorem Bx (a:Str)(b:Int):decide ((Rj a:aF)=Rk b)=false:=decide_eq_false (fun q=>nomatch q)
noncomputable def cS (prog:Nz)(w:NP):PySem.KeyKind prog w aF where
 is:=iW
 hash:=uU w
 inj:=fun v a b ha hb=>by
  rcases gN ha with ⟨i,t,rfl,rfl⟩|⟨x,t,rfl,rfl⟩
  ·rcases gN hb with ⟨j,u,rfl,e⟩|⟨y,u,rfl,e⟩
   ·injection e with e1 _;rw [e1]
   ·exact nomatch e
  ·rcases gN hb with ⟨j,u,rfl,e⟩|⟨y,u,rfl,e⟩
   ·exact nomatch e
   ·injection e with e1 _;rw [e1]
 byValue:=fun k v h=>by
  rcases gN h with ⟨i,t,rfl,rfl⟩|⟨x,t,rfl,rfl⟩<;>rfl
 pyHash:=fun hv h=>by
  rcases gN hv with ⟨i,t,rfl,rfl⟩|⟨x,t,rfl,rfl⟩
  ·exact wpAny_pyHash_int h
  ·exact wpAny_pyHash_str h
 eqBool:=fun hu hv h=>by
  rcases gN hu with ⟨i,t,rfl,rfl⟩|⟨x,t,rfl,rfl⟩
  ·rcases gN hv with ⟨j,u,rfl,rfl⟩|⟨y,u,rfl,rfl⟩
   ·rw [Bu] at h;exact wpAny_eqBool_int h
   ·rw [Bw] at h;exact SeqAt.EqAt.int_str i t y u _ _ _ _ h
  ·rcases gN hv with ⟨j,u,rfl,rfl⟩|⟨y,u,rfl,rfl⟩
   ·rw [Bx] at h;exact SeqAt.EqAt.str_int x t j u _ _ _ _ h
   ·rw [Bv] at h;exact wpAny_eqBool_str h
 «strs»:=fun k x t v h=>by
  rcases gN h with ⟨i,u,rfl,e⟩|⟨y,u,rfl,e⟩
  ·exact nomatch e
  ·injection e with e1 _
   subst e1
   cases v<;>rfl
theorem By (prog:Nz)(w:NP)(i:Int)(t:UG):(cS prog w).is (.inl i) (.int i t)=true:=Bs i t
theorem Bz (prog:Nz)(w:NP)(x:Str)(t:UG):(cS prog w).is (.inr x) (.str x t)=true:=Bt x t
end L2
namespace L2
open PySem PySem.Spec PyProof.Rows
inductive V where
 | non|bl (b:Bool)|int (i:Int)|str (x:Str)|byt (b:Array UInt8)|flt (b:UInt64)|ref (a:Addr)|ty (n:String)
 deriving DecidableEq
noncomputable def RelV:V->M0->Prop
 | .non,u=>u=Qh
 | .bl b,u=>u=SQ b
 | .int i,u=>∃ t,u=RY i t
 | .str x,u=>∃ t,u=Ri x t
 | .byt b,u=>∃ t,u=Value.bytes b t
 | .flt b,u=>∃ t,u=Value.float b t
 | .ref a,u=>u=PJ a
 | .ty n,u=>u=Pw n
noncomputable abbrev Vals:List V->List M0->Prop:=Qv RelV
theorem Vals.length {xs:List V}{us:List M0}(r:Vals xs us):xs.length=us.length:=QV r
theorem Vals.get:∀ {xs:List V}{us:List M0}{i:Nat}{x:V},Vals xs us->xs[i]? = some x->∃ u,us[i]? = some u/\RelV x u
 | _,_,_,_,.nil,e=>by simp at e
 | _,_,0,_,.cons r _,e=>by simp at e;subst e;exact ⟨_,rfl,r⟩
 | _,_,i+1,x,.cons _ t,e=>by
  obtain ⟨u,h1,h2⟩:=Vals.get (i:=i) (x:=x) t (by simpa using e)
  exact ⟨u,by simpa using h1,h2⟩
theorem Vals.set {x:V}{u:M0}(r:RelV x u):∀ {xs:List V}{us:List M0}(i:Nat),Vals xs us->Vals (xs.set i x) (us.set i u)
 | _,_,_,.nil=>.nil
 | _,_,0,.cons _ t=>.cons r t
 | _,_,i+1,.cons q t=>.cons q (Vals.set r i t)
theorem Vals.append:∀ {xs ys:List V}{us ws:List M0},Vals xs us->Vals ys ws->Vals (xs++ys) (us++ws)
 | _,_,_,_,.nil,s=>s
 | _,_,_,_,.cons r t,s=>.cons r (Vals.append t s)
theorem Vals.take:∀ {xs:List V}{us:List M0}(n:Nat),Vals xs us->Vals (xs.take n) (us.take n)
 | _,_,0,_=>.nil
 | _,_,_+1,.nil=>.nil
 | _,_,n+1,.cons r t=>.cons r (Vals.take n t)
theorem Vals.drop:∀ {xs:List V}{us:List M0}(n:Nat),Vals xs us->Vals (xs.drop n) (us.drop n)
 | _,_,0,r=>r
 | _,_,_+1,.nil=>.nil
 | _,_,n+1,.cons _ t=>Vals.drop n t
noncomputable def RelO:Option V->Option M0->Prop
 | some v,some u=>RelV v u
 | none,none=>True
 | _,_=>False
noncomputable def KV {κ:Type}:List (κ×V)->List (κ×M0)->Prop:=Qv fun (p:κ×V)(q:κ×M0)=>p.1=q.1/\RelV p.2 q.2
noncomputable def kV:aF->V
 | .inl i=>.int i
 | .inr x=>.str x
inductive HO where
 | lst (xs:List V)
 | tup (xs:List V)
 | dK (kvs:List (aF×V))|dT (kvs:List (List aF×V))
 | set (S:Int->Bool)(n:Nat)
 | ins (C dx:Addr)(fs:List (Str×V))
 | own (x:Addr)
 | xd (fs:List (Str×V))
 | met (f x:Addr)
 | rng (lo hi:Int)
 | frz (o:OE)(u:HO)
 | tbl (ps:Array M0)
 | ext (φ:N6->Prop)
noncomputable abbrev Hp:=Addr->Option HO
noncomputable def aV (H:Hp)(a:Addr)(o:HO):Hp:=fun b=>if b=a then some o else H b
theorem eB {H:Hp}{a:Addr}{o:HO}:aV H a o a=some o:=by unfold aV;rw [if_pos rfl]
theorem bS {H:Hp}{a b:Addr}{o:HO}(h:b≠a):aV H a o b=H b:=by unfold aV;rw [if_neg h]
theorem BA {H:Hp}{a b:Addr}{o u:HO}(h:H a=some o)(h':H b=some u)(d:o≠u):a≠b:=by
 intro e;subst e;rw [h] at h';exact d (Nq h')
theorem eL {H:Hp}{a b:Addr}{o:HO}(h:H a=some o)(h':H b=none):a≠b:=by
 intro e;subst e;rw [h] at h';cases h'
section
variable (P:Nz)(w:NP)
noncomputable def TupN (h:N6)(a:Addr)(xs:Array M0):Prop:=∃ o,h.get? a=some o/\o.cls=.type "tuple"/\∃ n,o.data=.seq xs n/\o.dict=none
theorem TupN.tup {h:N6}{a:Addr}{xs:Array M0}(x:TupN h a xs):IsTup h a xs:=let ⟨o,e,c,n,d,_⟩:=x;⟨o,e,c,n,d⟩
theorem TupN.new (h:N6)(items:Array M0):TupN (h.push { cls:=.type "tuple",data:=.seq items }) h.objs.size items:=⟨_,Nu _ rfl,rfl,_,rfl,rfl⟩
noncomputable def ObjOk (H:Hp)(h:N6)(a:Addr):HO->Prop
 | .lst xs=>xs.length<=Nd/\∃ (its:List M0)(n:Nat),Vals xs its/\h.get? a=some { cls:=.type "list",data:=.seq its.toArray n }
 | .tup xs=>xs.length<=Nd/\∃ its:List M0,Vals xs its/\TupN h a its.toArray
 | .dK kvs=>kvs.length<=Nd/\(a == Pt)=false/\∃ vs,KV kvs vs/\h.DictOf (cS P w) a vs
 | .dT kvs=>kvs.length<=Nd/\(a == Pt)=false/\∃ xs:List (List aF×Addr×M0),
   Qv (fun (p:List aF×V)(q:List aF×Addr×M0)=>p.1=q.1/\H q.2.1=some (.tup (p.1.map kV))/\RelV p.2 q.2.2) kvs xs /\
   ∃ o es ep,h.get? a=some o/\o.ExactDict/\o.data=.dict es ep/\es.toList=xs.map (entryOfKey (RQ (cS P w)))/\(xs.map (·.1)).Nodup
 | .set S n=>h.SetOf (intKind P w) a S n
 | .ins C dx fs=>H dx=some (.own a)/\fs.length<=1000/\dx≠a/\h.get? a=some (S4 C dx) /\
   ∃ mA,h.Ns1 dx mA/\(∀ f,RelO (fs.lookup f) (mA f))/\PySem.Within mA (fs.map (·.1))
 | .own _=>∃ o,h.get? a=some o
 | .xd fs=>∃ mA,h.Ns1 a mA/\∀ f,RelO (fs.lookup f) (mA f)
 | .rng lo hi=>∃ t u v,h.get? a=some { cls:=.type "range",data:=.fields #[.int lo t,.int hi u,.int 1 v] }
 | .frz o u=>h.get? a=some o/\ObjOk H h a u
 | .tbl ps=>h.get? a=some { cls:=.none,data:=.fields ps }
 | .met f x=>h.get? a=some (Q2 (.ref f) (.ref x))
 | .ext φ=>φ h/\(∃ o,h.get? a=some o)/\∀ h1 h2:N6,φ h1->(∀ o,h1.get? a=some o->h2.get? a=some o)->φ h2
noncomputable def HOk (H:Hp)(h:N6):Prop:=∀ a o,H a=some o->ObjOk P w H h a o
end
section
variable {P:Nz}{w:NP}{H H':Hp}{h h':N6}{a:Addr}{o:HO}
theorem ObjOk.lt (x:ObjOk P w H h a o):a<h.objs.size:=by
 cases o with
 | lst xs=>obtain ⟨_,_,_,_,e⟩:=x;exact Nc e
 | tup xs=>obtain ⟨_,_,_,p⟩:=x;exact p.tup.lt
 | dK kvs=>obtain ⟨_,_,_,_,o,_,_,e,_⟩:=x;exact Nc e
 | dT kvs=>obtain ⟨_,_,_,_,o,_,_,e,_⟩:=x;exact Nc e
 | set S n=>obtain ⟨o,_,_,_,e,_⟩:=x;exact Nc e
 | ins C dx fs=>obtain ⟨_,_,_,e,_⟩:=x;exact Nc e
 | own y=>obtain ⟨_,e⟩:=x;exact Nc e
 | xd fs=>obtain ⟨_,⟨_,_,_,e,_⟩,_⟩:=x;exact Nc e
 | rng lo hi=>obtain ⟨_,_,_,e⟩:=x;exact Nc e
 | frz ob u=>obtain ⟨e,_⟩:=x;exact Nc e
 | tbl ps=>exact Nc (show h.get? a=some _ from x)
 | met f y=>exact Nc (show h.get? a=some _ from x)
 | ext φ=>obtain ⟨_,⟨_,e⟩,_⟩:=x;exact Nc e
theorem Qv.mapP {α β:Type}{F G:α->β->Prop}:∀ {l₁:List α}{l₂:List β},Qv F l₁ l₂->(∀ a b,F a b->G a b)->Qv G l₁ l₂
 | _,_,.nil,_=>.nil
 | _,_,.cons r t,f=>.cons (f _ _ r) (Qv.mapP t f)
theorem ObjOk.stay (x:ObjOk P w H h a o)(k:∀ b u,(b=a\/H b=some (.own a))->h.get? b=some u->h'.get? b=some u)
  (ho:∀ b,H b=some (.own a)->H' b=some (.own a))(ht:∀ b xs,H b=some (.tup xs)->H' b=some (.tup xs)):ObjOk P w H' h' a o:=by
 induction o with
 | lst xs=>obtain ⟨z,its,n,r,e⟩:=x;exact ⟨z,its,n,r,k _ _ (.inl rfl) e⟩
 | tup xs=>obtain ⟨z,its,r,ob,e,c⟩:=x;exact ⟨z,its,r,ob,k _ _ (.inl rfl) e,c⟩
 | dK kvs=>obtain ⟨z,y,vs,r,ob,es,ep,e,c⟩:=x;exact ⟨z,y,vs,r,ob,es,ep,k _ _ (.inl rfl) e,c⟩
 | dT kvs=>
  obtain ⟨z,y,xs,r,ob,es,ep,e,c⟩:=x
  exact ⟨z,y,xs,Qv.mapP r fun p q z=>⟨z.1,ht _ _ z.2.1,z.2.2⟩,ob,es,ep,k _ _ (.inl rfl) e,c⟩
 | set S n=>obtain ⟨ob,es,ep,t,e,c⟩:=x;exact ⟨ob,es,ep,t,k _ _ (.inl rfl) e,c⟩
 | ins C dx fs=>
  obtain ⟨d,z,ne,e,mA,⟨od,es,ep,e2,c⟩,r⟩:=x
  exact ⟨ho _ d,z,ne,k _ _ (.inl rfl) e,mA,⟨od,es,ep,k _ _ (.inr d) e2,c⟩,r⟩
 | own y=>obtain ⟨ob,e⟩:=x;exact ⟨ob,k _ _ (.inl rfl) e⟩
 | xd fs=>obtain ⟨mA,⟨od,es,ep,e,c⟩,r⟩:=x;exact ⟨mA,⟨od,es,ep,k _ _ (.inl rfl) e,c⟩,r⟩
 | rng lo hi=>obtain ⟨t,u,v,e⟩:=x;exact ⟨t,u,v,k _ _ (.inl rfl) e⟩
 | frz ob u ih=>obtain ⟨e,q⟩:=x;exact ⟨k _ _ (.inl rfl) e,ih q⟩
 | tbl ps=>
  have e:h.get? a=some { cls:=.none,data:=.fields ps }:=x
  show h'.get? a=some { cls:=.none,data:=.fields ps }
  exact k a _ (.inl rfl) e
 | met f y=>
  have e:h.get? a=some (Q2 (.ref f) (.ref y)):=x
  show h'.get? a=some (Q2 (.ref f) (.ref y))
  exact k a _ (.inl rfl) e
 | ext φ=>obtain ⟨p,⟨o,e⟩,st⟩:=x;exact ⟨st _ _ p fun o q=>k _ _ (.inl rfl) q,⟨o,k _ _ (.inl rfl) e⟩,st⟩
theorem HOk.lt (x:HOk P w H h)(e:H a=some o):a<h.objs.size:=(x a o e).lt
theorem HOk.fresh (x:HOk P w H h)(e:h.objs.size<=a):H a=none:=by
 cases q:H a with
 | none=>rfl
 | some u=>exact absurd (Ny (x.lt q) e) (Oe _)
theorem HOk.kept (x:HOk P w H h)(k:∀ b u,h.get? b=some u->h'.get? b=some u):HOk P w H h':=fun a o e=>
 (x a o e).stay (fun b u _ q=>k b u q) (fun _ q=>q) fun _ _ q=>q
theorem HOk.laid (x:HOk P w H h)(k:∀ b u,h.get? b=some u->h'.get? b=some u)(hp:h.objs.size<=a)(new:ObjOk P w (aV H a o) h' a o):HOk P w (aV H a o) h':=fun b u e=>by
 have hn:=x.fresh hp
 by_cases hb:b=a
 ·subst hb;rw [eB] at e;cases e;exact new
 ·rw [bS hb] at e
  exact (x b u e).stay (fun c v _ q=>k c v q) (fun c q=>by rw [bS (eL q hn)];exact q) fun c xs q=>by rw [bS (eL q hn)];exact q
end
noncomputable def Rd (H:Hp)(a:Addr)(u:HO):Prop:=H a=some u\/∃ o,H a=some (.frz o u)
theorem Rd.of {H:Hp}{a:Addr}{u:HO}(h:H a=some u):Rd H a u:=.inl h
theorem Rd.ok {P:Nz}{w:NP}{H:Hp}{h:N6}{a:Addr}{u:HO}(r:Rd H a u)(x:HOk P w H h):ObjOk P w H h a u:=by
 rcases r with r|⟨o,r⟩
 ·exact x a u r
 ·obtain ⟨_,q⟩:=x a _ r
  exact q
noncomputable def lR:Option HO->Prop
 | some (.lst _)=>True
 | some (.dK _)=>True
 | some (.dT _)=>True
 | some (.set _ _)=>True
 | some (.ins _ _ _)=>True
 | some (.ext _)=>True
 | _=>False
section
variable {P:Nz}{w:NP}{H:Hp}{h h':N6}{x e:Addr}{o':HO}
theorem HOk.write (ok:HOk P w H h)(mu:lR (H x))(he:e=x\/H e=some (.own x))(k:∀ b u,b≠e->h.get? b=some u->h'.get? b=some u)(heo:∃ u,h'.get? e=some u)
  (new:ObjOk P w (aV H x o') h' x o'):HOk P w (aV H x o') h':=fun b u q=>by
 have nown:∀ c y,H c=some (.own y)->c≠x:=fun c y r z=>by subst z;rw [r] at mu;exact mu
 have ntup:∀ c xs,H c=some (.tup xs)->c≠x:=fun c xs r z=>by subst z;rw [r] at mu;exact mu
 by_cases hb:b=x
 ·subst hb;rw [eB] at q;cases q;exact new
 ·rw [bS hb] at q
  by_cases hbe:b=e
  ·have q':H b=some (.own x):=by
    rcases he with z|z
    ·exact absurd (hbe.trans z) hb
    ·rw [hbe];exact z
   rw [q] at q';cases q'
   obtain ⟨v,hv⟩:=heo
   exact ⟨v,by rw [hbe];exact hv⟩
  ·refine (ok b u q).stay (fun c v hc r=>k c v ?_ r) (fun c r=>by rw [bS (nown c b r)];exact r) fun c xs r=>by rw [bS (ntup c xs r)];exact r
   rcases hc with rfl|hc
   ·exact hbe
   ·rintro rfl
    rcases he with z|z
    ·exact nown c b hc z
    ·rw [hc] at z;cases z;exact hb rfl
end
structure Un (fs ex:List Addr)(H H':Hp)(h h':N6):Prop where
 keep:∀ b o,h.get? b=some o->H b=none->b∉fs->b∉ex->h'.get? b=some o
 slot:∀ b o,h.get? b=some o->H b=none->b∈fs->b∉ex->∃ sl,h'.get? b=some { o with slots:=sl }
 free:∀ b o,h.get? b=some o->H b=none->b∉ex->H' b=none
 there:∀ b o,h.get? b=some o->b∉ex->∃ o',h'.get? b=some o'
 tups:∀ b xs,H b=some (.tup xs)->H' b=some (.tup xs)
 frzs:∀ b o u,H b=some (.frz o u)->H' b=some (.frz o u)
 tbls:∀ b ps,H b=some (.tbl ps)->∃ more,H' b=some (.tbl (ps++more))
section
variable {fs fs' ex ex':List Addr}{H H1 H2:Hp}{h h1 h2 h':N6}{a x e:Addr}{o:HO}
theorem Un.any (u:Un fs ex H H1 h h1){b:Addr}{ob:OE}(q:h.get? b=some ob)(n:H b=none)(hx:b∉ex):∃ sl,h1.get? b=some { ob with slots:=sl }:=by
 by_cases hb:b∈fs
 ·exact u.slot b ob q n hb hx
 ·exact ⟨ob.slots,u.keep b ob q n hb hx⟩
theorem Un.trans (a:Un fs ex H H1 h h1)(b:Un fs ex H1 H2 h1 h2):Un fs ex H H2 h h2 where
 keep:=fun c ob q n hc hx=>b.keep c ob (a.keep c ob q n hc hx) (a.free c ob q n hx) hc hx
 slot:=fun c ob q n hc hx=>by
  obtain ⟨sl,e1⟩:=a.slot c ob q n hc hx
  obtain ⟨sl',e2⟩:=b.slot c _ e1 (a.free c ob q n hx) hc hx
  exact ⟨sl',e2⟩
 free:=fun c ob q n hx=>by
  obtain ⟨o',e1⟩:=a.there c ob q hx
  exact b.free c o' e1 (a.free c ob q n hx) hx
 there:=fun c ob q hx=>by
  obtain ⟨o',e1⟩:=a.there c ob q hx
  exact b.there c o' e1 hx
 tups:=fun c xs q=>b.tups c xs (a.tups c xs q)
 frzs:=fun c ob xs q=>b.frzs c ob xs (a.frzs c ob xs q)
 tbls:=fun c ps q=>by
  obtain ⟨m1,e1⟩:=a.tbls c ps q
  obtain ⟨m2,e2⟩:=b.tbls c _ e1
  exact ⟨m1++m2,by rw [e2,SY]⟩
theorem Un.kept (k:∀ b u,h.get? b=some u->h'.get? b=some u):Un fs ex H H h h':=
 ⟨fun b ob q _ _ _=>k b ob q,fun b ob q _ _ _=>⟨ob.slots,k b ob q⟩,fun _ _ _ n _=>n,fun b ob q _=>⟨ob,k b ob q⟩,fun _ _ q=>q,fun _ _ _ q=>q,fun _ ps q=>⟨#[],by rw [q];simp⟩⟩
theorem Un.refl:Un fs ex H H h h:=Un.kept fun _ _ q=>q
theorem Un.laid (k:∀ b u,h.get? b=some u->h'.get? b=some u)(hp:h.objs.size<=a)(hn:H a=none):Un fs ex H (aV H a o) h h' where
 keep:=fun b u q _ _ _=>k b u q
 slot:=fun b u q _ _ _=>⟨u.slots,k b u q⟩
 free:=fun b u q n _=>by rw [bS (Nr (Ny (Nc q) hp))];exact n
 there:=fun b u q _=>⟨u,k b u q⟩
 tups:=fun b xs q=>by rw [bS (eL q hn)];exact q
 frzs:=fun b u xs q=>by rw [bS (eL q hn)];exact q
 tbls:=fun b ps q=>⟨#[],by rw [bS (eL q hn),q];simp⟩
theorem Un.write (mu:lR (H x))(he:e=x\/H e=some (.own x))(k:∀ b u,b≠e->h.get? b=some u->h'.get? b=some u)(heo:∃ u,h'.get? e=some u):Un fs ex H (aV H x o) h h':=by
 have hx:∀ b,H b=none->b≠x:=fun b n z=>by subst z;rw [n] at mu;exact mu
 have hb:∀ b,H b=none->b≠e:=fun b n z=>by
  subst z
  rcases he with r|r
  ·exact hx b n r
  ·rw [n] at r;cases r
 have hm:∀ b u,H b=some u->¬ lR (some u)->b≠x:=fun b u q nm z=>by subst z;rw [q] at mu;exact nm mu
 refine ⟨fun b u q n _ _=>k b u (hb b n) q,fun b u q n _ _=>⟨u.slots,k b u (hb b n) q⟩,fun b u q n _=>by rw [bS (hx b n)];exact n,fun b u q _=>?_,
  fun b xs q=>by rw [bS (hm b _ q fun z=>z)];exact q,fun b u xs q=>by rw [bS (hm b _ q fun z=>z)];exact q,fun b ps q=>⟨#[],by rw [bS (hm b _ q fun z=>z),q];simp⟩⟩
 by_cases hbe:b=e
 ·subst hbe;exact heo
 ·exact ⟨u,k b u hbe q⟩
theorem Un.mono (u:Un fs ex H H1 h h1)(hs:∀ b∈fs,b∈fs')(hx:∀ b∈ex,b∈ex'):Un fs' ex' H H1 h h1:=
 ⟨fun b ob q n hb he=>u.keep b ob q n (fun z=>hb (hs b z)) fun z=>he (hx b z),fun _ _ q n _ he=>u.any q n fun z=>he (hx _ z),fun b ob q n he=>u.free b ob q n fun z=>he (hx b z),fun b ob q he=>u.there b ob q fun z=>he (hx b z),u.tups,u.frzs,u.tbls⟩
end
noncomputable def nB (h:N6)(H:Hp):List Addr:=(NF h.objs.size).filter fun a=>(H a).isSome
noncomputable def gO (h:N6)(H:Hp):N6:=PySem.W.hideAll h (nB h H)
theorem BB (h:N6)(H:Hp):(gO h H).objs.size=h.objs.size:=PySem.W.hideAll_size _ _
theorem BC {h:N6}{H:Hp}{b:Addr}{o:OE}(e:h.get? b=some o)(n:H b=none):(gO h H).get? b=some o:=
 PySem.W.hideAll_get _ e fun hm=>by
  have q:(H b).isSome=true:=(ON.mp hm).2
  rw [n] at q;simp at q
theorem BE {h:N6}{H:Hp}{b:Addr}{o:OE}(e:(gO h H).get? b=some o):h.get? b=some o/\H b=none:=by
 have e':h.get? b=some o:=PySem.W.of_hideAll (nB h H) e
 refine ⟨e',?_⟩
 cases q:H b with
 | none=>rfl
 | some x=>
  have hm:b∈nB h H:=ON.mpr ⟨NV.mpr (Nc e'),by simp [q]⟩
  have z:(gO h H).get? b=none:=PySem.W.hideAll_none (nB h H) hm
  rw [z] at e;cases e
noncomputable def BF (g h:N6)(L:Addr):List (Addr×OE):=(NF h.objs.size).filterMap fun a=>if a=L\/(g.get? a).isSome=true then none else (h.get? a).map fun o=>(a,o)
noncomputable def rest (g h:N6)(L d:Addr):List (Addr×OE):=(BF g h L).filter fun p=>decide (p.1≠d)
end L2
namespace L2
open PySem PySem.Spec PyProof.Rows
structure Mod (K:MX)(mg:Str->Option M0)(base:N6):Prop where
 kin:K.In base
 glob:base.Ns N8 mg
 blt:∃ mb,base.Ns Ul mb/\∀ x:Str,x ≠ "__name__"->mb x=N7 x
 nolimit:base.NoLimit
structure Cx where
 prog:Nz
 w:NP
 K:MX
 mg:Str->Option M0
 base:N6
 A:NM
 N:List Str
 s₀:M4
 H₀:Hp
 env:Rf
 outer:List Rf
 stack:List Rf
 ex:List Addr
 fn:Str->Bool
 calm:Bool
 pn:List (Addr×OE)
 xe:M0->M4->Prop
noncomputable def eM (l:List Rf):List Addr:=l.filterMap (·.frame)
noncomputable abbrev Cx.fs (X:Cx):List Addr:=eM X.outer
noncomputable def lS (sc:O3)(x:Str):Prop:=sc.names.lookup x=some .local\/sc.names.lookup x=some .cell\/sc.names.lookup x=some .free
noncomputable def Loc (sc:O3)(x:Str):Prop:=sc.names.lookup x=some .local\/sc.names.lookup x=some .cell
noncomputable def BG (env:Rf)(h:N6)(m:Str->Option M0)(x:Str)(u:M0):Prop:=
 (env.kindOf x=some .local/\m x=some u)\/((env.kindOf x=some .cell\/env.kindOf x=some .free)/\∃ c,env.cells.lookup x=some c/\h.IsCell c (some u))
structure Cx.Ok (X:Cx):Prop where
 mod:Mod X.K X.mg X.base
 kind:X.env.scope.kind=.function
 glob:X.env.globals=N8
 blt:X.env.builtins=Ul
 above:X.s₀.heap.objs.size<=X.env.locals
 inj:∀ x y c,X.env.cells.lookup x=some c->X.env.cells.lookup y=some c->x=y
 has:∀ x,(X.env.kindOf x=some .cell\/X.env.kindOf x=some .free)->∃ c,X.env.cells.lookup x=some c
 cab:∀ x c,X.fn x=true->X.env.cells.lookup x=some c->X.s₀.heap.objs.size<=c
 hd:X.calm=true->X.A.handled=none
 frames:X.A.frames=some X.stack
 stk:X.stack=X.outer\/(X.stack=X.env::X.outer/\X.env.frame=some X.env.locals)
 exf:∀ b∈X.ex,b≠X.env.locals/\∀ x c,X.env.cells.lookup x=some c->c≠b
 bs:∀ b o,X.base.get? b=some o->X.s₀.heap.get? b=some o/\X.H₀ b=none
 bsz:X.base.objs.size<=X.s₀.heap.objs.size
 noex:∀ b o,X.base.get? b=some o->b∉X.ex
 exfs:∀ b∈X.ex,b∉X.fs
 funs:X.s₀.heap.FunFrames X.base X.outer
 frf:∀ b∈X.fs,X.H₀ b=none
structure Inv (X:Cx)(Vq:List (Addr×OE))(σ:List (Option V))(H:Hp)(s:M4):Prop where
 ok:X.Ok
 os:s.os=X.s₀.os
 bare:Rh s.gens
 base:Un X.fs X.ex X.H₀ H X.s₀.heap s.heap
 loc:∃ m,s.heap.Ns X.env.locals m/\∀ (i:Nat)(x:Str)(v:V),X.N[i]? = some x->σ[i]? = some (some v)->lS X.env.scope x->∃ u,RelV v u/\BG X.env s.heap m x u
 cell:∀ x c,X.env.cells.lookup x=some c->∃ v,s.heap.IsCell c v
 free:H X.env.locals=none
 freeC:∀ x c,X.env.cells.lookup x=some c->H c=none
 pin:∀ p∈X.pn++Vq,s.heap.get? p.1=some p.2/\H p.1=none/\p.1≠X.env.locals/\p.1∉X.fs/\∀ v,p.2.data≠.cell v
 hok:HOk X.prog X.w H s.heap
 len:σ.length=X.N.length
section
variable {X:Cx}{Vq:List (Addr×OE)}{σ:List (Option V)}{H H':Hp}{s:M4}{h':N6}
theorem Cx.Ok.nofr (ok:X.Ok){b:Addr}{o:OE}(e:X.base.get? b=some o):b∉X.fs:=fun hb=>by
 have:=(ok.funs.mem hb).1
 rw [e] at this;cases this
theorem Inv.bs (I:Inv X Vq σ H s):∀ b o,X.base.get? b=some o->s.heap.get? b=some o/\H b=none:=fun b o e=>
 ⟨I.base.keep b o (I.ok.bs b o e).1 (I.ok.bs b o e).2 (I.ok.nofr e) (I.ok.noex b o e),I.base.free b o (I.ok.bs b o e).1 (I.ok.bs b o e).2 (I.ok.noex b o e)⟩
theorem Inv.bk (I:Inv X Vq σ H s):∀ b o,X.base.get? b=some o->s.heap.get? b=some o:=fun b o e=>(I.bs b o e).1
theorem Inv.mod (I:Inv X Vq σ H s):Mod X.K X.mg X.base:=I.ok.mod
theorem Inv.kIn (I:Inv X Vq σ H s):X.K.In s.heap:=I.ok.mod.kin.keeps I.bk
theorem Inv.nolimit (I:Inv X Vq σ H s):s.heap.NoLimit:=I.ok.mod.nolimit.keeps I.bk
theorem Inv.lt (I:Inv X Vq σ H s):X.env.locals<s.heap.objs.size:=let ⟨_,hn,_⟩:=I.loc;hn.lt
theorem Inv.sz (I:Inv X Vq σ H s):X.s₀.heap.objs.size<=s.heap.objs.size:=N9 I.ok.above (Ss I.lt)
theorem Inv.nofs (I:Inv X Vq σ H s){a:Addr}(h:s.heap.objs.size<=a):a∉X.fs:=fun hb=>by
 obtain ⟨_,o,ho,_⟩:=I.ok.funs.mem hb
 exact absurd (Ny (Nc ho) (N9 I.sz h)) (Oe _)
theorem Inv.cne (I:Inv X Vq σ H s):∀ x c,X.env.cells.lookup x=some c->c≠X.env.locals:=fun x c e z=>by
 obtain ⟨v,o,ho,hd⟩:=I.cell x c e
 obtain ⟨m,⟨o',es,ep,ho',hd',_⟩,_⟩:=I.loc
 rw [z,ho'] at ho;cases ho;rw [hd'] at hd;cases hd
theorem Inv.funs (I:Inv X Vq σ H s):s.heap.FunFrames X.base X.outer:=by
 have all:∀ (l:List Rf),(∀ b∈eM l,b∈X.fs)->X.s₀.heap.FunFrames X.base l->s.heap.FunFrames X.base l:=by
  intro l
  induction l with
  | nil=>intro _ _;trivial
  | cons env r ih=>
   intro hs hl
   obtain ⟨hk,⟨L,o,hf,hn,ho,hd⟩,hr⟩:=hl
   have hL:L∈X.fs:=hs L (by unfold eM;rw [OD,hf];exact O1)
   obtain ⟨sl,e⟩:=I.base.slot L o ho (I.ok.frf L hL) hL fun z=>I.ok.exfs L z hL
   exact ⟨hk,⟨L,_,hf,hn,e,hd⟩,ih (fun b hb=>hs b (by unfold eM;rw [OD,hf];exact Ot _ hb)) hr⟩
 exact all X.outer (fun _ hb=>hb) I.ok.funs
theorem Inv.stack (I:Inv X Vq σ H s):s.heap.FunFrames X.base X.stack:=by
 rcases I.ok.stk with e|⟨e,hf⟩
 ·rw [e];exact I.funs
 ·rw [e]
  obtain ⟨m,hn,_⟩:=I.loc
  refine .cons (by rw [I.ok.kind];decide) hf hn ?_ I.funs
  exact Heap.get?_none_of_le (N9 I.ok.bsz I.ok.above)
theorem Inv.stkSub (I:Inv X Vq σ H s):∀ b∈eM X.stack,b∈X.env.locals::X.fs:=fun b hb=>by
 rcases I.ok.stk with e|⟨e,hf⟩
 ·rw [e] at hb;exact Ot _ hb
 ·rw [e] at hb
  unfold eM at hb
  rw [OD,hf] at hb
  exact hb
theorem Inv.stkFree (I:Inv X Vq σ H s):∀ b∈eM X.stack,H b=none:=fun b hb=>by
 rcases NN.mp (I.stkSub b hb) with e|hb
 ·rw [e];exact I.free
 ·obtain ⟨_,o,ho,_⟩:=I.ok.funs.mem hb
  exact I.base.free b o ho (I.ok.frf b hb) fun z=>I.ok.exfs b z hb
theorem Inv.step {g':Array T6}{t':Nat}{d':Drawn}{ch:List Addr}(I:Inv X Vq σ H s)
  (hch:∀ b∈ch,(b∈X.ex\/X.s₀.heap.objs.size<=b)/\b≠X.env.locals/\(∀ x c,X.env.cells.lookup x=some c->c≠b)/\∀ p∈X.pn++Vq,p.1≠b)
  (keep:∀ b o,b≠X.env.locals->b∉X.fs->b∉ch->s.heap.get? b=some o->H b=none->h'.get? b=some o)
  (slot:∀ b o,b≠X.env.locals->b∈X.fs->b∉ch->s.heap.get? b=some o->H b=none->∃ sl,h'.get? b=some { o with slots:=sl })(free:∀ b o,b∉ch->s.heap.get? b=some o->H b=none->H' b=none)
  (there:∀ b o,b∉ch->s.heap.get? b=some o->∃ o',h'.get? b=some o')
  (tups:∀ b xs,H b=some (.tup xs)->H' b=some (.tup xs))(frzs:∀ b o u,H b=some (.frz o u)->H' b=some (.frz o u))(tbls:∀ b ps,H b=some (.tbl ps)->∃ more,H' b=some (.tbl (ps++more)))
  (ns:∀ m,s.heap.Ns X.env.locals m->h'.Ns X.env.locals m)(hok:HOk X.prog X.w H' h')(hg:Rh g') :
  Inv X Vq σ H' { s with heap:=h',gens:=g',drawn:=d',toks:=t' }:=by
 have neL:∀ b o,X.s₀.heap.get? b=some o->b≠X.env.locals:=fun b o e=>Nr (Ny (Nc e) I.ok.above)
 have neC:∀ b o,X.s₀.heap.get? b=some o->b∉X.ex->b∉ch:=fun b o e hx hb=>by
  rcases (hch b hb).1 with z|z
  ·exact hx z
  ·exact absurd (Ny (Nc e) z) (Oe _)
 have cellK:∀ x c,X.env.cells.lookup x=some c->∀ v,s.heap.IsCell c v->h'.IsCell c v:=fun x c e v ⟨o,ho,hd⟩=>by
  have nch:c∉ch:=fun z=>(hch c z).2.2.1 x c e rfl
  by_cases hc:c∈X.fs
  ·obtain ⟨sl,q⟩:=slot c o (I.cne x c e) hc nch ho (I.freeC x c e)
   exact ⟨_,q,hd⟩
  ·exact ⟨o,keep c o (I.cne x c e) hc nch ho (I.freeC x c e),hd⟩
 refine ⟨I.ok,I.os,hg,⟨fun b o e n hb hx=>?_,fun b o e n hb hx=>?_,fun b o e n hx=>?_,fun b o e hx=>?_,fun b xs e=>tups b xs (I.base.tups b xs e),fun b o xs e=>frzs b o xs (I.base.frzs b o xs e),fun b ps e=>?_⟩,?_,fun x c e=>?_,?_,fun x c e=>?_,fun p hp=>?_,hok,I.len⟩
 ·exact keep b o (neL b o e) hb (neC b o e hx) (I.base.keep b o e n hb hx) (I.base.free b o e n hx)
 ·obtain ⟨sl,e1⟩:=I.base.slot b o e n hb hx
  obtain ⟨sl',e2⟩:=slot b _ (neL b o e) hb (neC b o e hx) e1 (I.base.free b o e n hx)
  exact ⟨sl',e2⟩
 ·obtain ⟨o',e1⟩:=I.base.there b o e hx
  exact free b o' (neC b o e hx) e1 (I.base.free b o e n hx)
 ·obtain ⟨o',e1⟩:=I.base.there b o e hx
  exact there b o' (neC b o e hx) e1
 ·obtain ⟨m1,e1⟩:=I.base.tbls b ps e
  obtain ⟨m2,e2⟩:=tbls b _ e1
  exact ⟨m1++m2,by rw [e2,SY]⟩
 ·obtain ⟨m,hn,hl⟩:=I.loc
  refine ⟨m,ns m hn,fun i x v e1 e2 e3=>?_⟩
  obtain ⟨u,r,l⟩:=hl i x v e1 e2 e3
  refine ⟨u,r,?_⟩
  rcases l with l|⟨k,c,e,z⟩
  ·exact .inl l
  ·exact .inr ⟨k,c,e,cellK x c e _ z⟩
 ·obtain ⟨v,z⟩:=I.cell x c e
  exact ⟨v,cellK x c e v z⟩
 ·obtain ⟨m,⟨o,_,_,ho,_⟩,_⟩:=I.loc
  exact free _ o (fun z=>(hch _ z).2.1 rfl) ho I.free
 ·obtain ⟨v,o,ho,hd⟩:=I.cell x c e
  exact free c o (fun z=>(hch c z).2.2.1 x c e rfl) ho (I.freeC x c e)
 ·obtain ⟨e,n,ne,nf,d⟩:=I.pin p hp
  have nch:p.1∉ch:=fun z=>(hch p.1 z).2.2.2 p hp rfl
  exact ⟨keep p.1 p.2 ne nf nch e n,free p.1 p.2 nch e n,ne,nf,d⟩
theorem Inv.un {t':Nat}(I:Inv X Vq σ H s)(u:Un X.fs [] H H' s.heap h')(hok:HOk X.prog X.w H' h'):Inv X Vq σ H' { s with heap:=h',toks:=t' }:=by
 obtain ⟨m,⟨o,es,ep,ho,r⟩,_⟩:=id I.loc
 obtain ⟨sl,hL⟩:=u.any ho I.free (by simp)
 exact I.step (g':=s.gens) (d':=s.drawn) (ch:=[]) (fun _ z=>nomatch z) (fun b o _ hb _ e n=>u.keep b o e n hb (by simp)) (fun b o _ hb _ e n=>u.slot b o e n hb (by simp)) (fun b o _ e n=>u.free b o e n (by simp)) (fun b o _ e=>u.there b o e (by simp)) u.tups u.frzs u.tbls (fun m' hm=>by
  obtain ⟨o',es',ep',ho',r'⟩:=hm
  rw [ho] at ho';cases ho'
  exact ⟨_,es',ep',hL,r'⟩) hok I.bare
theorem Inv.call {g':Array T6}{t':Nat}{d':Drawn}{ch:List Addr}(I:Inv X Vq σ H s)(u:Un (eM X.stack) ch H H' s.heap h')(hok:HOk X.prog X.w H' h')(hg:Rh g')
  (hch:∀ b∈ch,(b∈X.ex\/X.s₀.heap.objs.size<=b)/\b≠X.env.locals/\(∀ x c,X.env.cells.lookup x=some c->c≠b)/\∀ p∈X.pn++Vq,p.1≠b) :
  Inv X Vq σ H' { s with heap:=h',gens:=g',drawn:=d',toks:=t' }:=by
 obtain ⟨m,⟨o,es,ep,ho,r⟩,_⟩:=id I.loc
 obtain ⟨sl,hL⟩:=u.any ho I.free fun z=>(hch _ z).2.1 rfl
 exact I.step (ch:=ch) hch (fun b o hL hb hc e n=>u.keep b o e n (fun z=>(NN.mp (I.stkSub b z)).elim hL hb) hc) (fun b o _ _ hc e n=>u.any e n hc) (fun b o hc e n=>u.free b o e n hc) (fun b o hc e=>u.there b o e hc) u.tups u.frzs u.tbls (fun m' hm=>by
  obtain ⟨o',es',ep',ho',r'⟩:=hm
  rw [ho] at ho';cases ho'
  exact ⟨_,es',ep',hL,r'⟩) hok hg
theorem Inv.turned {t':Nat}{it:Addr}(I:Inv X Vq σ H s)(k:∀ b o,b≠it->s.heap.get? b=some o->h'.get? b=some o)(hn:H it=none)(hL:it≠X.env.locals)
  (h1:it∈X.ex\/X.s₀.heap.objs.size<=it)(h2:∀ x c,X.env.cells.lookup x=some c->c≠it)(h3:∀ p∈X.pn++Vq,p.1≠it):Inv X Vq σ H { s with heap:=h',toks:=t' }:=by
 have nit:∀ b u,H b=some u->b≠it:=fun b u e z=>by rw [z,hn] at e;cases e
 refine I.step (g':=s.gens) (d':=s.drawn) (ch:=[it]) (fun b hb=>?_) (fun b o _ _ hc e _=>k b o (fun z=>hc (by simp [z])) e) (fun b o _ _ hc e _=>⟨o.slots,k b o (fun z=>hc (by simp [z])) e⟩) (fun _ _ _ _ n=>n)
  (fun b o hc e=>⟨o,k b o (fun z=>hc (by simp [z])) e⟩) (fun _ _ e=>e) (fun _ _ _ e=>e) (fun b ps e=>⟨#[],by rw [e];simp⟩) (fun m hm=>?_) (fun b u e=>?_) I.bare
 ·have e:b=it:=by simpa using hb
  subst e
  exact ⟨h1,hL,h2,h3⟩
 ·obtain ⟨o,es,ep,ho,r⟩:=hm
  exact ⟨o,es,ep,k _ o (OU hL) ho,r⟩
 ·refine (I.hok b u e).stay (fun c v hc q=>k c v ?_ q) (fun _ q=>q) fun _ _ q=>q
  rcases hc with z|z
  ·rw [z];exact nit b u e
  ·exact nit c _ z
theorem Inv.tok (I:Inv X Vq σ H s)(t:Nat):Inv X Vq σ H { s with toks:=t }:=I.un (h':=s.heap) (t':=t) Un.refl I.hok
theorem Inv.kept {t':Nat}(I:Inv X Vq σ H s)(k:∀ b u,s.heap.get? b=some u->h'.get? b=some u):Inv X Vq σ H { s with heap:=h',toks:=t' }:=I.un (Un.kept k) (I.hok.kept k)
theorem Inv.laid {a:Addr}{o:HO}{t':Nat}(I:Inv X Vq σ H s)(k:∀ b u,s.heap.get? b=some u->h'.get? b=some u)(hp:s.heap.objs.size<=a)(new:ObjOk X.prog X.w (aV H a o) h' a o) :
  Inv X Vq σ (aV H a o) { s with heap:=h',toks:=t' }:=I.un (Un.laid k hp (I.hok.fresh hp)) (I.hok.laid k hp new)
theorem Inv.write {x e:Addr}{o:HO}{t':Nat}(I:Inv X Vq σ H s)(mu:lR (H x))(he:e=x\/H e=some (.own x))(k:∀ b u,b≠e->s.heap.get? b=some u->h'.get? b=some u)(heo:∃ u,h'.get? e=some u)
  (new:ObjOk X.prog X.w (aV H x o) h' x o):Inv X Vq σ (aV H x o) { s with heap:=h',toks:=t' }:=I.un (Un.write mu he k heo) (I.hok.write mu he k heo new)
theorem Inv.pins_of {pins':List (Addr×OE)}(I:Inv X Vq σ H s)(h:∀ p∈pins',s.heap.get? p.1=some p.2/\H p.1=none/\p.1≠X.env.locals/\p.1∉X.fs/\∀ v,p.2.data≠.cell v):Inv X pins' σ H s:=
 ⟨I.ok,I.os,I.bare,I.base,I.loc,I.cell,I.free,I.freeC,fun p hp=>(NY.mp hp).elim (fun z=>I.pin p (SJ _ z)) (h p),I.hok,I.len⟩
theorem uV {N:List Str}(hN:N.Nodup){i j:Nat}{x:Str}(a:N[i]? = some x)(b:N[j]? = some x):i=j:=by
 obtain ⟨h1,e1⟩:=Ng.mp a
 obtain ⟨h2,e2⟩:=Ng.mp b
 exact (List.getElem_inj hN).mp (e1.trans e2.symm)
theorem uW {M:Vm}{A:NM}{E:M0->M4->Prop}{i:Nat}{x:Str}{v:V}{u:M0}{Q:Unit->M4->Prop}(I:Inv X Vq σ H s)(hN:X.N.Nodup)(hi:X.N[i]? = some x)(hx:Loc X.env.scope x)(r:RelV v u)
  (h:∀ s',Inv X Vq (σ.set i (some v)) H s'->(∃ a,Rc a s.heap s'.heap/\(a=X.env.locals\/X.env.cells.lookup x=some a))->Q () s')(hf:X.fn x=true\/X.env.scope.names.lookup x=some .local:=by first|exact .inl rfl|exact .inr rfl|assumption):NI M A (storeName X.env x u) Q E s:=by
 obtain ⟨m,hn,hl⟩:=id I.loc
 have hcls:(X.env.scope.kind == .class||(X.env.scope.kind == .module&&X.env.locals != X.env.globals))=false:=by rw [I.ok.kind];rfl
 have hiσ:i<σ.length:=by rw [I.len];exact (Ng.mp hi).1
 have cne:=I.cne
 have tracked:∀ {a:Addr}{h':N6},(∃ o,s.heap.get? a=some o/\H a=none)->Rc a s.heap h'->HOk X.prog X.w H h':=fun {a h'} ha hs b ob e=>by
  obtain ⟨_,_,hfree⟩:=ha
  refine (I.hok b ob e).stay (fun c w' hc q=>(hs.2 c ?_).trans q) (fun _ q=>q) fun _ _ q=>q
  rintro rfl
  rcases hc with rfl|hc
  ·rw [hfree] at e;cases e
  ·rw [hfree] at hc;cases hc
 rcases hx with hk|hk
 ·refine wpAny_storeName_local hk hn (fun h' hn' hs=>?_) hcls
  obtain ⟨oL,_,_,hoL,_⟩:=id hn
  refine h _ ⟨I.ok,I.os,I.bare,⟨fun b o e n hb hx=>?_,fun b o e n hb hx=>?_,I.base.free,fun b o e hx=>?_,I.base.tups,I.base.frzs,I.base.tbls⟩,⟨_,hn',fun j y v' e1 e2 e3=>?_⟩,fun y c e=>?_,I.free,I.freeC,fun p hp=>?_,tracked ⟨oL,hoL,I.free⟩ hs,by simpa using I.len⟩ ⟨_,hs,.inl rfl⟩
  ·exact (hs.2 b (Nr (Ny (Nc e) I.ok.above))).trans (I.base.keep b o e n hb hx)
  ·obtain ⟨sl,e1⟩:=I.base.slot b o e n hb hx
   exact ⟨sl,(hs.2 b (Nr (Ny (Nc e) I.ok.above))).trans e1⟩
  ·obtain ⟨o',e1⟩:=I.base.there b o e hx
   exact ⟨o',(hs.2 b (Nr (Ny (Nc e) I.ok.above))).trans e1⟩
  ·by_cases hj:j=i
   ·subst hj
    rw [hi] at e1;cases e1
    rw [NR hiσ] at e2
    cases e2
    exact ⟨u,r,.inl ⟨hk,by simp⟩⟩
   ·rw [OR (OU hj)] at e2
    obtain ⟨u',r',q⟩:=hl j y v' e1 e2 e3
    refine ⟨u',r',?_⟩
    rcases q with ⟨k,e⟩|⟨k,c,e,z⟩
    ·refine .inl ⟨k,?_⟩
     have:y≠x:=fun e=>hj (uV hN e1 (e ▸ hi))
     simp [this,e]
    ·exact .inr ⟨k,c,e,z.sameBut hs (cne y c e)⟩
  ·obtain ⟨w',z⟩:=I.cell y c e
   exact ⟨w',z.sameBut hs (cne y c e)⟩
  ·obtain ⟨e,n,ne,nf,d⟩:=I.pin p hp
   exact ⟨(hs.2 p.1 ne).trans e,n,ne,nf,d⟩
 ·have hfn:X.fn x=true:=by
   rcases hf with z|z
   ·exact z
   ·rw [z] at hk;cases hk
  obtain ⟨c,hc⟩:=I.ok.has x (.inl hk)
  obtain ⟨w',z⟩:=I.cell x c hc
  refine wpAny_storeName_cell I.ok.kind hk hc z (fun h' hc' hs=>?_)
  obtain ⟨oc,hoc,hocd⟩:=id z
  refine h { s with heap:=h' } ⟨I.ok,I.os,I.bare,⟨fun b o e n hb hx=>?_,fun b o e n hb hx=>?_,I.base.free,fun b o e hx=>?_,I.base.tups,I.base.frzs,I.base.tbls⟩,⟨m,hn.sameBut hs (OU (cne x c hc)),fun j y v' e1 e2 e3=>?_⟩,fun y c' e=>?_,I.free,I.freeC,fun p hp=>?_,tracked ⟨oc,hoc,I.freeC x c hc⟩ hs,by simpa using I.len⟩ ⟨c,hs,.inr hc⟩
  ·exact (hs.2 b (Nr (Ny (Nc e) (I.ok.cab x c hfn hc)))).trans (I.base.keep b o e n hb hx)
  ·obtain ⟨sl,e1⟩:=I.base.slot b o e n hb hx
   exact ⟨sl,(hs.2 b (Nr (Ny (Nc e) (I.ok.cab x c hfn hc)))).trans e1⟩
  ·obtain ⟨o',e1⟩:=I.base.there b o e hx
   exact ⟨o',(hs.2 b (Nr (Ny (Nc e) (I.ok.cab x c hfn hc)))).trans e1⟩
  ·by_cases hj:j=i
   ·subst hj
    rw [hi] at e1;cases e1
    rw [NR hiσ] at e2
    cases e2
    exact ⟨u,r,.inr ⟨.inl hk,c,hc,hc'⟩⟩
   ·rw [OR (OU hj)] at e2
    obtain ⟨u',r',q⟩:=hl j y v' e1 e2 e3
    refine ⟨u',r',?_⟩
    rcases q with q|⟨k,c',e,z'⟩
    ·exact .inl q
    ·refine .inr ⟨k,c',e,z'.sameBut hs ?_⟩
     rintro rfl
     exact hj (uV hN e1 (I.ok.inj _ _ _ e hc ▸ hi))
  ·by_cases hcc:c'=c
   ·subst hcc;exact ⟨_,hc'⟩
   ·obtain ⟨w2,z2⟩:=I.cell y c' e
    exact ⟨w2,z2.sameBut hs hcc⟩
  ·obtain ⟨e,n,ne,nf,d⟩:=I.pin p hp
   refine ⟨(hs.2 p.1 ?_).trans e,n,ne,nf,d⟩
   intro q
   rw [q,hoc] at e
   have q':oc=p.2:=Nq e
   exact d w' (by rw [<- q'];exact hocd)
theorem uX {M:Vm}{A:NM}{E:M0->M4->Prop}{i:Nat}{x:Str}{v:V}{u:M0}{Q:Unit->M4->Prop}(I:Inv X Vq σ H s)(hN:X.N.Nodup)(hi:X.N[i]? = some x)(hx:Loc X.env.scope x)(r:RelV v u)
  (h:∀ s',Inv X Vq (σ.set i (some v)) H s'->Q () s')(hf:X.fn x=true\/X.env.scope.names.lookup x=some .local:=by first|exact .inl rfl|exact .inr rfl|assumption):NI M A (storeName X.env x u) Q E s:=
 uW I hN hi hx r (fun s' I' _=>h s' I') hf
end
noncomputable abbrev XK:=M0->Option Addr->Hp->Prop
noncomputable abbrev St:=List (Option V)
noncomputable abbrev VK:=V->Hp->Prop
noncomputable abbrev TE:=St->Hp->VK->Prop
noncomputable abbrev TT:=St->Hp->(Bool->Hp->Prop)->Prop
noncomputable abbrev TA:=St->Hp->(List V->Hp->Prop)->Prop
structure Ends where
 nx:St->Hp->Prop
 rt:VK
 bk:St->Hp->Prop:=fun _ _=>False
 ct:St->Hp->Prop:=fun _ _=>False
noncomputable abbrev TS:=Ends->St->Hp->Prop
noncomputable def EP (X:Cx)(Vq:List (Addr×OE))(σ:St)(Q:VK)(u:M0)(s':M4):Prop:=∃ v H',Inv X Vq σ H' s'/\RelV v u/\Q v H'
noncomputable def TP (X:Cx)(Vq:List (Addr×OE))(σ:St)(Q:Bool->Hp->Prop)(b:Bool)(s':M4):Prop:=∃ H',Inv X Vq σ H' s'/\Q b H'
noncomputable def AP (X:Cx)(Vq:List (Addr×OE))(σ:St)(Q:List V->Hp->Prop)(us:List M0)(s':M4):Prop:=∃ vs H',Inv X Vq σ H' s'/\Vals vs us/\Q vs H'
noncomputable def SP (X:Cx)(Vq:List (Addr×OE))(D:Ends)(f:Flow)(s':M4):Prop:=
 match f with
 | .next=>∃ σ' H',Inv X Vq σ' H' s'/\D.nx σ' H'
 | .brk=>∃ σ' H',Inv X Vq σ' H' s'/\D.bk σ' H'
 | .cont=>∃ σ' H',Inv X Vq σ' H' s'/\D.ct σ' H'
 | .ret u=>∃ v σ' H',Inv X Vq σ' H' s'/\RelV v u/\D.rt v H'
noncomputable def PE (X:Cx)(e:M5)(t:TE):Prop:=
 ∀ (Vq:List (Addr×OE))(s:M4)(σ:St)(H:Hp)(Q:VK),Inv X Vq σ H s->t σ H Q->NI (NC X.prog X.w) X.A (eval e X.env) (EP X Vq σ Q) X.xe s
noncomputable def PT (X:Cx)(e:M5)(t:TT):Prop:=
 ∀ (Vq:List (Addr×OE))(s:M4)(σ:St)(H:Hp)(Q:Bool->Hp->Prop),Inv X Vq σ H s->t σ H Q->NI (NC X.prog X.w) X.A (Tf e X.env (eval e X.env)) (TP X Vq σ Q) X.xe s
noncomputable def PW (X:Cx)(e:M5)(t:TT):Prop:=
 ∀ (whole:UH M0)(Vq:List (Addr×OE))(s:M4)(σ:St)(H:Hp)(Q:Bool->Hp->Prop),Inv X Vq σ H s->t σ H Q->NI (NC X.prog X.w) X.A (Tf e X.env whole) (TP X Vq σ Q) X.xe s
theorem PW.pt {X:Cx}{e:M5}{t:TT}(h:PW X e t):PT X e t:=h _
noncomputable def PA (X:Cx)(es:List M5)(t:TA):Prop:=
 ∀ (pos:Om)(Vq:List (Addr×OE))(s:M4)(σ:St)(H:Hp)(Q:List V->Hp->Prop),Inv X Vq σ H s->t σ H Q->NI (NC X.prog X.w) X.A (spliced (Pk pos (NL es X.env))) (AP X Vq σ Q) X.xe s
noncomputable def PS (X:Cx)(st:Stmt)(t:TS):Prop:=
 ∀ (Vq:List (Addr×OE))(s:M4)(σ:St)(H:Hp)(D:Ends),Inv X Vq σ H s->t D σ H->NI (NC X.prog X.w) X.A (exec st X.env) (SP X Vq D) X.xe s
noncomputable def PSs (X:Cx)(st:List Stmt)(t:TS):Prop:=
 ∀ (Vq:List (Addr×OE))(s:M4)(σ:St)(H:Hp)(D:Ends),Inv X Vq σ H s->t D σ H->NI (NC X.prog X.w) X.A (execs st X.env) (SP X Vq D) X.xe s
theorem aT {α:Type}{t:UH α}{Q Q':α->M4->Prop}{M:Vm}{A:NM}{E:M0->M4->Prop}{s:M4}(h:NI M A t Q E s)(hQ:∀ a s,Q a s->Q' a s):NI M A t Q' E s:=NU h hQ fun _ _ x=>x
end L2
namespace L2
open PySem PySem.Spec PyProof.Rows
section
variable {X:Cx}
noncomputable def uY (i:Nat):TE:=fun σ H Q=>∃ v,σ[i]? = some (some v)/\Q v H
noncomputable def tC (v:V):TE:=fun _ H Q=>Q v H
theorem BH {i:Nat}{x:Str}{pos:Om}(hN:X.N[i]? = some x)(hv:lS X.env.scope x)(hd:(x == ("__debug__":Str))=false:=by decide) (hcd:(x == ("__classdict__":Str))=false:=by decide):PE X (.Name x pos) (uY i):=by
 intro Vq s σ H Q I h
 obtain ⟨v,e,h⟩:=h
 obtain ⟨m,hn,hl⟩:=I.loc
 obtain ⟨u,r,l⟩:=hl i x v hN e hv
 have aM:EP X Vq σ Q u s:=⟨v,H,I,r,h⟩
 rcases l with ⟨hk,hm⟩|⟨hk,c,hc,hcell⟩
 ·exact Ub (wpAny_loadName_local I.ok.kind hk hn hm aM) hd
 ·rcases hk with hk|hk
  ·exact Ub (wpAny_loadName_cell I.ok.kind hk hc hcell aM) hd
  ·exact Ub (wpAny_loadName_free I.ok.kind hk hc hcell aM hcd) hd
theorem BI {i j pos}:PE X (.Constant (.int i) j pos) (tC (.int i)):=fun _ _ _ H _ I h=>wpAny_Constant_int ⟨.int i,H,I.tok _,⟨_,rfl⟩,h⟩
theorem BJ {b j pos}:PE X (.Constant (.bool b) j pos) (tC (.bl b)):=fun _ _ _ H _ I h=>Constant_bool ⟨.bl b,H,I,rfl,h⟩
theorem BK {j pos}:PE X (.Constant .none j pos) (tC .non):=fun _ _ _ H _ I h=>Constant_none ⟨.non,H,I,rfl,h⟩
theorem BL {x j pos}:PE X (.Constant (.str x) j pos) (tC (.str x)):=fun _ _ _ H _ I h=>Calls.Constant_str ⟨.str x,H,I.tok _,⟨_,rfl⟩,h⟩
noncomputable def Gl (X:Cx)(x:Str):Prop:=X.env.kindOf x=some .globalImplicit
theorem pQ {E:M0->M4->Prop}{Vq:List (Addr×OE)}{s:M4}{σ:St}{H:Hp}{x:Str}{u:M0}{pos:Om}{Q:M0->M4->Prop}(I:Inv X Vq σ H s)(hg:Gl X x)(hm:X.mg x=some u)(h:Q u s)
  (hd:(x == ("__debug__":Str))=false:=by decide):NI (NC X.prog X.w) X.A (eval (.Name x pos) X.env) Q E s:=
 RN I.ok.kind hg (Calls.loadGlobal_global (by rw [I.ok.glob];exact I.mod.glob.keeps I.bk) hm h) hd
theorem iX {E:M0->M4->Prop}{Vq:List (Addr×OE)}{s:M4}{σ:St}{H:Hp}{x:Str}{u:M0}{pos:Om}{Q:M0->M4->Prop}(I:Inv X Vq σ H s)(hg:Gl X x)(hm:X.mg x=none)(hv:N7 x=some u)(h:Q u s)
  (hn:x ≠ "__name__":=by decide) (hd:(x == ("__debug__":Str))=false:=by decide):NI (NC X.prog X.w) X.A (eval (.Name x pos) X.env) Q E s:=by
 obtain ⟨mb,h1,h2⟩:=I.mod.blt
 exact RN I.ok.kind hg (Calls.loadGlobal_builtin (by rw [I.ok.glob];exact I.mod.glob.keeps I.bk) hm (by rw [I.ok.blt];exact h1.keeps I.bk) ((h2 x hn).trans hv) h) hd
theorem BM {x:Str}{v:V}{u:M0}{pos:Om}(hg:Gl X x)(hm:X.mg x=some u)(r:RelV v u)(hd:(x == ("__debug__":Str))=false:=by decide):PE X (.Name x pos) (tC v):=
 fun _ _ _ H _ I h=>pQ I hg hm ⟨v,H,I,r,h⟩ hd
theorem BN {x:Str}{v:V}{u:M0}{pos:Om}(hg:Gl X x)(hm:X.mg x=none)(hv:N7 x=some u)(r:RelV v u)(hn:x ≠ "__name__":=by decide) (hd:(x == ("__debug__":Str))=false:=by decide):PE X (.Name x pos) (tC v):=
 fun _ _ _ H _ I h=>iX I hg hm hv ⟨v,H,I,r,h⟩ hn hd
variable {a b:M5}{ta tb:TE}{pos:Om}
variable {tA tB':TT}{rest:List M5}
noncomputable def BO (t u:TT):TT:=fun σ H Q=>t σ H fun c H1=>if c=true then u σ H1 Q else Q false H1
noncomputable def BP (t u:TT):TT:=fun σ H Q=>t σ H fun c H1=>if c=true then Q true H1 else u σ H1 Q
noncomputable def BQ (t:TT):TT:=fun σ H Q=>t σ H fun c H1=>Q (!c) H1
theorem BR (ha:PT X a tA):PW X (.BoolOp .And [a] pos) tA:=by
 intro wh Vq s σ H Q I h
 refine isTrue_and (aT (ha Vq s σ H Q I h) fun c s1 e=>?_)
 cases c with
 | true=>exact isTrue_and_nil e
 | false=>exact e
theorem BS (ha:PT X a tA):PW X (.BoolOp .Or [a] pos) tA:=by
 intro wh Vq s σ H Q I h
 refine isTrue_or (aT (ha Vq s σ H Q I h) fun c s1 e=>?_)
 cases c with
 | false=>exact isTrue_or_nil e
 | true=>exact e
theorem BU (ha:PT X a tA)(hb:PW X (.BoolOp .And (b::rest) pos) tB'):PW X (.BoolOp .And (a::b::rest) pos) (BO tA tB'):=by
 intro wh Vq s σ H Q I h
 refine isTrue_and (aT (ha Vq s σ H _ I h) fun c s1 ⟨H1,I1,q1⟩=>?_)
 cases c with
 | true=>exact hb wh Vq s1 σ H1 Q I1 q1
 | false=>exact ⟨H1,I1,q1⟩
theorem BV (ha:PT X a tA)(hb:PW X (.BoolOp .Or (b::rest) pos) tB'):PW X (.BoolOp .Or (a::b::rest) pos) (BP tA tB'):=by
 intro wh Vq s σ H Q I h
 refine isTrue_or (aT (ha Vq s σ H _ I h) fun c s1 ⟨H1,I1,q1⟩=>?_)
 cases c with
 | true=>exact ⟨H1,I1,q1⟩
 | false=>exact hb wh Vq s1 σ H1 Q I1 q1
theorem BW (ha:PT X a tA):PT X (.UnaryOp .Not a pos) (BQ tA):=by
 intro Vq s σ H Q I h
 exact isTrue_not (ha Vq s σ H (fun c H1=>Q (!c) H1) I h)
noncomputable def BX (ta tb:TE):TE:=fun σ H Q=>ta σ H fun x H1=>∃ c,x=.bl c/\if c=true then tb σ H1 Q else Q (.bl false) H1
noncomputable def BY (ta tb:TE):TE:=fun σ H Q=>ta σ H fun x H1=>∃ c,x=.bl c/\if c=true then Q (.bl true) H1 else tb σ H1 Q
noncomputable def BZ (ta:TE):TE:=fun σ H Q=>ta σ H fun x H1=>∃ c,x=.bl c/\Q (.bl (!c)) H1
theorem B0 {op} {t:TE}(h:PE X a t):PE X (.BoolOp op [a] pos) t:=fun Vq s σ H Q I hw=>BoolOp_one (h Vq s σ H Q I hw)
theorem B1 (ha:PE X a ta)(hb:PE X (.BoolOp .And (b::rest) pos) tb):PE X (.BoolOp .And (a::b::rest) pos) (BX ta tb):=by
 intro Vq s σ H Q I h
 refine BoolOp_and (aT (ha Vq s σ H _ I h) fun v s1 ⟨x,H1,I1,r1,q1⟩=>?_)
 obtain ⟨c,rfl,q1⟩:=q1
 cases r1
 refine Pl ?_
 cases c with
 | true=>exact hb Vq s1 σ H1 Q I1 q1
 | false=>exact ⟨.bl false,H1,I1,rfl,q1⟩
theorem B2 (ha:PE X a ta)(hb:PE X (.BoolOp .Or (b::rest) pos) tb):PE X (.BoolOp .Or (a::b::rest) pos) (BY ta tb):=by
 intro Vq s σ H Q I h
 refine BoolOp_or (aT (ha Vq s σ H _ I h) fun v s1 ⟨x,H1,I1,r1,q1⟩=>?_)
 obtain ⟨c,rfl,q1⟩:=q1
 cases r1
 refine Pl ?_
 cases c with
 | false=>exact hb Vq s1 σ H1 Q I1 q1
 | true=>exact ⟨.bl true,H1,I1,rfl,q1⟩
theorem B3 (ha:PE X a ta):PE X (.UnaryOp .Not a pos) (BZ ta):=by
 intro Vq s σ H Q I h
 refine UnaryOp_ (aT (ha Vq s σ H _ I h) fun v s1 ⟨x,H1,I1,r1,q1⟩=>?_)
 obtain ⟨c,rfl,q1⟩:=q1
 cases r1
 exact not_of (Pl ⟨.bl (!c),H1,I1,rfl,q1⟩)
noncomputable def B4 (t:TT)(ta tb:TE):TE:=fun σ H Q=>t σ H fun c H1=>if c=true then ta σ H1 Q else tb σ H1 Q
theorem B5 {c:M5}(hc:PT X c tA)(ha:PE X a ta)(hb:PE X b tb):PE X (.IfExp c a b pos) (B4 tA ta tb):=by
 intro Vq s σ H Q I h
 refine wpAny_IfExp (aT (hc Vq s σ H _ I h) fun d s1 ⟨H1,I1,q1⟩=>?_)
 cases d with
 | true=>exact ha Vq s1 σ H1 Q I1 q1
 | false=>exact hb Vq s1 σ H1 Q I1 q1
end
end L2
namespace L2
open PySem PySem.Spec PyProof.Rows
noncomputable def SqL (K:MX)(H:Hp)(a:Addr)(xs:List V):Prop:=
 Rd H a (.lst xs) \/
  ∃ (o:OE)(its:Array M0)(n:Nat),K.lookup a=some o/\o.cls=.type "list"/\o.dict=none/\o.data=.seq its n/\its.size<=Nd/\Vals xs its.toList
noncomputable def SqT (K:MX)(H:Hp)(a:Addr)(xs:List V):Prop:=
 Rd H a (.tup xs) \/
  ∃ (o:OE)(its:Array M0)(n:Nat),K.lookup a=some o/\o.cls=.type "tuple"/\o.dict=none/\o.data=.seq its n/\its.size<=Nd/\Vals xs its.toList
noncomputable def B6:M0->Option V
 | .none=>some .non
 | .bool b=>some (.bl b)
 | .int i _=>some (.int i)
 | .str x _=>some (.str x)
 | .bytes b _=>some (.byt b)
 | .float b _=>some (.flt b)
 | .ref a=>some (.ref a)
 | .type n=>some (.ty n)
 | _=>none
theorem RelV.abs {x:V}{u:M0}(r:RelV x u):B6 u=some x:=by
 cases x with
 | non=>cases r;rfl
 | bl _=>cases r;rfl
 | int _=>obtain ⟨t,rfl⟩:=r;rfl
 | str _=>obtain ⟨t,rfl⟩:=r;rfl
 | byt _=>obtain ⟨t,rfl⟩:=r;rfl
 | flt _=>obtain ⟨t,rfl⟩:=r;rfl
 | ref _=>cases r;rfl
 | ty _=>cases r;rfl
theorem RelV.inj {x y:V}{u:M0}(r:RelV x u)(q:RelV y u):x=y:=Nq (r.abs.symm.trans q.abs)
theorem Vals.inj:∀ {xs ys:List V}{us:List M0},Vals xs us->Vals ys us->xs=ys
 | _,_,_,.nil,.nil=>rfl
 | _,_,_,.cons r t,.cons r' t'=>by rw [r.inj r',Vals.inj t t']
section
variable {X:Cx}{Vq:List (Addr×OE)}{σ:St}{H:Hp}{s:M4}{a:Addr}{xs ys:List V}
theorem SqL.of {K:MX}(h:H a=some (.lst xs)):SqL K H a xs:=.inl (.inl h)
theorem SqT.of {K:MX}(h:H a=some (.tup xs)):SqT K H a xs:=.inl (.inl h)
theorem Inv.list (I:Inv X Vq σ H s)(h:SqL X.K H a xs):∃ its:List M0,Vals xs its/\PlainL s.heap a its.toArray/\xs.length<=Nd:=by
 rcases h with h|⟨o,its,n,hk,hc,hd,hs,hz,r⟩
 ·obtain ⟨z,its,n,r,e⟩:=h.ok I.hok
  exact ⟨its,r,⟨_,n,e,rfl,rfl,rfl⟩,z⟩
 ·refine ⟨its.toList,r,⟨o,n,I.kIn a o hk,hc,hd,by simpa using hs⟩,?_⟩
  have e:=r.length
  simp only [Qb] at e
  omega
theorem Inv.tuple (I:Inv X Vq σ H s)(h:SqT X.K H a xs):∃ its:List M0,Vals xs its/\IsTup s.heap a its.toArray/\xs.length<=Nd:=by
 rcases h with h|⟨o,its,n,hk,hc,hd,hs,hz,r⟩
 ·obtain ⟨z,its,r,p⟩:=h.ok I.hok
  exact ⟨its,r,p.tup,z⟩
 ·refine ⟨its.toList,r,⟨o,I.kIn a o hk,hc,n,by simpa using hs⟩,?_⟩
  have e:=r.length
  simp only [Qb] at e
  omega
theorem Inv.list_inj (I:Inv X Vq σ H s)(h:SqL X.K H a xs)(h':SqL X.K H a ys):xs=ys:=by
 obtain ⟨its,r,⟨o,n,e,_,_,d⟩,_⟩:=I.list h
 obtain ⟨its',r',⟨o',n',e',_,_,d'⟩,_⟩:=I.list h'
 rw [e] at e';cases e'
 rw [d] at d'
 injection d' with d1 _
 have:its=its':=by simpa using congrArg Us d1
 subst this
 exact r.inj r'
theorem Inv.tuple_inj (I:Inv X Vq σ H s)(h:SqT X.K H a xs)(h':SqT X.K H a ys):xs=ys:=by
 obtain ⟨its,r,⟨o,e,_,n,d⟩,_⟩:=I.tuple h
 obtain ⟨its',r',⟨o',e',_,n',d'⟩,_⟩:=I.tuple h'
 rw [e] at e';cases e'
 rw [d] at d'
 injection d' with d1 _
 have:its=its':=by simpa using congrArg Us d1
 subst this
 exact r.inj r'
end
noncomputable abbrev Cx.wish (X:Cx)(E:M0->M4->Prop):Cx:={ X with xe:=E }
noncomputable abbrev Cx.nox (X:Cx):Cx:=X.wish fun _ _=>False
theorem Cx.Ok.wish {X:Cx}(ok:X.Ok)(E:M0->M4->Prop):(X.wish E).Ok:=
 ⟨ok.mod,ok.kind,ok.glob,ok.blt,ok.above,ok.inj,ok.has,ok.cab,ok.hd,ok.frames,ok.stk,ok.exf,ok.bs,ok.bsz,ok.noex,ok.exfs,ok.funs,ok.frf⟩
theorem Cx.Ok.unwish {X:Cx}{E:M0->M4->Prop}(ok:(X.wish E).Ok):X.Ok:=
 ⟨ok.mod,ok.kind,ok.glob,ok.blt,ok.above,ok.inj,ok.has,ok.cab,ok.hd,ok.frames,ok.stk,ok.exf,ok.bs,ok.bsz,ok.noex,ok.exfs,ok.funs,ok.frf⟩
section
variable {X:Cx}{Vq:List (Addr×OE)}{σ:St}{H:Hp}{s:M4}{E:M0->M4->Prop}
theorem Inv.wish (I:Inv X Vq σ H s)(E:M0->M4->Prop):Inv (X.wish E) Vq σ H s:=⟨I.ok.wish E,I.os,I.bare,I.base,I.loc,I.cell,I.free,I.freeC,I.pin,I.hok,I.len⟩
theorem Inv.unwish (I:Inv (X.wish E) Vq σ H s):Inv X Vq σ H s:=⟨I.ok.unwish,I.os,I.bare,I.base,I.loc,I.cell,I.free,I.freeC,I.pin,I.hok,I.len⟩
theorem SP.unwish {D:Ends}{f:Flow}{s':M4}(h:SP (X.wish E) Vq D f s'):SP X Vq D f s':=by
 cases f with
 | next=>obtain ⟨σ',H',I,q⟩:=h;exact ⟨σ',H',I.unwish,q⟩
 | brk=>obtain ⟨σ',H',I,q⟩:=h;exact ⟨σ',H',I.unwish,q⟩
 | cont=>obtain ⟨σ',H',I,q⟩:=h;exact ⟨σ',H',I.unwish,q⟩
 | ret u=>obtain ⟨v,σ',H',I,r,q⟩:=h;exact ⟨v,σ',H',I.unwish,r,q⟩
theorem PSs.nox {st:List Stmt}{t:TS}(h:PSs X.nox st t):PSs X st t:=fun Vq s σ H D I hw=>
 NU (h Vq s σ H D (I.wish _) hw) (fun _ _ q=>q.unwish) fun _ _ z=>Ov z
end
section
variable {X:Cx}{st:Stmt}{rest:List Stmt}{t u:TS}{e:M5}{te:TE}{pos:Om}
noncomputable def uZ:TS:=fun D σ H=>D.nx σ H
noncomputable def B7 (t u:TS):TS:=fun D σ H=>t { D with nx:=u D } σ H
theorem B8:PSs X [] uZ:=fun _ _ σ H _ I h=>QY ⟨σ,H,I,h⟩
theorem B9 (h1:PS X st t)(h2:PSs X rest u):PSs X (st::rest) (B7 t u):=by
 intro Vq s σ H D I h
 refine UD (aT (h1 Vq s σ H { D with nx:=u D } I h) fun f s1 q=>?_)
 cases f with
 | next=>
  obtain ⟨σ',H',I',q⟩:=q
  exact h2 Vq s1 σ' H' D I' q
 | ret v=>exact q
 | brk=>exact q
 | cont=>exact q
theorem Ca (h1:PS X st t):PSs X [st] t:=by
 intro Vq s σ H D I h
 refine UD (aT (h1 Vq s σ H D I h) fun f s1 q=>?_)
 cases f with
 | next=>exact QY q
 | ret v=>exact q
 | brk=>exact q
 | cont=>exact q
theorem Cb:PS X (.Pass pos) uZ:=fun _ _ σ H _ I h=>wpAny_Pass ⟨σ,H,I,h⟩
theorem Inv.quiet {Vq:List (Addr×OE)}{σ:St}{H:Hp}{s:M4}(I:Inv X Vq σ H s):interactive X.env=false:=by simp [interactive,I.ok.kind]
noncomputable def Cd (te:TE):TS:=fun D σ H=>te σ H fun _ H1=>D.nx σ H1
theorem Ce (he:PE X e te)(hs:Qc e none pos.line X.env=pure false:=by rfl):PS X (.Expr e pos) (Cd te):=by
 intro Vq s σ H D I h
 exact wpAny_Expr_any (aT (he Vq s σ H _ I h) fun v s1 ⟨x,H1,I1,r1,q1⟩=>⟨σ,H1,I1,q1⟩) I.quiet hs
noncomputable def Cf (te:TE):TS:=fun D σ H=>te σ H D.rt
theorem Cg (he:PE X e te):PS X (.Return (some e) pos) (Cf te):=by
 intro Vq s σ H D I h
 exact wpAny_Return_some (aT (he Vq s σ H _ I h) fun v s1 ⟨x,H1,I1,r1,q1⟩=>⟨x,σ,H1,I1,r1,q1⟩)
noncomputable def Ci:TS:=fun D _ H=>D.rt .non H
theorem Cj:PS X (.Return none pos) Ci:=fun _ _ σ H _ I h=>wpAny_Return_none ⟨.non,σ,H,I,rfl,h⟩
noncomputable def Ck (c:TT)(t u:TS):TS:=fun D σ H=>c σ H fun b H1=>if b=true then t D σ H1 else u D σ H1
theorem Cm {c:M5}{a b:List Stmt}{tc:TT}(hc:PT X c tc)(ha:PSs X a t)(hb:PSs X b u):PS X (.If c a b pos) (Ck tc t u):=by
 intro Vq s σ H D I h
 refine wpAny_If (aT (hc Vq s σ H _ I h) fun d s1 ⟨H1,I1,q1⟩=>?_)
 cases d with
 | true=>exact ha Vq s1 σ H1 D I1 q1
 | false=>exact hb Vq s1 σ H1 D I1 q1
end
noncomputable abbrev TG:=V->St->Hp->(St->Hp->Prop)->Prop
noncomputable abbrev jY:=List V->St->Hp->(St->Hp->Prop)->Prop
noncomputable def PG (X:Cx)(target:M5)(t:TG):Prop:=
 ∀ (Vq:List (Addr×OE))(s:M4)(σ:St)(H:Hp)(v:V)(u:M0)(Q:St->Hp->Prop),Inv X Vq σ H s->RelV v u->t v σ H Q->
  NI (NC X.prog X.w) X.A (Rz target X.env u) (fun _ s'=>∃ σ' H',Inv X Vq σ' H' s'/\Q σ' H') X.xe s
noncomputable def lT (X:Cx)(ts:List M5)(t:jY):Prop:=
 ∀ (Vq:List (Addr×OE))(s:M4)(σ:St)(H:Hp)(vs:List V)(us:List M0)(Q:St->Hp->Prop),Inv X Vq σ H s->Vals vs us->t vs σ H Q->
  NI (NC X.prog X.w) X.A (assignInOrder ((OG ts X.env).map (·.2)) us) (fun _ s'=>∃ σ' H',Inv X Vq σ' H' s'/\Q σ' H') X.xe s
noncomputable abbrev u1:=V->V->V->Hp->(Hp->Prop)->Prop
noncomputable def Cn (X:Cx)(t:u1):Prop:=
 ∀ (Vq:List (Addr×OE))(s:M4)(σ:St)(H:Hp)(o i v:V)(ov iv u:M0)(Q:Hp->Prop),Inv X Vq σ H s->RelV o ov->RelV i iv->RelV v u->t o i v H Q->
  NI (NC X.prog X.w) X.A (setItem ov iv u) (fun _ s'=>∃ H',Inv X Vq σ H' s'/\Q H') X.xe s
section
variable {X:Cx}{pos:Om}
noncomputable def pR (i:Nat):TG:=fun v σ H Q=>Q (σ.set i (some v)) H
theorem u3 {i:Nat}{x:Str}(hN:X.N.Nodup)(hi:X.N[i]? = some x)(hx:Loc X.env.scope x)(hf:X.fn x=true\/X.env.scope.names.lookup x=some .local:=by first|exact .inl rfl|exact .inr rfl|assumption):PG X (.Name x pos) (pR i):=by
 intro Vq s σ H v u Q I r h
 exact Uu (uX I hN hi hx r (fun s' I'=>⟨_,H,I',h⟩) hf)
noncomputable def u4:jY:=fun vs σ H Q=>vs=[]/\Q σ H
noncomputable def u5 (t:TG)(u:jY):jY:=fun vs σ H Q=>∃ v r,vs=v::r/\t v σ H fun σ' H'=>u r σ' H' Q
theorem Co:lT X [] u4:=by
 intro Vq s σ H vs us Q I r h
 obtain ⟨e,h⟩:=h
 subst e
 cases r
 exact assignInOrder_nil ⟨σ,H,I,h⟩
theorem Cp {e:M5}{es:List M5}{t:TG}{u:jY}(h1:PG X e t)(h2:lT X es u)
  (hs:(OG (e::es) X.env).map (·.2)=Rz e X.env::(OG es X.env).map (·.2):=by rfl):lT X (e::es) (u5 t u):=by
 intro Vq s σ H vs us Q I r h
 obtain ⟨v,vr,e1,h⟩:=h
 subst e1
 cases r with
 | cons r rr=>
  rw [hs]
  refine assignInOrder_cons (aT (h1 Vq s σ H _ _ _ I r h) fun _ s1 ⟨σ1,H1,I1,q1⟩=>?_)
  exact h2 Vq s1 σ1 H1 _ _ Q I1 rr q1
noncomputable def u6 (te:TE)(g:TG):TS:=fun D σ H=>te σ H fun x H1=>g x σ H1 D.nx
theorem Cq {tg e:M5}{te:TE}{g:TG}(he:PE X e te)(hg:PG X tg g)(hs:swapsWithSole [tg] e pos.line X.env=pure false:=by rfl)(hw:SO [tg] e X.env=pure none:=by rfl)
  (h1:(OG [tg] X.env).map (·.2)=[Rz tg X.env]:=by rfl):PS X (.Assign [tg] e pos) (u6 te g):=by
 intro Vq s σ H D I h
 refine wpAny_Assign_stores (aT (he Vq s σ H _ I h) fun v s1 ⟨x,H1,I1,r1,q1⟩=>?_) hs hw
 rw [h1]
 exact aT (hg Vq s1 σ H1 x v _ I1 r1 q1) fun _ s2 q=>q
theorem Cr {i:Nat}{x:Str}{e:M5}{te:TE}{pos':Om}(hN:X.N.Nodup)(hi:X.N[i]? = some x)(hx:Loc X.env.scope x)(he:PE X e te)(hs:Qc e (some (.Name x pos')) pos.line X.env=pure false:=by rfl)(hf:X.fn x=true\/X.env.scope.names.lookup x=some .local:=by first|exact .inl rfl|exact .inr rfl|assumption) :
  PS X (.Assign [.Name x pos'] e pos) (u6 te (pR i)):=by
 intro Vq s σ H D I h
 refine wpAny_Assign_Name (aT (he Vq s σ H _ I h) fun v s1 ⟨y,H1,I1,r1,q1⟩=>?_) hs
 exact uX I1 hN hi hx r1 (fun s2 I2=>⟨_,H1,I2,q1⟩) hf
end
section
variable {X:Cx}{pos:Om}
noncomputable def Ct (c:TT)(tb:TS):TS:=fun D σ H=>∃ W:Nat->St->Hp->Prop,(∃ m,W m σ H)/\∀ m σ H,W m σ H->
 c σ H fun b H1=>if b=true then ∃ N:St->Hp->Prop,(∀ σ' H',N σ' H'->∃ m',m'<m/\W m' σ' H')/\tb { D with nx:=N,ct:=N,bk:=D.nx } σ H1 else D.nx σ H1
theorem Cu {c:M5}{body:List Stmt}{tc:TT}{tb:TS}(hp:RU (NC X.prog X.w) X.A X.env X.xe)(hc:PT X c tc)(hb:PSs X body tb):PS X (.While c body [] pos) (Ct tc tb):=by
 intro Vq s σ H D I h
 obtain ⟨W,⟨m0,w0⟩,turn⟩:=h
 refine wpAny_While (codeAny_whileLoop (fun n s'=>∃ σ' H',Inv X Vq σ' H' s'/\W n σ' H') ?_ m0 ⟨σ,H,I,w0⟩)
 rintro n s1 ⟨σ1,H1,I1,w1⟩
 refine Pc hp (aT (hc Vq s1 σ1 H1 _ I1 (turn n σ1 H1 w1)) fun b s2 ⟨H2,I2,q2⟩=>?_)
 cases b with
 | true=>
  obtain ⟨N,hN,q2⟩:=q2
  rw [if_pos rfl]
  refine Pc hp (aT (hb Vq s2 σ1 H2 _ I2 q2) fun f s3 q3=>?_)
  cases f with
  | next=>
   obtain ⟨σ3,H3,I3,n3⟩:=q3
   obtain ⟨m',hm,w3⟩:=hN σ3 H3 n3
   exact ⟨m',hm,σ3,H3,I3,w3⟩
  | cont=>
   obtain ⟨σ3,H3,I3,n3⟩:=q3
   obtain ⟨m',hm,w3⟩:=hN σ3 H3 n3
   exact ⟨m',hm,σ3,H3,I3,w3⟩
  | brk=>exact q3
  | ret v=>exact q3
 | false=>
  rw [if_neg Pz]
  exact QY ⟨σ1,H2,I2,q2⟩
end
structure It where
 go:Nat->Hp->Prop
 yld:Nat->Hp->V->Hp->Prop
 stop:Nat->Hp->Prop
noncomputable def eP (X:Cx)(Vq:List (Addr×OE))(H:Hp)(b:Addr):Prop:=
 H b=none/\b≠X.env.locals/\b∉X.fs/\(b∈X.ex\/X.s₀.heap.objs.size<=b)/\(∀ x c,X.env.cells.lookup x=some c->c≠b)/\∀ p∈X.pn++Vq,p.1≠b
theorem Inv.fpOk {X:Cx}{Vq:List (Addr×OE)}{σ:St}{H H':Hp}{s:M4}{b:Addr}(I:Inv X Vq σ H s)(hb:s.heap.objs.size<=b)(hn:H' b=none):eP X Vq H' b:=by
 refine ⟨hn,Qx (Ny I.lt hb),I.nofs hb,.inr (N9 I.sz hb),fun x c e z=>?_,fun p hp z=>?_⟩
 ·obtain ⟨v,q⟩:=I.cell x c e
  exact absurd (Ny q.lt (by rw [z];exact hb)) (Oe _)
 ·exact absurd (Ny (Nc (I.pin p hp).1) (by rw [z];exact hb)) (Oe _)
structure Turn (P:Nz)(w:NP)(K:MX)(tg:M5)(J:It)(fp:List Addr)(it:Addr)(tn:Nat->N6->Prop):Prop where
 mem:it∈fp
 obj:∀ i h,tn i h->∀ b∈fp,∃ o,h.get? b=some o/\∀ v,o.data≠.cell v
 keep:∀ i h h',tn i h->(∀ b∈fp,∀ o,h.get? b=some o->h'.get? b=some o)->tn i h'
 item:∀ (X:Cx),X.prog=P->X.w=w->X.K=K->X.calm=true->∀ (i:Nat)(Vq:List (Addr×OE))(s:M4)(σ:St)(H:Hp)(E:M0->M4->Prop),Inv X Vq σ H s->(∀ b∈fp,eP X Vq H b)->tn i s.heap->J.go i H->
  NI (NC P w) X.A (Vh (.ref it)) (fun r s1=>∃ u,r=some u /\
   NI (NC P w) X.A (QZ tg (.ref it) u) (fun _ s2=>∃ x H',Inv X Vq σ H' s2/\RelV x u/\J.yld i H x H'/\tn (i+1) s2.heap/\∀ b∈fp,H' b=none) E s1) E s
 done:∀ (X:Cx),X.prog=P->X.w=w->X.K=K->X.calm=true->∀ (i:Nat)(Vq:List (Addr×OE))(s:M4)(σ:St)(H:Hp)(E:M0->M4->Prop),Inv X Vq σ H s->(∀ b∈fp,eP X Vq H b)->tn i s.heap->J.stop i H->
  NI (NC P w) X.A (Vh (.ref it)) (fun r s1=>r=none/\Inv X Vq σ H s1) E s
 self:∀ (A:NM)(i:Nat)(s:M4)(Q:M0->M4->Prop)(E:M0->M4->Prop),tn i s.heap->Q (.ref it) s->NI (NC P w) A (Ui (.ref it)) Q E s
noncomputable abbrev TI:=St->Hp->(It->Hp->Prop)->Prop
noncomputable def lU (X:Cx)(Vq:List (Addr×OE))(σ:St)(tg:M5)(R:It->Hp->Prop)(itv:M0)(s2:M4):Prop:=
 ∃ (it:Addr)(fp:List Addr)(tn:Nat->N6->Prop)(J:It)(H':Hp),itv=.ref it/\Inv X Vq σ H' s2/\Turn X.prog X.w X.K tg J fp it tn/\tn 0 s2.heap/\(∀ b∈fp,eP X Vq H' b)/\R J H'
noncomputable def PI (X:Cx)(tg iter:M5)(wi:TI):Prop:=
 ∀ (Vq:List (Addr×OE))(s:M4)(σ:St)(H:Hp)(R:It->Hp->Prop),Inv X Vq σ H s->wi σ H R->
  NI (NC X.prog X.w) X.A (eval iter X.env) (fun v s1=>NI (NC X.prog X.w) X.A (Ui v) (lU X Vq σ tg R) X.xe s1) X.xe s
theorem nC {M:Vm}{A:NM}{E:M0->M4->Prop}{s:M4}{tg:M5}{it:Addr}{u:M0}{o:OE}{n:String}{vs:Array M0}{Q:Unit->M4->Prop}(ho:s.heap.get? it=some o)(hc:o.cls=.type n)(hd:o.data=.fields vs)
  (hn:["enumerate","zip","dict_itemiterator","dict_reverseitemiterator","odict_iterator","itertools.zip_longest","itertools.pairwise"].contains n=false) (hQ:Q () s):NI M A (QZ tg (.ref it) u) Q E s:=by
 unfold QZ
 cases tg<;>first
  | exact NO hQ
  | (cases u<;>first
    | exact NO hQ
    | (refine Nm (wpAny_load ho ?_)
       rw [hc,hd]
       show NI M A (if (["enumerate","zip","dict_itemiterator","dict_reverseitemiterator","odict_iterator","itertools.zip_longest","itertools.pairwise"].contains n&&vs[0]? == some (Uh _))=true then _ else _) Q E s
       rw [if_neg (by intro h;rw [hn,Bool.false_and] at h;cases h)]
       exact NO hQ))
noncomputable def pS (K:MX)(a:Addr):It:=
 ⟨fun i H=>∃ xs x,SqL K H a xs/\xs[i]? = some x,fun i H x H'=>H'=H/\∀ xs,SqL K H a xs->xs[i]? = some x,fun i H=>∃ xs,SqL K H a xs/\xs.length<=i⟩
noncomputable def pT (K:MX)(a:Addr):It:=
 ⟨fun i H=>∃ xs x,SqT K H a xs/\xs[i]? = some x,fun i H x H'=>H'=H/\∀ xs,SqT K H a xs->xs[i]? = some x,fun i H=>∃ xs,SqT K H a xs/\xs.length<=i⟩
noncomputable def nD (lo:Int)(n:Nat):It:=⟨fun i _=>i<n,fun i H x H'=>H'=H/\x=.int (lo+i),fun i _=>n<=i⟩
theorem Cv {P:Nz}{w:NP}{K:MX}{tg:M5}(a it:Addr):Turn P w K tg (pS K a) [it] it (fun i h=>h.IsListIter it a i) where
 mem:=by simp
 obj:=fun i h st b hb=>by
  have e:b=it:=by simpa using hb
  subst e
  obtain ⟨o,e,c,d⟩:=st
  exact ⟨o,e,fun v z=>by rw [d] at z;cases z⟩
 keep:=fun i h h' st k=>st.at fun o e=>k it (by simp) o e
 item:=by
  intro X hP hw hK hc i Vq s σ H E I hf st hg
  subst hP hw hK
  obtain ⟨xs,x,hq,hx⟩:=hg
  obtain ⟨its,rv,p,hz⟩:=I.list hq
  obtain ⟨u,hu,ru⟩:=rv.get hx
  obtain ⟨f0,f1,f2,f3,f4,f5⟩:=hf it (by simp)
  refine Ta st p.isList (x:=u) (by simpa using hu) fun h' st' sb=>?_
  have I1:Inv X Vq σ H { s with heap:=h' }:=I.turned (t':=s.toks) (fun b o hb e=>(sb.2 b hb).trans e) f0 f1 f3 f4 f5
  obtain ⟨o,e,c,d⟩:=id st'
  exact ⟨u,rfl,nC (s:={ s with heap:=h' }) e c d (by decide) ⟨x,H,I1,ru,⟨rfl,fun ys hy=>by rw [I.list_inj hy hq];exact hx⟩,st',fun b hb=>(hf b hb).1⟩⟩
 done:=by
  intro X hP hw hK hc i Vq s σ H E I hf st hg
  subst hP hw hK
  obtain ⟨xs,hq,hx⟩:=hg
  obtain ⟨its,rv,p,hz⟩:=I.list hq
  obtain ⟨f0,f1,f2,f3,f4,f5⟩:=hf it (by simp)
  have hl:=rv.length
  exact TL (I.ok.hd hc) st p.isList (by simp;omega) fun h' eb=>⟨rfl,I.turned (t':=s.toks) (fun b o hb e=>eb b o hb e) f0 f1 f3 f4 f5⟩
 self:=fun _ _ _ _ _ st h=>wpAny_pyIter_listiter st h
theorem Cw {P:Nz}{w:NP}{K:MX}{tg:M5}(a it:Addr):Turn P w K tg (pT K a) [it] it (fun i h=>h.IsTupleIter it a i) where
 mem:=by simp
 obj:=fun i h st b hb=>by
  have e:b=it:=by simpa using hb
  subst e
  obtain ⟨o,e,c,d⟩:=st
  exact ⟨o,e,fun v z=>by rw [d] at z;cases z⟩
 keep:=fun i h h' st k=>st.at fun o e=>k it (by simp) o e
 item:=by
  intro X hP hw hK hc i Vq s σ H E I hf st hg
  subst hP hw hK
  obtain ⟨xs,x,hq,hx⟩:=hg
  obtain ⟨its,rv,p,hz⟩:=I.tuple hq
  obtain ⟨u,hu,ru⟩:=rv.get hx
  obtain ⟨f0,f1,f2,f3,f4,f5⟩:=hf it (by simp)
  refine wpAny_pyNext_tuple_item st (show s.heap.IsTuple a its.toArray from p) (x:=u) (by simpa using hu) fun h' st' sb=>?_
  have I1:Inv X Vq σ H { s with heap:=h' }:=I.turned (t':=s.toks) (fun b o hb e=>(sb.2 b hb).trans e) f0 f1 f3 f4 f5
  obtain ⟨o,e,c,d⟩:=id st'
  exact ⟨u,rfl,nC (s:={ s with heap:=h' }) e c d (by decide) ⟨x,H,I1,ru,⟨rfl,fun ys hy=>by rw [I.tuple_inj hy hq];exact hx⟩,st',fun b hb=>(hf b hb).1⟩⟩
 done:=by
  intro X hP hw hK hc i Vq s σ H E I hf st hg
  subst hP hw hK
  obtain ⟨xs,hq,hx⟩:=hg
  obtain ⟨its,rv,p,hz⟩:=I.tuple hq
  obtain ⟨f0,f1,f2,f3,f4,f5⟩:=hf it (by simp)
  have hl:=rv.length
  exact wpAny_pyNext_tuple_end (I.ok.hd hc) st (show s.heap.IsTuple a its.toArray from p) (by simp;omega) fun h' eb=>⟨rfl,I.turned (t':=s.toks) (fun b o hb e=>eb b o hb e) f0 f1 f3 f4 f5⟩
 self:=fun _ _ _ _ _ st h=>wpAny_pyIter_tupleiter st h
theorem Cy {P:Nz}{w:NP}{K:MX}{tg:M5}(it:Addr)(lo:Int)(n:Nat):Turn P w K tg (nD lo n) [it] it (fun i h=>IsRangeIter h it (lo+(i:Nat) * 1) ((n:Int) - (i:Nat)) 1) where
 mem:=by simp
 obj:=fun i h st b hb=>by
  have e:b=it:=by simpa using hb
  subst e
  exact ⟨_,st,fun v z=>by
   have z':SK _=Vp v:=z
   cases z'⟩
 keep:=fun i h h' st k=>k it (by simp) _ st
 item:=by
  intro X hP hw hK hc i Vq s σ H E I hf st hg
  subst hP hw hK
  obtain ⟨f0,f1,f2,f3,f4,f5⟩:=hf it (by simp)
  have W:=Walks.range (prog:=X.prog) (w:=X.w) (I.ok.hd hc) it lo 1 n
  refine W.item i s _ _ hg st fun v h' tk hv st' kk=>?_
  obtain ⟨t,rfl⟩:=hv
  have I1:Inv X Vq σ H { s with heap:=h',toks:=tk }:=I.turned (fun b o hb e=>kk b o (by simpa using hb) e) f0 f1 f3 f4 f5
  refine ⟨_,rfl,nC (s:={ s with heap:=h',toks:=tk }) (n:="range_iterator") st' rfl rfl (by decide) ⟨.int (lo+i),H,I1,⟨t,?_⟩,⟨rfl,rfl⟩,st',fun b hb=>(hf b hb).1⟩⟩
  rw [Int.mul_one]
 done:=by
  intro X hP hw hK hc i Vq s σ H E I hf st hg
  subst hP hw hK
  obtain ⟨f0,f1,f2,f3,f4,f5⟩:=hf it (by simp)
  exact wpAny_pyNext_range_end (I.ok.hd hc) st (by have:n<=i:=hg;omega) fun h' eb=>⟨rfl,I.turned (t':=s.toks) (fun b o hb e=>eb b o hb e) f0 f1 f3 f4 f5⟩
 self:=fun _ _ _ _ _ st h=>wpAny_pyIter_rangeiter st h
end L2
namespace L2
open PySem PySem.Spec PyProof.Rows
section
variable {X:Cx}{tg:M5}
theorem Cz {Vq:List (Addr×OE)}{σ:St}{H:Hp}{s:M4}{R:It->Hp->Prop}{E:M0->M4->Prop}{lo hi:Int}{t u v:UG}{tk:Nat}(I:Inv X Vq σ H s)(h1:-(2 ^ 62)<=lo)(h2:lo<2 ^ 62)(h3:-(2 ^ 62)<=hi)(h4:hi<2 ^ 62)
  (q:R (nD lo (hi - lo).toNat) H):NI (NC X.prog X.w) X.A (Ui (.ref s.heap.objs.size)) (lU X Vq σ tg R) E { s with heap:=s.heap.push { cls:=.type "range",data:=.fields #[.int lo t,.int hi u,.int 1 v] },toks:=tk }:=by
 refine wpAny_pyIter_range (IsRange.new ..) (small_one h1 h2 h3 h4) ?_
 have I1:Inv X Vq σ H { s with heap:=s.heap.push { cls:=.type "range",data:=.fields #[.int lo t,.int hi u,.int 1 v] },toks:=tk }:=I.kept fun b o e=>M6 _ e
 refine ⟨(s.heap.push { cls:=.type "range",data:=.fields #[.int lo t,.int hi u,.int 1 v] }).objs.size,[(s.heap.push { cls:=.type "range",data:=.fields #[.int lo t,.int hi u,.int 1 v] }).objs.size],_,_,H,rfl,
  I1.kept (t':=tk) fun b o e=>M6 _ e,Cy _ lo (hi - lo).toNat,?_,fun b hb=>?_,q⟩
 ·have e1:lo+((0:Nat):Int) * 1=lo:=by simp
  have e2:(((hi - lo).toNat:Nat):Int) - ((0:Nat):Int)=UX lo hi 1:=by rw [rangeSize_one];split<;>omega
  show IsRangeIter _ _ (lo+((0:Nat):Int) * 1) ((((hi - lo).toNat:Nat):Int) - ((0:Nat):Int)) 1
  rw [e1,e2]
  exact Nu _ rfl
 ·have e:b=(s.heap.push { cls:=.type "range",data:=.fields #[.int lo t,.int hi u,.int 1 v] }).objs.size:=by simpa using hb
  subst e
  exact I1.fpOk (Ni _) (I1.hok.fresh (Ni _))
noncomputable def CA (ta:TA):TI:=fun σ H R=>ta σ H fun vs H1=>∃ j:Int,vs=[.int j]/\-(2 ^ 62)<=j/\j<2 ^ 62/\R (nD 0 j.toNat) H1
theorem CB {a:M5}{ta:TA}{p pos:Om}(hg:Gl X "range") (hm:X.mg "range" = none) (ha:PA X [a] ta)(hs:NL [a] X.env=[(false,eval a X.env)]:=by rfl):PI X tg (.Call (.Name "range" p) [a] [] pos) (CA ta):=by
 intro Vq s σ H R I h
 refine Call_ (iX I hg hm boot_range (OZ (aT (ha pos Vq s σ H _ I h) fun us s1 ⟨vs,H1,I1,r1,q1⟩=>?_) hs rfl))
 obtain ⟨j,e,q1,q2,q⟩:=q1
 subst e
 cases r1 with
 | cons r rr=>
  cases rr
  obtain ⟨t,rfl⟩:=r
  exact call_range_1 (Cz I1 (by omega) (by omega) q1 q2 (by simpa using q))
noncomputable def CC (wi:TI)(g:TG)(tb:TS):TS:=fun D σ H=>wi σ H fun J H1=>∃ W:Nat->Nat->St->Hp->Prop,(∃ m,W 0 m σ H1)/\∀ i m σ H,W i m σ H->
 (J.stop i H/\D.nx σ H)\/(J.go i H/\∃ N:St->Hp->Prop,(∀ σ' H',N σ' H'->∃ m',m'<m/\W (i+1) m' σ' H')/\∀ x H',J.yld i H x H'->g x σ H' fun σ2 H2=>tb { D with nx:=N,ct:=N,bk:=D.nx } σ2 H2)
noncomputable def lV (fp:List Addr)(h:N6):List (Addr×OE):=fp.filterMap fun b=>(h.get? b).map fun o=>(b,o)
theorem nE {fp:List Addr}{h:N6}{b:Addr}{o:OE}(hb:b∈fp)(e:h.get? b=some o):(b,o)∈lV fp h:=Q8.mpr ⟨b,hb,by rw [e];rfl⟩
theorem CD {fp:List Addr}{h:N6}{p:Addr×OE}(hp:p∈lV fp h):p.1∈fp/\h.get? p.1=some p.2:=by
 obtain ⟨b,hb,e⟩:=Q8.mp hp
 cases q:h.get? b with
 | none=>rw [q] at e;cases e
 | some o=>
  rw [q] at e
  have e':(b,o)=p:=Nq e
  subst e'
  exact ⟨hb,q⟩
theorem Inv.pinned {Vq:List (Addr×OE)}{σ:St}{H:Hp}{s:M4}{fp:List Addr}(I:Inv X Vq σ H s)(hf:∀ b∈fp,eP X Vq H b)(ho:∀ b∈fp,∃ o,s.heap.get? b=some o/\∀ v,o.data≠.cell v):Inv X (Vq++lV fp s.heap) σ H s:=
 I.pins_of fun p hp=>(NY.mp hp).elim (fun z=>I.pin p (NX _ z)) fun z=>by
  obtain ⟨hb,e⟩:=CD z
  obtain ⟨f0,f1,f2,_⟩:=hf p.1 hb
  obtain ⟨o,e',d⟩:=ho p.1 hb
  rw [e] at e';cases e'
  exact ⟨e,f0,f1,f2,d⟩
theorem Inv.unpinned {Vq pl:List (Addr×OE)}{σ:St}{H:Hp}{s:M4}(I:Inv X (Vq++pl) σ H s):Inv X Vq σ H s:=I.pins_of fun p hp=>I.pin p (NX _ (SJ _ hp))
theorem CF {iter:M5}{body:List Stmt}{wi:TI}{g:TG}{tb:TS}{pos:Om}(hp:RU (NC X.prog X.w) X.A X.env X.xe)(hc:X.calm=true)(hi:PI X tg iter wi)(hg:PG X tg g)(hb:PSs X body tb)
  (hs:∀ x,PQ iter X.env x=pure x:=by intro _;rfl):PS X (.For tg iter body [] pos) (CC wi g tb):=by
 intro Vq s σ H D I h
 refine wpAny_For (aT (hi Vq s σ H _ I h) fun v s1 h1=>aT h1 fun itv s2 h2=>?_) hs
 obtain ⟨it,fp,tn,J,H2,e,I2,T,st2,f2,W,⟨m0,w0⟩,turn⟩:=h2
 subst e
  -- what stays true of the iterator's objects through the loop
 have stat:∀ {H':Hp},(∀ b∈fp,H' b=none)->∀ b∈fp,eP X Vq H' b:=fun hn b hb=>⟨hn b hb,(f2 b hb).2⟩
 refine codeAny_forLoop_any (fun n s'=>∃ i σ' H',Inv X Vq σ' H' s'/\tn i s'.heap/\(∀ b∈fp,H' b=none)/\W i n σ' H') ?_ m0 ⟨0,σ,H2,I2,st2,fun b hb=>(f2 b hb).1,w0⟩
 rintro n s3 ⟨i,σ3,H3,I3,st3,fr3,w3⟩
 rcases turn i n σ3 H3 w3 with ⟨stop,qn⟩|⟨go,N,hN,step⟩
 ·refine Pc hp (aT (T.done X rfl rfl rfl hc i Vq s3 σ3 H3 X.xe I3 (stat fr3) st3 stop) fun r s4 ⟨hr,I4⟩=>?_)
  subst hr
  exact QY ⟨σ3,H3,I4,qn⟩
 ·refine Pc hp (aT (T.item X rfl rfl rfl hc i Vq s3 σ3 H3 X.xe I3 (stat fr3) st3 go) fun r s4 ⟨u,hr,h4⟩=>?_)
  subst hr
  refine Pc hp (aT h4 fun _ s5 ⟨x,H5,I5,r5,y5,st5,fr5⟩=>?_)
  have I5':=I5.pinned (stat fr5) (T.obj _ _ st5)
  refine Pc hp (aT (hg _ s5 σ3 H5 x u _ I5' r5 (step x H5 y5)) fun _ s6 ⟨σ6,H6,I6,q6⟩=>?_)
  refine Pc hp (aT (hb _ s6 σ6 H6 _ I6 q6) fun f s7 q7=>?_)
  have again:∀ {σ7:St}{H7:Hp},Inv X (Vq++lV fp s5.heap) σ7 H7 s7->N σ7 H7->∃ m,m<n/\∃ i σ' H',Inv X Vq σ' H' s7/\tn i s7.heap/\(∀ b∈fp,H' b=none)/\W i m σ' H':=fun {σ7 H7} I7 n7=>by
   obtain ⟨m',hm,w7⟩:=hN σ7 H7 n7
   refine ⟨m',hm,i+1,σ7,H7,I7.unpinned,T.keep _ _ _ st5 fun b hb o e=>(I7.pin (b,o) (NX _ (NX _ (nE hb e)))).1,fun b hb=>?_,w7⟩
   obtain ⟨o,e,d⟩:=T.obj _ _ st5 b hb
   exact (I7.pin (b,o) (NX _ (NX _ (nE hb e)))).2.1
  cases f with
  | next=>obtain ⟨σ7,H7,I7,n7⟩:=q7;exact again I7 n7
  | cont=>obtain ⟨σ7,H7,I7,n7⟩:=q7;exact again I7 n7
  | brk=>obtain ⟨σ7,H7,I7,q7⟩:=q7;exact ⟨σ7,H7,I7.unpinned,q7⟩
  | ret v=>obtain ⟨x7,σ7,H7,I7,r7,q7⟩:=q7;exact ⟨x7,σ7,H7,I7.unpinned,r7,q7⟩
end
end L2
namespace L2
open PySem PySem.Spec PyProof.Rows
noncomputable abbrev R2:=V->V->Hp->VK->Prop
noncomputable def OpR (X:Cx)(f:M0->M0->UH M0)(r:R2):Prop:=
 ∀ (Vq:List (Addr×OE))(s:M4)(σ:St)(H:Hp)(x y:V)(v u:M0)(Q:VK),Inv X Vq σ H s->RelV x v->RelV y u->r x y H Q->
  NI (NC X.prog X.w) X.A (f v u) (EP X Vq σ Q) X.xe s
noncomputable def pU (X:Cx)(f:M0->UH M0)(r:V->Hp->VK->Prop):Prop:=
 ∀ (Vq:List (Addr×OE))(s:M4)(σ:St)(H:Hp)(x:V)(v:M0)(Q:VK),Inv X Vq σ H s->RelV x v->r x H Q->
  NI (NC X.prog X.w) X.A (f v) (EP X Vq σ Q) X.xe s
noncomputable def CallR (X:Cx)(f:M0)(r:List V->Hp->VK->Prop):Prop:=
 ∀ (Vq:List (Addr×OE))(s:M4)(σ:St)(H:Hp)(xs:List V)(us:List M0)(Q:VK),Inv X Vq σ H s->Vals xs us->r xs H Q->
  NI (NC X.prog X.w) X.A (call f us) (EP X Vq σ Q) X.xe s
noncomputable def CG (X:Cx)(r:V->Hp->(Bool->Hp->Prop)->Prop):Prop:=
 ∀ (Vq:List (Addr×OE))(s:M4)(σ:St)(H:Hp)(x:V)(v:M0)(Q:Bool->Hp->Prop),Inv X Vq σ H s->RelV x v->r x H Q->
  NI (NC X.prog X.w) X.A (truthy v) (TP X Vq σ Q) X.xe s
noncomputable def lW (r:R2)(ta tb:TE):TE:=fun σ H Q=>ta σ H fun x H1=>tb σ H1 fun y H2=>r x y H2 Q
noncomputable def CH (r:V->Hp->VK->Prop)(ta:TE):TE:=fun σ H Q=>ta σ H fun x H1=>r x H1 Q
noncomputable def rI (C:Int->Int->Prop)(g:Int->Int->V):R2:=fun x y H Q=>∃ i j,x=.int i/\y=.int j/\C i j/\Q (g i j) H
noncomputable def eQ (g:Int->Int->V):R2:=fun x y H Q=>∃ i j,x=.int i/\y=.int j/\Q (g i j) H
noncomputable def rU (g:Int->V):V->Hp->VK->Prop:=fun x H Q=>∃ i,x=.int i/\Q (g i) H
section
variable {X:Cx}{a b c:M5}{ta tb tc:TE}{pos:Om}
theorem pV (ha:PE X a ta)(hb:PE X b tb){Vq:List (Addr×OE)}{s:M4}{σ:St}{H:Hp}{R:V->V->Hp->Prop}(I:Inv X Vq σ H s)
  (h:ta σ H fun x H1=>tb σ H1 fun y H2=>R x y H2){Q:M0->M4->Prop}{f:M0->M0->UH M0}
  (hf:∀ v u s2 x y H2,Inv X Vq σ H2 s2->RelV x v->RelV y u->R x y H2->NI (NC X.prog X.w) X.A (f v u) Q X.xe s2) :
  NI (NC X.prog X.w) X.A (eval a X.env) (fun v s₁=>NI (NC X.prog X.w) X.A (eval b X.env) (fun u s₂=>NI (NC X.prog X.w) X.A (f v u) Q X.xe s₂) X.xe s₁) X.xe s:=by
 refine aT (ha Vq s σ H _ I h) fun v s1 ⟨x,H1,I1,r1,q1⟩=>?_
 refine aT (hb Vq s1 σ H1 _ I1 q1) fun u s2 ⟨y,H2,I2,r2,q2⟩=>?_
 exact hf v u s2 x y H2 I2 r1 r2 q2
theorem CI {op:Sr}{r:R2}(ho:OpR X (Pd op) r)(ha:PE X a ta)(hb:PE X b tb):PE X (.BinOp a op b pos) (lW r ta tb):=by
 intro Vq s σ H Q I h
 exact wpAny_BinOp (pV ha hb I h fun v u s2 x y H2 I2 rx ry q=>ho Vq s2 σ H2 x y v u Q I2 rx ry q)
theorem CJ {op:UnaryOp}{r:V->Hp->VK->Prop}(ho:pU X (unaryOp op) r)(ha:PE X a ta):PE X (.UnaryOp op a pos) (CH r ta):=by
 intro Vq s σ H Q I h
 exact UnaryOp_ (aT (ha Vq s σ H _ I h) fun v s1 ⟨x,H1,I1,r1,q1⟩=>ho Vq s1 σ H1 x v Q I1 r1 q1)
theorem nF {f:M0->M0->UH M0}{C:Int->Int->Prop}{g:Int->Int->Int}
  (rule:∀ (i j:Int)(t u:UG)(s:M4)(Q:M0->M4->Prop)(E:M0->M4->Prop),C i j->Q (.int (g i j) s.toks) { s with toks:=s.toks+1 }->NI (NC X.prog X.w) X.A (f (.int i t) (.int j u)) Q E s) :
  OpR X f (rI C fun i j=>.int (g i j)):=by
 intro Vq s σ H x y v u Q I rx ry h
 obtain ⟨i,j,rfl,rfl,hc,q⟩:=h
 obtain ⟨t,rfl⟩:=rx
 obtain ⟨t',rfl⟩:=ry
 exact rule i j t t' s _ _ hc ⟨.int (g i j),H,I.tok _,⟨_,rfl⟩,q⟩
theorem u7 {f:M0->M0->UH M0}{g:Int->Int->Int}
  (rule:∀ (i j:Int)(t u:UG)(s:M4)(Q:M0->M4->Prop)(E:M0->M4->Prop),Q (.int (g i j) s.toks) { s with toks:=s.toks+1 }->NI (NC X.prog X.w) X.A (f (.int i t) (.int j u)) Q E s) :
  OpR X f (eQ fun i j=>.int (g i j)):=by
 intro Vq s σ H x y v u Q I rx ry h
 obtain ⟨i,j,rfl,rfl,q⟩:=h
 obtain ⟨t,rfl⟩:=rx
 obtain ⟨t',rfl⟩:=ry
 exact rule i j t t' s _ _ ⟨.int (g i j),H,I.tok _,⟨_,rfl⟩,q⟩
theorem nG {f:M0->M0->UH M0}{g:Int->Int->Bool}
  (rule:∀ (i j:Int)(t u:UG)(s:M4)(Q:M0->M4->Prop)(E:M0->M4->Prop),Q (.bool (g i j)) s->NI (NC X.prog X.w) X.A (f (.int i t) (.int j u)) Q E s) :
  OpR X f (eQ fun i j=>.bl (g i j)):=by
 intro Vq s σ H x y v u Q I rx ry h
 obtain ⟨i,j,rfl,rfl,q⟩:=h
 obtain ⟨t,rfl⟩:=rx
 obtain ⟨t',rfl⟩:=ry
 exact rule i j t t' s _ _ ⟨.bl (g i j),H,I,rfl,q⟩
noncomputable def CK (i j:Int):Prop:=0<=j/\j<=1000000/\i.natAbs<2 ^ 64
noncomputable def CMul (i j:Int):Prop:=(-(2 ^ 64)<i/\i<2 ^ 64)\/(-(2 ^ 64)<j/\j<2 ^ 64)
theorem CMul.ok {i j:Int}(h:CMul i j):T5 i j:=by
 rcases h with ⟨h1,h2⟩|⟨h1,h2⟩
 ·exact .of_left (intBits_le_64 h1 h2)
 ·exact .of_right (intBits_le_64 h1 h2)
theorem op_add:OpR X (Pd .Add) (eQ fun i j=>.int (i+j)):=u7 fun _ _ _ _ _ _ _ q=>add_int q
theorem CL:OpR X (Pd .Sub) (eQ fun i j=>.int (i - j)):=u7 fun _ _ _ _ _ _ _ q=>sub_int q
theorem CM:OpR X (Pd .Mod) (rI (fun _ j=>0<j) fun i j=>.int (i % j)):=nF fun i j _ _ _ _ _ hc q=>by
 have h1:(0:Int)<j:=hc
 exact mod_int' (by omega) (by rw [Int.fmod_eq_emod_of_nonneg i (by omega)];exact q)
theorem fI {f:M0->UH M0}{g:Int->Int}
  (rule:∀ (i:Int)(t:UG)(s:M4)(Q:M0->M4->Prop)(E:M0->M4->Prop),Q (.int (g i) s.toks) { s with toks:=s.toks+1 }->NI (NC X.prog X.w) X.A (f (.int i t)) Q E s) :
  pU X f (rU fun i=>.int (g i)):=by
 intro Vq s σ H x v Q I rx h
 obtain ⟨i,rfl,q⟩:=h
 obtain ⟨t,rfl⟩:=rx
 exact rule i t s _ _ ⟨.int (g i),H,I.tok _,⟨_,rfl⟩,q⟩
theorem CN:pU X (unaryOp .USub) (rU fun i=>.int (-i)):=fI fun _ _ _ _ _ q=>neg_int q
end
section
variable {X:Cx}{a b c:M5}{ta tb tc:TE}{pos:Om}
theorem jZ {Vq:List (Addr×OE)}{σ:St}{H:Hp}{s:M4}{Q:VK}{k k':Bool}(I:Inv X Vq σ H s)(q:Q (.bl k) H)(e:k=k'):EP X Vq σ Q (.bool k') s:=by
 subst e
 exact ⟨.bl k,H,I,rfl,q⟩
theorem u9:OpR X (OV .Lt) (eQ fun i j=>.bl (decide (i<j))):=nG fun _ _ _ _ _ _ _ q=>lt_int q
theorem vA:OpR X (OV .LtE) (eQ fun i j=>.bl (decide (i<=j))):=nG fun _ _ _ _ _ _ _ q=>le_int q
theorem vB:OpR X (OV .Gt) (eQ fun i j=>.bl (decide (j<i))):=nG fun _ _ _ _ _ _ _ q=>gt_int q
theorem vC:OpR X (OV .GtE) (eQ fun i j=>.bl (decide (j<=i))):=nG fun _ _ _ _ _ _ _ q=>ge_int q
theorem vD:OpR X (OV .Is) (fun x y H Q=>y=.non/\Q (.bl (decide (x=.non))) H):=by
 intro Vq s σ H x y v u Q I rx ry h
 obtain ⟨rfl,q⟩:=h
 cases ry
 refine is_none_gen (jZ I q ?_)
 cases x<;>first
  | (cases rx;rfl)
  | (obtain ⟨t,rfl⟩:=rx;rfl)
theorem vE:OpR X (OV .IsNot) (fun x y H Q=>y=.non/\Q (.bl (!decide (x=.non))) H):=by
 intro Vq s σ H x y v u Q I rx ry h
 obtain ⟨rfl,q⟩:=h
 cases ry
 refine isnot_none_gen (jZ I q ?_)
 cases x<;>first
  | (cases rx;rfl)
  | (obtain ⟨t,rfl⟩:=rx;rfl)
theorem OpR.or {f:M0->M0->UH M0}{r r':R2}(h:OpR X f r)(h':OpR X f r'):OpR X f (fun x y H Q=>r x y H Q\/r' x y H Q):=by
 intro Vq s σ H x y v u Q I rx ry q
 rcases q with q|q
 ·exact h Vq s σ H x y v u Q I rx ry q
 ·exact h' Vq s σ H x y v u Q I rx ry q
theorem cT (b:M5){op:Rt}(h:op≠.In:=by decide)(h2:op≠.NotIn:=by decide):Qg op b=false:=by
 have e1:(op == CmpOp.In)=false:=by cases op<;>first|rfl|exact absurd rfl h
 have e2:(op == CmpOp.NotIn)=false:=by cases op<;>first|rfl|exact absurd rfl h2
 cases b<;>simp [Qg,e1,e2]
theorem CO {op:Rt}{r:R2}(ho:OpR X (OV op) r)(ha:PE X a ta)(hb:PE X b tb)(hm:Qg op b=false):PE X (.Compare a [op] [b] pos) (lW r ta tb):=by
 intro Vq s σ H Q I h
 exact wpAny_Compare1 (pV ha hb I h fun v u s2 x y H2 I2 rx ry q=>ho Vq s2 σ H2 x y v u Q I2 rx ry q) hm
noncomputable def CP (t:TE):TT:=fun σ H Q=>t σ H fun x H'=>∃ k,x=.bl k/\Q k H'
theorem CQ {op:Rt}{r:R2}(ho:OpR X (OV op) r)(ha:PE X a ta)(hb:PE X b tb)(hm:Qg op b=false):PT X (.Compare a [op] [b] pos) (CP (lW r ta tb)):=by
 intro Vq s σ H Q I h
 refine wpAny_isTrue_Compare1 (aT (ha Vq s σ H _ I h) fun v s1 ⟨x,H1,I1,r1,q1⟩=>aT (hb Vq s1 σ H1 _ I1 q1) fun u s2 ⟨y,H2,I2,r2,q2⟩=>
  aT (ho Vq s2 σ H2 x y v u _ I2 r1 r2 q2) fun c s3 ⟨z,H3,I3,r3,k,e,q3⟩=>?_) hm
 subst e
 cases r3
 exact Pl ⟨H3,I3,q3⟩
noncomputable def pW (K:MX)(x:V)(H:Hp)(k:Bool):Prop:=
 match x with
 | .non=>k=false
 | .bl b=>k=b
 | .int i=>k=(i != 0)
 | .str y=>y.length<=Nd/\k=((y.length:Int) != 0)
 | .byt y=>y.size<=Nd/\k=((y.size:Int) != 0)
 | .ref p=>(∃ xs,SqL K H p xs/\k = !xs.isEmpty)\/(∃ xs,SqT K H p xs/\k = !xs.isEmpty)\/∃ kvs,H p=some (.dK kvs)/\k = !kvs.isEmpty
 | _=>False
theorem CS {κ:Type}{kvs:List (κ×V)}{vs:List (κ×M0)}(r:KV kvs vs):(!vs.isEmpty) = !kvs.isEmpty:=by
 cases r<;>rfl
theorem vF {xs:List V}{its:List M0}(r:Vals xs its):(!its.toArray.isEmpty) = !xs.isEmpty:=by
 cases r<;>simp
theorem iY:(Nd:Nat)<2 ^ 63:=by rw [Np];decide
theorem CT:CG X (fun x H Q=>∃ k,pW X.K x H k/\Q k H):=by
 intro Vq s σ H x v Q I rx h
 obtain ⟨k,e,q⟩:=h
 have hl:=iY
 have hs:Nd=16777216:=Np
 cases x with
 | non=>
  cases rx
  have e':k=false:=e
  subst e'
  exact truthy_none ⟨H,I,q⟩
 | bl b=>
  cases rx
  have e':k=b:=e
  subst e'
  exact Pl ⟨H,I,q⟩
 | int i=>
  obtain ⟨t,rfl⟩:=rx
  have e':k=(i != 0):=e
  subst e'
  exact PySem.P.truthy_int ⟨H,I,q⟩
 | str y=>
  obtain ⟨t,rfl⟩:=rx
  obtain ⟨hy,e'⟩:y.length<=Nd/\k=((y.length:Int) != 0):=e
  subst e'
  exact PySem.P.truthy_str (by omega) ⟨H,I.tok _,q⟩
 | byt y=>
  obtain ⟨t,rfl⟩:=rx
  obtain ⟨hy,e'⟩:y.size<=Nd/\k=((y.size:Int) != 0):=e
  subst e'
  exact PySem.W.truthy_bytes (by omega) ⟨H,I.tok _,q⟩
 | ref p=>
  cases rx
  have e':(∃ xs,SqL X.K H p xs/\k = !xs.isEmpty)\/(∃ xs,SqT X.K H p xs/\k = !xs.isEmpty)\/∃ kvs,H p=some (.dK kvs)/\k = !kvs.isEmpty:=e
  rcases e' with ⟨xs,hx,e'⟩|⟨xs,hx,e'⟩|⟨kvs,hx,e'⟩
  ·subst e'
   obtain ⟨its,r,pl,hz⟩:=I.list hx
   have hlen:=r.length
   exact wpAny_truthy_list pl.isList (by simp only [Nl];omega) ⟨H,I.tok _,by rw [vF r];exact q⟩
  ·subst e'
   obtain ⟨its,r,pl,hz⟩:=I.tuple hx
   have hlen:=r.length
   exact truthy_tuple pl (by simp only [Nl];omega) ⟨H,I.tok _,by rw [vF r];exact q⟩
  ·subst e'
   obtain ⟨hz,hS,vs,r,m⟩:kvs.length<=Nd/\(p == Pt)=false/\∃ vs,KV kvs vs/\s.heap.DictOf (cS X.prog X.w) p vs:=I.hok p _ hx
   have hlen:kvs.length=vs.length:=QV r
   exact wpAny_truthy_dict hS m (by omega) ⟨H,I.tok _,by rw [CS r];exact q⟩
 | _=>exact (show False from e).elim
theorem CU (ha:PE X a ta)(he:∀ whole,Tf a X.env whole=(do let v <- whole;standAt a.pos;holding [v] (truthy v))) :
  PT X a (fun σ H Q=>ta σ H fun x H'=>∃ k,pW X.K x H' k/\Q k H'):=by
 intro Vq s σ H Q I h
 exact isTrue_plain (aT (ha Vq s σ H _ I h) fun v s1 ⟨x,H1,I1,r1,q1⟩=>CT Vq s1 σ H1 x v Q I1 r1 q1) (he _)
theorem op_add_str:OpR X (Pd .Add) (fun x y H Q=>∃ i j,x=.str i/\y=.str j/\i.length+j.length<=Nd/\Q (.str (i++j)) H):=by
 intro Vq s σ H x y v u Q I rx ry h
 obtain ⟨i,j,rfl,rfl,hz,q⟩:=h
 obtain ⟨t,rfl⟩:=rx
 obtain ⟨t',rfl⟩:=ry
 exact add_str (fun t' tk=>⟨.str (i++j),H,I.tok _,⟨_,rfl⟩,q⟩) hz
theorem eS {x:V}{us:List M0}(r:Vals [x] us):∃ u,us=[u]/\RelV x u:=by
 cases r with
 | cons r1 r2=>cases r2;exact ⟨_,rfl,r1⟩
theorem pX {x y:V}{us:List M0}(r:Vals [x,y] us):∃ u w',us=[u,w']/\RelV x u/\RelV y w':=by
 cases r with
 | cons r1 r2=>
  cases r2 with
  | cons r3 r4=>cases r4;exact ⟨_,_,rfl,r1,r3⟩
theorem CV (hc:X.calm=true):CallR X (.builtin "max") (fun xs H Q=>∃ i j,xs=[.int i,.int j]/\Q (.int (if j>i then j else i)) H):=by
 intro Vq s σ H xs us Q I r h
 obtain ⟨i,j,rfl,q⟩:=h
 obtain ⟨u,w',rfl,⟨t,rfl⟩,⟨t',rfl⟩⟩:=pX r
 refine max_two_ints (I.ok.hd hc) fun h' tk k=>⟨_,H,I.kept k,?_,q⟩
 by_cases hj:j>i
 ·rw [if_pos hj,if_pos hj];exact ⟨_,rfl⟩
 ·rw [if_neg hj,if_neg hj];exact ⟨_,rfl⟩
theorem CW (hc:X.calm=true):CallR X (.builtin "min") (fun xs H Q=>∃ i j,xs=[.int i,.int j]/\Q (.int (if j<i then j else i)) H):=by
 intro Vq s σ H xs us Q I r h
 obtain ⟨i,j,rfl,q⟩:=h
 obtain ⟨u,w',rfl,⟨t,rfl⟩,⟨t',rfl⟩⟩:=pX r
 refine min_two_ints (I.ok.hd hc) fun h' tk k=>⟨_,H,I.kept k,?_,q⟩
 by_cases hj:j<i
 ·rw [if_pos hj,if_pos hj];exact ⟨_,rfl⟩
 ·rw [if_neg hj,if_neg hj];exact ⟨_,rfl⟩
end
end L2
namespace L2
open PySem PySem.Spec PyProof.Rows
structure ObjM (h:N6)(x dx C:Addr)(mA:Str->Option M0):Prop where
 obj:h.get? x=some (S4 C dx)
 ns:h.Ns1 dx mA
 ne:dx≠x
section
variable {prog:Nz}{w:NP}{A:NM}{E:M0->M4->Prop}{s:M4}{K:MX}{x dx C f:Addr}{mA:Str->Option M0}{name:Str}{v:M0}
end
theorem RelO.some_of {v:V}{o:Option M0}(r:RelO (some v) o):∃ u,o=some u/\RelV v u:=by
 cases o with
 | none=>exact (show False from r).elim
 | some u=>exact ⟨u,rfl,r⟩
section
variable {P:Nz}{w:NP}{H H':Hp}{h h':N6}{a C dx:Addr}{fs fs':List (Str×V)}
end
structure Cls (K:MX)(C:Addr):Prop where
 pg:SR K C Str.empty=true
 hd:PySem.W.hasDictIn K C=true
 po:PySem.W.plainOver K C=true
 sa:Qe K (.ref C) "__setattr__" = some (some (.builtin "object.__setattr__"))
theorem Cls.get {K:MX}{C:Addr}(c:Cls K C)(f:Str):SR K C f=true:=c.pg
structure Con (K:MX)(C:Addr)(f:Str)(v:V)(u:M0):Prop where
 at_:Qe K (.ref C) f=some (some u)
 rel:RelV v u
 get:SD K u "__get__" = some none
 cp:PySem.W.copiedNames.contains f=false
structure Meth (K:MX)(C:Addr)(m:Str)(f:Addr):Prop where
 at_:Qe K (.ref C) m=some (some (.ref f))
 fn:T2 K (.ref f)=true
 kp:Ob K (.ref f)=true
section
variable {X:Cx}{Vq:List (Addr×OE)}{σ:St}{H:Hp}{s:M4}{a C dx:Addr}{fs:List (Str×V)}{f:Str}{v:V}{A:NM}{E:M0->M4->Prop}
end
section
variable {X:Cx}{o e value:M5}{f:Str}{pos pos' tpos:Om}{ta tv:TE}
end
section
variable {X:Cx}{Vq:List (Addr×OE)}{σ:St}{H:Hp}{s:M4}{A:NM}{E:M0->M4->Prop}{Q:M0->M4->Prop}{c:M0}{b:Bool}
inductive TyOf (K:MX)(H:Hp):V->M0->Prop where
 | non:TyOf K H .non (.type "NoneType")
 | bl (x:Bool):TyOf K H (.bl x) (.type "bool")
 | int (i:Int):TyOf K H (.int i) (.type "int")
 | str (x:Str):TyOf K H (.str x) (.type "str")
 | flt (x:UInt64):TyOf K H (.flt x) (.type "float")
 | lst {a:Addr}{xs:List V}(e:H a=some (.lst xs)):TyOf K H (.ref a) (.type "list")
 | frz {a:Addr}{o:OE}{xs:List V}(e:H a=some (.frz o (.lst xs))):TyOf K H (.ref a) (.type "list")
 | tup {a:Addr}{xs:List V}(e:H a=some (.tup xs)):TyOf K H (.ref a) (.type "tuple")
 | dK {a:Addr}{kvs:List (aF×V)}(e:H a=some (.dK kvs)):TyOf K H (.ref a) (.type "dict")
 | dT {a:Addr}{kvs:List (List aF×V)}(e:H a=some (.dT kvs)):TyOf K H (.ref a) (.type "dict")
 | ins {a C dx:Addr}{fs:List (Str×V)}(e:H a=some (.ins C dx fs))(cl:Cls K C)(ha:Qe K (.ref C) "__class__" = some (some (.builtin "object.__class__")))
   (hn:SD K (.builtin "object.__class__") "__get__" = some (some (.builtin "getset_descriptor.__get__"))) (htk:PySem.W.takesIn K (.builtin "object.__class__")=some true)
   (hm:PySem.W.mroIn K C (.type "object")=some true):TyOf K H (.ref a) (.ref C)
end
end L2
namespace L2
open PySem PySem.Spec PyProof.Rows
structure Room (k:Nat)(A:NM):Prop where
 hd:A.handled=none
 dp:A.depth+3 * k+5<Vg
 un:A.units+16 * k+200<PU
theorem Room.mono {j k:Nat}{A:NM}(r:Room k A)(h:j<=k):Room j A:=⟨r.hd,by have:=r.dp;omega,by have:=r.un;omega⟩
theorem Room.deeper {k:Nat}{A:NM}(r:Room (k+1) A)(env:Rf):Room k (A.deeper env):=
 ⟨r.hd,by have:=r.dp;show A.depth+1+3 * k+5<_;omega,by have:=r.un;show A.units+3+16 * k+200<_;omega⟩
theorem Room.depth {k:Nat}{A:NM}(r:Room k A):A.depth<Vg:=by have:=r.dp;omega
theorem Room.units {k:Nat}{A:NM}(r:Room k A):A.units+64<PU:=by have:=r.un;omega
noncomputable def vG:TA:=fun _ H Q=>Q [] H
noncomputable def CY (ta:TE)(tr:TA):TA:=fun σ H Q=>ta σ H fun x H1=>tr σ H1 fun xs H2=>Q (x::xs) H2
section
variable {X:Cx}{e:M5}{es:List M5}{te:TE}{t:TA}{pos:Om}
theorem CZ:PA X [] vG:=fun _ _ _ _ H Q I h=>S9 ⟨[],H,I,.nil,h⟩
theorem C0 (ha:PE X e te)(hr:PA X es t)(hs:NL (e::es) X.env=(false,eval e X.env)::NL es X.env:=by rfl):PA X (e::es) (CY te t):=by
 intro pos Vq s σ H Q I h
 rw [hs]
 show NI _ _ (spliced ((false,eval e X.env)::Pk pos (NL es X.env))) _ _ s
 refine SX (aT (ha Vq s σ H _ I h) fun u s1 ⟨x,H1,I1,r1,q1⟩=>?_)
 exact aT (hr pos Vq s1 σ H1 _ I1 q1) fun us s2 ⟨xs,H2,I2,r2,q2⟩=>⟨x::xs,H2,I2,.cons r1 r2,q2⟩
noncomputable def C1 (t:TA):TE:=fun σ H Q=>t σ H fun xs H1=>xs.length<=Nd/\∀ p,H1 p=none->Q (.ref p) (aV H1 p (.tup xs))
noncomputable def C2 (t:TA):TE:=fun σ H Q=>t σ H fun xs H1=>xs.length<=Nd/\∀ p,H1 p=none->Q (.ref p) (aV H1 p (.lst xs))
theorem C3 {x1} (h:PA X es t):PE X (.Tuple es x1 pos) (C1 t):=by
 intro Vq s σ H Q I hq
 refine wpAny_Tuple_spliced (aT (h pos Vq s σ H _ I hq) fun us s1 ⟨xs,H1,I1,r,z,q⟩=>⟨by rw [<- r.length];exact z,?_⟩)
 have hf:H1 s1.heap.objs.size=none:=I1.hok.fresh (Ni _)
 refine ⟨.ref s1.heap.objs.size,aV H1 s1.heap.objs.size (.tup xs),I1.laid (t':=s1.toks) (fun b u e=>M6 _ e) (Ni _) ?_,rfl,q _ hf⟩
 exact ⟨z,us,r,⟨_,Nu _ rfl,rfl,_,rfl,rfl⟩⟩
theorem C4 (h:PA X es t):PE X (.List es pos) (C2 t):=by
 intro Vq s σ H Q I hq
 refine wpAny_List_spliced (aT (h pos Vq s σ H _ I hq) fun us s1 ⟨xs,H1,I1,r,z,q⟩=>⟨by rw [<- r.length];exact z,?_⟩)
 have hf:H1 s1.heap.objs.size=none:=I1.hok.fresh (Ni _)
 refine ⟨.ref s1.heap.objs.size,aV H1 s1.heap.objs.size (.lst xs),I1.laid (t':=s1.toks) (fun b u e=>M6 _ e) (Ni _) ?_,rfl,q _ hf⟩
 exact ⟨z,us,0,r,Nu _ rfl⟩
end
noncomputable abbrev Sp:=List V->Hp->VK->XK->Prop
noncomputable abbrev eT:=List Rf->Hp->M4->XK->M0->M4->Prop
structure Env0 (P:Nz)(w:NP)(K:MX)(mg:Str->Option M0)(base:N6)(A:NM)(outer:List Rf)(s:M4)(H:Hp):Prop where
 frames:A.frames=some outer
 mod:Mod K mg base
 bs:∀ b o,base.get? b=some o->s.heap.get? b=some o/\H b=none
 bsz:base.objs.size<=s.heap.objs.size
 funs:s.heap.FunFrames base outer
 frf:∀ b∈eM outer,H b=none
 hok:HOk P w H s.heap
 bare:Rh s.gens
noncomputable def CE (outer:List Rf)(P:Nz)(w:NP)(H:Hp)(s:M4)(Q:VK)(u:M0)(s':M4):Prop:=
 ∃ v H',s'.os=s.os/\Rh s'.gens/\Un (eM outer) [] H H' s.heap s'.heap/\HOk P w H' s'.heap/\RelV v u/\Q v H'
noncomputable def CR (CX:eT)(outer:List Rf)(P:Nz)(w:NP)(H:Hp)(s:M4)(Q:VK)(E:XK)(r:Um)(s':M4):Prop:=
 match r with
 | .ok (.ret u)=>CE outer P w H s Q u s'
 | .ok _=>False
 | .error e=>CX outer H s E e s'
structure FnOk (P:Nz)(w:NP)(K:MX)(mg:Str->Option M0)(base:N6)(CX:eT)(k:Nat)(f:Addr)(fd:OB)(ps:List Str)(sp:Sp):Prop where
 len:∀ vs H Q E,sp vs H Q E->vs.length=ps.length
 run:∀ (A:NM)(outer:List Rf)(s:M4)(H:Hp)(args:Args)(us:List M0)(vs:List V)(Q:VK)(E:XK),Room k A->Env0 P w K mg base A outer s H->RO s fd args (ps.zip us)->Vals vs us->sp vs H Q E->
  QR (NC P w) A (.call (.ref f) args) (CR CX outer P w H s Q E) s
theorem FnOk.mono {P:Nz}{w:NP}{K:MX}{mg:Str->Option M0}{base:N6}{CX:eT}{j k:Nat}{f:Addr}{fd:OB}{ps:List Str}{sp:Sp}(F:FnOk P w K mg base CX j f fd ps sp)(h:j<=k) :
  FnOk P w K mg base CX k f fd ps sp:=⟨F.len,fun A outer s H args us vs Q E hr=>F.run A outer s H args us vs Q E (hr.mono h)⟩
theorem FnOk.imp {P:Nz}{w:NP}{K:MX}{mg:Str->Option M0}{base:N6}{CX:eT}{k:Nat}{f:Addr}{fd:OB}{ps:List Str}{sp sp':Sp}(F:FnOk P w K mg base CX k f fd ps sp)
  (h:∀ vs H Q E,sp' vs H Q E->sp vs H Q E):FnOk P w K mg base CX k f fd ps sp':=
 ⟨fun vs H Q E q=>F.len vs H Q E (h _ _ _ _ q),fun A outer s H args us vs Q E hr he hb hv hs=>F.run A outer s H args us vs Q E hr he hb hv (h _ _ _ _ hs)⟩
section
variable {X:Cx}{Vq:List (Addr×OE)}{σ:St}{H:Hp}{s s':M4}
theorem Inv.env0 (I:Inv X Vq σ H s):Env0 X.prog X.w X.K X.mg X.base X.A X.stack s H:=
 ⟨I.ok.frames,I.ok.mod,I.bs,N9 I.ok.bsz I.sz,I.stack,I.stkFree,I.hok,I.bare⟩
theorem Inv.after {Q:VK}{u:M0}(I:Inv X Vq σ H s)(h:CE X.stack X.prog X.w H s Q u s'):EP X Vq σ Q u s':=by
 obtain ⟨v,H',os,bare,un,hok,r,q⟩:=h
 obtain ⟨hh,g,d,t,os'⟩:=s'
 obtain rfl:os'=s.os:=os
 exact ⟨v,H',I.call (h':=hh) (g':=g) (d':=d) (t':=t) (ch:=[]) un hok bare (fun b z=>absurd z (by simp)),r,q⟩
end
noncomputable def pY (sp:Sp)(dvs:List V)(E:XK)(t:TA):TE:=fun σ H Q=>t σ H fun vs H1=>sp (vs++dvs) H1 Q E
noncomputable def Binds (K:MX)(fd:OB)(ps:List Str)(ds:List M0):Prop:=
 ∀ (s:M4)(us:List M0),K.In s.heap->(us++ds).length=ps.length->RO s fd ⟨us,[]⟩ (ps.zip (us++ds))
theorem Binds.all {K:MX}{fd:OB}{ps:List Str}(h:∀ us:List M0,us.length=ps.length->Sm fd ⟨us,[]⟩=pure (ps.zip us)):Binds K fd ps []:=fun s us _ hl=>by
 rw [Oi] at hl ⊢
 exact .of_eq (h us hl)
noncomputable def nH (CX:eT)(X:Cx)(E:XK):Prop:=∀ (Vq:List (Addr×OE))(σ:St)(H:Hp)(s:M4)(e:M0)(s':M4),Inv X Vq σ H s->CX X.stack H s E e s'->X.xe e s'
section
variable {X:Cx}{CX:eT}{k:Nat}{f C:Addr}{fd:OB}{ps:List Str}{sp:Sp}{dvs:List V}{ds:List M0}{E:XK}{x m:Str}{p pos apos:Om}{e o:M5}{es:List M5}{ta:TE}{t:TA}
theorem vH {Vq:List (Addr×OE)}{σ:St}{H:Hp}{s:M4}{Q:VK}{us:List M0}{vs:List V}(F:FnOk X.prog X.w X.K X.mg X.base CX k f fd ps sp)(hr:Room k X.A)(hb:Binds X.K fd ps ds)(hd:Vals dvs ds)(hx:nH CX X E)
  (I:Inv X Vq σ H s)(r:Vals vs us)(h:sp (vs++dvs) H Q E):NI (NC X.prog X.w) X.A (call (.ref f) us) (EP X Vq σ Q) X.xe s:=by
 have r2:Vals (vs++dvs) (us++ds):=r.append hd
 have hl:(us++ds).length=ps.length:=by rw [<- r2.length];exact F.len _ _ _ _ h
 refine wpAny_call (Tg (F.run X.A X.stack s H ⟨us,[]⟩ (us++ds) (vs++dvs) Q E hr I.env0 (hb s us I.kIn hl) r2 h) fun r s' hq=>?_)
 cases r with
 | error e=>exact hx Vq σ H s e s' I hq
 | ok fl=>
  cases fl with
  | ret u=>exact I.after hq
  | next=>exact Ov hq
  | brk=>exact Ov hq
  | cont=>exact Ov hq
theorem C5 (F:FnOk X.prog X.w X.K X.mg X.base CX k f fd ps sp)(hr:Room k X.A)(hg:Gl X x)(hm:X.mg x=some (.ref f))(hk:Ob X.K (.ref f)=true)(hb:Binds X.K fd ps ds)(hd:Vals dvs ds)(hx:nH CX X E)
  (ha:PA X (e::es) t)(hdb:(x == ("__debug__":Str))=false:=by decide) (he:NL (e::es) X.env=(false,eval e X.env)::NL es X.env:=by rfl)(hpl:(Pk pos (NL es X.env)).any (·.1)=false:=by rfl) :
  PE X (.Call (.Name x p) (e::es) [] pos) (pY sp dvs E t):=by
 intro Vq s σ H Q I h
 refine Pb (pQ I hg hm ?_ hdb)
 refine PySem.W.callWith_K (h₀:=X.base) I.ok.mod.kin hk (aT (ha pos Vq s σ H _ I h) fun us s1 ⟨vs,H1,I1,r,q⟩=>⟨I1.kIn,?_⟩) he hpl
 exact vH F hr hb hd hx I1 r q
theorem C6 (F:FnOk X.prog X.w X.K X.mg X.base CX k f fd ps sp)(hr:Room k X.A)(hg:Gl X x)(hm:X.mg x=some (.ref f))(hk:Ob X.K (.ref f)=true)(hb:Binds X.K fd ps ds)(hd:Vals dvs ds)(hx:nH CX X E)
  (hdb:(x == ("__debug__":Str))=false:=by decide):PE X (.Call (.Name x p) [] [] pos) (pY sp dvs E vG):=by
 intro Vq s σ H Q I h
 refine Pb (pQ I hg hm ?_ hdb)
 exact PySem.W.callWith_K0 I.kIn hk (vH (us:=[]) F hr hb hd hx I .nil h)
structure Mk (K:MX)(C f:Addr):Prop where
 makes:PySem.W.makesIn K C=true
 init:Qe K (.ref C) "__init__" = some (some (.ref f))
 fn:T2 K (.ref f)=true
 kp:Ob K (.ref C)=true
end
section
variable {X:Cx}{CX:eT}{k:Nat}{f C:Addr}{fd:OB}{ps ks:List Str}{sp:Sp}{E:XK}{x m:Str}{p pos apos kpos:Om}{e o:M5}{es:List M5}{kws:List PZ}{te ta:TE}{t tk:TA}{nm:Option Str}
structure KBinds (K:MX)(fd:OB)(ps ks:List Str)(g:List M0->List M0->List M0)(gV:List V->List V->List V):Prop where
 to:∀ (s:M4)(us ws:List M0),K.In s.heap->(g us ws).length=ps.length->RO s fd ⟨us,ks.zip ws⟩ (ps.zip (g us ws))
 rel:∀ {vs:List V}{us:List M0}{zs:List V}{ws:List M0},Vals vs us->Vals zs ws->Vals (gV vs zs) (g us ws)
variable {g:List M0->List M0->List M0}{gV:List V->List V->List V}
end
structure FnScope (N P:List Str)(sc:O3):Prop where
 kind:sc.kind=.function
 co:sc.isCoroutine=false
 gen:sc.isGenerator=false
 nd:N.Nodup
 pre:N.take P.length=P
 par:∀ x∈P,sc.names.lookup x=some .local\/sc.names.lookup x=some .cell
 nofree:∀ y∈sc.names,y.2≠.free
theorem vJ {kindOf:Str->Option OW}{x:Str}:∀ {binds:List (Str×M0)}{m:Str->Option M0},(∀ v,(x,v)∉binds)->S2 kindOf binds m x=m x
 | [],_,_=>rfl
 | (n,v)::r,m,h=>by
  unfold S2
  rw [vJ fun w hw=>h w (Ot _ hw)]
  split
  ·have:x≠n:=by rintro rfl;exact h v O1
   simp [this]
  ·rfl
theorem vK {kindOf:Str->Option OW}{x:Str}:∀ {binds:List (Str×M0)}{m:Str->Option M0},(∀ v,(x,v)∉binds)->S3 kindOf binds m x=m x
 | [],_,_=>rfl
 | (n,v)::r,m,h=>by
  unfold S3
  rw [vK fun w hw=>h w (Ot _ hw)]
  split
  ·rfl
  ·have:x≠n:=by rintro rfl;exact h v O1
   simp [this]
theorem vL {kindOf:Str->Option OW}{x:Str}{v:M0}:∀ {P:List Str}{vs:List M0}{i:Nat}{m:Str->Option M0},P.Nodup->P[i]? = some x->vs[i]? = some v->kindOf x=some .local->
  S2 kindOf (P.zip vs) m x=some v
 | [],_,_,_,_,h,_,_=>by simp at h
 | _::_,[],_,_,_,_,h,_=>by simp at h
 | p::P,w::vs,0,m,nd,h1,h2,hk=>by
  simp at h1 h2;subst h1;subst h2
  show S2 kindOf ((p,w)::P.zip vs) m p=_
  unfold S2
  rw [vJ fun v hv=>(Ox.mp nd).1 (RC hv).1,if_pos hk]
  simp
 | p::P,w::vs,i+1,m,nd,h1,h2,hk=>by
  show S2 kindOf ((p,w)::P.zip vs) m x=_
  unfold S2
  exact vL (i:=i) (Ox.mp nd).2 (by simpa using h1) (by simpa using h2) hk
theorem vO {kindOf:Str->Option OW}{x:Str}{v:M0}:∀ {P:List Str}{vs:List M0}{i:Nat}{m:Str->Option M0},P.Nodup->P[i]? = some x->vs[i]? = some v->kindOf x≠some .local->
  S3 kindOf (P.zip vs) m x=some v
 | [],_,_,_,_,h,_,_=>by simp at h
 | _::_,[],_,_,_,_,h,_=>by simp at h
 | p::P,w::vs,0,m,nd,h1,h2,hk=>by
  simp at h1 h2;subst h1;subst h2
  show S3 kindOf ((p,w)::P.zip vs) m p=_
  unfold S3
  rw [vK fun v hv=>(Ox.mp nd).1 (RC hv).1,if_neg hk]
  simp
 | p::P,w::vs,i+1,m,nd,h1,h2,hk=>by
  show S3 kindOf ((p,w)::P.zip vs) m x=_
  unfold S3
  exact vO (i:=i) (Ox.mp nd).2 (by simpa using h1) (by simpa using h2) hk
noncomputable def start (N:List Str)(vs:List V):St:=vs.map some++MY (N.length - vs.length) none
noncomputable def gP (CX:eT)(P:Nz)(w:NP)(K:MX)(mg:Str->Option M0)(base:N6)(N:List Str)(qual:Str)(scope:O3)(f:Addr)(cd:M0)(A:NM)(outer:List Rf)(s:M4)(H:Hp)(E:XK):Cx where
 prog:=P
 w:=w
 K:=K
 mg:=mg
 base:=base
 A:=A.deeper (envOfC qual scope s.heap.objs.size f cd)
 N:=N
 s₀:=s
 H₀:=H
 env:=envOfC qual scope s.heap.objs.size f cd
 outer:=outer
 stack:=envOfC qual scope s.heap.objs.size f cd::outer
 ex:=[]
 calm:=true
 fn:=fun _=>true
 pn:=[]
 xe:=fun e s'=>NI (NC P w) (A.deeper (envOfC qual scope s.heap.objs.size f cd)) (leaving (envOfC qual scope s.heap.objs.size f cd) e) (fun _ s''=>CX outer H s E e s'') (fun e' s''=>CX outer H s E e' s'') s'
theorem vP {sc:O3}{n:Nat}{x:Str}(h:sc.names.lookup x=some .cell):∃ c,(UE n sc.names []).lookup x=some c:=by
 have q:=RT sc.names n [] (.inl h)
 exact Option.isSome_iff_exists.mp q
theorem C7 {CX:eT}{P:Nz}{w:NP}{K:MX}{mg:Str->Option M0}{base:N6}{N ps:List Str}{qual:Str}{scope:O3}{f:Addr}{cd:M0}{A:NM}{outer:List Rf}{s s1:M4}{H:Hp}{E:XK}{us:List M0}{vs:List V}
  (S:FnScope N ps scope)(hd:A.handled=none)(e0:Env0 P w K mg base A outer s H)(hl:vs.length=ps.length)(r:Vals vs us)
  (x:InCallC s s.heap.objs.size (S2 (envOfC qual scope s.heap.objs.size f cd).kindOf (ps.zip us) fun _=>none) (UE (s.heap.objs.size+1) scope.names []) (S3 (envOfC qual scope s.heap.objs.size f cd).kindOf (ps.zip us) fun _=>none) s1) :
  Inv (gP CX P w K mg base N qual scope f cd A outer s H E) [] (start N vs) H s1:=by
 have hpl:ps.length<=N.length:=by have:=congrArg Ph S.pre;rw [Oa] at this;omega
 obtain ⟨h1,tk,rfl,hk⟩:=x.done
 have noA:∀ b:Addr,b∉(gP CX P w K mg base N qual scope f cd A outer s H E).ex:=fun b z=>absurd (show b∈([]:List Addr) from z) (by simp)
 refine ⟨⟨e0.mod,S.kind,rfl,rfl,Ni _,fun y z c h1 h2=>?_,fun y hy=>?_,fun y c _ h=>?_,fun _=>hd,Around.frames_deeper e0.frames,.inr ⟨rfl,rfl⟩,fun b z=>absurd z (noA b),e0.bs,e0.bsz,fun b _ _=>noA b,fun b z=>absurd z (noA b),e0.funs,e0.frf⟩,
  rfl,e0.bare,Un.kept hk,⟨_,x.toInCall.ns,fun i y v h1 h2 h3=>?_⟩,fun y c h=>⟨_,x.cell y c h⟩,e0.hok.fresh (Ni _),fun y c h=>?_,fun p hp=>absurd (show p∈([]:List (Addr×OE)) from hp) (by simp),e0.hok.kept hk,?_⟩
 ·exact name_of_addr x.apart (NW h1) (NW h2)
 ·have hy:scope.names.lookup y=some .cell\/scope.names.lookup y=some .free:=hy
  rcases hy with hy|hy
  ·exact vP hy
  ·exact absurd rfl (S.nofree _ (NW hy))
 ·exact Ss (x.above y c (NW h))
 ·have hi:i<vs.length:=by
   unfold start at h2
   by_cases hi:i<vs.length
   ·exact hi
   ·rw [NT (by simpa using hi)] at h2
    rw [OY] at h2
    split at h2<;>cases h2
  have ha:vs[i]? = some v:=by
   unfold start at h2
   rw [NB (by simpa using hi),ND] at h2
   cases e:vs[i]? with
   | none=>rw [e] at h2;cases h2
   | some a=>rw [e] at h2;cases h2;rfl
  obtain ⟨u,hu,rv⟩:=r.get ha
  have hp:ps[i]? = some y:=by
   rw [<- S.pre,List.getElem?_take_of_lt (by omega)];exact h1
  have ndP:ps.Nodup:=by rw [<- S.pre];exact S.nd.sublist (List.take_sublist _ _)
  refine ⟨u,rv,?_⟩
  rcases S.par y (OQ hp) with k|k
  ·exact .inl ⟨k,vL ndP hp hu k⟩
  ·obtain ⟨c,e⟩:=vP (n:=s.heap.objs.size+1) k
   refine .inr ⟨.inl k,c,e,?_⟩
   have q:=x.cell y c e
   rw [vO ndP hp hu (by show scope.names.lookup y≠_;rw [k];decide)] at q
   exact q
 ·exact e0.hok.fresh (Ss (x.above y c (NW h)))
 ·unfold start
  show _=N.length
  rw [Nk,MZ,N0]
  omega
theorem C8 {CX:eT}{P:Nz}{w:NP}{K:MX}{mg:Str->Option M0}{base:N6}{k:Nat}{f:Addr}{name qual:Str}{params:Arguments}{body:List Stmt}{scope:O3}{dV kV doc pm cdv ct oc:M0}{an od:Option Addr}
  {osl:Array (Option M0)}{N ps:List Str}{sp:Sp}(lk:K.lookup f=some ⟨oc,od,.func (OK name qual params body scope dV kV doc pm an cdv ct),osl⟩)(hcd:Qt K cdv qual=true)(S:FnScope N ps scope)
  (len:∀ vs H Q E,sp vs H Q E->vs.length=ps.length)
  (hbody:∀ (A:NM)(outer:List Rf)(s:M4)(H:Hp)(vs:List V)(Q:VK)(E:XK),Room k (A.deeper (envOfC qual scope s.heap.objs.size f cdv))->sp vs H Q E->
   ∃ t,PSs (gP CX P w K mg base N qual scope f cdv A outer s H E) body t/\t { nx:=fun _ H'=>Q .non H',rt:=Q } (start N vs) H) :
  FnOk P w K mg base CX (k+1) f (OK name qual params body scope dV kV doc pm an cdv ct) ps sp:=by
 refine ⟨len,fun A outer s H args us vs Q E hr e0 hb r hsp=>?_⟩
 have hl:=len _ _ _ _ hsp
 have KX:K.In s.heap:=e0.mod.kin.keeps fun b o e=>(e0.bs b o e).1
 have lim:s.heap.NoLimit:=e0.mod.nolimit.keeps fun b o e=>(e0.bs b o e).1
 have hkind:∀ y∈ps.zip us,scope.names.lookup y.1=some .local\/(scope.names.lookup y.1=some .cell/\((UE (s.heap.objs.size+1) scope.names []).lookup y.1).isSome=true):=fun ⟨n,v⟩ hy=>by
  rcases S.par n (RC hy).1 with q|q
  ·exact .inl q
  ·exact .inr ⟨q,RT _ _ _ (.inl q)⟩
 refine codeAny_call_function hr.depth (KX _ _ lk) rfl S.co S.gen rfl (PySem.W.codeRec_of KX hcd) (hb _ _ _ _ ?_)
 refine wpAny_newFunctionEnv_cells S.kind hkind fun env he s1 x=>?_
 subst he
 refine ⟨lim.keeps x.toInCall.keep,codeAny_func ?_⟩
 obtain ⟨t,ht,hq⟩:=hbody A outer s H vs Q E (hr.deeper _) hsp
 have I:Inv (gP CX P w K mg base N qual scope f cdv A outer s H E) [] (start N vs) H s1:=C7 S hr.hd e0 hl r x
 refine NU (ht [] s1 (start N vs) H _ I hq) (fun fl s' hs=>?_) fun e s' hs=>hs
 have aM:∀ {σ':St}{H':Hp}{v:V}{u:M0},Inv (gP CX P w K mg base N qual scope f cdv A outer s H E) [] σ' H' s'->RelV v u->Q v H'->CE outer P w H s Q u s':=
  fun {σ' H' v u} J rv q=>⟨v,H',J.os,J.bare,J.base,J.hok,rv,q⟩
 cases fl with
 | ret u=>
  obtain ⟨v,σ',H',J,rv,q⟩:=hs
  exact aM J rv q
 | next=>
  obtain ⟨σ',H',J,q⟩:=hs
  exact aM (v:=V.non) (u:=Qh) J rfl q
 | brk=>
  obtain ⟨_,_,_,q⟩:=hs
  exact Ov q
 | cont=>
  obtain ⟨_,_,_,q⟩:=hs
  exact Ov q
end L2
namespace L2
open PySem PySem.Spec PyProof.Rows
section
variable {X:Cx}{x:Str}{p pos:Om}{e:M5}{es:List M5}{t:TA}{id T:String}{r:List V->Hp->VK->Prop}
noncomputable def nI (r:List V->Hp->VK->Prop)(t:TA):TE:=fun σ H Q=>t σ H fun vs H1=>r vs H1 Q
theorem C9 (hc:CallR X (.builtin id) r)(hg:Gl X x)(hm:X.mg x=none)(hv:N7 x=some (.builtin id))(ha:PA X (e::es) t)(hn:x ≠ "__name__":=by decide) (hdb:(x == ("__debug__":Str))=false:=by decide)
  (he:NL (e::es) X.env=(false,eval e X.env)::NL es X.env:=by rfl)(hpl:(Pk pos (NL es X.env)).any (·.1)=false:=by rfl):PE X (.Call (.Name x p) (e::es) [] pos) (nI r t):=by
 intro Vq s σ H Q I h
 refine Pb (iX I hg hm hv ?_ hn hdb)
 exact U5 (aT (ha pos Vq s σ H _ I h) fun us s1 ⟨vs,H1,I1,r1,q1⟩=>hc Vq s1 σ H1 vs us Q I1 r1 q1) he hpl
theorem Dc (hc:CallR X (.type T) r)(hg:Gl X x)(hm:X.mg x=none)(hv:N7 x=some (.type T))(ha:PA X (e::es) t)(hn:x ≠ "__name__":=by decide) (hdb:(x == ("__debug__":Str))=false:=by decide)
  (he:NL (e::es) X.env=(false,eval e X.env)::NL es X.env:=by rfl)(hpl:(Pk pos (NL es X.env)).any (·.1)=false:=by rfl):PE X (.Call (.Name x p) (e::es) [] pos) (nI r t):=by
 intro Vq s σ H Q I h
 refine Pb (iX I hg hm hv ?_ hn hdb)
 exact OZ (aT (ha pos Vq s σ H _ I h) fun us s1 ⟨vs,H1,I1,r1,q1⟩=>hc Vq s1 σ H1 vs us Q I1 r1 q1) he hpl
end
end L2
namespace L2
open PySem PySem.Spec PyProof.Rows
section
variable {κ:Type} [DecidableEq κ]
noncomputable def dA (kvs:List (κ×V))(k:κ):Option V:=(kvs.find? fun kv=>decide (kv.1=k)).map (·.2)
noncomputable def c4 (kvs:List (κ×V))(k:κ)(v:V):List (κ×V):=
 if (kvs.any fun kv=>decide (kv.1=k))=true then kvs.map (fun kv=>if kv.1=k then (kv.1,v) else kv) else kvs++[(k,v)]
noncomputable def vQ (kvs:List (κ×V))(k:κ):List (κ×V):=kvs.filter fun kv=>decide (kv.1≠k)
theorem pZ {p:κ×V}{r:List (κ×V)}{k:κ}(e:p.1=k):dA (p::r) k=some p.2:=by simp [dA,Oh,e]
theorem p5 {p:κ×V}{r:List (κ×V)}{k:κ}(e:¬ p.1=k):dA (p::r) k=dA r k:=by simp [dA,Oh,e]
theorem vT (k:κ):∀ kvs:List (κ×V),(kvs.any fun kv=>decide (kv.1=k))=(dA kvs k).isSome
 | []=>rfl
 | p::r=>by
  rw [Qm]
  by_cases e:p.1=k
  ·simp only [pZ e,decide_eq_true e,Bool.true_or,SH]
  ·rw [p5 e,decide_eq_false e,Ur];exact vT k r
theorem p8 (kvs:List (κ×V))(k:κ)(v:V):(c4 kvs k v).length<=kvs.length+1:=by
 unfold c4
 split
 ·rw [MZ];omega
 ·rw [Nk,Na,P7];omega
theorem RelO.isSome_eq {o:Option V}{u:Option M0}(r:RelO o u):o.isSome=u.isSome:=by
 cases o with
 | none=>cases u with
  | none=>rfl
  | some _=>exact (show False from r).elim
 | some _=>cases u with
  | none=>exact (show False from r).elim
  | some _=>rfl
theorem RelO.getD {o:Option V}{u:Option M0}{d:V}{d':M0}(r:RelO o u)(rd:RelV d d'):RelV (o.getD d) (u.getD d'):=by
 cases o with
 | none=>cases u with
  | none=>exact rd
  | some _=>exact (show False from r).elim
 | some _=>cases u with
  | none=>exact (show False from r).elim
  | some _=>exact r
theorem KV.val {kvs:List (κ×V)}{vs:List (κ×M0)}(r:KV kvs vs)(k:κ):RelO (dA kvs k) (RG vs k):=by
 unfold KV at r
 induction r with
 | nil=>exact Pf
 | @cons p q ps qs h t ih=>
  obtain ⟨h1,h2⟩:=h
  by_cases e:p.1=k
  ·have e':q.1=k:=h1.symm.trans e
   have b:RG (q::qs) k=some q.2:=by simp [RG,Oh,e']
   rw [pZ e,b];exact h2
  ·have e':¬ q.1=k:=fun z=>e (h1.trans z)
   have b:RG (q::qs) k=RG qs k:=by simp [RG,Oh,e']
   rw [p5 e,b];exact ih
theorem KV.any {kvs:List (κ×V)}{vs:List (κ×M0)}(r:KV kvs vs)(k:κ):(kvs.any fun kv=>decide (kv.1=k))=vs.any fun kv=>decide (kv.1=k):=by
 unfold KV at r
 induction r with
 | nil=>rfl
 | cons h t ih=>rw [Qm,Qm,ih,h.1]
theorem KV.repl {kvs:List (κ×V)}{vs:List (κ×M0)}(r:KV kvs vs)(k:κ){y:V}{u:M0}(ry:RelV y u) :
  KV (kvs.map fun kv=>if kv.1=k then (kv.1,y) else kv) (vs.map fun kv=>if kv.1=k then (kv.1,u) else kv):=by
 unfold KV at r ⊢
 induction r with
 | nil=>exact .nil
 | @cons p q ps qs h t ih=>
  rw [Nj,Nj]
  refine .cons ?_ ih
  obtain ⟨h1,h2⟩:=h
  by_cases e:p.1=k
  ·rw [if_pos e,if_pos (h1.symm.trans e)];exact ⟨h1,ry⟩
  ·rw [if_neg e,if_neg (fun z=>e (h1.trans z))];exact ⟨h1,h2⟩
theorem KV.put {kvs:List (κ×V)}{vs:List (κ×M0)}(r:KV kvs vs)(k:κ){y:V}{u:M0}(ry:RelV y u):KV (c4 kvs k y) (stored vs k u):=by
 unfold c4 stored
 rw [r.any k]
 by_cases e:(vs.any fun kv=>decide (kv.1=k))=true
 ·rw [if_pos e,if_pos e];exact r.repl k ry
 ·rw [if_neg e,if_neg e];exact Uo r ⟨rfl,ry⟩
theorem KV.drop {kvs:List (κ×V)}{vs:List (κ×M0)}(r:KV kvs vs)(k:κ):KV (vQ kvs k) (without vs k):=by
 unfold KV at r ⊢
 unfold vQ without
 induction r with
 | nil=>exact .nil
 | @cons p q ps qs h t ih=>
  obtain ⟨h1,h2⟩:=h
  rw [PN,PN]
  by_cases e:p.1=k
  ·have a:¬ decide (p.1≠k)=true:=by simp [e]
   have b:¬ decide (q.1≠k)=true:=by simp [h1.symm.trans e]
   rw [if_neg a,if_neg b];exact ih
  ·have e':¬ q.1=k:=fun z=>e (h1.trans z)
   have a:decide (p.1≠k)=true:=by simp [e]
   have b:decide (q.1≠k)=true:=by simp [e']
   rw [if_pos a,if_pos b];exact .cons ⟨h1,h2⟩ ih
theorem KV.keys {kvs:List (κ×V)}{vs:List (κ×M0)}(r:KV kvs vs):kvs.map (·.1)=vs.map (·.1):=by
 unfold KV at r
 induction r with
 | nil=>rfl
 | cons h t ih=>rw [Nj,Nj,ih,h.1]
theorem KV.length {kvs:List (κ×V)}{vs:List (κ×M0)}(r:KV kvs vs):kvs.length=vs.length:=QV r
end
theorem nJ {P:Nz}{w:NP}{k:aF}{u:M0}(r:RelV (kV k) u):(cS P w).is k u=true:=by
 cases k with
 | inl i=>obtain ⟨t,e⟩:=(show ∃ t,u=RY i t from r);subst e;exact By P w i t
 | inr x=>obtain ⟨t,e⟩:=(show ∃ t,u=Ri x t from r);subst e;exact Bz P w x t
theorem vU {P:Nz}{w:NP}:∀ {ks:List aF}{us:List M0},Vals (ks.map kV) us->ItemsAre (cS P w) ks us
 | [],_,r=>by rw [Qs] at r;cases r;exact .nil
 | k::ks,_,r=>by
  rw [Nj] at r
  cases r with
  | cons h t=>exact .cons (nJ h) (vU t)
noncomputable abbrev KT (H:Hp):List (List aF×V)->List (List aF×Addr×M0)->Prop:=Qv fun p q=>p.1=q.1/\H q.2.1=some (.tup (p.1.map kV))/\RelV p.2 q.2.2
theorem KT.val {H:Hp}{kvs:List (List aF×V)}{xs:List (List aF×Addr×M0)}(r:KT H kvs xs)(k:List aF):RelO (dA kvs k) ((Sn xs k).map (·.2)):=by
 induction r with
 | nil=>exact Pf
 | @cons p q ps qs h t ih=>
  obtain ⟨h1,_,h2⟩:=h
  by_cases e:p.1=k
  ·have e':q.1=k:=h1.symm.trans e
   have b:Sn (q::qs) k=some q.2:=by simp [Sn,Oh,e']
   rw [pZ e,b];exact h2
  ·have e':¬ q.1=k:=fun z=>e (h1.trans z)
   have b:Sn (q::qs) k=Sn qs k:=by simp [Sn,Oh,e']
   rw [p5 e,b];exact ih
theorem KT.repl {H:Hp}{kvs:List (List aF×V)}{xs:List (List aF×Addr×M0)}(r:KT H kvs xs)(k:List aF){y:V}{u:M0}(ry:RelV y u) :
  KT H (kvs.map fun kv=>if kv.1=k then (kv.1,y) else kv) (xs.map (putAt k u)):=by
 induction r with
 | nil=>exact .nil
 | @cons p q ps qs h t ih=>
  rw [Nj,Nj]
  refine .cons ?_ ih
  obtain ⟨h1,h2,h3⟩:=h
  unfold putAt
  by_cases e:p.1=k
  ·rw [if_pos e,if_pos (h1.symm.trans e)];exact ⟨h1,h2,ry⟩
  ·rw [if_neg e,if_neg (fun z=>e (h1.trans z))];exact ⟨h1,h2,h3⟩
theorem KT.put {H:Hp}{kvs:List (List aF×V)}{xs:List (List aF×Addr×M0)}(r:KT H kvs xs)(k:List aF){b:Addr}{y:V}{u:M0}(hb:H b=some (.tup (k.map kV)))(ry:RelV y u) :
  KT H (c4 kvs k y) (storedH xs k b u):=by
 have e:(kvs.any fun kv=>decide (kv.1=k))=(Sn xs k).isSome:=by
  rw [vT,(r.val k).isSome_eq,Option.isSome_map]
 unfold c4 storedH
 rw [e]
 by_cases q:(Sn xs k).isSome=true
 ·rw [if_pos q,if_pos q];exact r.repl k ry
 ·rw [if_neg q,if_neg q];exact Uo r ⟨rfl,hb,ry⟩
theorem KT.keeps {H H':Hp}{kvs:List (List aF×V)}{xs:List (List aF×Addr×M0)}(r:KT H kvs xs)(ht:∀ b ys,H b=some (.tup ys)->H' b=some (.tup ys)):KT H' kvs xs:=
 Qv.mapP r fun _ _ z=>⟨z.1,ht _ _ z.2.1,z.2.2⟩
section
variable {P:Nz}{w:NP}{H:Hp}{h:N6}{a:Addr}
theorem vV {u:HO}(ok:HOk P w H h)(e:Rd H a u):ObjOk P w H h a u:=e.ok ok
theorem nK {kvs:List (aF×V)}(ok:HOk P w H h)(e:Rd H a (.dK kvs)):kvs.length<=Nd/\(a == Pt)=false/\∃ vs,KV kvs vs/\h.DictOf (cS P w) a vs:=
 show ObjOk P w H h a (.dK kvs) from vV ok e
theorem vW {kvs:List (aF×V)}(ok:HOk P w H h)(e:H a=some (.dK kvs)):kvs.length<=Nd/\(a == Pt)=false/\∃ vs,KV kvs vs/\h.DictOf (cS P w) a vs:=nK ok (.inl e)
theorem p9 {ks:List aF}(ok:HOk P w H h)(e:H a=some (.tup (ks.map kV))):(RQ (cS P w)).is h ks a:=by
 obtain ⟨_,its,r,o,h1,h2,n,h3,_⟩:=(show ObjOk P w H h a (.tup (ks.map kV)) from ok a _ e)
 exact ⟨o,its.toArray,n,h1,h2,h3,by simpa using vU r⟩
theorem qA {kvs:List (List aF×V)}(ok:HOk P w H h)(e:Rd H a (.dT kvs)):kvs.length<=Nd/\(a == Pt)=false /\
  ∃ xs,KT H kvs xs/\h.DictOfH (RQ (cS P w)) a xs:=by
 obtain ⟨z,y,xs,r,o,es,ep,h1,h2,h3,h4,h5⟩:=(show ObjOk P w H h a (.dT kvs) from vV ok e)
 refine ⟨z,y,xs,r,o,es,ep,h1,h2,h3,h4,fun x hx=>?_,h5⟩
 have all:∀ {l:List (List aF×V)}{m:List (List aF×Addr×M0)},KT H l m->∀ x∈m,(RQ (cS P w)).is h x.1 x.2.1:=by
  intro l m q
  induction q with
  | nil=>intro x hx;exact nomatch hx
  | @cons p q ps qs hq t ih=>
   intro x hx
   rcases NN.mp hx with e|hx
   ·subst e
    exact p9 ok (by rw [<- hq.1];exact hq.2.1)
   ·exact ih x hx
 exact all r x hx
theorem Dd {kvs:List (List aF×V)}(ok:HOk P w H h)(e:H a=some (.dT kvs)):kvs.length<=Nd/\(a == Pt)=false /\
  ∃ xs,KT H kvs xs/\h.DictOfH (RQ (cS P w)) a xs:=qA ok (.inl e)
end
noncomputable def DGet (H:Hp)(a:Addr)(y:V)(r:Option V):Prop:=
 (∃ kvs k,Rd H a (.dK kvs)/\y=kV k/\r=dA kvs k)\/∃ kvs k b,Rd H a (.dT kvs)/\y=.ref b/\H b=some (.tup (k.map kV))/\r=dA kvs k
noncomputable def DPut (H:Hp)(a:Addr)(y v:V)(H':Hp):Prop:=
 (∃ kvs k,H a=some (.dK kvs)/\y=kV k/\kvs.length<Nd/\H'=aV H a (.dK (c4 kvs k v))) \/
 ∃ kvs k b,H a=some (.dT kvs)/\y=.ref b/\H b=some (.tup (k.map kV))/\kvs.length<Nd/\H'=aV H a (.dT (c4 kvs k v))
theorem DGet.k {H:Hp}{a:Addr}{kvs:List (aF×V)}{k:aF}(e:H a=some (.dK kvs)):DGet H a (kV k) (dA kvs k):=.inl ⟨kvs,k,.inl e,rfl,rfl⟩
theorem DGet.t {H:Hp}{a b:Addr}{kvs:List (List aF×V)}{k:List aF}(e:H a=some (.dT kvs))(eb:H b=some (.tup (k.map kV))):DGet H a (.ref b) (dA kvs k):=.inr ⟨kvs,k,b,.inl e,rfl,eb,rfl⟩
theorem DPut.k {H:Hp}{a:Addr}{kvs:List (aF×V)}{k:aF}{v:V}(e:H a=some (.dK kvs))(hl:kvs.length<Nd):DPut H a (kV k) v (aV H a (.dK (c4 kvs k v))):=.inl ⟨kvs,k,e,rfl,hl,rfl⟩
theorem DPut.t {H:Hp}{a b:Addr}{kvs:List (List aF×V)}{k:List aF}{v:V}(e:H a=some (.dT kvs))(eb:H b=some (.tup (k.map kV)))(hl:kvs.length<Nd) :
  DPut H a (.ref b) v (aV H a (.dT (c4 kvs k v))):=.inr ⟨kvs,k,b,e,rfl,eb,hl,rfl⟩
section
variable {X:Cx}{Vq:List (Addr×OE)}{σ:St}{H:Hp}{s:M4}{a:Addr}{y v:V}{u r:M0}{o:Option V}{A:NM}{E:M0->M4->Prop}
theorem Inv.big (I:Inv X Vq σ H s):Pt<s.heap.objs.size:=by
 have h:N8<s.heap.objs.size:=(I.mod.glob.keeps I.bk).lt
 exact Rm (by decide) h
theorem De {Q:M0->M4->Prop}(hu:A.units+1<PU)(I:Inv X Vq σ H s)(g:DGet H a y (some v))(ry:RelV y u)(h:∀ w' s',Inv X Vq σ H s'->RelV v w'->Q w' s') :
  NI (NC X.prog X.w) A (Se (.ref a) u) Q E s:=by
 rcases g with ⟨kvs,k,e,ey,l⟩|⟨kvs,k,b,e,ey,eb,l⟩
 ·subst ey
  obtain ⟨z,hd,vs,rel,dd⟩:=nK I.hok e
  obtain ⟨w',hw,rw'⟩:=RelO.some_of (v:=v) (o:=RG vs k) (by rw [l];exact rel.val k)
  exact wpAny_getItem_of (nJ ry) dd.mapOf hw (h w' _ (I.tok _) rw')
 ·subst ey
  cases (show u=PJ b from ry)
  obtain ⟨z,hd,xs,rel,dd⟩:=qA I.hok e
  obtain ⟨w',hw,rw'⟩:=RelO.some_of (v:=v) (o:=(Sn xs k).map (·.2)) (by rw [l];exact rel.val k)
  obtain ⟨p,hp,hp2⟩:=M3.mp hw
  refine wpAny_getItem_heap (Ue hu) (p9 I.hok eb) dd hp ?_
  rw [hp2]
  exact h w' _ (I.tok _) rw'
theorem qB {h':N6}{t':Nat}{ob:HO}(I:Inv X Vq σ H s)(mu:lR (H a))(hs:Rc a s.heap h')(he:∃ q,h'.get? a=some q)(new:ObjOk X.prog X.w (aV H a ob) h' a ob) :
  Inv X Vq σ (aV H a ob) { s with heap:=h',toks:=t' }:=
 I.write (x:=a) (e:=a) mu (.inl rfl) (fun b q hb z=>(hs.2 b hb).trans z) he new
theorem vX {P:Nz}{w:NP}{H':Hp}{h':N6}{kvs:List (aF×V)}{vs:List (aF×M0)}(z:kvs.length<=Nd)(hd:(a == Pt)=false)(rel:KV kvs vs)(dd:h'.DictOf (cS P w) a vs) :
  ObjOk P w H' h' a (.dK kvs):=⟨z,hd,vs,rel,dd⟩
theorem Df {H':Hp}{Q:Unit->M4->Prop}(hu:A.units+1<PU)(I:Inv X Vq σ H s)(g:DPut H a y v H')(ry:RelV y u)(rv:RelV v r)(h:∀ s',Inv X Vq σ H' s'->Q () s') :
  NI (NC X.prog X.w) A (setItem (.ref a) u r) Q E s:=by
 rcases g with ⟨kvs,k,e,ey,l,eH⟩|⟨kvs,k,b,e,ey,eb,l,eH⟩
 ·subst ey eH
  obtain ⟨z,hd,vs,rel,dd⟩:=vW I.hok e
  have hz:vs.length<=Nd:=by rw [<- rel.length];exact z
  have hl:(c4 kvs k v).length<=Nd:=by have:=p8 kvs k v;omega
  refine wpAny_setItem_pairs (hsz:=hz) (nJ ry) dd fun h' dd' hs=>h _ ?_
  have he:∃ q,h'.get? a=some q:=let ⟨q,_,_,hq,_⟩:=dd';⟨q,hq⟩
  exact qB I (by rw [e];exact Pf) hs he (vX hl hd (rel.put k rv) dd')
 ·subst ey eH
  cases (show u=PJ b from ry)
  obtain ⟨z,hd,xs,rel,dd⟩:=Dd I.hok e
  have hz:xs.length<=Nd:=by rw [<- QV rel];exact z
  have hl:(c4 kvs k v).length<=Nd:=by have:=p8 kvs k v;omega
  refine wpAny_setItem_heap (hsz:=hz) (Ue hu) (p9 I.hok eb) dd fun h' dd' hs=>h _ ?_
  obtain ⟨q,es,ep,hq,h2,h3,h4,_,h5⟩:=dd'
  refine qB I (by rw [e];exact Pf) hs ⟨q,hq⟩ ⟨hl,hd,_,(rel.put k eb rv).keeps fun c ys ec=>?_,q,es,ep,hq,h2,h3,h4,h5⟩
  rw [bS (BA ec e (fun z=>nomatch z))]
  exact ec
end
section
variable {X:Cx}{Vq:List (Addr×OE)}{σ:St}{H:Hp}{s:M4}{a:Addr}{kvs:List (aF×V)}{k:aF}{u:M0}{A:NM}{E:M0->M4->Prop}
theorem Dg {Q:M0->M4->Prop}(I:Inv X Vq σ H s)(e:Rd H a (.dK kvs))(h:∀ t s',Inv X Vq σ H s'->Q (.int kvs.length t) s'):NI (NC X.prog X.w) A (call (.builtin "len") [.ref a]) Q E s:=by
 obtain ⟨z,hd,vs,rel,dd⟩:=nK I.hok e
 refine call_len_dict hd dd (by rw [<- rel.length];rw [Np] at z;omega) ?_
 rw [<- rel.length]
 exact h _ _ (I.tok _)
end
noncomputable def qC (i:M5):Prop:=∀ ov iv,RW i false ov iv=operate [ov,iv] (Se ov iv)
theorem Dh {prog:Nz}{w:NP}{A:NM}{E:M0->M4->Prop}{s:M4}{env:Rf}{value slice:M5}{pos:Om}{T id:String}{Q:M0->M4->Prop}
  (hl:Sj (.type T) "__getitem__" = pure (some (.builtin id))) (hs:qC slice)
  (h:NI (NC prog w) A (eval value env) (fun o s₁=>NI (NC prog w) A (eval slice env) (fun i s₂=>s₂.TypeIs o T/\NI (NC prog w) A (Se o i) Q E s₂) E s₁) E s) :
  NI (NC prog w) A (eval (.Subscript value slice pos) env) Q E s:=by
 refine So (NU h (fun o s₁ h₁=>NU h₁ (fun i s₂ h₂=>?_) fun _ _ x=>x) fun _ _ x=>x)
 obtain ⟨hT,h₂⟩:=h₂
 unfold Rn
 refine Nm ?_
 rw [getitemInPython_of_ne hT.not_modules]
 refine Nm (QX hT hl ?_)
 have aM:NI (NC prog w) A (RW slice false o i) (fun r s₃=>NI (NC prog w) A (letTemporaryGo value o r >>= fun _=>pure r) Q E s₃) E s₂:=by
  rw [hs o i]
  exact wpAny_operating (NU h₂ (fun r s₃ h₃=>Nm (wpAny_letTemporaryGo (NO h₃))) fun _ _ x=>x)
 first
  | exact NO (Nm aM)
  | exact Nm (NO (Nm aM))
  | exact Nm aM
theorem Di {X:Cx}{Vq:List (Addr×OE)}{σ:St}{H:Hp}{s:M4}{a:Addr}{y:V}{o:Option V}(I:Inv X Vq σ H s)(g:DGet H a y o):s.TypeIs (.ref a) "dict":=by
 rcases g with ⟨kvs,k,e,_,_⟩|⟨kvs,k,b,e,_,_,_⟩
 ·obtain ⟨_,_,vs,_,dd⟩:=nK I.hok e
  exact dd.typeIs
 ·obtain ⟨_,_,xs,_,dd⟩:=qA I.hok e
  exact dd.typeIs
noncomputable def Dj (td ty:TE):TE:=fun σ H Q=>td σ H fun x H1=>ty σ H1 fun y H2=>∃ a v,x=.ref a/\DGet H2 a y (some v)/\Q v H2
noncomputable def Dk (td ty tv:TE):TS:=fun D σ H=>tv σ H fun v H1=>td σ H1 fun x H2=>ty σ H2 fun y H3=>∃ a H4,x=.ref a/\DPut H3 a y v H4/\D.nx σ H4
section
variable {X:Cx}{o i e value:M5}{pos pos' tpos:Om}{td ty tv:TE}
theorem Dl (hu:X.A.units+1<PU)(ho:PE X o td)(hi:PE X i ty)(hs:qC i):PE X (.Subscript o i pos) (Dj td ty):=by
 intro Vq s σ H Q I h
 refine Dh PySem.F.slot_dict_getitem.lookup hs (aT (ho Vq s σ H _ I h) fun u s1 ⟨x,H1,I1,rx,q1⟩=>aT (hi Vq s1 σ H1 _ I1 q1) fun iv s2 ⟨y,H2,I2,ry,a,v,ex,g,q2⟩=>?_)
 subst ex
 obtain rfl:u=PJ a:=rx
 exact ⟨Di I2 g,De hu I2 g ry fun w' s3 I3 rw'=>⟨v,H2,I3,rw',q2⟩⟩
theorem Dm (hu:X.A.units+1<PU)(ho:PE X o td)(hi:PE X i ty)(hv:PE X value tv)(hs:Qc value (some (.Subscript o i pos')) pos.line X.env=pure false) :
  PS X (.Assign [.Subscript o i pos'] value pos) (Dk td ty tv):=by
 intro Vq s σ H D I h
 refine Tc (aT (hv Vq s σ H _ I h) fun r s1 ⟨v,H1,I1,rv,q1⟩=>aT (ho Vq s1 σ H1 _ I1 q1) fun u s2 ⟨x,H2,I2,rx,q2⟩=>aT (hi Vq s2 σ H2 _ I2 q2) fun iv s3 ⟨y,H3,I3,ry,a,H4,ex,g,q3⟩=>?_) hs
 subst ex
 obtain rfl:u=PJ a:=rx
 exact Df hu I3 g ry rv fun s4 I4=>⟨σ,H4,I4,q3⟩
end
theorem Dp {P:Nz}{w:NP}{H:Hp}(h:N6)(hb:Pt<h.objs.size):ObjOk P w H (h.push { cls:=.type "dict",data:=.dict #[] }) h.objs.size (.dK []):=
 ⟨Ou _,beq_eq_false_iff_ne.mpr (OU (Nr hb)),[],.nil,Vn h⟩
section
variable {X:Cx}{pos:Om}
end
noncomputable def nL:List (TE×TE)->St->Hp->(List (V×V)->Hp->Prop)->Prop
 | [],_,H,Q=>Q [] H
 | (tk,tv)::r,σ,H,Q=>tk σ H fun x H1=>tv σ H1 fun y H2=>nL r σ H2 fun ps H3=>Q ((x,y)::ps) H3
noncomputable abbrev VV:List (V×V)->List (M0×M0)->Prop:=Qv fun p q=>RelV p.1 q.1/\RelV p.2 q.2
noncomputable def gQ (X:Cx)(pos:Om)(keys:List (Option M5))(values:List M5)(trs:List (TE×TE)):Prop:=
 ∀ (Vq:List (Addr×OE))(s:M4)(σ:St)(H:Hp)(Q:List (V×V)->Hp->Prop),Inv X Vq σ H s->nL trs σ H Q->
  NI (NC X.prog X.w) X.A (evalPairs (pairTrees keys values X.env pos)) (fun vs s'=>∃ ps H',Inv X Vq σ H' s'/\VV ps vs/\Q ps H') X.xe s
theorem Dq {X:Cx}{pos:Om}:gQ X pos [] [] []:=fun Vq s σ H Q I h=>pairTrees_nil_walk ⟨[],H,I,.nil,h⟩
theorem Dr {X:Cx}{pos:Om}{k v:M5}{ks:List (Option M5)}{vs:List M5}{tk tv:TE}{trs:List (TE×TE)}(hk:PE X k tk)(hv:PE X v tv)(hr:gQ X pos ks vs trs) :
  gQ X pos (some k::ks) (v::vs) ((tk,tv)::trs):=fun Vq s σ H Q I h=>
 pairTrees_cons_walk (aT (hk Vq s σ H _ I h) fun u s1 ⟨x,H1,I1,rx,q1⟩=>aT (hv Vq s1 σ H1 _ I1 q1) fun w2 s2 ⟨y,H2,I2,ry,q2⟩=>
  aT (hr Vq s2 σ H2 _ I2 q2) fun ws s3 ⟨ps,H3,I3,rel,q3⟩=>⟨(x,y)::ps,H3,I3,.cons ⟨rx,ry⟩ rel,q3⟩)
noncomputable def iZ (kvs more:List (aF×V)):List (aF×V):=more.foldl (fun acc kv=>c4 acc kv.1 kv.2) kvs
theorem KV.merge:∀ {more:List (aF×V)}{rs:List (aF×M0)}{kvs:List (aF×V)}{vs:List (aF×M0)},KV more rs->KV kvs vs->KV (iZ kvs more) (merged vs rs):=by
 intro more rs kvs vs r
 unfold KV at r
 induction r generalizing kvs vs with
 | nil=>intro q;exact q
 | @cons p q ps qs h t ih=>
  intro r0
  have e:KV (c4 kvs p.1 p.2) (stored vs q.1 q.2):=by
   have:=r0.put p.1 h.2
   rw [<- h.1];exact this
  exact ih e
theorem vY:∀ (more kvs:List (aF×V)),(iZ kvs more).length<=kvs.length+more.length
 | [],kvs=>by show kvs.length<=kvs.length+0;omega
 | p::r,kvs=>by
  have h1:=vY r (c4 kvs p.1 p.2)
  have h2:=p8 kvs p.1 p.2
  show (iZ (c4 kvs p.1 p.2) r).length<=_
  rw [Na];omega
theorem vZ {P:Nz}{w:NP}:∀ {kvs:List (aF×V)}{ws:List (M0×M0)},VV (kvs.map fun kv=>(kV kv.1,kv.2)) ws->∃ rs,Carries (cS P w) ws rs/\KV kvs rs
 | [],_,r=>by rw [Qs] at r;cases r;exact ⟨[],Pf,.nil⟩
 | p::kvs,_,r=>by
  rw [Nj] at r
  cases r with
  | @cons a b as bs h t=>
   obtain ⟨rs,c,q⟩:=vZ (P:=P) (w:=w) t
   obtain ⟨b1,b2⟩:=b
   exact ⟨(p.1,b2)::rs,⟨nJ h.1,rfl,c⟩,.cons ⟨rfl,h.2⟩ q⟩
noncomputable def Ds (trs:List (TE×TE)):TE:=fun σ H Q=>∀ p,H p=none->nL trs σ (aV H p (.dK [])) fun ps H2=>H2 p=some (.dK [])/\∃ kvs:List (aF×V),ps=kvs.map (fun kv=>(kV kv.1,kv.2))/\kvs.length<=15/\Q (.ref p) (aV H2 p (.dK (iZ [] kvs)))
theorem Dt {X:Cx}{pos:Om}{keys:List (Option M5)}{values:List M5}{trs:List (TE×TE)}(h:gQ X pos keys values trs)(hall:keys.all (·.isSome)=true)(hl:keys.length=values.length)(h0:keys≠[])
  (h15:keys.length<=15):PE X (.Dict keys values pos) (Ds trs):=by
 intro Vq s σ H Q I q
 have hn:=I.hok.fresh (Ni s.heap.objs.size)
 have I1:=I.laid (a:=s.heap.objs.size) (o:=.dK []) (h':=s.heap.push { cls:=.type "dict",data:=.dict #[] }) (t':=s.toks) (fun _ _ q=>M6 _ q) (Ni _) (Dp s.heap I.big)
 refine wpAny_Dict_walk (knd:=cS X.prog X.w) hall hl h0 h15 (aT (h Vq _ σ _ _ I1 (q _ hn)) fun ws s2 ⟨ps,H2,I2,rel,e,kvs,ep,lk,q2⟩=>?_)
 subst ep
 obtain ⟨rs,c,rk⟩:=vZ (P:=X.prog) (w:=X.w) rel
 obtain ⟨z,hd,vs0,r0,dd⟩:=vW I2.hok e
 cases r0
 refine ⟨rs,c,dd,fun h' dd' hs=>⟨.ref s.heap.objs.size,_,?_,rfl,q2⟩⟩
 have hz:(iZ [] kvs).length<=Nd:=by
  have h1:=vY kvs []
  rw [P7] at h1
  rw [Np];omega
 have he:∃ q,h'.get? s.heap.objs.size=some q:=let ⟨q,_,_,hq,_⟩:=dd';⟨q,hq⟩
 exact qB I2 (by rw [e];exact Pf) hs he (vX hz hd (rk.merge .nil) dd')
structure M1 (X:Cx)(o:M5)(m:Str)(apos:Om)(e:M5)(cpos:Om):Prop where
 base:Ro o m X.env (eval o X.env)=eval o X.env
 few:((Pk cpos (NL [e] X.env)).all (fun x=>!x.1)&&(T1 cpos (RX [] X.env)).all (fun x=>x.1.isSome)
  && decide (([e]:List M5).length+([]:List PZ).length+(if ([]:List PZ).isEmpty then 0 else 1)<30))=true
 line:(apos.endLine == cpos.line)=true
 trees:Pk cpos (NL [e] X.env)=[(false,eval e X.env)]
structure M2 (X:Cx)(o:M5)(m:Str)(apos:Om)(e f:M5)(cpos:Om):Prop where
 base:Ro o m X.env (eval o X.env)=eval o X.env
 few:((Pk cpos (NL [e,f] X.env)).all (fun x=>!x.1)&&(T1 cpos (RX [] X.env)).all (fun x=>x.1.isSome)
  && decide (([e,f]:List M5).length+([]:List PZ).length+(if ([]:List PZ).isEmpty then 0 else 1)<30))=true
 line:(apos.endLine == cpos.line)=true
 trees:Pk cpos (NL [e,f] X.env)=[(false,eval e X.env),(false,eval f X.env)]
noncomputable def IsD (H:Hp)(a:Addr):Prop:=(∃ kvs,Rd H a (.dK kvs))\/∃ kvs,Rd H a (.dT kvs)
section
variable {X:Cx}{Vq:List (Addr×OE)}{σ:St}{H:Hp}{s:M4}{a:Addr}{y d:V}{u r:M0}{o:Option V}{A:NM}{E:M0->M4->Prop}
end
section
variable {X:Cx}{o e f:M5}{apos cpos:Om}{td ty tx:TE}
end
section
variable {X:Cx}{Vq:List (Addr×OE)}{σ:St}{H:Hp}{s:M4}{a:Addr}{kvs:List (aF×V)}{A:NM}{E:M0->M4->Prop}
end
section
variable {X:Cx}{Vq:List (Addr×OE)}{σ:St}{H:Hp}{s:M4}{a:Addr}{y:V}{u:M0}{A:NM}{E:M0->M4->Prop}
end
end L2
namespace HT
open PySem PyProof.Rows
section
open PySem.SeqAt
open PySem.AutoSeq1 (wpAny_loadPart')
open PySem.MeetsSeq PySem.MeetsSeq2 PySem.MeetsSeq3
end
section
variable {prog:Nz}{w:NP}{A:NM}{E:M0->M4->Prop}{s:M4}
noncomputable def sIx (n d:Nat):Option Int->Nat
 | none=>d
 | some v=>if v<0 then (v+(n:Int)).toNat else min v.toNat n
theorem sIx_none (n d:Nat):sIx n d none=d:=rfl
theorem sIx_nat (n d k:Nat):sIx n d (some (k:Int))=min k n:=by
 show (if (k:Int)<0 then ((k:Int)+(n:Int)).toNat else min (k:Int).toNat n)=min k n
 rw [if_neg (by omega),Oz]
end
end HT
namespace L2
open PySem PySem.Spec PyProof.Rows
noncomputable abbrev TO:=St->Hp->(Option Int->Hp->Prop)->Prop
noncomputable def PO (X:Cx)(e:Option M5)(t:TO):Prop:=
 ∀ (Vq:List (Addr×OE))(s:M4)(σ:St)(H:Hp)(Q:Option Int->Hp->Prop),Inv X Vq σ H s->t σ H Q->
  NI (NC X.prog X.w) X.A (evalPart e X.env) (fun u s'=>∃ o H',Inv X Vq σ H' s'/\IsPart u o/\Q o H') X.xe s
noncomputable def Du:TO:=fun _ H Q=>Q none H
noncomputable def Dv (t:TE):TO:=fun σ H Q=>t σ H fun x H1=>∃ i,x=.int i/\Q (some i) H1
theorem Dw {ns:List Int}:∀ {us:List M0},Vals (ns.map V.int) us->Si us ns:=by
 induction ns with
 | nil=>intro us r;rw [Qs] at r;cases r;exact .nil
 | cons n ns ih=>
  intro us r
  rw [Nj] at r
  cases r with
  | cons r1 r2=>
   obtain ⟨t,e⟩:=r1
   subst e
   exact .cons n t (ih r2)
section
variable {X:Cx}{e:M5}{te:TE}{lo hi:Option M5}{tl th:TO}{pos p2:Om}
theorem Dx:PO X none Du:=by
 intro Vq s σ H Q I h
 rw [evalPart_none]
 exact NO ⟨none,H,I,.none,h⟩
theorem Dy (h:PE X e te):PO X (some e) (Dv te):=by
 intro Vq s σ H Q I hw
 rw [evalPart_some]
 refine aT (h Vq s σ H _ I hw) fun u s1 ⟨x,H1,I1,r1,q1⟩=>?_
 obtain ⟨i,rfl,q⟩:=q1
 obtain ⟨t,rfl⟩:=r1
 exact ⟨some i,H1,I1,.int i t,q⟩
noncomputable def SlR (X:Cx)(r:V->Option Int->Option Int->Hp->VK->Prop):Prop:=
 ∀ (Vq:List (Addr×OE))(s:M4)(σ:St)(H:Hp)(x:V)(v vl vu:M0)(lo hi:Option Int)(sl:Addr)(Q:VK),Inv X Vq σ H s->RelV x v->s.heap.IsSliceOf sl vl vu .none->IsPart vl lo->IsPart vu hi->r x lo hi H Q->
  ∃ T id,Sj (.type T) "__getitem__" = pure (some (.builtin id))/\s.TypeIs v T/\NI (NC X.prog X.w) X.A (Se v (.ref sl)) (EP X Vq σ Q) X.xe s
theorem SlR.or {r r':V->Option Int->Option Int->Hp->VK->Prop}(h:SlR X r)(h':SlR X r'):SlR X (fun x lo hi H Q=>r x lo hi H Q\/r' x lo hi H Q):=by
 intro Vq s σ H x v vl vu lo hi sl Q I rx hs pl pu q
 rcases q with q|q
 ·exact h Vq s σ H x v vl vu lo hi sl Q I rx hs pl pu q
 ·exact h' Vq s σ H x v vl vu lo hi sl Q I rx hs pl pu q
noncomputable def Dz (r:V->Option Int->Option Int->Hp->VK->Prop)(te:TE)(tl th:TO):TE:=fun σ H Q=>te σ H fun x H1=>tl σ H1 fun l H2=>th σ H2 fun u H3=>r x l u H3 Q
theorem DA {r:V->Option Int->Option Int->Hp->VK->Prop}(hr:SlR X r)(he:PE X e te)(hl:PO X lo tl)(hu:PO X hi th):PE X (.Subscript e (.Slice lo hi none p2) pos) (Dz r te tl th):=by
 intro Vq s σ H Q I h
 refine So (aT (he Vq s σ H _ I h) fun v s1 ⟨x,H1,I1,r1,q1⟩=>?_)
 refine wpAny_Slice (aT (hl Vq s1 σ H1 _ I1 q1) fun vl s2 ⟨l,H2,I2,pl,q2⟩=>aT (hu Vq s2 σ H2 _ I2 q2) fun vu s3 ⟨u,H3,I3,pu,q3⟩=>?_)
 rw [evalPart_none]
 refine NO ?_
 have I4:Inv X Vq σ H3 { s3 with heap:=s3.heap.push { cls:=.type "slice",data:=.fields #[vl,vu,.none] } }:=I3.kept (t':=s3.toks) fun b ob q=>M6 _ q
 obtain ⟨T,id,hT,ht,hg⟩:=hr Vq { s3 with heap:=s3.heap.push { cls:=.type "slice",data:=.fields #[vl,vu,.none] } } σ H3 x v vl vu l u s3.heap.objs.size Q I4 r1 (RF ..) pl pu q3
 show NI (NC X.prog X.w) X.A (Rn e (.Slice lo hi none p2) v (.ref s3.heap.objs.size)) (EP X Vq σ Q) X.xe { s3 with heap:=s3.heap.push { cls:=.type "slice",data:=.fields #[vl,vu,.none] } }
 exact Vf (ops:=[.ref s3.heap.objs.size,v]) ht hT hg (by with_unfolding_all rfl)
noncomputable def iG (xs:List V)(lo hi:Option Int):List V:=(xs.drop (HT.sIx xs.length 0 lo)).take (HT.sIx xs.length xs.length hi - HT.sIx xs.length 0 lo)
theorem DB (xs:List V)(lo hi:Option Int):(iG xs lo hi).length<=xs.length:=by
 unfold iG
 rw [Oa,N5]
 omega
end
end L2
namespace L2
open PySem PySem.Spec PyProof.Rows
noncomputable def dS (n:Nat)(i:Int):Option Nat:=if 0<=i then (if i<n then some i.toNat else none) else if -(n:Int)<=i then some (i+n).toNat else none
noncomputable def atI {α:Type}(xs:List α)(i:Int):Option α:=(dS xs.length i).bind fun j=>xs[j]?
theorem v5 {n:Nat}{i:Int}{j:Nat}(h:dS n i=some j):seqIndex? i n=some j/\j<n/\-(n:Int)<=i/\i<n:=by
 unfold dS at h
 by_cases h0:0<=i
 ·rw [if_pos h0] at h
  by_cases h1:i<n
  ·rw [if_pos h1] at h
   have e:i.toNat=j:=Nq h
   exact ⟨by rw [TZ h0 h1,e],by omega,by omega,h1⟩
  ·rw [if_neg h1] at h;cases h
 ·rw [if_neg h0] at h
  by_cases h1:-(n:Int)<=i
  ·rw [if_pos h1] at h
   have e:(i+n).toNat=j:=Nq h
   exact ⟨by rw [Te (by omega) h1,e],by omega,h1,by omega⟩
  ·rw [if_neg h1] at h;cases h
theorem qD {α:Type}{xs:List α}{i:Int}{v:α}(h:atI xs i=some v):∃ j,seqIndex? i xs.length=some j/\xs[j]? = some v/\j<xs.length/\-(xs.length:Int)<=i/\i<xs.length:=by
 unfold atI at h
 cases e:dS xs.length i with
 | none=>rw [e] at h;cases h
 | some j=>
  rw [e] at h
  obtain ⟨h1,h2,h3,h4⟩:=v5 e
  exact ⟨j,h1,h,h2,h3,h4⟩
noncomputable def qE (b:M5):Prop:=∀ o i,RW b false o i=operate [o,i] (Se o i)
noncomputable def IxR (X:Cx)(r:R2):Prop:=
 ∀ (value slice:M5)(Vq:List (Addr×OE))(s:M4)(σ:St)(H:Hp)(x y:V)(v u:M0)(Q:VK),Inv X Vq σ H s->RelV x v->RelV y u->r x y H Q->
  RW slice false v u=operate [v,u] (Se v u)->NI (NC X.prog X.w) X.A (Rn value slice v u) (EP X Vq σ Q) X.xe s
noncomputable def MtR (X:Cx)(id:String)(r:V->List V->Hp->VK->Prop):Prop:=
 ∀ (Vq:List (Addr×OE))(s:M4)(σ:St)(H:Hp)(x:V)(xs:List V)(v:M0)(us:List M0)(Q:VK),Inv X Vq σ H s->RelV x v->Vals xs us->r x xs H Q->
  NI (NC X.prog X.w) X.A (call (.builtin id) (v::us)) (EP X Vq σ Q) X.xe s
section
variable {X:Cx}{a b:M5}{ta tb:TE}{pos:Om}
theorem IxR.or {r r':R2}(h:IxR X r)(h':IxR X r'):IxR X (fun x y H Q=>r x y H Q\/r' x y H Q):=by
 intro value slice Vq s σ H x y v u Q I rx ry q hs
 rcases q with q|q
 ·exact h value slice Vq s σ H x y v u Q I rx ry q hs
 ·exact h' value slice Vq s σ H x y v u Q I rx ry q hs
theorem MtR.or {id:String}{r r':V->List V->Hp->VK->Prop}(h:MtR X id r)(h':MtR X id r'):MtR X id (fun x xs H Q=>r x xs H Q\/r' x xs H Q):=by
 intro Vq s σ H x xs v us Q I rx rs q
 rcases q with q|q
 ·exact h Vq s σ H x xs v us Q I rx rs q
 ·exact h' Vq s σ H x xs v us Q I rx rs q
theorem DC {r:R2}(hr:IxR X r)(ha:PE X a ta)(hb:PE X b tb)(hs:qE b):PE X (.Subscript a b pos) (lW r ta tb):=by
 intro Vq s σ H Q I h
 exact So (pV ha hb I h fun v u s2 x y H2 I2 rx ry q=>hr a b Vq s2 σ H2 x y v u Q I2 rx ry q (hs _ _))
noncomputable def v7 (K:MX):R2:=fun x y H Q=>∃ p xs i v,x=.ref p/\y=.int i/\SqL K H p xs/\atI xs i=some v/\Q v H
noncomputable def v8 (K:MX):R2:=fun x y H Q=>∃ p xs i v,x=.ref p/\y=.int i/\SqT K H p xs/\atI xs i=some v/\Q v H
noncomputable def v9:R2:=fun x y H Q=>∃ z i c,x=.str z/\y=.int i/\z.length<=Nd/\atI z.cps.toList i=some c/\Q (.str ⟨#[c]⟩) H
theorem ix_list:IxR X (v7 X.K):=by
 intro value slice Vq s σ H x y v u Q I rx ry h hs
 obtain ⟨p,xs,i,z,rfl,rfl,hq,he,q⟩:=h
 cases rx
 obtain ⟨t,rfl⟩:=ry
 obtain ⟨its,r,pl,hz⟩:=I.list hq
 obtain ⟨j,h1,h2,h3,h4,h5⟩:=qD he
 obtain ⟨w,ew,rw'⟩:=r.get h2
 have hl:=r.length
 have hn:=iY
 have aM:EP X Vq σ Q w s:=⟨z,H,I,rw',q⟩
 by_cases h0:0<=i
 ·have hj:i.toNat=j:=by
   rw [TZ h0 h5] at h1
   exact Nq h1
  exact item_listR pl.isList h0 (by omega) (by rw [hj];simpa using ew) aM hs
 ·have hj:(i+(its.toArray.size:Int)).toNat=j:=by
   rw [Te (by omega) h4] at h1
   rw [Nl,<- hl]
   exact Nq h1
  exact Td (x:=w) pl.isList.typeIs RH.lookup
   (wpAny_getItem_list_neg (Q:=fun r s'=>r=w/\EP X Vq σ Q r s') pl.isList (by omega) (by rw [Nl]<;>omega) (by omega) (by rw [hj];simpa using ew) ⟨rfl,aM⟩) hs
theorem ix_tup:IxR X (v8 X.K):=by
 intro value slice Vq s σ H x y v u Q I rx ry h hs
 obtain ⟨p,xs,i,z,rfl,rfl,hq,he,q⟩:=h
 cases rx
 obtain ⟨t,rfl⟩:=ry
 obtain ⟨its,r,pl,hz⟩:=I.tuple hq
 obtain ⟨j,h1,h2,h3,h4,h5⟩:=qD he
 obtain ⟨w,ew,rw'⟩:=r.get h2
 have hl:=r.length
 have hn:=iY
 have aM:EP X Vq σ Q w s:=⟨z,H,I,rw',q⟩
 exact Td (x:=w) pl.typeIs slot_tuple_getitem.lookup
  (getItem_tuple (j:=j) (Q:=fun r s'=>r=w/\EP X Vq σ Q r s') pl (by omega) (by omega) (by rw [Nl,<- hl];exact h1) (by simpa using ew) ⟨rfl,aM⟩) hs
theorem DD:IxR X v9:=by
 intro value slice Vq s σ H x y v u Q I rx ry h hs
 obtain ⟨z,i,c,rfl,rfl,hz,he,q⟩:=h
 obtain ⟨t,rfl⟩:=rx
 obtain ⟨t',rfl⟩:=ry
 obtain ⟨j,h1,h2,h3,h4,h5⟩:=qD he
 have hl:z.cps.toList.length=z.length:=by simp [Str.length]
 rw [hl] at h1 h4 h5
 have hn:=iY
 exact Vf (Uc s z t) slot_str_getitem.lookup (getItem_str (c:=c) (by
  have e1:decide (i < -(2 ^ 63:Int))=false:=decide_eq_false (by omega)
  have e2:decide (i >= 2 ^ 63)=false:=decide_eq_false (by omega)
  rw [e1,e2,Uq]) (by rw [h1];simpa using h2) ⟨.str ⟨#[c]⟩,H,I.tok _,⟨_,rfl⟩,q⟩) hs
noncomputable def wA (K:MX):R2:=fun x y H Q=>v7 K x y H Q\/v8 K x y H Q\/v9 x y H Q
theorem DE:IxR X (wA X.K):=ix_list.or (ix_tup.or DD)
theorem DF (its:List M0)(n j:Nat)(u:M0):Of (·.setIfInBounds j u) { cls:=.type "list",data:=.seq its.toArray n } = { cls:=.type "list",data:=.seq (its.set j u).toArray n }:=by
 simp [Of]
theorem Inv.lst {Vq:List (Addr×OE)}{σ:St}{H:Hp}{s:M4}{p:Addr}{xs:List V}(I:Inv X Vq σ H s)(h:H p=some (.lst xs)) :
  ∃ (its:List M0)(n:Nat),Vals xs its/\s.heap.get? p=some { cls:=.type "list",data:=.seq its.toArray n }/\xs.length<=Nd:=by
 obtain ⟨z,its,n,r,e⟩:=I.hok p _ h
 exact ⟨its,n,r,e,z⟩
theorem Inv.lstUpd {Vq:List (Addr×OE)}{σ:St}{H:Hp}{s:M4}{p:Addr}{xs ys:List V}{its its':List M0}{n n':Nat}{f:OE->OE}(I:Inv X Vq σ H s)(h:H p=some (.lst xs))
  (ho:s.heap.get? p=some { cls:=.type "list",data:=.seq its.toArray n }) (hf:f { cls:=.type "list",data:=.seq its.toArray n } = { cls:=.type "list",data:=.seq its'.toArray n' }) (r:Vals ys its')(hz:ys.length<=Nd)(t:Nat) :
  Inv X Vq σ (aV H p (.lst ys)) { s with heap:=s.heap.update p f,toks:=t }:=by
 have e:(s.heap.update p f).get? p=some { cls:=.type "list",data:=.seq its'.toArray n' }:=by
  rw [SA f ho (by rw [hf]<;>rfl),hf]
 refine I.write (x:=p) (e:=p) (by rw [h];trivial) (.inl rfl) (fun b u hb q=>(O2 _ _ (OU hb)).trans q) ⟨_,e⟩ ?_
 exact ⟨hz,its',n',r,e⟩
noncomputable def wB:V->V->V->Hp->(Hp->Prop)->Prop:=fun o i v H Q=>∃ p xs k j,o=.ref p/\i=.int k/\H p=some (.lst xs)/\dS xs.length k=some j/\Q (aV H p (.lst (xs.set j v)))
theorem DG:Cn X wB:=by
 intro Vq s σ H o i v ov iv u Q I ro ri rv h
 obtain ⟨p,xs,k,j,rfl,rfl,hp,hj,q⟩:=h
 cases ro
 obtain ⟨t,rfl⟩:=ri
 obtain ⟨its,n,r,ho,hz⟩:=I.lst hp
 obtain ⟨h1,h2,h3,h4⟩:=v5 hj
 have hl:=r.length
 have hn:=iY
 have I':Inv X Vq σ (aV H p (.lst (xs.set j v))) { s with heap:=s.heap.update p (Of (·.setIfInBounds j u)) }:=
  I.lstUpd hp ho (DF its n j u) (r.set rv j) (by rw [Oy];exact hz) s.toks
 by_cases h0:0<=k
 ·have hk:k.toNat=j:=by
   rw [TZ h0 h4] at h1
   exact Nq h1
  exact PySem.W.ki_setAt ho h0 (by omega) (by rw [Nl,<- hl];exact h4) (by rw [hk];exact ⟨_,I',q⟩)
 ·have hk:(k+(its.toArray.size:Int)).toNat=j:=by
   rw [Te (by omega) h3] at h1
   rw [Nl,<- hl]
   exact Nq h1
  exact PySem.W.ki_setBack ho (by omega) (by rw [Nl,<- hl];exact h3) (by omega) (by rw [hk];exact ⟨_,I',q⟩)
theorem DH (lo hi:Option Int)(n:Nat):(O9 lo hi none n).1=((HT.sIx n 0 lo:Nat):Int)/\(O9 lo hi none n).2.1=((HT.sIx n n hi:Nat):Int)/\(O9 lo hi none n).2.2=1:=by
 refine ⟨?_,?_,rfl⟩
 ·cases lo with
  | none=>simp [O9,HT.sIx]
  | some i=>
   simp only [O9,HT.sIx,S6,show (1:Int)>0 by decide,if_true]
   by_cases h:i<0
   ·simp only [h,if_true]<;>omega
   ·simp only [h,if_false]<;>omega
 ·cases hi with
  | none=>simp [O9,HT.sIx]
  | some i=>
   simp only [O9,HT.sIx,S6,show (1:Int)>0 by decide,if_true]
   by_cases h:i<0
   ·simp only [h,if_true]<;>omega
   ·simp only [h,if_false]<;>omega
theorem DI (its:List M0)(lo hi:Option Int):S0 its.toArray lo hi none=((its.drop (HT.sIx its.length 0 lo)).take (HT.sIx its.length its.length hi - HT.sIx its.length 0 lo)).toArray:=by
 obtain ⟨h1,h2,h3⟩:=DH lo hi its.toArray.size
 unfold S0
 rw [h1,h2,h3]
 simp only [sliceRange_one,pick_run,Nl]<;>rfl
noncomputable def qF (K:MX):V->Option Int->Option Int->Hp->VK->Prop:=fun x lo hi H Q=>∃ a xs,x=.ref a/\SqL K H a xs/\∀ p,H p=none->Q (.ref p) (aV H p (.lst (iG xs lo hi)))
theorem DJ:SlR X (qF X.K):=by
 intro Vq s σ H x v vl vu lo hi sl Q I rx hs pl pu h
 obtain ⟨a,xs,rfl,hx,q⟩:=h
 cases rx
 obtain ⟨its,r,ht,hz⟩:=I.list hx
 have hlen:=r.length
 refine ⟨"list",_,RH.lookup,ht.isList.typeIs,?_⟩
 refine SN ht.isList hs pl pu .none (by simp) ?_ (by rw [Nl]<;>omega)
 rw [DI,<- hlen]
 refine ⟨.ref s.heap.objs.size,_,I.laid (t':=s.toks) (o:=.lst (iG xs lo hi)) (fun b ob q=>M6 _ q) (Ni _) ?_,rfl,q _ (I.hok.fresh (Ni _))⟩
 exact ⟨N9 (DB xs lo hi) hz,_,0,(r.drop (HT.sIx xs.length 0 lo)).take (HT.sIx xs.length xs.length hi - HT.sIx xs.length 0 lo),Nu _ rfl⟩
theorem call_len_seq:CallR X (.builtin "len") (fun xs H Q=>∃ p ys,xs=[.ref p]/\(SqL X.K H p ys\/SqT X.K H p ys)/\Q (.int ys.length) H):=by
 intro Vq s σ H xs us Q I r h
 obtain ⟨p,ys,rfl,hq,q⟩:=h
 obtain ⟨u,rfl,rx⟩:=eS r
 cases rx
 have hn:=iY
 rcases hq with hq|hq
 ·obtain ⟨its,r',pl,hz⟩:=I.list hq
  have hlen:=r'.length
  exact Calls.call_len_list pl.isList (by simp only [Nl]<;>omega) ⟨.int ys.length,H,I.tok _,⟨s.toks+1,by rw [Nl,hlen]⟩,q⟩
 ·obtain ⟨its,r',pl,hz⟩:=I.tuple hq
  have hlen:=r'.length
  exact len_tuple pl (by simp only [Nl]<;>omega) ⟨.int ys.length,H,I.tok _,⟨s.toks+1,by rw [Nl,hlen]⟩,q⟩
theorem DK:CallR X (.builtin "len") (fun xs H Q=>∃ z,xs=[.str z]/\z.length<=Nd/\Q (.int z.length) H):=by
 intro Vq s σ H xs us Q I r h
 obtain ⟨z,rfl,hz,q⟩:=h
 obtain ⟨u,rfl,t,rfl⟩:=eS r
 have hn:=iY
 exact len_str (by omega) ⟨.int z.length,H,I.tok _,⟨_,rfl⟩,q⟩
theorem CallR.or {f:M0}{r r':List V->Hp->VK->Prop}(h:CallR X f r)(h':CallR X f r'):CallR X f (fun xs H Q=>r xs H Q\/r' xs H Q):=by
 intro Vq s σ H xs us Q I rs q
 rcases q with q|q
 ·exact h Vq s σ H xs us Q I rs q
 ·exact h' Vq s σ H xs us Q I rs q
noncomputable def qG (K:MX)(T:String)(x:V)(H:Hp):Prop:=match x with
 | .str _=>T = "str"
 | .int _=>T = "int"
 | .ref p=>(T = "list"/\∃ xs,SqL K H p xs)\/(T = "tuple"/\∃ o,K.lookup p=some o/\o.cls=.type "tuple"/\o.dict=none) \/
   (T = "dict"/\((∃ kvs,H p=some (.dK kvs))\/∃ kvs,H p=some (.dT kvs)))\/(T = "set"/\∃ S n,H p=some (.set S n))
 | _=>False
theorem DL {Vq:List (Addr×OE)}{σ:St}{H:Hp}{s:M4}{T:String}{x:V}{v:M0}(I:Inv X Vq σ H s)(r:RelV x v)(ty:qG X.K T x H) :
  s.TypeIs v T/\∀ a,v=.ref a->∃ ob,s.heap.get? a=some ob/\ob.dict=none:=by
 cases x with
 | str z=>
  obtain ⟨t,rfl⟩:=r
  cases (show T = "str" from ty)
  exact ⟨Uc s z t,fun _ e=>nomatch e⟩
 | int i=>
  obtain ⟨t,rfl⟩:=r
  cases (show T = "int" from ty)
  exact ⟨Ud s i t,fun _ e=>nomatch e⟩
 | ref p=>
  cases r
  rcases ty with ⟨rfl,xs,hq⟩|⟨rfl,o,hk,hc,hd⟩|⟨rfl,hk⟩|⟨rfl,S,n,hk⟩
  ·obtain ⟨its,_,pl,_⟩:=I.list hq
   refine ⟨pl.isList.typeIs,fun a e=>?_⟩
   cases e
   obtain ⟨o,n,e,c,hd,_⟩:=pl
   exact ⟨o,e,hd⟩
  ·refine ⟨⟨o,I.kIn p o hk,hc⟩,fun a e=>?_⟩
   cases e
   exact ⟨o,I.kIn _ o hk,hd⟩
  ·have z:∃ o,s.heap.get? p=some o/\o.ExactDict:=by
    rcases hk with ⟨kvs,hk⟩|⟨kvs,hk⟩
    ·obtain ⟨_,_,_,_,o,_,_,e,ex,_⟩:=I.hok p _ hk
     exact ⟨o,e,ex⟩
    ·obtain ⟨_,_,_,_,o,_,_,e,ex,_⟩:=I.hok p _ hk
     exact ⟨o,e,ex⟩
   obtain ⟨o,e,ex⟩:=z
   refine ⟨⟨o,e,ex.1⟩,fun a e2=>?_⟩
   cases e2
   exact ⟨o,e,ex.2.1⟩
  ·obtain ⟨o,_,_,_,e,ex,_⟩:=I.hok p _ hk
   refine ⟨⟨o,e,ex.1⟩,fun a e2=>?_⟩
   cases e2
   exact ⟨o,e,ex.2.1⟩
 | _=>exact Ov ty
noncomputable def qH (K:MX)(T:String)(r:V->List V->Hp->VK->Prop)(to:TE)(t:TA):TE:=fun σ H Q=>to σ H fun x H1=>qG K T x H1/\t σ H1 fun xs H2=>r x xs H2 Q
variable {o e:M5}{es:List M5}{to:TE}{t:TA}{name:Str}{apos cpos:Om}{T id:String}{r:V->List V->Hp->VK->Prop}
theorem wC (pa:PlainAttrs T)(slot:Slot T name id)(hty:typeOf (.builtin id)=pure (.type "method_descriptor")) (hm:MtR X id r)(ho:PE X o to)(ha:PA X (e::es) t)
  (hbase:Ro o name X.env (eval o X.env)=eval o X.env:=by rfl)
  (hfew:((Pk cpos (NL (e::es) X.env)).all (fun x=>!x.1)&&(T1 cpos (RX [] X.env)).all (fun x=>x.1.isSome)
   && decide ((e::es).length+([]:List PZ).length+(if ([]:List PZ).isEmpty then 0 else 1)<30))=true:=by rfl)
  (hline:(apos.endLine == cpos.line)=true:=by rfl)(hs:NL (e::es) X.env=(false,eval e X.env)::NL es X.env:=by rfl)(hplain:(Pk cpos (NL es X.env)).any (·.1)=false:=by rfl) :
  PE X (.Call (.Attribute o name apos) (e::es) [] cpos) (qH X.K T r to t):=by
 intro Vq s σ H Q I h
 refine wpAny_Call_method_late hbase hfew hline rfl (aT (ho Vq s σ H _ I h) fun v s1 ⟨x,H1,I1,r1,ty,q1⟩=>?_)
 obtain ⟨h1,h2⟩:=DL I1 r1 ty
 refine ⟨T,id,pa,slot,hty,h1,h2,?_⟩
 have hA:=ha cpos Vq s1 σ H1 _ I1 q1
 rw [hs] at hA ⊢
 refine Calls.callWith_builtin (by show (false||(Pk cpos (NL es X.env)).any (·.1))=false;rw [hplain]<;>rfl) (Calls.evalArgs_plain ?_)
 exact aT hA fun us s2 ⟨vs,H2,I2,r2,q2⟩=>hm Vq s2 σ H2 x vs v us Q I2 r1 r2 q2
end
end L2
namespace L2
open PySem PySem.Spec PyProof.Rows
noncomputable def nM (X:Cx)(id:String)(r:V->List V->Hp->VK->Prop):Prop:=
 ∀ (Vq:List (Addr×OE))(s:M4)(σ:St)(H:Hp)(x:V)(xs:List V)(v:M0)(us:List M0)(Q:VK),Inv X Vq σ H s->RelV x v->Vals xs us->r x xs H Q->
  NI (NC X.prog X.w) X.A (call (.builtin id) (v::us)) (EP X Vq σ Q) X.xe s
theorem Vals.one:∀ {x:V}{us:List M0},Vals [x] us->∃ u,us=[u]/\RelV x u
 | _,_,.cons r .nil=>⟨_,rfl,r⟩
theorem Vals.two:∀ {x y:V}{us:List M0},Vals [x,y] us->∃ u v,us=[u,v]/\RelV x u/\RelV y v
 | _,_,_,.cons r (.cons q .nil)=>⟨_,_,rfl,r,q⟩
theorem Vals.zero:∀ {us:List M0},Vals [] us->us=[]
 | _,.nil=>rfl
theorem Vals.rep {xs:List V}{us:List M0}(h:Vals xs us):∀ k:Nat,Vals (MY k xs).flatten (MY k us).flatten
 | 0=>.nil
 | k+1=>by
  rw [Nt,Nt,OS,OS]
  exact Vals.append h (Vals.rep h k)
theorem wD (its:List M0):∀ (k:Nat)(acc:List M0),
  S7 (fun x1 x2=>x1++x2) acc.toArray (MY k its.toArray)=(acc++(MY k its).flatten).toArray
 | 0,acc=>by simp
 | k+1,acc=>by
  have e:acc.toArray++its.toArray=(acc++its).toArray:=by simp
  have e2:(acc++its)++(MY k its).flatten=acc++(MY (k+1) its).flatten:=by
   rw [Nt,OS,NS]
  rw [<- e2,<- wD its k (acc++its),<- e,Nt,RD]
section
variable {X:Cx}{Vq:List (Addr×OE)}{σ:St}{H:Hp}{s:M4}{l b:Addr}{xs ys zs:List V}
theorem Inv.lset {its its':List M0}{n:Nat}{f:Array M0->Array M0}{t':Nat}(I:Inv X Vq σ H s)(hH:H l=some (.lst xs))
  (e:s.heap.get? l=some { cls:=.type "list",data:=.seq its.toArray n }) (hf:f its.toArray=its'.toArray)(hv:Vals ys its')(hz:ys.length<=Nd) :
  Inv X Vq σ (aV H l (.lst ys)) { s with heap:=s.heap.update l (Of f),toks:=t' }:=by
 have q:=PySem.IsL.update e f
 rw [hf] at q
 refine I.write (x:=l) (e:=l) (by rw [hH];exact trivial) (.inl rfl) (fun b' u hb hu=>(O2 s.heap (Of f) (OU hb)).trans hu) ⟨_,q⟩ ?_
 exact ⟨hz,its',_,hv,q⟩
theorem Inv.lnew {its:List M0}{t':Nat}(I:Inv X Vq σ H s)(hv:Vals ys its)(hz:ys.length<=Nd) :
  Inv X Vq σ (aV H s.heap.objs.size (.lst ys)) { s with heap:=s.heap.push { cls:=.type "list",data:=.seq its.toArray },toks:=t' }:=
 I.laid (fun _ _ q=>M6 _ q) (Ni _) ⟨hz,its,0,hv,Nu _ rfl⟩
theorem Inv.fresh (I:Inv X Vq σ H s):H s.heap.objs.size=none:=I.hok.fresh (Ni _)
theorem Inv.lstM (I:Inv X Vq σ H s)(hH:H l=some (.lst xs)):xs.length<=Nd/\∃ (its:List M0)(n:Nat),Vals xs its/\xs.length=its.length/\s.heap.get? l=some { cls:=.type "list",data:=.seq its.toArray n }:=by
 obtain ⟨z,its,n,r,e⟩:=I.hok l _ hH
 exact ⟨z,its,n,r,r.length,e⟩
theorem DM {n:Nat}(h:n<=Nd):Qa n=false:=by
 unfold Qa
 exact decide_eq_false (by omega)
end
section
variable {X:Cx}
noncomputable def wF:V->List V->Hp->VK->Prop:=fun x vs H Q=>∃ l xs y,x=.ref l/\vs=[y]/\H l=some (.lst xs)/\xs.length<Nd/\Q .non (aV H l (.lst (xs++[y])))
theorem wG:nM X "list.append" wF:=by
 intro Vq s σ H x vs v us Q I rx rv h
 obtain ⟨l,xs,y,rfl,rfl,hH,hz,q⟩:=h
 cases rx
 obtain ⟨u,rfl,ru⟩:=rv.one
 obtain ⟨z,its,n,r,hl,e⟩:=I.lstM hH
 refine Sl F.slot_list_append ⟨_,e,rfl⟩ F.entry_list_append (F.args_list_append_2 _ _) (PySem.list_append l its.toArray n u (by rw [Nl];omega)) ⟨e,?_⟩
 refine ⟨.non,_,I.lset (its':=its++[u]) hH e (by simp) (r.append (.cons ru .nil)) ?_,rfl,q⟩
 rw [Nk,PK]
 omega
noncomputable def wH:R2:=fun x y H Q=>∃ l b xs zs,x=.ref l/\y=.ref b/\H l=some (.lst xs)/\H b=some (.lst zs)/\xs.length+zs.length<=Nd/\∀ p,H p=none->Q (.ref p) (aV H p (.lst (xs++zs)))
theorem DN:OpR X (Pd .Add) wH:=by
 intro Vq s σ H x y v u Q I rx ry h
 obtain ⟨l,b,xs,zs,rfl,rfl,hH,hB,hz,q⟩:=h
 cases rx
 cases ry
 obtain ⟨z,its,n,r,hl,e⟩:=I.lstM hH
 obtain ⟨z2,its2,n2,r2,hl2,e2⟩:=I.lstM hB
 refine PySem.P.add_list e e2 ?_ (by rw [Nl,Nl];omega)
 have ea:its.toArray++its2.toArray=(its++its2).toArray:=by simp
 rw [ea]
 exact ⟨.ref _,_,I.lnew (t':=s.toks) (r.append r2) (by rw [Nk];omega),rfl,q _ I.fresh⟩
noncomputable def wI:R2:=fun x y H Q=>∃ l k xs,x=.ref l/\y=.int k/\H l=some (.lst xs)/\-(2 ^ 63)<=k/\k<2 ^ 63/\xs.length * k.toNat<=Nd /\
 ∀ p,H p=none->Q (.ref p) (aV H p (.lst (MY k.toNat xs).flatten))
theorem DO {α:Type}(xs:List α)(k:Nat):(MY k xs).flatten.length=k * xs.length:=by
 induction k with
 | zero=>simp
 | succ k ih=>rw [Nt,OS,Nk,ih,Nat.succ_mul,UO]
theorem DP:OpR X (Pd .Mult) wI:=by
 intro Vq s σ H x y v u Q I rx ry h
 obtain ⟨l,k,xs,rfl,rfl,hH,h1,h2,hz,q⟩:=h
 cases rx
 obtain ⟨t,rfl⟩:=ry
 obtain ⟨z,its,n,r,hl,e⟩:=I.lstM hH
 have hlen:its.toArray.size * k.toNat<=Nd:=by rw [Nl,<- hl];exact hz
 have hcap:¬ its.toArray.size * k.toNat>(2 ^ 63 - 1) / 8:=by
  have:(Nd:Nat)<=(2 ^ 63 - 1) / 8:=by decide
  omega
 have hfit:¬ (!Builtin.List.listFitsIndex k)=true:=by
  rw [fitsIndex_both h1 h2]
  exact Pz
 have hlong:¬ Qa (its.toArray.size * k.toNat)=true:=by
  rw [DM hlen]
  exact Pz
 have hnew:S7 (fun x1 x2=>x1++x2) #[] (MY (if its.toArray.isEmpty=true then 0 else k.toNat) its.toArray)=(MY k.toNat its).flatten.toArray:=by
  have f0:∀ m:Nat,S7 (fun x1 x2=>x1++x2) #[] (MY m its.toArray)=(MY m its).flatten.toArray:=fun m=>by
   have:=wD its m []
   rw [NA] at this
   exact this
  rw [f0]
  cases its with
  | nil=>simp
  | cons a r'=>rw [if_neg (by simp)]
 refine wpAny_binaryOp_repeat_ref (T:="list") (U:="int") (by decide) ⟨_,e,rfl⟩ (fun s'=>Ud s' k t) noFill_list_mul F.fills_int_mul F.slot_int_rmul repeat_list F.slot_int_index.lookup
  (Sl F.slot_int_rmul (Ud s k t) F.entry_int_rmul (F.args_int_rmul_2 _ _) (int___rmul___int_list k t l its.toArray n)
   ⟨e,rfl,⟨_,e,rfl⟩,Sl F.slot_list_mul ⟨_,e,rfl⟩ F.entry_list_mul (F.args_list_mul_2 _ _) (AutoListH.list___mul___list_int_3 l its.toArray n k t hfit hcap hlong) ⟨e,?_⟩⟩)
 rw [hnew]
 exact ⟨.ref _,_,I.lnew (t':=s.toks) (r.rep k.toNat) (by rw [DO,Nat.mul_comm];exact hz),rfl,q _ I.fresh⟩
end
section
variable {prog:Nz}{w:NP}{A:NM}{E:M0->M4->Prop}{s:M4}
end
section
variable {X:Cx}
end
end L2
namespace Att
open PySem PySem.W PySem.Calls PyProof.Rows
theorem DQ {P:Params}{h:N6}:∀ (ns:List Int)(vs:List M0),WellAll P h vs (ns.map P1)->Si vs ns:=by
 intro ns
 induction ns with
 | nil=>
  intro vs w
  rw [Qs] at w
  cases w
  exact .nil
 | cons n ns ih=>
  intro vs w
  rw [Nj] at w
  cases w with
  | cons a b=>
   cases a
   exact .cons _ _ (ih _ b)
theorem script_of {l:OpenLaw}{n:Nat}(hn:l.most=some n){P:Params}{h:N6}{args:List WData}{vals:List M0}
  (hpre:l.row.toRowW.claim.pre args=true)(hwl:WellAll P h vals args) :
  ∃ a vs ns,vals=[PJ a]/\args=[WData.list (ns.map P1)]/\h.get? a=some { cls:=.type "list",data:=.seq vs.toArray }/\Si vs ns/\ns.length<=n:=by
 have hsh:WShape.hasAll [] args [.list .int]=true:=(pre_splitW hpre).1
 have hc:l.pre.holds [] { args:=args } = true:=(pre_splitW hpre).2
 obtain ⟨d,r,rfl,h1,h2⟩:=hasAllW_cons hsh
 obtain rfl:=hasAllW_nil h2
 obtain ⟨xs,rfl,h3⟩:=hasW_list h1
 obtain ⟨ns,rfl⟩:=items_int h3
 have hlen:ns.length<=n:=by
  unfold OpenLaw.pre at hc
  have h4:(WTm.not (.lt (.lit (.int (n:Int))) (.len (.arg 0)))).holds [] { args:=[.list (ns.map .int)] } = true:=by
   have h4:=(holds_andW hc).1
   rw [hn] at h4
   exact h4
  have h5:=condW_of h4 (w_not (w_lt w_lit (w_len_list (w_arg rfl))))
  rw [MZ] at h5
  refine Nat.le_of_not_lt fun q=>?_
  have q':(n:Int)<((ns.length:Nat):Int):=by omega
  first
   | (rw [decide_eq_true q'] at h5;exact absurd h5 (by decide))
   | (simp at h5;omega)
 cases hwl with
 | cons w1 w2=>
  cases w2
  cases w1 with
  | list ho hall=>exact ⟨_,_,ns,rfl,rfl,ho,DQ ns _ hall,hlen⟩
theorem post_true (l:OpenLaw)(args:List WData):l.row.toRowW.claim.post args (.bool true) args=true:=
 postW_of (r:=l.row.toRowW) (X:=(true == true))
  (show Uz [] (.bool true) .bool=true by first|rfl|decide|simp [Uz,WShape.arms,WShape.armsAll])
  (show (WTm.eq .res (.lit (.bool true))).value [] { args:=args,res:=some (.bool true),after:=args } = some (.bool (true == true)) from w_eq_bool (w_res rfl) w_lit) rfl
section
variable {prog:Nz}{w:NP}{A:NM}{E:M0->M4->Prop}{s:M4}{K:Frag}
end
end Att
namespace L2
open PySem PySem.Spec PyProof.Rows
theorem qI:∀ {vs:List M0}{ns:List Int},Si vs ns->Vals (ns.map V.int) vs
 | _,_,.nil=>.nil
 | _,_,.cons n t h=>.cons ⟨t,rfl⟩ (qI h)
noncomputable def wJ (H:Hp):Prop:=∀ b,H b=none\/∃ o xs,H b=some (.frz o (.lst xs))
theorem law_call {P:Nz}{w:NP}{K:MX}{mg mb:Str->Option M0}{CX:eT}{k:Nat}{fa a:Addr}{fd:OB}{x:Str}{sp:Sp}{s₁:M4}{vs:List M0}{ns:List Int}
  (KX:K.In s₁.heap)(hns:s₁.heap.Ns N8 mg)(hb:s₁.heap.Ns Ul mb)(hbb:∀ x:Str,x ≠ "__name__"->mb x=N7 x) (hlim:s₁.heap.NoLimit)(hg:s₁.gens = #[])
  (ha:s₁.heap.get? a=some { cls:=.type "list",data:=.seq vs.toArray }) (hi:Si vs ns)(hl:ns.length<=Nd)(hr:Room k RI)
  (F:∀ base:N6,K.In base->base.Ns N8 mg->FnOk P w K mg base CX k fa fd [x] sp)(hbind:∀ (s:M4)(u:M0),RO s fd ⟨[u],[]⟩ [(x,u)])
  (hsp:∀ H:Hp,wJ H->SqL K H a (ns.map V.int)->sp [.ref a] H (fun v _=>v=.bl true) fun _ _ _=>False)
  (hCX:∀ H e s',CX [] H s₁ (fun _ _ _=>False) e s'->False) :
  QR (NC P w) RI (.call (.ref fa) ⟨[.ref a],[]⟩) (fun r s'=>r=.ok (.ret (.bool true))/\OldK s₁.heap s'.heap/\s'.os=s₁.os/\Rh s'.gens) s₁:=by
 have rv:=qI hi
 have lenV:=hi.length
  -- from an abstract heap in which nothing but the script may be tracked
 have core:∀ H:Hp,wJ H->SqL K H a (ns.map V.int)->HOk P w H s₁.heap->(∀ b,H b≠none->b=a)->(H a≠none->K.lookup a=none)->
   QR (NC P w) RI (.call (.ref fa) ⟨[.ref a],[]⟩) (fun r s'=>r=.ok (.ret (.bool true))/\OldK s₁.heap s'.heap/\s'.os=s₁.os/\Rh s'.gens) s₁:=by
  intro H hO hS hok hA hK
  have mF:∀ {b:Addr}{o:OE},s₁.heap.get? b=some o->H b=none->(gO s₁.heap H).get? b=some o:=fun e n=>BC e n
  have noA:∀ {b:Addr}{o:OE}{es:Array QF}{ep:Nat},s₁.heap.get? b=some o->o.data=.dict es ep->H b=none:=fun {b o es ep} e d=>by
   cases q:H b with
   | none=>rfl
   | some u=>
    have e':b=a:=hA b (by rw [q];simp)
    subst e'
    rw [ha] at e;cases e
    have d':Data.seq vs.toArray _=Vo es ep:=d
    cases d'
  have nsK:∀ {b:Addr}{m:Str->Option M0},s₁.heap.Ns b m->(gO s₁.heap H).Ns b m:=fun {b m} ⟨o,es,ep,e,d,r⟩=>⟨o,es,ep,mF e (noA e d),d,r⟩
  have hKb:K.In (gO s₁.heap H):=fun b o e=>mF (KX b o e) (by
   cases q:H b with
   | none=>rfl
   | some u=>
    have e':b=a:=hA b (by rw [q];simp)
    subst e'
    rw [hK (by rw [q];simp)] at e;cases e)
  have hM:Mod K mg (gO s₁.heap H):=⟨hKb,nsK hns,⟨mb,nsK hb,hbb⟩,let ⟨mc,h1,h2⟩:=hlim;⟨mc,nsK h1,h2⟩⟩
  have e0:Env0 P w K mg (gO s₁.heap H) RI [] s₁ H:=⟨rfl,hM,fun b o e=>BE e,PF (BB _ _),trivial,fun b hb=>absurd (show b∈([]:List Addr) from hb) (by simp),hok,.of_eq hg⟩
  refine Tg ((F _ hKb (nsK hns)).run RI [] s₁ H ⟨[.ref a],[]⟩ [.ref a] [.ref a] _ _ hr e0 (hbind s₁ (.ref a)) (.cons rfl .nil) (hsp H hO hS)) fun r s' h=>?_
  cases r with
  | error e=>exact (hCX H e s' h).elim
  | ok fl=>
   cases fl with
   | next=>exact Ov h
   | brk=>exact Ov h
   | cont=>exact Ov h
   | ret u=>
    obtain ⟨v,H',os,bare,un,hok',r',q⟩:=h
    have q':v=.bl true:=q
    subst q'
    obtain rfl:u=SQ true:=r'
    refine ⟨rfl,OldK.of_keep fun b o e=>?_,os,bare⟩
    cases q:H b with
    | none=>exact un.keep b o e q (by intro z;exact absurd (show b∈([]:List Addr) from z) (by simp)) (by simp)
    | some u=>
     rcases hO b with z|⟨ob,xs,z⟩
     ·rw [q] at z;cases z
     ·have z2:=un.frzs b ob _ z
      obtain ⟨e1,_⟩:=hok b _ z
      obtain ⟨e2,_⟩:=hok' b _ z2
      rw [e] at e1;cases e1
      exact e2
 cases hk:K.lookup a with
 | some o=>
    -- the script is one of the module's own objects
  have e:=KX a o hk
  rw [ha] at e
  cases e
  refine core (fun _=>none) (fun _=>.inl rfl) (.inr ⟨_,vs.toArray,_,hk,rfl,rfl,rfl,by rw [Nl,lenV];exact hl,by simpa using rv⟩) (fun b u z=>by have z':(none:Option HO)=some u:=z;cases z') (fun b z=>absurd rfl z) fun z=>absurd rfl z
 | none=>
  refine core (fun b=>if b=a then some (.frz { cls:=.type "list",data:=.seq vs.toArray } (.lst (ns.map V.int))) else none) (fun b=>?_) (.inl (.inr ⟨{ cls:=.type "list",data:=.seq vs.toArray },if_pos rfl⟩)) (fun b u z=>?_) (fun b z=>?_) fun _=>hk
  ·by_cases hb:b=a
   ·exact .inr ⟨_,_,if_pos hb⟩
   ·exact .inl (if_neg hb)
  ·by_cases hb:b=a
   ·have z':=(if_pos hb).symm.trans z
    cases z'
    subst hb
    exact ⟨ha,by rw [MZ];exact hl,vs,_,rv,ha⟩
   ·have z':=(if_neg hb).symm.trans z
    cases z'
  ·by_cases hb:b=a
   ·exact hb
   ·exact absurd (if_neg hb) z
end L2
namespace L2
open PySem PySem.Spec PyProof.Rows
end L2
namespace L2
open PySem PySem.Spec PyProof.Rows
noncomputable def gR (s:Stmt):Arguments:=match s with
 | .FunctionDef _ a _ _ _ _ _ _ _ _=>a
 | _=>{ posonlyargs:=[],args:=[],vararg:=none,kwonlyargs:=[],kw_defaults:=[],kwarg:=none,defaults:=[] }
noncomputable def eD (s:Stmt):List Stmt:=match s with
 | .FunctionDef _ _ b _ _ _ _ _ _ _=>b
 | _=>[]
noncomputable def bX (s:Stmt):O3:=match s with
 | .FunctionDef _ _ _ _ _ _ sc _ _ _=>sc
 | _=>{ kind:=.function,names:=[],isGenerator:=false,isCoroutine:=false }
noncomputable abbrev dU:eT:=fun _ _ _ _ _ _=>False
noncomputable abbrev E0:XK:=fun _ _ _=>False
theorem wK {X:Cx}:nH dU X E0:=fun _ _ _ _ _ _ _ h=>h.elim
structure Fun (K:MX)(x qual:Str)(st:Stmt)(f:Addr)(fd:OB):Prop where
 ex:∃ (oc:M0)(od:Option Addr)(kV doc pm:M0)(an:Option Addr)(cdv ct:M0)(osl:Array (Option M0)),
  fd=OK x qual (gR st) (eD st) (bX st) .none kV doc pm an cdv ct/\K.lookup f=some ⟨oc,od,.func fd,osl⟩/\Qt K cdv qual=true
 kp:Ob K (.ref f)=true
section
variable {P:Nz}{w:NP}{K:MX}{mg:Str->Option M0}{base:N6}
theorem Fun.ok {x qual:Str}{st:Stmt}{f:Addr}{fd:OB}{N ps:List Str}{k:Nat}{sp:Sp}(F:Fun K x qual st f fd)(S:FnScope N ps (bX st))(len:∀ vs H Q E,sp vs H Q E->vs.length=ps.length)
  (hbody:∀ (cdv:M0)(A:NM)(outer:List Rf)(s:M4)(H:Hp)(vs:List V)(Q:VK)(E:XK),Room k (A.deeper (envOfC qual (bX st) s.heap.objs.size f cdv))->sp vs H Q E->
   ∃ t,PSs (gP dU P w K mg base N qual (bX st) f cdv A outer s H E).nox (eD st) t/\t { nx:=fun _ H'=>Q .non H',rt:=Q } (start N vs) H):FnOk P w K mg base dU (k+1) f fd ps sp:=by
 obtain ⟨oc,od,kV,doc,pm,an,cdv,ct,osl,rfl,lk,hcd⟩:=F.ex
 refine C8 lk hcd S len fun A outer s H vs Q E hr hsp=>?_
 obtain ⟨t,h,q⟩:=hbody cdv A outer s H vs Q E hr hsp
 exact ⟨t,h.nox,q⟩
theorem Fun.binds {x qual:Str}{st:Stmt}{f:Addr}{fd:OB}{ps:List Str}(F:Fun K x qual st f fd)
  (h:∀ (kV doc pm:M0)(an:Option Addr)(cdv ct:M0)(us:List M0),us.length=ps.length->Sm (OK x qual (gR st) (eD st) (bX st) .none kV doc pm an cdv ct) ⟨us,[]⟩=pure (ps.zip us)):Binds K fd ps []:=by
 obtain ⟨oc,od,kV,doc,pm,an,cdv,ct,osl,rfl,lk,hcd⟩:=F.ex
 exact .all (h kV doc pm an cdv ct)
theorem DR {x qual:Str}{st:Stmt}{f:Addr}{oc:M0}{od an:Option Addr}{osl:Array (Option M0)}{kV doc pm cdv ct:M0}(l:K.lookup f=some ⟨oc,od,.func (OK x qual (gR st) (eD st) (bX st) .none kV doc pm an cdv ct),osl⟩)
  (c:Qt K cdv qual=true)(k:Ob K (.ref f)=true):Fun K x qual st f (OK x qual (gR st) (eD st) (bX st) .none kV doc pm an cdv ct):=⟨⟨oc,od,kV,doc,pm,an,cdv,ct,osl,rfl,l,c⟩,k⟩
end
theorem DS {A:NM}{k:Nat}(hr:Room k A):A.units+1<PU:=Nat.lt_of_le_of_lt (Nat.add_le_add_left (by decide:1<=64) _) hr.units
section
variable {X:Cx}
theorem call_lenD:CallR X (.builtin "len") (fun xs H Q=>∃ a kvs,xs=[V.ref a]/\H a=some (.dK kvs)/\Q (.int kvs.length) H):=by
 intro Vq s σ H xs us Q I r h
 obtain ⟨a,kvs,rfl,ha,q⟩:=h
 obtain ⟨u,rfl,ru⟩:=eS r
 cases ru
 exact Dg I (.inl ha) fun t s' I'=>⟨.int kvs.length,H,I',⟨t,rfl⟩,q⟩
end
theorem i4 {A B:Prop}(h:B):if false=true then A else B:=by
 rw [if_neg Pz]
 exact h
theorem i5 {A B:Prop}(h:A):if true=true then A else B:=by
 rw [if_pos rfl]
 exact h
noncomputable def Same (H H':Hp):Prop:=∀ b o,H b=some o->H' b=some o
theorem Same.trans {H H1 H2:Hp}(a:Same H H1)(b:Same H1 H2):Same H H2:=fun c o h=>b c o (a c o h)
theorem Same.free {H H':Hp}(e:Same H H'){l:Addr}(h:H' l=Up):H l=Up:=by
 cases q:H l with
 | none=>rfl
 | some o=>
  rw [e l o q] at h
  cases h
theorem Same.seq {K:MX}{H H':Hp}{a:Addr}{xs:List V}(e:Same H H')(h:SqL K H a xs):SqL K H' a xs:=by
 rcases h with (h|⟨o,h⟩)|h
 ·exact .inl (.inl (e _ _ h))
 ·exact .inl (.inr ⟨o,e _ _ h⟩)
 ·exact .inr h
section
variable {κ:Type} [DecidableEq κ]
end
end L2
namespace Lw
open PySem L2
noncomputable def aY (i:Nat):Stmt:=N4.main.body.getD i (.Pass ⟨0,0,0,0⟩)
noncomputable def Vw:Nz:={ N4 with main:={ N4.main with body:=aY 1::aY 2::aY 4::aY 6::aY 7::aY 9::aY 10::aY 11::aY 12::aY 13::aY 14::aY 15::aY 16::aY 17::aY 18::aY 19::aY 20::aY 21::aY 22::aY 24::aY 25::aY 26::aY 27::aY 28::aY 29::[] } }
noncomputable abbrev vS (x:String)(n:Nat):M0:=Ri (Sq x) n
noncomputable abbrev vI (i:Int):M0:=RY i 0
noncomputable abbrev vR (a:Addr):M0:=PJ a
noncomputable abbrev vN:M0:=Qh
noncomputable abbrev kO (x y:String)(a b c:Nat)(l n i j k:Int)(r:Addr)(q:Int)(vs:Array M0)(t l2:Int)(e:Nat):OE:={ cls:=Pw "code",data:=SK (#[vS x a,vS x b,vS y c,vI l,vI n,vI i,vI j,vI k,vR r,SQ true,vI q]++vs++#[vI t,vI l2,vS y e]) }
noncomputable abbrev fO (x:Str)(n:Nat)(m:M0)(c:Addr):OE:=⟨Pw "function",none,.func (OK x x (gR (aY n)) (eD (aY n)) (bX (aY n)) Qh Qh Qh m none (PJ c) Qh),#[]⟩
noncomputable abbrev eO (P:PB)(x:String)(n:Nat)(v:M0):QF:={ hash:=PyData.keyHash P (Sq x),key:=Ri (Sq x) n,val:=v }
noncomputable abbrev eR (P:PB)(x:String)(n:Nat)(a:Addr):QF:=eO P x n (vR a)
noncomputable abbrev kA (p:Addr×OE)(R:MX):MX:=p::R
noncomputable abbrev vM (n:Nat):M0:=[vS "creasecourt.places" 223,vS "creasecourt.wedges" 232,vS "creasecourt.crimps" 247,vS "law_creasecourt_k38_whole_counts" 362].getD n vN
noncomputable abbrev kF (x:String)(r a:Nat)(l n:Int)(t i:Nat)(m:M0)(R:MX):MX:=(r+5,kO x "/claim/cut.py" a (a+1) (a+2) l n 0 0 3 r 181 #[vR (r+1),vN,vR (r+2),vR (r+3),vR (r+4)] t l (t+1))::(r+6,fO x i m (r+5))::R
noncomputable abbrev kG (x:String)(r a:Nat)(l n:Int)(t i:Nat)(m:M0)(R:MX):MX:=(r+3,kO x "/claim/cut.py" a (a+1) (a+2) l n 0 0 3 r 181 #[vR (r+1),vN,vN,vN,vR (r+2)] t l (t+1))::(r+4,fO x i m (r+3))::R
noncomputable def Kx:PB → MX:=fun P=>kA (3,{ cls:=Pw "dict",data:=Vo #[eO P "__name__" 165 (vS "law_creasecourt_k38_whole_counts" 362),eO P "__doc__" 166 vN,eO P "__package__" 167 vN,eO P "__loader__" 168 (Value.builtin "__main__.__loader__#opaque"),eO P "__spec__" 169 vN,eR P "__annotations__" 170 6,eR P "__builtins__" 171 4,eO P "__file__" 173 (vS "/claim/cut.py" 172),eO P "__cached__" 174 vN,eR P "CreaseError" 206 24,eR P "NoRound" 222 37,eR P "is_whole" 231 46,eR P "is_good" 239 51,eR P "check_round" 246 58,eR P "wedges_by" 254 63,eR P "is_crimp" 263 70,eR P "brought_ahead" 272 77,eR P "is_turned_part" 279 84,eR P "crimped" 289 91,eR P "last_two" 297 98,eR P "folded_order" 307 105,eR P "rows_of" 313 110,eR P "all_marks" 319 115,eR P "ways_to_choose" 329 122,eR P "least_ahead" 335 127,eR P "run_of_least" 343 134,eR P "ways_to_fold" 354 141,eR P "how_many" 361 148,eR P "_law_nth" 371 155,eR P "_law_int" 378 162,eR P "_law_digits" 390 169,eR P "_law_gaps" 396 174,eR P "_law_other" 402 179,eR P "law" 408 184] 34 }) <|
 kF "is_whole" 40 225 7 1 229 4 (vM 0) <|
 kG "is_good" 47 234 10 1 237 6 (vM 1) <|
 kF "check_round" 52 240 16 1 244 7 (vM 1) <|
 kG "wedges_by" 59 249 20 2 252 9 (vM 2) <|
 kF "is_crimp" 64 255 22 3 261 10 (vM 2) <|
 kF "brought_ahead" 71 264 24 1 270 11 (vM 2) <|
 kF "is_turned_part" 78 273 30 1 277 12 (vM 2) <|
 kF "crimped" 85 280 32 3 287 13 (vM 2) <|
 kF "last_two" 92 290 37 2 295 14 (vM 2) <|
 kF "folded_order" 99 298 43 2 305 15 (vM 2) <|
 kG "rows_of" 106 308 51 1 311 16 (vM 2) <|
 kG "all_marks" 111 314 56 1 317 17 (vM 2) <|
 kF "ways_to_choose" 116 320 59 2 327 18 (vM 2) <|
 kG "least_ahead" 123 330 64 1 333 19 (vM 2) <|
 kF "run_of_least" 128 336 68 1 341 20 (vM 2) <|
 kF "ways_to_fold" 135 344 73 1 352 21 (vM 2) <|
 kF "how_many" 142 355 83 1 359 22 (vM 2) <|
 kF "_law_nth" 149 364 87 2 369 24 (vM 3) <|
 kF "_law_int" 156 372 89 1 376 25 (vM 3) <|
 kF "_law_digits" 163 379 91 3 388 26 (vM 3) <|
 kG "_law_gaps" 170 391 101 2 394 27 (vM 3) <|
 kG "_law_other" 175 397 122 1 400 28 (vM 3) <|
 kG "law" 180 403 124 1 406 29 (vM 3) <| []
noncomputable def As:List Addr:=[3,45,46,50,51,57,58,62,63,69,70,76,77,83,84,90,91,97,98,104,105,109,110,114,115,121,122,126,127,133,134,140,141,147,148,154,155,161,162,168,169,173,174,178,179,183,184]
theorem lX:∀ P,As=(Kx P).map (·.1):=fun _=>by kernel_rfl
open PySem.W PyProof.Rows in
theorem run:LeftO (Sb N3).prog Vw [] (fun s=>xlAt Vw [] s&&recOk (UB (TB (Sb N3))) s) (Hook.obs (Vj Kx As lX)) (Hook.val (Vj Kx As lX)) 2350:=fun w=>by kernel_rfl
end Lw
set_option maxHeartbeats 4000000
namespace L3
open PySem
open PySem.SetTable (Probe Met Slot bits runEnd leap turns insertAt sizeAbove)
namespace Tb
noncomputable def i6 (m:Nat)(p:Probe):Probe:=
 if p.more>0 then { p with j:=p.j+1,more:=p.more - 1 } else
 { p with j:=(leap m p.i p.perturb).1,more:=runEnd m (leap m p.i p.perturb).1 - (leap m p.i p.perturb).1,i:=(leap m p.i p.perturb).1,perturb:=(leap m p.i p.perturb).2 }
noncomputable def DT (m:Nat)(b:Nat):Probe:={ j:=b % (m+1),more:=runEnd m (b % (m+1)) - b % (m+1),i:=b % (m+1),perturb:=b,dummy:=none }
noncomputable def bU (m b:Nat):Nat->Probe
 | 0=>DT m b
 | k+1=>i6 m (bU m b k)
noncomputable def lp (m b:Nat):Nat->Nat×Nat
 | 0=>(b % (m+1),b)
 | n+1=>leap m (lp m b n).1 (lp m b n).2
noncomputable def hd (m i q:Nat):Probe:={ j:=i,more:=runEnd m i - i,i:=i,perturb:=q,dummy:=none }
theorem lY {m b k i q:Nat}(h:bU m b k=hd m i q):∀ r,r<=runEnd m i - i->bU m b (k+r) = { j:=i+r,more:=runEnd m i - i - r,i:=i,perturb:=q,dummy:=none }
 | 0,_=>by rw [Nat.add_zero,h];rfl
 | r+1,hr=>by
  have e:=lY h r (by omega)
  show i6 m (bU m b (k+r))=_
  rw [e]
  unfold i6
  rw [if_pos (show runEnd m i - i - r>0 by omega)]
  show Probe.mk (i+r+1) (runEnd m i - i - r - 1) i q none=_
  rw [UC,Nat.sub_sub]
theorem DU {m b k i q:Nat}(h:bU m b k=hd m i q):bU m b (k+(runEnd m i - i)+1)=hd m (leap m i q).1 (leap m i q).2:=by
 have e:=lY h (runEnd m i - i) (Ni _)
 show i6 m (bU m b (k+(runEnd m i - i)))=_
 rw [e]
 unfold i6
 rw [if_neg (show ¬ (runEnd m i - i - (runEnd m i - i)>0) by omega)]
 rfl
noncomputable def nx (m i:Nat):Nat:=(i * 5+1) % (m+1)
noncomputable def fJ (m:Nat):Nat->Nat->Nat
 | 0,i=>i
 | n+1,i=>fJ m n (nx m i)
theorem lZ (m:Nat):∀ (a b i:Nat),fJ m (a+b) i=fJ m b (fJ m a i)
 | 0,b,i=>by rw [Qi];rfl
 | a+1,b,i=>by rw [UL];exact lZ m a b (nx m i)
noncomputable def i7 (m:Nat):Nat->Nat->Nat->Nat
 | 0,_,acc=>acc
 | f+1,i,acc=>i7 m f (nx m i) (acc ||| (1 <<< i))
theorem wL (m j:Nat):∀ (f i acc:Nat),(i7 m f i acc).testBit j=true->acc.testBit j=true\/∃ n,n<f/\fJ m n i=j
 | 0,_,_,h=>.inl h
 | f+1,i,acc,h=>by
  rcases wL m j f (nx m i) _ h with h|⟨n,hn,e⟩
  ·rw [Nat.testBit_or] at h
   cases hb:acc.testBit j with
   | true=>exact .inl rfl
   | false=>
    rw [hb,Ur,Nat.testBit_shiftLeft] at h
    refine .inr ⟨0,by omega,?_⟩
    simp at h
    have h2:Nat.testBit 1 (j - i)=true:=h.2
    rw [Nat.testBit_one_eq_true_iff_self_eq_zero] at h2
    show i=j
    omega
  ·exact .inr ⟨n+1,by omega,e⟩
noncomputable def j4 (m:Nat):Bool:=i7 m (m+1) 0 0 == 2 ^ (m+1) - 1&&fJ m (m+1) 0 == 0
theorem DV {m:Nat}(h:j4 m=true){i j:Nat}(hi:i<=m)(hj:j<=m):∃ n,n<=m/\fJ m n i=j:=by
 unfold j4 at h
 rw [Nb,beq_iff_eq,beq_iff_eq] at h
 have from0:∀ j,j<=m->∃ n,n<m+1/\fJ m n 0=j:=fun j hj=>by
  rcases wL m j (m+1) 0 0 (by rw [h.1,Nat.testBit_two_pow_sub_one];simp;omega) with q|q
  ·simp at q
  ·exact q
 obtain ⟨a,ha,ea⟩:=from0 i hi
 obtain ⟨c,hc,ec⟩:=from0 j hj
 by_cases hac:a<=c
 ·refine ⟨c - a,by omega,?_⟩
  rw [<- ea,<- lZ,show a+(c - a)=c by omega,ec]
 ·refine ⟨m+1 - a+c,by omega,?_⟩
  rw [<- ea,<- lZ,show a+(m+1 - a+c)=m+1+c by omega,lZ,h.2,ec]
theorem wM (m b:Nat):∀ n,(lp m b n).2=b / 32 ^ n
 | 0=>by simp [lp]
 | n+1=>by
  show (lp m b n).2 / 32=_
  rw [wM m b n,Nat.div_div_eq_div_mul,UN]
theorem wN (m b:Nat):∀ n,(lp m b n).1<=m
 | 0=>TU (Vl _ (UK _))
 | n+1=>TU (Vl _ (UK _))
theorem DW {m b:Nat}(hb:b<2 ^ 64):∀ n,lp m b (13+n)=(fJ m n (lp m b 13).1,0):=by
 have h0:∀ n,13<=n->(lp m b n).2=0:=fun n hn=>by
  rw [wM]
  apply Nat.div_eq_of_lt
  refine Ny hb ?_
  have:(2:Nat) ^ 64<=32 ^ 13:=by decide
  exact N9 this (SS (by decide) hn)
 intro n
 have one:∀ n i,fJ m (n+1) i=nx m (fJ m n i):=fun n i=>by
  rw [lZ];rfl
 induction n with
 | zero=>exact Prod.ext rfl (h0 13 (Ni _))
 | succ n ih=>
  show leap m (lp m b (13+n)).1 (lp m b (13+n)).2=_
  rw [ih,one]
  simp [leap,nx]
theorem DX {m b j:Nat}(hc:j4 m=true)(hb:b<2 ^ 64)(hj:j<=m):∃ n,n<=m+13/\(lp m b n).1=j:=by
 obtain ⟨n,hn,e⟩:=DV hc (wN m b 13) hj
 exact ⟨13+n,by omega,by rw [DW hb];exact e⟩
noncomputable def Reach (m:Nat)(S:List Nat)(b j:Nat):Prop:=∃ k,(bU m b k).j=j/\∀ k',k'<k->(bU m b k').j∈S
theorem Reach.mono {m b j:Nat}{S S':List Nat}(h:Reach m S b j)(hs:∀ x,x∈S->x∈S'):Reach m S' b j:=
 let ⟨k,e,a⟩:=h;⟨k,e,fun k' hk=>hs _ (a k' hk)⟩
theorem DY {m:Nat}{S:List Nat}(hs:S.length<=m):∃ j,j<=m/\j∉S:=by
 refine Ru fun h=>?_
 have all:∀ j,j<=m->j∈S:=fun j hj=>Ru fun q=>h ⟨j,hj,q⟩
 have:=List.Nodup.length_le_of_subset (l₁:=NF (m+1)) (l₂:=S) TY fun j hj=>all j (by simpa [RM] using hj)
 rw [TH] at this
 omega
theorem qJ {xs:Array Nat}{j:Nat}(hr:∀ a b,a<b->b<xs.size->xs.getD a 0<xs.getD b 0):∀ (f lo hi:Nat),hi - lo<=f->lo<=hi->hi<=xs.size->(∀ i,i<lo->xs.getD i 0<j)->(∀ i,hi<=i->i<xs.size->j<=xs.getD i 0)->
  PX xs j f lo hi<=xs.size/\(∀ i,i<PX xs j f lo hi->xs.getD i 0<j)/\∀ i,PX xs j f lo hi<=i->i<xs.size->j<=xs.getD i 0
 | 0,lo,hi,hf,h1,h2,a,b=>by
  have e:lo=hi:=by omega
  show lo<=xs.size/\(∀ i,i<lo->_)/\∀ i,lo<=i->_
  exact ⟨by omega,a,by rw [e];exact b⟩
 | f+1,lo,hi,hf,h1,h2,a,b=>by
  unfold PX
  by_cases q:lo<hi
  ·rw [if_pos q]
   dsimp only
   have hm:(lo+hi) / 2<xs.size:=by omega
   have e:xs.getD ((lo+hi) / 2) j=xs.getD ((lo+hi) / 2) 0:=by simp [OT,hm]
   rw [e]
   by_cases c:xs.getD ((lo+hi) / 2) 0<j
   ·rw [if_pos c]
    refine qJ hr f _ _ (by omega) (by omega) h2 (fun i hi'=>?_) b
    rcases Pq i ((lo+hi) / 2) with z|z
    ·exact Rm (hr _ _ z hm) c
    ·have:i=(lo+hi) / 2:=by omega
     rw [this];exact c
   ·rw [if_neg c]
    refine qJ hr f _ _ (by omega) (by omega) (by omega) a fun i hi' hs=>?_
    rcases Pq ((lo+hi) / 2) i with z|z
    ·have:=hr _ _ z hs;omega
    ·have:i=(lo+hi) / 2:=by omega
     rw [this];omega
  ·rw [if_neg q]
   exact ⟨by omega,a,fun i h hs=>b i (by omega) hs⟩
theorem wO {xs:Array Nat}(h:xs.toList.Pairwise (·<·)):∀ a b,a<b->b<xs.size->xs.getD a 0<xs.getD b 0:=fun a b hab hb=>by
 have:=Pr.mp h a b (by simpa using Rm hab hb) (by simpa using hb) hab
 simpa [OT,hb,Rm hab hb] using this
theorem DZ {xs:Array Nat}(h:xs.toList.Pairwise (·<·))(j:Nat):P6 xs j<=xs.size/\(∀ i,i<P6 xs j->xs.getD i 0<j)/\∀ i,P6 xs j<=i->i<xs.size->j<=xs.getD i 0:=
 qJ (wO h) _ _ _ (by omega) (by omega) (Ni _) (fun i z=>absurd z (OO _)) fun i z z2=>by omega
noncomputable abbrev j5:=Nat×Int×M0
structure Ok (t:QC)(R:List j5):Prop where
 place:t.place.toList=R.map (·.1)
 dum:t.dummies = #[]
 rise:(R.map (·.1)).Pairwise (·<·)
 le:∀ r∈R,r.1<=t.mask
 cov:j4 t.mask=true
 odd:t.mask % 2=1
 room:R.length<=t.mask
 road:∀ r∈R,Reach t.mask (R.map (·.1)) (bits r.2.1) r.1
section
variable {t:QC}{R:List j5}
theorem D0 (h:Int):bits h<2 ^ 64:=by
 unfold bits
 have h1:0<=h % (2 ^ 64:Int):=Oj _ (by decide)
 have h2:h % (2 ^ 64:Int)<2 ^ 64:=O5 _ (by decide)
 omega
theorem Ok.size (o:Ok t R):t.place.size=R.length:=by
 have:=congrArg Ph o.place
 simpa using this
theorem Ok.uniq (o:Ok t R){r r':j5}(h:r∈R)(h':r'∈R)(e:r.1=r'.1):r=r':=by
 have p:=OP.mp o.rise
 obtain ⟨i,hi,e1⟩:=Og h
 obtain ⟨k,hk,e2⟩:=Og h'
 rcases Rl i k with z|z|z
 ·have:=Pr.mp p i k hi hk z
  rw [e1,e2] at this;omega
 ·subst z;rw [<- e1,<- e2]
 ·have:=Pr.mp p k i hk hi z
  rw [e1,e2] at this;omega
theorem Ok.getD (o:Ok t R){i:Nat}(hi:i<R.length):t.place.getD i 0=(R[i]).1:=by
 have h:t.place.toList[i]? = (R.map (·.1))[i]?:=by rw [o.place]
 have hs:i<t.place.size:=by rw [o.size];exact hi
 simp [hi,hs] at h
 simp [OT,hs,h]
theorem Ok.sorted (o:Ok t R):t.place.toList.Pairwise (·<·):=by rw [o.place];exact o.rise
theorem D1 (j:Nat):TN #[] j=false:=by
 unfold TN
 simp
theorem Ok.live (o:Ok t R){j:Nat}(h:j∈R.map (·.1)):∃ i r,t.slot j=.live i/\R[i]? = some r/\r.1=j:=by
 obtain ⟨r,hr,e⟩:=NG.mp h
 obtain ⟨i,hi,ei⟩:=Og hr
 have b:=DZ o.sorted j
 have hp:t.place.getD i 0=j:=by rw [o.getD hi,ei];exact e
 have hs:i<t.place.size:=by rw [o.size];exact hi
 have e2:P6 t.place j=i:=by
  rcases Rl (P6 t.place j) i with z|z|z
  ·have h1:=b.2.2 _ (Ni _) (by omega)
   have h2:=wO o.sorted _ _ z hs
   omega
  ·exact z
  ·have:=b.2.1 i z;omega
 refine ⟨i,r,?_,by rw [<- ei];exact Nh hi,e⟩
 unfold Th
 dsimp only
 rw [e2,if_pos]
 have:t.place[i]? = some j:=by
  rw [Pp hs]
  simpa [OT,hs] using hp
 rw [this]
 exact beq_self_eq_true _
theorem Ok.empty (o:Ok t R){j:Nat}(h:j∉R.map (·.1)):t.slot j=.empty:=by
 unfold Th
 dsimp only
 rw [if_neg,o.dum,D1]
 ·rfl
 ·intro q
  rw [beq_iff_eq] at q
  apply h
  rw [<- o.place]
  exact Array.mem_toList_iff.mpr (Array.mem_of_getElem? q)
theorem wQ (m b:Nat):∀ k,(bU m b k).dummy=none
 | 0=>rfl
 | k+1=>by
  show (i6 m (bU m b k)).dummy=none
  unfold i6
  split<;>exact wQ m b k
theorem Ok.go (o:Ok t R)(RR:Nat->Int)(hh:∀ i r,R[i]? = some r->RR i=r.2.1){h:Int}{K:Nat}(hK:(bU t.mask (bits h) K).j∉R.map (·.1))(hT:∀ k',k'<K->(bU t.mask (bits h) k').j∈R.map (·.1)) :
  ∀ (f k:Nat),k<=K->K<k+f->
   (PV t RR h f (bU t.mask (bits h) k)=some (.empty (bU t.mask (bits h) K).j none)/\∀ k' r,k<=k'->k'<K->r∈R->r.1=(bU t.mask (bits h) k').j->r.2.1≠h) \/
   ∃ k' i r,k<=k'/\k'<K/\R[i]? = some r/\r.1=(bU t.mask (bits h) k').j/\r.2.1=h/\PV t RR h f (bU t.mask (bits h) k)=some (.candidate (bU t.mask (bits h) k').j i (bU t.mask (bits h) (k'+1))) /\
    ∀ k'' r',k<=k''->k''<k'->r'∈R->r'.1=(bU t.mask (bits h) k'').j->r'.2.1≠h
 | 0,k,h1,h2=>by omega
 | f+1,k,h1,h2=>by
  rcases Pq k K with z|z
  ·obtain ⟨i,r,e,er,ej⟩:=o.live (hT k z)
   have eg:PV t RR h (f+1) (bU t.mask (bits h) k)=if RR i == h then some (.candidate (bU t.mask (bits h) k).j i (bU t.mask (bits h) (k+1))) else PV t RR h f (bU t.mask (bits h) (k+1)):=by
    show (match t.slot (bU t.mask (bits h) k).j with|.empty=>_|.dummy=>_|.live i=>_)=_
    rw [e]
    rfl
   rw [eg,hh i r er]
   have hrm:r∈R:=OQ er
   by_cases q:r.2.1=h
   ·refine .inr ⟨k,i,r,Ni _,z,er,ej,q,?_,fun k'' r' a b=>by omega⟩
    rw [q,if_pos (beq_self_eq_true _)]
   ·rw [if_neg (by simpa using q)]
    have here:∀ r',r'∈R->r'.1=(bU t.mask (bits h) k).j->r'.2.1≠h:=fun r' hr' e'=>by
     rw [o.uniq hr' hrm (e'.trans ej.symm)];exact q
    rcases Ok.go o RR hh hK hT f (k+1) z (by omega) with ⟨a,b⟩|⟨k',i',r',a1,a2,a3,a4,a5,a6,a7⟩
    ·refine .inl ⟨a,fun k' r' c1 c2 hr' e'=>?_⟩
     rcases Pq k k' with y|y
     ·exact b k' r' y c2 hr' e'
     ·have:k'=k:=by omega
      subst this;exact here r' hr' e'
    ·refine .inr ⟨k',i',r',by omega,a2,a3,a4,a5,a6,fun k'' r'' c1 c2 hr' e'=>?_⟩
     rcases Pq k k'' with y|y
     ·exact a7 k'' r'' y c2 hr' e'
     ·have:k''=k:=by omega
      subst this;exact here r'' hr' e'
  ·have:k=K:=by omega
   subst this
   refine .inl ⟨?_,fun k' r a b=>by omega⟩
   show (match t.slot (bU t.mask (bits h) k).j with|.empty=>_|.dummy=>_|.live i=>_)=_
   rw [o.empty hK]
   show some (Met.empty _ (bU t.mask (bits h) k).dummy)=_
   rw [wQ]
end
noncomputable def lv (m:Nat)(ow:Array (Option Nat)):List (Nat×Nat):=(NF (m+1)).filterMap fun j=>(ow.getD j none).map (j,·)
theorem mem_lv {m:Nat}{ow:Array (Option Nat)}{j i:Nat}:(j,i)∈lv m ow↔j<=m/\ow.getD j none=some i:=by
 unfold lv
 rw [Q8]
 constructor
 ·rintro ⟨a,ha,e⟩
  rw [M3] at e
  obtain ⟨b,e1,e2⟩:=e
  cases e2
  exact ⟨by simpa [RM] using ha,e1⟩
 ·rintro ⟨h1,h2⟩
  exact ⟨j,by simpa [RM] using h1,by rw [h2];rfl⟩
theorem D2 (m:Nat)(ow:Array (Option Nat)):((lv m ow).map (·.1)).Pairwise (·<·):=by
 rw [OP]
 unfold lv
 refine US (R:=(·<·)) _ (fun a a' h b hb b' hb'=>?_) Sg
 rw [M3] at hb hb'
 obtain ⟨_,_,e⟩:=hb
 obtain ⟨_,_,e'⟩:=hb'
 rw [<- e,<- e']
 exact h
structure Ow (m:Nat)(ds:List Int)(ow:Array (Option Nat)):Prop where
 size:ow.size=m+1
 lt:∀ j i,ow.getD j none=some i->i<ds.length
 all:∀ i,i<ds.length->∃ j,ow.getD j none=some i
 inj:∀ j j' i,ow.getD j none=some i->ow.getD j' none=some i->j=j'
 road:∀ j i,ow.getD j none=some i->Reach m ((lv m ow).map (·.1)) (bits (ds.getD i 0)) j
section
variable {m:Nat}{ds:List Int}{ow:Array (Option Nat)}
theorem Ow.le (o:Ow m ds ow){j i:Nat}(h:ow.getD j none=some i):j<=m:=by
 rcases Pq j ow.size with z|z
 ·rw [o.size] at z;omega
 ·simp [OT,PY.mpr z] at h
theorem Ow.taken (o:Ow m ds ow){j:Nat}(hj:j<=m):j∈(lv m ow).map (·.1)↔(ow.getD j (some 0)).isNone=false:=by
 have hs:j<ow.size:=by rw [o.size];omega
 have e:ow.getD j (some 0)=ow.getD j none:=by simp [OT,hs]
 rw [e]
 constructor
 ·intro q
  obtain ⟨⟨a,i⟩,q2,rfl⟩:=NG.mp q
  rw [(mem_lv.mp q2).2];rfl
 ·intro q
  cases z:ow.getD j none with
  | none=>rw [z] at q;cases q
  | some i=>exact NG.mpr ⟨(j,i),mem_lv.mpr ⟨hj,z⟩,rfl⟩
theorem Ow.perm (o:Ow m ds ow):((lv m ow).map (·.2)).Perm (NF ds.length):=by
 have nd:((lv m ow).map (·.2)).Nodup:=by
  have p:=OP.mp (D2 m ow)
  unfold List.Nodup
  rw [OP]
  refine p.imp_of_mem fun {a b} ha hb hab e=>?_
  obtain ⟨a1,a2⟩:=a
  obtain ⟨b1,b2⟩:=b
  have:=o.inj a1 b1 a2 (mem_lv.mp ha).2 (by have:=(mem_lv.mp hb).2;rw [this];exact congrArg some e.symm)
  exact Oe _ (this ▸ hab)
 refine (List.perm_ext_iff_of_nodup nd TY).mpr fun i=>?_
 rw [NV]
 constructor
 ·intro q
  obtain ⟨⟨a,i⟩,q2,rfl⟩:=NG.mp q
  exact o.lt a i (mem_lv.mp q2).2
 ·intro q
  obtain ⟨j,e⟩:=o.all i q
  exact NG.mpr ⟨(j,i),mem_lv.mpr ⟨o.le e,e⟩,rfl⟩
theorem Ow.count (o:Ow m ds ow):(lv m ow).length=ds.length:=by
 have:=o.perm.length_eq
 simpa using this
theorem Ow.free (o:Ow m ds ow){b:Nat}:∀ (f n k0:Nat),bU m b k0=hd m (lp m b n).1 (lp m b n).2->(∀ k',k'<k0->(bU m b k').j∈(lv m ow).map (·.1))->(∃ N,n<=N/\N<n+f/\(lp m b N).1∉(lv m ow).map (·.1))->
  ∃ j,P2 m ow f (lp m b n).1 (lp m b n).2=some j/\j<=m/\j∉(lv m ow).map (·.1)/\Reach m ((lv m ow).map (·.1)) b j
 | 0,n,k0,_,_,⟨N,h1,h2,_⟩=>by omega
 | f+1,n,k0,hk,ht,⟨N,h1,h2,hN⟩=>by
  have hi:=wN m b n
  have hre:runEnd m (lp m b n).1<=m:=by unfold runEnd;split<;>omega
  have hri:(lp m b n).1<=runEnd m (lp m b n).1:=by unfold runEnd;split<;>omega
  unfold P2
  cases z:(NF (runEnd m (lp m b n).1+1 - (lp m b n).1)).find? fun k=>(ow.getD ((lp m b n).1+k) (some 0)).isNone with
  | some r=>
   rw [R0] at z
   obtain ⟨z1,z2,z3⟩:=z
   rw [NV] at z2
   refine ⟨(lp m b n).1+r,rfl,by omega,fun q=>?_,k0+r,by rw [lY hk r (by omega)],fun k' hk'=>?_⟩
   ·rw [o.taken (by omega)] at q
    rw [q] at z1;cases z1
   ·rcases Pq k' k0 with y|y
    ·exact ht k' y
    ·obtain ⟨d,rfl⟩:=Sf y
     rw [lY hk d (by omega)]
     show (lp m b n).1+d∈_
     rw [o.taken (by omega)]
     have:=z3 d (by omega)
     simpa using this
  | none=>
   rw [List.find?_range_eq_none] at z
   have tk:∀ r,r<runEnd m (lp m b n).1+1 - (lp m b n).1->(lp m b n).1+r∈(lv m ow).map (·.1):=fun r hr=>by
    rw [o.taken (by omega)]
    have:=z r hr
    simpa using this
   have ne:N≠n:=fun e=>hN (by rw [e];exact tk 0 (by omega))
   refine Ow.free o f (n+1) _ (DU hk) (fun k' hk'=>?_) ⟨N,by omega,by omega,hN⟩
   rcases Pq k' k0 with y|y
   ·exact ht k' y
   ·obtain ⟨d,rfl⟩:=Sf y
    rw [lY hk d (by omega)]
    exact tk d (by omega)
theorem Ow.step (o:Ow m ds ow)(hc:j4 m=true)(hl:ds.length<=m)(h:Int):∃ j,P2 m ow (turns m) (bits h % (m+1)) (bits h)=some j/\Ow m (ds++[h]) (ow.setIfInBounds j (some ds.length)):=by
 obtain ⟨g,hg,hgn⟩:=DY (m:=m) (S:=(lv m ow).map (·.1)) (by rw [MZ,o.count];exact hl)
 obtain ⟨N,hN,eN⟩:=DX hc (D0 h) hg
 obtain ⟨j,e,hj,hjn,hr⟩:=o.free (b:=bits h) (turns m) 0 0 rfl (fun k' z=>absurd z (OO _)) ⟨N,Ou _,by unfold turns;omega,by rw [eN];exact hgn⟩
 have hjs:j<ow.size:=by rw [o.size];omega
 have get:∀ k,(ow.setIfInBounds j (some ds.length)).getD k none=if k=j then some ds.length else ow.getD k none:=fun k=>by
  by_cases q:k=j
  ·subst q;simp [OT,hjs]
  ·rw [if_neg q]
   simp [OT]
   split
   ·rw [Array.getElem_setIfInBounds]
    rw [if_neg (OU q)]
   ·rfl
 have was:ow.getD j none=none:=by
  cases z:ow.getD j none with
  | none=>rfl
  | some i=>exact absurd (NG.mpr ⟨(j,i),mem_lv.mpr ⟨hj,z⟩,rfl⟩) hjn
 have sub:∀ y,y∈(lv m ow).map (·.1)->y∈(lv m (ow.setIfInBounds j (some ds.length))).map (·.1):=fun y hy=>by
  obtain ⟨⟨a,i⟩,q,rfl⟩:=NG.mp hy
  have q2:=mem_lv.mp q
  refine NG.mpr ⟨(a,i),mem_lv.mpr ⟨q2.1,?_⟩,rfl⟩
  rw [get,if_neg (fun z=>by rw [z,was] at q2;cases q2.2)]
  exact q2.2
 refine ⟨j,e,⟨by rw [Array.size_setIfInBounds];exact o.size,fun k i hk=>?_,fun i hi=>?_,fun k k' i h1 h2=>?_,fun k i hk=>?_⟩⟩
 ·rw [get] at hk
  rw [Nk,PK]
  by_cases q:k=j
  ·rw [if_pos q] at hk;cases hk;omega
  ·rw [if_neg q] at hk;have:=o.lt k i hk;omega
 ·rw [Nk,PK] at hi
  by_cases q:i=ds.length
  ·exact ⟨j,by rw [get,if_pos rfl,q]⟩
  ·obtain ⟨k,hk⟩:=o.all i (by omega)
   exact ⟨k,by rw [get,if_neg (fun z=>by rw [z,was] at hk;cases hk)];exact hk⟩
 ·rw [get] at h1 h2
  by_cases q:k=j
  ·by_cases q':k'=j
   ·rw [q,q']
   ·rw [if_pos q] at h1;rw [if_neg q'] at h2
    cases h1;exact absurd (o.lt k' _ h2) (Oe _)
  ·by_cases q':k'=j
   ·rw [if_neg q] at h1;rw [if_pos q'] at h2
    cases h2;exact absurd (o.lt k _ h1) (Oe _)
   ·rw [if_neg q] at h1;rw [if_neg q'] at h2
    exact o.inj k k' i h1 h2
 ·rw [get] at hk
  by_cases q:k=j
  ·rw [if_pos q] at hk;cases hk
   rw [q]
   have:(ds++[h]).getD ds.length 0=h:=by simp [O7]
   rw [this]
   exact hr.mono sub
  ·rw [if_neg q] at hk
   have hi:=o.lt k i hk
   have:(ds++[h]).getD i 0=ds.getD i 0:=by simp [O7,NB hi]
   rw [this]
   exact (o.road k i hk).mono sub
end
theorem Ow.nil (m:Nat):Ow m [] (RB (m+1) none):=by
 have e:∀ j,(RB (m+1) (none:Option Nat)).getD j none=none:=fun j=>by
  simp [OT]
 have no:∀ {P:Prop}(j i:Nat),(RB (m+1) (none:Option Nat)).getD j none=some i->P:=fun j i h=>by
  rw [e] at h;exact nomatch h
 exact ⟨by simp,fun j i h=>no j i h,fun i h=>absurd h (OO _),fun j j' i h _=>no j i h,fun j i h=>no j i h⟩
end Tb
end L3
namespace L3
open PySem
open PySem.SetTable (Probe Met Slot bits runEnd leap turns insertAt sizeAbove)
namespace Tb
section
variable {prog:Nz}{w:NP}{K:Type} [DecidableEq K] {knd:KeyKind prog w K}{A:NM}{E:M0->M4->Prop}{s:M4}
theorem fits_of {t:QC}{R:List j5}{es:Array (Int×M0)}(o:Ok t R)(he:es.toList=R.map (·.2)):t.fits es.size=true:=by
 have h1:es.size=R.length:=by simpa using congrArg Ph he
 have h2:=o.room
 unfold SetTable.fits SetTable.fill
 rw [o.size,h1,o.dum]
 simp;exact h2
end
section
variable {prog:Nz}{w:NP}{A:NM}{E:M0->M4->Prop}{s:M4}
noncomputable abbrev El:=List Int×Addr
noncomputable def D3 (k:List Int):Int:=reduceHash (UW (k.map hashInt))
noncomputable def D4 (p:El):Int×M0:=(D3 p.1,PJ p.2)
noncomputable def Msk (m:Nat):Prop:=m=7\/m=31\/m=127\/m=511
theorem Msk.cov {m:Nat}(h:Msk m):j4 m=true:=by
 rcases h with rfl|rfl|rfl|rfl<;>decide +kernel
theorem Msk.odd {m:Nat}(h:Msk m):m % 2=1:=by
 rcases h with rfl|rfl|rfl|rfl<;>rfl
noncomputable def qK (w:NP):Bool:=w.params.followText "set-order"
noncomputable def wR (led:Bool)(L:List El)(o:OE):Prop:=∃ es ep t R,o.ExactSet/\o.data=.set es ep t/\es.toList=R.map (·.2)/\Ok t R/\es.toList.Perm (L.map D4)/\(L.map (·.1)).Nodup/\Msk t.mask/\L.length * 5<t.mask * 3/\t.plain=true/\t.led=led
noncomputable def SObj (L:List El)(o:OE):Prop:=∃ led,wR led L o
noncomputable def u1 (prog:Nz)(w:NP)(h:N6)(a:Addr)(L:List El):Prop:=∃ o,h.get? a=some o/\wR (!qK w) L o/\∀ p∈L,IsTupleKey (intKind prog w) h p.1 p.2
end
end Tb
end L3
namespace L3
open PySem
namespace Tb
noncomputable def D5 (w:NP)(t:QC):Nat->Nat
 | 0=>0
 | i+1=>if qK w then 0 else t.place.getD i 0+1
section
variable {prog:Nz}{w:NP}{A:NM}{E:M0->M4->Prop}{s:M4}
noncomputable def SIt (w:NP)(h:N6)(I a:Addr)(t:QC)(i n ep:Nat):Prop:=∃ o,h.get? I=some o/\o.cls=.type "set_iterator"/\o.data=.fields #[Uh (D5 w t i),Uh i,.ref a,Uh n,Uh ep]
theorem SIt.ty {I a:Addr}{t:QC}{i n ep:Nat}(x:SIt w s.heap I a t i n ep):s.TypeIs (.ref I) "set_iterator":=let ⟨o,ho,hc,_⟩:=x;⟨o,ho,hc⟩
structure SAt (w:NP)(h:N6)(a:Addr)(es:Array (Int×M0))(ep:Nat)(t:QC)(R:List j5):Prop where
 at_:∃ o,h.get? a=some o/\o.cls=.type "set"/\o.data=.set es ep t
 he:es.toList=R.map (·.2)
 ok:Ok t R
 pl:t.plain=true
 led:t.led = !qK w
theorem SAt.ty {a:Addr}{es:Array (Int×M0)}{ep:Nat}{t:QC}{R:List j5}(x:SAt w s.heap a es ep t R):s.TypeIs (.ref a) "set":=let ⟨o,ho,hc,_⟩:=x.at_;⟨o,ho,hc⟩
end
end Tb
end L3
namespace L3
open PySem L2
inductive D where
 | non|bl (b:Bool)|int (i:Int)|str (x:Str)|tup (xs:List D)|rol (xs:List D)|loc (a:Nat)|ty (n:String)
 deriving Inhabited
inductive C where
 | lst (xs:List D)
 | dK (kvs:List (aF×D))
 | st (ks:List (List Int))
 deriving Inhabited
noncomputable abbrev Hm:=List C
noncomputable abbrev aJ:=List (Option D)
noncomputable abbrev ME:=aJ->Hm->Option (D×Hm)
noncomputable abbrev MT:=aJ->Hm->Option (Bool×Hm)
noncomputable abbrev MA:=aJ->Hm->Option (List D×Hm)
inductive Fl where
 | nx|rt (d:D)|bk|ct
noncomputable abbrev MS:=aJ->Hm->Option (Fl×aJ×Hm)
noncomputable abbrev MF:=List D->Hm->Option (D×Hm)
noncomputable def RoL (K:MX)(H:Hp)(p:Addr)(xs:List V):Prop:=
 (∃ o,H p=some (.frz o (.lst xs))) \/
  ∃ (o:OE)(its:Array M0)(n:Nat),K.lookup p=some o/\o.cls=.type "list"/\o.dict=none/\o.data=.seq its n/\its.size<=Nd/\Vals xs its.toList
theorem RoL.sq {K:MX}{H:Hp}{p:Addr}{xs:List V}(h:RoL K H p xs):SqL K H p xs:=by
 rcases h with ⟨o,h⟩|h
 ·exact .inl (.inr ⟨o,h⟩)
 ·exact .inr h
mutual
inductive IsD (K:MX)(π:Nat->Addr)(n:Nat)(H:Hp):V->D->Prop where
 | non:IsD K π n H .non .non
 | bl (b:Bool):IsD K π n H (.bl b) (.bl b)
 | int (i:Int):IsD K π n H (.int i) (.int i)
 | str (x:Str):IsD K π n H (.str x) (.str x)
 | tup {p:Addr}{vs:List V}{ds:List D}(h:SqT K H p vs)(t:IsDs K π n H vs ds):IsD K π n H (.ref p) (.tup ds)
 | rol {p:Addr}{vs:List V}{ds:List D}(h:RoL K H p vs)(t:IsDs K π n H vs ds):IsD K π n H (.ref p) (.rol ds)
 | loc {a:Nat}(h:a<n):IsD K π n H (.ref (π a)) (.loc a)
 | ty (x:String):IsD K π n H (.ty x) (.ty x)
inductive IsDs (K:MX)(π:Nat->Addr)(n:Nat)(H:Hp):List V->List D->Prop where
 | nil:IsDs K π n H [] []
 | cons {v:V}{d:D}{vs:List V}{ds:List D}(h:IsD K π n H v d)(t:IsDs K π n H vs ds):IsDs K π n H (v::vs) (d::ds)
end
structure Ext (π:Nat->Addr)(n:Nat)(H:Hp)(π':Nat->Addr)(n':Nat)(H':Hp):Prop where
 le:n<=n'
 pi:∀ a,a<n->π' a=π a
 tup:∀ p vs,H p=some (.tup vs)->H' p=some (.tup vs)
 frz:∀ p o u,H p=some (.frz o u)->H' p=some (.frz o u)
structure Ext0 (π:Nat->Addr)(n:Nat)(H:Hp)(π':Nat->Addr)(n':Nat)(H':Hp):Prop where
 le:n<=n'
 pi:∀ a,a<n->π' a=π a
 tup:∀ p vs,H p=some (.tup vs)->H' p=some (.tup vs)
 frz:∀ p o u,(∀ φ,u≠HO.ext φ)->H p=some (.frz o u)->H' p=some (.frz o u)
section
variable {K:MX}{π π' π2:Nat->Addr}{n n' n2:Nat}{H H' H2:Hp}
theorem Ext.weak (e:Ext π n H π' n' H'):Ext0 π n H π' n' H':=⟨e.le,e.pi,e.tup,fun p o u _ h=>e.frz p o u h⟩
theorem Ext.refl:Ext π n H π n H:=⟨Ni _,fun _ _=>rfl,fun _ _ h=>h,fun _ _ _ h=>h⟩
theorem Ext.trans (a:Ext π n H π' n' H')(b:Ext π' n' H' π2 n2 H2):Ext π n H π2 n2 H2:=
 ⟨N9 a.le b.le,fun i h=>(b.pi i (Ny h a.le)).trans (a.pi i h),fun p vs h=>b.tup p vs (a.tup p vs h),fun p o u h=>b.frz p o u (a.frz p o u h)⟩
theorem Ext0.sqT (e:Ext0 π n H π' n' H'){p:Addr}{vs:List V}(h:SqT K H p vs):SqT K H' p vs:=by
 rcases h with h|h
 ·rcases h with h|⟨o,h⟩
  ·exact .inl (.inl (e.tup _ _ h))
  ·exact .inl (.inr ⟨o,e.frz _ _ _ (fun _ z=>nomatch z) h⟩)
 ·exact .inr h
theorem Ext.sqT (e:Ext π n H π' n' H'){p:Addr}{vs:List V}(h:SqT K H p vs):SqT K H' p vs:=e.weak.sqT h
theorem Ext0.roL (e:Ext0 π n H π' n' H'){p:Addr}{vs:List V}(h:RoL K H p vs):RoL K H' p vs:=by
 rcases h with ⟨o,h⟩|h
 ·exact .inl ⟨o,e.frz _ _ _ (fun _ z=>nomatch z) h⟩
 ·exact .inr h
theorem Ext.roL (e:Ext π n H π' n' H'){p:Addr}{vs:List V}(h:RoL K H p vs):RoL K H' p vs:=e.weak.roL h
mutual
theorem IsD.mono0 {v:V}{d:D}(e:Ext0 π n H π' n' H'):IsD K π n H v d->IsD K π' n' H' v d
 | .non=>.non
 | .bl b=>.bl b
 | .int i=>.int i
 | .str x=>.str x
 | .ty x=>.ty x
 | .tup h t=>.tup (e.sqT h) (IsDs.mono0 e t)
 | .rol h t=>.rol (e.roL h) (IsDs.mono0 e t)
 | .loc h=>by
  rw [<- e.pi _ h]
  exact .loc (Ny h e.le)
theorem IsDs.mono0 {vs:List V}{ds:List D}(e:Ext0 π n H π' n' H'):IsDs K π n H vs ds->IsDs K π' n' H' vs ds
 | .nil=>.nil
 | .cons h t=>.cons (IsD.mono0 e h) (IsDs.mono0 e t)
end
theorem IsD.mono {v:V}{d:D}(e:Ext π n H π' n' H')(h:IsD K π n H v d):IsD K π' n' H' v d:=h.mono0 e.weak
theorem IsDs.mono {vs:List V}{ds:List D}(e:Ext π n H π' n' H')(h:IsDs K π n H vs ds):IsDs K π' n' H' vs ds:=h.mono0 e.weak
theorem IsDs.length {vs:List V}{ds:List D}(h:IsDs K π n H vs ds):vs.length=ds.length:=by
 induction ds generalizing vs with
 | nil=>cases h;rfl
 | cons d ds ih=>
  cases h with
  | cons h t=>rw [Na,Na,ih t]
theorem IsDs.get {vs:List V}{ds:List D}(h:IsDs K π n H vs ds){i:Nat}{d:D}(e:ds[i]? = some d):∃ v,vs[i]? = some v/\IsD K π n H v d:=by
 induction ds generalizing vs i with
 | nil=>simp at e
 | cons d' ds ih=>
  cases h with
  | cons h t=>
   cases i with
   | zero=>
    simp at e
    subst e
    exact ⟨_,rfl,h⟩
   | succ i=>
    obtain ⟨v,h1,h2⟩:=ih t (by simpa using e)
    exact ⟨v,by simpa using h1,h2⟩
theorem IsDs.append {vs ws:List V}{ds es:List D}(h:IsDs K π n H vs ds)(h2:IsDs K π n H ws es):IsDs K π n H (vs++ws) (ds++es):=by
 induction ds generalizing vs with
 | nil=>cases h;exact h2
 | cons d ds ih=>
  cases h with
  | cons h t=>exact .cons h (ih t)
theorem IsDs.drop {vs:List V}{ds:List D}(h:IsDs K π n H vs ds)(k:Nat):IsDs K π n H (vs.drop k) (ds.drop k):=by
 induction ds generalizing vs k with
 | nil=>cases h;simpa using IsDs.nil
 | cons d ds ih=>
  cases h with
  | cons h t=>
   cases k with
   | zero=>exact .cons h t
   | succ k=>exact ih t k
theorem IsDs.take {vs:List V}{ds:List D}(h:IsDs K π n H vs ds)(k:Nat):IsDs K π n H (vs.take k) (ds.take k):=by
 induction ds generalizing vs k with
 | nil=>cases h;simpa using IsDs.nil
 | cons d ds ih=>
  cases h with
  | cons h t=>
   cases k with
   | zero=>exact .nil
   | succ k=>exact .cons h (ih t k)
theorem IsDs.atI {vs:List V}{ds:List D}(h:IsDs K π n H vs ds){i:Int}{d:D}(e:L2.atI ds i=some d):∃ v,L2.atI vs i=some v/\IsD K π n H v d:=by
 unfold L2.atI at e ⊢
 rw [h.length]
 cases q:dS ds.length i with
 | none=>rw [q] at e;cases e
 | some j=>
  rw [q] at e
  exact h.get e
end
noncomputable def nN (p:Addr)(L:List Tb.El):HO:=.ext fun h=>∃ o,h.get? p=some o/\Tb.SObj L o
structure Rp (K:MX)(π:Nat->Addr)(H:Hp)(μ:Hm):Prop where
 inj:∀ a b,a<μ.length->b<μ.length->π a=π b->a=b
 has:∀ a,a<μ.length->(H (π a)).isSome=true
 lst:∀ a xs,μ[a]? = some (.lst xs)->∃ vs,H (π a)=some (.lst vs)/\IsDs K π μ.length H vs xs
 dK:∀ a kvs,μ[a]? = some (.dK kvs)->∃ vs,H (π a)=some (.dK vs)/\vs.map (·.1)=kvs.map (·.1)/\IsDs K π μ.length H (vs.map (·.2)) (kvs.map (·.2))
 st:∀ a ks,μ[a]? = some (.st ks)->∃ L:List Tb.El,H (π a)=some (nN (π a) L)/\L.map (·.1)=ks/\IsDs K π μ.length H (L.map fun p=>V.ref p.2) (ks.map fun k=>D.tup (k.map D.int))
structure En (K:MX)(π:Nat->Addr)(n:Nat)(H:Hp)(σ:St)(ρ:aJ):Prop where
 len:σ.length=ρ.length
 get:∀ (i:Nat)(d:D),ρ[i]? = some (some d)->∃ v,σ[i]? = some (some v)/\IsD K π n H v d
section
variable {K:MX}{π π' π2:Nat->Addr}{n n' n2:Nat}{H H' H2:Hp}{μ μ':Hm}{σ:St}{ρ:aJ}
theorem En.mono (E:En K π n H σ ρ)(e:Ext π n H π' n' H'):En K π' n' H' σ ρ:=
 ⟨E.len,fun i d h=>let ⟨v,h1,h2⟩:=E.get i d h;⟨v,h1,h2.mono e⟩⟩
theorem En.set (E:En K π n H σ ρ){v:V}{d:D}(h:IsD K π n H v d)(i:Nat):En K π n H (σ.set i (some v)) (ρ.set i (some d)):=by
 refine ⟨by rw [Oy,Oy];exact E.len,fun j d' e=>?_⟩
 rw [List.getElem?_set] at e ⊢
 by_cases hij:i=j
 ·subst hij
  rw [if_pos rfl] at e ⊢
  rw [E.len]
  by_cases hl:i<ρ.length
  ·rw [if_pos hl] at e ⊢
   cases e
   exact ⟨v,rfl,h⟩
  ·rw [if_neg hl] at e
   cases e
 ·rw [if_neg hij] at e ⊢
  exact E.get j d' e
theorem Rp.ne {p:Addr}(R:Rp K π H μ)(h:H p=none){a:Nat}(ha:a<μ.length):π a≠p:=fun e=>by
 have:=R.has a ha
 rw [e,h] at this
 cases this
theorem Rp.fresh {p:Addr}{o:HO}(R:Rp K π H μ)(h:H p=none):Ext π μ.length H π μ.length (aV H p o)/\Rp K π (aV H p o) μ:=by
 have keep:∀ b u,H b=some u->aV H p o b=some u:=fun b u e=>by
  rw [bS (eL e h)]
  exact e
 have e:Ext π μ.length H π μ.length (aV H p o):=⟨Ni _,fun _ _=>rfl,fun q vs e=>keep q _ e,fun q o u e=>keep q _ e⟩
 refine ⟨e,R.inj,fun a ha=>?_,fun a xs ha=>?_,fun a kvs ha=>?_,fun a ks ha=>?_
  ⟩
 ·rw [bS (R.ne h ha)]
  exact R.has a ha
 ·obtain ⟨vs,h1,h2⟩:=R.lst a xs ha
  exact ⟨vs,keep _ _ h1,h2.mono e⟩
 ·obtain ⟨vs,h1,h2,h3⟩:=R.dK a kvs ha
  exact ⟨vs,keep _ _ h1,h2,h3.mono e⟩
 ·obtain ⟨vs,h1,h2,h3⟩:=R.st a ks ha
  exact ⟨vs,keep _ _ h1,h2,h3.mono e⟩
noncomputable def qL (K:MX)(π:Nat->Addr)(n:Nat)(H:Hp)(p:Addr):C->HO->Prop
 | .lst xs,.lst vs=>IsDs K π n H vs xs
 | .dK kvs,.dK vs=>vs.map (·.1)=kvs.map (·.1)/\IsDs K π n H (vs.map (·.2)) (kvs.map (·.2))
 | .st ks,o=>∃ L:List Tb.El,o=nN p L/\L.map (·.1)=ks/\IsDs K π n H (L.map fun p=>V.ref p.2) (ks.map fun k=>D.tup (k.map D.int))
 | _,_=>False
noncomputable def eU (π:Nat->Addr)(n:Nat)(p:Addr):Nat->Addr:=fun a=>if a=n then p else π a
theorem Rp.alloc {p:Addr}{c:C}{o:HO}(R:Rp K π H μ)(h:H p=none)(hc:qL K π μ.length H p c o) :
  Ext π μ.length H (eU π μ.length p) (μ++[c]).length (aV H p o)/\Rp K (eU π μ.length p) (aV H p o) (μ++[c])/\eU π μ.length p μ.length=p:=by
 have hl:(μ++[c]).length=μ.length+1:=by simp
 have keep:∀ b u,H b=some u->aV H p o b=some u:=fun b u e=>by
  rw [bS (eL e h)]
  exact e
 have pn:eU π μ.length p μ.length=p:=if_pos rfl
 have po:∀ a,a<μ.length->eU π μ.length p a=π a:=fun a ha=>if_neg (Nr ha)
 have e:Ext π μ.length H (eU π μ.length p) (μ++[c]).length (aV H p o):=⟨by rw [hl];exact P4 _,po,fun q vs e=>keep q _ e,fun q o u e=>keep q _ e⟩
 have split:∀ a,a<(μ++[c]).length->a<μ.length\/a=μ.length:=fun a ha=>by rw [hl] at ha;omega
 have get:∀ a,a<μ.length->(μ++[c])[a]? = μ[a]?:=fun a ha=>NB ha
 have getn:(μ++[c])[μ.length]? = some c:=by simp
 refine ⟨e,⟨fun a b ha hb q=>?_,fun a ha=>?_,fun a xs ha=>?_,fun a kvs ha=>?_,fun a ks ha=>?_
  ⟩,pn⟩
 ·rcases split a ha with ha|rfl<;>rcases split b hb with hb|rfl
  ·rw [po a ha,po b hb] at q
   exact R.inj a b ha hb q
  ·rw [po a ha,pn] at q
   exact absurd q (R.ne h ha)
  ·rw [pn,po b hb] at q
   exact absurd q.symm (R.ne h hb)
  ·rfl
 ·rcases split a ha with ha|rfl
  ·rw [po a ha,bS (R.ne h ha)]
   exact R.has a ha
  ·rw [pn,eB]
   rfl
 ·have hlt:a<(μ++[c]).length:=(Ng.mp ha).1
  rcases split a hlt with h1|rfl
  ·rw [get a h1] at ha
   obtain ⟨vs,h2,h3⟩:=R.lst a xs ha
   rw [po a h1]
   exact ⟨vs,keep _ _ h2,h3.mono e⟩
  ·rw [getn] at ha
   cases ha
   cases o with
   | lst vs=>
    rw [pn]
    exact ⟨vs,eB,IsDs.mono e hc⟩
   | _=>exact Ov hc
 ·have hlt:a<(μ++[c]).length:=(Ng.mp ha).1
  rcases split a hlt with h1|rfl
  ·rw [get a h1] at ha
   obtain ⟨vs,h2,h3,h4⟩:=R.dK a kvs ha
   rw [po a h1]
   exact ⟨vs,keep _ _ h2,h3,h4.mono e⟩
  ·rw [getn] at ha
   cases ha
   cases o with
   | dK vs=>
    rw [pn]
    exact ⟨vs,eB,hc.1,IsDs.mono e hc.2⟩
   | _=>exact Ov hc
 ·have hlt:a<(μ++[c]).length:=(Ng.mp ha).1
  rcases split a hlt with h1|rfl
  ·rw [get a h1] at ha
   obtain ⟨vs,h2,h3,h4⟩:=R.st a ks ha
   rw [po a h1]
   exact ⟨vs,keep _ _ h2,h3,h4.mono e⟩
  ·rw [getn] at ha
   cases ha
   obtain ⟨L,rfl,h3,h4⟩:=hc
   rw [pn]
   exact ⟨L,eB,h3,h4.mono e⟩
theorem Rp.put0 {a:Nat}{c:C}{o u:HO}(R:Rp K π H μ)(ha:a<μ.length)(ho:H (π a)=some u)(hu:(∃ vs,u=.lst vs)\/(∃ vs,u=.dK vs)\/(∃ φ,u=.ext φ)\/∃ ob φ,u=.frz ob (.ext φ))(hc:qL K π μ.length H (π a) c o) :
  Ext0 π μ.length H π (μ.set a c).length (aV H (π a) o)/\Rp K π (aV H (π a) o) (μ.set a c):=by
 have hl:(μ.set a c).length=μ.length:=Oy ..
 have e:Ext0 π μ.length H π (μ.set a c).length (aV H (π a) o):=by
  refine ⟨PF hl.symm,fun _ _=>rfl,fun q vs z=>?_,fun q o' u' nx z=>?_⟩
  ·rw [bS]
   ·exact z
   ·intro e
    subst e
    rw [ho] at z
    rcases hu with ⟨w,rfl⟩|⟨w,rfl⟩|⟨w,rfl⟩|⟨ob,w,rfl⟩<;>cases z
  ·rw [bS]
   ·exact z
   ·intro e
    subst e
    rw [ho] at z
    rcases hu with ⟨w,rfl⟩|⟨w,rfl⟩|⟨w,rfl⟩|⟨ob,w,rfl⟩<;>cases z
    exact nx _ rfl
 have other:∀ b,b<μ.length->b≠a->aV H (π a) o (π b)=H (π b):=fun b hb hne=>bS fun q=>hne (R.inj b a hb ha q)
 refine ⟨e,⟨fun b b' hb hb'=>R.inj b b' (hl ▸ hb) (hl ▸ hb'),fun b hb=>?_,fun b xs hb=>?_,fun b kvs hb=>?_,fun b ks hb=>?_
  ⟩⟩
 ·by_cases h:b=a
  ·subst h
   rw [eB]
   rfl
  ·rw [other b (hl ▸ hb) h]
   exact R.has b (hl ▸ hb)
 ·have hlt:b<μ.length:=hl ▸ (Ng.mp hb).1
  by_cases h:b=a
  ·subst h
   rw [NR hlt] at hb
   cases hb
   cases o with
   | lst vs=>exact ⟨vs,eB,IsDs.mono0 e hc⟩
   | _=>exact Ov hc
  ·rw [OR (OU h)] at hb
   obtain ⟨vs,h2,h3⟩:=R.lst b xs hb
   exact ⟨vs,by rw [other b hlt h];exact h2,h3.mono0 e⟩
 ·have hlt:b<μ.length:=hl ▸ (Ng.mp hb).1
  by_cases h:b=a
  ·subst h
   rw [NR hlt] at hb
   cases hb
   cases o with
   | dK vs=>exact ⟨vs,eB,hc.1,IsDs.mono0 e hc.2⟩
   | _=>exact Ov hc
  ·rw [OR (OU h)] at hb
   obtain ⟨vs,h2,h3,h4⟩:=R.dK b kvs hb
   exact ⟨vs,by rw [other b hlt h];exact h2,h3,h4.mono0 e⟩
 ·have hlt:b<μ.length:=hl ▸ (Ng.mp hb).1
  by_cases h:b=a
  ·subst h
   rw [NR hlt] at hb
   cases hb
   obtain ⟨L,rfl,h3,h4⟩:=hc
   exact ⟨L,eB,h3,h4.mono0 e⟩
  ·rw [OR (OU h)] at hb
   obtain ⟨vs,h2,h3,h4⟩:=R.st b ks hb
   exact ⟨vs,by rw [other b hlt h];exact h2,h3,h4.mono0 e⟩
theorem Rp.put {a:Nat}{c:C}{o u:HO}(R:Rp K π H μ)(ha:a<μ.length)(ho:H (π a)=some u)(hu:(∃ vs,u=.lst vs)\/(∃ vs,u=.dK vs)\/∃ φ,u=.ext φ)(hc:qL K π μ.length H (π a) c o) :
  Ext π μ.length H π (μ.set a c).length (aV H (π a) o)/\Rp K π (aV H (π a) o) (μ.set a c):=by
 have hl:(μ.set a c).length=μ.length:=Oy ..
 have e:Ext π μ.length H π (μ.set a c).length (aV H (π a) o):=by
  refine ⟨PF hl.symm,fun _ _=>rfl,fun q vs z=>?_,fun q o' u' z=>?_⟩
  ·rw [bS]
   ·exact z
   ·intro e
    subst e
    rw [ho] at z
    rcases hu with ⟨w,rfl⟩|⟨w,rfl⟩|⟨w,rfl⟩<;>cases z
  ·rw [bS]
   ·exact z
   ·intro e
    subst e
    rw [ho] at z
    rcases hu with ⟨w,rfl⟩|⟨w,rfl⟩|⟨w,rfl⟩<;>cases z
 exact ⟨e,(R.put0 ha ho (hu.imp_right fun h=>h.imp_right .inl) hc).2⟩
end
noncomputable def KC (K:MX)(Q:VK)(π:Nat->Addr)(n:Nat)(H:Hp)(d:D)(μ':Hm):Prop:=
 ∀ π' v H',Ext π n H π' μ'.length H'->Rp K π' H' μ'->IsD K π' μ'.length H' v d->Q v H'
theorem KC.after {K:MX}{Q:VK}{π π1:Nat->Addr}{n n1:Nat}{H H1:Hp}{d:D}{μ':Hm}(k:KC K Q π n H d μ')(e:Ext π n H π1 n1 H1):KC K Q π1 n1 H1 d μ':=
 fun π' v H' e' R i=>k π' v H' (e.trans e') R i
noncomputable def tM (K:MX)(m:ME):TE:=fun σ H Q=>∃ π ρ μ d μ',Rp K π H μ/\En K π μ.length H σ ρ/\m ρ μ=some (d,μ')/\KC K Q π μ.length H d μ'
noncomputable def cD (K:MX)(m:MT):TT:=fun σ H Q=>∃ π ρ μ b μ',Rp K π H μ/\En K π μ.length H σ ρ/\m ρ μ=some (b,μ')/\∀ π' H',Ext π μ.length H π' μ'.length H'->Rp K π' H' μ'->Q b H'
noncomputable def dO (K:MX)(m:MA):TA:=fun σ H Q=>∃ π ρ μ ds μ',Rp K π H μ/\En K π μ.length H σ ρ/\m ρ μ=some (ds,μ')/\∀ π' vs H',Ext π μ.length H π' μ'.length H'->Rp K π' H' μ'->IsDs K π' μ'.length H' vs ds->Q vs H'
noncomputable def i8 (K:MX)(E:Ends)(π:Nat->Addr)(n:Nat)(H:Hp)(fl:Fl)(ρ':aJ)(μ':Hm):Prop:=
 match fl with
 | .nx=>∀ π' σ' H',Ext π n H π' μ'.length H'->Rp K π' H' μ'->En K π' μ'.length H' σ' ρ'->E.nx σ' H'
 | .bk=>∀ π' σ' H',Ext π n H π' μ'.length H'->Rp K π' H' μ'->En K π' μ'.length H' σ' ρ'->E.bk σ' H'
 | .ct=>∀ π' σ' H',Ext π n H π' μ'.length H'->Rp K π' H' μ'->En K π' μ'.length H' σ' ρ'->E.ct σ' H'
 | .rt d=>KC K E.rt π n H d μ'
noncomputable def cI (K:MX)(m:MS):TS:=fun E σ H=>∃ π ρ μ fl ρ' μ',Rp K π H μ/\En K π μ.length H σ ρ/\m ρ μ=some (fl,ρ',μ')/\i8 K E π μ.length H fl ρ' μ'
noncomputable def fY (K:MX)(k:Nat)(f:MF):Sp:=fun vs H Q _=>vs.length=k/\∃ π ds μ d μ',Rp K π H μ/\IsDs K π μ.length H vs ds/\f ds μ=some (d,μ')/\KC K Q π μ.length H d μ'
section
variable {X:Cx}{e a b c:M5}{t:TE}{m ma mb mc:ME}{pos:Om}
theorem cJ (h:PE X e t)(hw:∀ σ H Q,tM X.K m σ H Q->t σ H Q):PE X e (tM X.K m):=fun Vq s σ H Q I q=>h Vq s σ H Q I (hw σ H Q q)
theorem qM {t:TT}{m:MT}(h:PT X e t)(hw:∀ σ H Q,cD X.K m σ H Q->t σ H Q):PT X e (cD X.K m):=fun Vq s σ H Q I q=>h Vq s σ H Q I (hw σ H Q q)
theorem wU {t:TT}{m:MT}(h:PW X e t)(hw:∀ σ H Q,cD X.K m σ H Q->t σ H Q):PW X e (cD X.K m):=fun wh Vq s σ H Q I q=>h wh Vq s σ H Q I (hw σ H Q q)
theorem wV {es:List M5}{t:TA}{m:MA}(h:PA X es t)(hw:∀ σ H Q,dO X.K m σ H Q->t σ H Q):PA X es (dO X.K m):=fun p Vq s σ H Q I q=>h p Vq s σ H Q I (hw σ H Q q)
theorem fK {st:Stmt}{t:TS}{m:MS}(h:PS X st t)(hw:∀ E σ H,cI X.K m E σ H->t E σ H):PS X st (cI X.K m):=fun Vq s σ H E I q=>h Vq s σ H E I (hw E σ H q)
theorem wW {st:List Stmt}{t:TS}{m:MS}(h:PSs X st t)(hw:∀ E σ H,cI X.K m E σ H->t E σ H):PSs X st (cI X.K m):=fun Vq s σ H E I q=>h Vq s σ H E I (hw E σ H q)
noncomputable def aB (i:Nat):ME:=fun ρ μ=>match ρ[i]? with|some (some d)=>some (d,μ)|_=>none
noncomputable def mC (d:D):ME:=fun _ μ=>some (d,μ)
theorem D6 {i:Nat}{ρ:aJ}{μ μ':Hm}{d:D}(h:aB i ρ μ=some (d,μ')):ρ[i]? = some (some d)/\μ'=μ:=by
 unfold aB at h
 split at h
 ·rename_i d' e
  cases h
  exact ⟨e,rfl⟩
 ·cases h
theorem D7 {x:Str}(i:Nat)(h:PE X (.Name x pos) (uY i)):PE X (.Name x pos) (tM X.K (aB i)):=cJ h (by
 rintro σ H Q ⟨π,ρ,μ,d,μ',R,E,hm,k⟩
 obtain ⟨h1,rfl⟩:=D6 hm
 obtain ⟨v,h2,h3⟩:=E.get i d h1
 exact ⟨v,h2,k π v H .refl R h3⟩)
theorem j6 {v:V}{d:D}(h:PE X e (tC v))(hd:∀ π n H,IsD X.K π n H v d):PE X e (tM X.K (mC d)):=cJ h (by
 rintro σ H Q ⟨π,ρ,μ,d',μ',R,E,hm,k⟩
 cases hm
 exact k π v H .refl R (hd _ _ _))
theorem D8 {i:Int}{j:Nat}:PE X (.Constant (.int i) j pos) (tM X.K (mC (.int i))):=j6 BI fun _ _ _=>.int i
theorem D9 {i:Bool}{j:Nat}:PE X (.Constant (.bool i) j pos) (tM X.K (mC (.bl i))):=j6 BJ fun _ _ _=>.bl i
theorem Ea {i:Str}{j:Nat}:PE X (.Constant (.str i) j pos) (tM X.K (mC (.str i))):=j6 BL fun _ _ _=>.str i
theorem Eb {j:Nat}:PE X (.Constant .none j pos) (tM X.K (mC .non)):=j6 BK fun _ _ _=>.non
noncomputable def aA (f:D->D->Hm->Option (D×Hm))(a b:ME):ME:=fun ρ μ=>(a ρ μ).bind fun p=>(b ρ p.2).bind fun q=>f p.1 q.1 q.2
noncomputable def cU (K:MX)(f:D->D->Hm->Option (D×Hm))(r:R2):Prop:=
 ∀ π H μ x y d μ' vx vy Q,Rp K π H μ->IsD K π μ.length H vx x->IsD K π μ.length H vy y->f x y μ=some (d,μ')->KC K Q π μ.length H d μ'->r vx vy H Q
theorem l6 {f:D->D->Hm->Option (D×Hm)}{r:R2}{K:MX}(hf:cU K f r):∀ σ H Q,tM K (aA f ma mb) σ H Q->lW r (tM K ma) (tM K mb) σ H Q:=by
 rintro σ H Q ⟨π,ρ,μ,d,μ',R,E,hm,k⟩
 obtain ⟨⟨x,μ1⟩,h1,hm⟩:=MW.mp hm
 obtain ⟨⟨y,μ2⟩,h2,hm⟩:=MW.mp hm
 exact ⟨π,ρ,μ,x,μ1,R,E,h1,fun π1 v1 H1 e1 R1 i1=>⟨π1,ρ,μ1,y,μ2,R1,E.mono e1,h2,fun π2 v2 H2 e2 R2 i2=>hf π2 H2 μ2 x y d μ' v1 v2 Q R2 (i1.mono e2) i2 hm (k.after (e1.trans e2))⟩⟩
theorem Ec {op:Sr}{r:R2}{f:D->D->Hm->Option (D×Hm)}(ho:OpR X (Pd op) r)(hf:cU X.K f r)(ha:PE X a (tM X.K ma))(hb:PE X b (tM X.K mb)):PE X (.BinOp a op b pos) (tM X.K (aA f ma mb)):=
 cJ (CI ho ha hb) (l6 hf)
theorem fZ {op:Rt}{r:R2}{f:D->D->Hm->Option (D×Hm)}(ho:OpR X (OV op) r)(hf:cU X.K f r)(ha:PE X a (tM X.K ma))(hb:PE X b (tM X.K mb))(hm:Qg op b=false):PE X (.Compare a [op] [b] pos) (tM X.K (aA f ma mb)):=
 cJ (CO ho ha hb hm) (l6 hf)
noncomputable def aU (m:ME):MT:=fun ρ μ=>(m ρ μ).bind fun p=>match p.1 with|.bl b=>some (b,p.2)|_=>none
theorem Ed {K:MX}:∀ σ H Q,cD K (aU m) σ H Q->tM K m σ H fun x H'=>∃ k,x=.bl k/\Q k H':=by
 rintro σ H Q ⟨π,ρ,μ,b,μ',R,E,hm,k⟩
 obtain ⟨⟨x,μ1⟩,h1,hm⟩:=MW.mp hm
 cases x with
 | bl c=>
  cases hm
  refine ⟨π,ρ,μ,_,_,R,E,h1,fun π' v H' e' R' i'=>?_⟩
  cases i'
  exact ⟨_,rfl,k π' H' e' R'⟩
 | _=>cases hm
theorem f6 {op:Rt}{r:R2}{f:D->D->Hm->Option (D×Hm)}(ho:OpR X (OV op) r)(hf:cU X.K f r)(ha:PE X a (tM X.K ma))(hb:PE X b (tM X.K mb))(hm:Qg op b=false):PT X (.Compare a [op] [b] pos) (cD X.K (aU (aA f ma mb))):=
 qM (CQ ho ha hb hm) fun σ H Q h=>l6 hf σ H _ (Ed σ H Q h)
end
end L3
namespace L3
open PySem L2
section
variable {X:Cx}{e a b c:M5}{m ma mb mc:ME}{pos:Om}{mt mu:MT}{rest:List M5}
noncomputable def eV (a b:MT):MT:=fun ρ μ=>(a ρ μ).bind fun p=>match p.1 with|true=>b ρ p.2|false=>some (false,p.2)
noncomputable def fL (a b:MT):MT:=fun ρ μ=>(a ρ μ).bind fun p=>match p.1 with|true=>some (true,p.2)|false=>b ρ p.2
noncomputable def iH (a:MT):MT:=fun ρ μ=>(a ρ μ).map fun p=>(!p.1,p.2)
theorem Ee (ha:PT X a (cD X.K mt)):PW X (.BoolOp .And [a] pos) (cD X.K mt):=BR ha
theorem Ef (ha:PT X a (cD X.K mt)):PW X (.BoolOp .Or [a] pos) (cD X.K mt):=BS ha
theorem Eg (ha:PT X a (cD X.K mt))(hb:PW X (.BoolOp .And (b::rest) pos) (cD X.K mu)):PW X (.BoolOp .And (a::b::rest) pos) (cD X.K (eV mt mu)):=wU (BU ha hb) (by
 rintro σ H Q ⟨π,ρ,μ,d,μ',R,E,hm,k⟩
 obtain ⟨⟨x,μ1⟩,h1,hm⟩:=MW.mp hm
 refine ⟨π,ρ,μ,x,μ1,R,E,h1,fun π1 H1 e1 R1=>?_⟩
 cases x with
 | true=>
  refine i5 ?_
  exact ⟨π1,ρ,μ1,d,μ',R1,E.mono e1,hm,fun π2 H2 e2 R2=>k π2 H2 (e1.trans e2) R2⟩
 | false=>
  refine i4 ?_
  cases hm
  exact k π1 H1 e1 R1)
theorem Eh (ha:PT X a (cD X.K mt))(hb:PW X (.BoolOp .Or (b::rest) pos) (cD X.K mu)):PW X (.BoolOp .Or (a::b::rest) pos) (cD X.K (fL mt mu)):=wU (BV ha hb) (by
 rintro σ H Q ⟨π,ρ,μ,d,μ',R,E,hm,k⟩
 obtain ⟨⟨x,μ1⟩,h1,hm⟩:=MW.mp hm
 refine ⟨π,ρ,μ,x,μ1,R,E,h1,fun π1 H1 e1 R1=>?_⟩
 cases x with
 | true=>
  refine i5 ?_
  cases hm
  exact k π1 H1 e1 R1
 | false=>
  refine i4 ?_
  exact ⟨π1,ρ,μ1,d,μ',R1,E.mono e1,hm,fun π2 H2 e2 R2=>k π2 H2 (e1.trans e2) R2⟩)
theorem Ei (ha:PT X a (cD X.K mt)):PT X (.UnaryOp .Not a pos) (cD X.K (iH mt)):=qM (BW ha) (by
 rintro σ H Q ⟨π,ρ,μ,d,μ',R,E,hm,k⟩
 obtain ⟨⟨x,μ1⟩,h1,hm⟩:=M3.mp hm
 cases hm
 exact ⟨π,ρ,μ,x,μ1,R,E,h1,fun π1 H1 e1 R1=>k π1 H1 e1 R1⟩)
noncomputable def fM (a b:ME):ME:=fun ρ μ=>(a ρ μ).bind fun p=>match p.1 with|.bl true=>b ρ p.2|.bl false=>some (.bl false,p.2)|_=>none
noncomputable def qN (a b:ME):ME:=fun ρ μ=>(a ρ μ).bind fun p=>match p.1 with|.bl true=>some (.bl true,p.2)|.bl false=>b ρ p.2|_=>none
noncomputable def j7 (a:ME):ME:=fun ρ μ=>(a ρ μ).bind fun p=>match p.1 with|.bl b=>some (.bl (!b),p.2)|_=>none
theorem Ej {op:BoolOp}(h:PE X a (tM X.K m)):PE X (.BoolOp op [a] pos) (tM X.K m):=B0 h
theorem Ek (ha:PE X a (tM X.K ma))(hb:PE X (.BoolOp .And (b::rest) pos) (tM X.K mb)):PE X (.BoolOp .And (a::b::rest) pos) (tM X.K (fM ma mb)):=cJ (B1 ha hb) (by
 rintro σ H Q ⟨π,ρ,μ,d,μ',R,E,hm,k⟩
 obtain ⟨⟨x,μ1⟩,h1,hm⟩:=MW.mp hm
 cases x with
 | bl c=>
  refine ⟨π,ρ,μ,.bl c,μ1,R,E,h1,fun π1 v1 H1 e1 R1 i1=>?_⟩
  cases i1
  refine ⟨c,rfl,?_⟩
  cases c with
  | true=>
   refine i5 ?_
   exact ⟨π1,ρ,μ1,d,μ',R1,E.mono e1,hm,k.after e1⟩
  | false=>
   refine i4 ?_
   cases hm
   exact k π1 _ H1 e1 R1 (.bl false)
 | _=>cases hm)
theorem Em (ha:PE X a (tM X.K ma))(hb:PE X (.BoolOp .Or (b::rest) pos) (tM X.K mb)):PE X (.BoolOp .Or (a::b::rest) pos) (tM X.K (qN ma mb)):=cJ (B2 ha hb) (by
 rintro σ H Q ⟨π,ρ,μ,d,μ',R,E,hm,k⟩
 obtain ⟨⟨x,μ1⟩,h1,hm⟩:=MW.mp hm
 cases x with
 | bl c=>
  refine ⟨π,ρ,μ,.bl c,μ1,R,E,h1,fun π1 v1 H1 e1 R1 i1=>?_⟩
  cases i1
  refine ⟨c,rfl,?_⟩
  cases c with
  | true=>
   refine i5 ?_
   cases hm
   exact k π1 _ H1 e1 R1 (.bl true)
  | false=>
   refine i4 ?_
   exact ⟨π1,ρ,μ1,d,μ',R1,E.mono e1,hm,k.after e1⟩
 | _=>cases hm)
theorem Eo (ha:PE X a (tM X.K ma)):PE X (.UnaryOp .Not a pos) (tM X.K (j7 ma)):=cJ (B3 ha) (by
 rintro σ H Q ⟨π,ρ,μ,d,μ',R,E,hm,k⟩
 obtain ⟨⟨x,μ1⟩,h1,hm⟩:=MW.mp hm
 cases x with
 | bl c=>
  cases hm
  refine ⟨π,ρ,μ,_,_,R,E,h1,fun π1 v1 H1 e1 R1 i1=>?_⟩
  cases i1
  exact ⟨_,rfl,k π1 _ H1 e1 R1 (.bl _)⟩
 | _=>cases hm)
noncomputable def j8 (t:MT)(a b:ME):ME:=fun ρ μ=>(t ρ μ).bind fun p=>match p.1 with|true=>a ρ p.2|false=>b ρ p.2
theorem Ep (hc:PT X c (cD X.K mt))(ha:PE X a (tM X.K ma))(hb:PE X b (tM X.K mb)):PE X (.IfExp c a b pos) (tM X.K (j8 mt ma mb)):=cJ (B5 hc ha hb) (by
 rintro σ H Q ⟨π,ρ,μ,d,μ',R,E,hm,k⟩
 obtain ⟨⟨x,μ1⟩,h1,hm⟩:=MW.mp hm
 refine ⟨π,ρ,μ,x,μ1,R,E,h1,fun π1 H1 e1 R1=>?_⟩
 cases x with
 | true=>
  refine i5 ?_
  exact ⟨π1,ρ,μ1,d,μ',R1,E.mono e1,hm,k.after e1⟩
 | false=>
  refine i4 ?_
  exact ⟨π1,ρ,μ1,d,μ',R1,E.mono e1,hm,k.after e1⟩)
noncomputable def aD:MA:=fun _ μ=>some ([],μ)
noncomputable def aC (a:ME)(r:MA):MA:=fun ρ μ=>(a ρ μ).bind fun p=>(r ρ p.2).bind fun q=>some (p.1::q.1,q.2)
variable {es:List M5}{ms:MA}
theorem Er:PA X [] (dO X.K aD):=wV CZ (by
 rintro σ H Q ⟨π,ρ,μ,d,μ',R,E,hm,k⟩
 cases hm
 exact k π [] H .refl R .nil)
theorem Es (ha:PE X e (tM X.K m))(hr:PA X es (dO X.K ms))(hs:NL (e::es) X.env=(false,eval e X.env)::NL es X.env:=by rfl):PA X (e::es) (dO X.K (aC m ms)):=wV (C0 ha hr hs) (by
 rintro σ H Q ⟨π,ρ,μ,d,μ',R,E,hm,k⟩
 obtain ⟨⟨x,μ1⟩,h1,hm⟩:=MW.mp hm
 obtain ⟨⟨xs,μ2⟩,h2,hm⟩:=MW.mp hm
 cases hm
 exact ⟨π,ρ,μ,x,μ1,R,E,h1,fun π1 v1 H1 e1 R1 i1=>⟨π1,ρ,μ1,xs,μ2,R1,E.mono e1,h2,fun π2 vs H2 e2 R2 i2=>k π2 _ H2 (e1.trans e2) R2 (.cons (i1.mono e2) i2)⟩⟩)
noncomputable def iI (ms:MA):ME:=fun ρ μ=>(ms ρ μ).bind fun p=>if p.1.length<=Nd then some (.tup p.1,p.2) else none
noncomputable def bY (ms:MA):ME:=fun ρ μ=>(ms ρ μ).bind fun p=>if p.1.length<=Nd then some (.loc p.2.length,p.2++[.lst p.1]) else none
theorem Et {x1:Nat}(h:PA X es (dO X.K ms)):PE X (.Tuple es x1 pos) (tM X.K (iI ms)):=cJ (C3 h) (by
 rintro σ H Q ⟨π,ρ,μ,d,μ',R,E,hm,k⟩
 obtain ⟨⟨xs,μ1⟩,h1,hm⟩:=MW.mp hm
 split at hm
 ·rename_i hl
  cases hm
  refine ⟨π,ρ,μ,_,_,R,E,h1,fun π1 vs H1 e1 R1 i1=>⟨by rw [i1.length];exact hl,fun p hp=>?_⟩⟩
  obtain ⟨e2,R2⟩:=R1.fresh (o:=.tup vs) hp
  exact k π1 _ _ (e1.trans e2) R2 (.tup (.of eB) (i1.mono e2))
 ·cases hm)
theorem Eu (h:PA X es (dO X.K ms)):PE X (.List es pos) (tM X.K (bY ms)):=cJ (C4 h) (by
 rintro σ H Q ⟨π,ρ,μ,d,μ',R,E,hm,k⟩
 obtain ⟨⟨xs,μ1⟩,h1,hm⟩:=MW.mp hm
 split at hm
 ·rename_i hl
  cases hm
  refine ⟨π,ρ,μ,xs,μ1,R,E,h1,fun π1 vs H1 e1 R1 i1=>⟨by rw [i1.length];exact hl,fun p hp=>?_⟩⟩
  obtain ⟨e2,R2,q⟩:=R1.alloc (c:=.lst xs) (o:=.lst vs) hp i1
  have i2:IsD X.K (eU π1 μ1.length p) (μ1++[C.lst xs]).length (aV H1 p (.lst vs)) (.ref p) (.loc μ1.length):=by
   have:=IsD.loc (K:=X.K) (π:=eU π1 μ1.length p) (n:=(μ1++[C.lst xs]).length) (H:=aV H1 p (.lst vs)) (a:=μ1.length) (by simp)
   rw [q] at this
   exact this
  exact k _ _ _ (e1.trans e2) R2 i2
 ·cases hm)
noncomputable def aG (f:MF)(ms:MA):ME:=fun ρ μ=>(ms ρ μ).bind fun p=>f p.1 p.2
theorem Ew {K:MX}{f:MF}{n:Nat}{E:XK}(hn:∀ ρ μ ds μ',ms ρ μ=some (ds,μ')->ds.length=n):∀ σ H Q,tM K (aG f ms) σ H Q->pY (fY K n f) [] E (dO K ms) σ H Q:=by
 rintro σ H Q ⟨π,ρ,μ,d,μ',R,E,hm,k⟩
 obtain ⟨⟨xs,μ1⟩,h1,hm⟩:=MW.mp hm
 refine ⟨π,ρ,μ,xs,μ1,R,E,h1,fun π1 vs H1 e1 R1 i1=>?_⟩
 show fY K n f (vs++[]) H1 Q _
 rw [Oi]
 exact ⟨by rw [i1.length];exact hn ρ μ xs μ1 h1,π1,xs,μ1,d,μ',R1,i1,hm,k.after e1⟩
theorem Ex:∀ ρ μ ds μ',aD ρ μ=some (ds,μ')->ds.length=0:=by
 intro ρ μ ds μ' h
 cases h
 rfl
theorem Ey {n:Nat}(h:∀ ρ μ ds μ',ms ρ μ=some (ds,μ')->ds.length=n):∀ ρ μ ds μ',aC m ms ρ μ=some (ds,μ')->ds.length=n+1:=by
 intro ρ μ ds μ' hm
 obtain ⟨⟨x,μ1⟩,h1,hm⟩:=MW.mp hm
 obtain ⟨⟨xs,μ2⟩,h2,hm⟩:=MW.mp hm
 cases hm
 rw [Na,h ρ μ1 xs _ h2]
theorem Ez {k:Nat}{f:Addr}{fd:OB}{ps:List Str}{fm:MF}{x:Str}{p:Om}{n:Nat}(F:FnOk X.prog X.w X.K X.mg X.base dU k f fd ps (fY X.K n fm))(hr:Room k X.A)(hg:Gl X x)(hm:X.mg x=some (.ref f))
  (hk:Ob X.K (.ref f)=true)(hb:Binds X.K fd ps [])(ha:PA X (e::es) (dO X.K ms))(hn:∀ ρ μ ds μ',ms ρ μ=some (ds,μ')->ds.length=n)(hdb:(x == ("__debug__":Str))=false:=by decide)
  (he:NL (e::es) X.env=(false,eval e X.env)::NL es X.env:=by rfl)(hpl:(Pk pos (NL es X.env)).any (·.1)=false:=by rfl) :
  PE X (.Call (.Name x p) (e::es) [] pos) (tM X.K (aG fm ms)):=
 cJ (C5 F hr hg hm hk hb .nil (E:=E0) wK ha hdb he hpl) (Ew hn)
noncomputable def cE (K:MX)(f:MF)(r:List V->Hp->VK->Prop):Prop:=
 ∀ π H μ xs d μ' vs Q,Rp K π H μ->IsDs K π μ.length H vs xs->f xs μ=some (d,μ')->KC K Q π μ.length H d μ'->r vs H Q
theorem qO {K:MX}{f:MF}{r:List V->Hp->VK->Prop}(hf:cE K f r):∀ σ H Q,tM K (aG f ms) σ H Q->nI r (dO K ms) σ H Q:=by
 rintro σ H Q ⟨π,ρ,μ,d,μ',R,E,hm,k⟩
 obtain ⟨⟨xs,μ1⟩,h1,hm⟩:=MW.mp hm
 exact ⟨π,ρ,μ,xs,μ1,R,E,h1,fun π1 vs H1 e1 R1 i1=>hf π1 H1 μ1 xs d μ' vs Q R1 i1 hm (k.after e1)⟩
theorem EA {f:MF}{r:List V->Hp->VK->Prop}{id:String}{x:Str}{p:Om}(hc:CallR X (.builtin id) r)(hf:cE X.K f r)(hg:Gl X x)(hm:X.mg x=none)(hv:N7 x=some (.builtin id))(ha:PA X (e::es) (dO X.K ms))
  (hn:x ≠ "__name__":=by decide) (hdb:(x == ("__debug__":Str))=false:=by decide)
  (he:NL (e::es) X.env=(false,eval e X.env)::NL es X.env:=by rfl)(hpl:(Pk pos (NL es X.env)).any (·.1)=false:=by rfl):PE X (.Call (.Name x p) (e::es) [] pos) (tM X.K (aG f ms)):=
 cJ (C9 hc hg hm hv ha hn hdb he hpl) (qO hf)
theorem EB {f:MF}{r:List V->Hp->VK->Prop}{T:String}{x:Str}{p:Om}(hc:CallR X (.type T) r)(hf:cE X.K f r)(hg:Gl X x)(hm:X.mg x=none)(hv:N7 x=some (.type T))(ha:PA X (e::es) (dO X.K ms))
  (hn:x ≠ "__name__":=by decide) (hdb:(x == ("__debug__":Str))=false:=by decide)
  (he:NL (e::es) X.env=(false,eval e X.env)::NL es X.env:=by rfl)(hpl:(Pk pos (NL es X.env)).any (·.1)=false:=by rfl):PE X (.Call (.Name x p) (e::es) [] pos) (tM X.K (aG f ms)):=
 cJ (Dc hc hg hm hv ha hn hdb he hpl) (qO hf)
noncomputable def bD (μ:Hm):D->Option (List D)
 | .tup xs=>some xs
 | .rol xs=>some xs
 | .loc a=>match μ[a]? with|some (.lst xs)=>some xs|_=>none
 | _=>none
noncomputable def dW:D->D->Hm->Option (D×Hm)
 | .str z,.int i,μ=>if z.length<=Nd then (atI z.cps.toList i).map fun c=>(.str ⟨#[c]⟩,μ) else none
 | x,.int i,μ=>(bD μ x).bind fun xs=>(atI xs i).map fun d=>(d,μ)
 | _,_,_=>none
theorem EC {K:MX}:cU K dW (wA K):=by
 intro π H μ x y d μ' vx vy Q R ix iy hm k
 cases iy with
 | int i=>
  cases ix with
  | str z=>
   simp only [dW] at hm
   split at hm
   ·rename_i hl
    obtain ⟨c,h1,h2⟩:=M3.mp hm
    cases h2
    exact .inr (.inr ⟨z,i,c,rfl,rfl,hl,h1,k π _ H .refl R (.str _)⟩)
   ·cases hm
  | tup h t=>
   simp only [dW,bD,Nn] at hm
   obtain ⟨d',h1,h2⟩:=M3.mp hm
   cases h2
   obtain ⟨v,h3,h4⟩:=t.atI h1
   exact .inr (.inl ⟨_,_,i,v,rfl,rfl,h,h3,k π _ H .refl R h4⟩)
  | rol h t=>
   simp only [dW,bD,Nn] at hm
   obtain ⟨d',h1,h2⟩:=M3.mp hm
   cases h2
   obtain ⟨v,h3,h4⟩:=t.atI h1
   exact .inl ⟨_,_,i,v,rfl,rfl,h.sq,h3,k π _ H .refl R h4⟩
  | @loc a ha=>
   simp only [dW,bD] at hm
   split at hm
   ·rename_i xs hx
    simp only [Nn] at hm
    obtain ⟨d',h1,h2⟩:=M3.mp hm
    cases h2
    obtain ⟨vs,h5,h6⟩:=R.lst a xs hx
    obtain ⟨v,h3,h4⟩:=h6.atI h1
    exact .inl ⟨_,_,i,v,rfl,rfl,.of h5,h3,k π _ H .refl R h4⟩
   ·cases hm
  | _=>simp [dW,bD] at hm
 | _=>cases ix<;>simp [dW] at hm
theorem ED (ha:PE X a (tM X.K ma))(hb:PE X b (tM X.K mb))(hs:qE b):PE X (.Subscript a b pos) (tM X.K (aA dW ma mb)):=cJ (DC DE ha hb hs) (l6 EC)
noncomputable def dG (xs:List D)(lo hi:Option Int):List D:=(xs.drop (HT.sIx xs.length 0 lo)).take (HT.sIx xs.length xs.length hi - HT.sIx xs.length 0 lo)
noncomputable abbrev MO:=aJ->Hm->Option (Option Int×Hm)
noncomputable def cK:MO:=fun _ μ=>some (none,μ)
noncomputable def b6 (m:ME):MO:=fun ρ μ=>(m ρ μ).bind fun p=>match p.1 with|.int i=>some (some i,p.2)|_=>none
noncomputable def l7 (K:MX)(m:MO):TO:=fun σ H Q=>∃ π ρ μ o μ',Rp K π H μ/\En K π μ.length H σ ρ/\m ρ μ=some (o,μ')/\∀ π' H',Ext π μ.length H π' μ'.length H'->Rp K π' H' μ'->Q o H'
theorem EE:PO X none (l7 X.K cK):=fun Vq s σ H Q I q=>Dx Vq s σ H Q I (by
 obtain ⟨π,ρ,μ,o,μ',R,E,hm,k⟩:=q
 cases hm
 exact k π H .refl R)
theorem EF (h:PE X e (tM X.K m)):PO X (some e) (l7 X.K (b6 m)):=fun Vq s σ H Q I q=>Dy h Vq s σ H Q I (by
 obtain ⟨π,ρ,μ,o,μ',R,E,hm,k⟩:=q
 obtain ⟨⟨x,μ1⟩,h1,hm⟩:=MW.mp hm
 cases x with
 | int i=>
  cases hm
  refine ⟨π,ρ,μ,_,_,R,E,h1,fun π1 v1 H1 e1 R1 i1=>?_⟩
  cases i1
  exact ⟨_,rfl,k π1 H1 e1 R1⟩
 | _=>cases hm)
noncomputable abbrev wX (K:MX):V->Option Int->Option Int->Hp->VK->Prop:=qF K
theorem EG {X:Cx}:SlR X (wX X.K):=DJ
theorem wY {K:MX}{x:V}{lo hi:Option Int}{H:Hp}{Q:VK}(h:qF K x lo hi H Q):wX K x lo hi H Q:=h
noncomputable def cP (a:ME)(lo hi:MO):ME:=fun ρ μ=>(a ρ μ).bind fun p=>(lo ρ p.2).bind fun q=>(hi ρ q.2).bind fun r=>
 match p.1 with
 | .tup _=>none
 | x=>(bD r.2 x).bind fun xs=>some (.loc r.2.length,r.2++[.lst (dG xs q.1 r.1)])
theorem wZ {K:MX}{π:Nat->Addr}{n:Nat}{H:Hp}{vs:List V}{ds:List D}(h:IsDs K π n H vs ds)(lo hi:Option Int):IsDs K π n H (iG vs lo hi) (dG ds lo hi):=by
 unfold iG dG
 rw [h.length]
 exact (h.drop _).take _
theorem iJ {K:MX}{π:Nat->Addr}{μ:Hm}{p:Addr}{c:C}{H:Hp}:IsD K (eU π μ.length p) (μ++[c]).length H (.ref p) (.loc μ.length):=by
 have:=IsD.loc (K:=K) (π:=eU π μ.length p) (n:=(μ++[c]).length) (H:=H) (a:=μ.length) (by simp)
 rw [show eU π μ.length p μ.length=p from if_pos rfl] at this
 exact this
theorem EH {lo hi:Option M5}{ml mh:MO}{p2:Om}(ha:PE X a (tM X.K ma))(hl:PO X lo (l7 X.K ml))(hu:PO X hi (l7 X.K mh)):PE X (.Subscript a (.Slice lo hi none p2) pos) (tM X.K (cP ma ml mh)):=cJ (DA EG ha hl hu) (by
 rintro σ H Q ⟨π,ρ,μ,d,μ',R,E,hm,k⟩
 obtain ⟨⟨x,μ1⟩,h1,hm⟩:=MW.mp hm
 obtain ⟨⟨l,μ2⟩,h2,hm⟩:=MW.mp hm
 obtain ⟨⟨u,μ3⟩,h3,hm⟩:=MW.mp hm
 refine ⟨π,ρ,μ,x,μ1,R,E,h1,fun π1 v1 H1 e1 R1 i1=>⟨π1,ρ,μ1,l,μ2,R1,E.mono e1,h2,fun π2 H2 e2 R2=>⟨π2,ρ,μ2,u,μ3,R2,(E.mono e1).mono e2,h3,fun π3 H3 e3 R3=>?_⟩⟩⟩
 have i3:=(i1.mono e2).mono e3
 cases i3 with
 | rol h t=>
  simp only [bD,Nn] at hm
  cases hm
  refine wY ⟨_,_,rfl,h.sq,fun p hp=>?_⟩
  obtain ⟨e4,R4,q⟩:=R3.alloc (c:=.lst (dG _ l u)) (o:=.lst (iG _ l u)) hp (wZ t l u)
  exact k _ _ _ (((e1.trans e2).trans e3).trans e4) R4 iJ
 | @loc i hi'=>
  simp only [bD] at hm
  split at hm
  ·rename_i xs hx
   simp only [Nn] at hm
   cases hm
   obtain ⟨vs,h5,h6⟩:=R3.lst i xs hx
   refine wY ⟨_,_,rfl,.of h5,fun p hp=>?_⟩
   obtain ⟨e4,R4,q⟩:=R3.alloc (c:=.lst (dG xs l u)) (o:=.lst (iG vs l u)) hp (wZ h6 l u)
   exact k _ _ _ (((e1.trans e2).trans e3).trans e4) R4 iJ
  ·cases hm
 | tup h t=>simp at hm
 | _=>simp [bD] at hm)
end
section
variable {X:Cx}{e a b c:M5}{m:ME}{pos:Om}{mt:MT}{st:Stmt}{rest body orelse:List Stmt}{ms mr mu:MS}
noncomputable def bK:MS:=fun ρ μ=>some (.nx,ρ,μ)
noncomputable def aK (a b:MS):MS:=fun ρ μ=>(a ρ μ).bind fun p=>match p.1 with|.nx=>b p.2.1 p.2.2|_=>some p
noncomputable def aZ (m:ME):MS:=fun ρ μ=>(m ρ μ).map fun p=>(.rt p.1,ρ,p.2)
noncomputable def i9 (m:ME):MS:=fun ρ μ=>(m ρ μ).map fun p=>(.nx,ρ,p.2)
noncomputable def bL (t:MT)(a b:MS):MS:=fun ρ μ=>(t ρ μ).bind fun p=>match p.1 with|true=>a ρ p.2|false=>b ρ p.2
noncomputable def aW (i:Nat)(m:ME):MS:=fun ρ μ=>(m ρ μ).map fun p=>(.nx,ρ.set i (some p.1),p.2)
theorem EI:PSs X [] (cI X.K bK):=wW B8 (by
 rintro E σ H ⟨π,ρ,μ,fl,ρ',μ',R,EN,hm,k⟩
 cases hm
 exact k π σ H .refl R EN)
theorem EJ (h1:PS X st (cI X.K ms))(h2:PSs X rest (cI X.K mr)):PSs X (st::rest) (cI X.K (aK ms mr)):=wW (B9 h1 h2) (by
 rintro E σ H ⟨π,ρ,μ,fl,ρ',μ',R,EN,hm,k⟩
 obtain ⟨⟨f1,ρ1,μ1⟩,h1,hm⟩:=MW.mp hm
 refine ⟨π,ρ,μ,f1,ρ1,μ1,R,EN,h1,?_⟩
 cases f1 with
 | nx=>
  intro π1 σ1 H1 e1 R1 E1
  refine ⟨π1,ρ1,μ1,fl,ρ',μ',R1,E1,hm,?_⟩
  cases fl with
  | nx=>exact fun π2 σ2 H2 e2 R2 E2=>k π2 σ2 H2 (e1.trans e2) R2 E2
  | bk=>exact fun π2 σ2 H2 e2 R2 E2=>k π2 σ2 H2 (e1.trans e2) R2 E2
  | ct=>exact fun π2 σ2 H2 e2 R2 E2=>k π2 σ2 H2 (e1.trans e2) R2 E2
  | rt d=>exact KC.after k e1
 | rt d=>cases hm;exact k
 | bk=>cases hm;exact k
 | ct=>cases hm;exact k)
theorem EK (h1:PS X st (cI X.K ms)):PSs X [st] (cI X.K ms):=Ca h1
theorem EL:PS X (.Pass pos) (cI X.K bK):=fK Cb (by
 rintro E σ H ⟨π,ρ,μ,fl,ρ',μ',R,EN,hm,k⟩
 cases hm
 exact k π σ H .refl R EN)
theorem EM (he:PE X e (tM X.K m)):PS X (.Return (some e) pos) (cI X.K (aZ m)):=fK (Cg he) (by
 rintro E σ H ⟨π,ρ,μ,fl,ρ',μ',R,EN,hm,k⟩
 obtain ⟨⟨x,μ1⟩,h1,hm⟩:=M3.mp hm
 cases hm
 exact ⟨π,ρ,μ,x,μ1,R,EN,h1,k⟩)
theorem EO (he:PE X e (tM X.K m))(hs:Qc e none pos.line X.env=pure false:=by rfl):PS X (.Expr e pos) (cI X.K (i9 m)):=fK (Ce he hs) (by
 rintro E σ H ⟨π,ρ,μ,fl,ρ',μ',R,EN,hm,k⟩
 obtain ⟨⟨x,μ1⟩,h1,hm⟩:=M3.mp hm
 cases hm
 exact ⟨π,ρ,μ,x,μ1,R,EN,h1,fun π1 v1 H1 e1 R1 i1=>k π1 σ H1 e1 R1 (EN.mono e1)⟩)
theorem ER (hc:PT X c (cD X.K mt))(ha:PSs X body (cI X.K ms))(hb:PSs X orelse (cI X.K mu)):PS X (.If c body orelse pos) (cI X.K (bL mt ms mu)):=fK (Cm hc ha hb) (by
 rintro E σ H ⟨π,ρ,μ,fl,ρ',μ',R,EN,hm,k⟩
 obtain ⟨⟨x,μ1⟩,h1,hm⟩:=MW.mp hm
 refine ⟨π,ρ,μ,x,μ1,R,EN,h1,fun π1 H1 e1 R1=>?_⟩
 have k':i8 X.K E π1 μ1.length H1 fl ρ' μ':=by
  cases fl with
  | nx=>exact fun π2 σ2 H2 e2 R2 E2=>k π2 σ2 H2 (e1.trans e2) R2 E2
  | bk=>exact fun π2 σ2 H2 e2 R2 E2=>k π2 σ2 H2 (e1.trans e2) R2 E2
  | ct=>exact fun π2 σ2 H2 e2 R2 E2=>k π2 σ2 H2 (e1.trans e2) R2 E2
  | rt d=>exact KC.after k e1
 cases x with
 | true=>
  refine i5 ?_
  exact ⟨π1,ρ,μ1,fl,ρ',μ',R1,EN.mono e1,hm,k'⟩
 | false=>
  refine i4 ?_
  exact ⟨π1,ρ,μ1,fl,ρ',μ',R1,EN.mono e1,hm,k'⟩)
theorem w4 {i:Nat}{x:Str}{pos':Om}(hN:X.N.Nodup)(hi:X.N[i]? = some x)(hx:Loc X.env.scope x)(he:PE X e (tM X.K m))(hs:Qc e (some (.Name x pos')) pos.line X.env=pure false:=by rfl)
  (hf:X.fn x=true\/X.env.scope.names.lookup x=some .local:=by first|exact .inl rfl|exact .inr rfl|assumption):PS X (.Assign [.Name x pos'] e pos) (cI X.K (aW i m)):=fK (Cr hN hi hx he hs hf) (by
 rintro E σ H ⟨π,ρ,μ,fl,ρ',μ',R,EN,hm,k⟩
 obtain ⟨⟨x,μ1⟩,h1,hm⟩:=M3.mp hm
 cases hm
 exact ⟨π,ρ,μ,x,μ1,R,EN,h1,fun π1 v1 H1 e1 R1 i1=>k π1 _ H1 e1 R1 ((EN.mono e1).set i1 i)⟩)
end
noncomputable def nO (n:Nat)(ds:List D):aJ:=ds.map some++MY (n - ds.length) none
noncomputable def qP (n:Nat)(m:MS):MF:=fun ds μ=>(m (nO n ds) μ).bind fun p=>match p.1 with|.rt d=>some (d,p.2.2)|.nx=>some (.non,p.2.2)|_=>none
theorem ES {K:MX}{π:Nat->Addr}{n:Nat}{H:Hp}{N:List Str}{vs:List V}{ds:List D}(h:IsDs K π n H vs ds)(hl:vs.length<=N.length):En K π n H (L2.start N vs) (nO N.length ds):=by
 have hlen:=h.length
 refine ⟨by simp [L2.start,nO,hlen],fun i d e=>?_⟩
 unfold nO at e
 unfold L2.start
 by_cases hi:i<ds.length
 ·rw [NB (by simpa using hi),ND] at e
  obtain ⟨d',h1,h2⟩:=M3.mp e
  cases h2
  obtain ⟨v,h3,h4⟩:=h.get h1
  exact ⟨v,by rw [NB (by rw [MZ,hlen];exact hi),ND,h3];rfl,h4⟩
 ·rw [NT (by simpa using PY.mp hi)] at e
  have:=OY (n:=N.length - ds.length) (a:=(none:Option D)) (i:=i - (ds.map some).length)
  rw [this] at e
  split at e<;>simp at e
section
variable {P:Nz}{w:NP}{K:MX}{mg:Str->Option M0}{base:N6}
theorem ET {x qual:Str}{st:Stmt}{f:Addr}{fd:OB}{N ps:List Str}{k:Nat}{m:MS}(F:Fun K x qual st f fd)(S:FnScope N ps (bX st))(hps:ps.length<=N.length)
  (hbody:∀ (cdv:M0)(A:NM)(outer:List Rf)(s:M4)(H:Hp)(E:XK),Room k (A.deeper (RL qual (bX st) s.heap.objs.size f cdv))->
   PSs (gP dU P w K mg base N qual (bX st) f cdv A outer s H E).nox (eD st) (cI K m)):FnOk P w K mg base dU (k+1) f fd ps (fY K ps.length (qP N.length m)):=by
 refine F.ok S (fun vs H Q E h=>h.1) fun cdv A outer s H vs Q E hr h=>⟨_,hbody cdv A outer s H E hr,?_⟩
 obtain ⟨hv,π,ds,μ,d,μ',R,i,hm,kc⟩:=h
 obtain ⟨⟨fl,ρ',μ1⟩,h1,hm⟩:=MW.mp hm
 refine ⟨π,_,μ,fl,ρ',μ1,R,ES i (by rw [hv];exact hps),h1,?_⟩
 cases fl with
 | rt d'=>cases hm;exact kc
 | nx=>cases hm;exact fun π1 σ1 H1 e1 R1 E1=>kc π1 .non H1 e1 R1 .non
 | bk=>cases hm
 | ct=>cases hm
end
end L3
namespace L3
open PySem L2
open SeqAt (EqAt RcAt RcNeAt)
inductive KD where
 | non|bl (b:Bool)|int (i:Int)|str (x:Str)|tup (n:Nat)|lst (n:Nat)
inductive IsK (s:M4):M0->KD->Prop where
 | non:IsK s .none .non
 | bl (b:Bool):IsK s (.bool b) (.bl b)
 | int (i:Int)(t:UG):IsK s (.int i t) (.int i)
 | str (x:Str)(t:UG):IsK s (.str x t) (.str x)
 | tup {l:Addr}{its:List M0}(h:s.heap.IsTuple l its.toArray):IsK s (.ref l) (.tup its.length)
 | lst {l:Addr}{its:List M0}(h:s.heap.IsList l its.toArray):IsK s (.ref l) (.lst its.length)
noncomputable def j9 (e:Nat->Bool):KD->KD->Bool
 | .non,.non=>true
 | .bl a,.bl b=>a == b
 | .bl a,.int b=>(if a then 1 else 0) == b
 | .int a,.bl b=>a == (if b then 1 else 0)
 | .int a,.int b=>a == b
 | .str a,.str b=>a == b
 | .tup n,.tup k=>(NF (min n k)).all e&&n == k
 | .lst n,.lst k=>(NF (min n k)).all e&&n == k
 | _,_=>false
noncomputable def nP (A:NM)(s:M4)(u v:M0)(e:Nat->Bool):Prop:=
 (∀ l b items items2,u=.ref l->v=.ref b->s.heap.IsTuple l items->s.heap.IsTuple b items2->∀ j (h1:j<items.size)(h2:j<items2.size),EqAt A.in1 s items[j] items2[j] (e j)) /\
 (∀ l b items items2,u=.ref l->v=.ref b->s.heap.IsList l items->s.heap.IsList b items2->∀ j (h1:j<items.size)(h2:j<items2.size),EqAt A.in1 s items[j] items2[j] (e j))
section
variable {A:NM}{s:M4}{u v:M0}{k k':KD}{e:Nat->Bool}
theorem w5 {n k:Nat}(e:Nat->Bool)(h:n=k):((NF (min n k)).all e&&n == k)=(NF n).all e:=by
 subst h
 simp
theorem w6 {n k:Nat}(e:Nat->Bool)(h:n≠k):((NF (min n k)).all e&&n == k)=false:=by
 simp [h]
theorem qQ (h:IsK s u k)(h':IsK s v k')(hu:A.units<PU)(he:nP A s u v e):RcAt A s u v (j9 e k k'):=by
 cases h with
 | non=>
  cases h' with
  | non=>exact RcAt.none_none
  | bl b=>exact RcAt.none_bool b
  | int i t=>exact RcAt.none_int i t
  | str x t=>exact RcAt.none_str x t
  | tup h=>exact RcAt.none_tuple h hu
  | lst h=>exact RcAt.none_list h hu
 | bl a=>
  cases h' with
  | non=>exact RcAt.bool_none a
  | bl b=>exact RcAt.bool_bool a b
  | int i t=>exact RcAt.bool_int a i t
  | str x t=>exact RcAt.bool_str a x t
  | tup h=>exact RcAt.bool_tuple a h hu
  | lst h=>exact RcAt.bool_list a h hu
 | int a ta=>
  cases h' with
  | non=>exact RcAt.int_none a ta
  | bl b=>exact RcAt.int_bool a ta b
  | int i t=>exact RcAt.int_int a ta i t
  | str x t=>exact RcAt.int_str a ta x t
  | tup h=>exact RcAt.int_tuple a ta h hu
  | lst h=>exact RcAt.int_list a ta h hu
 | str a ta=>
  cases h' with
  | non=>exact RcAt.str_none a ta
  | bl b=>exact RcAt.str_bool a ta b
  | int i t=>exact RcAt.str_int a ta i t
  | str x t=>exact RcAt.str_str a ta x t
  | tup h=>exact RcAt.str_tuple a ta h hu
  | lst h=>exact RcAt.str_list a ta h hu
 | tup g=>
  cases h' with
  | non=>exact RcAt.tuple_none g hu
  | bl b=>exact RcAt.tuple_bool b g hu
  | int i t=>exact RcAt.tuple_int i t g hu
  | str x t=>exact RcAt.tuple_str x t g hu
  | tup h=>
   have:=RcAt.tuples (e:=e) g h hu (he.1 _ _ _ _ rfl rfl g h)
   simpa [j9] using this
  | lst h=>exact RcAt.tuple_list g h hu
 | lst g=>
  cases h' with
  | non=>exact RcAt.list_none g hu
  | bl b=>exact RcAt.list_bool b g hu
  | int i t=>exact RcAt.list_int i t g hu
  | str x t=>exact RcAt.list_str x t g hu
  | tup h=>exact RcAt.list_tuple g h hu
  | @lst b its2 h=>
   rename_i l its
   by_cases hl:its.length=its2.length
   ·have:=RcAt.lists (e:=e) g h (by simpa using hl) hu (he.2 _ _ _ _ rfl rfl g h)
    show RcAt A s _ _ ((NF (min its.length its2.length)).all e&&its.length == its2.length)
    rw [w5 e hl]
    simpa using this
   ·have:=RcAt.lists_lengths g h (by simpa using hl) hu
    show RcAt A s _ _ ((NF (min its.length its2.length)).all e&&its.length == its2.length)
    rw [w6 e hl]
    exact this
theorem EU (h:IsK s u k)(h':IsK s v k')(hu:A.units<PU)(he:nP A s u v e):RcNeAt A s u v (!j9 e k k'):=by
 cases h with
 | non=>
  cases h' with
  | non=>exact RcNeAt.none_none
  | bl b=>exact RcNeAt.none_bool b
  | int i t=>exact RcNeAt.none_int i t
  | str x t=>exact RcNeAt.none_str x t
  | tup h=>exact RcNeAt.none_tuple h hu
  | lst h=>exact RcNeAt.none_list h hu
 | bl a=>
  cases h' with
  | non=>exact RcNeAt.bool_none a
  | bl b=>exact RcNeAt.bool_bool a b
  | int i t=>exact RcNeAt.bool_int a i t
  | str x t=>exact RcNeAt.bool_str a x t
  | tup h=>exact RcNeAt.bool_tuple a h hu
  | lst h=>exact RcNeAt.bool_list a h hu
 | int a ta=>
  cases h' with
  | non=>exact RcNeAt.int_none a ta
  | bl b=>exact RcNeAt.int_bool a ta b
  | int i t=>exact RcNeAt.int_int a ta i t
  | str x t=>exact RcNeAt.int_str a ta x t
  | tup h=>exact RcNeAt.int_tuple a ta h hu
  | lst h=>exact RcNeAt.int_list a ta h hu
 | str a ta=>
  cases h' with
  | non=>exact RcNeAt.str_none a ta
  | bl b=>exact RcNeAt.str_bool a ta b
  | int i t=>exact RcNeAt.str_int a ta i t
  | str x t=>exact RcNeAt.str_str a ta x t
  | tup h=>exact RcNeAt.str_tuple a ta h hu
  | lst h=>exact RcNeAt.str_list a ta h hu
 | tup g=>
  cases h' with
  | non=>exact RcNeAt.tuple_none g hu
  | bl b=>exact RcNeAt.tuple_bool b g hu
  | int i t=>exact RcNeAt.tuple_int i t g hu
  | str x t=>exact RcNeAt.tuple_str x t g hu
  | tup h=>
   have:=RcNeAt.tuples (e:=e) g h hu (he.1 _ _ _ _ rfl rfl g h)
   simpa [j9] using this
  | lst h=>exact RcNeAt.tuple_list g h hu
 | lst g=>
  cases h' with
  | non=>exact RcNeAt.list_none g hu
  | bl b=>exact RcNeAt.list_bool b g hu
  | int i t=>exact RcNeAt.list_int i t g hu
  | str x t=>exact RcNeAt.list_str x t g hu
  | tup h=>exact RcNeAt.list_tuple g h hu
  | @lst b its2 h=>
   rename_i l its
   by_cases hl:its.length=its2.length
   ·have:=RcNeAt.lists (e:=e) g h (by simpa using hl) hu (he.2 _ _ _ _ rfl rfl g h)
    show RcNeAt A s _ _ (!((NF (min its.length its2.length)).all e&&its.length == its2.length))
    rw [w5 e hl]
    simpa using this
   ·have:=RcNeAt.lists_lengths g h (by simpa using hl) hu
    show RcNeAt A s _ _ (!((NF (min its.length its2.length)).all e&&its.length == its2.length))
    rw [w6 e hl]
    exact this
theorem EV (h:IsK s u k)(h':IsK s v k')(hu:A.units<PU)(he:nP A s u v e)(hne:∀ l b,u=.ref l->v=.ref b->l≠b):EqAt A s u v (j9 e k k'):=by
 cases h with
 | non=>
  cases h' with
  | non=>exact EqAt.same _
  | bl b=>exact EqAt.none_bool b
  | int i t=>exact EqAt.none_int i t
  | str x t=>exact EqAt.none_str x t
  | tup h=>exact EqAt.none_tuple h hu
  | lst h=>exact EqAt.none_list h hu
 | bl a=>
  cases h' with
  | non=>exact EqAt.bool_none a
  | bl b=>exact EqAt.bool_bool a b
  | int i t=>exact EqAt.bool_int a i t
  | str x t=>exact EqAt.bool_str a x t
  | tup h=>exact EqAt.bool_tuple a h hu
  | lst h=>exact EqAt.bool_list a h hu
 | int a ta=>
  cases h' with
  | non=>exact EqAt.int_none a ta
  | bl b=>exact EqAt.int_bool a ta b
  | int i t=>exact EqAt.int_int a ta i t
  | str x t=>exact EqAt.int_str a ta x t
  | tup h=>exact EqAt.int_tuple a ta h hu
  | lst h=>exact EqAt.int_list a ta h hu
 | str a ta=>
  cases h' with
  | non=>exact EqAt.str_none a ta
  | bl b=>exact EqAt.str_bool a ta b
  | int i t=>exact EqAt.str_int a ta i t
  | str x t=>exact EqAt.str_str a ta x t
  | tup h=>exact EqAt.str_tuple a ta h hu
  | lst h=>exact EqAt.str_list a ta h hu
 | @tup l its g=>
  cases h' with
  | non=>exact EqAt.tuple_none g hu
  | bl b=>exact EqAt.tuple_bool b g hu
  | int i t=>exact EqAt.tuple_int i t g hu
  | str x t=>exact EqAt.tuple_str x t g hu
  | @tup b its2 h=>exact EqAt.of_refs (hne l b rfl rfl) (qQ (k:=.tup its.length) (k':=.tup its2.length) (.tup g) (.tup h) hu he)
  | lst h=>exact EqAt.tuple_list g h hu
 | @lst l its g=>
  cases h' with
  | non=>exact EqAt.list_none g hu
  | bl b=>exact EqAt.list_bool b g hu
  | int i t=>exact EqAt.list_int i t g hu
  | str x t=>exact EqAt.list_str x t g hu
  | tup h=>exact EqAt.list_tuple g h hu
  | @lst b its2 h=>exact EqAt.of_refs (hne l b rfl rfl) (qQ (k:=.lst its.length) (k':=.lst its2.length) (.lst g) (.lst h) hu he)
end
inductive KdD where
 | non|bl (b:Bool)|int (i:Int)|str (x:Str)|tup (xs:List D)|lst (xs:List D)
noncomputable def f7 (μ:Hm):D->Option KdD
 | .non=>some .non
 | .bl b=>some (.bl b)
 | .int i=>some (.int i)
 | .str x=>some (.str x)
 | .tup xs=>some (.tup xs)
 | .rol xs=>some (.lst xs)
 | .loc a=>match μ[a]? with|some (.lst xs)=>some (.lst xs)|_=>none
 | .ty _=>none
noncomputable def f9 (f:D->D->Option Bool):List D->List D->Option Bool
 | x::xs,y::ys=>(f x y).bind fun b=>(f9 f xs ys).map fun c=>b&&c
 | [],[]=>some true
 | _,_=>some false
noncomputable def gS (f:D->D->Option Bool):KdD->KdD->Option Bool
 | .non,.non=>some true
 | .bl a,.bl b=>some (a == b)
 | .bl a,.int b=>some ((if a then 1 else 0) == b)
 | .int a,.bl b=>some (a == (if b then 1 else 0))
 | .int a,.int b=>some (a == b)
 | .str a,.str b=>some (a == b)
 | .tup xs,.tup ys=>f9 f xs ys
 | .lst xs,.lst ys=>f9 f xs ys
 | _,_=>some false
noncomputable def c5:Nat->Hm->D->D->Option Bool
 | 0,_,_,_=>none
 | n+1,μ,x,y=>(f7 μ x).bind fun a=>(f7 μ y).bind fun b=>gS (c5 n μ) a b
noncomputable def qR:KdD->KD
 | .non=>.non|.bl b=>.bl b|.int i=>.int i|.str x=>.str x|.tup xs=>.tup xs.length|.lst xs=>.lst xs.length
noncomputable def kB:KdD->List D
 | .tup xs=>xs|.lst xs=>xs|_=>[]
section
variable {X:Cx}{Vq:List (Addr×OE)}{σ:St}{H:Hp}{s:M4}{π:Nat->Addr}{μ:Hm}
inductive KdAt (X:Cx)(π:Nat->Addr)(n:Nat)(H:Hp)(s:M4)(u:M0):KdD->Prop where
 | non (h:u=.none):KdAt X π n H s u .non
 | bl (b:Bool)(h:u=.bool b):KdAt X π n H s u (.bl b)
 | int (i:Int)(t:UG)(h:u=.int i t):KdAt X π n H s u (.int i)
 | str (x:Str)(t:UG)(h:u=.str x t):KdAt X π n H s u (.str x)
 | tup {xs:List D}(p:Addr)(vs:List V)(its:List M0)(h:u=.ref p)(q:SqT X.K H p vs)(i:IsDs X.K π n H vs xs)(r:Vals vs its)(t:s.heap.IsTuple p its.toArray):KdAt X π n H s u (.tup xs)
 | lst {xs:List D}(p:Addr)(vs:List V)(its:List M0)(h:u=.ref p)(q:SqL X.K H p vs)(i:IsDs X.K π n H vs xs)(r:Vals vs its)(t:s.heap.IsList p its.toArray):KdAt X π n H s u (.lst xs)
theorem kC (I:Inv X Vq σ H s)(R:Rp X.K π H μ){v:V}{d:D}{u:M0}(h:IsD X.K π μ.length H v d)(r:RelV v u){k:KdD}(e:f7 μ d=some k):KdAt X π μ.length H s u k:=by
 cases h with
 | non=>cases e;exact .non r
 | bl b=>cases e;exact .bl b r
 | int i=>cases e;obtain ⟨t,q⟩:=r;exact .int i t q
 | str x=>cases e;obtain ⟨t,q⟩:=r;exact .str x t q
 | ty x=>cases e
 | tup q t=>
  cases e
  obtain ⟨its,r',p,_⟩:=I.tuple q
  exact .tup _ _ its r q t r' p
 | rol q t=>
  cases e
  obtain ⟨its,r',p,_⟩:=I.list q.sq
  exact .lst _ _ its r q.sq t r' p.isList
 | @loc a ha=>
  simp only [f7] at e
  split at e
  ·rename_i xs hx
   cases e
   obtain ⟨vs,h1,h2⟩:=R.lst a xs hx
   have q:SqL X.K H (π a) vs:=.of h1
   obtain ⟨its,r',p,_⟩:=I.list q
   exact .lst _ _ its r q h2 r' p.isList
  ·cases e
theorem KdAt.isK {u:M0}{k:KdD}{n:Nat}(h:KdAt X π n H s u k):IsK s u (qR k):=by
 cases h with
 | non h=>subst h;exact .non
 | bl b h=>subst h;exact .bl b
 | int i t h=>subst h;exact .int i t
 | str x t h=>subst h;exact .str x t
 | tup p vs its h q i r t=>
  subst h
  have:its.length=_:=r.length.symm.trans i.length
  show IsK s (.ref p) (.tup _)
  rw [<- this]
  exact .tup t
 | lst p vs its h q i r t=>
  subst h
  have:its.length=_:=r.length.symm.trans i.length
  show IsK s (.ref p) (.lst _)
  rw [<- this]
  exact .lst t
noncomputable def eW (f:D->D->Option Bool)(xs ys:List D)(j:Nat):Bool:=match xs[j]?,ys[j]? with
 | some x,some y=>(f x y).getD false
 | _,_=>false
theorem qS {f:D->D->Option Bool}:∀ {xs ys:List D}{b:Bool},f9 f xs ys=some b->b=((NF (min xs.length ys.length)).all (eW f xs ys)&&xs.length == ys.length)/\∀ (j:Nat) x y,xs[j]? = some x->ys[j]? = some y->f x y=some (eW f xs ys j)
 | [],[],b,h=>by
  cases h
  exact ⟨rfl,fun j x y e=>by simp at e⟩
 | x::xs,[],b,h=>by
  cases h
  exact ⟨by simp,fun j x y _ e=>by simp at e⟩
 | [],y::ys,b,h=>by
  cases h
  exact ⟨by simp,fun j x y e=>by simp at e⟩
 | x::xs,y::ys,b,h=>by
  simp only [f9] at h
  obtain ⟨c,h1,h2⟩:=MW.mp h
  obtain ⟨d,h3,h4⟩:=M3.mp h2
  obtain ⟨i1,i2⟩:=qS h3
  have h0:eW f (x::xs) (y::ys) 0=c:=by simp [eW,h1]
  have hs:∀ j,eW f (x::xs) (y::ys) (j+1)=eW f xs ys j:=fun j=>by simp [eW]
  refine ⟨?_,fun j x' y' e1 e2=>?_⟩
  ·subst h4
   rw [i1]
   simp only [Na,Nat.add_min_add_right]
   rw [Qr,NQ,Sh,h0]
   have:(eW f (x::xs) (y::ys) ∘ Nat.succ)=eW f xs ys:=funext fun j=>hs j
   rw [this]
   simp [Bool.and_assoc]
  ·cases j with
   | zero=>
    simp at e1 e2
    subst e1;subst e2
    rw [h0,h1]
   | succ j=>
    rw [hs j]
    exact i2 j x' y' (by simpa using e1) (by simpa using e2)
theorem w8 {f:D->D->Option Bool}{k k':KdD}{b:Bool}(h:gS f k k'=some b):b=j9 (eW f (kB k) (kB k')) (qR k) (qR k'):=by
 cases k<;>cases k'<;>simp only [gS] at h<;>first
  | (have h':=Nq h;subst h';rfl)
  | (obtain ⟨h1,_⟩:=qS h;rw [h1];rfl)
theorem EW (I:Inv X Vq σ H s)(R:Rp X.K π H μ):∀ (n:Nat){v:V}{u:M0}{x y:D}{b:Bool},RelV v u->IsD X.K π μ.length H v x->IsD X.K π μ.length H v y->c5 n μ x y=some b->b=true:=by
 intro n
 induction n with
 | zero=>intro v u x y b _ _ _ h;cases h
 | succ n ih=>
  intro v u x y b r hx hy h
  obtain ⟨k,h1,h⟩:=MW.mp h
  obtain ⟨k',h2,h⟩:=MW.mp h
  have a1:=kC I R hx r h1
  have a2:=kC I R hy r h2
  have lists:∀ {vs:List V}{xs ys:List D}{c:Bool},(∀ v∈vs,∃ u,RelV v u)->IsDs X.K π μ.length H vs xs->IsDs X.K π μ.length H vs ys->f9 (c5 n μ) xs ys=some c->c=true:=by
   intro vs
   induction vs with
   | nil=>intro xs ys c _ i1 i2 h;cases i1;cases i2;cases h;rfl
   | cons w vs ihv=>
    intro xs ys c hr i1 i2 h
    cases i1 with
    | cons p1 t1=>
     cases i2 with
     | cons p2 t2=>
      simp only [f9] at h
      obtain ⟨c1,h1,h3⟩:=MW.mp h
      obtain ⟨c2,h4,h5⟩:=M3.mp h3
      obtain ⟨u',ru⟩:=hr w (O1 ..)
      have e1:=ih ru p1 p2 h1
      have e2:=ihv (fun v hv=>hr v (Ot _ hv)) t1 t2 h4
      subst e1;subst e2
      exact h5.symm
  cases a1 with
  | non e1=>
   subst e1
   cases a2 with
   | non _=>simp only [gS] at h;exact (Nq h).symm
   | bl _ e=>cases e
   | int _ _ e=>cases e
   | str _ _ e=>cases e
   | tup _ _ _ e=>cases e
   | lst _ _ _ e=>cases e
  | bl c e1=>
   subst e1
   cases a2 with
   | non e=>cases e
   | bl _ e=>cases e;simp only [gS,beq_self_eq_true] at h;exact (Nq h).symm
   | int _ _ e=>cases e
   | str _ _ e=>cases e
   | tup _ _ _ e=>cases e
   | lst _ _ _ e=>cases e
  | int c t e1=>
   subst e1
   cases a2 with
   | non e=>cases e
   | bl _ e=>cases e
   | int _ _ e=>cases e;simp only [gS,beq_self_eq_true] at h;exact (Nq h).symm
   | str _ _ e=>cases e
   | tup _ _ _ e=>cases e
   | lst _ _ _ e=>cases e
  | str c t e1=>
   subst e1
   cases a2 with
   | non e=>cases e
   | bl _ e=>cases e
   | int _ _ e=>cases e
   | str _ _ e=>cases e;simp only [gS,beq_self_eq_true] at h;exact (Nq h).symm
   | tup _ _ _ e=>cases e
   | lst _ _ _ e=>cases e
  | tup p vs its e1 q i rv t=>
   have z:KdAt X π μ.length H s (.ref p) _:=e1 ▸ KdAt.tup p vs its e1 q i rv t
   rw [e1] at a2
   cases a2 with
   | non e=>cases e
   | bl _ e=>cases e
   | int _ _ e=>cases e
   | str _ _ e=>cases e
   | tup p2 vs2 its2 e2 q2 i2 rv2 t2=>
    cases e2
    have:=I.tuple_inj q q2
    subst this
    exact lists (fun v hv=>by
     obtain ⟨j,hj,rfl⟩:=Og hv
     obtain ⟨u',_,ru⟩:=rv.get (Nh hj)
     exact ⟨u',ru⟩) i i2 h
   | lst p2 vs2 its2 e2 q2 i2 rv2 t2=>
    cases e2
    exact absurd rfl (Od t2 t)
  | lst p vs its e1 q i rv t=>
   rw [e1] at a2
   cases a2 with
   | non e=>cases e
   | bl _ e=>cases e
   | int _ _ e=>cases e
   | str _ _ e=>cases e
   | tup p2 vs2 its2 e2 q2 i2 rv2 t2=>
    cases e2
    exact absurd rfl (Od t t2)
   | lst p2 vs2 its2 e2 q2 i2 rv2 t2=>
    cases e2
    have:=I.list_inj q q2
    subst this
    exact lists (fun v hv=>by
     obtain ⟨j,hj,rfl⟩:=Og hv
     obtain ⟨u',_,ru⟩:=rv.get (Nh hj)
     exact ⟨u',ru⟩) i i2 h
theorem EX (A:NM):A.in1.units=A.units+1:=rfl
theorem w9 (I:Inv X Vq σ H s){A:NM}{n:Nat}(ih:∀ {A:NM}{v v':V}{u u':M0}{x y:D}{b:Bool},A.units+n<PU->RelV v u->RelV v' u'->IsD X.K π μ.length H v x->IsD X.K π μ.length H v' y->c5 n μ x y=some b->EqAt A s u u' b)
  (hu:A.units+(n+1)<PU){u u':M0}{k k':KdD}{b:Bool}(a1:KdAt X π μ.length H s u k)(a2:KdAt X π μ.length H s u' k')(h:gS (c5 n μ) k k'=some b):nP A s u u' (eW (c5 n μ) (kB k) (kB k')):=by
 have core:∀ {vs vs':List V}{its its':List M0}{xs ys:List D}{c:Bool},Vals vs its->Vals vs' its'->IsDs X.K π μ.length H vs xs->IsDs X.K π μ.length H vs' ys->f9 (c5 n μ) xs ys=some c->
   ∀ j (h1:j<its.length)(h2:j<its'.length),EqAt A.in1 s its[j] its'[j] (eW (c5 n μ) xs ys j):=by
  intro vs vs' its its' xs ys c r r' i i' e j h1 h2
  have l1:=r.length
  have l2:=r'.length
  have l3:=i.length
  have l4:=i'.length
  have hx:xs[j]? = some (xs[j]'(by omega)):=Nh _
  have hy:ys[j]? = some (ys[j]'(by omega)):=Nh _
  obtain ⟨v,v1,v2⟩:=i.get hx
  obtain ⟨v',v1',v2'⟩:=i'.get hy
  obtain ⟨w,w1,w2⟩:=r.get v1
  obtain ⟨w',w1',w2'⟩:=r'.get v1'
  rw [Nh h1] at w1
  rw [Nh h2] at w1'
  cases w1
  cases w1'
  exact ih (by rw [EX];omega) w2 w2' v2 v2' ((qS e).2 j _ _ hx hy)
 constructor
 ·intro l b' items items2 e1 e2 t1 t2 j h1 h2
  subst e1;subst e2
  cases a1 with
  | tup p vs its e q i r t=>
   cases e
   cases a2 with
   | tup p2 vs2 its2 e' q2 i2 r2 t'=>
    cases e'
    have z1:items=its.toArray:=by
     obtain ⟨o,g1,g2,n1,g3⟩:=t1
     obtain ⟨o',g1',g2',n1',g3'⟩:=t
     rw [g1] at g1';cases g1'
     rw [g3] at g3'
     injection g3'
    have z2:items2=its2.toArray:=by
     obtain ⟨o,g1,g2,n1,g3⟩:=t2
     obtain ⟨o',g1',g2',n1',g3'⟩:=t'
     rw [g1] at g1';cases g1'
     rw [g3] at g3'
     injection g3'
    subst z1;subst z2
    have:=core r r2 i i2 h j (by simpa using h1) (by simpa using h2)
    simpa [kB] using this
   | lst p2 vs2 its2 e' q2 i2 r2 t'=>
    cases e'
    exact absurd rfl (Od t' t2)
   | non e'=>cases e'
   | bl _ e'=>cases e'
   | int _ _ e'=>cases e'
   | str _ _ e'=>cases e'
  | lst p vs its e q i r t=>
   cases e
   exact absurd rfl (Od t t1)
  | non e=>cases e
  | bl _ e=>cases e
  | int _ _ e=>cases e
  | str _ _ e=>cases e
 ·intro l b' items items2 e1 e2 t1 t2 j h1 h2
  subst e1;subst e2
  cases a1 with
  | lst p vs its e q i r t=>
   cases e
   cases a2 with
   | lst p2 vs2 its2 e' q2 i2 r2 t'=>
    cases e'
    have z1:items=its.toArray:=by
     obtain ⟨o,g1,g2,n1,g3⟩:=t1
     obtain ⟨o',g1',g2',n1',g3'⟩:=t
     rw [g1] at g1';cases g1'
     rw [g3] at g3'
     injection g3'
    have z2:items2=its2.toArray:=by
     obtain ⟨o,g1,g2,n1,g3⟩:=t2
     obtain ⟨o',g1',g2',n1',g3'⟩:=t'
     rw [g1] at g1';cases g1'
     rw [g3] at g3'
     injection g3'
    subst z1;subst z2
    have:=core r r2 i i2 h j (by simpa using h1) (by simpa using h2)
    simpa [kB] using this
   | tup p2 vs2 its2 e' q2 i2 r2 t'=>
    cases e'
    exact absurd rfl (Od t2 t')
   | non e'=>cases e'
   | bl _ e'=>cases e'
   | int _ _ e'=>cases e'
   | str _ _ e'=>cases e'
  | tup p vs its e q i r t=>
   cases e
   exact absurd rfl (Od t1 t)
  | non e=>cases e
  | bl _ e=>cases e
  | int _ _ e=>cases e
  | str _ _ e=>cases e
theorem EY (I:Inv X Vq σ H s)(R:Rp X.K π H μ):∀ (n:Nat){A:NM}{v v':V}{u u':M0}{x y:D}{b:Bool},A.units+n<PU->RelV v u->RelV v' u'->IsD X.K π μ.length H v x->IsD X.K π μ.length H v' y->c5 n μ x y=some b->EqAt A s u u' b:=by
 intro n
 induction n with
 | zero=>intro A v v' u u' x y b _ _ _ _ _ h;cases h
 | succ n ih=>
  intro A v v' u u' x y b hu r r' hx hy h
  have h0:=h
  obtain ⟨k,h1,h⟩:=MW.mp h
  obtain ⟨k',h2,h⟩:=MW.mp h
  have a1:=kC I R hx r h1
  have a2:=kC I R hy r' h2
  by_cases hs:u=u'
  ·subst hs
   have:v=v':=r.inj r'
   subst this
   have:=EW I R (n+1) r hx hy h0
   subst this
   exact EqAt.same _
  ·have he:=w9 I ih hu a1 a2 h
   rw [w8 h]
   exact EV a1.isK a2.isK (by omega) he fun l b' e1 e2 z=>hs (by rw [e1,e2,z])
theorem xA (I:Inv X Vq σ H s)(R:Rp X.K π H μ)(n:Nat){A:NM}{v v':V}{u u':M0}{x y:D}{b:Bool}(hu:A.units+n<PU)(r:RelV v u)(r':RelV v' u')(hx:IsD X.K π μ.length H v x)(hy:IsD X.K π μ.length H v' y)(h:c5 n μ x y=some b) :
  RcAt A s u u' b/\RcNeAt A s u u' (!b):=by
 cases n with
 | zero=>cases h
 | succ n=>
  obtain ⟨k,h1,h⟩:=MW.mp h
  obtain ⟨k',h2,h⟩:=MW.mp h
  have a1:=kC I R hx r h1
  have a2:=kC I R hy r' h2
  have he:=w9 I (A:=A) (EY I R n) hu a1 a2 h
  rw [w8 h]
  exact ⟨qQ a1.isK a2.isK (by omega) he,EU a1.isK a2.isK (by omega) he⟩
end
end L3
namespace L3
open PySem L2
open SeqAt (EqAt RcAt RcNeAt)
section
variable {K:MX}
noncomputable def gT (g:Int->Int->Option Int):D->D->Hm->Option (D×Hm)
 | .int i,.int j,μ=>(g i j).map fun z=>(.int z,μ)
 | _,_,_=>none
theorem xB {g:Int->Int->Option Int}{x y d:D}{μ μ':Hm}(h:gT g x y μ=some (d,μ')):∃ i j z,x=.int i/\y=.int j/\g i j=some z/\d=.int z/\μ'=μ:=by
 unfold gT at h
 split at h
 ·rename_i i j
  obtain ⟨z,h1,h2⟩:=M3.mp h
  cases h2
  exact ⟨i,j,z,rfl,rfl,h1,rfl,rfl⟩
 ·cases h
theorem nQ {Cc:Int->Int->Prop}{g:Int->Int->Option Int}{g':Int->Int->Int}(hg:∀ i j z,g i j=some z->Cc i j/\z=g' i j):cU K (gT g) (rI Cc fun i j=>.int (g' i j)):=by
 intro π H μ x y d μ' vx vy Q R ix iy hm k
 obtain ⟨i,j,z,rfl,rfl,h1,rfl,rfl⟩:=xB hm
 cases ix
 cases iy
 obtain ⟨c,rfl⟩:=hg i j z h1
 exact ⟨i,j,rfl,rfl,c,k π _ H .refl R (.int _)⟩
theorem EZ {g':Int->Int->Int}:cU K (gT fun i j=>some (g' i j)) (eQ fun i j=>.int (g' i j)):=by
 intro π H μ x y d μ' vx vy Q R ix iy hm k
 obtain ⟨i,j,z,rfl,rfl,h1,rfl,rfl⟩:=xB hm
 cases ix
 cases iy
 cases h1
 exact ⟨i,j,rfl,rfl,k π _ H .refl R (.int _)⟩
noncomputable def bZ:=gT fun i j=>some (i - j)
noncomputable def xC:=gT fun i j=>if ((-(2 ^ 64)<i/\i<2 ^ 64)\/(-(2 ^ 64)<j/\j<2 ^ 64))\/(i.natAbs<2 ^ 4000/\j.natAbs<2 ^ 4000)\/Nf i+Nf j<=134217728 then some (i * j) else none
noncomputable def bG:D->D->Hm->Option (D×Hm)
 | .loc a,.int k,μ=>match μ[a]? with
  | some (.lst xs)=>if -(2 ^ 63)<=k/\k<2 ^ 63/\xs.length * k.toNat<=Nd then some (.loc μ.length,μ++[.lst (MY k.toNat xs).flatten]) else none
  | _=>none
 | x,y,μ=>xC x y μ
noncomputable def cV:=gT fun i j=>if 0<j/\j<2 ^ 4000 then some (i / j) else none
noncomputable def bH:=gT fun i j=>if 0<j then some (i % j) else none
noncomputable def bN:=gT fun i j=>if (0<=j/\j<=1000000/\i.natAbs<2 ^ 64)\/(0<=j/\j<=100/\i.natAbs<2 ^ 4000) then some (i ^ j.toNat) else none
noncomputable def CMulB (i j:Int):Prop:=CMul i j\/(i.natAbs<2 ^ 4000/\j.natAbs<2 ^ 4000)\/Nf i+Nf j<=134217728
noncomputable def xD (i j:Int):Prop:=0<j/\j<2 ^ 4000
noncomputable def xE (i j:Int):Prop:=CK i j\/(0<=j/\j<=100/\i.natAbs<2 ^ 4000)
theorem qT {i:Int}(h:i.natAbs<2 ^ 4000):Nf i<=4000:=by
 unfold Nf
 split
 ·exact Ou _
 ·rename_i hz
  have h0:i.natAbs≠0:=by
   intro z
   exact hz (by simpa using z)
  have:=(U8 h0).mpr h
  omega
theorem CMulB.ok {i j:Int}(h:CMulB i j):T5 i j:=by
 rcases h with h|⟨h1,h2⟩|h
 ·exact h.ok
 rotate_left
 ·have hl:Py (Nf i+Nf j)=false:=by
   unfold Py
   rw [decide_eq_false]
   have:bitsLine=134217728:=by decide
   omega
  unfold T5
  rw [hl]
  simp
 ·have b1:=qT h1
  have b2:=qT h2
  have hl:Py (Nf i+Nf j)=false:=by
   unfold Py
   rw [decide_eq_false]
   have:(8000:Int)<=bitsLine:=by decide
   omega
  unfold T5
  rw [hl]
  simp
section
variable {X:Cx}
theorem op_mulB:OpR X (Pd .Mult) (rI CMulB fun i j=>.int (i * j)):=nF fun _ _ _ _ _ _ _ hc q=>U2 q hc.ok
theorem E4:OpR X (Pd .FloorDiv) (rI xD fun i j=>.int (i / j)):=nF fun i j _ _ _ _ _ hc q=>by
 have h1:(0:Int)<j:=hc.1
 have h2:j<2 ^ 4000:=hc.2
 have h0:j.natAbs≠0:=by omega
 have h3:j.natAbs<2 ^ 4000:=by
  have:((2 ^ 4000:Nat):Int)=2 ^ 4000:=by decide
  omega
 have h4:=(U8 h0).mpr h3
 exact U4 (by omega) (by rw [Int.fdiv_eq_ediv_of_nonneg i (by omega)];exact q) (.inl (PyProof.noPylong_of_log2 (by omega)))
theorem E6:OpR X (Pd .Pow) (rI xE fun i j=>.int (i ^ j.toNat)):=nF fun i j _ _ _ _ _ hc q=>by
 rcases hc with hc|⟨h1,h2,h3⟩
 ·exact U0 hc.1 hc.2.1 hc.2.2 q
 ·have b:=qT h3
  refine U1 h1 ?_ q
  have:(Nf i:Int) * j<=4000 * 100:=Int.mul_le_mul (by omega) h2 h1 (by omega)
  omega
end
theorem nR {c:Prop} [Decidable c] {a z:Int}(h:(if c then some a else none)=some z):c/\z=a:=by
 split at h
 ·cases h;exact ⟨by assumption,rfl⟩
 ·cases h
theorem E7:cU K bZ (eQ fun i j=>.int (i - j)):=EZ
theorem Fb:cU K xC (rI CMulB fun i j=>.int (i * j)):=nQ fun i j z h=>by
 have:=nR h
 exact this
theorem xF {π:Nat->Addr}{n:Nat}{H:Hp}{vs:List V}{ds:List D}(h:IsDs K π n H vs ds):∀ k:Nat,IsDs K π n H (MY k vs).flatten (MY k ds).flatten
 | 0=>.nil
 | k+1=>by
  rw [Nt,Nt,OS,OS]
  exact h.append (xF h k)
theorem Fc:cU K bG (fun x y H Q=>rI CMulB (fun i j=>.int (i * j)) x y H Q\/wI x y H Q):=by
 intro π H μ x y d μ' vx vy Q R ix iy hm k
 unfold bG at hm
 split at hm
 ·rename_i a kk
  split at hm
  ·rename_i xs hx
   split at hm
   ·rename_i hb
    cases hm
    cases ix
    cases iy
    obtain ⟨ws,h1,h2⟩:=R.lst a xs hx
    refine .inr ⟨_,kk,ws,rfl,rfl,h1,hb.1,hb.2.1,by rw [h2.length];exact hb.2.2,fun p hp=>?_⟩
    obtain ⟨e2,R2,_⟩:=R.alloc (c:=.lst (MY kk.toNat xs).flatten) (o:=.lst (MY kk.toNat ws).flatten) hp (xF h2 _)
    exact k _ _ _ e2 R2 iJ
   ·cases hm
  ·cases hm
 ·exact .inl (Fb π H μ _ _ d μ' vx vy Q R ix iy hm k)
theorem Fd:cU K cV (rI xD fun i j=>.int (i / j)):=nQ fun i j z h=>by
 have:=nR h
 exact this
theorem Fe:cU K bH (rI (fun _ j=>0<j) fun i j=>.int (i % j)):=nQ fun _ _ _ h=>nR h
theorem Ff:cU K bN (rI xE fun i j=>.int (i ^ j.toNat)):=nQ fun i j z h=>by
 have:=nR h
 exact this
noncomputable def qU:D->Option D
 | .int i=>some (.int (-i))
 | _=>none
noncomputable def aL:D->D->Hm->Option (D×Hm)
 | .int i,.int j,μ=>some (.int (i+j),μ)
 | .str x,.str y,μ=>if x.length+y.length<=Nd then some (.str (x++y),μ) else none
 | .loc a,.loc b,μ=>match μ[a]?,μ[b]? with
  | some (.lst xs),some (.lst ys)=>if xs.length+ys.length<=Nd then some (.loc μ.length,μ++[.lst (xs++ys)]) else none
  | _,_=>none
 | _,_,_=>none
noncomputable def qV (K:MX):R2:=fun x y H Q=>eQ (fun i j=>.int (i+j)) x y H Q\/(∃ i j,x=.str i/\y=.str j/\i.length+j.length<=Nd/\Q (.str (i++j)) H)\/wH x y H Q
theorem Fg {X:Cx}:OpR X (Pd .Add) (qV X.K):=op_add.or (op_add_str.or DN)
noncomputable abbrev qW (K:MX):R2:=qV K
theorem Fh {X:Cx}:OpR X (Pd .Add) (qW X.K):=Fg
theorem qX {K:MX}{x y:V}{H:Hp}{Q:VK}(h:qV K x y H Q):qW K x y H Q:=h
theorem Fi:cU K aL (qW K):=by
 intro π H μ x y d μ' vx vy Q R ix iy hm k
 unfold aL at hm
 split at hm
 ·cases hm
  cases ix
  cases iy
  exact qX (.inl ⟨_,_,rfl,rfl,k π _ H .refl R (.int _)⟩)
 ·split at hm
  ·rename_i hl
   cases hm
   cases ix
   cases iy
   exact qX (.inr (.inl ⟨_,_,rfl,rfl,hl,k π _ H .refl R (.str _)⟩))
  ·cases hm
 ·split at hm
  ·rename_i xs ys ha hb
   split at hm
   ·rename_i hl
    cases hm
    cases ix
    cases iy
    obtain ⟨vs,h1,h2⟩:=R.lst _ xs ha
    obtain ⟨ws,h3,h4⟩:=R.lst _ ys hb
    refine qX (.inr (.inr ⟨_,_,vs,ws,rfl,rfl,by first|exact h1|exact .inl (.inl h1),h3,by rw [h2.length,h4.length];exact hl,fun p hp=>?_⟩))
    obtain ⟨e2,R2,q⟩:=R.alloc (c:=.lst (xs++ys)) (o:=.lst (vs++ws)) hp (h2.append h4)
    exact k _ _ _ e2 R2 iJ
   ·cases hm
  ·cases hm
 ·cases hm
noncomputable def kD (p:Int->Int->Bool):D->D->Hm->Option (D×Hm)
 | .int i,.int j,μ=>some (.bl (p i j),μ)
 | _,_,_=>none
theorem iK {p:Int->Int->Bool}:cU K (kD p) (eQ fun i j=>.bl (p i j)):=by
 intro π H μ x y d μ' vx vy Q R ix iy hm k
 unfold kD at hm
 split at hm
 ·cases hm
  cases ix
  cases iy
  exact ⟨_,_,rfl,rfl,k π _ H .refl R (.bl _)⟩
 ·cases hm
noncomputable def dH:=kD fun i j=>decide (i<j)
noncomputable def kE:=kD fun i j=>decide (i<=j)
noncomputable def gU:=kD fun i j=>decide (j<i)
noncomputable def jA:=kD fun i j=>decide (j<=i)
noncomputable def qY (K:MX)(ne:Bool):R2:=fun x y H Q=>∃ π μ dx dy b,Rp K π H μ/\IsD K π μ.length H x dx/\IsD K π μ.length H y dy/\c5 8 μ dx dy=some b/\Q (.bl (if ne then !b else b)) H
theorem xG {X:Cx}(hu:X.A.units+8<PU):OpR X (OV .Eq) (qY X.K false):=by
 intro Vq s σ H x y v u Q I rx ry h
 obtain ⟨π,μ,dx,dy,b,R,ix,iy,e,q⟩:=h
 exact (xA I R 8 hu rx ry ix iy e).1 _ _ _ _ ⟨.bl b,H,I,rfl,q⟩
theorem xH {X:Cx}(hu:X.A.units+8<PU):OpR X (OV .NotEq) (qY X.K true):=by
 intro Vq s σ H x y v u Q I rx ry h
 obtain ⟨π,μ,dx,dy,b,R,ix,iy,e,q⟩:=h
 exact (xA I R 8 hu rx ry ix iy e).2 _ _ _ _ ⟨.bl (!b),H,I,rfl,q⟩
noncomputable def bE (ne:Bool):D->D->Hm->Option (D×Hm):=fun x y μ=>(c5 8 μ x y).map fun b=>(.bl (if ne then !b else b),μ)
theorem nS {ne:Bool}:cU K (bE ne) (qY K ne):=by
 intro π H μ x y d μ' vx vy Q R ix iy hm k
 obtain ⟨b,h1,h2⟩:=M3.mp hm
 cases h2
 exact ⟨π,μ,x,y,b,R,ix,iy,h1,k π _ H .refl R (.bl _)⟩
end
section
variable {X:Cx}{a b c:M5}{ma mb mc:ME}{pos:Om}
theorem nT {k:Nat}{A:NM}(r:Room k A):A.units+8<PU:=by have:=r.un;omega
theorem Fj (ha:PE X a (tM X.K ma)):PE X (.UnaryOp .USub a pos) (tM X.K (fun ρ μ=>(ma ρ μ).bind fun p=>(qU p.1).map fun d=>(d,p.2))):=cJ (CJ CN ha) (by
 rintro σ H Q ⟨π,ρ,μ,d,μ',R,E,hm,k⟩
 obtain ⟨⟨x,μ1⟩,h1,hm⟩:=MW.mp hm
 obtain ⟨y,h2,h3⟩:=M3.mp hm
 cases h3
 cases x with
 | int i=>
  cases h2
  refine ⟨π,ρ,μ,_,_,R,E,h1,fun π1 v1 H1 e1 R1 i1=>?_⟩
  cases i1
  exact ⟨_,rfl,k π1 _ H1 e1 R1 (.int _)⟩
 | _=>cases h2)
theorem Fm {x:Str}{n:String}(hg:Gl X x)(hm:X.mg x=none)(hv:N7 x=some (.type n))(hn:x ≠ "__name__":=by decide) (hd:(x == ("__debug__":Str))=false:=by decide):PE X (.Name x pos) (tM X.K (mC (.ty n))):=
 j6 (BN (v:=.ty n) hg hm hv rfl hn hd) fun _ _ _=>.ty n
end
noncomputable def qZ (μ:Hm):D->Option String
 | .non=>some "NoneType"
 | .bl _=>some "bool"
 | .int _=>some "int"
 | .str _=>some "str"
 | .tup _=>some "tuple"
 | .rol _=>some "list"
 | .loc a=>match μ[a]? with
  | some (.lst _)=>some "list"
  | some (.dK _)=>some "dict"
  | _=>none
 | .ty _=>none
noncomputable def nU (t c:String):Option Bool:=match c with
 | "int"=>some (t == "int" || t == "bool")
 | "bool"=>some (t == "bool")
 | "str"=>some (t == "str")
 | "list"=>some (t == "list")
 | "tuple"=>some (t == "tuple")
 | "dict"=>some (t == "dict")
 | _=>none
noncomputable def iL:MF:=fun ds μ=>match ds with
 | [x,.ty c]=>(qZ μ x).bind fun t=>(nU t c).map fun b=>(.bl b,μ)
 | _=>none
theorem iM (K:MX){t c:String}{b:Bool}(ht:t = "NoneType"\/t = "bool"\/t = "int"\/t = "str"\/t = "tuple"\/t = "list"\/t = "dict") (h:nU t c=some b):Ti K (.type t) (.type c)=some b:=by
 unfold nU at h
 split at h<;>first
  | cases h;done
  | (have h':=Nq h;subst h'
     rcases ht with rfl|rfl|rfl|rfl|rfl|rfl|rfl<;>first|rfl|decide +kernel|(unfold Ti;simp;rfl))
end L3
namespace L3
open PySem L2
noncomputable abbrev MG:=D->aJ->Hm->Option aJ
noncomputable def eE (K:MX)(g:MG):TG:=fun v σ H Q=>∃ π ρ μ d ρ',Rp K π H μ/\En K π μ.length H σ ρ/\IsD K π μ.length H v d/\g d ρ μ=some ρ'/\∀ σ',En K π μ.length H σ' ρ'->Q σ' H
noncomputable def eY (i:Nat):MG:=fun d ρ _=>some (ρ.set i (some d))
section
variable {X:Cx}{pos:Om}
theorem xI {i:Nat}{x:Str}(hN:X.N.Nodup)(hi:X.N[i]? = some x)(hx:Loc X.env.scope x)(hf:X.fn x=true\/X.env.scope.names.lookup x=some .local:=by first|exact .inl rfl|exact .inr rfl|assumption):PG X (.Name x pos) (eE X.K (eY i)):=by
 intro Vq s σ H v u Q I r h
 obtain ⟨π,ρ,μ,d,ρ',R,E,hd,hm,k⟩:=h
 cases hm
 exact u3 hN hi hx hf Vq s σ H v u Q I r (k _ (E.set hd i))
noncomputable def Fn (K:MX)(tl:TE):TI:=fun σ H R=>tl σ H fun x H1=>∃ a,x=.ref a/\(((∃ xs,SqL K H1 a xs)/\R (pS K a) H1)\/((∃ xs,SqT K H1 a xs)/\R (pT K a) H1))
theorem Fp {l tg:M5}{tl:TE}(hl:PE X l tl):PI X tg l (Fn X.K tl):=by
 intro Vq s σ H R I h
 refine aT (hl Vq s σ H _ I h) fun v s1 ⟨x,H1,I1,r1,q1⟩=>?_
 obtain ⟨a,e,q⟩:=q1
 subst e
 cases r1
 rcases q with ⟨⟨xs,hq⟩,q⟩|⟨⟨xs,hq⟩,q⟩
 ·obtain ⟨its,rv,p,hz⟩:=I1.list hq
  refine Pm p.isList ?_
  refine ⟨s1.heap.objs.size,[s1.heap.objs.size],_,_,H1,rfl,I1.kept (t':=s1.toks) fun b o e=>M6 _ e,Cv a _,⟨_,Nu _ rfl,rfl,rfl⟩,fun b hb=>?_,q⟩
  have e:b=s1.heap.objs.size:=by simpa using hb
  subst e
  exact I1.fpOk (Ni _) (I1.hok.fresh (Ni _))
 ·obtain ⟨its,rv,p,hz⟩:=I1.tuple hq
  refine Rw (show s1.heap.IsTuple a its.toArray from p) ?_
  refine ⟨s1.heap.objs.size,[s1.heap.objs.size],_,_,H1,rfl,I1.kept (t':=s1.toks) fun b o e=>M6 _ e,Cw a _,⟨_,Nu _ rfl,rfl,rfl⟩,fun b hb=>?_,q⟩
  have e:b=s1.heap.objs.size:=by simpa using hb
  subst e
  exact I1.fpOk (Ni _) (I1.hok.fresh (Ni _))
end
structure Wk (K:MX)(J:It)(src:Hm->Nat->Option (Option D))(π:Nat->Addr)(n:Nat)(H:Hp):Prop where
 stop:∀ π' μ H' i,Ext π n H π' μ.length H'->Rp K π' H' μ->src μ i=some none->J.stop i H'
 go:∀ π' μ H' i d,Ext π n H π' μ.length H'->Rp K π' H' μ->src μ i=some (some d)->J.go i H'/\∀ x H2,J.yld i H' x H2->Ext π' μ.length H' π' μ.length H2/\Rp K π' H2 μ/\IsD K π' μ.length H2 x d
noncomputable def gW (x:D):Hm->Nat->Option (Option D):=fun μ i=>(bD μ x).map fun xs=>xs[i]?
theorem Fq {K:MX}{π:Nat->Addr}{μ:Hm}{H:Hp}{v:V}{x:D}{xs:List D}(R:Rp K π H μ)(h:IsD K π μ.length H v x)(hs:bD μ x=some xs) :
  ∃ a,v=.ref a/\(((∃ vs,SqL K H a vs)/\Wk K (pS K a) (gW x) π μ.length H)\/((∃ vs,SqT K H a vs)/\Wk K (pT K a) (gW x) π μ.length H)):=by
 cases h with
 | @tup p vs ds q t=>
  refine ⟨p,rfl,.inr ⟨⟨vs,q⟩,⟨fun π' μ' H' i e R' z=>?_,fun π' μ' H' i d e R' z=>?_⟩⟩⟩
  ·simp only [gW,bD,NK] at z
   have z':ds[i]? = none:=Nq z
   exact ⟨vs,e.sqT q,by rw [t.length];exact NZ.mp z'⟩
  ·simp only [gW,bD,NK] at z
   have z':ds[i]? = some d:=Nq z
   obtain ⟨w,h1,h2⟩:=t.get z'
   refine ⟨⟨vs,w,e.sqT q,h1⟩,fun y H2 ⟨e1,e2⟩=>?_⟩
   subst e1
   have:=e2 vs (e.sqT q)
   rw [h1] at this
   cases this
   exact ⟨.refl,R',h2.mono e⟩
 | @rol p vs ds q t=>
  refine ⟨p,rfl,.inl ⟨⟨vs,q.sq⟩,⟨fun π' μ' H' i e R' z=>?_,fun π' μ' H' i d e R' z=>?_⟩⟩⟩
  ·simp only [gW,bD,NK] at z
   have z':ds[i]? = none:=Nq z
   exact ⟨vs,(e.roL q).sq,by rw [t.length];exact NZ.mp z'⟩
  ·simp only [gW,bD,NK] at z
   have z':ds[i]? = some d:=Nq z
   obtain ⟨w,h1,h2⟩:=t.get z'
   refine ⟨⟨vs,w,(e.roL q).sq,h1⟩,fun y H2 ⟨e1,e2⟩=>?_⟩
   subst e1
   have:=e2 vs (e.roL q).sq
   rw [h1] at this
   cases this
   exact ⟨.refl,R',h2.mono e⟩
 | @loc a ha=>
  have hc:∃ vs,H (π a)=some (.lst vs):=by
   simp only [bD] at hs
   split at hs
   ·rename_i ys hy
    obtain ⟨vs,h1,_⟩:=R.lst a ys hy
    exact ⟨vs,h1⟩
   ·cases hs
  obtain ⟨vs0,hv0⟩:=hc
  refine ⟨π a,rfl,.inl ⟨⟨vs0,.of hv0⟩,⟨fun π' μ' H' i e R' z=>?_,fun π' μ' H' i d e R' z=>?_⟩⟩⟩
  ·simp only [gW,bD] at z
   split at z
   ·rename_i ys hy
    obtain ⟨vs,h1,h2⟩:=R'.lst a ys hy
    rw [e.pi a ha] at h1
    have z':ys[i]? = none:=Nq z
    exact ⟨vs,.of h1,by rw [h2.length];exact NZ.mp z'⟩
   ·cases z
  ·simp only [gW,bD] at z
   split at z
   ·rename_i ys hy
    obtain ⟨vs,h1,h2⟩:=R'.lst a ys hy
    rw [e.pi a ha] at h1
    have z':ys[i]? = some d:=Nq z
    obtain ⟨w,h3,h4⟩:=h2.get z'
    refine ⟨⟨vs,w,.of h1,h3⟩,fun y H2 ⟨e1,e2⟩=>?_⟩
    subst e1
    have:=e2 vs (.of h1)
    rw [h3] at this
    cases this
    exact ⟨.refl,R',h4⟩
   ·cases z
 | _=>cases hs
noncomputable def eZ (src:Hm->Nat->Option (Option D))(g:MG)(b:MS):Nat->Nat->MS
 | 0,_,_,_=>none
 | n+1,i,ρ,μ=>(src μ i).bind fun o=>match o with
  | none=>some (.nx,ρ,μ)
  | some d=>(g d ρ μ).bind fun ρ1=>(b ρ1 μ).bind fun p=>match p.1 with
   | .nx=>eZ src g b n (i+1) p.2.1 p.2.2
   | .ct=>eZ src g b n (i+1) p.2.1 p.2.2
   | .bk=>some (.nx,p.2.1,p.2.2)
   | .rt d=>some (.rt d,p.2.1,p.2.2)
theorem Fs {K:MX}{J:It}{src:Hm->Nat->Option (Option D)}{g:MG}{b:MS}{π:Nat->Addr}{n0:Nat}{H0:Hp}(W:Wk K J src π n0 H0){E:Ends}{fl:Fl}{ρ':aJ}{μ':Hm}(hE:i8 K E π n0 H0 fl ρ' μ')
  {π1:Nat->Addr}{μ1:Hm}{H1:Hp}{ρ1:aJ}{σ1:St}{n:Nat}(e1:Ext π n0 H0 π1 μ1.length H1)(R1:Rp K π1 H1 μ1)(E1:En K π1 μ1.length H1 σ1 ρ1)(h:eZ src g b n 0 ρ1 μ1=some (fl,ρ',μ')) :
  ∃ Wd:Nat->Nat->St->Hp->Prop,(∃ m,Wd 0 m σ1 H1)/\∀ i m σ H,Wd i m σ H->
   (J.stop i H/\E.nx σ H)\/(J.go i H/\∃ N:St->Hp->Prop,(∀ σ' H',N σ' H'->∃ m',m'<m/\Wd (i+1) m' σ' H')/\∀ x H',J.yld i H x H'->eE K g x σ H' fun σ2 H2=>cI K b { E with nx:=N,ct:=N,bk:=E.nx } σ2 H2):=by
 have lift:∀ {π2:Nat->Addr}{n2:Nat}{H2:Hp}(e:Ext π n0 H0 π2 n2 H2){fl:Fl}{ρ':aJ}{μ':Hm},i8 K E π n0 H0 fl ρ' μ'->i8 K E π2 n2 H2 fl ρ' μ':=fun {π2 n2 H2} e {fl ρ' μ'} k=>by
  cases fl with
  | nx=>exact fun π3 σ3 H3 e3 R3 E3=>k π3 σ3 H3 (e.trans e3) R3 E3
  | bk=>exact fun π3 σ3 H3 e3 R3 E3=>k π3 σ3 H3 (e.trans e3) R3 E3
  | ct=>exact fun π3 σ3 H3 e3 R3 E3=>k π3 σ3 H3 (e.trans e3) R3 E3
  | rt d=>exact KC.after k e
 refine ⟨fun i m σ H=>∃ π2 μ2 ρ2,Ext π n0 H0 π2 μ2.length H/\Rp K π2 H μ2/\En K π2 μ2.length H σ ρ2/\eZ src g b m i ρ2 μ2=some (fl,ρ',μ'),⟨n,π1,μ1,ρ1,e1,R1,E1,h⟩,?_⟩
 rintro i m σ H ⟨π2,μ2,ρ2,e2,R2,E2,h2⟩
 cases m with
 | zero=>cases h2
 | succ m=>
  obtain ⟨o,h3,h4⟩:=MW.mp h2
  cases o with
  | none=>
   cases h4
   exact .inl ⟨W.stop π2 _ H i e2 R2 h3,hE π2 σ H e2 R2 E2⟩
  | some d=>
   obtain ⟨g1,g2⟩:=W.go π2 μ2 H i d e2 R2 h3
   obtain ⟨ρ3,h5,h6⟩:=MW.mp h4
   obtain ⟨⟨f4,ρ4,μ4⟩,h7,h8⟩:=MW.mp h6
   refine .inr ⟨g1,fun σ' H'=>∃ π5 ρ5 μ5,Ext π n0 H0 π5 μ5.length H'/\Rp K π5 H' μ5/\En K π5 μ5.length H' σ' ρ5/\eZ src g b m (i+1) ρ5 μ5=some (fl,ρ',μ'),
    fun σ' H' ⟨π5,ρ5,μ5,a1,a2,a3,a4⟩=>⟨m,OI _,π5,μ5,ρ5,a1,a2,a3,a4⟩,fun x H' y=>?_⟩
   obtain ⟨ex,Rx,hx⟩:=g2 x H' y
   have e2:=e2.trans ex
   refine ⟨π2,ρ2,μ2,d,ρ3,Rx,E2.mono ex,hx,h5,fun σ3 E3=>⟨π2,ρ3,μ2,f4,ρ4,μ4,Rx,E3,h7,?_⟩⟩
   cases f4 with
   | nx=>exact fun π5 σ5 H5 e5 R5 E5=>⟨π5,ρ4,μ4,e2.trans e5,R5,E5,h8⟩
   | ct=>exact fun π5 σ5 H5 e5 R5 E5=>⟨π5,ρ4,μ4,e2.trans e5,R5,E5,h8⟩
   | bk=>
    cases h8
    exact fun π5 σ5 H5 e5 R5 E5=>hE π5 σ5 H5 (e2.trans e5) R5 E5
   | rt d'=>
    cases h8
    exact KC.after hE e2
section
variable {X:Cx}{pos:Om}{tg iter:M5}{body:List Stmt}{mi:ME}{g:MG}{mb:MS}
noncomputable def iN (lo:Int)(n:Nat):Hm->Nat->Option (Option D):=fun _ i=>some (if i<n then some (.int (lo+i)) else none)
theorem Ft {K:MX}{lo:Int}{k:Nat}{π:Nat->Addr}{n:Nat}{H:Hp}:Wk K (nD lo k) (iN lo k) π n H:=by
 refine ⟨fun π' μ H' i e R z=>?_,fun π' μ H' i d e R z=>?_⟩
 ·have z':=Nq z
  split at z'
  ·cases z'
  ·exact PY.mp (by assumption)
 ·have z':=Nq z
  split at z'
  ·cases z'
   rename_i h
   exact ⟨h,fun x H2 ⟨e1,e2⟩=>by subst e1;rw [e2];exact ⟨.refl,R,.int _⟩⟩
  ·cases z'
end
end L3
namespace L3
open PySem L2
noncomputable def kH (y:Str):Str:="#"++y
noncomputable def a9 (xs N:List Str):List Str:=N.map fun y=>if xs.contains y then kH y else y
theorem jB (xs N:List Str):(a9 xs N).length=N.length:=by unfold a9;simp
theorem Fu {xs N:List Str}{i:Nat}{y:Str}(h:(a9 xs N)[i]? = some y):∃ y0,N[i]? = some y0/\((xs.contains y0=true/\y=kH y0)\/(xs.contains y0=false/\y=y0)):=by
 unfold a9 at h
 rw [ND] at h
 obtain ⟨y0,h1,h2⟩:=M3.mp h
 refine ⟨y0,h1,?_⟩
 cases hc:xs.contains y0 with
 | true=>rw [hc] at h2;exact .inl ⟨rfl,by simpa using h2.symm⟩
 | false=>rw [hc] at h2;exact .inr ⟨rfl,by simpa using h2.symm⟩
noncomputable def b8 (X:Cx)(scope:O3)(cl:List (Str×Addr))(C:Addr)(N:List Str)(s₀:M4)(H₀:Hp)(fp:List Addr):Cx:=
 { X with N:=N,s₀:=s₀,H₀:=H₀,env:=PR scope cl C X.env,outer:=X.stack,stack:=X.stack,ex:=fp,fn:=fun _=>false,pn:=[],xe:=fun _ _=>False }
theorem xJ {env:Rf}:∀ (names:List (Str×OW))(x:Str),(names.map fun (n,k)=>if (k == OA&&env.scope.kind == .function&&env.kindOf n == some .cell) then (n,OL) else (n,k)).lookup x
  = (names.lookup x).map fun k=>if (k == OA&&env.scope.kind == .function&&env.kindOf x == some .cell) then OL else k
 | [],_=>rfl
 | (n,k)::r,x=>by
  have ih:=xJ (env:=env) r x
  rw [Nj]
  by_cases hx:x=n
  ·subst hx
   have key:∀ (k':OW)(l:List (Str×OW)),QL x ((x,k')::l)=some k':=fun k' l=>by simp [PL]
   rw [key]
   show QL x ((if (k == OA&&env.scope.kind == .function&&env.kindOf x == some .cell)=true then (x,OL) else (x,k))::_)=some (if (k == OA&&env.scope.kind == .function&&env.kindOf x == some .cell)=true then OL else k)
   split
   ·rw [key]
   ·rw [key]
  ·have hx':(x == n)=false:=by simpa using hx
   have key:∀ (k':OW)(l:List (Str×OW)),QL x ((n,k')::l)=QL x l:=fun k' l=>by simp only [PL,hx']
   rw [key]
   show QL x ((if (k == OA&&env.scope.kind == .function&&env.kindOf n == some .cell)=true then (n,OL) else (n,k))::_)=_
   split
   ·rw [key]
    exact ih
   ·rw [key]
    exact ih
structure CompOk (X:Cx)(scope:O3)(cl:List (Str×Addr))(xs:List Str):Prop where
 clos:Uk scope X.env=pure cl
 nocell:∀ y∈scope.names,y.2≠.cell
 kind:scope.kind=.function
 names:∀ y∈scope.names,y.2=.local->scope.names.lookup y.1=some .local
 here:∀ x∈xs,scope.names.lookup x=some .local
 sub:∀ y c,cl.lookup y=some c->X.env.cells.lookup y=some c
 free:∀ y,scope.names.lookup y=some .free->(X.env.kindOf y=some .cell\/X.env.kindOf y=some .free)/\∃ c,cl.lookup y=some c
 own:∀ y,scope.names.lookup y=some .local->y∉a9 xs X.N
 hidn:∀ y∈X.N,xs.contains y=true->scope.names.lookup (kH y)=none
section
variable {X:Cx}{scope:O3}{cl:List (Str×Addr)}{xs:List Str}
theorem CompOk.kindOf (O:CompOk X scope cl xs)(C:Addr)(y:Str):(PR scope cl C X.env).kindOf y=(scope.names.lookup y).map fun k=>if (k == OA&&X.env.scope.kind == .function&&X.env.kindOf y == some .cell) then OL else k:=
 xJ scope.names y
theorem CompOk.outer (O:CompOk X scope cl xs){C:Addr}{y:Str}(h:(PR scope cl C X.env).kindOf y=some .cell\/(PR scope cl C X.env).kindOf y=some .free):scope.names.lookup y=some .free:=by
 rw [O.kindOf] at h
 cases q:scope.names.lookup y with
 | none=>rw [q] at h;rcases h with h|h<;>cases h
 | some k=>
  rw [q] at h
  cases k with
  | free=>rfl
  | cell=>exact absurd rfl (O.nocell _ (NW q))
  | «local»=>rcases h with h|h<;>simp at h
  | globalExplicit=>rcases h with h|h<;>simp at h
  | globalImplicit=>rcases h with h|h<;>simp at h
theorem CompOk.inv {Vq:List (Addr×OE)}{σ:St}{H:Hp}{s:M4}{fp:List Addr}{h₁:N6}{tk:Nat}(O:CompOk X scope cl xs)(I:Inv X Vq σ H s)(hfp:∀ b∈fp,eP X Vq H b)(hob:∀ b∈fp,∃ o,s.heap.get? b=some o){m:Str->Option M0}
  (hns:h₁.Ns s.heap.objs.size m)(hk:∀ b o,s.heap.get? b=some o->h₁.get? b=some o) :
  Inv (b8 X scope cl s.heap.objs.size (a9 xs X.N++xs) s H fp) [] (σ++MY xs.length none) H { s with heap:=h₁,toks:=tk }:=by
 refine ⟨⟨I.ok.mod,O.kind,I.ok.glob,I.ok.blt,Ni _,fun y z c h1 h2=>?_,fun y hy=>?_,(fun y c h=>by cases h),I.ok.hd,I.ok.frames,.inl rfl,fun b hb=>?_,fun b o e=>I.bs b o e,N9 I.ok.bsz I.sz,fun b o e hb=>?_,fun b hb hb2=>?_,I.stack,I.stkFree⟩,
  rfl,I.bare,Un.kept hk,⟨m,hns,fun i y v h1 h2 h3=>?_⟩,fun y c h=>?_,I.hok.fresh (Ni _),fun y c h=>I.freeC y c (O.sub y c h),fun p hp=>absurd (show p∈([]:List (Addr×OE)) from hp) (by simp),I.hok.kept hk,?_⟩
 ·exact I.ok.inj y z c (O.sub y c h1) (O.sub z c h2)
 ·exact (O.free y (O.outer hy)).2
 ·obtain ⟨f0,f1,f2,f3,f4,f5⟩:=hfp b hb
  obtain ⟨o,ho⟩:=hob b hb
  exact ⟨Nr (Nc ho),fun y c h=>f4 y c (O.sub y c h)⟩
 ·obtain ⟨f0,f1,f2,f3,f4,f5⟩:=hfp b hb
  rcases f3 with f3|f3
  ·exact I.ok.noex b o e f3
  ·exact absurd (Ny (Nc (I.ok.bs b o e).1) f3) (Oe _)
 ·obtain ⟨f0,f1,f2,f3,f4,f5⟩:=hfp b hb
  rcases NN.mp (I.stkSub b hb2) with z|z
  ·exact f1 z
  ·exact f2 z
 ·have hi:i<σ.length:=by
   by_cases hi:i<σ.length
   ·exact hi
   ·rw [NT (PY.mp hi),OY] at h2
    split at h2<;>cases h2
  rw [NB hi] at h2
  have h0':(a9 xs X.N)[i]? = some y:=by
   have h1'':(a9 xs X.N++xs)[i]? = some y:=h1
   rw [NB (by rw [jB,<- I.len];exact hi)] at h1''
   exact h1''
  have notown:scope.names.lookup y≠some .local:=fun z=>O.own y z (OQ h0')
  have hk':=O.kindOf s.heap.objs.size y
  have h1':X.N[i]? = some y:=by
   obtain ⟨y0,q1,q2⟩:=Fu h0'
   rcases q2 with ⟨q2,q3⟩|⟨q2,q3⟩
   ·exfalso
    have hz:=O.hidn y0 (OQ q1) q2
    rw [<- q3] at hz
    rw [hz] at hk'
    have h3':(PR scope cl s.heap.objs.size X.env).kindOf y=some .local\/(PR scope cl s.heap.objs.size X.env).kindOf y=some .cell\/(PR scope cl s.heap.objs.size X.env).kindOf y=some .free:=h3
    rw [hk'] at h3'
    rcases h3' with h3'|h3'|h3'<;>cases h3'
   ·rw [q3];exact q1
  have h3':(PR scope cl s.heap.objs.size X.env).kindOf y=some .cell\/(PR scope cl s.heap.objs.size X.env).kindOf y=some .free:=by
   rcases h3 with h3|h3|h3
   ·exfalso
    have h3':(PR scope cl s.heap.objs.size X.env).kindOf y=some .local:=h3
    rw [hk'] at h3'
    cases q:scope.names.lookup y with
    | none=>rw [q] at h3';cases h3'
    | some k=>
     rw [q] at h3'
     cases k with
     | «local»=>exact notown q
     | cell=>simp at h3'
     | free=>
      simp only [NK] at h3'
      split at h3'<;>cases h3'
     | globalExplicit=>simp at h3'
     | globalImplicit=>simp at h3'
   ·exact .inl h3
   ·exact .inr h3
  obtain ⟨hf,c,hc⟩:=O.free y (O.outer h3')
  obtain ⟨m0,hn0,hl0⟩:=I.loc
  obtain ⟨u,r,l⟩:=hl0 i y v h1' h2 (by rcases hf with hf|hf;exact .inr (.inl hf);exact .inr (.inr hf))
  refine ⟨u,r,.inr ⟨h3',c,hc,?_⟩⟩
  rcases l with ⟨lk,_⟩|⟨_,c',e',z⟩
  ·exfalso
   rcases hf with hf|hf
   ·rw [hf] at lk;cases lk
   ·rw [hf] at lk;cases lk
  ·rw [O.sub y c hc] at e'
   cases e'
   obtain ⟨o,ho,hd⟩:=z
   exact ⟨o,hk c o ho,hd⟩
 ·obtain ⟨v,q⟩:=I.cell y c (O.sub y c h)
  exact ⟨v,by obtain ⟨o,ho,hd⟩:=q;exact ⟨o,hk c o ho,hd⟩⟩
 ·show (σ++MY xs.length none).length=(a9 xs X.N++xs).length
  rw [Nk,Nk,I.len,N0,jB]
theorem CompOk.back {Vq pl:List (Addr×OE)}{σ σ':St}{H H':Hp}{s s1:M4}{fp:List Addr}{h':N6}{N:List Str}(I:Inv X Vq σ H s)(hfp:∀ b∈fp,eP X Vq H b)
  (J:Inv (b8 X scope cl s.heap.objs.size N s H fp) pl σ' H' s1)(hs:∀ b o,b≠s.heap.objs.size->s1.heap.get? b=some o->h'.get? b=some o):Inv X Vq σ H' { s1 with heap:=h' }:=by
 have u:Un (eM X.stack) fp H H' s.heap h':=by
  have u0:Un (eM X.stack) fp H H' s.heap s1.heap:=J.base
  have ne:∀ b o,s.heap.get? b=some o->b≠s.heap.objs.size:=fun b o e=>Nr (Nc e)
  refine ⟨fun b o e n hb hx=>hs b o (ne b o e) (u0.keep b o e n hb hx),fun b o e n hb hx=>?_,u0.free,fun b o e hx=>?_,u0.tups,u0.frzs,u0.tbls⟩
  ·obtain ⟨sl,q⟩:=u0.slot b o e n hb hx
   exact ⟨sl,hs b _ (ne b o e) q⟩
  ·obtain ⟨o',q⟩:=u0.there b o e hx
   exact ⟨o',hs b _ (ne b o e) q⟩
 have hfree:H' s.heap.objs.size=none:=J.free
 have hok:HOk X.prog X.w H' h':=fun b v e=>by
  refine (J.hok b v e).stay (fun c w hc q=>hs c w ?_ q) (fun _ q=>q) fun _ _ q=>q
  rcases hc with z|z
  ·rw [z]
   intro z2
   rw [z2,hfree] at e
   cases e
  ·intro z2
   rw [z2,hfree] at z
   cases z
 have hos:s1.os=s.os:=J.os
 obtain ⟨hh,g,d,t,os'⟩:=s1
 obtain rfl:os'=s.os:=hos
 have r:=Inv.call (X:=X) (Vq:=Vq) (σ:=σ) (H:=H) (s:=s) (h':=h') (g':=g) (d':=d) (t':=t) (ch:=fp) I u hok J.bare fun b hb=>let ⟨f0,f1,f2,f3,f4,f5⟩:=hfp b hb;⟨f3,f1,f4,f5⟩
 exact r
end
theorem Fv {prog:Nz}{w:NP}{A:NM}{R:Um->M4->Prop}{s:M4}{elt target iter:M5}{ifs:List M5}{scope:O3}{pos:Om}{it acc:M0}{env:Rf}(I:Nat->M4->Prop)
  (turn:∀ n s,I n s->NI (NC prog w) A (Vh it) (fun r s₁=>match r with
   | none=>R (.ok .next) s₁
   | some v=>NI (NC prog w) A (QZ target it v) (fun _ s₁'=>NI (NC prog w) A (Rz target env v) (fun _ s₂=>
     NI (NC prog w) A (forIn ifs true fun c r=>if r=true then do let ok <- Tf c env (eval c env);pure (Po ok) else pure (Po r)) (fun ok s₃=>
      if ok=true then NI (NC prog w) A (eval elt env) (fun x s₄=>
       NI (NC prog w) A (call (.builtin "list.append") [acc,x]) (fun _ s₅=>∃ m,m<n/\I m s₅) (fun _ _=>False) s₄) (fun _ _=>False) s₃
      else ∃ m,m<n/\I m s₃) (fun _ _=>False) s₂) (fun _ _=>False) s₁') (fun _ _=>False) s₁) (fun _ _=>False) s)
  (n:Nat)(h:I n s) :
  QR (NC prog w) A (.compLoop (.ListComp elt [⟨target,iter,ifs,0⟩] scope pos) 0 it acc env) R s:=by
 refine codeAny_loop rfl I (fun n s hI=>?_) n h
 show NI _ A ((compTurn (.ListComp elt [⟨target,iter,ifs,0⟩] scope pos) 0 it acc env).onRaise (fun x=>do noteFrame x env;theTreesLotGoes x)) _ _ s
 refine wpAny_noted ?_
 rw [compTurn_list]
 refine Nm (SM (Nm (NU (turn n s hI) (fun r s₁ h₁=>?_) fun _ _ h'=>h'.elim)))
 cases r with
 | none=>exact NO h₁
 | some v=>
  refine Nm (NU h₁ (fun _ s₁' h₁'=>?_) fun _ _ h'=>h'.elim)
  refine Nm (NU h₁' (fun _ s₂ h₂=>Nm (NU h₂ (fun ok s₃ h₃=>?_) fun _ _ h'=>h'.elim)) fun _ _ h'=>h'.elim)
  cases ok with
  | false=>exact NO ⟨rfl,h₃⟩
  | true=>
   exact Nm (Nm (NU h₃ (fun x s₄ h₄=>Nm (NU h₄ (fun _ s₅ h₅=>NO (NO ⟨rfl,h₅⟩)) fun _ _ h'=>h'.elim)) fun _ _ h'=>h'.elim))
noncomputable def kI (μ:Hm)(a:Nat)(y:D):Option Hm:=match μ[a]? with
 | some (.lst xs)=>if xs.length<Nd then some (μ.set a (.lst (xs++[y]))) else none
 | _=>none
noncomputable abbrev BD:=D->Hm->Option aJ
noncomputable def l8:BD:=fun d _=>some [some d]
noncomputable def nV (k:Nat):BD:=fun d μ=>(bD μ d).bind fun xs=>if xs.length=k then some (xs.map some) else none
noncomputable def eF (src:Hm->Nat->Option (Option D))(bd:BD)(c:MT)(e:ME)(ρ:aJ)(a0:Nat):Nat->Nat->Hm->Option Hm
 | 0,_,_=>none
 | n+1,i,μ=>(src μ i).bind fun o=>match o with
  | none=>some μ
  | some d=>(bd d μ).bind fun x=>(c (ρ++x) μ).bind fun p=>match p.1 with
   | true=>(e (ρ++x) p.2).bind fun q=>(kI q.2 a0 q.1).bind fun μ3=>eF src bd c e ρ a0 n (i+1) μ3
   | false=>eF src bd c e ρ a0 n (i+1) p.2
noncomputable def dB:MT:=fun _ μ=>some (true,μ)
noncomputable def kJ (X:Cx)(ifs:List M5)(m:MT):Prop:=
 ∀ (Vq:List (Addr×OE))(s:M4)(σ:St)(H:Hp)(Q:Bool->Hp->Prop),Inv X Vq σ H s->cD X.K m σ H Q->
  NI (NC X.prog X.w) X.A (forIn ifs true fun c r=>if r=true then do let ok <- Tf c X.env (eval c X.env);pure (Po ok) else pure (Po r)) (TP X Vq σ Q) X.xe s
theorem Fw {X:Cx}:kJ X [] dB:=by
 intro Vq s σ H Q I h
 obtain ⟨π,ρ,μ,b,μ',R,E,hm,k⟩:=h
 cases hm
 exact wpAny_tests_nil ⟨H,I,k π H .refl R⟩
theorem Fx {X:Cx}{c:M5}{m:MT}(h:PT X c (cD X.K m)):kJ X [c] m:=fun Vq s σ H Q I q=>wpAny_tests_one (h Vq s σ H Q I q)
end L3
namespace L3
open PySem L2
section
variable {prog:Nz}{w:NP}{A:NM}{E:M0->M4->Prop}{s:M4}
theorem xK {it t:Addr}{items:Array M0}(hne:t≠it):∀ (n i:Nat)(s:M4)(Q:List M0->M4->Prop),s.heap.IsListIter it t i->s.heap.IsList t items->i+n<=items.size->
  (∀ h',h'.IsListIter it t (i+n)->Rc it s.heap h'->Q ((items.toList.drop i).take n) { s with heap:=h' })->NI (NC prog w) A (draw (.ref it) n) Q E s
 | 0,i,s,Q,hit,_,_,hQ=>by
  show NI _ _ (pure []) Q E s
  exact NO (by simpa using hQ s.heap hit (Vd ..))
 | n+1,i,s,Q,hit,ht,hle,hQ=>by
  have hlt:i<items.size:=by omega
  show NI _ _ (Vh (.ref it) >>= _) Q E s
  refine Nm (Ta hit ht (x:=items[i]) (by simp [hlt]) fun h₁ hit₁ hs₁=>?_)
  refine Nm (Pe (xK hne n (i+1) _ _ hit₁ (ht.extBut hs₁.extBut hne) (by omega) fun h₂ hit₂ hs₂=>NO ?_))
  have hd:items.toList.drop i=items[i]::items.toList.drop (i+1):=by simp [List.drop_eq_getElem_cons,hlt]
  have:=hQ h₂ (by rw [show i+(n+1)=i+1+n by omega];exact hit₂) (hs₁.trans hs₂)
  rw [hd,List.take_succ_cons] at this
  exact this
theorem Fy {t:Addr}{items:Array M0}{Q:List M0->M4->Prop}(hh:A.handled=none)(ht:s.heap.IsList t items)
  (hQ:∀ h',UU s.heap.objs.size s.heap h'->Q items.toList { s with heap:=h' }):NI (NC prog w) A (unpackItems (.ref t) items.size none) Q E s:=by
 have hlt:t≠s.heap.objs.size:=by obtain ⟨o,ho,_⟩:=ht;exact Nr (Nc ho)
 unfold unpackItems
 refine Nm ?_
 ·unfold notIterableAtAll
  refine Nm (QX ht.typeIs slot_list_iter.lookup ?_)
  refine NO ?_
  simp only [M8,if_false]
  refine Nm (Pe (Pm ht ?_))
  refine Nm (Pe (xK hlt items.size 0 _ _ ⟨_,Nu _ rfl,rfl,rfl⟩ (ht.push _) (by omega) fun h₁ hit₁ hs₁=>?_))
  have hall:List.take items.size (List.drop 0 items.toList)=items.toList:=by
   rw [QM];exact Qp (by simp)
  rw [hall]
  rw [if_neg (by simp)]
  have ht₁:h₁.IsList t items:=(ht.push _).extBut hs₁.extBut hlt
  refine Nm (Pe (TL hh hit₁ ht₁ (by simp) fun h₂ he₂=>?_))
  simp only [Q0,M8,if_false]
  refine NO (hQ h₂ fun b o hb e=>he₂ b o hb (hs₁.extBut b o hb (M6 _ e)))
theorem Fz {env:Rf}{elts:List M5} {x1} {pos:Om}{t:Addr}{items:Array M0}{Q:Unit->M4->Prop}(hh:A.handled=none)(ht:s.heap.IsList t items)
  (hn:(OG elts env).length=items.size)(hstar:(OG elts env).findIdx? (·.1)=none)
  (h:∀ h',UU s.heap.objs.size s.heap h'->NI (NC prog w) A (assignInOrder ((OG elts env).map (·.2)) items.toList) Q E { s with heap:=h' }) :
  NI (NC prog w) A (Rz (.Tuple elts x1 pos) env (.ref t)) Q E s:=by
 rw [U7]
 refine Nm (SM ?_)
 unfold unpack
 rw [hn,hstar]
 exact Nm (Pe (Fy hh ht h))
end
noncomputable def jC:aJ->List Nat->List D->aJ
 | ρ,i::is,x::xs=>jC (ρ.set i (some x)) is xs
 | ρ,_,_=>ρ
noncomputable def kK (is:List Nat):MG:=fun d ρ μ=>(bD μ d).bind fun xs=>if xs.length=is.length then some (jC ρ is xs) else none
noncomputable def nW:List Nat->jY
 | []=>u4
 | i::r=>u5 (pR i) (nW r)
theorem q8 {K:MX}{π:Nat->Addr}{n:Nat}{H:Hp}:∀ (is:List Nat){vs:List V}{xs:List D}{σ:St}{ρ:aJ}{Q:St->Hp->Prop},IsDs K π n H vs xs->En K π n H σ ρ->xs.length=is.length->(∀ σ',En K π n H σ' (jC ρ is xs)->Q σ' H)->nW is vs σ H Q
 | [],vs,xs,σ,ρ,Q,h,E,hl,k=>by
  cases h with
  | nil=>exact ⟨rfl,k σ E⟩
  | cons h t=>cases hl
 | i::is,vs,xs,σ,ρ,Q,h,E,hl,k=>by
  cases h with
  | nil=>cases hl
  | cons h t=>exact ⟨_,_,rfl,q8 is t (E.set h i) (by simpa using hl) k⟩
section
variable {X:Cx}{pos:Om}
theorem FA {es:List M5}{k:Nat}{is:List Nat}(hc:X.calm=true)(h:lT X es (nW is))(hn:(OG es X.env).length=is.length:=by rfl)(hst:(OG es X.env).findIdx? (·.1)=none:=by rfl) :
  PG X (.Tuple es k pos) (eE X.K (kK is)):=by
 intro Vq s σ H v u Q I r hw
 obtain ⟨π,ρ,μ,d,ρ',R,E,hd,hm,kk⟩:=hw
 obtain ⟨xs,h1,h2⟩:=MW.mp hm
 split at h2
 ·rename_i hl
  cases h2
  have both:(∃ a vs,v=.ref a/\SqT X.K H a vs/\IsDs X.K π μ.length H vs xs)\/(∃ a vs,v=.ref a/\SqL X.K H a vs/\IsDs X.K π μ.length H vs xs):=by
   cases hd with
   | tup q t=>cases h1;exact .inl ⟨_,_,rfl,q,t⟩
   | rol q t=>cases h1;exact .inr ⟨_,_,rfl,q.sq,t⟩
   | @loc a ha=>
    simp only [bD] at h1
    split at h1
    ·rename_i ys hy
     cases h1
     obtain ⟨vs,h3,h4⟩:=R.lst a xs hy
     exact .inr ⟨_,vs,rfl,.of h3,h4⟩
    ·cases h1
   | _=>cases h1
  rcases both with ⟨a,vs,rfl,q,t⟩|⟨a,vs,rfl,q,t⟩
  ·cases r
   obtain ⟨its,rv,ht,hz⟩:=I.tuple q
   have hlen:its.length=is.length:=by rw [<- rv.length,t.length];exact hl
   refine U6 (I.ok.hd hc) ht (by simp [hn,hlen]) hst fun h' hx=>?_
   have I1:Inv X Vq σ H { s with heap:=h' }:=I.kept (t':=s.toks) fun b o e=>hx b o (Nr (Nc e)) e
   exact h Vq _ σ H vs _ Q I1 (by simpa using rv) (q8 is t E hl kk)
  ·cases r
   obtain ⟨its,rv,ht,hz⟩:=I.list q
   have hlen:its.length=is.length:=by rw [<- rv.length,t.length];exact hl
   refine Fz (I.ok.hd hc) ht.isList (by simp [hn,hlen]) hst fun h' hx=>?_
   have I1:Inv X Vq σ H { s with heap:=h' }:=I.kept (t':=s.toks) fun b o e=>hx b o (Nr (Nc e)) e
   exact h Vq _ σ H vs _ Q I1 (by simpa using rv) (q8 is t E hl kk)
 ·cases h2
noncomputable def q9 (m:ME)(g:MG):MS:=fun ρ μ=>(m ρ μ).bind fun p=>(g p.1 ρ p.2).map fun ρ'=>(.nx,ρ',p.2)
theorem FC {tg e:M5}{m:ME}{g:MG}(he:PE X e (tM X.K m))(hg:PG X tg (eE X.K g))(hs:swapsWithSole [tg] e pos.line X.env=pure false:=by rfl)(hw:SO [tg] e X.env=pure none:=by rfl)
  (h1:(OG [tg] X.env).map (·.2)=[Rz tg X.env]:=by rfl):PS X (.Assign [tg] e pos) (cI X.K (q9 m g)):=fK (Cq he hg hs hw h1) (by
 rintro E σ H ⟨π,ρ,μ,fl,ρ',μ',R,EN,hm,k⟩
 obtain ⟨⟨x,μ1⟩,h1,hm⟩:=MW.mp hm
 obtain ⟨ρ1,h2,hm⟩:=M3.mp hm
 cases hm
 exact ⟨π,ρ,μ,x,μ1,R,EN,h1,fun π1 v1 H1 e1 R1 i1=>⟨π1,ρ,_,x,_,R1,EN.mono e1,i1,h2,fun σ' E'=>k π1 σ' H1 e1 R1 E'⟩⟩)
end
section
variable {X:Cx}{K:MX}
noncomputable def l9:MF:=fun ds μ=>match ds with
 | [.str z]=>if z.length<=Nd then some (.int z.length,μ) else none
 | [x]=>(bD μ x).map fun xs=>(.int xs.length,μ)
 | _=>none
noncomputable def rA (K:MX):List V->Hp->VK->Prop:=fun xs H Q=>(∃ p ys,xs=[.ref p]/\(SqL K H p ys\/SqT K H p ys)/\Q (.int ys.length) H)\/(∃ z,xs=[.str z]/\z.length<=Nd/\Q (.int z.length) H)
theorem call_lenM:CallR X (.builtin "len") (rA X.K):=call_len_seq.or DK
theorem rB {π:Nat->Addr}{μ:Hm}{H:Hp}{v:V}{x:D}{xs:List D}(R:Rp K π H μ)(h:IsD K π μ.length H v x)(e:bD μ x=some xs):∃ p vs,v=.ref p/\(SqL K H p vs\/SqT K H p vs)/\IsDs K π μ.length H vs xs:=by
 cases h with
 | tup q t=>cases e;exact ⟨_,_,rfl,.inr q,t⟩
 | rol q t=>cases e;exact ⟨_,_,rfl,.inl q.sq,t⟩
 | @loc a ha=>
  simp only [bD] at e
  split at e
  ·rename_i ys hy
   cases e
   obtain ⟨vs,h3,h4⟩:=R.lst a xs hy
   exact ⟨_,vs,rfl,.inl (.of h3),h4⟩
  ·cases e
 | _=>cases e
theorem xM:cE K l9 (rA K):=by
 intro π H μ xs d μ' vs Q R i hm k
 unfold l9 at hm
 split at hm
 ·split at hm
  ·rename_i hl
   cases hm
   cases i with
   | cons i t=>cases i;cases t;exact .inr ⟨_,rfl,hl,k π _ H .refl R (.int _)⟩
  ·cases hm
 ·obtain ⟨ys,h1,h2⟩:=M3.mp hm
  cases h2
  cases i with
  | cons i t=>
   cases t
   obtain ⟨p,ws,rfl,q,hd⟩:=rB R i h1
   refine .inl ⟨p,ws,rfl,q,?_⟩
   rw [hd.length]
   exact k π _ H .refl R (.int _)
 ·cases hm
noncomputable def xN (K:MX):List V->Hp->VK->Prop:=fun vs H Q=>∃ π μ x v t c b,vs=[v,.ty c]/\Rp K π H μ/\IsD K π μ.length H v x/\qZ μ x=some t/\nU t c=some b/\Q (.bl b) H
theorem FD:cE K iL (xN K):=by
 intro π H μ xs d μ' vs Q R i hm k
 unfold iL at hm
 split at hm
 ·obtain ⟨t,h1,hm⟩:=MW.mp hm
  obtain ⟨b,h2,hm⟩:=M3.mp hm
  cases hm
  cases i with
  | cons i t1=>
   cases t1 with
   | cons i2 t2=>
    cases t2
    cases i2
    exact ⟨π,_,_,_,t,_,b,rfl,R,i,h1,h2,k π _ H .refl R (.bl _)⟩
 ·cases hm
theorem FE:CallR X (.builtin "isinstance") (xN X.K):=by
 intro Vq s σ H xs us Q I r h
 obtain ⟨π,μ,x,v,t,c,b,rfl,R,i,h1,h2,q⟩:=h
 obtain ⟨u,u2,rfl,r1,r2⟩:=pX r
 cases r2
 have aM:∀ tk,EP X Vq σ Q (.bool b) { s with toks:=tk }:=fun tk=>⟨.bl b,H,I.tok tk,rfl,q⟩
 cases i with
 | non=>cases h1;cases r1;exact OJ PySem.W.kitx_none I.kIn Pf (iM X.K (by simp) h2) (fun z=>nomatch z) aM
 | bl y=>cases h1;cases r1;exact OJ PySem.W.kitx_bool I.kIn Pf (iM X.K (by simp) h2) (fun z=>nomatch z) aM
 | int y=>cases h1;obtain ⟨t,rfl⟩:=r1;exact OJ PySem.W.kitx_int I.kIn Pf (iM X.K (by simp) h2) (fun z=>nomatch z) aM
 | str y=>cases h1;obtain ⟨t,rfl⟩:=r1;exact OJ PySem.W.kitx_str I.kIn Pf (iM X.K (by simp) h2) (fun z=>nomatch z) aM
 | tup g t=>
  cases h1
  cases r1
  obtain ⟨its,r',p,_⟩:=I.tuple g
  obtain ⟨o,e1,e2,_⟩:=p
  exact OJ PySem.W.kitx_tuple I.kIn ⟨o,e1,e2⟩ (iM X.K (by simp) h2) (fun z=>nomatch z) aM
 | rol g t=>
  cases h1
  cases r1
  obtain ⟨its,r',p,_⟩:=I.list g.sq
  obtain ⟨o,e1,e2,_⟩:=p.isList
  exact OJ SE I.kIn ⟨o,e1,e2⟩ (iM X.K (by simp) h2) (fun z=>nomatch z) aM
 | @loc a ha=>
  cases r1
  simp only [qZ] at h1
  split at h1
  ·rename_i xs hx
   cases h1
   obtain ⟨vs,h3,h4⟩:=R.lst a xs hx
   obtain ⟨its,r',p,_⟩:=I.list (SqL.of (K:=X.K) h3)
   obtain ⟨o,e1,e2,_⟩:=p.isList
   exact OJ SE I.kIn ⟨o,e1,e2⟩ (iM X.K (by simp) h2) (fun z=>nomatch z) aM
  ·rename_i kvs hx
   cases h1
   obtain ⟨vs,h3,_⟩:=R.dK a kvs hx
   obtain ⟨_,_,ws,_,p⟩:=(show ObjOk X.prog X.w H s.heap (π a) (.dK vs) from I.hok _ _ h3)
   obtain ⟨o,es,ep,e1,e2,_⟩:=p
   exact OJ PySem.W.kitx_dict I.kIn ⟨o,e1,e2.1⟩ (iM X.K (by simp) h2) (fun z=>nomatch z) aM
  ·cases h1
 | ty n=>cases h1
end
noncomputable def gY:D->Option aF
 | .int i=>some (.inl i)
 | .str x=>some (.inr x)
 | _=>none
noncomputable def mB (kvs:List (aF×D))(k:aF)(d:D):List (aF×D):=
 if (kvs.any fun kv=>decide (kv.1=k))=true then kvs.map (fun kv=>if kv.1=k then (kv.1,d) else kv) else kvs++[(k,d)]
noncomputable def mD (kvs more:List (aF×D)):List (aF×D):=more.foldl (fun acc kv=>mB acc kv.1 kv.2) kvs
noncomputable def e6 (kvs:List (aF×D))(k:aF):Option D:=(kvs.find? fun kv=>decide (kv.1=k)).map (·.2)
inductive IsKs (K:MX)(π:Nat->Addr)(n:Nat)(H:Hp):List (aF×V)->List (aF×D)->Prop where
 | nil:IsKs K π n H [] []
 | cons {k:aF}{v:V}{d:D}{vs:List (aF×V)}{ds:List (aF×D)}(h:IsD K π n H v d)(t:IsKs K π n H vs ds):IsKs K π n H ((k,v)::vs) ((k,d)::ds)
section
variable {K:MX}{π π':Nat->Addr}{n n':Nat}{H H':Hp}
theorem IsKs.mono {vs:List (aF×V)}{ds:List (aF×D)}(e:Ext π n H π' n' H')(h:IsKs K π n H vs ds):IsKs K π' n' H' vs ds:=by
 induction h with
 | nil=>exact .nil
 | cons h t ih=>exact .cons (h.mono e) ih
theorem IsKs.maps {vs:List (aF×V)}{ds:List (aF×D)}(h:IsKs K π n H vs ds):vs.map (·.1)=ds.map (·.1)/\IsDs K π n H (vs.map (·.2)) (ds.map (·.2)):=by
 induction h with
 | nil=>exact ⟨rfl,.nil⟩
 | cons h t ih=>exact ⟨by rw [Nj,Nj,ih.1],.cons h ih.2⟩
theorem IsKs.of:∀ {vs:List (aF×V)}{ds:List (aF×D)},vs.map (·.1)=ds.map (·.1)->IsDs K π n H (vs.map (·.2)) (ds.map (·.2))->IsKs K π n H vs ds
 | [],[],_,_=>.nil
 | [],_::_,h,_=>by cases h
 | _::_,[],h,_=>by cases h
 | (k,v)::vs,(k',d)::ds,h,t=>by
  rw [Nj,Nj] at h t
  injection h with h1 h2
  dsimp only at h1
  subst h1
  cases t with
  | cons t1 t2=>exact .cons t1 (IsKs.of h2 t2)
theorem IsKs.append {vs ws:List (aF×V)}{ds es:List (aF×D)}(h:IsKs K π n H vs ds)(h2:IsKs K π n H ws es):IsKs K π n H (vs++ws) (ds++es):=by
 induction h with
 | nil=>exact h2
 | cons h t ih=>exact .cons h ih
theorem IsKs.any {vs:List (aF×V)}{ds:List (aF×D)}(h:IsKs K π n H vs ds)(k:aF):(vs.any fun kv=>decide (kv.1=k))=ds.any fun kv=>decide (kv.1=k):=by
 induction h with
 | nil=>rfl
 | cons h t ih=>rw [Qm,Qm,ih]
theorem IsKs.repl {vs:List (aF×V)}{ds:List (aF×D)}(h:IsKs K π n H vs ds){v:V}{d:D}(hv:IsD K π n H v d)(k:aF):IsKs K π n H (vs.map fun kv=>if kv.1=k then (kv.1,v) else kv) (ds.map fun kv=>if kv.1=k then (kv.1,d) else kv):=by
 induction h with
 | nil=>exact .nil
 | @cons k' v' d' vs ds h t ih=>
  rw [Nj,Nj]
  by_cases e:k'=k
  ·simp only [e,if_true]
   exact .cons hv ih
  ·simp only [e,if_false]
   exact .cons h ih
theorem IsKs.put {vs:List (aF×V)}{ds:List (aF×D)}(h:IsKs K π n H vs ds){v:V}{d:D}(hv:IsD K π n H v d)(k:aF):IsKs K π n H (c4 vs k v) (mB ds k d):=by
 unfold c4 mB
 rw [h.any k]
 split
 ·exact h.repl hv k
 ·exact h.append (.cons hv .nil)
theorem IsKs.merge {ws:List (aF×V)}{es:List (aF×D)}(h2:IsKs K π n H ws es):∀ {vs:List (aF×V)}{ds:List (aF×D)},IsKs K π n H vs ds->IsKs K π n H (iZ vs ws) (mD ds es):=by
 induction h2 with
 | nil=>exact fun h=>h
 | cons h t ih=>exact fun h3=>ih (h3.put h _)
theorem IsKs.val {vs:List (aF×V)}{ds:List (aF×D)}(h:IsKs K π n H vs ds)(k:aF):(e6 ds k=none/\dA vs k=none)\/∃ v d,e6 ds k=some d/\dA vs k=some v/\IsD K π n H v d:=by
 induction h with
 | nil=>exact .inl ⟨rfl,rfl⟩
 | @cons k' v' d' vs ds h t ih=>
  by_cases e:k'=k
  ·exact .inr ⟨v',d',by simp [e6,Oh,e],by simp [dA,Oh,e],h⟩
  ·have e1:e6 ((k',d')::ds) k=e6 ds k:=by simp [e6,Oh,e]
   have e2:dA ((k',v')::vs) k=dA vs k:=by simp [dA,Oh,e]
   rw [e1,e2]
   exact ih
theorem IsKs.length {vs:List (aF×V)}{ds:List (aF×D)}(h:IsKs K π n H vs ds):vs.length=ds.length:=by
 induction h with
 | nil=>rfl
 | cons h t ih=>rw [Na,Na,ih]
theorem rC {y:V}{d:D}{k:aF}(h:IsD K π n H y d)(e:gY d=some k):y=kV k:=by
 cases h<;>first|cases e;done|(cases e;rfl)
end
noncomputable def jD:List (ME×ME)->aJ->Hm->Option (List (aF×D)×Hm)
 | [],_,μ=>some ([],μ)
 | (k,v)::r,ρ,μ=>(k ρ μ).bind fun p=>(v ρ p.2).bind fun q=>(gY p.1).bind fun kk=>(jD r ρ q.2).map fun t=>((kk,q.1)::t.1,t.2)
noncomputable def jE (prs:List (ME×ME)):ME:=fun ρ μ=>(jD prs ρ (μ++[.dK []])).bind fun p=>match p.2[μ.length]? with
 | some (.dK [])=>if p.1.length<=15 then some (.loc μ.length,p.2.set μ.length (.dK (mD [] p.1))) else none
 | _=>none
noncomputable def kL (K:MX)(prs:List (ME×ME)):List (TE×TE):=prs.map fun p=>(tM K p.1,tM K p.2)
theorem xO {K:MX}:∀ (prs:List (ME×ME)){π:Nat->Addr}{ρ:aJ}{μ μ':Hm}{H:Hp}{σ:St}{kvs:List (aF×D)}{Q:List (V×V)->Hp->Prop},Rp K π H μ->En K π μ.length H σ ρ->jD prs ρ μ=some (kvs,μ')->
  (∀ π' H' vs,Ext π μ.length H π' μ'.length H'->Rp K π' H' μ'->IsKs K π' μ'.length H' vs kvs->Q (vs.map fun kv=>(kV kv.1,kv.2)) H')->nL (kL K prs) σ H Q
 | [],π,ρ,μ,μ',H,σ,kvs,Q,R,E,hm,k=>by
  cases hm
  exact k π H [] .refl R .nil
 | (mk,mv)::r,π,ρ,μ,μ',H,σ,kvs,Q,R,E,hm,k=>by
  obtain ⟨⟨x,μ1⟩,h1,hm⟩:=MW.mp hm
  obtain ⟨⟨y,μ2⟩,h2,hm⟩:=MW.mp hm
  obtain ⟨kk,h3,hm⟩:=MW.mp hm
  obtain ⟨⟨ts,μ3⟩,h4,hm⟩:=M3.mp hm
  cases hm
  refine ⟨π,ρ,μ,x,μ1,R,E,h1,fun π1 v1 H1 e1 R1 i1=>⟨π1,ρ,μ1,y,μ2,R1,E.mono e1,h2,fun π2 v2 H2 e2 R2 i2=>?_⟩⟩
  refine xO r R2 ((E.mono e1).mono e2) h4 fun π3 H3 vs e3 R3 i3=>?_
  have:=rC i1 h3
  subst this
  exact k π3 H3 ((kk,v2)::vs) ((e1.trans e2).trans e3) R3 (.cons (i2.mono e3) i3)
section
variable {X:Cx}{a b c:M5}{ma mb mc:ME}{pos:Om}
theorem FF:gQ X pos [] [] (kL X.K []):=Dq
theorem FG {k v:M5}{mk mv:ME}{ks:List (Option M5)}{vs:List M5}{prs:List (ME×ME)}(hk:PE X k (tM X.K mk))(hv:PE X v (tM X.K mv))(hr:gQ X pos ks vs (kL X.K prs)):gQ X pos (some k::ks) (v::vs) (kL X.K ((mk,mv)::prs)):=Dr hk hv hr
theorem FH {keys:List (Option M5)}{values:List M5}{prs:List (ME×ME)}(h:gQ X pos keys values (kL X.K prs))(hall:keys.all (·.isSome)=true)(hl:keys.length=values.length)(h0:keys≠[])
  (h15:keys.length<=15):PE X (.Dict keys values pos) (tM X.K (jE prs)):=cJ (Dt h hall hl h0 h15) (by
 rintro σ H Q ⟨π,ρ,μ,d,μ',R,E,hm,k⟩ p hp
 obtain ⟨⟨kvs,μ1⟩,h1,hm⟩:=MW.mp hm
 split at hm
 ·rename_i hc
  split at hm
  ·rename_i hlen
   cases hm
   obtain ⟨e1,R1,q1⟩:=R.alloc (c:=.dK []) (o:=.dK []) hp ⟨rfl,.nil⟩
   refine xO prs R1 (E.mono e1) h1 fun π2 H2 vs e2 R2 i2=>?_
   have hlt:μ.length<μ1.length:=(Ng.mp hc).1
   have hpi:π2 μ.length=p:=by rw [e2.pi μ.length (by simp),q1]
   obtain ⟨ws,h3,h4,h5⟩:=R2.dK μ.length [] hc
   have hw:ws=[]:=by
    cases ws with
    | nil=>rfl
    | cons z zs=>cases h4
   subst hw
   obtain ⟨e3,R3⟩:=R2.put (a:=μ.length) (c:=.dK (mD [] kvs)) (o:=.dK (iZ [] vs)) hlt h3 (.inr (.inl ⟨_,rfl⟩)) (IsKs.maps (i2.merge .nil))
   rw [hpi] at h3 e3 R3
   refine ⟨h3,vs,rfl,by rw [i2.length];exact hlen,k π2 _ _ ((e1.trans e2).trans e3) R3 ?_⟩
   rw [<- hpi]
   exact .loc (by rw [Oy];exact hlt)
  ·cases hm
 ·cases hm)
noncomputable def nX:D->D->Hm->Option (D×Hm)
 | .loc a,y,μ=>match μ[a]? with
  | some (.dK kvs)=>(gY y).bind fun k=>(e6 kvs k).map fun d=>(d,μ)
  | _=>none
 | _,_,_=>none
theorem FI {K:MX}{π:Nat->Addr}{μ:Hm}{H:Hp}{a:Nat}{kvs:List (aF×D)}(R:Rp K π H μ)(h:μ[a]? = some (.dK kvs)){y:V}{dy:D}{k:aF}(hy:IsD K π μ.length H y dy)(hk:gY dy=some k) :
  (e6 kvs k=none/\DGet H (π a) y none)\/∃ v d,e6 kvs k=some d/\DGet H (π a) y (some v)/\IsD K π μ.length H v d:=by
 obtain ⟨vs,h1,h2,h3⟩:=R.dK a kvs h
 have e:=rC hy hk
 subst e
 have g:=DGet.k (k:=k) h1
 rcases (IsKs.of h2 h3).val k with ⟨z1,z2⟩|⟨v,d,z1,z2,z3⟩
 ·exact .inl ⟨z1,by rw [<- z2];exact g⟩
 ·exact .inr ⟨v,d,z1,by rw [<- z2];exact g,z3⟩
theorem FJ (hu:X.A.units+1<PU)(ha:PE X a (tM X.K ma))(hb:PE X b (tM X.K mb))(hs:qC b):PE X (.Subscript a b pos) (tM X.K (aA nX ma mb)):=cJ (Dl hu ha hb hs) (by
 intro σ H Q h
 refine l6 (r:=fun x y H Q=>∃ a v,x=.ref a/\DGet H a y (some v)/\Q v H) ?_ σ H Q h
 intro π H μ x y d μ' vx vy Q R ix iy hm k
 unfold nX at hm
 split at hm
 ·split at hm
  ·rename_i kvs hc
   obtain ⟨kk,h1,hm⟩:=MW.mp hm
   obtain ⟨d',h2,hm⟩:=M3.mp hm
   cases hm
   cases ix
   rcases FI R hc iy h1 with ⟨z1,_⟩|⟨v,d2,z1,z2,z3⟩
   ·rw [z1] at h2;cases h2
   ·rw [z1] at h2
    cases h2
    exact ⟨_,v,rfl,z2,k π _ H .refl R z3⟩
  ·cases hm
 ·cases hm)
end
theorem FK {k:Nat}{A:NM}(r:Room k A):A.units+1<PU:=by have:=r.un;omega
noncomputable def kM (ma:ME):ME:=fun ρ μ=>(ma ρ μ).bind fun p=>(qU p.1).map fun d=>(d,p.2)
end L3
namespace L3
open PySem L2
noncomputable def dX (cells:List (Str×Addr)):List (Str×OW)->List (Str×Addr)->List (Str×Addr)
 | [],acc=>acc
 | (n,k)::r,acc=>if k=.free then (match cells.lookup n with|some c=>dX cells r ((n,c)::acc)|none=>dX cells r acc) else dX cells r acc
theorem xP {env:Rf}:∀ (names:List (Str×OW))(acc:List (Str×Addr)),(∀ y∈names,y.2=.free->∃ c,env.cells.lookup y.1=some c)->
  (forIn names acc fun (x:Str×OW)(cs:List (Str×Addr))=>(do
   if x.2 == .free then (do let c <- cellOf env x.1;pure (Po ((x.1,c)::cs))) else pure (Po cs):UH (ForInStep (List (Str×Addr)))))=pure (dX env.cells names acc)
 | [],acc,_=>rfl
 | (n,k)::r,acc,h=>by
  have ih:=fun acc=>xP r acc fun y hy=>h y (Ot _ hy)
  rw [List.forIn_cons]
  by_cases hk:k=.free
  ·subst hk
   obtain ⟨c,hc⟩:=h (n,.free) (O1 ..) rfl
   dsimp only at hc
   have e:cellOf env n=pure c:=by unfold cellOf;rw [hc]
   simp only [dX,hc,e,beq_self_eq_true,if_true,pure_bind]
   exact ih _
  ·have e:(k == OA)=false:=by simpa using hk
   simp only [dX,e,hk,if_false,M8,pure_bind]
   exact ih _
theorem FL {scope:O3}{env:Rf}(h:∀ y∈scope.names,y.2=.free->∃ c,env.cells.lookup y.1=some c):Uk scope env=pure (dX env.cells scope.names []):=by
 have:=xP (env:=env) scope.names [] h
 unfold Uk
 simp only [bind_pure] at *
 exact this
theorem nY {cells:List (Str×Addr)}:∀ (names:List (Str×OW))(acc:List (Str×Addr)),(∀ y c,acc.lookup y=some c->cells.lookup y=some c)->∀ y c,(dX cells names acc).lookup y=some c->cells.lookup y=some c
 | [],acc,h=>h
 | (n,k)::r,acc,h=>by
  unfold dX
  split
  ·split
   ·rename_i c0 hc
    refine nY r _ fun y c e=>?_
    rw [PL] at e
    by_cases hy:y=n
    ·subst hy
     simp only [beq_self_eq_true] at e
     cases e
     exact hc
    ·have:(y == n)=false:=by simpa using hy
     rw [this] at e
     exact h y c e
   ·exact nY r acc h
  ·exact nY r acc h
theorem nZ {cells:List (Str×Addr)}:∀ (names:List (Str×OW))(acc:List (Str×Addr))(y:Str),(∃ c,acc.lookup y=some c)->∃ c,(dX cells names acc).lookup y=some c
 | [],acc,y,h=>h
 | (n,k)::r,acc,y,h=>by
  unfold dX
  split
  ·split
   ·refine nZ r _ y ?_
    rw [PL]
    by_cases hy:(y == n)=true
    ·rw [hy];exact ⟨_,rfl⟩
    ·have:(y == n)=false:=by simpa using hy
     rw [this]
     exact h
   ·exact nZ r acc y h
  ·exact nZ r acc y h
theorem n4 {cells:List (Str×Addr)}:∀ (names:List (Str×OW))(acc:List (Str×Addr))(y:Str),(y,OA)∈names->(∃ c,cells.lookup y=some c)->∃ c,(dX cells names acc).lookup y=some c
 | [],acc,y,h,_=>by cases h
 | (n,k)::r,acc,y,h,hc=>by
  unfold dX
  rcases NN.mp h with h|h
  ·cases h
   obtain ⟨c,hc⟩:=hc
   rw [if_pos rfl,hc]
   exact nZ r _ _ ⟨c,by simp [PL]⟩
  ·split
   ·split
    ·exact n4 r _ y h hc
    ·exact n4 r _ y h hc
   ·exact n4 r _ y h hc
structure CompSt (osc:O3)(N:List Str)(scope:O3)(xs:List Str):Prop where
 nocell:∀ y∈scope.names,y.2≠.cell
 kind:scope.kind=.function
 names:∀ y∈scope.names,y.2=.local->scope.names.lookup y.1=some .local
 here:∀ x∈xs,scope.names.lookup x=some .local
 free:∀ y∈scope.names,y.2=.free->osc.names.lookup y.1=some .cell\/osc.names.lookup y.1=some .free
 own:∀ y∈scope.names,y.2=.local->y.1∉a9 xs N
 nd:N.Nodup
 hnd:(a9 xs N).Nodup
 hidn:∀ y∈N,xs.contains y=true->scope.names.lookup (kH y)=none
theorem CompSt.ok {X:Cx}{scope:O3}{xs:List Str}(S:CompSt X.env.scope X.N scope xs)(ok:X.Ok):CompOk X scope (dX X.env.cells scope.names []) xs:=by
 have has:∀ y∈scope.names,y.2=.free->∃ c,X.env.cells.lookup y.1=some c:=fun y hy hf=>ok.has y.1 (S.free y hy hf)
 refine ⟨FL has,S.nocell,S.kind,S.names,S.here,nY scope.names [] (fun y c e=>by cases e),fun y e=>?_,fun y e=>?_,S.hidn⟩
 ·have hm:=NW e
  exact ⟨S.free _ hm rfl,n4 scope.names [] y hm (has _ hm rfl)⟩
 ·exact S.own _ (NW e) rfl
end L3
namespace L3
open PySem L2
section
variable {X:Cx}{pos:Om}
end
end L3
namespace L3
open PySem L2
noncomputable def c8:M5->Bool
 | .Starred ..=>false
 | _=>true
theorem gD {e:M5}{es:List M5}{env:Rf}(h:c8 e=true):NL (e::es) env=(false,eval e env)::NL es env:=by
 cases e<;>first|rfl|cases h
theorem jF {pos:Om}{env:Rf}:∀ {es:List M5},es.all c8=true->(Pk pos (NL es env)).any (·.1)=false
 | [],_=>rfl
 | e::es,h=>by
  rw [NQ,Nb] at h
  rw [gD h.1]
  have:=jF (pos:=pos) (env:=env) h.2
  simpa [Pk] using this
theorem n5 {e:M5}{es:List M5}{env:Rf}(h:c8 e=true):OG (e::es) env=(false,Rz e env)::OG es env:=by
 cases e<;>first|rfl|cases h
theorem xQ {env:Rf}:∀ {es:List M5},es.all c8=true->(OG es env).length=es.length
 | [],_=>rfl
 | e::es,h=>by
  rw [NQ,Nb] at h
  rw [n5 h.1,Na,Na,xQ h.2]
theorem xR {env:Rf}:∀ {es:List M5},es.all c8=true->(OG es env).findIdx? (·.1)=none
 | [],_=>rfl
 | e::es,h=>by
  rw [NQ,Nb] at h
  rw [n5 h.1,List.findIdx?_cons,xR h.2]
  rfl
section
variable {X:Cx}{e a b c:M5}{es:List M5}{m:ME}{ms:MA}{pos:Om}
end
end L3
namespace L3
open PySem L2
structure QE (X:Cx)(e:M5)(m:ME):Prop where
 h:PE X e (tM X.K m)
structure QT (X:Cx)(e:M5)(m:MT):Prop where
 h:PT X e (cD X.K m)
structure QW (X:Cx)(e:M5)(m:MT):Prop where
 h:PW X e (cD X.K m)
structure QA (X:Cx)(es:List M5)(m:MA)(n:Nat):Prop where
 h:PA X es (dO X.K m)
 l:∀ ρ μ ds μ',m ρ μ=some (ds,μ')->ds.length=n
 s:es.all c8=true
structure QO (X:Cx)(e:Option M5)(m:MO):Prop where
 h:PO X e (l7 X.K m)
structure QS (X:Cx)(st:Stmt)(m:MS):Prop where
 h:PS X st (cI X.K m)
structure QB (X:Cx)(st:List Stmt)(m:MS):Prop where
 h:PSs X st (cI X.K m)
structure QG (X:Cx)(e:M5)(g:MG):Prop where
 h:PG X e (eE X.K g)
structure QGs (X:Cx)(es:List M5)(is:List Nat):Prop where
 h:lT X es (nW is)
 n:es.length=is.length
 s:es.all c8=true
structure QI (X:Cx)(ifs:List M5)(m:MT):Prop where
 h:kJ X ifs m
structure QP (X:Cx)(pos:Om)(keys:List (Option M5))(values:List M5)(prs:List (ME×ME)):Prop where
 h:gQ X pos keys values (kL X.K prs)
 a:keys.all (·.isSome)=true
 l:keys.length=values.length
section
variable {X:Cx}{e a b c:M5}{m ma mb mc:ME}{pos:Om}{mt mu:MT}{rest es:List M5}{ms:MA}{n:Nat}
theorem FN {x:Str}(i:Nat)(hN:X.N[i]? = some x:=by rfl)(hv:lS X.env.scope x:=by first|exact TR rfl|exact SG (TR rfl)|exact SG (SG rfl))(hd:(x == ("__debug__":Str))=false:=by decide)
  (hcd:(x == ("__classdict__":Str))=false:=by decide):QE X (.Name x pos) (aB i):=⟨D7 i (BH hN hv hd hcd)⟩
theorem FP {i:Int}{j:Nat}:QE X (.Constant (.int i) j pos) (mC (.int i)):=⟨D8⟩
theorem FQ {i:Bool}{j:Nat}:QE X (.Constant (.bool i) j pos) (mC (.bl i)):=⟨D9⟩
theorem FR {i:Str}{j:Nat}:QE X (.Constant (.str i) j pos) (mC (.str i)):=⟨Ea⟩
theorem FT {j:Nat}:QE X (.Constant .none j pos) (mC .non):=⟨Eb⟩
theorem kN {op:Sr}{r:R2}{f:D->D->Hm->Option (D×Hm)}(ho:OpR X (Pd op) r)(hf:cU X.K f r)(ha:QE X a ma)(hb:QE X b mb):QE X (.BinOp a op b pos) (aA f ma mb):=⟨Ec ho hf ha.h hb.h⟩
theorem FU (ha:QE X a ma)(hb:QE X b mb):QE X (.BinOp a .Add b pos) (aA aL ma mb):=kN Fh Fi ha hb
theorem FV (ha:QE X a ma)(hb:QE X b mb):QE X (.BinOp a .Sub b pos) (aA bZ ma mb):=kN CL E7 ha hb
theorem FW (ha:QE X a ma)(hb:QE X b mb):QE X (.BinOp a .Mult b pos) (aA bG ma mb):=kN (op_mulB.or DP) Fc ha hb
theorem FX (ha:QE X a ma)(hb:QE X b mb):QE X (.BinOp a .FloorDiv b pos) (aA cV ma mb):=kN E4 Fd ha hb
theorem FY (ha:QE X a ma)(hb:QE X b mb):QE X (.BinOp a .Mod b pos) (aA bH ma mb):=kN CM Fe ha hb
theorem FZ (ha:QE X a ma)(hb:QE X b mb):QE X (.BinOp a .Pow b pos) (aA bN ma mb):=kN E6 Ff ha hb
theorem F0 (ha:QE X a ma):QE X (.UnaryOp .USub a pos) (kM ma):=⟨Fj ha.h⟩
theorem F1 (ha:QE X a ma):QE X (.UnaryOp .Not a pos) (j7 ma):=⟨Eo ha.h⟩
theorem F5 {k:Nat}(hr:Room k X.A)(ha:QE X a ma)(hb:QE X b mb):QE X (.Compare a [.Eq] [b] pos) (aA (bE false) ma mb):=⟨fZ (xG (nT hr)) nS ha.h hb.h (cT _)⟩
theorem F6 {k:Nat}(hr:Room k X.A)(ha:QE X a ma)(hb:QE X b mb):QE X (.Compare a [.NotEq] [b] pos) (aA (bE true) ma mb):=⟨fZ (xH (nT hr)) nS ha.h hb.h (cT _)⟩
theorem F7 (ha:QE X a ma)(hb:QE X b mb):QE X (.Compare a [.Lt] [b] pos) (aA dH ma mb):=⟨fZ u9 iK ha.h hb.h (cT _)⟩
theorem F8 (ha:QE X a ma)(hb:QE X b mb):QE X (.Compare a [.LtE] [b] pos) (aA kE ma mb):=⟨fZ vA iK ha.h hb.h (cT _)⟩
theorem F9 (ha:QE X a ma)(hb:QE X b mb):QE X (.Compare a [.Gt] [b] pos) (aA gU ma mb):=⟨fZ vB iK ha.h hb.h (cT _)⟩
theorem Ga (ha:QE X a ma)(hb:QE X b mb):QE X (.Compare a [.GtE] [b] pos) (aA jA ma mb):=⟨fZ vC iK ha.h hb.h (cT _)⟩
noncomputable def gZ:M5->Bool
 | .Set ..=>false
 | _=>true
theorem Gb {op:BoolOp}(h:QE X a m):QE X (.BoolOp op [a] pos) m:=⟨Ej h.h⟩
theorem Gd (ha:QE X a ma)(hb:QE X (.BoolOp .And (b::rest) pos) mb):QE X (.BoolOp .And (a::b::rest) pos) (fM ma mb):=⟨Ek ha.h hb.h⟩
theorem Ge (ha:QE X a ma)(hb:QE X (.BoolOp .Or (b::rest) pos) mb):QE X (.BoolOp .Or (a::b::rest) pos) (qN ma mb):=⟨Em ha.h hb.h⟩
theorem Gf (hc:QT X c mt)(ha:QE X a ma)(hb:QE X b mb):QE X (.IfExp c a b pos) (j8 mt ma mb):=⟨Ep hc.h ha.h hb.h⟩
theorem Gg:QA X [] aD 0:=⟨Er,Ex,rfl⟩
theorem Gh (ha:QE X e m)(hr:QA X es ms n)(h:c8 e=true:=by rfl):QA X (e::es) (aC m ms) (n+1):=⟨Es ha.h hr.h (gD h),Ey hr.l,by rw [NQ,h,hr.s];rfl⟩
theorem Gi {x1:Nat}(h:QA X es ms n):QE X (.Tuple es x1 pos) (iI ms):=⟨Et h.h⟩
theorem Gj (h:QA X es ms n):QE X (.List es pos) (bY ms):=⟨Eu h.h⟩
noncomputable def kP:M5->Bool
 | .Slice ..=>false
 | _=>true
theorem xS {b:M5}(h:kP b=true):qE b:=by
 intro o i
 cases b<;>first|rfl|cases h
theorem Gk (ha:QE X a ma)(hb:QE X b mb)(h:kP b=true:=by rfl):QE X (.Subscript a b pos) (aA dW ma mb):=⟨ED ha.h hb.h (xS h)⟩
theorem Gn {k:Nat}(hr:Room k X.A)(ha:QE X a ma)(hb:QE X b mb)(h:kP b=true:=by rfl):QE X (.Subscript a b pos) (aA nX ma mb):=⟨FJ (FK hr) ha.h hb.h (xS h)⟩
theorem Gp:QO X none cK:=⟨EE⟩
theorem Gq (h:QE X e m):QO X (some e) (b6 m):=⟨EF h.h⟩
theorem Gr {lo hi:Option M5}{ml mh:MO}{p2:Om}(ha:QE X a ma)(hl:QO X lo ml)(hu:QO X hi mh):QE X (.Subscript a (.Slice lo hi none p2) pos) (cP ma ml mh):=⟨EH ha.h hl.h hu.h⟩
theorem Gs {k:Nat}{f:Addr}{fd:OB}{ps:List Str}{fm:MF}{x:Str}{p:Om}(F:FnOk X.prog X.w X.K X.mg X.base dU k f fd ps (fY X.K n fm))(hr:Room k X.A)(hm:X.mg x=some (.ref f))
  (hk:Ob X.K (.ref f)=true)(hb:Binds X.K fd ps [])(ha:QA X (e::es) ms n)(hg:Gl X x:=by rfl)(hdb:(x == ("__debug__":Str))=false:=by decide):QE X (.Call (.Name x p) (e::es) [] pos) (aG fm ms):=by
 have hs:=ha.s
 rw [NQ,Nb] at hs
 exact ⟨Ez F hr hg hm hk hb ha.h ha.l hdb (gD hs.1) (jF hs.2)⟩
theorem Gu {f:MF}{r:List V->Hp->VK->Prop}{id:String}{x:Str}{p:Om}(hc:CallR X (.builtin id) r)(hf:cE X.K f r)(hm:X.mg x=none)(hv:N7 x=some (.builtin id))(ha:QA X (e::es) ms n)
  (hg:Gl X x:=by rfl)(hn:x ≠ "__name__":=by decide) (hdb:(x == ("__debug__":Str))=false:=by decide):QE X (.Call (.Name x p) (e::es) [] pos) (aG f ms):=by
 have hs:=ha.s
 rw [NQ,Nb] at hs
 exact ⟨EA hc hf hg hm hv ha.h hn hdb (gD hs.1) (jF hs.2)⟩
theorem Gv {f:MF}{r:List V->Hp->VK->Prop}{T:String}{x:Str}{p:Om}(hc:CallR X (.type T) r)(hf:cE X.K f r)(hm:X.mg x=none)(hv:N7 x=some (.type T))(ha:QA X (e::es) ms n)
  (hg:Gl X x:=by rfl)(hn:x ≠ "__name__":=by decide) (hdb:(x == ("__debug__":Str))=false:=by decide):QE X (.Call (.Name x p) (e::es) [] pos) (aG f ms):=by
 have hs:=ha.s
 rw [NQ,Nb] at hs
 exact ⟨EB hc hf hg hm hv ha.h hn hdb (gD hs.1) (jF hs.2)⟩
theorem Gw {x:Str}{n:String}(hm:X.mg x=none)(hv:N7 x=some (.type n))(hg:Gl X x:=by rfl)(hn:x ≠ "__name__":=by decide) (hd:(x == ("__debug__":Str))=false:=by decide):QE X (.Name x pos) (mC (.ty n)):=⟨Fm hg hm hv hn hd⟩
theorem Gx:QP X pos [] [] []:=⟨FF,rfl,rfl⟩
theorem Gy {k v:M5}{mk mv:ME}{ks:List (Option M5)}{vs:List M5}{prs:List (ME×ME)}(hk:QE X k mk)(hv:QE X v mv)(hr:QP X pos ks vs prs):QP X pos (some k::ks) (v::vs) ((mk,mv)::prs):=
 ⟨FG hk.h hv.h hr.h,by rw [NQ,hr.a];rfl,by rw [Na,Na,hr.l]⟩
theorem Gz {k:Option M5}{keys:List (Option M5)}{values:List M5}{prs:List (ME×ME)}(h:QP X pos (k::keys) values prs)(h15:(k::keys).length<=15:=by decide):QE X (.Dict (k::keys) values pos) (jE prs):=⟨FH h.h h.a h.l (by simp) h15⟩
theorem GB {k:Nat}(hr:Room k X.A)(ha:QE X a ma)(hb:QE X b mb):QT X (.Compare a [.Eq] [b] pos) (aU (aA (bE false) ma mb)):=⟨f6 (xG (nT hr)) nS ha.h hb.h (cT _)⟩
theorem GC {k:Nat}(hr:Room k X.A)(ha:QE X a ma)(hb:QE X b mb):QT X (.Compare a [.NotEq] [b] pos) (aU (aA (bE true) ma mb)):=⟨f6 (xH (nT hr)) nS ha.h hb.h (cT _)⟩
theorem GD (ha:QE X a ma)(hb:QE X b mb):QT X (.Compare a [.Lt] [b] pos) (aU (aA dH ma mb)):=⟨f6 u9 iK ha.h hb.h (cT _)⟩
theorem GF (ha:QE X a ma)(hb:QE X b mb):QT X (.Compare a [.LtE] [b] pos) (aU (aA kE ma mb)):=⟨f6 vA iK ha.h hb.h (cT _)⟩
theorem GG (ha:QE X a ma)(hb:QE X b mb):QT X (.Compare a [.Gt] [b] pos) (aU (aA gU ma mb)):=⟨f6 vB iK ha.h hb.h (cT _)⟩
theorem GH (ha:QE X a ma)(hb:QE X b mb):QT X (.Compare a [.GtE] [b] pos) (aU (aA jA ma mb)):=⟨f6 vC iK ha.h hb.h (cT _)⟩
noncomputable def rD:M5->Bool
 | .UnaryOp .Not ..=>false
 | .BoolOp ..=>false
 | .IfExp ..=>false
 | .Compare ..=>false
 | _=>true
theorem GI {e:M5}{env:Rf}(h:rD e=true):∀ whole,Tf e env whole=(do let v <- whole;standAt e.pos;holding [v] (truthy v)):=by
 intro whole
 cases e<;>first|rfl|cases h|skip
 rename_i op x p
 cases op<;>first|rfl|cases h
theorem GJ (ha:QT X a mt):QT X (.UnaryOp .Not a pos) (iH mt):=⟨Ei ha.h⟩
theorem GK (ha:QT X a mt):QW X (.BoolOp .And [a] pos) mt:=⟨Ee ha.h⟩
theorem GL (ha:QT X a mt):QW X (.BoolOp .Or [a] pos) mt:=⟨Ef ha.h⟩
theorem GN (ha:QT X a mt)(hb:QW X (.BoolOp .And (b::rest) pos) mu):QW X (.BoolOp .And (a::b::rest) pos) (eV mt mu):=⟨Eg ha.h hb.h⟩
theorem GO (ha:QT X a mt)(hb:QW X (.BoolOp .Or (b::rest) pos) mu):QW X (.BoolOp .Or (a::b::rest) pos) (fL mt mu):=⟨Eh ha.h hb.h⟩
theorem GP (h:QW X e mt):QT X e mt:=⟨h.h.pt⟩
theorem GQ:QI X [] dB:=⟨Fw⟩
theorem GR (h:QT X c mt):QI X [c] mt:=⟨Fx h.h⟩
end
section
variable {X:Cx}{e a b c:M5}{m:ME}{pos:Om}{mt:MT}{st:Stmt}{rest body orelse:List Stmt}{ms mr mu:MS}{n:Nat}{is:List Nat}{es:List M5}{g:MG}
theorem GS:QB X [] bK:=⟨EI⟩
theorem GU (h1:QS X st ms)(h2:QB X rest mr):QB X (st::rest) (aK ms mr):=⟨EJ h1.h h2.h⟩
theorem GV (h1:QS X st ms):QB X [st] ms:=⟨EK h1.h⟩
theorem GW:QS X (.Pass pos) bK:=⟨EL⟩
theorem GX (he:QE X e m):QS X (.Return (some e) pos) (aZ m):=⟨EM he.h⟩
noncomputable def g7:M5->Bool
 | .ListComp ..=>false
 | .SetComp ..=>false
 | .DictComp ..=>false
 | _=>true
theorem n6 {e:M5}{t:Option M5}{n:Nat}{env:Rf}(h:g7 e=true):Qc e t n env=pure false:=by
 cases e<;>first|rfl|cases h
theorem GY (he:QE X e m)(h:g7 e=true:=by rfl):QS X (.Expr e pos) (i9 m):=⟨EO he.h (n6 h)⟩
theorem GZ (hc:QT X c mt)(ha:QB X body ms)(hb:QB X orelse mu):QS X (.If c body orelse pos) (bL mt ms mu):=⟨ER hc.h ha.h hb.h⟩
theorem G0 (i:Nat){x:Str}{pos':Om}(hN:X.N.Nodup)(he:QE X e m)(h:g7 e=true:=by rfl)(hi:X.N[i]? = some x:=by rfl)(hx:Loc X.env.scope x:=by first|exact TR rfl|exact SG rfl)
  (hf:X.fn x=true\/X.env.scope.names.lookup x=some .local:=by first|exact .inl rfl|exact .inr rfl):QS X (.Assign [.Name x pos'] e pos) (aW i m):=⟨w4 hN hi hx he.h (n6 h) hf⟩
theorem G1 (i:Nat){x:Str}(hN:X.N.Nodup)(hi:X.N[i]? = some x:=by rfl)(hx:Loc X.env.scope x:=by first|exact TR rfl|exact SG rfl)
  (hf:X.fn x=true\/X.env.scope.names.lookup x=some .local:=by first|exact .inl rfl|exact .inr rfl):QG X (.Name x pos) (eY i):=⟨xI hN hi hx hf⟩
theorem xT:QGs X [] []:=⟨Co,rfl,rfl⟩
theorem xU (i:Nat){x:Str}(hN:X.N.Nodup)(hr:QGs X es is)(hi:X.N[i]? = some x:=by rfl)(hx:Loc X.env.scope x:=by first|exact TR rfl|exact SG rfl)
  (hf:X.fn x=true\/X.env.scope.names.lookup x=some .local:=by first|exact .inl rfl|exact .inr rfl):QGs X (.Name x pos::es) (i::is):=
 ⟨Cp (u3 hN hi hx hf) hr.h (by rw [n5 (e:=.Name x pos) rfl];rfl),by rw [Na,Na,hr.n],by rw [NQ,hr.s];rfl⟩
theorem rF {k:Nat}(h:QGs X es is)(hc:X.calm=true:=by rfl):QG X (.Tuple es k pos) (kK is):=⟨FA hc h.h ((xQ h.s).trans h.n) (xR h.s)⟩
noncomputable def rG:M5->Bool
 | .Tuple ..=>false
 | _=>true
theorem G2 {tg e:M5}{env:Rf}(h:rG e=true):SO [tg] e env=pure none:=by
 cases e<;>first|(cases tg<;>rfl)|cases h
theorem G3 {k:Nat}{pt:Om}(he:QE X e m)(hg:QG X (.Tuple es k pt) g)(h:rG e=true:=by rfl):QS X (.Assign [.Tuple es k pt] e pos) (q9 m g):=
 ⟨FC he.h hg.h (by cases e<;>rfl) (G2 h) (by rw [n5 (e:=.Tuple es k pt) rfl];rfl)⟩
end
section
variable {P:Nz}{w:NP}{K:MX}{mg:Str->Option M0}{base:N6}
theorem G4 {x qual:Str}{st:Stmt}{f:Addr}{fd:OB}{N ps:List Str}{k:Nat}{body:List Stmt}{m:MS}(F:Fun K x qual st f fd)(S:FnScope N ps (bX st))(hps:ps.length<=N.length)(hbd:eD st=body)
  (hbody:∀ (cdv:M0)(A:NM)(outer:List Rf)(s:M4)(H:Hp)(E:XK),Room k (A.deeper (RL qual (bX st) s.heap.objs.size f cdv))->
   QB (gP dU P w K mg base N qual (bX st) f cdv A outer s H E).nox body m):FnOk P w K mg base dU (k+1) f fd ps (fY K ps.length (qP N.length m)):=
 ET F S hps fun cdv A outer s H E hr=>by
  rw [hbd]
  exact (hbody cdv A outer s H E hr).h
end
end L3
namespace L3
open PySem L2
noncomputable abbrev gE:=Hm->Nat->Option (Option D)
noncomputable abbrev MI:=aJ->Hm->Option (gE×Nat×Hm)
noncomputable def g8 (K:MX)(m:MI):TI:=fun σ H R=>∃ π ρ μ src n μ',Rp K π H μ/\En K π μ.length H σ ρ/\m ρ μ=some (src,n,μ') /\
 ∀ π' H' J,Ext π μ.length H π' μ'.length H'->Rp K π' H' μ'->Wk K J src π' μ'.length H'->R J H'
structure QJ (X:Cx)(e:M5)(m:MI):Prop where
 h:∀ tg,PI X tg e (g8 X.K m)
section
variable {X:Cx}{pos:Om}{e:M5}{m:ME}
noncomputable def xV:MI:=fun _ _=>none
theorem G5:QJ X e xV:=⟨fun tg Vq s σ H R I hw=>by
 obtain ⟨π,ρ,μ,src,n,μ',Rr,E,hm,k⟩:=hw
 cases hm⟩
noncomputable def hJ (x:Str):List D:=x.cps.toList.map fun c=>.str ⟨#[c]⟩
noncomputable def hU (μ:Hm):D->Option (List D)
 | .str x=>some (hJ x)
 | d=>bD μ d
noncomputable def gF (x:D):gE:=fun μ i=>(hU μ x).map fun xs=>xs[i]?
noncomputable def rH (x:Str):It:=⟨fun i _=>i<x.cps.size,fun i H v H'=>H'=H/\∃ c,x.cps[i]? = some c/\v=.str ⟨#[c]⟩,fun i _=>x.cps.size<=i⟩
theorem G6 {P:Nz}{w:NP}{K:MX}{tg:M5}{T:String}(hT:T = "str_ascii_iterator"\/T = "str_iterator") (it:Addr)(x:Str)(t:UG):Turn P w K tg (rH x) [it] it (fun i h=>h.IsStrIter it T x t i) where
 mem:=by simp
 obj:=fun i h st b hb=>by
  have e:b=it:=by simpa using hb
  subst e
  obtain ⟨o,e,c,d⟩:=st
  exact ⟨o,e,fun v z=>by rw [d] at z;cases z⟩
 keep:=fun i h h' st k=>let ⟨o,e,c,d⟩:=st;⟨o,k it (by simp) o e,c,d⟩
 item:=by
  intro X hP hw hK hc i Vq s σ H E I hf st hg
  subst hP hw hK
  obtain ⟨f0,f1,f2,f3,f4,f5⟩:=hf it (by simp)
  have W:Walks X.prog X.w X.A it [it] [it] x.cps.size (SignAt x) (fun i h=>h.IsStrIter it T x t i):=by
   rcases hT with rfl|rfl
   ·exact Walks.strAscii (I.ok.hd hc) it x t
   ·exact Walks.strWide (I.ok.hd hc) it x t
  refine W.item i s _ _ hg st fun v h' tk hv st' kk=>?_
  obtain ⟨c,u,hx,rfl⟩:=hv
  have I1:Inv X Vq σ H { s with heap:=h',toks:=tk }:=I.turned (fun b o hb e=>kk b o (by simpa using hb) e) f0 f1 f3 f4 f5
  obtain ⟨o,e,c1,d⟩:=id st'
  exact ⟨_,rfl,nC (s:={ s with heap:=h',toks:=tk }) e c1 d (by rcases hT with rfl|rfl<;>decide) ⟨.str ⟨#[c]⟩,H,I1,⟨u,rfl⟩,⟨rfl,c,hx,rfl⟩,st',fun b hb=>(hf b hb).1⟩⟩
 done:=by
  intro X hP hw hK hc i Vq s σ H E I hf st hg
  subst hP hw hK
  obtain ⟨f0,f1,f2,f3,f4,f5⟩:=hf it (by simp)
  have hg':x.cps.size<=i:=hg
  rcases hT with rfl|rfl
  ·exact wpAny_pyNext_ascii_end (I.ok.hd hc) st (by simp [hg']) fun h' eb=>⟨rfl,I.turned (t':=s.toks) (fun b o hb e=>eb b o hb e) f0 f1 f3 f4 f5⟩
  ·exact wpAny_pyNext_wide_end (I.ok.hd hc) st (by simp [hg']) fun h' eb=>⟨rfl,I.turned (t':=s.toks) (fun b o hb e=>eb b o hb e) f0 f1 f3 f4 f5⟩
 self:=fun _ _ _ _ _ st h=>by
  rcases hT with rfl|rfl
  ·exact wpAny_pyIter_striter_ascii st h
  ·exact wpAny_pyIter_striter_wide st h
theorem G7 {l tg:M5}{tl:TE}(hl:PE X l tl):PI X tg l (fun σ H R=>tl σ H fun v H1=>∃ x,v=.str x/\R (rH x) H1):=by
 intro Vq s σ H R I h
 refine aT (hl Vq s σ H _ I h) fun v s1 ⟨y,H1,I1,r1,q1⟩=>?_
 obtain ⟨x,e,q⟩:=q1
 subst e
 obtain ⟨t,rfl⟩:=r1
 have aM:∀ T,(T = "str_ascii_iterator"\/T = "str_iterator")->lU X Vq σ tg R (.ref s1.heap.objs.size) { s1 with heap:=s1.heap.push { cls:=.type T,data:=.fields #[.str x t,.int 0 0] } }:=fun T hT=>by
  refine ⟨s1.heap.objs.size,[s1.heap.objs.size],_,_,H1,rfl,I1.kept (t':=s1.toks) fun b o e=>M6 _ e,G6 hT _ x t,⟨_,Nu _ rfl,rfl,rfl⟩,fun b hb=>?_,q⟩
  have e:b=s1.heap.objs.size:=by simpa using hb
  subst e
  exact I1.fpOk (Ni _) (I1.hok.fresh (Ni _))
 cases ha:x.cps.all (·<128)
 ·exact wpAny_pyIter_wide ha (aM _ (.inr rfl))
 ·exact wpAny_pyIter_ascii ha (aM _ (.inl rfl))
theorem G8 {K:MX}{x:Str}{π:Nat->Addr}{n:Nat}{H:Hp}:Wk K (rH x) (gF (.str x)) π n H:=by
 refine ⟨fun π' μ H' i e R z=>?_,fun π' μ H' i d e R z=>?_⟩
 ·have z':(hJ x)[i]? = none:=Nq z
  have:=NZ.mp z'
  rw [hJ,MZ,Qb] at this
  exact this
 ·have z':(hJ x)[i]? = some d:=Nq z
  unfold hJ at z'
  rw [ND,O8] at z'
  obtain ⟨c,h1,h2⟩:=M3.mp z'
  subst h2
  refine ⟨(Array.getElem?_eq_some_iff.mp h1).1,fun v H2 ⟨e1,c',e2,e3⟩=>?_⟩
  subst e1
  rw [h1] at e2
  cases e2
  rw [e3]
  exact ⟨.refl,R,.str _⟩
noncomputable def dI (m:ME):MI:=fun ρ μ=>(m ρ μ).bind fun p=>(hU p.2 p.1).map fun xs=>(gF p.1,xs.length+1,p.2)
theorem G9 (h:QE X e m):QJ X e (dI m):=⟨fun tg Vq s σ H R I hw=>by
 obtain ⟨π,ρ,μ,src,n,μ',Rr,E,hm,k⟩:=hw
 obtain ⟨⟨x,μ1⟩,h1,hm⟩:=MW.mp hm
 obtain ⟨xs,h2,hm⟩:=M3.mp hm
 cases hm
 have key:∀ (hs:bD μ1 x=some xs)(hx:gF x=gW x),NI (NC X.prog X.w) X.A (eval e X.env) (fun v s1=>NI (NC X.prog X.w) X.A (Ui v) (lU X Vq σ tg R) X.xe s1) X.xe s:=fun hs hx=>by
  refine Fp h.h Vq s σ H R I ⟨π,ρ,μ,x,_,Rr,E,h1,fun π1 v1 H1 e1 R1 i1=>?_⟩
  obtain ⟨a,e,q⟩:=Fq R1 i1 hs
  subst e
  refine ⟨a,rfl,?_⟩
  dsimp only at k
  rw [hx] at k
  rcases q with ⟨q1,W⟩|⟨q1,W⟩
  ·exact .inl ⟨q1,k π1 H1 _ e1 R1 W⟩
  ·exact .inr ⟨q1,k π1 H1 _ e1 R1 W⟩
 cases x with
 | str z=>
  refine G7 h.h Vq s σ H R I ⟨π,ρ,μ,.str z,_,Rr,E,h1,fun π1 v1 H1 e1 R1 i1=>?_⟩
  cases i1
  exact ⟨z,rfl,k π1 H1 _ e1 R1 G8⟩
 | _=>exact key h2 rfl⟩
noncomputable def dY (ms:MA):MI:=fun ρ μ=>(ms ρ μ).bind fun p=>match p.1 with
 | [.int j]=>if -(2 ^ 62)<=j/\j<2 ^ 62 then some (iN 0 j.toNat,j.toNat+1,p.2) else none
 | _=>none
theorem Ha {a:M5}{ms:MA}{n:Nat}{p:Om}(hgl:Gl X "range") (hmg:X.mg "range" = none) (ha:QA X [a] ms n):QJ X (.Call (.Name "range" p) [a] [] pos) (dY ms):=⟨fun tg Vq s σ H R I hw=>by
 have hs:=ha.s
 rw [NQ,Nb] at hs
 obtain ⟨π,ρ,μ,src,n',μ',Rr,E,hm,k⟩:=hw
 obtain ⟨⟨x,μ1⟩,h1,hm⟩:=MW.mp hm
 refine CB hgl hmg ha.h (gD hs.1) Vq s σ H R I ⟨π,ρ,μ,x,μ1,Rr,E,h1,fun π1 vs H1 e1 R1 i1=>?_⟩
 dsimp only at hm
 split at hm
 ·rename_i j
  split at hm
  ·rename_i hb
   cases hm
   cases i1 with
   | cons i1 t1=>
    cases i1
    cases t1
    exact ⟨j,rfl,hb.1,hb.2,k π1 H1 _ e1 R1 Ft⟩
  ·cases hm
 ·cases hm⟩
noncomputable def fN (it:MI)(g:MG)(b:MS):MS:=fun ρ μ=>(it ρ μ).bind fun p=>eZ p.1 g b p.2.1 0 ρ p.2.2
end
noncomputable def e8 (bd:BD)(it:MI)(c:MT)(e:ME):ME:=fun ρ μ=>(it ρ μ).bind fun p=>
 (eF p.1 bd c e ρ p.2.2.length p.2.1 0 (p.2.2++[.lst []])).map fun μ'=>(.loc p.2.2.length,μ')
noncomputable abbrev dJ (it:MI)(c:MT)(e:ME):ME:=e8 l8 it c e
noncomputable def gB (n:Nat)(bd:BD):MG:=fun d ρ μ=>(bd d μ).map fun x=>ρ.take n++x
theorem Hb {X:Cx}{n:Nat}{x:Str}{px:Om}(hl:X.N.length=n+1)(h:PG X (.Name x px) (eE X.K (eY n))):PG X (.Name x px) (eE X.K (gB n l8)):=by
 intro Vq s σ H v u Q I r hw
 obtain ⟨π,ρ,μ,d,ρ',R,E,hd,hm,k⟩:=hw
 cases hm
 refine h Vq s σ H v u Q I r ⟨π,ρ,μ,d,_,R,E,hd,rfl,fun σ' E'=>k σ' ?_⟩
 have hρ:ρ.length=n+1:=by rw [<- E.len,I.len,hl]
 have e:ρ.set n (some d)=ρ.take n++[some d]:=by
  rw [List.set_eq_take_append_cons_drop,if_pos (by omega),List.drop_of_length_le (by omega)]
 rw [e] at E'
 exact E'
theorem xW:∀ (xs:List D)(a b:aJ),b.length=xs.length->jC (a++b) (Pg a.length xs.length) xs=a++xs.map some
 | [],a,[],_=>by simp [jC]
 | x::xs,a,y::b,h=>by
  have ih:=xW xs (a++[some x]) b (by simpa using h)
  rw [Na,TX]
  show jC ((a++y::b).set a.length (some x)) (Pg (a.length+1) xs.length) xs=_
  rw [Su _ _ (Ni _),UM,M7]
  rw [Nk,PK] at ih
  rw [NS,List.singleton_append] at ih
  rw [ih]
  simp
theorem Hc {X:Cx}{n k:Nat}{tg:M5}(hl:X.N.length=n+k)(h:PG X tg (eE X.K (kK (Pg n k)))):PG X tg (eE X.K (gB n (nV k))):=by
 intro Vq s σ H v u Q I r hw
 obtain ⟨π,ρ,μ,d,ρ',R,E,hd,hm,kk⟩:=hw
 obtain ⟨y,h1,h2⟩:=M3.mp hm
 obtain ⟨xs,h3,h4⟩:=MW.mp h1
 split at h4
 ·rename_i hx
  cases h4
  subst h2
  have hρ:ρ.length=n+k:=by rw [<- E.len,I.len,hl]
  refine h Vq s σ H v u Q I r ⟨π,ρ,μ,d,jC ρ (Pg n k) xs,R,E,hd,(by simp only [kK,h3,Nn,List.length_range',if_pos hx]),fun σ' E'=>kk σ' ?_⟩
  have e:=xW xs (ρ.take n) (ρ.drop n) (by rw [N5];omega)
  rw [Ol,Oa,Nat.min_eq_left (by omega),hx] at e
  rw [e] at E'
  exact E'
 ·cases h4
section
variable {X:Cx}{scope:O3}{cl:List (Str×Addr)}{xs:List Str}{tg elt iter:M5}{ifs:List M5}{pos ppos:Om}{mi:MI}{me:ME}{mc:MT}{bd:BD}
theorem Hd {K:MX}{π:Nat->Addr}{n:Nat}{H:Hp}{σ:St}{ρ o:aJ}{k:Nat}(E:En K π n H σ (ρ++o))(ho:o.length=k):En K π n H σ (ρ++MY k none):=by
 refine ⟨by rw [E.len,Nk,Nk,N0,ho],fun i d q=>?_⟩
 by_cases hi:i<ρ.length
 ·rw [NB hi] at q
  exact E.get i d (by rw [NB hi];exact q)
 ·rw [NT (PY.mp hi),OY] at q
  split at q<;>cases q
theorem xX (O:CompOk X scope cl xs)(hcalm:X.calm=true)(hi:PI X tg iter (g8 X.K mi))(hb':∀ d μ z,bd d μ=some z->z.length=xs.length)(hg:∀ C s₀ H₀ fp,PG (b8 X scope cl C (a9 xs X.N++xs) s₀ H₀ fp) tg (eE X.K (gB X.N.length bd)))
  (hc:∀ C s₀ H₀ fp,kJ (b8 X scope cl C (a9 xs X.N++xs) s₀ H₀ fp) ifs mc)(he:∀ C s₀ H₀ fp,PE (b8 X scope cl C (a9 xs X.N++xs) s₀ H₀ fp) elt (tM X.K me))
  (hs:∀ x,PQ iter X.env x=pure x){use:Option (M0->UH Unit)}{QQ:M0->M4->Prop}{Vq:List (Addr×OE)}{s:M4}{σ:St}{H:Hp}{π:Nat->Addr}{ρ:aJ}{μ μ':Hm}{d:D}
  (I:Inv X Vq σ H s)(R:Rp X.K π H μ)(E:En X.K π μ.length H σ ρ)(hm:e8 bd mi mc me ρ μ=some (d,μ'))
  (aM:∀ (p C:Addr)(π':Nat->Addr)(H':Hp)(s':M4),Ext π μ.length H π' μ'.length H'->Rp X.K π' H' μ'->IsD X.K π' μ'.length H' (.ref p) d->(∃ m,s'.heap.Ns C m)->X.s₀.heap.objs.size<=C->C≠X.env.locals->H' C=none->
   (∀ y c,X.env.cells.lookup y=some c->c≠C)->(∀ q∈X.pn++Vq,q.1≠C)->(∀ h',(∀ b o,b≠C->s'.heap.get? b=some o->h'.get? b=some o)->Inv X Vq σ H' { s' with heap:=h' })->
   compPost (NC X.prog X.w) X.A X.xe use QQ (.ref p) C (.ok .next) s') :
  NI (NC X.prog X.w) X.A (comprehension (.ListComp elt [⟨tg,iter,ifs,0⟩] scope pos) scope X.env ppos (newList []) false (eval iter X.env) use) QQ X.xe s:=by
 obtain ⟨⟨src,nt,μ1⟩,h1,hm⟩:=MW.mp hm
 obtain ⟨μ2,h3,hm⟩:=M3.mp hm
 cases hm
 have hit:NI (NC X.prog X.w) X.A (eval iter X.env) (fun v s1=>NI (NC X.prog X.w) X.A (Ui v) (lU X Vq σ tg fun J H1=>∃ π1,Ext π μ.length H π1 μ1.length H1/\Rp X.K π1 H1 μ1/\Wk X.K J src π1 μ1.length H1) X.xe s1) X.xe s:=
  hi Vq s σ H _ I ⟨π,ρ,μ,src,nt,μ1,R,E,h1,fun π1 H1 J e1 R1 W=>⟨π1,e1,R1,W⟩⟩
 refine wpAny_comprehension_free rfl hs O.clos O.kind O.names (NU hit (fun v s1 hv=>NU hv (fun itv s2 h4=>?_) fun _ _ z=>z) fun _ _ z=>z)
 obtain ⟨it,fp,tn,J,H2,rfl,I2,T,st2,f2,π1,e1,R1,W⟩:=h4
 refine wpAny_newObj_type (wpAny_newFunctionEnv O.nocell (by intro y hy;simp at hy) (fun h₁ hns₁ hsb₁=>?_) O.kind)
 dsimp only at hns₁ hsb₁ ⊢
 have hfr:H2 s2.heap.objs.size=none:=I2.hok.fresh (Ni _)
 have I3:Inv X Vq σ (aV H2 s2.heap.objs.size (.lst [])) { s2 with heap:=s2.heap.push { cls:=.type "list",dict:=none,data:=.seq ([]:List M0).toArray } }:=
  I2.laid (t':=s2.toks) (fun b u e=>M6 _ e) (Ni _) ⟨Ou _,[],0,.nil,Nu _ rfl⟩
 obtain ⟨e2,R2,q2⟩:=R1.alloc (c:=.lst []) (o:=.lst []) hfr .nil
 generalize hs3:({ s2 with heap:=s2.heap.push { cls:=.type "list",dict:=none,data:=.seq ([]:List M0).toArray } }:M4)=s3 at I3
 have hheap:s2.heap.push { cls:=.type "list",dict:=none,data:=.seq ([]:List M0).toArray } = s3.heap:=by rw [<- hs3]
 have e12:=e1.trans e2
 generalize hH3:aV H2 s2.heap.objs.size (.lst [])=H3 at I3 e2 R2 e12
 generalize hπ3:eU π1 μ1.length s2.heap.objs.size=π3 at e2 R2 q2 e12
 have hob:∀ b∈fp,∃ o,s3.heap.get? b=some o:=fun b hb=>by
  obtain ⟨o,ho,_⟩:=T.obj 0 _ st2 b hb
  exact ⟨o,by rw [<- hheap];exact M6 _ ho⟩
 have f3:∀ b∈fp,eP X Vq H3 b:=fun b hb=>by
  obtain ⟨o,ho,_⟩:=T.obj 0 _ st2 b hb
  refine ⟨?_,(f2 b hb).2⟩
  rw [<- hH3,bS (Nr (Nc ho))]
  exact (f2 b hb).1
 have st3:tn 0 s3.heap:=T.keep 0 _ _ st2 fun b hb o e=>by rw [<- hheap];exact M6 _ e
 have hC:(s2.heap.push { cls:=.type "list",dict:=none,data:=.seq ([]:List M0).toArray }).objs.size=s3.heap.objs.size:=by rw [hheap]
 rw [hheap] at hns₁ hsb₁
 have hk1:∀ b o,s3.heap.get? b=some o->h₁.get? b=some o:=fun b o e=>hsb₁.extBut b o (Nr (Nc e)) (M6 _ e)
 have E3:En X.K π3 (μ1++[C.lst []]).length H3 (σ++MY xs.length none) (ρ++MY xs.length none):=by
  have E':=E.mono e12
  refine ⟨by rw [Nk,Nk,E'.len,N0,N0],fun i d' q=>?_⟩
  by_cases hi:i<ρ.length
  ·rw [NB hi] at q
   obtain ⟨v,h5,h6⟩:=E'.get i d' q
   exact ⟨v,by rw [NB (by rw [E'.len];exact hi)];exact h5,h6⟩
  ·rw [NT (PY.mp hi),OY] at q
   split at q<;>cases q
 have hlen:ρ.length=X.N.length:=by rw [<- E.len];exact I.len
 have stat:∀ {H':Hp}{pl:List (Addr×OE)},(∀ b∈fp,H' b=none)->pl=[]->∀ b∈fp,eP (b8 X scope cl s3.heap.objs.size (a9 xs X.N++xs) s3 H3 fp) pl H' b:=fun {H' pl} hn hpl b hb=>by
  obtain ⟨f0,f1,f2',f3',f4,f5⟩:=f3 b hb
  obtain ⟨o,ho⟩:=hob b hb
  refine ⟨hn b hb,Nr (Nc ho),fun z=>?_,.inl hb,fun y c h=>f4 y c (O.sub y c h),fun p hp=>?_⟩
  ·rcases NN.mp (I3.stkSub b z) with z|z
   ·exact f1 z
   ·exact f2' z
  ·subst hpl
   exact absurd (show p∈([]:List (Addr×OE)) from hp) (by simp)
 have loop:∀ s4:M4,(∃ tk,s4 = { s3 with heap:=h₁,toks:=tk })->
   QR (NC X.prog X.w) X.A (.compLoop (.ListComp elt [⟨tg,iter,ifs,0⟩] scope pos) 0 (.ref it) (.ref s2.heap.objs.size) (PR scope cl s3.heap.objs.size X.env))
    (compPost (NC X.prog X.w) X.A X.xe use QQ (.ref s2.heap.objs.size) s3.heap.objs.size) s4:=by
  rintro s4 ⟨tk,rfl⟩
  have I4:=O.inv (tk:=tk) I3 f3 hob hns₁ hk1
  refine Fv (fun n s'=>∃ i σ' H' π' μi o,Inv (b8 X scope cl s3.heap.objs.size (a9 xs X.N++xs) s3 H3 fp) [] σ' H' s'/\tn i s'.heap/\(∀ b∈fp,H' b=none)/\Ext π3 (μ1++[C.lst []]).length H3 π' μi.length H'/\Rp X.K π' H' μi /\
   En X.K π' μi.length H' σ' (ρ++o)/\o.length=xs.length/\eF src bd mc me ρ μ1.length n i μi=some μ') ?_ nt
   ⟨0,_,H3,π3,μ1++[C.lst []],MY xs.length none,I4,T.keep 0 _ _ st3 fun b hb o e=>hk1 b o e,fun b hb=>(f3 b hb).1,.refl,R2,E3,N0,h3⟩
  rintro n s5 ⟨i,σ5,H5,π5,μ5,o5,I5,st5,fr5,e5,R5,E5,l5,g5⟩
  cases n with
  | zero=>cases g5
  | succ n=>
   obtain ⟨o,h6,h7⟩:=MW.mp g5
   cases o with
   | none=>
    cases h7
    have stop:=W.stop π5 _ H5 i (e2.trans e5) R5 h6
    refine NU (T.done (b8 X scope cl s3.heap.objs.size (a9 xs X.N++xs) s3 H3 fp) rfl rfl rfl hcalm i [] s5 σ5 H5 (fun _ _=>False) I5 (stat fr5 rfl) st5 stop) (fun r s6 ⟨hr,I6⟩=>?_) fun _ _ z=>z
    subst hr
    obtain ⟨m6,hn6,_⟩:=id I6.loc
    have hp:π5 μ1.length=s2.heap.objs.size:=by rw [e5.pi μ1.length (by simp),q2]
    refine aM s2.heap.objs.size s3.heap.objs.size π5 H5 s6 (e12.trans e5) R5 ?_ ⟨m6,hn6⟩ I3.sz (OU (Nr I3.lt)) I6.free (fun y c hc z=>?_) (fun q hq z=>?_) fun h' hh=>CompOk.back I3 f3 I6 hh
    ·rw [<- hp]
     exact .loc (Ny (by simp) e5.le)
    ·obtain ⟨v,o,ho,_⟩:=I3.cell y c hc
     exact Nr (Nc ho) z
    ·exact Nr (Nc (I3.pin q hq).1) z
   | some d=>
    obtain ⟨z,hz,h7⟩:=MW.mp h7
    obtain ⟨⟨b,μ6⟩,h8,h9⟩:=MW.mp h7
    obtain ⟨g1,g2⟩:=W.go π5 μ5 H5 i d (e2.trans e5) R5 h6
    refine NU (T.item (b8 X scope cl s3.heap.objs.size (a9 xs X.N++xs) s3 H3 fp) rfl rfl rfl hcalm i [] s5 σ5 H5 (fun _ _=>False) I5 (stat fr5 rfl) st5 g1) (fun r s6 ⟨u,hr,h10⟩=>?_) fun _ _ z=>z
    subst hr
    refine NU h10 (fun _ s7 ⟨v,H7,I7,r7,y7,st7,fr7⟩=>?_) fun _ _ z=>z
    obtain ⟨e7,R7,hd⟩:=g2 v H7 y7
    have I7':=I7.pinned (stat fr7 rfl) (T.obj _ _ st7)
    have e5:=e5.trans e7
    refine NU (hg _ _ _ _ _ s7 σ5 H7 v u (fun σ' H'=>En X.K π5 μ5.length H7 σ' (ρ++z)/\H'=H7) I7' r7
     ⟨π5,ρ++MY xs.length none,μ5,d,ρ++z,R7,Hd (E5.mono e7) l5,hd,(by
      show (bd d μ5).map (fun x=>(ρ++MY xs.length none).take X.N.length++x)=_
      rw [hz,<- hlen,T9]
      rfl),fun σ' E'=>⟨E',rfl⟩⟩) (fun _ s8 ⟨σ8,H8,I8,E8,z2⟩=>?_) fun _ _ z=>z
    subst z2
    have again:∀ {s9:M4}{H9:Hp}{π9:Nat->Addr}{μ9:Hm},Inv (b8 X scope cl s3.heap.objs.size (a9 xs X.N++xs) s3 H3 fp) ([]++lV fp s7.heap) σ8 H9 s9->Ext π3 (μ1++[C.lst []]).length H3 π9 μ9.length H9->Rp X.K π9 H9 μ9->
      En X.K π9 μ9.length H9 σ8 (ρ++z)->eF src bd mc me ρ μ1.length n (i+1) μ9=some μ'->
      ∃ m,m<n+1/\∃ i σ' H' π' μi o,Inv (b8 X scope cl s3.heap.objs.size (a9 xs X.N++xs) s3 H3 fp) [] σ' H' s9/\tn i s9.heap/\(∀ b∈fp,H' b=none)/\Ext π3 (μ1++[C.lst []]).length H3 π' μi.length H'/\Rp X.K π' H' μi /\
       En X.K π' μi.length H' σ' (ρ++o)/\o.length=xs.length/\eF src bd mc me ρ μ1.length m i μi=some μ':=fun {s9 H9 π9 μ9} I9 e9 R9 E9 g9=>by
     refine ⟨n,OI _,i+1,_,H9,π9,μ9,z,I9.unpinned,T.keep _ _ _ st7 fun b hb o e=>(I9.pin (b,o) (NX _ (NX _ (nE hb e)))).1,fun b hb=>?_,e9,R9,E9,hb' _ _ _ hz,g9⟩
     obtain ⟨o,e,_⟩:=T.obj _ _ st7 b hb
     exact (I9.pin (b,o) (NX _ (NX _ (nE hb e)))).2.1
    refine NU (hc _ _ _ _ _ s8 _ H8 (fun b' H'=>∃ π9,b'=b/\Ext π5 μ5.length H8 π9 μ6.length H'/\Rp X.K π9 H' μ6) I8 ⟨π5,_,μ5,b,μ6,R7,E8,h8,fun π9 H9 e9 R9=>⟨π9,rfl,e9,R9⟩⟩) (fun ok s9 ⟨H9,I9,π9,hb,e9,R9⟩=>?_) fun _ _ z=>z
    subst hb
    cases ok with
    | false=>
     rw [if_neg Pz]
     exact again I9 (e5.trans e9) R9 (E8.mono e9) h9
    | true=>
     rw [if_pos rfl]
     obtain ⟨⟨dy,μ7⟩,h11,h12⟩:=MW.mp h9
     obtain ⟨μ8,h13,h14⟩:=MW.mp h12
     refine NU (he _ _ _ _ _ s9 _ H9 (fun y H'=>∃ π10,Ext π9 μ6.length H9 π10 μ7.length H'/\Rp X.K π10 H' μ7/\IsD X.K π10 μ7.length H' y dy) I9 ⟨π9,_,μ6,dy,μ7,R9,E8.mono e9,h11,fun π10 y H10 e10 R10 i10=>⟨π10,e10,R10,i10⟩⟩)
      (fun u' s10 ⟨y,H10,I10,ry,π10,e10,R10,i10⟩=>?_) fun _ _ z=>z
     unfold kI at h13
     split at h13
     ·rename_i zs hz
      split at h13
      ·rename_i hl
       cases h13
       obtain ⟨vs,h15,h16⟩:=R10.lst _ zs hz
       have eall:=(e5.trans e9).trans e10
       have hp:π10 μ1.length=s2.heap.objs.size:=by rw [eall.pi μ1.length (by simp),q2]
       obtain ⟨e11,R11⟩:=R10.put (a:=μ1.length) (c:=.lst (zs++[dy])) (o:=.lst (vs++[y])) (Ng.mp hz).1 h15 (.inl ⟨vs,rfl⟩) (h16.append (.cons i10 .nil))
       rw [hp] at h15 e11 R11
       refine NU (wG (X:=b8 X scope cl s3.heap.objs.size (a9 xs X.N++xs) s3 H3 fp) _ s10 _ H10 (.ref s2.heap.objs.size) [y] (.ref s2.heap.objs.size) [u'] (fun _ H'=>H'=aV H10 s2.heap.objs.size (.lst (vs++[y]))) I10 rfl (.cons ry .nil)
        ⟨s2.heap.objs.size,vs,y,rfl,rfl,h15,by rw [h16.length];exact hl,rfl⟩) (fun _ s11 ⟨_,H11,I11,_,z⟩=>?_) fun _ _ z=>z
       subst z
       exact again I11 (eall.trans e11) R11 ((E8.mono (e9.trans e10)).mono e11) h14
      ·cases h13
     ·cases h13
 have l4:=loop { s3 with heap:=h₁,toks:=s2.toks+([]:List (Str×M0)).length } ⟨_,rfl⟩
 have hst4:tn 0 h₁:=T.keep 0 _ _ st3 fun b hb o e=>hk1 b o e
 subst hs3
 exact codeAny_compStart_list l4 (T.self _ 0 _ _ _ hst4 l4)
theorem He (O:CompOk X scope cl xs)(hcalm:X.calm=true)(hi:PI X tg iter (g8 X.K mi))(hb':∀ d μ z,bd d μ=some z->z.length=xs.length)(hg:∀ C s₀ H₀ fp,PG (b8 X scope cl C (a9 xs X.N++xs) s₀ H₀ fp) tg (eE X.K (gB X.N.length bd)))
  (hc:∀ C s₀ H₀ fp,kJ (b8 X scope cl C (a9 xs X.N++xs) s₀ H₀ fp) ifs mc)(he:∀ C s₀ H₀ fp,PE (b8 X scope cl C (a9 xs X.N++xs) s₀ H₀ fp) elt (tM X.K me))
  (hs:∀ x,PQ iter X.env x=pure x):PE X (.ListComp elt [⟨tg,iter,ifs,0⟩] scope pos) (tM X.K (e8 bd mi mc me)):=by
 intro Vq s σ H Q I hw
 obtain ⟨π,ρ,μ,d,μ',R,E,hm,k⟩:=hw
 rw [eval_ListComp]
 refine xX (use:=none) O hcalm hi hb' hg hc he hs I R E hm fun p C π' H' s' e1 R1 i1 hns hsz hne hfree hcel hpin back=>?_
 obtain ⟨m,hn⟩:=hns
 exact ⟨m,hn,fun h' sb=>⟨.ref p,H',back h' (fun b o hb e=>(sb.2 b hb).trans e),rfl,k π' _ H' e1 R1 i1⟩⟩
theorem Hf {i:Nat}{y:Str}{py spos:Om}(O:CompOk X scope cl xs)(hN:X.N.Nodup)(hcalm:X.calm=true)(hi:PI X tg iter (g8 X.K mi))(hb':∀ d μ z,bd d μ=some z->z.length=xs.length)(hg:∀ C s₀ H₀ fp,PG (b8 X scope cl C (a9 xs X.N++xs) s₀ H₀ fp) tg (eE X.K (gB X.N.length bd)))
  (hc:∀ C s₀ H₀ fp,kJ (b8 X scope cl C (a9 xs X.N++xs) s₀ H₀ fp) ifs mc)(he:∀ C s₀ H₀ fp,PE (b8 X scope cl C (a9 xs X.N++xs) s₀ H₀ fp) elt (tM X.K me))
  (hs:∀ x,PQ iter X.env x=pure x)(hy:X.N[i]? = some y)(hl:X.env.scope.names.lookup y=some .local)
  (hsw:Qc (.ListComp elt [⟨tg,iter,ifs,0⟩] scope pos) (some (.Name y py)) spos.line X.env=pure true) :
  PS X (.Assign [.Name y py] (.ListComp elt [⟨tg,iter,ifs,0⟩] scope pos) spos) (cI X.K (aW i (e8 bd mi mc me))):=by
 intro Vq s σ H EN I hw
 obtain ⟨π,ρ,μ,fl,ρ',μ',R,E,hm,k⟩:=hw
 obtain ⟨⟨d,μ1⟩,h1,hm⟩:=M3.mp hm
 cases hm
 rw [exec_Assign_Name_used _ _ _ _ hsw]
 refine Nm (SM ?_)
 refine Nm (Nm ?_)
 refine xX (use:=some (Rz (.Name y py) X.env)) (QQ:=fun _ s'=>NI (NC X.prog X.w) X.A (pure ()) (fun _ s''=>NI (NC X.prog X.w) X.A (pure Flow.next) (SP X Vq EN) X.xe s'') X.xe s') O hcalm hi hb' hg hc he hs I R E h1 fun p C π' H' s' e1 R1 i1 hns hsz hne hfree hcel hpin back=>?_
 obtain ⟨m,hn⟩:=hns
 have I1:Inv X Vq σ H' s':=back s'.heap fun b o _ e=>e
 show NI (NC X.prog X.w) X.A (Rz (.Name y py) X.env (.ref p)) _ X.xe s'
 refine Uu ?_
 refine uW I1 hN hy (.inl hl) (show RelV (.ref p) (.ref p) from rfl) (fun s2 I2 ⟨a,sb,ha⟩=>?_) (.inr hl)
 have hCa:C≠a:=by
  rcases ha with rfl|ha
  ·exact hne
  ·exact OU (hcel _ _ ha)
 refine ⟨m,hn.sameBut sb hCa,fun h' sb'=>NO (NO ?_)⟩
 refine ⟨σ.set i (some (.ref p)),H',I2.turned (t':=s2.toks) (fun b o hb e=>(sb'.2 b hb).trans e) hfree hne (.inr hsz) hcel hpin,?_⟩
 exact k π' _ H' e1 R1 ((E.mono e1).set i1 i)
end
end L3
namespace L3
open PySem L2
noncomputable def bT:ME:=fun _ _=>none
noncomputable def kQ:MT:=fun _ _=>none
noncomputable def eG:MS:=fun _ _=>none
section
variable {X:Cx}{e a b c o:M5}{m m1 m2 ma mb mc:ME}{pos:Om}{mt mu:MT}{rest es:List M5}{ms:MA}{n:Nat}
theorem bW:QE X e bT:=⟨fun Vq s σ H Q I h=>by
 obtain ⟨π,ρ,μ,d,μ',R,E,hm,k⟩:=h
 cases hm⟩
theorem xY:QT X e kQ:=⟨fun Vq s σ H Q I h=>by
 obtain ⟨π,ρ,μ,d,μ',R,E,hm,k⟩:=h
 cases hm⟩
theorem Hg:QW X e kQ:=⟨fun wh Vq s σ H Q I h=>by
 obtain ⟨π,ρ,μ,d,μ',R,E,hm,k⟩:=h
 cases hm⟩
theorem fP {st:Stmt}:QS X st eG:=⟨fun Vq s σ H D I h=>by
 obtain ⟨π,ρ,μ,fl,ρ',μ',R,E,hm,k⟩:=h
 cases hm⟩
theorem n8 {g:MG}(hg:∀ d ρ μ,g d ρ μ=none):QG X e g:=⟨fun Vq s σ H v u Q I r h=>by
 obtain ⟨π,ρ,μ,d,ρ',R,E,hd,hm,k⟩:=h
 rw [hg] at hm
 cases hm⟩
theorem rJ (h1:QE X e m1)(h2:QE X e m2)(h:∀ ρ μ r,m ρ μ=some r->m1 ρ μ=some r\/m2 ρ μ=some r):QE X e m:=⟨fun Vq s σ H Q I q=>by
 obtain ⟨π,ρ,μ,d,μ',R,E,hm,k⟩:=q
 rcases h ρ μ _ hm with z|z
 ·exact h1.h Vq s σ H Q I ⟨π,ρ,μ,d,μ',R,E,z,k⟩
 ·exact h2.h Vq s σ H Q I ⟨π,ρ,μ,d,μ',R,E,z,k⟩⟩
theorem xZ {m m1 m2:MT}(h1:QT X e m1)(h2:QT X e m2)(h:∀ ρ μ r,m ρ μ=some r->m1 ρ μ=some r\/m2 ρ μ=some r):QT X e m:=⟨fun Vq s σ H Q I q=>by
 obtain ⟨π,ρ,μ,d,μ',R,E,hm,k⟩:=q
 rcases h ρ μ _ hm with z|z
 ·exact h1.h Vq s σ H Q I ⟨π,ρ,μ,d,μ',R,E,z,k⟩
 ·exact h2.h Vq s σ H Q I ⟨π,ρ,μ,d,μ',R,E,z,k⟩⟩
theorem mE {f f1 f2:D->D->Hm->Option (D×Hm)}(h:∀ x y μ r,f x y μ=some r->f1 x y μ=some r\/f2 x y μ=some r) :
  ∀ ρ μ r,aA f ma mb ρ μ=some r->aA f1 ma mb ρ μ=some r\/aA f2 ma mb ρ μ=some r:=by
 intro ρ μ r hm
 obtain ⟨p,h1,hm⟩:=MW.mp hm
 obtain ⟨q,h2,hm⟩:=MW.mp hm
 rcases h _ _ _ _ hm with z|z
 ·exact .inl (MW.mpr ⟨p,h1,MW.mpr ⟨q,h2,z⟩⟩)
 ·exact .inr (MW.mpr ⟨p,h1,MW.mpr ⟨q,h2,z⟩⟩)
theorem x3 (h:∀ ρ μ r,m ρ μ=some r->m1 ρ μ=some r\/m2 ρ μ=some r):∀ ρ μ r,aU m ρ μ=some r->aU m1 ρ μ=some r\/aU m2 ρ μ=some r:=by
 intro ρ μ r hm
 obtain ⟨p,h1,hm⟩:=MW.mp hm
 rcases h _ _ _ h1 with z|z
 ·exact .inl (MW.mpr ⟨p,z,hm⟩)
 ·exact .inr (MW.mpr ⟨p,z,hm⟩)
noncomputable def hV:List D->Option (List Int)
 | []=>some []
 | .int i::r=>(hV r).map (i::·)
 | _=>none
noncomputable def aI:D->D->Hm->Option (D×Hm):=fun x y μ=>match x with
 | .loc a=>match μ[a]? with
  | some (.dK kvs)=>(gY y).bind fun k=>(e6 kvs k).map fun d=>(d,μ)
  | _=>dW x y μ
 | _=>dW x y μ
theorem Hh {k:Nat}(hr:Room k X.A)(ha:QE X a ma)(hb:QE X b mb)(h:kP b=true):QE X (.Subscript a b pos) (aA aI ma mb):=
 rJ (Gk ha hb h) (Gn hr ha hb h) (mE fun x y μ r hm=>by
  unfold aI at hm
  split at hm
  ·split at hm
   ·rename_i kvs hc
    refine .inr ?_
    simp only [nX,hc]
    exact hm
   ·exact .inl hm
  ·exact .inl hm)
structure TabOk (X:Cx)(x:Str)(kvs:List (aF×D)):Prop where
 ex:∃ (p:Addr)(vs:List (aF×V))(ws:List (aF×M0)),X.mg x=some (.ref p)/\(∀ h:N6,X.K.In h->h.DictOf (cS X.prog X.w) p ws)/\KV vs ws/\∀ π n H,IsKs X.K π n H vs kvs
theorem x4 {Vq:List (Addr×OE)}{σ:St}{H:Hp}{s:M4}(I:Inv X Vq σ H s){p:Addr}{ob:OE}(h:X.K.lookup p=some ob):H p=none:=(I.bs p ob (I.mod.kin p ob h)).2
theorem x5 {K:MX}{π:Nat->Addr}{H:Hp}{μ:Hm}(R:Rp K π H μ){a':Nat}(ha:a'<μ.length):(∃ vs,H (π a')=some (.lst vs))\/(∃ vs,H (π a')=some (.dK vs))\/(∃ φ,H (π a')=some (.ext φ))\/∃ ob φ,H (π a')=some (.frz ob (.ext φ)):=by
 cases q:μ[a']? with
 | none=>exact absurd (NZ.mp q) (by omega)
 | some cl=>
  cases cl with
  | lst xs=>obtain ⟨vs,h,_⟩:=R.lst a' xs q;exact .inl ⟨vs,h⟩
  | dK xs=>obtain ⟨vs,h,_⟩:=R.dK a' xs q;exact .inr (.inl ⟨vs,h⟩)
  | st xs=>obtain ⟨vs,h,_⟩:=R.st a' xs q;exact .inr (.inr (.inl ⟨_,h⟩))
section
variable {Vq:List (Addr×OE)}{σ:St}{H:Hp}{s:M4}{π:Nat->Addr}{μ:Hm}
theorem x6 (I:Inv X Vq σ H s)(R:Rp X.K π H μ){a':Nat}(ha:a'<μ.length){vs:List V}(h:SqT X.K H (π a') vs):False:=by
 have hc:=x5 R ha
 rcases h with h|h
 ·rcases h with h|⟨ob,h⟩<;>rcases hc with ⟨ws,z⟩|⟨ws,z⟩|⟨ws,z⟩|⟨_,ws,z⟩<;>(rw [h] at z;cases z)
 ·obtain ⟨ob,its,n,hk,_⟩:=h
  have:=x4 I hk
  rcases hc with ⟨ws,z⟩|⟨ws,z⟩|⟨ws,z⟩|⟨_,ws,z⟩<;>(rw [this] at z;cases z)
theorem x8 (I:Inv X Vq σ H s)(R:Rp X.K π H μ){a':Nat}(ha:a'<μ.length){vs:List V}(h:RoL X.K H (π a') vs):False:=by
 have hc:=x5 R ha
 rcases h with ⟨ob,h⟩|h
 ·rcases hc with ⟨ws,z⟩|⟨ws,z⟩|⟨ws,z⟩|⟨_,ws,z⟩<;>(rw [h] at z;cases z)
 ·obtain ⟨ob,its,n,hk,_⟩:=h
  have:=x4 I hk
  rcases hc with ⟨ws,z⟩|⟨ws,z⟩|⟨ws,z⟩|⟨_,ws,z⟩<;>(rw [this] at z;cases z)
theorem x9 (I:Inv X Vq σ H s){p:Addr}{vs ws:List V}(h:SqT X.K H p vs)(h':RoL X.K H p ws):False:=by
 obtain ⟨its,_,t,_⟩:=I.tuple h
 obtain ⟨its',_,l,_⟩:=I.list h'.sq
 exact absurd rfl (Od l.isList t)
mutual
theorem Hi (I:Inv X Vq σ H s)(R:Rp X.K π H μ){v:V}{d d':D}:IsD X.K π μ.length H v d->IsD X.K π μ.length H v d'->d=d'
 | .non,h'=>by cases h';rfl
 | .bl _,h'=>by cases h';rfl
 | .int _,h'=>by cases h';rfl
 | .str _,h'=>by cases h';rfl
 | .ty _,h'=>by cases h';rfl
 | .tup h t,h'=>by
  cases h' with
  | tup h2 t2=>
   have:=I.tuple_inj h h2
   subst this
   rw [rK I R t t2]
  | rol h2 t2=>exact (x9 I h h2).elim
  | loc h2=>exact (x6 I R h2 h).elim
 | .rol h t,h'=>by
  cases h' with
  | tup h2 t2=>exact (x9 I h2 h).elim
  | rol h2 t2=>
   have:=I.list_inj h.sq h2.sq
   subst this
   rw [rK I R t t2]
  | loc h2=>exact (x8 I R h2 h).elim
 | .loc (a:=a1) ha,h'=>by
  generalize hz:V.ref (π a1)=z at h'
  cases h' with
  | tup h2 t2=>cases hz;exact (x6 I R ha h2).elim
  | rol h2 t2=>cases hz;exact (x8 I R ha h2).elim
  | loc h2=>
   have:=R.inj _ _ ha h2 (V.ref.inj hz)
   rw [this]
  | _=>cases hz
theorem rK (I:Inv X Vq σ H s)(R:Rp X.K π H μ){vs:List V}{ds ds':List D}:IsDs X.K π μ.length H vs ds->IsDs X.K π μ.length H vs ds'->ds=ds'
 | .nil,h'=>by cases h';rfl
 | .cons h t,h'=>by
  cases h' with
  | cons h2 t2=>rw [Hi I R h h2,rK I R t t2]
end
end
noncomputable def gG (neg:Bool):D->D->Hm->Option (D×Hm)
 | x,.non,μ=>some (.bl (match x with|.non=>!neg|_=>neg),μ)
 | _,_,_=>none
theorem yA {K:MX}:cU K (gG false) (fun x y H Q=>y=.non/\Q (.bl (decide (x=.non))) H):=by
 intro π H μ x y d μ' vx vy Q R ix iy hm k
 unfold gG at hm
 split at hm
 ·cases hm
  cases iy
  refine ⟨rfl,?_⟩
  cases ix<;>exact k π _ H .refl R (.bl _)
 ·cases hm
theorem yB {K:MX}:cU K (gG true) (fun x y H Q=>y=.non/\Q (.bl (!decide (x=.non))) H):=by
 intro π H μ x y d μ' vx vy Q R ix iy hm k
 unfold gG at hm
 split at hm
 ·cases hm
  cases iy
  refine ⟨rfl,?_⟩
  cases ix<;>exact k π _ H .refl R (.bl _)
 ·cases hm
theorem Hj (ha:QE X a ma)(hb:QE X b mb):QE X (.Compare a [.Is] [b] pos) (aA (gG false) ma mb):=⟨fZ vD yA ha.h hb.h (cT _)⟩
theorem Hk (ha:QE X a ma)(hb:QE X b mb):QE X (.Compare a [.IsNot] [b] pos) (aA (gG true) ma mb):=⟨fZ vE yB ha.h hb.h (cT _)⟩
theorem Hl (ha:QE X a ma)(hb:QE X b mb):QT X (.Compare a [.Is] [b] pos) (aU (aA (gG false) ma mb)):=⟨f6 vD yA ha.h hb.h (cT _)⟩
theorem Hn (ha:QE X a ma)(hb:QE X b mb):QT X (.Compare a [.IsNot] [b] pos) (aU (aA (gG true) ma mb)):=⟨f6 vE yB ha.h hb.h (cT _)⟩
end
end L3
namespace L3
open PySem L2
section
variable {X:Cx}{e a b c o:M5}{m m1 m2 ma mb mc mo:ME}{pos apos cpos:Om}{mt mu:MT}{rest es:List M5}{ms:MA}{n:Nat}
noncomputable def kR (μ:Hm):D->Bool
 | .rol _=>true
 | .loc a=>match μ[a]? with|some (.lst _)=>true|_=>false
 | _=>false
noncomputable def kS (f:D->List D->Hm->Option (D×Hm))(mo:ME)(ms:MA):ME:=fun ρ μ=>(mo ρ μ).bind fun p=>match kR p.2 p.1 with
 | true=>(ms ρ p.2).bind fun q=>f p.1 q.1 q.2
 | false=>none
noncomputable def kT (K:MX)(f:D->List D->Hm->Option (D×Hm))(r:V->List V->Hp->VK->Prop):Prop:=
 ∀ π H μ x xs d μ' v vs Q,Rp K π H μ->IsD K π μ.length H v x->IsDs K π μ.length H vs xs->f x xs μ=some (d,μ')->KC K Q π μ.length H d μ'->r v vs H Q
theorem Ho {K:MX}{π:Nat->Addr}{H:Hp}{μ:Hm}{v:V}{x:D}(R:Rp K π H μ)(h:IsD K π μ.length H v x)(e:kR μ x=true):qG K "list" v H:=by
 cases h with
 | rol h t=>exact .inl ⟨rfl,_,h.sq⟩
 | @loc a ha=>
  simp only [kR] at e
  split at e
  ·rename_i xs hx
   obtain ⟨vs,h1,_⟩:=R.lst a xs hx
   exact .inl ⟨rfl,vs,.of h1⟩
  ·cases e
 | _=>cases e
theorem Hq {K:MX}{f:D->List D->Hm->Option (D×Hm)}{r:V->List V->Hp->VK->Prop}(hf:kT K f r):∀ σ H Q,tM K (kS f mo ms) σ H Q->qH K "list" r (tM K mo) (dO K ms) σ H Q:=by
 rintro σ H Q ⟨π,ρ,μ,d,μ',R,E,hm,k⟩
 obtain ⟨⟨x,μ1⟩,h1,hm⟩:=MW.mp hm
 dsimp only at hm
 split at hm
 ·rename_i hl
  obtain ⟨⟨xs,μ2⟩,h2,hm⟩:=MW.mp hm
  refine ⟨π,ρ,μ,x,μ1,R,E,h1,fun π1 v1 H1 e1 R1 i1=>⟨Ho R1 i1 hl,π1,ρ,μ1,xs,μ2,R1,E.mono e1,h2,fun π2 vs H2 e2 R2 i2=>?_⟩⟩
  exact hf π2 H2 μ2 x xs d μ' v1 vs Q R2 (i1.mono e2) i2 hm (k.after (e1.trans e2))
 ·cases hm
noncomputable def n9:M5->Bool
 | .Call (.Name _ _) [] [] _=>false
 | _=>true
theorem mF {o:M5}{attr:Str}{env:Rf}{whole:UH M0}(h:n9 o=true):Ro o attr env whole=whole:=by
 cases o with
 | Call f args kws p=>
  cases f with
  | Name id q=>
   cases args with
   | nil=>
    cases kws with
    | nil=>cases h
    | cons _ _=>rfl
   | cons _ _=>rfl
  | _=>rfl
 | _=>rfl
theorem yC {e:M5}{es:List M5}{env:Rf}{cpos:Om}(h:(e::es).all c8=true)(hn:(e::es).length<30) :
  ((Pk cpos (NL (e::es) env)).all (fun x=>!x.1)&&(T1 cpos (RX [] env)).all (fun x=>x.1.isSome)
   && decide ((e::es).length+([]:List PZ).length+(if ([]:List PZ).isEmpty then 0 else 1)<30))=true:=by
 have h1:(Pk cpos (NL (e::es) env)).all (fun x=>!x.1)=true:=by
  have:=jF (pos:=cpos) (env:=env) h
  rw [List.all_eq_not_any_not]
  simpa using this
 rw [h1]
 have h2:(e::es).length+([]:List PZ).length+(if ([]:List PZ).isEmpty then 0 else 1)<30:=by
  show (e::es).length+0+0<30
  omega
 rw [decide_eq_true h2]
 rfl
theorem Hr {f:D->List D->Hm->Option (D×Hm)}{r:V->List V->Hp->VK->Prop}{name:Str}{id:String}(slot:Slot "list" name id) (hty:typeOf (.builtin id)=pure (.type "method_descriptor")) (hm:nM X id r)(hf:kT X.K f r)
  (ho:QE X o mo)(ha:QA X (e::es) ms n)(hs:n9 o=true)(hl:(apos.endLine == cpos.line)=true)(hn:(e::es).length<30):QE X (.Call (.Attribute o name apos) (e::es) [] cpos) (kS f mo ms):=by
 have hst:=ha.s
 have hst':=hst
 rw [NQ,Nb] at hst'
 exact ⟨cJ (wC PySem.F.plainAttrs_list slot hty hm ho.h ha.h (mF hs) (yC hst hn) hl (gD hst'.1) (jF hst'.2)) (Hq hf)⟩
noncomputable def kU:D->List D->Hm->Option (D×Hm)
 | .loc a,[y],μ=>(kI μ a y).map fun μ'=>(.non,μ')
 | _,_,_=>none
theorem Hs {K:MX}{π:Nat->Addr}{n:Nat}{H:Hp}{vs:List V}{ds:List D}(h:IsDs K π n H vs ds):IsDs K π n H vs.reverse ds.reverse:=by
 induction ds generalizing vs with
 | nil=>cases h;exact .nil
 | cons d ds ih=>
  cases h with
  | cons h t=>
   rw [N2,N2]
   exact (ih t).append (.cons h .nil)
theorem Ht {K:MX}:kT K kU wF:=by
 intro π H μ x xs d μ' v vs Q R ix ixs hm k
 unfold kU at hm
 split at hm
 ·rename_i a y
  obtain ⟨μ1,h1,hm⟩:=M3.mp hm
  cases hm
  unfold kI at h1
  split at h1
  ·rename_i zs hz
   split at h1
   ·rename_i hl
    cases h1
    obtain ⟨ws,h2,h3⟩:=R.lst a zs hz
    cases ix
    cases ixs with
    | cons iy it=>
     cases it
     obtain ⟨e1,R1⟩:=R.put (a:=a) (c:=.lst (zs++[y])) (o:=.lst (ws++[_])) (Ng.mp hz).1 h2 (.inl ⟨ws,rfl⟩) (h3.append (.cons iy .nil))
     exact ⟨_,ws,_,rfl,rfl,h2,by rw [h3.length];exact hl,k π _ _ e1 R1 .non⟩
   ·cases h1
  ·cases h1
 ·cases hm
noncomputable def kW (μ:Hm):D->Option Bool
 | .non=>some false
 | .bl b=>some b
 | .int i=>some (i != 0)
 | .str z=>if z.length<=Nd then some ((z.length:Int) != 0) else none
 | .tup xs=>some (!xs.isEmpty)
 | .rol xs=>some (!xs.isEmpty)
 | .loc a=>match μ[a]? with|some (.lst xs)=>some (!xs.isEmpty)|some (.dK kvs)=>some (!kvs.isEmpty)|_=>none
 | .ty _=>none
theorem oA {α β:Type}{xs:List α}{ys:List β}(h:xs.length=ys.length):xs.isEmpty=ys.isEmpty:=by
 cases xs<;>cases ys<;>first|rfl|cases h
theorem Hu {K:MX}{π:Nat->Addr}{H:Hp}{μ:Hm}{v:V}{x:D}{b:Bool}(R:Rp K π H μ)(h:IsD K π μ.length H v x)(e:kW μ x=some b):pW K v H b:=by
 cases h with
 | non=>cases e;rfl
 | bl c=>cases e;rfl
 | int i=>cases e;rfl
 | str z=>
  simp only [kW] at e
  split at e
  ·rename_i hl;cases e;exact ⟨hl,rfl⟩
  ·cases e
 | tup h t=>cases e;exact .inr (.inl ⟨_,h,by rw [oA t.length]⟩)
 | rol h t=>cases e;exact .inl ⟨_,h.sq,by rw [oA t.length]⟩
 | @loc a ha=>
  simp only [kW] at e
  split at e
  ·rename_i xs hx
   cases e
   obtain ⟨vs,h1,h2⟩:=R.lst a xs hx
   exact .inl ⟨vs,.of h1,by rw [oA h2.length]⟩
  ·rename_i kvs hx
   cases e
   obtain ⟨vs,h1,h2,_⟩:=R.dK a kvs hx
   refine .inr (.inr ⟨vs,h1,?_⟩)
   have:=congrArg Ph h2
   rw [MZ,MZ] at this
   rw [oA this]
  ·cases e
 | ty n=>cases e
noncomputable def hW (m:ME):MT:=fun ρ μ=>(m ρ μ).bind fun p=>(kW p.2 p.1).map fun b=>(b,p.2)
theorem Hv (h:QE X e m)(he:rD e=true):QT X e (hW m):=⟨qM (CU h.h (GI he)) (by
 rintro σ H Q ⟨π,ρ,μ,b,μ',R,E,hm,k⟩
 obtain ⟨⟨x,μ1⟩,h1,hm⟩:=MW.mp hm
 obtain ⟨b',h2,hm⟩:=M3.mp hm
 cases hm
 exact ⟨π,ρ,μ,x,_,R,E,h1,fun π1 v1 H1 e1 R1 i1=>⟨_,Hu R1 i1 h2,k π1 H1 e1 R1⟩⟩)⟩
theorem Hw {k:Nat}{f:Addr}{fd:OB}{ps:List Str}{fm:MF}{x:Str}{p:Om}(F:FnOk X.prog X.w X.K X.mg X.base dU k f fd ps (fY X.K 0 fm))(hr:Room k X.A)(hm:X.mg x=some (.ref f))
  (hk:Ob X.K (.ref f)=true)(hb:Binds X.K fd ps [])(hg:Gl X x)(hdb:(x == ("__debug__":Str))=false):QE X (.Call (.Name x p) [] [] pos) (aG fm aD):=
 ⟨cJ (C6 F hr hg hm hk hb .nil (E:=E0) wK hdb) (by
  rintro σ H Q ⟨π,ρ,μ,d,μ',R,E,hm,k⟩
  obtain ⟨⟨xs,μ1⟩,h1,hm⟩:=MW.mp hm
  cases h1
  exact ⟨rfl,π,[],μ,d,μ',R,.nil,hm,k⟩)⟩
noncomputable def jG (c:MT)(b:MS):Nat->MS
 | 0,_,_=>none
 | n+1,ρ,μ=>(c ρ μ).bind fun p=>match p.1 with
  | false=>some (.nx,ρ,p.2)
  | true=>(b ρ p.2).bind fun q=>match q.1 with
   | .nx=>jG c b n q.2.1 q.2.2
   | .ct=>jG c b n q.2.1 q.2.2
   | .bk=>some (.nx,q.2.1,q.2.2)
   | .rt d=>some (.rt d,q.2.1,q.2.2)
noncomputable def kX (n:Nat)(c:MT)(b:MS):MS:=jG c b n
theorem Hx {body:List Stmt}{mb:MS}(n:Nat)(hc:QT X c mt)(hb:QB X body mb)(hp:RU (NC X.prog X.w) X.A X.env X.xe):QS X (.While c body [] pos) (kX n mt mb):=⟨fK (Cu hp hc.h hb.h) (by
 rintro E σ H ⟨π,ρ,μ,fl,ρ',μ',R,EN,hm,k⟩
 have lift:∀ {π2:Nat->Addr}{n2:Nat}{H2:Hp}(e:Ext π μ.length H π2 n2 H2),i8 X.K E π2 n2 H2 fl ρ' μ':=fun {π2 n2 H2} e=>by
  cases fl with
  | nx=>exact fun π3 σ3 H3 e3 R3 E3=>k π3 σ3 H3 (e.trans e3) R3 E3
  | bk=>exact fun π3 σ3 H3 e3 R3 E3=>k π3 σ3 H3 (e.trans e3) R3 E3
  | ct=>exact fun π3 σ3 H3 e3 R3 E3=>k π3 σ3 H3 (e.trans e3) R3 E3
  | rt d=>exact KC.after k e
 refine ⟨fun m σ' H'=>∃ π2 μ2 ρ2,Ext π μ.length H π2 μ2.length H'/\Rp X.K π2 H' μ2/\En X.K π2 μ2.length H' σ' ρ2/\jG mt mb m ρ2 μ2=some (fl,ρ',μ'),⟨n,π,μ,ρ,.refl,R,EN,hm⟩,?_⟩
 rintro m σ1 H1 ⟨π2,μ2,ρ2,e2,R2,E2,h2⟩
 cases m with
 | zero=>cases h2
 | succ m=>
  obtain ⟨⟨b,μ3⟩,h3,h4⟩:=MW.mp h2
  refine ⟨π2,ρ2,μ2,b,μ3,R2,E2,h3,fun π3 H3 e3 R3=>?_⟩
  cases b with
  | false=>
   refine i4 ?_
   cases h4
   exact lift e2 π3 σ1 H3 e3 R3 (E2.mono e3)
  | true=>
   refine i5 ?_
   obtain ⟨⟨f4,ρ4,μ4⟩,h5,h6⟩:=MW.mp h4
   refine ⟨fun σ' H'=>∃ π5 ρ5 μ5,Ext π μ.length H π5 μ5.length H'/\Rp X.K π5 H' μ5/\En X.K π5 μ5.length H' σ' ρ5/\jG mt mb m ρ5 μ5=some (fl,ρ',μ'),
    fun σ' H' ⟨π5,ρ5,μ5,a1,a2,a3,a4⟩=>⟨m,OI _,π5,μ5,ρ5,a1,a2,a3,a4⟩,π3,ρ2,μ3,f4,ρ4,μ4,R3,E2.mono e3,h5,?_⟩
   cases f4 with
   | nx=>exact fun π5 σ5 H5 e5 R5 E5=>⟨π5,ρ4,μ4,(e2.trans e3).trans e5,R5,E5,h6⟩
   | ct=>exact fun π5 σ5 H5 e5 R5 E5=>⟨π5,ρ4,μ4,(e2.trans e3).trans e5,R5,E5,h6⟩
   | bk=>
    cases h6
    exact fun π5 σ5 H5 e5 R5 E5=>lift (e2.trans e3) π5 σ5 H5 e5 R5 E5
   | rt d'=>
    cases h6
    exact lift (e2.trans e3))⟩
theorem Hy:QS X (.Return none pos) (aZ (mC .non)):=⟨fK Cj (by
 rintro E σ H ⟨π,ρ,μ,fl,ρ',μ',R,EN,hm,k⟩
 cases hm
 exact k π .non H .refl R .non)⟩
end
end L3
namespace L3
open PySem L2
noncomputable def kY:List D->Option (List Bool)
 | []=>some []
 | .bl b::r=>(kY r).map (b::·)
 | _=>none
noncomputable def oB:MF:=fun ds μ=>match ds with
 | [x]=>(bD μ x).bind fun xs=>(kY xs).map fun bs=>(.bl (bs.all id),μ)
 | _=>none
theorem yD {K:MX}{π:Nat->Addr}{n:Nat}{H:Hp}:∀ {xs:List D}{vs:List V}{bs:List Bool},IsDs K π n H vs xs->kY xs=some bs->vs=bs.map V.bl
 | [],_,bs,h,e=>by cases h;cases e;rfl
 | x::xs,vs,bs,h,e=>by
  cases h with
  | cons h t=>
   cases x with
   | bl b=>
    obtain ⟨bs',h1,h2⟩:=M3.mp e
    subst h2
    cases h
    rw [yD t h1]
    rfl
   | _=>cases e
noncomputable def yE (K:MX)(g:List Bool->Bool):List V->Hp->VK->Prop:=fun xs H Q=>∃ p bs,xs=[.ref p]/\(SqL K H p (bs.map V.bl)\/SqT K H p (bs.map V.bl))/\Q (.bl (g bs)) H
theorem Hz {K:MX}{g:List Bool->Bool}{f:MF}(hf:f=fun ds μ=>match ds with|[x]=>(bD μ x).bind fun xs=>(kY xs).map fun bs=>(.bl (g bs),μ)|_=>none):cE K f (yE K g):=by
 subst hf
 intro π H μ xs d μ' vs Q R i hm k
 dsimp only at hm
 split at hm
 ·obtain ⟨ys,h1,hm⟩:=MW.mp hm
  obtain ⟨bs,h2,hm⟩:=M3.mp hm
  cases hm
  cases i with
  | cons i t=>
   cases t
   obtain ⟨p,ws,rfl,q,hd⟩:=rB R i h1
   have:=yD hd h2
   subst this
   exact ⟨p,bs,rfl,q,k π _ H .refl R (.bl _)⟩
 ·cases hm
theorem yF {bs:List Bool}{n:Nat}(hn:n=bs.length):(NF n).all (fun i=>bs.getD i false)=bs.all id:=by
 subst hn
 induction bs with
 | nil=>rfl
 | cons b bs ih=>
  rw [Na,Qr,NQ,Sh,NQ,<- ih]
  rfl
section
variable {X:Cx}
theorem yG {prog:Nz}{w:NP}{A:NM}{bs:List Bool}{its:List M0}(r:Vals (bs.map V.bl) its):TruthOf prog w A (fun i v=>its.toArray[i]? = some v) (fun i=>bs.getD i false):=by
 intro i v s Q E hP hQ
 have hP':its[i]? = some v:=by simpa using hP
 have hi:i<bs.length:=by
  have:=(Ng.mp hP').1
  have:=r.length
  rw [MZ] at this
  omega
 obtain ⟨u,h1,h2⟩:=r.get (i:=i) (x:=.bl bs[i]) (by rw [ND,Nh hi];rfl)
 rw [hP'] at h1
 cases h1
 cases h2
 have e:bs.getD i false=bs[i]:=by simp [O7,hi]
 dsimp only at hQ
 rw [e] at hQ
 exact Pl hQ
theorem HA (hc:X.calm=true):CallR X (.builtin "all") (yE X.K (·.all id)):=by
 intro Vq s σ H xs us Q I r h
 obtain ⟨p,bs,rfl,hq,q⟩:=h
 obtain ⟨u,rfl,ru⟩:=eS r
 cases ru
 have hh:X.A.in1.handled=none:=I.ok.hd hc
 rcases hq with hq|hq
 ·obtain ⟨its,rv,pl,hz⟩:=I.list hq
  refine call_all_walk (Pm pl.isList ?_)
  have hne:p≠s.heap.objs.size:=by
   obtain ⟨o,ho,_⟩:=pl.isList
   exact Nr (Nc ho)
  refine ⟨s.heap.objs.size,_,_,_,_,_,fun i=>bs.getD i false,rfl,RJ hh _ p hne its.toArray,⟨⟨_,Nu _ rfl,rfl,rfl⟩,pl.isList.push _⟩,yG rv,fun h' tk kp=>?_⟩
  have hlen:its.toArray.size=bs.length:=by rw [Nl,<- rv.length,MZ]
  refine ⟨.bl _,H,I.kept (t':=tk) fun b o e=>kp b o ?_ (M6 _ e),rfl,?_⟩
  ·intro hb
   have:b=s.heap.objs.size:=by simpa using hb
   exact Nr (Nc e) this
  ·rw [yF hlen]
   exact q
 ·obtain ⟨its,rv,pl,hz⟩:=I.tuple hq
  refine call_all_walk (Rw (show s.heap.IsTuple p its.toArray from pl) ?_)
  have hne:p≠s.heap.objs.size:=by
   obtain ⟨o,ho,_⟩:=pl
   exact Nr (Nc ho)
  refine ⟨s.heap.objs.size,_,_,_,_,_,fun i=>bs.getD i false,rfl,Uy hh _ p hne its.toArray,⟨⟨_,Nu _ rfl,rfl,rfl⟩,QU pl _⟩,yG rv,fun h' tk kp=>?_⟩
  have hlen:its.toArray.size=bs.length:=by rw [Nl,<- rv.length,MZ]
  refine ⟨.bl _,H,I.kept (t':=tk) fun b o e=>kp b o ?_ (M6 _ e),rfl,?_⟩
  ·intro hb
   have:b=s.heap.objs.size:=by simpa using hb
   exact Nr (Nc e) this
  ·rw [yF hlen]
   exact q
end
end L3
namespace L3
open PySem L2
open PyProof.Rows (IntsAre)
open PySem.W (KasT kas_asc kas_desc kas_tail3 kas_descPart kas_count kas_place kas_bin kas_sort kas_rev kas_ask)
noncomputable def InR {α:Type}(n:Nat)(R:α->Prop):KasT α->Prop
 | .ret a=>R a
 | .ask i j k=>i<n/\j<n/\∀ b,InR n R (k b)
theorem InR.mono {α:Type}{n:Nat}{R R':α->Prop}(h:∀ a,R a->R' a):∀ {t:KasT α},InR n R t->InR n R' t
 | .ret a,q=>h a q
 | .ask i j k,q=>⟨q.1,q.2.1,fun b=>InR.mono h (q.2.2 b)⟩
theorem InR.bind {α β:Type}{n:Nat}{R:α->Prop}{R':β->Prop}{f:α->KasT β}(hf:∀ a,R a->InR n R' (f a)):∀ {t:KasT α},InR n R t->InR n R' (t.bind f)
 | .ret a,q=>hf a q
 | .ask i j k,q=>⟨q.1,q.2.1,fun b=>InR.bind hf (q.2.2 b)⟩
section
variable {n:Nat}
noncomputable def IxOk (n:Nat)(p:Array Nat):Prop:=p.Perm (NF n).toArray
theorem IxOk.lt {p:Array Nat}(h:IxOk n p)(h0:0<n)(i:Nat):p.getD i 0<n:=by
 by_cases hi:i<p.size
 ·have e:p.getD i 0=p[i]:=by simp [OT,hi]
  rw [e]
  have hm:p[i]∈p:=Array.getElem_mem hi
  have hm2:p[i]∈(NF n).toArray:=h.mem_iff.mp hm
  simpa using hm2
 ·have e:p.getD i 0=0:=by simp [OT,hi]
  rw [e];exact h0
end
section
variable {X:Cx}{Vq:List (Addr×OE)}{σ:St}{H:Hp}{s:M4}
end
noncomputable abbrev TupsV (K:MX)(H:Hp):List V->List (List Int)->Prop:=Qv fun v t=>∃ a,v=V.ref a/\SqT K H a (t.map V.int)
theorem TupsV.get {K:MX}{H:Hp}:∀ {vs:List V}{ts:List (List Int)}{i:Nat},TupsV K H vs ts->i<vs.length->∃ a,vs[i]? = some (V.ref a)/\SqT K H a ((ts.getD i []).map V.int)
 | _,_,_,.nil,h=>by simp at h
 | _,_,0,.cons ⟨a,e,q⟩ _,_=>⟨a,by rw [e];rfl,q⟩
 | _,_,i+1,.cons _ t,h=>by
  obtain ⟨a,e,q⟩:=TupsV.get (i:=i) t (by simpa using h)
  exact ⟨a,by simpa using e,q⟩
section
open PyProof.Rows
variable {prog:Nz}{w:NP}{A:NM}{E:M0->M4->Prop}{s:M4}
end
section
variable {X:Cx}
end
section
variable {X:Cx}
end
end L3
namespace L3
open PySem L2 PySem.W PyProof.Rows
section
variable {M:Vm}{A:NM}{E:M0->M4->Prop}{σ:Type}
theorem rL {β:Type}{f:Nat->β->StateT σ UH (ForInStep β)}{st:σ}{s:M4}{Q:β->σ->M4->Prop}(Iv:Nat->β->Prop)(Dn:β->Prop)(n:Nat)
  (step:∀ i x b,i<n->Iv i b->Uj M A E (f x b) (fun r st' s'=>st'=st/\s'=s/\match r with|.done c=>Dn c|.yield c=>Iv (i+1) c) st s)(aM:∀ b,Iv n b->Dn b)(k:∀ b,Dn b->Q b st s) :
  ∀ (l:List Nat)(i:Nat)(b:β),i+l.length=n->Iv i b->Uj M A E (forIn l b f) Q st s
 | [],i,b,h,hI=>kasC_nil (k b (aM b (by simp at h;subst h;exact hI)))
 | x::l,i,b,h,hI=>by
  rw [Na] at h
  refine S1 (NU (step i x b (by omega) hI) (fun r s' q=>?_) fun _ _ e=>e)
  obtain ⟨r,st'⟩:=r
  obtain ⟨q1,q2,q3⟩:=q
  dsimp only at q1 q2
  subst q1 q2
  cases r with
  | done c=>exact k c q3
  | yield c=>exact rL Iv Dn n step aM k l (i+1) c (by omega) q3
end
section
variable {prog:Nz}{w:NP}{A:NM}{E:M0->M4->Prop}{κ:Vk}{st:Q9}{s:M4}
noncomputable def oC (prog:Nz)(w:NP)(A:NM)(κ:Vk)(s:M4)(X:Pa->Prop)(an:Pa->Pa->Bool):Prop:=
 ∀ (x y:Pa)(C:Bool->M4->Prop),X x->X y->C (an x y) s->NI (NC prog w) A (keyLt' κ x.1 y.1) C (fun _ _=>False) s
theorem HB {X:Pa->Prop}{an:Pa->Pa->Bool}(hC:oC prog w A κ s X an)(hk:kindOf st=κ){x y:Pa}(hx:X x)(hy:X y){Q:Option Bool->Q9->M4->Prop}(q:Q (some (an x y)) st s):Uj (NC prog w) A E (lt' x y) Q st s:=by
 rw [lt'_eq]
 refine Oc (Sk ?_)
 rw [hk]
 exact Oc (kasC_lift (wpAny_attempt (NU (hC x y (fun b s'=>b=an x y/\s'=s) hx hy ⟨rfl,rfl⟩) (fun b s' z=>by obtain ⟨rfl,rfl⟩:=z;exact Qd q) fun _ _ f=>f.elim)))
theorem yH {ar:Array Pa}{i:Nat}{x:Pa}{Q:Pa->Q9->M4->Prop}(h:ar[i]? = some x)(q:Q x st s):Uj (NC prog w) A E (elem' ar i) Q st s:=by
 rw [elem'_eq,h];exact Qd q
theorem HC {X:Pa->Prop}{an:Pa->Pa->Bool}(hC:oC prog w A κ s X an)(hk:U3 st=κ){i j:Nat}{x y:Pa}(hi:(Ux st)[i]? = some x)(hj:(Ux st)[j]? = some y)(hx:X x)(hy:X y){Q:Option Bool->Q9->M4->Prop}(q:Q (some (an x y)) st s):Uj (NC prog w) A E (ltAt' i j) Q st s:=by
 rw [ltAt'_eq]
 refine Oc (Sk ?_)
 refine Oc (yH hi (Oc (yH hj (HB hC hk hx hy q))))
end
section
variable {prog:Nz}{w:NP}{A:NM}{E:M0->M4->Prop}{s:M4}
theorem yI (us:List M0):(us.toArray.zip us.toArray).toList=us.map fun u=>(u,u):=by
 simp only [Array.toList_zip]
 induction us with
 | nil=>rfl
 | cons u us ih=>simpa using ih
structure Near (us:List M0)(n K:Nat)(an:M0->M0->Bool):Prop where
 len:us.length=n+1
 le:K<=n
 asc:∀ (i:Nat)(x z:M0),i+1<n->us[i+1]? = some x->us[i]? = some z->an x z=false
 ris:∀ x z,us[0]? = some x->us[n - 1]? = some z->an x z=true
 at_:∀ (i:Nat)(x z:M0),i<n->us[i]? = some x->us[n]? = some z->an z x=decide (K<=i)
noncomputable def rM (prog:Nz)(w:NP)(A:NM)(us:List M0)(an:M0->M0->Bool)(s:M4):Prop:=
 NI (NC prog w) A (keyKind' us.toArray) (fun κ s'=>s'=s/\∀ (x y:M0)(C:Bool->M4->Prop),x∈us->y∈us->C (an x y) s->NI (NC prog w) A (keyLt' κ x y) C (fun _ _=>False) s) (fun _ _=>False) s
theorem oD {us:List M0}{i:Nat}{p:Pa}(h:(us.toArray.zip us.toArray)[i]? = some p):us[i]? = some p.1/\p=(p.1,p.1):=by
 rw [<- O8,yI,ND] at h
 obtain ⟨u,h1,rfl⟩:=M3.mp h
 exact ⟨h1,rfl⟩
end
section
variable {X:Cx}{Vq:List (Addr×OE)}{σ:L2.St}{H:Hp}{s:M4}
open Classical in
noncomputable def tv (K:MX)(H:Hp):M0->List Int
 | .ref a=>if h:∃ t:List Int,SqT K H a (t.map V.int) then h.choose else []
 | _=>[]
end
end L3
namespace L3
open PySem PySem.Spec
namespace Tb
section
variable {prog:Nz}{w:NP}{A:NM}{E:M0->M4->Prop}{s:M4}
end
section
variable {prog:Nz}{w:NP}{A:NM}{R:Um->M4->Prop}{I:Addr}{fp wr:List Addr}{G:Array T6->Array T6->Prop}{n:Nat}{P:Nat->M0->Prop}{St:Nat->M4->Prop}
end
section
variable {prog:Nz}{w:NP}{A:NM}{E:M0->M4->Prop}{s:M4}
noncomputable abbrev gZ (led:Bool):OE:={ cls:=.type "set",dict:=none,data:=.set #[] 0 (.fresh 0 0 led) }
end
end Tb
end L3
namespace L3
open PySem L2
open PyProof.Rows (IntsAre)
theorem mG:∀ {ds:List D}{k:List Int},hV ds=some k->ds=k.map D.int
 | [],k,h=>by cases h;rfl
 | d::ds,k,h=>by
  cases d with
  | int i=>
   obtain ⟨k',h1,h2⟩:=M3.mp h
   subst h2
   rw [mG h1];rfl
  | _=>cases h
noncomputable def dC (μ:Hm):D->Option (List D)
 | .rol xs=>some xs
 | .loc a=>match μ[a]? with
  | some (.lst xs)=>some xs
  | _=>none
 | _=>none
section
variable {K:MX}{π:Nat->Addr}{n:Nat}{H:Hp}{μ:Hm}
theorem iO {v:V}{x:D}{xs:List D}(R:Rp K π H μ)(h:IsD K π μ.length H v x)(e:dC μ x=some xs):∃ p vs,v=.ref p/\SqL K H p vs/\IsDs K π μ.length H vs xs:=by
 cases h with
 | rol q t=>cases e;exact ⟨_,_,rfl,q.sq,t⟩
 | @loc a ha=>
  simp only [dC] at e
  split at e
  ·rename_i ys hy
   cases e
   obtain ⟨vs,h3,h4⟩:=R.lst a xs hy
   exact ⟨_,vs,rfl,.of h3,h4⟩
  ·cases e
 | _=>cases e
theorem ints_of':∀ {vs:List V}{k:List Int},IsDs K π n H vs (k.map D.int)->vs=k.map V.int
 | _,[],h=>by cases h;rfl
 | _,i::k,h=>by
  cases h with
  | cons h t=>cases h;rw [ints_of' t];rfl
theorem yJ:∀ (k:List Int),IsDs K π n H (k.map V.int) (k.map D.int)
 | []=>.nil
 | i::k=>.cons (.int i) (yJ k)
end
section
variable {X:Cx}{Vq:List (Addr×OE)}{σ:St}{H:Hp}{s:M4}
theorem HD:CallR X (.builtin "len") (fun xs H Q=>∃ a L,xs=[V.ref a]/\H a=some (nN a L)/\Q (.int L.length) H):=by
 intro Vq s σ H xs us Q I r h
 obtain ⟨a,L,rfl,ha,q⟩:=h
 obtain ⟨u,rfl,ru⟩:=eS r
 cases ru
 obtain ⟨⟨o,ho,led,es,ep,t,R,hex,hd,he,ok,hp,hnd,hm,hf5,hpl,hle⟩,_,_⟩:=I.hok a _ ha
 have hsz:es.size=L.length:=by
  have:=hp.length_eq
  simpa using this
 have hm5:t.mask<=511:=by rcases hm with h|h|h|h<;>omega
 refine call_len_set ho hex hd (Tb.fits_of ok he) (by rw [hsz];omega) ?_
 rw [hsz]
 exact ⟨.int L.length,H,I.tok _,⟨_,rfl⟩,q⟩
end
end L3
namespace L3
open PySem L2
end L3
namespace L3
open PySem L2 PySem.W PyProof.Rows
section
variable {prog:Nz}{w:NP}{A:NM}{E:M0->M4->Prop}{κ:Vk}{st:Q9}{s:M4}
theorem HE {i j:Nat}{Q:Unit->Q9->M4->Prop}(q:Q () (setArr st (Vi (Ux st) i j ((j - i) / 2))) s):Uj (NC prog w) A E (reverseSlice' i j) Q st s:=by
 rw [reverseSlice'_eq];exact kasC_modify q
theorem HF {X:Pa->Prop}{an:Pa->Pa->Bool}(hC:oC prog w A κ s X an){n:Nat}(hn:2<=n){ar:Array Pa}(hs:ar.size=n){pd:Array (Nat×Nat×Nat)}{mg:Nat}(hX:∀ (i:Nat)(x:Pa),ar[i]? = some x->X x)
  (des:∀ (i:Nat)(x z:Pa),i+1<n->ar[i+1]? = some x->ar[i]? = some z->an x z=true)
  {Q:Option Nat->Q9->M4->Prop}(q:Q (some n) (Qo κ (Vi ar 0 n (n / 2)) pd mg none) s):Uj (NC prog w) A E (countRun' 0 n) Q (Qo κ ar pd mg none) s:=by
 have at_:∀ i,i<n->ar[i]? = some (ar.getD i (.none,.none)):=fun i hi=>by
  rw [Pp (by omega)]
  simp [OT,show i<ar.size by omega]
 have lt_:∀ {i:Nat}{R:Option Bool->Q9->M4->Prop},i+1<n->R (some true) (Qo κ ar pd mg none) s->Uj (NC prog w) A E (ltAt' (0+(i+1)) (0+(i+1) - 1)) R (Qo κ ar pd mg none) s:=by
  intro i R hi r
  refine HC hC rfl (x:=ar.getD (i+1) (.none,.none)) (y:=ar.getD i (.none,.none)) ?_ ?_ (hX _ _ (at_ (i+1) hi)) (hX _ _ (at_ i (by omega))) ?_
  ·rw [Qi];exact at_ (i+1) hi
  ·rw [Qi];exact at_ i (by omega)
  ·rw [des i _ _ hi (at_ (i+1) hi) (at_ i (by omega))]
   exact r
 unfold countRun'
 refine Oc (Ry (rL (fun i c=>i=0/\c=(none,1)) (fun c=>c=(none,1)) (n - 1) (fun i x c hi hI=>?_) (fun c hI=>?_) (fun c hD=>?_) _ 0 _ (by simp) ⟨rfl,rfl⟩))
 ·obtain ⟨rfl,rfl⟩:=hI
  dsimp only
  refine Oc (lt_ (i:=0) (by omega) ?_)
  dsimp only
  rw [if_pos rfl]
  exact Qd ⟨rfl,rfl,rfl⟩
 ·omega
 ·subst hD
  dsimp only
  rw [if_neg (by simp;omega),if_neg (by omega)]
  refine Oc (kasC_lift (wpAny_rule ?_))
  refine Oc (Ry (rL (fun i c=>c=(none,i+2,0)) (fun c=>c=(none,n,0)) (n - 2) (fun i x c hi hI=>?_) (fun c hI=>?_) (fun c hD=>?_) _ 0 _ (by simp) rfl))
  ·subst hI
   dsimp only
   refine Oc (lt_ (i:=i+1) (by omega) ?_)
   dsimp only
   rw [if_pos rfl,if_neg (by omega)]
   exact Qd ⟨rfl,rfl,rfl⟩
  ·rw [hI,show n - 2+2=n by omega]
  ·subst hD
   dsimp only
   rw [if_neg (by omega)]
   refine Oc (HE ?_)
   refine Oc (Ry ?_)
   rw [UM]
   refine kasC_nil ?_
   dsimp only
   refine Qd ?_
   rw [Qi,Qw]
   exact q
theorem HG {n:Nat}(h1:2<=n)(h2:n<128):minRun' n n 0<=n:=by
 obtain ⟨f,rfl⟩:∃ f,n=f+2:=⟨n - 2,by omega⟩
 rw [minRun'_succ]
 split
 ·omega
 ·rw [minRun'_succ,if_pos (by omega),Nat.zero_max]
  omega
theorem HH {X:Pa->Prop}{an:Pa->Pa->Bool}(hC:oC prog w A κ s X an){n:Nat}(h1:2<=n)(h2:n<128){ar:Array Pa}(hs:ar.size=n){mg:Nat}(hX:∀ (i:Nat)(x:Pa),ar[i]? = some x->X x)
  (des:∀ (i:Nat)(x z:Pa),i+1<n->ar[i+1]? = some x->ar[i]? = some z->an x z=true)
  {Q:Unit->Q9->M4->Prop}(q:∀ st':Q9,failedOf st'=none->(Ux st')=Vi ar 0 n (n / 2)->Q () st' s):Uj (NC prog w) A E sortRuns' Q (Qo κ ar #[] mg none) s:=by
 have er:∀ a,Pg a (n - 0)=a::(a+1)::Pg (a+2) (n - 2):=fun a=>by
  obtain ⟨f,rfl⟩:∃ f,n=f+2:=⟨n - 2,by omega⟩
  rfl
 have hmr:=HG h1 h2
 have hsz:(Ux (Qo κ ar #[] mg none)).size=n:=hs
 rw [sortRuns'_eq]
 refine Oc (Sk ?_)
 dsimp only
 simp only [hs]
 refine Oc (Ry ?_)
 rw [er 0]
 refine S1 ?_
 dsimp only
 rw [if_neg (by omega),Qw]
 refine Oc (HF hC h1 hs hX des ?_)
 dsimp only
 rw [if_neg (by omega)]
 refine Oc (Sk ?_)
 refine Oc (kasC_modify (Qd ?_))
 dsimp only
 refine S1 ?_
 dsimp only
 rw [if_pos (by omega)]
 refine Qd ?_
 dsimp only
 refine Oc (Ry ?_)
 have er':Pg 0 n=0::1::Pg 2 (n - 2):=er 0
 first|rw [er 0]|rw [er']
 refine S1 ?_
 refine Oc (Sk ?_)
 rw [if_pos (by show 1<=1;exact Ni _)]
 refine Qd ?_
 dsimp only
 exact Qd (q _ rfl rfl)
theorem HI {α:Type}{ar:Array α}{n:Nat}(hs:ar.size=n):(Vi ar 0 n (n / 2)).toList=ar.toList.reverse:=by
 apply Rb
 intro i
 have:=getElem?_mirror_all (xs:=ar) (i:=0) (j:=n) (by omega) i
 rw [Qw] at this
 rw [O8,this]
 by_cases h:i<n
 ·rw [if_pos ⟨by omega,h⟩,Sx (by simp [hs];exact h),O8]
  congr 1
  simp [hs]
 ·rw [if_neg (by omega),Array.getElem?_eq_none (by omega),N1 (by simp [hs];omega)]
noncomputable def yK (us:List M0)(an:M0->M0->Bool):Prop:=∀ (i:Nat)(x z:M0),us[i+1]? = some x->us[i]? = some z->an x z=true
theorem HJ {c:Addr}{us:List M0}{z:Nat}{an:M0->M0->Bool}(N:yK us an)(h1:2<=us.length)(h2:us.length<128){R:PySem.Fin->M4->Prop}(g:s.heap.get? c=some (Pu "list" us.toArray z))
  (H:∀ h3:N6,(∀ b o,b≠c->s.heap.get? b=some o->h3.get? b=some o)->rM prog w A us an { s with heap:=h3 })
  (q:R (.done (.ret .none)) { s with heap:=sortedHeap s.heap c us us.reverse.toArray }) :
  NI (NC prog w) A (Builtin.«list.sort» ⟨[.ref c],[]⟩) R E s:=by
 rw [list_sort_plain]
 have lt:c<s.heap.objs.size:=Nc g
 refine Nm (listItems_at g rfl (Nm (listUpdate_at g rfl ?_ (by rw [Nl,Np];omega) (Ou _))))
 obtain ⟨y,g1⟩:∃ y,(s.heap.update c (Of fun _=>#[])).get? c=some (Pu "list" #[] y):=⟨_,get?_update_seq g _⟩
 refine Nm (seqEpoch_at g1 rfl (Nm (wpAny_newTuple (Nm (wpAny_newList (Pe ?_) (Ou _))) (by show us.length<=_;rw [Np];omega))))
 have g6:(((s.heap.update c (Of fun _=>#[])).push (Pu "tuple" us.toArray 0)).push (Pu "list" #[] 0)).get? c=some (Pu "list" #[] y):=
  M6 _ (M6 _ g1)
 have ask:=H (((s.heap.update c (Of fun _=>#[])).push (Pu "tuple" us.toArray 0)).push (Pu "list" #[] 0)) fun b o hb e=>M6 _ (M6 _ ((O2 _ _ (OU hb)).trans e))
 show NI (NC prog w) A _ R E ⟨((s.heap.update c (Of fun _=>#[])).push (Pu "tuple" us.toArray 0)).push (Pu "list" #[] 0),s.gens,s.drawn,s.toks,s.os⟩
 dsimp only
 have many:¬ us.toArray.size<2:=by rw [Nl];omega
 rw [if_neg many,if_neg many]
 refine Nm (NU ask (fun κ s' hk=>?_) fun _ _ x=>x.elim)
 obtain ⟨rfl,hk⟩:=hk
 have hz:(us.toArray.zip us.toArray).size=us.length:=by simp
 have run:=HH (prog:=prog) (w:=w) (A:=A) (E:=E) (κ:=κ) (X:=fun p=>∃ u∈us,p=(u,u)) (an:=fun x y=>an x.1 y.1)
  (s:={ s with heap:=((s.heap.update c (Of fun _=>#[])).push (Pu "tuple" us.toArray 0)).push (Pu "list" #[] 0) })
  (fun x y C hx hy hc=>by
   obtain ⟨u,hu,rfl⟩:=hx
   obtain ⟨v,hv,rfl⟩:=hy
   exact hk u v C hu hv hc) h1 h2 (ar:=us.toArray.zip us.toArray) (mg:=7) hz (fun i x hx=>⟨x.1,OQ (oD hx).1,(oD hx).2⟩)
  (fun i x z hi hx hz=>N i _ _ (oD hx).1 (oD hz).1)
  (Q:=fun _ st' s'=>s' = { s with heap:=((s.heap.update c (Of fun _=>#[])).push (Pu "tuple" us.toArray 0)).push (Pu "list" #[] 0) }/\failedOf st'=none/\(Ux st').map (·.2)=us.reverse.toArray) (fun st' f1 f2=>⟨rfl,f1,by
   apply Array.toList_inj.mp
   rw [Array.toList_map,f2,HI hz,yI,Pn,NH]
   exact congrArg Qq (UP _)⟩)
 refine Nm (NU run (fun r s' hr=>?_) fun _ _ e=>e)
 obtain ⟨⟨⟩,st'⟩:=r
 obtain ⟨rfl,hf,hout⟩:=hr
 dsimp only at hf hout ⊢
 rw [hout]
 refine Nm (seqEpoch_at g6 rfl (Nm (listUpdate_at g6 rfl ?_ (hsz2:=by rw [Nl,OC,Np];omega))))
 rw [hf]
 simp only [bne_self_eq_false,M8,if_false]
 exact NO q
theorem HK {l:Addr}{us:List M0}{an:M0->M0->Bool}(N:yK us an)(h1:2<=us.length)(h2:us.length<128){Q:M0->M4->Prop}(hl:s.heap.IsList l us.toArray)
  (H:∀ h3:N6,(∀ b o,s.heap.get? b=some o->h3.get? b=some o)->rM prog w A.in1.in1 us an { s with heap:=h3 })(q:Q (.ref (s.heap.objs.size+1)) { s with heap:=sortedAll s.heap us us.reverse.toArray }):NI (NC prog w) A (call (.builtin "sorted") [.ref l]) Q E s:=by
 refine Calls.call_function_entry kind_sorted plain_sorted entry_sorted (args_sorted1 _) ?_
 unfold Builtin.«sorted»
 refine Nm (m:=checkCount "sorted" 1 1 _) (NO (Nm (collect_list hl (Nm (wpAny_newList ?_ (by rw [Np];omega))) (by rw [Np];omega))))
 have z:((s.heap.push (Pu "list" #[] 0)).update s.heap.objs.size (Of (·++us.toArray))).objs.size=s.heap.objs.size+1:=by rw [Heap.size_update,size_push']
 have g:(((s.heap.push (Pu "list" #[] 0)).update s.heap.objs.size (Of (·++us.toArray))).push (Pu "list" us.toArray 0)).get? (s.heap.objs.size+1)=some (Pu "list" us.toArray 0):=z ▸ Nu _ rfl
 show NI _ _ _ _ _ ⟨((s.heap.push (Pu "list" #[] 0)).update s.heap.objs.size (Of (·++us.toArray))).push (Pu "list" us.toArray 0),s.gens,s.drawn,s.toks,s.os⟩
 rw [z]
 refine Nm (Pe (wpAny_call_entry slot_list_sort ⟨_,g,rfl⟩ entry_list_sort (HJ N h1 h2 g (fun h3 kp=>H h3 fun b o e=>kp b o ?_ ?_) ⟨_,rfl,?_⟩) (args_list_sort _)))
 ·exact Nr (PD (Nc e))
 ·exact M6 _ ((O2 _ _ (Qx (Nc e))).trans (M6 _ e))
 ·exact NO ⟨_,rfl,q⟩
end
noncomputable def hZ (a b:Str):Bool:=decide (a.cps.toList<b.cps.toList)
noncomputable def kZ (ss:List Str):Bool:=(NF (ss.length - 1)).all fun i=>hZ (ss.getD (i+1) ⟨#[]⟩) (ss.getD i ⟨#[]⟩)
theorem yL:∀ {ss:List Str}{its:List M0},Vals (ss.map V.str) its->StrsAre its ss
 | [],_,h=>by cases h;exact .nil
 | x::ss,_,h=>by
  cases h with
  | cons h t=>
   obtain ⟨k,rfl⟩:=h
   exact .cons x k (yL t)
theorem yM {ss:List Str}{its:List M0}(h:StrsAre its ss){i:Nat}{u:M0}(e:its[i]? = some u):strOf u=ss.getD i ⟨#[]⟩:=by
 have:=h.strs
 rw [<- this,Nv,ND,e]
 rfl
noncomputable def rN (K:MX):List V->Hp->VK->Prop:=fun xs H Q=>∃ q ss,xs=[V.ref q]/\SqL K H q (ss.map V.str)/\2<=ss.length/\ss.length<128/\kZ ss=true/\∀ l,H l=none->Q (.ref l) (aV H l (.lst (ss.reverse.map V.str)))
theorem HL {X:Cx}:CallR X (.builtin "sorted") (rN X.K):=by
 intro Vq s σ H xs us Q I r h
 obtain ⟨q,ss,rfl,hq,h1,h2,hb,k⟩:=h
 obtain ⟨u,rfl,ru⟩:=eS r
 cases ru
 obtain ⟨its,rv,pl,hz⟩:=I.list hq
 have hlen:=rv.length
 rw [MZ] at hlen
 have hS:=yL rv
 unfold kZ at hb
 simp only [OH,NV] at hb
 refine HK (an:=fun x y=>hZ (strOf x) (strOf y)) (fun i x z hx hz=>?_) (by omega) (by omega) pl.isList (fun h3 kp=>?_) ?_
 ·have hi:=(Ng.mp hx).1
  dsimp only
  rw [yM hS hx,yM hS hz]
  exact hb i (by omega)
 ·unfold rM
  match its,hS,hlen with
  | v₁::v₂::vs,hS,_=>
   rw [keyKind_strs hS]
   refine NO ⟨rfl,fun x y C hx hy hC=>?_⟩
   obtain ⟨a,t,rfl⟩:=hS.all x hx
   obtain ⟨b,t',rfl⟩:=hS.all y hy
   exact kas_lt_str hC
  | [_],_,h=>exact absurd (show ss.length=1 from h) (by omega)
  | [],_,h=>exact absurd (show ss.length=0 from h) (by omega)
 ·obtain ⟨e,he⟩:=Ra s.heap its its.reverse.toArray
  refine ⟨.ref (s.heap.objs.size+1),_,I.laid (t':=s.toks) (a:=s.heap.objs.size+1) (o:=.lst (ss.reverse.map V.str)) (fun b ob z=>Q5 z) (P4 _) ?_,rfl,k _ (I.hok.fresh (P4 _))⟩
  refine ⟨by rw [MZ,OC,Np];omega,its.reverse,e,?_,he⟩
  rw [Pn]
  have:∀ {vs:List V}{us:List M0},Vals vs us->Vals vs.reverse us.reverse:=by
   intro vs us h
   induction h with
   | nil=>exact .nil
   | cons h t ih=>
    rw [N2,N2]
    exact ih.append (.cons h .nil)
  exact this rv
end L3
namespace L3
open PySem L2
open PyProof.Rows (IntsAre Fr News seqObj)
section
variable {prog:Nz}{w:NP}{A:NM}{E:M0->M4->Prop}{s:M4}{h₀:N6}{L:Addr}{m:Str->Option M0}{news:List (Addr×OE)}
end
section
variable {X:Cx}{Vq:List (Addr×OE)}{σ:St}{H:Hp}{s:M4}
end
end L3
namespace L3
open PySem
open PySem.W (KasT kas_asc kas_desc kas_tail3 kas_descPart kas_count kas_place kas_bin kas_sort kas_rev)
open PyProof.Rows (mirror bubble getElem?_bubble getElem?_mirror_all mirror_size bubble_size)
section
variable {ans:Nat->Nat->Bool}{κ:Nat->Nat}(hk:∀ i j,ans i j=decide (κ i<κ j))
noncomputable def gK (κ:Nat->Nat)(p:Array Nat)(k:Nat):Nat:=κ (p.getD k 0)
include hk in
structure Falls (κ:Nat->Nat)(p:Array Nat)(n q:Nat):Prop where
 fall:∀ i j,i<=j->j<n->gK κ p j<=gK κ p i
 alike:∀ k,n - 1 - q<=k->k<n->gK κ p k=gK κ p (n - 1)
 qn:q<n
include hk in
include hk in
include hk in
include hk in
include hk in
include hk in
include hk in
end
section
variable {α:Type}{lt:α->α->Bool}(irr:∀ a,lt a a=false)(tr:∀ a b c,lt a b=true->lt b c=true->lt a c=true)(nt:∀ a b c,lt a b=true->lt a c=true\/lt c b=true)
include irr tr nt in
include irr tr nt in
end
end L3
namespace L3
open PySem L2
section
variable {X:Cx}{a b c:M5}{ma mb mc:ME}{pos:Om}
noncomputable def oE (neg:Bool):D->D->Hm->Option (D×Hm)
 | .bl b,.bl c,μ=>some (.bl (if neg then !(b == c) else b == c),μ)
 | .int _,.bl _,μ=>some (.bl neg,μ)
 | _,_,_=>none
noncomputable def dE (neg:Bool):D->D->Hm->Option (D×Hm):=fun x y μ=>match y with
 | .bl _=>oE neg x y μ
 | _=>gG neg x y μ
noncomputable def rO (neg:Bool):R2:=fun x y H Q=>∃ c,y=.bl c/\((∃ b,x=.bl b/\Q (.bl (if neg then !(b == c) else b == c)) H)\/((∃ i,x=.int i)/\Q (.bl neg) H))
theorem oF {K:MX}{neg:Bool}:cU K (oE neg) (rO neg):=by
 intro π H μ x y d μ' vx vy Q R ix iy hm k
 unfold oE at hm
 split at hm
 ·cases hm;cases ix;cases iy
  exact ⟨_,rfl,.inl ⟨_,rfl,k π _ H .refl R (.bl _)⟩⟩
 ·cases hm;cases ix;cases iy
  exact ⟨_,rfl,.inr ⟨⟨_,rfl⟩,k π _ H .refl R (.bl _)⟩⟩
 ·cases hm
theorem yN:OpR X (OV .Is) (rO false):=by
 intro Vq s σ H x y v u Q I rx ry h
 obtain ⟨c,rfl,h⟩:=h
 cases ry
 rcases h with ⟨b,rfl,q⟩|⟨⟨i,rfl⟩,q⟩
 ·cases rx
  exact NO (jZ I q (by cases b<;>cases c<;>rfl))
 ·obtain ⟨t,rfl⟩:=rx
  exact NO (jZ I q rfl)
theorem yO:OpR X (OV .IsNot) (rO true):=by
 intro Vq s σ H x y v u Q I rx ry h
 obtain ⟨c,rfl,h⟩:=h
 cases ry
 rcases h with ⟨b,rfl,q⟩|⟨⟨i,rfl⟩,q⟩
 ·cases rx
  exact NO (jZ I q (by cases b<;>cases c<;>rfl))
 ·obtain ⟨t,rfl⟩:=rx
  exact NO (jZ I q rfl)
theorem oG {neg:Bool}(x y:D)(μ:Hm)(r:D×Hm)(h:dE neg x y μ=some r):oE neg x y μ=some r\/gG neg x y μ=some r:=by
 unfold dE at h
 split at h
 ·exact .inl h
 ·exact .inr h
theorem HM (ha:QE X a ma)(hb:QE X b mb):QE X (.Compare a [.Is] [b] pos) (aA (dE false) ma mb):=rJ ⟨fZ yN oF ha.h hb.h (cT _)⟩ (Hj ha hb) (mE oG)
theorem HN (ha:QE X a ma)(hb:QE X b mb):QE X (.Compare a [.IsNot] [b] pos) (aA (dE true) ma mb):=rJ ⟨fZ yO oF ha.h hb.h (cT _)⟩ (Hk ha hb) (mE oG)
theorem HP (ha:QE X a ma)(hb:QE X b mb):QT X (.Compare a [.Is] [b] pos) (aU (aA (dE false) ma mb)):=xZ ⟨f6 yN oF ha.h hb.h (cT _)⟩ (Hl ha hb) (x3 (mE oG))
theorem HQ (ha:QE X a ma)(hb:QE X b mb):QT X (.Compare a [.IsNot] [b] pos) (aU (aA (dE true) ma mb)):=xZ ⟨f6 yO oF ha.h hb.h (cT _)⟩ (Hn ha hb) (x3 (mE oG))
end
noncomputable def iA:MF:=fun ds μ=>match ds with
 | [x]=>(bD μ x).bind fun xs=>(hV xs).map fun is=>(.int is.sum,μ)
 | _=>none
noncomputable def yP (K:MX):List V->Hp->VK->Prop:=fun xs H Q=>∃ (p:Addr)(is:List Int),xs=[.ref p]/\(SqL K H p (is.map V.int)\/SqT K H p (is.map V.int))/\Q (.int is.sum) H
theorem HR {K:MX}:cE K iA (yP K):=by
 intro π H μ xs d μ' vs Q R i hm k
 unfold iA at hm
 split at hm
 ·obtain ⟨ys,h1,hm⟩:=MW.mp hm
  obtain ⟨is,h2,hm⟩:=M3.mp hm
  cases hm
  cases i with
  | cons i t=>
   cases t
   obtain ⟨p,ws,rfl,q,hd⟩:=rB R i h1
   rw [mG h2] at hd
   have:=ints_of' hd
   subst this
   exact ⟨p,is,rfl,q,k π _ H .refl R (.int _)⟩
 ·cases hm
theorem yQ (is:List Int):∀ n,n<=is.length->preSum (fun i=>is.getD i 0) n=(is.take n).sum
 | 0,_=>rfl
 | n+1,h=>by
  have ih:=yQ is n (by omega)
  have e:is.take (n+1)=is.take n++[is[n]]:=by rw [RP,Nh (by omega)];rfl
  show preSum (fun i=>is.getD i 0) n+is.getD n 0=_
  rw [ih,e,List.sum_append]
  simp [O7,Nh (show n<is.length by omega)]
section
variable {X:Cx}
theorem oH {Vq:List (Addr×OE)}{σ:St}{H:Hp}{s s2 s':M4}{wr:List Addr}(I:Inv X Vq σ H s)(m:Moved wr (fun a b=>b=a) s2 s')(e2:∀ b o,s.heap.get? b=some o->s2.heap.get? b=some o)(hw:∀ b∈wr,s.heap.objs.size<=b)(hs:s2.gens=s.gens/\s2.drawn=s.drawn/\s2.os=s.os):Inv X Vq σ H s':=by
 have hk:∀ b o,s.heap.get? b=some o->s'.heap.get? b=some o:=fun b o e=>m.heap b o (fun z=>absurd (Ny (Nc e) (hw b z)) (Oe _)) (e2 b o e)
 have h1:s'.gens=s.gens:=m.gens.trans hs.1
 have h2:s'.drawn=s.drawn:=m.drawn.trans hs.2.1
 have h3:s'.os=s.os:=m.os.trans hs.2.2
 obtain ⟨h',g',d',t',o'⟩:=s'
 dsimp only at h1 h2 h3 hk
 subst h1 h2 h3
 exact I.kept (t':=t') hk
theorem k4 {is:List Int}{its:List M0}(r:Vals (is.map V.int) its){i:Nat}{v:M0}(h:its.toArray[i]? = some v):∃ t,v=.int (is.getD i 0) t:=by
 have h':its[i]? = some v:=by simpa using h
 have hi:i<is.length:=by
  have:=(Ng.mp h').1
  have:=r.length
  rw [MZ] at this
  omega
 obtain ⟨u,h1,h2⟩:=r.get (i:=i) (x:=.int is[i]) (by rw [ND,Nh hi];rfl)
 rw [h'] at h1
 cases h1
 obtain ⟨t,rfl⟩:=h2
 exact ⟨t,by simp [O7,hi]⟩
theorem HS (hc:X.calm=true):CallR X (.builtin "sum") (yP X.K):=by
 intro Vq s σ H xs us Q I r h
 obtain ⟨p,is,rfl,hq,q⟩:=h
 obtain ⟨u,rfl,ru⟩:=eS r
 cases ru
 have hh:X.A.in1.handled=none:=I.ok.hd hc
 have aM:∀ its:List M0,Vals (is.map V.int) its->preSum (fun i=>is.getD i 0) its.toArray.size=is.sum:=fun its rv=>by
  have hlen:its.toArray.size=is.length:=by rw [Nl,<- rv.length,MZ]
  rw [hlen,yQ is _ (Ni _),TV]
 rcases hq with hq|hq
 ·obtain ⟨its,rv,pl,hz⟩:=I.list hq
  refine Uw (Pm pl.isList ?_)
  have hne:p≠s.heap.objs.size:=by
   obtain ⟨o,ho,_⟩:=pl.isList
   exact Nr (Nc ho)
  refine ⟨s.heap.objs.size,_,_,_,_,_,_,fun i=>is.getD i 0,rfl,(RJ hh _ p hne its.toArray).toS,⟨⟨_,Nu _ rfl,rfl,rfl⟩,pl.isList.push _⟩,?_,fun i v hv=>k4 rv hv,fun s' t' m=>?_⟩
  ·intro b hb
   show b<(s.heap.push _).objs.size
   rw [QN]
   obtain ⟨o,ho,_⟩:=pl.isList
   have hp:=Nc ho
   simp only [NN,Oo,or_false] at hb
   rcases hb with rfl|rfl
   ·exact OI _
   ·exact PD hp
  ·refine ⟨.int is.sum,H,oH I m (fun b o e=>M6 _ e) (fun b hb=>?_) ⟨rfl,rfl,rfl⟩,⟨t',?_⟩,q⟩
   ·have e:b=s.heap.objs.size:=by simpa using hb
    exact PF e.symm
   ·rw [aM its rv]
 ·obtain ⟨its,rv,pl,hz⟩:=I.tuple hq
  refine Uw (Rw (show s.heap.IsTuple p its.toArray from pl) ?_)
  have hne:p≠s.heap.objs.size:=by
   obtain ⟨o,ho,_⟩:=pl
   exact Nr (Nc ho)
  refine ⟨s.heap.objs.size,_,_,_,_,_,_,fun i=>is.getD i 0,rfl,(Uy hh _ p hne its.toArray).toS,⟨⟨_,Nu _ rfl,rfl,rfl⟩,QU pl _⟩,?_,fun i v hv=>k4 rv hv,fun s' t' m=>?_⟩
  ·intro b hb
   show b<(s.heap.push _).objs.size
   rw [QN]
   obtain ⟨o,ho,_⟩:=pl
   have hp:=Nc ho
   simp only [NN,Oo,or_false] at hb
   rcases hb with rfl|rfl
   ·exact OI _
   ·exact PD hp
  ·refine ⟨.int is.sum,H,oH I m (fun b o e=>M6 _ e) (fun b hb=>?_) ⟨rfl,rfl,rfl⟩,⟨t',?_⟩,q⟩
   ·have e:b=s.heap.objs.size:=by simpa using hb
    exact PF e.symm
   ·rw [aM its rv]
end
noncomputable def oI:MF:=fun ds μ=>match ds with
 | [.int i,.int j]=>some (.int (if j<i then j else i),μ)
 | _=>none
noncomputable def oJ:MF:=fun ds μ=>match ds with
 | [.int i,.int j]=>some (.int (if j>i then j else i),μ)
 | _=>none
theorem HU {K:MX}:cE K oI (fun xs H Q=>∃ i j,xs=[.int i,.int j]/\Q (.int (if j<i then j else i)) H):=by
 intro π H μ xs d μ' vs Q R i hm k
 unfold oI at hm
 split at hm
 ·cases hm
  cases i with
  | cons i t=>
   cases i
   cases t with
   | cons i2 t2=>
    cases i2
    cases t2
    exact ⟨_,_,rfl,k π _ H .refl R (.int _)⟩
 ·cases hm
theorem HV {K:MX}:cE K oJ (fun xs H Q=>∃ i j,xs=[.int i,.int j]/\Q (.int (if j>i then j else i)) H):=by
 intro π H μ xs d μ' vs Q R i hm k
 unfold oJ at hm
 split at hm
 ·cases hm
  cases i with
  | cons i t=>
   cases i
   cases t with
   | cons i2 t2=>
    cases i2
    cases t2
    exact ⟨_,_,rfl,k π _ H .refl R (.int _)⟩
 ·cases hm
noncomputable def c9 {α:Type}(xs:List α)(lo hi st:Option Int):List α:=(Ug (O9 lo hi st xs.length).1 (O9 lo hi st xs.length).2.1 (O9 lo hi st xs.length).2.2).filterMap (xs[·]?)
noncomputable def k5 (a:ME)(lo hi st:MO):ME:=fun ρ μ=>(a ρ μ).bind fun p=>(lo ρ p.2).bind fun q=>(hi ρ q.2).bind fun r=>(st ρ r.2).bind fun t=>
 if t.1≠some 0 then (dC t.2 p.1).bind fun xs=>if (c9 xs q.1 r.1 t.1).length<=Nd then some (.loc t.2.length,t.2++[.lst (c9 xs q.1 r.1 t.1)]) else none else none
theorem HW {K:MX}{π:Nat->Addr}{n:Nat}{H:Hp}{vs:List V}{ds:List D}(h:IsDs K π n H vs ds)(lo hi st:Option Int):IsDs K π n H (c9 vs lo hi st) (c9 ds lo hi st):=by
 unfold c9
 rw [h.length]
 generalize Ug _ _ _=l
 induction l with
 | nil=>exact .nil
 | cons i l ih=>
  rw [OD,OD]
  cases hi:ds[i]? with
  | none=>
   have:vs[i]? = none:=by
    rw [NZ] at hi ⊢
    rw [h.length];exact hi
   rw [this]
   exact ih
  | some d=>
   obtain ⟨v,h1,h2⟩:=h.get hi
   rw [h1]
   exact .cons h2 ih
theorem HX {vs:List V}{its:List M0}(r:Vals vs its)(lo hi st:Option Int):Vals (c9 vs lo hi st) (c9 its lo hi st):=by
 unfold c9
 rw [r.length]
 generalize Ug _ _ _=l
 induction l with
 | nil=>exact .nil
 | cons i l ih=>
  rw [OD,OD]
  cases hi:vs[i]? with
  | none=>
   have:its[i]? = none:=by
    rw [NZ] at hi ⊢
    rw [<- r.length];exact hi
   rw [this]
   exact ih
  | some v=>
   obtain ⟨u,h1,h2⟩:=r.get hi
   rw [h1]
   exact .cons h2 ih
section
variable {X:Cx}{e:M5}{te:TE}{lo hi:Option M5}{st:M5}{tl th tt:TO}{pos p2:Om}
noncomputable def HY (K:MX)(te:TE)(tl th tt:TO):TE:=fun σ H Q=>te σ H fun x H1=>tl σ H1 fun l H2=>th σ H2 fun u H3=>tt σ H3 fun t H4=>t≠some 0/\∃ a xs,x=.ref a/\SqL K H4 a xs/\(c9 xs l u t).length<=Nd/\∀ p,H4 p=none->Q (.ref p) (aV H4 p (.lst (c9 xs l u t)))
open PyProof.Rows in
theorem HZ (he:PE X e te)(hl:PO X lo tl)(hu:PO X hi th)(ht:PO X (some st) tt):PE X (.Subscript e (.Slice lo hi (some st) p2) pos) (HY X.K te tl th tt):=by
 intro Vq s σ H Q I h
 refine So (aT (he Vq s σ H _ I h) fun v s1 ⟨x,H1,I1,r1,q1⟩=>?_)
 refine wpAny_Slice (aT (hl Vq s1 σ H1 _ I1 q1) fun vl s2 ⟨l,H2,I2,pl,q2⟩=>aT (hu Vq s2 σ H2 _ I2 q2) fun vu s3 ⟨u,H3,I3,pu,q3⟩=>aT (ht Vq s3 σ H3 _ I3 q3) fun vt s4 ⟨t,H4,I4,pt,q4⟩=>?_)
 obtain ⟨h0,a,xs,rfl,hx,hz,q⟩:=q4
 cases r1
 have I5:Inv X Vq σ H4 { s4 with heap:=s4.heap.push { cls:=.type "slice",data:=.fields #[vl,vu,vt] } }:=I4.kept (t':=s4.toks) fun b ob q=>M6 _ q
 obtain ⟨its,r,hl',hz'⟩:=I5.list hx
 have hlen:=r.length
 show NI (NC X.prog X.w) X.A (Rn e (.Slice lo hi (some st) p2) (.ref a) (.ref s4.heap.objs.size)) (EP X Vq σ Q) X.xe { s4 with heap:=s4.heap.push { cls:=.type "slice",data:=.fields #[vl,vu,vt] } }
 refine Vf (ops:=[.ref a,.ref s4.heap.objs.size]) hl'.isList.typeIs RH.lookup ?_ (by with_unfolding_all rfl)
 refine SN hl'.isList (RF ..) pl pu pt h0 ?_ (by rw [Nl]<;>omega)
 have hpick:S0 its.toArray l u t=(c9 its l u t).toArray:=by
  unfold S0 c9
  simp
 rw [hpick]
 refine ⟨.ref _,_,I5.laid (t':=s4.toks) (o:=.lst (c9 xs l u t)) (fun b ob q=>M6 _ q) (Ni _) ?_,rfl,q _ (I5.hok.fresh (Ni _))⟩
 exact ⟨hz,_,0,HX r l u t,Nu _ rfl⟩
theorem Ia {me:ME}{ml mh mt:MO}(he:QE X e me)(hl:QO X lo ml)(hu:QO X hi mh)(ht:QO X (some st) mt):QE X (.Subscript e (.Slice lo hi (some st) p2) pos) (k5 me ml mh mt):=⟨cJ (HZ he.h hl.h hu.h ht.h) (by
 rintro σ H Q ⟨π,ρ,μ,d,μ',R,E,hm,k⟩
 obtain ⟨⟨x,μ1⟩,h1,hm⟩:=MW.mp hm
 obtain ⟨⟨l,μ2⟩,h2,hm⟩:=MW.mp hm
 obtain ⟨⟨u,μ3⟩,h3,hm⟩:=MW.mp hm
 obtain ⟨⟨t,μ4⟩,h4,hm⟩:=MW.mp hm
 refine ⟨π,ρ,μ,x,μ1,R,E,h1,fun π1 v1 H1 e1 R1 i1=>⟨π1,ρ,μ1,l,μ2,R1,E.mono e1,h2,fun π2 H2 e2 R2=>⟨π2,ρ,μ2,u,μ3,R2,(E.mono e1).mono e2,h3,fun π3 H3 e3 R3=>⟨π3,ρ,μ3,t,μ4,R3,((E.mono e1).mono e2).mono e3,h4,fun π4 H4 e4 R4=>?_⟩⟩⟩⟩
 split at hm
 ·rename_i h0
  obtain ⟨xs,h5,hm⟩:=MW.mp hm
  split at hm
  ·rename_i hz
   cases hm
   obtain ⟨p,vs,rfl,q,hd⟩:=iO R4 (((i1.mono e2).mono e3).mono e4) h5
   have hpk:=HW hd l u t
   refine ⟨h0,p,vs,rfl,q,by rw [hpk.length];exact hz,fun p' hp=>?_⟩
   obtain ⟨e5,R5,_⟩:=R4.alloc (c:=.lst (c9 xs l u t)) (o:=.lst (c9 vs l u t)) hp hpk
   exact k _ _ _ ((((e1.trans e2).trans e3).trans e4).trans e5) R5 iJ
  ·cases hm
 ·cases hm)⟩
end
section
variable {X:Cx}{Vq:List (Addr×OE)}{σ:St}{H:Hp}{s:M4}{h':N6}
theorem Ib {t':Nat}{ch:List Addr}{a:Addr}{o:HO}(I:Inv X Vq σ H s)(k:∀ b u,b∉ch->s.heap.get? b=some u->h'.get? b=some u)(hf:∀ b∈ch,eP X Vq H b)(hp:s.heap.objs.size<=a)
  (new:ObjOk X.prog X.w (aV H a o) h' a o):Inv X Vq σ (aV H a o) { s with heap:=h',toks:=t' }:=by
 have hn:=I.hok.fresh hp
 have nit:∀ b u,H b=some u->b∉ch:=fun b u e z=>by
  have:=(hf b z).1
  rw [e] at this;cases this
 refine I.step (g':=s.gens) (d':=s.drawn) (ch:=ch) (fun b hb=>let ⟨f0,f1,f2,f3,f4,f5⟩:=hf b hb;⟨f3,f1,f4,f5⟩) (fun b o _ _ hc e _=>k b o hc e) (fun b o _ _ hc e _=>⟨o.slots,k b o hc e⟩) (fun b ob hc e n=>?_)
  (fun b o hc e=>⟨o,k b o hc e⟩) (fun b xs q=>?_) (fun b ob xs q=>?_) (fun b ps q=>?_) (fun m hm=>?_) (fun b u e=>?_) I.bare
 ·rw [bS (Nr (Ny (Nc e) hp))];exact n
 ·rw [bS (eL q hn)];exact q
 ·rw [bS (eL q hn)];exact q
 ·exact ⟨#[],by rw [bS (eL q hn),q];simp⟩
 ·obtain ⟨o,es,ep,ho,r⟩:=hm
  exact ⟨o,es,ep,k _ o (fun z=>(hf _ z).2.1 rfl) ho,r⟩
 ·by_cases hb:b=a
  ·subst hb;rw [eB] at e;cases e;exact new
  ·rw [bS hb] at e
   refine (I.hok b u e).stay (fun c v hc q=>k c v ?_ q) (fun c q=>by rw [bS (eL q hn)];exact q) fun c xs q=>by rw [bS (eL q hn)];exact q
   rcases hc with z|z
   ·rw [z];exact nit b u e
   ·exact nit c _ z
theorem Ic {t':Nat}{ch:List Addr}(I:Inv X Vq σ H s)(k:∀ b u,b∉ch->s.heap.get? b=some u->h'.get? b=some u)(hf:∀ b∈ch,eP X Vq H b):Inv X Vq σ H { s with heap:=h',toks:=t' }:=by
 have nit:∀ b u,H b=some u->b∉ch:=fun b u e z=>by
  have:=(hf b z).1
  rw [e] at this;cases this
 refine I.step (g':=s.gens) (d':=s.drawn) (ch:=ch) (fun b hb=>let ⟨f0,f1,f2,f3,f4,f5⟩:=hf b hb;⟨f3,f1,f4,f5⟩) (fun b o _ _ hc e _=>k b o hc e) (fun b o _ _ hc e _=>⟨o.slots,k b o hc e⟩) (fun b ob hc e n=>n)
  (fun b o hc e=>⟨o,k b o hc e⟩) (fun b xs q=>q) (fun b ob xs q=>q) (fun b ps q=>⟨#[],by rw [q];simp⟩) (fun m hm=>?_) (fun b u e=>?_) I.bare
 ·obtain ⟨o,es,ep,ho,r⟩:=hm
  exact ⟨o,es,ep,k _ o (fun z=>(hf _ z).2.1 rfl) ho,r⟩
 ·refine (I.hok b u e).stay (fun c v hc q=>k c v ?_ q) (fun c q=>q) fun c xs q=>q
  rcases hc with z|z
  ·rw [z];exact nit b u e
  ·exact nit c _ z
end
noncomputable def rP (K:MX)(a:Addr):It:=
 ⟨fun i H=>∃ xs x,SqL K H a xs/\xs[i]? = some x,fun i H x H'=>∃ p v,x=.ref p/\H p=none/\H'=aV H p (.tup [.int i,v])/\∀ xs,SqL K H a xs->xs[i]? = some v,fun i H=>∃ xs,SqL K H a xs/\xs.length<=i⟩
theorem Ie {P:Nz}{w:NP}{K:MX}{es:List M5}{kx:Nat}{pt:Om}(a e it:Addr)(hei:e≠it) :
  Turn P w K (.Tuple es kx pt) (rP K a) [e,it] e (fun i h=>∃ old,IsEnum h e it i old/\h.IsListIter it a i) where
 mem:=by simp
 obj:=fun i h ⟨old,st,st2⟩ b hb=>by
  have hb':b=e\/b=it:=by simpa using hb
  rcases hb' with rfl|rfl
  ·exact ⟨_,st,fun v z=>by
    have z':SK _=Vp v:=z
    cases z'⟩
  ·obtain ⟨o,e1,c,d⟩:=st2
   exact ⟨o,e1,fun v z=>by rw [d] at z;cases z⟩
 keep:=fun i h h' ⟨old,st,st2⟩ k=>⟨old,k e (by simp) _ st,st2.at fun o e1=>k it (by simp) o e1⟩
 item:=by
  intro X hP hw hK hc i Vq s σ H E I hf ⟨old,st,st2⟩ hg
  subst hP hw hK
  obtain ⟨xs,x,hq,hx⟩:=hg
  obtain ⟨its,rv,p,hz⟩:=I.list hq
  obtain ⟨u,hu,ru⟩:=rv.get hx
  refine wpAny_pyNext_enum_item st st2 p.isList (x:=u) (by simpa using hu) hei fun h1 ho hit ht hsz hk=>⟨_,rfl,wpAny_letOwnedTupleGo_enum ho fun h2 he2 hs2=>?_⟩
  have hlt:e<s.heap.objs.size:=Nc st
  have hne:s.heap.objs.size≠e:=Qx hlt
  have ht2:h2.get? s.heap.objs.size=some { cls:=.type "tuple",data:=.seq #[.int i s.toks,u] }:=(hs2.2 _ hne).trans ht
  have hfr:H s.heap.objs.size=none:=I.hok.fresh (Ni _)
  refine ⟨.ref s.heap.objs.size,aV H s.heap.objs.size (.tup [.int i,x]),?_,rfl,⟨s.heap.objs.size,x,rfl,hfr,rfl,fun ys hy=>by rw [I.list_inj hy hq];exact hx⟩,⟨u,he2,hit.extBut hs2.extBut (OU hei)⟩,fun b hb=>?_⟩
  ·refine Ib (s:=s) (h':=h2) (t':=s.toks+1) (ch:=[e,it]) I (fun b ob hb eb=>?_) hf (Ni _) ?_
   ·have hb':b≠e/\b≠it:=by simpa using hb
    exact (hs2.2 b hb'.1).trans (hk b ob hb'.1 hb'.2 eb)
   ·exact ⟨by show (2:Nat)<=Nd;decide,[.int i s.toks,u],.cons ⟨_,rfl⟩ (.cons ru .nil),_,ht2,rfl,0,rfl,rfl⟩
  ·have hb':b=e\/b=it:=by simpa using hb
   have hn:=(hf b hb).1
   obtain ⟨o,ho2,_⟩:=st2
   rw [bS]
   ·exact hn
   ·rcases hb' with rfl|rfl
    ·exact Nr hlt
    ·exact Nr (Nc ho2)
 done:=by
  intro X hP hw hK hc i Vq s σ H E I hf ⟨old,st,st2⟩ hg
  subst hP hw hK
  obtain ⟨xs,hq,hx⟩:=hg
  obtain ⟨its,rv,p,hz⟩:=I.list hq
  have hl:=rv.length
  refine wpAny_pyNext_enum_end (I.ok.hd hc) st st2 p.isList (by simp;omega) fun h' eb=>⟨rfl,Ic (t':=s.toks) (ch:=[e,it]) I (fun b o hb z=>eb b o ?_ z) hf⟩
  have hb':b≠e/\b≠it:=by simpa using hb
  exact hb'.2
 self:=fun _ _ _ _ _ ⟨old,st,_⟩ h=>Ut st h
structure QJT (X:Cx)(e:M5)(m:MI):Prop where
 h:∀ es k p,PI X (.Tuple es k p) e (g8 X.K m)
theorem QJ.t {X:Cx}{e:M5}{m:MI}(h:QJ X e m):QJT X e m:=⟨fun es k p=>h.h _⟩
noncomputable def mH (x:D):gE:=fun μ i=>(bD μ x).map fun xs=>(xs[i]?).map fun d=>.tup [.int i,d]
noncomputable def k6 (ms:MA):MI:=fun ρ μ=>(ms ρ μ).bind fun p=>match p.1 with
 | [x]=>(dC p.2 x).map fun xs=>(mH x,xs.length+1,p.2)
 | _=>none
theorem Ig {K:MX}{π:Nat->Addr}{μ:Hm}{H:Hp}{v:V}{x:D}{xs:List D}(R:Rp K π H μ)(h:IsD K π μ.length H v x)(hs:dC μ x=some xs):∃ a,v=.ref a/\(∃ vs,SqL K H a vs)/\Wk K (rP K a) (mH x) π μ.length H:=by
 have hw:bD μ x=some xs:=by
  cases x with
  | rol ys=>exact hs
  | loc b=>exact hs
  | _=>cases hs
 obtain ⟨p,vs,rfl,hq,_⟩:=iO R h hs
 refine ⟨p,rfl,⟨vs,hq⟩,?_⟩
  -- the list as it stands later
 have later:∀ π' μ' H',Ext π μ.length H π' μ'.length H'->Rp K π' H' μ'->∀ ys,bD μ' x=some ys->∃ ws,SqL K H' p ws/\IsDs K π' μ'.length H' ws ys:=fun π' μ' H' e R' ys hy=>by
  have i':=h.mono e
  have hl:dC μ' x=some ys:=by
   cases x with
   | rol zs=>exact hy
   | loc b=>exact hy
   | _=>cases hs
  obtain ⟨p',ws,e1,q1,d1⟩:=iO R' i' hl
  cases e1
  exact ⟨ws,q1,d1⟩
 refine ⟨fun π' μ' H' i e R' z=>?_,fun π' μ' H' i d e R' z=>?_⟩
 ·obtain ⟨ys,h1,h2⟩:=M3.mp z
  obtain ⟨ws,q1,d1⟩:=later π' μ' H' e R' ys h1
  have h3:ys[i]? = none:=by
   cases q:ys[i]? with
   | none=>rfl
   | some d=>rw [q] at h2;cases h2
  exact ⟨ws,q1,by rw [d1.length];exact NZ.mp h3⟩
 ·obtain ⟨ys,h1,h2⟩:=M3.mp z
  obtain ⟨d',h3,h4⟩:=M3.mp h2
  subst h4
  obtain ⟨ws,q1,d1⟩:=later π' μ' H' e R' ys h1
  obtain ⟨v,h5,h6⟩:=d1.get h3
  refine ⟨⟨ws,v,q1,h5⟩,?_⟩
  rintro y H2 ⟨t,v',rfl,hn,rfl,hv⟩
  have:=hv ws q1
  rw [h5] at this
  cases this
  obtain ⟨e2,R2⟩:=R'.fresh (o:=.tup [.int i,v]) hn
  exact ⟨e2,R2,.tup (.of eB) (.cons (.int _) (.cons (h6.mono e2) .nil))⟩
noncomputable def Ih (K:MX)(ta:TA):TI:=fun σ H R=>ta σ H fun vs H1=>∃ a,vs=[.ref a]/\(∃ xs,SqL K H1 a xs)/\R (rP K a) H1
open PyProof.Rows in
theorem Ii {X:Cx}{a:M5}{ta:TA}{p pos pt:Om}{es:List M5}{kx:Nat}(hg:Gl X "enumerate") (hm:X.mg "enumerate" = none) (ha:PA X [a] ta)(hs:NL [a] X.env=[(false,eval a X.env)]):PI X (.Tuple es kx pt) (.Call (.Name "enumerate" p) [a] [] pos) (Ih X.K ta):=by
 intro Vq s σ H R I h
 refine Call_ (iX I hg hm Boot.«enumerate» (callWith_type1 (aT (ha pos Vq s σ H _ I h) fun us s1 ⟨vs,H1,I1,r1,q1⟩=>?_) hs rfl))
 obtain ⟨a0,rfl,⟨ws,hq⟩,q⟩:=q1
 obtain ⟨u,rfl,ru⟩:=eS r1
 cases ru
 obtain ⟨its,rv,pl,hz⟩:=I1.list hq
 refine call_enumerate_list pl.isList fun h' he hit hsz hk=>?_
 refine Ut he ?_
 have I2:Inv X Vq σ H1 { s1 with heap:=h' }:=I1.kept (t':=s1.toks) hk
 refine ⟨s1.heap.objs.size+1,[s1.heap.objs.size+1,s1.heap.objs.size],_,_,H1,rfl,I2,Ie a0 _ _ (Nat.succ_ne_self _),⟨_,he,hit⟩,fun b hb=>?_,q⟩
 have hb':b=s1.heap.objs.size+1\/b=s1.heap.objs.size:=by simpa using hb
 rcases hb' with rfl|rfl
 ·exact I1.fpOk (P4 _) (I1.hok.fresh (P4 _))
 ·exact I1.fpOk (Ni _) (I1.hok.fresh (Ni _))
theorem Ij {X:Cx}{a:M5}{ms:MA}{n:Nat}{p pos:Om}(hgl:Gl X "enumerate") (hmg:X.mg "enumerate" = none) (ha:QA X [a] ms n):QJT X (.Call (.Name "enumerate" p) [a] [] pos) (k6 ms):=⟨fun es kx pt Vq s σ H R I hw=>by
 have hs:=ha.s
 rw [NQ,Nb] at hs
 obtain ⟨π,ρ,μ,src,n',μ',Rr,E,hm,k⟩:=hw
 obtain ⟨⟨x,μ1⟩,h1,hm⟩:=MW.mp hm
 refine Ii hgl hmg ha.h (gD hs.1) Vq s σ H R I ⟨π,ρ,μ,x,μ1,Rr,E,h1,fun π1 vs H1 e1 R1 i1=>?_⟩
 dsimp only at hm
 split at hm
 ·rename_i x
  obtain ⟨xs,h2,hm⟩:=M3.mp hm
  cases hm
  cases i1 with
  | cons i1 t1=>
   cases t1
   obtain ⟨a0,rfl,hq,W⟩:=Ig R1 i1 h2
   exact ⟨a0,rfl,hq,k π1 H1 _ e1 R1 W⟩
 ·cases hm⟩
section
variable {X:Cx}{pos:Om}
theorem Ik {tg iter:M5}{mi:MI}{g:MG}{mb:MS}{body:List Stmt}(hi:PI X tg iter (g8 X.K mi))(hg:QG X tg g)(hb:QB X body mb)(hp:RU (NC X.prog X.w) X.A X.env X.xe)(hc:X.calm=true)(hs:gZ iter=true) :
  QS X (.For tg iter body [] pos) (fN mi g mb):=⟨fK (CF hp hc hi hg.h hb.h (by intro z;cases iter<;>first|rfl|cases hs)) (by
 rintro E σ H ⟨π,ρ,μ,fl,ρ',μ',R,EN,hm,k⟩
 obtain ⟨⟨src,n,μ1⟩,h1,hm⟩:=MW.mp hm
 refine ⟨π,ρ,μ,src,n,μ1,R,EN,h1,fun π1 H1 J e1 R1 W=>?_⟩
 have kk:i8 X.K E π1 μ1.length H1 fl ρ' μ':=by
  cases fl with
  | nx=>exact fun π3 σ3 H3 e3 R3 E3=>k π3 σ3 H3 (e1.trans e3) R3 E3
  | bk=>exact fun π3 σ3 H3 e3 R3 E3=>k π3 σ3 H3 (e1.trans e3) R3 E3
  | ct=>exact fun π3 σ3 H3 e3 R3 E3=>k π3 σ3 H3 (e1.trans e3) R3 E3
  | rt d=>exact KC.after k e1
 exact Fs W kk .refl R1 (EN.mono e1) hm)⟩
theorem Il {st:Stmt}{m m1 m2:MS}(h1:QS X st m1)(h2:QS X st m2)(h:∀ ρ μ r,m ρ μ=some r->m1 ρ μ=some r\/m2 ρ μ=some r):QS X st m:=⟨fun Vq s σ H D I q=>by
 obtain ⟨π,ρ,μ,fl,ρ',μ',R,E,hm,k⟩:=q
 rcases h ρ μ _ hm with z|z
 ·exact h1.h Vq s σ H D I ⟨π,ρ,μ,fl,ρ',μ',R,E,z,k⟩
 ·exact h2.h Vq s σ H D I ⟨π,ρ,μ,fl,ρ',μ',R,E,z,k⟩⟩
noncomputable def jH (put:D->D->D->Hm->Option Hm)(o i v:ME):MS:=fun ρ μ=>(v ρ μ).bind fun p=>(o ρ p.2).bind fun q=>(i ρ q.2).bind fun r=>(put q.1 r.1 p.1 r.2).map fun μ'=>(.nx,ρ,μ')
noncomputable def k7:D->D->D->Hm->Option Hm
 | .loc a,.int i,d,μ=>match μ[a]? with
  | some (.lst xs)=>(dS xs.length i).map fun j=>μ.set a (.lst (xs.set j d))
  | _=>none
 | _,_,_,_=>none
noncomputable def oK:D->D->D->Hm->Option Hm
 | .loc a,k,d,μ=>match μ[a]? with
  | some (.dK kvs)=>(gY k).bind fun kk=>if kvs.length<Nd then some (μ.set a (.dK (mB kvs kk d))) else none
  | _=>none
 | _,_,_,_=>none
noncomputable def mI:D->D->D->Hm->Option Hm:=fun o i d μ=>match o with
 | .loc a=>match μ[a]? with
  | some (.dK _)=>oK o i d μ
  | _=>k7 o i d μ
 | _=>none
noncomputable def iP:=jH mI
theorem yR {K:MX}{π:Nat->Addr}{n:Nat}{H:Hp}:∀ {vs:List V}{ds:List D}(j:Nat){v:V}{d:D},IsDs K π n H vs ds->IsD K π n H v d->IsDs K π n H (vs.set j v) (ds.set j d)
 | _,_,j,_,_,.nil,h=>by simp;exact .nil
 | _,_,0,_,_,.cons _ t,h=>.cons h t
 | _,_,j+1,_,_,.cons h0 t,h=>.cons h0 (yR j t h)
noncomputable def Im (td ty tv:TE):TS:=fun D σ H=>tv σ H fun v H1=>td σ H1 fun x H2=>ty σ H2 fun y H3=>wB x y v H3 fun H4=>D.nx σ H4
open PyProof.Rows in
theorem Io {o i value:M5}{pos':Om}{td ty tv:TE}(ho:PE X o td)(hi:PE X i ty)(hv:PE X value tv)(hs:Qc value (some (.Subscript o i pos')) pos.line X.env=pure false):PS X (.Assign [.Subscript o i pos'] value pos) (Im td ty tv):=by
 intro Vq s σ H D I h
 refine Tc (aT (hv Vq s σ H _ I h) fun r s1 ⟨v,H1,I1,rv,q1⟩=>aT (ho Vq s1 σ H1 _ I1 q1) fun u s2 ⟨x,H2,I2,rx,q2⟩=>aT (hi Vq s2 σ H2 _ I2 q2) fun iv s3 ⟨y,H3,I3,ry,q3⟩=>?_) hs
 exact aT (DG Vq s3 σ H3 x y v u iv r _ I3 rx ry rv q3) fun _ s4 ⟨H4,I4,q4⟩=>⟨σ,H4,I4,q4⟩
theorem Ip {o i e:M5}{mo mi me:ME}{tpos:Om}(ho:QE X o mo)(hi:QE X i mi)(he:QE X e me)(h:g7 e=true):QS X (.Assign [.Subscript o i tpos] e pos) (jH k7 mo mi me):=
 ⟨fK (Io ho.h hi.h he.h (n6 h)) (by
 rintro E σ H ⟨π,ρ,μ,fl,ρ',μ',R,EN,hm,k⟩
 obtain ⟨⟨x,μ1⟩,h1,hm⟩:=MW.mp hm
 obtain ⟨⟨y,μ2⟩,h2,hm⟩:=MW.mp hm
 obtain ⟨⟨z,μ3⟩,h3,hm⟩:=MW.mp hm
 obtain ⟨μ4,h4,hm⟩:=M3.mp hm
 cases hm
 refine ⟨π,ρ,μ,x,μ1,R,EN,h1,fun π1 v1 H1 e1 R1 i1=>⟨π1,ρ,μ1,y,μ2,R1,EN.mono e1,h2,fun π2 v2 H2 e2 R2 i2=>⟨π2,ρ,μ2,z,μ3,R2,(EN.mono e1).mono e2,h3,fun π3 v3 H3 e3 R3 i3=>?_⟩⟩⟩
 dsimp only at h4
 cases y with
 | loc a=>
  cases z with
  | int i=>
   simp only [k7] at h4
   split at h4
   ·rename_i xs hx
    obtain ⟨j,h5,h6⟩:=M3.mp h4
    subst h6
    obtain ⟨vs,h7,h8⟩:=R3.lst _ xs hx
    have i2':=i2.mono e3
    cases i2'
    cases i3
    have hlt:=(Ng.mp hx).1
    have iv:=(i1.mono e2).mono e3
    refine ⟨_,vs,i,j,rfl,rfl,h7,by rw [h8.length];exact h5,?_⟩
    obtain ⟨e4,R4⟩:=R3.put (c:=.lst (xs.set j x)) (o:=.lst (vs.set j v1)) hlt h7 (.inl ⟨vs,rfl⟩) (yR j h8 iv)
    exact k π3 σ _ (((e1.trans e2).trans e3).trans e4) R4 ((((EN.mono e1).mono e2).mono e3).mono e4)
   ·cases h4
  | _=>simp [k7] at h4
 | _=>simp [k7] at h4)⟩
theorem Iq {kk:Nat}(hr:Room kk X.A){o i e:M5}{mo mi me:ME}{tpos:Om}(ho:QE X o mo)(hi:QE X i mi)(he:QE X e me)(h:g7 e=true):QS X (.Assign [.Subscript o i tpos] e pos) (jH oK mo mi me):=
 ⟨fK (Dm (DS hr) ho.h hi.h he.h (n6 h)) (by
 rintro E σ H ⟨π,ρ,μ,fl,ρ',μ',R,EN,hm,k⟩
 obtain ⟨⟨x,μ1⟩,h1,hm⟩:=MW.mp hm
 obtain ⟨⟨y,μ2⟩,h2,hm⟩:=MW.mp hm
 obtain ⟨⟨z,μ3⟩,h3,hm⟩:=MW.mp hm
 obtain ⟨μ4,h4,hm⟩:=M3.mp hm
 cases hm
 refine ⟨π,ρ,μ,x,μ1,R,EN,h1,fun π1 v1 H1 e1 R1 i1=>⟨π1,ρ,μ1,y,μ2,R1,EN.mono e1,h2,fun π2 v2 H2 e2 R2 i2=>⟨π2,ρ,μ2,z,μ3,R2,(EN.mono e1).mono e2,h3,fun π3 v3 H3 e3 R3 i3=>?_⟩⟩⟩
 dsimp only at h4
 cases y with
 | loc a=>
  simp only [oK] at h4
  split at h4
  ·rename_i kvs hx
   obtain ⟨kk,h5,h6⟩:=MW.mp h4
   split at h6
   ·rename_i hl
    cases h6
    obtain ⟨vs,h7,h8,h9⟩:=R3.dK _ kvs hx
    have i2':=i2.mono e3
    cases i2'
    have hk:=rC i3 h5
    subst hk
    have hlt:=(Ng.mp hx).1
    have iv:=(i1.mono e2).mono e3
    have hks:=IsKs.of h8 h9
    refine ⟨_,_,rfl,DPut.k h7 (by rw [hks.length];exact hl),?_⟩
    obtain ⟨e4,R4⟩:=R3.put (c:=.dK (mB kvs kk x)) (o:=.dK (c4 vs kk v1)) hlt h7 (.inr (.inl ⟨vs,rfl⟩)) (hks.put iv kk).maps
    exact k π3 σ _ (((e1.trans e2).trans e3).trans e4) R4 ((((EN.mono e1).mono e2).mono e3).mono e4)
   ·cases h6
  ·cases h4
 | _=>simp [oK] at h4)⟩
theorem Ir {f f1 f2:D->D->D->Hm->Option Hm}{mo mi me:ME}(h:∀ x y z μ r,f x y z μ=some r->f1 x y z μ=some r\/f2 x y z μ=some r):∀ ρ μ r,jH f mo mi me ρ μ=some r->jH f1 mo mi me ρ μ=some r\/jH f2 mo mi me ρ μ=some r:=by
 intro ρ μ r hm
 obtain ⟨p,h1,hm⟩:=MW.mp hm
 obtain ⟨q,h2,hm⟩:=MW.mp hm
 obtain ⟨t,h3,hm⟩:=MW.mp hm
 obtain ⟨μ',h4,hm⟩:=M3.mp hm
 rcases h _ _ _ _ _ h4 with z|z
 ·exact .inl (MW.mpr ⟨p,h1,MW.mpr ⟨q,h2,MW.mpr ⟨t,h3,M3.mpr ⟨μ',z,hm⟩⟩⟩⟩)
 ·exact .inr (MW.mpr ⟨p,h1,MW.mpr ⟨q,h2,MW.mpr ⟨t,h3,M3.mpr ⟨μ',z,hm⟩⟩⟩⟩)
theorem Iu {kk:Nat}(hr:Room kk X.A){o i e:M5}{mo mi me:ME}{tpos:Om}(ho:QE X o mo)(hi:QE X i mi)(he:QE X e me)(h:g7 e=true):QS X (.Assign [.Subscript o i tpos] e pos) (iP mo mi me):=
 Il (Iq hr ho hi he h) (Ip ho hi he h) (Ir fun x y z μ r hm=>by
  unfold mI at hm
  split at hm
  ·split at hm
   ·exact .inl hm
   ·exact .inr hm
  ·cases hm)
theorem yS {st:Stmt}{i:Nat}:QS X st (aW i bT):=⟨fun Vq s σ H D I q=>by
 obtain ⟨π,ρ,μ,fl,ρ',μ',R,E,hm,k⟩:=q
 cases hm⟩
end
end L3
namespace L3
open PySem L2
noncomputable def mJ {α:Type}(xs:List α)(k:Nat)(d:α):List α:=xs.take k++d::xs.drop k
theorem Vals.ins {xs:List V}{us:List M0}(h:Vals xs us)(k:Nat){v:V}{u:M0}(r:RelV v u):Vals (mJ xs k v) (mJ us k u):=(h.take k).append (.cons r (h.drop k))
section
variable {X:Cx}
end
section
variable {X:Cx}
end
noncomputable def k8:List D->Option (List Str)
 | []=>some []
 | .str x::r=>(k8 r).map (x::·)
 | _=>none
noncomputable def k9 (f:D->List D->Hm->Option (D×Hm))(mo:ME)(ms:MA):ME:=fun ρ μ=>(mo ρ μ).bind fun p=>match p.1 with
 | .str x=>(ms ρ p.2).bind fun q=>f (.str x) q.1 q.2
 | _=>none
section
variable {X:Cx}{e o:M5}{mo:ME}{apos cpos:Om}{es:List M5}{ms:MA}{n:Nat}
theorem Iw {K:MX}{f:D->List D->Hm->Option (D×Hm)}{r:V->List V->Hp->VK->Prop}(hf:kT K f r):∀ σ H Q,tM K (k9 f mo ms) σ H Q->qH K "str" r (tM K mo) (dO K ms) σ H Q:=by
 rintro σ H Q ⟨π,ρ,μ,d,μ',R,E,hm,k⟩
 obtain ⟨⟨x,μ1⟩,h1,hm⟩:=MW.mp hm
 cases x with
 | str z=>
  obtain ⟨⟨xs,μ2⟩,h2,hm⟩:=MW.mp hm
  refine ⟨π,ρ,μ,_,μ1,R,E,h1,fun π1 v1 H1 e1 R1 i1=>?_⟩
  cases i1
  refine ⟨rfl,π1,ρ,μ1,xs,μ2,R1,E.mono e1,h2,fun π2 vs H2 e2 R2 i2=>?_⟩
  exact hf π2 H2 μ2 _ xs d μ' _ vs Q R2 (.str _) i2 hm (k.after (e1.trans e2))
 | _=>cases hm
theorem Iy {f:D->List D->Hm->Option (D×Hm)}{r:V->List V->Hp->VK->Prop}{name:Str}{id:String}(slot:Slot "str" name id) (hty:typeOf (.builtin id)=pure (.type "method_descriptor")) (hm:nM X id r)(hf:kT X.K f r)
  (ho:QE X o mo)(ha:QA X (e::es) ms n)(hs:n9 o=true)(hl:(apos.endLine == cpos.line)=true)(hn:(e::es).length<30):QE X (.Call (.Attribute o name apos) (e::es) [] cpos) (k9 f mo ms):=by
 have hst:=ha.s
 have hst':=hst
 rw [NQ,Nb] at hst'
 exact ⟨cJ (wC PySem.F.plainAttrs_str slot hty hm ho.h ha.h (mF hs) (yC hst hn) hl (gD hst'.1) (jF hst'.2)) (Iw hf)⟩
end
noncomputable def jI:D->List D->Hm->Option (D×Hm)
 | .str sep,[y],μ=>(dC μ y).bind fun xs=>(k8 xs).bind fun ss=>if PH (ss.toArray.foldl (·+·.length+sep.length) 0)=false/\(Oq sep ss).length<=Nd then some (.str (Oq sep ss),μ) else none
 | _,_,_=>none
noncomputable def yT (K:MX):V->List V->Hp->VK->Prop:=fun x vs H Q=>∃ (sep:Str)(p:Addr)(ss:List Str),x=.str sep/\vs=[.ref p]/\SqL K H p (ss.map V.str)/\PH (ss.toArray.foldl (·+·.length+sep.length) 0)=false/\(Oq sep ss).length<=Nd/\Q (.str (Oq sep ss)) H
theorem rQ:∀ {ds:List D}{k:List Str},k8 ds=some k->ds=k.map D.str
 | [],k,h=>by cases h;rfl
 | d::ds,k,h=>by
  cases d with
  | str i=>
   obtain ⟨k',h1,h2⟩:=M3.mp h
   subst h2
   rw [rQ h1];rfl
  | _=>cases h
theorem strs_of' {K:MX}{π:Nat->Addr}{n:Nat}{H:Hp}:∀ {vs:List V}{k:List Str},IsDs K π n H vs (k.map D.str)->vs=k.map V.str
 | _,[],h=>by cases h;rfl
 | _,i::k,h=>by
  cases h with
  | cons h t=>cases h;rw [strs_of' t];rfl
theorem Iz {K:MX}:kT K jI (yT K):=by
 intro π H μ x ds d μ' v vs Q R ix is hm k
 unfold jI at hm
 split at hm
 ·obtain ⟨xs,h1,hm⟩:=MW.mp hm
  obtain ⟨ss,h2,hm⟩:=MW.mp hm
  split at hm
  ·rename_i hb
   cases hm
   cases ix
   cases is with
   | cons i1 t1=>
    cases t1
    obtain ⟨p,ws,rfl,q,hd⟩:=iO R i1 h1
    rw [rQ h2] at hd
    have:=strs_of' hd
    subst this
    exact ⟨_,p,ss,rfl,rfl,q,hb.1,hb.2,k π _ H .refl R (.str _)⟩
  ·cases hm
 ·cases hm
theorem yU:∀ {ss:List Str}{its:List M0},Vals (ss.map V.str) its->∃ l:List (Str×UG),its=strValues l/\l.map (·.1)=ss
 | [],_,h=>by cases h;exact ⟨[],rfl,rfl⟩
 | x::ss,_,h=>by
  cases h with
  | cons h t=>
   obtain ⟨tk,rfl⟩:=h
   obtain ⟨l,rfl,e⟩:=yU t
   exact ⟨(x,tk)::l,rfl,by rw [Nj,e]⟩
theorem IA {X:Cx}:nM X "str.join" (yT X.K):=by
 intro Vq s σ H x vs v us Q I rx rv h
 obtain ⟨sep,p,ss,rfl,rfl,hq,h1,h2,q⟩:=h
 obtain ⟨t,rfl⟩:=rx
 obtain ⟨u,rfl,ru⟩:=rv.one
 cases ru
 obtain ⟨its,r,pl,hz⟩:=I.list hq
 obtain ⟨l,rfl,rfl⟩:=yU r
 refine Sl F.slot_str_join (Uc _ _ _) F.entry_str_join (F.args_str_join_2 _ _) (meets_str_join_list sep t p l h1) ⟨pl.isList,?_⟩
 match l,h2,q with
 | [],h2,q=>exact ⟨h2,.str _,H,I.tok _,⟨_,rfl⟩,q⟩
 | [a],h2,q=>exact ⟨.str _,H,I,⟨_,rfl⟩,q⟩
 | a::b::r,h2,q=>exact ⟨h2,.str _,H,I.tok _,⟨_,rfl⟩,q⟩
noncomputable def gH (is:List Int):List Int:=is.mergeSort fun a b=>decide (a<=b)
theorem IB {is ns:List Int}(hp:ns.Perm is)(hs:ns.Pairwise (·<=·)):ns=gH is:=by
 have h1:(gH is).Perm is:=List.mergeSort_perm _ _
 have h2:(gH is).Pairwise (·<=·):=by
  have:=List.pairwise_mergeSort (le:=fun a b:Int=>decide (a<=b)) (fun a b c h1 h2=>by simp only [decide_eq_true_eq] at *;omega) (fun a b=>by simp only [O6,decide_eq_true_eq];omega) is
  exact this.imp fun h=>by simpa using h
 exact List.Perm.eq_of_pairwise (le:=fun a b:Int=>a<=b) (fun a b _ _ h1 h2=>by omega) hs h2 (hp.trans h1.symm)
noncomputable def mK:MF:=fun ds μ=>match ds with
 | [x]=>(dC μ x).bind fun xs=>(hV xs).bind fun is=>if is.length<64 then some (.loc μ.length,μ++[.lst ((gH is).map D.int)]) else none
 | _=>none
noncomputable def rR (K:MX):List V->Hp->VK->Prop:=fun xs H Q=>∃ (p:Addr)(is:List Int),xs=[.ref p]/\SqL K H p (is.map V.int)/\is.length<64/\∀ l,H l=none->Q (.ref l) (aV H l (.lst ((gH is).map V.int)))
theorem IC {K:MX}:cE K mK (rR K):=by
 intro π H μ xs d μ' vs Q R i hm k
 unfold mK at hm
 split at hm
 ·obtain ⟨ys,h1,hm⟩:=MW.mp hm
  obtain ⟨is,h2,hm⟩:=MW.mp hm
  split at hm
  ·rename_i hb
   cases hm
   cases i with
   | cons i t=>
    cases t
    obtain ⟨p,ws,rfl,q,hd⟩:=iO R i h1
    rw [mG h2] at hd
    have:=ints_of' hd
    subst this
    refine ⟨p,is,rfl,q,hb,fun l hl=>?_⟩
    obtain ⟨e2,R2,_⟩:=R.alloc (c:=.lst ((gH is).map D.int)) (o:=.lst ((gH is).map V.int)) hl (yJ _)
    exact k _ _ _ e2 R2 iJ
  ·cases hm
 ·cases hm
theorem call_sortI {X:Cx}:CallR X (.builtin "sorted") (rR X.K):=by
 intro Vq s σ H xs us Q I r h
 obtain ⟨p,is,rfl,hq,h64,k⟩:=h
 obtain ⟨u,rfl,ru⟩:=eS r
 cases ru
 obtain ⟨its,rv,pl,hz⟩:=I.list hq
 have hlen:=rv.length
 rw [MZ] at hlen
 refine UZ pl.isList (Dw rv) (by omega) fun out ns' a1 a2 a3=>?_
 obtain ⟨e,he⟩:=Ra s.heap its out
 have hn:H (s.heap.objs.size+1)=none:=I.hok.fresh (P4 _)
 have e1:ns'=gH is:=IB a2 a3
 subst e1
 refine ⟨.ref (s.heap.objs.size+1),_,I.laid (t':=s.toks) (a:=s.heap.objs.size+1) (o:=.lst ((gH is).map V.int)) (fun b ob z=>Q5 z) (P4 _) ?_,rfl,k _ hn⟩
 have hl2:(gH is).length<=Nd:=by
  have:=a2.length_eq
  have h5:=Np
  omega
 refine ⟨by rw [MZ];exact hl2,out.toList,e,qI a1,?_⟩
 rw [he]
noncomputable def mL:MF:=fun ds μ=>match ds with
 | [x]=>(dC μ x).bind fun xs=>(k8 xs).bind fun ss=>if 2<=ss.length/\ss.length<128/\kZ ss=true then some (.loc μ.length,μ++[.lst (ss.reverse.map D.str)]) else none
 | _=>none
theorem yV {K:MX}{π:Nat->Addr}{n:Nat}{H:Hp}:∀ (k:List Str),IsDs K π n H (k.map V.str) (k.map D.str)
 | []=>.nil
 | x::k=>.cons (.str x) (yV k)
theorem ID {K:MX}:cE K mL (rN K):=by
 intro π H μ xs d μ' vs Q R i hm k
 unfold mL at hm
 split at hm
 ·obtain ⟨ys,h1,hm⟩:=MW.mp hm
  obtain ⟨ss,h2,hm⟩:=MW.mp hm
  split at hm
  ·rename_i hb
   cases hm
   cases i with
   | cons i t=>
    cases t
    obtain ⟨p,ws,rfl,q,hd⟩:=iO R i h1
    rw [rQ h2] at hd
    have:=strs_of' hd
    subst this
    refine ⟨p,ss,rfl,q,hb.1,hb.2.1,hb.2.2,fun l hl=>?_⟩
    obtain ⟨e2,R2,_⟩:=R.alloc (c:=.lst (ss.reverse.map D.str)) (o:=.lst (ss.reverse.map V.str)) hl (yV _)
    exact k _ _ _ e2 R2 iJ
  ·cases hm
 ·cases hm
noncomputable def jJ:MF:=fun ds μ=>match mK ds μ with
 | some r=>some r
 | none=>mL ds μ
theorem IE {K:MX}:cE K jJ (fun xs H Q=>rR K xs H Q\/rN K xs H Q):=by
 intro π H μ xs d μ' vs Q R i hm k
 unfold jJ at hm
 split at hm
 ·rename_i r hr
  cases hm
  exact .inl (IC π H μ xs d μ' vs Q R i hr k)
 ·exact .inr (ID π H μ xs d μ' vs Q R i hm k)
end L3
namespace L3
open PySem L2
section
variable {prog:Nz}{w:NP}{A:NM}{E:M0->M4->Prop}{s:M4}{r:Addr}{Q:Bool->M4->Prop}
theorem IF:Sj (.type "list_reverseiterator") "__len__" = pure none:=by rw [UY,TM];kernel_rfl
theorem IG:Sj (.type "list_reverseiterator") "__length_hint__" = pure (some (.builtin "list_reverseiterator.__length_hint__")):=by rw [UY,TM];kernel_rfl
theorem IH (hT:s.TypeIs (.ref r) "list_reverseiterator") (h:Q false s):NI (NC prog w) A (Q4 (.ref r)) Q E s:=by
 unfold Q4
 refine Nm (QX hT IF ?_)
 dsimp only
 refine PC (fun hab=>absurd hab (by decide +kernel)) (fun _=>?_)
 refine PC (fun hab=>absurd hab (by decide)) (fun _=>?_)
 refine Nm (QX hT IG ?_)
 generalize a9:("list_reverseiterator.__length_hint__":String)=id0
 wp_delta
 rw [show splitId id0=some ("list_reverseiterator","__length_hint__") from by subst a9;decide +kernel]
 subst a9
 refine Nm (wpAny_isInstance (T:="list_reverseiterator") (b:=true) hT (by rw [isSubtype_type];kernel_rfl) ?_)
 refine PC (fun hab=>absurd hab (by decide)) (fun _=>?_)
 refine PC (fun _=>?_) (fun hab=>absurd (by decide +kernel) hab)
 refine PC (fun hab=>absurd hab (by decide +kernel)) (fun _=>?_)
 exact NO h
end
section
variable {prog:Nz}{w:NP}{A:NM}{E:M0->M4->Prop}{s:M4}{p a:Addr}{its:Array M0}
theorem II {R:Um->M4->Prop}(hh:A.handled=none)(hit:s.heap.IsRevIter p a ((its.size:Int) - 1))(hl:s.heap.IsList a its)(hap:a≠p)(S:Addr)(hSr:S≠p)(hSd:S≠a)(res:M0)(c₀:Nat)(hS:s.heap.get? S=some { cls:=.type "list",data:=.seq #[] c₀ })
  (hR:∀ h' tk acc' c',(∀ b o,b≠S->b≠p->s.heap.get? b=some o->h'.get? b=some o)->h'.get? S=some { cls:=.type "list",dict:=none,data:=.seq acc' c',slots:=#[] }->ItemsOf (fun i v=>its[its.size - 1 - i]? = some v) acc' its.size->R (.ok (.ret res)) { s with heap:=h',toks:=tk }) (hn:its.size<=Nd) :
  NI (NC prog w) A.in1 (O0 (.ref S) (.ref p) res)
   (fun aM s'=>match aM with|.done f=>R (.ok f) s'|.again c'=>c'.quiet=true/\QR (NC prog w) A c' R s') (fun e s'=>R (.error e) s') s:=by
 have hSf:S∉[p,a]:=by simp only [NN,Oo,or_false,not_or];exact ⟨hSr,hSd⟩
 have W:=Walks.listRev (prog:=prog) (w:=w) (A:=A.in1) hh p a hap its
 have key:∀ (h:N6)(c₁ tk:Nat),h.IsRevIter p a ((its.size:Int) - 1)->h.IsList a its->(∀ b o,b≠S->s.heap.get? b=some o->h.get? b=some o)->
   h.get? S=some { cls:=.type "list",data:=.seq #[] c₁ }->QR (NC prog w) A (.builtin "list.extend.loop" ⟨[.ref S,.ref p,res],[]⟩) R { s with heap:=h,toks:=tk }:=by
  intro h c₁ tk hst hst2 hk hS₁
  refine codeAny_extend_loopS W.toS hn S hSf res its.size 0 _ #[] c₁ rfl (Ou _) ⟨Ou _,by simpa using hst,hst2⟩ hS₁ (ItemsOf.nil _) fun s' acc' c' hm hS' hacc=>?_
  rw [Moved.eq_with hm]
  refine hR s'.heap s'.toks acc' c' (fun b o hb hbp e=>hm.heap b o (fun hmem=>?_) (hk b o hb e)) hS' hacc
  rcases NN.mp hmem with e'|hmem
  ·exact hb e'
  ·exact hbp (Q6.mp hmem)
 unfold O0
 refine Nm (wpAny_typeOf (T:="list_reverseiterator") hit.typeIs ?_)
 have h1:Rg (.ref S) (.ref p)=false:=by simp [Rg,hSr]
 have h2:(Pw "list_reverseiterator" == Pw "list")=false:=by decide +kernel
 have h3:(Pw "list_reverseiterator" == Pw "tuple")=false:=by decide +kernel
 simp only [h1,h2,h3,Uq,M8,if_false]
 refine Nm (wpAny_pyIter_revIter hit ?_)
 refine Nm (Pe (IH hit.typeIs ?_))
 refine PC (fun hab=>absurd hab (by decide +kernel)) (fun _=>NO ⟨plainId_quiet PySem.F.plain_extend_loop _,?_⟩)
 exact key _ c₀ s.toks hit hl (fun b o _ e=>e) hS
theorem IJ {R:Um->M4->Prop}(hh:A.handled=none)(hit:s.heap.IsRevIter p a ((its.size:Int) - 1))(hl:s.heap.IsList a its)(hap:a≠p)(S:Addr)(hSr:S≠p)(hSd:S≠a)(hS:s.heap.get? S=some { cls:=.type "list",data:=.seq #[] })
  (hR:∀ h' tk acc' c',(∀ b o,b≠S->b≠p->s.heap.get? b=some o->h'.get? b=some o)->h'.get? S=some { cls:=.type "list",dict:=none,data:=.seq acc' c',slots:=#[] }->ItemsOf (fun i v=>its[its.size - 1 - i]? = some v) acc' its.size->R (.ok (.ret .none)) { s with heap:=h',toks:=tk }) (hn:its.size<=Nd) :
  NI (NC prog w) A.in1 (Builtin.«list.__init__» ⟨[.ref S,.ref p],[]⟩)
   (fun aM s'=>match aM with|.done f=>R (.ok f) s'|.again c'=>c'.quiet=true/\QR (NC prog w) A c' R s') (fun e s'=>R (.error e) s') s:=by
 show NI _ _ (do let old <- Rv (.ref S);Ve (.ref S) (fun _=>#[]);letGo old.toList.reverse;O0 (.ref S) (.ref p) .none) _ _ s
 refine Nm ?_
 unfold Rv
 refine Nm (wpAny_seqItems hS rfl (NO ?_))
 show NI _ _ (updateSeq S (fun _=>#[]) >>= fun _=>letGo (#[]:Array M0).toList.reverse >>= fun _=>O0 (.ref S) (.ref p) .none) _ _ s
 refine Nm (wpAny_updateSeq hS rfl ?_)
 have hS₂:=SA (Of (fun _=>(#[]:Array M0))) hS rfl
 have oth:∀ b o,b≠S->s.heap.get? b=some o->(s.heap.update S (Of (fun _=>(#[]:Array M0)))).get? b=some o:=
  fun b o hb e=>(O2 _ _ (OU hb)).trans e
 refine Nm (wpAny_letGo ?_)
 refine II hh (hit.at fun o e=>oth p o (OU hSr) e) (let ⟨o,ho,x⟩:=hl;⟨o,oth a o (OU hSd) ho,x⟩) hap S hSr hSd .none _ hS₂ (fun h' tk acc' c' hk hS' hacc=>?_) hn
 exact hR h' tk acc' c' (fun b o hb hb2 e=>hk b o hb hb2 (oth b o hb e)) hS' hacc
theorem IK {Q:M0->M4->Prop}(hh:A.handled=none)(hit:s.heap.IsRevIter p a ((its.size:Int) - 1))(hl:s.heap.IsList a its)(hap:a≠p)(hn:its.size<=Nd)
  (hQ:∀ h' tk acc' c',(∀ b o,b≠p->s.heap.get? b=some o->h'.get? b=some o)->h'.get? s.heap.objs.size=some { cls:=.type "list",dict:=none,data:=.seq acc' c',slots:=#[] }->ItemsOf (fun i v=>its[its.size - 1 - i]? = some v) acc' its.size->Q (.ref s.heap.objs.size) { s with heap:=h',toks:=tk }) :
  NI (NC prog w) A (call (.type "list") [.ref p]) Q E s:=by
 refine callType_codes (Q₁:=fun obj s₁=>obj=.ref s.heap.objs.size/\s₁ = { s with heap:=s.heap.push { cls:=.type "list",data:=.seq #[] } }) PySem.F.called_list (PySem.F.typeCall_list_1 _) PySem.F.entry_list_init
  (code_list_new _ ⟨rfl,rfl⟩) fun obj s₁ h₁=>?_
 obtain ⟨rfl,rfl⟩:=h₁
 have hS:(s.heap.push { cls:=.type "list",data:=.seq #[] }).get? s.heap.objs.size=some { cls:=.type "list",data:=.seq #[] }:=Nu _ rfl
 have hp:p<s.heap.objs.size:=let ⟨o,ho,_⟩:=hit;Nc ho
 have ha:a<s.heap.objs.size:=let ⟨o,ho,_⟩:=hl;Nc ho
 refine ⟨⟨_,hS,rfl⟩,PySem.F.args_list_init_2 _ _,IJ (A:=A.in1) hh (hit.at fun o e=>M6 _ e) (let ⟨o,ho,x⟩:=hl;⟨o,M6 _ ho,x⟩) hap _ (Qx hp) (Qx ha) hS (fun h' tk acc' c' hk hS' hacc=>?_) hn⟩
 exact ⟨rfl,hQ h' tk acc' c' (fun b o hb e=>hk b o (Nr (Nc e)) hb (M6 _ e)) hS' hacc⟩
end
noncomputable def yW (K:MX):List V->Hp->VK->Prop:=fun xs H Q=>∃ (p:Addr)(ys:List V),xs=[.ref p]/\SqL K H p ys/\∀ l,H l=none->Q (.ref l) (aV H l (.lst ys.reverse))
theorem yX:∀ {ys:List V}{its:List M0},Vals ys its->Vals ys.reverse its.reverse
 | _,_,.nil=>.nil
 | _,_,.cons h t=>by
  rw [N2,N2]
  exact (yX t).append (.cons h .nil)
theorem IL {X:Cx}{e:M5}{t:TA}{p p2 pos pos2:Om}(hc:X.calm=true)(hg:Gl X "list") (hm:X.mg "list" = none) (hg2:Gl X "reversed") (hm2:X.mg "reversed" = none) (ha:PA X [e] t)(hs:NL [e] X.env=(false,eval e X.env)::NL [] X.env) :
  PE X (.Call (.Name "list" p) [.Call (.Name "reversed" p2) [e] [] pos2] [] pos) (nI (yW X.K) t):=by
 intro Vq s σ H Q I h
 refine Pb (iX I hg hm QD ?_ (by decide) (by decide))
 refine OZ ?_ rfl rfl
 show NI _ _ (spliced ((false,eval (.Call (.Name "reversed" p2) [e] [] pos2) X.env)::Pk pos (NL [] X.env))) _ _ s
 refine SX (Pb (iX I hg2 hm2 Tq ?_ (by decide) (by decide)))
 refine OZ (aT (ha pos2 Vq s σ H _ I h) fun us s1 ⟨vs,H1,I1,r1,q1⟩=>?_) hs rfl
 obtain ⟨q,ys,rfl,hq,k⟩:=q1
 obtain ⟨u,rfl,ru⟩:=eS r1
 cases ru
 obtain ⟨its,r',pl,hz⟩:=I1.list hq
 have hlen:=r'.length
 have hl:=pl.isList
 have hq1:q<s1.heap.objs.size:=let ⟨o,ho,_⟩:=hl;Nc ho
 refine call_reversed_list hl ?_
 refine S9 ?_
 refine IK (I1.ok.hd hc) (p:=s1.heap.objs.size) (a:=q) (its:=its.toArray) ⟨_,Nu _ rfl,rfl,rfl⟩ (let ⟨o,ho,x⟩:=hl;⟨o,M6 _ ho,x⟩) (Nr hq1) (by simp only [Nl]<;>omega) fun h' tk acc' c' kp hS hacc=>?_
 have hac:acc'.toList=its.reverse:=by
  refine Rb fun i=>?_
  have hn:acc'.size=its.length:=by simpa using hacc.1
  by_cases hi:i<its.length
  ·have h1:=hacc.2 i acc'[i] (Pp (by omega))
   rw [O8,Pp (by omega),<- h1,Sx hi,Nl,List.getElem?_toArray]
  ·rw [N1 (by rw [Qb];omega),N1 (by rw [OC];omega)]
 have hsz:(s1.heap.push (revObj q ((its.toArray.size:Int) - 1))).objs.size=s1.heap.objs.size+1:=by simp [Heap.push]
 rw [hsz] at hS ⊢
 refine ⟨.ref (s1.heap.objs.size+1),_,I1.laid (t':=tk) (a:=s1.heap.objs.size+1) (o:=.lst ys.reverse) (fun b o e=>kp b o (Nr (Nc e)) (M6 _ e)) (by omega) ⟨by rw [OC];exact hz,its.reverse,c',yX r',by rw [<- hac];simpa using hS⟩,rfl,k _ (I1.hok.fresh (by omega))⟩
noncomputable def iB:MF:=fun ds μ=>match ds with
 | [.loc a]=>match μ[a]? with
  | some (.lst xs)=>some (.loc μ.length,μ++[.lst xs.reverse])
  | _=>none
 | _=>none
theorem IM {K:MX}:cE K iB (yW K):=by
 intro π H μ xs d μ' vs Q R i hm k
 unfold iB at hm
 split at hm
 ·rename_i a
  split at hm
  ·rename_i ys hy
   cases hm
   cases i with
   | cons i t=>
    cases t
    cases i
    obtain ⟨ws,h1,h2⟩:=R.lst a ys hy
    refine ⟨_,ws,rfl,.of h1,fun l hl=>?_⟩
    obtain ⟨e2,R2,_⟩:=R.alloc (c:=.lst ys.reverse) (o:=.lst ws.reverse) hl (Hs h2)
    exact k _ _ _ e2 R2 iJ
  ·cases hm
 ·cases hm
theorem IP {X:Cx}{e:M5}{ms:MA}{n:Nat}{p p2 pos pos2:Om}(hc:X.calm=true)(hm1:X.mg "list" = none) (hm2:X.mg "reversed" = none) (ha:QA X [e] ms n)(hg1:Gl X "list") (hg2:Gl X "reversed") :
  QE X (.Call (.Name "list" p) [.Call (.Name "reversed" p2) [e] [] pos2] [] pos) (aG iB ms):=by
 have hs:=ha.s
 rw [NQ,Nb] at hs
 exact ⟨cJ (IL hc hg1 hm1 hg2 hm2 ha.h (gD hs.1)) (qO IM)⟩
end L3
namespace L3
open PySem L2
noncomputable def dZ (is:List Int):Int:=is.getD (argBest (fun i j=>decide (is.getD i 0>is.getD j 0)) (is.length - 1)) 0
noncomputable def oM:MF:=fun ds μ=>match ds with
 | [x]=>(dC μ x).bind fun xs=>(hV xs).bind fun is=>if 0<is.length then some (.int (dZ is),μ) else none
 | _=>none
noncomputable def rS (K:MX):List V->Hp->VK->Prop:=fun xs H Q=>∃ (p:Addr)(is:List Int),xs=[.ref p]/\SqL K H p (is.map V.int)/\0<is.length/\Q (.int (dZ is)) H
theorem IQ {X:Cx}(hc:X.calm=true):CallR X (.builtin "max") (rS X.K):=by
 intro Vq s σ H xs us Q I r h
 obtain ⟨p,is,rfl,hq,h0,q⟩:=h
 obtain ⟨u,rfl,ru⟩:=eS r
 cases ru
 have hh:X.A.in1.handled=none:=I.ok.hd hc
 obtain ⟨its,rv,pl,hz⟩:=I.list hq
 have hlen:its.toArray.size=is.length:=by rw [Nl,<- rv.length,MZ]
 refine call_max_walkS (Pm pl.isList ?_)
 have hne:p≠s.heap.objs.size:=by
  obtain ⟨o,ho,_⟩:=pl.isList
  exact Nr (Nc ho)
 refine ⟨s.heap.objs.size,_,_,_,_,_,_,_,rfl,(RJ hh _ p hne its.toArray).toS,⟨⟨_,Nu _ rfl,rfl,rfl⟩,pl.isList.push _⟩,?_,by omega,CmpOf.ints_gt (fun i=>is.getD i 0) (fun i v hv=>k4 rv hv),fun v s' hv m=>?_⟩
 ·intro b hb
  show b<(s.heap.push _).objs.size
  rw [QN]
  obtain ⟨o,ho,_⟩:=pl.isList
  have hp:=Nc ho
  simp only [NN,Oo,or_false] at hb
  rcases hb with rfl|rfl
  ·exact OI _
  ·exact PD hp
 ·refine ⟨.int (dZ is),H,oH I m (fun b o e=>M6 _ e) (fun b hb=>?_) ⟨rfl,rfl,rfl⟩,?_,q⟩
  ·have e:b=s.heap.objs.size:=by simpa using hb
   exact PF e.symm
  ·obtain ⟨t,rfl⟩:=k4 rv hv
   refine ⟨t,?_⟩
   rw [hlen];rfl
theorem IS {K:MX}:cE K oM (rS K):=by
 intro π H μ xs d μ' vs Q R i hm k
 unfold oM at hm
 split at hm
 ·obtain ⟨ys,h1,hm⟩:=MW.mp hm
  obtain ⟨is,h2,hm⟩:=MW.mp hm
  split at hm
  ·rename_i h0
   cases hm
   cases i with
   | cons i t=>
    cases t
    obtain ⟨p,ws,rfl,q,hd⟩:=iO R i h1
    rw [mG h2] at hd
    have:=ints_of' hd
    subst this
    exact ⟨p,is,rfl,q,h0,k π _ H .refl R (.int _)⟩
  ·cases hm
 ·cases hm
noncomputable def fQ:MF:=fun ds μ=>match ds with
 | [x]=>oM [x] μ
 | _=>oJ ds μ
theorem IT {K:MX}{r2:List V->Hp->VK->Prop}(h2:cE K oJ r2):cE K fQ (fun xs H Q=>rS K xs H Q\/r2 xs H Q):=by
 intro π H μ xs d μ' vs Q R i hm k
 unfold fQ at hm
 split at hm
 ·exact .inl (IS π H μ _ d μ' vs Q R i hm k)
 ·exact .inr (h2 π H μ _ d μ' vs Q R i hm k)
noncomputable def cW (is:List Int):Int:=is.getD (argBest (fun i j=>decide (is.getD i 0<is.getD j 0)) (is.length - 1)) 0
noncomputable def oN:MF:=fun ds μ=>match ds with
 | [x]=>(dC μ x).bind fun xs=>(hV xs).bind fun is=>if 0<is.length then some (.int (cW is),μ) else none
 | _=>none
noncomputable def rV (K:MX):List V->Hp->VK->Prop:=fun xs H Q=>∃ (p:Addr)(is:List Int),xs=[.ref p]/\SqL K H p (is.map V.int)/\0<is.length/\Q (.int (cW is)) H
theorem IU {X:Cx}(hc:X.calm=true):CallR X (.builtin "min") (rV X.K):=by
 intro Vq s σ H xs us Q I r h
 obtain ⟨p,is,rfl,hq,h0,q⟩:=h
 obtain ⟨u,rfl,ru⟩:=eS r
 cases ru
 have hh:X.A.in1.handled=none:=I.ok.hd hc
 obtain ⟨its,rv,pl,hz⟩:=I.list hq
 have hlen:its.toArray.size=is.length:=by rw [Nl,<- rv.length,MZ]
 refine call_min_walkS (Pm pl.isList ?_)
 have hne:p≠s.heap.objs.size:=by
  obtain ⟨o,ho,_⟩:=pl.isList
  exact Nr (Nc ho)
 refine ⟨s.heap.objs.size,_,_,_,_,_,_,_,rfl,(RJ hh _ p hne its.toArray).toS,⟨⟨_,Nu _ rfl,rfl,rfl⟩,pl.isList.push _⟩,?_,by omega,CmpOf.ints_lt (fun i=>is.getD i 0) (fun i v hv=>k4 rv hv),fun v s' hv m=>?_⟩
 ·intro b hb
  show b<(s.heap.push _).objs.size
  rw [QN]
  obtain ⟨o,ho,_⟩:=pl.isList
  have hp:=Nc ho
  simp only [NN,Oo,or_false] at hb
  rcases hb with rfl|rfl
  ·exact OI _
  ·exact PD hp
 ·refine ⟨.int (cW is),H,oH I m (fun b o e=>M6 _ e) (fun b hb=>?_) ⟨rfl,rfl,rfl⟩,?_,q⟩
  ·have e:b=s.heap.objs.size:=by simpa using hb
   exact PF e.symm
  ·obtain ⟨t,rfl⟩:=k4 rv hv
   refine ⟨t,?_⟩
   rw [hlen];rfl
theorem IV {K:MX}:cE K oN (rV K):=by
 intro π H μ xs d μ' vs Q R i hm k
 unfold oN at hm
 split at hm
 ·obtain ⟨ys,h1,hm⟩:=MW.mp hm
  obtain ⟨is,h2,hm⟩:=MW.mp hm
  split at hm
  ·rename_i h0
   cases hm
   cases i with
   | cons i t=>
    cases t
    obtain ⟨p,ws,rfl,q,hd⟩:=iO R i h1
    rw [mG h2] at hd
    have:=ints_of' hd
    subst this
    exact ⟨p,is,rfl,q,h0,k π _ H .refl R (.int _)⟩
  ·cases hm
 ·cases hm
noncomputable def dP:MF:=fun ds μ=>match ds with
 | [x]=>oN [x] μ
 | _=>oI ds μ
theorem IW {K:MX}{r2:List V->Hp->VK->Prop}(h2:cE K oI r2):cE K dP (fun xs H Q=>rV K xs H Q\/r2 xs H Q):=by
 intro π H μ xs d μ' vs Q R i hm k
 unfold dP at hm
 split at hm
 ·exact .inl (IV π H μ _ d μ' vs Q R i hm k)
 ·exact .inr (h2 π H μ _ d μ' vs Q R i hm k)
end L3
namespace L3
open PySem L2
end L3
namespace L3
open PySem L2
end L3
namespace L3
open PySem L2
end L3
namespace L3
open PySem L2
end L3
namespace L3
open PySem L2
end L3
namespace L3
open PySem L2
structure Sig where
 fn:List (Str×Nat)
 con:List (Str×D)
 tab:List (Str×List (aF×D))
 no:List Str
 dIt:List Str
 dEq:List Str
 dMe:List Str
structure Cs where
 N:List Str
 ks:List (Str×OW)
noncomputable def jK (x:Str):List Str->Option Nat
 | []=>none
 | y::r=>if x=y then some 0 else (jK x r).map (·+1)
theorem mM {x:Str}:∀ {N:List Str}{i:Nat},jK x N=some i->N[i]? = some x
 | [],_,h=>by cases h
 | y::r,i,h=>by
  unfold jK at h
  split at h
  ·rename_i e;cases h;subst e;rfl
  ·obtain ⟨j,h1,h2⟩:=M3.mp h
   subst h2
   have:=mM h1
   simpa using this
noncomputable def glob (c:Cs)(x:Str):Bool:=decide (c.ks.lookup x=some .globalImplicit)&&!(x == ("__debug__":Str))
noncomputable def i7 (c:Cs)(x:Str):Bool:=(decide (c.ks.lookup x=some .local)||decide (c.ks.lookup x=some .cell)||decide (c.ks.lookup x=some .free))&&!(x == ("__debug__":Str))&&!(x == ("__classdict__":Str))
noncomputable def jL (c:Cs)(x:Str):Bool:=decide (c.ks.lookup x=some .local)||decide (c.ks.lookup x=some .cell)
noncomputable def rW (x:Str):Option String:=
 if x = "int" then some "int" else if x = "bool" then some "bool" else if x = "str" then some "str" else if x = "list" then some "list" else if x = "tuple" then some "tuple" else if x = "dict" then some "dict" else none
theorem IX {x:Str}{n:String}(h:rW x=some n):N7 x=some (.type n)/\x ≠ "__name__":=by
 unfold rW at h
 split at h
 ·rename_i e;subst e;cases h;exact ⟨Tv,by decide⟩
 split at h
 ·rename_i e;subst e;cases h;exact ⟨Tx,by decide⟩
 split at h
 ·rename_i e;subst e;cases h;exact ⟨To,by decide⟩
 split at h
 ·rename_i e;subst e;cases h;exact ⟨QD,by decide⟩
 split at h
 ·rename_i e;subst e;cases h;exact ⟨Tj,by decide⟩
 split at h
 ·rename_i e;subst e;cases h;exact ⟨Tw,by decide⟩
 ·cases h
noncomputable def rX (S:Sig)(c:Cs)(x:Str):ME:=
 if i7 c x=true then (match jK x c.N with|some i=>aB i|none=>bT)
 else if glob c x=true then (match S.con.lookup x with
  | some d=>mC d
  | none=>if S.no.contains x=true then (match rW x with|some n=>mC (.ty n)|none=>bT) else bT)
 else bT
noncomputable def fR (r:M5->ME):List M5->MA
 | []=>aD
 | e::es=>aC (r e) (fR r es)
noncomputable def oO (op:BoolOp):List ME->ME
 | []=>bT
 | [m]=>m
 | m::r=>match op with
  | .And=>fM m (oO op r)
  | .Or=>qN m (oO op r)
noncomputable def oP (op:BoolOp):List MT->MT
 | []=>kQ
 | [m]=>m
 | m::r=>match op with
  | .And=>eV m (oP op r)
  | .Or=>fL m (oP op r)
noncomputable def yY (op:Sr)(a b:ME):ME:=match op with
 | .Add=>aA aL a b
 | .Sub=>aA bZ a b
 | .Mult=>aA bG a b
 | .FloorDiv=>aA cV a b
 | .Mod=>aA bH a b
 | .Pow=>aA bN a b
 | _=>bT
noncomputable def oQ (op:Rt)(ns:Bool)(a b:ME):ME:=match op with
 | .Eq=>aA (bE false) a b
 | .NotEq=>aA (bE true) a b
 | .Lt=>aA dH a b
 | .LtE=>aA kE a b
 | .Gt=>aA gU a b
 | .GtE=>aA jA a b
 | .Is=>aA (dE false) a b
 | .IsNot=>aA (dE true) a b
 | _=>bT
noncomputable def rY (r:M5->ME):List (Option M5)->List M5->Option (List (ME×ME))
 | [],[]=>some []
 | some k::ks,v::vs=>(rY r ks vs).map fun t=>(r k,r v)::t
 | _,_=>none
noncomputable def lB (r:M5->ME):Option M5->MO
 | none=>cK
 | some e=>b6 (r e)
noncomputable def cL:MF:=fun ds μ=>match ds with
 | [.loc a]=>match μ[a]? with
  | some (.lst xs)=>some (.int xs.length,μ)
  | some (.dK kvs)=>some (.int kvs.length,μ)
  | some (.st ks)=>some (.int ks.length,μ)
  | _=>none
 | _=>l9 ds μ
noncomputable def rZ (x:Str):Option MF:=
 if x = "len" then some cL
 else if x = "isinstance" then some iL
 else if x = "all" then some oB
 else if x = "sorted" then some jJ
 else if x = "sum" then some iA
 else if x = "min" then some dP else if x = "max" then some fQ
 else none
noncomputable def IY (K:MX):List V->Hp->VK->Prop:=fun xs H Q=>rA K xs H Q\/(∃ a kvs,xs=[V.ref a]/\H a=some (.dK kvs)/\Q (.int kvs.length) H)\/∃ a L,xs=[V.ref a]/\H a=some (nN a L)/\Q (.int L.length) H
theorem IZ {K:MX}:cE K cL (IY K):=by
 intro π H μ xs d μ' vs Q R i hm k
 unfold cL at hm
 split at hm
 ·rename_i a
  split at hm
  ·rename_i ys hy
   refine .inl (xM π H μ _ d μ' vs Q R i ?_ k)
   simp only [l9,bD,hy]
   exact hm
  ·rename_i kvs hy
   cases hm
   cases i with
   | cons i t=>
    cases t
    cases i
    obtain ⟨ws,h1,h2,_⟩:=R.dK a kvs hy
    refine .inr (.inl ⟨_,ws,rfl,h1,?_⟩)
    have:=congrArg Ph h2
    rw [MZ,MZ] at this
    rw [this]
    exact k π _ H .refl R (.int _)
  ·rename_i ks hy
   cases hm
   cases i with
   | cons i t=>
    cases t
    cases i
    obtain ⟨L,h1,h2,_⟩:=R.st a ks hy
    have:=congrArg Ph h2
    rw [MZ] at this
    refine .inr (.inr ⟨_,L,rfl,h1,?_⟩)
    rw [this]
    exact k π _ H .refl R (.int _)
  ·cases hm
 ·exact .inl (xM π H μ _ d μ' vs Q R i hm k)
theorem I0 {X:Cx}{x:Str}{f:MF}(hcalm:X.calm=true)(hun:X.A.units+64<PU)(h:rZ x=some f):∃ v r,N7 x=some v/\((∃ id,v=.builtin id)\/∃ T,v=.type T)/\CallR X v r/\cE X.K f r/\x ≠ "__name__":=by
 unfold rZ at h
 split at h
 ·rename_i e;subst e;cases h;exact ⟨_,_,Tt,.inl ⟨_,rfl⟩,call_lenM.or (call_lenD.or HD),IZ,by decide⟩
 split at h
 ·rename_i e;subst e;cases h;exact ⟨_,_,Tu,.inl ⟨_,rfl⟩,FE,FD,by decide⟩
 split at h
 ·rename_i e;subst e;cases h;exact ⟨_,_,Tz,.inl ⟨_,rfl⟩,HA hcalm,Hz rfl,by decide⟩
 split at h
 ·rename_i e;subst e;cases h;exact ⟨_,_,Tp,.inl ⟨_,rfl⟩,call_sortI.or HL,IE,by decide⟩
 split at h
 ·rename_i e;subst e;cases h;exact ⟨_,_,Tn,.inl ⟨_,rfl⟩,HS hcalm,HR,by decide⟩
 split at h
 ·rename_i e;subst e;cases h;exact ⟨_,_,Tr,.inl ⟨_,rfl⟩,(IU hcalm).or (CW hcalm),IW HU,by decide⟩
 split at h
 ·rename_i e;subst e;cases h;exact ⟨_,_,Ts,.inl ⟨_,rfl⟩,(IQ hcalm).or (CV hcalm),IT HV,by decide⟩
 ·cases h
noncomputable def r6 (x:Str):Option MF:=
 rZ x
theorem Ja {X:Cx}{x:Str}{f:MF}(hcalm:X.calm=true)(hun:X.A.units+64<PU)(h:r6 x=some f):∃ v r,N7 x=some v/\((∃ id,v=.builtin id)\/∃ T,v=.type T)/\CallR X v r/\cE X.K f r/\x ≠ "__name__":=by
 unfold r6 at h
 exact I0 hcalm hun h
noncomputable def yZ (m:Str)(n:Nat):Option (D->List D->Hm->Option (D×Hm)):=
 if n=1 then (if m = "append" then some kU
  else none)
 else none
noncomputable def r8 (S:Sig)(F:Str->MF)(r:M5->ME)(c:Cs)(f:M5)(args:List M5)(cpos:Om):ME:=match f with
 | .Name x _=>if glob c x&&args.all c8 then (match S.fn.lookup x with
   | some n=>if args.length=n then aG (F x) (fR r args) else bT
   | none=>if S.no.contains x&&!args.isEmpty then (match r6 x with|some g=>aG g (fR r args)|none=>bT) else bT)
  else bT
 | .Attribute o m apos=>if n9 o&&(apos.endLine == cpos.line)&&args.all c8 then (
   match yZ m args.length with
   | some g=>kS g (r o) (fR r args)
   | none=>
    if m = "join" then (match args with|[b]=>k9 jI (r o) (fR r [b])|_=>bT) else
    bT)
  else bT
 | _=>bT
noncomputable def r9:M5->Option (M5×List M5)
 | .Call f as [] _=>some (f,as)
 | _=>none
theorem Jb {e f:M5}{as:List M5}(h:r9 e=some (f,as)):∃ pos,e=.Call f as [] pos:=by
 unfold r9 at h
 split at h
 ·cases h;exact ⟨_,rfl⟩
 ·cases h
noncomputable def oR:M5->Option Str
 | .Name x _=>some x
 | _=>none
theorem y2 {e:M5}{x:Str}(h:oR e=some x):∃ p,e=.Name x p:=by
 unfold oR at h
 split at h
 ·cases h;exact ⟨_,rfl⟩
 ·cases h
noncomputable def o1:List M5->Option M5
 | [e]=>some e
 | _=>none
theorem y3 {l:List M5}{e:M5}(h:o1 l=some e):l=[e]:=by
 unfold o1 at h
 split at h
 ·cases h;rfl
 ·cases h
noncomputable def y4 (f:M5)(args:List M5):Option (Str×Str×M5):=(oR f).bind fun x=>(o1 args).bind fun a=>(r9 a).bind fun g=>(oR g.1).bind fun y=>(o1 g.2).map fun e=>(x,y,e)
theorem Jc {f:M5}{args:List M5}{x y:Str}{e:M5}(h:y4 f args=some (x,y,e)):∃ p p2 pos,f=.Name x p/\args=[.Call (.Name y p2) [e] [] pos]:=by
 obtain ⟨x',h1,h⟩:=MW.mp h
 obtain ⟨a,h2,h⟩:=MW.mp h
 obtain ⟨g,h3,h⟩:=MW.mp h
 obtain ⟨y',h4,h⟩:=MW.mp h
 obtain ⟨e',h5,h⟩:=M3.mp h
 cases h
 obtain ⟨p,rfl⟩:=y2 h1
 obtain ⟨pos,rfl⟩:=Jb h3
 obtain ⟨p2,h4⟩:=y2 h4
 exact ⟨p,p2,pos,rfl,by rw [y3 h2,h4,y3 h5]⟩
noncomputable def Jd (f:M5)(args:List M5):Option (Bool×M5):=(y4 f args).bind fun t=>
 if t.1 = "list"/\t.2.1 = "reversed" then some (true,t.2.2) else
 none
noncomputable def y6:Bool->Str
 | false=>"range"
 | true=>"reversed"
noncomputable def lstM:Bool->MF
 | true=>iB
 | false=>iB
noncomputable def sA (S:Sig)(F:Str->MF)(r:M5->ME)(c:Cs)(f:M5)(args:List M5)(cpos:Om):ME:=
 match Jd f args with
 | some (b,e)=>if glob c "list" && glob c (y6 b)&&S.no.contains "list" && S.no.contains (y6 b)&&c8 e then aG (lstM b) (fR r [e]) else bT
 | none=>r8 S F r c f args cpos
noncomputable def sC (S:Sig)(F:Str->MF)(r:M5->ME)(c:Cs)(f:M5)(args:List M5)(cpos:Om):ME:=
 sA S F r c f args cpos
noncomputable def mN (c:Cs)(scope:O3)(xs:List Str):Bool:=
 (scope.names.all fun y=>decide (y.2≠.cell))&&decide (scope.kind=.function)&&(scope.names.all fun y=>decide (y.2≠.local)||decide (scope.names.lookup y.1=some .local)) &&
 (xs.all fun x=>decide (scope.names.lookup x=some .local))&&decide xs.Nodup&&(scope.names.all fun y=>decide (y.2≠.free)||decide (c.ks.lookup y.1=some .cell)||decide (c.ks.lookup y.1=some .free)) &&
 (scope.names.all fun y=>decide (y.2≠.local)||!(a9 xs c.N).contains y.1)&&decide (a9 xs c.N).Nodup&&(c.N.all fun y=>!xs.contains y||decide (scope.names.lookup (kH y)=none))
noncomputable def mO (c:Cs)(scope:O3)(xs:List Str):Cs:=
 ⟨a9 xs c.N++xs,scope.names.map fun (n,k)=>if (k == OA&&c.ks.lookup n == some .cell) then (n,OL) else (n,k)⟩
noncomputable def y8 (r:M5->MT):List M5->MT
 | []=>dB
 | [t]=>r t
 | _=>kQ
noncomputable def sD (S:Sig)(c:Cs):M5->Option (List M5)
 | .Call (.Name x _) args [] _=>if x = "range" then (if glob c x&&S.no.contains x&&args.all c8 then some args else none) else none
 | _=>none
noncomputable def oS (S:Sig)(r:M5->ME)(c:Cs)(e:M5):MI:=match sD S c e with
 | some [a]=>dY (fR r [a])
 | some _=>xV
 | none=>dI (r e)
noncomputable def sE (S:Sig)(c:Cs):M5->Option M5
 | .Call (.Name x _) [a] [] _=>if x = "enumerate" then (if glob c x&&S.no.contains x&&c8 a then some a else none) else none
 | _=>none
noncomputable def sF (S:Sig)(r:M5->ME)(c:Cs)(e:M5):MI:=match sE S c e with
 | some a=>k6 (fR r [a])
 | none=>oS S r c e
noncomputable def sG (S:Sig)(r:M5->ME)(c:Cs)(e:M5):MI:=sF S r c e
noncomputable def sH:M5->Option (List Str)
 | .Name x _=>some [x]
 | .Tuple es _ _=>es.mapM fun e=>match e with|.Name x _=>some x|_=>none
 | _=>none
noncomputable def sI:M5->Nat->BD
 | .Tuple ..,n=>nV n
 | _,_=>l8
noncomputable def oT (S:Sig)(r:M5->ME)(c:Cs)(tg e:M5):MI:=match tg with
 | .Tuple ..=>sG S r c e
 | _=>oS S r c e
noncomputable def mP (mi:MI)(rE:Cs->M5->ME)(rT:Cs->M5->MT)(c:Cs)(elt tg iter:M5)(ifs:List M5)(scope:O3):ME:=match sH tg with
 | some xs=>if mN c scope xs&&gZ iter then e8 (sI tg xs.length) mi (y8 (rT (mO c scope xs)) ifs) (rE (mO c scope xs) elt) else bT
 | none=>bT
noncomputable def oU (S:Sig)(rE:Cs->M5->ME)(rT:Cs->M5->MT)(c:Cs)(elt tg iter:M5)(ifs:List M5)(scope:O3):ME:=
 mP (oT S (rE c) c tg iter) rE rT c elt tg iter ifs scope
noncomputable def y9:Const->ME
 | .int i=>mC (.int i)
 | .bool b=>mC (.bl b)
 | .str s=>mC (.str s)
 | .none=>mC .non
 | _=>bT
noncomputable def zA (m:ME):UnaryOp->ME
 | .USub=>kM m
 | .Not=>j7 m
 | _=>bT
noncomputable def sJ (S:Sig)(r:M5->ME)(a:M5):List Rt->List M5->ME
 | [op],[b]=>oQ op (gZ b) (r a) (r b)
 | _,_=>bT
noncomputable def sL (r:M5->ME)(keys:List (Option M5))(values:List M5):ME:=match rY r keys values with
 | some prs=>if !keys.isEmpty&&decide (keys.length<=15) then jE prs else bT
 | none=>bT
noncomputable def sM (r:M5->ME):List (Option M5)->List M5->ME
 | keys,values=>sL r keys values
noncomputable def sN (S:Sig)(r:M5->ME)(c:Cs)(a b:M5):ME:=match b with
 | .Slice lo hi none _=>cP (r a) (lB r lo) (lB r hi)
 | .Slice lo hi (some st) _=>k5 (r a) (lB r lo) (lB r hi) (lB r (some st))
 | b=>if kP b then aA aI (r a) (r b) else bT
noncomputable def sO (r:M5->ME)(es:List M5):ME:=if es.all c8 then iI (fR r es) else bT
noncomputable def sP (r:M5->ME)(es:List M5):ME:=if es.all c8 then bY (fR r es) else bT
noncomputable def sQ (S:Sig)(F:Str->MF)(r:M5->ME)(c:Cs)(f:M5)(args:List M5)(cpos:Om):List PZ->ME
 | []=>sC S F r c f args cpos
 | _=>bT
noncomputable def sR (S:Sig)(rE:Cs->M5->ME)(rT:Cs->M5->MT)(c:Cs)(elt:M5)(scope:O3):List Comprehension->ME
 | [⟨tg,iter,ifs,0⟩]=>oU S rE rT c elt tg iter ifs scope
 | _=>bT
noncomputable def zB (S:Sig)(F:Str->MF)(rE:Cs->M5->ME)(rT:Cs->M5->MT)(c:Cs):M5->ME
 | .Name x _=>rX S c x
 | .Constant v _ _=>y9 v
 | .BinOp a op b _=>yY op (rE c a) (rE c b)
 | .UnaryOp op a _=>zA (rE c a) op
 | .Compare a ops bs _=>sJ S (rE c) a ops bs
 | .BoolOp op vs _=>oO op (vs.map (rE c))
 | .IfExp t a b _=>j8 (rT c t) (rE c a) (rE c b)
 | .Tuple es _ _=>sO (rE c) es
 | .List es _=>sP (rE c) es
 | .Dict keys values _=>sM (rE c) keys values
 | .Subscript a b _=>sN S (rE c) c a b
 | .Call f args kws cpos=>sQ S F (rE c) c f args cpos kws
 | .ListComp elt gs scope _=>sR S rE rT c elt scope gs
 | _=>bT
noncomputable def mQ (r:M5->ME)(e:M5):MT:=if rD e then hW (r e) else kQ
noncomputable def sS (S:Sig)(r:M5->ME)(a:M5)(ops:List Rt)(bs:List M5)(p:Om):MT:=match ops,bs with
 | [op],[b]=>aU (oQ op (gZ b) (r a) (r b))
 | ops,bs=>mQ r (.Compare a ops bs p)
noncomputable def Je (r:M5->ME)(t:MT)(a:M5)(p:Om):UnaryOp->MT
 | .Not=>t
 | op=>mQ r (.UnaryOp op a p)
noncomputable def zC (S:Sig)(rE:Cs->M5->ME)(rT:Cs->M5->MT)(c:Cs):M5->MT
 | .BoolOp op vs _=>oP op (vs.map (rT c))
 | .UnaryOp op a p=>Je (rE c) (iH (rT c a)) a p op
 | .Compare a ops bs p=>sS S (rE c) a ops bs p
 | e=>mQ (rE c) e
noncomputable def tr (S:Sig)(F:Str->MF):Nat->(Cs->M5->ME)×(Cs->M5->MT)
 | 0=>(fun _ _=>bT,fun _ _=>kQ)
 | n+1=>(zB S F (tr S F n).1 (tr S F n).2,zC S (tr S F n).1 (tr S F n).2)
structure Okx (S:Sig)(F:Str->MF)(k:Nat)(c:Cs)(X:Cx):Prop where
 N:X.N=c.N
 nd:X.N.Nodup
 ks:X.env.scope.names=c.ks
 kind:X.env.scope.kind=.function
 calm:X.calm=true
 room:Room k X.A
 never:RU (NC X.prog X.w) X.A X.env X.xe
 fn:∀ x n,S.fn.lookup x=some n->∃ (f:Addr)(fd:OB)(ps:List Str),FnOk X.prog X.w X.K X.mg X.base dU k f fd ps (fY X.K n (F x))/\X.mg x=some (.ref f)/\Ob X.K (.ref f)=true/\Binds X.K fd ps []
 con:∀ x d,S.con.lookup x=some d->∃ v u,X.mg x=some u/\RelV v u/\∀ π n H,IsD X.K π n H v d
 tab:∀ x kvs,S.tab.lookup x=some kvs->TabOk X x kvs
 no:∀ x,S.no.contains x=true->X.mg x=none
section
variable {S:Sig}{F:Str->MF}{k:Nat}{c:Cs}{X:Cx}
theorem Okx.gl (O:Okx S F k c X){x:Str}(h:glob c x=true):Gl X x/\(x == ("__debug__":Str))=false:=by
 unfold glob at h
 rw [Nb] at h
 refine ⟨?_,by simpa using h.2⟩
 show X.env.scope.names.lookup x=_
 rw [O.ks]
 exact of_decide_eq_true h.1
theorem Okx.vis (O:Okx S F k c X){x:Str}(h:i7 c x=true):lS X.env.scope x/\(x == ("__debug__":Str))=false/\(x == ("__classdict__":Str))=false:=by
 unfold i7 at h
 rw [Nb,Nb,O6,O6] at h
 obtain ⟨⟨h1,h2⟩,h3⟩:=h
 refine ⟨?_,by simpa using h2,by simpa using h3⟩
 unfold lS
 rw [O.ks]
 rcases h1 with (h1|h1)|h1
 ·exact .inl (of_decide_eq_true h1)
 ·exact .inr (.inl (of_decide_eq_true h1))
 ·exact .inr (.inr (of_decide_eq_true h1))
theorem Jf (O:Okx S F k c X)(x:Str)(pos:Om):QE X (.Name x pos) (rX S c x):=by
 unfold rX
 split
 ·rename_i h
  obtain ⟨h1,h2,h3⟩:=O.vis h
  split
  ·rename_i i hi
   exact FN i (by rw [O.N];exact mM hi) h1 h2 h3
  ·exact bW
 split
 ·rename_i h
  obtain ⟨h1,h2⟩:=O.gl h
  split
  ·rename_i d hd
   obtain ⟨v,u,m,r,i⟩:=O.con x d hd
   exact ⟨j6 (BM h1 m r h2) i⟩
  ·split
   ·rename_i hn
    split
    ·rename_i n ht
     obtain ⟨b1,b2⟩:=IX ht
     exact Gw (O.no x hn) b1 h1 b2 h2
    ·exact bW
   ·exact bW
 ·exact bW
theorem iQ {r:M5->ME}(hr:∀ e,QE X e (r e)):∀ (es:List M5),es.all c8=true->QA X es (fR r es) es.length
 | [],_=>Gg
 | e::es,h=>by
  rw [NQ,Nb] at h
  exact Gh (hr e) (iQ hr es h.2) h.1
theorem zD {r:M5->ME}(hr:∀ e,QE X e (r e))(op:BoolOp)(pos:Om):∀ (vs:List M5),QE X (.BoolOp op vs pos) (oO op (vs.map r))
 | []=>bW
 | [e]=>Gb (hr e)
 | e::e2::es=>by
  have ih:=zD hr op pos (e2::es)
  cases op with
  | And=>exact Gd (hr e) ih
  | Or=>exact Ge (hr e) ih
theorem zE {r:M5->MT}(hr:∀ e,QT X e (r e))(op:BoolOp)(pos:Om):∀ (vs:List M5),QW X (.BoolOp op vs pos) (oP op (vs.map r))
 | []=>Hg
 | [e]=>by
  cases op with
  | And=>exact GK (hr e)
  | Or=>exact GL (hr e)
 | e::e2::es=>by
  have ih:=zE hr op pos (e2::es)
  cases op with
  | And=>exact GN (hr e) ih
  | Or=>exact GO (hr e) ih
theorem Jg {a b:M5}{ma mb:ME}(ha:QE X a ma)(hb:QE X b mb)(op:Sr)(pos:Om):QE X (.BinOp a op b pos) (yY op ma mb):=by
 cases op with
 | Add=>exact FU ha hb
 | Sub=>exact FV ha hb
 | Mult=>exact FW ha hb
 | FloorDiv=>exact FX ha hb
 | Mod=>exact FY ha hb
 | Pow=>exact FZ ha hb
 | _=>exact bW
theorem Jh (O:Okx S F k c X){a b:M5}{ma mb:ME}(ha:QE X a ma)(hb:QE X b mb)(op:Rt)(pos:Om):QE X (.Compare a [op] [b] pos) (oQ op (gZ b) ma mb):=by
 cases op with
 | Eq=>exact F5 O.room ha hb
 | NotEq=>exact F6 O.room ha hb
 | Lt=>exact F7 ha hb
 | LtE=>exact F8 ha hb
 | Gt=>exact F9 ha hb
 | GtE=>exact Ga ha hb
 | Is=>exact HM ha hb
 | IsNot=>exact HN ha hb
 | _=>exact bW
theorem Ji {e:M5}:QT X e (aU bT):=⟨fun Vq s σ H Q I h=>by
 obtain ⟨π,ρ,μ,d,μ',R,E,hm,k⟩:=h
 cases hm⟩
theorem Jj (O:Okx S F k c X){a b:M5}{ma mb:ME}(ha:QE X a ma)(hb:QE X b mb)(op:Rt)(pos:Om):QT X (.Compare a [op] [b] pos) (aU (oQ op (gZ b) ma mb)):=by
 cases op with
 | Eq=>exact GB O.room ha hb
 | NotEq=>exact GC O.room ha hb
 | Lt=>exact GD ha hb
 | LtE=>exact GF ha hb
 | Gt=>exact GG ha hb
 | GtE=>exact GH ha hb
 | Is=>exact HP ha hb
 | IsNot=>exact HQ ha hb
 | _=>exact Ji
theorem zF {r:M5->ME}(hr:∀ e,QE X e (r e))(pos:Om):∀ (ks:List (Option M5))(vs:List M5)(prs:List (ME×ME)),rY r ks vs=some prs->QP X pos ks vs prs
 | [],[],prs,h=>by cases h;exact Gx
 | some k::ks,v::vs,prs,h=>by
  obtain ⟨t,h1,h2⟩:=M3.mp h
  subst h2
  exact Gy (hr k) (hr v) (zF hr pos ks vs t h1)
 | none::ks,vs,prs,h=>by cases vs<;>cases h
 | some k::ks,[],prs,h=>by cases h
 | [],v::vs,prs,h=>by cases h
theorem mR {r:M5->ME}(hr:∀ e,QE X e (r e)):∀ o:Option M5,QO X o (lB r o)
 | none=>Gp
 | some e=>Gq (hr e)
theorem Jk (O:Okx S F k c X){r:M5->ME}(hr:∀ e,QE X e (r e))(f:M5)(args:List M5)(cpos:Om):QE X (.Call f args [] cpos) (r8 S F r c f args cpos):=by
 unfold r8
 split
 ·rename_i x p
  split
  ·rename_i hg
   rw [Nb] at hg
   obtain ⟨g1,g2⟩:=O.gl hg.1
   have ha:=iQ hr args hg.2
   split
   ·rename_i n hn
    split
    ·rename_i hl
     obtain ⟨fa,fd,ps,FO,hm,hk,hb⟩:=O.fn x n hn
     subst hl
     cases args with
     | nil=>exact Hw FO O.room hm hk hb g1 g2
     | cons e es=>exact Gs FO O.room hm hk hb ha g1 g2
    ·exact bW
   ·split
    ·rename_i hno
     rw [Nb] at hno
     split
     ·rename_i g hb
      obtain ⟨v,rr,b1,b2,b3,b4,b5⟩:=Ja (X:=X) O.calm O.room.units hb
      cases args with
      | nil=>exact absurd hno.2 (by simp)
      | cons e es=>
       rcases b2 with ⟨id,rfl⟩|⟨T,rfl⟩
       ·exact Gu b3 b4 (O.no x hno.1) b1 ha g1 b5 g2
       ·exact Gv b3 b4 (O.no x hno.1) b1 ha g1 b5 g2
     ·exact bW
    ·exact bW
  ·exact bW
 ·rename_i o m apos
  split
  ·rename_i hg
   rw [Nb,Nb] at hg
   obtain ⟨⟨h1,h2⟩,h3⟩:=hg
   have ha:=iQ hr args h3
   split
   ·rename_i g hm
    unfold yZ at hm
    split at hm
    ·rename_i hl
     cases args with
     | nil=>cases hl
     | cons e es=>
      have hn:(e::es).length<30:=by rw [hl];decide
      split at hm
      ·rename_i e1;subst e1;cases hm
       exact Hr PySem.F.slot_list_append PySem.F.type_list_append wG Ht (hr o) ha h1 h2 hn
      ·cases hm
    ·cases hm
   ·skip
    split
    ·rename_i e1
     subst e1
     split
     ·exact Iy PySem.F.slot_str_join PySem.F.type_str_join IA Iz (hr o) ha h1 h2 (by show 1<30;decide)
     ·exact bW
    ·exact bW
  ·exact bW
 ·exact bW
theorem Jl (O:Okx S F k c X){r:M5->ME}(hr:∀ e,QE X e (r e))(f:M5)(args:List M5)(cpos:Om):QE X (.Call f args [] cpos) (sA S F r c f args cpos):=by
 unfold sA
 split
 ·rename_i b e h
  split
  ·rename_i hg
   rw [Nb,Nb,Nb,Nb] at hg
   obtain ⟨⟨⟨⟨g1,g2⟩,n1⟩,n2⟩,st⟩:=hg
   have ha:=iQ hr [e] (by rw [NQ,st];rfl)
   obtain ⟨t,h1,h2⟩:=MW.mp h
   obtain ⟨p,p2,pos,rfl,rfl⟩:=Jc h1
   split at h2
   ·rename_i hxy
    cases h2
    rw [hxy.1,hxy.2]
    exact IP O.calm (O.no _ n1) (O.no _ n2) ha (O.gl g1).1 (O.gl g2).1
   ·cases h2
  ·exact bW
 ·exact Jk O hr f args cpos
theorem oV (O:Okx S F k c X){scope:O3}{xs:List Str}(h:mN c scope xs=true):CompSt X.env.scope X.N scope xs/\xs.Nodup:=by
 unfold mN at h
 rw [Nb,Nb] at h
 obtain ⟨⟨h,h8⟩,h9⟩:=h
 have h8:=of_decide_eq_true h8
 have h9':∀ y∈c.N,xs.contains y=true->scope.names.lookup (kH y)=none:=fun y hy hc=>by
  have:=OH.mp h9 y hy
  rw [hc] at this
  simpa using this
 simp only [Nb,OH,decide_eq_true_eq,O6,TK,List.contains_eq_mem,decide_eq_false_iff_not] at h
 obtain ⟨⟨⟨⟨⟨⟨h1,h2⟩,h3⟩,h4⟩,h7⟩,h5⟩,h6⟩:=h
 refine ⟨⟨h1,h2,fun y hy hl=>(h3 y hy).resolve_left (fun z=>z hl),h4,fun y hy hf=>?_,fun y hy hl=>?_,O.nd,by rw [O.N];exact h8,by rw [O.N];exact h9'⟩,h7⟩
 ·rw [O.ks]
  rcases h5 y hy with (z|z)|z
  ·exact absurd hf z
  ·exact .inl z
  ·exact .inr z
 ·rw [O.N]
  have:=(h6 y hy).resolve_left (fun z=>z hl)
  exact this
theorem zG {N xs:List Str}(h:N.Nodup)(h2:xs.Nodup)(h3:∀ x∈xs,x∉N):(N++xs).Nodup:=by
 rw [TC]
 exact ⟨h,h2,fun a ha b hb e=>by subst e;exact h3 _ hb ha⟩
theorem Okx.comp (O:Okx S F k c X){scope:O3}{xs:List Str}(h:mN c scope xs=true){cl:List (Str×Addr)}{C:Addr}{s₀:M4}{H₀:Hp}{fp:List Addr}:Okx S F k (mO c scope xs) (b8 X scope cl C (a9 xs X.N++xs) s₀ H₀ fp):=by
 obtain ⟨St,hnd⟩:=oV O h
 refine ⟨show a9 xs X.N++xs=a9 xs c.N++xs by rw [O.N],?_,?_,?_,O.calm,O.room,SF,O.fn,O.con,fun y kvs q=>⟨(O.tab y kvs q).ex⟩,O.no⟩
 ·show (a9 xs X.N++xs).Nodup
  exact zG St.hnd hnd fun x hx=>St.own (x,.local) (NW (St.here x hx)) rfl
 ·show (Uv scope X.env).names=(mO c scope xs).ks
  unfold Uv mO
  dsimp only
  refine OX fun y _=>?_
  obtain ⟨n,kk⟩:=y
  dsimp only
  have:(X.env.scope.kind == ScopeKind.function)=true:=by rw [O.kind];rfl
  rw [this,Bool.and_true]
  show (if (kk == OA&&X.env.scope.names.lookup n == some OL)=true then _ else _)=_
  rw [O.ks]
 ·show (Uv scope X.env).kind=.function
  exact St.kind
theorem zH {r:M5->MT}(hr:∀ e,QT X e (r e)):∀ es:List M5,QI X es (y8 r es)
 | []=>GQ
 | [t]=>GR (hr t)
 | a::b::es=>⟨fun Vq s σ H Q I h=>by
   obtain ⟨π,ρ,μ,d,μ',R,E,hm,k⟩:=h
   cases hm⟩
theorem Jm (O:Okx S F k c X){e:M5}{args:List M5}(h:sD S c e=some args):∃ p pos,e=.Call (.Name "range" p) args [] pos/\Gl X "range"/\X.mg "range" = none/\args.all c8=true:=by
 unfold sD at h
 split at h
 ·split at h
  ·rename_i e1
   subst e1
   split at h
   ·rename_i hg
    cases h
    rw [Nb,Nb] at hg
    exact ⟨_,_,rfl,(O.gl hg.1.1).1,O.no _ hg.1.2,hg.2⟩
   ·cases h
  ·cases h
 ·cases h
theorem zI (O:Okx S F k c X){r:M5->ME}(hr:∀ e,QE X e (r e))(e:M5):QJ X e (oS S r c e):=by
 unfold oS
 split
 ·rename_i a h
  obtain ⟨p,pos,rfl,h1,h2,h3⟩:=Jm O h
  exact Ha h1 h2 (iQ hr [a] h3)
 ·exact G5
 ·exact G9 (hr e)
theorem Jn (O:Okx S F k c X){e a:M5}(h:sE S c e=some a):∃ p pos,e=.Call (.Name "enumerate" p) [a] [] pos/\Gl X "enumerate"/\X.mg "enumerate" = none/\c8 a=true:=by
 unfold sE at h
 split at h
 ·split at h
  ·rename_i e1
   subst e1
   split at h
   ·rename_i hg
    cases h
    rw [Nb,Nb] at hg
    exact ⟨_,_,rfl,(O.gl hg.1.1).1,O.no _ hg.1.2,hg.2⟩
   ·cases h
  ·cases h
 ·cases h
theorem Jo (O:Okx S F k c X){r:M5->ME}(hr:∀ e,QE X e (r e))(e:M5):QJT X e (sF S r c e):=by
 unfold sF
 split
 ·rename_i a h
  obtain ⟨p,pos,rfl,h1,h2,h3⟩:=Jn O h
  exact Ij h1 h2 (iQ hr [a] (by rw [NQ,h3];rfl))
 ·exact (zI O hr e).t
theorem Jp (O:Okx S F k c X){r:M5->ME}(hr:∀ e,QE X e (r e))(e:M5):QJT X e (sG S r c e):=by
 unfold sG
 exact Jo O hr e
theorem sT (O:Okx S F k c X){r:M5->ME}(hr:∀ e,QE X e (r e))(tg e:M5):PI X tg e (g8 X.K (oT S r c tg e)):=by
 unfold oT
 split
 ·exact (Jp O hr e).h _ _ _
 ·exact (zI O hr e).h _
theorem zJ {iter:M5}{env:Rf}(h:gZ iter=true):∀ x,PQ iter env x=pure x:=by
 intro z
 cases iter<;>first|rfl|cases h
end
theorem zK {X:Cx}(hN:X.N.Nodup):∀ (es:List M5)(xs:List Str)(n:Nat),(es.mapM fun e=>match e with|.Name x _=>some x|_=>none)=some xs->(∀ j x,xs[j]? = some x->X.N[n+j]? = some x/\X.env.scope.names.lookup x=some .local)->QGs X es (Pg n xs.length)
 | [],xs,n,h,hx=>by
  cases h
  exact xT
 | e::es,xs,n,h,hx=>by
  rw [List.mapM_cons] at h
  obtain ⟨x,h1,h⟩:=MW.mp h
  obtain ⟨ys,h2,h⟩:=MW.mp h
  cases h
  cases e with
  | Name y p=>
   cases h1
   rw [Na,TX]
   have h0:=hx 0 x rfl
   refine xU n hN (zK hN es ys (n+1) h2 fun j z hz=>?_) (by simpa using h0.1) (.inl h0.2) (.inr h0.2)
   have:=hx (j+1) z (by simpa using hz)
   rw [show n+1+j=n+(j+1) by omega]
   exact this
  | _=>cases h1
theorem oW {S:Sig}{F:Str->MF}{k:Nat}{c:Cs}{X:Cx}(O:Okx S F k c X){scope:O3}{tg:M5}{xs:List Str}(hx:sH tg=some xs)(h:mN c scope xs=true)(cl:List (Str×Addr))(C:Addr)(s₀:M4)(H₀:Hp)(fp:List Addr) :
  PG (b8 X scope cl C (a9 xs X.N++xs) s₀ H₀ fp) tg (eE X.K (gB X.N.length (sI tg xs.length)))/\∀ d μ z,sI tg xs.length d μ=some z->z.length=xs.length:=by
 obtain ⟨St,hnd⟩:=oV O h
 have hN:(a9 xs X.N++xs).Nodup:=zG St.hnd hnd fun x hx=>St.own (x,.local) (NW (St.here x hx)) rfl
 have hloc:∀ x∈xs,(Uv scope X.env).names.lookup x=some .local:=fun x hx=>lookup_relabel_local (St.here x hx)
 unfold sH at hx
 split at hx
 ·rename_i x p
  cases hx
  refine ⟨Hb (X:=b8 X scope cl C (a9 [x] X.N++[x]) s₀ H₀ fp) (by show (a9 [x] X.N++[x]).length=_;rw [Nk,jB];rfl) (xI (X:=b8 X scope cl C (a9 [x] X.N++[x]) s₀ H₀ fp) hN (by show (a9 [x] X.N++[x])[X.N.length]? = _;rw [<- jB [x] X.N];simp) (.inl (hloc x (by simp))) (.inr (hloc x (by simp)))),fun d μ z hz=>?_⟩
  cases hz
  rfl
 ·rename_i es kk pt
  refine ⟨Hc (X:=b8 X scope cl C (a9 xs X.N++xs) s₀ H₀ fp) (by show (a9 xs X.N++xs).length=_;rw [Nk,jB]) (rF (X:=b8 X scope cl C (a9 xs X.N++xs) s₀ H₀ fp) (zK (X:=b8 X scope cl C (a9 xs X.N++xs) s₀ H₀ fp) hN es xs X.N.length hx fun j x hj=>⟨?_,hloc x (OQ hj)⟩) O.calm).h,fun d μ z hz=>?_⟩
  ·show (a9 xs X.N++xs)[X.N.length+j]? = some x
   rw [NT (by rw [jB];omega),jB,show X.N.length+j - X.N.length=j by omega]
   exact hj
  ·obtain ⟨ys,h1,h2⟩:=MW.mp hz
   split at h2
   ·rename_i hl
    cases h2
    rw [MZ];exact hl
   ·cases h2
 ·cases hx
theorem Jq (O:Okx S F k c X){r:M5->ME}(hr:∀ e,QE X e (r e))(f:M5)(args:List M5)(cpos:Om):QE X (.Call f args [] cpos) (sC S F r c f args cpos):=by
 unfold sC
 exact Jl O hr _ _ _
theorem zL {S:Sig}{F:Str->MF}{k:Nat}{rE:Cs->M5->ME}{rT:Cs->M5->MT}(hE:∀ c X,Okx S F k c X->∀ e,QE X e (rE c e))(hT:∀ c X,Okx S F k c X->∀ e,QT X e (rT c e))(c:Cs)(X:Cx)(O:Okx S F k c X)
  (elt tg iter:M5)(ifs:List M5)(scope:O3)(pos:Om){mi:MI}(hi:PI X tg iter (g8 X.K mi)):QE X (.ListComp elt [⟨tg,iter,ifs,0⟩] scope pos) (mP mi rE rT c elt tg iter ifs scope):=by
 unfold mP
 split
 ·rename_i xs hx
  split
  ·rename_i h
   rw [Nb] at h
   refine ⟨fun Vq s σ H Q I q=>?_⟩
   exact He ((oV O h.1).1.ok I.ok) O.calm hi (fun d μ z=>(oW O hx h.1 [] 0 s H []).2 d μ z) (fun C s₀ H₀ fp=>(oW O hx h.1 _ C s₀ H₀ fp).1) (fun C s₀ H₀ fp=>(zH (hT _ _ (O.comp h.1)) _).h) (fun C s₀ H₀ fp=>(hE _ _ (O.comp h.1) _).h) (zJ h.2) Vq s σ H Q I q
  ·exact bW
 ·exact bW
theorem Jr {S:Sig}{F:Str->MF}{k:Nat}{rE:Cs->M5->ME}{rT:Cs->M5->MT}(hE:∀ c X,Okx S F k c X->∀ e,QE X e (rE c e))(hT:∀ c X,Okx S F k c X->∀ e,QT X e (rT c e))(c:Cs)(X:Cx)(O:Okx S F k c X)
  (elt tg iter:M5)(ifs:List M5)(scope:O3)(pos:Om):QE X (.ListComp elt [⟨tg,iter,ifs,0⟩] scope pos) (oU S rE rT c elt tg iter ifs scope):=by
 unfold oU
 exact zL hE hT c X O elt tg iter ifs scope pos (sT O (hE c X O) tg iter)
theorem Js {X:Cx}{pos:Om}{keys:List (Option M5)}{values:List M5}{prs:List (ME×ME)}(h:QP X pos keys values prs)(h0:(!keys.isEmpty)=true)(h15:keys.length<=15):QE X (.Dict keys values pos) (jE prs):=by
 cases keys with
 | nil=>exact absurd h0 (by simp)
 | cons kk ks=>exact Gz h h15
section
variable {S:Sig}{F:Str->MF}{k:Nat}{c:Cs}{X:Cx}{r:M5->ME}
theorem Jt (v:Const)(n:Nat)(p:Om):QE X (.Constant v n p) (y9 v):=by
 cases v<;>first|exact FP|exact FQ|exact FR|exact FT|exact bW
theorem Ju (hr:∀ e,QE X e (r e))(op:UnaryOp)(a:M5)(p:Om):QE X (.UnaryOp op a p) (zA (r a) op):=by
 cases op<;>first|exact F0 (hr _)|exact F1 (hr _)|exact bW
theorem Jv (O:Okx S F k c X)(hr:∀ e,QE X e (r e))(a:M5)(ops:List Rt)(bs:List M5)(p:Om):QE X (.Compare a ops bs p) (sJ S r a ops bs):=by
 unfold sJ
 split
 ·exact Jh O (hr _) (hr _) _ _
 ·exact bW
theorem Jw (hr:∀ e,QE X e (r e))(ks:List (Option M5))(vs:List M5)(p:Om):QE X (.Dict ks vs p) (sL r ks vs):=by
 unfold sL
 split
 ·rename_i prs h
  split
  ·rename_i h2
   rw [Nb] at h2
   exact Js (zF hr _ _ _ _ h) h2.1 (of_decide_eq_true h2.2)
  ·exact bW
 ·exact bW
theorem Jx (O:Okx S F k c X)(hr:∀ e,QE X e (r e))(ks:List (Option M5))(vs:List M5)(p:Om):QE X (.Dict ks vs p) (sM r ks vs):=by
 unfold sM
 try split
 ·exact Jw hr _ _ _
theorem Jy (O:Okx S F k c X)(hr:∀ e,QE X e (r e))(a b:M5)(p:Om):QE X (.Subscript a b p) (sN S r c a b):=by
 unfold sN
 split
 ·exact Gr (hr _) (mR hr _) (mR hr _)
 ·exact Ia (hr _) (mR hr _) (mR hr _) (mR hr _)
 ·split
  ·rename_i h
   ·exact Hh O.room (hr _) (hr _) h
  ·exact bW
theorem sU (hr:∀ e,QE X e (r e))(e:M5):QT X e (mQ r e):=by
 unfold mQ
 split
 ·rename_i h;exact Hv (hr _) h
 ·exact xY
theorem Jz (O:Okx S F k c X)(hr:∀ e,QE X e (r e))(a:M5)(ops:List Rt)(bs:List M5)(p:Om):QT X (.Compare a ops bs p) (sS S r a ops bs p):=by
 unfold sS
 split
 ·exact Jj O (hr _) (hr _) _ _
 ·exact sU hr _
theorem JA (hr:∀ e,QE X e (r e))(es:List M5)(n:Nat)(p:Om):QE X (.Tuple es n p) (sO r es):=by
 unfold sO
 split
 ·rename_i h;exact Gi (iQ hr _ h)
 ·exact bW
theorem JB (hr:∀ e,QE X e (r e))(es:List M5)(p:Om):QE X (.List es p) (sP r es):=by
 unfold sP
 split
 ·rename_i h;exact Gj (iQ hr _ h)
 ·exact bW
theorem JC (O:Okx S F k c X)(hr:∀ e,QE X e (r e))(f:M5)(args:List M5)(kws:List PZ)(p:Om):QE X (.Call f args kws p) (sQ S F r c f args p kws):=by
 unfold sQ
 split
 ·exact Jq O hr _ _ _
 ·exact bW
end
theorem zM {S:Sig}{F:Str->MF}{k:Nat}{rE:Cs->M5->ME}{rT:Cs->M5->MT}(hE:∀ c X,Okx S F k c X->∀ e,QE X e (rE c e))(hT:∀ c X,Okx S F k c X->∀ e,QT X e (rT c e))(c:Cs)(X:Cx)(O:Okx S F k c X) :
  (∀ e,QE X e (zB S F rE rT c e))/\∀ e,QT X e (zC S rE rT c e):=by
 have hr:=hE c X O
 have ht:=hT c X O
 constructor
 ·intro e
  cases e with
  | Name x p=>exact Jf O _ _
  | Constant v n p=>exact Jt v n p
  | BinOp a op b p=>exact Jg (hr _) (hr _) _ _
  | UnaryOp op a p=>exact Ju hr op a p
  | Compare a ops bs p=>exact Jv O hr a ops bs p
  | BoolOp op vs p=>exact zD hr _ _ _
  | IfExp t a b p=>exact Gf (ht _) (hr _) (hr _)
  | Tuple es n p=>exact JA hr es n p
  | List es p=>exact JB hr es p
  | Dict ks vs p=>exact Jx O hr ks vs p
  | Subscript a b p=>exact Jy O hr a b p
  | Call f args kws cpos=>exact JC O hr f args kws cpos
  | ListComp elt gs scope p=>
   show QE X _ (sR S rE rT c elt scope gs)
   unfold sR
   split
   ·exact Jr hE hT c X O _ _ _ _ _ _
   ·exact bW
  | _=>exact bW
 ·intro e
  cases e with
  | BoolOp op vs p=>exact GP (zE ht _ _ _)
  | UnaryOp op a p=>
   cases op
   case Not=>exact GJ (ht _)
   all_goals exact sU hr _
  | Compare a ops bs p=>exact Jz O hr a ops bs p
  | _=>exact sU hr _
theorem sV {S:Sig}{F:Str->MF}{k:Nat}:∀ (n:Nat),(∀ c X,Okx S F k c X->∀ e,QE X e ((tr S F n).1 c e))/\∀ c X,Okx S F k c X->∀ e,QT X e ((tr S F n).2 c e)
 | 0=>⟨fun c X O e=>bW,fun c X O e=>xY⟩
 | n+1=>by
  have ih:=sV (S:=S) (F:=F) (k:=k) n
  exact ⟨fun c X O e=>(zM ih.1 ih.2 c X O).1 e,fun c X O e=>(zM ih.1 ih.2 c X O).2 e⟩
end L3
namespace L3
open PySem L2
noncomputable def oX:MG:=fun _ _ _=>none
noncomputable def mS (c:Cs):List M5->Option (List Nat)
 | []=>some []
 | .Name x _::r=>if jL c x then (jK x c.N).bind fun i=>(mS c r).map (i::·) else none
 | _=>none
noncomputable def sW (c:Cs):M5->MG
 | .Name x _=>if jL c x then (match jK x c.N with|some i=>eY i|none=>oX) else oX
 | .Tuple es _ _=>match mS c es with|some is=>kK is|none=>oX
 | _=>oX
noncomputable def jM (r:Stmt->MS):List Stmt->MS
 | []=>bK
 | [s]=>r s
 | s::t=>aK (r s) (jM r t)
noncomputable def sX (S:Sig)(E:Cs->M5->ME)(T:Cs->M5->MT)(c:Cs)(i:Nat):M5->MS
 | .ListComp elt [⟨tg,iter,ifs,0⟩] scope _=>aW i (oU S E T c elt tg iter ifs scope)
 | _=>eG
noncomputable def sY (S:Sig)(E:Cs->M5->ME)(T:Cs->M5->MT)(c:Cs)(tg e:M5):MS:=match tg with
 | .Name y _=>if jL c y then (match jK y c.N with
   | some i=>if g7 e then aW i (E c e) else sX S E T c i e
   | none=>eG) else eG
 | .Tuple es _ _=>if rG e then (match mS c es with|some is=>q9 (E c e) (kK is)|none=>eG)
   else eG
 | .Subscript o i _=>if g7 e&&kP i then iP (E c o) (E c i) (E c e) else eG
 | _=>eG
noncomputable def lC:Nat:=1000000000
noncomputable def sZ (S:Sig)(E:Cs->M5->ME)(T:Cs->M5->MT)(c:Cs)(r:Stmt->MS):Stmt->MS
 | .Return (some e) _=>aZ (E c e)
 | .Return none _=>aZ (mC .non)
 | .If t a b _=>bL (T c t) (jM r a) (jM r b)
 | .Assign [tg] e _=>sY S E T c tg e
 | .Expr e _=>if g7 e then i9 (E c e) else eG
 | .For tg iter body [] _=>if gZ iter then fN (oT S (E c) c tg iter) (sW c tg) (jM r body) else eG
 | .While t body [] _=>kX lC (T c t) (jM r body)
 | .Pass _=>bK
 | _=>eG
noncomputable def tB (S:Sig)(F:Str->MF)(m:Nat)(c:Cs):Nat->Stmt->MS
 | 0=>fun _=>eG
 | n+1=>sZ S (tr S F m).1 (tr S F m).2 c (tB S F m c n)
section
variable {S:Sig}{F:Str->MF}{k:Nat}{c:Cs}{X:Cx}
theorem Okx.own (O:Okx S F k c X){x:Str}(h:jL c x=true):L2.Loc X.env.scope x:=by
 unfold jL at h
 rw [O6] at h
 unfold L2.Loc
 rw [O.ks]
 exact h.imp of_decide_eq_true of_decide_eq_true
theorem tD (O:Okx S F k c X)(hf:∀ x,X.fn x=true):∀ (es:List M5)(is:List Nat),mS c es=some is->QGs X es is
 | [],is,h=>by cases h;exact xT
 | e::es,is,h=>by
  cases e with
  | Name x p=>
   unfold mS at h
   split at h
   ·rename_i ho
    obtain ⟨i,h1,h⟩:=MW.mp h
    obtain ⟨js,h2,h⟩:=M3.mp h
    subst h
    exact xU i O.nd (tD O hf es js h2) (by rw [O.N];exact mM h1) (O.own ho) (.inl (hf x))
   ·cases h
  | _=>cases h
theorem JD (O:Okx S F k c X)(hf:∀ x,X.fn x=true)(e:M5):QG X e (sW c e):=by
 unfold sW
 split
 ·split
  ·rename_i ho
   split
   ·rename_i i hi
    exact G1 i O.nd (by rw [O.N];exact mM hi) (O.own ho) (.inl (hf _))
   ·exact n8 fun _ _ _=>rfl
  ·exact n8 fun _ _ _=>rfl
 ·split
  ·rename_i is hi
   exact rF (tD O hf _ is hi) O.calm
  ·exact n8 fun _ _ _=>rfl
 ·exact n8 fun _ _ _=>rfl
theorem lD {r:Stmt->MS}(hr:∀ s,QS X s (r s)):∀ ss:List Stmt,QB X ss (jM r ss)
 | []=>GS
 | [s]=>GV (hr s)
 | s::t::ts=>GU (hr s) (lD hr (t::ts))
theorem JE {elt tg iter:M5}{ifs:List M5}{scope:O3}{pos py:Om}{y:Str}{n:Nat}{env:Rf} :
  ∃ b:Bool,Qc (.ListComp elt [⟨tg,iter,ifs,0⟩] scope pos) (some (.Name y py)) n env=pure b/\(b=true->env.kindOf y=some .local):=by
 refine ⟨env.blockKind == .function&&env.kindOf y == some .local&&py.line == pos.line&&!(scope.names.any fun (n,k)=>n == y&&(k == .local||k == .cell)),rfl,fun h=>?_⟩
 simp only [Nb,beq_iff_eq] at h
 exact h.1.1.2
theorem JF (O:Okx S F k c X)(hf:∀ x,X.fn x=true){E:Cs->M5->ME}{T:Cs->M5->MT}(hE:∀ c X,Okx S F k c X->∀ e,QE X e (E c e))(hT:∀ c X,Okx S F k c X->∀ e,QT X e (T c e))
  {i:Nat}{y:Str}{py spos:Om}(hi:X.N[i]? = some y)(hy:jL c y=true)(elt tg iter:M5)(ifs:List M5)(scope:O3)(pos:Om){mi:MI}(hmi:PI X tg iter (g8 X.K mi)):QS X (.Assign [.Name y py] (.ListComp elt [⟨tg,iter,ifs,0⟩] scope pos) spos) (aW i (mP mi E T c elt tg iter ifs scope)):=by
  obtain ⟨b,hb1,hb2⟩:=JE (elt:=elt) (tg:=tg) (iter:=iter) (ifs:=ifs) (scope:=scope) (pos:=pos) (py:=py) (y:=y) (n:=spos.line) (env:=X.env)
  cases b with
  | false=>exact ⟨w4 O.nd hi (O.own hy) (zL hE hT c X O elt tg iter ifs scope pos hmi).h hb1 (.inl (hf y))⟩
  | true=>
   unfold mP
   split
   ·rename_i xs hx
    split
    ·rename_i h
     rw [Nb] at h
     refine ⟨fun Vq s σ H D I q=>?_⟩
     exact Hf ((oV O h.1).1.ok I.ok) O.nd O.calm hmi (fun d μ z=>(oW O hx h.1 [] 0 s H []).2 d μ z) (fun C s₀ H₀ fp=>(oW O hx h.1 _ C s₀ H₀ fp).1) (fun C s₀ H₀ fp=>(zH (hT _ _ (O.comp h.1)) _).h) (fun C s₀ H₀ fp=>(hE _ _ (O.comp h.1) _).h) (zJ h.2) hi (hb2 rfl) hb1 Vq s σ H D I q
    ·exact yS
   ·exact yS
theorem JG (O:Okx S F k c X)(hf:∀ x,X.fn x=true){E:Cs->M5->ME}{T:Cs->M5->MT}(hE:∀ c X,Okx S F k c X->∀ e,QE X e (E c e))(hT:∀ c X,Okx S F k c X->∀ e,QT X e (T c e))
  {i:Nat}{y:Str}{py spos:Om}(hi:X.N[i]? = some y)(hy:jL c y=true)(e:M5):QS X (.Assign [.Name y py] e spos) (sX S E T c i e):=by
 unfold sX
 split
 ·exact JF O hf hE hT hi hy _ _ _ _ _ _ (sT O (hE c X O) _ _)
 ·exact fP
theorem JH (O:Okx S F k c X)(hf:∀ x,X.fn x=true){E:Cs->M5->ME}{T:Cs->M5->MT}(hE:∀ c X,Okx S F k c X->∀ e,QE X e (E c e))(hT:∀ c X,Okx S F k c X->∀ e,QT X e (T c e))(tg e:M5)(pos:Om) :
  QS X (.Assign [tg] e pos) (sY S E T c tg e):=by
 unfold sY
 split
 ·split
  ·rename_i ho
   split
   ·rename_i i hi
    have hi':=mM hi
    rw [<- O.N] at hi'
    split
    ·rename_i hn
     exact G0 i O.nd (hE c X O e) hn hi' (O.own ho) (.inl (hf _))
    ·exact JG O hf hE hT hi' ho e
   ·exact fP
  ·exact fP
 ·split
  ·rename_i hn
   split
   ·rename_i is hi
    exact G3 (hE c X O e) (rF (tD O hf _ is hi) O.calm) hn
   ·exact fP
  ·exact fP
 ·split
  ·rename_i h
   rw [Nb] at h
   exact Iu O.room (hE c X O _) (hE c X O _) (hE c X O _) h.1
  ·exact fP
 ·exact fP
theorem JI (O:Okx S F k c X)(hf:∀ x,X.fn x=true){E:Cs->M5->ME}{T:Cs->M5->MT}(hE:∀ c X,Okx S F k c X->∀ e,QE X e (E c e))(hT:∀ c X,Okx S F k c X->∀ e,QT X e (T c e)){r:Stmt->MS}(hr:∀ s,QS X s (r s))(st:Stmt) :
  QS X st (sZ S E T c r st):=by
 unfold sZ
 split
 ·exact GX (hE c X O _)
 ·exact Hy
 ·exact GZ (hT c X O _) (lD hr _) (lD hr _)
 ·exact JH O hf hE hT _ _ _
 ·split
  ·rename_i h;exact GY (hE c X O _) h
  ·exact fP
 ·split
  ·rename_i h
   exact Ik (sT O (hE c X O) _ _) (JD O hf _) (lD hr _) O.never O.calm h
  ·exact fP
 ·exact Hx _ (hT c X O _) (lD hr _) O.never
 ·exact GW
 ·exact fP
theorem zN (O:Okx S F k c X)(hf:∀ x,X.fn x=true)(m:Nat):∀ (n:Nat)(st:Stmt),QS X st (tB S F m c n st)
 | 0,_=>fP
 | n+1,st=>JI O hf (sV m).1 (sV m).2 (zN O hf m n) st
end
noncomputable def cY (st:Stmt):List Str:=(gR st).args.map (·.arg)
noncomputable def iR (st:Stmt):List Str:=cY st++(bX st).names.filterMap fun y=>if (y.2 == NameKind.local||y.2 == OL)&&!(cY st).contains y.1 then some y.1 else none
noncomputable def jN (st:Stmt):Bool:=
 decide ((bX st).kind=.function)&&!(bX st).isCoroutine&&!(bX st).isGenerator&&decide (iR st).Nodup &&
 ((cY st).all fun x=>decide ((bX st).names.lookup x=some .local)||decide ((bX st).names.lookup x=some .cell))&&((bX st).names.all fun y=>decide (y.2≠.free))
theorem JJ {st:Stmt}(h:jN st=true):FnScope (iR st) (cY st) (bX st):=by
 unfold jN at h
 simp only [Nb,decide_eq_true_eq,TK,OH,O6] at h
 obtain ⟨⟨⟨⟨⟨h1,h2⟩,h3⟩,h4⟩,h5⟩,h6⟩:=h
 exact ⟨h1,h2,h3,h4,by unfold iR;simp,h5,h6⟩
noncomputable def zO:Nat:=40
noncomputable def zP:Nat:=40
noncomputable def tE (S:Sig)(F:Str->MF)(st:Stmt):MF:=qP (iR st).length (jM (tB S F zO ⟨iR st,(bX st).names⟩ zP) (eD st))
noncomputable def gI (S:Sig)(ds:List (Str×Stmt)):Nat->Str->MF
 | 0,_=>fun _ _=>none
 | k+1,x=>match ds.lookup x with
  | none=>fun _ _=>none
  | some st=>tE S (gI S ds k) st
structure DefAt (K:MX)(mg:Str->Option M0)(x:Str)(st:Stmt):Prop where
 ex:∃ f fd,Fun K x x st f fd/\mg x=some (.ref f)/\Binds K fd (cY st) []
structure TxtOk (P:Nz)(w:NP)(K:MX)(mg:Str->Option M0)(S:Sig)(ds:List (Str×Stmt)):Prop where
 fns:∀ x n,S.fn.lookup x=some n->∃ st,ds.lookup x=some st/\(cY st).length=n
 defs:∀ x st,ds.lookup x=some st->DefAt K mg x st/\jN st=true
 con:∀ x d,S.con.lookup x=some d->∃ v u,mg x=some u/\RelV v u/\∀ π n H,IsD K π n H v d
 tab:∀ x kvs,S.tab.lookup x=some kvs->∃ (p:Addr)(vs:List (aF×V))(ws:List (aF×M0)),mg x=some (.ref p)/\(∀ h:N6,K.In h->h.DictOf (cS P w) p ws)/\KV vs ws/\∀ π n H,IsKs K π n H vs kvs
 no:∀ x,S.no.contains x=true->mg x=none
theorem zQ {P:Nz}{w:NP}{K:MX}{mg:Str->Option M0}{base:N6}{S:Sig}{ds:List (Str×Stmt)}(T:TxtOk P w K mg S ds):∀ (k:Nat)(x:Str)(st:Stmt)(f:Addr)(fd:OB),ds.lookup x=some st->Fun K x x st f fd->
  FnOk P w K mg base dU k f fd (cY st) (fY K (cY st).length (gI S ds k x))
 | 0,x,st,f,fd,hl,hF=>⟨fun vs H Q E h=>h.1,fun A outer s H args us vs Q E hr he hb hv hs=>by
   obtain ⟨_,π,ds',μ,d,μ',R,i,hm,kc⟩:=hs
   cases hm⟩
 | k+1,x,st,f,fd,hl,hF=>by
  have ih:=zQ (base:=base) T k
  have e:gI S ds (k+1) x=tE S (gI S ds k) st:=by
   show (match ds.lookup x with|none=>fun _ _=>none|some st=>tE S (gI S ds k) st)=_
   rw [hl]
  rw [e]
  have Sc:=JJ (T.defs x st hl).2
  refine G4 hF Sc (by unfold iR;simp) rfl fun cdv A outer s H E hr=>?_
  have O:Okx S (gI S ds k) k ⟨iR st,(bX st).names⟩ (gP dU P w K mg base (iR st) x (bX st) f cdv A outer s H E).nox:=by
   refine ⟨rfl,Sc.nd,rfl,Sc.kind,rfl,hr,SF,fun y n hy=>?_,T.con,fun y kvs q=>⟨T.tab y kvs q⟩,T.no⟩
   obtain ⟨st',h1,h2⟩:=T.fns y n hy
   obtain ⟨f',fd',F',m',b'⟩:=(T.defs y st' h1).1.ex
   subst h2
   exact ⟨f',fd',cY st',ih y st' f' fd' h1 F',m',F'.kp,b'⟩
  exact lD (zN O (fun _=>rfl) zO zP) (eD st)
theorem zR:∀ {ns:List Int}{b:Nat},Qf (ns.map P1)<=b->∀ n∈ns,Nf n<=b
 | [],_,_,n,hn=>nomatch hn
 | m::ns,b,h,n,hn=>by
  have e:Qf ((m::ns).map P1)=RA (.int m)+1+Qf (ns.map P1):=rfl
  have e2:RA (.int m)=Nf m:=rfl
  rw [e,e2] at h
  rcases NN.mp hn with rfl|hn
  ·omega
  ·exact zR (b:=b) (by omega) n hn
section
open PySem PySem.W PySem.Calls PyProof.Rows
theorem JK {l:S5}{n:Nat}{q:Nz}{loose:List Str}{XP:(Str->Option M0)->N6->Prop}{YP:NP->N6->Prop}{d:DefRec}
  (hn:l.most=some n)(hdf:d.params.defaults=[])
  (call:∀ (w:NP)(s₀ s₁:M4)(mg mb:Str->Option M0)(fa:Addr)(o:OE)(pm cd doc:M0)(a:Addr)(vs:List M0)(ns:List Int),
   Ground q loose [] XP w s₀ mg mb s₁.heap->YP w s₁.heap->
   s₁.heap.get? fa=some o->o.data=.func (docDef d.name d.params d.body d.scope pm cd doc)->s₁.heap.CodeRec cd d.name->mg d.name=some (.ref fa)->
   s₁.heap.get? a=some { cls:=.type "list",data:=.seq vs.toArray }->Si vs ns->ns.length<=n->(∀ m∈ns,Nf m<=2 ^ 20)->s₁.gens = #[]->
   QR (NC l.prog w) RI (.call (.ref fa) ⟨[.ref a],[]⟩) (fun r s'=>r=.ok (.ret (.bool true))/\OldK s₁.heap s'.heap/\s'.os=s₁.os/\Rh s'.gens) s₁) :
  TQ q loose XP YP l.row.toRowW d [] (fun f vs=>UI f vs):=by
 intro w s₀ s₁ mg mb G Y fa o pm cd doc dV kV ho hd hcd hD hmg hg args vals as hpre hlay hrd hwl hlo
 obtain rfl:dV=.none:=Dflts.none hD hdf
 obtain rfl:kV=.none:=Dflts.noKw hD
 obtain ⟨a,vs,ns,rfl,rfl,hobj,hints,hlen⟩:=Att.script_of hn hpre hwl
 have hb:∀ m∈ns,Nf m<=2 ^ 20:=by
  have h1:Rq (.list (ns.map P1))=true:=by
   have:=hlay
   unfold UJ at this
   simpa using this
  unfold Rq at h1
  rw [Nb] at h1
  exact zR (of_decide_eq_true h1.2)
 refine enter_call (Tg (call w s₀ s₁ mg mb fa o pm cd doc a vs ns G Y ho (fd_plain hd) hcd hmg hobj hints hlen hb hg) fun r s' hq=>?_)
 obtain ⟨rfl,h2,h3,h4⟩:=hq
 exact ⟨.inl ⟨.bool true,.bool true,[],rfl,fun _=>rfl,.bool true,Att.post_true l _,fun _=>⟨UQ,fun _ hm=>(nomatch hm)⟩⟩,h2,h3,h4⟩
end
theorem walkM {l:S5}{q:Nz}{loose:List Str}{XP:(Str->Option M0)->N6->Prop}{YP:NP->N6->Prop}{d:DefRec}{K:Params->MX}{S:Sig}{ds:List (Str×Stmt)}{k:Nat}{st:Stmt}{x:Str}(hn:l.most=some 63)(hdf:d.params.defaults=[])
  (hr:Room k RI)(hY:∀ (w:NP)(h:N6),YP w h->(K w.params).In h)(hl:ds.lookup d.name=some st)(hx:cY st=[x])
  (T:∀ (w:NP)(mg:Str->Option M0)(h:N6),(K w.params).In h->h.Ns N8 mg->TxtOk l.prog w (K w.params) mg S ds/\∃ f fd,Fun (K w.params) d.name d.name st f fd/\mg d.name=some (.ref f)/\∀ (s:M4)(u:M0),RO s fd ⟨[u],[]⟩ [(x,u)])
  (M:∀ ns:List Int,ns.length<=63->(∀ m∈ns,Nf m<=2 ^ 20)->∃ μ',gI S ds k d.name [.rol (ns.map D.int)] []=some (.bl true,μ')) :
  TQ q loose XP YP l.row.toRowW d [] (fun f vs=>UI f vs):=by
 refine JK hn hdf fun w s₀ s₁ mg mb fa o pm cd doc a vs ns G Y ho hd hcd hmg hobj hints hlen hbd hg=>?_
 have KX:=hY w _ Y
 obtain ⟨hT,f,fd,hF,hm,hb⟩:=T w mg _ KX G.T.g
 rw [hmg] at hm
 cases hm
 refine L2.law_call (CX:=dU) (sp:=fY (K w.params) 1 (gI S ds k d.name)) KX G.T.g G.T.b G.T.builtins G.T.nolimit hg hobj hints (N9 hlen (by decide)) hr (fun base hb1 hb2=>?_) hb (fun H hO hS=>?_) fun H e s' z=>z
 ·have:=zQ (base:=base) hT k d.name st fa fd hl hF
  rw [hx] at this
  exact this
 ·refine ⟨rfl,fun _=>0,[.rol (ns.map D.int)],[],.bl true,?_⟩
  obtain ⟨μ',hM⟩:=M ns hlen hbd
  have hro:RoL (K w.params) H a (ns.map V.int):=by
   rcases hS with (h|h)|h
   ·rcases hO a with z|⟨o,xs,z⟩
    ·rw [z] at h;cases h
    ·rw [z] at h;cases h
   ·exact .inl h
   ·exact .inr h
  refine ⟨μ',⟨fun i j hi=>absurd hi (OO _),fun i hi=>absurd hi (OO _),fun i xs h=>(by cases h),fun i xs h=>(by cases h),fun i xs h=>(by cases h)
   ⟩,.cons (.rol hro ?_) .nil,hM,fun π' v H' _ _ hv=>?_⟩
  ·have:∀ ns:List Int,IsDs (K w.params) (fun _=>0) ([]:Hm).length H (ns.map V.int) (ns.map D.int):=fun ns=>by
    induction ns with
    | nil=>exact .nil
    | cons n r ih=>exact .cons (.int n) ih
   exact this ns
  ·cases hv
   rfl
end L3
namespace L3
open PySem L2
theorem oY {β:Type}:∀ {l:List (Str×β)}{x:Str}{b:β},l.lookup x=some b->(x,b)∈l:=fun h=>NW h
theorem JL {S:Sig}{ds:List (Str×Stmt)}(h:(S.fn.all fun p=>match ds.lookup p.1 with|some st=>decide ((cY st).length=p.2)|none=>false)=true):∀ x n,S.fn.lookup x=some n->∃ st,ds.lookup x=some st/\(cY st).length=n:=by
 intro x n e
 have:=OH.mp h (x,n) (oY e)
 dsimp only at this
 split at this
 ·rename_i st hs
  exact ⟨st,hs,of_decide_eq_true this⟩
 ·cases this
theorem JM {K:MX}{mg:Str->Option M0}{ds:List (Str×Stmt)}(h:∀ p∈ds,DefAt K mg p.1 p.2/\jN p.2=true):∀ x st,ds.lookup x=some st->DefAt K mg x st/\jN st=true:=fun x st e=>h (x,st) (oY e)
theorem JN {K:MX}{mg:Str->Option M0}{cs:List (Str×D)}(h:∀ p∈cs,∃ v u,mg p.1=some u/\RelV v u/\∀ π n H,IsD K π n H v p.2):∀ x d,cs.lookup x=some d->∃ v u,mg x=some u/\RelV v u/\∀ π n H,IsD K π n H v d:=fun x d e=>h (x,d) (oY e)
inductive EntsOf (w:NP):List QF->List (aF×M0)->Prop where
 | nil:EntsOf w [] []
 | cons {e:QF}{k:aF}{v:M0}{es:List QF}{kvs:List (aF×M0)}(h:iW k e.key=true)(hh:e.hash=uU w k)(hv:e.val=v)(t:EntsOf w es kvs):EntsOf w (e::es) ((k,v)::kvs)
theorem EntsOf.keys {P:Nz}{w:NP}{es:List QF}{kvs:List (aF×M0)}(x:EntsOf w es kvs):∀ e∈es,∃ k,(cS P w).is k e.key=true/\e.hash=(cS P w).hash k:=by
 induction x with
 | nil=>intro e he;exact nomatch he
 | @cons e k v es kvs h hh hv _ ih=>
  intro e' he
  rcases NN.mp he with rfl|he
  ·exact ⟨k,h,hh⟩
  ·exact ih e' he
theorem JO {mg:Str->Option M0}{ns:List Str}(h:∀ x∈ns,mg x=none):∀ x,ns.contains x=true->mg x=none:=fun x e=>h x (by simpa using e)
noncomputable def oZ:Nat->(Nat->M0)->List M0
 | 0,_=>[]
 | n+1,u=>u 0::oZ n fun i=>u (i+1)
theorem zS:∀ us:List M0,∃ u,us=oZ us.length u
 | []=>⟨fun _=>.none,rfl⟩
 | v::us=>let ⟨u,hu⟩:=zS us;⟨fun i=>match i with|0=>v|i+1=>u i,congrArg (v::·) hu⟩
noncomputable abbrev zT:Type:=M0->M0->M0->Option Addr->M0->M0->(Nat->M0)->UH (List (Str×M0))
noncomputable def JP (x:Str)(st:Stmt)(m:M0)(c:Addr):OE:=⟨Pw "function",none,.func (OK x x (gR st) (eD st) (bX st) .none .none .none m none (.ref c) .none),#[]⟩
noncomputable def zU (K:MX)(d:(Str×Stmt)×M0×Addr×Addr):Option (Option M0)×Option OE×Bool×Bool×Bool×zT:=(Qn K N8 d.1.1,K.lookup d.2.2.2,Qt K (.ref d.2.2.1) d.1.1,Ob K (.ref d.2.2.2),jN d.1.2,fun kV doc pm an cdv ct u=>Sm (OK d.1.1 d.1.1 (gR d.1.2) (eD d.1.2) (bX d.1.2) .none kV doc pm an cdv ct) ⟨oZ (cY d.1.2).length u,[]⟩)
noncomputable def zV (d:(Str×Stmt)×M0×Addr×Addr):Option (Option M0)×Option OE×Bool×Bool×Bool×zT:=(some (some (.ref d.2.2.2)),some (JP d.1.1 d.1.2 d.2.1 d.2.2.1),true,true,true,fun _ _ _ _ _ _ u=>pure ((cY d.1.2).zip (oZ (cY d.1.2).length u)))
noncomputable def o3 (K:MX)(d:Str×Stmt):(Str×Stmt)×M0×Addr×Addr:=(d,match Qn K N8 d.1 with
 | some (some (.ref f))=>(match K.lookup f with
  | some ⟨_,_,.func fd,_⟩=>(match fd.code with
   | .ref c=>(fd.pyModule,c,f)
   | _=>(.none,0,0))
  | _=>(.none,0,0))
 | _=>(.none,0,0))
noncomputable def o7 (K:MX)(ds:List (Str×Stmt)):Prop:=ds.map (fun d=>zU K (o3 K d))=ds.map fun d=>zV (o3 K d)
theorem zW {K:MX}{h:N6}{mg:Str->Option M0}(X:K.In h)(G:h.Ns N8 mg){ds:List (Str×Stmt)}(q:o7 K ds):∀ p∈ds,(DefAt K mg p.1 p.2/\jN p.2=true)/\∃ f fd,Fun K p.1 p.1 p.2 f fd/\mg p.1=some (.ref f)/\∀ us:List M0,us.length=(cY p.2).length->Sm fd ⟨us,[]⟩=pure ((cY p.2).zip us):=by
 intro p0 hp
 have t:=TF.mp q p0 hp
 have e:(o3 K p0).1=p0:=rfl
 generalize o3 K p0=d at t e
 obtain ⟨p,m,c,f⟩:=d
 cases e
 unfold zU zV at t
 obtain ⟨a,t⟩:=Qu t
 obtain ⟨l,t⟩:=Qu t
 obtain ⟨c,t⟩:=Qu t
 obtain ⟨k,t⟩:=Qu t
 obtain ⟨s,b⟩:=Qu t
 have F:=DR (st:=p.2) l c k
 have D:=fun kV doc pm an cdv ct (us:List M0)(hl:us.length=(cY p.2).length)=>(by
  obtain ⟨u,hu⟩:=zS us
  rw [hl] at hu
  rw [hu]
  exact congrFun (congrFun (congrFun (congrFun (congrFun (congrFun (congrFun b kV) doc) pm) an) cdv) ct) u:Sm (OK p.1 p.1 (gR p.2) (eD p.2) (bX p.2) .none kV doc pm an cdv ct) ⟨us,[]⟩=pure ((cY p.2).zip us))
 exact ⟨⟨⟨_,_,F,RK X G a,F.binds D⟩,s⟩,_,_,F,RK X G a,D _ _ _ _ _ _⟩
theorem JQ {K:MX}{h:N6}{mg:Str->Option M0}(X:K.In h)(G:h.Ns N8 mg){ds:List (Str×Stmt)}(q:o7 K ds){x y:Str}{st:Stmt}(hl:ds.lookup x=some st)(hp:cY st=[y]):∃ f fd,Fun K x x st f fd/\mg x=some (.ref f)/\∀ (s:M4)(u:M0),RO s fd ⟨[u],[]⟩ [(y,u)]:=by
 obtain ⟨f,fd,F,m,b⟩:=(zW X G q (x,st) (oY hl)).2
 dsimp only at b
 rw [hp] at b
 exact ⟨f,fd,F,m,fun s u=>.of_eq (b [u] rfl)⟩
theorem JR {K:MX}{h:N6}{mg:Str->Option M0}(X:K.In h)(G:h.Ns N8 mg){ns:List Str}(q:ns.map (Qn K N8)=ns.map fun _=>some none):∀ x∈ns,mg x=none:=fun x hx=>PySem.W.mg_none_of X G (TF.mp q x hx)
noncomputable def mT {α β:Type}(f:α->β->Bool):List α->List β->Bool
 | [],[]=>true
 | a::as,b::bs=>f a b&&mT f as bs
 | _,_=>false
noncomputable def mU (K:MX):Nat->M0->D->Bool
 | 0,_,_=>false
 | k+1,u,d=>match d with
  | .non=>(match u with|.none=>true|_=>false)
  | .bl b=>(match u with|.bool c=>decide (b=c)|_=>false)
  | .int i=>(match u with|.int j _=>decide (i=j)|_=>false)
  | .str x=>(match u with|.str y _=>decide (x=y)|_=>false)
  | .tup ds=>(match u with
   | .ref p=>(match K.lookup p with
    | some ⟨.type t,none,.seq its _,_⟩=>decide (t = "tuple")&&decide (its.size<=1000)&&mT (mU K k) its.toList ds
    | _=>false)
   | _=>false)
  | .rol ds=>(match u with
   | .ref p=>(match K.lookup p with
    | some ⟨.type t,none,.seq its _,_⟩=>decide (t = "list")&&decide (its.size<=1000)&&mT (mU K k) its.toList ds
    | _=>false)
   | _=>false)
  | _=>false
theorem zX {K:MX}{f:M0->D->Bool}(h:∀ u d,f u d=true->∃ v,RelV v u/\∀ π n H,IsD K π n H v d):∀ us ds,mT f us ds=true->∃ vs,Vals vs us/\∀ π n H,IsDs K π n H vs ds
 | [],[],_=>⟨[],.nil,fun _ _ _=>.nil⟩
 | u::us,d::ds,e=>by
  obtain ⟨a,b⟩:=Pj.mp e
  obtain ⟨v,r,q⟩:=h u d a
  obtain ⟨vs,rs,qs⟩:=zX h us ds b
  exact ⟨v::vs,.cons r rs,fun _ _ _=>.cons (q _ _ _) (qs _ _ _)⟩
 | [],_::_,e=>nomatch e
 | _::_,[],e=>nomatch e
theorem zY {K:MX}:∀ (k:Nat)(u:M0)(d:D),mU K k u d=true->∃ v,RelV v u/\∀ π n H,IsD K π n H v d
 | 0,_,_,e=>nomatch e
 | k+1,u,d,e=>by
  have seq:∀ {p:Addr}{ds:List D}{c:String},(match K.lookup p with|some ⟨.type t,none,.seq its _,_⟩=>decide (t=c)&&decide (its.size<=1000)&&mT (mU K k) its.toList ds|_=>false)=true->∃ vs its n sl,K.lookup p=some ⟨.type c,none,.seq its n,sl⟩/\its.size<=Nd/\Vals vs its.toList/\∀ π n H,IsDs K π n H vs ds:=fun {p ds c} e=>by
   split at e
   ·rename_i t its n sl hk
    obtain ⟨e,q⟩:=Pj.mp e
    obtain ⟨a,b⟩:=Pj.mp e
    cases of_decide_eq_true a
    obtain ⟨vs,r,i⟩:=zX (zY k) _ _ q
    exact ⟨vs,its,n,sl,hk,N9 (of_decide_eq_true b) (by decide),r,i⟩
   ·cases e
  cases d with
  | non=>cases u with
   | none=>exact ⟨.non,rfl,fun _ _ _=>.non⟩
   | _=>cases e
  | bl b=>cases u with
   | bool c=>cases of_decide_eq_true e;exact ⟨.bl b,rfl,fun _ _ _=>.bl _⟩
   | _=>cases e
  | int b=>cases u with
   | int c=>cases of_decide_eq_true e;exact ⟨.int b,⟨_,rfl⟩,fun _ _ _=>.int _⟩
   | _=>cases e
  | str b=>cases u with
   | str c=>cases of_decide_eq_true e;exact ⟨.str b,⟨_,rfl⟩,fun _ _ _=>.str _⟩
   | _=>cases e
  | tup ds=>cases u with
   | ref p=>
    obtain ⟨vs,its,n,sl,hk,hs,r,i⟩:=seq e
    exact ⟨.ref p,rfl,fun _ _ _=>.tup (vs:=vs) (.inr ⟨_,its,n,hk,rfl,rfl,rfl,hs,r⟩) (i _ _ _)⟩
   | _=>cases e
  | rol ds=>cases u with
   | ref p=>
    obtain ⟨vs,its,n,sl,hk,hs,r,i⟩:=seq e
    exact ⟨.ref p,rfl,fun _ _ _=>.rol (vs:=vs) (.inr ⟨_,its,n,hk,rfl,rfl,rfl,hs,r⟩) (i _ _ _)⟩
   | _=>cases e
  | _=>cases e
noncomputable def zZ (K:MX)(cs:List (Str×D)):Bool:=cs.all fun c=>match Qn K N8 c.1 with|some (some u)=>mU K 8 u c.2|_=>false
theorem JS {K:MX}{h:N6}{mg:Str->Option M0}(X:K.In h)(G:h.Ns N8 mg){cs:List (Str×D)}(q:zZ K cs=true):∀ p∈cs,∃ v u,mg p.1=some u/\RelV v u/\∀ π n H,IsD K π n H v p.2:=fun p hp=>by
 have t:=OH.mp q p hp
 split at t
 ·rename_i u hu
  obtain ⟨v,r,i⟩:=zY _ _ _ t
  exact ⟨v,u,RK X G hu,r,i⟩
 ·cases t
end L3
namespace L3
open PySem L2
noncomputable def W {α:Type}(o:Option α)(Q:α->Prop):Prop:=∃ r,o=some r/\Q r
section
variable {α β:Type}{o:Option α}{Q:α->Prop}
theorem W_some {r:α}{Q:α->Prop}:W (some r) Q↔Q r:=⟨fun ⟨_,h,q⟩=>by cases h;exact q,fun q=>⟨r,rfl,q⟩⟩
theorem W_none {Q:α->Prop}:W none Q↔False:=⟨fun ⟨_,h,_⟩=>(by cases h),fun h=>h.elim⟩
theorem W_bind {g:α->Option β}{Q:β->Prop}:W (o.bind g) Q↔W o fun r=>W (g r) Q:=by
 cases o with
 | none=>exact ⟨fun ⟨_,h,_⟩=>(by cases h),fun ⟨_,h,_⟩=>(by cases h)⟩
 | some a=>simp [W_some]
theorem fA {g:α->β}{Q:β->Prop}:W (o.map g) Q↔W o fun r=>Q (g r):=by
 cases o with
 | none=>exact ⟨fun ⟨_,h,_⟩=>(by cases h),fun ⟨_,h,_⟩=>(by cases h)⟩
 | some a=>simp [W_some]
theorem bF {Q':α->Prop}(h:W o Q)(k:∀ r,Q r->Q' r):W o Q':=let ⟨r,e,q⟩:=h;⟨r,e,k r q⟩
theorem tF {c:Prop} [Decidable c] {a b:Option α}:W (if c then a else b) Q↔if c then W a Q else W b Q:=by split<;>rfl
end
noncomputable def aM:Option (Fl×aJ×Hm)->Option (D×Hm):=fun o=>o.bind fun p=>match p.1 with|.rt d=>some (d,p.2.2)|.nx=>some (.non,p.2.2)|_=>none
theorem cM {o:Option (Fl×aJ×Hm)}{Q:D×Hm->Prop}:W (aM o) Q↔W o fun p=>match p.1 with|.rt d=>Q (d,p.2.2)|.nx=>Q (.non,p.2.2)|_=>False:=by
 unfold aM
 rw [W_bind]
 constructor
 ·exact fun h=>bF h fun p q=>by
   obtain ⟨fl,ρ,μ⟩:=p
   cases fl<;>simpa [W_some,W_none] using q
 ·exact fun h=>bF h fun p q=>by
   obtain ⟨fl,ρ,μ⟩:=p
   cases fl<;>simpa [W_some,W_none] using q
theorem aX {μ μ':Hm}(h:μ <+: μ'){a:Nat}{c:C}(e:μ[a]? = some c):μ'[a]? = some c:=by
 obtain ⟨t,rfl⟩:=h
 have hl:=(Ng.mp e).1
 rw [NB hl]
 exact e
theorem o8 {μ μ':Hm}(h:μ <+: μ'):μ.length<=μ'.length:=h.length_le
theorem aP (μ:Hm)(c:C):μ <+: μ++[c]:=⟨[c],rfl⟩
theorem jO {μ μ':Hm}(h:μ <+: μ'){a:Nat}(ha:μ.length<=a)(c:C):μ <+: μ'.set a c:=by
 obtain ⟨t,rfl⟩:=h
 rw [Su _ _ ha]
 exact ⟨_,rfl⟩
theorem b7 {a b:MS}{ρ:aJ}{μ:Hm} {Q}:W (aK a b ρ μ) Q↔W (a ρ μ) fun p=>match p.1 with|.nx=>W (b p.2.1 p.2.2) Q|_=>Q p:=by
 unfold aK
 rw [W_bind]
 constructor
 ·exact fun h=>bF h fun p q=>by
   obtain ⟨fl,ρ,μ⟩:=p
   cases fl<;>simpa [W_some,W_none] using q
 ·exact fun h=>bF h fun p q=>by
   obtain ⟨fl,ρ,μ⟩:=p
   cases fl<;>simpa [W_some,W_none] using q
theorem bO {m:ME}{ρ:aJ}{μ:Hm} {Q}:W (aZ m ρ μ) Q↔W (m ρ μ) fun p=>Q (.rt p.1,ρ,p.2):=fA
theorem tG {m:ME}{ρ:aJ}{μ:Hm} {Q}:W (i9 m ρ μ) Q↔W (m ρ μ) fun p=>Q (.nx,ρ,p.2):=fA
theorem b0 {i:Nat}{m:ME}{ρ:aJ}{μ:Hm} {Q}:W (aW i m ρ μ) Q↔W (m ρ μ) fun p=>Q (.nx,ρ.set i (some p.1),p.2):=fA
theorem cN {ρ:aJ}{μ:Hm} {Q}:W (bK ρ μ) Q↔Q (.nx,ρ,μ):=W_some
theorem dD {t:MT}{a b:MS}{ρ:aJ}{μ:Hm} {Q}:W (bL t a b ρ μ) Q↔W (t ρ μ) fun p=>if p.1=true then W (a ρ p.2) Q else W (b ρ p.2) Q:=by
 unfold bL
 rw [W_bind]
 constructor<;>exact fun h=>bF h fun p q=>by
   obtain ⟨x,μ⟩:=p
   cases x<;>simpa using q
theorem JT {t:MT}{a b:ME}{ρ:aJ}{μ:Hm} {Q}:W (j8 t a b ρ μ) Q↔W (t ρ μ) fun p=>if p.1=true then W (a ρ p.2) Q else W (b ρ p.2) Q:=by
 unfold j8
 rw [W_bind]
 constructor<;>exact fun h=>bF h fun p q=>by
   obtain ⟨x,μ⟩:=p
   cases x<;>simpa using q
theorem tH {a b:MT}{ρ:aJ}{μ:Hm} {Q}:W (eV a b ρ μ) Q↔W (a ρ μ) fun p=>if p.1=true then W (b ρ p.2) Q else Q (false,p.2):=by
 unfold eV
 rw [W_bind]
 constructor<;>exact fun h=>bF h fun p q=>by
   obtain ⟨x,μ⟩:=p
   cases x<;>simpa [W_some] using q
theorem tI {a b:MT}{ρ:aJ}{μ:Hm} {Q}:W (fL a b ρ μ) Q↔W (a ρ μ) fun p=>if p.1=true then Q (true,p.2) else W (b ρ p.2) Q:=by
 unfold fL
 rw [W_bind]
 constructor<;>exact fun h=>bF h fun p q=>by
   obtain ⟨x,μ⟩:=p
   cases x<;>simpa [W_some] using q
theorem tJ {a:MT}{ρ:aJ}{μ:Hm} {Q}:W (iH a ρ μ) Q↔W (a ρ μ) fun p=>Q (!p.1,p.2):=fA
theorem aO {f:D->D->Hm->Option (D×Hm)}{a b:ME}{ρ:aJ}{μ:Hm} {Q}:W (aA f a b ρ μ) Q↔W (a ρ μ) fun p=>W (b ρ p.2) fun q=>W (f p.1 q.1 q.2) Q:=by
 unfold aA
 rw [W_bind]
 simp only [W_bind]
theorem aN {d:D}{ρ:aJ}{μ:Hm} {Q}:W (mC d ρ μ) Q↔Q (d,μ):=W_some
theorem aE {d:D}{ρ:aJ}{μ:Hm} {Q}:W (aB 0 (some d::ρ) μ) Q↔Q (d,μ):=by
 show W (some (d,μ)) Q↔_
 exact W_some
theorem aH {i:Nat}{x:Option D}{ρ:aJ}{μ:Hm} {Q}:W (aB (i+1) (x::ρ) μ) Q↔W (aB i ρ μ) Q:=by
 unfold aB
 rw [List.getElem?_cons_succ]
theorem aR {ρ:aJ}{μ:Hm} {Q}:W (aD ρ μ) Q↔Q ([],μ):=W_some
theorem aS {a:ME}{r:MA}{ρ:aJ}{μ:Hm} {Q}:W (aC a r ρ μ) Q↔W (a ρ μ) fun p=>W (r ρ p.2) fun q=>Q (p.1::q.1,q.2):=by
 unfold aC
 simp only [W_bind,W_some]
theorem tK {ms:MA}{ρ:aJ}{μ:Hm} {Q}:W (iI ms ρ μ) Q↔W (ms ρ μ) fun p=>p.1.length<=Nd/\Q (.tup p.1,p.2):=by
 unfold iI
 rw [W_bind]
 constructor<;>exact fun h=>bF h fun p q=>by
  first
  | (rw [tF] at q;split at q
     ·exact ⟨by assumption,W_some.mp q⟩
     ·exact (W_none.mp q).elim)
  | (rw [if_pos q.1];exact W_some.mpr q.2)
theorem fB {ms:MA}{ρ:aJ}{μ:Hm} {Q}:W (bY ms ρ μ) Q↔W (ms ρ μ) fun p=>p.1.length<=Nd/\Q (.loc p.2.length,p.2++[.lst p.1]):=by
 unfold bY
 rw [W_bind]
 constructor<;>exact fun h=>bF h fun p q=>by
  first
  | (rw [tF] at q;split at q
     ·exact ⟨by assumption,W_some.mp q⟩
     ·exact (W_none.mp q).elim)
  | (rw [if_pos q.1];exact W_some.mpr q.2)
theorem a8 {f:MF}{ms:MA}{ρ:aJ}{μ:Hm} {Q}:W (aG f ms ρ μ) Q↔W (ms ρ μ) fun p=>W (f p.1 p.2) Q:=W_bind
theorem cO {m:ME}{ρ:aJ}{μ:Hm} {Q}:W (aU m ρ μ) Q↔W (m ρ μ) fun p=>match p.1 with|.bl b=>Q (b,p.2)|_=>False:=by
 unfold aU
 rw [W_bind]
 constructor<;>exact fun h=>bF h fun p q=>by
  obtain ⟨d,μ⟩:=p
  cases d<;>simpa [W_some,W_none] using q
theorem o9 {m:ME}{ρ:aJ}{μ:Hm} {Q}:W (hW m ρ μ) Q↔W (m ρ μ) fun p=>W (kW p.2 p.1) fun b=>Q (b,p.2):=by
 unfold hW
 simp only [W_bind,fA]
theorem z0 {a:ME}{ρ:aJ}{μ:Hm} {Q}:W (kM a ρ μ) Q↔W (a ρ μ) fun p=>match p.1 with|.int i=>Q (.int (-i),p.2)|_=>False:=by
 unfold kM
 rw [W_bind]
 constructor<;>exact fun h=>bF h fun p q=>by
  obtain ⟨d,μ⟩:=p
  cases d<;>simpa [W_some,W_none,fA,qU] using q
theorem JU {a:ME}{ρ:aJ}{μ:Hm} {Q}:W (j7 a ρ μ) Q↔W (a ρ μ) fun p=>match p.1 with|.bl b=>Q (.bl (!b),p.2)|_=>False:=by
 unfold j7
 rw [W_bind]
 constructor<;>exact fun h=>bF h fun p q=>by
  obtain ⟨d,μ⟩:=p
  cases d<;>simpa [W_some,W_none] using q
theorem pA {a b:ME}{ρ:aJ}{μ:Hm} {Q}:W (fM a b ρ μ) Q↔W (a ρ μ) fun p=>match p.1 with|.bl c=>if c=true then W (b ρ p.2) Q else Q (.bl false,p.2)|_=>False:=by
 unfold fM
 rw [W_bind]
 constructor<;>exact fun h=>bF h fun p q=>by
  obtain ⟨d,μ⟩:=p
  cases d with
  | bl c=>cases c<;>simpa [W_some] using q
  | _=>simpa [W_none] using q
section
variable {i j:Int}{μ:Hm}{Q:D×Hm->Prop}{a b c d e g:D}
theorem w_addI:W (aL (.int i) (.int j) μ) Q↔Q (.int (i+j),μ):=W_some
theorem w_subI:W (bZ (.int i) (.int j) μ) Q↔Q (.int (i - j),μ):=W_some
theorem d4 (h:0<j):W (bH (.int i) (.int j) μ) Q↔Q (.int (i % j),μ):=by
 show W ((if 0<j then some (i % j) else none).map fun z=>(D.int z,μ)) Q↔_
 rw [if_pos h]
 exact W_some
theorem JV:(1073741824:Int)<2 ^ 4000:=by decide +kernel
theorem z4 (h:0<j)(h2:j<2 ^ 4000):W (cV (.int i) (.int j) μ) Q↔Q (.int (i / j),μ):=by
 show W ((if 0<j/\j<2 ^ 4000 then some (i / j) else none).map fun z=>(D.int z,μ)) Q↔_
 rw [if_pos ⟨h,h2⟩]
 exact W_some
theorem iS (h:0<j)(h2:j<1073741824):W (cV (.int i) (.int j) μ) Q↔Q (.int (i / j),μ):=z4 h (UT h2 JV)
theorem z5 (h:i.natAbs<2 ^ 4000/\j.natAbs<2 ^ 4000):W (bG (.int i) (.int j) μ) Q↔Q (.int (i * j),μ):=by
 show W ((if ((-(2 ^ 64)<i/\i<2 ^ 64)\/(-(2 ^ 64)<j/\j<2 ^ 64))\/(i.natAbs<2 ^ 4000/\j.natAbs<2 ^ 4000)\/Nf i+Nf j<=134217728 then some (i * j) else none).map fun z=>(D.int z,μ)) Q↔_
 rw [if_pos (.inr (.inl h))]
 exact W_some
theorem z6 (h:Nf i+Nf j<=134217728):W (bG (.int i) (.int j) μ) Q↔Q (.int (i * j),μ):=by
 show W ((if ((-(2 ^ 64)<i/\i<2 ^ 64)\/(-(2 ^ 64)<j/\j<2 ^ 64))\/(i.natAbs<2 ^ 4000/\j.natAbs<2 ^ 4000)\/Nf i+Nf j<=134217728 then some (i * j) else none).map fun z=>(D.int z,μ)) Q↔_
 rw [if_pos (.inr (.inr h))]
 exact W_some
theorem iT (h:(-(2 ^ 64)<i/\i<2 ^ 64)\/(-(2 ^ 64)<j/\j<2 ^ 64)):W (bG (.int i) (.int j) μ) Q↔Q (.int (i * j),μ):=by
 show W ((if ((-(2 ^ 64)<i/\i<2 ^ 64)\/(-(2 ^ 64)<j/\j<2 ^ 64))\/(i.natAbs<2 ^ 4000/\j.natAbs<2 ^ 4000)\/Nf i+Nf j<=134217728 then some (i * j) else none).map fun z=>(D.int z,μ)) Q↔_
 rw [if_pos (.inl h)]
 exact W_some
theorem lE (h:0<=j/\j<=1000000/\i.natAbs<2 ^ 64):W (bN (.int i) (.int j) μ) Q↔Q (.int (i ^ j.toNat),μ):=by
 show W ((if (0<=j/\j<=1000000/\i.natAbs<2 ^ 64)\/(0<=j/\j<=100/\i.natAbs<2 ^ 4000) then some (i ^ j.toNat) else none).map fun z=>(D.int z,μ)) Q↔_
 rw [if_pos (.inl h)]
 exact W_some
theorem eI:W (bE false (.int i) (.int j) μ) Q↔Q (.bl (i == j),μ):=W_some
theorem tL:W (bE true (.int i) (.int j) μ) Q↔Q (.bl (!(i == j)),μ):=W_some
theorem z7 {x y:Str}:W (bE false (.str x) (.str y) μ) Q↔Q (.bl (x == y),μ):=W_some
theorem z8 {x y:Str}:W (bE true (.str x) (.str y) μ) Q↔Q (.bl (!(x == y)),μ):=W_some
theorem z9 {x y:Bool}:W (bE false (.bl x) (.bl y) μ) Q↔Q (.bl (x == y),μ):=W_some
theorem jP:W (dH (.int i) (.int j) μ) Q↔Q (.bl (decide (i<j)),μ):=W_some
theorem JW:W (kE (.int i) (.int j) μ) Q↔Q (.bl (decide (i<=j)),μ):=W_some
theorem w_gtI:W (gU (.int i) (.int j) μ) Q↔Q (.bl (decide (j<i)),μ):=W_some
theorem Aa:W (jA (.int i) (.int j) μ) Q↔Q (.bl (decide (j<=i)),μ):=W_some
theorem pB {b:Bool}{Q:Bool->Prop}:W (kW μ (.bl b)) Q↔Q b:=W_some
end
theorem bM {μ:Hm}{a:Nat}{xs:List D}{i:Int}{d:D}{Q:D×Hm->Prop}(h:μ[a]? = some (.lst xs))(hi:atI xs i=some d):W (aI (.loc a) (.int i) μ) Q↔Q (d,μ):=by
 have:aI (.loc a) (.int i) μ=some (d,μ):=by
  simp only [aI,dW,bD,h,Nn,hi,NK]
 rw [this]
 exact W_some
end L3
namespace L3
open PySem L2
theorem jQ {m:ME}{ρ:aJ}{μ:Hm}{Q:gE×Nat×Hm->Prop}:W (dI m ρ μ) Q↔W (m ρ μ) fun p=>W (hU p.2 p.1) fun xs=>Q (gF p.1,xs.length+1,p.2):=by
 unfold dI
 simp only [W_bind,fA]
theorem lF {it:MI}{g:MG}{b:MS}{ρ:aJ}{μ:Hm} {Q}:W (fN it g b ρ μ) Q↔W (it ρ μ) fun p=>W (eZ p.1 g b p.2.1 0 ρ p.2.2) Q:=W_bind
theorem jR {j:Int}{ms:MA}{ρ:aJ}{μ:Hm}{Q:gE×Nat×Hm->Prop}:W (dY ms ρ μ) Q↔W (ms ρ μ) fun p=>match p.1 with|[.int j]=>(-(2 ^ 62)<=j/\j<2 ^ 62)/\Q (iN 0 j.toNat,j.toNat+1,p.2)|_=>False:=by
 unfold dY
 rw [W_bind]
 constructor<;>exact fun h=>bF h fun p q=>by
  obtain ⟨l,μ⟩:=p
  match l,q with
  | [],q=>simpa [W_none] using q
  | [d],q=>
   cases d with
   | int j=>
    first
    | (dsimp only at q;rw [tF] at q;split at q
       ·rename_i hb;exact ⟨hb,W_some.mp q⟩
       ·exact (W_none.mp q).elim)
    | (dsimp only;rw [if_pos q.1];exact W_some.mpr q.2)
   | _=>simpa [W_none] using q
  | a::b::l,q=>simpa [W_none] using q
theorem pC {src:gE}{g:MG}{b:MS}{N:Nat}{Q:Fl×aJ×Hm->Prop}(I:Nat->aJ->Hm->Prop)
  (go:∀ i ρ μ,i<N->I i ρ μ->∃ d ρ1,src μ i=some (some d)/\g d ρ μ=some ρ1/\W (b ρ1 μ) fun p=>match p.1 with|.nx=>I (i+1) p.2.1 p.2.2|.ct=>I (i+1) p.2.1 p.2.2|.bk=>Q (.nx,p.2.1,p.2.2)|.rt d=>Q (.rt d,p.2.1,p.2.2))
  (stop:∀ ρ μ,I N ρ μ->src μ N=some none/\Q (.nx,ρ,μ)):∀ (m i:Nat)(ρ:aJ)(μ:Hm),i+m=N->I i ρ μ->W (eZ src g b (m+1) i ρ μ) Q
 | 0,i,ρ,μ,h,hI=>by
  have:i=N:=by omega
  subst this
  obtain ⟨h1,h2⟩:=stop ρ μ hI
  unfold eZ
  rw [h1]
  exact W_some.mpr h2
 | m+1,i,ρ,μ,h,hI=>by
  obtain ⟨d,ρ1,h1,h2,h3⟩:=go i ρ μ (by omega) hI
  unfold eZ
  rw [h1]
  simp only [Nn,h2]
  rw [W_bind]
  refine bF h3 fun p q=>?_
  obtain ⟨fl,ρ2,μ2⟩:=p
  cases fl with
  | nx=>exact pC I go stop m (i+1) ρ2 μ2 (by omega) q
  | ct=>exact pC I go stop m (i+1) ρ2 μ2 (by omega) q
  | bk=>exact W_some.mpr q
  | rt d=>exact W_some.mpr q
theorem JX {a:Nat}{xs:List D}{g:MG}{b:MS}{ρ:aJ}{μ:Hm}{Q:Fl×aJ×Hm->Prop}(I:Nat->aJ->Hm->Prop)(h0:I 0 ρ μ)(hl:∀ i ρ μ,I i ρ μ->μ[a]? = some (.lst xs))
  (go:∀ i d ρ μ,xs[i]? = some d->I i ρ μ->∃ ρ1,g d ρ μ=some ρ1/\W (b ρ1 μ) fun p=>match p.1 with|.nx=>I (i+1) p.2.1 p.2.2|.ct=>I (i+1) p.2.1 p.2.2|.bk=>Q (.nx,p.2.1,p.2.2)|.rt d=>Q (.rt d,p.2.1,p.2.2))
  (stop:∀ ρ μ,I xs.length ρ μ->Q (.nx,ρ,μ)):W (eZ (gF (.loc a)) g b (xs.length+1) 0 ρ μ) Q:=by
 refine pC (N:=xs.length) I (fun i ρ μ hi hI=>?_) (fun ρ μ hI=>⟨?_,stop ρ μ hI⟩) xs.length 0 ρ μ (by omega) h0
 ·have e:xs[i]? = some xs[i]:=Nh hi
  obtain ⟨ρ1,h1,h2⟩:=go i xs[i] ρ μ e hI
  refine ⟨xs[i],ρ1,?_,h1,h2⟩
  simp only [gF,hU,bD,hl i ρ μ hI,NK,e]
 ·simp only [gF,hU,bD,hl _ ρ μ hI,NK]
  simp
theorem mV {lo:Int}{n:Nat}{g:MG}{b:MS}{ρ:aJ}{μ:Hm}{Q:Fl×aJ×Hm->Prop}(I:Nat->aJ->Hm->Prop)(h0:I 0 ρ μ)
  (go:∀ (i:Nat) ρ μ,i<n->I i ρ μ->∃ ρ1,g (.int (lo+i)) ρ μ=some ρ1/\W (b ρ1 μ) fun p=>match p.1 with|.nx=>I (i+1) p.2.1 p.2.2|.ct=>I (i+1) p.2.1 p.2.2|.bk=>Q (.nx,p.2.1,p.2.2)|.rt d=>Q (.rt d,p.2.1,p.2.2))
  (stop:∀ ρ μ,I n ρ μ->Q (.nx,ρ,μ)):W (eZ (iN lo n) g b (n+1) 0 ρ μ) Q:=by
 refine pC (N:=n) I (fun i ρ μ hi hI=>?_) (fun ρ μ hI=>⟨?_,stop ρ μ hI⟩) n 0 ρ μ (by omega) h0
 ·obtain ⟨ρ1,h1,h2⟩:=go i ρ μ hi hI
  exact ⟨_,ρ1,by simp only [iN,if_pos hi],h1,h2⟩
 ·simp only [iN,Oe,if_false]
theorem tN {μ:Hm}{a:Nat}{ys:List D}{y:D}(h:μ[a]? = some (.lst ys))(hl:ys.length<Nd):kI μ a y=some (μ.set a (.lst (ys++[y]))):=by
 unfold kI
 rw [h]
 exact if_pos hl
theorem tO {src:gE}{c:MT}{e:ME}{ρ:aJ}{μ0:Hm}{xs:List D}{p:D->Bool}{v:D->D}{Q:Hm->Prop}(hs:∀ μ i,μ0 <+: μ->src μ i=some xs[i]?)(hl:xs.length<=Nd)
  (hc:∀ d μ,d∈xs->μ0 <+: μ->W (c (ρ++[some d]) μ) fun r=>r.1=p d/\μ <+: r.2)
  (he:∀ d μ,d∈xs->p d=true->μ0 <+: μ->W (e (ρ++[some d]) μ) fun r=>r.1=v d/\μ <+: r.2)
  (aM:∀ μ,μ0 <+: μ->μ[μ0.length]? = some (.lst ((xs.filter p).map v))->Q μ) :
  ∀ (m i:Nat)(μ:Hm),i+m=xs.length->μ0 <+: μ->μ[μ0.length]? = some (.lst (((xs.take i).filter p).map v))->W (eF src l8 c e ρ μ0.length (m+1) i μ) Q
 | 0,i,μ,hi,hp,ha=>by
  have:i=xs.length:=by omega
  subst this
  unfold eF
  rw [hs μ _ hp]
  rw [N1 (Ni _)]
  simp only [Nn]
  refine W_some.mpr (aM μ hp ?_)
  simpa using ha
 | m+1,i,μ,hi,hp,ha=>by
  have hlt:i<xs.length:=by omega
  have hx:xs[i]? = some xs[i]:=Nh hlt
  have hmem:xs[i]∈xs:=PM hlt
  unfold eF
  rw [hs μ _ hp,hx]
  simp only [Nn,l8]
  rw [W_bind]
  refine bF (hc _ μ hmem hp) fun r q=>?_
  obtain ⟨b,μ1⟩:=r
  obtain ⟨q1,q2⟩:=q
  dsimp only at q1 q2 ⊢
  subst q1
  have htake:xs.take (i+1)=xs.take i++[xs[i]]:=by rw [RP,hx];rfl
  have ha1:=aX q2 ha
  cases hpd:p xs[i] with
  | false=>
   refine tO hs hl hc he aM m (i+1) μ1 (by omega) (hp.trans q2) ?_
   rw [ha1,htake,Px]
   simp [hpd]
  | true=>
   dsimp only
   rw [W_bind]
   refine bF (he _ μ1 hmem hpd (hp.trans q2)) fun r q=>?_
   obtain ⟨y,μ2⟩:=r
   obtain ⟨q3,q4⟩:=q
   dsimp only at q3 q4 ⊢
   subst q3
   have ha2:=aX q4 ha1
   have hlen:(((xs.take i).filter p).map v).length<Nd:=by
    have h1:=Sw p (xs.take i)
    rw [MZ]
    rw [Oa] at h1
    omega
   rw [tN ha2 hlen,Nn]
   have hp2:μ0 <+: μ2:=(hp.trans q2).trans q4
   refine tO hs hl hc he aM m (i+1) _ (by omega) (jO hp2 (Ni _) _) ?_
   rw [NR (Ng.mp ha2).1,htake,Px]
   simp [hpd]
theorem iU {it:MI}{c:MT}{e:ME}{ρ:aJ}{μ:Hm}{xs:List D}{p:D->Bool}{v:D->D}{Q:D×Hm->Prop}
  (hit:W (it ρ μ) fun r=>(∀ μ' i,r.2.2 <+: μ'->r.1 μ' i=some xs[i]?)/\r.2.1=xs.length+1/\xs.length<=Nd /\
   (∀ d μ',d∈xs->r.2.2 <+: μ'->W (c (ρ++[some d]) μ') fun s=>s.1=p d/\μ' <+: s.2)/\(∀ d μ',d∈xs->p d=true->r.2.2 <+: μ'->W (e (ρ++[some d]) μ') fun s=>s.1=v d/\μ' <+: s.2) /\
   ∀ μ',r.2.2 <+: μ'->μ'[r.2.2.length]? = some (.lst ((xs.filter p).map v))->Q (.loc r.2.2.length,μ')):W (dJ it c e ρ μ) Q:=by
 unfold dJ e8
 rw [W_bind]
 refine bF hit fun r q=>?_
 obtain ⟨src,n,μ1⟩:=r
 obtain ⟨h1,h2,h3,h4,h5,h6⟩:=q
 dsimp only at h1 h2 h3 h4 h5 h6 ⊢
 subst h2
 rw [fA]
 exact tO h1 h3 h4 h5 h6 xs.length 0 (μ1++[.lst []]) (by omega) (aP _ _) (by simp)
theorem mW {μ:Hm}{a:Nat}{xs:List D}(h:μ[a]? = some (.lst xs)):∀ μ' i,μ <+: μ'->gF (.loc a) μ' i=some xs[i]?:=fun μ' i hp=>by
 simp only [gF,hU,bD,aX hp h,NK]
noncomputable def d5 (lo:Int)(n:Nat):List D:=(NF n).map fun (i:Nat)=>.int (lo+(i:Int))
theorem Ab {lo:Int}{n:Nat}{μ:Hm}:∀ μ' i,μ <+: μ'->iN lo n μ' i=some (d5 lo n)[i]?:=fun μ' i _=>by
 unfold iN d5
 rw [ND]
 by_cases h:i<n
 ·rw [if_pos h,SU h];rfl
 ·rw [if_neg h,N1 (by simpa using PY.mp h)];rfl
noncomputable abbrev P (x y:Int):D:=.tup [.int x,.int y]
theorem d6 {μ:Hm}{a b:Nat}{xs ys:List D}{Q:D×Hm->Prop}(ha:μ[a]? = some (.lst xs))(hb:μ[b]? = some (.lst ys))(hl:xs.length+ys.length<=Nd):W (aL (.loc a) (.loc b) μ) Q↔Q (.loc μ.length,μ++[.lst (xs++ys)]):=by
 simp only [aL,ha,hb,if_pos hl]
 exact W_some
theorem JY {ρ:aJ}{μ:Hm}{Q:List (aF×D)×Hm->Prop}:W (jD [] ρ μ) Q↔Q ([],μ):=W_some
theorem JZ {k v:ME}{r:List (ME×ME)}{ρ:aJ}{μ:Hm}{Q:List (aF×D)×Hm->Prop}:W (jD ((k,v)::r) ρ μ) Q↔W (k ρ μ) fun p=>W (v ρ p.2) fun q=>W (gY p.1) fun kk=>W (jD r ρ q.2) fun t=>Q ((kk,q.1)::t.1,t.2):=by
 show W ((k ρ μ).bind _) Q↔_
 simp only [W_bind,fA]
theorem J0 {x:Str}{Q:aF->Prop}:W (gY (.str x)) Q↔Q (.inr x):=W_some
theorem J1 {prs:List (ME×ME)}{ρ:aJ}{μ:Hm}{Q:D×Hm->Prop}(h:W (jD prs ρ (μ++[.dK []])) fun p=>p.2[μ.length]? = some (.dK [])/\p.1.length<=15/\Q (.loc μ.length,p.2.set μ.length (.dK (mD [] p.1)))):W (jE prs ρ μ) Q:=by
 unfold jE
 rw [W_bind]
 refine bF h fun p q=>?_
 obtain ⟨q1,q2,q3⟩:=q
 rw [q1]
 dsimp only
 rw [if_pos q2]
 exact W_some.mpr q3
theorem J2 {μ:Hm}{a:Nat}{kvs:List (aF×D)}{y d:D}{k:aF}{Q:D×Hm->Prop}(h:μ[a]? = some (.dK kvs))(hk:gY y=some k)(hv:e6 kvs k=some d):W (aI (.loc a) y μ) Q↔Q (d,μ):=by
 have:aI (.loc a) y μ=some (d,μ):=by
  simp only [aI,h,hk,Nn,hv,NK]
 rw [this]
 exact W_some
theorem J3 {f:D->List D->Hm->Option (D×Hm)}{mo:ME}{ms:MA}{ρ:aJ}{μ:Hm}{Q:D×Hm->Prop}(h:W (mo ρ μ) fun p=>kR p.2 p.1=true/\W (ms ρ p.2) fun q=>W (f p.1 q.1 q.2) Q):W (kS f mo ms ρ μ) Q:=by
 unfold kS
 rw [W_bind]
 refine bF h fun p q=>?_
 rw [q.1]
 exact W_bind.mpr q.2
theorem J4 {μ:Hm}{a:Nat}{xs:List D}(h:μ[a]? = some (.lst xs)):kR μ (.loc a)=true:=by
 simp only [kR,h]
theorem J5 {μ:Hm}{a:Nat}{xs:List D}{y:D}{Q:D×Hm->Prop}(h:μ[a]? = some (.lst xs))(hl:xs.length<Nd):W (kU (.loc a) [y] μ) Q↔Q (.non,μ.set a (.lst (xs++[y]))):=by
 simp only [kU,tN h hl,NK]
 exact W_some
theorem J6 {μ:Hm}{i:Int}{Q:D×Hm->Prop}:W (iL [.int i,.ty "bool"] μ) Q↔Q (.bl false,μ):=W_some
theorem Ac {μ:Hm}{i:Int}{Q:D×Hm->Prop}:W (iL [.int i,.ty "int"] μ) Q↔Q (.bl true,μ):=W_some
theorem fC {μ:Hm}{a:Nat}{xs:List D}{Q:D×Hm->Prop}(h:μ[a]? = some (.lst xs)):W (cL [.loc a] μ) Q↔Q (.int xs.length,μ):=by
 simp only [cL,l9,bD,h,NK]
 exact W_some
theorem J7 {μ:Hm}{xs:List D}{Q:D×Hm->Prop}:W (cL [.rol xs] μ) Q↔Q (.int xs.length,μ):=W_some
theorem lG {μ:Hm}{a:Nat}{xs:List D}{Q:List D->Prop}(h:μ[a]? = some (.lst xs)):W (hU μ (.loc a)) Q↔Q xs:=by
 simp only [hU,bD,h]
 exact W_some
theorem J8 {μ:Hm}{x:Str}{Q:List D->Prop}:W (hU μ (.str x)) Q↔Q (hJ x):=W_some
theorem J9 {x:Str}{μ:Hm}:∀ μ' i,μ <+: μ'->gF (.str x) μ' i=some (hJ x)[i]?:=fun μ' i hp=>rfl
theorem eJ {ρ:aJ}{μ:Hm}{Q:Option Int×Hm->Prop}:W (cK ρ μ) Q↔Q (none,μ):=W_some
theorem d7 {m:ME}{ρ:aJ}{μ:Hm}{Q:Option Int×Hm->Prop}:W (b6 m ρ μ) Q↔W (m ρ μ) fun p=>match p.1 with|.int i=>Q (some i,p.2)|_=>False:=by
 unfold b6
 rw [W_bind]
 constructor<;>exact fun h=>bF h fun p q=>by
  obtain ⟨d,μ⟩:=p
  cases d<;>simpa [W_some,W_none] using q
theorem fD {a:ME}{lo hi:MO}{ρ:aJ}{μ:Hm}{Q:D×Hm->Prop}(h:W (a ρ μ) fun p=>∃ l,p.1=.loc l/\W (lo ρ p.2) fun q=>W (hi ρ q.2) fun r=>∃ xs,r.2[l]? = some (.lst xs)/\Q (.loc r.2.length,r.2++[.lst (dG xs q.1 r.1)])):W (cP a lo hi ρ μ) Q:=by
 unfold cP
 rw [W_bind]
 refine bF h fun p q=>?_
 obtain ⟨d,μ1⟩:=p
 obtain ⟨l,q1,q2⟩:=q
 dsimp only at q1 q2 ⊢
 subst q1
 rw [W_bind]
 refine bF q2 fun s q=>?_
 rw [W_bind]
 refine bF q fun r q=>?_
 obtain ⟨xs,q3,q4⟩:=q
 simp only [bD,q3,Nn]
 exact W_some.mpr q4
theorem bB (μ:Hm)(c:C):(μ++[c])[μ.length]? = some c:=by simp
end L3
namespace L3
open PySem L2
section
variable {i j:Int}{μ:Hm}{Q:D×Hm->Prop}
theorem Ka {b:Bool}:W (dE true (.int i) (.bl b) μ) Q↔Q (.bl true,μ):=W_some
theorem Kb:W (dE false .non .non μ) Q↔Q (.bl true,μ):=W_some
theorem w_isnotNN:W (dE true .non .non μ) Q↔Q (.bl false,μ):=W_some
theorem Kc {a:Nat}:W (dE false (.loc a) .non μ) Q↔Q (.bl false,μ):=W_some
theorem w_isnotLN {a:Nat}:W (dE true (.loc a) .non μ) Q↔Q (.bl true,μ):=W_some
theorem Kd:W (dP [.int i,.int j] μ) Q↔Q (.int (min i j),μ):=by
 have:(if j<i then j else i)=min i j:=by split<;>omega
 show W (some (D.int (if j<i then j else i),μ)) Q↔_
 rw [this]
 exact W_some
theorem pD:∀ is:List Int,hV (is.map D.int)=some is
 | []=>rfl
 | i::is=>by
  show (hV (is.map D.int)).map (i::·)=_
  rw [pD is];rfl
theorem tP {a:Nat}{is:List Int}(h:μ[a]? = some (.lst (is.map D.int))):W (iA [.loc a] μ) Q↔Q (.int is.sum,μ):=by
 simp only [iA,bD,h,Nn,pD,NK]
 exact W_some
theorem Ke {a:Nat}{bs:List Bool}(h:μ[a]? = some (.lst (bs.map D.bl))):W (oB [.loc a] μ) Q↔Q (.bl (bs.all id),μ):=by
 have e:∀ bs:List Bool,kY (bs.map D.bl)=some bs:=fun bs=>by
  induction bs with
  | nil=>rfl
  | cons b bs ih=>
   show (kY (bs.map D.bl)).map (b::·)=_
   rw [ih];rfl
 simp only [oB,bD,h,Nn,e,NK]
 exact W_some
end
theorem Ad {a:ME}{lo hi st:MO}{ρ:aJ}{μ:Hm}{Q:D×Hm->Prop}(h:W (a ρ μ) fun p=>∃ l,p.1=.loc l/\W (lo ρ p.2) fun q=>W (hi ρ q.2) fun r=>W (st ρ r.2) fun t=>t.1≠some 0/\∃ xs,t.2[l]? = some (.lst xs)/\(c9 xs q.1 r.1 t.1).length<=Nd/\Q (.loc t.2.length,t.2++[.lst (c9 xs q.1 r.1 t.1)])):W (k5 a lo hi st ρ μ) Q:=by
 unfold k5
 rw [W_bind]
 refine bF h fun p q=>?_
 obtain ⟨d,μ1⟩:=p
 obtain ⟨l,q1,q2⟩:=q
 dsimp only at q1 q2 ⊢
 subst q1
 rw [W_bind]
 refine bF q2 fun s q=>?_
 rw [W_bind]
 refine bF q fun r q=>?_
 rw [W_bind]
 refine bF q fun t q=>?_
 obtain ⟨h0,xs,q3,q4,q5⟩:=q
 rw [if_pos h0]
 simp only [dC,q3,Nn]
 rw [if_pos q4]
 exact W_some.mpr q5
theorem Ae {ms:MA}{ρ:aJ}{μ:Hm}{Q:gE×Nat×Hm->Prop}(h:W (ms ρ μ) fun p=>∃ a xs,p.1=[.loc a]/\p.2[a]? = some (.lst xs)/\Q (mH (.loc a),xs.length+1,p.2)):W (k6 ms ρ μ) Q:=by
 unfold k6
 rw [W_bind]
 refine bF h fun p q=>?_
 obtain ⟨l,μ1⟩:=p
 obtain ⟨a,xs,q1,q2,q3⟩:=q
 dsimp only at q1 q2 q3 ⊢
 subst q1
 dsimp only
 simp only [dC,q2,NK]
 exact W_some.mpr q3
noncomputable def fS:Nat->List D->List D
 | _,[]=>[]
 | n,d::r=>.tup [.int n,d]::fS (n+1) r
theorem mX:∀ (xs:List D)(n i:Nat),(fS n xs)[i]? = (xs[i]?).map fun d=>.tup [.int ((n+i:Nat):Int),d]
 | [],n,i=>by simp [fS]
 | d::r,n,0=>by simp [fS]
 | d::r,n,i+1=>by
  show (fS (n+1) r)[i]? = _
  rw [mX r (n+1) i,show n+1+i=n+(i+1) by omega]
  simp
theorem tQ:∀ (xs:List D)(n:Nat),(fS n xs).length=xs.length
 | [],_=>rfl
 | d::r,n=>by rw [fS,Na,tQ r,Na]
theorem tR {μ:Hm}{a:Nat}{xs:List D}(h:μ[a]? = some (.lst xs)):∀ μ' i,μ <+: μ'->mH (.loc a) μ' i=some (fS 0 xs)[i]?:=fun μ' i hp=>by
 simp only [mH,bD,aX hp h,NK,mX]
 congr 3
 simp
theorem pE {src:gE}{bd:BD}{c:MT}{e:ME}{ρ:aJ}{a N:Nat}{Q:Hm->Prop}(I:Nat->List D->Hm->Prop)(hN:N<=Nd)(hlen:∀ i ys μ,I i ys μ->ys.length<=i)
  (go:∀ i ys μ,i<N->I i ys μ->μ[a]? = some (.lst ys)->∃ d x,src μ i=some (some d)/\bd d μ=some x/\W (c (ρ++x) μ) fun r=>(r.1=false->r.2[a]? = some (.lst ys)/\I (i+1) ys r.2) /\
   (r.1=true->W (e (ρ++x) r.2) fun s=>s.2[a]? = some (.lst ys)/\I (i+1) (ys++[s.1]) (s.2.set a (.lst (ys++[s.1])))))
  (stop:∀ ys μ,I N ys μ->μ[a]? = some (.lst ys)->src μ N=some none/\Q μ):∀ (m i:Nat)(ys:List D)(μ:Hm),i+m=N->I i ys μ->μ[a]? = some (.lst ys)->W (eF src bd c e ρ a (m+1) i μ) Q
 | 0,i,ys,μ,h,hI,hg=>by
  have:i=N:=by omega
  subst this
  obtain ⟨h1,h2⟩:=stop ys μ hI hg
  unfold eF
  rw [h1]
  exact W_some.mpr h2
 | m+1,i,ys,μ,h,hI,hg=>by
  obtain ⟨d,x,h1,h2,h3⟩:=go i ys μ (by omega) hI hg
  unfold eF
  rw [h1]
  simp only [Nn,h2]
  rw [W_bind]
  refine bF h3 fun r q=>?_
  obtain ⟨b,μ1⟩:=r
  cases b with
  | false=>
   obtain ⟨q1,q2⟩:=q.1 rfl
   exact pE I hN hlen go stop m (i+1) ys μ1 (by omega) q2 q1
  | true=>
   dsimp only
   rw [W_bind]
   refine bF (q.2 rfl) fun s q=>?_
   obtain ⟨y,μ2⟩:=s
   obtain ⟨q1,q2⟩:=q
   dsimp only at q1 q2 ⊢
   have hl:=hlen i ys μ hI
   rw [tN q1 (by omega),Nn]
   refine pE I hN hlen go stop m (i+1) _ _ (by omega) q2 ?_
   rw [NR (Ng.mp q1).1]
theorem Kf {bd:BD}{it:MI}{c:MT}{e:ME}{ρ:aJ}{μ:Hm}{Q:D×Hm->Prop}
  (hit:W (it ρ μ) fun r=>∃ (N:Nat)(I:Nat->List D->Hm->Prop),r.2.1=N+1/\N<=Nd/\(∀ i ys μ,I i ys μ->ys.length<=i)/\I 0 [] (r.2.2++[.lst []]) /\
   (∀ i ys μ,i<N->I i ys μ->μ[r.2.2.length]? = some (.lst ys)->∃ d x,r.1 μ i=some (some d)/\bd d μ=some x/\W (c (ρ++x) μ) fun p=>(p.1=false->p.2[r.2.2.length]? = some (.lst ys)/\I (i+1) ys p.2) /\
    (p.1=true->W (e (ρ++x) p.2) fun s=>s.2[r.2.2.length]? = some (.lst ys)/\I (i+1) (ys++[s.1]) (s.2.set r.2.2.length (.lst (ys++[s.1]))))) /\
   (∀ ys μ,I N ys μ->μ[r.2.2.length]? = some (.lst ys)->r.1 μ N=some none/\Q (.loc r.2.2.length,μ))):W (e8 bd it c e ρ μ) Q:=by
 unfold e8
 rw [W_bind]
 refine bF hit fun r q=>?_
 obtain ⟨src,n,μ1⟩:=r
 obtain ⟨N,I,h1,h2,h3,h4,h5,h6⟩:=q
 dsimp only at h1 h2 h3 h4 h5 h6 ⊢
 subst h1
 rw [fA]
 exact pE I h2 h3 h5 h6 N 0 [] _ (by omega) h4 (by simp)
theorem Kg {src:gE}{bd:BD}{c:MT}{e:ME}{ρ:aJ}{μ0:Hm}{xs:List D}{x:D->aJ}{p:D->Bool}{v:D->D}{Q:Hm->Prop}(hs:∀ μ i,μ0 <+: μ->src μ i=some xs[i]?)(hl:xs.length<=Nd)(hb:∀ d μ,d∈xs->bd d μ=some (x d))
  (hc:∀ d μ,d∈xs->μ0 <+: μ->W (c (ρ++x d) μ) fun r=>r.1=p d/\μ <+: r.2)
  (he:∀ d μ,d∈xs->p d=true->μ0 <+: μ->W (e (ρ++x d) μ) fun r=>r.1=v d/\μ <+: r.2)
  (aM:∀ μ,μ0 <+: μ->μ[μ0.length]? = some (.lst ((xs.filter p).map v))->Q μ):W (eF src bd c e ρ μ0.length (xs.length+1) 0 (μ0++[.lst []])) Q:=by
 refine pE (N:=xs.length) (fun i ys μ=>ys=((xs.take i).filter p).map v/\μ0 <+: μ) hl ?_ ?_ ?_ xs.length 0 [] _ (by omega) ⟨by simp,aP _ _⟩ (by simp)
 ·rintro i ys μ ⟨rfl,_⟩
  rw [MZ]
  refine N9 (Sw _ _) ?_
  rw [Oa];omega
 ·rintro i ys μ hi ⟨rfl,hp⟩ hg
  have hx:xs[i]? = some xs[i]:=Nh hi
  have hmem:xs[i]∈xs:=PM hi
  have htake:xs.take (i+1)=xs.take i++[xs[i]]:=by rw [RP,hx];rfl
  refine ⟨xs[i],x xs[i],by rw [hs μ i hp,hx],hb _ _ hmem,bF (hc _ μ hmem hp) fun r q=>?_⟩
  obtain ⟨b,μ1⟩:=r
  obtain ⟨q1,q2⟩:=q
  dsimp only at q1 q2 ⊢
  refine ⟨fun hb'=>⟨aX q2 hg,?_,hp.trans q2⟩,fun hb'=>?_⟩
  ·rw [htake,Px]
   rw [hb'] at q1
   simp [<- q1]
  ·rw [hb'] at q1
   refine bF (he _ μ1 hmem q1.symm (hp.trans q2)) fun s q=>?_
   obtain ⟨y,μ2⟩:=s
   obtain ⟨q3,q4⟩:=q
   dsimp only at q3 q4 ⊢
   subst q3
   refine ⟨aX (q2.trans q4) hg,?_,jO ((hp.trans q2).trans q4) (Ni _) _⟩
   rw [htake,Px,NJ]
   simp [<- q1]
 ·rintro ys μ ⟨rfl,hp⟩ hg
  refine ⟨by rw [hs μ _ hp];simp,aM μ hp ?_⟩
  rw [TV] at hg
  exact hg
theorem Kh {bd:BD}{it:MI}{c:MT}{e:ME}{ρ:aJ}{μ:Hm}{xs:List D}{x:D->aJ}{p:D->Bool}{v:D->D}{Q:D×Hm->Prop}
  (hit:W (it ρ μ) fun r=>(∀ μ' i,r.2.2 <+: μ'->r.1 μ' i=some xs[i]?)/\r.2.1=xs.length+1/\xs.length<=Nd/\(∀ d μ',d∈xs->bd d μ'=some (x d)) /\
   (∀ d μ',d∈xs->r.2.2 <+: μ'->W (c (ρ++x d) μ') fun s=>s.1=p d/\μ' <+: s.2)/\(∀ d μ',d∈xs->p d=true->r.2.2 <+: μ'->W (e (ρ++x d) μ') fun s=>s.1=v d/\μ' <+: s.2) /\
   ∀ μ',r.2.2 <+: μ'->μ'[r.2.2.length]? = some (.lst ((xs.filter p).map v))->Q (.loc r.2.2.length,μ')):W (e8 bd it c e ρ μ) Q:=by
 unfold e8
 rw [W_bind]
 refine bF hit fun r q=>?_
 obtain ⟨src,n,μ1⟩:=r
 obtain ⟨h1,h2,h3,h4,h5,h6,h7⟩:=q
 dsimp only at h1 h2 h3 h4 h5 h6 h7 ⊢
 subst h2
 rw [fA]
 exact Kg h1 h3 h4 h5 h6 h7
theorem w_mTrue {ρ:aJ}{μ:Hm}{Q:Bool×Hm->Prop}:W (dB ρ μ) Q↔Q (true,μ):=W_some
theorem Af {o i v:ME}{ρ:aJ}{μ:Hm} {Q}:W (iP o i v ρ μ) Q↔W (v ρ μ) fun p=>W (o ρ p.2) fun q=>W (i ρ q.2) fun r=>W (mI q.1 r.1 p.1 r.2) fun μ'=>Q (.nx,ρ,μ'):=by
 unfold iP jH
 simp only [W_bind,fA]
theorem Ag {μ:Hm}{a:Nat}{xs:List D}{i:Int}{j:Nat}{d:D}{Q:Hm->Prop}(h:μ[a]? = some (.lst xs))(hi:dS xs.length i=some j):W (mI (.loc a) (.int i) d μ) Q↔Q (μ.set a (.lst (xs.set j d))):=by
 simp only [mI,k7,h,hi,NK]
 exact W_some
theorem Ki {f:D->List D->Hm->Option (D×Hm)}{mo:ME}{ms:MA}{ρ:aJ}{μ:Hm}{Q:D×Hm->Prop}(h:W (mo ρ μ) fun p=>∃ x,p.1=.str x/\W (ms ρ p.2) fun q=>W (f (.str x) q.1 q.2) Q):W (k9 f mo ms ρ μ) Q:=by
 obtain ⟨⟨d,μ1⟩,h1,x,h2,⟨ys,μ2⟩,h3,h4⟩:=h
 dsimp only at h2 h3 h4
 subst h2
 obtain ⟨r,h5,h6⟩:=h4
 refine ⟨r,?_,h6⟩
 simp only [k9,h1,Nn,h3]
 exact h5
theorem tS:∀ ss:List Str,k8 (ss.map D.str)=some ss
 | []=>rfl
 | x::ss=>by
  rw [Nj]
  simp only [k8,tS ss,NK]
theorem Kj {μ:Hm}{a:Nat}{sep:Str}{ss:List Str}{Q:D×Hm->Prop}(h:μ[a]? = some (.lst (ss.map D.str)))(h1:PH (ss.toArray.foldl (·+·.length+sep.length) 0)=false)(h2:(Oq sep ss).length<=Nd) :
  W (jI (.str sep) [.loc a] μ) Q↔Q (.str (Oq sep ss),μ):=by
 simp only [jI,dC,h,Nn,tS]
 rw [if_pos ⟨h1,h2⟩]
 exact W_some
theorem Kk {μ:Hm}{a:Nat}{ss:List Str}{Q:D×Hm->Prop}(h:μ[a]? = some (.lst (ss.map D.str)))(h1:2<=ss.length)(h2:ss.length<128)(hd:kZ ss=true):W (jJ [.loc a] μ) Q↔Q (.loc μ.length,μ++[.lst (ss.reverse.map D.str)]):=by
 have n0:hV (ss.map D.str)=none:=by
  cases ss with
  | nil=>simp at h1
  | cons=>rfl
 have i0:mK [.loc a] μ=none:=by
  simp only [mK,dC,h,Nn,n0,Option.bind_none]
 have s0:mL [.loc a] μ=some (.loc μ.length,μ++[.lst (ss.reverse.map D.str)]):=by
  simp only [mL,dC,h,Nn,tS]
  rw [if_pos ⟨h1,h2,hd⟩]
 simp only [jJ,i0,s0]
 exact W_some
theorem Kl {μ:Hm}{a:Nat}{xs:List D}{Q:D×Hm->Prop}(h:μ[a]? = some (.lst xs)):W (iB [.loc a] μ) Q↔Q (.loc μ.length,μ++[.lst xs.reverse]):=by
 simp only [iB,h]
 exact W_some
theorem Km {z:Str}{i:Int}{c:Nat}{μ:Hm}{Q:D×Hm->Prop}(hz:z.length<=Nd)(h:atI z.cps.toList i=some c):W (aI (.str z) (.int i) μ) Q↔Q (.str ⟨#[c]⟩,μ):=by
 have:aI (.str z) (.int i) μ=some (.str ⟨#[c]⟩,μ):=by
  simp only [aI,dW]
  rw [if_pos hz,h];rfl
 rw [this]
 exact W_some
theorem Kn {x y:Str}{μ:Hm}{Q:D×Hm->Prop}(h:x.length+y.length<=Nd):W (aL (.str x) (.str y) μ) Q↔Q (.str (x++y),μ):=by
 have:aL (.str x) (.str y) μ=some (.str (x++y),μ):=by
  simp only [aL];rw [if_pos h]
 rw [this]
 exact W_some
end L3
namespace Lw
open PySem L2 L3
noncomputable def ds:List (Str×Stmt):=[("is_whole",aY 4),("is_good",aY 6),("check_round",aY 7),("wedges_by",aY 9),("is_crimp",aY 10),("brought_ahead",aY 11),("is_turned_part",aY 12),("crimped",aY 13),("last_two",aY 14),("folded_order",aY 15),("rows_of",aY 16),("all_marks",aY 17),("ways_to_choose",aY 18),("least_ahead",aY 19),("run_of_least",aY 20),("ways_to_fold",aY 21),("how_many",aY 22),("_law_nth",aY 24),("_law_int",aY 25),("_law_digits",aY 26),("_law_gaps",aY 27),("_law_other",aY 28),("law",aY 29)]
noncomputable def S:Sig:=⟨[("is_whole",1),("is_good",1),("check_round",1),("wedges_by",2),("is_crimp",3),("brought_ahead",1),("is_turned_part",1),("crimped",3),("last_two",2),("folded_order",2),("rows_of",1),("all_marks",1),("ways_to_choose",2),("least_ahead",1),("run_of_least",1),("ways_to_fold",1),("how_many",1),("_law_nth",2),("_law_int",1),("_law_digits",3),("_law_gaps",2),("_law_other",1),("law",1)],[],[],["all","bool","enumerate","int","isinstance","len","list","max","min","range","reversed","sorted","sum"],[],[],[]⟩
@[irreducible] noncomputable def f (k:Nat)(x:Str):MF:=gI S ds k x
end Lw
namespace Lw
open PySem L2 L3
theorem Ko (k:Nat)(d0:D)(μ:Hm):f (k+1) "is_whole" [d0] μ=aM ((aZ (fM (aG iL (aC (aB 0) (aC (mC (.ty "int")) aD))) (j7 (aG iL (aC (aB 0) (aC (mC (.ty "bool")) aD)))))) [some d0] μ):=by
 kernel_rfl
theorem Kp (k:Nat)(d0:D)(μ:Hm):f (k+1) "is_good" [d0] μ=aM ((aK (bL (fL (aU (aA gU (aG cL (aC (aB 0) aD)) (mC (.int 8)))) (aU (aA (bE false) (aA bH (aG cL (aC (aB 0) aD)) (mC (.int 2))) (mC (.int 1))))) (aZ (mC (.bl false))) bK) (aK (bL (iH (hW (aG oB (aC (dJ (dI (aB 0)) dB (fM (aG (f k "is_whole") (aC (aB 1) aD)) (aA jA (aB 1) (mC (.int 1))))) aD)))) (aZ (mC (.bl false))) bK) (aZ (aA (bE false) (aG iA (aC (k5 (aB 0) cK cK (b6 (mC (.int 2)))) aD)) (aG iA (aC (k5 (aB 0) (b6 (mC (.int 1))) cK (b6 (mC (.int 2)))) aD)))))) [some d0] μ):=by
 kernel_rfl
theorem Kq (k:Nat)(d0:D)(μ:Hm):f (k+1) "check_round" [d0] μ=aM ((bL (fL (aU (aA dH (aG cL (aC (aB 0) aD)) (mC (.int 2)))) (iH (hW (aG (f k "is_good") (aC (aB 0) aD))))) eG bK) [some d0] μ):=by
 kernel_rfl
theorem Kr (k:Nat)(d0 d1:D)(μ:Hm):f (k+1) "wedges_by" [d0,d1] μ=aM ((aZ (e8 (nV 2) (k6 (aC (aB 0) aD)) dB (iI (aC (aB 3) (aC (aA aI (aB 1) (aB 2)) (aC (bY (aC (aB 2) aD)) aD)))))) [some d0,some d1] μ):=by
 kernel_rfl
theorem Ks (k:Nat)(d0 d1 d2:D)(μ:Hm):f (k+1) "is_crimp" [d0,d1,d2] μ=aM ((aZ (fM (aA kE (aA aI (aB 1) (mC (.int 0))) (aA aI (aB 0) (mC (.int 0)))) (fM (aA kE (aA aI (aB 1) (mC (.int 0))) (aA aI (aB 2) (mC (.int 0)))) (aA (bE true) (aA aI (aB 1) (mC (.int 1))) (aA aI (aB 2) (mC (.int 1))))))) [some d0,some d1,some d2] μ):=by
 kernel_rfl
theorem Kt (k:Nat)(d0:D)(μ:Hm):f (k+1) "brought_ahead" [d0] μ=aM ((aK (fN (dY (aC (aG cL (aC (aB 0) aD)) aD)) (eY 1) (aK (aW 2 (aA aL (cP (aB 0) (b6 (aB 1)) cK) (cP (aB 0) cK (b6 (aB 1))))) (bL (hW (aG (f k "is_crimp") (aC (aA aI (aB 2) (mC (.int 0))) (aC (aA aI (aB 2) (mC (.int 1))) (aC (aA aI (aB 2) (mC (.int 2))) aD))))) (aZ (aB 2)) bK))) (aZ (mC .non))) [some d0,none,none] μ):=by
 kernel_rfl
theorem Ku (k:Nat)(d0:D)(μ:Hm):f (k+1) "is_turned_part" [d0] μ=aM ((aZ (aA (bE false) (aA bH (aA aI (aA aI (aB 0) (mC (.int 2))) (mC (.int 0))) (mC (.int 2))) (mC (.int 1)))) [some d0] μ):=by
 kernel_rfl
theorem Kv (k:Nat)(d0 d1 d2:D)(μ:Hm):f (k+1) "crimped" [d0,d1,d2] μ=aM ((aK (aW 3 (aA aL (aA bZ (aA aI (aB 0) (mC (.int 0))) (aA aI (aB 1) (mC (.int 0)))) (aA aI (aB 2) (mC (.int 0))))) (aK (bL (aU (aA (bE false) (aA (bE false) (aA aI (aB 1) (mC (.int 1))) (mC (.str "v"))) (aG (f k "is_turned_part") (aC (aB 1) aD)))) (aZ (iI (aC (aB 3) (aC (aA aI (aB 0) (mC (.int 1))) (aC (aA aL (aA aL (aA aI (aB 0) (mC (.int 2))) (aA aI (aB 1) (mC (.int 2)))) (aA aI (aB 2) (mC (.int 2)))) aD))))) bK) (aZ (iI (aC (aB 3) (aC (aA aI (aB 0) (mC (.int 1))) (aC (aA aL (aA aL (aA aI (aB 2) (mC (.int 2))) (aA aI (aB 1) (mC (.int 2)))) (aA aI (aB 0) (mC (.int 2)))) aD))))))) [some d0,some d1,some d2,none] μ):=by
 kernel_rfl
theorem Kw (k:Nat)(d0 d1:D)(μ:Hm):f (k+1) "last_two" [d0,d1] μ=aM ((aK (bL (aU (aA (bE true) (aA aI (aB 0) (mC (.int 1))) (aA aI (aB 1) (mC (.int 1))))) (aZ (mC .non)) bK) (aK (bL (aU (aA (bE false) (aA (bE false) (aA aI (aB 0) (mC (.int 1))) (mC (.str "v"))) (aG (f k "is_turned_part") (aC (aB 0) aD)))) (aZ (aA aL (aA aI (aB 1) (mC (.int 2))) (aA aI (aB 0) (mC (.int 2))))) bK) (aZ (aA aL (aA aI (aB 0) (mC (.int 2))) (aA aI (aB 1) (mC (.int 2))))))) [some d0,some d1] μ):=by
 kernel_rfl
theorem Ky (k:Nat)(d0 d1:D)(μ:Hm):f (k+1) "folded_order" [d0,d1] μ=aM ((aK (aW 2 (aG (f k "wedges_by") (aC (aB 0) (aC (aB 1) aD)))) (aK (kX lC (aU (aA gU (aG cL (aC (aB 2) aD)) (mC (.int 2)))) (aK (aW 3 (aG (f k "brought_ahead") (aC (aB 2) aD))) (aK (bL (aU (aA (dE false) (aB 3) (mC .non))) (aZ (mC .non)) bK) (aW 2 (aA aL (bY (aC (aG (f k "crimped") (aC (aA aI (aB 3) (mC (.int 0))) (aC (aA aI (aB 3) (mC (.int 1))) (aC (aA aI (aB 3) (mC (.int 2))) aD)))) aD)) (cP (aB 3) (b6 (mC (.int 3))) cK)))))) (aZ (aG (f k "last_two") (aC (aA aI (aB 2) (mC (.int 0))) (aC (aA aI (aB 2) (mC (.int 1))) aD)))))) [some d0,some d1,none,none] μ):=by
 kernel_rfl
theorem Kz (k:Nat)(d0:D)(μ:Hm):f (k+1) "rows_of" [d0] μ=aM ((aK (aW 1 (bY (aC (mC (.str "")) aD))) (aK (fN (dY (aC (aB 0) aD)) (eY 2) (aW 1 (aA aL (dJ (dI (aB 1)) dB (aA aL (mC (.str "h")) (aB 3))) (dJ (dI (aB 1)) dB (aA aL (mC (.str "v")) (aB 3)))))) (aZ (aB 1)))) [some d0,none,none] μ):=by
 kernel_rfl
theorem KA (k:Nat)(d0:D)(μ:Hm):f (k+1) "all_marks" [d0] μ=aM ((aK (i9 (aG (f k "check_round") (aC (aB 0) aD))) (aZ (dJ (dI (aG (f k "rows_of") (aC (aG cL (aC (aB 0) aD)) aD))) (aU (aA (dE true) (aG (f k "folded_order") (aC (aB 0) (aC (aB 1) aD))) (mC .non))) (aB 1)))) [some d0] μ):=by
 kernel_rfl
theorem KG (k:Nat)(d0 d1:D)(μ:Hm):f (k+1) "ways_to_choose" [d0,d1] μ=aM ((aK (aW 2 (mC (.int 1))) (aK (fN (dY (aC (aB 0) aD)) (eY 3) (aW 2 (aA cV (aA bG (aB 2) (aA bZ (aB 1) (aB 3))) (aA aL (aB 3) (mC (.int 1)))))) (aZ (aB 2)))) [some d0,some d1,none,none] μ):=by
 kernel_rfl
theorem KH (k:Nat)(d0:D)(μ:Hm):f (k+1) "least_ahead" [d0] μ=aM ((aK (aW 1 (aG dP (aC (aB 0) aD))) (aK (aW 2 (aA aI (e8 (nV 2) (k6 (aC (aB 0) aD)) (eV (aU (aA (bE false) (aB 4) (aB 1))) (aU (aA gU (aA aI (aB 0) (aA bZ (aB 3) (mC (.int 1)))) (aB 1)))) (aB 3)) (mC (.int 0)))) (aZ (aA aL (cP (aB 0) (b6 (aB 2)) cK) (cP (aB 0) cK (b6 (aB 2))))))) [some d0,none,none] μ):=by
 kernel_rfl
theorem KI (k:Nat)(d0:D)(μ:Hm):f (k+1) "run_of_least" [d0] μ=aM ((aK (aW 1 (mC (.int 1))) (aK (kX lC (aU (aA (bE false) (aA aI (aB 0) (aB 1)) (aA aI (aB 0) (mC (.int 0))))) (aW 1 (aA aL (aB 1) (mC (.int 1))))) (aZ (aB 1)))) [some d0,none] μ):=by
 kernel_rfl
theorem KJ (k:Nat)(d0:D)(μ:Hm):f (k+1) "ways_to_fold" [d0] μ=aM ((aK (bL (aU (aA (bE false) (aG dP (aC (aB 0) aD)) (aG fQ (aC (aB 0) aD)))) (aZ (aA bG (mC (.int 2)) (aG (f k "ways_to_choose") (aC (aA bZ (aA cV (aG cL (aC (aB 0) aD)) (mC (.int 2))) (mC (.int 1))) (aC (aG cL (aC (aB 0) aD)) aD))))) bK) (aK (aW 1 (aG (f k "least_ahead") (aC (aB 0) aD))) (aK (aW 2 (aG (f k "run_of_least") (aC (aB 1) aD))) (aK (aW 3 (aG (f k "ways_to_choose") (aC (aA cV (aA aL (aB 2) (mC (.int 1))) (mC (.int 2))) (aC (aA aL (aB 2) (mC (.int 1))) aD)))) (aK (bL (aU (aA (bE false) (aA bH (aB 2) (mC (.int 2))) (mC (.int 0)))) (aZ (aA bG (aB 3) (aG (f k "ways_to_fold") (aC (cP (aB 1) (b6 (aB 2)) cK) aD)))) bK) (aK (aW 4 (aA bZ (aA aL (aA aI (aB 1) (kM (mC (.int 1)))) (aA aI (aB 1) (aB 2))) (aA aI (aB 1) (mC (.int 0))))) (aZ (aA bG (aB 3) (aG (f k "ways_to_fold") (aC (aA aL (cP (aB 1) (b6 (aA aL (aB 2) (mC (.int 1)))) (b6 (kM (mC (.int 1))))) (bY (aC (aB 4) aD))) aD)))))))))) [some d0,none,none,none,none] μ):=by
 kernel_rfl
theorem KL (k:Nat)(d0:D)(μ:Hm):f (k+1) "how_many" [d0] μ=aM ((aK (i9 (aG (f k "check_round") (aC (aB 0) aD))) (aZ (aG (f k "ways_to_fold") (aC (aB 0) aD)))) [some d0] μ):=by
 kernel_rfl
theorem KN (k:Nat)(d0 d1:D)(μ:Hm):f (k+1) "_law_nth" [d0,d1] μ=aM ((aZ (j8 (aU (aA dH (aB 1) (aG cL (aC (aB 0) aD)))) (aA aI (aB 0) (aB 1)) (mC (.int 0)))) [some d0,some d1] μ):=by
 kernel_rfl
theorem KO (k:Nat)(d0:D)(μ:Hm):f (k+1) "_law_int" [d0] μ=aM ((aZ (fM (aG iL (aC (aB 0) (aC (mC (.ty "int")) aD))) (fM (aA (dE true) (aB 0) (mC (.bl true))) (aA (dE true) (aB 0) (mC (.bl false)))))) [some d0] μ):=by
 kernel_rfl
theorem KP (k:Nat)(d0 d1 d2:D)(μ:Hm):f (k+1) "_law_digits" [d0,d1,d2] μ=aM ((aK (aW 3 (bY aD)) (aK (aW 4 (aA bH (aA bG (aA aL (aB 0) (aB 1)) (mC (.int 48271))) (aA aL (aA bN (mC (.int 10)) (mC (.int 60))) (mC (.int 7))))) (aK (fN (dY (aC (aB 2) aD)) (eY 5) (aK (bL (aU (aA (bE false) (aB 0) (mC (.int 0)))) (aK (aW 4 (aA bH (aA bG (aA aL (aA aL (aB 4) (aA bG (mC (.int 11)) (aB 5))) (mC (.int 5))) (aA aL (aB 4) (mC (.int 3)))) (aA aL (aA bN (mC (.int 10)) (mC (.int 60))) (mC (.int 7))))) (aW 0 (aA bH (aA bG (aB 4) (aB 4)) (aA aL (aA bN (mC (.int 10)) (mC (.int 64))) (mC (.int 13)))))) bK) (aK (i9 (kS kU (aB 3) (aC (aA aL (mC (.int 1)) (aA bH (aB 0) (aB 1))) aD))) (aW 0 (aA cV (aB 0) (aB 1)))))) (aZ (aB 3))))) [some d0,some d1,some d2,none,none,none] μ):=by
 kernel_rfl
theorem KQ (k:Nat)(d0 d1:D)(μ:Hm):f (k+1) "_law_gaps" [d0,d1] μ=aM ((aK (aW 2 (aG (f k "_law_nth") (aC (aB 0) (aC (aB 1) aD)))) (aK (bL (aU (aA (bE false) (aA bH (aA cV (aB 2) (mC (.int 640))) (mC (.int 8))) (mC (.int 1)))) (aK (aW 3 (aA aL (mC (.int 1)) (aA bH (aA bG (aG (f k "_law_nth") (aC (aB 0) (aC (aA aL (aB 1) (mC (.int 1))) aD))) (aA bN (mC (.int 982451653)) (mC (.int 7)))) (aA bZ (aA bN (mC (.int 10)) (mC (.int 60))) (mC (.int 99)))))) (aK (aW 4 (aA aL (mC (.int 1)) (aA bH (aA bG (aG (f k "_law_nth") (aC (aB 0) (aC (aA aL (aB 1) (mC (.int 2))) aD))) (aA bN (mC (.int 982451653)) (mC (.int 7)))) (aA bZ (aA bN (mC (.int 10)) (mC (.int 60))) (mC (.int 99)))))) (aZ (aA aI (bY (aC (bY (aC (aB 3) (aC (aB 3) aD))) (aC (bY (aC (aB 3) (aC (aB 4) (aC (aB 4) (aC (aB 3) aD))))) aD))) (aA bH (aA cV (aB 2) (mC (.int 5120))) (mC (.int 2))))))) bK) (aK (aW 5 (aA aI (bY (aC (mC (.int 1)) (aC (mC (.int 2)) (aC (mC (.int 2)) (aC (mC (.int 3)) (aC (mC (.int 3)) (aC (mC (.int 4)) (aC (mC (.int 2)) (aC (mC (.int 3)) aD))))))))) (aA bH (aB 2) (mC (.int 8))))) (aK (aW 6 (aA aI (bY (aC (mC (.int 1)) (aC (mC (.int 2)) (aC (mC (.int 3)) (aC (mC (.int 9)) (aC (aA bN (mC (.int 10)) (mC (.int 59))) aD)))))) (aA bH (aA cV (aB 2) (mC (.int 8))) (mC (.int 5))))) (aK (aW 7 (dJ (dY (aC (aA bG (mC (.int 2)) (aB 5)) aD)) dB (aA aL (mC (.int 1)) (aA bH (aA bG (aG (f k "_law_nth") (aC (aB 0) (aC (aA aL (aA aL (aB 1) (mC (.int 1))) (aB 10)) aD))) (aA bN (mC (.int 982451653)) (mC (.int 6)))) (aB 6))))) (aK (bL (aU (aA (bE false) (aA bH (aA cV (aB 2) (mC (.int 40))) (mC (.int 2))) (mC (.int 1)))) (aK (aW 5 (aA aL (mC (.int 1)) (aA bH (aG (f k "_law_nth") (aC (aB 0) (aC (aA aL (aB 1) (mC (.int 3))) aD))) (mC (.int 4))))) (aW 7 (aG (f k "_law_digits") (aC (aG (f k "_law_nth") (aC (aB 0) (aC (aA aL (aB 1) (mC (.int 1))) aD))) (aC (aA aL (mC (.int 1)) (aA bH (aG (f k "_law_nth") (aC (aB 0) (aC (aA aL (aB 1) (mC (.int 2))) aD))) (aA bZ (aA bN (mC (.int 10)) (mC (.int 60))) (mC (.int 1))))) (aC (aA bG (mC (.int 2)) (aB 5)) aD)))))) bK) (aK (aW 8 (aG iA (aC (dJ (dY (aC (aB 5) aD)) dB (aA bZ (aA aI (aB 7) (aA bG (mC (.int 2)) (aB 10))) (aA aI (aB 7) (aA aL (aA bG (mC (.int 2)) (aB 10)) (mC (.int 1)))))) aD))) (aK (aW 9 (aA bG (aA bH (aA cV (aB 2) (mC (.int 40))) (aB 5)) (mC (.int 2)))) (aK (bL (aU (aA dH (aB 8) (mC (.int 0)))) (iP (aB 7) (aB 9) (aA bZ (aA aI (aB 7) (aB 9)) (aB 8))) (iP (aB 7) (aA aL (aB 9) (mC (.int 1))) (aA aL (aA aI (aB 7) (aA aL (aB 9) (mC (.int 1)))) (aB 8)))) (aK (bL (aU (aA jA (aG fQ (aC (aB 7) aD)) (aA bN (mC (.int 10)) (mC (.int 60))))) (aZ (bY (aC (aG dP (aC (aB 7) aD)) (aC (aG dP (aC (aB 7) aD)) aD)))) bK) (aZ (aB 7)))))))))))) [some d0,some d1,none,none,none,none,none,none,none,none] μ):=by
 kernel_rfl
theorem KR (k:Nat)(d0:D)(μ:Hm):f (k+1) "_law_other" [d0] μ=aM ((aZ (k9 jI (mC (.str "")) (aC (dJ (dI (aB 0)) dB (aA aI (jE [((mC (.str "h")),(mC (.str "v"))),((mC (.str "v")),(mC (.str "h")))]) (aB 1))) aD))) [some d0] μ):=by
 kernel_rfl
theorem KS (k:Nat)(d0:D)(μ:Hm):f (k+1) "law" [d0] μ=aM ((aK (aW 1 (aG (f k "_law_gaps") (aC (aB 0) (aC (mC (.int 0)) aD)))) (aK (bL (aU (aA (bE false) (aA bH (aG (f k "_law_nth") (aC (aB 0) (aC (mC (.int 9)) aD))) (mC (.int 4))) (mC (.int 1)))) (aW 1 (aA bG (bY (aC (aA aI (aB 1) (mC (.int 0))) aD)) (aG cL (aC (aB 1) aD)))) bK) (aK (aW 2 (aG (f k "how_many") (aC (aB 1) aD))) (aK (aW 3 (aA aL (mC (.int 1)) (aA bH (aG (f k "_law_nth") (aC (aB 0) (aC (mC (.int 10)) aD))) (aA bN (mC (.int 10)) (mC (.int 9)))))) (aK (bL (fL (iH (hW (aG (f k "_law_int") (aC (aB 2) aD)))) (fL (aU (aA dH (aB 2) (mC (.int 2)))) (aU (aA (bE false) (aA bH (aB 2) (mC (.int 2))) (mC (.int 1)))))) (aZ (mC (.bl false))) bK) (aK (fN (dI (bY (aC (aA aL (cP (aB 1) (b6 (mC (.int 1))) cK) (cP (aB 1) cK (b6 (mC (.int 1))))) (aC (aG iB (aC (aB 1) aD)) (aC (dJ (dI (aB 1)) dB (aA bG (aB 8) (aB 3))) aD))))) (eY 4) (bL (eV (aU (aA dH (aG fQ (aC (aB 4) aD)) (aA bN (mC (.int 10)) (mC (.int 60))))) (aU (aA (bE true) (aG (f k "how_many") (aC (aB 4) aD)) (aB 2)))) (aZ (mC (.bl false))) bK)) (aK (fN (dY (aC (aG cL (aC (aB 1) aD)) aD)) (eY 5) (aK (aW 6 (aA aL (cP (aB 1) (b6 (aA bZ (aB 5) (mC (.int 1)))) cK) (cP (aB 1) cK (b6 (aA bZ (aB 5) (mC (.int 1))))))) (bL (eV (aU (aA gU (aG cL (aC (aB 1) aD)) (mC (.int 2)))) (eV (aU (aA dH (aA aI (aB 6) (mC (.int 1))) (aG dP (aC (aA aI (aB 6) (mC (.int 0))) (aC (aA aI (aB 6) (mC (.int 2))) aD))))) (aU (aA dH (aA bZ (aA aL (aA aI (aB 6) (mC (.int 0))) (aA aI (aB 6) (mC (.int 2)))) (aA aI (aB 6) (mC (.int 1)))) (aA bN (mC (.int 10)) (mC (.int 60))))))) (bL (aU (aA (bE true) (aA bG (aG (f k "how_many") (aC (aA aL (bY (aC (aA bZ (aA aL (aA aI (aB 6) (mC (.int 0))) (aA aI (aB 6) (mC (.int 2)))) (aA aI (aB 6) (mC (.int 1)))) aD)) (cP (aB 6) (b6 (mC (.int 3))) cK)) aD)) (mC (.int 2))) (aB 2))) (aZ (mC (.bl false))) bK) bK))) (aK (aW 7 (aG (f k "all_marks") (aC (aB 1) aD))) (aK (bL (aU (aA (bE true) (aG cL (aC (aB 7) aD)) (aB 2))) (aZ (mC (.bl false))) bK) (aZ (aA (bE false) (aG jJ (aC (dJ (dI (aB 7)) dB (aG (f k "_law_other") (aC (aB 8) aD))) aD)) (aB 7)))))))))))) [some d0,none,none,none,none,none,none,none] μ):=by
 kernel_rfl
end Lw
namespace Lw
open PySem L2 L3
theorem w_mul2 {z:Int}{μ:Hm}{Q:D×Hm->Prop}:W (bG (.int 2) (.int z) μ) Q↔Q (.int (2 * z),μ):=iT (.inl ⟨by decide,by decide⟩)
theorem lH {z:Int}{μ:Hm}{Q:D×Hm->Prop}:W (bH (.int z) (.int 2) μ) Q↔Q (.int (z % 2),μ):=d4 (by decide)
theorem Ah {z:Int}{μ:Hm}{Q:D×Hm->Prop}:W (bH (.int z) (.int 4) μ) Q↔Q (.int (z % 4),μ):=d4 (by decide)
theorem KU:(2:Nat)<=Nd:=by decide
theorem tT {a b:D}:([a,b]:List D).length<=Nd:=KU
theorem KW:(1:Nat)<=Nd:=by decide
theorem lI {a:D}:([a]:List D).length<=Nd:=KW
theorem Ai {z:Int}{μ:Hm}{Q:D×Hm->Prop}:W (bG (.int z) (.int 2) μ) Q↔Q (.int (z * 2),μ):=iT (.inr ⟨by decide,by decide⟩)
theorem KY {z:Int}{μ:Hm}{Q:D×Hm->Prop}:W (cV (.int z) (.int 8) μ) Q↔Q (.int (z / 8),μ):=iS (by decide) (by decide)
noncomputable def fI:D->Int
 | .int i=>i
 | _=>0
theorem Aj {lo:Int}{n:Nat}{d:D}(h:d∈d5 lo n):∃ j:Nat,j<n/\d=.int (lo+(j:Int)):=by
 unfold d5 at h
 obtain ⟨j,h1,rfl⟩:=NG.mp h
 exact ⟨j,NV.mp h1,rfl⟩
theorem lJ {n:Nat}{i:Int}(h0:0<=i)(h:i<n):dS n i=some i.toNat:=by
 unfold dS;rw [if_pos h0,if_pos h]
theorem fE {gs:List Int}{i:Int}(h0:0<=i)(h:i<gs.length):atI (gs.map D.int) i=some (.int (gs.getD i.toNat 0)):=by
 unfold atI
 rw [MZ,lJ h0 h,Nn,ND]
 have hi:i.toNat<gs.length:=by omega
 simp [O7,hi]
theorem KZ {xs:List D}{i:Int}{d:D}{μ:Hm}{Q:D×Hm->Prop}(h:atI xs i=some d):W (aI (.rol xs) (.int i) μ) Q↔Q (d,μ):=by
 have:aI (.rol xs) (.int i) μ=some (d,μ):=by
  simp only [aI,dW,bD,Nn,h,NK]
 rw [this]
 exact W_some
noncomputable def bV (ns:List Int)(i:Int):Int:=ns.getD i.toNat 0
theorem iC (k:Nat)(ns:List Int)(i:Int)(hi:0<=i)(μ:Hm)(Q:D×Hm->Prop):W (f (k+1) "_law_nth" [.rol (ns.map D.int),.int i] μ) Q↔Q (.int (bV ns i),μ):=by
 rw [KN,cM]
 simp only [bO,JT,cO,aO,a8,aS,aR,aE,aH,aN,J7,jP,MZ]
 by_cases h:i<ns.length
 ·simp only [h,decide_true,if_true]
  rw [KZ (fE hi h)]
  rfl
 ·have e:bV ns i=0:=by
   unfold bV
   have:ns.length<=i.toNat:=by omega
   simp [O7,N1 this]
  simp only [h,decide_false,M8,if_false,e]
theorem Ak {ns:List Int}(hb:∀ m∈ns,Nf m<=2 ^ 20)(i:Int):Nf (bV ns i)<=2 ^ 20:=by
 unfold bV
 by_cases h:i.toNat<ns.length
 ·have e:ns.getD i.toNat 0=ns[i.toNat]:=by simp [O7,h]
  rw [e]
  exact hb _ (PM h)
 ·have e:ns.getD i.toNat 0=0:=by simp [O7,N1 (PY.mp h)]
  rw [e]
  decide
noncomputable def c7:Int:=982451653 ^ 7
noncomputable def c6:Int:=982451653 ^ 6
noncomputable def cZ:Int:=10 ^ 60
noncomputable def mY:Int:=10 ^ 59
theorem K0 {μ:Hm}{Q:D×Hm->Prop}:W (bN (.int 982451653) (.int 7) μ) Q↔Q (.int c7,μ):=lE (by decide)
theorem K1 {μ:Hm}{Q:D×Hm->Prop}:W (bN (.int 982451653) (.int 6) μ) Q↔Q (.int c6,μ):=lE (by decide)
theorem jS {μ:Hm}{Q:D×Hm->Prop}:W (bN (.int 10) (.int 60) μ) Q↔Q (.int cZ,μ):=lE (by decide)
theorem w_p59' {μ:Hm}{Q:D×Hm->Prop}:W (bN (.int 10) (.int 59) μ) Q↔Q (.int mY,μ):=lE (by decide)
theorem K2:Nf c7<=1000:=by decide +kernel
theorem K3:Nf c6<=1000:=by decide +kernel
theorem tU:(0:Int)<cZ - 99:=by decide +kernel
theorem K4:(1:Int)<=mY:=by decide +kernel
theorem K5 {ns:List Int}(hb:∀ m∈ns,Nf m<=2 ^ 20){i:Int}{μ:Hm}{Q:D×Hm->Prop}:W (bG (.int (bV ns i)) (.int c7) μ) Q↔Q (.int (bV ns i * c7),μ):=
 z6 (by have:=Ak hb i;have:=K2;omega)
theorem K6 {ns:List Int}(hb:∀ m∈ns,Nf m<=2 ^ 20){i:Int}{μ:Hm}{Q:D×Hm->Prop}:W (bG (.int (bV ns i)) (.int c6) μ) Q↔Q (.int (bV ns i * c6),μ):=
 z6 (by have:=Ak hb i;have:=K3;omega)
noncomputable def aQ:List Int->Int
 | []=>0
 | g::r=>g - aQ r
structure GoodG (gs:List Int):Prop where
 len:gs.length=2\/gs.length=4\/gs.length=6\/gs.length=8
 pos:∀ g∈gs,1<=g
 alt:aQ gs=0
theorem GoodG.rgl {gs:List Int}(h:GoodG gs):2<=gs.length/\gs.length<=8:=by have:=h.len;omega
theorem tV:∀ (l:List Int)(i:Nat)(v:Int),i<l.length->aQ (l.set i v)=aQ l+(if i % 2=0 then v - l.getD i 0 else l.getD i 0 - v)
 | [],i,v,h=>absurd h (OO _)
 | g::r,0,v,h=>by
  simp only [M7,aQ,List.getD_cons_zero]
  rw [if_pos trivial]
  omega
 | g::r,i+1,v,h=>by
  have ih:=tV r i v (by simpa using h)
  simp only [M9,aQ,SV,ih]
  by_cases e:i % 2=0
  ·rw [if_pos e,if_neg (by omega)];omega
  ·rw [if_neg e,if_pos (by omega)];omega
theorem Al:∀ (h:Nat)(l:List Int),l.length=2 * h->((NF h).map fun k=>l.getD (2 * k) 0 - l.getD (2 * k+1) 0).sum=aQ l
 | 0,l,hl=>by
  have:l=[]:=Sd.mp (by omega)
  subst this
  rfl
 | h+1,l,hl=>by
  match l,hl with
  | a::b::r,hl=>
   have ih:=Al h r (by simp at hl;omega)
   rw [Qr,Nj,NH,Q3]
   have e:((fun k=>(a::b::r).getD (2 * k) 0 - (a::b::r).getD (2 * k+1) 0) ∘ Nat.succ)=fun k=>r.getD (2 * k) 0 - r.getD (2 * k+1) 0:=by
    funext k
    show (a::b::r).getD (2 * (k+1)) 0 - (a::b::r).getD (2 * (k+1)+1) 0=_
    rw [show 2 * (k+1)=2 * k+1+1 by omega,show 2 * k+1+1+1=(2 * k+1)+1+1 by omega]
    simp only [SV]
   rw [e,ih]
   show (a - b)+aQ r=a - (b - aQ r)
   omega
theorem K7 {i:Int}(h0:0<=i)(h8:i<8):∃ h:Nat,atI [D.int 1,D.int 2,D.int 2,D.int 3,D.int 3,D.int 4,D.int 2,D.int 3] i=some (.int (h:Int))/\1<=h/\h<=4:=by
 have:i=0\/i=1\/i=2\/i=3\/i=4\/i=5\/i=6\/i=7:=by omega
 rcases this with rfl|rfl|rfl|rfl|rfl|rfl|rfl|rfl
 ·exact ⟨1,rfl,by omega⟩
 ·exact ⟨2,rfl,by omega⟩
 ·exact ⟨2,rfl,by omega⟩
 ·exact ⟨3,rfl,by omega⟩
 ·exact ⟨3,rfl,by omega⟩
 ·exact ⟨4,rfl,by omega⟩
 ·exact ⟨2,rfl,by omega⟩
 ·exact ⟨3,rfl,by omega⟩
theorem K8 {i:Int}(h0:0<=i)(h5:i<5):∃ m:Int,atI [D.int 1,D.int 2,D.int 3,D.int 9,D.int mY] i=some (.int m)/\1<=m:=by
 have:i=0\/i=1\/i=2\/i=3\/i=4:=by omega
 rcases this with rfl|rfl|rfl|rfl|rfl
 ·exact ⟨1,rfl,by omega⟩
 ·exact ⟨2,rfl,by omega⟩
 ·exact ⟨3,rfl,by omega⟩
 ·exact ⟨9,rfl,by omega⟩
 ·exact ⟨mY,rfl,K4⟩
noncomputable def jT (ns:List Int)(at' m:Int)(n:Nat):List Int:=(NF n).map fun (j:Nat)=>1+bV ns (at'+1+(0+(j:Int))) * c6 % m
theorem K9 (ns:List Int)(at' m:Int)(n:Nat):((d5 0 n).filter fun _=>true).map (fun d=>D.int (1+bV ns (at'+1+fI d) * c6 % m))=(jT ns at' m n).map D.int:=by
 unfold d5 jT
 rw [show ∀ l:List D,l.filter (fun _=>true)=l from fun l=>by simp,NH,NH]
 rfl
theorem La (ns:List Int)(at' m:Int)(n:Nat):(jT ns at' m n).length=n:=by unfold jT;simp
theorem Lb {ns:List Int}{at' m:Int}{n:Nat}(hm:1<=m):∀ g∈jT ns at' m n,1<=g:=fun g hg=>by
 unfold jT at hg
 obtain ⟨j,_,rfl⟩:=NG.mp hg
 have:=Oj (bV ns (at'+1+(0+(j:Int))) * c6) (show m≠0 by omega)
 omega
theorem Am {gs:List Int}{i:Nat}{v:Int}(h:∀ g∈gs,1<=g)(hv:1<=v):∀ g∈gs.set i v,1<=g:=fun g hg=>by
 rcases List.mem_or_eq_of_mem_set hg with h1|h1
 ·exact h g h1
 ·subst h1;exact hv
theorem pF {gs:List Int}{i:Nat}(h:∀ g∈gs,1<=g)(hi:i<gs.length):1<=gs.getD i 0:=by
 have e:gs.getD i 0=gs[i]:=by simp [O7,hi]
 rw [e];exact h _ (PM hi)
theorem An (gs:List Int)(j:Nat)(v:Int):(gs.map D.int).set j (.int v)=(gs.set j v).map D.int:=by rw [List.map_set]
noncomputable def fT (gs:List Int):Bool:=decide (gs.length<=8)&&decide (gs.length % 2=0)&&gs.all (fun g=>decide (1<=g))&&aQ gs == 0
theorem GoodG.b {gs:List Int}(h:GoodG gs):fT gs=true:=by
 unfold fT
 have:=h.len
 rw [decide_eq_true (by omega),decide_eq_true (by omega),h.alt]
 have:gs.all (fun g=>decide (1<=g))=true:=OH.mpr fun g hg=>by simpa using h.pos g hg
 rw [this]
 rfl
theorem Lc (k:Nat)(i:Int)(μ:Hm)(Q:D×Hm->Prop):W (f (k+1) "is_whole" [.int i] μ) Q↔Q (.bl true,μ):=by
 rw [Ko,cM]
 simp only [bO,pA,JU,a8,aS,aR,aE,aN,J6,Ac]
 simp
theorem Ld:∀ gs:List Int,gs.length<=8->gs.length % 2=0->∃ es os:List Int,c9 (gs.map D.int) none none (some 2)=es.map D.int/\c9 (gs.map D.int) (some 1) none (some 2)=os.map D.int/\es.sum - os.sum=aQ gs/\es.length<=8/\os.length<=8
 | [],_,_=>⟨[],[],rfl,rfl,rfl,by decide,by decide⟩
 | [_],_,h=>by simp at h
 | [a,b],_,_=>⟨[a],[b],by kernel_rfl,by kernel_rfl,by simp [aQ]<;>omega,by simp,by simp⟩
 | [_,_,_],_,h=>by simp at h
 | [a,b,c,d],_,_=>⟨[a,c],[b,d],by kernel_rfl,by kernel_rfl,by simp [aQ]<;>omega,by simp,by simp⟩
 | [_,_,_,_,_],_,h=>by simp at h
 | [a,b,c,d,e,g],_,_=>⟨[a,c,e],[b,d,g],by kernel_rfl,by kernel_rfl,by simp [aQ]<;>omega,by simp,by simp⟩
 | [_,_,_,_,_,_,_],_,h=>by simp at h
 | [a,b,c,d,e,g,x,y],_,_=>⟨[a,c,e,x],[b,d,g,y],by kernel_rfl,by kernel_rfl,by simp [aQ]<;>omega,by simp,by simp⟩
 | _::_::_::_::_::_::_::_::_::_,h,_=>absurd h (by simp)
theorem Le {d:D}{gs:List Int}(h:d∈gs.map D.int):∃ g∈gs,d=.int g:=by
 obtain ⟨g,h1,rfl⟩:=NG.mp h
 exact ⟨g,h1,rfl⟩
theorem Ao {α:Type}(l:List α):l.filter (fun _=>true)=l:=by simp
theorem Lf (k:Nat)(a:Nat)(gs:List Int)(hz:gs.length<=1000)(μ:Hm)(Q:D×Hm->Prop)(ha:μ[a]? = some (.lst (gs.map D.int)))(H:∀ μ',μ <+: μ'->Q (.bl (fT gs),μ')):W (f (k+2) "is_good" [.loc a] μ) Q:=by
 rw [Kp,cM]
 simp only [b7,dD,tI,cO,aO,a8,aS,aR,aE,aN]
 refine (fC ha).mpr ?_
 simp only [w_gtI,MZ]
 by_cases h8:(8:Int)<gs.length
 ·have e:fT gs=false:=by
   unfold fT;rw [decide_eq_false (show ¬ gs.length<=8 by omega)];rfl
  simp only [h8,decide_true,if_true,bO,aN]
  rw [<- e]
  exact H _ (Nw _)
 ·simp only [h8,decide_false,M8,if_false]
  refine (fC ha).mpr ?_
  simp only [lH,eI,MZ]
  by_cases ho:(gs.length:Int) % 2=1
  ·have e:fT gs=false:=by
    unfold fT;rw [decide_eq_false (show ¬ gs.length % 2=0 by omega)];simp
   simp only [ho,beq_self_eq_true,if_true,bO,aN]
   rw [<- e]
   exact H _ (Nw _)
  ·have e1:((gs.length:Int) % 2 == 1)=false:=by simpa using ho
   simp only [e1,M8,if_false,cN,tJ,o9,a8,aS,aR]
   refine iU (xs:=gs.map D.int) (p:=fun _=>true) (v:=fun d=>.bl (decide (1<=fI d))) ?_
   simp only [jQ,aE]
   refine (lG ha).mpr ?_
   refine ⟨mW ha,rfl,by rw [MZ,Np];omega,fun d μ' hd hp=>w_mTrue.mpr ⟨rfl,Nw _⟩,fun d μ' hd _ hp=>?_,fun μ1 hp1 hg1=>?_⟩
   ·obtain ⟨g,_,rfl⟩:=Le hd
    simp only [Nx,NA,pA,a8,aS,aR,aE,aH,Lc,if_true,aO,aN,Aa]
    exact ⟨rfl,Nw _⟩
   ·have hg1':μ1[μ.length]? = some (.lst ((gs.map fun g=>decide (1<=g)).map D.bl)):=by
     rw [hg1,Ao,NH,NH]
     rfl
    refine (Ke hg1').mpr ?_
    have hall:(gs.map fun g=>decide (1<=g)).all id=gs.all fun g=>decide (1<=g):=by
     rw [Sh];rfl
    rw [hall]
    simp only [pB]
    cases hb:gs.all fun g=>decide (1<=g) with
    | false=>
     have e:fT gs=false:=by
      unfold fT;rw [hb];simp
     simp only [Bool.not_false,if_true,bO,aN]
     rw [<- e]
     exact H _ hp1
    | true=>
     simp only [P0,M8,if_false,cN,bO,aO,a8,aS,aR]
     obtain ⟨es,os,he,ho',hs,l1,l2⟩:=Ld gs (by omega) (by omega)
     have ha1:=aX hp1 ha
     refine Ad ?_
     simp only [aE]
     refine ⟨a,rfl,?_⟩
     simp only [eJ,d7,aN]
     refine ⟨by decide,_,ha1,?_,?_⟩
     ·rw [he,MZ,Np];omega
     rw [he]
     refine (tP (bB _ _)).mpr ?_
     refine Ad ?_
     simp only [aE]
     refine ⟨a,rfl,?_⟩
     simp only [eJ,d7,aN]
     refine ⟨by decide,_,aX (aP _ _) ha1,?_,?_⟩
     ·rw [ho',MZ,Np];omega
     rw [ho']
     refine (tP (bB _ _)).mpr ?_
     refine (eI).mpr ?_
     have e:fT gs=(es.sum == os.sum):=by
      unfold fT
      rw [hb,decide_eq_true (show gs.length<=8 by omega),decide_eq_true (show gs.length % 2=0 by omega)]
      simp only [Sa]
      rw [Qz,beq_iff_eq,beq_iff_eq]
      omega
     rw [<- e]
     exact H _ (hp1.trans ((aP _ _).trans (aP _ _)))
theorem Ap (k:Nat)(a:Nat)(gs:List Int)(hG:GoodG gs)(μ:Hm)(Q:D×Hm->Prop)(ha:μ[a]? = some (.lst (gs.map D.int)))(H:∀ μ',μ <+: μ'->Q (.non,μ')):W (f (k+3) "check_round" [.loc a] μ) Q:=by
 have hl:=hG.len
 have hrg:=hG.rgl
 rw [Kq,cM]
 simp only [dD,tI,cO,aO,a8,aS,aR,aE,aN]
 refine (fC ha).mpr ?_
 have h2:¬ ((gs.length:Int)<2):=by omega
 simp only [jP,MZ,h2,decide_false,M8,if_false,tJ,o9,a8,aS,aR,aE]
 refine Lf _ a gs (by omega) _ _ ha fun μ1 p1=>?_
 simp only [hG.b,pB,P0,M8,if_false,cN]
 exact H _ p1
noncomputable def Lg (gs:List Int):Nat->Int
 | 0=>0
 | j+1=>Lg gs j+(if j % 2=0 then gs.getD j 0 else -(gs.getD j 0))
noncomputable def fF (n:Nat):List Int:=(NF n).map fun (i:Nat)=>(i:Int)
theorem Lh (n:Nat):fF (n+1)=fF n++[(n:Int)]:=by unfold fF;rw [T3,NJ];rfl
theorem Li {n:Nat}{x:Int}:x∈fF n↔0<=x/\x<n:=by
 unfold fF
 rw [NG]
 constructor
 ·rintro ⟨i,h,rfl⟩
  have:=NV.mp h
  omega
 ·intro h
  exact ⟨x.toNat,NV.mpr (by omega),by omega⟩
theorem Lj (n:Nat):(fF n).Nodup:=by
 unfold fF
 show List.Pairwise _ _
 rw [OP]
 exact UR (fun h=>by omega) Sg
theorem Lk (n:Nat):(fF n).length=n:=by unfold fF;simp
structure Ord (n:Nat)(os:List Int):Prop where
 perm:os.Perm (fF n)
theorem Ord.len {n:Nat}{os:List Int}(h:Ord n os):os.length=n:=by rw [h.perm.length_eq,Lk]
theorem Ord.mem {n:Nat}{os:List Int}(h:Ord n os){x:Int}:x∈os↔0<=x/\x<n:=by rw [h.perm.mem_iff,Li]
theorem Ord.nd {n:Nat}{os:List Int}(h:Ord n os):os.Nodup:=h.perm.nodup_iff.mpr (Lj n)
theorem Ll (os:List Int)(p:Nat)(x:Int):(mJ os p x).Perm (x::os):=by
 unfold mJ
 refine List.perm_middle.trans ?_
 rw [Ol]
theorem Ord.ins {n:Nat}{os:List Int}(h:Ord n os)(p:Nat):Ord (n+1) (mJ os p (n:Int)):=by
 refine ⟨(Ll os p n).trans ((List.Perm.cons _ h.perm).trans ?_)⟩
 rw [Lh]
 exact (List.perm_append_singleton _ _).symm
noncomputable def Aq (h a b:Int):Bool:=decide (min a b<h)&&decide (h<max a b)
noncomputable def tW (os:List Int)(n:Nat)(k:Int)(w:Int):Bool:=Aq (os.idxOf w:Nat) (os.idxOf ((k - 1) % n):Nat) (os.idxOf k:Nat)
noncomputable def Lm (sp:List Int)(n:Nat)(k:Int)(w:Int):Bool:=Aq (sp.getD k.toNat 0) (sp.getD w.toNat 0) (sp.getD ((w+1) % n).toNat 0)
noncomputable def Ln (sp os:List Int)(n:Nat)(k:Int)(m:Int):Bool:=decide (m≠k)&&decide (m % 2=k % 2)&&decide (sp.getD m.toNat 0=sp.getD k.toNat 0)&&(tW os n k m != tW os n k ((m - 1) % n))
theorem mZ {x:D}{xs:List D}:atI (x::xs) 0=some x:=by
 unfold atI
 rw [lJ (RE _) (by rw [Na];omega)]
 rfl
noncomputable def tX (sp os:List Int)(n:Nat)(k:Int):Option D:=
 match (fF n).find? fun w=>tW os n k w&&Lm sp n k w with
 | some w=>some (.tup [.str "wedge",.int k,.int w])
 | none=>((fF n).find? (Ln sp os n k)).map fun m=>.tup [.str "crease",.int k,.int m]
noncomputable def Shut (sp os:List Int)(n:Nat)(d:D):Prop:=(∃ k:Nat,k<n/\(∀ j:Nat,j<k->tX sp os n (j:Int)=none)/\tX sp os n (k:Int)=some d)\/((∀ j:Nat,j<n->tX sp os n (j:Int)=none)/\d=.non)
theorem Shut.one {sp os:List Int}{n:Nat}{d d':D}(h:Shut sp os n d)(h':Shut sp os n d'):d=d':=by
 rcases h with ⟨k,k1,k2,k3⟩|⟨k1,rfl⟩<;>rcases h' with ⟨j,j1,j2,j3⟩|⟨j1,rfl⟩
 ·rcases Rl k j with h|h|h
  ·rw [j2 k h] at k3;cases k3
  ·subst h;rw [k3] at j3;exact Nq j3
  ·rw [k2 j h] at j3;cases j3
 ·rw [j1 k k1] at k3;cases k3
 ·rw [k1 j j1] at j3;cases j3
 ·rfl
noncomputable def cF:Bool->Str
 | true=>"v"
 | false=>"h"
noncomputable def dF:Bool->Nat
 | true=>118
 | false=>104
theorem jU (b:Bool):cF b=⟨#[dF b]⟩:=by cases b<;>kernel_rfl
theorem Ar:("":Str)=⟨#[]⟩:=by kernel_rfl
noncomputable def bP (bs:List Bool):Str:=⟨(bs.map dF).toArray⟩
theorem tY (bs:List Bool):(bP bs).length=bs.length:=by
 show ((bs.map dF).toArray).size=_
 simp
theorem Au (bs:List Bool):hJ (bP bs)=bs.map fun b=>D.str (cF b):=by
 unfold hJ bP
 rw [NH]
 refine OX fun b _=>?_
 rw [jU]
 rfl
theorem Lo (bs:List Bool):∀ acc:Array Nat,(bs.map cF).foldl (fun acc p=>acc++("":Str).cps++p.cps) acc=acc++(bs.map dF).toArray:=by
 induction bs with
 | nil=>intro acc;simp
 | cons b bs ih=>
  intro acc
  rw [Nj,RD,ih,Ar,jU]
  simp
theorem Av (bs:List Bool):Oq "" (bs.map cF)=bP bs:=by
 cases bs with
 | nil=>rfl
 | cons b bs=>
  unfold Oq bP
  rw [Nj,List.drop_succ_cons,QM,Lo,List.headD_cons,jU]
  simp
theorem Lp (bs:List Bool):∀ m:Nat,(bs.map cF).foldl (fun (a:Nat)(x:Str)=>a+x.length+("":Str).length) m=m+bs.length:=by
 induction bs with
 | nil=>intro m;rfl
 | cons b bs ih=>
  intro m
  rw [Nj,RD,ih,Ar,jU]
  show m+1+0+bs.length=m+(bs.length+1)
  omega
theorem Lq {μ:Hm}{a:Nat}{bs:List Bool}{Q:D×Hm->Prop}(h:μ[a]? = some (.lst (bs.map fun b=>D.str (cF b))))(hz:bs.length<=8):W (jI (.str "") [.loc a] μ) Q↔Q (.str (bP bs),μ):=by
 have h':μ[a]? = some (.lst ((bs.map cF).map D.str)):=by rw [h,NH];rfl
 rw [Kj h' ?_ ?_,Av]
 ·rw [List.foldl_toArray,Lp]
  unfold PH
  rw [Np]
  exact decide_eq_false (by omega)
 ·rw [Av,tY,Np];omega
noncomputable abbrev Gm:=Int×Bool
noncomputable def Rot {α:Type}(l l':List α):Prop:=∃ u v,l=u++v/\l'=v++u
theorem Rot.symm {α:Type}{l l':List α}:Rot l l'->Rot l' l:=fun ⟨u,v,h,h'⟩=>⟨v,u,h',h⟩
theorem Rot.re {α:Type}{l:List α}:Rot l l:=⟨[],l,by simp,by simp⟩
theorem Rot.trans {α:Type}{l l' l'':List α}:Rot l l'->Rot l' l''->Rot l l'':=fun ⟨u,v,h,h'⟩ ⟨p,q,g,g'⟩=>by
 subst h g'
 rw [h'] at g
 rcases RV.mp g with ⟨a,rfl,rfl⟩|⟨c,rfl,rfl⟩
 ·exact ⟨a,q++v,by simp,by simp⟩
 ·exact ⟨u++p,c,by simp,by simp⟩
theorem Rot.len {α:Type}{l l':List α}:Rot l l'->l.length=l'.length:=fun ⟨u,v,h,h'⟩=>by subst h h';simp;omega
noncomputable def lK (x y z:Gm):Prop:=y.1<=x.1/\y.1<=z.1/\y.2≠z.2
noncomputable def bA (x y z:Gm):Gm:=(x.1 - y.1+z.1,x.2)
inductive Fo:List Gm->Prop
 | two {x y:Gm}:x.2=y.2->Fo [x,y]
 | step {l r:List Gm}{x y z:Gm}:Rot l (x::y::z::r)->lK x y z->Fo (bA x y z::r)->Fo l
theorem Fo.rot {l l':List Gm}(h:Fo l)(R:Rot l l'):Fo l':=by
 cases h with
 | two h=>
  rename_i x y
  obtain ⟨u,v,h1,h2⟩:=R
  match u,h1 with
  | [],h1=>simp at h1;subst h1 h2;exact .two h
  | [a],h1=>simp at h1;obtain ⟨rfl,rfl⟩:=h1;subst h2;exact .two h.symm
  | [a,b],h1=>simp at h1;obtain ⟨rfl,rfl,rfl⟩:=h1;subst h2;exact .two h
  | a::b::c::u,h1=>simp at h1
 | step R' c F=>exact .step (R.symm.trans R') c F
theorem fU {x y:Gm}(h1:x.1=y.1)(h2:x.2=y.2):x=y:=Prod.ext h1 h2
theorem Aw {a b c:Bool}(h:a≠b)(h':b≠c):a=c:=by cases a<;>cases b<;>cases c<;>simp_all
theorem Lr:∀ (n:Nat)(x y z:Gm)(r:List Gm),r.length+3=2 * n->lK x y z->Fo (x::y::z::r)->Fo (bA x y z::r):=by
 intro n
 induction n with
 | zero=>intro x y z r h;omega
 | succ n ih=>
  intro x y z r hn c F
  cases F with
  | step R c' F'=>
   rename_i r' x' y' z'
   obtain ⟨u,v,h1,h2⟩:=R
   match u,h1 with
   | [],h1=>
    simp at h1;subst h1;simp at h2
    obtain ⟨rfl,rfl,rfl,rfl⟩:=h2
    exact F'
   | [a],h1=>
    simp at h1;obtain ⟨rfl,rfl⟩:=h1
    match r,hn with
    | [],hn=>simp at hn;omega
    | q::s,hn=>
     simp at h2;obtain ⟨rfl,rfl,rfl,rfl⟩:=h2
     obtain ⟨c1,c2,c3⟩:=c
     obtain ⟨d1,d2,d3⟩:=c'
     have e1:bA x x' y'=x:=fU (by show x.1 - x'.1+y'.1=x.1;omega) rfl
     have e2:bA x' y' z'=z':=fU (by show x'.1 - y'.1+z'.1=z'.1;omega) (Aw c3 d3)
     rw [e2] at F'
     rw [e1]
     exact F'.rot ⟨z'::s,[x],by simp,by simp⟩
   | [a,b],h1=>
    simp at h1;obtain ⟨rfl,rfl,rfl⟩:=h1
    match r,hn with
    | [],hn=>simp at hn;omega
    | [q],hn=>
     simp at h2;obtain ⟨rfl,rfl,rfl,rfl⟩:=h2
     have:(bA x' y' z').2=y.2:=by
      cases F' with
      | two h=>exact h
      | step R _ _=>have:=R.len;simp at this
     exact absurd this.symm c.2.2
    | q::t::s,hn=>
     simp at h2;obtain ⟨rfl,rfl,rfl,rfl⟩:=h2
     obtain ⟨c1,c2,c3⟩:=c
     obtain ⟨d1,d2,d3⟩:=c'
     have F2:Fo (x::y::bA x' y' z'::s):=F'.rot ⟨bA x' y' z'::s,[x,y],by simp,by simp⟩
     have F3:=ih x y (bA x' y' z') s (by simp at hn;omega) ⟨c1,by show y.1<=x'.1 - y'.1+z'.1;omega,c3⟩ F2
     have e:bA x y (bA x' y' z')=bA (bA x y x') y' z':=fU (by show x.1 - y.1+(x'.1 - y'.1+z'.1)=x.1 - y.1+x'.1 - y'.1+z'.1;omega) rfl
     rw [e] at F3
     exact .step .re ⟨by show y'.1<=x.1 - y.1+x'.1;omega,d2,d3⟩ F3
   | a::b::d::r1,h1=>
    simp at h1;obtain ⟨rfl,rfl,rfl,rfl⟩:=h1
    match v,h2 with
    | [],h2=>
     simp at h2
     obtain ⟨rfl,rfl,rfl,rfl⟩:=h2
     simpa using F'
    | [a],h2=>
     simp at h2;obtain ⟨rfl,rfl,rfl,rfl⟩:=h2
     obtain ⟨c1,c2,c3⟩:=c
     obtain ⟨d1,d2,d3⟩:=c'
     have e1:bA y' z' z=z:=fU (by show y'.1 - z'.1+z.1=z.1;omega) (Aw d3 c3)
     have e2:bA x' y' z'=x':=fU (by show x'.1 - y'.1+z'.1=x'.1;omega) rfl
     rw [e2] at F'
     rw [e1]
     exact F'.rot ⟨[x'],z::r1,by simp,by simp⟩
    | [a,b],h2=>
     simp at h2;obtain ⟨rfl,rfl,rfl,rfl⟩:=h2
     obtain ⟨c1,c2,c3⟩:=c
     obtain ⟨d1,d2,d3⟩:=c'
     have F3:=ih (bA x' y' z') y z r1 (by simp at hn;omega) ⟨by show y.1<=x'.1 - y'.1+z'.1;omega,c2,c3⟩ F'
     have e:bA (bA x' y' z') y z=bA x' y' (bA z' y z):=fU (by show x'.1 - y'.1+z'.1 - y.1+z.1=x'.1 - y'.1+(z'.1 - y.1+z.1);omega) rfl
     rw [e] at F3
     exact .step (x:=x') (y:=y') (z:=bA z' y z) (r:=r1) ⟨bA z' y z::r1,[x',y'],by simp,by simp⟩ ⟨d1,by show y'.1<=z'.1 - y.1+z.1;omega,d3⟩ F3
    | a::b::d::v,h2=>
     simp at h2;obtain ⟨rfl,rfl,rfl,rfl⟩:=h2
     have F2:Fo (x::y::z::(r1++bA x' y' z'::v)):=F'.rot ⟨bA x' y' z'::v,x::y::z::r1,by simp,by simp⟩
     have F3:=ih x y z _ (by simp at hn ⊢;omega) c F2
     have F4:Fo (bA x' y' z'::(v++bA x y z::r1)):=F3.rot ⟨bA x y z::r1,bA x' y' z'::v,by simp,by simp⟩
     exact .step (x:=x') (y:=y') (z:=z') (r:=v++bA x y z::r1) ⟨bA x y z::r1,x'::y'::z'::v,by simp,by simp⟩ c' F4
theorem Fo.iff {l r:List Gm}{x y z:Gm}(R:Rot l (x::y::z::r))(hn:l.length % 2=0)(c:lK x y z):Fo l↔Fo (bA x y z::r):=by
 refine ⟨fun F=>Lr (l.length / 2) x y z r ?_ c (F.rot R),fun F=>.step R c F⟩
 have:=R.len
 simp at this
 omega
noncomputable abbrev Wd:=Int×Bool×List Int
noncomputable def gm (w:Wd):Gm:=(w.1,w.2.1)
noncomputable def fV (x y z:Wd):Bool:=decide (y.1<=x.1)&&decide (y.1<=z.1)&&(y.2.1 != z.2.1)
theorem crB_iff {x y z:Wd}:fV x y z=true↔lK (gm x) (gm y) (gm z):=by
 unfold fV lK gm
 simp [and_assoc]
noncomputable def jV (w:Wd):Bool:=w.2.2.headD 0 % 2 == 1
noncomputable def dQ (x y z:Wd):Wd:=(x.1 - y.1+z.1,x.2.1,if y.2.1 == jV y then x.2.2++y.2.2++z.2.2 else z.2.2++y.2.2++x.2.2)
noncomputable def lL (x y:Wd):Option (List Int):=if x.2.1 != y.2.1 then none else some (if x.2.1 == jV x then y.2.2++x.2.2 else x.2.2++y.2.2)
noncomputable def iD:List Wd->Bool
 | x::y::z::_=>fV x y z
 | _=>false
noncomputable def dM (l:List Wd)(k:Nat):List Wd:=l.drop k++l.take k
noncomputable def d8 (l:List Wd):Option (List Wd):=((NF l.length).find? fun k=>iD (dM l k)).map (dM l)
noncomputable def eK:Nat->List Wd->Option (List Int)
 | 0,_=>none
 | t+1,l=>if 2<l.length then (match d8 l with
   | some (x::y::z::r)=>eK t (dQ x y z::r)
   | _=>none) else (match l with
   | [x,y]=>lL x y
   | _=>none)
theorem Ls {l:List Wd}(h:iD l=true):∃ x y z r,l=x::y::z::r/\fV x y z=true:=by
 match l,h with
 | x::y::z::r,h=>exact ⟨x,y,z,r,rfl,h⟩
theorem Lu (l:List Wd)(k:Nat):Rot l (dM l k):=⟨l.take k,l.drop k,by simp,rfl⟩
theorem Ax {l l':List Wd}(h:d8 l=some l'):Rot l l'/\∃ x y z r,l'=x::y::z::r/\fV x y z=true:=by
 unfold d8 at h
 obtain ⟨k,h1,rfl⟩:=M3.mp h
 exact ⟨Lu l k,Ls (by simpa using List.find?_some h1)⟩
theorem Lv {l:List Wd}(h:d8 l=none){x y z:Wd}{r:List Wd}(R:Rot l (x::y::z::r)):fV x y z=false:=by
 unfold d8 at h
 have h':=S8.mp (Option.map_eq_none_iff.mp h)
 obtain ⟨u,v,h1,h2⟩:=R
 cases hc:fV x y z with
 | false=>rfl
 | true=>
  exfalso
  match v,h2 with
  | [],h2=>
   refine h' 0 (NV.mpr (by subst h1;simp at h2;rw [<- h2];simp)) ?_
   subst h1
   simp at h2
   unfold dM
   simp [<- h2,iD,hc]
  | w::v,h2=>
   refine h' u.length (NV.mpr (by subst h1;simp)) ?_
   subst h1
   unfold dM
   simp only [List.drop_left,T9,<- h2]
   exact hc
theorem Rot.map {α β:Type}{l l':List α}(g:α->β)(h:Rot l l'):Rot (l.map g) (l'.map g):=by
 obtain ⟨u,v,h1,h2⟩:=h
 exact ⟨u.map g,v.map g,by rw [h1];simp,by rw [h2];simp⟩
theorem Rot.unmap {α β:Type}{l:List α}{m:List β}(g:α->β)(h:Rot (l.map g) m):∃ l',Rot l l'/\l'.map g=m:=by
 obtain ⟨u,v,h1,h2⟩:=h
 obtain ⟨u',v',e,e1,e2⟩:=List.map_eq_append_iff.mp h1
 exact ⟨v'++u',⟨u',v',e,rfl⟩,by rw [h2];simp [e1,e2]⟩
theorem Lx (x y z:Wd):gm (dQ x y z)=bA (gm x) (gm y) (gm z):=rfl
theorem Ly:∀ (t:Nat)(l:List Wd),l.length % 2=0->2<=l.length->l.length<=2 * t->((eK t l).isSome=true↔Fo (l.map gm)):=by
 intro t
 induction t with
 | zero=>intro l _ h1 h2;omega
 | succ t ih=>
  intro l he h1 h2
  unfold eK
  by_cases hl:2<l.length
  ·rw [if_pos hl]
   cases ha:d8 l with
   | none=>
    simp only [Q0,M8,false_iff]
    intro F
    generalize hm:l.map gm=m at F
    cases F with
    | two h=>have:=congrArg Ph hm;simp at this;omega
    | step R c _=>
     rw [<- hm] at R
     obtain ⟨l',R',e⟩:=R.unmap
     match l',e with
     | x::y::z::r,e=>
      simp at e
      obtain ⟨rfl,rfl,rfl,rfl⟩:=e
      have:=Lv ha R'
      rw [crB_iff.mpr c] at this
      cases this
   | some l'=>
    obtain ⟨R,x,y,z,r,rfl,c⟩:=Ax ha
    have hlen:=R.len
    simp only [Na] at hlen
    dsimp only
    rw [ih _ (by simp only [Na];omega) (by simp only [Na];omega) (by simp only [Na];omega)]
    have R':=R.map gm
    simp only [Nj] at R'
    rw [Fo.iff R' (by rw [MZ];exact he) (crB_iff.mp c)]
    rw [Nj,Lx]
  ·rw [if_neg hl]
   match l,h1,hl with
   | [x,y],_,_=>
    dsimp only
    unfold lL
    by_cases e:x.2.1=y.2.1
    ·have:(x.2.1 != y.2.1)=false:=by simp [e]
     rw [this]
     simp only [M8,if_false,SH,true_iff]
     exact .two e
    ·have:(x.2.1 != y.2.1)=true:=by simp [e]
     rw [this]
     simp only [if_true,Q0,M8,false_iff]
     intro F
     cases F with
     | two h=>exact e h
     | step R _ _=>have:=R.len;simp at this
   | _::_::_::_,_,hl=>exact absurd (by simp) hl
theorem Lz (x y z:Wd):(dQ x y z).2.2.Perm (x.2.2++y.2.2++z.2.2):=by
 unfold dQ
 dsimp only
 split
 ·exact List.Perm.refl _
 ·refine Sv.trans ?_
  rw [NS]
  exact List.Perm.append_left _ Sv
noncomputable def dR (gs:List Int)(bs:List Bool):List Wd:=(NF gs.length).map fun k=>(gs.getD k 0,bs.getD k false,[((k:Nat):Int)])
inductive All2 {α β:Type}(R:α->β->Prop):List α->List β->Prop
 | nil:All2 R [] []
 | cons {d:α}{w:β}{ds:List α}{l:List β}:R d w->All2 R ds l->All2 R (d::ds) (w::l)
section
variable {α β:Type}{R R':α->β->Prop}
theorem All2.mono (p:∀ d w,R d w->R' d w){ds:List α}{l:List β}(h:All2 R ds l):All2 R' ds l:=by
 induction h with
 | nil=>exact .nil
 | cons h _ ih=>exact .cons (p _ _ h) ih
theorem All2.len {ds:List α}{l:List β}(h:All2 R ds l):ds.length=l.length:=by
 induction h with
 | nil=>rfl
 | cons h _ ih=>simp [ih]
theorem All2.app {ds ds':List α}{l l':List β}(h:All2 R ds l)(h':All2 R ds' l'):All2 R (ds++ds') (l++l'):=by
 induction h with
 | nil=>exact h'
 | cons h _ ih=>exact .cons h ih
theorem All2.one {d:α}{w:β}(h:R d w):All2 R [d] [w]:=.cons h .nil
theorem All2.drop {ds:List α}{l:List β}(h:All2 R ds l):∀ k,All2 R (ds.drop k) (l.drop k):=by
 induction h with
 | nil=>intro k;simp;exact .nil
 | cons h t ih=>intro k;cases k with
  | zero=>exact .cons h t
  | succ k=>exact ih k
theorem All2.take {ds:List α}{l:List β}(h:All2 R ds l):∀ k,All2 R (ds.take k) (l.take k):=by
 induction h with
 | nil=>intro k;simp;exact .nil
 | cons h t ih=>intro k;cases k with
  | zero=>exact .nil
  | succ k=>exact .cons h (ih k)
theorem All2.get {ds:List α}{l:List β}(h:All2 R ds l):∀ (k:Nat)(d:α),ds[k]? = some d->∃ w,l[k]? = some w/\R d w:=by
 induction h with
 | nil=>intro k d e;simp at e
 | cons h t ih=>intro k d e;cases k with
  | zero=>simp at e;subst e;exact ⟨_,rfl,h⟩
  | succ k=>simp at e;obtain ⟨w,h1,h2⟩:=ih k d e;exact ⟨w,by simpa using h1,h2⟩
theorem All2.map {γ:Type}{f:γ->α}{g:γ->β}:∀ {r:List γ},(∀ k∈r,R (f k) (g k))->All2 R (r.map f) (r.map g)
 | [],_=>.nil
 | a::r,h=>.cons (h a O1) (All2.map fun k hk=>h k (Ot _ hk))
end
noncomputable def IsW (μ:Hm)(d:D)(w:Wd):Prop:=∃ a,d=.tup [.int w.1,.str (cF w.2.1),.loc a]/\μ[a]? = some (.lst (w.2.2.map D.int))/\w.2.2≠[]/\w.2.2.length<=8
noncomputable abbrev fW (μ:Hm):List D->List Wd->Prop:=All2 (IsW μ)
theorem IsW.mono {μ μ':Hm}(p:μ <+: μ'){d:D}{w:Wd}:IsW μ d w->IsW μ' d w:=fun ⟨a,h1,h2,h3⟩=>⟨a,h1,aX p h2,h3⟩
theorem Ay {μ μ':Hm}(p:μ <+: μ'){ds:List D}{l:List Wd}(h:fW μ ds l):fW μ' ds l:=All2.mono (fun _ _=>IsW.mono p) h
theorem LA {μ:Hm}{ds:List D}{l:List Wd}(h:fW μ ds l)(k:Nat):fW μ (ds.drop k++ds.take k) (dM l k):=(h.drop k).app (h.take k)
theorem Az {μ:Hm}{ds:List D}{x y z:Wd}{r:List Wd}(h:fW μ ds (x::y::z::r)):∃ dx dy dz dr,ds=dx::dy::dz::dr/\IsW μ dx x/\IsW μ dy y/\IsW μ dz z/\fW μ dr r:=by
 cases h with
 | cons h1 h=>cases h with
  | cons h2 h=>cases h with
   | cons h3 h=>exact ⟨_,_,_,_,rfl,h1,h2,h3,h⟩
theorem LB {μ:Hm}{ds:List D}{x y:Wd}(h:fW μ ds [x,y]):∃ dx dy,ds=[dx,dy]/\IsW μ dx x/\IsW μ dy y:=by
 cases h with
 | cons h1 h=>cases h with
  | cons h2 h=>cases h;exact ⟨_,_,rfl,h1,h2⟩
theorem LC {c:MT}{b:MS}{Q:Fl×aJ×Hm->Prop}(I:Nat->aJ->Hm->Prop)
  (hs:∀ m ρ μ,I m ρ μ->W (c ρ μ) fun p=>if p.1=true then W (b ρ p.2) fun q=>match q.1 with
   | .nx=>∃ m',m'<m/\I m' q.2.1 q.2.2
   | .ct=>∃ m',m'<m/\I m' q.2.1 q.2.2
   | .bk=>Q (.nx,q.2.1,q.2.2)
   | .rt d=>Q (.rt d,q.2.1,q.2.2) else Q (.nx,ρ,p.2)):∀ (n m:Nat)(ρ:aJ)(μ:Hm),m<n->I m ρ μ->W (jG c b n ρ μ) Q:=by
 intro n
 induction n with
 | zero=>intro m ρ μ h;omega
 | succ n ih=>
  intro m ρ μ hm hI
  unfold jG
  rw [W_bind]
  refine bF (hs m ρ μ hI) fun p hp=>?_
  obtain ⟨pb,pμ⟩:=p
  cases pb with
  | false=>exact W_some.mpr (by simpa using hp)
  | true=>
   simp only [if_true] at hp
   dsimp only
   rw [W_bind]
   refine bF hp fun q hq=>?_
   obtain ⟨fl,qρ,qμ⟩:=q
   cases fl with
   | nx=>obtain ⟨m',h1,h2⟩:=hq;exact ih m' _ _ (by omega) h2
   | ct=>obtain ⟨m',h1,h2⟩:=hq;exact ih m' _ _ (by omega) h2
   | bk=>exact W_some.mpr hq
   | rt d=>exact W_some.mpr hq
theorem AA {c:MT}{b:MS}{ρ:aJ}{μ:Hm}{Q:Fl×aJ×Hm->Prop}(I:Nat->aJ->Hm->Prop)(m:Nat)(hm:m<1000000000)(h0:I m ρ μ)
  (hs:∀ m ρ μ,I m ρ μ->W (c ρ μ) fun p=>if p.1=true then W (b ρ p.2) fun q=>match q.1 with
   | .nx=>∃ m',m'<m/\I m' q.2.1 q.2.2
   | .ct=>∃ m',m'<m/\I m' q.2.1 q.2.2
   | .bk=>Q (.nx,q.2.1,q.2.2)
   | .rt d=>Q (.rt d,q.2.1,q.2.2) else Q (.nx,ρ,p.2)):W (kX lC c b ρ μ) Q:=by
 unfold kX
 exact LC I hs lC m ρ μ (by unfold lC;exact hm) h0
theorem lM (xs:List D){j:Int}(h:0<=j/\j<=xs.length):dG xs (some j) none=xs.drop j.toNat:=by
 unfold dG
 have e1:HT.sIx xs.length 0 (some j)=j.toNat:=by
  show (if j<0 then (j+(xs.length:Int)).toNat else min j.toNat xs.length)=j.toNat
  rw [if_neg (by omega)];omega
 have e2:HT.sIx xs.length xs.length none=xs.length:=HT.sIx_none _ _
 rw [e1,e2,Qp (by rw [N5];exact Ni _)]
theorem tZ (xs:List D){j:Int}(h:0<=j/\j<=xs.length):dG xs none (some j)=xs.take j.toNat:=by
 unfold dG
 have e1:HT.sIx xs.length 0 none=0:=HT.sIx_none _ _
 have e2:HT.sIx xs.length xs.length (some j)=j.toNat:=by
  show (if j<0 then (j+(xs.length:Int)).toNat else min j.toNat xs.length)=j.toNat
  rw [if_neg (by omega)];omega
 rw [e1,e2,QM,Qw]
theorem d9 {xs:List D}{i:Nat}{d:D}(h:xs[i]? = some d):atI xs (i:Int)=some d:=by
 unfold atI
 rw [lJ (by omega) (by have:=(Ng.mp h).1;omega),Nn,show ((i:Int)).toNat=i by omega,h]
theorem AB (a b:Bool):(cF a == cF b)=(a == b):=by cases a<;>cases b<;>kernel_rfl
theorem AD (a:Bool):(cF a == "v")=a:=by cases a<;>kernel_rfl
theorem AE {a b c:D}{μ:Hm}{Q:D×Hm->Prop}:W (aI (.tup [a,b,c]) (.int 0) μ) Q↔Q (a,μ):=W_some
theorem lN {a b c:D}{μ:Hm}{Q:D×Hm->Prop}:W (aI (.tup [a,b,c]) (.int 1) μ) Q↔Q (b,μ):=W_some
theorem m3 {a b c:D}{μ:Hm}{Q:D×Hm->Prop}:W (aI (.tup [a,b,c]) (.int 2) μ) Q↔Q (c,μ):=W_some
theorem LD (k:Nat){μ:Hm}{dx dy dz:D}{x y z:Wd}(hx:IsW μ dx x)(hy:IsW μ dy y)(hz:IsW μ dz z)(Q:D×Hm->Prop):W (f (k+1) "is_crimp" [dx,dy,dz] μ) Q↔Q (.bl (fV x y z),μ):=by
 obtain ⟨ax,rfl,_⟩:=hx
 obtain ⟨ay,rfl,_⟩:=hy
 obtain ⟨az,rfl,_⟩:=hz
 rw [Ks,cM]
 simp only [bO,pA,aO,aE,aH,aN,AE,lN,JW,z8,AB]
 have e:(!(y.2.1 == z.2.1))=(y.2.1 != z.2.1):=rfl
 rw [e]
 unfold fV
 cases decide (y.1<=x.1)<;>cases decide (y.1<=z.1)<;>simp
theorem AF (k:Nat){μ:Hm}{dx:D}{x:Wd}(hx:IsW μ dx x)(Q:D×Hm->Prop):W (f (k+1) "is_turned_part" [dx] μ) Q↔Q (.bl (jV x),μ):=by
 obtain ⟨ax,rfl,hx,hne,_⟩:=hx
 obtain ⟨g,m,os⟩:=x
 dsimp only at *
 cases os with
 | nil=>exact absurd rfl hne
 | cons o os=>
  rw [Ku,cM]
  have h0:atI ((o::os).map D.int) 0=some (.int o):=mZ
  simp only [bO,aO,aE,aH,aN,m3,bM hx h0,lH,eI]
  rfl
theorem LF (k:Nat){μ:Hm}{dx dy dz:D}{x y z:Wd}(hx:IsW μ dx x)(hy:IsW μ dy y)(hz:IsW μ dz z)(hl:x.2.2.length+y.2.2.length+z.2.2.length<=8)(Q:D×Hm->Prop)
  (H:∀ d μ',μ <+: μ'->IsW μ' d (dQ x y z)->Q (d,μ')):W (f (k+2) "crimped" [dx,dy,dz] μ) Q:=by
 have hy':=hy
 obtain ⟨ax,rfl,hx,nx,lx⟩:=hx
 obtain ⟨ay,rfl,hy,ny,ly⟩:=hy
 obtain ⟨az,rfl,hz,nz,lz⟩:=hz
 rw [Kv,cM]
 simp only [b7,b0,dD,cO,aO,aE,aH,aN,AE,lN,w_subI,w_addI,M7,M9,z7,AD,a8,aS,aR,AF k hy',z9]
 by_cases c:(y.2.1 == jV y)=true
 ·simp only [c,if_true,bO,tK,aS,aR,aO,aE,aH,aN,lN,m3]
  refine (d6 hx hy (by rw [MZ,MZ,Np];omega)).mpr ?_
  have p1:=aP μ (C.lst (x.2.2.map D.int++y.2.2.map D.int))
  refine (d6 (bB _ _) (aX p1 hz) (by rw [Nk,MZ,MZ,MZ,Np];omega)).mpr ?_
  refine ⟨by show (3:Nat)<=Nd;decide,?_⟩
  refine H _ _ (p1.trans (aP _ _)) ⟨_,rfl,?_,?_,?_⟩
  ·rw [bB]
   unfold dQ
   simp only [c,if_true,NJ]
  ·unfold dQ
   simp only [c,if_true]
   intro e
   exact nx (OF.mp (OF.mp e).1).1
  ·unfold dQ
   simp only [c,if_true,Nk]
   omega
 ·have c':(y.2.1 == jV y)=false:=by simpa using c
  simp only [c',M8,if_false,cN,bO,tK,aS,aR,aO,aE,aH,aN,lN,m3]
  refine (d6 hz hy (by rw [MZ,MZ,Np];omega)).mpr ?_
  have p1:=aP μ (C.lst (z.2.2.map D.int++y.2.2.map D.int))
  refine (d6 (bB _ _) (aX p1 hx) (by rw [Nk,MZ,MZ,MZ,Np];omega)).mpr ?_
  refine ⟨by show (3:Nat)<=Nd;decide,?_⟩
  refine H _ _ (p1.trans (aP _ _)) ⟨_,rfl,?_,?_,?_⟩
  ·rw [bB]
   unfold dQ
   simp only [c',M8,if_false,NJ]
  ·unfold dQ
   simp only [c',M8,if_false]
   intro e
   exact nz (OF.mp (OF.mp e).1).1
  ·unfold dQ
   simp only [c',M8,if_false,Nk]
   omega
noncomputable def AG (μ μ':Hm)(d:D):Option (List Int)->Prop
 | none=>d=.non
 | some os=>∃ a,d=.loc a/\μ.length<=a/\μ'[a]? = some (.lst (os.map D.int))
theorem LG (k:Nat){μ:Hm}{dx dy:D}{x y:Wd}(hx:IsW μ dx x)(hy:IsW μ dy y)(Q:D×Hm->Prop)
  (H:∀ d μ',μ <+: μ'->AG μ μ' d (lL x y)->Q (d,μ')):W (f (k+2) "last_two" [dx,dy] μ) Q:=by
 have hx':=hx
 obtain ⟨ax,rfl,hx,nx,lx⟩:=hx
 obtain ⟨ay,rfl,hy,ny,ly⟩:=hy
 rw [Kw,cM]
 simp only [b7,dD,cO,aO,aE,aH,aN,lN,z8,AB]
 have e0:(!(x.2.1 == y.2.1))=(x.2.1 != y.2.1):=rfl
 rw [e0]
 unfold lL at H
 by_cases c:(x.2.1 != y.2.1)=true
 ·simp only [c,if_true,bO,aN] at H ⊢
  exact H _ _ (Nw _) rfl
 ·have c':(x.2.1 != y.2.1)=false:=by simpa using c
  simp only [c',M8,if_false,cN,cO,aO,aE,aH,aN,lN,z7,AD,a8,aS,aR,AF k hx',z9] at H ⊢
  by_cases t:(x.2.1 == jV x)=true
  ·simp only [t,if_true,bO,aO,aE,aH,aN,m3] at H ⊢
   refine (d6 hy hx (by rw [MZ,MZ,Np];omega)).mpr ?_
   exact H _ _ (aP _ _) ⟨_,rfl,Ni _,by rw [bB,NJ]⟩
  ·have t':(x.2.1 == jV x)=false:=by simpa using t
   simp only [t',M8,if_false,cN,bO,aO,aE,aH,aN,m3] at H ⊢
   refine (d6 hx hy (by rw [MZ,MZ,Np];omega)).mpr ?_
   exact H _ _ (aP _ _) ⟨_,rfl,Ni _,by rw [bB,NJ]⟩
theorem LH {l:List Wd}{i:Nat}(hi:i<l.length)(h:iD (dM l i)=true)(hn:∀ j,j<i->iD (dM l j)=false):d8 l=some (dM l i):=by
 unfold d8
 have:(NF l.length).find? (fun k=>iD (dM l k))=some i:=by
  rw [R0]
  exact ⟨h,NV.mpr hi,fun j hj=>by rw [hn j hj];rfl⟩
 rw [this];rfl
theorem LI {l:List Wd}(hn:∀ j,j<l.length->iD (dM l j)=false):d8 l=none:=by
 unfold d8
 rw [S8.mpr fun k hk=>by rw [hn k (NV.mp hk)];simp]
 rfl
noncomputable def LJ (μ':Hm)(d:D):Option (List Wd)->Prop
 | none=>d=.non
 | some l=>∃ a ds,d=.loc a/\μ'[a]? = some (.lst ds)/\fW μ' ds l
theorem LK (k:Nat){μ:Hm}{a:Nat}{ds:List D}{l:List Wd}(ha:μ[a]? = some (.lst ds))(hw:fW μ ds l)(hl:3<=l.length/\l.length<=8)(Q:D×Hm->Prop)
  (H:∀ d μ',μ <+: μ'->LJ μ' d (d8 l)->Q (d,μ')):W (f (k+2) "brought_ahead" [.loc a] μ) Q:=by
 have hlen:=hw.len
 rw [Kt,cM]
 simp only [b7,lF,jR (j:=0),a8,aS,aR,aE]
 refine (fC ha).mpr ?_
 refine ⟨by omega,?_⟩
 rw [hlen,show ((l.length:Nat):Int).toNat=l.length by omega]
 refine mV (lo:=0) (fun i ρ μ'=>μ <+: μ'/\(∀ j,j<i->iD (dM l j)=false)/\∃ o1 o2,ρ=[some (.loc a),o1,o2]) ⟨Nw _,fun j hj=>absurd hj (OO _),none,none,rfl⟩ ?_ ?_
 ·rintro i ρ μ' hi ⟨hp,hN,o1,o2,rfl⟩
  refine ⟨_,rfl,?_⟩
  rw [show (0:Int)+(i:Int)=(i:Int) by omega]
  simp only [M7,M9,b7,b0,aO]
  have ha1:=aX hp ha
  refine fD ?_
  simp only [aE]
  refine ⟨a,rfl,?_⟩
  simp only [eJ,d7,aE,aH]
  refine ⟨_,ha1,?_⟩
  rw [lM ds (show 0<=(i:Int)/\(i:Int)<=ds.length by omega)]
  refine fD ?_
  simp only [aE]
  refine ⟨a,rfl,?_⟩
  simp only [eJ,d7,aE,aH]
  refine ⟨_,aX (aP _ _) ha1,?_⟩
  rw [tZ ds (show 0<=(i:Int)/\(i:Int)<=ds.length by omega),show ((i:Int)).toNat=i by omega]
  refine (d6 (aX (aP _ _) (bB _ _)) (bB _ _) (by rw [N5,Oa,Np];omega)).mpr ?_
  have p3:μ' <+: μ'++[C.lst (ds.drop i)]++[C.lst (ds.take i)]++[C.lst (ds.drop i++ds.take i)]:=(aP _ _).trans ((aP _ _).trans (aP _ _))
  have g3:=bB (μ'++[C.lst (ds.drop i)]++[C.lst (ds.take i)]) (C.lst (ds.drop i++ds.take i))
  generalize (μ'++[C.lst (ds.drop i)]++[C.lst (ds.take i)]).length=c at g3 ⊢
  generalize μ'++[C.lst (ds.drop i)]++[C.lst (ds.take i)]++[C.lst (ds.drop i++ds.take i)]=μ3 at p3 g3 ⊢
  have hr:=LA (Ay (hp.trans p3) hw) i
  have hrl:(dM l i).length=l.length:=by unfold dM;rw [Nk,N5,Oa];omega
  generalize hR:dM l i=R at hr hrl
  generalize ds.drop i++ds.take i=es at g3 hr
  match R,hrl,hr,hR with
  | x::y::z::r,hrl,hr,hR=>
   obtain ⟨dx,dy,dz,dr,rfl,hx,hy,hz,hdr⟩:=Az hr
   have hh:iD (dM l i)=fV x y z:=by rw [hR];rfl
   simp only [M7,M9,dD,o9,a8,aS,aR,aO,aE,aH,aN]
   refine (bM g3 (d9 (i:=0) (d:=dx) rfl)).mpr ?_
   refine (bM g3 (d9 (i:=1) (d:=dy) rfl)).mpr ?_
   refine (bM g3 (d9 (i:=2) (d:=dz) rfl)).mpr ?_
   rw [LD k hx hy hz]
   simp only [pB]
   cases hc:fV x y z with
   | true=>
    simp only [if_true,bO,aE,aH]
    refine H _ _ (hp.trans p3) ?_
    rw [LH hi (by rw [hh,hc]) hN,hR]
    exact ⟨c,_,rfl,g3,hr⟩
   | false=>
    simp only [M8,if_false,cN]
    refine ⟨hp.trans p3,fun j hj=>?_,_,_,rfl⟩
    by_cases h:j<i
    ·exact hN j h
    ·have:j=i:=by omega
     subst this
     rw [hh,hc]
  | [],hrl,_,_=>simp at hrl;omega
  | [_],hrl,_,_=>simp at hrl;omega
  | [_,_],hrl,_,_=>simp at hrl;omega
 ·rintro ρ μ' ⟨hp,hN,o1,o2,rfl⟩
  simp only [bO,aN]
  refine H _ _ hp ?_
  rw [LI hN]
  rfl
theorem LL {bs:List Bool}{i:Nat}(hi:i<bs.length):atI ((bP bs).cps.toList) (i:Int)=some (dF (bs.getD i false)):=by
 unfold atI bP
 have:((bs.map dF).toArray.toList).length=bs.length:=by simp
 dsimp only
 rw [lJ (by omega) (by rw [this];omega)]
 simp [O7,hi]
theorem LM {bs:List Bool}{i:Int}{μ:Hm}{Q:D×Hm->Prop}(hl:bs.length<=8)(hi:0<=i/\i<bs.length):W (aI (.str (bP bs)) (.int i) μ) Q↔Q (.str (cF (bs.getD i.toNat false)),μ):=by
 have:=LL (bs:=bs) (i:=i.toNat) (by omega)
 rw [show ((i.toNat:Nat):Int)=i by omega] at this
 rw [Km (by show (bP bs).length<=Nd;rw [tY,Np];omega) this,<- jU]
theorem LN (k:Nat){μ:Hm}{a:Nat}{gs:List Int}{bs:List Bool}(ha:μ[a]? = some (.lst (gs.map D.int)))(hg:gs.length<=8)(hb:bs.length=gs.length)(Q:D×Hm->Prop)
  (H:∀ b ds μ',μ <+: μ'->μ'[b]? = some (.lst ds)->fW μ' ds (dR gs bs)->Q (.loc b,μ')):W (f (k+1) "wedges_by" [.loc a,.str (bP bs)] μ) Q:=by
 rw [Kr,cM]
 simp only [bO]
 refine Kf ?_
 refine Ae ?_
 simp only [aS,aR,aE]
 refine ⟨a,_,rfl,ha,?_⟩
 let dk:Nat->D:=fun j=>.tup [.int (gs.getD j 0),.str (cF (bs.getD j false)),.loc (μ.length+1+j)]
 refine ⟨gs.length,fun i ys μ'=>ys=(NF i).map dk/\μ <+: μ'/\μ'.length=μ.length+1+i/\∀ j,j<i->μ'[μ.length+1+j]? = some (.lst [.int ((j:Nat):Int)]),by rw [MZ],by rw [Np];omega,?_,?_,?_,?_⟩
 ·rintro i ys μ' ⟨rfl,_⟩;simp
 ·exact ⟨rfl,aP _ _,by simp,fun j hj=>absurd hj (OO _)⟩
 ·rintro i ys μ' hi ⟨rfl,hp,hln,hc⟩ hcell
  have hgi:(gs.map D.int)[i]? = some (.int (gs.getD i 0)):=by
   rw [ND,Nh hi]
   simp [O7,hi]
  refine ⟨.tup [.int (i:Int),.int (gs.getD i 0)],[some (.int (i:Int)),some (.int (gs.getD i 0))],?_,rfl,?_⟩
  ·rw [tR ha μ' i hp,mX,hgi]
   simp
  ·rw [w_mTrue]
   refine ⟨fun h=>(by cases h),fun _=>?_⟩
   simp only [Nx,NA,tK,aS,aR,aO,aE,aH,fB]
   rw [LM (by omega) (by omega)]
   refine ⟨lI,by show (3:Nat)<=Nd;decide,aX (aP _ _) hcell,?_,jO (hp.trans (aP _ _)) (Ni _) _,by rw [Oy,Nk,hln];rfl,fun j hj=>?_⟩
   ·rw [T3,NJ,show ((i:Int)).toNat=i by omega,hln]
    rfl
   ·rw [OR (by omega)]
    by_cases h:j<i
    ·exact aX (aP _ _) (hc j h)
    ·have:j=i:=by omega
     subst this
     rw [<- hln,bB]
 ·rintro ys μ' ⟨rfl,hp,hln,hc⟩ hcell
  refine ⟨?_,H _ _ _ hp hcell ?_⟩
  ·rw [tR ha μ' _ hp,mX]
   simp
  ·unfold dR
   refine All2.map fun j hj=>?_
   have hj:=NV.mp hj
   exact ⟨_,rfl,by rw [hc j hj];rfl,by simp,by simp⟩
noncomputable def gJ (l:List Wd):Nat:=(l.map fun w=>w.2.2.length).sum
theorem LO {l l':List Wd}(R:Rot l l'):gJ l=gJ l':=by
 obtain ⟨u,v,rfl,rfl⟩:=R
 unfold gJ;simp;omega
theorem LP (x y z:Wd)(r:List Wd):gJ (dQ x y z::r)=gJ (x::y::z::r):=by
 have:(dQ x y z).2.2.length=x.2.2.length+y.2.2.length+z.2.2.length:=by rw [(Lz x y z).length_eq];simp [UC]
 unfold gJ
 simp only [Nj,Q3,this]
 omega
theorem LQ (gs:List Int)(bs:List Bool):gJ (dR gs bs)=gs.length:=by
 unfold gJ dR
 rw [NH]
 have:((NF gs.length).map ((fun w:Wd=>w.2.2.length) ∘ fun k=>(gs.getD k 0,bs.getD k false,[((k:Nat):Int)])))=(NF gs.length).map fun _=>1:=rfl
 rw [this]
 have one:∀ r:List Nat,(r.map fun _=>1).sum=r.length:=fun r=>by
  induction r with
  | nil=>rfl
  | cons a r ih=>rw [Nj,Q3,ih,Na,UO]
 rw [one,TH]
theorem LR {t:Nat}{l:List Wd}(h:2<l.length):eK (t+1) l=match d8 l with
  | some (x::y::z::r)=>eK t (dQ x y z::r)
  | _=>none:=by
 conv=>lhs;unfold eK
 rw [if_pos h]
 all_goals (generalize d8 l=o;rcases o with _|(_|⟨_,_|⟨_,_|⟨_,_⟩⟩⟩)<;>rfl)
theorem LS (k:Nat){μ:Hm}{a:Nat}{gs:List Int}{bs:List Bool}(ha:μ[a]? = some (.lst (gs.map D.int)))(hG:GoodG gs)(hb:bs.length=gs.length)(Q:D×Hm->Prop)
  (H:∀ d μ',μ <+: μ'->AG μ μ' d (eK 4 (dR gs bs))->Q (d,μ')):W (f (k+3) "folded_order" [.loc a,.str (bP bs)] μ) Q:=by
 have hl:=hG.len
 have hrg:=hG.rgl
 rw [Ky,cM]
 simp only [b7,b0,a8,aS,aR,aE,aH]
 refine LN _ ha (by omega) hb _ fun b ds μ1 p1 g1 W1=>?_
 simp only [M7,M9]
 have hwl:(dR gs bs).length=gs.length:=by unfold dR;simp
 refine AA (fun m ρ μ'=>μ <+: μ'/\m<=4/\∃ b ds l o,ρ=[some (.loc a),some (.str (bP bs)),some (.loc b),o]/\μ'[b]? = some (.lst ds)/\fW μ' ds l/\l.length % 2=0/\2<=l.length/\l.length<=2 * m/\gJ l<=8/\eK m l=eK 4 (dR gs bs)) 4 (by decide)
  ⟨p1,Ni _,b,ds,dR gs bs,none,rfl,g1,W1,by omega,by omega,by omega,by rw [LQ];omega,rfl⟩ ?_
 rintro m ρ μ' ⟨hp,hm4,b,ds,l,o,rfl,hg,hw,he,h2,ht,hs,hf⟩
 have hlen:=hw.len
 obtain ⟨t,rfl⟩:∃ t,m=t+1:=⟨m - 1,by omega⟩
 simp only [cO,aO,a8,aS,aR,aE,aH,aN]
 refine (fC hg).mpr ?_
 simp only [w_gtI]
 by_cases h3:2<l.length
 ·have e:decide ((2:Int)<(ds.length:Int))=true:=decide_eq_true (by omega)
  simp only [e,if_true,b7,b0,a8,aS,aR,aE,aH]
  refine LK _ hg hw ⟨by omega,by omega⟩ _ fun d μ2 p2 A=>?_
  rw [LR h3] at hf
  cases hA:d8 l with
  | none=>
   rw [hA] at A hf
   have A:d=.non:=A
   subst A
   simp only [M7,M9,dD,cO,aO,aE,aH,aN,Kb,if_true,bO]
   refine H _ _ (hp.trans p2) ?_
   rw [<- hf]
   rfl
  | some l'=>
   rw [hA] at A hf
   obtain ⟨c,es,rfl,gc,hes⟩:=A
   obtain ⟨R,x,y,z,r,rfl,hc⟩:=Ax hA
   have hrl:=R.len
   simp only [Na] at hrl
   have hls:=LO R
   have hsum:x.2.2.length+y.2.2.length+z.2.2.length<=8:=by
    unfold gJ at hls hs
    simp only [Nj,Q3] at hls
    omega
   obtain ⟨dx,dy,dz,dr,rfl,hx,hy,hz,hdr⟩:=Az hes
   have hdl:=hdr.len
   simp only [M7,M9,dD,cO,aO,aE,aH,aN,Kc,M8,if_false,cN,b0,fB,aS,aR,a8]
   refine (bM gc (d9 (i:=0) (d:=dx) rfl)).mpr ?_
   refine (bM gc (d9 (i:=1) (d:=dy) rfl)).mpr ?_
   refine (bM gc (d9 (i:=2) (d:=dz) rfl)).mpr ?_
   refine LF _ hx hy hz hsum _ fun d3 μ3 p3 h3w=>?_
   refine ⟨lI,?_⟩
   refine fD ?_
   simp only [aE,aH]
   refine ⟨c,rfl,?_⟩
   simp only [eJ,d7,aN]
   refine ⟨_,aX (p3.trans (aP _ _)) gc,?_⟩
   rw [lM (dx::dy::dz::dr) (show (0:Int)<=3/\(3:Int)<=(dx::dy::dz::dr).length by simp only [Na];omega)]
   have e3:(dx::dy::dz::dr).drop (3:Int).toNat=dr:=rfl
   rw [e3]
   refine (d6 (aX (aP _ _) (bB _ _)) (bB _ _) (by rw [Np];simp only [Na,P7];omega)).mpr ?_
   have q4:μ2 <+: μ3++[C.lst [d3]]++[C.lst dr]++[C.lst ([d3]++dr)]:=p3.trans ((aP _ _).trans ((aP _ _).trans (aP _ _)))
   have q3:μ3 <+: μ3++[C.lst [d3]]++[C.lst dr]++[C.lst ([d3]++dr)]:=(aP _ _).trans ((aP _ _).trans (aP _ _))
   refine ⟨t,OI _,hp.trans (p2.trans q4),by omega,_,_,dQ x y z::r,_,rfl,bB _ _,.cons (h3w.mono q3) (Ay q4 hdr),by simp only [Na];omega,by simp only [Na];omega,by simp only [Na];omega,by rw [LP];omega,hf⟩
 ·have e:decide ((2:Int)<(ds.length:Int))=false:=decide_eq_false (by omega)
  simp only [e,M8,if_false,bO,a8,aS,aR,aO,aE,aH,aN]
  match l,h2,h3,hw,hf with
  | [x,y],_,_,hw,hf=>
   obtain ⟨dx,dy,rfl,hx,hy⟩:=LB hw
   refine (bM hg (d9 (i:=0) (d:=dx) rfl)).mpr ?_
   refine (bM hg (d9 (i:=1) (d:=dy) rfl)).mpr ?_
   refine LG _ hx hy _ fun d μ2 p2 O=>?_
   refine H _ _ (hp.trans p2) ?_
   rw [<- hf]
   have:eK (t+1) [x,y]=lL x y:=by unfold eK;rw [if_neg (by simp)]
   rw [this]
   have hpl:=o8 hp
   cases hL:lL x y with
   | none=>rw [hL] at O;exact O
   | some os=>
    rw [hL] at O
    obtain ⟨b',h1,h2,h3⟩:=O
    exact ⟨b',h1,N9 hpl h2,h3⟩
  | _::_::_::_,_,h3,_,_=>exact absurd (by simp) h3
theorem t4 {μ:Hm}{a:Nat}{is:List Int}{Q:D×Hm->Prop}(h:μ[a]? = some (.lst (is.map D.int)))(h0:0<is.length):W (fQ [.loc a] μ) Q↔Q (.int (dZ is),μ):=by
 have e:fQ [.loc a] μ=some (.int (dZ is),μ):=by
  simp only [fQ,oM,dC,h,Nn,pD,if_pos h0]
 rw [e]
 exact W_some
theorem pG {μ:Hm}{a:Nat}{is:List Int}{Q:D×Hm->Prop}(h:μ[a]? = some (.lst (is.map D.int)))(h0:0<is.length):W (dP [.loc a] μ) Q↔Q (.int (cW is),μ):=by
 have e:dP [.loc a] μ=some (.int (cW is),μ):=by
  simp only [dP,oN,dC,h,Nn,pD,if_pos h0]
 rw [e]
 exact W_some
theorem LU {is:List Int}(h0:0<is.length)(h:∀ g∈is,1<=g):1<=cW is:=by
 unfold cW
 have:=(argBest_lt (fun i=>is.getD i 0) (is.length - 1)).1
 exact pF h (by omega)
noncomputable def t5:MS:=(aK (aW 8 (aG iA (aC (dJ (dY (aC (aB 5) aD)) dB (aA bZ (aA aI (aB 7) (aA bG (mC (.int 2)) (aB 10))) (aA aI (aB 7) (aA aL (aA bG (mC (.int 2)) (aB 10)) (mC (.int 1)))))) aD))) (aK (aW 9 (aA bG (aA bH (aA cV (aB 2) (mC (.int 40))) (aB 5)) (mC (.int 2)))) (aK (bL (aU (aA dH (aB 8) (mC (.int 0)))) (iP (aB 7) (aB 9) (aA bZ (aA aI (aB 7) (aB 9)) (aB 8))) (iP (aB 7) (aA aL (aB 9) (mC (.int 1))) (aA aL (aA aI (aB 7) (aA aL (aB 9) (mC (.int 1)))) (aB 8)))) (aK (bL (aU (aA jA (aG fQ (aC (aB 7) aD)) (aA bN (mC (.int 10)) (mC (.int 60))))) (aZ (bY (aC (aG dP (aC (aB 7) aD)) (aC (aG dP (aC (aB 7) aD)) aD)))) bK) (aZ (aB 7))))))
theorem LV (k:Nat)(d0 d1:D)(μ:Hm):f (k+1) "_law_gaps" [d0,d1] μ=aM ((aK (aW 2 (aG (f k "_law_nth") (aC (aB 0) (aC (aB 1) aD)))) (aK (bL (aU (aA (bE false) (aA bH (aA cV (aB 2) (mC (.int 640))) (mC (.int 8))) (mC (.int 1)))) (aK (aW 3 (aA aL (mC (.int 1)) (aA bH (aA bG (aG (f k "_law_nth") (aC (aB 0) (aC (aA aL (aB 1) (mC (.int 1))) aD))) (aA bN (mC (.int 982451653)) (mC (.int 7)))) (aA bZ (aA bN (mC (.int 10)) (mC (.int 60))) (mC (.int 99)))))) (aK (aW 4 (aA aL (mC (.int 1)) (aA bH (aA bG (aG (f k "_law_nth") (aC (aB 0) (aC (aA aL (aB 1) (mC (.int 2))) aD))) (aA bN (mC (.int 982451653)) (mC (.int 7)))) (aA bZ (aA bN (mC (.int 10)) (mC (.int 60))) (mC (.int 99)))))) (aZ (aA aI (bY (aC (bY (aC (aB 3) (aC (aB 3) aD))) (aC (bY (aC (aB 3) (aC (aB 4) (aC (aB 4) (aC (aB 3) aD))))) aD))) (aA bH (aA cV (aB 2) (mC (.int 5120))) (mC (.int 2))))))) bK) (aK (aW 5 (aA aI (bY (aC (mC (.int 1)) (aC (mC (.int 2)) (aC (mC (.int 2)) (aC (mC (.int 3)) (aC (mC (.int 3)) (aC (mC (.int 4)) (aC (mC (.int 2)) (aC (mC (.int 3)) aD))))))))) (aA bH (aB 2) (mC (.int 8))))) (aK (aW 6 (aA aI (bY (aC (mC (.int 1)) (aC (mC (.int 2)) (aC (mC (.int 3)) (aC (mC (.int 9)) (aC (aA bN (mC (.int 10)) (mC (.int 59))) aD)))))) (aA bH (aA cV (aB 2) (mC (.int 8))) (mC (.int 5))))) (aK (aW 7 (dJ (dY (aC (aA bG (mC (.int 2)) (aB 5)) aD)) dB (aA aL (mC (.int 1)) (aA bH (aA bG (aG (f k "_law_nth") (aC (aB 0) (aC (aA aL (aA aL (aB 1) (mC (.int 1))) (aB 10)) aD))) (aA bN (mC (.int 982451653)) (mC (.int 6)))) (aB 6))))) (aK (bL (aU (aA (bE false) (aA bH (aA cV (aB 2) (mC (.int 40))) (mC (.int 2))) (mC (.int 1)))) (aK (aW 5 (aA aL (mC (.int 1)) (aA bH (aG (f k "_law_nth") (aC (aB 0) (aC (aA aL (aB 1) (mC (.int 3))) aD))) (mC (.int 4))))) (aW 7 (aG (f k "_law_digits") (aC (aG (f k "_law_nth") (aC (aB 0) (aC (aA aL (aB 1) (mC (.int 1))) aD))) (aC (aA aL (mC (.int 1)) (aA bH (aG (f k "_law_nth") (aC (aB 0) (aC (aA aL (aB 1) (mC (.int 2))) aD))) (aA bZ (aA bN (mC (.int 10)) (mC (.int 60))) (mC (.int 1))))) (aC (aA bG (mC (.int 2)) (aB 5)) aD)))))) bK) t5)))))) [some d0,some d1,none,none,none,none,none,none,none,none] μ):=KQ k d0 d1 μ
noncomputable def LW (μ:Hm)(Q:D×Hm->Prop)(p:Fl×aJ×Hm):Prop:=match p.1 with|.rt d=>Q (d,p.2.2)|.nx=>Q (.non,p.2.2)|_=>False
theorem AH {ns:List Int}{i hd:Int}{h:Nat}{a:Nat}{gs:List Int}{o6:Option D}{μ μ1:Hm}{Q:D×Hm->Prop}(hl1:1<=h/\h<=4)(p1:μ <+: μ1)(ha:μ.length<=a)(hg1:μ1[a]? = some (.lst (gs.map D.int)))(hlen:gs.length=2 * h)(hpos:∀ g∈gs,1<=g)
  (H:∀ a μ' gs,μ <+: μ'->μ'[a]? = some (.lst (gs.map D.int))->GoodG gs->μ.length<=a->Q (.loc a,μ')) :
  W (t5 [some (.rol (ns.map D.int)),some (.int i),some (.int hd),none,none,some (.int (h:Int)),o6,some (.loc a),none,none] μ1) (LW μ Q):=by
 unfold t5
 simp only [b7,b0,a8,aS,aR]
 refine iU (xs:=d5 0 h) (p:=fun _=>true) (v:=fun d=>.int (gs.getD (2 * fI d).toNat 0 - gs.getD (2 * fI d+1).toNat 0)) ?_
 simp only [jR (j:=0),aS,aR,aE,aH]
 have hn2:(h:Int).toNat=h:=by omega
 rw [hn2]
 refine ⟨by omega,Ab,by simp [d5],by rw [Np];simp [d5];omega,?_,?_,?_⟩
 ·intro d μ' hd hp
  exact w_mTrue.mpr ⟨rfl,Nw _⟩
 ·intro d μ' hd' _ hp
  obtain ⟨j,hj,rfl⟩:=Aj hd'
  simp only [Nx,NA,aO,aE,aH,aN,w_mul2,w_addI]
  refine (bM (aX hp hg1) (fE (by omega) (by omega))).mpr ?_
  refine (bM (aX hp hg1) (fE (by omega) (by omega))).mpr ?_
  exact (w_subI).mpr ⟨rfl,Nw _⟩
 ·intro μ2 hp2 hg2
  have hs:((d5 0 h).filter fun _=>true).map (fun d=>D.int (gs.getD (2 * fI d).toNat 0 - gs.getD (2 * fI d+1).toNat 0))=((NF h).map fun k=>gs.getD (2 * k) 0 - gs.getD (2 * k+1) 0).map D.int:=by
   unfold d5
   rw [show ∀ l:List D,l.filter (fun _=>true)=l from fun l=>by simp,NH,NH]
   refine OX fun k _=>?_
   show D.int (gs.getD (2 * (0+(k:Int))).toNat 0 - gs.getD (2 * (0+(k:Int))+1).toNat 0)=_
   rw [show (2 * (0+(k:Int))).toNat=2 * k by omega,show (2 * (0+(k:Int))+1).toNat=2 * k+1 by omega]
   rfl
  rw [hs] at hg2
  refine (tP hg2).mpr ?_
  rw [Al h gs hlen]
  have hg:=aX hp2 hg1
  have hal:a<μ2.length:=(Ng.mp hg).1
  have hq:0<=hd / 40 % (h:Int)/\hd / 40 % (h:Int)<h:=⟨Oj _ (by omega),O5 _ (by omega)⟩
  simp only [M7,M9,aO,aE,aH,aN,iS (show (0:Int)<40 by decide) (show (40:Int)<1073741824 by decide),d4 (show (0:Int)<(h:Int) by omega),Ai]
  generalize hsp:hd / 40 % (h:Int) * 2=sp
  have sp0:0<=sp:=by omega
  have sp1:sp+1<gs.length:=by omega
  have hev:sp.toNat % 2=0:=by omega
  have hod:¬ (sp+1).toNat % 2=0:=by omega
  have hgl:gs.length=2\/gs.length=4\/gs.length=6\/gs.length=8:=by omega
  refine bF (Q:=fun p=>p.1=.nx/\p.2.1=[some (.rol (ns.map D.int)),some (.int i),some (.int hd),none,none,some (.int (h:Int)),o6,some (.loc a),some (.int (aQ gs)),some (.int sp)]/\μ <+: p.2.2/\∃ gs',p.2.2[a]? = some (.lst (gs'.map D.int))/\GoodG gs') ?_ ?_
  ·simp only [dD,cO,aO,aE,aH,aN,jP]
   by_cases hneg:aQ gs<0
   ·simp only [hneg,decide_true,if_true,Af,aO,aE,aH]
    refine (bM hg (fE sp0 (by omega))).mpr ?_
    refine (w_subI).mpr ?_
    refine (Ag hg (lJ sp0 (by rw [MZ];omega))).mpr ?_
    rw [An]
    refine ⟨trivial,trivial,jO (p1.trans hp2) ha _,gs.set sp.toNat (gs.getD sp.toNat 0 - aQ gs),?_,⟨by rw [Oy];exact hgl,Am hpos ?_,?_⟩⟩
    ·rw [NR hal]
    ·have:=pF hpos (show sp.toNat<gs.length by omega)
     omega
    ·rw [tV _ _ _ (by omega),if_pos hev]
     omega
   ·simp only [hneg,decide_false,M8,if_false,Af,aO,aE,aH,aN,w_addI]
    refine (bM hg (fE (by omega) (by omega))).mpr ?_
    refine (w_addI).mpr ?_
    refine (Ag hg (lJ (by omega) (by rw [MZ];omega))).mpr ?_
    rw [An]
    refine ⟨trivial,trivial,jO (p1.trans hp2) ha _,gs.set (sp+1).toNat (gs.getD (sp+1).toNat 0+aQ gs),?_,⟨by rw [Oy];exact hgl,Am hpos ?_,?_⟩⟩
    ·rw [NR hal]
    ·have:=pF hpos (show (sp+1).toNat<gs.length by omega)
     omega
    ·rw [tV _ _ _ (by omega),if_neg hod]
     omega
  ·rintro ⟨fl,ρ,μ3⟩ ⟨h1,h2,p3,gs',g3,G⟩
   dsimp only at h1 h2 p3 g3
   subst h1 h2
   have hl:=G.len
   have hrg:=G.rgl
   have h0:0<gs'.length:=by omega
   dsimp only
   simp only [dD,cO,aO,a8,aS,aR,aE,aH,aN]
   refine (t4 g3 h0).mpr ?_
   simp only [jS,Aa]
   cases decide (cZ<=dZ gs') with
   | true=>
    simp only [if_true,bO,fB,aS,aR,a8,aE,aH]
    refine (pG g3 h0).mpr ?_
    refine (pG g3 h0).mpr ?_
    refine ⟨tT,?_⟩
    have hm:=LU h0 G.pos
    refine H _ _ [cW gs',cW gs'] (p3.trans (aP _ _)) (bB _ _) ⟨.inl rfl,fun g hg=>?_,by simp only [aQ];omega⟩ (o8 p3)
    simp only [NN,Oo,or_false] at hg
    rcases hg with rfl|rfl<;>exact hm
   | false=>
    simp only [M8,if_false,cN,bO,aE,aH]
    exact H _ _ gs' p3 g3 G ha
theorem lO:(0:Int)<cZ+7:=by decide +kernel
noncomputable def P300:Int:=2 ^ 300
theorem AI:cZ+1000<P300:=by decide +kernel
theorem LX:P300<2 ^ 4000:=by decide +kernel
noncomputable def AJ:Int:=10 ^ 64
theorem LY {μ:Hm}{Q:D×Hm->Prop}:W (bN (.int 10) (.int 64) μ) Q↔Q (.int AJ,μ):=lE (by decide)
theorem LZ:(0:Int)<AJ+13:=by decide +kernel
theorem L0:P300.natAbs<2 ^ 4000:=by decide +kernel
theorem t6 {z:Int}(h0:0<=z)(h1:z<P300):z.natAbs<2 ^ 4000:=by
 have h2:=L0
 generalize (2:Nat) ^ 4000=q at *
 omega
theorem L1 (k:Nat){num reach:Int}{n:Nat}(hr:1<=reach/\reach<P300)(hn:n<=8)(μ:Hm)(Q:D×Hm->Prop)
  (H:∀ a μ' (gs:List Int),μ <+: μ'->μ'[a]? = some (.lst (gs.map D.int))->gs.length=n->(∀ g∈gs,1<=g)->μ.length<=a->Q (.loc a,μ')):W (f (k+1) "_law_digits" [.int num,.int reach,.int (n:Int)] μ) Q:=by
 have hr4:reach<2 ^ 4000:=UT hr.2 LX
 rw [KP,cM]
 simp only [b7,b0,fB,aR]
 refine ⟨Ou _,?_⟩
 simp only [M7,M9,aO,aE,aH,aN,w_addI]
 refine (iT (.inr ⟨by decide,by decide⟩)).mpr ?_
 simp only [jS,w_addI,d4 lO]
 have x0:=Oj ((num+reach) * 48271) (show cZ+7≠0 from Qy lO)
 have x1:=O5 ((num+reach) * 48271) lO
 generalize (num+reach) * 48271 % (cZ+7)=mx at x0 x1
 simp only [M7,M9,lF,jR (j:=0),aS,aR,aE,aH]
 refine ⟨by omega,?_⟩
 rw [show ((n:Int)).toNat=n by omega]
 refine mV (lo:=0) (fun i ρ μ'=>μ <+: μ'/\(∃ gs,μ'[μ.length]? = some (.lst (gs.map D.int))/\gs.length=i/\∀ g∈gs,1<=g)/\∃ num mx o,ρ=[some (.int num),some (.int reach),some (.int (n:Int)),some (.loc μ.length),some (.int mx),o]/\0<=mx/\mx<cZ+7)
  ⟨aP _ _,⟨[],bB _ _,rfl,fun g hg=>by cases hg⟩,num,mx,none,rfl,x0,x1⟩ ?_ ?_
 ·rintro i ρ μ' hi ⟨hp,⟨gs,hg,hgl,hgp⟩,num,mx,o,rfl,x0,x1⟩
  refine ⟨_,rfl,?_⟩
  rw [show (0:Int)+(i:Int)=(i:Int) by omega]
  simp only [M7,M9,b7]
  have hbig:=AI
  refine bF (Q:=fun p=>p.1=.nx/\p.2.2=μ'/\∃ num mx,p.2.1=[some (.int num),some (.int reach),some (.int (n:Int)),some (.loc μ.length),some (.int mx),some (.int (i:Int))]/\0<=mx/\mx<cZ+7) ?_ ?_
  ·simp only [dD,cO,aO,aE,aH,aN,eI]
   cases hz:(num == 0) with
   | true=>
    simp only [if_true,b7,b0,aO,aE,aH,aN]
    refine (iT (.inl ⟨by decide,by decide⟩)).mpr ?_
    simp only [w_addI]
    have b1:(mx+11 * (i:Int)+5).natAbs<2 ^ 4000:=t6 (by omega) (by omega)
    have b2:(mx+3).natAbs<2 ^ 4000:=t6 (by omega) (by omega)
    refine (z5 ⟨b1,b2⟩).mpr ?_
    simp only [jS,w_addI,d4 lO]
    have y0:=Oj ((mx+11 * (i:Int)+5) * (mx+3)) (show cZ+7≠0 from Qy lO)
    have y1:=O5 ((mx+11 * (i:Int)+5) * (mx+3)) lO
    generalize (mx+11 * (i:Int)+5) * (mx+3) % (cZ+7)=my at y0 y1
    simp only [M7,M9,aO,aE,aH,aN]
    have b3:my.natAbs<2 ^ 4000:=t6 y0 (by omega)
    refine (z5 ⟨b3,b3⟩).mpr ?_
    simp only [LY,w_addI,d4 LZ,M7,M9]
    exact ⟨trivial,trivial,_,_,rfl,y0,y1⟩
   | false=>
    simp only [M8,if_false,cN]
    exact ⟨trivial,trivial,_,_,rfl,x0,x1⟩
  ·rintro ⟨fl,ρ,μ2⟩ ⟨h1,h2,num,mx,h3,x0,x1⟩
   dsimp only at h1 h2 h3
   subst h1 h2 h3
   dsimp only
   simp only [tG]
   refine J3 ?_
   simp only [aE,aH]
   refine ⟨J4 hg,?_⟩
   simp only [aS,aR,aO,aE,aH,aN,d4 (show (0:Int)<reach by omega),w_addI]
   refine (J5 hg (by rw [MZ,Np];omega)).mpr ?_
   simp only [b0,aO,aE,aH]
   refine (z4 (show (0:Int)<reach by omega) hr4).mpr ?_
   simp only [M7,M9]
   have n0:=Oj num (show reach≠0 by omega)
   refine ⟨jO hp (Ni _) _,⟨gs++[1+num % reach],?_,by rw [Nk,hgl];rfl,fun g hgm=>?_⟩,_,_,_,rfl,x0,x1⟩
   ·rw [NR (Ng.mp hg).1,NJ];rfl
   ·rcases NY.mp hgm with h|h
    ·exact hgp g h
    ·simp only [NN,Oo,or_false] at h
     omega
 ·rintro ρ μ' ⟨hp,⟨gs,hg,hgl,hgp⟩,num,mx,o,rfl,x0,x1⟩
  simp only [bO,aE,aH]
  exact H _ _ gs hp hg hgl hgp (Ni _)
theorem t7:(0:Int)<cZ - 1:=by decide +kernel
theorem L4 (k:Nat)(ns:List Int)(hb:∀ m∈ns,Nf m<=2 ^ 20)(i:Int)(hi:0<=i)(μ:Hm)(Q:D×Hm->Prop)
  (H:∀ a μ' gs,μ <+: μ'->μ'[a]? = some (.lst (gs.map D.int))->GoodG gs->μ.length<=a->Q (.loc a,μ')):W (f (k+2) "_law_gaps" [.rol (ns.map D.int),.int i] μ) Q:=by
 rw [LV,cM]
 simp only [b7,b0,a8,aS,aR,aE,aH,iC _ ns i hi]
 generalize bV ns i=hd
 simp only [M7,M9,dD,cO,aO,aE,aH,aN,iS (show (0:Int)<640 by decide) (show (640:Int)<1073741824 by decide),d4 (show (0:Int)<8 by decide),eI]
 by_cases h1:hd / 640 % 8=1
 ·have e1:(hd / 640 % 8 == 1)=true:=by simpa using h1
  simp only [e1,if_true,b7,b0,aO,a8,aS,aR,aE,aH,aN,w_addI,iC _ ns (i+1) (by omega),iC _ ns (i+2) (by omega),K0,K5 hb,jS,w_subI,d4 tU,M7,M9]
  have n1:=Oj (bV ns (i+1) * c7) (show cZ - 99≠0 from Qy tU)
  have n2:=Oj (bV ns (i+2) * c7) (show cZ - 99≠0 from Qy tU)
  generalize bV ns (i+1) * c7 % (cZ - 99)=u at n1
  generalize bV ns (i+2) * c7 % (cZ - 99)=v at n2
  simp only [bO,aO,fB,aS,aR,aE,aH]
  refine ⟨tT,by show (4:Nat)<=Nd;decide,tT,?_⟩
  simp only [aN,iS (show (0:Int)<5120 by decide) (show (5120:Int)<1073741824 by decide),lH]
  have hc:hd / 5120 % 2=0\/hd / 5120 % 2=1:=by omega
  rcases hc with hc|hc
  ·rw [hc]
   refine (bM (bB _ _) (d:=.loc μ.length) rfl).mpr ?_
   refine H _ _ [1+u,1+u] ((aP _ _).trans ((aP _ _).trans (aP _ _))) ?_ ⟨.inl rfl,fun g hg=>?_,?_⟩ (Ni _)
   ·exact aX ((aP _ _).trans (aP _ _)) (bB _ _)
   ·simp only [NN,Oo,or_false] at hg
    rcases hg with rfl|rfl<;>omega
   ·simp only [aQ];omega
  ·rw [hc]
   refine (bM (bB _ _) (d:=.loc (μ++[C.lst [D.int (1+u),D.int (1+u)]]).length) rfl).mpr ?_
   refine H _ _ [1+u,1+v,1+v,1+u] ((aP _ _).trans ((aP _ _).trans (aP _ _))) ?_ ⟨.inr (.inl rfl),fun g hg=>?_,?_⟩ (by simp)
   ·exact aX (aP _ _) (bB _ _)
   ·simp only [NN,Oo,or_false] at hg
    rcases hg with rfl|rfl|rfl|rfl<;>omega
   ·simp only [aQ];omega
 ·have e1:(hd / 640 % 8 == 1)=false:=by simpa using h1
  simp only [e1,M8,if_false,cN,b7,b0,aO,fB,aS,aR,aE,aH,aN,d4 (show (0:Int)<8 by decide)]
  refine ⟨by show (8:Nat)<=Nd;decide,?_⟩
  obtain ⟨h,hh,hl1,hl4⟩:=K7 (i:=hd % 8) (by omega) (by omega)
  refine (bM (bB _ _) hh).mpr ?_
  simp only [M7,M9,aO,fB,aS,aR,aE,aH,aN,w_p59',KY,d4 (show (0:Int)<5 by decide)]
  refine ⟨by show (5:Nat)<=Nd;decide,?_⟩
  obtain ⟨m,hm,hm1⟩:=K8 (i:=hd / 8 % 5) (by omega) (by omega)
  refine (bM (bB _ _) hm).mpr ?_
  simp only [M7,M9]
  refine iU (xs:=d5 0 (2 * h)) (p:=fun _=>true) (v:=fun d=>.int (1+bV ns (i+1+fI d) * c6 % m)) ?_
  simp only [jR (j:=0),aS,aR,aN,aO,aE,aH,w_mul2]
  have hn:(2 * (h:Int)).toNat=2 * h:=by omega
  rw [hn]
  refine ⟨by omega,Ab,by simp [d5],by rw [Np];simp [d5];omega,?_,?_,?_⟩
  ·intro d μ' hd hp
   exact w_mTrue.mpr ⟨rfl,Nw _⟩
  ·intro d μ' hd' _ hp
   obtain ⟨j,hj,rfl⟩:=Aj hd'
   simp only [Nx,NA,aO,a8,aS,aR,aE,aH,aN,w_addI,iC _ ns (i+1+(0+(j:Int))) (by omega),K1,K6 hb,d4 (show (0:Int)<m by omega)]
   exact ⟨rfl,Nw _⟩
  ·intro μ1 hp1 hg1
   rw [K9] at hg1
   have hlen:=La ns i m (2 * h)
   have hpos:=Lb (ns:=ns) (at':=i) (n:=2 * h) hm1
   generalize jT ns i m (2 * h)=gs at hg1 hlen hpos
   generalize hμ0:(μ++[C.lst [D.int 1,D.int 2,D.int 2,D.int 3,D.int 3,D.int 4,D.int 2,D.int 3]]++[C.lst [D.int 1,D.int 2,D.int 3,D.int 9,D.int mY]])=μ0 at hp1 hg1
   have p0:μ <+: μ0:=by rw [<- hμ0];exact (aP _ _).trans (aP _ _)
   have hal:μ0.length<μ1.length:=(Ng.mp hg1).1
   simp only [M7,M9,dD,cO,aO,aE,aH,aN,iS (show (0:Int)<40 by decide) (show (40:Int)<1073741824 by decide),lH,eI]
   cases hz:(hd / 40 % 2 == 1) with
   | false=>
    simp only [M8,if_false,cN]
    exact AH (Q:=Q) (μ:=μ) ⟨hl1,hl4⟩ (p0.trans hp1) (o8 p0) hg1 hlen hpos H
   | true=>
    simp only [if_true,b7,b0,aO,a8,aS,aR,aE,aH,aN,w_addI,iC _ ns (i+3) (by omega),iC _ ns (i+1) (by omega),iC _ ns (i+2) (by omega),Ah]
    have q0:0<=bV ns (i+3) % 4/\bV ns (i+3) % 4<4:=by omega
    obtain ⟨h2,e2,b2⟩:∃ h2:Nat,1+bV ns (i+3) % 4=(h2:Int)/\1<=h2/\h2<=4:=⟨(1+bV ns (i+3) % 4).toNat,by omega,by omega⟩
    simp only [e2,jS,w_subI,d4 t7,M7,M9,w_mul2,w_addI]
    have y0:=Oj (bV ns (i+2)) (show cZ - 1≠0 from Qy t7)
    have y1:=O5 (bV ns (i+2)) t7
    have hbig:=AI
    generalize bV ns (i+2) % (cZ - 1)=rr at y0 y1
    rw [show 2 * (h2:Int)=((2 * h2:Nat):Int) by omega]
    refine L1 _ ⟨by omega,?_⟩ (by omega) _ _ fun b μ2 gs2 p2 g2 l2 ps2 lb2=>?_
    ·omega
    ·simp only [M7,M9]
     refine AH (Q:=Q) (μ:=μ) b2 (p0.trans (hp1.trans p2)) ?_ g2 l2 ps2 H
     have:=o8 (p0.trans hp1)
     exact N9 this lb2
theorem Fo.mid {A B:List Gm}{x y z:Gm}(hn:(A++x::y::z::B).length % 2=0)(c:lK x y z):Fo (A++x::y::z::B)↔Fo (A++bA x y z::B):=by
 have R:Rot (A++x::y::z::B) (x::y::z::(B++A)):=⟨A,x::y::z::B,rfl,by simp⟩
 have R2:Rot (A++bA x y z::B) (bA x y z::(B++A)):=⟨A,bA x y z::B,rfl,by simp⟩
 rw [Fo.iff R hn c]
 exact ⟨fun h=>h.rot R2.symm,fun h=>h.rot R2⟩
noncomputable def bJ (a Y:Int):List Bool->List Gm
 | []=>[]
 | [m]=>[(Y,m)]
 | m::n::r=>(a,m)::bJ a Y (n::r)
theorem lP (a Y:Int):∀ ms:List Bool,(bJ a Y ms).length=ms.length
 | []=>rfl
 | [_]=>rfl
 | _::n::r=>by simp [bJ,lP a Y (n::r)]
theorem m4 (a Y:Int):∀ (u v:List Bool),v≠[]->bJ a Y (u++v)=u.map (fun m=>(a,m))++bJ a Y v
 | [],v,_=>rfl
 | [m],v,h=>by
  cases v with
  | nil=>exact absurd rfl h
  | cons n r=>rfl
 | m::n::u,v,h=>by
  show (a,m)::bJ a Y (n::u++v)=_
  rw [m4 a Y (n::u) v h]
  rfl
noncomputable def bQ:List Bool->Int
 | []=>0
 | b::r=>(if b then 1 else -1)+bQ r
theorem t8:∀ u v:List Bool,bQ (u++v)=bQ u+bQ v
 | [],v=>by simp [bQ]
 | b::u,v=>by simp only [Nx,bQ,t8 u v];omega
theorem AK (u v:List Bool){b c:Bool}(h:b≠c):bQ (u++b::c::v)=bQ (u++v):=by
 rw [t8,t8]
 cases b<;>cases c<;>simp_all [bQ]<;>omega
theorem t9 (s:Bool):∀ j:Nat,bQ (MY j s)=if s then (j:Int) else -(j:Int)
 | 0=>by cases s<;>simp [bQ]
 | j+1=>by
  rw [Nt]
  simp only [bQ,t9 s j]
  cases s<;>simp<;>omega
theorem uA:∀ ms:List Bool,(∃ u b c v,ms=u++b::c::v/\b≠c)\/∃ j s,ms=MY j s
 | []=>.inr ⟨0,true,rfl⟩
 | [b]=>.inr ⟨1,b,rfl⟩
 | b::c::r=>by
  by_cases h:b=c
  ·subst h
   rcases uA (b::r) with ⟨u,b',c',v,e,ne⟩|⟨j,s,e⟩
   ·exact .inl ⟨b::u,b',c',v,by rw [e];rfl,ne⟩
   ·cases j with
    | zero=>cases e
    | succ j=>
     rw [Nt] at e
     injection e with e1 e2
     subst e1
     exact .inr ⟨j+2,b,by rw [e2];rfl⟩
  ·exact .inl ⟨[],b,c,r,rfl,h⟩
theorem AL {R u v:List Bool}{P:List Gm}{X:Gm}{a Y:Int}{b c:Bool}(hb:b≠c)(hX:a<=X.1)(hY:a<=Y)(hne:u++v≠[])(hn:(P++[X]++bJ a Y (u++b::c::v)).length % 2=0) :
  Fo (P++[X]++bJ a Y (u++b::c::v))↔Fo (P++[X]++bJ a Y (u++v)):=by
  -- what stands ahead of the two
 have ahead:∃ A x,P++[X]++u.map (fun m=>(a,m))=A++[x]/\a<=x.1:=by
  cases hu:u.reverse with
  | nil=>
   have:u=[]:=by simpa using hu
   subst this
   exact ⟨P,X,by simp,hX⟩
  | cons m w=>
   have:u=w.reverse++[m]:=by
    have:=congrArg Qq hu
    simpa using this
   subst this
   exact ⟨P++[X]++w.reverse.map (fun m=>(a,m)),(a,m),by simp,RE _⟩
 obtain ⟨A,x,e,hx⟩:=ahead
 cases v with
 | cons n r=>
  have e1:P++[X]++bJ a Y (u++b::c::n::r)=A++x::(a,b)::(a,c)::bJ a Y (n::r):=by
   rw [m4 _ _ _ _ (by simp),<- NS,e]
   simp [bJ]
  have e2:P++[X]++bJ a Y (u++n::r)=A++x::bJ a Y (n::r):=by
   rw [m4 _ _ _ _ (by simp),<- NS,e]
   simp
  rw [e1] at hn
  rw [e1,e2,Fo.mid hn ⟨hx,RE _,hb⟩]
  have:bA x (a,b) (a,c)=x:=fU (by show x.1 - a+a=x.1;omega) rfl
  rw [this]
 | nil=>
  rw [Oi] at hne ⊢
  obtain ⟨w,m,rfl⟩:∃ w m,u=w++[m]:=by
   cases hu:u.reverse with
   | nil=>exact absurd (by simpa using hu) hne
   | cons m w=>exact ⟨w.reverse,m,by have:=congrArg Qq hu;simpa using this⟩
  have e1:P++[X]++bJ a Y (w++[m]++b::c::[])=(P++[X]++w.map (fun m=>(a,m)))++(a,m)::(a,b)::(Y,c)::[]:=by
   rw [m4 _ _ _ _ (by simp)]
   simp [bJ]
  have e2:P++[X]++bJ a Y (w++[m])=(P++[X]++w.map (fun m=>(a,m)))++[(Y,m)]:=by
   rw [m4 _ _ _ _ (by simp)]
   simp [bJ]
  rw [e1] at hn
  rw [e1,e2,Fo.mid hn ⟨RE _,hY,hb⟩]
  have:bA (a,m) (a,b) (Y,c)=(Y,m):=fU (by show a - a+Y=Y;omega) rfl
  rw [this]
theorem L5 {P:List Gm}{X:Gm}{a Y:Int}{b c:Bool}(hb:b≠c)(hX:a<=X.1)(hY:a<=Y)(hn:P.length % 2=1) :
  Fo (P++[X]++bJ a Y [b,c])↔Fo (P++[(X.1 - a+Y,X.2)]):=by
 have e:P++[X]++bJ a Y [b,c]=P++X::(a,b)::(Y,c)::[]:=by simp [bJ]
 rw [e,Fo.mid (by simp;omega) ⟨hX,hY,hb⟩]
 rfl
theorem iE:∀ u v:List Int,aQ (u++v)=aQ u+(if u.length % 2=0 then aQ v else -(aQ v))
 | [],v=>by simp [aQ]
 | g::u,v=>by
  simp only [Nx,aQ,iE u v,Na]
  by_cases h:u.length % 2=0
  ·rw [if_pos h,if_neg (by omega)];omega
  ·rw [if_neg h,if_pos (by omega)];omega
theorem uB (p q:List Int)(x y z:Int):aQ (p++x::y::z::q)=aQ (p++(x - y+z)::q):=by
 rw [iE,iE]
 simp only [aQ]
 split<;>omega
theorem L6 {α:Type}{n:Nat}{e:α}{u v:List α}(h:MY n e=u++v):(∀ x∈u,x=e)/\∀ x∈v,x=e:=
 ⟨fun x hx=>(Q7.mp (h ▸ NY.mpr (.inl hx))).2,fun x hx=>(Q7.mp (h ▸ NY.mpr (.inr hx))).2⟩
theorem L7 {l:List Gm}(F:Fo l):∀ {X:Gm}{a Y:Int}{s:Bool}{j:Nat}{rest:List Gm},Rot l (X::(MY (j+1) (a,s)++(Y,s)::rest))->a<X.1->a<Y->l.length % 2=0->
  aQ ((X::(MY (j+1) (a,s)++(Y,s)::rest)).map (·.1))=0->False:=by
 induction F with
 | two h=>
  intro X a Y s j rest R _ _ _ _
  have:=R.len
  simp at this
  omega
 | @step l r x y z R c F' ih=>
  intro X a Y s j rest R2 hX hY he hA
  obtain ⟨u,v,e1,e2⟩:=R2.symm.trans R
  obtain ⟨c1,c2,c3⟩:=c
  have hl:(bA x y z::r).length % 2=0:=by
   have:=R.len
   simp at this
   simp
   omega
  have whole:x::y::z::r=X::(MY (j+1) (a,s)++(Y,s)::rest)->False:=fun e=>by
   cases j with
   | zero=>
    simp at e
    obtain ⟨_,h2,h3,_⟩:=e
    exact c3 (by rw [h2,h3])
   | succ j=>
    simp [Nt] at e
    obtain ⟨_,h2,h3,_⟩:=e
    exact c3 (by rw [h2,h3])
    -- from Y on
  have fromY:∀ t v':List Gm,(Y,s)::rest=t++v'->x::y::z::r=v'++X::(MY (j+1) (a,s)++t)->False:=fun t v' e3 e4=>by
   match t,e3 with
   | [],e3=>
    rw [NA] at e3
    subst e3
    rw [Oi] at e4
    match rest,e4 with
    | [],e4=>
     simp [Nt] at e4
     obtain ⟨_,h2,h3,_⟩:=e4
     rw [h2,h3] at c2
     exact absurd c2 (by show ¬ X.1<=a;omega)
    | [y1],e4=>
     simp at e4
     obtain ⟨h1,h2,h3,h4⟩:=e4
     subst h1 h2 h3
     have hL:=R2.len
     simp at hL
     rw [Nj,NJ] at hA
     simp only [aQ,iE,Nj,Qs,MZ,N0] at hA
     have hrep:∀ n:Nat,aQ ((MY n ((a,s):Gm)).map (·.1))=if n % 2=0 then 0 else a:=fun n=>by
      induction n with
      | zero=>rfl
      | succ n ih=>
       rw [Nt,Nj]
       simp only [aQ,ih]
       split<;>split<;>omega
     rw [hrep,if_neg (by omega),if_neg (by omega)] at hA
     have c1':y.1<=Y:=c1
     omega
    | y1::z1::r1,e4=>
     simp at e4
     obtain ⟨h1,h2,h3,h4⟩:=e4
     subst h1 h2 h3
     have c1':y.1<=Y:=c1
     refine ih (X:=X) (a:=a) (Y:=Y - y.1+z.1) (s:=s) (j:=j) (rest:=r1) ?_ hX (by omega) hl ?_
     ·rw [h4]
      exact ⟨bA (Y,s) y z::r1,X::MY (j+1) (a,s),by simp,by simp [bA]⟩
     ·rw [<- hA]
      have:=uB ((X::MY (j+1) ((a,s):Gm)).map (·.1)) (r1.map (·.1)) Y y.1 z.1
      simp only [Nj,NJ,Nx] at this ⊢
      exact this.symm
   | _::t',e3=>
    simp at e3
    obtain ⟨rfl,e3⟩:=e3
    match v',e4 with
    | [],e4=>
     rw [Oi] at e3
     subst e3
     exact whole e4
    | [x'],e4=>
     simp [Nt] at e4
     obtain ⟨_,h2,h3,_⟩:=e4
     rw [h2,h3] at c2
     exact absurd c2 (by show ¬ X.1<=a;omega)
    | [x',y'],e4=>
     simp at e4
     obtain ⟨h1,h2,h3,h4⟩:=e4
     subst h1 h2 h3 e3
     refine ih (X:=bA x y z) (a:=a) (Y:=Y) (s:=s) (j:=j) (rest:=t') ?_ (by show a<x.1 - y.1+z.1;omega) hY hl ?_
     ·rw [h4]
      exact .re
     ·have hL:=R2.len
      simp at hL
      have e5:(z::(MY (j+1) ((a,s):Gm)++(Y,s)::(t'++[x,y]))).map (·.1)=z.1::((MY (j+1) ((a,s):Gm)++(Y,s)::t').map (·.1)++[x.1,y.1]):=by simp
      rw [e5] at hA
      simp only [aQ,iE] at hA
      rw [if_neg (by simp;omega)] at hA
      have h6:x.1 - y.1+z.1 - aQ ((MY (j+1) ((a,s):Gm)++(Y,s)::t').map (·.1))=0:=by omega
      exact h6
    | x'::y'::z'::w,e4=>
     simp at e4
     obtain ⟨h1,h2,h3,h4⟩:=e4
     subst h1 h2 h3 e3
     refine ih (X:=X) (a:=a) (Y:=Y) (s:=s) (j:=j) (rest:=t'++bA x y z::w) ?_ hX hY hl ?_
     ·rw [h4]
      exact ⟨bA x y z::w,X::(MY (j+1) (a,s)++(Y,s)::t'),by simp,by simp⟩
     ·rw [<- hA]
      have:=uB ((X::(MY (j+1) ((a,s):Gm)++(Y,s)::t')).map (·.1)) (w.map (·.1)) x.1 y.1 z.1
      simp only [Nj,NJ,Nx,NS] at this ⊢
      exact this.symm
  match u,e1 with
  | [],e1=>
   rw [NA] at e1
   rw [Oi,<- e1] at e2
   exact whole e2
  | _::u',e1=>
   rw [Nx] at e1
   injection e1 with h1 e1
   subst h1
   rcases RV.mp e1 with ⟨t,h3,h4⟩|⟨t,h3,h4⟩
   ·-- u'=A++t
    exact fromY t v h4 (by rw [e2,h3])
   ·obtain ⟨hu,ht⟩:=L6 h3
    match t,h4 with
    | [],h4=>
     rw [Oi] at h3
     rw [NA] at h4
     exact fromY [] v h4.symm (by rw [e2,<- h3,Oi])
    | [e],h4=>
     subst h4
     simp at e2
     obtain ⟨g1,g2,_⟩:=e2
     have:=ht e (by simp)
     rw [g1,g2,this] at c1
     exact absurd c1 (by show ¬ Y<=a;omega)
    | e::e'::t',h4=>
     subst h4
     have he':=ht e' (by simp)
     match t',e2 with
     | [],e2=>
      simp at e2
      obtain ⟨_,g2,g3,_⟩:=e2
      exact c3 (by rw [g2,g3,he'])
     | e''::t'',e2=>
      simp at e2
      obtain ⟨_,g2,g3,_⟩:=e2
      exact c3 (by rw [g2,g3,he',ht e'' (by simp)])
theorem uC (a Y:Int):∀ ms:List Bool,ms≠[]->(bJ a Y ms).map (·.1)=MY (ms.length - 1) a++[Y]
 | [],h=>absurd rfl h
 | [m],_=>rfl
 | m::n::r,_=>by
  show a::(bJ a Y (n::r)).map (·.1)=_
  rw [uC a Y (n::r) (by simp)]
  simp [Nt]
theorem m5 (p:List Int)(a:Int)(k:Nat)(q:List Int):aQ (p++(MY (k+2) a++q))=aQ (p++(MY k a++q)):=by
 rw [iE p,iE p,Nt,Nt,Nx,Nx]
 simp only [aQ]
 split<;>omega
theorem AM {u v:List Int}(he:(u++v).length % 2=0)(h:aQ (u++v)=0):aQ (v++u)=0:=by
 rw [Nk] at he
 rw [iE] at h ⊢
 by_cases hu:u.length % 2=0
 ·rw [if_pos hu] at h
  rw [if_pos (by omega)]
  omega
 ·rw [if_neg hu] at h
  rw [if_neg (by omega)]
  omega
theorem AN (a Y:Int)(s:Bool):∀ j:Nat,bJ a Y (MY (j+1) s)=MY j (a,s)++[(Y,s)]
 | 0=>rfl
 | j+1=>by
  show (a,s)::bJ a Y (MY (j+1) s)=_
  rw [AN a Y s j,Nt]
  rfl
theorem AO {P:List Gm}{X:Gm}{a Y:Int}{s:Bool}{j:Nat}(hX:a<X.1)(hY:a<Y)(hn:(P++[X]++bJ a Y (MY (j+2) s)).length % 2=0)(hA:aQ ((P++[X]++bJ a Y (MY (j+2) s)).map (·.1))=0) :
  ¬ Fo (P++[X]++bJ a Y (MY (j+2) s)):=fun F=>by
 rw [AN] at F hn hA
 refine L7 F (X:=X) (a:=a) (Y:=Y) (s:=s) (j:=j) (rest:=P) ⟨P,X::(MY (j+1) (a,s)++[(Y,s)]),by simp,by simp⟩ hX hY hn ?_
 have e:(X::(MY (j+1) ((a,s):Gm)++(Y,s)::P)).map (·.1)=(X::(MY (j+1) ((a,s):Gm)++[(Y,s)])).map (·.1)++P.map (·.1):=by simp
 rw [e]
 refine AM ?_ ?_
 ·rw [<- NJ,MZ]
  simpa using hn
 ·rw [<- hA,<- NJ]
  simp
theorem AQ {P:List Gm}{X:Gm}{a Y:Int}{u v:List Bool}{b c:Bool}(hne:u++v≠[])(hA:aQ ((P++[X]++bJ a Y (u++b::c::v)).map (·.1))=0):aQ ((P++[X]++bJ a Y (u++v)).map (·.1))=0:=by
 rw [NJ,uC _ _ _ (by simp)] at hA
 rw [NJ,uC _ _ _ hne]
 have e:(u++b::c::v).length - 1=((u++v).length - 1)+2:=by
  have:0<(u++v).length:=List.length_pos_iff.mpr hne
  simp at this ⊢
  omega
 rw [e,m5] at hA
 exact hA
theorem AR {P:List Gm}{X:Gm}{a Y:Int}(hX:a<X.1)(hY:a<Y):∀ (n:Nat)(ms:List Bool),ms.length<=n->ms.length % 2=0->ms≠[]->(P++[X]++bJ a Y ms).length % 2=0->aQ ((P++[X]++bJ a Y ms).map (·.1))=0->
  (Fo (P++[X]++bJ a Y ms)↔bQ ms=0/\Fo (P++[(X.1 - a+Y,X.2)]))
 | 0,ms,h,_,h0,_,_=>absurd (Sd.mp (U9.mp h)) h0
 | n+1,ms,h,he,h0,hn,hA=>by
  rcases uA ms with ⟨u,b,c,v,rfl,hb⟩|⟨j,s,rfl⟩
  ·by_cases hne:u++v=[]
   ·obtain ⟨rfl,rfl⟩:=OF.mp hne
    have hp:P.length % 2=1:=by
     rw [Nk,lP] at hn
     simp at hn
     omega
    rw [NA,L5 hb (O4 hX) (O4 hY) hp]
    have:bQ [b,c]=0:=by cases b<;>cases c<;>simp_all [bQ]
    simp [this]
   ·rw [AL (R:=[]) hb (O4 hX) (O4 hY) hne hn,AK _ _ hb]
    refine AR hX hY n (u++v) (by simp at h ⊢;omega) (by simp at he ⊢;omega) hne ?_ (AQ hne hA)
    rw [Nk,lP] at hn ⊢
    simp at hn ⊢
    omega
  ·match j,he with
   | 0,_=>exact absurd rfl h0
   | 1,he=>simp at he
   | j+2,he=>
    refine ⟨fun F=>absurd F (AO hX hY hn hA),fun ⟨hz,_⟩=>?_⟩
    rw [t9] at hz
    exfalso
    split at hz<;>omega
theorem AS {P:List Gm}{X:Gm}{a Y:Int}(hX:a<X.1)(hY:a<Y):∀ (n:Nat)(ms:List Bool),ms.length<=n->ms.length % 2=1->(P++[X]++bJ a Y ms).length % 2=0->aQ ((P++[X]++bJ a Y ms).map (·.1))=0->
  (Fo (P++[X]++bJ a Y ms)↔(bQ ms=1/\Fo (P++[X]++[(Y,true)]))\/(bQ ms = -1/\Fo (P++[X]++[(Y,false)])))
 | 0,ms,h,he,_,_=>by omega
 | n+1,ms,h,he,hn,hA=>by
  rcases uA ms with ⟨u,b,c,v,rfl,hb⟩|⟨j,s,rfl⟩
  ·have hne:u++v≠[]:=fun e=>by
    obtain ⟨rfl,rfl⟩:=OF.mp e
    simp at he
   rw [AL (R:=[]) hb (O4 hX) (O4 hY) hne hn,AK _ _ hb]
   refine AS hX hY n (u++v) (by simp at h ⊢;omega) (by simp at he ⊢;omega) ?_ (AQ hne hA)
   rw [Nk,lP] at hn ⊢
   simp at hn ⊢
   omega
  ·match j,he with
   | 0,he=>simp at he
   | 1,_=>
    show Fo (P++[X]++[(Y,s)])↔_
    cases s<;>simp [bQ]
   | j+2,he=>
    refine ⟨fun F=>absurd F (AO hX hY hn hA),fun hz=>?_⟩
    rw [t9] at hz
    exfalso
    simp at he
    rcases hz with ⟨hz,_⟩|⟨hz,_⟩<;>split at hz<;>omega
theorem Fo.scale {c:Int}(hc:0<c){l:List Gm}(F:Fo l):Fo (l.map fun g=>(c * g.1,g.2)):=by
 induction F with
 | two h=>exact .two h
 | @step l r x y z R k F' ih=>
  obtain ⟨k1,k2,k3⟩:=k
  refine .step (R.map _) ⟨P5 k1 (O4 hc),P5 k2 (O4 hc),k3⟩ ?_
  have e:bA (c * x.1,x.2) (c * y.1,y.2) (c * z.1,z.2)=(c * (bA x y z).1,(bA x y z).2):=fU (by
   show c * x.1 - c * y.1+c * z.1=c * (x.1 - y.1+z.1)
   rw [Vc,SW]) rfl
  rw [e]
  exact ih
theorem Fo.other {l:List Gm}(F:Fo l):Fo (l.map fun g=>(g.1,!g.2)):=by
 induction F with
 | two h=>exact .two (congrArg (!·) h)
 | @step l r x y z R k F' ih=>
  obtain ⟨k1,k2,k3⟩:=k
  exact .step (R.map _) ⟨k1,k2,fun e=>k3 (by cases h1:y.2<;>cases h2:z.2<;>simp_all)⟩ ih
noncomputable def eA:Bool->List Gm->List Gm
 | _,[]=>[]
 | m,g::l=>(g.1,m)::eA g.2 l
noncomputable def cG:Bool->List Gm->Bool
 | d,[]=>d
 | _,g::l=>cG g.2 l
noncomputable def iF (l:List Gm):List Gm:=eA (cG false l) l
theorem m7:∀ (m:Bool)(u v:List Gm),eA m (u++v)=eA m u++eA (cG m u) v
 | _,[],_=>rfl
 | m,g::u,v=>by
  show (g.1,m)::eA g.2 (u++v)=_
  rw [m7 g.2 u v]
  rfl
theorem m8:∀ (d:Bool)(u v:List Gm),cG d (u++v)=cG (cG d u) v
 | _,[],_=>rfl
 | _,g::u,v=>m8 g.2 u v
theorem AU {l:List Gm}(h:l≠[])(d d':Bool):cG d l=cG d' l:=by
 cases l with
 | nil=>exact absurd rfl h
 | cons=>rfl
theorem L8 {l l':List Gm}(R:Rot l l'):Rot (iF l) (iF l'):=by
 obtain ⟨u,v,rfl,rfl⟩:=R
 by_cases hu:u=[]
 ·subst hu
  rw [Oi]
  exact .re
 by_cases hv:v=[]
 ·subst hv
  rw [Oi]
  exact .re
 unfold iF
 refine ⟨eA (cG false (u++v)) u,eA (cG (cG false (u++v)) u) v,m7 _ _ _,?_⟩
 rw [m7,m8 false v u,m8 false u v,AU hu (cG (cG false u) v) (cG false v),AU hv (cG (cG false v) u) (cG false u)]
theorem Fo.turn {l:List Gm}(F:Fo l):Fo (iF l.reverse):=by
 induction F with
 | @two x y h=>exact .two h
 | @step l r x y z R k F' ih=>
  obtain ⟨k1,k2,k3⟩:=k
  have Rr:Rot l.reverse (r.reverse++[z,y,x]):=by
   obtain ⟨u,v,h1,h2⟩:=R
   refine ⟨v.reverse,u.reverse,by rw [h1];simp,?_⟩
   have:=congrArg Qq h2
   simp at this ⊢
   exact this
  have e1:iF (r.reverse++[z,y,x])=eA x.2 r.reverse++[(z.1,cG x.2 r.reverse),(y.1,z.2),(x.1,y.2)]:=by
   unfold iF
   rw [m7,m8]
   rfl
  have e2:iF (bA x y z::r).reverse=eA x.2 r.reverse++[(x.1 - y.1+z.1,cG x.2 r.reverse)]:=by
   unfold iF
   rw [N2,m7,m8]
   rfl
  rw [e2] at ih
  have R1:=L8 Rr
  rw [e1] at R1
  refine .step (x:=(z.1,cG x.2 r.reverse)) (y:=(y.1,z.2)) (z:=(x.1,y.2)) (r:=eA x.2 r.reverse) (R1.trans ⟨eA x.2 r.reverse,_,rfl,rfl⟩) ⟨k2,k1,OU k3⟩ ?_
  have e3:bA (z.1,cG x.2 r.reverse) (y.1,z.2) (x.1,y.2)=(x.1 - y.1+z.1,cG x.2 r.reverse):=fU (by show z.1 - y.1+x.1=x.1 - y.1+z.1;omega) rfl
  rw [e3]
  exact ih.rot ⟨_,_,rfl,rfl⟩
noncomputable def bR:Nat->List (List Bool)
 | 0=>[[]]
 | n+1=>(bR n).map (false::·)++(bR n).map (true::·)
theorem mem_rowsH:∀ {n:Nat}{bs:List Bool},bs∈bR n↔bs.length=n
 | 0,bs=>by simp [bR]
 | n+1,bs=>by
  simp only [bR,NY,NG]
  constructor
  ·rintro (⟨r,h,rfl⟩|⟨r,h,rfl⟩)<;>simp [mem_rowsH.mp h]
  ·intro h
   match bs,h with
   | false::r,h=>exact .inl ⟨r,mem_rowsH.mpr (by simpa using h),rfl⟩
   | true::r,h=>exact .inr ⟨r,mem_rowsH.mpr (by simpa using h),rfl⟩
theorem uD {α β:Type}{g:α->β}(hg:∀ a b,g a=g b->a=b):∀ {l:List α},l.Nodup->(l.map g).Nodup
 | [],_=>by simp
 | a::l,h=>by
  rw [Ox] at h
  rw [Nj,Ox]
  refine ⟨fun hm=>?_,uD hg h.2⟩
  obtain ⟨b,hb,e⟩:=NG.mp hm
  exact h.1 (hg _ _ e ▸ hb)
theorem uE:∀ n:Nat,(bR n).Nodup
 | 0=>by simp [bR]
 | n+1=>by
  rw [bR,TC]
  refine ⟨uD (fun a b h=>by simpa using h) (uE n),uD (fun a b h=>by simpa using h) (uE n),?_⟩
  intro a ha b hb e
  obtain ⟨x,_,rfl⟩:=NG.mp ha
  obtain ⟨y,_,rfl⟩:=NG.mp hb
  simp at e
noncomputable def bI (n:Nat)(P:List Bool->Bool):Nat:=((bR n).filter P).length
theorem AV {n:Nat}{P P':List Bool->Bool}(h:∀ bs:List Bool,bs.length=n->P bs=P' bs):bI n P=bI n P':=by
 unfold bI
 rw [TJ fun bs hb=>h bs (mem_rowsH.mp hb)]
theorem AW {α:Type} [DecidableEq α]:∀ {l m:List α},l.Nodup->(∀ x∈l,x∈m)->l.length<=m.length
 | [],_,_,_=>by simp
 | a::l,m,h,s=>by
  rw [Ox] at h
  have ha:=s a (by simp)
  have:l.length<=(m.erase a).length:=AW h.2 fun x hx=>(List.mem_erase_of_ne (fun e:x=a=>h.1 (by rw [<- e];exact hx))).mpr (s x (by simp [hx]))
  rw [List.length_erase_of_mem ha] at this
  have:=List.length_pos_of_mem ha
  simp
  omega
theorem pH {n m:Nat}{P P':List Bool->Bool}(g:List Bool->List Bool)(hl:∀ bs:List Bool,bs.length=n->(g bs).length=m)(hi:∀ bs bs':List Bool,bs.length=n->bs'.length=n->g bs=g bs'->bs=bs')(hP:∀ bs:List Bool,bs.length=n->P bs=true->P' (g bs)=true):bI n P<=bI m P':=by
 unfold bI
 have:∀ l:List (List Bool),l.Nodup->(∀ x∈l,x.length=n)->(l.map g).Nodup:=by
  intro l
  induction l with
  | nil=>simp
  | cons a l ih=>
   intro h hx
   rw [Ox] at h
   rw [Nj,Ox]
   refine ⟨fun hm=>?_,ih h.2 fun x h=>hx x (by simp [h])⟩
   obtain ⟨b,hb,e⟩:=NG.mp hm
   exact h.1 (hi _ _ (hx b (by simp [hb])) (hx a (by simp)) e ▸ hb)
 have h2:=this ((bR n).filter P) ((uE n).filter _) fun x hx=>mem_rowsH.mp (ON.mp hx).1
 rw [<- MZ (f:=g)]
 refine AW h2 fun x hx=>?_
 obtain ⟨b,hb,rfl⟩:=NG.mp hx
 obtain ⟨hb,hp⟩:=ON.mp hb
 exact ON.mpr ⟨mem_rowsH.mpr (hl b (mem_rowsH.mp hb)),hP b (mem_rowsH.mp hb) hp⟩
theorem uF (n:Nat)(P:List Bool->Bool):bI (n+1) P=bI n (fun r=>P (false::r))+bI n (fun r=>P (true::r)):=by
 unfold bI
 rw [bR,Px,Nk,P8,P8,MZ,MZ]
 rfl
theorem L9 (n:Nat):bI n (fun _=>false)=0:=by
 unfold bI
 rw [List.filter_eq_nil_iff.mpr (by simp)]
 rfl
theorem m9 {n:Nat}{p q:List Bool->Bool}:∀ {m:Nat}{P:List Bool->Bool},(∀ u v:List Bool,u.length=m->v.length=n->P (u++v)=(p u&&q v))->bI (m+n) P=bI m p * bI n q:=by
 intro m
 induction m generalizing p with
 | zero=>
  intro P h
  rw [Qi,AV (P:=P) (P':=fun v=>p []&&q v) fun bs hb=>h [] bs rfl hb]
  cases hp:p [] with
  | false=>simp [L9,bI,bR,hp]
  | true=>simp [bI,bR,hp]
 | succ m ih=>
  intro P h
  rw [UL,uF,uF m p,Va]
  rw [ih (p:=fun r=>p (false::r)) fun u v hu hv=>h (false::u) v (by simp [hu]) hv]
  rw [ih (p:=fun r=>p (true::r)) fun u v hu hv=>h (true::u) v (by simp [hu]) hv]
noncomputable def cH (gs:List Int)(bs:List Bool):Bool:=(eK 4 (dR gs bs)).isSome
noncomputable def bC (gs:List Int):Nat:=bI gs.length (cH gs)
noncomputable def Ev (gs:List Int):Prop:=gs.length % 2=0/\2<=gs.length/\gs.length<=8
theorem Ma {gs:List Int}{bs:List Bool}(h:bs.length=gs.length):(dR gs bs).map gm=gs.zip bs:=by
 unfold dR
 rw [NH]
 apply List.ext_getElem
 ·simp [h]
 ·intro i h1 h2
  simp at h1
  simp [gm,Nv,h1,h ▸ h1]
theorem fX {gs:List Int}{bs:List Bool}(he:Ev gs)(h:bs.length=gs.length):cH gs bs=true↔Fo (gs.zip bs):=by
 unfold cH
 obtain ⟨h1,h2,h3⟩:=he
 have hw:(dR gs bs).length=gs.length:=by simp [dR]
 rw [Ly 4 _ (by omega) (by omega) (by omega),Ma h]
theorem AX {gs gs':List Int}{bs bs':List Bool}(he:Ev gs)(he':Ev gs')(h:bs.length=gs.length)(h':bs'.length=gs'.length)(H:Fo (gs.zip bs)↔Fo (gs'.zip bs')):cH gs bs=cH gs' bs':=by
 rw [Qz,fX he h,fX he' h',H]
theorem AY {gs:List Int}(he:Ev gs){c:Int}(hc:0<c):bC (gs.map (c * ·))=bC gs:=by
 unfold bC
 rw [MZ]
 have he':Ev (gs.map (c * ·)):=by unfold Ev at he ⊢;rw [MZ];exact he
 refine AV fun bs hb=>AX he' he (by simp [hb]) hb ?_
 have e:(gs.map (c * ·)).zip bs=(gs.zip bs).map fun g=>(c * g.1,g.2):=by
  rw [List.zip_map_left]
  rfl
 rw [e]
 refine ⟨fun F=>?_,fun F=>F.scale hc⟩
  -- back: by dividing is awkward; crimps are told by order alone
 have key:∀ {l:List Gm},Fo l->∀ {m:List Gm},l=m.map (fun g=>(c * g.1,g.2))->Fo m:=by
  intro l F
  induction F with
  | @two x y h=>
   intro m e
   match m,e with
   | [a,b],e=>
    simp at e
    obtain ⟨rfl,rfl⟩:=e
    exact .two h
  | @step l r x y z R k F' ih=>
   intro m e
   rw [e] at R
   obtain ⟨l',R',e'⟩:=R.unmap
   match l',e' with
   | a::b::d::r',e'=>
    simp at e'
    obtain ⟨rfl,rfl,rfl,rfl⟩:=e'
    obtain ⟨k1,k2,k3⟩:=k
    refine .step R' ⟨R8 k1 hc,R8 k2 hc,k3⟩ (ih ?_)
    rw [Nj]
    congr 1
    exact fU (by show c * a.1 - c * b.1+c * d.1=c * (a.1 - b.1+d.1);rw [Vc,SW]) rfl
 exact key F rfl
theorem AZ {u v:List Int}(he:Ev (u++v)):bC (u++v)<=bC (v++u):=by
 have he':Ev (v++u):=by unfold Ev at he ⊢;simp at he ⊢;omega
 have hl:(u++v).length=(v++u).length:=by simp;omega
 refine pH (fun bs=>bs.drop u.length++bs.take u.length) ?_ ?_ ?_
 ·intro bs hb
  simp at hb ⊢
  omega
 ·intro bs bs' hb hb' e
  simp at hb hb'
  obtain ⟨e1,e2⟩:=List.append_inj e (by simp;omega)
  rw [<- Ol u.length bs,<- Ol u.length bs',e1,e2]
 ·intro bs hb hp
  simp at hb
  rw [fX he (by simp [hb])] at hp
  rw [fX he' (by simp;omega)]
  refine hp.rot ⟨u.zip (bs.take u.length),v.zip (bs.drop u.length),?_,?_⟩
  ·rw [<- OM (by simp;omega),Ol]
  ·rw [<- OM (by simp;omega)]
theorem Mb {u v:List Int}(he:Ev (u++v)):bC (u++v)=bC (v++u):=
 T8 (AZ he) (AZ (by unfold Ev at he ⊢;simp at he ⊢;omega))
noncomputable def fG:Bool->List Bool->List Bool
 | _,[]=>[]
 | m,b::r=>m::fG b r
noncomputable def cQ:Bool->List Bool->Bool
 | d,[]=>d
 | _,b::r=>cQ b r
theorem uG:∀ (m:Bool)(r:List Bool),(fG m r).length=r.length
 | _,[]=>rfl
 | _,b::r=>by simp [fG,uG b r]
theorem uH:∀ (m:Bool)(r:List Bool),fG m r++[cQ m r]=m::r
 | _,[]=>rfl
 | m,b::r=>by simp only [fG,cQ,Nx,uH b r]
theorem A0 {r:List Bool}(h:r≠[])(d d':Bool):cQ d r=cQ d' r:=by
 cases r with
 | nil=>exact absurd rfl h
 | cons=>rfl
theorem A1:∀ (m:Bool)(gs:List Int)(r:List Bool),r.length=gs.length->eA m (gs.zip r)=gs.zip (fG m r)
 | _,[],[],_=>rfl
 | m,g::gs,b::r,h=>by
  simp only [Qj,eA,fG,A1 b gs r (by simpa using h)]
 | _,[],_::_,h=>by simp at h
 | _,_::_,[],h=>by simp at h
theorem A2:∀ (m:Bool)(gs:List Int)(r:List Bool),r.length=gs.length->cG m (gs.zip r)=cQ m r
 | _,[],[],_=>rfl
 | m,g::gs,b::r,h=>by
  simp only [Qj,cG,cQ,A2 b gs r (by simpa using h)]
 | _,[],_::_,h=>by simp at h
 | _,_::_,[],h=>by simp at h
theorem Mc {α β:Type}(l:List α)(m:List β)(h:l.length=m.length):(l.zip m).reverse=l.reverse.zip m.reverse:=by
 induction l generalizing m with
 | nil=>simp
 | cons a l ih=>
  match m,h with
  | b::m,h=>
   have h':l.length=m.length:=by simpa using h
   rw [Qj,N2,ih m h',N2,N2,OM (by simp [h'])]
   rfl
theorem Ev.rev {gs:List Int}(h:Ev gs):Ev gs.reverse:=by unfold Ev at h ⊢;rw [OC];exact h
theorem A3 {gs:List Int}(he:Ev gs):bC gs<=bC gs.reverse:=by
 obtain ⟨_,h2,_⟩:=id he
 refine pH (fun bs=>fG (cQ false bs.reverse) bs.reverse) ?_ ?_ ?_
 ·intro bs hb
  simp [uG,hb]
 ·intro bs bs' hb hb' e
  have e':fG (cQ false bs.reverse) bs.reverse=fG (cQ false bs'.reverse) bs'.reverse:=e
  have n1:bs.reverse≠[]:=fun h=>by have:=congrArg Ph h;simp at this;rw [this] at hb;simp at hb;omega
  have n2:bs'.reverse≠[]:=fun h=>by have:=congrArg Ph h;simp at this;rw [this] at hb';simp at hb';omega
  have a1:=uH (cQ false bs.reverse) bs.reverse
  have a2:=uH (cQ false bs'.reverse) bs'.reverse
  have hh:cQ false bs.reverse=cQ false bs'.reverse:=by
   obtain ⟨b,r,e1⟩:=Qk n1
   obtain ⟨b',r',e2⟩:=Qk n2
   have:=congrArg List.head? e'
   have k1:(fG (cQ false bs.reverse) bs.reverse).head? = some (cQ false bs.reverse):=by rw [e1];rfl
   have k2:(fG (cQ false bs'.reverse) bs'.reverse).head? = some (cQ false bs'.reverse):=by rw [e2];rfl
   rw [k1,k2] at this
   exact Nq this
  have hl:cQ (cQ false bs'.reverse) bs.reverse=cQ (cQ false bs'.reverse) bs'.reverse:=(A0 n1 _ false).trans (hh.trans (A0 n2 _ _))
  rw [e',hh,hl,a2] at a1
  have:=congrArg Qq (List.cons.inj a1).2
  simpa using this.symm
 ·intro bs hb hp
  rw [fX he hb] at hp
  rw [fX he.rev (by simp [uG,hb])]
  have:=hp.turn
  unfold iF at this
  rw [Mc _ _ hb.symm,A2 _ _ _ (by simp [hb]),A1 _ _ _ (by simp [hb])] at this
  exact this
theorem Md {gs:List Int}(he:Ev gs):bC gs.reverse=bC gs:=by
 refine T8 ?_ (A3 he)
 have:=A3 he.rev
 rwa [SI] at this
theorem nA (bs:List Bool):(bs.map (!·)).map (!·)=bs:=by
 induction bs with
 | nil=>rfl
 | cons b r ih=>rw [Nj,Nj,ih,Bool.not_not]
theorem uI {gs:List Int}(he:Ev gs){bs:List Bool}(h:bs.length=gs.length):cH gs (bs.map (!·))=cH gs bs:=by
 refine AX he he (by simp [h]) h ?_
 have e:∀ bs:List Bool,gs.zip (bs.map (!·))=(gs.zip bs).map fun g=>(g.1,!g.2):=fun bs=>by
  rw [List.zip_map_right]
  rfl
 constructor
 ·intro F
  have:=F.other
  rw [<- e,nA] at this
  exact this
 ·intro F
  rw [e]
  exact F.other
theorem A4:∀ n:Nat,(bR n).map (·.map (!·))=(bR n).reverse
 | 0=>rfl
 | n+1=>by
  rw [bR,NJ,NH,NH,List.reverse_append]
  have e1:(bR n).map ((fun r:List Bool=>r.map (!·)) ∘ (false::·))=((bR n).map (·.map (!·))).map (true::·):=by rw [NH];rfl
  have e2:(bR n).map ((fun r:List Bool=>r.map (!·)) ∘ (true::·))=((bR n).map (·.map (!·))).map (false::·):=by rw [NH];rfl
  rw [e1,e2,A4 n,Pn,Pn]
noncomputable def dN (gs:List Int):List (List Bool):=(bR gs.length).filter (cH gs)
theorem Me {gs:List Int}(he:Ev gs):(dN gs).map (·.map (!·))=(dN gs).reverse:=by
 unfold dN
 rw [<- List.filter_reverse,<- A4,P8]
 congr 1
 refine TJ fun bs hb=>?_
 exact (uI he (mem_rowsH.mp hb)).symm
theorem A5 {gs:List Int}(he:Ev gs):∃ c,bC gs=2 * c:=by
 obtain ⟨n,hn⟩:∃ n,gs.length=n+1:=⟨gs.length - 1,by have:=he.2.1;omega⟩
 refine ⟨bI n (fun r=>cH gs (false::r)),?_⟩
 unfold bC
 rw [hn,uF]
 have h1:bI n (fun r=>cH gs (true::r))<=bI n (fun r=>cH gs (false::r)):=by
  refine pH (·.map (!·)) (fun bs hb=>by simp [hb]) (fun bs bs' _ _ e=>?_) fun bs hb hp=>?_
  ·have:=congrArg (List.map (!·)) e
   rwa [nA,nA] at this
  ·exact (uI he (bs:=true::bs) (by simp [hn,hb])).trans hp
 have h2:bI n (fun r=>cH gs (false::r))<=bI n (fun r=>cH gs (true::r)):=by
  refine pH (·.map (!·)) (fun bs hb=>by simp [hb]) (fun bs bs' _ _ e=>?_) fun bs hb hp=>?_
  ·have:=congrArg (List.map (!·)) e
   rwa [nA,nA] at this
  ·exact (uI he (bs:=false::bs) (by simp [hn,hb])).trans hp
 omega
theorem A6 {n:Nat}{P A B:List Bool->Bool}(h:∀ bs:List Bool,bs.length=n->P bs=(A bs||B bs))(h':∀ bs:List Bool,bs.length=n->(A bs&&B bs)=false):bI n P=bI n A+bI n B:=by
 unfold bI
 have:∀ l:List (List Bool),(∀ x∈l,x.length=n)->(l.filter P).length=(l.filter A).length+(l.filter B).length:=by
  intro l
  induction l with
  | nil=>simp
  | cons x l ih=>
   intro hx
   have e:=h x (hx x (by simp))
   have e':=h' x (hx x (by simp))
   have:=ih fun y hy=>hx y (by simp [hy])
   rw [PN,PN,PN,e]
   cases hA:A x<;>cases hB:B x<;>simp_all<;>omega
 exact this _ fun x hx=>mem_rowsH.mp hx
theorem Mf (n:Nat)(P:List Bool->Bool):bI (n+1) P=bI n (fun r=>P (r++[true]))+bI n (fun r=>P (r++[false])):=by
 rw [A6 (A:=fun bs=>P (bs.take n++[true])&&(bs.drop n == [true])) (B:=fun bs=>P (bs.take n++[false])&&(bs.drop n == [false]))]
 ·rw [m9 (m:=n) (n:=1) (p:=fun r=>P (r++[true])) (q:=fun v=>v == [true]) fun u v hu hv=>by simp [<- hu]]
  rw [m9 (m:=n) (n:=1) (p:=fun r=>P (r++[false])) (q:=fun v=>v == [false]) fun u v hu hv=>by simp [<- hu]]
  have e1:bI 1 (fun v=>v == [true])=1:=by decide
  have e2:bI 1 (fun v=>v == [false])=1:=by decide
  rw [e1,e2]
  omega
 ·intro bs hb
  have e:=Ol n bs
  generalize bs.take n=u at e ⊢
  have hd:(bs.drop n).length=1:=by simp [hb]
  generalize hv:bs.drop n=v at e hd
  match v,hd with
  | [true],_=>rw [<- e];simp
  | [false],_=>rw [<- e];simp
 ·intro bs hb
  have hd:(bs.drop n).length=1:=by simp [hb]
  generalize bs.drop n=v at hd
  match v,hd with
  | [true],_=>simp
  | [false],_=>simp
theorem A7 (a Y:Int):∀ (r:Nat)(ms:List Bool),ms.length=r+1->(MY r a++[Y]).zip ms=bJ a Y ms
 | 0,[m],_=>rfl
 | r+1,m::n::l,h=>by
  rw [Nt,Nx,Qj,A7 a Y r (n::l) (by simpa using h)]
  rfl
theorem pI {rest:List Int}{X a Y:Int}{r:Nat}{u:List Bool}{m:Bool}{v:List Bool}(hu:u.length=rest.length)(hv:v.length=r+1) :
  (rest++[X]++(MY r a++[Y])).zip (u++[m]++v)=rest.zip u++[(X,m)]++bJ a Y v:=by
 rw [OM (by simp [hu]),OM (by simp [hu]),A7 _ _ _ _ hv]
 rfl
theorem A8 {n:Nat}{u:List Bool}(h:u.length=n+1):∃ p m,u=p++[m]/\p.length=n:=by
 refine ⟨u.dropLast,u.getLast (by intro e;rw [e] at h;simp at h),(P9 _).symm,by simp [h]⟩
theorem A9 {gs:List Int}{bs:List Bool}(h:bs.length=gs.length):(gs.zip bs).map (·.1)=gs:=by
 rw [List.map_fst_zip (by omega)]
theorem Mg {rest:List Int}{X a Y:Int}{r:Nat}(hX:a<X)(hY:a<Y)(hr:r % 2=1)(he:Ev (rest++[X]++(MY r a++[Y])))(hA:aQ (rest++[X]++(MY r a++[Y]))=0) :
  bC (rest++[X]++(MY r a++[Y]))=bC (rest++[X - a+Y]) * bI (r+1) (fun v=>bQ v == 0):=by
 have he':Ev (rest++[X - a+Y]):=by unfold Ev at he ⊢;simp at he ⊢;omega
 have hl:(rest++[X]++(MY r a++[Y])).length=(rest.length+1)+(r+1):=by simp;omega
 have hl':(rest++[X - a+Y]).length=rest.length+1:=by simp
 have hev:=he.1
 rw [hl] at hev
 unfold bC
 rw [hl,hl']
 refine m9 fun u v hu hv=>?_
 obtain ⟨p,m,rfl,hp⟩:=A8 hu
 rw [Qz,fX he (by simp [hp,hv]),Nb,fX he' (by simp [hp]),pI hp hv]
 rw [AR (P:=rest.zip p) (X:=(X,m)) hX hY v.length v (Ni _) (by omega) (by intro e;rw [e] at hv;simp at hv) (by simp [lP,hp,hv];omega) (by rw [<- pI hp hv,A9 (by simp [hp,hv])];exact hA)]
 rw [OM (by simp [hp])]
 show _/\Fo (rest.zip p++[(X - a+Y,m)])↔Fo (rest.zip p++[(X - a+Y,m)])/\_
 simp [and_comm]
theorem Mh {rest:List Int}{X a Y:Int}{r:Nat}(hX:a<X)(hY:a<Y)(hr:r % 2=0)(he:Ev (rest++[X]++(MY r a++[Y])))(hA:aQ (rest++[X]++(MY r a++[Y]))=0)(hC:bI (r+1) (fun v=>bQ v == 1)=bI (r+1) (fun v=>bQ v == -1)) :
  bC (rest++[X]++(MY r a++[Y]))=bC (rest++[X]++[Y]) * bI (r+1) (fun v=>bQ v == 1):=by
 have he':Ev (rest++[X]++[Y]):=by unfold Ev at he ⊢;simp at he ⊢;omega
 have hl:(rest++[X]++(MY r a++[Y])).length=(rest.length+1)+(r+1):=by simp;omega
 have hl':(rest++[X]++[Y]).length=rest.length+1+1:=by simp
 have hev:=he.1
 rw [hl] at hev
 unfold bC
 rw [hl,hl',Mf]
 have hs:∀ {u v:List Bool},u.length=rest.length+1->(u++v).take (rest.length+1)=u/\(u++v).drop (rest.length+1)=v:=fun hu=>by simp [<- hu]
 rw [A6 (A:=fun bs=>cH (rest++[X]++[Y]) (bs.take (rest.length+1)++[true])&&(bQ (bs.drop (rest.length+1)) == 1)) (B:=fun bs=>cH (rest++[X]++[Y]) (bs.take (rest.length+1)++[false])&&(bQ (bs.drop (rest.length+1)) == -1))]
 ·have c1:=m9 (m:=rest.length+1) (n:=r+1) (P:=fun bs=>cH (rest++[X]++[Y]) (bs.take (rest.length+1)++[true])&&(bQ (bs.drop (rest.length+1)) == 1)) (p:=fun u=>cH (rest++[X]++[Y]) (u++[true])) (q:=fun v=>bQ v == 1) fun u v hu hv=>by rw [(hs hu).1,(hs hu).2]
  have c2:=m9 (m:=rest.length+1) (n:=r+1) (P:=fun bs=>cH (rest++[X]++[Y]) (bs.take (rest.length+1)++[false])&&(bQ (bs.drop (rest.length+1)) == -1)) (p:=fun u=>cH (rest++[X]++[Y]) (u++[false])) (q:=fun v=>bQ v == -1) fun u v hu hv=>by rw [(hs hu).1,(hs hu).2]
  rw [c1,c2,<- hC,Va]
 ·intro bs hb
  obtain ⟨u,v,rfl,hu,hv⟩:∃ u v,bs=u++v/\u.length=rest.length+1/\v.length=r+1:=⟨bs.take (rest.length+1),bs.drop (rest.length+1),by simp,by simp [hb],by simp [hb]⟩
  rw [(hs hu).1,(hs hu).2]
  obtain ⟨p,m,rfl,hp⟩:=A8 hu
  rw [Qz,fX he (by simp [hp,hv]),O6,Nb,Nb,fX he' (by simp [hp]),fX he' (by simp [hp]),pI hp hv]
  rw [AS (P:=rest.zip p) (X:=(X,m)) hX hY v.length v (Ni _) (by omega) (by simp [lP,hp,hv];omega) (by rw [<- pI hp hv,A9 (by simp [hp,hv])];exact hA)]
  have e:∀ b:Bool,(rest++[X]++[Y]).zip (p++[m]++[b])=rest.zip p++[(X,m)]++[(Y,b)]:=fun b=>by
   rw [OM (by simp [hp]),OM (by simp [hp])]
   rfl
  rw [e,e]
  simp [and_comm]
 ·intro bs hb
  have:∀ z:Int,((z == 1)&&(z == -1))=false:=fun z=>by
   by_cases h:z=1
   ·subst h;decide
   ·simp [h]
  cases h1:(bQ (bs.drop (rest.length+1)) == 1) with
  | false=>simp
  | true=>
   have:=this (bQ (bs.drop (rest.length+1)))
   rw [h1,Sa] at this
   simp [this]
noncomputable def cR (count:Int):Nat->Int
 | 0=>1
 | k+1=>cR count k * (count - k) / (k+1)
theorem Mi:∀ r:Nat,r<8->r % 2=1->((bI (r+1) (fun v=>bQ v == 0):Nat):Int)=cR ((r+1:Nat):Int) ((r+1) / 2):=by decide +kernel
theorem Mj:∀ r:Nat,r<8->r % 2=0->((bI (r+1) (fun v=>bQ v == 1):Nat):Int)=cR ((r+1:Nat):Int) ((r+1) / 2)/\bI (r+1) (fun v=>bQ v == 1)=bI (r+1) (fun v=>bQ v == -1):=by decide +kernel
theorem Ml:∀ n∈[2,4,6,8],((bC (MY n 1):Nat):Int)=2 * cR ((n:Nat):Int) (n / 2 - 1):=by decide +kernel
theorem Ba {n:Nat}(hn:n=2\/n=4\/n=6\/n=8){c:Int}(hc:0<c):((bC (MY n c):Nat):Int)=2 * cR ((n:Nat):Int) (n / 2 - 1):=by
 have e:MY n c=(MY n 1).map (c * ·):=by simp
 rw [e,AY (by unfold Ev;rw [N0];omega) hc]
 exact Ml n (by simp;exact hn)
theorem Rot.ev {gs gs':List Int}(R:Rot gs gs')(h:Ev gs):Ev gs':=by unfold Ev at h ⊢;rw [<- R.len];exact h
theorem gL {gs gs':List Int}(R:Rot gs gs')(h:Ev gs):bC gs=bC gs':=by
 obtain ⟨u,v,rfl,rfl⟩:=R
 exact Mb h
theorem iV {gs gs':List Int}(R:Rot gs gs')(h:Ev gs)(hA:aQ gs=0):aQ gs'=0:=by
 obtain ⟨u,v,rfl,rfl⟩:=R
 exact AM h.1 hA
theorem run_rot {rest:List Int}{X a Y:Int}{r:Nat}:Rot (MY r a++Y::rest++[X]) (rest++[X]++(MY r a++[Y])):=⟨MY r a++[Y],rest++[X],by simp,by simp⟩
theorem uJ {rest:List Int}{X a Y:Int}{r:Nat}(hX:a<X)(hY:a<Y)(hr:r % 2=1)(he:Ev (MY r a++Y::rest++[X]))(hA:aQ (MY r a++Y::rest++[X])=0) :
  ((bC (MY r a++Y::rest++[X]):Nat):Int)=cR ((r+1:Nat):Int) ((r+1) / 2) * bC (rest++[X+Y - a])/\aQ (rest++[X+Y - a])=0/\Ev (rest++[X+Y - a]):=by
 have hr8:r<8:=by have:=he.2.2;simp at this;omega
 have he2:=run_rot.ev he
 have hA2:=iV run_rot he hA
 have eX:X+Y - a=X - a+Y:=by omega
 refine ⟨?_,?_,?_⟩
 ·rw [gL run_rot he,Mg hX hY hr he2 hA2,Ua,Mi r hr8 hr,eX,Sz]
 ·obtain ⟨k,rfl⟩:∃ k,r=2 * k+1:=⟨r / 2,by omega⟩
  rw [eX]
  clear he2 he hr8 hr
  rw [NS] at hA2
  induction k with
  | zero=>
   have:=uB rest [] X a Y
   rw [<- this]
   simpa using hA2
  | succ k ih=>
   refine ih ?_ ?_
   ·rw [NS] at hA ⊢
    have:=m5 [] a (2 * k+1) (Y::rest++[X])
    rw [NA,NA] at this
    rw [<- this]
    exact hA
   ·have:=m5 (rest++[X]) a (2 * k+1) [Y]
    rw [NS,NS] at this
    rw [<- this]
    exact hA2
 ·have:=he.1
  have h2:=he.2
  unfold Ev
  simp at this h2 ⊢
  omega
theorem Bb {rest:List Int}{X a Y:Int}{r:Nat}(hX:a<X)(hY:a<Y)(hr:r % 2=0)(he:Ev (MY r a++Y::rest++[X]))(hA:aQ (MY r a++Y::rest++[X])=0) :
  ((bC (MY r a++Y::rest++[X]):Nat):Int)=cR ((r+1:Nat):Int) ((r+1) / 2) * bC (Y::rest++[X])/\aQ (Y::rest++[X])=0/\Ev (Y::rest++[X]):=by
 have hr8:r<8:=by have:=he.2.2;simp at this;omega
 have he2:=run_rot.ev he
 have hA2:=iV run_rot he hA
 obtain ⟨b1,b2⟩:=Mj r hr8 hr
 have he3:Ev (Y::rest++[X]):=by
  have:=he.1
  have h2:=he.2
  unfold Ev
  simp at this h2 ⊢
  omega
 refine ⟨?_,?_,he3⟩
 ·have R:Rot (Y::rest++[X]) (rest++[X]++[Y]):=⟨[Y],rest++[X],by simp,by simp⟩
  rw [gL run_rot he,Mh hX hY hr he2 hA2 b2,Ua,b1,<- gL R he3,Sz]
 ·obtain ⟨k,rfl⟩:∃ k,r=2 * k:=⟨r / 2,by omega⟩
  clear he2 he hr8 hr hA2 b1 b2
  induction k with
  | zero=>simpa using hA
  | succ k ih=>
   refine ih ?_
   rw [NS] at hA ⊢
   have:=m5 [] a (2 * k) (Y::rest++[X])
   rw [NA,NA] at this
   rw [<- this]
   exact hA
theorem Mm {rest:List Int}{X a Y:Int}(hX:a<X)(hY:a<Y)(he:Ev (X::a::Y::rest))(h4:2<(X::a::Y::rest).length)(hA:aQ (X::a::Y::rest)=0) :
  bC (X::a::Y::rest)=2 * bC ((X+Y - a)::rest)/\aQ ((X+Y - a)::rest)=0/\Ev ((X+Y - a)::rest):=by
 have R:Rot (X::a::Y::rest) (MY 1 a++Y::rest++[X]):=⟨[X],a::Y::rest,by simp,by simp⟩
 obtain ⟨h1,h2,h3⟩:=uJ hX hY (by decide) (R.ev he) (iV R he hA)
 have R2:Rot (rest++[X+Y - a]) ((X+Y - a)::rest):=⟨rest,[X+Y - a],rfl,by simp⟩
 refine ⟨?_,iV R2 h3 h2,R2.ev h3⟩
 rw [gL R he]
 rw [gL R2 h3] at h1
 have:cR ((1+1:Nat):Int) ((1+1) / 2)=2:=by decide
 rw [this] at h1
 omega
theorem Mn:∀ r:Nat,r<8->0<cR ((r+1:Nat):Int) ((r+1) / 2):=by decide +kernel
theorem Bc:∀ (l:List Int)(a:Int),(∀ x∈l,a<=x)->(∃ x∈l,a<x)->∃ r Y rest,l=MY r a++Y::rest/\a<Y
 | [],a,_,⟨x,h,_⟩=>by cases h
 | b::l,a,h,⟨x,hx,h2⟩=>by
  by_cases e:b=a
  ·subst e
   obtain ⟨r,Y,rest,e,h3⟩:=Bc l b (fun y hy=>h y (by simp [hy])) ⟨x,(NN.mp hx).elim (fun e=>by omega) id,h2⟩
   exact ⟨r+1,Y,rest,by rw [e,Nt];rfl,h3⟩
  ·exact ⟨0,b,l,rfl,by have:=h b (by simp);omega⟩
theorem uK {p:Nat->Prop}:∀ (m:Nat),(∀ k,k<m->p (k+1)->p k)->p m->∀ j,j<=m->p j
 | 0,_,h,j,hj=>by rwa [U9.mp hj]
 | m+1,hs,h,j,hj=>by
  by_cases e:j=m+1
  ·rwa [e]
  ·exact uK m (fun k hk=>hs k (by omega)) (hs m (by omega) h) j (by omega)
noncomputable def b9 (n k:Nat):Nat:=if k=0 then n - 1 else k - 1
theorem pJ {gs:List Int}{k:Nat}(h:k<gs.length):gs.getD k 0∈gs:=by
 rw [Nv,Nh h]
 exact PM h
theorem Bd {gs:List Int}{a:Int}(hm:a∈gs)(hle:∀ x∈gs,a<=x)(hgt:∃ x∈gs,a<x):∃ k,k<gs.length/\gs.getD k 0=a/\a<gs.getD (b9 gs.length k) 0:=by
 have hat:∀ {x:Int},x∈gs->∃ k,k<gs.length/\gs.getD k 0=x:=fun h=>by
  obtain ⟨k,hk,e⟩:=Og h
  exact ⟨k,hk,by rw [Nv,Nh hk];exact e⟩
 cases Classical.em (∃ k,k<gs.length/\gs.getD k 0=a/\a<gs.getD (b9 gs.length k) 0) with
 | inl h=>exact h
 | inr h=>
  exfalso
  have H:∀ k,k<gs.length->gs.getD k 0=a->gs.getD (b9 gs.length k) 0=a:=fun k hk e=>by
   have hp:b9 gs.length k<gs.length:=by unfold b9;split<;>omega
   have:=hle _ (pJ hp)
   by_cases h':a<gs.getD (b9 gs.length k) 0
   ·exact absurd ⟨k,hk,e,h'⟩ h
   ·omega
  obtain ⟨k0,hk0,e0⟩:=hat hm
  obtain ⟨x,hx,hax⟩:=hgt
  obtain ⟨k1,hk1,e1⟩:=hat hx
  have hs:∀ k,k+1<gs.length->gs.getD (k+1) 0=a->gs.getD k 0=a:=fun k hk e=>by
   have:=H (k+1) hk e
   unfold b9 at this
   rw [if_neg (by omega)] at this
   exact this
  have h0:gs.getD 0 0=a:=uK (p:=fun k=>gs.getD k 0=a) k0 (fun k hk=>hs k (by omega)) e0 0 (by omega)
  have hl:=H 0 (by omega) h0
  unfold b9 at hl
  rw [if_pos rfl] at hl
  have:=uK (p:=fun k=>gs.getD k 0=a) (gs.length - 1) (fun k hk=>hs k (by omega)) hl k1 (by omega)
  omega
theorem Be {gs:List Int}{a:Int}{k:Nat}(he:Ev gs)(hA:aQ gs=0)(hle:∀ x∈gs,a<=x)(hk:k<gs.length)(e:gs.getD k 0=a)(hp:a<gs.getD (b9 gs.length k) 0) :
  ∃ r Y rest X,gs.drop k++gs.take k=MY (r+1) a++Y::rest++[X]/\a<Y/\a<X:=by
 have R:Rot gs (gs.drop k++gs.take k):=⟨gs.take k,gs.drop k,by simp,rfl⟩
 have hA':=iV R he hA
 have he':=R.ev he
 have hl:(gs.drop k++gs.take k).length=gs.length:=by simp;omega
 have hh:(gs.drop k++gs.take k).getD 0 0=a:=by
  rw [<- e,Nv,Nv,NB (by simp;omega),List.getElem?_drop]
  simp
 have hlast:a<(gs.drop k++gs.take k).getD (gs.length - 1) 0:=by
  have:(gs.drop k++gs.take k).getD (gs.length - 1) 0=gs.getD (b9 gs.length k) 0:=by
   rw [Nv,Nv]
   unfold b9
   by_cases h0:k=0
   ·subst h0
    simp
   ·rw [if_neg h0,NT (by simp;omega),List.getElem?_take]
    simp
    rw [if_pos (by omega)]
    congr 2
    omega
  rw [this]
  exact hp
 have hle':∀ x∈gs.drop k++gs.take k,a<=x:=fun x hx=>hle x (by
  rcases NY.mp hx with h|h
  ·exact QK h
  ·exact QH h)
 generalize gs.drop k++gs.take k=l at *
 match l,hh with
 | b::l',hh=>
  have hb:b=a:=hh
  subst hb
  obtain ⟨r,Y,rest,e1,hY⟩:=Bc (b::l') b hle' ⟨_,pJ (by rw [hl];have:=he.2.1;omega),hlast⟩
  match r,e1 with
  | 0,e1=>
   simp at e1
   omega
  | r+1,e1=>
   rw [e1] at hlast hl hA' he' ⊢
   by_cases hr:rest=[]
   ·exfalso
    subst hr
    have hn:=he'.1
    simp at hn
    have:∀ r:Nat,r % 2=1->aQ (MY r b++[Y])=b - Y:=fun r hr=>by
     obtain ⟨k,rfl⟩:∃ k,r=2 * k+1:=⟨r / 2,by omega⟩
     clear hr
     induction k with
     | zero=>simp [aQ]
     | succ k ih=>
      have:=m5 [] b (2 * k+1) [Y]
      rw [NA,NA] at this
      show aQ (MY (2 * k+1+2) b++[Y])=_
      rw [this,ih]
    rw [this _ (by omega)] at hA'
    omega
   ·refine ⟨r,Y,rest.dropLast,rest.getLast hr,?_,hY,?_⟩
    ·rw [NS,Nx,P9]
    ·have e2:MY (r+1) b++Y::rest=(MY (r+1) b++Y::rest.dropLast)++[rest.getLast hr]:=by rw [NS,Nx,P9]
     have e3:gs.length - 1=(MY (r+1) b++Y::rest.dropLast).length:=by
      rw [<- hl,e2]
      simp
     rw [e2,Nv,e3,List.getElem?_concat_length] at hlast
     exact hlast
noncomputable def jW (n:Nat):Int:=if n<=2 then 2 else if n<=4 then 8 else if n<=6 then 30 else 112
theorem Mo:∀ n:Nat,n<9->∀ r:Nat,r<8->r+2<=n->n % 2=0->cR ((r+1:Nat):Int) ((r+1) / 2) * (if r % 2=0 then jW (n - r) else jW (n - r - 1))<=jW n:=by decide +kernel
theorem pK:∀ (n:Nat)(gs:List Int),gs.length<=n->Ev gs->aQ gs=0->(∀ g∈gs,1<=g)->0<bC gs/\(bC gs:Int)<=jW gs.length
 | 0,gs,h,he,_,_=>by have:=he.2.1;omega
 | n+1,gs,h,he,hA,hpos=>by
  obtain ⟨a,hm,hle⟩:∃ a,a∈gs/\∀ x∈gs,a<=x:=by
   have:∀ l:List Int,l≠[]->∃ a,a∈l/\∀ x∈l,a<=x:=by
    intro l
    induction l with
    | nil=>intro h;exact absurd rfl h
    | cons b l ih=>
     intro _
     by_cases hl:l=[]
     ·subst hl;exact ⟨b,by simp,by simp⟩
     ·obtain ⟨a,h1,h2⟩:=ih hl
      by_cases hab:a<=b
      ·exact ⟨a,by simp [h1],by simpa using ⟨hab,h2⟩⟩
      ·refine ⟨b,by simp,fun x hx=>?_⟩
       rcases NN.mp hx with rfl|hx
       ·omega
       ·have:=h2 x hx;omega
   exact this gs (fun e=>by rw [e] at he;have:=he.2.1;simp at this)
  by_cases hgt:∃ x∈gs,a<x
  ·obtain ⟨k,hk,e,hp⟩:=Bd hm hle hgt
   have R:Rot gs (gs.drop k++gs.take k):=⟨gs.take k,gs.drop k,by simp,rfl⟩
   obtain ⟨r,Y,rest,X,e1,hY,hX⟩:=Be he hA hle hk e hp
   have hpos':∀ g∈gs.drop k++gs.take k,1<=g:=fun x hx=>hpos x (by
    rcases NY.mp hx with h|h
    ·exact QK h
    ·exact QH h)
   have hlen:=R.len
   rw [e1] at R hpos' hlen
   have he':=R.ev he
   have hA':=iV R he hA
   have hr8:r+1<8:=by have:=he'.2.2;simp at this;omega
   have hc:=Mn (r+1) hr8
   rw [gL R he]
   have key:∀ m:Nat,0<m->0<cR ((r+1+1:Nat):Int) ((r+1+1) / 2) * (m:Int):=fun m hm=>Vb hc (by omega)
   have hst:=Mo gs.length (by have:=he.2.2;omega) (r+1) (by omega) (by simp at hlen;omega) he.1
   have kle:∀ (m:Nat)(B:Int),(m:Int)<=B->cR ((r+1+1:Nat):Int) ((r+1+1) / 2) * (m:Int)<=cR ((r+1+1:Nat):Int) ((r+1+1) / 2) * B:=fun m B h=>P5 h (O4 hc)
   by_cases hr:(r+1) % 2=0
   ·obtain ⟨h1,h2,h3⟩:=Bb hX hY hr he' hA'
    obtain ⟨b1,b2⟩:=pK n _ (by simp at hlen ⊢;omega) h3 h2 fun g hg=>hpos' g (by rw [NS];exact NY.mpr (.inr hg))
    have k1:=key _ b1
    have k2:=kle _ _ b2
    rw [if_pos hr] at hst
    have e2:(Y::rest++[X]).length=gs.length - (r+1):=by simp at hlen ⊢;omega
    rw [e2] at k2
    omega
   ·obtain ⟨h1,h2,h3⟩:=uJ hX hY (by omega) he' hA'
    obtain ⟨b1,b2⟩:=pK n _ (by simp at hlen ⊢;omega) h3 h2 fun g hg=>by
     rcases NY.mp hg with hg|hg
     ·exact hpos' g (by simp [hg])
     ·have h4:=hpos' X (by simp)
      rw [Q6.mp hg]
      omega
    have k1:=key _ b1
    have k2:=kle _ _ b2
    rw [if_neg hr] at hst
    have e2:(rest++[X+Y - a]).length=gs.length - (r+1) - 1:=by simp at hlen ⊢;omega
    rw [e2] at k2
    omega
  ·have e:gs=MY gs.length a:=R6 fun x hx=>by
    have:=hle x hx
    by_cases h:a<x
    ·exact absurd ⟨x,hx,h⟩ hgt
    ·omega
   have hn:gs.length=2\/gs.length=4\/gs.length=6\/gs.length=8:=by unfold Ev at he;omega
   have h1:=Ba hn (c:=a) (by have:=hpos a hm;omega)
   rw [<- e] at h1
   have h2:∀ n∈[2,4,6,8],0<2 * cR ((n:Nat):Int) (n / 2 - 1)/\2 * cR ((n:Nat):Int) (n / 2 - 1)<=jW n:=by decide +kernel
   have:=h2 gs.length (by simp;exact hn)
   omega
noncomputable def RS (bs:List Bool):D:=.str (bP bs)
theorem Bf:∀ n:Nat,(bR n).length=2 ^ n
 | 0=>rfl
 | n+1=>by
  rw [bR,Nk,MZ,MZ,Bf n,UN]
  omega
theorem uL {n:Nat}(h:n<=8):(bR n).length<=256:=by
 rw [Bf]
 exact SS (by decide) h
noncomputable def uM (p:Str):D->D
 | .str x=>.str (p++x)
 | d=>d
theorem Mp (b:Bool)(bs:List Bool):uM (cF b) (RS bs)=RS (b::bs):=by
 show D.str (cF b++bP bs)=D.str (bP (b::bs))
 rw [jU]
 congr 1
 show (⟨#[dF b]++(bs.map dF).toArray⟩:Str)=⟨((b::bs).map dF).toArray⟩
 simp
theorem uN {α:Type}(l:List α):l.filter (fun _=>true)=l:=by simp
theorem Mq (b:Bool)(l:List (List Bool)):((l.map RS).filter (fun _=>true)).map (uM (cF b))=(l.map (b::·)).map RS:=by
 rw [uN,NH,NH]
 exact OX fun bs _=>Mp b bs
theorem Bg {b:Bool}{c:Str}(hc:c=cF b){n:Nat}(hn:n<=8){i:Nat}{ρ:aJ}{a:Nat}{μ:Hm}{m v:ME}(hm:W (m ρ μ) fun p=>p=(.loc a,μ))(hv:∀ d μ' R,R (d,μ')->W (v (ρ++[some d]) μ') R)(ha:μ[a]? = some (.lst ((bR n).map RS))){Q:D×Hm->Prop}
  (H:∀ μ',μ <+: μ'->μ'[μ.length]? = some (.lst (((bR n).map (b::·)).map RS))->Q (.loc μ.length,μ')):W (dJ (dI m) dB (aA aL (mC (.str c)) v) ρ μ) Q:=by
 subst hc
 have hr:=uL hn
 refine iU (xs:=(bR n).map RS) (p:=fun _=>true) (v:=uM (cF b)) ?_
 rw [jQ]
 refine bF hm fun p hp=>?_
 subst hp
 refine (lG ha).mpr ?_
 refine ⟨mW ha,rfl,by rw [Np,MZ];omega,?_,?_,?_⟩
 ·intro d μ' _ _
  exact w_mTrue.mpr ⟨rfl,Nw _⟩
 ·intro d μ' hd _ hp
  obtain ⟨bs,hbs,rfl⟩:=NG.mp hd
  have hl:=mem_rowsH.mp hbs
  rw [aO,aN]
  refine hv _ _ _ ?_
  refine (Kn (by rw [tY,Np,jU];show 1+bs.length<=_;omega)).mpr ⟨?_,Nw _⟩
  rfl
 ·intro μ' hp hg
  rw [Mq] at hg
  exact H μ' hp hg
theorem Mr (k:Nat){n:Nat}(hn:n<=8){μ:Hm}(Q:D×Hm->Prop)(H:∀ a μ',μ <+: μ'->μ'[a]? = some (.lst ((bR n).map RS))->Q (.loc a,μ')):W (f (k+1) "rows_of" [.int (n:Int)] μ) Q:=by
 rw [Kz,cM]
 simp only [b7,b0,fB,aS,aR,aN]
 refine ⟨lI,?_⟩
 simp only [M7,M9,lF,jR (j:=0),aS,aR,aE]
 refine ⟨by omega,?_⟩
 rw [Oz]
 refine mV (fun i ρ μ'=>∃ a o,μ <+: μ'/\μ'[a]? = some (.lst ((bR i).map RS))/\ρ=[some (.int (n:Int)),some (.loc a),o]) ⟨_,_,aP _ _,bB _ _,rfl⟩ ?_ ?_
 ·rintro i ρ μ' hi ⟨a,o,hp,ha,rfl⟩
  refine ⟨_,rfl,?_⟩
  have hr:=uL (n:=i) (by omega)
  simp only [M7,M9,b0,aO]
  refine Bg (b:=false) (n:=i) rfl (by omega) (i:=0) ?_ ?_ ha fun μ1 p1 g1=>?_
  ·simp only [aH,aE]
  ·intro d μ'' R h
   simp only [Nx,NA,aH,aE]
   exact h
  ·refine Bg (b:=true) (n:=i) rfl (by omega) (i:=0) ?_ ?_ (aX p1 ha) fun μ2 p2 g2=>?_
   ·simp only [aH,aE]
   ·intro d μ'' R h
    simp only [Nx,NA,aH,aE]
    exact h
   ·refine (d6 (aX p2 g1) g2 (by simp only [MZ];rw [Np];omega)).mpr ?_
    refine ⟨_,_,((hp.trans p1).trans p2).trans (aP _ _),?_,rfl⟩
    rw [bB,bR,NJ]
 ·rintro ρ μ' ⟨a,o,hp,ha,rfl⟩
  simp only [bO,aH,aE]
  exact H a μ' hp ha
noncomputable def jX:D->List Bool
 | .str x=>x.cps.toList.map (· == 118)
 | _=>[]
theorem pL (bs:List Bool):jX (RS bs)=bs:=by
 show ((bs.map dF).toArray.toList).map (· == 118)=bs
 rw [Q1,NH]
 have:((· == 118) ∘ dF)=id:=by funext b;cases b<;>rfl
 rw [this,UP]
theorem Ms (k:Nat){μ:Hm}{a:Nat}{gs:List Int}(ha:μ[a]? = some (.lst (gs.map D.int)))(hG:GoodG gs)(Q:D×Hm->Prop)(H:∀ b μ',μ <+: μ'->μ'[b]? = some (.lst ((dN gs).map RS))->Q (.loc b,μ')):W (f (k+4) "all_marks" [.loc a] μ) Q:=by
 have hrg:=hG.rgl
 rw [KA,cM]
 simp only [b7,tG,a8,aS,aR,aE]
 refine Ap _ a gs hG _ _ ha fun μ1 p1=>?_
 have ha1:=aX p1 ha
 simp only [bO]
 refine iU (xs:=(bR gs.length).map RS) (p:=fun d=>cH gs (jX d)) (v:=fun d=>d) ?_
 simp only [jQ,a8,aS,aR,aE]
 refine (fC ha1).mpr ?_
 rw [MZ]
 refine Mr _ (by omega) _ fun b μ2 p2 g2=>?_
 refine (lG g2).mpr ?_
 have hr:=uL (n:=gs.length) (by omega)
 refine ⟨mW g2,rfl,by rw [Np,MZ];omega,?_,?_,?_⟩
 ·intro d μ' hd hp
  obtain ⟨bs,hbs,rfl⟩:=NG.mp hd
  have hl:=mem_rowsH.mp hbs
  simp only [Nx,NA,cO,aO,a8,aS,aR,aE,aH,aN]
  refine LS _ (aX hp (aX p2 ha1)) hG hl _ fun d μ3 p3 h3=>?_
  rw [pL]
  unfold cH
  cases hf:eK 4 (dR gs bs) with
  | none=>
   rw [hf] at h3
   cases h3
   exact w_isnotNN.mpr ⟨rfl,p3⟩
  | some os=>
   rw [hf] at h3
   obtain ⟨c,rfl,_⟩:=h3
   exact w_isnotLN.mpr ⟨rfl,p3⟩
 ·intro d μ' _ _ _
  simp only [Nx,NA,aE,aH]
  exact ⟨trivial,Nw _⟩
 ·intro μ' hp hg
  refine H _ μ' ((p1.trans p2).trans hp) ?_
  rw [hg]
  congr 2
  unfold dN
  rw [P8,NH]
  have:((fun d=>cH gs (jX d)) ∘ RS)=cH gs:=by funext bs;show cH gs (jX (RS bs))=_;rw [pL]
  rw [this]
  rfl
theorem Bh (k:Nat){m:Nat}{c:Int}(hm:m<=100)(hc:-1000<c/\c<1000){μ:Hm}(Q:D×Hm->Prop)(H:Q (.int (cR c m),μ)):W (f (k+1) "ways_to_choose" [.int (m:Int),.int c] μ) Q:=by
 rw [KG,cM]
 simp only [b7,b0,aN,M7,M9,lF,jR (j:=0),aS,aR,aE]
 refine ⟨by omega,?_⟩
 rw [Oz]
 refine mV (fun i ρ μ'=>μ=μ'/\∃ o,ρ=[some (.int (m:Int)),some (.int c),some (.int (cR c i)),o]) ⟨rfl,_,rfl⟩ ?_ ?_
 ·rintro i ρ μ' hi ⟨rfl,o,rfl⟩
  refine ⟨_,rfl,?_⟩
  simp only [M7,M9,b0,aO,aH,aE,aN,w_subI,w_addI]
  refine (iT (.inr ⟨by omega,by omega⟩)).mpr ?_
  refine (iS (by omega) (by omega)).mpr ⟨rfl,some (.int (0+(i:Int))),?_⟩
  simp only [Int.zero_add]
  rfl
 ·rintro ρ μ' ⟨rfl,o,rfl⟩
  simp only [bO,aH,aE]
  exact H
theorem Bi {is:List Int}(h0:0<is.length):cW is∈is/\∀ x∈is,cW is<=x:=by
 unfold cW
 obtain ⟨h1,h2⟩:=argBest_lt (fun i=>is.getD i 0) (is.length - 1)
 refine ⟨pJ (by omega),fun x hx=>?_⟩
 obtain ⟨k,hk,e⟩:=Og hx
 have:=h2 k (by omega)
 have e2:is.getD k 0=x:=by rw [Nv,Nh hk];exact e
 rw [<- e2]
 exact this
theorem Mt {is:List Int}(h0:0<is.length):dZ is∈is/\∀ x∈is,x<=dZ is:=by
 unfold dZ
 obtain ⟨h1,h2⟩:=argBest_gt (fun i=>is.getD i 0) (is.length - 1)
 refine ⟨pJ (by omega),fun x hx=>?_⟩
 obtain ⟨k,hk,e⟩:=Og hx
 have:=h2 k (by omega)
 have e2:is.getD k 0=x:=by rw [Nv,Nh hk];exact e
 rw [<- e2]
 exact this
theorem gM {gs:List Int}(hG:GoodG gs):Ev gs:=by have:=hG.len;unfold Ev;omega
theorem lQ {gs:List Int}(he:Ev gs)(hp:∀ g∈gs,1<=g)(hA:aQ gs=0):GoodG gs:=⟨by unfold Ev at he;omega,hp,hA⟩
theorem Mu {gs:List Int}{k:Nat}(h:k<gs.length):atI (gs.map D.int) ((k:Int) - 1)=some (.int (gs.getD (b9 gs.length k) 0)):=by
 unfold atI
 have e:dS (gs.map D.int).length ((k:Int) - 1)=some (b9 gs.length k):=by
  rw [MZ]
  unfold dS b9
  by_cases c:k=0
  ·subst c
   rw [if_neg (by omega),if_pos (by omega),if_pos rfl]
   congr 1
   omega
  ·rw [if_pos (by omega),if_pos (by omega),if_neg c]
   congr 1
   omega
 have hp:b9 gs.length k<gs.length:=by unfold b9;split<;>omega
 rw [e,Nn,ND,Nh hp,Nv,Nh hp]
 rfl
noncomputable def fH (gs:List Int)(a:Int)(k:Nat):Bool:=(gs.getD k 0 == a)&&decide (a<gs.getD (b9 gs.length k) 0)
noncomputable def pM (gs:List Int)(a:Int):D->Bool
 | .tup [.int i,.int _]=>fH gs a i.toNat
 | _=>false
noncomputable def Bj:D->D
 | .tup [i,_]=>i
 | d=>d
theorem pN (gs:List Int):fS 0 (gs.map D.int)=(NF gs.length).map fun k=>.tup [.int (k:Int),.int (gs.getD k 0)]:=by
 apply Rb
 intro i
 rw [mX,ND,ND]
 by_cases h:i<gs.length
 ·rw [Nh h,SU h]
  simp only [NK,Nv,Nh h,Qi,Option.getD_some]
 ·rw [N1 (by omega),N1 (by simp;omega)]
  rfl
theorem Mv (gs:List Int)(a:Int):((fS 0 (gs.map D.int)).filter (pM gs a)).map Bj=((NF gs.length).filter (fH gs a)).map fun k=>.int ((k:Nat):Int):=by
 rw [pN,P8,NH]
 have:(pM gs a ∘ fun (k:Nat)=>D.tup [.int (k:Int),.int (gs.getD k 0)])=fH gs a:=by
  funext k
  show fH gs a ((k:Int)).toNat=_
  rw [Oz]
 rw [this]
 rfl
theorem Mw (k:Nat){μ:Hm}{p:Nat}{gs:List Int}(ha:μ[p]? = some (.lst (gs.map D.int)))(hn:2<=gs.length/\gs.length<=8)(hgt:∃ x∈gs,cW gs<x)(Q:D×Hm->Prop)
  (H:∀ j b μ',j<gs.length->gs.getD j 0=cW gs->cW gs<gs.getD (b9 gs.length j) 0->μ <+: μ'->μ'[b]? = some (.lst ((gs.drop j++gs.take j).map D.int))->Q (.loc b,μ')):W (f (k+1) "least_ahead" [.loc p] μ) Q:=by
 obtain ⟨hm,hle⟩:=Bi (is:=gs) (by omega)
 rw [KH,cM]
 simp only [b7,b0,a8,aS,aR,aE]
 refine (pG ha (by omega)).mpr ?_
 generalize cW gs=a at hm hle hgt H
 simp only [M7,M9,aO]
 refine Kh (xs:=fS 0 (gs.map D.int)) (x:=fun d=>match d with|.tup [i,g]=>[some i,some g]|_=>[]) (p:=pM gs a) (v:=Bj) ?_
 refine Ae ?_
 simp only [aS,aR,aE]
 refine ⟨p,_,rfl,ha,tR ha,by rw [tQ],by rw [tQ,MZ,Np];omega,?_,?_,?_,?_⟩
 ·intro d μ' hd
  rw [pN] at hd
  obtain ⟨i,hi,rfl⟩:=NG.mp hd
  rfl
 ·intro d μ' hd hp
  rw [pN] at hd
  obtain ⟨i,hi,rfl⟩:=NG.mp hd
  have hi:=NV.mp hi
  simp only [Nx,NA,tH,cO,aO,aE,aH,aN,eI]
  show if (gs.getD i 0 == a)=true then _ else _
  have e:pM gs a (.tup [.int (i:Int),.int (gs.getD i 0)])=fH gs a i:=by
   show fH gs a ((i:Int)).toNat=_
   rw [Oz]
  rw [e]
  unfold fH
  by_cases hc:(gs.getD i 0 == a)=true
  ·rw [if_pos hc,hc,Sa]
   simp only [w_subI]
   refine (bM (aX hp ha) (Mu hi)).mpr ?_
   exact w_gtI.mpr ⟨rfl,Nw _⟩
  ·rw [if_neg hc]
   exact ⟨by simp only [Bool.not_eq_true] at hc;rw [hc];rfl,Nw _⟩
 ·intro d μ' hd _ hp
  rw [pN] at hd
  obtain ⟨i,hi,rfl⟩:=NG.mp hd
  simp only [Nx,NA,aE,aH]
  exact ⟨rfl,Nw _⟩
 ·intro μ1 p1 g1
  rw [Mv] at g1
  obtain ⟨j0,hj0,e0,h0⟩:=Bd hm hle hgt
  have hin:j0∈(NF gs.length).filter (fH gs a):=ON.mpr ⟨NV.mpr hj0,by unfold fH;rw [Nb,beq_iff_eq,decide_eq_true_eq];exact ⟨e0,h0⟩⟩
  obtain ⟨j,r,er⟩:∃ j r,(NF gs.length).filter (fH gs a)=j::r:=Qk (fun e=>by rw [e] at hin;cases hin)
  have hj:j∈(NF gs.length).filter (fH gs a):=by rw [er];simp
  obtain ⟨hj1,hj2⟩:=ON.mp hj
  have hj1:=NV.mp hj1
  unfold fH at hj2
  rw [Nb,beq_iff_eq,decide_eq_true_eq] at hj2
  rw [er,Nj] at g1
  rw [aN]
  refine (bM g1 mZ).mpr ?_
  have ha1:=aX p1 ha
  simp only [M7,M9,bO,aO]
  refine fD ?_
  simp only [aE,aH,d7,eJ]
  refine ⟨p,rfl,_,ha1,?_⟩
  refine fD ?_
  simp only [aE,aH,d7,eJ]
  refine ⟨p,rfl,_,aX (aP _ _) ha1,?_⟩
  rw [lM _ (by rw [MZ];omega),tZ _ (by rw [MZ];omega),Oz]
  refine (d6 (aX (aP _ _) (bB _ _)) (bB _ _) (by rw [N5,Oa,MZ,Np];omega)).mpr ?_
  refine H j _ _ hj1 hj2.1 hj2.2 (p1.trans (((aP _ _).trans (aP _ _)).trans (aP _ _))) ?_
  rw [bB,NJ,Ql,RZ]
theorem pO {r:Nat}{a Y:Int}{q:List Int}{i:Nat}(hi:i<=r):((MY (r+1) a++q).map D.int)[i]? = some (.int a):=by
 rw [ND,NB (by simp;omega),List.getElem?_replicate_of_lt (by omega)]
 rfl
theorem Bk {r:Nat}{a Y:Int}{q:List Int}:((MY r a++Y::q).map D.int)[r]? = some (.int Y):=by
 rw [ND,NT (by simp)]
 simp
theorem Mx (k:Nat){μ:Hm}{p:Nat}{r:Nat}{a Y:Int}{q:List Int}(ha:μ[p]? = some (.lst ((MY (r+1) a++Y::q).map D.int)))(hr:r<8)(hY:a<Y)(Q:D×Hm->Prop)(H:Q (.int ((r+1:Nat):Int),μ)):W (f (k+1) "run_of_least" [.loc p] μ) Q:=by
 rw [KI,cM]
 simp only [b7,b0,aN,M7,M9]
 refine AA (fun m ρ μ'=>μ=μ'/\∃ j:Nat,j<=r/\m=r - j/\ρ=[some (.loc p),some (.int ((j+1:Nat):Int))]) r (by omega) ⟨rfl,0,Ou _,rfl,rfl⟩ ?_
 rintro m ρ μ' ⟨rfl,j,hj,rfl,rfl⟩
 simp only [cO,aO,aE,aH,aN]
 by_cases h:j=r
 ·subst h
  refine (bM ha (d9 Bk)).mpr ?_
  refine (bM ha (d9 (i:=0) (pO (Y:=Y) (Ou _)))).mpr ?_
  rw [eI]
  have:(Y == a)=false:=by rw [beq_eq_false_iff_ne];omega
  rw [this]
  simp only [M8,if_false,bO,aH,aE]
  exact H
 ·refine (bM ha (d9 (pO (Y:=Y) (by omega)))).mpr ?_
  refine (bM ha (d9 (i:=0) (pO (Y:=Y) (Ou _)))).mpr ?_
  rw [eI,beq_self_eq_true]
  simp only [if_true,b0,aO,aH,aE,aN,w_addI,M7,M9]
  refine ⟨r - (j+1),by omega,?_⟩
  exact ⟨trivial,j+1,by omega,rfl,rfl⟩
theorem My (xs:List D){i:Nat}(h:i+1<=xs.length):dG xs (some (i:Int)) (some (-1))=(xs.drop i).dropLast:=by
 unfold dG
 have e1:HT.sIx xs.length 0 (some (i:Int))=i:=by
  rw [HT.sIx_nat];omega
 have e2:HT.sIx xs.length xs.length (some (-1))=xs.length - 1:=by
  show (if (-1:Int)<0 then (-1+(xs.length:Int)).toNat else min (-1:Int).toNat xs.length)=_
  rw [if_pos (by decide)];omega
 rw [e1,e2,List.dropLast_eq_take,N5]
 congr 1
 omega
theorem uO:∀ (t k:Nat){μ:Hm}{p:Nat}{gs:List Int}(ha:μ[p]? = some (.lst (gs.map D.int)))(hG:GoodG gs)(hl:gs.length<=2 * t)(Q:D×Hm->Prop)(H:∀ μ',μ <+: μ'->Q (.int (bC gs:Nat),μ')),W (f (k+t+1) "ways_to_fold" [.loc p] μ) Q
 | 0,k,μ,p,gs,ha,hG,hl,Q,H=>by have:=hG.rgl;omega
 | t+1,k,μ,p,gs,ha,hG,hl,Q,H=>by
  have hrg:=hG.rgl
  have he:=gM hG
  obtain ⟨hm,hle⟩:=Bi (is:=gs) (by omega)
  obtain ⟨hM,hge⟩:=Mt (is:=gs) (by omega)
  rw [show k+(t+1)+1=(k+t+1)+1 by omega,KJ,cM]
  simp only [b7,dD,cO,aO,a8,aS,aR,aE]
  refine (pG ha (by omega)).mpr ?_
  refine (t4 ha (by omega)).mpr ?_
  rw [eI]
  by_cases hc:cW gs=dZ gs
  ·rw [hc,beq_self_eq_true]
   have e:gs=MY gs.length (dZ gs):=R6 fun x hx=>by
    have h1:=hle x hx
    have h2:=hge x hx
    omega
   simp only [if_true,bO,aO,aN,a8,aS,aR,aE]
   refine (fC ha).mpr ?_
   rw [MZ]
   refine (iS (by decide) (by decide)).mpr ?_
   refine w_subI.mpr ?_
   refine (fC ha).mpr ?_
   rw [MZ,show ((gs.length:Nat):Int) / 2 - 1=((gs.length / 2 - 1:Nat):Int) by omega]
   refine Bh (k+t) (by omega) (by omega) _ ?_
   refine w_mul2.mpr ?_
   have h1:=Ba hG.len (c:=dZ gs) (by have:=hG.pos _ hM;omega)
   rw [<- e] at h1
   rw [<- h1]
   exact H μ (Nw _)
  ·have hcb:(cW gs == dZ gs)=false:=by rw [beq_eq_false_iff_ne];exact hc
   rw [hcb]
   simp only [M8,if_false,cN,b0,a8,aS,aR,aE]
   refine Mw (k+t) ha (by omega) ⟨_,hM,by have:=hle _ hM;omega⟩ _ fun j b μ1 hj h1 h2 p1 g1=>?_
   have R:Rot gs (gs.drop j++gs.take j):=⟨gs.take j,gs.drop j,by simp,rfl⟩
   obtain ⟨r,Y,rest,X,e1,hY,hX⟩:=Be he hG.alt hle hj h1 h2
   have hpos':∀ g∈gs.drop j++gs.take j,1<=g:=fun x hx=>hG.pos x (by
    rcases NY.mp hx with h|h
    ·exact QK h
    ·exact QH h)
   have hlen:=R.len
   rw [e1] at R hpos' hlen g1
   have he':=R.ev he
   have hA':=iV R he hG.alt
   have hr8:r<7:=by have:=he'.2.2;simp at this;omega
   have hl2:(MY (r+1) (cW gs)++Y::rest++[X]).length=r+rest.length+3:=by simp;omega
   generalize cW gs=a at hX hY R hpos' g1 he' hA' hlen hl2
   have e0:MY (r+1) a++Y::rest++[X]=MY (r+1) a++Y::(rest++[X]):=by simp
   simp only [M7,M9,aE,aH]
   refine Mx (k+t) (r:=r) (a:=a) (Y:=Y) (q:=rest++[X]) (by rw [<- e0];exact g1) (by omega) hY _ ?_
   simp only [M7,M9,aO,aE,aH,aN,w_addI]
   refine (iS (by decide) (by decide)).mpr ?_
   rw [show ((r+1:Nat):Int)+1=((r+1+1:Nat):Int) by omega,show ((r+1+1:Nat):Int) / 2=(((r+1+1) / 2:Nat):Int) by omega]
   refine Bh (k+t) (by omega) (by omega) _ ?_
   simp only [M7,M9,aE,aH,lH,eI]
   have hcp:0<cR ((r+1+1:Nat):Int) ((r+1+1) / 2)/\cR ((r+1+1:Nat):Int) ((r+1+1) / 2)<1000:=by
    have:∀ r:Nat,r<7->0<cR ((r+1+1:Nat):Int) ((r+1+1) / 2)/\cR ((r+1+1:Nat):Int) ((r+1+1) / 2)<1000:=by decide +kernel
    exact this r hr8
   by_cases hev:(r+1) % 2=0
   ·obtain ⟨w1,w2,w3⟩:=Bb hX hY hev he' hA'
    have:(((r+1:Nat):Int) % 2 == 0)=true:=by rw [beq_iff_eq];omega
    rw [this]
    simp only [if_true,bO,aO,aE,aH,a8,aS,aR]
    refine fD ?_
    simp only [aE,aH,d7,eJ]
    refine ⟨b,rfl,_,g1,?_⟩
    rw [lM _ (by rw [MZ,hl2];omega),Oz,<- Ql,e0,T4 (by simp)]
    refine uO t k (gs:=Y::rest++[X]) (by rw [bB];rfl) (lQ w3 (fun g hg=>hpos' g (by rw [e0];exact NY.mpr (.inr hg))) w2) (by rw [hl2] at hlen;simp;omega) _ fun μ2 p2=>?_
    refine (iT (.inl ⟨by omega,by omega⟩)).mpr ?_
    rw [<- w1,<- gL R he]
    exact H _ ((p1.trans (aP _ _)).trans p2)
   ·obtain ⟨w1,w2,w3⟩:=uJ hX hY (by omega) he' hA'
    have:(((r+1:Nat):Int) % 2 == 0)=false:=by rw [beq_eq_false_iff_ne];omega
    rw [this]
    simp only [M8,if_false,cN,b0,aO,aE,aH,z0,aN]
    have hX':((MY (r+1) a++Y::rest++[X]).map D.int)[r+rest.length+2]? = some (.int X):=by
     rw [ND,NT (by simp;omega)]
     have:r+rest.length+2 - (MY (r+1) a++Y::rest).length=0:=by simp;omega
     rw [this]
     rfl
    have hXl:atI ((MY (r+1) a++Y::rest++[X]).map D.int) (-1)=some (.int X):=by
     unfold atI
     have:dS ((MY (r+1) a++Y::rest++[X]).map D.int).length (-1)=some (r+rest.length+2):=by
      rw [MZ,hl2]
      unfold dS
      rw [if_neg (by decide),if_pos (by omega)]
      congr 1
      omega
     rw [this,Nn,hX']
    refine (bM g1 hXl).mpr ?_
    refine (bM g1 (d9 (by rw [e0];exact Bk))).mpr ?_
    refine w_addI.mpr ?_
    refine (bM g1 (d9 (i:=0) (by rw [e0];exact pO (Y:=Y) (Ou _)))).mpr ?_
    refine w_subI.mpr ?_
    simp only [M7,M9,bO,aO,aE,aH,a8,aS,aR]
    refine fD ?_
    simp only [aO,aE,aH,d7,aN,w_addI,z0]
    refine ⟨b,rfl,_,g1,?_⟩
    rw [show ((r+1:Nat):Int)+1=((r+1+1:Nat):Int) by omega,My _ (by rw [MZ,hl2];omega),<- Ql,<- List.map_dropLast]
    have e3:((MY (r+1) a++Y::rest++[X]).drop (r+1+1)).dropLast=rest:=by
     have:MY (r+1) a++Y::rest++[X]=(MY (r+1) a++[Y])++(rest++[X]):=by simp
     rw [this,T4 (by simp),List.dropLast_concat]
    rw [e3]
    simp only [fB,aS,aR,aE,aH]
    refine ⟨lI,?_⟩
    refine (d6 (aX (aP _ _) (bB _ _)) (bB _ _) (by rw [MZ,Np];rw [hl2] at hlen;simp;omega)).mpr ?_
    refine uO t k (gs:=rest++[X+Y - a]) (by rw [bB,NJ];rfl) (lQ w3 (fun g hg=>?_) w2) (by rw [hl2] at hlen;simp;omega) _ fun μ2 p2=>?_
    ·rcases NY.mp hg with hg|hg
     ·exact hpos' g (by simp [hg])
     ·have h4:=hpos' X (by simp)
      rw [Q6.mp hg]
      omega
    ·refine (iT (.inl ⟨by omega,by omega⟩)).mpr ?_
     rw [<- w1,<- gL R he]
     exact H _ ((p1.trans (((aP _ _).trans (aP _ _)).trans (aP _ _))).trans p2)
theorem uP (k:Nat){μ:Hm}{p:Nat}{gs:List Int}(ha:μ[p]? = some (.lst (gs.map D.int)))(hG:GoodG gs)(Q:D×Hm->Prop)(H:∀ μ',μ <+: μ'->Q (.int (bC gs:Nat),μ')):W (f (k+6) "how_many" [.loc p] μ) Q:=by
 have hrg:=hG.rgl
 rw [KL,cM]
 simp only [b7,tG,a8,aS,aR,aE]
 refine Ap (k+2) p gs hG _ _ ha fun μ1 p1=>?_
 simp only [bO,a8,aS,aR,aE]
 exact uO 4 k (aX p1 ha) hG (by omega) _ fun μ2 p2=>H μ2 (p1.trans p2)
noncomputable def Bl:D->D
 | .str x=>.str (if x = "h" then "v" else "h")
 | d=>d
theorem Bm (b:Bool):Bl (.str (cF b))=.str (cF (!b)):=by cases b<;>kernel_rfl
theorem Mz (k:Nat){bs:List Bool}(hbl:bs.length<=8)(μ:Hm)(Q:D×Hm->Prop)(H:∀ μ',μ <+: μ'->Q (.str (bP (bs.map (!·))),μ')):W (f (k+1) "_law_other" [.str (bP bs)] μ) Q:=by
 rw [KR,cM]
 simp only [bO]
 refine Ki ?_
 simp only [aN]
 refine ⟨_,rfl,?_⟩
 simp only [aS,aR]
 refine iU (xs:=bs.map fun b=>D.str (cF b)) (p:=fun _=>true) (v:=Bl) ?_
 simp only [jQ,aE,aH,J8,Au]
 refine ⟨fun μ' i hp=>by rw [J9 μ' i hp,Au],trivial,by rw [MZ,Np];omega,fun d μ' hd hp=>w_mTrue.mpr ⟨rfl,Nw _⟩,fun d μ' hd _ hp=>?_,fun μ8 hp8 hg8=>?_⟩
 ·obtain ⟨b,_,rfl⟩:=NG.mp hd
  simp only [Nx,NA,aO]
  refine J1 ?_
  simp only [JZ,JY,J0,aN]
  refine ⟨bB _ _,by decide,?_⟩
  simp only [aE,aH]
  have hv:e6 (mD [] [(.inr "h",.str "v"),(.inr "v",.str "h")]) (.inr (cF b))=some (.str (cF (!b))):=by cases b<;>kernel_rfl
  refine (J2 (NR (by simp)) rfl hv).mpr ?_
  rw [Bm]
  exact ⟨rfl,jO (aP _ _) (Ni _) _⟩
 ·have hg8':μ8[μ.length]? = some (.lst ((bs.map (!·)).map fun b=>D.str (cF b))):=by
   rw [hg8,Ao,NH,NH]
   refine congrArg (fun z=>some (C.lst z)) (OX fun b _=>?_)
   exact Bm b
  refine (Lq hg8' (by rw [MZ];omega)).mpr ?_
  exact H _ hp8
theorem MB {μ:Hm}{a n:Nat}{d:D}{Q:D×Hm->Prop}(h:μ[a]? = some (.lst [d]))(hn:n<=8):W (bG (.loc a) (.int (n:Int)) μ) Q↔Q (.loc μ.length,μ++[.lst (MY n d)]):=by
 have e:bG (.loc a) (.int (n:Int)) μ=some (.loc μ.length,μ++[.lst (MY n d)]):=by
  show (match μ[a]? with|some (.lst xs)=>_|_=>_)=_
  rw [h]
  dsimp only
  rw [if_pos ⟨by omega,by omega,by rw [Np];simp only [Na,P7];omega⟩]
  have:(MY ((n:Int)).toNat [d]).flatten=MY n d:=by
   rw [show ((n:Int)).toNat=n by omega]
   clear h hn
   induction n with
   | zero=>rfl
   | succ n ih=>rw [Nt,OS,ih,Nt];rfl
  rw [this]
 rw [e]
 exact W_some
theorem Bn (b:Bool)(x y:List Bool):hZ (bP (b::x)) (bP (b::y))=hZ (bP x) (bP y):=by
 unfold hZ
 rw [decide_eq_decide]
 show ((b::x).map dF).toArray.toList<((b::y).map dF).toArray.toList↔(x.map dF).toArray.toList<(y.map dF).toArray.toList
 simp only [Q1,Nj,Sy]
 constructor
 ·rintro (h|h)
  ·exact absurd h (Oe _)
  ·exact h.2
 ·exact fun h=>.inr ⟨trivial,h⟩
theorem MC (x y:List Bool):hZ (bP (false::x)) (bP (true::y))=true:=by
 unfold hZ
 rw [decide_eq_true_eq]
 show ((false::x).map dF).toArray.toList<((true::y).map dF).toArray.toList
 simp only [Q1,Nj,Sy]
 exact .inl (by decide)
theorem uQ:∀ n:Nat,(bR n).Pairwise fun a b=>hZ (bP a) (bP b)=true
 | 0=>by simp [bR]
 | n+1=>by
  rw [bR,List.pairwise_append]
  refine ⟨?_,?_,?_⟩
  ·rw [OP]
   exact (uQ n).imp fun h=>by rw [Bn];exact h
  ·rw [OP]
   exact (uQ n).imp fun h=>by rw [Bn];exact h
  ·intro a ha b hb
   obtain ⟨x,_,rfl⟩:=NG.mp ha
   obtain ⟨y,_,rfl⟩:=NG.mp hb
   exact MC x y
theorem MD (gs:List Int):kZ ((dN gs).reverse.map bP)=true:=by
 unfold kZ
 rw [OH]
 intro i hi
 have hi:=NV.mp hi
 rw [MZ] at hi
 have hp:((dN gs).reverse).Pairwise fun a b=>hZ (bP b) (bP a)=true:=by
  rw [List.pairwise_reverse]
  exact (uQ _).filter _
 have:=Pr.mp hp i (i+1) (by omega) (by omega) (by omega)
 rw [Nv,Nv,ND,ND,Nh (by omega),Nh (by omega)]
 exact this
theorem Bo (n:Nat)(μ:Hm):∀ ps:List Str,f9 (c5 (n+2) μ) (ps.map D.str) (ps.map D.str)=some true
 | []=>rfl
 | p::ps=>by
  rw [Nj]
  show (c5 (n+2) μ (.str p) (.str p)).bind (fun b=>(f9 (c5 (n+2) μ) (ps.map D.str) (ps.map D.str)).map fun c=>b&&c)=_
  rw [Bo n μ ps]
  have:c5 (n+2) μ (.str p) (.str p)=some (p == p):=rfl
  rw [this,beq_self_eq_true]
  rfl
theorem MH {μ:Hm}{a b:Nat}{ps:List Str}{Q:D×Hm->Prop}(ha:μ[a]? = some (.lst (ps.map D.str)))(hb:μ[b]? = some (.lst (ps.map D.str))):W (bE false (.loc a) (.loc b) μ) Q↔Q (.bl true,μ):=by
 have h1:f7 μ (.loc a)=some (.lst (ps.map D.str)):=by simp only [f7,ha]
 have h2:f7 μ (.loc b)=some (.lst (ps.map D.str)):=by simp only [f7,hb]
 have h3:c5 8 μ (.loc a) (.loc b)=some true:=by
  show (f7 μ (.loc a)).bind (fun x=>(f7 μ (.loc b)).bind fun y=>gS (c5 7 μ) x y)=_
  rw [h1,h2]
  exact Bo 5 μ ps
 have e:bE false (.loc a) (.loc b) μ=some (.bl true,μ):=by
  show (c5 8 μ (.loc a) (.loc b)).map _=_
  rw [h3]
  rfl
 rw [e]
 exact W_some
theorem Bp:∀ l:List Int,aQ l.reverse=if l.length % 2=0 then -aQ l else aQ l
 | []=>rfl
 | g::l=>by
  rw [N2,iE,Bp l,OC,Na]
  by_cases h:l.length % 2=0
  ·rw [if_pos h,if_pos h,if_neg (by omega)]
   simp only [aQ]
   omega
  ·rw [if_neg h,if_neg h,if_pos (by omega)]
   simp only [aQ]
   omega
theorem Bq (c:Int):∀ l:List Int,aQ (l.map (c * ·))=c * aQ l
 | []=>by simp [aQ]
 | g::l=>by
  rw [Nj]
  simp only [aQ,Bq c l,SW]
theorem GoodG.Rot {gs gs':List Int}(hG:GoodG gs)(R:Rot gs gs'):GoodG gs':=by
 refine lQ (R.ev (gM hG)) (fun g hg=>?_) (iV R (gM hG) hG.alt)
 obtain ⟨u,v,rfl,rfl⟩:=R
 exact hG.pos g (by rcases NY.mp hg with h|h<;>simp [h])
theorem GoodG.turned {gs:List Int}(hG:GoodG gs):GoodG gs.reverse:=by
 refine lQ (gM hG).rev (fun g hg=>hG.pos g (List.mem_reverse.mp hg)) ?_
 rw [Bp,if_pos (gM hG).1,hG.alt]
 rfl
theorem GoodG.times {gs:List Int}(hG:GoodG gs){c:Int}(hc:0<c):GoodG (gs.map (c * ·)):=by
 refine lQ (by have:=gM hG;unfold Ev at this ⊢;rw [MZ];exact this) (fun g hg=>?_) ?_
 ·obtain ⟨x,hx,rfl⟩:=NG.mp hg
  have:=hG.pos x hx
  exact Vb hc (by omega)
 ·rw [Bq,hG.alt,Int.mul_zero]
theorem GoodG.alike {n:Nat}(hn:n=2\/n=4\/n=6\/n=8){g:Int}(hg:1<=g):GoodG (MY n g):=by
 refine ⟨by rw [N0];exact hn,fun x hx=>by rw [(Q7.mp hx).2];exact hg,?_⟩
 rcases hn with rfl|rfl|rfl|rfl<;>simp [MY,aQ]<;>omega
theorem MJ (xs:List D){k:Nat}(h:k<xs.length):dG xs (some ((k:Int) - 1)) none=xs.drop (b9 xs.length k)/\dG xs none (some ((k:Int) - 1))=xs.take (b9 xs.length k):=by
 have e:HT.sIx xs.length 0 (some ((k:Int) - 1))=b9 xs.length k:=by
  show (if (k:Int) - 1<0 then ((k:Int) - 1+(xs.length:Int)).toNat else min ((k:Int) - 1).toNat xs.length)=_
  unfold b9
  by_cases c:k=0
  ·subst c
   rw [if_pos (by omega),if_pos rfl];omega
  ·rw [if_neg (by omega),if_neg c];omega
 have e':HT.sIx xs.length xs.length (some ((k:Int) - 1))=b9 xs.length k:=e
 constructor
 ·unfold dG
  rw [e,HT.sIx_none,Qp (by rw [N5];exact Ni _)]
 ·unfold dG
  rw [e',HT.sIx_none,QM,Qw]
noncomputable def uR (k:Nat):MS:=bL (eV (aU (aA dH (aG fQ (aC (aB 4) aD)) (aA bN (mC (.int 10)) (mC (.int 60))))) (aU (aA (bE true) (aG (f k "how_many") (aC (aB 4) aD)) (aB 2)))) (aZ (mC (.bl false))) bK
noncomputable def uS (k:Nat):MS:=(aK (aW 6 (aA aL (cP (aB 1) (b6 (aA bZ (aB 5) (mC (.int 1)))) cK) (cP (aB 1) cK (b6 (aA bZ (aB 5) (mC (.int 1))))))) (bL (eV (aU (aA gU (aG cL (aC (aB 1) aD)) (mC (.int 2)))) (eV (aU (aA dH (aA aI (aB 6) (mC (.int 1))) (aG dP (aC (aA aI (aB 6) (mC (.int 0))) (aC (aA aI (aB 6) (mC (.int 2))) aD))))) (aU (aA dH (aA bZ (aA aL (aA aI (aB 6) (mC (.int 0))) (aA aI (aB 6) (mC (.int 2)))) (aA aI (aB 6) (mC (.int 1)))) (aA bN (mC (.int 10)) (mC (.int 60))))))) (bL (aU (aA (bE true) (aA bG (aG (f k "how_many") (aC (aA aL (bY (aC (aA bZ (aA aL (aA aI (aB 6) (mC (.int 0))) (aA aI (aB 6) (mC (.int 2)))) (aA aI (aB 6) (mC (.int 1)))) aD)) (cP (aB 6) (b6 (mC (.int 3))) cK)) aD)) (mC (.int 2))) (aB 2))) (aZ (mC (.bl false))) bK) bK))
noncomputable def uT (k:Nat):MS:=(aK (aW 7 (aG (f k "all_marks") (aC (aB 1) aD))) (aK (bL (aU (aA (bE true) (aG cL (aC (aB 7) aD)) (aB 2))) (aZ (mC (.bl false))) bK) (aZ (aA (bE false) (aG jJ (aC (dJ (dI (aB 7)) dB (aG (f k "_law_other") (aC (aB 8) aD))) aD)) (aB 7)))))
noncomputable def pP (k:Nat):MS:=(aK (aW 2 (aG (f k "how_many") (aC (aB 1) aD))) (aK (aW 3 (aA aL (mC (.int 1)) (aA bH (aG (f k "_law_nth") (aC (aB 0) (aC (mC (.int 10)) aD))) (aA bN (mC (.int 10)) (mC (.int 9)))))) (aK (bL (fL (iH (hW (aG (f k "_law_int") (aC (aB 2) aD)))) (fL (aU (aA dH (aB 2) (mC (.int 2)))) (aU (aA (bE false) (aA bH (aB 2) (mC (.int 2))) (mC (.int 1)))))) (aZ (mC (.bl false))) bK) (aK (fN (dI (bY (aC (aA aL (cP (aB 1) (b6 (mC (.int 1))) cK) (cP (aB 1) cK (b6 (mC (.int 1))))) (aC (aG iB (aC (aB 1) aD)) (aC (dJ (dI (aB 1)) dB (aA bG (aB 8) (aB 3))) aD))))) (eY 4) (uR k)) (aK (fN (dY (aC (aG cL (aC (aB 1) aD)) aD)) (eY 5) (uS k)) (uT k))))))
theorem MK (k:Nat)(d0:D)(μ:Hm):f (k+1) "law" [d0] μ=aM ((aK (aW 1 (aG (f k "_law_gaps") (aC (aB 0) (aC (mC (.int 0)) aD)))) (aK (bL (aU (aA (bE false) (aA bH (aG (f k "_law_nth") (aC (aB 0) (aC (mC (.int 9)) aD))) (mC (.int 4))) (mC (.int 1)))) (aW 1 (aA bG (bY (aC (aA aI (aB 1) (mC (.int 0))) aD)) (aG cL (aC (aB 1) aD)))) bK) (pP k))) [some d0,none,none,none,none,none,none,none] μ):=KS k d0 μ
noncomputable def Br (d0:D)(a:Nat)(many by_:Int)(μ:Hm)(p:Fl×aJ×Hm):Prop:=p.1=.nx/\μ <+: p.2.2/\∃ o4 o5 o6,p.2.1=[some d0,some (.loc a),some (.int many),some (.int by_),o4,o5,o6,none]
theorem ML (k:Nat){d0:D}{a b:Nat}{gs':List Int}{many by_:Int}{o5 o6:Option D}{μ:Hm}(hb:μ[b]? = some (.lst (gs'.map D.int)))(hG:GoodG gs')(hc:(bC gs':Int)=many) :
  W (uR (k+6) [some d0,some (.loc a),some (.int many),some (.int by_),some (.loc b),o5,o6,none] μ) (Br d0 a many by_ μ):=by
 have hrg:=hG.rgl
 unfold uR
 simp only [dD,tH,cO,aO,a8,aS,aR,aE,aH,aN]
 refine (t4 hb (by omega)).mpr ?_
 simp only [jS,jP]
 cases decide (dZ gs'<cZ) with
 | true=>
  simp only [if_true]
  refine uP k hb hG _ fun μ1 p1=>?_
  rw [hc]
  simp only [tL,beq_self_eq_true,P0,M8,if_false,cN]
  exact ⟨rfl,p1,_,_,_,rfl⟩
 | false=>
  simp only [M8,if_false,cN]
  exact ⟨rfl,Nw _,_,_,_,rfl⟩
theorem MM (k:Nat){d0:D}{a:Nat}{gs:List Int}{many by_:Int}{i:Nat}{o4 o6:Option D}{μ:Hm}(ha:μ[a]? = some (.lst (gs.map D.int)))(hG:GoodG gs)(hc:(bC gs:Int)=many)(hi:i<gs.length) :
  W (uS (k+6) [some d0,some (.loc a),some (.int many),some (.int by_),o4,some (.int (i:Int)),o6,none] μ) (Br d0 a many by_ μ):=by
 have hrg:=hG.rgl
 have he:=gM hG
 unfold uS
 simp only [b7,b0,aO]
 refine fD ?_
 simp only [aO,aE,aH,d7,eJ,aN,w_subI]
 refine ⟨a,rfl,_,ha,?_⟩
 refine fD ?_
 simp only [aO,aE,aH,d7,eJ,aN,w_subI]
 refine ⟨a,rfl,_,aX (aP _ _) ha,?_⟩
 obtain ⟨c1,c2⟩:=MJ (gs.map D.int) (k:=i) (by rw [MZ];exact hi)
 rw [c1,c2,MZ,<- Ql,<- RZ]
 generalize hj:b9 gs.length i=j
 have hjl:j<gs.length:=by rw [<- hj];unfold b9;split<;>omega
 have R:Rot gs (gs.drop j++gs.take j):=⟨gs.take j,gs.drop j,by simp,rfl⟩
 refine (d6 (aX (aP _ _) (bB _ _)) (bB _ _) (by simp only [MZ,N5,Oa];rw [Np];omega)).mpr ?_
 have hG':=hG.Rot R
 have hc':(bC (gs.drop j++gs.take j):Int)=many:=by rw [<- gL R he];exact hc
 have hlen:=R.len
 rw [<- NJ]
 have gl:=bB (μ++[C.lst ((gs.drop j).map D.int)]++[C.lst ((gs.take j).map D.int)]) (C.lst ((gs.drop j++gs.take j).map D.int))
 have q1:μ <+: μ++[C.lst ((gs.drop j).map D.int)]++[C.lst ((gs.take j).map D.int)]++[C.lst ((gs.drop j++gs.take j).map D.int)]:=(aP _ _).trans ((aP _ _).trans (aP _ _))
 generalize (μ++[C.lst ((gs.drop j).map D.int)]++[C.lst ((gs.take j).map D.int)]).length=b at gl ⊢
 generalize μ++[C.lst ((gs.drop j).map D.int)]++[C.lst ((gs.take j).map D.int)]++[C.lst ((gs.drop j++gs.take j).map D.int)]=μ1 at gl q1 ⊢
 generalize gs.drop j++gs.take j=l at hG' hc' hlen gl
 simp only [M7,M9,dD,tH,cO,aO,a8,aS,aR,aE,aH,aN]
 refine (fC (aX q1 ha)).mpr ?_
 rw [MZ,w_gtI]
 by_cases h2:(2:Int)<(gs.length:Int)
 ·rw [decide_eq_true h2]
  simp only [if_true]
  have hl8:=hG'.len
  match l,hG',hc',hlen,gl with
  | X::y::Z::rest,hG',hc',hlen,gl=>
   refine (bM gl (d:=.int y) (fE (i:=1) (by decide) (by simp only [Na];omega))).mpr ?_
   refine (bM gl (d:=.int X) mZ).mpr ?_
   refine (bM gl (d:=.int Z) (fE (i:=2) (by decide) (by simp only [Na];omega))).mpr ?_
   simp only [Kd,jP]
   by_cases h3:y<min X Z
   ·rw [decide_eq_true h3]
    simp only [if_true]
    refine (bM gl (d:=.int X) mZ).mpr ?_
    refine (bM gl (d:=.int Z) (fE (i:=2) (by decide) (by simp only [Na];omega))).mpr ?_
    refine w_addI.mpr ?_
    refine (bM gl (d:=.int y) (fE (i:=1) (by decide) (by simp only [Na];omega))).mpr ?_
    simp only [w_subI,jS,jP]
    cases decide (X+Z - y<cZ) with
    | true=>
     simp only [if_true,fB,aS,aR,aO,aE,aH,aN]
     refine (bM gl (d:=.int X) mZ).mpr ?_
     refine (bM gl (d:=.int Z) (fE (i:=2) (by decide) (by simp only [Na];omega))).mpr ?_
     refine w_addI.mpr ?_
     refine (bM gl (d:=.int y) (fE (i:=1) (by decide) (by simp only [Na];omega))).mpr ?_
     refine w_subI.mpr ?_
     refine ⟨lI,?_⟩
     refine fD ?_
     simp only [aE,aH,d7,eJ,aN]
     refine ⟨b,rfl,_,aX (aP _ _) gl,?_⟩
     rw [lM _ (by rw [MZ];simp only [Na];omega)]
     refine (d6 (aX (aP _ _) (bB _ _)) (bB _ _) (by simp only [MZ,N5,Na,P7] at hlen ⊢;rw [Np];omega)).mpr ?_
     obtain ⟨w1,w2,w3⟩:=Mm (rest:=rest) (X:=X) (a:=y) (Y:=Z) (by omega) (by omega) (gM hG') (by simp only [Na];omega) hG'.alt
     refine uP k (gs:=(X+Z - y)::rest) (bB _ _) (lQ w3 (fun g hg=>?_) w2) _ fun μ2 p2=>?_
     ·rcases NN.mp hg with rfl|hg
      ·have:=hG'.pos X (by simp)
       omega
      ·exact hG'.pos g (by simp [hg])
     ·simp only [Ai,tL]
      have:((bC ((X+Z - y)::rest):Int) * 2 == many)=true:=by rw [beq_iff_eq];omega
      rw [this]
      simp only [P0,M8,if_false,cN]
      exact ⟨rfl,q1.trans (((aP _ _).trans (aP _ _)).trans ((aP _ _).trans p2)),_,_,_,rfl⟩
    | false=>
     simp only [M8,if_false,cN]
     exact ⟨rfl,q1,_,_,_,rfl⟩
   ·rw [decide_eq_false h3]
    simp only [M8,if_false,cN]
    exact ⟨rfl,q1,_,_,_,rfl⟩
  | [],_,_,hlen,_=>have h:gs.length=0:=hlen;omega
  | [_],_,_,hlen,_=>have h:gs.length=1:=hlen;omega
  | [_,_],_,_,hlen,_=>have h:gs.length=2:=hlen;omega
 ·rw [decide_eq_false h2]
  simp only [M8,if_false,cN]
  exact ⟨rfl,q1,_,_,_,rfl⟩
theorem MN (k:Nat){d0:D}{a:Nat}{gs:List Int}{many by_:Int}{o4 o5 o6:Option D}{μ:Hm}(ha:μ[a]? = some (.lst (gs.map D.int)))(hG:GoodG gs)(hc:(bC gs:Int)=many) :
  W (uT (k+6) [some d0,some (.loc a),some (.int many),some (.int by_),o4,o5,o6,none] μ) fun p=>p.1=.rt (.bl true):=by
 have hrg:=hG.rgl
 have he:=gM hG
 unfold uT
 simp only [b7,b0,a8,aS,aR,aE,aH]
 refine Ms (k+2) ha hG _ fun b μ1 p1 g1=>?_
 simp only [M7,M9,dD,cO,aO,a8,aS,aR,aE,aH]
 refine (fC g1).mpr ?_
 have hcl:(dN gs).length=bC gs:=rfl
 rw [MZ,hcl,hc]
 simp only [tL,beq_self_eq_true,P0,M8,if_false,cN,bO,aO,a8,aS,aR]
 obtain ⟨b1,b2⟩:=pK gs.length gs (Ni _) he hG.alt hG.pos
 obtain ⟨h2,e2⟩:=A5 he
 have hb3:jW gs.length<=112:=by unfold jW;split<;>(try split)<;>(try split)<;>omega
 refine iU (xs:=(dN gs).map RS) (p:=fun _=>true) (v:=fun d=>RS ((jX d).map (!·))) ?_
 simp only [jQ,aE,aH]
 refine (lG g1).mpr ?_
 refine ⟨mW g1,rfl,by rw [Np,MZ,hcl];omega,fun d μ' hd hp=>w_mTrue.mpr ⟨rfl,Nw _⟩,fun d μ' hd _ hp=>?_,fun μ2 p2 g2=>?_⟩
 ·obtain ⟨bs,hbs,rfl⟩:=NG.mp hd
  have hbl:=mem_rowsH.mp (ON.mp hbs).1
  simp only [Nx,NA,a8,aS,aR,aE,aH]
  refine Mz (k+5) (by omega) _ _ fun μ3 p3=>?_
  rw [pL]
  exact ⟨rfl,p3⟩
 ·have e3:(((dN gs).map RS).filter fun _=>true).map (fun d=>RS ((jX d).map (!·)))=((dN gs).reverse.map bP).map D.str:=by
   rw [uN,NH,NH,<- Me he,NH]
   refine OX fun bs _=>?_
   show RS ((jX (RS bs)).map (!·))=_
   rw [pL]
   rfl
  rw [e3] at g2
  have hlr:((dN gs).reverse.map bP).length=bC gs:=by rw [MZ,OC,hcl]
  refine (Kk g2 (by omega) (by omega) (MD gs)).mpr ?_
  have e4:((dN gs).reverse.map bP).reverse.map D.str=((dN gs).map bP).map D.str:=by
   rw [<- Pn,SI]
  rw [e4]
  have e5:(dN gs).map RS=((dN gs).map bP).map D.str:=by rw [NH];rfl
  rw [e5] at g1
  refine (MH (bB _ _) (aX (p2.trans (aP _ _)) g1)).mpr ?_
  rfl
theorem MP (k:Nat){i:Int}{μ:Hm}{Q:D×Hm->Prop}:W (f (k+1) "_law_int" [.int i] μ) Q↔Q (.bl true,μ):=by
 rw [KO,cM]
 simp only [bO,pA,a8,aS,aR,aE,aN,Ac,if_true,aO,Ka]
theorem MQ (k:Nat){ns:List Int}{a:Nat}{gs:List Int}{μ:Hm}(ha:μ[a]? = some (.lst (gs.map D.int)))(hG:GoodG gs) :
  W (pP (k+6) [some (.rol (ns.map D.int)),some (.loc a),none,none,none,none,none,none] μ) fun p=>p.1=.rt (.bl true):=by
 have hrg:=hG.rgl
 have he:=gM hG
 unfold pP
 simp only [b7,b0,a8,aS,aR,aE,aH]
 refine uP k ha hG _ fun μ1 p1=>?_
 have g1:=aX p1 ha
 simp only [M7,M9,aO,a8,aS,aR,aE,aH,aN,iC _ ns 10 (by decide)]
 refine (lE (by decide)).mpr ?_
 refine (d4 (by decide)).mpr ?_
 rw [w_addI]
 have hby:1<=1+bV ns 10 % 10 ^ (9:Int).toNat/\1+bV ns 10 % 10 ^ (9:Int).toNat<2 ^ 64:=by
  have h1:=Oj (bV ns 10) (show (10:Int) ^ (9:Int).toNat≠0 by decide)
  have h2:=O5 (bV ns 10) (show (0:Int)<10 ^ (9:Int).toNat by decide)
  have h3:(10:Int) ^ (9:Int).toNat+1<2 ^ 64:=by decide
  omega
 generalize 1+bV ns 10 % 10 ^ (9:Int).toNat=by_ at hby
 obtain ⟨b1,b2⟩:=pK gs.length gs (Ni _) he hG.alt hG.pos
 obtain ⟨h2,e2⟩:=A5 he
 simp only [M7,M9,dD,tI,tJ,o9,cO,aO,a8,aS,aR,aE,aH,aN,MP (k+5),pB,P0,M8,if_false,jP]
 have c1:decide (((bC gs:Nat):Int)<2)=false:=by rw [decide_eq_false_iff_not];omega
 have c2:(((bC gs:Nat):Int) % 2 == 1)=false:=by rw [beq_eq_false_iff_ne];omega
 rw [c1]
 simp only [M8,if_false,lH,eI]
 rw [c2]
 simp only [M8,if_false,cN,lF,jQ,fB,aS,aR,aO]
  -- one farther on
 refine fD ?_
 simp only [aE,aH,d7,eJ,aN]
 refine ⟨a,rfl,_,g1,?_⟩
 refine fD ?_
 simp only [aE,aH,d7,eJ,aN]
 refine ⟨a,rfl,_,aX (aP _ _) g1,?_⟩
 rw [lM _ (by rw [MZ];omega),tZ _ (by rw [MZ];omega),<- Ql,<- RZ]
 refine (d6 (aX (aP _ _) (bB _ _)) (bB _ _) (by simp only [MZ,N5,Oa];rw [Np];omega)).mpr ?_
 rw [<- NJ]
 have R:Rot gs (gs.drop (1:Int).toNat++gs.take (1:Int).toNat):=⟨gs.take 1,gs.drop 1,(Ol 1 gs).symm,rfl⟩
 have q2:μ1 <+: μ1++[C.lst ((gs.drop (1:Int).toNat).map D.int)]++[C.lst ((gs.take (1:Int).toNat).map D.int)]++[C.lst ((gs.drop (1:Int).toNat++gs.take (1:Int).toNat).map D.int)]:=(aP _ _).trans ((aP _ _).trans (aP _ _))
 have gA:=bB (μ1++[C.lst ((gs.drop (1:Int).toNat).map D.int)]++[C.lst ((gs.take (1:Int).toNat).map D.int)]) (C.lst ((gs.drop (1:Int).toNat++gs.take (1:Int).toNat).map D.int))
 generalize (μ1++[C.lst ((gs.drop (1:Int).toNat).map D.int)]++[C.lst ((gs.take (1:Int).toNat).map D.int)]).length=cA at gA ⊢
 generalize μ1++[C.lst ((gs.drop (1:Int).toNat).map D.int)]++[C.lst ((gs.take (1:Int).toNat).map D.int)]++[C.lst ((gs.drop (1:Int).toNat++gs.take (1:Int).toNat).map D.int)]=μ2 at gA q2 ⊢
 have GA:=hG.Rot R
 have kA:=gL R he
 generalize gs.drop (1:Int).toNat++gs.take (1:Int).toNat=lA at GA kA gA
 have g2:=aX q2 g1
  -- turned about
 simp only [a8,aS,aR,aE,aH]
 refine (Kl g2).mpr ?_
 rw [<- Pn]
 have q3:=aP μ2 (C.lst (gs.reverse.map D.int))
 have gB:=bB μ2 (C.lst (gs.reverse.map D.int))
 generalize μ2.length=cB at gB ⊢
 generalize μ2++[C.lst (gs.reverse.map D.int)]=μ3 at gB q3 ⊢
 have g3:=aX q3 g2
 have gA3:=aX q3 gA
  -- so many times as long
 refine iU (xs:=gs.map D.int) (p:=fun _=>true) (v:=fun d=>.int (by_ * fI d)) ?_
 simp only [jQ,aE,aH]
 refine (lG g3).mpr ?_
 refine ⟨mW g3,rfl,by rw [MZ,Np];omega,fun d μ' hd hp=>w_mTrue.mpr ⟨rfl,Nw _⟩,fun d μ' hd _ hp=>?_,fun μ4 p4 gC=>?_⟩
 ·obtain ⟨x,hx,rfl⟩:=NG.mp hd
  simp only [Nx,NA,aO,aE,aH]
  refine (iT (.inr ⟨by omega,hby.2⟩)).mpr ⟨?_,Nw _⟩
  show D.int (x * by_)=D.int (by_ * x)
  rw [Sz]
 ·have eC:((gs.map D.int).filter fun _=>true).map (fun d=>D.int (by_ * fI d))=(gs.map (by_ * ·)).map D.int:=by
   rw [uN,NH,NH]
   rfl
  rw [eC] at gC
  generalize μ3.length=cC at gC ⊢
  have g4:=aX p4 g3
  refine ⟨by show (3:Nat)<=Nd;decide,?_⟩
  have gX:=bB μ4 (C.lst [D.loc cA,D.loc cB,D.loc cC])
  have q5:=aP μ4 (C.lst [D.loc cA,D.loc cB,D.loc cC])
  generalize μ4.length=cX at gX ⊢
  generalize μ4++[C.lst [D.loc cA,D.loc cB,D.loc cC]]=μ5 at gX q5 ⊢
  have g5:=aX q5 g4
  refine (lG gX).mpr ?_
  refine JX (a:=cX) (xs:=[D.loc cA,D.loc cB,D.loc cC]) (fun _ ρ μ'=>μ5 <+: μ'/\∃ o4 o5 o6,ρ=[some (.rol (ns.map D.int)),some (.loc a),some (.int (bC gs:Nat)),some (.int by_),o4,o5,o6,none]) ⟨Nw _,_,_,_,rfl⟩ ?_ ?_ ?_
  ·rintro i ρ μ' ⟨hp,_⟩
   exact aX hp gX
  ·rintro i d ρ μ' hd ⟨hp,o4,o5,o6,rfl⟩
   refine ⟨_,rfl,?_⟩
   have key:∃ c gs',d=.loc c/\μ5[c]? = some (.lst (gs'.map D.int))/\GoodG gs'/\bC gs'=bC gs:=by
    match i,hd with
    | 0,hd=>cases hd;exact ⟨cA,lA,rfl,aX (p4.trans q5) gA3,GA,kA.symm⟩
    | 1,hd=>cases hd;exact ⟨cB,gs.reverse,rfl,aX (p4.trans q5) gB,hG.turned,Md he⟩
    | 2,hd=>cases hd;exact ⟨cC,gs.map (by_ * ·),rfl,aX q5 gC,hG.times (by omega),AY he (by omega)⟩
    | i+3,hd=>cases hd
   obtain ⟨c,gs',rfl,hc1,hc2,hc3⟩:=key
   simp only [M7,M9]
   refine bF (ML k (aX hp hc1) hc2 (by rw [hc3])) fun p h=>?_
   obtain ⟨fl,ρ',μ''⟩:=p
   obtain ⟨h1,h2,o4,o5,o6,h3⟩:=h
   have h1:fl=.nx:=h1
   subst h1
   exact ⟨hp.trans h2,o4,o5,o6,h3⟩
  ·rintro ρ μ6 ⟨p6,o4,o5,o6,rfl⟩
   have g6:=aX p6 g5
   simp only [lF,jR (j:=0),aS,aR,a8,aE,aH]
   refine (fC g6).mpr ?_
   rw [MZ]
   refine ⟨by omega,?_⟩
   rw [Oz]
   refine mV (fun _ ρ μ'=>μ6 <+: μ'/\∃ o4 o5 o6,ρ=[some (.rol (ns.map D.int)),some (.loc a),some (.int (bC gs:Nat)),some (.int by_),o4,o5,o6,none]) ⟨Nw _,_,_,_,rfl⟩ ?_ ?_
   ·rintro i ρ μ' hi ⟨hp,o4,o5,o6,rfl⟩
    refine ⟨_,rfl,?_⟩
    rw [show (0:Int)+(i:Int)=(i:Int) by omega]
    simp only [M7,M9]
    refine bF (MM k (aX hp g6) hG rfl hi) fun p h=>?_
    obtain ⟨fl,ρ',μ''⟩:=p
    obtain ⟨h1,h2,o4,o5,o6,h3⟩:=h
    have h1:fl=.nx:=h1
    subst h1
    exact ⟨hp.trans h2,o4,o5,o6,h3⟩
   ·rintro ρ μ7 ⟨p7,o4,o5,o6,rfl⟩
    exact MN k (aX p7 g6) hG rfl
theorem MR (k:Nat)(ns:List Int)(hb:∀ m∈ns,Nf m<=2 ^ 20)(μ:Hm):W (f (k+7) "law" [.rol (ns.map D.int)] μ) fun r=>r.1=.bl true:=by
 rw [MK,cM]
 simp only [b7,b0,a8,aS,aR,aE,aN]
 refine L4 (k+4) ns hb 0 (by decide) _ _ fun a0 μ0 gs p0 g0 G l0=>?_
 have hrg:=G.rgl
 simp only [M7,M9,dD,cO,aO,a8,aS,aR,aE,aH,aN,iC (k+5) ns 9 (by decide),Ah,eI]
 have aM:∀ {a:Nat}{gs:List Int}{μ:Hm},μ[a]? = some (.lst (gs.map D.int))->GoodG gs->W (pP (k+6) [some (.rol (ns.map D.int)),some (.loc a),none,none,none,none,none,none] μ) fun p=>match p.1 with|.rt d=>(d,p.2.2).1=.bl true|.nx=>(D.non,p.2.2).1=.bl true|_=>False:=fun ha hG=>bF (MQ k ha hG) fun p h=>by rw [h]
 cases hc:(bV ns 9 % 4 == 1) with
 | true=>
  simp only [if_true,b0,aO,fB,aS,aR,a8,aE,aH,aN]
  refine (bM g0 (fE (i:=0) (by decide) (by omega))).mpr ?_
  refine ⟨lI,?_⟩
  refine (fC (aX (aP _ _) g0)).mpr ?_
  rw [MZ]
  refine (MB (bB _ _) (by omega)).mpr ?_
  simp only [M7,M9]
  refine aM (gs:=MY gs.length (gs.getD (0:Int).toNat 0)) ?_ (GoodG.alike G.len (pF G.pos (by show 0<gs.length;omega)))
  rw [bB,List.map_replicate]
 | false=>
  simp only [M8,if_false,cN]
  exact aM g0 G
theorem MU:∀ ns:List Int,ns.length<=63->(∀ m∈ns,Nf m<=2 ^ 20)->∃ μ',gI S ds 7 "law" [.rol (ns.map D.int)] []=some (.bl true,μ'):=fun ns hns hb=>by
 obtain ⟨⟨d,μ'⟩,h1,h2⟩:=MR 0 ns hb []
 dsimp only at h2
 subst h2
 refine ⟨μ',?_⟩
 unfold f at h1
 exact h1
end Lw
namespace Lw
open PySem L2 L3
theorem dz (Q:PB):o7 (Kx Q) ds:=by unfold o7;kernel_rfl
theorem cz (Q:PB):zZ (Kx Q) S.con=true:=by kernel_rfl
theorem nz (Q:PB):S.no.map (Qn (Kx Q) N8)=S.no.map fun _=>some none:=by kernel_rfl
theorem MV {P:Nz}{w:NP}{Q:PB}
  {h:N6}{mg:Str → Option M0}(X:(Kx Q).In h)(G:h.Ns N8 mg):TxtOk P w (Kx Q) mg S ds ∧ ∃ f fd,Fun (Kx Q) "law" "law" (aY 29) f fd ∧ mg "law" = some (.ref f) ∧ ∀ (s:M4)(u:M0),RO s fd ⟨[u],[]⟩ [("_law_script",u)]:=by
 refine ⟨⟨JL (by decide +kernel),JM fun p hp=>(zW X G (dz Q) p hp).1,JN (JS X G (cz Q)),fun x kvs e=>?_,JO (JR X G (nz Q))⟩,JQ X G (dz Q) (by kernel_rfl) (by kernel_rfl)⟩
 ·cases e
end Lw
open PySem PySem.W PyProof.Rows
set_option maxRecDepth 100000 in
set_option maxHeartbeats 0 in
theorem PySem.Challenge.cw_creasecourt_k38_whole_counts_holds : PySem.Challenge.rw_creasecourt_k38_whole_counts.Holds := by
 w_on
 refine holds_law (by decide +kernel) fun said=>?_
 refine holds_open (q:=Lw.Vw) (loose:=[]) (Xt:=fun s=>xlAt Lw.Vw [] s&&recOk (UB (TB (Sb N3))) s) (XP:=XL Lw.Vw []) (Yf:=Hook.obs (Vj Lw.Kx Lw.As Lw.lX)) (Ya:=Hook.val (Vj Lw.Kx Lw.As Lw.lX)) (YP:=Hook.says (Vj Lw.Kx Lw.As Lw.lX)) (N:=2350) Lw.run (Hook.of _) (Hook.keeps _) (fun s e=>xl_of s (Pj.mp e).1) XL.keeps (by rfl) (by rfl) (by rfl) (fun s e=>recFacts_of (Pj.mp e).2) (by rfl) (by first|assumption|decide +kernel) (by decide +kernel) ⟨rfl,rfl,rfl,rfl,rfl,by decide +kernel⟩ ?hw ?hc
 case hw=>w_witness2
 k_fill
 refine L3.walkM (l:=N3) (S:=Lw.S) (ds:=Lw.ds) (k:=7) (st:=Lw.aY 29) (x:="_law_script") rfl rfl ⟨rfl,by decide,by decide⟩ (fun w h Y=>PySem.W.kIn_of Y) (by kernel_rfl) (by kernel_rfl) ?F Lw.MU
 case F=>
  intro w mg h KX G
  refine' Lw.MV (P:=N4) (w:=w)  KX G
