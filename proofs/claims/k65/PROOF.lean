import PyProof.Rows.All
import Wide.All
import OpenK.AllK
import PySem.Challenge.RW_creasecourt_k65_whole_ties_hold
local macro_rules|`(command|open _root_ in $c)=>`(command|set_option tactic.hygienic true in $c)
local macro_rules|`(tactic|let ⟨$xs,*⟩:=$e)=>do
 let ys<-xs.getElems.mapM fun x=>match x with|`($i:ident)=>`(rcasesPat|$i:ident)|_=>`(rcasesPat|_)
 `(tactic|obtain ⟨$[$ys:rcasesPat],*⟩:=$e)
local macro_rules|`(tactic|dsimp[$xs,*]$[$l:location]?)=>`(tactic|simp only[$xs,*]$[$l]?)
local macro_rules|`(tactic|dsimp$[$l:location]?)=>`(tactic|dsimp only$[$l]?)
local macro_rules|`(tactic|apply $e)=>if e.raw[0].getId.hasMacroScopes then Lean.Macro.throwUnsupported else `(tactic|simpa using $e)
local macro_rules|`(def $i:declId $s:optDeclSig $v:declVal)=>`(theorem $i $(⟨Lean.mkNode `Lean.Parser.Command.declSig #[s.raw[0],s.raw[1][0]]⟩):declSig $v:declVal)
local macro_rules|`(abbrev $i:declId $s:optDeclSig $v:declVal)=>`(noncomputable def $i $s $v:declVal)
local macro_rules|`(tactic|show $e:term)=>`(tactic|refine $e)
local macro_rules|`(tactic|let $x:ident:=$e)=>`(tactic|have $x:ident:=$e)|`(tactic|let $x:ident:$t:term:=$e)=>`(tactic|have $x:ident:$t:term:=$e)
local macro_rules|`(tactic|ext $x:ident)=>`(tactic|first|unfold $x:ident|cases $x:ident)|`(tactic|ext $x:ident $y:ident)=>`(tactic|unfold $x:ident $y:ident)
local macro_rules|`(∅)=>`(by simp)
local macro_rules|`(())=>`(by lia)
local macro_rules|`(⋯)=>`(by decide)
local macro_rules|`($s:str)=>if s.getString=="" then `(by kernel_rfl) else Lean.Macro.throwUnsupported
open Option renaming some->b3,none->b4
open Bool renaming false->b5,true->dI
open And renaming symm->qy
open Array renaming mk->Ċ,getElem?_toList->ϸ,length_toList->il,getElem?_eq_some_iff->PV,getElem?_eq_getElem->P9,getElem?_eq_none->P5,getD->rT,replicate->OX,isEmpty_iff->Qw,toList->Qj,map->Pr
open Bool renaming false_ne_true->ô,and_eq_true->ð,false_eq_true->Ň,eq_iff_iff->γ,or_eq_true->mU,not_true->gf,and_eq_true_iff->zz,not_false->zf,not_eq_true'->NB,false_or->yt,or_false->MZ,true_and->OI,and_true->OH,eq_false_iff->RM,false_and->Qr
open Classical renaming choose->ul,choose_spec->NP,byContradiction->a9Z
open False renaming elim->υ
open ForInStep renaming yield->bu
open Int renaming toNat_natCast->bw,mul_eq_zero->iy,emod_emod->mj,emod_lt_of_pos->NS,add_zero->yx,emod_nonneg->NK,sub_add_cancel->Og,zero_add->OM,emod_emod_of_dvd->RA,emod_add_emod->RF,emod_two_eq->QH,add_comm->Pw,mul_add->Q9
open List renaming length_map->Ã,getElem?_eq_some_iff->â,getElem?_eq_getElem->ü,mem_map->Ô,getElem?_set_ne->ñ,getElem?_map->ú,length_append->ă,map_map->ã,map_append->þ,mem_singleton->Ē,map_cons->ó,prefix_refl->č,size_toArray->ğ,mem_cons->ĉ,mem_of_getElem?->Ĵ,mem_filter->ģ,range->Ā,mem_cons_of_mem->Ō,mem_append->Ħ,map_congr_left->Ţ,length_cons->ņ,mem_cons_self->š,append_nil->ŉ,nodup_cons->Ŏ,getD_eq_getElem?_getD->ψ,length_filter_le->ż,mem_range->ň,getElem?_eq_none_iff->χ,length->Ĭ,getElem?_append_left->ϗ,contains_iff_mem->ζ,all_cons->ō,zipWith_cons_cons->ϖ,set_cons_zero->Λ,find?_cons->ű,take_length->Ź,set_cons_succ->δ,getD->ĩ,getElem?_set_self->Ϥ,length_take->Ι,length_set->Ÿ,filter_cons_of_neg->WP,filter_append->ϣ,mem_append_right->aj,not_mem_nil->ϕ,getElem?_append_right->jf,filter_cons_of_pos->cu,append_assoc->Ϩ,cons_append->ϧ,filterMap_cons->aa,getElem?_eq_none->cj,nodup_append->Ϻ,find?_eq_none->Y0,nil_append->ϥ,take_of_length_le->jd,all_eq_true->ϵ,replicate->ϡ,reverse_reverse->iu,length_take_le'->ir,filter_sublist->ig,pairwise_iff_getElem->vd,reverse_append->qe,length_reverse->qd,map_nil->϶,mem_flatMap->jb,getElem_mem->j0,filter_cons->iz,take_append_drop->vo,length_replicate->vm,length_range->ph,flatMap_append->ur,getElem?_replicate->zx,any_eq_true->mY,reverse->bh,mem_iff_getElem?->zq,take_zero->nj,take_succ->ni,lookup_cons->ux,length_drop->uw,drop_eq_getElem_cons->Nb,filter_eq_self->zy,length_nil->uv,foldl_cons->ut,lookup->gY,length_eq_zero_iff->NQ,reverse_cons->zb,nodup_nil->ud,filter_eq_nil_iff->NO,set_append_left->NN,filter_nil->zm,filter_map->zj,prefix_append->NU,pairwise_cons->NT,range'->rn,idxOf_append->ND,map_take->yu,range'_succ->N9,pairwise_singleton->P8,getElem_inj->N8,zipWith->yr,range_succ->NM,set_append_right->PM,length_singleton->PL,getElem?_reverse->PJ,eq_replicate_iff->PH,pairwise_pair->Ol,mem_filterMap->Oj,filterMap_nil->Oi,pairwise_map->Of,foldl_append->Oe,flatMap_cons->P4,filter_congr->P2,ext_getElem?->P1,eraseIdx_eq_take_drop_succ->SX,map_reverse->Ov,ext_getElem->Ou,map_id->MU,of_mem_zip->OW,length_zip->OV,forIn_cons->OU,idxOf_lt_length_of_mem->SJ,perm_ext_iff_of_nodup->S9,drop_zero->Oa,exists_mem_of_ne_nil->Ra,idxOf_lt_length_iff->RX,getElem?_take_of_lt->RW,any_cons->OJ,range_succ_eq_map->RV,map_id'->OE,length_pos_of_mem->RU,append_eq_nil_iff->RT,any_map->OD,all_map->OC,getElem?_zipWith->Rt,getElem?_toArray->Rq,mem_append_left->Ri,map->MP,getElem?_of_mem->Rh,reverse_eq_iff->RE,length_pos_iff->RD,getElem_of_mem->RC,getElem?_range->RB,zip_cons_cons->Qx,take_add_one->RQ,map_inj_left->RP,find?_isSome->RO,find?_append->RN,reverse_nil->RI,mem_reverse->RH,flatMap_nil->RG,range_zero->QU,take_left->QL,forIn_nil->QK,set_set->Q6
open List.Nodup renaming length_le_of_subset->M2
open List.Pairwise renaming map->uq,nil->PN,imp_of_mem->b4s,imp->b4t
open List.cons renaming injEq->Rg
open Nat renaming le_refl->Ø,ne_of_lt->û,lt_of_lt_of_le->ĸ,le_trans->Ğ,zero_le->ĵ,ne_of_gt->Š,lt_succ_self->Ϧ,lt_irrefl->ε,mod_lt->τ,le_of_lt->Rr,lt_succ_of_lt->za,le_of_eq->lw,mod_eq_of_lt->yz,le_succ->mL,mod_mod->rm,not_lt->qz,not_lt_zero->NL,lt_trichotomy->Oy,lt_trans->N6,lt_of_succ_lt->Ox,min_eq_left->Oc,succ_mul->OO,sub_zero->ON,le_of_not_lt->QV,mod_add_mod->QM,mul_le_mul->Qk,zero_add->Q1,succ_pos->Q0,sub_self->Pz,min_self->Py,lt_or_ge->Px,log2_lt->QC
open Ne renaming symm->î
open Option renaming bind_some->Đ,map_some->Ĕ,bind_eq_some_iff->Ś,map_eq_some_iff->ţ,isSome_map->zc,getD_none->NA,isSome_iff_exists->SA,getD_some->Qy
open Option.some renaming inj->ē
open Or renaming inr->bf,inl->jt
open PUnit renaming unit->MV
open Prod renaming ext->đ,ext_iff->Q7
open Prod.mk renaming inj->Ϣ,injEq->Od
open PyProof.Rows renaming callWith_type1->qg,seqObj->Ė,IntsAre->ų,entry_list_sort->ue,slot_list_sort->uc,args_list_sort->tu,callWith_builtin1->Sm,AllBare->fc,subscriptTail->N2,listUpdate_at->N1,sortedHeap->yl,lt_int->SN,gt_int->SM,envOfC->SK,seqEpoch_at->MJ,Subscript_->MQ,IsTup->J4,subscriptTail_builtinR->Qs,plain_sorted->O8,entry_sorted->O6,args_sorted1->OA,kind_sorted->Ny,list_sort_plain->Pt,get?_update_seq->QD,wpAny_notIn_heap->b4C,pow_int_small->b4D,pow_int->b4E,oneLt_int->b4F,mul_int->b4G,mirror_perm->b4H,floordiv_int->b4I,entry_proto_collect'->b4J,entry_list_iadd'->b4K,call_len_slot->b4L,callWith_kw->b4M,bubble_perm->b4N,bubble->b4O,assign_Tuple_tuple->b4P,assign_Tuple->b4Q,tail_any->Nt,sortedHeap_old->Pp,Call_->xx
open PyProof.Rows.Boot renaming sorted->PR,list->PQ,tuple->Ss,dict->So,min->Sk,sum->b2C,str->b2D,reversed->b2E,max->b2F,len->b2G,isinstance->b2H,int->b2I,bool->b2J,all->b2K
open PySem renaming wpAny_bind->Á,wpAny_pure->Ê,Shared->Ù,sizeLine->Ñ,wpAny->È,sizeLine_eq->ï,model->Í,Program->Ť,Around->ť,starEach->ý,World->į,wpAny_holding->Ŀ,Heap->í,wpAny_newObj_type->ź,wpAny_call_entry->Θ,sysModules->ļ,compareOp->ĳ,wpAny_mono->Ŗ,wpAny_dictEntries->ϒ,mem_of_lookup->J0,mainGlobals->Ų,cLine->ÿ,wpAny_setField_rec->ϻ,Pos->Į,wpAny_truthy_bool->Ϲ,bootBuiltins->Ψ,Params->ϑ,wpAny_seqItems->Ϡ,codeAny_builtin->ϴ,wpAny_Call_Name_kw->bx,wpAny_field->Χ,plainId_quiet->Ϟ,treeTable->ŷ,wpAny_callSpecial?_slot->vp,assignEach->ς,Scope->Ω,FuncData->q9,wpAny_notOrdered_dict->vh,backTo->ŕ,wpAny_updateSeq->iw,wpAny_dictEpoch->gj,NameKind->ϱ,wpAny_rule->Ϝ,rawInt->ř,intKind->Ŵ,wpAny_isInstance->mX,pyNext->ş,firstArgMember->gh,binaryOp->Υ,sliceBounds->R4,wpAny_pyIter_tuple->um,wpAny_passesOwn->nu,wpAny_ite_split->nq,tupleKind->ϝ,behindInMarks->ie,attributeBase->gk,wpAny_pyIter_list->uz,foldedSetIterable->uy,Keyword->Φ,wpAny_tryCatch->nA,wpAny_setField->my,wpAny_letGo->bj,CmpOp->mq,wpAny_specialOf->uf,codeAny->ο,compEnvC->ϯ,call_meetsIn->lu,IsPair->Ζ,Paired->Τ,wpAny_newList->ug,storedH->ϛ,OsState->Sw,wpAny_of_eq->mD,storedH_new->m9,keywordEach->m7,swapsWith->fu,seqItems?->fj,richCompare->rE,wpAny_Call_method0_late->PF,atKey->Ρ,wpAny_typeOf->yw,wpAny_isOneOf_itemiter->PC,evalArgs_none->PB,wpAny_execs_nil->NI,size_of_entries->NH,letOwnedTupleGo->NG,wpAny_isOneOf_valiter->Ot,builtinLookup_eq_fast->Oq,Env->ξ,wpAny_pyIter_revIter->Oh,wpAny_newTuple->MX,pyIter->JF,isSubtype_stop->MW,backToKw->kj,IsZip->ώ,IsRangeIter->yq,valueAt->fC,updateSeq->qx,wpAny_standAt->N5,wpAny_handled->N4,wpAny_attempt->N3,dictSetHashed->N0,IsItemIterOut->Mz,typeLookup->ym,entryOfKey->yj,call_meets->yh,assign->az,Result->S3,wpAny_pyIter_slot->OT,slot_list_getitem->OS,setField->qw,codeAny_mono->MR,callerA->ju,BindsTo->kh,wpAny_forIn_list->OZ,seqIndex?->yp,newExc->fB,PassesOwn->yf,wpAny_throw->ML,subscripted->MK,typeNameOfWhole->OG,typeLookup_type->OF,getItem->qu,wpAny_load->MH,wpAny_fieldsOf->OB,newTuple->ye,dictSetDefault->OR,Operator->b1E,wpAny_getItem_list_slice->Rf,swappedStores->OL,Tok->au,wpAny_pyNext_tuple_item->R6,slicePick->MC,bindL->dw,bindC->du,wpAny_pyNext_tuple_end->Qv,wpAny_pyNext_list_item->Qu,wpAny_nextOf_list_item->b2t,wpAny_Call_method_late->Qt,isTrue->qt,MeetsIn->yd,wpAny_pyNext_list_end->RL,wpAny_nextOf_list_end->b2T,wpAny_isOneOf_keyiter->RK,wpAny_updateSeq_pair->b3a,wpAny_updateDictKeys->Qd,wpAny_pyIter_keyiter->Qb,storedH_old->Nz,raiseNew->M8,lookup_relabel_local->Qa,bindArgs->M7,SetTable->QZ,IntMulOk->M6,HeapKind->M5,GenState->b3q,wpAny_dictFind_heap->QR,not_mem_keys_of_get->QN,wpAny_tupleItemsOf->Qq,wpAny_Name->O4,sliceRange->O3,getattributeRaised->Qp,closureFor->O2,checkCount->O1,call_reversed_list->Qo,call_function_tree->Qn,builtinsNs->O0,Sem->J3,wpAny_pyIter_enum->Qi,wpAny_assign_Name->Qh,relabel->M9,field->qp,call_sum_walkAnyS->Qg,atKey_none_of_get->Qf,wpAny_pyIter_zip->Q5,wpAny_execs_cons->Q4,noFill_tuple_add->Q3,lastMarks->Nw,cellsFrom->Nu,call->Q2,wpAny_loadPart'->Pu,importedModules->QF,wpAny_Compare1->Pq,typeOf->M3,recursionLimit->Po,callType_codes->Pn,ZipApart->Np
open PySem.Around renaming under_plainId->Ϸ
open PySem.Builtin renaming sorted->Om
open PySem.Builtin.Builtins renaming bindParams->Nd
open PySem.Builtin.Dict renaming showsAll->ou,updateFrom->Nc,noArgs->P7,entriesForEmpty->SV,selfAndRest->Sb,addKeywords->Sa,pairItems->S5,mergeDict->S4,quietEq->Ru,readDirectly->b4W,pendingCount->b4X,merge->b4Y,keyAndDefault->b4Z,dictSlotNone->b5a
open PySem.Builtin.Dict_items renaming ownsTuple->M1,ownedTupleIsFree->Si,ownedTupleFields->Sg,pairFromOwner->Sf,newIterator->Se,dictOf->Sn
open PySem.Builtin.Int renaming intBits->ŵ,intTooBig->NR
open PySem.Builtin.List renaming listExtendWith->vf,listSameRef->NY,listTooLong->PY,listLengthHint->SU,listItems->S6,listUpdate->b4V
open PySem.Builtin.Range renaming rangeSize->b4x
open PySem.Builtin.SmallTypes renaming nextOf->jc,ownedTupleHandOut->Sv,ownedTupleIsFree->Su
open PySem.Builtin.Str renaming occurrences->je
open PySem.Builtin.Tuple renaming tupleHashOf->b4v,tupleCompareSizes->b4w
open PySem.Calls renaming callWith_builtin->zr,spliced_cons->NV,call_function_entry->PU,spliced_nil->NF,Name_function_global->SG,evalArgs_plain->Ro
open PySem.Challenge renaming rw_creasecourt_k65_whole_ties_hold->Ķ,pw_creasecourt_k65_whole_ties_hold->Mk
open PySem.Data renaming fields->Ņ,dict->ϲ,cell->sr,seq->MN,cls->O5
open PySem.F renaming slot_dict_items->Na,plainAttrs_dict->NZ,slot_dict_setdefault->SY,slot_dict_getitem->Ry,args_dict_items_1->Rw,slot_dict_values->SS,slot_dict_update->SR,entry_dict_items->SQ,args_tuple_add_2->SO,type_dict_items->SF,entry_tuple_add->SE,slot_tuple_add->S7,plain_min_loop->Rb,slot_dict_get->RY
open PySem.Heap renaming get?_push_of_some->ß,lt_size->Ý,get?_push_size->ć,get?_update_self->ϓ,get?_update_other->WF,SameBut->Κ,size_push->ϔ,ExtBut->R8
open PySem.Heap.DictOfH renaming new->b4U
open PySem.Heap.IsList renaming push->b5m,extBut->b5n
open PySem.Heap.IsListIter renaming extBut->b3Q,«at»->b3R
open PySem.Heap.IsSliceOf renaming new->Rv
open PySem.Heap.IsTuple renaming push->Sj,extBut->b4T
open PySem.Heap.IsTupleIter renaming extBut->b3z,«at»->b3A
open PySem.Heap.SameBut renaming update->Ż,refl->NX
open PySem.NameKind renaming free->UV,cell->bz
open PySem.Obj renaming mapSeq->a4F,data_mapDictKeys->vg,data_mapFields->uo,isFreed_of_dict->NW,isFreed_of_fields->PD,mapFields->MY,cls_mapFields->Oz,data_mapDict->QX
open PySem.Paired renaming length->Ob,snoc->Ql
open PySem.PassesOwn renaming never->Rj
open PySem.SeqAt renaming ne_of_list_tuple->oh,EqAt->m5
open PySem.SeqAt.EqAt renaming int_int->RZ
open PySem.Shared renaming heap->Qm
open PySem.Str renaming ofString->Ű
open PySem.Value renaming ref->Ö,type->ö,int->Ġ,none->Ľ,builtin->ϟ,bool->Η,str->lY,isStrOf->OY,isInt->OP
open PySem.W renaming Frag->Õ,behindTheImports->Ī,boot_drawn->ń,keepIn->ϳ,fnOf->ϐ,kia_one->cg,topFrame->Ϛ,boot_heap->Ml,nsIn->uh,findIn->zg,codeIn->N7,mg_of->NJ,methodObj->Oo,piecesOf->km,kas_asc->P0,segRun->bc,kas_rev->jy,boot_toks->yo,cellsFrom_some->S8,specialIn->Rn,kitx_list->Rm,kitx_dict->Rl,kas_count->Rk,kas_tail3->MB,instObj->R0,OpenLaw->Qz,kas_descPart->O7,kitOne->RS,WalkO->RJ,isFn->QY,KasT->b3k,KatTups->M4,piece_app->Nx,kas_place->Nv,kat_kind->Nr,kas_desc->Nq,kHook->yc
open PySem.W.KasT renaming ret->yg
open PySem.W.OpenLaw renaming row->ľ
open PySem.W.OpenRow renaming toRowW->RR
open PySem.W.RowW renaming records->Q8
open PySem.W.WData renaming int->su,weightAll->PX,layable->SW,weight->Rz,layableAll->b4m
open PySem.W.WShape renaming has->Qe
open PySem.Walks renaming tuple->OQ,list->OK
open Std.Legacy.Range renaming size->b3t,forIn_eq_forIn_range'->b3u
open Sum renaming inr->Ϗ,inl->lX
open True renaming intro->ϰ
set_option compiler.extract_closed false
set_option bootstrap.genMatcherCode false
set_option genSizeOf false
set_option genSizeOfSpec false
set_option Elab.async false
set_option tactic.hygienic false
set_option linter.all false
set_option maxRecDepth 100000
set_option linter.all false
@[reducible]def gw:=List PySem.Value
@[reducible]def jw:=List<|PySem.Addr×PySem.Obj
@[reducible]def jq:=List<|Int×Int
namespace L2
open PySem PySem.Spec PyProof.Rows
noncomputable abbrev bM:=Sum Int Str
abbrev oJ:bM->Value->Bool
 |.inl k,v=>OP k v|.inr x,v=>OY x v
abbrev EF(w:į):bM->Int
 |.inl k=>hashInt k|.inr x=>hashStr w x
def oK:∀{k}{v},oJ k v=dI->(∃i t,k=lX i/\v=Ġ i t)\/(∃x t,k=Ϗ x/\v=lY x t)
 |.inl i,v,h=>by let⟨t,e⟩:=Value.isInt_shape (k:=i) (v:=v) h;show .inl ⟨i,t,rfl,e⟩
 |.inr x,v,h=>by let⟨t,e⟩:=Value.isStrOf_shape (x:=x) (v:=v) h;show .inr ⟨x,t,rfl,e⟩
def a9Y i t:oJ (.inl i) (.int i t)=true:=by simp[oJ,OP]
def b2j x t:oJ (.inr x) (.str x t)=true:=by simp[oJ,OY]
def b2h a b:decide ((lX a:bM)=lX b)=(a==b):=by
 by_cases e:a=b
 .subst e;simp
 .let h:¬ (lX a:bM)=lX b:=λq=>e<|Sum.inl.inj q;rw[decide_eq_false h];show(beq_eq_false_iff_ne.mpr e).symm
def b1x a b:decide ((Ϗ a:bM)=Ϗ b)=decide (a=b):=by
 by_cases e:a=b
 .subst e;simp
 .let h:¬ (Ϗ a:bM)=Ϗ b:=λq=>e<|Sum.inr.inj q;rw[decide_eq_false h,decide_eq_false e]
def b1f a b:decide ((lX a:bM)=Ϗ b)=false:=decide_eq_false λq=>nomatch q
def b1e a b:decide ((Ϗ a:bM)=lX b)=false:=decide_eq_false λq=>nomatch q
abbrev jS prog w:PySem.KeyKind prog w bM where
 is:=oJ
 hash:=EF w
 inj:=λv a b g d=>by
  rcases oK g with⟨i,t,rfl,rfl⟩|⟨x,t,rfl,rfl⟩
  .rcases oK d with⟨j,u,rfl,e⟩|⟨y,u,rfl,e⟩
   .injection e with e1 _;rw[e1]
   .show nomatch e
  .rcases oK d with⟨j,u,rfl,e⟩|⟨y,u,rfl,e⟩
   .show nomatch e
   .injection e with e1 _;rw[e1]
 byValue:=λk v h=>by rcases oK h with⟨i,t,rfl,rfl⟩|⟨x,t,rfl,rfl⟩<;>rfl
 pyHash:=λc h=>by
  rcases oK c with⟨i,t,rfl,rfl⟩|⟨x,t,rfl,rfl⟩
  .show wpAny_pyHash_int h
  .show wpAny_pyHash_str h
 eqBool:=λn c h=>by
  rcases oK n with⟨i,t,rfl,rfl⟩|⟨x,t,rfl,rfl⟩
  .rcases oK c with⟨j,u,rfl,rfl⟩|⟨y,u,rfl,rfl⟩
   .rw[b2h]at h;show wpAny_eqBool_int h
   .rw[b1f]at h;show SeqAt.EqAt.int_str i t y u _ _ _ _ h
  .rcases oK c with⟨j,u,rfl,rfl⟩|⟨y,u,rfl,rfl⟩
   .rw[b1e]at h;show SeqAt.EqAt.str_int x t j u _ _ _ _ h
   .rw[b1x]at h;show wpAny_eqBool_str h
 «strs»:=λk x t v h=>by
  rcases oK h with⟨i,u,rfl,e⟩|⟨y,u,rfl,e⟩
  .show nomatch e
  .injection e with e1 _;subst e1;ext v<;>rfl
def b1d prog w i t:(jS prog w).is (.inl i) (.int i t)=true:=a9Y i t
def b1W prog w x t:(jS prog w).is (.inr x) (.str x t)=true:=b2j x t
inductive V where
 |non|bl (b:Bool)|int (i:Int)|str (x:Str)|byt (b:Array UInt8)|flt (b:UInt64)|ref (a:Addr)|ty (n:String)
 deriving DecidableEq
@[reducible]def gz:=List V
abbrev Ì:V->Value->Prop
 |.non,u=>u=Ľ|.bl b,u=>u=Η b|.int i,u=>∃t,u=Ġ i t|.str x,u=>∃t,u=lY x t|.byt b,u=>∃t,u=Value.bytes b t|.flt b,u=>∃t,u=Value.float b t|.ref a,u=>u=Ö a|.ty n,u=>u=ö n
noncomputable abbrev Å:gz->gw->Prop:=Τ Ì
def Å.length(r:Å xs us):xs.length=us.length:=Ob r
def Å.get:∀{xs}{us}{i:Nat}{x},Å xs us->xs[i]?=b3 x->∃u,us[i]?=b3 u/\Ì x u
 |_,_,_,_,.nil,e=>by simp at e
 |_,_,0,_,.cons r _,e=>by simp at e;subst e;show⟨_,rfl,r⟩
 |_,_,i+1,x,.cons _ t,e=>by let⟨u,h1,a⟩:=Å.get (i:=i) (x:=x) t (by apply e);show⟨u,by apply h1,a⟩
def Å.append:∀{xs a}{us ws},Å xs us->Å a ws->Å (xs++a) (us++ws)
 |_,_,_,_,.nil,s=>s|_,_,_,_,.cons r t,s=>.cons r<|Å.append t s
def Å.take:∀{xs}{us}n,Å xs us->Å (xs.take n) (us.take n)
 |_,_,0,_=>.nil|_,_,_+1,.nil=>.nil|_,_,n+1,.cons r t=>.cons r<|Å.take n t
def Å.drop:∀{xs}{us}n,Å xs us->Å (xs.drop n) (us.drop n)
 |_,_,0,r=>r|_,_,_+1,.nil=>.nil|_,_,n+1,.cons _ t=>Å.drop n t
def Å.none_of:∀{xs}{us}{i:Nat},Å xs us->xs[i]?=b4->us[i]?=none:=λ{xs us i} r e=>by let h1:=r.length;let a:xs.length<=i:=χ.mp e;show χ.mpr ()
abbrev ŏ:Option V->Option Value->Prop
 |some v,b3 u=>Ì v u|none,b4=>True|_,_=>False
abbrev KV{κ:Type}:List (κ×V)->List (κ×Value)->Prop:=Τ λ(p:κ×V)(q:κ×Value)=>p.1=q.1/\Ì p.2 q.2
abbrev kV:bM->V
 |.inl i=>.int i|.inr x=>.str x
inductive HO where
 |lst (xs:gz)
 |tup (xs:gz)
 |dK (kvs:List (bM×V))|dT (kvs:List (List bM×V))
 |set (S:Int->Bool)(n:Nat)
 |ins (C dx:Addr)(fs:List (Str×V))
 |own (x:Addr)
 |xd (fs:List (Str×V))
 |met (f x:Addr)
 |rng (lo hi:Int)
 |frz (o:Obj)(u:HO)
 |tbl (ps:Array Value)
 |ext (φ:í->Prop)
noncomputable abbrev Hp:=Addr->Option HO
abbrev upd(H:Hp)(a:Addr)(o:HO):Hp:=λb=>if b=a then b3 o else H b
def dW:upd H a o a=b3 o:=by ext upd;rw[if_pos rfl]
def bQ(h:b≠a):upd H a o b=H b:=by ext upd;rw[if_neg h]
def k7{H:Hp}(h:H a=b3 o)(h':H b=b4):a≠b:=by intro e;subst e;rw[h]at h';ext h'
section
variable(P:Ť)(w:į)
abbrev Ž(h:í)(a:Addr)(xs:Array Value):Prop:=∃o,h.get? a=b3 o/\o.cls=.type "tuple"/\∃n,o.data=.seq xs n/\o.dict=b4
def Ž.tup{h:í}{a:Addr}{xs:Array Value}(x:Ž h a xs):J4 h a xs:=let⟨o,e,c,n,d,_⟩:=x;⟨o,e,c,n,d⟩
def Ž.new(h:í)items:Ž (h.push {cls:=.type "tuple",data:=.seq items}) h.objs.size items:=⟨_,ć _ rfl,rfl,_,rfl,rfl⟩
abbrev Þ(H:Hp)(h:í)(a:Addr):HO->Prop
 |.lst b=>b.length<=Ñ/\∃(its:gw)(n:Nat),Å b its/\h.get? a=b3 {cls:=.type "list",data:=.seq its.toArray n}|.tup b=>b.length<=Ñ/\∃its:gw,Å b its/\Ž h a its.toArray|.dK kvs=>kvs.length<=Ñ/\(a==ļ)=b5/\∃g,KV kvs g/\h.DictOf (jS P w) a g|.dT kvs=>kvs.length<=Ñ/\(a==ļ)=b5/\∃b:List (List bM×Addr×Value),
   Τ (λ(p:List bM×V)(q:List bM×Addr×Value)=>p.1=q.1/\H q.2.1=b3 (.tup<|p.1.map kV)/\Ì p.2 q.2.2) kvs b /\
   ∃o d i,h.get? a=b3 o/\o.ExactDict/\o.data=.dict d i/\d.toList=b.map (yj<|ϝ<|jS P w)/\(b.map (·.1)).Nodup
 |.set S n=>h.SetOf (Ŵ P w) a S n|.ins C dx fs=>H dx=b3 (.own a)/\fs.length<=1000/\dx≠a/\h.get? a=b3 (R0 C dx) /\
   ∃c,h.Ns1 dx c/\(∀f,ŏ (fs.lookup f) (c f))/\PySem.Within c (fs.map (·.1))
 |.own _=>∃o,h.get? a=b3 o|.xd fs=>∃c,h.Ns1 a c/\∀f,ŏ (fs.lookup f) (c f)|.rng lo hi=>∃t u v,h.get? a=b3 {cls:=.type "range",data:=.fields #[.int lo t,.int hi u,.int 1 v]}|.frz o u=>h.get? a=b3 o/\Þ H h a u|.tbl ps=>h.get? a=b3 {cls:=.none,data:=.fields ps}|.met f x=>h.get? a=b3 (Oo (.ref f)<|.ref x)|.ext φ=>φ h/\(∃o,h.get? a=b3 o)/\∀h1 e:í,φ h1->(∀o,h1.get? a=b3 o->e.get? a=b3 o)->φ e
abbrev Ş(H:Hp)(h:í):Prop:=∀a o,H a=b3 o->Þ P w H h a o
end
def Þ.lt{P:Ť}{w:į}{H:Hp}{h:í}{a:Addr}{o:HO}(x:Þ P w H h a o):a<h.objs.size:=by
 cases o with
 |lst c=>let⟨_,_,_,_,e⟩:=x;show Ý e|tup c=>let⟨_,_,_,p⟩:=x;show p.tup.lt|dK b=>let⟨_,_,_,_,o,_,_,e,_⟩:=x;show Ý e|dT b=>let⟨_,_,_,_,o,_,_,e,_⟩:=x;show Ý e|set S n=>let⟨o,_,_,_,e,_⟩:=x;show Ý e|ins C d fs=>let⟨_,_,_,e,_⟩:=x;show Ý e|own y=>let⟨_,e⟩:=x;show Ý e|xd fs=>obtain⟨_,⟨_,_,_,e,_⟩,_⟩:=x;show Ý e|rng g hi=>let⟨_,_,_,e⟩:=x;show Ý e|frz ob u=>let⟨e,_⟩:=x;show Ý e|tbl i=>show Ý (show h.get? a=b3 _ from x)|met f y=>show Ý (show h.get? a=b3 _ from x)|ext j=>obtain⟨_,⟨_,e⟩,_⟩:=x;show Ý e
def Τ.mapP{F G:e->g->Prop}:∀{c}{d},Τ F c d->(∀a b,F a b->G a b)->Τ G c d
 |_,_,.nil,_=>.nil|_,_,.cons r t,f=>.cons (f _ _ r)<|Τ.mapP t f
def Þ.stay(x:Þ P w H h a o)(k:∀b u,(b=a\/H b=b3 (.own a))->h.get? b=b3 u->h'.get? b=b3 u)(I:∀b,H b=b3 (.own a)->H' b=b3 (.own a))(J:∀b j,H b=b3 (.tup j)->H' b=b3 (.tup j)):Þ P w H' h' a o:=by
 induction o with
 |lst j=>let⟨z,its,n,r,e⟩:=x;show⟨z,its,n,r,k _ _ (.inl rfl) e⟩|tup j=>let⟨z,its,r,ob,e,c⟩:=x;show⟨z,its,r,ob,k _ _ (.inl rfl) e,c⟩|dK s=>let⟨z,y,L,r,ob,i,g,e,c⟩:=x;show⟨z,y,L,r,ob,i,g,k _ _ (.inl rfl) e,c⟩|dT s=>let⟨z,y,j,r,ob,i,g,e,c⟩:=x;show⟨z,y,j,Τ.mapP r λp q z=>⟨z.1,J _ _ z.2.1,z.2.2⟩,ob,i,g,k _ _ (.inl rfl) e,c⟩|set S n=>let⟨ob,i,g,t,e,c⟩:=x;show⟨ob,i,g,t,k _ _ (.inl rfl) e,c⟩|ins C M fs=>obtain⟨d,z,ne,e,A,⟨B,i,g,G,c⟩,r⟩:=x;show⟨I _ d,z,ne,k _ _ (.inl rfl) e,A,⟨B,i,g,k _ _ (.inr d) G,c⟩,r⟩|own y=>let⟨ob,e⟩:=x;show⟨ob,k _ _ (.inl rfl) e⟩|xd fs=>obtain⟨A,⟨B,i,g,e,c⟩,r⟩:=x;show⟨A,⟨B,i,g,k _ _ (.inl rfl) e,c⟩,r⟩|rng N hi=>let⟨t,u,v,e⟩:=x;show⟨t,u,v,k _ _ (.inl rfl) e⟩|frz ob u K=>let⟨e,q⟩:=x;show⟨k _ _ (.inl rfl) e,K q⟩|tbl E=>have e:h.get? a=b3 {cls:=.none,data:=.fields E}:=x;change h'.get? a=b3 {cls:=.none,data:=.fields E};show k a _ (.inl rfl) e|met f y=>have e:h.get? a=b3 (Oo (.ref f)<|.ref y):=x;change h'.get? a=b3 (Oo (.ref f)<|.ref y);show k a _ (.inl rfl) e|ext O=>obtain⟨p,⟨o,e⟩,st⟩:=x;show⟨st _ _ p λo q=>k _ _ (.inl rfl) q,⟨o,k _ _ (.inl rfl) e⟩,st⟩
def Ş.lt{P:Ť}{w:į}{H:Hp}{h:í}{a:Addr}{o:HO}(x:Ş P w H h)(e:H a=b3 o):a<h.objs.size:=(x a o e).lt
def Ş.fresh{a:Addr}(x:Ş P w H h)(e:h.objs.size<=a):H a=none:=by
 cases q:H a with
 |none=>rfl|some u=>show absurd (ĸ (x.lt q) e)<|ε _
def Ş.kept(x:Ş P w H h)(k:∀b u,h.get? b=b3 u->h'.get? b=b3 u):Ş P w H h':=λa o e=>(x a o e).stay (λb u y q=>k b u q) (λ_ q=>q) λ_ y q=>q
def Ş.laid{a:Addr}(x:Ş P w H h)(k:∀b u,h.get? b=b3 u->h'.get? b=b3 u)(i:h.objs.size<=a)(new:Þ P w (upd H a o) h' a o):Ş P w (upd H a o) h':=λb u e=>by
 let g:=x.fresh i;by_cases d:b=a
 .subst d;rw[dW]at e;ext e;show new
 .rw[bQ d]at e;show(x b u e).stay (λc v y q=>k c v q) (λc q=>by rw[bQ<|k7 q g];show q) λc j q=>by rw[bQ<|k7 q g];show q
abbrev Rd(H:Hp)(a:Addr)(u:HO):Prop:=H a=b3 u\/∃o,H a=b3 (.frz o u)
def Rd.of(h:H a=b3 u):Rd H a u:=.inl h
def Rd.ok(r:Rd H a u)(x:Ş P w H h):Þ P w H h a u:=by
 rcases r with r|⟨o,r⟩
 .show x a u r
 .let⟨_,q⟩:=x a _ r;show q
abbrev uZ:Option HO->Prop
 |some (.lst _)=>True|some (.dK _)=>True|some (.dT _)=>True|some (.set _ _)=>True|some (.ins _ _ _)=>True|some (.ext _)=>True|_=>False
def Ş.write(ok:Ş P w H h)(j:uZ (H x))(p:e=x\/H e=b3 (.own x))(k:∀b u,b≠e->h.get? b=b3 u->h'.get? b=b3 u)(o:∃u,h'.get? e=b3 u)(new:Þ P w (upd H x o') h' x o'):Ş P w (upd H x o') h':=λb u q=>by
 let d:∀c y,H c=b3 (.own y)->c≠x:=λc y r z=>by subst z;rw[r]at j;show j
 let g:∀c n,H c=b3 (.tup n)->c≠x:=λc n r z=>by subst z;rw[r]at j;show j
 by_cases i:b=x
 .subst i;rw[dW]at q;ext q;show new
 .rw[bQ i]at q;by_cases a:b=e
  .let s:H b=b3 (.own x):=by
    rcases p with z|z
    .show absurd (a.trans z) i
    .rw[a];show z
   rw[q]at s;ext s;let⟨v,A⟩:=o;show⟨v,by rw[a];show A⟩
  .show(ok b u q).stay (λc v hc r=>k c v ?_ r) (λc r=>by rw[bQ<|d c b r];show r) λc n r=>by rw[bQ<|g c n r];show r
   rcases hc with rfl|hc
   .show a
   .rintro rfl;rcases p with z|z
    .show d c b hc z
    .rw[hc]at z;ext z;show i rfl
structure Un(fs ex:List Addr)(H H':Hp)(h h':í):Prop where
 keep:∀b o,h.get? b=b3 o->H b=b4->b∉fs->b∉ex->h'.get? b=b3 o
 slot:∀b o,h.get? b=b3 o->H b=b4->b∈fs->b∉ex->∃sl,h'.get? b=b3 {o with slots:=sl}
 free:∀b o,h.get? b=b3 o->H b=b4->b∉ex->H' b=b4
 there:∀b o,h.get? b=b3 o->b∉ex->∃o',h'.get? b=b3 o'
 tups:∀b xs,H b=b3 (.tup xs)->H' b=b3 (.tup xs)
 frzs:∀b o u,H b=b3 (.frz o u)->H' b=b3 (.frz o u)
 tbls:∀b ps,H b=b3 (.tbl ps)->∃more,H' b=b3 (.tbl<|ps++more)
def Un.any(u:Un fs ex H H1 h h1)(q:h.get? b=b3 ob)(n:H b=b4)(d:b∉ex):∃g,h1.get? b=b3 {ob with slots:=g}:=by
 by_cases c:b∈fs
 .show u.slot b ob q n c d
 .show⟨ob.slots,u.keep b ob q n c d⟩
def Un.kept(k:∀b u,h.get? b=b3 u->h'.get? b=b3 u):Un fs ex H H h h':=
 ⟨λb ob q x x x=>k b ob q,λb ob q x x x=>⟨ob.slots,k b ob q⟩,λ_ x x n x=>n,λb ob q x=>⟨ob,k b ob q⟩,λ_ x q=>q,λ_ x x q=>q,λ_ c q=>⟨#[],by rw[q];simp⟩⟩
def Un.refl:Un fs ex H H h h:=Un.kept λ_ x q=>q
def Un.laid{h:í}{a:Addr}(k:∀b u,h.get? b=b3 u->h'.get? b=b3 u)(d:h.objs.size<=a)(c:H a=b4):Un fs ex H (upd H a o) h h' where
 keep:=λb u q x x x=>k b u q
 slot:=λb u q x x x=>⟨u.slots,k b u q⟩
 free:=λb u q n x=>by rw[bQ<|û<|ĸ (Ý q) d];show n
 there:=λb u q x=>⟨u,k b u q⟩
 tups:=λb g q=>by rw[bQ<|k7 q c];show q
 frzs:=λb u g q=>by rw[bQ<|k7 q c];show q
 tbls:=λb i q=>⟨#[],by rw[bQ<|k7 q c,q];simp⟩
def Un.write(d:uZ (H x))(s:e=x\/H e=b3 (.own x))(k:∀b u,b≠e->h.get? b=b3 u->h'.get? b=b3 u)(g:∃u,h'.get? e=b3 u):Un fs ex H (upd H x o) h h':=by
 let p:∀b,H b=b4->b≠x:=λb n z=>by subst z;rw[n]at d;show d
 let j:∀b,H b=b4->b≠e:=λb n z=>by
  subst z;rcases s with r|r
  .show p b n r
  .rw[n]at r;ext r
 let i:∀b u,H b=b3 u->¬ uZ (b3 u)->b≠x:=λb u q v z=>by subst z;rw[q]at d;show v d
 show⟨λb u q n a a=>k b u (j b n) q,λb u q n a a=>⟨u.slots,k b u (j b n) q⟩,λb u q n a=>by rw[bQ<|p b n];show n,λb u q a=>?_,
  λb w q=>by rw[bQ<|i b _ q λz=>z];show q,λb u w q=>by rw[bQ<|i b _ q λz=>z];show q,λb y q=>⟨#[],by rw[bQ<|i b _ q λz=>z,q];simp⟩⟩
 by_cases c:b=e
 .subst c;show g
 .show⟨u,k b u c q⟩
abbrev xK(h:í)(H:Hp):List Addr:=(Ā h.objs.size).filter λa=>(H a).isSome
abbrev oM(h:í)(H:Hp):í:=PySem.W.hideAll h<|xK h H
def b1S h H:(oM h H).objs.size=h.objs.size:=PySem.W.hideAll_size _ _
def b1D(e:h.get? b=b3 o)(n:H b=b4):(oM h H).get? b=b3 o:=
 PySem.W.hideAll_get _ e λa=>by let q:(H b).isSome=true:=(ģ.mp a).2;rw[n]at q;simp at q
def b0y(e:(oM h H).get? b=b3 o):h.get? b=b3 o/\H b=none:=by
 let a:h.get? b=b3 o:=PySem.W.of_hideAll (xK h H) e;show⟨a,?_⟩;cases q:H b with
 |none=>rfl|some x=>have c:b∈xK h H:=ģ.mpr ⟨ň.mpr<|Ý a,by simp[q]⟩;let z:(oM h H).get? b=none:=PySem.W.hideAll_none (xK h H) c;rw[z]at e;ext e
abbrev b0l(g h:í)(L:Addr):jw:=(Ā h.objs.size).filterMap λa=>if a=L\/(g.get? a).isSome=dI then b4 else(h.get? a).map λo=>(a,o)
abbrev cH(g h:í)(L d:Addr):jw:=(b0l g h L).filter λp=>decide<|p.1≠d
structure Mod(K:Õ)(mg:Str->Option Value)(base:í):Prop where
 kin:K.In base
 glob:base.Ns Ų mg
 blt:∃mb,base.Ns O0 mb/\∀x:Str,x ≠ "__name__"->mb x=Ψ x
 nolimit:base.NoLimit
structure Cx where
 prog:Ť
 w:į
 K:Õ
 mg:Str->Option Value
 base:í
 A:ť
 N:List Str
 s₀:Ù
 H₀:Hp
 env:ξ
 outer:List ξ
 stack:List ξ
 ex:List Addr
 fn:Str->Bool
 calm:Bool
 pn:jw
 xe:Value->Ù->Prop
abbrev k8(l:List ξ):List Addr:=l.filterMap (·.frame)
noncomputable abbrev Cx.fs(X:Cx):List Addr:=k8 X.outer
abbrev q8(sc:Ω)(x:Str):Prop:=sc.names.lookup x=b3 .local\/sc.names.lookup x=b3 .cell\/sc.names.lookup x=b3 .free
abbrev Loc(sc:Ω)(x:Str):Prop:=sc.names.lookup x=b3 .local\/sc.names.lookup x=b3 .cell
abbrev b0I(env:ξ)(h:í)(m:Str->Option Value)(x:Str)(u:Value):Prop:=
 (env.kindOf x=b3 .local/\m x=b3 u)\/((env.kindOf x=b3 .cell\/env.kindOf x=b3 .free)/\∃c,env.cells.lookup x=b3 c/\h.IsCell c (b3 u))
structure Cx.Ok(X:Cx):Prop where
 mod:Mod X.K X.mg X.base
 kind:X.env.scope.kind=.function
 glob:X.env.globals=Ų
 blt:X.env.builtins=O0
 above:X.s₀.heap.objs.size<=X.env.locals
 inj:∀x y c,X.env.cells.lookup x=b3 c->X.env.cells.lookup y=b3 c->x=y
 has:∀x,(X.env.kindOf x=b3 .cell\/X.env.kindOf x=b3 .free)->∃c,X.env.cells.lookup x=b3 c
 cab:∀x c,X.fn x=dI->X.env.cells.lookup x=b3 c->X.s₀.heap.objs.size<=c
 hd:X.calm=dI->X.A.handled=b4
 frames:X.A.frames=b3 X.stack
 stk:X.stack=X.outer\/(X.stack=X.env::X.outer/\X.env.frame=b3 X.env.locals)
 exf:∀b∈X.ex,b≠X.env.locals/\∀x c,X.env.cells.lookup x=b3 c->c≠b
 bs:∀b o,X.base.get? b=b3 o->X.s₀.heap.get? b=b3 o/\X.H₀ b=b4
 bsz:X.base.objs.size<=X.s₀.heap.objs.size
 noex:∀b o,X.base.get? b=b3 o->b∉X.ex
 exfs:∀b∈X.ex,b∉X.fs
 funs:X.s₀.heap.FunFrames X.base X.outer
 frf:∀b∈X.fs,X.H₀ b=b4
structure Â(X:Cx)(Do:jw)(σ:List (Option V))(H:Hp)(s:Ù):Prop where
 ok:X.Ok
 os:s.os=X.s₀.os
 bare:fc s.gens
 base:Un X.fs X.ex X.H₀ H X.s₀.heap s.heap
 loc:∃m,s.heap.Ns X.env.locals m/\∀(i:Nat)(x:Str)(v:V),X.N[i]?=b3 x->σ[i]?=b3 (b3 v)->q8 X.env.scope x->∃u,Ì v u/\b0I X.env s.heap m x u
 cell:∀x c,X.env.cells.lookup x=b3 c->∃v,s.heap.IsCell c v
 free:H X.env.locals=b4
 freeC:∀x c,X.env.cells.lookup x=b3 c->H c=b4
 pin:∀p∈X.pn++Do,s.heap.get? p.1=b3 p.2/\H p.1=b4/\p.1≠X.env.locals/\p.1∉X.fs/\∀v,p.2.data≠.cell v
 hok:Ş X.prog X.w H s.heap
 len:σ.length=X.N.length
def Cx.Ok.nofr{X:Cx}(ok:X.Ok)(e:X.base.get? b=b3 o):b∉X.fs:=λa=>by have:=(ok.funs.mem a).1;rw[e]at this;ext this
def Â.bs(I:Â X Do σ H s):∀b o,X.base.get? b=b3 o->s.heap.get? b=b3 o/\H b=none:=λb o e=>⟨I.base.keep b o (I.ok.bs b o e).1 (I.ok.bs b o e).2 (I.ok.nofr e)<|I.ok.noex b o e,I.base.free b o (I.ok.bs b o e).1 (I.ok.bs b o e).2<|I.ok.noex b o e⟩
def Â.bk(I:Â X Do σ H s):∀b o,X.base.get? b=b3 o->s.heap.get? b=b3 o:=λb o e=>(I.bs b o e).1
def Â.mod(I:Â X Do σ H s):Mod X.K X.mg X.base:=I.ok.mod
def Â.kIn(I:Â X Do σ H s):X.K.In s.heap:=I.ok.mod.kin.keeps I.bk
def Â.lt{X:Cx}{Do:jw}{σ:List (Option V)}{H:Hp}{s:Ù}(I:Â X Do σ H s):X.env.locals<s.heap.objs.size:=let⟨_,a,_⟩:=I.loc;a.lt
def Â.sz(I:Â X Do σ H s):X.s₀.heap.objs.size<=s.heap.objs.size:=Ğ I.ok.above<|Rr I.lt
def Â.nofs(I:Â X Do σ H s){a:Addr}(h:s.heap.objs.size<=a):a∉X.fs:=λb=>by let⟨_,o,c,_⟩:=I.ok.funs.mem b;show absurd (ĸ (Ý c)<|Ğ I.sz h)<|ε _
def Â.cne(I:Â X Do σ H s):∀x c,X.env.cells.lookup x=b3 c->c≠X.env.locals:=λx c e z=>by let⟨v,o,d,hd⟩:=I.cell x c e;obtain⟨m,⟨i,h,g,b,a,_⟩,_⟩:=I.loc;rw[z,b]at d;ext d;rw[a]at hd;ext hd
def Â.funs(I:Â X Do σ H s):s.heap.FunFrames X.base X.outer:=by
 let all:∀(l:List ξ),(∀b∈k8 l,b∈X.fs)->X.s₀.heap.FunFrames X.base l->s.heap.FunFrames X.base l:=by
  intro l;induction l with
  |nil=>intro _ _;trivial|cons h r q=>intro g j;obtain⟨i,⟨L,o,d,k,n,hd⟩,p⟩:=j;let a:L∈X.fs:=g L (by ext k8;rw[aa,d];show š);let⟨u,e⟩:=I.base.slot L o n (I.ok.frf L a) a λz=>I.ok.exfs L z a;show⟨i,⟨L,_,d,k,e,hd⟩,q (λb c=>g b<|by ext k8;rw[aa,d];show Ō _ c) p⟩
 show all X.outer (λ_ c=>c) I.ok.funs
def Â.stack(I:Â X Do σ H s):s.heap.FunFrames X.base X.stack:=by
 rcases I.ok.stk with e|⟨e,a⟩
 .rw[e];show I.funs
 .rw[e];let⟨m,b,_⟩:=I.loc;show .cons (by rw[I.ok.kind];decide) a b ?_ I.funs;show Heap.get?_none_of_le<|Ğ I.ok.bsz I.ok.above
def Â.stkSub(I:Â X Do σ H s):∀b∈k8 X.stack,b∈X.env.locals::X.fs:=λb a=>by
 rcases I.ok.stk with e|⟨e,c⟩
 .rw[e]at a;show Ō _ a
 .rw[e]at a;unfold k8 at a;rw[aa,c]at a;show a
def Â.stkFree(I:Â X Do σ H s):∀b∈k8 X.stack,H b=none:=λb a=>by
 rcases ĉ.mp (I.stkSub b a)with e|a
 .rw[e];show I.free
 .let⟨_,o,c,_⟩:=I.ok.funs.mem a;show I.base.free b o c (I.ok.frf b a) λz=>I.ok.exfs b z a
def Â.step{ch:List Addr}(I:Â X Do σ H s)(h:∀b∈ch,(b∈X.ex\/X.s₀.heap.objs.size<=b)/\b≠X.env.locals/\(∀x c,X.env.cells.lookup x=b3 c->c≠b)/\∀p∈X.pn++Do,p.1≠b)(j:∀b o,b≠X.env.locals->b∉X.fs->b∉ch->s.heap.get? b=b3 o->H b=b4->h'.get? b=b3 o)(B:∀b o,b≠X.env.locals->b∈X.fs->b∉ch->s.heap.get? b=b3 o->H b=b4->∃Y,h'.get? b=b3 {o with slots:=Y})(free:∀b o,b∉ch->s.heap.get? b=b3 o->H b=b4->H' b=b4)(J:∀b o,b∉ch->s.heap.get? b=b3 o->∃O,h'.get? b=b3 O)(R:∀b E,H b=b3 (.tup E)->H' b=b3 (.tup E))(M:∀b o u,H b=b3 (.frz o u)->H' b=b3 (.frz o u))(Q:∀b T,H b=b3 (.tbl T)->∃more,H' b=b3 (.tbl<|T++more))(ns:∀m,s.heap.Ns X.env.locals m->h'.Ns X.env.locals m)(U:Ş X.prog X.w H' h')(hg:fc g'):
  Â X Do σ H' {s with heap:=h',gens:=g',drawn:=d',toks:=t'}:=by
 let N:∀b o,X.s₀.heap.get? b=b3 o->b≠X.env.locals:=λb o e=>û<|ĸ (Ý e) I.ok.above;let A:∀b o,X.s₀.heap.get? b=b3 o->b∉X.ex->b∉ch:=λb o e a G=>by
  rcases(h b G).1 with z|z
  .show a z
  .show absurd (ĸ (Ý e) z)<|ε _
 let g:∀x c,X.env.cells.lookup x=b3 c->∀v,s.heap.IsCell c v->h'.IsCell c v:=λx c e v ⟨o,K,hd⟩=>by
  let w:c∉ch:=λz=>(h c z).2.2.1 x c e rfl;by_cases hc:c∈X.fs
  .let⟨Y,q⟩:=B c o (I.cne x c e) hc w K<|I.freeC x c e;show⟨_,q,hd⟩
  .show⟨o,j c o (I.cne x c e) hc w K<|I.freeC x c e,hd⟩
 show⟨I.ok,I.os,hg,⟨λb o e n G a=>?_,λb o e n G a=>?_,λb o e n a=>?_,λb o e a=>?_,λb E e=>R b E<|I.base.tups b E e,λb o E e=>M b o E<|I.base.frzs b o E e,λb T e=>?_⟩,?_,λx c e=>?_,?_,λx c e=>?_,λp hp=>?_,U,I.len⟩
 .show j b o (N b o e) G (A b o e a) (I.base.keep b o e n G a)<|I.base.free b o e n a
 .let⟨Y,y⟩:=I.base.slot b o e n G a;let⟨Z,L⟩:=B b _ (N b o e) G (A b o e a) y<|I.base.free b o e n a;show⟨Z,L⟩
 .let⟨O,y⟩:=I.base.there b o e a;show free b O (A b o e a) y<|I.base.free b o e n a
 .let⟨O,y⟩:=I.base.there b o e a;show J b O (A b o e a) y
 .let⟨m1,y⟩:=I.base.tbls b T e;let⟨m2,L⟩:=Q b _ y;show⟨m1++m2,by rw[L,Array.append_assoc]⟩
 .let⟨m,hn,hl⟩:=I.loc;show⟨m,ns m hn,λi x v y L e3=>?_⟩;let⟨u,r,l⟩:=hl i x v y L e3;show⟨u,r,?_⟩;rcases l with l|⟨k,c,e,z⟩
  .show .inl l
  .show .inr ⟨k,c,e,g x c e _ z⟩
 .let⟨v,z⟩:=I.cell x c e;show⟨v,g x c e v z⟩
 .obtain⟨m,⟨o,_,_,K,_⟩,_⟩:=I.loc;show free _ o (λz=>(h _ z).2.1 rfl) K I.free
 .let⟨v,o,K,hd⟩:=I.cell x c e;show free c o (λz=>(h c z).2.2.1 x c e rfl) K<|I.freeC x c e
 .let⟨e,n,ne,nf,d⟩:=I.pin p hp;let w:p.1∉ch:=λz=>(h p.1 z).2.2.2 p hp rfl;show⟨j p.1 p.2 ne nf w e n,free p.1 p.2 w e n,ne,nf,d⟩
def Â.un(I:Â X Do σ H s)(u:Un X.fs [] H H' s.heap h')(h:Ş X.prog X.w H' h'):Â X Do σ H' {s with heap:=h',toks:=t'}:=by
 obtain⟨m,⟨o,v,q,i,r⟩,_⟩:=id I.loc;let⟨y,j⟩:=u.any i I.free ∅;show I.step (g':=s.gens) (d':=s.drawn) (ch:=[]) (λ_ z=>nomatch z) (λb o f g f e n=>u.keep b o e n g ∅) (λb o f g f e n=>u.slot b o e n g ∅) (λb o f e n=>u.free b o e n ∅) (λb o f e=>u.there b o e ∅) u.tups u.frzs u.tbls (λw k=>by
  let⟨x,d,c,a,p⟩:=k;rw[i]at a;ext a;show⟨_,d,c,j,p⟩) h I.bare
def Â.call(I:Â X Do σ H s)(u:Un (k8 X.stack) ch H H' s.heap h')(j:Ş X.prog X.w H' h')(v:fc g')(a:∀b∈ch,(b∈X.ex\/X.s₀.heap.objs.size<=b)/\b≠X.env.locals/\(∀x c,X.env.cells.lookup x=b3 c->c≠b)/\∀p∈X.pn++Do,p.1≠b):
  Â X Do σ H' {s with heap:=h',gens:=g',drawn:=d',toks:=t'}:=by
 obtain⟨m,⟨o,B,A,k,r⟩,_⟩:=id I.loc;let⟨J,i⟩:=u.any k I.free λz=>(a _ z).2.1 rfl;show I.step (ch:=ch) a (λb o i q hc e n=>u.keep b o e n (λz=>(ĉ.mp<|I.stkSub b z).elim i q) hc) (λb o f f hc e n=>u.any e n hc) (λb o hc e n=>u.free b o e n hc) (λb o hc e=>u.there b o e hc) u.tups u.frzs u.tbls (λE w=>by
  let⟨G,h,g,d,y⟩:=w;rw[k]at d;ext d;show⟨_,h,g,i,y⟩) j v
def Â.turned(I:Â X Do σ H s)(k:∀b o,b≠a->s.heap.get? b=b3 o->h'.get? b=b3 o)(B:H a=b4)(g:a≠X.env.locals)(h1:a∈X.ex\/X.s₀.heap.objs.size<=a)(j:∀x c,X.env.cells.lookup x=b3 c->c≠a)(w:∀p∈X.pn++Do,p.1≠a):Â X Do σ H {s with heap:=h',toks:=t'}:=by
 let d:∀b u,H b=b3 u->b≠a:=λb u e z=>by rw[z,B]at e;ext e
 show I.step (g':=s.gens) (d':=s.drawn) (ch:=[a]) (λb y=>?_) (λb o f f hc e f=>k b o (λz=>hc<|by simp[z]) e) (λb o f f hc e f=>⟨o.slots,k b o (λz=>hc<|by simp[z]) e⟩) (λ_ f f f n=>n)
  (λb o hc e=>⟨o,k b o (λz=>hc<|by simp[z]) e⟩) (λ_ f e=>e) (λ_ f f e=>e) (λb G e=>⟨#[],by rw[e];simp⟩) (λm A=>?_) (λb u e=>?_) I.bare
 .let e:b=a:=by apply y
  subst e;show⟨h1,g,j,w⟩
 .let⟨o,i,h,E,r⟩:=A;show⟨o,i,h,k _ o (î g) E,r⟩
 .show(I.hok b u e).stay (λc v hc q=>k c v ?_ q) (λ_ q=>q) λ_ f q=>q;rcases hc with z|z
  .rw[z];show d b u e
  .show d c _ z
def Â.tok(I:Â X Do σ H s)t:Â X Do σ H {s with toks:=t}:=I.un (h':=s.heap) (t':=t) Un.refl I.hok
def Â.kept(I:Â X Do σ H s)(k:∀b u,s.heap.get? b=b3 u->h'.get? b=b3 u):Â X Do σ H {s with heap:=h',toks:=t'}:=I.un (Un.kept k)<|I.hok.kept k
def Â.laid{a:Addr}(I:Â X Do σ H s)(k:∀b u,s.heap.get? b=b3 u->h'.get? b=b3 u)(c:s.heap.objs.size<=a)(new:Þ X.prog X.w (upd H a o) h' a o):
  Â X Do σ (upd H a o) {s with heap:=h',toks:=t'}:=I.un (Un.laid k c<|I.hok.fresh c)<|I.hok.laid k c new
def Â.write(I:Â X Do σ H s)(d:uZ (H x))(c:e=x\/H e=b3 (.own x))(k:∀b u,b≠e->s.heap.get? b=b3 u->h'.get? b=b3 u)(a:∃u,h'.get? e=b3 u)(new:Þ X.prog X.w (upd H x o) h' x o):Â X Do σ (upd H x o) {s with heap:=h',toks:=t'}:=I.un (Un.write d c k a)<|I.hok.write d c k a new
def Â.pins_of(I:Â X Do σ H s)(h:∀p∈a,s.heap.get? p.1=b3 p.2/\H p.1=b4/\p.1≠X.env.locals/\p.1∉X.fs/\∀v,p.2.data≠.cell v):Â X a σ H s:=
 ⟨I.ok,I.os,I.bare,I.base,I.loc,I.cell,I.free,I.freeC,λp b=>(Ħ.mp b).elim (λz=>I.pin p<|Ri _ z)<|h p,I.hok,I.len⟩
def EG{N:List Str}(e:N.Nodup){i:Nat}(a:N[i]?=b3 x)(b:N[j]?=b3 x):i=j:=by let⟨h1,c⟩:=â.mp a;let⟨g,d⟩:=â.mp b;show(N8 e).mp<|c.trans d.symm
def EH(I:Â X Do σ H s)(hN:X.N.Nodup)(hi:X.N[i]?=b3 x)(G:Loc X.env.scope x)(r:Ì v u)(h:∀s',Â X Do (σ.set i<|b3 v) H s'->(∃a,Κ a s.heap s'.heap/\(a=X.env.locals\/X.env.cells.lookup x=b3 a))->Q Unit.unit s')(hf:X.fn x=dI\/X.env.scope.names.lookup x=b3 .local:=by first|show .inl rfl|show .inr rfl|assumption):È M A (storeName X.env x u) Q E s:=by
 let⟨m,hn,hl⟩:=id I.loc;let Z:(X.env.scope.kind==.class||(X.env.scope.kind==.module&&X.env.locals != X.env.globals))=false:=by rw[I.ok.kind];rfl
 let L:i<σ.length:=by rw[I.len];show(â.mp hi).1
 let cne:=I.cne;let B:∀{a:Addr}{h':í},(∃o,s.heap.get? a=b3 o/\H a=b4)->Κ a s.heap h'->Ş X.prog X.w H h':=λ{a h'} ha g b ob e=>by
  let⟨_,_,J⟩:=ha;show(I.hok b ob e).stay (λc w' hc q=>(g.2 c ?_).trans q) (λ_ q=>q) λ_ f q=>q;rintro rfl;rcases hc with rfl|hc
  .rw[J]at e;ext e
  .rw[J]at hc;ext hc
 rcases G with N|N
 .show wpAny_storeName_local N hn (λh' hn' g=>?_) Z;let⟨oL,_,_,hoL,_⟩:=id hn;show h _ ⟨I.ok,I.os,I.bare,⟨λb o e n O G=>?_,λb o e n O G=>?_,I.base.free,λb o e G=>?_,I.base.tups,I.base.frzs,I.base.tbls⟩,⟨_,hn',λj y v' w K e3=>?_⟩,λy c e=>?_,I.free,I.freeC,λp hp=>?_,B ⟨oL,hoL,I.free⟩ g,by apply I.len⟩ ⟨_,g,.inl rfl⟩
  .show(g.2 b<|û<|ĸ (Ý e) I.ok.above).trans<|I.base.keep b o e n O G
  .let⟨sl,w⟩:=I.base.slot b o e n O G;show⟨sl,(g.2 b<|û<|ĸ (Ý e) I.ok.above).trans w⟩
  .let⟨o',w⟩:=I.base.there b o e G;show⟨o',(g.2 b<|û<|ĸ (Ý e) I.ok.above).trans w⟩
  .by_cases T:j=i
   .subst T;rw[hi]at w;ext w;rw[Ϥ L]at K;ext K;show⟨u,r,.inl ⟨N,∅⟩⟩
   .rw[ñ<|î T]at K;let⟨u',r',q⟩:=hl j y v' w K e3;show⟨u',r',?_⟩;rcases q with⟨k,e⟩|⟨k,c,e,z⟩
    .show .inl ⟨k,?_⟩;have:y≠x:=λe=>T<|EG hN w<|e▸hi;simp[this,e]
    .show .inr ⟨k,c,e,z.sameBut g<|cne y c e⟩
  .let⟨w',z⟩:=I.cell y c e;show⟨w',z.sameBut g<|cne y c e⟩
  .let⟨e,n,ne,nf,d⟩:=I.pin p hp;show⟨(g.2 p.1 ne).trans e,n,ne,nf,d⟩
 .let R:X.fn x=true:=by
   rcases hf with z|z
   .show z
   .rw[z]at N;ext N
  let⟨c,hc⟩:=I.ok.has x<|.inl N;let⟨w',z⟩:=I.cell x c hc;show wpAny_storeName_cell I.ok.kind N hc z λh' U g=>?_;let⟨oc,hoc,hocd⟩:=id z;show h {s with heap:=h'} ⟨I.ok,I.os,I.bare,⟨λb o e n O G=>?_,λb o e n O G=>?_,I.base.free,λb o e G=>?_,I.base.tups,I.base.frzs,I.base.tbls⟩,⟨m,hn.sameBut g<|î<|cne x c hc,λj y v' w K e3=>?_⟩,λy c' e=>?_,I.free,I.freeC,λp hp=>?_,B ⟨oc,hoc,I.freeC x c hc⟩ g,by apply I.len⟩ ⟨c,g,.inr hc⟩
  .show(g.2 b<|û<|ĸ (Ý e)<|I.ok.cab x c R hc).trans<|I.base.keep b o e n O G
  .let⟨sl,w⟩:=I.base.slot b o e n O G;show⟨sl,(g.2 b<|û<|ĸ (Ý e)<|I.ok.cab x c R hc).trans w⟩
  .let⟨o',w⟩:=I.base.there b o e G;show⟨o',(g.2 b<|û<|ĸ (Ý e)<|I.ok.cab x c R hc).trans w⟩
  .by_cases T:j=i
   .subst T;rw[hi]at w;ext w;rw[Ϥ L]at K;ext K;show⟨u,r,.inr ⟨.inl N,c,hc,U⟩⟩
   .rw[ñ<|î T]at K;let⟨u',r',q⟩:=hl j y v' w K e3;show⟨u',r',?_⟩;rcases q with q|⟨k,c',e,z'⟩
    .show .inl q
    .show .inr ⟨k,c',e,z'.sameBut g ?_⟩;rintro rfl;show T<|EG hN w<|I.ok.inj _ _ _ e hc▸hi
  .by_cases Y:c'=c
   .subst Y;show⟨_,U⟩
   .let⟨w2,z2⟩:=I.cell y c' e;show⟨w2,z2.sameBut g Y⟩
  .let⟨e,n,ne,nf,d⟩:=I.pin p hp;show⟨(g.2 p.1 ?_).trans e,n,ne,nf,d⟩;intro q;rw[q,hoc]at e;let q':oc=p.2:=ē e;show d w'<|by rw[<- q'];show hocd
def EI(I:Â X Do σ H s)(c:X.N.Nodup)(hi:X.N[i]?=b3 x)(e:Loc X.env.scope x)(r:Ì v u)(h:∀a,Â X Do (σ.set i<|b3 v) H a->Q Unit.unit a)(d:X.fn x=dI\/X.env.scope.names.lookup x=b3 .local:=by first|show .inl rfl|show .inr rfl|assumption):È M A (storeName X.env x u) Q E s:=
 EH I c hi e r (λa b y=>h a b) d
noncomputable abbrev XK:=Value->Option Addr->Hp->Prop
noncomputable abbrev St:=List<|Option V
noncomputable abbrev VK:=V->Hp->Prop
noncomputable abbrev TE:=St->Hp->VK->Prop
noncomputable abbrev TT:=St->Hp->(Bool->Hp->Prop)->Prop
noncomputable abbrev TA:=St->Hp->(List V->Hp->Prop)->Prop
structure Ϙ where
 nx:St->Hp->Prop
 rt:VK
 bk:St->Hp->Prop:=λ_ x=>False
 ct:St->Hp->Prop:=λ_ x=>False
noncomputable abbrev TS:=Ϙ->St->Hp->Prop
inductive EP (X:Cx)(Do:jw)(σ:St)(Q:VK)(u:Value)(s':Ù):Prop
 |mk (v:V)(H':Hp)(I:Â X Do σ H' s')(r:Ì v u)(q:Q v H'):EP X Do σ Q u s'
inductive TP (X:Cx)(Do:jw)(σ:St)(Q:Bool->Hp->Prop)(b:Bool)(s':Ù):Prop
 |mk (H':Hp)(I:Â X Do σ H' s')(q:Q b H'):TP X Do σ Q b s'
inductive AP (X:Cx)(Do:jw)(σ:St)(Q:gz->Hp->Prop)(us:gw)(s':Ù):Prop
 |mk (vs:gz)(H':Hp)(I:Â X Do σ H' s')(r:Å vs us)(q:Q vs H'):AP X Do σ Q us s'
inductive vq (X:Cx)(Do:jw)(Q:St->Hp->Prop)(s':Ù):Prop
 |mk (σ':St)(H':Hp)(I:Â X Do σ' H' s')(q:Q σ' H'):vq X Do Q s'
inductive T4 (X:Cx)(Do:jw)(Q:VK)(u:Value)(s':Ù):Prop
 |mk (v:V)(σ':St)(H':Hp)(I:Â X Do σ' H' s')(r:Ì v u)(q:Q v H'):T4 X Do Q u s'
abbrev SP(X:Cx)(Do:jw)(D:Ϙ)(f:Flow)(a:Ù):Prop:=
 match f with
 |.next=>vq X Do D.nx a|.brk=>vq X Do D.bk a|.cont=>vq X Do D.ct a|.ret u=>T4 X Do D.rt u a
abbrev PE(X:Cx)(e:Expr)(t:TE):Prop:=
 ∀(Do:jw)(s:Ù)(σ:St)(H:Hp)(Q:VK),Â X Do σ H s->t σ H Q->È (Í X.prog X.w) X.A (eval e X.env) (EP X Do σ Q) X.xe s
abbrev PT(X:Cx)(e:Expr)(t:TT):Prop:=
 ∀(Do:jw)(s:Ù)(σ:St)(H:Hp)(Q:Bool->Hp->Prop),Â X Do σ H s->t σ H Q->È (Í X.prog X.w) X.A (qt e X.env<|eval e X.env) (TP X Do σ Q) X.xe s
abbrev PW(X:Cx)(e:Expr)(t:TT):Prop:=
 ∀(a:J3 Value)(Do:jw)(s:Ù)(σ:St)(H:Hp)(Q:Bool->Hp->Prop),Â X Do σ H s->t σ H Q->È (Í X.prog X.w) X.A (qt e X.env a) (TP X Do σ Q) X.xe s
def PW.pt(h:PW X e t):PT X e t:=h _
abbrev PA(X:Cx)(es:List Expr)(t:TA):Prop:=
 ∀(pos:Į)(Do:jw)(s:Ù)(σ:St)(H:Hp)(Q:gz->Hp->Prop),Â X Do σ H s->t σ H Q->È (Í X.prog X.w) X.A (spliced<|ŕ pos<|ý es X.env) (AP X Do σ Q) X.xe s
abbrev PS(X:Cx)(st:Stmt)(t:TS):Prop:=
 ∀(Do:jw)(s:Ù)(σ:St)(H:Hp)(D:Ϙ),Â X Do σ H s->t D σ H->È (Í X.prog X.w) X.A (exec st X.env) (SP X Do D) X.xe s
abbrev Ŝ(X:Cx)(st:List Stmt)(t:TS):Prop:=
 ∀(Do:jw)(s:Ù)(σ:St)(H:Hp)(D:Ϙ),Â X Do σ H s->t D σ H->È (Í X.prog X.w) X.A (execs st X.env) (SP X Do D) X.xe s
def aW{t:J3 c}{Q b:c->Ù->Prop}(h:È M A t Q E s)(d:∀a s,Q a s->b a s):È M A t b E s:=Ŗ h d λ_ y x=>x
abbrev Bb(i:Nat):TE:=λσ H Q=>∃v,σ[i]?=b3 (b3 v)/\Q v H
abbrev tC(v:V):TE:=λ_ H Q=>Q v H
def EJ(j:X.N[i]?=b3 x)(p:q8 X.env.scope x)(hd:(x==("__debug__":Str))=false:=by decide)(g:(x==("__classdict__":Str))=false:=by decide):PE X (.Name x pos) (Bb i):=by
 intro d s q H Q I h;let⟨v,e,h⟩:=h;let⟨m,o,k⟩:=I.loc;let⟨u,r,l⟩:=k i x v j e p;let fin:EP X d q Q u s:=⟨v,H,I,r,h⟩;rcases l with⟨b,n⟩|⟨b,c,hc,a⟩
 .show O4 (wpAny_loadName_local I.ok.kind b o n fin) hd
 .rcases b with b|b
  .show O4 (wpAny_loadName_cell I.ok.kind b hc a fin) hd
  .show O4 (wpAny_loadName_free I.ok.kind b hc a fin g) hd
def a9q{i j pos}:PE X (.Constant (.int i) j pos) (tC<|.int i):=λ_ x x H x I h=>wpAny_Constant_int ⟨.int i,H,I.tok _,⟨_,rfl⟩,h⟩
def a9n{b j pos}:PE X (.Constant (.bool b) j pos) (tC<|.bl b):=λ_ x x H x I h=>Constant_bool ⟨.bl b,H,I,rfl,h⟩
def a9h{j pos}:PE X (.Constant .none j pos) (tC .non):=λ_ x x H x I h=>Constant_none ⟨.non,H,I,rfl,h⟩
def a9g{x j pos}:PE X (.Constant (.str x) j pos) (tC<|.str x):=λ_ y y H y I h=>Calls.Constant_str ⟨.str x,H,I.tok _,⟨_,rfl⟩,h⟩
abbrev Gl(X:Cx)(x:Str):Prop:=X.env.kindOf x=b3 .globalImplicit
def u5{σ:St}(I:Â X Do σ H s)(a:Gl X x)(b:X.mg x=b3 u)(h:Q u s)(hd:(x==("__debug__":Str))=false:=by decide):È (Í X.prog X.w) X.A (eval (.Name x pos) X.env) Q E s:=
 SG I.ok.kind a (Calls.loadGlobal_global (by rw[I.ok.glob];show I.mod.glob.keeps I.bk) b h) hd
def kG{σ:St}(I:Â X Do σ H s)(b:Gl X x)(c:X.mg x=b4)(e:Ψ x=b3 u)(h:Q u s)(d:x ≠ "__name__":=by decide)(hd:(x==("__debug__":Str))=false:=by decide):È (Í X.prog X.w) X.A (eval (.Name x pos) X.env) Q E s:=by
 let⟨g,h1,a⟩:=I.mod.blt;show SG I.ok.kind b (Calls.loadGlobal_builtin (by rw[I.ok.glob];show I.mod.glob.keeps I.bk) c (by rw[I.ok.blt];show h1.keeps I.bk) ((a x d).trans e) h) hd
def e10(a:Gl X x)(b:X.mg x=b3 u)(r:Ì v u)(hd:(x==("__debug__":Str))=false:=by decide):PE X (.Name x pos) (tC v):=
 λ_ y y H y I h=>u5 I a b ⟨v,H,I,r,h⟩ hd
def b5d(a:Gl X x)(b:X.mg x=b4)(d:Ψ x=b3 u)(r:Ì v u)(c:x ≠ "__name__":=by decide)(hd:(x==("__debug__":Str))=false:=by decide):PE X (.Name x pos) (tC v):=
 λ_ y y H y I h=>kG I a b d ⟨v,H,I,r,h⟩ c hd
abbrev b4d(t u:TT):TT:=λσ H Q=>t σ H λc d=>if c=dI then u σ d Q else Q b5 d
abbrev b3p(t u:TT):TT:=λσ H Q=>t σ H λc d=>if c=dI then Q dI d else u σ d Q
abbrev b3o(t:TT):TT:=λσ H Q=>t σ H λc d=>Q (!c) d
def b3h(g:PT X a tA):PW X (.BoolOp .And [a] pos) tA:=by
 intro k d s i H Q I h;show isTrue_and<|aW (g d s i H Q I h) λc j e=>?_;cases c with
 |true=>show isTrue_and_nil e|false=>show e
def b3e(g:PT X a tA):PW X (.BoolOp .Or [a] pos) tA:=by
 intro k d s i H Q I h;show isTrue_or<|aW (g d s i H Q I h) λc j e=>?_;cases c with
 |false=>show isTrue_or_nil e|true=>show e
def b3V{cH:List Expr}(k:PT X a tA)(n:PW X (.BoolOp .And (b::cH) pos) tB'):PW X (.BoolOp .And (a::b::cH) pos) (b4d tA tB'):=by
 intro p d s j H Q I h;show isTrue_and<|aW (k d s j H _ I h) λc o ⟨e,g,i⟩=>?_;cases c with
 |true=>show n p d o j e Q g i|false=>show⟨e,g,i⟩
def a6V{cH:List Expr}(k:PT X a tA)(n:PW X (.BoolOp .Or (b::cH) pos) tB'):PW X (.BoolOp .Or (a::b::cH) pos) (b3p tA tB'):=by
 intro p d s j H Q I h;show isTrue_or<|aW (k d s j H _ I h) λc o ⟨e,g,i⟩=>?_;cases c with
 |true=>show⟨e,g,i⟩|false=>show n p d o j e Q g i
def a6P(i:PT X a tA):PT X (.UnaryOp .Not a pos) (b3o tA):=by intro d s j H Q I h;show isTrue_not<|aW (i d s j H (λc g=>Q (!c) g) I h) λ_ _ ⟨e,J,q⟩=>⟨e,J,q⟩
abbrev a6I(ta tb:TE):TE:=λσ H Q=>ta σ H λx d=>∃c,x=.bl c/\if c=dI then tb σ d Q else Q (.bl b5) d
abbrev a5Y(ta tb:TE):TE:=λσ H Q=>ta σ H λx d=>∃c,x=.bl c/\if c=dI then Q (.bl dI) d else tb σ d Q
abbrev LwI(ta:TE):TE:=λσ H Q=>ta σ H λx d=>∃c,x=.bl c/\Q (.bl<|!c) d
def z16{op}(h:PE X a t):PE X (.BoolOp op [a] pos) t:=λDo s σ H Q I hw=>BoolOp_one<|h Do s σ H Q I hw
def z10{cH:List Expr}(k:PE X a ta)(n:PE X (.BoolOp .And (b::cH) pos) tb):PE X (.BoolOp .And (a::b::cH) pos) (a6I ta tb):=by
 intro d s j H Q I h;show BoolOp_and<|aW (k d s j H _ I h) λv p ⟨x,g,i,o,e⟩=>?_;let⟨c,rfl,e⟩:=e;ext o;show Ϲ ?_;cases c with
 |true=>show n d p j g Q i e|false=>show⟨.bl b5,g,i,rfl,e⟩
def x13{cH:List Expr}(k:PE X a ta)(n:PE X (.BoolOp .Or (b::cH) pos) tb):PE X (.BoolOp .Or (a::b::cH) pos) (a5Y ta tb):=by
 intro d s j H Q I h;show BoolOp_or<|aW (k d s j H _ I h) λv p ⟨x,g,i,o,e⟩=>?_;let⟨c,rfl,e⟩:=e;ext o;show Ϲ ?_;cases c with
 |false=>show n d p j g Q i e|true=>show⟨.bl dI,g,i,rfl,e⟩
def x12(j:PE X a ta):PE X (.UnaryOp .Not a pos) (LwI ta):=by intro d s n H Q I h;show UnaryOp_<|aW (j d s n H _ I h) λv o ⟨x,g,i,k,e⟩=>?_;let⟨c,rfl,e⟩:=e;ext k;show not_of<|Ϲ ⟨.bl<|!c,g,i,rfl,e⟩
abbrev x11(t:TT)(ta tb:TE):TE:=λσ H Q=>t σ H λc d=>if c=dI then ta σ d Q else tb σ d Q
def i10(hc:PT X c tA)(o:PE X a ta)(p:PE X b tb):PE X (.IfExp c a b pos) (x11 tA ta tb):=by
 intro e s g H Q I h;show wpAny_IfExp<|aW (hc e s g H _ I h) λd n ⟨i,j,k⟩=>?_;cases d with
 |true=>show o e n g i Q j k|false=>show p e n g i Q j k
abbrev Ą(K:Õ)(H:Hp)(a:Addr)(xs:gz):Prop:=
 Rd H a (.lst xs) \/
  ∃(o:Obj)(its:Array Value)(n:Nat),K.lookup a=b3 o/\o.cls=.type "list"/\o.dict=b4/\o.data=.seq its n/\its.size<=Ñ/\Å xs its.toList
abbrev å(K:Õ)(H:Hp)(a:Addr)(xs:gz):Prop:=
 Rd H a (.tup xs) \/
  ∃(o:Obj)(its:Array Value)(n:Nat),K.lookup a=b3 o/\o.cls=.type "tuple"/\o.dict=b4/\o.data=.seq its n/\its.size<=Ñ/\Å xs its.toList
abbrev h15:Value->Option V
 |.none=>b3 .non|.bool b=>b3 (.bl b)|.int i _=>b3 (.int i)|.str x _=>b3 (.str x)|.bytes b _=>b3 (.byt b)|.float b _=>b3 (.flt b)|.ref a=>b3 (.ref a)|.type n=>b3 (.ty n)|_=>b4
def Ì.abs(r:Ì x u):h15 u=b3 x:=by
 cases x with
 |non=>ext r;rfl|bl _=>ext r;rfl|int _=>let⟨t,rfl⟩:=r;rfl|str _=>let⟨t,rfl⟩:=r;rfl|byt _=>let⟨t,rfl⟩:=r;rfl|flt _=>let⟨t,rfl⟩:=r;rfl|ref _=>ext r;rfl|ty _=>ext r;rfl
def Ì.inj(r:Ì x u)(q:Ì y u):x=y:=ē<|r.abs.symm.trans q.abs
def Å.inj:∀{xs a}{us},Å xs us->Å a us->xs=a
 |_,_,_,.nil,.nil=>rfl|_,_,_,.cons r t,.cons r' t'=>by rw[r.inj r',Å.inj t t']
def Ą.of{K:Õ}(h:H a=b3 (.lst xs)):Ą K H a xs:=.inl<|.inl h
def å.of{K:Õ}(h:H a=b3 (.tup xs)):å K H a xs:=.inl<|.inl h
def Â.list{σ:St}(I:Â X Do σ H s)(h:Ą X.K H a xs):∃its,Å xs its/\PlainL s.heap a its.toArray/\xs.length<=Ñ:=by
 rcases h with h|⟨o,its,n,b,hc,hd,c,d,r⟩
 .let⟨z,its,n,r,e⟩:=h.ok I.hok;show⟨its,r,⟨_,n,e,rfl,rfl,rfl⟩,z⟩
 .show⟨its.toList,r,⟨o,n,I.kIn a o b,hc,hd,by apply c⟩,?_⟩;let e:=r.length;dsimp[il]at e;lia
def Â.tuple{σ:St}(I:Â X Do σ H s)(h:å X.K H a xs):∃its,Å xs its/\J4 s.heap a its.toArray/\xs.length<=Ñ:=by
 rcases h with h|⟨o,its,n,b,hc,hd,c,d,r⟩
 .let⟨z,its,r,p⟩:=h.ok I.hok;show⟨its,r,p.tup,z⟩
 .show⟨its.toList,r,⟨o,I.kIn a o b,hc,n,by apply c⟩,?_⟩;let e:=r.length;dsimp[il]at e;lia
def Â.tupN{σ:St}(I:Â X Do σ H s)(h:å X.K H a xs):∃its,Å xs its/\Ž s.heap a its.toArray:=by
 rcases h with h|⟨o,its,n,b,hc,hd,c,d,r⟩
 .let⟨z,its,r,p⟩:=h.ok I.hok;show⟨its,r,p⟩
 .show⟨its.toList,r,o,I.kIn a o b,hc,n,by apply c,hd⟩
def Â.list_inj{σ:St}(I:Â X Do σ H s)(h:Ą X.K H a xs)(h':Ą X.K H a ys):xs=ys:=by
 obtain⟨its,r,⟨o,n,e,_,_,d⟩,_⟩:=I.list h;obtain⟨b,i,⟨k,j,g,_,_,c⟩,_⟩:=I.list h';rw[e]at g;ext g;rw[d]at c;injection c with d1 _;have:its=b:=by apply congrArg Qj d1
 subst this;show r.inj i
def Â.tuple_inj{σ:St}(I:Â X Do σ H s)(h:å X.K H a xs)(h':å X.K H a ys):xs=ys:=by
 obtain⟨its,r,⟨o,e,_,n,d⟩,_⟩:=I.tuple h;obtain⟨b,i,⟨k,g,_,j,c⟩,_⟩:=I.tuple h';rw[e]at g;ext g;rw[d]at c;injection c with d1 _;have:its=b:=by apply congrArg Qj d1
 subst this;show r.inj i
noncomputable abbrev Cx.wish(X:Cx)(E:Value->Ù->Prop):Cx:={X with xe:=E}
noncomputable abbrev Cx.nox(X:Cx):Cx:=X.wish λ_ x=>False
def Cx.Ok.wish{X:Cx}(ok:X.Ok)E:(X.wish E).Ok:=
 ⟨ok.mod,ok.kind,ok.glob,ok.blt,ok.above,ok.inj,ok.has,ok.cab,ok.hd,ok.frames,ok.stk,ok.exf,ok.bs,ok.bsz,ok.noex,ok.exfs,ok.funs,ok.frf⟩
def Cx.Ok.unwish{X:Cx}(ok:(X.wish E).Ok):X.Ok:=
 ⟨ok.mod,ok.kind,ok.glob,ok.blt,ok.above,ok.inj,ok.has,ok.cab,ok.hd,ok.frames,ok.stk,ok.exf,ok.bs,ok.bsz,ok.noex,ok.exfs,ok.funs,ok.frf⟩
def Â.wish{σ:St}(I:Â X Do σ H s)E:Â (X.wish E) Do σ H s:=⟨I.ok.wish E,I.os,I.bare,I.base,I.loc,I.cell,I.free,I.freeC,I.pin,I.hok,I.len⟩
def Â.unwish{σ:St}(I:Â (X.wish E) Do σ H s):Â X Do σ H s:=⟨I.ok.unwish,I.os,I.bare,I.base,I.loc,I.cell,I.free,I.freeC,I.pin,I.hok,I.len⟩
def SP.unwish(h:SP (X.wish E) Do D f c):SP X Do D f c:=by
 cases f with
 |next=>let⟨a,b,I,q⟩:=h;show⟨a,b,I.unwish,q⟩|brk=>let⟨a,b,I,q⟩:=h;show⟨a,b,I.unwish,q⟩|cont=>let⟨a,b,I,q⟩:=h;show⟨a,b,I.unwish,q⟩|ret u=>let⟨v,a,b,I,r,q⟩:=h;show⟨v,a,b,I.unwish,r,q⟩
def Ŝ.nox{st:List Stmt}(h:Ŝ X.nox st t):Ŝ X st t:=λDo s σ H D I hw=>Ŗ (h Do s σ H D (I.wish _) hw) (λ_ x q=>q.unwish) λ_ x z=>υ z
abbrev EK:TS:=λD σ H=>D.nx σ H
abbrev e11(t u:TS):TS:=λD σ H=>t {D with nx:=u D} σ H
def b5l:Ŝ X [] EK:=λ_ x σ H x I h=>NI ⟨σ,H,I,h⟩
def b5i{st:Stmt}{cH:List Stmt}(h1:PS X st t)(g:Ŝ X cH u):Ŝ X (st::cH) (e11 t u):=by
 intro a s j H D I h;show Q4<|aW (h1 a s j H {D with nx:=u D} I h) λf i q=>?_;cases f with
 |next=>let⟨b,c,d,q⟩:=q;show g a i b c D d q|ret v=>show q|brk=>show q|cont=>show q
def b5h{st:Stmt}(h1:PS X st t):Ŝ X [st] t:=by
 intro a s b H D I h;show Q4<|aW (h1 a s b H D I h) λf c q=>?_;cases f with
 |next=>show NI q|ret v=>show q|brk=>show q|cont=>show q
def b5e:PS X (.Pass pos) EK:=λ_ x σ H x I h=>wpAny_Pass ⟨σ,H,I,h⟩
def Â.quiet{σ:St}(I:Â X Do σ H s):interactive X.env=false:=by simp[interactive,I.ok.kind]
abbrev b4k(te:TE):TS:=λD σ H=>te σ H λ_ a=>D.nx σ a
def b4j(g:PE X e te)(i:fu e b4 pos.line X.env=pure false:=by rfl):PS X (.Expr e pos) (b4k te):=by intro a s b H D I h;show wpAny_Expr_any (aW (g a s b H _ I h) λv n ⟨x,c,d,k,j⟩=>⟨b,c,d,j⟩) I.quiet i
abbrev b4i(te:TE):TS:=λD σ H=>te σ H D.rt
def b3g(g:PE X e te):PS X (.Return (b3 e) pos) (b4i te):=by intro a s b H D I h;show wpAny_Return_some<|aW (g a s b H _ I h) λv k ⟨x,c,d,j,i⟩=>⟨x,b,c,d,j,i⟩
abbrev b3d:TS:=λD x H=>D.rt .non H
def a8j:PS X (.Return b4 pos) b3d:=λ_ x σ H x I h=>wpAny_Return_none ⟨.non,σ,H,I,rfl,h⟩
abbrev a8g(c:TT)(t u:TS):TS:=λD σ H=>c σ H λb a=>if b=dI then t D σ a else u D σ a
def a8f(hc:PT X c p)(q:Ŝ X a t)(v:Ŝ X b u):PS X (.If c a b pos) (a8g p t u):=by
 intro g s i H D I h;show wpAny_If<|aW (hc g s i H _ I h) λd o ⟨j,k,n⟩=>?_;cases d with
 |true=>show q g o i j D k n|false=>show v g o i j D k n
noncomputable abbrev TG:=V->St->Hp->(St->Hp->Prop)->Prop
noncomputable abbrev sX:=List V->St->Hp->(St->Hp->Prop)->Prop
abbrev PG(X:Cx)(a:Expr)(t:TG):Prop:=
 ∀(Do:jw)(s:Ù)(σ:St)(H:Hp)(v:V)(u:Value)(Q:St->Hp->Prop),Â X Do σ H s->Ì v u->t v σ H Q->
  È (Í X.prog X.w) X.A (az a X.env u) (λ_ b=>vq X Do Q b) X.xe s
abbrev u6(X:Cx)(ts:List Expr)(t:sX):Prop:=
 ∀(Do:jw)(s:Ù)(σ:St)(H:Hp)(vs:gz)(us:gw)(Q:St->Hp->Prop),Â X Do σ H s->Å vs us->t vs σ H Q->
  È (Í X.prog X.w) X.A (assignInOrder ((ς ts X.env).map (·.2)) us) (λ_ a=>vq X Do Q a) X.xe s
abbrev Bc(i:Nat):TG:=λv σ H Q=>Q (σ.set i<|b3 v) H
def EL(c:X.N.Nodup)(hi:X.N[i]?=b3 x)(e:Loc X.env.scope x)(d:X.fn x=dI\/X.env.scope.names.lookup x=b3 .local:=by first|show .inl rfl|show .inr rfl|assumption):PG X (.Name x pos) (Bc i):=by intro b s j H v u Q I r h;show Qh<|EI I c hi e r (λg a=>⟨_,H,a,h⟩) d
abbrev EM:sX:=λvs σ H Q=>vs=[]/\Q σ H
abbrev EO(t:TG)(u:sX):sX:=λvs σ H Q=>∃v r,vs=v::r/\t v σ H λa b=>u r a b Q
def a8d:u6 X [] EM:=by intro a s b H d c Q I r h;let⟨e,h⟩:=h;subst e;ext r;show assignInOrder_nil ⟨b,H,I,h⟩
def a8Z(h1:PG X e t)(i:u6 X es u)(j:(ς (e::es) X.env).map (·.2)=az e X.env::(ς es X.env).map (·.2):=by rfl):u6 X (e::es) (EO t u):=by
 intro a s p H x q Q I r h;let⟨v,w,g,h⟩:=h;subst g;cases r with
 |cons r n=>rw[j];show assignInOrder_cons<|aW (h1 a s p H _ _ _ I r h) λ_ o ⟨b,c,d,k⟩=>?_;show i a o b c _ _ Q d n k
abbrev ER(b:TE)(g:TG):TS:=λD σ H=>b σ H λx a=>g x σ a D.nx
def a8Y(j:PE X e b)(k:PG X tg g)(n:swapsWithSole [tg] e pos.line X.env=pure false:=by rfl)(hw:OL [tg] e X.env=pure none:=by rfl)(h1:(ς [tg] X.env).map (·.2)=[az tg X.env]:=by rfl):PS X (.Assign [tg] e pos) (ER b g):=by
 intro a s c H D I h;show wpAny_Assign_stores (aW (j a s c H _ I h) λv u ⟨x,d,i,p,o⟩=>?_) n hw;rw[h1];show aW (k a u c d x v _ i p o) λ_ w q=>q
def a8X(k:X.N.Nodup)(hi:X.N[i]?=b3 x)(q:Loc X.env.scope x)(n:PE X e c)(p:fu e (b3<|.Name x a) pos.line X.env=pure false:=by rfl)(o:X.fn x=dI\/X.env.scope.names.lookup x=b3 .local:=by first|show .inl rfl|show .inr rfl|assumption):
  PS X (.Assign [.Name x a] e pos) (ER c<|Bc i):=by
 intro b s z H D I h;show wpAny_Assign_Name (aW (n b s z H _ I h) λv A ⟨y,d,g,w,u⟩=>?_) p;show EI g k hi q w (λB j=>⟨_,d,j,u⟩) o
abbrev a8P(c:TT)(h:TS):TS:=λD σ H=>∃W:Nat->St->Hp->Prop,(∃m,W m σ H)/\∀m σ H,W m σ H->
 c σ H λb e=>if b=dI then ∃N:St->Hp->Prop,(∀a d,N a d->∃g,g<m/\W g a d)/\h {D with nx:=N,ct:=N,bk:=D.nx} σ e else D.nx σ e
def a8J(E:yf (Í X.prog X.w) X.A X.env X.xe)(hc:PT X c J)(L:Ŝ X body G):PS X (.While c body [] pos) (a8P J G):=by
 intro e s Y H D I h;obtain⟨W,⟨M,T⟩,turn⟩:=h;show wpAny_While<|codeAny_whileLoop (λn O=>∃i x,Â X e i x O/\W n i x) ?_ M ⟨Y,H,I,T⟩;rintro n Q ⟨d,y,K,U⟩;show nu E<|aW (hc e Q d y _ K<|turn n d y U) λb R ⟨z,A,j⟩=>?_;cases b with
 |true=>
  let⟨N,B,j⟩:=j;rw[if_pos rfl];show nu E<|aW (L e R d z _ A j) λf Z k=>?_;cases f with
  |next=>let⟨a,g,o,u⟩:=k;let⟨q,p,w⟩:=B a g u;show⟨q,p,a,g,o,w⟩|cont=>let⟨a,g,o,u⟩:=k;let⟨q,p,w⟩:=B a g u;show⟨q,p,a,g,o,w⟩|brk=>show k|ret v=>show k
 |false=>rw[if_neg ô];show NI ⟨d,z,A,j⟩
structure It where
 go:Nat->Hp->Prop
 yld:Nat->Hp->V->Hp->Prop
 stop:Nat->Hp->Prop
abbrev kH(X:Cx)(Do:jw)(H:Hp)(b:Addr):Prop:=
 H b=b4/\b≠X.env.locals/\b∉X.fs/\(b∈X.ex\/X.s₀.heap.objs.size<=b)/\(∀x c,X.env.cells.lookup x=b3 c->c≠b)/\∀p∈X.pn++Do,p.1≠b
def Â.fpOk{σ:St}{b:Addr}(I:Â X Do σ H s)(a:s.heap.objs.size<=b)(g:d b=b4):kH X Do d b:=by
 show⟨g,Š<|ĸ I.lt a,I.nofs a,.inr<|Ğ I.sz a,λx c e z=>?_,λp h z=>?_⟩
 .let⟨v,q⟩:=I.cell x c e;show absurd (ĸ q.lt<|by rw[z];show a)<|ε _
 .show absurd (ĸ (Ý (I.pin p h).1)<|by rw[z];show a)<|ε _
noncomputable abbrev Qc(X:Cx):Prop:=X.calm=dI
inductive Sy (X:Cx)(Do:jw)(σ:St)(J:It)(fp:List Addr)(tn:Nat->í->Prop)(i:Nat)(H:Hp)(u:Value)(s2:Ù):Prop
 |mk (x:V)(H':Hp)(I:Â X Do σ H' s2)(r:Ì x u)(y:J.yld i H x H')(t:tn (i+1) s2.heap)(f:∀b∈fp,H' b=b4):Sy X Do σ J fp tn i H u s2
structure ŀ(q:Cx->Prop)(P:Ť)(w:į)(K:Õ)(tg:Expr)(J:It)(fp:List Addr)(it:Addr)(tn:Nat->í->Prop):Prop where
 mem:it∈fp
 obj:∀i h,tn i h->∀b∈fp,∃o,h.get? b=b3 o/\∀v,o.data≠.cell v
 keep:∀i h h',tn i h->(∀b∈fp,∀o,h.get? b=b3 o->h'.get? b=b3 o)->tn i h'
 item:∀(X:Cx),X.prog=P->X.w=w->X.K=K->q X->∀(i:Nat)(Do:jw)(s:Ù)(σ:St)(H:Hp)(E:Value->Ù->Prop),Â X Do σ H s->(∀b∈fp,kH X Do H b)->tn i s.heap->J.go i H->
  È (Í P w) X.A (ş<|.ref it) (λr s1=>∃u,r=b3 u /\
   È (Í P w) X.A (NG tg (.ref it) u) (λ_ s2=>Sy X Do σ J fp tn i H u s2) E s1) E s
 done:∀(X:Cx),X.prog=P->X.w=w->X.K=K->q X->∀(i:Nat)(Do:jw)(s:Ù)(σ:St)(H:Hp)(E:Value->Ù->Prop),Â X Do σ H s->(∀b∈fp,kH X Do H b)->tn i s.heap->J.stop i H->
  È (Í P w) X.A (ş<|.ref it) (λr s1=>r=b4/\Â X Do σ H s1) E s
 self:∀(A:ť)(i:Nat)(s:Ù)(Q:Value->Ù->Prop)(E:Value->Ù->Prop),tn i s.heap->Q (.ref it) s->È (Í P w) A (JF<|.ref it) Q E s
noncomputable abbrev TI:=St->Hp->(It->Hp->Prop)->Prop
inductive J1 (q:Cx->Prop)(X:Cx)(Do:jw)(σ:St)(tg:Expr)(R:It->Hp->Prop)(itv:Value)(s2:Ù):Prop
 |mk (it:Addr)(fp:List Addr)(tn:Nat->í->Prop)(J:It)(H':Hp)(e:itv=.ref it)(I:Â X Do σ H' s2)(T:ŀ q X.prog X.w X.K tg J fp it tn)(t0:tn 0 s2.heap)(f:∀b∈fp,kH X Do H' b)(r:R J H'):J1 q X Do σ tg R itv s2
noncomputable abbrev Bd:=J1 Qc
abbrev u7(q:Cx->Prop)(X:Cx)(tg iter:Expr)(b:TI):Prop:=
 ∀(Do:jw)(s:Ù)(σ:St)(H:Hp)(R:It->Hp->Prop),Â X Do σ H s->b σ H R->
  È (Í X.prog X.w) X.A (eval iter X.env) (λv a=>È (Í X.prog X.w) X.A (JF v) (J1 q X Do σ tg R) X.xe a) X.xe s
noncomputable abbrev PI:=u7 Qc
def sY(d:s.heap.get? b=b3 o)(hc:o.cls=.type n)(hd:o.data=.fields vs)(c:["enumerate","zip","dict_itemiterator","dict_reverseitemiterator","odict_iterator","itertools.zip_longest","itertools.pairwise"].contains n=b5)(a:Q Unit.unit s):È M A (NG tg (.ref b) u) Q E s:=by
 ext NG
 ext tg<;>first
  | show Ê a
  | (ext u<;>first
    | show Ê a
    | (show Á<|MH d ?_
       rw [hc,hd]
       change È M A (if (["enumerate","zip","dict_itemiterator","dict_reverseitemiterator","odict_iterator","itertools.zip_longest","itertools.pairwise"].contains n&&vs[0]? == b3 (ř _))=dI then _ else _) Q E s
       rw [if_neg<|by intro h;rw [c,Qr] at h;ext h]
       show Ê a))
abbrev Be (K:Õ)(a:Addr):It:=
 ⟨fun i H=>∃ b x,Ą K H a b/\b[i]? = b3 x,fun i H x c=>c=H/\∀ b,Ą K H a b->b[i]? = b3 x,fun i H=>∃ b,Ą K H a b/\b.length<=i⟩
abbrev Bf(K:Õ)(a:Addr):It:=
 ⟨λi H=>∃b x,å K H a b/\b[i]?=b3 x,λi H x c=>c=H/\∀b,å K H a b->b[i]?=b3 x,λi H=>∃b,å K H a b/\b.length<=i⟩
abbrev pR(lo:Int)(n:Nat):It:=⟨λi y=>i<n,λi H x a=>a=H/\x=.int (lo+i),λi y=>n<=i⟩
def a8E{K:Õ}a j:ŀ Qc P w K tg (Be K a) [j] j (λi h=>h.IsListIter j a i) where
 mem:=∅
 obj:=λi h st b g=>by
  let e:b=j:=by apply g
  subst e;let⟨o,e,c,d⟩:=st;show⟨o,e,λv z=>by rw[d]at z;ext z⟩
 keep:=λi h y st k=>st.at λo e=>k j ∅ o e;item:=by intro X Q hw O hc i n s Y H E I A st R;subst Q hw O;let⟨xs,x,B,T⟩:=R;let⟨its,U,p,hz⟩:=I.list B;let⟨u,hu,ru⟩:=U.get T;let⟨G,J,f2,L,M,N⟩:=A j ∅;show Qu st p.isList (x:=u) (by apply hu) λy q sb=>?_;let Z:Â X n Y H {s with heap:=y}:=I.turned (t':=s.toks) (λb o g e=>(sb.2 b g).trans e) G J L M N;let⟨o,e,c,d⟩:=id q;show⟨u,rfl,sY (s:={s with heap:=y}) e c d ⋯ ⟨x,H,Z,ru,⟨rfl,λys hy=>by rw[I.list_inj hy B];show T⟩,q,λb g=>(A b g).1⟩⟩
 done:=by intro X Q hw O hc i n s Y H E I A st R;subst Q hw O;let⟨xs,B,T⟩:=R;let⟨its,U,p,hz⟩:=I.list B;let⟨G,J,f2,L,M,N⟩:=A j ∅;let hl:=U.length;show RL (I.ok.hd hc) st p.isList (by simp;lia) λy eb=>⟨rfl,I.turned (t':=s.toks) (λb o g e=>eb b o g e) G J L M N⟩
 self:=λ_ f f f f st h=>wpAny_pyIter_listiter st h
def a8A{K:Õ}a j:ŀ Qc P w K tg (Bf K a) [j] j (λi h=>h.IsTupleIter j a i) where
 mem:=∅
 obj:=λi h st b g=>by
  let e:b=j:=by apply g
  subst e;let⟨o,e,c,d⟩:=st;show⟨o,e,λv z=>by rw[d]at z;ext z⟩
 keep:=λi h y st k=>st.at λo e=>k j ∅ o e;item:=by intro X Q hw O hc i n s Y H E I A st R;subst Q hw O;let⟨xs,x,B,T⟩:=R;let⟨its,U,p,hz⟩:=I.tuple B;let⟨u,hu,ru⟩:=U.get T;let⟨G,J,f2,L,M,N⟩:=A j ∅;show R6 st (show s.heap.IsTuple a its.toArray from p) (x:=u) (by apply hu) λy q sb=>?_;let Z:Â X n Y H {s with heap:=y}:=I.turned (t':=s.toks) (λb o g e=>(sb.2 b g).trans e) G J L M N;let⟨o,e,c,d⟩:=id q;show⟨u,rfl,sY (s:={s with heap:=y}) e c d ⋯ ⟨x,H,Z,ru,⟨rfl,λys hy=>by rw[I.tuple_inj hy B];show T⟩,q,λb g=>(A b g).1⟩⟩
 done:=by intro X Q hw O hc i n s Y H E I A st R;subst Q hw O;let⟨xs,B,T⟩:=R;let⟨its,U,p,hz⟩:=I.tuple B;let⟨G,J,f2,L,M,N⟩:=A j ∅;let hl:=U.length;show Qv (I.ok.hd hc) st (show s.heap.IsTuple a its.toArray from p) (by simp;lia) λy eb=>⟨rfl,I.turned (t':=s.toks) (λb o g e=>eb b o g e) G J L M N⟩
 self:=λ_ f f f f st h=>wpAny_pyIter_tupleiter st h
def ES{K:Õ}a lo n:ŀ Qc P w K tg (pR lo n) [a] a (λi h=>yq h a (lo+(i:Nat)*1) ((n:Int)-(i:Nat)) 1) where
 mem:=∅
 obj:=λi h st b c=>by
  let e:b=a:=by apply c
  subst e;show⟨_,st,λv z=>by
   let U:Ņ _=sr v:=z;ext U⟩
 keep:=λi h j st k=>k a ∅ _ st;item:=by intro X G hw B hc i d s M H E I p st J;subst G hw B;let⟨q,u,Q,x,y,A⟩:=p a ∅;let W:=Walks.range (prog:=X.prog) (w:=X.w) (I.ok.hd hc) a lo 1 n;show W.item i s _ _ J st λv j L R g T=>?_;let⟨t,rfl⟩:=R;let N:Â X d M H {s with heap:=j,toks:=L}:=I.turned (λb o c e=>T b o (by apply c) e) q u x y A;show⟨_,rfl,sY (s:={s with heap:=j,toks:=L}) (n:="range_iterator") g rfl rfl ⋯ ⟨.int<|lo+i,H,N,⟨t,?_⟩,⟨rfl,rfl⟩,g,λb c=>(p b c).1⟩⟩;rw[Int.mul_one]
 done:=by intro X G hw B hc i d s M H E I p st J;subst G hw B;let⟨q,u,Q,x,y,A⟩:=p a ∅;show wpAny_pyNext_range_end (I.ok.hd hc) st (by have:n<=i:=J;lia) λj O=>⟨rfl,I.turned (t':=s.toks) (λb o c e=>O b o c e) q u x y A⟩
 self:=λ_ f f f f st h=>wpAny_pyIter_rangeiter st h
section
variable{X:Cx}{tg:Expr}
def ET(tr:∀c lo n,ŀ q X.prog X.w X.K tg (pR lo n) [c] c λi h=>yq h c (lo+(i:Nat)*1) ((n:Int)-(i:Nat)) 1){σ:St}{lo:Int}(I:Â X Do σ H s)(h1:-(2^62)<=lo)(j:lo<2^62)(k:-(2^62)<=hi)(p:hi<2^62)(w:R (pR lo (hi-lo).toNat) H):È (Í X.prog X.w) X.A (JF<|.ref s.heap.objs.size) (J1 q X Do σ tg R) E {s with heap:=s.heap.push {cls:=.type "range",data:=.fields #[.int lo t,.int hi u,.int 1 v]},toks:=tk}:=by
 show wpAny_pyIter_range (IsRange.new ..) (small_one h1 j k p) ?_;let a:Â X Do σ H {s with heap:=s.heap.push {cls:=.type "range",data:=.fields #[.int lo t,.int hi u,.int 1 v]},toks:=tk}:=I.kept λb o e=>ß _ e;show⟨(s.heap.push {cls:=.type "range",data:=.fields #[.int lo t,.int hi u,.int 1 v]}).objs.size,[(s.heap.push {cls:=.type "range",data:=.fields #[.int lo t,.int hi u,.int 1 v]}).objs.size],_,_,H,rfl,
  a.kept (t':=tk) λb o e=>ß _ e,tr _ lo (hi-lo).toNat,?_,λb x=>?_,w⟩
 .let d:lo+((0:Nat):Int)*1=lo:=∅
  let g:(((hi-lo).toNat:Nat):Int)-((0:Nat):Int)=b4x lo hi 1:=by rw[rangeSize_one];split<;>lia
  change yq _ _ (lo+((0:Nat):Int)*1) ((((hi-lo).toNat:Nat):Int)-((0:Nat):Int)) 1;rw[d,g];show ć _ rfl
 .let e:b=(s.heap.push {cls:=.type "range",data:=.fields #[.int lo t,.int hi u,.int 1 v]}).objs.size:=by apply x
  subst e;show a.fpOk (Ø _)<|a.hok.fresh<|Ø _
abbrev a7z(b:TA):TI:=λσ H R=>b σ H λvs a=>∃j:Int,vs=[.int j]/\-(2^62)<=j/\j<2^62/\R (pR 0 j.toNat) a
abbrev a7m(b:TA):TI:=λσ H R=>b σ H λvs a=>∃i j:Int,vs=[.int i,.int j]/\(-(2^62)<=i/\i<2^62/\-(2^62)<=j/\j<2^62)/\R (pR i (j-i).toNat) a
def a7f(tr:∀c lo n,ŀ q X.prog X.w X.K tg (pR lo n) [c] c λi h=>yq h c (lo+(i:Nat)*1) ((n:Int)-(i:Nat)) 1)(u:Gl X "range")(v:X.mg "range"=b4)(o:PA X [a] g)(w:ý [a] X.env=[(b5,eval a X.env)]:=by rfl):u7 q X tg (.Call (.Name "range" p) [a] [] pos) (a7z g):=by
 intro b s B H R I h;show xx<|kG I u v boot_range<|qg (aW (o pos b s B H _ I h) λJ G ⟨K,E,k,z,d⟩=>?_) w rfl;let⟨j,e,d,x,y⟩:=d;subst e;cases z with
 |cons r A=>ext A;let⟨t,rfl⟩:=r;show call_range_1<|ET tr k () () d x<|by apply y
def a7d(v:Gl X "range")(w:X.mg "range"=b4)(u:PA X [a,b] n)(x:ý [a,b] X.env=[(b5,eval a X.env),(b5,eval b X.env)]:=by rfl)(c:ý [b] X.env=[(b5,eval b X.env)]:=by rfl):
  PI X tg (.Call (.Name "range" p) [a,b] [] pos) (a7m n):=by
 intro d s G H R I h;show xx (kG I v w boot_range<|qg (aW (u pos d s G H _ I h) λM K ⟨N,J,o,E,g⟩=>?_) (by rw[x,c])<|by rw[c];rfl);obtain⟨i,j,e,⟨g,y,z,A⟩,q⟩:=g;subst e;cases E with
 |cons r k=>
  cases k with
  |cons B k=>ext k;let⟨t,rfl⟩:=r;let⟨L,rfl⟩:=B;show call_range_2<|ET ES o g y z A q
abbrev a7a(k:TI)(g:TG)(j:TS):TS:=λD σ H=>k σ H λJ e=>∃W:Nat->Nat->St->Hp->Prop,(∃m,W 0 m σ e)/\∀i m σ H,W i m σ H->
 (J.stop i H/\D.nx σ H)\/(J.go i H/\∃N:St->Hp->Prop,(∀b a,N b a->∃d,d<m/\W (i+1) d b a)/\∀x a,J.yld i H x a->g x σ a λc h=>j {D with nx:=N,ct:=N,bk:=D.nx} c h)
abbrev u9(a:List Addr)(h:í):jw:=a.filterMap λb=>(h.get? b).map λo=>(b,o)
def xM(c:b∈a)(e:h.get? b=b3 o):(b,o)∈u9 a h:=Oj.mpr ⟨b,c,by rw[e];rfl⟩
def a7X(g:p∈u9 a h):p.1∈a/\h.get? p.1=b3 p.2:=by
 let⟨b,d,e⟩:=Oj.mp g;cases q:h.get? b with
 |none=>rw[q]at e;ext e|some o=>rw[q]at e;let c:(b,o)=p:=ē e;subst c;show⟨d,q⟩
def Â.pinned{σ:St}(I:Â X Do σ H s)(k:∀b∈a,kH X Do H b)(n:∀b∈a,∃o,s.heap.get? b=b3 o/\∀v,o.data≠.cell v):Â X (Do++u9 a s.heap) σ H s:=
 I.pins_of λp q=>(Ħ.mp q).elim (λz=>I.pin p<|aj _ z) λz=>by let⟨g,e⟩:=a7X z;let⟨h,i,j,_⟩:=k p.1 g;let⟨o,c,d⟩:=n p.1 g;rw[e]at c;ext c;show⟨e,h,i,j,d⟩
def Â.unpinned{σ:St}(I:Â X (Do++pl) σ H s):Â X Do σ H s:=I.pins_of λp a=>I.pin p<|aj _<|Ri _ a
inductive Pd (X:Cx)(Do:jw)(tn:Nat->í->Prop)(fp:List Addr)(W:Nat->Nat->St->Hp->Prop)(n:Nat)(s':Ù):Prop
 |mk (i:Nat)(σ':St)(H':Hp)(I:Â X Do σ' H' s')(t:tn i s'.heap)(f:∀b∈fp,H' b=b4)(w:W i n σ' H'):Pd X Do tn fp W n s'
def a7U(G:yf (Í X.prog X.w) X.A X.env X.xe)(hc:X.calm=dI)(hi:PI X tg iter wi)(hg:PG X tg g)(q:Ŝ X body tb)(hs:∀x,uy iter X.env x=pure x:=by intro _;rfl):PS X (.For tg iter body [] pos) (a7a wi g tb):=by
 intro c s σ H D I h;show wpAny_For (aW (hi c s σ H _ I h) λv s1 h1=>aW h1 λitv s2 h2=>?_) hs;obtain⟨it,B,tn,J,H2,e,I2,T,Y,f2,W,⟨m0,w0⟩,turn⟩:=h2;subst e
  -- what stays dI of the iterator's objects through the loop
 let w:∀{H':Hp},(∀b∈B,H' b=b4)->∀b∈B,kH X c H' b:=λhn b q=>⟨hn b q,(f2 b q).2⟩;show codeAny_forLoop_any (Pd X c tn B W) ?_ m0 ⟨0,σ,H2,I2,Y,λb q=>(f2 b q).1,w0⟩;rintro n s3 ⟨i,y,O,I3,L,E,w3⟩;rcases turn i n y O w3 with⟨M,qn⟩|⟨go,N,hN,step⟩
 .show nu G<|aW (T.done X rfl rfl rfl hc i c s3 y O X.xe I3 (w E) L M) λr s4 ⟨U,I4⟩=>?_;subst U;show NI ⟨y,O,I4,qn⟩
 .show nu G<|aW (T.item X rfl rfl rfl hc i c s3 y O X.xe I3 (w E) L go) λr s4 ⟨u,U,h4⟩=>?_;subst U;show nu G<|aW h4 λ_ s5 ⟨x,H5,I5,r5,y5,A,R⟩=>?_;let Q:=I5.pinned (w R)<|T.obj _ _ A;show nu G<|aW (hg _ s5 y H5 x u _ Q r5<|step x H5 y5) λ_ s6 ⟨Z,H6,I6,q6⟩=>?_;show nu G<|aW (q _ s6 Z H6 _ I6 q6) λf s7 z=>?_;let p:∀{a:St}{j:Hp},Â X (c++u9 B s5.heap) a j s7->N a j->∃m,m<n/\Pd X c tn B W m s7:=λ{a j} k K=>by let⟨m',hm,w7⟩:=hN a j K;show⟨m',hm,i+1,a,j,k.unpinned,T.keep _ _ _ A λb q o e=>(k.pin (b,o)<|aj _<|aj _<|xM q e).1,λb q=>?_,w7⟩;let⟨o,e,d⟩:=T.obj _ _ A b q;show(k.pin (b,o)<|aj _<|aj _<|xM q e).2.1
  cases f with
  |next=>let⟨a,j,k,K⟩:=z;show p k K|cont=>let⟨a,j,k,K⟩:=z;show p k K|brk=>let⟨a,j,k,z⟩:=z;show⟨a,j,k.unpinned,z⟩|ret v=>let⟨x7,a,j,k,r7,z⟩:=z;show⟨x7,a,j,k.unpinned,r7,z⟩
end
noncomputable abbrev R2:=V->V->Hp->VK->Prop
abbrev ď(X:Cx)(f:Value->Value->J3 Value)(r:R2):Prop:=
 ∀(Do:jw)(s:Ù)(σ:St)(H:Hp)(x y:V)(v u:Value)(Q:VK),Â X Do σ H s->Ì x v->Ì y u->r x y H Q->
  È (Í X.prog X.w) X.A (f v u) (EP X Do σ Q) X.xe s
abbrev Bg(X:Cx)(f:Value->J3 Value)(r:V->Hp->VK->Prop):Prop:=
 ∀(Do:jw)(s:Ù)(σ:St)(H:Hp)(x:V)(v:Value)(Q:VK),Â X Do σ H s->Ì x v->r x H Q->
  È (Í X.prog X.w) X.A (f v) (EP X Do σ Q) X.xe s
abbrev Ü(X:Cx)(f:Value)(r:gz->Hp->VK->Prop):Prop:=
 ∀(Do:jw)(s:Ù)(σ:St)(H:Hp)(xs:gz)(us:gw)(Q:VK),Â X Do σ H s->Å xs us->r xs H Q->
  È (Í X.prog X.w) X.A (call f us) (EP X Do σ Q) X.xe s
abbrev a7T(X:Cx)(r:V->Hp->(Bool->Hp->Prop)->Prop):Prop:=
 ∀(Do:jw)(s:Ù)(σ:St)(H:Hp)(x:V)(v:Value)(Q:Bool->Hp->Prop),Â X Do σ H s->Ì x v->r x H Q->
  È (Í X.prog X.w) X.A (truthy v) (TP X Do σ Q) X.xe s
abbrev vA(r:R2)(c d:TE):TE:=λσ H Q=>c σ H λx a=>d σ a λy b=>r x y b Q
abbrev a7R(r:V->Hp->VK->Prop)(b:TE):TE:=λσ H Q=>b σ H λx a=>r x a Q
abbrev rI(C:Int->Int->Prop)(g:Int->Int->V):R2:=λx y H Q=>∃i j,x=.int i/\y=.int j/\C i j/\Q (g i j) H
abbrev kI(g:Int->Int->V):R2:=λx y H Q=>∃i j,x=.int i/\y=.int j/\Q (g i j) H
abbrev rU(g:Int->V):V->Hp->VK->Prop:=λx H Q=>∃i,x=.int i/\Q (g i) H
def Bh(o:PE X a ta)(p:PE X b tb){σ:St}{R:V->V->Hp->Prop}(I:Â X Do σ H s)(h:ta σ H λx j=>tb σ j λy d=>R x y d){f:Value->Value->J3 Value}(q:∀v u i x y d,Â X Do σ d i->Ì x v->Ì y u->R x y d->È (Í X.prog X.w) X.A (f v u) Q X.xe i):
  È (Í X.prog X.w) X.A (eval a X.env) (λv e=>È (Í X.prog X.w) X.A (eval b X.env) (λu g=>È (Í X.prog X.w) X.A (f v u) Q X.xe g) X.xe e) X.xe s:=by
 show aW (o Do s σ H _ I h) λv E ⟨x,j,k,A,w⟩=>?_;show aW (p Do E σ j _ k w) λu i ⟨y,d,n,B,z⟩=>?_;show q v u i x y d n A B z
def a7M(k:ď X (Υ op) r)(i:PE X a ta)(j:PE X b tb):PE X (.BinOp a op b pos) (vA r ta tb):=by intro d s w H Q I h;show wpAny_BinOp<|Bh i j I h λv u p x y e g n o q=>k d p w e x y v u Q g n o q
def a7C(k:Bg X (unaryOp op) r)(j:PE X a ta):PE X (.UnaryOp op a pos) (a7R r ta):=by intro d s e H Q I h;show UnaryOp_<|aW (j d s e H _ I h) λv p ⟨x,g,i,o,n⟩=>k d p e g x v Q i o n
def xN{g:Int->Int->Int}(d:∀i j t u s Q E,C i j->Q (.int (g i j) s.toks) {s with toks:=s.toks+1}->È (Í X.prog X.w) X.A (f (.int i t)<|.int j u) Q E s):
  ď X f (rI C λi j=>.int<|g i j):=by
 intro e s p H x y v u Q I k n h;let⟨i,j,rfl,rfl,hc,q⟩:=h;let⟨t,rfl⟩:=k;let⟨o,rfl⟩:=n;show d i j t o s _ _ hc ⟨.int<|g i j,H,I.tok _,⟨_,rfl⟩,q⟩
def EU{g:Int->Int->Int}(d:∀i j t u s Q E,Q (.int (g i j) s.toks) {s with toks:=s.toks+1}->È (Í X.prog X.w) X.A (f (.int i t)<|.int j u) Q E s):
  ď X f (kI λi j=>.int<|g i j):=by
 intro e s p H x y v u Q I k n h;let⟨i,j,rfl,rfl,q⟩:=h;let⟨t,rfl⟩:=k;let⟨o,rfl⟩:=n;show d i j t o s _ _ ⟨.int<|g i j,H,I.tok _,⟨_,rfl⟩,q⟩
def xO{g:Int->Int->Bool}(d:∀i j t u s Q E,Q (.bool<|g i j) s->È (Í X.prog X.w) X.A (f (.int i t)<|.int j u) Q E s):
  ď X f (kI λi j=>.bl<|g i j):=by
 intro e s p H x y v u Q I k n h;let⟨i,j,rfl,rfl,q⟩:=h;let⟨t,rfl⟩:=k;let⟨o,rfl⟩:=n;show d i j t o s _ _ ⟨.bl<|g i j,H,I,rfl,q⟩
abbrev a6z(i j:Int):Prop:=0<=j/\j<=1000000/\i.natAbs<2^64
abbrev ql(i j:Int):Prop:=(-(2^64)<i/\i<2^64)\/(-(2^64)<j/\j<2^64)
def ql.ok(h:ql i j):M6 i j:=by
 rcases h with⟨h1,d⟩|⟨h1,d⟩
 .show .of_left<|intBits_le_64 h1 d
 .show .of_right<|intBits_le_64 h1 d
def jm:ď X (Υ .Add) (kI λi j=>.int<|i+j):=EU λ_ x x x x x x q=>add_int q
def a6W:ď X (Υ .Sub) (kI λi j=>.int<|i-j):=EU λ_ x x x x x x q=>sub_int q
def a9U:ď X (Υ .Mod) (rI (λ_ j=>0<j) λi j=>.int<|i%j):=xN λi j x x x x x hc q=>by let h1:(0:Int)<j:=hc;show mod_int' ()<|by rw[Int.fmod_eq_emod_of_nonneg i ()];show q
def sZ{g:Int->Int}(d:∀i t s Q E,Q (.int (g i) s.toks) {s with toks:=s.toks+1}->È (Í X.prog X.w) X.A (f<|.int i t) Q E s):
  Bg X f (rU λi=>.int<|g i):=by
 intro e s k H x v Q I j h;let⟨i,rfl,q⟩:=h;let⟨t,rfl⟩:=j;show d i t s _ _ ⟨.int<|g i,H,I.tok _,⟨_,rfl⟩,q⟩
def a9T:Bg X (unaryOp .USub) (rU λi=>.int<|-i):=sZ λ_ x x x x q=>neg_int q
def rA{σ:St}(I:Â X Do σ H s)(q:Q (.bl k) H)(e:k=k'):EP X Do σ Q (.bool k') s:=by subst e;show⟨.bl k,H,I,rfl,q⟩
def Bi:ď X (ĳ .Lt) (kI λi j=>.bl<|decide<|i<j):=xO λ_ x x x x x x q=>lt_int q
def Bj:ď X (ĳ .LtE) (kI λi j=>.bl<|decide<|i<=j):=xO λ_ x x x x x x q=>le_int q
def Bk:ď X (ĳ .Gt) (kI λi j=>.bl<|decide<|j<i):=xO λ_ x x x x x x q=>gt_int q
def Bl:ď X (ĳ .GtE) (kI λi j=>.bl<|decide<|j<=i):=xO λ_ x x x x x x q=>ge_int q
def EV:ď X (ĳ .In) (λx y H Q=>∃i j,x=.str i/\y=.str j/\Q (.bl<|!(je j i 0 j.length 1).isEmpty) H):=by intro d s n H x y v u Q I e g h;let⟨i,j,rfl,rfl,q⟩:=h;let⟨t,rfl⟩:=e;let⟨k,rfl⟩:=g;show in_str<|rA I q rfl
def EW:ď X (ĳ .Is) (λx y H Q=>y=.non/\Q (.bl<|decide<|x=.non) H):=by
 intro e s i H x y v u Q I d g h;let⟨rfl,q⟩:=h;ext g;show is_none_gen<|rA I q ?_;ext x<;>first
  |(ext d;rfl)|(let⟨t,rfl⟩:=d;rfl)
def EX:ď X (ĳ .IsNot) (λx y H Q=>y=.non/\Q (.bl<|!decide (x=.non)) H):=by
 intro e s i H x y v u Q I d g h;let⟨rfl,q⟩:=h;ext g;show isnot_none_gen<|rA I q ?_;ext x<;>first
  |(ext d;rfl)|(let⟨t,rfl⟩:=d;rfl)
def ď.or(h:ď X f r)(h':ď X f e):ď X f (λx y H Q=>r x y H Q\/e x y H Q):=by
 intro d s j H x y v u Q I g i q;rcases q with q|q
 .show h d s j H x y v u Q I g i q
 .show h' d s j H x y v u Q I g i q
def fK b(h:op≠.In:=by decide)(g:op≠.NotIn:=by decide):ie op b=false:=by
 let d:(op==CmpOp.In)=false:=by ext op<;>first|rfl|show absurd rfl h
 let e:(op==CmpOp.NotIn)=false:=by ext op<;>first|rfl|show absurd rfl g
 ext b<;>simp[ie,d,e]
def a9S(n:ď X (ĳ op) r)(i:PE X a ta)(j:PE X b tb)(k:ie op b=b5):PE X (.Compare a [op] [b] pos) (vA r ta tb):=by intro d s z H Q I h;show Pq (Bh i j I h λv u w x y e g o p q=>n d w z e x y v u Q g o p q) k
abbrev EY(t:TE):TT:=λσ H Q=>t σ H λx d=>∃k,x=.bl k/\Q k d
def a9R(E:ď X (ĳ op) r)(w:PE X a ta)(A:PE X b tb)(B:ie op b=b5):PT X (.Compare a [op] [b] pos) (EY<|vA r ta tb):=by
 intro d s g H Q I h;show wpAny_isTrue_Compare1 (aW (w d s g H _ I h) λv O ⟨x,i,o,L,G⟩=>aW (A d O g i _ o G) λu R ⟨y,j,p,M,J⟩=>
  aW (E d R g j x y v u _ p L M J) λc T ⟨z,n,q,N,k,e,K⟩=>?_) B
 subst e;ext N;show Ϲ ⟨n,q,K⟩
abbrev Bm(r i:R2)(ta tb tc:TE):TE:=λσ H Q=>ta σ H λx e=>tb σ e λy g=>r x y g λz d=>∃k,z=.bl k /\
 (if k=dI then tc σ d λj h=>i y j h Q else Q (.bl b5) d)
def a9Q(R:ď X (ĳ op) r)(n:ď X (ĳ i) w)(M:PE X a ta)(N:PE X b tb)(hc:PE X c tc)(O:Nw [op,i] [b,c]=false:=by with_unfolding_all rfl):PE X (.Compare a [op,i] [b,c] pos) (Bm r w ta tb tc):=by
 intro g s j H Q I h;show Compare_chain (aW (M g s j H _ I h) λv s1 ⟨x,B,J,Z,T⟩=>chain_link<|aW (N g s1 j B _ J T) λu s2 ⟨y,E,K,A,U⟩=>
  aW (R g s2 j E x y v u _ K Z A U) λd s3 ⟨z,o,p,r3,k,e,q⟩=>?_) O
 subst e;ext r3;show Ϲ ?_;cases k with
 |false=>show ite_ff ⟨.bl b5,o,p,rfl,q⟩|true=>show ite_tt<|chain_last<|aW (hc g s3 j o _ p q) λw' s4 ⟨z',G,L,r4,Y⟩=>n g s4 j G y z' u w' Q L A r4 Y
def a9P(Z:ď X (ĳ op) r)(n:ď X (ĳ i) w)(T:PE X a ta)(U:PE X b tb)(hc:PE X c tc)(Y:Nw [op,i] [b,c]=false:=by with_unfolding_all rfl):PT X (.Compare a [op,i] [b,c] pos) (EY<|Bm r w ta tb tc):=by
 intro g s j H Q I h;show isTrue_chain (aW (T g s j H _ I h) λv s1 ⟨x,B,K,r1,q1⟩=>test_link<|aW (U g s1 j B _ K q1) λu s2 ⟨y,E,L,A,q2⟩=>
  aW (Z g s2 j E x y v u _ L r1 A q2) λd s3 ⟨z,o,p,r3,k,e,q⟩=>?_) Y
 subst e;ext r3;show Ϲ ?_;cases k with
 |false=>let⟨k',O,q'⟩:=q;ext O;show ite_ff ⟨o,p,q'⟩|true=>show ite_tt<|test_last<|aW (hc g s3 j o _ p q) λw' s4 ⟨z',G,M,r4,q4⟩=>aW (n g s4 j G y z' u w' _ M A r4 q4) λd' s5 ⟨z2,J,N,r5,k2,R,q5⟩=>?_;subst R;ext r5;show Ϲ ⟨J,N,q5⟩
abbrev Bn(K:Õ)(x:V)(H:Hp)(k:Bool):Prop:=
 match x with
 |.non=>k=b5|.bl b=>k=b|.int i=>k=(i != 0)|.str y=>y.length<=Ñ/\k=((y.length:Int) != 0)|.byt y=>y.size<=Ñ/\k=((y.size:Int) != 0)|.ref p=>(∃e,Ą K H p e/\k=!e.isEmpty)\/(∃e,å K H p e/\k=!e.isEmpty)\/∃d,H p=b3 (.dK d)/\k=!d.isEmpty|_=>False
def a9L{kvs:List (κ×V)}{vs:List (κ×Value)}(r:KV kvs vs):(!vs.isEmpty)=!kvs.isEmpty:=by ext r<;>rfl
def EZ(r:Å xs its):(!its.toArray.isEmpty)=!xs.isEmpty:=by ext r<;>simp
def rB:(Ñ:Nat)<2^63:=by rw[ï];decide
def a8y:a7T X (λx H Q=>∃k,Bn X.K x H k/\Q k H):=by
 intro A s K H x v Q I o h;let⟨k,e,q⟩:=h;let G:=rB;let J:Ñ=16777216:=ï;cases x with
 |non=>ext o;let d:k=false:=e;subst d;show truthy_none ⟨H,I,q⟩|bl b=>ext o;let d:k=b:=e;subst d;show Ϲ ⟨H,I,q⟩|int i=>let⟨t,rfl⟩:=o;let d:k=(i != 0):=e;subst d;show PySem.P.truthy_int ⟨H,I,q⟩|str y=>let⟨t,rfl⟩:=o;obtain⟨E,d⟩:y.length<=Ñ/\k=((y.length:Int) != 0):=e;subst d;show PySem.P.truthy_str () ⟨H,I.tok _,q⟩|byt y=>let⟨t,rfl⟩:=o;obtain⟨E,d⟩:y.size<=Ñ/\k=((y.size:Int) != 0):=e;subst d;show PySem.W.truthy_bytes () ⟨H,I.tok _,q⟩|ref p=>
  ext o;let d:(∃n,Ą X.K H p n/\k=!n.isEmpty)\/(∃n,å X.K H p n/\k=!n.isEmpty)\/∃g,H p=b3 (.dK g)/\k=!g.isEmpty:=e;rcases d with⟨n,u,d⟩|⟨n,u,d⟩|⟨g,u,d⟩
  .subst d;let⟨its,r,pl,z⟩:=I.list u;let j:=r.length;show wpAny_truthy_list pl.isList (by dsimp[ğ];lia) ⟨H,I.tok _,by rw[EZ r];show q⟩
  .subst d;let⟨its,r,pl,z⟩:=I.tuple u;let j:=r.length;show truthy_tuple pl (by dsimp[ğ];lia) ⟨H,I.tok _,by rw[EZ r];show q⟩
  .subst d;obtain⟨z,B,w,r,m⟩:g.length<=Ñ/\(p==ļ)=b5/\∃w,KV g w/\s.heap.DictOf (jS X.prog X.w) p w:=I.hok p _ u;let j:g.length=w.length:=Ob r;show wpAny_truthy_dict B m () ⟨H,I.tok _,by rw[a9L r];show q⟩
 |_=>show(show False from e).elim
def a8r(o:PE X a ta)(p:∀d,qt a X.env d=(do let v <- d;standAt a.pos;holding [v] (truthy v))):
  PT X a (λg H Q=>ta g H λx i=>∃k,Bn X.K x i k/\Q k i):=by
 intro e s g H Q I h;show isTrue_plain (aW (o e s g H _ I h) λv w ⟨x,j,n,u,q⟩=>a8y e w g j x v Q n u q)<|p _
def Ν:ď X (Υ .Add) (λx y H Q=>∃i j,x=.str i/\y=.str j/\i.length+j.length<=Ñ/\Q (.str<|i++j) H):=by intro d s p H x y v u Q I g k h;let⟨i,j,rfl,rfl,e,q⟩:=h;let⟨t,rfl⟩:=g;let⟨n,rfl⟩:=k;show add_str (λn o=>⟨.str<|i++j,H,I.tok _,⟨_,rfl⟩,q⟩) e
def gU(r:Å [x] us):∃u,us=[u]/\Ì x u:=by
 cases r with
 |cons d e=>ext e;show⟨_,rfl,d⟩
def vB(r:Å [x,y] us):∃u d,us=[u,d]/\Ì x u/\Ì y d:=by
 cases r with
 |cons e g=>
  cases g with
  |cons h i=>ext i;show⟨_,_,rfl,e,h⟩
def a8p(hc:X.calm=dI):Ü X (.builtin "max") (λxs H Q=>∃i j,xs=[.int i,.int j]/\Q (.int<|if j>i then j else i) H):=by
 intro e s w H xs p Q I r h;let⟨i,j,rfl,q⟩:=h;obtain⟨u,v,rfl,⟨t,rfl⟩,⟨n,rfl⟩⟩:=vB r;show max_two_ints (I.ok.hd hc) λg o k=>⟨_,H,I.kept k,?_,q⟩;by_cases d:j>i
 .rw[if_pos d,if_pos d];show⟨_,rfl⟩
 .rw[if_neg d,if_neg d];show⟨_,rfl⟩
def b0S(hc:X.calm=dI):Ü X (.builtin "min") (λxs H Q=>∃i j,xs=[.int i,.int j]/\Q (.int<|if j<i then j else i) H):=by
 intro e s w H xs p Q I r h;let⟨i,j,rfl,q⟩:=h;obtain⟨u,v,rfl,⟨t,rfl⟩,⟨n,rfl⟩⟩:=vB r;show min_two_ints (I.ok.hd hc) λg o k=>⟨_,H,I.kept k,?_,q⟩;by_cases d:j<i
 .rw[if_pos d,if_pos d];show⟨_,rfl⟩
 .rw[if_neg d,if_neg d];show⟨_,rfl⟩
structure ObjM(h:í)(x dx C:Addr)(mA:Str->Option Value):Prop where
 obj:h.get? x=b3 (R0 C dx)
 ns:h.Ns1 dx mA
 ne:dx≠x
def ŏ.some_of(r:ŏ (b3 v) o):∃u,o=b3 u/\Ì v u:=by
 cases o with
 |none=>show(show False from r).elim|some u=>show⟨u,rfl,r⟩
structure Cls(K:Õ)(C:Addr):Prop where
 pg:PySem.W.plainGet K C Str.empty=dI
 hd:PySem.W.hasDictIn K C=dI
 po:PySem.W.plainOver K C=dI
 sa:zg K (.ref C) "__setattr__"=b3 (b3<|.builtin "object.__setattr__")
structure Con(K:Õ)(C:Addr)(f:Str)(v:V)(u:Value):Prop where
 at_:zg K (.ref C) f=b3 (b3 u)
 rel:Ì v u
 get:Rn K u "__get__"=b3 b4
 cp:PySem.W.copiedNames.contains f=b5
structure Meth(K:Õ)(C:Addr)(m:Str)(f:Addr):Prop where
 at_:zg K (.ref C) m=b3 (b3<|.ref f)
 fn:QY K (.ref f)=dI
 kp:ϳ K (.ref f)=dI
section
variable{X:Cx}{Do:jw}{σ:St}{H:Hp}{s:Ù}{A:ť}{E:Value->Ù->Prop}{Q:Value->Ù->Prop}{c:Value}{b:Bool}
inductive ś (K:Õ)(H:Hp):V->Value->Prop where
 |non:ś K H .non<|.type "NoneType"
 |bl (x:Bool):ś K H (.bl x)<|.type "bool"
 |int (i:Int):ś K H (.int i)<|.type "int"
 |str (x:Str):ś K H (.str x)<|.type "str"
 |flt (x:UInt64):ś K H (.flt x)<|.type "float"
 |lst {a:Addr}{xs:gz}(e:H a=b3 (.lst xs)):ś K H (.ref a)<|.type "list"
 |frz {a:Addr}{o:Obj}{xs:gz}(e:H a=b3 (.frz o<|.lst xs)):ś K H (.ref a)<|.type "list"
 |tup {a:Addr}{xs:gz}(e:H a=b3 (.tup xs)):ś K H (.ref a)<|.type "tuple"
 |dK {a:Addr}{kvs:List (bM×V)}(e:H a=b3 (.dK kvs)):ś K H (.ref a)<|.type "dict"
 |dT {a:Addr}{kvs:List (List bM×V)}(e:H a=b3 (.dT kvs)):ś K H (.ref a)<|.type "dict"
 |ins {a C dx:Addr}{fs:List (Str×V)}(e:H a=b3 (.ins C dx fs))(cl:Cls K C)(ha:zg K (.ref C) "__class__"=b3 (b3<|.builtin "object.__class__"))
   (hn:Rn K (.builtin "object.__class__") "__get__"=b3 (b3<|.builtin "getset_descriptor.__get__")) (htk:PySem.W.takesIn K (.builtin "object.__class__")=b3 dI)
   (hm:PySem.W.mroIn K C (.type "object")=b3 dI):ś K H (.ref a)<|.ref C
end
structure ç(k:Nat)(A:ť):Prop where
 hd:A.handled=b4
 dp:A.depth+3*k+5<Po
 un:A.units+16*k+200<ÿ
def ç.deeper(r:ç (k+1) A)env:ç k (A.deeper env):=
 ⟨r.hd,by have:=r.dp;change A.depth+1+3*k+5<_;lia,by have:=r.un;change A.units+3+16*k+200<_;lia⟩
def ç.depth(r:ç k A):A.depth<Po:=by have:=r.dp;lia
def ç.units(r:ç k A):A.units+64<ÿ:=by have:=r.un;lia
abbrev Bo:TA:=λ_ H Q=>Q [] H
abbrev E4(c:TE)(tr:TA):TA:=λσ H Q=>c σ H λx a=>tr σ a λxs b=>Q (x::xs) b
def E6:PA X [] Bo:=λ_ x x x H Q I h=>NF ⟨[],H,I,.nil,h⟩
def E7(j:PE X e te)(k:PA X es t)(n:ý (e::es) X.env=(b5,eval e X.env)::ý es X.env:=by rfl):PA X (e::es) (E4 te t):=by intro pos a s b H Q I h;rw[n];change È _ _ (spliced<|(b5,eval e X.env)::ŕ pos (ý es X.env)) _ _ s;show NV<|aW (j a s b H _ I h) λu w ⟨x,c,g,q,o⟩=>?_;show aW (k pos a w b c _ g o) λA z ⟨y,d,i,v,p⟩=>⟨x::y,d,i,.cons q v,p⟩
abbrev b0P(t:TA):TE:=λσ H Q=>t σ H λxs a=>xs.length<=Ñ/\∀p,a p=b4->Q (.ref p) (upd a p<|.tup xs)
abbrev b0J(t:TA):TE:=λσ H Q=>t σ H λxs a=>xs.length<=Ñ/\∀p,a p=b4->Q (.ref p) (upd a p<|.lst xs)
def b0H{x1}(h:PA X es t):PE X (.Tuple es x1 pos) (b0P t):=by intro c s o H Q I j;show wpAny_Tuple_spliced (aW (h pos c s o H _ I j) λk a ⟨n,d,g,r,z,q⟩=>⟨by rw[<- r.length];show z,?_⟩);let i:d a.heap.objs.size=none:=g.hok.fresh<|Ø _;show⟨.ref a.heap.objs.size,upd d a.heap.objs.size<|.tup n,g.laid (t':=a.toks) (λb u e=>ß _ e) (Ø _) ?_,rfl,q _ i⟩;show⟨z,k,r,⟨_,ć _ rfl,rfl,_,rfl,rfl⟩⟩
def a9z(h:PA X es t):PE X (.List es pos) (b0J t):=by intro c s o H Q I j;show wpAny_List_spliced (aW (h pos c s o H _ I j) λk a ⟨n,d,g,r,z,q⟩=>⟨by rw[<- r.length];show z,?_⟩);let i:d a.heap.objs.size=none:=g.hok.fresh<|Ø _;show⟨.ref a.heap.objs.size,upd d a.heap.objs.size<|.lst n,g.laid (t':=a.toks) (λb u e=>ß _ e) (Ø _) ?_,rfl,q _ i⟩;show⟨z,k,0,r,ć _ rfl⟩
noncomputable abbrev Sp:=List V->Hp->VK->XK->Prop
noncomputable abbrev nG:=List ξ->Hp->Ù->XK->Value->Ù->Prop
structure dq(P:Ť)(w:į)(K:Õ)(mg:Str->Option Value)(base:í)(A:ť)(outer:List ξ)(s:Ù)(H:Hp):Prop where
 frames:A.frames=b3 outer
 mod:Mod K mg base
 bs:∀b o,base.get? b=b3 o->s.heap.get? b=b3 o/\H b=b4
 bsz:base.objs.size<=s.heap.objs.size
 funs:s.heap.FunFrames base outer
 frf:∀b∈k8 outer,H b=b4
 hok:Ş P w H s.heap
 bare:fc s.gens
inductive CE (outer:List ξ)(P:Ť)(w:į)(H:Hp)(s:Ù)(Q:VK)(u:Value)(s':Ù):Prop
 |mk (v:V)(H':Hp)(o:s'.os=s.os)(b:fc s'.gens)(n:Un (k8 outer) [] H H' s.heap s'.heap)(k:Ş P w H' s'.heap)(r:Ì v u)(q:Q v H'):CE outer P w H s Q u s'
abbrev e12(CX:nG)(outer:List ξ)(P:Ť)(w:į)(H:Hp)(s:Ù)(Q:VK)(E:XK)(r:S3)(a:Ù):Prop:=
 match r with
 |.ok (.ret u)=>CE outer P w H s Q u a|.ok _=>False|.error e=>CX outer H s E e a
structure ķ(P:Ť)(w:į)(K:Õ)(mg:Str->Option Value)(base:í)(CX:nG)(k:Nat)(f:Addr)(fd:q9)(ps:List Str)(sp:Sp):Prop where
 len:∀vs H Q E,sp vs H Q E->vs.length=ps.length
 run:∀(A:ť)(outer:List ξ)(s:Ù)(H:Hp)(args:Args)(us:gw)(vs:gz)(Q:VK)(E:XK),ç k A->dq P w K mg base A outer s H->kh s fd args (ps.zip us)->Å vs us->sp vs H Q E->
  ο (Í P w) A (.call (.ref f) args) (e12 CX outer P w H s Q E) s
def Â.env0{σ:St}(I:Â X Do σ H s):dq X.prog X.w X.K X.mg X.base X.A X.stack s H:=
 ⟨I.ok.frames,I.ok.mod,I.bs,Ğ I.ok.bsz I.sz,I.stack,I.stkFree,I.hok,I.bare⟩
def Â.after{σ:St}(I:Â X Do σ H s)(h:CE X.stack X.prog X.w H s Q u s'):EP X Do σ Q u s':=by let⟨v,i,k,a,un,c,r,q⟩:=h;let⟨j,g,d,t,e⟩:=s';obtain rfl:e=s.os:=k;show⟨v,i,I.call (h':=j) (g':=g) (d':=d) (t':=t) (ch:=[]) un c a λb z=>absurd z ∅,r,q⟩
abbrev Bp(sp:Sp)(a:gz)(E:XK)(t:TA):TE:=λσ H Q=>t σ H λvs b=>sp (vs++a) b Q E
abbrev ĥ(K:Õ)(a:q9)(ps:List Str)(ds:gw):Prop:=
 ∀(s:Ù)(us:gw),K.In s.heap->(us++ds).length=ps.length->kh s a ⟨us,[]⟩ (ps.zip<|us++ds)
def ĥ.all{K:Õ}(h:∀us:gw,us.length=ps.length->M7 a ⟨us,[]⟩=pure (ps.zip us)):ĥ K a ps []:=λs us x b=>by rw[ŉ]at b ⊢;show .of_eq<|h us b
abbrev xP(CX:nG)(X:Cx)(E:XK):Prop:=∀(Do:jw)(σ:St)(H:Hp)(s:Ù)(e:Value)(a:Ù),Â X Do σ H s->CX X.stack H s E e a->X.xe e a
section
variable{X:Cx}{CX:nG}{k:Nat}{f C:Addr}{fd:q9}{ps:List Str}{sp:Sp}{dvs:gz}{ds:gw}{E:XK}{x m:Str}{p pos apos:Į}{e o:Expr}{es:List Expr}{ta:TE}{t:TA}
def Fb{σ:St}(F:ķ X.prog X.w X.K X.mg X.base CX k f fd ps sp)(i:ç k X.A)(d:ĥ X.K fd ps ds)(hd:Å dvs ds)(j:xP CX X E)(I:Â X Do σ H s)(r:Å vs us)(h:sp (vs++dvs) H Q E):È (Í X.prog X.w) X.A (call (.ref f) us) (EP X Do σ Q) X.xe s:=by
 let b:Å (vs++dvs) (us++ds):=r.append hd;let g:(us++ds).length=ps.length:=by rw[<- b.length];show F.len _ _ _ _ h
 show wpAny_call<|MR (F.run X.A X.stack s H ⟨us,[]⟩ (us++ds) (vs++dvs) Q E i I.env0 (d s us I.kIn g) b h) λr n a=>?_;cases r with
 |error e=>show j Do σ H s e n I a|ok c=>
  cases c with
  |ret u=>show I.after a|next=>show υ a|brk=>show υ a|cont=>show υ a
def a9y(F:ķ X.prog X.w X.K X.mg X.base CX k f fd ps sp)(w:ç k X.A)(n:Gl X x)(v:X.mg x=b3 (.ref f))(u:ϳ X.K (.ref f)=dI)(i:ĥ X.K fd ps ds)(hd:Å dvs ds)(y:xP CX X E)
  (g:PA X (e::es) t)(b:(x==("__debug__":Str))=false:=by decide) (j:ý (e::es) X.env=(b5,eval e X.env)::ý es X.env:=by rfl)(c:(ŕ pos<|ý es X.env).any (·.1)=false:=by rfl) :
  PE X (.Call (.Name x p) (e::es) [] pos) (Bp sp dvs E t):=by
 intro a s z H Q I h;show bx<|u5 I n v ?_ b;show PySem.W.callWith_K (h₀:=X.base) I.ok.mod.kin u (aW (g pos a s z H _ I h) λG B ⟨J,A,d,r,q⟩=>⟨d.kIn,?_⟩) j c;show Fb F w i hd y d r q
def a9u(F:ķ X.prog X.w X.K X.mg X.base CX k f fd ps sp)(j:ç k X.A)(d:Gl X x)(i:X.mg x=b3 (.ref f))(g:ϳ X.K (.ref f)=dI)(c:ĥ X.K fd ps ds)(hd:Å dvs ds)(n:xP CX X E)
  (a:(x==("__debug__":Str))=false:=by decide):PE X (.Call (.Name x p) [] [] pos) (Bp sp dvs E Bo):=by
 intro b s q H Q I h;show bx<|u5 I d i ?_ a;show PySem.W.callWith_K0 I.kIn g<|Fb (us:=[]) F j c hd n I .nil h
structure a4n(K:Õ)(C f:Addr):Prop where
 makes:PySem.W.makesIn K C=dI
 init:zg K (.ref C) "__init__"=b3 (b3<|.ref f)
 fn:QY K (.ref f)=dI
 kp:ϳ K (.ref C)=dI
end
abbrev PK(X:Cx)(a:List Φ)(t:TA):Prop:=
 ∀(pos:Į)(Do:jw)(s:Ù)(σ:St)(H:Hp)(Q:gz->Hp->Prop),Â X Do σ H s->t σ H Q->È (Í X.prog X.w) X.A (evalAll<|(kj pos<|m7 a X.env).map (·.2)) (AP X Do σ Q) X.xe s
section
variable{X:Cx}{CX:nG}{k:Nat}{f C:Addr}{fd:q9}{ps ks:List Str}{sp:Sp}{E:XK}{x m:Str}{p pos apos kpos:Į}{e o:Expr}{es:List Expr}{kws:List Φ}{te ta:TE}{t tk:TA}{nm:Option Str}
def a9m:PK X [] Bo:=λ_ x x x H Q I h=>wpAny_evalAll_nil ⟨[],H,I,.nil,h⟩
def a9k(j:PE X e te)(n:PK X kws t):PK X (⟨nm,e,kpos⟩::kws) (E4 te t):=by intro pos a s b H Q I h;change È _ _ (evalAll<|(do let v <- eval e X.env;standAt pos;pure v)::(kj pos<|m7 kws X.env).map (·.2)) _ _ s;show wpAny_evalAll_cons<|Á<|aW (j a s b H _ I h) λu A ⟨x,c,g,y,q⟩=>Á<|N5<|Ê ?_;show aW (n pos a A b c _ g q) λJ G ⟨B,d,i,z,w⟩=>⟨x::B,d,i,.cons y z,w⟩
structure KBinds(K:Õ)(fd:q9)(ps ks:List Str)(g:gw->gw->gw)(gV:gz->gz->gz):Prop where
 to:∀(s:Ù)(us ws:gw),K.In s.heap->(g us ws).length=ps.length->kh s fd ⟨us,ks.zip ws⟩ (ps.zip<|g us ws)
 rel:∀{vs:gz}{us:gw}{zs:gz}{ws:gw},Å vs us->Å zs ws->Å (gV vs zs) (g us ws)
variable{g:gw->gw->gw}{gV:gz->gz->gz}
end
structure Ĩ(N P:List Str)(sc:Ω):Prop where
 kind:sc.kind=.function
 co:sc.isCoroutine=b5
 gen:sc.isGenerator=b5
 nd:N.Nodup
 pre:N.take P.length=P
 par:∀x∈P,sc.names.lookup x=b3 .local\/sc.names.lookup x=b3 .cell
 nofree:∀y∈sc.names,y.2≠.free
def Fc{kindOf:Str->Option ϱ}:∀{a}{m},(∀v,(x,v)∉a)->dw kindOf a m x=m x
 |[],_,_=>rfl|(n,v)::r,m,h=>by
  ext dw;rw[Fc λw hw=>h w<|Ō _ hw];split
  .have:x≠n:=by rintro rfl;show h v š
   simp[this]
  .rfl
def Fd{kindOf:Str->Option ϱ}:∀{a}{m},(∀v,(x,v)∉a)->du kindOf a m x=m x
 |[],_,_=>rfl|(n,v)::r,m,h=>by
  ext du;rw[Fd λw hw=>h w<|Ō _ hw];split
  .rfl
  .have:x≠n:=by rintro rfl;show h v š
   simp[this]
def Fe{kindOf:Str->Option ϱ}:∀{P:List Str}{vs:gw}{i:Nat}{m},P.Nodup->P[i]?=b3 x->vs[i]?=b3 v->kindOf x=b3 .local->
  dw kindOf (P.zip vs) m x=b3 v
 |[],_,_,_,_,h,_,_=>by simp at h
 |_::_,[],_,_,_,_,h,_=>by simp at h
 |p::P,w::vs,0,m,nd,h1,h2,hk=>by simp at h1 h2;subst h1;subst h2;change dw kindOf ((p,w)::P.zip vs) m p=_;ext dw;rw[Fc λv a=>(Ŏ.mp nd).1 (OW a).1,if_pos hk];simp
 |p::P,w::vs,i+1,m,nd,h1,h2,hk=>by change dw kindOf ((p,w)::P.zip vs) m x=_;ext dw;show Fe (i:=i) (Ŏ.mp nd).2 (by apply h1) (by apply h2) hk
def Ff{kindOf:Str->Option ϱ}:∀{P:List Str}{vs:gw}{i:Nat}{m},P.Nodup->P[i]?=b3 x->vs[i]?=b3 v->kindOf x≠b3 .local->
  du kindOf (P.zip vs) m x=b3 v
 |[],_,_,_,_,h,_,_=>by simp at h
 |_::_,[],_,_,_,_,h,_=>by simp at h
 |p::P,w::vs,0,m,nd,h1,h2,hk=>by simp at h1 h2;subst h1;subst h2;change du kindOf ((p,w)::P.zip vs) m p=_;ext du;rw[Fd λv a=>(Ŏ.mp nd).1 (OW a).1,if_neg hk];simp
 |p::P,w::vs,i+1,m,nd,h1,h2,hk=>by change du kindOf ((p,w)::P.zip vs) m x=_;ext du;show Ff (i:=i) (Ŏ.mp nd).2 (by apply h1) (by apply h2) hk
abbrev start(N:List Str)(vs:gz):St:=vs.map b3++ϡ (N.length-vs.length) b4
abbrev oN(CX:nG)(P:Ť)(w:į)(K:Õ)(g:Str->Option Value)(base:í)(N:List Str)(a:Str)(scope:Ω)(f:Addr)(c:Value)(A:ť)(outer:List ξ)(s:Ù)(H:Hp)(E:XK):Cx where
 prog:=P
 w:=w
 K:=K
 mg:=g
 base:=base
 A:=A.deeper<|envOfC a scope s.heap.objs.size f c
 N:=N
 s₀:=s
 H₀:=H
 env:=envOfC a scope s.heap.objs.size f c
 outer:=outer
 stack:=envOfC a scope s.heap.objs.size f c::outer
 ex:=[]
 calm:=dI
 fn:=λ_=>dI
 pn:=[]
 xe:=λe h=>È (Í P w) (A.deeper<|envOfC a scope s.heap.objs.size f c) (leaving (envOfC a scope s.heap.objs.size f c) e) (λ_ b=>CX outer H s E e b) (λd b=>CX outer H s E d b) h
def Fg{sc:Ω}(h:sc.names.lookup x=b3 .cell):∃c,(Nu n sc.names []).lookup x=b3 c:=by let q:=S8 sc.names n []<|.inl h;show SA.mp q
def a9j{K:Õ}(S:Ĩ N ps scope)(hd:A.handled=b4)(j:dq P w K J base A outer s H)(U:vs.length=ps.length)(r:Å vs us)(x:InCallC s s.heap.objs.size (dw (envOfC d scope s.heap.objs.size f I).kindOf (ps.zip us) λ_=>b4) (Nu (s.heap.objs.size+1) scope.names []) (du (envOfC d scope s.heap.objs.size f I).kindOf (ps.zip us) λ_=>b4) s1):
  Â (oN CX P w K J base N d scope f I A outer s H E) [] (start N vs) H s1:=by
 let Q:ps.length<=N.length:=by have:=congrArg Ĭ S.pre;rw[Ι]at this;lia
 let⟨h1,X,rfl,L⟩:=x.done;let o:∀b:Addr,b∉(oN CX P w K J base N d scope f I A outer s H E).ex:=λb z=>absurd (show b∈([]:List Addr)from z) ∅;show⟨⟨j.mod,S.kind,rfl,rfl,Ø _,λy z c h1 g=>?_,λy n=>?_,λy c l h=>?_,λ_=>hd,Around.frames_deeper j.frames,.inr ⟨rfl,rfl⟩,λb z=>absurd z<|o b,j.bs,j.bsz,λb l l=>o b,λb z=>absurd z<|o b,j.funs,j.frf⟩,
  rfl,j.bare,Un.kept L,⟨_,x.toInCall.ns,λi y v h1 g T=>?_⟩,λy c h=>⟨_,x.cell y c h⟩,j.hok.fresh<|Ø _,λy c h=>?_,λp B=>absurd (show p∈([]:jw)from B) ∅,j.hok.kept L,?_⟩
 .show name_of_addr x.apart (J0 h1)<|J0 g
 .let n:scope.names.lookup y=b3 .cell\/scope.names.lookup y=b3 .free:=n;rcases n with n|n
  .show Fg n
  .show absurd rfl<|S.nofree _<|J0 n
 .show Rr<|x.above y c<|J0 h
 .let hi:i<vs.length:=by
   unfold start at g;by_cases hi:i<vs.length
   .show hi
   .rw[jf<|by apply hi]at g;rw[zx]at g;split at g<;>ext g
  let O:vs[i]?=b3 v:=by
   unfold start at g;rw[ϗ<|by apply hi,ú]at g;cases e:vs[i]? with
   |none=>rw[e]at g;ext g|some a=>rw[e]at g;ext g;rfl
  let⟨u,M,R⟩:=r.get O;let B:ps[i]?=b3 y:=by rw[<- S.pre,RW ()];show h1
  let G:ps.Nodup:=by rw[<- S.pre];show S.nd.sublist<|List.take_sublist _ _
  show⟨u,R,?_⟩;rcases S.par y (Ĵ B)with k|k
  .show .inl ⟨k,Fe G B M k⟩
  .let⟨c,e⟩:=Fg (n:=s.heap.objs.size+1) k;show .inr ⟨.inl k,c,e,?_⟩;let q:=x.cell y c e;rw[Ff G B M<|by change scope.names.lookup y≠_;rw[k];decide]at q;show q
 .show j.hok.fresh<|Rr<|x.above y c<|J0 h
 .ext start;change _=N.length;rw[ă,Ã,vm];lia
def a9i{K:Õ}{kV:Value}(lk:K.lookup f=b3 ⟨oc,od,.func<|ϐ name a d body scope dV kV z pm an c ct,T⟩)(M:N7 K c a=dI)(S:Ĩ N ps scope)(len:∀vs H Q E,sp vs H Q E->vs.length=ps.length)(i:∀A outer s H(vs:gz)Q E,ç k (A.deeper<|envOfC a scope s.heap.objs.size f c)->sp vs H Q E->
   ∃t,Ŝ (oN CX P w K L base N a scope f c A outer s H E) body t/\t {nx:=λ_ h=>Q .non h,rt:=Q} (start N vs) H):
  ķ P w K L base CX (k+1) f (ϐ name a d body scope dV kV z pm an c ct) ps sp:=by
 show⟨len,λA outer s H Z us vs Q E O B hb r G=>?_⟩;let hl:=len _ _ _ _ G;let Y:K.In s.heap:=B.mod.kin.keeps λb o e=>(B.bs b o e).1;let R:s.heap.NoLimit:=B.mod.nolimit.keeps λb o e=>(B.bs b o e).1;let j:∀y∈ps.zip us,scope.names.lookup y.1=b3 .local\/(scope.names.lookup y.1=b3 .cell/\((Nu (s.heap.objs.size+1) scope.names []).lookup y.1).isSome=dI):=λ⟨n,v⟩ hy=>by
  rcases S.par n (OW hy).1 with q|q
  .show .inl q
  .show .inr ⟨q,S8 _ _ _<|.inl q⟩
 show codeAny_call_function O.depth (Y _ _ lk) rfl S.co S.gen rfl (PySem.W.codeRec_of Y M)<|hb _ _ _ _ ?_;show wpAny_newFunctionEnv_cells S.kind j λenv he s1 x=>?_;subst he;show⟨R.keeps x.toInCall.keep,codeAny_func ?_⟩;let⟨t,ht,hq⟩:=i A outer s H vs Q E (O.deeper _) G;let I:Â (oN CX P w K L base N a scope f c A outer s H E) [] (start N vs) H s1:=a9j S O.hd B hl r x;show Ŗ (ht [] s1 (start N vs) H _ I hq) (λfl X p=>?_) λe X p=>p;let fin:∀{g:St}{h:Hp}{v:V}{u:Value},Â (oN CX P w K L base N a scope f c A outer s H E) [] g h X->Ì v u->Q v h->CE outer P w H s Q u X:=
  λ{g h v u} J U q=>⟨v,h,J.os,J.bare,J.base,J.hok,U,q⟩
 cases fl with
 |ret u=>let⟨v,g,h,J,U,q⟩:=p;show fin J U q|next=>let⟨g,h,J,q⟩:=p;show fin (v:=V.non) (u:=Ľ) J rfl q|brk=>let⟨_,_,_,q⟩:=p;show υ q|cont=>let⟨_,_,_,q⟩:=p;show υ q
abbrev xQ(r:gz->Hp->VK->Prop)(t:TA):TE:=λσ H Q=>t σ H λvs a=>r vs a Q
def a9e{id:String}(hc:Ü X (.builtin id) r)(n:Gl X x)(o:X.mg x=b4)(u:Ψ x=b3 (.builtin id))(j:PA X (e::es) t)(q:x ≠ "__name__":=by decide)(b:(x==("__debug__":Str))=false:=by decide)(k:ý (e::es) X.env=(b5,eval e X.env)::ý es X.env:=by rfl)(c:(ŕ pos<|ý es X.env).any (·.1)=false:=by rfl):PE X (.Call (.Name x p) (e::es) [] pos) (xQ r t):=by
 intro a s d H Q I h;show bx<|kG I n o u ?_ q b;show Sm (aW (j pos a s d H _ I h) λz y ⟨A,g,i,w,v⟩=>hc a y d g A z Q i w v) k c
def a9d(hc:Ü X (.type T) r)(n:Gl X x)(o:X.mg x=b4)(u:Ψ x=b3 (.type T))(j:PA X (e::es) t)(q:x ≠ "__name__":=by decide)(b:(x==("__debug__":Str))=false:=by decide)(k:ý (e::es) X.env=(b5,eval e X.env)::ý es X.env:=by rfl)(c:(ŕ pos<|ý es X.env).any (·.1)=false:=by rfl):PE X (.Call (.Name x p) (e::es) [] pos) (xQ r t):=by
 intro a s d H Q I h;show bx<|kG I n o u ?_ q b;show qg (aW (j pos a s d H _ I h) λz y ⟨A,g,i,w,v⟩=>hc a y d g A z Q i w v) k c
section
variable{κ:Type} [DecidableEq κ]
abbrev k9(kvs:List (κ×V))(k:κ):Option V:=(kvs.find? λa=>decide<|a.1=k).map (·.2)
def a9c{k:κ}(e:p.1=k):k9 (p::r) k=b3 p.2:=by simp[k9,ű,e]
def a9b{k:κ}(e:¬ p.1=k):k9 (p::r) k=k9 r k:=by simp[k9,ű,e]
def ŏ.isSome_eq(r:ŏ o u):o.isSome=u.isSome:=by
 cases o with
 |none=>cases u with
  |none=>rfl|some _=>show(show False from r).elim
 |some _=>cases u with
  |none=>show(show False from r).elim|some _=>rfl
def ŏ.getD(r:ŏ o u)(a:Ì d d'):Ì (o.getD d) (u.getD d'):=by
 cases o with
 |none=>cases u with
  |none=>show a|some _=>show(show False from r).elim
 |some _=>cases u with
  |none=>show(show False from r).elim|some _=>show r
def KV.val(r:KV kvs vs)(k:κ):ŏ (k9 kvs k) (fC vs k):=by
 unfold KV at r;induction r with
 |nil=>show ϰ|@cons p q i c h t g=>
  let⟨h1,d⟩:=h;by_cases e:p.1=k
  .let a:q.1=k:=h1.symm.trans e;let b:fC (q::c) k=b3 q.2:=by simp[fC,ű,a]
   rw[a9c e,b];show d
  .let a:¬ q.1=k:=λz=>e<|h1.trans z;let b:fC (q::c) k=fC c k:=by simp[fC,ű,a]
   rw[a9b e,b];show g
def KV.length{kvs:List (κ×V)}(r:KV kvs vs):kvs.length=vs.length:=Ob r
end
def Fh(r:Ì (kV k) u):(jS P w).is k u=true:=by
 cases k with
 |inl i=>let⟨t,e⟩:=(show ∃t,u=Ġ i t from r);subst e;show b1d P w i t|inr x=>let⟨t,e⟩:=(show ∃t,u=lY x t from r);subst e;show b1W P w x t
def Â.big{σ:St}(I:Â X Do σ H s):ļ<s.heap.objs.size:=by let h:Ų<s.heap.objs.size:=(I.mod.glob.keeps I.bk).lt;show N6 ⋯ h
def xR{σ:St}(I:Â X Do σ H s)(g:uZ (H a))(e:Κ a s.heap h')(d:∃q,h'.get? a=b3 q)(new:Þ X.prog X.w (upd H a ob) h' a ob):
  Â X Do σ (upd H a ob) {s with heap:=h',toks:=t'}:=
 I.write (x:=a) (e:=a) g (.inl rfl) (λb q c z=>(e.2 b c).trans z) d new
abbrev Fi(i:Expr):Prop:=∀b a,MK i b5 b a=operate [b,a] (qu b a)
def Fj{id:String}(p:ym (.type T) "__getitem__"=pure (b3<|.builtin id))(q:Fi a)(h:È (Í prog w) A (eval b env) (λo e=>È (Í prog w) A (eval a env) (λi c=>c.TypeIs o T/\È (Í prog w) A (qu o i) Q E c) E e) E s):
  È (Í prog w) A (eval (.Subscript b a pos) env) Q E s:=by
 show MQ<|Ŗ h (λo e j=>Ŗ j (λi c d=>?_) λ_ y x=>x) λ_ y x=>x;let⟨n,d⟩:=d;ext N2;show Á ?_;rw[getitemInPython_of_ne n.not_modules];show Á<|uf n p ?_;let fin:È (Í prog w) A (MK a b5 o i) (λr g=>È (Í prog w) A (letTemporaryGo b o r >>= λ_=>pure r) Q E g) E c:=by rw[q o i];show wpAny_operating<|Ŗ d (λr g k=>Á<|wpAny_letTemporaryGo<|Ê k) λ_ y x=>x
 first
  |show Ê (Á fin)|show Á (Ê<|Á fin)|show Á fin
abbrev Fm:List (TE×TE)->St->Hp->(List (V×V)->Hp->Prop)->Prop
 |[],_,H,Q=>Q [] H|(tk,tv)::r,σ,H,Q=>tk σ H λx a=>tv σ a λy b=>Fm r σ b λd c=>Q ((x,y)::d) c
noncomputable abbrev VV:List (V×V)->List (Value×Value)->Prop:=Τ λp q=>Ì p.1 q.1/\Ì p.2 q.2
abbrev a9X(X:Cx)(pos:Į)(keys:List (Option Expr))(a:List Expr)(b:List (TE×TE)):Prop:=
 ∀(Do:jw)(s:Ù)(σ:St)(H:Hp)(Q:List (V×V)->Hp->Prop),Â X Do σ H s->Fm b σ H Q->
  È (Í X.prog X.w) X.A (evalPairs<|pairTrees keys a X.env pos) (λg e=>∃d c,Â X Do σ c e/\VV d g/\Q d c) X.xe s
structure a5v(X:Cx)(o:Expr)(m:Str)(apos:Į)(e:Expr)(cpos:Į):Prop where
 base:gk o m X.env (eval o X.env)=eval o X.env
 few:((ŕ cpos (ý [e] X.env)).all (λx=>!x.1)&&(kj cpos (m7 [] X.env)).all (λx=>x.1.isSome)
  && decide (([e]:List Expr).length+([]:List Φ).length+(if([]:List Φ).isEmpty then 0 else 1)<30))=dI
 line:(apos.endLine==cpos.line)=dI
 trees:ŕ cpos (ý [e] X.env)=[(b5,eval e X.env)]
structure a5u(X:Cx)(o:Expr)(m:Str)(apos:Į)(e f:Expr)(cpos:Į):Prop where
 base:gk o m X.env (eval o X.env)=eval o X.env
 few:((ŕ cpos (ý [e,f] X.env)).all (λx=>!x.1)&&(kj cpos (m7 [] X.env)).all (λx=>x.1.isSome)
  && decide (([e,f]:List Expr).length+([]:List Φ).length+(if([]:List Φ).isEmpty then 0 else 1)<30))=dI
 line:(apos.endLine==cpos.line)=dI
 trees:ŕ cpos (ý [e,f] X.env)=[(b5,eval e X.env),(b5,eval f X.env)]
abbrev Ú(H:Hp)(a:Addr):Prop:=(∃kvs,Rd H a (.dK kvs))\/∃kvs,Rd H a (.dT kvs)
end L2
namespace HT
open PySem PyProof.Rows
abbrev lexLt:List Int->List Int->Bool
 |[],[]=>b5|[],_::_=>dI|_::_,[]=>b5|x::xs,y::ys=>if x=y then lexLt xs ys else decide (x<y)
def lexLt_cons x y xs a:lexLt (x::xs) (y::a)=if x=y then lexLt xs a else decide (x<y):=rfl
def a9W:lexLt [] []=false:=rfl
def a9M y a:lexLt [] (y::a)=true:=rfl
def a9K x xs:lexLt (x::xs) []=false:=rfl
def a9J A s a t c u:∃e,m5 A s (.int a t) (.int c u) e/\(e=dI↔a=c):=
 ⟨(a==c),RZ a t c u,∅⟩
def b2A A s a t c u prog w E Q(h:Q (.bool<|decide<|a<c) s):
  È (Í prog w) A (rE .Lt (.int a t)<|.int c u) Q E s:=
 (SN h:È (Í prog w) A (ĳ .Lt (.int a t)<|.int c u) Q E s)
section
open PySem.SeqAt
open PySem.AutoSeq1 (wpAny_loadPart')
open PySem.MeetsSeq PySem.MeetsSeq2 PySem.MeetsSeq3
set_option maxHeartbeats 1000000 in
def b1y l b items i n n2 Z O sl U ns L(hi:ų items.toList ns)(X:ų i.toList L):
  Meets (Builtin.«tuple.__lt__» ⟨[.ref l,.ref b],[]⟩)
   (λ_ R s=>s.heap.get? l=b3 {cls:=.type "tuple",dict:=Z,data:=.seq items n,slots:=sl}/\s.heap.get? b=b3 {cls:=.type "tuple",dict:=O,data:=.seq i n2,slots:=U} /\
    R (.ok<|.ret<|.bool<|lexLt ns L) s):=
 .of_wp λE w A R s h=>by
  let⟨K,g,d,N,M⟩:=s;let⟨hl,hb,h⟩:=h;let f2:=AutoSeq1.sub_tuple_tuple;let z1:items.size=ns.length:=by rw[<- hi.length];simp
  let z2:i.size=L.length:=by rw[<- X.length];simp
  wp_walk using Pu hl,Pu hb,OZ _ (λcH b T=>b.1=b4/\T=⟨K,g,d,N,M⟩/\∃(vs ws:gw)(o k:List Int),cH=vs.zip ws /\
   ų vs o/\ų ws k/\o.length+i.size=k.length+items.size/\R (.ok<|.ret<|.bool<|lexLt o k) ⟨K,g,d,N,M⟩) _
  case turn=>
   rintro⟨y,x⟩ cH b T ⟨G,rfl,vs,ws,o,k,v,H,p,j,z⟩;cases H with
   |nil=>rw[List.zip_nil_left]at v;ext v|cons a t I=>
    cases p with
    |nil=>rw[List.zip_nil_right]at v;ext v|cons c u J=>
     rw[Qx]at v;injection v with hyx hrest;injection hyx with hy hx;subst hy hx;rw[lexLt_cons]at z;dsimp[ņ]at j;let⟨e,he,B⟩:=a9J A.in1 ⟨K,g,d,N,M⟩ a t c u;show Á<|he E w _ _ ?_;cases e with
     |true=>rw[if_pos<|B.mp rfl]at z;wp_walk;show⟨rfl,rfl,_,_,_,_,hrest,I,J,(),z⟩|false=>rw[if_neg λq=>absurd (B.mpr q) ô]at z;let Q:=b2A A.in1 ⟨K,g,d,N,M⟩ a t c u E w;wp_walk using Q;show⟨_,rfl,by apply z⟩
  case fin=>
   rintro⟨b1,b2⟩ T ⟨G,rfl,vs,ws,o,k,v,H,p,j,z⟩;simp only at G;subst G;let Y:lexLt o k=decide (items.size<i.size):=by
    cases H with
    |nil=>
     cases p with
     |nil=>dsimp[uv]at j;rw[a9W];show(decide_eq_false ()).symm|cons c u hw=>dsimp[uv,ņ]at j;rw[a9M];show(decide_eq_true ()).symm
    |cons a t Y=>
     cases p with
     |nil=>dsimp[uv,ņ]at j;rw[a9K];show(decide_eq_false ()).symm|cons c u hw=>rw[Qx]at v;ext v
   rw[Y]at z;wp_walk;show⟨_,rfl,by simpa[b4w]using z⟩
  case h=>show⟨rfl,rfl,items.toList,i.toList,ns,L,rfl,hi,X,(),h⟩
end
def lt_tupInts(z:J4 s.heap l items)(v:J4 s.heap b a)(hi:ų items.toList ns)(y:ų a.toList g)(B:A.units<ÿ)(h:Q (.bool<|lexLt ns g) s):È (Í prog w) A (ĳ .Lt (.ref l)<|.ref b) Q E s:=by
 obtain⟨⟨cls,u,p,H⟩,q,hc,n,hd⟩:=id z;obtain⟨⟨o,j,i,k⟩,e,c,G,d⟩:=id v;simp only at hc hd c d;subst hc hd c d;show richCompare_meets_room (op:=.Lt) ⟨_,q,rfl⟩ ⟨_,e,rfl⟩ PySem.F.slot_tuple_lt PySem.F.entry_tuple_lt (PySem.F.args_tuple_lt_2 _ _) (b1y l b items a n G u j H k ns g hi y)
  ⟨q,e,show Η (lexLt ns g)≠Value.notImplemented/\Q (.bool<|lexLt ns g) s from⟨(λx=>nomatch x),h⟩⟩ B
def cat_tup{vs ws:gw}(z:J4 s.heap t vs.toArray)(y:J4 s.heap b ws.toArray)(q:vs≠[])(h1:ws=[]->Q (.ref t) s)(x:ws≠[]->Q (.ref s.heap.objs.size) {s with heap:=s.heap.push {cls:=.type "tuple",data:=.seq (vs++ws).toArray}})(hsz:vs.length+ws.length<=Ñ):È (Í prog w) A (Υ .Add (.ref t)<|.ref b) Q E s:=by
 obtain⟨⟨cls,p,o,v⟩,i,hc,n,hd⟩:=id z;obtain⟨⟨k,c,j,h⟩,a,d,u,g⟩:=id y;simp only at hc hd d g;subst hc hd d g;let e:vs.toArray++ws.toArray=(vs++ws).toArray:=∅
 by_cases hw:ws=[]
 .show concat_meets ⟨_,i,rfl⟩ ⟨_,a,rfl⟩ Q3 seq_tuple_add S7 SE (SO _ _)
   (tuple_addW1 t b vs.toArray ws.toArray n u p c v h (by apply q)<|by simp[hw]) ⟨i,a,h1 hw⟩
 .show concat_meets ⟨_,i,rfl⟩ ⟨_,a,rfl⟩ Q3 seq_tuple_add S7 SE (SO _ _)
   (tuple_addW2 t b vs.toArray ws.toArray n u p c v h (by apply q) (by apply hw)<|by rw[ğ,ğ];show hsz) ⟨i,a,?_⟩
  rw[e];show x hw
abbrev sIx(n d:Nat):Option Int->Nat
 |none=>d|some v=>if v<0 then(v+(n:Int)).toNat else min v.toNat n
def sIx_none n d:sIx n d b4=d:=rfl
def sIx_nat(n d k:Nat):sIx n d (b3 (k:Int))=min k n:=by change(if(k:Int)<0 then((k:Int)+(n:Int)).toNat else min (k:Int).toNat n)=min k n;rw[if_neg (),bw]
end HT
namespace L2
open PySem PySem.Spec PyProof.Rows
noncomputable abbrev TO:=St->Hp->(Option Int->Hp->Prop)->Prop
abbrev PO(X:Cx)(e:Option Expr)(t:TO):Prop:=
 ∀(Do:jw)(s:Ù)(σ:St)(H:Hp)(Q:Option Int->Hp->Prop),Â X Do σ H s->t σ H Q->
  È (Í X.prog X.w) X.A (evalPart e X.env) (λu b=>∃o a,Â X Do σ a b/\IsPart u o/\Q o a) X.xe s
abbrev b1w:TO:=λ_ H Q=>Q b4 H
abbrev b1v(t:TE):TO:=λσ H Q=>t σ H λx a=>∃i,x=.int i/\Q (b3 i) a
def xS:∀{us},Å (ns.map V.int) us->ų us ns:=by
 induction ns with
 |nil=>intro us r;rw[϶]at r;ext r;show .nil|cons n ns a=>
  intro us r;rw[ó]at r;cases r with
  |cons b c=>let⟨t,e⟩:=b;subst e;show .cons n t<|a c
def b1s:PO X b4 b1w:=by intro a s b H Q I h;rw[evalPart_none];show Ê ⟨b4,H,I,.none,h⟩
def b1p(h:PE X e te):PO X (b3 e) (b1v te):=by intro a s j H Q I hw;rw[evalPart_some];show aW (h a s j H _ I hw) λu k ⟨x,b,c,g,d⟩=>?_;let⟨i,rfl,q⟩:=d;let⟨t,rfl⟩:=g;show⟨b3 i,b,c,.int i t,q⟩
abbrev Bq(X:Cx)(r:V->Option Int->Option Int->Hp->VK->Prop):Prop:=
 ∀(Do:jw)(s:Ù)(σ:St)(H:Hp)(x:V)(v b c:Value)(lo hi:Option Int)(a:Addr)(Q:VK),Â X Do σ H s->Ì x v->s.heap.IsSliceOf a b c .none->IsPart b lo->IsPart c hi->r x lo hi H Q->
  ∃T id,ym (.type T) "__getitem__"=pure (b3<|.builtin id)/\s.TypeIs v T/\È (Í X.prog X.w) X.A (qu v<|.ref a) (EP X Do σ Q) X.xe s
abbrev b1o(r:V->Option Int->Option Int->Hp->VK->Prop)(te:TE)(tl th:TO):TE:=λσ H Q=>te σ H λx a=>tl σ a λl b=>th σ b λu c=>r x l u c Q
def b1n{lo:Option Expr}(G:Bq X r)(A:PE X e te)(E:PO X lo tl)(K:PO X hi th):PE X (.Subscript e (.Slice lo hi b4 p2) pos) (b1o r te tl th):=by intro a s d H Q I h;show MQ<|aW (A a s d H _ I h) λv U ⟨x,k,o,R,M⟩=>?_;show wpAny_Slice<|aW (E a U d k _ o M) λg Y ⟨l,n,p,pl,N⟩=>aW (K a Y d n _ p N) λi c ⟨u,j,w,L,O⟩=>?_;rw[evalPart_none];show Ê ?_;let y:Â X a d j {c with heap:=c.heap.push {cls:=.type "slice",data:=.fields #[g,i,.none]}}:=w.kept (t':=c.toks) λb ob q=>ß _ q;let⟨T,id,z,J,B⟩:=G a {c with heap:=c.heap.push {cls:=.type "slice",data:=.fields #[g,i,.none]}} d j x v g i l u c.heap.objs.size Q y R (Rv ..) pl L O;change È (Í X.prog X.w) X.A (N2 e (.Slice lo hi b4 p2) v<|.ref c.heap.objs.size) (EP X a d Q) X.xe {c with heap:=c.heap.push {cls:=.type "slice",data:=.fields #[g,i,.none]}};show Nt (ops:=[.ref c.heap.objs.size,v]) J z B<|by with_unfolding_all rfl
abbrev pS(xs:gz)(lo hi:Option Int):gz:=(xs.drop<|HT.sIx xs.length 0 lo).take<|HT.sIx xs.length xs.length hi-HT.sIx xs.length 0 lo
def b1m xs lo hi:(pS xs lo hi).length<=xs.length:=by ext pS;rw[Ι,uw];lia
abbrev Fn(K:Õ):R2:=λx y H Q=>∃a b xs c,x=.ref a/\y=.ref b/\å K H a xs/\å K H b c/\xs≠[]/\xs.length+c.length<=Ñ /\
 (c=[]->Q (.ref a) H)/\(c≠[]->∀p,H p=b4->Q (.ref p) (upd H p<|.tup<|xs++c))
def Å.nil_iff(r:Å xs us):us=[]↔xs=[]:=by
 cases r with
 |nil=>simp|cons _ _=>simp
def b1l:ď X (Υ .Add) (Fn X.K):=by intro j s L H x y v u Q I E G h;let⟨a,b,J,K,rfl,rfl,k,n,o,g,A,B⟩:=h;ext E;ext G;let⟨its,d,p,_⟩:=I.tuple k;let⟨i,c,p2,_⟩:=I.tuple n;show HT.cat_tup p p2 (λz=>o<|d.nil_iff.mp z) (λz=>⟨.ref a,H,I,rfl,A<|c.nil_iff.mp z⟩) (λz=>?_) (by rw[<- d.length,<- c.length];show g);show⟨.ref s.heap.objs.size,_,I.laid (t':=s.toks) (o:=.tup (J++K)) (λb ob q=>ß _ q) (Ø _) ?_,rfl,B (λw=>z<|c.nil_iff.mpr w) _<|I.hok.fresh<|Ø _⟩;show⟨by rw[ă];show g,_,d.append c,Ž.new _ _⟩
abbrev mJ(n:Nat)(i:Int):Option Nat:=if 0<=i then(if i<n then b3 i.toNat else b4)else if -(n:Int)<=i then b3 (i+n).toNat else b4
abbrev atI{a:Type}(xs:List a)(i:Int):Option a:=(mJ xs.length i).bind λj=>xs[j]?
def b1Z(h:mJ n i=b3 j):yp i n=b3 j/\j<n/\-(n:Int)<=i/\i<n:=by
 unfold mJ at h;by_cases h0:0<=i
 .rw[if_pos h0]at h;by_cases h1:i<n
  .rw[if_pos h1]at h;let e:i.toNat=j:=ē h;show⟨by rw[seqIndex_of h0 h1,e],(),(),h1⟩
  .rw[if_neg h1]at h;ext h
 .rw[if_neg h0]at h;by_cases h1:-(n:Int)<=i
  .rw[if_pos h1]at h;let e:(i+n).toNat=j:=ē h;show⟨by rw[seqIndex_neg () h1,e],(),h1,()⟩
  .rw[if_neg h1]at h;ext h
def Br{xs:List a}{v:a}(h:atI xs i=b3 v):∃j,yp i xs.length=b3 j/\xs[j]?=b3 v/\j<xs.length/\-(xs.length:Int)<=i/\i<xs.length:=by
 unfold atI at h;cases e:mJ xs.length i with
 |none=>rw[e]at h;ext h|some j=>rw[e]at h;let⟨h1,b,c,d⟩:=b1Z e;show⟨j,h1,h,b,c,d⟩
abbrev Bs(b:Expr):Prop:=∀o i,MK b b5 o i=operate [o,i] (qu o i)
abbrev dh(X:Cx)(r:R2):Prop:=
 ∀(b a:Expr)(Do:jw)(s:Ù)(σ:St)(H:Hp)(x y:V)(v u:Value)(Q:VK),Â X Do σ H s->Ì x v->Ì y u->r x y H Q->
  MK a b5 v u=operate [v,u] (qu v u)->È (Í X.prog X.w) X.A (N2 b a v u) (EP X Do σ Q) X.xe s
abbrev b1Y(X:Cx)(id:String)(r:V->gz->Hp->VK->Prop):Prop:=
 ∀(Do:jw)(s:Ù)(σ:St)(H:Hp)(x:V)(xs:gz)(v:Value)(us:gw)(Q:VK),Â X Do σ H s->Ì x v->Å xs us->r x xs H Q->
  È (Í X.prog X.w) X.A (call (.builtin id)<|v::us) (EP X Do σ Q) X.xe s
def dh.or(h:dh X r)(h':dh X i):dh X (λx y H Q=>r x y H Q\/i x y H Q):=by
 intro d c e s n H x y v u Q I j k q g;rcases q with q|q
 .show h d c e s n H x y v u Q I j k q g
 .show h' d c e s n H x y v u Q I j k q g
def b1K(j:dh X r)(g:PE X a ta)(i:PE X b tb)(k:Bs b):PE X (.Subscript a b pos) (vA r ta tb):=by intro c s w H Q I h;show MQ<|Bh g i I h λv u p x y d e n o q=>j a b c p w d x y v u Q e n o q<|k _ _
abbrev Fo(K:Õ):R2:=λx y H Q=>∃p xs i v,x=.ref p/\y=.int i/\Ą K H p xs/\atI xs i=b3 v/\Q v H
abbrev Fp(K:Õ):R2:=λx y H Q=>∃p xs i v,x=.ref p/\y=.int i/\å K H p xs/\atI xs i=b3 v/\Q v H
abbrev Fq:R2:=λx y H Q=>∃z i c,x=.str z/\y=.int i/\z.length<=Ñ/\atI z.cps.toList i=b3 c/\Q (.str ⟨#[c]⟩) H
def aq:dh X (Fo X.K):=by
 intro k g c s A H x y v u Q I M N h o;let⟨p,Y,i,z,rfl,rfl,L,J,q⟩:=h;ext M;let⟨t,rfl⟩:=N;let⟨its,r,pl,U⟩:=I.list L;let⟨j,h1,B,R,E,G⟩:=Br J;let⟨w,n,e⟩:=r.get B;let K:=r.length;let T:=rB;let fin:EP X c A Q w s:=⟨z,H,I,e,q⟩;by_cases h0:0<=i
 .let d:i.toNat=j:=by rw[seqIndex_of h0 G]at h1;show ē h1
  show item_listR pl.isList h0 () (by rw[d];apply n) fin o
 .let d:(i+(its.toArray.size:Int)).toNat=j:=by rw[seqIndex_neg () E]at h1;rw[ğ,<- K];show ē h1
  show Qs (x:=w) pl.isList.typeIs OS.lookup
   (wpAny_getItem_list_neg (Q:=λr O=>r=w/\EP X c A Q r O) pl.isList () (by rw[ğ]<;>lia) () (by rw[d];apply n) ⟨rfl,fin⟩) o
def jn:dh X (Fp X.K):=by
 intro g e c s k H x y v u Q I J K h G;let⟨p,U,i,z,rfl,rfl,E,A,q⟩:=h;ext J;let⟨t,rfl⟩:=K;let⟨its,r,pl,T⟩:=I.tuple E;let⟨j,h1,o,M,N,O⟩:=Br A;let⟨w,n,d⟩:=r.get o;let B:=r.length;let R:=rB;let fin:EP X c k Q w s:=⟨z,H,I,d,q⟩;show Qs (x:=w) pl.typeIs slot_tuple_getitem.lookup
  (getItem_tuple (j:=j) (Q:=λr L=>r=w/\EP X c k Q r L) pl () () (by rw[ğ,<- B];show h1) (by apply n) ⟨rfl,fin⟩) G
def b1G:dh X Fq:=by
 intro e d g s O H x y v u Q I G J h E
 obtain ⟨z,i,c,rfl,rfl,M,A,q⟩:=h
 obtain ⟨t,rfl⟩:=G
 obtain ⟨N,rfl⟩:=J
 obtain ⟨j,h1,o,K,p,w⟩:=Br A
 let B:z.cps.toList.length=z.length:=by simp [Str.length]
 rw [B] at h1 p w
 let L:=rB
 show Nt (typeIs_str s z t) slot_str_getitem.lookup (getItem_str (c:=c) (by
  let k:decide (i < -(2 ^ 63:Int))=false:=decide_eq_false ()
  let n:decide (i >= 2 ^ 63)=false:=decide_eq_false ()
  rw [k,n,MZ]) (by rw [h1];apply o) ⟨.str ⟨#[c]⟩,H,I.tok _,⟨_,rfl⟩,q⟩) E
abbrev Fs (K:Õ):R2:=fun x y H Q=>Fo K x y H Q\/Fp K x y H Q\/Fq x y H Q
def b1F:dh X (Fs X.K):=aq.or<|jn.or b1G
def b1C lo hi n:(R4 lo hi b4 n).1=((HT.sIx n 0 lo:Nat):Int)/\(R4 lo hi b4 n).2.1=((HT.sIx n n hi:Nat):Int)/\(R4 lo hi b4 n).2.2=1:=by
 show⟨?_,?_,rfl⟩
 .cases lo with
  |none=>simp[R4,HT.sIx]|some i=>
   dsimp[R4,HT.sIx,NA,show(1:Int)>0 by decide,if_true];by_cases h:i<0
   .dsimp[h,if_true]<;>lia
   .dsimp[h,if_false]<;>lia
 .cases hi with
  |none=>simp[R4,HT.sIx]|some i=>
   dsimp[R4,HT.sIx,NA,show(1:Int)>0 by decide,if_true];by_cases h:i<0
   .dsimp[h,if_true]<;>lia
   .dsimp[h,if_false]<;>lia
def b1B(its:gw)lo hi:MC its.toArray lo hi b4=((its.drop<|HT.sIx its.length 0 lo).take<|HT.sIx its.length its.length hi-HT.sIx its.length 0 lo).toArray:=by let⟨h1,c,d⟩:=b1C lo hi its.toArray.size;ext MC;rw[h1,c,d];dsimp[sliceRange_one,pick_run,ğ]<;>rfl
abbrev Bt(K:Õ):V->Option Int->Option Int->Hp->VK->Prop:=λx lo hi H Q=>∃a xs,x=.ref a/\Ą K H a xs/\∀p,H p=b4->Q (.ref p) (upd H p<|.lst<|pS xs lo hi)
def b1A:Bq X (Bt X.K):=by intro i s z H x v w y e hi u Q I p j pl o h;let⟨a,c,rfl,k,q⟩:=h;ext p;let⟨its,r,g,n⟩:=I.list k;let d:=r.length;show⟨"list",_,OS.lookup,g.isList.typeIs,?_⟩;show Rf g.isList j pl o .none ∅ ?_ (by rw[ğ]<;>lia);rw[b1B,<- d];show⟨.ref s.heap.objs.size,_,I.laid (t':=s.toks) (o:=.lst (pS c e hi)) (λb ob q=>ß _ q) (Ø _) ?_,rfl,q _<|I.hok.fresh<|Ø _⟩;show⟨Ğ (b1m c e hi) n,_,0,(r.drop<|HT.sIx c.length 0 e).take<|HT.sIx c.length c.length hi-HT.sIx c.length 0 e,ć _ rfl⟩
def Ft:ď X (ĳ .NotIn) (λx y H Q=>∃i j,x=.str i/\y=.str j/\Q (.bl<|!(!(je j i 0 j.length 1).isEmpty)) H):=by intro c s k H x y v u Q I d e h;let⟨i,j,rfl,rfl,q⟩:=h;let⟨t,rfl⟩:=d;let⟨g,rfl⟩:=e;show notIn_str ⟨.bl _,H,I,rfl,q⟩
def ů:Ü X (.builtin "len") (λxs H Q=>∃p d,xs=[.ref p]/\(Ą X.K H p d\/å X.K H p d)/\Q (.int d.length) H):=by
 intro i s v H xs o Q I r h;let⟨p,d,rfl,e,q⟩:=h;let⟨u,rfl,k⟩:=gU r;ext k;let n:=rB;rcases e with e|e
 .let⟨its,g,pl,j⟩:=I.list e;let c:=g.length;show Calls.call_len_list pl.isList (by dsimp[ğ]<;>lia) ⟨.int d.length,H,I.tok _,⟨s.toks+1,by rw[ğ,c]⟩,q⟩
 .let⟨its,g,pl,j⟩:=I.tuple e;let c:=g.length;show len_tuple pl (by dsimp[ğ]<;>lia) ⟨.int d.length,H,I.tok _,⟨s.toks+1,by rw[ğ,c]⟩,q⟩
def b0v:Ü X (.builtin "len") (λxs H Q=>∃z,xs=[.str z]/\z.length<=Ñ/\Q (.int z.length) H):=by intro c s i H xs g Q I r h;let⟨z,rfl,e,q⟩:=h;let⟨u,rfl,t,rfl⟩:=gU r;let d:=rB;show len_str () ⟨.int z.length,H,I.tok _,⟨_,rfl⟩,q⟩
def Ü.or(h:Ü X f r)(h':Ü X f d):Ü X f (λxs H Q=>r xs H Q\/d xs H Q):=by
 intro c s g H xs e Q I rs q;rcases q with q|q
 .show h c s g H xs e Q I rs q
 .show h' c s g H xs e Q I rs q
def Ů:Ü X (.type "list") (λxs H Q=>∃p d,xs=[.ref p]/\(Ą X.K H p d\/å X.K H p d)/\∀l,H l=b4->Q (.ref l) (upd H l<|.lst d)):=by
 intro v s z H xs A Q I r h;let⟨p,d,rfl,i,q⟩:=h;let⟨u,rfl,y⟩:=gU r;ext y;let fin:∀(its:gw),Å d its->d.length<=Ñ->∀(h':í)(c':Nat),(∀b x,s.heap.get? b=b3 x->h'.get? b=b3 x)->
   h'.get? s.heap.objs.size=b3 {cls:=.type "list",dict:=b4,data:=.seq its.toArray c',slots:=#[]}->EP X v z Q (.ref s.heap.objs.size) {s with heap:=h'}:=λits c j h' c' k e=>
  ⟨.ref s.heap.objs.size,_,I.laid (t':=s.toks) k (Ø _)<|show Þ X.prog X.w _ h' _ (.lst d)from⟨j,its,c',c,e⟩,rfl,q _<|I.hok.fresh<|Ø _⟩
 rcases i with i|i
 .let⟨its,c,pl,j⟩:=I.list i;let g:=c.length;let⟨o,w,hc,n,hd⟩:=pl.isList;show call_list_seq p (.inl rfl) w hc hd (λh' c' k e=>fin its c j h' c' k e)<|by dsimp[ğ]<;>lia
 .let⟨its,c,pl,j⟩:=I.tuple i;let g:=c.length;let⟨o,w,hc,n,hd⟩:=pl;show call_list_seq p (.inr rfl) w hc hd (λh' c' k e=>fin its c j h' c' k e)<|by dsimp[ğ]<;>lia
def b0u:Ü X (.type "tuple") (λxs H Q=>∃p c,xs=[.ref p]/\((Ą X.K H p c/\∀l,H l=b4->Q (.ref l) (upd H l<|.tup c))\/(å X.K H p c/\Q (.ref p) H))):=by
 intro d s w H xs A Q I r h;let⟨p,c,rfl,h⟩:=h;let⟨u,rfl,z⟩:=gU r;ext z;rcases h with⟨i,q⟩|⟨i,q⟩
 .let⟨its,j,pl,v⟩:=I.list i;let n:=j.length;show call_tuple_list pl.isList (λg y=>?_) (by dsimp[ğ]<;>lia);let k:Â X d w H {s with heap:=g}:=I.kept (t':=s.toks) y;let x:Â X d w (upd H g.objs.size<|.tup c) {s with heap:=g.push {cls:=.type "tuple",data:=.seq its.toArray}}:=
   k.laid (t':=s.toks) (λb o e=>ß _ e) (Ø _)<|show Þ X.prog X.w _ _ _ (.tup c)from⟨v,its,j,Ž.new _ _⟩
  show⟨.ref g.objs.size,_,x,rfl,q _<|k.hok.fresh<|Ø _⟩
 .let⟨its,j,pl,v⟩:=I.tuple i;show call_tuple_same pl ⟨.ref p,H,I,rfl,q⟩
abbrev Bu(K:Õ)(T:String)(x:V)(H:Hp):Prop:=match x with
 |.str _=>T="str"|.int _=>T="int"|.ref p=>(T="list"/\∃d,Ą K H p d)\/(T="tuple"/\∃o,K.lookup p=b3 o/\o.cls=.type "tuple"/\o.dict=b4) \/
   (T="dict"/\((∃c,H p=b3 (.dK c))\/∃c,H p=b3 (.dT c)))\/(T="set"/\∃S n,H p=b3 (.set S n))
 |_=>False
def b0r{σ:St}(I:Â X Do σ H s)(r:Ì x v)(ty:Bu X.K T x H):
  s.TypeIs v T/\∀a,v=.ref a->∃ob,s.heap.get? a=b3 ob/\ob.dict=none:=by
 cases x with
 |str z=>let⟨t,rfl⟩:=r;cases(show T="str" from ty);show⟨typeIs_str s z t,λ_ e=>nomatch e⟩|int i=>let⟨t,rfl⟩:=r;cases(show T="int" from ty);show⟨typeIs_int s i t,λ_ e=>nomatch e⟩|ref p=>
  ext r;rcases ty with⟨rfl,q,k⟩|⟨rfl,o,d,hc,hd⟩|⟨rfl,d⟩|⟨rfl,S,n,d⟩
  .let⟨its,_,pl,_⟩:=I.list k;show⟨pl.isList.typeIs,λa e=>?_⟩;ext e;let⟨o,n,e,c,hd,_⟩:=pl;show⟨o,e,hd⟩
  .show⟨⟨o,I.kIn p o d,hc⟩,λa e=>?_⟩;ext e;show⟨o,I.kIn _ o d,hd⟩
  .let z:∃o,s.heap.get? p=b3 o/\o.ExactDict:=by
    rcases d with⟨j,d⟩|⟨j,d⟩
    .let⟨_,_,_,_,o,_,_,e,g,_⟩:=I.hok p _ d;show⟨o,e,g⟩
    .let⟨_,_,_,_,o,_,_,e,g,_⟩:=I.hok p _ d;show⟨o,e,g⟩
   let⟨o,e,g⟩:=z;show⟨⟨o,e,g.1⟩,λa h=>?_⟩;ext h;show⟨o,e,g.2.1⟩
  .let⟨o,_,_,_,e,g,_⟩:=I.hok p _ d;show⟨⟨o,e,g.1⟩,λa h=>?_⟩;ext h;show⟨o,e,g.2.1⟩
 |_=>show υ ty
abbrev Fu(K:Õ)(T:String)(r:V->gz->Hp->VK->Prop)(to:TE)(t:TA):TE:=λσ H Q=>to σ H λx c=>Bu K T x c/\t σ c λxs d=>r x xs d Q
def b0q{id:String}(L:PlainAttrs T)(k:Slot T name id)(n:M3 (.builtin id)=pure (.type "method_descriptor"))(G:b1Y X id r)(J:PE X o to)(E:PA X (e::es) t)(g:gk o name X.env (eval o X.env)=eval o X.env:=by rfl)(j:((ŕ cpos (ý (e::es) X.env)).all (λx=>!x.1)&&(kj cpos (m7 [] X.env)).all (λx=>x.1.isSome)
   && decide ((e::es).length+([]:List Φ).length+(if([]:List Φ).isEmpty then 0 else 1)<30))=true:=by rfl)(i:(apos.endLine==cpos.line)=true:=by rfl)(K:ý (e::es) X.env=(b5,eval e X.env)::ý es X.env:=by rfl)(c:(ŕ cpos (ý es X.env)).any (·.1)=false:=by rfl):
  PE X (.Call (.Attribute o name apos) (e::es) [] cpos) (Fu X.K T r to t):=by
 intro d s p H Q I h;show Qt g j i rfl (aW (J d s p H _ I h) λv R ⟨x,y,q,w,ty,M⟩=>?_);let⟨h1,B⟩:=b0r q w ty;show⟨T,id,L,k,n,h1,B,?_⟩;let u:=E cpos d R p y _ q M;rw[K]at u ⊢;show zr (by change(b5||(ŕ cpos (ý es X.env)).any (·.1))=b5;rw[c]<;>rfl) (Ro ?_);show aW u λY U ⟨Z,z,A,O,N⟩=>G d U p z x Z v Y Q A w O N
abbrev nH(X:Cx)(id:String)(r:V->gz->Hp->VK->Prop):Prop:=
 ∀(Do:jw)(s:Ù)(σ:St)(H:Hp)(x:V)(xs:gz)(v:Value)(us:gw)(Q:VK),Â X Do σ H s->Ì x v->Å xs us->r x xs H Q->
  È (Í X.prog X.w) X.A (call (.builtin id)<|v::us) (EP X Do σ Q) X.xe s
def Å.one(h:Å [x] us):∃u,us=[u]/\Ì x u:=by
 cases h with
 |cons r t=>ext t;show⟨_,rfl,r⟩
def Å.two(h:Å [x,y] us):∃u v,us=[u,v]/\Ì x u/\Ì y v:=by
 cases h with
 |cons r t=>let⟨v,rfl,q⟩:=Å.one t;show⟨_,v,rfl,r,q⟩
def Å.eraseIdx:∀{xs}{us}i,Å xs us->Å (xs.eraseIdx i) (us.eraseIdx i)
 |_,_,_,.nil=>.nil|_,_,0,.cons _ t=>t|_,_,i+1,.cons r t=>.cons r<|Å.eraseIdx i t
def Fv{a:Type}:∀(l:List a)i,(l.eraseIdx i).length<=l.length
 |[],_=>Ø _|_::_,0=>mL _|_::r,i+1=>Nat.succ_le_succ<|Fv r i
def Â.lset{σ:St}{its:gw}(I:Â X Do σ H s)(a:H l=b3 (.lst xs))(e:s.heap.get? l=b3 {cls:=.type "list",data:=.seq its.toArray n})(d:f its.toArray=its'.toArray)(h:Å ys its')(hz:ys.length<=Ñ):
  Â X Do σ (upd H l<|.lst ys) {s with heap:=s.heap.update l<|a4F f,toks:=t'}:=by
 let q:=PySem.IsL.update e f;rw[d]at q;show I.write (x:=l) (e:=l) (by rw[a];show trivial) (.inl rfl) (λi u c g=>(WF s.heap (a4F f)<|î c).trans g) ⟨_,q⟩ ?_;show⟨hz,its',_,h,q⟩
def Â.lnew{σ:St}(I:Â X Do σ H s)(a:Å ys its)(hz:ys.length<=Ñ):
  Â X Do σ (upd H s.heap.objs.size<|.lst ys) {s with heap:=s.heap.push {cls:=.type "list",data:=.seq its.toArray},toks:=t'}:=
 I.laid (λ_ x q=>ß _ q) (Ø _) ⟨hz,its,0,a,ć _ rfl⟩
def Â.fresh{σ:St}(I:Â X Do σ H s):H s.heap.objs.size=none:=I.hok.fresh<|Ø _
def Â.lstM{σ:St}(I:Â X Do σ H s)(a:H l=b3 (.lst xs)):xs.length<=Ñ/\∃(its:gw)(n:Nat),Å xs its/\xs.length=its.length/\s.heap.get? l=b3 {cls:=.type "list",data:=.seq its.toArray n}:=by let⟨z,its,n,r,e⟩:=I.hok l _ a;show⟨z,its,n,r,r.length,e⟩
def b0p(h:n<=Ñ):PY n=false:=by ext PY;show decide_eq_false ()
abbrev Fw:V->gz->Hp->VK->Prop:=λx vs H Q=>∃l xs y,x=.ref l/\vs=[y]/\H l=b3 (.lst xs)/\xs.length<Ñ/\Q .non (upd H l<|.lst<|xs++[y])
def Fx:nH X "list.append" Fw:=by intro b s w H x o v k Q I g d h;let⟨l,p,y,rfl,rfl,a,j,q⟩:=h;ext g;let⟨u,rfl,c⟩:=d.one;let⟨z,its,n,r,i,e⟩:=I.lstM a;show yh F.slot_list_append ⟨_,e,rfl⟩ F.entry_list_append (F.args_list_append_2 _ _) (PySem.list_append l its.toArray n u<|by rw[ğ];lia) ⟨e,?_⟩;show⟨.non,_,I.lset (its':=its++[u]) a e ∅ (r.append<|.cons c .nil) ?_,rfl,q⟩;rw[ă,PL];lia
abbrev Fy:V->gz->Hp->VK->Prop:=λx vs H Q=>∃l b xs a,x=.ref l/\vs=[.ref b]/\H l=b3 (.lst xs)/\H b=b3 (.lst a)/\xs.length+a.length<=Ñ/\Q .non (upd H l<|.lst<|xs++a)
def b0m:nH X "list.extend" Fy:=by
 intro i s O H x K v J Q I B A h;let⟨l,b,L,N,rfl,rfl,g,k,G,q⟩:=h;ext B;let⟨u,rfl,y⟩:=A.one;ext y;let⟨z,its,n,r,E,e⟩:=I.lstM g;let⟨M,a,p,w,o,j⟩:=I.lstM k;let d:its.toArray.size+a.toArray.size<=Ñ:=by rw[ğ,ğ];lia
 let c:¬ (!its.toArray.isEmpty&&PY (its.toArray.size+a.toArray.size))=true:=by rw[b0p d,Bool.and_false];show ô
 show yh F.slot_list_extend ⟨_,e,rfl⟩ F.entry_list_extend (F.args_list_extend_2 _ _)
  (AutoSeq1.list_extend_list_list_0 l its.toArray n b a.toArray p c (by rw[ğ];lia) ()) ⟨e,j,?_⟩
 show⟨.non,_,I.lset (its':=its++a) g e ∅ (r.append w) ?_,rfl,q⟩;rw[ă];lia
abbrev Fz:V->gz->Hp->VK->Prop:=λx vs H Q=>∃l xs i k y,x=.ref l/\vs=[.int i]/\H l=b3 (.lst xs)/\-(2^63)<=i/\i<2^63/\yp i xs.length=b3 k/\xs[k]?=b3 y/\Q y (upd H l<|.lst<|xs.eraseIdx k)
def b0X:nH X "list.pop" Fz:=by
 intro c s K H x J v G Q I B A h;let⟨l,E,i,k,y,rfl,rfl,b,h1,d,g,o,q⟩:=h;ext B;let⟨u,rfl,p⟩:=A.one;let⟨t,rfl⟩:=p;let⟨z,its,n,r,j,e⟩:=I.lstM b;let⟨w,hw,a⟩:=r.get o;show yh F.slot_list_pop ⟨_,e,rfl⟩ F.entry_list_pop (F.args_list_pop_2 _ _)
  (MeetsSeq.list_pop_at l its.toArray n i t k w (fitsIndex_both h1 d) (by rw[ğ,<- j];show g) (by rw[<- ϸ];show hw)<|by rw[ğ];lia) ⟨e,?_⟩
 show⟨y,_,I.lset (its':=its.eraseIdx k) b e ?_ (r.eraseIdx k) ?_,a,q⟩
 .change its.toArray.eraseIdxIfInBounds k=(its.eraseIdx k).toArray;rw[List.eraseIdxIfInBounds_toArray]
 .have:=Fv E k;lia
abbrev FA:R2:=λx y H Q=>∃l b xs a,x=.ref l/\y=.ref b/\H l=b3 (.lst xs)/\H b=b3 (.lst a)/\xs.length+a.length<=Ñ/\∀p,H p=b4->Q (.ref p) (upd H p<|.lst<|xs++a)
def b0T:ď X (Υ .Add) FA:=by
 intro c s L H x y v u Q I p w h;let⟨l,b,G,K,rfl,rfl,j,i,B,q⟩:=h;ext p;ext w;let⟨z,its,n,r,A,e⟩:=I.lstM j;let⟨J,a,E,o,k,d⟩:=I.lstM i;show PySem.P.add_list e d ?_ (by rw[ğ,ğ];lia);let g:its.toArray++a.toArray=(its++a).toArray:=∅
 rw[g];show⟨.ref _,_,I.lnew (t':=s.toks) (r.append o)<|by rw[ă];lia,rfl,q _ I.fresh⟩
end L2
namespace Att
open PySem PySem.W PySem.Calls PyProof.Rows
def b3L:∀ns(vs:gw),WellAll P h vs (ns.map su)->ų vs ns:=by
 intro ns;induction ns with
 |nil=>intro vs w;rw[϶]at w;ext w;show .nil|cons n ns c=>
  intro vs w;rw[ó]at w;cases w with
  |cons a b=>ext a;show .cons _ _<|c _ b
def script_of{l:OpenLaw}(w:l.most=b3 n){e:gw}(c:l.row.toRowW.claim.pre args=dI)(p:WellAll P h e args):
  ∃a s b,e=[Ö a]/\args=[WData.list<|b.map su]/\h.get? a=b3 {cls:=.type "list",data:=.seq s.toArray}/\ų s b/\b.length<=n:=by
 let o:WShape.hasAll [] args [.list .int]=true:=(pre_splitW c).1;let hc:l.pre.holds [] {args:=args}=true:=(pre_splitW c).2;let⟨d,r,rfl,h1,u⟩:=hasAllW_cons o;obtain rfl:=hasAllW_nil u;let⟨B,rfl,v⟩:=hasW_list h1;let⟨b,rfl⟩:=items_int v;let i:b.length<=n:=by
  unfold OpenLaw.pre at hc;let j:(WTm.not<|.lt (.lit<|.int (n:Int))<|.len<|.arg 0).holds [] {args:=[.list<|b.map .int]}=true:=by let j:=(holds_andW hc).1;rw[w]at j;show j
  let k:=condW_of j<|w_not<|w_lt w_lit<|w_len_list<|w_arg rfl;rw[Ã]at k;show QV λq=>?_;let y:(n:Int)<((b.length:Nat):Int):=()
  first
   |(rw[decide_eq_true y]at k;show absurd k ⋯)|(simp at k;lia)
 cases p with
 |cons z A=>
  ext A;cases z with
  |list x g=>show⟨_,_,b,rfl,rfl,x,b3L b _ g,i⟩
def post_true(l:OpenLaw)args:l.row.toRowW.claim.post args (.bool dI) args=true:=
 postW_of (r:=l.row.toRowW) (X:=(dI==dI))
  (show Qe [] (.bool dI) .bool=dI by first|rfl|decide|simp[Qe,WShape.arms,WShape.armsAll])
  (show(WTm.eq .res<|.lit<|.bool dI).value [] {args:=args,res:=b3<|.bool dI,after:=args}=b3 (.bool<|dI==dI)from w_eq_bool (w_res rfl) w_lit) rfl
end Att
namespace L2
open PySem PySem.Spec PyProof.Rows
def FC:∀{vs:gw}{ns},ų vs ns->Å (ns.map V.int) vs
 |_,_,.nil=>.nil|_,_,.cons n t h=>.cons ⟨t,rfl⟩<|FC h
abbrev FD(H:Hp):Prop:=∀b,H b=b4\/∃o xs,H b=b3 (.frz o<|.lst xs)
def law_call{K:Õ}{vs:gw}(KX:K.In c.heap)(I:c.heap.Ns Ų N)(g:c.heap.Ns O0 mb)(X:∀x:Str,x ≠ "__name__"->mb x=Ψ x)(G:c.heap.NoLimit)(hg:c.gens=#[])(Q:c.heap.get? a=b3 {cls:=.type "list",data:=.seq vs.toArray})(hi:ų vs ns)(hl:ns.length<=Ñ)(hr:ç k ju)(F:∀i,K.In i->i.Ns Ų N->ķ P w K N i CX k T fd [x] sp)(A:∀s u,kh s fd ⟨[u],[]⟩ [(x,u)])(Z:∀H,FD H->Ą K H a (ns.map V.int)->sp [.ref a] H (λv f=>v=.bl dI) λ_ f f=>False)(U:∀H e j,CX [] H c (λ_ f f=>False) e j->False):
  ο (Í P w) ju (.call (.ref T) ⟨[.ref a],[]⟩) (λr j=>r=.ok (.ret<|.bool dI)/\OldK c.heap j.heap/\j.os=c.os/\fc j.gens) c:=by
 let rv:=FC hi;let M:=hi.length
  -- from an abstract heap in which nothing but the script may be tracked
 let y:∀H:Hp,FD H->Ą K H a (ns.map V.int)->Ş P w H c.heap->(∀b,H b≠b4->b=a)->(H a≠b4->K.lookup a=b4)->
   ο (Í P w) ju (.call (.ref T) ⟨[.ref a],[]⟩) (λr j=>r=.ok (.ret<|.bool dI)/\OldK c.heap j.heap/\j.os=c.os/\fc j.gens) c:=by
  intro H hO hS J hA hK;let pY:∀{b:Addr}{o:Obj},c.heap.get? b=b3 o->H b=b4->(oM c.heap H).get? b=b3 o:=λe n=>b1D e n;let noA:∀{b:Addr}{o:Obj}{es:Array DictEntry}{ep:Nat},c.heap.get? b=b3 o->o.data=.dict es ep->H b=none:=λ{b o es ep} e d=>by
   cases q:H b with
   |none=>rfl|some u=>have R:b=a:=hA b (by rw[q];simp);subst R;rw[Q]at e;ext e;let d':MN vs.toArray _=ϲ es ep:=d;ext d'
  let p:∀{b:Addr}{m:Str->Option Value},c.heap.Ns b m->(oM c.heap H).Ns b m:=λ{b m} ⟨o,es,ep,e,d,r⟩=>⟨o,es,ep,pY e<|noA e d,d,r⟩;let E:K.In (oM c.heap H):=λb o e=>pY (KX b o e)<|by
   cases q:H b with
   |none=>rfl|some u=>
    let R:b=a:=hA b (by rw[q];simp);subst R;rw[hK<|by rw[q];simp]at e;ext e
  let hM:Mod K N (oM c.heap H):=⟨E,p I,⟨mb,p g,X⟩,let⟨mc,h1,h2⟩:=G;⟨mc,p h1,h2⟩⟩;let e0:dq P w K N (oM c.heap H) ju [] c H:=⟨rfl,hM,λb o e=>b0y e,lw<|b1S _ _,trivial,λb g=>absurd (show b∈([]:List Addr)from g) ∅,J,.of_eq hg⟩;show MR ((F _ E<|p I).run ju [] c H ⟨[.ref a],[]⟩ [.ref a] [.ref a] _ _ hr e0 (A c<|.ref a) (.cons rfl .nil)<|Z H hO hS) λr j h=>?_;cases r with
  |error e=>show(U H e j h).elim|ok fl=>
   cases fl with
   |next=>show υ h|brk=>show υ h|cont=>show υ h|ret u=>
    let⟨v,H',os,B,un,L,r',q⟩:=h;let q':v=.bl true:=q;subst q';obtain rfl:u=Η true:=r';show⟨rfl,OldK.of_keep λb o e=>?_,os,B⟩;cases q:H b with
    |none=>show un.keep b o e q (by intro z;show absurd (show b∈([]:List Addr)from z) ∅) ∅|some u=>
     rcases hO b with z|⟨ob,xs,z⟩
     .rw[q]at z;ext z
     .have z2:=un.frzs b ob _ z;let⟨e1,_⟩:=J b _ z;let⟨e2,_⟩:=L b _ z2;rw[e]at e1;ext e1;show e2
 cases Y:K.lookup a with
 |some o=>-- the script is one of the module's own objects
  let e:=KX a o Y;rw[Q]at e;ext e;show y (λ_=>b4) (λ_=>.inl rfl) (.inr ⟨_,vs.toArray,_,Y,rfl,rfl,rfl,by rw[ğ,M];show hl,by apply rv⟩) (λb u z=>by let O:(b4:Option HO)=b3 u:=z;ext O) (λb z=>absurd rfl z) λz=>absurd rfl z
 |none=>
  show y (λb=>if b=a then b3 (.frz {cls:=.type "list",data:=.seq vs.toArray}<|.lst<|ns.map V.int)else b4) (λb=>?_) (.inl<|.inr ⟨{cls:=.type "list",data:=.seq vs.toArray},if_pos rfl⟩) (λb u z=>?_) (λb z=>?_) λ_=>Y
  .by_cases g:b=a
   .show .inr ⟨_,_,if_pos g⟩
   .show .inl<|if_neg g
  .by_cases g:b=a
   .let O:=(if_pos g).symm.trans z;ext O;subst g;show⟨Q,by rw[Ã];show hl,vs,_,rv,Q⟩
   .let O:=(if_neg g).symm.trans z;ext O
  .by_cases g:b=a
   .show g
   .show absurd (if_neg g) z
abbrev lE(s:Stmt):Arguments:=match s with
 |.FunctionDef _ a _ _ _ _ _ _ _ _=>a|_=>{posonlyargs:=[],args:=[],vararg:=b4,kwonlyargs:=[],kw_defaults:=[],kwarg:=b4,defaults:=[]}
abbrev iL(s:Stmt):List Stmt:=match s with
 |.FunctionDef _ _ b _ _ _ _ _ _ _=>b|_=>[]
abbrev dO(s:Stmt):Ω:=match s with
 |.FunctionDef _ _ _ _ _ _ sc _ _ _=>sc|_=>{kind:=.function,names:=[],isGenerator:=b5,isCoroutine:=b5}
noncomputable abbrev i8:nG:=λ_ x x x x x=>False
noncomputable abbrev E0:XK:=λ_ x x=>False
def FE:xP i8 X E0:=λ_ x x x x x x h=>h.elim
structure ϩ(K:Õ)(x qual:Str)(st:Stmt)(f:Addr)(fd:q9):Prop where
 ex:∃(oc:Value)(od:Option Addr)(dV kV doc pm:Value)(an:Option Addr)(cdv ct:Value)(osl:Array (Option Value)),
  fd=ϐ x qual (lE st) (iL st) (dO st) dV kV doc pm an cdv ct/\K.lookup f=b3 ⟨oc,od,.func fd,osl⟩/\N7 K cdv qual=dI
 kp:ϳ K (.ref f)=dI
def ϩ.ok{K:Õ}{st:Stmt}(F:ϩ K x a st f g)(S:Ĩ N ps (dO st))(len:∀vs H Q E,sp vs H Q E->vs.length=ps.length)(c:∀b A outer s H(vs:gz)Q E,ç k (A.deeper<|envOfC a (dO st) s.heap.objs.size f b)->sp vs H Q E->
   ∃t,Ŝ (oN i8 P w K mg base N a (dO st) f b A outer s H E).nox (iL st) t/\t {nx:=λ_ i=>Q .non i,rt:=Q} (start N vs) H):ķ P w K mg base i8 (k+1) f g ps sp:=by
 let⟨v,y,u,kV,j,z,p,b,ct,o,rfl,lk,d⟩:=F.ex;show a9i lk d S len λA outer s H vs Q E n e=>?_;let⟨t,h,q⟩:=c b A outer s H vs Q E n e;show⟨t,h.nox,q⟩
def b3I{K:Õ}{st:Stmt}{kV:Value}(l:K.lookup f=b3 ⟨i,j,.func<|ϐ x a (lE st) (iL st) (dO st) g kV d h an b ct,e⟩)(c:N7 K b a=dI)(k:ϳ K (.ref f)=dI):ϩ K x a st f (ϐ x a (lE st) (iL st) (dO st) g kV d h an b ct):=⟨⟨i,j,g,kV,d,h,an,b,ct,e,rfl,l,c⟩,k⟩
def b3H(a:ç k A):A.units+1<ÿ:=Nat.lt_of_le_of_lt (Nat.add_le_add_left (by decide:1<=64) _) a.units
def pv i(b:X.N[i]?=b3 x:=by rfl)(c:q8 X.env.scope x:=by first|show jt rfl|show bf (jt rfl)|show bf<|bf rfl)(hd:(x==("__debug__":Str))=false:=by decide)(a:(x==("__classdict__":Str))=false:=by decide):PE X (.Name x pos) (Bb i):=EJ b c hd a
def pT{A:Prop}(h:B):if b5=dI then A else B:=by rw[if_neg ô];show h
def pU{A:Prop}(h:A):if dI=dI then A else B:=by rw[if_pos rfl];show h
section
variable{κ:Type} [DecidableEq κ]
end
end L2
namespace L3
open PySem PySem.W
def left_cut{Yf:Ù → Q}{Ya:į → Q}{hA hB hC hD:ϑ → í}(i:∀w,(fencedOpening ŷ p w N).map (λs=>(s.heap,s.gens,s.drawn,s.toks))=b3 (Ml w.params,Ċ [],ń,yo))(size:∀w:į,((Ml w.params).isNs Ų,(Ml w.params).objs.size,(Ml w.params).nsMap Ų "__annotations__")=(dI,b,g))(pre:∀w a,topGo ŷ p w b g x ⟨Ml w.params,Ċ [],ń,yo,a⟩ (topStub p)=b3 (⟨hA w.params,Ċ [],ń,kA,a⟩,⟨denote ŷ<|.body (Ī p) env,.body (Ī p) env,H,[Ϛ j]⟩))(z:∀w a,bc ŷ p w b g 1 n ⟨hA w.params,Ċ [],ń,kA,a⟩ (blockOf (Ī p) env (.body (Ī p) env) H [Ϛ j])=b3 (.next,⟨hA w.params,Ċ [],ń,kA,a⟩,.body (Ī p) env,y))(s1:∀w a,bc ŷ p w b g 1 o ⟨hA w.params,Ċ [],ń,kA,a⟩ (km ((Ī p).take i1) env (.body (Ī p) env) y [Ϛ j])=b3 (.next,⟨hB w.params,Ċ [],ń,B,a⟩,.body (Ī p) env,I))(s2:∀w a,bc ŷ p w b g 1 u ⟨hB w.params,Ċ [],ń,B,a⟩ (km (((Ī p).drop i1).take i2) env (.body (Ī p) env) I [Ϛ j])=b3 (.next,⟨hC w.params,Ċ [],ń,E,a⟩,.body (Ī p) env,J))(s3:∀w a,bc ŷ p w b g 1 v ⟨hC w.params,Ċ [],ń,E,a⟩ (km ((((Ī p).drop i1).drop i2).take i3) env (.body (Ī p) env) J [Ϛ j])=b3 (.next,⟨hD w.params,Ċ [],ń,G,a⟩,.body (Ī p) env,K))(fin:∀w a,((topRun ŷ p w b g n4 ⟨hD w.params,Ċ [],ń,G,a⟩<|restOf ((((Ī p).drop i1).drop i2).drop i3) env (.body (Ī p) env) K [Ϛ j]).bind λc=>match staticsOk (QF p.main.body) (Ml w.params) c.heap&&namesBound p c.heap&&gensDone c&&laidKept (Ml w.params) c.heap with
   |true=>b3 c
   |false=>b4).map (λs=>(openSeen q loose (QF p.main.body) Xt A s,Yf s))=b3 (openGood q loose,Ya w))(Z:Nat.ble (x+(n+(o+(u+(v+n4))))) N=dI):LeftO p q loose Xt Yf Ya N A:=λw=>by
 obtain⟨⟨h,T,d,k,a⟩,e,R⟩:=ţ.mp<|i w;obtain⟨rfl,rfl,rfl,rfl⟩:h=Ml w.params ∧ T=Ċ [] ∧ d=ń ∧ k=yo:=by apply R
 obtain⟨z1,z2,z3⟩:_ ∧ _ ∧ _:=by simpa only[Od]using size w
 let⟨s,X,Y⟩:=ţ.mp<|fin w a;let⟨c,h1,U⟩:=Ś.mp X;let O:=Nx (s3 w a) h1;rw[vo]at O;let M:=Nx (s2 w a) O;rw[vo]at M;let L:=Nx (s1 w a) M;rw[vo]at L;let r0:=go_top (pre w a)<|piece_block (z w a) L;let r:=topRun_mono (N-(x+(n+(o+(u+(v+n4)))))) _ _ _ _ r0;rw[show x+(n+(o+(u+(v+n4))))+(N-(x+(n+(o+(u+(v+n4))))))=N by have:=Nat.le_of_ble_eq_true Z;lia]at r;let t:topFrom ŷ p w N ⟨Ml w.params,Ċ [],ń,yo,a⟩=b3 s:=by ext topFrom;dsimp;rw[z1,z2,z3,r];show U
 ext openEnds;rw[e];change(topFrom ŷ p w N _).map _=_;rw[t];show congrArg b3 Y
end L3
namespace Lw
open PySem L2
abbrev aU(i:Nat):Stmt:=Mk.main.body.getD i<|.Pass ⟨0,0,0,0⟩
abbrev tB(i j:Nat):Stmt:=match aU i with|.ClassDef _ _ _ b _ _ _ _ _ _ _=>b.getD j (.Pass ⟨0,0,0,0⟩)|_=>.Pass ⟨0,0,0,0⟩
abbrev Vw:Ť:={Mk with main:={Mk.main with body:=aU 1::aU 2::aU 3::aU 4::aU 5::aU 6::aU 8::aU 9::aU 10::aU 11::aU 12::aU 13::aU 14::aU 15::aU 16::aU 17::aU 18::aU 20::aU 21::aU 22::aU 23::aU 24::aU 25::aU 26::aU 27::aU 28::aU 29::aU 30::aU 32::aU 34::aU 35::aU 36::aU 37::aU 39::aU 40::aU 42::aU 44::aU 45::aU 46::aU 47::aU 48::aU 49::aU 50::aU 51::aU 52::aU 53::aU 54::aU 55::aU 57::aU 58::aU 59::aU 60::aU 61::aU 63::aU 64::aU 65::aU 66::aU 67::aU 68::aU 69::aU 70::aU 71::aU 72::aU 73::aU 74::aU 75::aU 76::aU 78::aU 79::aU 80::aU 81::aU 82::aU 83::aU 84::aU 85::aU 86::aU 87::aU 88::aU 89::aU 90::aU 91::aU 92::aU 93::[]}}
noncomputable abbrev vS(x:String)(n:Nat):Value:=lY (Ű x) n
noncomputable abbrev vI(i:Int):Value:=Ġ i 0
noncomputable abbrev vR(a:Addr):Value:=Ö a
noncomputable abbrev vN:Value:=Ľ
noncomputable abbrev cO(fs:Array Value):Obj:={cls:=ö "code",data:=Ņ fs}
noncomputable abbrev kO(x y:String)(a b c:Nat)(l n i j k:Int)(r:Addr)(q:Int)(vs:Array Value)(t d:Int)(e:Nat):Obj:={cls:=ö "code",data:=Ņ<|#[vS x a,vS x b,vS y c,vI l,vI n,vI i,vI j,vI k,vR r,Η dI,vI q]++vs++#[vI t,vI d,vS y e]}
noncomputable abbrev tO(fs:Array Value):Obj:={cls:=ö "tuple",data:=MN fs}
noncomputable abbrev fO(x:Str)(n:Nat)(m:Value)(c:Addr):Obj:=⟨ö "function",b4,.func<|ϐ x x (lE<|aU n) (iL<|aU n) (dO<|aU n) Ľ Ľ Ľ m b4 (Ö c) Ľ,#[]⟩
noncomputable abbrev eO(P:ϑ)(x:String)(n:Nat)(v:Value):DictEntry:={hash:=PyData.keyHash P<|Ű x,key:=lY (Ű x) n,val:=v}
noncomputable abbrev eR(P:ϑ)(x:String)(n:Nat)(a:Addr):DictEntry:=eO P x n<|vR a
noncomputable abbrev kA(p:Addr×Obj)(R:Õ):Õ:=p::R
noncomputable abbrev vM(n:Nat):Value:=[vS "creasecourt.places" 314,vS "creasecourt.sheets" 415,vS "creasecourt.wedges" 498,vS "creasecourt.corners" 506,vS "creasecourt.layings" 536,vS "creasecourt.laid" 555,vS "creasecourt.piles" 567,vS "creasecourt.ties" 673,vS "creasecourt.carried" 725,vS "law_creasecourt_k65_whole_ties_hold" 849].getD n vN
abbrev FF:List String → Nat → List Value
 |[],_=>[]|x::xs,n=>vS x n::FF xs (n+1)
noncomputable abbrev tN(xs:List String)(n:Nat):Obj:=tO<|Ċ<|FF xs n
open PySem.W in
abbrev lA(P:ϑ):List Obj:=((boot_o_0 P)::(boot_o_1 P)::(boot_o_2 P)::(boot_o_3 P)::(boot_o_4 P)::(boot_o_5 P)::(boot_o_6 P)::(boot_o_7 P)::(boot_o_8 P)::(boot_o_9 P)::(boot_o_10 P)::(tO #[])::({cls:=vN,data:=Ņ #[]})::(cO #[vS "<module>" 182,vS "<module>" 183,vS "/claim/cut.py" 184,vI 1,vI 0,vI 0,vI 0,vI 0,vR 11,Η b5,vI 181,vR 12,vN,vN,vN,vN,vI 185,vI 1,vS "/claim/cut.py" 186])::({cls:=ö "frame",slots:=#[b3 (vR 13),b3 (vR 3),b3 (vR 3),b4,b3 (vS "__main__" 164),b4,b3 (vR 0)]})::[])
open PySem.W in
abbrev FG(P:ϑ)(a:Nat)(c:String)(d:Nat)(b:Nat)(R:List Obj):List Obj:=(tO #[vR 24])::({cls:=ö "builtin_function_or_method",data:=Ņ #[ϟ "type.__prepare__",ö "type"]})::({cls:=ö "dict",data:=ϲ #[eO P "__module__" a (vS "creasecourt.errors" 187),eO P "__qualname__" (a+2) (vS c<|a+1),eO P "__firstlineno__" (a+4) (Ġ d<|a+3),eR P "__static_attributes__" (a+5) b] 4})::(tO #[])::({cls:=vN,data:=Ņ #[]})::(cO #[vS c (a-5),vS c (a-4),vS "/claim/cut.py" (a-3),vI d,vI 0,vI 0,vI 0,vI 0,vR (b-4),Η b5,vI 181,vR (b-3),vN,vN,vN,vN,vI (a-2),vI d,vS "/claim/cut.py" (a-1)])::({cls:=ö "frame",slots:=#[b3 (vR<|b-2),b3 (vR 3),b3 (vR<|b-5),b4,b3 (vS "creasecourt.errors" 187),b4,b3 (vR 0)]})::(tO #[])::({cls:=ö "dict",data:=ϲ #[eO P "__module__" a (vS "creasecourt.errors" 187),eO P "__firstlineno__" (a+4) (Ġ d<|a+3),eR P "__static_attributes__" (a+5) b,eO P "__doc__" (a+6) vN] 2})::({cls:=ö "type",data:=O5 {name:=Ű c,bases:=[vR 24],mro:=[vR<|b+2,vR 24,ö "ValueError",ö "Exception",ö "BaseException",ö "object"],ns:=(b+1),qualname:=Ű c},slots:=#[b3 (vR<|b-7),b4,b3 (vS c<|a-7),b3 (vS c<|a+1),b3 (ϟ "ValueError.__new__"),b3 (Η dI)]})::({cls:=ö "super",data:=Ņ #[vR (b+2),vR (b+2),vR (b+2)]})::({cls:=ö "builtin_function_or_method",data:=Ņ #[ϟ "object.__init_subclass__",vR (b+2)]})::R
open PySem.W in
abbrev Bv(P:ϑ)(a:Nat)(c:String)(d:Nat)(b:Nat)(h:List String)(g:String)(e:Nat)(i:List String)(R:List Obj):List Obj:=(tO #[vR 24])::({cls:=ö "builtin_function_or_method",data:=Ņ #[ϟ "type.__prepare__",ö "type"]})::({cls:=ö "dict",data:=ϲ #[eO P "__module__" a (vS "creasecourt.errors" 187),eO P "__qualname__" (a+2) (vS c<|a+1),eO P "__firstlineno__" (a+4) (Ġ d<|a+3),eR P "__init__" (a+12) b,eR P "__static_attributes__" (a+14) (b+1)] 5})::(tO #[])::({cls:=vN,data:=Ņ #[vI (d+2),vI 4,vR (b-1)]})::(cO #[vS c (a-5),vS c (a-4),vS "/claim/cut.py" (a-3),vI d,vI 0,vI 0,vI 0,vI 0,vR (b-10),Η b5,vI 181,vR (b-9),vN,vN,vN,vN,vI (a-2),vI d,vS "/claim/cut.py" (a-1)])::({cls:=ö "frame",slots:=#[b3 (vR<|b-8),b3 (vR 3),b3 (vR<|b-11),b4,b3 (vS "creasecourt.errors" 187),b4,b3 (vR 0)]})::(tO #[])::({cls:=vN,data:=Ņ #[]})::(tN h<|a+8)::(tO #[])::(⟨vN,b4,.func<|{ϐ "__init__" g (lE<|tB e 0) (iL<|tB e 0) (dO<|tB e 0) vN vN vN vN (b4) vN vN with globals:=0},#[]⟩)::(cO #[vS "__init__" (a+5),vS g (a+6),vS "/claim/cut.py" (a+7),vI (d+2),vI 2,vI 0,vI 0,vI 3,vR (b-6),Η dI,vI 181,vR (b-5),vN,vR (b-4),vR (b-3),vR (b-2),vI (a+10),vI (d+2),vS "/claim/cut.py" (a+11)])::(⟨ö "function",b4,.func<|ϐ "__init__" g (lE<|tB e 0) (iL<|tB e 0) (dO<|tB e 0) vN vN vN (vS "creasecourt.errors" 187) (b4) (vR<|b-1) vN,#[]⟩)::(tN i<|a+13)::({cls:=ö "dict",data:=ϲ #[eO P "__module__" a (vS "creasecourt.errors" 187),eO P "__firstlineno__" (a+4) (Ġ d<|a+3),eR P "__init__" (a+12) b,eR P "__static_attributes__" (a+14) (b+1),eO P "__doc__" (a+15) vN] 2})::({cls:=ö "type",data:=O5 {name:=Ű c,bases:=[vR 24],mro:=[vR<|b+3,vR 24,ö "ValueError",ö "Exception",ö "BaseException",ö "object"],ns:=(b+2),qualname:=Ű c},slots:=#[b3 (vR<|b-13),b4,b3 (vS c<|a-7),b3 (vS c<|a+1),b3 (ϟ "ValueError.__new__"),b3 (Η dI)]})::({cls:=ö "super",data:=Ņ #[vR (b+3),vR (b+3),vR (b+3)]})::({cls:=ö "builtin_function_or_method",data:=Ņ #[ϟ "object.__init_subclass__",vR (b+3)]})::R
open PySem.W in
abbrev b7(h:List String)(b:Nat)(c:String)(d:Nat)(e:Nat)(i:Nat)(a:Nat)(g:Nat)(j:String)(k:Nat)(R:List Obj):List Obj:=(tO #[])::({cls:=vN,data:=Ņ #[]})::(tN h b)::(tO #[])::(⟨vN,b4,.func<|{ϐ c c (lE<|aU d) (iL<|aU d) (dO<|aU d) vN vN vN vN (b4) vN vN with globals:=0},#[]⟩)::(kO c "/claim/cut.py" (b-3) (b-2) (b-1) e i 0 0 3 a 181 #[vR (a+1),vN,vR (a+2),vR (a+3),vR (a+4)] g e<|g+1)::(fO c d (vS j k)<|a+5)::R
open PySem.W in
abbrev gJ(b:String)(c:Nat)(a:Nat)(e:Nat)(g:Nat)(d:Nat)(h:String)(i:Nat)(R:List Obj):List Obj:=(tO #[])::({cls:=vN,data:=Ņ #[]})::(⟨vN,b4,.func<|{ϐ b b (lE<|aU c) (iL<|aU c) (dO<|aU c) vN vN vN vN (b4) vN vN with globals:=0},#[]⟩)::(kO b "/claim/cut.py" a (a+1) (a+2) e g 0 0 3 d 181 #[vR (d+1),vN,vN,vN,vR (d+2)] (a+3) e<|a+4)::(fO b c (vS h i)<|d+3)::R
open PySem.W in
abbrev xT(b:Nat)(a:Nat)(c:Nat)(R:List Obj):List Obj:=(tO #[Ġ b a,Ġ c (a+1)])::R
open PySem.W in
abbrev lN(P:ϑ):List DictEntry:=[eO P "__doc__" 166 vN,eO P "__package__" 167 vN,eO P "__loader__" 168<|ϟ "__main__.__loader__#opaque",eO P "__spec__" 169 vN,eR P "__annotations__" 170 6,eR P "__builtins__" 171 4,eO P "__file__" 173<|vS "/claim/cut.py" 172,eO P "__cached__" 174 vN,eR P "CreaseError" 206 24,eR P "NoSize" 222 37,eR P "NoMark" 238 49,eR P "NoEdge" 263 68,eR P "Twice" 288 87,eR P "Barred" 313 106,eR P "EIGHT_EDGES" 338 117,eR P "FOUR_EDGES" 351 122,eR P "is_whole" 358 129,eR P "is_place" 365 136,eR P "is_corner" 372 143,eR P "is_edge" 379 150,eR P "is_quarter" 386 157,eR P "beside" 395 164,eR P "sides_of" 401 169,eR P "moved_by" 407 174,eR P "edges_round" 414 181,eR P "MARKS" 420 182,eR P "is_size" 427 189,eR P "check_size" 435 196,eR P "is_mark" 442 203,eR P "is_within" 451 210,eR P "places_within" 457 215,eR P "edges_in" 463 220,eR P "corners_in" 469 225,eR P "is_inner_edge" 478 232,eR P "sheet_of" 490 239,eR P "marks_in" 497 246,eR P "is_good" 505 251,eR P "creases_at" 513 256,eR P "gaps_at" 519 261,eR P "barred" 527 268,eR P "check_corners" 535 275,eR P "led" 547 282,eR P "is_turned" 554 289,eR P "edges_laid" 566 296,eR P "heights_in" 579 303,eR P "quarters_at" 585 308,eR P "joined_at" 591 313,eR P "count_between" 597 318,eR P "is_above" 606 325,eR P "crosses" 617 332,eR P "crossing_at" 623 337,eR P "crossing" 636 344,eR P "turned_first" 645 351,eR P "mark_by_heights" 655 358,eR P "marks_by" 661 363,eR P "keeps" 672 370,eR P "tie_of" 684 377,eR P "is_least" 692 384,eR P "ties_of_gap" 703 391,eR P "ties_at" 715 398,eR P "ties" 724 405,eR P "TURNED" 733 406,eR P "walked_back" 740 413,eR P "steps_from" 749 420,eR P "is_marked" 756 427,eR P "marked_creases" 762 432,eR P "last_steps" 775 439,eR P "way_by" 785 446,eR P "is_alike" 791 451,eR P "back_by" 797 456,eR P "round_by_step" 805 463,eR P "round_within" 819 470,eR P "round_of" 831 477,eR P "carried_mark" 842 484,eR P "carried" 848 489,eR P "_law_given" 859 496,eR P "_law_number" 869 503,eR P "_law_quarters" 880 510,eR P "_law_rims" 891 517,eR P "_law_beside" 900 524,eR P "_law_value" 910 531,eR P "_law_mirror" 919 538,eR P "_law_led" 935 545,eR P "_law_then" 956 552,eR P "_law_fold" 962 557,eR P "_law_grown" 982 564,eR P "_law_creased" 995 571,eR P "_law_ranks" 1006 578,eR P "_law_marks" 1028 585,eR P "_law_opened" 1041 592,eR P "law" 1047 597]
abbrev lM:gw:=List.flatMap (λp:Nat×Nat=>[vI p.1,vI 0,vR p.2]) [(2,20),(4,33),(6,45),(8,57),(13,76),(18,95),(26,128),(28,135),(30,142),(32,149),(36,156),(40,163),(44,168),(46,173),(48,180),(52,188),(54,195),(57,202),(59,209),(61,214),(66,219),(68,224),(70,231),(72,238),(85,245),(88,250),(95,255),(98,260),(105,267),(110,274),(115,281),(119,288),(122,295),(128,302),(134,307),(136,312),(138,317),(142,324),(144,331),(151,336),(159,343),(165,350),(170,357),(173,362),(176,369),(182,376),(184,383),(186,390),(192,397),(202,404),(210,412),(212,419),(218,426),(220,431),(222,438),(234,445),(241,450),(243,455),(245,462),(247,469),(258,476),(269,483),(275,488),(280,495),(285,502),(294,509),(301,516),(308,523),(315,530),(318,537),(321,544),(325,551),(330,556),(351,563),(365,570),(372,577),(378,584),(387,591),(394,596)]
open PySem.W in
abbrev lB(P:ϑ):List Obj:=(((lA P).set 3<|{cls:=ö "dict",data:=ϲ (Ċ<|eO P "__name__" 165 (vS "creasecourt.places" 314)::(lN P).take 14) 15}).set 12<|{cls:=vN,data:=Ņ<|Ċ<|lM.take 18})++((tO #[ö "ValueError"])::(({cls:=ö "builtin_function_or_method",data:=Ņ #[ϟ "type.__prepare__",ö "type"]})::(({cls:=ö "dict",data:=ϲ #[eO P "__module__" 196 (vS "creasecourt.errors" 187),eO P "__qualname__" 198 (vS "CreaseError" 197),eO P "__firstlineno__" 200 (Ġ 2 199),eR P "__static_attributes__" 201 22] 4})::((tO #[])::(({cls:=vN,data:=Ņ #[]})::((cO #[vS "CreaseError" 191,vS "CreaseError" 192,vS "/claim/cut.py" 193,vI 2,vI 0,vI 0,vI 0,vI 0,vR 18,Η b5,vI 181,vR 19,vN,vN,vN,vN,vI 194,vI 2,vS "/claim/cut.py" 195])::(({cls:=ö "frame",slots:=#[b3 (vR 20),b3 (vR 3),b3 (vR 17),b4,b3 (vS "creasecourt.errors" 187),b4,b3 (vR 0)]})::((tO #[])::(({cls:=ö "dict",data:=ϲ #[eO P "__module__" 196 (vS "creasecourt.errors" 187),eO P "__firstlineno__" 200 (Ġ 2 199),eR P "__static_attributes__" 201 22,eR P "__weakref__" 203 25,eO P "__doc__" 204 vN] 3})::(({cls:=ö "type",data:=O5 {name:=Ű "CreaseError",bases:=[ö "ValueError"],mro:=[vR 24,ö "ValueError",ö "Exception",ö "BaseException",ö "object"],ns:=23,qualname:=Ű "CreaseError",subclasses:=[vR 37,vR 49,vR 68,vR 87,vR 106]},slots:=#[b3 (vR 15),b4,b3 (vS "CreaseError" 189),b3 (vS "CreaseError" 197),b3 (ϟ "ValueError.__new__"),b3 (Η dI)]})::(({cls:=ö "getset_descriptor",data:=Ņ #[vS "__weakref__" 202,vR 24,ϟ "ExceptionGroup.__weakref__",vN]})::(({cls:=ö "super",data:=Ņ #[vR 24,vR 24,vR 24]})::(({cls:=ö "builtin_function_or_method",data:=Ņ #[ϟ "object.__init_subclass__",vR 24]})::(FG P 214 "NoSize" 4 35<|FG P 230 "NoMark" 6 47<|Bv P 246 "NoEdge" 8 65 ["self","edge"] "NoEdge.__init__" 4 ["edge"]<|Bv P 271 "Twice" 13 84 ["self","edge"] "Twice.__init__" 5 ["edge"]<|Bv P 296 "Barred" 18 103 ["self","corner"] "Barred.__init__" 6 ["corner"] []))))))))))))))
open PySem.W in
abbrev lC(P:ϑ):List Obj:=(((lB P).set 3<|{cls:=ö "dict",data:=ϲ (Ċ<|eO P "__name__" 165 (vS "creasecourt.piles" 567)::(lN P).take 50) 51}).set 12<|{cls:=vN,data:=Ņ<|Ċ<|lM.take 117})++(xT 2 316 0<|xT 1 318 1<|xT 0 320 2<|(tO #[Ġ (-1) 323,Ġ 1 324])::((tO #[Ġ (-2) 326,Ġ 0 327])::((tO #[Ġ (-1) 329,Ġ (-1) 331])::((tO #[Ġ 0 332,Ġ (-2) 334])::((tO #[Ġ 1 335,Ġ (-1) 337])::((tO #[vR 109,vR 110,vR 111,vR 112,vR 113,vR 114,vR 115,vR 116])::(xT 1 339 1<|(tO #[Ġ (-1) 342,Ġ 1 343])::((tO #[Ġ (-1) 345,Ġ (-1) 347])::((tO #[Ġ 1 348,Ġ (-1) 350])::((tO #[vR 118,vR 119,vR 120,vR 121])::(b7 ["value"] 355 "is_whole" 10 26 1 123 356 "creasecourt.places" 314<|b7 ["value"] 362 "is_place" 11 28 1 130 363 "creasecourt.places" 314<|b7 ["place"] 369 "is_corner" 12 30 1 137 370 "creasecourt.places" 314<|b7 ["place"] 376 "is_edge" 13 32 1 144 377 "creasecourt.places" 314<|b7 ["place"] 383 "is_quarter" 14 36 1 151 384 "creasecourt.places" 314<|b7 ["place","x","y"] 390 "beside" 15 40 1 158 393 "creasecourt.places" 314<|gJ "sides_of" 16 396 44 1 165 "creasecourt.places" 314<|gJ "moved_by" 17 402 46 2 170 "creasecourt.places" 314<|b7 ["corner"] 411 "edges_round" 18 48 1 175 412 "creasecourt.places" 314<|(tN ["h","v","o"] 417)::(b7 ["value"] 424 "is_size" 21 52 1 183 425 "creasecourt.sheets" 415<|b7 ["wide","high"] 431 "check_size" 22 54 2 190 433 "creasecourt.sheets" 415<|b7 ["value"] 439 "is_mark" 23 57 1 197 440 "creasecourt.sheets" 415<|b7 ["wide","high","place"] 446 "is_within" 24 59 3 204 449 "creasecourt.sheets" 415<|gJ "places_within" 25 452 61 2 211 "creasecourt.sheets" 415<|gJ "edges_in" 26 458 66 2 216 "creasecourt.sheets" 415<|gJ "corners_in" 27 464 68 2 221 "creasecourt.sheets" 415<|b7 ["wide","high","value"] 473 "is_inner_edge" 28 70 3 226 476 "creasecourt.sheets" 415<|b7 ["wide","high","creases","marks","crease","edge"] 482 "sheet_of" 29 72 3 233 488 "creasecourt.sheets" 415<|b7 ["sheet"] 494 "marks_in" 30 85 1 240 495 "creasecourt.sheets" 415<|gJ "is_good" 32 500 88 1 247 "creasecourt.wedges" 498<|gJ "creases_at" 34 508 95 2 252 "creasecourt.corners" 506<|gJ "gaps_at" 35 514 98 2 257 "creasecourt.corners" 506<|b7 ["sheet","corner"] 523 "barred" 36 105 1 262 525 "creasecourt.corners" 506<|b7 ["sheet","corner"] 531 "check_corners" 37 110 1 269 533 "creasecourt.corners" 506<|b7 ["laying","place","x","y"] 541 "led" 39 115 2 276 545 "creasecourt.layings" 536<|b7 ["laying"] 551 "is_turned" 40 119 1 283 552 "creasecourt.layings" 536<|b7 ["sheet","layings","told","edge"] 560 "edges_laid" 42 122 2 290 564 "creasecourt.laid" 555<|b7 ["piles","heights","pile","height","quarter"] 572 "heights_in" 44 128 1 297 577 "creasecourt.piles" 567<|gJ "quarters_at" 45 580 134 3 304 "creasecourt.piles" 567<|gJ "joined_at" 46 586 136 3 309 "creasecourt.piles" 567<|gJ "count_between" 47 592 138 3 314 "creasecourt.piles" 567<|b7 ["heights","one","other"] 601 "is_above" 48 142 3 319 604 "creasecourt.piles" 567<|b7 ["heights","one","other","ours","theirs"] 610 "crosses" 49 144 3 326 615 "creasecourt.piles" 567 []))))))))))))
open PySem.W in
abbrev lD(P:ϑ):List Obj:=(((lC P).set 3<|{cls:=ö "dict",data:=ϲ (Ċ<|eO P "__name__" 165 (vS "law_creasecourt_k65_whole_ties_hold" 849)::(lN P).take 91) 92}).set 12<|{cls:=vN,data:=Ņ<|Ċ<|lM.take 237})++(gJ "crossing_at" 50 618 151 4 333 "creasecourt.piles" 567<|b7 ["sheet","layings","piles","heights","pairs","place","edges"] 627 "crossing" 51 159 3 338 634 "creasecourt.piles" 567<|b7 ["layings","edge","sides"] 640 "turned_first" 52 165 2 345 643 "creasecourt.piles" 567<|b7 ["heights","layings","edge","sides"] 649 "mark_by_heights" 53 170 3 352 653 "creasecourt.piles" 567<|gJ "marks_by" 54 656 173 3 359 "creasecourt.piles" 567<|b7 ["sheet","layings","piles","crease","told"] 665 "keeps" 55 176 3 364 670 "creasecourt.piles" 567<|b7 ["one","other","alike","corner"] 678 "tie_of" 57 182 4 371 682 "creasecourt.ties" 673<|b7 ["gaps","k"] 688 "is_least" 58 184 2 378 690 "creasecourt.ties" 673<|b7 ["creases","k","corner","count","told"] 696 "ties_of_gap" 59 186 3 385 701 "creasecourt.ties" 673<|b7 ["sheet","corner","creases","gaps","told","k"] 707 "ties_at" 60 192 2 392 713 "creasecourt.ties" 673<|b7 ["sheet","told","corner"] 719 "ties" 61 202 1 399 722 "creasecourt.ties" 673<|({cls:=ö "dict",data:=ϲ #[eO P "h" 727 (vS "v" 728),eO P "v" 729 (vS "h" 730)] 2})::(b7 ["step"] 737 "walked_back" 64 210 1 407 738 "creasecourt.carried" 725<|b7 ["sheet","steps","tie"] 744 "steps_from" 65 212 1 414 747 "creasecourt.carried" 725<|b7 ["mark"] 753 "is_marked" 66 218 1 421 754 "creasecourt.carried" 725<|gJ "marked_creases" 67 757 220 1 428 "creasecourt.carried" 725<|b7 ["steps","starts","reached","start","due","here","step"] 766 "last_steps" 68 222 2 433 773 "creasecourt.carried" 725<|b7 ["reached","edge","way","step"] 779 "way_by" 69 234 2 440 783 "creasecourt.carried" 725<|gJ "is_alike" 70 786 241 1 447 "creasecourt.carried" 725<|gJ "back_by" 71 792 243 1 452 "creasecourt.carried" 725<|b7 ["reached","step"] 801 "round_by_step" 72 245 2 457 803 "creasecourt.carried" 725<|b7 ["steps","marks","start","reached","edge","way","step","found"] 809 "round_within" 73 247 3 464 817 "creasecourt.carried" 725<|b7 ["sheet","steps","marks","seen","start","found"] 823 "round_of" 74 258 1 471 829 "creasecourt.carried" 725<|b7 ["marks","reached","edge","way","first"] 835 "carried_mark" 75 269 3 478 840 "creasecourt.carried" 725<|gJ "carried" 76 843 275 1 485 "creasecourt.carried" 725<|b7 ["_law_script","_law_k","_law_more"] 854 "_law_given" 78 280 2 490 857 "law_creasecourt_k65_whole_ties_hold" 849<|b7 ["_law_script","_law_k","_law_cell","_law_j"] 863 "_law_number" 79 285 2 497 867 "law_creasecourt_k65_whole_ties_hold" 849<|b7 ["_law_wide","_law_high","_law_found","_law_x","_law_y"] 873 "_law_quarters" 80 294 2 504 878 "law_creasecourt_k65_whole_ties_hold" 849<|b7 ["_law_wide","_law_high","_law_found","_law_x","_law_y"] 884 "_law_rims" 81 301 2 511 889 "law_creasecourt_k65_whole_ties_hold" 849<|b7 ["_law_rim","_law_x","_law_y"] 895 "_law_beside" 82 308 1 518 898 "law_creasecourt_k65_whole_ties_hold" 849<|b7 ["_law_place","_law_kind","_law_x","_law_y"] 904 "_law_value" 83 315 2 525 908 "law_creasecourt_k65_whole_ties_hold" 849<|b7 ["_law_kind","_law_n","_law_some"] 914 "_law_mirror" 84 318 2 532 917 "law_creasecourt_k65_whole_ties_hold" 849<|b7 ["_law_way","_law_place","_law_a","_law_b","_law_c","_law_d","_law_e","_law_f","_law_x","_law_y"] 923 "_law_led" 85 321 2 539 933 "law_creasecourt_k65_whole_ties_hold" 849<|b7 ["_law_one","_law_other","_law_a","_law_b","_law_c","_law_d","_law_e","_law_f","_law_p","_law_q","_law_r","_law_s","_law_t","_law_u","_law_turn"] 939 "_law_then" 86 325 2 546 954 "law_creasecourt_k65_whole_ties_hold" 849<|gJ "_law_fold" 87 957 330 6 553 "law_creasecourt_k65_whole_ties_hold" 849<|b7 ["_law_script","_law_wide","_law_high","_law_first","_law_many","_law_ways","_law_heaps","_law_quarter","_law_k","_law_number_here","_law_kind","_law_places","_law_value_here","_law_way"] 966 "_law_grown" 88 351 5 558 980 "law_creasecourt_k65_whole_ties_hold" 849<|b7 ["_law_ways","_law_wide","_law_high","_law_found","_law_rim","_law_one","_law_other"] 986 "_law_creased" 89 365 3 565 993 "law_creasecourt_k65_whole_ties_hold" 849<|b7 ["_law_heaps","_law_ranks_here","_law_place","_law_k","_law_quarter"] 999 "_law_ranks" 90 372 1 572 1004 "law_creasecourt_k65_whole_ties_hold" 849<|b7 ["_law_ways","_law_heaps","_law_wide","_law_high","_law_ranks_here","_law_found","_law_rim","_law_one","_law_other","_law_a","_law_b","_law_c","_law_d","_law_e","_law_f","_law_higher"] 1010 "_law_marks" 91 378 4 579 1026 "law_creasecourt_k65_whole_ties_hold" 849<|b7 ["_law_due","_law_script","_law_found","_law_share","_law_rim","_law_mark","_law_draw"] 1032 "_law_opened" 92 387 2 586 1039 "law_creasecourt_k65_whole_ties_hold" 849<|gJ "law" 93 1042 394 1 593 "law_creasecourt_k65_whole_ties_hold" 849 []))
abbrev As:List Addr:=[3,109,110,111,112,113,114,115,116,117,118,119,120,121,122,128,129,135,136,142,143,149,150,156,157,163,164,168,169,173,174,180,181,182,188,189,195,196,202,203,209,210,214,215,219,220,224,225,231,232,238,239,245,246,250,251,255,256,260,261,267,268,274,275,281,282,288,289,295,296,302,303,307,308,312,313,317,318,324,325,331,332,336,337,343,344,350,351,357,358,362,363,369,370,376,377,383,384,390,391,397,398,404,405,406,412,413,419,420,426,427,431,432,438,439,445,446,450,451,455,456,462,463,469,470,476,477,483,484,488,489,495,496,502,503,509,510,516,517,523,524,530,531,537,538,544,545,551,552,556,557,563,564,570,571,577,578,584,585,591,592,596,597]
abbrev Kx:ϑ → Õ:=λP=>As.map λa=>(a,((lD P)[a]?).getD<|tO #[])
def vC:∀P,As=(Kx P).map (·.1):=λ_=>""
abbrev vE:ξ:={scope:=Mk.main.scope,locals:=mainNs,globals:=mainNs,cells:=[],code:=Ö 13,frame:=b3 14}
open PySem.W PyProof.Rows in
set_option maxHeartbeats 0 in
def b3F(w:į)(a:Sw):topGo ŷ (ľ Ķ).prog w 11 (b3<|Ö 6) 12 ⟨Ml w.params,Ċ [],ń,yo,a⟩ (topStub (ľ Ķ).prog)=b3 (⟨⟨Ċ<|lA w.params,{}⟩,Ċ [],ń,187,a⟩,⟨denote ŷ<|.body (Ī (ľ Ķ).prog) vE,(.body (Ī (ľ Ķ).prog) vE),⟨0,0,0,0⟩,[Ϛ ⟨0,0,0,0⟩]⟩):=""
open PySem.W PyProof.Rows in
set_option maxHeartbeats 0 in
def b3E(w:į)(a:Sw):bc ŷ (ľ Ķ).prog w 11 (b3<|Ö 6) 1 1 ⟨⟨Ċ<|lA w.params,{}⟩,Ċ [],ń,187,a⟩ (blockOf (Ī (ľ Ķ).prog) vE (.body (Ī (ľ Ķ).prog) vE) ⟨0,0,0,0⟩ [Ϛ ⟨0,0,0,0⟩])=b3 (.next,⟨⟨Ċ<|lA w.params,{}⟩,Ċ [],ń,187,a⟩,(.body (Ī (ľ Ķ).prog) vE),⟨0,0,0,0⟩):=""
open PySem.W PyProof.Rows in
set_option maxHeartbeats 0 in
def b3B w a:bc ŷ (ľ Ķ).prog w 11 (b3<|Ö 6) 1 1366 ⟨⟨Ċ<|lA w.params,{}⟩,Ċ [],ń,187,a⟩ (km ((Ī (ľ Ķ).prog).take 8) vE (.body (Ī (ľ Ķ).prog) vE) ⟨0,0,0,0⟩ [Ϛ ⟨0,0,0,0⟩])=b3 (.next,⟨⟨Ċ<|lB w.params,{}⟩,Ċ [],ń,316,a⟩,(.body (Ī (ľ Ķ).prog) vE),⟨23,0,23,8⟩):=""
open PySem.W PyProof.Rows in
set_option maxHeartbeats 0 in
def b2z w a:bc ŷ (ľ Ķ).prog w 11 (b3<|Ö 6) 1 1140 ⟨⟨Ċ<|lB w.params,{}⟩,Ċ [],ń,316,a⟩ (km (((Ī (ľ Ķ).prog).drop 8).take 42) vE (.body (Ī (ľ Ķ).prog) vE) ⟨23,0,23,8⟩ [Ϛ ⟨0,0,0,0⟩])=b3 (.next,⟨⟨Ċ<|lC w.params,{}⟩,Ċ [],ń,618,a⟩,(.body (Ī (ľ Ķ).prog) vE),⟨144,0,150,97⟩):=""
open PySem.W PyProof.Rows in
set_option maxHeartbeats 0 in
def b2x b(w:į)a:bc ŷ (ľ Ķ).prog (w.withFollow "special-get-raises" b) 11 (b3<|Ö 6) 1 1349 ⟨⟨Ċ<|lC (w.withFollow "special-get-raises" b).params,{}⟩,Ċ [],ń,618,a⟩ (km ((((Ī (ľ Ķ).prog).drop 8).drop 42).take 44) vE (.body (Ī (ľ Ķ).prog) vE) ⟨144,0,150,97⟩ [Ϛ ⟨0,0,0,0⟩])=b3 (.next,⟨⟨Ċ<|lD (w.withFollow "special-get-raises" b).params,{}⟩,Ċ [],ń,1048,a⟩,(.body (Ī (ľ Ķ).prog) vE),⟨394,0,418,15⟩):=by ext b<;>kernel_rfl
open PySem.W PyProof.Rows in
set_option maxHeartbeats 0 in
def b2w w a:bc ŷ (ľ Ķ).prog w 11 (b3<|Ö 6) 1 1349 ⟨⟨Ċ<|lC w.params,{}⟩,Ċ [],ń,618,a⟩ (km ((((Ī (ľ Ķ).prog).drop 8).drop 42).take 44) vE (.body (Ī (ľ Ķ).prog) vE) ⟨144,0,150,97⟩ [Ϛ ⟨0,0,0,0⟩])=b3 (.next,⟨⟨Ċ<|lD w.params,{}⟩,Ċ [],ń,1048,a⟩,(.body (Ī (ľ Ķ).prog) vE),⟨394,0,418,15⟩):=by let h:=b2x (w.params.followText "special-get-raises") w a;rw[World.withFollow_self]at h;show h
open PySem.W PyProof.Rows in
set_option maxHeartbeats 0 in
def run:LeftO (ľ Ķ).prog Vw ["TURNED"] (λs=>xlAt Vw [] s&&recOk (Q8<|RR<|ľ Ķ) s) (Hook.obs<|yc Kx As vC) (Hook.val<|yc Kx As vC) 7830:=
 L3.left_cut (hA:=λP=>⟨Ċ<|lA P,{}⟩) (hB:=λP=>⟨Ċ<|lB P,{}⟩) (hC:=λP=>⟨Ċ<|lC P,{}⟩) (hD:=λP=>⟨Ċ<|lD P,{}⟩) (n4:=201) (i1:=8) (i2:=42) (i3:=44) (env:=vE) (boot_open "" "" λ_=>"") (λw=>"") b3F b3E b3B b2z b2w (λw a=>"") ""
open PySem.W PyProof.Rows in
set_option maxHeartbeats 0 in
def O9:Ķ.wellSaid=true:=by decide +kernel
end Lw
set_option maxHeartbeats 4000000
namespace L3
open PySem
open PySem.SetTable (Probe Met Slot bits runEnd leap turns insertAt sizeAbove)
namespace Tb
abbrev OpI(m:Nat)(p:Probe):Probe:=
 if p.more>0 then{p with j:=p.j+1,more:=p.more-1}else
 {p with j:=(leap m p.i p.perturb).1,more:=runEnd m (leap m p.i p.perturb).1-(leap m p.i p.perturb).1,i:=(leap m p.i p.perturb).1,perturb:=(leap m p.i p.perturb).2}
abbrev OnI(m:Nat)(b:Nat):Probe:={j:=b%(m+1),more:=runEnd m (b%(m+1))-b%(m+1),i:=b%(m+1),perturb:=b,dummy:=b4}
abbrev Bw(m b:Nat):Nat->Probe
 |0=>OnI m b|k+1=>OpI m<|Bw m b k
abbrev hd(m i q:Nat):Probe:={j:=i,more:=runEnd m i-i,i:=i,perturb:=q,dummy:=b4}
abbrev nx(m i:Nat):Nat:=(i*5+1)%(m+1)
abbrev FH(m:Nat):Nat->Nat->Nat
 |0,i=>i|n+1,i=>FH m n<|nx m i
abbrev rF(m:Nat):Nat->Nat->Nat->Nat
 |0,_,acc=>acc|f+1,i,acc=>rF m f (nx m i)<|acc ||| (1 <<< i)
abbrev Grw(m:Nat):Bool:=rF m (m+1) 0 0==2^(m+1)-1&&FH m (m+1) 0==0
abbrev FI(m:Nat)(S:List Nat)(b j:Nat):Prop:=∃k,(Bw m b k).j=j/\∀k',k'<k->(Bw m b k').j∈S
noncomputable abbrev xU:=Nat×Int×Value
structure Ok(t:QZ)(R:List xU):Prop where
 place:t.place.toList=R.map (·.1)
 dum:t.dummies=#[]
 rise:(R.map (·.1)).Pairwise (·<·)
 le:∀r∈R,r.1<=t.mask
 cov:Grw t.mask=dI
 odd:t.mask%2=1
 room:R.length<=t.mask
 road:∀r∈R,FI t.mask (R.map (·.1)) (bits r.2.1) r.1
def Ok.size(o:Ok t R):t.place.size=R.length:=by have:=congrArg Ĭ o.place;apply this
def Ok.getD(o:Ok t R)(hi:i<R.length):t.place.getD i 0=(R[i]).1:=by
 let h:t.place.toList[i]?=(R.map (·.1))[i]?:=by rw[o.place]
 let a:i<t.place.size:=by rw[o.size];show hi
 simp[hi,a]at h;simp[rT,a,h]
abbrev lv(m:Nat)(a:Array (Option Nat)):List (Nat×Nat):=(Ā<|m+1).filterMap λj=>(a.getD j b4).map (j,·)
structure Ow(m:Nat)(ds:List Int)(ow:Array (Option Nat)):Prop where
 size:ow.size=m+1
 lt:∀j i,ow.getD j b4=b3 i->i<ds.length
 all:∀i,i<ds.length->∃j,ow.getD j b4=b3 i
 inj:∀j j' i,ow.getD j b4=b3 i->ow.getD j' b4=b3 i->j=j'
 road:∀j i,ow.getD j b4=b3 i->FI m ((lv m ow).map (·.1)) (bits<|ds.getD i 0) j
def Ow.nil m:Ow m [] (OX (m+1) b4):=by
 let e:∀j,(OX (m+1) (b4:Option Nat)).getD j b4=none:=λj=>by simp[rT]
 let a:∀{P:Prop}(j i:Nat),(OX (m+1) (b4:Option Nat)).getD j b4=b3 i->P:=λj i h=>by rw[e]at h;show nomatch h
 show⟨∅,λj i h=>a j i h,λi h=>absurd h<|NL _,λj b i h x=>a j i h,λj i h=>a j i h⟩
end Tb
end L3
namespace L3
open PySem
open PySem.SetTable (Probe Met Slot bits runEnd leap turns insertAt sizeAbove)
namespace Tb
section
variable{prog:Ť}{w:į}{K:Type} [DecidableEq K] {knd:KeyKind prog w K}{A:ť}{E:Value->Ù->Prop}{s:Ù}
def fits_of{es:Array (Int×Value)}(o:Ok t R)(b:es.toList=R.map (·.2)):t.fits es.size=true:=by
 let h1:es.size=R.length:=by apply congrArg Ĭ b
 let a:=o.room;ext SetTable.fits SetTable.fill;rw[o.size,h1,o.dum];simp;show a
end
noncomputable abbrev El:=List Int×Addr
abbrev hashT(k:List Int):Int:=reduceHash<|b4v<|k.map hashInt
abbrev FoI(p:El):Int×Value:=(hashT p.1,Ö p.2)
abbrev CrF(m:Nat):Prop:=m=7\/m=31\/m=127\/m=511
abbrev t2l(w:į):Bool:=w.params.followText "set-order"
abbrev p9D(a:Bool)(L:List El)(o:Obj):Prop:=∃es ep t R,o.ExactSet/\o.data=.set es ep t/\es.toList=R.map (·.2)/\Ok t R/\es.toList.Perm (L.map FoI)/\(L.map (·.1)).Nodup/\CrF t.mask/\L.length*5<t.mask*3/\t.plain=dI/\t.led=a
abbrev SObj(L:List El)(o:Obj):Prop:=∃a,p9D a L o
end Tb
end L3
namespace L3
open PySem
namespace Tb
section
variable{prog:Ť}{w:į}{A:ť}{E:Value->Ù->Prop}{s:Ù}
structure SAt(w:į)(h:í)(a:Addr)(es:Array (Int×Value))(ep:Nat)(t:QZ)(R:List xU):Prop where
 at_:∃o,h.get? a=b3 o/\o.cls=.type "set"/\o.data=.set es ep t
 he:es.toList=R.map (·.2)
 ok:Ok t R
 pl:t.plain=dI
 led:t.led=!t2l w
end
end Tb
end L3
namespace L3
open PySem L2
def bZ{c d:Type}{o:Option c}{f:c->Option d}{b:d}{G:Prop}(h:o.bind f=b3 b)(k:∀a,o=b3 a->f a=b3 b->G):G:=let⟨a,x,y⟩:=Ś.mp h;k a x y
def bR{d g e:Type}{o:Option (d×g)}{f:d×g->Option e}{b:e}{G:Prop}(h:o.bind f=b3 b)(k:∀a c,o=b3 (a,c)->f (a,c)=b3 b->G):G:=let⟨(a,c),x,y⟩:=Ś.mp h;k a c x y
def cE{c d:Type}{o:Option c}{f:c->d}{b:d}{G:Prop}(h:o.map f=b3 b)(k:∀a,o=b3 a->f a=b->G):G:=let⟨a,x,y⟩:=ţ.mp h;k a x y
def vD{d g e:Type}{o:Option (d×g)}{f:d×g->e}{b:e}{G:Prop}(h:o.map f=b3 b)(k:∀a c,o=b3 (a,c)->f (a,c)=b->G):G:=let⟨(a,c),x,y⟩:=ţ.mp h;k a c x y
inductive D where
 |non|bl (b:Bool)|int (i:Int)|str (x:Str)|tup (xs:List D)|rol (xs:List D)|loc (a:Nat)|ty (n:String)
 deriving Inhabited
inductive C where
 |lst (xs:List D)
 |dK (kvs:List (bM×D))
 |st (ks:List (List Int))
 |dT (kvs:List (List Int×D))
 |dF (kvs:List (List Int×D))
 deriving Inhabited
noncomputable abbrev Hm:=List C
noncomputable abbrev aF:=List<|Option D
noncomputable abbrev ME:=aF->Hm->Option (D×Hm)
noncomputable abbrev MT:=aF->Hm->Option (Bool×Hm)
noncomputable abbrev MA:=aF->Hm->Option (List D×Hm)
@[reducible]def jk:=Option<|D×Hm
@[reducible]def jx:=List<|List Int×D
@[reducible]def jz:=D×Hm->Prop
inductive Fl where
 |nx|rt (d:D)|bk|ct
noncomputable abbrev MS:=aF->Hm->Option (Fl×aF×Hm)
noncomputable abbrev MF:=List D->Hm->jk
abbrev ak(K:Õ)(H:Hp)(p:Addr)(xs:gz):Prop:=
 (∃o,H p=b3 (.frz o<|.lst xs)) \/
  ∃(o:Obj)(its:Array Value)(n:Nat),K.lookup p=b3 o/\o.cls=.type "list"/\o.dict=b4/\o.data=.seq its n/\its.size<=Ñ/\Å xs its.toList
def ak.sq(h:ak K H p xs):Ą K H p xs:=by
 rcases h with⟨o,h⟩|h
 .show .inl<|.inr ⟨o,h⟩
 .show .inr h
mutual
inductive Ú (K:Õ)(π:Nat->Addr)(n:Nat)(H:Hp):V->D->Prop where
 |non:Ú K π n H .non .non
 |bl (b:Bool):Ú K π n H (.bl b)<|.bl b
 |int (i:Int):Ú K π n H (.int i)<|.int i
 |str (x:Str):Ú K π n H (.str x)<|.str x
 |tup {p:Addr}{vs:gz}{ds:List D}(h:å K H p vs)(t:Æ K π n H vs ds):Ú K π n H (.ref p)<|.tup ds
 |rol {p:Addr}{vs:gz}{ds:List D}(h:ak K H p vs)(t:Æ K π n H vs ds):Ú K π n H (.ref p)<|.rol ds
 |loc {a:Nat}(h:a<n):Ú K π n H (.ref<|π a)<|.loc a
 |ty (x:String):Ú K π n H (.ty x)<|.ty x
inductive Æ (K:Õ)(π:Nat->Addr)(n:Nat)(H:Hp):gz->List D->Prop where
 |nil:Æ K π n H [] []
 |cons {v:V}{d:D}{vs:gz}{ds:List D}(h:Ú K π n H v d)(t:Æ K π n H vs ds):Æ K π n H (v::vs)<|d::ds
end
structure ò(π:Nat->Addr)(n:Nat)(H:Hp)(π':Nat->Addr)(n':Nat)(H':Hp):Prop where
 le:n<=n'
 pi:∀a,a<n->π' a=π a
 tup:∀p vs,H p=b3 (.tup vs)->H' p=b3 (.tup vs)
 frz:∀p o u,H p=b3 (.frz o u)->H' p=b3 (.frz o u)
structure Ő(π:Nat->Addr)(n:Nat)(H:Hp)(π':Nat->Addr)(n':Nat)(H':Hp):Prop where
 le:n<=n'
 pi:∀a,a<n->π' a=π a
 tup:∀p vs,H p=b3 (.tup vs)->H' p=b3 (.tup vs)
 frz:∀p o u,(∀φ,u≠HO.ext φ)->H p=b3 (.frz o u)->H' p=b3 (.frz o u)
section
variable{K:Õ}{π π' π2:Nat->Addr}{n n' n2:Nat}{H H' H2:Hp}
def ò.weak(e:ò π n H π' n' H'):Ő π n H π' n' H':=⟨e.le,e.pi,e.tup,λp o u x h=>e.frz p o u h⟩
def ò.refl:ò π n H π n H:=⟨Ø _,λ_ x=>rfl,λ_ x h=>h,λ_ x x h=>h⟩
def ò.trans(a:ò π n H π' n' H')(b:ò π' n' H' π2 n2 H2):ò π n H π2 n2 H2:=
 ⟨Ğ a.le b.le,λi h=>(b.pi i<|ĸ h a.le).trans<|a.pi i h,λp c h=>b.tup p c<|a.tup p c h,λp o u h=>b.frz p o u<|a.frz p o u h⟩
def Ő.sqT(e:Ő π n H π' n' H')(h:å K H p vs):å K H' p vs:=by
 rcases h with h|h
 .rcases h with h|⟨o,h⟩
  .show .inl<|.inl<|e.tup _ _ h
  .show .inl<|.inr ⟨o,e.frz _ _ _ (λ_ z=>nomatch z) h⟩
 .show .inr h
def ò.sqT(e:ò π n H π' n' H')(h:å K H p vs):å K H' p vs:=e.weak.sqT h
def Ő.roL(e:Ő π n H π' n' H')(h:ak K H p vs):ak K H' p vs:=by
 rcases h with⟨o,h⟩|h
 .show .inl ⟨o,e.frz _ _ _ (λ_ z=>nomatch z) h⟩
 .show .inr h
def ò.roL(e:ò π n H π' n' H')(h:ak K H p vs):ak K H' p vs:=e.weak.roL h
mutual
theorem Ú.mono0{v:V}{d:D}(e:Ő π n H π' n' H'):Ú K π n H v d->Ú K π' n' H' v d
 |.non=>.non|.bl b=>.bl b|.int i=>.int i|.str x=>.str x|.ty x=>.ty x|.tup h t=>.tup (e.sqT h) (Æ.mono0 e t)|.rol h t=>.rol (e.roL h) (Æ.mono0 e t)|.loc h=>by rw[<- e.pi _ h];show .loc<|ĸ h e.le
theorem Æ.mono0{vs:gz}{ds:List D}(e:Ő π n H π' n' H'):Æ K π n H vs ds->Æ K π' n' H' vs ds
 |.nil=>.nil|.cons h t=>.cons (Ú.mono0 e h)<|Æ.mono0 e t
end
def Ú.mono(e:ò π n H π' n' H')(h:Ú K π n H v d):Ú K π' n' H' v d:=h.mono0 e.weak
def Æ.mono(e:ò π n H π' n' H')(h:Æ K π n H vs ds):Æ K π' n' H' vs ds:=h.mono0 e.weak
def Æ.length(h:Æ K π n H vs ds):vs.length=ds.length:=by
 induction ds generalizing vs with
 |nil=>ext h;rfl|cons d ds a=>
  cases h with
  |cons h t=>rw[ņ,ņ,a t]
def Æ.get(h:Æ K π n H vs ds){i:Nat}(e:ds[i]?=b3 d):∃v,vs[i]?=b3 v/\Ú K π n H v d:=by
 induction ds generalizing vs i with
 |nil=>simp at e|cons c ds b=>
  cases h with
  |cons h t=>
   cases i with
   |zero=>simp at e;subst e;show⟨_,rfl,h⟩|succ i=>let⟨v,h1,a⟩:=b t (by apply e);show⟨v,by apply h1,a⟩
def Æ.append(h:Æ K π n H vs ds)(a:Æ K π n H ws es):Æ K π n H (vs++ws) (ds++es):=by
 induction ds generalizing vs with
 |nil=>ext h;show a|cons d ds b=>
  cases h with
  |cons h t=>show .cons h<|b t
def Æ.drop(h:Æ K π n H vs ds)k:Æ K π n H (vs.drop k) (ds.drop k):=by
 induction ds generalizing vs k with
 |nil=>ext h;apply Æ.nil|cons d ds a=>
  cases h with
  |cons h t=>
   cases k with
   |zero=>show .cons h t|succ k=>show a t k
def Æ.take(h:Æ K π n H vs ds)k:Æ K π n H (vs.take k) (ds.take k):=by
 induction ds generalizing vs k with
 |nil=>ext h;apply Æ.nil|cons d ds a=>
  cases h with
  |cons h t=>
   cases k with
   |zero=>show .nil|succ k=>show .cons h<|a t k
def Æ.atI(h:Æ K π n H vs ds)(e:L2.atI ds i=b3 d):∃v,L2.atI vs i=b3 v/\Ú K π n H v d:=by
 unfold L2.atI at e ⊢;rw[h.length];cases q:mJ ds.length i with
 |none=>rw[q]at e;ext e|some j=>rw[q]at e;show h.get e
end
abbrev xV(p:Addr)(L:List Tb.El):HO:=.ext λh=>∃o,h.get? p=b3 o/\Tb.SObj L o
abbrev xW(p:List Int×Addr×V)(w:Value):DictEntry:=⟨Tb.hashT p.1,.ref p.2.1,w⟩
abbrev aT(a:Addr)(ps:List (List Int×Addr×V)):HO:=.ext λh=>∃ws:gw,Å (ps.map (·.2.2)) ws/\(a==ļ)=b5/\ps.length<=Ñ /\
 ∃o b c,h.get? a=b3 o/\o.ExactDict/\o.data=.dict b c/\b.toList=yr xW ps ws/\(ps.map (·.1)).Nodup
structure Rp(K:Õ)(π:Nat->Addr)(H:Hp)(μ:Hm):Prop where
 inj:∀a b,a<μ.length->b<μ.length->π a=π b->a=b
 has:∀a,a<μ.length->(H<|π a).isSome=dI
 lst:∀a xs,μ[a]?=b3 (.lst xs)->∃vs,H (π a)=b3 (.lst vs)/\Æ K π μ.length H vs xs
 dK:∀a kvs,μ[a]?=b3 (.dK kvs)->∃vs,H (π a)=b3 (.dK vs)/\vs.map (·.1)=kvs.map (·.1)/\Æ K π μ.length H (vs.map (·.2)) (kvs.map (·.2))
 st:∀a ks,μ[a]?=b3 (.st ks)->∃L:List Tb.El,H (π a)=b3 (xV (π a) L)/\L.map (·.1)=ks/\Æ K π μ.length H (L.map λp=>V.ref p.2) (ks.map λk=>D.tup<|k.map D.int)
 dT:∀a kvs,μ[a]?=b3 (.dT kvs)->∃ps:List (List Int×Addr×V),H (π a)=b3 (aT (π a) ps)/\ps.map (·.1)=kvs.map (·.1)/\Æ K π μ.length H (ps.map λp=>V.ref p.2.1) (kvs.map λk=>D.tup<|k.1.map D.int)/\Æ K π μ.length H (ps.map (·.2.2)) (kvs.map (·.2))
 dF:∀a kvs,μ[a]?=b3 (.dF kvs)->∃(ob:Obj)(ps:List (List Int×Addr×V)),H (π a)=b3 (.frz ob<|aT (π a) ps)/\ps.map (·.1)=kvs.map (·.1)/\Æ K π μ.length H (ps.map λp=>V.ref p.2.1) (kvs.map λk=>D.tup<|k.1.map D.int)/\Æ K π μ.length H (ps.map (·.2.2)) (kvs.map (·.2))
structure En(K:Õ)(π:Nat->Addr)(n:Nat)(H:Hp)(σ:St)(ρ:aF):Prop where
 len:σ.length=ρ.length
 get:∀(i:Nat)(d:D),ρ[i]?=b3 (b3 d)->∃v,σ[i]?=b3 (b3 v)/\Ú K π n H v d
def En.mono(E:En K π n H σ ρ)(e:ò π n H π' n' H'):En K π' n' H' σ ρ:=
 ⟨E.len,λi d h=>let⟨v,h1,a⟩:=E.get i d h;⟨v,h1,a.mono e⟩⟩
def En.set(E:En K π n H σ ρ)(h:Ú K π n H v d)i:En K π n H (σ.set i<|b3 v) (ρ.set i<|b3 d):=by
 show⟨by rw[Ÿ,Ÿ];show E.len,λj c e=>?_⟩;rw[List.getElem?_set]at e ⊢;by_cases a:i=j
 .subst a;rw[if_pos rfl]at e ⊢;rw[E.len];by_cases b:i<ρ.length
  .rw[if_pos b]at e ⊢;ext e;show⟨v,rfl,h⟩
  .rw[if_neg b]at e;ext e
 .rw[if_neg a]at e ⊢;show E.get j c e
def Rp.ne(R:Rp K π H μ)(h:H p=b4)(b:a<μ.length):π a≠p:=λe=>by have:=R.has a b;rw[e,h]at this;ext this
def Rp.fresh(R:Rp K π H μ)(h:H p=b4):ò π μ.length H π μ.length (upd H p o)/\Rp K π (upd H p o) μ:=by
 let c:∀b u,H b=b3 u->upd H p o b=b3 u:=λb u e=>by rw[bQ<|k7 e h];show e
 let e:ò π μ.length H π μ.length (upd H p o):=⟨Ø _,λ_ x=>rfl,λq i e=>c q _ e,λq o u e=>c q _ e⟩;show⟨e,R.inj,λa d=>?_,λa w d=>?_,λa g d=>?_,λa v d=>?_
  ,λa g d=>?_
  ,λa g d=>?_
  ⟩
 .rw[bQ<|R.ne h d];show R.has a d
 .let⟨i,h1,j⟩:=R.lst a w d;show⟨i,c _ _ h1,j.mono e⟩
 .let⟨i,h1,j,k⟩:=R.dK a g d;show⟨i,c _ _ h1,j,k.mono e⟩
 .let⟨i,h1,j,k⟩:=R.st a v d;show⟨i,c _ _ h1,j,k.mono e⟩
 .let⟨i,h1,j,k,s⟩:=R.dT a g d;show⟨i,c _ _ h1,j,k.mono e,s.mono e⟩
 .let⟨ob,i,h1,j,k,s⟩:=R.dF a g d;show⟨ob,i,c _ _ h1,j,k.mono e,s.mono e⟩
abbrev vF(K:Õ)(π:Nat->Addr)(n:Nat)(H:Hp)(p:Addr):C->HO->Prop
 |.lst xs,.lst vs=>Æ K π n H vs xs|.dK kvs,.dK vs=>vs.map (·.1)=kvs.map (·.1)/\Æ K π n H (vs.map (·.2)) (kvs.map (·.2))|.st ks,o=>∃L:List Tb.El,o=xV p L/\L.map (·.1)=ks/\Æ K π n H (L.map λp=>V.ref p.2) (ks.map λk=>D.tup<|k.map D.int)|.dT kvs,o=>∃ps:List (List Int×Addr×V),o=aT p ps/\ps.map (·.1)=kvs.map (·.1)/\Æ K π n H (ps.map λp=>V.ref p.2.1) (kvs.map λk=>D.tup<|k.1.map D.int)/\Æ K π n H (ps.map (·.2.2)) (kvs.map (·.2))|.dF kvs,o=>∃(ob:Obj)(ps:List (List Int×Addr×V)),o=.frz ob (aT p ps)/\ps.map (·.1)=kvs.map (·.1)/\Æ K π n H (ps.map λp=>V.ref p.2.1) (kvs.map λk=>D.tup<|k.1.map D.int)/\Æ K π n H (ps.map (·.2.2)) (kvs.map (·.2))|_,_=>False
abbrev lF(π:Nat->Addr)(n:Nat)(p:Addr):Nat->Addr:=λa=>if a=n then p else π a
def Rp.alloc(R:Rp K π H μ)(h:H p=b4)(hc:vF K π μ.length H p c o):
  ò π μ.length H (lF π μ.length p) (μ++[c]).length (upd H p o)/\Rp K (lF π μ.length p) (upd H p o) (μ++[c])/\lF π μ.length p μ.length=p:=by
 let E:(μ++[c]).length=μ.length+1:=∅
 let g:∀b u,H b=b3 u->upd H p o b=b3 u:=λb u e=>by rw[bQ<|k7 e h];show e
 let z:lF π μ.length p μ.length=p:=if_pos rfl;let x:∀a,a<μ.length->lF π μ.length p a=π a:=λa d=>if_neg<|û d;let e:ò π μ.length H (lF π μ.length p) (μ++[c]).length (upd H p o):=⟨by rw[E];show mL _,x,λq s e=>g q _ e,λq o u e=>g q _ e⟩;let split:∀a,a<(μ++[c]).length->a<μ.length\/a=μ.length:=λa d=>by rw[E]at d;lia
 let get:∀a,a<μ.length->(μ++[c])[a]?=μ[a]?:=λa d=>ϗ d;let j:(μ++[c])[μ.length]?=b3 c:=∅
 show⟨e,⟨λa b d B q=>?_,λa d=>?_,λa I d=>?_,λa w d=>?_,λa G d=>?_
  ,λa w d=>?_
  ,λa w d=>?_
  ⟩,z⟩
 .rcases split a d with d|rfl<;>rcases split b B with B|rfl
  .rw[x a d,x b B]at q;show R.inj a b d B q
  .rw[x a d,z]at q;show absurd q<|R.ne h d
  .rw[z,x b B]at q;show absurd q.symm<|R.ne h B
  .rfl
 .rcases split a d with d|rfl
  .rw[x a d,bQ<|R.ne h d];show R.has a d
  .rw[z,dW];rfl
 .let i:a<(μ++[c]).length:=(â.mp d).1;rcases split a i with h1|rfl
  .rw[get a h1]at d;let⟨s,y,k⟩:=R.lst a I d;rw[x a h1];show⟨s,g _ _ y,k.mono e⟩
  .rw[j]at d;ext d;cases o with
   |lst s=>rw[z];show⟨s,dW,Æ.mono e hc⟩|_=>show υ hc
 .let i:a<(μ++[c]).length:=(â.mp d).1;rcases split a i with h1|rfl
  .rw[get a h1]at d;let⟨s,y,k,v⟩:=R.dK a w d;rw[x a h1];show⟨s,g _ _ y,k,v.mono e⟩
  .rw[j]at d;ext d;cases o with
   |dK s=>rw[z];show⟨s,dW,hc.1,Æ.mono e hc.2⟩|_=>show υ hc
 .let i:a<(μ++[c]).length:=(â.mp d).1;rcases split a i with h1|rfl
  .rw[get a h1]at d;let⟨s,y,k,v⟩:=R.st a G d;rw[x a h1];show⟨s,g _ _ y,k,v.mono e⟩
  .rw[j]at d;ext d;let⟨L,rfl,k,v⟩:=hc;rw[z];show⟨L,dW,k,v.mono e⟩
 .let i:a<(μ++[c]).length:=(â.mp d).1;rcases split a i with h1|rfl
  .rw[get a h1]at d;let⟨s,y,k,v,A⟩:=R.dT a w d;rw[x a h1];show⟨s,g _ _ y,k,v.mono e,A.mono e⟩
  .rw[j]at d;ext d;let⟨L,rfl,k,v,A⟩:=hc;rw[z];show⟨L,dW,k,v.mono e,A.mono e⟩
 .let i:a<(μ++[c]).length:=(â.mp d).1;rcases split a i with h1|rfl
  .rw[get a h1]at d;let⟨ob,s,y,k,v,A⟩:=R.dF a w d;rw[x a h1];show⟨ob,s,g _ _ y,k,v.mono e,A.mono e⟩
  .rw[j]at d;ext d;let⟨ob,L,rfl,k,v,A⟩:=hc;rw[z];show⟨ob,L,dW,k,v.mono e,A.mono e⟩
def Rp.putU(R:Rp K π H μ)(I:a<μ.length)(B:H (π a)=b3 u)(E:(∀vs,u≠.tup vs)/\∀ob v,(∀N,v≠HO.ext N)->u≠.frz ob v)(hc:vF K π μ.length H (π a) c o):
  Ő π μ.length H π (μ.set a c).length (upd H (π a) o)/\Rp K π (upd H (π a) o) (μ.set a c):=by
 let s:(μ.set a c).length=μ.length:=Ÿ ..;let e:Ő π μ.length H π (μ.set a c).length (upd H (π a) o):=by
  show⟨lw s.symm,λ_ f=>rfl,λq vs z=>?_,λq O Q nx z=>?_⟩
  .rw[bQ]
   .show z
   .intro e;subst e;rw[B]at z;show E.1 _<|ē z
  .rw[bQ]
   .show z
   .intro e;subst e;rw[B]at z;show E.2 _ _ nx<|ē z
 let i:∀b,b<μ.length->b≠a->upd H (π a) o (π b)=H (π b):=λb d A=>bQ λq=>A<|R.inj b a d I q;show⟨e,⟨λb G d y=>R.inj b G (s▸d)<|s▸y,λb d=>?_,λb M d=>?_,λb p d=>?_,λb J d=>?_
  ,λb p d=>?_
  ,λb p d=>?_
  ⟩⟩
 .by_cases h:b=a
  .subst h;rw[dW];rfl
  .rw[i b (s▸d) h];show R.has b<|s▸d
 .let g:b<μ.length:=s▸(â.mp d).1;by_cases h:b=a
  .subst h;rw[Ϥ g]at d;ext d;cases o with
   |lst vs=>show⟨vs,dW,Æ.mono0 e hc⟩|_=>show υ hc
  .rw[ñ<|î h]at d;let⟨vs,w,j⟩:=R.lst b M d;show⟨vs,by rw[i b g h];show w,j.mono0 e⟩
 .let g:b<μ.length:=s▸(â.mp d).1;by_cases h:b=a
  .subst h;rw[Ϥ g]at d;ext d;cases o with
   |dK vs=>show⟨vs,dW,hc.1,Æ.mono0 e hc.2⟩|_=>show υ hc
  .rw[ñ<|î h]at d;let⟨vs,w,j,k⟩:=R.dK b p d;show⟨vs,by rw[i b g h];show w,j,k.mono0 e⟩
 .let g:b<μ.length:=s▸(â.mp d).1;by_cases h:b=a
  .subst h;rw[Ϥ g]at d;ext d;let⟨L,rfl,j,k⟩:=hc;show⟨L,dW,j,k.mono0 e⟩
  .rw[ñ<|î h]at d;let⟨vs,w,j,k⟩:=R.st b J d;show⟨vs,by rw[i b g h];show w,j,k.mono0 e⟩
 .let g:b<μ.length:=s▸(â.mp d).1;by_cases h:b=a
  .subst h;rw[Ϥ g]at d;ext d;let⟨L,rfl,j,k,x⟩:=hc;show⟨L,dW,j,k.mono0 e,x.mono0 e⟩
  .rw[ñ<|î h]at d;let⟨vs,w,j,k,x⟩:=R.dT b p d;show⟨vs,by rw[i b g h];show w,j,k.mono0 e,x.mono0 e⟩
 .let g:b<μ.length:=s▸(â.mp d).1;by_cases h:b=a
  .subst h;rw[Ϥ g]at d;ext d;let⟨ob,L,rfl,j,k,x⟩:=hc;show⟨ob,L,dW,j,k.mono0 e,x.mono0 e⟩
  .rw[ñ<|î h]at d;let⟨ob,vs,w,j,k,x⟩:=R.dF b p d;show⟨ob,vs,by rw[i b g h];show w,j,k.mono0 e,x.mono0 e⟩
def Rp.put0(R:Rp K π H μ)(e:a<μ.length)(g:H (π a)=b3 u)(d:(∃vs,u=.lst vs)\/(∃vs,u=.dK vs)\/(∃b,u=.ext b)\/∃ob b,u=.frz ob (.ext b))(hc:vF K π μ.length H (π a) c o):
  Ő π μ.length H π (μ.set a c).length (upd H (π a) o)/\Rp K π (upd H (π a) o) (μ.set a c):=
 R.putU e g ⟨λvs z=>(by rcases d with⟨w,rfl⟩|⟨w,rfl⟩|⟨w,rfl⟩|⟨ob,w,rfl⟩<;>ext z),λob v nx z=>by
  rcases d with⟨w,rfl⟩|⟨w,rfl⟩|⟨w,rfl⟩|⟨ob,w,rfl⟩<;>ext z;show nx _ rfl⟩ hc
def Rp.putE(R:Rp K π H μ)(g:a<μ.length)(d:H (π a)=b3 u)(b:(∀vs,u≠.tup vs)/\∀ob v,u≠.frz ob v)(hc:vF K π μ.length H (π a) c o):
  ò π μ.length H π (μ.set a c).length (upd H (π a) o)/\Rp K π (upd H (π a) o) (μ.set a c):=by
 let e:ò π μ.length H π (μ.set a c).length (upd H (π a) o):=by
  show⟨lw (Ÿ ..).symm,λ_ x=>rfl,λq vs z=>?_,λq h i z=>?_⟩
  .rw[bQ]
   .show z
   .intro e;subst e;rw[d]at z;show b.1 _<|ē z
  .rw[bQ]
   .show z
   .intro e;subst e;rw[d]at z;show b.2 _ _<|ē z
 show⟨e,(R.putU g d ⟨b.1,λob v x=>b.2 ob v⟩ hc).2⟩
def Rp.put(R:Rp K π H μ)(d:a<μ.length)(e:H (π a)=b3 u)(b:(∃vs,u=.lst vs)\/(∃vs,u=.dK vs)\/∃g,u=.ext g)(hc:vF K π μ.length H (π a) c o):
  ò π μ.length H π (μ.set a c).length (upd H (π a) o)/\Rp K π (upd H (π a) o) (μ.set a c):=
 R.putE d e ⟨λvs z=>(by rcases b with⟨w,rfl⟩|⟨w,rfl⟩|⟨w,rfl⟩<;>ext z),λob v z=>by rcases b with⟨w,rfl⟩|⟨w,rfl⟩|⟨w,rfl⟩<;>ext z⟩ hc
abbrev KC(K:Õ)(Q:VK)(π:Nat->Addr)(n:Nat)(H:Hp)(d:D)(μ':Hm):Prop:=
 ∀a v b,ò π n H a μ'.length b->Rp K a b μ'->Ú K a μ'.length b v d->Q v b
def KC.after(k:KC K Q π n H d μ')(e:ò π n H a g c):KC K Q a g c d μ':=
 λb v h j R i=>k b v h (e.trans j) R i
inductive tM (K:Õ)(m:ME)(σ:St)(H:Hp)(Q:VK):Prop
 |mk (π:Nat->Addr)(ρ:aF)(μ:Hm)(d:D)(μ':Hm)(R:Rp K π H μ)(E:En K π μ.length H σ ρ)(hm:m ρ μ=b3 (d,μ'))(k:KC K Q π μ.length H d μ'):tM K m σ H Q
inductive ŋ (K:Õ)(m:MT)(σ:St)(H:Hp)(Q:Bool->Hp->Prop):Prop
 |mk (π:Nat->Addr)(ρ:aF)(μ:Hm)(b:Bool)(μ':Hm)(R:Rp K π H μ)(E:En K π μ.length H σ ρ)(hm:m ρ μ=b3 (b,μ'))(k:∀π' H',ò π μ.length H π' μ'.length H'->Rp K π' H' μ'->Q b H'):ŋ K m σ H Q
inductive Ε (K:Õ)(m:MA)(σ:St)(H:Hp)(Q:gz->Hp->Prop):Prop
 |mk (π:Nat->Addr)(ρ:aF)(μ:Hm)(ds:List D)(μ':Hm)(R:Rp K π H μ)(E:En K π μ.length H σ ρ)(hm:m ρ μ=b3 (ds,μ'))(k:∀π' vs H',ò π μ.length H π' μ'.length H'->Rp K π' H' μ'->Æ K π' μ'.length H' vs ds->Q vs H'):Ε K m σ H Q
abbrev rG(K:Õ)(E:Ϙ)(π:Nat->Addr)(n:Nat)(H:Hp)(g:Fl)(e:aF)(μ':Hm):Prop:=
 match g with
 |.nx=>∀a b c,ò π n H a μ'.length c->Rp K a c μ'->En K a μ'.length c b e->E.nx b c|.bk=>∀a b c,ò π n H a μ'.length c->Rp K a c μ'->En K a μ'.length c b e->E.bk b c|.ct=>∀a b c,ò π n H a μ'.length c->Rp K a c μ'->En K a μ'.length c b e->E.ct b c|.rt d=>KC K E.rt π n H d μ'
inductive œ (K:Õ)(m:MS)(E:Ϙ)(σ:St)(H:Hp):Prop
 |mk (π:Nat->Addr)(ρ:aF)(μ:Hm)(fl:Fl)(ρ':aF)(μ':Hm)(R:Rp K π H μ)(EN:En K π μ.length H σ ρ)(hm:m ρ μ=b3 (fl,ρ',μ'))(k:rG K E π μ.length H fl ρ' μ'):œ K m E σ H
inductive xg (K:Õ)(f:MF)(vs:gz)(H:Hp)(Q:VK):Prop
 |mk (π:Nat->Addr)(ds:List D)(μ:Hm)(d:D)(μ':Hm)(R:Rp K π H μ)(i:Æ K π μ.length H vs ds)(hm:f ds μ=b3 (d,μ'))(k:KC K Q π μ.length H d μ'):xg K f vs H Q
abbrev mK(K:Õ)(k:Nat)(f:MF):Sp:=λvs H Q x=>vs.length=k/\xg K f vs H Q
def eP(h:PE X e t)(hw:∀σ H Q,tM X.K m σ H Q->t σ H Q):PE X e (tM X.K m):=λDo s σ H Q I q=>h Do s σ H Q I<|hw σ H Q q
def xX(h:PT X e t)(hw:∀σ H Q,ŋ X.K m σ H Q->t σ H Q):PT X e (ŋ X.K m):=λDo s σ H Q I q=>h Do s σ H Q I<|hw σ H Q q
def FJ(h:PW X e t)(hw:∀σ H Q,ŋ X.K m σ H Q->t σ H Q):PW X e (ŋ X.K m):=λd Do s σ H Q I q=>h d Do s σ H Q I<|hw σ H Q q
def FK(h:PA X es t)(hw:∀σ H Q,Ε X.K m σ H Q->t σ H Q):PA X es (Ε X.K m):=λp Do s σ H Q I q=>h p Do s σ H Q I<|hw σ H Q q
def nI(h:PS X st t)(hw:∀E σ H,œ X.K m E σ H->t E σ H):PS X st (œ X.K m):=λDo s σ H E I q=>h Do s σ H E I<|hw E σ H q
def FL(h:Ŝ X st t)(hw:∀E σ H,œ X.K m E σ H->t E σ H):Ŝ X st (œ X.K m):=λDo s σ H E I q=>h Do s σ H E I<|hw E σ H q
abbrev aE(i:Nat):ME:=λh g=>match h[i]? with|some (b3 d)=>b3 (d,g)|_=>b4
abbrev mC(d:D):ME:=λ_ g=>b3 (d,g)
open _root_ in
def p5D(h:aE i j g=b3 (d,μ')):j[i]?=b3 (b3 d)/\μ'=g:=by
 unfold aE at h;split at h
 .rename_i k e;ext h;show⟨e,rfl⟩
 .ext h
def p57 i(h:PE X (.Name x pos) (Bb i)):PE X (.Name x pos) (tM X.K<|aE i):=eP h<|by
 rintro u H Q ⟨p,s,q,d,o,R,E,n,k⟩;let⟨h1,rfl⟩:=p5D n;let⟨v,g,j⟩:=E.get i d h1;show⟨v,g,k p v H .refl R j⟩
def tD(h:PE X e (tC v))(hd:∀π n H,Ú X.K π n H v d):PE X e (tM X.K<|mC d):=eP h<|by
 rintro q H Q ⟨π,p,o,j,i,R,E,g,k⟩;ext g;show k π v H .refl R<|hd _ _ _
def h16:PE X (.Constant (.int i) j pos) (tM X.K<|mC<|.int i):=tD a9q λ_ x x=>.int i
def h12:PE X (.Constant (.bool i) j pos) (tM X.K<|mC<|.bl i):=tD a9n λ_ x x=>.bl i
def dMT:PE X (.Constant (.str i) j pos) (tM X.K<|mC<|.str i):=tD a9g λ_ x x=>.str i
def b5k:PE X (.Constant .none j pos) (tM X.K<|mC .non):=tD a9h λ_ x x=>.non
abbrev aA(f:D->D->Hm->jk)(a b:ME):ME:=λd g=>(a d g).bind λp=>(b d p.2).bind λq=>f p.1 q.1 q.2
abbrev eK(K:Õ)(f:D->D->Hm->jk)(r:R2):Prop:=
 ∀i H g x y d h j k Q,Rp K i H g->Ú K i g.length H j x->Ú K i g.length H k y->f x y g=b3 (d,h)->KC K Q i g.length H d h->r j k H Q
def vG(z:eK K f r):∀σ H Q,tM K (aA f ma mb) σ H Q->vA r (tM K ma) (tM K mb) σ H Q:=by rintro σ H Q ⟨L,s,J,d,j,R,E,g,k⟩;show bR g ?_;clear g;intro x h h1 g;show bR g ?_;clear g;intro y i w g;show⟨L,s,J,x,h,R,E,h1,λn G M p v A=>⟨n,s,h,y,i,v,E.mono p,w,λo I u q R2 B=>z o u i x y d j G I Q R2 (A.mono q) B g<|k.after<|p.trans q⟩⟩
def b5g(i:ď X (Υ op) r)(h:eK X.K f r)(d:PE X a (tM X.K ma))(g:PE X b (tM X.K mb)):PE X (.BinOp a op b pos) (tM X.K<|aA f ma mb):=
 eP (a7M i d g)<|vG h
def iM(j:ď X (ĳ op) r)(h:eK X.K f r)(d:PE X a (tM X.K ma))(g:PE X b (tM X.K mb))(i:ie op b=b5):PE X (.Compare a [op] [b] pos) (tM X.K<|aA f ma mb):=
 eP (a9S j d g i)<|vG h
abbrev a7(m:ME):MT:=λg d=>(m g d).bind λp=>match p.1 with|.bl b=>b3 (b,p.2)|_=>b4
def FN:∀σ H Q,ŋ K (a7 m) σ H Q->tM K m σ H λx g=>∃k,x=.bl k/\Q k g:=by
 rintro σ H Q ⟨s,u,o,b,p,R,E,d,k⟩;show bR d ?_;clear d;intro x q h1 d;cases x with
 |bl c=>ext d;show⟨s,u,o,_,_,R,E,h1,λh v g j i n=>?_⟩;ext n;show⟨_,rfl,k h g j i⟩|_=>ext d
def iN(n:ď X (ĳ op) r)(j:eK X.K f r)(g:PE X a (tM X.K ma))(i:PE X b (tM X.K mb))(k:ie op b=b5):PT X (.Compare a [op] [b] pos) (ŋ X.K<|a7<|aA f ma mb):=
 xX (a9R n g i k) λd H Q h=>vG j d H _<|FN d H Q h
section
variable{X:Cx}{e a b c:Expr}{m ma mb mc:ME}{pos:Į}{mt mu:MT}{cH:List Expr}
abbrev i9(a b:MT):MT:=λd g=>(a d g).bind λp=>match p.1 with|true=>b d p.2|false=>b3 (b5,p.2)
abbrev lH(a b:MT):MT:=λd g=>(a d g).bind λp=>match p.1 with|true=>b3 (dI,p.2)|false=>b d p.2
abbrev jT(a:MT):MT:=λg d=>(a g d).map λp=>(!p.1,p.2)
def b5f(d:PT X a (ŋ X.K mt)):PW X (.BoolOp .And [a] pos) (ŋ X.K mt):=b3h d
def b5c(d:PT X a (ŋ X.K mt)):PW X (.BoolOp .Or [a] pos) (ŋ X.K mt):=b3e d
def b5b(w:PT X a (ŋ X.K mt))(y:PW X (.BoolOp .And (b::cH) pos) (ŋ X.K mu)):PW X (.BoolOp .And (a::b::cH) pos) (ŋ X.K<|i9 mt mu):=FJ (b3V w y)<|by
 rintro B H Q ⟨A,q,z,d,n,R,E,g,k⟩;show bR g ?_;clear g;intro x h h1 g;show⟨A,q,z,x,h,R,E,h1,λi s j p=>?_⟩;cases x with
 |true=>show pU ?_;show⟨i,q,h,d,n,p,E.mono j,g,λo u v R2=>k o u (j.trans v) R2⟩|false=>
  show pT ?_;ext g;show k i s j p
def b4z(w:PT X a (ŋ X.K mt))(y:PW X (.BoolOp .Or (b::cH) pos) (ŋ X.K mu)):PW X (.BoolOp .Or (a::b::cH) pos) (ŋ X.K<|lH mt mu):=FJ (a6V w y)<|by
 rintro B H Q ⟨A,q,z,d,n,R,E,g,k⟩;show bR g ?_;clear g;intro x h h1 g;show⟨A,q,z,x,h,R,E,h1,λi s j p=>?_⟩;cases x with
 |true=>show pU ?_;ext g;show k i s j p|false=>
  show pT ?_;show⟨i,q,h,d,n,p,E.mono j,g,λo u v R2=>k o u (j.trans v) R2⟩
def b4y(p:PT X a (ŋ X.K mt)):PT X (.UnaryOp .Not a pos) (ŋ X.K<|jT mt):=xX (a6P p)<|by
 rintro w H Q ⟨u,v,q,d,s,R,E,g,k⟩;show vD g ?_;clear g;intro x h h1 g;ext g;show⟨u,v,q,x,h,R,E,h1,λi j o n=>k i j o n⟩
abbrev fQ(a b:ME):ME:=λd g=>(a d g).bind λp=>match p.1 with|.bl dI=>b d p.2|.bl b5=>b3 (.bl b5,p.2)|_=>b4
abbrev Bx(a b:ME):ME:=λd g=>(a d g).bind λp=>match p.1 with|.bl dI=>b3 (.bl dI,p.2)|.bl b5=>b d p.2|_=>b4
abbrev tE(a:ME):ME:=λg d=>(a g d).bind λp=>match p.1 with|.bl b=>b3 (.bl<|!b,p.2)|_=>b4
def b4u(h:PE X a (tM X.K m)):PE X (.BoolOp op [a] pos) (tM X.K m):=z16 h
def b4r(s:PE X a (tM X.K ma))(u:PE X (.BoolOp .And (b::cH) pos) (tM X.K mb)):PE X (.BoolOp .And (a::b::cH) pos) (tM X.K<|fQ ma mb):=eP (z10 s u)<|by
 rintro A H Q ⟨y,p,w,d,n,R,E,g,k⟩;show bR g ?_;clear g;intro x h h1 g;cases x with
 |bl c=>
  show⟨y,p,w,.bl c,h,R,E,h1,λi z q j o v=>?_⟩;ext v;show⟨c,rfl,?_⟩;cases c with
  |true=>show pU ?_;show⟨i,p,h,d,n,o,E.mono j,g,k.after j⟩|false=>show pT ?_;ext g;show k i _ q j o<|.bl b5
 |_=>ext g
def b4q(s:PE X a (tM X.K ma))(u:PE X (.BoolOp .Or (b::cH) pos) (tM X.K mb)):PE X (.BoolOp .Or (a::b::cH) pos) (tM X.K<|Bx ma mb):=eP (x13 s u)<|by
 rintro A H Q ⟨y,p,w,d,n,R,E,g,k⟩;show bR g ?_;clear g;intro x h h1 g;cases x with
 |bl c=>
  show⟨y,p,w,.bl c,h,R,E,h1,λi z q j o v=>?_⟩;ext v;show⟨c,rfl,?_⟩;cases c with
  |true=>show pU ?_;ext g;show k i _ q j o (.bl dI)|false=>show pT ?_;show⟨i,p,h,d,n,o,E.mono j,g,k.after j⟩
 |_=>ext g
def b4p(o:PE X a (tM X.K ma)):PE X (.UnaryOp .Not a pos) (tM X.K<|tE ma):=eP (x12 o)<|by
 rintro z H Q ⟨v,w,q,d,s,R,E,g,k⟩;show bR g ?_;clear g;intro x u h1 g;cases x with
 |bl c=>ext g;show⟨v,w,q,_,_,R,E,h1,λh y i n j p=>?_⟩;ext p;show⟨_,rfl,k h _ i n j<|.bl _⟩
 |_=>ext g
abbrev iO(t:MT)(a b:ME):ME:=λd g=>(t d g).bind λp=>match p.1 with|true=>a d p.2|false=>b d p.2
def a8U(hc:PT X c (ŋ X.K mt))(q:PE X a (tM X.K ma))(s:PE X b (tM X.K mb)):PE X (.IfExp c a b pos) (tM X.K<|iO mt ma mb):=eP (i10 hc q s)<|by
 rintro y H Q ⟨v,o,u,d,i,R,E,h,k⟩;show bR h ?_;clear h;intro x g h1 h;show⟨v,o,u,x,g,R,E,h1,λj w n p=>?_⟩;cases x with
 |true=>show pU ?_;show⟨j,o,g,d,i,p,E.mono n,h,k.after n⟩|false=>
  show pT ?_;show⟨j,o,g,d,i,p,E.mono n,h,k.after n⟩
abbrev aG:MA:=λ_ d=>b3 ([],d)
abbrev aB(a:ME)(r:MA):MA:=λd g=>(a d g).bind λp=>(r d p.2).bind λq=>b3 (p.1::q.1,q.2)
variable{es:List Expr}{ms:MA}
def a8T:PA X [] (Ε X.K aG):=FK E6<|by
 rintro o H Q ⟨i,n,j,d,h,R,E,g,k⟩;ext g;show k i [] H .refl R .nil
def a8N(w:PE X e (tM X.K m))(y:PA X es (Ε X.K ms))(z:ý (e::es) X.env=(b5,eval e X.env)::ý es X.env:=by rfl):PA X (e::es) (Ε X.K<|aB m ms):=FK (E7 w y z)<|by
 rintro O H Q ⟨K,q,I,d,J,R,E,g,k⟩;show bR g ?_;clear g;intro x h h1 g;show bR g ?_;clear g;intro G i v g;ext g;show⟨K,q,I,x,h,R,E,h1,λj M L o u A=>⟨j,q,h,G,i,u,E.mono o,v,λn N s p R2 B=>k n _ s (o.trans p) R2<|.cons (A.mono p) B⟩⟩
abbrev cQ(ms:MA):ME:=λg d=>(ms g d).bind λp=>if p.1.length<=Ñ then b3 (.tup p.1,p.2)else b4
abbrev cR(ms:MA):ME:=λg d=>(ms g d).bind λp=>if p.1.length<=Ñ then b3 (.loc p.2.length,p.2++[.lst p.1])else b4
open _root_ in
def a8K(h:PA X es (Ε X.K ms)):PE X (.Tuple es w pos) (tM X.K<|cQ ms):=eP (b0H h)<|by
 rintro J H Q ⟨A,B,x,d,y,R,E,g,k⟩;show bR g ?_;clear g;intro I z h1 g;split at g
 .rename_i s;ext g;show⟨A,B,x,_,_,R,E,h1,λi v G q o n=>⟨by rw[n.length];show s,λp u=>?_⟩⟩;let⟨j,R2⟩:=o.fresh (o:=.tup v) u;show k i _ _ (q.trans j) R2<|.tup (.of dW)<|n.mono j
 .ext g
open _root_ in
def a8I(h:PA X es (Ε X.K ms)):PE X (.List es pos) (tM X.K<|cR ms):=eP (a9z h)<|by
 rintro K H Q ⟨I,J,B,d,G,R,E,i,k⟩;show bR i ?_;clear i;intro n g h1 i;split at i
 .rename_i y;ext i;show⟨I,J,B,n,g,R,E,h1,λj o s w v u=>⟨by rw[u.length];show y,λp z=>?_⟩⟩;let⟨x,R2,q⟩:=v.alloc (c:=.lst n) (o:=.lst o) z u;let A:Ú X.K (lF j g.length p) (g++[C.lst n]).length (upd s p<|.lst o) (.ref p) (.loc g.length):=by have:=Ú.loc (K:=X.K) (π:=lF j g.length p) (n:=(g++[C.lst n]).length) (H:=upd s p (.lst o)) (a:=g.length) ∅;rw[q]at this;show this
  show k _ _ _ (w.trans x) R2 A
 .ext i
abbrev bJ(f:MF)(ms:MA):ME:=λg d=>(ms g d).bind λp=>f p.1 p.2
def a8H(w:∀j i ds μ',ms j i=b3 (ds,μ')->ds.length=n):∀σ H Q,tM K (bJ f ms) σ H Q->Bp (mK K n f) [] E (Ε K ms) σ H Q:=by rintro σ H Q ⟨y,j,i,d,μ',R,E,h,k⟩;show bR h ?_;clear h;intro o g h1 h;show⟨y,j,i,o,g,R,E,h1,λp x s v u q=>?_⟩;change mK K n f (x++[]) s Q _;rw[ŉ];show⟨by rw[q.length];show w j i o g h1,p,o,g,d,μ',u,q,h,k.after v⟩
def a8G:∀g d ds μ',aG g d=b3 (ds,μ')->ds.length=0:=by intro g d ds μ' h;ext h;rfl
def a8F(h:∀g i ds μ',ms g i=b3 (ds,μ')->ds.length=n):∀g i ds μ',aB m ms g i=b3 (ds,μ')->ds.length=n+1:=by intro g i ds μ' d;show bR d ?_;clear d;intro x j h1 d;show bR d ?_;clear d;intro o p k d;ext d;rw[ņ,h g j o _ k]
def a8B(F:ķ X.prog X.w X.K X.mg X.base i8 k f i ps (mK X.K n j))(z:ç k X.A)(u:Gl X x)(w:X.mg x=b3 (.ref f))(v:ϳ X.K (.ref f)=dI)(q:ĥ X.K i ps [])(o:PA X (e::es) (Ε X.K ms))(y:∀B A ds h,ms B A=b3 (ds,h)->ds.length=n)(d:(x==("__debug__":Str))=false:=by decide)(s:ý (e::es) X.env=(b5,eval e X.env)::ý es X.env:=by rfl)(g:(ŕ pos<|ý es X.env).any (·.1)=false:=by rfl):
  PE X (.Call (.Name x p) (e::es) [] pos) (tM X.K<|bJ j ms):=
 eP (a9y F z u w v q .nil (E:=E0) FE o d s g)<|a8H y
abbrev eY(K:Õ)(f:MF)(r:gz->Hp->VK->Prop):Prop:=
 ∀i H h k d g j Q,Rp K i H h->Æ K i h.length H j k->f k h=b3 (d,g)->KC K Q i h.length H d g->r j H Q
def By(s:eY K f r):∀σ H Q,tM K (bJ f ms) σ H Q->xQ r (Ε K ms) σ H Q:=by rintro σ H Q ⟨x,y,w,d,i,R,E,h,k⟩;show bR h ?_;clear h;intro n g h1 h;show⟨x,y,w,n,g,R,E,h1,λj v o q p u=>s j o g n d i v Q p u h<|k.after q⟩
def a7o{id:String}(hc:Ü X (.builtin id) r)(j:eY X.K f r)(k:Gl X x)(n:X.mg x=b4)(q:Ψ x=b3 (.builtin id))(h:PA X (e::es) (Ε X.K ms))(o:x ≠ "__name__":=by decide)(d:(x==("__debug__":Str))=false:=by decide)(i:ý (e::es) X.env=(b5,eval e X.env)::ý es X.env:=by rfl)(g:(ŕ pos<|ý es X.env).any (·.1)=false:=by rfl):PE X (.Call (.Name x p) (e::es) [] pos) (tM X.K<|bJ f ms):=
 eP (a9e hc k n q h o d i g)<|By j
def a7b(hc:Ü X (.type T) r)(j:eY X.K f r)(k:Gl X x)(n:X.mg x=b4)(q:Ψ x=b3 (.type T))(h:PA X (e::es) (Ε X.K ms))(o:x ≠ "__name__":=by decide)(d:(x==("__debug__":Str))=false:=by decide)(i:ý (e::es) X.env=(b5,eval e X.env)::ý es X.env:=by rfl)(g:(ŕ pos<|ý es X.env).any (·.1)=false:=by rfl):PE X (.Call (.Name x p) (e::es) [] pos) (tM X.K<|bJ f ms):=
 eP (a9d hc k n q h o d i g)<|By j
abbrev bO(d:Hm):D->Option (List D)
 |.tup xs=>b3 xs|.rol xs=>b3 xs|.loc a=>match d[a]? with|some (.lst xs)=>b3 xs|_=>b4
 |_=>b4
abbrev kJ:D->D->Hm->jk
 |.str z,.int i,μ=>if z.length<=Ñ then(atI z.cps.toList i).map λc=>(.str ⟨#[c]⟩,μ)else b4|x,.int i,μ=>(bO μ x).bind λg=>(atI g i).map λd=>(d,μ)|_,_,_=>b4
open _root_ in
def a7Y:eK K kJ (Fs K):=by
 intro p H O x y d I M N Q R s E g k;cases E with
 |int i=>
  cases s with
  |str z=>
   dsimp[kJ]at g;split at g
   .rename_i A;show cE g ?_;clear g;intro c h1 j;ext j;show .inr<|.inr ⟨z,i,c,rfl,rfl,A,h1,k p _ H .refl R<|.str _⟩
   .ext g
  |tup h t=>dsimp[kJ,bO,Đ]at g;show cE g ?_;clear g;intro q h1 j;ext j;let⟨v,n,o⟩:=t.atI h1;show .inr (.inl ⟨_,_,i,v,rfl,rfl,h,n,k p _ H .refl R o⟩)|rol h t=>dsimp[kJ,bO,Đ]at g;show cE g ?_;clear g;intro q h1 j;ext j;let⟨v,n,o⟩:=t.atI h1;show .inl ⟨_,_,i,v,rfl,rfl,h.sq,n,k p _ H .refl R o⟩|@loc a J=>
   dsimp[kJ,bO]at g;split at g
   .rename_i G B;dsimp[Đ]at g;show cE g ?_;clear g;intro q h1 j;ext j;let⟨L,u,w⟩:=R.lst a G B;let⟨v,n,o⟩:=w.atI h1;show .inl ⟨_,_,i,v,rfl,rfl,.of u,n,k p _ H .refl R o⟩
   .ext g
  |_=>simp[kJ,bO]at g
 |_=>ext s<;>simp[kJ]at g
def a7S(d:PE X a (tM X.K ma))(g:PE X b (tM X.K mb))(h:Bs b):PE X (.Subscript a b pos) (tM X.K<|aA kJ ma mb):=eP (b1K b1F d g h)<|vG a7Y
abbrev nJ(xs:List D)(lo hi:Option Int):List D:=(xs.drop<|HT.sIx xs.length 0 lo).take<|HT.sIx xs.length xs.length hi-HT.sIx xs.length 0 lo
noncomputable abbrev MO:=aF->Hm->Option (Option Int×Hm)
abbrev mM:MO:=λ_ d=>b3 (b4,d)
abbrev mN(m:ME):MO:=λg d=>(m g d).bind λp=>match p.1 with|.int i=>b3 (b3 i,p.2)|_=>b4
inductive qm (K:Õ)(m:MO)(σ:St)(H:Hp)(Q:Option Int->Hp->Prop):Prop
 |mk (π:Nat->Addr)(ρ:aF)(μ:Hm)(o:Option Int)(μ':Hm)(R:Rp K π H μ)(E:En K π μ.length H σ ρ)(hm:m ρ μ=b3 (o,μ'))(k:∀π' H',ò π μ.length H π' μ'.length H'->Rp K π' H' μ'->Q o H'):qm K m σ H Q
def a7H:PO X b4 (qm X.K mM):=λDo s σ H Q I q=>b1s Do s σ H Q I<|by
 let⟨h,j,i,o,g,R,E,d,k⟩:=q;ext d;show k h H .refl R
def a7F(h:PE X e (tM X.K m)):PO X (b3 e) (qm X.K<|mN m):=λDo s σ H Q I q=>b1p h Do s σ H Q I<|by
 let⟨z,A,v,o,w,R,E,d,k⟩:=q;show bR d ?_;clear d;intro x y h1 d;cases x with
 |int i=>ext d;show⟨z,A,v,_,_,R,E,h1,λg B j p n u=>?_⟩;ext u;show⟨_,rfl,k g j p n⟩
 |_=>ext d
noncomputable abbrev FP(K:Õ):V->Option Int->Option Int->Hp->VK->Prop:=Bt K
def WbI:Bq X (FP X.K):=b1A
def FQ(h:Bt K x lo hi H Q):FP K x lo hi H Q:=h
abbrev rH(a:ME)(lo hi:MO):ME:=λd h=>(a d h).bind λp=>(lo d p.2).bind λq=>(hi d q.2).bind λr=>
 match p.1 with
 |.tup _=>b4|x=>(bO r.2 x).bind λg=>b3 (.loc r.2.length,r.2++[.lst<|nJ g q.1 r.1])
def FR(h:Æ K π n H vs ds)lo hi:Æ K π n H (pS vs lo hi) (nJ ds lo hi):=by ext pS nJ;rw[h.length];show(h.drop _).take _
def mO{d:Hm}{c:C}:Ú K (lF π d.length p) (d++[c]).length H (.ref p) (.loc d.length):=by have:=Ú.loc (K:=K) (π:=lF π d.length p) (n:=(d++[c]).length) (H:=H) (a:=d.length) ∅;rw[show lF π d.length p d.length=p from if_pos rfl]at this;show this
open _root_ in
def a9H(Z:PE X a (tM X.K ma))(hl:PO X lo (qm X.K L))(hu:PO X hi (qm X.K K)):PE X (.Subscript a (.Slice lo hi b4 p2) pos) (tM X.K<|rH ma L K):=eP (b1n WbI Z hl hu)<|by
 rintro σ H Q ⟨π,J,μ,d,μ',R,E,g,k⟩;show bR g ?_;clear g;intro x j h1 g;show bR g ?_;clear g;intro l n O g;show bR g ?_;clear g;intro u B T g;show⟨π,J,μ,x,j,R,E,h1,λG v1 H1 o N i1=>⟨G,J,j,l,n,N,E.mono o,O,λI H2 s R2=>⟨I,J,n,u,B,R2,(E.mono o).mono s,T,λπ3 H3 y v=>?_⟩⟩⟩;let i3:=(i1.mono s).mono y;cases i3 with
 |rol h t=>dsimp[bO,Đ]at g;ext g;show FQ ⟨_,_,rfl,h.sq,λp A=>?_⟩;let⟨z,w,q⟩:=v.alloc (c:=.lst (nJ _ l u)) (o:=.lst (pS _ l u)) A<|FR t l u;show k _ _ _ (((o.trans s).trans y).trans z) w mO|@loc i hi'=>
  dsimp[bO]at g;split at g
  .rename_i M hx;dsimp[Đ]at g;ext g;let⟨vs,U,Y⟩:=v.lst i M hx;show FQ ⟨_,_,rfl,.of U,λp A=>?_⟩;let⟨z,w,q⟩:=v.alloc (c:=.lst (nJ M l u)) (o:=.lst (pS vs l u)) A<|FR Y l u;show k _ _ _ (((o.trans s).trans y).trans z) w mO
  .ext g
 |tup h t=>simp at g
 |_=>simp[bO]at g
end
abbrev bV:MS:=λg d=>b3 (.nx,g,d)
abbrev aL(a b:MS):MS:=λg d=>(a g d).bind λp=>match p.1 with|.nx=>b p.2.1 p.2.2|_=>b3 p
abbrev aM(m:ME):MS:=λd g=>(m d g).map λp=>(.rt p.1,d,p.2)
abbrev dX(m:ME):MS:=λd g=>(m d g).map λp=>(.nx,d,p.2)
abbrev bK(t:MT)(a b:MS):MS:=λd g=>(t d g).bind λp=>match p.1 with|true=>a d p.2|false=>b d p.2
abbrev fR(i:Nat)(m:ME):MS:=λd g=>(m d g).map λp=>(.nx,d.set i<|b3 p.1,p.2)
def a9C:Ŝ X [] (œ X.K bV):=FL b5l<|by
 rintro E n H ⟨i,q,p,o,j,h,R,d,g,k⟩;ext g;show k i n H .refl R d
def a9B{cH:List Stmt}(h1:PS X st (œ X.K ms))(G:Ŝ X cH (œ X.K mr)):Ŝ X (st::cH) (œ X.K<|aL ms mr):=FL (b5i h1 G)<|by
 rintro E N H ⟨J,K,I,y,w,u,R,A,i,k⟩;obtain⟨⟨x,q,p⟩,h1,i⟩:=Ś.mp i;show⟨J,K,I,x,q,p,R,A,h1,?_⟩;cases x with
 |nx=>
  intro v L M s B z;show⟨v,q,p,y,w,u,B,z,i,?_⟩;cases y with
  |nx=>show λg h n o R2 j=>k g h n (s.trans o) R2 j|bk=>show λg h n o R2 j=>k g h n (s.trans o) R2 j|ct=>show λg h n o R2 j=>k g h n (s.trans o) R2 j|rt d=>show KC.after k s
 |rt d=>ext i;show k|bk=>ext i;show k
 |ct=>ext i;show k
def a9A(h1:PS X st (œ X.K ms)):Ŝ X [st] (œ X.K ms):=b5h h1
def a8u:PS X (.Pass pos) (œ X.K bV):=nI b5e<|by
 rintro E n H ⟨i,q,p,o,j,h,R,d,g,k⟩;ext g;show k i n H .refl R d
def a8t(i:PE X e (tM X.K m)):PS X (.Return (b3 e) pos) (œ X.K<|aM m):=nI (b3g i)<|by
 rintro E u H ⟨o,p,j,s,q,n,R,h,d,k⟩;show vD d ?_;clear d;intro x g h1 d;ext d;show⟨o,p,j,x,g,R,h,h1,k⟩
def a8q(p:PE X e (tM X.K m))(q:fu e b4 pos.line X.env=pure false:=by rfl):PS X (.Expr e pos) (œ X.K<|dX m):=nI (b4j p q)<|by
 rintro E z H ⟨v,w,s,A,y,u,R,i,d,k⟩;show vD d ?_;clear d;intro x g h1 d;ext d;show⟨v,w,s,x,g,R,i,h1,λh G n j o B=>k h z n j o<|i.mono j⟩
def a8c{mt:MT}(hc:PT X c (ŋ X.K mt))(I:Ŝ X body (œ X.K ms))(J:Ŝ X orelse (œ X.K mu)):PS X (.If c body orelse pos) (œ X.K<|bK mt ms mu):=nI (a8f hc I J)<|by
 rintro E M H ⟨L,z,K,w,o,j,R,y,v,k⟩;show bR v ?_;clear v;intro x i h1 v;show⟨L,z,K,x,i,R,y,h1,λn G p A=>?_⟩;let B:rG X.K E n i.length G w o j:=by
  cases w with
  |nx=>show λg h s u R2 q=>k g h s (p.trans u) R2 q|bk=>show λg h s u R2 q=>k g h s (p.trans u) R2 q|ct=>show λg h s u R2 q=>k g h s (p.trans u) R2 q|rt d=>show KC.after k p
 cases x with
 |true=>show pU ?_;show⟨n,z,i,w,o,j,A,y.mono p,v,B⟩|false=>
  show pT ?_;show⟨n,z,i,w,o,j,A,y.mono p,v,B⟩
def FT(s:X.N.Nodup)(hi:X.N[i]?=b3 x)(y:Loc X.env.scope x)(u:PE X e (tM X.K m))(w:fu e (b3<|.Name x d) pos.line X.env=pure false:=by rfl)(v:X.fn x=dI\/X.env.scope.names.lookup x=b3 .local:=by first|show .inl rfl|show .inr rfl|assumption):PS X (.Assign [.Name x d] e pos) (œ X.K<|fR i m):=nI (a8X s hi y u w v)<|by
 rintro E M H ⟨G,I,A,K,J,B,R,n,g,k⟩;show vD g ?_;clear g;intro x h h1 g;ext g;show⟨G,I,A,x,h,R,n,h1,λj L p o q z=>k j _ p o q<|(n.mono o).set z i⟩
abbrev xY(n:Nat)(ds:List D):aF:=ds.map b3++ϡ (n-ds.length) b4
abbrev Bz(n:Nat)(m:MS):MF:=λds a=>(m (xY n ds) a).bind λp=>match p.1 with|.rt d=>b3 (d,p.2.2)|.nx=>b3 (.non,p.2.2)|_=>b4
def b3f(h:Æ K π n H vs ds)(k:vs.length<=N.length):En K π n H (L2.start N vs) (xY N.length ds):=by
 let a:=h.length;show⟨by simp[L2.start,xY,a],λi d e=>?_⟩;unfold xY at e;ext L2.start;by_cases hi:i<ds.length
 .rw[ϗ<|by apply hi,ú]at e;show cE e ?_;clear e;intro j h1 b;ext b;let⟨v,c,g⟩:=h.get h1;show⟨v,by rw[ϗ<|by rw[Ã,a];show hi,ú,c];rfl,g⟩
 .rw[jf<|by apply qz.mp hi]at e;have:=zx (n:=N.length-ds.length) (a:=(b4:Option D)) (i:=i-(ds.map b3).length);rw[this]at e;split at e<;>simp at e
def b3c(F:ϩ K x a st f p)(S:Ĩ N ps (dO st))(g:ps.length<=N.length)(c:∀b A outer s H E,ç k (A.deeper<|SK a (dO st) s.heap.objs.size f b)->
   Ŝ (oN i8 P w K mg base N a (dO st) f b A outer s H E).nox (iL st) (œ K m)):ķ P w K mg base i8 (k+1) f p ps (mK K ps.length<|Bz N.length m):=by
 show F.ok S (λI H Q E h=>h.1) λb A outer s H I Q E B h=>⟨_,c b A outer s H E B,?_⟩;let⟨G,M,ds,J,d,L,R,i,e,u⟩:=h;obtain⟨⟨q,o,j⟩,h1,e⟩:=Ś.mp e;show⟨M,_,J,q,o,j,R,b3f i<|by rw[G];show g,h1,?_⟩;cases q with
 |rt U=>ext e;show u|nx=>ext e;show λn O v z y T=>u n .non v z y .non|bk=>ext e|ct=>ext e
open SeqAt (EqAt RcAt RcNeAt)
inductive KD where
 |non|bl (b:Bool)|int (i:Int)|str (x:Str)|tup (n:Nat)|lst (n:Nat)
inductive η (s:Ù):Value->KD->Prop where
 |non:η s .none .non
 |bl (b:Bool):η s (.bool b)<|.bl b
 |int (i:Int)(t:au):η s (.int i t)<|.int i
 |str (x:Str)(t:au):η s (.str x t)<|.str x
 |tup {l:Addr}{its:gw}(h:s.heap.IsTuple l its.toArray):η s (.ref l)<|.tup its.length
 |lst {l:Addr}{its:gw}(h:s.heap.IsList l its.toArray):η s (.ref l)<|.lst its.length
abbrev xZ(e:Nat->Bool):KD->KD->Bool
 |.non,.non=>dI|.bl a,.bl b=>a==b|.bl a,.int b=>(if a then 1 else 0)==b|.int a,.bl b=>a==(if b then 1 else 0)|.int a,.int b=>a==b|.str a,.str b=>a==b|.tup n,.tup k=>(Ā<|min n k).all e&&n==k|.lst n,.lst k=>(Ā<|min n k).all e&&n==k|_,_=>b5
abbrev yA(A:ť)(s:Ù)(u v:Value)(e:Nat->Bool):Prop:=
 (∀l b c a,u=.ref l->v=.ref b->s.heap.IsTuple l c->s.heap.IsTuple b a->∀j (h1:j<c.size)(d:j<a.size),EqAt A.in1 s c[j] a[j] (e j)) /\
 (∀l b c a,u=.ref l->v=.ref b->s.heap.IsList l c->s.heap.IsList b a->∀j (h1:j<c.size)(d:j<a.size),EqAt A.in1 s c[j] a[j] (e j))
def FU e(h:n=k):((Ā<|min n k).all e&&n==k)=(Ā n).all e:=by subst h;simp
def FV e(h:n≠k):((Ā<|min n k).all e&&n==k)=false:=by simp[h]
open _root_ in
def BA(h:η s u k)(h':η s v k')(c:A.units<ÿ)(o:yA A s u v e):RcAt A s u v (xZ e k k'):=by
 cases h with
 |non=>
  cases h' with
  |non=>show RcAt.none_none|bl b=>show RcAt.none_bool b|int i t=>show RcAt.none_int i t|str x t=>show RcAt.none_str x t|tup h=>show RcAt.none_tuple h c|lst h=>show RcAt.none_list h c
 |bl a=>
  cases h' with
  |non=>show RcAt.bool_none a|bl b=>show RcAt.bool_bool a b|int i t=>show RcAt.bool_int a i t|str x t=>show RcAt.bool_str a x t|tup h=>show RcAt.bool_tuple a h c|lst h=>show RcAt.bool_list a h c
 |int a j=>
  cases h' with
  |non=>show RcAt.int_none a j|bl b=>show RcAt.int_bool a j b|int i t=>show RcAt.int_int a j i t|str x t=>show RcAt.int_str a j x t|tup h=>show RcAt.int_tuple a j h c|lst h=>show RcAt.int_list a j h c
 |str a j=>
  cases h' with
  |non=>show RcAt.str_none a j|bl b=>show RcAt.str_bool a j b|int i t=>show RcAt.str_int a j i t|str x t=>show RcAt.str_str a j x t|tup h=>show RcAt.str_tuple a j h c|lst h=>show RcAt.str_list a j h c
 |tup g=>
  cases h' with
  |non=>show RcAt.tuple_none g c|bl b=>show RcAt.tuple_bool b g c|int i t=>show RcAt.tuple_int i t g c|str x t=>show RcAt.tuple_str x t g c|tup h=>have:=RcAt.tuples (e:=e) g h c<|o.1 _ _ _ _ rfl rfl g h;show this|lst h=>show RcAt.tuple_list g h c
 |lst g=>
  cases h' with
  |non=>show RcAt.list_none g c|bl b=>show RcAt.list_bool b g c|int i t=>show RcAt.list_int i t g c|str x t=>show RcAt.list_str x t g c|tup h=>show RcAt.list_tuple g h c|@lst b d h=>
   rename_i l its;by_cases n:its.length=d.length
   .have:=RcAt.lists (e:=e) g h (by apply n) c<|o.2 _ _ _ _ rfl rfl g h;change RcAt A s _ _ ((Ā<|min its.length d.length).all e&&its.length==d.length);rw[FU e n];apply this
   .have:=RcAt.lists_lengths g h (by apply n) c;change RcAt A s _ _ ((Ā<|min its.length d.length).all e&&its.length==d.length);rw[FV e n];show this
open _root_ in
def b3b(h:η s u k)(h':η s v k')(c:A.units<ÿ)(o:yA A s u v e):RcNeAt A s u v (!xZ e k k'):=by
 cases h with
 |non=>
  cases h' with
  |non=>show RcNeAt.none_none|bl b=>show RcNeAt.none_bool b|int i t=>show RcNeAt.none_int i t|str x t=>show RcNeAt.none_str x t|tup h=>show RcNeAt.none_tuple h c|lst h=>show RcNeAt.none_list h c
 |bl a=>
  cases h' with
  |non=>show RcNeAt.bool_none a|bl b=>show RcNeAt.bool_bool a b|int i t=>show RcNeAt.bool_int a i t|str x t=>show RcNeAt.bool_str a x t|tup h=>show RcNeAt.bool_tuple a h c|lst h=>show RcNeAt.bool_list a h c
 |int a j=>
  cases h' with
  |non=>show RcNeAt.int_none a j|bl b=>show RcNeAt.int_bool a j b|int i t=>show RcNeAt.int_int a j i t|str x t=>show RcNeAt.int_str a j x t|tup h=>show RcNeAt.int_tuple a j h c|lst h=>show RcNeAt.int_list a j h c
 |str a j=>
  cases h' with
  |non=>show RcNeAt.str_none a j|bl b=>show RcNeAt.str_bool a j b|int i t=>show RcNeAt.str_int a j i t|str x t=>show RcNeAt.str_str a j x t|tup h=>show RcNeAt.str_tuple a j h c|lst h=>show RcNeAt.str_list a j h c
 |tup g=>
  cases h' with
  |non=>show RcNeAt.tuple_none g c|bl b=>show RcNeAt.tuple_bool b g c|int i t=>show RcNeAt.tuple_int i t g c|str x t=>show RcNeAt.tuple_str x t g c|tup h=>have:=RcNeAt.tuples (e:=e) g h c<|o.1 _ _ _ _ rfl rfl g h;show this|lst h=>show RcNeAt.tuple_list g h c
 |lst g=>
  cases h' with
  |non=>show RcNeAt.list_none g c|bl b=>show RcNeAt.list_bool b g c|int i t=>show RcNeAt.list_int i t g c|str x t=>show RcNeAt.list_str x t g c|tup h=>show RcNeAt.list_tuple g h c|@lst b d h=>
   rename_i l its;by_cases n:its.length=d.length
   .have:=RcNeAt.lists (e:=e) g h (by apply n) c<|o.2 _ _ _ _ rfl rfl g h;change RcNeAt A s _ _ (!((Ā<|min its.length d.length).all e&&its.length==d.length));rw[FU e n];apply this
   .have:=RcNeAt.lists_lengths g h (by apply n) c;change RcNeAt A s _ _ (!((Ā<|min its.length d.length).all e&&its.length==d.length));rw[FV e n];show this
def b3Z(h:η s u k)(h':η s v k')(c:A.units<ÿ)(o:yA A s u v e)(n:∀l b,u=.ref l->v=.ref b->l≠b):EqAt A s u v (xZ e k k'):=by
 cases h with
 |non=>
  cases h' with
  |non=>show EqAt.same _|bl b=>show EqAt.none_bool b|int i t=>show EqAt.none_int i t|str x t=>show EqAt.none_str x t|tup h=>show EqAt.none_tuple h c|lst h=>show EqAt.none_list h c
 |bl a=>
  cases h' with
  |non=>show EqAt.bool_none a|bl b=>show EqAt.bool_bool a b|int i t=>show EqAt.bool_int a i t|str x t=>show EqAt.bool_str a x t|tup h=>show EqAt.bool_tuple a h c|lst h=>show EqAt.bool_list a h c
 |int a d=>
  cases h' with
  |non=>show EqAt.int_none a d|bl b=>show EqAt.int_bool a d b|int i t=>show EqAt.int_int a d i t|str x t=>show EqAt.int_str a d x t|tup h=>show EqAt.int_tuple a d h c|lst h=>show EqAt.int_list a d h c
 |str a d=>
  cases h' with
  |non=>show EqAt.str_none a d|bl b=>show EqAt.str_bool a d b|int i t=>show EqAt.str_int a d i t|str x t=>show EqAt.str_str a d x t|tup h=>show EqAt.str_tuple a d h c|lst h=>show EqAt.str_list a d h c
 |@tup l its g=>
  cases h' with
  |non=>show EqAt.tuple_none g c|bl b=>show EqAt.tuple_bool b g c|int i t=>show EqAt.tuple_int i t g c|str x t=>show EqAt.tuple_str x t g c|@tup b j h=>show EqAt.of_refs (n l b rfl rfl) (BA (k:=.tup its.length) (k':=.tup j.length) (.tup g) (.tup h) c o)|lst h=>show EqAt.tuple_list g h c
 |@lst l its g=>
  cases h' with
  |non=>show EqAt.list_none g c|bl b=>show EqAt.list_bool b g c|int i t=>show EqAt.list_int i t g c|str x t=>show EqAt.list_str x t g c|tup h=>show EqAt.list_tuple g h c|@lst b j h=>show EqAt.of_refs (n l b rfl rfl)<|BA (k:=.lst its.length) (k':=.lst j.length) (.lst g) (.lst h) c o
inductive wk where
 |non|bl (b:Bool)|int (i:Int)|str (x:Str)|tup (xs:List D)|lst (xs:List D)
abbrev kK(c:Hm):D->Option wk
 |.non=>b3 .non|.bl b=>b3 (.bl b)|.int i=>b3 (.int i)|.str x=>b3 (.str x)|.tup xs=>b3 (.tup xs)|.rol xs=>b3 (.lst xs)|.loc a=>match c[a]? with|some (.lst xs)=>b3 (.lst xs)|_=>b4
 |.ty _=>b4
abbrev lI(f:D->D->Option Bool):List D->List D->Option Bool
 |x::xs,y::ys=>(f x y).bind λb=>(lI f xs ys).map λc=>b&&c|[],[]=>b3 dI|_,_=>b3 b5
abbrev vH(f:D->D->Option Bool):wk->wk->Option Bool
 |.non,.non=>b3 dI|.bl a,.bl b=>b3 (a==b)|.bl a,.int b=>b3 ((if a then 1 else 0)==b)|.int a,.bl b=>b3 (a==(if b then 1 else 0))|.int a,.int b=>b3 (a==b)|.str a,.str b=>b3 (a==b)|.tup xs,.tup ys=>lI f xs ys|.lst xs,.lst ys=>lI f xs ys|_,_=>b3 b5
noncomputable abbrev BB(f:D->D->Option Bool):D->D->Option Bool:=f
def FW(h:BB f x y=b3 b):f x y=b3 b\/(b=dI/\∃a,x=.loc a/\y=.loc a):=.inl h
abbrev eL:Nat->Hm->D->D->Option Bool
 |0,_,_,_=>b4|n+1,μ,x,y=>(kK μ x).bind λa=>(kK μ y).bind λb=>vH (BB<|eL n μ) a b
noncomputable abbrev pV(n:Nat)(a:Hm):D->D->Option Bool:=BB<|eL n a
abbrev BC:wk->KD
 |.non=>.non|.bl b=>.bl b|.int i=>.int i|.str x=>.str x|.tup xs=>.tup xs.length|.lst xs=>.lst xs.length
abbrev tF:wk->List D
 |.tup xs=>xs|.lst xs=>xs|_=>[]
section
variable{X:Cx}{Do:jw}{σ:St}{H:Hp}{s:Ù}{π:Nat->Addr}{μ:Hm}
inductive Ł (X:Cx)(π:Nat->Addr)(n:Nat)(H:Hp)(s:Ù)(u:Value):wk->Prop where
 |non (h:u=.none):Ł X π n H s u .non
 |bl (b:Bool)(h:u=.bool b):Ł X π n H s u<|.bl b
 |int (i:Int)(t:au)(h:u=.int i t):Ł X π n H s u<|.int i
 |str (x:Str)(t:au)(h:u=.str x t):Ł X π n H s u<|.str x
 |tup {xs:List D}(p:Addr)(vs:gz)(its:gw)(h:u=.ref p)(q:å X.K H p vs)(i:Æ X.K π n H vs xs)(r:Å vs its)(t:s.heap.IsTuple p its.toArray):Ł X π n H s u<|.tup xs
 |lst {xs:List D}(p:Addr)(vs:gz)(its:gw)(h:u=.ref p)(q:Ą X.K H p vs)(i:Æ X.K π n H vs xs)(r:Å vs its)(t:s.heap.IsList p its.toArray):Ł X π n H s u<|.lst xs
open _root_ in
def tG(I:Â X Do σ H s)(R:Rp X.K π H μ)(h:Ú X.K π μ.length H v d)(r:Ì v u)(e:kK μ d=b3 k):Ł X π μ.length H s u k:=by
 cases h with
 |non=>ext e;show .non r|bl b=>ext e;show .bl b r|int i=>ext e;let⟨t,q⟩:=r;show .int i t q|str x=>ext e;let⟨t,q⟩:=r;show .str x t q|ty x=>ext e|tup q t=>ext e;let⟨its,c,p,_⟩:=I.tuple q;show .tup _ _ its r q t c p|rol q t=>ext e;let⟨its,c,p,_⟩:=I.list q.sq;show .lst _ _ its r q.sq t c p.isList|@loc a w=>
  dsimp[kK]at e;split at e
  .rename_i o j;ext e;let⟨n,h1,g⟩:=R.lst a o j;let q:Ą X.K H (π a) n:=.of h1;let⟨its,c,p,_⟩:=I.list q;show .lst _ _ its r q g c p.isList
  .ext e
def Ł.isK(h:Ł X π n H s u k):η s u (BC k):=by
 cases h with
 |non h=>subst h;show .non|bl b h=>subst h;show .bl b|int i t h=>subst h;show .int i t|str x t h=>subst h;show .str x t|tup p a its h q i r t=>subst h;have:its.length=_:=r.length.symm.trans i.length;change η s (.ref p) (.tup _);rw[<- this];show .tup t|lst p a its h q i r t=>subst h;have:its.length=_:=r.length.symm.trans i.length;change η s (.ref p) (.lst _);rw[<- this];show .lst t
abbrev lJ(f:D->D->Option Bool)(xs a:List D)(j:Nat):Bool:=match xs[j]?,a[j]? with
 |some x,b3 y=>(f x y).getD b5|_,_=>b5
def BE:∀{xs a}{b},lI f xs a=b3 b->b=((Ā<|min xs.length a.length).all (lJ f xs a)&&xs.length==a.length)/\∀j x y,xs[j]?=b3 x->a[j]?=b3 y->f x y=b3 (lJ f xs a j)
 |[],[],b,h=>by ext h;show⟨rfl,λj x y e=>by simp at e⟩
 |x::xs,[],b,h=>by ext h;show⟨∅,λj x y z e=>by simp at e⟩
 |[],y::a,b,h=>by ext h;show⟨∅,λj x y e=>by simp at e⟩
 |x::xs,y::a,b,h=>by
  dsimp[lI]at h;show bZ h ?_;clear h;intro c h1 k;show cE k ?_;clear k;intro d o p;let⟨q,u⟩:=BE o;let h0:lJ f (x::xs) (y::a) 0=c:=by simp[lJ,h1]
  let n:∀j,lJ f (x::xs) (y::a) (j+1)=lJ f xs a j:=λj=>by simp[lJ]
  show⟨?_,λj v w g i=>?_⟩
  .subst p;rw[q];dsimp[ņ,Nat.add_min_add_right];rw[RV,ō,OC,h0];have:(lJ f (x::xs) (y::a)∘Nat.succ)=lJ f xs a:=funext λj=>n j;rw[this];simp[Bool.and_assoc]
  .cases j with
   |zero=>simp at g i;subst g;subst i;rw[h0,h1]|succ j=>rw[n j];show u j v w (by apply g)<|by apply i
def FX(h:vH f k k'=b3 b):b=xZ (lJ f (tF k)<|tF k') (BC k) (BC k'):=by
 ext k<;>ext k'<;>first
  |(have a:=ē h;subst a;rfl)|(let⟨h1,_⟩:=BE h;rw[h1];rfl)
def b3Y(I:Â X Do σ H s)(R:Rp X.K π H μ):∀n{v}{u}{x y}{b},Ì v u->Ú X.K π μ.length H v x->Ú X.K π μ.length H v y->eL n μ x y=b3 b->b=true:=by
 intro n;induction n with
 |zero=>intro v u x y b _ _ _ h;ext h|succ n ih=>
  intro v u x y b r hx hy h;show bZ h ?_;clear h;intro k h1 h;show bZ h ?_;clear h;intro k' h2 h;let a1:=tG I R hx r h1;let B:=tG I R hy r h2;let g:∀{vs:gz}{xs T:List D}{c:Bool},(∀v∈vs,∃u,Ì v u)->Æ X.K π μ.length H vs xs->Æ X.K π μ.length H vs T->lI (pV n μ) xs T=b3 c->c=true:=by
   intro vs;induction vs with
   |nil=>intro xs T c _ Y A h;ext Y;ext A;ext h;rfl|cons w vs Z=>
    intro xs T c hr Y A h;cases Y with
    |cons p1 t1=>
     cases A with
     |cons L G=>dsimp[lI]at h;show bZ h ?_;clear h;intro c1 h1 h3;show cE h3 ?_;clear h3;intro c2 h4 h5;let⟨Q,N⟩:=hr w<|š ..;let a:c1=true:=(FW h1).elim (ih N p1 L) (·.1);let o:=Z (λv K=>hr v<|Ō _ K) t1 G h4;subst a;subst o;show h5.symm
  cases a1 with
  |non a=>
   subst a;cases B with
   |non _=>show(ē h).symm|bl _ e=>ext e|int _ _ e=>ext e|str _ _ e=>ext e|tup _ _ _ e=>ext e|lst _ _ _ e=>ext e
  |bl c a=>
   subst a;cases B with
   |non e=>ext e|bl _ e=>ext e;show(ē h).symm.trans (beq_self_eq_true _)|int _ _ e=>ext e|str _ _ e=>ext e|tup _ _ _ e=>ext e|lst _ _ _ e=>ext e
  |int c t a=>
   subst a;cases B with
   |non e=>ext e|bl _ e=>ext e|int _ _ e=>ext e;show(ē h).symm.trans (beq_self_eq_true _)|str _ _ e=>ext e|tup _ _ _ e=>ext e|lst _ _ _ e=>ext e
  |str c t a=>
   subst a;cases B with
   |non e=>ext e|bl _ e=>ext e|int _ _ e=>ext e|str _ _ e=>ext e;show(ē h).symm.trans (beq_self_eq_true _)|tup _ _ _ e=>ext e|lst _ _ _ e=>ext e
  |tup p vs its a q i O t=>
   let z:Ł X π μ.length H s (.ref p) _:=a▸Ł.tup p vs its a q i O t;rw[a]at B;cases B with
   |non e=>ext e|bl _ e=>ext e|int _ _ e=>ext e|str _ _ e=>ext e|tup L J d o M A E G=>
    ext o;have:=I.tuple_inj q M;subst this;show g (λv K=>by
     let⟨j,U,rfl⟩:=RC K;let⟨Q,_,N⟩:=O.get<|ü U;show⟨Q,N⟩) i A h
   |lst L J d o M A E G=>ext o;show absurd rfl<|oh G t
  |lst p vs its a q i O t=>
   rw[a]at B;cases B with
   |non e=>ext e|bl _ e=>ext e|int _ _ e=>ext e|str _ _ e=>ext e|tup L J d o M A E G=>ext o;show absurd rfl (oh t G)|lst L J d o M A E G=>
    ext o;have:=I.list_inj q M;subst this;show g (λv K=>by
     let⟨j,U,rfl⟩:=RC K;let⟨Q,_,N⟩:=O.get<|ü U;show⟨Q,N⟩) i A h
def mP(A:ť):A.in1.units=A.units+1:=rfl
def FY(I:Â X Do σ H s)(ih:∀{A}{v v'}{u u'}{x y}{b},A.units+n<ÿ->Ì v u->Ì v' u'->Ú X.K π μ.length H v x->Ú X.K π μ.length H v' y->eL n μ x y=b3 b->EqAt A s u u' b)(hu:A.units+(n+1)<ÿ)(a1:Ł X π μ.length H s u k)(a2:Ł X π μ.length H s u' k')(h:vH (pV n μ) k k'=b3 b):yA A s u u' (lJ (pV n μ) (tF k)<|tF k'):=by
 let J:∀{vs R:gz}{its its':gw}{xs Y:List D}{c:Bool},Å vs its->Å R its'->Æ X.K π μ.length H vs xs->Æ X.K π μ.length H R Y->lI (pV n μ) xs Y=b3 c->
   ∀j (h1:j<its.length)(U:j<its'.length),EqAt A.in1 s its[j] its'[j] (lJ (pV n μ) xs Y j):=by
  intro vs R its its' xs Y c r r' i i' e j h1 U;let l1:=r.length;let l2:=r'.length;let l3:=i.length;let l4:=i'.length;let hx:xs[j]?=b3 (xs[j]'()):=ü _;let hy:Y[j]?=b3 (Y[j]'()):=ü _;let⟨v,v1,v2⟩:=i.get hx;let⟨v',v1',v2'⟩:=i'.get hy;let⟨w,w1,w2⟩:=r.get v1;let⟨w',w1',w2'⟩:=r'.get v1';rw[ü h1]at w1;rw[ü U]at w1';ext w1;ext w1';let key:∀{x y:D}{b:Bool},Ú X.K π μ.length H v x->Ú X.K π μ.length H v' y->pV n μ x y=b3 b->EqAt A.in1 s its[j] its'[j] b:=λ{x y b} i1 K hq=>by
   rcases FW hq with hq|⟨rfl,a,rfl,rfl⟩
   .show ih (by rw[mP];lia) w2 w2' i1 K hq
   .ext i1;ext K;let z1:its[j]=Ö (π a):=w2;let z2:its'[j]=Ö (π a):=w2';rw[z1,z2];show EqAt.same _
  show key v2 v2'<|(BE e).2 j _ _ hx hy
 constructor
 .intro l b' G B e1 e2 t1 t2 j h1 U;subst e1;subst e2;cases a1 with
  |tup p vs its e q i r t=>
   ext e;cases a2 with
   |tup p2 T E d q2 K Z Q=>
    ext d;let z1:G=its.toArray:=by let⟨o,L,g2,n1,N⟩:=t1;let⟨o',g,M,O,z⟩:=t;rw[L]at g;ext g;rw[N]at z;injection z
    let z2:B=E.toArray:=by let⟨o,L,g2,n1,N⟩:=t2;let⟨o',g,M,O,z⟩:=Q;rw[L]at g;ext g;rw[N]at z;injection z
    subst z1;subst z2;have:=J r Z i K h j (by apply h1) (by apply U);simpa[tF]using this
   |lst p2 T E d q2 K Z Q=>ext d;show absurd rfl (oh Q t2)|non d=>ext d|bl _ d=>ext d|int _ _ d=>ext d|str _ _ d=>ext d
  |lst p vs its e q i r t=>ext e;show absurd rfl (oh t t1)|non e=>ext e|bl _ e=>ext e|int _ _ e=>ext e|str _ _ e=>ext e
 .intro l b' G B e1 e2 t1 t2 j h1 U;subst e1;subst e2;cases a1 with
  |lst p vs its e q i r t=>
   ext e;cases a2 with
   |lst p2 T E d q2 K Z Q=>
    ext d;let z1:G=its.toArray:=by let⟨o,L,g2,n1,N⟩:=t1;let⟨o',g,M,O,z⟩:=t;rw[L]at g;ext g;rw[N]at z;injection z
    let z2:B=E.toArray:=by let⟨o,L,g2,n1,N⟩:=t2;let⟨o',g,M,O,z⟩:=Q;rw[L]at g;ext g;rw[N]at z;injection z
    subst z1;subst z2;have:=J r Z i K h j (by apply h1) (by apply U);simpa[tF]using this
   |tup p2 T E d q2 K Z Q=>ext d;show absurd rfl (oh t2 Q)|non d=>ext d|bl _ d=>ext d|int _ _ d=>ext d|str _ _ d=>ext d
  |tup p vs its e q i r t=>ext e;show absurd rfl (oh t1 t)|non e=>ext e|bl _ e=>ext e|int _ _ e=>ext e|str _ _ e=>ext e
def BF(I:Â X Do σ H s)(R:Rp X.K π H μ):∀n{A}{v c}{u a}{x y}{b},A.units+n<ÿ->Ì v u->Ì c a->Ú X.K π μ.length H v x->Ú X.K π μ.length H c y->eL n μ x y=b3 b->EqAt A s u a b:=by
 intro n;induction n with
 |zero=>intro A v c u a x y b _ _ _ _ _ h;ext h|succ n G=>
  intro A v c u a x y b E r o i j h;let h0:=h;show bZ h ?_;clear h;intro k h1 h;show bZ h ?_;clear h;intro K w h;let d:=tG I R i r h1;let e:=tG I R j o w;by_cases g:u=a
  .subst g;have:v=c:=r.inj o;subst this;have:=b3Y I R (n+1) r i j h0;subst this;show EqAt.same _
  .let B:=FY I G E d e h;rw[FX h];show b3Z d.isK e.isK () B λl J p q z=>g<|by rw[p,q,z]
def FZ(I:Â X Do σ H s)(R:Rp X.K π H μ)n(j:A.units+n<ÿ)(r:Ì v u)(q:Ì g d)(o:Ú X.K π μ.length H v x)(p:Ú X.K π μ.length H g y)(h:eL n μ x y=b3 b):
  RcAt A s u d b/\RcNeAt A s u d (!b):=by
 cases n with
 |zero=>ext h|succ n=>show bZ h ?_;clear h;intro k h1 h;show bZ h ?_;clear h;intro w i h;let a:=tG I R o r h1;let c:=tG I R p q i;let e:=FY I (A:=A) (BF I R n) j a c h;rw[FX h];show⟨BA a.isK c.isK () e,b3b a.isK c.isK () e⟩
end
abbrev oO(g:Int->Int->Option Int):D->D->Hm->jk
 |.int i,.int j,μ=>(g i j).map λz=>(.int z,μ)|_,_,_=>b4
open _root_ in
def F0(h:oO g x y a=b3 (d,μ')):∃i j z,x=.int i/\y=.int j/\g i j=b3 z/\d=.int z/\μ'=a:=by
 unfold oO at h;split at h
 .rename_i i j;show cE h ?_;clear h;intro z h1 b;ext b;show⟨i,j,z,rfl,rfl,h1,rfl,rfl⟩
 .ext h
def yB{g':Int->Int->Int}(b:∀i j z,g i j=b3 z->a i j/\z=g' i j):eK K (oO g) (rI a λi j=>.int<|g' i j):=by intro p H u x y d o q s Q R h n e k;let⟨i,j,z,rfl,rfl,h1,rfl,rfl⟩:=F0 e;ext h;ext n;let⟨c,rfl⟩:=b i j z h1;show⟨i,j,rfl,rfl,c,k p _ H .refl R<|.int _⟩
def b3X{g':Int->Int->Int}:eK K (oO λi j=>b3<|g' i j) (kI λi j=>.int<|g' i j):=by intro g H o x y d e h n Q R b c a k;let⟨i,j,z,rfl,rfl,h1,rfl,rfl⟩:=F0 a;ext b;ext c;ext h1;show⟨i,j,rfl,rfl,k g _ H .refl R<|.int _⟩
abbrev iP:=oO λi j=>b3<|i-j
abbrev F1:=oO λi j=>if((-(2^64)<i/\i<2^64)\/(-(2^64)<j/\j<2^64))\/(i.natAbs<2^4000/\j.natAbs<2^4000)\/ŵ i+ŵ j<=134217728 then b3 (i*j)else b4
abbrev b8:D->D->Hm->jk
 |x,y,μ=>F1 x y μ
abbrev kL:=oO λi j=>if 0<j/\j<2^4000 then b3 (i/j)else b4
abbrev b6:=oO λi j=>if 0<j then b3 (i%j)else b4
abbrev rJ:=oO λi j=>if(0<=j/\j<=1000000/\i.natAbs<2^64)\/(0<=j/\j<=100/\i.natAbs<2^4000)then b3 (i^j.toNat)else b4
abbrev Γ(i j:Int):Prop:=ql i j\/(i.natAbs<2^4000/\j.natAbs<2^4000)\/ŵ i+ŵ j<=134217728
abbrev F2(i j:Int):Prop:=0<j/\j<2^4000
abbrev F3(i j:Int):Prop:=a6z i j\/(0<=j/\j<=100/\i.natAbs<2^4000)
open _root_ in
def BG(h:i.natAbs<2^4000):ŵ i<=4000:=by
 ext ŵ;split
 .show ĵ _
 .rename_i a;let h0:i.natAbs≠0:=by intro z;show a<|by apply z
  have:=(QC h0).mpr h;lia
def Γ.ok(h:Γ i j):M6 i j:=by
 rcases h with h|⟨h1,b⟩|h
 .show h.ok
 rotate_left
 .let a:NR (ŵ i+ŵ j)=false:=by
   ext NR;rw[decide_eq_false];have:bitsLine=134217728:=⋯
   lia
  ext M6;rw[a];simp
 .let c:=BG h1;let d:=BG b;let a:NR (ŵ i+ŵ j)=false:=by
   ext NR;rw[decide_eq_false];have:(8000:Int)<=bitsLine:=⋯
   lia
  ext M6;rw[a];simp
def b3U:ď X (Υ .Mult) (rI Γ λi j=>.int<|i*j):=xN λ_ x x x x x x hc q=>b4G q hc.ok
def b3T:ď X (Υ .FloorDiv) (rI F2 λi j=>.int<|i/j):=xN λi j x x x x x hc q=>by
 let h1:(0:Int)<j:=hc.1;let b:j<2^4000:=hc.2;let h0:j.natAbs≠0:=()
 let a:j.natAbs<2^4000:=by
  have:((2^4000:Nat):Int)=2^4000:=⋯
  lia
 let c:=(QC h0).mpr a;show b4I () (by rw[Int.fdiv_eq_ediv_of_nonneg i ()];show q)<|.inl<|PyProof.noPylong_of_log2 ()
def b3S:ď X (Υ .Pow) (rI F3 λi j=>.int<|i^j.toNat):=xN λi j x x x x x hc q=>by
 rcases hc with hc|⟨h1,a,c⟩
 .show b4D hc.1 hc.2.1 hc.2.2 q
 .let b:=BG c;show b4E h1 ?_ q;have:(ŵ i:Int)*j<=4000*100:=Int.mul_le_mul () a h1 ();lia
def yC[Decidable c]{a:Int}(h:(if c then b3 a else b4)=b3 z):c/\z=a:=by
 split at h
 .ext h;show⟨by assumption,rfl⟩
 .ext h
def b3P:eK K iP (kI λi j=>.int<|i-j):=b3X
def b3O:eK K F1 (rI Γ λi j=>.int<|i*j):=yB λi j z h=>by have:=yC h;show this
def b3M:eK K b8 (rI Γ λi j=>.int<|i*j):=b3O
def b3K:eK K kL (rI F2 λi j=>.int<|i/j):=yB λi j z h=>by have:=yC h;show this
def b3J:eK K b6 (rI (λ_ j=>0<j) λi j=>.int<|i%j):=yB λ_ x x h=>yC h
def b3G:eK K rJ (rI F3 λi j=>.int<|i^j.toNat):=yB λi j z h=>by have:=yC h;show this
abbrev BH:D->Option D
 |.int i=>b3 (.int<|-i)|_=>b4
abbrev bI:D->D->Hm->jk
 |.int i,.int j,μ=>b3 (.int<|i+j,μ)|.str x,.str y,μ=>if x.length+y.length<=Ñ then b3 (.str<|x++y,μ)else b4|.loc a,.loc b,μ=>match μ[a]?,μ[b]? with
  |some<|.lst xs,b3 (.lst ys)=>if xs.length+ys.length<=Ñ then b3 (.loc μ.length,μ++[.lst<|xs++ys])else b4|_,_=>b4
 |.tup xs,.tup ys,μ=>if xs≠[]/\ys≠[]/\xs.length+ys.length<=Ñ then b3 (.tup<|xs++ys,μ)else b4|_,_,_=>b4
abbrev BI(K:Õ):R2:=λx y H Q=>kI (λi j=>.int<|i+j) x y H Q\/(∃i j,x=.str i/\y=.str j/\i.length+j.length<=Ñ/\Q (.str<|i++j) H)\/FA x y H Q
def ao:ď X (Υ .Add) (BI X.K):=jm.or<|Ν.or b0T
abbrev BJ(K:Õ):R2:=λx y H Q=>BI K x y H Q\/Fn K x y H Q
def b3D:ď X (Υ .Add) (BJ X.K):=ao.or b1l
def BK(h:BI K x y H Q):BJ K x y H Q:=.inl h
open _root_ in
def b3C:eK K bI (BJ K):=by
 intro u H M x y d I J L Q R j n a k;unfold bI at a;split at a
 .ext a;ext j;ext n;show BK<|.inl ⟨_,_,rfl,rfl,k u _ H .refl R<|.int _⟩
 .split at a
  .rename_i o;ext a;ext j;ext n;show BK<|.inr<|.inl ⟨_,_,rfl,rfl,o,k u _ H .refl R<|.str _⟩
  .ext a
 .split at a
  .rename_i A B G c;split at a
   .rename_i o;ext a;ext j;ext n;let⟨w,h1,g⟩:=R.lst _ A G;let⟨z,E,v⟩:=R.lst _ B c;show BK (.inr<|.inr ⟨_,_,w,z,rfl,rfl,by first|show h1|show .inl<|.inl h1,E,by rw[g.length,v.length];show o,λp s=>?_⟩);let⟨b,R2,q⟩:=R.alloc (c:=.lst (A++B)) (o:=.lst (w++z)) s<|g.append v;show k _ _ _ b R2 mO
   .ext a
  .ext a
 .split at a
  .rename_i c;ext a;cases j with
   |tup h1 h=>
    cases n with
    |tup g i=>show .inr ⟨_,_,_,_,rfl,rfl,h1,g,λe=>c.1<|by rw[e]at h;ext h;rfl,by rw[h.length,i.length];show c.2.2,λe=>absurd (by rw[e]at i;ext i;rfl) c.2.1,λ_ p s=>?_⟩;let⟨b,R2⟩:=R.fresh (o:=.tup _) s;show k u _ _ b R2<|.tup (.of dW)<|(h.mono b).append<|i.mono b
  .ext a
 .ext a
abbrev iQ(p:Int->Int->Bool):D->D->Hm->jk
 |.int i,.int j,μ=>b3 (.bl<|p i j,μ)|_,_,_=>b4
def lK:eK K (iQ p) (kI λi j=>.bl<|p i j):=by
 intro g H o x y d e h n Q R b c a k;unfold iQ at a;split at a
 .ext a;ext b;ext c;show⟨_,_,rfl,rfl,k g _ H .refl R<|.bl _⟩
 .ext a
abbrev gM:=iQ λi j=>decide<|i<j
abbrev tH:=iQ λi j=>decide<|i<=j
abbrev kM:=iQ λi j=>decide<|j<i
abbrev vJ:=iQ λi j=>decide<|j<=i
abbrev BL(K:Õ)(ne:Bool):R2:=λx y H Q=>∃π a c d b,Rp K π H a/\Ú K π a.length H x c/\Ú K π a.length H y d/\eL 8 a c d=b3 b/\Q (.bl<|if ne then !b else b) H
def F5(c:X.A.units+8<ÿ):ď X (ĳ .Eq) (BL X.K b5):=by intro a s w H x y v u Q I i j h;let⟨p,o,k,n,b,R,d,g,e,q⟩:=h;show(FZ I R 8 c i j d g e).1 _ _ _ _ ⟨.bl b,H,I,rfl,q⟩
def F6(c:X.A.units+8<ÿ):ď X (ĳ .NotEq) (BL X.K dI):=by intro a s w H x y v u Q I i j h;let⟨p,o,k,n,b,R,d,g,e,q⟩:=h;show(FZ I R 8 c i j d g e).2 _ _ _ _ ⟨.bl<|!b,H,I,rfl,q⟩
abbrev aZ(ne:Bool):D->D->Hm->jk:=λx y a=>(eL 8 a x y).map λb=>(.bl<|if ne then !b else b,a)
def yD:eK K (aZ ne) (BL K ne):=by intro c H i x y d j n o Q R g h a k;show cE a ?_;clear a;intro b h1 e;ext e;show⟨c,i,x,y,b,R,g,h,h1,k c _ H .refl R<|.bl _⟩
abbrev BM:D->D->Hm->jk
 |.str i,.str j,μ=>b3 (.bl<|!(je j i 0 j.length 1).isEmpty,μ)|_,_,_=>b4
def F7:eK K BM (λx y H Q=>∃i j,x=.str i/\y=.str j/\Q (.bl<|!(je j i 0 j.length 1).isEmpty) H):=by
 intro g H o x y d e h n Q R b c a k;unfold BM at a;split at a
 .ext a;ext b;ext c;show⟨_,_,rfl,rfl,k g _ H .refl R<|.bl _⟩
 .ext a
def yE(r:ç k A):A.units+8<ÿ:=by have:=r.un;lia
def b2v(v:PE X a (tM X.K ma)):PE X (.UnaryOp .USub a pos) (tM X.K λj g=>(ma j g).bind λp=>(BH p.1).map λd=>(d,p.2)):=eP (a7C a9T v)<|by
 rintro I H Q ⟨B,j,g,d,z,R,E,e,k⟩;show bR e ?_;clear e;intro x A h1 e;show cE e ?_;clear e;intro y n u;ext u;cases x with
 |int i=>ext n;show⟨B,j,g,_,_,R,E,h1,λh G o s q w=>?_⟩;ext w;show⟨_,rfl,k h _ o s q<|.int _⟩
 |_=>ext n
def b2u(d:Gl X x)(e:X.mg x=b4)(h:Ψ x=b3 (.type n))(g:x ≠ "__name__":=by decide)(hd:(x==("__debug__":Str))=false:=by decide):PE X (.Name x pos) (tM X.K<|mC<|.ty n):=
 tD (b5d (v:=.ty n) d e h rfl g hd) λ_ y y=>.ty n
abbrev BN(b:Hm):D->Option String
 |.non=>b3 "NoneType"|.bl _=>b3 "bool"|.int _=>b3 "int"|.str _=>b3 "str"|.tup _=>b3 "tuple"|.rol _=>b3 "list"|.loc a=>match b[a]? with
  |some (.lst _)=>b3 "list"|some (.dK _)=>b3 "dict"|some (.dT _)=>b3 "dict"|_=>b4
 |.ty _=>b4
abbrev yF(t c:String):Option Bool:=match c with
 | "int"=>b3 (t=="int" || t=="bool")| "bool"=>b3 (t=="bool")| "str"=>b3 (t=="str")| "list"=>b3 (t=="list")| "tuple"=>b3 (t=="tuple")| "dict"=>b3 (t=="dict")|_=>b4
abbrev nK:MF:=λds a=>match ds with
 |[x,.ty c]=>(BN a x).bind λt=>(yF t c).map λb=>(.bl b,a)|_=>b4
def oP K(d:t = "NoneType"\/t = "bool"\/t = "int"\/t = "str"\/t = "tuple"\/t = "list"\/t = "dict")(h:yF t c=b3 b):RS K (.type t) (.type c)=b3 b:=by
 unfold yF at h
 split at h<;>first
  | cases h;done
  | (have a:=ē h;subst a
     rcases d with rfl|rfl|rfl|rfl|rfl|rfl|rfl<;>first|rfl|decide +kernel|(ext RS;simp;rfl))
end L3
namespace L3
open PySem L2
noncomputable abbrev MG:=D->aF->Hm->Option aF
inductive Δ (K:Õ)(g:MG)(v:V)(σ:St)(H:Hp)(Q:St->Hp->Prop):Prop
 |mk (π:Nat->Addr)(ρ:aF)(μ:Hm)(d:D)(ρ':aF)(R:Rp K π H μ)(E:En K π μ.length H σ ρ)(i:Ú K π μ.length H v d)(hm:g d ρ μ=b3 ρ')(k:∀σ',En K π μ.length H σ' ρ'->Q σ' H):Δ K g v σ H Q
abbrev cL(i:Nat):MG:=λd a x=>b3<|a.set i<|b3 d
def F8(b:X.N.Nodup)(hi:X.N[i]?=b3 x)(g:Loc X.env.scope x)(c:X.fn x=dI\/X.env.scope.names.lookup x=b3 .local:=by first|show .inl rfl|show .inr rfl|assumption):PG X (.Name x pos) (Δ X.K<|cL i):=by intro a s n H v u Q I r h;let⟨p,q,o,d,j,R,E,hd,e,k⟩:=h;ext e;show EL b hi g c a s n H v u Q I r<|k _<|E.set hd i
abbrev b2s(K:Õ)(c:TE):TI:=λσ H R=>c σ H λx b=>∃a,x=.ref a/\(((∃xs,Ą K b a xs)/\R (Be K a) b)\/((∃xs,å K b a xs)/\R (Bf K a) b))
def b2r(u:PE X l n):PI X tg l (b2s X.K n):=by
 intro g s E H R I h;show aW (u g s E H _ I h) λv c ⟨x,k,d,z,y⟩=>?_;let⟨a,e,q⟩:=y;subst e;ext z;rcases q with⟨⟨B,j⟩,q⟩|⟨⟨B,j⟩,q⟩
 .let⟨its,A,p,w⟩:=d.list j;show uz p.isList ?_;show⟨c.heap.objs.size,[c.heap.objs.size],_,_,k,rfl,d.kept (t':=c.toks) λb o e=>ß _ e,a8E a _,⟨_,ć _ rfl,rfl,rfl⟩,λb i=>?_,q⟩;let e:b=c.heap.objs.size:=by apply i
  subst e;show d.fpOk (Ø _)<|d.hok.fresh<|Ø _
 .let⟨its,A,p,w⟩:=d.tuple j;show um (show c.heap.IsTuple a its.toArray from p) ?_;show⟨c.heap.objs.size,[c.heap.objs.size],_,_,k,rfl,d.kept (t':=c.toks) λb o e=>ß _ e,a8A a _,⟨_,ć _ rfl,rfl,rfl⟩,λb i=>?_,q⟩;let e:b=c.heap.objs.size:=by apply i
  subst e;show d.fpOk (Ø _)<|d.hok.fresh<|Ø _
structure Wk(K:Õ)(J:It)(src:Hm->Nat->Option (Option D))(π:Nat->Addr)(n:Nat)(H:Hp):Prop where
 stop:∀π' μ H' i,ò π n H π' μ.length H'->Rp K π' H' μ->src μ i=b3 b4->J.stop i H'
 go:∀π' μ H' i d,ò π n H π' μ.length H'->Rp K π' H' μ->src μ i=b3 (b3 d)->J.go i H'/\∀x H2,J.yld i H' x H2->ò π' μ.length H' π' μ.length H2/\Rp K π' H2 μ/\Ú K π' μ.length H2 x d
abbrev oQ(x:D):Hm->Nat->Option (Option D):=λa i=>(bO a x).map λxs=>xs[i]?
open _root_ in
def b2q(R:Rp K π H E)(h:Ú K π E.length H v x)(G:bO E x=b3 xs):
  ∃a,v=.ref a/\(((∃b,Ą K H a b)/\Wk K (Be K a) (oQ x) π E.length H)\/((∃b,å K H a b)/\Wk K (Bf K a) (oQ x) π E.length H)):=by
 cases h with
 |@tup p b ds q t=>
  show⟨p,rfl,.inr ⟨⟨b,q⟩,⟨λj g s i e k z=>?_,λj g s i d e k z=>?_⟩⟩⟩
  .dsimp[oQ,bO,Ĕ]at z;let c:ds[i]?=none:=ē z;show⟨b,e.sqT q,by rw[t.length];show χ.mp c⟩
  .dsimp[oQ,bO,Ĕ]at z;let c:ds[i]?=b3 d:=ē z;let⟨w,h1,n⟩:=t.get c;show⟨⟨b,w,e.sqT q,h1⟩,λy L ⟨u,A⟩=>?_⟩;subst u;have:=A b<|e.sqT q;rw[h1]at this;ext this;show⟨.refl,k,n.mono e⟩
 |@rol p b ds q t=>
  show⟨p,rfl,.inl ⟨⟨b,q.sq⟩,⟨λj g s i e k z=>?_,λj g s i d e k z=>?_⟩⟩⟩
  .dsimp[oQ,bO,Ĕ]at z;let c:ds[i]?=none:=ē z;show⟨b,(e.roL q).sq,by rw[t.length];show χ.mp c⟩
  .dsimp[oQ,bO,Ĕ]at z;let c:ds[i]?=b3 d:=ē z;let⟨w,h1,n⟩:=t.get c;show⟨⟨b,w,(e.roL q).sq,h1⟩,λy L ⟨u,A⟩=>?_⟩;subst u;have:=A b (e.roL q).sq;rw[h1]at this;ext this;show⟨.refl,k,n.mono e⟩
 |@loc a N=>
  let hc:∃b,H (π a)=b3 (.lst b):=by
   dsimp[bO]at G;split at G
   .rename_i o B;let⟨b,h1,_⟩:=R.lst a o B;show⟨b,h1⟩
   .ext G
  let⟨J,I⟩:=hc;show⟨π a,rfl,.inl ⟨⟨J,.of I⟩,⟨λj g s i e k z=>?_,λj g s i d e k z=>?_⟩⟩⟩
  .dsimp[oQ,bO]at z;split at z
   .rename_i o B;let⟨b,h1,n⟩:=k.lst a o B;rw[e.pi a N]at h1;let c:o[i]?=none:=ē z;show⟨b,.of h1,by rw[n.length];show χ.mp c⟩
   .ext z
  .dsimp[oQ,bO]at z;split at z
   .rename_i o B;let⟨b,h1,n⟩:=k.lst a o B;rw[e.pi a N]at h1;let c:o[i]?=b3 d:=ē z;let⟨w,M,O⟩:=n.get c;show⟨⟨b,w,.of h1,M⟩,λy L ⟨u,A⟩=>?_⟩;subst u;have:=A b<|.of h1;rw[M]at this;ext this;show⟨.refl,k,O⟩
   .ext z
 |_=>ext G
abbrev fS(a:Hm->Nat->Option (Option D))(g:MG)(b:MS):Nat->Nat->MS
 |0,_,_,_=>b4|n+1,i,ρ,μ=>(a μ i).bind λo=>match o with
  |none=>b3 (.nx,ρ,μ)|some d=>(g d ρ μ).bind λc=>(b c μ).bind λp=>match p.1 with
   |.nx=>fS a g b n (i+1) p.2.1 p.2.2|.ct=>fS a g b n (i+1) p.2.1 p.2.2|.bk=>b3 (.nx,p.2.1,p.2.2)|.rt d=>b3 (.rt d,p.2.1,p.2.2)
def b2p(W:Wk K J G π R Q)(hE:rG K E π R Q B p μ')(e1:ò π R Q I v.length H1)(R1:Rp K I H1 v)(E1:En K I v.length H1 σ1 U)(h:fS G g b n 0 U v=b3 (B,p,μ')):
  ∃Wd:Nat->Nat->St->Hp->Prop,(∃m,Wd 0 m σ1 H1)/\∀i m Y H,Wd i m Y H->
   (J.stop i H/\E.nx Y H)\/(J.go i H/\∃N,(∀z u,N z u->∃m',m'<m/\Wd (i+1) m' z u)/\∀x u,J.yld i H x u->Δ K g x Y u λσ2 H2=>œ K b {E with nx:=N,ct:=N,bk:=E.nx} σ2 H2):=by
 let lift:∀{a:Nat->Addr}{n2:Nat}{H2:Hp}(e:ò π R Q a n2 H2){B:Fl}{p:aF}{μ':Hm},rG K E π R Q B p μ'->rG K E a n2 H2 B p μ':=λ{a n2 H2} e {B p μ'} k=>by
  cases B with
  |nx=>show λw s H3 e3 R3 O=>k w s H3 (e.trans e3) R3 O|bk=>show λw s H3 e3 R3 O=>k w s H3 (e.trans e3) R3 O|ct=>show λw s H3 e3 R3 O=>k w s H3 (e.trans e3) R3 O|rt d=>show KC.after k e
 show⟨λi m Y H=>∃a j L,ò π R Q a j.length H/\Rp K a H j/\En K a j.length H Y L/\fS G g b m i L j=b3 (B,p,μ'),⟨n,I,v,U,e1,R1,E1,h⟩,?_⟩;rintro i m Y H ⟨a,j,L,A,R2,E2,h2⟩;cases m with
 |zero=>ext h2|succ m=>
  show bZ h2 ?_;clear h2;intro o h3 h4;cases o with
  |none=>ext h4;show .inl ⟨W.stop a _ H i A R2 h3,hE a Y H A R2 E2⟩|some d=>
   let⟨g1,g2⟩:=W.go a j H i d A R2 h3;show bZ h4 ?_;clear h4;intro ρ3 h5 h6;obtain⟨⟨f4,X,T⟩,h7,h8⟩:=Ś.mp h6;show .inr ⟨g1,λz u=>∃c M q,ò π R Q c q.length u/\Rp K c u q/\En K c q.length u z M/\fS G g b m (i+1) M q=b3 (B,p,μ'),
    λz u ⟨c,M,q,a1,a2,a3,a4⟩=>⟨m,Ϧ _,c,q,M,a1,a2,a3,a4⟩,λx u y=>?_⟩
   let⟨ex,Rx,hx⟩:=g2 x u y;let A:=A.trans ex;show⟨a,L,j,d,ρ3,Rx,E2.mono ex,hx,h5,λs O=>⟨a,ρ3,j,f4,X,T,Rx,O,h7,?_⟩⟩;cases f4 with
   |nx=>show λc Z H5 e5 R5 E5=>⟨c,X,T,A.trans e5,R5,E5,h8⟩|ct=>show λc Z H5 e5 R5 E5=>⟨c,X,T,A.trans e5,R5,E5,h8⟩|bk=>ext h8;show λc Z H5 e5 R5 E5=>hE c Z H5 (A.trans e5) R5 E5|rt d'=>ext h8;show KC.after hE A
abbrev kN(lo:Int)(n:Nat):Hm->Nat->Option (Option D):=λ_ i=>b3<|if i<n then b3 (.int<|lo+i)else b4
open _root_ in
def F9:Wk K (pR lo k) (kN lo k) π n H:=by
 show⟨λb p c i e R z=>?_,λb p c i d e R z=>?_⟩
 .let a:=ē z;split at a
  .ext a
  .show qz.mp<|by assumption
 .let a:=ē z;split at a
  .ext a;rename_i h;show⟨h,λx q ⟨j,o⟩=>by subst j;rw[o];show⟨.refl,R,.int _⟩⟩
  .ext a
abbrev tI(y:Str):Str:="#"++y
abbrev bX(xs N:List Str):List Str:=N.map λy=>if xs.contains y then tI y else y
def rK xs N:(bX xs N).length=N.length:=by ext bX;simp
def b2o{i:Nat}(h:(bX xs N)[i]?=b3 y):∃a,N[i]?=b3 a/\((xs.contains a=dI/\y=tI a)\/(xs.contains a=b5/\y=a)):=by
 unfold bX at h;rw[ú]at h;show cE h ?_;clear h;intro a h1 b;show⟨a,h1,?_⟩;cases hc:xs.contains a with
 |true=>rw[hc]at b;show .inl ⟨rfl,by apply b.symm⟩|false=>rw[hc]at b;show .inr ⟨rfl,by apply b.symm⟩
abbrev dP(X:Cx)(scope:Ω)(cl:List (Str×Addr))(C:Addr)(N:List Str)(s₀:Ù)(H₀:Hp)(a:List Addr):Cx:=
 {X with N:=N,s₀:=s₀,H₀:=H₀,env:=ϯ scope cl C X.env,outer:=X.stack,stack:=X.stack,ex:=a,fn:=λ_=>b5,pn:=[],xe:=λ_ x=>False}
def Ga{env:ξ}:∀(names:List (Str×ϱ))x,(names.map λ(n,k)=>if(k==UV&&env.scope.kind==.function&&env.kindOf n==b3 .cell)then(n,bz)else(n,k)).lookup x
  = (names.lookup x).map λk=>if(k==UV&&env.scope.kind==.function&&env.kindOf x==b3 .cell)then bz else k
 |[],_=>rfl|(n,k)::r,x=>by
  let c:=Ga (env:=env) r x;rw[ó];by_cases b:x=n
  .subst b;let key:∀(k':ϱ)(l:List (Str×ϱ)),gY x ((x,k')::l)=b3 k':=λk' l=>by simp[ux]
   rw[key];change gY x ((if(k==UV&&env.scope.kind==.function&&env.kindOf x==b3 .cell)=dI then(x,bz)else(x,k))::_)=b3 (if(k==UV&&env.scope.kind==.function&&env.kindOf x==b3 .cell)=dI then bz else k);split
   .rw[key]
   .rw[key]
  .let a:(x==n)=false:=by apply b
   let key:∀(k':ϱ)(l:List (Str×ϱ)),gY x ((n,k')::l)=gY x l:=λk' l=>by dsimp[ux,a]
   rw[key];change gY x ((if(k==UV&&env.scope.kind==.function&&env.kindOf n==b3 .cell)=dI then(n,bz)else(n,k))::_)=_;split
   .rw[key];show c
   .rw[key];show c
structure ā(X:Cx)(scope:Ω)(cl:List (Str×Addr))(xs:List Str):Prop where
 clos:O2 scope X.env=pure cl
 nocell:∀y∈scope.names,y.2≠.cell
 kind:scope.kind=.function
 names:∀y∈scope.names,y.2=.local->scope.names.lookup y.1=b3 .local
 here:∀x∈xs,scope.names.lookup x=b3 .local
 sub:∀y c,cl.lookup y=b3 c->X.env.cells.lookup y=b3 c
 free:∀y,scope.names.lookup y=b3 .free->(X.env.kindOf y=b3 .cell\/X.env.kindOf y=b3 .free)/\∃c,cl.lookup y=b3 c
 own:∀y,scope.names.lookup y=b3 .local->y∉bX xs X.N
 hidn:∀y∈X.N,xs.contains y=dI->scope.names.lookup (tI y)=b4
def ā.kindOf(O:ā X scope cl xs)C y:(ϯ scope cl C X.env).kindOf y=(scope.names.lookup y).map λk=>if(k==UV&&X.env.scope.kind==.function&&X.env.kindOf y==b3 .cell)then bz else k:=
 Ga scope.names y
def ā.outer(O:ā X scope cl xs){C:Addr}(h:(ϯ scope cl C X.env).kindOf y=b3 .cell\/(ϯ scope cl C X.env).kindOf y=b3 .free):scope.names.lookup y=b3 .free:=by
 rw[O.kindOf]at h;cases q:scope.names.lookup y with
 |none=>rw[q]at h;rcases h with h|h<;>ext h
 |some k=>
  rw[q]at h;cases k with
  |free=>rfl|cell=>show absurd rfl (O.nocell _<|J0 q)| «local»=>rcases h with h|h<;>simp at h
  |globalExplicit=>rcases h with h|h<;>simp at h
  |globalImplicit=>rcases h with h|h<;>simp at h
def ā.inv{σ:St}(O:ā X scope cl xs)(I:Â X Do σ H s)(B:∀b∈T,kH X Do H b)(hob:∀b∈T,∃o,s.heap.get? b=b3 o)(hns:d.Ns s.heap.objs.size m)(L:∀b o,s.heap.get? b=b3 o->d.get? b=b3 o):
  Â (dP X scope cl s.heap.objs.size (bX xs X.N++xs) s H T) [] (σ++ϡ xs.length b4) H {s with heap:=d,toks:=tk}:=by
 show⟨⟨I.ok.mod,O.kind,I.ok.glob,I.ok.blt,Ø _,λy z c h1 A=>?_,λy hy=>?_,(λy c h=>by ext h),I.ok.hd,I.ok.frames,.inl rfl,λb G=>?_,λb o e=>I.bs b o e,Ğ I.ok.bsz I.sz,λb o e G=>?_,λb G Y=>?_,I.stack,I.stkFree⟩,
  rfl,I.bare,Un.kept L,⟨m,hns,λi y v h1 A w=>?_⟩,λy c h=>?_,I.hok.fresh<|Ø _,λy c h=>I.freeC y c<|O.sub y c h,λp hp=>absurd (show p∈([]:jw)from hp) ∅,I.hok.kept L,?_⟩
 .show I.ok.inj y z c (O.sub y c h1)<|O.sub z c A
 .show(O.free y<|O.outer hy).2
 .let⟨f0,N,Q,x,R,f5⟩:=B b G;let⟨o,K⟩:=hob b G;show⟨û<|Ý K,λy c h=>R y c<|O.sub y c h⟩
 .let⟨f0,N,Q,x,R,f5⟩:=B b G;rcases x with x|x
  .show I.ok.noex b o e x
  .show absurd (ĸ (Ý (I.ok.bs b o e).1) x)<|ε _
 .let⟨f0,N,Q,x,R,f5⟩:=B b G;rcases ĉ.mp (I.stkSub b Y)with z|z
  .show N z
  .show Q z
 .let hi:i<σ.length:=by
   by_cases hi:i<σ.length
   .show hi
   .rw[jf<|qz.mp hi,zx]at A;split at A<;>ext A
  rw[ϗ hi]at A;let J:(bX xs X.N)[i]?=b3 y:=by let n:(bX xs X.N++xs)[i]?=b3 y:=h1;rw[ϗ<|by rw[rK,<- I.len];show hi]at n;show n
  let j:scope.names.lookup y≠b3 .local:=λz=>O.own y z<|Ĵ J;let E:=O.kindOf s.heap.objs.size y;let U:X.N[i]?=b3 y:=by
   let⟨y0,q1,M⟩:=b2o J;rcases M with⟨M,q3⟩|⟨M,q3⟩
   .exfalso;let hz:=O.hidn y0 (Ĵ q1) M;rw[<- q3]at hz;rw[hz]at E;let a:(ϯ scope cl s.heap.objs.size X.env).kindOf y=b3 .local\/(ϯ scope cl s.heap.objs.size X.env).kindOf y=b3 .cell\/(ϯ scope cl s.heap.objs.size X.env).kindOf y=b3 .free:=w;rw[E]at a;rcases a with a|a|a<;>ext a
   .rw[q3];show q1
  let a:(ϯ scope cl s.heap.objs.size X.env).kindOf y=b3 .cell\/(ϯ scope cl s.heap.objs.size X.env).kindOf y=b3 .free:=by
   rcases w with w|w|w
   .exfalso;let a:(ϯ scope cl s.heap.objs.size X.env).kindOf y=b3 .local:=w;rw[E]at a;cases q:scope.names.lookup y with
    |none=>rw[q]at a;ext a|some k=>
     rw[q]at a;cases k with
     | «local»=>show j q|cell=>simp at a|free=>dsimp[Ĕ]at a;split at a<;>ext a|globalExplicit=>simp at a|globalImplicit=>simp at a
   .show .inl w
   .show .inr w
  let⟨g,c,hc⟩:=O.free y<|O.outer a;let⟨m0,hn0,Z⟩:=I.loc;let⟨u,r,l⟩:=Z i y v U A (by rcases g with g|g;show .inr<|.inl g;show .inr<|.inr g);show⟨u,r,.inr ⟨a,c,hc,?_⟩⟩;rcases l with⟨lk,_⟩|⟨_,c',e',z⟩
  .exfalso;rcases g with g|g
   .rw[g]at lk;ext lk
   .rw[g]at lk;ext lk
  .rw[O.sub y c hc]at e';ext e';let⟨o,K,hd⟩:=z;show⟨o,L c o K,hd⟩
 .let⟨v,q⟩:=I.cell y c<|O.sub y c h;show⟨v,by let⟨o,K,hd⟩:=q;show⟨o,L c o K,hd⟩⟩
 .change(σ++ϡ xs.length b4).length=(bX xs X.N++xs).length;rw[ă,ă,I.len,vm,rK]
def ā.back{σ K:St}(I:Â X Do σ H s)(y:∀b∈j,kH X Do H b)(J:Â (dP X scope cl s.heap.objs.size N s H j) pl K i s1)(x:∀b o,b≠s.heap.objs.size->s1.heap.get? b=b3 o->h'.get? b=b3 o):Â X Do σ i {s1 with heap:=h'}:=by
 let u:Un (k8 X.stack) j H i s.heap h':=by
  let h:Un (k8 X.stack) j H i s.heap s1.heap:=J.base;let ne:∀b o,s.heap.get? b=b3 o->b≠s.heap.objs.size:=λb o e=>û<|Ý e;show⟨λb o e n k p=>x b o (ne b o e)<|h.keep b o e n k p,λb o e n k p=>?_,h.free,λb o e p=>?_,h.tups,h.frzs,h.tbls⟩
  .let⟨T,q⟩:=h.slot b o e n k p;show⟨T,x b _ (ne b o e) q⟩
  .let⟨R,q⟩:=h.there b o e p;show⟨R,x b _ (ne b o e) q⟩
 let a:i s.heap.objs.size=none:=J.free;let A:Ş X.prog X.w i h':=λb v e=>by
  show(J.hok b v e).stay (λc w hc q=>x c w ?_ q) (λ_ q=>q) λ_ f q=>q;rcases hc with z|z
  .rw[z];intro G;rw[G,a]at e;ext e
  .intro G;rw[G,a]at z;ext z
 let B:s1.os=s.os:=J.os;let⟨Z,g,d,t,E⟩:=s1;obtain rfl:E=s.os:=B;let r:=Â.call (X:=X) (Do:=Do) (σ:=σ) (H:=H) (s:=s) (h':=h') (g':=g) (d':=d) (t':=t) (ch:=j) I u A J.bare λb k=>let⟨U,L,Y,M,O,Q⟩:=y b k;⟨M,L,O,Q⟩;show r
def b2n(I:Nat->Ù->Prop)(turn:∀n s,I n s->È (Í prog w) A (ş B) (λr d=>match r with
   |none=>R (.ok .next) d
   |some v=>È (Í prog w) A (NG a B v) (λ_ e=>È (Í prog w) A (az a env v) (λ_ k=>
     È (Í prog w) A (forIn ifs dI λc r=>if r=dI then do let ok <- qt c env (eval c env);pure (bu ok)else pure (bu r)) (λok g=>
      if ok=dI then È (Í prog w) A (eval elt env) (λx o=>
       È (Í prog w) A (call (.builtin "list.append") [acc,x]) (λ_ p=>∃m,m<n/\I m p) (λ_ f=>False) o) (λ_ f=>False) g
      else ∃m,m<n/\I m g) (λ_ f=>False) k) (λ_ f=>False) e) (λ_ f=>False) d) (λ_ f=>False) s)n(h:I n s):
  ο (Í prog w) A (.compLoop (.ListComp elt [⟨a,iter,ifs,0⟩] scope pos) 0 B acc env) R s:=by
 show codeAny_loop rfl I (λn s E=>?_) n h;change È _ A ((compTurn (.ListComp elt [⟨a,iter,ifs,0⟩] scope pos) 0 B acc env).onRaise λx=>do noteFrame x env;theTreesLotGoes x) _ _ s;show wpAny_noted ?_;rw[compTurn_list];show Á<|N5<|Á<|Ŗ (turn n s E) (λr d i=>?_) λ_ f b=>b.elim;cases r with
 |none=>show Ê i|some v=>
  show Á<|Ŗ i (λ_ e q=>?_) λ_ f b=>b.elim;show Á<|Ŗ q (λ_ k u=>Á<|Ŗ u (λok g j=>?_) λ_ f b=>b.elim) λ_ f b=>b.elim;cases ok with
  |false=>show Ê ⟨rfl,j⟩|true=>show Á<|Á<|Ŗ j (λx o y=>Á<|Ŗ y (λ_ p z=>Ê<|Ê ⟨rfl,z⟩) λ_ f b=>b.elim) λ_ f b=>b.elim
abbrev tJ(b:Hm)(a:Nat)(y:D):Option Hm:=match b[a]? with
 |some (.lst xs)=>if xs.length<Ñ then b3 (b.set a<|.lst<|xs++[y])else b4|_=>b4
noncomputable abbrev BD:=D->Hm->Option aF
abbrev tK:BD:=λd x=>b3 [b3 d]
abbrev pW(k:Nat):BD:=λd a=>(bO a d).bind λxs=>if xs.length=k then b3 (xs.map b3)else b4
abbrev kP(a:Hm->Nat->Option (Option D))(h:BD)(c:MT)(e:ME)(b:aF)(g:Nat):Nat->Nat->Hm->Option Hm
 |0,_,_=>b4|n+1,i,μ=>(a μ i).bind λo=>match o with
  |none=>b3 μ|some d=>(h d μ).bind λx=>(c (b++x) μ).bind λp=>match p.1 with
   |true=>(e (b++x) p.2).bind λq=>(tJ q.2 g q.1).bind λj=>kP a h c e b g n (i+1) j|false=>kP a h c e b g n (i+1) p.2
abbrev fE:MT:=λ_ a=>b3 (dI,a)
abbrev rL(X:Cx)(ifs:List Expr)(m:MT):Prop:=
 ∀(Do:jw)(s:Ù)(σ:St)(H:Hp)(Q:Bool->Hp->Prop),Â X Do σ H s->ŋ X.K m σ H Q->
  È (Í X.prog X.w) X.A (forIn ifs dI λc r=>if r=dI then do let ok <- qt c X.env (eval c X.env);pure (bu ok)else pure (bu r)) (TP X Do σ Q) X.xe s
def b4R:rL X [] fE:=by intro a s j H Q I h;let⟨e,i,g,b,d,R,E,c,k⟩:=h;ext c;show wpAny_tests_nil ⟨H,I,k e H .refl R⟩
def b4B(h:PT X c (ŋ X.K m)):rL X [c] m:=λDo s σ H Q I q=>wpAny_tests_one<|h Do s σ H Q I q
def Gb(h:t≠e):∀n i s(Q:gw->Ù->Prop),s.heap.IsListIter e t i->s.heap.IsList t items->i+n<=items.size->
  (∀k,k.IsListIter e t (i+n)->Κ e s.heap k->Q ((items.toList.drop i).take n) {s with heap:=k})->È (Í prog w) A (draw (.ref e) n) Q E s
 |0,i,s,Q,hit,_,_,hQ=>by change È _ _ (pure []) Q E s;show Ê<|by apply hQ s.heap hit (NX ..)
 |n+1,i,s,Q,hit,ht,hle,hQ=>by
  let g:i<items.size:=()
  change È _ _ (ş (.ref e) >>= _) Q E s;show Á (Qu hit ht (x:=items[i]) (by simp[g]) λo b a=>?_);show Á (Ŀ<|Gb h n (i+1) _ _ b (ht.extBut a.extBut h) () λj c d=>Ê ?_);let hd:items.toList.drop i=items[i]::items.toList.drop (i+1):=by simp[Nb,g]
  have:=hQ j (by rw[show i+(n+1)=i+1+n by lia];show c)<|a.trans d;rw[hd,List.take_succ_cons]at this;show this
def b4A{Q:gw->Ù->Prop}(v:A.handled=b4)(j:s.heap.IsList t items)(u:∀p,R8 s.heap.objs.size s.heap p->Q items.toList {s with heap:=p}):È (Í prog w) A (unpackItems (.ref t) items.size b4) Q E s:=by
 let i:t≠s.heap.objs.size:=by let⟨o,x,_⟩:=j;show û<|Ý x
 ext unpackItems;show Á ?_
 .ext notIterableAtAll;show Á<|uf j.typeIs slot_list_iter.lookup ?_;show Ê ?_;dsimp[Ň,if_false];show Á<|Ŀ<|uz j ?_;show Á (Ŀ<|Gb i items.size 0 _ _ ⟨_,ć _ rfl,rfl,rfl⟩ (j.push _) () λk c a=>?_);let h:List.take items.size (List.drop 0 items.toList)=items.toList:=by rw[Oa];show jd ∅
  rw[h];rw[if_neg ∅];let g:k.IsList t items:=(j.push _).extBut a.extBut i;show Á (Ŀ<|RL v c g ∅ λn d=>?_);dsimp[Option.isSome_none,Ň,if_false];show Ê<|u n λb o q e=>d b o q<|a.extBut b o q<|ß _ e
def b3y{x1}(d:A.handled=b4)(g:s.heap.IsList t items)(e:(ς a env).length=items.size)(b:(ς a env).findIdx? (·.1)=b4)(h:∀c,R8 s.heap.objs.size s.heap c->È (Í prog w) A (assignInOrder ((ς a env).map (·.2)) items.toList) Q E {s with heap:=c}):
  È (Í prog w) A (az (.Tuple a x1 pos) env<|.ref t) Q E s:=by
 rw[b4Q];show Á<|N5 ?_;ext unpack;rw[e,b];show Á<|Ŀ<|b4A d g h
abbrev rN:aF->List Nat->List D->aF
 |ρ,i::is,x::xs=>rN (ρ.set i<|b3 x) is xs|ρ,_,_=>ρ
abbrev dD(a:List Nat):MG:=λd c b=>(bO b d).bind λxs=>if xs.length=a.length then b3 (rN c a xs)else b4
abbrev yG:List Nat->sX
 |[]=>EM|i::r=>EO (Bc i)<|yG r
def BO:∀a{vs}{xs}{σ}{c}{Q},Æ K π n H vs xs->En K π n H σ c->xs.length=a.length->(∀b,En K π n H b (rN c a xs)->Q b H)->yG a vs σ H Q
 |[],vs,xs,σ,c,Q,h,E,hl,k=>by
  cases h with
  |nil=>show⟨rfl,k σ E⟩|cons h t=>ext hl
 |i::a,vs,xs,σ,c,Q,h,E,hl,k=>by
  cases h with
  |nil=>ext hl|cons h t=>show⟨_,_,rfl,BO a t (E.set h i) (by apply hl) k⟩
open _root_ in
def b3x(hc:X.calm=dI)(h:u6 X es (yG j))(M:(ς es X.env).length=j.length:=by rfl)(p:(ς es X.env).findIdx? (·.1)=none:=by rfl):
  PG X (.Tuple es k pos) (Δ X.K<|dD j):=by
 intro i s y H v u Q I r hw;let⟨T,ρ,O,d,ρ',R,E,hd,L,N⟩:=hw;show bZ L ?_;clear L;intro K h1 B;split at B
 .rename_i x;ext B;let n:(∃a g,v=.ref a/\å X.K H a g/\Æ X.K T O.length H g K)\/(∃a g,v=.ref a/\Ą X.K H a g/\Æ X.K T O.length H g K):=by
   cases hd with
   |tup q t=>ext h1;show .inl ⟨_,_,rfl,q,t⟩|rol q t=>ext h1;show .inr ⟨_,_,rfl,q.sq,t⟩|@loc a ha=>
    dsimp[bO]at h1;split at h1
    .rename_i ys Z;ext h1;let⟨g,U,Y⟩:=R.lst a K Z;show .inr ⟨_,g,rfl,.of U,Y⟩
    .ext h1
   |_=>ext h1
  rcases n with⟨a,g,rfl,q,t⟩|⟨a,g,rfl,q,t⟩
  .ext r;let⟨its,w,G,hz⟩:=I.tuple q;let c:its.length=j.length:=by rw[<- w.length,t.length];show x
   show b4P (I.ok.hd hc) G (by simp[M,c]) p λA J=>?_;let z:Â X i y H {s with heap:=A}:=I.kept (t':=s.toks) λb o e=>J b o (û<|Ý e) e;show h i _ y H g _ Q z (by apply w)<|BO j t E x N
  .ext r;let⟨its,w,G,hz⟩:=I.list q;let c:its.length=j.length:=by rw[<- w.length,t.length];show x
   show b3y (I.ok.hd hc) G.isList (by simp[M,c]) p λA J=>?_;let z:Â X i y H {s with heap:=A}:=I.kept (t':=s.toks) λb o e=>J b o (û<|Ý e) e;show h i _ y H g _ Q z (by apply w)<|BO j t E x N
 .ext B
abbrev iE(m:ME)(g:MG):MS:=λb c=>(m b c).bind λp=>(g p.1 b p.2).map λa=>(.nx,a,p.2)
def b3w(s:PE X e (tM X.K m))(u:PG X tg (Δ X.K g))(v:swapsWithSole [tg] e pos.line X.env=pure false:=by rfl)(hw:OL [tg] e X.env=pure none:=by rfl)(h1:(ς [tg] X.env).map (·.2)=[az tg X.env]:=by rfl):PS X (.Assign [tg] e pos) (œ X.K<|iE m g):=nI (a8Y s u v hw h1)<|by
 rintro E K H ⟨A,n,y,I,B,z,R,h,a,k⟩;show bR a ?_;clear a;intro x c h1 a;show cE a ?_;clear a;intro G q a;ext a;show⟨A,n,y,x,c,R,h,h1,λb J p j i w=>⟨b,n,_,x,_,i,h.mono j,w,q,λd o=>k b d p j i o⟩⟩
abbrev vK:MF:=λds a=>match ds with
 |[.str z]=>if z.length<=Ñ then b3 (.int z.length,a)else b4|[x]=>(bO a x).map λb=>(.int b.length,a)|_=>b4
abbrev BP(K:Õ):gz->Hp->VK->Prop:=λxs H Q=>(∃p a,xs=[.ref p]/\(Ą K H p a\/å K H p a)/\Q (.int a.length) H)\/(∃z,xs=[.str z]/\z.length<=Ñ/\Q (.int z.length) H)
def ύ:Ü X (.builtin "len") (BP X.K):=ů.or b0v
open _root_ in
def tL(R:Rp K π H b)(h:Ú K π b.length H v x)(e:bO b x=b3 xs):∃p vs,v=.ref p/\(Ą K H p vs\/å K H p vs)/\Æ K π b.length H vs xs:=by
 cases h with
 |tup q t=>ext e;show⟨_,_,rfl,.inr q,t⟩|rol q t=>ext e;show⟨_,_,rfl,.inl q.sq,t⟩|@loc a i=>
  dsimp[bO]at e;split at e
  .rename_i j g;ext e;let⟨vs,c,d⟩:=R.lst a xs g;show⟨_,vs,rfl,.inl<|.of c,d⟩
  .ext e
 |_=>ext e
open _root_ in
def Gd:eY K vK (BP K):=by
 intro b H s n d h j Q R i a k;unfold vK at a;split at a
 .split at a
  .rename_i e;ext a;cases i with
   |cons i t=>ext i;ext t;show .inr ⟨_,rfl,e,k b _ H .refl R<|.int _⟩
  .ext a
 .let⟨o,h1,c⟩:=ţ.mp a;ext c;cases i with
  |cons i t=>ext t;let⟨p,g,rfl,q,hd⟩:=tL R i h1;show .inl ⟨p,g,rfl,q,?_⟩;rw[hd.length];show k b _ H .refl R<|.int _
 .ext a
abbrev vL:MF:=λds a=>match ds with
 |[x]=>(bO a x).map λb=>(.loc a.length,a++[.lst b])|_=>b4
def Ge:eY K vL (λxs H Q=>∃p a,xs=[.ref p]/\(Ą K H p a\/å K H p a)/\∀l,H l=b4->Q (.ref l) (upd H l<|.lst a)):=by
 intro s H o xs d j n Q R i b k;unfold vL at b;split at b
 .let⟨a,h1,g⟩:=ţ.mp b;ext g;cases i with
  |cons i t=>ext t;let⟨p,c,rfl,q,hd⟩:=tL R i h1;show⟨p,c,rfl,q,λl h=>?_⟩;let⟨e,R2,_⟩:=R.alloc (c:=.lst a) (o:=.lst c) h hd;show k _ _ _ e R2 mO
 .ext b
abbrev Gf(K:Õ):gz->Hp->VK->Prop:=λvs H Q=>∃π a x v t c b,vs=[v,.ty c]/\Rp K π H a/\Ú K π a.length H v x/\BN a x=b3 t/\yF t c=b3 b/\Q (.bl b) H
def b3v:eY K nK (Gf K):=by
 intro c H q p d n o Q R i a k;unfold nK at a;split at a
 .let⟨t,h1,a⟩:=Ś.mp a;show cE a ?_;clear a;intro b e a;ext a;cases i with
  |cons i h=>
   cases h with
   |cons g j=>ext j;ext g;show⟨c,_,_,_,t,_,b,rfl,R,i,h1,e,k c _ H .refl R<|.bl _⟩
 .ext a
open _root_ in
def b3s:Ü X (.builtin "isinstance") (Gf X.K):=by
 intro G s Z H N us Q I r h;let⟨L,μ,x,v,t,c,b,rfl,R,i,h1,j,q⟩:=h;let⟨u,u2,rfl,w,U⟩:=vB r;ext U;let fin:∀J,EP X G Z Q (.bool b) {s with toks:=J}:=λJ=>⟨.bl b,H,I.tok J,rfl,q⟩;cases i with
 |non=>ext h1;ext w;show cg PySem.W.kitx_none I.kIn ϰ (oP X.K ∅ j) (λz=>nomatch z) fin|bl y=>ext h1;ext w;show cg PySem.W.kitx_bool I.kIn ϰ (oP X.K ∅ j) (λz=>nomatch z) fin|int y=>ext h1;let⟨t,rfl⟩:=w;show cg PySem.W.kitx_int I.kIn ϰ (oP X.K ∅ j) (λz=>nomatch z) fin|str y=>ext h1;let⟨t,rfl⟩:=w;show cg PySem.W.kitx_str I.kIn ϰ (oP X.K ∅ j) (λz=>nomatch z) fin|tup g t=>ext h1;ext w;let⟨its,M,p,_⟩:=I.tuple g;let⟨o,d,e,_⟩:=p;show cg PySem.W.kitx_tuple I.kIn ⟨o,d,e⟩ (oP X.K ∅ j) (λz=>nomatch z) fin|rol g t=>ext h1;ext w;let⟨its,M,p,_⟩:=I.list g.sq;let⟨o,d,e,_⟩:=p.isList;show cg Rm I.kIn ⟨o,d,e⟩ (oP X.K ∅ j) (λz=>nomatch z) fin|@loc a ha=>
  ext w;dsimp[BN]at h1;split at h1
  .rename_i N B;ext h1;let⟨E,A,h4⟩:=R.lst a N B;let⟨its,M,p,_⟩:=I.list<|Ą.of (K:=X.K) A;let⟨o,d,e,_⟩:=p.isList;show cg Rm I.kIn ⟨o,d,e⟩ (oP X.K ∅ j) (λz=>nomatch z) fin
  .rename_i k B;ext h1;let⟨E,A,_⟩:=R.dK a k B;let⟨_,_,Y,_,p⟩:=(show Þ X.prog X.w H s.heap (L a) (.dK E)from I.hok _ _ A);let⟨o,T,O,d,e,_⟩:=p;show cg Rl I.kIn ⟨o,d,e.1⟩ (oP X.K ∅ j) (λz=>nomatch z) fin
  .rename_i k B;ext h1;let⟨E,A,_⟩:=R.dT a k B;obtain⟨⟨Y,_,_,_,o,T,O,d,e,_⟩,_⟩:=(show Þ X.prog X.w H s.heap (L a) (aT (L a) E)from I.hok _ _ A);show cg Rl I.kIn ⟨o,d,e.1⟩ (oP X.K ∅ j) (λz=>nomatch z) fin
  .ext h1
 |ty n=>ext h1
abbrev yH:D->Option bM
 |.int i=>b3 (.inl i)|.str x=>b3 (.inr x)|_=>b4
abbrev lO(kvs:List (bM×D))(k:bM):Option D:=(kvs.find? λa=>decide<|a.1=k).map (·.2)
inductive ŝ (K:Õ)(π:Nat->Addr)(n:Nat)(H:Hp):List (bM×V)->List (bM×D)->Prop where
 |nil:ŝ K π n H [] []
 |cons {k:bM}{v:V}{d:D}{vs:List (bM×V)}{ds:List (bM×D)}(h:Ú K π n H v d)(t:ŝ K π n H vs ds):ŝ K π n H ((k,v)::vs)<|(k,d)::ds
def ŝ.val(h:ŝ K π n H vs ds)k:(lO ds k=b4/\k9 vs k=b4)\/∃v d,lO ds k=b3 d/\k9 vs k=b3 v/\Ú K π n H v d:=by
 induction h with
 |nil=>show .inl ⟨rfl,rfl⟩|@cons a c b vs ds h t j=>
  by_cases e:a=k
  .show .inr ⟨c,b,by simp[lO,ű,e],by simp[k9,ű,e],h⟩
  .let g:lO ((a,b)::ds) k=lO ds k:=by simp[lO,ű,e]
   let i:k9 ((a,c)::vs) k=k9 vs k:=by simp[k9,ű,e]
   rw[g,i];show j
def ŝ.length(h:ŝ K π n H vs ds):vs.length=ds.length:=by
 induction h with
 |nil=>rfl|cons h t a=>rw[ņ,ņ,a]
def Gg(h:Ú K π n H y d)(e:yH d=b3 k):y=kV k:=by ext h<;>first|ext e;done|(ext e;rfl)
abbrev b3r(K:Õ)(a:List (ME×ME)):List (TE×TE):=a.map λp=>(tM K p.1,tM K p.2)
def iR(r:ç k A):A.units+1<ÿ:=by have:=r.un;lia
abbrev nM(a:ME):ME:=λc b=>(a c b).bind λp=>(BH p.1).map λd=>(d,p.2)
abbrev jU(cells:List (Str×Addr)):List (Str×ϱ)->List (Str×Addr)->List (Str×Addr)
 |[],acc=>acc|(n,k)::r,acc=>if k=.free then(match cells.lookup n with|some c=>jU cells r ((n,c)::acc)|none=>jU cells r acc)else jU cells r acc
def Gh:∀names acc,(∀y∈names,y.2=.free->∃c,env.cells.lookup y.1=b3 c)->
  (forIn names acc λx b=>(do
   if x.2==.free then(do let c <- cellOf env x.1;pure (bu<|(x.1,c)::b))else pure (bu b):J3 (ForInStep<|List<|Str×Addr)))=pure (jU env.cells names acc)
 |[],acc,_=>rfl|(n,k)::r,acc,h=>by
  let d:=λacc=>Gh r acc λy g=>h y<|Ō _ g;rw[OU];by_cases a:k=.free
  .subst a;let⟨c,hc⟩:=h (n,.free) (š ..) rfl;dsimp at hc;let e:cellOf env n=pure c:=by ext cellOf;rw[hc]
   dsimp[jU,hc,e,beq_self_eq_true,if_true,pure_bind];show d _
  .let e:(k==UV)=false:=by apply a
   dsimp[jU,e,a,if_false,Ň,pure_bind];show d _
def b3n(h:∀y∈scope.names,y.2=.free->∃c,env.cells.lookup y.1=b3 c):O2 scope env=pure (jU env.cells scope.names []):=by have:=Gh (env:=env) scope.names [] h;ext O2;dsimp[bind_pure]at *;show this
open _root_ in
def yI:∀names acc,(∀y c,acc.lookup y=b3 c->cells.lookup y=b3 c)->∀y c,(jU cells names acc).lookup y=b3 c->cells.lookup y=b3 c
 |[],acc,h=>h|(n,k)::r,acc,h=>by
  ext jU;split
  .split
   .rename_i c0 hc;show yI r _ λy c e=>?_;rw[ux]at e;by_cases a:y=n
    .subst a;dsimp[beq_self_eq_true]at e;ext e;show hc
    .have:(y==n)=false:=by apply a
     rw[this]at e;show h y c e
   .show yI r acc h
  .show yI r acc h
def yJ:∀names acc y,(∃c,acc.lookup y=b3 c)->∃c,(jU cells names acc).lookup y=b3 c
 |[],acc,y,h=>h|(n,k)::r,acc,y,h=>by
  ext jU;split
  .split
   .show yJ r _ y ?_;rw[ux];by_cases a:(y==n)=dI
    .rw[a];show⟨_,rfl⟩
    .have:(y==n)=false:=by apply a
     rw[this];show h
   .show yJ r acc y h
  .show yJ r acc y h
def yK:∀names acc y,(y,UV)∈names->(∃c,cells.lookup y=b3 c)->∃c,(jU cells names acc).lookup y=b3 c
 |[],acc,y,h,_=>by ext h
 |(n,k)::r,acc,y,h,hc=>by
  ext jU;rcases ĉ.mp h with h|h
  .ext h;let⟨c,hc⟩:=hc;rw[if_pos rfl,hc];show yJ r _ _ ⟨c,by simp[ux]⟩
  .split
   .split
    .show yK r _ y h hc
    .show yK r _ y h hc
   .show yK r _ y h hc
structure ł(osc:Ω)(N:List Str)(scope:Ω)(xs:List Str):Prop where
 nocell:∀y∈scope.names,y.2≠.cell
 kind:scope.kind=.function
 names:∀y∈scope.names,y.2=.local->scope.names.lookup y.1=b3 .local
 here:∀x∈xs,scope.names.lookup x=b3 .local
 free:∀y∈scope.names,y.2=.free->osc.names.lookup y.1=b3 .cell\/osc.names.lookup y.1=b3 .free
 own:∀y∈scope.names,y.2=.local->y.1∉bX xs N
 nd:N.Nodup
 hnd:(bX xs N).Nodup
 hidn:∀y∈N,xs.contains y=dI->scope.names.lookup (tI y)=b4
def ł.ok(S:ł X.env.scope X.N scope xs)(ok:X.Ok):ā X scope (jU X.env.cells scope.names []) xs:=by
 let has:∀y∈scope.names,y.2=.free->∃c,X.env.cells.lookup y.1=b3 c:=λy d b=>ok.has y.1 (S.free y d b);show⟨b3n has,S.nocell,S.kind,S.names,S.here,yI scope.names [] (λy c e=>by ext e),λy e=>?_,λy e=>?_,S.hidn⟩
 .let a:=J0 e;show⟨S.free _ a rfl,yK scope.names [] y a (has _ a rfl)⟩
 .show S.own _ (J0 e) rfl
abbrev fF(e:Expr):Bool:=!(e.ctorIdx==22)
def iF(h:fF e=dI):ý (e::es) env=(b5,eval e env)::ý es env:=by ext e<;>first|rfl|ext h
def rO:∀{es},es.all fF=dI->(ŕ pos<|ý es env).any (·.1)=b5
 |[],_=>rfl|e::es,h=>by rw[ō,ð]at h;rw[iF h.1];have:=rO (pos:=pos) (env:=env) h.2;simpa[ŕ]using this
def yL(h:fF e=dI):ς (e::es) env=(b5,az e env)::ς es env:=by ext e<;>first|rfl|ext h
def Gi:∀{es},es.all fF=dI->(ς es env).length=es.length
 |[],_=>rfl|e::es,h=>by rw[ō,ð]at h;rw[yL h.1,ņ,ņ,Gi h.2]
def Gj:∀{es},es.all fF=dI->(ς es env).findIdx? (·.1)=b4
 |[],_=>rfl|e::es,h=>by rw[ō,ð]at h;rw[yL h.1,List.findIdx?_cons,Gj h.2];rfl
structure QE(X:Cx)(e:Expr)(m:ME):Prop where
 h:PE X e<|tM X.K m
structure QT(X:Cx)(e:Expr)(m:MT):Prop where
 h:PT X e<|ŋ X.K m
structure QW(X:Cx)(e:Expr)(m:MT):Prop where
 h:PW X e<|ŋ X.K m
structure QA(X:Cx)(es:List Expr)(m:MA)(n:Nat):Prop where
 h:PA X es<|Ε X.K m
 l:∀ρ μ ds μ',m ρ μ=b3 (ds,μ')->ds.length=n
 s:es.all fF=dI
structure QO(X:Cx)(e:Option Expr)(m:MO):Prop where
 h:PO X e<|qm X.K m
structure QS(X:Cx)(st:Stmt)(m:MS):Prop where
 h:PS X st<|œ X.K m
structure QB(X:Cx)(st:List Stmt)(m:MS):Prop where
 h:Ŝ X st<|œ X.K m
structure QG(X:Cx)(e:Expr)(g:MG):Prop where
 h:PG X e<|Δ X.K g
structure wg(X:Cx)(es:List Expr)(is:List Nat):Prop where
 h:u6 X es<|yG is
 n:es.length=is.length
 s:es.all fF=dI
structure QI(X:Cx)(ifs:List Expr)(m:MT):Prop where
 h:rL X ifs m
structure rMm(X:Cx)(pos:Į)(keys:List (Option Expr))(values:List Expr)(prs:List (ME×ME)):Prop where
 h:a9X X pos keys values<|b3r X.K prs
 a:keys.all (·.isSome)=dI
 l:keys.length=values.length
def b3m i(g:X.N[i]?=b3 x:=by rfl)(h:q8 X.env.scope x:=by first|show jt rfl|show bf (jt rfl)|show bf<|bf rfl)(hd:(x==("__debug__":Str))=false:=by decide)(d:(x==("__classdict__":Str))=false:=by decide):QE X (.Name x pos) (aE i):=⟨p57 i<|EJ g h hd d⟩
def b3l:QE X (.Constant (.int i) j pos) (mC<|.int i):=⟨h16⟩
def b3j:QE X (.Constant (.bool i) j pos) (mC<|.bl i):=⟨h12⟩
def b3i:QE X (.Constant (.str i) j pos) (mC<|.str i):=⟨dMT⟩
def b4o:QE X (.Constant .none j pos) (mC .non):=⟨b5k⟩
def tP(i:ď X (Υ op) r)(h:eK X.K f r)(d:QE X a ma)(g:QE X b mb):QE X (.BinOp a op b pos) (aA f ma mb):=⟨b5g i h d.h g.h⟩
def b4n(d:QE X a ma)(g:QE X b mb):QE X (.BinOp a .Add b pos) (aA bI ma mb):=tP b3D b3C d g
def b4l(d:QE X a ma)(g:QE X b mb):QE X (.BinOp a .Sub b pos) (aA iP ma mb):=tP a6W b3P d g
def b4h(d:QE X a ma)(g:QE X b mb):QE X (.BinOp a .Mult b pos) (aA b8 ma mb):=tP b3U b3M d g
def b4e(d:QE X a ma)(g:QE X b mb):QE X (.BinOp a .FloorDiv b pos) (aA kL ma mb):=tP b3T b3K d g
def b4c(d:QE X a ma)(g:QE X b mb):QE X (.BinOp a .Mod b pos) (aA b6 ma mb):=tP a9U b3J d g
def b4b(d:QE X a ma)(g:QE X b mb):QE X (.BinOp a .Pow b pos) (aA rJ ma mb):=tP b3S b3G d g
def b4S(d:QE X a ma):QE X (.UnaryOp .USub a pos) (nM ma):=⟨b2v d.h⟩
def b1c(d:QE X a ma):QE X (.UnaryOp .Not a pos) (tE ma):=⟨b4p d.h⟩
def b1a(h:ç k X.A)(d:QE X a ma)(g:QE X b mb):QE X (.Compare a [.Eq] [b] pos) (aA (aZ b5) ma mb):=⟨iM (F5<|yE h) yD d.h g.h<|fK _⟩
def b1X(h:ç k X.A)(d:QE X a ma)(g:QE X b mb):QE X (.Compare a [.NotEq] [b] pos) (aA (aZ dI) ma mb):=⟨iM (F6<|yE h) yD d.h g.h<|fK _⟩
def b1U(d:QE X a ma)(g:QE X b mb):QE X (.Compare a [.Lt] [b] pos) (aA gM ma mb):=⟨iM Bi lK d.h g.h<|fK _⟩
def b1T(d:QE X a ma)(g:QE X b mb):QE X (.Compare a [.LtE] [b] pos) (aA tH ma mb):=⟨iM Bj lK d.h g.h<|fK _⟩
def b1R(d:QE X a ma)(g:QE X b mb):QE X (.Compare a [.Gt] [b] pos) (aA kM ma mb):=⟨iM Bk lK d.h g.h<|fK _⟩
def b1Q(d:QE X a ma)(g:QE X b mb):QE X (.Compare a [.GtE] [b] pos) (aA vJ ma mb):=⟨iM Bl lK d.h g.h<|fK _⟩
abbrev jC(e:Expr):Bool:=!(e.ctorIdx==7)
def lP(h:jC b=dI):ie op b=false:=by ext b<;>first|rfl|ext h
def b1P(h:QE X a m):QE X (.BoolOp op [a] pos) m:=⟨b4u h.h⟩
def b1O{cH:List Expr}(d:QE X a ma)(g:QE X (.BoolOp .And (b::cH) pos) mb):QE X (.BoolOp .And (a::b::cH) pos) (fQ ma mb):=⟨b4r d.h g.h⟩
def b1N{cH:List Expr}(d:QE X a ma)(g:QE X (.BoolOp .Or (b::cH) pos) mb):QE X (.BoolOp .Or (a::b::cH) pos) (Bx ma mb):=⟨b4q d.h g.h⟩
def b1M{mt:MT}(hc:QT X c mt)(d:QE X a ma)(g:QE X b mb):QE X (.IfExp c a b pos) (iO mt ma mb):=⟨a8U hc.h d.h g.h⟩
def b1L:QA X [] aG 0:=⟨a8T,a8G,rfl⟩
def b1I(g:QE X e m)(d:QA X es ms n)(h:fF e=true:=by rfl):QA X (e::es) (aB m ms) (n+1):=⟨a8N g.h d.h<|iF h,a8F d.l,by rw[ō,h,d.s];rfl⟩
def b1H(h:QA X es ms n):QE X (.Tuple es d pos) (cQ ms):=⟨a8K h.h⟩
def b0t(h:QA X es ms n):QE X (.List es pos) (cR ms):=⟨a8I h.h⟩
abbrev rP(e:Expr):Bool:=!(e.ctorIdx==26)
def BQ(h:rP b=dI):Bs b:=by intro o i;ext b<;>first|rfl|ext h
def b0s(d:QE X a ma)(g:QE X b mb)(h:rP b=true:=by rfl):QE X (.Subscript a b pos) (aA kJ ma mb):=⟨a7S d.h g.h<|BQ h⟩
def b0o:QO X b4 mM:=⟨a7H⟩
def b0n(h:QE X e m):QO X (b3 e) (mN m):=⟨a7F h.h⟩
def b0k(h:QE X a ma)(i:QO X lo g)(j:QO X hi d):QE X (.Subscript a (.Slice lo hi b4 k) pos) (rH ma g d):=⟨a9H h.h i.h j.h⟩
def b2f(F:ķ X.prog X.w X.K X.mg X.base i8 k f i ps (mK X.K n j))(v:ç k X.A)(u:X.mg x=b3 (.ref f))(s:ϳ X.K (.ref f)=dI)(o:ĥ X.K i ps [])(d:QA X (e::es) ms n)(q:Gl X x:=by rfl)(g:(x==("__debug__":Str))=false:=by decide):QE X (.Call (.Name x p) (e::es) [] pos) (bJ j ms):=by
 let h:=d.s;rw[ō,ð]at h;show⟨a8B F v q u s o d.h d.l g (iF h.1)<|rO h.2⟩
def Gk{id:String}(hc:Ü X (.builtin id) r)(i:eY X.K f r)(k:X.mg x=b4)(q:Ψ x=b3 (.builtin id))(h:QA X (e::es) ms n)(j:Gl X x:=by rfl)(o:x ≠ "__name__":=by decide)(d:(x==("__debug__":Str))=false:=by decide):QE X (.Call (.Name x p) (e::es) [] pos) (bJ f ms):=by
 let g:=h.s;rw[ō,ð]at g;show⟨a7o hc i j k q h.h o d (iF g.1)<|rO g.2⟩
def b2e(hc:Ü X (.type T) r)(i:eY X.K f r)(k:X.mg x=b4)(q:Ψ x=b3 (.type T))(h:QA X (e::es) ms n)(j:Gl X x:=by rfl)(o:x ≠ "__name__":=by decide)(d:(x==("__debug__":Str))=false:=by decide):QE X (.Call (.Name x p) (e::es) [] pos) (bJ f ms):=by
 let g:=h.s;rw[ō,ð]at g;show⟨a7b hc i j k q h.h o d (iF g.1)<|rO g.2⟩
def b2d(g:X.mg x=b4)(i:Ψ x=b3 (.type n))(d:Gl X x:=by rfl)(h:x ≠ "__name__":=by decide)(hd:(x==("__debug__":Str))=false:=by decide):QE X (.Name x pos) (mC<|.ty n):=⟨b2u d g i h hd⟩
def b2c(h:ç k X.A)(d:QE X a ma)(g:QE X b mb):QT X (.Compare a [.Eq] [b] pos) (a7<|aA (aZ b5) ma mb):=⟨iN (F5<|yE h) yD d.h g.h<|fK _⟩
def b2b(h:ç k X.A)(d:QE X a ma)(g:QE X b mb):QT X (.Compare a [.NotEq] [b] pos) (a7<|aA (aZ dI) ma mb):=⟨iN (F6<|yE h) yD d.h g.h<|fK _⟩
def b2Z(d:QE X a ma)(g:QE X b mb):QT X (.Compare a [.Lt] [b] pos) (a7<|aA gM ma mb):=⟨iN Bi lK d.h g.h<|fK _⟩
def b2Y(d:QE X a ma)(g:QE X b mb):QT X (.Compare a [.LtE] [b] pos) (a7<|aA tH ma mb):=⟨iN Bj lK d.h g.h<|fK _⟩
def b2X(d:QE X a ma)(g:QE X b mb):QT X (.Compare a [.Gt] [b] pos) (a7<|aA kM ma mb):=⟨iN Bk lK d.h g.h<|fK _⟩
def b2W(d:QE X a ma)(g:QE X b mb):QT X (.Compare a [.GtE] [b] pos) (a7<|aA vJ ma mb):=⟨iN Bl lK d.h g.h<|fK _⟩
abbrev BR:Expr->Bool
 |.UnaryOp .Not ..=>b5|.BoolOp ..=>b5|.IfExp ..=>b5|.Compare ..=>b5|_=>dI
open _root_ in
def b2V(h:BR e=dI):∀d,qt e env d=(do let v <- d;standAt e.pos;holding [v] (truthy v)):=by
 intro d;ext e<;>first|rfl|ext h|skip
 rename_i g x p;ext g<;>first|rfl|ext h
def b2U{mt:MT}(d:QT X a mt):QT X (.UnaryOp .Not a pos) (jT mt):=⟨b4y d.h⟩
def b2S{mt:MT}(d:QT X a mt):QW X (.BoolOp .And [a] pos) mt:=⟨b5f d.h⟩
def b2R{mt:MT}(d:QT X a mt):QW X (.BoolOp .Or [a] pos) mt:=⟨b5c d.h⟩
def b2Q{mt:MT}{cH:List Expr}(d:QT X a mt)(g:QW X (.BoolOp .And (b::cH) pos) mu):QW X (.BoolOp .And (a::b::cH) pos) (i9 mt mu):=⟨b5b d.h g.h⟩
def b2P{mt:MT}{cH:List Expr}(d:QT X a mt)(g:QW X (.BoolOp .Or (b::cH) pos) mu):QW X (.BoolOp .Or (a::b::cH) pos) (lH mt mu):=⟨b4z d.h g.h⟩
def b2O{mt:MT}(h:QW X e mt):QT X e mt:=⟨h.h.pt⟩
def b2N:QI X [] fE:=⟨b4R⟩
def b2L{mt:MT}(h:QT X c mt):QI X [c] mt:=⟨b4B h.h⟩
def b2B:QB X [] bV:=⟨a9C⟩
def b1u{cH:List Stmt}(h1:QS X st ms)(d:QB X cH mr):QB X (st::cH) (aL ms mr):=⟨a9B h1.h d.h⟩
def b1t(h1:QS X st ms):QB X [st] ms:=⟨a9A h1.h⟩
def b1r:QS X (.Pass pos) bV:=⟨a8u⟩
def b1k(d:QE X e m):QS X (.Return (b3 e) pos) (aM m):=⟨a8t d.h⟩
abbrev oR(e:Expr):Bool:=!(e.ctorIdx==8||e.ctorIdx==9||e.ctorIdx==10)
def BS(h:oR e=dI):fu e t n env=pure false:=by ext e<;>first|rfl|ext h
def b1j(d:QE X e m)(h:oR e=true:=by rfl):QS X (.Expr e pos) (dX m):=⟨a8q d.h<|BS h⟩
def b1h{mt:MT}(hc:QT X c mt)(d:QB X body ms)(h:QB X orelse mu):QS X (.If c body orelse pos) (bK mt ms mu):=⟨a8c hc.h d.h h.h⟩
def b1g i(j:X.N.Nodup)(k:QE X e m)(h:oR e=true:=by rfl)(hi:X.N[i]?=b3 x:=by rfl)(p:Loc X.env.scope x:=by first|show jt rfl|show bf rfl)(o:X.fn x=dI\/X.env.scope.names.lookup x=b3 .local:=by first|show .inl rfl|show .inr rfl):QS X (.Assign [.Name x d] e pos) (fR i m):=⟨FT j hi p k.h (BS h) o⟩
def b2m i(d:X.N.Nodup)(hi:X.N[i]?=b3 x:=by rfl)(j:Loc X.env.scope x:=by first|show jt rfl|show bf rfl)(h:X.fn x=dI\/X.env.scope.names.lookup x=b3 .local:=by first|show .inl rfl|show .inr rfl):QG X (.Name x pos) (cL i):=⟨F8 d hi j h⟩
def Gm:wg X [] []:=⟨a8d,rfl,rfl⟩
def Gn i(h:X.N.Nodup)(d:wg X es is)(hi:X.N[i]?=b3 x:=by rfl)(k:Loc X.env.scope x:=by first|show jt rfl|show bf rfl)(j:X.fn x=dI\/X.env.scope.names.lookup x=b3 .local:=by first|show .inl rfl|show .inr rfl):wg X (.Name x pos::es) (i::is):=
 ⟨a8Z (EL h hi k j) d.h<|by rw[yL (e:=.Name x pos) rfl];rfl,by rw[ņ,ņ,d.n],by rw[ō,d.s];rfl⟩
def BU(h:wg X es is)(hc:X.calm=true:=by rfl):QG X (.Tuple es k pos) (dD is):=⟨b3x hc h.h ((Gi h.s).trans h.n)<|Gj h.s⟩
abbrev BV(e:Expr):Bool:=!(e.ctorIdx==25)
def b2g(h:BV e=dI):OL [.Tuple es k pt] e env=pure none:=by ext e<;>first|rfl|ext h
def a9E(d:QE X e m)(i:QG X (.Tuple es k pt) g)(h:BV e=true:=by rfl):QS X (.Assign [.Tuple es k pt] e pos) (iE m g):=
 ⟨b3w d.h i.h (by ext e<;>rfl) (b2g h)<|by rw[yL (e:=.Tuple es k pt) rfl];rfl⟩
def a9D(F:ϩ K x a st f g)(S:Ĩ N ps (dO st))(e:ps.length<=N.length)(d:iL st=body)(c:∀b A outer s H E,ç k (A.deeper<|SK a (dO st) s.heap.objs.size f b)->
   QB (oN i8 P w K mg base N a (dO st) f b A outer s H E).nox body m):ķ P w K mg base i8 (k+1) f g ps (mK K ps.length<|Bz N.length m):=
 b3c F S e λb A outer s H E h=>by rw[d];show(c b A outer s H E h).h
noncomputable abbrev gW:=Hm->Nat->Option (Option D)
noncomputable abbrev MI:=aF->Hm->Option (gW×Nat×Hm)
inductive ϙ (K:Õ)(m:MI)(σ:St)(H:Hp)(R:It->Hp->Prop):Prop
 |mk (π:Nat->Addr)(ρ:aF)(μ:Hm)(src:gW)(n:Nat)(μ':Hm)(r:Rp K π H μ)(E:En K π μ.length H σ ρ)(hm:m ρ μ=b3 (src,n,μ'))(k:∀π' H' J,ò π μ.length H π' μ'.length H'->Rp K π' H' μ'->Wk K J src π' μ'.length H'->R J H'):ϙ K m σ H R
structure QJ(X:Cx)(e:Expr)(m:MI):Prop where
 h:∀tg,PI X tg e (ϙ X.K m)
abbrev Gp:MI:=λ_ x=>b4
def BW:QJ X e Gp:=⟨λtg Do s σ H R I hw=>by
 let⟨h,i,g,b,n,c,d,E,a,k⟩:=hw;ext a⟩
abbrev jD(a:Hm):D->Option (List D)
 |d=>bO a d
abbrev dE(x:D):gW:=λa i=>(jD a x).map λxs=>xs[i]?
abbrev cS(m:ME):MI:=λb a=>(m b a).bind λp=>(jD p.2 p.1).map λxs=>(dE p.1,xs.length+1,p.2)
def a8s(h:QE X e m):QJ X e (cS m):=⟨λtg Do s σ H R I hw=>by
 let⟨L,M,J,B,n,K,w,E,b,k⟩:=hw;show bR b ?_;clear b;intro x i h1 b;show cE b ?_;clear b;intro G y b;ext b;let key:∀(p:bO i x=b3 G)(u:dE x=oQ x),È (Í X.prog X.w) X.A (eval e X.env) (λv A=>È (Í X.prog X.w) X.A (JF v) (Bd X Do σ tg R) X.xe A) X.xe s:=λp u=>by
  show b2r h.h Do s σ H R I ⟨L,M,J,x,_,w,E,h1,λc N j o d z=>?_⟩;let⟨a,e,q⟩:=b2q d z p;subst e;show⟨a,rfl,?_⟩;dsimp at k;rw[u]at k;rcases q with⟨g,W⟩|⟨g,W⟩
  .show .inl ⟨g,k c j _ o d W⟩
  .show .inr ⟨g,k c j _ o d W⟩
 cases x with
 |_=>show key y rfl⟩
abbrev oS(a:MA):MI:=λc b=>(a c b).bind λp=>match p.1 with
 |[.int j]=>if -(2^62)<=j/\j<2^62 then b3 (kN 0 j.toNat,j.toNat+1,p.2)else b4|_=>b4
open _root_ in
def a8m(tr:∀o lo n,ŀ q X.prog X.w X.K tg (pR lo n) [o] o λi h=>yq h o (lo+(i:Nat)*1) ((n:Int)-(i:Nat)) 1)(c:Gl X "range")(d:X.mg "range"=b4)(w:QA X [a] A n):u7 q X tg (.Call (.Name "range" p) [a] [] pos) (ϙ X.K<|oS A):=λDo s σ H R I hw=>by
 let z:=w.s;rw[ō,ð]at z;let⟨Q,T,N,L,U,O,J,E,b,k⟩:=hw;show bR b ?_;clear b;intro x u h1 b;show a7f tr c d w.h (iF z.1) Do s σ H R I ⟨Q,T,N,x,u,J,E,h1,λv Y B K G g=>?_⟩;dsimp at b;split at b
 .rename_i j;split at b
  .rename_i y;ext b;cases g with
   |cons g M=>ext g;ext M;show⟨j,rfl,y.1,y.2,k v B _ K G F9⟩
  .ext b
 .ext b
def a8b(b:Gl X "range")(c:X.mg "range"=b4)(g:QA X [a] d n):QJ X (.Call (.Name "range" p) [a] [] pos) (oS d):=⟨λtg=>a8m ES b c g⟩
abbrev mQ(a:MA):MI:=λc b=>(a c b).bind λp=>match p.1 with
 |[.int i,.int j]=>if -(2^62)<=i/\i<2^62/\-(2^62)<=j/\j<2^62 then b3 (kN i (j-i).toNat,(j-i).toNat+1,p.2)else b4|_=>b4
open _root_ in
def a8a(g:Gl X "range")(h:X.mg "range"=b4)(v:QA X [a,b] w n):QJ X (.Call (.Name "range" p) [a,b] [] pos) (mQ w):=⟨λtg Do s σ H R I hw=>by
 let d:=v.s;rw[ō,ð,ō,ð]at d;let⟨Q,T,N,K,U,O,A,E,c,k⟩:=hw;show bR c ?_;clear c;intro x q h1 c;show a7d g h v.h (by rw[iF d.1,iF d.2.1];rfl) (by rw[iF d.2.1];rfl) Do s σ H R I ⟨Q,T,N,x,q,A,E,h1,λu Y y B z o=>?_⟩;dsimp at c;split at c
 .rename_i i j;split at c
  .rename_i G;ext c;cases o with
   |cons o L=>
    ext o;cases L with
    |cons J M=>ext J;ext M;show⟨i,j,rfl,G,k u y _ B z F9⟩
  .ext c
 .ext c⟩
abbrev cA(c:MI)(g:MG)(b:MS):MS:=λa d=>(c a d).bind λp=>fS p.1 g b p.2.1 0 a p.2.2
abbrev gX(d:BD)(g:MI)(c:MT)(e:ME):ME:=λb h=>(g b h).bind λp=>(kP p.1 d c e b p.2.2.length p.2.1 0<|p.2.2++[.lst []]).map λa=>(.loc p.2.2.length,a)
noncomputable abbrev eW(a:MI)(c:MT)(e:ME):ME:=gX tK a c e
abbrev gB(n:Nat)(a:BD):MG:=λd c b=>(a d b).map λx=>c.take n++x
def a8V(j:X.N.length=n+1)(h:PG X (.Name x i) (Δ X.K<|cL n)):PG X (.Name x i) (Δ X.K<|gB n tK):=by
 intro b s z H v u Q I r hw;let⟨w,a,q,d,y,R,E,hd,o,k⟩:=hw;ext o;show h b s z H v u Q I r ⟨w,a,q,d,_,R,E,hd,rfl,λc g=>k c ?_⟩;let p:a.length=n+1:=by rw[<- E.len,I.len,j]
 let e:a.set n (b3 d)=a.take n++[b3 d]:=by rw[List.set_eq_take_append_cons_drop,if_pos (),List.drop_of_length_le ()]
 rw[e]at g;show g
def Gq:∀xs a b,b.length=xs.length->rN (a++b) (rn a.length xs.length) xs=a++xs.map b3
 |[],a,[],_=>by simp[rN]
 |x::xs,a,y::b,h=>by let c:=Gq xs (a++[b3 x]) b (by apply h);rw[ņ,N9];change rN ((a++y::b).set a.length<|b3 x) (rn (a.length+1) xs.length) xs=_;rw[PM _ _<|Ø _,Pz,Λ];rw[ă,PL]at c;rw[Ϩ,List.singleton_append]at c;rw[c];simp
open _root_ in
def a8R(x:X.N.length=n+k)(h:PG X tg (Δ X.K<|dD<|rn n k)):PG X tg (Δ X.K<|gB n<|pW k):=by
 intro b s K H v u Q I r hw;let⟨G,a,B,d,J,R,E,hd,j,A⟩:=hw;show cE j ?_;clear j;intro y h1 q;show bZ h1 ?_;clear h1;intro p w c;split at c
 .rename_i o;ext c;subst q;let z:a.length=n+k:=by rw[<- E.len,I.len,x]
  show h b s K H v u Q I r ⟨G,a,B,d,rN a (rn n k) p,R,E,hd,(by dsimp[dD,w,Đ,List.length_range',if_pos o]),λg i=>A g ?_⟩;let e:=Gq p (a.take n) (a.drop n) (by rw[uw];lia);rw[vo,Ι,Oc (),o]at e;rw[e]at i;show i
 .ext c
def a8Q(E:En K π n H σ (a++o))(b:o.length=k):En K π n H σ (a++ϡ k b4):=by
 show⟨by rw[E.len,ă,ă,vm,b],λi d q=>?_⟩;by_cases hi:i<a.length
 .rw[ϗ hi]at q;show E.get i d<|by rw[ϗ hi];show q
 .rw[jf<|qz.mp hi,zx]at q;split at q<;>ext q
inductive TF (Y:Cx)(K:Õ)(tn:Nat->í->Prop)(fp:List Addr)(π:Nat->Addr)(k:Nat)(H:Hp)(ρ:aF)(l:Nat)(F:Nat->Nat->Hm->Option Hm)(μ':Hm)(n:Nat)(s:Ù):Prop
 |mk (i:Nat){σ':St}{H':Hp}{π':Nat->Addr}{μi:Hm}{o:aF}(I:Â Y [] σ' H' s)(st:tn i s.heap)(fr:∀b∈fp,H' b=b4)(e:ò π k H π' μi.length H')(R:Rp K π' H' μi)(E:En K π' μi.length H' σ' (ρ++o))(hl:o.length=l)(g:F n i μi=b3 μ')
open _root_ in
def Gs(O:ā X scope cl xs)(hq:∀Do σ H s j,Â X Do σ H s->q (dP X scope cl s.heap.objs.size (bX xs X.N++xs) s H j))(hi:u7 q X tg iter (ϙ X.K mi))(hb':∀d μ z,bd d μ=b3 z->z.length=xs.length)(hg:∀C s₀ H₀ j,PG (dP X scope cl C (bX xs X.N++xs) s₀ H₀ j) tg (Δ X.K<|gB X.N.length bd))(hc:∀C s₀ H₀ j,rL (dP X scope cl C (bX xs X.N++xs) s₀ H₀ j) ifs mc)(he:∀C s₀ H₀ j,PE (dP X scope cl C (bX xs X.N++xs) s₀ H₀ j) elt (tM X.K me))(hs:∀x,uy iter X.env x=pure x){σ:St}(I:Â X Do σ H s)(R:Rp X.K π H μ)(E:En X.K π μ.length H σ N)(hm:gX bd mi mc me N μ=b3 (d,μ'))(fin:∀p C π' B(s':Ù),ò π μ.length H π' μ'.length B->Rp X.K π' B μ'->Ú X.K π' μ'.length B (.ref p) d->(∃m,s'.heap.Ns C m)->X.s₀.heap.objs.size<=C->C≠X.env.locals->B C=b4->
   (∀y c,X.env.cells.lookup y=b3 c->c≠C)->(∀q∈X.pn++Do,q.1≠C)->(∀h',(∀b o,b≠C->s'.heap.get? b=b3 o->h'.get? b=b3 o)->Â X Do σ B {s' with heap:=h'})->
   compPost (Í X.prog X.w) X.A X.xe use QQ (.ref p) C (.ok .next) s'):
  È (Í X.prog X.w) X.A (comprehension (.ListComp elt [⟨tg,iter,ifs,0⟩] scope pos) scope X.env ppos (newList []) b5 (eval iter X.env) use) QQ X.xe s:=by
 obtain⟨⟨src,nt,a⟩,h1,hm⟩:=Ś.mp hm;show cE hm ?_;clear hm;intro μ2 h3 hm;ext hm;let hit:È (Í X.prog X.w) X.A (eval iter X.env) (λv s1=>È (Í X.prog X.w) X.A (JF v) (J1 q X Do σ tg λJ H1=>∃Q,ò π μ.length H Q a.length H1/\Rp X.K Q H1 a/\Wk X.K J src Q a.length H1) X.xe s1) X.xe s:=
  hi Do s σ H _ I ⟨π,N,μ,src,nt,a,R,E,h1,λQ H1 J e1 R1 W=>⟨Q,e1,R1,W⟩⟩
 show wpAny_comprehension_free rfl hs O.clos O.kind O.names<|Ŗ hit (λv s1 hv=>Ŗ hv (λitv A h4=>?_) λ_ f z=>z) λ_ f z=>z;let⟨it,j,tn,J,H2,rfl,I2,T,st2,f2,Q,e1,R1,W⟩:=h4;show ź (wpAny_newFunctionEnv O.nocell (by intro y hy;simp at hy) (λU K L=>?_) O.kind);dsimp at K L ⊢;let hfr:H2 A.heap.objs.size=none:=I2.hok.fresh<|Ø _;let I3:Â X Do σ (upd H2 A.heap.objs.size<|.lst []) {A with heap:=A.heap.push {cls:=.type "list",dict:=b4,data:=.seq ([]:gw).toArray}}:=
  I2.laid (t':=A.toks) (λb u e=>ß _ e) (Ø _) ⟨ĵ _,[],0,.nil,ć _ rfl⟩
 let⟨e2,R2,q2⟩:=R1.alloc (c:=.lst []) (o:=.lst []) hfr .nil;generalize hs3:({A with heap:=A.heap.push {cls:=.type "list",dict:=b4,data:=.seq ([]:gw).toArray}}:Ù)=s3 at I3;let G:A.heap.push {cls:=.type "list",dict:=b4,data:=.seq ([]:gw).toArray}=s3.heap:=by rw[<- hs3]
 let CR:=e1.trans e2;generalize hH3:upd H2 A.heap.objs.size (.lst [])=H3 at I3 e2 R2 CR;generalize hπ3:lF Q a.length A.heap.objs.size=π3 at e2 R2 q2 CR;let hob:∀b∈j,∃o,s3.heap.get? b=b3 o:=λb w=>by let⟨o,ho,_⟩:=T.obj 0 _ st2 b w;show⟨o,by rw[<- G];show ß _ ho⟩
 let f3:∀b∈j,kH X Do H3 b:=λb w=>by let⟨o,ho,_⟩:=T.obj 0 _ st2 b w;show⟨?_,(f2 b w).2⟩;rw[<- hH3,bQ<|û<|Ý ho];show(f2 b w).1
 let st3:tn 0 s3.heap:=T.keep 0 _ _ st2 λb w o e=>by rw[<- G];show ß _ e
 let hC:(A.heap.push {cls:=.type "list",dict:=b4,data:=.seq ([]:gw).toArray}).objs.size=s3.heap.objs.size:=by rw[G]
 rw[G]at K L;let hk1:∀b o,s3.heap.get? b=b3 o->U.get? b=b3 o:=λb o e=>L.extBut b o (û<|Ý e)<|ß _ e;let E3:En X.K π3 (a++[C.lst []]).length H3 (σ++ϡ xs.length b4) (N++ϡ xs.length b4):=by
  let E':=E.mono CR;show⟨by rw[ă,ă,E'.len,vm,vm],λi d' q=>?_⟩;by_cases hi:i<N.length
  .rw[ϗ hi]at q;let⟨v,h5,h6⟩:=E'.get i d' q;show⟨v,by rw[ϗ<|by rw[E'.len];show hi];show h5,h6⟩
  .rw[jf<|qz.mp hi,zx]at q;split at q<;>ext q
 let hlen:N.length=X.N.length:=by rw[<- E.len];show I.len
 let stat:∀{B:Hp}{pl:jw},(∀b∈j,B b=b4)->pl=[]->∀b∈j,kH (dP X scope cl s3.heap.objs.size (bX xs X.N++xs) s3 H3 j) pl B b:=λ{B pl} hn hpl b w=>by
  let⟨f0,f1,f2',f3',f4,f5⟩:=f3 b w;let⟨o,ho⟩:=hob b w;show⟨hn b w,û<|Ý ho,λz=>?_,.inl w,λy c h=>f4 y c<|O.sub y c h,λp hp=>?_⟩
  .rcases ĉ.mp (I3.stkSub b z)with z|z
   .show f1 z
   .show f2' z
  .subst hpl;show absurd (show p∈([]:jw)from hp) ∅
 let loop:∀s4:Ù,(∃tk,s4={s3 with heap:=U,toks:=tk})->
   ο (Í X.prog X.w) X.A (.compLoop (.ListComp elt [⟨tg,iter,ifs,0⟩] scope pos) 0 (.ref it) (.ref A.heap.objs.size)<|ϯ scope cl s3.heap.objs.size X.env)
    (compPost (Í X.prog X.w) X.A X.xe use QQ (.ref A.heap.objs.size) s3.heap.objs.size) s4:=by
  rintro s4 ⟨tk,rfl⟩;let I4:=O.inv (tk:=tk) I3 f3 hob K hk1;show b2n (TF (dP X scope cl s3.heap.objs.size (bX xs X.N++xs) s3 H3 j) X.K tn j π3 (a++[C.lst []]).length H3 N xs.length (kP src bd mc me N a.length) μ') ?_ nt
  <|.mk 0 I4 (T.keep 0 _ _ st3 λb w o e=>hk1 b o e) (λb w=>(f3 b w).1) .refl R2 E3 vm h3
  rintro n s5 hI5;cases hI5 with
  |@mk i σ5 H5 M μ5 o5 I5 st5 fr5 e5 R5 E5 l5 g5=>
  cases n with
  |zero=>ext g5|succ n=>
   show bZ g5 ?_;clear g5;intro o h6 h7;cases o with
   |none=>
    ext h7;let stop:=W.stop M _ H5 i (e2.trans e5) R5 h6;show Ŗ (T.done (dP X scope cl s3.heap.objs.size (bX xs X.N++xs) s3 H3 j) rfl rfl rfl (hq Do σ H3 s3 j I3) i [] s5 σ5 H5 (λ_ f=>False) I5 (stat fr5 rfl) st5 stop) (λr s6 Z=>?_) λ_ f z=>z;let⟨hr,I6⟩:=Z;subst hr;let⟨m6,hn6,_⟩:=id I6.loc;let hp:M a.length=A.heap.objs.size:=by rw[e5.pi a.length ∅,q2]
    show fin A.heap.objs.size s3.heap.objs.size M H5 s6 (CR.trans e5) R5 ?_ ⟨m6,hn6⟩ I3.sz (î<|û I3.lt) I6.free (λy c hc z=>?_) (λq hq z=>?_) λh' hh=>ā.back I3 f3 I6 hh
    .rw[<- hp];show .loc<|ĸ ∅ e5.le
    .let⟨v,o,ho,_⟩:=I3.cell y c hc;show û (Ý ho) z
    .show û (Ý (I3.pin q hq).1) z
   |some d=>
    show bZ h7 ?_;clear h7;intro z hz h7;show bR h7 ?_;clear h7;intro b μ6 h8 h9;let⟨g1,g2⟩:=W.go M μ5 H5 i d (e2.trans e5) R5 h6;show Ŗ (T.item (dP X scope cl s3.heap.objs.size (bX xs X.N++xs) s3 H3 j) rfl rfl rfl (hq Do σ H3 s3 j I3) i [] s5 σ5 H5 (λ_ f=>False) I5 (stat fr5 rfl) st5 g1) (λr s6 Z=>?_) λ_ f z=>z;let⟨u,hr,h10⟩:=Z;subst hr;show Ŗ h10 (λ_ s7 Z=>?_) λ_ f z=>z;let⟨v,H7,I7,r7,y7,st7,fr7⟩:=Z;let⟨e7,R7,hd⟩:=g2 v H7 y7;let I7':=I7.pinned (stat fr7 rfl)<|T.obj _ _ st7;let e5:=e5.trans e7;show Ŗ (hg _ _ _ _ _ s7 σ5 H7 v u (λσ' B=>En X.K M μ5.length H7 σ' (N++z)/\B=H7) I7' r7
     ⟨M,N++ϡ xs.length b4,μ5,d,N++z,R7,a8Q (E5.mono e7) l5,hd,(by
      change(bd d μ5).map (λx=>(N++ϡ xs.length b4).take X.N.length++x)=_;rw[hz,<- hlen,QL];rfl),λσ' E'=>⟨E',rfl⟩⟩) (λ_ s8 Z=>?_) λ_ f z=>z
    let⟨σ8,H8,I8,E8,z2⟩:=Z;subst z2;let again:∀{s9:Ù}{H9:Hp}{g:Nat->Addr}{μ9:Hm},Â (dP X scope cl s3.heap.objs.size (bX xs X.N++xs) s3 H3 j) ([]++u9 j s7.heap) σ8 H9 s9->ò π3 (a++[C.lst []]).length H3 g μ9.length H9->Rp X.K g H9 μ9->
      En X.K g μ9.length H9 σ8 (N++z)->kP src bd mc me N a.length n (i+1) μ9=b3 μ'->
      ∃m,m<n+1/\TF (dP X scope cl s3.heap.objs.size (bX xs X.N++xs) s3 H3 j) X.K tn j π3 (a++[C.lst []]).length H3 N xs.length (kP src bd mc me N a.length) μ' m s9:=λ{s9 H9 g μ9} I9 e9 R9 E9 g9=>by
     show⟨n,Ϧ _,.mk (i+1) I9.unpinned (T.keep _ _ _ st7 λb w o e=>(I9.pin (b,o)<|aj _<|aj _<|xM w e).1) (λb w=>?_) e9 R9 E9 (hb' _ _ _ hz) g9⟩;let⟨o,e,_⟩:=T.obj _ _ st7 b w;show(I9.pin (b,o)<|aj _<|aj _<|xM w e).2.1
    show Ŗ (hc _ _ _ _ _ s8 _ H8 (λb' B=>∃g,b'=b/\ò M μ5.length H8 g μ6.length B/\Rp X.K g B μ6) I8 ⟨M,_,μ5,b,μ6,R7,E8,h8,λg H9 e9 R9=>⟨g,rfl,e9,R9⟩⟩) (λok s9 Z=>?_) λ_ f z=>z;let⟨H9,I9,g,w,e9,R9⟩:=Z;subst w;cases ok with
    |false=>rw[if_neg ô];show again I9 (e5.trans e9) R9 (E8.mono e9) h9|true=>
     rw[if_pos rfl];show bR h9 ?_;clear h9;intro dy μ7 h11 Pl;show bZ Pl ?_;clear Pl;intro μ8 Y h14;show Ŗ (he _ _ _ _ _ s9 _ H9 (λy B=>∃k,ò g μ6.length H9 k μ7.length B/\Rp X.K k B μ7/\Ú X.K k μ7.length B y dy) I9 ⟨g,_,μ6,dy,μ7,R9,E8.mono e9,h11,λk y H10 M0 R10 Nl=>⟨k,M0,R10,Nl⟩⟩)
      (λu' s10 Z=>?_) λ_ f z=>z
     let⟨y,H10,I10,ry,k,M0,R10,Nl⟩:=Z;unfold tJ at Y;split at Y
     .rename_i zs hz;split at Y
      .rename_i hl;ext Y;let⟨vs,Nm,Pk⟩:=R10.lst _ zs hz;let eall:=(e5.trans e9).trans M0;let hp:k a.length=A.heap.objs.size:=by rw[eall.pi a.length ∅,q2]
       let⟨Nn,R11⟩:=R10.put (a:=a.length) (c:=.lst (zs++[dy])) (o:=.lst (vs++[y])) (â.mp hz).1 Nm (.inl ⟨vs,rfl⟩)<|Pk.append<|.cons Nl .nil;rw[hp]at Nm Nn R11;show Ŗ (Fx (X:=dP X scope cl s3.heap.objs.size (bX xs X.N++xs) s3 H3 j) _ s10 _ H10 (.ref A.heap.objs.size) [y] (.ref A.heap.objs.size) [u'] (λ_ B=>B=upd H10 A.heap.objs.size (.lst<|vs++[y])) I10 rfl (.cons ry .nil)
        ⟨A.heap.objs.size,vs,y,rfl,rfl,Nm,by rw[Pk.length];show hl,rfl⟩) (λ_ s11 Z=>?_) λ_ f z=>z
       let⟨_,H11,I11,_,z⟩:=Z;subst z;show again I11 (eall.trans Nn) R11 ((E8.mono<|e9.trans M0).mono Nn) h14
      .ext Y
     .ext Y
 let l4:=loop {s3 with heap:=U,toks:=A.toks+([]:List (Str×Value)).length} ⟨_,rfl⟩;let hst4:tn 0 U:=T.keep 0 _ _ st3 λb w o e=>hk1 b o e;subst hs3;show codeAny_compStart_list l4<|T.self _ 0 _ _ _ hst4 l4
def a8O(O:ā X scope cl xs)(N:∀Do σ H s a,Â X Do σ H s->q (dP X scope cl s.heap.objs.size (bX xs X.N++xs) s H a))(hi:u7 q X tg iter (ϙ X.K mi))(c:∀d v z,bd d v=b3 z->z.length=xs.length)(J:∀C s₀ H₀ a,PG (dP X scope cl C (bX xs X.N++xs) s₀ H₀ a) tg (Δ X.K<|gB X.N.length bd))(hc:∀C s₀ H₀ a,rL (dP X scope cl C (bX xs X.N++xs) s₀ H₀ a) ifs mc)(G:∀C s₀ H₀ a,PE (dP X scope cl C (bX xs X.N++xs) s₀ H₀ a) elt (tM X.K me))(T:∀x,uy iter X.env x=pure x):PE X (.ListComp elt [⟨tg,iter,ifs,0⟩] scope pos) (tM X.K<|gX bd mi mc me):=by
 intro Do s σ H Q I hw;let⟨π,ρ,v,d,μ',R,E,K,k⟩:=hw;rw[eval_ListComp];show Gs (use:=b4) O N hi c J hc G T I R E K λp C i j s' y w Y h U M g n u back=>?_;let⟨m,L⟩:=h;show⟨m,L,λA Z=>⟨.ref p,j,back A λb o B e=>(Z.2 b B).trans e,rfl,k i _ j y w Y⟩⟩
def a8M(O:ā X scope cl xs)(a:X.calm=dI)(hi:PI X tg iter (ϙ X.K mi))(c:∀d i z,bd d i=b3 z->z.length=xs.length)(g:∀C s₀ H₀ b,PG (dP X scope cl C (bX xs X.N++xs) s₀ H₀ b) tg (Δ X.K<|gB X.N.length bd))(hc:∀C s₀ H₀ b,rL (dP X scope cl C (bX xs X.N++xs) s₀ H₀ b) ifs mc)(e:∀C s₀ H₀ b,PE (dP X scope cl C (bX xs X.N++xs) s₀ H₀ b) elt (tM X.K me))(h:∀x,uy iter X.env x=pure x):PE X (.ListComp elt [⟨tg,iter,ifs,0⟩] scope pos) (tM X.K<|gX bd mi mc me):=a8O O (λ_ y y y y y=>a) hi c g hc e h
def a8D(O:ā X scope cl xs)(hN:X.N.Nodup)(h:X.calm=dI)(hi:PI X tg iter (ϙ X.K mi))(K:∀d μ z,bd d μ=b3 z->z.length=xs.length)(hg:∀C s₀ H₀ q,PG (dP X scope cl C (bX xs X.N++xs) s₀ H₀ q) tg (Δ X.K<|gB X.N.length bd))(hc:∀C s₀ H₀ q,rL (dP X scope cl C (bX xs X.N++xs) s₀ H₀ q) ifs mc)(he:∀C s₀ H₀ q,PE (dP X scope cl C (bX xs X.N++xs) s₀ H₀ q) elt (tM X.K me))(hs:∀x,uy iter X.env x=pure x)(hy:X.N[i]?=b3 y)(Z:X.env.scope.names.lookup y=b3 .local)(M:fu (.ListComp elt [⟨tg,iter,ifs,0⟩] scope pos) (b3<|.Name y py) g.line X.env=pure dI):
  PS X (.Assign [.Name y py] (.ListComp elt [⟨tg,iter,ifs,0⟩] scope pos) g) (œ X.K<|fR i<|gX bd mi mc me):=by
 intro n s σ H EN I hw;let⟨π,ρ,μ,fl,ρ',μ',R,E,A,k⟩:=hw;show vD A ?_;clear A;intro d μ1 h1 A;ext A;rw[exec_Assign_Name_used _ _ _ _ M];show Á<|N5 ?_;show Á<|Á ?_;show Gs (use:=b3 (az (.Name y py) X.env)) (QQ:=λ_ w=>È (Í X.prog X.w) X.A (pure Unit.unit) (λ_ Q=>È (Í X.prog X.w) X.A (pure Flow.next) (SP X n EN) X.xe Q) X.xe w) O (λ_ f f f f f=>h) hi K hg hc he hs I R E h1 λp C U B w Y R1 i1 L N u j c v back=>?_;let⟨m,hn⟩:=L;let I1:Â X n σ B w:=back w.heap λb o f e=>e;change È (Í X.prog X.w) X.A (az (.Name y py) X.env<|.ref p) _ X.xe w;show Qh ?_;show EH I1 hN hy (.inl Z) (show Ì (.ref p) (.ref p)from rfl) (λs2 I2 ⟨a,sb,J⟩=>?_)<|.inr Z;let G:C≠a:=by
  rcases J with rfl|J
  .show u
  .show î<|c _ _ J
 show⟨m,hn.sameBut sb G,λh' T=>Ê<|Ê ?_⟩;show⟨σ.set i<|b3<|.ref p,B,I2.turned (t':=s2.toks) (λb o hb e=>(T.2 b hb).trans e) j u (.inr N) c v,?_⟩;show k U _ B Y R1<|(E.mono Y).set i1 i
abbrev cT:ME:=λ_ x=>b4
abbrev rQ:MT:=λ_ x=>b4
abbrev dQ:MS:=λ_ x=>b4
section
variable{X:Cx}{e a b c o:Expr}{m m1 m2 ma mb mc:ME}{pos:Į}{mt mu:MT}{cH es:List Expr}{ms:MA}{n:Nat}
def cF:QE X e cT:=⟨λDo s σ H Q I h=>by
 let⟨p,q,j,d,i,R,E,g,k⟩:=h;ext g⟩
def yM:QT X e rQ:=⟨λDo s σ H Q I h=>by
 let⟨p,q,j,d,i,R,E,g,k⟩:=h;ext g⟩
def a7Z:QW X e rQ:=⟨λj Do s σ H Q I h=>by
 let⟨q,u,p,d,i,R,E,g,k⟩:=h;ext g⟩
def fT:QS X st dQ:=⟨λDo s σ H D I h=>by
 let⟨q,u,p,j,i,g,R,E,d,k⟩:=h;ext d⟩
def yN(q:∀d p j,g d p j=b4):QG X e g:=⟨λDo s σ H v u Q I r h=>by
 let⟨x,p,j,d,w,R,E,hd,i,k⟩:=h;rw[q]at i;ext i⟩
def rR(h1:QE X e m1)(u:QE X e m2)(h:∀i g r,m i g=b3 r->m1 i g=b3 r\/m2 i g=b3 r):QE X e m:=⟨λDo s σ H Q I q=>by
 let⟨p,i,g,d,j,R,E,v,k⟩:=q;rcases h i g _ v with z|z
 .show h1.h Do s σ H Q I ⟨p,i,g,d,j,R,E,z,k⟩
 .show u.h Do s σ H Q I ⟨p,i,g,d,j,R,E,z,k⟩⟩
def tQ{m m1 m2:MT}(h1:QT X e m1)(u:QT X e m2)(h:∀i g r,m i g=b3 r->m1 i g=b3 r\/m2 i g=b3 r):QT X e m:=⟨λDo s σ H Q I q=>by
 let⟨p,i,g,d,j,R,E,v,k⟩:=q;rcases h i g _ v with z|z
 .show h1.h Do s σ H Q I ⟨p,i,g,d,j,R,E,z,k⟩
 .show u.h Do s σ H Q I ⟨p,i,g,d,j,R,E,z,k⟩⟩
def kQ{f j k:D->D->Hm->jk}(h:∀x y d r,f x y d=b3 r->j x y d=b3 r\/k x y d=b3 r) :
  ∀i d r,aA f ma mb i d=b3 r->aA j ma mb i d=b3 r\/aA k ma mb i d=b3 r:=by
 intro i d r g;show bZ g ?_;clear g;intro p h1 g;show bZ g ?_;clear g;intro q s g;rcases h _ _ _ _ g with z|z
 .show .inl<|Ś.mpr ⟨p,h1,Ś.mpr ⟨q,s,z⟩⟩
 .show .inr<|Ś.mpr ⟨p,h1,Ś.mpr ⟨q,s,z⟩⟩
def tR(h:∀g d r,m g d=b3 r->m1 g d=b3 r\/m2 g d=b3 r):∀g d r,a7 m g d=b3 r->a7 m1 g d=b3 r\/a7 m2 g d=b3 r:=by
 intro g d r i;show bZ i ?_;clear i;intro p h1 i;rcases h _ _ _ h1 with z|z
 .show .inl<|Ś.mpr ⟨p,z,i⟩
 .show .inr<|Ś.mpr ⟨p,z,i⟩
abbrev tS:List D->Option (List Int)
 |[]=>b3 []|.int i::r=>(tS r).map (i::·)|_=>b4
abbrev dR:D->Option (List Int)
 |.tup ds=>tS ds|_=>b4
abbrev a9(kvs:jx)(k:List Int):Option D:=(kvs.find? λp=>decide<|p.1=k).map (·.2)
abbrev cD(kvs:jx)(k:List Int)(d:D):jx:=if(a9 kvs k).isSome then kvs.map (λp=>if p.1=k then(p.1,d)else p)else kvs++[(k,d)]
abbrev bG:D->D->Hm->jk:=λx y g=>match x with
 |.loc a=>match g[a]? with
  |some (.dT kvs)=>(dR y).bind λk=>(a9 kvs k).map λd=>(d,g)|some (.dF kvs)=>(dR y).bind λk=>(a9 kvs k).map λd=>(d,g)|_=>kJ x y g
 |_=>kJ x y g
abbrev vO(kvs:List (bM×D))(mb:ME):ME:=λh g=>(mb h g).bind λp=>(yH p.1).bind λk=>(lO kvs k).map λd=>(d,p.2)
structure ω(X:Cx)(x:Str)(kvs:List (bM×D)):Prop where
 ex:∃(p:Addr)(vs:List (bM×V))(ws:List (bM×Value)),X.mg x=b3 (.ref p)/\(p==ļ)=b5/\(∀h:í,X.K.In h->h.DictOf (jS X.prog X.w) p ws)/\KV vs ws/\∀π n H,ŝ X.K π n H vs kvs
def a7V(T:ω X x kvs)(hg:Gl X x)(hd:(x==("__debug__":Str))=b5)(hb:QE X b mb)(h:rP b=dI):QE X (.Subscript (.Name x p) b pos) (vO kvs mb):=⟨by
 let⟨q,vs,ws,hm,_,U,hv,hk⟩:=T.ex;intro w s σ H Q I hw;let⟨π,ρ,μ,d,μ',R,E,g,k⟩:=hw;show bR g ?_;clear g;intro y j h1 g;show bZ g ?_;clear g;intro L h2 g;show cE g ?_;clear g;intro d' z g;ext g;let N:∀{H':Hp}{Y:Ù},Â X w σ H' Y->Y.TypeIs (.ref q) "dict":=λI'=>(U _ I'.kIn).typeIs;show Fj Ry.lookup (BQ h)<|u5 I hg hm ?_ hd;show aW (hb.h w s σ H _ I ⟨π,ρ,μ,y,_,R,E,h1,λi Z u G B K=>(⟨i,G,B,K⟩:∃i,ò π μ.length H i j.length u/\Rp X.K i u j/\Ú X.K i j.length u Z y)⟩) λiv s2 ⟨Z,u,A,r1,i,G,B,K⟩=>?_;show⟨N A,?_⟩;let ev:=Gg K h2;subst ev;let dd:=U _ A.kIn;rcases(hk i j.length u).val L with⟨O,_⟩|⟨v,d2,O,z2,z3⟩
 .rw[O]at z;ext z
 .rw[O]at z;ext z;let⟨w',J,M⟩:=ŏ.some_of (v:=v) (o:=fC ws L) (by rw[<- z2];show hv.val L);show wpAny_getItem_of (Fh r1) dd.mapOf J ⟨v,u,A.tok _,M,k i v u G B z3⟩⟩
abbrev BX(kvs:List (bM×D))(ma:ME):ME:=λg d=>(ma g d).bind λp=>(yH p.1).map λk=>(.bl (lO kvs k).isSome,p.2)
def a7L(T:ω X x kvs)(hg:Gl X x)(hd:(x==("__debug__":Str))=b5)(ha:QE X a ma):QE X (.Compare a [.In] [.Name x p] pos) (BX kvs ma):=⟨by
 let⟨q,vs,ws,hm,hs,hD,hv,hk⟩:=T.ex;intro A s σ H Q I hw;let⟨N,ρ,M,d,μ',R,E,h,k⟩:=hw;show bR h ?_;clear h;intro y i h1 h;show cE h ?_;clear h;intro u Z h;ext h;show Pq (aW (ha.h A s σ H _ I ⟨N,ρ,M,y,_,R,E,h1,λg J j B z G=>(⟨g,B,z,G⟩:∃g,ò N M.length H g i.length j/\Rp X.K g j i/\Ú X.K g i.length j J y)⟩) λiv s2 ⟨J,j,w,r1,g,B,z,G⟩=>u5 w hg hm ?_ hd) rfl;let Y:=Gg G Z;subst Y;let O:=hD _ w.kIn;show wpAny_in_of (Fh r1) hs O.mapOf ⟨.bl _,j,w.tok _,rfl,?_⟩;let U:(fC ws u).isSome=(lO kvs u).isSome:=by rw[<- (hv.val u).isSome_eq];rcases(hk g i.length j).val u with⟨K,L⟩|⟨v,d2,K,L,z3⟩<;>rw[K,L]<;>rfl
 rw[U];show k g _ j B z<|.bl _⟩
def Gu{σ:St}(I:Â X Do σ H s)(h:X.K.lookup p=b3 ob):H p=none:=(I.bs p ob<|I.mod.kin p ob h).2
def Gv(R:Rp K π H i)(k:g<i.length):∃u,H (π g)=b3 u/\(∀vs,u≠.tup vs)/\∀ob v,(∀j,v≠HO.ext j)->u≠.frz ob v:=by
 cases q:i[g]? with
 |none=>show absurd (χ.mp q) ()|some cl=>
  cases cl with
  |lst d=>let⟨vs,h,_⟩:=R.lst g d q;show⟨_,h,(λ_ z=>nomatch z),λ_ x x z=>nomatch z⟩|dK d=>let⟨vs,h,_⟩:=R.dK g d q;show⟨_,h,(λ_ z=>nomatch z),λ_ x x z=>nomatch z⟩|st d=>let⟨vs,h,_⟩:=R.st g d q;show⟨_,h,(λ_ z=>nomatch z),λ_ x x z=>nomatch z⟩|dT d=>let⟨vs,h,_⟩:=R.dT g d q;show⟨_,h,(λ_ z=>nomatch z),λ_ x x z=>nomatch z⟩|dF d=>let⟨ob,vs,h,_⟩:=R.dF g d q;show⟨_,h,(λ_ z=>nomatch z),λ_ x n z=>n _<|by ext z;rfl⟩
section
variable{Do:jw}{σ:St}{H:Hp}{s:Ù}{π:Nat->Addr}{μ:Hm}
def Gw(I:Â X Do σ H s)(R:Rp X.K π H μ)(j:g<μ.length)(h:å X.K H (π g) vs):False:=by
 let⟨u,d,h1,i⟩:=Gv R j;rcases h with(h|⟨ob,h⟩)|⟨ob,its,n,k,_⟩
 .rw[d]at h;show h1 _<|ē h
 .rw[d]at h;show i _ (.tup vs) (λp z=>nomatch z)<|ē h
 .rw[Gu I k]at d;ext d
def Gx(I:Â X Do σ H s)(R:Rp X.K π H μ)(j:g<μ.length)(h:ak X.K H (π g) vs):False:=by
 let⟨u,d,h1,i⟩:=Gv R j;rcases h with⟨ob,h⟩|⟨ob,its,n,k,_⟩
 .rw[d]at h;show i _ (.lst vs) (λp z=>nomatch z)<|ē h
 .rw[Gu I k]at d;ext d
def Gy(I:Â X Do σ H s)(h:å X.K H p vs)(h':ak X.K H p ws):False:=by let⟨its,_,t,_⟩:=I.tuple h;let⟨d,_,l,_⟩:=I.list h'.sq;show absurd rfl<|oh l.isList t
mutual
theorem BY(I:Â X Do σ H s)(R:Rp X.K π H μ){v:V}{d d':D}:Ú X.K π μ.length H v d->Ú X.K π μ.length H v d'->d=d'
 |.non,h'=>by ext h';rfl
 |.bl _,h'=>by ext h';rfl
 |.int _,h'=>by ext h';rfl
 |.str _,h'=>by ext h';rfl
 |.ty _,h'=>by ext h';rfl
 |.tup h t,h'=>by
  cases h' with
  |tup g i=>have:=I.tuple_inj h g;subst this;rw[BZ I R t i]|rol g i=>show(Gy I h g).elim|loc g=>show(Gw I R g h).elim
 |.rol h t,h'=>by
  cases h' with
  |tup g i=>show(Gy I g h).elim|rol g i=>have:=I.list_inj h.sq g.sq;subst this;rw[BZ I R t i]|loc g=>show(Gx I R g h).elim
 |.loc (a:=a1) ha,h'=>by
  generalize hz:V.ref (π a1)=z at h';cases h' with
  |tup g i=>ext hz;show(Gw I R ha g).elim|rol g i=>ext hz;show(Gx I R ha g).elim|loc g=>have:=R.inj _ _ ha g<|V.ref.inj hz;rw[this]|_=>ext hz
theorem BZ(I:Â X Do σ H s)(R:Rp X.K π H μ){vs:gz}{ds d:List D}:Æ X.K π μ.length H vs ds->Æ X.K π μ.length H vs d->ds=d
 |.nil,h'=>by ext h';rfl
 |.cons h t,h'=>by
  cases h' with
  |cons g i=>rw[BY I R h g,BZ I R t i]
end
end
abbrev pX(a:Hm)(x:D):List D->Option Bool
 |[]=>b3 b5|y::r=>(eL 8 a y x).bind λb=>(pX a x r).map λc=>b||c
abbrev rS(a:Bool):D->D->Hm->jk:=λx y c=>(bO c y).bind λd=>(pX c x d).map λb=>(.bl<|if a then !b else b,c)
abbrev B2(K:Õ)(c:Bool):R2:=λx y H Q=>∃π a d e g b,Rp K π H a/\Ú K π a.length H x d/\Ú K π a.length H y e/\bO a e=b3 g/\pX a d g=b3 b/\Q (.bl<|if c then !b else b) H
def yO{c:Bool}:eK K (rS c) (B2 K c):=by intro e H q x y d n o p Q R h i a k;show bZ a ?_;clear a;intro j h1 a;show cE a ?_;clear a;intro b g a;ext a;show⟨e,_,x,y,j,b,R,h,i,h1,g,k e _ H .refl R<|.bl _⟩
def yP{σ:St}(I:Â X Do σ H s)(R:Rp X.K π H i)(Q:A.units+8<ÿ){n:D}(rx:Ì x v)(Z:Ú X.K π i.length H x n):
  ∀{e}{vs}{us}{b},Æ X.K π i.length H vs e->Å vs us->pX i n e=b3 b->
   ∃g,(∀u∈us,m5 A s u v (g u))/\us.any g=b:=by
 classical
 intro e vs us b hi k a
 let p:∀{e:List D}{vs:gz}{us:gw}{b:Bool},Æ X.K π i.length H vs e->Å vs us->pX i n e=b3 b->(∀u∈us,∃c,m5 A s u v c/\∃w o,Ì w u/\Ú X.K π i.length H w o/\eL 8 i o n=b3 c):=by
  intro e
  induction e with
  |nil=>
   intro vs us b hi k a u d
   ext hi
   ext k
   ext d
  |cons y e J=>
   intro vs us b hi k a u d
   cases hi with
   |cons h t=>
    cases k with
    |cons r rt=>
     show bZ a ?_
     clear a
     intro c h1 a
     show cE a ?_
     clear a
     intro M E a
     rcases ĉ.mp d with rfl|d
     .show⟨c,BF I R 8 Q r rx h Z h1,_,_,r,h,h1⟩
     .show J t rt E u d
 let q:=p hi k a
 show⟨λu=>if h:u∈us then ul (q u h)else b5,λu d=>?_,?_⟩
 .dsimp[dif_pos d]
  show(NP<|q u d).1
 .let key:∀u (h:u∈us) w o c,Ì w u->Ú X.K π i.length H w o->eL 8 i o n=b3 c->ul (q u h)=c:=by
   intro u h w o c K Y L
   let⟨_,w2,N,r2,U,O⟩:=NP<|q u h
   have:w2=w:=r2.inj K
   subst this
   have:=BY I R U Y
   subst this
   rw[O]at L
   show ē L
  let B:∀{e:List D}{vs:gz}{j:gw}{b:Bool},(∀u∈j,u∈us)->Æ X.K π i.length H vs e->Å vs j->pX i n e=b3 b->j.any (λu=>if h:u∈us then ul (q u h)else b5)=b:=by
   intro e
   induction e with
   |nil=>
    intro vs j b G hi k a
    ext hi
    ext k
    ext a
    rfl
   |cons y e J=>
    intro vs j b G hi k a
    cases hi with
    |cons h t=>
     cases k with
     |@cons _ u _ us2 r rt=>
      show bZ a ?_
      clear a
      intro c h1 a
      show cE a ?_
      clear a
      intro M E a
      have iR:u∈us:=G u<|š ..
      rw[OJ,J (λz T=>G z<|Ō _ T) t rt E,dif_pos iR,key u iR _ _ c r h h1]
      show a
  show B (λ_ h=>h) hi k a
def yQ(r:ç k A):A.units+9<ÿ:=by have:=r.un;lia
def Gz(G:X.A.units+9<ÿ):ď X (ĳ .In) (B2 X.K b5):=by
 intro k s N H x y v u Q I j A h;let⟨M,L,B,E,K,b,R,i,z,n,e,q⟩:=h;let⟨p,J,rfl,a,hd⟩:=tL R z n;ext A;rcases a with a|a
 .let⟨its,r,pl,o⟩:=I.list a;let⟨g,c,d⟩:=yP I R (A:=X.A.in1) (by rw[mP];lia) j i hd r e;show SeqAt.in_listAt g pl.isList (λw hw=>c w<|by apply hw) ⟨.bl _,H,I,rfl,?_⟩;rw[show its.toArray.any g=its.any g by simp,d];show q
 .let⟨its,r,pl,o⟩:=I.tuple a;let⟨g,c,d⟩:=yP I R (A:=X.A.in1) (by rw[mP];lia) j i hd r e;show SeqAt.in_tupleAt g pl (λw hw=>c w<|by apply hw) ⟨.bl _,H,I,rfl,?_⟩;rw[show its.toArray.any g=its.any g by simp,d];show q
def GA(G:X.A.units+9<ÿ):ď X (ĳ .NotIn) (B2 X.K dI):=by
 intro k s N H x y v u Q I j A h;let⟨M,L,B,E,K,b,R,i,z,n,e,q⟩:=h;let⟨p,J,rfl,a,hd⟩:=tL R z n;ext A;rcases a with a|a
 .let⟨its,r,pl,o⟩:=I.list a;let⟨g,c,d⟩:=yP I R (A:=X.A.in1) (by rw[mP];lia) j i hd r e;show SeqAt.notIn_listAt g pl.isList (λw hw=>c w<|by apply hw) ⟨.bl _,H,I,rfl,?_⟩;rw[show its.toArray.any g=its.any g by simp,d];show q
 .let⟨its,r,pl,o⟩:=I.tuple a;let⟨g,c,d⟩:=yP I R (A:=X.A.in1) (by rw[mP];lia) j i hd r e;show SeqAt.notIn_tupleAt g pl (λw hw=>c w<|by apply hw) ⟨.bl _,H,I,rfl,?_⟩;rw[show its.toArray.any g=its.any g by simp,d];show q
abbrev eH(b:Bool):D->D->Hm->jk
 |.str i,.str j,μ=>b3 (.bl<|if b then !(!(je j i 0 j.length 1).isEmpty)else !(je j i 0 j.length 1).isEmpty,μ)|x,.loc a,μ=>match μ[a]? with
  |some (.dT kvs)=>(dR x).map λk=>(.bl<|if b then !(a9 kvs k).isSome else(a9 kvs k).isSome,μ)|some (.dF kvs)=>(dR x).map λk=>(.bl<|if b then !(a9 kvs k).isSome else(a9 kvs k).isSome,μ)|_=>rS b x (.loc a) μ
 |x,y,μ=>rS b x y μ
abbrev B3:D->D->Hm->jk
 |.str i,.str j,μ=>b3 (.bl<|!(!(je j i 0 j.length 1).isEmpty),μ)|_,_,_=>b4
def GB:eK K B3 (λx y H Q=>∃i j,x=.str i/\y=.str j/\Q (.bl<|!(!(je j i 0 j.length 1).isEmpty)) H):=by
 intro g H o x y d e h n Q R b c a k;unfold B3 at a;split at a
 .ext a;ext b;ext c;show⟨_,_,rfl,rfl,k g _ H .refl R<|.bl _⟩
 .ext a
abbrev nN(a:Bool):D->D->Hm->jk
 |x,.non,μ=>b3 (.bl<|match x with|.non=>!a|_=>a,μ)|_,_,_=>b4
def GC:eK K (nN b5) (λx y H Q=>y=.non/\Q (.bl<|decide<|x=.non) H):=by
 intro g H j x y d e h i Q R b c a k;unfold nN at a;split at a
 .ext a;ext c;show⟨rfl,?_⟩;ext b<;>show k g _ H .refl R<|.bl _
 .ext a
def GD:eK K (nN dI) (λx y H Q=>y=.non/\Q (.bl<|!decide (x=.non)) H):=by
 intro g H j x y d e h i Q R b c a k;unfold nN at a;split at a
 .ext a;ext c;show⟨rfl,?_⟩;ext b<;>show k g _ H .refl R<|.bl _
 .ext a
def TzI(c:QE X a ma)(d:QE X b mb):QE X (.Compare a [.Is] [b] pos) (aA (nN b5) ma mb):=⟨iM EW GC c.h d.h<|fK _⟩
def TuP(c:QE X a ma)(d:QE X b mb):QE X (.Compare a [.IsNot] [b] pos) (aA (nN dI) ma mb):=⟨iM EX GD c.h d.h<|fK _⟩
def TiV(c:QE X a ma)(d:QE X b mb):QT X (.Compare a [.Is] [b] pos) (a7<|aA (nN b5) ma mb):=⟨iN EW GC c.h d.h<|fK _⟩
def b0Q(c:QE X a ma)(d:QE X b mb):QT X (.Compare a [.IsNot] [b] pos) (a7<|aA (nN dI) ma mb):=⟨iN EX GD c.h d.h<|fK _⟩
end
abbrev rV(d:Hm):D->Bool
 |.rol _=>dI|.loc a=>match d[a]? with|some (.lst _)=>dI|_=>b5
 |_=>b5
abbrev eB(f:D->List D->Hm->jk)(mo:ME)(ms:MA):ME:=λd g=>(mo d g).bind λp=>match rV p.2 p.1 with
 |true=>(ms d p.2).bind λq=>f p.1 q.1 q.2|false=>b4
abbrev mR(K:Õ)(f:D->List D->Hm->jk)(r:V->gz->Hp->VK->Prop):Prop:=
 ∀i H g x k d h v j Q,Rp K i H g->Ú K i g.length H v x->Æ K i g.length H j k->f x k g=b3 (d,h)->KC K Q i g.length H d h->r v j H Q
open _root_ in
def b0O(R:Rp K π H d)(h:Ú K π d.length H v x)(e:rV d x=dI):Bu K "list" v H:=by
 cases h with
 |rol h t=>show .inl ⟨rfl,_,h.sq⟩|@loc a k=>
  dsimp[rV]at e;split at e
  .rename_i j g;let⟨i,h1,_⟩:=R.lst a j g;show .inl ⟨rfl,i,.of h1⟩
  .ext e
 |_=>ext e
open _root_ in
def b0N(G:mR K f r):∀σ H Q,tM K (eB f mo ms) σ H Q->Fu K "list" r (tM K mo) (Ε K ms) σ H Q:=by
 rintro σ H Q ⟨O,z,N,d,j,R,E,g,k⟩;show bR g ?_;clear g;intro x h h1 g;dsimp at g;split at g
 .rename_i I;show bR g ?_;clear g;intro y i B g;show⟨O,z,N,x,h,R,E,h1,λp L T u s w=>⟨b0O s w I,p,z,h,y,i,s,E.mono u,B,λq M A v R2 J=>?_⟩⟩;show G q A i x y d j L M Q R2 (w.mono v) J g<|k.after<|u.trans v
 .ext g
abbrev lQ:Expr->Bool
 |.Call (.Name _ _) [] [] _=>b5|_=>dI
def pY(h:lQ o=dI):gk o i env d=d:=by
 cases o with
 |Call f g j p=>
  cases f with
  |Name id q=>
   cases g with
   |nil=>
    cases j with
    |nil=>ext h|cons _ _=>rfl
   |cons _ _=>rfl
  |_=>rfl
 |_=>rfl
def GF(h:(e::es).all fF=dI)(g:(e::es).length<30):
  ((ŕ cpos (ý (e::es) env)).all (λx=>!x.1)&&(kj cpos (m7 [] env)).all (λx=>x.1.isSome)
   && decide ((e::es).length+([]:List Φ).length+(if([]:List Φ).isEmpty then 0 else 1)<30))=true:=by
 let h1:(ŕ cpos (ý (e::es) env)).all (λx=>!x.1)=true:=by have:=rO (pos:=cpos) (env:=env) h;rw[List.all_eq_not_any_not];apply this
 rw[h1];let d:(e::es).length+([]:List Φ).length+(if([]:List Φ).isEmpty then 0 else 1)<30:=by change(e::es).length+0+0<30;lia
 rw[decide_eq_true d];rfl
def yR{id:String}(h:Slot "list" name id)(i:M3 (.builtin id)=pure (.type "method_descriptor"))(q:nH X id r)(k:mR X.K f r)(u:QE X o mo)(j:QA X (e::es) ms n)(v:lQ o=dI)(p:(apos.endLine==cpos.line)=dI)(s:(e::es).length<30):QE X (.Call (.Attribute o name apos) (e::es) [] cpos) (eB f mo ms):=by
 let g:=j.s;let d:=g;rw[ō,ð]at d;show⟨eP (b0q PySem.F.plainAttrs_list h i q u.h j.h (pY v) (GF g s) p (iF d.1)<|rO d.2)<|b0N k⟩
abbrev eZ:D->List D->Hm->jk
 |.loc a,[y],μ=>(tJ μ a y).map λd=>(.non,d)|_,_,_=>b4
abbrev oT:D->List D->Hm->jk
 |.loc a,[.loc b],μ=>match μ[a]?,μ[b]? with
  |some<|.lst xs,b3 (.lst ys)=>if xs.length+ys.length<=Ñ then b3 (.non,μ.set a<|.lst<|xs++ys)else b4|_,_=>b4
 |_,_,_=>b4
def b0L(h:Æ K π n H vs ds):Æ K π n H vs.reverse ds.reverse:=by
 induction ds generalizing vs with
 |nil=>ext h;show .nil|cons d ds g=>
  cases h with
  |cons h t=>rw[zb,zb];show(g t).append<|.cons h .nil
open _root_ in
def b0K:mR K eZ Fw:=by
 intro J H N x M d G v L Q R B h g k;unfold eZ at g;split at g
 .rename_i a y;show cE g ?_;clear g;intro I h1 g;ext g;unfold tJ at h1;split at h1
  .rename_i s q;split at h1
   .rename_i z;ext h1;let⟨i,j,p⟩:=R.lst a s q;ext B;cases h with
    |cons E A=>ext A;let⟨w,u⟩:=R.put (a:=a) (c:=.lst (s++[y])) (o:=.lst (i++[_])) (â.mp q).1 j (.inl ⟨i,rfl⟩)<|p.append<|.cons E .nil;show⟨_,i,_,rfl,rfl,j,by rw[p.length];show z,k J _ _ w u .non⟩
   .ext h1
  .ext h1
 .ext g
open _root_ in
def b0G:mR K oT Fy:=by
 intro N H U x T d M v O Q R J h g k;unfold oT at g;split at g
 .rename_i a b;split at g
  .rename_i y w s G;split at g
   .rename_i E;ext g;let⟨i,j,p⟩:=R.lst a y s;let⟨u,B,q⟩:=R.lst b w G;ext J;cases h with
    |cons L I=>ext I;ext L;let⟨A,z⟩:=R.put (a:=a) (c:=.lst (y++w)) (o:=.lst (i++u)) (â.mp s).1 j (.inl ⟨i,rfl⟩)<|p.append q;show⟨_,_,i,u,rfl,rfl,j,B,by rw[p.length,q.length];show E,k N _ _ A z .non⟩
   .ext g
  .ext g
 .ext g
abbrev pZ:D->List D->Hm->jk
 |.loc a,[.int i],μ=>match μ[a]? with
  |some (.lst xs)=>if 0<=i/\i<2^62 then(xs[i.toNat]?).map λy=>(y,μ.set a<|.lst<|xs.eraseIdx i.toNat)else b4|_=>b4
 |_,_,_=>b4
def b0F(h:Æ K π n H vs ds)k:Æ K π n H (vs.eraseIdx k) (ds.eraseIdx k):=by rw[SX,SX];show(h.take k).append<|h.drop<|k+1
def b0E(h0:0<=i)(h:i.toNat<n):yp i n=b3 i.toNat:=by let e:(if i<0 then i+(n:Int)else i)=i:=if_neg ();ext yp;dsimp;rw[e,if_pos<|by rw[ð,decide_eq_true_iff,decide_eq_true_iff];lia]
open _root_ in
def b0D:mR K pZ Fz:=by
 intro M H T x O d L v N Q R I h g k;unfold pZ at g;split at g
 .split at g
  .rename_i z u;split at g
   .rename_i E;show cE g ?_;clear g;intro y h1 g;ext g;let⟨i,p,q⟩:=R.lst _ z u;ext I;cases h with
    |cons G J=>ext G;ext J;let⟨w,s,B⟩:=q.get h1;let⟨j,A⟩:=R.put (c:=.lst (z.eraseIdx _)) (o:=.lst (i.eraseIdx _)) (â.mp u).1 p (.inl ⟨i,rfl⟩)<|b0F q _;let hw:=(â.mp s).1;show⟨_,i,_,_,w,rfl,rfl,p,(),(),b0E E.1 hw,s,k M w _ j A<|B.mono j⟩
   .ext g
  .ext g
 .ext g
abbrev nO(d:Hm):D->Option Bool
 |.non=>b3 b5|.bl b=>b3 b|.int i=>b3 (i != 0)|.str z=>if z.length<=Ñ then b3 ((z.length:Int) != 0)else b4|.tup xs=>b3 (!xs.isEmpty)|.rol xs=>b3 (!xs.isEmpty)|.loc a=>match d[a]? with|some (.lst xs)=>b3 (!xs.isEmpty)|some (.dK kvs)=>b3 (!kvs.isEmpty)|_=>b4
 |.ty _=>b4
def yS{g i:Type}{xs:List g}{d:List i}(h:xs.length=d.length):xs.isEmpty=d.isEmpty:=by ext xs<;>ext d<;>first|rfl|ext h
open _root_ in
def b0C(R:Rp K π H p)(h:Ú K π p.length H v x)(e:nO p x=b3 b):Bn K v H b:=by
 cases h with
 |non=>ext e;rfl|bl c=>ext e;rfl|int i=>ext e;rfl|str z=>
  dsimp[nO]at e;split at e
  .rename_i q;ext e;show⟨q,rfl⟩
  .ext e
 |tup h t=>ext e;show .inr (.inl ⟨_,h,by rw[yS t.length]⟩)|rol h t=>ext e;show .inl ⟨_,h.sq,by rw[yS t.length]⟩|@loc a u=>
  dsimp[nO]at e;split at e
  .rename_i s g;ext e;let⟨k,h1,d⟩:=R.lst a s g;show .inl ⟨k,.of h1,by rw[yS d.length]⟩
  .rename_i j g;ext e;let⟨k,h1,d,_⟩:=R.dK a j g;show .inr<|.inr ⟨k,h1,?_⟩;have:=congrArg Ĭ d;rw[Ã,Ã]at this;rw[yS this]
  .ext e
 |ty n=>ext e
abbrev c9(m:ME):MT:=λg d=>(m g d).bind λp=>(nO p.2 p.1).map λb=>(b,p.2)
def b0B(h:QE X e m)(s:BR e=dI):QT X e (c9 m):=⟨xX (a8r h.h<|b2V s)<|by
 rintro I H Q ⟨z,A,v,b,w,R,E,d,k⟩;show bR d ?_;clear d;intro x y h1 d;show cE d ?_;clear d;intro B q d;ext d;show⟨z,A,v,x,_,R,E,h1,λg G j p i u=>⟨_,b0C i u q,k g j p i⟩⟩⟩
def b0A(F:ķ X.prog X.w X.K X.mg X.base i8 k f j ps (mK X.K 0 q))(w:ç k X.A)(g:X.mg x=b3 (.ref f))(v:ϳ X.K (.ref f)=dI)(s:ĥ X.K j ps [])(u:Gl X x)(h:(x==("__debug__":Str))=b5):QE X (.Call (.Name x p) [] [] pos) (bJ q aG):=
 ⟨eP (a9u F w u g v s .nil (E:=E0) FE h)<|by
  rintro I H Q ⟨A,G,y,d,i,R,E,g,k⟩;show bR g ?_;clear g;intro B z h1 g;ext h1;show⟨rfl,A,[],y,d,i,R,.nil,g,k⟩⟩
abbrev rW(c:MT)(b:MS):Nat->MS
 |0,_,_=>b4|n+1,ρ,μ=>(c ρ μ).bind λp=>match p.1 with
  |false=>b3 (.nx,ρ,p.2)|true=>(b ρ p.2).bind λq=>match q.1 with
   |.nx=>rW c b n q.2.1 q.2.2|.ct=>rW c b n q.2.1 q.2.2|.bk=>b3 (.nx,q.2.1,q.2.2)|.rt d=>b3 (.rt d,q.2.1,q.2.2)
abbrev tT(n:Nat)(c:MT)(b:MS):MS:=rW c b n
def a9f{mt:MT}n(hc:QT X c mt)(hb:QB X body mb)(hp:yf (Í X.prog X.w) X.A X.env X.xe):QS X (.While c body [] pos) (tT n mt mb):=⟨nI (a8J hp hc.h hb.h)<|by
 rintro E σ H ⟨π,ρ,Z,U,I,B,R,EN,hm,k⟩;let s:∀{h:Nat->Addr}{n2:Nat}{H2:Hp}(e:ò π Z.length H h n2 H2),rG X.K E h n2 H2 U I B:=λ{h n2 H2} e=>by
  cases U with
  |nx=>show λi v A j z L=>k i v A (e.trans j) z L|bk=>show λi v A j z L=>k i v A (e.trans j) z L|ct=>show λi v A j z L=>k i v A (e.trans j) z L|rt d=>show KC.after k e
 show⟨λm x y=>∃h p u,ò π Z.length H h p.length y/\Rp X.K h y p/\En X.K h p.length y x u/\rW mt mb m u p=b3 (U,I,B),⟨n,π,Z,ρ,.refl,R,EN,hm⟩,?_⟩;rintro m σ1 H1 ⟨h,p,u,O,R2,E2,h2⟩;cases m with
 |zero=>ext h2|succ m=>
  show bR h2 ?_;clear h2;intro b T h3 h4;show⟨h,u,p,b,T,R2,E2,h3,λi A j z=>?_⟩;cases b with
  |false=>show pT ?_;ext h4;show s O i σ1 A j z (E2.mono j)|true=>
   show pU ?_;obtain⟨⟨f4,J,G⟩,h5,Y⟩:=Ś.mp h4;show⟨λx y=>∃g w q,ò π Z.length H g q.length y/\Rp X.K g y q/\En X.K g q.length y x w/\rW mt mb m w q=b3 (U,I,B),
    λx y ⟨g,w,q,a1,a2,a3,a4⟩=>⟨m,Ϧ _,g,q,w,a1,a2,a3,a4⟩,i,u,T,f4,J,G,z,E2.mono j,h5,?_⟩
   cases f4 with
   |nx=>show λg K H5 Q N M=>⟨g,J,G,(O.trans j).trans Q,N,M,Y⟩|ct=>show λg K H5 Q N M=>⟨g,J,G,(O.trans j).trans Q,N,M,Y⟩|bk=>ext Y;show λg K H5 Q N M=>s (O.trans j) g K H5 Q N M|rt d'=>
    ext Y;show s<|O.trans j⟩
def a9a:QS X (.Return b4 pos) (aM<|mC .non):=⟨nI a8j<|by
 rintro E u H ⟨h,s,q,p,i,g,R,j,d,k⟩;ext d;show k h .non H .refl R .non⟩
abbrev tU:List D->Option (List Bool)
 |[]=>b3 []|.bl b::r=>(tU r).map (b::·)|_=>b4
abbrev yT:MF:=λds a=>match ds with
 |[x]=>(bO a x).bind λb=>(tU b).map λbs=>(.bl<|bs.all id,a)|_=>b4
def GG:∀{xs}{vs}{bs},Æ K π n H vs xs->tU xs=b3 bs->vs=bs.map V.bl
 |[],_,bs,h,e=>by ext h;ext e;rfl
 |x::xs,vs,bs,h,e=>by
  cases h with
  |cons h t=>
   cases x with
   |bl b=>show cE e ?_;clear e;intro a h1 c;subst c;ext h;rw[GG t h1];rfl|_=>ext e
abbrev GH(K:Õ)(g:List Bool->Bool):gz->Hp->VK->Prop:=λxs H Q=>∃p bs,xs=[.ref p]/\(Ą K H p (bs.map V.bl)\/å K H p (bs.map V.bl))/\Q (.bl<|g bs) H
def a9V{f:MF}(e:f=λds b=>match ds with|[x]=>(bO b x).bind λxs=>(tU xs).map λbs=>(.bl<|g bs,b)|_=>b4):eY K f (GH K g):=by
 subst e;intro j H b xs d h n Q R i a k;dsimp at a;split at a
 .let⟨s,h1,a⟩:=Ś.mp a;show cE a ?_;clear a;intro bs c a;ext a;cases i with
  |cons i t=>ext t;let⟨p,o,rfl,q,hd⟩:=tL R i h1;have:=GG hd c;subst this;show⟨p,bs,rfl,q,k j _ H .refl R<|.bl _⟩
 .ext a
def GJ{bs:List Bool}(a:n=bs.length):(Ā n).all (λi=>bs.getD i b5)=bs.all id:=by
 subst a;induction bs with
 |nil=>rfl|cons b bs c=>rw[ņ,RV,ō,OC,ō,<- c];rfl
def GK{bs:List Bool}(r:Å (bs.map V.bl) its):TruthOf prog w A (λi v=>its.toArray[i]?=b3 v) (λi=>bs.getD i b5):=by
 intro i v s Q E d b;let a:its[i]?=b3 v:=by apply d
 let hi:i<bs.length:=by have:=(â.mp a).1;have:=r.length;rw[Ã]at this;lia
 let⟨u,h1,c⟩:=r.get (i:=i) (x:=.bl bs[i]) (by rw[ú,ü hi];rfl);rw[a]at h1;ext h1;ext c;let e:bs.getD i b5=bs[i]:=by simp[ĩ,hi]
 dsimp at b;rw[e]at b;show Ϲ b
def a9N(hc:X.calm=dI):Ü X (.builtin "all") (GH X.K (·.all id)):=by
 intro x s G H E B Q I r h;let⟨p,bs,rfl,d,q⟩:=h;let⟨u,rfl,A⟩:=gU r;ext A;let w:X.A.in1.handled=none:=I.ok.hd hc;rcases d with d|d
 .let⟨its,g,pl,z⟩:=I.list d;show call_all_walk<|uz pl.isList ?_;let c:p≠s.heap.objs.size:=by let⟨o,k,_⟩:=pl.isList;show û<|Ý k
  show⟨s.heap.objs.size,_,_,_,_,_,λi=>bs.getD i b5,rfl,OK w _ p c its.toArray,⟨⟨_,ć _ rfl,rfl,rfl⟩,pl.isList.push _⟩,GK g,λy v n=>?_⟩;let a:its.toArray.size=bs.length:=by rw[ğ,<- g.length,Ã]
  show⟨.bl _,H,I.kept (t':=v) λb o e=>n b o ?_<|ß _ e,rfl,?_⟩
  .intro j;have:b=s.heap.objs.size:=by apply j
   show û (Ý e) this
  .rw[GJ a];show q
 .let⟨its,g,pl,z⟩:=I.tuple d;show call_all_walk<|um (show s.heap.IsTuple p its.toArray from pl) ?_;let c:p≠s.heap.objs.size:=by let⟨o,k,_⟩:=pl;show û<|Ý k
  show⟨s.heap.objs.size,_,_,_,_,_,λi=>bs.getD i b5,rfl,OQ w _ p c its.toArray,⟨⟨_,ć _ rfl,rfl,rfl⟩,Sj pl _⟩,GK g,λy v n=>?_⟩;let a:its.toArray.size=bs.length:=by rw[ğ,<- g.length,Ã]
  show⟨.bl _,H,I.kept (t':=v) λb o e=>n b o ?_<|ß _ e,rfl,?_⟩
  .intro j;have:b=s.heap.objs.size:=by apply j
   show û (Ý e) this
  .rw[GJ a];show q
open PyProof.Rows (IntsAre)
open PySem.W (KasT kas_asc kas_desc kas_tail3 kas_descPart kas_count kas_place kas_bin kas_sort kas_rev kas_ask)
abbrev lR(ans:Nat->Nat->Bool):KasT b->b
 |.ret a=>a|.ask i j k=>lR ans<|k<|ans i j
abbrev Ŋ(n:Nat)(R:c->Prop):KasT c->Prop
 |.ret a=>R a|.ask i j k=>i<n/\j<n/\∀b,Ŋ n R (k b)
def Ŋ.bind{R:c->Prop}{R':e->Prop}{f:c->KasT e}(d:∀a,R a->Ŋ n R' (f a)):∀{t},Ŋ n R t->Ŋ n R' (t.bind f)
 |.ret a,q=>d a q|.ask i j k,q=>⟨q.1,q.2.1,λb=>Ŋ.bind d<|q.2.2 b⟩
def GL{R:c->Prop}(hc:∀i j (C:Bool->Ù->Prop),i<n->j<n->C (ans i j) s->b i j C s){Q:c->Ù->Prop}:
  ∀{t},Ŋ n R t->Q (lR ans t) s->t.kasWp b Q s
 |.ret a,_,q=>q|.ask i j k,h,q=>hc i j _ h.1 h.2.1<|GL hc (h.2.2 _) q
def GN{R:b->Prop}:∀{t},Ŋ n R t->R (lR ans t)
 |.ret a,q=>q|.ask i j k,h=>GN (t:=k (ans i j))<|h.2.2 _
abbrev Ď(n:Nat)(p:Array Nat):Prop:=p.Perm (Ā n).toArray
def Ď.lt{n:Nat}{p:Array Nat}(h:Ď n p)(h0:0<n)(i:Nat):p.getD i 0<n:=by
 by_cases hi:i<p.size
 .let e:p.getD i 0=p[i]:=by simp[rT,hi]
  rw[e];let b:p[i]∈p:=Array.getElem_mem hi;let a:p[i]∈(Ā n).toArray:=h.mem_iff.mp b;apply a
 .let e:p.getD i 0=0:=by simp[rT,hi]
  rw[e];show h0
def Ď.rev(h:Ď n p)i j:Ď n (jy p i j):=(b4H _ _ _ _).trans h
def Ď.bub(h:Ď n p)i j:Ď n (b4O p i j):=(b4N _ _ _).trans h
def B4(h:Ď n p)(h0:0<n):∀f m,Ŋ n (λ_=>True) (kas_asc p f m)
 |0,m=>trivial
 |f+1,m=>⟨h.lt h0 _,h.lt h0 _,λb=>by
   cases b with
   |true=>show trivial
   |false=>show B4 h h0 f<|m+1⟩
def yU(h0:0<n):∀f p m q,Ď n p->Ŋ n (λr=>Ď n r.1) (Nq f p m q)
 |0,p,m,q,h=>h
 |f+1,p,m,q,h=>⟨h.lt h0 _,h.lt h0 _,λb=>by
   cases b with
   |true=>
    change Ŋ n _ (if q>0 then Nq f (jy p (m-(q+1)) m) (m+1) 0 else Nq f p (m+1) 0);split
    .show yU h0 f _ _ _<|h.rev _ _
    .show yU h0 f _ _ _ h
   |false=>
    show⟨h.lt h0 _,h.lt h0 _,λd=>?_⟩;cases d with
    |true=>show h
    |false=>show yU h0 f _ _ _ h⟩
def GO(h0:0<n)(h:Ď n p)a r:Ŋ n (λr=>Ď n r.2) (MB a r p):=
 by
 let b:Ď n (jy p 0 a):=h.rev 0 a;ext MB;show Ŋ.bind (R:=λ_=>True) (λm x=>?_)<|B4 b h0 _ _;show b
def GP(h0:0<n)(h:Ď n p)a r:Ŋ n (λr=>Ď n r.2) (O7 a r p):=
 Ŋ.bind (λq b=>by
  change Ŋ n _ (if q.2.2>0 then MB q.2.1 r (jy q.1 (q.2.1-(q.2.2+1)) q.2.1)else MB q.2.1 r q.1);split
  .show GO h0 (b.rev _ _) _ _
  .show GO h0 b _ _)<|yU h0 _ _ _ _ h
def a9I(h0:0<n)(h:Ď n p)r:Ŋ n (λr=>Ď n r.2) (kas_count r p):=
 Ŋ.bind (λm x=>by
  change Ŋ n _ (if(m==r)=dI then yg (m,p)else if m>1 then KasT.ask (p.getD 0 0) (p.getD (m-1) 0) (λc=>if c=dI then yg (m,p)else O7 m r (jy p 0 m))else O7 m r p);split
  .show h
  .split
   .show⟨h.lt h0 _,h.lt h0 _,λb=>?_⟩;cases b with
    |true=>show h|false=>show GP h0 (h.rev _ _) _ _
   .show GP h0 h _ _)<|B4 h h0 _ _
def B5(h:Ď n p)(h0:0<n)k:∀f l r,Ŋ n (λ_=>True) (Nv p k f l r)
 |0,l,r=>trivial|f+1,l,r=>by
  change Ŋ n _ (if l >= r then yg l else KasT.ask (p.getD k 0) (p.getD ((l+r)/2) 0) λc=>if c=dI then Nv p k f l ((l+r)/2)else Nv p k f ((l+r)/2+1) r);split
  .show trivial
  .show⟨h.lt h0 _,h.lt h0 _,λb=>?_⟩;cases b with
   |true=>show B5 h h0 k f _ _|false=>show B5 h h0 k f _ _
def GQ(h0:0<n):∀f p k,Ď n p->Ŋ n (Ď n) (kas_bin f p k)
 |0,p,k,h=>h|f+1,p,k,h=>Ŋ.bind (λl x=>GQ h0 f _ _<|h.bub _ _)<|B5 h h0 k _ _ _
def tV(h0:0<n):Ŋ n (Ď n) (kas_sort n):=
 Ŋ.bind (λr a=>by
  change Ŋ n _ (if r.1<n then kas_bin (n-max r.1 1) r.2 (max r.1 1)else yg r.2);split
  .show GQ h0 _ _ _ a
  .show a)<|a9I h0 (Array.Perm.refl _) n
abbrev c6(lt:Nat->Nat->Bool)(n:Nat):List Nat:=(lR lt<|kas_sort n).toList
def B6 lt(h0:0<n):(c6 lt n).Perm (Ā n):=by let h:Ď n (lR lt<|kas_sort n):=GN<|tV h0;have:=Array.perm_iff_toList_perm.mp h;simpa[c6]using this
def GR:∀{us vs:gw}{ns b}i,ų us ns->ų vs b->Q (HT.lexLt ns b) s->
  PySem.W.KatLex prog w A dI (decide<|us.length<vs.length) Q (us.zip vs) i s
 |_,_,_,_,i,.nil,.nil,h=>by show h
 |_,_,_,_,i,.nil,.cons c u hv,h=>by change Q (decide<|0<_+1) s;rw[decide_eq_true<|Q0 _];show h
 |_,_,_,_,i,.cons a t hu,.nil,h=>by change Q (decide<|_+1<0) s;rw[decide_eq_false<|NL _];show h
 |_,_,_,_,i,.cons (vs:=us) (ns:=ns) a t hu,.cons (vs:=vs) (ns:=b) c u hv,h=>by
  rw[HT.lexLt_cons]at h;show PySem.W.kat_cons<|RZ a t c u prog w _ _ ?_;by_cases e:a=c
  .subst e;rw[if_pos rfl]at h;rw[beq_self_eq_true];show PySem.W.kat_yes ?_;have:=GR (prog:=prog) (w:=w) (A:=A) (s:=s) (Q:=Q) (i+1) hu hv h;let g:decide ((Ġ a t::us).length<(Ġ a u::vs).length)=decide (us.length<vs.length):=∅
   rw[g];show this
  .rw[if_neg e]at h;let d:(a==c)=false:=by apply e
   rw[d];show PySem.W.kat_no ?_;cases hi:(dI&&i==0)with
   |true=>show b4F h|false=>show PySem.W.kat_one _ _<|SN h
section
open PyProof.Rows
def B7{us:gw}(h:us.length<2)(g:s.heap.get? c=b3 (Ė "list" us.toArray z))(q:R (.done<|.ret .none) {s with heap:=yl s.heap c us us.toArray}):
  È (Í prog w) A (Builtin.«list.sort» ⟨[.ref c],[]⟩) R E s:=by
 rw[Pt];let lt:c<s.heap.objs.size:=Ý g;show Á<|listItems_at g rfl<|Á<|N1 g rfl ?_;obtain⟨y,d⟩:∃y,(s.heap.update c<|a4F λ_=>#[]).get? c=b3 (Ė "list" #[] y):=⟨_,QD g _⟩;show Á<|MJ d rfl<|Á<|MX<|Á<|ug<|Ŀ ?_;let e:(((s.heap.update c<|a4F λ_=>#[]).push<|Ė "tuple" us.toArray 0).push<|Ė "list" #[] 0).get? c=b3 (Ė "list" #[] y):=
  ß _<|ß _ d
 change È (Í prog w) A _ R E ⟨((s.heap.update c<|a4F λ_=>#[]).push<|Ė "tuple" us.toArray 0).push<|Ė "list" #[] 0,s.gens,s.drawn,s.toks,s.os⟩;dsimp;let a:us.toArray.size<2:=by apply h
 rw[if_pos a,if_pos a];show Á<|Ê ?_;rw[StateT.run_pure];show Á<|Ê ?_;dsimp;let b:Pr (λx=>x.2) (arrOf<|SortSt.mk' general' (us.toArray.zip us.toArray) #[] 7 b4)=us.toArray:=by change Pr (λx=>x.2) (us.toArray.zip us.toArray)=us.toArray;show Array.ext ∅ λi h1 j=>∅
 show Á (MJ e rfl<|Á<|N1 e rfl ?_ (hsz2:=by rw[b,ï];lia));rw[b];dsimp[bne_self_eq_false,Ň,if_false];show Ê q
end
def B8 lt:c6 lt 1=[0]:=rfl
def yV lt:c6 lt 0=[]:=rfl
def jV lt n:(c6 lt n).Perm (Ā n):=by
 cases n with
 |zero=>rw[yV];show .nil|succ n=>show B6 lt<|Q0 n
def b0j(h:Å (ns.map V.int) us):ų us ns:=xS h
end L3
namespace L3
open PySem PySem.Spec
namespace Tb
noncomputable abbrev IsT(prog:Ť)(w:į)(h:í)(k:List Int)(b:Addr):Prop:=IsTupleKey (Ŵ prog w) h k b
noncomputable abbrev jC(a:Bool):Obj:={cls:=.type "set",dict:=b4,data:=.set #[] 0<|.fresh 0 0 a}
end Tb
end L3
namespace L3
open PySem L2
open PyProof.Rows (IntsAre)
def B9:∀{ds}{k},tS ds=b3 k->ds=k.map D.int
 |[],k,h=>by ext h;rfl
 |d::ds,k,h=>by
  cases d with
  |int i=>show cE h ?_;clear h;intro b h1 a;subst a;rw[B9 h1];rfl|_=>ext h
def vP(h:dR x=b3 k):x=.tup (k.map D.int):=by
 cases x with
 |tup ds=>rw[B9 h]|_=>ext h
abbrev eX(b:Hm):D->Option (List D)
 |.rol xs=>b3 xs|.loc a=>match b[a]? with
  |some (.lst xs)=>b3 xs|_=>b4
 |_=>b4
open _root_ in
def rX(R:Rp K π H μ)(h:Ú K π μ.length H v x)(e:eX μ x=b3 xs):∃p vs,v=.ref p/\Ą K H p vs/\Æ K π μ.length H vs xs:=by
 cases h with
 |rol q t=>ext e;show⟨_,_,rfl,q.sq,t⟩|@loc a g=>
  dsimp[eX]at e;split at e
  .rename_i i d;ext e;let⟨vs,b,c⟩:=R.lst a xs d;show⟨_,vs,rfl,.of b,c⟩
  .ext e
 |_=>ext e
def Ģ:∀{vs}{k:List Int},Æ K π n H vs (k.map D.int)->vs=k.map V.int
 |_,[],h=>by ext h;rfl
 |_,i::k,h=>by
  cases h with
  |cons h t=>ext h;rw[Ģ t];rfl
def Ca:∀(k:List Int),Æ K π n H (k.map V.int) (k.map D.int)
 |[]=>.nil|i::k=>.cons (.int i)<|Ca k
def GS{X:Cx}:∀{k}{xs},Å (k.map V.int) xs->ItemsAre (Ŵ X.prog X.w) k xs
 |[],_,h=>by ext h;show .nil
 |i::k,_,h=>by
  cases h with
  |cons h t=>let⟨a,rfl⟩:=h;show .cons (intKind_is _ _ _ _)<|GS t
def nP{σ:St}(I:Â X Do σ H s)(h:å X.K H b (k.map V.int)):Tb.IsT X.prog X.w s.heap k b:=by obtain⟨g,a,⟨ob,e,c,n,d⟩,_⟩:=I.tuple h;show⟨ob,g.toArray,n,e,c,d,by apply GS a⟩
def ό:Ü X (.builtin "len") (λxs H Q=>∃a L,xs=[V.ref a]/\H a=b3 (xV a L)/\Q (.int L.length) H):=by
 intro Do s σ H xs B Q I r h;let⟨a,L,rfl,e,q⟩:=h;let⟨u,rfl,z⟩:=gU r;ext z;obtain⟨⟨o,v,y,d,A,t,R,c,hd,g,ok,w,p,k,i,x,j⟩,_,_⟩:=I.hok a _ e;let b:d.size=L.length:=by have:=w.length_eq;apply this
 let n:t.mask<=511:=by rcases k with h|h|h|h<;>lia
 show call_len_set v c hd (Tb.fits_of ok g) (by rw[b];lia) ?_;rw[b];show⟨.int L.length,H,I.tok _,⟨_,rfl⟩,q⟩
end L3
namespace L3
open PySem L2
def GU:∀{vs}{xs}i,Æ K π n H vs xs->Ú K π n H (vs.getD i .non) (xs.getD i .non)
 |_,_,i,.nil=>by simp;show .non
 |_,_,0,.cons h _=>h|_,_,i+1,.cons _ t=>by apply GU i t
def GV(h:Æ K π n H vs xs):∀(l:List Nat),Æ K π n H (l.map λi=>vs.getD i .non) (l.map λi=>xs.getD i .non)
 |[]=>.nil|i::l=>.cons (GU i h)<|GV h l
open PyProof.Rows (IntsAre Fr News seqObj)
def vQ:∀a,HT.lexLt a a=b5
 |[]=>rfl|x::a=>by rw[HT.lexLt_cons,if_pos rfl];show vQ a
def vT:∀{a b c},HT.lexLt a b=dI->HT.lexLt b c=dI->HT.lexLt a c=dI
 |_,[],[],_,h=>absurd h (by intro z;ext z)|_,_::_,[],_,h=>absurd h (by intro z;ext z)|[],_,_::_,_,_=>rfl|_::_,[],_::_,h,_=>absurd h (by intro z;ext z)|x::a,y::b,z::c,h1,h2=>by
  rw[HT.lexLt_cons]at h1 h2 ⊢;by_cases e:x=y
  .subst e;rw[if_pos rfl]at h1;by_cases d:x=z
   .subst d;rw[if_pos rfl]at h2 ⊢;show vT h1 h2
   .rw[if_neg d]at h2 ⊢;show h2
  .rw[if_neg e]at h1;by_cases d:y=z
   .subst d;rw[if_neg e];show h1
   .rw[if_neg d]at h2;rw[decide_eq_true_eq]at h1 h2;rw[if_neg (),decide_eq_true_eq];lia
end L3
namespace L3
open PySem
open PySem.W (KasT kas_asc kas_desc kas_tail3 kas_descPart kas_count kas_place kas_bin kas_sort kas_rev)
open PyProof.Rows (mirror bubble getElem?_bubble getElem?_mirror_all mirror_size bubble_size)
section
variable{ans:Nat->Nat->Bool}{κ:Nat->Nat}(hk:∀i j,ans i j=decide (κ i<κ j))
abbrev gK(κ:Nat->Nat)(p:Array Nat)(k:Nat):Nat:=κ<|p.getD k 0
def GW{p q:Array Nat}(h:p[k]?=q[m]?):p.getD k 0=q.getD m 0:=by
 let e:∀(a:Array Nat)(i:Nat),a.getD i 0=(a[i]?).getD 0:=λa i=>by
  by_cases hi:i<a.size
  .simp[rT,hi]
  .simp[rT,hi]
 rw[e,e,h]
def b0c(a:j<=p.size)k:gK κ (jy p i j) k=if i<=k/\k<j then gK κ p (i+j-1-k)else gK κ p k:=by
 let h:=getElem?_mirror_all (i:=i) a k;by_cases c:i<=k/\k<j
 .rw[if_pos c]at h ⊢;show congrArg κ<|GW h
 .rw[if_neg c]at h ⊢;show congrArg κ<|GW h
structure Β(κ:Nat->Nat)(p:Array Nat)(n q:Nat):Prop where
 fall:∀i j,i<=j->j<n->gK κ p j<=gK κ p i
 alike:∀k,n-1-q<=k->k<n->gK κ p k=gK κ p (n-1)
 qn:q<n
open _root_ in
def Β.rev(F:Β κ p n q)(a:n<=p.size):∀k,gK κ (jy p (n-(q+1)) n) k=gK κ p k:=λk=>by
 rw[b0c a];split
 .rename_i c;have:=F.qn;rw[F.alike (n-(q+1)+n-1-k) () (),F.alike k () c.2]
 .rfl
def Β.same(F:Β κ p n q)(h:∀k,gK κ b k=gK κ p k):Β κ b n q:=
 ⟨λi j h1 a=>by rw[h,h];show F.fall i j h1 a,λk h1 a=>by rw[h,h];show F.alike k h1 a,F.qn⟩
end
section
variable{α:Type}{lt:α->α->Bool}(irr:∀a,lt a a=b5)(tr:∀a b c,lt a b=dI->lt b c=dI->lt a c=dI)(nt:∀a b c,lt a b=dI->lt a c=dI\/lt c b=dI)
end
end L3
namespace L3
open PySem L2
abbrev kR(f g:D->D->Hm->jk)(a b c:ME):ME:=λd e=>(a d e).bind λp=>(b d p.2).bind λq=>(f p.1 q.1 q.2).bind λr=>match r.1 with
 |.bl dI=>(c d r.2).bind λt=>g q.1 t.1 t.2|.bl b5=>b3 (.bl b5,r.2)|_=>b4
def GX(hf:eK K f r)(hg:eK K g L):∀σ H Q,tM K (kR f g ma mb mc) σ H Q->Bm r L (tM K ma) (tM K mb) (tM K mc) σ H Q:=by
 rintro σ H Q ⟨π,B,μ,d,u,R,E,e,k⟩;show bR e ?_;clear e;intro x h h1 e;show bR e ?_;clear e;intro y i Z e;show bR e ?_;clear e;intro z j h3 e;show⟨π,B,μ,x,h,R,E,h1,λv v1 H1 p U i1=>⟨v,B,h,y,i,U,E.mono p,Z,λw M N q R2 J=>?_⟩⟩;show hf w N i x y z j v1 M _ R2 (i1.mono q) J h3 λo v3 O s G i3=>?_;cases z with
 |bl bb=>
  ext i3;show⟨bb,rfl,?_⟩;cases bb with
  |true=>show pU ?_;show bR e ?_;clear e;intro t n h4 e;show⟨o,B,j,t,n,G,((E.mono p).mono q).mono s,h4,λA v4 T I Y i4=>hg A T n y t d u M v4 Q Y ((J.mono s).mono I) i4 e<|k.after<|((p.trans q).trans s).trans I⟩|false=>show pT ?_;ext e;show k o _ O ((p.trans q).trans s) G<|.bl b5
 |_=>ext e
abbrev jE:mq->Option (Int->Int->Bool)
 |.Lt=>b3 λi j=>decide (i<j)|.LtE=>b3 λi j=>decide (i<=j)|.Gt=>b3 λi j=>decide (j<i)|.GtE=>b3 λi j=>decide (j<=i)|_=>b4
def tW(h:jE op=b3 p):ď X (ĳ op) (kI λi j=>.bl<|p i j)/\(op=.Lt\/op=.LtE\/op=.Gt\/op=.GtE):=by ext op<;>first|(ext h;first|show⟨Bi,∅⟩|show⟨Bj,∅⟩|show⟨Bk,∅⟩|show⟨Bl,∅⟩)|ext h
def GY(h':d=.Lt\/d=.LtE\/d=.Gt\/d=.GtE):Nw [op,d] [b,c]=false:=by change ie d c=b5;rcases h' with rfl|rfl|rfl|rfl<;>show fK _
def b0b(h:jE op=b3 p)(h':jE d=b3 q)(e:QE X a ma)(g:QE X b mb)(hc:QE X c mc):QE X (.Compare a [op,d] [b,c] pos) (kR (iQ p) (iQ q) ma mb mc):=
 ⟨eP (a9Q (tW h).1 (tW h').1 e.h g.h hc.h<|GY (tW (X:=X) h').2)<|GX lK lK⟩
def b0a(h:jE op=b3 p)(h':jE d=b3 q)(g:QE X a ma)(i:QE X b mb)(hc:QE X c mc):QT X (.Compare a [op,d] [b,c] pos) (a7<|kR (iQ p) (iQ q) ma mb mc):=
 ⟨xX (a9P (tW h).1 (tW h').1 g.h i.h hc.h<|GY (tW (X:=X) h').2) λe H Q h=>GX lK lK e H _<|FN e H Q h⟩
abbrev yW(d:Bool):D->D->Hm->jk
 |.bl b,.bl c,μ=>b3 (.bl<|if d then !(b==c)else b==c,μ)|.int _,.bl _,μ=>b3 (.bl d,μ)|_,_,_=>b4
abbrev iS(d:Bool):D->D->Hm->jk:=λx y e=>match y with
 |.bl _=>yW d x y e|_=>nN d x y e
abbrev Cb(d:Bool):R2:=λx y H Q=>∃c,y=.bl c/\((∃b,x=.bl b/\Q (.bl<|if d then !(b==c)else b==c) H)\/((∃i,x=.int i)/\Q (.bl d) H))
def yX:eK K (yW g) (Cb g):=by
 intro j H q x y d n o p Q R h i e k;unfold yW at e;split at e
 .ext e;ext h;ext i;show⟨_,rfl,.inl ⟨_,rfl,k j _ H .refl R<|.bl _⟩⟩
 .ext e;ext h;ext i;show⟨_,rfl,.inr ⟨⟨_,rfl⟩,k j _ H .refl R<|.bl _⟩⟩
 .ext e
def G0:ď X (ĳ .Is) (Cb b5):=by
 intro e s j H x y v u Q I d g h;let⟨c,rfl,h⟩:=h;ext g;rcases h with⟨b,rfl,q⟩|⟨⟨i,rfl⟩,q⟩
 .ext d;show Ê<|rA I q<|by ext b<;>ext c<;>rfl
 .let⟨t,rfl⟩:=d;show Ê<|rA I q rfl
def G2:ď X (ĳ .IsNot) (Cb dI):=by
 intro e s j H x y v u Q I d g h;let⟨c,rfl,h⟩:=h;ext g;rcases h with⟨b,rfl,q⟩|⟨⟨i,rfl⟩,q⟩
 .ext d;show Ê<|rA I q<|by ext b<;>ext c<;>rfl
 .let⟨t,rfl⟩:=d;show Ê<|rA I q rfl
def yY x y e r(h:iS d x y e=b3 r):yW d x y e=b3 r\/nN d x y e=b3 r:=by
 unfold iS at h;split at h
 .show .inl h
 .show .inr h
def b0Z(d:QE X a ma)(e:QE X b mb):QE X (.Compare a [.Is] [b] pos) (aA (iS b5) ma mb):=rR ⟨iM G0 yX d.h e.h<|fK _⟩ (TzI d e)<|kQ yY
def b0Y(d:QE X a ma)(e:QE X b mb):QE X (.Compare a [.IsNot] [b] pos) (aA (iS dI) ma mb):=rR ⟨iM G2 yX d.h e.h<|fK _⟩ (TuP d e)<|kQ yY
def b0R(d:QE X a ma)(e:QE X b mb):QT X (.Compare a [.Is] [b] pos) (a7<|aA (iS b5) ma mb):=tQ ⟨iN G0 yX d.h e.h<|fK _⟩ (TiV d e)<|tR<|kQ yY
def Ta(d:QE X a ma)(e:QE X b mb):QT X (.Compare a [.IsNot] [b] pos) (a7<|aA (iS dI) ma mb):=tQ ⟨iN G2 yX d.h e.h<|fK _⟩ (b0Q d e)<|tR<|kQ yY
abbrev oU:MF:=λds a=>match ds with
 |[x]=>(bO a x).bind λc=>(tS c).map λb=>(.int b.sum,a)|_=>b4
abbrev G3(K:Õ):gz->Hp->VK->Prop:=λxs H Q=>∃(p:Addr)(a:List Int),xs=[.ref p]/\(Ą K H p (a.map V.int)\/å K H p (a.map V.int))/\Q (.int a.sum) H
def Tc:eY K oU (G3 K):=by
 intro g H s n d e h Q R i a k;unfold oU at a;split at a
 .let⟨o,h1,a⟩:=Ś.mp a;show cE a ?_;clear a;intro c b a;ext a;cases i with
  |cons i t=>ext t;let⟨p,j,rfl,q,hd⟩:=tL R i h1;rw[B9 b]at hd;have:=Ģ hd;subst this;show⟨p,c,rfl,q,k g _ H .refl R<|.int _⟩
 .ext a
def G4(a:List Int):∀n,n<=a.length->preSum (λi=>a.getD i 0) n=(a.take n).sum
 |0,_=>rfl|n+1,h=>by
  let b:=G4 a n ();let e:a.take (n+1)=a.take n++[a[n]]:=by rw[ni,ü ()];rfl
  change preSum (λi=>a.getD i 0) n+a.getD n 0=_;rw[b,e,List.sum_append];simp[ĩ,ü<|show n<a.length by lia]
def G5{σ:St}(I:Â X Do σ H s)(m:Moved k (λa b=>b=a) d c)(n:∀b o,s.heap.get? b=b3 o->d.heap.get? b=b3 o)(hw:∀b∈k,s.heap.objs.size<=b)(g:d.gens=s.gens/\d.drawn=s.drawn/\d.os=s.os):Â X Do σ H c:=by let j:∀b o,s.heap.get? b=b3 o->c.heap.get? b=b3 o:=λb o e=>m.heap b o (λz=>absurd (ĸ (Ý e)<|hw b z)<|ε _)<|n b o e;let h1:c.gens=s.gens:=m.gens.trans g.1;let h:c.drawn=s.drawn:=m.drawn.trans g.2.1;let i:c.os=s.os:=m.os.trans g.2.2;let⟨v,u,q,p,w⟩:=c;dsimp at h1 h i j;subst h1 h i;show I.kept (t':=p) j
def G6{a:List Int}(r:Å (a.map V.int) its){i:Nat}(h:its.toArray[i]?=b3 v):∃t,v=.int (a.getD i 0) t:=by
 let b:its[i]?=b3 v:=by apply h
 let hi:i<a.length:=by have:=(â.mp b).1;have:=r.length;rw[Ã]at this;lia
 let⟨u,h1,c⟩:=r.get (i:=i) (x:=.int a[i]) (by rw[ú,ü hi];rfl);rw[b]at h1;ext h1;let⟨t,rfl⟩:=c;show⟨t,by simp[ĩ,hi]⟩
def Td(hc:X.calm=dI):Ü X (.builtin "sum") (G3 X.K):=by
 intro A s L H K J Q I r h;let⟨p,c,rfl,n,q⟩:=h;let⟨u,rfl,E⟩:=gU r;ext E;let z:X.A.in1.handled=none:=I.ok.hd hc;let fin:∀its:gw,Å (c.map V.int) its->preSum (λi=>c.getD i 0) its.toArray.size=c.sum:=λits j=>by
  let k:its.toArray.size=c.length:=by rw[ğ,<- j.length,Ã]
  rw[k,G4 c _<|Ø _,Ź]
 rcases n with n|n
 .let⟨its,j,pl,B⟩:=I.list n;show Qg<|uz pl.isList ?_;let d:p≠s.heap.objs.size:=by let⟨o,g,_⟩:=pl.isList;show û<|Ý g
  show⟨s.heap.objs.size,_,_,_,_,_,_,λi=>c.getD i 0,rfl,(OK z _ p d its.toArray).toS,⟨⟨_,ć _ rfl,rfl,rfl⟩,pl.isList.push _⟩,?_,λi v x=>G6 j x,λG y m=>?_⟩
  .intro b a;change b<(s.heap.push _).objs.size;rw[ϔ];let⟨o,g,_⟩:=pl.isList;let w:=Ý g;dsimp[ĉ,ϕ,or_false]at a;rcases a with rfl|rfl
   .show Ϧ _
   .show za w
  .show⟨.int c.sum,H,G5 I m (λb o e=>ß _ e) (λb a=>?_) ⟨rfl,rfl,rfl⟩,⟨y,?_⟩,q⟩
   .let e:b=s.heap.objs.size:=by apply a
    show lw e.symm
   .rw[fin its j]
 .let⟨its,j,pl,B⟩:=I.tuple n;show Qg<|um (show s.heap.IsTuple p its.toArray from pl) ?_;let d:p≠s.heap.objs.size:=by let⟨o,g,_⟩:=pl;show û<|Ý g
  show⟨s.heap.objs.size,_,_,_,_,_,_,λi=>c.getD i 0,rfl,(OQ z _ p d its.toArray).toS,⟨⟨_,ć _ rfl,rfl,rfl⟩,Sj pl _⟩,?_,λi v x=>G6 j x,λG y m=>?_⟩
  .intro b a;change b<(s.heap.push _).objs.size;rw[ϔ];let⟨o,g,_⟩:=pl;let w:=Ý g;dsimp[ĉ,ϕ,or_false]at a;rcases a with rfl|rfl
   .show Ϧ _
   .show za w
  .show⟨.int c.sum,H,G5 I m (λb o e=>ß _ e) (λb a=>?_) ⟨rfl,rfl,rfl⟩,⟨y,?_⟩,q⟩
   .let e:b=s.heap.objs.size:=by apply a
    show lw e.symm
   .rw[fin its j]
abbrev yZ:MF:=λds a=>match ds with
 |[.int i,.int j]=>b3 (.int<|if j<i then j else i,a)|_=>b4
abbrev y8:MF:=λds a=>match ds with
 |[.int i,.int j]=>b3 (.int<|if j>i then j else i,a)|_=>b4
def Te:eY K yZ (λxs H Q=>∃i j,xs=[.int i,.int j]/\Q (.int<|if j<i then j else i) H):=by
 intro g H n xs d e h Q R i a k;unfold yZ at a;split at a
 .ext a;cases i with
  |cons i t=>
   ext i;cases t with
   |cons b c=>ext b;ext c;show⟨_,_,rfl,k g _ H .refl R<|.int _⟩
 .ext a
def Tf:eY K y8 (λxs H Q=>∃i j,xs=[.int i,.int j]/\Q (.int<|if j>i then j else i) H):=by
 intro g H n xs d e h Q R i a k;unfold y8 at a;split at a
 .ext a;cases i with
  |cons i t=>
   ext i;cases t with
   |cons b c=>ext b;ext c;show⟨_,_,rfl,k g _ H .refl R<|.int _⟩
 .ext a
abbrev gN{a:Type}(xs:List a)(lo hi st:Option Int):List a:=(O3 (R4 lo hi st xs.length).1 (R4 lo hi st xs.length).2.1 (R4 lo hi st xs.length).2.2).filterMap (xs[·]?)
abbrev qA(a:ME)(lo hi st:MO):ME:=λb d=>(a b d).bind λp=>(lo b p.2).bind λq=>(hi b q.2).bind λr=>(st b r.2).bind λt=>if t.1≠b3 0 then(eX t.2 p.1).bind λc=>if(gN c q.1 r.1 t.1).length<=Ñ then b3 (.loc t.2.length,t.2++[.lst<|gN c q.1 r.1 t.1])else b4 else b4
def Tg(h:Æ K π n H vs ds)lo hi st:Æ K π n H (gN vs lo hi st) (gN ds lo hi st):=by
 ext gN;rw[h.length];generalize O3 _ _ _=l;induction l with
 |nil=>show .nil|cons i l a=>
  rw[aa,aa];cases hi:ds[i]? with
  |none=>
   have:vs[i]?=none:=by rw[χ]at hi ⊢;rw[h.length];show hi
   rw[this];show a
  |some d=>let⟨v,h1,b⟩:=h.get hi;rw[h1];show .cons b a
def Th(r:Å vs its)lo hi st:Å (gN vs lo hi st) (gN its lo hi st):=by
 ext gN;rw[r.length];generalize O3 _ _ _=l;induction l with
 |nil=>show .nil|cons i l a=>
  rw[aa,aa];cases hi:vs[i]? with
  |none=>
   have:its[i]?=none:=by rw[χ]at hi ⊢;rw[<- r.length];show hi
   rw[this];show a
  |some v=>let⟨u,h1,b⟩:=r.get hi;rw[h1];show .cons b a
abbrev Tj(K:Õ)(te:TE)(tl th tt:TO):TE:=λσ H Q=>te σ H λx c=>tl σ c λl d=>th σ d λu g=>tt σ g λt b=>t≠b3 0/\∃a xs,x=.ref a/\Ą K b a xs/\(gN xs l u t).length<=Ñ/\∀p,b p=b4->Q (.ref p) (upd b p<|.lst<|gN xs l u t)
open PyProof.Rows in
def Tn{X:Cx}{e:Expr}{te:TE}{lo hi:Option Expr}{st:Expr}{tl th tt:TO}{pos p2:Į}(L:PE X e te)(M:PO X lo tl)(O:PO X hi th)(N:PO X (b3 st) tt):PE X (.Subscript e (.Slice lo hi (b3 st) p2) pos) (Tj X.K te tl th tt):=by
 intro c s i H Q I h;show MQ<|aW (L c s i H _ I h) λv s1 ⟨x,y,E,r1,Z⟩=>?_;show wpAny_Slice<|aW (M c s1 i y _ E Z) λo s2 ⟨l,z,G,pl,q2⟩=>aW (O c s2 i z _ G q2) λw s3 ⟨u,A,J,Y,q3⟩=>aW (N c s3 i A _ J q3) λp d ⟨t,B,K,pt,q4⟩=>?_;let⟨h0,a,xs,rfl,R,T,q⟩:=q4;ext r1;let k:Â X c i B {d with heap:=d.heap.push {cls:=.type "slice",data:=.fields #[o,w,p]}}:=K.kept (t':=d.toks) λb ob q=>ß _ q;let⟨its,r,j,U⟩:=k.list R;let n:=r.length;change È (Í X.prog X.w) X.A (N2 e (.Slice lo hi (b3 st) p2) (.ref a)<|.ref d.heap.objs.size) (EP X c i Q) X.xe {d with heap:=d.heap.push {cls:=.type "slice",data:=.fields #[o,w,p]}};show Nt (ops:=[.ref a,.ref d.heap.objs.size]) j.isList.typeIs OS.lookup ?_ (by with_unfolding_all rfl);show Rf j.isList (Rv ..) pl Y pt h0 ?_ (by rw[ğ]<;>lia);let g:MC its.toArray l u t=(gN its l u t).toArray:=by ext MC gN;simp
 rw[g];show⟨.ref _,_,k.laid (t':=d.toks) (o:=.lst (gN xs l u t)) (λb ob q=>ß _ q) (Ø _) ?_,rfl,q _<|k.hok.fresh<|Ø _⟩;show⟨T,_,0,Th r l u t,ć _ rfl⟩
open _root_ in
def To(he:QE X e B)(hl:QO X lo I)(hu:QO X hi G)(ht:QO X (b3 st) J):QE X (.Subscript e (.Slice lo hi (b3 st) p2) pos) (qA B I G J):=⟨eP (Tn he.h hl.h hu.h ht.h)<|by
 rintro σ H Q ⟨π,n,μ,d,μ',R,E,a,k⟩;show bR a ?_;clear a;intro x c h1 a;show bR a ?_;clear a;intro l g T a;show bR a ?_;clear a;intro u h U a;show bR a ?_;clear a;intro t s Y a;show⟨π,n,μ,x,c,R,E,h1,λv v1 H1 i L i1=>⟨v,n,c,l,g,L,E.mono i,T,λw H2 j R2=>⟨w,n,g,u,h,R2,(E.mono i).mono j,U,λy H3 o M=>⟨y,n,h,t,s,M,((E.mono i).mono j).mono o,Y,λπ4 H4 A z=>?_⟩⟩⟩⟩;split at a
 .rename_i h0;show bZ a ?_;clear a;intro xs Z a;split at a
  .rename_i hz;ext a;let⟨p,K,rfl,q,hd⟩:=rX z (((i1.mono j).mono o).mono A) Z;let b:=Tg hd l u t;show⟨h0,p,K,rfl,q,by rw[b.length];show hz,λp' hp=>?_⟩;let⟨O,N,_⟩:=z.alloc (c:=.lst (gN xs l u t)) (o:=.lst (gN K l u t)) hp b;show k _ _ _ ((((i.trans j).trans o).trans A).trans O) N mO
  .ext a
 .ext a⟩
def Cd{σ:St}{ch:List Addr}{a:Addr}(I:Â X Do σ H s)(k:∀b u,b∉ch->s.heap.get? b=b3 u->h'.get? b=b3 u)(i:∀b∈ch,kH X Do H b)(j:s.heap.objs.size<=a)(new:Þ X.prog X.w (upd H a o) h' a o):Â X Do σ (upd H a o) {s with heap:=h',toks:=t'}:=by
 let d:=I.hok.fresh j;let g:∀b u,H b=b3 u->b∉ch:=λb u e z=>by have:=(i b z).1;rw[e]at this;ext this
 show I.step (g':=s.gens) (d':=s.drawn) (ch:=ch) (λb h=>let⟨K,y,L,A,B,E⟩:=i b h;⟨A,y,B,E⟩) (λb o f f hc e f=>k b o hc e) (λb o f f hc e f=>⟨o.slots,k b o hc e⟩) (λb ob hc e n=>?_)
  (λb o hc e=>⟨o,k b o hc e⟩) (λb p q=>?_) (λb ob p q=>?_) (λb M q=>?_) (λm G=>?_) (λb u e=>?_) I.bare
 .rw[bQ<|û<|ĸ (Ý e) j];show n
 .rw[bQ<|k7 q d];show q
 .rw[bQ<|k7 q d];show q
 .show⟨#[],by rw[bQ<|k7 q d,q];simp⟩
 .let⟨o,x,w,J,r⟩:=G;show⟨o,x,w,k _ o (λz=>(i _ z).2.1 rfl) J,r⟩
 .by_cases h:b=a
  .subst h;rw[dW]at e;ext e;show new
  .rw[bQ h]at e;show(I.hok b u e).stay (λc v hc q=>k c v ?_ q) (λc q=>by rw[bQ<|k7 q d];show q) λc p q=>by rw[bQ<|k7 q d];show q
   rcases hc with z|z
   .rw[z];show g b u e
   .show g c _ z
def G7{σ:St}{ch:List Addr}(I:Â X Do σ H s)(k:∀b u,b∉ch->s.heap.get? b=b3 u->h'.get? b=b3 u)(d:∀b∈ch,kH X Do H b):Â X Do σ H {s with heap:=h',toks:=t'}:=by
 let a:∀b u,H b=b3 u->b∉ch:=λb u e z=>by have:=(d b z).1;rw[e]at this;ext this
 show I.step (g':=s.gens) (d':=s.drawn) (ch:=ch) (λb y=>let⟨E,j,G,p,w,x⟩:=d b y;⟨p,j,w,x⟩) (λb o f f hc e f=>k b o hc e) (λb o f f hc e f=>⟨o.slots,k b o hc e⟩) (λb ob hc e n=>n)
  (λb o hc e=>⟨o,k b o hc e⟩) (λb g q=>q) (λb ob g q=>q) (λb J q=>⟨#[],by rw[q];simp⟩) (λm A=>?_) (λb u e=>?_) I.bare
 .let⟨o,i,h,B,r⟩:=A;show⟨o,i,h,k _ o (λz=>(d _ z).2.1 rfl) B,r⟩
 .show(I.hok b u e).stay (λc v hc q=>k c v ?_ q) (λc q=>q) λc g q=>q;rcases hc with z|z
  .rw[z];show a b u e
  .show a c _ z
abbrev Ce(K:Õ)(a:Addr):It:=
 ⟨λi H=>∃b x,Ą K H a b/\b[i]?=b3 x,λi H x c=>∃p v,x=.ref p/\H p=b4/\c=upd H p (.tup [.int i,v])/\∀b,Ą K H a b->b[i]?=b3 v,λi H=>∃b,Ą K H a b/\b.length<=i⟩
def Tp a e n(A:e≠n):
  ŀ Qc P w K (.Tuple es kx pt) (Ce K a) [e,n] e (λi h=>∃old,IsEnum h e n i old/\h.IsListIter n a i) where
 mem:=∅
 obj:=λi h ⟨old,st,j⟩ b q=>by
  let g:b=e\/b=n:=by apply q
  rcases g with rfl|rfl
  .show⟨_,st,λv z=>by
    let z':Ņ _=sr v:=z;ext z'⟩
  .let⟨o,M,c,d⟩:=j;show⟨o,M,λv z=>by rw[d]at z;ext z⟩
 keep:=λi h h' ⟨old,st,j⟩ k=>⟨old,k e ∅ _ st,j.at λo M=>k n ∅ o M⟩;item:=by
  intro X Q hw O hc i L s σ H E I G ⟨old,st,j⟩ U;subst Q hw O;let⟨xs,x,J,hx⟩:=U;let⟨its,rv,p,hz⟩:=I.list J;let⟨u,hu,ru⟩:=rv.get hx;show wpAny_pyNext_enum_item st j p.isList (x:=u) (by apply hu) A λh1 ho hit ht hsz hk=>⟨_,rfl,wpAny_letOwnedTupleGo_enum ho λh2 R y=>?_⟩;let B:e<s.heap.objs.size:=Ý st;let Y:s.heap.objs.size≠e:=Š B;let ht2:h2.get? s.heap.objs.size=b3 {cls:=.type "tuple",data:=.seq #[.int i s.toks,u]}:=(y.2 _ Y).trans ht;let T:H s.heap.objs.size=none:=I.hok.fresh<|Ø _;show⟨.ref s.heap.objs.size,upd H s.heap.objs.size<|.tup [.int i,x],?_,rfl,⟨s.heap.objs.size,x,rfl,T,rfl,λys hy=>by rw[I.list_inj hy J];show hx⟩,⟨u,R,hit.extBut y.extBut<|î A⟩,λb q=>?_⟩
  .show Cd (s:=s) (h':=h2) (t':=s.toks+1) (ch:=[e,n]) I (λb ob q N=>?_) G (Ø _) ?_
   .let g:b≠e/\b≠n:=by apply q
    show(y.2 b g.1).trans<|hk b ob g.1 g.2 N
   .show⟨by change(2:Nat)<=Ñ;decide,[.int i s.toks,u],.cons ⟨_,rfl⟩<|.cons ru .nil,_,ht2,rfl,0,rfl,rfl⟩
  .let g:b=e\/b=n:=by apply q
   let hn:=(G b q).1;let⟨o,Z,_⟩:=j;rw[bQ]
   .show hn
   .rcases g with rfl|rfl
    .show û B
    .show û<|Ý Z
 done:=by
  intro X Q hw O hc i L s σ H E I G ⟨old,st,j⟩ U;subst Q hw O;let⟨xs,J,hx⟩:=U;let⟨its,rv,p,hz⟩:=I.list J;let hl:=rv.length;show wpAny_pyNext_enum_end (I.ok.hd hc) st j p.isList (by simp;lia) λh' N=>⟨rfl,G7 (t':=s.toks) (ch:=[e,n]) I (λb o q z=>N b o ?_ z) G⟩;let g:b≠e/\b≠n:=by apply q
  show g.2
 self:=λ_ _ _ _ _ ⟨old,st,_⟩ h=>Qi st h
structure vy(X:Cx)(e:Expr)(m:MI):Prop where
 h:∀es k p,PI X (.Tuple es k p) e (ϙ X.K m)
def QJ.t(h:QJ X e m):vy X e m:=⟨λes k p=>h.h _⟩
abbrev rY(x:D):gW:=λa i=>(bO a x).map λxs=>(xs[i]?).map λd=>.tup [.int i,d]
abbrev rZ(a:MA):MI:=λd c=>(a d c).bind λp=>match p.1 with
 |[x]=>(eX p.2 x).map λb=>(rY x,b.length+1,p.2)|_=>b4
def Tq(R:Rp K π H w)(h:Ú K π w.length H v x)(E:eX w x=b3 xs):∃a,v=.ref a/\(∃vs,Ą K H a vs)/\Wk K (Ce K a) (rY x) π w.length H:=by
 let hw:bO w x=b3 xs:=by
  cases x with
  |rol k=>show E|loc b=>show E|_=>ext E
 let⟨p,vs,rfl,U,_⟩:=rX R h E;show⟨p,rfl,⟨vs,U⟩,?_⟩
  -- the list as it stands j
 let j:∀g c n,ò π w.length H g c.length n->Rp K g n c->∀k,bO c x=b3 k->∃o,Ą K n p o/\Æ K g c.length n o k:=λg c n e s k L=>by
  let Y:=h.mono e;let Q:eX c x=b3 k:=by
   cases x with
   |rol zs=>show L|loc b=>show L|_=>ext E
  let⟨p',o,M,u,A⟩:=rX s Y Q;ext M;show⟨o,u,A⟩
 show⟨λg c n i e s z=>?_,λg c n i d e s z=>?_⟩
 .let⟨k,h1,B⟩:=ţ.mp z;let⟨o,u,A⟩:=j g c n e s k h1;let G:k[i]?=none:=by
   cases q:k[i]? with
   |none=>rfl|some d=>rw[q]at B;ext B
  show⟨o,u,by rw[A.length];show χ.mp G⟩
 .let⟨k,h1,B⟩:=ţ.mp z;show cE B ?_;clear B;intro d' G N;subst N;let⟨o,u,A⟩:=j g c n e s k h1;let⟨v,J,O⟩:=A.get G;show⟨⟨o,v,u,J⟩,?_⟩;rintro y Z ⟨t,v',rfl,T,rfl,X⟩;have:=X o u;rw[J]at this;ext this;let⟨I,R2⟩:=s.fresh (o:=.tup [.int i,v]) T;show⟨I,R2,.tup (.of dW)<|.cons (.int _)<|.cons (O.mono I) .nil⟩
abbrev Tr(K:Õ)(c:TA):TI:=λσ H R=>c σ H λvs b=>∃a,vs=[.ref a]/\(∃xs,Ą K b a xs)/\R (Ce K a) b
open PyProof.Rows in
def Ts{X:Cx}{a:Expr}{k:TA}{p pos pt:Į}{es:List Expr}{K:Nat}(z:Gl X "enumerate") (B:X.mg "enumerate"=b4) (x:PA X [a] k)(G:ý [a] X.env=[(b5,eval a X.env)]):PI X (.Tuple es K pt) (.Call (.Name "enumerate" p) [a] [] pos) (Tr X.K k):=by
 intro e s n H R I h;show xx<|kG I z B Boot.«enumerate»<|callWith_type1 (aW (x pos e s n H _ I h) λT c ⟨U,i,d,M,L⟩=>?_) G rfl;obtain⟨v,rfl,⟨Y,E⟩,q⟩:=L;let⟨u,rfl,N⟩:=gU M;ext N;let⟨its,Q,pl,O⟩:=d.list E;show call_enumerate_list pl.isList λw j hit J A=>?_;show Qi j ?_;let o:Â X e n i {c with heap:=w}:=d.kept (t':=c.toks) A;show⟨c.heap.objs.size+1,[c.heap.objs.size+1,c.heap.objs.size],_,_,i,rfl,o,Tp v _ _<|Nat.succ_ne_self _,⟨_,j,hit⟩,λb y=>?_,q⟩;let g:b=c.heap.objs.size+1\/b=c.heap.objs.size:=by apply y
 rcases g with rfl|rfl
 .show d.fpOk (mL _)<|d.hok.fresh<|mL _
 .show d.fpOk (Ø _)<|d.hok.fresh<|Ø _
open _root_ in
def Tt(c:Gl X "enumerate")(d:X.mg "enumerate"=b4)(j:QA X [a] q n):vy X (.Call (.Name "enumerate" p) [a] [] pos) (rZ q):=⟨λes N pt Do s σ H R I hw=>by
 let o:=j.s;rw[ō,ð]at o;let⟨L,M,J,B,O,K,v,E,b,k⟩:=hw;show bR b ?_;clear b;intro x g h1 b;show Ts c d j.h (iF o.1) Do s σ H R I ⟨L,M,J,x,g,v,E,h1,λh Q u y i e=>?_⟩;dsimp at b;split at b
 .rename_i x;show cE b ?_;clear b;intro T z b;ext b;cases e with
  |cons e G=>ext G;let⟨w,rfl,A,W⟩:=Tq i e z;show⟨w,rfl,A,k h u _ y i W⟩
 .ext b⟩
def zA(hi:PI X tg iter (ϙ X.K A))(K:QG X tg g)(I:QB X body y)(L:yf (Í X.prog X.w) X.A X.env X.xe)(hc:X.calm=dI)(M:jC iter=dI):
  QS X (.For tg iter body [] pos) (cA A g y):=⟨nI (a7U L hc hi K.h I.h<|by intro z;ext iter<;>first|rfl|ext M)<|by
 rintro E U H ⟨Q,T,O,x,v,s,R,w,p,k⟩;obtain⟨⟨q,n,o⟩,h1,p⟩:=Ś.mp p;show⟨Q,T,O,q,n,o,R,w,h1,λu B J i G W=>?_⟩;let N:rG X.K E u o.length B x v s:=by
  cases x with
  |nx=>show λa b e j h c=>k a b e (i.trans j) h c|bk=>show λa b e j h c=>k a b e (i.trans j) h c|ct=>show λa b e j h c=>k a b e (i.trans j) h c|rt d=>show KC.after k i
 show b2p W N .refl G (w.mono i) p⟩
abbrev Cf(put:D->D->D->Hm->Option Hm)(o i v:ME):MS:=λa b=>(v a b).bind λp=>(o a p.2).bind λq=>(i a q.2).bind λr=>(put q.1 r.1 p.1 r.2).map λμ'=>(.nx,a,μ')
abbrev vU:D->D->D->Hm->Option Hm
 |.loc a,y,d,μ=>match μ[a]? with
  |some (.dT kvs)=>(dR y).bind λk=>if kvs.length<Ñ then b3 (μ.set a<|.dT<|cD kvs k d)else b4|_=>b4
 |_,_,_,_=>b4
abbrev vV:D->D->D->Hm->Option Hm:=vU
abbrev eM:=Cf vV
def G8:QS X st (fR i cT):=⟨λDo s σ H D I q=>by
 let⟨g,h,e,d,c,b,R,E,a,k⟩:=q;ext a⟩
abbrev qB(a:Hm)(x:D):List D->Option (List Bool)
 |[]=>b3 []|y::r=>(eL 8 a y x).bind λb=>(qB a x r).map λc=>b::c
abbrev tX:D->List D->Hm->jk
 |.loc a,[x],μ=>match μ[a]? with
  |some (.lst xs)=>(qB μ x xs).bind λbs=>if bs.findIdx id<bs.length/\bs.length<=Ñ then b3 (.int (bs.findIdx id:Nat),μ)else b4|_=>b4
 |_,_,_=>b4
abbrev G9(K:Õ):V->gz->Hp->VK->Prop:=λx vs H Q=>∃π b a xs y c bs,Rp K π H b/\x=.ref (π a)/\vs=[y]/\b[a]?=b3 (.lst xs)/\Ú K π b.length H y c/\qB b c xs=b3 bs/\bs.findIdx id<bs.length/\Q (.int (bs.findIdx id:Nat)) H
open _root_ in
def Tu:mR K tX (G9 K):=by
 intro b H o x ds d p v q Q R i h a k;unfold tX at a;split at a
 .split at a
  .rename_i n e;show bZ a ?_;clear a;intro bs h1 a;split at a
   .rename_i c;ext a;cases h with
    |cons g j=>ext j;ext i;show⟨b,o,_,n,_,_,bs,R,rfl,rfl,e,g,h1,c.1,k b _ H .refl R<|.int _⟩
   .ext a
  .ext a
 .ext a
def Tv{σ:St}(I:Â X Do σ H s)(R:Rp X.K π H i)(Q:A.units+8<ÿ)(rx:Ì x v)(Z:Ú X.K π i.length H x n):
  ∀{e}{vs}{us}{bs},Æ X.K π i.length H vs e->Å vs us->qB i n e=b3 bs->
   ∃g,(∀u∈us,m5 A s u v (g u))/\us.map g=bs:=by
 classical
 intro e vs us bs hi k a
 let p:∀{e:List D}{vs:gz}{us:gw}{bs:List Bool},Æ X.K π i.length H vs e->Å vs us->qB i n e=b3 bs->(∀u∈us,∃c,m5 A s u v c/\∃w o,Ì w u/\Ú X.K π i.length H w o/\eL 8 i o n=b3 c):=by
  intro e
  induction e with
  |nil=>
   intro vs us b hi k a u d
   ext hi
   ext k
   ext d
  |cons y e J=>
   intro vs us b hi k a u d
   cases hi with
   |cons h t=>
    cases k with
    |cons r rt=>
     show bZ a ?_
     clear a
     intro c h1 a
     show cE a ?_
     clear a
     intro M E a
     rcases ĉ.mp d with rfl|d
     .show⟨c,BF I R 8 Q r rx h Z h1,_,_,r,h,h1⟩
     .show J t rt E u d
 let q:=p hi k a
 show⟨λu=>if h:u∈us then ul (q u h)else b5,λu d=>?_,?_⟩
 .dsimp[dif_pos d]
  show(NP<|q u d).1
 .let key:∀u (h:u∈us) w o c,Ì w u->Ú X.K π i.length H w o->eL 8 i o n=b3 c->ul (q u h)=c:=by
   intro u h w o c K Y L
   let⟨_,w2,N,r2,U,O⟩:=NP<|q u h
   have:w2=w:=r2.inj K
   subst this
   have:=BY I R U Y
   subst this
   rw[O]at L
   show ē L
  let B:∀{e:List D}{vs:gz}{j:gw}{bs:List Bool},(∀u∈j,u∈us)->Æ X.K π i.length H vs e->Å vs j->qB i n e=b3 bs->j.map (λu=>if h:u∈us then ul (q u h)else b5)=bs:=by
   intro e
   induction e with
   |nil=>
    intro vs j b G hi k a
    ext hi
    ext k
    ext a
    rfl
   |cons y e J=>
    intro vs j b G hi k a
    cases hi with
    |cons h t=>
     cases k with
     |@cons _ u _ us2 r rt=>
      show bZ a ?_
      clear a
      intro c h1 a
      show cE a ?_
      clear a
      intro M E a
      have iR:u∈us:=G u<|š ..
      rw[ó,J (λz T=>G z<|Ō _ T) t rt E,dif_pos iR,key u iR _ _ c r h h1]
      show a
  show B (λ_ h=>h) hi k a
def Tx(hu:X.A.units+20<ÿ):nH X "list.index" (G9 X.K):=by
 intro E s σ H x vs v us Q I Y U h
 let⟨π,μ,a,Z,y,dy,bs,R,rfl,rfl,M,O,L,p,q⟩:=h
 ext Y
 let⟨u,rfl,T⟩:=U.one
 let⟨ws,J,hd⟩:=R.lst a Z M
 let⟨z,its,n,r,hl,e⟩:=I.lstM J
 let⟨g,G,B⟩:=Tv I R (A:=X.A.in1) (by rw[mP];lia) T O hd r L
 let j:bs.length=its.length:=by rw[<- B,Ã]
 let w:bs.findIdx id<its.toArray.size:=by rw[ğ,<- j];show p
 let b:∀m (o:m<its.length),bs[m]?=b3 (g its[m]):=λm o=>by
  rw[<- B,ú,ü o];rfl
 let c:((bs.findIdx id:Nat):Int)<2^63-1:=by
  let h1:bs.findIdx id<its.length:=by apply w
  let d:=rB
  let i:(bs.findIdx id:Nat)<Ñ:=()
  let k:((Ñ:Nat):Int)<=2^63-1:=⋯
  lia
 show yh F.slot_list_index ⟨_,e,rfl⟩ F.entry_list_index (F.args_list_index_2 _ _) (SeqAt.list_indexAt (π a) its.toArray n b4 #[] u g (bs.findIdx id) w c ?_ ?_) ⟨e,λy N=>G y<|by apply N,⟨.int (bs.findIdx id:Nat),H,I.tok _,⟨_,rfl⟩,q⟩⟩
 .let h1:bs.findIdx id<its.length:=by apply w
  let d:=List.findIdx_getElem (p:=id) (xs:=bs) (w:=p)
  let i:=b _ h1
  rw[ü p]at i
  let k:=ē i
  rw[k]at d
  apply d
 .intro m o A
  let h1:m<its.length:=by apply o
  let d:=List.not_of_lt_findIdx (p:=id) (xs:=bs) A
  let i:=b _ h1
  let K:m<bs.length:=()
  rw[ü K]at i
  let k:=ē i
  rw[k]at d
  apply d
def Tz:ym (.type "list_reverseiterator") "__len__"=pure none:=by rw[OF,Oq];kernel_rfl
def GwI:ym (.type "list_reverseiterator") "__length_hint__"=pure (b3<|.builtin "list_reverseiterator.__length_hint__"):=by rw[OF,Oq];kernel_rfl
def FsI(b:s.TypeIs (.ref r) "list_reverseiterator")(h:Q b5 s):È (Í prog w) A (SU<|.ref r) Q E s:=by ext SU;show Á<|uf b Tz ?_;dsimp;show nq (λa=>absurd a<|by decide +kernel) λ_=>?_;show nq (λa=>absurd a ⋯) λ_=>?_;show Á<|uf b GwI ?_;generalize bX:("list_reverseiterator.__length_hint__":String)=id0;wp_delta;rw[show splitId id0=b3 ("list_reverseiterator","__length_hint__")from by subst bX;decide +kernel];subst bX;show Á (mX (T:="list_reverseiterator") (b:=dI) b (by rw[isSubtype_type];kernel_rfl) ?_);show nq (λa=>absurd a ⋯) λ_=>?_;show nq (λ_=>?_) (λa=>absurd (by decide +kernel) a);show nq (λa=>absurd a<|by decide +kernel) λ_=>?_;show Ê h
def CpI(Y:A.handled=b4)(hit:s.heap.IsRevIter p a ((its.size:Int)-1))(hl:s.heap.IsList a its)(J:a≠p)S(u:S≠p)(G:S≠a)res j(X:s.heap.get? S=b3 {cls:=.type "list",data:=.seq #[] j})(U:∀z tk c q,(∀b o,b≠S->b≠p->s.heap.get? b=b3 o->z.get? b=b3 o)->z.get? S=b3 {cls:=.type "list",dict:=b4,data:=.seq c q,slots:=#[]}->ItemsOf (λi v=>its[its.size-1-i]?=b3 v) c its.size->R (.ok<|.ret res) {s with heap:=z,toks:=tk})(hn:its.size<=Ñ):
  È (Í prog w) A.in1 (vf (.ref S) (.ref p) res)
   (λfin n=>match fin with|.done f=>R (.ok f) n|.again q=>q.quiet=dI/\ο (Í prog w) A q R n) (λe n=>R (.error e) n) s:=by
 let H:S∉[p,a]:=by dsimp[ĉ,ϕ,or_false,not_or];show⟨u,G⟩
 let W:=Walks.listRev (prog:=prog) (w:=w) (A:=A.in1) Y p a J its;let key:∀(h:í)(d tk:Nat),h.IsRevIter p a ((its.size:Int)-1)->h.IsList a its->(∀b o,b≠S->s.heap.get? b=b3 o->h.get? b=b3 o)->
   h.get? S=b3 {cls:=.type "list",data:=.seq #[] d}->ο (Í prog w) A (.builtin "list.extend.loop" ⟨[.ref S,.ref p,res],[]⟩) R {s with heap:=h,toks:=tk}:=by
  intro h d tk L y Z k;show codeAny_extend_loopS W.toS hn S H res its.size 0 _ #[] d rfl (ĵ _) ⟨ĵ _,by apply L,y⟩ k (ItemsOf.nil _) λn c q N B x=>?_;rw[Moved.eq_with N];show U n.heap n.toks c q (λb o M K e=>N.heap b o (λg=>?_)<|Z b o M e) B x;rcases ĉ.mp g with O|g
  .show M O
  .show K<|Ē.mp g
 ext vf;show Á<|yw (T:="list_reverseiterator") hit.typeIs ?_;let h1:NY (.ref S) (.ref p)=false:=by simp[NY,u]
 let Q:(ö "list_reverseiterator"==ö "list")=false:=by decide +kernel
 let T:(ö "list_reverseiterator"==ö "tuple")=false:=by decide +kernel
 dsimp[h1,Q,T,MZ,Ň,if_false];show Á<|Oh hit ?_;show Á<|Ŀ<|FsI hit.typeIs ?_;show nq (λI=>absurd I<|by decide +kernel) λ_=>Ê ⟨Ϟ PySem.F.plain_extend_loop _,?_⟩;show key _ j s.toks hit hl (λb o l e=>e) X
def CdI(K:A.handled=b4)(hit:s.heap.IsRevIter p a ((its.size:Int)-1))(M:s.heap.IsList a its)(G:a≠p)S(n:S≠p)(k:S≠a)(z:s.heap.get? S=b3 {cls:=.type "list",data:=.seq #[]})(J:∀j I c h,(∀b o,b≠S->b≠p->s.heap.get? b=b3 o->j.get? b=b3 o)->j.get? S=b3 {cls:=.type "list",dict:=b4,data:=.seq c h,slots:=#[]}->ItemsOf (λi v=>its[its.size-1-i]?=b3 v) c its.size->R (.ok<|.ret .none) {s with heap:=j,toks:=I})(N:its.size<=Ñ):
  È (Í prog w) A.in1 (Builtin.«list.__init__» ⟨[.ref S,.ref p],[]⟩)
   (λfin y=>match fin with|.done f=>R (.ok f) y|.again h=>h.quiet=dI/\ο (Í prog w) A h R y) (λe y=>R (.error e) y) s:=by
 change È _ _ (do let old <- S6 (.ref S);b4V (.ref S) λ_=>#[];letGo old.toList.reverse;vf (.ref S) (.ref p) .none) _ _ s;show Á ?_;ext S6;show Á<|Ϡ z rfl<|Ê ?_;change È _ _ (qx S (λ_=>#[]) >>= λ_=>letGo (#[]:Array Value).toList.reverse >>= λ_=>vf (.ref S) (.ref p) .none) _ _ s;show Á<|iw z rfl ?_;let d:=ϓ (a4F λ_=>(#[]:Array Value)) z rfl;let g:∀b o,b≠S->s.heap.get? b=b3 o->(s.heap.update S<|a4F λ_=>(#[]:Array Value)).get? b=b3 o:=
  λb o u e=>(WF _ _<|î u).trans e
 show Á<|bj ?_;show CpI K (hit.at λo e=>g p o (î n) e) (let⟨o,O,x⟩:=M;⟨o,g a o (î k) O,x⟩) G S n k .none _ d (λj I c h L B q=>?_) N;show J j I c h (λb o u H e=>L b o u H<|g b o u e) B q
def BaI(K:A.handled=b4)(hit:s.heap.IsRevIter p a ((its.size:Int)-1))(G:s.heap.IsList a its)(y:a≠p)(M:its.size<=Ñ)(H:∀g z c q,(∀b o,b≠p->s.heap.get? b=b3 o->g.get? b=b3 o)->g.get? s.heap.objs.size=b3 {cls:=.type "list",dict:=b4,data:=.seq c q,slots:=#[]}->ItemsOf (λi v=>its[its.size-1-i]?=b3 v) c its.size->Q (.ref s.heap.objs.size) {s with heap:=g,toks:=z}):
  È (Í prog w) A (call (.type "list") [.ref p]) Q E s:=by
 show Pn (Q₁:=λn d=>n=.ref s.heap.objs.size/\d={s with heap:=s.heap.push {cls:=.type "list",data:=.seq #[]}}) PySem.F.called_list (PySem.F.typeCall_list_1 _) PySem.F.entry_list_init
  (code_list_new _ ⟨rfl,rfl⟩) λn d k=>?_
 let⟨rfl,rfl⟩:=k;let B:(s.heap.push {cls:=.type "list",data:=.seq #[]}).get? s.heap.objs.size=b3 {cls:=.type "list",data:=.seq #[]}:=ć _ rfl;let N:p<s.heap.objs.size:=let⟨o,j,_⟩:=hit;Ý j;let I:a<s.heap.objs.size:=let⟨o,j,_⟩:=G;Ý j;show⟨⟨_,B,rfl⟩,PySem.F.args_list_init_2 _ _,CdI (A:=A.in1) K (hit.at λo e=>ß _ e) (let⟨o,j,x⟩:=G;⟨o,ß _ j,x⟩) y _ (Š N) (Š I) B (λg z c q L u h=>?_) M⟩;show⟨rfl,H g z c q (λb o J e=>L b o (û<|Ý e) J<|ß _ e) u h⟩
abbrev Ha(K:Õ):gz->Hp->VK->Prop:=λxs H Q=>∃(p:Addr)(a:gz),xs=[.ref p]/\Ą K H p a/\∀l,H l=b4->Q (.ref l) (upd H l<|.lst a.reverse)
def Hb:∀{a}{its},Å a its->Å a.reverse its.reverse
 |_,_,.nil=>.nil|_,_,.cons h t=>by rw[zb,zb];show(Hb t).append<|.cons h .nil
def TK(hc:X.calm=dI)(O:Gl X "list")(R:X.mg "list"=b4)(w:Gl X "reversed")(z:X.mg "reversed"=b4)(N:PA X [e] t)(U:ý [e] X.env=(b5,eval e X.env)::ý [] X.env):
  PE X (.Call (.Name "list" p) [.Call (.Name "reversed" K) [e] [] c] [] pos) (xQ (Ha X.K) t):=by
 intro n s σ H Q I h;show bx (kG I O R PQ ?_ ⋯<|by decide);show qg ?_ rfl rfl;change È _ _ (spliced<|(b5,eval (.Call (.Name "reversed" K) [e] [] c) X.env)::ŕ pos (ý [] X.env)) _ _ s;show NV (bx<|kG I w z b2E ?_ ⋯<|by decide);show qg (aW (N c n s σ H _ I h) λus g ⟨vs,H1,j,r1,q1⟩=>?_) U rfl;let⟨q,ys,rfl,T,k⟩:=q1;let⟨u,rfl,ru⟩:=gU r1;ext ru;let⟨its,L,pl,Y⟩:=j.list T;let J:=L.length;let y:=pl.isList;let B:q<g.heap.objs.size:=let⟨o,A,_⟩:=y;Ý A;show Qo y ?_;show NF ?_;show BaI (j.ok.hd hc) (p:=g.heap.objs.size) (a:=q) (its:=its.toArray) ⟨_,ć _ rfl,rfl,rfl⟩ (let⟨o,A,x⟩:=y;⟨o,ß _ A,x⟩) (û B) (by dsimp[ğ]<;>lia) λh' tk a M Z G d=>?_;let v:a.toList=its.reverse:=by
  show P1 λi=>?_;let hn:a.size=its.length:=by apply d.1
  by_cases hi:i<its.length
  .let h1:=d.2 i a[i] (P9 ());rw[ϸ,P9 (),<- h1,PJ hi,ğ,Rq]
  .rw[cj<|by rw[il];lia,cj<|by rw[qd];lia]
 let E:(g.heap.push<|revObj q<|(its.toArray.size:Int)-1).objs.size=g.heap.objs.size+1:=by simp[Heap.push]
 rw[E]at G ⊢;show⟨.ref<|g.heap.objs.size+1,_,j.laid (t':=tk) (a:=g.heap.objs.size+1) (o:=.lst ys.reverse) (λb o e=>Z b o (û<|Ý e)<|ß _ e) () ⟨by rw[qd];show Y,its.reverse,M,Hb L,by rw[<- v];apply G⟩,rfl,k _<|j.hok.fresh ()⟩
abbrev nQ:MF:=λds b=>match ds with
 |[.loc a]=>match b[a]? with
  |some (.lst xs)=>b3 (.loc b.length,b++[.lst xs.reverse])|_=>b4
 |_=>b4
open _root_ in
def TL:eY K nQ (Ha K):=by
 intro u H s q d o p Q R i b k;unfold nQ at b;split at b
 .rename_i a;split at b
  .rename_i e n;ext b;cases i with
   |cons i t=>ext t;ext i;let⟨c,h1,h⟩:=R.lst a e n;show⟨_,c,rfl,.of h1,λl j=>?_⟩;let⟨g,R2,_⟩:=R.alloc (c:=.lst e.reverse) (o:=.lst c.reverse) j<|b0L h;show k _ _ _ g R2 mO
  .ext b
 .ext b
def TM(hc:X.calm=dI)(d:X.mg "list"=b4)(g:X.mg "reversed"=b4)(h:QA X [e] j n)(b:Gl X "list")(c:Gl X "reversed"):
  QE X (.Call (.Name "list" p) [.Call (.Name "reversed" k) [e] [] a] [] pos) (bJ nQ j):=by
 let i:=h.s;rw[ō,ð]at i;show⟨eP (TK hc b d c g h.h<|iF i.1)<|By TL⟩
abbrev Cg(K:Õ)(a:Addr)(n:Nat):It:=⟨λi H=>i<n/\∃xs x,Ą K H a xs/\xs[n-1-i]?=b3 x,λi H x b=>b=H/\∀xs,Ą K H a xs->xs[n-1-i]?=b3 x,λi y=>i=n⟩
def TN a j n:ŀ Qc P w K tg (Cg K a n) [j] j (λi h=>h.IsRevIter j a<|(n:Int)-1-(i:Nat)) where
 mem:=∅
 obj:=λi h st b g=>by
  let e:b=j:=by apply g
  subst e;let⟨o,e,c,d⟩:=st;show⟨o,e,λv z=>by rw[d]at z;ext z⟩
 keep:=λi h A st k=>st.at λo e=>k j ∅ o e;item:=by
  intro X Q hw O hc i y s Z H E I B st R;subst Q hw O;let⟨hi,xs,x,U,Y⟩:=R;let⟨its,rv,p,hz⟩:=I.list U;let⟨u,hu,ru⟩:=rv.get Y;let⟨G,J,f2,L,M,N⟩:=B j ∅;let T:(n:Int)-1-(i:Nat)=((n-1-i:Nat):Int):=()
  rw[T]at st;show wpAny_pyNext_rev_item st p.isList (x:=u) (by apply hu) λA q sb=>?_;let I1:Â X y Z H {s with heap:=A}:=I.turned (t':=s.toks) (λb o g e=>(sb.2 b g).trans e) G J L M N;rw[<- T,show(n:Int)-1-(i:Nat)-1=(n:Int)-1-((i+1:Nat):Nat) by lia]at q;let⟨o,e,c,d⟩:=id q;show⟨u,rfl,sY (s:={s with heap:=A}) e c d ⋯ ⟨x,H,I1,ru,⟨rfl,λys hy=>by rw[I.list_inj hy U];show Y⟩,q,λb g=>(B b g).1⟩⟩
 done:=by intro X Q hw O hc i y s Z H E I B st R;subst Q hw O;let hg':i=n:=R;let⟨G,J,f2,L,M,N⟩:=B j ∅;rw[show(n:Int)-1-(i:Nat)=-1 by lia]at st;show wpAny_pyNext_rev_end (I.ok.hd hc) st λA eb=>⟨rfl,I.turned (t':=s.toks) (λb o g e=>eb b o g e) G J L M N⟩
 self:=λ_ f f f f st h=>Oh st h
abbrev TQ(K:Õ)(c:TA):TI:=λσ H R=>c σ H λvs b=>∃a xs,vs=[.ref a]/\Ą K b a xs/\R (Cg K a xs.length) b
open PyProof.Rows in
def TR{X:Cx}{tg a:Expr}{n:TA}{p pos:Į}(y:Gl X "reversed") (z:X.mg "reversed"=b4) (w:PA X [a] n)(B:ý [a] X.env=[(b5,eval a X.env)]):PI X tg (.Call (.Name "reversed" p) [a] [] pos) (TQ X.K n):=by
 intro i s L H R I h;show xx<|kG I y z Boot.«reversed»<|callWith_type1 (aW (w pos i s L H _ I h) λN c ⟨O,v,d,G,E⟩=>?_) B rfl;let⟨g,j,rfl,A,q⟩:=E;let⟨u,rfl,J⟩:=gU G;ext J;let⟨its,K,pl,M⟩:=d.list A;let k:=K.length;show Qo pl.isList ?_;let hit:(c.heap.push<|revObj g<|(its.toArray.size:Int)-1).IsRevIter c.heap.objs.size g ((its.toArray.size:Int)-1):=⟨_,ć _ rfl,rfl,rfl⟩;show Oh hit ?_;show⟨c.heap.objs.size,[c.heap.objs.size],_,_,v,rfl,d.kept (t':=c.toks) λb o e=>ß _ e,TN g _ j.length,?_,λb x=>?_,q⟩
 .let e:(j.length:Int)-1-((0:Nat):Int)=(its.toArray.size:Int)-1:=by dsimp[ğ];lia
  change Heap.IsRevIter _ _ _ ((j.length:Int)-1-((0:Nat):Int));rw[e];show hit
 .let e:b=c.heap.objs.size:=by apply x
  subst e;show d.fpOk (Ø _)<|d.hok.fresh<|Ø _
abbrev nT(a n:Nat):gW:=λb i=>match b[a]? with
 |some (.lst xs)=>if i<n then(xs[n-1-i]?).map b3 else if i=n then b3 b4 else b4|_=>b4
open _root_ in
def TU(u:a<n):Wk K (Cg K (π a) k) (nT a k) π n H:=by
 show⟨λb E j i e R z=>?_,λb E j i d e R z=>?_⟩
 .unfold nT at z;split at z
  .split at z
   .let⟨y,_,h⟩:=ţ.mp z;ext h
   .split at z
    .assumption
    .ext z
  .ext z
 .unfold nT at z;split at z
  .rename_i B x;split at z
   .rename_i hi;show cE z ?_;clear z;intro y A h;ext h;let⟨g,h1,q⟩:=R.lst a B x;rw[e.pi a u]at h1;let⟨w,c,s⟩:=q.get A;show⟨⟨hi,g,w,.of h1,c⟩,λv G ⟨o,p⟩=>?_⟩;subst o;have:=p g<|.of h1;rw[c]at this;ext this;show⟨.refl,R,s⟩
   .split at z
    .ext z
    .ext z
  .ext z
abbrev vW(b:MA):MI:=λd c=>(b d c).bind λp=>match p.1 with
 |[.loc a]=>match p.2[a]? with
  |some (.lst xs)=>b3 (nT a xs.length,xs.length+1,p.2)|_=>b4
 |_=>b4
open _root_ in
def TV(d:Gl X "reversed")(e:X.mg "reversed"=b4)(o:QA X [a] v n):QJ X (.Call (.Name "reversed" p) [a] [] pos) (vW v):=⟨λtg Do s σ H R I hw=>by
 let q:=o.s;rw[ō,ð]at q;let⟨Q,T,N,J,U,O,y,E,c,k⟩:=hw;show bR c ?_;clear c;intro x h h1 c;show TR d e o.h (iF q.1) Do s σ H R I ⟨Q,T,N,x,h,y,E,h1,λi Y w z j g=>?_⟩;dsimp at c;split at c
 .rename_i b;split at c
  .rename_i M u;ext c;cases g with
   |cons g K=>ext K;ext g;let⟨L,A,B⟩:=j.lst b M u;let G:=(â.mp u).1;show⟨_,L,rfl,.of A,?_⟩;rw[B.length];show k i w _ z j<|TU G
  .ext c
 .ext c⟩
abbrev TX:MF:=y8
abbrev TY:MF:=yZ
noncomputable abbrev bN:=List<|List Int×Addr×V
abbrev cI(ps:bN)(ws:gw):List (List Int×Addr×Value):=yr (λp w=>(p.1,p.2.1,w)) ps ws
def zB:∀(ps:bN)(ws:gw),yr xW ps ws=(cI ps ws).map (yj<|ϝ<|Ŵ P w)
 |[],_=>by simp[cI]
 |p::ps,[]=>by simp[cI]
 |p::ps,u::ws=>by let a:=zB (P:=P) (w:=w) ps ws;unfold cI at a ⊢;rw[ϖ,ϖ,ó,a];rfl
def oV:∀{ps}{ws},Å (ps.map (·.2.2)) ws->(cI ps ws).map (·.1)=ps.map (·.1)
 |[],_,_=>by simp[cI]
 |p::ps,_,.cons r t=>by let a:=oV (ps:=ps) t;unfold cI at a ⊢;rw[ϖ,ó,ó,a]
def Ci:∀{ps}{ws}{x},x∈cI ps ws->∃p∈ps,p.1=x.1/\p.2.1=x.2.1
 |[],_,x,h=>by simp[cI]at h
 |p::ps,[],x,h=>by simp[cI]at h
 |p::ps,u::ws,x,h=>by
  unfold cI at h;rw[ϖ]at h;rcases ĉ.mp h with e|h
  .subst e;show⟨p,š ..,rfl,rfl⟩
  .let⟨q,a,e⟩:=Ci (ps:=ps) (ws:=ws) h;show⟨q,Ō _ a,e⟩
abbrev fL(ps:bN)(k:List Int):Option V:=(ps.find? λp=>decide<|p.1=k).map (·.2.2)
abbrev e8(ps:bN)(k:List Int)(b:Addr)(v:V):bN:=if(fL ps k).isSome then ps.map (λp=>if p.1=k then(p.1,p.2.1,v)else p)else ps++[(k,b,v)]
def r6:∀{ps}{ws},Å (ps.map (·.2.2)) ws->∀k,ŏ (fL ps k) ((Ρ (cI ps ws) k).map (·.2))
 |[],_,.nil,k=>by simp[fL,cI,Ρ];show ϰ
 |p::ps,_,.cons r t,k=>by
  let a:=r6 (ps:=ps) t k;unfold fL Ρ cI at a ⊢;rw[ϖ,ű,ű];by_cases e:p.1=k
  .dsimp[e,decide_true];show r
  .dsimp[e,decide_false];show a
def vX ps k b v:(e8 ps k b v).length<=ps.length+1:=by ext e8;split<;>simp
def Hc(c:Ì v u):∀{ps}{ws},Å (ps.map (·.2.2)) ws->
  ∃a,Å ((ps.map λp=>if p.1=k then(p.1,p.2.1,v)else p).map (·.2.2)) a/\(cI ps ws).map (putAt k u)=cI (ps.map λp=>if p.1=k then(p.1,p.2.1,v)else p) a
 |[],_,.nil=>⟨[],.nil,by simp[cI]⟩|p::ps,_,.cons (b:=w) r t=>by
  let⟨a,h1,b⟩:=Hc c (ps:=ps) t;by_cases e:p.1=k
  .show⟨u::a,?_,?_⟩
   .rw[ó,ó,if_pos e];show .cons c h1
   .unfold cI at b ⊢;rw[ϖ,ó,b,ó,if_pos e,ϖ];ext putAt;rw[if_pos e]
  .show⟨w::a,?_,?_⟩
   .rw[ó,ó,if_neg e];show .cons r h1
   .unfold cI at b ⊢;rw[ϖ,ó,b,ó,if_neg e,ϖ];ext putAt;rw[if_neg e]
def Hd:∀{ps}{ws},Å (ps.map (·.2.2)) ws->cI ps ws++[(k,b,u)]=cI (ps++[(k,b,v)]) (ws++[u])
 |[],_,.nil=>by simp[cI]
 |p::ps,_,.cons r t=>by let a:=Hd (k:=k) (b:=b) (v:=v) (u:=u) (ps:=ps) t;unfold cI at a ⊢;rw[ϖ,ϧ,a,ϧ,ϧ,ϖ]
def zC(r:Å (ps.map (·.2.2)) ws)k b(c:Ì v u):
  ∃a,Å ((e8 ps k b v).map (·.2.2)) a/\ϛ (cI ps ws) k b u=cI (e8 ps k b v) a:=by
 let e:=(r6 r k).isSome_eq;rw[zc]at e;ext e8 ϛ;rw[e];by_cases h:(Ρ (cI ps ws) k).isSome=dI
 .rw[if_pos h,if_pos h];show Hc c r
 .rw[if_neg h,if_neg h];show⟨ws++[u],?_,Hd r⟩;rw[þ];show Ql r c
abbrev eQ(K:Õ)(H:Hp)(ps:bN):Prop:=∀p∈ps,å K H p.2.1 (p.1.map V.int)
def lU{σ:St}{ps:bN}(I:Â X Do σ H s)(e:Rd H a (aT a ps))(q:eQ X.K H ps):(a==ļ)=b5/\ps.length<=Ñ /\
  ∃b,Å (ps.map (·.2.2)) b/\s.heap.DictOfH (ϝ<|Ŵ X.prog X.w) a (cI ps b):=by
 obtain⟨⟨b,r,w,u,o,h,g,h1,i,j,k,n⟩,_⟩:=(show Þ X.prog X.w H s.heap a (aT a ps)from e.ok I.hok);show⟨w,u,b,r,o,h,g,h1,i,j,by rw[k];show zB ps b,λx y=>?_,by rw[oV r];show n⟩;let⟨p,v,c,d⟩:=Ci y;rw[<- c,<- d];show nP I<|q p v
def vY{ps:bN}(k:(a==ļ)=b5)(j:ps.length<=Ñ)(r:Å (ps.map (·.2.2)) ws)(d:h'.DictOfH (ϝ<|Ŵ P w) a (cI ps ws)):Þ P w n h' a (aT a ps):=by let⟨o,c,b,h1,e,g,h,_,i⟩:=d;show⟨⟨ws,r,k,j,o,c,b,h1,e,g,by rw[h,zB (P:=P) (w:=w)],by rw[<- oV r];show i⟩,⟨o,h1⟩,?_⟩;rintro q u ⟨ws,r,k,j,o,c,b,h1,e,g,h,i⟩ p;show⟨ws,r,k,j,o,c,b,p o h1,e,g,h,i⟩
def TZ{σ:St}{ps:bN}(I:Â X Do σ H s)(e:Rd H a (aT a ps))(b:eQ X.K H ps):s.TypeIs (.ref a) "dict":=by let⟨_,_,c,_,d⟩:=lU I e b;show d.typeIs
def r8{X:Cx}{A:ť}(b:A.units+1<ÿ):(ϝ<|Ŵ X.prog X.w).room A.in1:=by change A.in1.units<ÿ;rw[mP];lia
def TaI{σ:St}{ps:bN}(u:A.units+1<ÿ)(I:Â X Do σ H s)(e:Rd H a (aT a ps))(o:eQ X.K H ps)(n:å X.K H b (k.map V.int))(w:fL ps k=b3 v)(h:∀c j,Â X Do σ H j->Ì v c->Q c j):È (Í X.prog X.w) A (qu (.ref a)<|.ref b) Q E s:=by
 let⟨z,y,x,r,d⟩:=lU I e o;let⟨c,hw,i⟩:=ŏ.some_of (v:=v) (o:=(Ρ (cI ps x) k).map (·.2)) (by rw[<- w];show r6 r k);show cE hw ?_;clear hw;intro p q g;show wpAny_getItem_heap (r8 u) (nP I n) d q ?_;rw[g];show h c _ (I.tok _) i
def SfI{σ:St}{ps:bN}(n:A.units+1<ÿ)(I:Â X Do σ H s)(e:Rd H a (aT a ps))(i:eQ X.K H ps)(g:å X.K H b (k.map V.int))(h:∀c,Â X Do σ H c->Q (.bool (fL ps k).isSome) c):È (Í X.prog X.w) A (ĳ .In (.ref b)<|.ref a) Q E s:=by
 let⟨j,o,p,r,d⟩:=lU I e i;show wpAny_in_heap (r8 n) (nP I g) j d ?_;let q:=(r6 r k).isSome_eq;rw[zc]at q;rw[<- q];show h _<|I.tok _
def SPr{σ:St}{ps:bN}(n:A.units+1<ÿ)(I:Â X Do σ H s)(e:Rd H a (aT a ps))(i:eQ X.K H ps)(g:å X.K H b (k.map V.int))(h:∀c,Â X Do σ H c->Q (.bool<|!(fL ps k).isSome) c):È (Í X.prog X.w) A (ĳ .NotIn (.ref b)<|.ref a) Q E s:=by
 let⟨j,o,p,r,d⟩:=lU I e i;show b4C (r8 n) (nP I g) j d ?_;let q:=(r6 r k).isSome_eq;rw[zc]at q;rw[<- q];show h _<|I.tok _
def PaI{σ:St}{ps:bN}(z:A.units+1<ÿ)(I:Â X Do σ H s)(e:H a=b3 (aT a ps))(w:eQ X.K H ps)(o:å X.K H b (k.map V.int))(hz:ps.length<Ñ)(J:Ì v u)(h:∀i,Â X Do σ (upd H a<|aT a<|e8 ps k b v) i->Q Unit.unit i):È (Í X.prog X.w) A (setItem (.ref a) (.ref b) u) Q E s:=by
 let⟨y,M,K,r,d⟩:=lU I (.of e) w;let B:(cI ps K).length<=Ñ:=by have:=congrArg Ĭ<|oV r;rw[Ã,Ã]at this;lia
 show wpAny_setItem_heap (hsz:=B) (r8 z) (nP I o) d λn c g=>h _ ?_;let⟨L,G,j⟩:=zC r k b J;rw[j]at c;let p:∃q,n.get? a=b3 q:=let⟨q,_,_,x,_⟩:=c;⟨q,x⟩;show xR I (by rw[e];show ϰ) g p<|vY y (by have:=vX ps k b v;lia) G c
abbrev ì(K:Õ)(π:Nat->Addr)(n:Nat)(H:Hp):bN->jx->Prop:=Τ λp q=>p.1=q.1/\å K H p.2.1 (p.1.map V.int)/\Ú K π n H p.2.2 q.2
def MhI{k:List Int}(h:Ú K π n H (.ref b) (.tup<|k.map D.int)):å K H b (k.map V.int):=by
 cases h with
 |tup q t=>rw[Ģ t]at q;show q
def ì.of:∀{ps}{kvs},ps.map (·.1)=kvs.map (·.1)->Æ K π n H (ps.map λp=>V.ref p.2.1) (kvs.map λk=>D.tup<|k.1.map D.int)->Æ K π n H (ps.map (·.2.2)) (kvs.map (·.2))->ì K π n H ps kvs
 |[],[],_,_,_=>.nil|[],_::_,h,_,_=>by ext h
 |_::_,[],h,_,_=>by ext h
 |p::ps,q::kvs,h,h2,h3=>by
  cases h2 with
  |cons a b=>
   cases h3 with
   |cons c d=>rw[ó,ó,Rg]at h;show .cons ⟨h.1,?_,c⟩<|ì.of h.2 b d;rw[h.1];show MhI a
def ì.keys:∀{ps}{kvs},ì K π n H ps kvs->eQ K H ps
 |_,_,.nil=>λp a=>nomatch a|_,_,.cons h t=>λp a=>by
  rcases ĉ.mp a with e|a
  .subst e;show h.2.1
  .show ì.keys t p a
def ì.to:∀{ps}{kvs},ì K π n H ps kvs->ps.map (·.1)=kvs.map (·.1)/\Æ K π n H (ps.map λp=>V.ref p.2.1) (kvs.map λk=>D.tup<|k.1.map D.int)/\Æ K π n H (ps.map (·.2.2)) (kvs.map (·.2))
 |_,_,.nil=>⟨rfl,.nil,.nil⟩|_,_,.cons (a:=p) (b:=q) h t=>by let⟨h1,a,b⟩:=ì.to t;show⟨by rw[ó,ó,h.1,h1],.cons ?_ a,.cons h.2.2 b⟩;change Ú K π n H (.ref p.2.1) (.tup<|q.1.map D.int);rw[<- h.1];show .tup h.2.1<|Ca p.1
def ì.val k:∀{ps}{kvs},ì K π n H ps kvs->(fL ps k=b4/\a9 kvs k=b4)\/∃v d,fL ps k=b3 v/\a9 kvs k=b3 d/\Ú K π n H v d
 |_,_,.nil=>.inl ⟨rfl,rfl⟩|_,_,.cons (a:=p) (b:=q) h t=>by
  let a:=ì.val k t;unfold fL a9 at a ⊢;rw[ű,ű,<- h.1];by_cases e:p.1=k
  .dsimp[e,decide_true];show .inr ⟨_,_,rfl,rfl,h.2.2⟩
  .dsimp[e,decide_false];show a
def ì.put(h:ì K π n H ps kvs)k(i:å K H b (k.map V.int))(g:Ú K π n H v d):ì K π n H (e8 ps k b v) (cD kvs k d):=by
 let e:(fL ps k).isSome=(a9 kvs k).isSome:=by rcases h.val k with⟨h1,c⟩|⟨v,d,h1,c,_⟩<;>rw[h1,c]<;>rfl
 let a:∀{ps:bN}{kvs:jx},ì K π n H ps kvs->ì K π n H (ps.map λp=>if p.1=k then(p.1,p.2.1,v)else p) (kvs.map λp=>if p.1=k then(p.1,d)else p):=by
  intro ps kvs h;unfold ì at h;induction h with
  |nil=>show .nil|@cons p q ps o h t j=>
   rw[ó,ó];show .cons ?_ j;by_cases z:p.1=k
   .rw[if_pos z,if_pos<|h.1.symm.trans z];show⟨h.1,h.2.1,g⟩
   .rw[if_neg z,if_neg λy=>z<|h.1.trans y];show h
 ext e8 cD;rw[e];split
 .show a h
 .show Ql h ⟨rfl,i,g⟩
def jW{kvs:jx}(R:Rp K π H μ)(h:μ[a]?=b3 (.dT kvs)):∃ps,H (π a)=b3 (aT (π a) ps)/\ì K π μ.length H ps kvs:=by let⟨ps,h1,b,c,d⟩:=R.dT a kvs h;show⟨ps,h1,.of b c d⟩
def vZ{kvs:jx}(R:Rp K π H μ)(h:μ[a]?=b3 (.dF kvs)):∃ob ps,H (π a)=b3 (.frz ob<|aT (π a) ps)/\ì K π μ.length H ps kvs:=by let⟨ob,ps,h1,b,c,d⟩:=R.dF a kvs h;show⟨ob,ps,h1,.of b c d⟩
def qC(h:Ú K π n H v x)(e:dR x=b3 k):∃b,v=.ref b/\å K H b (k.map V.int):=by
 have:=vP e;subst this;cases h with
 |tup q t=>rw[Ģ t]at q;show⟨_,rfl,q⟩
abbrev iT:ME:=λ_ a=>b3 (.loc a.length,a++[.dT []])
def He(h:í)(a:ļ<h.objs.size):Þ P w H (h.push {cls:=.type "dict",data:=.dict #[]}) h.objs.size (aT h.objs.size []):=
 vY (ws:=[]) (beq_eq_false_iff_ne.mpr<|î<|û a) (ĵ _) .nil<|b4U h
abbrev MaI:TE:=λ_ H Q=>∀p,H p=b4->Q (.ref p) (upd H p<|aT p [])
def LqI:PE X (.Dict [] [] pos) MaI:=λDo s σ H Q I h=>wpAny_Dict_empty ⟨.ref s.heap.objs.size,_,I.laid (a:=s.heap.objs.size) (o:=aT s.heap.objs.size []) (t':=s.toks) (λ_ x q=>ß _ q) (Ø _)<|He s.heap I.big,rfl,h _<|I.hok.fresh<|Ø _⟩
def L0I:QE X (.Dict [] [] pos) iT:=⟨eP LqI<|by
 rintro o H Q ⟨j,n,i,d,g,R,E,c,k⟩ p e;ext c;let⟨b,a,h⟩:=R.alloc (c:=.dT []) (o:=aT p []) e ⟨[],rfl,rfl,.nil,.nil⟩;show k _ _ _ b a mO⟩
abbrev v7:D->D->Hm->jk
 |.loc a,y,μ=>match μ[a]? with
  |some (.dT kvs)=>(dR y).bind λk=>(a9 kvs k).map λd=>(d,μ)|some (.dF kvs)=>(dR y).bind λk=>(a9 kvs k).map λd=>(d,μ)|_=>b4
 |_,_,_=>b4
abbrev Hf(K:Õ):R2:=λx y H Q=>∃a b ps k v,x=.ref a/\y=.ref b/\Rd H a (aT a ps)/\eQ K H ps/\å K H b (k.map V.int)/\fL ps k=b3 v/\Q v H
def Ua(E:X.A.units+1<ÿ)(A:PE X a td)(hi:PE X b ty)(B:Fi b):PE X (.Subscript a b pos) (λσ H Q=>td σ H λx d=>ty σ d λy g=>Hf X.K x y g Q):=by intro c s σ H Q I h;show Fj Ry.lookup B<|aW (A c s σ H _ I h) λu O ⟨x,d,o,M,K⟩=>aW (hi c O σ d _ o K) λJ T ⟨y,g,j,N,a,b,R,k,v,q,w,e,n,z,G,L⟩=>?_;subst q w;obtain rfl:u=Ö a:=M;obtain rfl:J=Ö b:=N;show⟨TZ j e n,TaI E j e n z G λY U p i=>⟨v,g,p,i,L⟩⟩
open _root_ in
def Ub:eK K v7 (Hf K):=by
 intro A H L x y d G I J Q R u w c k;unfold v7 at c;split at c
 .split at c
  .rename_i n hc;show bZ c ?_;clear c;intro h h1 c;show cE c ?_;clear c;intro B g c;ext c;ext u;let⟨o,i,T⟩:=jW R hc;let⟨b,rfl,j⟩:=qC w h1;rcases T.val h with⟨_,z⟩|⟨v,E,p,q,s⟩
   .rw[z]at g;ext g
   .rw[q]at g;ext g;show⟨_,b,o,h,v,rfl,rfl,.of i,T.keys,j,p,k A _ H .refl R s⟩
  .rename_i n hc;show bZ c ?_;clear c;intro h h1 c;show cE c ?_;clear c;intro B g c;ext c;ext u;let⟨ob,o,i,T⟩:=vZ R hc;let⟨b,rfl,j⟩:=qC w h1;rcases T.val h with⟨_,z⟩|⟨v,E,p,q,s⟩
   .rw[z]at g;ext g
   .rw[q]at g;ext g;show⟨_,b,o,h,v,rfl,rfl,.inr ⟨ob,i⟩,T.keys,j,p,k A _ H .refl R s⟩
  .ext c
 .ext c
def Uc(g:ç k X.A)(c:QE X a ma)(d:QE X b mb)(h:rP b=dI):QE X (.Subscript a b pos) (aA v7 ma mb):=⟨eP (Ua (iR g) c.h d.h<|BQ h)<|vG Ub⟩
abbrev Ud(K:Õ)(td ty tv:TE):TS:=λD σ H=>tv σ H λv d=>td σ d λx g=>ty σ g λy c=>∃a b ps k,x=.ref a/\y=.ref b/\c a=b3 (aT a ps)/\eQ K c ps/\å K c b (k.map V.int)/\ps.length<Ñ/\D.nx σ (upd c a<|aT a<|e8 ps k b v)
def Ue(K:X.A.units+1<ÿ)(G:PE X o td)(hi:PE X i ty)(L:PE X e tv)(J:fu e (b3<|.Subscript o i tpos) pos.line X.env=pure b5):
  PS X (.Assign [.Subscript o i tpos] e pos) (Ud X.K td ty tv):=by
 intro c s d H D I h;show wpAny_Assign_Subscript (aW (L c s d H _ I h) λr Z ⟨v,g,n,T,O⟩=>aW (G c Z d g _ n O) λu s2 ⟨x,j,p,U,Q⟩=>aW (hi c s2 d j _ p Q) λN s3 ⟨y,H3,q,Y,a,b,ps,k,z,A,e,E,B,M,R⟩=>?_) J;subst z A;obtain rfl:u=Ö a:=U;obtain rfl:N=Ö b:=Y;show PaI K q e E B M T λs4 w=>⟨d,_,w,R⟩
open _root_ in
def Ug(hr:ç g X.A)(ho:QE X o mo)(hi:QE X i mi)(he:QE X e me)(h:oR e=dI):QS X (.Assign [.Subscript o i tpos] e pos) (Cf vU mo mi me):=
 ⟨nI (Ue (b3H hr) ho.h hi.h he.h<|BS h)<|by
 rintro E σ H ⟨π,M,μ,fl,ρ',μ',R,p,c,k⟩;show bR c ?_;clear c;intro x j h1 c;show bR c ?_;clear c;intro y n h2 c;show bR c ?_;clear c;intro z I h3 c;show cE c ?_;clear c;intro μ4 d c;ext c;show⟨π,M,μ,x,j,R,p,h1,λJ v1 H1 q Y i1=>⟨J,M,j,y,n,Y,p.mono q,h2,λK v2 H2 s R2 i2=>⟨K,M,n,z,I,R2,(p.mono q).mono s,h3,λL v3 H3 u N i3=>?_⟩⟩⟩;cases y with
 |loc a=>
  dsimp[vU]at d;split at d
  .rename_i B hc;show bZ d ?_;clear d;intro g h5 d;split at d
   .rename_i hz;ext d;let A:=i2.mono u;cases A with
    |loc v=>
     let⟨G,Q,T⟩:=jW N hc;let⟨b,rfl,U⟩:=qC i3 h5;let hv:=(i1.mono s).mono u;let T':=T.put g U hv;let⟨g1,g2,g3⟩:=T'.to;let w:G.length<Ñ:=by have:=congrArg Ĭ (T.to).1;rw[Ã,Ã]at this;lia
     show⟨_,b,G,g,rfl,rfl,Q,T.keys,U,w,?_⟩;let⟨O,Z⟩:=N.put (c:=.dT (cD B g x)) (o:=aT _ (e8 G g b v1)) v Q (.inr<|.inr ⟨_,rfl⟩) ⟨_,rfl,g1,g2,g3⟩;show k L σ _ (((q.trans s).trans u).trans O) Z<|(((p.mono q).mono s).mono u).mono O
   .ext d
  .ext d
 |_=>simp[vU]at d⟩
abbrev v8(b:Bool):D->D->Hm->jk
 |x,.loc a,μ=>match μ[a]? with
  |some (.dT kvs)=>(dR x).map λk=>(.bl<|if b then !(a9 kvs k).isSome else(a9 kvs k).isSome,μ)|some (.dF kvs)=>(dR x).map λk=>(.bl<|if b then !(a9 kvs k).isSome else(a9 kvs k).isSome,μ)|_=>b4
 |_,_,_=>b4
abbrev Cj(K:Õ)(c:Bool):R2:=λx y H Q=>∃a b ps k,x=.ref b/\y=.ref a/\Rd H a (aT a ps)/\eQ K H ps/\å K H b (k.map V.int)/\Q (.bl<|if c then !(fL ps k).isSome else(fL ps k).isSome) H
def Hg(j:X.A.units+1<ÿ):ď X (ĳ .In) (Cj X.K b5):=by intro d s z H x y v u Q I n o h;let⟨a,b,p,k,rfl,rfl,e,i,g,q⟩:=h;obtain rfl:v=Ö b:=n;obtain rfl:u=Ö a:=o;show SfI j I e i g λw c=>⟨.bl _,H,c,rfl,q⟩
def Hh(j:X.A.units+1<ÿ):ď X (ĳ .NotIn) (Cj X.K dI):=by intro d s z H x y v u Q I n o h;let⟨a,b,p,k,rfl,rfl,e,i,g,q⟩:=h;obtain rfl:v=Ö b:=n;obtain rfl:u=Ö a:=o;show SPr j I e i g λw c=>⟨.bl _,H,c,rfl,q⟩
open _root_ in
def zD:eK K (v8 i) (Cj K i):=by
 intro s H A x y d u w z Q R p q a k;unfold v8 at a;split at a
 .split at a
  .rename_i g hc;show cE a ?_;clear a;intro c h1 a;ext a;ext q;let⟨j,n,T⟩:=jW R hc;let⟨b,rfl,o⟩:=qC p h1;let e:(fL j c).isSome=(a9 g c).isSome:=by rcases T.val c with⟨h1,h⟩|⟨v,d,h1,h,_⟩<;>rw[h1,h]<;>rfl
   show⟨_,b,j,c,rfl,rfl,.of n,T.keys,o,?_⟩;rw[e];show k s _ H .refl R<|.bl _
  .rename_i g hc;show cE a ?_;clear a;intro c h1 a;ext a;ext q;let⟨ob,j,n,T⟩:=vZ R hc;let⟨b,rfl,o⟩:=qC p h1;let e:(fL j c).isSome=(a9 g c).isSome:=by rcases T.val c with⟨h1,h⟩|⟨v,d,h1,h,_⟩<;>rw[h1,h]<;>rfl
   show⟨_,b,j,c,rfl,rfl,.inr ⟨ob,n⟩,T.keys,o,?_⟩;rw[e];show k s _ H .refl R<|.bl _
  .ext a
 .ext a
abbrev ø(h:í)(d:Addr)(es:Array DictEntry)(ep:Nat):Prop:=∃z,h.get? d=b3 z/\z.ExactDict/\z.data=.dict es ep
def ø.ty{s:Ù}{es ep}(g:ø s.heap d es ep):s.TypeIs (.ref d) "dict":=let⟨z,a,b,_⟩:=g;⟨z,a,b.1⟩
def ø.stay{es ep}(g:ø h d es ep)(k:∀o,h.get? d=b3 o->h'.get? d=b3 o):ø h' d es ep:=let⟨z,a,b⟩:=g;⟨z,k z a,b⟩
def ø.lt{h:í}{d:Addr} {es ep} (g:ø h d es ep):d<h.objs.size:=let⟨_,a,_⟩:=g;Ý a
def Hi(lo:(d==ļ)=b5)(g:ø s.heap d es ep)(q:Q (.ref s.heap.objs.size) {s with heap:=s.heap.push {cls:=.type "dict_keyiterator",data:=.fields #[.ref d,.int 0 0,.int es.size 0,.int ep 0]}}):È (Í P w) A (JF<|.ref d) Q E s:=by
 let⟨z,a,c,b⟩:=id g;show OT g.ty F.slot_dict_iter<|Θ F.slot_dict_iter g.ty F.entry_dict_iter ?_<|F.args_dict_iter_1 _;unfold Builtin.«dict.__iter__» b5a;show Á<|Á<|vh g.ty ?_;change È _ _ (pure<|Ö d) _ _ _;show Ê ?_;change È _ _ (ou d >>= _) _ _ _;ext ou;rw[if_neg λx=>ô<|lo.symm.trans x];show Á<|Ê<|Á<|ϒ a b<|Á<|gj a b<|Á<|ź<|Ê ?_;show⟨_,rfl,"dict_keyiterator",_,⟨_,ć _ rfl,rfl⟩,F.slot_dict_keyiterator_next.lookup,by simpa[ř]using q⟩
def zE(v:A.handled=b4)(j:s.heap.IsKeyIter it d i es.size ep)(g:ø s.heap d es ep)(G:∀e a,es[i]?=b3 e->a.IsKeyIter it d (i+1) es.size ep->Κ it s.heap a->Q (b3 e.key) {s with heap:=a})(H:es[i]?=b4->∀a,R8 it s.heap a->Q b4 {s with heap:=a}):È (Í P w) A (ş<|.ref it) Q E s:=by
 let⟨y,c,B,b⟩:=id j;let⟨z,n,I,o⟩:=id g;let k:∀{Q:String->Ù->Prop}{A:ť}{E:Value->Ù->Prop},Q "dict_keyiterator" s->È (Í P w) A (OG<|.ref it) Q E s:=λq=>wpAny_typeNameOfWhole_keyiter j.typeIs q;ext ş;show Á<|N3<|vp (name:=Ű "__next__") j.typeIs F.slot_dict_keyiterator_next<|Θ F.slot_dict_keyiterator_next j.typeIs F.entry_dict_keyiterator_next ?_<|F.args_dict_keyiterator_next_1 _;show Á<|Ê<|Á<|Á<|Á<|k<|Ê<|Á<|OB c b ?_;rw[show M1 "dict_keyiterator"=b5 by decide,if_neg ô];change È _ _ (if(Ö d==Ľ)=dI then _ else _) _ _ _;rw[if_neg<|show ¬ (Ö d==Ľ)=dI from λx=>ô x];show Á<|Ê<|Á<|ϒ n o ?_;rw[if_neg λx=>by simp at x];show Á<|Ê<|Á<|gj n o ?_;rw[if_neg λx=>by simp at x];show Ê ?_;dsimp;rw[if_neg<|show ¬ ((i:Int)<0) by lia,bw];cases p:es[i]? with
 |some e=>
  show Á<|Á<|k<|Ê<|Á<|RK j.typeIs ?_;change È _ _ (qw (.ref it) 1 (ř<|(i:Int)+1) >>= _) _ _ _;show Á (my c b ∅ ?_);let h:(s.heap.update it<|MY (·.setIfInBounds 1<|ř<|(i:Int)+1)).IsKeyIter it d (i+1) es.size ep:=
   ⟨_,ϓ _ c<|PD<|uo b _,(Oz ..).trans B,by simp[uo b,ř]⟩
  generalize hu:s.heap.update it (MY (·.setIfInBounds 1<|ř<|(i:Int)+1))=u at h;show Á<|Ŀ<|Á<|RK (s:={s with heap:=u}) h.typeIs ?_;change È _ _ (pure e.key) _ _ _;show Ê<|Ê ⟨_,rfl,Ê<|G e u p h<|hu▸Ż ..⟩
 |none=>show Á<|Á<|k<|Ê ?_;change È _ _ (qw (.ref it) 0 .none >>= _) _ _ _;show Á (my c b ∅ ?_);change È _ _ (fB (.type "StopIteration") [] >>= _) _ _ _;dsimp[fB,ye];show Á (Á<|ź ?_<|by size_fits);show Á (m:=gh _ _) (mD (a:=Ľ) (by first|rfl|(dsimp[gh];rfl))<|ź ?_<|by size_fits);ext M8;show Á<|N4 ?_;rw[show A.in1.handled=b4 from v];show Á<|Ê<|ML ?thrown;case thrown=>show Á<|mX (T:="StopIteration") (b:=dI) ⟨_,ć _ rfl,rfl⟩ MW<|Ê<|H p _<|((Ż ..).extBut.push _).push _
def Uh(p:A.handled=b4)(n:d≠it)es ep:Walks P w A it [it,d] [it] es.size (λi v=>∃e,es[i]?=b3 e/\v=e.key) (λi h=>h.IsKeyIter it d i es.size ep/\ø h d es ep) where
 sub:=λb a=>by rw[Ē.mp a];show š ..
 frame:=λ_ f f st k=>⟨st.1.at λo e=>k it ∅ o e,st.2.stay λo e=>k d ∅ o e⟩
 item:=λi s Q E hi st q=>zE p st.1 st.2 (λe j c y u=>q _ j s.toks ⟨e,c,rfl⟩ ⟨y,st.2.stay λo g=>u.extBut d o n g⟩ λb o a g=>u.extBut b o (λz=>a<|by simp[z]) g) λc=>by simp at c;lia
 done:=λs Q E st q=>zE p st.1 st.2 (λe j c=>by simp at c) λ_ j x=>q j s.toks λb o a g=>x b o (λz=>a<|by simp[z]) g
 self:=λ_ f f f st q=>Qb st.1 q
def Hj(lo:(d==ļ)=b5):PySem.W.KdlSrc P w "dict" d d es.size (λi v=>∃e,es[i]?=b3 e/\v=e.key) (λh=>ø h d es ep) where
 type:=λ_ g=>g.ty
 there:=λ_ g=>⟨g.lt,g.lt⟩
 keep:=λ_ x g k=>g.stay λo e=>k d (.inl rfl) o e
 notList:=⋯
 notTuple:=⋯
 hint:=λ_ x x x g q=>PySem.W.kdl_hint_dict g.ty q
 iter:=λ_ x a g=>⟨_,_,(λ_ x q=>Hi lo g q),Uh a (û g.lt) es ep,⟨⟨_,ć _ rfl,rfl,rfl⟩,g.stay λo e=>ß _ e⟩⟩
def Ui(lo:(d==ļ)=b5):yd P w (Builtin.«dict.__len__» ⟨[.ref d],[]⟩) (λ_ R s=>∃es ep,ø s.heap d es ep/\R (.ok<|.ret<|.int (es.size:Nat) s.toks) {s with toks:=s.toks+1}):=
 .of_wp λA R s ⟨es,ep,⟨z,a,c,b⟩,q⟩=>by change È _ _ (dictSize d >>= _) _ _ _;ext dictSize;show Á<|Á<|ϒ a b<|Ê ?_;change È _ _ (b4X d >>= _) _ _ _;show Á<|wpAny_pendingCount_other lo<|wpAny_ret_mkInt ?_;rw[Nat.add_zero];show q
def Uj{s:Ù}(lo:(d==ļ)=b5)(g:ø s.heap d es ep)(hz:es.size<=Ñ)(q:Q (.int (es.size:Nat)<|s.toks+1) {s with toks:=s.toks+1+1}):È (Í P w) A (call (.builtin "len") [.ref d]) Q E s:=
 b4L g.ty F.slot_dict_len (λb a=>lu F.slot_dict_len g.ty F.entry_dict_len (F.args_dict_len_1 _) (Ui lo) ⟨es,ep,g,a⟩) () (by rw[ï]at hz;lia) q
def Ck:∀{ps}{ws},Å (ps.map (·.2.2)) ws->(cI ps ws).map (λx=>Ö x.2.1)=ps.map λp=>Ö p.2.1
 |[],_,_=>by simp[cI]
 |p::ps,_,.cons r t=>by let a:=Ck (ps:=ps) t;unfold cI at a ⊢;rw[ϖ,ó,ó,a]
def Hk:∀ps:bN,Å (ps.map λp=>V.ref p.2.1) (ps.map λp=>Ö p.2.1)
 |[]=>.nil|p::ps=>.cons rfl<|Hk ps
def v9{σ:St}{ps:bN}(I:Â X Do σ H s)(e:H a=b3 (aT a ps))(g:eQ X.K H ps):(a==ļ)=b5/\ps.length<=Ñ/\∃es ep,ø s.heap a es ep/\es.toList.map (·.key)=ps.map λp=>Ö p.2.1:=by let⟨i,h,j,r,z,es,ep,h1,b,c,d,_⟩:=lU I (.of e) g;show⟨i,h,es,ep,⟨z,h1,b,c⟩,?_⟩;rw[d,ã,<- Ck r];rfl
abbrev Hl(K:Õ):gz->Hp->VK->Prop:=λxs H Q=>∃a ps,xs=[V.ref a]/\H a=b3 (aT a ps)/\eQ K H ps/\Q (.int ps.length) H
def Uk:Ü X (.builtin "len") (Hl X.K):=by
 intro Do s σ H v p Q I r h;let⟨a,ps,rfl,c,e,q⟩:=h;let⟨u,rfl,k⟩:=gU r;ext k;let⟨j,o,b,n,g,d⟩:=v9 I c e;let i:b.size=ps.length:=by have:=congrArg Ĭ d;apply this
 show Uj j g () ?_;rw[i];show⟨.int ps.length,H,(I.tok _).tok _,⟨_,rfl⟩,q⟩
abbrev Hn(K:Õ):gz->Hp->VK->Prop:=λxs H Q=>∃a ps,xs=[V.ref a]/\H a=b3 (aT a ps)/\eQ K H ps/\∀l,H l=b4->Q (.ref l) (upd H l<|.lst<|ps.map λp=>V.ref p.2.1)
def Ul(hc:X.calm=dI):Ü X (.type "list") (Hn X.K):=by
 intro Do s σ H O N Q I r h;let⟨a,ps,rfl,y,z,q⟩:=h;let⟨u,rfl,G⟩:=gU r;ext G;let⟨E,A,o,K,g,d⟩:=v9 I y z;let M:o.size=ps.length:=by have:=congrArg Ĭ d;apply this
 show PySem.W.kdl_call (Hj E) (I.ok.hd hc) g () λL J b k B x c=>?_;show⟨.ref s.heap.objs.size,_,I.laid (t':=J) (a:=s.heap.objs.size) (o:=.lst (ps.map λp=>V.ref p.2.1)) B (Ø _) ?_,rfl,q _<|I.hok.fresh<|Ø _⟩;show⟨by rw[Ã];show A,b.toList,k,?_,by apply x⟩;let n:b.toList=ps.map λp=>Ö p.2.1:=by
  rw[<- d];show P1 λi=>?_;rw[ú,ϸ,ϸ];cases j:b[i]? with
  |some v=>let⟨e,h1,w⟩:=c.2 i v j;rw[h1,w];rfl|none=>
   have:b.size<=i:=by apply j
   rw[P5<|by rw[<- c.1];show this];rfl
 rw[n];show Hk ps
open _root_ in
def Um(n:ç k X.A)(g:QE X a ma)(j:QE X b mb)(h:rP b=dI):QE X (.Subscript a b pos) (aA bG ma mb):=
 rR (Uc n g j h) (b0s g j h)<|kQ λx y p r c=>by
  unfold bG at c;split at c
  .split at c
   .rename_i d hc;show .inl ?_;dsimp[v7,hc];show c
   .rename_i d hc;show .inl ?_;dsimp[v7,hc];show c
   .show .inr c
  .show .inr c
abbrev tY(c:Bool):D->D->Hm->jk:=λx y d=>match v8 c x y d with
 |some r=>b3 r|none=>rS c x y d
open _root_ in
def zF x y d r(h:tY c x y d=b3 r):v8 c x y d=b3 r\/rS c x y d=b3 r:=by
 unfold tY at h;split at h
 .rename_i z;rw[z];show .inl h
 .show .inr h
def Ho x y n r(h:eH g x y n=b3 r):(∃i j,x=.str i/\y=.str j)\/tY g x y n=b3 r:=by
 cases y with
 |loc a=>
  show .inr ?_;let e:eH g x (.loc a) n=(match n[a]? with
   |some (.dT d)=>(dR x).map λk=>(D.bl<|if g then !(a9 d k).isSome else(a9 d k).isSome,n)|some (.dF d)=>(dR x).map λk=>(D.bl<|if g then !(a9 d k).isSome else(a9 d k).isSome,n)
   |_=>rS g x (.loc a) n):=by ext x<;>rfl
  rw[e]at h;ext tY;dsimp[v8];cases hc:n[a]? with
  |none=>rw[hc]at h;show h|some c=>
   rw[hc]at h;cases c with
   |dT d=>dsimp at h ⊢;rw[h]|dF d=>dsimp at h ⊢;rw[h]|_=>show h
 |str j=>
  cases x with
  |str i=>show .inl ⟨i,j,rfl,rfl⟩|_=>show .inr h
 |_=>ext x<;>show .inr h
def Hq x y c r(h:eH b5 x y c=b3 r):BM x y c=b3 r\/tY b5 x y c=b3 r:=by
 rcases Ho x y c r h with⟨i,j,rfl,rfl⟩|z
 .show .inl h
 .show .inr z
def Hr x y c r(h:eH dI x y c=b3 r):B3 x y c=b3 r\/tY dI x y c=b3 r:=by
 rcases Ho x y c r h with⟨i,j,rfl,rfl⟩|z
 .show .inl h
 .show .inr z
def Uo(g:ç k X.A)(c:QE X a ma)(d:QE X b mb)(h:jC b=dI):QE X (.Compare a [.In] [b] pos) (aA (eH b5) ma mb):=
 rR ⟨iM EV F7 c.h d.h<|lP h⟩ (rR ⟨iM (Hg<|iR g) zD c.h d.h<|lP h⟩ ⟨iM (Gz<|yQ g) yO c.h d.h<|lP h⟩<|kQ zF)<|kQ Hq
def Up(g:ç k X.A)(c:QE X a ma)(d:QE X b mb)(h:jC b=dI):QE X (.Compare a [.NotIn] [b] pos) (aA (eH dI) ma mb):=
 rR ⟨iM Ft GB c.h d.h<|lP h⟩ (rR ⟨iM (Hh<|iR g) zD c.h d.h<|lP h⟩ ⟨iM (GA<|yQ g) yO c.h d.h<|lP h⟩<|kQ zF)<|kQ Hr
def Uq(g:ç k X.A)(c:QE X a ma)(d:QE X b mb)(h:jC b=dI):QT X (.Compare a [.In] [b] pos) (a7<|aA (eH b5) ma mb):=
 tQ ⟨iN EV F7 c.h d.h<|lP h⟩ (tQ ⟨iN (Hg<|iR g) zD c.h d.h<|lP h⟩ ⟨iN (Gz<|yQ g) yO c.h d.h<|lP h⟩<|tR<|kQ zF)<|tR<|kQ Hq
def Ur(g:ç k X.A)(c:QE X a ma)(d:QE X b mb)(h:jC b=dI):QT X (.Compare a [.NotIn] [b] pos) (a7<|aA (eH dI) ma mb):=
 tQ ⟨iN Ft GB c.h d.h<|lP h⟩ (tQ ⟨iN (Hh<|iR g) zD c.h d.h<|lP h⟩ ⟨iN (GA<|yQ g) yO c.h d.h<|lP h⟩<|tR<|kQ zF)<|tR<|kQ Hr
def Us(g:ç k X.A)(d:QE X o mo)(hi:QE X i mi)(c:QE X e me)(h:oR e=dI):QS X (.Assign [.Subscript o i tpos] e pos) (eM mo mi me):=Ug g d hi c h
abbrev jX(x y:D):gW:=λa i=>(bO a x).bind λxs=>(bO a y).map λb=>(xs[i]?).bind λd=>(b[i]?).map λe=>.tup [d,e]
def Hs(R:Rp K π H j)(h:Ú K π j.length H v x)(k:eX j x=b3 xs):∃p,v=.ref p/\(∃vs,Ą K H p vs) /\
  ∀c a d,ò π j.length H c a.length d->Rp K c d a->∀i,bO a x=b3 i->∃g,Ą K d p g/\Æ K c a.length d g i:=by
 let⟨p,vs,rfl,w,_⟩:=rX R h k;show⟨p,rfl,⟨vs,w⟩,λc a d e o i n=>?_⟩;let u:eX a x=b3 i:=by
  cases x with
  |rol A=>show n|loc b=>show n|_=>ext k
 let⟨z,g,s,y,q⟩:=rX o (h.mono e) u;ext s;show⟨g,y,q⟩
def Ut:ym (.type "tuple") "keys"=pure none:=by rw[OF,Oq];kernel_rfl
def Uu(g:s.heap.get? a=b3 o)(j:o.cls=.type "tuple")(n:o.data=.seq xs k)(p:o.dict=b4)(hA:A.handled=b4)(q:∀h v,(∀b u,s.heap.get? b=b3 u->h.get? b=b3 u)->Q b4 {s with heap:=h,toks:=v}):È (Í P w) A (getAttr? (.ref a) "keys") Q E s:=by
 let⟨c,y,x,I⟩:=o;dsimp at j n p;subst j n p;let⟨G,B,z,v,H⟩:=s;let ty:∀d,(⟨G,B,z,d,H⟩:Ù).TypeIs (.ref a) "tuple":=λ_=>⟨_,g,rfl⟩;let J:=sub_AttributeError;let K:=F.slot_tuple_getattribute.lookup;let L:=F.slot_tuple_getattribute.bind<|.ref a;let M:=am_tuple_getattr_none;unfold getAttr? getAttrBy? getAttrBy;repeat (any_goals (first|assumption|show ty _|((with_reducible change È _ _ (call (ϟ "tuple.__getattribute__") _ _) _ _ _);show yh F.slot_tuple_getattribute (ty _) am_entry_tuple_getattribute (F.args_tuple_getattribute_2 _ _) (meets_getattribute_miss_tuple a xs k I "keys" _ Ut<|by decide +kernel) ⟨g,hA,λh d e ne=>?_⟩)|wp_step))
 let⟨N,O,i⟩:=ne.there;change È _ _ (Qp _ _ _ _ b4 b5 b5) _ _ _;ext Qp;repeat (any_goals (first|assumption|wp_step))
 show q _ _ ne.of.keeps
def Ht:entryFor table "dict.update.loop"=b3 Builtin.«dict.update.loop»:=entryFor_of_tree ""
def zG:plainId "dict.update.loop"=true:=by decide +kernel
abbrev r9(ps:bN):List (Addr×List Int×Addr×V)->bN
 |[]=>ps|r::L=>r9 (e8 ps r.2.1 r.2.2.1 r.2.2.2) L
def Uv{σ:St}{ps:bN}(G:A.units<ÿ)(I:Â X Do σ H s)(e:H d=b3 (aT d ps))(y:eQ X.K H ps)(w:å X.K H b (k.map V.int))(hz:ps.length<Ñ)(L:Ì v u)(h:∀i,Â X Do σ (upd H d<|aT d<|e8 ps k b v) i->(∀c o,c≠d->s.heap.get? c=b3 o->i.heap.get? c=b3 o)->Q Unit.unit i):È (Í X.prog X.w) A (dictSet d (.ref b) u) Q E s:=by
 let⟨B,O,M,r,j⟩:=lU I (.of e) y;let J:(cI ps M).length<=Ñ:=by have:=congrArg Ĭ<|oV r;rw[Ã,Ã]at this;lia
 show wpAny_dictSet_heap (hsz:=J) (show(ϝ<|Ŵ X.prog X.w).room A from G) (nP I w) j λp g a=>h _ ?_ λc o hc e=>a.extBut c o hc e;let⟨N,K,n⟩:=zC r k b L;rw[n]at g;let x:∃q,p.get? d=b3 q:=let⟨q,_,_,z,_⟩:=g;⟨q,z⟩;show xR I (by rw[e];show ϰ) a x<|vY B (by have:=vX ps k b v;lia) K g
def wA{ps:bN}(e:H d=b3 (aT d ps))(h:å K H b vs):å K (upd H d o) b vs:=by
 let ne:∀{u},H b=b3 u->(∀a,u≠aT d a)->b≠d:=λz f y=>by rw[y,e]at z;ext z;show f ps rfl
 rcases h with(h|⟨ob,h⟩)|h
 .show .inl<|.inl<|by rw[bQ<|ne h λ_ z=>by ext z];show h
 .show .inl<|.inr ⟨ob,by rw[bQ<|ne h λ_ z=>by ext z];show h⟩
 .show .inr h
def Uw(h:eQ K H ps)(g:å K H b (k.map V.int)):eQ K H (e8 ps k b v):=by
 intro p a;unfold e8 at a;split at a
 .let⟨d,c,e⟩:=Ô.mp a;by_cases z:d.1=k
  .rw[if_pos z]at e;subst e;show h d c
  .rw[if_neg z]at e;subst e;show h d c
 .rcases Ħ.mp a with a|a
  .show h p a
  .rw[Ē.mp a];show g
def Hu:upd (upd H d o) d a=upd H d a:=by
 funext b;ext upd;split
 .rfl
 .rfl
def Ux{Q:gw->Ù->Prop}(h:J4 s.heap p xs)(q:Q xs.toList s):È (Í P w) A (S5<|.ref p) Q E s:=by let⟨o,g,c,n,a⟩:=h;let ty:s.TypeIs (.ref p) "tuple":=⟨o,g,c⟩;ext S5;show Á<|yw ty ?_;rw[if_pos ⋯];ext fj;show Á<|Á<|MH g ?_;rw[a];show Ê<|Ê q
open _root_ in
def Uy{σ:St}(hh:A.handled=b4)(hu:A.in1.units<ÿ):∀L i(ps:bN)H s,Â X Do σ H s->H d=b3 (aT d ps)->eQ X.K H ps->å X.K H t ys->ys.drop i=L.map (λr=>V.ref r.1)->
  (∀r∈L,å X.K H r.1 [.ref r.2.2.1,r.2.2.2]/\å X.K H r.2.2.1 (r.2.1.map V.int))->kH X Do H it->s.heap.IsTupleIter it t i->ps.length+L.length<=Ñ->
  (∀G,Â X Do σ (upd H d<|aT d<|r9 ps L) G->R (.ok<|.ret .none) G)->ο (Í X.prog X.w) A (.builtin "dict.update.loop" ⟨[.ref d,.ref it,ř i,.none],[]⟩) R s:=by
 intro L;induction L with
 |nil=>
  intro i ps H s I e O y hd B N st T q;let⟨its,Z,p,U⟩:=I.tuple y;let⟨h,k,f2,n,v,w⟩:=N;let hl:=Z.length;let hlen:ys.length<=i:=by have:=congrArg Ĭ hd;simp at this;lia
  show ϴ Ht ?_;rw[Ϸ zG _];change È _ A.in1 (ş (.ref it) >>= _) _ _ s;show Á (Qv hh st (show s.heap.IsTuple t its.toArray from p) (by simp;lia) λJ eb=>?_);let j:Â X Do σ H {s with heap:=J}:=I.turned (t':=s.toks) (λb o K e=>eb b o K e) h k n v w;change È _ _ (Sa d [] >>= _) _ _ _;show Á<|Ê<|Ê<|q _ ?_;have:upd H d (aT d<|r9 ps [])=H:=by
   funext b;ext upd;split
   .rename_i z;rw[z];show e.symm
   .rfl
  rw[this];show j
 |cons r L ih=>
  intro i ps H s I e O y hd B N st T q;let⟨its,Z,p,U⟩:=I.tuple y;let⟨h,k,f2,n,v,w⟩:=id N;let E:ys[i]?=b3 (.ref r.1):=by have:=congrArg (·[0]?) hd;apply this
  let⟨u,iR,ru⟩:=Z.get E;ext ru;show ϴ Ht ?_;rw[Ϸ zG _];change È _ A.in1 (ş (.ref it) >>= _) _ _ s;show Á (R6 st (show s.heap.IsTuple t its.toArray from p) (x:=.ref r.1) (by apply iR) λJ st' sb=>?_);let j:Â X Do σ H {s with heap:=J}:=I.turned (t':=s.toks) (λb o K e=>(sb.2 b K).trans e) h k n v w;let a:=B r<|š ..;let⟨its2,rv2,p2,_⟩:=j.tuple a.1;cases rv2 with
  |cons rk Y=>
   cases Y with
   |cons rw' Y=>
    ext Y;ext rk;rename_i w0;show Á<|Ŀ<|Á<|nA<|Ux p2 ?_;let Q:ps.length<Ñ:=by rw[ņ]at T;lia
    show Ŀ<|Uv hu j e O a.2 Q rw' λG I2 kp=>?_;show Ê ⟨Ϟ zG _,?_⟩;let bX:it≠d:=λz=>by rw[<- z,h]at e;ext e
    let c:∀x∈L,å X.K (upd H d<|aT d<|e8 ps r.2.1 r.2.2.1 r.2.2.2) x.1 [.ref x.2.2.1,x.2.2.2]/\å X.K (upd H d<|aT d<|e8 ps r.2.1 r.2.2.1 r.2.2.2) x.2.2.1 (x.2.1.map V.int):=λx E=>⟨wA e (B x<|Ō _ E).1,wA e (B x<|Ō _ E).2⟩;let M:ys.drop (i+1)=L.map (λr=>V.ref r.1):=by have:=congrArg List.tail hd;simpa[List.tail_drop]using this
    show ih (i+1) (e8 ps r.2.1 r.2.2.1 r.2.2.2) _ G I2 dW (Uw (λp hp=>wA e<|O p hp)<|wA e a.2) (wA e y) M c ⟨by rw[bQ bX];show h,k,f2,n,v,w⟩ (st'.at λo ho=>kp it o bX ho) ?_ λs'' g=>q s'' ?_
    .have:=vX ps r.2.1 r.2.2.1 r.2.2.2;rw[ņ]at T;lia
    .rw[Hu]at g;show g
abbrev Hv(K:Õ):gz->Hp->VK->Prop:=λxs H Q=>∃(t:Addr)(L:List (Addr×List Int×Addr×V)),xs=[V.ref t]/\å K H t (L.map λr=>V.ref r.1) /\
 (∀r∈L,å K H r.1 [.ref r.2.2.1,r.2.2.2]/\å K H r.2.2.1 (r.2.1.map V.int))/\∀d,H d=b4->Q (.ref d) (upd H d<|aT d<|r9 [] L)
def Uz(hc:X.calm=dI)(Y:X.A.units+64<ÿ):Ü X (.type "dict") (Hv X.K):=by
 intro d s N H xs us Q I r h;let⟨t,L,rfl,x,M,k⟩:=h;let⟨u,rfl,ru⟩:=gU r;ext ru;let K:H s.heap.objs.size=none:=I.hok.fresh<|Ø _;show Pn (Q₁:=λi c=>i=.ref s.heap.objs.size/\c={s with heap:=s.heap.push {cls:=.type "dict",data:=.dict #[]}}) F.kt_called_dict (F.kt_typeCall_dict_1 _) F.entry_dict_init (kt_code_dict_new _ ⟨rfl,rfl⟩) ?_;rintro i c ⟨rfl,rfl⟩;let E:Â X d N (upd H s.heap.objs.size<|aT s.heap.objs.size []) {s with heap:=s.heap.push {cls:=.type "dict",data:=.dict #[]}}:=I.laid (a:=s.heap.objs.size) (o:=aT s.heap.objs.size []) (t':=s.toks) (λ_ l q=>ß _ q) (Ø _)<|He s.heap I.big;let ty:({s with heap:=s.heap.push {cls:=.type "dict",data:=.dict #[]}}:Ù).TypeIs (.ref s.heap.objs.size) "dict":=⟨_,ć _ rfl,rfl⟩;show⟨ty,F.args_dict_init_2 _ _,?_⟩;unfold Builtin.«dict.__init__»;show Á ?_;ext Sb;show Á<|vh ty ?_;change È _ _ (pure (s.heap.objs.size,[Ö t])) _ _ _;show Ê ?_;change È _ _ (Nc "dict.__init__" s.heap.objs.size (.ref t) [] .none) _ _ _;ext Nc;let mono:∀{b:Addr}{vs:gz},å X.K H b vs->å X.K (upd H s.heap.objs.size<|aT s.heap.objs.size []) b vs:=λ{b vs} z=>by
  let ne:H b≠b4->b≠s.heap.objs.size:=λf y=>by rw[y]at f;show f K
  rcases z with(z|⟨ob,z⟩)|z
  .show .inl<|.inl<|by rw[bQ<|ne<|by rw[z];show λy=>nomatch y];show z
  .show .inl<|.inr ⟨ob,by rw[bQ<|ne<|by rw[z];show λy=>nomatch y];show z⟩
  .show .inr z
 let⟨its,rv,ob,G,J,n,R,T⟩:=E.tupN<|mono x;show Á<|yw ⟨ob,G,J⟩ ?_;rw[if_pos ⋯];show Á<|Uu G J R T (I.ok.hd hc) λw v Z=>?_;let j:Â X d N (upd H s.heap.objs.size<|aT s.heap.objs.size []) {s with heap:=w,toks:=v}:=E.kept (t':=v) Z;change È _ _ (rule _ >>= _) _ _ _;show Á<|Ϝ ?_;let⟨a,rv',p',A⟩:=j.tuple<|mono x;show Á<|um (t:=t) (items:=a.toArray) (show({s with heap:=w,toks:=v}:Ù).heap.IsTuple t a.toArray from p') ?_;let O:=j.kept (t':=v) (h':=w.push {cls:=.type "tuple_iterator",data:=.fields #[.ref t,.int 0 0]}) λb o e=>ß _ e;show Ê ⟨Ϟ zG _,?_⟩;show Uy (A:=X.A.in1) (I.ok.hd hc) ?_ L 0 [] _ _ O dW (λp U=>nomatch U) (mono x) rfl (λr g=>⟨mono (M r g).1,mono (M r g).2⟩) (j.fpOk (Ø _)<|j.hok.fresh<|Ø _) ⟨_,ć _ rfl,rfl,rfl⟩ ?_ λs' B=>?_
 .change X.A.units+1+1<ÿ;lia
 .have:=A;simp at this ⊢;show this
 .rw[Hu]at B;show⟨rfl,.ref s.heap.objs.size,_,B,rfl,k _ K⟩
abbrev tZ:List D->Option (jx)
 |[]=>b3 []|.tup [x,v]::r=>(dR x).bind λk=>(tZ r).map λl=>(k,v)::l|_::_=>b4
abbrev sC:MF:=λds a=>match ds with
 |[.tup xs]=>(tZ xs).map λl=>(.loc a.length,a++[.dT<|l.foldl (λq p=>cD q p.1 p.2) []])|_=>b4
noncomputable abbrev Hw(K:Õ)(π:Nat->Addr)(n:Nat)(H:Hp):List (Addr×List Int×Addr×V)->jx->Prop:=
 Τ λr p=>r.2.1=p.1/\å K H r.1 [.ref r.2.2.1,r.2.2.2]/\å K H r.2.2.1 (r.2.1.map V.int)/\Ú K π n H r.2.2.2 p.2
open _root_ in
def Hx:∀{xs}{ws}{l},Æ K π n H ws xs->tZ xs=b3 l->∃L,ws=L.map (λr=>V.ref r.1)/\Hw K π n H L l
 |[],_,_,.nil,h=>by ext h;show⟨[],rfl,.nil⟩
 |x::xs,_,l,.cons i t,h=>by
  unfold tZ at h;split at h
  .rename_i a;ext a
  .rename_i y v r a;ext a;show bZ h ?_;clear h;intro k d h;let⟨o,e,rfl⟩:=ţ.mp h;let⟨L,rfl,P⟩:=Hx t e;cases i with
   |tup q z=>
    cases z with
    |cons g z=>
     cases z with
     |cons j z=>ext z;let⟨b,rfl,c⟩:=qC g d;show⟨(_,k,b,_)::L,rfl,.cons ⟨rfl,q,c,j⟩ P⟩
  .ext h
def Hy:∀{L}{l},Hw K π n H L l->∀{ps}{kvs},ì K π n H ps kvs->ì K π n H (r9 ps L) (l.foldl (λq p=>cD q p.1 p.2) kvs)
 |_,_,.nil,_,_,h=>h|r::L,p::l,.cons e t,ps,kvs,h=>by let⟨a,_,b,c⟩:=e;change ì K π n H (r9 (e8 ps r.2.1 r.2.2.1 r.2.2.2) L) (l.foldl _<|cD kvs p.1 p.2);rw[<- a];show Hy t<|h.put r.2.1 b c
open _root_ in
def UA:eY K sC (Hv K):=by
 intro w H v n d o u Q R i a k;unfold sC at a;split at a
 .rename_i n;show cE a ?_;clear a;intro l h1 h;ext h;cases i with
  |cons i t=>
   ext t;cases i with
   |tup q z=>
    let⟨L,rfl,P⟩:=Hx z h1;show⟨_,L,rfl,q,?_,λd hd=>?_⟩
    .clear q z k h1;induction P with
     |nil=>show λr b=>nomatch b|cons e t j=>
      intro r b;rcases ĉ.mp b with rfl|b
      .show⟨e.2.1,e.2.2.1⟩
      .show j r b
    .have T:=Hy P (ps:=[]) (kvs:=[]) .nil;let⟨g,c,s⟩:=R.alloc (c:=.dT (l.foldl (λq p=>cD q p.1 p.2) [])) (o:=aT d (r9 [] L)) hd ⟨_,rfl,T.to.1,T.to.2.1,T.to.2.2⟩;show k _ _ _ g c mO
 .ext a
abbrev wu(h:í)(c d S:Addr)(i n ep:Nat):Prop:=∃(b ok g:Value)(e:Bool),h.get? c=b3 {cls:=.type "dict_itemiterator",dict:=b4,data:=.fields #[b,.bool e,.ref d,.int i 0,.int n 0,.int ep 0,ok,g],slots:=#[]} /\
 (b=.none\/∃(a:Addr)(o:Obj),b=ř a/\h.get? a=b3 o/\a≠c/\a≠S)
def wu.stay{i n ep}(j:wu h c d S i n ep)(q:c≠S)(k:∀b o,b≠S->h.get? b=b3 o->h'.get? b=b3 o):wu h' c d S i n ep:=by
 let⟨x,ok,s,p,e,r⟩:=j;show⟨x,ok,s,p,k _ _ q e,?_⟩;rcases r with r|⟨a,o,u,v,w,g⟩
 .show .inl r
 .show .inr ⟨a,o,u,k _ _ g v,w,g⟩
def Cm{i ep:Nat}(hh:A.handled=b4)(H:s.heap.get? it=b3 {cls:=.type "dict_itemiterator",dict:=b4,data:=.fields #[y,.bool O,.ref d,.int i 0,.int es.size 0,.int ep 0,ok,J],slots:=#[]})(jr:y=.none\/∃(a:Addr)(o:Obj),y=ř a/\s.heap.get? a=b3 o/\a≠it/\a≠S)(g:ø s.heap d es ep)(hS:S<s.heap.objs.size)(q1:∀e j,es[i]?=b3 e->wu j it d S (i+1) es.size ep->(y=.none->Mz j it d (i+1) es.size ep e.key e.val s.heap.objs.size)->j.get? s.heap.objs.size=b3 {cls:=.type "tuple",data:=.seq #[e.key,e.val]}->j.objs.size=s.heap.objs.size+1->(∀b o,b≠it->s.heap.get? b=b3 o->j.get? b=b3 o)->Q (b3<|.ref s.heap.objs.size) {s with heap:=j})(q2:es[i]?=b4->∀j,R8 it s.heap j->Q b4 {s with heap:=j}):È (Í P w) A (ş<|.ref it) Q E s:=by
 let⟨z,g1,g2,g3⟩:=id g;let ty:s.TypeIs (.ref it) "dict_itemiterator":=⟨_,H,rfl⟩;let⟨c,G,B,K,I⟩:=s;let Y:∀{Q:String->Ù->Prop}{A:ť}{E:Value->Ù->Prop},Q "dict_itemiterator" ⟨c,G,B,K,I⟩->È (Í P w) A (OG<|.ref it) Q E ⟨c,G,B,K,I⟩:=λq=>wpAny_typeNameOfWhole_itemiter ty q;ext ş;show Á<|N3<|vp (name:=Ű "__next__") ty F.slot_dict_itemiterator_next<|Θ F.slot_dict_itemiterator_next ty F.entry_dict_itemiterator_next ?_<|F.args_dict_itemiterator_next_1 _;show Á<|Ê<|Á<|Á<|Á<|Y<|Ê<|Á<|OB H rfl ?_;rw[show M1 "dict_itemiterator"=dI by decide,if_pos rfl];change È _ _ (if(Ö d==Ľ)=dI then _ else _) _ _ _;rw[if_neg<|show ¬ (Ö d==Ľ)=dI from λx=>ô x];show Á<|Ê<|Á<|ϒ g1 g3 ?_;rw[if_neg λx=>by simp at x];show Á<|Ê<|Á<|gj g1 g3 ?_;rw[if_neg λx=>by simp at x];show Ê ?_;dsimp;rw[if_neg<|show ¬ ((i:Int)<0) by lia,bw];let X:it<c.objs.size:=Ý H;cases he:es[i]? with
 |some e=>
  show Á<|Á<|Y<|Ê<|Á<|PC ty ?_;change È _ _ (qw (.ref it) 3 (ř<|(i:Int)+1) >>= _) _ _ _;show Á (ϻ H ∅ λu T U=>?_);replace U:Κ it c u:=U;replace T:u.get? it=b3 {cls:=.type "dict_itemiterator",dict:=b4,data:=.fields #[y,.bool O,.ref d,.int ((i+1:Nat):Int) 0,.int es.size 0,.int ep 0,ok,J],slots:=#[]}:=by rw[show((i+1:Nat):Int)=(i:Int)+1 by lia];simpa[ř]using T
  let L:Shared.TypeIs ⟨u,G,B,K,I⟩ (.ref it) "dict_itemiterator":=⟨_,T,rfl⟩;show Á<|Ŀ<|Á<|PC L<|Á<|PC L ?_;change È _ _ (Sf (.ref it) 6 e.key e.val) _ _ _;ext Sf;show Á<|MX ?_;let zu:u.objs.size=c.objs.size:=U.1;let k:=ß {cls:=.type "tuple",data:=.seq #[e.key,e.val]} T;let vt:(u.push {cls:=.type "tuple",data:=.seq #[e.key,e.val]}).get? c.objs.size=b3 {cls:=.type "tuple",data:=.seq #[e.key,e.val]}:=zu▸ć u rfl;let vz:(u.push {cls:=.type "tuple",data:=.seq #[e.key,e.val]}).objs.size=c.objs.size+1:=by rw[ϔ,zu]
  let M:∀b o,b≠it->c.get? b=b3 o->(u.push {cls:=.type "tuple",data:=.seq #[e.key,e.val]}).get? b=b3 o:=λb o R x=>ß _<|U.extBut b o R x;change È _ _ (Si (.ref it) >>= _) _ _ ⟨u.push {cls:=.type "tuple",data:=.seq #[e.key,e.val]},G,B,K,I⟩;rw[zu];generalize u.push {cls:=.type "tuple",data:=.seq #[e.key,e.val]}=v at k vt vz M;let h:c.objs.size≠it:=Š X;let fin:∀n:í,wu n it d S (i+1) es.size ep->(y=.none->Mz n it d (i+1) es.size ep e.key e.val c.objs.size)->Κ it v n->Q (b3<|.ref c.objs.size) ⟨n,G,B,K,I⟩:=λn j' jo sb=>q1 e n he j' jo (sb.extBut _ _ h vt) (by change n.objs.size=_;rw[sb.1,vz]) λb o R x=>sb.extBut b o R<|M b o R x;show Á ?_;ext Si;rcases jr with rfl|⟨a,o,rfl,Z,p,r4⟩
  .show Á<|Χ k rfl (x:=.none) rfl<|Ê ?_;dsimp[if_true];show Á<|Χ k rfl (x:=ok) rfl<|Á<|Χ k rfl (x:=J) rfl ?_;show Á (ϻ k ∅ λv3 x3 N=>Á<|ϻ x3 ∅ λv4 x4 y4=>Á<|ϻ x4 ∅ λv5 x5 y5=>Á<|ϻ x5 ∅ λv6 x6 y6=>?_);let x7:Mz v6 it d (i+1) es.size ep e.key e.val c.objs.size:=x6;show Á<|bj<|Ê<|Ê ⟨_,rfl,Ê<|fin v6 ?_ (λ_=>x7) ?_⟩
   .show⟨ř c.objs.size,e.key,e.val,b5,x7,.inr ⟨c.objs.size,_,rfl,y6.extBut _ _ h<|y5.extBut _ _ h<|y4.extBut _ _ h<|N.extBut _ _ h vt,h,Š hS⟩⟩
   .show((N.trans y4).trans y5).trans y6
  .show Á<|Χ k rfl (x:=ř a) rfl ?_;change È _ _ (loadIfAlive ((a:Int).toNat) >>= _) _ _ _;rw[bw];show Á<|PySem.W.kdx_alive (M a o p Z) ?_;dsimp[Option.isNone_some,Ň,if_false];show Á<|Χ k rfl (x:=.bool O) rfl ?_;cases O with
   |true=>rw[if_neg<|show ¬ ((Η dI != Η dI)=dI)from λx=>ô x];show Ê ?_;dsimp[Ň,if_false];show Ê (Ê ⟨_,rfl,Ê<|fin v ⟨_,ok,J,dI,k,.inr ⟨a,o,rfl,M a o p Z,p,r4⟩⟩ (λz=>nomatch z)<|NX _ _⟩)|false=>rw[if_pos<|show(Η b5 != Η dI)=dI from rfl];show Á (ϻ k ∅ λv3 x3 N=>Ê ?_);dsimp[Ň,if_false];show Ê<|Ê ⟨_,rfl,Ê<|fin v3 ⟨_,ok,J,dI,by apply x3,.inr ⟨a,o,rfl,N.extBut a o p<|M a o p Z,p,r4⟩⟩ (λz=>nomatch z) N⟩
 |none=>show Á<|Á<|Y<|Ê ?_;change È _ _ (qw (.ref it) 2 .none >>= _) _ _ _;show Á (my H rfl ∅ ?_);change È _ _ (fB (.type "StopIteration") [] >>= _) _ _ _;dsimp[fB,ye];show Á (Á<|ź ?_<|by size_fits);show Á (m:=gh _ _) (mD (a:=Ľ) (by first|rfl|(dsimp[gh];rfl))<|ź ?_<|by size_fits);ext M8;show Á<|N4 ?_;rw[show A.in1.handled=b4 from hh];show Á<|Ê<|ML ?thrown;case thrown=>show Á<|mX (T:="StopIteration") (b:=dI) ⟨_,ć _ rfl,rfl⟩ MW<|Ê<|q2 he _<|((Ż ..).extBut.push _).push _
def Hz(a:s.heap.IsItemsView r d)(g:ø s.heap d es ep)(q:Q (.ref s.heap.objs.size) {s with heap:=s.heap.push {cls:=.type "dict_itemiterator",data:=.fields #[.none,.bool b5,.ref d,.int 0 0,.int es.size 0,.int ep 0,.none,.none]}}):È (Í P w) A (JF<|.ref r) Q E s:=by
 let⟨y,e,k,h⟩:=id a;let⟨z,b,j,c⟩:=id g;show OT a.typeIs F.slot_dict_items_iter<|Θ F.slot_dict_items_iter a.typeIs F.entry_dict_items_iter ?_<|F.args_dict_items_iter_1 _;unfold Builtin.«dict_items.__iter__» Sn Se;show Á<|Ê<|Á<|Á<|Χ e h (x:=.ref d) rfl<|Ê<|Á<|Á<|ϒ b c<|Á<|gj b c ?_;dsimp[show M1 "dict_itemiterator"=dI by decide,if_true];show ź (Ê ⟨_,rfl,"dict_itemiterator",_,⟨_,ć _ rfl,rfl⟩,F.slot_dict_itemiterator_next.lookup,?_⟩) (by dsimp[sizeOk,Sg,ğ,ă,ņ,uv];rw[ï];lia);simpa[ř,Sg]using q
structure Ĉ(es:Array DictEntry)(lo:Addr)(h:í)(as:List Addr):Prop where
 up:as.Pairwise (·<·)
 over:∀a∈as,lo<a
 prs:∀(j:Nat)(a:Addr),as[j]?=b3 a->∃e,es[j]?=b3 e/\h.get? a=b3 {cls:=.type "tuple",data:=.seq #[e.key,e.val]}
def Ĉ.stay(p:Ĉ es lo h as)(k:∀b o,lo<b->h.get? b=b3 o->h'.get? b=b3 o):Ĉ es lo h' as:=
 ⟨p.up,p.over,λj a c=>let⟨e,d,g⟩:=p.prs j a c;⟨e,d,k a _ (p.over a<|Ĵ c) g⟩⟩
def Ĉ.lt{es:Array DictEntry}{lo:Addr}{h:í}{as:List Addr}(p:Ĉ es lo h as){a:Addr}(b:a∈as):a<h.objs.size:=by let⟨j,c⟩:=zq.mp b;let⟨_,_,e⟩:=p.prs j a c;show Ý e
def Ĉ.snoc(p:Ĉ es lo h as)(i:∀a∈as,a<b)(n:lo<b)(k:es[as.length]?=b3 e)(o:h.get? b=b3 {cls:=.type "tuple",data:=.seq #[e.key,e.val]}):Ĉ es lo h (as++[b]):=by
 show⟨List.pairwise_append.mpr ⟨p.up,P8 _ _,λa d c hc=>by rw[Ē.mp hc];show i a d⟩,λa d=>?_,λj a g=>?_⟩
 .rcases Ħ.mp d with d|d
  .show p.over a d
  .rw[Ē.mp d];show n
 .rcases Oy j as.length with h1|h1|h1
  .rw[ϗ h1]at g;show p.prs j a g
  .subst h1;have:b=a:=by apply g
   subst this;show⟨e,k,o⟩
  .rw[cj<|by simp;lia]at g;ext g
def UB{s:Ù}(U:A.handled=b4)(y:S<I)(K:d≠S)(J:d≠I)(hn:es.size<=Ñ)res{h1:í}(X:∀h' tk acc c as,(∀b o,b≠S->b≠I->h1.get? b=b3 o->h'.get? b=b3 o)->h'.get? S=b3 {cls:=.type "list",dict:=b4,data:=.seq acc c,slots:=#[]}->as.length=es.size->Ĉ es I h' as->acc.toList=as.map Ö->R (.ok<|.ret res) {s with heap:=h',toks:=tk}):
  ∀k i h tk c acc as,es.size-i=k->i<=es.size->wu h I d S i es.size ep->ø h d es ep->(∀b o,b≠S->b≠I->h1.get? b=b3 o->h.get? b=b3 o)->h.get? S=b3 {cls:=.type "list",dict:=b4,data:=.seq acc c,slots:=#[]}->
   acc.toList=as.map Ö->as.length=i->Ĉ es I h as->I<h.objs.size->ο (Í P w) A (.builtin "list.extend.loop" ⟨[.ref S,.ref I,res],[]⟩) R {s with heap:=h,toks:=tk}:=by
 let ne:S≠I:=û y;intro k;induction k with
 |zero=>intro i h tk c acc as Y hi ⟨_,_,_,_,N,O⟩ g Q p G B H lt;show ϴ F.entry_extend_loop ?_;rw[Ϸ F.plain_extend_loop _];show Á (m:=ş (.ref I)) (Cm (s:={s with heap:=h,toks:=tk}) (A:=A.in1) U N O g (Ý p) (λe h' n=>?_) λ_ h' x=>Ê<|X h' tk acc c as (λb o E u z=>x b o u<|Q b o E u z) (x S _ ne p) () (H.stay λb o q z=>x b o (Š q) z) G);rw[P5 ()]at n;ext n|succ k ih=>
  intro i h tk c acc as Y hi ⟨_,_,_,_,N,O⟩ g Q p G B H lt;let sz:acc.size=i:=by rw[<- il,G,Ã,B]
  show ϴ F.entry_extend_loop ?_;rw[Ϸ F.plain_extend_loop _];show Á (m:=ş (.ref I))<|Cm (s:={s with heap:=h,toks:=tk}) (A:=A.in1) U N O g (Ý p) (λe h' n j' a M Z j=>?_) λn=>?_
  .dsimp at M Z j ⊢;let v:=j S _ ne p;let T:S<h.objs.size:=Ý p;let up:∀b o,b≠S->h'.get? b=b3 o->(h'.update S<|a4F (·.push<|Ö h.objs.size)).get? b=b3 o:=λb o q z=>(WF _ _<|î q).trans z;show Á (m:=qx S (·.push<|Ö h.objs.size)) (iw v rfl (Ê ⟨Ϟ F.plain_extend_loop _,?_⟩) (by rw[sz];lia)<|by change(acc.push<|Ö h.objs.size).size<=Ñ+1;rw[Array.size_push,sz];lia);show ih (i+1) _ tk _ (acc.push<|Ö h.objs.size) (as++[h.objs.size]) () () (j'.stay (î ne) up) (g.stay λo z=>up d o K<|j d o J z) (λb o E u z=>up b o E<|j b o u<|Q b o E u z) (ϓ _ v rfl) (by rw[Array.toList_push,G,þ];rfl) (by rw[ă,B];rfl) ?_ ?_
   .show((H.stay λb o q z=>up b o (Š<|N6 y q)<|j b o (Š q) z)).snoc (λa L=>H.lt L) lt (by rw[B];show n)<|up _ _ (Š T) M
   .show N6 lt<|Ý<|up _ _ (Š T) M
  .rw[P9 ()]at n;ext n
def UC(H:A.handled=b4)(q:s.heap.IsItemsView r d)(g:ø s.heap d es ep)(z:S≠r)(Sd:d≠S)(y:s.heap.get? S=b3 {cls:=.type "list",data:=.seq #[] c0})(K:es.size<=Ñ)(E:∀h' tk acc c as,(∀b o,b≠S->s.heap.get? b=b3 o->h'.get? b=b3 o)->h'.get? S=b3 {cls:=.type "list",dict:=b4,data:=.seq acc c,slots:=#[]}->as.length=es.size->Ĉ es s.heap.objs.size h' as->acc.toList=as.map Ö->R (.ok<|.ret res) {s with heap:=h',toks:=tk}):
  È (Í P w) A.in1 (vf (.ref S) (.ref r) res) (λfin p=>match fin with|.done f=>R (.ok f) p|.again c'=>c'.quiet=dI/\ο (Í P w) A c' R p) (λe p=>R (.error e) p) s:=by
 let x:S<s.heap.objs.size:=Ý y;let B:d<s.heap.objs.size:=g.lt;let run:∀(h:í)(c1 tk:Nat),(∀b o,b≠S->(s.heap.push {cls:=.type "dict_itemiterator",data:=.fields #[.none,.bool b5,.ref d,.int 0 0,.int es.size 0,.int ep 0,.none,.none]}).get? b=b3 o->h.get? b=b3 o)->h.get? S=b3 {cls:=.type "list",data:=.seq #[] c1}->
   ο (Í P w) A (.builtin "list.extend.loop" ⟨[.ref S,.ref s.heap.objs.size,res],[]⟩) R {s with heap:=h,toks:=tk}:=by
  intro h c1 tk u i;let gI:=u s.heap.objs.size _ (Š x)<|ć _ rfl;show UB (s:=s) (h1:=s.heap) (ep:=ep) H x Sd (û B) K res (λh' v acc c as M N O Q T=>E h' v acc c as (λb o k e=>M b o k (û<|Ý e) e) N O Q T) es.size 0 h tk c1 #[] [] (ON _) (ĵ _)
   ⟨.none,.none,.none,b5,gI,.inl rfl⟩ (g.stay λo e=>u d o Sd<|ß _ e) (λb o k j e=>u b o k<|ß _ e) i rfl rfl ⟨PN,λ_ G=>(by ext G),λj a J=>(by simp at J)⟩<|Ý gI
 ext vf;show Á<|yw (T:="dict_items") q.typeIs ?_;dsimp[show NY (.ref S) (.ref r)=b5 by simp[NY,z],show(ö "dict_items"==ö "list")=b5 by decide,show(ö "dict_items"==ö "tuple")=b5 by decide,MZ,Ň,if_false];show Á<|Hz q g ?_;let i:=ß {cls:=.type "dict_itemiterator",data:=.fields #[.none,.bool b5,.ref d,.int 0 0,.int es.size 0,.int ep 0,.none,.none]} y;show Á<|Ŀ<|PySem.W.kdx_hint (let⟨o,L,hc,_⟩:=q;⟨o,ß _ L,hc⟩) ?_;show nq (λ_=>?_) λ_=>Ê ⟨Ϟ F.plain_extend_loop _,run _ c0 _ (λb o j e=>e) i⟩;show Á<|Ϝ<|Á ?_;show Á (m:=qx S (·.push .none))<|iw i rfl ?_;let n:=ϓ (a4F (·.push Ľ)) i rfl;show iw (hz:=by seq_fits) n rfl<|Ê ⟨Ϟ F.plain_extend_loop _,run _ _ _ (λb o k e=>?_)<|ϓ (a4F (·.pop)) n rfl⟩;show(WF _ _<|î k).trans<|(WF _ _<|î k).trans e
def UD{T:gw->Ù->Prop}(H:A.handled=b4)(v:s.heap.IsItemsView r d)(g:ø s.heap d es ep)(J:es.size<=Ñ)(q:∀h' tk as,(∀b o,s.heap.get? b=b3 o->h'.get? b=b3 o)->as.length=es.size->Ĉ es s.heap.objs.size h' as->s.heap.objs.size<=h'.objs.size->T (as.map Ö) {s with heap:=h',toks:=tk}):È (Í P w) A (collect<|.ref r) T E s:=by
 let K:r<s.heap.objs.size:=let⟨_,p,_⟩:=v;Ý p
 ext collect
 show Á<|wpAny_runValue<|ϴ b4J ?_
 rw[Ϸ F.plain_proto_collect _]
 show Á (m:=newList [])<|ź<|Ê ⟨Ϟ F.plain_list_iadd _,ϴ b4K ?_⟩
 rw[Ϸ F.plain_list_iadd _]
 let B:(s.heap.push {cls:=.type "list",data:=.seq ([]:gw).toArray}).get? s.heap.objs.size=b3 {cls:=.type "list",data:=.seq #[]}:=ć _ rfl
 let all:=UC (A:=A) (s:={s with heap:=s.heap.push {cls:=.type "list",data:=.seq ([]:gw).toArray}}) (P:=P) (w:=w) (es:=es) (ep:=ep) (res:=.ref s.heap.objs.size) (c0:=0)
  (R:=λ(q:S3)(u:Ù)=>∃(h':í)(tk:Nat)(acc:Array Value)(c:Nat)(as:List Addr),q=.ok (.ret<|.ref s.heap.objs.size)/\u={s with heap:=h',toks:=tk}/\(∀b o,s.heap.get? b=b3 o->h'.get? b=b3 o)/\h'.get? s.heap.objs.size=b3 {cls:=.type "list",dict:=b4,data:=.seq acc c,slots:=#[]}/\as.length=es.size/\Ĉ es s.heap.objs.size h' as/\acc.toList=as.map Ö)
  H (let⟨o,p,x⟩:=v;⟨o,ß _ p,x⟩) (g.stay λo e=>ß _ e) (Š K) (û g.lt) B J
  λh' tk acc c as j h k i n=>⟨h',tk,acc,c,as,rfl,rfl,λb o e=>j b o (û<|Ý e)<|ß _ e,h,k,⟨i.up,λa G=>N6 (Ϧ _)<|by have:=i.over a G;rw[ϔ]at this;show this,i.prs⟩,n⟩
 show Ŗ all (λfin u x=>?_) λe u x=>?_
 .cases fin with
  |done f=>
   let⟨h',tk,acc,c,as,e,rfl,j,h,k,i,n⟩:=x
   ext e
   show Á (m:=load s.heap.objs.size)<|MH h<|Ê ?_
   change T acc.toList _
   rw[n]
   show q h' tk as j k i<|Rr<|Ý h
  |again c1=>
   show⟨x.1,MR x.2 λy L x=>?_⟩
   let⟨h',tk,acc,c,as,rfl,rfl,j,h,k,i,n⟩:=x
   show Á (m:=load s.heap.objs.size)<|MH h<|Ê ?_
   change T acc.toList _
   rw[n]
   show q h' tk as j k i<|Rr<|Ý h
 .let⟨_,_,_,_,_,z,_⟩:=x
  ext z
end L3
namespace L3
open PySem L2 PySem.W PyProof.Rows
def HA(q:Q dI s):È (Í P w) A (eqBool v v) Q E s:=by ext eqBool;show Ŀ ?_;rw[if_pos ∅];show Á<|Ϝ<|Ê q
def zH:∀k,HT.lexLt k k=b5
 |[]=>rfl|a::k=>by simp[HT.lexLt,zH k]
abbrev mS(P:Ť)(w:į)(h:í)(b:Addr)(k:List Int):Prop:=Tb.IsT P w h k b/\∃xs:gw,J4 h b xs.toArray/\ų xs k
def UE{C:Bool->Ù->Prop}(j:A.units<ÿ)(o:s.heap.get? a=b3 {cls:=.type "tuple",data:=.seq #[.ref b,v]})(d:s.heap.get? g=b3 {cls:=.type "tuple",data:=.seq #[.ref h,n]})(i:mS P w s.heap b k)(c:mS P w s.heap h k')(p:k=k'->v=n)(q:C (HT.lexLt k k') s):È (Í P w) A (keyLt' (tuples' b5) (.ref a)<|.ref g) C (λ_ f=>False) s:=by
 show kat_lt o rfl d rfl ?_;show kat_cons<|(ϝ<|Ŵ P w).eqBool j i.1 c.1 ?_;by_cases e:k=k'
 .obtain rfl:=p e;subst e;rw[decide_eq_true rfl];show kat_yes<|kat_cons<|HA<|kat_yes<|kat_nil ?_;rw[zH]at q;show q
 .rw[decide_eq_false e];let⟨B,y,u⟩:=i.2;let⟨G,z,x⟩:=c.2;show kat_no (kat_one _ _<|HT.lt_tupInts y z (by apply u) (by apply x) j ?_);show q
abbrev qD(P:Ť)(w:į)(A:ť)(us:gw)(an:Nat->Nat->Bool)(s:Ù):Prop:=
 È (Í P w) A (keyKind' us.toArray) (λb a=>a=s/\∀(i j:Nat)(C:Bool->Ù->Prop),i<us.length->j<us.length->C (an i j) s->È (Í P w) A (keyLt' b (us.getD i .none)<|us.getD j .none) C (λ_ x=>False) s) (λ_ x=>False) s
def UG{lo:Addr}{bs:List Addr}{ks:List (List Int)}(Y:A.units<ÿ)(p:Ĉ es lo s.heap as)(h0:0<as.length)(hl:as.length=es.size)(hk:ks.length=es.size)(X:bs.length=es.size)(key:∀j e,es[j]?=b3 e->e.key=.ref (bs.getD j 0)/\mS P w s.heap (bs.getD j 0) (ks.getD j []))(nd:ks.Nodup):qD P w A (as.map Ö) (λi j=>HT.lexLt (ks.getD i [])<|ks.getD j []) s:=by
 let at_:∀i,i<as.length->∃(e:DictEntry),es[i]?=b3 e/\s.heap.get? (as.getD i 0)=b3 {cls:=.type "tuple",data:=.seq #[.ref (bs.getD i 0),e.val]}/\mS P w s.heap (bs.getD i 0) (ks.getD i []):=λi hi=>by
  let M:as[i]?=b3 (as.getD i 0):=by simp[ĩ,hi]
  let⟨e,q,g⟩:=p.prs i _ M;let⟨k1,u⟩:=key i e q;rw[k1]at g;show⟨e,q,g,u⟩
 ext qD;let k:M4 s.heap (as.map Ö) (bs.map Ö):=by
  let go:∀(n:Nat)(a c:List Addr),a.length=n->c.length=n->(∀i,i<n->∃v:Value,s.heap.get? (a.getD i 0)=b3 {cls:=.type "tuple",data:=.seq #[.ref (c.getD i 0),v]})->M4 s.heap (a.map Ö) (c.map Ö):=by
   intro n;induction n with
   |zero=>intro a c h1 d _;rw[NQ.mp h1,NQ.mp d];show .nil|succ n Z=>
    intro a c h1 d K;match a,c,h1,d with
    |x::a,y::c,h1,d=>let⟨v,I⟩:=K 0 ();show .cons I rfl rfl ∅ (Z a c (by apply h1) (by apply d) λi hi=>?_);have:=K (i+1) ();apply this
  show go as.length as bs rfl () λi hi=>?_;let⟨e,_,g,_⟩:=at_ i hi;show⟨_,g⟩
 show Nr (T:=.type "tuple") k (by rw[Ã];lia) (λv I=>?_) ⋯ ⟨rfl,λi j C hi H T=>?_⟩
 .let⟨b,U,rfl⟩:=Ô.mp I;let⟨i,hi⟩:=zq.mp U;let B:i<as.length:=by have:=(â.mp hi).1;lia
  let⟨e,_,_,u⟩:=at_ i B;have:bs.getD i 0=b:=by simp[ĩ,hi]
  rw[this]at u;obtain⟨xs,⟨o,o1,o2,_⟩,_⟩:=u.2;show kitAt_ty _ _ ⟨o,o1,o2⟩
 .rw[Ã]at hi H;let⟨e,q,g,L⟩:=at_ i hi;let⟨e',J,N,O⟩:=at_ j H;let Q:(as.map Ö).getD i .none=.ref (as.getD i 0):=by simp[ĩ,hi]
  let R:(as.map Ö).getD j .none=.ref (as.getD j 0):=by simp[ĩ,H]
  rw[Q,R];show UE Y g N L O (λz=>?_) T;let G:i=j:=by
   let h1:ks.getD i []=ks[i]:=by simp[ĩ,show i<ks.length by lia]
   let d:ks.getD j []=ks[j]:=by simp[ĩ,show j<ks.length by lia]
   rw[h1,d]at z;rcases Oy i j with h|h|h
   .show absurd z<|(vd.mp nd) i j () () h
   .show h
   .show absurd z.symm<|(vd.mp nd) j i () () h
  subst G;rw[q]at J;ext J;rfl
def Co(O:2<=us.length)(u:us.length<64)(g:s.heap.get? c=b3 (Ė "list" us.toArray z))(H:∀K,(∀b o,b≠c->s.heap.get? b=b3 o->K.get? b=b3 o)->qD P w A us an {s with heap:=K})(q:R (.done<|.ret .none) {s with heap:=yl s.heap c us ((c6 an us.length).map λi=>us.getD i Ľ).toArray}):È (Í P w) A (Builtin.«list.sort» ⟨[.ref c],[]⟩) R E s:=by
 rw[Pt]
 show Á<|listItems_at g rfl<|Á<|N1 g rfl ?_ (by rw[ğ,ï];lia)<|ĵ _
 obtain⟨y,I⟩:∃y,(s.heap.update c<|a4F λ_=>#[]).get? c=b3 (Ė "list" #[] y):=⟨_,QD g _⟩
 show Á<|MJ I rfl<|Á<|MX (Á<|ug (Ŀ ?_)<|ĵ _)<|by change us.length<=_;rw[ï];lia
 let J:(((s.heap.update c<|a4F λ_=>#[]).push<|Ė "tuple" us.toArray 0).push<|Ė "list" #[] 0).get? c=b3 (Ė "list" #[] y):=
  ß _<|ß _ I
 let n:=H (((s.heap.update c<|a4F λ_=>#[]).push<|Ė "tuple" us.toArray 0).push<|Ė "list" #[] 0) λb o T e=>ß _<|ß _<|(WF _ _<|î T).trans e
 change È (Í P w) A _ R E ⟨((s.heap.update c<|a4F λ_=>#[]).push<|Ė "tuple" us.toArray 0).push<|Ė "list" #[] 0,s.gens,s.drawn,s.toks,s.os⟩
 dsimp
 let h:¬ us.toArray.size<2:=by rw[ğ];lia
 rw[if_neg h,if_neg h]
 show Á<|Ŗ n (λY k v=>?_) λ_ f x=>x.elim
 let⟨rfl,v⟩:=v
 show Á<|Ŗ (kat_run (ks:=us) (vs:=us) (κ:=Y) (Q:=λa k=>k={s with heap:=((s.heap.update c<|a4F λ_=>#[]).push<|Ė "tuple" us.toArray 0).push<|Ė "list" #[] 0}/\failedOf a=b4/\(arrOf a).map (·.2)=((c6 an us.length).map λi=>us.getD i Ľ).toArray)
  (G:=λp k=>k={s with heap:=((s.heap.update c<|a4F λ_=>#[]).push<|Ė "tuple" us.toArray 0).push<|Ė "list" #[] 0}/\p.toList=c6 an us.length) rfl O u (λp a k Z M N G=>⟨G.1,N,by rw[kat_snds rfl M,G.2]⟩)
 <|GL (n:=us.length) (ans:=an) (λi j C hi U Q=>v i j C hi U Q) (tV ()) ⟨rfl,rfl⟩) (λr k X=>?_) λ_ f e=>e
 obtain⟨⟨⟩,a⟩:=r
 let⟨rfl,L,d⟩:=X
 dsimp at L d ⊢
 rw[d]
 let B:((c6 an us.length).map λi=>us.getD i Ľ).length=us.length:=by
  rw[Ã,(B6 an (n:=us.length) ()).length_eq,ph]
 show Á<|MJ J rfl<|Á<|N1 J rfl ?_ (hsz2:=by rw[ğ,B,ï];lia)
 rw[L]
 dsimp[bne_self_eq_false,Ň,if_false]
 show Ê q
def UH(K:A.handled=b4)(M:s.heap.IsItemsView r d)(g:ø s.heap d es ep)(G:es.size<64)(H:2<=es.size->∀h tk as,(∀b o,s.heap.get? b=b3 o->h.get? b=b3 o)->as.length=es.size->Ĉ es s.heap.objs.size h as->qD P w A.in1.in1 (as.map Ö) an {s with heap:=h,toks:=tk})(q:∀h tk as(L e:Nat),(∀b o,s.heap.get? b=b3 o->h.get? b=b3 o)->as.length=es.size->Ĉ es s.heap.objs.size h as->s.heap.objs.size<=L->(∀a∈as,a≠L)->h.get? L=b3 (Ė "list" ((c6 an es.size).map λi=>Ö<|as.getD i 0).toArray e)->Q (.ref L) {s with heap:=h,toks:=tk}):
  È (Í P w) A (call (.builtin "sorted") [.ref r]) Q E s:=by
 show PU Ny O8 O6 (OA _) ?_
 ext Om
 show Á (m:=O1 "sorted" 1 1 _)<|Ê<|Á<|UD (A:=A.in1) K M g (by rw[ï];lia) λc tk as z p v n=>?_
 let B:(as.map Ö).length=es.size:=by rw[Ã,p]
 show Á<|ug ?_<|by rw[B,ï];lia
 let k:(c.push<|Ė "list" (as.map Ö).toArray 0).get? c.objs.size=b3 (Ė "list" (as.map Ö).toArray 0):=ć _ rfl
 let fin:∀j:gw,j=((c6 an es.size).map λi=>Ö<|as.getD i 0)->Q (.ref c.objs.size) {s with heap:=yl (c.push<|Ė "list" (as.map Ö).toArray 0) c.objs.size (as.map Ö) j.toArray,toks:=tk}:=by
  rintro j rfl
  let⟨e,J⟩:=sortedHeap_at (h:=c.push (Ė "list" (as.map Ö).toArray 0)) (out:=((c6 an es.size).map λi=>Ö<|as.getD i 0).toArray) k
  let old:∀b o,c.get? b=b3 o->(yl (c.push<|Ė "list" (as.map Ö).toArray 0) c.objs.size (as.map Ö) ((c6 an es.size).map λi=>Ö<|as.getD i 0).toArray).get? b=b3 o:=λb o x=>by
   rw[Pp (û<|Ý x)<|by rw[ϔ];show za<|Ý x]
   show ß _ x
  show q _ tk as c.objs.size e (λb o x=>old b o<|z b o x) p (v.stay λb o f x=>old b o x) n (λa I=>û<|v.lt I) J
 by_cases u:2<=es.size
 .show Á<|Ŀ<|Θ uc (s:={s with heap:=c.push<|Ė "list" (as.map Ö).toArray 0,toks:=tk}) ⟨_,k,rfl⟩ ue (Co (an:=an) () () k (λh y=>?_) ⟨_,rfl,?_⟩)<|tu _
  .show H u h tk as (λb o e=>y b o (û<|ĸ (Ý e) n)<|ß _<|z b o e) p<|v.stay λb o N e=>y b o (û<|Ý e)<|ß _ e
  .show Ê ⟨_,rfl,fin _ ?_⟩
   rw[B]
   show Ţ λi hi=>?_
   let hi:i<as.length:=by
    have:=ň.mp<|(jV an es.size).mem_iff.mp hi
    lia
   simp[ĩ,hi]
 .show Á<|Ŀ<|Θ uc (s:={s with heap:=c.push<|Ė "list" (as.map Ö).toArray 0,toks:=tk}) ⟨_,k,rfl⟩ ue (B7 () k ⟨_,rfl,?_⟩)<|tu _
  show Ê ⟨_,rfl,fin (as.map Ö) ?_⟩
  match as,p with
  |[],e=>rw[<- e];change[]=(c6 _ 0).map _;rw[yV];rfl
  |[b],e=>rw[<- e];change[Ö b]=(c6 _ 1).map _;rw[B8];rfl
  |_::_::_,e=>rw[<- e]at u;simp at u
end L3
namespace L3
open PySem L2
abbrev oW(ps:bN):bN:=(c6 (λi j=>HT.lexLt ((ps.map (·.1)).getD i [])<|(ps.map (·.1)).getD j []) ps.length).map λi=>ps.getD i ([],0,.non)
def Μ:(oW ps).Perm ps:=by
 ext oW;let p:=(jV (λi j=>HT.lexLt ((ps.map (·.1)).getD i [])<|(ps.map (·.1)).getD j []) ps.length).map λi=>ps.getD i ([],0,.non);let e:(Ā ps.length).map (λi=>ps.getD i ([],0,.non))=ps:=by show Ou ∅ λi h1 a=>?_;simp[ĩ,a]
 rw[e]at p;show p
def HB d(hd:(d==ļ)=b5):yd P w (Builtin.«dict.items» ⟨[.ref d],[]⟩) (λ_ R s=>(∃es ep,ø s.heap d es ep) /\
   R (.ok<|.ret<|.ref s.heap.objs.size) {s with heap:=s.heap.push {cls:=.type "dict_items",data:=.fields #[.ref d]}}):=
 .of_wp λA R s ⟨⟨es,ep,g⟩,h⟩=>by unfold Builtin.«dict.items»;show Á ?_;ext P7;show Á<|vh g.ty ?_;change È _ _ (pure d) _ _ s;show Ê ?_;change È _ _ (ou d >>= _) _ _ s;ext ou;rw[if_neg<|by rw[hd];show ô];show Á<|Ê ?_;show Á<|ź<|Ê ⟨_,rfl,h⟩
abbrev oX(kvs:jx):jx:=(c6 (λi j=>HT.lexLt ((kvs.map (·.1)).getD i [])<|(kvs.map (·.1)).getD j []) kvs.length).map λi=>kvs.getD i ([],.non)
def HC{R:a->b->Prop}{as:List a}{bs:List b}(h:Τ R as bs)c d:∀i,i<as.length->R (as.getD i c) (bs.getD i d):=by
 induction h with
 |nil=>show λi hi=>nomatch hi|cons e t g=>
  intro i hi;cases i with
  |zero=>show e|succ i=>show g i<|by apply hi
def Cp{R:a->b->Prop}{f:Nat->a}{g:Nat->b}:∀{l:List Nat},(∀i∈l,R (f i) (g i))->Τ R (l.map f) (l.map g)
 |[],_=>.nil|i::l,h=>.cons (h i<|š ..)<|Cp λj c=>h j<|Ō _ c
def UI(h:ì K π n H ps kvs):ps.length=kvs.length/\ì K π n H (oW ps) (oX kvs):=by
 let a:=h.to.1;let b:ps.length=kvs.length:=by have:=congrArg Ĭ a;apply this
 show⟨b,?_⟩;ext oW oX;rw[a,b];show Cp λi hi=>HC h _ _ i ?_;have:=ň.mp<|(jV _ kvs.length).mem_iff.mp hi;lia
def Â.freeze{σ:St}{ps:bN}(I:Â X Do σ H s)(e:H a=b3 (aT a ps))(c:s.heap.get? a=b3 ob):Â X Do σ (upd H a<|.frz ob<|aT a ps) s:=by let ok:Þ X.prog X.w H s.heap a (aT a ps):=I.hok a _ e;show I.write (x:=a) (e:=a) (h':=s.heap) (t':=s.toks) (by rw[e];show ϰ) (.inl rfl) (λb q y z=>z) ⟨ob,c⟩ ⟨c,ok⟩
def Â.thaw{σ σ0:St}{ps ps0:bN}(n:Â X pins0 σ0 H0 s0)(v:H0 a=b3 (aT a ps0))(I:Â X Do σ H s)(e:H a=b3 (.frz ob<|aT a ps)):Â X Do σ (upd H a<|aT a ps) s:=by
 let ne:∀{b:Addr},H b=b4->b≠a:=λ{b} h z=>by rw[z,e]at h;ext h
 show⟨I.ok,I.os,I.bare,⟨I.base.keep,I.base.slot,λb o h1 d g=>?_,I.base.there,λb j h=>?_,λb o u h=>?_,λb y h=>?_⟩,I.loc,I.cell,?_,λx c h=>?_,λp w=>?_,λb u q=>?_,I.len⟩
 .have:=I.base.free b o h1 d g;rw[bQ<|ne this];show this
 .have:=I.base.tups b j h;rw[bQ λz=>by rw[z,e]at this;ext this];show this
 .have:=I.base.frzs b o u h;rw[bQ λz=>by
   let k:=n.base.frzs b o u h;rw[z,v]at k;ext k]
  show this
 .let⟨more,h1⟩:=I.base.tbls b y h;show⟨more,by rw[bQ λz=>by rw[z,e]at h1;ext h1];show h1⟩
 .rw[bQ<|ne I.free];show I.free
 .have:=I.freeC x c h;rw[bQ<|ne this];show this
 .let⟨h1,d,g⟩:=I.pin p w;show⟨h1,by rw[bQ<|ne d];show d,g⟩
 .by_cases i:b=a
  .subst i;rw[dW]at q;ext q;show(show Þ X.prog X.w H s.heap b (.frz ob<|aT b ps)from I.hok b _ e).2
  .rw[bQ i]at q;show(I.hok b u q).stay (λ_ f f z=>z) (λc h=>by rw[bQ λz=>by rw[z,e]at h;ext h];show h) λc j h=>by rw[bQ λz=>by rw[z,e]at h;ext h];show h
abbrev qE(i:Nat)(c:aF)(b:Hm):Option (Nat×jx):=match c[i]? with
 |some (b3<|.loc a)=>match b[a]? with
  |some (.dT kvs)=>b3 (a,kvs)|_=>b4
 |_=>b4
open _root_ in
def HD(h:qE i c b=b3 (a,kvs)):b[a]?=b3 (.dT kvs):=by
 unfold qE at h;split at h
 .split at h
  .rename_i hc;ext h;show hc
  .ext h
 .ext h
abbrev t5(i:Nat)(d e:ME):ME:=λc b=>match qE i c b with
 |some (a,kvs)=>(d c<|b.set a<|.dF kvs).bind λr=>match r.2[a]? with
  |some (.dF kvs')=>b3 (r.1,r.2.set a<|.dT kvs')|_=>b4
 |none=>e c b
abbrev gO(i:Nat)(d e:MS):MS:=λc b=>match qE i c b with
 |some (a,kvs)=>(d c<|b.set a<|.dF kvs).bind λr=>match r.2.2[a]? with
  |some (.dF kvs')=>b3 (r.1,r.2.1,r.2.2.set a<|.dT kvs')|_=>b4
 |none=>e c b
def HE{σ:St}{kvs:jx}(I:Â X Do σ H s)(R:Rp X.K π H μ)(E:En X.K π μ.length H σ ρ)(hc:μ[a]?=b3 (.dT kvs)):∃ob ps,H (π a)=b3 (aT (π a) ps)/\Â X Do σ (upd H (π a)<|.frz ob<|aT (π a) ps) s /\
  Rp X.K π (upd H (π a)<|.frz ob<|aT (π a) ps) (μ.set a<|.dF kvs)/\En X.K π (μ.set a<|.dF kvs).length (upd H (π a)<|.frz ob<|aT (π a) ps) σ ρ:=by
 let⟨ps,b,T⟩:=jW R hc;obtain⟨_,⟨ob,d⟩,_⟩:=(show Þ X.prog X.w H s.heap (π a) (aT (π a) ps)from I.hok _ _ b);let⟨c,R2⟩:=R.put (c:=.dF kvs) (o:=.frz ob (aT (π a) ps)) (â.mp hc).1 b (.inr<|.inr ⟨_,rfl⟩) ⟨ob,ps,rfl,T.to⟩;show⟨ob,ps,b,Â.freeze I b d,R2,E.mono c⟩
def wB{σ:St}{μ:Hm}{kvs:jx}{q:St}{ps:bN}{d:jx}(I:Â X Do σ H s)(e:H (π a)=b3 (aT (π a) ps))(A:a<μ.length)(y:Â X g q j x)(R':Rp X.K c j μ')(k:ò π (μ.set a<|.dF kvs).length (upd H (π a)<|.frz ob<|aT (π a) ps) c μ'.length j)(hc:μ'[a]?=b3 (.dF d)):
  ∃v,Â X g q v x/\ò π μ.length H c (μ'.set a<|.dT d).length v/\Rp X.K c v (μ'.set a<|.dT d)/\Ő c μ'.length j c (μ'.set a<|.dT d).length v:=by
 let w:c a=π a:=k.pi a (by rw[Ÿ];show A);let⟨E,i,h1,T⟩:=vZ R' hc;let⟨J,R2⟩:=R'.put0 (c:=.dT d) (o:=aT (c a) i) (â.mp hc).1 h1 (.inr<|.inr<|.inr ⟨_,_,rfl⟩) ⟨i,rfl,T.to⟩;rw[w]at h1;show⟨upd j (c a)<|aT (c a) i,?_,⟨?_,λb B=>k.pi b<|by rw[Ÿ];show B,λp G h=>?_,λp o u h=>?_⟩,R2,J⟩
 .rw[w];show Â.thaw I e y h1
 .have:=k.le;rw[Ÿ]at this ⊢;show this
 .let n:p≠π a:=λz=>by rw[z,e]at h;ext h
  have:=k.tup p G (by rw[bQ n];show h);rw[w,bQ n];show this
 .let n:p≠π a:=λz=>by rw[z,e]at h;ext h
  have:=k.frz p o u (by rw[bQ n];show h);rw[w,bQ n];show this
def En.mono0(E:En K π n H σ ρ)(e:Ő π n H b g c):En K b g c σ ρ:=
 ⟨E.len,λi d h=>let⟨v,h1,j⟩:=E.get i d h;⟨v,h1,j.mono0 e⟩⟩
open _root_ in
def UJ(h1:QE X e B)(h2:QE X e G):QE X e (t5 i B G):=⟨by
 intro j s L H Q I hw;let⟨n,K,J,d,y,R,E,c,k⟩:=hw;unfold t5 at c;split at c
 .rename_i a w hv;show bR c ?_;clear c;intro x g g1 c;dsimp at c;split at c
  .rename_i A p;ext c;let hc:=HD hv;let⟨ob,ps,Z,N,U,M⟩:=HE I R E hc;show aW (h1.h j s L _ (λv h=>∃b,ò n (J.set a<|.dF w).length (upd H (n a)<|.frz ob<|aT (n a) ps) b g.length h/\Rp X.K b h g/\Ú X.K b g.length h v d) N ⟨n,K,_,d,g,U,M,g1,λb v h o R2 q=>⟨b,o,R2,q⟩⟩) λu s2 ⟨v,h,O,rv,b,o,R2,q⟩=>?_;let⟨z,T,e3,Y,x3⟩:=wB I Z (â.mp hc).1 O R2 o p;show⟨v,z,T,rv,k b v z e3 Y<|q.mono0 x3⟩
  .ext c
 .show h2.h j s L H Q I ⟨n,K,J,d,y,R,E,c,k⟩⟩
open _root_ in
def Cq(h1:QS X st m1)(h2:QS X st m2):QS X st (gO i m1 m2):=⟨by
 intro M s σ H D I hw;let⟨n,ρ,N,K,w,Y,R,E,y,k⟩:=hw;unfold gO at y;split at y
 .rename_i a z hv;obtain⟨⟨fl1,ρ1,g⟩,g1,y⟩:=Ś.mp y;dsimp at y;split at y
  .rename_i Z x;ext y;let hc:=HD hv;let Q:=(â.mp hc).1;let⟨ob,T,O,I1,R1,E1⟩:=HE I R E hc;show aW (h1.h M s σ _ ⟨λc h=>K=.nx/\∃b,ò n (N.set a<|.dF z).length (upd H (n a)<|.frz ob<|aT (n a) T) b g.length h/\Rp X.K b h g/\En X.K b g.length h c w,
     λv h=>∃d,K=.rt d/\∃b,ò n (N.set a<|.dF z).length (upd H (n a)<|.frz ob<|aT (n a) T) b g.length h/\Rp X.K b h g/\Ú X.K b g.length h v d,
     λc h=>K=.bk/\∃b,ò n (N.set a<|.dF z).length (upd H (n a)<|.frz ob<|aT (n a) T) b g.length h/\Rp X.K b h g/\En X.K b g.length h c w,
     λc h=>K=.ct/\∃b,ò n (N.set a<|.dF z).length (upd H (n a)<|.frz ob<|aT (n a) T) b g.length h/\Rp X.K b h g/\En X.K b g.length h c w⟩ I1 ⟨n,ρ,_,K,w,g,R1,E1,g1,?_⟩) λf s2 q=>?_
   .cases K with
    |nx=>show λb c h j R2 o=>⟨rfl,b,j,R2,o⟩|bk=>show λb c h j R2 o=>⟨rfl,b,j,R2,o⟩|ct=>show λb c h j R2 o=>⟨rfl,b,j,R2,o⟩|rt d=>show λb v h j R2 U=>⟨d,rfl,b,j,R2,U⟩
   .cases f with
    |next=>let⟨c,h,A,rfl,b,j,R2,o⟩:=q;let⟨p,B,J,G,L⟩:=wB I O Q A R2 j x;show⟨c,p,B,k b c p J G<|En.mono0 o L⟩|brk=>let⟨c,h,A,rfl,b,j,R2,o⟩:=q;let⟨p,B,J,G,L⟩:=wB I O Q A R2 j x;show⟨c,p,B,k b c p J G<|En.mono0 o L⟩|cont=>let⟨c,h,A,rfl,b,j,R2,o⟩:=q;let⟨p,B,J,G,L⟩:=wB I O Q A R2 j x;show⟨c,p,B,k b c p J G<|En.mono0 o L⟩|ret u=>let⟨v,c,h,A,rv,d,rfl,b,j,R2,U⟩:=q;let⟨p,B,J,G,L⟩:=wB I O Q A R2 j x;show⟨v,c,p,B,rv,k b v p J G<|U.mono0 L⟩
  .ext y
 .show h2.h M s σ H D I ⟨n,ρ,N,K,w,Y,R,E,y,k⟩⟩
abbrev Cr(d:Addr)(ob:Obj)(ps:bN):It:=⟨λi H=>H d=b3 (.frz ob<|aT d ps)/\i<ps.length,λi H x a=>a=H/\∃p,ps[i]?=b3 p/\x=.ref p.2.1,λi H=>H d=b3 (.frz ob<|aT d ps)/\ps.length<=i⟩
def sD{σ:St}{ps:bN}(I:Â X Do σ H s)(e:H d=b3 (.frz ob<|aT d ps)):
  (d==ļ)=b5/\ps.length<=Ñ/\∃a b,ø s.heap d a b/\ob.data=.dict a b/\a.toList.map (·.key)=ps.map λp=>Ö p.2.1:=by
 obtain⟨c,⟨q,r,k,j,o,a,b,h1,h,g,i,n⟩,_⟩:=(show Þ X.prog X.w H s.heap d (.frz ob<|aT d ps)from I.hok d _ e);rw[c]at h1;ext h1;show⟨k,j,a,b,⟨ob,c,h,g⟩,g,?_⟩;rw[i,zB (P:=X.prog) (w:=X.w),ã,<- Ck r];rfl
def HF:∀(ps:bN)(ws:gw),ps.length=ws.length->(yr xW ps ws).map (·.val)=ws
 |[],[],_=>rfl|[],_::_,h=>by ext h
 |_::_,[],h=>by ext h
 |p::ps,u::ws,h=>by rw[ϖ,ó,HF ps ws<|by apply h];rfl
def wC{σ:St}{ps:bN}(I:Â X Do σ H s)(e:H d=b3 (.frz ob<|aT d ps)):
  (d==ļ)=b5/\ps.length<=Ñ/\∃a b,ø s.heap d a b/\ob.data=.dict a b/\Å (ps.map (·.2.2)) (a.toList.map (·.val)):=by
 obtain⟨g,⟨c,r,p,n,o,a,b,h1,j,h,k,q⟩,_⟩:=(show Þ X.prog X.w H s.heap d (.frz ob<|aT d ps)from I.hok d _ e);rw[g]at h1;ext h1;show⟨p,n,a,b,⟨ob,g,j,h⟩,h,?_⟩;let i:(yr xW ps c).map (·.val)=c:=HF ps c<|by
  have:=r.length;rw[Ã]at this;show this
 rw[k,i];show r
def UK(hd:ob.data=.dict es ep):ŀ Qc P w K tg (Cr d ob ps) [q] q (λi h=>h.IsKeyIter q d i es.size ep) where
 mem:=∅
 obj:=λi h st b j=>by
  let e:b=q:=by apply j
  subst e;let⟨o,e,c,d⟩:=st;show⟨o,e,λv z=>by rw[d]at z;ext z⟩
 keep:=λi h x st k=>st.at λo e=>k q ∅ o e;item:=by
  intro X T hw R hc i u s σ H E I B st U;subst T hw R;let⟨p,y⟩:=U;let⟨lo,hl,J,G,g,a,A⟩:=sD I p;rw[hd]at a;ext a;let hs:es.size=ps.length:=by have:=congrArg Ĭ A;apply this
  let⟨L,M,f2,N,O,Q⟩:=B q ∅;show zE (I.ok.hd hc) st g (λe x n Z sb=>?_) λhn=>by simp at hn;lia
  let I1:Â X u σ H {s with heap:=x}:=I.turned (t':=s.toks) (λb o j e=>(sb.2 b j).trans e) L M N O Q;let⟨o,e1,c,d1⟩:=id Z;let Y:ps[i]?=b3 ps[i]:=ü y;let ek:e.key=.ref (ps[i]).2.1:=by have:=congrArg (·[i]?) A;dsimp[ú,ϸ,n,Y,Ĕ]at this;show ē this
  show⟨e.key,rfl,sY (s:={s with heap:=x}) e1 c d1 ⋯ ⟨.ref (ps[i]).2.1,H,I1,ek,⟨rfl,ps[i],Y,rfl⟩,Z,λb j=>(B b j).1⟩⟩
 done:=by
  intro X T hw R hc i u s σ H E I B st U;subst T hw R;let⟨p,y⟩:=U;let⟨lo,hl,J,G,g,a,A⟩:=sD I p;rw[hd]at a;ext a;let hs:es.size=ps.length:=by have:=congrArg Ĭ A;apply this
  let⟨L,M,f2,N,O,Q⟩:=B q ∅;show zE (I.ok.hd hc) st g (λe x n=>by
   have:=(PV.mp n).1;lia) λ_ x eb=>⟨rfl,I.turned (t':=s.toks) (λb o j e=>eb b o j e) L M N O Q⟩
 self:=λ_ f f f f st h=>Qb st h
def UL(k:PE X l n):PI X tg l (λσ H R=>n σ H λv a=>∃d ob ps,v=.ref d/\a d=b3 (.frz ob<|aT d ps)/\R (Cr d ob ps) a):=by
 intro j s σ H R I h;show aW (k j s σ H _ I h) λv i ⟨y,a,c,z,x⟩=>?_;let⟨d,ob,ps,e,u,q⟩:=x;subst e;obtain rfl:v=Ö d:=z;let⟨w,k,B,A,g,hd,E⟩:=sD c u;show Hi w g ⟨i.heap.objs.size,[i.heap.objs.size],_,_,a,rfl,c.kept (t':=i.toks) λb o e=>ß _ e,UK hd,⟨_,ć _ rfl,rfl,rfl⟩,λb p=>?_,q⟩;let e:b=i.heap.objs.size:=by apply p
 subst e;show c.fpOk (Ø _)<|c.hok.fresh<|Ø _
abbrev dS(kvs:jx):List D:=kvs.map λk=>D.tup<|k.1.map D.int
def UM{ps:bN}(c:H d=b3 (.frz ob<|aT d ps))(T:ì K π n H ps kvs):Wk K (Cr d ob ps) (dE<|.tup<|dS kvs) π n H:=by
 let w:ps.length=kvs.length:=by have:=congrArg Ĭ T.to.1;apply this
 show⟨λb s g i e R z=>?_,λb s g i h e R z=>?_⟩
 .let a:(dS kvs)[i]?=none:=ē z;have:=χ.mp a;rw[dS,Ã]at this;show⟨e.frz _ _ _ c,()⟩
 .let a:(dS kvs)[i]?=b3 h:=ē z;let hi:i<kvs.length:=by have:=(â.mp a).1;rwa [dS,Ã]at this
  show⟨⟨e.frz _ _ _ c,()⟩,λv u ⟨j,p,k,o⟩=>?_⟩;subst j o;let⟨x,h1,q⟩:=(T.to.2.1.mono e).get a;rw[ú,k]at h1;ext h1;show⟨.refl,R,q⟩
abbrev eT(m:ME):MI:=λc b=>(m c b).bind λp=>match p.1 with
 |.loc a=>match p.2[a]? with
  |some (.dF kvs)=>b3 (dE<|.tup<|dS kvs,kvs.length+1,p.2)|_=>b4
 |_=>b4
open _root_ in
def Ct(h:QE X e m):QJ X e (eT m):=⟨λtg Do s σ H R I hw=>by
 let⟨z,A,v,u,n,w,i,E,a,k⟩:=hw;show bR a ?_;clear a;intro x y h1 a;dsimp at a;split at a
 .split at a
  .rename_i p hc;ext a;show UL h.h Do s σ H R I ⟨z,A,v,_,_,i,E,h1,λb B g j c o=>?_⟩;ext o;let⟨ob,q,d,T⟩:=vZ c hc;show⟨_,ob,q,rfl,d,k b g _ j c<|UM d T⟩
  .ext a
 .ext a⟩
end L3
namespace L3
open PySem L2 PySem.W PyProof.Rows
abbrev HG(h:í)(b:Addr)(k:List Int):Prop:=∃xs:gw,J4 h b xs.toArray/\ų xs k
def UN{bs:List Addr}{ks:List (List Int)}(h0:0<bs.length)(x:ks.length=bs.length)(key:∀j b,bs[j]?=b3 b->HG s.heap b (ks.getD j [])/\ks.getD j []≠[]):qD P w A (bs.map Ö) (λi j=>HT.lexLt (ks.getD i [])<|ks.getD j []) s:=by
 let h:∃fs:gw,fs.length=bs.length/\M4 s.heap (bs.map Ö) fs/\∀v∈fs,∃i t,v=Ġ i t:=by
  clear h0;induction bs generalizing ks with
  |nil=>show⟨[],rfl,.nil,λv a=>nomatch a⟩|cons b bs Q=>
   match ks,x with
   |k::ks,x=>
    let⟨fs,y,p,q⟩:=Q (ks:=ks) (by apply x) λj c hc=>by apply key (j+1) c (by apply hc)
    obtain⟨⟨xs,⟨o,e,c,n,d⟩,hi⟩,g⟩:=key 0 b rfl;dsimp[List.getD_cons_zero]at hi g;cases hi with
    |nil=>show absurd rfl g|@cons i z T R M=>
     show⟨Ġ i z::fs,by simp[y],.cons e c d ∅ p,λv a=>?_⟩;rcases ĉ.mp a with rfl|a
     .show⟨i,z,rfl⟩
     .show q v a
 let⟨fs,y,p,q⟩:=h;ext qD;show Nr (T:=.type "int") p ?_ (λv a=>?_) rfl ⟨rfl,λi j C hi u L=>?_⟩
 .lia
 .let⟨i,t,rfl⟩:=q v a;show .now
 .rw[Ã]at hi u;obtain⟨⟨xa,⟨Z,H,U,Y,B⟩,N⟩,_⟩:=key i bs[i]<|ü hi;obtain⟨⟨xb,⟨ob,I,X,nb,G⟩,O⟩,_⟩:=key j bs[j]<|ü u;let J:(bs.map Ö).getD i .none=.ref bs[i]:=by simp[ĩ,hi]
  let K:(bs.map Ö).getD j .none=.ref bs[j]:=by simp[ĩ,u]
  rw[J,K];show kat_lt H B I G<|GR 0 N O L
def UO{bs:List Addr}{ks:List (List Int)}(M:A.handled=b4)(lo:(d==ļ)=b5)(g:ø s.heap d es ep)(z:es.toList.map (·.key)=bs.map Ö)(K:es.size<64)(O:ks.length=bs.length)(key:∀j b,bs[j]?=b3 b->HG s.heap b (ks.getD j [])/\ks.getD j []≠[])(q:∀(h' u:í)tk e,(∀b o,s.heap.get? b=b3 o->h'.get? b=b3 o)->(∀b o,h'.get? b=b3 o->u.get? b=b3 o)->u.get? h'.objs.size=b3 (Ė "list" ((c6 (λi j=>HT.lexLt (ks.getD i [])<|ks.getD j []) es.size).map λi=>Ö<|bs.getD i 0).toArray e)->Q (.ref h'.objs.size) {s with heap:=u,toks:=tk}):
  È (Í P w) A (call (.builtin "sorted") [.ref d]) Q E s:=by
 let n:bs.length=es.size:=by have:=congrArg Ĭ z;apply this.symm
 show PU Ny O8 O6 (OA _) ?_;ext Om;show Á (m:=O1 "sorted" 1 1 _) (Ê<|Á<|kdu_collect (A:=A.in1) (Hj lo) M g (by rw[ï];lia) λh' tk c H a=>?_);let J:c.toList=bs.map Ö:=by
  rw[<- z];show P1 λi=>?_;rw[ú,ϸ,ϸ];cases G:c[i]? with
  |some v=>let⟨e,U,X⟩:=a.2 i v G;rw[U,X];rfl|none=>
   have:c.size<=i:=by apply G
   rw[P5<|by rw[<- a.1];show this];rfl
 rw[J];let I:(bs.map Ö).length=es.size:=by rw[Ã,n]
 show Á (ug ?_<|by rw[I,ï];lia);let k:(h'.push<|Ė "list" (bs.map Ö).toArray 0).get? h'.objs.size=b3 (Ė "list" (bs.map Ö).toArray 0):=ć _ rfl;let fin:∀h:gw,h=((c6 (λi j=>HT.lexLt (ks.getD i [])<|ks.getD j []) es.size).map λi=>Ö<|bs.getD i 0)->Q (.ref h'.objs.size) {s with heap:=yl (h'.push<|Ė "list" (bs.map Ö).toArray 0) h'.objs.size (bs.map Ö) h.toArray,toks:=tk}:=by rintro h rfl;let⟨e,L⟩:=sortedHeap_at (h:=h'.push (Ė "list" (bs.map Ö).toArray 0)) (out:=((c6 (λi j=>HT.lexLt (ks.getD i [])<|ks.getD j []) es.size).map λi=>Ö<|bs.getD i 0).toArray) k;show q h' _ tk e H (λb o x=>?_) L;rw[Pp (û<|Ý x)<|by rw[ϔ];show za<|Ý x];show ß _ x
 by_cases B:2<=es.size
 .show Á<|Ŀ<|Θ uc (s:={s with heap:=h'.push<|Ė "list" (bs.map Ö).toArray 0,toks:=tk}) ⟨_,k,rfl⟩ ue (Co (an:=λi j=>HT.lexLt (ks.getD i [])<|ks.getD j []) () () k (λu R=>?_) ⟨_,rfl,?_⟩)<|tu _
  .show UN () O λj b N=>?_;obtain⟨⟨T,⟨o,o1,o2⟩,hi⟩,y⟩:=key j b N;let p:=H _ _ o1;show⟨⟨T,⟨o,R b o (û<|Ý p)<|ß _ p,o2⟩,hi⟩,y⟩
  .show Ê ⟨_,rfl,fin _ ?_⟩;rw[I];show Ţ λi hi=>?_;let hi:i<bs.length:=by have:=ň.mp ((B6 _ (n:=es.size) ()).mem_iff.mp hi);lia
   simp[ĩ,hi]
 .show Á (Ŀ<|Θ uc (s:={s with heap:=h'.push<|Ė "list" (bs.map Ö).toArray 0,toks:=tk}) ⟨_,k,rfl⟩ ue (B7 () k ⟨_,rfl,?_⟩)<|tu _);show Ê ⟨_,rfl,fin (bs.map Ö) ?_⟩;match bs,n with
  |[],e=>rw[<- e];change[]=(c6 _ 0).map _;rw[yV];rfl|[b],e=>rw[<- e];change[Ö b]=(c6 _ 1).map _;rw[B8];rfl|_::_::_,e=>rw[<- e]at B;simp at B
end L3
namespace L3
open PySem L2
abbrev HH(K:Õ):gz->Hp->VK->Prop:=λxs H Q=>∃a ps,xs=[V.ref a]/\H a=b3 (aT a ps)/\eQ K H ps/\ps.length<64/\(∀p∈ps,p.1≠[])/\∀l,H l=b4->Q (.ref l) (upd H l<|.lst<|(oW ps).map λp=>V.ref p.2.1)
def UP(hc:X.calm=dI):Ü X (.builtin "sorted") (HH X.K):=by
 intro o s σ H xs us Q I r h;let⟨a,c,rfl,O,B,N,x,q⟩:=h;let⟨u,rfl,ru⟩:=gU r;ext ru;let⟨lo,n,J,ep,g,A⟩:=v9 I O B;let R:J.size=c.length:=by have:=congrArg Ĭ A;apply this
 let L:∀{j:Nat}{b:Addr},(c.map (·.2.1))[j]?=b3 b->∃p∈c,c[j]?=b3 p/\p.2.1=b:=λ{j b} d=>by rw[ú]at d;show cE d ?_;clear d;intro p k K;show⟨p,Ĵ k,k,K⟩
 show UO (bs:=c.map (·.2.1)) (ks:=c.map (·.1)) (I.ok.hd hc) lo g (by rw[A,ã];rfl) () ∅ (λj b d=>?_) λv M y e U Y Z=>?_
 .let⟨p,E,k,rfl⟩:=L d;let G:(c.map (·.1)).getD j []=p.1:=by simp[ĩ,k]
  rw[G];let⟨its,rx,t,_⟩:=I.tuple<|B p E;show⟨⟨its,t,xS rx⟩,x p E⟩
 .let z:Â X o σ H {s with heap:=v,toks:=y}:=I.kept (t':=y) U;show⟨.ref v.objs.size,_,z.laid (t':=y) (h':=M) (a:=v.objs.size) (o:=.lst ((oW c).map λp=>V.ref p.2.1)) Y (Ø _) ?_,rfl,q _<|z.hok.fresh<|Ø _⟩;let w:(oW c).length=c.length:=Μ.length_eq;show⟨by rw[Ã,w];show n,_,e,?_,Z⟩;ext oW;rw[R,ã];have:∀l:List Nat,(∀i∈l,i<c.length)->Å (l.map<|(λp:List Int×Addr×V=>V.ref p.2.1)∘λi=>c.getD i ([],0,.non)) (l.map λi=>Ö<|(c.map (·.2.1)).getD i 0):=λl n=>by
   induction l with
   |nil=>show .nil|cons i l T=>show .cons ?_<|T λj d=>n j<|Ō _ d;let hi:=n i<|š ..;change Ö _=Ö _;simp[ĩ,hi]
  show this _ λi hi=>ň.mp<|(jV _ c.length).mem_iff.mp hi
abbrev qF(b:Hm):D->Bool
 |.loc a=>match b[a]? with|some (.dT _)=>dI|_=>b5
 |_=>b5
abbrev fU(f:D->List D->Hm->jk)(b:ME)(c:MA):ME:=λa d=>(b a d).bind λp=>match qF p.2 p.1 with
 |true=>(c a p.2).bind λq=>f p.1 q.1 q.2|false=>b4
abbrev Cu(K:Õ)(x:V)(H:Hp):Prop:=∃a ps,x=.ref a/\H a=b3 (aT a ps)/\eQ K H ps
open _root_ in
def UQ(R:Rp K π H b)(h:Ú K π b.length H v x)(e:qF b x=dI):Cu K v H:=by
 cases h with
 |@loc a g=>
  dsimp[qF]at e;split at e
  .rename_i i c;let⟨d,h1,T⟩:=jW R c;show⟨_,d,rfl,h1,T.keys⟩
  .ext e
 |_=>ext e
def UR{id:String}(q:Slot "dict" name id)(A:M3 (.builtin id)=pure (.type "method_descriptor"))(R:nH X id r)(T:PE X o to)(N:PA X (e::es) t)(i:gk o name X.env (eval o X.env)=eval o X.env)(p:((ŕ cpos<|ý (e::es) X.env).all (λx=>!x.1)&&(kj cpos<|m7 [] X.env).all (λx=>x.1.isSome)&&decide ((e::es).length+([]:List Φ).length+(if([]:List Φ).isEmpty then 0 else 1)<30))=dI)(j:(apos.endLine==cpos.line)=dI)(U:ý (e::es) X.env=(b5,eval e X.env)::ý es X.env)(c:(ŕ cpos<|ý es X.env).any (·.1)=b5):
  PE X (.Call (.Attribute o name apos) (e::es) [] cpos) (λk H Q=>to k H λx u=>Cu X.K x u/\t k u λw y=>r x w y Q):=by
 intro d s k H Q I h;show Qt i p j rfl<|aW (T d s k H _ I h) λv s1 ⟨x,u,B,r1,ty,Y⟩=>?_;let⟨a,ps,rfl,K,O⟩:=ty;obtain rfl:v=Ö a:=r1;let⟨lo,hl,w,ep,g,_⟩:=v9 B K O;show⟨"dict",id,NZ,q,A,g.ty,λb J=>?_,?_⟩
 .ext J;let⟨z,L,M,_⟩:=g;show⟨z,L,M.2.1⟩
 let E:=N cpos d s1 k u _ B Y;rw[U]at E ⊢;show zr (by change(b5||(ŕ cpos<|ý es X.env).any (·.1))=b5;rw[c]<;>rfl)<|Ro ?_;show aW E λus s2 ⟨w,y,G,r2,Z⟩=>R d s2 k y (.ref a) w _ us Q G rfl r2 Z
open _root_ in
def US(A:mR K f r):∀σ H Q,tM K (fU f mo ms) σ H Q->tM K mo σ H λx g=>Cu K x g/\Ε K ms σ g λvs h=>r x vs h Q:=by
 rintro σ H Q ⟨L,y,J,d,i,R,E,a,k⟩;show bR a ?_;clear a;intro x b h1 a;dsimp at a;split at a
 .rename_i B;show bR a ?_;clear a;intro w c z a;show⟨L,y,J,x,b,R,E,h1,λj I g s q v=>⟨UQ q v B,j,y,b,w,c,q,E.mono s,z,λp vs h u R2 G=>?_⟩⟩;show A p h c x w d i I vs Q R2 (v.mono u) G a<|k.after<|s.trans u
 .ext a
def Cv{id:String}(c:Slot "dict" name id)(d:M3 (.builtin id)=pure (.type "method_descriptor"))(j:nH X id r)(h:mR X.K f r)(p:QE X o mo)(g:QA X (e::es) ms n)(q:lQ o=dI)(i:(apos.endLine==cpos.line)=dI)(k:(e::es).length<30):QE X (.Call (.Attribute o name apos) (e::es) [] cpos) (fU f mo ms):=by
 let b:=g.s;let a:=b;rw[ō,ð]at a;show⟨eP (UR c d j p.h g.h (pY q) (GF b k) i (iF a.1)<|rO a.2)<|US h⟩
abbrev fV:D->List D->Hm->jk
 |.loc a,[y,z],μ=>match μ[a]? with
  |some (.dT kvs)=>(dR y).map λk=>((a9 kvs k).getD z,μ)|_=>b4
 |_,_,_=>b4
abbrev HJ(K:Õ):V->gz->Hp->VK->Prop:=λx vs H Q=>∃a b ps k z,x=.ref a/\vs=[.ref b,z]/\H a=b3 (aT a ps)/\eQ K H ps/\å K H b (k.map V.int)/\Q ((fL ps k).getD z) H
open _root_ in
def UT:mR K fV (HJ K):=by
 intro y H E x B d w v A Q R n c a k;unfold fV at a;split at a
 .split at a
  .rename_i q hc;show cE a ?_;clear a;intro h h1 a;ext a;ext n;cases c with
   |cons o t=>
    cases t with
    |cons p t=>
     ext t;let⟨s,i,T⟩:=jW R hc;let⟨b,rfl,j⟩:=qC o h1;show⟨_,b,s,h,_,rfl,rfl,i,T.keys,j,k y _ H .refl R ?_⟩;rcases T.val h with⟨e,g⟩|⟨v,z,e,g,u⟩
     .rw[e,g];show p
     .rw[e,g];show u
  .ext a
 .ext a
def UU(A:X.A.units+1<ÿ):nH X "dict.get" (HJ X.K):=by
 intro n s O H x M v L Q I G E h;let⟨a,b,g,k,z,rfl,rfl,e,p,o,q⟩:=h;ext G;let⟨u,J,rfl,B,i⟩:=E.two;obtain rfl:u=Ö b:=B;let⟨w,K,j,r,d⟩:=lU I (.of e) p;show lu RY d.typeIs PySem.F.entry_dict_get (PySem.F.args_dict_get_3 _ _ _) (meetsH_dict_get_default (ϝ<|Ŵ X.prog X.w) a b w J) ⟨r8 A,k,_,nP I o,d,?_⟩;show⟨(fL g k).getD z,H,I.tok _,?_,q⟩;have:=r6 r k;cases h1:fL g k with
 |none=>
  rw[h1]at this;cases c:(Ρ (cI g j) k).map (·.2)with
  |none=>show i|some y=>rw[c]at this;show this.elim
 |some N=>
  rw[h1]at this;cases c:(Ρ (cI g j) k).map (·.2)with
  |none=>rw[c]at this;show this.elim|some y=>rw[c]at this;show this
section
variable{P:Ť}{w:į}{K:Type} [DecidableEq K] {knd:M5 P w K}{A:ť}{E:Value->Ù->Prop}{s:Ù}{d a:Addr}{k:K}{xs:List (K×Addr×Value)}
def UW(H:knd.room A)(z:knd.is s.heap k a)(M:s.heap.DictOfH knd d xs)(hz:xs.length<=Ñ)(h1:∀p,Ρ xs k=b3 p->Q p.2 {s with toks:=s.toks+knd.draws k})(L:Ρ xs k=b4->∀u,u.DictOfH knd d (ϛ xs k a v)->Κ d s.heap u->Q v {s with heap:=u,toks:=s.toks+knd.draws k}):
  È (Í P w) A (OR d (.ref a) v) Q E s:=by
 let⟨o,N,J,g,hc,hd,q,h,B⟩:=id M;ext OR;show Ŀ<|Á<|knd.pyHash H z<|Á<|QR (s:={s with toks:=s.toks+knd.draws k}) H z g hd q h B (λi=>?_) λj p G=>?_
 .let b:=Qf i;let n:k∉xs.map (·.1):=QN i;show Á<|Ϝ<|Á<|Qd (hz:=by let e:=NH q;lia) (s:={s with toks:=s.toks+knd.draws k}) g hd<|Ê<|L b _ ⟨_,_,J+1,ϓ _ g<|NW<|vg hd _,hc.mapDictKeys _,vg hd _,?_,λx c=>?_,?_⟩<|Ż ..
  .rw[m9 b];simp[q,yj]
  .rw[m9 b]at c;rcases Ħ.mp c with c|c
   .show knd.keeps (h x c) g hd<|Ż ..
   .rw[Ē]at c;subst c;show knd.keeps z g hd<|Ż ..
  .rw[m9 b,þ,Ϻ];show⟨B,∅,λx c y I e=>by
    dsimp[ó,϶,Ē]at I;subst I;show n<|e▸c⟩
 .show Á<|ϒ (s:={s with toks:=s.toks+knd.draws k}) g hd ?_;rw[entry_at q j,G];show Á<|Ϝ<|Ê<|h1 _<|atKey_of_get B G
def UX(knd:M5 P w K)d a(hd:(d==ļ)=b5)v:yd P w (Builtin.«dict.setdefault» ⟨[.ref d,.ref a,v],[]⟩) (λA R s=>knd.room A.in1/\∃k xs,knd.is s.heap k a/\s.heap.DictOfH knd d xs/\xs.length<=Ñ /\
   (∀p,Ρ xs k=b3 p->R (.ok<|.ret p.2) {s with toks:=s.toks+knd.draws k})/\(Ρ xs k=b4->∀b,b.DictOfH knd d (ϛ xs k a v)->Κ d s.heap b->R (.ok<|.ret v) {s with heap:=b,toks:=s.toks+knd.draws k})):=
 .of_wp λA R s ⟨o,k,xs,i,g,q,h1,h⟩=>by unfold Builtin.«dict.setdefault»;show Á ?_;ext b4Z;show Á<|vh g.typeIs<|Ê ?_;change È _ _ (if(d==ļ)=dI then _ else(OR d (.ref a) v >>= _)) _ _ s;rw[if_neg<|by rw[hd];show ô];show Á<|UW o i g q (λp n=>Ê ⟨_,rfl,h1 p n⟩) λj b c e=>Ê ⟨v,rfl,h j b c e⟩
end
abbrev jY:D->List D->Hm->jk
 |.loc a,[y,z],μ=>match μ[a]? with
  |some (.dT kvs)=>(dR y).bind λk=>match a9 kvs k with
   |some d=>b3 (d,μ)|none=>if kvs.length<Ñ then b3 (z,μ.set a<|.dT<|cD kvs k z)else b4
  |_=>b4
 |_,_,_=>b4
abbrev HK(K:Õ):V->gz->Hp->VK->Prop:=λx vs H Q=>∃a b ps k z,x=.ref a/\vs=[.ref b,z]/\H a=b3 (aT a ps)/\eQ K H ps/\å K H b (k.map V.int)/\((∃v,fL ps k=b3 v/\Q v H)\/(fL ps k=b4/\ps.length<Ñ/\Q z (upd H a<|aT a<|e8 ps k b z)))
open _root_ in
def UY:mR K jY (HK K):=by
 intro u H N x M d G v L Q R A h a k;unfold jY at a;split at a
 .split at a
  .rename_i e hc;show bZ a ?_;clear a;intro c h1 a;cases A with
   |loc g=>
    cases h with
    |cons B t=>
     cases t with
     |cons s t=>
      cases t;let⟨i,o,T⟩:=jW R hc;let⟨b,rfl,q⟩:=qC B h1;show⟨_,b,i,c,_,rfl,rfl,o,T.keys,q,?_⟩;let z:i.length=e.length:=by have:=congrArg Ĭ T.to.1;apply this
      rcases T.val c with⟨j,n⟩|⟨v,I,j,n,E⟩
      .rw[n]at a;dsimp at a;split at a
       .rename_i J;ext a;let y:=T.put c q s;let⟨p,w⟩:=R.put (c:=.dT (cD e c d)) (o:=aT _ (e8 i c b _)) g o (.inr<|.inr ⟨_,rfl⟩) ⟨_,rfl,y.to⟩;show .inr ⟨j,(),k u _ _ p w<|s.mono p⟩
       .ext a
      .rw[n]at a;ext a;show .inl ⟨v,j,k u _ H .refl R E⟩
  .ext a
 .ext a
def UZ(N:X.A.units+1<ÿ):nH X "dict.setdefault" (HK X.K):=by
 intro y s σ H x vs v us Q I Y U h;let⟨a,b,o,k,z,rfl,rfl,e,J,E,q⟩:=h;ext Y;let⟨u,Z,rfl,T,g⟩:=U.two;obtain rfl:u=Ö b:=T;let⟨n,hl,ws,r,d⟩:=lU I (.of e) J;let O:(cI o ws).length<=Ñ:=by have:=congrArg Ĭ<|oV r;rw[Ã,Ã]at this;lia
 let c:=r6 r k;show lu SY d.typeIs PySem.F.entry_dict_setdefault (PySem.F.args_dict_setdefault_3 _ _ _) (UX (ϝ<|Ŵ X.prog X.w) a b n Z) ⟨r8 N,k,_,nP I E,d,O,λp L=>?_,λK B i j=>?_⟩
 .rw[L]at c;rcases q with⟨w,h1,q⟩|⟨h1,_⟩
  .rw[h1]at c;show⟨w,H,I.tok _,c,q⟩
  .rw[h1]at c;show c.elim
 .rw[K]at c;rcases q with⟨w,h1,q⟩|⟨h1,hz,q⟩
  .rw[h1]at c;show c.elim
  .let⟨ws',R,A⟩:=zC r k b g;rw[A]at i;let G:∃q,B.get? a=b3 q:=let⟨q,_,_,M,_⟩:=i;⟨q,M⟩;show⟨z,_,xR I (by rw[e];show ϰ) j G<|vY n (by have:=vX o k b z;lia) R i,g,q⟩
def U0{bs:List Addr}(g:ø s.heap d es ep)(o:es.toList.map (·.key)=bs.map Ö)(I:∀b∈bs,s.TypeIs (.ref b) "tuple")(nd:(es.toList.map (·.hash)).Nodup)(q:Q es s):È (Í P w) A (SV H d) Q E s:=by
 let⟨z,u,J,v⟩:=id g;ext SV;show Á<|ϒ u v<|Á ?_;rw[<- Array.forIn_toList];show OZ _ (λcH f c=>c=s/\∀e∈cH,e∈es.toList) _ (λe cH b c ⟨h1,i⟩=>?_) (λb c ⟨h1,_⟩=>?_) _ _ ⟨rfl,λe h=>h⟩
 .subst h1;let h:=i e<|š ..;let B:e.key∈bs.map Ö:=by rw[<- o];show Ô.mpr ⟨e,h,rfl⟩
  let⟨a,y,p⟩:=Ô.mp B;let quiet:∀{Q:Bool->Ù->Prop},Q b5 c->È (Í P w) A (Ru e.key) Q E c:=λ{Q} q=>by rw[<- p];ext Ru;show Á<|uf (I a y) PySem.F.slot_tuple_eq.lookup<|Ê q
  show Á<|quiet ?_;let one:((es.filter (·.hash==e.hash)).size>1)=False:=by
   show eq_false λz=>?_;let K:1<(es.toList.filter λx=>x.hash==e.hash).length:=by let k:(es.filter (·.hash==e.hash)).toList=es.toList.filter λx=>x.hash==e.hash:=Array.toList_filter ..;let n:=congrArg Ĭ k;dsimp[il]at n;lia
   let j:(es.toList.filter λx=>x.hash==e.hash).length=(es.toList.map (·.hash)).count e.hash:=by rw[List.count,List.countP_map,<- List.countP_eq_length_filter];rfl
   have:=List.nodup_iff_count.mp nd e.hash;lia
  dsimp[zf,if_true,one,if_false];show Ê ⟨rfl,λx G=>i x<|Ō _ G⟩
 .subst h1;show Ê q
noncomputable abbrev wD:=List<|List Int×Addr×Value
inductive dj (A:ť)(s:Ù)(ys:wD):wD->Bool->Prop
 |nil:dj A s ys [] dI
 |miss {x:List Int×Addr×Value}{r:wD}:Ρ ys x.1=b4->dj A s ys (x::r) b5
 |hit {x:List Int×Addr×Value}{p:Addr×Value}{r:wD}{e b:Bool}:Ρ ys x.1=b3 p->m5 A s x.2.2 p.2 e->dj A s ys r b->dj A s ys (x::r) (e&&b)
noncomputable abbrev Cw(n:Nat):Prop:=n<64
def U1{σ:St}(I:Â X Do σ H s)(k:∀b u,s.heap.get? b=b3 u->h'.get? b=b3 u)(old:∀b,b<s.heap.objs.size->H' b=H b)(new:∀b o,s.heap.objs.size<=b->H' b=b3 o->Þ X.prog X.w H' h' b o):
  Â X Do σ H' {s with heap:=h',toks:=t'}:=by
 let lt:∀b u,H b=b3 u->b<s.heap.objs.size:=λb u e=>Nat.lt_of_not_le λz=>by rw[I.hok.fresh z]at e;ext e
 let same:∀b u,H b=b3 u->H' b=b3 u:=λb u e=>by rw[old b<|lt b u e];show e
 show I.un ⟨λb u q x x x=>k b u q,λb u q x x x=>⟨u.slots,k b u q⟩,λb u q n x=>by rw[old b<|Ý q];show n,λb u q x=>⟨u,k b u q⟩,λb d q=>same b _ q,λb u d q=>same b _ q,λb g q=>⟨#[],by rw[same b _ q];simp⟩⟩ λb u e=>?_;by_cases a:b<s.heap.objs.size
 .rw[old b a]at e;show(I.hok b u e).stay (λc v x q=>k c v q) (λc q=>same c _ q) λc d q=>same c _ q
 .show new b u (QV a) e
abbrev iU(H:Hp):List Addr->bN->Hp
 |a::as,p::ps=>iU (upd H a<|.tup [.ref p.2.1,p.2.2]) as ps|_,_=>H
def sE:∀{as}{ps}{H}{b},b∉as->iU H as ps b=H b
 |[],_,_,_,_=>by simp[iU]
 |a::as,[],_,_,_=>rfl|a::as,p::ps,H,b,h=>by rw[ĉ,not_or]at h;change iU (upd H a _) as ps b=H b;rw[sE h.2,bQ h.1]
def zI:∀{as:List Addr}{ps:bN}{H:Hp}{i:Nat}{a:Addr}{p:List Int×Addr×V},as.Nodup->as[i]?=b3 a->ps[i]?=b3 p->iU H as ps a=b3 (.tup [.ref p.2.1,p.2.2])
 |[],_,_,_,_,_,_,h,_=>by simp at h
 |_::_,[],_,_,_,_,_,_,h=>by simp at h
 |x::as,y::ps,H,0,a,p,nd,h1,h2=>by
  obtain rfl:x=a:=by apply h1
  obtain rfl:y=p:=by apply h2
  rw[Ŏ]at nd;change iU (upd H x _) as ps x=_;rw[sE nd.1,dW]
 |x::as,y::ps,H,i+1,a,p,nd,h1,h2=>by rw[Ŏ]at nd;show zI (as:=as) (ps:=ps) (i:=i) nd.2 (by apply h1)<|by apply h2
abbrev jZ(ps:bN):List Nat:=c6 (λi j=>HT.lexLt ((ps.map (·.1)).getD i [])<|(ps.map (·.1)).getD j []) ps.length
abbrev iG(as:List Addr)(ps:bN):gz:=(jZ ps).map λi=>V.ref<|as.getD i 0
def U2{σ:St}(hc:X.calm=dI)(hun:X.A.units+64<ÿ)(I:Â X Do σ H s){ps:bN}(e:H d=b3 (aT d ps))(hk:eQ X.K H ps)(K:Cw ps.length)(hv:s.heap.IsItemsView r d)(k:∀as L l,as.length=ps.length->(l::L::as).Nodup->(∀a∈l::L::as,H a=b4)->Q (.ref l) (upd (upd (iU H as ps) L<|.lst<|iG as ps) l<|.tup<|iG as ps)):
  È (Í X.prog X.w) X.A (call (.builtin "sorted") [.ref r]) (λv s'=>È (Í X.prog X.w) X.A (call (.type "tuple") [v]) (EP X Do σ Q) X.xe s') X.xe s:=by
 let⟨lo,hl,Z,rv,z,es,ep,z1,z2,z3,z4,z5,z6⟩:=lU I (.of e) hk;let hwl:Z.length=ps.length:=by have:=rv.length;rw[Ã]at this;show this.symm
 let hxl:(cI ps Z).length=ps.length:=by ext cI;rw[List.length_zipWith,hwl,Py]
 let y:es.size=ps.length:=by rw[<- il,z4,Ã,hxl]
 let nd:(ps.map (·.1)).Nodup:=by rw[oV rv]at z6;show z6
 let at_:∀(j:Nat)(q:DictEntry),es[j]?=b3 q->∃p u,ps[j]?=b3 p/\Z[j]?=b3 u/\q.key=.ref p.2.1/\q.val=u:=λj q h=>by
  rw[<- ϸ,z4,ú]at h;let⟨x,h1,rfl⟩:=ţ.mp h;unfold cI at h1;rw[Rt]at h1;cases A:ps[j]? with
  |none=>rw[A]at h1;simp at h1|some p=>
   cases hw:Z[j]? with
   |none=>rw[A,hw]at h1;simp at h1|some u=>
    rw[A,hw]at h1;have:(p.1,p.2.1,u)=x:=by apply h1
    subst this;show⟨p,u,rfl,rfl,rfl,rfl⟩
 let K:ps.length<64:=K;show UH (an:=λi j=>HT.lexLt ((ps.map (·.1)).getD i [])<|(ps.map (·.1)).getD j []) (I.ok.hd hc) hv ⟨z,z1,z2,z3⟩ () (λh22 U J as kp T G=>?_) λU J as L q kp T G hL nL gL=>?_
 .let I3:Â X Do σ H {s with heap:=U,toks:=J}:=I.kept (t':=J) kp;show UG (A:=X.A.in1.in1) (s:={s with heap:=U,toks:=J}) (bs:=ps.map (·.2.1)) (ks:=ps.map (·.1)) (by change X.A.units+1+1<ÿ;lia) G () T (by rw[Ã,y]) (by rw[Ã,y]) (λj q w=>?_) nd;let⟨p,u,E,p2,p3,p4⟩:=at_ j q w;let n:j<ps.length:=(â.mp E).1;let g:(ps.map (·.2.1)).getD j 0=p.2.1:=by simp[ĩ,E]
  let ek:(ps.map (·.1)).getD j []=p.1:=by simp[ĩ,E]
  rw[g,ek];let sq:=hk p<|Ĵ E;show⟨p3,nP I3 sq,?_⟩;let⟨xs,rx,t,_⟩:=I3.tuple sq;show⟨xs,t,b0j rx⟩
 .rw[y]at gL T;let B:as.Nodup:=G.up.imp λh=>û h;let hin:∀i∈jZ ps,i<ps.length:=λi hi=>ň.mp<|(jV _ _).mem_iff.mp hi;let R:(jZ ps).length=ps.length:=by have:=(jV (λi j=>HT.lexLt ((ps.map (·.1)).getD i [])<|(ps.map (·.1)).getD j []) ps.length).length_eq;rw[ph]at this;show this
  let nLa:L∉as:=λh=>nL L h rfl;let I1:Â X Do σ (upd (iU H as ps) L<|.lst<|iG as ps) {s with heap:=U,toks:=J}:=by
   show U1 (t':=J) I kp (λb Y=>?_) λb o Y g=>?_
   .rw[bQ<|û<|ĸ Y hL,sE λh=>Nat.lt_asymm Y<|G.over b h]
   .by_cases N:b=L
    .subst N;rw[dW]at g;ext g;show⟨by ext iG;rw[Ã,R];show hl,(jZ ps).map λi=>Ö<|as.getD i 0,q,?_,gL⟩;ext iG;show Cp λi f=>rfl
    .rw[bQ N]at g;by_cases O:b∈as
     .let⟨j,w⟩:=zq.mp O;let n:j<ps.length:=by have:=(â.mp w).1;lia
      have A:ps[j]?=b3 ps[j]:=ü n;rw[zI B w A]at g;ext g;let⟨x,x1,x2⟩:=G.prs j _ w;let⟨p,u,E,p2,p3,p4⟩:=at_ j x x1;rw[A]at E;ext E;let⟨u',g1,g2⟩:=rv.get (i:=j) (x:=ps[j].2.2) (by rw[ú,A];rfl);rw[p2]at g1;ext g1;rw[p3,p4]at x2;show⟨by change(2:Nat)<=Ñ;decide,[.ref ps[j].2.1,u],.cons rfl<|.cons g2 .nil,_,x2,rfl,0,rfl,rfl⟩
     .rw[sE O,I.hok.fresh Y]at g;ext g
  show b0u Do _ σ _ [.ref L] [.ref L] Q I1 (.cons rfl .nil) ⟨L,iG as ps,rfl,.inl ⟨.inl<|.inl dW,λl c=>?_⟩⟩;let lL:l≠L:=λh=>by rw[h,dW]at c;ext c
  rw[bQ lL]at c;let la:l∉as:=λh=>by
   let⟨j,w⟩:=zq.mp h;let n:j<ps.length:=by have:=(â.mp w).1;lia
   rw[zI B w<|ü n]at c;ext c
  rw[sE la]at c;show k as L l T ?_ λa M=>?_
  .rw[Ŏ,Ŏ];show⟨λh=>(ĉ.mp h).elim lL la,nLa,B⟩
  .rcases ĉ.mp M with rfl|M
   .show c
   rcases ĉ.mp M with rfl|M
   .show I.hok.fresh hL
   .show I.hok.fresh<|Rr<|G.over a M
abbrev zJ(k:List Int×D):D:=.tup [.tup<|k.1.map D.int,k.2]
abbrev zK:D->Hm->jk
 |.loc a,μ=>match μ[a]? with
  |some (.dT kvs)=>if Cw kvs.length then b3 (.tup<|(oX kvs).map zJ,μ)else b4|_=>b4
 |_,_=>b4
abbrev zL(m:ME):ME:=λb a=>(m b a).bind λr=>zK r.1 r.2
abbrev HL(K:Õ):V->Hp->VK->Prop:=λx H Q=>∃a ps,x=.ref a/\H a=b3 (aT a ps)/\eQ K H ps/\Cw ps.length /\
 ∀(as:List Addr)(L l:Addr),as.length=ps.length->(l::L::as).Nodup->(∀a∈l::L::as,H a=b4)->Q (.ref l) (upd (upd (iU H as ps) L<|.lst<|iG as ps) l<|.tup<|iG as ps)
def U3(hc:X.calm=dI)(B:X.A.units+64<ÿ)(y:X.mg "sorted"=b4)(A:X.mg "tuple"=b4)(u:Gl X "sorted")(w:Gl X "tuple")(U:PE X o to)(c:gk o "items" X.env (eval o X.env)=eval o X.env)(d:(apos.endLine==cpos.line)=dI):
  PE X (.Call (.Name "tuple" p) [.Call (.Name "sorted" p2) [.Call (.Attribute o "items" apos) [] [] cpos] [] pos2] [] pos) (λj H Q=>to j H λx k=>HL X.K x k Q):=by
 intro i s j H Q I h;show bx<|kG I w A Ss ?_;show qg ?_ rfl rfl;show NV ?_;show bx<|kG I u y PR ?_;show Sm ?_ rfl rfl;show NV ?_;show PF c d<|aW (U i s j H _ I h) λv E ⟨x,k,G,r1,a,ps,O,e,J,n,q⟩=>?_;subst O;obtain rfl:v=Ö a:=r1;let⟨Z,hl,N,M,g,he⟩:=v9 G e J;show⟨"dict","dict.items",NZ,Na,SF,g.ty,λb L=>?_,zr rfl<|PB ?_⟩
 .ext L;let⟨z,R,T,_⟩:=g;show⟨z,R,T.2.1⟩
 show lu Na g.ty SQ (Rw _) (HB a Z) ⟨⟨N,M,g⟩,?_⟩;show NF ?_;let K:Â X i j k {E with heap:=E.heap.push {cls:=.type "dict_items",data:=.fields #[.ref a]}}:=G.kept (t':=E.toks) λb o e=>ß _ e;show aW (U2 hc B K e J n ⟨_,ć _ rfl,rfl,rfl⟩ q) λv s' Y=>NF Y
def HM:∀{as}{ps}{H},Rp K π H c->as.Nodup->(∀a∈as,H a=b4)->ò π c.length H π c.length (iU H as ps)/\Rp K π (iU H as ps) c
 |[],_,H,R,_,_=>by dsimp[iU];show⟨.refl,R⟩
 |a::as,[],H,R,_,_=>⟨.refl,R⟩|a::as,p::ps,H,R,nd,hf=>by
  rw[Ŏ]at nd;let⟨g,e⟩:=R.fresh (o:=.tup [.ref p.2.1,p.2.2])<|hf a<|š ..;let⟨h,R2⟩:=HM (as:=as) (ps:=ps) e nd.2 λb d=>by rw[bQ λw:b=a=>nd.1<|w▸d];show hf b<|Ō _ d
  show⟨g.trans h,R2⟩
open _root_ in
def U4:∀σ H Q,tM K (zL O) σ H Q->tM K O σ H λx n=>HL K x n Q:=by
 rintro σ H Q ⟨π,ρ,μ,d,o,R,E,g,k⟩;show bR g ?_;clear g;intro x z h1 g;show⟨π,ρ,μ,x,z,R,E,h1,λh v1 n e1 A i1=>?_⟩;let k1:=k.after e1;dsimp at g;unfold zK at g;split at g
 .split at g
  .rename_i b hc;split at g
   .rename_i hb;ext g;ext i1;let⟨c,e2,T⟩:=jW A hc;let N:c.length=b.length:=by have:=congrArg Ĭ T.to.1;apply this
    show⟨_,c,rfl,e2,T.keys,by rw[N];show hb,λe L l al nd u=>?_⟩;rw[Ŏ,Ŏ]at nd;let⟨B,X⟩:=HM (ps:=c) A nd.2.2 λa ha=>u a<|Ō _<|Ō _ ha;let hL:iU n e c L=none:=by rw[sE nd.2.1];show u L<|Ō _<|š ..
    let⟨G,Y⟩:=X.fresh (o:=.lst (iG e c)) hL;let hl:upd (iU n e c) L (.lst<|iG e c) l=none:=by rw[bQ λw:l=L=>nd.1<|by rw[w];show š ..,sE λw=>nd.1<|Ō _ w];show u l<|š ..
    let⟨I,Z⟩:=Y.fresh (o:=.tup (iG e c)) hl;show k1 h _ _ ((B.trans G).trans I) Z<|.tup (.of dW) ?_;let y:c.map (·.1)=b.map (·.1):=T.to.1;let key:∀p:List Nat,(∀i∈p,i<b.length)->Æ K h o.length (upd (upd (iU n e c) L<|.lst<|iG e c) l<|.tup<|iG e c) (p.map λi=>V.ref<|e.getD i 0) (p.map<|zJ∘λi=>b.getD i ([],.non)):=λp s=>by
     induction p with
     |nil=>show .nil|cons i p ih=>
      have hi:=s i<|š ..;let q:e[i]?=b3 (e.getD i 0):=by simp[ĩ,show i<e.length by lia]
      have v:c[i]?=b3 c[i]:=ü ();let hik:b[i]?=b3 b[i]:=ü hi;let J:b.getD i ([],.non)=b[i]:=by simp[ĩ,hi]
      have ep:c.getD i ([],0,.non)=c[i]:=by simp[ĩ,show i<c.length by lia]
      have U:=HC T ([],0,.non) ([],.non) i ();rw[ep,J]at U;let⟨q1,q2,q3⟩:=U;show .cons ?_<|ih λj hj=>s j<|Ō _ hj;let at_:upd (upd (iU n e c) L<|.lst<|iG e c) l (.tup<|iG e c) (e.getD i 0)=b3 (.tup [.ref c[i].2.1,c[i].2.2]):=by let g:=Ĵ q;rw[bQ λw:e.getD i 0=l=>nd.1<|by rw[<- w];show Ō _ g,bQ λw:e.getD i 0=L=>nd.2.1<|by rw[<- w];show g];show zI nd.2.2 q v
      change Ú K h o.length _ (.ref<|e.getD i 0) (zJ<|b.getD i ([],.non));rw[J];let M:=(B.trans G).trans I;let ik:Ú K h o.length n (.ref c[i].2.1) (.tup<|b[i].1.map D.int):=by rw[<- q1];show .tup q2<|Ca _
      show .tup (.of at_)<|.cons (ik.mono M)<|.cons (q3.mono M) .nil
    let ey:iG e c=(c6 (λi j=>HT.lexLt ((b.map (·.1)).getD i [])<|(b.map (·.1)).getD j []) b.length).map λi=>V.ref (e.getD i 0):=by ext iG jZ;rw[y,N]
    let fin:=key (c6 (λi j=>HT.lexLt ((b.map (·.1)).getD i [])<|(b.map (·.1)).getD j []) b.length) λi hi=>ň.mp<|(jV _ _).mem_iff.mp hi;rw[<- ey]at fin;ext oX;rw[ã];show fin
   .ext g
  .ext g
 .ext g
def U5(hc:X.calm=dI)(i:X.A.units+64<ÿ)(g:X.mg "sorted"=b4)(h:X.mg "tuple"=b4)(d:Gl X "sorted")(e:Gl X "tuple")(n:QE X o j)(q:lQ o=dI)(k:(a.endLine==b.line)=dI):
  QE X (.Call (.Name "tuple" p) [.Call (.Name "sorted" s) [.Call (.Attribute o "items" a) [] [] b] [] c] [] pos) (zL j):=
 ⟨eP (U3 hc i g h d e n.h (pY q) k) U4⟩
def U6 d(hd:(d==ļ)=b5):yd P w (Builtin.«dict.values» ⟨[.ref d],[]⟩) (λ_ R s=>(∃es ep,ø s.heap d es ep) /\
   R (.ok<|.ret<|.ref s.heap.objs.size) {s with heap:=s.heap.push {cls:=.type "dict_values",data:=.fields #[.ref d]}}):=
 .of_wp λA R s ⟨⟨es,ep,g⟩,h⟩=>by change È _ _ (P7 "values" _ >>= _) _ _ s;show Á ?_;ext P7;show Á<|vh g.ty ?_;change È _ _ (pure d) _ _ s;show Ê ?_;change È _ _ (ou d >>= _) _ _ s;ext ou;rw[if_neg<|by rw[hd];show ô];show Á<|Ê ?_;show Á<|ź<|Ê ⟨_,rfl,h⟩
def U7(c:s.heap.IsValuesView v d)(g:ø s.heap d es ep)(q:Q (.ref s.heap.objs.size) {s with heap:=s.heap.push {cls:=.type "dict_valueiterator",data:=.fields #[.ref d,.int 0 0,.int es.size 0,.int ep 0]}}):È (Í P w) A (JF<|.ref v) Q E s:=by
 let⟨n,b,j,a⟩:=id c;let⟨z,e,k,h⟩:=id g;show OT c.typeIs F.slot_dict_values_iter<|Θ F.slot_dict_values_iter c.typeIs F.entry_dict_values_iter ?_<|F.args_dict_values_iter_1 _;unfold Builtin.«dict_values.__iter__»;show Á<|Ê<|Á ?_;ext Sn;show Á<|Χ b a (x:=.ref d) rfl<|Ê<|Á ?_;ext Se;show Á<|ϒ e h<|Á<|gj e h ?_;dsimp[show M1 "dict_valueiterator"=b5 by decide,Ň,if_false];show ź<|Ê ⟨_,rfl,"dict_valueiterator",_,⟨_,ć _ rfl,rfl⟩,F.slot_dict_valueiterator_next.lookup,?_⟩;simpa[ř]using q
def HN(v:A.handled=b4)(j:s.heap.IsValIter it d i es.size ep)(g:ø s.heap d es ep)(G:∀e a,es[i]?=b3 e->a.IsValIter it d (i+1) es.size ep->Κ it s.heap a->Q (b3 e.val) {s with heap:=a})(H:es[i]?=b4->∀a,R8 it s.heap a->Q b4 {s with heap:=a}):È (Í P w) A (ş<|.ref it) Q E s:=by
 let⟨y,h,B,b⟩:=id j;let⟨z,n,I,o⟩:=id g;let k:∀{Q:String->Ù->Prop}{A:ť}{E:Value->Ù->Prop},Q "dict_valueiterator" s->È (Í P w) A (OG<|.ref it) Q E s:=λq=>wpAny_typeNameOfWhole_valiter j.typeIs q;ext ş;show Á<|N3<|vp (name:=Ű "__next__") j.typeIs F.slot_dict_valueiterator_next<|Θ F.slot_dict_valueiterator_next j.typeIs F.entry_dict_valueiterator_next ?_<|F.args_dict_valueiterator_next_1 _;show Á<|Ê<|Á<|Á<|Á<|k<|Ê<|Á<|OB h b ?_;dsimp[show M1 "dict_valueiterator"=b5 by decide,Ň,if_false];change È _ _ (if(Ö d==Ľ)=dI then _ else _) _ _ _;rw[if_neg<|show ¬ (Ö d==Ľ)=dI from λx=>ô x];show Á<|Ê<|Á<|ϒ n o ?_;rw[if_neg λx=>by simp at x];show Á<|Ê<|Á<|gj n o ?_;rw[if_neg λx=>by simp at x];show Ê ?_;dsimp[if_neg<|show ¬ ((i:Int)<0) by lia,bw];cases p:es[i]? with
 |some e=>
  show Á<|Á<|k<|Ê<|Á<|Ot j.typeIs ?_;change È _ _ (qw (.ref it) 1 (ř<|(i:Int)+1) >>= _) _ _ _;show Á (my h b ∅ ?_);let c:(s.heap.update it<|MY (·.setIfInBounds 1<|ř<|(i:Int)+1)).IsValIter it d (i+1) es.size ep:=
   ⟨_,ϓ _ h<|PD<|uo b _,(Oz ..).trans B,by simp[uo b,ř]⟩
  generalize hu:s.heap.update it (MY (·.setIfInBounds 1<|ř<|(i:Int)+1))=u at c;show Á<|Ŀ<|Á<|Ot (s:={s with heap:=u}) c.typeIs<|Á<|Ot (s:={s with heap:=u}) c.typeIs ?_;change È _ _ (pure e.val) _ _ _;show Ê<|Ê ⟨_,rfl,Ê<|G e u p c<|hu▸Ż ..⟩
 |none=>show Á<|Á<|k<|Ê ?_;change È _ _ (qw (.ref it) 0 .none >>= _) _ _ _;show Á (my h b ∅ ?_);change È _ _ (fB (.type "StopIteration") [] >>= _) _ _ _;dsimp[fB,ye];show Á (Á<|ź ?_<|by size_fits);show Á (m:=gh _ _) (mD (a:=Ľ) (by first|rfl|(dsimp[gh];rfl))<|ź ?_<|by size_fits);dsimp[M8];show Á<|N4 ?_;rw[show A.in1.handled=b4 from v];show Á<|Ê<|ML ?thrown;case thrown=>show Á<|mX (T:="StopIteration") (b:=dI) ⟨_,ć _ rfl,rfl⟩ MW<|Ê<|H p _<|((Ż ..).extBut.push _).push _
abbrev Cy(d:Addr)(ob:Obj)(ps:bN):It:=⟨λi H=>H d=b3 (.frz ob<|aT d ps)/\i<ps.length,λi H x a=>a=H/\∃p,ps[i]?=b3 p/\x=p.2.2,λi H=>H d=b3 (.frz ob<|aT d ps)/\ps.length<=i⟩
def U8(hd:ob.data=.dict es ep):ŀ Qc P w K tg (Cy d ob ps) [q] q (λi h=>h.IsValIter q d i es.size ep) where
 mem:=∅
 obj:=λi h st b j=>by
  let e:b=q:=by apply j
  subst e;let⟨o,e,c,d⟩:=st;show⟨o,e,λv z=>by rw[d]at z;ext z⟩
 keep:=λi h y st k=>let⟨o,e,c⟩:=st;⟨o,k q ∅ o e,c⟩;item:=by
  intro X U hw T hc i x s σ H E I G st Y;subst U hw T;let⟨p,A⟩:=Y;let⟨lo,hl,L,J,g,a,B⟩:=wC I p;rw[hd]at a;ext a;let hs:es.size=ps.length:=by have:=B.length;rw[Ã,Ã,il]at this;show this.symm
  let⟨M,N,f2,O,Q,R⟩:=G q ∅;show HN (I.ok.hd hc) st g (λe y n j' sb=>?_) λhn=>by simp at hn;lia
  let I1:Â X x σ H {s with heap:=y}:=I.turned (t':=s.toks) (λb o j e=>(sb.2 b j).trans e) M N O Q R;let⟨o,e1,c,d1⟩:=id j';let Z:ps[i]?=b3 ps[i]:=ü A;let⟨u,u1,u2⟩:=B.get (i:=i) (x:=ps[i].2.2) (by rw[ú,Z];rfl);rw[ú,ϸ,n]at u1;ext u1;show⟨e.val,rfl,sY (s:={s with heap:=y}) e1 c d1 ⋯ ⟨ps[i].2.2,H,I1,u2,⟨rfl,ps[i],Z,rfl⟩,j',λb j=>(G b j).1⟩⟩
 done:=by
  intro X U hw T hc i x s σ H E I G st Y;subst U hw T;let⟨p,A⟩:=Y;let⟨lo,hl,L,J,g,a,B⟩:=wC I p;rw[hd]at a;ext a;let hs:es.size=ps.length:=by have:=B.length;rw[Ã,Ã,il]at this;show this.symm
  let⟨M,N,f2,O,Q,R⟩:=G q ∅;show HN (I.ok.hd hc) st g (λe y n=>by
   have:=(PV.mp n).1;lia) λ_ y eb=>⟨rfl,I.turned (t':=s.toks) (λb o j e=>eb b o j e) M N O Q R⟩
 self:=λ_ f f f f st h=>wpAny_pyIter_valiter st h
def U9(J:PE X l K)(j:gk l "values" X.env (eval l X.env)=eval l X.env)(k:(a.endLine==c.line)=dI):
  PI X tg (.Call (.Attribute l "values" a) [] [] c) (λu H R=>K u H λv n=>∃d ob B,v=.ref d/\n d=b3 (.frz ob<|aT d B)/\R (Cy d ob B) n):=by
 intro i s u H R I h;show PF j k<|aW (J i s u H _ I h) λv p ⟨y,n,E,r1,q1⟩=>?_;let⟨d,ob,B,e,G,q⟩:=q1;subst e;obtain rfl:v=Ö d:=r1;let⟨lo,J,O,M,g,hd,he⟩:=wC E G;show⟨"dict","dict.values",NZ,SS,PySem.F.type_dict_values,g.ty,λb L=>?_,zr rfl<|PB ?_⟩
 .ext L;let⟨z,T,x,_⟩:=g;show⟨z,T,x.2.1⟩
 show lu SS g.ty PySem.F.entry_dict_values (PySem.F.args_dict_values_1 _) (U6 d lo) ⟨⟨O,M,g⟩,?_⟩;let w:Â X i u n {p with heap:=p.heap.push {cls:=.type "dict_values",data:=.fields #[.ref d]}}:=E.kept (t':=p.toks) λb o e=>ß _ e;let⟨lo2,Z,Q,N,x,A,Y⟩:=wC w G;change È (Í X.prog X.w) X.A (JF<|.ref p.heap.objs.size) (Bd X i u tg R) X.xe _;show U7 ⟨_,ć _ rfl,rfl,rfl⟩ x ⟨_,[_],_,_,n,rfl,w.kept (t':=p.toks) λb o e=>ß _ e,U8 A,⟨_,ć _ rfl,rfl,rfl⟩,λb U=>?_,q⟩;let e:=Ē.mp U;subst e;show w.fpOk (Ø _)<|w.hok.fresh<|Ø _
abbrev mT(kvs:jx):List D:=kvs.map (·.2)
def Va{ps:bN}(c:H d=b3 (.frz ob<|aT d ps))(T:ì K π n H ps kvs):Wk K (Cy d ob ps) (dE<|.tup<|mT kvs) π n H:=by
 let w:ps.length=kvs.length:=by have:=congrArg Ĭ T.to.1;apply this
 show⟨λb s g i e R z=>?_,λb s g i h e R z=>?_⟩
 .let a:(mT kvs)[i]?=none:=ē z;have:=χ.mp a;rw[mT,Ã]at this;show⟨e.frz _ _ _ c,()⟩
 .let a:(mT kvs)[i]?=b3 h:=ē z;let hi:i<kvs.length:=by have:=(â.mp a).1;rwa [mT,Ã]at this
  show⟨⟨e.frz _ _ _ c,()⟩,λv u ⟨j,p,k,o⟩=>?_⟩;subst j o;let⟨x,h1,q⟩:=(T.to.2.2.mono e).get a;rw[ú,k]at h1;ext h1;show⟨.refl,R,q⟩
abbrev t6(m:ME):MI:=λc b=>(m c b).bind λp=>match p.1 with
 |.loc a=>match p.2[a]? with
  |some (.dF kvs)=>b3 (dE<|.tup<|mT kvs,kvs.length+1,p.2)|_=>b4
 |_=>b4
open _root_ in
def Vb(h:QE X e m)(u:lQ e=dI)(q:(b.endLine==c.line)=dI):QJ X (.Call (.Attribute e "values" b) [] [] c) (t6 m):=⟨λtg Do s σ H R I hw=>by
 let⟨J,K,A,z,n,B,o,E,a,k⟩:=hw;show bR a ?_;clear a;intro x G h1 a;dsimp at a;split at a
 .split at a
  .rename_i w hc;ext a;show U9 h.h (pY u) q Do s σ H R I ⟨J,K,A,_,_,o,E,h1,λd L j p g v=>?_⟩;ext v;let⟨ob,y,i,T⟩:=vZ g hc;show⟨_,ob,y,rfl,i,k d j _ p g<|Va i T⟩
  .ext a
 .ext a⟩
def Vc{items}(hit:s.heap.IsTupleIter a t i)(h:s.heap.IsTuple t items)(j:items[i]?=b3 x)(g:∀c,c.IsTupleIter a t (i+1)->Κ a s.heap c->Q x {s with heap:=c}):È (Í prog w) A (jc<|.ref a) Q E s:=by
 let⟨o,b,hc,hd⟩:=id hit;let⟨k,e,_,nl,d⟩:=h;ext jc;show Á<|vp (name:=Ű "__next__") hit.typeIs F.slot_tuple_iterator_next<|Θ F.slot_tuple_iterator_next hit.typeIs F.entry_tuple_iterator_next ?_<|F.args_tuple_iterator_next_1 _;change È _ _ (qp (.ref a) 0 >>= _) _ _ s;show Á<|Χ b hd (x:=.ref t) rfl ?_;change È _ _ (if(Ö t==Ľ)=dI then _ else _) _ _ s;rw[if_neg<|show ¬ ((Ö t==Ľ)=dI)from ô];change È _ _ (qp (.ref a) 1 >>= _) _ _ s;show Á<|Χ b hd (x:=.int i 0) rfl ?_;change È _ _ (fj (.ref t) >>= _) _ _ s;show Á<|Ϡ e d ?_;dsimp[bw,j];show Á (my b hd ∅<|Ê ⟨x,rfl,Ê<|g _ ?_<|Ż ..⟩);show⟨_,ϓ _ b<|PD<|uo hd _,(Oz ..).trans hc,by rw[uo hd];simp[ř]⟩
def Vd{items}(h:A.handled=b4)(hit:s.heap.IsTupleIter a t i)(k:s.heap.IsTuple t items)(n:items[i]?=b4)(j:∀b e,R8 a s.heap b->(∃o,b.get? e=b3 o/\o.cls=.type "StopIteration")->E (.ref e) {s with heap:=b}):È (Í prog w) A (jc<|.ref a) Q E s:=by
 let⟨o,d,hc,hd⟩:=id hit;let⟨p,g,_,nl,c⟩:=k;ext jc;show Á<|vp (name:=Ű "__next__") hit.typeIs F.slot_tuple_iterator_next<|Θ F.slot_tuple_iterator_next hit.typeIs F.entry_tuple_iterator_next ?_<|F.args_tuple_iterator_next_1 _;change È _ _ (qp (.ref a) 0 >>= _) _ _ s;show Á<|Χ d hd (x:=.ref t) rfl ?_;change È _ _ (if(Ö t==Ľ)=dI then _ else _) _ _ s;rw[if_neg<|show ¬ ((Ö t==Ľ)=dI)from ô];change È _ _ (qp (.ref a) 1 >>= _) _ _ s;show Á<|Χ d hd (x:=.int i 0) rfl ?_;change È _ _ (fj (.ref t) >>= _) _ _ s;show Á<|Ϡ g c ?_;dsimp[bw,n];show Á (Ϝ<|Á<|my d hd ∅ ?_);change È _ _ (fB (.type "StopIteration") [] >>= _) _ _ _;show Á ?_;dsimp[fB,ye];show Á (ź ?_<|by size_fits);show Á (m:=gh _ _) (mD (a:=Ľ) (by first|rfl|(dsimp[gh];rfl)) ?_);show ź ?_ (by size_fits);dsimp[M8];show Á<|N4 ?_;first|rw[show A.in1.handled=b4 from h]|rw[h]
 show Á<|Ê<|ML<|j _ _ (((Ż ..).extBut.push _).push _) ⟨_,ć _ rfl,rfl⟩
abbrev Α(b:Bool)(h:í)(l:Addr)(xs:Array Value):Prop:=if b=dI then h.IsTuple l xs else h.IsList l xs
abbrev ī(b:Bool)(h:í)(i l:Addr)(k:Nat):Prop:=if b=dI then h.IsTupleIter i l k else h.IsListIter i l k
def Α.ext(p:Α b h l xs)(e:R8 c h h')(n:l≠c):Α b h' l xs:=by
 ext b
 .show b5n p e n
 .show b4T p e n
def ī.ext(p:ī b h i l k)(e:R8 c h h')(n:i≠c):ī b h' i l k:=by
 ext b
 .show b3Q p e n
 .show b3z p e n
def ī.at_(p:ī b h i l k)(e:∀o,h.get? i=b3 o->h'.get? i=b3 o):ī b h' i l k:=by
 ext b
 .show b3R p e
 .show b3A p e
def ī.ob(p:ī b h i l k):∃o,h.get? i=b3 o/\∃f,o.data=.fields f:=by ext b<;>show let⟨o,e,_,d⟩:=p;⟨o,e,_,d⟩
def Ve(hit:ī b s.heap a t i)(e:Α b s.heap t items)(g:items[i]?=b3 x)(d:∀c,ī b c a t (i+1)->Κ a s.heap c->Q x {s with heap:=c}):È (Í prog w) A (jc<|.ref a) Q E s:=by
 ext b
 .show b2t hit e g d
 .show Vc hit e g d
def Vf(g:A.handled=b4)(hit:ī b s.heap c t i)(h:Α b s.heap t items)(j:items[i]?=b4)(d:∀a e,R8 c s.heap a->(∃o,a.get? e=b3 o/\o.cls=.type "StopIteration")->E (.ref e) {s with heap:=a}):È (Í prog w) A (jc<|.ref c) Q E s:=by
 ext b
 .show b2T g hit h j d
 .show Vd g hit h j d
def HP{TI TO:Addr}(hh:A.handled=b4)(D:Np z TI TO i1 i2 l1 l2)(hz:ώ s.heap z TI TO .none)(hTI:Ζ s.heap TI (.ref i1) (.ref i2))(hTO:Ζ s.heap TO a b)(h1:ī t s.heap i1 l1 k1)(h2:s.heap.IsListIter i2 l2 k2)(hl1:Α t s.heap l1 xs)(hl2:s.heap.IsList l2 ys)(hQ:∀x y G,xs[k1]?=b3 x->ys[k2]?=b3 y->ώ G z TI TO (ř s.heap.objs.size)->Ζ G TO x y->ī t G i1 l1 (k1+1)->G.IsListIter i2 l2 (k2+1)->Ζ G s.heap.objs.size x y->G.objs.size=s.heap.objs.size+1->
   (∀c o,c≠z->c≠TO->c≠i1->c≠i2->s.heap.get? c=b3 o->G.get? c=b3 o)->Q (b3<|.ref s.heap.objs.size) {s with heap:=G})(hE:∀G,(xs[k1]?=b4\/ys[k2]?=b4)->(∀c o,c≠z->c≠TO->c≠i1->c≠i2->s.heap.get? c=b3 o->G.get? c=b3 o)->Q b4 {s with heap:=G}):
  È (Í prog w) A (ş<|.ref z) Q E s:=by
 let hT:s.TypeIs (.ref z) "zip":=⟨_,hz,rfl⟩;let stop:∀G e,(xs[k1]?=b4\/ys[k2]?=b4)->(∀c o,c≠z->c≠TO->c≠i1->c≠i2->s.heap.get? c=b3 o->G.get? c=b3 o)->(∃o,G.get? e=b3 o/\o.cls=.type "StopIteration")->
   È (Í prog w) A (do if <- isInstance (.ref e) (.type "StopIteration")then pure b4 else throw (.ref e)) Q E {s with heap:=G}:=λG e hn hk ⟨o,ho,hc⟩=>
  Á<|mX (T:="StopIteration") (b:=dI) ⟨o,ho,hc⟩ MW<|Ê<|hE _ hn hk
 ext ş;show Á<|N3<|vp (name:=Ű "__next__") hT F.slot_zip_next<|Θ F.slot_zip_next hT F.entry_zip_next ?_<|F.args_zip_next_1 _;change È _ _ (qp (.ref z) 2 >>= _) _ _ _;show Á<|Χ hz rfl (x:=.bool b5) rfl ?_;change È _ _ (qp (.ref z) 3 >>= _) _ _ _;show Á<|Χ hz rfl (x:=.ref TI) rfl ?_;show Á<|Ϡ hTI rfl ?_;change È _ _ (Su (.ref z) >>= _) _ _ _;show Á ?_;ext Su;show Á<|Χ hz rfl (x:=.none) rfl<|Ê ?_;dsimp[if_true];show Á<|Ϝ ?_;show Á<|Χ hz rfl (x:=.ref TO) rfl ?_;show Á (ϻ hz ∅ λg₁ q i=>?_);replace q:ώ g₁ z TI TO .ellipsis:=q;show Á ?_;dsimp[List.zipIdx_cons,List.zipIdx_nil,OU,QK];show Á<|Á<|wpAny_onRaise ?_;change È _ _ (jc (.ref i1) >>= _) _ _ _;let t1:=h1.ext i.extBut D.i1z;let tl:=hl1.ext i.extBut D.l1z;cases hx:xs[k1]? with
 |none=>
  show Á<|Vf hh t1 tl hx λN e g he=>?_;let⟨oe,H,T⟩:=he;let X:ώ N z TI TO .ellipsis:=g _ _ D.i1z.symm q;let hez:e≠z:=λx=>by subst x;rw[X]at H;ext H;simp at T
  show ϻ X ∅ λv f h=>stop v e (.inl hx) (λc o c1 f c3 f x=>h.extBut _ _ c1<|g _ _ c3<|i.extBut _ _ c1 x) ⟨oe,h.extBut _ _ hez H,T⟩
 |some x=>
  show Á<|Ve t1 tl hx λN xu g=>Ê ?_;let L:Ζ N TO a b:=g.extBut _ _ D.TOi1<|i.extBut _ _ D.TOz hTO;show Á<|Ϡ L rfl ?_;show Á<|b3a L λv p h=>?_;replace p:Ζ v TO x b:=p;show Á<|bj<|Ê ?_;show Á<|Á<|wpAny_onRaise ?_;change È _ _ (jc (.ref i2) >>= _) _ _ _;let t2:=((h2.extBut i.extBut D.i2z).extBut g.extBut D.i12.symm).extBut h.extBut D.TOi2.symm;let Pf:=((hl2.extBut i.extBut D.l2z).extBut g.extBut D.l2i1).extBut h.extBut D.l2TO;let Y:ώ v z TI TO .ellipsis:=h.extBut _ _ D.TOz.symm<|g.extBut _ _ D.i1z.symm q;let U:∀c o,c≠z->c≠TO->c≠i1->s.heap.get? c=b3 o->v.get? c=b3 o:=λc o c1 c2 c3 e=>h.extBut _ _ c2<|g.extBut _ _ c3<|i.extBut _ _ c1 e;cases hy:ys[k2]? with
  |none=>
   show Á<|b2T hh t2 Pf hy λO e j he=>?_;let⟨oe,H,T⟩:=he;let Z:ώ O z TI TO .ellipsis:=j _ _ D.i2z.symm Y;let hez:e≠z:=λx=>by subst x;rw[Z]at H;ext H;simp at T
   show ϻ Z ∅ λd f k=>stop d e (.inr hy) (λc o c1 c2 c3 c4 x=>k.extBut _ _ c1<|j _ _ c4<|U c o c1 c2 c3 x) ⟨oe,k.extBut _ _ hez H,T⟩
  |some y=>
   show Á<|b2t t2 Pf hy λO xq j=>Ê ?_;let M:Ζ O TO x b:=j.extBut _ _ D.TOi2 p;show Á<|Ϡ M rfl ?_;show Á<|b3a M λd n k=>?_;replace n:Ζ d TO x y:=n;show Á<|bj<|Ê<|Ê ?_;show Á<|Ϡ n rfl ?_;show Á<|MX ?_;let hsz:d.objs.size=s.heap.objs.size:=by rw[k.1,j.1,h.1,g.1,i.1]
   let hz₅:ώ d z TI TO .ellipsis:=k.extBut _ _ D.TOz.symm<|j.extBut _ _ D.i2z.symm Y;let hk₅:∀c o,c≠z->c≠TO->c≠i1->c≠i2->s.heap.get? c=b3 o->d.get? c=b3 o:=λc o c1 c2 c3 c4 e=>k.extBut _ _ c2<|j.extBut _ _ c4<|U c o c1 c2 c3 e;let xr:ī t d i1 l1 (k1+1):=((xu.ext h.extBut D.TOi1.symm).ext j.extBut D.i12).ext k.extBut D.TOi1.symm;let xm:d.IsListIter i2 l2 (k2+1):=xq.extBut k.extBut D.TOi2.symm;let hzlt:z<d.objs.size:=Ý hz₅;change È _ _ (Sv (.ref z) (.ref d.objs.size) >>= _) _ _ _;show Á ?_;ext Sv;let hz₆:ώ (d.push {cls:=.type "tuple",data:=.seq #[x,y]}) z TI TO .ellipsis:=ß _ hz₅;show Á (ϻ hz₆ ∅ λg₇ K I=>?_);replace K:ώ g₇ z TI TO (ř d.objs.size):=K;show ϻ K ∅ λB u J=>?_;replace u:ώ B z TI TO (ř d.objs.size):=u;let up:∀c o,c≠z->d.get? c=b3 o->B.get? c=b3 o:=λc o c1 e=>J.extBut _ _ c1<|I.extBut _ _ c1<|ß _ e;let R:Ζ B d.objs.size x y:=J.extBut _ _ (Š hzlt)<|I.extBut _ _ (Š hzlt)<|ć _ rfl;let hz8:B.objs.size=d.objs.size+1:=by rw[J.1,I.1,ϔ]
   rw[hsz]at u R hz8;show Ê ⟨_,rfl,Ê ?_⟩;change Q (b3<|.ref d.objs.size) _;rw[hsz];show hQ x y B hx hy u (up _ _ D.TOz n) (xr.at_ λo e=>up _ o D.i1z e) (xm.at λo e=>up _ o D.i2z e) R hz8 λc o c1 c2 c3 c4 e=>up c o c1<|hk₅ c o c1 c2 c3 c4 e
noncomputable abbrev zM(h:í)(a:Addr):í:=h.push {cls:=.type "tuple_iterator",data:=.fields #[.ref a,.int 0 0]}
noncomputable abbrev zN(h:í)(a b:Addr):í:=(zM h a).push {cls:=.type "list_iterator",data:=.fields #[.ref b,.int 0 0]}
noncomputable abbrev zO(h:í)(a b:Addr):í:=(zN h a b).push {cls:=.type "tuple",data:=.seq #[.ref h.objs.size,.ref (zM h a).objs.size]}
noncomputable abbrev zP(h:í)(a b:Addr):í:=(zO h a b).push {cls:=.type "tuple",data:=.seq #[.none,.none]}
noncomputable abbrev t7(h:í)(a b:Addr):í:=(zP h a b).push {cls:=.type "zip",data:=.fields #[.none,.bool b5,.bool b5,.ref (zN h a b).objs.size,.ref (zO h a b).objs.size]}
def Vg a b xs q:
  Meets (Builtin.«zip.__new__» ⟨[.type "zip",.ref a,.ref b],[]⟩) (λ_ R s=>s.heap.IsTuple a xs/\s.heap.IsList b q /\
   R (.ok<|.ret<|.ref (zP s.heap a b).objs.size) {s with heap:=t7 s.heap a b}):=
 .of_wp λprog w A R s h=>by let⟨k,g,d,p,o⟩:=s;let⟨i,j,h⟩:=h;let n:=sub_zip;let c:Heap.IsTuple (Qm ⟨k,g,d,p,o⟩) a xs:=i;let e:Heap.IsList (Qm ⟨k.push {cls:=.type "tuple_iterator",data:=.fields #[.ref a,.int 0 0]},g,d,p,o⟩) b q:=b5m j _;wp_walk using um c,uz e;show⟨_,rfl,h⟩
def Vh{s:Ù}(g:s.heap.IsTuple a xs)(i:s.heap.IsList b y)(h:∀d,ώ d (s.heap.objs.size+4) (s.heap.objs.size+2) (s.heap.objs.size+3) .none->Ζ d (s.heap.objs.size+2) (.ref s.heap.objs.size) (.ref<|s.heap.objs.size+1)->
   Ζ d (s.heap.objs.size+3) .none .none->d.IsTupleIter s.heap.objs.size a 0->d.IsListIter (s.heap.objs.size+1) b 0->
   (∀c o,s.heap.get? c=b3 o->d.get? c=b3 o)->Q (.ref<|s.heap.objs.size+4) {s with heap:=d}):
  È (Í prog w) A (call (.type "zip") [.ref a,.ref b]) Q E s:=by
 show callType_new F.called_zip ⋯ (F.typeCall_zip_2 _ _) (F.newCall_zip_2 _ _) (λj=>F.args_object_init_3 j _ _) F.entry_zip_new (Vg a b xs y) ⟨g,i,?_⟩;let k:(zM s.heap a).objs.size=s.heap.objs.size+1:=ϔ ..;let n:(zN s.heap a b).objs.size=s.heap.objs.size+2:=by rw[ϔ,k]
 let p:(zO s.heap a b).objs.size=s.heap.objs.size+3:=by rw[ϔ,n]
 let z:(zP s.heap a b).objs.size=s.heap.objs.size+4:=by rw[ϔ,p]
 let e:(t7 s.heap a b).get? (zP s.heap a b).objs.size=b3 _:=ć _ rfl;let v:(t7 s.heap a b).get? (zO s.heap a b).objs.size=b3 _:=ß _<|ć _ rfl;let u:(t7 s.heap a b).get? (zN s.heap a b).objs.size=b3 _:=ß _<|ß _<|ć _ rfl;let q:(t7 s.heap a b).get? (zM s.heap a).objs.size=b3 _:=ß _<|ß _<|ß _<|ć _ rfl;let B:(t7 s.heap a b).get? s.heap.objs.size=b3 _:=ß _<|ß _<|ß _<|ß _<|ć _ rfl;change _/\_;rw[n,p,z]at e;rw[k,n]at u;rw[p]at v;rw[k]at q;rw[z];show⟨⟨_,e,rfl⟩,h _ e u v ⟨_,B,rfl,rfl⟩ ⟨_,q,rfl,rfl⟩ λc o x=>ß _<|ß _<|ß _<|ß _<|ß _ x⟩
def Vi{s:Ù}(b:Α t s.heap e xs)(d:s.heap.IsList g u)(h:∀a,ώ a (s.heap.objs.size+4) (s.heap.objs.size+2) (s.heap.objs.size+3) .none->Ζ a (s.heap.objs.size+2) (.ref s.heap.objs.size) (.ref<|s.heap.objs.size+1)->
   Ζ a (s.heap.objs.size+3) .none .none->ī t a s.heap.objs.size e 0->a.IsListIter (s.heap.objs.size+1) g 0->
   (∀c o,s.heap.get? c=b3 o->a.get? c=b3 o)->Q (.ref<|s.heap.objs.size+4) {s with heap:=a}):
  È (Í prog w) A (call (.type "zip") [.ref e,.ref g]) Q E s:=by
 ext t
 .show call_zip_2 b d λa i j k n p x q=>h a i j k n p q
 .show Vh b d h
abbrev ž(t:Bool)(K:Õ)(H:Hp)(a:Addr)(xs:gz):Prop:=if t=dI then å K H a xs else Ą K H a xs
def ž.its{σ:L2.St}(I:Â X Do σ H s)(h:ž t X.K H a xs):∃its,Å xs its/\Α t s.heap a its.toArray/\a<s.heap.objs.size:=by
 ext t
 .let⟨its,b,p,_⟩:=I.list h;show⟨its,b,p.isList,let⟨_,e,_⟩:=p.isList;Ý e⟩
 .let⟨its,b,p,_⟩:=I.tuple h;let p:s.heap.IsTuple a its.toArray:=p;show⟨its,b,p,let⟨_,e,_⟩:=p;Ý e⟩
def ž.inj{σ:L2.St}(I:Â X Do σ H s)(h:ž t X.K H a xs)(g:ž t X.K H a b):xs=b:=by
 ext t
 .show I.list_inj h g
 .show I.tuple_inj h g
abbrev zQ(t:Bool)(K:Õ)(a b:Addr):It:=
 ⟨λi H=>∃c d x y,ž t K H a c/\Ą K H b d/\c[i]?=b3 x/\d[i]?=b3 y,
   λi H z e=>∃p v u,z=.ref p/\H p=b4/\e=upd H p (.tup [v,u])/\(∀c,ž t K H a c->c[i]?=b3 v)/\∀d,Ą K H b d->d[i]?=b3 u,
   λi H=>∃c d,ž t K H a c/\Ą K H b d/\(c.length<=i\/d.length<=i)⟩
def Vj(L:Np z G to A B a b):
  ŀ Qc P w K (.Tuple es kx pt) (zQ t K a b) [z,G,to,A,B] z (λi h=>ώ h z G to .none/\Ζ h G (.ref A) (.ref B)/\(∃u v,Ζ h to u v)/\ī t h A a i/\h.IsListIter B b i) where
 mem:=∅
 obj:=λi h ⟨J,N,⟨u,v,R⟩,T,U⟩ c hc=>by
  let hc':c=z\/c=G\/c=to\/c=A\/c=B:=by apply hc
  rcases hc' with rfl|rfl|rfl|rfl|rfl
  .show⟨_,J,λq e=>by
    let e':Ņ _=sr q:=e;ext e'⟩
  .show⟨_,N,λq e=>by
    let e':MN _ _=sr q:=e;ext e'⟩
  .show⟨_,R,λq e=>by
    let e':MN _ _=sr q:=e;ext e'⟩
  .let⟨o,M,_,d⟩:=T.ob;show⟨o,M,λv e=>by rw[d]at e;ext e⟩
  .let⟨o,M,c,d⟩:=U;show⟨o,M,λv e=>by rw[d]at e;ext e⟩
 keep:=λi h h' ⟨J,N,⟨u,v,R⟩,T,U⟩ k=>⟨k z ∅ _ J,k G ∅ _ N,⟨u,v,k to ∅ _ R⟩,T.at_ λo e=>k A ∅ o e,U.at λo e=>k B ∅ o e⟩;item:=by
  intro X hP hw hK hc i Do s σ H E I hf ⟨J,N,⟨u,v,R⟩,T,U⟩ hg;subst hP hw hK;let⟨xs,ys,x,y,hq,Q,hx,hy⟩:=hg;let⟨its,rv,p,_⟩:=ž.its I hq;let⟨j,Y,p2,hz2⟩:=I.list Q;let⟨u1,iR,ru1⟩:=rv.get hx;let⟨u2,hu2,ru2⟩:=Y.get hy;show HP (I.ok.hd hc) L J N R T U p p2.isList (λw1 w2 h1 M e2 a1 a2 a3 a4 a5 a6 hk=>⟨_,rfl,wpAny_letOwnedTupleGo_zip a1 λh2 b1 n=>?_⟩) λh' O f=>?_
  .let f1:w1=u1:=by
    have:its[i]?=b3 w1:=by apply M
    rw[iR]at this;show(ē this).symm
   let f2:w2=u2:=by
    have:j[i]?=b3 w2:=by apply e2
    rw[hu2]at this;show(ē this).symm
   subst f1 f2;let ne:∀{c o},s.heap.get? c=b3 o->s.heap.objs.size≠c:=λe=>Š<|Ý e;let l4:∃o,s.heap.get? A=b3 o:=let⟨o,e,_⟩:=T.ob;⟨o,e⟩;let l5:∃o,s.heap.get? B=b3 o:=let⟨o,e,_⟩:=U;⟨o,e⟩;let ht2:h2.get? s.heap.objs.size=b3 {cls:=.type "tuple",data:=.seq #[w1,w2]}:=(n.2 _<|ne J).trans a5;let hfr:H s.heap.objs.size=none:=I.hok.fresh<|Ø _;let g2':Ζ h2 G (.ref A) (.ref B):=(n.2 _ L.TIz).trans<|hk _ _ L.TIz L.TITO L.TIi1 L.TIi2 N;show⟨.ref s.heap.objs.size,upd H s.heap.objs.size<|.tup [x,y],?_,rfl,⟨s.heap.objs.size,x,y,rfl,hfr,rfl,λws hw=>by rw[ž.inj I hw hq];show hx,λws hw=>by rw[I.list_inj hw Q];show hy⟩,
    ⟨b1,g2',⟨_,_,(n.2 _ L.TOz).trans a2⟩,a3.ext n.extBut L.i1z,a4.extBut n.extBut L.i2z⟩,λc Z=>?_⟩
   .show Cd (s:=s) (h':=h2) (t':=s.toks) (ch:=[z,G,to,A,B]) I (λc oc Z ec=>?_) hf (Ø _) ?_
    .have g:c≠z/\c≠G/\c≠to/\c≠A/\c≠B:=by apply Z
     show(n.2 c g.1).trans<|hk c oc g.1 g.2.2.1 g.2.2.2.1 g.2.2.2.2 ec
    .show⟨by change(2:Nat)<=Ñ;decide,[w1,w2],.cons ru1<|.cons ru2 .nil,_,ht2,rfl,0,rfl,rfl⟩
   .let g:c=z\/c=G\/c=to\/c=A\/c=B:=by apply Z
    let O:=(hf c Z).1;rw[bQ]
    .show O
    .rcases g with rfl|rfl|rfl|rfl|rfl
     .show(ne J).symm
     .show(ne N).symm
     .show(ne R).symm
     .show(ne l4.choose_spec).symm
     .show(ne l5.choose_spec).symm
  .exfalso;let M:its.toArray[i]?=b3 u1:=by apply iR
   let e2:j.toArray[i]?=b3 u2:=by apply hu2
   rcases O with O|O
   .rw[M]at O;ext O
   .rw[e2]at O;ext O
 done:=by
  intro X hP hw hK hc i Do s σ H E I hf ⟨J,N,⟨u,v,R⟩,T,U⟩ hg;subst hP hw hK;let⟨xs,ys,hq,Q,hx⟩:=hg;let⟨its,rv,p,_⟩:=ž.its I hq;let⟨j,Y,p2,hz2⟩:=I.list Q;let hl:=rv.length;let hl2:=Y.length;show HP (I.ok.hd hc) L J N R T U p p2.isList (λw1 w2 h1 M e2 f f f f f f f=>?_) λh' f eb=>⟨rfl,G7 (t':=s.toks) (ch:=[z,G,to,A,B]) I (λc o Z e=>?_) hf⟩
  .exfalso;let m1:i<its.length:=by
    have:its[i]?=b3 w1:=by apply M
    show(â.mp this).1
   let m2:i<j.length:=by
    have:j[i]?=b3 w2:=by apply e2
    show(â.mp this).1
   lia
  .let g:c≠z/\c≠G/\c≠to/\c≠A/\c≠B:=by apply Z
   show eb c o g.1 g.2.2.1 g.2.2.2.1 g.2.2.2.2 e
 self:=λ_ _ _ _ _ ⟨J,_⟩ h=>Q5 J h
abbrev oY(c:MA):MI:=λe d=>(c e d).bind λp=>match p.1 with
 |[.tup a,y]=>(eX p.2 y).map λb=>(jX (.tup a) y,min a.length b.length+1,p.2)|[x,y]=>(eX p.2 x).bind λa=>(eX p.2 y).map λb=>(jX x y,min a.length b.length+1,p.2)|_=>b4
def Vk(R:Rp K π H g)(h:Ú K π g.length H v x)(i:x=.tup xs\/eX g x=b3 xs):∃t p,v=.ref p/\(∃vs,ž t K H p vs) /\
  ∀c b d,ò π g.length H c b.length d->Rp K c d b->∀j,bO b x=b3 j->∃k,ž t K d p k/\Æ K c b.length d k j:=by
 rcases i with rfl|i
 .cases h with
  |@tup a vs ds q t=>
  show⟨dI,a,rfl,⟨vs,q⟩,λc b d e o j n=>?_⟩;ext n;show⟨vs,e.sqT q,t.mono e⟩
 .let⟨p,rfl,q,l⟩:=Hs R h i;show⟨b5,p,rfl,q,l⟩
def Vl(R:Rp K π H n)(h:Ú K π n.length H v x)(h':Ú K π n.length H Y y)(hs:x=.tup xs\/eX n x=b3 xs)(G:eX n y=b3 ys):
  ∃t a b,v=.ref a/\Y=.ref b/\(∃L,ž t K H a L)/\(∃L,Ą K H b L)/\Wk K (zQ t K a b) (jX x y) π n.length H:=by
 let⟨t,a,rfl,qa,Q⟩:=Vk R h hs;let⟨b,rfl,qb,T⟩:=Hs R h' G;show⟨t,a,b,rfl,rfl,qa,qb,λg c o i e j z=>?_,λg c o i d e j z=>?_⟩
 .let⟨p,h1,z⟩:=Ś.mp z;show cE z ?_;clear z;intro bs E z;let⟨w,q,A⟩:=Q g c o e j p h1;let⟨u,s,B⟩:=T g c o e j bs E;show⟨w,u,q,s,?_⟩;rw[A.length,B.length];cases M:p[i]? with
  |none=>show .inl (χ.mp M)|some d=>
   cases k:bs[i]? with
   |none=>show .inr (χ.mp k)|some d'=>rw[M,k]at z;ext z
 .let⟨p,h1,z⟩:=Ś.mp z;show cE z ?_;clear z;intro bs E z;show bZ z ?_;clear z;intro d1' h3 z;show cE z ?_;clear z;intro d2' h4 h5;subst h5;let⟨w,q,A⟩:=Q g c o e j p h1;let⟨u,s,B⟩:=T g c o e j bs E;let⟨Z,N,k1⟩:=A.get h3;let⟨w2,O,k2⟩:=B.get h4;show⟨⟨w,u,Z,w2,q,s,N,O⟩,?_⟩;rintro y H2 ⟨t,v1,v2,rfl,hn,rfl,I,J⟩;let U:=I w q;let X:=J u s;rw[N]at U;rw[O]at X;ext U;ext X;let⟨k,R2⟩:=j.fresh (o:=.tup [Z,w2]) hn;show⟨k,R2,.tup (.of dW)<|.cons (k1.mono k)<|.cons (k2.mono k) .nil⟩
abbrev Vm(K:Õ)(d:TA):TI:=λσ H R=>d σ H λvs c=>∃t a b,vs=[.ref a,.ref b]/\(∃xs,ž t K c a xs)/\(∃e,Ą K c b e)/\R (zQ t K a b) c
open PyProof.Rows in
def Vn{X:Cx}{a b:Expr}{B:TA}{p pos pt:Į}{es:List Expr}{kx:Nat}(T:Gl X "zip") (Y:X.mg "zip"=b4) (Q:PA X [a,b] B)(hs:ý [a,b] X.env=(b5,eval a X.env)::ý [b] X.env)(u:(ŕ pos<|ý [b] X.env).any (·.1)=b5) :
  PI X (.Tuple es kx pt) (.Call (.Name "zip" p) [a,b] [] pos) (Vm X.K B):=by
 intro i s E H R I h;show xx<|kG I T Y Boot.«zip»<|qg (aW (Q pos i s E H _ I h) λus d ⟨vs,x,g,r1,q1⟩=>?_) hs u;obtain⟨t,y,n,rfl,⟨ws,Z⟩,⟨ws2,o⟩,q⟩:=q1;cases r1 with
 |cons ru v=>
  cases v with
  |cons w v=>
   ext v;ext ru;ext w;let⟨its,rv,pl,la⟩:=ž.its g Z;let⟨A,rv2,k,hz2⟩:=g.list o;let lb:n<d.heap.objs.size:=let⟨_,e,_⟩:=k.isList;Ý e;show Vi pl k.isList λO z K L M N U=>Q5 z ?_;let G:Â X i E x {d with heap:=O}:=g.kept (t':=d.toks) U;let J:Np (d.heap.objs.size+4) (d.heap.objs.size+2) (d.heap.objs.size+3) d.heap.objs.size (d.heap.objs.size+1) y n:=by let la':@LT.lt Nat _ y d.heap.objs.size:=la;let lb':@LT.lt Nat _ n d.heap.objs.size:=lb;constructor<;>(change @Ne Nat _ _;lia)
   show⟨d.heap.objs.size+4,[d.heap.objs.size+4,d.heap.objs.size+2,d.heap.objs.size+3,d.heap.objs.size,d.heap.objs.size+1],_,_,x,rfl,G,Vj J,⟨z,K,⟨_,_,L⟩,M,N⟩,λc hc=>?_,q⟩;let j:d.heap.objs.size<=c:=by dsimp[ĉ,ϕ,or_false]at hc;rcases hc with rfl|rfl|rfl|rfl|rfl<;>first|show Nat.le_add_right _ _|show Ø _
   show g.fpOk j<|g.hok.fresh j
def Vo(q:Gl X "zip")(u:X.mg "zip"=b4)(B:QA X [a,b] J n):vy X (.Call (.Name "zip" p) [a,b] [] pos) (oY J):=⟨λes kx pt Do s σ H R I hw=>by
 let v:=B.s;rw[ō,ð,ō,ð]at v;let⟨π,ρ,μ,w,n',z,L,E,c,k⟩:=hw;show bR c ?_;clear c;intro x d h1 c;show Vn q u B.h (iF v.1) (by rw[iF v.2.1];rfl) Do s σ H R I ⟨π,ρ,μ,x,d,L,E,h1,λj K h O A G=>?_⟩;let two:∀{x y e g},Æ X.K j d.length h K [x,y]->(x=.tup e\/eX d x=b3 e)->eX d y=b3 g->w=jX x y->z=d->∃t a b,K=[.ref a,.ref b]/\(∃e,ž t X.K h a e)/\(∃g,Ą X.K h b g)/\R (zQ t X.K a b) h:=λ{x y e g} T o i es Q=>by
  subst es Q;cases T with
  |cons U t1=>
   cases t1 with
   |cons Y t2=>ext t2;let⟨t,M,N,rfl,rfl,Z,qb,W⟩:=Vl A U Y o i;show⟨t,M,N,rfl,Z,qb,k j h _ O A W⟩
 dsimp at c;split at c
 .show cE c ?_;clear c;intro g i c;ext c;show two G (.inl rfl) i rfl rfl
 .show bZ c ?_;clear c;intro e o c;show cE c ?_;clear c;intro g i c;ext c;show two G (.inr o) i rfl rfl
 .ext c⟩
def HQ(h:A.handled=b4)(j:IsItemIter s.heap it d i es.size ep ok ov)(g:ø s.heap d es ep)(p:∀e a,es[i]?=b3 e->Mz a it d (i+1) es.size ep e.key e.val s.heap.objs.size->a.get? s.heap.objs.size=b3 {cls:=.type "tuple",data:=.seq #[e.key,e.val]}->
   (∀b o,b≠it->s.heap.get? b=b3 o->a.get? b=b3 o)->Q (b3<|.ref s.heap.objs.size) {s with heap:=a})(q:es[i]?=b4->∀a,R8 it s.heap a->Q b4 {s with heap:=a}):È (Í P w) A (ş<|.ref it) Q E s:=
 Cm (S:=d) h j (.inl rfl) g g.lt (λe a c x o n x k=>p e a c (o rfl) n k) q
abbrev Cz(d:Addr)(ob:Obj)(ps:bN):It:=⟨λi H=>H d=b3 (.frz ob<|aT d ps)/\i<ps.length,λi H x a=>∃t p,x=.ref t/\H t=b4/\ps[i]?=b3 p/\a=upd H t (.tup [.ref p.2.1,p.2.2]),λi H=>H d=b3 (.frz ob<|aT d ps)/\ps.length<=i⟩
def Vp(hd:ob.data=.dict es ep):ŀ Qc P w K (.Tuple el kx pt) (Cz d ob ps) [j] j (λi h=>∃ok x,IsItemIter h j d i es.size ep ok x) where
 mem:=∅
 obj:=λi h ⟨ok,x,st⟩ b q=>by
  let e:b=j:=by apply q
  subst e;show⟨_,st,λv z=>by
   let z':Ņ _=sr v:=z;ext z'⟩
 keep:=λi h U ⟨ok,x,st⟩ k=>⟨ok,x,k j ∅ _ st⟩;item:=by
  intro X Z hw Y hc i O s σ H E I M ⟨ok,x,st⟩ hg;subst Z hw Y;let⟨p,G⟩:=hg;let⟨lo,hl,T,R,g,a,N⟩:=sD I p;rw[hd]at a;ext a;let⟨_,_,es2,ep2,_,B,he⟩:=wC I p;rw[hd]at B;ext B;let hs:es.size=ps.length:=by have:=congrArg Ĭ N;apply this
  show HQ (I.ok.hd hc) st g (λe U n a1 a2 a3=>⟨_,rfl,wpAny_letOwnedTupleGo_items a1 λh2 b1 L=>?_⟩) λhn=>by simp at hn;lia
  let hp:ps[i]?=b3 ps[i]:=ü G;let ek:e.key=.ref (ps[i]).2.1:=by have:=congrArg (·[i]?) N;dsimp[ú,ϸ,n,hp,Ĕ]at this;show ē this
  let⟨u,u1,u2⟩:=he.get (i:=i) (x:=ps[i].2.2) (by rw[ú,hp];rfl);rw[ú,ϸ,n]at u1;ext u1;let J:j<s.heap.objs.size:=Ý st;let ht2:h2.get? s.heap.objs.size=b3 {cls:=.type "tuple",data:=.seq #[e.key,e.val]}:=(L.2 _<|Š J).trans a2;let hfr:H s.heap.objs.size=none:=I.hok.fresh<|Ø _;show⟨.ref s.heap.objs.size,upd H s.heap.objs.size<|.tup [.ref (ps[i]).2.1,(ps[i]).2.2],?_,rfl,⟨_,ps[i],rfl,hfr,hp,rfl⟩,⟨_,_,b1⟩,λc q=>?_⟩
  .show Cd (s:=s) (h':=h2) (t':=s.toks) (ch:=[j]) I (λc oc q ec=>?_) M (Ø _) ?_
   .let y:c≠j:=by apply q
    show(L.2 c y).trans<|a3 c oc y ec
   .show⟨by change(2:Nat)<=Ñ;decide,[e.key,e.val],.cons ek<|.cons u2 .nil,_,ht2,rfl,0,rfl,rfl⟩
  .rw[bQ]
   .show(M c q).1
   .let e:c=j:=by apply q
    rw[e];show û J
 done:=by
  intro X Z hw Y hc i O s σ H E I M ⟨ok,x,st⟩ hg;subst Z hw Y;let⟨p,G⟩:=hg;let⟨lo,hl,T,R,g,a,N⟩:=sD I p;rw[hd]at a;ext a;let hs:es.size=ps.length:=by have:=congrArg Ĭ N;apply this
  let⟨f0,f1,f2,f3,f4,f5⟩:=M j ∅;show HQ (I.ok.hd hc) st g (λe U n=>by
   have:=(PV.mp n).1;lia) λ_ U eb=>⟨rfl,I.turned (t':=s.toks) (λb o q e=>eb b o q e) f0 f1 f3 f4 f5⟩
 self:=λA i s Q E ⟨ok,x,st⟩ h=>PySem.W.kcp_self st h
def Vq(K:PE X l M)(j:gk l "items" X.env (eval l X.env)=eval l X.env)(k:(a.endLine==c.line)=dI):
  PI X (.Tuple G L pt) (.Call (.Attribute l "items" a) [] [] c) (λu H R=>M u H λv n=>∃d ob B,v=.ref d/\n d=b3 (.frz ob<|aT d B)/\R (Cz d ob B) n):=by
 intro i s u H R I h;show PF j k<|aW (K i s u H _ I h) λv p ⟨y,n,E,r1,q1⟩=>?_;let⟨d,ob,B,e,J,q⟩:=q1;subst e;obtain rfl:v=Ö d:=r1;let⟨lo,K,T,O,g,hd,he⟩:=sD E J;show⟨"dict","dict.items",NZ,Na,SF,g.ty,λb N=>?_,zr rfl<|PB ?_⟩
 .ext N;let⟨z,Y,x,_⟩:=g;show⟨z,Y,x.2.1⟩
 show lu Na g.ty SQ (Rw _) (HB d lo) ⟨⟨T,O,g⟩,?_⟩;let w:Â X i u n {p with heap:=p.heap.push {cls:=.type "dict_items",data:=.fields #[.ref d]}}:=E.kept (t':=p.toks) λb o e=>ß _ e;let⟨lo2,hl2,U,Q,x,A,he2⟩:=sD w J;change È (Í X.prog X.w) X.A (JF<|.ref p.heap.objs.size) (Bd X i u (.Tuple G L pt) R) X.xe _;show Hz ⟨_,ć _ rfl,rfl,rfl⟩ x ⟨_,[_],_,_,n,rfl,w.kept (t':=p.toks) λb o e=>ß _ e,Vp A,⟨_,_,ć _ rfl⟩,λb Z=>?_,q⟩;let e:=Ē.mp Z;subst e;show w.fpOk (Ø _)<|w.hok.fresh<|Ø _
abbrev lV(kvs:jx):List D:=kvs.map λk=>.tup [.tup<|k.1.map D.int,k.2]
def Vr{ps:bN}(h:H d=b3 (.frz ob<|aT d ps))(T:ì K π n H ps kvs):Wk K (Cz d ob ps) (dE<|.tup<|lV kvs) π n H:=by
 let E:ps.length=kvs.length:=by have:=congrArg Ĭ T.to.1;apply this
 show⟨λg A k i e R z=>?_,λg A k i o e R z=>?_⟩
 .let a:(lV kvs)[i]?=none:=ē z;have:=χ.mp a;rw[lV,Ã]at this;show⟨e.frz _ _ _ h,()⟩
 .let a:(lV kvs)[i]?=b3 o:=ē z;let hi:i<kvs.length:=by have:=(â.mp a).1;rwa [lV,Ã]at this
  show⟨⟨e.frz _ _ _ h,()⟩,λv B ⟨t,p,q,s,u,w⟩=>?_⟩;subst q w;let b:kvs[i]?=b3 kvs[i]:=ü hi;let⟨G,h1,x⟩:=(T.to.2.1.mono e).get (i:=i) (d:=D.tup ((kvs[i]).1.map D.int)) (by rw[ú,b];rfl);let⟨I,j,y⟩:=(T.to.2.2.mono e).get (i:=i) (d:=(kvs[i]).2) (by rw[ú,b];rfl);rw[ú,u]at h1 j;ext h1;ext j;let⟨c,R2⟩:=R.fresh (o:=.tup [.ref p.2.1,p.2.2]) s;rw[lV,ú,b]at a;ext a;show⟨c,R2,.tup (.of dW)<|.cons (x.mono c)<|.cons (y.mono c) .nil⟩
def Vs(i:PE X l g):PE X l (λσ H Q=>g σ H λv a=>∃d ps,v=.ref d/\a d=b3 (aT d ps)/\∀ob,Q v (upd a d<|.frz ob<|aT d ps)):=by intro b s σ H Q I h;show aW (i b s σ H _ I h) λv o ⟨y,a,c,n,k⟩=>?_;let⟨d,ps,rfl,e,q⟩:=k;obtain⟨_,⟨ob,j⟩,_⟩:=(show Þ X.prog X.w a o.heap d (aT d ps)from c.hok _ _ e);show⟨_,_,Â.freeze c e j,n,q ob⟩
abbrev wF(m:ME):MI:=λc b=>(m c b).bind λp=>match p.1 with
 |.loc a=>match p.2[a]? with
  |some (.dT kvs)=>b3 (dE<|.tup<|lV kvs,kvs.length+1,p.2.set a<|.dF kvs)|_=>b4
 |_=>b4
open _root_ in
def Vt(h:QE X e m)(w:lQ e=dI)(v:(b.endLine==c.line)=dI):vy X (.Call (.Attribute e "items" b) [] [] c) (wF m):=⟨λes M pt Do s σ H R I hw=>by
 let⟨J,K,A,z,n,B,q,E,a,k⟩:=hw;show bR a ?_;clear a;intro x G h1 a;dsimp at a;split at a
 .split at a
  .rename_i i hc;ext a;show Vq (Vs h.h) (pY w) v Do s σ H R I ⟨J,K,A,_,_,q,E,h1,λj N L u o y=>?_⟩;ext y;let⟨d,p,T⟩:=jW o hc;show⟨_,d,rfl,p,λob=>?_⟩;let⟨g,R2⟩:=o.put (c:=.dF i) (o:=.frz ob (aT _ d)) (â.mp hc).1 p (.inr<|.inr ⟨_,rfl⟩) ⟨ob,d,rfl,T.to⟩;show⟨_,ob,d,rfl,dW,k j _ _ (u.trans g) R2<|Vr dW<|ì.of T.to.1 (T.to.2.1.mono g)<|T.to.2.2.mono g⟩
  .ext a
 .ext a⟩
open PyProof.Rows (IsTup kmk_tree seqObj)
abbrev HR(K:Õ):gz->Hp->VK->Prop:=λxs H Q=>∃p:Addr,xs=[.ref p,.non]/\Ą K H p []/\Q .non H
def Vu a:argsOk "min" ⟨[a],[(Ű "default",.none)]⟩:=by ext argsOk;kernel_rfl
def Vv{σ:L2.St}(hc:X.calm=dI){xs:gz}(I:Â X Do σ H s)(r:∃y,xs=[y,.non]/\Ì y u)(h:HR X.K xs H Q):
  È (Í X.prog X.w) X.A (call (.builtin "min") [u] [(Ű "default",.none)]) (EP X Do σ Q) X.xe s:=by
 let⟨p,rfl,i,q⟩:=h;let⟨y,c,n⟩:=r;ext c;ext n;let d:X.A.in1.handled=none:=I.ok.hd hc;let⟨its,v,pl,A⟩:=I.list i;ext v;let k:(toString "min"++toString ".loop":String)="min.loop":=⋯
 show kmk_tree PySem.F.kind_min PySem.F.plain_min PySem.F.entry_min (Vu _) ?_;show Á (m:=Nd "min" ["key","default"] 0 ⟨[],[(Ű "default",.none)]⟩)<|mD (show Nd "min" ["key","default"] 0 ⟨[],[(Ű "default",.none)]⟩=pure [b4,b3 .none]from rfl)<|Á<|Ê<|Á<|uz pl.isList<|Á<|ug ?_<|ĵ _;rw[k];show Ê ⟨Ϟ Rb _,?_⟩;let a:p<s.heap.objs.size:=by let⟨o,g,_⟩:=pl.isList;show Ý g
 let K:=OK (prog:=X.prog) (w:=X.w) d s.heap.objs.size p (û a) #[];show ϴ PySem.F.entry_min_loop ?_;rw[Ϸ Rb _];show Á (m:=fj _)<|Ϡ (ć _ rfl) rfl ?_;show Á (m:=tryCatch (ş<|.ref s.heap.objs.size) _)<|nA<|K.done _ _ _ ⟨⟨_,ß _<|ć _ rfl,rfl,rfl⟩,(pl.isList.push _).push _⟩ λx w j=>?_;show Á<|Ϝ<|Ê ⟨.non,H,I.kept (t':=w) λb o e=>j b o (λz=>?_)<|ß _<|ß _ e,rfl,q⟩;rw[Ē.mp z]at e;show ε _<|Ý e
abbrev t8:MF:=λds b=>match ds with
 |[.loc a,.non]=>match b[a]? with
  |some (.lst [])=>b3 (.non,b)|_=>b4
 |_=>b4
open _root_ in
def Vx:eY K t8 (HR K):=by
 intro j H u s d h n Q R i a k;unfold t8 at a;split at a
 .split at a
  .rename_i b;ext a;cases i with
   |cons c t=>
    cases t with
    |cons g t=>ext t;ext g;let⟨p,o,e,q,hd⟩:=rX (xs:=[]) R c (by dsimp[eX,b]);ext hd;show⟨p,by rw[e],q,k j _ H .refl R .non⟩
  .ext a
 .ext a
def Vy(hc:X.calm=dI)(hun:X.A.units+64<ÿ)(hg:Gl X "min")(hm:X.mg "min"=b4)(h:QE X e m)(h1:QE X j T)(hs:fF e=dI):
  QE X (.Call (.Name "min" p) [e] [⟨b3 "default",j,p1⟩] pos) (bJ t8<|aB m<|aB T aG):=⟨by
 intro z s σ H Q I hw;let⟨π,ρ,Z,d,M,R,E,hw,k⟩:=hw;show bR hw ?_;clear hw;intro ds μ2 n hw;show bR n ?_;clear n;intro x c g1 n;show bR n ?_;clear n;intro ds' μ3 B n;show bR B ?_;clear B;intro y g N B;ext B;ext n;dsimp at N hw;show bx (kG I hg hm Sk ?_ ⋯<|by decide);let st:ý [e] X.env=(b5,eval e X.env)::ý [] X.env:=iF hs;show b4M (aW (E7 h.h E6 st pos z s σ H (λU i=>∃v a,U=[v]/\ò π Z.length H a c.length i/\Rp X.K a i c/\Ú X.K a c.length i v x) I ⟨π,ρ,Z,x,c,R,E,g1,λa v i j G J=>⟨v,a,rfl,j,G,J⟩⟩) λus s1 ⟨U,i,I1,r1,v,a,ev,j,G,J⟩=>?_) (by rw[st];rfl) (by rw[st];rfl);subst ev;show aW (a9k h1.h a9m pos z s1 σ i (λY o=>∃w b,Y=[w]/\ò a c.length i b g.length o/\Rp X.K b o g/\Ú X.K b g.length o w y) I1 ⟨a,ρ,c,y,g,G,E.mono j,N,λb w o A R2 K=>⟨w,b,rfl,A,R2,K⟩⟩) λws s2 ⟨Y,o,I2,r2,w,b,ew,A,R2,K⟩=>?_;subst ew;let⟨u,rfl,ru⟩:=gU r1;let⟨u2,rfl,L⟩:=gU r2;let O:=Vx b o g [x,y] d M [v,w] Q R2 (.cons (J.mono A)<|.cons K .nil) hw<|k.after<|j.trans A;let⟨q,e5,hr'⟩:=id O;ext e5;ext L;show Vv hc I2 ⟨_,rfl,ru⟩ O⟩
end L3
namespace L3
open PySem L2
open PyProof.Rows (IsTup IntsAre)
abbrev wG(h:í)(v:Value)(p:Int×Int):Prop:=∃a xs,v=.ref a/\J4 h a xs/\ų xs.toList [p.1,p.2]
def Vz(c:A.units<ÿ)(a:wG s.heap u p)(b:wG s.heap v q)(h:Q (.bool<|HT.lexLt [p.1,p.2] [q.1,q.2]) s):È (Í P w) A (rE .Lt u v) Q E s:=by let⟨a,j,rfl,g,d⟩:=a;let⟨b,k,rfl,i,e⟩:=b;show HT.lt_tupInts g i d e c h
def VA(M:A.units+2<ÿ)(a:wG s.heap u p)(b:wG s.heap v q)(h:Q (.bool<|HT.lexLt [q.1,q.2] [p.1,p.2]) s):È (Í P w) A (rE .Gt u v) Q E s:=by
 obtain⟨a,I,rfl,⟨B,h1,o,N,L⟩,d⟩:=a;obtain⟨b,J,rfl,⟨ob,k,n,O,K⟩,g⟩:=b;let⟨I⟩:=I;let⟨J⟩:=J;show wpAny_richCompare_same_room (op:=.Gt) ⟨B,h1,o⟩ ⟨ob,k,n⟩ F.slot_tuple_gt (Θ F.slot_tuple_gt ⟨B,h1,o⟩ F.entry_tuple_gt ?_<|F.args_tuple_gt_2 _ _) ();show Á (m:=isInstance (.ref b) (.type "tuple"))<|mX ⟨ob,k,n⟩ isSubtype_tuple_tuple ?_;dsimp[gf,Ň,if_false];show Á<|Qq h1 L<|Á<|Qq k K<|Á ?_;cases d with
 |cons x t d=>
 cases d with
 |cons R G d=>
 ext d;cases g with
 |cons y u g=>
 cases g with
 |cons T H g=>
 ext g;change È _ _ (forIn [(Ġ p.1 t,Ġ q.1 u),(Ġ p.2 G,Ġ q.2 H)] _ _) _ _ s;dsimp[OU,QK];let c:∀(i:Int)(t:au),(Ŵ P w).is i (.int i t)=true:=λi t=>by simp[Ŵ,OP]
 show Á<|Á<|(Ŵ P w).eqBool (c p.1 t) (c q.1 u) ?_;by_cases e:p.1=q.1
 .rw[decide_eq_true e];dsimp[gf,Ň,if_false];show Ê<|Á<|Á<|(Ŵ P w).eqBool (c p.2 G) (c q.2 H) ?_;by_cases j:p.2=q.2
  .rw[decide_eq_true j];rw[e,j,zH]at h;dsimp[gf,Ň,if_false];show Ê<|Ê<|Ê ⟨.bool b5,rfl,(λz=>nomatch z),h⟩
  .rw[decide_eq_false j];dsimp[zf,if_true];show Á<|Ϝ<|Á<|SM ?_;have:HT.lexLt [q.1,q.2] [p.1,p.2]=decide (q.2<p.2):=by simp[HT.lexLt,e,î j]
   rw[this]at h;show Á<|Ê<|Ê<|Ê<|Ê ⟨_,rfl,(λz=>nomatch z),h⟩
 .rw[decide_eq_false e];dsimp[zf,if_true];show Á<|Ϝ<|Á<|SM ?_;have:HT.lexLt [q.1,q.2] [p.1,p.2]=decide (q.1<p.1):=by simp[HT.lexLt,î e]
  rw[this]at h;show Á<|Ê<|Ê<|Ê<|Ê ⟨_,rfl,(λz=>nomatch z),h⟩
abbrev sF(t:Bool):String:=match t with|true=>"min.loop" |false=>"max.loop"
abbrev CA(t:Bool):String:=match t with|true=>"min" |false=>"max"
abbrev wH(t:Bool):mq:=match t with|true=>.Lt|false=>.Gt
abbrev VB(t:Bool):Builtin:=match t with|true=>Builtin.«min.loop»|false=>Builtin.«max.loop»
def zR t:entryFor table (sF t)=b3 (VB t):=by
 ext t
 .show F.entry_max_loop
 .show F.entry_min_loop
def qG t:plainId (sF t)=true:=by
 ext t
 .show F.plain_max_loop
 .show F.plain_min_loop
def VC{St:Nat->í->Prop}(K:Walks P w A.in1 I Z J 2 (λi v=>(#[a,b]:Array Value)[i]?=b3 v) St)(X:S∉Z)(st:St 0 s.heap)(M:s.heap.get? S=b3 {cls:=.type "list",dict:=b4,data:=.seq #[] z,slots:=#[]})(hc:∀t (Q E:Value->Ù->Prop),(∀x o,x∉J->x≠S->s.heap.get? x=b3 o->t.heap.get? x=b3 o)->Q (.bool c) t->È (Í P w) A.in1 (rE (wH U) b a) Q E t)(q:∀h' tk,(∀x o,x∉J->x≠S->s.heap.get? x=b3 o->h'.get? x=b3 o)->R (.ok<|.ret<|if c then b else a) {s with heap:=h',toks:=tk}):ο (Í P w) A (.builtin (sF U) ⟨[.ref I,.none,.ref S],[]⟩) R s:=by
 let p:(toString "min"++toString ".loop":String)=sF true:=⋯
 let k:(toString "max"++toString ".loop":String)=sF false:=⋯
 ext U;all_goals
  dsimp only[wH]at hc;let G:S∉J:=λz=>X<|K.sub _ z;let d:∀{h:í}{u:Value}(x:Addr)(o:Obj),x≠S->h.get? x=b3 o->(h.update S<|a4F λ_=>#[u,u]).get? x=b3 o:=λx o n e=>(WF _ _<|î n).trans e;show ϴ (zR _) ?_;rw[Ϸ (qG _) _];show Á (m:=fj (.ref S)) (Ϡ M rfl<|Á (m:=tryCatch (ş<|.ref I) _)<|nA<|K.item 0 s _ _ ⋯ st λv h1 tk1 pv Y O=>?_);obtain rfl:a=v:=by apply pv
  show Á (m:=qx S λ_=>#[a,a])<|iw (O S _ G M) rfl ?_;first|rw[p]|rw[k]
  show Ê ⟨Ϟ (qG _) _,ϴ (zR _) ?_⟩;rw[Ϸ (qG _) _];let g1:=ϓ (a4F λ_=>#[a,a]) (O S _ G M) rfl;show Á (m:=fj (.ref S)) (Ϡ g1 rfl<|Á (m:=tryCatch (ş<|.ref I) _)<|nA<|K.item 1 _ _ _ ⋯ (K.frame _ _ _ Y λx N o e=>d x o (λz=>X<|z▸N) e) λv h2 tk2 pv H k2=>?_);obtain rfl:b=v:=by apply pv
  let T:∀x o,x∉J->x≠S->s.heap.get? x=b3 o->h2.get? x=b3 o:=λx o g j e=>k2 x o g<|d x o j<|O x o g e;let L:=k2 S _ G g1;change È _ A.in1 (tryCatch (holding [b,b]<|rE _ b a >>= _) _ >>= _) _ _ _;show Á<|nA<|Ŀ<|Á<|hc _ _ _ T<|Á<|Ŀ<|Ϲ<|Á<|bj<|Ê ?_;cases c with
  |true=>
   dsimp[if_true]at q ⊢;show Á<|iw L rfl<|Á<|bj ?_;first|rw[p]|rw[k]
   show Ê ⟨Ϟ (qG _) _,ϴ (zR _) ?_⟩;rw[Ϸ (qG _) _];let g3:=ϓ (a4F λ_=>#[b,b]) L rfl;show Á (m:=fj (.ref S))<|Ϡ g3 rfl<|Á (m:=tryCatch (ş<|.ref I) _)<|nA<|K.done _ _ _ (K.frame _ _ _ H λx N o e=>d x o (λz=>X<|z▸N) e) λh4 y B=>?_;show Á (m:=qx S λ_=>#[])<|iw (B S _ G g3) rfl<|Á<|bj<|Ê ?_;show q _ y λx o g j e=>(WF _ _<|î j).trans<|B x o g<|d x o j<|T x o g j e
  |false=>
   dsimp[Ň,if_false]at q ⊢;show Á<|bj ?_;first|rw[p]|rw[k]
   show Ê ⟨Ϟ (qG _) _,ϴ (zR _) ?_⟩;rw[Ϸ (qG _) _];show Á (m:=fj (.ref S))<|Ϡ L rfl<|Á (m:=tryCatch (ş<|.ref I) _)<|nA<|K.done _ _ _ H λh4 y B=>?_;show Á (m:=qx S λ_=>#[])<|iw (B S _ G L) rfl<|Á<|bj<|Ê ?_;show q _ y λx o g j e=>(WF _ _<|î j).trans<|B x o g<|T x o g j e
def HS j(I:op=wH j)(G:fn=CA j)(H:A.handled=b4)(hc:∀t (Q E:Value->Ù->Prop),(∀x o,s.heap.get? x=b3 o->t.heap.get? x=b3 o)->Q (.bool c) t->È (Í P w) A.in1 (rE op b a) Q E t)(q:∀g u,(∀x o,s.heap.get? x=b3 o->g.get? x=b3 o)->Q (if c then b else a) {s with heap:=g,toks:=u}):È (Í P w) A (call (.builtin fn) [a,b]) Q E s:=by
 let p:(toString "min"++toString ".loop":String)=sF true:=⋯
 let n:(toString "max"++toString ".loop":String)=sF false:=⋯
 subst I G;ext j;case' true=>
  dsimp only[CA,wH]at hc ⊢;show Qn F.kind_min F.plain_min F.entry_min (F.args_min2 _ _) ?_;show Á (m:=Nd "min" ["key","default"] 0 ⟨[],[]⟩)<|mD (show _=pure [b4,b4]from rfl) ?_
 case' false=>
  dsimp only[CA,wH]at hc ⊢;show Qn F.kind_max F.plain_max F.entry_max (F.args_max2 _ _) ?_;show Á (m:=Nd "max" ["key","default"] 0 ⟨[],[]⟩)<|mD (show _=pure [b4,b4]from rfl) ?_
 all_goals
  show Á (m:=ye [a,b])<|ź ?_;let v:(s.heap.push {cls:=.type "tuple",data:=.seq #[a,b]}).IsTuple s.heap.objs.size #[a,b]:=⟨_,ć _ rfl,rfl,0,rfl⟩;let i:(s.heap.push {cls:=.type "tuple",data:=.seq #[a,b]}).objs.size=s.heap.objs.size+1:=ϔ ..;show Á<|um v<|Á<|ź ?_;let d:((s.heap.push {cls:=.type "tuple",data:=.seq #[a,b]}).push {cls:=.type "tuple_iterator",data:=.fields #[.ref s.heap.objs.size,.int 0 0]}).objs.size=s.heap.objs.size+2:=by rw[ϔ,i]
  first|rw[p]|rw[n]
  let old:∀x o,s.heap.get? x=b3 o->x<s.heap.objs.size:=λx o e=>Ý e;show Ê ⟨Ϟ (qG _) _,VC (c:=c) (OQ (A:=A.in1) H _ s.heap.objs.size (by rw[i];show û<|Ϧ _) #[a,b]) ?_ ⟨⟨_,ß _<|ć _ rfl,rfl,rfl⟩,(v.push _).push _⟩ (ć _ rfl) (λt B y k h=>hc t B y (λx o e=>?_) h) λg u k=>q g u λx o e=>?_⟩
  .rw[d,i];simp
  all_goals
   let l:=old x o e;show k x o (λz=>?_) (λz=>?_)<|ß _<|ß _<|ß _ e
   .rw[i]at z;rw[Ē.mp z]at l;show ε _<|Ox l
   .rw[z,d]at l;show ε _<|Ox<|Ox l
abbrev CB(x:D):Option (Int×Int):=(dR x).bind λk=>match k with
 |[a,b]=>b3 (a,b)|_=>b4
abbrev zS(f:Int×Int->Int×Int->Bool)(g:MF):MF:=λds a=>match ds with
 |[x,y]=>(match CB x,CB y with
  |some p,b3 q=>b3 (if f p q then y else x,a)
  |_,_=>g ds a)
 |_=>g ds a
abbrev zT:MF:=zS (λp q=>HT.lexLt [q.1,q.2] [p.1,p.2]) yZ
abbrev zU:MF:=zS (λp q=>HT.lexLt [p.1,p.2] [q.1,q.2]) y8
inductive QP (f:Int×Int->Int×Int->Bool)(K:Õ):gz->Hp->VK->Prop
 |mk {H:Hp}{Q:VK}{a b:Addr}{p q:Int×Int}(ha:å K H a ([p.1,p.2].map V.int))(hb:å K H b ([q.1,q.2].map V.int))(k:Q (.ref<|if f p q then b else a) H):QP f K [.ref a,.ref b] H Q
def HU(h:CB x=b3 p):x=.tup ([p.1,p.2].map D.int):=by
 show bZ h ?_;clear h;intro k h1 a;rw[vP h1];split at a
 .ext a;rfl
 .ext a
def wI{p:List Int}(h:Ú K π n H v (.tup<|p.map D.int)):∃a,v=.ref a/\å K H a (p.map V.int):=by
 cases h with
 |@tup a c ds b hd=>have:=Ģ hd;subst this;show⟨a,rfl,b⟩
open _root_ in
def HV(j:eY K g r):eY K (zS f g) (λxs H Q=>QP f K xs H Q\/r xs H Q):=by
 intro h H u xs d e s Q R i c k;unfold zS at c;split at c
 .split at c
  .rename_i v w;ext c;cases i with
   |cons n t=>
   cases t with
   |cons o t=>
   ext t;let p:=n;let q:=o;rw[HU v]at p;rw[HU w]at q;let⟨a,rfl,x⟩:=wI p;let⟨b,rfl,y⟩:=wI q;show .inl<|.mk x y<|k h _ H .refl R ?_;split
   .show o
   .show n
  .show .inr<|j h H u _ d e s Q R i c k
 .show .inr<|j h H u _ d e s Q R i c k
def zV{σ:St}(I:Â X Do σ H s)(h:å X.K H a ([p.1,p.2].map V.int))(b:∀x o,s.heap.get? x=b3 o->h'.get? x=b3 o):wG h' (.ref a) p:=by obtain⟨its,r,⟨o,e,z⟩,_⟩:=I.tuple h;show⟨a,_,rfl,⟨o,b _ _ e,z⟩,xS r⟩
def VD(hc:X.calm=dI)(o:X.A.units+64<ÿ):Ü X (.builtin "min") (QP (λp q=>HT.lexLt [q.1,q.2] [p.1,p.2]) X.K):=by intro b s z H y x Q I r h;let⟨c,d,k⟩:=h;let⟨u,v,rfl,e,g⟩:=vB r;ext e;ext g;show HS dI (op:=.Lt) rfl rfl (I.ok.hd hc) (λt j i a h=>Vz (by rw[mP];lia) (zV I d a) (zV I c a) h) λn w a=>⟨_,H,I.kept a,?_,k⟩;split<;>rfl
def VE(hc:X.calm=dI)(o:X.A.units+64<ÿ):Ü X (.builtin "max") (QP (λp q=>HT.lexLt [p.1,p.2] [q.1,q.2]) X.K):=by intro b s z H y x Q I r h;let⟨c,d,k⟩:=h;let⟨u,v,rfl,e,g⟩:=vB r;ext e;ext g;show HS b5 (op:=.Gt) rfl rfl (I.ok.hd hc) (λt j i a h=>VA (by rw[mP];lia) (zV I d a) (zV I c a) h) λn w a=>⟨_,H,I.kept a,?_,k⟩;split<;>rfl
end L3
namespace L3
open PySem L2 PySem.W PyProof.Rows
noncomputable abbrev Ti:=List Int×List Int×Bool×List Int
abbrev nU:Ti:=([],[],b5,[])
abbrev zW(x y:Ti):Bool:=if x.1=y.1 then(if x.2.1=y.2.1 then(if x.2.2.1=y.2.2.1 then HT.lexLt x.2.2.2 y.2.2.2 else y.2.2.1)else HT.lexLt x.2.1 y.2.1)else HT.lexLt x.1 y.1
section
variable{P:Ť}{w:į}{A:ť}{E:Value->Ù->Prop}{s:Ù}
inductive qi (P:Ť)(w:į)(h:í)(a:Addr)(t:Ti):Prop
 |mk (o:Obj)(n:Nat)(b c e:Addr)(g:h.get? a=b3 o)(k:o.cls=.type "tuple") (d:o.data=.seq #[.ref b,.ref c,.bool t.2.2.1,.ref e] n)(h1:mS P w h b t.1)(h2:mS P w h c t.2.1)(h3:mS P w h e t.2.2.2)
def VF(h:a≠b):m5 A s (.bool a) (.bool b) false:=λprog w E Q q=>by ext eqBool;show Ŀ ?_;rw[if_neg<|by apply h];show Á<|SeqAt.RcAt.bool_bool a b prog w E _<|Ϲ ?_;rw[show(a==b)=b5 by apply h];show q
def CC(g:A.units<ÿ)(d:mS P w s.heap b k)(a:mS P w s.heap c k')(n:k=k'->KatLex P w A b5 fin Q r (i+1) s)(o:k≠k'->Q (HT.lexLt k k') s):
  KatLex P w A b5 fin Q ((.ref b,.ref c)::r) i s:=by
 show kat_cons<|(ϝ<|Ŵ P w).eqBool g d.1 a.1 ?_;by_cases e:k=k'
 .rw[decide_eq_true e];show kat_yes<|n e
 .rw[decide_eq_false e];let⟨u,p,h⟩:=d.2;let⟨v,q,j⟩:=a.2;show kat_no<|kat_one _ _<|HT.lt_tupInts p q (by apply h) (by apply j) g<|o e
def VG{C:Bool->Ù->Prop}(h:A.units<ÿ)(x:qi P w s.heap a t)(y:qi P w s.heap i t')(q:C (zW t t') s):È (Í P w) A (keyLt' (tuples' b5) (.ref a)<|.ref i) C (λ_ l=>False) s:=by
 let⟨o,n,b,c,e,g,_,d,H,I,J⟩:=x;let⟨O,N,j,k,B,G,_,p,K,L,M⟩:=y;unfold zW at q;show kat_lt g d G p ?_;change KatLex P w A b5 _ C [(.ref b,.ref j),(.ref c,.ref k),(.bool t.2.2.1,.bool t'.2.2.1),(.ref e,.ref B)] 0 s;show CC h H K (λz=>?_) λz=>by rw[if_neg z]at q;show q
 rw[if_pos z]at q;show CC h I L (λz=>?_) λz=>by rw[if_neg z]at q;show q
 rw[if_pos z]at q;by_cases f:t.2.2.1=t'.2.2.1
 .rw[if_pos f]at q;rw[f];show kat_cons<|HA<|kat_yes<|CC h J M (λz=>kat_nil ?_) λ_=>q;rw[z,zH]at q;show q
 .rw[if_neg f]at q;show kat_cons<|VF f P w _ _<|kat_no<|kat_one _ _<|lt_bool ?_;have:decide (b2i t.2.2.1<b2i t'.2.2.1)=t'.2.2.1:=by generalize t.2.2.1=u at f;generalize t'.2.2.1=v at f;ext u<;>ext v<;>first|show absurd rfl f|decide
  rw[this];show q
def VH{as:List Addr}{ts:List Ti}(I:A.units<ÿ)(h0:0<as.length)(u:ts.length=as.length)(at_:∀i,i<as.length->qi P w s.heap (as.getD i 0) (ts.getD i nU)):qD P w A (as.map Ö) (λi j=>zW (ts.getD i nU)<|ts.getD j nU) s:=by
 let g:∃fs:gw,fs.length=as.length/\M4 s.heap (as.map Ö) fs/\∀v∈fs,∃b k,v=Ö b/\mS P w s.heap b k:=by
  clear h0;induction as generalizing ts with
  |nil=>show⟨[],rfl,.nil,λv d=>nomatch d⟩|cons a as J=>
   match ts,u with
   |t::ts,u=>
    let⟨fs,x,h,p⟩:=J (ts:=ts) (by apply u) λi hi=>by apply at_ (i+1) (by apply hi)
    let⟨o,n,b,c,e,y,z,B,G,_⟩:=at_ 0 ∅;show⟨.ref b::fs,by simp[x],.cons y z B ∅ h,λv d=>?_⟩;rcases ĉ.mp d with rfl|d
    .show⟨b,_,rfl,G⟩
    .show p v d
 let⟨fs,x,h,p⟩:=g;show Nr (T:=.type "tuple") h () (λv d=>?_) ⋯ ⟨rfl,λi j C hi q H=>?_⟩
 .let⟨b,k,rfl,K⟩:=p v d;obtain⟨L,⟨o,o1,o2,_⟩,_⟩:=K.2;show kitAt_ty _ _ ⟨o,o1,o2⟩
 .rw[Ã]at hi q;rw[show(as.map Ö).getD i .none=.ref (as.getD i 0) by simp[ĩ,hi],show(as.map Ö).getD j .none=.ref (as.getD j 0) by simp[ĩ,q]];show VG I (at_ i hi) (at_ j q) H
def VI(d:us.length<64)(h:s.heap.IsList l us.toArray)(H:2<=us.length->∀c,(∀b o,s.heap.get? b=b3 o->c.get? b=b3 o)->qD P w A.in1.in1 us an {s with heap:=c})(q:Q (.ref<|s.heap.objs.size+1) {s with heap:=sortedAll s.heap us ((c6 an us.length).map λi=>us.getD i Ľ).toArray}):È (Í P w) A (call (.builtin "sorted") [.ref l]) Q E s:=by
 let k:us.length<=Ñ:=by rw[ï];lia
 show PU Ny O8 O6 (OA _) ?_;ext Om;show Á (m:=O1 "sorted" 1 1 _) (Ê<|Á<|collect_list h (Á<|ug ?_ ()) ());let z:((s.heap.push<|Ė "list" #[] 0).update s.heap.objs.size<|a4F (·++us.toArray)).objs.size=s.heap.objs.size+1:=by rw[Heap.size_update,size_push']
 let g:(((s.heap.push<|Ė "list" #[] 0).update s.heap.objs.size<|a4F (·++us.toArray)).push<|Ė "list" us.toArray 0).get? (s.heap.objs.size+1)=b3 (Ė "list" us.toArray 0):=z▸ć _ rfl;change È _ _ _ _ _ ⟨((s.heap.push<|Ė "list" #[] 0).update s.heap.objs.size<|a4F (·++us.toArray)).push<|Ė "list" us.toArray 0,s.gens,s.drawn,s.toks,s.os⟩;rw[z];by_cases a:2<=us.length
 .show Á<|Ŀ<|Θ uc ⟨_,g,rfl⟩ ue (Co a d g (λc j=>H a c λb o e=>j b o ?_ ?_) ⟨_,rfl,?_⟩)<|tu _
  .show û<|za<|Ý e
  .show ß _<|(WF _ _<|Š<|Ý e).trans<|ß _ e
  .show Ê ⟨_,rfl,q⟩
 .show Á (Ŀ<|Θ uc ⟨_,g,rfl⟩ ue (B7 (us:=us) () g ⟨_,rfl,?_⟩)<|tu _);show Ê ⟨_,rfl,?_⟩;match us,a,q with
  |[],_,q=>rw[uv,yV]at q;show q|[b],_,q=>rw[PL,B8]at q;show q|_::_::_,a,_=>simp at a
end
noncomputable abbrev oZ(ts:List Ti):Prop:=ts.length<64
abbrev VJ:D->Option Bool
 |.bl b=>b3 b|_=>b4
abbrev VL:List D->Option Ti
 |[x,y,z,w]=>(dR x).bind λk=>(dR y).bind λm=>(VJ z).bind λb=>(dR w).map λn=>(k,m,b,n)|_=>b4
abbrev zX:D->Option Ti
 |.tup l=>VL l|_=>b4
abbrev fG(t:Ti):D:=.tup [.tup<|t.1.map D.int,.tup<|t.2.1.map D.int,.bl t.2.2.1,.tup<|t.2.2.2.map D.int]
def VM(h:zX x=b3 t):x=fG t:=by
 cases x with
 |tup l=>
  rcases l with _|⟨x,_|⟨y,_|⟨z,_|⟨w,_|⟨_,_⟩⟩⟩⟩⟩;all_goals first|ext h;done|skip
  show bZ h ?_;clear h;intro k h1 h;show bZ h ?_;clear h;intro m c h;show bZ h ?_;clear h;intro b a h;let⟨n,d,rfl⟩:=ţ.mp h;rw[vP h1,vP c,vP d];cases z with
  |bl=>ext a;rfl|_=>ext a
 |_=>ext h
abbrev wJ:List D->Option (List Ti)
 |[]=>b3 []|x::r=>(zX x).bind λt=>(wJ r).map (t::·)
def HW:∀{xs}{ts},wJ xs=b3 ts->xs=ts.map fG
 |[],_,h=>by ext h;rfl
 |x::xs,ts,h=>by show bZ h ?_;clear h;intro t h1 h;let⟨r,a,rfl⟩:=ţ.mp h;rw[VM h1,HW a];rfl
abbrev o7(ts:List Ti):Nat->Nat->Bool:=λi j=>zW (ts.getD i nU)<|ts.getD j nU
abbrev t9:MF:=λds b=>match ds with
 |[x]=>(eX b x).bind λc=>(wJ c).bind λa=>if oZ a then b3 (.loc b.length,b++[.lst<|(c6 (o7 a) a.length).map λi=>c.getD i .non])else b4|_=>b4
inductive Sz (K:Õ)(H:Hp)(v:V)(t:Ti):Prop
 |mk (a b c e:Addr)(g:v=.ref a)(s:å K H a [.ref b,.ref c,.bl t.2.2.1,.ref e])(s1:å K H b (t.1.map V.int))(s2:å K H c (t.2.1.map V.int))(s3:å K H e (t.2.2.2.map V.int))
inductive ŭ (K:Õ):gz->Hp->VK->Prop
 |mk {H:Hp}{Q:VK}{q:Addr}{ws:gz}{ts:List Ti}(hq:Ą K H q ws)(hw:Τ (Sz K H) ws ts)(h:oZ ts)(k:∀l,H l=b4->Q (.ref l) (upd H l<|.lst<|(c6 (o7 ts) ws.length).map λi=>ws.getD i .non)):ŭ K [.ref q] H Q
def HX{K:Õ}:∀{vs}{ts},Æ K π n H vs (ts.map fG)->Τ (Sz K H) vs ts
 |_,[],h=>by ext h;show .nil
 |_,t::ts,h=>by
  cases h with
  |cons h r=>
  show .cons ?_<|HX r;cases h with
  |@tup a vs ds k hd=>
  cases hd with
  |cons d hd=>
  cases hd with
  |cons g hd=>
  cases hd with
  |cons i hd=>
  cases hd with
  |cons j hd=>
  ext hd;ext i;let⟨b,rfl,o⟩:=wI d;let⟨c,rfl,p⟩:=wI g;let⟨e,rfl,q⟩:=wI j;show⟨a,b,c,e,rfl,k,o,p,q⟩
open _root_ in
def VN{K:Õ}:eY K t9 (ŭ K):=by
 intro y H x w d u v Q R i a k;unfold t9 at a;split at a
 .let⟨s,h1,a⟩:=Ś.mp a;show bZ a ?_;clear a;intro c j a;split at a
  .rename_i n;ext a;cases i with
   |cons i t=>
    ext t;let⟨p,g,rfl,q,hd⟩:=rX R i h1;let b:=hd;rw[HW j]at b;let o:g.length=c.length:=by rw[b.length,Ã]
    show .mk q (HX b) n λl e=>?_;let⟨h,R2,_⟩:=R.alloc (c:=.lst ((c6 (o7 c) c.length).map λi=>s.getD i .non)) (o:=.lst ((c6 (o7 c) g.length).map λi=>g.getD i .non)) e<|by
     change Æ _ _ _ _ _ _;rw[o];show GV hd _
    show k _ _ _ h R2 mO
  .ext a
 .ext a
def HY(h:Å vs us):∀l:List Nat,Å (l.map λi=>vs.getD i .non) (l.map λi=>us.getD i .none)
 |[]=>.nil|i::l=>by
  show .cons ?_<|HY h l;let z:=h.length;cases e:vs[i]? with
  |some v=>let⟨u,a,b⟩:=h.get e;dsimp[ĩ,e,a];show b|none=>have:=h.none_of e;dsimp[ĩ,e,this];rfl
def CD{σ:L2.St}(I:Â X Do σ H s)(h:å X.K H b (k.map V.int)):mS X.prog X.w s.heap b k:=by let⟨its,r,t,_⟩:=I.tuple h;show⟨nP I h,its,t,xS r⟩
def VO(h:Å [.ref b,.ref c,.bl t,.ref e] us):us=[.ref b,.ref c,.bool t,.ref e]:=by
 cases h with
 |cons a h=>
 cases h with
 |cons d h=>
 cases h with
 |cons g h=>
 cases h with
 |cons i h=>
 ext h;ext a;ext d;ext g;ext i;rfl
open _root_ in
def VP(hun:X.A.units+64<ÿ):Ü X (.builtin "sorted") (ŭ X.K):=by
 intro B s σ H xs us Q I r h;let⟨M,hw,w,k⟩:=h;rename_i q K j;let⟨u,rfl,G⟩:=gU r;ext G;let⟨its,A,pl,N⟩:=I.list M;let p:=A.length;let E:j.length=K.length:=hw.length.symm;let y:∃v:List Addr,its=v.map Ö/\∀i,i<v.length->∃b c e,å X.K H (v.getD i 0) [.ref b,.ref c,.bl (j.getD i nU).2.2.1,.ref e]/\å X.K H b ((j.getD i nU).1.map V.int)/\å X.K H c ((j.getD i nU).2.1.map V.int)/\å X.K H e ((j.getD i nU).2.2.2.map V.int):=by
  clear N pl k M I p E w;induction hw generalizing its with
  |nil=>ext A;show⟨[],rfl,λi hi=>nomatch hi⟩|cons h _ ih=>
   cases A with
   |cons r1 r2=>
    let⟨v,e,f⟩:=ih _ r2;let⟨a,b,c,d,rfl,t,t1,t2,t3⟩:=h;ext r1;show⟨a::v,by rw[e];rfl,λi hi=>?_⟩;cases i with
    |zero=>show⟨b,c,d,t,t1,t2,t3⟩|succ i=>apply f i (by apply hi)
 let⟨v,L,pr⟩:=y;let hal:v.length=its.length:=by rw[L,Ã]
 let x:its.length<64:=by have:j.length<64:=w;lia
 show VI (us:=its) (an:=o7 j) x pl.isList (λh2 h3 kp=>?_) ?_
 .rw[L];show VH (by rw[mP,mP];lia) () () λi hi=>?_;let⟨b,c,e,g,U,Y,Z⟩:=pr i hi;let J:Â X B σ H {s with heap:=h3,toks:=s.toks}:=I.kept (t':=s.toks) kp;obtain⟨us,G,⟨o,O,R,n,T⟩,_⟩:=J.tuple g;obtain rfl:=VO G;show⟨o,n,b,c,e,O,R,T,CD J U,CD J Y,CD J Z⟩
 .let⟨e,he⟩:=sortedAll_at s.heap its ((c6 (o7 j) its.length).map λi=>its.getD i Ľ).toArray;show⟨.ref<|s.heap.objs.size+1,_,I.laid (t':=s.toks) (a:=s.heap.objs.size+1) (o:=.lst ((c6 (o7 j) K.length).map λi=>K.getD i .non)) (λb ob z=>sortedAll_old z) (mL _) ?_,rfl,k _<|I.hok.fresh<|mL _⟩;show⟨?_,_,e,?_,he⟩
  .rw[Ã,(jV _ _).length_eq,ph];show N
  .rw[<- p];show HY A _
end L3
namespace L3
open PySem L2
section
variable{P:Ť}{w:į}{K:Type} [DecidableEq K] {knd:M5 P w K}{A:ť}{E:Value->Ù->Prop}{s:Ù}{d o a:Addr}{k:K}{xs ys:List (K×Addr×Value)}
def VQ(N:knd.room A)(J:knd.is s.heap k a)(M:s.heap.DictOfH knd d xs)(hz:xs.length<=Ñ)(q:∀h',h'.DictOfH knd d (ϛ xs k a v)->Κ d s.heap h'->Q Unit.unit {s with heap:=h'}):
  È (Í P w) A (N0 d (.ref a) (knd.hash k) v) Q E s:=by
 let⟨ob,L,H,c,hc,hd,B,h,n⟩:=id M;ext N0;show Ŀ<|Á<|QR N J c hd B h n (λu=>?_) λj p I=>?_
 .let i:=Qf u;let z:k∉xs.map (·.1):=QN u;show Á<|Ϝ<|Qd (hz:=by let e:=NH B;lia) c hd<|q _ ⟨_,_,H+1,ϓ _ c<|NW<|vg hd _,hc.mapDictKeys _,vg hd _,?_,λx b=>?_,?_⟩<|Ż ..
  .rw[m9 i];simp[B,yj]
  .rw[m9 i]at b;rcases Ħ.mp b with b|b
   .show knd.keeps (h x b) c hd<|Ż ..
   .rw[Ē]at b;subst b;show knd.keeps J c hd<|Ż ..
  .rw[m9 i,þ,Ϻ];show⟨n,∅,λx b y G e=>by
    dsimp[ó,϶,Ē]at G;subst G;show z<|e▸b⟩
 .let g:=atKey_of_get n I;show Á<|Ϝ<|Á<|wpAny_updateDict c hd<|wpAny_point<|q _ ⟨_,_,H,ϓ _ c<|NW<|QX hd _,hc.mapDict _,QX hd _,?_,λx b=>?_,?_⟩<|Ż ..
  .let t:=modify_map_putAt (yj knd) (λe:DictEntry=>{e with val:=v}) k v (λ_ f=>rfl) n I;rw[Nz g];rw[<- B]at t;let⟨l⟩:=L;apply t
  .rw[Nz g]at b;let⟨y,G,rfl⟩:=Ô.mp b;ext putAt;split<;>show knd.keeps (h y G) c hd<|Ż ..
  .rw[Nz g,keys_map_putAt];show n
abbrev lW(xs ys:List (K×Addr×Value)):List (K×Addr×Value):=ys.foldl (λacc x=>ϛ acc x.1 x.2.1 x.2.2) xs
def VR xs(k:K)a v:(ϛ xs k a v).length<=xs.length+1:=by
 ext ϛ;split
 .rw[Ã];lia
 .rw[ă];show Ø _
def HZ:∀(ys xs:List (K×Addr×Value)),(lW xs ys).length<=xs.length+ys.length
 |[],xs=>Ø _|y::ys,xs=>by let h1:=HZ ys<|ϛ xs y.1 y.2.1 y.2.2;let b:=VR xs y.1 y.2.1 y.2.2;change(lW (ϛ xs y.1 y.2.1 y.2.2) ys).length<=_;rw[ņ];lia
def Ia:∀(ys xs:List (K×Addr×Value)),((xs++ys).map (·.1)).Nodup->lW xs ys=xs++ys
 |[],xs,_=>(ŉ xs).symm|y::ys,xs,h=>by
  let b:Ρ xs y.1=none:=by
   ext Ρ;rw[Y0.mpr]
   .rfl
   .intro x c;rw[decide_eq_true_iff];intro e;rw[þ,ó]at h;show(Ϻ.mp h).2.2 x.1 (Ô.mpr ⟨x,c,rfl⟩) y.1 (.head _) e
  change lW (ϛ xs y.1 y.2.1 y.2.2) ys=_;rw[m9 b,Ia ys _<|by rw[Ϩ];show h,Ϩ];rfl
open _root_ in
def VS(hu:knd.room A)(p:(d==o)=b5)(hoS:(o==ļ)=b5)(hd:s.heap.DictOfH knd d xs)(ho:s.heap.DictOfH knd o ys)(tt:∀y∈ys,s.TypeIs (.ref y.2.1) "tuple")(nh:(ys.map λy=>knd.hash y.1).Nodup)(hz:xs.length+ys.length<=Ñ)(q:∀c,c.DictOfH knd d (lW xs ys)->Κ d s.heap c->Q Unit.unit {s with heap:=c}):È (Í P w) A (S4 nm d o) Q E s:=by
 let⟨od,ed,epd,U,d2,J,d4,d5,d6⟩:=id hd
 let⟨oo,g,epo,o1,o2,I,T,o5,o6⟩:=id ho
 let hne:d≠o:=λe=>by rw[e,beq_self_eq_true]at p;ext p
 let lo:=NH T
 ext S4
 rw[if_neg<|by rw[p];show ô]
 ext ou
 rw[if_neg<|by rw[hoS];show ô]
 show Á<|Ê<|Á<|ϒ o1 I ?_
 let j:È (Í P w) A (do
   let n <- dictEpoch o
   let l <- dictEntries o
   forIn [:l.size] MV λi (_:PUnit)=>(do
     let l' <- dictEntries o
     match l'[i]? with
      |some e=>do
       holding [e.key,e.val] (N0 d e.key e.hash e.val)
       let Z <- dictEpoch o
       if(Z != n)=dI then do
         (unsupported (toString nm++toString ":source-changed-during-callback"):J3 PUnit)
         pure (bu MV)
        else pure (bu MV)
      |_=>do
       (unsupported "internal:dict-merge":J3 PUnit)
       pure (bu MV):J3 (ForInStep PUnit))
   pure Unit.unit) Q E s:=by
  show Á<|gj o1 I<|Á<|ϒ o1 I<|Á ?_
  rw[b3u]
  dsimp[b3t,ON,Nat.add_sub_cancel,Nat.div_one]
  show OZ _ (λcH a s'=>∃c i,s'={s with heap:=c}/\cH=rn i (g.size-i)/\i<=g.size/\c.DictOfH knd d (lW xs<|ys.take i)/\c.get? o=b3 oo/\(∀y∈ys,knd.is c y.1 y.2.1)/\Κ d s.heap c)
   _ ?_ ?_ _ _ ⟨s.heap,0,rfl,∅,ĵ _,by rw[nj];show hd,o1,o5,NX _ _⟩
  .rintro x cH b s' ⟨c,i,rfl,v,hi,h,u,H,B⟩
   let hlt:i<g.size:=by
    rcases Px i g.size with z|z
    .show z
    .rw[Nat.sub_eq_zero_of_le z]at v;ext v
   rw[show g.size-i=(g.size-(i+1))+1 by lia,N9]at v
   injection v with e1 e2
   subst e1
   let hx:x<ys.length:=()
   let en:=entry_at T x
   rw[ü hx]at en
   show Á<|ϒ u I ?_
   rw[en]
   let hl2:(lW xs<|ys.take x).length<=Ñ:=by
    have:=HZ (ys.take x) xs
    rw[Ι]at this
    lia
   let⟨od',_,_,X,_,Y,_⟩:=id h
   change È _ _ (holding [_,_] (N0 d (.ref ys[x].2.1) (knd.hash ys[x].1) ys[x].2.2) >>= _) _ _ _
   show Á<|Ŀ<|VQ (s:={s with heap:=c}) hu (H _<|j0 hx) h hl2 λh2 L G=>?_
   let O:h2.get? o=b3 oo:=(G.2 o<|î hne).trans u
   show Á<|gj (s:={s with heap:=h2}) O I ?_
   rw[if_neg ∅]
   show Ê ⟨h2,x+1,rfl,e2,hlt,?_,O,λy R=>knd.keeps (H y R) X Y G,B.trans G⟩
   let et:ys.take (x+1)=ys.take x++[ys[x]]:=by rw[ni,ü hx];rfl
   rw[et]
   unfold lW at L ⊢
   rw[Oe]
   show L
  .rintro b s' ⟨c,i,rfl,v,hi,h,u,H,B⟩
   let hin:i=g.size:=by
    rcases Px i g.size with z|z
    .rw[show g.size-i=(g.size-(i+1))+1 by lia,N9]at v;show nomatch v
    .show Nat.le_antisymm hi z
   rw[hin,lo,Ź]at h
   show Ê<|q c h B
 dsimp
 split
 .show Á<|ϒ U J ?_
  split
  .rename_i M
   let xn:xs=[]:=by
    let z:ed=#[]:=Qw.mp M
    have:=NH d4
    rw[z]at this
    show NQ.mp this.symm
   subst xn
   let ek:g.toList.map (·.key)=(ys.map (·.2.1)).map Ö:=by
    rw[T,ã,ã]
    rfl
   show Á<|U0 (bs:=ys.map (·.2.1)) ⟨oo,o1,o2,I⟩ ek (λb hb=>?_) ?_ ?_
   .let⟨y,R,rfl⟩:=Ô.mp hb
    show tt y R
   .rw[T,ã]
    show nh
   let em:lW [] ys=ys:=Ia ys [] o6
   rw[em]at q
   split
   .show Á<|wpAny_updateDictKeysTo U J (Ê<|q _ ⟨_,_,epd+1,ϓ _ U<|NW<|vg J _,d2.mapDictKeys _,vg J _,T,λy R=>knd.keeps (o5 y R) U J<|Ż ..,o6⟩<|Ż ..) ?_
    rw[uv,Q1]at hz
    lia
   .rename_i N
    let z:g=#[]:=Qw.mp<|by apply N
    let yn:ys=[]:=by
     rw[z]at lo
     show NQ.mp lo.symm
    subst yn
    show Ê<|q _ hd<|NX _ _
  .show j
 .show j
def VT(knd:M5 P w K)d o:yd P w (Builtin.«dict.update» ⟨[.ref d,.ref o],[]⟩) (λA R s=>knd.room A.in1/\(d==o)=b5/\(o==ļ)=b5/\∃xs ys,s.heap.DictOfH knd d xs/\s.heap.DictOfH knd o ys/\(∀y∈ys,s.TypeIs (.ref y.2.1) "tuple")/\(ys.map λy=>knd.hash y.1).Nodup/\xs.length+ys.length<=Ñ /\
   ∀b,b.DictOfH knd d (lW xs ys)->Κ d s.heap b->R (.ok<|.ret .none) {s with heap:=b}):=
 .of_wp λA R s ⟨j,g,h,xs,ys,hd,c,u,p,n,q⟩=>by unfold Builtin.«dict.update»;show Á ?_;ext Sb;show Á<|vh hd.typeIs<|Ê ?_;change È _ _ (Nc "dict.update" d (.ref o) [] .none) _ _ s;ext Nc;show Á<|yw c.typeIs ?_;rw[if_neg ⋯];show Á ?_;ext b4Y b4W;show Á<|Á<|mX c.typeIs isSubtype_dict_dict ?_;dsimp[gf,Ň,if_false];show Á<|uf c.typeIs F.slot_dict_iter.lookup<|Ê ?_;dsimp[beq_self_eq_true,if_true];show Á<|Ê<|VS j g h hd c u p n λb e i=>?_;change È _ _ (Sa d [] >>= _) _ _ _;show Á<|Ê<|Ê ⟨.none,rfl,q b e i⟩
end
abbrev sG(ps qs:bN):bN:=qs.foldl (λq p=>e8 q p.1 p.2.1 p.2.2) ps
abbrev uA(kvs more:jx):jx:=more.foldl (λq p=>cD q p.1 p.2) kvs
abbrev sH:D->List D->Hm->jk
 |.loc a,[.loc b],μ=>match μ[a]?,μ[b]? with
  |some<|.dT kvs,b3 (.dT more)=>if kvs.length+more.length<=Ñ/\(more.map λp=>Tb.hashT p.1).Nodup/\a≠b then b3 (.non,μ.set a<|.dT<|uA kvs more)else b4|_,_=>b4
 |_,_,_=>b4
abbrev Ib(K:Õ):V->gz->Hp->VK->Prop:=λx vs H Q=>∃a b ps qs,x=.ref a/\vs=[.ref b]/\H a=b3 (aT a ps)/\eQ K H ps/\H b=b3 (aT b qs)/\eQ K H qs/\a≠b/\ps.length+qs.length<=Ñ/\(qs.map λp=>Tb.hashT p.1).Nodup/\Q .non (upd H a<|aT a<|sG ps qs)
def ì.upd:∀{qs}{more},ì K π n H qs more->∀{ps}{kvs},ì K π n H ps kvs->ì K π n H (sG ps qs) (uA kvs more)
 |_,_,.nil,_,_,h=>h|p::qs,m::more,.cons e t,ps,kvs,h=>by let⟨b,c,d⟩:=e;let a:=h.put p.1 c d;rw[show cD kvs p.1 m.2=cD kvs m.1 m.2 by rw[b]]at a;show ì.upd t a
def Ic:∀qs ps,(sG ps qs).length<=ps.length+qs.length
 |[],ps=>Ø _|q::qs,ps=>by let h1:=Ic qs<|e8 ps q.1 q.2.1 q.2.2;let a:=vX ps q.1 q.2.1 q.2.2;change(sG (e8 ps q.1 q.2.1 q.2.2) qs).length<=_;rw[ņ];lia
def Ie:∀{qs}{us},Å (qs.map (·.2.2)) us->∀{ps}{ws},Å (ps.map (·.2.2)) ws->∃a,Å ((sG ps qs).map (·.2.2)) a/\lW (cI ps ws) (cI qs us)=cI (sG ps qs) a
 |[],_,.nil,ps,ws,r=>⟨ws,r,rfl⟩|q::qs,_,.cons ru t,ps,ws,r=>by let⟨h,d,b⟩:=zC r q.1 q.2.1 ru;let⟨g,e,c⟩:=Ie t d;show⟨g,e,?_⟩;change lW (ϛ (cI ps ws) q.1 q.2.1 _) (cI qs _)=_;rw[b];show c
open _root_ in
def VU:mR K sH (Ib K):=by
 intro M H X x O d L v N Q R A h a k;unfold sH at a;split at a
 .split at a
  .rename_i i more hc g;split at a
   .rename_i z;let⟨U,I,J⟩:=z;ext a;cases A with
    |loc n=>
     cases h with
     |cons B t=>
      cases t;cases B with
      |loc y=>
       let⟨o,j,T⟩:=jW R hc;let⟨c,s,b⟩:=jW R g;let E:=congrArg Ĭ T.to.1;let G:=congrArg Ĭ b.to.1;rw[Ã,Ã]at E G;let⟨u,q⟩:=R.put (c:=.dT (uA i more)) (o:=aT _ (sG o c)) n j (.inr<|.inr ⟨_,rfl⟩) ⟨_,rfl,(b.upd T).to⟩;show⟨_,_,o,c,rfl,rfl,j,T.keys,s,b.keys,λe=>J<|R.inj _ _ n y e,(),?_,k M _ _ u q .non⟩;let w:(c.map λp=>Tb.hashT p.1)=(c.map (·.1)).map Tb.hashT:=by rw[ã];rfl
       rw[w,b.to.1,ã];show I
   .ext a
  .ext a
 .ext a
def VW(U:X.A.units+1<ÿ):nH X "dict.update" (Ib X.K):=by
 intro z s σ H x vs v us Q I w rv h;let⟨a,b,ps,k,rfl,rfl,e,M,B,c,ne,Z,nh,q⟩:=h;ext w;let⟨u,rfl,ru⟩:=gU rv;obtain rfl:u=Ö b:=ru;let⟨T,hl,ws,r,d⟩:=lU I (.of e) M;let⟨j,N,o,n,A⟩:=lU I (.of B) c;let len:∀{ps:bN}{ws:gw},Å (ps.map (·.2.2)) ws->(cI ps ws).length=ps.length:=λr=>by have:=congrArg Ĭ<|oV r;rwa [Ã,Ã]at this
 show lu SR d.typeIs PySem.F.entry_dict_update (PySem.F.args_dict_update_2 _ _) (VT (ϝ<|Ŵ X.prog X.w) a b) ⟨r8 U,beq_eq_false_iff_ne.mpr ne,j,_,_,d,A,λy Y=>?_,?_,by rw[len r,len n];show Z,λK g ss=>?_⟩
 .let⟨p,O,J⟩:=Ci Y;obtain⟨its,w,⟨ot,E,i,_⟩,_⟩:=I.tuple<|c p O;rw[<- J.2];show⟨ot,E,i⟩
 .let G:((cI k o).map λy=>(ϝ<|Ŵ X.prog X.w).hash y.1)=k.map λp=>Tb.hashT p.1:=by have:=congrArg (MP Tb.hashT)<|oV n;rw[ã,ã]at this;show this
  rw[G];show nh
 .let⟨w2,r2,i⟩:=Ie n r;rw[i]at g;let L:∃q,K.get? a=b3 q:=let⟨q,_,_,R,_⟩:=g;⟨q,R⟩;show⟨.non,_,xR I (by rw[e];show ϰ) ss L<|vY T (by have:=Ic k ps;lia) r2 g,rfl,q⟩
structure ĝ where
 fn:List<|Str×Nat
 con:List<|Str×D
 tab:List<|Str×List (bM×D)
 no:List Str
 dIt:List Str
 dEq:List Str
 dMe:List Str
structure Cs where
 N:List Str
 ks:List<|Str×ϱ
abbrev qH(x:Str):List Str->Option Nat
 |[]=>b4|y::r=>if x=y then b3 0 else(qH x r).map (·+1)
open _root_ in
def wK:∀{N}{i},qH x N=b3 i->N[i]?=b3 x
 |[],_,h=>by ext h
 |y::r,i,h=>by
  unfold qH at h;split at h
  .rename_i e;ext h;subst e;rfl
  .let⟨j,h1,a⟩:=ţ.mp h;subst a;have:=wK h1;apply this
abbrev glob(c:Cs)(x:Str):Bool:=decide (c.ks.lookup x=b3 .globalImplicit)&&!(x==("__debug__":Str))
abbrev rF(c:Cs)(x:Str):Bool:=(decide (c.ks.lookup x=b3 .local)||decide (c.ks.lookup x=b3 .cell)||decide (c.ks.lookup x=b3 .free))&&!(x==("__debug__":Str))&&!(x==("__classdict__":Str))
abbrev qI(c:Cs)(x:Str):Bool:=decide (c.ks.lookup x=b3 .local)||decide (c.ks.lookup x=b3 .cell)
def fM{κ b:Type} [BEq κ] [LawfulBEq κ] {x k:κ}{a n:b}{r:List (κ×b)}{P:Prop}(h:gY x ((k,a)::r)=b3 n)(h1:x=k->a=n->P)(c:gY x r=b3 n->P):P:=by
 rw[ux]at h;by_cases e:x=k
 .rw[beq_iff_eq.mpr e]at h;show h1 e<|ē h
 .rw[beq_eq_false_iff_ne.mpr e]at h;show c h
abbrev Ig(x:Str):Option String:=gY x [("int","int"),("bool","bool"),("str","str"),("list","list"),("tuple","tuple"),("dict","dict")]
def VX(h:Ig x=b3 n):Ψ x=b3 (.type n)/\x ≠ "__name__":=by
 show fM h (λe g=>?_) λh=>?_
 .subst e;ext g;show⟨b2I,⋯⟩
 show fM h (λe g=>?_) λh=>?_
 .subst e;ext g;show⟨b2J,⋯⟩
 show fM h (λe g=>?_) λh=>?_
 .subst e;ext g;show⟨b2D,⋯⟩
 show fM h (λe g=>?_) λh=>?_
 .subst e;ext g;show⟨PQ,⋯⟩
 show fM h (λe g=>?_) λh=>?_
 .subst e;ext g;show⟨Ss,⋯⟩
 show fM h (λe g=>?_) λh=>?_
 .subst e;ext g;show⟨So,⋯⟩
 ext h
abbrev CF(S:ĝ)(c:Cs)(x:Str):ME:=
 if rF c x=dI then(match qH x c.N with|some i=>aE i|none=>cT)
 else if glob c x=dI then(match S.con.lookup x with
  |some d=>mC d
  |none=>if S.no.contains x=dI then(match Ig x with|some n=>mC (.ty n)|none=>cT)else cT)
 else cT
abbrev gP(r:Expr->ME):List Expr->MA
 |[]=>aG|e::es=>aB (r e)<|gP r es
abbrev zY(op:BoolOp):List ME->ME
 |[]=>cT|[m]=>m|m::r=>match op with
  |.And=>fQ m (zY op r)|.Or=>Bx m<|zY op r
abbrev zZ(op:BoolOp):List MT->MT
 |[]=>rQ|[m]=>m|m::r=>match op with
  |.And=>i9 m (zZ op r)|.Or=>lH m<|zZ op r
abbrev Ih(op:b1E)(a b:ME):ME:=match op with
 |.Add=>aA bI a b|.Sub=>aA iP a b|.Mult=>aA b8 a b|.FloorDiv=>aA kL a b|.Mod=>aA b6 a b|.Pow=>aA rJ a b|_=>cT
abbrev qJ(op:mq)(ns:Bool)(a b:ME):ME:=match op with
 |.Eq=>aA (aZ b5) a b|.NotEq=>aA (aZ dI) a b|.Lt=>aA gM a b|.LtE=>aA tH a b|.Gt=>aA kM a b|.GtE=>aA vJ a b|.In=>if ns=dI then aA (eH b5) a b else cT|.NotIn=>if ns=dI then aA (eH dI) a b else cT|.Is=>aA (iS b5) a b|.IsNot=>aA (iS dI) a b
abbrev uB(r:Expr->ME):Option Expr->MO
 |none=>mM|some e=>mN<|r e
abbrev z7:Expr->Option (Expr×List Expr)
 |.Call f as [] _=>b3 (f,as)|_=>b4
def Ii(h:z7 e=b3 (f,as)):∃pos,e=.Call f as [] pos:=by
 unfold z7 at h;split at h
 .ext h;show⟨_,rfl⟩
 .ext h
abbrev nV:Expr->Option Str
 |.Name x _=>b3 x|_=>b4
def uC(h:nV e=b3 x):∃p,e=.Name x p:=by
 unfold nV at h;split at h
 .ext h;show⟨_,rfl⟩
 .ext h
abbrev o1:List Expr->Option Expr
 |[e]=>b3 e|_=>b4
def uD(h:o1 l=b3 e):l=[e]:=by
 match l,h with
 |[_],h=>ext h;rfl
abbrev o2:List Expr->Option (Expr×Expr)
 |[a,b]=>b3 (a,b)|_=>b4
def VY(h:o2 l=b3 (a,b)):l=[a,b]:=by
 match l,h with
 |[_,_],h=>ext h;rfl
abbrev CG(S:ĝ)(c:Cs)(e:Expr):Option (List<|bM×D):=(nV e).bind λx=>if glob c x=dI then S.tab.lookup x else b4
abbrev dH:MF:=λds b=>match ds with
 |[.loc a]=>match b[a]? with
  |some (.lst xs)=>b3 (.int xs.length,b)|some (.st ks)=>b3 (.int ks.length,b)|some (.dT kvs)=>b3 (.int kvs.length,b)|_=>b4
 |_=>vK ds b
abbrev o8:MF:=λds b=>match ds with
 |[.loc a]=>match b[a]? with
  |some (.dT kvs)=>b3 (.loc b.length,b++[.lst<|kvs.map λk=>D.tup<|k.1.map D.int])|_=>vL [.loc a] b
 |ds=>vL ds b
open _root_ in
def VZ:eY K o8 (λxs H Q=>(∃p g,xs=[.ref p]/\(Ą K H p g\/å K H p g)/\∀l,H l=b4->Q (.ref l) (upd H l<|.lst g))\/Hn K xs H Q):=by
 intro o H n xs d c j Q R i b k;unfold o8 at b;split at b
 .rename_i a;split at b
  .rename_i e u;ext b;cases i with
   |cons i t=>ext t;ext i;let⟨h,h1,T⟩:=jW R u;show .inr ⟨_,h,rfl,h1,T.keys,λl s=>?_⟩;let⟨q,R2,_⟩:=R.alloc (c:=.lst (e.map λk:List Int×D=>D.tup<|k.1.map D.int)) (o:=.lst (h.map λp:List Int×Addr×V=>V.ref p.2.1)) s T.to.2.1;show k _ _ _ q R2 mO
  .show .inl<|Ge o H n _ d c j Q R i b k
 .show .inl<|Ge o H n _ d c j Q R i b k
abbrev bltT:List (Str×MF):=[("len",dH)
 ,("isinstance",nK)
 ,("list",o8)
 ,("all",yT)
 ,("sorted",t9)
 ,("sum",oU)
 ,("min",zT) ,("max",zU)
 ]
abbrev Ij(x:Str):Option MF:=bltT.lookup x
abbrev V0(K:Õ):gz->Hp->VK->Prop:=λxs H Q=>BP K xs H Q\/(∃a L,xs=[V.ref a]/\H a=b3 (xV a L)/\Q (.int L.length) H)\/Hl K xs H Q
open _root_ in
def V1:eY K dH (V0 K):=by
 intro g H j s d e h Q R i b k;unfold dH at b;split at b
 .rename_i a;split at b
  .rename_i u c;show .inl<|Gd g H j _ d e h Q R i ?_ k;dsimp[vK,bO,c];show b
  .rename_i o c;ext b;cases i with
   |cons i t=>ext t;ext i;let⟨L,h1,n,_⟩:=R.st a o c;have:=congrArg Ĭ n;rw[Ã]at this;show .inr<|.inl ⟨_,L,rfl,h1,?_⟩;rw[this];show k g _ H .refl R<|.int _
  .rename_i p c;ext b;cases i with
   |cons i t=>ext t;ext i;let⟨q,h1,T⟩:=jW R c;have:=congrArg Ĭ T.to.1;rw[Ã,Ã]at this;show .inr<|.inr ⟨_,q,rfl,h1,T.keys,?_⟩;rw[this];show k g _ H .refl R<|.int _
  .ext b
 .show .inl<|Gd g H j _ d e h Q R i b k
def V2(a:X.calm=dI)(b:X.A.units+64<ÿ)(h:Ij x=b3 f):∃v r,Ψ x=b3 v/\((∃id,v=.builtin id)\/∃T,v=.type T)/\Ü X v r/\eY X.K f r/\x ≠ "__name__":=by
 show fM h (λe g=>?_) λh=>?_
 .subst e;ext g;show⟨_,_,b2G,.inl ⟨_,rfl⟩,ύ.or<|ό.or Uk,V1,⋯⟩
 show fM h (λe g=>?_) λh=>?_
 .subst e;ext g;show⟨_,_,b2H,.inl ⟨_,rfl⟩,b3s,b3v,⋯⟩
 show fM h (λe g=>?_) λh=>?_
 .subst e;ext g;show⟨_,_,PQ,.inr ⟨_,rfl⟩,Ů.or<|Ul a,VZ,⋯⟩
 show fM h (λe g=>?_) λh=>?_
 .subst e;ext g;show⟨_,_,b2K,.inl ⟨_,rfl⟩,a9N a,a9V rfl,⋯⟩
 show fM h (λe g=>?_) λh=>?_
 .subst e;ext g;show⟨_,_,PR,.inl ⟨_,rfl⟩,VP b,VN,⋯⟩
 show fM h (λe g=>?_) λh=>?_
 .subst e;ext g;show⟨_,_,b2C,.inl ⟨_,rfl⟩,Td a,Tc,⋯⟩
 show fM h (λe g=>?_) λh=>?_
 .subst e;ext g;show⟨_,_,Sk,.inl ⟨_,rfl⟩,(VD a b).or<|b0S a,HV Te,⋯⟩
 show fM h (λe g=>?_) λh=>?_
 .subst e;ext g;show⟨_,_,b2F,.inl ⟨_,rfl⟩,(VE a b).or<|a8p a,HV Tf,⋯⟩
 ext h
abbrev CH(x:Str):Option MF:=
 if x="dict" then b3 sC else
 Ij x
open _root_ in
def V3(a:X.calm=dI)(b:X.A.units+64<ÿ)(h:CH x=b3 f):∃v r,Ψ x=b3 v/\((∃id,v=.builtin id)\/∃T,v=.type T)/\Ü X v r/\eY X.K f r/\x ≠ "__name__":=by
 unfold CH at h;split at h
 .rename_i e;subst e;ext h;show⟨_,_,So,.inr ⟨_,rfl⟩,Uz a b,UA,⋯⟩
 show V2 a b h
abbrev xj:List ((Str×Nat)×(D->List D->Hm->jk)):=[(("append",1),eZ)
 ,(("extend",1),oT)
 ,(("index",1),tX)
 ,(("pop",1),pZ)
 ]
abbrev Ik(m:Str)(n:Nat):Option (D->List D->Hm->jk):=xj.lookup (m,n)
abbrev qK:MF:=λds b=>match ds with
 |[.loc a]=>match b[a]? with
  |some (.dT kvs)=>if kvs.length<64/\(∀p∈kvs,p.1≠[])then b3 (.loc b.length,b++[.lst<|(oX kvs).map λk=>D.tup<|k.1.map D.int])else b4|_=>b4
 |_=>b4
open _root_ in
def V4:eY K qK (HH K):=by
 intro B H A y d v x Q R i a k;unfold qK at a;split at a
 .split at a
  .rename_i b u;split at a
   .rename_i j;ext a;cases i with
    |cons i t=>
     ext t;ext i;let⟨c,h1,T⟩:=jW R u;let⟨w,g⟩:=UI T;show⟨_,c,rfl,h1,T.keys,(),λp o z=>?_,λl n=>?_⟩
     .have:p.1∈b.map (·.1):=by rw[<- T.to.1];show Ô.mpr ⟨p,o,rfl⟩
      let⟨q,s,e⟩:=Ô.mp this;show j.2 q s<|e.trans z
     .let⟨h,R2,_⟩:=R.alloc (c:=.lst ((oX b).map λk:List Int×D=>D.tup<|k.1.map D.int)) (o:=.lst ((oW c).map λp:List Int×Addr×V=>V.ref p.2.1)) n g.to.2.1;show k _ _ _ h R2 mO
   .ext a
  .ext a
 .ext a
abbrev V5(S:ĝ)(x:Str)(a:Expr):Bool:=match nV a with
 |some y=>S.dMe.contains y|none=>b5
abbrev Il(S:ĝ)(f:Expr)(args:List Expr):Option (Bool×Expr):=(nV f).bind λx=>(o1 args).bind λa=>if(fF a&&V5 S x a)=dI then(if x="sorted" then b3 (dI,a)else if x="dict" then b3 (b5,a)else b4)else b4
open _root_ in
def V6(h:Il S f args=b3 (b,e)):∃p,f=.Name (if b then "sorted" else "dict") p/\args=[e]/\[e].all fF=true:=by
 show bZ h ?_;clear h;intro x h1 i;show bZ i ?_;clear i;intro a j c;let⟨p,k⟩:=uC h1;clear h1;split at c
 .rename_i g;rw[ð]at g;split at c
  .rename_i d;subst d;ext c;show⟨p,k,uD j,by rw[ō,g.1];rfl⟩
  .split at c
   .rename_i d;subst d;ext c;show⟨p,k,uD j,by rw[ō,g.1];rfl⟩
   .ext c
 .ext c
abbrev Pm:List ((Str×Nat)×(D->List D->Hm->jk)):=
 (("setdefault",2),jY) ::
 (("get",2),fV) ::
 (("update",1),sH) ::
 []
abbrev Im(S:ĝ)(o:Expr)(m:Str)(n:Nat):Option (D->List D->Hm->jk):=
 Pm.lookup (m,n)
abbrev z8(S:ĝ)(c:Cs)(tg:Expr):Expr->Option Nat
 |.Name x _=>match tg with
  |.Name _ _=>if S.dIt.contains x=dI then qH x c.N else b4|_=>b4
 |_=>b4
abbrev CI(S:ĝ)(F:Str->MF)(r:Expr->ME)(c:Cs)(f:Expr)(args:List Expr)(a:Į):ME:=match f with
 |.Name x _=>if glob c x&&args.all fF then(match S.fn.lookup x with
   |some n=>if args.length=n then bJ (F x) (gP r args)else cT|none=>
   if S.no.contains x&&!args.isEmpty then(match CH x with|some g=>bJ g (gP r args)|none=>cT)else cT)
  else cT
 |.Attribute o m apos=>if lQ o&&(apos.endLine==a.line)&&args.all fF then(
   match Im S o m args.length with
   |some g=>fU g (r o) (gP r args)|none=>
   match Ik m args.length with
   |some g=>eB g (r o) (gP r args)|none=>
    cT)
  else cT
 |_=>cT
abbrev CJ(f:Expr)(args:List Expr):Option (Str×Str×Expr):=(nV f).bind λx=>(o1 args).bind λa=>(z7 a).bind λg=>(nV g.1).bind λy=>(o1 g.2).map λe=>(x,y,e)
def Io(h:CJ f args=b3 (x,y,e)):∃p c pos,f=.Name x p/\args=[.Call (.Name y c) [e] [] pos]:=by show bZ h ?_;clear h;intro n h1 h;show bZ h ?_;clear h;intro a d h;show bZ h ?_;clear h;intro g i h;show bZ h ?_;clear h;intro o b h;show cE h ?_;clear h;intro k j h;ext h;let⟨p,rfl⟩:=uC h1;let⟨pos,rfl⟩:=Ii i;let⟨c,b⟩:=uC b;show⟨p,c,pos,rfl,by rw[uD d,b,uD j]⟩
abbrev V7(f:Expr)(args:List Expr):Option (Bool×Expr):=(CJ f args).bind λt=>
 if t.1="list"/\t.2.1="reversed" then b3 (dI,t.2.2)else
 b4
abbrev Ip:Bool->Str
 |false=>"range"|true=>"reversed"
abbrev lstM:Bool->MF
 |true=>nQ|false=>nQ
abbrev CK(S:ĝ)(F:Str->MF)(r:Expr->ME)(c:Cs)(f:Expr)(args:List Expr)(a:Į):ME:=
 match V7 f args with
 |some (b,e)=>if glob c "list" && glob c (Ip b)&&S.no.contains "list" && S.no.contains (Ip b)&&fF e then bJ (lstM b) (gP r [e])else cT|none=>CI S F r c f args a
abbrev CL:Expr->Option (Expr×Į×Į)
 |.Call g [] [] cpos=>match g with
  |.Attribute o m apos=>if m="items" then b3 (o,apos,cpos)else b4|_=>b4
 |_=>b4
open _root_ in
def V8(h:CL e=b3 (o,a,b)):e=.Call (.Attribute o "items" a) [] [] b:=by
 unfold CL at h;split at h
 .split at h
  .split at h
   .rename_i c;ext h;rw[c]
   .ext h
  .ext h
 .ext h
abbrev V9(f:Expr)(args:List Expr):Option (Expr×Į×Į):=(CJ f args).bind λt=>if t.1="tuple"/\t.2.1="sorted" then CL t.2.2 else b4
abbrev CM(S:ĝ)(F:Str->MF)(r:Expr->ME)(c:Cs)(f:Expr)(args:List Expr)(a:Į):ME:=
 match V9 f args with
 |some q=>if glob c "sorted" && glob c "tuple" && S.no.contains "sorted" && S.no.contains "tuple" && lQ q.1&&(q.2.1.endLine==q.2.2.line)then zL (r q.1)else cT|none=>
 match Il S f args with
 |some (dI,e)=>if glob c "sorted" && S.no.contains "sorted" then bJ qK (gP r [e])else cT|some (b5,e)=>cT|none=>
 CK S F r c f args a
abbrev uE(c:Cs)(scope:Ω)(xs:List Str):Bool:=
 (scope.names.all λy=>decide<|y.2≠.cell)&&decide (scope.kind=.function)&&(scope.names.all λy=>decide (y.2≠.local)||decide (scope.names.lookup y.1=b3 .local)) &&
 (xs.all λx=>decide<|scope.names.lookup x=b3 .local)&&decide xs.Nodup&&(scope.names.all λy=>decide (y.2≠.free)||decide (c.ks.lookup y.1=b3 .cell)||decide (c.ks.lookup y.1=b3 .free)) &&
 (scope.names.all λy=>decide (y.2≠.local)||!(bX xs c.N).contains y.1)&&decide (bX xs c.N).Nodup&&(c.N.all λy=>!xs.contains y||decide (scope.names.lookup (tI y)=b4))
abbrev wL(c:Cs)(scope:Ω)(xs:List Str):Cs:=
 ⟨bX xs c.N++xs,scope.names.map λ(n,k)=>if(k==UV&&c.ks.lookup n==b3 .cell)then(n,bz)else(n,k)⟩
abbrev Iq(r:Expr->MT):List Expr->MT
 |[]=>fE|[t]=>r t|_=>rQ
abbrev o9(S:ĝ)(c:Cs)(x:Str)(e:Expr):Option (List Expr):=(z7 e).bind λg=>(nV g.1).bind λy=>if y=x/\(glob c x&&S.no.contains x&&g.2.all fF)=dI then b3 g.2 else b4
abbrev Wa(r:Expr->ME):List Expr->MI
 |[a]=>oS (gP r [a])|[a,b]=>mQ (gP r [a,b])|_=>Gp
abbrev Aa(S:ĝ)(r:Expr->ME)(c:Cs)(e:Expr):MI:=match o9 S c "range" e with
 |some b=>Wa r b|none=>match(o9 S c "reversed" e).bind o1 with
  |some a=>vW (gP r [a])|none=>cS<|r e
abbrev CN(S:ĝ)(r:Expr->ME)(c:Cs)(e:Expr):MI:=match(o9 S c "enumerate" e).bind o1 with
 |some a=>rZ (gP r [a])|none=>Aa S r c e
abbrev CO(S:ĝ)(r:Expr->ME)(c:Cs)(e:Expr):MI:=match(o9 S c "zip" e).bind o2 with
 |some (a,b)=>oY (gP r [a,b])|none=>CN S r c e
abbrev CP:Expr->Option (List Str)
 |.Name x _=>b3 [x]|.Tuple es _ _=>es.mapM nV|_=>b4
abbrev CQ:Expr->Nat->BD
 |.Tuple ..,n=>pW n|_,_=>tK
abbrev Ab(S:ĝ)(r:Expr->ME)(c:Cs)(tg e:Expr):MI:=match tg with
 |.Tuple ..=>CO S r c e|_=>Aa S r c e
abbrev qL(b:MI)(d:Cs->Expr->ME)(e:Cs->Expr->MT)(c:Cs)(elt tg iter:Expr)(ifs:List Expr)(scope:Ω):ME:=match CP tg with
 |some a=>if uE c scope a&&jC iter then gX (CQ tg a.length) b (Iq (e<|wL c scope a) ifs) (d (wL c scope a) elt)else cT|none=>cT
abbrev CS(S:ĝ)(a:Cs->Expr->ME)(b:Cs->Expr->MT)(c:Cs)(elt tg iter:Expr)(ifs:List Expr)(scope:Ω):ME:=
 match z8 S c tg iter with
 |some i=>t5 i (qL (eT<|a c iter) a b c elt tg iter ifs scope) cT|none=>
 qL (Ab S (a c) c tg iter) a b c elt tg iter ifs scope
abbrev Ir:Const->ME
 |.int i=>mC (.int i)|.bool b=>mC (.bl b)|.str s=>mC (.str s)|.none=>mC .non|_=>cT
abbrev Iu(m:ME):UnaryOp->ME
 |.USub=>nM m|.Not=>tE m|_=>cT
abbrev Iv(S:ĝ)(r:Expr->ME)(a:Expr):List mq->List Expr->ME
 |[op],[b]=>qJ op (jC b) (r a)<|r b
 |[op,op'],[b,b']=>(match jE op,jE op' with
  |some p,b3 q=>kR (iQ p) (iQ q) (r a) (r b)<|r b'
  |_,_=>cT)
 |_,_=>cT
abbrev Iw(S:ĝ)(c:Cs):List mq->List Expr->Option (List<|bM×D)
 |[.In],[b]=>CG S c b|_,_=>b4
abbrev CT(S:ĝ)(c:Cs)(r:Expr->ME)(a:Expr)(ops:List mq)(bs:List Expr):ME:=match Iw S c ops bs with
 |some b=>BX b (r a)|none=>Iv S r a ops bs
abbrev CU(r:Expr->ME):List (Option Expr)->List Expr->ME
 |[],[]=>iT|_,_=>cT
abbrev CV(S:ĝ)(r:Expr->ME)(c:Cs)(a b:Expr):ME:=match b with
 |.Slice lo hi b4 _=>rH (r a) (uB r lo) (uB r hi)|.Slice lo hi (b3 st) _=>qA (r a) (uB r lo) (uB r hi) (uB r<|b3 st)|b=>if rP b then(match CG S c a with|some d=>vO d (r b)|none=>aA bG (r a)<|r b)else cT
abbrev CW(r:Expr->ME)(es:List Expr):ME:=if es.all fF then cQ (gP r es)else cT
abbrev CY(r:Expr->ME)(es:List Expr):ME:=if es.all fF then cR (gP r es)else cT
abbrev CZ(S:ĝ)(r:Expr->ME)(c:Cs)(f:Expr)(args:List Expr)(d:Str)(b:Expr):ME:=match f with
 |.Name x _=>match args with
  |[a]=>if x="min"/\d="default"/\(glob c "min" && S.no.contains "min" && fF a)=dI then bJ t8 (aB (r a)<|aB (r b) aG)else cT|_=>cT
 |_=>cT
abbrev C0(S:ĝ)(F:Str->MF)(r:Expr->ME)(c:Cs)(f:Expr)(args:List Expr)(a:Į):List Φ->ME
 |[]=>CM S F r c f args a|[⟨b3 k1,e1,_⟩]=>CZ S r c f args k1 e1|_=>cT
abbrev Iy(S:ĝ)(a:Cs->Expr->ME)(b:Cs->Expr->MT)(c:Cs)(elt:Expr)(scope:Ω):List Comprehension->ME
 |[⟨tg,iter,ifs,0⟩]=>CS S a b c elt tg iter ifs scope|_=>cT
abbrev Iz(S:ĝ)(F:Str->MF)(d:Cs->Expr->ME)(e:Cs->Expr->MT)(c:Cs):Expr->ME
 |.Name x _=>CF S c x|.Constant v _ _=>Ir v|.BinOp a op b _=>Ih op (d c a) (d c b)|.UnaryOp op a _=>Iu (d c a) op|.Compare a ops bs _=>CT S c (d c) a ops bs|.BoolOp op vs _=>zY op (vs.map<|d c)|.IfExp t a b _=>iO (e c t) (d c a) (d c b)|.Tuple es _ _=>CW (d c) es|.List es _=>CY (d c) es|.Dict keys values _=>CU (d c) keys values|.Subscript a b _=>CV S (d c) c a b|.Call f args kws cpos=>C0 S F (d c) c f args cpos kws|.ListComp elt gs scope _=>Iy S d e c elt scope gs|_=>cT
abbrev wM(r:Expr->ME)(e:Expr):MT:=if BR e then c9 (r e)else rQ
abbrev C1(S:ĝ)(r:Expr->ME)(a:Expr)(ops:List mq)(bs:List Expr)(p:Į):MT:=match ops,bs with
 |[op],[b]=>a7<|qJ op (jC b) (r a)<|r b
 |[op,op'],[b,b']=>(match jE op,jE op' with
  |some p,b3 q=>a7<|kR (iQ p) (iQ q) (r a) (r b)<|r b'
  |_,_=>rQ)
 |ops,bs=>wM r<|.Compare a ops bs p
abbrev Wb(r:Expr->ME)(t:MT)(a:Expr)(p:Į):UnaryOp->MT
 |.Not=>t|op=>wM r<|.UnaryOp op a p
abbrev IA(S:ĝ)(b:Cs->Expr->ME)(d:Cs->Expr->MT)(c:Cs):Expr->MT
 |.BoolOp op vs _=>zZ op (vs.map<|d c)|.UnaryOp op a p=>Wb (b c) (jT<|d c a) a p op|.Compare a ops bs p=>C1 S (b c) a ops bs p|e=>wM (b c) e
abbrev tr(S:ĝ)(F:Str->MF):Nat->(Cs->Expr->ME)×(Cs->Expr->MT)
 |0=>(λ_ x=>cT,λ_ x=>rQ)|n+1=>(Iz S F (tr S F n).1 (tr S F n).2,IA S (tr S F n).1 (tr S F n).2)
structure ù(S:ĝ)(F:Str->MF)(k:Nat)(c:Cs)(X:Cx):Prop where
 N:X.N=c.N
 nd:X.N.Nodup
 ks:X.env.scope.names=c.ks
 kind:X.env.scope.kind=.function
 calm:X.calm=dI
 room:ç k X.A
 never:yf (Í X.prog X.w) X.A X.env X.xe
 fn:∀x n,S.fn.lookup x=b3 n->∃(f:Addr)(fd:q9)(ps:List Str),ķ X.prog X.w X.K X.mg X.base i8 k f fd ps (mK X.K n<|F x)/\X.mg x=b3 (.ref f)/\ϳ X.K (.ref f)=dI/\ĥ X.K fd ps []
 con:∀x d,S.con.lookup x=b3 d->∃v u,X.mg x=b3 u/\Ì v u/\∀π n H,Ú X.K π n H v d
 tab:∀x kvs,S.tab.lookup x=b3 kvs->ω X x kvs
 no:∀x,S.no.contains x=dI->X.mg x=b4
def Wc(ks:X.env.scope.names=c.ks)(h:glob c x=dI):Gl X x/\(x==("__debug__":Str))=false:=by unfold glob at h;rw[ð]at h;show⟨?_,by apply h.2⟩;change X.env.scope.names.lookup x=_;rw[ks];show of_decide_eq_true h.1
def We{X:Cx}(ks:X.env.scope.names=c.ks)(h:rF c x=dI):q8 X.env.scope x/\(x==("__debug__":Str))=b5/\(x==("__classdict__":Str))=false:=by
 unfold rF at h;rw[ð,ð,mU,mU]at h;obtain⟨⟨h1,a⟩,b⟩:=h;show⟨?_,by apply a,by apply b⟩;ext q8;rw[ks];rcases h1 with(h1|h1)|h1
 .show .inl<|of_decide_eq_true h1
 .show .inr<|.inl<|of_decide_eq_true h1
 .show .inr<|.inr<|of_decide_eq_true h1
def ù.gl(O:ù S F k c X)(h:glob c x=dI):Gl X x/\(x==("__debug__":Str))=false:=Wc O.ks h
def ù.vis(O:ù S F k c X)(h:rF c x=dI):q8 X.env.scope x/\(x==("__debug__":Str))=b5/\(x==("__classdict__":Str))=false:=We O.ks h
open _root_ in
def Wg(O:ù S F k c X)x pos:QE X (.Name x pos) (CF S c x):=by
 ext CF;split
 .rename_i h;let⟨h1,a,g⟩:=O.vis h;split
  .rename_i i hi;show b3m i (by rw[O.N];show wK hi) h1 a g
  .show cF
 split
 .rename_i h;let⟨h1,a⟩:=O.gl h;split
  .rename_i d hd;let⟨v,u,m,r,i⟩:=O.con x d hd;show⟨tD (e10 h1 m r a) i⟩
  .split
   .rename_i j;split
    .rename_i n o;let⟨b,e⟩:=VX o;show b2d (O.no x j) b h1 e a
    .show cF
   .show cF
 .show cF
def l6(a:∀e,QE X e (r e)):∀es,es.all fF=dI->QA X es (gP r es) es.length
 |[],_=>b1L|e::es,h=>by rw[ō,ð]at h;show b1I (a e) (l6 a es h.2) h.1
def IB(a:∀e,QE X e (r e))op pos:∀vs,QE X (.BoolOp op vs pos) (zY op<|vs.map r)
 |[]=>cF|[e]=>b1P (a e)|e::d::es=>by
  let b:=IB a op pos<|d::es;cases op with
  |And=>show b1O (a e) b|Or=>show b1N (a e) b
def IC(a:∀e,QT X e (r e))op pos:∀vs,QW X (.BoolOp op vs pos) (zZ op<|vs.map r)
 |[]=>a7Z|[e]=>by
  cases op with
  |And=>show b2S (a e)|Or=>show b2R<|a e
 |e::d::es=>by
  let b:=IC a op pos<|d::es;cases op with
  |And=>show b2Q (a e) b|Or=>show b2P (a e) b
def Wh(d:QE X a g)(e:QE X b h)op pos:QE X (.BinOp a op b pos) (Ih op g h):=by
 cases op with
 |Add=>show b4n d e|Sub=>show b4l d e|Mult=>show b4h d e|FloorDiv=>show b4e d e|Mod=>show b4c d e|Pow=>show b4b d e|_=>show cF
open _root_ in
def Wi(O:ù S F k c X)(d:QE X a g)(e:QE X b i)op pos:QE X (.Compare a [op] [b] pos) (qJ op (jC b) g i):=by
 cases op with
 |Eq=>show b1a O.room d e|NotEq=>show b1X O.room d e|Lt=>show b1U d e|LtE=>show b1T d e|Gt=>show b1R d e|GtE=>show b1Q d e|In=>
  dsimp[qJ];split
  .rename_i h;show Uo O.room d e h
  .show cF
 |NotIn=>
  dsimp[qJ];split
  .rename_i h;show Up O.room d e h
  .show cF
 |Is=>show b0Z d e|IsNot=>show b0Y d e
def ID:QT X e (a7 cT):=⟨λDo s σ H Q I h=>by
 let⟨i,j,g,d,b,R,E,a,k⟩:=h;ext a⟩
open _root_ in
def Wj(O:ù S F k c X)(d:QE X a g)(e:QE X b i)op pos:QT X (.Compare a [op] [b] pos) (a7<|qJ op (jC b) g i):=by
 cases op with
 |Eq=>show b2c O.room d e|NotEq=>show b2b O.room d e|Lt=>show b2Z d e|LtE=>show b2Y d e|Gt=>show b2X d e|GtE=>show b2W d e|In=>
  dsimp[qJ];split
  .rename_i h;show Uq O.room d e h
  .show ID
 |NotIn=>
  dsimp[qJ];split
  .rename_i h;show Ur O.room d e h
  .show ID
 |Is=>show b0R d e|IsNot=>show Ta d e
def wN(a:∀e,QE X e (r e)):∀o,QO X o (uB r o)
 |none=>b0o|some e=>b0n<|a e
def IE(O:ù S F k c X)(h:CG S c a=b3 kvs):∃x p,a=.Name x p/\ω X x kvs/\Gl X x/\(x==("__debug__":Str))=false:=by
 show bZ h ?_;clear h;intro x e g;let⟨p,rfl⟩:=uC e;by_cases b:glob c x=dI
 .rw[if_pos b]at g;let⟨h1,d⟩:=O.gl b;show⟨_,_,rfl,O.tab _ _ g,h1,d⟩
 .rw[if_neg b]at g;ext g
def Wl(O:ù S F k c X)(n:∀e,QE X e (r e))(h1:lQ o=dI)(i:(d.endLine==h.line)=dI)(j:QA X args (gP r args) args.length)(b:Ik m args.length=b3 g):QE X (.Call (.Attribute o m d) args [] h) (eB g (r o)<|gP r args):=by
 show fM b (λe g=>?_) λb=>?_
 .let⟨rfl,a⟩:=Ϣ e;ext g;cases args with
  |nil=>ext a|cons e p=>show yR PySem.F.slot_list_append PySem.F.type_list_append Fx b0K (n o) j h1 i<|by rw[a];decide
 show fM b (λe g=>?_) λb=>?_
 .let⟨rfl,a⟩:=Ϣ e;ext g;cases args with
  |nil=>ext a|cons e p=>show yR PySem.F.slot_list_extend PySem.F.type_list_extend b0m b0G (n o) j h1 i<|by rw[a];decide
 show fM b (λe g=>?_) λb=>?_
 .let⟨rfl,a⟩:=Ϣ e;ext g;cases args with
  |nil=>ext a|cons e p=>show yR PySem.F.slot_list_index PySem.F.type_list_index (Tx<|by have:=O.room.units;lia) Tu (n o) j h1 i<|by rw[a];decide
 show fM b (λe g=>?_) λb=>?_
 .let⟨rfl,a⟩:=Ϣ e;ext g;cases args with
  |nil=>ext a|cons e p=>show yR PySem.F.slot_list_pop PySem.F.type_list_pop b0X b0D (n o) j h1 i<|by rw[a];decide
 ext b
def Wm(O:ù S F k c X)(n:∀e,QE X e (r e))(h1:lQ o=dI)(i:(a.endLine==b.line)=dI)(j:QA X args (gP r args) args.length)(h:Pm.lookup (m,args.length)=b3 g):QE X (.Call (.Attribute o m a) args [] b) (fU g (r o)<|gP r args):=by
 show fM h (λe g=>?_) λh=>?_
 .let⟨rfl,d⟩:=Ϣ e;ext g;cases args with
  |nil=>ext d|cons e p=>show Cv SY PySem.F.type_dict_setdefault (UZ<|by have:=O.room.units;lia) UY (n o) j h1 i<|by rw[d];decide
 show fM h (λe g=>?_) λh=>?_
 .let⟨rfl,d⟩:=Ϣ e;ext g;cases args with
  |nil=>ext d|cons e p=>show Cv RY PySem.F.type_dict_get (UU<|by have:=O.room.units;lia) UT (n o) j h1 i<|by rw[d];decide
 show fM h (λe g=>?_) λh=>?_
 .let⟨rfl,d⟩:=Ϣ e;ext g;cases args with
  |nil=>ext d|cons e p=>show Cv SR PySem.F.type_dict_update (VW<|by have:=O.room.units;lia) VU (n o) j h1 i<|by rw[d];decide
 ext h
open _root_ in
def Wn(O:ù S F k c X)(u:∀e,QE X e (r e))f args b:QE X (.Call f args [] b) (CI S F r c f args b):=by
 ext CI;split
 .rename_i x p;split
  .rename_i i;rw[ð]at i;let⟨j,q⟩:=O.gl i.1;let h:=l6 u args i.2;split
   .rename_i n M;split
    .rename_i L;let⟨N,Q,R,w,d,H,s⟩:=O.fn x n M;subst L;cases args with
     |nil=>show b0A w O.room d H s j q|cons e J=>show b2f w O.room d H s h j q
    .show cF
   .skip;split
    .rename_i a;rw[ð]at a;split
     .rename_i g s;let⟨v,U,z,I,A,B,E⟩:=V3 (X:=X) O.calm O.room.units s;cases args with
      |nil=>show absurd a.2 ∅|cons e J=>
       rcases I with⟨id,rfl⟩|⟨T,rfl⟩
       .show Gk A B (O.no x a.1) z h j E q
       .show b2e A B (O.no x a.1) z h j E q
     .show cF
    .show cF
  .show cF
 .rename_i o m y;split
  .rename_i i;rw[ð,ð]at i;obtain⟨⟨h1,G⟩,K⟩:=i;let h:=l6 u args K;split
   .rename_i g d;unfold Im at d;show Wm O u h1 G h d
   split
   .rename_i g d;show Wl O u h1 G h d
   .skip
    .show cF
  .show cF
 .show cF
open _root_ in
def Wo(O:ù S F k c X)(j:∀e,QE X e (r e))f args a:QE X (.Call f args [] a) (CK S F r c f args a):=by
 ext CK;split
 .rename_i b e h;split
  .rename_i i;rw[ð,ð,ð,ð]at i;obtain⟨⟨⟨⟨n,o⟩,s⟩,u⟩,st⟩:=i;let q:=l6 j [e] (by rw[ō,st];rfl);show bZ h ?_;clear h;intro t h1 g;let⟨p,v,pos,rfl,rfl⟩:=Io h1;split at g
   .rename_i d;ext g;rw[d.1,d.2];show TM O.calm (O.no _ s) (O.no _ u) q (O.gl n).1 (O.gl o).1
   .ext g
  .show cF
 .show Wn O j f args a
def Wq{X:Cx}(nd:X.N.Nodup)(e:X.N=c.N)(ks:X.env.scope.names=c.ks)(h:uE c scope xs=dI):ł X.env.scope X.N scope xs/\xs.Nodup:=by
 unfold uE at h;rw[ð,ð]at h;obtain⟨⟨h,b⟩,s⟩:=h;let b:=of_decide_eq_true b;let d:∀y∈c.N,xs.contains y=dI->scope.names.lookup (tI y)=none:=λy a hc=>by have:=ϵ.mp s y a;rw[hc]at this;apply this
 dsimp[ð,ϵ,decide_eq_true_eq,mU,NB,List.contains_eq_mem,decide_eq_false_iff_not]at h;obtain⟨⟨⟨⟨⟨⟨h1,i⟩,j⟩,n⟩,q⟩,o⟩,p⟩:=h;show⟨⟨h1,i,λy a g=>(j y a).resolve_left λz=>z g,n,λy a u=>?_,λy a g=>?_,nd,by rw[e];show b,by rw[e];show d⟩,q⟩
 .rw[ks];rcases o y a with(z|z)|z
  .show absurd u z
  .show .inl z
  .show .inr z
 .rw[e];have:=(p y a).resolve_left λz=>z g;show this
def wO(O:ù S F k c X)(h:uE c scope xs=dI):ł X.env.scope X.N scope xs/\xs.Nodup:=Wq O.nd O.N O.ks h
def IH{N:List Str}(h:N.Nodup)(d:xs.Nodup)(g:∀x∈xs,x∉N):(N++xs).Nodup:=by rw[Ϻ];show⟨h,d,λa i b j e=>by subst e;show g _ j i⟩
def II{X:Cx}(Q:ł X.env.scope X.N scope xs/\xs.Nodup):(bX xs X.N++xs).Nodup:=IH Q.1.hnd Q.2 λx a=>Q.1.own (x,.local) (J0<|Q.1.here x a) rfl
def Wr{X:Cx}(a:X.env.scope.kind=.function)(ks:X.env.scope.names=c.ks)scope xs:(M9 scope X.env).names=(wL c scope xs).ks:=by
 ext M9 wL;dsimp;show Ţ λy x=>?_;let⟨n,b⟩:=y;dsimp;have:(X.env.scope.kind==ScopeKind.function)=true:=by rw[a];rfl
 rw[this,OH];change(if(b==UV&&X.env.scope.names.lookup n==b3 bz)=dI then _ else _)=_;rw[ks]
def ù.comp(O:ù S F k c X)(h:uE c scope xs=dI){C:Addr}:ù S F k (wL c scope xs) (dP X scope cl C (bX xs X.N++xs) s₀ H₀ b):=
 ⟨show bX xs X.N++xs=bX xs c.N++xs by rw[O.N],II<|wO O h,Wr O.kind O.ks scope xs,(wO O h).1.kind,O.calm,O.room,Rj,O.fn,O.con,λy a q=>⟨(O.tab y a q).ex⟩,O.no
  ⟩
def IJ(j:∀e,QT X e (r e)):∀es,QI X es (Iq r es)
 |[]=>b2N|[t]=>b2L<|j t
 |a::b::es=>⟨λg s u H Q I h=>by
   let⟨p,q,o,d,n,R,E,i,k⟩:=h;ext i⟩
def Ac(O:ù S F k c X)(h:o9 S c x e=b3 args):∃p pos,e=.Call (.Name x p) args [] pos/\Gl X x/\X.mg x=b4/\args.all fF=true:=by
 show bZ h ?_;clear h;intro g h1 i;show bZ i ?_;clear i;intro y d a;by_cases z:y=x/\(glob c x&&S.no.contains x&&g.2.all fF)=dI
 .rw[if_pos z]at a;ext a;let b:=z.2;rw[ð,ð]at b;let⟨pos,h1⟩:=Ii h1;let⟨p,d⟩:=uC d;show⟨p,pos,by rw[h1,d,z.1],(O.gl b.1.1).1,O.no _ b.1.2,b.2⟩
 .rw[if_neg z]at a;ext a
def IK(O:ù S F k c X)(n:∀e,QE X e (r e))e:QJ X e (Aa S r c e):=by
 ext Aa;cases h:o9 S c "range" e with
 |some o=>
  let⟨p,pos,rfl,h1,j,i⟩:=Ac O h;match o,i with
  |[],_=>show BW|[a],i=>show a8b h1 j (l6 n [a] i)|[a,b],i=>show a8a h1 j (l6 n [a,b] i)|[a,b,d],i=>show BW|_::_::_::_::_,_=>show BW
 |none=>
  cases g:(o9 S c "reversed" e).bind o1 with
  |some a=>show bZ g ?_;clear g;intro o q s;obtain rfl:=uD s;let⟨p,pos,rfl,h1,j,i⟩:=Ac O q;show TV h1 j (l6 n [a] i)|none=>show a8s<|n e
def Ws(O:ù S F k c X)(b:∀e,QE X e (r e))e:vy X e (CN S r c e):=by
 ext CN;cases h:(o9 S c "enumerate" e).bind o1 with
 |some a=>show bZ h ?_;clear h;intro n d g;obtain rfl:=uD g;let⟨p,pos,rfl,h1,i,j⟩:=Ac O d;show Tt h1 i (l6 b [a] j)|none=>show(IK O b e).t
def Wt(O:ù S F k c X)(a:∀e,QE X e (r e))e:vy X e (CO S r c e):=by
 ext CO;cases h:(o9 S c "zip" e).bind o2 with
 |some t=>show bZ h ?_;clear h;intro j b d;obtain rfl:=VY (a:=t.1) (b:=t.2) d;let⟨p,pos,rfl,h1,g,i⟩:=Ac O b;show Vo h1 g (l6 a [t.1,t.2] i)|none=>show Ws O a e
def C2(O:ù S F k c X)(a:∀e,QE X e (r e))tg e:PI X tg e (ϙ X.K<|Ab S r c tg e):=by
 cases tg with
 |Tuple=>show(Wt O a e).h _ _ _|_=>show(IK O a e).h _
def IL(h:jC iter=dI):∀x,uy iter env x=pure x:=by intro z;ext iter<;>first|rfl|ext h
def IM(a:X.N.Nodup):∀es xs n,es.mapM nV=b3 xs->(∀j x,xs[j]?=b3 x->X.N[n+j]?=b3 x/\X.env.scope.names.lookup x=b3 .local)->wg X es (rn n xs.length)
 |[],xs,n,h,hx=>by ext h;show Gm
 |e::es,xs,n,h,hx=>by rw[List.mapM_cons]at h;show bZ h ?_;clear h;intro x h1 h;show bZ h ?_;clear h;intro d b h;ext h;let⟨p,rfl⟩:=uC h1;rw[ņ,N9];let h0:=hx 0 x rfl;show Gn n a (IM a es d (n+1) b λj z c=>?_) h0.1 (.inl h0.2)<|.inr h0.2;have:=hx (j+1) z c;rw[<- Nat.add_assoc,Nat.add_right_comm]at this;show this
def Wu{c:Cs}(Q:ł X.env.scope X.N scope [x]/\[x].Nodup)cl C s₀ H₀ a:PG (dP X scope cl C (bX [x] X.N++[x]) s₀ H₀ a) (.Name x p) (Δ X.K<|gB X.N.length tK):=by let d:=II Q;let b:(M9 scope X.env).names.lookup x=b3 .local:=Qa (Q.1.here x ∅);show a8V (X:=dP X scope cl C (bX [x] X.N++[x]) s₀ H₀ a) (by change(bX [x] X.N++[x]).length=_;rw[ă,rK];rfl)<|F8 (X:=dP X scope cl C (bX [x] X.N++[x]) s₀ H₀ a) d (by change(bX [x] X.N++[x])[X.N.length]?=_;rw[<- rK [x] X.N];simp) (.inl b)<|.inr b
open _root_ in
def Ad(O:ù S F k c X)(a:CP tg=b3 xs)(h:uE c scope xs=dI)cl C s₀ H₀ b:
  PG (dP X scope cl C (bX xs X.N++xs) s₀ H₀ b) tg (Δ X.K<|gB X.N.length<|CQ tg xs.length)/\∀d o z,CQ tg xs.length d o=b3 z->z.length=xs.length:=by
 let⟨St,g⟩:=wO O h;let u:(bX xs X.N++xs).Nodup:=IH St.hnd g λx a=>St.own (x,.local) (J0<|St.here x a) rfl;let e:∀x∈xs,(M9 scope X.env).names.lookup x=b3 .local:=λx a=>Qa<|St.here x a;unfold CP at a;split at a
 .rename_i x p;ext a;show⟨Wu (c:=c) ⟨St,g⟩ cl C s₀ H₀ b,λd o z n=>?_⟩;ext n;rfl
 .rename_i s w pt;show⟨a8R (X:=dP X scope cl C (bX xs X.N++xs) s₀ H₀ b) (by change(bX xs X.N++xs).length=_;rw[ă,rK]) (BU (X:=dP X scope cl C (bX xs X.N++xs) s₀ H₀ b) (IM (X:=dP X scope cl C (bX xs X.N++xs) s₀ H₀ b) u s xs X.N.length a λj x q=>⟨?_,e x<|Ĵ q⟩) O.calm).h,λd o z n=>?_⟩
  .change(bX xs X.N++xs)[X.N.length+j]?=b3 x;rw[jf<|by rw[rK];lia,rK,show X.N.length+j-X.N.length=j by lia];show q
  .let⟨y,h1,i⟩:=Ś.mp n;split at i
   .rename_i v;ext i;rw[Ã];show v
   .ext i
 .ext a
open _root_ in
def Wv(O:ù S F k c X)(i:∀e,QE X e (r e))f args a:QE X (.Call f args [] a) (CM S F r c f args a):=by
 ext CM;split
 .rename_i q h;split
  .rename_i b;rw[ð,ð,ð,ð,ð]at b;obtain⟨⟨⟨⟨⟨j,n⟩,u⟩,v⟩,st⟩,s⟩:=b;show bZ h ?_;clear h;intro t h1 g;split at g
   .rename_i d;let⟨p,w,pos,rfl,rfl⟩:=Io h1;rw[d.1,d.2,V8 g];show U5 O.calm O.room.units (O.no _ u) (O.no _ v) (O.gl j).1 (O.gl n).1 (i _) st s
   .ext g
  .show cF
 split
 .rename_i e h;split
  .rename_i b;rw[ð]at b;let⟨p,rfl,rfl,o⟩:=V6 h;show Gk (UP O.calm) V4 (O.no _ b.2) PR (l6 i _ o) (O.gl b.1).1 ⋯ (O.gl b.1).2
  .show cF
 .show cF
 show Wo O i _ _ _
open _root_ in
def C3(u:∀c X,ù S F k c X->∀e,QE X e (o c e))(v:∀c X,ù S F k c X->∀e,QT X e (p c e))c X(O:ù S F k c X)elt tg iter ifs scope pos(hi:PI X tg iter (ϙ X.K n)):QE X (.ListComp elt [⟨tg,iter,ifs,0⟩] scope pos) (qL n o p c elt tg iter ifs scope):=by
 ext qL;split
 .rename_i y j;split
  .rename_i h;rw[ð]at h;show⟨λg s x H Q I q=>?_⟩;show a8M ((wO O h.1).1.ok I.ok) O.calm hi (λd w z=>(Ad O j h.1 [] 0 s H []).2 d w z) (λC b a i=>(Ad O j h.1 _ C b a i).1) (λC b a i=>(IJ (v _ _<|O.comp h.1) _).h) (λC b a i=>(u _ _ (O.comp h.1) _).h) (IL h.2) g s x H Q I q
  .show cF
 .show cF
def Ww(a:∀c X,ù S F k c X->∀e,QE X e (d c e))(b:∀c X,ù S F k c X->∀e,QT X e (g c e))c X(O:ù S F k c X)elt tg iter ifs scope pos:QE X (.ListComp elt [⟨tg,iter,ifs,0⟩] scope pos) (CS S d g c elt tg iter ifs scope):=by
 ext CS;split
 .show UJ (C3 a b c X O elt tg iter ifs scope pos<|(Ct<|a c X O iter).h tg) cF
 show C3 a b c X O elt tg iter ifs scope pos<|C2 O (a c X O) tg iter
def Wx v n p:QE X (.Constant v n p) (Ir v):=by ext v<;>first|show b3l|show b3j|show b3i|show b4o|show cF
def Wz{r:Expr->ME}(b:∀e,QE X e (r e))op a p:QE X (.UnaryOp op a p) (Iu (r a) op):=by ext op<;>first|show b4S (b _)|show b1c (b _)|show cF
def WA(O:ù S F k c X)(d:∀e,QE X e (r e))a ops bs p:QE X (.Compare a ops bs p) (Iv S r a ops bs):=by
 match ops,bs with
 |[op],[b]=>show Wi O (d _) (d _) _ _|[op,op'],[b,b']=>
  change QE X _ (match jE op,jE op' with
  |some p,b3 q=>kR (iQ p) (iQ q) (r a) (r b)<|r b'
  |_,_=>cT)
  cases h1:jE op with
  |none=>show cF|some p=>cases g:jE op' with
   |none=>show cF|some q=>show b0b h1 g (d _) (d _)<|d _
 |[],_=>show cF|[_],[]=>show cF|[_],_::_::_=>show cF|[_,_],[]=>show cF|[_,_],[_]=>show cF|[_,_],_::_::_::_=>show cF|_::_::_::_,_=>show cF
def WB(O:ù S F k c X)(d:∀e,QE X e (r e))a ops bs p:QE X (.Compare a ops bs p) (CT S c r a ops bs):=by
 ext CT;cases h:Iw S c ops bs with
 |none=>show WA O d a ops bs p|some j=>
  match ops,bs,h with
  |[.In],[b],h=>let⟨x,q,rfl,T,g,i⟩:=IE O h;show a7L T g i<|d _
def WC(O:ù S F k c X)(a:∀e,QE X e (r e))ks vs p:QE X (.Dict ks vs p) (CU r ks vs):=by
 ext CU;try split
 .show L0I
 .show cF
open _root_ in
def WD(O:ù S F k c X)(d:∀e,QE X e (r e))a b p:QE X (.Subscript a b p) (CV S r c a b):=by
 ext CV;split
 .show b0k (d _) (wN d _)<|wN d _
 .show To (d _) (wN d _) (wN d _)<|wN d _
 .split
  .rename_i h;split
   .rename_i n j;let⟨x,p,rfl,T,g,i⟩:=IE O j;show a7V T g i (d _) h
   .show Um O.room (d _) (d _) h
  .show cF
open _root_ in
def pH(a:∀e,QE X e (r e))e:QT X e (wM r e):=by
 ext wM;split
 .rename_i h;show b0B (a _) h
 .show yM
def WE(O:ù S F k c X)(d:∀e,QE X e (r e))a ops bs p:QT X (.Compare a ops bs p) (C1 S r a ops bs p):=by
 match ops,bs with
 |[op],[b]=>show Wj O (d _) (d _) _ _|[op,op'],[b,b']=>
  ext C1;dsimp;cases h1:jE op with
  |none=>show yM|some p=>cases g:jE op' with
   |none=>show yM|some q=>show b0a h1 g (d _) (d _)<|d _
 |[],_=>show pH d _|[_],[]=>show pH d _|[_],_::_::_=>show pH d _|[_,_],[]=>show pH d _|[_,_],[_]=>show pH d _|[_,_],_::_::_::_=>show pH d _|_::_::_::_,_=>show pH d _
open _root_ in
def WG(a:∀e,QE X e (r e))es n p:QE X (.Tuple es n p) (CW r es):=by
 ext CW;split
 .rename_i h;show b1H<|l6 a _ h
 .show cF
open _root_ in
def WH(a:∀e,QE X e (r e))es p:QE X (.List es p) (CY r es):=by
 ext CY;split
 .rename_i h;show b0t<|l6 a _ h
 .show cF
open _root_ in
def WI(O:ù S F k c X)(b:∀e,QE X e (r e))f args d a g p:QE X (.Call f args [⟨b3 d,a,g⟩] p) (CZ S r c f args d a):=by
 ext CZ;cases f with
 |Name x i=>
  dsimp;split
  .split
   .rename_i h;let⟨rfl,rfl,h⟩:=h;rw[ð,ð]at h;show Vy O.calm O.room.units (O.gl h.1.1).1 (O.no _ h.1.2) (b _) (b _) h.2
   .show cF
  .show cF
 |_=>show cF
def WJ(O:ù S F k c X)(b:∀e,QE X e (r e))f args a p:QE X (.Call f args a p) (C0 S F r c f args p a):=by
 ext C0;split
 .show Wv O b _ _ _
 .show WI O b _ _ _ _ _ _
 .show cF
def IP(E:∀c X,ù S F k c X->∀e,QE X e (q c e))(G:∀c X,ù S F k c X->∀e,QT X e (s c e))c X(O:ù S F k c X):
  (∀e,QE X e (Iz S F q s c e))/\∀e,QT X e (IA S q s c e):=by
 let d:=E c X O;let y:=G c X O;constructor
 .intro e;cases e with
  |Name x p=>show Wg O _ _|Constant v n p=>show Wx v n p|BinOp a i b p=>show Wh (d _) (d _) _ _|UnaryOp i a p=>show Wz d i a p|Compare a g bs p=>show WB O d a g bs p|BoolOp i A p=>show IB d _ _ _|IfExp t a b p=>show b1M (y _) (d _) (d _)|Tuple w n p=>show WG d w n p|List w p=>show WH d w p|Dict H A p=>show WC O d H A p|Subscript a b p=>show WD O d a b p|Call f j z o=>show WJ O d f j z o|ListComp u B h p=>
   change QE X _ (Iy S q s c u h B);match B with
   |[]=>show cF|[⟨_,_,_,.ofNat 0⟩]=>show Ww E G c X O _ _ _ _ _ _|[⟨_,_,_,.ofNat<|_+1⟩]=>show cF|[⟨_,_,_,.negSucc _⟩]=>show cF|⟨_,_,_,.ofNat 0⟩::_::_=>show cF|⟨_,_,_,.ofNat<|_+1⟩::_::_=>show cF|⟨_,_,_,.negSucc _⟩::_::_=>show cF
  |_=>show cF
 .intro e;cases e with
  |BoolOp i A p=>show b2O (IC y _ _ _)|UnaryOp i a p=>
   ext i;case Not=>show b2U<|y _
   all_goals show pH d _
  |Compare a g bs p=>show WE O d a g bs p|_=>show pH d _
def C4:∀n,(∀c X,ù S F k c X->∀e,QE X e ((tr S F n).1 c e))/\∀c X,ù S F k c X->∀e,QT X e ((tr S F n).2 c e)
 |0=>⟨λc X O e=>cF,λc X O e=>yM⟩|n+1=>by let a:=C4 (S:=S) (F:=F) (k:=k) n;show⟨λc X O e=>(IP a.1 a.2 c X O).1 e,λc X O e=>(IP a.1 a.2 c X O).2 e⟩
abbrev Ae:MG:=λ_ x x=>b4
abbrev wQ(c:Cs):List Expr->Option (List Nat)
 |[]=>b3 []|.Name x _::r=>if qI c x then(qH x c.N).bind λi=>(wQ c r).map (i::·)else b4|_=>b4
abbrev uF(c:Cs):Expr->MG
 |.Name x _=>if qI c x then(match qH x c.N with|some i=>cL i|none=>Ae)else Ae|.Tuple es _ _=>match wQ c es with|some a=>dD a|none=>Ae
 |_=>Ae
abbrev nW(r:Stmt->MS):List Stmt->MS
 |[]=>bV|[s]=>r s|s::t=>aL (r s)<|nW r t
abbrev C5(S:ĝ)(E:Cs->Expr->ME)(T:Cs->Expr->MT)(c:Cs)(i:Nat):Expr->MS
 |.ListComp elt [⟨tg,iter,ifs,0⟩] scope _=>match z8 S c tg iter with
  |some j=>gO j (fR i<|qL (eT<|E c iter) E T c elt tg iter ifs scope) dQ|none=>fR i<|qL (Ab S (E c) c tg iter) E T c elt tg iter ifs scope
 |_=>dQ
abbrev C6(S:ĝ)(E:Cs->Expr->ME)(T:Cs->Expr->MT)(c:Cs)(tg e:Expr):MS:=match tg with
 |.Name y _=>if qI c y then(match qH y c.N with
   |some i=>if oR e then fR i (E c e)else C5 S E T c i e
   |none=>dQ)else dQ
 |.Tuple es _ _=>if BV e then(match wQ c es with|some a=>iE (E c e) (dD a)|none=>dQ)
   else dQ
 |.Subscript o i _=>if oR e&&rP i then eM (E c o) (E c i) (E c e)else dQ|_=>dQ
abbrev uG:Nat:=1000000000
abbrev C7(S:ĝ)(c:Cs)(tg:Expr):Expr->Option (Nat×Expr×Į×Į)
 |.Call g [] [] cpos=>match g with
  |.Attribute o m apos=>if m="values" then(z8 S c tg o).map λj=>(j,o,apos,cpos)else b4|_=>b4
 |_=>b4
open _root_ in
def WK(h:C7 S c tg e=b3 q):e=.Call (.Attribute q.2.1 "values" q.2.2.1) [] [] q.2.2.2:=by
 unfold C7 at h;split at h
 .split at h
  .split at h
   .rename_i a;let⟨j,_,rfl⟩:=ţ.mp h;rw[a]
   .ext h
  .ext h
 .ext h
abbrev C8(tg:Expr):Expr->Option (Expr×Į×Į)
 |.Call g [] [] cpos=>match g with
  |.Attribute o m apos=>match tg with
   |.Tuple ..=>if m="items" then b3 (o,apos,cpos)else b4|_=>b4
  |_=>b4
 |_=>b4
open _root_ in
def WL(h:C8 tg e=b3 q):e=.Call (.Attribute q.1 "items" q.2.1) [] [] q.2.2/\∃es b p,tg=.Tuple es b p:=by
 unfold C8 at h;split at h
 .split at h
  .split at h
   .split at h
    .rename_i a;ext h;rw[a];show⟨rfl,_,_,_,rfl⟩
    .ext h
   .ext h
  .ext h
 .ext h
abbrev IQ(S:ĝ)(E:Cs->Expr->ME)(T:Cs->Expr->MT)(c:Cs)(r:Stmt->MS):Stmt->MS
 |.Return (b3 e) _=>aM (E c e)|.Return b4 _=>aM (mC .non)|.If t a b _=>bK (T c t) (nW r a) (nW r b)|.Assign [tg] e _=>C6 S E T c tg e|.Expr e _=>if oR e then dX (E c e)else dQ|.For tg iter body [] _=>if jC iter then
  (match C8 tg iter with
  |some q=>if lQ q.1&&(q.2.1.endLine==q.2.2.line)then cA (wF<|E c q.1) (uF c tg) (nW r body)else dQ|none=>
  (match C7 S c tg iter with
  |some q=>if lQ q.2.1&&(q.2.2.1.endLine==q.2.2.2.line)then gO q.1 (cA (t6<|E c q.2.1) (uF c tg)<|nW r body) dQ else dQ|none=>
  (match z8 S c tg iter with
  |some j=>gO j (cA (eT<|E c iter) (uF c tg)<|nW r body) dQ
  |none=>cA (Ab S (E c) c tg iter) (uF c tg)<|nW r body)
  )
  )
  else dQ
 |.While t body [] _=>tT uG (T c t) (nW r body)|.Pass _=>bV|_=>dQ
abbrev C9(S:ĝ)(F:Str->MF)(m:Nat)(c:Cs):Nat->Stmt->MS
 |0=>λ_=>dQ|n+1=>IQ S (tr S F m).1 (tr S F m).2 c<|C9 S F m c n
def WM{X:Cx}(ks:X.env.scope.names=c.ks)(h:qI c x=dI):L2.Loc X.env.scope x:=by unfold qI at h;rw[mU]at h;ext L2.Loc;rw[ks];show h.imp of_decide_eq_true of_decide_eq_true
def ù.own(O:ù S F k c X)(h:qI c x=dI):L2.Loc X.env.scope x:=WM O.ks h
open _root_ in
def Dd(O:ù S F k c X)(b:∀x,X.fn x=dI):∀es a,wQ c es=b3 a->wg X es a
 |[],a,h=>by ext h;show Gm
 |e::es,a,h=>by
  cases e with
  |Name x p=>
   unfold wQ at h;split at h
   .rename_i g;show bZ h ?_;clear h;intro i h1 h;show cE h ?_;clear h;intro j d h;subst h;show Gn i O.nd (Dd O b es j d) (by rw[O.N];show wK h1) (O.own g)<|.inl<|b x
   .ext h
  |_=>ext h
open _root_ in
def Af(O:ù S F k c X)(a:∀x,X.fn x=dI)e:QG X e (uF c e):=by
 ext uF;split
 .split
  .rename_i b;split
   .rename_i i hi;show b2m i O.nd (by rw[O.N];show wK hi) (O.own b)<|.inl<|a _
   .show yN λ_ y y=>rfl
  .show yN λ_ y y=>rfl
 .split
  .rename_i d hi;show BU (Dd O a _ d hi) O.calm
  .show yN λ_ y y=>rfl
 .show yN λ_ y y=>rfl
def pI(a:∀s,QS X s (r s)):∀b,QB X b (nW r b)
 |[]=>b2B|[s]=>b1t (a s)|s::t::ts=>b1u (a s)<|pI a<|t::ts
def WN:
  ∃b,fu (.ListComp elt [⟨tg,iter,ifs,0⟩] scope pos) (b3<|.Name y py) n env=pure b/\(b=dI->env.kindOf y=b3 .local):=by
 show⟨env.blockKind==.function&&env.kindOf y==b3 .local&&py.line==pos.line&&!(scope.names.any λ(n,k)=>n==y&&(k==.local||k==.cell)),rfl,λh=>?_⟩;dsimp[ð,beq_iff_eq]at h;show h.1.1.2
open _root_ in
def IT(O:ù S F k c X)(J:∀x,X.fn x=dI)(w:∀c X,ù S F k c X->∀e,QE X e (E c e))(A:∀c X,ù S F k c X->∀e,QT X e (T c e))(hi:X.N[i]?=b3 y)(K:qI c y=dI)elt tg iter ifs scope pos(o:PI X tg iter (ϙ X.K G)):QS X (.Assign [.Name y py] (.ListComp elt [⟨tg,iter,ifs,0⟩] scope pos) j) (fR i<|qL G E T c elt tg iter ifs scope):=by
  let⟨b,n,v⟩:=WN (elt:=elt) (tg:=tg) (iter:=iter) (ifs:=ifs) (scope:=scope) (pos:=pos) (py:=py) (y:=y) (n:=j.line) (env:=X.env);cases b with
  |false=>show⟨FT O.nd hi (O.own K) (C3 w A c X O elt tg iter ifs scope pos o).h n<|.inl<|J y⟩|true=>
   ext qL;split
   .rename_i N B;split
    .rename_i h;rw[ð]at h;show⟨λp s M H D I q=>?_⟩;show a8D ((wO O h.1).1.ok I.ok) O.nd O.calm o (λd L z=>(Ad O B h.1 [] 0 s H []).2 d L z) (λC g a u=>(Ad O B h.1 _ C g a u).1) (λC g a u=>(IJ (A _ _<|O.comp h.1) _).h) (λC g a u=>(w _ _ (O.comp h.1) _).h) (IL h.2) hi (v rfl) n p s M H D I q
    .show G8
   .show G8
def WO(O:ù S F k c X)(g:∀x,X.fn x=dI)(b:∀c X,ù S F k c X->∀e,QE X e (E c e))(d:∀c X,ù S F k c X->∀e,QT X e (T c e))(hi:X.N[i]?=b3 y)(h:qI c y=dI)e:QS X (.Assign [.Name y py] e a) (C5 S E T c i e):=by
 ext C5;split
 .split
  .show Cq (IT O g b d hi h _ _ _ _ _ _<|(Ct<|b c X O _).h _) fT
  .show IT O g b d hi h _ _ _ _ _ _<|C2 O (b c X O) _ _
 .show fT
open _root_ in
def WQ(O:ù S F k c X)(d:∀x,X.fn x=dI)(b:∀c X,ù S F k c X->∀e,QE X e (E c e))(n:∀c X,ù S F k c X->∀e,QT X e (T c e))tg e pos:
  QS X (.Assign [tg] e pos) (C6 S E T c tg e):=by
 ext C6;split
 .split
  .rename_i j;split
   .rename_i i hi;let a:=wK hi;rw[<- O.N]at a;split
    .rename_i g;show b1g i O.nd (b c X O e) g a (O.own j)<|.inl<|d _
    .show WO O d b n a j e
   .show fT
  .show fT
 .split
  .rename_i g;split
   .rename_i o hi;show a9E (b c X O e) (BU (Dd O d _ o hi) O.calm) g
   .show fT
  .show fT
 .split
  .rename_i h;rw[ð]at h;show Us O.room (b c X O _) (b c X O _) (b c X O _) h.1
  .show fT
 .show fT
open _root_ in
def WR(O:ù S F k c X)(u:∀x,X.fn x=dI)(g:∀c X,ù S F k c X->∀e,QE X e (E c e))(w:∀c X,ù S F k c X->∀e,QT X e (T c e))(j:∀s,QS X s (r s))st:
  QS X st (IQ S E T c r st):=by
 cases st with
 |Return o p=>
  cases o with
  |none=>show a9a|some e=>show b1k<|g c X O _
 |If t a b p=>show b1h (w c X O _) (pI j _) (pI j _)|Assign z e p=>
  cases z with
  |nil=>show fT|cons H I=>
   cases I with
   |nil=>show WQ O u g w _ _ _|cons _ _=>show fT
 |Expr e p=>
  change QS X _ (if oR e then dX (E c e)else dQ);split
  .rename_i h;show b1j (g c X O _) h
  .show fT
 |For H v n d p=>
  cases d with
  |cons _ _=>show fT|nil=>
   change QS X _ (if jC v then _ else dQ);split
   .rename_i h;split
    .rename_i q y;split
     .rename_i i;rw[ð]at i;let⟨e,B,G,pt,A⟩:=WL y;rw[e]at h ⊢;subst A;show zA ((Vt (g c X O _) i.1 i.2).h B G pt) (Af O u _) (pI j _) O.never O.calm h
     .show fT
    split
    .rename_i q y;split
     .rename_i i;rw[ð]at i;let e:=WK y;rw[e]at h ⊢;show Cq (zA ((Vb (g c X O _) i.1 i.2).h _) (Af O u _) (pI j _) O.never O.calm h) fT
     .show fT
    split
    .show Cq (zA ((Ct<|g c X O _).h _) (Af O u _) (pI j _) O.never O.calm h) fT
    show zA (C2 O (g c X O) _ _) (Af O u _) (pI j _) O.never O.calm h
   .show fT
 |While t n d p=>
  cases d with
  |nil=>show a9f _ (w c X O _) (pI j _) O.never|cons _ _=>show fT
 |Pass p=>show b1r|_=>show fT
def IU(O:ù S F k c X)(a:∀x,X.fn x=dI)m:∀n st,QS X st (C9 S F m c n st)
 |0,_=>fT|n+1,st=>WR O a (C4 m).1 (C4 m).2 (IU O a m n) st
abbrev fH(st:Stmt):List Str:=(lE st).args.map (·.arg)
abbrev qM(st:Stmt):List Str:=fH st++(dO st).names.filterMap λy=>if(y.2==NameKind.local||y.2==bz)&&!(fH st).contains y.1 then b3 y.1 else b4
abbrev qN(st:Stmt):Bool:=
 decide ((dO st).kind=.function)&&!(dO st).isCoroutine&&!(dO st).isGenerator&&decide (qM st).Nodup &&
 ((fH st).all λx=>decide ((dO st).names.lookup x=b3 .local)||decide ((dO st).names.lookup x=b3 .cell))&&((dO st).names.all λy=>decide<|y.2≠.free)
def WS(h:qN st=dI):Ĩ (qM st) (fH st) (dO st):=by unfold qN at h;dsimp[ð,decide_eq_true_eq,NB,ϵ,mU]at h;obtain⟨⟨⟨⟨⟨h1,a⟩,b⟩,c⟩,d⟩,e⟩:=h;show⟨h1,a,b,c,by ext qM;simp,d,e⟩
abbrev IV:Nat:=40
abbrev IW:Nat:=40
noncomputable abbrev lk(_:ĝ)(ds:List (Str×Stmt))(x:Str):Option Stmt:=ds.lookup x
abbrev De(S:ĝ)(F:Str->MF)(st:Stmt):MF:=Bz (qM st).length<|nW (C9 S F IV ⟨qM st,(dO st).names⟩ IW)<|iL st
abbrev mV(S:ĝ)(ds:List (Str×Stmt)):Nat->Str->MF
 |0,_=>λ_ y=>b4|k+1,x=>match lk S ds x with
  |none=>λ_ y=>b4|some st=>De S (mV S ds k) st
structure ϊ(K:Õ)(mg:Str->Option Value)(x:Str)(st:Stmt):Prop where
 ex:∃f fd,ϩ K x x st f fd/\mg x=b3 (.ref f)/\ĥ K fd (fH st) []
structure Ŧ(P:Ť)(w:į)(K:Õ)(mg:Str->Option Value)(S:ĝ)(ds:List (Str×Stmt)):Prop where
 fns:∀x n,S.fn.lookup x=b3 n->∃st,ds.lookup x=b3 st/\(fH st).length=n
 defs:∀x st,ds.lookup x=b3 st->ϊ K mg x st/\qN st=dI
 con:∀x d,S.con.lookup x=b3 d->∃v u,mg x=b3 u/\Ì v u/\∀π n H,Ú K π n H v d
 tab:∀x kvs,S.tab.lookup x=b3 kvs->∃(p:Addr)(vs:List (bM×V))(ws:List (bM×Value)),mg x=b3 (.ref p)/\(p==ļ)=b5/\(∀h:í,K.In h->h.DictOf (jS P w) p ws)/\KV vs ws/\∀π n H,ŝ K π n H vs kvs
 no:∀x,S.no.contains x=dI->mg x=b4
def IX(h:ds.lookup x=b3 st):lk S ds x=b3 st:=by ext lk;rw[h]
def Ŧ.sc(T:Ŧ P w K a S ds)(h:lk S ds x=b3 st):qN st=true:=(T.defs _ _ h).2
def WT(T:Ŧ P w K u S ds)k:∀x st J q f j,lk S ds x=b3 st->ϩ K J q st f j->
  ķ P w K u base i8 k f j (fH st) (mK K (fH st).length<|mV S ds k x):=by
 induction k using Nat.strongRecOn with
 |_ k o=>
 intro x st J q f j G U;cases k with
 |zero=>show⟨λvs H Q E h=>h.1,λA outer s H z us vs Q E I he hb hv Y=>by
   let⟨_,π,M,μ,d,μ',R,i,X,kc⟩:=Y;ext X⟩
 |succ k=>
  let ih:=o k<|Ϧ k;let e:mV S ds (k+1) x=De S (mV S ds k) st:=by change(match lk S ds x with|none=>_|some st=>De S (mV S ds k) st)=_;rw[G]
  rw[e];let c:=WS<|T.sc G;show a9D U c (by ext qM;simp) rfl λg A outer s H E I=>?_;let O:ù S (mV S ds k) k ⟨qM st,(dO st).names⟩ (oN i8 P w K u base (qM st) q (dO st) f g A outer s H E).nox:=by
   show⟨rfl,c.nd,rfl,c.kind,rfl,I,Rj,λy n Z=>?_,T.con,λy p q=>⟨T.tab y p q⟩,T.no
    ⟩
   .let⟨a,h1,N⟩:=T.fns y n Z;let⟨B,b,v,m',L⟩:=(T.defs y a h1).1.ex;subst N;show⟨B,b,fH a,ih y a _ _ B b (IX h1) v,m',v.kp,L⟩
  show pI (IU O (λ_=>rfl) IV IW)<|iL st
def WU(T:Ŧ P w K b S ds)k x st f a(d:ds.lookup x=b3 st)(c:ϩ K x x st f a):
  ķ P w K b base i8 k f a (fH st) (mK K (fH st).length<|mV S ds k x):=WT T k x st x x f a (IX d) c
def IY:∀{ns:List Int}{b},PX (ns.map su)<=b->∀n∈ns,ŵ n<=b
 |[],_,_,n,a=>nomatch a|m::ns,b,h,n,a=>by
  let e:PX ((m::ns).map su)=Rz (.int m)+1+PX (ns.map su):=rfl;let c:Rz (.int m)=ŵ m:=rfl;rw[e,c]at h;rcases ĉ.mp a with rfl|a
  .lia
  .show IY (b:=b) () n a
section
open PySem PySem.W PySem.Calls PyProof.Rows
def WV{l:Qz}(T:l.most=b3 n)(x:d.params.defaults=[])(call:∀w s₀ b s A g o B p c a(vs:gw)ns,
   Ground q loose [] XP w s₀ s A b.heap->YP w b.heap->
   b.heap.get? g=b3 o->o.data=.func (docDef d.name d.params d.body d.scope B p c)->b.heap.CodeRec p d.name->s d.name=b3 (.ref g)->
   b.heap.get? a=b3 {cls:=.type "list",data:=.seq vs.toArray}->ų vs ns->ns.length<=n->(∀m∈ns,ŵ m<=2^20)->b.gens=#[]->
   ο (Í l.prog w) ju (.call (.ref g) ⟨[.ref a],[]⟩) (λr u=>r=.ok (.ret<|.bool dI)/\OldK b.heap u.heap/\u.os=b.os/\fc u.gens) b):
  RJ q loose XP YP l.row.toRowW d [] (λf vs=>Q2 f vs):=by
 intro w s₀ b s A G Y g o B p c J kV U hd v H y O E I as k h Z z Q;obtain rfl:J=.none:=Dflts.none H x;obtain rfl:kV=.none:=Dflts.noKw H;let⟨a,vs,ns,rfl,rfl,j,e,i⟩:=Att.script_of T k z;let N:∀m∈ns,ŵ m<=2^20:=by
  let h1:SW (.list<|ns.map su)=true:=by have:=h;unfold b4m at this;apply this
  unfold SW at h1;rw[ð]at h1;show IY<|of_decide_eq_true h1.2
 show enter_call<|MR (call w s₀ b s A g o B p c a vs ns G Y U (fd_plain hd) v y j e i N O) λr u X=>?_;let⟨rfl,K,L,M⟩:=X;show⟨.inl ⟨.bool dI,.bool dI,[],rfl,λ_=>rfl,.bool dI,Att.post_true l _,λ_=>⟨PN,λ_ R=>(nomatch R)⟩⟩,K,L,M⟩
end
def walkM{l:Qz}{K:ϑ->Õ}(hn:l.most=b3 63)(L:d.params.defaults=[])(hr:ç k ju)(hY:∀w h,YP w h->(K w.params).In h)(hl:ds.lookup d.name=b3 st)(hx:fH st=[x])(T:∀w B h,(K w.params).In h->h.Ns Ų B->Ŧ l.prog w (K w.params) B S ds/\∃f I,ϩ (K w.params) d.name d.name st f I/\B d.name=b3 (.ref f)/\∀s u,kh s I ⟨[u],[]⟩ [(x,u)])(M:∀b:List Int,b.length<=63->(∀m∈b,ŵ m<=2^20)->∃p,mV S ds k d.name [.rol<|b.map D.int] []=b3 (.bl dI,p)):
  RJ q loose XP YP l.row.toRowW d [] (λf Z=>Q2 f Z):=by
 show WV hn L λw U X B mb fa o pm cd doc a Z b G Y ho hd hcd N A g c J hg=>?_;let Q:=hY w _ Y;let⟨hT,f,I,hF,R,hb⟩:=T w B _ Q G.T.g;rw[N]at R;ext R;show L2.law_call (CX:=i8) (sp:=mK (K w.params) 1 (mV S ds k d.name)) Q G.T.g G.T.b G.T.builtins G.T.nolimit hg A g (Ğ c ⋯) hr (λy hb1 hb2=>?_) hb (λH hO hS=>?_) λH e s' z=>z
 .have:=WU (base:=y) hT k d.name st fa I hl hF;rw[hx]at this;show this
 .let⟨p,hM⟩:=M b c J;let O:ak (K w.params) H a (b.map V.int):=by
   rcases hS with(h|h)|h
   .rcases hO a with z|⟨o,E,z⟩
    .rw[z]at h;ext h
    .rw[z]at h;ext h
   .show .inl h
   .show .inr h
  show⟨rfl,λ_=>0,[.rol<|b.map D.int],[],.bl dI,p,⟨λi j hi=>absurd hi<|NL _,λi hi=>absurd hi<|NL _,λi E h=>(by ext h),λi E h=>(by ext h),λi E h=>(by ext h)
   ,λi E h=>(by ext h)
   ,λi E h=>(by ext h)
   ⟩,.cons (.rol O ?_) .nil,hM,λπ' v H' i i hv=>?_⟩
  .have:∀b:List Int,Æ (K w.params) (λ_=>0) ([]:Hm).length H (b.map V.int) (b.map D.int):=λb=>by
    induction b with
    |nil=>show .nil|cons n r ih=>show .cons (.int n) ih
   show this b
  .ext hv;rfl
end L3
namespace L3
open PySem L2
def wR{a:Type}:∀{l:List (Str×a)}{x}{b},l.lookup x=b3 b->(x,b)∈l:=λh=>J0 h
open _root_ in
def WW{S:ĝ}{ds:List (Str×Stmt)}(h:(S.fn.all λp=>match ds.lookup p.1 with|some st=>decide ((fH st).length=p.2)|none=>b5)=dI):∀x n,S.fn.lookup x=b3 n->∃st,ds.lookup x=b3 st/\(fH st).length=n:=by
 intro x n e;have:=ϵ.mp h (x,n)<|wR e;dsimp at this;split at this
 .rename_i st a;show⟨st,a,of_decide_eq_true this⟩
 .ext this
def WX{ds:List (Str×Stmt)}(h:∀p∈ds,ϊ K a p.1 p.2/\qN p.2=dI):∀x st,ds.lookup x=b3 st->ϊ K a x st/\qN st=true:=λx st e=>h (x,st)<|wR e
def WY{b:Str->Option Value}{a:List (Str×D)}(h:∀p∈a,∃v u,b p.1=b3 u/\Ì v u/\∀π n H,Ú K π n H v p.2):∀x d,a.lookup x=b3 d->∃v u,b x=b3 u/\Ì v u/\∀π n H,Ú K π n H v d:=λx d e=>h (x,d)<|wR e
def WZ{b:Str->Option Value}{ts:List (Str×List (bM×D))}(h:∀t∈ts,∃(p:Addr)(vs:List (bM×V))(ws:List (bM×Value)),b t.1=b3 (.ref p)/\(p==ļ)=b5/\(∀h,K.In h->h.DictOf (jS P w) p ws)/\KV vs ws/\∀π n H,ŝ K π n H vs t.2):
  ∀x a,ts.lookup x=b3 a->∃(p:Addr)(vs:List (bM×V))(ws:List (bM×Value)),b x=b3 (.ref p)/\(p==ļ)=b5/\(∀h,K.In h->h.DictOf (jS P w) p ws)/\KV vs ws/\∀π n H,ŝ K π n H vs a:=λx a e=>h (x,a)<|wR e
inductive Ĥ (w:į):List DictEntry->List (bM×Value)->Prop where
 |nil:Ĥ w [] []
 |cons {e:DictEntry}{k:bM}{v:Value}{es:List DictEntry}{kvs:List (bM×Value)}(h:oJ k e.key=dI)(hh:e.hash=EF w k)(hv:e.val=v)(t:Ĥ w es kvs):Ĥ w (e::es)<|(k,v)::kvs
def Ĥ.pairs(x:Ĥ w es kvs):Pairs (jS P w) es kvs:=by
 induction x with
 |nil=>show .nil|cons h c a _ b=>show .cons h a b
def Ĥ.keys(x:Ĥ w es kvs):∀e∈es,∃k,(jS P w).is k e.key=dI/\e.hash=(jS P w).hash k:=by
 induction x with
 |nil=>intro e a;show nomatch a|@cons e k v es kvs h c g _ d=>
  intro b a;rcases ĉ.mp a with rfl|a
  .show⟨k,h,c⟩
  .show d b a
def W0{h:í}(b:h.get? p=b3 {cls:=.type "dict",data:=.dict es.toArray ep})(x:Ĥ w es kvs)(d:ks.Nodup)(c:kvs.map (·.1)=ks):h.DictOf (jS P w) p kvs:=
 ⟨_,es.toArray,ep,b,⟨rfl,rfl,rfl⟩,rfl,λe a=>x.keys e<|by apply a,by apply x.pairs,c▸d⟩
def IZ x t:oJ (.inr x) (.str x t)=true:=by simp[oJ,OY]
def W2{a:Str->Option Value}{ns:List Str}(h:∀x∈ns,a x=b4):∀x,ns.contains x=dI->a x=none:=λx e=>h x<|by apply e
abbrev Ag:Nat->(Nat->Value)->gw
 |0,_=>[]|n+1,u=>u 0::Ag n λi=>u<|i+1
def Ja:∀us,∃u,us=Ag us.length u
 |[]=>⟨λ_=>.none,rfl⟩|v::us=>let⟨u,a⟩:=Ja us;⟨λi=>match i with|0=>v|i+1=>u i,congrArg (v::·) a⟩
noncomputable abbrev Jb:Type:=Value->Value->Value->Option Addr->Value->Value->(Nat->Value)->J3 (List<|Str×Value)
abbrev W3(x:Str)(st:Stmt)(m:Value)(c:Addr):Obj:=⟨ö "function",b4,.func<|ϐ x x (lE st) (iL st) (dO st) .none .none .none m b4 (.ref c) .none,#[]⟩
abbrev Jc(K:Õ)(d:(Str×Stmt)×Value×Addr×Addr):Option (Option Value)×Option Obj×Bool×Bool×Bool×Jb:=(uh K Ų d.1.1,K.lookup d.2.2.2,N7 K (.ref d.2.2.1) d.1.1,ϳ K<|.ref d.2.2.2,qN d.1.2,λkV b c an a ct u=>M7 (ϐ d.1.1 d.1.1 (lE d.1.2) (iL d.1.2) (dO d.1.2) .none kV b c an a ct) ⟨Ag (fH d.1.2).length u,[]⟩)
abbrev Jd(d:(Str×Stmt)×Value×Addr×Addr):Option (Option Value)×Option Obj×Bool×Bool×Bool×Jb:=(b3<|b3<|.ref d.2.2.2,b3<|W3 d.1.1 d.1.2 d.2.1 d.2.2.1,dI,dI,dI,λ_ x x x x x u=>pure<|(fH d.1.2).zip<|Ag (fH d.1.2).length u)
abbrev Ah(K:Õ)(d:Str×Stmt):(Str×Stmt)×Value×Addr×Addr:=(d,match uh K Ų d.1 with
 |some (b3<|.ref f)=>(match K.lookup f with
  |some ⟨_,_,.func fd,_⟩=>(match fd.code with
   |.ref c=>(fd.pyModule,c,f)
   |_=>(.none,0,0))
  |_=>(.none,0,0))
 |_=>(.none,0,0))
abbrev Ai(K:Õ)(ds:List (Str×Stmt)):Prop:=ds.map (λd=>Jc K<|Ah K d)=ds.map λd=>Jd<|Ah K d
def Je(X:K.In h)(G:h.Ns Ų i)(q:Ai K ds):∀p∈ds,(ϊ K i p.1 p.2/\qN p.2=dI)/\∃f j,ϩ K p.1 p.1 p.2 f j/\i p.1=b3 (.ref f)/\∀us:gw,us.length=(fH p.2).length->M7 j ⟨us,[]⟩=pure ((fH p.2).zip us):=by
 intro g v;let t:=RP.mp q g v;let e:(Ah K g).1=g:=rfl;generalize Ah K g=d at t e;let⟨p,m,c,f⟩:=d;ext e;unfold Jc Jd at t;let⟨a,t⟩:=Ϣ t;let⟨l,t⟩:=Ϣ t;let⟨c,t⟩:=Ϣ t;let⟨k,t⟩:=Ϣ t;let⟨s,b⟩:=Ϣ t;let F:=b3I (st:=p.2) l c k;let D:=λkV doc pm an cdv ct (us:gw)(o:us.length=(fH p.2).length)=>(by
  let⟨u,n⟩:=Ja us;rw[o]at n;rw[n];show congrFun (congrFun (congrFun (congrFun (congrFun (congrFun (congrFun b kV) doc) pm) an) cdv) ct) u:M7 (ϐ p.1 p.1 (lE p.2) (iL p.2) (dO p.2) .none kV doc pm an cdv ct) ⟨us,[]⟩=pure ((fH p.2).zip us))
 show⟨⟨⟨_,_,F,NJ X G a,ĥ.all<|D _ _ _ _ _ _⟩,s⟩,_,_,F,NJ X G a,D _ _ _ _ _ _⟩
def W4(X:K.In h)(G:h.Ns Ų c)(q:Ai K ds)(d:ds.lookup x=b3 st)(e:fH st=[y]):∃f a,ϩ K x x st f a/\c x=b3 (.ref f)/\∀s u,kh s a ⟨[u],[]⟩ [(y,u)]:=by let⟨f,a,F,m,b⟩:=(Je X G q (x,st)<|wR d).2;dsimp at b;rw[e]at b;show⟨f,a,F,m,λs u=>.of_eq<|b [u] rfl⟩
def W5(X:K.In h)(G:h.Ns Ų a){ns:List Str}(q:ns.map (uh K Ų)=ns.map λ_=>b3 b4):∀x∈ns,a x=none:=λx b=>PySem.W.mg_none_of X G<|RP.mp q x b
abbrev wU{c d:Type}(f:c->d->Bool):List c->List d->Bool
 |[],[]=>dI|a::as,b::bs=>f a b&&wU f as bs|_,_=>b5
abbrev wV(K:Õ):Nat->Value->D->Bool
 |0,_,_=>b5|k+1,u,d=>match d with
  |.non=>(match u with|.none=>dI|_=>b5)|.bl b=>(match u with|.bool c=>decide (b=c)|_=>b5)|.int i=>(match u with|.int j _=>decide (i=j)|_=>b5)|.str x=>(match u with|.str y _=>decide (x=y)|_=>b5)
  |.tup ds=>(match u with
   |.ref p=>(match K.lookup p with
    |some ⟨.type t,b4,.seq its _,_⟩=>decide (t="tuple")&&decide (its.size<=1000)&&wU (wV K k) its.toList ds
    |_=>b5)
   |_=>b5)
  |.rol ds=>(match u with
   |.ref p=>(match K.lookup p with
    |some ⟨.type t,b4,.seq its _,_⟩=>decide (t="list")&&decide (its.size<=1000)&&wU (wV K k) its.toList ds
    |_=>b5)
   |_=>b5)
  |_=>b5
def Jf(h:∀u d,f u d=dI->∃v,Ì v u/\∀π n H,Ú K π n H v d):∀us ds,wU f us ds=dI->∃vs,Å vs us/\∀π n H,Æ K π n H vs ds
 |[],[],_=>⟨[],.nil,λ_ x x=>.nil⟩|u::us,d::ds,e=>by let⟨a,b⟩:=zz.mp e;let⟨v,r,q⟩:=h u d a;let⟨vs,rs,c⟩:=Jf h us ds b;show⟨v::vs,.cons r rs,λ_ x x=>.cons (q _ _ _)<|c _ _ _⟩
 |[],_::_,e=>nomatch e|_::_,[],e=>nomatch e
open _root_ in
def Jg:∀k u d,wV K k u d=dI->∃v,Ì v u/\∀π n H,Ú K π n H v d
 |0,_,_,e=>nomatch e|k+1,u,d,e=>by
  let seq:∀{p:Addr}{ds:List D}{c:String},(match K.lookup p with|some ⟨.type t,b4,.seq its _,_⟩=>decide (t=c)&&decide (its.size<=1000)&&wU (wV K k) its.toList ds|_=>b5)=dI->∃g its n j,K.lookup p=b3 ⟨.type c,b4,.seq its n,j⟩/\its.size<=Ñ/\Å g its.toList/\∀π n H,Æ K π n H g ds:=λ{p ds c} e=>by
   split at e
   .rename_i t its n j h;let⟨e,q⟩:=zz.mp e;let⟨a,b⟩:=zz.mp e;cases of_decide_eq_true a;let⟨g,r,i⟩:=Jf (Jg k) _ _ q;show⟨g,its,n,j,h,Ğ (of_decide_eq_true b) ⋯,r,i⟩
   .ext e
  cases d with
  |non=>cases u with
   |none=>show⟨.non,rfl,λ_ x x=>.non⟩|_=>ext e
  |bl b=>cases u with
   |bool c=>cases of_decide_eq_true e;show⟨.bl b,rfl,λ_ x x=>.bl _⟩|_=>ext e
  |int b=>cases u with
   |int c=>cases of_decide_eq_true e;show⟨.int b,⟨_,rfl⟩,λ_ x x=>.int _⟩|_=>ext e
  |str b=>cases u with
   |str c=>cases of_decide_eq_true e;show⟨.str b,⟨_,rfl⟩,λ_ x x=>.str _⟩|_=>ext e
  |tup ds=>cases u with
   |ref p=>let⟨g,its,n,j,h,o,r,i⟩:=seq e;show⟨.ref p,rfl,λ_ x x=>.tup (vs:=g) (.inr ⟨_,its,n,h,rfl,rfl,rfl,o,r⟩)<|i _ _ _⟩|_=>ext e
  |rol ds=>cases u with
   |ref p=>let⟨g,its,n,j,h,o,r,i⟩:=seq e;show⟨.ref p,rfl,λ_ x x=>.rol (vs:=g) (.inr ⟨_,its,n,h,rfl,rfl,rfl,o,r⟩)<|i _ _ _⟩|_=>ext e
  |_=>ext e
abbrev Jh(K:Õ)(a:List (Str×D)):Bool:=a.all λc=>match uh K Ų c.1 with|some (b3 u)=>wV K 8 u c.2|_=>b5
open _root_ in
def W6(X:K.In h)(G:h.Ns Ų b)(q:Jh K a=dI):∀p∈a,∃v u,b p.1=b3 u/\Ì v u/\∀π n H,Ú K π n H v p.2:=λp c=>by
 let t:=ϵ.mp q p c;split at t
 .rename_i u d;let⟨v,r,i⟩:=Jg _ _ _ t;show⟨v,u,NJ X G d,r,i⟩
 .ext t
abbrev W{a:Type}(o:Option a)(Q:a->Prop):Prop:=∃r,o=b3 r/\Q r
def À{r:α}{Q:α->Prop}:W (b3 r) Q↔Q r:=⟨λ⟨_,h,q⟩=>by ext h;show q,λq=>⟨r,rfl,q⟩⟩
def ê{Q:α->Prop}:W b4 Q↔False:=⟨λ⟨_,h,_⟩=>(by ext h),λh=>h.elim⟩
def Ä{o:Option α}{g:α->Option β}{Q:β->Prop}:W (o.bind g) Q↔W o λr=>W (g r) Q:=by
 cases o with
 |none=>show⟨λ⟨_,h,_⟩=>(by ext h),λ⟨_,h,_⟩=>(by ext h)⟩|some a=>simp[À]
def kT{o:Option α}{g:α->β}{Q:β->Prop}:W (o.map g) Q↔W o λr=>Q (g r):=by
 cases o with
 |none=>show⟨λ⟨_,h,_⟩=>(by ext h),λ⟨_,h,_⟩=>(by ext h)⟩|some a=>simp[À]
def bP{o:Option α}{Q:α->Prop}{a:α->Prop}(h:W o Q)(k:∀r,Q r->a r):W o a:=let⟨r,e,q⟩:=h;⟨r,e,k r q⟩
def Aj{Q:α->Prop}[Decidable c]{a b:Option α}:W (if c then a else b) Q↔if c then W a Q else W b Q:=by split<;>rfl
abbrev fin:Option (Fl×aF×Hm)->jk:=λo=>o.bind λp=>match p.1 with|.rt d=>b3 (d,p.2.2)|.nx=>b3 (.non,p.2.2)|_=>b4
def è{Q:jz}:W (fin o) Q↔W o λp=>match p.1 with|.rt d=>Q (d,p.2.2)|.nx=>Q (.non,p.2.2)|_=>False:=by
 ext fin;rw[Ä];constructor
 .show λh=>bP h λp q=>by let⟨a,c,b⟩:=p;ext a<;>simpa[À,ê]using q
 .show λh=>bP h λp q=>by let⟨a,c,b⟩:=p;ext a<;>simpa[À,ê]using q
def aD{b μ':Hm}(h:b<+:μ'){a:Nat}(e:b[a]?=b3 c):μ'[a]?=b3 c:=by let⟨t,rfl⟩:=h;let d:=(â.mp e).1;rw[ϗ d];show e
def Ji{a μ':Hm}(h:a<+:μ'):a.length<=μ'.length:=h.length_le
def aR(a:Hm)(c:C):a<+:a++[c]:=⟨[c],rfl⟩
def cZ{b μ':Hm}(h:b<+:μ')(d:b.length<=a)c:b<+:μ'.set a c:=by let⟨t,rfl⟩:=h;rw[PM _ _ d];show⟨_,rfl⟩
def Ç{Q}:W (aL a b d c) Q↔W (a d c) λp=>match p.1 with|.nx=>W (b p.2.1 p.2.2) Q|_=>Q p:=by
 ext aL;rw[Ä];constructor
 .show λh=>bP h λp q=>by let⟨e,d,c⟩:=p;ext e<;>simpa[À,ê]using q
 .show λh=>bP h λp q=>by let⟨e,d,c⟩:=p;ext e<;>simpa[À,ê]using q
def Ð{Q}:W (aM m a b) Q↔W (m a b) λp=>Q (.rt p.1,a,p.2):=kT
def ë{Q}:W (dX m a b) Q↔W (m a b) λp=>Q (.nx,a,p.2):=kT
def ċ{Q}:W (fR i m a b) Q↔W (m a b) λp=>Q (.nx,a.set i<|b3 p.1,p.2):=kT
def Î{Q}:W (bV b a) Q↔Q (.nx,b,a):=À
def Ò{Q}:W (bK t a b c d) Q↔W (t c d) λp=>if p.1=dI then W (a c p.2) Q else W (b c p.2) Q:=by ext bK;rw[Ä];constructor<;>show λh=>bP h λp q=>by let⟨x,d⟩:=p;ext x<;>apply q
def ę{Q}:W (iO t a b c d) Q↔W (t c d) λp=>if p.1=dI then W (a c p.2) Q else W (b c p.2) Q:=by ext iO;rw[Ä];constructor<;>show λh=>bP h λp q=>by let⟨x,d⟩:=p;ext x<;>apply q
def ě{Q}:W (i9 a b d c) Q↔W (a d c) λp=>if p.1=dI then W (b d p.2) Q else Q (b5,p.2):=by ext i9;rw[Ä];constructor<;>show λh=>bP h λp q=>by let⟨x,c⟩:=p;ext x<;>simpa[À]using q
def Ū{Q}:W (lH a b d c) Q↔W (a d c) λp=>if p.1=dI then Q (dI,p.2)else W (b d p.2) Q:=by ext lH;rw[Ä];constructor<;>show λh=>bP h λp q=>by let⟨x,c⟩:=p;ext x<;>simpa[À]using q
def θ{Q}:W (jT a c b) Q↔W (a c b) λp=>Q (!p.1,p.2):=kT
def é{Q}:W (aA f a b c d) Q↔W (a c d) λp=>W (b c p.2) λq=>W (f p.1 q.1 q.2) Q:=by ext aA;rw[Ä];dsimp[Ä]
def fN{Q}:W (mC d b a) Q↔Q (d,a):=À
def cM{b:aF}{Q}:W (aE 0 (b3 d::b) a) Q↔Q (d,a):=by change W (b3 (d,a)) Q↔_;show À
def dC{b:aF}{Q}:W (aE (i+1) (x::b) a) Q↔W (aE i b a) Q:=by ext aE;rw[List.getElem?_cons_succ]
def eC{Q}:W (aG b a) Q↔Q ([],a):=À
def Ë{Q}:W (aB a r b c) Q↔W (a b c) λp=>W (r b p.2) λq=>Q (p.1::q.1,q.2):=by ext aB;dsimp[Ä,À]
def à{Q}:W (cQ a c b) Q↔W (a c b) fun p=>p.1.length<=Ñ/\Q (.tup p.1,p.2):=by
 ext cQ
 rw [Ä]
 constructor<;>show fun h=>bP h fun p q=>by
  first
  | (rw [Aj] at q;split at q
     .show ⟨by assumption,À.mp q⟩
     .show (ê.mp q).elim)
  | (rw [if_pos q.1];show À.mpr q.2)
def æ{Q}:W (cR a c b) Q↔W (a c b) fun p=>p.1.length<=Ñ/\Q (.loc p.2.length,p.2++[.lst p.1]):=by
 ext cR
 rw [Ä]
 constructor<;>show fun h=>bP h fun p q=>by
  first
  | (rw [Aj] at q;split at q
     .show ⟨by assumption,À.mp q⟩
     .show (ê.mp q).elim)
  | (rw [if_pos q.1];show À.mpr q.2)
def ä{Q}:W (bJ f a c b) Q↔W (a c b) fun p=>W (f p.1 p.2) Q:=Ä
def Ę{Q}:W (a7 m c a) Q↔W (m c a) λp=>match p.1 with|.bl b=>Q (b,p.2)|_=>False:=by ext a7;rw[Ä];constructor<;>show λh=>bP h λp q=>by let⟨d,a⟩:=p;ext d<;>simpa[À,ê]using q
def Ĺ{Q}:W (c9 m c a) Q↔W (m c a) λp=>W (nO p.2 p.1) λb=>Q (b,p.2):=by ext c9;dsimp[Ä,kT]
def Jj{Q}:W (nM a c b) Q↔W (a c b) λp=>match p.1 with|.int i=>Q (.int<|-i,p.2)|_=>False:=by ext nM;rw[Ä];constructor<;>show λh=>bP h λp q=>by let⟨d,b⟩:=p;ext d<;>simpa[À,ê,kT,BH]using q
def Jk{Q}:W (tE a e c) Q↔W (a e c) λp=>match p.1 with|.bl b=>Q (.bl<|!b,p.2)|_=>False:=by ext tE;rw[Ä];constructor<;>show λh=>bP h λp q=>by let⟨d,c⟩:=p;ext d<;>simpa[À,ê]using q
def Ă{Q}:W (fQ a b g e) Q↔W (a g e) λp=>match p.1 with|.bl c=>if c=dI then W (b g p.2) Q else Q (.bl b5,p.2)|_=>False:=by
 ext fQ;rw[Ä];constructor<;>show λh=>bP h λp q=>by
  let⟨d,e⟩:=p;cases d with
  |bl c=>ext c<;>simpa[À]using q|_=>simpa[ê]using q
def Ě{Q}:W (iE m g a c) Q↔W (m a c) λp=>W (g p.1 a p.2) λb=>Q (.nx,b,p.2):=by ext iE;dsimp[Ä,kT]
def jh{Q}:W (vO kvs m b a) Q↔W (m b a) λp=>W (yH p.1) λk=>W (lO kvs k) λd=>Q (d,p.2):=by ext vO;dsimp[Ä,kT]
def Û{Q:jz}:W (bI (.int i) (.int j) μ) Q↔Q (.int<|i+j,μ):=À
def ũ{Q:jz}:W (iP (.int i) (.int j) μ) Q↔Q (.int<|i-j,μ):=À
def iH{Q:jz}(h:0<j):W (b6 (.int i) (.int j) μ) Q↔Q (.int<|i%j,μ):=by change W ((if 0<j then b3 (i%j)else b4).map λz=>(D.int z,μ)) Q↔_;rw[if_pos h];show À
def W7:(1073741824:Int)<2^4000:=by decide +kernel
def W8{Q:jz}(h:0<j)(k:j<2^4000):W (kL (.int i) (.int j) μ) Q↔Q (.int<|i/j,μ):=by change W ((if 0<j/\j<2^4000 then b3 (i/j)else b4).map λz=>(D.int z,μ)) Q↔_;rw[if_pos ⟨h,k⟩];show À
def sI{Q:jz}(h:0<j)(k:j<1073741824):W (kL (.int i) (.int j) μ) Q↔Q (.int<|i/j,μ):=W8 h<|Int.lt_trans k W7
def pJ{Q:jz}(h:(-(2^64)<i/\i<2^64)\/(-(2^64)<j/\j<2^64)):W (b8 (.int i) (.int j) μ) Q↔Q (.int<|i*j,μ):=by change W ((if((-(2^64)<i/\i<2^64)\/(-(2^64)<j/\j<2^64))\/(i.natAbs<2^4000/\j.natAbs<2^4000)\/ŵ i+ŵ j<=134217728 then b3 (i*j)else b4).map λz=>(D.int z,μ)) Q↔_;rw[if_pos<|.inl h];show À
def W9{Q:jz}(h:0<=j/\j<=1000000/\i.natAbs<2^64):W (rJ (.int i) (.int j) μ) Q↔Q (.int<|i^j.toNat,μ):=by change W ((if(0<=j/\j<=1000000/\i.natAbs<2^64)\/(0<=j/\j<=100/\i.natAbs<2^4000)then b3 (i^j.toNat)else b4).map λz=>(D.int z,μ)) Q↔_;rw[if_pos<|.inl h];show À
def ą{Q:jz}:W (aZ b5 (.int i) (.int j) μ) Q↔Q (.bl<|i==j,μ):=À
def Df{Q:jz}:W (aZ dI (.int i) (.int j) μ) Q↔Q (.bl<|!(i==j),μ):=À
def w_neB{Q:jz}:W (aZ dI (.bl x) (.bl y) μ) Q↔Q (.bl<|!(x==y),μ):=À
def ı{Q:jz}:W (gM (.int i) (.int j) μ) Q↔Q (.bl<|decide<|i<j,μ):=À
def Xa{Q:jz}:W (tH (.int i) (.int j) μ) Q↔Q (.bl<|decide<|i<=j,μ):=À
def Ń{Q:jz}:W (kM (.int i) (.int j) μ) Q↔Q (.bl<|decide<|j<i,μ):=À
def xf{Q:jz}:W (vJ (.int i) (.int j) μ) Q↔Q (.bl<|decide<|j<=i,μ):=À
def ĺ{Q:jz}:W (bG (.tup [a,b]) (.int 0) μ) Q↔Q (a,μ):=À
def Č{Q:jz}:W (bG (.tup [a,b]) (.int 1) μ) Q↔Q (b,μ):=À
def Xb{Q:jz}:W (bG (.tup [a,b,c,d,e,g]) (.int 0) μ) Q↔Q (a,μ):=À
def Xc{Q:jz}:W (bG (.tup [a,b,c,d,e,g]) (.int 1) μ) Q↔Q (b,μ):=À
def Xd{Q:jz}:W (bG (.tup [a,b,c,d,e,g]) (.int 2) μ) Q↔Q (c,μ):=À
def Xe{Q:jz}:W (bG (.tup [a,b,c,d,e,g]) (.int 3) μ) Q↔Q (d,μ):=À
def Ũ:W (nO μ<|.bl b) Q↔Q b:=À
def Œ:W (dD [i,j] (.tup [a,b]) h μ) Q↔Q ((h.set i<|b3 a).set j<|b3 b):=À
def dY{Q:jz}(h:b[a]?=b3 (.lst xs))(hi:atI xs i=b3 d):W (bG (.loc a) (.int i) b) Q↔Q (d,b):=by
 have:bG (.loc a) (.int i) b=b3 (d,b):=by dsimp[bG,kJ,bO,h,Đ,hi,Ĕ]
 rw[this];show À
def Jl(h:d[l]?=b3 (.lst [a,b])):W (dD [i,j] (.loc l) c d) Q↔Q ((c.set i<|b3 a).set j<|b3 b):=by
 have:dD [i,j] (.loc l) c d=b3 ((c.set i<|b3 a).set j<|b3 b):=by dsimp[dD,bO,h,Đ];rfl
 rw[this];show À
def Ó:W (cS m b a) Q↔W (m b a) λp=>W (jD p.2 p.1) λxs=>Q (dE p.1,xs.length+1,p.2):=by ext cS;dsimp[Ä,kT]
def É{Q}:W (cA c g b a d) Q↔W (c a d) λp=>W (fS p.1 g b p.2.1 0 a p.2.2) Q:=Ä
open _root_ in
def Ak{j:Int}:W (oS e g c) Q↔W (e g c) fun p=>match p.1 with|[.int j]=>(-(2 ^ 62)<=j/\j<2 ^ 62)/\Q (kN 0 j.toNat,j.toNat+1,p.2)|_=>False:=by
 ext oS
 rw [Ä]
 constructor<;>show fun h=>bP h fun p q=>by
  obtain ⟨l,c⟩:=p
  match l,q with
  | [],q=>simpa [ê] using q
  | [d],q=>
   cases d with
   | int j=>
    first
    | (dsimp at q;rw [Aj] at q;split at q
       .rename_i i;show ⟨i,À.mp q⟩
       .show (ê.mp q).elim)
    | (dsimp;rw [if_pos q.1];show À.mpr q.2)
   | _=>simpa [ê] using q
  | a::b::l,q=>simpa [ê] using q
open _root_ in
def Ĝ:W (mQ a c b) Q↔W (a c b) fun p=>match p.1 with|[.int i,.int j]=>(-(2 ^ 62)<=i/\i<2 ^ 62/\-(2 ^ 62)<=j/\j<2 ^ 62)/\Q (kN i (j - i).toNat,(j - i).toNat+1,p.2)|_=>False:=by
 ext mQ
 rw [Ä]
 constructor<;>show fun h=>bP h fun p q=>by
  split at q
  .rename_i e
   try rw [e]
   first
   | (rw [Aj] at q;split at q
      .rename_i d;show ⟨d,À.mp q⟩
      .show (ê.mp q).elim)
   | ((try dsimp only);rw [if_pos q.1];show À.mpr q.2)
  .first
   | show (ê.mp q).elim
   | show q.elim
def nX{j:gW}{b:MS}(I:Nat->aF->Hm->Prop)(go:∀ i c a,i<N->I i c a->∃ d k,j a i=b3 (b3 d)/\g d c a=b3 k/\W (b k a) fun p=>match p.1 with|.nx=>I (i+1) p.2.1 p.2.2|.ct=>I (i+1) p.2.1 p.2.2|.bk=>Q (.nx,p.2.1,p.2.2)|.rt d=>Q (.rt d,p.2.1,p.2.2))(e:∀ c a,I N c a->j a N=b3 b4/\Q (.nx,c,a)):∀m i c a,i+m=N->I i c a->W (fS j g b (m+1) i c a) Q
 | 0,i,c,a,h,hI=>by
  have:i=N:=()
  subst this
  obtain ⟨h1,s⟩:=e c a hI
  ext fS
  rw [h1]
  show À.mpr s
 | m+1,i,c,a,h,hI=>by
  obtain ⟨d,k,h1,s,v⟩:=go i c a () hI
  ext fS
  rw [h1]
  simp only [Đ,s]
  rw [Ä]
  show bP v fun p q=>?_
  obtain ⟨u,o,n⟩:=p
  cases u with
  | nx=>show nX I go e m (i+1) o n () q
  | ct=>show nX I go e m (i+1) o n () q
  | bk=>show À.mpr q
  | rt d=>show À.mpr q
def jF{b:MS}(I:Nat->aF->Hm->Prop)(h0:I 0 h c)(o:∀i h c,I i h c->c[a]?=b3 (.lst xs))(go:∀i d h c,xs[i]?=b3 d->I i h c->∃j,g d h c=b3 j/\W (b j c) λp=>match p.1 with|.nx=>I (i+1) p.2.1 p.2.2|.ct=>I (i+1) p.2.1 p.2.2|.bk=>Q (.nx,p.2.1,p.2.2)|.rt d=>Q (.rt d,p.2.1,p.2.2))(n:∀h c,I xs.length h c->Q (.nx,h,c)):W (fS (dE<|.loc a) g b (xs.length+1) 0 h c) Q:=by
 show nX (N:=xs.length) I (λi h c hi k=>?_) (λh c k=>⟨?_,n h c k⟩) xs.length 0 h c () h0
 .let e:xs[i]?=b3 xs[i]:=ü hi;let⟨j,h1,q⟩:=go i xs[i] h c e k;show⟨xs[i],j,?_,h1,q⟩;dsimp[dE,jD,bO,o i h c k,Ĕ,e]
 .dsimp[dE,jD,bO,o _ h c k,Ĕ];simp
def Jm(n:∀a,jD a x=b3 xs){b:MS}(I:Nat->aF->Hm->Prop)(h0:I 0 c a)(go:∀i d c a,xs[i]?=b3 d->I i c a->∃h,g d c a=b3 h/\W (b h a) λp=>match p.1 with|.nx=>I (i+1) p.2.1 p.2.2|.ct=>I (i+1) p.2.1 p.2.2|.bk=>Q (.nx,p.2.1,p.2.2)|.rt d=>Q (.rt d,p.2.1,p.2.2))(j:∀c a,I xs.length c a->Q (.nx,c,a)):W (fS (dE x) g b (xs.length+1) 0 c a) Q:=by
 show nX (N:=xs.length) I (λi c a hi k=>?_) (λc a k=>⟨?_,j c a k⟩) xs.length 0 c a () h0
 .let e:xs[i]?=b3 xs[i]:=ü hi;let⟨h,h1,o⟩:=go i xs[i] c a e k;show⟨xs[i],h,?_,h1,o⟩;dsimp[dE,n,Ĕ,e]
 .dsimp[dE,n,Ĕ];simp
def qO{b:MS}(I:Nat->aF->Hm->Prop)(h0:I 0 c a)(go:∀i c a,i<n->I i c a->∃e,g (.int<|lo+i) c a=b3 e/\W (b e a) λp=>match p.1 with|.nx=>I (i+1) p.2.1 p.2.2|.ct=>I (i+1) p.2.1 p.2.2|.bk=>Q (.nx,p.2.1,p.2.2)|.rt d=>Q (.rt d,p.2.1,p.2.2))(h:∀c a,I n c a->Q (.nx,c,a)):W (fS (kN lo n) g b (n+1) 0 c a) Q:=by
 show nX (N:=n) I (λi c a hi j=>?_) (λc a j=>⟨?_,h c a j⟩) n 0 c a () h0
 .let⟨e,h1,k⟩:=go i c a hi j;show⟨_,e,by dsimp[kN,if_pos hi],h1,k⟩
 .dsimp[kN,ε,if_false]
def Dg(h:c[a]?=b3 (.lst b))(d:b.length<Ñ):tJ c a y=b3 (c.set a<|.lst<|b++[y]):=by ext tJ;rw[h];show if_pos d
def Dh{w:gW}{μ0:Hm}{xs:List D}(z:∀a i,μ0<+:a->w a i=b3 xs[i]?)(I:xs.length<=Ñ)(hc:∀d a,d∈xs->μ0<+:a->W (c (H++[b3 d]) a) λr=>r.1=p d/\a<+:r.2)(A:∀d a,d∈xs->p d=dI->μ0<+:a->W (e (H++[b3 d]) a) λr=>r.1=v d/\a<+:r.2)(fin:∀a,μ0<+:a->a[μ0.length]?=b3 (.lst<|(xs.filter p).map v)->Q a):
  ∀m i(a:Hm),i+m=xs.length->μ0<+:a->a[μ0.length]?=b3 (.lst<|((xs.take i).filter p).map v)->W (kP w tK c e H μ0.length (m+1) i a) Q
 |0,i,a,hi,hp,ha=>by
  have:i=xs.length:=()
  subst this;ext kP;rw[z a _ hp];rw[cj<|Ø _];dsimp[Đ];show À.mpr<|fin a hp ?_;apply ha
 |m+1,i,a,hi,hp,ha=>by
  let s:i<xs.length:=()
  let J:xs[i]?=b3 xs[i]:=ü s;let h:xs[i]∈xs:=j0 s;ext kP;rw[z a _ hp,J];dsimp[Đ,tK];rw[Ä];show bP (hc _ a h hp) λr q=>?_;let⟨b,x⟩:=r;let⟨K,u⟩:=q;dsimp at K u ⊢;subst K;let g:xs.take (i+1)=xs.take i++[xs[i]]:=by rw[ni,J];rfl
  let k:=aD u ha;cases j:p xs[i]with
  |false=>show Dh z I hc A fin m (i+1) x () (hp.trans u) ?_;rw[k,g,ϣ];simp[j]|true=>
   dsimp;rw[Ä];show bP (A _ x h j<|hp.trans u) λr q=>?_;let⟨y,G⟩:=r;let⟨L,E⟩:=q;dsimp at L E ⊢;subst L;let n:=aD E k;let o:(((xs.take i).filter p).map v).length<Ñ:=by let h1:=ż p<|xs.take i;rw[Ã];rw[Ι]at h1;lia
   rw[Dg n o,Đ];let B:μ0<+:G:=(hp.trans u).trans E;show Dh z I hc A fin m (i+1) _ () (cZ B (Ø _) _) ?_;rw[Ϥ (â.mp n).1,g,ϣ];simp[j]
def j4{xs:List D}{Q:jz}(hit:W (w b x) λr=>(∀a i,r.2.2<+:a->r.1 a i=b3 xs[i]?)/\r.2.1=xs.length+1/\xs.length<=Ñ /\
   (∀d a,d∈xs->r.2.2<+:a->W (c (b++[b3 d]) a) λs=>s.1=p d/\a<+:s.2)/\(∀d a,d∈xs->p d=dI->r.2.2<+:a->W (e (b++[b3 d]) a) λs=>s.1=v d/\a<+:s.2) /\
   ∀a,r.2.2<+:a->a[r.2.2.length]?=b3 (.lst<|(xs.filter p).map v)->Q (.loc r.2.2.length,a)):W (eW w c e b x) Q:=by
 ext eW gX;rw[Ä];show bP hit λr q=>?_;let⟨y,n,g⟩:=r;let⟨h1,h,j,k,o,u⟩:=q;dsimp at h1 h j k o u ⊢;subst h;rw[kT];show Dh h1 j k o u xs.length 0 (g++[.lst []]) () (aR _ _) ∅
def mW{b:Hm}(h:b[a]?=b3 (.lst xs)):∀μ' i,b<+:μ'->dE (.loc a) μ' i=b3 xs[i]?:=λμ' i c=>by dsimp[dE,jD,bO,aD c h,Ĕ]
def Di{a:Hm}:∀μ' i,a<+:μ'->dE (.tup xs) μ' i=b3 xs[i]?:=λμ' i b=>rfl
abbrev pK(lo:Int)(n:Nat):List D:=(Ā n).map λ(i:Nat)=>.int<|lo+(i:Int)
def Xf{a:Hm}:∀μ' i,a<+:μ'->kN lo n μ' i=b3 (pK lo n)[i]?:=λμ' i x=>by
 ext kN pK;rw[ú];by_cases h:i<n
 .rw[if_pos h,RB h];rfl
 .rw[if_neg h,cj<|by apply qz.mp h];rfl
noncomputable abbrev P(x y:Int):D:=.tup [.int x,.int y]
noncomputable abbrev PP(p:Int×Int):D:=P p.1 p.2
def Xg n e p q:eL (n+2) e (PP p) (PP q)=b3 (p==q):=by let⟨a,b⟩:=p;let⟨c,d⟩:=q;change b3 (a==c&&(b==d&&dI))=b3 ((a,b)==(c,d));rw[OH];rfl
def Jn n a:∀ps qs:List Int,lI (pV (n+1) a) (ps.map D.int) (qs.map D.int)=b3 (ps==qs)
 |[],[]=>rfl|[],_::_=>rfl|_::_,[]=>rfl|p::ps,q::qs=>by rw[ó,ó];change(eL (n+1) a (.int p)<|.int q).bind (λb=>(lI (pV (n+1) a) (ps.map D.int)<|qs.map D.int).map λc=>b&&c)=_;rw[Jn n a ps qs];rfl
def sJ{Q:jz}(e:c[a]?=b3 (.lst xs))(g:c[b]?=b3 (.lst d))(h:xs.length+d.length<=Ñ):W (bI (.loc a) (.loc b) c) Q↔Q (.loc c.length,c++[.lst<|xs++d]):=by dsimp[bI,e,g,if_pos h];show À
def jG{Q:jz}(h:W (b a d) λp=>rV p.2 p.1=dI/\W (c a p.2) λq=>W (f p.1 q.1 q.2) Q):W (eB f b c a d) Q:=by ext eB;rw[Ä];show bP h λp q=>?_;rw[q.1];show Ä.mpr q.2
def iI(h:b[a]?=b3 (.lst xs)):rV b (.loc a)=true:=by dsimp[rV,h]
def mZ{Q:jz}(h:b[a]?=b3 (.lst xs))(c:xs.length<Ñ):W (eZ (.loc a) [y] b) Q↔Q (.non,b.set a<|.lst<|xs++[y]):=by dsimp[eZ,Dg h c,Ĕ];show À
def Al{Q:jz}(h:c[a]?=b3 (.lst xs))(e:c[b]?=b3 (.lst d))(g:xs.length+d.length<=Ñ):W (oT (.loc a) [.loc b] c) Q↔Q (.non,c.set a<|.lst<|xs++d):=by dsimp[oT,h,e,if_pos g];show À
def Jo{Q:jz}:W (nK [.int i,.ty "bool"] a) Q↔Q (.bl b5,a):=À
def Jp{Q:jz}:W (nK [.int i,.ty "int"] a) Q↔Q (.bl dI,a):=À
def Xh{Q:jz}:W (nK [.str b,.ty "str"] a) Q↔Q (.bl dI,a):=À
def jH{Q:jz}(h:b[a]?=b3 (.lst xs)):W (dH [.loc a] b) Q↔Q (.int xs.length,b):=by dsimp[dH,vK,bO,h,Ĕ];show À
def ji{Q:jz}:W (dH [.rol xs] a) Q↔Q (.int xs.length,a):=À
def eI(h:b[a]?=b3 (.lst xs)):W (jD b<|.loc a) Q↔Q xs:=by dsimp[jD,bO,h];show À
def ϫ:W (jD a<|.tup xs) Q↔Q xs:=À
def Jq{Q:jz}(h:W (a b g) λp=>∃l,p.1=.loc l/\W (lo b p.2) λq=>W (hi b q.2) λr=>∃xs,r.2[l]?=b3 (.lst xs)/\Q (.loc r.2.length,r.2++[.lst<|nJ xs q.1 r.1])):W (rH a lo hi b g) Q:=by ext rH;rw[Ä];show bP h λp q=>?_;let⟨d,k⟩:=p;let⟨l,c,e⟩:=q;dsimp at c e ⊢;subst c;rw[Ä];show bP e λs q=>?_;rw[Ä];show bP q λr q=>?_;let⟨xs,i,j⟩:=q;dsimp[bO,i,Đ];show À.mpr j
def bE(a:Hm)c:(a++[c])[a.length]?=b3 c:=∅
def ŗ{Q}:W (kR f g a b c e i) Q↔W (a e i) λp=>W (b e p.2) λq=>W (f p.1 q.1 q.2) λr=>match r.1 with|.bl k=>if k=dI then W (c e r.2) λt=>W (g q.1 t.1 t.2) Q else Q (.bl b5,r.2)|_=>False:=by
 ext kR;dsimp[Ä];constructor<;>show λh=>bP h λp q=>bP q λn h1=>bP h1 λr j=>by
  let⟨d,i⟩:=r;cases d with
  |bl k=>ext k<;>simpa[À,Ä]using j|_=>simpa[ê]using j
def ĕ{Q:jz}:W (iS dI .non .non μ) Q↔Q (.bl b5,μ):=À
def ϋ{Q:jz}:W (iS dI (.tup xs) .non μ) Q↔Q (.bl dI,μ):=À
def wy{Q:jz}:W (TY [.int i,.int j] μ) Q↔Q (.int<|min i j,μ):=by
 have:(if j<i then j else i)=min i j:=by split<;>lia
 change W (b3 (D.int<|if j<i then j else i,μ)) Q↔_;rw[this];show À
def wz{Q:jz}:W (TX [.int i,.int j] μ) Q↔Q (.int<|max i j,μ):=by
 have:(if j>i then j else i)=max i j:=by split<;>lia
 change W (b3 (D.int<|if j>i then j else i,μ)) Q↔_;rw[this];show À
def Dj:∀a,tS (a.map D.int)=b3 a
 |[]=>rfl|i::a=>by change(tS<|a.map D.int).map (i::·)=_;rw[Dj a];rfl
def Jr{Q:jz}{b:List Int}(h:μ[a]?=b3 (.lst<|b.map D.int)):W (oU [.loc a] μ) Q↔Q (.int b.sum,μ):=by dsimp[oU,bO,h,Đ,Dj,Ĕ];show À
def Xi{Q:jz}{bs:List Bool}(h:μ[a]?=b3 (.lst<|bs.map D.bl)):W (yT [.loc a] μ) Q↔Q (.bl<|bs.all id,μ):=by
 let e:∀bs:List Bool,tU (bs.map D.bl)=b3 bs:=λbs=>by
  induction bs with
  |nil=>rfl|cons b bs c=>change(tU<|bs.map D.bl).map (b::·)=_;rw[c];rfl
 dsimp[yT,bO,h,Đ,e,Ĕ];show À
def Js{Q:jz}(h:W (a b g) λp=>∃l,p.1=.loc l/\W (lo b p.2) λq=>W (hi b q.2) λr=>W (st b r.2) λt=>t.1≠b3 0/\∃xs,t.2[l]?=b3 (.lst xs)/\(gN xs q.1 r.1 t.1).length<=Ñ/\Q (.loc t.2.length,t.2++[.lst<|gN xs q.1 r.1 t.1])):W (qA a lo hi st b g) Q:=by ext qA;rw[Ä];show bP h λp q=>?_;let⟨d,n⟩:=p;let⟨l,c,e⟩:=q;dsimp at c e ⊢;subst c;rw[Ä];show bP e λs q=>?_;rw[Ä];show bP q λr q=>?_;rw[Ä];show bP q λt q=>?_;let⟨h0,xs,i,j,k⟩:=q;rw[if_pos h0];dsimp[eX,i,Đ];rw[if_pos j];show À.mpr k
def Dk(h:W (b i g) λp=>∃a xs,p.1=[.loc a]/\p.2[a]?=b3 (.lst xs)/\Q (rY<|.loc a,xs.length+1,p.2)):W (rZ b i g) Q:=by ext rZ;rw[Ä];show bP h λp q=>?_;let⟨l,j⟩:=p;let⟨a,xs,c,d,e⟩:=q;dsimp at c d e ⊢;subst c;dsimp;dsimp[eX,d,Ĕ];show À.mpr e
def Jt{b:MS}(I:Nat->aF->Hm->Prop)(h0:I 0 h c)(o:∀i h c,I i h c->c[a]?=b3 (.lst xs))(go:∀i d h c,xs[i]?=b3 d->I i h c->∃j,g (.tup [.int i,d]) h c=b3 j/\W (b j c) λp=>match p.1 with|.nx=>I (i+1) p.2.1 p.2.2|.ct=>I (i+1) p.2.1 p.2.2|.bk=>Q (.nx,p.2.1,p.2.2)|.rt d=>Q (.rt d,p.2.1,p.2.2))(n:∀h c,I xs.length h c->Q (.nx,h,c)):W (fS (rY<|.loc a) g b (xs.length+1) 0 h c) Q:=by
 show nX (N:=xs.length) I (λi h c hi k=>?_) (λh c k=>⟨?_,n h c k⟩) xs.length 0 h c () h0
 .let e:xs[i]?=b3 xs[i]:=ü hi;let⟨j,h1,q⟩:=go i xs[i] h c e k;show⟨_,j,?_,h1,q⟩;dsimp[rY,bO,o i h c k,Ĕ,e]
 .dsimp[rY,bO,o _ h c k,Ĕ];simp
def Am{o:gW}(I:Nat->List D->Hm->Prop)(B:N<=Ñ)(k:∀i g j,I i g j->g.length<=i)(go:∀i g j,i<N->I i g j->j[a]?=b3 (.lst g)->∃d x,o j i=b3 (b3 d)/\A d j=b3 x/\W (c (z++x) j) λr=>(r.1=b5->r.2[a]?=b3 (.lst g)/\I (i+1) g r.2) /\
   (r.1=dI->W (e (z++x) r.2) λs=>s.2[a]?=b3 (.lst g)/\I (i+1) (g++[s.1]) (s.2.set a<|.lst<|g++[s.1])))(n:∀g j,I N g j->j[a]?=b3 (.lst g)->o j N=b3 b4/\Q j):∀m i g j,i+m=N->I i g j->j[a]?=b3 (.lst g)->W (kP o A c e z a (m+1) i j) Q
 |0,i,g,j,h,hI,hg=>by
  have:i=N:=()
  subst this;let⟨h1,v⟩:=n g j hI hg;ext kP;rw[h1];show À.mpr v
 |m+1,i,g,j,h,hI,hg=>by
  let⟨d,x,h1,v,E⟩:=go i g j () hI hg;ext kP;rw[h1];dsimp[Đ,v];rw[Ä];show bP E λr q=>?_;let⟨b,w⟩:=r;cases b with
  |false=>let⟨p,u⟩:=q.1 rfl;show Am I B k go n m (i+1) g w () u p|true=>dsimp;rw[Ä];show bP (q.2 rfl) λs q=>?_;let⟨y,G⟩:=s;let⟨p,u⟩:=q;dsimp at p u ⊢;let H:=k i g j hI;rw[Dg p (),Đ];show Am I B k go n m (i+1) _ _ () u ?_;rw[Ϥ (â.mp p).1]
def Ju{Q:jz}(hit:W (w g a) λr=>∃(N:Nat)(I:Nat->List D->Hm->Prop),r.2.1=N+1/\N<=Ñ/\(∀i b a,I i b a->b.length<=i)/\I 0 [] (r.2.2++[.lst []]) /\
   (∀i b a,i<N->I i b a->a[r.2.2.length]?=b3 (.lst b)->∃d x,r.1 a i=b3 (b3 d)/\h d a=b3 x/\W (c (g++x) a) λp=>(p.1=b5->p.2[r.2.2.length]?=b3 (.lst b)/\I (i+1) b p.2) /\
    (p.1=dI->W (e (g++x) p.2) λs=>s.2[r.2.2.length]?=b3 (.lst b)/\I (i+1) (b++[s.1]) (s.2.set r.2.2.length<|.lst<|b++[s.1]))) /\
   (∀b a,I N b a->a[r.2.2.length]?=b3 (.lst b)->r.1 a N=b3 b4/\Q (.loc r.2.2.length,a))):W (gX h w c e g a) Q:=by
 ext gX;rw[Ä];show bP hit λr q=>?_;let⟨y,n,z⟩:=r;let⟨N,I,h1,j,k,o,u,v⟩:=q;dsimp at h1 j k o u v ⊢;subst h1;rw[kT];show Am I j k u v N 0 [] _ () o ∅
def Xj{w:gW}{μ0:Hm}{xs:List D}{x:D->aF}(H:∀a i,μ0<+:a->w a i=b3 xs[i]?)(M:xs.length<=Ñ)(K:∀d a,d∈xs->G d a=b3 (x d))(hc:∀d a,d∈xs->μ0<+:a->W (c (E++x d) a) λr=>r.1=p d/\a<+:r.2)(L:∀d a,d∈xs->p d=dI->μ0<+:a->W (e (E++x d) a) λr=>r.1=v d/\a<+:r.2)(fin:∀a,μ0<+:a->a[μ0.length]?=b3 (.lst<|(xs.filter p).map v)->Q a):W (kP w G c e E μ0.length (xs.length+1) 0<|μ0++[.lst []]) Q:=by
 show Am (N:=xs.length) (λi z a=>z=((xs.take i).filter p).map v/\μ0<+:a) M ?_ ?_ ?_ xs.length 0 [] _ () ⟨∅,aR _ _⟩ ∅
 .rintro i z a ⟨rfl,_⟩;rw[Ã];show Ğ (ż _ _) ?_;rw[Ι];lia
 .rintro i z a hi ⟨rfl,j⟩ u;let I:xs[i]?=b3 xs[i]:=ü hi;let g:xs[i]∈xs:=j0 hi;let h:xs.take (i+1)=xs.take i++[xs[i]]:=by rw[ni,I];rfl
  show⟨xs[i],x xs[i],by rw[H a i j,I],K _ _ g,bP (hc _ a g j) λr q=>?_⟩;let⟨b,B⟩:=r;let⟨n,o⟩:=q;dsimp at n o ⊢;show⟨λk=>⟨aD o u,?_,j.trans o⟩,λk=>?_⟩
  .rw[h,ϣ];rw[k]at n;simp[<- n]
  .rw[k]at n;show bP (L _ B g n.symm<|j.trans o) λs q=>?_;let⟨y,N⟩:=s;let⟨J,A⟩:=q;dsimp at J A ⊢;subst J;show⟨aD (o.trans A) u,?_,cZ ((j.trans o).trans A) (Ø _) _⟩;rw[h,ϣ,þ];simp[<- n]
 .rintro z a ⟨rfl,j⟩ u;show⟨by rw[H a _ j];simp,fin a j ?_⟩;rw[Ź]at u;show u
def An{xs:List D}{x:D->aF}{Q:jz}(hit:W (y b z) λr=>(∀a i,r.2.2<+:a->r.1 a i=b3 xs[i]?)/\r.2.1=xs.length+1/\xs.length<=Ñ/\(∀d a,d∈xs->g d a=b3 (x d)) /\
   (∀d a,d∈xs->r.2.2<+:a->W (c (b++x d) a) λs=>s.1=p d/\a<+:s.2)/\(∀d a,d∈xs->p d=dI->r.2.2<+:a->W (e (b++x d) a) λs=>s.1=v d/\a<+:s.2) /\
   ∀a,r.2.2<+:a->a[r.2.2.length]?=b3 (.lst<|(xs.filter p).map v)->Q (.loc r.2.2.length,a)):W (gX g y c e b z) Q:=by
 ext gX;rw[Ä];show bP hit λr q=>?_;let⟨A,n,B⟩:=r;let⟨h1,h,j,k,o,u,w⟩:=q;dsimp at h1 h j k o u w ⊢;subst h;rw[kT];show Xj h1 j k o u w
def õ:W (fE b a) Q↔Q (dI,a):=À
def Ć{Q}:W (eM o i v a b) Q↔W (v a b) λp=>W (o a p.2) λq=>W (i a q.2) λr=>W (vV q.1 r.1 p.1 r.2) λμ'=>Q (.nx,a,μ'):=by ext eM Cf;dsimp[Ä,kT]
def Xk(h:W (c g d) λp=>∃b xs a,p.1=[.tup xs,.loc b]/\p.2[b]?=b3 (.lst a)/\Q (jX (.tup xs)<|.loc b,min xs.length a.length+1,p.2)):W (oY c g d) Q:=by ext oY;rw[Ä];show bP h λp q=>?_;let⟨b,xs,a,e,i,q⟩:=q;rw[e];dsimp[eX,i,Ĕ];show À.mpr q
def Jv(h:W (d i g) λp=>∃a b xs c,p.1=[.loc a,.loc b]/\p.2[a]?=b3 (.lst xs)/\p.2[b]?=b3 (.lst c)/\Q (jX (.loc a)<|.loc b,min xs.length c.length+1,p.2)):W (oY d i g) Q:=by ext oY;rw[Ä];show bP h λp q=>?_;let⟨a,b,xs,c,e,j,k,q⟩:=q;rw[e];dsimp[eX,j,k,Đ,Ĕ];show À.mpr q
def Dl k:dR (.tup<|k.map D.int)=b3 k:=Dj k
def á{Q:jz}:W (iT ρ μ) Q↔Q (.loc μ.length,μ++[.dT []]):=À
def Dm{kvs:jx}{Q:jz}(h:μ[a]?=b3 (.dT kvs))(b:dR y=b3 k)(c:a9 kvs k=b3 d):W (bG (.loc a) y μ) Q↔Q (d,μ):=by dsimp[bG,h,b,Đ,c,Ĕ];show À
def uH{kvs:jx}{Q:jz}(h:μ[a]?=b3 (.dT kvs))(c:dR y=b3 k):W (eH b y (.loc a) μ) Q↔Q (.bl<|if b then !(a9 kvs k).isSome else(a9 kvs k).isSome,μ):=by
 have:eH b y (.loc a) μ=b3 (.bl<|if b then !(a9 kvs k).isSome else(a9 kvs k).isSome,μ):=by dsimp[eH,h,c,Ĕ]
 rw[this];show À
def l7(h:μ[a]?=b3 (.dT kvs))(b:dR y=b3 k)(c:kvs.length<Ñ):W (vV (.loc a) y d μ) Q↔Q (μ.set a<|.dT<|cD kvs k d):=by dsimp[vV,vU,h,b,Đ,if_pos c];show À
def Xl{kvs:jx}{Q:jz}(h:μ[a]?=b3 (.dT kvs)):W (o8 [.loc a] μ) Q↔Q (.loc μ.length,μ++[.lst<|kvs.map λk=>D.tup<|k.1.map D.int]):=by dsimp[o8,h];show À
def Xm{Q:jz}(h:μ[a]?=b3 (.lst xs)):W (o8 [.loc a] μ) Q↔Q (.loc μ.length,μ++[.lst xs]):=by dsimp[o8,h,vL,bO,Ĕ];show À
def Jw{Q:jz}(h:b[a]?=b3 (.lst xs)):W (nQ [.loc a] b) Q↔Q (.loc b.length,b++[.lst xs.reverse]):=by dsimp[nQ,h];show À
def Xn(h:W (b d c) λp=>∃a xs,p.1=[.loc a]/\p.2[a]?=b3 (.lst xs)/\Q (nT a xs.length,xs.length+1,p.2)):W (vW b d c) Q:=by ext vW;rw[Ä];show bP h λp q=>?_;let⟨a,xs,h1,e,g⟩:=q;rw[h1];dsimp;rw[e];show À.mpr g
end L3
namespace Lw
open PySem L2 L3
abbrev dn:List (Str×Nat×Nat):=(("is_whole",10,1)::("is_place",11,1)::("is_corner",12,1)::("is_edge",13,1)::("is_quarter",14,1)::("beside",15,1)::("sides_of",16,1)::("moved_by",17,2)::("edges_round",18,1)::("is_size",21,1)::("check_size",22,2)::("is_mark",23,1)::("is_within",24,3)::("places_within",25,2)::("edges_in",26,2)::("corners_in",27,2)::("is_inner_edge",28,3)::("sheet_of",29,3)::("marks_in",30,1)::("is_good",32,1)::("creases_at",34,2)::("gaps_at",35,2)::("barred",36,1)::("check_corners",37,1)::("led",39,2)::("is_turned",40,1)::("edges_laid",42,2)::("heights_in",44,1)::("quarters_at",45,3)::("joined_at",46,3)::("count_between",47,3)::("is_above",48,3)::("crosses",49,3)::("crossing_at",50,4)::("crossing",51,3)::("turned_first",52,2)::("mark_by_heights",53,3)::("marks_by",54,3)::("keeps",55,3)::("tie_of",57,4)::("is_least",58,2)::("ties_of_gap",59,3)::("ties_at",60,2)::("ties",61,1)::("walked_back",64,1)::("steps_from",65,1)::("is_marked",66,1)::("marked_creases",67,1)::("last_steps",68,2)::("way_by",69,2)::("is_alike",70,1)::("back_by",71,1)::("round_by_step",72,2)::("round_within",73,3)::("round_of",74,1)::("carried_mark",75,3)::("carried",76,1)::("_law_given",78,2)::("_law_number",79,2)::("_law_quarters",80,2)::("_law_rims",81,2)::("_law_beside",82,1)::("_law_value",83,2)::("_law_mirror",84,2)::("_law_led",85,2)::("_law_then",86,2)::("_law_fold",87,6)::("_law_grown",88,5)::("_law_creased",89,3)::("_law_ranks",90,1)::("_law_marks",91,4)::("_law_opened",92,2)::("law",93,1)::[])
abbrev ds:List (Str×Stmt):=dn.map λp=>(p.1,aU p.2.1)
abbrev Jx:D:=(.tup [(.tup [(.int 2),(.int 0)]),(.tup [(.int 1),(.int 1)]),(.tup [(.int 0),(.int 2)]),(.tup [(.int<|-1),(.int 1)]),(.tup [(.int<|-2),(.int 0)]),(.tup [(.int<|-1),(.int<|-1)]),(.tup [(.int 0),(.int<|-2)]),(.tup [(.int 1),(.int<|-1)])])
abbrev Jy:D:=(.tup [(.tup [(.int 1),(.int 1)]),(.tup [(.int<|-1),(.int 1)]),(.tup [(.int<|-1),(.int<|-1)]),(.tup [(.int 1),(.int<|-1)])])
abbrev Dn:D:=(.tup [(.str "h"),(.str "v"),(.str "o")])
abbrev wW:List (bM×D):=[((.inr "h"),(.str "v")),((.inr "v"),(.str "h"))]
abbrev S:ĝ:={fn:=dn.map λp=>(p.1,p.2.2),con:=[("EIGHT_EDGES",Jx),("FOUR_EDGES",Jy),("MARKS",Dn)],tab:=[("TURNED",wW)],no:=["all","bool","dict","enumerate","int","isinstance","len","list","max","min","range","reversed","sorted","str","sum","tuple","zip"],dIt:=["_law_ways","_law_heaps","_law_gone","marks","reached","piles"],dEq:=[],dMe:=["_law_heaps"]}
@[irreducible] noncomputable def f(k:Nat)(x:Str):MF:=mV S ds k x
noncomputable abbrev aH:ME:=aE 0
noncomputable abbrev aK:ME:=aE 1
noncomputable abbrev aN:ME:=aE 2
noncomputable abbrev bC:ME:=aE 3
noncomputable abbrev bY:ME:=aE 4
noncomputable abbrev dU:ME:=aE 5
noncomputable abbrev dG:ME:=aE 6
noncomputable abbrev fA:ME:=aE 7
noncomputable abbrev iV:ME:=aE 8
noncomputable abbrev jI:ME:=aE 9
noncomputable abbrev jJ:ME:=aE 10
noncomputable abbrev nB:ME:=aE 11
noncomputable abbrev pL:ME:=aE 12
noncomputable abbrev uI:ME:=aE 13
noncomputable abbrev Jz:ME:=aE 14
noncomputable abbrev Ao:ME:=aE 15
noncomputable abbrev Dp:ME:=aE 16
noncomputable abbrev JA:ME:=aE 17
noncomputable abbrev bL:ME:=mC<|.int 0
noncomputable abbrev aX:ME:=mC<|.int 1
noncomputable abbrev cW:ME:=mC<|.int 2
noncomputable abbrev nY:ME:=mC<|.int 3
noncomputable abbrev dZ:ME:=mC<|.int 4
noncomputable abbrev Ap:ME:=mC<|.int 6
noncomputable abbrev Aq:ME:=mC<|.int 8
noncomputable abbrev bB(g:MF)(a:ME):ME:=bJ g<|aB a aG
noncomputable abbrev cB(g:MF)(a b:ME):ME:=bJ g<|aB a<|aB b aG
noncomputable abbrev fW(g:MF)(a b c:ME):ME:=bJ g<|aB a<|aB b<|aB c aG
noncomputable abbrev a8(i:Nat)(m:ME)(c:MS):MS:=aL (fR i m) c
noncomputable abbrev aI(a b:ME):ME:=aA bG a b
def Dq k a b:f (k+1) "is_whole" [a] b=fin ((aM<|fQ (cB nK aH<|mC<|.ty "int")<|tE<|cB nK aH<|mC<|.ty "bool") [b3 a] b):=""
def Xo k a b:f (k+1) "is_place" [a] b=fin ((aM<|fQ (cB nK aH<|mC<|.ty "tuple")<|fQ (aA (aZ b5) (bB dH aH) cW)<|fQ (bB (f k "is_whole")<|aI aH bL)<|bB (f k "is_whole")<|aI aH aX) [b3 a] b):=""
def Xp k a b:f (k+1) "is_corner" [a] b=fin ((aM<|fQ (aA (aZ b5) (aA b6 (aI aH bL) cW) bL)<|aA (aZ b5) (aA b6 (aI aH bL) dZ)<|aA b6 (aI aH aX) dZ) [b3 a] b):=""
def Xq k a b:f (k+1) "is_edge" [a] b=fin ((aL (bK (a7<|aA (aZ b5) (aA b6 (aI aH bL) cW) aX) (aM<|aA (aZ b5) (aA b6 (aI aH aX) cW) aX) bV)<|aM<|fQ (aA (aZ b5) (aA b6 (aI aH aX) cW) bL)<|aA (aZ dI) (aA b6 (aI aH bL) dZ)<|aA b6 (aI aH aX) dZ) [b3 a] b):=""
def Xr k a b:f (k+1) "is_quarter" [a] b=fin ((aL (bK (a7<|aA (aZ b5) (aA b6 (aI aH bL) cW) aX) (aM<|aA (aZ b5) (aA b6 (aI aH aX) dZ) cW) bV)<|aM<|fQ (aA (aZ b5) (aA b6 (aI aH bL) dZ) cW)<|aA (aZ b5) (aA b6 (aI aH aX) cW) aX) [b3 a] b):=""
def Xs k a b:f (k+1) "beside" [a] b=fin ((a8 1 (aI aH bL)<|a8 2 (aI aH aX)<|aM<|cR<|aB (cQ<|aB (aA iP aK aX)<|aB aN aG)<|aB (cQ<|aB aK<|aB (aA iP aN aX) aG)<|aB (cQ<|aB aK<|aB (aA bI aN aX) aG)<|aB (cQ<|aB (aA bI aK aX)<|aB aN aG) aG) [b3 a,b4,b4] b):=""
def Xu k a b:f (k+1) "sides_of" [a] b=fin ((aM<|eW (cS<|bB (f k "beside") aH) (c9<|bB (f k "is_quarter") aK) aK) [b3 a] b):=""
def Xv k a b c:f (k+1) "moved_by" [a,b] c=fin ((aM<|eW (cS aK) fE<|cQ<|aB (aA bI (aI aH bL)<|aI aN bL)<|aB (aA bI (aI aH aX)<|aI aN aX) aG) [b3 a,b3 b] c):=""
def Xw k a b:f (k+1) "edges_round" [a] b=fin ((aM<|cB (f k "moved_by") aH<|iO (a7<|aA (aZ b5) (aA b6 (aI aH bL) dZ) bL) (mC Jx)<|mC Jy) [b3 a] b):=""
def Xx k a b:f (k+1) "is_size" [a] b=fin ((aM<|fQ (bB (f k "is_whole") aH)<|kR tH tH aX aH Ap) [b3 a] b):=""
def Xy k a b c:f (k+1) "check_size" [a,b] c=fin ((bK (jT<|i9 (c9<|bB (f k "is_size") aH)<|c9<|bB (f k "is_size") aK) dQ bV) [b3 a,b3 b] c):=""
def Xz k a b:f (k+1) "is_mark" [a] b=fin ((aM<|fQ (cB nK aH<|mC<|.ty "str")<|aA (eH b5) aH<|mC Dn) [b3 a] b):=""
def XA k a b c d:f (k+1) "is_within" [a,b,c] d=fin ((aM<|fQ (kR gM gM bL (aI aN bL)<|aA b8 dZ aH)<|kR gM gM bL (aI aN aX)<|aA b8 dZ aK) [b3 a,b3 b,b3 c] d):=""
def XB k a b c:f (k+1) "places_within" [a,b] c=fin ((a8 2 (cR aG)<|aL (cA (mQ<|aB aX<|aB (aA b8 dZ aH) aG) (cL 3)<|dX<|eB oT aN<|aB (eW (mQ<|aB aX<|aB (aA b8 dZ aK) aG) fE<|cQ<|aB bC<|aB bY aG) aG)<|aM aN) [b3 a,b3 b,b4,b4] c):=""
def XC k a b c:f (k+1) "edges_in" [a,b] c=fin ((aM<|eW (cS<|cB (f k "places_within") aH aK) (c9<|bB (f k "is_edge") aN) aN) [b3 a,b3 b] c):=""
def XD k a b c:f (k+1) "corners_in" [a,b] c=fin ((aM<|eW (cS<|cB (f k "places_within") aH aK) (c9<|bB (f k "is_corner") aN) aN) [b3 a,b3 b] c):=""
def XE k a b c d:f (k+1) "is_inner_edge" [a,b,c] d=fin ((aM<|fQ (bB (f k "is_place") aN)<|fQ (fW (f k "is_within") aH aK aN)<|bB (f k "is_edge") aN) [b3 a,b3 b,b3 c] d):=""
def XF k a b c d:f (k+1) "sheet_of" [a,b,c] d=fin ((aL (dX<|cB (f k "check_size") aH aK)<|a8 3 iT<|aL (cA (cS aN) (cL 4)<|a8 5 (aI bY bL)<|aL (bK (jT<|c9<|fW (f k "is_inner_edge") aH aK dU) dQ bV)<|aL (bK (jT<|c9<|bB (f k "is_mark")<|aI bY aX) dQ bV)<|aL (bK (a7<|aA (eH b5) dU bC) dQ bV)<|eM bC dU<|aI bY aX)<|aM<|cQ<|aB aH<|aB aK<|aB (zL bC) aG) [b3 a,b3 b,b3 c,b4,b4,b4] d):=""
def JB k a b:f (k+1) "marks_in" [a] b=fin ((aM<|bB sC<|aI aH cW) [b3 a] b):=""
def XG k a b:f (k+1) "is_good" [a] b=fin ((aL (bK (lH (a7<|aA kM (bB dH aH) Aq)<|a7<|aA (aZ b5) (aA b6 (bB dH aH) cW) aX) (aM<|mC<|.bl b5) bV)<|aL (bK (jT<|c9<|bB yT<|eW (cS aH) fE<|fQ (bB (f k "is_whole") aK)<|aA vJ aK aX) (aM<|mC<|.bl b5) bV)<|aM<|aA (aZ b5) (bB oU<|qA aH mM mM<|mN cW)<|bB oU<|qA aH (mN aX) mM<|mN cW) [b3 a] b):=""
def XH k a b c:f (k+1) "creases_at" [a,b] c=fin ((a8 2 (bB (f k "marks_in") aH)<|aM<|eW (cS<|bB (f k "edges_round") aK) (a7<|aA (eH b5) bC aN) bC) [b3 a,b3 b,b4] c):=""
def XI k a b c:f (k+1) "gaps_at" [a,b] c=fin ((a8 2 (bB (f k "edges_round") aK)<|a8 3 (cB (f k "creases_at") aH aK)<|a8 4 (eW (cS bC) fE<|eB tX aN<|aB fA aG)<|a8 5 (aA bI (rH bY (mN aX) mM)<|eW (cS<|rH bY mM<|mN aX) fE<|aA bI fA<|bB dH aN)<|a8 6 (aA kL Aq<|bB dH aN)<|aM<|gX (pW 2) (oY<|aB bY<|aB dU aG) fE<|aA b8 (aA iP iV fA) dG) [b3 a,b3 b,b4,b4,b4,b4,b4] c):=""
def XJ k a b:f (k+1) "barred" [a] b=fin ((aL (cA (cS<|cB (f k "corners_in") (aI aH bL)<|aI aH aX) (cL 1)<|bK (jT<|c9<|bB (f k "is_good")<|cB (f k "gaps_at") aH aK) (aM aK) bV)<|aM<|mC .non) [b3 a,b4] b):=""
def XM k a b:f (k+1) "check_corners" [a] b=fin ((a8 1 (bB (f k "barred") aH)<|bK (a7<|aA (iS dI) aK<|mC .non) dQ bV) [b3 a,b4] b):=""
def XN k a b c:f (k+1) "led" [a,b] c=fin ((a8 2 (aI aK bL)<|a8 3 (aI aK aX)<|aM<|cQ<|aB (aA bI (aA bI (aA b8 (aI aH bL) aN)<|aA b8 (aI aH aX) bC)<|aI aH dZ)<|aB (aA bI (aA bI (aA b8 (aI aH cW) aN)<|aA b8 (aI aH nY) bC)<|aI aH<|mC<|.int 5) aG) [b3 a,b3 b,b4,b4] c):=""
def XO k a b:f (k+1) "is_turned" [a] b=fin ((aM<|aA (aZ b5) (aA iP (aA b8 (aI aH bL)<|aI aH nY)<|aA b8 (aI aH aX)<|aI aH cW)<|nM aX) [b3 a] b):=""
def XQ k a b c:f (k+1) "edges_laid" [a,b] c=fin ((a8 2 iT<|aL (cA (cS<|cB (f k "edges_in") (aI aH bL)<|aI aH aX) (cL 3)<|dX<|eB eZ (fU jY aN<|aB (cB (f k "led") (aI aK<|aI (bB (f k "sides_of") bC) bL) bC)<|aB (cR aG) aG)<|aB bC aG)<|aM aN) [b3 a,b3 b,b4,b4] c):=""
def XR k a b:f (k+1) "heights_in" [a] b=fin ((a8 1 iT<|aL (gO 0 (cA (t6 aH) (cL 2)<|cA (rZ<|aB aN aG) (dD [3,4])<|eM aK bY bC) dQ)<|aM aK) [b3 a,b4,b4,b4,b4] b):=""
def XS k a b c d:f (k+1) "quarters_at" [a,b,c] d=fin ((aM<|eW (cS<|bB (f k "sides_of") aH) (a7<|aA (aZ b5) (cB (f k "led") (aI aK bC) bC) aN) bC) [b3 a,b3 b,b3 c] d):=""
def XT k a b c d:f (k+1) "joined_at" [a,b,c] d=fin ((aM<|eW (cS<|bB (f k "sides_of") aN) fE<|fW (f k "quarters_at") aH aK bC) [b3 a,b3 b,b3 c] d):=""
def XU k a b c d:f (k+1) "count_between" [a,b,c] d=fin ((a8 3 (cB zT (aI aH<|aI aK bL)<|aI aH<|aI aK aX)<|a8 4 (cB zU (aI aH<|aI aK bL)<|aI aH<|aI aK aX)<|aM<|bB dH<|eW (cS aN) (a7<|kR gM gM bC (aI aH dU) bY) dU) [b3 a,b3 b,b3 c,b4,b4] d):=""
def JD k a b c d:f (k+1) "is_above" [a,b,c] d=fin ((aM<|aA kM (aI aH aK)<|aI aH aN) [b3 a,b3 b,b3 c] d):=""
def XW k a b c d:f (k+1) "crosses" [a,b,c] d=fin ((aL (cA (oY<|aB aK<|aB aN aG) (dD [3,4])<|aL (bK (a7<|aA (aZ b5) (bB dH bC) cW) (aM<|aA (aZ b5) (fW (f k "count_between") aH bC bY) aX) bV)<|bK (a7<|aA (aZ b5) (bB dH bY) cW) (aM<|aA (aZ b5) (fW (f k "count_between") aH bY bC) aX) bV)<|aM<|aA (aZ dI) (fW (f k "is_above") aH (aI (aI aK bL) bL)<|aI (aI aN bL) bL)<|fW (f k "is_above") aH (aI (aI aK aX) bL)<|aI (aI aN aX) bL) [b3 a,b3 b,b3 c,b4,b4] d):=""
def XX k a b c d e:f (k+1) "crossing_at" [a,b,c,d] e=fin ((a8 5 (eW (cS bC) fE<|fW (f k "joined_at") jI aK aN)<|a8 6 (cR aG)<|aL (cA (rZ<|aB bC aG) (dD [7,4])<|cA (mQ<|aB (aA bI fA aX)<|aB (bB dH bC) aG) (cL 8)<|bK (c9<|fW (f k "crosses") aH (aI dU fA)<|aI dU iV) (dX<|eB eZ dG<|aB (cQ<|aB bY<|aB (aI bC iV) aG) aG) bV)<|aM dG) [b3 a,b3 b,b3 c,b3 d,b4,b4,b4,b4,b4] e):=""
def XY k a b c d:f (k+1) "crossing" [a,b,c] d=fin ((a8 3 (bB (f k "heights_in") aN)<|a8 4 (cR aG)<|aL (cA (wF<|cB (f k "edges_laid") aH aK) (dD [5,6])<|dX<|eB oT bY<|aB (bJ (f k "crossing_at")<|aB bC<|aB aK<|aB dU<|aB dG aG) aG)<|aM<|cB t8 bY<|mC .non) [b3 a,b3 b,b3 c,b4,b4,b4,b4] d):=""
def XZ k a b c:f (k+1) "turned_first" [a,b] c=fin ((a8 2 (bB (f k "sides_of") aK)<|aL (bK (c9<|bB (f k "is_turned")<|aI aH<|aI aN bL) (aM aN) bV)<|aM<|cR<|aB (aI aN aX)<|aB (aI aN bL) aG) [b3 a,b3 b,b4] c):=""
def X2 k a b c d:f (k+1) "mark_by_heights" [a,b,c] d=fin ((a8 3 (cB (f k "turned_first") aK aN)<|aM<|iO (c9<|fW (f k "is_above") aH (aI bC bL)<|aI bC aX) (mC<|.str "v")<|mC<|.str "h") [b3 a,b3 b,b3 c,b4] d):=""
def X3 k a b c d:f (k+1) "marks_by" [a,b,c] d=fin ((a8 3 (bB (f k "heights_in") aN)<|aM<|gX (pW 2) (cS<|aI aH cW) fE<|cQ<|aB bY<|aB (fW (f k "mark_by_heights") bC aK bY) aG) [b3 a,b3 b,b3 c,b4] d):=""
def X4 k a b c d:f (k+1) "keeps" [a,b,c] d=fin ((aL (cA (oY<|aB (aI aH cW)<|aB (fW (f k "marks_by") aH aK aN) aG) (dD [3,4])<|bK (i9 (a7<|aA (aZ dI) (aI bC aX)<|mC<|.str "o")<|a7<|aA (aZ dI) (aI bC aX)<|aI bY aX) (aM<|mC<|.bl b5) bV)<|aM<|mC<|.bl dI) [b3 a,b3 b,b3 c,b4,b4] d):=""
def X5 k a b c d e:f (k+1) "tie_of" [a,b,c,d] e=fin ((aM<|cQ<|aB (cB zT aH aK)<|aB (cB zU aH aK)<|aB aN<|aB bC aG) [b3 a,b3 b,b3 c,b3 d] e):=""
def X6 k a b c:f (k+1) "is_least" [a,b] c=fin ((aM<|fQ (aA gM (aI aH aK)<|aI aH<|aA iP aK aX)<|aA gM (aI aH aK)<|aI aH<|aA b6 (aA bI aK aX)<|bB dH aH) [b3 a,b3 b] c):=""
def X7 k a b c d:f (k+1) "ties_of_gap" [a,b,c] d=fin ((a8 3 (bB dH aH)<|a8 4 (cR<|aB (bJ (f k "tie_of")<|aB (aI aH aK)<|aB (aI aH<|aA b6 (aA bI aK aX) bC)<|aB (mC<|.bl b5)<|aB aN aG) aG)<|aL (bK (a7<|aA (aZ b5) bC dZ) (dX<|eB eZ bY<|aB (bJ (f k "tie_of")<|aB (aI aH<|aA b6 (aA bI aK cW) dZ)<|aB (aI aH<|aA b6 (aA bI aK nY) dZ)<|aB (mC<|.bl dI)<|aB aN aG) aG) bV)<|aM bY) [b3 a,b3 b,b3 c,b4,b4] d):=""
def X8 k a b c:f (k+1) "ties_at" [a,b] c=fin ((a8 2 (cB (f k "creases_at") aH aK)<|a8 3 (cB (f k "gaps_at") aH aK)<|aL (bK (a7<|aA (aZ b5) (bB dH aN) cW) (aM<|cR<|aB (bJ (f k "tie_of")<|aB (aI aN bL)<|aB (aI aN aX)<|aB (mC<|.bl dI)<|aB aK aG) aG) bV)<|a8 4 (cR aG)<|aL (cA (oS<|aB (bB dH aN) aG) (cL 5)<|bK (c9<|cB (f k "is_least") bC dU) (dX<|eB oT bY<|aB (fW (f k "ties_of_gap") aN dU aK) aG) bV)<|aM bY) [b3 a,b3 b,b4,b4,b4,b4] c):=""
def X9 k a b:f (k+1) "ties" [a] b=fin ((aL (dX<|bB (f k "check_corners") aH)<|a8 1 (cR aG)<|aL (cA (cS<|cB (f k "corners_in") (aI aH bL)<|aI aH aX) (cL 2)<|dX<|eB oT aK<|aB (cB (f k "ties_at") aH aN) aG)<|aM<|bB t9 aK) [b3 a,b4,b4] b):=""
def Yb k a b:f (k+1) "walked_back" [a] b=fin ((aM<|cQ<|aB (aI aH aX)<|aB (aI aH bL)<|aB (aI aH cW)<|aB (aI aH nY) aG) [b3 a] b):=""
def Yc k a b:f (k+1) "steps_from" [a] b=fin ((a8 1 iT<|aL (cA (cS<|bB (f k "ties") aH) (cL 2)<|aL (dX<|eB eZ (fU jY aK<|aB (aI aN bL)<|aB (cR aG) aG)<|aB aN aG)<|dX<|eB eZ (fU jY aK<|aB (aI aN aX)<|aB (cR aG) aG)<|aB (bB (f k "walked_back") aN) aG)<|aM aK) [b3 a,b4,b4] b):=""
def Yd k a b:f (k+1) "is_marked" [a] b=fin ((aM<|BX wW aH) [b3 a] b):=""
def Ye k a b:f (k+1) "marked_creases" [a] b=fin ((aM<|gX (pW 2) (cS<|aI aH cW) (c9<|bB (f k "is_marked") aN) aK) [b3 a] b):=""
def Yg k a b c:f (k+1) "last_steps" [a,b] c=fin ((a8 2 iT<|aL (cA (cS aK) (cL 3)<|eM aN bC<|mC .non)<|a8 4 (bB o8 aK)<|aL (tT uG (c9 bY)<|a8 5 (eB pZ bY<|aB bL aG)<|cA (cS<|fU fV aH<|aB dU<|aB (cR aG) aG) (cL 6)<|bK (a7<|aA (eH dI) (aI dG aX) aN) (aL (eM aN (aI dG aX) dG)<|dX<|eB eZ bY<|aB (aI dG aX) aG) bV)<|aM aN) [b3 a,b3 b,b4,b4,b4,b4,b4] c):=""
def Yh k a b c:f (k+1) "way_by" [a,b] c=fin ((a8 2 (cR aG)<|a8 3 (aI aH aK)<|aL (tT uG (a7<|aA (iS dI) bC<|mC .non)<|aL (dX<|eB eZ aN<|aB bC aG)<|fR 3<|aI aH<|aI bC bL)<|aM<|bB nQ aN) [b3 a,b3 b,b4,b4] c):=""
def Yi k a b:f (k+1) "is_alike" [a] b=fin ((aM<|aA (aZ b5) (aA b6 (bB dH<|eW (cS aH) (jT<|c9<|aI aK cW) aK) cW) bL) [b3 a] b):=""
def Yj k a b:f (k+1) "back_by" [a] b=fin ((aM<|eW (vW<|aB aH aG) fE<|bB (f k "walked_back") aK) [b3 a] b):=""
def Yk k a b c:f (k+1) "round_by_step" [a,b] c=fin ((aM<|aA bI (aA bI (cB (f k "way_by") aH<|aI aK bL)<|cR<|aB aK aG)<|bB (f k "back_by")<|cB (f k "way_by") aH<|aI aK aX) [b3 a,b3 b] c):=""
def Yl k a b c d:f (k+1) "round_within" [a,b,c] d=fin ((a8 3 (cB (f k "last_steps") aH<|cR<|aB aN aG)<|aL (gO 3 (cA (eT bC) (cL 4)<|a8 5 (cB (f k "way_by") bC bY)<|aL (bK (i9 (c9<|bB (f k "is_marked")<|aI aK bY)<|i9 (c9<|bB (f k "is_marked")<|aI aK aN)<|a7<|aA (aZ dI) (bB (f k "is_alike") dU)<|aA (aZ b5) (aI aK bY)<|aI aK aN) (aM dU) bV)<|cA (cS<|fU fV aH<|aB bY<|aB (cR aG) aG) (cL 6)<|a8 7 (cB (f k "round_by_step") bC dG)<|bK (jT<|c9<|bB (f k "is_alike") fA) (aM fA) bV) dQ)<|aM<|mC .non) [b3 a,b3 b,b3 c,b4,b4,b4,b4,b4] d):=""
def Ym k a b:f (k+1) "round_of" [a] b=fin ((a8 1 (bB (f k "steps_from") aH)<|a8 2 (bB (f k "marks_in") aH)<|a8 3 iT<|aL (cA (cS<|aA bI (bB (f k "marked_creases") aH)<|bB o8 aN) (cL 4)<|bK (a7<|aA (eH dI) bY bC) (a8 5 (fW (f k "round_within") aK aN bY)<|aL (bK (a7<|aA (iS dI) dU<|mC .non) (aM dU) bV)<|dX<|fU sH bC<|aB (cB (f k "last_steps") aK<|cR<|aB bY aG) aG) bV)<|aM<|mC .non) [b3 a,b4,b4,b4,b4,b4] b):=""
def JE k a b c d:f (k+1) "carried_mark" [a,b,c] d=fin ((aL (bK (a7<|aA (eH dI) aN aK) (aM<|mC<|.str "o") bV)<|a8 3 (cB (f k "way_by") aK aN)<|a8 4 (iO (c9 bC) (aI (aI bC bL) bL) aN)<|aM<|iO (c9<|bB (f k "is_alike") bC) (aI aH bY)<|vO wW<|aI aH bY) [b3 a,b3 b,b3 c,b4,b4] d):=""
def Yn k a b:f (k+1) "carried" [a] b=fin ((a8 1 (cB (f k "last_steps") (bB (f k "steps_from") aH)<|bB (f k "marked_creases") aH)<|a8 2 (bB (f k "marks_in") aH)<|aM<|t5 2 (eW (eT aN) fE<|cQ<|aB bC<|aB (fW (f k "carried_mark") aN aK bC) aG) cT) [b3 a,b4,b4] b):=""
def Yo k a b c:f (k+1) "_law_given" [a,b] c=fin ((aL (bK (a7<|aA gM aK<|bB dH aH) (aM<|aI aH aK) bV)<|a8 2 (aA b8 (aA b8 (aA bI aK nY)<|aA bI aK nY)<|mC<|.int 48271)<|aM<|iO (a7<|aA (aZ b5) aH<|cR aG) aN<|aA bI aN<|aA b8 (aI aH<|aA b6 aK<|bB dH aH)<|aA bI aK<|mC<|.int 5) [b3 a,b3 b,b4] c):=""
def Yp k a b c:f (k+1) "_law_number" [a,b] c=fin ((aL (bK (a7<|aA (aZ b5) (aA b6 (cB (f k "_law_given") aH bL) cW) aX) (a8 2 (cB (f k "_law_given") aH aX)<|aL (cA (oS<|aB aK aG) (cL 3)<|fR 2<|aA kL aN<|aA rJ (mC<|.int 10) Ap)<|bK (a7<|aA kM aN bL) (aM<|aA b6 aN<|aA rJ (mC<|.int 10) Ap) bV) bV)<|a8 2 (aA bI (aA bI (aA b6 (cB (f k "_law_given") aH aK)<|mC<|.int 1000003)<|aA b8 (mC<|.int 7) aK) nY)<|aM<|aA b6 (aA b8 (aA b8 aN aN)<|mC<|.int 48271)<|mC<|.int 2147483647) [b3 a,b3 b,b4,b4] c):=""
def Yq k a b c:f (k+1) "_law_quarters" [a,b] c=fin ((a8 2 (cR aG)<|aL (cA (mQ<|aB aX<|aB (aA b8 dZ aH) aG) (cL 3)<|cA (mQ<|aB aX<|aB (aA b8 dZ aK) aG) (cL 4)<|bK (lH (i9 (a7<|aA (aZ b5) (aA b6 bC dZ) cW)<|a7<|aA (aZ b5) (aA b6 bY cW) aX)<|i9 (a7<|aA (aZ b5) (aA b6 bY dZ) cW)<|a7<|aA (aZ b5) (aA b6 bC cW) aX) (dX<|eB eZ aN<|aB (cQ<|aB bC<|aB bY aG) aG) bV)<|aM aN) [b3 a,b3 b,b4,b4,b4] c):=""
def Yr k a b c:f (k+1) "_law_rims" [a,b] c=fin ((a8 2 (cR aG)<|aL (cA (mQ<|aB aX<|aB (aA b8 dZ aH) aG) (cL 3)<|cA (mQ<|aB aX<|aB (aA b8 dZ aK) aG) (cL 4)<|bK (i9 (a7<|aA (aZ b5) (aA b6 bC cW)<|aA b6 bY cW)<|lH (a7<|aA (aZ b5) (aA b6 bC cW) aX)<|a7<|aA (aZ dI) (aA b6 bC dZ)<|aA b6 bY dZ) (dX<|eB eZ aN<|aB (cQ<|aB bC<|aB bY aG) aG) bV)<|aM aN) [b3 a,b3 b,b4,b4,b4] c):=""
def Ys k a b:f (k+1) "_law_beside" [a] b=fin ((aL (iE aH<|dD [1,2])<|aL (bK (a7<|aA (aZ b5) (aA b6 aK cW) aX) (aM<|cR<|aB (cQ<|aB aK<|aB (aA iP (aA bI aN cW)<|aA b6 aN dZ) aG)<|aB (cQ<|aB (aA iP (aA bI aK cW)<|aA b6 aK dZ)<|aB aN aG) aG) bV)<|aL (bK (a7<|aA (aZ b5) (aA b6 aN dZ) bL) (aM<|cR<|aB (cQ<|aB aK<|aB (aA iP aN aX) aG)<|aB (cQ<|aB aK<|aB (aA bI aN aX) aG) aG) bV)<|aM<|cR<|aB (cQ<|aB (aA iP aK aX)<|aB aN aG)<|aB (cQ<|aB (aA bI aK aX)<|aB aN aG) aG) [b3 a,b4,b4] b):=""
def Yt k a b c:f (k+1) "_law_value" [a,b] c=fin ((aL (iE aH<|dD [2,3])<|aM<|aI (cR<|aB bC<|aB aN<|aB (aA iP aN bC)<|aB (aA bI aN bC) aG) aK) [b3 a,b3 b,b4,b4] c):=""
def Yu k a b c:f (k+1) "_law_mirror" [a,b] c=fin ((a8 2 (cR<|aB (cQ<|aB aX<|aB bL<|aB bL<|aB (nM aX)<|aB bL<|aB (aA b8 cW aK) aG)<|aB (cQ<|aB (nM aX)<|aB bL<|aB bL<|aB aX<|aB (aA b8 cW aK)<|aB bL aG) aG)<|aM<|aI (aA bI aN<|cR<|aB (cQ<|aB bL<|aB aX<|aB aX<|aB bL<|aB aK<|aB (nM aK) aG)<|aB (cQ<|aB bL<|aB (nM aX)<|aB (nM aX)<|aB bL<|aB aK<|aB aK aG) aG) aH) [b3 a,b3 b,b4] c):=""
def Yv k a b c:f (k+1) "_law_led" [a,b] c=fin ((aL (iE aH<|dD [2,3,4,5,6,7])<|aL (iE aK<|dD [8,9])<|aM<|cQ<|aB (aA bI (aA bI (aA b8 aN iV)<|aA b8 bC jI) dG)<|aB (aA bI (aA bI (aA b8 bY iV)<|aA b8 dU jI) fA) aG) [b3 a,b3 b,b4,b4,b4,b4,b4,b4,b4,b4] c):=""
def Yw k a b c:f (k+1) "_law_then" [a,b] c=fin ((aL (iE aH<|dD [2,3,4,5,6,7])<|aL (iE aK<|dD [8,9,10,11,12,13])<|a8 14 (cQ<|aB (aA bI (aA b8 iV aN)<|aA b8 jI bY)<|aB (aA bI (aA b8 iV bC)<|aA b8 jI dU)<|aB (aA bI (aA b8 jJ aN)<|aA b8 nB bY)<|aB (aA bI (aA b8 jJ bC)<|aA b8 nB dU) aG)<|aM<|aA bI Jz<|cQ<|aB (aA bI (aA bI (aA b8 iV dG)<|aA b8 jI fA) pL)<|aB (aA bI (aA bI (aA b8 jJ dG)<|aA b8 nB fA) uI) aG) [b3 a,b3 b,b4,b4,b4,b4,b4,b4,b4,b4,b4,b4,b4,b4,b4] c):=""
def Yx k a b c d e g h:f (k+1) "_law_fold" [a,b,c,d,e,g] h=fin ((aL (gO 1 (fR 7<|eW (eT aK) fE<|aA (aZ b5) (aA kM (cB (f k "_law_value") Jz aN) bC) bY) dQ)<|aL (bK (lH (a7<|aA (eH dI) (mC<|.bl dI) fA)<|a7<|aA (eH dI) (mC<|.bl b5) fA) (aM<|cQ<|aB aH<|aB aK aG) bV)<|a8 8 (cB (f k "_law_mirror") aN bC)<|a8 9 iT<|aL (gO 0 (cA (eT aH) (cL 10)<|aL (eM jI jJ<|aI aH jJ)<|bK (a7<|aA (aZ b5) (aA kM (cB (f k "_law_value") (cB (f k "_law_led") (aI aH jJ) jJ) aN) bC) bY) (eM jI jJ<|cB (f k "_law_then") (aI aH jJ) iV) bV) dQ)<|a8 11 iT<|a8 12 iT<|aL (gO 1 (cA (eT aK) (cL 6)<|bK (a7<|aA (aZ b5) (aA kM (cB (f k "_law_value") dG aN) bC) bY) (eM pL (cB (f k "_law_led") iV dG)<|bB nQ<|aI aK dG)<|eM nB dG<|aI aK dG) dQ)<|aL (gO 12 (cA (eT pL) (cL 6)<|a8 13 (fU fV nB<|aB dG<|aB (cR aG) aG)<|eM nB dG<|iO (c9 dU) (aA bI uI<|aI pL dG)<|aA bI (aI pL dG) uI) dQ)<|aM<|cQ<|aB jI<|aB nB aG) [b3 a,b3 b,b3 c,b3 d,b3 e,b3 g,b4,b4,b4,b4,b4,b4,b4,b4] h):=""
def Yy k a b c d e g:f (k+1) "_law_grown" [a,b,c,d,e] g=fin ((a8 5 iT<|a8 6 iT<|aL (cA (cS<|cB (f k "_law_quarters") aK aN) (cL 7)<|aL (eM dU fA<|cQ<|aB aX<|aB bL<|aB bL<|aB aX<|aB bL<|aB bL aG)<|eM dG fA<|cR<|aB fA aG)<|aL (cA (oS<|aB bY aG) (cL 8)<|a8 9 (cB (f k "_law_number") aH<|aA bI bC iV)<|a8 10 (aA b6 jI dZ)<|a8 11 (bB qK dG)<|a8 12 (cB (f k "_law_value") (aI nB<|aA b6 (aA kL jI dZ)<|bB dH nB) jJ)<|a8 13 (aA b6 (aA kL jI<|mC<|.int 4096) dZ)<|iE (bJ (f k "_law_fold")<|aB dU<|aB dG<|aB jJ<|aB (aA iP pL<|aA b6 pL dZ)<|aB (aA (aZ b5) (aA b6 uI cW) bL)<|aB (aA gM uI cW) aG)<|dD [5,6])<|aM<|cQ<|aB dU<|aB dG aG) [b3 a,b3 b,b3 c,b3 d,b3 e,b4,b4,b4,b4,b4,b4,b4,b4,b4] g):=""
def Yz k a b c d:f (k+1) "_law_creased" [a,b,c] d=fin ((a8 3 (cR aG)<|aL (cA (cS<|cB (f k "_law_rims") aK aN) (cL 4)<|aL (iE (bB (f k "_law_beside") bY)<|dD [5,6])<|bK (a7<|aA (aZ dI) (aI aH dU)<|aI aH dG) (dX<|eB eZ bC<|aB bY aG) bV)<|aM bC) [b3 a,b3 b,b3 c,b4,b4,b4,b4] d):=""
def YA k a b:f (k+1) "_law_ranks" [a] b=fin ((a8 1 iT<|aL (gO 0 (cA (eT aH) (cL 2)<|cA (rZ<|aB (aI aH aN) aG) (dD [3,4])<|eM aK bY bC) dQ)<|aM aK) [b3 a,b4,b4,b4,b4] b):=""
def YB k a b c d e:f (k+1) "_law_marks" [a,b,c,d] e=fin ((a8 4 (bB (f k "_law_ranks") aK)<|a8 5 (cR aG)<|aL (cA (cS<|fW (f k "_law_creased") aH aN bC) (cL 6)<|aL (iE (bB (f k "_law_beside") dG)<|dD [7,8])<|aL (iE (aI aH fA)<|dD [9,10,11,12,13,14])<|a8 15 (aA kM (aI bY fA)<|aI bY iV)<|dX<|eB eZ dU<|aB (cQ<|aB dG<|aB (iO (a7<|aA (aZ b5) Ao<|aA gM (aA iP (aA b8 jI pL)<|aA b8 jJ nB) bL) (mC<|.str "v")<|mC<|.str "h") aG) aG)<|aM dU) [b3 a,b3 b,b3 c,b3 d,b4,b4,b4,b4,b4,b4,b4,b4,b4,b4,b4,b4] e):=""
def YC k a b c:f (k+1) "_law_opened" [a,b] c=fin ((a8 2 (cR aG)<|a8 3 (aA b6 (cB (f k "_law_number") aK aX)<|mC<|.int 11)<|aL (cA (cS aH) (dD [4,5])<|a8 6 (cB (f k "_law_number") aK<|aA bI Aq<|bB dH aN)<|dX<|eB eZ aN<|aB (cQ<|aB bY<|aB (iO (a7<|aA gM (aA b6 (aA kL dG Aq)<|mC<|.int 10) bC) dU<|mC<|.str "o") aG) aG)<|aM aN) [b3 a,b3 b,b4,b4,b4,b4,b4] c):=""
def YD k a b:f (k+1) "law" [a] b=fin ((a8 1 (cB (f k "_law_number") aH bL)<|a8 2 (aA bI aX<|aA b6 aK nY)<|a8 3 (aA bI aX<|aA b6 (aA kL aK nY) nY)<|aL (iE (bJ (f k "_law_grown")<|aB aH<|aB aN<|aB bC<|aB cW<|aB (aA b6 (aA kL aK<|mC<|.int 9) Ap) aG)<|dD [4,5])<|a8 6 (cB (f k "_law_opened") (bJ (f k "_law_marks")<|aB bY<|aB dU<|aB aN<|aB bC aG) aH)<|a8 7 (fW (f k "sheet_of") aN bC dG)<|aL (bK (lH (a7<|aA (iS dI) (fW (f k "crossing") fA bY dU)<|mC .non)<|jT<|c9<|fW (f k "keeps") fA bY dU) (aM<|mC<|.bl b5) bV)<|a8 8 iT<|aL (cA (cS<|fW (f k "marks_by") fA bY dU) (dD [9,10])<|eM iV jI jJ)<|aL (cA (cS<|bB (f k "ties") fA) (dD [11,12,13,14])<|bK (a7<|aA (aZ dI) (aA (aZ b5) (aI iV nB)<|aI iV pL) uI) (aM<|mC<|.bl b5) bV)<|aL (bK (a7<|aA (iS dI) (bB (f k "round_of") fA)<|mC .non) (aM<|mC<|.bl b5) bV)<|a8 15 (bB (f k "carried") fA)<|aL (bK (a7<|aA (aZ dI) (gX (pW 2) (cS Ao) fE JA)<|gX (pW 2) (cS dG) fE JA) (aM<|mC<|.bl b5) bV)<|aL (cA (oS<|aB (bB dH Ao) aG) (cL 16)<|aL (iE (aI Ao Dp)<|dD [9,10])<|bK (lH (a7<|aA (eH dI) jJ<|cQ<|aB (mC<|.str "o")<|aB (aI iV jI) aG)<|i9 (a7<|aA (aZ dI) (aI (aI dG Dp) aX)<|mC<|.str "o")<|a7<|aA (aZ dI) jJ<|aI (aI dG Dp) aX) (aM<|mC<|.bl b5) bV)<|aM<|mC<|.bl dI) [b3 a,b4,b4,b4,b4,b4,b4,b4,b4,b4,b4,b4,b4,b4,b4,b4,b4] b):=""
def uJ{Q:jz}:W (b8 (.int 4) (.int z) a) Q↔Q (.int<|4*z,a):=pJ<|.inl ⟨⋯,⋯⟩
def ĭ{Q:jz}:W (b6 (.int z) (.int 2) a) Q↔Q (.int<|z%2,a):=iH ⋯
def ġ{Q:jz}:W (b6 (.int z) (.int 4) a) Q↔Q (.int<|z%4,a):=iH ⋯
def jl{Q:jz}:W (kL (.int z) (.int 4) a) Q↔Q (.int<|z/4,a):=sI ⋯<|by decide
def YE:(2:Nat)<=Ñ:=⋯
def gZ:([a,b]:List D).length<=Ñ:=YE
def YF:(1:Nat)<=Ñ:=⋯
def Ds:([a]:List D).length<=Ñ:=YF
abbrev sZ:D->Int
 |.int i=>i|_=>0
def YG(h:d∈pK lo n):∃j,j<n/\d=.int (lo+(j:Int)):=by unfold pK at h;let⟨j,h1,rfl⟩:=Ô.mp h;show⟨j,ň.mp h1,rfl⟩
def JG{C:MS}{Q:jz}(h:t a c=b3 (b,μ'))(h1:b=dI->W (fin<|aL A C a μ') Q)(d:b=b5->W (fin<|aL B C a μ') Q):W (fin<|aL (bK t A B) C a c) Q:=by
 ext b
 .let e:aL (bK t A B) C a c=aL B C a μ':=by ext aL bK;rw[h];rfl
  rw[e];show d rfl
 .let e:aL (bK t A B) C a c=aL A C a μ':=by ext aL bK;rw[h];rfl
  rw[e];show h1 rfl
def Dt{C:MS}{Q:jz}(h:a d c=b3 (.nx,b,μ'))(k:W (fin<|C b μ') Q):W (fin<|aL a C d c) Q:=by ext aL;rw[h];show k
def YH{o:Option a}{r:a}{Q:a->Prop}(h:W o λx=>x=r):W o Q↔Q r:=by let⟨_,h,rfl⟩:=h;rw[h];show À
def YI{ds:List D}{Q:jz}(h:a c b=b3 (ds,μ'))(k:W (g ds μ') Q):W (bJ g a c b) Q:=by ext bJ;rw[h];show k
def YJ{Q:jz}(h1:a e h=b3 (x,c))(i:b e c=b3 (y,d))(k:W (g x y d) Q):W (aA g a b e h) Q:=by ext aA;rw[h1,Đ,i];show k
def YK{Q:jz}(k:W (m b a) Q):W (fin<|aM m b a) Q:=è.mpr<|Ð.mpr<|bP k λ_ q=>q
def hG{o:Option α}{r:α}{Q:α->Prop}(h:o=b3 r)(q:Q r):W o Q:=⟨r,h,q⟩
def Ï{Q:jz}(e:o=fin a)(h:W a λp=>match p.1 with|.rt d=>Q (d,p.2.2)|.nx=>Q (.non,p.2.2)|_=>False):W o Q:=e▸è.mpr h
def bD{C:MS}(h:W (m ρ μ) λp=>W (C (ρ.set i<|b3 p.1) p.2) R):W (aL (fR i m) C ρ μ) R:=Ç.mpr<|ċ.mpr h
def fX{C:MS}(h:W (A ρ μ) λp=>p.1=.nx/\W (C p.2.1 p.2.2) R):W (aL A C ρ μ) R:=Ç.mpr<|bP h λp q=>by rw[q.1];show q.2
def Ar{C:MS}(h:W (m ρ μ) λp=>W (C ρ p.2) R):W (aL (dX m) C ρ μ) R:=Ç.mpr<|ë.mpr h
def cJ(h:W (m ρ μ) λp=>R (.rt p.1,ρ,p.2)):W (aM m ρ μ) R:=Ð.mpr h
def aS{ds:List D}{Q:jz}(h:ms ρ μ=b3 (ds,μ'))(k:W (g ds μ') Q):W (bJ g ms ρ μ) Q:=ä.mpr ⟨_,h,k⟩
def dJ{Q:jz}(h:W (ms ρ μ) λp=>W (g p.1 p.2) Q):W (bJ g ms ρ μ) Q:=ä.mpr h
def aQ(h:W (m ρ μ) λp=>W (ms ρ p.2) λq=>Q (p.1::q.1,q.2)):W (aB m ms ρ μ) Q:=Ë.mpr h
def Du{Q:jz}(h:W (m ρ μ) λp=>W (g [p.1] p.2) Q):W (bJ g (aB m aG) ρ μ) Q:=ä.mpr<|Ë.mpr<|bP h λ_ q=>⟨_,rfl,q⟩
def Dv{C:MS}(h:t ρ μ=b3 (b,μ'))(h1:b=dI->W (aL A C ρ μ') R)(a:b=b5->W (aL B C ρ μ') R):W (aL (bK t A B) C ρ μ) R:=by
 show Ç.mpr<|Ò.mpr ⟨_,h,?_⟩;ext b
 .show Ç.mp<|a rfl
 .show Ç.mp<|h1 rfl
def YL{C:MS}(h:W (t ρ μ) λp=>p.1=dI/\W (aL A C ρ p.2) R):W (aL (bK t A B) C ρ μ) R:=Ç.mpr<|Ò.mpr<|bP h λp q=>by rw[if_pos q.1];show Ç.mp q.2
def sL{C:MS}(h:W (t ρ μ) λp=>p.1=b5/\W (aL B C ρ p.2) R):W (aL (bK t A B) C ρ μ) R:=Ç.mpr<|Ò.mpr<|bP h λp q=>by rw[if_neg<|by rw[q.1];show ô];show Ç.mp q.2
def sN(h:W (t ρ μ) λp=>T (!p.1,p.2)):W (jT t ρ μ) T:=θ.mpr h
def hJ(h:W (m ρ μ) λp=>p.1=.bl b/\T (b,p.2)):W (c9 m ρ μ) T:=Ĺ.mpr<|bP h λp ⟨e,q⟩=>by rw[e];show Ũ.mpr q
def Dw{C:MS}(h:W (m ρ μ) λp=>R (.rt p.1,ρ,p.2)):W (aL (aM m) C ρ μ) R:=Ç.mpr<|Ð.mpr h
def nZ{C:MS}(h:W (C ρ μ) R):W (aL bV C ρ μ) R:=Ç.mpr<|Î.mpr h
def c5(h:W (m ρ μ) λp=>∃b,p.1=.bl b/\T (b,p.2)):W (a7 m ρ μ) T:=Ę.mpr<|bP h λp ⟨b,e,q⟩=>by rw[e];show q
def Dx(h:W (s ρ μ) λp=>p.1=b5/\W (t ρ p.2) T):W (lH s t ρ μ) T:=Ū.mpr<|bP h λp q=>by rw[if_neg<|by rw[q.1];show ô];show q.2
def aP{Q:jz}(h1:a ρ μ=b3 (x,c))(e:b ρ c=b3 (y,d))(k:W (h x y d) Q):W (aA h a b ρ μ) Q:=é.mpr ⟨_,h1,_,e,k⟩
def aO{Q:jz}(k:W (a ρ μ) λp=>W (b ρ p.2) λq=>W (h p.1 q.1 q.2) Q):W (aA h a b ρ μ) Q:=é.mpr k
abbrev eU(p e:Int×Int):Int×Int:=
 if e.1%2=1 then(if e.1%4=e.2%4 then(p.2+(e.1-e.2),p.1-(e.1-e.2))else(e.1+e.2-p.2,e.1+e.2-p.1))else if e.2%4=0 then(p.1,2*e.2-p.2)else(2*e.1-p.1,p.2)
def YM p a b:eU (eU p (a,b)) (a,b)=p:=by let⟨x,y⟩:=p;ext eU;dsimp;split<;>split<;>(show đ ?_ ?_<;>dsimp<;>lia)
abbrev eN:D->Int×Int
 |.tup [.int x,.int y]=>(x,y)|_=>(0,0)
def uK p(l:jq):((l.map PP).filter λd=>p<|eN d).map (λd=>d)=(l.filter p).map PP:=by
 rw[OE];induction l with
 |nil=>rfl|cons a l b=>
  let e:(MP PP<|a::l).filter (λd=>p<|eN d)=if p a then PP a::(l.map PP).filter (λd=>p<|eN d)else(l.map PP).filter λd=>p (eN d):=by rw[ó,iz];rfl
  rw[e,b,iz];split<;>rfl
def wX{l:jq}(h:d∈l.map PP):∃x y,d=P x y:=by let⟨p,_,rfl⟩:=Ô.mp h;show⟨p.1,p.2,rfl⟩
def Dy{n:Nat}{i:Int}(h0:0<=i)(h:i<n):mJ n i=b3 i.toNat:=by ext mJ;rw[if_pos h0,if_pos h]
def JH{a:List Int}{i:Int}(h0:0<=i)(h:i<a.length):atI (a.map D.int) i=b3 (.int<|a.getD i.toNat 0):=by
 ext atI;rw[Ã,Dy h0 h,Đ,ú];let hi:i.toNat<a.length:=()
 simp[ĩ,hi]
def JI{Q:jz}(h:atI xs i=b3 d):W (bG (.rol xs) (.int i) a) Q↔Q (d,a):=by
 have:bG (.rol xs) (.int i) a=b3 (d,a):=by dsimp[bG,kJ,bO,Đ,h,Ĕ]
 rw[this];show À
abbrev n9:List Int->Int
 |[]=>0|g::r=>g-n9 r
def YN{Q:jz}(d:a[b]?=b3 (.lst [])):W (aZ b5 (.rol<|ns.map D.int) (.loc b) a) Q↔Q (.bl<|ns==[],a):=by
 let h1:kK a (.rol<|ns.map D.int)=b3 (.lst<|ns.map D.int):=rfl;let c:kK a (.loc b)=b3 (.lst<|([]:List Int).map D.int):=by dsimp[kK,d];rfl
 have:eL 8 a (.rol<|ns.map D.int) (.loc b)=b3 (ns==[]):=by change(kK a<|.rol<|ns.map D.int).bind (λx=>(kK a<|.loc b).bind λy=>vH (eL 7 a) x y)=_;rw[h1,c];show Jn 6 a ns []
 ext aZ;rw[this];show À
structure Ly where
 a:Int
 b:Int
 c:Int
 d:Int
 e:Int
 g:Int
 deriving DecidableEq
noncomputable abbrev LD(A:Ly):D:=.tup [.int A.a,.int A.b,.int A.c,.int A.d,.int A.e,.int A.g]
abbrev ė(A:Ly):Prop:=(A.b=0/\A.c=0/\(A.a=1\/A.a=-1)/\(A.d=1\/A.d=-1))\/(A.a=0/\A.d=0/\(A.b=1\/A.b=-1)/\(A.c=1\/A.c=-1))
def ė.sm(h:ė A):(-1<=A.a/\A.a<=1)/\(-1<=A.b/\A.b<=1)/\(-1<=A.c/\A.c<=1)/\(-1<=A.d/\A.d<=1):=by
 let z:∀{x:Int},x=0->-1<=x/\x<=1:=λe=>e▸by decide
 let o:∀{x:Int},x=1\/x=-1->-1<=x/\x<=1:=λe=>by rcases e with e|e<;>ext e<;>decide
 show h.elim (λ⟨b,c,a,d⟩=>⟨o a,z b,z c,o d⟩) λ⟨a,d,b,c⟩=>⟨z a,o b,o c,z d⟩
abbrev aC(A:Ly)(p:Int×Int):Int×Int:=(A.a*p.1+A.b*p.2+A.e,A.c*p.1+A.d*p.2+A.g)
abbrev dA(A B:Ly):Ly:=⟨B.a*A.a+B.b*A.c,B.a*A.b+B.b*A.d,B.c*A.a+B.d*A.c,B.c*A.b+B.d*A.d,B.a*A.e+B.b*A.g+B.e,B.c*A.e+B.d*A.g+B.g⟩
abbrev Dz(A:Ly):Ly:=⟨A.a,A.c,A.b,A.d,-(A.a*A.e+A.c*A.g),-(A.b*A.e+A.d*A.g)⟩
abbrev fD:Ly:=⟨1,0,0,1,0,0⟩
abbrev fY(e:Int×Int):Ly:=
 ⟨(eU (1,0) e).1-(eU (0,0) e).1,(eU (0,1) e).1-(eU (0,0) e).1,(eU (1,0) e).2-(eU (0,0) e).2,(eU (0,1) e).2-(eU (0,0) e).2,(eU (0,0) e).1,(eU (0,0) e).2⟩
abbrev d7(A:Ly):Int:=A.a*A.d-A.b*A.c
def Ly.ext'{A:Ly}(h1:A.a=B.a)(a:A.b=B.b)(b:A.c=B.c)(c:A.d=B.d)(d:A.e=B.e)(e:A.g=B.g):A=B:=by ext A;ext B;simp_all
def JJ(a b d:Int):a+d-(b+d)=a-b:=()
def JK(a b d:Int):a-d-(b-d)=a-b:=()
def qP(a b d:Int):d-a-(d-b)=b-a:=()
def JM e:ė (fY e):=by
 ext fY eU;split<;>split
 .show .inr ⟨JJ 0 0 _,JK 0 0 _,.inl<|JJ 1 0 _,.inl<|JK 1 0 _⟩
 .show .inr ⟨qP 0 0 _,qP 0 0 _,.inr<|qP 1 0 _,.inr<|qP 1 0 _⟩
 .show .inl ⟨rfl,qP 0 0 _,.inl rfl,.inr<|qP 1 0 _⟩
 .show .inl ⟨qP 0 0 _,rfl,.inr<|qP 1 0 _,.inl rfl⟩
def DA e:d7 (fY e)=-1:=by
 let h:=JM e;let⟨x,y⟩:=e;unfold d7 fY eU;dsimp;split<;>split<;>dsimp
 .rw[show(0:Int)+(x-y)-(0+(x-y))=0 by lia,show(1:Int)+(x-y)-(0+(x-y))=1 by lia,show(1:Int)-(x-y)-(0-(x-y))=1 by lia,show(0:Int)-(x-y)-(0-(x-y))=0 by lia];rfl
 .rw[show x+y-0-(x+y-0)=0 by lia,show x+y-1-(x+y-0)=-1 by lia];rfl
 .rw[show(1:Int)-0=1 by rfl,show 2*y-1-(2*y-0)=-1 by lia,show(0:Int)-0=0 by rfl,show 2*y-0-(2*y-0)=0 by lia];rfl
 .rw[show 2*x-1-(2*x-0)=-1 by lia,show(1:Int)-0=1 by rfl,show 2*x-0-(2*x-0)=0 by lia,show(0:Int)-0=0 by rfl];rfl
def kU e p:aC (fY e) p=eU p e:=by
 let⟨x,y⟩:=e;let⟨u,v⟩:=p;unfold aC fY eU;dsimp;split<;>split<;>dsimp
 .rw[show(0:Int)+(x-y)-(0+(x-y))=0 by lia,show(1:Int)+(x-y)-(0+(x-y))=1 by lia,show(1:Int)-(x-y)-(0-(x-y))=1 by lia,show(0:Int)-(x-y)-(0-(x-y))=0 by lia];show đ ?_ ?_<;>dsimp<;>lia
 .rw[show x+y-0-(x+y-0)=0 by lia,show x+y-1-(x+y-0)=-1 by lia];show đ ?_ ?_<;>dsimp<;>lia
 .rw[show(1:Int)-0=1 by rfl,show 2*y-1-(2*y-0)=-1 by lia,show(0:Int)-0=0 by rfl,show 2*y-0-(2*y-0)=0 by lia];show đ ?_ ?_<;>dsimp<;>lia
 .rw[show 2*x-1-(2*x-0)=-1 by lia,show(1:Int)-0=1 by rfl,show 2*x-0-(2*x-0)=0 by lia,show(0:Int)-0=0 by rfl];show đ ?_ ?_<;>dsimp<;>lia
def j5 A B p:aC (dA A B) p=aC B (aC A p):=by ext aC dA;show đ ?_ ?_<;>dsimp<;>grind
def Au A B:d7 (dA A B)=d7 A*d7 B:=by ext d7 dA;dsimp;grind
def YO A:dA A fD=A:=by ext dA fD;show Ly.ext' (by dsimp;lia) (by dsimp;lia) (by dsimp;lia) (by dsimp;lia) (by dsimp;lia)<|by dsimp;lia
def YQ A:dA fD A=A:=by ext dA fD;show Ly.ext' (by dsimp;lia) (by dsimp;lia) (by dsimp;lia) (by dsimp;lia) (by dsimp;lia)<|by dsimp;lia
def Av A B E:dA (dA A B) E=dA A (dA B E):=by ext dA;show Ly.ext' ?_ ?_ ?_ ?_ ?_ ?_<;>dsimp<;>grind
def JN:ė fD:=.inl ⟨rfl,rfl,.inl rfl,.inl rfl⟩
def DB(h:ė A):∃e g,A=⟨1,0,0,1,e,g⟩\/A=⟨1,0,0,-1,e,g⟩\/A=⟨-1,0,0,1,e,g⟩\/A=⟨-1,0,0,-1,e,g⟩\/A=⟨0,1,1,0,e,g⟩\/A=⟨0,1,-1,0,e,g⟩\/A=⟨0,-1,1,0,e,g⟩\/A=⟨0,-1,-1,0,e,g⟩:=by
 let⟨a,b,c,d,e,g⟩:=A;show⟨e,g,?_⟩;rcases h with⟨h1,k,i,j⟩|⟨h1,k,i,j⟩<;>ext h1<;>ext k
 .rcases i with i|i<;>rcases j with j|j<;>ext i<;>ext j
  .show .inl rfl
  .show .inr<|.inl rfl
  .show .inr<|.inr<|.inl rfl
  .show .inr<|.inr<|.inr<|.inl rfl
 .rcases i with i|i<;>rcases j with j|j<;>ext i<;>ext j
  .show .inr<|.inr<|.inr<|.inr<|.inl rfl
  .show .inr<|.inr<|.inr<|.inr<|.inr<|.inl rfl
  .show .inr<|.inr<|.inr<|.inr<|.inr<|.inr<|.inl rfl
  .show .inr<|.inr<|.inr<|.inr<|.inr<|.inr<|.inr rfl
def qQ(a:x=1\/x=-1)(b:y=1\/y=-1):x*y=1\/x*y=-1:=by rcases a with rfl|rfl<;>rcases b with rfl|rfl<;>decide
def qR{x:Int}(h:x=0\/y=0)(k:z=0\/t=0):x*y+z*t=0:=by rw[iy.mpr h,iy.mpr k];rfl
def Aw(k:z=0\/t=0)(h:x*y=1\/x*y=-1):x*y+z*t=1\/x*y+z*t=-1:=by rw[iy.mpr k,yx];show h
def Ax(k:x=0\/y=0)(h:z*t=1\/z*t=-1):x*y+z*t=1\/x*y+z*t=-1:=by rw[iy.mpr k,OM];show h
def DC(hA:ė A)(hB:ė B):ė (dA A B):=by
 rcases hA with⟨a,b,c,d⟩|⟨a,b,c,d⟩<;>rcases hB with⟨u,v,w,x⟩|⟨u,v,w,x⟩
 .show .inl ⟨qR (.inr a)<|.inl u,qR (.inl v)<|.inr b,Aw (.inl u)<|qQ w c,Ax (.inl v)<|qQ x d⟩
 .show .inr ⟨qR (.inl u)<|.inr b,qR (.inr a)<|.inl v,Ax (.inl u)<|qQ w d,Aw (.inl v)<|qQ x c⟩
 .show .inr ⟨qR (.inr a)<|.inl u,qR (.inl v)<|.inr b,Aw (.inl u)<|qQ w c,Ax (.inl v)<|qQ x d⟩
 .show .inl ⟨qR (.inl u)<|.inr b,qR (.inr a)<|.inl v,Ax (.inl u)<|qQ w d,Aw (.inl v)<|qQ x c⟩
def JO(hA:ė A)p:aC (Dz A) (aC A p)=p:=by let⟨e,g,h⟩:=DB hA;rcases h with rfl|rfl|rfl|rfl|rfl|rfl|rfl|rfl<;>(show đ ?_ ?_<;>dsimp only[aC,Dz]<;>lia)
def DD(h:∀p,aC A p=aC B p):A=B:=by let h0:=h (0,0);let h1:=h (1,0);let a:=h (0,1);unfold aC at h0 h1 a;dsimp[Od]at h0 h1 a;show Ly.ext' () () () () () ()
def Ay p:aC fD p=p:=by ext aC fD;show đ ?_ ?_<;>dsimp<;>lia
def DE:([a,b,c,d,e,g]:List D).length<=Ñ:=by change(6:Nat)<=Ñ;decide
def l8(h:-1<=i/\i<=1){Q:jz}:W (b8 (.int i) (.int j) a) Q↔Q (.int<|i*j,a):=pJ<|.inl ⟨(),()⟩
def JP{Q:jz}(h0:bG A (.int c0) c=b3 (.int a,c))(h1:bG A (.int c1) c=b3 (.int b,c))(k:bG A (.int h) c=b3 (.int e,c))(g:aE n d c=b3 (A,c))(hi:aE i d c=b3 (.int x,c))(q:aE j d c=b3 (.int y,c))(o:-1<=a/\a<=1)(p:-1<=b/\b<=1)(H:Q (.int<|a*x+b*y+e,c)):
  W (aA bI (aA bI (aA b8 (aA bG (aE n)<|mC<|.int c0)<|aE i)<|aA b8 (aA bG (aE n)<|mC<|.int c1)<|aE j) (aA bG (aE n)<|mC<|.int h) d c) Q:=
 aO<|aO<|aO<|aP g rfl ⟨_,h0,_,hi,(l8 o).mpr<|aO<|aP g rfl ⟨_,h1,_,q,(l8 p).mpr<|Û.mpr<|aP g rfl ⟨_,k,Û.mpr H⟩⟩⟩
def JQ k A(hA:ė A)x y a(Q:jz):W (f (k+1) "led" [LD A,P x y] a) Q↔Q (PP<|aC A (x,y),a):=by
 let⟨h1,b,c,d⟩:=hA.sm;show YH <|
  Ï (XN k _ _ a)<|bD ⟨_,rfl,bD ⟨_,rfl,cJ<|à.mpr<|aQ<|JP rfl rfl rfl rfl rfl rfl h1 b<|aQ<|JP rfl rfl rfl rfl rfl rfl c d ⟨_,rfl,gZ,rfl⟩⟩⟩
def YR k A(hA:ė A)a(Q:jz):W (f (k+1) "is_turned" [LD A] a) Q↔Q (.bl<|d7 A==-1,a):=by let⟨h1,b,c,d⟩:=hA.sm;rw[XO,è];dsimp[Ð,é,cM,fN,Jj,Xb,Xc,Xd,Xe,l8 h1,l8 b,ũ,ą];rfl
abbrev nC(lo:Int)(n m:Nat):jq:=(Ā n).flatMap λ(i:Nat)=>(Ā m).map λ(j:Nat)=>(lo+(i:Int),lo+(j:Int))
abbrev nD(lo x:Int)(m:Nat):jq:=(Ā m).map λ(j:Nat)=>(x,lo+(j:Int))
def JR lo n m:nC lo (n+1) m=nC lo n m++nD lo (lo+(n:Int)) m:=by ext nC nD;rw[NM,ur];simp
def JS lo x m:nD lo x (m+1)=nD lo x m++[(x,lo+(m:Int))]:=by ext nD;rw[NM,þ];rfl
def JT lo x m:(nD lo x m).length=m:=by ext nD;simp
def JU lo m:∀n,(nC lo n m).length=n*m
 |0=>by simp[nC]
 |n+1=>by rw[JR,ă,JU lo m n,JT,OO]
def JV{b:Hm}:(b.set a c).set a c'=b.set a c':=Q6 ..
def cU{b:Hm}(h:b[a]?=b3 c):(b.set a c')[a]?=b3 c':=by rw[Ϥ (â.mp h).1]
def DF(a:Hm)(c c':C):(a++[c]).set a.length c'=a++[c']:=by rw[PM _ _<|Ø _];simp
def DG{b:Hm}(h:b[a]?=b3 c):b.set a c=b:=by let⟨d,rfl⟩:=â.mp h;show List.set_getElem_self d
noncomputable abbrev JW:MS:=dX<|eB eZ (aE 2)<|aB (cQ<|aB (aE 3)<|aB (aE 4) aG) aG
def YS T(c:Int->Int->Bool)e g a x(s:∀y b Q,W (T [b3 e,b3 g,b3<|.loc a,b3<|.int x,b3<|.int y] b) Q↔Q (c x y,b))lo m(ps:jq)(u:ps.length+m<=1000)b(h:b[a]?=b3 (.lst<|ps.map PP))o Q(d:∀o,Q (.nx,[b3 e,b3 g,b3<|.loc a,b3<|.int x,o],b.set a<|.lst<|(ps++(nD lo x m).filter λp=>c p.1 p.2).map PP)):W (fS (kN lo m) (cL 4) (bK T JW bV) (m+1) 0 [b3 e,b3 g,b3<|.loc a,b3<|.int x,o] b) Q:=by
 show qO (λi n j=>i<=m/\j=b.set a (.lst<|(ps++(nD lo x i).filter λp=>c p.1 p.2).map PP)/\∃o,n=[b3 e,b3 g,b3<|.loc a,b3<|.int x,o]) ⟨ĵ _,?_,o,rfl⟩ ?_ ?_
 .dsimp[nD,QU,϶,zm,ŉ];show(DG h).symm
 .rintro i n k hi ⟨_,rfl,o,rfl⟩;show⟨_,rfl,?_⟩;dsimp[Λ,δ,Ò];rw[s];cases q:c x (lo+(i:Int))with
  |false=>dsimp[Ň,if_false,Î];show⟨hi,?_,_,rfl⟩;rw[JS,ϣ];simp[q]|true=>
   dsimp[if_true,ë];show jG ?_;dsimp[cM,dC];show⟨iI<|cU h,?_⟩;dsimp[Ë,eC,à,cM,dC,gZ,true_and];show(mZ (cU h) ?_).mpr ?_
   .have:=ż (λp=>c p.1 p.2)<|nD lo x i;rw[JT]at this;rw[Ã,ă,ï];lia
   show⟨hi,?_,_,rfl⟩;rw[JV,JS,ϣ];simp[q,PP,P]
 .rintro n k ⟨_,rfl,o,rfl⟩;show d o
def JX T(e:Int->Int->Bool)c d a(s:MI)lo m(hit:∀o1 o2 b Q,W (s [b3 c,b3 d,b3<|.loc a,o1,o2] b) Q↔Q (kN lo m,m+1,b))(u:∀x y b Q,W (T [b3 c,b3 d,b3<|.loc a,b3<|.int x,b3<|.int y] b) Q↔Q (e x y,b))n(w:n*m+m<=900)b(q:b[a]?=b3 (.lst []))Q(g:∀o1 o2,Q (.nx,[b3 c,b3 d,b3<|.loc a,o1,o2],b.set a<|.lst<|((nC lo n m).filter λp=>e p.1 p.2).map PP)):W (fS (kN lo n) (cL 3) (cA s (cL 4)<|bK T JW bV) (n+1) 0 [b3 c,b3 d,b3<|.loc a,b4,b4] b) Q:=by
 show qO (λi k h=>i<=n/\h=b.set a (.lst<|((nC lo i m).filter λp=>e p.1 p.2).map PP)/\∃o1 o2,k=[b3 c,b3 d,b3<|.loc a,o1,o2]) ⟨ĵ _,?_,b4,b4,rfl⟩ ?_ ?_
 .dsimp[nC,QU,RG,zm,϶];show(DG q).symm
 .rintro i k j hi ⟨_,rfl,o1,o2,rfl⟩;show⟨_,rfl,?_⟩;dsimp[Λ,δ,É];rw[hit];show YS T e c d a _ (u _) lo m _ ?_ _ (cU q) _ _ λo=>?_
  .let h1:=ż (λp=>e p.1 p.2)<|nC lo i m;rw[JU]at h1;let v:i*m<=n*m:=Nat.mul_le_mul_right _<|Rr hi;lia
  .show⟨hi,?_,_,_,rfl⟩;rw[JV,JR,ϣ]
 .rintro k j ⟨_,rfl,o1,o2,rfl⟩;show g o1 o2
abbrev aV(p:Int×Int):List Int:=[p.1,p.2]
def DH{a:Type}l(d:a):(Ā l.length).map (λi=>l.getD i d)=l:=by show Ou ∅ λi h1 b=>?_;simp[ĩ,b]
def nE{es:jq}{i:Nat}(h:(es.map PP)[i]?=b3 d):∃p,es[i]?=b3 p/\d=PP p:=by rw[ú]at h;let⟨p,h1,a⟩:=ţ.mp h;show⟨p,h1,a.symm⟩
def b9 q:dR (PP q)=b3 (aV q):=rfl
def Az(nd:(l.map (·.1)).Nodup)(h:(k,d)∈l):a9 l k=b3 d:=by
 induction l with
 |nil=>ext h|cons p l a=>
  rw[ó,Ŏ]at nd;ext a9;rw[ű];rcases ĉ.mp h with h|h
  .rw[<- h];simp
  .have:decide (p.1=k)=false:=decide_eq_false λz=>nd.1<|Ô.mpr ⟨_,h,z.symm⟩;rw[this];show a nd.2 h
def kW(h:aV p=aV q):p=q:=by unfold aV at h;injection h with h1 h2;injection h2 with h2;show đ h1 h2
def ő:W (dD [i1,i2,i3,h,i,j] (.tup [a,b,c,d,e,g]) k n) Q↔Q ((((((k.set i1<|b3 a).set i2<|b3 b).set i3<|b3 c).set h<|b3 d).set i<|b3 e).set j<|b3 g):=À
noncomputable abbrev Gr:=List<|(Int×Int)×jq
abbrev fZ(G:Gr)(p q:Int×Int):Gr:=if(G.map (·.1)).contains p then G.map (λg=>if g.1=p then(g.1,g.2++[q])else g)else G++[(p,[q])]
noncomputable abbrev Zr:=List<|(Int×Int)×jq×Nat
abbrev GZ(Z:Zr):Gr:=Z.map λz=>(z.1,z.2.1)
abbrev bA(Z:Zr):jx:=Z.map λz=>(aV z.1,D.loc z.2.2)
structure GI(μ0 μ:Hm)(a:Nat)(Z:Zr):Prop where
 pre:μ0<+:μ
 lo:μ0.length<=a
 dic:μ[a]?=b3 (.dT<|bA Z)
 kd:(Z.map (·.1)).Nodup
 bd:(Z.map (·.2.2)).Nodup
 at_:∀z∈Z,μ0.length<=z.2.2/\μ[z.2.2]?=b3 (.lst<|z.2.1.map PP)
def sO(d:(Z.map (·.1)).Nodup)(h:z∈Z):a9 (bA Z) (aV z.1)=b3 (.loc z.2.2):=by
 show Az ?_<|Ô.mpr ⟨z,h,rfl⟩;let e:(bA Z).map (·.1)=(Z.map (·.1)).map aV:=by ext bA;rw[ã,ã];rfl
 rw[e];show uq _ (λa b c x=>c<|kW x) d
def DI(h:p∉Z.map (·.1)):a9 (bA Z) (aV p)=none:=by
 ext a9;rw[Y0.mpr]
 .rfl
 .intro x a;let⟨z,b,rfl⟩:=Ô.mp a;rw[decide_eq_true_iff];show λe=>h<|Ô.mpr ⟨z,b,kW e⟩
def AA{Z:Zr}(h:p∈Z.map (·.1)):∃z∈Z,z.1=p:=by let⟨z,h1,a⟩:=Ô.mp h;show⟨z,h1,a⟩
def YT{Z:Zr}(a:(Z.map (·.1)).Nodup)(hz:z∈Z)(b:y∈Z)(e:z.1=y.1):z=y:=by
 induction Z with
 |nil=>ext hz|cons x Z c=>
  rw[ó,Ŏ]at a;rcases ĉ.mp hz with h1|h1<;>rcases ĉ.mp b with h2|h2
  .rw[h1,h2]
  .show(a.1<|Ô.mpr ⟨y,h2,by rw[<- h1];show e.symm⟩).elim
  .show(a.1<|Ô.mpr ⟨z,h1,by rw[<- h2];show e⟩).elim
  .show c a.2 h1 h2
def YU{Z:Zr}(a:(Z.map (·.2.2)).Nodup)(hz:z∈Z)(b:y∈Z)(e:z.2.2=y.2.2):z=y:=by
 induction Z with
 |nil=>ext hz|cons x Z c=>
  rw[ó,Ŏ]at a;rcases ĉ.mp hz with h1|h1<;>rcases ĉ.mp b with h2|h2
  .rw[h1,h2]
  .show(a.1<|Ô.mpr ⟨y,h2,by rw[<- h1];show e.symm⟩).elim
  .show(a.1<|Ô.mpr ⟨z,h1,by rw[<- h2];show e⟩).elim
  .show c a.2 h1 h2
def l9 Z:(GZ Z).map (·.1)=Z.map (·.1):=by ext GZ;rw[ã];rfl
def YV(h:p∈Z.map (·.1)):fZ (GZ Z) p q=GZ (Z.map λz=>if z.1=p then(z.1,z.2.1++[q],z.2.2)else z):=by
 ext fZ;rw[l9,if_pos<|ζ.mpr h];ext GZ;rw[ã,ã];show Ţ λz x=>?_;change(if z.1=p then(z.1,z.2.1++[q])else(z.1,z.2.1))=_;by_cases e:z.1=p
 .simp[e]
 .simp[e]
def YW(h:p∉Z.map (·.1)):fZ (GZ Z) p q=GZ (Z++[(p,[q],b)]):=by ext fZ;rw[l9,if_neg λz=>h<|ζ.mp z];ext GZ;rw[þ];rfl
def GI.more{μ':Hm}(I:GI μ0 b a Z)(h:b<+:μ'):GI μ0 μ' a Z:=⟨I.pre.trans h,I.lo,aD h I.dic,I.kd,I.bd,λz hz=>⟨(I.at_ z hz).1,aD h (I.at_ z hz).2⟩⟩
def GI.ne(I:GI μ0 b a Z)(hz:z∈Z):z.2.2≠a:=λe=>by let h1:=(I.at_ z hz).2;rw[e,I.dic]at h1;ext h1
def GI.hit(I:GI μ0 c a Z)(hz:z∈Z)q:
  GI μ0 (c.set z.2.2<|.lst<|z.2.1.map PP++[PP q]) a (Z.map λy=>if y.1=z.1 then(y.1,y.2.1++[q],y.2.2)else y):=by
 let i:(Z.map λy=>if y.1=z.1 then(y.1,y.2.1++[q],y.2.2)else y).map (·.1)=Z.map (·.1):=by rw[ã];show Ţ λy f=>?_;change(if y.1=z.1 then(y.1,y.2.1++[q],y.2.2)else y).1=y.1;split<;>rfl
 let h:(Z.map λy=>if y.1=z.1 then(y.1,y.2.1++[q],y.2.2)else y).map (·.2.2)=Z.map (·.2.2):=by rw[ã];show Ţ λy f=>?_;change(if y.1=z.1 then(y.1,y.2.1++[q],y.2.2)else y).2.2=y.2.2;split<;>rfl
 let j:bA (Z.map λy=>if y.1=z.1 then(y.1,y.2.1++[q],y.2.2)else y)=bA Z:=by ext bA;rw[ã];show Ţ λy f=>?_;change(aV (if y.1=z.1 then(y.1,y.2.1++[q],y.2.2)else y).1,D.loc (if y.1=z.1 then(y.1,y.2.1++[q],y.2.2)else y).2.2)=_;split<;>rfl
 show⟨cZ I.pre (I.at_ z hz).1 _,I.lo,?_,by rw[i];show I.kd,by rw[h];show I.bd,λy k=>?_⟩
 .rw[j,ñ<|I.ne hz];show I.dic
 .let⟨x,b,rfl⟩:=Ô.mp k;let⟨d,g⟩:=I.at_ x b;by_cases e:x.1=z.1
  .have:x=z:=YT I.kd b hz e;subst this;rw[if_pos rfl];show⟨d,?_⟩;change(c.set x.2.2 _)[x.2.2]?=_;rw[cU g,þ];rfl
  .rw[if_neg e];show⟨d,?_⟩;rw[ñ λw=>e<|by rw[YU I.bd b hz w.symm]];show g
def JY(h:p∉Z.map (·.1)):cD (bA Z) (aV p) (.loc b)=bA (Z++[(p,qs,b)]):=by ext cD;rw[DI h,if_neg ∅];ext bA;rw[þ];rfl
def GI.new(I:GI μ0 j a Z)(k:p∉Z.map (·.1))(h:j[b]?=b3 (.lst<|qs.map PP))(h0:μ0.length<=b)(o:∀z∈Z,z.2.2≠b):
  GI μ0 (j.set a<|.dT<|cD (bA Z) (aV p)<|.loc b) a (Z++[(p,qs,b)]):=by
 let i:b≠a:=λe=>by rw[e,I.dic]at h;ext h
 show⟨cZ I.pre I.lo _,I.lo,by rw[cU I.dic,JY k],?_,?_,λz c=>?_⟩
 .rw[þ,Ϻ];show⟨I.kd,∅,λx g y d e=>by
   dsimp[ó,϶,Ē]at d;rw[e,d]at g;show k g⟩
 .rw[þ,Ϻ];show⟨I.bd,∅,λx g y d e=>by
   dsimp[ó,϶,Ē]at d;let⟨z,c,n⟩:=Ô.mp g;show o z c<|by rw[n,e,d]⟩
 .rcases Ħ.mp c with c|c
  .rw[ñ<|î<|I.ne c];show I.at_ z c
  .rw[Ē.mp c];show⟨h0,by rw[ñ<|î i];show h⟩
def YX(h:p∈Z.map (·.1))(d:(Z.map (·.1)).Nodup):cD (bA Z) (aV p) (.loc b)=bA (Z.map λy=>if y.1=p then(y.1,qs,b)else y):=by
 let⟨z,c,e⟩:=AA h;ext cD;rw[<- e,sO d c,Option.isSome_some,if_pos rfl];ext bA;rw[ã,ã];show Ţ λy x=>?_;change(if aV y.1=aV z.1 then(aV y.1,D.loc b)else(aV y.1,D.loc y.2.2))=(aV (if y.1=z.1 then(y.1,qs,b)else y).1,D.loc (if y.1=z.1 then(y.1,qs,b)else y).2.2);by_cases a:y.1=z.1
 .rw[if_pos<|by rw[a],if_pos a]
 .rw[if_neg λw=>a<|kW w,if_neg a]
def vT:∀a b c,HT.lexLt a b=dI->HT.lexLt b c=dI->HT.lexLt a c=dI
 |[],[],_,h,_=>by ext h
 |[],_::_,[],_,h=>by ext h
 |[],_::_,_::_,_,_=>rfl|_::_,[],_,h,_=>by ext h
 |_::_,_::_,[],_,h=>by ext h
 |x::xs,y::ys,z::zs,h1,d=>by
  rw[HT.lexLt_cons]at h1 d ⊢;by_cases g:x=y
  .subst g;rw[if_pos rfl]at h1;by_cases e:x=z
   .rw[if_pos e]at d ⊢;show vT xs ys zs h1 d
   .rw[if_neg e]at d ⊢;show d
  .rw[if_neg g]at h1;let h1:=of_decide_eq_true h1;by_cases e:y=z
   .subst e;rw[if_neg g];show decide_eq_true h1
   .rw[if_neg e]at d;let d:=of_decide_eq_true d;rw[if_neg ()];show decide_eq_true ()
def vQ:∀k,HT.lexLt k k=b5
 |[]=>rfl|a::k=>by rw[HT.lexLt_cons,if_pos rfl];show vQ k
def YY{kvs:jx}{Q:jz}(h:b[a]?=b3 (.dT kvs))(h1:kvs.length<64)(c:∀p∈kvs,p.1≠[]):W (qK [.loc a] b) Q↔Q (.loc b.length,b++[.lst<|(oX kvs).map λk=>D.tup<|k.1.map D.int]):=by dsimp[qK,h];rw[if_pos ⟨h1,c⟩];show À
def JZ{f:D->List D->Hm->jk}{Q:jz}(h:W (b a d) λp=>qF p.2 p.1=dI/\W (c a p.2) λq=>W (f p.1 q.1 q.2) Q):W (fU f b c a d) Q:=by ext fU;rw[Ä];show bP h λp q=>?_;rw[q.1];show Ä.mpr q.2
def J2{kvs:jx}(h:b[a]?=b3 (.dT kvs)):qF b (.loc a)=true:=by dsimp[qF,h]
abbrev YZ(a:Nat)(Z:Zr)(b μ':Hm):Prop:=∀c x,b[c]?=b3 x->c≠a->(∀z∈Z,z.2.2≠c)->μ'[c]?=b3 x
def Y2{Z:Zr}{b:Nat}(h:p∉Z.map (·.1)):((Z++[(p,[],b)]:Zr).map λy=>if y.1=p then(y.1,y.2.1++[q],y.2.2)else y)=Z++[(p,[q],b)]:=by
 rw[þ];have:(Z.map λy=>if y.1=p then(y.1,y.2.1++[q],y.2.2)else y)=Z:=by let e:(Z.map λy=>if y.1=p then(y.1,y.2.1++[q],y.2.2)else y)=Z.map id:=Ţ λy a=>if_neg λe=>h<|Ô.mpr ⟨y,a,e⟩;rw[e,MU]
 rw[this];simp
def oA Z:(bA Z).length=Z.length:=Ã ..
def Y3(I:GI μ0 b a Z)p q(J:Z.length<1000)(E:∀z∈Z,z.2.1.length<1000)(Q:jz)(H:∀n h,GI μ0 h a n->GZ n=fZ (GZ Z) p q->YZ a Z b h->(∀z∈n,(∃y∈Z,y.2.2=z.2.2)\/b.length<=z.2.2)->Q (.non,h)):
  W (jY (.loc a) [PP p,.loc b.length]<|b++[.lst []]) λr=>rV r.2 r.1=dI/\W (eZ r.1 [PP q] r.2) Q:=by
 let i:=I.more<|aR b<|C.lst [];let B:=bE b<|C.lst [];let h0:μ0.length<=b.length:=I.pre.length_le;let old:∀z∈Z,z.2.2<b.length:=λz d=>(â.mp (I.at_ z d).2).1;let K:a<b.length:=(â.mp I.dic).1;let k:∀c x,b[c]?=b3 x->(b++[C.lst []])[c]?=b3 x:=λc x e=>aD (aR _ _) e;by_cases j:p∈Z.map (·.1)
 .let⟨z,d,rfl⟩:=AA j;dsimp[jY,i.dic,b9,Đ,sO I.kd d];show À.mpr ⟨iI (i.at_ z d).2,(mZ (i.at_ z d).2<|by rw[Ã,ï];have:=E z d;lia).mpr ?_⟩;show H _ _ (i.hit d q) (YV j).symm (λc x e h1 w=>?_) λy g=>?_
  .rw[ñ<|w z d];show k c x e
  .let⟨x,G,rfl⟩:=Ô.mp g;show .inl ⟨x,G,?_⟩;split<;>rfl
 .let o:(bA Z).length<Ñ:=by rw[oA,ï];lia
  dsimp[jY,i.dic,b9,Đ,DI j,if_pos o];let s:=i.new j (qs:=[]) (b:=b.length) B h0 λz d=>û<|old z d;let A:(p,([]:jq),b.length)∈Z++[(p,[],b.length)]:=Ħ.mpr<|.inr<|Ē.mpr rfl;let v:=(s.at_ _ A).2;show À.mpr ⟨iI v,(mZ v<|by rw[Ã,ï];change(0:Nat)<_;decide).mpr ?_⟩;let u:=s.hit A q;rw[Y2 j]at u;show H _ _ u (YW j).symm (λc x e h1 w=>?_) λy g=>?_
  .let hc:c<b.length:=(â.mp e).1;rw[ñ<|by change b.length≠c;lia,ñ<|î h1];show k c x e
  .rcases Ħ.mp g with g|g
   .show .inl ⟨y,g,rfl⟩
   .rw[Ē.mp g];show .inr<|Ø _
abbrev mE(g:Int×Int->Int×Int)(qs:jq):Gr:=qs.foldl (λG q=>fZ G (g q) q) []
def Y4{qs:jq}(h:qs[i]?=b3 q):mE g (qs.take<|i+1)=fZ (mE g<|qs.take i) (g q) q:=by ext mE;rw[RQ,h,Oe];rfl
def Y5 G p q:(fZ G p q).length<=G.length+1:=by ext fZ;split<;>simp
def Y6(h:∀g∈G,g.2.length<=n):∀g∈fZ G p q,g.2.length<=n+1:=by
 intro g a;unfold fZ at a;split at a
 .let⟨x,b,rfl⟩:=Ô.mp a;have:=h x b;split
  .simp;lia
  .lia
 .rcases Ħ.mp a with a|a
  .have:=h g a;lia
  .rw[Ē.mp a];simp
def J5 g qs:(mE g qs).length<=qs.length/\∀x∈mE g qs,x.2.length<=qs.length:=by
 suffices ∀(qs:jq)(G:Gr)(n:Nat),G.length<=n->(∀x∈G,x.2.length<=n)->(qs.foldl (λG q=>fZ G (g q) q) G).length<=n+qs.length/\∀x∈qs.foldl (λG q=>fZ G (g q) q) G,x.2.length<=n+qs.length by have:=this qs [] 0 (Ø _) λx b=>nomatch b;ext mE;apply this
 intro qs;induction qs with
 |nil=>show λG n h1 a=>⟨h1,a⟩|cons q qs c=>intro G n h1 a;have:=c (fZ G (g q) q) (n+1) (by have:=Y5 G (g q) q;lia)<|Y6 a;rw[ņ,show n+(qs.length+1)=n+1+qs.length by lia];show this
def jK Z:(GZ Z).length=Z.length:=Ã ..
def Y7(e:GZ Z=G)(h:G.length<=n/\∀x∈G,x.2.length<=n):Z.length<=n/\∀z∈Z,z.2.1.length<=n:=by subst e;show⟨by rw[<- jK];show h.1,λz a=>h.2 (z.1,z.2.1)<|Ô.mpr ⟨z,a,rfl⟩⟩
abbrev cX(k:Int)(p:Int×Int):Int:=if k=0 then p.2 else if k=1 then p.1 else if k=2 then p.1-p.2 else p.1+p.2
abbrev bS(k n:Int):Ly:=if k=0 then⟨1,0,0,-1,0,2*n⟩else if k=1 then⟨-1,0,0,1,2*n,0⟩else if k=2 then⟨0,1,1,0,n,-n⟩else⟨0,-1,-1,0,n,n⟩
def wY k n:ė (bS k n):=by
 ext bS;split
 .show .inl ⟨rfl,rfl,.inl rfl,.inr rfl⟩
 split
 .show .inl ⟨rfl,rfl,.inr rfl,.inl rfl⟩
 split
 .show .inr ⟨rfl,rfl,.inl rfl,.inl rfl⟩
 .show .inr ⟨rfl,rfl,.inr rfl,.inr rfl⟩
def wZ k n p:aC (bS k n) (aC (bS k n) p)=p:=by
 let⟨x,y⟩:=p;ext bS aC;split
 .show đ ?_ ?_<;>dsimp<;>lia
 split
 .show đ ?_ ?_<;>dsimp<;>lia
 split
 .show đ ?_ ?_<;>dsimp<;>lia
 .show đ ?_ ?_<;>dsimp<;>lia
abbrev bW(G:Gr)(p:Int×Int):jq:=match G.find? (λg=>decide<|g.1=p)with|some g=>g.2|none=>[]
abbrev f9(G:Gr)(p:Int×Int)(L:jq):Gr:=if(G.map (·.1)).contains p then G.map (λg=>if g.1=p then(g.1,L)else g)else G++[(p,L)]
def AB p:bW [] p=[]:=rfl
def jL g(G:Gr)p:bW (g::G) p=if g.1=p then g.2 else bW G p:=by
 ext bW;rw[ű];by_cases e:g.1=p
 .rw[if_pos e,decide_eq_true e]
 .rw[if_neg e,decide_eq_false e]
def j6(a:(G.map (·.1)).Nodup)(h:g∈G):bW G g.1=g.2:=by
 induction G with
 |nil=>ext h|cons x G b=>
  rw[ó,Ŏ]at a;rw[jL];rcases ĉ.mp h with rfl|h
  .show if_pos rfl
  .rw[if_neg λe:x.1=g.1=>a.1<|by rw[e];show Ô.mpr ⟨g,h,rfl⟩,b a.2 h]
def pM(h:p∉G.map (·.1)):bW G p=[]:=by
 induction G with
 |nil=>rfl|cons x G a=>rw[ó,ĉ,not_or]at h;rw[jL,if_neg λe=>h.1 e.symm,a h.2]
def J6(h:p∉G.map (·.1)):bW (G++K) p=bW K p:=by
 induction G with
 |nil=>rfl|cons x G a=>rw[ó,ĉ,not_or]at h;rw[ϧ,jL,if_neg λe=>h.1 e.symm,a h.2]
def Ŷ(h:p∈G.map (·.1)):bW (G++K) p=bW G p:=by
 induction G with
 |nil=>ext h|cons x G a=>
  rw[ϧ,jL,jL];by_cases e:x.1=p
  .rw[if_pos e,if_pos e]
  .rw[if_neg e,if_neg e];rw[ó,ĉ]at h;show a<|h.resolve_left λw=>e w.symm
def J7 G p L:(f9 G p L).map (·.1)=if(G.map (·.1)).contains p then G.map (·.1)else G.map (·.1)++[p]:=by
 ext f9;split
 .rw[ã];show Ţ λg x=>?_;change(if g.1=p then(g.1,L)else g).1=g.1;split<;>rfl
 .rw[þ];rfl
open _root_ in
def J8(a:(G.map (·.1)).Nodup):((f9 G p L).map (·.1)).Nodup:=by
 rw[J7];split
 .show a
 .rename_i h;rw[Ϻ];show⟨a,∅,λx b y c e=>h<|ζ.mpr<|by rw[Ē.mp c]at e;show e▸b⟩
open _root_ in
def ϭ:q∈(f9 G p L).map (·.1)↔q∈G.map (·.1)\/q=p:=by
 rw[J7];split
 .rename_i h;show⟨.inl,λz=>z.elim id λe=>e▸ζ.mp h⟩
 .rw[Ħ,Ē]
open _root_ in
def AD G p q L:bW (f9 G p L) q=if q=p then L else bW G q:=by
 ext f9;split
 .rename_i h;let h:=ζ.mp h;induction G with
  |nil=>ext h|cons x G d=>
   rw[ó,jL,jL];by_cases e:x.1=p
   .rw[if_pos e];by_cases a:q=p
    .rw[if_pos a,if_pos<|by rw[e,a]]
    .rw[if_neg a,if_neg<|by change ¬ x.1=q;rw[e];show λw=>a w.symm,if_neg<|by rw[e];show λw=>a w.symm];by_cases b:p∈G.map (·.1)
     .rw[d (ζ.mpr b) b,if_neg a]
     .have:(G.map λg=>if g.1=p then(g.1,L)else g)=G:=by let w:(G.map λg=>if g.1=p then(g.1,L)else g)=G.map id:=Ţ λg i=>if_neg λe=>b<|Ô.mpr ⟨g,i,e⟩;rw[w,MU]
      rw[this]
   .rw[if_neg e];rw[ó,ĉ]at h;let c:=h.resolve_left λw=>e w.symm;rw[d (ζ.mpr c) c];by_cases a:x.1=q
    .rw[if_pos a,if_pos a,if_neg<|by rw[<- a];show e]
    .rw[if_neg a,if_neg a]
 .rename_i h;let h:p∉G.map (·.1):=λz=>h<|ζ.mpr z;by_cases e:q=p
  .rw[if_pos e,e,J6 h,jL,if_pos rfl]
  .rw[if_neg e];by_cases b:q∈G.map (·.1)
   .show Ŷ b
   .rw[J6 b,jL,if_neg λw=>e w.symm,AB,pM b]
def Y8(h:bW G p≠[]):p∈G.map (·.1):=a9Z λz=>h<|pM z
structure ħ(qs:jq)(f:Int×Int->Int×Int)(G:Gr):Prop where
 kd:(G.map (·.1)).Nodup
 ne:∀g∈G,g.2≠[]
 pm:∀p,(bW G p).Perm (qs.filter λq=>decide<|f q=p)
def ħ.key{f:Int×Int->Int×Int}(h:ħ qs f G):p∈G.map (·.1)↔∃q∈qs,f q=p:=by
 constructor
 .intro c;let⟨g,b,rfl⟩:=Ô.mp c;let h1:=h.pm g.1;rw[j6 h.kd b]at h1;let⟨q,a⟩:=Ra _<|h.ne g b;have:=ģ.mp<|h1.mem_iff.mp a;show⟨q,this.1,of_decide_eq_true this.2⟩
 .rintro⟨q,a,rfl⟩;show Y8 λe=>?_;let h1:=h.pm<|f q;rw[e]at h1;have:q∈([]:jq):=h1.mem_iff.mpr<|ģ.mpr ⟨a,decide_eq_true rfl⟩;ext this
def J9{g:Type}a b(hd:∀x,a x=dI->b x=b5):∀l:List g,(l.filter λx=>a x||b x).Perm (l.filter a++l.filter b)
 |[]=>.nil|x::l=>by
  let e:=J9 a b hd l;cases c:a x with
  |true=>rw[cu<|by simp[c],cu c,WP<|by simp[hd x c]];show e.cons x|false=>
   cases d:b x with
   |true=>rw[cu<|by simp[d],WP<|by simp[c],cu d];show(e.cons x).trans List.perm_middle.symm|false=>rw[WP<|by simp[c,d],WP<|by simp[c],WP<|by simp[d]];show e
abbrev mG(mv:Int×Int->Bool)(G:Gr):Gr:=G.filter λg=>!mv g.1
abbrev iJ(mv:Int×Int->Bool)(M:Int×Int->Int×Int)(G:Gr):Gr:=(G.filter λg=>mv g.1).map λg=>(M g.1,g.2.reverse)
abbrev iW(a:Bool)(S:Gr)(g:(Int×Int)×jq):Gr:=f9 S g.1<|if a then bW S g.1++g.2 else g.2++bW S g.1
abbrev sP(mv:Int×Int->Bool)(M:Int×Int->Int×Int)(a:Bool)(G:Gr):Gr:=(iJ mv M G).foldl (iW a)<|mG mv G
def DJ p:∀G,bW (mG mv G) p=if mv p then[]else bW G p
 |[]=>by cases mv p<;>rfl
 |g::G=>by
  let a:=DJ (mv:=mv) p G;unfold mG at a ⊢;rw[jL];cases h:mv g.1 with
  |true=>
   rw[WP<|by simp[h],a];by_cases e:g.1=p
   .rw[<- e,h];rfl
   .rw[if_neg e]
  |false=>
   rw[cu<|by simp[h],jL];by_cases e:g.1=p
   .rw[if_pos e,if_pos e,<- e,h];rfl
   .rw[if_neg e,if_neg e,a]
def DK(a:∀p,M (M p)=p)p:∀G,bW (iJ mv M G) p=if mv (M p)then(bW G<|M p).reverse else[]
 |[]=>by cases mv (M p)<;>rfl
 |g::G=>by
  let b:=DK (mv:=mv) a p G;unfold iJ at b ⊢;rw[jL];let hi:M g.1=p↔g.1=M p:=⟨λe=>by rw[<- e,a],λe=>by rw[e,a]⟩;cases h:mv g.1 with
  |true=>
   rw[cu<|by simp[h],ó,jL];by_cases e:g.1=M p
   .rw[if_pos<|hi.mpr e,if_pos e,<- e,h];rfl
   .rw[if_neg λw=>e<|hi.mp w,if_neg e,b]
  |false=>
   rw[WP<|by simp[h],b];by_cases e:g.1=M p
   .rw[<- e,h];rfl
   .rw[if_neg e]
open _root_ in
def Ka a:∀(K S:Gr),(K.map (·.1)).Nodup->(S.map (·.1)).Nodup->(∀g∈S,g.2≠[])->(∀g∈K,g.2≠[])->
  ((K.foldl (iW a) S).map (·.1)).Nodup/\(∀g∈K.foldl (iW a) S,g.2≠[])/\∀p,(bW (K.foldl (iW a) S) p).Perm (bW S p++bW K p)
 |[],S,_,hs,ns,_=>⟨hs,ns,λp=>by rw[AB,ŉ];show .refl _⟩|g::K,S,hk,hs,ns,nk=>by
  rw[ó,Ŏ]at hk;rw[ut];let b:((iW a S g).map (·.1)).Nodup:=J8 hs;let i:∀x∈iW a S g,x.2≠[]:=λx c=>by
   let e:bW (iW a S g) x.1=x.2:=j6 b c;rw[<- e];ext iW;rw[AD];let k:=nk g<|š ..;split
   .ext a
    .show λw=>k (RT.mp w).1
    .show λw=>k (RT.mp w).2
   .rename_i d;have:x.1∈(iW a S g).map (·.1):=Ô.mpr ⟨x,c,rfl⟩;rcases ϭ.mp this with h|h
    .let⟨y,j,n⟩:=Ô.mp h;rw[<- n,j6 hs j];show ns y j
    .show absurd h d
  let⟨h1,o,q⟩:=Ka a K (iW a S g) hk.2 b i λx c=>nk x<|Ō _ c;show⟨h1,o,λp=>(q p).trans ?_⟩;rw[jL];ext iW;rw[AD];by_cases e:p=g.1
  .rw[if_pos e,if_pos e.symm,e,pM hk.1,ŉ];ext a
   .show List.perm_append_comm
   .show .refl _
  .rw[if_neg e,if_neg λw=>e w.symm]
def Y9{f:Int×Int->Int×Int}(h:ħ qs f G){mv:Int×Int->Bool}(d:∀p,M (M p)=p)c:
  ħ qs (λq=>if mv (f q)then M (f q)else f q) (sP mv M c G):=by
 let j:∀(l:List ((Int×Int)×jq)),l.Sublist G->(l.map (·.1)).Nodup:=λl x=>(x.map _).nodup h.kd;let s:((iJ mv M G).map (·.1)).Nodup:=by
  let e:(iJ mv M G).map (·.1)=((G.filter λg=>mv g.1).map (·.1)).map M:=by ext iJ;rw[ã,ã];rfl
  rw[e];show uq _ (λa b k w=>k<|by rw[<- d a,w,d])<|j _ ig
 let⟨h1,u,v⟩:=Ka c (iJ mv M G) (mG mv G) s (j _ ig) (λg n=>h.ne g (ģ.mp n).1) λg n=>by
  let⟨y,z,rfl⟩:=Ô.mp n;show λw=>h.ne y (ģ.mp z).1<|List.reverse_eq_nil_iff.mp w
 show⟨h1,u,λp=>(v p).trans ?_⟩;rw[DJ,DK d];let e:(qs.filter λq=>decide<|(if mv (f q)then M (f q)else f q)=p)=qs.filter λq=>(!mv (f q)&&decide (f q=p))||(mv (f q)&&decide (f q=M p)):=by
  congr 1;funext q;let hi:M (f q)=p↔f q=M p:=⟨λe=>by rw[<- e,d],λe=>by rw[e,d]⟩;cases mv (f q)with
  |true=>simp[hi]|false=>simp
 rw[e];show List.Perm.trans ?_ (J9 _ _ (λq o=>?_) qs).symm
 .show List.Perm.append ?_ ?_
  .cases i:mv p with
   |true=>rw[if_pos rfl,NO.mpr];intro q _ w;rw[ð]at w;let e:=of_decide_eq_true w.2;rw[e,i]at w;show ô w.1|false=>
    rw[if_neg ô];have:(qs.filter λq=>!mv (f q)&&decide (f q=p))=qs.filter λq=>decide (f q=p):=by
     congr 1;funext q;by_cases e:f q=p
     .simp[e,i]
     .simp[e]
    rw[this];show h.pm p
  .cases i:mv (M p)with
   |true=>
    rw[if_pos rfl];have:(qs.filter λq=>mv (f q)&&decide (f q=M p))=qs.filter λq=>decide (f q=M p):=by
     congr 1;funext q;by_cases e:f q=M p
     .simp[e,i]
     .simp[e]
    rw[this];show(List.reverse_perm _).trans<|h.pm<|M p
   |false=>rw[if_neg ô,NO.mpr];intro q _ w;rw[ð]at w;let e:=of_decide_eq_true w.2;rw[e,i]at w;show ô w.1
 .rw[ð]at o;dsimp[NB]at o;rw[o.1];rfl
def Za(a:0<=u/\u<4):atI [D.int p.2,.int p.1,.int<|p.1-p.2,.int<|p.1+p.2] u=b3 (.int<|cX u p):=by
 have:u=0\/u=1\/u=2\/u=3:=()
 rcases this with rfl|rfl|rfl|rfl<;>rfl
def AE k p u(b:0<=u/\u<4)(a:Hm)(Q:jz)(H:∀μ',a<+:μ'->Q (.int<|cX u p,μ')):W (f (k+1) "_law_value" [PP p,.int u] a) Q:=by rw[Yt];show Dt rfl<|YK<|YJ rfl rfl<|(dY (bE _ _)<|Za b).mpr<|H _<|aR _ _
def Zb(a:0<=u/\u<4):atI [LD ⟨1,0,0,-1,0,2*n⟩,LD ⟨-1,0,0,1,2*n,0⟩,LD ⟨0,1,1,0,n,-n⟩,LD ⟨0,-1,-1,0,n,n⟩] u=b3 (LD<|bS u n):=by
 have:u=0\/u=1\/u=2\/u=3:=()
 rcases this with rfl|rfl|rfl|rfl<;>rfl
def Zc k u n(b:0<=u/\u<4)(a:Hm)(Q:jz)(H:∀μ',a<+:μ'->Q (LD<|bS u n,μ')):W (f (k+1) "_law_mirror" [.int u,.int n] a) Q:=by rw[Yu];show Dt rfl<|è.mpr ?_;dsimp[Ð,é,æ,à,Ë,eC,fN,Jj,cM,dC,Λ,δ];show⟨DE,DE,gZ,?_⟩;show(sJ (aD (aR _ _)<|bE _ _) (bE _ _)<|by change(4:Nat)<=Ñ;decide).mpr ?_;show(dY (bE _ _)<|Zb b).mpr<|H _<|((aR _ _).trans<|aR _ _).trans<|aR _ _
def Kb k A(hA:ė A)p a(Q:jz):W (f (k+1) "_law_led" [LD A,PP p] a) Q↔Q (PP<|aC A p,a):=by let⟨h1,b,c,d⟩:=hA.sm;rw[Yv,è];dsimp[Ç,Ě,cM,ő,Œ,Λ,δ,Ð,à,Ë,eC,é,dC,l8 h1,l8 b,l8 c,l8 d,Û,gZ,true_and];rfl
def Zd{Q:jz}(h:xs≠[]/\a≠[]/\xs.length+a.length<=Ñ):W (bI (.tup xs) (.tup a) b) Q↔Q (.tup<|xs++a,b):=by dsimp[bI];rw[if_pos h];show À
def Ŭ{Q:jz}:W (aZ b5 (.bl x) (.bl y) a) Q↔Q (.bl<|x==y,a):=À
def uL{Q:jz}(hi:aE i b a=b3 (.int x,a))(c:aE j b a=b3 (.int y,a))(d:aE p b a=b3 (.int z,a))(e:aE q b a=b3 (.int w,a))(g:-1<=x/\x<=1)(hz:-1<=z/\z<=1)(H:Q (.int<|x*y+z*w,a)):W (aA bI (aA b8 (aE i)<|aE j) (aA b8 (aE p)<|aE q) b a) Q:=
 aO<|aP hi c<|(l8 g).mpr<|aP d e<|(l8 hz).mpr<|Û.mpr H
def Ze k A B(hA:ė A)(hB:ė B)a(Q:jz):W (f (k+1) "_law_then" [LD A,LD B] a) Q↔Q (LD<|dA A B,a):=by
 let⟨h1,b,c,d⟩:=hB.sm;let w:W (f (k+1) "_law_then" [LD A,LD B] a) λr=>r=(LD<|dA A B,a):=by show Ï (Yw k _ _ a)<|Ç.mpr<|Ě.mpr ⟨_,rfl,ő.mpr<|Ç.mpr<|Ě.mpr ⟨_,rfl,ő.mpr ?_⟩⟩;dsimp only[Λ,δ];show bD (à.mpr<|aQ<|uL rfl rfl rfl rfl h1 b<|aQ<|uL rfl rfl rfl rfl h1 b<|aQ<|uL rfl rfl rfl rfl c d<|aQ<|uL rfl rfl rfl rfl c d ⟨_,rfl,by change(4:Nat)<=Ñ;decide,?_⟩);show cJ<|aO ⟨_,rfl,à.mpr<|aQ<|aO<|uL rfl rfl rfl rfl h1 b ⟨_,rfl,Û.mpr<|aQ<|aO<|uL rfl rfl rfl rfl c d ⟨_,rfl,Û.mpr ⟨_,rfl,gZ,(Zd ⟨∅,∅,by change(6:Nat)<=Ñ;decide⟩).mpr rfl⟩⟩⟩⟩
 let⟨r,e,rfl⟩:=w;rw[e];show À
abbrev kX(ns:List Int)(i:Int):Int:=if i<ns.length then ns.getD i.toNat 0 else if ns=[]then(i+3)*(i+3)*48271 else(i+3)*(i+3)*48271+ns.getD (i%(ns.length:Int)).toNat 0*(i+5)
def DL k ns i(hi:0<=i/\i<=100)(a:Hm)(Q:jz)(H:∀μ',a<+:μ'->Q (.int<|kX ns i,μ')):W (f (k+1) "_law_given" [.rol<|ns.map D.int,.int i] a) Q:=by
 unfold kX at H;show Ï (Yo k _ _ a)<|Ç.mpr<|Ò.mpr<|c5<|aP rfl rfl<|ı.mpr ⟨_,rfl,?_⟩;rw[Ã];by_cases h:i<ns.length
 .rw[if_pos h]at H;rw[if_pos<|decide_eq_true h];show Ð.mpr<|aP rfl rfl<|(JI<|JH hi.1 h).mpr<|H _<|č _
 .rw[if_neg h]at H;rw[if_neg<|by rw[decide_eq_false h];show ô];show Î.mpr (bD<|aO<|aO<|aO ⟨_,rfl,_,rfl,Û.mpr<|aO ⟨_,rfl,_,rfl,Û.mpr<|(pJ<|.inl ()).mpr ⟨_,rfl,(pJ<|.inr ⋯).mpr ?_⟩⟩⟩);show Ð.mpr<|ę.mpr<|c5<|aO ⟨_,rfl,æ.mpr ⟨_,rfl,ĵ _,(YN<|bE _ _).mpr ⟨_,rfl,?_⟩⟩⟩;by_cases h0:ns=[]
  .rw[if_pos h0]at H;rw[if_pos<|show(ns==[])=dI by rw[h0];rfl];show⟨_,rfl,H _<|aR _ _⟩
  .let e:(ns==[])=false:=by
    cases ns with
    |nil=>show absurd rfl h0|cons=>rfl
   let c:0<ns.length:=RD.mpr h0;rw[if_neg h0]at H;rw[if_neg<|by change ¬ (ns==[])=dI;rw[e];show ô];let b:0<=i%(ns.length:Int)/\i%(ns.length:Int)<ns.length:=⟨NK _ (),NS _ ()⟩;show aO ⟨_,rfl,aO<|aO ⟨_,rfl,aO ⟨_,rfl,aS rfl<|ji.mpr ?_⟩⟩⟩;rw[Ã];show(iH ()).mpr ((JI<|JH b.1 b.2).mpr<|aO ⟨_,rfl,_,rfl,Û.mpr<|(pJ<|.inr ()).mpr<|Û.mpr ?_⟩);show H _<|aR _ _
abbrev w4(c:Int):Nat->Int
 |0=>c|n+1=>w4 c n/1000000
abbrev DM(ns:List Int)(i:Int):Int:=(kX ns i%1000003+7*i+3)*(kX ns i%1000003+7*i+3)*48271%2147483647
abbrev w5(ns:List Int)(i:Int):Int:=if kX ns 0%2=1/\0<w4 (kX ns 1) i.toNat then w4 (kX ns 1) i.toNat%1000000 else DM ns i
def Kc ns i:0<=w5 ns i/\w5 ns i<2147483647:=by
 ext w5;split
 .lia
 .show⟨NK _ ⋯,NS _ ⋯⟩
def Ϫ{Q:jz}:W (rJ (.int 10) (.int 6) a) Q↔Q (.int 1000000,a):=(W9 ⟨⋯,⋯,⋯⟩).trans<|by rfl
def Kd k ns i(hi:0<=i/\i<=100)(a:Hm)R(H:∀d μ',a<+:μ'->R (.rt<|.int<|DM ns i,d,μ')):
  W ((aL (fR 2<|aA bI (aA bI (aA b6 (bJ (f (k+1) "_law_given")<|aB (aE 0)<|aB (aE 1) aG)<|mC<|.int 1000003)<|aA b8 (mC<|.int 7)<|aE 1)<|mC<|.int 3)<|aM<|aA b6 (aA b8 (aA b8 (aE 2)<|aE 2)<|mC<|.int 48271)<|mC<|.int 2147483647) [b3<|.rol<|ns.map D.int,b3<|.int i,x,y] a) R:=by
 show bD<|aO<|aO<|aO<|aS rfl<|DL k ns i hi _ _ λc b=>?_;unfold DM at H;generalize kX ns i=v at H;let h1:=NK v (show(1000003:Int)≠0 by decide);let e:=NS v (show(0:Int)<1000003 by decide);show⟨_,rfl,(iH ⋯).mpr<|aO ⟨_,rfl,_,rfl,(pJ<|.inl ⋯).mpr<|Û.mpr ⟨_,rfl,Û.mpr ?_⟩⟩⟩;show cJ<|aO<|aO<|aO ⟨_,rfl,_,rfl,(pJ<|.inl ?_).mpr ⟨_,rfl,(pJ<|.inr ⋯).mpr ⟨_,rfl,(iH ⋯).mpr ?_⟩⟩⟩
 .show⟨(),()⟩
 .show H _ _ b
def Zf k ns i(hi:0<=i/\i<=100)(b:Hm)(Q:jz)(H:∀μ',b<+:μ'->Q (.int<|w5 ns i,μ')):W (f (k+2) "_law_number" [.rol<|ns.map D.int,.int i] b) Q:=by
 unfold w5 at H;show Ï (Yp (k+1) _ _ b) (Ç.mpr<|Ò.mpr<|c5<|aO<|aO<|aS rfl<|DL k ns 0 ⋯ _ _ λg d=>⟨_,rfl,ĭ.mpr ⟨_,rfl,ą.mpr ⟨_,rfl,?_⟩⟩⟩);by_cases h1:kX ns 0%2=1
 .rw[if_pos<|show(kX ns 0%2==1)=dI from beq_iff_eq.mpr h1];show bD (aS rfl<|DL k ns 1 ⋯ _ _ λn e=>fX ?_);show É.mpr ((Ak (j:=0)).mpr ⟨_,rfl,(),?_⟩);show qO (λj a μ'=>∃x,a=[b3<|.rol<|ns.map D.int,b3<|.int i,b3<|.int<|w4 (kX ns 1) j,x]/\b<+:μ') ⟨b4,rfl,d.trans e⟩ ?_ ?_
  .rintro j a μ' _ ⟨x,rfl,p⟩;show⟨_,rfl,ċ.mpr<|aO ⟨_,rfl,aO ⟨_,rfl,_,rfl,Ϫ.mpr<|(sI ⋯<|by decide).mpr ⟨_,rfl,p⟩⟩⟩⟩
  .rintro a μ' ⟨x,rfl,p⟩;show⟨rfl,Ò.mpr<|c5<|aO ⟨_,rfl,_,rfl,Ń.mpr ⟨_,rfl,?_⟩⟩⟩;by_cases h:0<w4 (kX ns 1) i.toNat
   .rw[if_pos ⟨h1,h⟩]at H;rw[if_pos<|decide_eq_true h];show Ð.mpr (aO ⟨_,rfl,aO ⟨_,rfl,_,rfl,Ϫ.mpr<|(iH ⋯).mpr ?_⟩⟩);show H _ p
   .rw[if_neg λz=>h z.2]at H;rw[if_neg<|by rw[decide_eq_false h];show ô];show Î.mpr<|Kd k ns i hi _ _ λ_ μ' c=>H μ'<|p.trans c
 .rw[if_neg λz=>h1 z.1]at H;rw[if_neg<|show ¬ (kX ns 0%2==1)=dI from λz=>h1<|beq_iff_eq.mp z];show Î.mpr<|Kd k ns i hi _ _ λ_ μ' c=>H μ'<|d.trans c
def AF k(ns:List Int)i(hi:0<=i/\i<=100)(a:Hm)(Q:jz)(H:∀v μ',0<=v->v<2147483647->a<+:μ'->Q (.int v,μ')):W (f (k+2) "_law_number" [.rol<|ns.map D.int,.int i] a) Q:=
 Zf k ns i hi a Q λμ' p=>H _ μ' (Kc ns i).1 (Kc ns i).2 p
abbrev DN(x y:Int):Bool:=(x%4==2&&y%2==1)||(y%4==2&&x%2==1)
abbrev cC(w h:Int):jq:=(nC 1 (4*w-1).toNat (4*h-1).toNat).filter λp=>DN p.1 p.2
def qS(h:1<=w/\w<=3):w∈[(1:Int),2,3]:=by
 have:w=1\/w=2\/w=3:=()
 rcases this with rfl|rfl|rfl<;>decide
abbrev w8:List (List Int)->Bool
 |x::y::r=>HT.lexLt x y&&w8 (y::r)|_=>dI
def AG:∀{l},w8 l=dI->l.Pairwise λx y=>HT.lexLt x y=dI
 |[],_=>.nil|[x],_=>P8 _ _|x::y::r,h=>by
  unfold w8 at h;rw[ð]at h;let b:=AG h.2;show NT.mpr ⟨λz a=>?_,b⟩;rcases ĉ.mp a with rfl|a
  .show h.1
  .show vT _ _ _ h.1<|(NT.mp b).1 z a
def Zg(h:HT.lexLt a b=dI):HT.lexLt b a=false:=by
 cases e:HT.lexLt b a with
 |false=>rfl|true=>have:=vT _ _ _ h e;rw[vQ]at this;show this.symm
abbrev Dc(b:Hm)(a:Nat)(kvs:jx):Prop:=b[a]?=b3 (.dT kvs)\/b[a]?=b3 (.dF kvs)
def gC{Q:jz}(h:Dc b a kvs)(c:dR y=b3 k)(e:a9 kvs k=b3 d):W (bG (.loc a) y b) Q↔Q (d,b):=by
 have:bG (.loc a) y b=b3 (d,b):=by rcases h with h|h<;>dsimp[bG,h,c,Đ,e,Ĕ]
 rw[this];show À
def AH{kvs:jx}(h:c[i]?=b3 (b3<|.loc a))(hc:b[a]?=b3 (.dT kvs))(H:W (d c<|b.set a<|.dF kvs) λr=>r.2.2[a]?=b3 (.dF kvs)/\Q (r.1,r.2.1,r.2.2.set a<|.dT kvs)):W (gO i d g c b) Q:=by
 let e:qE i c b=b3 (a,kvs):=by dsimp[qE,h,hc]
 ext gO;rw[e];rw[Ä];show bP H λr q=>?_;rw[q.1];show À.mpr q.2
def AI{kvs:jx}(hi:o[i]?=b3 (b3<|.loc a))(hc:g[a]?=b3 (.dT kvs))(I:Nat->aF->Hm->Prop)(h0:I 0 o (g.set a<|.dF kvs))(go:∀n k d c b,kvs[n]?=b3 (k,d)->I n c b->W (body (c.set j<|b3<|.tup<|k.map D.int) b) λp=>p.1=.nx/\I (n+1) p.2.1 p.2.2)(h:∀c b,I kvs.length c b->b[a]?=b3 (.dF kvs)/\Q (.nx,c,b.set a<|.dT kvs)):W (gO i (cA (eT<|aE i) (cL j) body) w o g) Q:=by
 show AH hi hc ?_;let u:(g.set a<|.dF kvs)[a]?=b3 (.dF kvs):=cU hc;let hit:eT (aE i) o (g.set a<|.dF kvs)=b3 (dE<|.tup<|dS kvs,kvs.length+1,g.set a<|.dF kvs):=by dsimp[eT,aE,hi,Đ,u]
 rw[É,hit,À];show nX (N:=kvs.length) I (λn c b v s=>?_) (λc b s=>⟨?_,h c b s⟩) kvs.length 0 o _ () h0
 .let e:kvs[n]?=b3 (kvs[n].1,kvs[n].2):=ü v;show⟨.tup<|kvs[n].1.map D.int,_,?_,rfl,bP (go n _ _ c b e s) λp q=>?_⟩
  .change b3 ((dS kvs)[n]?)=_;ext dS;rw[ú,e];rfl
  .rw[q.1];show q.2
 .change b3 ((dS kvs)[kvs.length]?)=_;rw[cj<|by ext dS;simp]
structure HI(μ:Hm)(a:Nat)(Z:Zr):Prop where
 dic:Dc μ a<|bA Z
 kd:(Z.map (·.1)).Nodup
 at_:∀z∈Z,μ[z.2.2]?=b3 (.lst<|z.2.1.map PP)
def Dc.more{μ':Hm}(I:Dc b a kvs)(h:b<+:μ'):Dc μ' a kvs:=I.elim (λe=>.inl<|aD h e) λe=>.inr<|aD h e
def HI.more{μ':Hm}(I:HI b a Z)(h:b<+:μ'):HI μ' a Z:=⟨I.dic.more h,I.kd,λz hz=>aD h<|I.at_ z hz⟩
def HI.ne(I:HI c a Z)(h:Dc c b kvs)(hz:z∈Z):z.2.2≠b:=λe=>by let h1:=I.at_ z hz;rw[e]at h1;rcases h with h|h<;>(rw[h]at h1;ext h1)
def HI.frz{kvs:jx}(I:HI c a Z)(h:c[b]?=b3 (.dT kvs)):HI (c.set b<|.dF kvs) a Z:=by
 show⟨?_,I.kd,λz d=>by rw[ñ<|î<|I.ne (.inl h) d];show I.at_ z d⟩;by_cases e:b=a
 .subst e;have:kvs=bA Z:=by
   rcases I.dic with w|w
   .rw[h]at w;injection w with w;injection w
   .rw[h]at w;ext w
  rw[<- this];show .inr<|cU h
 .ext Dc;rw[ñ e];show I.dic
def w9{c b:Hm}{kvs:jx}(hc:c[a]?=b3 (.dT kvs))(h:c.set a (.dF kvs)<+:b):c<+:b.set a (.dT kvs):=by let⟨t,rfl⟩:=h;let d:a<c.length:=(â.mp hc).1;rw[NN _ _<|by rw[Ÿ];show d,Q6,DG hc];show NU _ _
def Ke{w h:Int}(hw:1<=w/\w<=6)(c:1<=h/\h<=6):(4*w-1).toNat*(4*h-1).toNat+(4*h-1).toNat<=900:=by
 let a:(4*w-1).toNat<=23:=()
 let b:(4*h-1).toNat<=23:=()
 have:=Qk a b;lia
def Zh k w h(hw:1<=w/\w<=6)(b:1<=h/\h<=6)a(Q:jz)(H:Q (.loc a.length,a++[.lst<|(cC w h).map PP])):W (f (k+1) "_law_quarters" [.int w,.int h] a) Q:=by
 rw[Yq,è];dsimp[Ç,ċ,æ,eC];show⟨ĵ _,?_⟩;dsimp[Λ,δ,É,Ĝ,Ë,eC,fN,é,cM,dC,uJ];show⟨(),?_⟩;show JX _ DN _ _ _ _ 1 (4*h-1).toNat (λo1 o2 a Q=>?_) (λx y a Q=>?_) (4*w-1).toNat (Ke hw b) _ (bE _ _) _ λo1 o2=>?_
 .dsimp[Ĝ,Ë,eC,fN,é,cM,dC,uJ];show and_iff_right ()
 .dsimp[Ū,ě,Ę,é,cM,dC,fN,ĭ,ġ,ą,Û];ext DN;cases x%4==2<;>cases y%2==1<;>cases y%4==2<;>cases x%2==1<;>simp
 .dsimp[Ð,cM,dC];rw[DF];show H
def Zi k w h(hw:1<=w/\w<=3)(b:1<=h/\h<=3)a(Q:jz)(H:Q (.loc a.length,a++[.lst<|(cC w h).map PP])):W (f (k+1) "_law_quarters" [.int w,.int h] a) Q:=Zh k w h () () a Q H
def AJ{n:Nat}(h:(bA Z)[n]?=b3 (k,d)):∃z∈Z,Z[n]?=b3 z/\k=aV z.1/\d=.loc z.2.2:=by unfold bA at h;rw[ú]at h;let⟨z,h1,a⟩:=ţ.mp h;ext a;show⟨z,Ĵ h1,h1,rfl,rfl⟩
def jM{a:Type}{l:List a}{x:a}(h:l[n]?=b3 x):l.take (n+1)=l.take n++[x]:=by rw[RQ,h];rfl
def qT{c:Type}{l:List c}(nd:l.Nodup){x:c}(h:l[n]?=b3 x):x∉l.take n:=λg=>by
 let⟨j,a⟩:=zq.mp g;let b:j<n:=by have:=(â.mp a).1;rw[Ι]at this;lia
 rw[RW b]at a;let i:n<l.length:=(â.mp h).1;let d:=(â.mp a).2;let e:=(â.mp h).2;show absurd ((N8 nd).mp<|d.trans e.symm) ()
noncomputable abbrev bT(v:Int×Int->D)(ps:jq):jx:=ps.map λp=>(aV p,v p)
def iX(nd:ps.Nodup)(h:p∈ps):a9 (bT v ps) (aV p)=b3 (v p):=by show Az ?_<|Ô.mpr ⟨p,h,rfl⟩;rw[ã];show uq _ (λa b c x=>c<|kW x) nd
def DO(h:p∉ps):a9 (bT v ps) (aV p)=none:=by
 ext a9;rw[Y0.mpr]
 .rfl
 .intro x a;let⟨z,b,rfl⟩:=Ô.mp a;rw[decide_eq_true_iff];show λe=>h<|kW e▸b
def DP(h:p∉ps):cD (bT v ps) (aV p) (v p)=bT v (ps++[p]):=by ext cD;rw[DO h,if_neg ∅];change _=MP _ _;rw[þ];rfl
abbrev kY(ps:jq):jq:=(c6 (λi j=>HT.lexLt ((ps.map aV).getD i [])<|(ps.map aV).getD j []) ps.length).map λi=>ps.getD i (0,0)
def Zj ps:(kY ps).Perm ps:=by let p:=(jV (λi j=>HT.lexLt ((ps.map aV).getD i [])<|(ps.map aV).getD j []) ps.length).map λi=>ps.getD i (0,0);rw[DH]at p;show p
def Kf v ps:oX (bT v ps)=bT v (kY ps):=by
 unfold oX kY bT;let a:(ps.map λp=>(aV p,v p)).map (·.1)=ps.map aV:=by rw[ã];rfl
 rw[a,Ã,ã];show Ţ λi hi=>?_;let hi:i<ps.length:=ň.mp<|(jV _ _).mem_iff.mp hi;simp[ĩ,hi]
def Zk{Q:jz}(h:b[a]?=b3 (.dT (bT v ps)))(h1:ps.length<64):W (qK [.loc a] b) Q↔Q (.loc b.length,b++[.lst ((kY ps).map PP)]):=by rw[YY h (by rw[Ã];show h1) (λp c z=>by let⟨x,_,rfl⟩:=Ô.mp c;ext z),Kf,ã];rfl
def Zl ps:(kY ps).length=ps.length:=(Zj ps).length_eq
def Zm(b:(G.map (·.1)).Nodup)p q:fZ G p q=f9 G p (bW G p++[q]):=by
 ext fZ f9;by_cases h:(G.map (·.1)).contains p=dI
 .rw[if_pos h,if_pos h];show Ţ λg a=>?_;by_cases e:g.1=p
  .rw[if_pos e,if_pos e,<- e,j6 b a]
  .rw[if_neg e,if_neg e]
 .rw[if_neg h,if_neg h,pM λw=>h<|ζ.mpr w];rfl
def Kg(g:Int×Int->Int×Int):∀(qs:jq)G,(G.map (·.1)).Nodup->((qs.foldl (λG q=>fZ G (g q) q) G).map (·.1)).Nodup/\∀p,bW (qs.foldl (λG q=>fZ G (g q) q) G) p=bW G p++qs.filter λq=>decide<|g q=p
 |[],G,kd=>⟨kd,λp=>∅⟩|q::qs,G,kd=>by
  rw[ut,Zm kd];let⟨h1,a⟩:=Kg g qs (f9 G (g q)<|bW G (g q)++[q])<|J8 kd;show⟨h1,λp=>?_⟩;rw[a,AD];by_cases e:p=g q
  .subst e;rw[if_pos rfl,cu ∅];simp
  .rw[if_neg e,WP<|by simp;show λw=>e w.symm]
def Zn:ħ qs g (mE g qs):=by
 let⟨h1,b⟩:=Kg g qs [] ud;show⟨h1,λx a e=>?_,λp=>by ext mE;rw[b,AB];show .refl _⟩
  -- no empty list is made
 have:∀(qs:jq)(G:Gr),(∀x∈G,x.2≠[])->∀x∈qs.foldl (λG q=>fZ G (g q) q) G,x.2≠[]:=λqs=>by
  induction qs with
  |nil=>show λG h=>h|cons q qs d=>
   intro G h;rw[ut];show d _ λx a=>?_;unfold fZ at a;split at a
   .let⟨y,c,rfl⟩:=Ô.mp a;split
    .simp
    .show h y c
   .rcases Ħ.mp a with a|a
    .show h x a
    .rw[Ē.mp a];simp
 show this qs [] (λx a=>nomatch a) x a e
def Zo{kvs:jx}{Q:jz}(h:c[i]?=b3 (b3<|.loc a))(hc:b[a]?=b3 (.dT kvs))(H:W (d c<|b.set a<|.dF kvs) λr=>r.2[a]?=b3 (.dF kvs)/\Q (r.1,r.2.set a<|.dT kvs)):W (t5 i d g c b) Q:=by
 let e:qE i c b=b3 (a,kvs):=by dsimp[qE,h,hc]
 ext t5;rw[e];rw[Ä];show bP H λr q=>?_;rw[q.1];show À.mpr q.2
abbrev AK(Z:Zr)(p:Int×Int):D:=match Z.find? (λz=>decide<|z.1=p)with|some z=>.loc z.2.2|none=>.non
def Zp(a:(Z.map (·.1)).Nodup)(h:z∈Z):AK Z z.1=.loc z.2.2:=by
 ext AK;induction Z with
 |nil=>ext h|cons x Z b=>
  rw[ó,Ŏ]at a;rw[ű];rcases ĉ.mp h with rfl|h
  .rw[decide_eq_true rfl]
  .let e:decide (x.1=z.1)=false:=decide_eq_false λe=>a.1 (by rw[e];show Ô.mpr ⟨z,h,rfl⟩);rw[e];show b a.2 h
def Zq(b:(Z.map (·.1)).Nodup):bA Z=bT (AK Z) (Z.map (·.1)):=by ext bA bT;rw[ã];show Ţ λz a=>by change _=(aV z.1,AK Z z.1);rw[Zp b a]
def Zs{Q:jz}(c:(Z.map (·.1)).Nodup)(h:b[a]?=b3 (.dT<|bA Z))(h1:Z.length<64):W (qK [.loc a] b) Q↔Q (.loc b.length,b++[.lst<|(kY<|Z.map (·.1)).map PP]):=by rw[Zq c]at h;show Zk h<|by rw[Ã];show h1
def Kh(a:(Z.map (·.1)).Nodup)(h:z∈Z):bW (GZ Z) z.1=z.2.1:=j6 (by rw[l9];show a) (g:=(z.1,z.2.1))<|Ô.mpr ⟨z,h,rfl⟩
def Zt(h:d∈dS (bA Z)):∃p∈Z.map (·.1),d=PP p:=by let⟨c,a,rfl⟩:=Ô.mp h;let⟨z,b,rfl⟩:=Ô.mp a;show⟨z.1,Ô.mpr ⟨z,b,rfl⟩,rfl⟩
def Zu(hi:c[i]?=b3 (b3<|.loc a))(d:b[a]?=b3 (.dF kvs)):eT (aE i) c b=b3 (dE<|.tup<|dS kvs,kvs.length+1,b):=by dsimp[eT,aE,hi,Đ,d]
def Ki p:eN (PP p)=p:=rfl
def Zv{L:jq}(a:mJ L.length i=b3 j)(b:L[j]?=b3 q):atI (L.map PP) i=b3 (PP q):=by ext atI;rw[Ã,a,Đ,ú,b];rfl
def Zw(h:a9 K k=b4):cD K k d=K++[(k,d)]:=by ext cD;rw[h,if_neg ∅]
def Zx(h:a9 K k=b4):cD (K++[(k,d)]) k e=K++[(k,e)]:=by
 let b:∀p∈K,p.1≠k:=λp a w=>by unfold a9 at h;rw[Option.map_eq_none_iff,Y0]at h;show h p a<|decide_eq_true w
 let c:(a9 (K++[(k,d)]) k).isSome=true:=by ext a9;rw[zc,RO];show⟨(k,d),Ħ.mpr<|.inr<|Ē.mpr rfl,decide_eq_true rfl⟩
 ext cD;rw[if_pos c,þ];have:(K.map λp=>if p.1=k then(p.1,e)else p)=K:=by let w:(K.map λp=>if p.1=k then(p.1,e)else p)=K.map id:=Ţ λp a=>if_neg<|b p a;rw[w,MU]
 rw[this];simp
abbrev cV(u n:Int)(a:Bool)(p:Int×Int):Bool:=decide (n<cX u p)==a
abbrev d9(u n:Int)(a:Bool)(F:Int×Int->Ly)(q:Int×Int):Ly:=if cV u n a (aC (F q) q)then dA (F q) (bS u n)else F q
def Kj(b:∀q,ė (F q))q:ė (d9 u n a F q):=by
 ext d9;split
 .show DC (b q)<|wY u n
 .show b q
def Zy u n a F q:aC (d9 u n a F q) q=if cV u n a (aC (F q) q)then aC (bS u n) (aC (F q) q)else aC (F q) q:=by
 ext d9;split
 .rw[j5]
 .rfl
def HI.put(I:HI j s Z)(d:j[s]?=b3 (.dT<|bA Z))(i:j[b]?=b3 (.lst<|L.map PP)):
  ∃h,cD (bA Z) (aV p) (.loc b)=bA h/\GZ h=f9 (GZ Z) p L/\HI (j.set s<|.dT<|bA h) s h:=by
 let bs:b≠s:=λe=>by rw[e,d]at i;ext i
 let k:((GZ Z).map (·.1)).Nodup:=by rw[l9];show I.kd
 by_cases c:p∈Z.map (·.1)
 .show⟨Z.map λy=>if y.1=p then(y.1,L,b)else y,YX c I.kd,?_,.inl<|cU d,?_,λy a=>?_⟩
  .ext f9;rw[l9,if_pos<|ζ.mpr c];ext GZ;rw[ã,ã];show Ţ λz f=>?_;change((if z.1=p then(z.1,L,b)else z).1,(if z.1=p then(z.1,L,b)else z).2.1)=if z.1=p then(z.1,L)else(z.1,z.2.1)
   split<;>rfl
  .let e:(Z.map λy=>if y.1=p then(y.1,L,b)else y).map (·.1)=Z.map (·.1):=by rw[ã];show Ţ λy f=>?_;change(if y.1=p then(y.1,L,b)else y).1=y.1;split<;>rfl
   rw[e];show I.kd
  .let⟨x,g,rfl⟩:=Ô.mp a;split
   .rw[ñ<|î bs];show i
   .rw[ñ<|î<|I.ne (.inl d) g];show I.at_ x g
 .show⟨Z++[(p,L,b)],JY c,?_,.inl<|cU d,?_,λy a=>?_⟩
  .ext f9;rw[l9,if_neg λw=>c<|ζ.mp w];ext GZ;rw[þ];rfl
  .rw[þ,Ϻ];show⟨I.kd,∅,λx g y a e=>by
    dsimp[ó,϶,Ē]at a;rw[e,a]at g;show c g⟩
  .rcases Ħ.mp a with a|a
   .rw[ñ<|î<|I.ne (.inl d) a];show I.at_ y a
   .rw[Ē.mp a,ñ<|î bs];show i
def HI.off{kvs:jx}(I:HI b a Z)(e:b[s]?=b3 (.dT kvs))(h:a≠s)c:HI (b.set s c) a Z:=by show⟨?_,I.kd,λz d=>by rw[ñ<|î<|I.ne (.inl e) d];show I.at_ z d⟩;ext Dc;rw[ñ<|î h];show I.dic
def DQ(h:p∉G.map (·.1)):f9 G p L=G++[(p,L)]:=by ext f9;rw[if_neg λw=>h<|ζ.mp w]
def Kk mv G g:mG mv (G++[g])=if mv g.1 then mG mv G else mG mv G++[g]:=by ext mG;rw[ϣ];cases h:mv g.1<;>simp[h]
def Kl mv M G g:iJ mv M (G++[g])=if mv g.1 then iJ mv M G++[(M g.1,g.2.reverse)]else iJ mv M G:=by ext iJ;rw[ϣ,þ];cases h:mv g.1<;>simp[h]
def Km{c:Type} [DecidableEq c]:∀{l m:List c},l.Nodup->(∀x∈l,x∈m)->l.length<=m.length
 |[],_,_,_=>ĵ _|x::l,m,h,hs=>by rw[Ŏ]at h;let a:=hs x<|š ..;let d:=Km (l:=l) (m:=m.erase x) h.2 λy b=>(List.mem_erase_of_ne λe:y=x=>h.1<|e▸b).mpr<|hs y<|Ō _ b;rw[List.length_erase_of_mem a]at d;have:=RU a;rw[ņ];lia
def ħ.len(P:ħ qs g G):G.length<=qs.length/\∀x∈G,x.2.length<=qs.length:=by
 constructor
 .have:=Km P.kd (m:=qs.map g) λp a=>by let⟨q,b,e⟩:=P.key.mp a;show Ô.mpr ⟨q,b,e⟩
  rw[Ã,Ã]at this;show this
 .intro x c;have:=(P.pm x.1).length_eq;rw[j6 P.kd c]at this;rw[this];show ż _ _
def ħ.lenZ(P:ħ qs g (GZ Z)):Z.length<=qs.length/\∀z∈Z,1<=z.2.1.length/\z.2.1.length<=qs.length:=by let⟨h1,b⟩:=P.len;unfold GZ at h1;rw[Ã]at h1;show⟨h1,λz c=>?_⟩;let a:(z.1,z.2.1)∈GZ Z:=Ô.mpr ⟨z,c,rfl⟩;show⟨RD.mpr<|P.ne _ a,b _ a⟩
def Kn a x:∀bs:List Bool,∃b,pX a (.bl x) (bs.map D.bl)=b3 b
 |[]=>⟨_,rfl⟩|b::bs=>by let⟨c,e⟩:=Kn a x bs;rw[ó];ext pX;ext b<;>ext x<;>first|show⟨_,rfl⟩|show⟨c,e⟩|(rw[e];show⟨_,rfl⟩)
def Ko{bs:List Bool}x(h:c[a]?=b3 (.lst<|bs.map D.bl)):∃b,eH dI (.bl x) (.loc a) c=b3 (.bl b,c):=by let⟨b,e⟩:=Kn c x bs;show⟨!b,?_⟩;dsimp[eH,h,rS,bO,Đ,e,Ĕ,if_true]
def xA(h:Z[i]?=b3 z):(GZ Z).take (i+1)=(GZ Z).take i++[(z.1,z.2.1)]:=jM<|by ext GZ;rw[ú,h];rfl
def gQ{P:Prop}(h:b=b5)(q:Q):if b=dI then P else Q:=by rw[h];show q
def kZ{P:Prop}(h:b=dI)(q:P):if b=dI then P else Q:=by rw[h];show q
def Zz(I:HI a s Z)(h:a[s]?=b3 (.dT<|bA Z))p:∃c,fV (.loc s) [PP p,.loc a.length] (a++[C.lst []])=b3 (.loc c,a++[C.lst []])/\(a++[C.lst []])[c]?=b3 (.lst<|(bW (GZ Z) p).map PP):=by
 let g:=aR a<|C.lst [];by_cases b:p∈Z.map (·.1)
 .let⟨t,d,e⟩:=AA b;show⟨t.2.2,?_,?_⟩
  .dsimp[fV,aD g h,b9,Ĕ];rw[<- e,sO I.kd d];rfl
  .rw[<- e,Kh I.kd d];show aD g<|I.at_ t d
 .show⟨a.length,?_,?_⟩
  .dsimp[fV,aD g h,b9,Ĕ];rw[DI b];rfl
  .rw[pM<|by rw[l9];show b];show bE _ _
def ZA(h:y∈f9 G p L):y∈G\/y.2=L:=by
 unfold f9 at h;split at h
 .let⟨t,a,e⟩:=Ô.mp h;split at e
  .rw[<- e];show .inr rfl
  .rw[<- e];show .inl a
 .rcases Ħ.mp h with h|h
  .show .inl h
  .rw[Ē.mp h];show .inr rfl
def Kq{b:Hm}{kvs:jx}(d:b[a]?=b3 (.dT kvs)){c:Hm}(p:b<+:c):b.set a (.dF kvs)<+:c.set a (.dF kvs):=by let⟨t,rfl⟩:=p;rw[NN _ _ (â.mp d).1];show NU _ _
def sQ{b:Hm}{kvs:jx}(e:b[a]?=b3 (.dT kvs))(h:b.length<=c)x(d:Hm):(d.set a x)[c]?=d[c]?:=ñ<|û<|ĸ (â.mp e).1 h
abbrev ZC(k:Nat):MS:=aL (eM (aE 9) (aE 10)<|aA bG (aE 0)<|aE 10)<|bK (a7<|aA (aZ b5) (aA kM (bJ (f k "_law_value")<|aB (bJ (f k "_law_led")<|aB (aA bG (aE 0)<|aE 10)<|aB (aE 10) aG)<|aB (aE 2) aG)<|aE 3)<|aE 4) (eM (aE 9) (aE 10)<|bJ (f k "_law_then")<|aB (aA bG (aE 0)<|aE 10)<|aB (aE 8) aG) bV
section
variable{u n:Int}{a o:Bool}{m2:MS}{Z:Zr}{μ:Hm}{h:Nat}
def ZD k(X:0<=u/\u<4)(M:∀q,ė (F q))(nd:qs.Nodup)(T:qs.length<=100)(hw:μ[w]?=b3 (.dT<|bT (λq=>LD<|F q) qs))Q(H:∀x b,μ<+:b->b[μ.length]?=b3 (.dT<|bT (λq=>LD<|d9 u n a F q) qs)->Q (.nx,b3 (.loc w)::A::b3 (.int u)::b3 (.int n)::b3 (.bl a)::B::E::G::b3 (LD<|bS u n)::b3 (.loc μ.length)::x::xs,b)):
  W (gO 0 (cA (eT<|aE 0) (cL 10)<|ZC<|k+1) m2 (b3 (.loc w)::A::b3 (.int u)::b3 (.int n)::b3 (.bl a)::B::E::G::b3 (LD<|bS u n)::b3 (.loc μ.length)::b4::xs)<|μ++[.dT []]) Q:=by
 let L:(μ.set w<|.dF<|bT (λq=>LD<|F q) qs)[w]?=b3 (.dF<|bT (λq=>LD<|F q) qs):=cU hw;let O:(μ.set w<|.dF<|bT (λq=>LD<|F q) qs).length<=μ.length:=lw Ÿ;show AI rfl (aD (aR _ _) hw) (λi c b=>∃x,c=b3 (.loc w)::A::b3 (.int u)::b3 (.int n)::b3 (.bl a)::B::E::G::b3 (LD<|bS u n)::b3 (.loc μ.length)::x::xs/\μ.set w (.dF<|bT (λq=>LD<|F q) qs)<+:b/\b[μ.length]?=b3 (.dT<|bT (λq=>LD<|d9 u n a F q)<|qs.take i))
  ⟨b4,rfl,Kq hw<|aR _ _,by rw[sQ hw<|Ø _];show bE _ _⟩ ?_ ?_
 .rintro i kk d c b N ⟨x,rfl,p,g⟩;rw[ú]at N;let⟨q,y,e⟩:=ţ.mp N;ext e;let z:∀{I:Hm}{Q:jz},μ.set w (.dF<|bT (λq=>LD<|F q) qs)<+:I->Q (LD<|F q,I)->W (bG (.loc w) (PP q) I) Q:=λU h=>(gC (.inr<|aD U L) (b9 q)<|iX nd<|Ĵ y).mpr h;let R:a9 (bT (λq=>LD<|d9 u n a F q)<|qs.take i) (aV q)=none:=DO<|qT nd y;let lt:(qs.take i).length<=100:=Ğ (ir _ _) T;let J:bT (λq=>LD<|d9 u n a F q) (qs.take<|i+1)=bT (λq=>LD<|d9 u n a F q) (qs.take i)++[(aV q,LD<|d9 u n a F q)]:=by rw[jM y,bT,þ];rfl
  show Ç.mpr (Ć.mpr<|aP rfl rfl<|z p ⟨_,rfl,_,rfl,(l7 g (b9 q)<|by rw[Ã,ï];lia).mpr ?_⟩);rw[Zw R];let j:=cZ p O<|C.dT<|bT (λq=>LD<|d9 u n a F q) (qs.take i)++[(aV q,LD<|F q)];let K:=cU (c':=C.dT (bT (λq=>LD<|d9 u n a F q) (qs.take i)++[(aV q,LD<|F q)])) g;generalize b.set μ.length (C.dT<|bT (λq=>LD<|d9 u n a F q) (qs.take i)++[(aV q,LD<|F q)])=μ2 at j K;show Ò.mpr<|c5<|aO<|aO<|dJ<|aQ<|dJ<|aQ<|aP rfl rfl<|z j ⟨_,rfl,(Kb k (F q) (M q) q _ _).mpr ⟨_,rfl,AE k _ u X _ _ λY s=>⟨_,rfl,Ń.mpr ⟨_,rfl,Ŭ.mpr ⟨_,rfl,?_⟩⟩⟩⟩⟩;let v:=aD s K;cases hc:cV u n a (aC (F q) q)with
  |true=>show kZ hc (Ć.mpr<|dJ<|aQ<|aP rfl rfl<|z (j.trans s) ⟨_,rfl,(Ze k (F q) (bS u n) (M q) (wY u n) _ _).mpr ⟨_,rfl,_,rfl,(l7 v (b9 q)<|by rw[ă,Ã,ï];change _+1<_;lia).mpr ⟨rfl,_,rfl,cZ (j.trans s) O _,?_⟩⟩⟩);rw[cU v,Zx R,J,d9,if_pos hc]|false=>show gQ hc<|Î.mpr ⟨rfl,_,rfl,j.trans s,?_⟩;rw[v,J,d9,if_neg<|by rw[hc];show ô]
 .rintro c b ⟨x,rfl,p,g⟩;rw[Ã,Ź]at g;show⟨aD p L,H x _ (w9 hw p)<|by rw[sQ hw<|Ø _];show g⟩
def HI.thaw{kvs:jx}(J:HI μ' c Y)(g:μ'[b]?=b3 (.dF kvs))(hc:c≠b)x:HI (μ'.set b x) c Y:=by show⟨?_,J.kd,λz d=>by rw[ñ<|î<|J.ne (.inr g) d];show J.at_ z d⟩;ext Dc;rw[ñ<|î hc];show J.dic
abbrev ZE(k:Nat):MS:=bK (a7<|aA (aZ b5) (aA kM (bJ (f k "_law_value")<|aB (aE 6)<|aB (aE 2) aG)<|aE 3)<|aE 4) (eM (aE 12) (bJ (f k "_law_led")<|aB (aE 8)<|aB (aE 6) aG)<|bJ nQ<|aB (aA bG (aE 1)<|aE 6) aG)<|eM (aE 11) (aE 6)<|aA bG (aE 1)<|aE 6
inductive T5 (u n:Int)(a:Bool)(Z:Zr)(s:Nat)(μ:Hm)(i:Nat)(μ':Hm):Prop
 |mk (S G:Zr)(p:μ<+:μ')(IS:HI μ' s S)(g1:μ'[s]?=b3 (.dT<|bA S))(eS:GZ S=mG (cV u n a) ((GZ Z).take i))(IG:HI μ' (s+1) G)(g2:μ'[s+1]?=b3 (.dT<|bA G))(eG:GZ G=iJ (cV u n a) (aC<|bS u n) ((GZ Z).take i)):T5 u n a Z s μ i μ'
def ZF k(hu:0<=u/\u<4)(I:HI μ h Z)(g:μ[h]?=b3 (.dT<|bA Z))(hl:Z.length<=100){q:Hm}(pre:μ<+:q)(ls:μ.length<=s)(gs:q[s]?=b3 (.dT []))(gg:q[s+1]?=b3 (.dT []))Q(H:∀x S G b,μ<+:b->HI b s S->b[s]?=b3 (.dT<|bA S)->GZ S=mG (cV u n a) (GZ Z)->HI b (s+1) G->b[s+1]?=b3 (.dT<|bA G)->GZ G=iJ (cV u n a) (aC<|bS u n) (GZ Z)->Q (.nx,[x0,b3<|.loc h,b3<|.int u,b3<|.int n,b3<|.bl a,x5,x,x7,b3<|LD<|bS u n,x9,A,b3<|.loc s,b3<|.loc<|s+1,B],b)):
  W (gO 1 (cA (eT<|aE 1) (cL 6)<|ZE<|k+1) m2 [x0,b3<|.loc h,b3<|.int u,b3<|.int n,b3<|.bl a,x5,x6,x7,b3<|LD<|bS u n,x9,A,b3<|.loc s,b3<|.loc<|s+1,B] q) Q:=by
 let IF:=I.frz g;let l0:(μ.set h<|.dF<|bA Z).length<=s:=by rw[Ÿ];show ls
 let gF:(μ.set h<|.dF<|bA Z)[h]?=b3 (.dF<|bA Z):=cU g;let U:∀{c:Nat}{q:Hm},q[c]?=b3 (.dT [])->HI q c []:=λe=>⟨.inl e,ud,λz M=>nomatch M⟩;let R:(q.set h<|.dF<|bA Z)[s]?=b3 (.dT []):=(sQ g ls _ _).trans gs;let O:(q.set h<|.dF<|bA Z)[s+1]?=b3 (.dT []):=(sQ g () _ _).trans gg;show AI rfl (aD pre g) (λi J b=>∃x,J=[x0,b3<|.loc h,b3<|.int u,b3<|.int n,b3<|.bl a,x5,x,x7,b3<|LD<|bS u n,x9,A,b3<|.loc s,b3<|.loc<|s+1,B]/\T5 u n a Z s (μ.set h<|.dF<|bA Z) i b) ⟨x6,rfl,[],[],Kq g pre,U R,R,rfl,U O,O,rfl⟩ ?_ ?_
 .rintro i kk d J b hk ⟨x,rfl,S,G,N,IS,g1,L,IG,g2,K⟩;let⟨z,M,X,rfl,rfl⟩:=AJ hk;let et:=xA X;let Y:z.1∉((GZ Z).take i).map (·.1):=by rw[yu,l9];show qT I.kd<|by rw[ú,X];rfl
  let lt:((GZ Z).take i).length<=100:=Ğ (ir _ _) (by rw[jK];show hl);show Ò.mpr<|c5<|aO<|aO<|aS rfl<|AE k _ u hu _ _ λE p=>⟨_,rfl,Ń.mpr ⟨_,rfl,Ŭ.mpr ⟨_,rfl,?_⟩⟩⟩;replace p:b<+:E:=p;let j:=IF.more<|N.trans p;let q13:=N.trans p;cases hc:cV u n a z.1 with
  |true=>
   let lG:G.length<=100:=by rw[<- jK,K,iJ,Ã];show Ğ (ż _ _) lt
   show kZ hc<|Ć.mpr<|dJ<|aQ<|aP rfl rfl<|(gC j.dic (b9 z.1)<|sO I.kd M).mpr ⟨_,rfl,(Jw<|j.at_ z M).mpr ⟨_,rfl,aS rfl<|(Kb k (bS u n) (wY u n) z.1 _ _).mpr ?_⟩⟩;let p4:=p.trans<|aR E<|C.lst (z.2.1.map PP).reverse;let g4:=aD p4 g2;let⟨G',e1,e2,I4⟩:=(IG.more p4).put g4 (p:=aC (bS u n) z.1) (L:=z.2.1.reverse) (b:=E.length) (by rw[Ov];show bE _ _);show(l7 g4 (b9 _)<|by rw[oA,ï];lia).mpr ?_;rw[e1];show⟨rfl,_,rfl,S,G',cZ (N.trans p4) () _,(IS.more p4).off g4 () _,by rw[ñ ()];show aD p4 g1,by rw[et,Kk,if_pos hc];show L,I4,cU g4,?_⟩;rw[et,Kl,if_pos hc,e2,K,DQ];intro w;let⟨y,hy,ey⟩:=Ô.mp w;let⟨y',hy',rfl⟩:=Ô.mp hy;have:y'.1=z.1:=by rw[<- wZ u n y'.1,show aC (bS u n) y'.1=aC (bS u n) z.1 from ey,wZ]
   show Y<|this▸Ô.mpr ⟨y',(ģ.mp hy').1,rfl⟩
  |false=>
   let lS:S.length<=100:=by rw[<- jK,L,mG];show Ğ (ż _ _) lt
   let T:¬ cV u n a z.1=true:=by rw[hc];show ô
   let g3:=aD p g1;let⟨S',e1,e2,I4⟩:=(IS.more p).put g3 (p:=z.1)<|j.at_ z M;show gQ hc (Ć.mpr<|aP rfl rfl<|(gC j.dic (b9 z.1)<|sO I.kd M).mpr ⟨_,rfl,_,rfl,(l7 g3 (b9 z.1)<|by rw[oA,ï];lia).mpr ?_⟩);rw[e1];show⟨rfl,_,rfl,S',G,cZ q13 l0 _,I4,cU g3,?_,(IG.more p).off g3 () _,by rw[ñ ()];show aD p g2,by rw[et,Kl,if_neg T];show K⟩;rw[et,Kk,if_neg T,e2,L,DQ];intro w;let⟨y,hy,ey⟩:=Ô.mp w;show Y<|ey▸Ô.mpr ⟨y,(ģ.mp hy).1,rfl⟩
 .rintro J b ⟨x,rfl,S,G,N,IS,g1,L,IG,g2,K⟩;let v:=aD N gF;let hhl:=(â.mp g).1;rw[jd<|by rw[oA,jK];show Ø _]at L K;show⟨v,H x S G _ (w9 g N) (IS.thaw v () _) ((sQ g ls _ _).trans g1) L (IG.thaw v () _) ((sQ g () _ _).trans g2) K⟩
abbrev ZG:MS:=aL (fR 13<|fU fV (aE 11)<|aB (aE 6)<|aB (cR aG) aG)<|eM (aE 11) (aE 6)<|iO (c9<|aE 5) (aA bI (aE 13)<|aA bG (aE 12)<|aE 6)<|aA bI (aA bG (aE 12)<|aE 6)<|aE 13
inductive Pb (μ:Hm)(s:Nat)(S0 G:Zr)(o:Bool)(i:Nat)(μ':Hm):Prop
 |mk (S:Zr)(p:μ<+:μ')(IS:HI μ' s S)(g:μ'[s]?=b3 (.dT<|bA S))(eS:GZ S=((GZ G).take i).foldl (iW o) (GZ S0))(l1:S.length<=S0.length+i)(l2:∀z∈S,z.2.1.length<=100+100*i)(IG:HI μ' (s+1) G)(gF:μ'[s+1]?=b3 (.dF<|bA G)):Pb μ s S0 G o i μ'
def ZH(IS0:HI B s j)(hs:B[s]?=b3 (.dT<|bA j))(IG:HI B (s+1) G)(Y:B[s+1]?=b3 (.dT<|bA G))(lS:j.length+G.length<=100)(ll:∀z∈j,z.2.1.length<=100)(lg:∀z∈G,z.2.1.length<=100)(pre:μ<+:B)(ls:μ.length<=s)Q(H:∀x y S b,μ<+:b->HI b s S->b[s]?=b3 (.dT<|bA S)->GZ S=(GZ G).foldl (iW o) (GZ j)->Q (.nx,[x0,x1,x2,x3,x4,b3<|.bl o,x,x7,x8,x9,v,b3<|.loc s,b3<|.loc<|s+1,y],b)):
  W (gO 12 (cA (eT<|aE 12) (cL 6) ZG) m2 [x0,x1,x2,x3,x4,b3<|.bl o,x6,x7,x8,x9,v,b3<|.loc s,b3<|.loc<|s+1,b4] B) Q:=by
 let IF:=IG.frz Y;show AI rfl Y (λi w b=>∃x y,w=[x0,x1,x2,x3,x4,b3<|.bl o,x,x7,x8,x9,v,b3<|.loc s,b3<|.loc<|s+1,y]/\Pb μ s j G o i b)
  ⟨x6,b4,rfl,j,cZ pre () _,IS0.frz Y,by rw[ñ ()];show hs,rfl,(),λz A=>by have:=ll z A;lia,IF,cU Y⟩ ?_ ?_
 .rintro i kk d w b hk ⟨x,y,rfl,S,p1,E,K,T,l1,l2,IG1,X⟩;let⟨z,A,M,rfl,rfl⟩:=AJ hk;let hil:=(â.mp M).1;let lz:=lg z A;let⟨c,e1,J⟩:=Zz E K z.1;show bD<|JZ ⟨_,rfl,J2 K,Ë.mpr ⟨_,rfl,Ë.mpr<|æ.mpr ⟨_,rfl,ĵ _,_,rfl,_,e1,Ć.mpr<|ę.mpr<|hJ ⟨_,rfl,rfl,?_⟩⟩⟩⟩;let O:=aR b<|C.lst [];let I:=E.more O;let g2:=aD O K;let g:=IG1.more O;let p:=aD O X;let N:=p1.trans O;generalize b++[C.lst []]=μ2 at J I g2 g p N;let la:(bW (GZ S) z.1).length<=100+100*i:=by
   by_cases hp:z.1∈S.map (·.1)
   .let⟨t,ht,e⟩:=AA hp;rw[<- e,Kh E.kd ht];show l2 t ht
   .rw[pM<|by rw[l9];show hp];show ĵ _
  let k:∀L:jq,iW o (GZ S) (z.1,z.2.1)=f9 (GZ S) z.1 L->L.length<=100+100*(i+1)->W (vV (.loc s) (PP z.1) (.loc μ2.length)<|μ2++[.lst<|L.map PP]) (Pb μ s j G o<|i+1):=λL eo lL=>by
   let R:=aR μ2<|C.lst<|L.map PP;let U:=aD R g2;let⟨S',e3,e4,I4⟩:=(I.more R).put U (p:=z.1)<|bE _ _;show(l7 U (b9 z.1)<|by rw[oA,ï];lia).mpr ?_;rw[e3];show⟨S',cZ (N.trans R) ls _,I4,cU U,?_,?_,λy hy=>?_,(g.more R).off U () _,by rw[ñ ()];show aD R p⟩
   .rw[xA M,Oe,<- T,e4,<- eo];rfl
   .rw[<- jK,e4,f9];split
    .rw[Ã,jK];lia
    .rw[ă,jK];change _+1<=_;lia
   .let hy':(y.1,y.2.1)∈f9 (GZ S) z.1 L:=by rw[<- e4];show Ô.mpr ⟨y,hy,rfl⟩
    rcases ZA hy' with h|h
    .let⟨t,ht,e⟩:=Ô.mp h;have:=l2 t ht;let J:t.2.1=y.2.1:=congrArg (·.2) e;rw[<- J];lia
    .rw[show y.2.1=L from h];show lL
  let it:∀{Q:jz},Q (.loc z.2.2,μ2)->W (bG (.loc<|s+1) (PP z.1) μ2) Q:=λh=>(gC (.inr p) (b9 z.1)<|sO IG.kd A).mpr h;cases o with
  |true=>show kZ rfl (aO ⟨_,rfl,aP rfl rfl<|it<|(sJ J (g.at_ z A)<|by rw[Ã,Ã,ï];lia).mpr ⟨_,rfl,_,rfl,?_⟩⟩);have:=k (bW (GZ S) z.1++z.2.1) rfl (by rw[ă];lia);rw[þ]at this;show bP this λ_ q=>⟨rfl,_,_,rfl,q⟩|false=>show gQ rfl (aO<|aP rfl rfl<|it ⟨_,rfl,(sJ (g.at_ z A) J<|by rw[Ã,Ã,ï];lia).mpr ⟨_,rfl,_,rfl,?_⟩⟩);have:=k (z.2.1++bW (GZ S) z.1) rfl (by rw[ă];lia);rw[þ]at this;show bP this λ_ q=>⟨rfl,_,_,rfl,q⟩
 .rintro w b ⟨x,y,rfl,S,p1,E,K,T,_,_,_,X⟩;rw[oA,jd<|by rw[jK];show Ø _]at T;show⟨X,H x y S _ (cZ p1 () _) (E.thaw X () _) (by rw[ñ ()];show K) T⟩
end
def ZI k(O:0<=u/\u<4)(T:∀q,ė (F q))(nd:qs.Nodup)(hl:qs.length<=36)(hw:g[w]?=b3 (.dT<|bT (λq=>LD<|F q) qs))(I:HI g h Z)(s:g[h]?=b3 (.dT<|bA Z))(P:ħ qs (λq=>aC (F q) q) (GZ Z))(Q:jz)(H:∀w' h' (A:Int×Int->Ly) Z' c,g<+:c->c[w']?=b3 (.dT<|bT (λq=>LD<|A q) qs)->HI c h' Z'->c[h']?=b3 (.dT<|bA Z')->(∀q,ė (A q))->ħ qs (λq=>aC (A q) q) (GZ Z')->((A=F/\Z'=Z)\/(A=d9 u n a F/\GZ Z'=sP (cV u n a) (aC<|bS u n) o (GZ Z)))->Q (.tup [.loc w',.loc h'],c)):
  W (f (k+2) "_law_fold" [.loc w,.loc h,.int u,.int n,.bl a,.bl o] g) Q:=by
 let lZ:=P.len.1;rw[jK]at lZ;let gF:(g.set h<|.dF<|bA Z)[h]?=b3 (.dF<|bA Z):=cU s;show Ï (Yx (k+1) _ _ _ _ _ _ g)<|Ç.mpr<|AH rfl s<|ċ.mpr<|j4 (xs:=dS (bA Z)) (p:=λ_=>dI) (v:=λd=>.bl<|cV u n a<|eN d) ?_;rw[Zu rfl gF];show À.mpr ⟨Di,by rw[dS,Ã],by rw[dS,Ã,oA,ï];lia,λd c hd N=>õ.mpr ⟨rfl,č _⟩,λd c hd x N=>?_,λc N hg=>⟨aD N gF,?_⟩⟩
 .let⟨p,hpm,rfl⟩:=Zt hd;show aO<|aO<|aS rfl<|AE k _ u O _ _ λi X=>⟨_,rfl,Ń.mpr ⟨_,rfl,Ŭ.mpr ⟨?_,X⟩⟩⟩;rw[Ki];rfl
 let e1:((dS<|bA Z).filter λ_=>dI).map (λd=>D.bl<|cV u n a<|eN d)=((dS<|bA Z).map λd=>cV u n a<|eN d).map D.bl:=by rw[zy.mpr λ_ x=>rfl,ã];rfl
 rw[e1]at hg;let v:=w9 s N;let lq:(g.set h<|.dF<|bA Z).length=g.length:=Ÿ;let L:=(sQ s (lw lq.symm) (.dT<|bA Z) c).trans hg;generalize(g.set h<|.dF<|bA Z).length=b at L;generalize c.set h (.dT<|bA Z)=μ1 at v L;let⟨b1,i1⟩:=Ko dI L;let⟨b2,i2⟩:=Ko b5 L;let j:=H w h F Z μ1 v (aD v hw) (I.more v) (aD v s) T P<|.inl ⟨rfl,rfl⟩;show Ç.mpr<|Ò.mpr<|Ū.mpr<|c5<|aP rfl rfl ⟨_,i1,_,rfl,?_⟩;cases b1 with
 |true=>show kZ rfl (kZ rfl<|cJ<|à.mpr ⟨_,rfl,gZ,j⟩)|false=>
  show gQ rfl<|c5<|aP rfl rfl ⟨_,i2,_,rfl,?_⟩;cases b2 with
  |true=>show kZ rfl (cJ<|à.mpr ⟨_,rfl,gZ,j⟩)|false=>
   show gQ rfl<|Î.mpr<|bD<|aS rfl<|Zc k u n O _ _ λμ2 p2=>bD<|á.mpr<|Ç.mpr ?_;let q2:=v.trans p2;show ZD k O T nd () (aD q2 hw) _ λx i X g3=>bD<|á.mpr<|bD<|á.mpr<|Ç.mpr ?_;let Y:=q2.trans X;let l4:(i++[C.dT []]).length=i.length+1:=ă;let M:=bE (i++[C.dT []])<|C.dT [];rw[l4]at M ⊢;show ZF k O (I.more Y) (aD Y s) () ((aR _ _).trans<|aR _ _) (Ø _) (aD (aR _ _)<|bE _ _) M _ λx' S G μ5 p5 IS M K IG g6 J=>Ç.mpr ?_;let lS:S.length<=36:=by rw[<- jK,K,mG];show Ğ (ż _ _)<|by rw[jK];lia
   let lG:G.length<=36:=by rw[<- jK,J,iJ,Ã];show Ğ (ż _ _)<|by rw[jK];lia
   show ZH IS M IG g6 () (λz U=>?_) (λz U=>?_) p5 (Ø _) _ λx2 y2 S' μ6 p6 R g8 B=>cJ<|à.mpr ⟨_,rfl,gZ,H _ _ (d9 u n a F) S' μ6 (Y.trans p6) (aD p6 g3) R g8 (Kj T) ?_<|.inr ⟨rfl,by rw[B,K,J];rfl⟩⟩
   .let E:(z.1,z.2.1)∈GZ S:=Ô.mpr ⟨z,U,rfl⟩;rw[K]at E;show Ğ (P.len.2 _ (ģ.mp E).1) ()
   .let E:(z.1,z.2.1)∈GZ G:=Ô.mpr ⟨z,U,rfl⟩;rw[J]at E;let⟨y,hy,e⟩:=Ô.mp E;have:=P.len.2 _ (ģ.mp hy).1;injection e with _ e;rw[<- e,qd];lia
   rw[B,K,J,show(λq=>aC (d9 u n a F q) q)=_ from funext λq=>Zy u n a F q];show Y9 P (wZ u n) o
def Kr{a:Type}[DecidableEq a]:∀{l:List a},l.Nodup->∀{p},p∈l->(l.filter λq=>decide<|q=p)=[p]
 |[],_,_,h=>by ext h
 |x::l,nd,p,h=>by
  rw[Ŏ]at nd;by_cases e:x=p
  .subst e;rw[cu ∅,NO.mpr];intro y b w;show nd.1<|of_decide_eq_true w▸b
  .rw[WP<|by simp[e]];show Kr nd.2<|(ĉ.mp h).resolve_left λw=>e w.symm
abbrev oB(qs:jq):Gr:=qs.map λq=>(q,[q])
def DR qs:(oB qs).map (·.1)=qs:=by ext oB;rw[ã];show MU _
def ZJ(nd:qs.Nodup):ħ qs (λq=>aC fD q) (oB qs):=by
 let a:((oB qs).map (·.1)).Nodup:=by rw[DR];show nd
 show⟨a,λg b=>?_,λp=>?_⟩
 .let⟨q,_,rfl⟩:=Ô.mp b;simp
 .let e:(λq=>decide<|aC fD q=p)=λq=>decide (q=p):=funext λq=>by rw[Ay]
  rw[e];by_cases h:p∈qs
  .have:=j6 a (g:=(p,[p]))<|Ô.mpr ⟨p,h,rfl⟩;rw[this,Kr nd h]
  .rw[pM<|by rw[DR];show h,NO.mpr];intro q c w;show h<|of_decide_eq_true w▸c
structure Pc(qs:jq)(μ:Hm)(w h:Nat)(F:Int×Int->Ly)(Z:Zr):Prop where
 hw:μ[w]?=b3 (.dT<|bT (λq=>LD<|F q) qs)
 hi:HI μ h Z
 hh:μ[h]?=b3 (.dT<|bA Z)
 di:∀q,ė (F q)
 pl:ħ qs (λq=>aC (F q) q)<|GZ Z
abbrev ZK:MS:=aL (eM (aE 5) (aE 7)<|cQ<|aB (mC<|.int 1)<|aB (mC<|.int 0)<|aB (mC<|.int 0)<|aB (mC<|.int 1)<|aB (mC<|.int 0)<|aB (mC<|.int 0) aG)<|eM (aE 6) (aE 7)<|cR<|aB (aE 7) aG
inductive TC (μ0:Hm)(a b l:Nat)(qs:jq)(i:Nat)(μ':Hm):Prop
 |mk (Z:Zr)(p:μ0<+:μ')(g1:μ'[a]?=b3 (.dT<|bT (λ_=>LD fD)<|qs.take i))(I:HI μ' b Z)(g2:μ'[b]?=b3 (.dT<|bA Z))(eG:GZ Z=oB (qs.take i))(g3:μ'[l]?=b3 (.lst<|qs.map PP)):TC μ0 a b l qs i μ'
def ZL{μ0 o:Hm}(nd:qs.Nodup)(hl:qs.length<=100)(pre:μ0<+:o)(la:μ0.length<=a)(s:a<b)(w:o[a]?=b3 (.dT []))(p:o[b]?=b3 (.dT []))(gl:o[l]?=b3 (.lst<|qs.map PP))Q(H:∀x Z c,μ0<+:c->Pc qs c a b (λ_=>fD) Z->GZ Z=oB qs->Q (.nx,G::J::K::L::M::b3 (.loc a)::b3 (.loc b)::x::xs,c)):
  W (fS (dE<|.loc l) (cL 7) ZK ((qs.map PP).length+1) 0 (G::J::K::L::M::b3 (.loc a)::b3 (.loc b)::R::xs) o) Q:=by
 let A:a≠l:=λe=>by rw[e,gl]at w;ext w
 let B:b≠l:=λe=>by rw[e,gl]at p;ext p
 show jF (λi g c=>∃x,g=G::J::K::L::M::b3 (.loc a)::b3 (.loc b)::x::xs/\TC μ0 a b l qs i c)
  ⟨R,rfl,[],pre,w,⟨.inl p,ud,λz hz=>nomatch hz⟩,p,rfl,gl⟩ (by rintro _ _ _ ⟨_,_,_,_,_,_,_,_,h⟩;show h) ?_ ?_
 .rintro i d g c hd ⟨x,rfl,Z,E,k,I,u,j,N⟩;let⟨q,y,rfl⟩:=nE hd;let O:q∉qs.take i:=qT nd y;let lt:(qs.take i).length<=100:=Ğ (ir _ _) hl;let lZ:Z.length<=100:=by rw[<- jK,j,oB,Ã];show lt
  show⟨_,rfl,Ç.mpr<|Ć.mpr<|à.mpr ⟨_,rfl,DE,_,rfl,_,rfl,(l7 k (b9 q)<|by rw[Ã,ï];lia).mpr ?_⟩⟩;let X:cD (bT (λ_=>LD fD)<|qs.take i) (aV q) (LD fD)=bT (λ_=>LD fD) (qs.take<|i+1):=by rw[jM y];show DP (v:=λ_=>LD fD) O
  let p2:=cZ E la<|C.dT<|bT (λ_=>LD fD)<|qs.take<|i+1;let n:=aR (c.set a<|C.dT<|bT (λ_=>LD fD)<|qs.take<|i+1)<|C.lst [PP q];let v:=aD n<|(ñ<|û s).trans u;let⟨U,Y,e4,T⟩:=((I.off k (Š s) _).more n).put v (p:=q) (L:=[q])<|bE _ _;rw[show D.tup [.int 1,.int 0,.int 0,.int 1,.int 0,.int 0]=LD fD from rfl,X];show Ć.mpr (æ.mpr ⟨_,rfl,Ds,_,rfl,_,rfl,(l7 v (b9 q)<|by rw[oA,ï];lia).mpr ?_⟩);rw[Y];show⟨_,rfl,U,cZ (p2.trans n) () _,(ñ<|Š s).trans<|aD n<|cU k,T,cU v,?_,(ñ B).trans<|aD n<|(ñ A).trans N⟩;rw[e4,j,DQ<|by rw[DR];show O,jM y,oB,oB,þ];rfl
 .rintro g c ⟨x,rfl,Z,E,k,I,u,j,N⟩;rw[Ã,Ź]at k j;show H x Z c E ⟨k,I,u,λ_=>JN,by rw[j];show ZJ nd⟩ j
inductive TB (J:(Int×Int->Ly)->Gr->Prop)(ns:List Int)(w h c m:Int)(μ:Hm):aF->Hm->Prop
 |mk {a b:Nat}(F:Int×Int->Ly)(Z:Zr){x7 x8 x9 ww Nk Nj Ni:Option D}{μ':Hm}(p:μ<+:μ')(G:Pc (cC w h) μ' a b F Z)(j:J F (GZ Z)):TB J ns w h c m μ [b3<|.rol<|ns.map D.int,b3<|.int w,b3<|.int h,b3<|.int c,b3<|.int m,b3<|.loc a,b3<|.loc b,x7,x8,x9,ww,Nk,Nj,Ni] μ'
def ZM(J:(Int×Int->Ly)->Gr->Prop)k(ns:List Int)w h(L:J (λ_=>fD) (oB<|cC w h))(M:∀F G u n a o,0<=u/\u<4->n%4=0->ħ (cC w h) (λq=>aC (F q) q) G->J F G->J (d9 u n a F) (sP (cV u n a) (aC<|bS u n) o G))(hw:1<=w/\w<=3)(hh:1<=h/\h<=3)c m(hc:0<=c/\c<=50)(hm:0<=m/\m<=10)(nd:(cC w h).Nodup)(hl:(cC w h).length<=36)(h1:1<=(cC w h).length)(g:Hm)(Q:jz)(H:∀a b F Z e,g<+:e->Pc (cC w h) e a b F Z->J F (GZ Z)->Q (.tup [.loc a,.loc b],e)):W (f (k+3) "_law_grown" [.rol<|ns.map D.int,.int w,.int h,.int c,.int m] g) Q:=by
 show Ï (Yy (k+2) _ _ _ _ _ g)<|bD<|á.mpr<|bD<|á.mpr<|Ç.mpr<|É.mpr<|Ó.mpr<|aS rfl<|Zi (k+1) w h hw hh _ _<|(eI<|bE _ _).mpr ?_;show ZL (μ0:=g) nd () (((aR _ _).trans<|aR _ _).trans<|aR _ _) (Ø _) (by rw[ă];show Ϧ _) (aD ((aR _ _).trans<|aR _ _)<|bE _ _) (aD (aR _ _)<|bE _ _) (bE _ _) _ λx Z μ1 p1 I X=>fX (É.mpr<|(Ak (j:=0)).mpr ⟨_,rfl,(),?_⟩);show qO (λ_=>TB J ns w h c m g) (.mk _ Z p1 I<|by rw[X];show L) ?_ ?_
 .rintro i z j hi ⟨F,Z,y,G,s⟩;let lZ:=G.pl.lenZ.1;let zp:0<(kY<|Z.map (·.1)).length:=by rw[Zl,Ã];let⟨q,hq⟩:=List.exists_mem_of_length_pos (l:=cC w h) h1;have:=G.pl.key.mpr ⟨q,hq,rfl⟩;rw[l9]at this;have:=RU this;rwa [Ã]at this
  show⟨_,rfl,bD<|aS rfl<|AF k ns _ () _ _ λv p v0 v1 B=>bD<|aP rfl rfl<|ġ.mpr<|bD<|aS rfl<|(Zs G.hi.kd (aD B G.hh) ()).mpr<|bD ?_⟩;let p4:=aR p<|C.lst<|(kY<|Z.map (·.1)).map PP;let A:=bE p<|C.lst<|(kY<|Z.map (·.1)).map PP;let R:=NK (v/4) (show((kY<|Z.map (·.1)).length:Int)≠0 by lia);let T:=NS (v/4) (show 0<((kY<|Z.map (·.1)).length:Int) by lia);show dJ (aQ<|aO ⟨_,rfl,aO<|aP rfl rfl<|jl.mpr<|aS rfl<|(jH A).mpr<|(iH<|by rw[Ã];lia).mpr ?_⟩);rw[Ã];show(dY A<|Zv (Dy R T)<|ü ()).mpr ⟨_,rfl,AE (k+1) _ (v%4) () _ _ λμ5 p5=>bD<|aO<|aP rfl rfl<|(sI ⋯<|by decide).mpr ⟨_,rfl,ġ.mpr<|Ě.mpr<|aS rfl ?_⟩⟩;let d:=(B.trans p4).trans p5;show ZI k () G.di nd hl (aD d G.hw) (G.hi.more d) (aD d G.hh) G.pl _ λw' h' E O μ6 p6 g6 K g7 U N Y=>Œ.mpr<|.mk E O (y.trans<|d.trans p6) ⟨g6,K,g7,U,N⟩ ?_;rcases Y with⟨rfl,rfl⟩|⟨rfl,e7⟩
  .show s
  .rw[e7];show M F _ _ _ _ _ () () G.pl s
 .rintro z j ⟨F,Z,y,G,s⟩;show⟨rfl,cJ<|à.mpr ⟨_,rfl,gZ,H _ _ F Z j y G s⟩⟩
def Ks u n p:aC (bS u n) p=if u=0 then(p.1,2*n-p.2)else if u=1 then(2*n-p.1,p.2)else if u=2 then(p.2+n,p.1-n)else(n-p.2,n-p.1):=by
 ext bS aC;split
 .show đ ?_ ?_<;>dsimp<;>lia
 split
 .show đ ?_ ?_<;>dsimp<;>lia
 split
 .show đ ?_ ?_<;>dsimp<;>lia
 .show đ ?_ ?_<;>dsimp<;>lia
def ZN u n:d7 (bS u n)=-1:=by
 ext bS d7;split
 .rfl
 split
 .rfl
 split
 .rfl
 .rfl
def AL(h:ė A):(d7 A=1/\A.c=-A.b/\A.d=A.a)\/(d7 A=-1/\A.c=A.b/\A.d=-A.a):=by
 let⟨a,b,c,d,e,g⟩:=A;unfold ė at h;ext d7;dsimp at h ⊢;rcases h with⟨rfl,rfl,h1,i⟩|⟨rfl,rfl,h1,i⟩
 .rcases h1 with rfl|rfl<;>rcases i with rfl|rfl<;>decide
 .rcases h1 with rfl|rfl<;>rcases i with rfl|rfl<;>decide
def Kt{a:Int}(h1:a*x+b*y=0)(e:a*y-b*x=0)(hd:x*x+y*y≠0):a=0/\b=0:=by
 let c:a*(x*x+y*y)=0:=by grind
 let d:b*(x*x+y*y)=0:=by grind
 show⟨(iy.mp c).resolve_right hd,(iy.mp d).resolve_right hd⟩
def ZO{p:Int×Int}(h:p≠q):(p.1-q.1)*(p.1-q.1)+(p.2-q.2)*(p.2-q.2)≠0:=λe=>by
 let h1:(p.1-q.1)*(p.1-q.1)=0/\(p.2-q.2)*(p.2-q.2)=0:=by
  let a:∀z:Int,0<=z*z:=λz=>by
   rcases Int.le_total 0 z with h|h
   .show Int.mul_nonneg h h
   .show Int.mul_nonneg_of_nonpos_of_nonpos h h
  have:=a<|p.1-q.1;have:=a<|p.2-q.2;omega
 show h<|đ ?_ ?_
 .rcases iy.mp h1.1 with z|z<;>lia
 .rcases iy.mp h1.2 with z|z<;>lia
def ZP{C:Ly}(hB:ė B)(hC:ė C)(hd:d7 B=d7 C)(R:p≠q)(h1:aC B p=aC C p)(n:aC B q=aC C q):B=C:=by
 let j:=AL hB;let k:=AL hC;let nz:=ZO R;clear R;let⟨x,y⟩:=p;let⟨z,w⟩:=q;unfold aC at h1 n;injection h1 with u1 u2;injection n with v1 v2;dsimp at nz u1 u2 v1 v2;let h:(B.a-C.a)*(x-z)+(B.b-C.b)*(y-w)=0:=by grind
 let i:(B.c-C.c)*(x-z)+(B.d-C.d)*(y-w)=0:=by grind
 let key:B.a-C.a=0/\B.b-C.b=0:=by
  rcases j with⟨a,c,d⟩|⟨a,c,d⟩<;>rcases k with⟨c1,c2,c3⟩|⟨c1,c2,c3⟩
  .show Kt h (by rw[c,d,c2,c3]at i;grind) nz
  .rw[hd,c1]at a;ext a
  .rw[hd,c1]at a;ext a
  .show Kt h (by rw[c,d,c2,c3]at i;grind) nz
 let e:B.a=C.a:=()
 let g:B.b=C.b:=()
 let b:B.c=C.c/\B.d=C.d:=by
  rcases j with⟨a,c,d⟩|⟨a,c,d⟩<;>rcases k with⟨c1,c2,c3⟩|⟨c1,c2,c3⟩
  .rw[c,d,c2,c3,e,g];show⟨rfl,rfl⟩
  .rw[hd,c1]at a;ext a
  .rw[hd,c1]at a;ext a
  .rw[c,d,c2,c3,e,g];show⟨rfl,rfl⟩
 show Ly.ext' e g b.1 b.2 ?_ ?_
 .rw[e,g]at u1;lia
 .rw[b.1,b.2]at u2;lia
def Ku{P:Int->Int->Prop}(h:∀a∈[(0:Int),1,2,3],∀b∈[(0:Int),1,2,3],P a b)x y:P (x%4) (y%4):=by
 let m:∀z:Int,z%4∈[(0:Int),1,2,3]:=λz=>by
  have:z%4=0\/z%4=1\/z%4=2\/z%4=3:=()
  apply this
 show h _ (m x) _<|m y
def sR(z:Int):z%4%2=z%2:=RA z ⋯
abbrev cK(x y:Int):Bool:=x%2==y%2&&(x%2==1||!(x%4==y%4))
abbrev sA(e:Int×Int):Int×Int:=if e.1%2=1 then(e.1,e.2+2-e.2%4)else if e.2%4=0 then(e.1,e.2-1)else(e.1-1,e.2)
abbrev sB(e:Int×Int):Int×Int:=if e.1%2=1 then(e.1+2-e.1%4,e.2)else if e.2%4=0 then(e.1,e.2+1)else(e.1+1,e.2)
def xB{e:Int×Int}(h:cK e.1 e.2=dI):(e.1%2=1/\e.2%2=1)\/(e.1%2=0/\e.2%4=0/\e.1%4=2)\/(e.1%2=0/\e.2%4=2/\e.1%4=0):=by unfold cK at h;rw[<- sR e.1,<- sR e.2]at h ⊢;revert h;show Ku (P:=λa b=>(a%2==b%2&&(a%2==1||!(a==b)))=dI->(a%2=1/\b%2=1)\/(a%2=0/\b=0/\a=2)\/(a%2=0/\b=2/\a=0)) ⋯ e.1 e.2
def AM(h:cK e.1 e.2=dI):eU (sA e) e=sB e/\eU (sB e) e=sA e:=by
 have:=xB h;unfold eU sA sB;rcases this with⟨h1,b⟩|⟨h1,b,a⟩|⟨h1,b,a⟩
 .dsimp[if_pos h1];by_cases a:e.1%4=e.2%4
  .dsimp[if_pos a];show⟨đ ?_ ?_,đ ?_ ?_⟩<;>dsimp<;>lia
  .dsimp[if_neg a];show⟨đ ?_ ?_,đ ?_ ?_⟩<;>dsimp<;>lia
 .dsimp[if_neg<|show ¬ e.1%2=1 by lia,if_pos b];show⟨đ ?_ ?_,đ ?_ ?_⟩<;>dsimp<;>lia
 .dsimp[if_neg<|show ¬ e.1%2=1 by lia,if_neg<|show ¬ e.2%4=0 by lia];show⟨đ ?_ ?_,đ ?_ ?_⟩<;>dsimp<;>lia
def EdF.pos{F:Int×Int->Ly}(a:cK e.1 e.2=dI)(h:F (sA e)=dA (fY e) (F<|sB e)):aC (F<|sA e) (sA e)=aC (F<|sB e) (sB e):=by rw[h,j5,kU,(AM a).1]
def ZQ u n:dA (bS u n) (bS u n)=fD:=DD λp=>by rw[j5,wZ,Ay]
abbrev j7(a:List Int):Bool:=decide (a.length<=8)&&decide (a.length%2=0)&&a.all (λg=>decide<|1<=g)&&n9 a==0
def ZR k i a(Q:jz):W (f (k+1) "is_whole" [.int i] a) Q↔Q (.bl dI,a):=by rw[Dq,è];dsimp[Ð,Ă,Jk,ä,Ë,eC,cM,fN,Jo,Jp];simp
def ZS:∀i,i.length<=8->i.length%2=0->∃es j:List Int,gN (i.map D.int) b4 b4 (b3 2)=es.map D.int/\gN (i.map D.int) (b3 1) b4 (b3 2)=j.map D.int/\es.sum-j.sum=n9 i/\es.length<=8/\j.length<=8
 |[],_,_=>⟨[],[],rfl,rfl,rfl,⋯,⋯⟩|[_],_,h=>by simp at h
 |[a,b],_,_=>⟨[a],[b],"","",by simp[n9]<;>lia,∅,∅⟩|[_,_,_],_,h=>by simp at h
 |[a,b,c,d],_,_=>⟨[a,c],[b,d],"","",by simp[n9]<;>lia,∅,∅⟩|[_,_,_,_,_],_,h=>by simp at h
 |[a,b,c,d,e,g],_,_=>⟨[a,c,e],[b,d,g],"","",by simp[n9]<;>lia,∅,∅⟩|[_,_,_,_,_,_,_],_,h=>by simp at h
 |[a,b,c,d,e,g,x,y],_,_=>⟨[a,c,e,x],[b,d,g,y],"","",by simp[n9]<;>lia,∅,∅⟩|_::_::_::_::_::_::_::_::_::_,h,_=>absurd h ∅
def Kv{a:List Int}(h:d∈a.map D.int):∃g∈a,d=.int g:=by let⟨g,h1,rfl⟩:=Ô.mp h;show⟨g,h1,rfl⟩
def AN{a:Type}(l:List a):l.filter (λ_=>dI)=l:=∅
def Kw{o:Option a}{r:a}:W o (λx=>x=r)->o=b3 r:=λ⟨_,e,q⟩=>e.trans<|congrArg b3 q
def ZT k a b(hz:b.length<=8)(h:Hm)(Q:jz)(q:h[a]?=b3 (.lst<|b.map D.int))(H:∀μ',h<+:μ'->Q (.bl<|j7 b,μ')):W (f (k+2) "is_good" [.loc a] h) Q:=by
 let u:dH [.loc a] h=b3 (.int (b.length:Nat),h):=Kw ((jH q).mpr<|by rw[Ã]);let A:j7 b=(decide (b.length%2=0)&&b.all (λg=>decide<|1<=g)&&n9 b==0):=by ext j7;rw[decide_eq_true hz,OI]
 rw[A]at H;show Ï (XG (k+1) _ h)<|Dv (b:=(b.length:Int)%2==1) (μ':=h) (Kw<|Dx<|c5<|aO<|aS rfl<|hG u ⟨_,rfl,Ń.mpr ⟨_,rfl,decide_eq_false (),c5<|aO<|aO<|aS rfl<|hG u ⟨_,rfl,ĭ.mpr ⟨_,rfl,ą.mpr ⟨_,rfl,rfl⟩⟩⟩⟩⟩) (λn=>?_) λn=>nZ ?_
 .let n:=beq_iff_eq.mp n;rw[decide_eq_false<|show ¬ b.length%2=0 by lia]at H;show Dw ⟨_,rfl,H _<|č _⟩
 .let n:=beq_eq_false_iff_ne.mp n;let v:b.length%2=0:=()
  rw[decide_eq_true v,OI]at H;let⟨z,I,x,o,G,L,M⟩:=ZS b hz v;let fin:∀(R:Fl×aF×Hm->Prop) c,h<+:c->(∀K μ',h<+:μ'->R (.rt<|.bl<|n9 b==0,K,μ'))->W (aM (aA (aZ b5) (bJ oU<|aB (qA (aE 0) mM mM<|mN<|mC<|.int 2) aG)<|bJ oU<|aB (qA (aE 0) (mN<|mC<|.int 1) mM<|mN<|mC<|.int 2) aG) [b3<|.loc a] c) R:=λR c y B=>by
   let i:=aD y q;show cJ (aO<|Du<|Js ⟨_,rfl,_,rfl,_,rfl,_,rfl,_,rfl,by change b3 (2:Int)≠b3 0;decide,_,i,by rw[x,Ã,ï];lia,?_⟩);rw[x];show(Jr<|bE _ _).mpr (Du<|Js ⟨_,rfl,_,rfl,_,rfl,_,rfl,_,rfl,by change b3 (2:Int)≠b3 0;decide,_,aD (aR _ _) i,by rw[o,Ã,ï];lia,?_⟩);rw[o];show(Jr<|bE _ _).mpr<|ą.mpr ?_;let e:(z.sum==I.sum)=(n9 b==0):=by rw[<- G,γ,beq_iff_eq,beq_iff_eq];lia
   rw[e];show B _ _<|y.trans<|(aR _ _).trans<|aR _ _
  show Ç.mpr<|Ò.mpr<|sN<|hJ (b:=b.all λg=>decide<|1<=g)<|Du<|j4 (xs:=b.map D.int) (p:=λ_=>dI) (v:=λd=>.bl<|decide<|1<=sZ d)<|Ó.mpr ⟨_,rfl,(eI q).mpr ⟨mW q,rfl,by rw[Ã,ï];lia,λd μ' hd E=>õ.mpr ⟨rfl,č _⟩,λd μ' hd l E=>?_,λc p s=>?_⟩⟩
  .let⟨g,_,rfl⟩:=Kv hd;show Ă.mpr<|aS rfl<|(ZR k g _ _).mpr<|(if_pos rfl).mpr<|aP rfl rfl<|xf.mpr ⟨rfl,č _⟩
  .let j:c[h.length]?=b3 (.lst<|(b.map λg=>decide<|1<=g).map D.bl):=by rw[s,AN,ã,ã];rfl
   show(Xi j).mpr ⟨by rw[OC];rfl,?_⟩;cases w:b.all λg=>decide (1<=g)with
   |false=>rw[w]at H;show(if_pos rfl).mpr (Ð.mpr ⟨_,rfl,H _ p⟩)|true=>rw[w]at H;show(if_neg ô).mpr<|Î.mpr<|fin _ c p λ_ μ' J=>H μ' J
abbrev qU(h:Int)(x:Int):jq:=(Ā (4*h-1).toNat).map λ(j:Nat)=>(x,1+(j:Int))
abbrev pN(h:Int)(n:Nat):jq:=(Ā n).flatMap λ(i:Nat)=>qU h<|1+(i:Int)
abbrev jN(w h:Int):jq:=pN h (4*w-1).toNat
def Ky h n:pN h (n+1)=pN h n++qU h (1+(n:Int)):=by ext pN;rw[NM,ur];simp
def Kz h x:(qU h x).length=(4*h-1).toNat:=by ext qU;simp
def DS h:∀n,(pN h n).length=n*(4*h-1).toNat
 |0=>by simp[pN]
 |n+1=>by rw[Ky,ă,DS h n,Kz,OO]
def KA{h:Int}(b:h<=6)(a:n<=23):n*(4*h-1).toNat<=529:=by have:n*(4*h-1).toNat<=23*23:=Qk a ();lia
def ZU h x:((pK 1 (4*h-1).toNat).filter λ_=>dI).map (λd=>P x<|sZ d)=(qU h x).map PP:=by ext pK qU;rw[show ∀l:List D,l.filter (λ_=>dI)=l from λl=>∅,ã,ã];rfl
def KG k w h(hw:1<=w/\w<=6)(u:1<=h/\h<=6)(c:Hm)(Q:jz)(H:∀a μ',c<+:μ'->μ'[a]?=b3 (.lst<|(jN w h).map PP)->c.length<=a->Q (.loc a,μ')):W (f (k+1) "places_within" [.int w,.int h] c) Q:=by
 rw[XB,è];dsimp[Ç,ċ,æ,eC];show⟨ĵ _,?_⟩;dsimp[Λ,δ,É,Ĝ,Ë,eC,fN,é,cM,dC,uJ];show⟨(),?_⟩;show qO (lo:=1) (λi s μ'=>c<+:μ'/\μ'[c.length]?=b3 (.lst<|(pN h i).map PP)/\∃o,s=[b3<|.int w,b3<|.int h,b3<|.loc c.length,o]) ⟨aR _ _,bE _ _,b4,rfl⟩ ?_ ?_
 .rintro i s q hi ⟨p,e,o,rfl⟩;show⟨_,rfl,?_⟩;dsimp[Λ,δ,ë];show jG ?_;dsimp[cM,dC];show⟨iI e,?_⟩;dsimp[Ë,eC];show j4 (xs:=pK 1 (4*h-1).toNat) (p:=λ_=>dI) (v:=λd=>P (1+(i:Int))<|sZ d) ?_;dsimp[Ĝ,Ë,eC,fN,é,cM,dC,uJ];show⟨(),Xf,by simp[pK],by rw[ï];simp[pK];lia,?_,?_,?_⟩
  .intro d μ' hd p;show õ.mpr ⟨rfl,č _⟩
  .intro d μ' hd _ p;let⟨j,x,rfl⟩:=YG hd;dsimp[ϧ,ϥ,à,Ë,eC,cM,dC,gZ,true_and];show⟨rfl,č _⟩
  .intro v b g;rw[ZU]at g;let n:((pN h i).map PP).length+((qU h<|1+(i:Int)).map PP).length<=Ñ:=by let h1:=KA (h:=h) u.2 (n:=i+1) ();rw[OO]at h1;rw[Ã,Ã,DS,Kz,ï];lia
   show(Al (aD b e) g n).mpr ?_;show⟨cZ (p.trans b) (Ø _) _,?_,_,rfl⟩;rw[Ϥ (â.mp<|aD b e).1,Ky,þ]
 .rintro s q ⟨p,e,o,rfl⟩;dsimp[Ð,cM,dC];show H _ _ p e<|Ø _
def DT(hw:w<=6)(a:h<=6):(jN w h).length<=529:=by ext jN;rw[DS];show KA a ()
abbrev mv(x y:Int)(l:jq):jq:=l.map λs=>(x+s.1,y+s.2)
def KH k x y l(g:l.length<=63)(c:Hm)(Q:jz)(h:∀a μ',c<+:μ'->μ'[a]?=b3 (.lst<|(mv x y l).map PP)->c.length<=a->Q (.loc a,μ')):W (f (k+1) "moved_by" [P x y,.tup<|l.map PP] c) Q:=by
 rw[Xv,è];dsimp[Ð];show j4 (xs:=l.map PP) (p:=λ_=>dI) (v:=λd=>PP (x+(eN d).1,y+(eN d).2)) ?_;dsimp[Ó,cM,dC];show ϫ.mpr ?_;show⟨Di,rfl,by rw[Ã,ï];lia,λd μ' hd b=>À.mpr ⟨rfl,č _⟩,λd μ' hd z b=>?_,λμ' b e=>?_⟩
 .let⟨u,v,rfl⟩:=wX hd;dsimp[ϧ,ϥ,à,é,fN,Ë,eC,cM,dC,ĺ,Č,Û,gZ,true_and];show⟨rfl,č _⟩
 .show h _ _ b ?_<|Ø _;rw[e,zy.mpr λ_ z=>rfl,ã];ext mv;rw[ã];rfl
abbrev E8:jq:=[(2,0),(1,1),(0,2),(-1,1),(-2,0),(-1,-1),(0,-2),(1,-1)]
abbrev F4:jq:=[(1,1),(-1,1),(-1,-1),(1,-1)]
abbrev b4a:jq:=[(2,1),(1,2),(-1,2),(-2,1),(-2,-1),(-1,-2),(1,-2),(2,-1)]
abbrev b4f:jq:=[(0,1),(-1,0),(0,-1),(1,0)]
abbrev gG(x:Int):jq:=if x%4=0 then E8 else F4
abbrev ZV(x:Int):jq:=if x%4=0 then b4a else b4f
def KI k x y(b:Hm)(Q:jz)(h:∀a μ',b<+:μ'->μ'[a]?=b3 (.lst<|(mv x y<|gG x).map PP)->b.length<=a->Q (.loc a,μ')):W (f (k+2) "edges_round" [P x y] b) Q:=by
 rw[Xw,è];dsimp[Ð,ä,Ë,eC,cM,ę,Ę,é,fN,ĺ,ġ,ą];unfold gG at h;by_cases e:x%4=0
 .rw[if_pos e]at h;rw[e];show KH k x y E8 ⋯ b _ h
 .rw[if_neg e]at h;rw[if_neg<|by apply e];show KH k x y F4 ⋯ b _ h
def xC kvs k:(a9 kvs k).isSome=kvs.any λp=>decide (p.1=k):=by ext a9;rw[zc,γ,RO,mY]
open _root_ in
def ZW kvs k k' d:(a9 (cD kvs k d) k').isSome=(decide (k=k')||(a9 kvs k').isSome):=by
 ext cD;split
 .rename_i h;let e:(kvs.map λp=>if p.1=k then(p.1,d)else p).any (λp=>decide<|p.1=k')=kvs.any λp=>decide (p.1=k'):=by rw[OD];congr 1;funext p;dsimp[Function.comp];split<;>rfl
  rw[xC,e,xC kvs k'];by_cases z:k=k'
  .subst z;rw[xC]at h;rw[h];simp
  .simp[z]
 .rw[xC,List.any_append,xC];dsimp[OJ,List.any_nil,MZ];show Bool.or_comm _ _
abbrev jZ(bs:List Bool):List Int:=((Ā bs.length).filter λi=>bs.getD i b5).map λ(i:Nat)=>(i:Int)
abbrev hV(bs:List Bool):List Int:=((jZ bs).zip<|(jZ bs).drop 1++((jZ bs).take 1).map λs=>s+(bs.length:Int)).map λp=>(p.2-p.1)*(8/(bs.length:Int))
abbrev MD(m:(Int×Int)×Str):D:=.tup [PP m.1,.str m.2]
def ZX{z:Int}(n:Nat)(h0:0<=z)(h1:z<n):∃k,k<n/\(k:Int)=z:=⟨z.toNat,(Int.toNat_lt h0).mpr h1,Int.toNat_of_nonneg h0⟩
def KJ(hz:1<=z/\z<=6):z∈[(1:Int),2,3,4,5,6]:=by let⟨k,a,rfl⟩:=ZX 7 (Int.le_trans ⋯ hz.1) (Int.lt_of_le_of_lt hz.2 ⋯);show(by decide:∀k:Nat,k<7->1<=(k:Int)/\(k:Int)<=6->(k:Int)∈[(1:Int),2,3,4,5,6]) k a hz
abbrev sS(p:Int×Int):Bool:=p.1%2==0&&p.1%4==p.2%4
def ZY k x y a(Q:jz):W (f (k+1) "is_corner" [P x y] a) Q↔Q (.bl<|sS (x,y),a):=by rw[Xp,è];dsimp[Ð,Ă,é,fN,cM,ĺ,Č,ą,ĭ,ġ];ext sS;cases x%2==0<;>simp
abbrev bH(a:List ((Int×Int)×Str))(p:Int×Int):Bool:=(a.map (·.1)).any λq=>q==p
def KL:∀a:List<|(Int×Int)×Str,tZ (a.map MD)=b3 (a.map λm=>(aV m.1,D.str m.2))
 |[]=>rfl|m::a=>by rw[ó,ó];change(dR<|PP m.1).bind (λk=>(tZ<|a.map MD).map λl=>(k,D.str m.2)::l)=_;rw[KL a];rfl
def KN k:∀(l kvs:jx),(a9 (l.foldl (λq p=>cD q p.1 p.2) kvs) k).isSome=((a9 kvs k).isSome||l.any λp=>decide<|p.1=k)
 |[],kvs=>∅
 |p::l,kvs=>by rw[ut,KN k l,ZW,OJ];cases decide (p.1=k)<;>cases(a9 kvs k).isSome<;>simp
def ZZ p q:decide (aV p=aV q)=(p==q):=by rw[γ];dsimp[decide_eq_true_eq,beq_iff_eq,aV,Rg,and_true,Q7]
def Z0 a p:(a9 ((a.map λm=>(aV m.1,D.str m.2)).foldl (λq p=>cD q p.1 p.2) [])<|aV p).isSome=bH a p:=by rw[KN];ext bH;rw[OD,OD];change(b5||_)=_;rw[yt];congr 1;funext m;show ZZ m.1 p
def ū{Q:jz}:W (bG (.tup [a,b,c]) (.int 2) d) Q↔Q (c,d):=À
noncomputable abbrev SH(w h:Int)(a:List ((Int×Int)×Str)):D:=.tup [.int w,.int h,.tup<|a.map MD]
def Ϭ{b:List ((Int×Int)×Str)}{Q:jz}:W (sC [.tup<|b.map MD] a) Q↔Q (.loc a.length,a++[.dT<|(b.map λm=>(aV m.1,D.str m.2)).foldl (λq p=>cD q p.1 p.2) []]):=by
 have:sC [.tup<|b.map MD] a=b3 (.loc a.length,a++[.dT<|(b.map λm=>(aV m.1,D.str m.2)).foldl (λq p=>cD q p.1 p.2) []]):=by dsimp[sC,KL,Ĕ]
 rw[this];show À
def KO k w h b x y(i:Hm)(Q:jz)(H:∀a μ',i<+:μ'->μ'[a]?=b3 (.lst<|((mv x y<|gG x).filter<|bH b).map PP)->Q (.loc a,μ')):W (f (k+3) "creases_at" [SH w h b,P x y] i) Q:=by
 rw[XH,è];dsimp[Ç,ċ,ä,Ë,eC,cM,dC];rw[JB,è];dsimp[Ð,ä,Ë,eC,é,cM,fN,ū,Ϭ,Λ,δ];show j4 (xs:=(mv x y<|gG x).map PP) (p:=λd=>bH b<|eN d) (v:=λd=>d) ?_;dsimp[Ó,ä,Ë,eC,cM,dC];show KI k x y _ _ λa n g e o=>?_;show(eI e).mpr ⟨mW e,rfl,?_,λd μ' hd c=>?_,λd μ' hd z c=>?_,λμ' c j=>?_⟩
 .rw[Ã,ï];ext mv gG;rw[Ã];split<;>decide
 .let⟨u,v,rfl⟩:=wX hd;dsimp[ϧ,ϥ,Ę,é,cM,dC];show(uH (aD (g.trans c)<|bE _ _)<|b9 (u,v)).mpr ?_;dsimp[Ň,if_false];show⟨Z0 b (u,v),č _⟩
 .dsimp[ϧ,ϥ,cM,dC];show⟨trivial,č _⟩
 .show H _ _ ((aR _ _).trans<|g.trans c) ?_;rw[j,uK<|bH b]
def KP a q:∀ps:jq,qB a (PP q) (ps.map PP)=b3 (ps.map λp=>p==q)
 |[]=>rfl|p::ps=>by rw[ó,ó];dsimp[qB,KP a q ps];rw[Xg 6];rfl
def Z1{ps:jq}{Q:jz}(h:b[a]?=b3 (.lst<|ps.map PP))(d:q∈ps)(hz:ps.length<=Ñ):W (tX (.loc a) [PP q] b) Q↔Q (.int (ps.idxOf q:Nat),b):=by
 let e:(ps.map λp=>p==q).findIdx id=ps.idxOf q:=by rw[List.findIdx_map];rfl
 let c:ps.idxOf q<ps.length:=SJ d;dsimp[tX,h,KP,Đ];rw[e,Ã,if_pos ⟨c,hz⟩];show À
def Z2{es:jq}(b:es.Nodup)(hi:i<es.length):es.idxOf (es.getD i (0,0))=i:=by
 let e:es.getD i (0,0)=es[i]:=by simp[ĩ,hi]
 rw[e];let a:es.idxOf es[i]<es.length:=SJ<|j0 hi;let h1:es[es.idxOf es[i]]=es[i]:=List.getElem_idxOf a;rcases Oy (es.idxOf es[i]) i with h|h|h
 .show absurd h1<|(vd.mp b) _ i a hi h
 .show h
 .show absurd h1.symm<|(vd.mp b) i _ hi a h
def DU{es:jq}(b:es.Nodup)m:(es.filter m).map (λq=>((es.idxOf q:Nat):Int))=jZ (es.map m):=by
 let h1:es.filter m=((Ā es.length).filter λi=>m<|es.getD i (0,0)).map λi=>es.getD i (0,0):=by
  conv=>lhs;rw[<- DH es (0,0)]
  rw[zj];rfl
 ext jZ;rw[h1,ã,Ã];let a:(Ā es.length).filter (λi=>m<|es.getD i (0,0))=(Ā es.length).filter λi=>(es.map m).getD i false:=by show P2 λi hi=>?_;let hi:=ň.mp hi;simp[ĩ,hi]
 rw[<- a];show Ţ λi hi=>?_;let hi:=ň.mp (ģ.mp hi).1;change((es.idxOf (es.getD i (0,0)):Nat):Int)=_;rw[Z2 b hi]
def KQ x y(h:l.Nodup):(mv x y l).Nodup:=by ext mv;change List.Pairwise _ _;rw[Of];show b4t (λ{a b} c e=>c ?_) h;dsimp[Q7]at e ⊢;lia
def KR x:(gG x).Nodup:=by ext gG;split<;>decide
def KS x:(gG x).length=8\/(gG x).length=4:=by
 ext gG;split
 .show .inl rfl
 .show .inr rfl
def Z3(b:List Int):nJ (b.map D.int) (b3 1) b4=(b.drop 1).map D.int:=by
 cases b with
 |nil=>rfl|cons a l=>ext nJ;rw[show(1:Int)=((1:Nat):Int)from rfl,HT.sIx_nat,HT.sIx_none,Ã,Oc ∅,<- List.map_drop,jd<|by rw[Ã,uw];lia]
def Z4(b:List Int):nJ (b.map D.int) b4 (b3 1)=(b.take 1).map D.int:=by
 cases b with
 |nil=>rfl|cons a l=>ext nJ;rw[show(1:Int)=((1:Nat):Int)from rfl,HT.sIx_nat,HT.sIx_none,Ã,Oc ∅,Oa,ON,yu]
abbrev sT(a b:List Int):List D:=(a.zip b).map PP
def Z5{e:Hm}(h:e[a]?=b3 (.lst<|c.map D.int))(j:e[b]?=b3 (.lst<|d.map D.int)):∀μ' i,e<+:μ'->jX (.loc a) (.loc b) μ' i=b3 (sT c d)[i]?:=λμ' i g=>by dsimp[jX,bO,aD g h,aD g j,Đ,Ĕ];ext sT List.zip;rw[ú,ú,ú,Rt];cases c[i]?<;>cases d[i]?<;>rfl
def KU k w h g x y(K:Hm)(Q:jz)(H:∀a μ',K<+:μ'->μ'[a]?=b3 (.lst<|(hV<|(mv x y<|gG x).map<|bH g).map D.int)->Q (.loc a,μ')):W (f (k+4) "gaps_at" [SH w h g,P x y] K) Q:=by
 let E:=KS x;let o:(mv x y<|gG x).length=(gG x).length:=by ext mv;rw[Ã]
 let p:=KQ x y<|KR x;show Ï (XI (k+3) _ _ K)<|bD<|aS rfl<|KI (k+1) x y _ _ λa1 μ1 p1 X l1=>bD<|aS rfl<|KO k w h g x y _ _ λa2 L O v=>?_;let c:=aD O X;generalize hes:mv x y (gG x)=es at c v o p H;let G:(es.filter<|bH g).length<=8:=Ğ (ż _ _) ();show bD<|j4 (xs:=(es.filter<|bH g).map PP) (p:=λ_=>dI) (v:=λd=>.int ((es.idxOf (eN d):Nat):Int))<|Ó.mpr ⟨_,rfl,(eI v).mpr ⟨mW v,rfl,by rw[Ã,ï];lia,λd μ' hd e=>õ.mpr ⟨rfl,č _⟩,λd μ' hd l e=>?_,λb R Y=>?_⟩⟩
 .let⟨q,hq,rfl⟩:=Ô.mp hd;show jG ⟨_,rfl,iI<|aD e c,_,rfl,(Z1 (aD e c) (ģ.mp hq).1<|by rw[ï];lia).mpr ⟨rfl,č _⟩⟩
 .let j:b[L.length]?=b3 (.lst<|(jZ<|es.map<|bH g).map D.int):=by rw[Y,AN,ã,<- DU p,ã];rfl
  let I:(jZ<|es.map<|bH g).length<=8:=by rw[<- DU p,Ã];show G
  generalize hix:jZ (es.map<|bH g)=is at j I;show bD<|aO<|Jq ⟨_,rfl,_,rfl,_,rfl,_,rfl,_,j,?_⟩;rw[Z3];let z:=aD (aR b<|C.lst<|(is.drop 1).map D.int) j;let n:=aD (R.trans<|aR b<|C.lst<|(is.drop 1).map D.int) c;let B:=bE b<|C.lst<|(is.drop 1).map D.int;let T:=p1.trans<|O.trans<|R.trans<|aR b<|C.lst<|(is.drop 1).map D.int;dsimp;generalize b.length=l3 at B ⊢;generalize b++[C.lst<|(is.drop 1).map D.int]=μ4 at z n B T ⊢;show j4 (xs:=(is.take 1).map D.int) (p:=λ_=>dI) (v:=λd=>.int<|sZ d+(es.length:Int))<|Ó.mpr<|Jq ⟨_,rfl,_,rfl,_,rfl,_,rfl,_,z,?_⟩;rw[Z4];show(eI<|bE _ _).mpr ⟨mW<|bE _ _,rfl,by rw[Ã,Ι,ï];lia,λd μ' hd e=>õ.mpr ⟨rfl,č _⟩,λd μ' hd l e=>?_,λu p5 Z=>?_⟩
  .let⟨i,_,rfl⟩:=Kv hd;show aO ⟨_,rfl,aS rfl<|(jH<|aD ((aR _ _).trans e) n).mpr<|Û.mpr ⟨by rw[Ã];rfl,č _⟩⟩
  .let U:=(aR μ4<|C.lst<|(is.take 1).map D.int).trans p5;let A:u[(μ4++[C.lst<|(is.take 1).map D.int]).length]?=b3 (.lst<|((is.take 1).map λs=>s+(es.length:Int)).map D.int):=by rw[Z,AN,ã,ã];rfl
   show(sJ (aD U B) A<|by rw[Ã,Ã,Ã,uw,Ι,ï];lia).mpr ?_;rw[<- þ];generalize hjs:is.drop 1++(is.take 1).map (λs=>s+(es.length:Int))=js;let J:=U.trans<|aR u<|C.lst<|js.map D.int;show bD (aO ⟨_,rfl,aS rfl<|(jH<|aD J n).mpr<|(sI (by rw[Ã];lia)<|by rw[Ã];lia).mpr<|cJ ?_⟩);rw[Ã];let M:=aD J z;let N:=bE u<|C.lst<|js.map D.int;let hzl:(sT is js).length<=8:=by ext sT;rw[Ã,OV];lia
   let h8:8/(es.length:Int)=1\/8/(es.length:Int)=2:=by
    rcases E with h|h
    .left;rw[o,h];rfl
    .right;rw[o,h];rfl
   show An (xs:=sT is js) (x:=λd=>[b3<|.int (eN d).1,b3<|.int (eN d).2]) (p:=λ_=>dI) (v:=λd=>.int<|((eN d).2-(eN d).1)*(8/(es.length:Int)))<|Jv ⟨_,rfl,_,_,_,_,rfl,M,N,Z5 M N,?_,by rw[ï];lia,λd μ' hd=>?_,λd μ' hd e=>õ.mpr ⟨rfl,č _⟩,λd μ' hd l e=>?_,λμ8 p8 g8=>?_⟩
   .ext sT;dsimp[Ã,OV]
   .let⟨q,_,rfl⟩:=Ô.mp hd;rfl
   .let⟨q,_,rfl⟩:=Ô.mp hd;show aO<|aP rfl rfl<|ũ.mpr ⟨_,rfl,(pJ<|.inr ()).mpr ⟨rfl,č _⟩⟩
   .show H _ _ (T.trans<|J.trans p8) ?_;rw[g8,AN];ext sT hV;rw[hix,Ã,hjs,ã,ã];rfl
def eD{o:Option a}{r:a}:W o (λx=>x=r)->o=b3 r:=λ⟨_,e,q⟩=>e.trans<|congrArg b3 q
abbrev dM(p:Int×Int):List Int:=[p.1,p.2]
abbrev fI(p q:Int×Int):Int×Int:=if HT.lexLt (dM q) (dM p)then q else p
abbrev fJ(p q:Int×Int):Int×Int:=if HT.lexLt (dM p) (dM q)then q else p
abbrev oC(p q:Int×Int)(a:Bool)(c:Int×Int):Ti:=(dM<|fI p q,dM<|fJ p q,a,dM c)
def Z6 p q a:zT [PP p,PP q] a=b3 (PP<|fI p q,a):=by change b3 (if HT.lexLt (dM q) (dM p)then PP q else PP p,a)=_;ext fI;split<;>rfl
def Z7 p q a:zU [PP p,PP q] a=b3 (PP<|fJ p q,a):=by change b3 (if HT.lexLt (dM p) (dM q)then PP q else PP p,a)=_;ext fJ;split<;>rfl
def Z8(h:n=4):n<=Ñ:=by rw[h];decide
def DV k p q a c b(Q:jz)(H:Q (fG<|oC p q a c,b)):W (f (k+1) "tie_of" [PP p,PP q,.bl a,PP c] b) Q:=
 Ï (X5 k _ _ _ _ b)<|cJ<|à.mpr<|aQ<|aS rfl<|hG (Z6 p q b)<|aQ<|aS rfl<|hG (Z7 p q b) ⟨_,rfl,Z8 rfl,H⟩
def uM{i:Nat}{d:D}(e:xs[i]?=b3 d):atI xs (i:Int)=b3 d:=by let a:=(â.mp e).1;ext atI;rw[Dy () ()];apply e
def Z9{xs:List D}(h:i<xs.length):atI xs ((i:Int)-1)=xs[(i+(xs.length-1))%xs.length]?:=by
 ext atI mJ;cases i with
 |zero=>
  rw[if_neg (),if_pos ()];let e:(((0:Nat):Int)-1+xs.length).toNat=(0+(xs.length-1))%xs.length:=by rw[yz ()];lia
  rw[e];rfl
 |succ i=>
  rw[if_pos (),if_pos ()];let e:(((i+1:Nat):Int)-1).toNat=(i+1+(xs.length-1))%xs.length:=by
   have:i+1+(xs.length-1)=i+xs.length:=()
   rw[this,Nat.add_mod_right,yz ()];lia
  rw[e];rfl
def DW{a:List Int}(h:i<a.length):(a.map D.int)[i]?=b3 (.int<|a.getD i 0):=by rw[ú,ü h];simp[ĩ,h]
def a0a{cr:jq}(h:i<cr.length):(cr.map PP)[i]?=b3 (PP<|cr.getD i (0,0)):=by rw[ú,ü h];simp[ĩ,h]
abbrev oD(a:List Int)(i:Nat):Bool:=decide (a.getD i 0<a.getD ((i+(a.length-1))%a.length) 0)&&decide (a.getD i 0<a.getD ((i+1)%a.length) 0)
def KW(i n:Nat):((i:Int)+1)%(n:Int)=(((i+1)%n:Nat):Int):=by simp[Int.natCast_emod]
def a0b k(g:c[a]?=b3 (.lst<|b.map D.int))(h:i<b.length)(Q:jz)(H:Q (.bl<|oD b i,c)):W (f (k+1) "is_least" [.loc a,.int i] c) Q:=by
 let u:(i+(b.length-1))%b.length<b.length:=τ _ ();let v:(i+1)%b.length<b.length:=τ _ ();let n:∀{d},d=c->bG (.loc a) (.int i) d=b3 (.int<|b.getD i 0,d):=λe=>by subst e;show eD<|(dY g<|uM<|DW h).mpr rfl
 let q:bG (.loc a) (.int<|(i:Int)-1) c=b3 (.int<|b.getD ((i+(b.length-1))%b.length) 0,c):=eD<|(dY g<|by
  rw[Z9<|by rw[Ã];show h,Ã];show DW u).mpr rfl
 let s:bG (.loc a) (.int<|((i:Int)+1)%(b.length:Nat)) c=b3 (.int<|b.getD ((i+1)%b.length) 0,c):=eD ((dY g<|by rw[KW];show uM<|DW v).mpr rfl);show Ï (X6 k _ _ c)<|cJ<|Ă.mpr<|aO<|aP rfl rfl ⟨_,n rfl,aO ⟨_,rfl,aP rfl rfl<|ũ.mpr ⟨_,q,ı.mpr ?_⟩⟩⟩;unfold oD at H;let j:W (aA gM (aA bG (aE 0)<|aE 1) (aA bG (aE 0)<|aA b6 (aA bI (aE 1)<|mC<|.int 1)<|bJ dH<|aB (aE 0) aG) [b3<|.loc a,b3<|.int i] c) λp=>p=(.bl<|decide<|b.getD i 0<b.getD ((i+1)%b.length) 0,c):=by show aO<|aP rfl rfl ⟨_,n rfl,aO ⟨_,rfl,aO<|aP rfl rfl<|Û.mpr<|aS rfl<|(jH g).mpr ?_⟩⟩;rw[Ã];show(iH ()).mpr ⟨_,s,ı.mpr rfl⟩
 cases o:decide (b.getD i 0<b.getD ((i+(b.length-1))%b.length) 0)with
 |true=>rw[o,OI]at H;let⟨r,h1,rfl⟩:=j;show(if_pos rfl).mpr ⟨_,h1,H⟩|false=>rw[o,Qr]at H;show(if_neg ô).mpr H
abbrev qV(cr:jq)(c:Int×Int)(i:Nat):List Ti:=oC (cr.getD i (0,0)) (cr.getD ((i+1)%cr.length) (0,0)) b5 c::(if cr.length=4 then[oC (cr.getD ((i+2)%4) (0,0)) (cr.getD ((i+3)%4) (0,0)) dI c]else[])
def uN{cr:jq}(g:b[a]?=b3 (.lst<|cr.map PP))(h:i<cr.length):bG (.loc a) (.int (i:Int)) b=b3 (PP<|cr.getD i (0,0),b):=eD<|(dY g<|uM<|a0a h).mpr rfl
def a0c k{b:Hm}(g:b[a]?=b3 (.lst<|cr.map PP))(h:i<cr.length)c(Q:jz)(H:∀l μ',b<+:μ'->μ'[l]?=b3 (.lst<|(qV cr c i).map fG)->Q (.loc l,μ')):W (f (k+2) "ties_of_gap" [.loc a,.int i,PP c] b) Q:=by
 let u:(i+1)%cr.length<cr.length:=τ _ ();let o:bG (.loc a) (.int<|((i:Int)+1)%(cr.length:Nat)) b=b3 (PP<|cr.getD ((i+1)%cr.length) (0,0),b):=by rw[KW];show uN g u
 let s:dH [.loc a] b=b3 (.int (cr.length:Nat),b):=eD ((jH g).mpr<|by rw[Ã]);show Ï (X7 (k+1) _ _ _ b) (bD<|aS rfl<|hG s<|bD<|æ.mpr<|aQ<|dJ<|aQ<|aP rfl rfl ⟨_,uN g h,aQ<|aO ⟨_,rfl,aO<|aP rfl rfl<|Û.mpr ⟨_,rfl,(iH ()).mpr ⟨_,o,_,rfl,?_⟩⟩⟩⟩);show DV k _ _ _ _ _ _ ⟨_,rfl,Ds,?_⟩;let gl:=bE b<|C.lst [fG<|oC (cr.getD i (0,0)) (cr.getD ((i+1)%cr.length) (0,0)) b5 c];let n:=aD (aR b<|C.lst [fG<|oC (cr.getD i (0,0)) (cr.getD ((i+1)%cr.length) (0,0)) b5 c]) g;show Dv (b:=((cr.length:Nat):Int)==4) (μ':=b++[C.lst [fG<|oC (cr.getD i (0,0)) (cr.getD ((i+1)%cr.length) (0,0)) b5 c]]) (eD<|c5<|aP rfl rfl<|ą.mpr ⟨_,rfl,rfl⟩) (λd=>?_) λd=>nZ<|cJ ⟨_,rfl,H _ _ (aR _ _) ?_⟩
 .let d:cr.length=4:=by have:=beq_iff_eq.mp d;lia
  let v:(i+2)%4<cr.length:=()
  let w:(i+3)%4<cr.length:=()
  let p:∀{j:Hm},j[a]?=b3 (.lst<|cr.map PP)->bG (.loc a) (.int<|((i:Int)+2)%4) j=b3 (PP<|cr.getD ((i+2)%4) (0,0),j):=λe=>by rw[show((i:Int)+2)%4=(((i+2)%4:Nat):Int) by lia];show uN e v
  let q:∀{j:Hm},j[a]?=b3 (.lst<|cr.map PP)->bG (.loc a) (.int<|((i:Int)+3)%4) j=b3 (PP<|cr.getD ((i+3)%4) (0,0),j):=λe=>by rw[show((i:Int)+3)%4=(((i+3)%4:Nat):Int) by lia];show uN e w
  show Ar (jG ⟨_,rfl,iI gl,aQ<|dJ<|aQ<|aO ⟨_,rfl,aO<|aP rfl rfl<|Û.mpr ⟨_,rfl,(iH ⋯).mpr ⟨_,p n,aQ<|aO ⟨_,rfl,aO<|aP rfl rfl<|Û.mpr ⟨_,rfl,(iH ⋯).mpr ⟨_,q n,_,rfl,?_⟩⟩⟩⟩⟩⟩⟩);show DV k _ _ _ _ _ _ ⟨_,rfl,(mZ gl<|by change(1:Nat)<Ñ;decide).mpr<|cJ ⟨_,rfl,H _ _ (cZ (aR _ _) (Ø _) _) ?_⟩⟩;rw[cU gl];ext qV;rw[if_pos d];rfl
 .let d:¬ cr.length=4:=λz=>by rw[z]at d;ext d
  ext qV;rw[if_neg d];show gl
abbrev dN(m:Int×Int->Bool)(p:Int×Int):jq:=(mv p.1 p.2<|gG p.1).filter m
abbrev iY(m:Int×Int->Bool)(p:Int×Int):List Int:=hV<|(mv p.1 p.2<|gG p.1).map m
def AO m p:(iY m p).length=(dN m p).length:=by let e:=congrArg Ĭ<|DU (KQ p.1 p.2<|KR p.1) m;rw[Ã]at e;unfold iY hV dN;rw[Ã,OV,ă,Ã,uw,Ι,e];lia
def AQ m p:(dN m p).length<=8:=by show Ğ (ż _ _) ?_;have:(mv p.1 p.2<|gG p.1).length=(gG p.1).length:=Ã ..;have:=KS p.1;lia
abbrev j8(m:Int×Int->Bool)(p:Int×Int)(i:Nat):List Ti:=if oD (iY m p) i then qV (dN m p) p i else[]
abbrev jO(m:Int×Int->Bool)(p:Int×Int):List Ti:=if(dN m p).length=2 then[oC ((dN m p).getD 0 (0,0)) ((dN m p).getD 1 (0,0)) dI p]else(Ā (dN m p).length).flatMap (j8 m p)
def DX m p i:(j8 m p i).length<=2:=by
 ext j8 qV;split
 .split<;>simp
 .simp
def uO{a b:Type}{f:a->List b}(h:∀x,(f x).length<=n):∀l:List a,(l.flatMap f).length<=n*l.length
 |[]=>∅
 |x::l=>by let h1:=uO h l;let c:=h x;rw[P4,ă,ņ,Nat.mul_succ];lia
def DY m p:(jO m p).length<=16:=by
 ext jO;split
 .simp
 .let h1:=uO (DX m p)<|Ā (dN m p).length;rw[ph]at h1;have:=AQ m p;lia
inductive T1 (a0 a1 a2 a3:Option D)(l:Nat)(ν:Hm)(F:Nat->List Ti):Nat->aF->Hm->Prop
 |mk {i:Nat}{x:Option D}{μ:Hm}(p:ν<+:μ)(g:μ[l]?=b3 (.lst<|((Ā i).flatMap F).map fG)):T1 a0 a1 a2 a3 l ν F i [a0,a1,a2,a3,b3<|.loc l,x] μ
def a0d k w h c p(s:Hm)(Q:jz)(H:∀l μ',s<+:μ'->μ'[l]?=b3 (.lst<|(jO (bH c) p).map fG)->Q (.loc l,μ')):W (f (k+6) "ties_at" [SH w h c,PP p] s) Q:=by
 show Ï (X8 (k+5) _ _ s)<|bD<|aS rfl<|KO (k+2) w h c p.1 p.2 s _ λa o T u=>bD<|aS rfl<|KU (k+1) w h c p.1 p.2 o _ λb d G q=>?_;replace u:o[a]?=b3 (.lst<|(dN (bH c) p).map PP):=u;replace q:d[b]?=b3 (.lst<|(iY (bH c) p).map D.int):=q;let n:=aD G u;let R:=AO (bH c) p;let Y:=AQ (bH c) p;let N:dH [.loc a] d=b3 (.int ((dN (bH c) p).length:Nat),d):=eD ((jH n).mpr<|by rw[Ã]);let J:=T.trans G;show Dv (b:=(((dN (bH c) p).length:Nat):Int)==2) (μ':=d) (eD<|c5<|aO<|aS rfl<|hG N ⟨_,rfl,ą.mpr ⟨_,rfl,rfl⟩⟩) (λg=>?_) λg=>nZ ?_
 .let g:(dN (bH c) p).length=2:=by have:=beq_iff_eq.mp g;lia
  show Dw (æ.mpr<|aQ<|dJ<|aQ<|aP rfl rfl ⟨_,uN (i:=0) n (),aQ<|aP rfl rfl ⟨_,uN (i:=1) n (),_,rfl,?_⟩⟩);show DV (k+4) _ _ _ _ _ _ ⟨_,rfl,Ds,H _ _ (J.trans<|aR _ _) ?_⟩;ext jO;rw[if_pos g];show bE _ _
 .let g:¬ (dN (bH c) p).length=2:=λz=>by rw[z]at g;ext g
  let O:=aD (aR d<|C.lst []) n;let gB:=aD (aR d<|C.lst []) q;let M:dH [.loc a] (d++[C.lst []])=b3 (.int ((dN (bH c) p).length:Nat),d++[C.lst []]):=eD ((jH O).mpr<|by rw[Ã]);show bD (æ.mpr ⟨_,rfl,ĵ _,fX<|É.mpr<|(Ak (j:=0)).mpr<|aQ<|aS rfl<|hG M ⟨_,rfl,⟨(),()⟩,?_⟩⟩);dsimp;rw[bw];show qO (T1 (b3<|SH w h c) (b3<|PP p) (b3<|.loc a) (b3<|.loc b) d.length d<|j8 (bH c) p) (.mk (aR _ _)<|bE _ _) ?_ ?_
  .rintro i x v hi ⟨j,e⟩;show⟨_,rfl,?_⟩;rw[OM];show Ò.mpr (hJ<|aS rfl<|a0b (k+4) (aD j q) (by rw[R];show hi) _ ⟨rfl,?_⟩);let y:(Ā<|i+1).flatMap (j8 (bH c) p)=(Ā i).flatMap (j8 (bH c) p)++j8 (bH c) p i:=by rw[NM,ur];simp
   let K:=uO (DX (bH c) p)<|Ā i;rw[ph]at K;cases E:oD (iY (bH c) p) i with
   |false=>show(if_neg ô).mpr<|Î.mpr<|.mk j ?_;rw[y];unfold j8 at e ⊢;rw[E,if_neg ô,ŉ];show e|true=>
    show(if_pos rfl).mpr<|ë.mpr<|jG ⟨_,rfl,iI e,aQ<|aS rfl<|a0c (k+3) (aD j n) hi p _ λl U I A=>⟨_,rfl,?_⟩⟩;let L:qV (dN (bH c) p) p i=j8 (bH c) p i:=by ext j8;rw[E,if_pos rfl]
    rw[L]at A;let X:=DX (bH c) p i;let B:=aD I e;show(Al B A<|by rw[Ã,Ã,ï];lia).mpr<|.mk (cZ (j.trans I) (Ø _) _) ?_;rw[cU B,y,þ]
  .rintro x v ⟨j,e⟩;show⟨rfl,cJ ⟨_,rfl,H _ _ (J.trans j) ?_⟩⟩;ext jO;rw[if_neg g];show e
def KY k(hw:1<=w/\w<=6)(n:1<=h/\h<=6)(c:Hm)(Q:jz)(H:∀a μ',c<+:μ'->μ'[a]?=b3 (.lst<|((jN w h).filter sS).map PP)->Q (.loc a,μ')):W (f (k+2) "corners_in" [.int w,.int h] c) Q:=by
 show Ï (XD (k+1) _ _ c) (cJ<|j4 (xs:=(jN w h).map PP) (p:=λd=>sS<|eN d) (v:=λd=>d)<|Ó.mpr<|aS rfl<|KG _ w h () () _ _ λa j i e o=>?_);show(eI e).mpr ⟨mW e,rfl,?_,λd μ' hd b=>?_,λd μ' hd x b=>⟨_,rfl,rfl,č _⟩,λμ' b g=>?_⟩
 .have:=DT (w:=w) (h:=h) () ();rw[Ã,ï];lia
 .let⟨u,v,rfl⟩:=wX hd;show hJ<|aS rfl<|(ZY k u v _ _).mpr ⟨rfl,rfl,č _⟩
 .show H _ _ (i.trans b) ?_;rw[g,uK sS]
def a0e{a:Type}{l A B:List a}{x:a}{q:a->Bool}(b:l=A++x::B)(hA:∀y∈A,q y=b5)(c:q x=dI):l.find? q=b3 x:=by
 rw[b,RN];have:A.find? q=none:=Y0.mpr λy d=>by rw[hA y d];show ô
 rw[this,List.find?_cons_of_pos c];rfl
def a0f{a:Type}{l:List a}{x:a}(h:l[i]?=b3 x):l=l.take i++x::l.drop (i+1):=by let⟨hi,rfl⟩:=â.mp h;rw[<- Nb hi,vo]
abbrev a0g:Option (Int×Int)->D
 |none=>.non|some p=>PP p
abbrev eE(w h:Int):jq:=(jN w h).filter sS
abbrev iK(m:Int×Int->Bool)(p:Int×Int):Bool:=!(j7<|iY m p)
inductive TJ (ms:List ((Int×Int)×Str))(w h:Int)(cs:jq)(q:Int×Int->Bool)(ν:Hm):Nat->aF->Hm->Prop
 |mk {i:Nat}{x:Option D}{μ:Hm}(p:ν<+:μ)(ok:∀z∈cs.take i,q z=b5):TJ ms w h cs q ν i [b3<|SH w h ms,x] μ
def a0h{b:jq}{q:Int×Int->Bool}(ok:∀y∈b.take i,q y=b5)(hz:b[i]?=b3 z)(c:q z=b5):∀y∈b.take (i+1),q y=false:=λy a=>by
 rw[ni,hz]at a;rcases Ħ.mp a with a|a
 .show ok y a
 .have:y=z:=by apply a
  rw[this];show c
def a0i k(hw:1<=w/\w<=6)(E:1<=h/\h<=6)c(n:Hm)(Q:jz)(H:∀μ',n<+:μ'->Q (a0g<|(eE w h).find?<|iK<|bH c,μ')):W (f (k+5) "barred" [SH w h c] n) Q:=by
 show Ï (XJ (k+4) _ n)<|Ç.mpr<|É.mpr<|Ó.mpr<|aS rfl<|KY (k+2) hw E _ _ λa o v s=>(eI s).mpr ?_;show jF (xs:=(eE w h).map PP) (TJ c w h (eE w h) (iK<|bH c) o) (.mk (č _) λz j=>by simp at j) (by rintro _ _ _ ⟨p,_⟩;show aD p s) ?_ ?_
 .rintro i d K q hd ⟨g,ok⟩;let⟨z,j,rfl⟩:=nE hd;show⟨_,rfl,Ò.mpr<|sN<|hJ (b:=j7 (iY (bH c) z))<|dJ<|aQ<|aS rfl<|KU k w h c z.1 z.2 _ _ λb I x B=>⟨_,rfl,?_⟩⟩;show ZT (k+2) b (iY (bH c) z) (by have:=AO (bH c) z;have:=AQ (bH c) z;lia) _ _ B λJ A=>⟨rfl,?_⟩;cases u:j7 (iY (bH c) z)with
  |true=>show(if_neg ô).mpr (Î.mpr<|.mk (g.trans<|x.trans A)<|a0h ok j<|by ext iK;rw[u];rfl)|false=>have e:=a0e (q:=iK (bH c)) (a0f j) ok (by ext iK;rw[u];rfl);rw[e]at H;show(if_pos rfl).mpr<|Ð.mpr ⟨_,rfl,H _<|v.trans<|g.trans<|x.trans A⟩
 .rintro K q ⟨g,ok⟩;rw[Ã,Ź]at ok;let e:(eE w h).find? (iK<|bH c)=none:=Y0.mpr λy G=>by rw[ok y G];show ô
  rw[e]at H;show cJ ⟨_,rfl,H _<|v.trans g⟩
abbrev j9(m:Int×Int->Bool)(w h:Int):List Ti:=(eE w h).flatMap<|jO m
abbrev oE(ts:List Ti):List Ti:=(c6 (o7 ts) ts.length).map λi=>ts.getD i nU
def KZ:∀ts,wJ (ts.map fG)=b3 ts
 |[]=>rfl|t::ts=>by
  let h:zX (fG t)=b3 t:=by change(dR<|.tup<|t.1.map D.int).bind (λk=>(dR<|.tup<|t.2.1.map D.int).bind λm=>(dR<|.tup<|t.2.2.2.map D.int).map λn=>(k,m,t.2.2.1,n))=_;rw[Dl,Dl,Dl];rfl
  change(zX<|fG t).bind (λx=>(wJ<|ts.map fG).map (x::·))=_;rw[h,KZ ts];rfl
def a0j(g:b[a]?=b3 (.lst<|ts.map fG))(h:oZ ts):t9 [.loc a] b=b3 (.loc b.length,b++[.lst<|(oE ts).map fG]):=by
 let e:eX b (.loc a)=b3 (ts.map fG):=by dsimp[eX,g]
 dsimp[t9,e,Đ,KZ,if_pos h];let c:(c6 (o7 ts) ts.length).map (λi=>(ts.map fG).getD i .non)=(oE ts).map fG:=by ext oE;rw[ã];show Ţ λi hi=>?_;let hi:i<ts.length:=ň.mp<|(jV _ _).mem_iff.mp hi;simp[ĩ,hi]
 rw[c]
def a0k k(hw:1<=w/\w<=6)(d:1<=h/\h<=6)(c:(eE w h).find? (iK<|bH a)=b4)(b:Hm)(Q:jz)(H:∀μ',b<+:μ'->Q (.non,μ')):W (f (k+6) "check_corners" [SH w h a] b) Q:=by show Ï (XM (k+5) _ b)<|bD<|aS rfl<|a0i k hw d a _ _ λμ' e=>?_;rw[c];show Ò.mpr<|c5<|aP rfl rfl<|ĕ.mpr ⟨_,rfl,(if_neg ô).mpr<|Î.mpr<|H _ e⟩
inductive Sx (ms:List ((Int×Int)×Str))(w h:Int)(l:Nat)(ν:Hm):Nat->aF->Hm->Prop
 |mk {i:Nat}{x:Option D}{μ:Hm}(p:ν<+:μ)(g:μ[l]?=b3 (.lst<|(((eE w h).take i).flatMap<|jO<|bH ms).map fG)):Sx ms w h l ν i [b3<|SH w h ms,b3<|.loc l,x] μ
def a0l(hw:1<=w/\w<=6)(b:1<=h/\h<=6):(eE w h).length<=1000:=by let h1:=DT (w:=w) (h:=h) () ();let a:=ż sS<|jN w h;ext eE;lia
def K0 k(hw:1<=w/\w<=6)(q:1<=h/\h<=6)(I:(eE w h).find? (iK<|bH c)=b4)(J:oZ (j9 (bH c) w h))(p:Hm)(Q:jz)(H:∀l μ',p<+:μ'->p.length<=l->μ'[l]?=b3 (.lst<|(oE<|j9 (bH c) w h).map fG)->Q (.loc l,μ')):W (f (k+7) "ties" [SH w h c] p) Q:=by
 show Ï (X9 (k+6) _ p)<|Ar<|aS rfl<|a0k k hw q I _ _ λb u=>bD<|æ.mpr ⟨_,rfl,ĵ _,fX<|É.mpr<|Ó.mpr<|aS rfl<|KY (k+4) hw q _ _ λa M v e=>(eI e).mpr ?_⟩;let K:=u.trans<|aR b<|C.lst [];let hc:=a0l hw q;let n:a≠b.length\/eE w h=[]:=by
  by_cases z:a=b.length
  .right;let L:=aD v<|bE b<|C.lst [];rw[z,L]at e;injection e with e;injection e with e;show List.map_eq_nil_iff.mp e.symm
  .show .inl z
 show jF (xs:=(eE w h).map PP) (λi A μ'=>Sx c w h b.length b i A μ'/\μ'[a]?=b3 (.lst<|(eE w h).map PP)) ⟨.mk ((aR _ _).trans v)<|aD v<|bE _ _,e⟩ (by rintro _ _ _ ⟨_,g⟩;show g) ?_ ?_
 .rintro i d O y hd ⟨⟨o,j⟩,G⟩;let⟨z,s,rfl⟩:=nE hd;show⟨_,rfl,ë.mpr<|jG ⟨_,rfl,iI j,aQ<|aS rfl<|a0d k w h c z _ _ λl N x E=>⟨_,rfl,?_⟩⟩⟩;let B:=aD x j;let R:=uO (DY<|bH c)<|(eE w h).take i;let T:=DY (bH c) z;let U:=List.length_take_le i<|eE w h;let X:=ir i<|eE w h;show(Al B E<|by rw[Ã,Ã,ï];lia).mpr ⟨.mk (cZ (o.trans x) (Ø _) _) ?_,?_⟩
  .rw[cU B,ni,s];simp
  .rcases n with n|n
   .rw[ñ<|î n];show aD x G
   .rw[n]at s;ext s
 .rintro O y ⟨⟨o,j⟩,_⟩;rw[Ã,Ź]at j;show⟨rfl,cJ<|aS rfl<|hG (a0j (ts:=j9 (bH c) w h) j J)<|H _ _ ((u.trans o).trans<|aR _ _) (Ğ u.length_le o.length_le)<|bE _ _⟩
abbrev bF(w h:Int):jq:=(nC 1 (4*w-1).toNat (4*h-1).toNat).filter λp=>cK p.1 p.2
abbrev gR:jq:=[(1,1),(1,2),(1,3),(2,1),(2,2),(2,3),(3,1),(3,2),(3,3),(4,1),(5,1),(6,1),(4,2),(5,2),(6,2),(1,4),(1,5),(1,6),(2,4),(2,5),(2,6)]
def hW:∀p∈gR,(1<=p.1/\p.1<=6)/\(1<=p.2/\p.2<=6)/\(cC p.1 p.2).length<=48/\1<=(cC p.1 p.2).length/\w8 ((cC p.1 p.2).map aV)=dI/\(bF p.1 p.2).length<=64/\w8 ((bF p.1 p.2).map aV)=dI /\
  ∀e∈bF p.1 p.2,cK e.1 e.2=dI/\sA e∈cC p.1 p.2/\sB e∈cC p.1 p.2/\(0<e.1/\e.1<4*p.1)/\0<e.2/\e.2<4*p.2:=by decide +kernel
def a0m k w h(hw:1<=w/\w<=6)(b:1<=h/\h<=6)a(Q:jz)(H:Q (.loc a.length,a++[.lst<|(bF w h).map PP])):W (f (k+1) "_law_rims" [.int w,.int h] a) Q:=by
 rw[Yr,è];dsimp[Ç,ċ,æ,eC];show⟨ĵ _,?_⟩;dsimp[Λ,δ,É,Ĝ,Ë,eC,fN,é,cM,dC,uJ];show⟨(),?_⟩;show JX _ cK _ _ _ _ 1 (4*h-1).toNat (λo1 o2 a Q=>?_) (λx y a Q=>?_) (4*w-1).toNat (Ke hw b) _ (bE _ _) _ λo1 o2=>?_
 .dsimp[Ĝ,Ë,eC,fN,é,cM,dC,uJ];show and_iff_right ()
 .dsimp[Ū,ě,Ę,é,cM,dC,fN,ĭ,ġ,ą,Df];ext cK;cases x%2==y%2<;>cases x%2==1<;>cases x%4==y%4<;>simp
 .dsimp[Ð,cM,dC];rw[DF];show H
def K1 k e(c:Hm)(Q:jz)(H:∀b μ',c<+:μ'->μ'[b]?=b3 (.lst [PP<|sA e,PP<|sB e])->Q (.loc b,μ')):W (f (k+1) "_law_beside" [PP e] c) Q:=by
 rw[Ys];unfold sA sB at H;show Dt rfl<|JG rfl (λh=>⟨_,rfl,?_⟩) λh=>JG rfl (λa=>⟨_,rfl,?_⟩) λa=>⟨_,rfl,?_⟩
 .let h:e.1%2=1:=by apply h
  dsimp[if_pos h]at H;show H _ _ (aR _ _)<|bE _ _
 .let h:¬ e.1%2=1:=by apply h
  let a:e.2%4=0:=by apply a
  dsimp[if_neg h,if_pos a]at H;show H _ _ (aR _ _)<|bE _ _
 .let h:¬ e.1%2=1:=by apply h
  let a:¬ e.2%4=0:=by apply a
  dsimp[if_neg h,if_neg a]at H;show H _ _ (aR _ _)<|bE _ _
def a0n a A B:eL 8 a (LD A) (LD B)=b3 (decide<|A=B):=by
 have:eL 8 a (LD A) (LD B)=b3 (A.a==B.a&&(A.b==B.b&&(A.c==B.c&&(A.d==B.d&&(A.e==B.e&&(A.g==B.g&&dI)))))):=rfl;rw[this];congr 1;rw[γ,decide_eq_true_iff];dsimp[ð,beq_iff_eq,and_true];constructor
 .rintro⟨h1,b,c,d,e,g⟩;show Ly.ext' h1 b c d e g
 .rintro rfl;show⟨rfl,rfl,rfl,rfl,rfl,rfl⟩
def jg{Q:jz}:W (aZ dI (LD A) (LD B) a) Q↔Q (.bl<|!decide (A=B),a):=by
 have:aZ dI (LD A) (LD B) a=b3 (.bl<|!decide (A=B),a):=by ext aZ;rw[a0n];rfl
 rw[this];show À
abbrev pO(w h:Int)(F:Int×Int->Ly):jq:=(bF w h).filter λe=>!decide (F (sA e)=F (sB e))
inductive TH (a:Nat)(w h:Int)(F:Int×Int->Ly)(μ:Hm)(i:Nat):aF->Hm->Prop
 |mk {x4 x5 x6:Option D}{μ':Hm}(p:μ<+:μ')(g2:μ'[μ.length]?=b3 (.lst<|(((bF w h).take i).filter λe=>!decide (F (sA e)=F (sB e))).map PP))(g3:μ'[(μ++[C.lst []]).length]?=b3 (.lst<|(bF w h).map PP)):TH a w h F μ i [b3<|.loc a,b3<|.int w,b3<|.int h,b3<|.loc μ.length,x4,x5,x6] μ'
def a0o k{n:Hm}(J:(w,h)∈gR)(nd:row.Nodup)(A:∀q∈cC w h,q∈row)(I:n[a]?=b3 (.dT<|bT (λq=>LD<|F q) row))(Q:jz)(H:∀b c,n<+:c->c[b]?=b3 (.lst<|(pO w h F).map PP)->Q (.loc b,c)):W (f (k+2) "_law_creased" [.loc a,.int w,.int h] n) Q:=by
 let o:=hW _ J;let B:=o.2.2.2.2.2.1;let E:=o.2.2.2.2.2.2.2;show Ï (Yz (k+1) _ _ _ n)<|bD<|æ.mpr ⟨_,rfl,ĵ _,fX<|É.mpr<|Ó.mpr<|aS rfl<|a0m k w h o.1 o.2.1 _ _<|(eI<|bE _ _).mpr ?_⟩;show jF (TH a w h F n) (.mk ((aR _ _).trans<|aR _ _) (aD (aR _ _)<|bE _ _)<|bE _ _) (by rintro _ _ _ ⟨_,_,h⟩;show h) ?_ ?_
 .rintro i d y x hd ⟨j,p,u⟩;let⟨e,v,rfl⟩:=nE hd;let⟨_,K,L,_⟩:=E e<|Ĵ v;show⟨_,rfl,Ç.mpr<|Ě.mpr<|aS rfl<|K1 k e _ _ λb M g G=>(Jl G).mpr ?_⟩;let z:=aD (j.trans g) I;let s:=aD g p;let lt:(((bF w h).take i).filter λe=>!decide (F (sA e)=F (sB e))).length<=64:=Ğ (ż _ _)<|Ğ (ir _ _) B;show Ò.mpr<|c5<|aO<|aP rfl rfl<|(gC (.inl z) (b9 _)<|iX nd<|A _ K).mpr<|aP rfl rfl<|(gC (.inl z) (b9 _)<|iX nd<|A _ L).mpr<|jg.mpr ⟨_,rfl,?_⟩;cases hc:decide (F (sA e)=F (sB e))with
  |true=>show gQ rfl<|Î.mpr<|.mk (j.trans g) ?_<|aD g u;rw[jM v,ϣ,WP<|by rw[hc];show ô,zm,ŉ];show s|false=>show kZ rfl (ë.mpr<|jG ⟨_,rfl,iI s,_,rfl,(mZ s<|by rw[Ã,ï];lia).mpr<|.mk (cZ (j.trans g) (Ø _) _) ?_<|(ñ<|by rw[ă];show û<|Ϧ _).trans<|aD g u⟩);rw[cU s,jM v,ϣ,cu<|by rw[hc];rfl,zm,þ];rfl
 .rintro y x ⟨j,p,u⟩;rw[Ã,Ź]at p;show⟨rfl,cJ ⟨_,rfl,H _ _ j p⟩⟩
abbrev flat(G:Gr):jq:=G.flatMap (·.2)
abbrev aJ(G:Gr)(q:Int×Int):Int:=match G.find? (λg=>g.2.contains q)with|some g=>(g.2.idxOf q:Nat)|none=>0
def DZ G g:flat (G++[g])=flat G++g.2:=by ext flat;rw[ur];simp
def Ř:q∈flat G↔∃g∈G,q∈g.2:=jb
def ħ.one{f:Int×Int->Int×Int}(P:ħ qs f G)(a:g∈G)(b:q∈g.2):q∈qs/\f q=g.1:=by let h:=P.pm g.1;rw[j6 P.kd a]at h;have:=ģ.mp<|h.mem_iff.mp b;show⟨this.1,of_decide_eq_true this.2⟩
def ħ.nd{f:Int×Int->Int×Int}(nd:qs.Nodup)(P:ħ qs f G)(a:g∈G):g.2.Nodup:=by let h:=P.pm g.1;rw[j6 P.kd a]at h;show h.nodup_iff.mpr<|nd.sublist ig
def K2{f:Int×Int->Int×Int}:∀{G},(G.map (·.1)).Nodup->(∀g∈G,g.2.Nodup/\∀q∈g.2,f q=g.1)->(flat G).Nodup
 |[],_,_=>ud|g::G,kd,h=>by rw[ó,Ŏ]at kd;change(g.2++flat G).Nodup;rw[Ϻ];show⟨(h g<|š ..).1,K2 kd.2 λx c=>h x<|Ō _ c,λa k b n e=>?_⟩;subst e;let⟨x,c,d⟩:=Ř.mp n;let i:=(h g<|š ..).2 a k;let j:=(h x<|Ō _ c).2 a d;show kd.1<|Ô.mpr ⟨x,c,by rw[<- j,i]⟩
def ħ.flat{f:Int×Int->Int×Int}(nd:qs.Nodup)(P:ħ qs f G):(Lw.flat G).Perm qs:=by
 let h1:(Lw.flat G).Nodup:=K2 (f:=f) P.kd λg a=>⟨P.nd nd a,λq b=>(P.one a b).2⟩;show(S9 h1 nd).mpr λq=>?_;rw[Ř];constructor
 .rintro⟨g,a,b⟩;show(P.one a b).1
 .intro b;let⟨g,a,e⟩:=Ô.mp<|P.key.mpr ⟨q,b,rfl⟩;show⟨g,a,?_⟩;let h:=P.pm g.1;rw[j6 P.kd a]at h;show h.mem_iff.mpr<|ģ.mpr ⟨b,decide_eq_true e.symm⟩
def xD{f:Int×Int->Int×Int}(nd:qs.Nodup)(P:ħ qs f G)(a:g∈G){i:Nat}(b:g.2[i]?=b3 q):aJ G q=i:=by
 let k:=Ĵ b;let p:G.find? (λx=>x.2.contains q)=b3 g:=by
  cases h:G.find? (λx=>x.2.contains q)with
  |none=>show absurd (ζ.mpr k) (by have:=Y0.mp h g a;apply this)|some x=>
   let n:=List.mem_of_find?_eq_some h;let c:q∈x.2:=by let d:=List.find?_some h;show ζ.mp d
   let e:x.1=g.1:=by rw[<- (P.one n c).2,(P.one a k).2]
   let j:=j6 P.kd n;let o:=j6 P.kd a;rw[e,o]at j;rw[show x=g from đ e j.symm]
 ext aJ;rw[p];let hi:i<g.2.length:=(â.mp b).1;let e:=(â.mp b).2;have:g.2.idxOf q=i:=by rw[<- e];show(P.nd nd a).idxOf_getElem i hi
 change((g.2.idxOf q:Nat):Int)=i;rw[this]
def K3{h n:Hm}(A:∀(i:Nat)q,L[i]?=b3 q->v q=.int (i:Int))(z:∀q∈L,q∉K)(nd:L.Nodup)(B:K.length+L.length<=1000)(pre:h<+:n)(lo:h.length<=b)(gl:h[l]?=b3 (.lst<|L.map PP))(u:n[b]?=b3 (.dT<|bT v K))Q(H:∀x y a,h<+:a->a[b]?=b3 (.dT<|bT v<|K++L)->Q (.nx,[j,b3<|.loc b,k,x,y],a)):
  W (fS (rY<|.loc l) (dD [3,4]) (eM (aE 1) (aE 4)<|aE 3) ((L.map PP).length+1) 0 [j,b3<|.loc b,k,o,s] n) Q:=by
 show Jt (λi c a=>∃x y,c=[j,b3<|.loc b,k,x,y]/\h<+:a/\a[b]?=b3 (.dT<|bT v<|K++L.take i)) ⟨o,s,rfl,pre,by rw[nj,ŉ];show u⟩ (by rintro _ _ _ ⟨_,_,_,p,_⟩;show aD p gl) ?_ ?_
 .rintro i d c a hd ⟨x,y,rfl,p,g⟩;let⟨q,e,rfl⟩:=nE hd;show⟨_,rfl,?_⟩;let hi:i<L.length:=(â.mp e).1;change W (eM (aE 1) (aE 4) (aE 3) [j,b3<|.loc b,k,b3<|.int i,b3<|PP q] a) _;dsimp[Ć,cM,dC];show(l7 g (b9 q)<|by rw[Ã,ă,Ι,ï];lia).mpr ?_;show⟨_,_,rfl,cZ p lo _,?_⟩;rw[cU g,<- A i q e,DP,jM e,Ϩ];intro w;rcases Ħ.mp w with w|w
  .show z q (Ĵ e) w
  .show qT nd e w
 .rintro c a ⟨x,y,rfl,p,g⟩;rw[Ã,Ź]at g;show H x y a p g
def a0p{kvs:jx}(hi:o[i]?=b3 (b3<|.loc a))(hc:g[a]?=b3 (.dT kvs))(I:Nat->aF->Hm->Prop)(h0:I 0 o (g.set a<|.dF kvs))(go:∀n k d c b,kvs[n]?=b3 (k,d)->I n c b->W (body (c.set j<|b3 d) b) λp=>p.1=.nx/\I (n+1) p.2.1 p.2.2)(h:∀c b,I kvs.length c b->b[a]?=b3 (.dF kvs)/\Q (.nx,c,b.set a<|.dT kvs)):W (gO i (cA (t6<|aE i) (cL j) body) w o g) Q:=by
 show AH hi hc ?_;let u:(g.set a<|.dF kvs)[a]?=b3 (.dF kvs):=cU hc;let hit:t6 (aE i) o (g.set a<|.dF kvs)=b3 (dE<|.tup<|mT kvs,kvs.length+1,g.set a<|.dF kvs):=by dsimp[t6,aE,hi,Đ,u]
 rw[É,hit,À];show nX (N:=kvs.length) I (λn c b v s=>?_) (λc b s=>⟨?_,h c b s⟩) kvs.length 0 o _ () h0
 .let e:kvs[n]?=b3 (kvs[n].1,kvs[n].2):=ü v;show⟨kvs[n].2,_,?_,rfl,bP (go n _ _ c b e s) λp q=>?_⟩
  .change b3 ((mT kvs)[n]?)=_;ext mT;rw[ú,e];rfl
  .rw[q.1];show q.2
 .change b3 ((mT kvs)[kvs.length]?)=_;rw[cj<|by ext mT;simp]
def K4(nd:qs.Nodup)(p:qs.length<=100)(P:ħ qs g (GZ Z))(hz:Z[i]?=b3 z):
  (∀(j:Nat)q,z.2.1[j]?=b3 q->(λq=>D.int<|aJ (GZ Z) q) q=.int (j:Int))/\(∀q∈z.2.1,q∉flat ((GZ Z).take i))/\z.2.1.Nodup/\(flat<|(GZ Z).take i).length+z.2.1.length<=1000:=by
 let a:(z.1,z.2.1)∈GZ Z:=Ô.mpr ⟨z,Ĵ hz,rfl⟩;show⟨λj q b=>by dsimp;rw[xD nd P a b],λq b w=>?_,P.nd nd a,?_⟩
 .let⟨x,h,c⟩:=Ř.mp w;let d:=List.mem_of_mem_take h;let e:x.1=z.1:=by rw[<- (P.one d c).2,(P.one a b).2]
  have:z.1∉((GZ Z).take i).map (·.1):=by rw[yu,l9];let k:=P.kd;rw[l9]at k;show qT k<|by rw[ú,hz];rfl
  show this<|e▸Ô.mpr ⟨x,h,rfl⟩
 .let h1:=(P.flat nd).length_eq;let n:(flat<|(GZ Z).take i).length+z.2.1.length=(flat<|(GZ Z).take<|i+1).length:=by rw[xA hz,DZ,ă]
  let o:(flat<|(GZ Z).take<|i+1).length<=(flat<|GZ Z).length:=by
   have:GZ Z=(GZ Z).take (i+1)++(GZ Z).drop (i+1):=(vo _ _).symm;conv=>rhs;rw[this]
   ext flat;rw[ur,ă];lia
  lia
def a0q k(nd:qs.Nodup)(K:qs.length<=100)(I:HI c h Z)(n:c[h]?=b3 (.dT<|bA Z))(P:ħ qs g (GZ Z))(Q:jz)(H:∀b a,c<+:a->a[b]?=b3 (.dT<|bT (λq=>.int<|aJ (GZ Z) q)<|flat<|GZ Z)->Q (.loc b,a)):W (f (k+1) "_law_ranks" [.loc h] c) Q:=by
 let v:h<c.length:=(â.mp n).1;rw[YA,è,Ç];dsimp[ċ,á,Λ,δ];rw[Ç];let s:=I.frz n;let p:(c.set h<|.dF<|bA Z).length=c.length:=Ÿ;let w:c.set h (.dF<|bA Z)<+:(c++[C.dT []]).set h (.dF<|bA Z):=by rw[NN _ _ v];show NU _ _
 show AI rfl (aD (aR _ _) n) (λi e a=>∃x y z,e=[b3<|.loc h,b3<|.loc c.length,x,y,z]/\c.set h (.dF<|bA Z)<+:a/\a[c.length]?=b3 (.dT<|bT (λq=>.int<|aJ (GZ Z) q)<|flat<|(GZ Z).take i))
  ⟨b4,b4,b4,rfl,w,by rw[ñ ()];show bE _ _⟩ ?_ ?_
 .rintro i U d e a J ⟨x,y,z',rfl,j,u⟩;let⟨z,A,o,rfl,rfl⟩:=AJ J;let B:D.tup ((aV z.1).map D.int)=PP z.1:=rfl;dsimp[Λ,δ,B,É];show Dk ?_;dsimp[Ë,eC,é,cM,dC];show(gC (s.more j).dic (b9 z.1)<|sO I.kd A).mpr ⟨z.2.2,z.2.1.map PP,rfl,(s.more j).at_ z A,?_⟩;let⟨M,N,O,R⟩:=K4 nd K P o;show K3 (v:=λq=>.int<|aJ (GZ Z) q) (K:=flat ((GZ Z).take i)) M N O R j (by rw[p];show Ø _) (s.at_ z A) u _ λX Y T L E=>?_;show⟨rfl,_,_,_,rfl,L,?_⟩;rw[xA o,DZ];show E
 .rintro e a ⟨x,y,z,rfl,j,u⟩;let G:a[h]?=b3 (.dF<|bA Z):=aD j<|cU n;show⟨G,?_⟩;dsimp[Ð,cM,dC];show H _ _ (w9 n j) ?_;rw[ñ (),u,jd<|by rw[oA,GZ,Ã];show Ø _]
def K5 k(nd:qs.Nodup)(J:qs.length<=100)(I:HI c h Z)(j:c[h]?=b3 (.dT<|bA Z))(P:ħ qs g (GZ Z))(Q:jz)(H:∀b a,c<+:a->a[b]?=b3 (.dT<|bT (λq=>.int<|aJ (GZ Z) q)<|flat<|GZ Z)->Q (.loc b,a)):W (f (k+1) "heights_in" [.loc h] c) Q:=by
 let u:h<c.length:=(â.mp j).1;rw[XR,è,Ç];dsimp[ċ,á,Λ,δ];rw[Ç];let w:=I.frz j;let o:(c.set h<|.dF<|bA Z).length=c.length:=Ÿ;let v:c.set h (.dF<|bA Z)<+:(c++[C.dT []]).set h (.dF<|bA Z):=by rw[NN _ _ u];show NU _ _
 show a0p rfl (aD (aR _ _) j) (λi e a=>∃x y z,e=[b3<|.loc h,b3<|.loc c.length,x,y,z]/\c.set h (.dF<|bA Z)<+:a/\a[c.length]?=b3 (.dT<|bT (λq=>.int<|aJ (GZ Z) q)<|flat<|(GZ Z).take i))
  ⟨b4,b4,b4,rfl,v,by rw[ñ ()];show bE _ _⟩ ?_ ?_
 .rintro i T d e a G ⟨x,y,Y,rfl,p,s⟩;let⟨z,A,n,rfl,rfl⟩:=AJ G;dsimp[Λ,δ,É];show Dk ?_;dsimp[Ë,eC,cM,dC];show⟨z.2.2,z.2.1.map PP,rfl,(w.more p).at_ z A,?_⟩;let⟨L,M,N,O⟩:=K4 nd J P n;show K3 (v:=λq=>.int<|aJ (GZ Z) q) (K:=flat ((GZ Z).take i)) L M N O p (by rw[o];show Ø _) (w.at_ z A) s _ λU X R K B=>?_;show⟨rfl,_,_,_,rfl,K,?_⟩;rw[xA n,DZ];show B
 .rintro e a ⟨x,y,z,rfl,p,s⟩;let E:a[h]?=b3 (.dF<|bA Z):=aD p<|cU j;show⟨E,?_⟩;dsimp[Ð,cM,dC];show H _ _ (w9 j p) ?_;rw[ñ (),s,jd<|by rw[oA,GZ,Ã];show Ø _]
abbrev cN(F:Int×Int->Ly)(r:Int×Int->Int)(e:Int×Int):Str:=if(decide (r (sB e)<r (sA e))==decide (d7 (F<|sA e)<0))=dI then "v" else "h"
def D0{l:List ((Int×Int)×Str)}{i:Nat}(h:(l.map MD)[i]?=b3 d):∃p,l[i]?=b3 p/\d=MD p:=by rw[ú]at h;let⟨p,h1,a⟩:=ţ.mp h;show⟨p,h1,a.symm⟩
abbrev AR(w h:Int)(F:Int×Int->Ly)(r:Int×Int->Int):List ((Int×Int)×Str):=(pO w h F).map λe=>(e,cN F r e)
abbrev k5(q:Int×Int):jq:=[(q.1-1,q.2),(q.1,q.2-1),(q.1,q.2+1),(q.1+1,q.2)]
abbrev eF(p:Int×Int):Bool:=if p.1%2=1 then p.2%4==2 else p.1%4==2&&p.2%2==1
def K6:(4:Nat)<=Ñ:=⋯
def a0r k x y a(Q:jz):W (f (k+1) "is_quarter" [P x y] a) Q↔Q (.bl<|eF (x,y),a):=by
 rw[Xr,è];dsimp[Ç,Ð,Î,Ò,Ę,Ă,é,fN,cM,ĺ,Č,ą,Df,ĭ,ġ];ext eF;by_cases h:x%2=1
 .simp[h]
 .let e:(x%2==1)=false:=by apply h
  dsimp[e,h,Ň,if_false];cases x%4==2<;>simp
def a0s k q a:f (k+1) "beside" [PP q] a=b3 (.loc a.length,a++[C.lst [P (q.1-1) q.2,P q.1<|q.2-1,P q.1<|q.2+1,P (q.1+1) q.2]]):=by rw[Xs];kernel_rfl
def AS k q(b:Hm)(Q:jz)(H:∀a μ',b<+:μ'->μ'[a]?=b3 (.lst<|((k5 q).filter eF).map PP)->Q (.loc a,μ')):W (f (k+2) "sides_of" [PP q] b) Q:=by
 rw[Xu,è];dsimp[Ð];show j4 (xs:=(k5 q).map PP) (p:=λd=>eF<|eN d) (v:=λd=>d) ?_;show Ó.mpr<|YI rfl ?_;rw[a0s,À];let e:(b++[C.lst [P (q.1-1) q.2,P q.1<|q.2-1,P q.1<|q.2+1,P (q.1+1) q.2]])[b.length]?=b3 (.lst<|(k5 q).map PP):=bE _ _;show(eI e).mpr ⟨mW e,rfl,K6,λd μ' hd c=>?_,λd μ' hd x c=>?_,λμ' c g=>?_⟩
 .let⟨u,v,rfl⟩:=wX hd;dsimp[ϧ,ϥ,Ĺ,ä,Ë,eC,cM,dC,a0r,Ũ];show⟨rfl,č _⟩
 .dsimp[ϧ,ϥ,cM,dC];show⟨trivial,č _⟩
 .show H _ _ ((aR _ _).trans c) ?_;rw[g,uK eF]
abbrev xE(F:Int×Int->Ly)(r:Int×Int->Int)(s t:Int×Int):Str:=if(if d7 (F s)=-1 then decide (r t<r s)else decide (r s<r t))=dI then "v" else "h"
def a0t(g:∀q,ė (F q))(hd:F (sA e)=dA (fY e) (F<|sB e))(h:r (sA e)≠r (sB e)):xE F r (sA e) (sB e)=cN F r e/\xE F r (sB e) (sA e)=cN F r e:=by
 let h1:d7 (F<|sA e)=-d7 (F<|sB e):=by rw[hd,Au,DA];lia
 let d:=AL<|g<|sB e;ext xE cN;let a:d7 (F<|sB e)=1\/d7 (F<|sB e)=-1:=d.imp (·.1) (·.1);rw[h1];rcases a with a|a
 .rw[a];constructor<;>(by_cases b:r (sB e)<r (sA e)<;>by_cases c:r (sA e)<r (sB e)<;>simp[b,c]<;>lia)
 .rw[a];constructor<;>(by_cases b:r (sB e)<r (sA e)<;>by_cases c:r (sA e)<r (sB e)<;>simp[b,c]<;>lia)
def D1 p:eF p=dI↔(p.1%2=1/\p.2%4=2)\/(p.1%4=2/\p.2%2=1):=by
 ext eF;split
 .rw[beq_iff_eq];lia
 .rw[ð,beq_iff_eq,beq_iff_eq];lia
def qW(z:Int):z%2=z%4%2:=(RA z ⋯).symm
def K7(a:x%4=r%4)(b:y%4=s%4):eF (x,y)=eF (r,s):=by ext eF;dsimp;rw[qW x,qW y,a,b,<- qW,<- qW]
def a0u x y:eF (-x,y)=eF (x,y):=by
 ext eF;dsimp;let a:-x%2=x%2:=()
 rcases QH x with h|h
 .rw[show -x%4=x%4 by lia,a]
 .rw[a,h,if_pos rfl,if_pos rfl]
def a0v x y:eF (y,x)=eF (x,y):=by rw[γ,D1,D1];show⟨λh=>h.symm.imp qy qy,λh=>h.symm.imp qy qy⟩
def a0w(a:x%4=r)(b:y%4=s)i j:eF (x+i,y+j)=eF (r+i,s+j):=K7 (by rw[<- a,RF])<|by rw[<- b,RF]
def D2(a:x%4=r)(b:y%4=s):(k5 (x,y)).filter eF=(([(-1,0),(0,-1),(0,1),(1,0)]:jq).filter λd=>eF (r+d.1,s+d.2)).map λd=>(x+d.1,y+d.2):=by
 have:k5 (x,y)=([(-1,0),(0,-1),(0,1),(1,0)]:jq).map λd=>(x+d.1,y+d.2):=by dsimp[k5,ó,϶,yx];rfl
 rw[this,zj];congr 1;show P2 λd z=>a0w a b d.1 d.2
def K8(h:cK e.1 e.2=dI):(k5 e).filter eF=[sA e,sB e]\/(k5 e).filter eF=[sB e,sA e]:=by
 have:=xB h;let⟨x,y⟩:=e;ext sA sB;dsimp at this ⊢;rcases this with⟨h1,c⟩|⟨h1,c,d⟩|⟨h1,c,d⟩
 .let a:x%4=1\/x%4=3:=()
  let b:y%4=1\/y%4=3:=()
  rw[if_pos h1,if_pos h1];rcases a with a|a<;>rcases b with b|b<;>rw[D2 a b,a,b]
  .show .inl<|by change[(x+0,y+1),(x+1,y+0)]=_;simp;lia
  .show .inl<|by change[(x+0,y+-1),(x+1,y+0)]=_;simp;lia
  .show .inr<|by change[(x+-1,y+0),(x+0,y+1)]=_;simp;lia
  .show .inr<|by change[(x+-1,y+0),(x+0,y+-1)]=_;simp;lia
 .dsimp[if_neg<|show ¬ x%2=1 by lia,if_pos c];rw[D2 d c];show .inl<|by change[(x+0,y+-1),(x+0,y+1)]=_;rw[yx];rfl
 .dsimp[if_neg<|show ¬ x%2=1 by lia,if_neg<|show ¬ y%4=0 by lia];rw[D2 d c];show .inl<|by change[(x+-1,y+0),(x+1,y+0)]=_;rw[yx];rfl
def a0x(a:x%4=r%4)(b:y%4=s%4):cK x y=cK r s:=by ext cK;rw[qW x,qW y,a,b,<- qW,<- qW]
def a0y x y:cK (-x) y=cK x y:=by
 ext cK;let a:-x%2=x%2:=()
 rcases QH x with h|h
 .rw[show -x%4=x%4 by lia,a]
 .rw[a,h];rfl
def a0z x y:cK y x=cK x y:=by
 ext cK;rw[BEq.comm (a:=y%2),BEq.comm (a:=y%4)];cases h:x%2==y%2
 .rfl
 .rw[eq_of_beq h]
def K9{T:Int->Int->Bool}(i:∀{x y r s},x%4=r%4->y%4=s%4->T x y=T r s)(pn:∀x y,T (-x) y=T x y)(ps:∀x y,T y x=T x y)(hA:ė A)(a:A.e%4=0/\A.g%4=0)e:T (aC A e).1 (aC A e).2=T e.1 e.2:=by
 let c:=pn e.1 e.2;let b:=ps e.1 e.2;let d:T e.1 (-e.2)=T e.1 e.2:=by rw[<- ps,pn,b]
 let h:T (-e.1) (-e.2)=T e.1 e.2:=by rw[pn,d]
 let g:∀{x y r s u v:Int},u%4=0/\v%4=0->T r s=T e.1 e.2->x=r+u->y=s+v->T x y=T e.1 e.2:=λa q h1 j=>(i (by clear q;lia)<|by clear q;lia).trans q;ext aC;obtain⟨u,v,k|k|k|k|k|k|k|k⟩:=DB hA<;>subst k<;>dsimp at a ⊢
 .show g a rfl () ()
 .show g a d () ()
 .show g a c () ()
 .show g a h () ()
 .show g a b () ()
 .show g a ((ps _ _).trans c) () ()
 .show g a ((pn _ _).trans b) () ()
 .show g a ((ps _ _).trans h) () ()
def uP(hA:ė A)(a:A.e%4=0/\A.g%4=0)(h:cK e.1 e.2=dI):cK (aC A e).1 (aC A e).2=true:=(K9 a0x a0y a0z hA a e).trans h
abbrev a0A(k:Nat):MS:=aM<|iO (c9<|bJ (f k "is_above")<|aB (aE 0)<|aB (aA bG (aE 3)<|mC<|.int 0)<|aB (aA bG (aE 3)<|mC<|.int 1) aG) (mC<|.str "v")<|mC<|.str "h"
def La k{r:Int×Int->Int}(j:e.Nodup)(i:g[a]?=b3 (.dT<|bT (λq=>.int<|r q) e))(n:x∈e)(o:y∈e)(h:g[c]?=b3 (.lst<|[x,y].map PP))Q(H:Q (.rt<|.str<|if decide (r y<r x)=dI then "v" else "h",[b3<|.loc a,b,d,b3<|.loc c],g)):
  W (a0A (k+1) [b3<|.loc a,b,d,b3<|.loc c] g) Q:=by
 show cJ<|ę.mpr<|hJ (b:=decide (r y<r x))<|dJ<|aQ ⟨_,rfl,aQ<|aP rfl rfl<|(dY h rfl).mpr<|aQ<|aP rfl rfl<|(dY h rfl).mpr ⟨_,rfl,Ï (JD k _ _ _ _)<|cJ<|aO<|aP rfl rfl<|(gC (.inl i) (b9 x)<|iX j n).mpr<|aP rfl rfl<|(gC (.inl i) (b9 y)<|iX j o).mpr<|Ń.mpr ⟨rfl,?_⟩⟩⟩;cases hc:decide (r y<r x)with
 |true=>rw[hc]at H;show kZ rfl ⟨_,rfl,H⟩|false=>rw[hc]at H;show gQ rfl ⟨_,rfl,H⟩
def a0B k(v:∀q,ė (F q))(M:row.Nodup)(z:g.Nodup){d:Hm}(x:d[a]?=b3 (.dT<|bT (λq=>.int<|r q) g))(I:d[b]?=b3 (.dT<|bT (λq=>LD<|F q) row))(J:cK e.1 e.2=dI)(y:sA e∈row/\sB e∈row)(o:sA e∈g/\sB e∈g)(hd:F (sA e)=dA (fY e) (F<|sB e))(K:r (sA e)≠r (sB e))(Q:jz)(H:∀n,d<+:n->Q (.str<|cN F r e,n)):
  W (f (k+4) "mark_by_heights" [.loc a,.loc b,PP e] d) Q:=by
 let c:∀s t:Int×Int,s∈row->s∈g->t∈g->xE F r s t=cN F r e->(k5 e).filter eF=[s,t]->W (f (k+4) "mark_by_heights" [.loc a,.loc b,PP e] d) Q:=λs t L fs u G E=>by
  show Ï (X2 (k+3) _ _ _ d)<|bD<|aS rfl<|Ï (XZ (k+2) _ _ d)<|bD<|aS rfl<|AS k e _ _ λl N j i=>?_;rw[E]at i;rw[<- G]at H;unfold xE at H;show Ç.mpr<|Ò.mpr<|hJ<|dJ<|aQ<|aO ⟨_,rfl,aP rfl rfl<|(dY i rfl).mpr<|(gC (.inl<|aD j I) (b9 s)<|iX M L).mpr ⟨_,rfl,(YR (k+1) (F s) (v s) _ _).mpr ⟨rfl,?_⟩⟩⟩;cases p:d7 (F s)==-1 with
  |true=>rw[if_pos<|eq_of_beq p]at H;show kZ rfl (cJ ⟨_,rfl,La (k+2) z (aD j x) fs u i _<|H _ j⟩)|false=>rw[if_neg<|show ¬ d7 (F s)=-1 from λw=>by rw[w]at p;ext p]at H;show gQ rfl<|Î.mpr<|cJ<|æ.mpr<|aQ<|aP rfl rfl<|(dY i rfl).mpr<|aQ<|aP rfl rfl<|(dY i rfl).mpr ⟨_,rfl,gZ,La (k+2) z (aD (j.trans<|aR _ _) x) u fs (bE _ _) _<|H _<|j.trans<|aR _ _⟩
 let⟨A,B⟩:=a0t v hd K;rcases K8 J with h|h
 .show c _ _ y.1 o.1 o.2 A h
 .show c _ _ y.2 o.2 o.1 B h
abbrev sU:D->D
 |.tup (a::_)=>a|_=>.non
abbrev D3:D->D
 |.tup [_,b]=>b|_=>.non
def Lb(nd:qs.Nodup)(P:ħ qs g G)(n:a∈qs)(p:b∈qs)(ne:a≠b)(e:g a=g b):aJ G a≠aJ G b:=by
 let⟨x,d,k⟩:=Ô.mp<|P.key.mpr ⟨a,n,rfl⟩;let h:=P.pm x.1;rw[j6 P.kd d]at h;let h1:a∈x.2:=h.mem_iff.mpr<|ģ.mpr ⟨n,decide_eq_true k.symm⟩;let o:b∈x.2:=h.mem_iff.mpr<|ģ.mpr ⟨p,decide_eq_true<|e.symm.trans k.symm⟩;let⟨i,hi⟩:=Rh h1;let⟨j,c⟩:=Rh o;rw[xD nd P d hi,xD nd P d c];intro w;let q:i=j:=()
 subst q;rw[hi]at c;show ne<|ē c
def pP(h:cK e.1 e.2=dI):sA e≠sB e:=by
 have:=xB h;ext sA sB;intro w;rcases this with⟨h1,a⟩|⟨h1,a,b⟩|⟨h1,a,b⟩
 .rw[if_pos h1,if_pos h1]at w;injection w with w1 w2;lia
 .dsimp[if_neg<|show ¬ e.1%2=1 by lia,if_pos a]at w;injection w with w1 w2;lia
 .dsimp[if_neg<|show ¬ e.1%2=1 by lia,if_neg<|show ¬ e.2%4=0 by lia]at w;injection w with w1 w2;lia
structure Pe(qs:jq)(F:Int×Int->Ly)(e:Int×Int):Prop where
 r:cK e.1 e.2=dI
 a:sA e∈qs
 b:sB e∈qs
 m:F (sA e)=dA (fY e) (F<|sB e)
def Lc k{qs:jq}(nd:qs.Nodup)(R:qs.length<=36)(A:∀q,ė (F q))(g:row.Perm qs){S:List ((Int×Int)×Str)}(T:S.length<=48)(B:∀p∈S,Pe qs F p.1)(E:i[a]?=b3 (.dT<|bT (λq=>LD<|F q) row))(I:HI i b Z)(G:i[b]?=b3 (.dT<|bA Z))(P:ħ qs (λq=>aC (F q) q) (GZ Z))(Q:jz)(H:∀c e,i<+:e->i.length<=c->e[c]?=b3 (.lst<|(S.map λp=>(p.1,cN F (aJ<|GZ Z) p.1)).map MD)->Q (.loc c,e)):W (f (k+5) "marks_by" [SH w h S,.loc a,.loc b] i) Q:=by
 rw[X3,è,Ç];dsimp[ċ,ä,Ë,eC,cM,dC];show K5 (k+3) nd () I G P _ λc M n y=>?_;dsimp[Λ,δ,Ð];let o:=P.flat nd;show An (xs:=S.map MD) (x:=λd=>[b3<|sU d,b3<|D3 d]) (p:=λ_=>dI) (v:=λd=>MD (eN<|sU d,cN F (aJ<|GZ Z)<|eN<|sU d)) ?_;dsimp[SH,Ó,é,cM,dC,fN,ū];show ϫ.mpr ⟨Di,rfl,by rw[Ã,ï];lia,λd e hd=>?_,λd e hd j=>õ.mpr ⟨rfl,č _⟩,λd e hd l j=>?_,λN K z=>?_⟩
 .let⟨m,_,rfl⟩:=Ô.mp hd;rfl
 .let⟨m,J,rfl⟩:=Ô.mp hd;dsimp[ϧ,ϥ,à,ä,Ë,eC,cM,dC,sU,D3];let⟨s,u,v,x⟩:=B m J;show a0B k A (g.nodup_iff.mpr nd) (o.nodup_iff.mpr nd) (aD j y) (aD (n.trans j) E) s ⟨g.mem_iff.mpr u,g.mem_iff.mpr v⟩ ⟨o.mem_iff.mpr u,o.mem_iff.mpr v⟩ x (Lb nd P u v (pP s)<|EdF.pos s x) _ λO L=>?_;show⟨gZ,rfl,L⟩
 .show H _ _ (n.trans K) n.length_le ?_;rw[z,zy.mpr λ_ l=>rfl,ã,ã];rfl
def a0C(h:i<n):mJ n (i:Int)=b3 i:=by ext mJ;rw[if_pos (),if_pos ()];rfl
abbrev D4(s:Str):Prop:=s="o"\/s="v"\/s="h"
def a0D k i a(Q:jz):W (f (k+1) "is_whole" [.int i] a) Q↔Q (.bl dI,a):=by rw[Dq,è];dsimp[Ð,Ă,Jk,ä,Ë,eC,cM,fN,Jp,Jo,if_true,zf]
def Ld k(h:1<=i/\i<=6)a(Q:jz)(H:Q (.bl dI,a)):W (f (k+2) "is_size" [.int i] a) Q:=by rw[Xx,è];dsimp[Ð,Ă,ä,Ë,eC,cM,fN,a0D,if_true,ŗ,Xa,decide_eq_true h.1,decide_eq_true h.2];show H
def a0E k(hw:1<=w/\w<=6)(b:1<=h/\h<=6)a(Q:jz)(H:Q (.non,a)):W (f (k+3) "check_size" [.int w,.int h] a) Q:=by rw[Xy,è];dsimp[Ò,θ,ě,Ĺ,ä,Ë,eC,cM,dC];show Ld k hw _ _ ?_;dsimp[Ũ,if_true];show Ld k b _ _ ?_;dsimp[Ũ,gf,Ň,if_false,Î];show H
def a0F k(h:D4 s)a(Q:jz)(H:Q (.bl dI,a)):W (f (k+1) "is_mark" [.str s] a) Q:=by
 rw[Xz,è];dsimp[Ð,Ă,ä,Ë,eC,cM,fN,Xh,if_true,é];let e:eH b5 (.str s) Dn a=b3 (.bl dI,a):=by rcases h with rfl|rfl|rfl<;>rfl
 rw[e,À];show H
abbrev uQ(S:List ((Int×Int)×Str))(e:Int×Int):D:=match S.find? (λp=>decide<|p.1=e)with|some p=>.str p.2|none=>.non
def D5:∀{S},(S.map (·.1)).Nodup->∀{p},p∈S->uQ S p.1=.str p.2
 |[],_,_,h=>nomatch h|x::S,nd,p,h=>by
  rw[ó,Ŏ]at nd;ext uQ;rw[ű];rcases ĉ.mp h with rfl|h
  .rw[decide_eq_true rfl]
  .let e:decide (x.1=p.1)=false:=decide_eq_false λe=>nd.1 (by rw[e];show Ô.mpr ⟨p,h,rfl⟩);rw[e];show D5 nd.2 h
abbrev kE(r:Int×Int):Int:=if r.1%2=1 then(if r.1%4=r.2%4 then 2 else 3)else if r.2%4=0 then 0 else 1
def a0G{b:MS}(I:Nat->aF->Hm->Prop)(v:∀m a g,I m a g->W (c a g) λp=>if p.1=dI then W (b a p.2) λq=>match q.1 with
   |.nx=>∃e,e<m/\I e q.2.1 q.2.2|.ct=>∃e,e<m/\I e q.2.1 q.2.2|.bk=>Q (.nx,q.2.1,q.2.2)
   |.rt d=>Q (.rt d,q.2.1,q.2.2)else Q (.nx,a,p.2)):∀n m a g,m<n->I m a g->W (rW c b n a g) Q:=by
 intro n;induction n with
 |zero=>intro m a g h;lia|succ n o=>
  intro m a g A u;ext rW;rw[Ä];show bP (v m a g u) λp k=>?_;let⟨w,x⟩:=p;cases w with
  |false=>show À.mpr (by apply k)|true=>
   dsimp[if_true]at k;dsimp;rw[Ä];show bP k λq i=>?_;let⟨s,z,y⟩:=q;cases s with
   |nx=>let⟨e,h1,j⟩:=i;show o e _ _ () j|ct=>let⟨e,h1,j⟩:=i;show o e _ _ () j|bk=>show À.mpr i|rt d=>show À.mpr i
def Le{b:MS}(I:Nat->aF->Hm->Prop)m(h:m<1000000000)(h0:I m a e)(i:∀m a e,I m a e->W (c a e) λp=>if p.1=dI then W (b a p.2) λq=>match q.1 with
   |.nx=>∃g,g<m/\I g q.2.1 q.2.2|.ct=>∃g,g<m/\I g q.2.1 q.2.2|.bk=>Q (.nx,q.2.1,q.2.2)
   |.rt d=>Q (.rt d,q.2.1,q.2.2)else Q (.nx,a,p.2)):W (tT uG c b a e) Q:=by
 ext tT;show a0G I i uG m a e (by ext uG;show h) h0
structure Wf(w h:Int)(F:Int×Int->Ly):Prop where
 di:∀q,ė (F q)
 lt:∀q,(F q).e%4=0/\(F q).g%4=0
 ed:∀e∈bF w h,F (sA e)=F (sB e)\/F (sA e)=dA (fY e) (F<|sB e)
structure Dr(qs:jq)(μ:Hm)(a b:Nat)(F:Int×Int->Ly)(row:jq)(Z:Zr):Prop where
 hw:μ[a]?=b3 (.dT<|bT (λq=>LD<|F q) row)
 hr:row.Perm qs
 hi:HI μ b Z
 hh:μ[b]?=b3 (.dT<|bA Z)
 pl:ħ qs (λq=>aC (F q) q)<|GZ Z
def Dr.more{μ':Hm}(d:Dr qs c a b F row Z)(p:c<+:μ'):Dr qs μ' a b F row Z:=⟨aD p d.hw,d.hr,d.hi.more p,aD p d.hh,d.pl⟩
def a0H(d:cK r.1 r.2=dI):bS (kE r) (cX (kE r) r)=fY r:=by
 show DD λp=>?_;rw[Ks,kU];let⟨x,y⟩:=r;let⟨u,v⟩:=p;unfold eU kE cX;rcases xB d with⟨a,b⟩|⟨a,b,c⟩|⟨a,b,c⟩<;>dsimp at a b ⊢
 .dsimp[if_pos a];by_cases h:x%4=y%4
  .dsimp[if_pos h];show đ ?_ ?_<;>simp<;>lia
  .dsimp[if_neg h];show đ ?_ ?_<;>simp<;>lia
 .dsimp[if_neg<|show ¬ x%2=1 by lia,if_pos b];show đ ?_ ?_<;>simp
 .dsimp[if_neg<|show ¬ x%2=1 by lia,if_neg<|show ¬ y%4=0 by lia];show đ ?_ ?_<;>simp
def Lf u(a:n%4=0)(h:A.e%4=0/\A.g%4=0):(dA A<|bS u n).e%4=0/\(dA A<|bS u n).g%4=0:=by
 ext dA bS;split
 .dsimp;lia
 split
 .dsimp;lia
 split
 .dsimp;lia
 .dsimp;lia
def a0I(hw:1<=w/\w<=3)(c:1<=h/\h<=3):(w,h)∈gR:=by
 let a:=qS hw;let b:=qS c;revert w h;intro w h _ _ a b;have:∀w∈[(1:Int),2,3],∀h∈[(1:Int),2,3],(w,h)∈gR:=⋯
 show this w a h b
abbrev oF(p:Int×Int):Bool:=if p.1%2=1 then p.2%2==1 else p.2%2==0&&!(p.1%4==p.2%4)
def Lg k x y a(Q:jz):W (f (k+1) "is_edge" [P x y] a) Q↔Q (.bl<|oF (x,y),a):=by
 rw[Xq,è];dsimp[Ç,Ð,Î,Ò,Ę,Ă,é,fN,cM,ĺ,Č,ą,Df,ĭ,ġ];ext oF;by_cases h:x%2=1
 .simp[h]
 .let e:(x%2==1)=false:=by apply h
  dsimp[e,h,Ň,if_false];cases y%2==0<;>simp
def D6:∀p∈gR,(jN p.1 p.2).filter oF=bF p.1 p.2:=by decide +kernel
def a0J k(i:(w,h)∈gR)(c:Hm)(Q:jz)(H:∀a μ',c<+:μ'->μ'[a]?=b3 (.lst<|(bF w h).map PP)->Q (.loc a,μ')):W (f (k+2) "edges_in" [.int w,.int h] c) Q:=by
 let⟨hw,g,_⟩:=hW _ i;show Ï (XC (k+1) _ _ c)<|cJ<|j4 (xs:=(jN w h).map PP) (p:=λd=>oF<|eN d) (v:=λd=>d)<|Ó.mpr<|aS rfl<|KG _ w h hw g _ _ λa o n e p=>(eI e).mpr ⟨mW e,rfl,?_,λd μ' hd b=>?_,λd μ' hd x b=>⟨_,rfl,rfl,č _⟩,λμ' b j=>?_⟩
 .have:=DT (w:=w) (h:=h) hw.2 g.2;rw[Ã,ï];lia
 .let⟨u,v,rfl⟩:=wX hd;show hJ (b:=oF (u,v))<|aS rfl<|(Lg k u v _ _).mpr ⟨rfl,rfl,č _⟩
 .show H _ _ (n.trans b) ?_;rw[j,uK oF,D6 _ i]
abbrev iC(e:Int×Int):jq:=(k5 e).filter eF
def qX(h:cK e.1 e.2=dI):∃s t,iC e=[s,t]/\s≠t/\((s=sA e/\t=sB e)\/(s=sB e/\t=sA e)):=by
 rcases K8 h with a|a
 .show⟨_,_,a,pP h,.inl ⟨rfl,rfl⟩⟩
 .show⟨_,_,a,î<|pP h,.inr ⟨rfl,rfl⟩⟩
def Lh(h:cK e.1 e.2=dI):eU e e=e:=by
 let⟨x,y⟩:=e;ext eU;rcases xB h with⟨a,b⟩|⟨a,b,c⟩|⟨a,b,c⟩<;>dsimp at a b ⊢
 .by_cases h:x%4=y%4
  .dsimp[if_pos a,if_pos h];show đ ?_ ?_<;>dsimp<;>lia
  .dsimp[if_pos a,if_neg h];show đ ?_ ?_<;>dsimp<;>lia
 .dsimp[if_neg<|show ¬ x%2=1 by lia,if_pos b];show đ ?_ ?_<;>dsimp<;>lia
 .dsimp[if_neg<|show ¬ x%2=1 by lia,if_neg<|show ¬ y%4=0 by lia];show đ ?_ ?_<;>dsimp<;>lia
abbrev aY(F:Int×Int->Ly)(e:Int×Int):Int×Int:=aC (F<|sA e) e
def xF(h:cK e.1 e.2=dI)(hd:F (sA e)=F (sB e)\/F (sA e)=dA (fY e) (F<|sB e)):aC (F<|sB e) e=aY F e:=by
 ext aY;rcases hd with hd|hd
 .rw[hd]
 .rw[hd,j5,kU,Lh h]
def a0K k t(Y:(w,h)∈gR){S:List ((Int×Int)×Str)}(wf:Wf w h F)(M:row.Perm (cC w h))(nd:(cC w h).Nodup)(ht:n[t]?=b3 (.dT<|bT (λq=>LD<|F q) row))(Q:jz)(H:∀a Z j,GI n j a Z->GZ Z=mE (aY F) (bF w h)->Q (.loc a,j)):W (f (k+3) "edges_laid" [SH w h S,.loc t] n) Q:=by
 let⟨_,_,_,_,_,l2,_,fr⟩:=hW _ Y;replace l2:(bF w h).length<=64:=l2;show Ï (XQ (k+2) _ _ n)<|bD<|á.mpr<|fX<|É.mpr<|Ó.mpr<|aS rfl<|a0J k Y _ _ λb x p1 A=>(eI A).mpr ?_;let O:x[n.length]?=b3 (.dT []):=aD p1<|bE _ _;let I0:GI n x n.length []:=⟨(aR _ _).trans p1,Ø _,O,ud,ud,λz o=>nomatch o⟩;let L:b≠n.length:=λe=>by rw[e,O]at A;ext A
 show jF (λi E j=>∃Z o3,GI n j n.length Z/\GZ Z=mE (aY F) ((bF w h).take i)/\j[b]?=b3 (.lst<|(bF w h).map PP)/\(∀z∈Z,b<z.2.2)/\E=[b3<|SH w h S,b3<|.loc t,b3<|.loc n.length,o3]) ⟨[],b4,I0,rfl,A,(λz o=>nomatch o),rfl⟩ (λi E j h=>let⟨Z,o2,_,_,g,_⟩:=h;g) ?_ ?_
 .rintro i d E N hd ⟨Z,o3,I,u,K,p,rfl⟩;let⟨e,T,rfl⟩:=nE hd;let U:=Ĵ T;let⟨r1,q1,q2,_⟩:=fr e U;let⟨s,t',es,_,J⟩:=qX r1;let v:s∈row/\aC (F s) e=aY F e:=by
   rcases J with⟨rfl,_⟩|⟨rfl,_⟩
   .show⟨M.mem_iff.mpr q1,rfl⟩
   .show⟨M.mem_iff.mpr q2,xF r1<|wf.ed e U⟩
  show⟨[b3<|SH w h S,b3<|.loc t,b3<|.loc n.length,b3<|PP e],rfl,ë.mpr<|jG<|JZ ⟨_,rfl,J2 I.dic,aQ<|dJ<|aQ<|aO ⟨_,rfl,aO<|aS rfl<|AS k e _ _ λc μ3 B R=>?_⟩⟩⟩;rw[show(k5 e).filter eF=[s,t']from es]at R;show⟨_,rfl,(dY R<|show atI ([s,t'].map PP) 0=b3 (PP s)from rfl).mpr<|(gC (.inl<|aD (I.pre.trans B) ht) (b9 s)<|iX (M.nodup_iff.mpr nd) v.1).mpr ⟨_,rfl,(JQ (k+1) (F s) (wf.di s) e.1 e.2 _ _).mpr<|aQ<|æ.mpr ⟨_,rfl,ĵ _,_,rfl,?_⟩⟩⟩;rw[show((e.1,e.2):Int×Int)=e from rfl,v.2];let sm:=Y7 u<|J5 _ _;let ht2:=ir i<|bF w h;show bP (Y3 (I.more B) (aY F e) e (by have:=sm.1;lia) (λz o=>by have:=sm.2 z o;lia) _ ?_) λr X=>⟨X.1,⟨_,rfl,X.2⟩⟩;intro Z' j I' G kp nw;show⟨Z',b3<|PP e,I',by rw[G,u,Y4 T],kp _ _ (aD B K) L λz o=>by have:=p z o;lia,λz o=>?_,rfl⟩;rcases nw z o with⟨y,hy,e⟩|e
  .rw[<- e];show p y hy
  .have:=(â.mp<|aD B K).1;lia
 .rintro E N ⟨Z,o2,I,u,K,p,rfl⟩;rw[Ã,Ź]at u;show⟨rfl,cJ ⟨_,rfl,H _ _ _ I u⟩⟩
def Li(R:Int×Int->Nat->Hm->Prop){g:Hm}{es:jq}(gl:g[l]?=b3 (.lst<|es.map PP))(T:es.length<=100)(hit:G y g=b3 (dE<|.loc l,(es.map PP).length+1,g))(B:∀e c k o,R e c k->(∀b v,g.length<b->k[b]?=b3 v->o[b]?=b3 v)->R e c o)(go:∀e∈es,∀a,g<+:a->g.length<a.length->W (A (y++[b3<|PP e]) a) λs=>a<+:s.2/\∃c,s.1=.loc c/\R e c s.2)(Q:jz)(H:∀(d:List Nat)a,g<+:a->a[g.length]?=b3 (.lst<|d.map D.loc)->d.length=es.length->(∀(i:Nat)e c,es[i]?=b3 e->d[i]?=b3 c->R e c a)->Q (.loc g.length,a)):W (eW G fE A y g) Q:=by
 show Ju ⟨_,hit,es.length,(λi u a=>∃d:List Nat,u=d.map D.loc/\d.length=i/\g<+:a/\∀(j:Nat) e c,es[j]?=b3 e->d[j]?=b3 c->R e c a),by rw[Ã],by rw[ï];lia,?_,⟨[],rfl,rfl,aR _ _,λj e c f h=>by simp at h⟩,?_,?_⟩
 .rintro i u a ⟨d,rfl,h,_⟩;rw[Ã];lia
 .rintro i u a hi ⟨d,rfl,hc,p,r⟩ q;let E:es[i]?=b3 es[i]:=ü hi;show⟨PP es[i],_,?_,rfl,õ.mpr ⟨λh=>(by ext h),λ_=>?_⟩⟩
  .dsimp[dE,jD,bO,aD p gl,Ĕ,ú,E]
  .show bP (go es[i] (j0 hi) a p (â.mp q).1) λs ⟨x,c,J,N⟩=>⟨aD x q,d++[c],by rw[J,þ];rfl,by rw[ă,hc];rfl,cZ (p.trans x) (Ø _) _,λj e z w n=>?_⟩;let I:∀k:Hm,k<+:s.2->∀b v,g.length<b->k[b]?=b3 v->(s.2.set g.length<|.lst<|d.map D.loc++[s.1])[b]?=b3 v:=λk h b v O M=>by rw[ñ ()];show aD h M
   by_cases L:j<d.length
   .rw[ϗ L]at n;show B e z _ _ (r j e z w n)<|I a x
   .let K:j=i:=by have:=(â.mp n).1;rw[ă]at this;have:j<d.length+1:=this;lia
    subst K;rw[jf (),hc,Pz]at n;rw[E]at w;ext w;ext n;show B _ _ _ _ N<|I s.2<|č _
 .rintro u a ⟨d,rfl,hc,p,r⟩ q;show⟨?_,H d a p q hc r⟩;dsimp[dE,jD,bO,aD p gl,Ĕ];rw[cj<|by rw[Ã];show Ø _]
def jj{Q:jz}:W (aZ b5 (PP p) (PP q) a) Q↔Q (.bl<|decide<|p=q,a):=by
 let e:eL 8 a (PP p) (PP q)=b3 (p.1==q.1&&(p.2==q.2&&dI)):=rfl;have:aZ b5 (PP p) (PP q) a=b3 (.bl<|decide<|p=q,a):=by ext aZ;rw[e];change b3 (D.bl<|p.1==q.1&&(p.2==q.2&&dI),a)=_;congr 3;rw[OH,γ];dsimp[ð,beq_iff_eq,decide_eq_true_iff];show⟨λz=>đ z.1 z.2,λz=>by rw[z];show⟨rfl,rfl⟩⟩
 rw[this];show À
abbrev c8(F:Int×Int->Ly)(e s:Int×Int):jq:=(iC e).filter λq=>decide<|aC (F q) q=s
def a0L{μ:Hm}k(i:∀q,ė (F q))(nd:row.Nodup)(p:μ[t]?=b3 (.dT<|bT (λq=>LD<|F q) row))(j:∀q∈iC e,q∈row)(Q:jz)(H:∀c μ',μ<+:μ'->μ.length<=c->μ'[c]?=b3 (.lst<|(c8 F e s).map PP)->Q (.loc c,μ')):W (f (k+3) "quarters_at" [PP e,.loc t,PP s] μ) Q:=by
 show Ï (XS (k+2) _ _ _ μ)<|cJ<|j4 (xs:=(iC e).map PP) (p:=λd=>decide<|aC (F<|eN d) (eN d)=s) (v:=λd=>d)<|Ó.mpr<|aS rfl<|AS k e _ _ λa u g h=>(eI h).mpr ⟨mW h,rfl,?_,λd μ' hd b=>?_,λd μ' hd x b=>⟨_,rfl,rfl,č _⟩,λμ' b n=>?_⟩
 .rw[Ã];show Ğ (ż _ _) K6
 .let⟨q,o,rfl⟩:=Ô.mp hd;show c5<|aO<|dJ<|aQ<|aP rfl rfl<|(gC (.inl<|aD (g.trans b) p) (b9 q)<|iX nd<|j q o).mpr ⟨_,rfl,(JQ (k+1) (F q) (i q) q.1 q.2 _ _).mpr ⟨_,rfl,jj.mpr ⟨_,rfl,rfl,č _⟩⟩⟩
 .show H _ _ (g.trans b) (Ji g) ?_;rw[n,uK λq=>decide<|aC (F q) q=s];rfl
abbrev JC(lo:Nat)(A B:jq)(c:Nat)(μ:Hm):Prop:=∃c0 c1,lo<c/\lo<c0/\lo<c1/\μ[c]?=b3 (.lst [.loc c0,.loc c1])/\μ[c0]?=b3 (.lst<|A.map PP)/\μ[c1]?=b3 (.lst<|B.map PP)
def a0M{μ:Hm}k(z:∀q,ė (F q))(nd:row.Nodup)(E:μ[t]?=b3 (.dT<|bT (λq=>LD<|F q) row))(A:∀q∈iC e,q∈row)(v:iC p=[s0,s1])(B:lo<μ.length)(Q:jz)(H:∀c μ',μ<+:μ'->JC lo (c8 F e s0) (c8 F e s1) c μ'->Q (.loc c,μ')):W (f (k+4) "joined_at" [PP e,.loc t,PP p] μ) Q:=by
 show Ï (XT (k+3) _ _ _ μ)<|cJ ?_;obtain⟨⟨x,b⟩,h1,a,d,g,u⟩:W (f (k+3) "sides_of" [PP p] μ) λr=>∃a,μ<+:r.2/\r.2[a]?=b3 (.lst<|(iC p).map PP)/\r.1=.loc a:=AS (k+1) p _ _ λa b d g=>⟨a,d,g,rfl⟩;dsimp at d g u;subst u;let hc:eW (cS<|bJ (f (k+3) "sides_of")<|aB (aE 2) aG) fE (bJ (f (k+3) "quarters_at")<|aB (aE 0)<|aB (aE 1)<|aB (aE 3) aG) [b3<|PP e,b3<|.loc t,b3<|PP p] μ=eW (λ_ μ=>b3 (dE<|.loc a,((iC p).map PP).length+1,μ)) fE (bJ (f (k+3) "quarters_at")<|aB (aE 0)<|aB (aE 1)<|aB (aE 3) aG) [b3<|PP e,b3<|.loc t,b3<|PP p] b:=by
  have:cS (bJ (f (k+3) "sides_of")<|aB (aE 2) aG) [b3<|PP e,b3<|.loc t,b3<|PP p] μ=b3 (dE<|.loc a,((iC p).map PP).length+1,b):=by ext cS;rw[show bJ (f (k+3) "sides_of") (aB (aE 2) aG) [b3<|PP e,b3<|.loc t,b3<|PP p] μ=f (k+3) "sides_of" [PP p] μ from rfl,h1];dsimp[Đ,jD,bO,g];rfl
  ext eW gX;rw[this]
 rw[hc];let lt:μ.length<=b.length:=Ji d;show Li (R:=λs c μ'=>b.length<c/\μ'[c]?=b3 (.lst<|(c8 F e s).map PP)) g (by rw[v];change(2:Nat)<=100;decide) rfl (λe c R T h k=>⟨h.1,k c _ h.1 h.2⟩) (λs L μ' o O=>aS rfl<|a0L k z nd (aD (d.trans o) E) A _ λc K G n y=>⟨G,c,rfl,(),y⟩) _ λw μ' o j n i=>?_;rw[v]at n i;match w,n,j,i with
 |[c0,c1],_,j,i=>let⟨M,I⟩:=i 0 s0 c0 rfl rfl;let⟨N,J⟩:=i 1 s1 c1 rfl rfl;show H _ _ (d.trans o) ⟨c0,c1,(),(),(),j,I,J⟩
abbrev qY(r:Int×Int->Int)(a b:Int×Int)(L:jq):Nat:=(L.filter λq=>decide (min (r a) (r b)<r q)&&decide (r q<max (r a) (r b))).length
def Lj{μ:Hm}k(i:fl.Nodup)(g:μ[h]?=b3 (.dT<|bT (λq=>.int<|r q) fl))(z:a∈fl)(A:b∈fl)(w:∀q∈L,q∈fl)(B:L.length<=100)(c:μ[x]?=b3 (.lst<|[a,b].map PP))(j:μ[y]?=b3 (.lst<|L.map PP))(Q:jz)(H:∀μ',μ<+:μ'->Q (.int<|qY r a b L,μ')):W (f (k+1) "count_between" [.loc h,.loc x,.loc y] μ) Q:=by
 let o:atI ([a,b].map PP) 0=b3 (PP a):=rfl;let p:atI ([a,b].map PP) 1=b3 (PP b):=rfl;let s:∀{Q:jz},Q (.int<|r a,μ)->W (bG (.loc h) (PP a) μ) Q:=λq=>(gC (.inl g) (b9 a)<|iX i z).mpr q;let u:∀{Q:jz},Q (.int<|r b,μ)->W (bG (.loc h) (PP b) μ) Q:=λq=>(gC (.inl g) (b9 b)<|iX i A).mpr q;show Ï (XU k _ _ _ μ)<|bD<|dJ<|aQ<|aO ⟨_,rfl,aP rfl rfl<|(dY c o).mpr<|s<|aQ<|aO ⟨_,rfl,aP rfl rfl<|(dY c p).mpr<|u ⟨_,rfl,wy.mpr ?_⟩⟩⟩;show bD<|dJ<|aQ<|aO ⟨_,rfl,aP rfl rfl<|(dY c o).mpr<|s<|aQ<|aO ⟨_,rfl,aP rfl rfl<|(dY c p).mpr<|u ⟨_,rfl,wz.mpr ?_⟩⟩⟩;show cJ<|dJ<|aQ<|j4 (xs:=L.map PP) (p:=λd=>decide (min (r a) (r b)<r (eN d))&&decide (r (eN d)<max (r a) (r b))) (v:=λd=>d)<|Ó.mpr ⟨_,rfl,(eI j).mpr ⟨mW j,rfl,by rw[Ã,ï];lia,λd μ' hd e=>?_,λd μ' hd l e=>⟨_,rfl,rfl,č _⟩,λμ' e n=>?_⟩⟩
 .let⟨q,v,rfl⟩:=Ô.mp hd;show c5<|ŗ.mpr ⟨_,rfl,aP rfl rfl<|(gC (.inl<|aD e g) (b9 q)<|iX i<|w q v).mpr<|ı.mpr ?_⟩;rw[Ki];cases decide (min (r a) (r b)<r q)with
  |false=>show⟨_,rfl,rfl,č _⟩|true=>show⟨_,rfl,ı.mpr ⟨_,rfl,rfl,č _⟩⟩
 .rw[uK λq=>decide (min (r a) (r b)<r q)&&decide (r q<max (r a) (r b))]at n;show⟨_,rfl,(jH n).mpr ?_⟩;rw[Ã];show H _ e
abbrev oG(r:Int×Int->Int)(X Y:jq):Option Bool:=match X with
 |[a,b]=>b3 (qY r a b Y==1)|_=>match Y with
  |[c,d]=>b3 (qY r c d X==1)|_=>b4
abbrev Lk(r:Int×Int->Int)(X Y:jq):Bool:=decide<|r (X.headD (0,0))>r (Y.headD (0,0))
abbrev sV(r:Int×Int->Int)(a c d e:jq):Bool:=match oG r a d with
 |some b=>b|none=>match oG r c e with
  |some b=>b|none=>Lk r a d != Lk r c e
abbrev a0N(k:Nat):MS:=aL (bK (a7<|aA (aZ b5) (bJ dH<|aB (aE 3) aG)<|mC<|.int 2) (aM<|aA (aZ b5) (bJ (f k "count_between")<|aB (aE 0)<|aB (aE 3)<|aB (aE 4) aG)<|mC<|.int 1) bV)<|bK (a7<|aA (aZ b5) (bJ dH<|aB (aE 4) aG)<|mC<|.int 2) (aM<|aA (aZ b5) (bJ (f k "count_between")<|aB (aE 0)<|aB (aE 4)<|aB (aE 3) aG)<|mC<|.int 1) bV
def Ll{X:jq}(h:X.length=2):∃a b,X=[a,b]:=by
 match X,h with
 |[a,b],_=>show⟨a,b,rfl⟩
def a0O{Y:jq}(a:X.length≠2)(b:Y=[c,d]):oG r X Y=b3 (qY r c d X==1):=by
 subst b;ext oG;split
 .show absurd rfl a
 .rfl
def a0P(a:X.length≠2)(b:Y.length≠2):oG r X Y=none:=by
 ext oG;split
 .show absurd rfl a
 .split
  .show absurd rfl b
  .rfl
def Lm(n:Nat):(((n:Int))==1)=(n==1):=by rw[γ,beq_iff_eq,beq_iff_eq];lia
def Ln(n:Nat):(((n:Int))==2)=(n==2):=by rw[γ,beq_iff_eq,beq_iff_eq];lia
def Lo{μ:Hm}k(w:fl.Nodup)(v:μ[h]?=b3 (.dT<|bT (λq=>.int<|r q) fl))(j:∀q∈X,q∈fl)(n:∀q∈Y,q∈fl)(A:X.length<=100)(B:Y.length<=100)(g:μ[x]?=b3 (.lst<|X.map PP))(i:μ[y]?=b3 (.lst<|Y.map PP))R(u:∀b c,oG r X Y=b3 b->μ<+:c->R (.rt<|.bl b,[b3<|.loc h,o,s,b3<|.loc x,b3<|.loc y],c))(z:oG r X Y=b4->R (.nx,[b3<|.loc h,o,s,b3<|.loc x,b3<|.loc y],μ)):W (a0N (k+1) [b3<|.loc h,o,s,b3<|.loc x,b3<|.loc y] μ) R:=by
 show Ç.mpr<|Ò.mpr<|c5<|aO<|aS rfl<|(jH g).mpr ⟨_,rfl,ą.mpr ⟨_,rfl,?_⟩⟩;rw[Ã,Ln];by_cases d:X.length=2
 .show kZ (beq_iff_eq.mpr d) ?_;let⟨a,b,rfl⟩:=Ll d;show Ð.mpr (aO<|aS rfl<|Lj k w v (j a ∅) (j b ∅) n B g i _ λc p=>⟨_,rfl,ą.mpr ?_⟩);rw[Lm];show u _ _ rfl p
 .show gQ (beq_eq_false_iff_ne.mpr d)<|Î.mpr<|Ò.mpr<|c5<|aO<|aS rfl<|(jH i).mpr ⟨_,rfl,ą.mpr ⟨_,rfl,?_⟩⟩;rw[Ã,Ln];by_cases e:Y.length=2
  .show kZ (beq_iff_eq.mpr e) ?_;let⟨a,b,rfl⟩:=Ll e;show Ð.mpr (aO<|aS rfl<|Lj k w v (n a ∅) (n b ∅) j A i g _ λc p=>⟨_,rfl,ą.mpr ?_⟩);rw[Lm];show u _ _ (a0O d rfl) p
  .show gQ (beq_eq_false_iff_ne.mpr e)<|Î.mpr<|z<|a0P d e
def Lp{r:Int×Int->Int}k(d:fl.Nodup)(c:μ[h]?=b3 (.dT<|bT (λq=>.int<|r q) fl))(e:a∈fl)(g:b∈fl)(Q:jz)(H:Q (.bl<|decide<|r a>r b,μ)):W (f (k+1) "is_above" [.loc h,PP a,PP b] μ) Q:=
 Ï (JD k _ _ _ μ)<|cJ<|aO<|aP rfl rfl<|(gC (.inl c) (b9 a)<|iX d e).mpr<|aP rfl rfl<|(gC (.inl c) (b9 b)<|iX d g).mpr<|Ń.mpr H
inductive Sh:jq->jq->Prop where
 |c0 (a b):Sh [a,b] []
 |c1 (a b):Sh [] [a,b]
 |s (a b):Sh [a] [b]
def Sh.len(s:Sh A B):A.length<=100/\B.length<=100:=by ext s<;>show⟨∅,∅⟩
def w_neB{Q:jz}:W (aZ dI (.bl x) (.bl y) μ) Q↔Q (.bl<|x != y,μ):=by
 have:aZ dI (.bl x) (.bl y) μ=b3 (.bl<|x != y,μ):=by ext x<;>ext y<;>rfl
 rw[this];show À
def a0Q k(Y:fl.Nodup)(T:μ[h]?=b3 (.dT<|bT (λq=>.int<|r q) fl))(sA:Sh I J)(sB:Sh K L)(U:∀q,q∈I\/q∈J->q∈fl)(X:∀q,q∈K\/q∈L->q∈fl)(jA:JC lo I J x μ)(jB:JC lo K L y μ)(Q:jz)(H:∀g,μ<+:g->Q (.bl<|sV r I J K L,g)):W (f (k+2) "crosses" [.loc h,.loc x,.loc y] μ) Q:=by
 let⟨a0,a1,_,_,_,o,M,N⟩:=jA;let⟨b0,b1,_,_,_,w,O,R⟩:=jB;let lA:=sA.len;let lB:=sB.len;show Ï (XW (k+1) _ _ _ μ)<|Ç.mpr<|É.mpr<|Jv ⟨_,rfl,_,_,_,_,rfl,o,w,?_⟩;show nX (N:=2) (λi E g=>∃u v,E=[b3<|.loc h,b3<|.loc x,b3<|.loc y,u,v]/\μ<+:g/\(0<i->oG r I K=b4)/\(1<i->oG r J L=b4)) ?_ ?_ 2 0 _ μ rfl ⟨b4,b4,rfl,č _,λz=>absurd z<|ε _,λz=>absurd z ⋯⟩
 .rintro i E g hi ⟨u,v,rfl,p,n,G⟩;let j:∀i,jX (.loc x) (.loc y) g i=b3 (([D.loc a0,.loc a1][i]?).bind λd=>([D.loc b0,.loc b1][i]?).map λe=>.tup [d,e]):=λi=>by dsimp[jX,bO,aD p o,aD p w,Đ,Ĕ]
  let hc:i=0\/i=1:=()
  rcases hc with rfl|rfl
  .show⟨_,_,j 0,rfl,Lo k Y (aD p T) (λq A=>U q<|.inl A) (λq A=>X q<|.inl A) lA.1 lB.1 (aD p M) (aD p O) _ (λb B e p2=>?_) λe=>⟨_,_,rfl,p,λ_=>e,λz=>absurd z ⋯⟩⟩;have:=H B<|p.trans p2;unfold sV at this;rw[e]at this;show this
  .show⟨_,_,j 1,rfl,Lo k Y (aD p T) (λq A=>U q<|.inr A) (λq A=>X q<|.inr A) lA.2 lB.2 (aD p N) (aD p R) _ (λb B e p2=>?_) λe=>⟨_,_,rfl,p,λ_=>n ⋯,λ_=>e⟩⟩;have:=H B<|p.trans p2;unfold sV at this;rw[n ⋯,e]at this;show this
 .rintro E g ⟨u,v,rfl,p,n,G⟩;let n:=n ⋯;let G:=G ⋯;let j:jX (.loc x) (.loc y) g 2=b3 none:=by dsimp[jX,bO,aD p o,aD p w,Đ,Ĕ];rfl
  show⟨j,?_⟩;have:=H g p;unfold sV at this;rw[n,G]at this;cases sA with
  |c0 a b=>ext n|c1 a b=>ext G|s a b=>
   cases sB with
   |c0 c d=>ext n|c1 c d=>ext G|s c d=>have i0:∀{u v:D},atI [u,v] 0=b3 u:=rfl;let i1:∀{u v:D},atI [u,v] 1=b3 v:=rfl;let Z:∀q,atI ([q].map PP) 0=b3 (PP q):=λ_=>rfl;let o:=aD p o;let w:=aD p w;show Ð.mpr<|aO<|dJ<|aQ ⟨_,rfl,aQ<|aO<|aP rfl rfl<|(dY o i0).mpr ⟨_,rfl,(dY (aD p M)<|Z a).mpr<|aQ<|aO<|aP rfl rfl<|(dY w i0).mpr ⟨_,rfl,(dY (aD p O)<|Z c).mpr ⟨_,rfl,?_⟩⟩⟩⟩;show Lp k Y (aD p T) (U a<|.inl ∅) (X c<|.inl ∅) _<|dJ<|aQ ⟨_,rfl,aQ<|aO<|aP rfl rfl<|(dY o i1).mpr ⟨_,rfl,(dY (aD p N)<|Z b).mpr<|aQ<|aO<|aP rfl rfl<|(dY w i1).mpr ⟨_,rfl,(dY (aD p R)<|Z d).mpr ⟨_,rfl,?_⟩⟩⟩⟩;show Lp k Y (aD p T) (U b<|.inr ∅) (X d<|.inr ∅) _<|w_neB.mpr this
abbrev ι:jq:=[(-1,0),(0,-1),(0,1),(1,0)]
def a0R p:k5 p=ι.map λs=>(p.1+s.1,p.2+s.2):=by ext k5 ι;dsimp[ó,϶,yx];rfl
def AU(hA:ė A)(b:A.e%4=0/\A.g%4=0)(h:q∈iC e):aC A q∈iC (aC A e):=by
 let⟨h1,a⟩:=ģ.mp h;show ģ.mpr ⟨?_,?_⟩
 .let key:∀s∈ι,(A.a*s.1+A.b*s.2,A.c*s.1+A.d*s.2)∈ι:=by obtain⟨u,v,h|h|h|h|h|h|h|h⟩:=DB hA<;>subst h<;>dsimp<;>decide
  rw[a0R]at h1 ⊢;let⟨s,c,rfl⟩:=Ô.mp h1;show Ô.mpr ⟨_,key s c,?_⟩;ext aC;dsimp[Q9,Od];lia
 .rw[show eF (aC A q)=eF q from K9 (T:=λx y=>eF (x,y)) K7 a0u a0v hA b q];show a
def xG(hA:ė A)(h:p≠q):aC A p≠aC A q:=λe=>h<|by
 have:=congrArg (aC<|Dz A) e;rwa [JO hA,JO hA]at this
def D7(H:(w,h)∈gR)(wf:Wf w h F)(z:e∈bF w h)(n:iC (aY F e)=[s0,s1]):Sh (c8 F e s0) (c8 F e s1)/\(∀q,q∈c8 F e s0\/q∈c8 F e s1->q∈cC w h)/\cK (aY F e).1 (aY F e).2=true:=by
 let⟨p,B,E,_⟩:=(hW _ H).2.2.2.2.2.2.2 e z;let G:cK (aY F e).1 (aY F e).2=true:=uP (wf.di _) (wf.lt _) p;let⟨c,d,k,K,i⟩:=qX p;let A:c∈cC w h/\d∈cC w h:=by
  rcases i with⟨rfl,rfl⟩|⟨rfl,rfl⟩
  .show⟨B,E⟩
  .show⟨E,B⟩
 let j:∀s,∀q∈c8 F e s,q∈cC w h:=λs q o=>by
  have:=(ģ.mp o).1;rw[k]at this;dsimp[ĉ,ϕ,or_false]at this;rcases this with rfl|rfl
  .show A.1
  .show A.2
 show⟨?_,λq o=>o.elim (j _ q)<|j _ q,G⟩;let⟨u,v,x,g,_⟩:=qX G;rw[n]at x;ext x;let sp:aC (F c) e=aY F e/\aC (F d) e=aY F e:=by
  have:=xF p<|wf.ed e z;rcases i with⟨rfl,rfl⟩|⟨rfl,rfl⟩
  .show⟨rfl,this⟩
  .show⟨this,rfl⟩
 let I:aC (F c) c=s0\/aC (F c) c=s1:=by have:=AU (wf.di c) (wf.lt c) (e:=e) (q:=c) (by rw[k];simp);rw[sp.1,n]at this;apply this
 let J:aC (F d) d=s0\/aC (F d) d=s1:=by have:=AU (wf.di d) (wf.lt d) (e:=e) (q:=d) (by rw[k];simp);rw[sp.2,n]at this;apply this
 ext c8;rw[k];let y:∀s,([c,d].filter λq=>decide<|aC (F q) q=s)=(if aC (F c) c=s then[c]else[])++if aC (F d) d=s then[d]else[]:=λs=>by rw[iz,iz,zm];by_cases a:aC (F c) c=s<;>by_cases b:aC (F d) d=s<;>simp[a,b]
 rw[y,y];rcases I with a|a<;>rcases J with b|b
 .rw[a,b,if_pos rfl,if_pos rfl,if_neg g,if_neg g];show .c0 _ _
 .rw[a,b,if_pos rfl,if_neg<|î g,if_neg g,if_pos rfl];show .s _ _
 .rw[a,b,if_neg<|î g,if_pos rfl,if_pos rfl,if_neg g];show .s _ _
 .rw[a,b,if_neg<|î g,if_neg<|î g,if_pos rfl,if_pos rfl];show .c1 _ _
abbrev eV(c:List Bool):Bool:=c==[dI,b5,dI,b5]||c==[b5,dI,b5,dI]
def Ŕ:eV c=dI↔c=[dI,b5,dI,b5]\/c=[b5,dI,b5,dI]:=by ext eV;rw[mU,beq_iff_eq,beq_iff_eq]
def Lq(h:eV c=dI):c.length=4:=by rcases Ŕ.mp h with e|e<;>rw[e]<;>rfl
def Lr c:eV c.reverse=eV c:=by rw[γ,Ŕ,Ŕ,RE,RE];show or_comm
def D8 a b:eV (a++b)=eV (b++a):=by
 let h:∀a b:List Bool,eV (a++b)=dI->eV (b++a)=true:=λa b h=>by
  let k:∀c:List Bool,eV c=dI->∀n,n<5->eV (c.drop n++c.take n)=true:=λc hc=>by rcases Ŕ.mp hc with rfl|rfl<;>decide
  let l:=Lq h;rw[ă]at l;have:=k _ h a.length ();rwa [List.drop_left,QL]at this
 show γ.mpr ⟨h a b,h b a⟩
def D9 x{C:List Bool}(hA:∀b∈A,b=x)(hB:∀b∈B,b=!x)(hC:∀b∈C,b=x):eV (A++(B++C))=false:=by
 let k:∀x:Bool,∀a,a<5->∀b,b<5->∀c,c<5->eV (ϡ a x++(ϡ b (!x)++ϡ c x))=false:=by decide +kernel
 show RM.mpr λh=>?_;let l:=Lq h;rw[ă,ă]at l;rw[PH.mpr ⟨rfl,hA⟩,PH.mpr ⟨rfl,hB⟩,PH.mpr ⟨rfl,hC⟩,k x _ () _ () _ ()]at h;ext h
abbrev eJ(e a q:Int×Int):Option Bool:=if q=sA e\/q=sB e then b3 dI else if q=sA a\/q=sB a then b3 b5 else b4
abbrev wd(e a:Int×Int)(P:jq):List Bool:=P.filterMap<|eJ e a
def Ls(h:eJ e a q=b3 dI):q=sA e\/q=sB e:=by
 unfold eJ at h;split at h
 .assumption
 .split at h<;>ext h
def Lu(h:eJ e a q=b3 b5):q=sA a\/q=sB a:=by
 unfold eJ at h;split at h
 .ext h
 .split at h
  .assumption
  .ext h
def xH{P:jq}(h:∀q∈P,eJ e a q≠b3 !x):∀b∈wd e a P,b=x:=λb d=>by let⟨q,g,c⟩:=Oj.mp d;have:=h q g;rw[c]at this;revert this;ext b<;>ext x<;>simp
def Lv{P:jq}(h:∀q∈P,eJ e a q=b4):wd e a P=[]:=List.filterMap_eq_nil_iff.mpr h
abbrev oH(G:Gr)(s t e a:Int×Int):Bool:=eV<|wd e a (bW G s)++(wd e a<|bW G t).reverse
def Lx G s t e a:oH G s t e a=oH G t s e a:=by ext oH;rw[<- Lr,qe,iu]
abbrev pQ{a:Type}(o:Bool)(X Y:List a):List a:=if o then X++Y else Y++X
def Lz o p:∀K S,(K.map (·.1)).Nodup->bW (K.foldl (iW o) S) p=pQ o (bW S p) (bW K p)
 |[],S,_=>by
  rw[AB];ext pQ;ext o
  .rfl
  .show(ŉ _).symm
 |g::K,S,hk=>by
  rw[ó,Ŏ]at hk;rw[ut,Lz o p K _ hk.2,jL];ext iW;rw[AD];by_cases e:p=g.1
  .rw[if_pos e,if_pos e.symm,e,pM hk.1];ext pQ;ext o
   .rfl
   .show ŉ _
  .rw[if_neg e,if_neg λw=>e w.symm]
def a0S(h:(G.map (·.1)).Nodup){mv:Int×Int->Bool}(c:∀p,M (M p)=p)o p:
  bW (sP mv M o G) p=pQ o (if mv p then[]else bW G p) (if mv (M p)then(bW G<|M p).reverse else[]):=by
 ext sP;rw[Lz,DJ,DK c];let e:(iJ mv M G).map (·.1)=((G.filter λg=>mv g.1).map (·.1)).map M:=by ext iJ;rw[ã,ã];rfl
 rw[e];show uq _ (λa b d w=>d<|by rw[<- c a,w,c])<|(ig.map _).nodup h
def LA(c:(G.map (·.1)).Nodup){mv:Int×Int->Bool}(b:∀p,M (M p)=p)o e a p:
  wd e a (bW (sP mv M o G) p)=pQ o (if mv p then[]else wd e a (bW G p)) (if mv (M p)then(wd e a<|bW G<|M p).reverse else[]):=by
 rw[a0S c b];let h:∀X Y:jq,wd e a (pQ o X Y)=pQ o (wd e a X) (wd e a Y):=λX Y=>by ext o<;>show List.filterMap_append
 rw[h];congr 1
 .cases mv p<;>rfl
 .cases mv<|M p
  .rfl
  .show List.filterMap_reverse
def LB x o{c e:List Bool}(h0:∀b∈a,b=x)(h1:∀b∈d,b=x)(i:∀b∈c,b=!x)(n:∀b∈e,b=!x):eV (pQ o a c.reverse++(pQ o d e.reverse).reverse)=false:=by
 let r:∀{L:List Bool}{y:Bool},(∀b∈L,b=y)->∀b∈L.reverse,b=y:=λh b g=>h b<|RH.mp g;let j:∀{L K:List Bool}{y:Bool},(∀b∈L,b=y)->(∀b∈K,b=y)->∀b∈L++K,b=y:=λh k b g=>(Ħ.mp g).elim (h b)<|k b;ext o
 .change eV ((c.reverse++a)++(e.reverse++d).reverse)=b5;rw[qe,iu,Ϩ,<- Ϩ a];show D9 (!x) (r i) (by rw[Bool.not_not];show j h0<|r h1) n
 .change eV ((a++c.reverse)++(d++e.reverse).reverse)=b5;rw[qe,iu,Ϩ,<- Ϩ c.reverse];show D9 x h0 (j (r i) n)<|r h1
def AV(e:0<=u/\u<4)(d:n%4=0)(b:eF s=dI):cV u n a (aC (bS u n) s)=!cV u n a s:=by
 let h:decide (n<cX u (aC (bS u n) s))=!decide (n<cX u s):=by
  rw[D1]at b;rw[Ks,γ,NB,decide_eq_true_iff,decide_eq_false_iff_not];ext cX;let⟨x,y⟩:=s;dsimp at b ⊢;let c:u=0\/u=1\/u=2\/u=3:=()
  rcases c with rfl|rfl|rfl|rfl
  .change n<2*n-y↔¬ n<y;lia
  .change n<2*n-x↔¬ n<x;lia
  .change n<y+n-(x-n)↔¬ n<x-y;lia
  .change n<n-y+(n-x)↔¬ n<x+y;lia
 ext cV;rw[h];cases decide (n<cX u s)<;>ext a<;>rfl
abbrev kF(p:Int×Int):Int×Int:=(p.1-p.1%4,p.2-p.2%4)
abbrev rs(p:Int×Int):Int×Int:=(p.1%4,p.2%4)
def a0T p:sA p=((kF p).1+(sA<|rs p).1,(kF p).2+(sA<|rs p).2):=by
 unfold sA kF rs;dsimp;rw[sR,mj];split
 .show đ (by dsimp;lia)<|by dsimp;lia
 .split
  .show đ (by dsimp;lia)<|by dsimp;lia
  .show đ (by dsimp;lia)<|by dsimp;lia
def a0U p:sB p=((kF p).1+(sB<|rs p).1,(kF p).2+(sB<|rs p).2):=by
 unfold sB kF rs;dsimp;rw[sR,mj,mj];split
 .show đ (by dsimp;lia)<|by dsimp;lia
 .split
  .show đ (by dsimp;lia)<|by dsimp;lia
  .show đ (by dsimp;lia)<|by dsimp;lia
def a0V p:kE p=kE (rs p):=by ext kE rs;dsimp;rw[sR,mj,mj]
def a0W x y:cK x y=cK (x%4) (y%4):=by ext cK;rw[sR,sR,mj,mj]
def Ea k p q:cX k (p.1+q.1,p.2+q.2)=cX k p+cX k q:=by
 ext cX;split
 .rfl
 split
 .rfl
 split
 .change p.1+q.1-(p.2+q.2)=p.1-p.2+(q.1-q.2);lia
 .change p.1+q.1+(p.2+q.2)=p.1+p.2+(q.1+q.2);lia
def LC(x:Int):x-x%4=4*(x/4):=()
def a0X k p:cX k (kF p)%4=0:=by
 have:cX k (kF p)=4*cX k (p.1/4,p.2/4):=by
  ext cX kF;rw[LC,LC];split
  .rfl
  split
  .rfl
  split
  .show(Int.mul_sub ..).symm
  .show(Q9 ..).symm
 rw[this,Int.mul_emod_right]
def LF(n v a:Int):n<v+a↔n-v<a:=()
def a0Y(i:m%4=0)(h:¬ (m<a↔m<b))(c:-4<=a)(d:a<=8)(e:-4<=b)(g:b<=8):m=-4\/m=0\/m=4:=()
def a0Z(w:0<=u/\u<4)(q:n%4=0)(g:cK p.1 p.2=dI)(hd:cV u n a (sA p)≠cV u n a (sB p)):u=kE p/\n=cX (kE p) p:=by
 let h:¬ (n<cX u (sA p)↔n<cX u (sB p)):=λe=>hd (by ext cV;rw[decide_eq_decide.mpr e]);clear hd;let K:∀i∈[(0:Int),1,2,3],∀j∈[(0:Int),1,2,3],∀u∈[(0:Int),1,2,3],cK i j=dI->(-4<=cX u (sA (i,j))/\cX u (sA (i,j))<=8/\-4<=cX u (sB (i,j))/\cX u (sB (i,j))<=8)/\∀m∈[(-4:Int),0,4],¬ (m<cX u (sA (i,j))↔m<cX u (sB (i,j)))->u=kE (i,j)/\m=cX (kE (i,j)) (i,j):=by decide +kernel
 let s:u∈[(0:Int),1,2,3]:=by
  have:u=0\/u=1\/u=2\/u=3:=()
  apply this
 rw[a0W]at g;let⟨b,c⟩:=Ku (P:=λi j=>cK i j=dI->(-4<=cX u (sA (i,j))/\cX u (sA (i,j))<=8/\-4<=cX u (sB (i,j))/\cX u (sB (i,j))<=8)/\∀m∈[(-4:Int),0,4],¬ (m<cX u (sA (i,j))↔m<cX u (sB (i,j)))->u=kE (i,j)/\m=cX (kE (i,j)) (i,j)) (λi hi j o=>K i hi j o u s) p.1 p.2 g;rw[a0T,a0U,Ea,Ea]at h;rw[LF,LF]at h;let e:p=((kF p).1+(rs p).1,(kF p).2+(rs p).2):=đ (Og ..).symm (Og ..).symm;let v:cX u p=cX u (kF p)+cX u (rs p):=(congrArg (cX u) e).trans<|Ea ..;let k:(n-cX u (kF p))%4=0:=by rw[Int.sub_emod,q,a0X];rfl
 let⟨c1,d⟩:=c _ (by apply a0Y k h b.1 b.2.1 b.2.2.1 b.2.2.2) h;rw[a0V];let c1:u=kE (rs p):=c1;let d:n-cX u (kF p)=cX (kE<|rs p) (rs p):=d;rw[<- c1]at d ⊢;show⟨rfl,by rw[v,<- d,Pw,Og]⟩
def Eb(h:0<=u/\u<4)(g:n%4=0)(b:cK p.1 p.2=dI)(hd:cV u n a (sA p)≠cV u n a (sB p)):aC (bS u n) p=p/\aC (bS u n) (sA p)=sB p/\aC (bS u n) (sB p)=sA p:=by
 let⟨c,d⟩:=a0Z h g b hd;let e:bS u n=fY p:=by rw[c,d];show a0H b
 rw[e,kU,kU,kU];show⟨Lh b,AM b⟩
def AW(b:cK p.1 p.2=dI)(h:q∈iC p):q=sA p\/q=sB p:=by
 let⟨s,t,e,_,a⟩:=qX b;rw[e]at h;have:q=s\/q=t:=by apply h
 rcases a with⟨rfl,rfl⟩|⟨rfl,rfl⟩
 .show this
 .show this.symm
def AX(b:cK p.1 p.2=dI)(h:q=sA p\/q=sB p):q∈iC p:=by let⟨s,t,e,_,a⟩:=qX b;rw[e];rcases a with⟨rfl,rfl⟩|⟨rfl,rfl⟩<;>rcases h with rfl|rfl<;>simp
def LG(a:cK p.1 p.2=dI)(h:q=sA p\/q=sB p):eF q=true:=(ģ.mp<|AX a h).2
def Ee(hA:ė A)(b:A.e%4=0/\A.g%4=0)(a:cK e.1 e.2=dI)(c:q=sA e\/q=sB e):aC A q=sA (aC A e)\/aC A q=sB (aC A e):=AW (uP hA b a)<|AU hA b<|AX a c
abbrev JL(F:Int×Int->Ly):Prop:=(∀q,ė (F q))/\(∀q,(F q).e%4=0/\(F q).g%4=0)/\∀e,cK e.1 e.2=dI->F (sA e)=F (sB e)\/F (sA e)=dA (fY e) (F<|sB e)
def a1a:JL λ_=>fD:=⟨λ_=>JN,λ_=>⟨rfl,rfl⟩,λ_ x=>.inl rfl⟩
def LH(h:x≠y):(x=dI/\y=b5)\/(x=b5/\y=dI):=by ext x<;>ext y<;>simp at h ⊢
def a1b F u n a(o:0<=u/\u<4)(j:n%4=0)(h:JL F):JL (d9 u n a F):=by
 let⟨c,i,s⟩:=h;show⟨Kj c,λq=>?_,λe b=>?_⟩
 .ext d9;split
  .show Lf u j<|i q
  .show i q
 .ext d9;rcases s e b with h1|h1
  .let w:=Ee (c<|sB e) (i<|sB e) b<|.inl rfl;let lt:=Ee (c<|sB e) (i<|sB e) b<|.inr rfl;let p:=uP (c<|sB e) (i<|sB e) b;let ne:=xG (c<|sB e)<|pP b;rw[h1];by_cases d:cV u n a (aC (F<|sB e)<|sA e)=cV u n a (aC (F<|sB e)<|sB e)
   .rw[d];show .inl rfl
   .let k:aC (bS u n) (aC (F<|sB e)<|sA e)=aC (F<|sB e) (sB e)/\aC (bS u n) (aC (F<|sB e)<|sB e)=aC (F<|sB e) (sA e):=by
     rcases w with g|g<;>rcases lt with e2|e2
     .show absurd (g.trans e2.symm) ne
     .rw[g,e2]at d ⊢;show(Eb o j p d).2
     .rw[g,e2]at d ⊢;show(Eb o j p<|î d).2.symm
     .show absurd (g.trans e2.symm) ne
    let⟨z,A⟩:=AM b;let X:dA (F<|sB e) (bS u n)=dA (fY e) (F<|sB e):=by
     show ZP (DC (c _)<|wY u n) (DC (JM e)<|c _) ?_ (pP b) ?_ ?_
     .rw[Au,Au,ZN,DA,Int.mul_comm]
     .rw[j5,j5,kU,z,k.1]
     .rw[j5,j5,kU,A,k.2]
    show .inr ?_;rcases LH d with⟨x,y⟩|⟨x,y⟩<;>rw[x,y]
    .show X
    .change F (sB e)=dA (fY e) (dA (F<|sB e)<|bS u n);rw[<- Av,<- X,Av,ZQ,YO]
  .let v:=EdF.pos b h1;show .inr ?_;rw[v];split
   .rw[<- Av,<- h1]
   .show h1
def JL.wf(b:(w,h)∈gR)(J:JL F):Wf w h F:=⟨J.1,J.2.1,λe a=>J.2.2 e ((hW _ b).2.2.2.2.2.2.2 e a).1⟩
def Ef(b:(w,h)∈gR)(wf:Wf w h F)(a:e∈bF w h):cK (aY F e).1 (aY F e).2=true:=uP (wf.di _) (wf.lt _) ((hW _ b).2.2.2.2.2.2.2 e a).1
def uR(d:(w,h)∈gR)(wf:Wf w h F)(a:e∈bF w h)(b:q=sA e\/q=sB e):aC (F q) q=sA (aY F e)\/aC (F q) q=sB (aY F e):=by
 let c:=((hW _ d).2.2.2.2.2.2.2 e a).1;let sp:aC (F q) e=aY F e:=by
  rcases b with rfl|rfl
  .rfl
  .show xF c<|wf.ed e a
 have:=Ee (wf.di q) (wf.lt q) c b;rwa [sp]at this
abbrev NC(w h:Int)(F:Int×Int->Ly)(G:Gr):Prop:=∀e∈bF w h,∀a∈bF w h,aY F e=aY F a->oH G (sA<|aY F e) (sB<|aY F e) e a=b5
def LI u n a e:aY (d9 u n a F) e=if cV u n a (aC (F<|sA e)<|sA e)then aC (bS u n) (aY F e)else aY F e:=by
 ext aY d9;split
 .show j5 _ _ _
 .rfl
def a1c(U:(w,h)∈gR)(wf:Wf w h F)(P:ħ (cC w h) (λq=>aC (F q) q) G)(O:0<=u/\u<4)(M:n%4=0)(nc:NC w h F G):NC w h (d9 u n a F) (sP (cV u n a) (aC<|bS u n) o G):=by
 intro e B i v ep
 let L:=wZ u n
 let Z:ė (bS u n):=wY u n
  -- where both lay ahead
 let old:∀x∈bF w h,aY F x=aY (d9 u n a F) x\/aY F x=aC (bS u n) (aY (d9 u n a F) x):=λx f=>by
  rw[LI]
  split
  .show .inr (L _).symm
  .show .inl rfl
 let A:=old e B
 let d:=old i v
 rw[<- ep]at d
 let lt:(bS u n).e%4=0/\(bS u n).g%4=0:=by
  have:=Lf u M (A:=fD) ⟨rfl,rfl⟩
  rwa [YQ]at this
 let rM:∀{x:Int×Int},cK x.1 x.2=dI->cK (aC (bS u n) x).1 (aC (bS u n) x).2=true:=λh=>uP Z lt h
 let J:cK (aY (d9 u n a F) e).1 (aY (d9 u n a F) e).2=true:=by
  rw[LI]
  split
  .show rM<|Ef U wf B
  .show Ef U wf B
 generalize aY (d9 u n a F) e=p at A d J
 let q0:=LG J<|.inl rfl
 let q1:=LG J<|.inr rfl
 let pm:∀{s q:Int×Int},q∈bW G s->aC (F q) q=s:=λ{s q} g=>of_decide_eq_true (ģ.mp<|(P.pm s).mem_iff.mp g).2
 ext oH
 rw[LA P.kd L,LA P.kd L,AV O M q0,AV O M q1]
 by_cases hd:cV u n a (sA p)=cV u n a (sB p)
 .cases E:cV u n a (sA p)with
  |true=>
   rw[<- hd,E]
   ext o<;>rfl
  |false=>
   rw[<- hd,E]
   dsimp[zf,if_true,Ň,if_false]
      -- what uR at p,what uR at its mirror
   let X:cV u n a (aC (bS u n)<|sA p)=true:=by rw[AV O M q0,E];rfl
   let Y:cV u n a (aC (bS u n)<|sB p)=true:=by rw[AV O M q1,<- hd,E];rfl
   let sM:∀{q:Int×Int},q=sA (aC (bS u n) p)\/q=sB (aC (bS u n) p)->q=aC (bS u n) (sA p)\/q=aC (bS u n) (sB p):=λ{q} g=>by
    have:=AU Z lt<|AX (rM J) g
    rw[L]at this
    rcases AW J this with e|e
    .show .inl<|by rw[<- e,L]
    .show .inr<|by rw[<- e,L]
   let st:∀{x q s:Int×Int},x∈bF w h->(q=sA x\/q=sB x)->aY F x=p->aC (F q) q=s->cV u n a s=false:=λQ g H e2=>by
    have:=uR U wf Q g
    rw[H,e2]at this
    rcases this with e|e
    .rw[e,E]
    .rw[e,<- hd,E]
   let go:∀{x q s:Int×Int},x∈bF w h->(q=sA x\/q=sB x)->aY F x=aC (bS u n) p->aC (F q) q=s->cV u n a s=true:=λQ g H e2=>by
    have:=uR U wf Q g
    rw[H,e2]at this
    rcases sM this with e|e
    .rw[e,X]
    .rw[e,Y]
   let I:∀{s:Int×Int}{b:Bool},cV u n a s=b->∀{x:Int×Int},(∀{q:Int×Int},(q=sA x\/q=sB x)->aC (F q) q=s->cV u n a s=!b)->∀q∈bW G s,¬ (q=sA x\/q=sB x):=λ{s b} hb x k q g Q=>by
    have:=k Q<|pm g
    rw[hb]at this
    ext b<;>ext this
   let T:∀{q:Int×Int},¬ (q=sA e\/q=sB e)->eJ e i q≠b3 true:=λh k=>h<|Ls k
   let R:∀{q:Int×Int},¬ (q=sA i\/q=sB i)->eJ e i q≠b3 false:=λh k=>h<|Lu k
   let nn:∀{q:Int×Int},¬ (q=sA e\/q=sB e)->¬ (q=sA i\/q=sB i)->eJ e i q=none:=λh1 j=>by
    ext eJ
    rw[if_neg h1,if_neg j]
   let K:cV u n a (sB p)=false:=by rw[<- hd,E]
   rcases A with A|A<;>rcases d with d|d
   ·-- both stay
    let z:∀{s:Int×Int},cV u n a s=dI->wd e i (bW G s)=[]:=λc=>Lv λq g=>nn (I c (λh1 j=>st B h1 A j) q g)<|I c (λh1 j=>st v h1 d j) q g
    rw[z X,z Y]
    have:=nc e B i v<|by rw[A,d]
    rw[A]at this
    unfold oH at this
    ext o
    .show this
    .change eV ((_++[])++(_++[]).reverse)=b5
     rw[ŉ,ŉ]
     show this
   ·-- the one stays,the other goes
    let c0:∀{s:Int×Int},cV u n a s=b5->∀b∈wd e i (bW G s),b=true:=λc=>xH λq g=>R<|I c (λh1 j=>go v h1 d j) q g
    let c1:∀{s:Int×Int},cV u n a s=dI->∀b∈wd e i (bW G s),b=false:=λc=>xH λq g=>T<|I c (λh1 j=>st B h1 A j) q g
    show LB dI o (c0 E) (c0 K) (c1 X)<|c1 Y
   .let c0:∀{s:Int×Int},cV u n a s=b5->∀b∈wd e i (bW G s),b=false:=λc=>xH λq g=>T<|I c (λh1 j=>go B h1 A j) q g
    let c1:∀{s:Int×Int},cV u n a s=dI->∀b∈wd e i (bW G s),b=true:=λc=>xH λq g=>R<|I c (λh1 j=>st v h1 d j) q g
    show LB b5 o (c0 E) (c0 K) (c1 X)<|c1 Y
   ·-- both go
    let z:∀{s:Int×Int},cV u n a s=b5->wd e i (bW G s)=[]:=λc=>Lv λq g=>nn (I c (λh1 j=>go B h1 A j) q g)<|I c (λh1 j=>go v h1 d j) q g
    rw[z E,z K]
    have:=nc e B i v<|by rw[A,d]
    rw[A]at this
    let k:oH G (aC (bS u n)<|sA p) (aC (bS u n)<|sB p) e i=false:=by
     let n2:=xG Z<|pP J
     let h0:=sM<|.inl rfl
     let h1:=sM<|.inr rfl
     let n3:=pP<|rM J
     rcases h0 with N|N<;>rcases h1 with H|H
     .show absurd (N.trans H.symm) n3
     .rwa [N,H]at this
     .rw[N,H]at this
      rwa [Lx]
     .show absurd (N.trans H.symm) n3
    unfold oH at k
    rw[<- Lr,qe,iu,D8]at k
    ext o
    .change eV ((_++[])++(_++[]).reverse)=b5
     rw[ŉ,ŉ,iu]
     show k
    .change eV (([]++bh _)++bh ([]++bh _))=b5
     rw[ϥ,ϥ,iu]
     show k
 .let⟨f1,f2,f3⟩:=Eb O M J hd
  rw[f1,or_self]at A d
  have:=nc e B i v<|by rw[A,d]
  rw[A]at this
  unfold oH at this
  rw[f2,f3]
  rcases LH hd with⟨x,y⟩|⟨x,y⟩<;>rw[x,y]
  .ext o
   .change eV ([]++(bh _++_).reverse)=b5
    rw[ϥ,qe,iu,D8]
    show this
   .change eV ([]++(_++bh _).reverse)=b5
    rw[ϥ,qe,iu]
    show this
  .ext o
   .change eV ((bh _++_)++bh ([]++[]))=b5
    rw[ŉ,RI,ŉ,D8]
    show this
   .change eV ((_++bh _)++bh ([]++[]))=b5
    rw[ŉ,RI,ŉ]
    show this
def AY{qs:jq}(up:(qs.map aV).Pairwise λx y=>HT.lexLt x y=dI):qs.Nodup:=by rw[Of]at up;show up.imp λ{x y} h e=>by rw[e,vQ]at h;show ô h
def Ο:p∈jN w h↔(0<p.1/\p.1<4*w)/\0<p.2/\p.2<4*h:=by
 unfold jN pN qU;rw[jb];constructor
 .rintro⟨i,hi,b⟩;let⟨j,a,rfl⟩:=Ô.mp b;have:=ň.mp hi;have:=ň.mp a;dsimp;lia
 .intro⟨h1,c⟩;show⟨(p.1-1).toNat,ň.mpr (),Ô.mpr ⟨(p.2-1).toNat,ň.mpr (),đ ?_ ?_⟩⟩<;>dsimp<;>lia
abbrev sW(w h:Int)(p:Int×Int):Prop:=p∈(jN w h).filter oF
inductive dg (S:List ((Int×Int)×Str)):Prop
 |mk (len:S.length<=600)(nd:(S.map (·.1)).Nodup)(ok:∀m∈S,m.2="o"\/m.2="h"\/m.2="v")
def uS(h:a g e=b3 (.bl c,e))(i:b g e=b3 (.bl d,e)):fQ a b g e=b3 (.bl<|c&&d,e):=eD<|Ă.mpr ⟨_,h,by
 cases c with
 |true=>show(if_pos rfl).mpr ⟨_,i,rfl⟩
 |false=>show(if_neg ô).mpr rfl⟩
def a1d:∀w∈[(1:Int),2,3,4,5,6],∀h∈[(1:Int),2,3,4,5,6],(eE w h).length<=61:=by decide +kernel
abbrev a1e(k:Nat):MS:=bK (c9<|bJ (f k "crosses")<|aB (aE 0)<|aB (aA bG (aE 5)<|aE 7)<|aB (aA bG (aE 5)<|aE 8) aG) (dX<|eB eZ (aE 6)<|aB (cQ<|aB (aE 4)<|aB (aA bG (aE 3)<|aE 8) aG) aG) bV
def LJ{a:List Nat}{i:Nat}(h:a[i]?=b3 c):atI (a.map D.loc) (i:Int)=b3 (.loc c):=by let hi:=(â.mp h).1;ext atI;rw[Ã,a0C hi];change(a.map D.loc)[i]?=_;rw[ú,h];rfl
def JC.more{g μ':Hm}(p:g<+:μ'):JC lo A B c g->JC lo A B c μ':=λ⟨c0,c1,a,b,c,d,e,f⟩=>⟨c0,c1,a,b,c,aD p d,aD p e,aD p f⟩
section
variable{w h:Int}{F:Int×Int->Ly}{r:Int×Int->Int}{fl row es:jq}{p s0 s1:Int×Int}{t hg l:Nat}
inductive b4g (w h:Int)(F:Int×Int->Ly)(r:Int×Int->Int)(s0 s1:Int×Int)(es:jq):Prop
 |mk (sh:∀e∈es,Sh (c8 F e s0) (c8 F e s1)/\∀q,q∈c8 F e s0\/q∈c8 F e s1->q∈cC w h)(no:∀(i j:Nat) e x,i<j->es[i]?=b3 e->es[j]?=b3 x->sV r (c8 F e s0) (c8 F e s1) (c8 F x s0) (c8 F x s1)=b5)
def a1f k(hF:∀q,ė (F q))(nr:row.Nodup)(nf:fl.Nodup)(U:∀q∈cC w h,q∈fl)(X:b4g w h F r s0 s1 es)(sq:∀e∈es,∀q∈iC e,q∈row){s:Hm}(ht:s[t]?=b3 (.dT<|bT (λq=>LD<|F q) row))(hh:s[hg]?=b3 (.dT<|bT (λq=>.int<|r q) fl))(hp:iC p=[s0,s1])(gl:s[l]?=b3 (.lst<|es.map PP))(le:es.length<=64)(Q:jz)(H:∀c g,s<+:g->g[c]?=b3 (.lst [])->Q (.loc c,g)):W (f (k+5) "crossing_at" [.loc hg,.loc t,PP p,.loc l] s) Q:=by
 let hit:cS (aE 3) [b3<|.loc hg,b3<|.loc t,b3<|PP p,b3<|.loc l,b4,b4,b4,b4,b4] s=b3 (dE<|.loc l,(es.map PP).length+1,s):=by change(jD s<|.loc l).map _=_;dsimp[jD,bO,gl];rfl
 let⟨Y,no⟩:=X;show Ï (XX (k+4) _ _ _ _ s)<|bD<|Li (R:=λe c g=>JC s.length (c8 F e s0) (c8 F e s1) c g) gl () hit ?_ (λe T g v l1=>aS rfl<|a0M k hF nr (aD v ht) (sq e T) hp l1 _ λc μ2 y j=>⟨y,c,rfl,j⟩) _ λG o v O lc R=>bD<|æ.mpr ⟨_,rfl,ĵ _,fX<|É.mpr<|Dk ⟨_,rfl,l,es.map PP,rfl,aD (v.trans<|aR _ _) gl,?_⟩⟩
 .rintro e c m1 m2 ⟨c0,c1,a,b,d,e1,e2,e3⟩ L;show⟨c0,c1,a,b,d,L _ _ a e1,L _ _ b e2,L _ _ d e3⟩
 .show Jt (λi n g=>∃M N J,n=[b3<|.loc hg,b3<|.loc t,b3<|PP p,b3<|.loc l,M,b3<|.loc s.length,b3<|.loc o.length,N,J]/\o++[C.lst []]<+:g) ⟨b4,b4,b4,rfl,č _⟩ (λ_ _ _ ⟨_,_,_,_,q⟩=>aD (v.trans<|(aR _ _).trans q) gl) ?_ ?_
  .rintro i d n g hd ⟨M,N,J,rfl,y⟩;let q2:=(aR o<|C.lst []).trans y;let⟨e,hi,rfl⟩:=nE hd;let hil:=(â.mp hi).1;obtain⟨ci,A⟩:∃c,G[i]?=b3 c:=⟨G[i]'(),ü ()⟩;show⟨_,rfl,É.mpr<|Ĝ.mpr<|aQ<|aP rfl rfl<|Û.mpr<|aQ<|aS rfl<|(jH<|aD (v.trans q2) gl).mpr ⟨_,rfl,?_⟩⟩;show⟨⟨(),(),(),by rw[Ã];lia⟩,?_⟩;rw[Ã,show((es.length:Int)-((i:Int)+1)).toNat=es.length-(i+1) by lia];show qO (b:=a1e (k+4)) (λ_ n g=>∃x,n=[b3<|.loc hg,b3<|.loc t,b3<|PP p,b3<|.loc l,b3<|PP e,b3<|.loc s.length,b3<|.loc o.length,b3<|.int i,x]/\o++[C.lst []]<+:g) ⟨J,rfl,y⟩ ?_ ?_
   .rintro m n g T ⟨x,rfl,I⟩;let E:=(aR o<|C.lst []).trans I;obtain⟨z,u⟩:∃z,es[i+1+m]?=b3 z:=⟨es[i+1+m],ü ()⟩;obtain⟨cm,B⟩:∃c,G[i+1+m]?=b3 c:=⟨G[i+1+m]'(),ü ()⟩;let⟨Z,a2⟩:=Y e<|Ĵ hi;let⟨b1,b2⟩:=Y z<|Ĵ u;rw[show((i:Int)+1+(m:Nat))=((i+1+m:Nat):Int) by lia];show⟨_,rfl,Ò.mpr<|hJ (b:=b5)<|dJ<|aQ ⟨_,rfl,aQ<|aP rfl rfl<|(dY (aD E O)<|LJ A).mpr<|aQ<|aP rfl rfl<|(dY (aD E O)<|LJ B).mpr ⟨_,rfl,?_⟩⟩⟩;show a0Q (k+2) nf (aD (v.trans E) hh) Z b1 (λq K=>U q<|a2 q K) (λq K=>U q<|b2 q K) ((R i e ci hi A).more E) ((R _ z cm u B).more E) _ λμ3 p4=>⟨congrArg D.bl<|no i _ e z () hi u,gQ rfl<|Î.mpr ⟨_,rfl,I.trans p4⟩⟩
   .rintro n g ⟨x,rfl,I⟩;show⟨_,_,_,rfl,I⟩
  .rintro n g ⟨M,N,J,rfl,y⟩;show⟨rfl,cJ ⟨_,rfl,H _ _ (v.trans<|(aR _ _).trans y)<|aD y<|bE _ _⟩⟩
end
def a1g(h:W (m c b) λp=>∃a kvs,p.1=.loc a/\p.2[a]?=b3 (.dT kvs)/\Q (dE<|.tup<|lV kvs,kvs.length+1,p.2.set a<|.dF kvs)):W (wF m c b) Q:=by ext wF;rw[Ä];show bP h λp ⟨a,kvs,e,g,q⟩=>?_;rw[e];dsimp;rw[g];show À.mpr q
def a1h k(U:(w,h)∈gR)(wf:Wf w h F)(nd:(cC w h).Nodup){S:List ((Int×Int)×Str)}(d:Dr (cC w h) M a b F row Z)(nx:∀e∈bF w h,∀x∈bF w h,e≠x->aY F e=aY F x->∀s0 s1,iC (aY F e)=[s0,s1]->sV (aJ<|GZ Z) (c8 F e s0) (c8 F e s1) (c8 F x s0) (c8 F x s1)=b5)(Q:jz)(H:∀g,M<+:g->Q (.non,g)):W (f (k+6) "crossing" [SH w h S,.loc a,.loc b] M) Q:=by
 let⟨_,_,l1,_,_,K,upR,fr⟩:=hW _ U;replace l1:(cC w h).length<=48:=l1;replace K:(bF w h).length<=64:=K;let nR:(bF w h).Nodup:=AY<|AG upR;let pf:=d.pl.flat nd;let u:ħ (bF w h) (aY F) (mE (aY F)<|bF w h):=Zn;let sm:=J5 (aY F)<|bF w h;show Ï (XY (k+5) _ _ _ M) (bD<|aS rfl<|K5 (k+4) nd () d.hi d.hh d.pl _ λc n p1 g1=>bD<|æ.mpr ⟨_,rfl,ĵ _,fX<|É.mpr<|a1g<|aS rfl<|a0K (k+2) a U wf d.hr nd (aD (p1.trans<|aR _ _) d.hw) _ λm Y μ2 I eG=>⟨m,_,rfl,I.dic,?_⟩⟩);let lo:n.length<(n++[C.lst []]).length:=∅
 let B:∀y∈Y,y.2.2≠m/\y.2.2≠n.length:=λy B=>⟨I.ne B,Š<|ĸ lo (I.at_ y B).1⟩;let mm:m≠n.length:=Š<|ĸ lo I.lo;let p2:n<+:μ2.set m (.dF<|bA Y):=cZ ((aR _ _).trans I.pre) (Rr<|ĸ lo I.lo) _;rw[show(bA Y).length=(lV<|bA Y).length from(Ã ..).symm];show Jm (x:=.tup (lV<|bA Y)) (xs:=lV (bA Y)) (λ_=>rfl) (λi v g=>∃x5 x6,v=[b3<|SH w h S,b3<|.loc a,b3<|.loc b,b3<|.loc c,b3<|.loc n.length,x5,x6]/\n<+:g/\(∀y∈Y,g[y.2.2]?=b3 (.lst<|y.2.1.map PP))/\g[n.length]?=b3 (.lst []))
  ⟨b4,b4,rfl,p2,λy p=>by rw[ñ<|î (B y p).1];show(I.at_ y p).2,by rw[ñ mm];show aD I.pre<|bE _ _⟩ ?_ ?_
 .rintro i dd v g hd ⟨x5,x6,rfl,G,O,A⟩;obtain⟨y,X,rfl⟩:∃y,Y[i]?=b3 y/\dd=.tup [PP y.1,.loc y.2.2]:=by unfold lV bA at hd;rw[ã,ú]at hd;let⟨y,h1,R⟩:=ţ.mp hd;show⟨y,h1,R.symm⟩
  let E:=Ĵ X;let J:(y.1,y.2.1)∈mE (aY F) (bF w h):=by rw[<- eG];show Ô.mpr ⟨y,E,rfl⟩
  let s:∀e∈y.2.1,e∈bF w h/\aY F e=y.1:=λe o=>u.one J o;let ne:y.2.1.Nodup:=u.nd nR J;let⟨e0,h0⟩:=Ra _<|u.ne _ J;let rp:cK y.1.1 y.1.2=true:=by let⟨h1,R⟩:=s e0 h0;rw[<- R];show uP (wf.di _) (wf.lt _) (fr e0 h1).1
  let⟨s0,s1,N,_,_⟩:=qX rp;let sh:∀e∈y.2.1,_:=λe o=>D7 U wf (s e o).1 (s0:=s0) (s1:=s1) (by rw[(s e o).2];show N);show⟨_,rfl,ë.mpr<|jG ⟨_,rfl,iI A,aQ<|aS rfl<|a1f k wf.di (d.hr.nodup_iff.mpr nd) (pf.nodup_iff.mpr nd) (λq o=>pf.mem_iff.mpr o) ⟨λe o=>⟨(sh e o).1,(sh e o).2.1⟩,λi j e x ij hi hj=>?_⟩ (λe o q T=>d.hr.mem_iff.mpr ?_) (aD (p1.trans G) d.hw) (aD G g1) N (O y E) (Ğ (sm.2 _ J) K) _ λc' μ4 L g4=>⟨_,rfl,(Al (aD L A) g4<|ĵ _).mpr ⟨_,_,rfl,cZ (G.trans L) (Ø _) _,λy' p=>?_,cU<|aD L A⟩⟩⟩⟩
  .let m1:=Ĵ hi;let m2:=Ĵ hj;show nx e (s e m1).1 x (s x m2).1 (λz=>?_) ((s e m1).2.trans (s x m2).2.symm) s0 s1 (by rw[(s e m1).2];show N);let⟨l1,e1⟩:=â.mp hi;let⟨K,e2⟩:=â.mp hj;show û ij<|(N8 ne).mp<|e1.trans<|z.trans e2.symm
  .let⟨r1,qa,qb,_⟩:=fr e (s e o).1;rcases AW r1 T with rfl|rfl
   .show qa
   .show qb
  .rw[ñ<|î (B y' p).2];show aD L<|O y' p
 .rintro v g ⟨x5,x6,rfl,G,O,A⟩;show⟨rfl,cJ<|aS rfl<|hG (r:=(D.non,g)) (by dsimp[t8,A])<|H _<|p1.trans G⟩
abbrev Kp(l:Nat)(a μ':Hm):Prop:=∀j y,j≠l->a[j]?=b3 y->μ'[j]?=b3 y
def Kp.pre{a μ':Hm}(p:a<+:μ'):Kp l a μ':=λ_ x x h=>aD p h
def Kp.trans(a:Kp l d μ')(b:Kp l μ' c):Kp l d c:=λj y n h=>b j y n<|a j y n h
def Kp.set:Kp l a (a.set l x):=λj y n h=>by rw[ñ<|î n];show h
def Kp.all{b:Hm}(a:Kp l c μ')(p:b<+:c)(h:b.length<=l):b<+:μ':=by show List.prefix_iff_getElem?.mpr λi hi=>?_;show a i _ ()<|aD p<|ü hi
def LK(g:a e d=b3 (.int x,d))(h:b e d=b3 (.int y,d))(hc:c e d=b3 (.int z,d)):kR gM gM a b c e d=b3 (.bl<|decide (x<y)&&decide (y<z),d):=eD<|ŗ.mpr ⟨_,g,_,h,ı.mpr<|by
 change if _ then _ else _
 cases decide (x<y)with
 |true=>show(if_pos rfl).mpr ⟨_,hc,ı.mpr rfl⟩
 |false=>show(if_neg ô).mpr rfl⟩
def uT{g:MF}{ds:List D}(h:a c b=b3 (ds,μ'))(e:g ds μ'=b3 r):bJ g a c b=b3 r:=eD<|aS h ⟨_,e,rfl⟩
def AZ(e:o=fin (aM m b a))(h:m b a=b3 r):o=b3 r:=eD<|Ï e<|cJ ⟨_,h,rfl⟩
def LL k i a:f (k+1) "is_whole" [.int i] a=b3 (.bl dI,a):=(Dq k _ a).trans ""
abbrev cY(a:List ((Int×Int)×Str)):jx:=a.map λm=>(aV m.1,.str m.2)
def a1i(h:p∉a.map (·.1)):a9 (cY a) (aV p)=none:=by
 ext a9;rw[Y0.mpr]
 .rfl
 .intro x b;let⟨z,c,rfl⟩:=Ô.mp b;rw[decide_eq_true_iff];show λe=>h<|kW e▸Ô.mpr ⟨z,c,rfl⟩
def LM(h:m.1∉a.map (·.1)):cD (cY a) (aV m.1) (.str m.2)=cY (a++[m]):=by ext cD;rw[a1i h,if_neg ∅];ext cY;rw[þ];rfl
noncomputable abbrev Ed:=Int×Int
noncomputable abbrev St:=Ed×Ed×Bool×Ed
abbrev iZ(s:St):St:=(s.2.1,s.1,s.2.2.1,s.2.2.2)
abbrev dB(T:List St)(e:Ed):List St:=T.flatMap λt=>(if t.1=e then[t]else[])++if t.2.1=e then[iZ t]else[]
def Ļ:s∈dB T e↔s.1=e/\(s∈T\/iZ s∈T):=by
 ext dB;rw[jb];constructor
 .rintro⟨t,b,a⟩;rcases Ħ.mp a with a|a
  .by_cases h:t.1=e
   .rw[if_pos h]at a;rw[Ē.mp a];show⟨h,.inl b⟩
   .rw[if_neg h]at a;ext a
  .by_cases h:t.2.1=e
   .rw[if_pos h]at a;rw[Ē.mp a];show⟨h,.inr b⟩
   .rw[if_neg h]at a;ext a
 .rintro⟨h,a|a⟩
  .show⟨s,a,Ħ.mpr<|.inl<|by rw[if_pos h];show .head _⟩
  .show⟨iZ s,a,Ħ.mpr<|.inr<|by rw[if_pos<|show(iZ s).2.1=e from h];show .head _⟩
inductive Rc (T:List St)(M:List Ed):List (Ed×Option St)->Prop
 |st:Rc T M<|M.map λe=>(e,b4)
 |sn {R:List (Ed×Option St)}{s:St}(h:Rc T M R)(hs:s∈dB T s.1)(h1:s.1∈R.map (·.1))(h2:s.2.1∉R.map (·.1)):Rc T M<|R++[(s.2.1,b3 s)]
def A2(M:List Ed):(M.map λe=>(e,(b4:Option St))).map (·.1)=M:=by rw[ã];show OE _
def Rc.nd(c:M.Nodup)(h:Rc T M R):(R.map (·.1)).Nodup:=by
 induction h with
 |st=>rw[A2];show c|sn h i h1 b g=>rw[þ];show Ϻ.mpr ⟨g,Ŏ.mpr ⟨ϕ,.nil⟩,λx a y d e=>b ?_⟩;have:y=_:=Ē.mp d;rw[e,this]at a;show a
def Rc.up(h:Rc T M R):∀e o,(e,o)∈R->match o with|none=>e∈M|some s=>s.2.1=e/\s∈dB T s.1/\s.1∈R.map (·.1)/\(R.map (·.1)).idxOf s.1<(R.map (·.1)).idxOf e:=by
 induction h with
 |st=>intro e o h;let⟨x,p,i⟩:=Ô.mp h;ext i;show p|@sn R s h n h1 j q=>
  intro e o g;rw[þ];rcases Ħ.mp g with g|g
  .have:=q e o g;let k:e∈R.map (·.1):=Ô.mpr ⟨_,g,rfl⟩;cases o with
   |none=>show this|some t=>let⟨a,b,c,d⟩:=this;show⟨a,b,Ħ.mpr<|.inl c,?_⟩;rw[ND,ND,if_pos c,if_pos k];show d
  .cases Ē.mp g;show⟨rfl,n,Ħ.mpr<|.inl h1,?_⟩;rw[ND,ND,if_pos h1,if_neg j];have:=RX.mpr h1;lia
inductive Wy (T:List St):Ed->List St->Ed->Prop
 |nil (e:Ed):Wy T e [] e
 |cons {s:St}{w:List St}{e:Ed}(hs:s∈dB T s.1)(h:Wy T s.2.1 w e):Wy T s.1 (s::w) e
abbrev jP(w:List St):Nat:=(w.filter λs=>!s.2.2.1).length
abbrev qZ(b:Bool):Int:=if b then 0 else 1
inductive Cn (T:List St):Ed->Ed->Prop
 |rf (e:Ed):Cn T e e
 |go {e:Ed}{s:St}(h:Cn T e s.1)(hs:s∈dB T s.1):Cn T e s.2.1
def Cn.tr(h:Cn T a b)(g:Cn T b c):Cn T a c:=by
 induction g with
 |rf=>show h|go g d e=>show .go e d
def LN(h:s∈dB T s.1):iZ s∈dB T (iZ s).1:=Ļ.mpr ⟨rfl,(Ļ.mp h).2.symm.imp id id⟩
def Cn.sy(h:Cn T a b):Cn T b a:=by
 induction h with
 |rf=>show .rf _|@go s h c d=>show Cn.tr (.go (s:=iZ s) (.rf _)<|LN c) d
def Cn.cl{R:List Ed}(hc:∀e∈R,∀s∈dB T e,s.2.1∈R)(h:Cn T a b)(c:a∈R):b∈R:=by
 induction h with
 |rf=>show c|go h d g=>show hc _ g _ d
def Wy.cn(h:Wy T m w e):Cn T m e:=by
 induction h with
 |nil=>show .rf _|@cons s w e a h b=>show Cn.tr (.go (.rf _) a) b
abbrev cG(s:St):D:=.tup [PP s.1,PP s.2.1,.bl s.2.2.1,PP s.2.2.2]
def a1j kvs k k' d:a9 (kvs.map λp=>if p.1=k then(p.1,d)else p) k'=if k'=k then(a9 kvs k').map λ_=>d else a9 kvs k':=by
 induction kvs with
 |nil=>split<;>rfl|cons x e b=>
  unfold a9 at b ⊢;rw[ó,ű,ű];let c:(if x.1=k then(x.1,d)else x).1=x.1:=by split<;>rfl
  rw[c];by_cases h:x.1=k'
  .rw[decide_eq_true h];by_cases a:x.1=k
   .rw[if_pos a,if_pos<|h.symm.trans a];rfl
   .rw[if_neg a,if_neg λz=>a<|h.trans z]
  .rw[decide_eq_false h];show b
def Eg kvs k k' d:a9 (cD kvs k d) k'=if k'=k then b3 d else a9 kvs k':=by
 ext cD;by_cases h:(a9 kvs k).isSome=dI
 .rw[if_pos h,a1j];by_cases e:k'=k
  .rw[if_pos e,if_pos e,e];let⟨v,b⟩:=SA.mp h;rw[b];rfl
  .rw[if_neg e,if_neg e]
 .rw[if_neg h];let a:kvs.find? (λp=>decide<|p.1=k)=none:=by
   unfold a9 at h;cases z:kvs.find? (λp=>decide<|p.1=k)with
   |none=>rfl|some v=>rw[z]at h;show absurd rfl h
  ext a9;rw[RN];by_cases e:k'=k
  .rw[if_pos e,e,a];simp
  .rw[if_neg e];cases kvs.find? (λp=>decide<|p.1=k')with
   |some v=>rfl|none=>rw[ű,decide_eq_false λz=>e z.symm];rfl
def LO kvs k d:(cD kvs k d).length<=kvs.length+1:=by
 ext cD;split
 .rw[Ã];lia
 .rw[ă];show Ø _
structure SD(ν:Hm)(κ:Nat)(μ:Hm)(a:Nat)(kvs:jx)(F:Ed->List St):Prop where
 pre:ν<+:μ
 la:ν.length<=a/\ν.length<=κ/\κ<=μ.length
 dic:μ[a]?=b3 (.dT kvs)
 no:∀e,a9 kvs (aV e)=b4->F e=[]
 ats:∀e d,a9 kvs (aV e)=b3 d->∃l,d=.loc l/\κ<=l/\μ[l]?=b3 (.lst<|(F e).map cG)
 inj:∀e e' d,a9 kvs (aV e)=b3 d->a9 kvs (aV e')=b3 d->e=e'
def SD.more{μ':Hm}(h:SD ν κ μ a kvs F)(p:μ<+:μ'):SD ν κ μ' a kvs F:=⟨h.pre.trans p,⟨h.la.1,h.la.2.1,Ğ h.la.2.2 p.length_le⟩,aD p h.dic,h.no,λe d z=>(h.ats e d z).imp λl ⟨x,y,g⟩=>⟨x,y,aD p g⟩,h.inj⟩
abbrev mH(F:Ed->List St)(s:St):Ed->List St:=λx=>if x=s.1 then F x++[s]else F x
def SD.ne(h:SD ν κ μ a kvs F)(g:μ[l]?=b3 (.lst xs)):l≠a:=λz=>by have:=h.dic;rw[<- z,g]at this;ext this
def SD.old(h:SD ν κ μ a kvs F)(c:a9 kvs (aV s.1)=b3 (.loc l)):SD ν κ (μ.set l<|.lst<|(F s.1).map cG++[cG s]) a kvs (mH F s):=by
 let⟨p,e,j,g⟩:=h.ats _ _ c;ext e;show⟨cZ h.pre (Ğ h.la.2.1 j) _,⟨h.la.1,h.la.2.1,by rw[Ÿ];show h.la.2.2⟩,by rw[ñ<|h.ne g];show h.dic,λe b=>?_,λe d b=>?_,h.inj⟩
 .ext mH;rw[if_neg λz=>by rw[z,c]at b;ext b];show h.no e b
 .ext mH;by_cases z:e=s.1
  .rw[if_pos z];rw[z,c]at b;ext b;show⟨l,rfl,j,by rw[cU g,z,þ];rfl⟩
  .rw[if_neg z];let⟨k,i,o,n⟩:=h.ats _ _ b;show⟨k,i,o,?_⟩;rw[ñ λy:l=k=>z<|h.inj _ _ _ (by rw[b,i,y]) c];show n
def SD.new(h:SD ν κ μ a kvs F)(u:a9 kvs (aV s.1)=b4):SD ν κ (((μ++[C.lst []]).set a<|.dT<|cD kvs (aV s.1)<|.loc μ.length).set μ.length<|.lst [cG s]) a (cD kvs (aV s.1)<|.loc μ.length) (mH F s):=by
 let i:=aR μ<|C.lst [];let lt:a<μ.length:=(â.mp h.dic).1;let o:=h.pre.length_le;let A:=bE μ<|C.lst [];show⟨cZ (cZ (h.pre.trans i) h.la.1 _) o _,⟨h.la.1,h.la.2.1,by rw[Ÿ,Ÿ];show Ğ h.la.2.2 i.length_le⟩,?_,λe b=>?_,λe d b=>?_,λe p d b c=>?_⟩
 .rw[ñ (),cU<|aD i h.dic]
 .rw[Eg]at b;by_cases z:aV e=aV s.1
  .rw[if_pos z]at b;ext b
  .rw[if_neg z]at b;ext mH;rw[if_neg λy=>z<|congrArg aV y];show h.no e b
 .rw[Eg]at b;ext mH;by_cases z:aV e=aV s.1
  .rw[if_pos z]at b;ext b;rw[if_pos<|kW z];show⟨_,rfl,h.la.2.2,?_⟩;rw[Ϥ<|by rw[Ÿ,ă];show Ϧ _,kW z,h.no _ u];rfl
  .rw[if_neg z]at b;rw[if_neg λy=>z<|congrArg aV y];let⟨n,k,q,g⟩:=h.ats _ _ b;show⟨n,k,q,?_⟩;let w:n<μ.length:=(â.mp g).1;rw[ñ (),ñ<|î<|h.ne g];show aD i g
 .let fresh:∀x,a9 kvs (aV x)≠b3 (.loc μ.length):=λx v=>by let⟨n,k,_,g⟩:=h.ats _ _ v;ext k;show absurd (â.mp g).1<|ε _
  rw[Eg]at b c;by_cases z:aV e=aV s.1<;>by_cases j:aV p=aV s.1
  .show(kW z).trans (kW j).symm
  .rw[if_pos z]at b;rw[if_neg j]at c;ext b;show absurd c<|fresh _
  .rw[if_neg z]at b;rw[if_pos j]at c;ext c;show absurd b<|fresh _
  .rw[if_neg z]at b;rw[if_neg j]at c;show h.inj _ _ _ b c
def A3{kvs:jx}{f:D->List D->Hm->jk}{Q:jz}(e:c b μ=b3 (.loc a,μ))(hc:μ[a]?=b3 (.dT kvs))(h:W (d b μ) λq=>W (f (.loc a) q.1 q.2) Q):W (fU f c d b μ) Q:=by ext fU;rw[e,Đ,show qF μ (.loc a)=dI by dsimp[qF,hc]];show Ä.mpr h
def LP(hi:∀μ,aE i n μ=b3 (.loc a,μ))(h1:∀μ,p n μ=b3 (PP s.1,μ))(w:∀μ,q n μ=b3 (cG s,μ))(J:SD ν κ μ a kvs F)(z:(F s.1).length<=3000)(A:kvs.length<=3000)(H:∀μ' h,SD ν κ μ' a h (mH F s)->h.length<=kvs.length+1->(∀b c,b<κ->b≠a->μ[b]?=b3 c->μ'[b]?=b3 c)->R (.nx,n,μ')):
  W (dX (eB eZ (fU jY (aE i)<|aB p<|aB (cR aG) aG)<|aB q aG) n μ) R:=by
 let j:=aR μ<|C.lst [];let lt:a<μ.length:=(â.mp J.dic).1;show ë.mpr<|jG<|A3 (hi μ) J.dic<|aQ ⟨_,h1 μ,aQ ⟨_,rfl,_,rfl,?_⟩⟩;let v:=aD j J.dic;cases k:a9 kvs (aV s.1)with
 |some d=>
  let⟨l,rfl,B,g⟩:=J.ats _ _ k;let e:jY (.loc a) [PP s.1,.loc μ.length] (μ++[C.lst []])=b3 (.loc l,μ++[C.lst []]):=by dsimp[jY,v,b9,Đ,k]
  show⟨_,e,iI<|aD j g,aQ ⟨_,w _,_,rfl,(mZ (aD j g)<|by rw[Ã,ï];lia).mpr<|H _ _ ((J.more j).old k) (mL _) λb c y f o=>?_⟩⟩;rw[ñ ()];show aD j o
 |none=>
  let e:jY (.loc a) [PP s.1,.loc μ.length] (μ++[C.lst []])=b3 (.loc μ.length,(μ++[C.lst []]).set a<|.dT<|cD kvs (aV s.1)<|.loc μ.length):=by dsimp[jY,v,b9,Đ,k];rw[if_pos<|by rw[ï];lia]
  let u:((μ++[C.lst []]).set a<|.dT<|cD kvs (aV s.1)<|.loc μ.length)[μ.length]?=b3 (.lst []):=by rw[ñ ()];show bE _ _
  show⟨_,e,iI u,aQ ⟨_,w _,_,rfl,(mZ u ⋯).mpr<|H _ _ (J.new k) (LO _ _ _) λb c y x o=>?_⟩⟩;have:=J.la.2.2;rw[ñ (),ñ<|î x];show aD j o
abbrev Eh(l:List Int):Ed:=(l.getD 0 0,l.getD 1 0)
abbrev a1k(t:Ti):St:=(Eh t.1,Eh t.2.1,t.2.2.1,Eh t.2.2.2)
def LQ{a:Type}{l:List a}(h:i<l.length)d:l.getD i d∈l:=by rw[ψ,ü h];show j0 h
open _root_ in
def LR(b:t∈j9 m w h):∃p q a c,t=oC p q a c/\m p=dI/\m q=true:=by
 let⟨c,_,b⟩:=jb.mp b;let d:∀{i:Nat},i<(dN m c).length->m ((dN m c).getD i (0,0))=true:=λhi=>(ģ.mp<|LQ hi (0,0)).2;unfold jO at b;split at b
 .rename_i j;rw[Ē.mp b];show⟨_,_,_,_,rfl,d (),d ()⟩
 .let⟨i,hi,b⟩:=jb.mp b;let hi:=ň.mp hi;let g:0<(dN m c).length:=()
  unfold j8 at b;split at b
  .unfold qV at b;rcases ĉ.mp b with rfl|b
   .show⟨_,_,_,_,rfl,d hi,d<|τ _ g⟩
   .split at b
    .rename_i e;rw[Ē.mp b];show⟨_,_,_,_,rfl,d<|by rw[e];show τ _ ⋯,d<|by rw[e];show τ _ ⋯⟩
    .ext b
  .ext b
def a1l p q:fI p q=p\/fI p q=q:=by
 ext fI;split
 .show .inr rfl
 .show .inl rfl
def a1m p q:fJ p q=p\/fJ p q=q:=by
 ext fJ;split
 .show .inr rfl
 .show .inl rfl
def A4 p q:HT.lexLt (dM p) (dM q)=dI↔p.1<q.1\/p.1=q.1/\p.2<q.2:=by
 ext dM;dsimp[HT.lexLt];by_cases h1:p.1<q.1
 .simp[h1];lia
 .by_cases a:q.1<p.1
  .simp[h1,a];lia
  .have:p.1=q.1:=()
   simp[this];lia
def LS(h:HT.lexLt (dM p) (dM q)=dI):HT.lexLt (dM q) (dM p)=false:=by
 cases z:HT.lexLt (dM q) (dM p)with
 |false=>rfl|true=>have:=(A4 _ _).mp h;have:=(A4 _ _).mp z;lia
def LU(h:HT.lexLt (dM p) (dM q)=b5)(g:HT.lexLt (dM q) (dM p)=b5):p=q:=by let h:¬ _:=λz=>ô<|h.symm.trans<|(A4 p q).mpr z;let g:¬ _:=λz=>ô<|g.symm.trans<|(A4 q p).mpr z;show đ () ()
def a1n p q:fI (fI p q) (fJ p q)=fI p q/\fJ (fI p q) (fJ p q)=fJ p q/\fI (fJ p q) (fI p q)=fI p q/\fJ (fJ p q) (fI p q)=fJ p q:=by
 cases h:HT.lexLt (dM q) (dM p)with
 |true=>dsimp[fI,fJ,h,LS h,if_true,Ň,if_false,and_self]|false=>
  cases g:HT.lexLt (dM p) (dM q)with
  |true=>dsimp[fI,fJ,h,g,if_true,Ň,if_false,and_self]|false=>cases LU g h;dsimp[fI,fJ,h,Ň,if_false,and_self]
abbrev TT(a:List ((Int×Int)×Str))(w h:Int):List St:=(oE<|j9 (bH a) w h).map a1k
def tV(h:t∈oE ts):t∈ts:=by unfold oE at h;let⟨i,hi,rfl⟩:=Ô.mp h;show LQ (ň.mp<|(jV _ _).mem_iff.mp hi) _
def a1o ts:(oE ts).length=ts.length:=by ext oE;rw[Ã,(jV _ _).length_eq,ph]
def Ei(hw:1<=w/\w<=6)(b:1<=h/\h<=6)a:(TT a w h).length<=1000:=by ext TT;rw[Ã,a1o];let h1:=uO (DY<|bH a)<|eE w h;let c:=a1d w (KJ hw) h<|KJ b;ext j9;lia
def LV b w h:(oE<|j9 (bH b) w h).map fG=(TT b w h).map cG:=by ext TT;rw[ã];show Ţ λt d=>?_;let⟨p,q,a,c,rfl,_,_⟩:=LR<|tV d;rfl
def LW(h:bH a p=dI):p∈a.map (·.1):=by let⟨x,b,e⟩:=mY.mp h;rw[<- beq_iff_eq.mp e];show b
def Ej(i:t∈TT b w h):(t.1∈b.map (·.1)/\t.2.1∈b.map (·.1))/\(fI t.1 t.2.1=t.1/\fJ t.1 t.2.1=t.2.1/\fI t.2.1 t.1=t.1/\fJ t.2.1 t.1=t.2.1):=by
 let⟨u,j,rfl⟩:=Ô.mp i;let⟨p,q,a,c,rfl,d,g⟩:=LR<|tV j;let d:=LW d;let g:=LW g;show⟨⟨?_,?_⟩,a1n p q⟩
 .change fI p q∈_;rcases a1l p q with e|e<;>rw[e]<;>assumption
 .change fJ p q∈_;rcases a1m p q with e|e<;>rw[e]<;>assumption
def LX k s a:f (k+1) "walked_back" [cG s] a=b3 (cG<|iZ s,a):=(Yb k _ a).trans ""
def a1p T t:dB (T++[t])=mH (mH (dB T) t) (iZ t):=by
 funext e;ext dB mH;rw[ur,P4,RG,ŉ];change _=if e=t.2.1 then _ else _
 by_cases h1:t.1=e<;>by_cases a:t.2.1=e
 .rw[if_pos h1,if_pos a,if_pos a.symm,if_pos h1.symm,Ϩ]
 .rw[if_pos h1,if_neg a,if_neg<|î a,if_pos h1.symm,ŉ]
 .rw[if_neg h1,if_pos a,if_pos a.symm,if_neg<|î h1,ϥ]
 .rw[if_neg h1,if_neg a,if_neg<|î a,if_neg<|î h1,ŉ,ŉ]
def a1q T e:(dB T e).length<=2*T.length:=by show uO (λt=>?_) T;rw[ă];split<;>split<;>simp
inductive T3 (d0:Option D)(ν:Hm)(κ a b:Nat)(T:List St):Nat->aF->Hm->Prop
 |mk {i:Nat}{kvs:jx}{x:Option D}{μ:Hm}(J:SD ν κ μ a kvs (dB<|T.take i))(hk:kvs.length<=2*i)(gb:μ[b]?=b3 (.lst<|T.map cG)):T3 d0 ν κ a b T i [d0,b3<|.loc a,x] μ
def Ek{T:List St}{i:Nat}(h:(T.map cG)[i]?=b3 d):∃s,T[i]?=b3 s/\cG s=d:=by rw[ú]at h;show ţ.mp h
def LY k(hw:1<=w/\w<=6)(E:1<=h/\h<=6)(O:(eE w h).find? (iK<|bH n)=b4)(Y:oZ (j9 (bH n) w h))c(Q:jz)(H:∀κ μ' a kvs,SD c κ μ' a kvs (dB<|TT n w h)->Q (.loc a,μ')):W (f (k+9) "steps_from" [SH w h n] c) Q:=by
 let N:=Ei hw E n;show Ï (Yc (k+8) _ c)<|bD<|á.mpr<|fX<|É.mpr<|Ó.mpr<|aS rfl<|K0 (k+1) hw E O Y _ _ λb o K v j=>?_;rw[LV]at j;generalize TT n w h=T at N j H;let u:=aD K<|bE c<|C.dT [];let y:b≠c.length:=λz=>by rw[z,u]at j;ext j
 let v:b<o.length:=(â.mp j).1;let lm:c.length<o.length:=(â.mp u).1;show(eI j).mpr<|jF (T3 (b3<|SH w h n) c o.length c.length b T) (.mk (kvs:=[]) ⟨(aR _ _).trans K,⟨Ø _,(),Ø _⟩,u,λ_ l=>rfl,λ_ l z=>(nomatch z),λ_ l l z=>(nomatch z)⟩ (Ø _) j) (by rintro _ _ _ ⟨_,_,g⟩;show g) ?_ ?_
 .rintro i d _ x hd ⟨J,R,B⟩;let⟨t,G,rfl⟩:=Ek hd;let hi:=(â.mp G).1;let A:∀e,(dB (T.take i) e).length<=2000:=λe=>by have:=a1q (T.take i) e;rw[Ι]at this;lia
  show⟨_,rfl,fX<|LP (i:=1) (s:=t) (λ_=>rfl) (λ_=>rfl) (λ_=>rfl) J (Ğ (A _) ⋯) () λZ I L U q=>⟨rfl,LP (i:=1) (s:=iZ t) (λ_=>rfl) (λ_=>rfl) (λμ'=>uT rfl<|LX (k+7) t μ') L ?_ () λμ4 p M X s=>.mk (kvs:=p) ?_ ()<|s _ _ v y<|q _ _ v y B⟩⟩
  .change(mH _ t _).length<=_;ext mH;have:=A (iZ t).1;split
   .rw[ă];change _+1<=_;lia
   .lia
  .rw[jM G,a1p];show M
 .rintro _ x ⟨J,R,B⟩;rw[Ã,Ź]at J;show⟨rfl,cJ ⟨_,rfl,H _ _ _ _ J⟩⟩
abbrev jQ(s:Str):Bool:=(lO wW<|.inr s).isSome
def Em k s a:f (k+1) "is_marked" [.str s] a=b3 (.bl<|jQ s,a):=(Yd k _ a).trans ""
abbrev iD(a:List ((Int×Int)×Str)):List Ed:=(a.filter λm=>jQ m.2).map (·.1)
def LZ k(p:g.length<=1000)(j:Hm)(Q:jz)(H:∀a μ',j<+:μ'->μ'[a]?=b3 (.lst<|(iD g).map PP)->Q (.loc a,μ')):W (f (k+2) "marked_creases" [SH w h g] j) Q:=by
 show Ï (Ye (k+1) _ j)<|cJ<|An (xs:=g.map MD) (x:=λd=>match d with|.tup [a,b]=>[b3 a,b3 b]|_=>[]) (p:=λd=>match d with|.tup [_,.str s]=>jQ s|_=>b5) (v:=λd=>match d with|.tup [a,_]=>a|_=>.non)<|Ó.mpr<|aP rfl rfl<|ū.mpr ⟨_,rfl,λμ' i c=>rfl,rfl,by rw[Ã,ï];lia,λd μ' hd=>?_,λd μ' hd c=>?_,λd μ' hd y c=>?_,λμ' c o=>H _ _ c ?_⟩
 .let⟨e,n,rfl⟩:=Ô.mp hd;rfl
 .let⟨e,n,rfl⟩:=Ô.mp hd;show hJ<|aS rfl<|hG (Em k e.2 μ') ⟨rfl,rfl,č _⟩
 .let⟨e,n,rfl⟩:=Ô.mp hd;show⟨_,rfl,rfl,č _⟩
 .rw[o,zj,ã];ext iD;rw[ã];rfl
abbrev rD:Option St->D
 |none=>.non|some s=>cG s
abbrev c7(R:List (Ed×Option St)):jx:=R.map λr=>(aV r.1,rD r.2)
def a1r R:(c7 R).map (·.1)=(R.map (·.1)).map aV:=by ext c7;rw[ã,ã];rfl
def A5(nd:(R.map (·.1)).Nodup){e:Ed}(h:(e,o)∈R):a9 (c7 R) (aV e)=b3 (rD o):=Az (by rw[a1r];show uq _ (λa b c x=>c<|kW x) nd)<|Ô.mpr ⟨_,h,rfl⟩
def Eo{e:Ed}(h:e∉R.map (·.1)):a9 (c7 R) (aV e)=none:=by
 ext a9;rw[Y0.mpr]
 .rfl
 .intro x a;let⟨z,b,rfl⟩:=Ô.mp a;rw[decide_eq_true_iff];show λy=>h<|kW y▸Ô.mpr ⟨z,b,rfl⟩
def L4{e:Ed}(h:e∉R.map (·.1)):cD (c7 R) (aV e) (rD o)=c7 (R++[(e,o)]):=by ext cD;rw[Eo h,if_neg ∅];ext c7;rw[þ];rfl
abbrev Ep:MS:=bK (a7<|aA (eH dI) (aA bG (aE 6)<|mC<|.int 1)<|aE 2) (aL (eM (aE 2) (aA bG (aE 6)<|mC<|.int 1)<|aE 6)<|dX<|eB eZ (aE 4)<|aB (aA bG (aE 6)<|mC<|.int 1) aG) bV
abbrev uU(st a r:Nat)(x:Option D)(q:Nat)(h s:Option D):aF:=[b3<|.loc st,b3<|.loc a,b3<|.loc r,x,b3<|.loc q,h,s]
inductive wj (T:List St)(M U:List Ed)(μ0:Hm)(r q n:Nat)(R:List (Ed×Option St))(μ:Hm):Prop
 |mk (rc:Rc T M R)(hC:∀e∈R.map (·.1),e∈U)(p:μ0<+:μ)(hr:μ0.length<=r)(hq:μ0.length<=q)(gr:μ[r]?=b3 (.dT<|c7 R))(gq:μ[q]?=b3 (.lst<|((R.drop n).map (·.1)).map PP))
def a1s(hM:M.Nodup)(hC:U.length<=600)(K:∀t∈T,t.1∈U/\t.2.1∈U)(hn:n<=R.length)(J:wj T M U μ0 r q n R k)(L:s∈dB T s.1)(h1:s.1∈R.map (·.1))(H:∀v d,(∃l,v=R++l)->wj T M U μ0 r q n v d->s.2.1∈v.map (·.1)->(∀b c,b≠r->b≠q->k[b]?=b3 c->d[b]?=b3 c)->Q (.nx,uU st X r x q h<|b3<|cG s,d)):W (Ep (uU st X r x q h<|b3<|cG s) k) Q:=by
 let⟨G,E,p,A,y,i,u⟩:=J;let nd:=G.nd hM;let rl:R.length<=600:=by have:=M2 nd E;rw[Ã]at this;lia
 let O:q≠r:=λz=>by rw[z,i]at u;ext u
 show Ò.mpr<|c5<|aP rfl rfl<|(uH i<|b9 s.2.1).mpr ⟨_,rfl,?_⟩;by_cases j:s.2.1∈R.map (·.1)
 .obtain⟨⟨e,o⟩,a,N⟩:=Ô.mp j;dsimp at N;subst N;rw[A5 nd a];show(if_neg ô).mpr<|Î.mpr<|H R k ⟨[],(ŉ _).symm⟩ ⟨G,E,p,A,y,i,u⟩ j λ_ f f f g=>g
 .rw[Eo j];show(if_pos rfl).mpr (Ç.mpr<|Ć.mpr ⟨_,rfl,_,rfl,_,rfl,(l7 i (b9 s.2.1)<|by ext c7;rw[Ã,ï];lia).mpr ?_⟩);let w:(k.set r<|.dT<|cD (c7 R) (aV s.2.1)<|cG s)[q]?=b3 (.lst<|((R.drop n).map (·.1)).map PP):=by rw[ñ<|î O];show u
  show ë.mpr (jG ⟨_,rfl,iI w,_,rfl,(mZ w<|by rw[Ã,Ã,uw,ï];lia).mpr ?_⟩);let I:=Rc.sn G L h1 j;show H (R++[(s.2.1,b3 s)]) _ ⟨_,rfl⟩ ⟨I,λe a=>?_,cZ (cZ p A _) y _,A,y,?_,?_⟩ (by rw[þ];show Ħ.mpr<|.inr<|.head _) λb c Y Z g=>?_
  .rw[þ]at a;rcases Ħ.mp a with a|a
   .show E e a
   .rw[Ē.mp a];rcases(Ļ.mp L).2 with B|B
    .show(K _ B).2
    .show(K _ B).1
  .rw[ñ O,cU i];show congrArg (λz=>b3<|C.dT z)<|L4 (o:=b3 s) j
  .rw[cU w,List.drop_append_of_le_length hn,þ,þ];rfl
  .rw[ñ<|î Z,ñ<|î Y];show g
inductive T8 (T:List St)(M U:List Ed)(μ0:Hm)(st ss r q n l:Nat)(h:Option D)(e:Ed)(R:List (Ed×Option St)):Nat->aF->Hm->Prop
 |mk {i:Nat}{x s:Option D}{R':List (Ed×Option St)}{μ:Hm}(J:wj T M U μ0 r q (n+1) R' μ)(ex:∃l,R'=R++l)(cl:∀t∈(dB T e).take i,t.2.1∈R'.map (·.1))(gl:μ[l]?=b3 (.lst<|(dB T e).map cG)):T8 T M U μ0 st ss r q n l h e R i (uU st ss r x q h s) μ
inductive Nf (T:List St)(M U:List Ed)(μ0:Hm)(st ss r q:Nat):Nat->aF->Hm->Prop
 |mk {m n:Nat}{x h s:Option D}{R:List (Ed×Option St)}{μ:Hm}(J:wj T M U μ0 r q n R μ)(hm:m+n=1700)(hn:n<=R.length)(cl:∀e∈(R.take n).map (·.1),∀t∈dB T e,t.2.1∈R.map (·.1)):Nf T M U μ0 st ss r q m (uU st ss r x q h s) μ
abbrev L5:MS:=aL (fR 5<|eB pZ (aE 4)<|aB (mC<|.int 0) aG)<|cA (cS<|fU fV (aE 0)<|aB (aE 5)<|aB (cR aG) aG) (cL 6) Ep
def a1t{Q:jz}(h:b[a]?=b3 (.lst xs))(h0:0<=i/\i<1000)(hi:xs[i.toNat]?=b3 d):W (pZ (.loc a) [.int i] b) Q↔Q (d,b.set a<|.lst<|xs.eraseIdx i.toNat):=by
 let e:pZ (.loc a) [.int i] b=b3 (d,b.set a<|.lst<|xs.eraseIdx i.toNat):=by dsimp[pZ,h];rw[if_pos (),hi];rfl
 rw[e];show À
def a1u(hM:M.Nodup)(hU:U.length<=600)(hT:∀t∈T,t.1∈U/\t.2.1∈U)(hl:T.length<=1000)(S:SD ν κ μ0 st kvs (dB T))(J:wj T M U μ0 r q n R I)(hm:m+n=1700)(Q:n<R.length)(cl:∀e∈(R.take n).map (·.1),∀t∈dB T e,t.2.1∈R.map (·.1)):
  W (L5 (uU st H r x q h s) I) λp=>p.1=.nx/\∃G,G<m/\Nf T M U μ0 st H r q G p.2.1 p.2.2:=by
 let⟨rc,rC,p,hr,hq,gr,o⟩:=J;let nd:=rc.nd hM;let rl:R.length<=600:=by have:=M2 nd rC;rw[Ã]at this;lia
 let rq:q≠r:=λz=>by rw[z,gr]at o;ext o
 rw[Nb Q,ó,ó]at o;let B:R[n]∈R:=j0 Q;let E:R.take (n+1)=R.take n++[R[n]]:=by rw[ni,ü Q];rfl
 generalize R[n]=en at o B E;show bD (jG ⟨_,rfl,iI o,_,rfl,(a1t o () rfl).mpr ?_⟩);let v:=cU (c':=C.lst (((R.drop<|n+1).map (·.1)).map PP)) o;let w:(I.set q<|C.lst<|((R.drop<|n+1).map (·.1)).map PP)[r]?=b3 (.dT<|c7 R):=by rw[ñ rq];show gr
 let N:=cZ (c:=C.lst (((R.drop<|n+1).map (·.1)).map PP)) p hq;change W (cA _ _ _ _<|I.set q<|C.lst<|((R.drop<|n+1).map (·.1)).map PP) _;generalize I.set q (C.lst<|((R.drop<|n+1).map (·.1)).map PP)=μ1 at v w N ⊢;let K:=S.more N;let he:en.1∈R.map (·.1):=Ô.mpr ⟨_,B,rfl⟩;let k:∀l j,μ1<+:j->l≠r->l≠q->j[l]?=b3 (.lst<|(dB T en.1).map cG)->W (fS (dE<|.loc l) (cL 6) Ep (((dB T en.1).map cG).length+1) 0 (uU st H r x q (b3<|PP en.1) s) j) λp=>p.1=.nx/\∃G,G<m/\Nf T M U μ0 st H r q G p.2.1 p.2.2:=λl j c l1 l2 gl=>by
  show jF (T8 T M U μ0 st H r q n l (b3<|PP en.1) en.1 R) (.mk (R':=R) ⟨rc,rC,N.trans c,hr,hq,aD c w,aD c v⟩ ⟨[],(ŉ _).symm⟩ (λ_ z=>by rw[nj]at z;ext z) gl) (by rintro _ _ _ ⟨_,_,_,g⟩;show g) ?_ ?_
  .rintro i d _ Y hd ⟨J,⟨l',rfl⟩,b,g⟩;let⟨t,y,rfl⟩:=Ek hd;let hf:=Ĵ y;let Z:=(Ļ.mp hf).1;show⟨_,rfl,a1s hM hU hT (by rw[ă];lia) J (by rw[Z];show hf) (by rw[Z,þ];show Ħ.mpr<|.inl he) λR' μ' ⟨X,e2⟩ J' hs fr=>.mk J' ⟨l'++X,by rw[e2,Ϩ]⟩ (λu A=>?_)<|fr _ _ l1 l2 g⟩;rw[jM y]at A;rcases Ħ.mp A with A|A
   .rw[e2,þ];show Ħ.mpr<|.inl<|b u A
   .rw[Ē.mp A];show hs
  .rintro _ Y ⟨J,⟨l',rfl⟩,b,g⟩;rw[Ã,Ź]at b;show⟨rfl,m-1,(),.mk (n:=n+1) J () (by rw[ă];lia) λe a t y=>?_⟩;rw[List.take_append_of_le_length (),E,þ]at a;rcases Ħ.mp a with a|a
   .rw[þ];show Ħ.mpr<|.inl<|cl e a t y
   .rw[Ē.mp a]at y;show b t y
 let lr:=K.dic;show É.mpr<|Ó.mpr<|A3 (a:=st) rfl K.dic<|aQ ⟨_,rfl,aQ ⟨_,rfl,_,rfl,?_⟩⟩;let c:=aR μ1<|C.lst [];cases L:a9 kvs (aV en.1)with
 |some d=>
  let⟨l,rfl,_,g0⟩:=S.ats _ _ L;let l0:l<μ0.length:=(â.mp g0).1;let O:fV (.loc st) [PP en.1,.loc μ1.length] (μ1++[C.lst []])=b3 (.loc l,μ1++[C.lst []]):=by dsimp[fV,aD c K.dic,b9,Ĕ,L,Qy]
  let gl:=aD (N.trans c) g0;show⟨_,O,(eI gl).mpr<|k l _ c () () gl⟩
 |none=>
  let O:fV (.loc st) [PP en.1,.loc μ1.length] (μ1++[C.lst []])=b3 (.loc μ1.length,μ1++[C.lst []]):=by dsimp[fV,aD c K.dic,b9,Ĕ,L,NA]
  let gl:(μ1++[C.lst []])[μ1.length]?=b3 (.lst<|(dB T en.1).map cG):=by rw[S.no _ L];show bE _ _
  let b1:r<μ1.length:=(â.mp w).1;let b2:q<μ1.length:=(â.mp v).1;show⟨_,O,(eI gl).mpr<|k _ _ c () () gl⟩
inductive T9 (d0 d1:Option D)(ν:Hm)(r:Nat)(M:List Ed):Nat->aF->Hm->Prop
 |mk {i:Nat}{x:Option D}{μ:Hm}(p:ν<+:μ)(g:μ[r]?=b3 (.dT<|c7<|(M.take i).map λe=>(e,b4))):T9 d0 d1 ν r M i [d0,d1,b3<|.loc r,x,b4,b4,b4] μ
inductive qj (T:List St)(M U:List Ed)(R:List (Ed×Option St)):Prop
 |mk (rc:Rc T M R)(hU:∀e∈R.map (·.1),e∈U)(cl:∀e∈R.map (·.1),∀t∈dB T e,t.2.1∈R.map (·.1))
open _root_ in
def Er k(u:M.Nodup)(B:U.length<=600)(K:∀e∈M,e∈U)(hT:∀t∈T,t.1∈U/\t.2.1∈U)(hl:T.length<=1000)(S:SD ν κ a st kvs (dB T))(q:a[j]?=b3 (.lst<|M.map PP))(Q:jz)(H:∀r c R,a<+:c->a.length<=r->c[r]?=b3 (.dT<|c7 R)->qj T M U R->Q (.loc r,c)):W (f (k+1) "last_steps" [.loc st,.loc j] a) Q:=by
 let ml:M.length<=600:=Ğ (M2 u K) B;let L:=aR a<|C.dT [];show Ï (Yg k _ _ a)<|bD<|á.mpr<|fX<|É.mpr<|Ó.mpr ⟨_,rfl,(eI<|aD L q).mpr ?_⟩;show jF (T9 (b3<|.loc st) (b3<|.loc j) a a.length M) (.mk L<|by rw[nj];show bE _ _) (by rintro _ _ _ ⟨p,_⟩;show aD p q) ?_ ?_
 .rintro i d _ b hd ⟨p,g⟩;let⟨z,I,rfl⟩:=nE hd;show⟨_,rfl,Ć.mpr ⟨_,rfl,_,rfl,_,rfl,(l7 g (b9 z)<|by ext c7;rw[Ã,Ã,Ι,ï];lia).mpr<|.mk (cZ p (Ø _) _) ?_⟩⟩;rw[cU g,jM I,þ];show congrArg (λy=>b3<|C.dT y)<|L4 (o:=b4)<|by rw[A2];show qT u I
 .rintro _ b ⟨p,g⟩;rw[Ã,Ź]at g;show⟨rfl,bD<|aS rfl<|(Xm<|aD p q).mpr<|fX ?_⟩;let N:=aR b<|C.lst<|M.map PP;let J:wj T M U a a.length b.length 0 (M.map λe=>(e,b4)) (b++[C.lst<|M.map PP]):=⟨.st,by rw[A2];show K,p.trans N,Ø _,p.length_le,aD N g,by rw[Oa,A2];show bE _ _⟩;show Le (b:=L5) (Nf T M U a st j a.length b.length) 1700 ⋯ (.mk (n:=0) J rfl (ĵ _) λe E=>by rw[nj]at E;ext E) ?_;rintro m _ v ⟨J,hm,hn,cl⟩;rename_i n x h s R;let⟨Y,X,O,hr,hq,A,w⟩:=J;let Z:nO v (.loc b.length)=b3 (!(((R.drop n).map (·.1)).map PP).isEmpty):=by dsimp[nO,w]
  show Ĺ.mpr ⟨_,rfl,_,Z,?_⟩;by_cases hd:n<R.length
  .let o:(((R.drop n).map (·.1)).map PP).isEmpty=false:=by rw[Nb hd];rfl
   rw[o];show(if_pos rfl).mpr<|bP (a1u u B hT hl S ⟨Y,X,O,hr,hq,A,w⟩ hm hd cl) λp G=>?_;rw[G.1];show G.2
  .let o:(((R.drop n).map (·.1)).map PP).isEmpty=true:=by rw[List.drop_eq_nil_of_le ()];rfl
   rw[o];rw[jd ()]at cl;show(if_neg ô).mpr ⟨rfl,cJ ⟨_,rfl,H _ _ R O (Ø _) A ⟨Y,X,cl⟩⟩⟩
abbrev Es(T:List St)(q:Ed->Int):Prop:=∀t∈T,(q t.1+q t.2.1+qZ t.2.2.1)%2=0
def a1v a b:jP (a++b)=jP a+jP b:=by ext jP;rw[ϣ,ă]
def a1w s:(jP [s]:Int)=qZ s.2.2.1:=by ext jP qZ;rw[iz];cases s.2.2.1<;>rfl
def Wy.app(h:Wy T a v b)(g:Wy T b w c):Wy T a (v++w) c:=by
 induction h with
 |nil=>show g|cons d h e=>show .cons d<|e g
def Wy.one(h:s∈dB T s.1):Wy T s.1 [s] s.2.1:=.cons h<|.nil _
def Wy.bk(h:Wy T a w b):Wy T b (w.reverse.map iZ) a:=by
 induction h with
 |nil=>show .nil _|@cons s w e c h d=>rw[zb,þ];show d.app<|.one (s:=iZ s)<|LN c
def Rc.m(h:Rc T M R):∀e∈M,(e,b4)∈R:=by
 induction h with
 |st=>show λe a=>Ô.mpr ⟨e,a,rfl⟩|sn h d h1 c b=>show λe a=>Ħ.mpr<|.inl<|b e a
def Et(h:Dc b a kvs)(c:dR y=b3 k)(e:a9 kvs k=b3 d):bG (.loc a) y b=b3 (d,b):=by rcases h with h|h<;>dsimp[bG,h,c,Đ,e,Ĕ]
def Dc.set(I:Dc d a kvs)(h:b≠a):Dc (d.set b c) a kvs:=I.elim (λe=>.inl<|by rw[ñ h];show e) λe=>.inr<|by rw[ñ h];show e
def Dc.lt{b:Hm}{a:Nat}{kvs:jx}(I:Dc b a kvs):a<b.length:=I.elim (λe=>(â.mp e).1) λe=>(â.mp e).1
inductive PZ (T:List St)(M:List Ed)(R:List (Ed×Option St))(ν:Hm)(r l:Nat)(e:Ed):Nat->aF->Hm->Prop
 |mk {m:Nat}{x:Ed}{o:Option St}{acc:List St}{μ:Hm}(p:ν<+:μ)(g:μ[l]?=b3 (.lst<|acc.map cG))(hx:(x,o)∈R)(hw:Wy T x acc.reverse e)(hm:m=(R.map (·.1)).idxOf x)(ha:acc.length+m<=600):PZ T M R ν r l e m [b3<|.loc r,b3<|PP e,b3<|.loc l,b3<|rD o] μ
open _root_ in
def A6 k(E:M.Nodup)(hU:U.length<=600)(G:qj T M U R)(h:Dc a r (c7 R))(q:e∈R.map (·.1))(Q:jz)(H:∀l b w m,a<+:b->b[l]?=b3 (.lst<|w.map cG)->m∈M->Wy T m w e->w.length<=600->True->Q (.loc l,b)):W (f (k+1) "way_by" [.loc r,PP e] a) Q:=by
 let⟨B,rU,cl⟩:=G;let nd:=B.nd E;let rl:R.length<=600:=by have:=M2 nd rU;rw[Ã]at this;lia
 obtain⟨⟨x,o⟩,u,j⟩:=Ô.mp q;dsimp at j;subst j;let A:=aR a<|C.lst [];let ll:r<a.length:=h.lt;show Ï (Yh k _ _ a)<|bD ⟨_,rfl,bD<|aP rfl rfl ⟨_,Et (h.more A) (b9 x)<|A5 nd u,fX ?_⟩⟩;let K:=RX.mpr q;rw[Ã]at K;show Le (PZ T M R a r a.length x) ((R.map (·.1)).idxOf x) () (.mk (acc:=[]) A (bE _ _) u (.nil _) rfl<|by change 0+_<=_;lia) ?_;rintro m _ d ⟨p,g,J,hw,I,ha⟩;rename_i y L c;let up:=B.up _ _ J;cases L with
 |none=>show c5<|aP rfl rfl<|ĕ.mpr ⟨_,rfl,(if_neg ô).mpr ⟨rfl,cJ<|aS rfl<|(Jw g).mpr ?_⟩⟩;rw[<- Ov];show H _ _ _ y (p.trans<|aR _ _) (bE _ _) up hw (by rw[qd];lia) trivial|some s=>
  let⟨O,X,Y,Z⟩:=up;obtain⟨⟨z,N⟩,v,n⟩:=Ô.mp Y;dsimp at n;subst n;show c5 (aP rfl rfl<|ϋ.mpr ⟨_,rfl,(if_pos rfl).mpr<|Ar<|jG ⟨_,rfl,iI g,_,rfl,(mZ g<|by rw[Ã,ï];lia).mpr ?_⟩⟩);let i:Dc (d.set a.length<|.lst<|c.map cG++[cG s]) r (c7 R):=(h.more p).set ();show ċ.mpr (aO ⟨_,rfl,aP rfl rfl ⟨_,rfl,_,Et i (b9 s.1)<|A5 nd v,_,by rw[I];show Z,?_⟩⟩);let key:PZ T M R a r a.length x ((R.map (·.1)).idxOf s.1) [b3<|.loc r,b3<|PP x,b3<|.loc a.length,b3<|rD N] (d.set a.length<|.lst<|(c++[s]).map cG):=by show .mk (cZ p (Ø _) _) (cU g) v ?_ rfl (by rw[ă];change _+1+_<=_;lia);rw[qe];show .cons X<|O▸hw
  rw[þ]at key;show key
abbrev L6:D->Bool
 |.tup [_,_,.bl b,_]=>!b|_=>b5
def Eu k(h:w.length<=3000){a:Hm}(g:a[l]?=b3 (.lst<|w.map cG))(Q:jz)(H:∀μ',a<+:μ'->Q (.bl<|(jP w:Int)%2==0,μ')):W (f (k+1) "is_alike" [.loc l] a) Q:=by
 show Ï (Yi k _ a)<|cJ<|aO<|aO<|dJ<|aQ<|j4 (xs:=w.map cG) (p:=L6) (v:=λd=>d)<|Ó.mpr ⟨_,rfl,(eI g).mpr ⟨mW g,rfl,by rw[Ã,ï];lia,λd μ' hd b=>?_,λd μ' hd x b=>⟨_,rfl,rfl,č _⟩,λμ' b c=>⟨_,rfl,(jH c).mpr ⟨_,rfl,(iH ⋯).mpr ⟨_,rfl,ą.mpr ?_⟩⟩⟩⟩⟩
 .let⟨s,i,rfl⟩:=Ô.mp hd;show sN<|hJ<|aP rfl rfl ⟨_,rfl,rfl,rfl,č _⟩
 .let e:(((w.map cG).filter L6).map λd=>d).length=jP w:=by rw[Ã,zj,Ã];rfl
  rw[e];show H _ b
def L7:∀l ps,((ps++l).map (·.1)).Nodup->(l.map λm=>(aV m.1,D.str m.2)).foldl (λq p=>cD q p.1 p.2) (cY ps)=cY (ps++l)
 |[],ps,_=>by rw[ŉ];rfl
 |m::l,ps,h=>by
  rw[ó,ut];let a:m.1∉ps.map (·.1):=λz=>by rw[þ,ó]at h;show(Ϻ.mp h).2.2 _ z _ (.head _) rfl
  rw[LM a,L7 l (ps++[m])<|by rw[Ϩ];show h,Ϩ];rfl
def L8 k(nd:(a.map (·.1)).Nodup)b:f (k+1) "marks_in" [SH w h a] b=b3 (.loc b.length,b++[.dT<|cY a]):=AZ (JB k _ b)<|eD<|aS rfl<|Ϭ.mpr<|by
 rw[show(a.map λm=>(aV m.1,D.str m.2)).foldl (λq p=>cD q p.1 p.2) []=_ from L7 a [] nd];rfl
def Ew(nd:(c.map (·.1)).Nodup)(h:m∈c):a9 (cY c) (aV m.1)=b3 (.str m.2):=Az (by
 ext cY;rw[ã];have:((c.map (·.1)).map aV).Nodup:=uq _ (λa b d x=>d<|kW x) nd;rw[ã]at this;show this)<|Ô.mpr ⟨_,h,rfl⟩
abbrev A7(s:Str):Str:=if s="h" then "v" else "h"
abbrev uV(n:Nat)(s:Str):Str:=if(n:Int)%2==0 then s else A7 s
def a1x{s:Str}(ok:s="o"\/s="h"\/s="v") (h:jQ s=dI):s="h"\/s="v":=ok.resolve_left λz=>by rw[z]at h;revert h;decide +kernel
def a1y{s:Str}(h:s="h"\/s="v"):lO wW (.inr s)=b3 (.str<|A7 s):=by
 rcases h with rfl|rfl
 .kernel_rfl
 .kernel_rfl
def Wy.hd:Wy T x (s::w) e->x=s.1
 |.cons _ _=>rfl
def Wy.nl:Wy T x [] e->x=e
 |.nil _=>rfl
def Ĳ:x∈iD b↔∃m∈b,jQ m.2=dI/\m.1=x:=by
 ext iD;rw[Ô];constructor
 .rintro⟨m,a,e⟩;show⟨m,(ģ.mp a).1,(ģ.mp a).2,e⟩
 .rintro⟨m,a,c,e⟩;show⟨m,ģ.mpr ⟨a,c⟩,e⟩
def Ex(nd:(a.map (·.1)).Nodup):(iD a).Nodup:=(ig.map _).nodup nd
def a1z k(K:U.length<=600){j:List ((Int×Int)×Str)}(nd:(j.map (·.1)).Nodup)(ok:∀m∈j,m.2="o"\/m.2="h"\/m.2="v")(J:qj T (iD j) U R)(I:Dc g a (cY j))(p:g[r]?=b3 (.dT<|c7 R)){c:Str}(h0:e∉R.map (·.1)->c="o")(h1:∀m∈j,jQ m.2=dI->∀w,Wy T m.1 w e->c=uV (jP w) m.2)(Q:jz)(H:∀μ',g<+:μ'->Q (.str c,μ')):W (f (k+2) "carried_mark" [.loc a,.loc r,PP e] g) Q:=by
 let⟨E,rU,cl⟩:=J;let X:=E.nd<|Ex nd;by_cases b:e∈R.map (·.1)
 .obtain⟨⟨y,o⟩,O,A⟩:=Ô.mp b;dsimp at A;subst A;show Ï (JE (k+1) _ _ _ g) (sL<|c5<|aP rfl rfl<|(uH p<|b9 y).mpr ⟨_,rfl,by rw[A5 X O];rfl,nZ<|bD<|aS rfl<|A6 k (Ex nd) K ⟨E,rU,cl⟩ (.inl p) b _ λl d w x q n N hw L t=>?_⟩);let⟨m,b,B,rfl⟩:=Ĳ.mp N;let h:=h1 m b B w hw;let M:=a1x (ok m b) B;let z:nO d (.loc l)=b3 (!(w.map cG).isEmpty):=by dsimp[nO,n]
  let G:iO (c9<|aE 3) (aA bG (aA bG (aE 3)<|mC<|.int 0)<|mC<|.int 0) (aE 2) [b3<|.loc a,b3<|.loc r,b3<|PP y,b3<|.loc l,b4] d=b3 (PP m.1,d):=by
   cases w with
   |nil=>rw[hw.nl];show eD (ę.mpr<|Ĺ.mpr ⟨_,rfl,_,z,(if_neg ô).mpr ⟨_,rfl,rfl⟩⟩)|cons s w=>rw[hw.hd];show eD<|ę.mpr<|Ĺ.mpr ⟨_,rfl,_,z,(if_pos rfl).mpr<|aO<|aP rfl rfl<|(dY n<|show atI ((s::w).map cG) ((0:Nat):Int)=b3 (cG s)from uM rfl).mpr ⟨_,rfl,_,rfl,rfl⟩⟩
  show bD ⟨_,G,cJ<|ę.mpr<|hJ<|aS rfl<|Eu k (Ğ L ⋯) n _ λY u=>⟨rfl,?_⟩⟩;let v:=Et (I.more<|q.trans u) (b9 m.1)<|Ew nd b;unfold uV at h;cases i:(jP w:Int)%2==0 with
  |true=>rw[i,if_pos rfl]at h;rw[h]at H;show(if_pos rfl).mpr (aP rfl rfl ⟨_,v,H _<|q.trans u⟩)|false=>rw[i,if_neg ô]at h;rw[h]at H;show(if_neg ô).mpr<|jh.mpr<|aP rfl rfl ⟨_,v,_,rfl,_,a1y M,H _<|q.trans u⟩
 .rw[h0 b]at H;show Ï (JE (k+1) _ _ _ g)<|YL<|c5<|aP rfl rfl<|(uH p<|b9 e).mpr ⟨_,rfl,by rw[Eo b];rfl,Dw ⟨_,rfl,H _<|č _⟩⟩
def L9 a:dS (cY a)=(a.map (·.1)).map PP:=by ext dS cY;rw[ã,ã];rfl
def a1A k(hw:1<=w/\w<=6)(n:1<=h/\h<=6)(z:dg c)(u:(eE w h).find? (iK<|bH c)=b4)(y:oZ (j9 (bH c) w h))(h0:∀d,aE 0 p d=b3 (SH w h c,d))(d:Hm)(Q:jz)(H:∀r μ' R,d<+:μ'->μ'[r]?=b3 (.dT<|c7 R)->qj (TT c w h) (iD c) (c.map (·.1)) R->Q (.loc r,μ')):W (bJ (f (k+9) "last_steps") (aB (bJ (f (k+9) "steps_from")<|aB (aE 0) aG)<|aB (bJ (f (k+9) "marked_creases")<|aB (aE 0) aG) aG) p d) Q:=by let⟨J,nd,ok⟩:=z;let I:=Ei hw n c;show dJ (aQ<|dJ<|aQ ⟨_,h0 d,_,rfl,LY k hw n u y _ _ λK i a B S=>aQ<|dJ<|aQ ⟨_,h0 i,_,rfl,LZ (k+7) () _ _ λb G o q=>⟨_,rfl,?_⟩⟩⟩);show Er (k+8) (Ex nd) (by rw[Ã];lia) (λe v=>by let⟨m,x,_,rfl⟩:=Ĳ.mp v;show Ô.mpr ⟨m,x,rfl⟩) (λt A=>(Ej A).1) () (S.more o) q _ λr j R E b s g=>H r j R (S.pre.trans<|o.trans E) s g
def a1B(a:qj T M U R)(h:e∉R.map (·.1)):∀x∈M,¬ Cn T x e:=λx b hc=>by let⟨c,_,cl⟩:=a;show h<|hc.cl cl<|Ô.mpr ⟨_,c.m x b,rfl⟩
def a1C k(hw:1<=w/\w<=6)(G:1<=h/\h<=6)(s:dg b)(A:(eE w h).find? (iK<|bH b)=b4)(I:oZ (j9 (bH b) w h)){dm:Ed->Str}(h0:∀e,(∀x∈iD b,¬ Cn (TT b w h) x e)->e∈b.map (·.1)->dm e="o")(h1:∀e,∀m∈b,jQ m.2=dI->∀y,Wy (TT b w h) m.1 y e->dm e=uV (jP y) m.2)(g:Hm)(Q:jz)(H:∀l μ',g<+:μ'->g.length<=l->μ'[l]?=b3 (.lst<|b.map λm=>MD (m.1,dm m.1))->Q (.loc l,μ')):W (f (k+10) "carried" [SH w h b] g) Q:=by
 show Ï (Yn (k+9) _ g)<|bD<|a1A k hw G s A I (λ_=>rfl) _ _ λr a R u q n=>?_;let⟨N,nd,ok⟩:=s;show bD<|aS rfl<|hG (L8 (k+8) nd a)<|cJ<|Zo (a:=a.length) (kvs:=cY b) rfl (bE _ _) ?_;let O:r<a.length:=(â.mp q).1;let v:(a++[C.dT<|cY b]).set a.length (.dF<|cY b)=a++[.dF<|cY b]:=DF _ _ _;change W (eW _ _ _ _<|(a++[C.dT<|cY b]).set a.length<|.dF<|cY b) _;rw[v];let o:=bE a<|C.dF<|cY b;let j:=aD (aR a<|C.dF<|cY b) q;let p:=u.trans<|aR a<|C.dF<|cY b;let K:(a++[C.dF<|cY b]).length=a.length+1:=by rw[ă];rfl
 generalize a++[C.dF<|cY b]=μ2 at o j p K ⊢;let hit:eT (aE 2) [b3<|SH w h b,b3<|.loc r,b3<|.loc a.length] μ2=b3 (dE<|.tup<|dS<|cY b,(cY b).length+1,μ2):=by change(eT (λ_ g=>b3 (D.loc a.length,g)) [] μ2)=_;dsimp[eT,Đ,o]
 let J:(cY b).length=b.length:=Ã ..;show j4 (xs:=dS (cY b)) (p:=λ_=>dI) (v:=λd=>.tup [d,.str<|dm<|eN d]) ⟨_,hit,λμ' i c=>rfl,?_,?_,λd μ' hd c=>õ.mpr ⟨rfl,č _⟩,λd μ' hd t c=>?_,λμ' c E=>⟨aD c o,?_⟩⟩
 .ext dS;rw[Ã]
 .ext dS;rw[Ã,J,ï];lia
 .rw[L9]at hd;let⟨e,B,rfl⟩:=Ô.mp hd;show à.mpr<|aQ ⟨_,rfl,aQ<|aS rfl<|a1z (k+7) (U:=b.map (·.1)) (by rw[Ã];lia) nd ok n (.inr<|aD c o) (aD c j) (λz=>h0 e (a1B n z) B) (h1 e) _ λM L=>⟨_,rfl,gZ,rfl,L⟩⟩
 .show H _ _ (cZ (p.trans c) u.length_le _) (Ğ p.length_le<|Ø _) ?_;rw[ñ<|by change a.length≠μ2.length;lia,E,L9,zy.mpr λ_ t=>rfl,ã,ã];rfl
abbrev gH(s:Str):Int:=if s="v" then 1 else 0
def Ma{a b:Str}(c:a="h"\/a="v") (d:b="h"\/b="v"):(a==b)=((gH a+gH b)%2==0):=by rcases c with rfl|rfl<;>rcases d with rfl|rfl<;>decide +kernel
def a1D G:NC w h (λ_=>fD) G:=λe x c x sp=>by
 unfold aY at sp ⊢;rw[Ay,Ay]at sp;subst sp;let k:∀P,∀b∈wd e e P,b=true:=λP=>xH λq x=>λz=>by
  unfold eJ at z;by_cases h1:q=sA e\/q=sB e
  .rw[if_pos h1]at z;ext z
  .rw[if_neg h1,if_neg h1]at z;ext z
 ext oH;show D9 dI (A:=wd e e _) (B:=[]) (k _) (λb a=>nomatch a) λb a=>k _ b<|RH.mp a
def Wy.par(g:Es T q)(h:Wy T a w b):(q a+q b+jP w)%2=0:=by
 induction h with
 |nil e=>change(q e+q e+((0:Nat):Int))%2=0;lia|@cons s w e i h o=>
  let k:(q s.1+q s.2.1+qZ s.2.2.1)%2=0:=by
   rcases(Ļ.mp i).2 with c|c
   .show g s c
   .let j:(q s.2.1+q s.1+qZ s.2.2.1)%2=0:=g _ c;lia
  let d:=a1v [s] w;let n:=a1w s;rw[show[s]++w=s::w from rfl]at d;rw[d];lia
abbrev k6(s:Str):Prop:=s="h"\/s="v"
def a1E(h:k6 s):jQ s=true:=by rcases h with rfl|rfl<;>decide +kernel
def A8(h:k6 s):(s="h"/\gH s=0)\/(s="v"/\gH s=1):=by rcases h with rfl|rfl<;>decide +kernel
def Mb(a:k6 s)(b:k6 t)(e:(gH s+gH t)%2=0):s=t:=by
 rcases A8 a with⟨rfl,h1⟩|⟨rfl,h1⟩<;>rcases A8 b with⟨rfl,h2⟩|⟨rfl,h2⟩
 .rfl
 .rw[h1,h2]at e;show absurd e ⋯
 .rw[h1,h2]at e;show absurd e ⋯
 .rfl
def Mc(h:k6 s):k6 (A7 s)/\gH (A7 s)+gH s=1:=by rcases h with rfl|rfl<;>show⟨by ext k6;decide +kernel,by decide +kernel⟩
open _root_ in
def a1F(a:k6 s)(b:k6 t){n:Nat}(e:(gH s+gH t+n)%2=0):t=uV n s:=by
 ext uV;split
 .rename_i z;rw[beq_iff_eq]at z;show Mb b a ()
 .rename_i z;rw[beq_iff_eq]at z;have:=(Mc a).2;show Mb b (Mc a).1 ()
def a1G(b:k6 s)(c:k6 t)(e:(gH s+gH t+qZ a)%2=0):(!((s==t)==a))=false:=by rw[Ma b c];rcases A8 b with⟨_,h1⟩|⟨_,h1⟩<;>rcases A8 c with⟨_,h2⟩|⟨_,h2⟩<;>rw[h1,h2]at e ⊢<;>ext a<;>first|rfl|show absurd e ⋯
def Ξ F r e:k6 (cN F r e):=by
 ext cN;split
 .show .inr rfl
 .show .inl rfl
inductive ŧ (T:List St)(ms:List ((Int×Int)×Str))(v:Int×Int->Str):Prop
 |mk (hv:∀e,k6 (v e))(ti:Es T λe=>gH<|v e)(mk:∀m∈ms,m.2="o"\/m.2=v m.1)
def ŧ.at_(K:ŧ T ms v)(b:m∈ms)(a:jQ m.2=dI):m.2=v m.1:=by let⟨_,_,mk⟩:=K;show(mk m b).resolve_left λz=>by rw[z]at a;revert a;decide +kernel
def ŧ.ok(K:ŧ T ms v)(a:m∈ms):m.2="o"\/m.2="h"\/m.2="v":=by
 let⟨b,_,mk⟩:=K;rcases mk m a with h|h
 .show .inl h
 .rw[h];show .inr<|b _
def ŧ.cyc(K:ŧ T ms v)(h:Wy T a w a):((jP w:Int)%2==0)=true:=by let⟨_,b,_⟩:=K;have:=h.par b;rw[beq_iff_eq];lia
def ŧ.mar(K:ŧ T ms v)(g:x∈ms)(i:y∈ms)(c:jQ x.2=dI)(a:jQ y.2=dI)(h:Wy T x.1 w y.1):((jP w:Int)%2==0)=(y.2==x.2):=by let d:=K.at_ g c;let e:=K.at_ i a;let⟨b,j,_⟩:=K;let k:=h.par j;rw[d,e,Ma (b _)<|b _,γ,beq_iff_eq,beq_iff_eq];lia
abbrev mI(T:List St)(ms:List ((Int×Int)×Str))(v:Int×Int->Str)(e:Ed):Str:=@ite _ (∃x∈iD ms,Cn T x e) (Classical.propDecidable _) (v e) "o"
def ŧ.h0(h:∀x∈iD ms,¬ Cn T x e):mI T ms v e="o":=if_neg λ⟨x,a,c⟩=>h x a c
def ŧ.h1(K:ŧ T ms v)e(m)(b:m∈ms)(a:jQ m.2=dI)y(h:Wy T m.1 y e):mI T ms v e=uV (jP y) m.2:=by ext mI;rw[if_pos ⟨m.1,Ĳ.mpr ⟨m,b,a,rfl⟩,h.cn⟩,K.at_ b a];let⟨c,d,_⟩:=K;show a1F (c _) (c _)<|h.par d
def ŧ.told(K:ŧ T ms v)(a:m∈ms):(mI T ms v m.1="o"\/mI T ms v m.1=v m.1)/\(m.2 ≠ "o"->mI T ms v m.1=m.2):=by
 ext mI;by_cases r:∃x∈iD ms,Cn T x m.1
 .rw[if_pos r];let⟨_,_,mk⟩:=K;show⟨.inr rfl,λz=>((mk m a).resolve_left z).symm⟩
 .rw[if_neg r];show⟨.inl rfl,λz=>absurd ⟨m.1,Ĳ.mpr ⟨m,a,?_,rfl⟩,.rf _⟩ r⟩;let⟨b,_,mk⟩:=K;rw[(mk m a).resolve_left z];show a1E<|b _
def a1H(g:b[a]?=b3 (.lst xs))(h:i<xs.length):nT a xs.length b i=b3 xs.reverse[i]?:=by ext nT;rw[g];dsimp;rw[if_pos h,PJ h,ü ()];rfl
def a1I(g:b[a]?=b3 (.lst xs)):nT a xs.length b xs.length=b3 none:=by ext nT;rw[g];dsimp;rw[if_neg<|ε _,if_pos rfl]
def a1J k{y:List St}(j:y.length<=600){b:Hm}(g:b[l]?=b3 (.lst<|y.map cG))(Q:jz)(H:∀a μ',b<+:μ'->μ'[a]?=b3 (.lst<|(y.reverse.map iZ).map cG)->Q (.loc a,μ')):W (f (k+2) "back_by" [.loc l] b) Q:=by
 show Ï (Yj (k+1) _ b)<|cJ<|Ju<|Xn ⟨_,rfl,l,_,rfl,g,(y.map cG).length,λi h μ'=>b<+:μ'/\h=((y.reverse.take i).map iZ).map cG,rfl,by rw[Ã,ï];lia,?_,⟨aR _ _,rfl⟩,?_,?_⟩
 .rintro i _ _ ⟨_,rfl⟩;rw[Ã,Ã,Ι];lia
 .rintro i _ μ' hi ⟨p,rfl⟩ c;rw[Ã]at hi;let d:y.reverse[i]?=b3 y[y.length-1-i]:=by rw[PJ hi,ü]
  let e:nT l (y.map cG).length μ' i=b3 (b3<|cG y[y.length-1-i]):=by rw[a1H (aD p g)<|by rw[Ã];show hi,<- Ov,ú,d];rfl
  show⟨cG y[y.length-1-i],[b3<|cG y[y.length-1-i]],e,rfl,õ.mpr ⟨(λz=>nomatch z),λ_=>aS rfl<|hG (LX k _ μ') ⟨c,cZ p (Ø _) _,?_⟩⟩⟩;rw[jM d,þ,þ];rfl
 .rintro _ μ' ⟨p,rfl⟩ c;show⟨a1I<|aD p g,H _ _ p ?_⟩;rw[c,Ã,jd<|by rw[qd];show Ø _]
def Md{c d:Type}{h:c->d}:∀{U:List c},(U.map h).Nodup->∀x∈U,∀y∈U,h x=h y->x=y
 |[],_,_,a,_,_,_=>nomatch a|u::U,nd,x,a,y,hy,e=>by
  rw[ó,Ŏ]at nd;rcases ĉ.mp a with b|a<;>rcases ĉ.mp hy with ey|hy
  .rw[b,ey]
  .show absurd (Ô.mpr ⟨y,hy,by rw[<- e,b]⟩) nd.1
  .show absurd (Ô.mpr ⟨x,a,by rw[e,ey]⟩) nd.1
  .show Md nd.2 x a y hy e
def uW(a:Ed):[a].Nodup:=Ŏ.mpr ⟨ϕ,.nil⟩
def a1K k(i:U.length<=600)(h:qj T [a] U R)(g:Dc c r (c7 R))(h1:s.1∈R.map (·.1))(E:s.2.1∈R.map (·.1))(G:s∈dB T s.1)(Q:jz)(H:∀l μ' (y:List St),c<+:μ'->μ'[l]?=b3 (.lst<|y.map cG)->y.length<=1201->Wy T a y a->Q (.loc l,μ')):W (f (k+3) "round_by_step" [.loc r,cG s] c) Q:=by
 show Ï (Yk (k+2) _ _ c)<|cJ<|aO<|aO<|aS rfl<|A6 (k+1) (uW a) i h g h1 _ λM b p X j x v q I m=>⟨_,rfl,?_⟩;let e:=aR b<|C.lst<|[s].map cG;show(sJ (aD e x) (bE _ _)<|by rw[Ã,ï];change _+1<=_;lia).mpr<|dJ<|aQ<|aS rfl<|A6 (k+1) (uW a) i h (g.more ?_) E _ λN K J Y n z w u d m=>⟨_,rfl,a1J k d z _ λO L o A=>?_⟩
 .show j.trans<|e.trans<|aR _ _
 .let B:=aD (n.trans o)<|bE (b++[C.lst<|[s].map cG])<|C.lst<|p.map cG++[s].map cG;rw[Ē.mp v]at q;rw[Ē.mp w]at u;show(sJ B A<|by rw[ă,Ã,Ã,Ã,Ã,qd,ï];change _+1+_<=_;lia).mpr<|H _ _ (p++[s]++J.reverse.map iZ) ?_ ?_ ?_<|(q.app<|.one G).app u.bk
  .show j.trans<|e.trans<|(aR _ _).trans<|n.trans<|o.trans<|aR _ _
  .rw[þ,þ];show bE _ _
  .rw[ă,ă,Ã,qd];change _+1+_<=_;lia
abbrev Me(k:Nat):MS:=aL (fR 7<|bJ (f k "round_by_step")<|aB (aE 3)<|aB (aE 6) aG)<|bK (jT<|c9<|bJ (f k "is_alike")<|aB (aE 7) aG) (aM<|aE 7) bV
abbrev Mf(k:Nat):MT:=i9 (c9<|bJ (f k "is_marked")<|aB (aA bG (aE 1)<|aE 4) aG)<|i9 (c9<|bJ (f k "is_marked")<|aB (aA bG (aE 1)<|aE 2) aG)<|a7<|aA (aZ dI) (bJ (f k "is_alike")<|aB (aE 5) aG)<|aA (aZ b5) (aA bG (aE 1)<|aE 4)<|aA bG (aE 1)<|aE 2
abbrev Mg(k:Nat):MS:=aL (fR 5<|bJ (f k "way_by")<|aB (aE 3)<|aB (aE 4) aG)<|aL (bK (Mf k) (aM<|aE 5) bV)<|cA (cS<|fU fV (aE 0)<|aB (aE 4)<|aB (cR aG) aG) (cL 6)<|Me k
abbrev uX(st mk:Nat)(s:Ed)(r:Nat)(a b c d:Option D):aF:=[b3<|.loc st,b3<|.loc mk,b3<|PP s,b3<|.loc r,a,b,c,d]
def uY a x y b:aZ a (.str x) (.str y) b=b3 (.bl<|if a then !(x==y)else x==y,b):=by ext a<;>rfl
def Mh x y a:aZ dI (.bl x) (.bl y) a=b3 (.bl<|!(x==y),a):=rfl
def a1L k(K:ŧ T b v)(nd:(b.map (·.1)).Nodup)(g:m∈b)(h:s∈b){a:Hm}(n:a[mk]?=b3 (.dT<|cY b))(p:y.length<=3000)(u:Wy T s.1 y m.1)(gl:a[l]?=b3 (.lst<|y.map cG))(H:∀μ',a<+:μ'->Q (b5,μ')):W (Mf (k+1) (uX st mk s.1 r (b3<|PP m.1) (b3<|.loc l) x A) a) Q:=by
 let c:∀{z:(Int×Int)×Str},z∈b->∀{μ'},a<+:μ'->bG (.loc mk) (PP z.1) μ'=b3 (.str z.2,μ'):=λ{z} w {μ'} q=>eD<|(Dm (aD q n) (b9 z.1)<|Ew nd w).mpr rfl;let d:=č a;show ě.mpr<|hJ<|dJ<|aQ<|aP rfl rfl ⟨_,c g d,_,rfl,hG (Em k m.2 a) ⟨rfl,?_⟩⟩;cases o:jQ m.2 with
 |false=>show(if_neg ô).mpr (H _ d)|true=>
  show(if_pos rfl).mpr<|ě.mpr<|hJ<|dJ<|aQ<|aP rfl rfl ⟨_,c h d,_,rfl,hG (Em k s.2 a) ⟨rfl,?_⟩⟩;cases e:jQ s.2 with
  |false=>show(if_neg ô).mpr (H _ d)|true=>show(if_pos rfl).mpr<|c5<|aO<|aS rfl<|Eu k p gl _ λj i=>aO<|aP rfl rfl ⟨_,c g i,aP rfl rfl ⟨_,c h i,_,uY b5 _ _ _,_,Mh _ _ _,_,rfl,?_⟩⟩;rw[K.mar h g e o u];change Q (!((m.2==s.2)==(m.2==s.2)),j);rw[beq_self_eq_true];show H _ i
def a1M k(K:ŧ T p v)(nd:(p.map (·.1)).Nodup)(L:p.length<=600)(E:qj T [s.1] (p.map (·.1)) R){e:Ed}(w:e∈R.map (·.1))(hs:s∈p)(S:SD ν κ u st kvs (dB T))(gm:u[mk]?=b3 (.dT<|cY p))(Z:Dc u r (c7 R))(H:∀N n o h,u<+:h->Q (.nx,uX st mk s.1 r (b3<|PP e) N n o,h)):W (Mg (k+3) (uX st mk s.1 r (b3<|PP e) N n o) u) Q:=by
 let G:=E;let⟨rc,rU,cl⟩:=G;let hU:(p.map (·.1)).length<=600:=by rw[Ã];show L
 let⟨m,hm,rfl⟩:=Ô.mp<|rU e w;show bD<|aS rfl<|A6 (k+2) (uW _) hU E Z w _ λl μ1 y z p1 g1 hz hy hl f=>?_;rw[Ē.mp hz]at hy;show Ç.mpr (Ò.mpr<|a1L (k+2) K nd hm hs (aD p1 gm) (Ğ hl ⋯) hy g1 λb p2=>(if_neg ô).mpr<|Î.mpr ?_);let M:=p1.trans p2;let q:=S.more M;let j:∀a c,b<+:c->c[a]?=b3 (.lst<|(dB T m.1).map cG)->W (fS (dE<|.loc a) (cL 6) (Me<|k+3) (((dB T m.1).map cG).length+1) 0 (uX st mk s.1 r (b3<|PP m.1) (b3<|.loc l) n o) c) Q:=λa c g ga=>by
  show jF (λ_ U h=>c<+:h/\∃n o,U=uX st mk s.1 r (b3<|PP m.1) (b3<|.loc l) n o) ⟨č _,_,_,rfl⟩ (λ_ f f z=>aD z.1 ga) ?_ ?_
  .rintro i d _ O hd ⟨A,n,o,rfl⟩;let⟨t,ht,rfl⟩:=Ek hd;let I:=Ĵ ht;let X:=(Ļ.mp I).1;show⟨_,rfl,bD<|aS rfl<|a1K k hU E (Z.more<|M.trans<|g.trans A) (by rw[X];show w) (cl _ w _ I) (by rw[X];show I) _ λa2 μ6 y2 p6 g6 J w6=>?_⟩;show Ò.mpr<|sN<|hJ<|aS rfl<|Eu (k+2) (Ğ J ⋯) g6 _ λμ7 p7=>⟨congrArg D.bl<|K.cyc w6,(if_neg ô).mpr<|Î.mpr ⟨A.trans<|p6.trans p7,_,_,rfl⟩⟩
  .rintro _ O ⟨A,n,o,rfl⟩;show H _ _ _ _<|M.trans<|g.trans A
 show É.mpr<|Ó.mpr<|A3 (a:=st) rfl q.dic<|aQ ⟨_,rfl,aQ ⟨_,rfl,_,rfl,?_⟩⟩;let g:=aR b<|C.lst [];cases x:a9 kvs (aV m.1)with
 |some d=>
  let⟨a,rfl,_,Y⟩:=q.ats _ _ x;let B:fV (.loc st) [PP m.1,.loc b.length] (b++[C.lst []])=b3 (.loc a,b++[C.lst []]):=by dsimp[fV,aD g q.dic,b9,Ĕ,x,Qy]
  show⟨_,B,(eI<|aD g Y).mpr<|j a _ g<|aD g Y⟩
 |none=>
  let B:fV (.loc st) [PP m.1,.loc b.length] (b++[C.lst []])=b3 (.loc b.length,b++[C.lst []]):=by dsimp[fV,aD g q.dic,b9,Ĕ,x,NA]
  let gl:(b++[C.lst []])[b.length]?=b3 (.lst<|(dB T m.1).map cG):=by rw[q.no _ x];show bE _ _
  show⟨_,B,(eI gl).mpr<|j _ _ g gl⟩
def Ϯ{A:MS}(h:W (A b a) λp=>match p.1 with|.nx=>W (B p.2.1 p.2.2) R|f=>R (f,p.2.1,p.2.2)):W (aL A B b a) R:=Ç.mpr<|bP h λp q=>by
 let⟨x,y⟩:=p;ext x<;>show q
def a1N R:dS (c7 R)=(R.map (·.1)).map PP:=by ext dS c7;rw[ã,ã];rfl
def a1O k(K:ŧ T b v)(nd:(b.map (·.1)).Nodup)(g:b.length<=600)(L:∀t∈T,t.1∈b.map (·.1)/\t.2.1∈b.map (·.1))(N:T.length<=1000)(A:s∈b)(S:SD Y κ a st kvs (dB T))(I:a[mk]?=b3 (.dT<|cY b))(Q:jz)(H:∀μ',a<+:μ'->Q (.non,μ')):W (f (k+4) "round_within" [.loc st,.loc mk,PP s.1] a) Q:=by
 let M:(b.map (·.1)).length<=600:=by rw[Ã];show g
 let B:=aR a<|C.lst<|[s.1].map PP;show Ï (Yl (k+3) _ _ _ a) (bD<|dJ<|aQ ⟨_,rfl,aQ<|hG (r:=(.loc a.length,a++[C.lst<|[s.1].map PP])) rfl ⟨_,rfl,Er (k+2) (M:=[s.1]) (uW _) M (λe o=>by rw[Ē.mp o];show Ô.mpr ⟨s,A,rfl⟩) L N (S.more B) (bE _ _) _ λr h R U G z J=>?_⟩⟩);let X:=B.trans U;let E:a.length<r:=by rw[ă]at G;show G
 show Ϯ<|AH (a:=r) (kvs:=c7 R) rfl z ?_;let j:=cU (c':=C.dF (c7 R)) z;let n:=cZ (c:=C.dF (c7 R)) X<|Rr E;change W (cA _ _ _ _<|h.set r<|C.dF<|c7 R) _;generalize h.set r (C.dF<|c7 R)=μ2 at j n ⊢;let hit:eT (aE 3) [b3<|.loc st,b3<|.loc mk,b3<|PP s.1,b3<|.loc r,b4,b4,b4,b4] μ2=b3 (dE<|.tup<|dS<|c7 R,(c7 R).length+1,μ2):=by change(eT (λ_ a=>b3 (D.loc r,a)) [] μ2)=_;dsimp[eT,Đ,j]
 show É.mpr ⟨_,hit,?_⟩;rw[show(c7 R).length=(dS<|c7 R).length by ext dS;rw[Ã]];show Jm (x:=.tup (dS<|c7 R)) (xs:=dS (c7 R)) (b:=Mg (k+3)) (λ_=>rfl) (λ_ y μ'=>μ2<+:μ'/\∃p q u w,y=uX st mk s.1 r p q u w) ⟨č _,_,_,_,_,rfl⟩ ?_ ?_
 .rintro i d _ x hd ⟨c,p,q,u,w,rfl⟩;rw[a1N]at hd;let⟨e,o,rfl⟩:=nE hd;show⟨_,rfl,a1M k K nd g J (Ĵ o) A (S.more<|n.trans c) (aD (n.trans c) I) (.inr<|aD c j) λ_ l l μ' O=>⟨c.trans O,_,_,_,_,rfl⟩⟩
 .rintro _ x ⟨c,p,q,u,w,rfl⟩;show⟨aD c j,cJ ⟨_,rfl,H _<|cZ (n.trans c) (Rr E) _⟩⟩
def Mi{d k:Type}{h:d->k}{U V:List d}(nd:V.Nodup)(c:∀e∈V,e∈U)(g:(U.map h).Nodup):(V.map h).Nodup:=Of.mpr<|b4s (λ{a b} i j ne e=>ne<|Md g a (c a i) b (c b j) e) nd
abbrev A9(e:Ed):Int:=Tb.hashT<|aV e
def a1P:(((jN 6 6).filter oF).map A9).Nodup:=by decide +kernel
def a1Q(hw:w<=6)(i:h<=6){es:List Ed}(nd:es.Nodup)(d:∀e∈es,sW w h e):(es.map A9).Nodup:=Mi nd (λe g=>by
 let⟨h1,a⟩:=ģ.mp<|d e g;let⟨b,c⟩:=Ο.mp h1;show ģ.mpr ⟨Ο.mpr ⟨⟨b.1,()⟩,c.1,()⟩,a⟩) a1P
def a1R{kvs more:jx}{Q:jz}(d:c[a]?=b3 (.dT kvs))(e:c[b]?=b3 (.dT more))(hz:kvs.length+more.length<=Ñ)(nd:(more.map λp=>Tb.hashT p.1).Nodup)(ne:a≠b)(H:Q (.non,c.set a<|.dT<|uA kvs more)):W (sH (.loc a) [.loc b] c) Q:=by show⟨_,?_,H⟩;dsimp[sH,d,e];rw[if_pos ⟨hz,nd,ne⟩]
def Mj:∀more kvs,(uA kvs more).length<=kvs.length+more.length
 |[],kvs=>Ø _|p::more,kvs=>by let h1:=Mj more<|cD kvs p.1 p.2;let a:=LO kvs p.1 p.2;change(uA (cD kvs p.1 p.2) more).length<=_;rw[ņ];lia
abbrev Mm(k:Nat):MS:=bK (a7<|aA (eH dI) (aE 4)<|aE 3) (aL (fR 5<|bJ (f k "round_within")<|aB (aE 1)<|aB (aE 2)<|aB (aE 4) aG)<|aL (bK (a7<|aA (iS dI) (aE 5)<|mC .non) (aM<|aE 5) bV)<|dX<|fU sH (aE 3)<|aB (bJ (f k "last_steps")<|aB (aE 1)<|aB (cR<|aB (aE 4) aG) aG) aG) bV
def a1S k(K:ŧ T b v)(nd:(b.map (·.1)).Nodup)(n:b.length<=600)(N:((b.map (·.1)).map A9).Nodup)(y:∀t∈T,t.1∈b.map (·.1)/\t.2.1∈b.map (·.1))(z:T.length<=1000)(A:s∈b){a:jx}(S:SD ν κ j st kvs (dB T))(G:j[mk]?=b3 (.dT<|cY b))(i:j[sn]?=b3 (.dT a))(hk:a.length<=1000000)(H:∀d w g,Kp sn j g->g[sn]?=b3 (.dT d)->d.length<=a.length+600->Q (.nx,[x,b3<|.loc st,b3<|.loc mk,b3<|.loc sn,b3<|PP s.1,w],g)):
  W (Mm (k+4) [x,b3<|.loc st,b3<|.loc mk,b3<|.loc sn,b3<|PP s.1,w] j) Q:=by
 let L:(b.map (·.1)).length<=600:=by rw[Ã];show n
 show Ò.mpr<|c5<|aP rfl rfl<|(uH i<|b9 s.1).mpr ⟨_,rfl,?_⟩;cases hv:(a9 a<|aV s.1).isSome with
 |true=>show(if_neg ô).mpr (Î.mpr<|H a _ j (λ_ f f h=>h) i ())|false=>
  show(if_pos rfl).mpr<|bD<|aS rfl<|a1O k K nd n y z A S G _ λc o=>sL<|c5<|aP rfl rfl<|ĕ.mpr ⟨_,rfl,rfl,nZ<|ë.mpr<|A3 (a:=sn) rfl (aD o i)<|aQ<|dJ<|aQ ⟨_,rfl,aQ<|hG (r:=(.loc c.length,c++[C.lst<|[s.1].map PP])) rfl ⟨_,rfl,?_⟩⟩⟩;let B:=aR c<|C.lst<|[s.1].map PP;show Er (k+3) (M:=[s.1]) (uW _) L (λe M=>by rw[Ē.mp M];show Ô.mpr ⟨s,A,rfl⟩) y z (S.more<|o.trans B) (bE _ _) _ λr Z R U Y I J=>?_;let⟨X,rU,cl⟩:=J;let E:=X.nd<|uW _;let u:=M2 E rU;rw[Ã]at u;let q:=o.trans<|B.trans U;let ls:sn<c.length:=ĸ (â.mp i).1 o.length_le;let O:(c7 R).length=R.length:=Ã ..;rw[ă]at Y;show⟨_,rfl,a1R (aD q i) I (by rw[O,ï];lia) ?_ ()<|H _ _ _ ((Kp.pre q).trans .set) (cU<|aD q i) ?_⟩
  .let e:((c7 R).map λp=>Tb.hashT p.1)=(R.map (·.1)).map A9:=by ext c7;rw[ã,ã];rfl
   rw[e];show Mi E rU N
  .have:=Mj (c7 R) a;lia
def a1T k(hw:1<=w/\w<=6)(I:1<=h/\h<=6)(K:ŧ (TT c w h) c v)(hS:dg c)(hI:∀m∈c,sW w h m.1)(hb:(eE w h).find? (iK<|bH c)=b4)(hn:oZ (j9 (bH c) w h))(T:Hm)(Q:jz)(H:∀μ',T<+:μ'->Q (.non,μ')):W (f (k+10) "round_of" [SH w h c] T) Q:=by
 let hT:=Ei hw I c;let⟨J,nd,ok⟩:=hS;let hs:=a1Q hw.2 I.2 nd (λe j=>by let⟨m,p,rfl⟩:=Ô.mp j;show hI m p);show Ï (Ym (k+9) _ T)<|bD<|aS rfl<|LY k hw I hb hn _ _ λκ g st kvs S=>bD<|aS rfl<|hG (L8 (k+8) nd g)<|bD<|á.mpr ?_;let Y:=aR g<|C.dT<|cY c;let u:=bE g<|C.dT<|cY c;let B:=S.more Y;generalize hμ2:g++[C.dT<|cY c]=μ2 at Y u B ⊢;generalize g.length=mk at u ⊢;let Z:=aR μ2<|C.dT [];let gn:=bE μ2<|C.dT [];let lk:mk<μ2.length:=(â.mp u).1;show Ϯ (É.mpr<|Ó.mpr<|aO<|aS rfl<|LZ (k+7) () _ _ λa o M g4=>?_);let G:=aD (Z.trans M) u;let ml:(iD c).length<=600:=by have:=ż (λm:(Int×Int)×Str=>jQ m.2) c;ext iD;rw[Ã];lia
 show aS rfl<|(Xl G).mpr<|(sJ (aD (aR _ _) g4) (bE _ _) ?_).mpr ?_
 .ext cY;rw[Ã,Ã,Ã,ï];lia
 let ek:(cY c).map (λk=>D.tup<|k.1.map D.int)=(c.map (·.1)).map PP:=by ext cY;rw[ã,ã];rfl
 rw[ek,<- þ];let N:=(aR o<|C.lst<|(c.map (·.1)).map PP).trans<|aR _<|C.lst<|(iD c++c.map (·.1)).map PP;let q:=bE (o++[C.lst<|(c.map (·.1)).map PP])<|C.lst<|(iD c++c.map (·.1)).map PP;generalize(o++[C.lst<|(c.map (·.1)).map PP]).length=b at q ⊢;generalize(o++[C.lst<|(c.map (·.1)).map PP])++[C.lst<|(iD c++c.map (·.1)).map PP]=μ5 at N q ⊢;let x:=aD (M.trans N) gn;let bn:b≠μ2.length:=λz=>by rw[z,x]at q;ext q
 let pp:μ2<+:μ5:=Z.trans<|M.trans N;let ln:(iD c++c.map (·.1)).length<=1200:=by rw[ă,Ã];lia
 let mm:∀e∈iD c++c.map (·.1),∃m∈c,m.1=e:=λe j=>by
  rcases Ħ.mp j with j|j
  .let⟨m,p,_,E⟩:=Ĳ.mp j;show⟨m,p,E⟩
  .let⟨m,p,E⟩:=Ô.mp j;show⟨m,p,E⟩
 show(eI q).mpr<|jF (b:=Mm (k+9)) (λi U μ'=>∃n O R,Kp μ2.length μ5 μ'/\μ'[μ2.length]?=b3 (.dT n)/\n.length<=600*i/\U=[b3<|SH w h c,b3<|.loc st,b3<|.loc mk,b3<|.loc μ2.length,O,R]) ⟨[],_,_,λ_ a a h=>h,x,Ø _,rfl⟩ (by rintro _ _ _ ⟨_,_,_,s,_⟩;show s _ _ bn q) ?_ ?_
 .rintro i d _ A hd ⟨n,O,R,s,X,hk,rfl⟩;let⟨e,j,rfl⟩:=nE hd;let hi:=(â.mp j).1;let⟨m,p,rfl⟩:=mm e<|Ĵ j;let p6:μ2<+:A:=s.all pp<|Ø _;show⟨_,rfl,a1S (k+5) K nd J hs (λt ht=>(Ej ht).1) hT p (B.more p6) (aD p6 u) X () λy a μ' L g' hk'=>⟨y,_,_,s.trans L,g',(),rfl⟩⟩
 .rintro _ A ⟨n,O,R,s,X,hk,rfl⟩;show cJ ⟨_,rfl,H _<|B.pre.trans<|s.all pp<|Ø _⟩
abbrev Sd(e x y:Int×Int):Prop:=(x=sA e/\y=sB e)\/(x=sB e/\y=sA e)
def Sd.sy(h:Sd e x y):Sd e y x:=h.symm.imp qy qy
def Sd.l(h:Sd e x y):x=sA e\/x=sB e:=h.imp And.left And.left
def Sd.r(h:Sd e x y):y=sA e\/y=sB e:=h.sy.l
def Sd.of(h:Sd e x y)(k:q=sA e\/q=sB e):q=x\/q=y:=by
 rcases h with⟨rfl,rfl⟩|⟨rfl,rfl⟩
 .show k
 .show k.symm
def a1U(nd:qs.Nodup)(P:ħ qs g G)s:(bW G s).Pairwise λx y=>aJ G x<aJ G y:=by
 by_cases b:s∈G.map (·.1)
 .let⟨x,a,rfl⟩:=Ô.mp b;rw[j6 P.kd a,vd];intro i j hi c d;rw[xD nd P a<|ü hi,xD nd P a<|ü c];lia
 .rw[pM b];show .nil
def a1V(c:(w,h)∈gR)(b:e∈bF w h):q∈c8 F e s↔(q=sA e\/q=sB e)/\aC (F q) q=s:=by let a:=((hW _ c).2.2.2.2.2.2.2 e b).1;ext c8;rw[ģ,decide_eq_true_iff];show⟨λz=>⟨AW a z.1,z.2⟩,λz=>⟨AX a z.1,z.2⟩⟩
def Ey(c:(w,h)∈gR)(a:e∈bF w h)(b:q=sA e\/q=sB e):q∈cC w h:=by
 let⟨_,d,g,_⟩:=(hW _ c).2.2.2.2.2.2.2 e a;rcases b with rfl|rfl
 .show d
 .show g
def a1W(i:(w,h)∈gR)(wf:Wf w h F)(d:e∈bF w h)(a:e'∈bF w h)(ne:e≠e')(sp:aY F e=aY F e')(g:q=sA e\/q=sB e)(b:q=sA e'\/q=sB e'):False:=by
 let k:∀{x:Int×Int},x∈bF w h->(q=sA x\/q=sB x)->aC (F q) x=aY F x:=λ{x} c h1=>by
  rcases h1 with rfl|rfl
  .rfl
  .show xF ((hW _ i).2.2.2.2.2.2.2 x c).1<|wf.ed x c
 show xG (wf.di q) ne<|by rw[k d g,k a b,sp]
section
variable{w h:Int}{F:Int×Int->Ly}{G:Gr}
def a1X(nd:(cC w h).Nodup)(P:ħ (cC w h) (λq=>aC (F q) q) G){L:jq}(j:L.Pairwise λx y=>aJ G x<aJ G y)(k:∀q,q∈L↔(q∈cC w h/\aC (F q) q=s)/\(eJ e c q).isSome=dI):wd e c (bW G s)=L.filterMap (eJ e c):=by
 let h1:wd e c (bW G s)=((bW G s).filter λq=>(eJ e c q).isSome).filterMap (eJ e c):=by ext wd;rw[List.filterMap_filter];show congrArg (λg=>List.filterMap g<|bW G s)<|funext λq=>by cases eJ e c q<;>rfl
 let i:=(a1U nd P s).sublist<|ig (p:=λq=>(eJ e c q).isSome);let d:∀{l:jq},(l.Pairwise λx y=>aJ G x<aJ G y)->l.Nodup:=λz=>z.imp λ{a b} h e=>by rw[e]at h;lia
 rw[h1];show congrArg _ (List.Perm.eq_of_pairwise (λa b f f h1 n=>()) i j<|(S9 (d i)<|d j).mpr λq=>?_);rw[ģ,k,(P.pm s).mem_iff,ģ,decide_eq_true_iff]
inductive ſ (w h:Int)(F:Int×Int->Ly)(G:Gr):Prop
 |mk (hs:(w,h)∈gR)(wf:Wf w h F)(nd:(cC w h).Nodup)(P:ħ (cC w h) (λq=>aC (F q) q) G)(nc:NC w h F G)
abbrev Sq(e q:Int×Int):Prop:=q=sA e\/q=sB e
inductive Tw (w h:Int)(F:Int×Int->Ly)(G:Gr)(e e':Int×Int):Prop
 |mk (lt:∀{z:Int×Int},Sq e z->eJ e e' z=b3 dI)(lf:∀{z},Sq e' z->eJ e e' z=b3 b5)(q1:∀{z},Sq e z->z∈cC w h)(q2:∀{z},Sq e' z->z∈cC w h)
  (al:∀{s t:Int×Int}{L0 L1:jq},Sd (aY F e) s t->(L0.Pairwise λx y=>aJ G x<aJ G y)->(L1.Pairwise λx y=>aJ G x<aJ G y)->(∀q,q∈L0↔(Sq e q\/Sq e' q)/\aC (F q) q=s)->(∀q,q∈L1↔(Sq e q\/Sq e' q)/\aC (F q) q=t)->eV (L0.filterMap (eJ e e')++(L1.filterMap<|eJ e e').reverse)=b5)
variable(E:ſ w h F G){e e' q r x y q' r':Int×Int}
include E
def ſ.tw(g:e∈bF w h)(d:e'∈bF w h)(ne:e≠e')(sp:aY F e=aY F e'):Tw w h F G e e':=by
 let⟨i,wf,nd,P,H⟩:=E;let v:∀{z},Sq e z->¬ Sq e' z:=λa b=>a1W i wf g d ne sp a b;let lt:∀{z},Sq e z->eJ e e' z=b3 true:=λa=>by ext eJ;show if_pos a
 let j:∀{z},Sq e' z->eJ e e' z=b3 false:=λa=>by ext eJ;show(if_neg λb=>v b a).trans<|if_pos a
 let k:∀{z},Sq e z->z∈cC w h:=λa=>Ey i g a;let n:∀{z},Sq e' z->z∈cC w h:=λa=>Ey i d a;show⟨lt,j,k,n,λ{s t K M} o I J A B=>?_⟩;let u:∀{s:Int×Int}{L:jq},(L.Pairwise λx y=>aJ G x<aJ G y)->(∀q,q∈L↔(Sq e q\/Sq e' q)/\aC (F q) q=s)->wd e e' (bW G s)=L.filterMap (eJ e e'):=λ{s L} p m=>a1X nd P p λq=>by
  rw[m];constructor
  .rintro⟨a,b⟩;rcases a with a|a
   .show⟨⟨k a,b⟩,by rw[lt a];rfl⟩
   .show⟨⟨n a,b⟩,by rw[j a];rfl⟩
  .rintro⟨⟨_,b⟩,a⟩;cases z:eJ e e' q with
   |none=>rw[z]at a;ext a|some c=>
    ext c
    .show⟨.inr<|Lu z,b⟩
    .show⟨.inl<|Ls z,b⟩
 rw[<- u I A,<- u J B];have:=H e g e' d sp;rcases o with⟨rfl,rfl⟩|⟨rfl,rfl⟩
 .show this
 .rw[Lx]at this;show this
def ſ.rk(a:q∈cC w h)(b:r∈cC w h)(e:aC (F q) q=aC (F r) r)(n:q≠r):aJ G q≠aJ G r:=by let⟨_,_,nd,P,_⟩:=E;show Lb nd P a b n e
def ſ.two(a:e∈bF w h)(s:Sd e q r)(f:F q=F r):aC (F q) q≠aC (F r) r/\Sd (aY F e) (aC (F q) q) (aC (F r) r):=by
 let⟨b,wf,_,_,_⟩:=E;let c:=((hW _ b).2.2.2.2.2.2.2 e a).1;let n:q≠r:=by
  rcases s with⟨rfl,rfl⟩|⟨rfl,rfl⟩
  .show pP c
  .show î<|pP c
 let ne:aC (F q) q≠aC (F r) r:=by rw[f];show xG (wf.di r) n
 show⟨ne,?_⟩;rcases uR b wf a s.l with h1|h1<;>rcases uR b wf a s.r with h2|h2
 .show absurd (h1.trans h2.symm) ne
 .show .inl ⟨h1,h2⟩
 .show .inr ⟨h1,h2⟩
 .show absurd (h1.trans h2.symm) ne
def ſ.nb(u:e∈bF w h)(d:e'∈bF w h)(ne:e≠e')(sp:aY F e=aY F e')(o:Sd (aY F e) (aC (F q) q) t)(s:Sd e q r)(j:aC (F r) r=t)(b:Sd e' x y)(n:aC (F x) x=aC (F q) q)(py:aC (F y) y=aC (F q) q)(c:aC (F q) q≠t):¬ (aJ G x<aJ G q/\aJ G q<aJ G y):=λ⟨A,v⟩=>by
 let⟨lt,i,_,_,p⟩:=E.tw u d ne sp;let a:=p (L0:=[x,q,y]) (L1:=[r]) o (NT.mpr ⟨λz g=>by dsimp[ĉ,ϕ,or_false]at g;rcases g with rfl|rfl<;>lia,Ol.mpr v⟩) (P8 _ _) (λz=>?_) λz=>?_
 .dsimp[aa,Oi,lt s.l,lt s.r,i b.l,i b.r]at a;ext a
 .dsimp[ĉ,ϕ,or_false];constructor
  .rintro(rfl|rfl|rfl)
   .show⟨.inr b.l,n⟩
   .show⟨.inl s.l,rfl⟩
   .show⟨.inr b.r,py⟩
  .rintro⟨h|h,k⟩
   .rcases s.of h with rfl|rfl
    .show .inr<|.inl rfl
    .show absurd (k.symm.trans j) c
   .rcases b.of h with rfl|rfl
    .show .inl rfl
    .show .inr<|.inr rfl
 .rw[Ē];constructor
  .rintro rfl;show⟨.inl s.r,j⟩
  .rintro⟨h|h,k⟩
   .rcases s.of h with rfl|rfl
    .show absurd k c
    .rfl
   .rcases b.of h with rfl|rfl
    .show absurd (n.symm.trans k) c
    .show absurd (py.symm.trans k) c
def ſ.so(p:e∈bF w h)(d:e'∈bF w h)(ne:e≠e')(sp:aY F e=aY F e')(o:Sd (aY F e) (aC (F q) q) (aC (F r) r))(s:Sd e q r)(b:Sd e' q' r')(j:aC (F q') q'=aC (F q) q)(i:aC (F r') r'=aC (F r) r)(c:aC (F q) q≠aC (F r) r)(l:aJ G q<aJ G q'):aJ G r<aJ G r':=Int.not_le.mp λB=>by
 let⟨lt,g,v,A,n⟩:=E.tw p d ne sp;let u:aJ G r'<aJ G r:=by
  have:=E.rk (v s.r) (A b.r) i.symm λz=>by let h:=lt s.r;rw[z,g b.r]at h;ext h
  lia
 let a:=n (L0:=[q,q']) (L1:=[r',r]) o (Ol.mpr l) (Ol.mpr u) (λz=>?_) λz=>?_
 .dsimp[aa,Oi,lt s.l,lt s.r,g b.l,g b.r]at a;ext a
 .dsimp[ĉ,ϕ,or_false];constructor
  .rintro(rfl|rfl)
   .show⟨.inl s.l,rfl⟩
   .show⟨.inr b.l,j⟩
  .rintro⟨h|h,k⟩
   .show .inl<|(s.of h).resolve_right λz=>c<|by rw[z]at k;show k.symm
   .show .inr<|(b.of h).resolve_right λz=>c<|by rw[z,i]at k;show k.symm
 .dsimp[ĉ,ϕ,or_false];constructor
  .rintro(rfl|rfl)
   .show⟨.inr b.r,i⟩
   .show⟨.inl s.r,rfl⟩
  .rintro⟨h|h,k⟩
   .show .inr<|(s.of h).resolve_left λz=>c<|by rw[z]at k;show k
   .show .inl<|(b.of h).resolve_left λz=>c<|by rw[z,j]at k;show k
def ſ.bb(p:e∈bF w h)(d:e'∈bF w h)(ne:e≠e')(sp:aY F e=aY F e')(o:Sd (aY F e) (aC (F q) q) t)(s:Sd e q r)(b:Sd e' x y)(i:aC (F r) r=aC (F q) q)(j:aC (F x) x=aC (F q) q)(py:aC (F y) y=aC (F q) q)(c:aC (F q) q≠t):¬ (aJ G q<aJ G x/\aJ G x<aJ G r/\aJ G r<aJ G y):=λ⟨u,v,A⟩=>by
 let⟨lt,g,_,_,n⟩:=E.tw p d ne sp;let a:=n (L0:=[q,x,r,y]) (L1:=[]) o (by
  dsimp[NT,ĉ,ϕ,or_false,forall_eq_or_imp,forall_eq,false_imp_iff,implies_true,PN,and_true];lia) .nil (λz=>?_) λz=>?_
 .dsimp[aa,Oi,lt s.l,lt s.r,g b.l,g b.r]at a;ext a
 .dsimp[ĉ,ϕ,or_false];constructor
  .rintro(rfl|rfl|rfl|rfl)
   .show⟨.inl s.l,rfl⟩
   .show⟨.inr b.l,j⟩
   .show⟨.inl s.r,i⟩
   .show⟨.inr b.r,py⟩
  .rintro⟨h|h,_⟩
   .rcases s.of h with rfl|rfl
    .show .inl rfl
    .show .inr<|.inr<|.inl rfl
   .rcases b.of h with rfl|rfl
    .show .inr<|.inl rfl
    .show .inr<|.inr<|.inr rfl
 .show⟨λh=>(nomatch h),?_⟩;rintro⟨h|h,k⟩
  .rcases s.of h with rfl|rfl
   .show absurd k c
   .show absurd (i.symm.trans k) c
  .rcases b.of h with rfl|rfl
   .show absurd (j.symm.trans k) c
   .show absurd (py.symm.trans k) c
def ſ.nbF(b:e∈bF w h)(a:e'∈bF w h)(ne:e≠e')(sp:aY F e=aY F e')(s:Sd e q r)(f:F q=F r)(g:Sd e' x y)(d:aC (F x) x=aC (F q) q)(py:aC (F y) y=aC (F q) q):¬ (aJ G x<aJ G q/\aJ G q<aJ G y):=by let⟨c,o⟩:=E.two b s f;show E.nb b a ne sp o s rfl g d py c
def ſ.soF(b:e∈bF w h)(a:e'∈bF w h)(ne:e≠e')(sp:aY F e=aY F e')(s:Sd e q r)(f:F q=F r)(i:Sd e' q' r')(j:F q'=F r')(d:aC (F q) q=aC (F q') q'):aC (F r) r=aC (F r') r'/\(aJ G q<aJ G q'->aJ G r<aJ G r'):=by
 let⟨c,o⟩:=E.two b s f;let⟨_,k⟩:=E.two a i j;let g:aC (F r) r=aC (F r') r':=by rw[sp]at o;show(k.of o.r).resolve_left λz=>c<|d.trans z.symm
 show⟨g,E.so b a ne sp o s i d.symm g.symm c⟩
abbrev nF(r:Int×Int->Int)(a b q:Int×Int):Bool:=decide (min (r a) (r b)<r q)&&decide (r q<max (r a) (r b))
omit E in
def Mn(r:Int×Int->Int)(a b q:Int×Int):nF r a b q=dI↔(r a<r q/\r q<r b)\/(r b<r q/\r q<r a):=by ext nF;rw[ð,decide_eq_true_iff,decide_eq_true_iff];lia
def ſ.nb0(b:e∈bF w h)(a:e'∈bF w h)(ne:e≠e')(sp:aY F e=aY F e')(o:Sd (aY F e) (aC (F q) q) t)(s:Sd e q r)(d:aC (F r) r=t)(i:Sd e' x y)(g:aC (F x) x=aC (F q) q)(py:aC (F y) y=aC (F q) q)(c:aC (F q) q≠t):nF (aJ G) x y q=false:=RM.mpr λz=>by
 rcases(Mn _ _ _ _).mp z with z|z
 .show E.nb b a ne sp o s d i g py c z
 .show E.nb b a ne sp o s d i.sy py g c z
def ſ.bb0(k:e∈bF w h)(g:e'∈bF w h)(ne:e≠e')(sp:aY F e=aY F e')(o:Sd (aY F e) (aC (F q) q) t)(s:Sd e q r)(j:Sd e' x y)(i:aC (F r) r=aC (F q) q)(p:aC (F x) x=aC (F q) q)(py:aC (F y) y=aC (F q) q)(n:aC (F q) q≠t)(b:nF (aJ G) q r x=dI):nF (aJ G) q r y=true:=by
 let T:=E.tw k g ne sp;let o1:Sd (aY F e) (aC (F r) r) t:=by rw[i];show o
 let o2:Sd (aY F e') (aC (F y) y) t:=by rw[py,<- sp];show o
 let K:=E.bb k g ne sp o s j i p py n;let L:=E.bb k g ne sp o1 s.sy j i.symm (p.trans i.symm) (py.trans i.symm) (by rw[i];show n);let M:=E.bb g k (î ne) sp.symm o2 j.sy s (p.trans py.symm) py.symm (i.trans py.symm) (by rw[py];show n);let N:=E.bb g k (î ne) sp.symm o2 j.sy s.sy (p.trans py.symm) (i.trans py.symm) py.symm (by rw[py];show n);let rk:∀{u v:Int×Int},u∈cC w h->v∈cC w h->aC (F u) u=aC (F v) v->u≠v->aJ G u≠aJ G v:=E.rk;let⟨lt,J,B,H,_⟩:=T;let A:∀{z I:Int×Int},Sq e z->Sq e' I->z≠I:=λa c d=>by let h:=lt a;rw[d,J c]at h;ext h
 let O:=rk (B s.l) (H j.r) py.symm<|A s.l j.r;let Q:=rk (B s.r) (H j.r) (i.trans py.symm)<|A s.r j.r;rw[Mn]at b ⊢;lia
omit E in
def Sd.two(a:Sq e x)(b:Sq e y)(n:x≠y):Sd e x y:=by
 rcases a with rfl|rfl<;>rcases b with rfl|rfl
 .show absurd rfl n
 .show .inl ⟨rfl,rfl⟩
 .show .inr ⟨rfl,rfl⟩
 .show absurd rfl n
omit E in
def a1Y(r:Int×Int->Int)(a b c:Int×Int)(h:nF r a b c=b5):(qY r a b [c]==1)=false:=by change(([c].filter<|nF r a b).length==1)=b5;rw[iz,h];rfl
omit E in
def a1Z(r:Int×Int->Int)(a b c d:Int×Int)(h:nF r a b c=nF r a b d):(qY r a b [c,d]==1)=false:=by change(([c,d].filter<|nF r a b).length==1)=b5;rw[iz,iz,h];cases nF r a b d<;>rfl
def ſ.cr(i:e∈bF w h)(g:e'∈bF w h)(ne:e≠e')(sp:aY F e=aY F e')(Z:iC (aY F e)=[s0,s1]):sV (aJ G) (c8 F e s0) (c8 F e s1) (c8 F e' s0) (c8 F e' s1)=false:=by
 let Ec:=E;let⟨L,wf,_,_,_⟩:=E;let E:=Ec;let⟨u,v,Q,K,o⟩:=qX<|Ef L wf i;rw[Z]at Q;ext Q;replace o:Sd (aY F e) s0 s1:=o;let o':Sd (aY F e') s0 s1:=sp▸o;let sa:=(D7 L wf i Z).1;let O:=(D7 L wf g<|sp▸Z).1;let X:∀{e:Int×Int},e∈bF w h->∀{s:Int×Int}{A:jq},c8 F e s=A->A.Nodup/\∀q∈A,Sq e q/\aC (F q) q=s:=λ{e} i {s A} z=>by subst z;show⟨?_,λq hq=>(a1V L i).mp hq⟩;let⟨x,y,Q,N,_⟩:=qX ((hW _ L).2.2.2.2.2.2.2 e i).1;ext c8;rw[Q];show ig.nodup<|by apply N
 let two:∀{e a b s:Int×Int},([a,b].Nodup/\∀q∈[a,b],Sq e q/\aC (F q) q=s)->Sd e a b/\aC (F a) a=s/\aC (F b) b=s:=λ{e a b s} h=>by let⟨Y,B⟩:=h.2 a<|.head _;let⟨I,H⟩:=h.2 b<|.tail _<|.head _;show⟨Sd.two Y I<|by apply h.1,B,H⟩
 let one:∀{e a b:Int×Int},([a].Nodup/\∀q∈[a],Sq e q/\aC (F q) q=s0)->([b].Nodup/\∀q∈[b],Sq e q/\aC (F q) q=s1)->Sd e a b/\aC (F a) a=s0/\aC (F b) b=s1:=λ{e a b} h k=>by
  let⟨Y,B⟩:=h.2 a<|.head _;let⟨I,H⟩:=k.2 b<|.head _;show⟨Sd.two Y I λz=>K<|by rw[<- B,<- H,z],B,H⟩
  -- one has a mark,the other b4; both have marks
 let un:∀{e e' q r x y s t:Int×Int},e∈bF w h->e'∈bF w h->e≠e'->aY F e=aY F e'->Sd (aY F e) s t->s≠t->Sd e q r->aC (F q) q=s->aC (F r) r=t->Sd e' x y/\aC (F x) x=s/\aC (F y) y=s->(qY (aJ G) x y [q]==1)=false:=λ{e e' q r x y s t} i g ne sp o n sd pq pr z=>by subst pq;show a1Y _ _ _ _<|E.nb0 i g ne sp o sd pr z.1 z.2.1 z.2.2 n
 let bo:∀{q r x y s t:Int×Int},Sd (aY F e) s t->s≠t->Sd e q r/\aC (F q) q=s/\aC (F r) r=s->Sd e' x y/\aC (F x) x=s/\aC (F y) y=s->(qY (aJ G) q r [x,y]==1)=false:=λ{q r x y s t} o n a b=>by let⟨a,rfl,B⟩:=a;let⟨b,I,H⟩:=b;show a1Z _ _ _ _ _<|γ.mpr ⟨E.bb0 i g ne sp o a b B I H n,E.bb0 i g ne sp o a b.sy B H I n⟩
 generalize hA:c8 F e s0=A0 at sa;generalize hB:c8 F e s1=A1 at sa;generalize hC:c8 F e' s0=B0 at O;generalize hD:c8 F e' s1=B1 at O;let mA:=X i hA;let mB:=X i hB;let mC:=X g hC;let M:=X g hD;clear hA hB hC hD;let N:=î K;cases sa with
 |c0 a b=>
  cases O with
  |c0 c d=>show bo o K (two mA) (two mC)|c1 c d=>rfl|s c d=>let⟨J,j,p⟩:=one mC M;show un g i (î ne) sp.symm o' K J j p<|two mA
 |c1 a b=>
  cases O with
  |c0 c d=>rfl|c1 c d=>show bo o.sy N (two mB) (two M)|s c d=>let⟨J,j,p⟩:=one mC M;show un g i (î ne) sp.symm o'.sy N J.sy p j<|two mB
 |s a b=>
  let⟨R,T,U⟩:=one mA mB;cases O with
  |c0 c d=>show un i g ne sp o K R T U (two mC)|c1 c d=>show un i g ne sp o.sy N R.sy U T (two M)|s c d=>
   let⟨J,j,p⟩:=one mC M;change(decide (aJ G c<aJ G a) != decide (aJ G d<aJ G b))=b5;let nn:aC (F c) c≠aC (F d) d:=by rw[j,p];show K
   let oo:Sd (aY F e') (aC (F c) c) (aC (F d) d):=by rw[j,p];show o'
   rw[bne_eq_false_iff_eq];show decide_eq_decide.mpr ⟨E.so g i (î ne) sp.symm oo J R (T.trans j.symm) (U.trans p.symm) nn,E.so g i (î ne) sp.symm oo.sy J.sy R.sy (U.trans p.symm) (T.trans j.symm)<|î nn⟩
end
structure İ(w h:Int)(n:Nat)(A B:Nat->Int×Int):Prop where
 n8:n=8\/n=4
 r:∀j,A j∈bF w h
 sd:∀j,Sd (A<|j+1) (B j) (B<|j+1)
 mi:∀i j,eU (A i) (A j)=A (2*j+(n-1)*i)
 pA:∀i j,i%n=j%n->A i=A j
 pB:∀i j,i%n=j%n->B i=B j
 iA:∀i j,A i=A j->i%n=j%n
 iB:∀i j,B i=B j->i%n=j%n
abbrev cP(l:jq)(j:Nat):Int×Int:=l.getD (j%l.length) (0,0)
abbrev bU(c:Int×Int):jq:=mv c.1 c.2<|gG c.1
abbrev jR(c:Int×Int):jq:=mv c.1 c.2<|ZV c.1
abbrev Mo(e x y:Int×Int):Bool:=(x==sA e&&y==sB e)||(x==sB e&&y==sA e)
abbrev Mp(rs:jq)(c:Int×Int):Bool:=
 ((bU c).length==8||(bU c).length==4)&&(jR c).length==(bU c).length&&decide (bU c).Nodup&&decide (jR c).Nodup&&(Ā (bU c).length).all λj=>rs.contains (cP (bU c) j)&&Mo (cP (bU c)<|j+1) (cP (jR c) j) (cP (jR c)<|j+1)&&(Ā (bU c).length).all λi=>eU (cP (bU c) i) (cP (bU c) j)==cP (bU c) (2*j+((bU c).length-1)*i)
def a2a:∀w∈[(1:Int),2,3],∀h∈[(1:Int),2,3],((eE w h).all<|Mp<|bF w h)=true:=by decide +kernel
def Mq(nd:l.Nodup)(h0:0<l.length)(e:cP l i=cP l j):i%l.length=j%l.length:=by let hi:=τ i h0;let a:=τ j h0;unfold cP at e;rw[ψ,ψ,ü hi,ü a]at e;show(N8 nd).mp e
def oI l(e:i%l.length=j%l.length):cP l i=cP l j:=by ext cP;rw[e]
def Mr(hw:1<=w/\w<=3)(g:1<=h/\h<=3)(hc:c∈eE w h):İ w h (bU c).length (cP<|bU c) (cP<|jR c):=by
 let k:=ϵ.mp (a2a w (qS hw) h<|qS g) c hc;unfold Mp at k;unfold Mo at k;dsimp[ð,mU,beq_iff_eq,decide_eq_true_eq,ϵ,ň]at k;obtain⟨⟨⟨⟨d,a⟩,n⟩,nb⟩,k⟩:=k;let b:0<(bU c).length:=()
 let sm:∀j,j%(bU c).length<(bU c).length:=λj=>τ j b;show⟨d,λj=>?_,λj=>?_,λi j=>?_,λi j e=>oI _ e,λi j e=>oI _<|by rw[a];show e,λi j e=>Mq n b e,λi j e=>?_⟩
 .rw[oI _ (rm j _).symm];show ζ.mp (k _<|sm j).1.1
 .have:=(k _<|sm j).1.2;rw[oI (bU c) (i:=j+1) (j:=j%(bU c).length+1)<|by rw[QM],oI (jR c) (i:=j) (j:=j%(bU c).length)<|by rw[a,rm],oI (jR c) (i:=j+1) (j:=j%(bU c).length+1)<|by rw[a,QM]];show this
 .have:=(k _<|sm j).2 _<|sm i;rw[oI _ (rm j _).symm,oI _ (rm i _).symm,this];show oI _ ?_;rcases d with e|e<;>rw[e]<;>lia
 .have:=Mq nb (by rw[a];show b) e;rwa [a]at this
section
variable{w h:Int}{F:Int×Int->Ly}{G:Gr}
abbrev xI(w h:Int)(F:Int×Int->Ly)(m:Int×Int->Bool):Prop:=∀e∈bF w h,m e=!decide (F (sA e)=F (sB e))
abbrev gT(F:Int×Int->Ly)(G:Gr)(x y:Int×Int):Bool:=decide (aJ G y<aJ G x)==decide (d7 (F x)<0)
variable(E:ſ w h F G){n:Nat}{A B:Nat->Int×Int}(R:İ w h n A B){m:Int×Int->Bool}(hm:xI w h F m)
omit E hm in
def İ.sq(R:İ w h n A B)(z:i=j+1):Sd (A i) (B j) (B i):=by subst z;show R.sd j
include E R hm
def İ.un(k:m (A i)=b5)(z:i=j+1):F (B j)=F (B i):=by
 subst z;have:=hm _<|R.r<|j+1;rw[k]at this;let e:F (sA<|A<|j+1)=F (sB<|A<|j+1):=by apply this.symm
 rcases R.sd j with⟨a,b⟩|⟨a,b⟩<;>rw[a,b]
 .show e
 .show e.symm
def İ.cr(k:m (A<|j+1)=dI):F (B j)=dA (fY<|A<|j+1) (F<|B<|j+1)/\F (B<|j+1)=dA (fY<|A<|j+1) (F<|B j):=by
 have:=hm _<|R.r<|j+1;rw[k]at this;let e:¬ F (sA<|A<|j+1)=F (sB<|A<|j+1):=by apply this.symm
 let⟨g,wf,_,_,_⟩:=E;let c:=(wf.ed _<|R.r<|j+1).resolve_left e;let d:F (sB<|A<|j+1)=dA (fY<|A<|j+1) (F<|sA<|A<|j+1):=by rw[c,<- Av];show DD λp=>?_;rw[j5,j5,kU,kU,YM]
 rcases R.sd j with⟨a,b⟩|⟨a,b⟩<;>rw[a,b]
 .show⟨c,d⟩
 .show⟨d,c⟩
def İ.pl(k:m (A i)=dI)(z:i=j+1):aC (F<|B j) (B j)=aC (F<|B i) (B i):=by
 subst z;let e:=(R.cr E hm k).1;let⟨c,wf,_,_,_⟩:=E;let⟨d,g⟩:=AM ((hW _ c).2.2.2.2.2.2.2 _<|R.r<|j+1).1;rw[e,j5,kU];rcases R.sd j with⟨a,b⟩|⟨a,b⟩<;>rw[a,b]
 .rw[d]
 .rw[g]
omit hm in
def İ.sp0{a i:Nat}(s:a=i\/a=i+1):aC (F<|B i) (A a)=aY F (A a):=by
 let⟨d,wf,_,_,_⟩:=E;let two:∀{e q:Int×Int},e∈bF w h->(q=sA e\/q=sB e)->aC (F q) e=aY F e:=λ{e q} b c=>by
  rcases c with rfl|rfl
  .rfl
  .show xF ((hW _ d).2.2.2.2.2.2.2 _ b).1<|wf.ed _ b
 rcases s with rfl|rfl
 .have:=(R.sd<|a+(n-1)).r;let e:(a+(n-1)+1)%n=a%n:=by rcases R.n8 with e|e<;>rw[e]<;>lia
  rw[R.pA _ _ e,R.pB _ _ e]at this;show two (R.r a) this
 .show two (R.r _) (R.sd i).l
def İ.sp(c:m (A<|k+1)=dI)(g:a=i\/a=i+1)(o:b=j\/b=j+1)(d:F (B i)=F (B k))(e:F (B<|k+1)=F (B j))(q:(2*(k+1)+(n-1)*a)%n=b%n):aY F (A a)=aY F (A b):=by rw[<- R.sp0 E g,<- R.sp0 E o,d,(R.cr E hm c).1,j5,kU,R.mi,R.pA _ _ q,e]
omit hm in
def İ.bq(j:Nat):B j∈cC w h:=by let⟨a,_,_,_,_⟩:=E;show Ey a (R.r<|j+1) (R.sd j).l
omit hm in
def İ.ne{i j:Nat}(e:aC (F<|B i) (B i)=aC (F<|B j) (B j))(q:i%n≠j%n):aJ G (B i)≠aJ G (B j):=E.rk (R.bq E i) (R.bq E j) e λz=>q<|R.iB _ _ z
def İ.dt(k:m (A i)=dI)(z:i=j+1):decide (d7 (F<|B i)<0)=!decide (d7 (F<|B j)<0):=by subst z;let e:=(R.cr E hm k).2;let⟨_,wf,_,_,_⟩:=E;rw[e,Au,DA];rcases AL (wf.di<|B j)with⟨a,_⟩|⟨a,_⟩<;>rw[a]<;>rfl
def İ.hi(k:m (A<|j+1)=dI):gT F G (B j) (B<|j+1)=gT F G (B<|j+1) (B j):=by
 let d:=R.dt E hm k rfl;let ne:=R.ne E (R.pl E hm k rfl) (by rcases R.n8 with e|e<;>rw[e]<;>lia);ext gT;rw[d];have:decide (aJ G (B j)<aJ G (B<|j+1))=!decide (aJ G (B<|j+1)<aJ G (B j)):=by
  by_cases z:aJ G (B<|j+1)<aJ G (B j)
  .rw[decide_eq_true z,decide_eq_false ()];rfl
  .rw[decide_eq_false z,decide_eq_true ()];rfl
 rw[this];cases decide (aJ G (B<|j+1)<aJ G (B j))<;>cases decide (d7 (F<|B j)<0)<;>rfl
def İ.mrk(k:m (A<|j+1)=dI):cN F (aJ G) (A<|j+1)=if gT F G (B j) (B<|j+1)=dI then("v":Str)else("h":Str):=by
 let e:=R.hi E hm k;ext cN;rcases R.sd j with⟨a,b⟩|⟨a,b⟩
 .rw[a,b];rfl
 .rw[e,a,b];rfl
end
section
variable{w h:Int}{F:Int×Int->Ly}{G:Gr}(E:ſ w h F G){A B:Nat->Int×Int}{m:Int×Int->Bool}(hm:xI w h F m)
include E hm
def İ.un8(R:İ w h 8 A B)(v:m (A<|j+1)=b5)(o:m (A<|j+2)=dI)(u:m (A<|j+3)=dI)(x:m (A<|j+4)=b5):gT F G (B<|j+1) (B<|j+2)=!gT F G (B<|j+2) (B<|j+3):=by let p:=R.un E hm v rfl;let s:=R.un E hm x rfl;let c:=R.pl E hm o rfl;let g:=R.pl E hm u rfl;let i:=R.sp E hm (a:=j+1) (b:=j+3) (i:=j+1) (j:=j+2) o (.inl rfl) (.inr rfl) rfl rfl ();let k:=R.sp E hm (a:=j+2) (b:=j+4) (i:=j+2) (j:=j+3) u (.inl rfl) (.inr rfl) rfl rfl ();let n:∀{a b:Nat},a%8≠b%8->A a≠A b:=λq z=>q<|R.iA _ _ z;let J:=E.nbF (R.r _) (R.r _) (n ()) i (R.sq (i:=j+1) rfl).sy p.symm (R.sq (i:=j+3) rfl) c.symm<|g.symm.trans c.symm;let K:=E.nbF (R.r _) (R.r _) (n ()) i (R.sq (i:=j+1) rfl).sy p.symm (R.sq (i:=j+3) rfl).sy (g.symm.trans c.symm) c.symm;let L:=E.nbF (R.r _) (R.r _) (n ()) k.symm (R.sq (i:=j+4) rfl) s (R.sq (i:=j+2) rfl) (c.trans g) g;let M:=E.nbF (R.r _) (R.r _) (n ()) k.symm (R.sq (i:=j+4) rfl) s (R.sq (i:=j+2) rfl).sy g<|c.trans g;let y:=R.ne E c ();let H:=R.ne E g ();let I:=R.ne E (c.trans g) ();let e:decide (aJ G (B<|j+2)<aJ G (B<|j+1))=decide (aJ G (B<|j+3)<aJ G (B<|j+2)):=decide_eq_decide.mpr ();let d:=R.dt E hm o rfl;ext gT;rw[e,d];cases decide (aJ G (B<|j+3)<aJ G (B<|j+2))<;>cases decide (d7 (F<|B<|j+1)<0)<;>rfl
def İ.al8(R:İ w h 8 A B)(N:m (A<|j+1)=dI)(X:m (A<|j+2)=b5)(H:m (A<|j+3)=dI)(I:m (A<|j+4)=dI)(Y:m (A<|j+5)=b5)(O:m (A<|j+6)=dI)(Z:m (A<|j+7)=b5)(m8:m (A<|j+8)=b5):gT F G (B j) (B<|j+1)=gT F G (B<|j+5) (B<|j+6):=by
 let c1:A (j+9)=A (j+1):=R.pA _ _ ();let T:B (j+8)=B j:=R.pB _ _ ();let K:B (j+9)=B (j+1):=R.pB _ _ ();let Q:m (A<|j+9)=true:=by rw[c1];show N
 let x:=R.un E hm X rfl;let y:=R.un E hm Y rfl;let p:=R.un E hm Z rfl;let s:=R.un E hm m8 rfl;let p3:=R.pl E hm H rfl;let p4:=R.pl E hm I rfl;let J:=R.pl E hm O rfl;let u:=R.pl E hm Q rfl;let i:∀{a b:Nat},a%8≠b%8->A a≠A b:=λq z=>q<|R.iA _ _ z;let n:=R.sp E hm (a:=j+2) (b:=j+4) (i:=j+2) (j:=j+3) H (.inl rfl) (.inr rfl) rfl rfl ();let g:=R.sp E hm (a:=j+8) (b:=j+2) (i:=j+8) (j:=j+1) Q (.inl rfl) (.inr rfl) rfl (congrArg F K) ();let o:=R.sp E hm (a:=j+3) (b:=j+5) (i:=j+3) (j:=j+4) I (.inl rfl) (.inr rfl) rfl rfl ();let d:=R.sp E hm (a:=j+5) (b:=j+7) (i:=j+5) (j:=j+6) O (.inl rfl) (.inr rfl) rfl rfl ();rw[K]at u;let⟨v,o1⟩:=E.soF (R.r _) (R.r _) (i ()) g (R.sq (i:=j+8) rfl).sy s.symm (R.sq (i:=j+2) rfl) x u;let⟨_,o2⟩:=E.soF (R.r _) (R.r _) (i ()) g.symm (R.sq (i:=j+2) rfl) x (R.sq (i:=j+8) rfl).sy s.symm u.symm;let⟨_,o3⟩:=E.soF (R.r _) (R.r _) (i ()) d (R.sq (i:=j+5) rfl).sy y.symm (R.sq (i:=j+7) rfl) p J;let⟨_,o4⟩:=E.soF (R.r _) (R.r _) (i ()) d.symm (R.sq (i:=j+7) rfl) p (R.sq (i:=j+5) rfl).sy y.symm J.symm;let c:=v.trans p3;let k:=c.trans p4;let x1:=E.nbF (R.r _) (R.r _) (i ()) (g.trans n) (R.sq (i:=j+8) rfl) s (R.sq (i:=j+4) rfl) c.symm k.symm;let x2:=E.nbF (R.r _) (R.r _) (i ()) (g.trans n) (R.sq (i:=j+8) rfl) s (R.sq (i:=j+4) rfl).sy k.symm c.symm;let x3:=E.nbF (R.r _) (R.r _) (i ()) (o.trans d).symm (R.sq (i:=j+7) rfl).sy p.symm (R.sq (i:=j+3) rfl) v.symm c.symm;let x4:=E.nbF (R.r _) (R.r _) (i ()) (o.trans d).symm (R.sq (i:=j+7) rfl).sy p.symm (R.sq (i:=j+3) rfl).sy c.symm v.symm;let n2:=R.ne E v ();let n3:=R.ne E c ();let n4:=R.ne E k ();let n1:=R.ne E u ();let n6:=R.ne E J ();let e:decide (aJ G (B<|j+1)<aJ G (B j))=!decide (aJ G (B<|j+6)<aJ G (B<|j+5)):=by rw[<- T,<- decide_not];show decide_eq_decide.mpr ()
 let U:=R.dt E hm N rfl;let L:=R.dt E hm H rfl;let M:=R.dt E hm I rfl;rw[<- x]at L;rw[y]at M;ext gT;rw[e,M,L,U];cases decide (aJ G (B<|j+6)<aJ G (B<|j+5))<;>cases decide (d7 (F<|B j)<0)<;>rfl
def İ.tw8(R:İ w h 8 A B)(H:m (A<|j+1)=dI)(L:m (A<|j+2)=b5)(M:m (A<|j+3)=b5)(N:m (A<|j+4)=b5)(p:m (A<|j+5)=dI)(O:m (A<|j+6)=b5)(Q:m (A<|j+7)=b5)(T:m (A<|j+8)=b5):gT F G (B j) (B<|j+1)=gT F G (B<|j+4) (B<|j+5):=by
 let K:B (j+8)=B j:=R.pB _ _ ();let s:=R.un E hm L rfl;let n:=R.un E hm M rfl;let d:=R.un E hm N rfl;let o:=R.un E hm O rfl;let u:=R.un E hm Q rfl;let y:=R.un E hm T rfl;let p1:=R.pl E hm H rfl;let v:=R.pl E hm p rfl;let c:∀{a b:Nat},a%8≠b%8->A a≠A b:=λq z=>q<|R.iA _ _ z;let k:=R.sp E hm (a:=j+4) (b:=j+6) (i:=j+4) (j:=j+5) p (.inl rfl) (.inr rfl) rfl rfl ();let i:=R.sp E hm (a:=j+3) (b:=j+7) (i:=j+3) (j:=j+6) p (.inl rfl) (.inr rfl) d o ();let g:=R.sp E hm (a:=j+2) (b:=j+8) (i:=j+2) (j:=j+7) p (.inl rfl) (.inr rfl) (n.trans d) (o.trans u) ();let⟨J,o1⟩:=E.soF (R.r _) (R.r _) (c ()) k (R.sq (i:=j+4) rfl).sy d.symm (R.sq (i:=j+6) rfl) o v;let⟨I,o2⟩:=E.soF (R.r _) (R.r _) (c ()) i (R.sq (i:=j+3) rfl).sy n.symm (R.sq (i:=j+7) rfl) u J;let⟨q1,X⟩:=E.soF (R.r _) (R.r _) (c ()) g (R.sq (i:=j+2) rfl).sy s.symm (R.sq (i:=j+8) rfl) y I;let⟨_,Y⟩:=E.soF (R.r _) (R.r _) (c ()) k.symm (R.sq (i:=j+6) rfl) o (R.sq (i:=j+4) rfl).sy d.symm v.symm;let⟨_,Z⟩:=E.soF (R.r _) (R.r _) (c ()) i.symm (R.sq (i:=j+7) rfl) u (R.sq (i:=j+3) rfl).sy n.symm J.symm;let⟨_,o6⟩:=E.soF (R.r _) (R.r _) (c ()) g.symm (R.sq (i:=j+8) rfl) y (R.sq (i:=j+2) rfl).sy s.symm I.symm;let U:=R.ne E v ();let e:decide (aJ G (B<|j+1)<aJ G (B j))=!decide (aJ G (B<|j+5)<aJ G (B<|j+4)):=by rw[<- K,<- decide_not];show decide_eq_decide.mpr ()
 let x:=R.dt E hm H rfl;rw[s,n,d]at x;ext gT;rw[e,x];cases decide (aJ G (B<|j+5)<aJ G (B<|j+4))<;>cases decide (d7 (F<|B j)<0)<;>rfl
def İ.tw4(R:İ w h 4 A B)(s:m (A<|j+1)=dI)(u:m (A<|j+2)=b5)(n:m (A<|j+3)=dI)(v:m (A<|j+4)=b5):gT F G (B j) (B<|j+1)=gT F G (B<|j+2) (B<|j+3):=by
 let p:B (j+4)=B j:=R.pB _ _ ();let d:=R.un E hm u rfl;let k:=R.un E hm v rfl;let g:=R.pl E hm n rfl;let o:∀{a b:Nat},a%4≠b%4->A a≠A b:=λq z=>q<|R.iA _ _ z;let c:=R.sp E hm (a:=j+2) (b:=j+4) (i:=j+2) (j:=j+3) n (.inl rfl) (.inr rfl) rfl rfl ();let⟨y,o1⟩:=E.soF (R.r _) (R.r _) (o ()) c (R.sq (i:=j+2) rfl).sy d.symm (R.sq (i:=j+4) rfl) k g;let⟨_,o2⟩:=E.soF (R.r _) (R.r _) (o ()) c.symm (R.sq (i:=j+4) rfl) k (R.sq (i:=j+2) rfl).sy d.symm g.symm;let x:=R.ne E g ();let e:decide (aJ G (B<|j+1)<aJ G (B j))=!decide (aJ G (B<|j+3)<aJ G (B<|j+2)):=by rw[<- p,<- decide_not];show decide_eq_decide.mpr ()
 let i:=R.dt E hm s rfl;rw[d]at i;ext gT;rw[e,i];cases decide (aJ G (B<|j+3)<aJ G (B<|j+2))<;>cases decide (d7 (F<|B j)<0)<;>rfl
end
abbrev Ba(a:List Int):Nat:=if a.length=2 then 1 else((Ā a.length).map λi=>if oD a i then(if a.length=4 then 2 else 1)else 0).sum
def a2b:∀a b c d e g h i,j7 (hV [a,b,c,d,e,g,h,i])=dI->2*Ba (hV [a,b,c,d,e,g,h,i])<=(hV [a,b,c,d,e,g,h,i]).length:=by decide +kernel
def a2c:∀a b c d,j7 (hV [a,b,c,d])=dI->2*Ba (hV [a,b,c,d])<=(hV [a,b,c,d]).length:=by decide +kernel
def a2d m p:(jO m p).length=Ba (iY m p):=by
 let e:=AO m p;ext jO Ba;rw[e];by_cases h:(dN m p).length=2
 .rw[if_pos h,if_pos h];rfl
 .rw[if_neg h,if_neg h,List.length_flatMap];congr 1;show Ţ λi x=>?_;ext j8 qV;cases oD (iY m p) i with
  |false=>rfl|true=>
   by_cases a:(dN m p).length=4
   .rw[if_pos rfl,if_pos a,if_pos rfl,if_pos a];rfl
   .rw[if_pos rfl,if_neg a,if_pos rfl,if_neg a];rfl
def a2e(h:iK m p=b5):2*(jO m p).length<=(dN m p).length:=by
 let e:=AO m p;rw[a2d,<- e];replace h:j7 (iY m p)=true:=by
  unfold iK at h;cases z:j7 (iY m p)with
  |true=>rfl|false=>rw[z]at h;ext h
 revert h;unfold iY gG mv;split
 .show a2b _ _ _ _ _ _ _ _
 .show a2c _ _ _ _
abbrev fP(bs:List Bool):List Nat:=(Ā bs.length).filter λi=>bs.getD i b5
abbrev xJ(bs:List Bool)(j:Nat)(s:List Bool):Bool:=(Ā s.length).all λi=>bs.getD ((j+1+i)%bs.length) b5==s.getD i b5
abbrev gI(m:Nat->Bool)(n:Nat):Nat->Nat->Nat
 |0,i=>i|j+1,i=>gI m n j<|if m (j+1)then(2*(j+1)+(n-1)*i)%n else i
abbrev Ez(bs:List Bool):Bool:=(Ā 2).all λi=>gI (λk=>bs.getD (k%bs.length) b5) bs.length bs.length i%bs.length==i
abbrev EA(bs:List Bool):Bool:=
 if(fP bs).length=2 then(Ā 8).any λj=>xJ bs j [dI,b5,b5,b5,dI,b5,b5,b5]&&((fP bs).getD 0 0==(j+1)%8&&(fP bs).getD 1 0==(j+5)%8)
 else(Ā (fP bs).length).all λi=>!oD (hV bs) i ||
  (((Ā 8).any λj=>xJ bs j [b5,dI,dI,b5]&&((fP bs).getD i 0==(j+2)%8&&(fP bs).getD ((i+1)%(fP bs).length) 0==(j+3)%8)) &&
   (decide (¬ (fP bs).length=4)||(Ā 8).any λj=>xJ bs j [dI,b5,dI,dI,b5,dI,b5,b5]&&((fP bs).getD ((i+2)%4) 0==(j+6)%8&&(fP bs).getD ((i+3)%4) 0==(j+1)%8)))
abbrev EB(bs:List Bool):Bool:=
 if(fP bs).length=2 then(Ā 4).any λj=>xJ bs j [dI,b5,dI,b5]&&((fP bs).getD 0 0==(j+1)%4&&(fP bs).getD 1 0==(j+3)%4)
 else(Ā (fP bs).length).all λi=>!oD (hV bs) i
def a2f:∀a b c d e g h i,(!Ez [a,b,c,d,e,g,h,i]||(j7 (hV [a,b,c,d,e,g,h,i])&&EA [a,b,c,d,e,g,h,i]))=true:=by decide +kernel
def a2g:∀a b c d,(!Ez [a,b,c,d]||(j7 (hV [a,b,c,d])&&EB [a,b,c,d]))=true:=by decide +kernel
def a2h{bs:List Bool}(h:bs.length=8):∃a b c d e g k i,bs=[a,b,c,d,e,g,k,i]:=by
 match bs,h with
 |[a,b,c,d,e,g,k,i],_=>show⟨_,_,_,_,_,_,_,_,rfl⟩
def a2i{bs:List Bool}(h:bs.length=4):∃a b c d,bs=[a,b,c,d]:=by
 match bs,h with
 |[a,b,c,d],_=>show⟨_,_,_,_,rfl⟩
def Ms m l:l.filter m=(fP<|l.map m).map (cP l):=by
 let e:l=(Ā l.length).map (cP l):=by show Ou (by rw[Ã,ph]) λi h1 b=>?_;rw[List.getElem_map,List.getElem_range];ext cP;rw[yz h1,ψ,ü h1];rfl
 let a:l.filter m=((Ā l.length).filter<|m∘cP l).map (cP l):=by rw[<- zj,<- e]
 rw[a];ext fP;rw[Ã];congr 1;show P2 λi hi=>?_;let hi:=ň.mp hi;change m (cP l i)=_;ext cP;rw[yz hi,ψ,ψ,ú,ü hi];rfl
def EC(h:x=y):y=(x==dI):=by rw[h];ext y<;>rfl
def a2j:∀w∈[(1:Int),2,3],∀h∈[(1:Int),2,3],(eE w h).length<=13:=by decide +kernel
def Mt b:gH (if b=dI then("v":Str)else("h":Str))=if b then 1 else 0:=by ext b<;>decide +kernel
section
variable{w h:Int}{F:Int×Int->Ly}{G:Gr}(E:ſ w h F G){m:Int×Int->Bool}(hm:xI w h F m)
include E hm
def İ.walk(R:İ w h n A B):∀j i,aC (F<|B j) (A i)=aC (F<|B 0) (A<|gI (λk=>m<|A k) n j i)
 |0,_=>rfl|j+1,i=>by
  ext gI;cases k:m (A<|j+1)with
  |true=>rw[(R.cr E hm k).2,j5,kU,R.mi,if_pos rfl,R.pA (2*(j+1)+(n-1)*i) _ (rm _ _).symm];show İ.walk R j _|false=>rw[<- R.un E hm k rfl,if_neg ô,İ.walk R j]
def İ.lead(R:İ w h n A B)i:gI (λk=>m<|A k) n n i%n=i%n:=by let e:=R.walk E hm n i;let⟨_,wf,_,_,_⟩:=E;rw[R.pB n 0<|by rw[Nat.mod_self,Nat.zero_mod]]at e;show(R.iA _ _<|a9Z λz=>xG (wf.di<|B 0) z e).symm
variable{c:Int×Int}(hw:1<=w/\w<=3)(hh:1<=h/\h<=3)(hc:c∈eE w h)
include hw hh hc
def ED:j7 (iY m c)=dI/\(((bU c).length=8/\EA ((bU c).map m)=dI)\/((bU c).length=4/\EB ((bU c).map m)=dI)):=by
 let R:=Mr hw hh hc;let n:Ez ((bU c).map m)=true:=ϵ.mpr λi hi=>by
  let hi:=ň.mp hi;let e:(λk=>((bU c).map m).getD (k%((bU c).map m).length) b5)=λk=>m (cP (bU c) k):=funext λk=>by have:k%(bU c).length<(bU c).length:=τ _ (by rcases R.n8 with e|e<;>lia);rw[Ã];ext cP;rw[ψ,ψ,ú,ü this];rfl
  rw[e,Ã,R.lead E hm i,beq_iff_eq,yz<|by rcases R.n8 with e|e<;>lia]
 change j7 (hV<|(bU c).map m)=dI/\_;rcases R.n8 with e|e
 .let⟨b,d,g,j,o,p,q,s,a⟩:=a2h (bs:=(bU c).map m) (by rw[Ã,e]);let t:=a2f b d g j o p q s;rw[<- a,n,gf,yt,ð]at t;show⟨t.1,.inl ⟨e,t.2⟩⟩
 .let⟨b,d,g,j,a⟩:=a2i (bs:=(bU c).map m) (by rw[Ã,e]);let t:=a2g b d g j;rw[<- a,n,gf,yt,ð]at t;show⟨t.1,.inr ⟨e,t.2⟩⟩
abbrev Mu(F:Int×Int->Ly)(G:Gr)(t:Ti):Prop:=∃p q a c,t=oC p q a c/\(gH (cN F (aJ G) p)+gH (cN F (aJ G) q)+qZ a)%2=0
omit E hm hw hh hc in
def a2k{i:Nat}(hi:i<(dN m c).length):(dN m c).getD i (0,0)=cP (bU c) ((fP<|(bU c).map m).getD i 0):=by let e:dN m c=(fP<|(bU c).map m).map (cP<|bU c):=Ms m<|bU c;rw[e]at hi ⊢;rw[Ã]at hi;rw[ψ,ψ,ú,ü hi];rfl
def a2l(o:t∈jO m c):Mu F G t:=by
 let R:=Mr hw hh hc;let⟨_,k⟩:=ED E hm hw hh hc;let I:iY m c=hV ((bU c).map m):=rfl;let v:(dN m c).length=(fP<|(bU c).map m).length:=by let e:dN m c=(fP<|(bU c).map m).map (cP<|bU c):=Ms m<|bU c;rw[e,Ã]
 let g:∀{j i:Nat}{s:List Bool},xJ ((bU c).map m) j s=dI->i<s.length->m (cP (bU c)<|j+1+i)=s.getD i false:=λ{j i s} h hi=>by have:=beq_iff_eq.mp<|ϵ.mp h i<|ň.mpr hi;rw[<- this];let O:(j+1+i)%(bU c).length<(bU c).length:=τ _ (by rcases R.n8 with e|e<;>lia);rw[Ã];ext cP;rw[ψ,ψ,ú,ü O];rfl
 let fin:∀{i j:Nat}{p q:Int×Int}{a b:Bool},p=cP (bU c) (i+1)->q=cP (bU c) (j+1)->m (cP (bU c)<|i+1)=dI->m (cP (bU c)<|j+1)=dI->gT F G (cP (jR c) i) (cP (jR c)<|i+1)=b->gT F G (cP (jR c) j) (cP (jR c)<|j+1)=(b==a)->Mu F G (oC p q a c):=λ{i j p q a b} K L M N h1 u=>by show⟨p,q,a,c,rfl,?_⟩;rw[K,L,R.mrk E hm M,R.mrk E hm N,Mt,Mt,h1,u];ext a<;>ext b<;>rfl
 let at_:∀{i j n:Nat},(bU c).length=n->i<(dN m c).length->(fP<|(bU c).map m).getD i 0=j%n->(dN m c).getD i (0,0)=cP (bU c) j:=λ{i j n} e hi h=>by rw[a2k hi,h,<- e];show oI _<|rm _ _
 rcases k with⟨e,k⟩|⟨e,k⟩
 .let H:İ w h 8 (cP<|bU c) (cP<|jR c):=e▸R;unfold EA at k;unfold jO at o;by_cases u:(dN m c).length=2
  .rw[if_pos u,Ē]at o;rw[if_pos<|v▸u]at k;let⟨j,_,k⟩:=mY.mp k;dsimp[ð,beq_iff_eq]at k;let⟨d,y,x⟩:=k;rw[o];show fin (i:=j) (j:=j+4) (at_ e () y) (at_ e () x) (g d (i:=0) ⋯) (g d (i:=4) ⋯) rfl<|EC<|H.tw8 E hm (j:=j) (g d (i:=0) ⋯) (g d (i:=1) ⋯) (g d (i:=2) ⋯) (g d (i:=3) ⋯) (g d (i:=4) ⋯) (g d (i:=5) ⋯) (g d (i:=6) ⋯)<|g d (i:=7) ⋯
  .rw[if_neg u]at o;rw[if_neg λz=>u<|v.trans z]at k;let⟨i,hi,o⟩:=jb.mp o;let hi:=ň.mp hi;let k:=ϵ.mp k i<|ň.mpr<|v▸hi;unfold j8 at o;rw[I]at o;cases A:oD (hV<|(bU c).map m) i with
   |false=>rw[A]at o;ext o|true=>
    rw[A,gf,yt,ð]at k;rw[A,if_pos rfl]at o;let⟨k,l⟩:=k;rcases ĉ.mp o with o|o
    .let⟨j,_,k⟩:=mY.mp k;dsimp[ð,beq_iff_eq]at k;let⟨d,y,x⟩:=k;rw[<- v]at x;rw[o];show fin (i:=j+1) (j:=j+2) (at_ e hi y) (at_ e (τ _ ()) x) (g d (i:=1) ⋯) (g d (i:=2) ⋯) (H.un8 E hm (j:=j) (g d (i:=0) ⋯) (g d (i:=1) ⋯) (g d (i:=2) ⋯)<|g d (i:=3) ⋯)<|by cases gT F G (cP (jR c)<|j+2) (cP (jR c)<|j+2+1)<;>rfl
    .by_cases B:(dN m c).length=4
     .rw[if_pos B,Ē]at o;rw[decide_eq_false λz=>z<|v▸B,yt]at l;let⟨j,_,k⟩:=mY.mp l;dsimp[ð,beq_iff_eq]at k;let⟨d,y,x⟩:=k;rw[o];show fin (i:=j+5) (j:=j) (at_ e (by rw[B];show τ _ ⋯) y) (at_ e (by rw[B];show τ _ ⋯) x) (g d (i:=5) ⋯) (g d (i:=0) ⋯) rfl<|EC (H.al8 E hm (j:=j) (g d (i:=0) ⋯) (g d (i:=1) ⋯) (g d (i:=2) ⋯) (g d (i:=3) ⋯) (g d (i:=4) ⋯) (g d (i:=5) ⋯) (g d (i:=6) ⋯)<|g d (i:=7) ⋯).symm
     .rw[if_neg B]at o;ext o
 .let J:İ w h 4 (cP<|bU c) (cP<|jR c):=e▸R;unfold EB at k;unfold jO at o;by_cases u:(dN m c).length=2
  .rw[if_pos u,Ē]at o;rw[if_pos<|v▸u]at k;let⟨j,_,k⟩:=mY.mp k;dsimp[ð,beq_iff_eq]at k;let⟨d,y,x⟩:=k;rw[o];show fin (i:=j) (j:=j+2) (at_ e () y) (at_ e () x) (g d (i:=0) ⋯) (g d (i:=2) ⋯) rfl<|EC<|J.tw4 E hm (j:=j) (g d (i:=0) ⋯) (g d (i:=1) ⋯) (g d (i:=2) ⋯)<|g d (i:=3) ⋯
  .rw[if_neg u]at o;rw[if_neg λz=>u<|v.trans z]at k;let⟨i,hi,o⟩:=jb.mp o;let k:=ϵ.mp k i<|ň.mpr<|v▸ň.mp hi;unfold j8 at o;rw[I]at o;cases A:oD (hV<|(bU c).map m) i with
   |false=>rw[A]at o;ext o|true=>rw[A]at k;ext k
end
section
variable{w h:Int}{F:Int×Int->Ly}{G:Gr}(E:ſ w h F G)(hw:1<=w/\w<=3)(hh:1<=h/\h<=3){ms:List ((Int×Int)×Str)}(hm:xI w h F (bH ms))
include E hw hh hm
def a2m:(eE w h).find? (iK<|bH ms)=none:=Y0.mpr λc hc=>by ext iK;rw[(ED E hm hw hh hc).1];show ô
def a2n:(j9 (bH ms) w h).length<64:=by
 let l:∀a:jq,(∀c∈a,c∈eE w h)->(a.flatMap<|jO<|bH ms).length<=4*a.length:=λa=>by
  induction a with
  |nil=>show λ_=>Ø _|cons c a e=>intro hc;let h1:=e λx d=>hc x<|.tail _ d;let g:=a2e (m:=bH ms) (p:=c) (by ext iK;rw[(ED E hm hw hh<|hc c<|.head _).1];rfl);let i:=AQ (bH ms) c;rw[P4,ă,ņ];lia
 let b:(eE w h).length<=13:=a2j w (qS hw) h<|qS hh;have:=l _ λ_ h=>h;ext j9;lia
def Mv:Es (TT ms w h) λe=>gH (cN F (aJ G) e):=λs i=>by
 let⟨t,d,rfl⟩:=Ô.mp i;let⟨c,hc,d⟩:=jb.mp<|tV d;let⟨p,q,a,k,rfl,b⟩:=a2l E hm hw hh hc d;change(gH (cN F (aJ G)<|fI p q)+gH (cN F (aJ G)<|fJ p q)+qZ a)%2=0;ext fI fJ;cases g:HT.lexLt (dM q) (dM p)with
 |true=>rw[LS g,if_pos rfl,if_neg ô,Pw<|gH _];show b|false=>
  rw[if_neg ô];cases j:HT.lexLt (dM p) (dM q)with
  |true=>rw[if_pos rfl];show b|false=>rw[if_neg ô];cases LU j g;show b
end
def a2o[Decidable c]{Q:jz}(H:Q (.str<|if c then x else y,a)):if c then W (mC (.str x) b a) Q else W (mC (.str y) b a) Q:=by
 by_cases h:c
 .rw[if_pos h]at H;show(if_pos h).mpr ⟨_,rfl,H⟩
 .rw[if_neg h]at H;show(if_neg h).mpr ⟨_,rfl,H⟩
section
variable{w h:Int}{F:Int×Int->Ly}{μ:Hm}{a b:Nat}{Z:Zr}
inductive T7 (a b:Nat)(w h:Int)(r l0 l:Nat)(ν:Hm)(es:jq)(v:Int×Int->Str)(i:Nat):aF->Hm->Prop
 |mk {x6 x7 x8 x9 ww Nk Nj Ni x14 x15:Option D}{μ:Hm}(p:ν<+:μ)(g:μ[l0]?=b3 (.lst<|((es.take i).map λe=>(e,v e)).map MD))(gl:μ[l]?=b3 (.lst<|es.map PP)):T7 a b w h r l0 l ν es v i [b3<|.loc a,b3<|.loc b,b3<|.int w,b3<|.int h,b3<|.loc r,b3<|.loc l0,x6,x7,x8,x9,ww,Nk,Nj,Ni,x14,x15] μ
def a2p k(M:(w,h)∈gR)(nd:(cC w h).Nodup)(hF:∀q,ė (F q))(L:μ[a]?=b3 (.dT<|bT (λq=>LD<|F q)<|cC w h))(I:HI μ b Z)(hb:μ[b]?=b3 (.dT<|bA Z))(P:ħ (cC w h) (λq=>aC (F q) q) (GZ Z))(Q:jz)(H:∀c o,μ<+:o->o[c]?=b3 (.lst<|(AR w h F<|aJ<|GZ Z).map MD)->Q (.loc c,o)):W (f (k+3) "_law_marks" [.loc a,.loc b,.int w,.int h] μ) Q:=by
 let⟨_,_,N,_,_,A,_,T⟩:=hW _ M;replace N:(cC w h).length<=48:=N;replace A:(bF w h).length<=64:=A;let E:=P.flat nd;let p:(flat<|GZ Z).Nodup:=E.nodup_iff.mpr nd;show Ï (YB (k+2) _ _ _ _ μ) (bD<|aS rfl<|a0q (k+1) nd () I hb P _ λr g B U=>bD<|æ.mpr ⟨_,rfl,ĵ _,fX<|É.mpr<|Ó.mpr<|aS rfl<|a0o k M nd (λ_ z=>z) (aD (B.trans<|aR _ _) L) _ λl v R gl=>(eI gl).mpr ?_⟩);let q2:g<+:v:=(aR _ _).trans R;let n:v[g.length]?=b3 (.lst []):=aD R<|bE _ _;let lc:g.length≠l\/pO w h F=[]:=by
  by_cases e:g.length=l
  .rw[e,gl]at n;show .inr<|by apply n
  .show .inl e
 let cl:(pO w h F).length<=64:=Ğ (ż _ _) A;show jF (T7 a b w h r g.length l g (pO w h F)<|cN F<|aJ<|GZ Z) (.mk q2 n gl) (by rintro _ _ _ ⟨_,_,z⟩;show z) ?_ ?_
 .rintro i d J G hd ⟨s,x,X⟩;let⟨e,y,rfl⟩:=nE hd;let ne:g.length≠l:=lc.resolve_right λz=>by rw[z]at y;ext y
  let⟨_,O,m2,_⟩:=T e (ģ.mp<|Ĵ y).1;let lt:=ir i<|pO w h F;show⟨_,rfl,Ç.mpr (Ě.mpr<|aS rfl<|K1 (k+1) e _ _ λc μ4 u Y=>(Jl Y).mpr<|Ç.mpr<|Ě.mpr<|aP rfl rfl<|(gC (.inl<|aD (B.trans<|s.trans u) L) (b9 _)<|iX nd O).mpr<|ő.mpr ?_) ⟩;let K:=aD (s.trans u) U;let j:=aD u x;let⟨h1,h2,_,_⟩:=(hF<|sA e).sm;show bD<|aO<|aP rfl rfl<|(gC (.inl K) (b9 _)<|iX p<|E.mem_iff.mpr O).mpr<|aP rfl rfl<|(gC (.inl K) (b9 _)<|iX p<|E.mem_iff.mpr m2).mpr<|Ń.mpr ?_;show ë.mpr<|jG ⟨_,rfl,iI j,aQ<|à.mpr<|aQ ⟨_,rfl,aQ<|ę.mpr<|c5<|aO ⟨_,rfl,aO<|aO<|aP rfl rfl<|(l8 h1).mpr<|aP rfl rfl<|(l8 h2).mpr<|ũ.mpr ⟨_,rfl,ı.mpr<|Ŭ.mpr ⟨_,rfl,?_⟩⟩⟩⟩⟩;show a2o ⟨_,rfl,gZ,_,rfl,(mZ j<|by rw[Ã,Ã,ï];lia).mpr<|.mk (cZ (s.trans u) (Ø _) _) ?_<|(ñ ne).trans<|aD u X⟩;rw[cU j,jM y,þ,þ];rfl
 .rintro J G ⟨s,x,_⟩;rw[Ã,Ź]at x;show⟨rfl,cJ ⟨_,rfl,H _ _ (B.trans s) x⟩⟩
inductive Pa (l:Nat)(ns:List Int)(sh:Int)(l0:Nat)(ν:Hm)(T:List ((Int×Int)×Str))(i:Nat):aF->Hm->Prop
 |mk {x4 x5 x6:Option D}{μ:Hm}{S:List ((Int×Int)×Str)}(p:ν<+:μ)(g:μ[l0]?=b3 (.lst<|S.map MD))(e:S.map (·.1)=(T.take i).map (·.1))(ok:∀m∈S,m.2="o"\/m∈T):Pa l ns sh l0 ν T i [b3<|.loc l,b3<|.rol<|ns.map D.int,b3<|.loc l0,b3<|.int sh,x4,x5,x6] μ
open _root_ in
def a2q k(ns:List Int){T:List ((Int×Int)×Str)}(O:T.length<=64)(gl:μ[l]?=b3 (.lst<|T.map MD))(Q:jz)(H:∀c (S:List ((Int×Int)×Str)) μ',μ<+:μ'->μ'[c]?=b3 (.lst<|S.map MD)->S.map (·.1)=T.map (·.1)->(∀m∈S,m.2="o"\/m∈T)->Q (.loc c,μ')):W (f (k+3) "_law_opened" [.loc l,.rol<|ns.map D.int] μ) Q:=by
 show Ï (YC (k+2) _ _ μ) (bD<|æ.mpr ⟨_,rfl,ĵ _,bD<|aO<|aS rfl<|AF k ns 1 ⋯ _ _ λv L a a y=>⟨_,rfl,(iH ⋯).mpr<|fX<|É.mpr<|Ó.mpr ⟨_,rfl,(eI<|aD ((aR _ _).trans y) gl).mpr ?_⟩⟩⟩);generalize v%11=sh;show jF (Pa l ns sh μ.length μ T) (.mk (S:=[]) ((aR _ _).trans y) (aD y<|bE _ _) rfl λ_ z=>nomatch z) (by rintro _ _ _ ⟨p,_⟩;show aD p gl) ?_ ?_
 .rintro i d G o hd ⟨A,j,g,ok⟩;rename_i S;let⟨m,I,rfl⟩:=D0 hd;let N:S.length<=64:=by have:=congrArg Ĭ g;rw[Ã,Ã,Ι]at this;lia
  let e:∀{s:Str}{E:Hm}{J:Option D},(s="o"\/(m.1,s)∈T)->o<+:E->W (eZ (.loc μ.length) [.tup [PP m.1,.str s]] E) λp=>Pa l ns sh μ.length μ T (i+1) [b3<|.loc l,b3<|.rol<|ns.map D.int,b3<|.loc μ.length,b3<|.int sh,b3<|PP m.1,b3<|.str m.2,J] p.2:=λ{s E J} K p=>by
   let q:=aD p j;show(mZ q<|by rw[Ã,ï];lia).mpr<|.mk (S:=S++[(m.1,s)]) (cZ (A.trans p) (Ø _) _) ?_ ?_ λx n=>?_
   .rw[cU q,þ];rfl
   .rw[þ,g,jM I,þ];rfl
   .rcases Ħ.mp n with n|n
    .show ok x n
    .rw[Ē.mp n];show K
  show⟨_,rfl,bD<|dJ<|aQ ⟨_,rfl,aQ<|aP rfl (eD<|aS rfl<|(jH j).mpr rfl)<|Û.mpr ⟨_,rfl,?_⟩⟩⟩;rw[Ã];show AF k ns _ () _ _ λu M a a B=>?_;let q:=aD B j;show ë.mpr (jG ⟨_,rfl,iI q,aQ<|à.mpr<|aQ ⟨_,rfl,aQ (ę.mpr<|c5<|aO<|aO<|aP rfl rfl<|(sI ⋯<|by decide).mpr ⟨_,rfl,(iH ⋯).mpr ⟨_,rfl,ı.mpr ⟨_,rfl,?_⟩⟩⟩) ⟩⟩);cases decide (u/8%10<sh)with
  |true=>show(if_pos rfl).mpr ⟨_,rfl,_,rfl,gZ,_,rfl,e (.inr<|Ĵ I) B⟩|false=>show(if_neg ô).mpr ⟨_,rfl,_,rfl,gZ,_,rfl,e (.inl rfl) B⟩
 .rintro G o ⟨A,j,g,ok⟩;rw[Ã,Ź]at g;show⟨rfl,cJ ⟨_,rfl,H _ _ _ A j g ok⟩⟩
end
def EE{f:a->b3k b}:∀t,lR ans (t.bind f)=lR ans (f<|lR ans t)
 |.ret _=>rfl|.ask i j k=>EE<|k<|ans i j
def Mw p:∀f m,(∀j,m<=j->j<m+f->ans (p.getD j 0) (p.getD (j-1) 0)=b5)->lR ans (P0 p f m)=m+f
 |0,_,_=>rfl|f+1,m,h=>by change lR ans (if ans (p.getD m 0) (p.getD (m-1) 0)=dI then yg m else P0 p f (m+1))=_;rw[if_neg<|by rw[h m (Ø _) ()];show ô,Mw p f (m+1) λj h1 a=>h j () ()];lia
def a2r(h:∀j,1<=j->j<n->ans j (j-1)=b5):c6 ans n=Ā n:=by
 cases n with
 |zero=>show List.eq_nil_of_length_eq_zero (by rw[(jV ans 0).length_eq];rfl)|succ n=>
  let g:∀j,j<n+1->(Ā<|n+1).toArray.getD j 0=j:=λj a=>by rw[Array.getD_eq_getD_getElem?,Rq,RB a];rfl
  let e:lR ans (P0 (Ā<|n+1).toArray n 1)=n+1:=by rw[Mw _ n 1 λj h1 b=>by rw[g j (),g (j-1) ()];show h j h1 (),Nat.add_comm]
  let c:lR ans (Rk (n+1) (Ā<|n+1).toArray)=(n+1,(Ā<|n+1).toArray):=by ext Rk;rw[EE,show n+1-1=n from rfl,e,if_pos<|beq_self_eq_true _];rfl
  ext c6 PySem.W.kas_sort;rw[EE,c,if_neg<|ε _];rfl
def a2s(h:(ps.map aV).Pairwise λx y=>HT.lexLt x y=dI):kY ps=ps:=by
 ext kY;rw[a2r λj h1 c=>?_,DH];let a:j<(ps.map aV).length:=by rw[Ã];show c
 let b:j-1<(ps.map aV).length:=()
 rw[ψ,ψ,ü a,ü b];show Zg<|vd.mp h (j-1) j b a ()
def a2t k(i:sW w h e)a:f (k+3) "is_inner_edge" [.int w,.int h,PP e] a=b3 (.bl dI,a):=by
 let⟨j,g⟩:=ģ.mp i;obtain⟨⟨h1,b⟩,c,d⟩:=Ο.mp j;show AZ (XE (k+2) _ _ _ a)<|uS (d:=dI) (uT rfl<|AZ (Xo (k+1) _ a)<|uS (c:=dI) (d:=dI) ""<|uS (c:=dI) (d:=dI) ""<|uS (uT rfl<|LL k _ a)<|uT rfl<|LL k _ a)<|uS (c:=dI) (d:=dI) (uT rfl<|AZ (XA (k+1) _ _ _ a) ?_)<|uT rfl<|eD<|(Lg (k+1) e.1 e.2 _ _).mpr ?_
 .show uS (c:=dI) (d:=dI) ?_ ?_
  .show(LK (x:=0) (y:=e.1) (z:=4*w) rfl rfl rfl).trans ?_;rw[decide_eq_true h1,decide_eq_true b];rfl
  .show(LK (x:=0) (y:=e.2) (z:=4*h) rfl rfl rfl).trans ?_;rw[decide_eq_true c,decide_eq_true d];rfl
 .rw[g]
def a2u k(hsz:(w,h)∈gR){S:List ((Int×Int)×Str)}(E:S.length<64)(up:((S.map (·.1)).map aV).Pairwise λx y=>HT.lexLt x y=dI)(A:∀p∈S,p.1∈bF w h)(ok:∀p∈S,D4 p.2){c:Hm}(v:c[a]?=b3 (.lst<|S.map MD))(Q:jz)(H:∀b,c<+:b->Q (SH w h S,b)):W (f (k+4) "sheet_of" [.int w,.int h,.loc a] c) Q:=by
 let F:=hW _ hsz;let nd:=AY up;show Ï (XF (k+3) _ _ _ c)<|Ar<|aS rfl<|a0E k F.1 F.2.1 _ _<|bD<|á.mpr<|fX<|É.mpr<|Ó.mpr ⟨_,rfl,(eI<|aD (aR _ _) v).mpr ?_⟩;show jF (λi j b=>∃x y,j=[b3<|.int w,b3<|.int h,b3<|.loc a,b3<|.loc c.length,x,y]/\c<+:b/\b[c.length]?=b3 (.dT<|bT (uQ S)<|(S.take i).map (·.1)))
  ⟨b4,b4,rfl,aR _ _,by rw[nj];show bE _ _⟩ (by rintro _ _ _ ⟨_,_,_,p,_⟩;show aD p v) ?_ ?_
 .rintro i d j b hd ⟨x,y,rfl,u,n⟩;let⟨p,s,rfl⟩:=D0 hd;let g:p∈S:=Ĵ s;let z:sW w h p.1:=by ext sW;rw[show(jN w h).filter oF=bF w h from D6 _ hsz];show A p g
  let o:p.1∉(S.take i).map (·.1):=by rw[yu];show qT nd<|by rw[ú,s];rfl
  let B:(bT (uQ S)<|(S.take i).map (·.1)).length<Ñ:=by rw[Ã,Ã,Ι,ï];lia
  show⟨_,rfl,bD<|aP rfl rfl<|ĺ.mpr<|sL<|sN<|hJ<|aS rfl<|hG (a2t k z _) ⟨rfl,rfl,nZ<|sL<|sN<|hJ<|dJ<|aQ<|aP rfl rfl<|Č.mpr ⟨_,rfl,a0F (k+2) (ok p g) _ _ ⟨rfl,rfl,nZ<|sL<|c5<|aP rfl rfl<|(uH n<|b9 p.1).mpr ?_⟩⟩⟩⟩;rw[DO o];show⟨_,rfl,rfl,nZ<|Ć.mpr<|aP rfl rfl<|Č.mpr ⟨_,rfl,_,rfl,(l7 n (b9 p.1) B).mpr ⟨_,_,rfl,cZ u (Ø _) _,?_⟩⟩⟩;rw[cU n,<- D5 nd g,DP o,jM s,þ];rfl
 .rintro j b ⟨x,y,rfl,u,n⟩;rw[Ã,Ź]at n;let e:zK (.loc c.length) b=b3 (.tup<|S.map MD,b):=by
   dsimp[zK,n];rw[if_pos<|by first|show trivial|(rw[Ã,Ã];lia),Kf,a2s up];ext bT;rw[ã,ã];have:S.map ((zJ∘λq=>(aV q,uQ S q))∘λx=>x.1)=S.map MD:=Ţ λp s=>by change D.tup [.tup<|(aV p.1).map D.int,uQ S p.1]=MD p;rw[D5 nd s];rfl
   rw[this]
  show⟨rfl,cJ<|à.mpr<|aQ ⟨_,rfl,aQ ⟨_,rfl,aQ<|Ä.mpr ⟨_,rfl,_,e,_,rfl,by change(3:Nat)<=Ñ;decide,H _ u⟩⟩⟩⟩
def a2v k{qs:jq}(nd:qs.Nodup)(L:qs.length<=36)(E:∀q,ė (F q))(s:row.Perm qs){S:List ((Int×Int)×Str)}(M:S.length<=48)(G:∀p∈S,Pe qs F p.1)(J:o[a]?=b3 (.dT<|bT (λq=>LD<|F q) row))(I:HI o b Z)(A:o[b]?=b3 (.dT<|bA Z))(P:ħ qs (λq=>aC (F q) q) (GZ Z))(K:∀p∈S,p.2="o"\/p.2=cN F (aJ<|GZ Z) p.1)(Q:jz)(H:∀d,o<+:d->Q (.bl dI,d)):W (f (k+6) "keeps" [SH w h S,.loc a,.loc b] o) Q:=by
 show Ï (X4 (k+5) _ _ _ o)<|fX<|É.mpr<|Xk<|aQ<|aP rfl rfl<|ū.mpr<|aQ<|aS rfl<|Lc (w:=w) (h:=h) k nd L E s M G J I A P _ λc g N l B=>⟨_,rfl,c,S.map MD,_,rfl,B,?_⟩;rw[Ã,Ã,Ã,Py];let u:∀d,g<+:d->∀i,jX (.tup<|S.map MD) (.loc c) d i=b3 ((S[i]?).map λp=>.tup [MD p,MD (p.1,cN F (aJ<|GZ Z) p.1)]):=λd v i=>by dsimp[jX,bO,aD v B,Đ,Ĕ];rw[ã,ú,ú];cases S[i]?<;>rfl
 show nX (N:=S.length) (λi j d=>(∃x y,j=[b3<|SH w h S,b3<|.loc a,b3<|.loc b,x,y])/\g<+:d) (λi j d hi ⟨⟨x,y,z⟩,n⟩=>?_) (λj d ⟨⟨x,y,z⟩,n⟩=>?_) S.length 0 _ g (Q1 _) ⟨⟨b4,b4,rfl⟩,č _⟩
 .subst z;let e:S[i]?=b3 S[i]:=ü hi;let v:=K _<|j0 hi;generalize S[i]=p at e v;show⟨.tup [MD p,MD (p.1,cN F (aJ<|GZ Z) p.1)],[b3<|SH w h S,b3<|.loc a,b3<|.loc b,b3<|MD p,b3<|MD (p.1,cN F (aJ<|GZ Z) p.1)],(u d n i).trans<|by rw[e];rfl,rfl,Ò.mpr<|ě.mpr<|c5<|aP (x:=.str p.2) (eD<|aP rfl rfl<|Č.mpr rfl) rfl ⟨_,uY dI _ _ _,_,rfl,?_⟩⟩;cases A:p.2==("o":Str)with
  |true=>show gQ rfl (gQ rfl<|Î.mpr ⟨⟨_,_,rfl⟩,n⟩)|false=>show kZ rfl<|c5<|aP (x:=.str p.2) (y:=.str (cN F (aJ<|GZ Z) p.1)) (eD<|aP rfl rfl<|Č.mpr rfl) (eD<|aP rfl rfl<|Č.mpr rfl) ⟨_,uY dI _ _ _,_,rfl,gQ ?_<|Î.mpr ⟨⟨_,_,rfl⟩,n⟩⟩;rw[v.resolve_left<|beq_eq_false_iff_ne.mp A];show congrArg not<|beq_self_eq_true _
 .subst z;show⟨(u d n _).trans<|by rw[cj<|Ø _];rfl,rfl,cJ ⟨_,rfl,H _<|N.trans n⟩⟩
def a2w:∀w∈[(1:Int),2,3],∀h∈[(1:Int),2,3],(bF w h).length<=48/\(cC w h).length<=36:=by decide +kernel
def Mx a n:∀T:jq,lI (eL (n+3) a) (T.map PP) (T.map PP)=b3 dI
 |[]=>rfl|p::T=>by let e:eL (n+3) a (PP p) (PP p)=b3 (p.1==p.1&&(p.2==p.2&&dI)):=rfl;change(eL (n+3) a (PP p)<|PP p).bind (λb=>(lI (eL (n+3) a) (T.map PP)<|T.map PP).map λc=>b&&c)=_;rw[e,Mx a n T,beq_self_eq_true,beq_self_eq_true];rfl
def a2x{T:jq}{Q:jz}(g:c[a]?=b3 (.lst<|T.map PP))(i:c[b]?=b3 (.lst<|T.map PP))(H:Q (.bl b5,c)):W (aZ dI (.loc a) (.loc b) c) Q:=by
 let d:∀{x:Nat}{xs:List D},c[x]?=b3 (.lst xs)->kK c (.loc x)=b3 (.lst xs):=λh=>by dsimp[kK,h]
 let e:eL 8 c (.loc a) (.loc b)=b3 true:=by change(kK c<|.loc a).bind (λu=>(kK c<|.loc b).bind λv=>vH (eL 7 c) u v)=_;rw[d g,d i];show Mx c 4 T
 ext aZ;rw[e];show À.mpr H
def My{c:Hm}{T:List ((Int×Int)×Str)}(h:e[n]?=b3 (b3<|.loc a))(j:e.length=17)(o:T.length<=64)(g:c[a]?=b3 (.lst<|T.map MD))(Q:jz)(H:∀b μ',c<+:μ'->μ'[b]?=b3 (.lst<|(T.map (·.1)).map PP)->Q (.loc b,μ')):W (gX (pW 2) (cS<|aE n) fE (aE 17) e c) Q:=by
 let v:aE n e c=b3 (.loc a,c):=by ext aE;rw[h]
 show An (xs:=T.map MD) (x:=λd=>[b3<|sU d,b3<|D3 d]) (p:=λ_=>dI) (v:=sU)<|Ó.mpr ⟨_,v,(eI g).mpr ⟨mW g,rfl,by rw[Ã,ï];lia,λd μ' hd=>?_,λd μ' hd k=>õ.mpr ⟨rfl,č _⟩,λd μ' hd y k=>?_,λμ' p i=>?_⟩⟩
 .let⟨m,_,rfl⟩:=Ô.mp hd;rfl
 .show⟨(sU d,μ'),?_,rfl,č _⟩;ext aE;rw[jf (),j];rfl
 .show H _ _ p ?_;rw[i,zy.mpr λ_ y=>rfl,ã,ã];rfl
def a2y x y z a:eH dI (.str x) (.tup [.str y,.str z]) a=b3 (.bl<|!(y==x||(z==x||false)),a):=""
abbrev i7(v:Int×Int->Str)(S:List ((Int×Int)×Str)):List ((Int×Int)×Str):=S.map λm=>(m.1,v m.1)
inductive T6 (S ds:List (Option D))(l:Nat)(ν:Hm)(M:List ((Int×Int)×Str))(i:Nat):aF->Hm->Prop
 |mk {x9 ww:Option D}{μ:Hm}(p:ν<+:μ)(g:μ[l]?=b3 (.dT<|cY<|M.take i)):T6 S ds l ν M i (S++b3 (.loc l)::x9::ww::ds) μ
open _root_ in
def a2z k(ns:List Int)μ:W (f (k+11) "law" [.rol<|ns.map D.int] μ) λr=>r.1=.bl true:=by
 show Ï (YD (k+10) _ μ) (bD<|aS rfl<|AF (k+8) ns 0 ⋯ _ _ λv μ1 l l p1=>bD<|aO ⟨_,rfl,aP rfl rfl<|(iH ⋯).mpr<|Û.mpr<|bD<|aO ⟨_,rfl,aO<|aP rfl rfl<|(sI ⋯<|by decide).mpr ⟨_,rfl,(iH ⋯).mpr<|Û.mpr ?_⟩⟩⟩);let hw:1<=1+v%3/\1+v%3<=3:=()
 let R:1<=1+v/3%3/\1+v/3%3<=3:=()
 generalize 1+v%3=w at hw;generalize 1+v/3%3=h at R;let sz:=a0I hw R;let h6:(1<=w/\w<=6)/\1<=h/\h<=6:=()
 let⟨l48,X⟩:=a2w w (qS hw) h<|qS R;let⟨_,_,_,l0,upq,_,upR,fr⟩:=hW _ sz;let nd:(cC w h).Nodup:=AY<|AG upq;let upr:=AG upR;show Ç.mpr (Ě.mpr<|dJ<|aQ ⟨_,rfl,aQ ⟨_,rfl,aQ ⟨_,rfl,aQ ⟨_,rfl,aQ<|aO<|aP rfl rfl<|(sI ⋯<|by decide).mpr ⟨_,rfl,(iH ⋯).mpr ⟨_,rfl,?_⟩⟩⟩⟩⟩⟩);show ZM (λF G=>JL F/\NC w h F G) (k+7) ns w h ⟨a1a,a1D _⟩ (λF G u n a o hu L P J=>⟨a1b F u n a hu L J.1,a1c sz (J.1.wf sz) P hu L J.2⟩) hw R 2 (v/9%6) ⋯ () nd X l0 _ _ λa b F Z μ2 p2 I J=>Œ.mpr ?_;let wf:=J.1.wf sz;let E:ſ w h F (GZ Z):=⟨sz,wf,nd,I.pl,J.2⟩;show bD<|dJ<|aQ<|aS rfl<|a2p (k+7) sz nd I.di I.hw I.hi I.hh I.pl _ λl μ3 p3 g3=>aQ ⟨_,rfl,_,rfl,?_⟩;let cl:(pO w h F).length<=48:=Ğ (ż _ _) l48;show a2q (k+7) ns (T:=AR w h F (aJ<|GZ Z)) (by ext AR;rw[Ã];lia) g3 _ λc S μ4 p4 g4 eS okS=>?_;let kS:S.map (·.1)=pO w h F:=by rw[eS];ext AR;rw[ã];show OE _
 let lS:S.length<=48:=by have:=congrArg Ĭ kS;rw[Ã]at this;lia
 let H:∀m∈S,m.1∈bF w h/\F (sA m.1)≠F (sB m.1):=λm A=>by
  have:m.1∈pO w h F:=by rw[<- kS];show Ô.mpr ⟨m,A,rfl⟩
  let⟨h1,h2⟩:=ģ.mp this;show⟨h1,by apply h2⟩
 let mkS:∀m∈S,m.2="o"\/m.2=cN F (aJ<|GZ Z) m.1:=λm A=>(okS m A).imp id λz=>by let⟨e,_,rfl⟩:=Ô.mp z;rfl
 let upS:((S.map (·.1)).map aV).Pairwise λx y=>HT.lexLt x y=true:=by rw[kS];show upr.sublist<|ig.map _
 let ndS:=AY upS;let mF:xI w h F (bH S):=λe U=>by
  let e1:bH S e=decide (e∈S.map (·.1)):=by ext bH;rw[γ,mY,decide_eq_true_iff];show⟨λ⟨x,h1,h2⟩=>by rw[<- beq_iff_eq.mp h2];show h1,λh=>⟨e,h,beq_self_eq_true _⟩⟩
  rw[e1,kS,γ,decide_eq_true_iff];show⟨λh=>(ģ.mp h).2,λh=>ģ.mpr ⟨U,h⟩⟩
 let crF:∀m∈S,Pe (cC w h) F m.1:=λm A=>by let⟨h1,h2⟩:=H m A;let⟨r1,qa,qb,_⟩:=fr m.1 h1;show⟨r1,qa,qb,(wf.ed m.1 h1).resolve_left h2⟩
 let K:ŧ (TT S w h) S (cN F<|aJ<|GZ Z):=⟨Ξ F _,Mv E hw R mF,mkS⟩;let okm:∀m∈S,D4 m.2:=λm A=>(K.ok A).imp id Or.symm;let hb:=a2m E hw R mF;let L:oZ (j9 (bH S) w h):=a2n E hw R mF;let hS:dg S:=⟨(),ndS,λm A=>K.ok A⟩;show bD (aS rfl<|a2u (k+6) sz () upS (λm A=>(H m A).1) okm g4 _ λμ5 p5=>?_);let Y:=p3.trans<|p4.trans p5;let d5:Dr (cC w h) μ5 a b F (cC w h) Z:=⟨aD Y I.hw,.refl _,I.hi.more Y,aD Y I.hh,I.pl⟩;let g5:=aD p5 g4;show Ç.mpr<|Ò.mpr<|Dx<|c5<|aO<|aS rfl<|a1h (k+4) sz wf nd d5 (λe U x T ne sp s0 s1 hp=>E.cr U T ne sp hp) _ λμ6 p6=>⟨_,rfl,?_⟩;show ĕ.mpr ⟨_,rfl,rfl,sN<|hJ (b:=dI)<|aS rfl<|a2v (k+4) nd X wf.di (.refl _) lS crF (d5.more p6).hw (d5.more p6).hi (d5.more p6).hh (d5.more p6).pl mkS _ λB p7=>⟨rfl,gQ rfl<|Î.mpr<|bD<|á.mpr<|fX<|É.mpr<|Ó.mpr<|aS rfl ?_⟩⟩;let Pj:=p6.trans p7;let d8:=d5.more<|Pj.trans<|aR B<|C.dT [];show Lc (k+5) nd X wf.di (.refl _) lS crF d8.hw d8.hi d8.hh d8.pl _ λm μ8 p8 lm g8=>(eI g8).mpr ?_;let ndM:((i7 (cN F<|aJ<|GZ Z) S).map (·.1)).Nodup:=by ext i7;rw[ã];show ndS
 let lM:(i7 (cN F<|aJ<|GZ Z) S).length<=48:=by ext i7;rw[Ã];show lS
 let vM:∀{e},e∈S.map (·.1)->a9 (cY<|i7 (cN F<|aJ<|GZ Z) S) (aV e)=b3 (.str<|cN F (aJ<|GZ Z) e):=λ{e} U=>by let⟨x,T,rfl⟩:=Ô.mp U;show Ew ndM (m:=(x.1,cN F (aJ<|GZ Z) x.1))<|Ô.mpr ⟨x,T,rfl⟩
 let nl:B.length≠m:=û (ĸ (by rw[ă];show Ϧ _) lm);show jF (λi j g=>T6 [b3<|.rol<|ns.map D.int,b3<|.int v,b3<|.int w,b3<|.int h,b3<|.loc a,b3<|.loc b,b3<|.loc c,b3<|SH w h S] [b4,b4,b4,b4,b4,b4] B.length B (i7 (cN F<|aJ<|GZ Z) S) i j g/\g[m]?=b3 (.lst<|(i7 (cN F<|aJ<|GZ Z) S).map MD)) ⟨.mk ((aR _ _).trans p8)<|by rw[nj];show aD p8<|bE _ _,g8⟩ (λ_ l l z=>z.2) ?_ ?_
 .rintro i d j μ9 hd ⟨⟨p9,g9⟩,gm⟩;let⟨x,T,rfl⟩:=D0 hd;replace T:(i7 (cN F<|aJ<|GZ Z) S)[i]?=b3 x:=T;let L:=qT ndM (n:=i) (x:=x.1) (by rw[ú,T];rfl);rw[<- yu]at L;let lt:=ir i<|i7 (cN F<|aJ<|GZ Z) S;show⟨_,rfl,Ć.mpr ⟨_,rfl,_,rfl,_,rfl,(l7 g9 (b9 x.1)<|by ext cY;rw[Ã,ï];lia).mpr ⟨.mk (cZ p9 (Ø _) _) ?_,?_⟩⟩⟩
  .rw[cU g9,LM L,jM T]
  .rw[ñ nl];show gm
 .rintro j μ9 ⟨⟨p9,g9⟩,_⟩;rename_i y9 y10;rw[show(MP (λp=>(p.1,cN F (aJ<|GZ Z) p.1)) S)=i7 (cN F<|aJ<|GZ Z) S from rfl,Ã,Ź]at g9;show⟨rfl,fX<|É.mpr<|Ó.mpr<|aS rfl<|K0 (k+3) h6.1 h6.2 hb L _ _ λt μA pA l gA=>?_⟩;rw[LV]at gA;let gB:=aD pA g9;show(eI gA).mpr<|jF (λi j g=>μA<+:g/\∃M N O Q,j=[b3<|.rol<|ns.map D.int,b3<|.int v,b3<|.int w,b3<|.int h,b3<|.loc a,b3<|.loc b,b3<|.loc c,b3<|SH w h S,b3<|.loc B.length,y9,y10,M,N,O,Q,b4,b4]) ⟨č _,_,_,_,_,rfl⟩ (λ_ l l z=>aD z.1 gA) ?_ ?_
  .rintro i d j μB hd ⟨pB,M,N,O,Q,rfl⟩;rw[ú]at hd;let⟨s,hs,rfl⟩:=ţ.mp hd;let hsT:=Ĵ hs;obtain⟨⟨s1,s2⟩,_⟩:=Ej hsT;let it:∀{e},e∈S.map (·.1)->bG (.loc B.length) (PP e) μB=b3 (.str<|cN F (aJ<|GZ Z) e,μB):=λ{e} U=>eD<|(Dm (aD pB gB) (b9 e)<|vM U).mpr rfl;let z:=Mv E hw R mF s hsT;show⟨_,rfl,Ò.mpr<|c5<|aO<|aO<|aP rfl rfl ⟨_,it s1,aP rfl rfl ⟨_,it s2,_,uY b5 _ _ _,_,rfl,_,Mh _ _ _,_,rfl,gQ (a1G (Ξ F _ _) (Ξ F _ _) z)<|Î.mpr ⟨pB,_,_,_,_,rfl⟩⟩⟩⟩
  .rintro j μB ⟨pB,M,N,O,Q,rfl⟩;let hI:∀m∈S,sW w h m.1:=λm A=>by ext sW;rw[show(jN w h).filter oF=bF w h from D6 _ sz];show(H m A).1
   show⟨rfl,sL<|c5<|aO<|aS rfl<|a1T k h6.1 h6.2 K hS hI hb L _ _ λμC pC=>⟨_,rfl,ĕ.mpr ⟨_,rfl,rfl,nZ ?_⟩⟩⟩;show bD<|aS rfl<|a1C k h6.1 h6.2 hS hb L (dm:=mI (TT S w h) S (cN F<|aJ<|GZ Z)) (λe h l=>ŧ.h0 h) K.h1 _ _ λq μD pD l gD=>?_;replace gD:μD[q]?=b3 (.lst<|(i7 (mI (TT S w h) S<|cN F<|aJ<|GZ Z) S).map MD):=by rw[gD];ext i7;rw[ã];rfl
   let Pg:=pA.trans<|pB.trans<|pC.trans pD;let Ph:=Pj.trans<|p9.trans Pg;let lD:(i7 (mI (TT S w h) S<|cN F<|aJ<|GZ Z) S).length=S.length:=Ã ..;show sL (c5<|aO<|My (n:=15) rfl rfl () gD _ λb1 μE pE gE=>My (n:=6) rfl rfl () (aD (Ph.trans pE) g5) _ λb2 μF pF gF=>?_);rw[show(i7 (mI (TT S w h) S<|cN F<|aJ<|GZ Z) S).map (·.1)=S.map (·.1) by ext i7;rw[ã];rfl]at gE;show a2x (aD pF gE) gF ⟨_,rfl,rfl,nZ ?_⟩;let pDF:=pE.trans pF;let gq:=aD pDF gD;let gc:=aD (Ph.trans pDF) g5;let gl:=aD (Pg.trans pDF) g9;show fX<|É.mpr<|(Ak (j:=0)).mpr<|aQ<|aS rfl<|(jH gq).mpr ⟨_,rfl,?_⟩;rw[Ã,lD];show⟨⟨(),()⟩,?_⟩;dsimp;rw[bw];show qO (λi j g=>μF<+:g/\∃z9 Nh Ng,j=[b3<|.rol<|ns.map D.int,b3<|.int v,b3<|.int w,b3<|.int h,b3<|.loc a,b3<|.loc b,b3<|.loc c,b3<|SH w h S,b3<|.loc B.length,z9,Nh,M,N,O,Q,b3<|.loc q,Ng]) ⟨č _,_,_,_,rfl⟩ ?_ ?_
   .rintro i j g hi ⟨pG,z9,Nh,Ng,rfl⟩;show⟨_,rfl,?_⟩;rw[OM];let A:S[i]?=b3 S[i]:=ü hi;generalize S[i]=m' at A;let hmS:=Ĵ A;let i1:bG (.loc q) (.int (i:Int)) g=b3 (MD (m'.1,mI (TT S w h) S (cN F<|aJ<|GZ Z) m'.1),g):=eD ((dY (aD pG gq)<|uM<|by ext i7;rw[ú,ú,A];rfl).mpr rfl);let i2:bG (.loc c) (.int (i:Int)) g=b3 (MD m',g):=eD ((dY (aD pG gc)<|uM<|by rw[ú,A];rfl).mpr rfl);let i3:bG (.loc B.length) (PP m'.1) g=b3 (.str<|cN F (aJ<|GZ Z) m'.1,g):=eD<|(Dm (aD pG gl) (b9 _)<|vM<|Ô.mpr ⟨m',hmS,rfl⟩).mpr rfl;let⟨k1,k2⟩:=K.told hmS;show Ç.mpr<|Ě.mpr<|aP rfl rfl ⟨_,i1,Œ.mpr<|Ò.mpr<|Dx<|c5<|aP rfl (eD<|à.mpr<|aQ ⟨_,rfl,aQ<|aP rfl rfl ⟨_,i3,_,rfl,gZ,rfl⟩⟩) ⟨_,a2y _ _ _ _,_,rfl,?_,?_⟩⟩
    .rcases k1 with e|e<;>rw[e]
     .rw[beq_self_eq_true];rfl
     .rw[beq_self_eq_true];cases("o":Str)==cN F (aJ<|GZ Z) m'.1<;>rfl
    .show ě.mpr<|c5<|aP (x:=.str m'.2) (eD<|aO<|aP rfl rfl ⟨_,i2,_,rfl,Č.mpr rfl⟩) rfl ⟨_,uY dI _ _ _,_,rfl,?_⟩;cases hb:m'.2==("o":Str)with
     |true=>show gQ rfl (gQ rfl<|Î.mpr ⟨pG,_,_,_,rfl⟩)|false=>show kZ rfl<|c5<|aP (y:=.str m'.2) rfl (eD<|aO<|aP rfl rfl ⟨_,i2,_,rfl,Č.mpr rfl⟩) ⟨_,uY dI _ _ _,_,rfl,?_⟩;rw[k2<|beq_eq_false_iff_ne.mp hb,beq_self_eq_true];show gQ rfl<|Î.mpr ⟨pG,_,_,_,rfl⟩
   .rintro j g ⟨pG,z9,Nh,Ng,rfl⟩;show⟨rfl,cJ ⟨_,rfl,rfl⟩⟩
def a2A:∀ns:List Int,ns.length<=63->∃μ',mV S ds 11 "law" [.rol<|ns.map D.int] []=b3 (.bl dI,μ'):=λns x=>by obtain⟨⟨d,μ'⟩,h1,a⟩:=a2z 0 ns [];dsimp at a;subst a;show⟨μ',?_⟩;unfold f at h1;show h1
def dz Q:Ai (Kx Q) ds:=by ext Ai;kernel_rfl
def cz Q:Jh (Kx Q) S.con=true:=""
def nz Q:S.no.map (uh (Kx Q) Ų)=S.no.map λ_=>b3 none:=""
def a2B{P:Ť}{w:į}{Q:ϑ}
  {a:Addr}{o:au}{i:au}{q:au}{j:au}{b:Nat}
  (g_TURNED:uh (Kx Q) Ų "TURNED"=b3 (b3<|.ref a))
  (hd0:(Kx Q).lookup a=b3 {cls:=.type "dict",data:=.dict #[⟨hashStr w "h",.str "h" o,.str "v" i⟩,⟨hashStr w "v",.str "v" q,.str "h" j⟩] b})
  (zd0:(a==ļ)=b5)
  {h:í}{d:Str → Option Value}(X:(Kx Q).In h)(G:h.Ns Ų d):Ŧ P w (Kx Q) d S ds ∧ ∃f g,ϩ (Kx Q) "law" "law" (aU 93) f g ∧ d "law"=b3 (.ref f) ∧ ∀(s:Ù)(u:Value),kh s g ⟨[u],[]⟩ [("_law_script",u)]:=by
 show⟨⟨WW<|by decide +kernel,WX λp n=>(Je X G (dz Q) p n).1,WY<|W6 X G<|cz Q,λx c e=>?_,W2<|W5 X G<|nz Q⟩,W4 X G (dz Q) ""<|by kernel_rfl⟩
 .show WZ ?_ x c e;show List.forall_mem_cons.mpr ⟨⟨a,[(Ϗ "h",(.str "v")),(Ϗ "v",(.str "h"))],[(Ϗ "h",lY "v" i),(Ϗ "v",lY "h" j)],NJ X G g_TURNED,zd0,λv k=>W0 (ks:=[Ϗ "h",Ϗ "v"]) (k _ _ hd0) (.cons (IZ _ _) rfl rfl<|.cons (IZ _ _) rfl rfl<|.nil) (by decide +kernel) rfl,.cons ⟨rfl,⟨_,rfl⟩⟩<|.cons ⟨rfl,⟨_,rfl⟩⟩<|.nil,λ_ y y=>.cons (.str _)<|.cons (.str _)<|.nil⟩,λ_ z=>nomatch z⟩
end Lw
open PySem PySem.W PyProof.Rows
set_option maxHeartbeats 0 in
theorem PySem.Challenge.cw_creasecourt_k65_whole_ties_hold_holds : PySem.Challenge.rw_creasecourt_k65_whole_ties_hold.Holds := by
 w_on
 refine holds_law Lw.O9 fun a=>?_
 refine holds_open (q:=Lw.Vw) (loose:=["TURNED"]) (Xt:=fun s=>xlAt Lw.Vw [] s&&recOk (Q8<|RR<|ľ Ķ) s) (XP:=XL Lw.Vw []) (Yf:=Hook.obs (yc Lw.Kx Lw.As Lw.vC)) (Ya:=Hook.val (yc Lw.Kx Lw.As Lw.vC)) (YP:=Hook.says (yc Lw.Kx Lw.As Lw.vC)) (N:=7830) Lw.run (Hook.of _) (Hook.keeps _) (fun s e=>xl_of s (zz.mp e).1) XL.keeps (by rfl) (by rfl) (by rfl) (fun s e=>recFacts_of (zz.mp e).2) (by rfl) (by first|assumption|decide +kernel) (by decide +kernel) ⟨rfl,rfl,rfl,rfl,rfl,by decide +kernel⟩ ?hw ?hc
 case hw=>w_witness2
 k_fill
 refine L3.walkM (l:=Ķ) (S:=Lw.S) (ds:=Lw.ds) (k:=11) (st:=Lw.aU 93) (x:="_law_script") rfl rfl ⟨rfl,⋯,⋯⟩ (fun w h Y=>PySem.W.kIn_of Y) "" "" ?F fun c h _=>Lw.a2A c h
 case F=>
  intro w d h b G
  refine' @Lw.a2B Mk w _ 406 727 728 729 730 2 ?g_TURNED ?hd0 ?zd0 _ _ b G
  (case g_TURNED=>kernel_rfl)
  (case hd0=>kernel_rfl)
  (case zd0=>exact rfl)
