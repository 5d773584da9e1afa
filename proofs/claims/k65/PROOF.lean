import PyProof.Rows.All
import Wide.All
import OpenK.AllK
import PySem.Challenge.RW_creasecourt_k65_whole_ties_hold
local macro_rules|`(tactic|let ⟨$xs,*⟩:=$e)=>do
 let ys<-xs.getElems.mapM fun x=>match x with|`($i:ident)=>`(rcasesPat|$i:ident)|_=>`(rcasesPat|_)
 `(tactic|obtain ⟨$[$ys:rcasesPat],*⟩:=$e)
local macro_rules|`(tactic|dsimp[$xs,*]$[$l:location]?)=>`(tactic|simp only[$xs,*]$[$l]?)
local macro_rules|`(tactic|dsimp$[$l:location]?)=>`(tactic|dsimp only$[$l]?)
local macro_rules|`(tactic|apply $e)=>if e.raw[0].getId.hasMacroScopes then Lean.Macro.throwUnsupported else `(tactic|simpa using $e)
local macro_rules|`(def $i:declId $s:optDeclSig $v:declVal)=>`(theorem $i $(⟨Lean.mkNode `Lean.Parser.Command.declSig #[s.raw[0],s.raw[1][0]]⟩):declSig $v:declVal)
local macro_rules|`(abbrev $i:declId $s:optDeclSig $v:declVal)=>`(noncomputable def $i $s $v:declVal)
local macro_rules|`(tactic|show $e:term)=>`(tactic|refine $e)
local macro_rules|`(tactic|let $x:ident:=$e)=>`(tactic|have $x:ident:=$e)|`(tactic|let $x:ident:$t:term:=$e)=>`(tactic|have $x:ident:$t:term:=$e)
local macro_rules|`(tactic|ext $x:ident)=>`(tactic|first|unfold $x:ident|cases $x:ident)|`(tactic|ext $x:ident $y:ident)=>`(tactic|unfold $x:ident $y:ident)
local macro_rules|`(∅)=>`(by simp)
local macro_rules|`(())=>`(by lia)
local macro_rules|`(⋯)=>`(by decide)
local macro_rules|`($s:str)=>if s.getString=="" then `(by kernel_rfl) else Lean.Macro.throwUnsupported
open Option renaming some->b3,none->b4
open Bool renaming false->b5,true->dI
open And renaming symm->qx
open Array renaming mk->č,getElem?_toList->Ϸ,length_toList->ie,getElem?_eq_some_iff->PH,getElem?_eq_getElem->PD,getElem?_eq_none->Ot,getD->rE,replicate->OQ,isEmpty_iff->Qn,toList->Qa,map->Py
open Bool renaming false_ne_true->ø,and_eq_true->ó,false_eq_true->ŀ,eq_iff_iff->Ψ,or_eq_true->mX,not_true->gf,and_eq_true_iff->zx,not_false->uc,not_eq_true'->N6,false_or->yu,or_false->MY,true_and->OF,and_true->OE,eq_false_iff->RB,false_and->Q2
open Classical renaming choose->ul,choose_spec->NI,byContradiction->a9T
open False renaming elim->ο
open ForInStep renaming yield->bu
open Int renaming toNat_natCast->bw,mul_eq_zero->iw,emod_emod->mj,emod_lt_of_pos->NK,add_zero->yr,emod_nonneg->ND,sub_add_cancel->Oc,zero_add->OJ,emod_emod_of_dvd->RO,emod_add_emod->Qw,emod_two_eq->Q3,add_comm->Pm,mul_add->Pz
open List renaming length_map->Ã,getElem?_eq_some_iff->ä,getElem?_eq_getElem->ā,mem_map->Õ,getElem?_set_ne->ô,getElem?_map->ÿ,length_append->ć,map_map->å,map_append->ă,mem_singleton->Ĕ,map_cons->ö,prefix_refl->ď,size_toArray->ģ,mem_cons->Č,mem_of_getElem?->ķ,range->ą,mem_cons_of_mem->ŏ,mem_filter->Ī,mem_append->ĩ,map_congr_left->Ť,length_cons->Ŋ,mem_cons_self->ţ,append_nil->ŉ,nodup_cons->ő,getD_eq_getElem?_getD->υ,length_filter_le->Ž,mem_range->Ō,getElem?_eq_none_iff->τ,length->İ,getElem?_append_left->ϕ,contains_iff_mem->ε,all_cons->Ő,zipWith_cons_cons->ϔ,set_cons_zero->Λ,find?_cons->ų,take_length->ź,set_cons_succ->δ,getD->ĭ,getElem?_set_self->ϡ,length_take->Ι,length_set->Ź,filter_cons_of_neg->WP,filter_append->Ϡ,mem_append_right->UV,not_mem_nil->Ϗ,getElem?_append_right->jb,filter_cons_of_pos->cg,append_assoc->Ϧ,cons_append->ϥ,filterMap_cons->aa,getElem?_eq_none->cj,nodup_append->Ϻ,find?_eq_none->Y0,nil_append->ϣ,take_of_length_le->jd,all_eq_true->ϸ,replicate->Ϣ,reverse_reverse->il,length_take_le'->ig,filter_sublist->gk,pairwise_iff_getElem->uz,reverse_append->qd,length_reverse->q9,map_nil->ϴ,mem_flatMap->j0,getElem_mem->iz,filter_cons->iy,take_append_drop->vm,length_replicate->vh,length_range->ou,flatMap_append->vd,getElem?_replicate->M1,any_eq_true->oh,reverse->bf,mem_iff_getElem?->zj,take_zero->nj,take_succ->ni,lookup_cons->uw,length_drop->uv,drop_eq_getElem_cons->NU,filter_eq_self->zr,length_nil->ut,foldl_cons->ur,lookup->gj,length_eq_zero_iff->NQ,reverse_cons->zc,nodup_nil->ud,filter_eq_nil_iff->NH,set_append_left->NG,filter_nil->yz,filter_map->zg,prefix_append->NM,pairwise_cons->NL,range'->ug,idxOf_append->N7,map_take->yw,range'_succ->N4,pairwise_singleton->Ov,getElem_inj->N3,zipWith->yt,range_succ->N1,set_append_right->PB,length_singleton->P9,getElem?_reverse->P8,eq_replicate_iff->P7,pairwise_pair->Og,mem_filterMap->Of,filterMap_nil->Oe,pairwise_map->Ob,foldl_append->Oa,flatMap_cons->OZ,filter_congr->OY,ext_getElem?->OX,eraseIdx_eq_take_drop_succ->SQ,map_reverse->Oi,ext_getElem->Oh,map_id->MN,of_mem_zip->OP,length_zip->OO,forIn_cons->ON,idxOf_lt_length_of_mem->SA,perm_ext_iff_of_nodup->S5,drop_zero->OT,exists_mem_of_ne_nil->Ry,idxOf_lt_length_iff->RL,getElem?_take_of_lt->RK,any_cons->OG,range_succ_eq_map->RJ,map_id'->OB,length_pos_of_mem->RI,append_eq_nil_iff->RH,any_map->OA,all_map->O9,getElem?_zipWith->Rh,getElem?_toArray->Rg,mem_append_left->RW,map->MK,getElem?_of_mem->RV,reverse_eq_iff->RS,length_pos_iff->RR,getElem_of_mem->RQ,getElem?_range->RP,zip_cons_cons->Qo,take_add_one->RF,map_inj_left->RE,find?_isSome->RD,find?_append->RC,reverse_nil->Qz,mem_reverse->Qy,flatMap_nil->Qx,range_zero->Q9,take_left->Q5,forIn_nil->Q4,set_set->QM
open List.Nodup renaming length_le_of_subset->zz
open List.Pairwise renaming map->uq,nil->Oq,imp_of_mem->b4m,imp->b4n
open List.cons renaming injEq->RU
open Nat renaming le_refl->Ø,ne_of_lt->Ā,lt_of_lt_of_le->Ļ,le_trans->Ģ,zero_le->ĸ,ne_of_gt->Ţ,lt_succ_self->Ϥ,lt_irrefl->γ,mod_lt->ξ,le_of_lt->Rr,lt_succ_of_lt->zb,le_of_eq->lw,mod_eq_of_lt->za,le_succ->lY,mod_mod->rT,not_lt->qy,not_lt_zero->N0,lt_trichotomy->Ol,lt_trans->Mz,lt_of_succ_lt->Oj,min_eq_left->OV,succ_mul->O4,sub_zero->OK,le_of_not_lt->QC,mod_add_mod->Q6,mul_le_mul->Qb,zero_add->Pr,succ_pos->Pq,sub_self->Pp,min_self->Po,lt_or_ge->Pn,log2_lt->Q0
open Ne renaming symm->ð
open Option renaming bind_eq_some_iff->è,map_eq_some_iff->ì,bind_some->ē,map_some->ė,isSome_map->zq,getD_none->N5,isSome_iff_exists->S6,getD_some->Qp
open Option.some renaming inj->Ė
open Or renaming inr->az,inl->jn
open PUnit renaming unit->MU
open Prod renaming ext->Ē,ext_iff->QN
open Prod.mk renaming inj->Ϝ,injEq->OW
open PyProof.Rows renaming callWith_type1->qe,seqObj->ę,IntsAre->Ŵ,entry_list_sort->ue,slot_list_sort->tu,args_list_sort->su,callWith_builtin1->Sa,AllBare->fB,subscriptTail->Mv,listUpdate_at->Mu,sortedHeap->yp,lt_int->Rj,gt_int->Ri,envOfC->SE,seqEpoch_at->MP,Subscript_->MC,IsTup->J3,subscriptTail_builtinR->Qj,plain_sorted->O1,entry_sorted->Nz,args_sorted1->Ny,kind_sorted->Nu,list_sort_plain->Pk,get?_update_seq->Ph,wpAny_notIn_heap->b4w,pow_int_small->b4x,pow_int->b4y,oneLt_int->b4z,mul_int->b4A,mirror_perm->b4B,floordiv_int->b4C,entry_proto_collect'->b4D,entry_list_iadd'->b4E,call_len_slot->b4F,callWith_kw->b4G,bubble_perm->b4H,bubble->b4I,assign_Tuple_tuple->b4J,assign_Tuple->b4K,tail_any->Np,sortedHeap_old->Pw,Call_->xx
open PyProof.Rows.Boot renaming sorted->PM,list->PC,tuple->SS,dict->Se,min->SY,sum->b2w,str->b2x,reversed->b2y,max->b2z,len->b2A,isinstance->b2B,int->b2C,bool->b2D,all->b2E
open PySem renaming Env->ı,wpAny_bind->Á,wpAny_pure->Ê,Shared->Ù,sizeLine->Ò,wpAny->È,sizeLine_eq->ò,model->Î,Program->ť,Around->Ŧ,starEach->Ă,World->ĳ,wpAny_holding->ł,Heap->ñ,wpAny_newObj_type->Ż,wpAny_call_entry->Θ,sysModules->ľ,compareOp->Ķ,wpAny_mono->ř,wpAny_dictEntries->ϐ,mem_of_lookup->ϵ,mainGlobals->Ų,cLine->Ą,wpAny_setField_rec->ϻ,Pos->Ĳ,wpAny_truthy_bool->Ϲ,bootBuiltins->Ω,Params->ϑ,wpAny_seqItems->ϟ,codeAny_builtin->ϲ,wpAny_Call_Name_kw->bx,wpAny_field->Φ,plainId_quiet->ϝ,treeTable->Ÿ,wpAny_callSpecial?_slot->vo,assignEach->ς,Scope->Χ,FuncData->ph,wpAny_notOrdered_dict->vg,backTo->Ř,wpAny_updateSeq->iu,wpAny_dictEpoch->ir,NameKind->ϳ,wpAny_rule->ϛ,rawInt->Ŝ,intKind->ŵ,wpAny_isInstance->mY,pyNext->š,firstArgMember->gh,binaryOp->Τ,sliceBounds->Ml,wpAny_pyIter_tuple->um,wpAny_passesOwn->mU,wpAny_ite_split->mL,tupleKind->Ϛ,behindInMarks->gY,attributeBase->fu,wpAny_pyIter_list->uy,foldedSetIterable->ux,Keyword->Υ,wpAny_tryCatch->nA,wpAny_setField->my,wpAny_letGo->bh,CmpOp->mq,wpAny_specialOf->uf,codeAny->ι,compEnvC->Ϯ,call_meetsIn->lu,IsPair->Ζ,Paired->Ρ,wpAny_newList->uh,storedH->ϙ,OsState->Sk,wpAny_of_eq->mD,storedH_new->m9,keywordEach->m7,swapsWith->fj,seqItems?->fc,richCompare->qz,wpAny_Call_method0_late->P5,atKey->Ο,wpAny_typeOf->yx,wpAny_isOneOf_itemiter->P2,evalArgs_none->P1,wpAny_execs_nil->NA,size_of_entries->N9,letOwnedTupleGo->N8,wpAny_isOneOf_valiter->P0,builtinLookup_eq_fast->Oz,wpAny_pyIter_revIter->Od,wpAny_newTuple->MW,pyIter->J4,isSubtype_stop->MV,backToKw->kh,IsZip->ό,IsRangeIter->yo,valueAt->fC,updateSeq->qw,wpAny_standAt->My,wpAny_handled->Mx,wpAny_attempt->Mw,dictSetHashed->Mt,IsItemIterOut->MZ,typeLookup->yq,entryOfKey->yh,call_meets->yg,assign->au,Result->Rw,wpAny_pyIter_slot->OM,slot_list_getitem->OL,setField->qu,codeAny_mono->ML,callerA->jt,BindsTo->jy,wpAny_forIn_list->OS,seqIndex?->ym,newExc->dw,PassesOwn->yj,wpAny_throw->MR,subscripted->MQ,typeNameOfWhole->OD,typeLookup_type->OC,getItem->qt,wpAny_load->MH,wpAny_fieldsOf->O8,newTuple->ye,dictSetDefault->O7,Operator->b1y,wpAny_getItem_list_slice->RT,swappedStores->OI,Tok->aq,wpAny_pyNext_tuple_item->Qs,slicePick->M9,bindL->du,bindC->dq,wpAny_pyNext_tuple_end->Qm,wpAny_pyNext_list_item->Ql,wpAny_nextOf_list_item->b2n,wpAny_Call_method_late->Qk,isTrue->qp,MeetsIn->yd,wpAny_pyNext_list_end->RA,wpAny_nextOf_list_end->b2N,wpAny_isOneOf_keyiter->R6,wpAny_updateSeq_pair->b2U,wpAny_updateDictKeys->Qv,wpAny_pyIter_keyiter->Qu,storedH_old->O2,raiseNew->MB,lookup_relabel_local->Qt,bindArgs->M5,SetTable->QH,IntMulOk->M4,HeapKind->M3,GenState->b3k,wpAny_dictFind_heap->Q8,not_mem_keys_of_get->Q7,wpAny_tupleItemsOf->Q1,wpAny_Name->Nr,sliceRange->Nq,getattributeRaised->Qh,closureFor->Nx,checkCount->Nw,call_reversed_list->Qg,call_function_tree->Qf,builtinsNs->Nv,Sem->J1,wpAny_pyIter_enum->QZ,wpAny_assign_Name->QY,relabel->M7,field->qm,call_sum_walkAnyS->QX,atKey_none_of_get->QV,wpAny_pyIter_zip->QL,wpAny_execs_cons->QK,noFill_tuple_add->Pu,lastMarks->Nm,cellsFrom->Nk,call->Pt,wpAny_loadPart'->Pl,importedModules->Pj,wpAny_Compare1->Px,typeOf->M0,recursionLimit->Pg,callType_codes->Pf,ZipApart->Nh
open PySem.Around renaming under_plainId->϶
open PySem.Builtin renaming sorted->Ox
open PySem.Builtin.Builtins renaming bindParams->NW
open PySem.Builtin.Dict renaming showsAll->nu,updateFrom->NV,noArgs->Ou,entriesForEmpty->SW,selfAndRest->SG,addKeywords->SF,pairItems->SM,mergeDict->SK,quietEq->Ro,readDirectly->b4Q,pendingCount->b4R,merge->b4S,keyAndDefault->b4T,dictSlotNone->b4U
open PySem.Builtin.Dict_items renaming ownsTuple->zy,ownedTupleIsFree->Sg,ownedTupleFields->Sf,pairFromOwner->SV,newIterator->SU,dictOf->Sb
open PySem.Builtin.Int renaming intBits->Ŷ,intTooBig->NR
open PySem.Builtin.List renaming listExtendWith->vp,listSameRef->NP,listTooLong->PL,listLengthHint->SJ,listItems->SN,listUpdate->b4P
open PySem.Builtin.Range renaming rangeSize->b4r
open PySem.Builtin.SmallTypes renaming nextOf->jc,ownedTupleHandOut->Sj,ownedTupleIsFree->Si
open PySem.Builtin.Str renaming occurrences->je
open PySem.Builtin.Tuple renaming tupleHashOf->b4p,tupleCompareSizes->b4q
open PySem.Calls renaming callWith_builtin->zm,spliced_cons->NN,call_function_entry->PF,spliced_nil->NJ,Name_function_global->S9,evalArgs_plain->Rf
open PySem.Challenge renaming rw_creasecourt_k65_whole_ties_hold->Ĺ,pw_creasecourt_k65_whole_ties_hold->M2
open PySem.Data renaming fields->ŋ,dict->ϰ,cell->rm,seq->MJ,cls->Nt
open PySem.F renaming slot_dict_items->NT,plainAttrs_dict->NS,slot_dict_setdefault->SR,slot_dict_getitem->Ru,args_dict_items_1->Rt,slot_dict_values->Rn,slot_dict_update->Rm,entry_dict_items->Rl,args_tuple_add_2->Rk,type_dict_items->S8,entry_tuple_add->S7,slot_tuple_add->S3,plain_min_loop->Rz,slot_dict_get->RM
open PySem.Heap renaming get?_push_of_some->á,lt_size->Þ,get?_push_size->Ċ,get?_update_self->ϓ,get?_update_other->WF,SameBut->Κ,size_push->ϒ,ExtBut->R4
open PySem.Heap.DictOfH renaming new->b4O
open PySem.Heap.IsList renaming push->b5g,extBut->b5h
open PySem.Heap.IsListIter renaming extBut->b3K,«at»->b3L
open PySem.Heap.IsSliceOf renaming new->Rq
open PySem.Heap.IsTuple renaming push->SX,extBut->b4N
open PySem.Heap.IsTupleIter renaming extBut->b3t,«at»->b3u
open PySem.Heap.SameBut renaming update->ż,refl->NF
open PySem.NameKind renaming free->R8,cell->bz
open PySem.Obj renaming mapSeq->a4A,data_mapDictKeys->vf,data_mapFields->uo,isFreed_of_dict->NO,isFreed_of_fields->P4,mapFields->MX,cls_mapFields->Om,data_mapDict->QD
open PySem.Paired renaming length->OU,snoc->Qd
open PySem.PassesOwn renaming never->RX
open PySem.SeqAt renaming ne_of_list_tuple->nq,EqAt->m5
open PySem.SeqAt.EqAt renaming int_int->RN
open PySem.Shared renaming heap->Qe
open PySem.Str renaming ofString->ű
open PySem.Value renaming ref->Ö,type->ü,int->Ĥ,none->Ŀ,builtin->Ϟ,bool->Η,str->lX,isStrOf->OR,isInt->O5
open PySem.W renaming Frag->Ô,behindTheImports->Į,boot_drawn->ň,keepIn->ϱ,fnOf->ώ,kia_one->bj,topFrame->Ϙ,boot_heap->JF,nsIn->rn,findIn->zf,codeIn->N2,mg_of->NB,methodObj->Oy,piecesOf->kj,kas_asc->Oo,segRun->bc,kas_rev->ju,boot_toks->yl,cellsFrom_some->S4,specialIn->Rb,kitx_list->Ra,kitx_dict->RZ,kas_count->RY,kas_tail3->M8,instObj->Qr,OpenLaw->Qq,kas_descPart->O0,kitOne->Qi,WalkO->R0,isFn->QF,KasT->b3e,KatTups->M6,piece_app->Nn,kas_place->Nl,kat_kind->Nj,kas_desc->Ni,kHook->yc
open PySem.W.KasT renaming ret->yf
open PySem.W.OpenLaw renaming row->Ł
open PySem.W.OpenRow renaming toRowW->RG
open PySem.W.RowW renaming records->QR
open PySem.W.WData renaming int->sr,weightAll->PJ,layable->SO,weight->Rv,layableAll->b4g
open PySem.W.WShape renaming has->QU
open PySem.Walks renaming tuple->O6,list->OH
open Std.Legacy.Range renaming size->b3n,forIn_eq_forIn_range'->b3o
open Sum renaming inr->ύ,inl->km
open True renaming intro->ϯ
set_option compiler.extract_closed false
set_option bootstrap.genMatcherCode false
set_option genSizeOf false
set_option genSizeOfSpec false
set_option Elab.async false
set_option linter.all false
set_option maxRecDepth 100000
set_option linter.all false
@[reducible]def gw:=List PySem.Value
@[reducible]def jw:=List<|PySem.Addr×PySem.Obj
@[reducible]def jq:=List<|Int×Int
namespace L2
open PySem PySem.Spec PyProof.Rows
noncomputable abbrev bM:=Sum Int Str
abbrev oH:bM->Value->Bool
 |.inl k,v=>O5 k v|.inr x,v=>OR x v
abbrev Ey(w:ĳ):bM->Int
 |.inl k=>hashInt k|.inr x=>hashStr w x
def oI:∀{k}{v},oH k v=dI->(∃i t,k=km i/\v=Ĥ i t)\/(∃x t,k=ύ x/\v=lX x t)
 |.inl i,v,h=>by let⟨t,e⟩:=Value.isInt_shape (k:=i) (v:=v) h;show .inl ⟨i,t,rfl,e⟩
 |.inr x,v,h=>by let⟨t,e⟩:=Value.isStrOf_shape (x:=x) (v:=v) h;show .inr ⟨x,t,rfl,e⟩
def a9O i t:oH (.inl i) (.int i t)=true:=by simp[oH,O5]
def a9N x t:oH (.inr x) (.str x t)=true:=by simp[oH,OR]
def a9M a b:decide ((km a:bM)=km b)=(a==b):=by
 by_cases e:a=b
 .subst e;simp
 .let h:¬ (km a:bM)=km b:=λq=>e<|Sum.inl.inj q;rw[decide_eq_false h];show(beq_eq_false_iff_ne.mpr e).symm
def a9L a b:decide ((ύ a:bM)=ύ b)=decide (a=b):=by
 by_cases e:a=b
 .subst e;simp
 .let h:¬ (ύ a:bM)=ύ b:=λq=>e<|Sum.inr.inj q;rw[decide_eq_false h,decide_eq_false e]
def a9K a b:decide ((km a:bM)=ύ b)=false:=decide_eq_false λq=>nomatch q
def a9J a b:decide ((ύ a:bM)=km b)=false:=decide_eq_false λq=>nomatch q
abbrev jP prog w:PySem.KeyKind prog w bM where
 is:=oH
 hash:=Ey w
 inj:=λv a b g d=>by
  rcases oI g with⟨i,t,rfl,rfl⟩|⟨x,t,rfl,rfl⟩
  .rcases oI d with⟨j,u,rfl,e⟩|⟨y,u,rfl,e⟩
   .injection e with e1 _;rw[e1]
   .show nomatch e
  .rcases oI d with⟨j,u,rfl,e⟩|⟨y,u,rfl,e⟩
   .show nomatch e
   .injection e with e1 _;rw[e1]
 byValue:=λk v h=>by rcases oI h with⟨i,t,rfl,rfl⟩|⟨x,t,rfl,rfl⟩<;>rfl
 pyHash:=λc h=>by
  rcases oI c with⟨i,t,rfl,rfl⟩|⟨x,t,rfl,rfl⟩
  .show wpAny_pyHash_int h
  .show wpAny_pyHash_str h
 eqBool:=λn c h=>by
  rcases oI n with⟨i,t,rfl,rfl⟩|⟨x,t,rfl,rfl⟩
  .rcases oI c with⟨j,u,rfl,rfl⟩|⟨y,u,rfl,rfl⟩
   .rw[a9M]at h;show wpAny_eqBool_int h
   .rw[a9K]at h;show SeqAt.EqAt.int_str i t y u _ _ _ _ h
  .rcases oI c with⟨j,u,rfl,rfl⟩|⟨y,u,rfl,rfl⟩
   .rw[a9J]at h;show SeqAt.EqAt.str_int x t j u _ _ _ _ h
   .rw[a9L]at h;show wpAny_eqBool_str h
 «strs»:=λk x t v h=>by
  rcases oI h with⟨i,u,rfl,e⟩|⟨y,u,rfl,e⟩
  .show nomatch e
  .injection e with e1 _;subst e1;ext v<;>rfl
def a9F prog w i t:(jP prog w).is (.inl i) (.int i t)=true:=a9O i t
def b2Y prog w x t:(jP prog w).is (.inr x) (.str x t)=true:=a9N x t
inductive V where
 |non|bl (b:Bool)|int (i:Int)|str (x:Str)|byt (b:Array UInt8)|flt (b:UInt64)|ref (a:Addr)|ty (n:String)
 deriving DecidableEq
@[reducible]def gz:=List V
abbrev Í:V->Value->Prop
 |.non,u=>u=Ŀ|.bl b,u=>u=Η b|.int i,u=>∃t,u=Ĥ i t|.str x,u=>∃t,u=lX x t|.byt b,u=>∃t,u=Value.bytes b t|.flt b,u=>∃t,u=Value.float b t|.ref a,u=>u=Ö a|.ty n,u=>u=ü n
noncomputable abbrev Å:gz->gw->Prop:=Ρ Í
def Å.length(r:Å xs us):xs.length=us.length:=OU r
def Å.get:∀{xs}{us}{i:Nat}{x},Å xs us->xs[i]?=b3 x->∃u,us[i]?=b3 u/\Í x u
 |_,_,_,_,.nil,e=>by simp at e
 |_,_,0,_,.cons r _,e=>by simp at e;subst e;show⟨_,rfl,r⟩
 |_,_,i+1,x,.cons _ t,e=>by let⟨u,h1,a⟩:=Å.get (i:=i) (x:=x) t (by apply e);show⟨u,by apply h1,a⟩
def Å.append:∀{xs a}{us ws},Å xs us->Å a ws->Å (xs++a) (us++ws)
 |_,_,_,_,.nil,s=>s|_,_,_,_,.cons r t,s=>.cons r<|Å.append t s
def Å.take:∀{xs}{us}n,Å xs us->Å (xs.take n) (us.take n)
 |_,_,0,_=>.nil|_,_,_+1,.nil=>.nil|_,_,n+1,.cons r t=>.cons r<|Å.take n t
def Å.drop:∀{xs}{us}n,Å xs us->Å (xs.drop n) (us.drop n)
 |_,_,0,r=>r|_,_,_+1,.nil=>.nil|_,_,n+1,.cons _ t=>Å.drop n t
def Å.none_of:∀{xs}{us}{i:Nat},Å xs us->xs[i]?=b4->us[i]?=none:=λ{xs us i} r e=>by let h1:=r.length;let a:xs.length<=i:=τ.mp e;show τ.mpr ()
abbrev Œ:Option V->Option Value->Prop
 |some v,b3 u=>Í v u|none,b4=>True|_,_=>False
abbrev KV{κ:Type}:List (κ×V)->List (κ×Value)->Prop:=Ρ λ(p:κ×V)(q:κ×Value)=>p.1=q.1/\Í p.2 q.2
abbrev kV:bM->V
 |.inl i=>.int i|.inr x=>.str x
inductive HO where
 |lst (xs:gz)
 |tup (xs:gz)
 |dK (kvs:List (bM×V))|dT (kvs:List (List bM×V))
 |set (S:Int->Bool)(n:Nat)
 |ins (C dx:Addr)(fs:List (Str×V))
 |own (x:Addr)
 |xd (fs:List (Str×V))
 |met (f x:Addr)
 |rng (lo hi:Int)
 |frz (o:Obj)(u:HO)
 |tbl (ps:Array Value)
 |ext (φ:ñ->Prop)
noncomputable abbrev Hp:=Addr->Option HO
abbrev upd(H:Hp)(a:Addr)(o:HO):Hp:=λb=>if b=a then b3 o else H b
def dU:upd H a o a=b3 o:=by ext upd;rw[if_pos rfl]
def bQ(h:b≠a):upd H a o b=H b:=by ext upd;rw[if_neg h]
def kZ{H:Hp}(h:H a=b3 o)(h':H b=b4):a≠b:=by intro e;subst e;rw[h]at h';ext h'
section
variable(P:ť)(w:ĳ)
abbrev ž(h:ñ)(a:Addr)(xs:Array Value):Prop:=∃o,h.get? a=b3 o/\o.cls=.type "tuple"/\∃n,o.data=.seq xs n/\o.dict=b4
def ž.tup{h:ñ}{a:Addr}{xs:Array Value}(x:ž h a xs):J3 h a xs:=let⟨o,e,c,n,d,_⟩:=x;⟨o,e,c,n,d⟩
def ž.new(h:ñ)items:ž (h.push {cls:=.type "tuple",data:=.seq items}) h.objs.size items:=⟨_,Ċ _ rfl,rfl,_,rfl,rfl⟩
abbrev à(H:Hp)(h:ñ)(a:Addr):HO->Prop
 |.lst b=>b.length<=Ò/\∃(its:gw)(n:Nat),Å b its/\h.get? a=b3 {cls:=.type "list",data:=.seq its.toArray n}|.tup b=>b.length<=Ò/\∃its:gw,Å b its/\ž h a its.toArray|.dK kvs=>kvs.length<=Ò/\(a==ľ)=b5/\∃g,KV kvs g/\h.DictOf (jP P w) a g|.dT kvs=>kvs.length<=Ò/\(a==ľ)=b5/\∃b:List (List bM×Addr×Value),
   Ρ (λ(p:List bM×V)(q:List bM×Addr×Value)=>p.1=q.1/\H q.2.1=b3 (.tup<|p.1.map kV)/\Í p.2 q.2.2) kvs b /\
   ∃o d i,h.get? a=b3 o/\o.ExactDict/\o.data=.dict d i/\d.toList=b.map (yh<|Ϛ<|jP P w)/\(b.map (·.1)).Nodup
 |.set S n=>h.SetOf (ŵ P w) a S n|.ins C dx fs=>H dx=b3 (.own a)/\fs.length<=1000/\dx≠a/\h.get? a=b3 (Qr C dx) /\
   ∃c,h.Ns1 dx c/\(∀f,Œ (fs.lookup f) (c f))/\PySem.Within c (fs.map (·.1))
 |.own _=>∃o,h.get? a=b3 o|.xd fs=>∃c,h.Ns1 a c/\∀f,Œ (fs.lookup f) (c f)|.rng lo hi=>∃t u v,h.get? a=b3 {cls:=.type "range",data:=.fields #[.int lo t,.int hi u,.int 1 v]}|.frz o u=>h.get? a=b3 o/\à H h a u|.tbl ps=>h.get? a=b3 {cls:=.none,data:=.fields ps}|.met f x=>h.get? a=b3 (Oy (.ref f)<|.ref x)|.ext φ=>φ h/\(∃o,h.get? a=b3 o)/\∀h1 e:ñ,φ h1->(∀o,h1.get? a=b3 o->e.get? a=b3 o)->φ e
abbrev Š(H:Hp)(h:ñ):Prop:=∀a o,H a=b3 o->à P w H h a o
end
def à.lt{P:ť}{w:ĳ}{H:Hp}{h:ñ}{a:Addr}{o:HO}(x:à P w H h a o):a<h.objs.size:=by
 cases o with
 |lst c=>let⟨_,_,_,_,e⟩:=x;show Þ e|tup c=>let⟨_,_,_,p⟩:=x;show p.tup.lt|dK b=>let⟨_,_,_,_,o,_,_,e,_⟩:=x;show Þ e|dT b=>let⟨_,_,_,_,o,_,_,e,_⟩:=x;show Þ e|set S n=>let⟨o,_,_,_,e,_⟩:=x;show Þ e|ins C d fs=>let⟨_,_,_,e,_⟩:=x;show Þ e|own y=>let⟨_,e⟩:=x;show Þ e|xd fs=>obtain⟨_,⟨_,_,_,e,_⟩,_⟩:=x;show Þ e|rng g hi=>let⟨_,_,_,e⟩:=x;show Þ e|frz ob u=>let⟨e,_⟩:=x;show Þ e|tbl i=>show Þ (show h.get? a=b3 _ from x)|met f y=>show Þ (show h.get? a=b3 _ from x)|ext j=>obtain⟨_,⟨_,e⟩,_⟩:=x;show Þ e
def Ρ.mapP{F G:e->g->Prop}:∀{c}{d},Ρ F c d->(∀a b,F a b->G a b)->Ρ G c d
 |_,_,.nil,_=>.nil|_,_,.cons r t,f=>.cons (f _ _ r)<|Ρ.mapP t f
def à.stay(x:à P w H h a o)(k:∀b u,(b=a\/H b=b3 (.own a))->h.get? b=b3 u->h'.get? b=b3 u)(I:∀b,H b=b3 (.own a)->H' b=b3 (.own a))(J:∀b j,H b=b3 (.tup j)->H' b=b3 (.tup j)):à P w H' h' a o:=by
 induction o with
 |lst j=>let⟨z,its,n,r,e⟩:=x;show⟨z,its,n,r,k _ _ (.inl rfl) e⟩|tup j=>let⟨z,its,r,ob,e,c⟩:=x;show⟨z,its,r,ob,k _ _ (.inl rfl) e,c⟩|dK s=>let⟨z,y,L,r,ob,i,g,e,c⟩:=x;show⟨z,y,L,r,ob,i,g,k _ _ (.inl rfl) e,c⟩|dT s=>let⟨z,y,j,r,ob,i,g,e,c⟩:=x;show⟨z,y,j,Ρ.mapP r λp q z=>⟨z.1,J _ _ z.2.1,z.2.2⟩,ob,i,g,k _ _ (.inl rfl) e,c⟩|set S n=>let⟨ob,i,g,t,e,c⟩:=x;show⟨ob,i,g,t,k _ _ (.inl rfl) e,c⟩|ins C M fs=>obtain⟨d,z,ne,e,A,⟨B,i,g,G,c⟩,r⟩:=x;show⟨I _ d,z,ne,k _ _ (.inl rfl) e,A,⟨B,i,g,k _ _ (.inr d) G,c⟩,r⟩|own y=>let⟨ob,e⟩:=x;show⟨ob,k _ _ (.inl rfl) e⟩|xd fs=>obtain⟨A,⟨B,i,g,e,c⟩,r⟩:=x;show⟨A,⟨B,i,g,k _ _ (.inl rfl) e,c⟩,r⟩|rng N hi=>let⟨t,u,v,e⟩:=x;show⟨t,u,v,k _ _ (.inl rfl) e⟩|frz ob u K=>let⟨e,q⟩:=x;show⟨k _ _ (.inl rfl) e,K q⟩|tbl E=>have e:h.get? a=b3 {cls:=.none,data:=.fields E}:=x;change h'.get? a=b3 {cls:=.none,data:=.fields E};show k a _ (.inl rfl) e|met f y=>have e:h.get? a=b3 (Oy (.ref f)<|.ref y):=x;change h'.get? a=b3 (Oy (.ref f)<|.ref y);show k a _ (.inl rfl) e|ext O=>obtain⟨p,⟨o,e⟩,st⟩:=x;show⟨st _ _ p λo q=>k _ _ (.inl rfl) q,⟨o,k _ _ (.inl rfl) e⟩,st⟩
def Š.lt{P:ť}{w:ĳ}{H:Hp}{h:ñ}{a:Addr}{o:HO}(x:Š P w H h)(e:H a=b3 o):a<h.objs.size:=(x a o e).lt
def Š.fresh{a:Addr}(x:Š P w H h)(e:h.objs.size<=a):H a=none:=by
 cases q:H a with
 |none=>rfl|some u=>show absurd (Ļ (x.lt q) e)<|γ _
def Š.kept(x:Š P w H h)(k:∀b u,h.get? b=b3 u->h'.get? b=b3 u):Š P w H h':=λa o e=>(x a o e).stay (λb u _ q=>k b u q) (λ_ q=>q) λ_ _ q=>q
def Š.laid{a:Addr}(x:Š P w H h)(k:∀b u,h.get? b=b3 u->h'.get? b=b3 u)(i:h.objs.size<=a)(new:à P w (upd H a o) h' a o):Š P w (upd H a o) h':=λb u e=>by
 let g:=x.fresh i;by_cases d:b=a
 .subst d;rw[dU]at e;ext e;show new
 .rw[bQ d]at e;show(x b u e).stay (λc v _ q=>k c v q) (λc q=>by rw[bQ<|kZ q g];show q) λc j q=>by rw[bQ<|kZ q g];show q
abbrev Rd(H:Hp)(a:Addr)(u:HO):Prop:=H a=b3 u\/∃o,H a=b3 (.frz o u)
def Rd.of(h:H a=b3 u):Rd H a u:=.inl h
def Rd.ok(r:Rd H a u)(x:Š P w H h):à P w H h a u:=by
 rcases r with r|⟨o,r⟩
 .show x a u r
 .let⟨_,q⟩:=x a _ r;show q
abbrev uV:Option HO->Prop
 |some (.lst _)=>True|some (.dK _)=>True|some (.dT _)=>True|some (.set _ _)=>True|some (.ins _ _ _)=>True|some (.ext _)=>True|_=>False
def Š.write(ok:Š P w H h)(j:uV (H x))(p:e=x\/H e=b3 (.own x))(k:∀b u,b≠e->h.get? b=b3 u->h'.get? b=b3 u)(o:∃u,h'.get? e=b3 u)(new:à P w (upd H x o') h' x o'):Š P w (upd H x o') h':=λb u q=>by
 let d:∀c y,H c=b3 (.own y)->c≠x:=λc y r z=>by subst z;rw[r]at j;show j
 let g:∀c n,H c=b3 (.tup n)->c≠x:=λc n r z=>by subst z;rw[r]at j;show j
 by_cases i:b=x
 .subst i;rw[dU]at q;ext q;show new
 .rw[bQ i]at q;by_cases a:b=e
  .let s:H b=b3 (.own x):=by
    rcases p with z|z
    .show absurd (a.trans z) i
    .rw[a];show z
   rw[q]at s;ext s;let⟨v,A⟩:=o;show⟨v,by rw[a];show A⟩
  .show(ok b u q).stay (λc v hc r=>k c v ?_ r) (λc r=>by rw[bQ<|d c b r];show r) λc n r=>by rw[bQ<|g c n r];show r
   rcases hc with rfl|hc
   .show a
   .rintro rfl;rcases p with z|z
    .show d c b hc z
    .rw[hc]at z;ext z;show i rfl
structure Un(fs ex:List Addr)(H H':Hp)(h h':ñ):Prop where
 keep:∀b o,h.get? b=b3 o->H b=b4->b∉fs->b∉ex->h'.get? b=b3 o
 slot:∀b o,h.get? b=b3 o->H b=b4->b∈fs->b∉ex->∃sl,h'.get? b=b3 {o with slots:=sl}
 free:∀b o,h.get? b=b3 o->H b=b4->b∉ex->H' b=b4
 there:∀b o,h.get? b=b3 o->b∉ex->∃o',h'.get? b=b3 o'
 tups:∀b xs,H b=b3 (.tup xs)->H' b=b3 (.tup xs)
 frzs:∀b o u,H b=b3 (.frz o u)->H' b=b3 (.frz o u)
 tbls:∀b ps,H b=b3 (.tbl ps)->∃more,H' b=b3 (.tbl<|ps++more)
def Un.any(u:Un fs ex H H1 h h1)(q:h.get? b=b3 ob)(n:H b=b4)(d:b∉ex):∃g,h1.get? b=b3 {ob with slots:=g}:=by
 by_cases c:b∈fs
 .show u.slot b ob q n c d
 .show⟨ob.slots,u.keep b ob q n c d⟩
def Un.kept(k:∀b u,h.get? b=b3 u->h'.get? b=b3 u):Un fs ex H H h h':=
 ⟨λb ob q _ _ _=>k b ob q,λb ob q _ _ _=>⟨ob.slots,k b ob q⟩,λ_ _ _ n _=>n,λb ob q _=>⟨ob,k b ob q⟩,λ_ _ q=>q,λ_ _ _ q=>q,λ_ c q=>⟨#[],by rw[q];simp⟩⟩
def Un.refl:Un fs ex H H h h:=Un.kept λ_ _ q=>q
def Un.laid{h:ñ}{a:Addr}(k:∀b u,h.get? b=b3 u->h'.get? b=b3 u)(d:h.objs.size<=a)(c:H a=b4):Un fs ex H (upd H a o) h h' where
 keep:=λb u q _ _ _=>k b u q
 slot:=λb u q _ _ _=>⟨u.slots,k b u q⟩
 free:=λb u q n _=>by rw[bQ<|Ā<|Ļ (Þ q) d];show n
 there:=λb u q _=>⟨u,k b u q⟩
 tups:=λb g q=>by rw[bQ<|kZ q c];show q
 frzs:=λb u g q=>by rw[bQ<|kZ q c];show q
 tbls:=λb i q=>⟨#[],by rw[bQ<|kZ q c,q];simp⟩
def Un.write(d:uV (H x))(s:e=x\/H e=b3 (.own x))(k:∀b u,b≠e->h.get? b=b3 u->h'.get? b=b3 u)(g:∃u,h'.get? e=b3 u):Un fs ex H (upd H x o) h h':=by
 let p:∀b,H b=b4->b≠x:=λb n z=>by subst z;rw[n]at d;show d
 let j:∀b,H b=b4->b≠e:=λb n z=>by
  subst z;rcases s with r|r
  .show p b n r
  .rw[n]at r;ext r
 let i:∀b u,H b=b3 u->¬ uV (b3 u)->b≠x:=λb u q v z=>by subst z;rw[q]at d;show v d
 show⟨λb u q n _ _=>k b u (j b n) q,λb u q n _ _=>⟨u.slots,k b u (j b n) q⟩,λb u q n _=>by rw[bQ<|p b n];show n,λb u q _=>?_,
  λb w q=>by rw[bQ<|i b _ q λz=>z];show q,λb u w q=>by rw[bQ<|i b _ q λz=>z];show q,λb y q=>⟨#[],by rw[bQ<|i b _ q λz=>z,q];simp⟩⟩
 by_cases c:b=e
 .subst c;show g
 .show⟨u,k b u c q⟩
abbrev xF(h:ñ)(H:Hp):List Addr:=(ą h.objs.size).filter λa=>(H a).isSome
abbrev oJ(h:ñ)(H:Hp):ñ:=PySem.W.hideAll h<|xF h H
def b1x h H:(oJ h H).objs.size=h.objs.size:=PySem.W.hideAll_size _ _
def b1r(e:h.get? b=b3 o)(n:H b=b4):(oJ h H).get? b=b3 o:=
 PySem.W.hideAll_get _ e λa=>by let q:(H b).isSome=true:=(Ī.mp a).2;rw[n]at q;simp at q
def b1Q(e:(oJ h H).get? b=b3 o):h.get? b=b3 o/\H b=none:=by
 let a:h.get? b=b3 o:=PySem.W.of_hideAll (xF h H) e;show⟨a,?_⟩;cases q:H b with
 |none=>rfl|some x=>have c:b∈xF h H:=Ī.mpr ⟨Ō.mpr<|Þ a,by simp[q]⟩;let z:(oJ h H).get? b=none:=PySem.W.hideAll_none (xF h H) c;rw[z]at e;ext e
abbrev b1M(g h:ñ)(L:Addr):jw:=(ą h.objs.size).filterMap λa=>if a=L\/(g.get? a).isSome=dI then b4 else(h.get? a).map λo=>(a,o)
abbrev cG(g h:ñ)(L d:Addr):jw:=(b1M g h L).filter λp=>decide<|p.1≠d
structure Mod(K:Ô)(mg:Str->Option Value)(base:ñ):Prop where
 kin:K.In base
 glob:base.Ns Ų mg
 blt:∃mb,base.Ns Nv mb/\∀x:Str,x ≠ "__name__"->mb x=Ω x
 nolimit:base.NoLimit
structure Cx where
 prog:ť
 w:ĳ
 K:Ô
 mg:Str->Option Value
 base:ñ
 A:Ŧ
 N:List Str
 s₀:Ù
 H₀:Hp
 env:ı
 outer:List ı
 stack:List ı
 ex:List Addr
 fn:Str->Bool
 calm:Bool
 pn:jw
 xe:Value->Ù->Prop
abbrev k5(l:List ı):List Addr:=l.filterMap (·.frame)
noncomputable abbrev Cx.fs(X:Cx):List Addr:=k5 X.outer
abbrev qY(sc:Χ)(x:Str):Prop:=sc.names.lookup x=b3 .local\/sc.names.lookup x=b3 .cell\/sc.names.lookup x=b3 .free
abbrev Loc(sc:Χ)(x:Str):Prop:=sc.names.lookup x=b3 .local\/sc.names.lookup x=b3 .cell
abbrev b0s(env:ı)(h:ñ)(m:Str->Option Value)(x:Str)(u:Value):Prop:=
 (env.kindOf x=b3 .local/\m x=b3 u)\/((env.kindOf x=b3 .cell\/env.kindOf x=b3 .free)/\∃c,env.cells.lookup x=b3 c/\h.IsCell c (b3 u))
structure Cx.Ok(X:Cx):Prop where
 mod:Mod X.K X.mg X.base
 kind:X.env.scope.kind=.function
 glob:X.env.globals=Ų
 blt:X.env.builtins=Nv
 above:X.s₀.heap.objs.size<=X.env.locals
 inj:∀x y c,X.env.cells.lookup x=b3 c->X.env.cells.lookup y=b3 c->x=y
 has:∀x,(X.env.kindOf x=b3 .cell\/X.env.kindOf x=b3 .free)->∃c,X.env.cells.lookup x=b3 c
 cab:∀x c,X.fn x=dI->X.env.cells.lookup x=b3 c->X.s₀.heap.objs.size<=c
 hd:X.calm=dI->X.A.handled=b4
 frames:X.A.frames=b3 X.stack
 stk:X.stack=X.outer\/(X.stack=X.env::X.outer/\X.env.frame=b3 X.env.locals)
 exf:∀b∈X.ex,b≠X.env.locals/\∀x c,X.env.cells.lookup x=b3 c->c≠b
 bs:∀b o,X.base.get? b=b3 o->X.s₀.heap.get? b=b3 o/\X.H₀ b=b4
 bsz:X.base.objs.size<=X.s₀.heap.objs.size
 noex:∀b o,X.base.get? b=b3 o->b∉X.ex
 exfs:∀b∈X.ex,b∉X.fs
 funs:X.s₀.heap.FunFrames X.base X.outer
 frf:∀b∈X.fs,X.H₀ b=b4
structure Â(X:Cx)(Do:jw)(σ:List (Option V))(H:Hp)(s:Ù):Prop where
 ok:X.Ok
 os:s.os=X.s₀.os
 bare:fB s.gens
 base:Un X.fs X.ex X.H₀ H X.s₀.heap s.heap
 loc:∃m,s.heap.Ns X.env.locals m/\∀(i:Nat)(x:Str)(v:V),X.N[i]?=b3 x->σ[i]?=b3 (b3 v)->qY X.env.scope x->∃u,Í v u/\b0s X.env s.heap m x u
 cell:∀x c,X.env.cells.lookup x=b3 c->∃v,s.heap.IsCell c v
 free:H X.env.locals=b4
 freeC:∀x c,X.env.cells.lookup x=b3 c->H c=b4
 pin:∀p∈X.pn++Do,s.heap.get? p.1=b3 p.2/\H p.1=b4/\p.1≠X.env.locals/\p.1∉X.fs/\∀v,p.2.data≠.cell v
 hok:Š X.prog X.w H s.heap
 len:σ.length=X.N.length
def Cx.Ok.nofr{X:Cx}(ok:X.Ok)(e:X.base.get? b=b3 o):b∉X.fs:=λa=>by have:=(ok.funs.mem a).1;rw[e]at this;ext this
def Â.bs(I:Â X Do σ H s):∀b o,X.base.get? b=b3 o->s.heap.get? b=b3 o/\H b=none:=λb o e=>⟨I.base.keep b o (I.ok.bs b o e).1 (I.ok.bs b o e).2 (I.ok.nofr e)<|I.ok.noex b o e,I.base.free b o (I.ok.bs b o e).1 (I.ok.bs b o e).2<|I.ok.noex b o e⟩
def Â.bk(I:Â X Do σ H s):∀b o,X.base.get? b=b3 o->s.heap.get? b=b3 o:=λb o e=>(I.bs b o e).1
def Â.mod(I:Â X Do σ H s):Mod X.K X.mg X.base:=I.ok.mod
def Â.kIn(I:Â X Do σ H s):X.K.In s.heap:=I.ok.mod.kin.keeps I.bk
def Â.lt{X:Cx}{Do:jw}{σ:List (Option V)}{H:Hp}{s:Ù}(I:Â X Do σ H s):X.env.locals<s.heap.objs.size:=let⟨_,a,_⟩:=I.loc;a.lt
def Â.sz(I:Â X Do σ H s):X.s₀.heap.objs.size<=s.heap.objs.size:=Ģ I.ok.above<|Rr I.lt
def Â.nofs(I:Â X Do σ H s){a:Addr}(h:s.heap.objs.size<=a):a∉X.fs:=λb=>by let⟨_,o,c,_⟩:=I.ok.funs.mem b;show absurd (Ļ (Þ c)<|Ģ I.sz h)<|γ _
def Â.cne(I:Â X Do σ H s):∀x c,X.env.cells.lookup x=b3 c->c≠X.env.locals:=λx c e z=>by let⟨v,o,d,hd⟩:=I.cell x c e;obtain⟨m,⟨i,h,g,b,a,_⟩,_⟩:=I.loc;rw[z,b]at d;ext d;rw[a]at hd;ext hd
def Â.funs(I:Â X Do σ H s):s.heap.FunFrames X.base X.outer:=by
 let all:∀(l:List ı),(∀b∈k5 l,b∈X.fs)->X.s₀.heap.FunFrames X.base l->s.heap.FunFrames X.base l:=by
  intro l;induction l with
  |nil=>intro _ _;trivial|cons h r q=>intro g j;obtain⟨i,⟨L,o,d,k,n,hd⟩,p⟩:=j;let a:L∈X.fs:=g L (by ext k5;rw[aa,d];show ţ);let⟨u,e⟩:=I.base.slot L o n (I.ok.frf L a) a λz=>I.ok.exfs L z a;show⟨i,⟨L,_,d,k,e,hd⟩,q (λb c=>g b<|by ext k5;rw[aa,d];show ŏ _ c) p⟩
 show all X.outer (λ_ c=>c) I.ok.funs
def Â.stack(I:Â X Do σ H s):s.heap.FunFrames X.base X.stack:=by
 rcases I.ok.stk with e|⟨e,a⟩
 .rw[e];show I.funs
 .rw[e];let⟨m,b,_⟩:=I.loc;show .cons (by rw[I.ok.kind];decide) a b ?_ I.funs;show Heap.get?_none_of_le<|Ģ I.ok.bsz I.ok.above
def Â.stkSub(I:Â X Do σ H s):∀b∈k5 X.stack,b∈X.env.locals::X.fs:=λb a=>by
 rcases I.ok.stk with e|⟨e,c⟩
 .rw[e]at a;show ŏ _ a
 .rw[e]at a;unfold k5 at a;rw[aa,c]at a;show a
def Â.stkFree(I:Â X Do σ H s):∀b∈k5 X.stack,H b=none:=λb a=>by
 rcases Č.mp (I.stkSub b a)with e|a
 .rw[e];show I.free
 .let⟨_,o,c,_⟩:=I.ok.funs.mem a;show I.base.free b o c (I.ok.frf b a) λz=>I.ok.exfs b z a
def Â.step{ch:List Addr}(I:Â X Do σ H s)(h:∀b∈ch,(b∈X.ex\/X.s₀.heap.objs.size<=b)/\b≠X.env.locals/\(∀x c,X.env.cells.lookup x=b3 c->c≠b)/\∀p∈X.pn++Do,p.1≠b)(j:∀b o,b≠X.env.locals->b∉X.fs->b∉ch->s.heap.get? b=b3 o->H b=b4->h'.get? b=b3 o)(B:∀b o,b≠X.env.locals->b∈X.fs->b∉ch->s.heap.get? b=b3 o->H b=b4->∃Y,h'.get? b=b3 {o with slots:=Y})(free:∀b o,b∉ch->s.heap.get? b=b3 o->H b=b4->H' b=b4)(J:∀b o,b∉ch->s.heap.get? b=b3 o->∃O,h'.get? b=b3 O)(R:∀b E,H b=b3 (.tup E)->H' b=b3 (.tup E))(M:∀b o u,H b=b3 (.frz o u)->H' b=b3 (.frz o u))(Q:∀b T,H b=b3 (.tbl T)->∃more,H' b=b3 (.tbl<|T++more))(ns:∀m,s.heap.Ns X.env.locals m->h'.Ns X.env.locals m)(U:Š X.prog X.w H' h')(hg:fB g'):
  Â X Do σ H' {s with heap:=h',gens:=g',drawn:=d',toks:=t'}:=by
 let N:∀b o,X.s₀.heap.get? b=b3 o->b≠X.env.locals:=λb o e=>Ā<|Ļ (Þ e) I.ok.above;let A:∀b o,X.s₀.heap.get? b=b3 o->b∉X.ex->b∉ch:=λb o e a G=>by
  rcases(h b G).1 with z|z
  .show a z
  .show absurd (Ļ (Þ e) z)<|γ _
 let g:∀x c,X.env.cells.lookup x=b3 c->∀v,s.heap.IsCell c v->h'.IsCell c v:=λx c e v ⟨o,K,hd⟩=>by
  let w:c∉ch:=λz=>(h c z).2.2.1 x c e rfl;by_cases hc:c∈X.fs
  .let⟨Y,q⟩:=B c o (I.cne x c e) hc w K<|I.freeC x c e;show⟨_,q,hd⟩
  .show⟨o,j c o (I.cne x c e) hc w K<|I.freeC x c e,hd⟩
 show⟨I.ok,I.os,hg,⟨λb o e n G a=>?_,λb o e n G a=>?_,λb o e n a=>?_,λb o e a=>?_,λb E e=>R b E<|I.base.tups b E e,λb o E e=>M b o E<|I.base.frzs b o E e,λb T e=>?_⟩,?_,λx c e=>?_,?_,λx c e=>?_,λp hp=>?_,U,I.len⟩
 .show j b o (N b o e) G (A b o e a) (I.base.keep b o e n G a)<|I.base.free b o e n a
 .let⟨Y,y⟩:=I.base.slot b o e n G a;let⟨Z,L⟩:=B b _ (N b o e) G (A b o e a) y<|I.base.free b o e n a;show⟨Z,L⟩
 .let⟨O,y⟩:=I.base.there b o e a;show free b O (A b o e a) y<|I.base.free b o e n a
 .let⟨O,y⟩:=I.base.there b o e a;show J b O (A b o e a) y
 .let⟨m1,y⟩:=I.base.tbls b T e;let⟨m2,L⟩:=Q b _ y;show⟨m1++m2,by rw[L,Array.append_assoc]⟩
 .let⟨m,hn,hl⟩:=I.loc;show⟨m,ns m hn,λi x v y L e3=>?_⟩;let⟨u,r,l⟩:=hl i x v y L e3;show⟨u,r,?_⟩;rcases l with l|⟨k,c,e,z⟩
  .show .inl l
  .show .inr ⟨k,c,e,g x c e _ z⟩
 .let⟨v,z⟩:=I.cell x c e;show⟨v,g x c e v z⟩
 .obtain⟨m,⟨o,_,_,K,_⟩,_⟩:=I.loc;show free _ o (λz=>(h _ z).2.1 rfl) K I.free
 .let⟨v,o,K,hd⟩:=I.cell x c e;show free c o (λz=>(h c z).2.2.1 x c e rfl) K<|I.freeC x c e
 .let⟨e,n,ne,nf,d⟩:=I.pin p hp;let w:p.1∉ch:=λz=>(h p.1 z).2.2.2 p hp rfl;show⟨j p.1 p.2 ne nf w e n,free p.1 p.2 w e n,ne,nf,d⟩
def Â.un(I:Â X Do σ H s)(u:Un X.fs [] H H' s.heap h')(h:Š X.prog X.w H' h'):Â X Do σ H' {s with heap:=h',toks:=t'}:=by
 obtain⟨m,⟨o,v,q,i,r⟩,_⟩:=id I.loc;let⟨y,j⟩:=u.any i I.free ∅;show I.step (g':=s.gens) (d':=s.drawn) (ch:=[]) (λ_ z=>nomatch z) (λb o _ g _ e n=>u.keep b o e n g ∅) (λb o _ g _ e n=>u.slot b o e n g ∅) (λb o _ e n=>u.free b o e n ∅) (λb o _ e=>u.there b o e ∅) u.tups u.frzs u.tbls (λw k=>by
  let⟨x,d,c,a,p⟩:=k;rw[i]at a;ext a;show⟨_,d,c,j,p⟩) h I.bare
def Â.call(I:Â X Do σ H s)(u:Un (k5 X.stack) ch H H' s.heap h')(j:Š X.prog X.w H' h')(v:fB g')(a:∀b∈ch,(b∈X.ex\/X.s₀.heap.objs.size<=b)/\b≠X.env.locals/\(∀x c,X.env.cells.lookup x=b3 c->c≠b)/\∀p∈X.pn++Do,p.1≠b):
  Â X Do σ H' {s with heap:=h',gens:=g',drawn:=d',toks:=t'}:=by
 obtain⟨m,⟨o,B,A,k,r⟩,_⟩:=id I.loc;let⟨J,i⟩:=u.any k I.free λz=>(a _ z).2.1 rfl;show I.step (ch:=ch) a (λb o i q hc e n=>u.keep b o e n (λz=>(Č.mp<|I.stkSub b z).elim i q) hc) (λb o _ _ hc e n=>u.any e n hc) (λb o hc e n=>u.free b o e n hc) (λb o hc e=>u.there b o e hc) u.tups u.frzs u.tbls (λE w=>by
  let⟨G,h,g,d,y⟩:=w;rw[k]at d;ext d;show⟨_,h,g,i,y⟩) j v
def Â.turned(I:Â X Do σ H s)(k:∀b o,b≠a->s.heap.get? b=b3 o->h'.get? b=b3 o)(B:H a=b4)(g:a≠X.env.locals)(h1:a∈X.ex\/X.s₀.heap.objs.size<=a)(j:∀x c,X.env.cells.lookup x=b3 c->c≠a)(w:∀p∈X.pn++Do,p.1≠a):Â X Do σ H {s with heap:=h',toks:=t'}:=by
 let d:∀b u,H b=b3 u->b≠a:=λb u e z=>by rw[z,B]at e;ext e
 show I.step (g':=s.gens) (d':=s.drawn) (ch:=[a]) (λb y=>?_) (λb o _ _ hc e _=>k b o (λz=>hc<|by simp[z]) e) (λb o _ _ hc e _=>⟨o.slots,k b o (λz=>hc<|by simp[z]) e⟩) (λ_ _ _ _ n=>n)
  (λb o hc e=>⟨o,k b o (λz=>hc<|by simp[z]) e⟩) (λ_ _ e=>e) (λ_ _ _ e=>e) (λb G e=>⟨#[],by rw[e];simp⟩) (λm A=>?_) (λb u e=>?_) I.bare
 .let e:b=a:=by apply y
  subst e;show⟨h1,g,j,w⟩
 .let⟨o,i,h,E,r⟩:=A;show⟨o,i,h,k _ o (ð g) E,r⟩
 .show(I.hok b u e).stay (λc v hc q=>k c v ?_ q) (λ_ q=>q) λ_ _ q=>q;rcases hc with z|z
  .rw[z];show d b u e
  .show d c _ z
def Â.tok(I:Â X Do σ H s)t:Â X Do σ H {s with toks:=t}:=I.un (h':=s.heap) (t':=t) Un.refl I.hok
def Â.kept(I:Â X Do σ H s)(k:∀b u,s.heap.get? b=b3 u->h'.get? b=b3 u):Â X Do σ H {s with heap:=h',toks:=t'}:=I.un (Un.kept k)<|I.hok.kept k
def Â.laid{a:Addr}(I:Â X Do σ H s)(k:∀b u,s.heap.get? b=b3 u->h'.get? b=b3 u)(c:s.heap.objs.size<=a)(new:à X.prog X.w (upd H a o) h' a o):
  Â X Do σ (upd H a o) {s with heap:=h',toks:=t'}:=I.un (Un.laid k c<|I.hok.fresh c)<|I.hok.laid k c new
def Â.write(I:Â X Do σ H s)(d:uV (H x))(c:e=x\/H e=b3 (.own x))(k:∀b u,b≠e->s.heap.get? b=b3 u->h'.get? b=b3 u)(a:∃u,h'.get? e=b3 u)(new:à X.prog X.w (upd H x o) h' x o):Â X Do σ (upd H x o) {s with heap:=h',toks:=t'}:=I.un (Un.write d c k a)<|I.hok.write d c k a new
def Â.pins_of(I:Â X Do σ H s)(h:∀p∈a,s.heap.get? p.1=b3 p.2/\H p.1=b4/\p.1≠X.env.locals/\p.1∉X.fs/\∀v,p.2.data≠.cell v):Â X a σ H s:=
 ⟨I.ok,I.os,I.bare,I.base,I.loc,I.cell,I.free,I.freeC,λp b=>(ĩ.mp b).elim (λz=>I.pin p<|RW _ z)<|h p,I.hok,I.len⟩
def Ez{N:List Str}(e:N.Nodup){i:Nat}(a:N[i]?=b3 x)(b:N[j]?=b3 x):i=j:=by let⟨h1,c⟩:=ä.mp a;let⟨g,d⟩:=ä.mp b;show(N3 e).mp<|c.trans d.symm
def EA(I:Â X Do σ H s)(hN:X.N.Nodup)(hi:X.N[i]?=b3 x)(G:Loc X.env.scope x)(r:Í v u)(h:∀s',Â X Do (σ.set i<|b3 v) H s'->(∃a,Κ a s.heap s'.heap/\(a=X.env.locals\/X.env.cells.lookup x=b3 a))->Q Unit.unit s')(hf:X.fn x=dI\/X.env.scope.names.lookup x=b3 .local:=by first|show .inl rfl|show .inr rfl|assumption):È M A (storeName X.env x u) Q E s:=by
 let⟨m,hn,hl⟩:=id I.loc;let Z:(X.env.scope.kind==.class||(X.env.scope.kind==.module&&X.env.locals != X.env.globals))=false:=by rw[I.ok.kind];rfl
 let L:i<σ.length:=by rw[I.len];show(ä.mp hi).1
 let cne:=I.cne;let B:∀{a:Addr}{h':ñ},(∃o,s.heap.get? a=b3 o/\H a=b4)->Κ a s.heap h'->Š X.prog X.w H h':=λ{a h'} ha g b ob e=>by
  let⟨_,_,J⟩:=ha;show(I.hok b ob e).stay (λc w' hc q=>(g.2 c ?_).trans q) (λ_ q=>q) λ_ _ q=>q;rintro rfl;rcases hc with rfl|hc
  .rw[J]at e;ext e
  .rw[J]at hc;ext hc
 rcases G with N|N
 .show wpAny_storeName_local N hn (λh' hn' g=>?_) Z;let⟨oL,_,_,hoL,_⟩:=id hn;show h _ ⟨I.ok,I.os,I.bare,⟨λb o e n O G=>?_,λb o e n O G=>?_,I.base.free,λb o e G=>?_,I.base.tups,I.base.frzs,I.base.tbls⟩,⟨_,hn',λj y v' w K e3=>?_⟩,λy c e=>?_,I.free,I.freeC,λp hp=>?_,B ⟨oL,hoL,I.free⟩ g,by apply I.len⟩ ⟨_,g,.inl rfl⟩
  .show(g.2 b<|Ā<|Ļ (Þ e) I.ok.above).trans<|I.base.keep b o e n O G
  .let⟨sl,w⟩:=I.base.slot b o e n O G;show⟨sl,(g.2 b<|Ā<|Ļ (Þ e) I.ok.above).trans w⟩
  .let⟨o',w⟩:=I.base.there b o e G;show⟨o',(g.2 b<|Ā<|Ļ (Þ e) I.ok.above).trans w⟩
  .by_cases T:j=i
   .subst T;rw[hi]at w;ext w;rw[ϡ L]at K;ext K;show⟨u,r,.inl ⟨N,∅⟩⟩
   .rw[ô<|ð T]at K;let⟨u',r',q⟩:=hl j y v' w K e3;show⟨u',r',?_⟩;rcases q with⟨k,e⟩|⟨k,c,e,z⟩
    .show .inl ⟨k,?_⟩;have:y≠x:=λe=>T<|Ez hN w<|e▸hi;simp[this,e]
    .show .inr ⟨k,c,e,z.sameBut g<|cne y c e⟩
  .let⟨w',z⟩:=I.cell y c e;show⟨w',z.sameBut g<|cne y c e⟩
  .let⟨e,n,ne,nf,d⟩:=I.pin p hp;show⟨(g.2 p.1 ne).trans e,n,ne,nf,d⟩
 .let R:X.fn x=true:=by
   rcases hf with z|z
   .show z
   .rw[z]at N;ext N
  let⟨c,hc⟩:=I.ok.has x<|.inl N;let⟨w',z⟩:=I.cell x c hc;show wpAny_storeName_cell I.ok.kind N hc z λh' U g=>?_;let⟨oc,hoc,hocd⟩:=id z;show h {s with heap:=h'} ⟨I.ok,I.os,I.bare,⟨λb o e n O G=>?_,λb o e n O G=>?_,I.base.free,λb o e G=>?_,I.base.tups,I.base.frzs,I.base.tbls⟩,⟨m,hn.sameBut g<|ð<|cne x c hc,λj y v' w K e3=>?_⟩,λy c' e=>?_,I.free,I.freeC,λp hp=>?_,B ⟨oc,hoc,I.freeC x c hc⟩ g,by apply I.len⟩ ⟨c,g,.inr hc⟩
  .show(g.2 b<|Ā<|Ļ (Þ e)<|I.ok.cab x c R hc).trans<|I.base.keep b o e n O G
  .let⟨sl,w⟩:=I.base.slot b o e n O G;show⟨sl,(g.2 b<|Ā<|Ļ (Þ e)<|I.ok.cab x c R hc).trans w⟩
  .let⟨o',w⟩:=I.base.there b o e G;show⟨o',(g.2 b<|Ā<|Ļ (Þ e)<|I.ok.cab x c R hc).trans w⟩
  .by_cases T:j=i
   .subst T;rw[hi]at w;ext w;rw[ϡ L]at K;ext K;show⟨u,r,.inr ⟨.inl N,c,hc,U⟩⟩
   .rw[ô<|ð T]at K;let⟨u',r',q⟩:=hl j y v' w K e3;show⟨u',r',?_⟩;rcases q with q|⟨k,c',e,z'⟩
    .show .inl q
    .show .inr ⟨k,c',e,z'.sameBut g ?_⟩;rintro rfl;show T<|Ez hN w<|I.ok.inj _ _ _ e hc▸hi
  .by_cases Y:c'=c
   .subst Y;show⟨_,U⟩
   .let⟨w2,z2⟩:=I.cell y c' e;show⟨w2,z2.sameBut g Y⟩
  .let⟨e,n,ne,nf,d⟩:=I.pin p hp;show⟨(g.2 p.1 ?_).trans e,n,ne,nf,d⟩;intro q;rw[q,hoc]at e;let q':oc=p.2:=Ė e;show d w'<|by rw[<- q'];show hocd
def EB(I:Â X Do σ H s)(c:X.N.Nodup)(hi:X.N[i]?=b3 x)(e:Loc X.env.scope x)(r:Í v u)(h:∀a,Â X Do (σ.set i<|b3 v) H a->Q Unit.unit a)(d:X.fn x=dI\/X.env.scope.names.lookup x=b3 .local:=by first|show .inl rfl|show .inr rfl|assumption):È M A (storeName X.env x u) Q E s:=
 EA I c hi e r (λa b _=>h a b) d
noncomputable abbrev XK:=Value->Option Addr->Hp->Prop
noncomputable abbrev St:=List<|Option V
noncomputable abbrev VK:=V->Hp->Prop
noncomputable abbrev TE:=St->Hp->VK->Prop
noncomputable abbrev TT:=St->Hp->(Bool->Hp->Prop)->Prop
noncomputable abbrev TA:=St->Hp->(List V->Hp->Prop)->Prop
structure ϖ where
 nx:St->Hp->Prop
 rt:VK
 bk:St->Hp->Prop:=λ_ _=>False
 ct:St->Hp->Prop:=λ_ _=>False
noncomputable abbrev TS:=ϖ->St->Hp->Prop
inductive EP (X:Cx)(Do:jw)(σ:St)(Q:VK)(u:Value)(s':Ù):Prop
 |mk (v:V)(H':Hp)(I:Â X Do σ H' s')(r:Í v u)(q:Q v H'):EP X Do σ Q u s'
inductive TP (X:Cx)(Do:jw)(σ:St)(Q:Bool->Hp->Prop)(b:Bool)(s':Ù):Prop
 |mk (H':Hp)(I:Â X Do σ H' s')(q:Q b H'):TP X Do σ Q b s'
inductive AP (X:Cx)(Do:jw)(σ:St)(Q:gz->Hp->Prop)(us:gw)(s':Ù):Prop
 |mk (vs:gz)(H':Hp)(I:Â X Do σ H' s')(r:Å vs us)(q:Q vs H'):AP X Do σ Q us s'
inductive vq (X:Cx)(Do:jw)(Q:St->Hp->Prop)(s':Ù):Prop
 |mk (σ':St)(H':Hp)(I:Â X Do σ' H' s')(q:Q σ' H'):vq X Do Q s'
inductive Sv (X:Cx)(Do:jw)(Q:VK)(u:Value)(s':Ù):Prop
 |mk (v:V)(σ':St)(H':Hp)(I:Â X Do σ' H' s')(r:Í v u)(q:Q v H'):Sv X Do Q u s'
abbrev SP(X:Cx)(Do:jw)(D:ϖ)(f:Flow)(a:Ù):Prop:=
 match f with
 |.next=>vq X Do D.nx a|.brk=>vq X Do D.bk a|.cont=>vq X Do D.ct a|.ret u=>Sv X Do D.rt u a
abbrev PE(X:Cx)(e:Expr)(t:TE):Prop:=
 ∀(Do:jw)(s:Ù)(σ:St)(H:Hp)(Q:VK),Â X Do σ H s->t σ H Q->È (Î X.prog X.w) X.A (eval e X.env) (EP X Do σ Q) X.xe s
abbrev PT(X:Cx)(e:Expr)(t:TT):Prop:=
 ∀(Do:jw)(s:Ù)(σ:St)(H:Hp)(Q:Bool->Hp->Prop),Â X Do σ H s->t σ H Q->È (Î X.prog X.w) X.A (qp e X.env<|eval e X.env) (TP X Do σ Q) X.xe s
abbrev PW(X:Cx)(e:Expr)(t:TT):Prop:=
 ∀(a:J1 Value)(Do:jw)(s:Ù)(σ:St)(H:Hp)(Q:Bool->Hp->Prop),Â X Do σ H s->t σ H Q->È (Î X.prog X.w) X.A (qp e X.env a) (TP X Do σ Q) X.xe s
def PW.pt(h:PW X e t):PT X e t:=h _
abbrev PA(X:Cx)(es:List Expr)(t:TA):Prop:=
 ∀(pos:Ĳ)(Do:jw)(s:Ù)(σ:St)(H:Hp)(Q:gz->Hp->Prop),Â X Do σ H s->t σ H Q->È (Î X.prog X.w) X.A (spliced<|Ř pos<|Ă es X.env) (AP X Do σ Q) X.xe s
abbrev PS(X:Cx)(st:Stmt)(t:TS):Prop:=
 ∀(Do:jw)(s:Ù)(σ:St)(H:Hp)(D:ϖ),Â X Do σ H s->t D σ H->È (Î X.prog X.w) X.A (exec st X.env) (SP X Do D) X.xe s
abbrev Ş(X:Cx)(st:List Stmt)(t:TS):Prop:=
 ∀(Do:jw)(s:Ù)(σ:St)(H:Hp)(D:ϖ),Â X Do σ H s->t D σ H->È (Î X.prog X.w) X.A (execs st X.env) (SP X Do D) X.xe s
def aW{t:J1 c}{Q b:c->Ù->Prop}(h:È M A t Q E s)(d:∀a s,Q a s->b a s):È M A t b E s:=ř h d λ_ _ x=>x
abbrev A7(i:Nat):TE:=λσ H Q=>∃v,σ[i]?=b3 (b3 v)/\Q v H
abbrev tC(v:V):TE:=λ_ H Q=>Q v H
def EC(j:X.N[i]?=b3 x)(p:qY X.env.scope x)(hd:(x==("__debug__":Str))=false:=by decide)(g:(x==("__classdict__":Str))=false:=by decide):PE X (.Name x pos) (A7 i):=by
 intro d s q H Q I h;let⟨v,e,h⟩:=h;let⟨m,o,k⟩:=I.loc;let⟨u,r,l⟩:=k i x v j e p;let fin:EP X d q Q u s:=⟨v,H,I,r,h⟩;rcases l with⟨b,n⟩|⟨b,c,hc,a⟩
 .show Nr (wpAny_loadName_local I.ok.kind b o n fin) hd
 .rcases b with b|b
  .show Nr (wpAny_loadName_cell I.ok.kind b hc a fin) hd
  .show Nr (wpAny_loadName_free I.ok.kind b hc a fin g) hd
def b0f{i j pos}:PE X (.Constant (.int i) j pos) (tC<|.int i):=λ_ _ _ H _ I h=>wpAny_Constant_int ⟨.int i,H,I.tok _,⟨_,rfl⟩,h⟩
def b0Z{b j pos}:PE X (.Constant (.bool b) j pos) (tC<|.bl b):=λ_ _ _ H _ I h=>Constant_bool ⟨.bl b,H,I,rfl,h⟩
def b0Y{j pos}:PE X (.Constant .none j pos) (tC .non):=λ_ _ _ H _ I h=>Constant_none ⟨.non,H,I,rfl,h⟩
def b0X{x j pos}:PE X (.Constant (.str x) j pos) (tC<|.str x):=λ_ _ _ H _ I h=>Calls.Constant_str ⟨.str x,H,I.tok _,⟨_,rfl⟩,h⟩
abbrev Gl(X:Cx)(x:Str):Prop:=X.env.kindOf x=b3 .globalImplicit
def uW{σ:St}(I:Â X Do σ H s)(a:Gl X x)(b:X.mg x=b3 u)(h:Q u s)(hd:(x==("__debug__":Str))=false:=by decide):È (Î X.prog X.w) X.A (eval (.Name x pos) X.env) Q E s:=
 S9 I.ok.kind a (Calls.loadGlobal_global (by rw[I.ok.glob];show I.mod.glob.keeps I.bk) b h) hd
def kE{σ:St}(I:Â X Do σ H s)(b:Gl X x)(c:X.mg x=b4)(e:Ω x=b3 u)(h:Q u s)(d:x ≠ "__name__":=by decide)(hd:(x==("__debug__":Str))=false:=by decide):È (Î X.prog X.w) X.A (eval (.Name x pos) X.env) Q E s:=by
 let⟨g,h1,a⟩:=I.mod.blt;show S9 I.ok.kind b (Calls.loadGlobal_builtin (by rw[I.ok.glob];show I.mod.glob.keeps I.bk) c (by rw[I.ok.blt];show h1.keeps I.bk) ((a x d).trans e) h) hd
def b0C(a:Gl X x)(b:X.mg x=b3 u)(r:Í v u)(hd:(x==("__debug__":Str))=false:=by decide):PE X (.Name x pos) (tC v):=
 λ_ _ _ H _ I h=>uW I a b ⟨v,H,I,r,h⟩ hd
def a9k(a:Gl X x)(b:X.mg x=b4)(d:Ω x=b3 u)(r:Í v u)(c:x ≠ "__name__":=by decide)(hd:(x==("__debug__":Str))=false:=by decide):PE X (.Name x pos) (tC v):=
 λ_ _ _ H _ I h=>kE I a b d ⟨v,H,I,r,h⟩ c hd
abbrev a9h(t u:TT):TT:=λσ H Q=>t σ H λc d=>if c=dI then u σ d Q else Q b5 d
abbrev a9c(t u:TT):TT:=λσ H Q=>t σ H λc d=>if c=dI then Q dI d else u σ d Q
abbrev a9b(t:TT):TT:=λσ H Q=>t σ H λc d=>Q (!c) d
def a9S(g:PT X a tA):PW X (.BoolOp .And [a] pos) tA:=by
 intro k d s i H Q I h;show isTrue_and<|aW (g d s i H Q I h) λc j e=>?_;cases c with
 |true=>show isTrue_and_nil e|false=>show e
def b4X(g:PT X a tA):PW X (.BoolOp .Or [a] pos) tA:=by
 intro k d s i H Q I h;show isTrue_or<|aW (g d s i H Q I h) λc j e=>?_;cases c with
 |false=>show isTrue_or_nil e|true=>show e
def b3j{cG:List Expr}(k:PT X a tA)(n:PW X (.BoolOp .And (b::cG) pos) tB'):PW X (.BoolOp .And (a::b::cG) pos) (a9h tA tB'):=by
 intro p d s j H Q I h;show isTrue_and<|aW (k d s j H _ I h) λc o ⟨e,g,i⟩=>?_;cases c with
 |true=>show n p d o j e Q g i|false=>show⟨e,g,i⟩
def b3i{cG:List Expr}(k:PT X a tA)(n:PW X (.BoolOp .Or (b::cG) pos) tB'):PW X (.BoolOp .Or (a::b::cG) pos) (a9c tA tB'):=by
 intro p d s j H Q I h;show isTrue_or<|aW (k d s j H _ I h) λc o ⟨e,g,i⟩=>?_;cases c with
 |true=>show⟨e,g,i⟩|false=>show n p d o j e Q g i
def b3b(i:PT X a tA):PT X (.UnaryOp .Not a pos) (a9b tA):=by intro d s j H Q I h;show isTrue_not<|aW (i d s j H (λc g=>Q (!c) g) I h) λ_ _ ⟨e,J,q⟩=>⟨e,J,q⟩
abbrev b3X(ta tb:TE):TE:=λσ H Q=>ta σ H λx d=>∃c,x=.bl c/\if c=dI then tb σ d Q else Q (.bl b5) d
abbrev b3P(ta tb:TE):TE:=λσ H Q=>ta σ H λx d=>∃c,x=.bl c/\if c=dI then Q (.bl dI) d else tb σ d Q
abbrev b2c(ta:TE):TE:=λσ H Q=>ta σ H λx d=>∃c,x=.bl c/\Q (.bl<|!c) d
def b2b{op}(h:PE X a t):PE X (.BoolOp op [a] pos) t:=λDo s σ H Q I hw=>BoolOp_one<|h Do s σ H Q I hw
def x13{cG:List Expr}(k:PE X a ta)(n:PE X (.BoolOp .And (b::cG) pos) tb):PE X (.BoolOp .And (a::b::cG) pos) (b3X ta tb):=by
 intro d s j H Q I h;show BoolOp_and<|aW (k d s j H _ I h) λv p ⟨x,g,i,o,e⟩=>?_;let⟨c,rfl,e⟩:=e;ext o;show Ϲ ?_;cases c with
 |true=>show n d p j g Q i e|false=>show⟨.bl b5,g,i,rfl,e⟩
def x12{cG:List Expr}(k:PE X a ta)(n:PE X (.BoolOp .Or (b::cG) pos) tb):PE X (.BoolOp .Or (a::b::cG) pos) (b3P ta tb):=by
 intro d s j H Q I h;show BoolOp_or<|aW (k d s j H _ I h) λv p ⟨x,g,i,o,e⟩=>?_;let⟨c,rfl,e⟩:=e;ext o;show Ϲ ?_;cases c with
 |false=>show n d p j g Q i e|true=>show⟨.bl dI,g,i,rfl,e⟩
def x11(j:PE X a ta):PE X (.UnaryOp .Not a pos) (b2c ta):=by intro d s n H Q I h;show UnaryOp_<|aW (j d s n H _ I h) λv o ⟨x,g,i,k,e⟩=>?_;let⟨c,rfl,e⟩:=e;ext k;show not_of<|Ϲ ⟨.bl<|!c,g,i,rfl,e⟩
abbrev i10(t:TT)(ta tb:TE):TE:=λσ H Q=>t σ H λc d=>if c=dI then ta σ d Q else tb σ d Q
def h15(hc:PT X c tA)(o:PE X a ta)(p:PE X b tb):PE X (.IfExp c a b pos) (i10 tA ta tb):=by
 intro e s g H Q I h;show wpAny_IfExp<|aW (hc e s g H _ I h) λd n ⟨i,j,k⟩=>?_;cases d with
 |true=>show o e n g i Q j k|false=>show p e n g i Q j k
abbrev Ĉ(K:Ô)(H:Hp)(a:Addr)(xs:gz):Prop:=
 Rd H a (.lst xs) \/
  ∃(o:Obj)(its:Array Value)(n:Nat),K.lookup a=b3 o/\o.cls=.type "list"/\o.dict=b4/\o.data=.seq its n/\its.size<=Ò/\Å xs its.toList
abbrev ç(K:Ô)(H:Hp)(a:Addr)(xs:gz):Prop:=
 Rd H a (.tup xs) \/
  ∃(o:Obj)(its:Array Value)(n:Nat),K.lookup a=b3 o/\o.cls=.type "tuple"/\o.dict=b4/\o.data=.seq its n/\its.size<=Ò/\Å xs its.toList
abbrev e11:Value->Option V
 |.none=>b3 .non|.bool b=>b3 (.bl b)|.int i _=>b3 (.int i)|.str x _=>b3 (.str x)|.bytes b _=>b3 (.byt b)|.float b _=>b3 (.flt b)|.ref a=>b3 (.ref a)|.type n=>b3 (.ty n)|_=>b4
def Í.abs(r:Í x u):e11 u=b3 x:=by
 cases x with
 |non=>ext r;rfl|bl _=>ext r;rfl|int _=>let⟨t,rfl⟩:=r;rfl|str _=>let⟨t,rfl⟩:=r;rfl|byt _=>let⟨t,rfl⟩:=r;rfl|flt _=>let⟨t,rfl⟩:=r;rfl|ref _=>ext r;rfl|ty _=>ext r;rfl
def Í.inj(r:Í x u)(q:Í y u):x=y:=Ė<|r.abs.symm.trans q.abs
def Å.inj:∀{xs a}{us},Å xs us->Å a us->xs=a
 |_,_,_,.nil,.nil=>rfl|_,_,_,.cons r t,.cons r' t'=>by rw[r.inj r',Å.inj t t']
def Ĉ.of{K:Ô}(h:H a=b3 (.lst xs)):Ĉ K H a xs:=.inl<|.inl h
def ç.of{K:Ô}(h:H a=b3 (.tup xs)):ç K H a xs:=.inl<|.inl h
def Â.list{σ:St}(I:Â X Do σ H s)(h:Ĉ X.K H a xs):∃its,Å xs its/\PlainL s.heap a its.toArray/\xs.length<=Ò:=by
 rcases h with h|⟨o,its,n,b,hc,hd,c,d,r⟩
 .let⟨z,its,n,r,e⟩:=h.ok I.hok;show⟨its,r,⟨_,n,e,rfl,rfl,rfl⟩,z⟩
 .show⟨its.toList,r,⟨o,n,I.kIn a o b,hc,hd,by apply c⟩,?_⟩;let e:=r.length;dsimp[ie]at e;lia
def Â.tuple{σ:St}(I:Â X Do σ H s)(h:ç X.K H a xs):∃its,Å xs its/\J3 s.heap a its.toArray/\xs.length<=Ò:=by
 rcases h with h|⟨o,its,n,b,hc,hd,c,d,r⟩
 .let⟨z,its,r,p⟩:=h.ok I.hok;show⟨its,r,p.tup,z⟩
 .show⟨its.toList,r,⟨o,I.kIn a o b,hc,n,by apply c⟩,?_⟩;let e:=r.length;dsimp[ie]at e;lia
def Â.tupN{σ:St}(I:Â X Do σ H s)(h:ç X.K H a xs):∃its,Å xs its/\ž s.heap a its.toArray:=by
 rcases h with h|⟨o,its,n,b,hc,hd,c,d,r⟩
 .let⟨z,its,r,p⟩:=h.ok I.hok;show⟨its,r,p⟩
 .show⟨its.toList,r,o,I.kIn a o b,hc,n,by apply c,hd⟩
def Â.list_inj{σ:St}(I:Â X Do σ H s)(h:Ĉ X.K H a xs)(h':Ĉ X.K H a ys):xs=ys:=by
 obtain⟨its,r,⟨o,n,e,_,_,d⟩,_⟩:=I.list h;obtain⟨b,i,⟨k,j,g,_,_,c⟩,_⟩:=I.list h';rw[e]at g;ext g;rw[d]at c;injection c with d1 _;have:its=b:=by apply congrArg Qa d1
 subst this;show r.inj i
def Â.tuple_inj{σ:St}(I:Â X Do σ H s)(h:ç X.K H a xs)(h':ç X.K H a ys):xs=ys:=by
 obtain⟨its,r,⟨o,e,_,n,d⟩,_⟩:=I.tuple h;obtain⟨b,i,⟨k,g,_,j,c⟩,_⟩:=I.tuple h';rw[e]at g;ext g;rw[d]at c;injection c with d1 _;have:its=b:=by apply congrArg Qa d1
 subst this;show r.inj i
noncomputable abbrev Cx.wish(X:Cx)(E:Value->Ù->Prop):Cx:={X with xe:=E}
noncomputable abbrev Cx.nox(X:Cx):Cx:=X.wish λ_ _=>False
def Cx.Ok.wish{X:Cx}(ok:X.Ok)E:(X.wish E).Ok:=
 ⟨ok.mod,ok.kind,ok.glob,ok.blt,ok.above,ok.inj,ok.has,ok.cab,ok.hd,ok.frames,ok.stk,ok.exf,ok.bs,ok.bsz,ok.noex,ok.exfs,ok.funs,ok.frf⟩
def Cx.Ok.unwish{X:Cx}(ok:(X.wish E).Ok):X.Ok:=
 ⟨ok.mod,ok.kind,ok.glob,ok.blt,ok.above,ok.inj,ok.has,ok.cab,ok.hd,ok.frames,ok.stk,ok.exf,ok.bs,ok.bsz,ok.noex,ok.exfs,ok.funs,ok.frf⟩
def Â.wish{σ:St}(I:Â X Do σ H s)E:Â (X.wish E) Do σ H s:=⟨I.ok.wish E,I.os,I.bare,I.base,I.loc,I.cell,I.free,I.freeC,I.pin,I.hok,I.len⟩
def Â.unwish{σ:St}(I:Â (X.wish E) Do σ H s):Â X Do σ H s:=⟨I.ok.unwish,I.os,I.bare,I.base,I.loc,I.cell,I.free,I.freeC,I.pin,I.hok,I.len⟩
def SP.unwish(h:SP (X.wish E) Do D f c):SP X Do D f c:=by
 cases f with
 |next=>let⟨a,b,I,q⟩:=h;show⟨a,b,I.unwish,q⟩|brk=>let⟨a,b,I,q⟩:=h;show⟨a,b,I.unwish,q⟩|cont=>let⟨a,b,I,q⟩:=h;show⟨a,b,I.unwish,q⟩|ret u=>let⟨v,a,b,I,r,q⟩:=h;show⟨v,a,b,I.unwish,r,q⟩
def Ş.nox{st:List Stmt}(h:Ş X.nox st t):Ş X st t:=λDo s σ H D I hw=>ř (h Do s σ H D (I.wish _) hw) (λ_ _ q=>q.unwish) λ_ _ z=>ο z
abbrev ED:TS:=λD σ H=>D.nx σ H
abbrev b5f(t u:TS):TS:=λD σ H=>t {D with nx:=u D} σ H
def b5c:Ş X [] ED:=λ_ _ σ H _ I h=>NA ⟨σ,H,I,h⟩
def b5b{st:Stmt}{cG:List Stmt}(h1:PS X st t)(g:Ş X cG u):Ş X (st::cG) (b5f t u):=by
 intro a s j H D I h;show QK<|aW (h1 a s j H {D with nx:=u D} I h) λf i q=>?_;cases f with
 |next=>let⟨b,c,d,q⟩:=q;show g a i b c D d q|ret v=>show q|brk=>show q|cont=>show q
def b4e{st:Stmt}(h1:PS X st t):Ş X [st] t:=by
 intro a s b H D I h;show QK<|aW (h1 a s b H D I h) λf c q=>?_;cases f with
 |next=>show NA q|ret v=>show q|brk=>show q|cont=>show q
def b4d:PS X (.Pass pos) ED:=λ_ _ σ H _ I h=>wpAny_Pass ⟨σ,H,I,h⟩
def Â.quiet{σ:St}(I:Â X Do σ H s):interactive X.env=false:=by simp[interactive,I.ok.kind]
abbrev b4c(te:TE):TS:=λD σ H=>te σ H λ_ a=>D.nx σ a
def b4a(g:PE X e te)(i:fj e b4 pos.line X.env=pure false:=by rfl):PS X (.Expr e pos) (b4c te):=by intro a s b H D I h;show wpAny_Expr_any (aW (g a s b H _ I h) λv n ⟨x,c,d,k,j⟩=>⟨b,c,d,j⟩) I.quiet i
abbrev b4Y(te:TE):TS:=λD σ H=>te σ H D.rt
def b3z(g:PE X e te):PS X (.Return (b3 e) pos) (b4Y te):=by intro a s b H D I h;show wpAny_Return_some<|aW (g a s b H _ I h) λv k ⟨x,c,d,j,i⟩=>⟨x,b,c,d,j,i⟩
abbrev b3y:TS:=λD _ H=>D.rt .non H
def b3v:PS X (.Return b4 pos) b3y:=λ_ _ σ H _ I h=>wpAny_Return_none ⟨.non,σ,H,I,rfl,h⟩
abbrev b3a(c:TT)(t u:TS):TS:=λD σ H=>c σ H λb a=>if b=dI then t D σ a else u D σ a
def b3F(hc:PT X c p)(q:Ş X a t)(v:Ş X b u):PS X (.If c a b pos) (b3a p t u):=by
 intro g s i H D I h;show wpAny_If<|aW (hc g s i H _ I h) λd o ⟨j,k,n⟩=>?_;cases d with
 |true=>show q g o i j D k n|false=>show v g o i j D k n
noncomputable abbrev TG:=V->St->Hp->(St->Hp->Prop)->Prop
noncomputable abbrev sV:=List V->St->Hp->(St->Hp->Prop)->Prop
abbrev PG(X:Cx)(a:Expr)(t:TG):Prop:=
 ∀(Do:jw)(s:Ù)(σ:St)(H:Hp)(v:V)(u:Value)(Q:St->Hp->Prop),Â X Do σ H s->Í v u->t v σ H Q->
  È (Î X.prog X.w) X.A (au a X.env u) (λ_ b=>vq X Do Q b) X.xe s
abbrev uX(X:Cx)(ts:List Expr)(t:sV):Prop:=
 ∀(Do:jw)(s:Ù)(σ:St)(H:Hp)(vs:gz)(us:gw)(Q:St->Hp->Prop),Â X Do σ H s->Å vs us->t vs σ H Q->
  È (Î X.prog X.w) X.A (assignInOrder ((ς ts X.env).map (·.2)) us) (λ_ a=>vq X Do Q a) X.xe s
abbrev A8(i:Nat):TG:=λv σ H Q=>Q (σ.set i<|b3 v) H
def EE(c:X.N.Nodup)(hi:X.N[i]?=b3 x)(e:Loc X.env.scope x)(d:X.fn x=dI\/X.env.scope.names.lookup x=b3 .local:=by first|show .inl rfl|show .inr rfl|assumption):PG X (.Name x pos) (A8 i):=by intro b s j H v u Q I r h;show QY<|EB I c hi e r (λg a=>⟨_,H,a,h⟩) d
abbrev EF:sV:=λvs σ H Q=>vs=[]/\Q σ H
abbrev EG(t:TG)(u:sV):sV:=λvs σ H Q=>∃v r,vs=v::r/\t v σ H λa b=>u r a b Q
def b3C:uX X [] EF:=by intro a s b H d c Q I r h;let⟨e,h⟩:=h;subst e;ext r;show assignInOrder_nil ⟨b,H,I,h⟩
def b2u(h1:PG X e t)(i:uX X es u)(j:(ς (e::es) X.env).map (·.2)=au e X.env::(ς es X.env).map (·.2):=by rfl):uX X (e::es) (EG t u):=by
 intro a s p H x q Q I r h;let⟨v,w,g,h⟩:=h;subst g;cases r with
 |cons r n=>rw[j];show assignInOrder_cons<|aW (h1 a s p H _ _ _ I r h) λ_ o ⟨b,c,d,k⟩=>?_;show i a o b c _ _ Q d n k
abbrev EH(b:TE)(g:TG):TS:=λD σ H=>b σ H λx a=>g x σ a D.nx
def b2t(j:PE X e b)(k:PG X tg g)(n:swapsWithSole [tg] e pos.line X.env=pure false:=by rfl)(hw:OI [tg] e X.env=pure none:=by rfl)(h1:(ς [tg] X.env).map (·.2)=[au tg X.env]:=by rfl):PS X (.Assign [tg] e pos) (EH b g):=by
 intro a s c H D I h;show wpAny_Assign_stores (aW (j a s c H _ I h) λv u ⟨x,d,i,p,o⟩=>?_) n hw;rw[h1];show aW (k a u c d x v _ i p o) λ_ w q=>q
def a8S(k:X.N.Nodup)(hi:X.N[i]?=b3 x)(q:Loc X.env.scope x)(n:PE X e c)(p:fj e (b3<|.Name x a) pos.line X.env=pure false:=by rfl)(o:X.fn x=dI\/X.env.scope.names.lookup x=b3 .local:=by first|show .inl rfl|show .inr rfl|assumption):
  PS X (.Assign [.Name x a] e pos) (EH c<|A8 i):=by
 intro b s z H D I h;show wpAny_Assign_Name (aW (n b s z H _ I h) λv A ⟨y,d,g,w,u⟩=>?_) p;show EB g k hi q w (λB j=>⟨_,d,j,u⟩) o
abbrev a8K(c:TT)(h:TS):TS:=λD σ H=>∃W:Nat->St->Hp->Prop,(∃m,W m σ H)/\∀m σ H,W m σ H->
 c σ H λb e=>if b=dI then ∃N:St->Hp->Prop,(∀a d,N a d->∃g,g<m/\W g a d)/\h {D with nx:=N,ct:=N,bk:=D.nx} σ e else D.nx σ e
def a8E(E:yj (Î X.prog X.w) X.A X.env X.xe)(hc:PT X c J)(L:Ş X body G):PS X (.While c body [] pos) (a8K J G):=by
 intro e s Y H D I h;obtain⟨W,⟨M,T⟩,turn⟩:=h;show wpAny_While<|codeAny_whileLoop (λn O=>∃i x,Â X e i x O/\W n i x) ?_ M ⟨Y,H,I,T⟩;rintro n Q ⟨d,y,K,U⟩;show mU E<|aW (hc e Q d y _ K<|turn n d y U) λb R ⟨z,A,j⟩=>?_;cases b with
 |true=>
  let⟨N,B,j⟩:=j;rw[if_pos rfl];show mU E<|aW (L e R d z _ A j) λf Z k=>?_;cases f with
  |next=>let⟨a,g,o,u⟩:=k;let⟨q,p,w⟩:=B a g u;show⟨q,p,a,g,o,w⟩|cont=>let⟨a,g,o,u⟩:=k;let⟨q,p,w⟩:=B a g u;show⟨q,p,a,g,o,w⟩|brk=>show k|ret v=>show k
 |false=>rw[if_neg ø];show NA ⟨d,z,A,j⟩
structure It where
 go:Nat->Hp->Prop
 yld:Nat->Hp->V->Hp->Prop
 stop:Nat->Hp->Prop
abbrev kF(X:Cx)(Do:jw)(H:Hp)(b:Addr):Prop:=
 H b=b4/\b≠X.env.locals/\b∉X.fs/\(b∈X.ex\/X.s₀.heap.objs.size<=b)/\(∀x c,X.env.cells.lookup x=b3 c->c≠b)/\∀p∈X.pn++Do,p.1≠b
def Â.fpOk{σ:St}{b:Addr}(I:Â X Do σ H s)(a:s.heap.objs.size<=b)(g:d b=b4):kF X Do d b:=by
 show⟨g,Ţ<|Ļ I.lt a,I.nofs a,.inr<|Ģ I.sz a,λx c e z=>?_,λp h z=>?_⟩
 .let⟨v,q⟩:=I.cell x c e;show absurd (Ļ q.lt<|by rw[z];show a)<|γ _
 .show absurd (Ļ (Þ (I.pin p h).1)<|by rw[z];show a)<|γ _
noncomputable abbrev Qc(X:Cx):Prop:=X.calm=dI
inductive Sn (X:Cx)(Do:jw)(σ:St)(J:It)(fp:List Addr)(tn:Nat->ñ->Prop)(i:Nat)(H:Hp)(u:Value)(s2:Ù):Prop
 |mk (x:V)(H':Hp)(I:Â X Do σ H' s2)(r:Í x u)(y:J.yld i H x H')(t:tn (i+1) s2.heap)(f:∀b∈fp,H' b=b4):Sn X Do σ J fp tn i H u s2
structure Ń(q:Cx->Prop)(P:ť)(w:ĳ)(K:Ô)(tg:Expr)(J:It)(fp:List Addr)(it:Addr)(tn:Nat->ñ->Prop):Prop where
 mem:it∈fp
 obj:∀i h,tn i h->∀b∈fp,∃o,h.get? b=b3 o/\∀v,o.data≠.cell v
 keep:∀i h h',tn i h->(∀b∈fp,∀o,h.get? b=b3 o->h'.get? b=b3 o)->tn i h'
 item:∀(X:Cx),X.prog=P->X.w=w->X.K=K->q X->∀(i:Nat)(Do:jw)(s:Ù)(σ:St)(H:Hp)(E:Value->Ù->Prop),Â X Do σ H s->(∀b∈fp,kF X Do H b)->tn i s.heap->J.go i H->
  È (Î P w) X.A (š<|.ref it) (λr s1=>∃u,r=b3 u /\
   È (Î P w) X.A (N8 tg (.ref it) u) (λ_ s2=>Sn X Do σ J fp tn i H u s2) E s1) E s
 done:∀(X:Cx),X.prog=P->X.w=w->X.K=K->q X->∀(i:Nat)(Do:jw)(s:Ù)(σ:St)(H:Hp)(E:Value->Ù->Prop),Â X Do σ H s->(∀b∈fp,kF X Do H b)->tn i s.heap->J.stop i H->
  È (Î P w) X.A (š<|.ref it) (λr s1=>r=b4/\Â X Do σ H s1) E s
 self:∀(A:Ŧ)(i:Nat)(s:Ù)(Q:Value->Ù->Prop)(E:Value->Ù->Prop),tn i s.heap->Q (.ref it) s->È (Î P w) A (J4<|.ref it) Q E s
noncomputable abbrev TI:=St->Hp->(It->Hp->Prop)->Prop
inductive J0 (q:Cx->Prop)(X:Cx)(Do:jw)(σ:St)(tg:Expr)(R:It->Hp->Prop)(itv:Value)(s2:Ù):Prop
 |mk (it:Addr)(fp:List Addr)(tn:Nat->ñ->Prop)(J:It)(H':Hp)(e:itv=.ref it)(I:Â X Do σ H' s2)(T:Ń q X.prog X.w X.K tg J fp it tn)(t0:tn 0 s2.heap)(f:∀b∈fp,kF X Do H' b)(r:R J H'):J0 q X Do σ tg R itv s2
noncomputable abbrev A9:=J0 Qc
abbrev uY(q:Cx->Prop)(X:Cx)(tg iter:Expr)(b:TI):Prop:=
 ∀(Do:jw)(s:Ù)(σ:St)(H:Hp)(R:It->Hp->Prop),Â X Do σ H s->b σ H R->
  È (Î X.prog X.w) X.A (eval iter X.env) (λv a=>È (Î X.prog X.w) X.A (J4 v) (J0 q X Do σ tg R) X.xe a) X.xe s
noncomputable abbrev PI:=uY Qc
def sW(d:s.heap.get? b=b3 o)(hc:o.cls=.type n)(hd:o.data=.fields vs)(c:["enumerate","zip","dict_itemiterator","dict_reverseitemiterator","odict_iterator","itertools.zip_longest","itertools.pairwise"].contains n=b5)(a:Q Unit.unit s):È M A (N8 tg (.ref b) u) Q E s:=by
 ext N8
 ext tg<;>first
  | show Ê a
  | (ext u<;>first
    | show Ê a
    | (show Á<|MH d ?_
       rw [hc,hd]
       change È M A (if (["enumerate","zip","dict_itemiterator","dict_reverseitemiterator","odict_iterator","itertools.zip_longest","itertools.pairwise"].contains n&&vs[0]? == b3 (Ŝ _))=dI then _ else _) Q E s
       rw [if_neg<|by intro h;rw [c,Q2] at h;ext h]
       show Ê a))
abbrev Ba (K:Ô)(a:Addr):It:=
 ⟨fun i H=>∃ b x,Ĉ K H a b/\b[i]? = b3 x,fun i H x c=>c=H/\∀ b,Ĉ K H a b->b[i]? = b3 x,fun i H=>∃ b,Ĉ K H a b/\b.length<=i⟩
abbrev Bb(K:Ô)(a:Addr):It:=
 ⟨λi H=>∃b x,ç K H a b/\b[i]?=b3 x,λi H x c=>c=H/\∀b,ç K H a b->b[i]?=b3 x,λi H=>∃b,ç K H a b/\b.length<=i⟩
abbrev pP(lo:Int)(n:Nat):It:=⟨λi _=>i<n,λi H x a=>a=H/\x=.int (lo+i),λi _=>n<=i⟩
def a7y{K:Ô}a j:Ń Qc P w K tg (Ba K a) [j] j (λi h=>h.IsListIter j a i) where
 mem:=∅
 obj:=λi h st b g=>by
  let e:b=j:=by apply g
  subst e;let⟨o,e,c,d⟩:=st;show⟨o,e,λv z=>by rw[d]at z;ext z⟩
 keep:=λi h y st k=>st.at λo e=>k j ∅ o e;item:=by intro X Q hw O hc i n s Y H E I A st R;subst Q hw O;let⟨xs,x,B,T⟩:=R;let⟨its,U,p,hz⟩:=I.list B;let⟨u,hu,ru⟩:=U.get T;let⟨G,J,f2,L,M,N⟩:=A j ∅;show Ql st p.isList (x:=u) (by apply hu) λy q sb=>?_;let Z:Â X n Y H {s with heap:=y}:=I.turned (t':=s.toks) (λb o g e=>(sb.2 b g).trans e) G J L M N;let⟨o,e,c,d⟩:=id q;show⟨u,rfl,sW (s:={s with heap:=y}) e c d ⋯ ⟨x,H,Z,ru,⟨rfl,λys hy=>by rw[I.list_inj hy B];show T⟩,q,λb g=>(A b g).1⟩⟩
 done:=by intro X Q hw O hc i n s Y H E I A st R;subst Q hw O;let⟨xs,B,T⟩:=R;let⟨its,U,p,hz⟩:=I.list B;let⟨G,J,f2,L,M,N⟩:=A j ∅;let hl:=U.length;show RA (I.ok.hd hc) st p.isList (by simp;lia) λy eb=>⟨rfl,I.turned (t':=s.toks) (λb o g e=>eb b o g e) G J L M N⟩
 self:=λ_ _ _ _ _ st h=>wpAny_pyIter_listiter st h
def a7v{K:Ô}a j:Ń Qc P w K tg (Bb K a) [j] j (λi h=>h.IsTupleIter j a i) where
 mem:=∅
 obj:=λi h st b g=>by
  let e:b=j:=by apply g
  subst e;let⟨o,e,c,d⟩:=st;show⟨o,e,λv z=>by rw[d]at z;ext z⟩
 keep:=λi h y st k=>st.at λo e=>k j ∅ o e;item:=by intro X Q hw O hc i n s Y H E I A st R;subst Q hw O;let⟨xs,x,B,T⟩:=R;let⟨its,U,p,hz⟩:=I.tuple B;let⟨u,hu,ru⟩:=U.get T;let⟨G,J,f2,L,M,N⟩:=A j ∅;show Qs st (show s.heap.IsTuple a its.toArray from p) (x:=u) (by apply hu) λy q sb=>?_;let Z:Â X n Y H {s with heap:=y}:=I.turned (t':=s.toks) (λb o g e=>(sb.2 b g).trans e) G J L M N;let⟨o,e,c,d⟩:=id q;show⟨u,rfl,sW (s:={s with heap:=y}) e c d ⋯ ⟨x,H,Z,ru,⟨rfl,λys hy=>by rw[I.tuple_inj hy B];show T⟩,q,λb g=>(A b g).1⟩⟩
 done:=by intro X Q hw O hc i n s Y H E I A st R;subst Q hw O;let⟨xs,B,T⟩:=R;let⟨its,U,p,hz⟩:=I.tuple B;let⟨G,J,f2,L,M,N⟩:=A j ∅;let hl:=U.length;show Qm (I.ok.hd hc) st (show s.heap.IsTuple a its.toArray from p) (by simp;lia) λy eb=>⟨rfl,I.turned (t':=s.toks) (λb o g e=>eb b o g e) G J L M N⟩
 self:=λ_ _ _ _ _ st h=>wpAny_pyIter_tupleiter st h
def EI{K:Ô}a lo n:Ń Qc P w K tg (pP lo n) [a] a (λi h=>yo h a (lo+(i:Nat)*1) ((n:Int)-(i:Nat)) 1) where
 mem:=∅
 obj:=λi h st b c=>by
  let e:b=a:=by apply c
  subst e;show⟨_,st,λv z=>by
   let U:ŋ _=rm v:=z;ext U⟩
 keep:=λi h j st k=>k a ∅ _ st;item:=by intro X G hw B hc i d s M H E I p st J;subst G hw B;let⟨q,u,Q,x,y,A⟩:=p a ∅;let W:=Walks.range (prog:=X.prog) (w:=X.w) (I.ok.hd hc) a lo 1 n;show W.item i s _ _ J st λv j L R g T=>?_;let⟨t,rfl⟩:=R;let N:Â X d M H {s with heap:=j,toks:=L}:=I.turned (λb o c e=>T b o (by apply c) e) q u x y A;show⟨_,rfl,sW (s:={s with heap:=j,toks:=L}) (n:="range_iterator") g rfl rfl ⋯ ⟨.int<|lo+i,H,N,⟨t,?_⟩,⟨rfl,rfl⟩,g,λb c=>(p b c).1⟩⟩;rw[Int.mul_one]
 done:=by intro X G hw B hc i d s M H E I p st J;subst G hw B;let⟨q,u,Q,x,y,A⟩:=p a ∅;show wpAny_pyNext_range_end (I.ok.hd hc) st (by have:n<=i:=J;lia) λj O=>⟨rfl,I.turned (t':=s.toks) (λb o c e=>O b o c e) q u x y A⟩
 self:=λ_ _ _ _ _ st h=>wpAny_pyIter_rangeiter st h
section
variable{X:Cx}{tg:Expr}
def EJ(tr:∀c lo n,Ń q X.prog X.w X.K tg (pP lo n) [c] c λi h=>yo h c (lo+(i:Nat)*1) ((n:Int)-(i:Nat)) 1){σ:St}{lo:Int}(I:Â X Do σ H s)(h1:-(2^62)<=lo)(j:lo<2^62)(k:-(2^62)<=hi)(p:hi<2^62)(w:R (pP lo (hi-lo).toNat) H):È (Î X.prog X.w) X.A (J4<|.ref s.heap.objs.size) (J0 q X Do σ tg R) E {s with heap:=s.heap.push {cls:=.type "range",data:=.fields #[.int lo t,.int hi u,.int 1 v]},toks:=tk}:=by
 show wpAny_pyIter_range (IsRange.new ..) (small_one h1 j k p) ?_;let a:Â X Do σ H {s with heap:=s.heap.push {cls:=.type "range",data:=.fields #[.int lo t,.int hi u,.int 1 v]},toks:=tk}:=I.kept λb o e=>á _ e;show⟨(s.heap.push {cls:=.type "range",data:=.fields #[.int lo t,.int hi u,.int 1 v]}).objs.size,[(s.heap.push {cls:=.type "range",data:=.fields #[.int lo t,.int hi u,.int 1 v]}).objs.size],_,_,H,rfl,
  a.kept (t':=tk) λb o e=>á _ e,tr _ lo (hi-lo).toNat,?_,λb x=>?_,w⟩
 .let d:lo+((0:Nat):Int)*1=lo:=∅
  let g:(((hi-lo).toNat:Nat):Int)-((0:Nat):Int)=b4r lo hi 1:=by rw[rangeSize_one];split<;>lia
  change yo _ _ (lo+((0:Nat):Int)*1) ((((hi-lo).toNat:Nat):Int)-((0:Nat):Int)) 1;rw[d,g];show Ċ _ rfl
 .let e:b=(s.heap.push {cls:=.type "range",data:=.fields #[.int lo t,.int hi u,.int 1 v]}).objs.size:=by apply x
  subst e;show a.fpOk (Ø _)<|a.hok.fresh<|Ø _
abbrev a7h(b:TA):TI:=λσ H R=>b σ H λvs a=>∃j:Int,vs=[.int j]/\-(2^62)<=j/\j<2^62/\R (pP 0 j.toNat) a
abbrev a7a(b:TA):TI:=λσ H R=>b σ H λvs a=>∃i j:Int,vs=[.int i,.int j]/\(-(2^62)<=i/\i<2^62/\-(2^62)<=j/\j<2^62)/\R (pP i (j-i).toNat) a
def a7Y(tr:∀c lo n,Ń q X.prog X.w X.K tg (pP lo n) [c] c λi h=>yo h c (lo+(i:Nat)*1) ((n:Int)-(i:Nat)) 1)(u:Gl X "range")(v:X.mg "range"=b4)(o:PA X [a] g)(w:Ă [a] X.env=[(b5,eval a X.env)]:=by rfl):uY q X tg (.Call (.Name "range" p) [a] [] pos) (a7h g):=by
 intro b s B H R I h;show xx<|kE I u v boot_range<|qe (aW (o pos b s B H _ I h) λJ G ⟨K,E,k,z,d⟩=>?_) w rfl;let⟨j,e,d,x,y⟩:=d;subst e;cases z with
 |cons r A=>ext A;let⟨t,rfl⟩:=r;show call_range_1<|EJ tr k () () d x<|by apply y
def a7S(v:Gl X "range")(w:X.mg "range"=b4)(u:PA X [a,b] n)(x:Ă [a,b] X.env=[(b5,eval a X.env),(b5,eval b X.env)]:=by rfl)(c:Ă [b] X.env=[(b5,eval b X.env)]:=by rfl):
  PI X tg (.Call (.Name "range" p) [a,b] [] pos) (a7a n):=by
 intro d s G H R I h;show xx (kE I v w boot_range<|qe (aW (u pos d s G H _ I h) λM K ⟨N,J,o,E,g⟩=>?_) (by rw[x,c])<|by rw[c];rfl);obtain⟨i,j,e,⟨g,y,z,A⟩,q⟩:=g;subst e;cases E with
 |cons r k=>
  cases k with
  |cons B k=>ext k;let⟨t,rfl⟩:=r;let⟨L,rfl⟩:=B;show call_range_2<|EJ EI o g y z A q
abbrev a7Q(k:TI)(g:TG)(j:TS):TS:=λD σ H=>k σ H λJ e=>∃W:Nat->Nat->St->Hp->Prop,(∃m,W 0 m σ e)/\∀i m σ H,W i m σ H->
 (J.stop i H/\D.nx σ H)\/(J.go i H/\∃N:St->Hp->Prop,(∀b a,N b a->∃d,d<m/\W (i+1) d b a)/\∀x a,J.yld i H x a->g x σ a λc h=>j {D with nx:=N,ct:=N,bk:=D.nx} c h)
abbrev uZ(a:List Addr)(h:ñ):jw:=a.filterMap λb=>(h.get? b).map λo=>(b,o)
def xG(c:b∈a)(e:h.get? b=b3 o):(b,o)∈uZ a h:=Of.mpr ⟨b,c,by rw[e];rfl⟩
def a7P(g:p∈uZ a h):p.1∈a/\h.get? p.1=b3 p.2:=by
 let⟨b,d,e⟩:=Of.mp g;cases q:h.get? b with
 |none=>rw[q]at e;ext e|some o=>rw[q]at e;let c:(b,o)=p:=Ė e;subst c;show⟨d,q⟩
def Â.pinned{σ:St}(I:Â X Do σ H s)(k:∀b∈a,kF X Do H b)(n:∀b∈a,∃o,s.heap.get? b=b3 o/\∀v,o.data≠.cell v):Â X (Do++uZ a s.heap) σ H s:=
 I.pins_of λp q=>(ĩ.mp q).elim (λz=>I.pin p<|UV _ z) λz=>by let⟨g,e⟩:=a7P z;let⟨h,i,j,_⟩:=k p.1 g;let⟨o,c,d⟩:=n p.1 g;rw[e]at c;ext c;show⟨e,h,i,j,d⟩
def Â.unpinned{σ:St}(I:Â X (Do++pl) σ H s):Â X Do σ H s:=I.pins_of λp a=>I.pin p<|UV _<|RW _ a
inductive PX (X:Cx)(Do:jw)(tn:Nat->ñ->Prop)(fp:List Addr)(W:Nat->Nat->St->Hp->Prop)(n:Nat)(s':Ù):Prop
 |mk (i:Nat)(σ':St)(H':Hp)(I:Â X Do σ' H' s')(t:tn i s'.heap)(f:∀b∈fp,H' b=b4)(w:W i n σ' H'):PX X Do tn fp W n s'
def a7N(G:yj (Î X.prog X.w) X.A X.env X.xe)(hc:X.calm=dI)(hi:PI X tg iter wi)(hg:PG X tg g)(q:Ş X body tb)(hs:∀x,ux iter X.env x=pure x:=by intro _;rfl):PS X (.For tg iter body [] pos) (a7Q wi g tb):=by
 intro c s σ H D I h;show wpAny_For (aW (hi c s σ H _ I h) λv s1 h1=>aW h1 λitv s2 h2=>?_) hs;obtain⟨it,B,tn,J,H2,e,I2,T,Y,f2,W,⟨m0,w0⟩,turn⟩:=h2;subst e
  -- what stays dI of the iterator's objects through the loop
 let w:∀{H':Hp},(∀b∈B,H' b=b4)->∀b∈B,kF X c H' b:=λhn b q=>⟨hn b q,(f2 b q).2⟩;show codeAny_forLoop_any (PX X c tn B W) ?_ m0 ⟨0,σ,H2,I2,Y,λb q=>(f2 b q).1,w0⟩;rintro n s3 ⟨i,y,O,I3,L,E,w3⟩;rcases turn i n y O w3 with⟨M,qn⟩|⟨go,N,hN,step⟩
 .show mU G<|aW (T.done X rfl rfl rfl hc i c s3 y O X.xe I3 (w E) L M) λr s4 ⟨U,I4⟩=>?_;subst U;show NA ⟨y,O,I4,qn⟩
 .show mU G<|aW (T.item X rfl rfl rfl hc i c s3 y O X.xe I3 (w E) L go) λr s4 ⟨u,U,h4⟩=>?_;subst U;show mU G<|aW h4 λ_ s5 ⟨x,H5,I5,r5,y5,A,R⟩=>?_;let Q:=I5.pinned (w R)<|T.obj _ _ A;show mU G<|aW (hg _ s5 y H5 x u _ Q r5<|step x H5 y5) λ_ s6 ⟨Z,H6,I6,q6⟩=>?_;show mU G<|aW (q _ s6 Z H6 _ I6 q6) λf s7 z=>?_;let p:∀{a:St}{j:Hp},Â X (c++uZ B s5.heap) a j s7->N a j->∃m,m<n/\PX X c tn B W m s7:=λ{a j} k K=>by let⟨m',hm,w7⟩:=hN a j K;show⟨m',hm,i+1,a,j,k.unpinned,T.keep _ _ _ A λb q o e=>(k.pin (b,o)<|UV _<|UV _<|xG q e).1,λb q=>?_,w7⟩;let⟨o,e,d⟩:=T.obj _ _ A b q;show(k.pin (b,o)<|UV _<|UV _<|xG q e).2.1
  cases f with
  |next=>let⟨a,j,k,K⟩:=z;show p k K|cont=>let⟨a,j,k,K⟩:=z;show p k K|brk=>let⟨a,j,k,z⟩:=z;show⟨a,j,k.unpinned,z⟩|ret v=>let⟨x7,a,j,k,r7,z⟩:=z;show⟨x7,a,j,k.unpinned,r7,z⟩
end
noncomputable abbrev R2:=V->V->Hp->VK->Prop
abbrev đ(X:Cx)(f:Value->Value->J1 Value)(r:R2):Prop:=
 ∀(Do:jw)(s:Ù)(σ:St)(H:Hp)(x y:V)(v u:Value)(Q:VK),Â X Do σ H s->Í x v->Í y u->r x y H Q->
  È (Î X.prog X.w) X.A (f v u) (EP X Do σ Q) X.xe s
abbrev Bc(X:Cx)(f:Value->J1 Value)(r:V->Hp->VK->Prop):Prop:=
 ∀(Do:jw)(s:Ù)(σ:St)(H:Hp)(x:V)(v:Value)(Q:VK),Â X Do σ H s->Í x v->r x H Q->
  È (Î X.prog X.w) X.A (f v) (EP X Do σ Q) X.xe s
abbrev Ü(X:Cx)(f:Value)(r:gz->Hp->VK->Prop):Prop:=
 ∀(Do:jw)(s:Ù)(σ:St)(H:Hp)(xs:gz)(us:gw)(Q:VK),Â X Do σ H s->Å xs us->r xs H Q->
  È (Î X.prog X.w) X.A (call f us) (EP X Do σ Q) X.xe s
abbrev a7I(X:Cx)(r:V->Hp->(Bool->Hp->Prop)->Prop):Prop:=
 ∀(Do:jw)(s:Ù)(σ:St)(H:Hp)(x:V)(v:Value)(Q:Bool->Hp->Prop),Â X Do σ H s->Í x v->r x H Q->
  È (Î X.prog X.w) X.A (truthy v) (TP X Do σ Q) X.xe s
abbrev u5(r:R2)(c d:TE):TE:=λσ H Q=>c σ H λx a=>d σ a λy b=>r x y b Q
abbrev a6u(r:V->Hp->VK->Prop)(b:TE):TE:=λσ H Q=>b σ H λx a=>r x a Q
abbrev rI(C:Int->Int->Prop)(g:Int->Int->V):R2:=λx y H Q=>∃i j,x=.int i/\y=.int j/\C i j/\Q (g i j) H
abbrev kG(g:Int->Int->V):R2:=λx y H Q=>∃i j,x=.int i/\y=.int j/\Q (g i j) H
abbrev rU(g:Int->V):V->Hp->VK->Prop:=λx H Q=>∃i,x=.int i/\Q (g i) H
def Bd(o:PE X a ta)(p:PE X b tb){σ:St}{R:V->V->Hp->Prop}(I:Â X Do σ H s)(h:ta σ H λx j=>tb σ j λy d=>R x y d){f:Value->Value->J1 Value}(q:∀v u i x y d,Â X Do σ d i->Í x v->Í y u->R x y d->È (Î X.prog X.w) X.A (f v u) Q X.xe i):
  È (Î X.prog X.w) X.A (eval a X.env) (λv e=>È (Î X.prog X.w) X.A (eval b X.env) (λu g=>È (Î X.prog X.w) X.A (f v u) Q X.xe g) X.xe e) X.xe s:=by
 show aW (o Do s σ H _ I h) λv E ⟨x,j,k,A,w⟩=>?_;show aW (p Do E σ j _ k w) λu i ⟨y,d,n,B,z⟩=>?_;show q v u i x y d n A B z
def a6Y(k:đ X (Τ op) r)(i:PE X a ta)(j:PE X b tb):PE X (.BinOp a op b pos) (u5 r ta tb):=by intro d s w H Q I h;show wpAny_BinOp<|Bd i j I h λv u p x y e g n o q=>k d p w e x y v u Q g n o q
def a6V(k:Bc X (unaryOp op) r)(j:PE X a ta):PE X (.UnaryOp op a pos) (a6u r ta):=by intro d s e H Q I h;show UnaryOp_<|aW (j d s e H _ I h) λv p ⟨x,g,i,o,n⟩=>k d p e g x v Q i o n
def xH{g:Int->Int->Int}(d:∀i j t u s Q E,C i j->Q (.int (g i j) s.toks) {s with toks:=s.toks+1}->È (Î X.prog X.w) X.A (f (.int i t)<|.int j u) Q E s):
  đ X f (rI C λi j=>.int<|g i j):=by
 intro e s p H x y v u Q I k n h;let⟨i,j,rfl,rfl,hc,q⟩:=h;let⟨t,rfl⟩:=k;let⟨o,rfl⟩:=n;show d i j t o s _ _ hc ⟨.int<|g i j,H,I.tok _,⟨_,rfl⟩,q⟩
def EK{g:Int->Int->Int}(d:∀i j t u s Q E,Q (.int (g i j) s.toks) {s with toks:=s.toks+1}->È (Î X.prog X.w) X.A (f (.int i t)<|.int j u) Q E s):
  đ X f (kG λi j=>.int<|g i j):=by
 intro e s p H x y v u Q I k n h;let⟨i,j,rfl,rfl,q⟩:=h;let⟨t,rfl⟩:=k;let⟨o,rfl⟩:=n;show d i j t o s _ _ ⟨.int<|g i j,H,I.tok _,⟨_,rfl⟩,q⟩
def xI{g:Int->Int->Bool}(d:∀i j t u s Q E,Q (.bool<|g i j) s->È (Î X.prog X.w) X.A (f (.int i t)<|.int j u) Q E s):
  đ X f (kG λi j=>.bl<|g i j):=by
 intro e s p H x y v u Q I k n h;let⟨i,j,rfl,rfl,q⟩:=h;let⟨t,rfl⟩:=k;let⟨o,rfl⟩:=n;show d i j t o s _ _ ⟨.bl<|g i j,H,I,rfl,q⟩
abbrev a6R(i j:Int):Prop:=0<=j/\j<=1000000/\i.natAbs<2^64
abbrev qj(i j:Int):Prop:=(-(2^64)<i/\i<2^64)\/(-(2^64)<j/\j<2^64)
def qj.ok(h:qj i j):M4 i j:=by
 rcases h with⟨h1,d⟩|⟨h1,d⟩
 .show .of_left<|intBits_le_64 h1 d
 .show .of_right<|intBits_le_64 h1 d
def jl:đ X (Τ .Add) (kG λi j=>.int<|i+j):=EK λ_ _ _ _ _ _ _ q=>add_int q
def a6Q:đ X (Τ .Sub) (kG λi j=>.int<|i-j):=EK λ_ _ _ _ _ _ _ q=>sub_int q
def a6K:đ X (Τ .Mod) (rI (λ_ j=>0<j) λi j=>.int<|i%j):=xH λi j _ _ _ _ _ hc q=>by let h1:(0:Int)<j:=hc;show mod_int' ()<|by rw[Int.fmod_eq_emod_of_nonneg i ()];show q
def sX{g:Int->Int}(d:∀i t s Q E,Q (.int (g i) s.toks) {s with toks:=s.toks+1}->È (Î X.prog X.w) X.A (f<|.int i t) Q E s):
  Bc X f (rU λi=>.int<|g i):=by
 intro e s k H x v Q I j h;let⟨i,rfl,q⟩:=h;let⟨t,rfl⟩:=j;show d i t s _ _ ⟨.int<|g i,H,I.tok _,⟨_,rfl⟩,q⟩
def a6D:Bc X (unaryOp .USub) (rU λi=>.int<|-i):=sX λ_ _ _ _ _ q=>neg_int q
def qZ{σ:St}(I:Â X Do σ H s)(q:Q (.bl k) H)(e:k=k'):EP X Do σ Q (.bool k') s:=by subst e;show⟨.bl k,H,I,rfl,q⟩
def Be:đ X (Ķ .Lt) (kG λi j=>.bl<|decide<|i<j):=xI λ_ _ _ _ _ _ _ q=>lt_int q
def Bf:đ X (Ķ .LtE) (kG λi j=>.bl<|decide<|i<=j):=xI λ_ _ _ _ _ _ _ q=>le_int q
def Bg:đ X (Ķ .Gt) (kG λi j=>.bl<|decide<|j<i):=xI λ_ _ _ _ _ _ _ q=>gt_int q
def Bh:đ X (Ķ .GtE) (kG λi j=>.bl<|decide<|j<=i):=xI λ_ _ _ _ _ _ _ q=>ge_int q
def EL:đ X (Ķ .In) (λx y H Q=>∃i j,x=.str i/\y=.str j/\Q (.bl<|!(je j i 0 j.length 1).isEmpty) H):=by intro d s n H x y v u Q I e g h;let⟨i,j,rfl,rfl,q⟩:=h;let⟨t,rfl⟩:=e;let⟨k,rfl⟩:=g;show in_str<|qZ I q rfl
def EM:đ X (Ķ .Is) (λx y H Q=>y=.non/\Q (.bl<|decide<|x=.non) H):=by
 intro e s i H x y v u Q I d g h;let⟨rfl,q⟩:=h;ext g;show is_none_gen<|qZ I q ?_;ext x<;>first
  |(ext d;rfl)|(let⟨t,rfl⟩:=d;rfl)
def EO:đ X (Ķ .IsNot) (λx y H Q=>y=.non/\Q (.bl<|!decide (x=.non)) H):=by
 intro e s i H x y v u Q I d g h;let⟨rfl,q⟩:=h;ext g;show isnot_none_gen<|qZ I q ?_;ext x<;>first
  |(ext d;rfl)|(let⟨t,rfl⟩:=d;rfl)
def đ.or(h:đ X f r)(h':đ X f e):đ X f (λx y H Q=>r x y H Q\/e x y H Q):=by
 intro d s j H x y v u Q I g i q;rcases q with q|q
 .show h d s j H x y v u Q I g i q
 .show h' d s j H x y v u Q I g i q
def fJ b(h:op≠.In:=by decide)(g:op≠.NotIn:=by decide):gY op b=false:=by
 let d:(op==CmpOp.In)=false:=by ext op<;>first|rfl|show absurd rfl h
 let e:(op==CmpOp.NotIn)=false:=by ext op<;>first|rfl|show absurd rfl g
 ext b<;>simp[gY,d,e]
def a5T(n:đ X (Ķ op) r)(i:PE X a ta)(j:PE X b tb)(k:gY op b=b5):PE X (.Compare a [op] [b] pos) (u5 r ta tb):=by intro d s z H Q I h;show Px (Bd i j I h λv u w x y e g o p q=>n d w z e x y v u Q g o p q) k
abbrev ER(t:TE):TT:=λσ H Q=>t σ H λx d=>∃k,x=.bl k/\Q k d
def LwI(E:đ X (Ķ op) r)(w:PE X a ta)(A:PE X b tb)(B:gY op b=b5):PT X (.Compare a [op] [b] pos) (ER<|u5 r ta tb):=by
 intro d s g H Q I h;show wpAny_isTrue_Compare1 (aW (w d s g H _ I h) λv O ⟨x,i,o,L,G⟩=>aW (A d O g i _ o G) λu R ⟨y,j,p,M,J⟩=>
  aW (E d R g j x y v u _ p L M J) λc T ⟨z,n,q,N,k,e,K⟩=>?_) B
 subst e;ext N;show Ϲ ⟨n,q,K⟩
abbrev Bi(r i:R2)(ta tb tc:TE):TE:=λσ H Q=>ta σ H λx e=>tb σ e λy g=>r x y g λz d=>∃k,z=.bl k /\
 (if k=dI then tc σ d λj h=>i y j h Q else Q (.bl b5) d)
def z16(R:đ X (Ķ op) r)(n:đ X (Ķ i) w)(M:PE X a ta)(N:PE X b tb)(hc:PE X c tc)(O:Nm [op,i] [b,c]=false:=by with_unfolding_all rfl):PE X (.Compare a [op,i] [b,c] pos) (Bi r w ta tb tc):=by
 intro g s j H Q I h;show Compare_chain (aW (M g s j H _ I h) λv s1 ⟨x,B,J,Z,T⟩=>chain_link<|aW (N g s1 j B _ J T) λu s2 ⟨y,E,K,A,U⟩=>
  aW (R g s2 j E x y v u _ K Z A U) λd s3 ⟨z,o,p,r3,k,e,q⟩=>?_) O
 subst e;ext r3;show Ϲ ?_;cases k with
 |false=>show ite_ff ⟨.bl b5,o,p,rfl,q⟩|true=>show ite_tt<|chain_last<|aW (hc g s3 j o _ p q) λw' s4 ⟨z',G,L,r4,Y⟩=>n g s4 j G y z' u w' Q L A r4 Y
def z10(Z:đ X (Ķ op) r)(n:đ X (Ķ i) w)(T:PE X a ta)(U:PE X b tb)(hc:PE X c tc)(Y:Nm [op,i] [b,c]=false:=by with_unfolding_all rfl):PT X (.Compare a [op,i] [b,c] pos) (ER<|Bi r w ta tb tc):=by
 intro g s j H Q I h;show isTrue_chain (aW (T g s j H _ I h) λv s1 ⟨x,B,K,r1,q1⟩=>test_link<|aW (U g s1 j B _ K q1) λu s2 ⟨y,E,L,A,q2⟩=>
  aW (Z g s2 j E x y v u _ L r1 A q2) λd s3 ⟨z,o,p,r3,k,e,q⟩=>?_) Y
 subst e;ext r3;show Ϲ ?_;cases k with
 |false=>let⟨k',O,q'⟩:=q;ext O;show ite_ff ⟨o,p,q'⟩|true=>show ite_tt<|test_last<|aW (hc g s3 j o _ p q) λw' s4 ⟨z',G,M,r4,q4⟩=>aW (n g s4 j G y z' u w' _ M A r4 q4) λd' s5 ⟨z2,J,N,r5,k2,R,q5⟩=>?_;subst R;ext r5;show Ϲ ⟨J,N,q5⟩
abbrev Bj(K:Ô)(x:V)(H:Hp)(k:Bool):Prop:=
 match x with
 |.non=>k=b5|.bl b=>k=b|.int i=>k=(i != 0)|.str y=>y.length<=Ò/\k=((y.length:Int) != 0)|.byt y=>y.size<=Ò/\k=((y.size:Int) != 0)|.ref p=>(∃e,Ĉ K H p e/\k=!e.isEmpty)\/(∃e,ç K H p e/\k=!e.isEmpty)\/∃d,H p=b3 (.dK d)/\k=!d.isEmpty|_=>False
def a8z{kvs:List (κ×V)}{vs:List (κ×Value)}(r:KV kvs vs):(!vs.isEmpty)=!kvs.isEmpty:=by ext r<;>rfl
def ES(r:Å xs its):(!its.toArray.isEmpty)=!xs.isEmpty:=by ext r<;>simp
def q8:(Ò:Nat)<2^63:=by rw[ò];decide
def a8v:a7I X (λx H Q=>∃k,Bj X.K x H k/\Q k H):=by
 intro A s K H x v Q I o h;let⟨k,e,q⟩:=h;let G:=q8;let J:Ò=16777216:=ò;cases x with
 |non=>ext o;let d:k=false:=e;subst d;show truthy_none ⟨H,I,q⟩|bl b=>ext o;let d:k=b:=e;subst d;show Ϲ ⟨H,I,q⟩|int i=>let⟨t,rfl⟩:=o;let d:k=(i != 0):=e;subst d;show PySem.P.truthy_int ⟨H,I,q⟩|str y=>let⟨t,rfl⟩:=o;obtain⟨E,d⟩:y.length<=Ò/\k=((y.length:Int) != 0):=e;subst d;show PySem.P.truthy_str () ⟨H,I.tok _,q⟩|byt y=>let⟨t,rfl⟩:=o;obtain⟨E,d⟩:y.size<=Ò/\k=((y.size:Int) != 0):=e;subst d;show PySem.W.truthy_bytes () ⟨H,I.tok _,q⟩|ref p=>
  ext o;let d:(∃n,Ĉ X.K H p n/\k=!n.isEmpty)\/(∃n,ç X.K H p n/\k=!n.isEmpty)\/∃g,H p=b3 (.dK g)/\k=!g.isEmpty:=e;rcases d with⟨n,u,d⟩|⟨n,u,d⟩|⟨g,u,d⟩
  .subst d;let⟨its,r,pl,z⟩:=I.list u;let j:=r.length;show wpAny_truthy_list pl.isList (by dsimp[ģ];lia) ⟨H,I.tok _,by rw[ES r];show q⟩
  .subst d;let⟨its,r,pl,z⟩:=I.tuple u;let j:=r.length;show truthy_tuple pl (by dsimp[ģ];lia) ⟨H,I.tok _,by rw[ES r];show q⟩
  .subst d;obtain⟨z,B,w,r,m⟩:g.length<=Ò/\(p==ľ)=b5/\∃w,KV g w/\s.heap.DictOf (jP X.prog X.w) p w:=I.hok p _ u;let j:g.length=w.length:=OU r;show wpAny_truthy_dict B m () ⟨H,I.tok _,by rw[a8z r];show q⟩
 |_=>show(show False from e).elim
def a8t(o:PE X a ta)(p:∀d,qp a X.env d=(do let v <- d;standAt a.pos;holding [v] (truthy v))):
  PT X a (λg H Q=>ta g H λx i=>∃k,Bj X.K x i k/\Q k i):=by
 intro e s g H Q I h;show isTrue_plain (aW (o e s g H _ I h) λv w ⟨x,j,n,u,q⟩=>a8v e w g j x v Q n u q)<|p _
def Ν:đ X (Τ .Add) (λx y H Q=>∃i j,x=.str i/\y=.str j/\i.length+j.length<=Ò/\Q (.str<|i++j) H):=by intro d s p H x y v u Q I g k h;let⟨i,j,rfl,rfl,e,q⟩:=h;let⟨t,rfl⟩:=g;let⟨n,rfl⟩:=k;show add_str (λn o=>⟨.str<|i++j,H,I.tok _,⟨_,rfl⟩,q⟩) e
def gR(r:Å [x] us):∃u,us=[u]/\Í x u:=by
 cases r with
 |cons d e=>ext e;show⟨_,rfl,d⟩
def u6(r:Å [x,y] us):∃u d,us=[u,d]/\Í x u/\Í y d:=by
 cases r with
 |cons e g=>
  cases g with
  |cons h i=>ext i;show⟨_,_,rfl,e,h⟩
def a8m(hc:X.calm=dI):Ü X (.builtin "max") (λxs H Q=>∃i j,xs=[.int i,.int j]/\Q (.int<|if j>i then j else i) H):=by
 intro e s w H xs p Q I r h;let⟨i,j,rfl,q⟩:=h;obtain⟨u,v,rfl,⟨t,rfl⟩,⟨n,rfl⟩⟩:=u6 r;show max_two_ints (I.ok.hd hc) λg o k=>⟨_,H,I.kept k,?_,q⟩;by_cases d:j>i
 .rw[if_pos d,if_pos d];show⟨_,rfl⟩
 .rw[if_neg d,if_neg d];show⟨_,rfl⟩
def a8k(hc:X.calm=dI):Ü X (.builtin "min") (λxs H Q=>∃i j,xs=[.int i,.int j]/\Q (.int<|if j<i then j else i) H):=by
 intro e s w H xs p Q I r h;let⟨i,j,rfl,q⟩:=h;obtain⟨u,v,rfl,⟨t,rfl⟩,⟨n,rfl⟩⟩:=u6 r;show min_two_ints (I.ok.hd hc) λg o k=>⟨_,H,I.kept k,?_,q⟩;by_cases d:j<i
 .rw[if_pos d,if_pos d];show⟨_,rfl⟩
 .rw[if_neg d,if_neg d];show⟨_,rfl⟩
structure ObjM(h:ñ)(x dx C:Addr)(mA:Str->Option Value):Prop where
 obj:h.get? x=b3 (Qr C dx)
 ns:h.Ns1 dx mA
 ne:dx≠x
def Œ.some_of(r:Œ (b3 v) o):∃u,o=b3 u/\Í v u:=by
 cases o with
 |none=>show(show False from r).elim|some u=>show⟨u,rfl,r⟩
structure Cls(K:Ô)(C:Addr):Prop where
 pg:PySem.W.plainGet K C Str.empty=dI
 hd:PySem.W.hasDictIn K C=dI
 po:PySem.W.plainOver K C=dI
 sa:zf K (.ref C) "__setattr__"=b3 (b3<|.builtin "object.__setattr__")
structure Con(K:Ô)(C:Addr)(f:Str)(v:V)(u:Value):Prop where
 at_:zf K (.ref C) f=b3 (b3 u)
 rel:Í v u
 get:Rb K u "__get__"=b3 b4
 cp:PySem.W.copiedNames.contains f=b5
structure Meth(K:Ô)(C:Addr)(m:Str)(f:Addr):Prop where
 at_:zf K (.ref C) m=b3 (b3<|.ref f)
 fn:QF K (.ref f)=dI
 kp:ϱ K (.ref f)=dI
section
variable{X:Cx}{Do:jw}{σ:St}{H:Hp}{s:Ù}{A:Ŧ}{E:Value->Ù->Prop}{Q:Value->Ù->Prop}{c:Value}{b:Bool}
inductive ŝ (K:Ô)(H:Hp):V->Value->Prop where
 |non:ŝ K H .non<|.type "NoneType"
 |bl (x:Bool):ŝ K H (.bl x)<|.type "bool"
 |int (i:Int):ŝ K H (.int i)<|.type "int"
 |str (x:Str):ŝ K H (.str x)<|.type "str"
 |flt (x:UInt64):ŝ K H (.flt x)<|.type "float"
 |lst {a:Addr}{xs:gz}(e:H a=b3 (.lst xs)):ŝ K H (.ref a)<|.type "list"
 |frz {a:Addr}{o:Obj}{xs:gz}(e:H a=b3 (.frz o<|.lst xs)):ŝ K H (.ref a)<|.type "list"
 |tup {a:Addr}{xs:gz}(e:H a=b3 (.tup xs)):ŝ K H (.ref a)<|.type "tuple"
 |dK {a:Addr}{kvs:List (bM×V)}(e:H a=b3 (.dK kvs)):ŝ K H (.ref a)<|.type "dict"
 |dT {a:Addr}{kvs:List (List bM×V)}(e:H a=b3 (.dT kvs)):ŝ K H (.ref a)<|.type "dict"
 |ins {a C dx:Addr}{fs:List (Str×V)}(e:H a=b3 (.ins C dx fs))(cl:Cls K C)(ha:zf K (.ref C) "__class__"=b3 (b3<|.builtin "object.__class__"))
   (hn:Rb K (.builtin "object.__class__") "__get__"=b3 (b3<|.builtin "getset_descriptor.__get__")) (htk:PySem.W.takesIn K (.builtin "object.__class__")=b3 dI)
   (hm:PySem.W.mroIn K C (.type "object")=b3 dI):ŝ K H (.ref a)<|.ref C
end
structure ê(k:Nat)(A:Ŧ):Prop where
 hd:A.handled=b4
 dp:A.depth+3*k+5<Pg
 un:A.units+16*k+200<Ą
def ê.deeper(r:ê (k+1) A)env:ê k (A.deeper env):=
 ⟨r.hd,by have:=r.dp;change A.depth+1+3*k+5<_;lia,by have:=r.un;change A.units+3+16*k+200<_;lia⟩
def ê.depth(r:ê k A):A.depth<Pg:=by have:=r.dp;lia
def ê.units(r:ê k A):A.units+64<Ą:=by have:=r.un;lia
abbrev Bk:TA:=λ_ H Q=>Q [] H
abbrev ET(c:TE)(tr:TA):TA:=λσ H Q=>c σ H λx a=>tr σ a λxs b=>Q (x::xs) b
def EU:PA X [] Bk:=λ_ _ _ _ H Q I h=>NJ ⟨[],H,I,.nil,h⟩
def EV(j:PE X e te)(k:PA X es t)(n:Ă (e::es) X.env=(b5,eval e X.env)::Ă es X.env:=by rfl):PA X (e::es) (ET te t):=by intro pos a s b H Q I h;rw[n];change È _ _ (spliced<|(b5,eval e X.env)::Ř pos (Ă es X.env)) _ _ s;show NN<|aW (j a s b H _ I h) λu w ⟨x,c,g,q,o⟩=>?_;show aW (k pos a w b c _ g o) λA z ⟨y,d,i,v,p⟩=>⟨x::y,d,i,.cons q v,p⟩
abbrev a8e(t:TA):TE:=λσ H Q=>t σ H λxs a=>xs.length<=Ò/\∀p,a p=b4->Q (.ref p) (upd a p<|.tup xs)
abbrev a8b(t:TA):TE:=λσ H Q=>t σ H λxs a=>xs.length<=Ò/\∀p,a p=b4->Q (.ref p) (upd a p<|.lst xs)
def a8a{x1}(h:PA X es t):PE X (.Tuple es x1 pos) (a8e t):=by intro c s o H Q I j;show wpAny_Tuple_spliced (aW (h pos c s o H _ I j) λk a ⟨n,d,g,r,z,q⟩=>⟨by rw[<- r.length];show z,?_⟩);let i:d a.heap.objs.size=none:=g.hok.fresh<|Ø _;show⟨.ref a.heap.objs.size,upd d a.heap.objs.size<|.tup n,g.laid (t':=a.toks) (λb u e=>á _ e) (Ø _) ?_,rfl,q _ i⟩;show⟨z,k,r,⟨_,Ċ _ rfl,rfl,_,rfl,rfl⟩⟩
def a8U(h:PA X es t):PE X (.List es pos) (a8b t):=by intro c s o H Q I j;show wpAny_List_spliced (aW (h pos c s o H _ I j) λk a ⟨n,d,g,r,z,q⟩=>⟨by rw[<- r.length];show z,?_⟩);let i:d a.heap.objs.size=none:=g.hok.fresh<|Ø _;show⟨.ref a.heap.objs.size,upd d a.heap.objs.size<|.lst n,g.laid (t':=a.toks) (λb u e=>á _ e) (Ø _) ?_,rfl,q _ i⟩;show⟨z,k,0,r,Ċ _ rfl⟩
noncomputable abbrev Sp:=List V->Hp->VK->XK->Prop
noncomputable abbrev nF:=List ı->Hp->Ù->XK->Value->Ù->Prop
structure dj(P:ť)(w:ĳ)(K:Ô)(mg:Str->Option Value)(base:ñ)(A:Ŧ)(outer:List ı)(s:Ù)(H:Hp):Prop where
 frames:A.frames=b3 outer
 mod:Mod K mg base
 bs:∀b o,base.get? b=b3 o->s.heap.get? b=b3 o/\H b=b4
 bsz:base.objs.size<=s.heap.objs.size
 funs:s.heap.FunFrames base outer
 frf:∀b∈k5 outer,H b=b4
 hok:Š P w H s.heap
 bare:fB s.gens
inductive CE (outer:List ı)(P:ť)(w:ĳ)(H:Hp)(s:Ù)(Q:VK)(u:Value)(s':Ù):Prop
 |mk (v:V)(H':Hp)(o:s'.os=s.os)(b:fB s'.gens)(n:Un (k5 outer) [] H H' s.heap s'.heap)(k:Š P w H' s'.heap)(r:Í v u)(q:Q v H'):CE outer P w H s Q u s'
abbrev e10(CX:nF)(outer:List ı)(P:ť)(w:ĳ)(H:Hp)(s:Ù)(Q:VK)(E:XK)(r:Rw)(a:Ù):Prop:=
 match r with
 |.ok (.ret u)=>CE outer P w H s Q u a|.ok _=>False|.error e=>CX outer H s E e a
structure ĺ(P:ť)(w:ĳ)(K:Ô)(mg:Str->Option Value)(base:ñ)(CX:nF)(k:Nat)(f:Addr)(fd:ph)(ps:List Str)(sp:Sp):Prop where
 len:∀vs H Q E,sp vs H Q E->vs.length=ps.length
 run:∀(A:Ŧ)(outer:List ı)(s:Ù)(H:Hp)(args:Args)(us:gw)(vs:gz)(Q:VK)(E:XK),ê k A->dj P w K mg base A outer s H->jy s fd args (ps.zip us)->Å vs us->sp vs H Q E->
  ι (Î P w) A (.call (.ref f) args) (e10 CX outer P w H s Q E) s
def Â.env0{σ:St}(I:Â X Do σ H s):dj X.prog X.w X.K X.mg X.base X.A X.stack s H:=
 ⟨I.ok.frames,I.ok.mod,I.bs,Ģ I.ok.bsz I.sz,I.stack,I.stkFree,I.hok,I.bare⟩
def Â.after{σ:St}(I:Â X Do σ H s)(h:CE X.stack X.prog X.w H s Q u s'):EP X Do σ Q u s':=by let⟨v,i,k,a,un,c,r,q⟩:=h;let⟨j,g,d,t,e⟩:=s';obtain rfl:e=s.os:=k;show⟨v,i,I.call (h':=j) (g':=g) (d':=d) (t':=t) (ch:=[]) un c a λb z=>absurd z ∅,r,q⟩
abbrev Bl(sp:Sp)(a:gz)(E:XK)(t:TA):TE:=λσ H Q=>t σ H λvs b=>sp (vs++a) b Q E
abbrev Ĩ(K:Ô)(a:ph)(ps:List Str)(ds:gw):Prop:=
 ∀(s:Ù)(us:gw),K.In s.heap->(us++ds).length=ps.length->jy s a ⟨us,[]⟩ (ps.zip<|us++ds)
def Ĩ.all{K:Ô}(h:∀us:gw,us.length=ps.length->M5 a ⟨us,[]⟩=pure (ps.zip us)):Ĩ K a ps []:=λs us _ b=>by rw[ŉ]at b ⊢;show .of_eq<|h us b
abbrev xJ(CX:nF)(X:Cx)(E:XK):Prop:=∀(Do:jw)(σ:St)(H:Hp)(s:Ù)(e:Value)(a:Ù),Â X Do σ H s->CX X.stack H s E e a->X.xe e a
section
variable{X:Cx}{CX:nF}{k:Nat}{f C:Addr}{fd:ph}{ps:List Str}{sp:Sp}{dvs:gz}{ds:gw}{E:XK}{x m:Str}{p pos apos:Ĳ}{e o:Expr}{es:List Expr}{ta:TE}{t:TA}
def EW{σ:St}(F:ĺ X.prog X.w X.K X.mg X.base CX k f fd ps sp)(i:ê k X.A)(d:Ĩ X.K fd ps ds)(hd:Å dvs ds)(j:xJ CX X E)(I:Â X Do σ H s)(r:Å vs us)(h:sp (vs++dvs) H Q E):È (Î X.prog X.w) X.A (call (.ref f) us) (EP X Do σ Q) X.xe s:=by
 let b:Å (vs++dvs) (us++ds):=r.append hd;let g:(us++ds).length=ps.length:=by rw[<- b.length];show F.len _ _ _ _ h
 show wpAny_call<|ML (F.run X.A X.stack s H ⟨us,[]⟩ (us++ds) (vs++dvs) Q E i I.env0 (d s us I.kIn g) b h) λr n a=>?_;cases r with
 |error e=>show j Do σ H s e n I a|ok c=>
  cases c with
  |ret u=>show I.after a|next=>show ο a|brk=>show ο a|cont=>show ο a
def a8T(F:ĺ X.prog X.w X.K X.mg X.base CX k f fd ps sp)(w:ê k X.A)(n:Gl X x)(v:X.mg x=b3 (.ref f))(u:ϱ X.K (.ref f)=dI)(i:Ĩ X.K fd ps ds)(hd:Å dvs ds)(y:xJ CX X E)
  (g:PA X (e::es) t)(b:(x==("__debug__":Str))=false:=by decide) (j:Ă (e::es) X.env=(b5,eval e X.env)::Ă es X.env:=by rfl)(c:(Ř pos<|Ă es X.env).any (·.1)=false:=by rfl) :
  PE X (.Call (.Name x p) (e::es) [] pos) (Bl sp dvs E t):=by
 intro a s z H Q I h;show bx<|uW I n v ?_ b;show PySem.W.callWith_K (h₀:=X.base) I.ok.mod.kin u (aW (g pos a s z H _ I h) λG B ⟨J,A,d,r,q⟩=>⟨d.kIn,?_⟩) j c;show EW F w i hd y d r q
def a9t(F:ĺ X.prog X.w X.K X.mg X.base CX k f fd ps sp)(j:ê k X.A)(d:Gl X x)(i:X.mg x=b3 (.ref f))(g:ϱ X.K (.ref f)=dI)(c:Ĩ X.K fd ps ds)(hd:Å dvs ds)(n:xJ CX X E)
  (a:(x==("__debug__":Str))=false:=by decide):PE X (.Call (.Name x p) [] [] pos) (Bl sp dvs E Bk):=by
 intro b s q H Q I h;show bx<|uW I d i ?_ a;show PySem.W.callWith_K0 I.kIn g<|EW (us:=[]) F j c hd n I .nil h
structure rMm(K:Ô)(C f:Addr):Prop where
 makes:PySem.W.makesIn K C=dI
 init:zf K (.ref C) "__init__"=b3 (b3<|.ref f)
 fn:QF K (.ref f)=dI
 kp:ϱ K (.ref C)=dI
end
abbrev PK(X:Cx)(a:List Υ)(t:TA):Prop:=
 ∀(pos:Ĳ)(Do:jw)(s:Ù)(σ:St)(H:Hp)(Q:gz->Hp->Prop),Â X Do σ H s->t σ H Q->È (Î X.prog X.w) X.A (evalAll<|(kh pos<|m7 a X.env).map (·.2)) (AP X Do σ Q) X.xe s
section
variable{X:Cx}{CX:nF}{k:Nat}{f C:Addr}{fd:ph}{ps ks:List Str}{sp:Sp}{E:XK}{x m:Str}{p pos apos kpos:Ĳ}{e o:Expr}{es:List Expr}{kws:List Υ}{te ta:TE}{t tk:TA}{nm:Option Str}
def a9s:PK X [] Bk:=λ_ _ _ _ H Q I h=>wpAny_evalAll_nil ⟨[],H,I,.nil,h⟩
def a9o(j:PE X e te)(n:PK X kws t):PK X (⟨nm,e,kpos⟩::kws) (ET te t):=by intro pos a s b H Q I h;change È _ _ (evalAll<|(do let v <- eval e X.env;standAt pos;pure v)::(kh pos<|m7 kws X.env).map (·.2)) _ _ s;show wpAny_evalAll_cons<|Á<|aW (j a s b H _ I h) λu A ⟨x,c,g,y,q⟩=>Á<|My<|Ê ?_;show aW (n pos a A b c _ g q) λJ G ⟨B,d,i,z,w⟩=>⟨x::B,d,i,.cons y z,w⟩
structure KBinds(K:Ô)(fd:ph)(ps ks:List Str)(g:gw->gw->gw)(gV:gz->gz->gz):Prop where
 to:∀(s:Ù)(us ws:gw),K.In s.heap->(g us ws).length=ps.length->jy s fd ⟨us,ks.zip ws⟩ (ps.zip<|g us ws)
 rel:∀{vs:gz}{us:gw}{zs:gz}{ws:gw},Å vs us->Å zs ws->Å (gV vs zs) (g us ws)
variable{g:gw->gw->gw}{gV:gz->gz->gz}
end
structure Ĭ(N P:List Str)(sc:Χ):Prop where
 kind:sc.kind=.function
 co:sc.isCoroutine=b5
 gen:sc.isGenerator=b5
 nd:N.Nodup
 pre:N.take P.length=P
 par:∀x∈P,sc.names.lookup x=b3 .local\/sc.names.lookup x=b3 .cell
 nofree:∀y∈sc.names,y.2≠.free
def EX{kindOf:Str->Option ϳ}:∀{a}{m},(∀v,(x,v)∉a)->du kindOf a m x=m x
 |[],_,_=>rfl|(n,v)::r,m,h=>by
  ext du;rw[EX λw hw=>h w<|ŏ _ hw];split
  .have:x≠n:=by rintro rfl;show h v ţ
   simp[this]
  .rfl
def EY{kindOf:Str->Option ϳ}:∀{a}{m},(∀v,(x,v)∉a)->dq kindOf a m x=m x
 |[],_,_=>rfl|(n,v)::r,m,h=>by
  ext dq;rw[EY λw hw=>h w<|ŏ _ hw];split
  .rfl
  .have:x≠n:=by rintro rfl;show h v ţ
   simp[this]
def EZ{kindOf:Str->Option ϳ}:∀{P:List Str}{vs:gw}{i:Nat}{m},P.Nodup->P[i]?=b3 x->vs[i]?=b3 v->kindOf x=b3 .local->
  du kindOf (P.zip vs) m x=b3 v
 |[],_,_,_,_,h,_,_=>by simp at h
 |_::_,[],_,_,_,_,h,_=>by simp at h
 |p::P,w::vs,0,m,nd,h1,h2,hk=>by simp at h1 h2;subst h1;subst h2;change du kindOf ((p,w)::P.zip vs) m p=_;ext du;rw[EX λv a=>(ő.mp nd).1 (OP a).1,if_pos hk];simp
 |p::P,w::vs,i+1,m,nd,h1,h2,hk=>by change du kindOf ((p,w)::P.zip vs) m x=_;ext du;show EZ (i:=i) (ő.mp nd).2 (by apply h1) (by apply h2) hk
def E4{kindOf:Str->Option ϳ}:∀{P:List Str}{vs:gw}{i:Nat}{m},P.Nodup->P[i]?=b3 x->vs[i]?=b3 v->kindOf x≠b3 .local->
  dq kindOf (P.zip vs) m x=b3 v
 |[],_,_,_,_,h,_,_=>by simp at h
 |_::_,[],_,_,_,_,h,_=>by simp at h
 |p::P,w::vs,0,m,nd,h1,h2,hk=>by simp at h1 h2;subst h1;subst h2;change dq kindOf ((p,w)::P.zip vs) m p=_;ext dq;rw[EY λv a=>(ő.mp nd).1 (OP a).1,if_neg hk];simp
 |p::P,w::vs,i+1,m,nd,h1,h2,hk=>by change dq kindOf ((p,w)::P.zip vs) m x=_;ext dq;show E4 (i:=i) (ő.mp nd).2 (by apply h1) (by apply h2) hk
abbrev start(N:List Str)(vs:gz):St:=vs.map b3++Ϣ (N.length-vs.length) b4
abbrev oK(CX:nF)(P:ť)(w:ĳ)(K:Ô)(g:Str->Option Value)(base:ñ)(N:List Str)(a:Str)(scope:Χ)(f:Addr)(c:Value)(A:Ŧ)(outer:List ı)(s:Ù)(H:Hp)(E:XK):Cx where
 prog:=P
 w:=w
 K:=K
 mg:=g
 base:=base
 A:=A.deeper<|envOfC a scope s.heap.objs.size f c
 N:=N
 s₀:=s
 H₀:=H
 env:=envOfC a scope s.heap.objs.size f c
 outer:=outer
 stack:=envOfC a scope s.heap.objs.size f c::outer
 ex:=[]
 calm:=dI
 fn:=λ_=>dI
 pn:=[]
 xe:=λe h=>È (Î P w) (A.deeper<|envOfC a scope s.heap.objs.size f c) (leaving (envOfC a scope s.heap.objs.size f c) e) (λ_ b=>CX outer H s E e b) (λd b=>CX outer H s E d b) h
def E6{sc:Χ}(h:sc.names.lookup x=b3 .cell):∃c,(Nk n sc.names []).lookup x=b3 c:=by let q:=S4 sc.names n []<|.inl h;show S6.mp q
def a9g{K:Ô}(S:Ĭ N ps scope)(hd:A.handled=b4)(j:dj P w K J base A outer s H)(U:vs.length=ps.length)(r:Å vs us)(x:InCallC s s.heap.objs.size (du (envOfC d scope s.heap.objs.size f I).kindOf (ps.zip us) λ_=>b4) (Nk (s.heap.objs.size+1) scope.names []) (dq (envOfC d scope s.heap.objs.size f I).kindOf (ps.zip us) λ_=>b4) s1):
  Â (oK CX P w K J base N d scope f I A outer s H E) [] (start N vs) H s1:=by
 let Q:ps.length<=N.length:=by have:=congrArg İ S.pre;rw[Ι]at this;lia
 let⟨h1,X,rfl,L⟩:=x.done;let o:∀b:Addr,b∉(oK CX P w K J base N d scope f I A outer s H E).ex:=λb z=>absurd (show b∈([]:List Addr)from z) ∅;show⟨⟨j.mod,S.kind,rfl,rfl,Ø _,λy z c h1 g=>?_,λy n=>?_,λy c _ h=>?_,λ_=>hd,Around.frames_deeper j.frames,.inr ⟨rfl,rfl⟩,λb z=>absurd z<|o b,j.bs,j.bsz,λb _ _=>o b,λb z=>absurd z<|o b,j.funs,j.frf⟩,
  rfl,j.bare,Un.kept L,⟨_,x.toInCall.ns,λi y v h1 g T=>?_⟩,λy c h=>⟨_,x.cell y c h⟩,j.hok.fresh<|Ø _,λy c h=>?_,λp B=>absurd (show p∈([]:jw)from B) ∅,j.hok.kept L,?_⟩
 .show name_of_addr x.apart (ϵ h1)<|ϵ g
 .let n:scope.names.lookup y=b3 .cell\/scope.names.lookup y=b3 .free:=n;rcases n with n|n
  .show E6 n
  .show absurd rfl<|S.nofree _<|ϵ n
 .show Rr<|x.above y c<|ϵ h
 .let hi:i<vs.length:=by
   unfold start at g;by_cases hi:i<vs.length
   .show hi
   .rw[jb<|by apply hi]at g;rw[M1]at g;split at g<;>ext g
  let O:vs[i]?=b3 v:=by
   unfold start at g;rw[ϕ<|by apply hi,ÿ]at g;cases e:vs[i]? with
   |none=>rw[e]at g;ext g|some a=>rw[e]at g;ext g;rfl
  let⟨u,M,R⟩:=r.get O;let B:ps[i]?=b3 y:=by rw[<- S.pre,RK ()];show h1
  let G:ps.Nodup:=by rw[<- S.pre];show S.nd.sublist<|List.take_sublist _ _
  show⟨u,R,?_⟩;rcases S.par y (ķ B)with k|k
  .show .inl ⟨k,EZ G B M k⟩
  .let⟨c,e⟩:=E6 (n:=s.heap.objs.size+1) k;show .inr ⟨.inl k,c,e,?_⟩;let q:=x.cell y c e;rw[E4 G B M<|by change scope.names.lookup y≠_;rw[k];decide]at q;show q
 .show j.hok.fresh<|Rr<|x.above y c<|ϵ h
 .ext start;change _=N.length;rw[ć,Ã,vh];lia
def a9f{K:Ô}{kV:Value}(lk:K.lookup f=b3 ⟨oc,od,.func<|ώ name a d body scope dV kV z pm an c ct,T⟩)(M:N2 K c a=dI)(S:Ĭ N ps scope)(len:∀vs H Q E,sp vs H Q E->vs.length=ps.length)(i:∀A outer s H(vs:gz)Q E,ê k (A.deeper<|envOfC a scope s.heap.objs.size f c)->sp vs H Q E->
   ∃t,Ş (oK CX P w K L base N a scope f c A outer s H E) body t/\t {nx:=λ_ h=>Q .non h,rt:=Q} (start N vs) H):
  ĺ P w K L base CX (k+1) f (ώ name a d body scope dV kV z pm an c ct) ps sp:=by
 show⟨len,λA outer s H Z us vs Q E O B hb r G=>?_⟩;let hl:=len _ _ _ _ G;let Y:K.In s.heap:=B.mod.kin.keeps λb o e=>(B.bs b o e).1;let R:s.heap.NoLimit:=B.mod.nolimit.keeps λb o e=>(B.bs b o e).1;let j:∀y∈ps.zip us,scope.names.lookup y.1=b3 .local\/(scope.names.lookup y.1=b3 .cell/\((Nk (s.heap.objs.size+1) scope.names []).lookup y.1).isSome=dI):=λ⟨n,v⟩ hy=>by
  rcases S.par n (OP hy).1 with q|q
  .show .inl q
  .show .inr ⟨q,S4 _ _ _<|.inl q⟩
 show codeAny_call_function O.depth (Y _ _ lk) rfl S.co S.gen rfl (PySem.W.codeRec_of Y M)<|hb _ _ _ _ ?_;show wpAny_newFunctionEnv_cells S.kind j λenv he s1 x=>?_;subst he;show⟨R.keeps x.toInCall.keep,codeAny_func ?_⟩;let⟨t,ht,hq⟩:=i A outer s H vs Q E (O.deeper _) G;let I:Â (oK CX P w K L base N a scope f c A outer s H E) [] (start N vs) H s1:=a9g S O.hd B hl r x;show ř (ht [] s1 (start N vs) H _ I hq) (λfl X p=>?_) λe X p=>p;let fin:∀{g:St}{h:Hp}{v:V}{u:Value},Â (oK CX P w K L base N a scope f c A outer s H E) [] g h X->Í v u->Q v h->CE outer P w H s Q u X:=
  λ{g h v u} J U q=>⟨v,h,J.os,J.bare,J.base,J.hok,U,q⟩
 cases fl with
 |ret u=>let⟨v,g,h,J,U,q⟩:=p;show fin J U q|next=>let⟨g,h,J,q⟩:=p;show fin (v:=V.non) (u:=Ŀ) J rfl q|brk=>let⟨_,_,_,q⟩:=p;show ο q|cont=>let⟨_,_,_,q⟩:=p;show ο q
abbrev xK(r:gz->Hp->VK->Prop)(t:TA):TE:=λσ H Q=>t σ H λvs a=>r vs a Q
def a9e{id:String}(hc:Ü X (.builtin id) r)(n:Gl X x)(o:X.mg x=b4)(u:Ω x=b3 (.builtin id))(j:PA X (e::es) t)(q:x ≠ "__name__":=by decide)(b:(x==("__debug__":Str))=false:=by decide)(k:Ă (e::es) X.env=(b5,eval e X.env)::Ă es X.env:=by rfl)(c:(Ř pos<|Ă es X.env).any (·.1)=false:=by rfl):PE X (.Call (.Name x p) (e::es) [] pos) (xK r t):=by
 intro a s d H Q I h;show bx<|kE I n o u ?_ q b;show Sa (aW (j pos a s d H _ I h) λz y ⟨A,g,i,w,v⟩=>hc a y d g A z Q i w v) k c
def a9d(hc:Ü X (.type T) r)(n:Gl X x)(o:X.mg x=b4)(u:Ω x=b3 (.type T))(j:PA X (e::es) t)(q:x ≠ "__name__":=by decide)(b:(x==("__debug__":Str))=false:=by decide)(k:Ă (e::es) X.env=(b5,eval e X.env)::Ă es X.env:=by rfl)(c:(Ř pos<|Ă es X.env).any (·.1)=false:=by rfl):PE X (.Call (.Name x p) (e::es) [] pos) (xK r t):=by
 intro a s d H Q I h;show bx<|kE I n o u ?_ q b;show qe (aW (j pos a s d H _ I h) λz y ⟨A,g,i,w,v⟩=>hc a y d g A z Q i w v) k c
section
variable{κ:Type} [DecidableEq κ]
abbrev k6(kvs:List (κ×V))(k:κ):Option V:=(kvs.find? λa=>decide<|a.1=k).map (·.2)
def a9R{k:κ}(e:p.1=k):k6 (p::r) k=b3 p.2:=by simp[k6,ų,e]
def a9Q{k:κ}(e:¬ p.1=k):k6 (p::r) k=k6 r k:=by simp[k6,ų,e]
def Œ.isSome_eq(r:Œ o u):o.isSome=u.isSome:=by
 cases o with
 |none=>cases u with
  |none=>rfl|some _=>show(show False from r).elim
 |some _=>cases u with
  |none=>show(show False from r).elim|some _=>rfl
def Œ.getD(r:Œ o u)(a:Í d d'):Í (o.getD d) (u.getD d'):=by
 cases o with
 |none=>cases u with
  |none=>show a|some _=>show(show False from r).elim
 |some _=>cases u with
  |none=>show(show False from r).elim|some _=>show r
def KV.val(r:KV kvs vs)(k:κ):Œ (k6 kvs k) (fC vs k):=by
 unfold KV at r;induction r with
 |nil=>show ϯ|@cons p q i c h t g=>
  let⟨h1,d⟩:=h;by_cases e:p.1=k
  .let a:q.1=k:=h1.symm.trans e;let b:fC (q::c) k=b3 q.2:=by simp[fC,ų,a]
   rw[a9R e,b];show d
  .let a:¬ q.1=k:=λz=>e<|h1.trans z;let b:fC (q::c) k=fC c k:=by simp[fC,ų,a]
   rw[a9Q e,b];show g
def KV.length{kvs:List (κ×V)}(r:KV kvs vs):kvs.length=vs.length:=OU r
end
def E7(r:Í (kV k) u):(jP P w).is k u=true:=by
 cases k with
 |inl i=>let⟨t,e⟩:=(show ∃t,u=Ĥ i t from r);subst e;show a9F P w i t|inr x=>let⟨t,e⟩:=(show ∃t,u=lX x t from r);subst e;show b2Y P w x t
def Â.big{σ:St}(I:Â X Do σ H s):ľ<s.heap.objs.size:=by let h:Ų<s.heap.objs.size:=(I.mod.glob.keeps I.bk).lt;show Mz ⋯ h
def xM{σ:St}(I:Â X Do σ H s)(g:uV (H a))(e:Κ a s.heap h')(d:∃q,h'.get? a=b3 q)(new:à X.prog X.w (upd H a ob) h' a ob):
  Â X Do σ (upd H a ob) {s with heap:=h',toks:=t'}:=
 I.write (x:=a) (e:=a) g (.inl rfl) (λb q c z=>(e.2 b c).trans z) d new
abbrev Fb(i:Expr):Prop:=∀b a,MQ i b5 b a=operate [b,a] (qt b a)
def Fc{id:String}(p:yq (.type T) "__getitem__"=pure (b3<|.builtin id))(q:Fb a)(h:È (Î prog w) A (eval b env) (λo e=>È (Î prog w) A (eval a env) (λi c=>c.TypeIs o T/\È (Î prog w) A (qt o i) Q E c) E e) E s):
  È (Î prog w) A (eval (.Subscript b a pos) env) Q E s:=by
 show MC<|ř h (λo e j=>ř j (λi c d=>?_) λ_ _ x=>x) λ_ _ x=>x;let⟨n,d⟩:=d;ext Mv;show Á ?_;rw[getitemInPython_of_ne n.not_modules];show Á<|uf n p ?_;let fin:È (Î prog w) A (MQ a b5 o i) (λr g=>È (Î prog w) A (letTemporaryGo b o r >>= λ_=>pure r) Q E g) E c:=by rw[q o i];show wpAny_operating<|ř d (λr g k=>Á<|wpAny_letTemporaryGo<|Ê k) λ_ _ x=>x
 first
  |show Ê (Á fin)|show Á (Ê<|Á fin)|show Á fin
abbrev Fd:List (TE×TE)->St->Hp->(List (V×V)->Hp->Prop)->Prop
 |[],_,H,Q=>Q [] H|(tk,tv)::r,σ,H,Q=>tk σ H λx a=>tv σ a λy b=>Fd r σ b λd c=>Q ((x,y)::d) c
noncomputable abbrev VV:List (V×V)->List (Value×Value)->Prop:=Ρ λp q=>Í p.1 q.1/\Í p.2 q.2
abbrev a9G(X:Cx)(pos:Ĳ)(keys:List (Option Expr))(a:List Expr)(b:List (TE×TE)):Prop:=
 ∀(Do:jw)(s:Ù)(σ:St)(H:Hp)(Q:List (V×V)->Hp->Prop),Â X Do σ H s->Fd b σ H Q->
  È (Î X.prog X.w) X.A (evalPairs<|pairTrees keys a X.env pos) (λg e=>∃d c,Â X Do σ c e/\VV d g/\Q d c) X.xe s
structure a5Y(X:Cx)(o:Expr)(m:Str)(apos:Ĳ)(e:Expr)(cpos:Ĳ):Prop where
 base:fu o m X.env (eval o X.env)=eval o X.env
 few:((Ř cpos (Ă [e] X.env)).all (λx=>!x.1)&&(kh cpos (m7 [] X.env)).all (λx=>x.1.isSome)
  && decide (([e]:List Expr).length+([]:List Υ).length+(if([]:List Υ).isEmpty then 0 else 1)<30))=dI
 line:(apos.endLine==cpos.line)=dI
 trees:Ř cpos (Ă [e] X.env)=[(b5,eval e X.env)]
structure a4i(X:Cx)(o:Expr)(m:Str)(apos:Ĳ)(e f:Expr)(cpos:Ĳ):Prop where
 base:fu o m X.env (eval o X.env)=eval o X.env
 few:((Ř cpos (Ă [e,f] X.env)).all (λx=>!x.1)&&(kh cpos (m7 [] X.env)).all (λx=>x.1.isSome)
  && decide (([e,f]:List Expr).length+([]:List Υ).length+(if([]:List Υ).isEmpty then 0 else 1)<30))=dI
 line:(apos.endLine==cpos.line)=dI
 trees:Ř cpos (Ă [e,f] X.env)=[(b5,eval e X.env),(b5,eval f X.env)]
abbrev Ú(H:Hp)(a:Addr):Prop:=(∃kvs,Rd H a (.dK kvs))\/∃kvs,Rd H a (.dT kvs)
end L2
namespace HT
open PySem PyProof.Rows
abbrev lexLt:List Int->List Int->Bool
 |[],[]=>b5|[],_::_=>dI|_::_,[]=>b5|x::xs,y::ys=>if x=y then lexLt xs ys else decide (x<y)
def lexLt_cons x y xs a:lexLt (x::xs) (y::a)=if x=y then lexLt xs a else decide (x<y):=rfl
def a9E:lexLt [] []=false:=rfl
def a9D y a:lexLt [] (y::a)=true:=rfl
def a9B x xs:lexLt (x::xs) []=false:=rfl
def a8w A s a t c u:∃e,m5 A s (.int a t) (.int c u) e/\(e=dI↔a=c):=
 ⟨(a==c),RN a t c u,∅⟩
def a8p A s a t c u prog w E Q(h:Q (.bool<|decide<|a<c) s):
  È (Î prog w) A (qz .Lt (.int a t)<|.int c u) Q E s:=
 (Rj h:È (Î prog w) A (Ķ .Lt (.int a t)<|.int c u) Q E s)
section
open PySem.SeqAt
open PySem.AutoSeq1 (wpAny_loadPart')
open PySem.MeetsSeq PySem.MeetsSeq2 PySem.MeetsSeq3
set_option maxHeartbeats 1000000 in
def a8o l b items i n n2 Z O sl U ns L(hi:Ŵ items.toList ns)(X:Ŵ i.toList L):
  Meets (Builtin.«tuple.__lt__» ⟨[.ref l,.ref b],[]⟩)
   (λ_ R s=>s.heap.get? l=b3 {cls:=.type "tuple",dict:=Z,data:=.seq items n,slots:=sl}/\s.heap.get? b=b3 {cls:=.type "tuple",dict:=O,data:=.seq i n2,slots:=U} /\
    R (.ok<|.ret<|.bool<|lexLt ns L) s):=
 .of_wp λE w A R s h=>by
  let⟨K,g,d,N,M⟩:=s;let⟨hl,hb,h⟩:=h;let f2:=AutoSeq1.sub_tuple_tuple;let z1:items.size=ns.length:=by rw[<- hi.length];simp
  let z2:i.size=L.length:=by rw[<- X.length];simp
  wp_walk using Pl hl,Pl hb,OS _ (λcG b T=>b.1=b4/\T=⟨K,g,d,N,M⟩/\∃(vs ws:gw)(o k:List Int),cG=vs.zip ws /\
   Ŵ vs o/\Ŵ ws k/\o.length+i.size=k.length+items.size/\R (.ok<|.ret<|.bool<|lexLt o k) ⟨K,g,d,N,M⟩) _
  case turn=>
   rintro⟨y,x⟩ cG b T ⟨G,rfl,vs,ws,o,k,v,H,p,j,z⟩;cases H with
   |nil=>rw[List.zip_nil_left]at v;ext v|cons a t I=>
    cases p with
    |nil=>rw[List.zip_nil_right]at v;ext v|cons c u J=>
     rw[Qo]at v;injection v with hyx hrest;injection hyx with hy hx;subst hy hx;rw[lexLt_cons]at z;dsimp[Ŋ]at j;let⟨e,he,B⟩:=a8w A.in1 ⟨K,g,d,N,M⟩ a t c u;show Á<|he E w _ _ ?_;cases e with
     |true=>rw[if_pos<|B.mp rfl]at z;wp_walk;show⟨rfl,rfl,_,_,_,_,hrest,I,J,(),z⟩|false=>rw[if_neg λq=>absurd (B.mpr q) ø]at z;let Q:=a8p A.in1 ⟨K,g,d,N,M⟩ a t c u E w;wp_walk using Q;show⟨_,rfl,by apply z⟩
  case fin=>
   rintro⟨b1,b2⟩ T ⟨G,rfl,vs,ws,o,k,v,H,p,j,z⟩;simp only at G;subst G;let Y:lexLt o k=decide (items.size<i.size):=by
    cases H with
    |nil=>
     cases p with
     |nil=>dsimp[ut]at j;rw[a9E];show(decide_eq_false ()).symm|cons c u hw=>dsimp[ut,Ŋ]at j;rw[a9D];show(decide_eq_true ()).symm
    |cons a t Y=>
     cases p with
     |nil=>dsimp[ut,Ŋ]at j;rw[a9B];show(decide_eq_false ()).symm|cons c u hw=>rw[Qo]at v;ext v
   rw[Y]at z;wp_walk;show⟨_,rfl,by simpa[b4q]using z⟩
  case h=>show⟨rfl,rfl,items.toList,i.toList,ns,L,rfl,hi,X,(),h⟩
end
def lt_tupInts(z:J3 s.heap l items)(v:J3 s.heap b a)(hi:Ŵ items.toList ns)(y:Ŵ a.toList g)(B:A.units<Ą)(h:Q (.bool<|lexLt ns g) s):È (Î prog w) A (Ķ .Lt (.ref l)<|.ref b) Q E s:=by
 obtain⟨⟨cls,u,p,H⟩,q,hc,n,hd⟩:=id z;obtain⟨⟨o,j,i,k⟩,e,c,G,d⟩:=id v;simp only at hc hd c d;subst hc hd c d;show richCompare_meets_room (op:=.Lt) ⟨_,q,rfl⟩ ⟨_,e,rfl⟩ PySem.F.slot_tuple_lt PySem.F.entry_tuple_lt (PySem.F.args_tuple_lt_2 _ _) (a8o l b items a n G u j H k ns g hi y)
  ⟨q,e,show Η (lexLt ns g)≠Value.notImplemented/\Q (.bool<|lexLt ns g) s from⟨(λx=>nomatch x),h⟩⟩ B
def cat_tup{vs ws:gw}(z:J3 s.heap t vs.toArray)(y:J3 s.heap b ws.toArray)(q:vs≠[])(h1:ws=[]->Q (.ref t) s)(x:ws≠[]->Q (.ref s.heap.objs.size) {s with heap:=s.heap.push {cls:=.type "tuple",data:=.seq (vs++ws).toArray}})(hsz:vs.length+ws.length<=Ò):È (Î prog w) A (Τ .Add (.ref t)<|.ref b) Q E s:=by
 obtain⟨⟨cls,p,o,v⟩,i,hc,n,hd⟩:=id z;obtain⟨⟨k,c,j,h⟩,a,d,u,g⟩:=id y;simp only at hc hd d g;subst hc hd d g;let e:vs.toArray++ws.toArray=(vs++ws).toArray:=∅
 by_cases hw:ws=[]
 .show concat_meets ⟨_,i,rfl⟩ ⟨_,a,rfl⟩ Pu seq_tuple_add S3 S7 (Rk _ _)
   (tuple_addW1 t b vs.toArray ws.toArray n u p c v h (by apply q)<|by simp[hw]) ⟨i,a,h1 hw⟩
 .show concat_meets ⟨_,i,rfl⟩ ⟨_,a,rfl⟩ Pu seq_tuple_add S3 S7 (Rk _ _)
   (tuple_addW2 t b vs.toArray ws.toArray n u p c v h (by apply q) (by apply hw)<|by rw[ģ,ģ];show hsz) ⟨i,a,?_⟩
  rw[e];show x hw
abbrev sIx(n d:Nat):Option Int->Nat
 |none=>d|some v=>if v<0 then(v+(n:Int)).toNat else min v.toNat n
def sIx_none n d:sIx n d b4=d:=rfl
def sIx_nat(n d k:Nat):sIx n d (b3 (k:Int))=min k n:=by change(if(k:Int)<0 then((k:Int)+(n:Int)).toNat else min (k:Int).toNat n)=min k n;rw[if_neg (),bw]
end HT
namespace L2
open PySem PySem.Spec PyProof.Rows
noncomputable abbrev TO:=St->Hp->(Option Int->Hp->Prop)->Prop
abbrev PO(X:Cx)(e:Option Expr)(t:TO):Prop:=
 ∀(Do:jw)(s:Ù)(σ:St)(H:Hp)(Q:Option Int->Hp->Prop),Â X Do σ H s->t σ H Q->
  È (Î X.prog X.w) X.A (evalPart e X.env) (λu b=>∃o a,Â X Do σ a b/\IsPart u o/\Q o a) X.xe s
abbrev a8l:TO:=λ_ H Q=>Q b4 H
abbrev a8Z(t:TE):TO:=λσ H Q=>t σ H λx a=>∃i,x=.int i/\Q (b3 i) a
def xN:∀{us},Å (ns.map V.int) us->Ŵ us ns:=by
 induction ns with
 |nil=>intro us r;rw[ϴ]at r;ext r;show .nil|cons n ns a=>
  intro us r;rw[ö]at r;cases r with
  |cons b c=>let⟨t,e⟩:=b;subst e;show .cons n t<|a c
def a8Y:PO X b4 a8l:=by intro a s b H Q I h;rw[evalPart_none];show Ê ⟨b4,H,I,.none,h⟩
def a8X(h:PE X e te):PO X (b3 e) (a8Z te):=by intro a s j H Q I hw;rw[evalPart_some];show aW (h a s j H _ I hw) λu k ⟨x,b,c,g,d⟩=>?_;let⟨i,rfl,q⟩:=d;let⟨t,rfl⟩:=g;show⟨b3 i,b,c,.int i t,q⟩
abbrev Bm(X:Cx)(r:V->Option Int->Option Int->Hp->VK->Prop):Prop:=
 ∀(Do:jw)(s:Ù)(σ:St)(H:Hp)(x:V)(v b c:Value)(lo hi:Option Int)(a:Addr)(Q:VK),Â X Do σ H s->Í x v->s.heap.IsSliceOf a b c .none->IsPart b lo->IsPart c hi->r x lo hi H Q->
  ∃T id,yq (.type T) "__getitem__"=pure (b3<|.builtin id)/\s.TypeIs v T/\È (Î X.prog X.w) X.A (qt v<|.ref a) (EP X Do σ Q) X.xe s
abbrev b1p(r:V->Option Int->Option Int->Hp->VK->Prop)(te:TE)(tl th:TO):TE:=λσ H Q=>te σ H λx a=>tl σ a λl b=>th σ b λu c=>r x l u c Q
def b1m{lo:Option Expr}(G:Bm X r)(A:PE X e te)(E:PO X lo tl)(K:PO X hi th):PE X (.Subscript e (.Slice lo hi b4 p2) pos) (b1p r te tl th):=by intro a s d H Q I h;show MC<|aW (A a s d H _ I h) λv U ⟨x,k,o,R,M⟩=>?_;show wpAny_Slice<|aW (E a U d k _ o M) λg Y ⟨l,n,p,pl,N⟩=>aW (K a Y d n _ p N) λi c ⟨u,j,w,L,O⟩=>?_;rw[evalPart_none];show Ê ?_;let y:Â X a d j {c with heap:=c.heap.push {cls:=.type "slice",data:=.fields #[g,i,.none]}}:=w.kept (t':=c.toks) λb ob q=>á _ q;let⟨T,id,z,J,B⟩:=G a {c with heap:=c.heap.push {cls:=.type "slice",data:=.fields #[g,i,.none]}} d j x v g i l u c.heap.objs.size Q y R (Rq ..) pl L O;change È (Î X.prog X.w) X.A (Mv e (.Slice lo hi b4 p2) v<|.ref c.heap.objs.size) (EP X a d Q) X.xe {c with heap:=c.heap.push {cls:=.type "slice",data:=.fields #[g,i,.none]}};show Np (ops:=[.ref c.heap.objs.size,v]) J z B<|by with_unfolding_all rfl
abbrev pQ(xs:gz)(lo hi:Option Int):gz:=(xs.drop<|HT.sIx xs.length 0 lo).take<|HT.sIx xs.length xs.length hi-HT.sIx xs.length 0 lo
def b1j xs lo hi:(pQ xs lo hi).length<=xs.length:=by ext pQ;rw[Ι,uv];lia
abbrev Fe(K:Ô):R2:=λx y H Q=>∃a b xs c,x=.ref a/\y=.ref b/\ç K H a xs/\ç K H b c/\xs≠[]/\xs.length+c.length<=Ò /\
 (c=[]->Q (.ref a) H)/\(c≠[]->∀p,H p=b4->Q (.ref p) (upd H p<|.tup<|xs++c))
def Å.nil_iff(r:Å xs us):us=[]↔xs=[]:=by
 cases r with
 |nil=>simp|cons _ _=>simp
def b1i:đ X (Τ .Add) (Fe X.K):=by intro j s L H x y v u Q I E G h;let⟨a,b,J,K,rfl,rfl,k,n,o,g,A,B⟩:=h;ext E;ext G;let⟨its,d,p,_⟩:=I.tuple k;let⟨i,c,p2,_⟩:=I.tuple n;show HT.cat_tup p p2 (λz=>o<|d.nil_iff.mp z) (λz=>⟨.ref a,H,I,rfl,A<|c.nil_iff.mp z⟩) (λz=>?_) (by rw[<- d.length,<- c.length];show g);show⟨.ref s.heap.objs.size,_,I.laid (t':=s.toks) (o:=.tup (J++K)) (λb ob q=>á _ q) (Ø _) ?_,rfl,B (λw=>z<|c.nil_iff.mpr w) _<|I.hok.fresh<|Ø _⟩;show⟨by rw[ć];show g,_,d.append c,ž.new _ _⟩
abbrev mH(n:Nat)(i:Int):Option Nat:=if 0<=i then(if i<n then b3 i.toNat else b4)else if -(n:Int)<=i then b3 (i+n).toNat else b4
abbrev atI{a:Type}(xs:List a)(i:Int):Option a:=(mH xs.length i).bind λj=>xs[j]?
def b1h(h:mH n i=b3 j):ym i n=b3 j/\j<n/\-(n:Int)<=i/\i<n:=by
 unfold mH at h;by_cases h0:0<=i
 .rw[if_pos h0]at h;by_cases h1:i<n
  .rw[if_pos h1]at h;let e:i.toNat=j:=Ė h;show⟨by rw[seqIndex_of h0 h1,e],(),(),h1⟩
  .rw[if_neg h1]at h;ext h
 .rw[if_neg h0]at h;by_cases h1:-(n:Int)<=i
  .rw[if_pos h1]at h;let e:(i+n).toNat=j:=Ė h;show⟨by rw[seqIndex_neg () h1,e],(),h1,()⟩
  .rw[if_neg h1]at h;ext h
def Bn{xs:List a}{v:a}(h:atI xs i=b3 v):∃j,ym i xs.length=b3 j/\xs[j]?=b3 v/\j<xs.length/\-(xs.length:Int)<=i/\i<xs.length:=by
 unfold atI at h;cases e:mH xs.length i with
 |none=>rw[e]at h;ext h|some j=>rw[e]at h;let⟨h1,b,c,d⟩:=b1h e;show⟨j,h1,h,b,c,d⟩
abbrev Bo(b:Expr):Prop:=∀o i,MQ b b5 o i=operate [o,i] (qt o i)
abbrev dg(X:Cx)(r:R2):Prop:=
 ∀(b a:Expr)(Do:jw)(s:Ù)(σ:St)(H:Hp)(x y:V)(v u:Value)(Q:VK),Â X Do σ H s->Í x v->Í y u->r x y H Q->
  MQ a b5 v u=operate [v,u] (qt v u)->È (Î X.prog X.w) X.A (Mv b a v u) (EP X Do σ Q) X.xe s
abbrev b1g(X:Cx)(id:String)(r:V->gz->Hp->VK->Prop):Prop:=
 ∀(Do:jw)(s:Ù)(σ:St)(H:Hp)(x:V)(xs:gz)(v:Value)(us:gw)(Q:VK),Â X Do σ H s->Í x v->Å xs us->r x xs H Q->
  È (Î X.prog X.w) X.A (call (.builtin id)<|v::us) (EP X Do σ Q) X.xe s
def dg.or(h:dg X r)(h':dg X i):dg X (λx y H Q=>r x y H Q\/i x y H Q):=by
 intro d c e s n H x y v u Q I j k q g;rcases q with q|q
 .show h d c e s n H x y v u Q I j k q g
 .show h' d c e s n H x y v u Q I j k q g
def b1f(j:dg X r)(g:PE X a ta)(i:PE X b tb)(k:Bo b):PE X (.Subscript a b pos) (u5 r ta tb):=by intro c s w H Q I h;show MC<|Bd g i I h λv u p x y d e n o q=>j a b c p w d x y v u Q e n o q<|k _ _
abbrev Ff(K:Ô):R2:=λx y H Q=>∃p xs i v,x=.ref p/\y=.int i/\Ĉ K H p xs/\atI xs i=b3 v/\Q v H
abbrev Fg(K:Ô):R2:=λx y H Q=>∃p xs i v,x=.ref p/\y=.int i/\ç K H p xs/\atI xs i=b3 v/\Q v H
abbrev Fh:R2:=λx y H Q=>∃z i c,x=.str z/\y=.int i/\z.length<=Ò/\atI z.cps.toList i=b3 c/\Q (.str ⟨#[c]⟩) H
def ao:dg X (Ff X.K):=by
 intro k g c s A H x y v u Q I M N h o;let⟨p,Y,i,z,rfl,rfl,L,J,q⟩:=h;ext M;let⟨t,rfl⟩:=N;let⟨its,r,pl,U⟩:=I.list L;let⟨j,h1,B,R,E,G⟩:=Bn J;let⟨w,n,e⟩:=r.get B;let K:=r.length;let T:=q8;let fin:EP X c A Q w s:=⟨z,H,I,e,q⟩;by_cases h0:0<=i
 .let d:i.toNat=j:=by rw[seqIndex_of h0 G]at h1;show Ė h1
  show item_listR pl.isList h0 () (by rw[d];apply n) fin o
 .let d:(i+(its.toArray.size:Int)).toNat=j:=by rw[seqIndex_neg () E]at h1;rw[ģ,<- K];show Ė h1
  show Qj (x:=w) pl.isList.typeIs OL.lookup
   (wpAny_getItem_list_neg (Q:=λr O=>r=w/\EP X c A Q r O) pl.isList () (by rw[ģ]<;>lia) () (by rw[d];apply n) ⟨rfl,fin⟩) o
def jm:dg X (Fg X.K):=by
 intro g e c s k H x y v u Q I J K h G;let⟨p,U,i,z,rfl,rfl,E,A,q⟩:=h;ext J;let⟨t,rfl⟩:=K;let⟨its,r,pl,T⟩:=I.tuple E;let⟨j,h1,o,M,N,O⟩:=Bn A;let⟨w,n,d⟩:=r.get o;let B:=r.length;let R:=q8;let fin:EP X c k Q w s:=⟨z,H,I,d,q⟩;show Qj (x:=w) pl.typeIs slot_tuple_getitem.lookup
  (getItem_tuple (j:=j) (Q:=λr L=>r=w/\EP X c k Q r L) pl () () (by rw[ģ,<- B];show h1) (by apply n) ⟨rfl,fin⟩) G
def b1T:dg X Fh:=by
 intro e d g s O H x y v u Q I G J h E
 obtain ⟨z,i,c,rfl,rfl,M,A,q⟩:=h
 obtain ⟨t,rfl⟩:=G
 obtain ⟨N,rfl⟩:=J
 obtain ⟨j,h1,o,K,p,w⟩:=Bn A
 let B:z.cps.toList.length=z.length:=by simp [Str.length]
 rw [B] at h1 p w
 let L:=q8
 show Np (typeIs_str s z t) slot_str_getitem.lookup (getItem_str (c:=c) (by
  let k:decide (i < -(2 ^ 63:Int))=false:=decide_eq_false ()
  let n:decide (i >= 2 ^ 63)=false:=decide_eq_false ()
  rw [k,n,MY]) (by rw [h1];apply o) ⟨.str ⟨#[c]⟩,H,I.tok _,⟨_,rfl⟩,q⟩) E
abbrev Fi (K:Ô):R2:=fun x y H Q=>Ff K x y H Q\/Fg K x y H Q\/Fh x y H Q
def b1S:dg X (Fi X.K):=ao.or<|jm.or b1T
def b1E lo hi n:(Ml lo hi b4 n).1=((HT.sIx n 0 lo:Nat):Int)/\(Ml lo hi b4 n).2.1=((HT.sIx n n hi:Nat):Int)/\(Ml lo hi b4 n).2.2=1:=by
 show⟨?_,?_,rfl⟩
 .cases lo with
  |none=>simp[Ml,HT.sIx]|some i=>
   dsimp[Ml,HT.sIx,N5,show(1:Int)>0 by decide,if_true];by_cases h:i<0
   .dsimp[h,if_true]<;>lia
   .dsimp[h,if_false]<;>lia
 .cases hi with
  |none=>simp[Ml,HT.sIx]|some i=>
   dsimp[Ml,HT.sIx,N5,show(1:Int)>0 by decide,if_true];by_cases h:i<0
   .dsimp[h,if_true]<;>lia
   .dsimp[h,if_false]<;>lia
def b1A(its:gw)lo hi:M9 its.toArray lo hi b4=((its.drop<|HT.sIx its.length 0 lo).take<|HT.sIx its.length its.length hi-HT.sIx its.length 0 lo).toArray:=by let⟨h1,c,d⟩:=b1E lo hi its.toArray.size;ext M9;rw[h1,c,d];dsimp[sliceRange_one,pick_run,ģ]<;>rfl
abbrev Bp(K:Ô):V->Option Int->Option Int->Hp->VK->Prop:=λx lo hi H Q=>∃a xs,x=.ref a/\Ĉ K H a xs/\∀p,H p=b4->Q (.ref p) (upd H p<|.lst<|pQ xs lo hi)
def b0p:Bm X (Bp X.K):=by intro i s z H x v w y e hi u Q I p j pl o h;let⟨a,c,rfl,k,q⟩:=h;ext p;let⟨its,r,g,n⟩:=I.list k;let d:=r.length;show⟨"list",_,OL.lookup,g.isList.typeIs,?_⟩;show RT g.isList j pl o .none ∅ ?_ (by rw[ģ]<;>lia);rw[b1A,<- d];show⟨.ref s.heap.objs.size,_,I.laid (t':=s.toks) (o:=.lst (pQ c e hi)) (λb ob q=>á _ q) (Ø _) ?_,rfl,q _<|I.hok.fresh<|Ø _⟩;show⟨Ģ (b1j c e hi) n,_,0,(r.drop<|HT.sIx c.length 0 e).take<|HT.sIx c.length c.length hi-HT.sIx c.length 0 e,Ċ _ rfl⟩
def Fj:đ X (Ķ .NotIn) (λx y H Q=>∃i j,x=.str i/\y=.str j/\Q (.bl<|!(!(je j i 0 j.length 1).isEmpty)) H):=by intro c s k H x y v u Q I d e h;let⟨i,j,rfl,rfl,q⟩:=h;let⟨t,rfl⟩:=d;let⟨g,rfl⟩:=e;show notIn_str ⟨.bl _,H,I,rfl,q⟩
def Ű:Ü X (.builtin "len") (λxs H Q=>∃p d,xs=[.ref p]/\(Ĉ X.K H p d\/ç X.K H p d)/\Q (.int d.length) H):=by
 intro i s v H xs o Q I r h;let⟨p,d,rfl,e,q⟩:=h;let⟨u,rfl,k⟩:=gR r;ext k;let n:=q8;rcases e with e|e
 .let⟨its,g,pl,j⟩:=I.list e;let c:=g.length;show Calls.call_len_list pl.isList (by dsimp[ģ]<;>lia) ⟨.int d.length,H,I.tok _,⟨s.toks+1,by rw[ģ,c]⟩,q⟩
 .let⟨its,g,pl,j⟩:=I.tuple e;let c:=g.length;show len_tuple pl (by dsimp[ģ]<;>lia) ⟨.int d.length,H,I.tok _,⟨s.toks+1,by rw[ģ,c]⟩,q⟩
def b0o:Ü X (.builtin "len") (λxs H Q=>∃z,xs=[.str z]/\z.length<=Ò/\Q (.int z.length) H):=by intro c s i H xs g Q I r h;let⟨z,rfl,e,q⟩:=h;let⟨u,rfl,t,rfl⟩:=gR r;let d:=q8;show len_str () ⟨.int z.length,H,I.tok _,⟨_,rfl⟩,q⟩
def Ü.or(h:Ü X f r)(h':Ü X f d):Ü X f (λxs H Q=>r xs H Q\/d xs H Q):=by
 intro c s g H xs e Q I rs q;rcases q with q|q
 .show h c s g H xs e Q I rs q
 .show h' c s g H xs e Q I rs q
def ů:Ü X (.type "list") (λxs H Q=>∃p d,xs=[.ref p]/\(Ĉ X.K H p d\/ç X.K H p d)/\∀l,H l=b4->Q (.ref l) (upd H l<|.lst d)):=by
 intro v s z H xs A Q I r h;let⟨p,d,rfl,i,q⟩:=h;let⟨u,rfl,y⟩:=gR r;ext y;let fin:∀(its:gw),Å d its->d.length<=Ò->∀(h':ñ)(c':Nat),(∀b x,s.heap.get? b=b3 x->h'.get? b=b3 x)->
   h'.get? s.heap.objs.size=b3 {cls:=.type "list",dict:=b4,data:=.seq its.toArray c',slots:=#[]}->EP X v z Q (.ref s.heap.objs.size) {s with heap:=h'}:=λits c j h' c' k e=>
  ⟨.ref s.heap.objs.size,_,I.laid (t':=s.toks) k (Ø _)<|show à X.prog X.w _ h' _ (.lst d)from⟨j,its,c',c,e⟩,rfl,q _<|I.hok.fresh<|Ø _⟩
 rcases i with i|i
 .let⟨its,c,pl,j⟩:=I.list i;let g:=c.length;let⟨o,w,hc,n,hd⟩:=pl.isList;show call_list_seq p (.inl rfl) w hc hd (λh' c' k e=>fin its c j h' c' k e)<|by dsimp[ģ]<;>lia
 .let⟨its,c,pl,j⟩:=I.tuple i;let g:=c.length;let⟨o,w,hc,n,hd⟩:=pl;show call_list_seq p (.inr rfl) w hc hd (λh' c' k e=>fin its c j h' c' k e)<|by dsimp[ģ]<;>lia
def b0l:Ü X (.type "tuple") (λxs H Q=>∃p c,xs=[.ref p]/\((Ĉ X.K H p c/\∀l,H l=b4->Q (.ref l) (upd H l<|.tup c))\/(ç X.K H p c/\Q (.ref p) H))):=by
 intro d s w H xs A Q I r h;let⟨p,c,rfl,h⟩:=h;let⟨u,rfl,z⟩:=gR r;ext z;rcases h with⟨i,q⟩|⟨i,q⟩
 .let⟨its,j,pl,v⟩:=I.list i;let n:=j.length;show call_tuple_list pl.isList (λg y=>?_) (by dsimp[ģ]<;>lia);let k:Â X d w H {s with heap:=g}:=I.kept (t':=s.toks) y;let x:Â X d w (upd H g.objs.size<|.tup c) {s with heap:=g.push {cls:=.type "tuple",data:=.seq its.toArray}}:=
   k.laid (t':=s.toks) (λb o e=>á _ e) (Ø _)<|show à X.prog X.w _ _ _ (.tup c)from⟨v,its,j,ž.new _ _⟩
  show⟨.ref g.objs.size,_,x,rfl,q _<|k.hok.fresh<|Ø _⟩
 .let⟨its,j,pl,v⟩:=I.tuple i;show call_tuple_same pl ⟨.ref p,H,I,rfl,q⟩
abbrev Bq(K:Ô)(T:String)(x:V)(H:Hp):Prop:=match x with
 |.str _=>T="str"|.int _=>T="int"|.ref p=>(T="list"/\∃d,Ĉ K H p d)\/(T="tuple"/\∃o,K.lookup p=b3 o/\o.cls=.type "tuple"/\o.dict=b4) \/
   (T="dict"/\((∃c,H p=b3 (.dK c))\/∃c,H p=b3 (.dT c)))\/(T="set"/\∃S n,H p=b3 (.set S n))
 |_=>False
def b0k{σ:St}(I:Â X Do σ H s)(r:Í x v)(ty:Bq X.K T x H):
  s.TypeIs v T/\∀a,v=.ref a->∃ob,s.heap.get? a=b3 ob/\ob.dict=none:=by
 cases x with
 |str z=>let⟨t,rfl⟩:=r;cases(show T="str" from ty);show⟨typeIs_str s z t,λ_ e=>nomatch e⟩|int i=>let⟨t,rfl⟩:=r;cases(show T="int" from ty);show⟨typeIs_int s i t,λ_ e=>nomatch e⟩|ref p=>
  ext r;rcases ty with⟨rfl,q,k⟩|⟨rfl,o,d,hc,hd⟩|⟨rfl,d⟩|⟨rfl,S,n,d⟩
  .let⟨its,_,pl,_⟩:=I.list k;show⟨pl.isList.typeIs,λa e=>?_⟩;ext e;let⟨o,n,e,c,hd,_⟩:=pl;show⟨o,e,hd⟩
  .show⟨⟨o,I.kIn p o d,hc⟩,λa e=>?_⟩;ext e;show⟨o,I.kIn _ o d,hd⟩
  .let z:∃o,s.heap.get? p=b3 o/\o.ExactDict:=by
    rcases d with⟨j,d⟩|⟨j,d⟩
    .let⟨_,_,_,_,o,_,_,e,g,_⟩:=I.hok p _ d;show⟨o,e,g⟩
    .let⟨_,_,_,_,o,_,_,e,g,_⟩:=I.hok p _ d;show⟨o,e,g⟩
   let⟨o,e,g⟩:=z;show⟨⟨o,e,g.1⟩,λa h=>?_⟩;ext h;show⟨o,e,g.2.1⟩
  .let⟨o,_,_,_,e,g,_⟩:=I.hok p _ d;show⟨⟨o,e,g.1⟩,λa h=>?_⟩;ext h;show⟨o,e,g.2.1⟩
 |_=>show ο ty
abbrev Fm(K:Ô)(T:String)(r:V->gz->Hp->VK->Prop)(to:TE)(t:TA):TE:=λσ H Q=>to σ H λx c=>Bq K T x c/\t σ c λxs d=>r x xs d Q
def b0j{id:String}(L:PlainAttrs T)(k:Slot T name id)(n:M0 (.builtin id)=pure (.type "method_descriptor"))(G:b1g X id r)(J:PE X o to)(E:PA X (e::es) t)(g:fu o name X.env (eval o X.env)=eval o X.env:=by rfl)(j:((Ř cpos (Ă (e::es) X.env)).all (λx=>!x.1)&&(kh cpos (m7 [] X.env)).all (λx=>x.1.isSome)
   && decide ((e::es).length+([]:List Υ).length+(if([]:List Υ).isEmpty then 0 else 1)<30))=true:=by rfl)(i:(apos.endLine==cpos.line)=true:=by rfl)(K:Ă (e::es) X.env=(b5,eval e X.env)::Ă es X.env:=by rfl)(c:(Ř cpos (Ă es X.env)).any (·.1)=false:=by rfl):
  PE X (.Call (.Attribute o name apos) (e::es) [] cpos) (Fm X.K T r to t):=by
 intro d s p H Q I h;show Qk g j i rfl (aW (J d s p H _ I h) λv R ⟨x,y,q,w,ty,M⟩=>?_);let⟨h1,B⟩:=b0k q w ty;show⟨T,id,L,k,n,h1,B,?_⟩;let u:=E cpos d R p y _ q M;rw[K]at u ⊢;show zm (by change(b5||(Ř cpos (Ă es X.env)).any (·.1))=b5;rw[c]<;>rfl) (Rf ?_);show aW u λY U ⟨Z,z,A,O,N⟩=>G d U p z x Z v Y Q A w O N
abbrev nG(X:Cx)(id:String)(r:V->gz->Hp->VK->Prop):Prop:=
 ∀(Do:jw)(s:Ù)(σ:St)(H:Hp)(x:V)(xs:gz)(v:Value)(us:gw)(Q:VK),Â X Do σ H s->Í x v->Å xs us->r x xs H Q->
  È (Î X.prog X.w) X.A (call (.builtin id)<|v::us) (EP X Do σ Q) X.xe s
def Å.one(h:Å [x] us):∃u,us=[u]/\Í x u:=by
 cases h with
 |cons r t=>ext t;show⟨_,rfl,r⟩
def Å.two(h:Å [x,y] us):∃u v,us=[u,v]/\Í x u/\Í y v:=by
 cases h with
 |cons r t=>let⟨v,rfl,q⟩:=Å.one t;show⟨_,v,rfl,r,q⟩
def Å.eraseIdx:∀{xs}{us}i,Å xs us->Å (xs.eraseIdx i) (us.eraseIdx i)
 |_,_,_,.nil=>.nil|_,_,0,.cons _ t=>t|_,_,i+1,.cons r t=>.cons r<|Å.eraseIdx i t
def Fn{a:Type}:∀(l:List a)i,(l.eraseIdx i).length<=l.length
 |[],_=>Ø _|_::_,0=>lY _|_::r,i+1=>Nat.succ_le_succ<|Fn r i
def Â.lset{σ:St}{its:gw}(I:Â X Do σ H s)(a:H l=b3 (.lst xs))(e:s.heap.get? l=b3 {cls:=.type "list",data:=.seq its.toArray n})(d:f its.toArray=its'.toArray)(h:Å ys its')(hz:ys.length<=Ò):
  Â X Do σ (upd H l<|.lst ys) {s with heap:=s.heap.update l<|a4A f,toks:=t'}:=by
 let q:=PySem.IsL.update e f;rw[d]at q;show I.write (x:=l) (e:=l) (by rw[a];show trivial) (.inl rfl) (λi u c g=>(WF s.heap (a4A f)<|ð c).trans g) ⟨_,q⟩ ?_;show⟨hz,its',_,h,q⟩
def Â.lnew{σ:St}(I:Â X Do σ H s)(a:Å ys its)(hz:ys.length<=Ò):
  Â X Do σ (upd H s.heap.objs.size<|.lst ys) {s with heap:=s.heap.push {cls:=.type "list",data:=.seq its.toArray},toks:=t'}:=
 I.laid (λ_ _ q=>á _ q) (Ø _) ⟨hz,its,0,a,Ċ _ rfl⟩
def Â.fresh{σ:St}(I:Â X Do σ H s):H s.heap.objs.size=none:=I.hok.fresh<|Ø _
def Â.lstM{σ:St}(I:Â X Do σ H s)(a:H l=b3 (.lst xs)):xs.length<=Ò/\∃(its:gw)(n:Nat),Å xs its/\xs.length=its.length/\s.heap.get? l=b3 {cls:=.type "list",data:=.seq its.toArray n}:=by let⟨z,its,n,r,e⟩:=I.hok l _ a;show⟨z,its,n,r,r.length,e⟩
def b0g(h:n<=Ò):PL n=false:=by ext PL;show decide_eq_false ()
abbrev Fo:V->gz->Hp->VK->Prop:=λx vs H Q=>∃l xs y,x=.ref l/\vs=[y]/\H l=b3 (.lst xs)/\xs.length<Ò/\Q .non (upd H l<|.lst<|xs++[y])
def Fp:nG X "list.append" Fo:=by intro b s w H x o v k Q I g d h;let⟨l,p,y,rfl,rfl,a,j,q⟩:=h;ext g;let⟨u,rfl,c⟩:=d.one;let⟨z,its,n,r,i,e⟩:=I.lstM a;show yg F.slot_list_append ⟨_,e,rfl⟩ F.entry_list_append (F.args_list_append_2 _ _) (PySem.list_append l its.toArray n u<|by rw[ģ];lia) ⟨e,?_⟩;show⟨.non,_,I.lset (its':=its++[u]) a e ∅ (r.append<|.cons c .nil) ?_,rfl,q⟩;rw[ć,P9];lia
abbrev Fq:V->gz->Hp->VK->Prop:=λx vs H Q=>∃l b xs a,x=.ref l/\vs=[.ref b]/\H l=b3 (.lst xs)/\H b=b3 (.lst a)/\xs.length+a.length<=Ò/\Q .non (upd H l<|.lst<|xs++a)
def b0R:nG X "list.extend" Fq:=by
 intro i s O H x K v J Q I B A h;let⟨l,b,L,N,rfl,rfl,g,k,G,q⟩:=h;ext B;let⟨u,rfl,y⟩:=A.one;ext y;let⟨z,its,n,r,E,e⟩:=I.lstM g;let⟨M,a,p,w,o,j⟩:=I.lstM k;let d:its.toArray.size+a.toArray.size<=Ò:=by rw[ģ,ģ];lia
 let c:¬ (!its.toArray.isEmpty&&PL (its.toArray.size+a.toArray.size))=true:=by rw[b0g d,Bool.and_false];show ø
 show yg F.slot_list_extend ⟨_,e,rfl⟩ F.entry_list_extend (F.args_list_extend_2 _ _)
  (AutoSeq1.list_extend_list_list_0 l its.toArray n b a.toArray p c (by rw[ģ];lia) ()) ⟨e,j,?_⟩
 show⟨.non,_,I.lset (its':=its++a) g e ∅ (r.append w) ?_,rfl,q⟩;rw[ć];lia
abbrev Fs:V->gz->Hp->VK->Prop:=λx vs H Q=>∃l xs i k y,x=.ref l/\vs=[.int i]/\H l=b3 (.lst xs)/\-(2^63)<=i/\i<2^63/\ym i xs.length=b3 k/\xs[k]?=b3 y/\Q y (upd H l<|.lst<|xs.eraseIdx k)
def b0N:nG X "list.pop" Fs:=by
 intro c s K H x J v G Q I B A h;let⟨l,E,i,k,y,rfl,rfl,b,h1,d,g,o,q⟩:=h;ext B;let⟨u,rfl,p⟩:=A.one;let⟨t,rfl⟩:=p;let⟨z,its,n,r,j,e⟩:=I.lstM b;let⟨w,hw,a⟩:=r.get o;show yg F.slot_list_pop ⟨_,e,rfl⟩ F.entry_list_pop (F.args_list_pop_2 _ _)
  (MeetsSeq.list_pop_at l its.toArray n i t k w (fitsIndex_both h1 d) (by rw[ģ,<- j];show g) (by rw[<- Ϸ];show hw)<|by rw[ģ];lia) ⟨e,?_⟩
 show⟨y,_,I.lset (its':=its.eraseIdx k) b e ?_ (r.eraseIdx k) ?_,a,q⟩
 .change its.toArray.eraseIdxIfInBounds k=(its.eraseIdx k).toArray;rw[List.eraseIdxIfInBounds_toArray]
 .have:=Fn E k;lia
abbrev Ft:R2:=λx y H Q=>∃l b xs a,x=.ref l/\y=.ref b/\H l=b3 (.lst xs)/\H b=b3 (.lst a)/\xs.length+a.length<=Ò/\∀p,H p=b4->Q (.ref p) (upd H p<|.lst<|xs++a)
def b0M:đ X (Τ .Add) Ft:=by
 intro c s L H x y v u Q I p w h;let⟨l,b,G,K,rfl,rfl,j,i,B,q⟩:=h;ext p;ext w;let⟨z,its,n,r,A,e⟩:=I.lstM j;let⟨J,a,E,o,k,d⟩:=I.lstM i;show PySem.P.add_list e d ?_ (by rw[ģ,ģ];lia);let g:its.toArray++a.toArray=(its++a).toArray:=∅
 rw[g];show⟨.ref _,_,I.lnew (t':=s.toks) (r.append o)<|by rw[ć];lia,rfl,q _ I.fresh⟩
end L2
namespace Att
open PySem PySem.W PySem.Calls PyProof.Rows
def b0J:∀ns(vs:gw),WellAll P h vs (ns.map sr)->Ŵ vs ns:=by
 intro ns;induction ns with
 |nil=>intro vs w;rw[ϴ]at w;ext w;show .nil|cons n ns c=>
  intro vs w;rw[ö]at w;cases w with
  |cons a b=>ext a;show .cons _ _<|c _ b
def script_of{l:OpenLaw}(w:l.most=b3 n){e:gw}(c:l.row.toRowW.claim.pre args=dI)(p:WellAll P h e args):
  ∃a s b,e=[Ö a]/\args=[WData.list<|b.map sr]/\h.get? a=b3 {cls:=.type "list",data:=.seq s.toArray}/\Ŵ s b/\b.length<=n:=by
 let o:WShape.hasAll [] args [.list .int]=true:=(pre_splitW c).1;let hc:l.pre.holds [] {args:=args}=true:=(pre_splitW c).2;let⟨d,r,rfl,h1,u⟩:=hasAllW_cons o;obtain rfl:=hasAllW_nil u;let⟨B,rfl,v⟩:=hasW_list h1;let⟨b,rfl⟩:=items_int v;let i:b.length<=n:=by
  unfold OpenLaw.pre at hc;let j:(WTm.not<|.lt (.lit<|.int (n:Int))<|.len<|.arg 0).holds [] {args:=[.list<|b.map .int]}=true:=by let j:=(holds_andW hc).1;rw[w]at j;show j
  let k:=condW_of j<|w_not<|w_lt w_lit<|w_len_list<|w_arg rfl;rw[Ã]at k;show QC λq=>?_;let y:(n:Int)<((b.length:Nat):Int):=()
  first
   |(rw[decide_eq_true y]at k;show absurd k ⋯)|(simp at k;lia)
 cases p with
 |cons z A=>
  ext A;cases z with
  |list x g=>show⟨_,_,b,rfl,rfl,x,b0J b _ g,i⟩
def post_true(l:OpenLaw)args:l.row.toRowW.claim.post args (.bool dI) args=true:=
 postW_of (r:=l.row.toRowW) (X:=(dI==dI))
  (show QU [] (.bool dI) .bool=dI by first|rfl|decide|simp[QU,WShape.arms,WShape.armsAll])
  (show(WTm.eq .res<|.lit<|.bool dI).value [] {args:=args,res:=b3<|.bool dI,after:=args}=b3 (.bool<|dI==dI)from w_eq_bool (w_res rfl) w_lit) rfl
end Att
namespace L2
open PySem PySem.Spec PyProof.Rows
def Fu:∀{vs:gw}{ns},Ŵ vs ns->Å (ns.map V.int) vs
 |_,_,.nil=>.nil|_,_,.cons n t h=>.cons ⟨t,rfl⟩<|Fu h
abbrev Fv(H:Hp):Prop:=∀b,H b=b4\/∃o xs,H b=b3 (.frz o<|.lst xs)
def law_call{K:Ô}{vs:gw}(KX:K.In c.heap)(I:c.heap.Ns Ų N)(g:c.heap.Ns Nv mb)(X:∀x:Str,x ≠ "__name__"->mb x=Ω x)(G:c.heap.NoLimit)(hg:c.gens=#[])(Q:c.heap.get? a=b3 {cls:=.type "list",data:=.seq vs.toArray})(hi:Ŵ vs ns)(hl:ns.length<=Ò)(hr:ê k jt)(F:∀i,K.In i->i.Ns Ų N->ĺ P w K N i CX k T fd [x] sp)(A:∀s u,jy s fd ⟨[u],[]⟩ [(x,u)])(Z:∀H,Fv H->Ĉ K H a (ns.map V.int)->sp [.ref a] H (λv _=>v=.bl dI) λ_ _ _=>False)(U:∀H e j,CX [] H c (λ_ _ _=>False) e j->False):
  ι (Î P w) jt (.call (.ref T) ⟨[.ref a],[]⟩) (λr j=>r=.ok (.ret<|.bool dI)/\OldK c.heap j.heap/\j.os=c.os/\fB j.gens) c:=by
 let rv:=Fu hi;let M:=hi.length
  -- from an abstract heap in which nothing but the script may be tracked
 let y:∀H:Hp,Fv H->Ĉ K H a (ns.map V.int)->Š P w H c.heap->(∀b,H b≠b4->b=a)->(H a≠b4->K.lookup a=b4)->
   ι (Î P w) jt (.call (.ref T) ⟨[.ref a],[]⟩) (λr j=>r=.ok (.ret<|.bool dI)/\OldK c.heap j.heap/\j.os=c.os/\fB j.gens) c:=by
  intro H hO hS J hA hK;let pW:∀{b:Addr}{o:Obj},c.heap.get? b=b3 o->H b=b4->(oJ c.heap H).get? b=b3 o:=λe n=>b1r e n;let noA:∀{b:Addr}{o:Obj}{es:Array DictEntry}{ep:Nat},c.heap.get? b=b3 o->o.data=.dict es ep->H b=none:=λ{b o es ep} e d=>by
   cases q:H b with
   |none=>rfl|some u=>have R:b=a:=hA b (by rw[q];simp);subst R;rw[Q]at e;ext e;let d':MJ vs.toArray _=ϰ es ep:=d;ext d'
  let p:∀{b:Addr}{m:Str->Option Value},c.heap.Ns b m->(oJ c.heap H).Ns b m:=λ{b m} ⟨o,es,ep,e,d,r⟩=>⟨o,es,ep,pW e<|noA e d,d,r⟩;let E:K.In (oJ c.heap H):=λb o e=>pW (KX b o e)<|by
   cases q:H b with
   |none=>rfl|some u=>
    let R:b=a:=hA b (by rw[q];simp);subst R;rw[hK<|by rw[q];simp]at e;ext e
  let hM:Mod K N (oJ c.heap H):=⟨E,p I,⟨mb,p g,X⟩,let⟨mc,h1,h2⟩:=G;⟨mc,p h1,h2⟩⟩;let e0:dj P w K N (oJ c.heap H) jt [] c H:=⟨rfl,hM,λb o e=>b1Q e,lw<|b1x _ _,trivial,λb g=>absurd (show b∈([]:List Addr)from g) ∅,J,.of_eq hg⟩;show ML ((F _ E<|p I).run jt [] c H ⟨[.ref a],[]⟩ [.ref a] [.ref a] _ _ hr e0 (A c<|.ref a) (.cons rfl .nil)<|Z H hO hS) λr j h=>?_;cases r with
  |error e=>show(U H e j h).elim|ok fl=>
   cases fl with
   |next=>show ο h|brk=>show ο h|cont=>show ο h|ret u=>
    let⟨v,H',os,B,un,L,r',q⟩:=h;let q':v=.bl true:=q;subst q';obtain rfl:u=Η true:=r';show⟨rfl,OldK.of_keep λb o e=>?_,os,B⟩;cases q:H b with
    |none=>show un.keep b o e q (by intro z;show absurd (show b∈([]:List Addr)from z) ∅) ∅|some u=>
     rcases hO b with z|⟨ob,xs,z⟩
     .rw[q]at z;ext z
     .have z2:=un.frzs b ob _ z;let⟨e1,_⟩:=J b _ z;let⟨e2,_⟩:=L b _ z2;rw[e]at e1;ext e1;show e2
 cases Y:K.lookup a with
 |some o=>-- the script is one of the module's own objects
  let e:=KX a o Y;rw[Q]at e;ext e;show y (λ_=>b4) (λ_=>.inl rfl) (.inr ⟨_,vs.toArray,_,Y,rfl,rfl,rfl,by rw[ģ,M];show hl,by apply rv⟩) (λb u z=>by let O:(b4:Option HO)=b3 u:=z;ext O) (λb z=>absurd rfl z) λz=>absurd rfl z
 |none=>
  show y (λb=>if b=a then b3 (.frz {cls:=.type "list",data:=.seq vs.toArray}<|.lst<|ns.map V.int)else b4) (λb=>?_) (.inl<|.inr ⟨{cls:=.type "list",data:=.seq vs.toArray},if_pos rfl⟩) (λb u z=>?_) (λb z=>?_) λ_=>Y
  .by_cases g:b=a
   .show .inr ⟨_,_,if_pos g⟩
   .show .inl<|if_neg g
  .by_cases g:b=a
   .let O:=(if_pos g).symm.trans z;ext O;subst g;show⟨Q,by rw[Ã];show hl,vs,_,rv,Q⟩
   .let O:=(if_neg g).symm.trans z;ext O
  .by_cases g:b=a
   .show g
   .show absurd (if_neg g) z
abbrev k7(s:Stmt):Arguments:=match s with
 |.FunctionDef _ a _ _ _ _ _ _ _ _=>a|_=>{posonlyargs:=[],args:=[],vararg:=b4,kwonlyargs:=[],kw_defaults:=[],kwarg:=b4,defaults:=[]}
abbrev iJ(s:Stmt):List Stmt:=match s with
 |.FunctionDef _ _ b _ _ _ _ _ _ _=>b|_=>[]
abbrev dM(s:Stmt):Χ:=match s with
 |.FunctionDef _ _ _ _ _ _ sc _ _ _=>sc|_=>{kind:=.function,names:=[],isGenerator:=b5,isCoroutine:=b5}
noncomputable abbrev iZ:nF:=λ_ _ _ _ _ _=>False
noncomputable abbrev E0:XK:=λ_ _ _=>False
def Fw:xJ iZ X E0:=λ_ _ _ _ _ _ _ h=>h.elim
structure ϧ(K:Ô)(x qual:Str)(st:Stmt)(f:Addr)(fd:ph):Prop where
 ex:∃(oc:Value)(od:Option Addr)(dV kV doc pm:Value)(an:Option Addr)(cdv ct:Value)(osl:Array (Option Value)),
  fd=ώ x qual (k7 st) (iJ st) (dM st) dV kV doc pm an cdv ct/\K.lookup f=b3 ⟨oc,od,.func fd,osl⟩/\N2 K cdv qual=dI
 kp:ϱ K (.ref f)=dI
def ϧ.ok{K:Ô}{st:Stmt}(F:ϧ K x a st f g)(S:Ĭ N ps (dM st))(len:∀vs H Q E,sp vs H Q E->vs.length=ps.length)(c:∀b A outer s H(vs:gz)Q E,ê k (A.deeper<|envOfC a (dM st) s.heap.objs.size f b)->sp vs H Q E->
   ∃t,Ş (oK iZ P w K mg base N a (dM st) f b A outer s H E).nox (iJ st) t/\t {nx:=λ_ i=>Q .non i,rt:=Q} (start N vs) H):ĺ P w K mg base iZ (k+1) f g ps sp:=by
 let⟨v,y,u,kV,j,z,p,b,ct,o,rfl,lk,d⟩:=F.ex;show a9f lk d S len λA outer s H vs Q E n e=>?_;let⟨t,h,q⟩:=c b A outer s H vs Q E n e;show⟨t,h.nox,q⟩
def b0D{K:Ô}{st:Stmt}{kV:Value}(l:K.lookup f=b3 ⟨i,j,.func<|ώ x a (k7 st) (iJ st) (dM st) g kV d h an b ct,e⟩)(c:N2 K b a=dI)(k:ϱ K (.ref f)=dI):ϧ K x a st f (ώ x a (k7 st) (iJ st) (dM st) g kV d h an b ct):=⟨⟨i,j,g,kV,d,h,an,b,ct,e,rfl,l,c⟩,k⟩
def b0B(a:ê k A):A.units+1<Ą:=Nat.lt_of_le_of_lt (Nat.add_le_add_left (by decide:1<=64) _) a.units
def pv i(b:X.N[i]?=b3 x:=by rfl)(c:qY X.env.scope x:=by first|show jn rfl|show az (jn rfl)|show az<|az rfl)(hd:(x==("__debug__":Str))=false:=by decide)(a:(x==("__classdict__":Str))=false:=by decide):PE X (.Name x pos) (A7 i):=EC b c hd a
def pR{A:Prop}(h:B):if b5=dI then A else B:=by rw[if_neg ø];show h
def pS{A:Prop}(h:A):if dI=dI then A else B:=by rw[if_pos rfl];show h
section
variable{κ:Type} [DecidableEq κ]
end
end L2
namespace L3
open PySem PySem.W
def left_cut{Yf:Ù → Q}{Ya:ĳ → Q}{hA hB hC hD:ϑ → ñ}(i:∀w,(fencedOpening Ÿ p w N).map (λs=>(s.heap,s.gens,s.drawn,s.toks))=b3 (JF w.params,č [],ň,yl))(size:∀w:ĳ,((JF w.params).isNs Ų,(JF w.params).objs.size,(JF w.params).nsMap Ų "__annotations__")=(dI,b,g))(pre:∀w a,topGo Ÿ p w b g x ⟨JF w.params,č [],ň,yl,a⟩ (topStub p)=b3 (⟨hA w.params,č [],ň,kA,a⟩,⟨denote Ÿ<|.body (Į p) env,.body (Į p) env,H,[Ϙ j]⟩))(z:∀w a,bc Ÿ p w b g 1 n ⟨hA w.params,č [],ň,kA,a⟩ (blockOf (Į p) env (.body (Į p) env) H [Ϙ j])=b3 (.next,⟨hA w.params,č [],ň,kA,a⟩,.body (Į p) env,y))(s1:∀w a,bc Ÿ p w b g 1 o ⟨hA w.params,č [],ň,kA,a⟩ (kj ((Į p).take i1) env (.body (Į p) env) y [Ϙ j])=b3 (.next,⟨hB w.params,č [],ň,B,a⟩,.body (Į p) env,I))(s2:∀w a,bc Ÿ p w b g 1 u ⟨hB w.params,č [],ň,B,a⟩ (kj (((Į p).drop i1).take i2) env (.body (Į p) env) I [Ϙ j])=b3 (.next,⟨hC w.params,č [],ň,E,a⟩,.body (Į p) env,J))(s3:∀w a,bc Ÿ p w b g 1 v ⟨hC w.params,č [],ň,E,a⟩ (kj ((((Į p).drop i1).drop i2).take i3) env (.body (Į p) env) J [Ϙ j])=b3 (.next,⟨hD w.params,č [],ň,G,a⟩,.body (Į p) env,K))(fin:∀w a,((topRun Ÿ p w b g n4 ⟨hD w.params,č [],ň,G,a⟩<|restOf ((((Į p).drop i1).drop i2).drop i3) env (.body (Į p) env) K [Ϙ j]).bind λc=>match staticsOk (Pj p.main.body) (JF w.params) c.heap&&namesBound p c.heap&&gensDone c&&laidKept (JF w.params) c.heap with
   |true=>b3 c
   |false=>b4).map (λs=>(openSeen q loose (Pj p.main.body) Xt A s,Yf s))=b3 (openGood q loose,Ya w))(Z:Nat.ble (x+(n+(o+(u+(v+n4))))) N=dI):LeftO p q loose Xt Yf Ya N A:=λw=>by
 obtain⟨⟨h,T,d,k,a⟩,e,R⟩:=ì.mp<|i w;obtain⟨rfl,rfl,rfl,rfl⟩:h=JF w.params ∧ T=č [] ∧ d=ň ∧ k=yl:=by apply R
 obtain⟨z1,z2,z3⟩:_ ∧ _ ∧ _:=by simpa only[OW]using size w
 let⟨s,X,Y⟩:=ì.mp<|fin w a;let⟨c,h1,U⟩:=è.mp X;let O:=Nn (s3 w a) h1;rw[vm]at O;let M:=Nn (s2 w a) O;rw[vm]at M;let L:=Nn (s1 w a) M;rw[vm]at L;let r0:=go_top (pre w a)<|piece_block (z w a) L;let r:=topRun_mono (N-(x+(n+(o+(u+(v+n4)))))) _ _ _ _ r0;rw[show x+(n+(o+(u+(v+n4))))+(N-(x+(n+(o+(u+(v+n4))))))=N by have:=Nat.le_of_ble_eq_true Z;lia]at r;let t:topFrom Ÿ p w N ⟨JF w.params,č [],ň,yl,a⟩=b3 s:=by ext topFrom;dsimp;rw[z1,z2,z3,r];show U
 ext openEnds;rw[e];change(topFrom Ÿ p w N _).map _=_;rw[t];show congrArg b3 Y
end L3
namespace Lw
open PySem L2
abbrev aU(i:Nat):Stmt:=M2.main.body.getD i<|.Pass ⟨0,0,0,0⟩
abbrev sY(i j:Nat):Stmt:=match aU i with|.ClassDef _ _ _ b _ _ _ _ _ _ _=>b.getD j (.Pass ⟨0,0,0,0⟩)|_=>.Pass ⟨0,0,0,0⟩
abbrev Vw:ť:={M2 with main:={M2.main with body:=aU 1::aU 2::aU 3::aU 4::aU 5::aU 6::aU 8::aU 9::aU 10::aU 11::aU 12::aU 13::aU 14::aU 15::aU 16::aU 17::aU 18::aU 20::aU 21::aU 22::aU 23::aU 24::aU 25::aU 26::aU 27::aU 28::aU 29::aU 30::aU 32::aU 34::aU 35::aU 36::aU 37::aU 39::aU 40::aU 42::aU 44::aU 45::aU 46::aU 47::aU 48::aU 49::aU 50::aU 51::aU 52::aU 53::aU 54::aU 55::aU 57::aU 58::aU 59::aU 60::aU 61::aU 63::aU 64::aU 65::aU 66::aU 67::aU 68::aU 69::aU 70::aU 71::aU 72::aU 73::aU 74::aU 75::aU 76::aU 78::aU 79::aU 80::aU 81::aU 82::aU 83::aU 84::aU 85::aU 86::aU 87::aU 88::aU 89::aU 90::aU 91::aU 92::aU 93::[]}}
noncomputable abbrev vS(x:String)(n:Nat):Value:=lX (ű x) n
noncomputable abbrev vI(i:Int):Value:=Ĥ i 0
noncomputable abbrev vR(a:Addr):Value:=Ö a
noncomputable abbrev vN:Value:=Ŀ
noncomputable abbrev cO(fs:Array Value):Obj:={cls:=ü "code",data:=ŋ fs}
noncomputable abbrev kO(x y:String)(a b c:Nat)(l n i j k:Int)(r:Addr)(q:Int)(vs:Array Value)(t d:Int)(e:Nat):Obj:={cls:=ü "code",data:=ŋ<|#[vS x a,vS x b,vS y c,vI l,vI n,vI i,vI j,vI k,vR r,Η dI,vI q]++vs++#[vI t,vI d,vS y e]}
noncomputable abbrev tO(fs:Array Value):Obj:={cls:=ü "tuple",data:=MJ fs}
noncomputable abbrev fO(x:Str)(n:Nat)(m:Value)(c:Addr):Obj:=⟨ü "function",b4,.func<|ώ x x (k7<|aU n) (iJ<|aU n) (dM<|aU n) Ŀ Ŀ Ŀ m b4 (Ö c) Ŀ,#[]⟩
noncomputable abbrev eO(P:ϑ)(x:String)(n:Nat)(v:Value):DictEntry:={hash:=PyData.keyHash P<|ű x,key:=lX (ű x) n,val:=v}
noncomputable abbrev eR(P:ϑ)(x:String)(n:Nat)(a:Addr):DictEntry:=eO P x n<|vR a
noncomputable abbrev kA(p:Addr×Obj)(R:Ô):Ô:=p::R
noncomputable abbrev vM(n:Nat):Value:=[vS "creasecourt.places" 314,vS "creasecourt.sheets" 415,vS "creasecourt.wedges" 498,vS "creasecourt.corners" 506,vS "creasecourt.layings" 536,vS "creasecourt.laid" 555,vS "creasecourt.piles" 567,vS "creasecourt.ties" 673,vS "creasecourt.carried" 725,vS "law_creasecourt_k65_whole_ties_hold" 849].getD n vN
abbrev Fx:List String → Nat → List Value
 |[],_=>[]|x::xs,n=>vS x n::Fx xs (n+1)
noncomputable abbrev tN(xs:List String)(n:Nat):Obj:=tO<|č<|Fx xs n
open PySem.W in
abbrev lA(P:ϑ):List Obj:=((boot_o_0 P)::(boot_o_1 P)::(boot_o_2 P)::(boot_o_3 P)::(boot_o_4 P)::(boot_o_5 P)::(boot_o_6 P)::(boot_o_7 P)::(boot_o_8 P)::(boot_o_9 P)::(boot_o_10 P)::(tO #[])::({cls:=vN,data:=ŋ #[]})::(cO #[vS "<module>" 182,vS "<module>" 183,vS "/claim/cut.py" 184,vI 1,vI 0,vI 0,vI 0,vI 0,vR 11,Η b5,vI 181,vR 12,vN,vN,vN,vN,vI 185,vI 1,vS "/claim/cut.py" 186])::({cls:=ü "frame",slots:=#[b3 (vR 13),b3 (vR 3),b3 (vR 3),b4,b3 (vS "__main__" 164),b4,b3 (vR 0)]})::[])
open PySem.W in
abbrev Fy(P:ϑ)(a:Nat)(c:String)(d:Nat)(b:Nat)(R:List Obj):List Obj:=(tO #[vR 24])::({cls:=ü "builtin_function_or_method",data:=ŋ #[Ϟ "type.__prepare__",ü "type"]})::({cls:=ü "dict",data:=ϰ #[eO P "__module__" a (vS "creasecourt.errors" 187),eO P "__qualname__" (a+2) (vS c<|a+1),eO P "__firstlineno__" (a+4) (Ĥ d<|a+3),eR P "__static_attributes__" (a+5) b] 4})::(tO #[])::({cls:=vN,data:=ŋ #[]})::(cO #[vS c (a-5),vS c (a-4),vS "/claim/cut.py" (a-3),vI d,vI 0,vI 0,vI 0,vI 0,vR (b-4),Η b5,vI 181,vR (b-3),vN,vN,vN,vN,vI (a-2),vI d,vS "/claim/cut.py" (a-1)])::({cls:=ü "frame",slots:=#[b3 (vR<|b-2),b3 (vR 3),b3 (vR<|b-5),b4,b3 (vS "creasecourt.errors" 187),b4,b3 (vR 0)]})::(tO #[])::({cls:=ü "dict",data:=ϰ #[eO P "__module__" a (vS "creasecourt.errors" 187),eO P "__firstlineno__" (a+4) (Ĥ d<|a+3),eR P "__static_attributes__" (a+5) b,eO P "__doc__" (a+6) vN] 2})::({cls:=ü "type",data:=Nt {name:=ű c,bases:=[vR 24],mro:=[vR<|b+2,vR 24,ü "ValueError",ü "Exception",ü "BaseException",ü "object"],ns:=(b+1),qualname:=ű c},slots:=#[b3 (vR<|b-7),b4,b3 (vS c<|a-7),b3 (vS c<|a+1),b3 (Ϟ "ValueError.__new__"),b3 (Η dI)]})::({cls:=ü "super",data:=ŋ #[vR (b+2),vR (b+2),vR (b+2)]})::({cls:=ü "builtin_function_or_method",data:=ŋ #[Ϟ "object.__init_subclass__",vR (b+2)]})::R
open PySem.W in
abbrev Br(P:ϑ)(a:Nat)(c:String)(d:Nat)(b:Nat)(h:List String)(g:String)(e:Nat)(i:List String)(R:List Obj):List Obj:=(tO #[vR 24])::({cls:=ü "builtin_function_or_method",data:=ŋ #[Ϟ "type.__prepare__",ü "type"]})::({cls:=ü "dict",data:=ϰ #[eO P "__module__" a (vS "creasecourt.errors" 187),eO P "__qualname__" (a+2) (vS c<|a+1),eO P "__firstlineno__" (a+4) (Ĥ d<|a+3),eR P "__init__" (a+12) b,eR P "__static_attributes__" (a+14) (b+1)] 5})::(tO #[])::({cls:=vN,data:=ŋ #[vI (d+2),vI 4,vR (b-1)]})::(cO #[vS c (a-5),vS c (a-4),vS "/claim/cut.py" (a-3),vI d,vI 0,vI 0,vI 0,vI 0,vR (b-10),Η b5,vI 181,vR (b-9),vN,vN,vN,vN,vI (a-2),vI d,vS "/claim/cut.py" (a-1)])::({cls:=ü "frame",slots:=#[b3 (vR<|b-8),b3 (vR 3),b3 (vR<|b-11),b4,b3 (vS "creasecourt.errors" 187),b4,b3 (vR 0)]})::(tO #[])::({cls:=vN,data:=ŋ #[]})::(tN h<|a+8)::(tO #[])::(⟨vN,b4,.func<|{ώ "__init__" g (k7<|sY e 0) (iJ<|sY e 0) (dM<|sY e 0) vN vN vN vN (b4) vN vN with globals:=0},#[]⟩)::(cO #[vS "__init__" (a+5),vS g (a+6),vS "/claim/cut.py" (a+7),vI (d+2),vI 2,vI 0,vI 0,vI 3,vR (b-6),Η dI,vI 181,vR (b-5),vN,vR (b-4),vR (b-3),vR (b-2),vI (a+10),vI (d+2),vS "/claim/cut.py" (a+11)])::(⟨ü "function",b4,.func<|ώ "__init__" g (k7<|sY e 0) (iJ<|sY e 0) (dM<|sY e 0) vN vN vN (vS "creasecourt.errors" 187) (b4) (vR<|b-1) vN,#[]⟩)::(tN i<|a+13)::({cls:=ü "dict",data:=ϰ #[eO P "__module__" a (vS "creasecourt.errors" 187),eO P "__firstlineno__" (a+4) (Ĥ d<|a+3),eR P "__init__" (a+12) b,eR P "__static_attributes__" (a+14) (b+1),eO P "__doc__" (a+15) vN] 2})::({cls:=ü "type",data:=Nt {name:=ű c,bases:=[vR 24],mro:=[vR<|b+3,vR 24,ü "ValueError",ü "Exception",ü "BaseException",ü "object"],ns:=(b+2),qualname:=ű c},slots:=#[b3 (vR<|b-13),b4,b3 (vS c<|a-7),b3 (vS c<|a+1),b3 (Ϟ "ValueError.__new__"),b3 (Η dI)]})::({cls:=ü "super",data:=ŋ #[vR (b+3),vR (b+3),vR (b+3)]})::({cls:=ü "builtin_function_or_method",data:=ŋ #[Ϟ "object.__init_subclass__",vR (b+3)]})::R
open PySem.W in
abbrev b6(h:List String)(b:Nat)(c:String)(d:Nat)(e:Nat)(i:Nat)(a:Nat)(g:Nat)(j:String)(k:Nat)(R:List Obj):List Obj:=(tO #[])::({cls:=vN,data:=ŋ #[]})::(tN h b)::(tO #[])::(⟨vN,b4,.func<|{ώ c c (k7<|aU d) (iJ<|aU d) (dM<|aU d) vN vN vN vN (b4) vN vN with globals:=0},#[]⟩)::(kO c "/claim/cut.py" (b-3) (b-2) (b-1) e i 0 0 3 a 181 #[vR (a+1),vN,vR (a+2),vR (a+3),vR (a+4)] g e<|g+1)::(fO c d (vS j k)<|a+5)::R
open PySem.W in
abbrev gC(b:String)(c:Nat)(a:Nat)(e:Nat)(g:Nat)(d:Nat)(h:String)(i:Nat)(R:List Obj):List Obj:=(tO #[])::({cls:=vN,data:=ŋ #[]})::(⟨vN,b4,.func<|{ώ b b (k7<|aU c) (iJ<|aU c) (dM<|aU c) vN vN vN vN (b4) vN vN with globals:=0},#[]⟩)::(kO b "/claim/cut.py" a (a+1) (a+2) e g 0 0 3 d 181 #[vR (d+1),vN,vN,vN,vR (d+2)] (a+3) e<|a+4)::(fO b c (vS h i)<|d+3)::R
open PySem.W in
abbrev xO(b:Nat)(a:Nat)(c:Nat)(R:List Obj):List Obj:=(tO #[Ĥ b a,Ĥ c (a+1)])::R
open PySem.W in
abbrev lN(P:ϑ):List DictEntry:=[eO P "__doc__" 166 vN,eO P "__package__" 167 vN,eO P "__loader__" 168<|Ϟ "__main__.__loader__#opaque",eO P "__spec__" 169 vN,eR P "__annotations__" 170 6,eR P "__builtins__" 171 4,eO P "__file__" 173<|vS "/claim/cut.py" 172,eO P "__cached__" 174 vN,eR P "CreaseError" 206 24,eR P "NoSize" 222 37,eR P "NoMark" 238 49,eR P "NoEdge" 263 68,eR P "Twice" 288 87,eR P "Barred" 313 106,eR P "EIGHT_EDGES" 338 117,eR P "FOUR_EDGES" 351 122,eR P "is_whole" 358 129,eR P "is_place" 365 136,eR P "is_corner" 372 143,eR P "is_edge" 379 150,eR P "is_quarter" 386 157,eR P "beside" 395 164,eR P "sides_of" 401 169,eR P "moved_by" 407 174,eR P "edges_round" 414 181,eR P "MARKS" 420 182,eR P "is_size" 427 189,eR P "check_size" 435 196,eR P "is_mark" 442 203,eR P "is_within" 451 210,eR P "places_within" 457 215,eR P "edges_in" 463 220,eR P "corners_in" 469 225,eR P "is_inner_edge" 478 232,eR P "sheet_of" 490 239,eR P "marks_in" 497 246,eR P "is_good" 505 251,eR P "creases_at" 513 256,eR P "gaps_at" 519 261,eR P "barred" 527 268,eR P "check_corners" 535 275,eR P "led" 547 282,eR P "is_turned" 554 289,eR P "edges_laid" 566 296,eR P "heights_in" 579 303,eR P "quarters_at" 585 308,eR P "joined_at" 591 313,eR P "count_between" 597 318,eR P "is_above" 606 325,eR P "crosses" 617 332,eR P "crossing_at" 623 337,eR P "crossing" 636 344,eR P "turned_first" 645 351,eR P "mark_by_heights" 655 358,eR P "marks_by" 661 363,eR P "keeps" 672 370,eR P "tie_of" 684 377,eR P "is_least" 692 384,eR P "ties_of_gap" 703 391,eR P "ties_at" 715 398,eR P "ties" 724 405,eR P "TURNED" 733 406,eR P "walked_back" 740 413,eR P "steps_from" 749 420,eR P "is_marked" 756 427,eR P "marked_creases" 762 432,eR P "last_steps" 775 439,eR P "way_by" 785 446,eR P "is_alike" 791 451,eR P "back_by" 797 456,eR P "round_by_step" 805 463,eR P "round_within" 819 470,eR P "round_of" 831 477,eR P "carried_mark" 842 484,eR P "carried" 848 489,eR P "_law_given" 859 496,eR P "_law_number" 869 503,eR P "_law_quarters" 880 510,eR P "_law_rims" 891 517,eR P "_law_beside" 900 524,eR P "_law_value" 910 531,eR P "_law_mirror" 919 538,eR P "_law_led" 935 545,eR P "_law_then" 956 552,eR P "_law_fold" 962 557,eR P "_law_grown" 982 564,eR P "_law_creased" 995 571,eR P "_law_ranks" 1006 578,eR P "_law_marks" 1028 585,eR P "_law_opened" 1041 592,eR P "law" 1047 597]
abbrev lM:gw:=List.flatMap (λp:Nat×Nat=>[vI p.1,vI 0,vR p.2]) [(2,20),(4,33),(6,45),(8,57),(13,76),(18,95),(26,128),(28,135),(30,142),(32,149),(36,156),(40,163),(44,168),(46,173),(48,180),(52,188),(54,195),(57,202),(59,209),(61,214),(66,219),(68,224),(70,231),(72,238),(85,245),(88,250),(95,255),(98,260),(105,267),(110,274),(115,281),(119,288),(122,295),(128,302),(134,307),(136,312),(138,317),(142,324),(144,331),(151,336),(159,343),(165,350),(170,357),(173,362),(176,369),(182,376),(184,383),(186,390),(192,397),(202,404),(210,412),(212,419),(218,426),(220,431),(222,438),(234,445),(241,450),(243,455),(245,462),(247,469),(258,476),(269,483),(275,488),(280,495),(285,502),(294,509),(301,516),(308,523),(315,530),(318,537),(321,544),(325,551),(330,556),(351,563),(365,570),(372,577),(378,584),(387,591),(394,596)]
open PySem.W in
abbrev lB(P:ϑ):List Obj:=(((lA P).set 3<|{cls:=ü "dict",data:=ϰ (č<|eO P "__name__" 165 (vS "creasecourt.places" 314)::(lN P).take 14) 15}).set 12<|{cls:=vN,data:=ŋ<|č<|lM.take 18})++((tO #[ü "ValueError"])::(({cls:=ü "builtin_function_or_method",data:=ŋ #[Ϟ "type.__prepare__",ü "type"]})::(({cls:=ü "dict",data:=ϰ #[eO P "__module__" 196 (vS "creasecourt.errors" 187),eO P "__qualname__" 198 (vS "CreaseError" 197),eO P "__firstlineno__" 200 (Ĥ 2 199),eR P "__static_attributes__" 201 22] 4})::((tO #[])::(({cls:=vN,data:=ŋ #[]})::((cO #[vS "CreaseError" 191,vS "CreaseError" 192,vS "/claim/cut.py" 193,vI 2,vI 0,vI 0,vI 0,vI 0,vR 18,Η b5,vI 181,vR 19,vN,vN,vN,vN,vI 194,vI 2,vS "/claim/cut.py" 195])::(({cls:=ü "frame",slots:=#[b3 (vR 20),b3 (vR 3),b3 (vR 17),b4,b3 (vS "creasecourt.errors" 187),b4,b3 (vR 0)]})::((tO #[])::(({cls:=ü "dict",data:=ϰ #[eO P "__module__" 196 (vS "creasecourt.errors" 187),eO P "__firstlineno__" 200 (Ĥ 2 199),eR P "__static_attributes__" 201 22,eR P "__weakref__" 203 25,eO P "__doc__" 204 vN] 3})::(({cls:=ü "type",data:=Nt {name:=ű "CreaseError",bases:=[ü "ValueError"],mro:=[vR 24,ü "ValueError",ü "Exception",ü "BaseException",ü "object"],ns:=23,qualname:=ű "CreaseError",subclasses:=[vR 37,vR 49,vR 68,vR 87,vR 106]},slots:=#[b3 (vR 15),b4,b3 (vS "CreaseError" 189),b3 (vS "CreaseError" 197),b3 (Ϟ "ValueError.__new__"),b3 (Η dI)]})::(({cls:=ü "getset_descriptor",data:=ŋ #[vS "__weakref__" 202,vR 24,Ϟ "ExceptionGroup.__weakref__",vN]})::(({cls:=ü "super",data:=ŋ #[vR 24,vR 24,vR 24]})::(({cls:=ü "builtin_function_or_method",data:=ŋ #[Ϟ "object.__init_subclass__",vR 24]})::(Fy P 214 "NoSize" 4 35<|Fy P 230 "NoMark" 6 47<|Br P 246 "NoEdge" 8 65 ["self","edge"] "NoEdge.__init__" 4 ["edge"]<|Br P 271 "Twice" 13 84 ["self","edge"] "Twice.__init__" 5 ["edge"]<|Br P 296 "Barred" 18 103 ["self","corner"] "Barred.__init__" 6 ["corner"] []))))))))))))))
open PySem.W in
abbrev lC(P:ϑ):List Obj:=(((lB P).set 3<|{cls:=ü "dict",data:=ϰ (č<|eO P "__name__" 165 (vS "creasecourt.piles" 567)::(lN P).take 50) 51}).set 12<|{cls:=vN,data:=ŋ<|č<|lM.take 117})++(xO 2 316 0<|xO 1 318 1<|xO 0 320 2<|(tO #[Ĥ (-1) 323,Ĥ 1 324])::((tO #[Ĥ (-2) 326,Ĥ 0 327])::((tO #[Ĥ (-1) 329,Ĥ (-1) 331])::((tO #[Ĥ 0 332,Ĥ (-2) 334])::((tO #[Ĥ 1 335,Ĥ (-1) 337])::((tO #[vR 109,vR 110,vR 111,vR 112,vR 113,vR 114,vR 115,vR 116])::(xO 1 339 1<|(tO #[Ĥ (-1) 342,Ĥ 1 343])::((tO #[Ĥ (-1) 345,Ĥ (-1) 347])::((tO #[Ĥ 1 348,Ĥ (-1) 350])::((tO #[vR 118,vR 119,vR 120,vR 121])::(b6 ["value"] 355 "is_whole" 10 26 1 123 356 "creasecourt.places" 314<|b6 ["value"] 362 "is_place" 11 28 1 130 363 "creasecourt.places" 314<|b6 ["place"] 369 "is_corner" 12 30 1 137 370 "creasecourt.places" 314<|b6 ["place"] 376 "is_edge" 13 32 1 144 377 "creasecourt.places" 314<|b6 ["place"] 383 "is_quarter" 14 36 1 151 384 "creasecourt.places" 314<|b6 ["place","x","y"] 390 "beside" 15 40 1 158 393 "creasecourt.places" 314<|gC "sides_of" 16 396 44 1 165 "creasecourt.places" 314<|gC "moved_by" 17 402 46 2 170 "creasecourt.places" 314<|b6 ["corner"] 411 "edges_round" 18 48 1 175 412 "creasecourt.places" 314<|(tN ["h","v","o"] 417)::(b6 ["value"] 424 "is_size" 21 52 1 183 425 "creasecourt.sheets" 415<|b6 ["wide","high"] 431 "check_size" 22 54 2 190 433 "creasecourt.sheets" 415<|b6 ["value"] 439 "is_mark" 23 57 1 197 440 "creasecourt.sheets" 415<|b6 ["wide","high","place"] 446 "is_within" 24 59 3 204 449 "creasecourt.sheets" 415<|gC "places_within" 25 452 61 2 211 "creasecourt.sheets" 415<|gC "edges_in" 26 458 66 2 216 "creasecourt.sheets" 415<|gC "corners_in" 27 464 68 2 221 "creasecourt.sheets" 415<|b6 ["wide","high","value"] 473 "is_inner_edge" 28 70 3 226 476 "creasecourt.sheets" 415<|b6 ["wide","high","creases","marks","crease","edge"] 482 "sheet_of" 29 72 3 233 488 "creasecourt.sheets" 415<|b6 ["sheet"] 494 "marks_in" 30 85 1 240 495 "creasecourt.sheets" 415<|gC "is_good" 32 500 88 1 247 "creasecourt.wedges" 498<|gC "creases_at" 34 508 95 2 252 "creasecourt.corners" 506<|gC "gaps_at" 35 514 98 2 257 "creasecourt.corners" 506<|b6 ["sheet","corner"] 523 "barred" 36 105 1 262 525 "creasecourt.corners" 506<|b6 ["sheet","corner"] 531 "check_corners" 37 110 1 269 533 "creasecourt.corners" 506<|b6 ["laying","place","x","y"] 541 "led" 39 115 2 276 545 "creasecourt.layings" 536<|b6 ["laying"] 551 "is_turned" 40 119 1 283 552 "creasecourt.layings" 536<|b6 ["sheet","layings","told","edge"] 560 "edges_laid" 42 122 2 290 564 "creasecourt.laid" 555<|b6 ["piles","heights","pile","height","quarter"] 572 "heights_in" 44 128 1 297 577 "creasecourt.piles" 567<|gC "quarters_at" 45 580 134 3 304 "creasecourt.piles" 567<|gC "joined_at" 46 586 136 3 309 "creasecourt.piles" 567<|gC "count_between" 47 592 138 3 314 "creasecourt.piles" 567<|b6 ["heights","one","other"] 601 "is_above" 48 142 3 319 604 "creasecourt.piles" 567<|b6 ["heights","one","other","ours","theirs"] 610 "crosses" 49 144 3 326 615 "creasecourt.piles" 567 []))))))))))))
open PySem.W in
abbrev lD(P:ϑ):List Obj:=(((lC P).set 3<|{cls:=ü "dict",data:=ϰ (č<|eO P "__name__" 165 (vS "law_creasecourt_k65_whole_ties_hold" 849)::(lN P).take 91) 92}).set 12<|{cls:=vN,data:=ŋ<|č<|lM.take 237})++(gC "crossing_at" 50 618 151 4 333 "creasecourt.piles" 567<|b6 ["sheet","layings","piles","heights","pairs","place","edges"] 627 "crossing" 51 159 3 338 634 "creasecourt.piles" 567<|b6 ["layings","edge","sides"] 640 "turned_first" 52 165 2 345 643 "creasecourt.piles" 567<|b6 ["heights","layings","edge","sides"] 649 "mark_by_heights" 53 170 3 352 653 "creasecourt.piles" 567<|gC "marks_by" 54 656 173 3 359 "creasecourt.piles" 567<|b6 ["sheet","layings","piles","crease","told"] 665 "keeps" 55 176 3 364 670 "creasecourt.piles" 567<|b6 ["one","other","alike","corner"] 678 "tie_of" 57 182 4 371 682 "creasecourt.ties" 673<|b6 ["gaps","k"] 688 "is_least" 58 184 2 378 690 "creasecourt.ties" 673<|b6 ["creases","k","corner","count","told"] 696 "ties_of_gap" 59 186 3 385 701 "creasecourt.ties" 673<|b6 ["sheet","corner","creases","gaps","told","k"] 707 "ties_at" 60 192 2 392 713 "creasecourt.ties" 673<|b6 ["sheet","told","corner"] 719 "ties" 61 202 1 399 722 "creasecourt.ties" 673<|({cls:=ü "dict",data:=ϰ #[eO P "h" 727 (vS "v" 728),eO P "v" 729 (vS "h" 730)] 2})::(b6 ["step"] 737 "walked_back" 64 210 1 407 738 "creasecourt.carried" 725<|b6 ["sheet","steps","tie"] 744 "steps_from" 65 212 1 414 747 "creasecourt.carried" 725<|b6 ["mark"] 753 "is_marked" 66 218 1 421 754 "creasecourt.carried" 725<|gC "marked_creases" 67 757 220 1 428 "creasecourt.carried" 725<|b6 ["steps","starts","reached","start","due","here","step"] 766 "last_steps" 68 222 2 433 773 "creasecourt.carried" 725<|b6 ["reached","edge","way","step"] 779 "way_by" 69 234 2 440 783 "creasecourt.carried" 725<|gC "is_alike" 70 786 241 1 447 "creasecourt.carried" 725<|gC "back_by" 71 792 243 1 452 "creasecourt.carried" 725<|b6 ["reached","step"] 801 "round_by_step" 72 245 2 457 803 "creasecourt.carried" 725<|b6 ["steps","marks","start","reached","edge","way","step","found"] 809 "round_within" 73 247 3 464 817 "creasecourt.carried" 725<|b6 ["sheet","steps","marks","seen","start","found"] 823 "round_of" 74 258 1 471 829 "creasecourt.carried" 725<|b6 ["marks","reached","edge","way","first"] 835 "carried_mark" 75 269 3 478 840 "creasecourt.carried" 725<|gC "carried" 76 843 275 1 485 "creasecourt.carried" 725<|b6 ["_law_script","_law_k","_law_more"] 854 "_law_given" 78 280 2 490 857 "law_creasecourt_k65_whole_ties_hold" 849<|b6 ["_law_script","_law_k","_law_cell","_law_j"] 863 "_law_number" 79 285 2 497 867 "law_creasecourt_k65_whole_ties_hold" 849<|b6 ["_law_wide","_law_high","_law_found","_law_x","_law_y"] 873 "_law_quarters" 80 294 2 504 878 "law_creasecourt_k65_whole_ties_hold" 849<|b6 ["_law_wide","_law_high","_law_found","_law_x","_law_y"] 884 "_law_rims" 81 301 2 511 889 "law_creasecourt_k65_whole_ties_hold" 849<|b6 ["_law_rim","_law_x","_law_y"] 895 "_law_beside" 82 308 1 518 898 "law_creasecourt_k65_whole_ties_hold" 849<|b6 ["_law_place","_law_kind","_law_x","_law_y"] 904 "_law_value" 83 315 2 525 908 "law_creasecourt_k65_whole_ties_hold" 849<|b6 ["_law_kind","_law_n","_law_some"] 914 "_law_mirror" 84 318 2 532 917 "law_creasecourt_k65_whole_ties_hold" 849<|b6 ["_law_way","_law_place","_law_a","_law_b","_law_c","_law_d","_law_e","_law_f","_law_x","_law_y"] 923 "_law_led" 85 321 2 539 933 "law_creasecourt_k65_whole_ties_hold" 849<|b6 ["_law_one","_law_other","_law_a","_law_b","_law_c","_law_d","_law_e","_law_f","_law_p","_law_q","_law_r","_law_s","_law_t","_law_u","_law_turn"] 939 "_law_then" 86 325 2 546 954 "law_creasecourt_k65_whole_ties_hold" 849<|gC "_law_fold" 87 957 330 6 553 "law_creasecourt_k65_whole_ties_hold" 849<|b6 ["_law_script","_law_wide","_law_high","_law_first","_law_many","_law_ways","_law_heaps","_law_quarter","_law_k","_law_number_here","_law_kind","_law_places","_law_value_here","_law_way"] 966 "_law_grown" 88 351 5 558 980 "law_creasecourt_k65_whole_ties_hold" 849<|b6 ["_law_ways","_law_wide","_law_high","_law_found","_law_rim","_law_one","_law_other"] 986 "_law_creased" 89 365 3 565 993 "law_creasecourt_k65_whole_ties_hold" 849<|b6 ["_law_heaps","_law_ranks_here","_law_place","_law_k","_law_quarter"] 999 "_law_ranks" 90 372 1 572 1004 "law_creasecourt_k65_whole_ties_hold" 849<|b6 ["_law_ways","_law_heaps","_law_wide","_law_high","_law_ranks_here","_law_found","_law_rim","_law_one","_law_other","_law_a","_law_b","_law_c","_law_d","_law_e","_law_f","_law_higher"] 1010 "_law_marks" 91 378 4 579 1026 "law_creasecourt_k65_whole_ties_hold" 849<|b6 ["_law_due","_law_script","_law_found","_law_share","_law_rim","_law_mark","_law_draw"] 1032 "_law_opened" 92 387 2 586 1039 "law_creasecourt_k65_whole_ties_hold" 849<|gC "law" 93 1042 394 1 593 "law_creasecourt_k65_whole_ties_hold" 849 []))
abbrev As:List Addr:=[3,109,110,111,112,113,114,115,116,117,118,119,120,121,122,128,129,135,136,142,143,149,150,156,157,163,164,168,169,173,174,180,181,182,188,189,195,196,202,203,209,210,214,215,219,220,224,225,231,232,238,239,245,246,250,251,255,256,260,261,267,268,274,275,281,282,288,289,295,296,302,303,307,308,312,313,317,318,324,325,331,332,336,337,343,344,350,351,357,358,362,363,369,370,376,377,383,384,390,391,397,398,404,405,406,412,413,419,420,426,427,431,432,438,439,445,446,450,451,455,456,462,463,469,470,476,477,483,484,488,489,495,496,502,503,509,510,516,517,523,524,530,531,537,538,544,545,551,552,556,557,563,564,570,571,577,578,584,585,591,592,596,597]
abbrev Kx:ϑ → Ô:=λP=>As.map λa=>(a,((lD P)[a]?).getD<|tO #[])
def u7:∀P,As=(Kx P).map (·.1):=λ_=>""
abbrev vE:ı:={scope:=M2.main.scope,locals:=mainNs,globals:=mainNs,cells:=[],code:=Ö 13,frame:=b3 14}
open PySem.W PyProof.Rows in
set_option maxRecDepth 100000 in
set_option maxHeartbeats 0 in
def a9w(w:ĳ)(a:Sk):topGo Ÿ (Ł Ĺ).prog w 11 (b3<|Ö 6) 12 ⟨JF w.params,č [],ň,yl,a⟩ (topStub (Ł Ĺ).prog)=b3 (⟨⟨č<|lA w.params,{}⟩,č [],ň,187,a⟩,⟨denote Ÿ<|.body (Į (Ł Ĺ).prog) vE,(.body (Į (Ł Ĺ).prog) vE),⟨0,0,0,0⟩,[Ϙ ⟨0,0,0,0⟩]⟩):=""
open PySem.W PyProof.Rows in
set_option maxRecDepth 100000 in
set_option maxHeartbeats 0 in
def a9v(w:ĳ)(a:Sk):bc Ÿ (Ł Ĺ).prog w 11 (b3<|Ö 6) 1 1 ⟨⟨č<|lA w.params,{}⟩,č [],ň,187,a⟩ (blockOf (Į (Ł Ĺ).prog) vE (.body (Į (Ł Ĺ).prog) vE) ⟨0,0,0,0⟩ [Ϙ ⟨0,0,0,0⟩])=b3 (.next,⟨⟨č<|lA w.params,{}⟩,č [],ň,187,a⟩,(.body (Į (Ł Ĺ).prog) vE),⟨0,0,0,0⟩):=""
open PySem.W PyProof.Rows in
set_option maxRecDepth 100000 in
set_option maxHeartbeats 0 in
def a9u w a:bc Ÿ (Ł Ĺ).prog w 11 (b3<|Ö 6) 1 1366 ⟨⟨č<|lA w.params,{}⟩,č [],ň,187,a⟩ (kj ((Į (Ł Ĺ).prog).take 8) vE (.body (Į (Ł Ĺ).prog) vE) ⟨0,0,0,0⟩ [Ϙ ⟨0,0,0,0⟩])=b3 (.next,⟨⟨č<|lB w.params,{}⟩,č [],ň,316,a⟩,(.body (Į (Ł Ĺ).prog) vE),⟨23,0,23,8⟩):=""
open PySem.W PyProof.Rows in
set_option maxRecDepth 100000 in
set_option maxHeartbeats 0 in
def b2r w a:bc Ÿ (Ł Ĺ).prog w 11 (b3<|Ö 6) 1 1140 ⟨⟨č<|lB w.params,{}⟩,č [],ň,316,a⟩ (kj (((Į (Ł Ĺ).prog).drop 8).take 42) vE (.body (Į (Ł Ĺ).prog) vE) ⟨23,0,23,8⟩ [Ϙ ⟨0,0,0,0⟩])=b3 (.next,⟨⟨č<|lC w.params,{}⟩,č [],ň,618,a⟩,(.body (Į (Ł Ĺ).prog) vE),⟨144,0,150,97⟩):=""
open PySem.W PyProof.Rows in
set_option maxRecDepth 100000 in
set_option maxHeartbeats 0 in
def b2q b(w:ĳ)a:bc Ÿ (Ł Ĺ).prog (w.withFollow "special-get-raises" b) 11 (b3<|Ö 6) 1 1349 ⟨⟨č<|lC (w.withFollow "special-get-raises" b).params,{}⟩,č [],ň,618,a⟩ (kj ((((Į (Ł Ĺ).prog).drop 8).drop 42).take 44) vE (.body (Į (Ł Ĺ).prog) vE) ⟨144,0,150,97⟩ [Ϙ ⟨0,0,0,0⟩])=b3 (.next,⟨⟨č<|lD (w.withFollow "special-get-raises" b).params,{}⟩,č [],ň,1048,a⟩,(.body (Į (Ł Ĺ).prog) vE),⟨394,0,418,15⟩):=by ext b<;>kernel_rfl
open PySem.W PyProof.Rows in
set_option maxRecDepth 100000 in
set_option maxHeartbeats 0 in
def b2X w a:bc Ÿ (Ł Ĺ).prog w 11 (b3<|Ö 6) 1 1349 ⟨⟨č<|lC w.params,{}⟩,č [],ň,618,a⟩ (kj ((((Į (Ł Ĺ).prog).drop 8).drop 42).take 44) vE (.body (Į (Ł Ĺ).prog) vE) ⟨144,0,150,97⟩ [Ϙ ⟨0,0,0,0⟩])=b3 (.next,⟨⟨č<|lD w.params,{}⟩,č [],ň,1048,a⟩,(.body (Į (Ł Ĺ).prog) vE),⟨394,0,418,15⟩):=by let h:=b2q (w.params.followText "special-get-raises") w a;rw[World.withFollow_self]at h;show h
open PySem.W PyProof.Rows in
set_option maxRecDepth 100000 in
set_option maxHeartbeats 0 in
def run:LeftO (Ł Ĺ).prog Vw ["TURNED"] (λs=>xlAt Vw [] s&&recOk (QR<|RG<|Ł Ĺ) s) (Hook.obs<|yc Kx As u7) (Hook.val<|yc Kx As u7) 7830:=
 L3.left_cut (hA:=λP=>⟨č<|lA P,{}⟩) (hB:=λP=>⟨č<|lB P,{}⟩) (hC:=λP=>⟨č<|lC P,{}⟩) (hD:=λP=>⟨č<|lD P,{}⟩) (n4:=201) (i1:=8) (i2:=42) (i3:=44) (env:=vE) (boot_open "" "" λ_=>"") (λw=>"") a9w a9v a9u b2r b2X (λw a=>"") ""
open PySem.W PyProof.Rows in
set_option maxRecDepth 100000 in
set_option maxHeartbeats 0 in
def O3:Ĺ.wellSaid=true:=by decide +kernel
end Lw
set_option maxHeartbeats 4000000
namespace L3
open PySem
open PySem.SetTable (Probe Met Slot bits runEnd leap turns insertAt sizeAbove)
namespace Tb
abbrev b1z(m:Nat)(p:Probe):Probe:=
 if p.more>0 then{p with j:=p.j+1,more:=p.more-1}else
 {p with j:=(leap m p.i p.perturb).1,more:=runEnd m (leap m p.i p.perturb).1-(leap m p.i p.perturb).1,i:=(leap m p.i p.perturb).1,perturb:=(leap m p.i p.perturb).2}
abbrev b1w(m:Nat)(b:Nat):Probe:={j:=b%(m+1),more:=runEnd m (b%(m+1))-b%(m+1),i:=b%(m+1),perturb:=b,dummy:=b4}
abbrev Bs(m b:Nat):Nat->Probe
 |0=>b1w m b|k+1=>b1z m<|Bs m b k
abbrev hd(m i q:Nat):Probe:={j:=i,more:=runEnd m i-i,i:=i,perturb:=q,dummy:=b4}
abbrev nx(m i:Nat):Nat:=(i*5+1)%(m+1)
abbrev Fz(m:Nat):Nat->Nat->Nat
 |0,i=>i|n+1,i=>Fz m n<|nx m i
abbrev rA(m:Nat):Nat->Nat->Nat->Nat
 |0,_,acc=>acc|f+1,i,acc=>rA m f (nx m i)<|acc ||| (1 <<< i)
abbrev b1v(m:Nat):Bool:=rA m (m+1) 0 0==2^(m+1)-1&&Fz m (m+1) 0==0
abbrev FA(m:Nat)(S:List Nat)(b j:Nat):Prop:=∃k,(Bs m b k).j=j/\∀k',k'<k->(Bs m b k').j∈S
noncomputable abbrev xP:=Nat×Int×Value
structure Ok(t:QH)(R:List xP):Prop where
 place:t.place.toList=R.map (·.1)
 dum:t.dummies=#[]
 rise:(R.map (·.1)).Pairwise (·<·)
 le:∀r∈R,r.1<=t.mask
 cov:b1v t.mask=dI
 odd:t.mask%2=1
 room:R.length<=t.mask
 road:∀r∈R,FA t.mask (R.map (·.1)) (bits r.2.1) r.1
def Ok.size(o:Ok t R):t.place.size=R.length:=by have:=congrArg İ o.place;apply this
def Ok.getD(o:Ok t R)(hi:i<R.length):t.place.getD i 0=(R[i]).1:=by
 let h:t.place.toList[i]?=(R.map (·.1))[i]?:=by rw[o.place]
 let a:i<t.place.size:=by rw[o.size];show hi
 simp[hi,a]at h;simp[rE,a,h]
abbrev lv(m:Nat)(a:Array (Option Nat)):List (Nat×Nat):=(ą<|m+1).filterMap λj=>(a.getD j b4).map (j,·)
structure Ow(m:Nat)(ds:List Int)(ow:Array (Option Nat)):Prop where
 size:ow.size=m+1
 lt:∀j i,ow.getD j b4=b3 i->i<ds.length
 all:∀i,i<ds.length->∃j,ow.getD j b4=b3 i
 inj:∀j j' i,ow.getD j b4=b3 i->ow.getD j' b4=b3 i->j=j'
 road:∀j i,ow.getD j b4=b3 i->FA m ((lv m ow).map (·.1)) (bits<|ds.getD i 0) j
def Ow.nil m:Ow m [] (OQ (m+1) b4):=by
 let e:∀j,(OQ (m+1) (b4:Option Nat)).getD j b4=none:=λj=>by simp[rE]
 let a:∀{P:Prop}(j i:Nat),(OQ (m+1) (b4:Option Nat)).getD j b4=b3 i->P:=λj i h=>by rw[e]at h;show nomatch h
 show⟨∅,λj i h=>a j i h,λi h=>absurd h<|N0 _,λj b i h _=>a j i h,λj i h=>a j i h⟩
end Tb
end L3
namespace L3
open PySem
open PySem.SetTable (Probe Met Slot bits runEnd leap turns insertAt sizeAbove)
namespace Tb
section
variable{prog:ť}{w:ĳ}{K:Type} [DecidableEq K] {knd:KeyKind prog w K}{A:Ŧ}{E:Value->Ù->Prop}{s:Ù}
def fits_of{es:Array (Int×Value)}(o:Ok t R)(b:es.toList=R.map (·.2)):t.fits es.size=true:=by
 let h1:es.size=R.length:=by apply congrArg İ b
 let a:=o.room;ext SetTable.fits SetTable.fill;rw[o.size,h1,o.dum];simp;show a
end
noncomputable abbrev El:=List Int×Addr
abbrev hashT(k:List Int):Int:=reduceHash<|b4p<|k.map hashInt
abbrev b1u(p:El):Int×Value:=(hashT p.1,Ö p.2)
abbrev b1s(m:Nat):Prop:=m=7\/m=31\/m=127\/m=511
abbrev b1q(w:ĳ):Bool:=w.params.followText "set-order"
abbrev p9D(a:Bool)(L:List El)(o:Obj):Prop:=∃es ep t R,o.ExactSet/\o.data=.set es ep t/\es.toList=R.map (·.2)/\Ok t R/\es.toList.Perm (L.map b1u)/\(L.map (·.1)).Nodup/\b1s t.mask/\L.length*5<t.mask*3/\t.plain=dI/\t.led=a
abbrev SObj(L:List El)(o:Obj):Prop:=∃a,p9D a L o
end Tb
end L3
namespace L3
open PySem
namespace Tb
section
variable{prog:ť}{w:ĳ}{A:Ŧ}{E:Value->Ù->Prop}{s:Ù}
structure SAt(w:ĳ)(h:ñ)(a:Addr)(es:Array (Int×Value))(ep:Nat)(t:QH)(R:List xP):Prop where
 at_:∃o,h.get? a=b3 o/\o.cls=.type "set"/\o.data=.set es ep t
 he:es.toList=R.map (·.2)
 ok:Ok t R
 pl:t.plain=dI
 led:t.led=!b1q w
end
end Tb
end L3
namespace L3
open PySem L2
def bR{d g e:Type}{o:Option (d×g)}{f:d×g->Option e}{b:e}{G:Prop}(h:o.bind f=b3 b)(k:∀a c,o=b3 (a,c)->f (a,c)=b3 b->G):G:=let⟨(a,c),x,y⟩:=è.mp h;k a c x y
def u9{d g e:Type}{o:Option (d×g)}{f:d×g->e}{b:e}{G:Prop}(h:o.map f=b3 b)(k:∀a c,o=b3 (a,c)->f (a,c)=b->G):G:=let⟨(a,c),x,y⟩:=ì.mp h;k a c x y
inductive D where
 |non|bl (b:Bool)|int (i:Int)|str (x:Str)|tup (xs:List D)|rol (xs:List D)|loc (a:Nat)|ty (n:String)
 deriving Inhabited
inductive C where
 |lst (xs:List D)
 |dK (kvs:List (bM×D))
 |st (ks:List (List Int))
 |dT (kvs:List (List Int×D))
 |dF (kvs:List (List Int×D))
 deriving Inhabited
noncomputable abbrev Hm:=List C
noncomputable abbrev aG:=List<|Option D
noncomputable abbrev ME:=aG->Hm->Option (D×Hm)
noncomputable abbrev MT:=aG->Hm->Option (Bool×Hm)
noncomputable abbrev MA:=aG->Hm->Option (List D×Hm)
@[reducible]def jk:=Option<|D×Hm
@[reducible]def jx:=List<|List Int×D
@[reducible]def jz:=D×Hm->Prop
inductive Fl where
 |nx|rt (d:D)|bk|ct
noncomputable abbrev MS:=aG->Hm->Option (Fl×aG×Hm)
noncomputable abbrev MF:=List D->Hm->jk
abbrev aj(K:Ô)(H:Hp)(p:Addr)(xs:gz):Prop:=
 (∃o,H p=b3 (.frz o<|.lst xs)) \/
  ∃(o:Obj)(its:Array Value)(n:Nat),K.lookup p=b3 o/\o.cls=.type "list"/\o.dict=b4/\o.data=.seq its n/\its.size<=Ò/\Å xs its.toList
def aj.sq(h:aj K H p xs):Ĉ K H p xs:=by
 rcases h with⟨o,h⟩|h
 .show .inl<|.inr ⟨o,h⟩
 .show .inr h
mutual
inductive Ú (K:Ô)(π:Nat->Addr)(n:Nat)(H:Hp):V->D->Prop where
 |non:Ú K π n H .non .non
 |bl (b:Bool):Ú K π n H (.bl b)<|.bl b
 |int (i:Int):Ú K π n H (.int i)<|.int i
 |str (x:Str):Ú K π n H (.str x)<|.str x
 |tup {p:Addr}{vs:gz}{ds:List D}(h:ç K H p vs)(t:Ç K π n H vs ds):Ú K π n H (.ref p)<|.tup ds
 |rol {p:Addr}{vs:gz}{ds:List D}(h:aj K H p vs)(t:Ç K π n H vs ds):Ú K π n H (.ref p)<|.rol ds
 |loc {a:Nat}(h:a<n):Ú K π n H (.ref<|π a)<|.loc a
 |ty (x:String):Ú K π n H (.ty x)<|.ty x
inductive Ç (K:Ô)(π:Nat->Addr)(n:Nat)(H:Hp):gz->List D->Prop where
 |nil:Ç K π n H [] []
 |cons {v:V}{d:D}{vs:gz}{ds:List D}(h:Ú K π n H v d)(t:Ç K π n H vs ds):Ç K π n H (v::vs)<|d::ds
end
structure õ(π:Nat->Addr)(n:Nat)(H:Hp)(π':Nat->Addr)(n':Nat)(H':Hp):Prop where
 le:n<=n'
 pi:∀a,a<n->π' a=π a
 tup:∀p vs,H p=b3 (.tup vs)->H' p=b3 (.tup vs)
 frz:∀p o u,H p=b3 (.frz o u)->H' p=b3 (.frz o u)
structure œ(π:Nat->Addr)(n:Nat)(H:Hp)(π':Nat->Addr)(n':Nat)(H':Hp):Prop where
 le:n<=n'
 pi:∀a,a<n->π' a=π a
 tup:∀p vs,H p=b3 (.tup vs)->H' p=b3 (.tup vs)
 frz:∀p o u,(∀φ,u≠HO.ext φ)->H p=b3 (.frz o u)->H' p=b3 (.frz o u)
section
variable{K:Ô}{π π' π2:Nat->Addr}{n n' n2:Nat}{H H' H2:Hp}
def õ.weak(e:õ π n H π' n' H'):œ π n H π' n' H':=⟨e.le,e.pi,e.tup,λp o u _ h=>e.frz p o u h⟩
def õ.refl:õ π n H π n H:=⟨Ø _,λ_ _=>rfl,λ_ _ h=>h,λ_ _ _ h=>h⟩
def õ.trans(a:õ π n H π' n' H')(b:õ π' n' H' π2 n2 H2):õ π n H π2 n2 H2:=
 ⟨Ģ a.le b.le,λi h=>(b.pi i<|Ļ h a.le).trans<|a.pi i h,λp c h=>b.tup p c<|a.tup p c h,λp o u h=>b.frz p o u<|a.frz p o u h⟩
def œ.sqT(e:œ π n H π' n' H')(h:ç K H p vs):ç K H' p vs:=by
 rcases h with h|h
 .rcases h with h|⟨o,h⟩
  .show .inl<|.inl<|e.tup _ _ h
  .show .inl<|.inr ⟨o,e.frz _ _ _ (λ_ z=>nomatch z) h⟩
 .show .inr h
def õ.sqT(e:õ π n H π' n' H')(h:ç K H p vs):ç K H' p vs:=e.weak.sqT h
def œ.roL(e:œ π n H π' n' H')(h:aj K H p vs):aj K H' p vs:=by
 rcases h with⟨o,h⟩|h
 .show .inl ⟨o,e.frz _ _ _ (λ_ z=>nomatch z) h⟩
 .show .inr h
def õ.roL(e:õ π n H π' n' H')(h:aj K H p vs):aj K H' p vs:=e.weak.roL h
mutual
theorem Ú.mono0{v:V}{d:D}(e:œ π n H π' n' H'):Ú K π n H v d->Ú K π' n' H' v d
 |.non=>.non|.bl b=>.bl b|.int i=>.int i|.str x=>.str x|.ty x=>.ty x|.tup h t=>.tup (e.sqT h) (Ç.mono0 e t)|.rol h t=>.rol (e.roL h) (Ç.mono0 e t)|.loc h=>by rw[<- e.pi _ h];show .loc<|Ļ h e.le
theorem Ç.mono0{vs:gz}{ds:List D}(e:œ π n H π' n' H'):Ç K π n H vs ds->Ç K π' n' H' vs ds
 |.nil=>.nil|.cons h t=>.cons (Ú.mono0 e h)<|Ç.mono0 e t
end
def Ú.mono(e:õ π n H π' n' H')(h:Ú K π n H v d):Ú K π' n' H' v d:=h.mono0 e.weak
def Ç.mono(e:õ π n H π' n' H')(h:Ç K π n H vs ds):Ç K π' n' H' vs ds:=h.mono0 e.weak
def Ç.length(h:Ç K π n H vs ds):vs.length=ds.length:=by
 induction ds generalizing vs with
 |nil=>ext h;rfl|cons d ds a=>
  cases h with
  |cons h t=>rw[Ŋ,Ŋ,a t]
def Ç.get(h:Ç K π n H vs ds){i:Nat}(e:ds[i]?=b3 d):∃v,vs[i]?=b3 v/\Ú K π n H v d:=by
 induction ds generalizing vs i with
 |nil=>simp at e|cons c ds b=>
  cases h with
  |cons h t=>
   cases i with
   |zero=>simp at e;subst e;show⟨_,rfl,h⟩|succ i=>let⟨v,h1,a⟩:=b t (by apply e);show⟨v,by apply h1,a⟩
def Ç.append(h:Ç K π n H vs ds)(a:Ç K π n H ws es):Ç K π n H (vs++ws) (ds++es):=by
 induction ds generalizing vs with
 |nil=>ext h;show a|cons d ds b=>
  cases h with
  |cons h t=>show .cons h<|b t
def Ç.drop(h:Ç K π n H vs ds)k:Ç K π n H (vs.drop k) (ds.drop k):=by
 induction ds generalizing vs k with
 |nil=>ext h;apply Ç.nil|cons d ds a=>
  cases h with
  |cons h t=>
   cases k with
   |zero=>show .cons h t|succ k=>show a t k
def Ç.take(h:Ç K π n H vs ds)k:Ç K π n H (vs.take k) (ds.take k):=by
 induction ds generalizing vs k with
 |nil=>ext h;apply Ç.nil|cons d ds a=>
  cases h with
  |cons h t=>
   cases k with
   |zero=>show .nil|succ k=>show .cons h<|a t k
def Ç.atI(h:Ç K π n H vs ds)(e:L2.atI ds i=b3 d):∃v,L2.atI vs i=b3 v/\Ú K π n H v d:=by
 unfold L2.atI at e ⊢;rw[h.length];cases q:mH ds.length i with
 |none=>rw[q]at e;ext e|some j=>rw[q]at e;show h.get e
end
abbrev xQ(p:Addr)(L:List Tb.El):HO:=.ext λh=>∃o,h.get? p=b3 o/\Tb.SObj L o
abbrev xR(p:List Int×Addr×V)(w:Value):DictEntry:=⟨Tb.hashT p.1,.ref p.2.1,w⟩
abbrev aT(a:Addr)(ps:List (List Int×Addr×V)):HO:=.ext λh=>∃ws:gw,Å (ps.map (·.2.2)) ws/\(a==ľ)=b5/\ps.length<=Ò /\
 ∃o b c,h.get? a=b3 o/\o.ExactDict/\o.data=.dict b c/\b.toList=yt xR ps ws/\(ps.map (·.1)).Nodup
structure Rp(K:Ô)(π:Nat->Addr)(H:Hp)(μ:Hm):Prop where
 inj:∀a b,a<μ.length->b<μ.length->π a=π b->a=b
 has:∀a,a<μ.length->(H<|π a).isSome=dI
 lst:∀a xs,μ[a]?=b3 (.lst xs)->∃vs,H (π a)=b3 (.lst vs)/\Ç K π μ.length H vs xs
 dK:∀a kvs,μ[a]?=b3 (.dK kvs)->∃vs,H (π a)=b3 (.dK vs)/\vs.map (·.1)=kvs.map (·.1)/\Ç K π μ.length H (vs.map (·.2)) (kvs.map (·.2))
 st:∀a ks,μ[a]?=b3 (.st ks)->∃L:List Tb.El,H (π a)=b3 (xQ (π a) L)/\L.map (·.1)=ks/\Ç K π μ.length H (L.map λp=>V.ref p.2) (ks.map λk=>D.tup<|k.map D.int)
 dT:∀a kvs,μ[a]?=b3 (.dT kvs)->∃ps:List (List Int×Addr×V),H (π a)=b3 (aT (π a) ps)/\ps.map (·.1)=kvs.map (·.1)/\Ç K π μ.length H (ps.map λp=>V.ref p.2.1) (kvs.map λk=>D.tup<|k.1.map D.int)/\Ç K π μ.length H (ps.map (·.2.2)) (kvs.map (·.2))
 dF:∀a kvs,μ[a]?=b3 (.dF kvs)->∃(ob:Obj)(ps:List (List Int×Addr×V)),H (π a)=b3 (.frz ob<|aT (π a) ps)/\ps.map (·.1)=kvs.map (·.1)/\Ç K π μ.length H (ps.map λp=>V.ref p.2.1) (kvs.map λk=>D.tup<|k.1.map D.int)/\Ç K π μ.length H (ps.map (·.2.2)) (kvs.map (·.2))
structure En(K:Ô)(π:Nat->Addr)(n:Nat)(H:Hp)(σ:St)(ρ:aG):Prop where
 len:σ.length=ρ.length
 get:∀(i:Nat)(d:D),ρ[i]?=b3 (b3 d)->∃v,σ[i]?=b3 (b3 v)/\Ú K π n H v d
def En.mono(E:En K π n H σ ρ)(e:õ π n H π' n' H'):En K π' n' H' σ ρ:=
 ⟨E.len,λi d h=>let⟨v,h1,a⟩:=E.get i d h;⟨v,h1,a.mono e⟩⟩
def En.set(E:En K π n H σ ρ)(h:Ú K π n H v d)i:En K π n H (σ.set i<|b3 v) (ρ.set i<|b3 d):=by
 show⟨by rw[Ź,Ź];show E.len,λj c e=>?_⟩;rw[List.getElem?_set]at e ⊢;by_cases a:i=j
 .subst a;rw[if_pos rfl]at e ⊢;rw[E.len];by_cases b:i<ρ.length
  .rw[if_pos b]at e ⊢;ext e;show⟨v,rfl,h⟩
  .rw[if_neg b]at e;ext e
 .rw[if_neg a]at e ⊢;show E.get j c e
def Rp.ne(R:Rp K π H μ)(h:H p=b4)(b:a<μ.length):π a≠p:=λe=>by have:=R.has a b;rw[e,h]at this;ext this
def Rp.fresh(R:Rp K π H μ)(h:H p=b4):õ π μ.length H π μ.length (upd H p o)/\Rp K π (upd H p o) μ:=by
 let c:∀b u,H b=b3 u->upd H p o b=b3 u:=λb u e=>by rw[bQ<|kZ e h];show e
 let e:õ π μ.length H π μ.length (upd H p o):=⟨Ø _,λ_ _=>rfl,λq i e=>c q _ e,λq o u e=>c q _ e⟩;show⟨e,R.inj,λa d=>?_,λa w d=>?_,λa g d=>?_,λa v d=>?_
  ,λa g d=>?_
  ,λa g d=>?_
  ⟩
 .rw[bQ<|R.ne h d];show R.has a d
 .let⟨i,h1,j⟩:=R.lst a w d;show⟨i,c _ _ h1,j.mono e⟩
 .let⟨i,h1,j,k⟩:=R.dK a g d;show⟨i,c _ _ h1,j,k.mono e⟩
 .let⟨i,h1,j,k⟩:=R.st a v d;show⟨i,c _ _ h1,j,k.mono e⟩
 .let⟨i,h1,j,k,s⟩:=R.dT a g d;show⟨i,c _ _ h1,j,k.mono e,s.mono e⟩
 .let⟨ob,i,h1,j,k,s⟩:=R.dF a g d;show⟨ob,i,c _ _ h1,j,k.mono e,s.mono e⟩
abbrev vA(K:Ô)(π:Nat->Addr)(n:Nat)(H:Hp)(p:Addr):C->HO->Prop
 |.lst xs,.lst vs=>Ç K π n H vs xs|.dK kvs,.dK vs=>vs.map (·.1)=kvs.map (·.1)/\Ç K π n H (vs.map (·.2)) (kvs.map (·.2))|.st ks,o=>∃L:List Tb.El,o=xQ p L/\L.map (·.1)=ks/\Ç K π n H (L.map λp=>V.ref p.2) (ks.map λk=>D.tup<|k.map D.int)|.dT kvs,o=>∃ps:List (List Int×Addr×V),o=aT p ps/\ps.map (·.1)=kvs.map (·.1)/\Ç K π n H (ps.map λp=>V.ref p.2.1) (kvs.map λk=>D.tup<|k.1.map D.int)/\Ç K π n H (ps.map (·.2.2)) (kvs.map (·.2))|.dF kvs,o=>∃(ob:Obj)(ps:List (List Int×Addr×V)),o=.frz ob (aT p ps)/\ps.map (·.1)=kvs.map (·.1)/\Ç K π n H (ps.map λp=>V.ref p.2.1) (kvs.map λk=>D.tup<|k.1.map D.int)/\Ç K π n H (ps.map (·.2.2)) (kvs.map (·.2))|_,_=>False
abbrev k8(π:Nat->Addr)(n:Nat)(p:Addr):Nat->Addr:=λa=>if a=n then p else π a
def Rp.alloc(R:Rp K π H μ)(h:H p=b4)(hc:vA K π μ.length H p c o):
  õ π μ.length H (k8 π μ.length p) (μ++[c]).length (upd H p o)/\Rp K (k8 π μ.length p) (upd H p o) (μ++[c])/\k8 π μ.length p μ.length=p:=by
 let E:(μ++[c]).length=μ.length+1:=∅
 let g:∀b u,H b=b3 u->upd H p o b=b3 u:=λb u e=>by rw[bQ<|kZ e h];show e
 let z:k8 π μ.length p μ.length=p:=if_pos rfl;let x:∀a,a<μ.length->k8 π μ.length p a=π a:=λa d=>if_neg<|Ā d;let e:õ π μ.length H (k8 π μ.length p) (μ++[c]).length (upd H p o):=⟨by rw[E];show lY _,x,λq s e=>g q _ e,λq o u e=>g q _ e⟩;let split:∀a,a<(μ++[c]).length->a<μ.length\/a=μ.length:=λa d=>by rw[E]at d;lia
 let get:∀a,a<μ.length->(μ++[c])[a]?=μ[a]?:=λa d=>ϕ d;let j:(μ++[c])[μ.length]?=b3 c:=∅
 show⟨e,⟨λa b d B q=>?_,λa d=>?_,λa I d=>?_,λa w d=>?_,λa G d=>?_
  ,λa w d=>?_
  ,λa w d=>?_
  ⟩,z⟩
 .rcases split a d with d|rfl<;>rcases split b B with B|rfl
  .rw[x a d,x b B]at q;show R.inj a b d B q
  .rw[x a d,z]at q;show absurd q<|R.ne h d
  .rw[z,x b B]at q;show absurd q.symm<|R.ne h B
  .rfl
 .rcases split a d with d|rfl
  .rw[x a d,bQ<|R.ne h d];show R.has a d
  .rw[z,dU];rfl
 .let i:a<(μ++[c]).length:=(ä.mp d).1;rcases split a i with h1|rfl
  .rw[get a h1]at d;let⟨s,y,k⟩:=R.lst a I d;rw[x a h1];show⟨s,g _ _ y,k.mono e⟩
  .rw[j]at d;ext d;cases o with
   |lst s=>rw[z];show⟨s,dU,Ç.mono e hc⟩|_=>show ο hc
 .let i:a<(μ++[c]).length:=(ä.mp d).1;rcases split a i with h1|rfl
  .rw[get a h1]at d;let⟨s,y,k,v⟩:=R.dK a w d;rw[x a h1];show⟨s,g _ _ y,k,v.mono e⟩
  .rw[j]at d;ext d;cases o with
   |dK s=>rw[z];show⟨s,dU,hc.1,Ç.mono e hc.2⟩|_=>show ο hc
 .let i:a<(μ++[c]).length:=(ä.mp d).1;rcases split a i with h1|rfl
  .rw[get a h1]at d;let⟨s,y,k,v⟩:=R.st a G d;rw[x a h1];show⟨s,g _ _ y,k,v.mono e⟩
  .rw[j]at d;ext d;let⟨L,rfl,k,v⟩:=hc;rw[z];show⟨L,dU,k,v.mono e⟩
 .let i:a<(μ++[c]).length:=(ä.mp d).1;rcases split a i with h1|rfl
  .rw[get a h1]at d;let⟨s,y,k,v,A⟩:=R.dT a w d;rw[x a h1];show⟨s,g _ _ y,k,v.mono e,A.mono e⟩
  .rw[j]at d;ext d;let⟨L,rfl,k,v,A⟩:=hc;rw[z];show⟨L,dU,k,v.mono e,A.mono e⟩
 .let i:a<(μ++[c]).length:=(ä.mp d).1;rcases split a i with h1|rfl
  .rw[get a h1]at d;let⟨ob,s,y,k,v,A⟩:=R.dF a w d;rw[x a h1];show⟨ob,s,g _ _ y,k,v.mono e,A.mono e⟩
  .rw[j]at d;ext d;let⟨ob,L,rfl,k,v,A⟩:=hc;rw[z];show⟨ob,L,dU,k,v.mono e,A.mono e⟩
def Rp.putU(R:Rp K π H μ)(I:a<μ.length)(B:H (π a)=b3 u)(E:(∀vs,u≠.tup vs)/\∀ob v,(∀N,v≠HO.ext N)->u≠.frz ob v)(hc:vA K π μ.length H (π a) c o):
  œ π μ.length H π (μ.set a c).length (upd H (π a) o)/\Rp K π (upd H (π a) o) (μ.set a c):=by
 let s:(μ.set a c).length=μ.length:=Ź ..;let e:œ π μ.length H π (μ.set a c).length (upd H (π a) o):=by
  show⟨lw s.symm,λ_ _=>rfl,λq vs z=>?_,λq O Q nx z=>?_⟩
  .rw[bQ]
   .show z
   .intro e;subst e;rw[B]at z;show E.1 _<|Ė z
  .rw[bQ]
   .show z
   .intro e;subst e;rw[B]at z;show E.2 _ _ nx<|Ė z
 let i:∀b,b<μ.length->b≠a->upd H (π a) o (π b)=H (π b):=λb d A=>bQ λq=>A<|R.inj b a d I q;show⟨e,⟨λb G d y=>R.inj b G (s▸d)<|s▸y,λb d=>?_,λb M d=>?_,λb p d=>?_,λb J d=>?_
  ,λb p d=>?_
  ,λb p d=>?_
  ⟩⟩
 .by_cases h:b=a
  .subst h;rw[dU];rfl
  .rw[i b (s▸d) h];show R.has b<|s▸d
 .let g:b<μ.length:=s▸(ä.mp d).1;by_cases h:b=a
  .subst h;rw[ϡ g]at d;ext d;cases o with
   |lst vs=>show⟨vs,dU,Ç.mono0 e hc⟩|_=>show ο hc
  .rw[ô<|ð h]at d;let⟨vs,w,j⟩:=R.lst b M d;show⟨vs,by rw[i b g h];show w,j.mono0 e⟩
 .let g:b<μ.length:=s▸(ä.mp d).1;by_cases h:b=a
  .subst h;rw[ϡ g]at d;ext d;cases o with
   |dK vs=>show⟨vs,dU,hc.1,Ç.mono0 e hc.2⟩|_=>show ο hc
  .rw[ô<|ð h]at d;let⟨vs,w,j,k⟩:=R.dK b p d;show⟨vs,by rw[i b g h];show w,j,k.mono0 e⟩
 .let g:b<μ.length:=s▸(ä.mp d).1;by_cases h:b=a
  .subst h;rw[ϡ g]at d;ext d;let⟨L,rfl,j,k⟩:=hc;show⟨L,dU,j,k.mono0 e⟩
  .rw[ô<|ð h]at d;let⟨vs,w,j,k⟩:=R.st b J d;show⟨vs,by rw[i b g h];show w,j,k.mono0 e⟩
 .let g:b<μ.length:=s▸(ä.mp d).1;by_cases h:b=a
  .subst h;rw[ϡ g]at d;ext d;let⟨L,rfl,j,k,x⟩:=hc;show⟨L,dU,j,k.mono0 e,x.mono0 e⟩
  .rw[ô<|ð h]at d;let⟨vs,w,j,k,x⟩:=R.dT b p d;show⟨vs,by rw[i b g h];show w,j,k.mono0 e,x.mono0 e⟩
 .let g:b<μ.length:=s▸(ä.mp d).1;by_cases h:b=a
  .subst h;rw[ϡ g]at d;ext d;let⟨ob,L,rfl,j,k,x⟩:=hc;show⟨ob,L,dU,j,k.mono0 e,x.mono0 e⟩
  .rw[ô<|ð h]at d;let⟨ob,vs,w,j,k,x⟩:=R.dF b p d;show⟨ob,vs,by rw[i b g h];show w,j,k.mono0 e,x.mono0 e⟩
def Rp.put0(R:Rp K π H μ)(e:a<μ.length)(g:H (π a)=b3 u)(d:(∃vs,u=.lst vs)\/(∃vs,u=.dK vs)\/(∃b,u=.ext b)\/∃ob b,u=.frz ob (.ext b))(hc:vA K π μ.length H (π a) c o):
  œ π μ.length H π (μ.set a c).length (upd H (π a) o)/\Rp K π (upd H (π a) o) (μ.set a c):=
 R.putU e g ⟨λvs z=>(by rcases d with⟨w,rfl⟩|⟨w,rfl⟩|⟨w,rfl⟩|⟨ob,w,rfl⟩<;>ext z),λob v nx z=>by
  rcases d with⟨w,rfl⟩|⟨w,rfl⟩|⟨w,rfl⟩|⟨ob,w,rfl⟩<;>ext z;show nx _ rfl⟩ hc
def Rp.putE(R:Rp K π H μ)(g:a<μ.length)(d:H (π a)=b3 u)(b:(∀vs,u≠.tup vs)/\∀ob v,u≠.frz ob v)(hc:vA K π μ.length H (π a) c o):
  õ π μ.length H π (μ.set a c).length (upd H (π a) o)/\Rp K π (upd H (π a) o) (μ.set a c):=by
 let e:õ π μ.length H π (μ.set a c).length (upd H (π a) o):=by
  show⟨lw (Ź ..).symm,λ_ _=>rfl,λq vs z=>?_,λq h i z=>?_⟩
  .rw[bQ]
   .show z
   .intro e;subst e;rw[d]at z;show b.1 _<|Ė z
  .rw[bQ]
   .show z
   .intro e;subst e;rw[d]at z;show b.2 _ _<|Ė z
 show⟨e,(R.putU g d ⟨b.1,λob v _=>b.2 ob v⟩ hc).2⟩
def Rp.put(R:Rp K π H μ)(d:a<μ.length)(e:H (π a)=b3 u)(b:(∃vs,u=.lst vs)\/(∃vs,u=.dK vs)\/∃g,u=.ext g)(hc:vA K π μ.length H (π a) c o):
  õ π μ.length H π (μ.set a c).length (upd H (π a) o)/\Rp K π (upd H (π a) o) (μ.set a c):=
 R.putE d e ⟨λvs z=>(by rcases b with⟨w,rfl⟩|⟨w,rfl⟩|⟨w,rfl⟩<;>ext z),λob v z=>by rcases b with⟨w,rfl⟩|⟨w,rfl⟩|⟨w,rfl⟩<;>ext z⟩ hc
abbrev KC(K:Ô)(Q:VK)(π:Nat->Addr)(n:Nat)(H:Hp)(d:D)(μ':Hm):Prop:=
 ∀a v b,õ π n H a μ'.length b->Rp K a b μ'->Ú K a μ'.length b v d->Q v b
def KC.after(k:KC K Q π n H d μ')(e:õ π n H a g c):KC K Q a g c d μ':=
 λb v h j R i=>k b v h (e.trans j) R i
inductive tM (K:Ô)(m:ME)(σ:St)(H:Hp)(Q:VK):Prop
 |mk (π:Nat->Addr)(ρ:aG)(μ:Hm)(d:D)(μ':Hm)(R:Rp K π H μ)(E:En K π μ.length H σ ρ)(hm:m ρ μ=b3 (d,μ'))(k:KC K Q π μ.length H d μ'):tM K m σ H Q
inductive Ŏ (K:Ô)(m:MT)(σ:St)(H:Hp)(Q:Bool->Hp->Prop):Prop
 |mk (π:Nat->Addr)(ρ:aG)(μ:Hm)(b:Bool)(μ':Hm)(R:Rp K π H μ)(E:En K π μ.length H σ ρ)(hm:m ρ μ=b3 (b,μ'))(k:∀π' H',õ π μ.length H π' μ'.length H'->Rp K π' H' μ'->Q b H'):Ŏ K m σ H Q
inductive Ε (K:Ô)(m:MA)(σ:St)(H:Hp)(Q:gz->Hp->Prop):Prop
 |mk (π:Nat->Addr)(ρ:aG)(μ:Hm)(ds:List D)(μ':Hm)(R:Rp K π H μ)(E:En K π μ.length H σ ρ)(hm:m ρ μ=b3 (ds,μ'))(k:∀π' vs H',õ π μ.length H π' μ'.length H'->Rp K π' H' μ'->Ç K π' μ'.length H' vs ds->Q vs H'):Ε K m σ H Q
abbrev rB(K:Ô)(E:ϖ)(π:Nat->Addr)(n:Nat)(H:Hp)(g:Fl)(e:aG)(μ':Hm):Prop:=
 match g with
 |.nx=>∀a b c,õ π n H a μ'.length c->Rp K a c μ'->En K a μ'.length c b e->E.nx b c|.bk=>∀a b c,õ π n H a μ'.length c->Rp K a c μ'->En K a μ'.length c b e->E.bk b c|.ct=>∀a b c,õ π n H a μ'.length c->Rp K a c μ'->En K a μ'.length c b e->E.ct b c|.rt d=>KC K E.rt π n H d μ'
inductive Ŗ (K:Ô)(m:MS)(E:ϖ)(σ:St)(H:Hp):Prop
 |mk (π:Nat->Addr)(ρ:aG)(μ:Hm)(fl:Fl)(ρ':aG)(μ':Hm)(R:Rp K π H μ)(EN:En K π μ.length H σ ρ)(hm:m ρ μ=b3 (fl,ρ',μ'))(k:rB K E π μ.length H fl ρ' μ'):Ŗ K m E σ H
inductive xg (K:Ô)(f:MF)(vs:gz)(H:Hp)(Q:VK):Prop
 |mk (π:Nat->Addr)(ds:List D)(μ:Hm)(d:D)(μ':Hm)(R:Rp K π H μ)(i:Ç K π μ.length H vs ds)(hm:f ds μ=b3 (d,μ'))(k:KC K Q π μ.length H d μ'):xg K f vs H Q
abbrev mI(K:Ô)(k:Nat)(f:MF):Sp:=λvs H Q _=>vs.length=k/\xg K f vs H Q
def eM(h:PE X e t)(hw:∀σ H Q,tM X.K m σ H Q->t σ H Q):PE X e (tM X.K m):=λDo s σ H Q I q=>h Do s σ H Q I<|hw σ H Q q
def xS(h:PT X e t)(hw:∀σ H Q,Ŏ X.K m σ H Q->t σ H Q):PT X e (Ŏ X.K m):=λDo s σ H Q I q=>h Do s σ H Q I<|hw σ H Q q
def FC(h:PW X e t)(hw:∀σ H Q,Ŏ X.K m σ H Q->t σ H Q):PW X e (Ŏ X.K m):=λd Do s σ H Q I q=>h d Do s σ H Q I<|hw σ H Q q
def FD(h:PA X es t)(hw:∀σ H Q,Ε X.K m σ H Q->t σ H Q):PA X es (Ε X.K m):=λp Do s σ H Q I q=>h p Do s σ H Q I<|hw σ H Q q
def nH(h:PS X st t)(hw:∀E σ H,Ŗ X.K m E σ H->t E σ H):PS X st (Ŗ X.K m):=λDo s σ H E I q=>h Do s σ H E I<|hw E σ H q
def FE(h:Ş X st t)(hw:∀E σ H,Ŗ X.K m E σ H->t E σ H):Ş X st (Ŗ X.K m):=λDo s σ H E I q=>h Do s σ H E I<|hw E σ H q
abbrev aE(i:Nat):ME:=λh g=>match h[i]? with|some (b3 d)=>b3 (d,g)|_=>b4
abbrev mC(d:D):ME:=λ_ g=>b3 (d,g)
def p5D(h:aE i j g=b3 (d,μ')):j[i]?=b3 (b3 d)/\μ'=g:=by
 unfold aE at h;split at h
 .rename_i k e;ext h;show⟨e,rfl⟩
 .ext h
def p57 i(h:PE X (.Name x pos) (A7 i)):PE X (.Name x pos) (tM X.K<|aE i):=eM h<|by
 rintro u H Q ⟨p,s,q,d,o,R,E,n,k⟩;let⟨h1,rfl⟩:=p5D n;let⟨v,g,j⟩:=E.get i d h1;show⟨v,g,k p v H .refl R j⟩
def sZ(h:PE X e (tC v))(hd:∀π n H,Ú X.K π n H v d):PE X e (tM X.K<|mC d):=eM h<|by
 rintro q H Q ⟨π,p,o,j,i,R,E,g,k⟩;ext g;show k π v H .refl R<|hd _ _ _
def h16:PE X (.Constant (.int i) j pos) (tM X.K<|mC<|.int i):=sZ b0f λ_ _ _=>.int i
def dMT:PE X (.Constant (.bool i) j pos) (tM X.K<|mC<|.bl i):=sZ b0Z λ_ _ _=>.bl i
def b5e:PE X (.Constant (.str i) j pos) (tM X.K<|mC<|.str i):=sZ b0X λ_ _ _=>.str i
def b5a:PE X (.Constant .none j pos) (tM X.K<|mC .non):=sZ b0Y λ_ _ _=>.non
abbrev aA(f:D->D->Hm->jk)(a b:ME):ME:=λd g=>(a d g).bind λp=>(b d p.2).bind λq=>f p.1 q.1 q.2
abbrev eH(K:Ô)(f:D->D->Hm->jk)(r:R2):Prop:=
 ∀i H g x y d h j k Q,Rp K i H g->Ú K i g.length H j x->Ú K i g.length H k y->f x y g=b3 (d,h)->KC K Q i g.length H d h->r j k H Q
def vB(z:eH K f r):∀σ H Q,tM K (aA f ma mb) σ H Q->u5 r (tM K ma) (tM K mb) σ H Q:=by rintro σ H Q ⟨L,s,J,d,j,R,E,g,k⟩;show bR g ?_;clear g;intro x h h1 g;show bR g ?_;clear g;intro y i w g;show⟨L,s,J,x,h,R,E,h1,λn G M p v A=>⟨n,s,h,y,i,v,E.mono p,w,λo I u q R2 B=>z o u i x y d j G I Q R2 (A.mono q) B g<|k.after<|p.trans q⟩⟩
def b4v(i:đ X (Τ op) r)(h:eH X.K f r)(d:PE X a (tM X.K ma))(g:PE X b (tM X.K mb)):PE X (.BinOp a op b pos) (tM X.K<|aA f ma mb):=
 eM (a6Y i d g)<|vB h
def iK(j:đ X (Ķ op) r)(h:eH X.K f r)(d:PE X a (tM X.K ma))(g:PE X b (tM X.K mb))(i:gY op b=b5):PE X (.Compare a [op] [b] pos) (tM X.K<|aA f ma mb):=
 eM (a5T j d g i)<|vB h
abbrev a7(m:ME):MT:=λg d=>(m g d).bind λp=>match p.1 with|.bl b=>b3 (b,p.2)|_=>b4
def FF:∀σ H Q,Ŏ K (a7 m) σ H Q->tM K m σ H λx g=>∃k,x=.bl k/\Q k g:=by
 rintro σ H Q ⟨s,u,o,b,p,R,E,d,k⟩;show bR d ?_;clear d;intro x q h1 d;cases x with
 |bl c=>ext d;show⟨s,u,o,_,_,R,E,h1,λh v g j i n=>?_⟩;ext n;show⟨_,rfl,k h g j i⟩|_=>ext d
def iL(n:đ X (Ķ op) r)(j:eH X.K f r)(g:PE X a (tM X.K ma))(i:PE X b (tM X.K mb))(k:gY op b=b5):PT X (.Compare a [op] [b] pos) (Ŏ X.K<|a7<|aA f ma mb):=
 xS (LwI n g i k) λd H Q h=>vB j d H _<|FF d H Q h
section
variable{X:Cx}{e a b c:Expr}{m ma mb mc:ME}{pos:Ĳ}{mt mu:MT}{cG:List Expr}
abbrev i7(a b:MT):MT:=λd g=>(a d g).bind λp=>match p.1 with|true=>b d p.2|false=>b3 (b5,p.2)
abbrev k9(a b:MT):MT:=λd g=>(a d g).bind λp=>match p.1 with|true=>b3 (dI,p.2)|false=>b d p.2
abbrev jQ(a:MT):MT:=λg d=>(a g d).map λp=>(!p.1,p.2)
def b4u(d:PT X a (Ŏ X.K mt)):PW X (.BoolOp .And [a] pos) (Ŏ X.K mt):=a9S d
def b4t(d:PT X a (Ŏ X.K mt)):PW X (.BoolOp .Or [a] pos) (Ŏ X.K mt):=b4X d
def b4s(w:PT X a (Ŏ X.K mt))(y:PW X (.BoolOp .And (b::cG) pos) (Ŏ X.K mu)):PW X (.BoolOp .And (a::b::cG) pos) (Ŏ X.K<|i7 mt mu):=FC (b3j w y)<|by
 rintro B H Q ⟨A,q,z,d,n,R,E,g,k⟩;show bR g ?_;clear g;intro x h h1 g;show⟨A,q,z,x,h,R,E,h1,λi s j p=>?_⟩;cases x with
 |true=>show pS ?_;show⟨i,q,h,d,n,p,E.mono j,g,λo u v R2=>k o u (j.trans v) R2⟩|false=>
  show pR ?_;ext g;show k i s j p
def b4o(w:PT X a (Ŏ X.K mt))(y:PW X (.BoolOp .Or (b::cG) pos) (Ŏ X.K mu)):PW X (.BoolOp .Or (a::b::cG) pos) (Ŏ X.K<|k9 mt mu):=FC (b3i w y)<|by
 rintro B H Q ⟨A,q,z,d,n,R,E,g,k⟩;show bR g ?_;clear g;intro x h h1 g;show⟨A,q,z,x,h,R,E,h1,λi s j p=>?_⟩;cases x with
 |true=>show pS ?_;ext g;show k i s j p|false=>
  show pR ?_;show⟨i,q,h,d,n,p,E.mono j,g,λo u v R2=>k o u (j.trans v) R2⟩
def b4l(p:PT X a (Ŏ X.K mt)):PT X (.UnaryOp .Not a pos) (Ŏ X.K<|jQ mt):=xS (b3b p)<|by
 rintro w H Q ⟨u,v,q,d,s,R,E,g,k⟩;show u9 g ?_;clear g;intro x h h1 g;ext g;show⟨u,v,q,x,h,R,E,h1,λi j o n=>k i j o n⟩
abbrev gG(a b:ME):ME:=λd g=>(a d g).bind λp=>match p.1 with|.bl dI=>b d p.2|.bl b5=>b3 (.bl b5,p.2)|_=>b4
abbrev Bt(a b:ME):ME:=λd g=>(a d g).bind λp=>match p.1 with|.bl dI=>b3 (.bl dI,p.2)|.bl b5=>b d p.2|_=>b4
abbrev tB(a:ME):ME:=λg d=>(a g d).bind λp=>match p.1 with|.bl b=>b3 (.bl<|!b,p.2)|_=>b4
def b4k(h:PE X a (tM X.K m)):PE X (.BoolOp op [a] pos) (tM X.K m):=b2b h
def b4j(s:PE X a (tM X.K ma))(u:PE X (.BoolOp .And (b::cG) pos) (tM X.K mb)):PE X (.BoolOp .And (a::b::cG) pos) (tM X.K<|gG ma mb):=eM (x13 s u)<|by
 rintro A H Q ⟨y,p,w,d,n,R,E,g,k⟩;show bR g ?_;clear g;intro x h h1 g;cases x with
 |bl c=>
  show⟨y,p,w,.bl c,h,R,E,h1,λi z q j o v=>?_⟩;ext v;show⟨c,rfl,?_⟩;cases c with
  |true=>show pS ?_;show⟨i,p,h,d,n,o,E.mono j,g,k.after j⟩|false=>show pR ?_;ext g;show k i _ q j o<|.bl b5
 |_=>ext g
def b4i(s:PE X a (tM X.K ma))(u:PE X (.BoolOp .Or (b::cG) pos) (tM X.K mb)):PE X (.BoolOp .Or (a::b::cG) pos) (tM X.K<|Bt ma mb):=eM (x12 s u)<|by
 rintro A H Q ⟨y,p,w,d,n,R,E,g,k⟩;show bR g ?_;clear g;intro x h h1 g;cases x with
 |bl c=>
  show⟨y,p,w,.bl c,h,R,E,h1,λi z q j o v=>?_⟩;ext v;show⟨c,rfl,?_⟩;cases c with
  |true=>show pS ?_;ext g;show k i _ q j o (.bl dI)|false=>show pR ?_;show⟨i,p,h,d,n,o,E.mono j,g,k.after j⟩
 |_=>ext g
def b4h(o:PE X a (tM X.K ma)):PE X (.UnaryOp .Not a pos) (tM X.K<|tB ma):=eM (x11 o)<|by
 rintro z H Q ⟨v,w,q,d,s,R,E,g,k⟩;show bR g ?_;clear g;intro x u h1 g;cases x with
 |bl c=>ext g;show⟨v,w,q,_,_,R,E,h1,λh y i n j p=>?_⟩;ext p;show⟨_,rfl,k h _ i n j<|.bl _⟩
 |_=>ext g
abbrev iM(t:MT)(a b:ME):ME:=λd g=>(t d g).bind λp=>match p.1 with|true=>a d p.2|false=>b d p.2
def b4f(hc:PT X c (Ŏ X.K mt))(q:PE X a (tM X.K ma))(s:PE X b (tM X.K mb)):PE X (.IfExp c a b pos) (tM X.K<|iM mt ma mb):=eM (h15 hc q s)<|by
 rintro y H Q ⟨v,o,u,d,i,R,E,h,k⟩;show bR h ?_;clear h;intro x g h1 h;show⟨v,o,u,x,g,R,E,h1,λj w n p=>?_⟩;cases x with
 |true=>show pS ?_;show⟨j,o,g,d,i,p,E.mono n,h,k.after n⟩|false=>
  show pR ?_;show⟨j,o,g,d,i,p,E.mono n,h,k.after n⟩
abbrev aF:MA:=λ_ d=>b3 ([],d)
abbrev aB(a:ME)(r:MA):MA:=λd g=>(a d g).bind λp=>(r d p.2).bind λq=>b3 (p.1::q.1,q.2)
variable{es:List Expr}{ms:MA}
def b4b:PA X [] (Ε X.K aF):=FD EU<|by
 rintro o H Q ⟨i,n,j,d,h,R,E,g,k⟩;ext g;show k i [] H .refl R .nil
def b4Z(w:PE X e (tM X.K m))(y:PA X es (Ε X.K ms))(z:Ă (e::es) X.env=(b5,eval e X.env)::Ă es X.env:=by rfl):PA X (e::es) (Ε X.K<|aB m ms):=FD (EV w y z)<|by
 rintro O H Q ⟨K,q,I,d,J,R,E,g,k⟩;show bR g ?_;clear g;intro x h h1 g;show bR g ?_;clear g;intro G i v g;ext g;show⟨K,q,I,x,h,R,E,h1,λj M L o u A=>⟨j,q,h,G,i,u,E.mono o,v,λn N s p R2 B=>k n _ s (o.trans p) R2<|.cons (A.mono p) B⟩⟩
abbrev cN(ms:MA):ME:=λg d=>(ms g d).bind λp=>if p.1.length<=Ò then b3 (.tup p.1,p.2)else b4
abbrev cP(ms:MA):ME:=λg d=>(ms g d).bind λp=>if p.1.length<=Ò then b3 (.loc p.2.length,p.2++[.lst p.1])else b4
def b4W(h:PA X es (Ε X.K ms)):PE X (.Tuple es w pos) (tM X.K<|cN ms):=eM (a8a h)<|by
 rintro J H Q ⟨A,B,x,d,y,R,E,g,k⟩;show bR g ?_;clear g;intro I z h1 g;split at g
 .rename_i s;ext g;show⟨A,B,x,_,_,R,E,h1,λi v G q o n=>⟨by rw[n.length];show s,λp u=>?_⟩⟩;let⟨j,R2⟩:=o.fresh (o:=.tup v) u;show k i _ _ (q.trans j) R2<|.tup (.of dU)<|n.mono j
 .ext g
def b4V(h:PA X es (Ε X.K ms)):PE X (.List es pos) (tM X.K<|cP ms):=eM (a8U h)<|by
 rintro K H Q ⟨I,J,B,d,G,R,E,i,k⟩;show bR i ?_;clear i;intro n g h1 i;split at i
 .rename_i y;ext i;show⟨I,J,B,n,g,R,E,h1,λj o s w v u=>⟨by rw[u.length];show y,λp z=>?_⟩⟩;let⟨x,R2,q⟩:=v.alloc (c:=.lst n) (o:=.lst o) z u;let A:Ú X.K (k8 j g.length p) (g++[C.lst n]).length (upd s p<|.lst o) (.ref p) (.loc g.length):=by have:=Ú.loc (K:=X.K) (π:=k8 j g.length p) (n:=(g++[C.lst n]).length) (H:=upd s p (.lst o)) (a:=g.length) ∅;rw[q]at this;show this
  show k _ _ _ (w.trans x) R2 A
 .ext i
abbrev bJ(f:MF)(ms:MA):ME:=λg d=>(ms g d).bind λp=>f p.1 p.2
def b4M(w:∀j i ds μ',ms j i=b3 (ds,μ')->ds.length=n):∀σ H Q,tM K (bJ f ms) σ H Q->Bl (mI K n f) [] E (Ε K ms) σ H Q:=by rintro σ H Q ⟨y,j,i,d,μ',R,E,h,k⟩;show bR h ?_;clear h;intro o g h1 h;show⟨y,j,i,o,g,R,E,h1,λp x s v u q=>?_⟩;change mI K n f (x++[]) s Q _;rw[ŉ];show⟨by rw[q.length];show w j i o g h1,p,o,g,d,μ',u,q,h,k.after v⟩
def a8A:∀g d ds μ',aF g d=b3 (ds,μ')->ds.length=0:=by intro g d ds μ' h;ext h;rfl
def a7k(h:∀g i ds μ',ms g i=b3 (ds,μ')->ds.length=n):∀g i ds μ',aB m ms g i=b3 (ds,μ')->ds.length=n+1:=by intro g i ds μ' d;show bR d ?_;clear d;intro x j h1 d;show bR d ?_;clear d;intro o p k d;ext d;rw[Ŋ,h g j o _ k]
def a7X(F:ĺ X.prog X.w X.K X.mg X.base iZ k f i ps (mI X.K n j))(z:ê k X.A)(u:Gl X x)(w:X.mg x=b3 (.ref f))(v:ϱ X.K (.ref f)=dI)(q:Ĩ X.K i ps [])(o:PA X (e::es) (Ε X.K ms))(y:∀B A ds h,ms B A=b3 (ds,h)->ds.length=n)(d:(x==("__debug__":Str))=false:=by decide)(s:Ă (e::es) X.env=(b5,eval e X.env)::Ă es X.env:=by rfl)(g:(Ř pos<|Ă es X.env).any (·.1)=false:=by rfl):
  PE X (.Call (.Name x p) (e::es) [] pos) (tM X.K<|bJ j ms):=
 eM (a8T F z u w v q .nil (E:=E0) Fw o d s g)<|b4M y
abbrev eY(K:Ô)(f:MF)(r:gz->Hp->VK->Prop):Prop:=
 ∀i H h k d g j Q,Rp K i H h->Ç K i h.length H j k->f k h=b3 (d,g)->KC K Q i h.length H d g->r j H Q
def Bu(s:eY K f r):∀σ H Q,tM K (bJ f ms) σ H Q->xK r (Ε K ms) σ H Q:=by rintro σ H Q ⟨x,y,w,d,i,R,E,h,k⟩;show bR h ?_;clear h;intro n g h1 h;show⟨x,y,w,n,g,R,E,h1,λj v o q p u=>s j o g n d i v Q p u h<|k.after q⟩
def a7T{id:String}(hc:Ü X (.builtin id) r)(j:eY X.K f r)(k:Gl X x)(n:X.mg x=b4)(q:Ω x=b3 (.builtin id))(h:PA X (e::es) (Ε X.K ms))(o:x ≠ "__name__":=by decide)(d:(x==("__debug__":Str))=false:=by decide)(i:Ă (e::es) X.env=(b5,eval e X.env)::Ă es X.env:=by rfl)(g:(Ř pos<|Ă es X.env).any (·.1)=false:=by rfl):PE X (.Call (.Name x p) (e::es) [] pos) (tM X.K<|bJ f ms):=
 eM (a9e hc k n q h o d i g)<|Bu j
def a7O(hc:Ü X (.type T) r)(j:eY X.K f r)(k:Gl X x)(n:X.mg x=b4)(q:Ω x=b3 (.type T))(h:PA X (e::es) (Ε X.K ms))(o:x ≠ "__name__":=by decide)(d:(x==("__debug__":Str))=false:=by decide)(i:Ă (e::es) X.env=(b5,eval e X.env)::Ă es X.env:=by rfl)(g:(Ř pos<|Ă es X.env).any (·.1)=false:=by rfl):PE X (.Call (.Name x p) (e::es) [] pos) (tM X.K<|bJ f ms):=
 eM (a9d hc k n q h o d i g)<|Bu j
abbrev bO(d:Hm):D->Option (List D)
 |.tup xs=>b3 xs|.rol xs=>b3 xs|.loc a=>match d[a]? with|some (.lst xs)=>b3 xs|_=>b4
 |_=>b4
abbrev kH:D->D->Hm->jk
 |.str z,.int i,μ=>if z.length<=Ò then(atI z.cps.toList i).map λc=>(.str ⟨#[c]⟩,μ)else b4|x,.int i,μ=>(bO μ x).bind λg=>(atI g i).map λd=>(d,μ)|_,_,_=>b4
def a7D:eH K kH (Fi K):=by
 intro p H O x y d I M N Q R s E g k;cases E with
 |int i=>
  cases s with
  |str z=>
   dsimp[kH]at g;split at g
   .rename_i A;let⟨c,h1,j⟩:=ì.mp g;ext j;show .inr<|.inr ⟨z,i,c,rfl,rfl,A,h1,k p _ H .refl R<|.str _⟩
   .ext g
  |tup h t=>dsimp[kH,bO,ē]at g;let⟨q,h1,j⟩:=ì.mp g;ext j;let⟨v,n,o⟩:=t.atI h1;show .inr (.inl ⟨_,_,i,v,rfl,rfl,h,n,k p _ H .refl R o⟩)|rol h t=>dsimp[kH,bO,ē]at g;let⟨q,h1,j⟩:=ì.mp g;ext j;let⟨v,n,o⟩:=t.atI h1;show .inl ⟨_,_,i,v,rfl,rfl,h.sq,n,k p _ H .refl R o⟩|@loc a J=>
   dsimp[kH,bO]at g;split at g
   .rename_i G B;dsimp[ē]at g;let⟨q,h1,j⟩:=ì.mp g;ext j;let⟨L,u,w⟩:=R.lst a G B;let⟨v,n,o⟩:=w.atI h1;show .inl ⟨_,_,i,v,rfl,rfl,.of u,n,k p _ H .refl R o⟩
   .ext g
  |_=>simp[kH,bO]at g
 |_=>ext s<;>simp[kH]at g
def a7B(d:PE X a (tM X.K ma))(g:PE X b (tM X.K mb))(h:Bo b):PE X (.Subscript a b pos) (tM X.K<|aA kH ma mb):=eM (b1f b1S d g h)<|vB a7D
abbrev nI(xs:List D)(lo hi:Option Int):List D:=(xs.drop<|HT.sIx xs.length 0 lo).take<|HT.sIx xs.length xs.length hi-HT.sIx xs.length 0 lo
noncomputable abbrev MO:=aG->Hm->Option (Option Int×Hm)
abbrev mJ:MO:=λ_ d=>b3 (b4,d)
abbrev mK(m:ME):MO:=λg d=>(m g d).bind λp=>match p.1 with|.int i=>b3 (b3 i,p.2)|_=>b4
inductive ql (K:Ô)(m:MO)(σ:St)(H:Hp)(Q:Option Int->Hp->Prop):Prop
 |mk (π:Nat->Addr)(ρ:aG)(μ:Hm)(o:Option Int)(μ':Hm)(R:Rp K π H μ)(E:En K π μ.length H σ ρ)(hm:m ρ μ=b3 (o,μ'))(k:∀π' H',õ π μ.length H π' μ'.length H'->Rp K π' H' μ'->Q o H'):ql K m σ H Q
def a6W:PO X b4 (ql X.K mJ):=λDo s σ H Q I q=>a8Y Do s σ H Q I<|by
 let⟨h,j,i,o,g,R,E,d,k⟩:=q;ext d;show k h H .refl R
def WbI(h:PE X e (tM X.K m)):PO X (b3 e) (ql X.K<|mK m):=λDo s σ H Q I q=>a8X h Do s σ H Q I<|by
 let⟨z,A,v,o,w,R,E,d,k⟩:=q;show bR d ?_;clear d;intro x y h1 d;cases x with
 |int i=>ext d;show⟨z,A,v,_,_,R,E,h1,λg B j p n u=>?_⟩;ext u;show⟨_,rfl,k g j p n⟩
 |_=>ext d
noncomputable abbrev FG(K:Ô):V->Option Int->Option Int->Hp->VK->Prop:=Bp K
def OpI:Bm X (FG X.K):=b0p
def FH(h:Bp K x lo hi H Q):FG K x lo hi H Q:=h
abbrev rF(a:ME)(lo hi:MO):ME:=λd h=>(a d h).bind λp=>(lo d p.2).bind λq=>(hi d q.2).bind λr=>
 match p.1 with
 |.tup _=>b4|x=>(bO r.2 x).bind λg=>b3 (.loc r.2.length,r.2++[.lst<|nI g q.1 r.1])
def FI(h:Ç K π n H vs ds)lo hi:Ç K π n H (pQ vs lo hi) (nI ds lo hi):=by ext pQ nI;rw[h.length];show(h.drop _).take _
def mM{d:Hm}{c:C}:Ú K (k8 π d.length p) (d++[c]).length H (.ref p) (.loc d.length):=by have:=Ú.loc (K:=K) (π:=k8 π d.length p) (n:=(d++[c]).length) (H:=H) (a:=d.length) ∅;rw[show k8 π d.length p d.length=p from if_pos rfl]at this;show this
def OnI(Z:PE X a (tM X.K ma))(hl:PO X lo (ql X.K L))(hu:PO X hi (ql X.K K)):PE X (.Subscript a (.Slice lo hi b4 p2) pos) (tM X.K<|rF ma L K):=eM (b1m OpI Z hl hu)<|by
 rintro σ H Q ⟨π,J,μ,d,μ',R,E,g,k⟩;show bR g ?_;clear g;intro x j h1 g;show bR g ?_;clear g;intro l n O g;show bR g ?_;clear g;intro u B T g;show⟨π,J,μ,x,j,R,E,h1,λG v1 H1 o N i1=>⟨G,J,j,l,n,N,E.mono o,O,λI H2 s R2=>⟨I,J,n,u,B,R2,(E.mono o).mono s,T,λπ3 H3 y v=>?_⟩⟩⟩;let i3:=(i1.mono s).mono y;cases i3 with
 |rol h t=>dsimp[bO,ē]at g;ext g;show FH ⟨_,_,rfl,h.sq,λp A=>?_⟩;let⟨z,w,q⟩:=v.alloc (c:=.lst (nI _ l u)) (o:=.lst (pQ _ l u)) A<|FI t l u;show k _ _ _ (((o.trans s).trans y).trans z) w mM|@loc i hi'=>
  dsimp[bO]at g;split at g
  .rename_i M hx;dsimp[ē]at g;ext g;let⟨vs,U,Y⟩:=v.lst i M hx;show FH ⟨_,_,rfl,.of U,λp A=>?_⟩;let⟨z,w,q⟩:=v.alloc (c:=.lst (nI M l u)) (o:=.lst (pQ vs l u)) A<|FI Y l u;show k _ _ _ (((o.trans s).trans y).trans z) w mM
  .ext g
 |tup h t=>simp at g
 |_=>simp[bO]at g
end
abbrev bV:MS:=λg d=>b3 (.nx,g,d)
abbrev aL(a b:MS):MS:=λg d=>(a g d).bind λp=>match p.1 with|.nx=>b p.2.1 p.2.2|_=>b3 p
abbrev aM(m:ME):MS:=λd g=>(m d g).map λp=>(.rt p.1,d,p.2)
abbrev dW(m:ME):MS:=λd g=>(m d g).map λp=>(.nx,d,p.2)
abbrev bK(t:MT)(a b:MS):MS:=λd g=>(t d g).bind λp=>match p.1 with|true=>a d p.2|false=>b d p.2
abbrev fN(i:Nat)(m:ME):MS:=λd g=>(m d g).map λp=>(.nx,d.set i<|b3 p.1,p.2)
def MaI:Ş X [] (Ŗ X.K bV):=FE b5c<|by
 rintro E n H ⟨i,q,p,o,j,h,R,d,g,k⟩;ext g;show k i n H .refl R d
def Grw{cG:List Stmt}(h1:PS X st (Ŗ X.K ms))(G:Ş X cG (Ŗ X.K mr)):Ş X (st::cG) (Ŗ X.K<|aL ms mr):=FE (b5b h1 G)<|by
 rintro E N H ⟨J,K,I,y,w,u,R,A,i,k⟩;obtain⟨⟨x,q,p⟩,h1,i⟩:=è.mp i;show⟨J,K,I,x,q,p,R,A,h1,?_⟩;cases x with
 |nx=>
  intro v L M s B z;show⟨v,q,p,y,w,u,B,z,i,?_⟩;cases y with
  |nx=>show λg h n o R2 j=>k g h n (s.trans o) R2 j|bk=>show λg h n o R2 j=>k g h n (s.trans o) R2 j|ct=>show λg h n o R2 j=>k g h n (s.trans o) R2 j|rt d=>show KC.after k s
 |rt d=>ext i;show k|bk=>ext i;show k
 |ct=>ext i;show k
def FoI(h1:PS X st (Ŗ X.K ms)):Ş X [st] (Ŗ X.K ms):=b4e h1
def CrF:PS X (.Pass pos) (Ŗ X.K bV):=nH b4d<|by
 rintro E n H ⟨i,q,p,o,j,h,R,d,g,k⟩;ext g;show k i n H .refl R d
def t2l(i:PE X e (tM X.K m)):PS X (.Return (b3 e) pos) (Ŗ X.K<|aM m):=nH (b3z i)<|by
 rintro E u H ⟨o,p,j,s,q,n,R,h,d,k⟩;show u9 d ?_;clear d;intro x g h1 d;ext d;show⟨o,p,j,x,g,R,h,h1,k⟩
def a8W(p:PE X e (tM X.K m))(q:fj e b4 pos.line X.env=pure false:=by rfl):PS X (.Expr e pos) (Ŗ X.K<|dW m):=nH (b4a p q)<|by
 rintro E z H ⟨v,w,s,A,y,u,R,i,d,k⟩;show u9 d ?_;clear d;intro x g h1 d;ext d;show⟨v,w,s,x,g,R,i,h1,λh G n j o B=>k h z n j o<|i.mono j⟩
def a8P{mt:MT}(hc:PT X c (Ŏ X.K mt))(I:Ş X body (Ŗ X.K ms))(J:Ş X orelse (Ŗ X.K mu)):PS X (.If c body orelse pos) (Ŗ X.K<|bK mt ms mu):=nH (b3F hc I J)<|by
 rintro E M H ⟨L,z,K,w,o,j,R,y,v,k⟩;show bR v ?_;clear v;intro x i h1 v;show⟨L,z,K,x,i,R,y,h1,λn G p A=>?_⟩;let B:rB X.K E n i.length G w o j:=by
  cases w with
  |nx=>show λg h s u R2 q=>k g h s (p.trans u) R2 q|bk=>show λg h s u R2 q=>k g h s (p.trans u) R2 q|ct=>show λg h s u R2 q=>k g h s (p.trans u) R2 q|rt d=>show KC.after k p
 cases x with
 |true=>show pS ?_;show⟨n,z,i,w,o,j,A,y.mono p,v,B⟩|false=>
  show pR ?_;show⟨n,z,i,w,o,j,A,y.mono p,v,B⟩
def FJ(s:X.N.Nodup)(hi:X.N[i]?=b3 x)(y:Loc X.env.scope x)(u:PE X e (tM X.K m))(w:fj e (b3<|.Name x d) pos.line X.env=pure false:=by rfl)(v:X.fn x=dI\/X.env.scope.names.lookup x=b3 .local:=by first|show .inl rfl|show .inr rfl|assumption):PS X (.Assign [.Name x d] e pos) (Ŗ X.K<|fN i m):=nH (a8S s hi y u w v)<|by
 rintro E M H ⟨G,I,A,K,J,B,R,n,g,k⟩;show u9 g ?_;clear g;intro x h h1 g;ext g;show⟨G,I,A,x,h,R,n,h1,λj L p o q z=>k j _ p o q<|(n.mono o).set z i⟩
abbrev xT(n:Nat)(ds:List D):aG:=ds.map b3++Ϣ (n-ds.length) b4
abbrev Bv(n:Nat)(m:MS):MF:=λds a=>(m (xT n ds) a).bind λp=>match p.1 with|.rt d=>b3 (d,p.2.2)|.nx=>b3 (.non,p.2.2)|_=>b4
def a8O(h:Ç K π n H vs ds)(k:vs.length<=N.length):En K π n H (L2.start N vs) (xT N.length ds):=by
 let a:=h.length;show⟨by simp[L2.start,xT,a],λi d e=>?_⟩;unfold xT at e;ext L2.start;by_cases hi:i<ds.length
 .rw[ϕ<|by apply hi,ÿ]at e;let⟨j,h1,b⟩:=ì.mp e;ext b;let⟨v,c,g⟩:=h.get h1;show⟨v,by rw[ϕ<|by rw[Ã,a];show hi,ÿ,c];rfl,g⟩
 .rw[jb<|by apply qy.mp hi]at e;have:=M1 (n:=N.length-ds.length) (a:=(b4:Option D)) (i:=i-(ds.map b3).length);rw[this]at e;split at e<;>simp at e
def a8I(F:ϧ K x a st f p)(S:Ĭ N ps (dM st))(g:ps.length<=N.length)(c:∀b A outer s H E,ê k (A.deeper<|SE a (dM st) s.heap.objs.size f b)->
   Ş (oK iZ P w K mg base N a (dM st) f b A outer s H E).nox (iJ st) (Ŗ K m)):ĺ P w K mg base iZ (k+1) f p ps (mI K ps.length<|Bv N.length m):=by
 show F.ok S (λI H Q E h=>h.1) λb A outer s H I Q E B h=>⟨_,c b A outer s H E B,?_⟩;let⟨G,M,ds,J,d,L,R,i,e,u⟩:=h;obtain⟨⟨q,o,j⟩,h1,e⟩:=è.mp e;show⟨M,_,J,q,o,j,R,a8O i<|by rw[G];show g,h1,?_⟩;cases q with
 |rt U=>ext e;show u|nx=>ext e;show λn O v z y T=>u n .non v z y .non|bk=>ext e|ct=>ext e
open SeqAt (EqAt RcAt RcNeAt)
inductive KD where
 |non|bl (b:Bool)|int (i:Int)|str (x:Str)|tup (n:Nat)|lst (n:Nat)
inductive ζ (s:Ù):Value->KD->Prop where
 |non:ζ s .none .non
 |bl (b:Bool):ζ s (.bool b)<|.bl b
 |int (i:Int)(t:aq):ζ s (.int i t)<|.int i
 |str (x:Str)(t:aq):ζ s (.str x t)<|.str x
 |tup {l:Addr}{its:gw}(h:s.heap.IsTuple l its.toArray):ζ s (.ref l)<|.tup its.length
 |lst {l:Addr}{its:gw}(h:s.heap.IsList l its.toArray):ζ s (.ref l)<|.lst its.length
abbrev xU(e:Nat->Bool):KD->KD->Bool
 |.non,.non=>dI|.bl a,.bl b=>a==b|.bl a,.int b=>(if a then 1 else 0)==b|.int a,.bl b=>a==(if b then 1 else 0)|.int a,.int b=>a==b|.str a,.str b=>a==b|.tup n,.tup k=>(ą<|min n k).all e&&n==k|.lst n,.lst k=>(ą<|min n k).all e&&n==k|_,_=>b5
abbrev xV(A:Ŧ)(s:Ù)(u v:Value)(e:Nat->Bool):Prop:=
 (∀l b c a,u=.ref l->v=.ref b->s.heap.IsTuple l c->s.heap.IsTuple b a->∀j (h1:j<c.size)(d:j<a.size),EqAt A.in1 s c[j] a[j] (e j)) /\
 (∀l b c a,u=.ref l->v=.ref b->s.heap.IsList l c->s.heap.IsList b a->∀j (h1:j<c.size)(d:j<a.size),EqAt A.in1 s c[j] a[j] (e j))
def FK e(h:n=k):((ą<|min n k).all e&&n==k)=(ą n).all e:=by subst h;simp
def FL e(h:n≠k):((ą<|min n k).all e&&n==k)=false:=by simp[h]
def Bw(h:ζ s u k)(h':ζ s v k')(c:A.units<Ą)(o:xV A s u v e):RcAt A s u v (xU e k k'):=by
 cases h with
 |non=>
  cases h' with
  |non=>show RcAt.none_none|bl b=>show RcAt.none_bool b|int i t=>show RcAt.none_int i t|str x t=>show RcAt.none_str x t|tup h=>show RcAt.none_tuple h c|lst h=>show RcAt.none_list h c
 |bl a=>
  cases h' with
  |non=>show RcAt.bool_none a|bl b=>show RcAt.bool_bool a b|int i t=>show RcAt.bool_int a i t|str x t=>show RcAt.bool_str a x t|tup h=>show RcAt.bool_tuple a h c|lst h=>show RcAt.bool_list a h c
 |int a j=>
  cases h' with
  |non=>show RcAt.int_none a j|bl b=>show RcAt.int_bool a j b|int i t=>show RcAt.int_int a j i t|str x t=>show RcAt.int_str a j x t|tup h=>show RcAt.int_tuple a j h c|lst h=>show RcAt.int_list a j h c
 |str a j=>
  cases h' with
  |non=>show RcAt.str_none a j|bl b=>show RcAt.str_bool a j b|int i t=>show RcAt.str_int a j i t|str x t=>show RcAt.str_str a j x t|tup h=>show RcAt.str_tuple a j h c|lst h=>show RcAt.str_list a j h c
 |tup g=>
  cases h' with
  |non=>show RcAt.tuple_none g c|bl b=>show RcAt.tuple_bool b g c|int i t=>show RcAt.tuple_int i t g c|str x t=>show RcAt.tuple_str x t g c|tup h=>have:=RcAt.tuples (e:=e) g h c<|o.1 _ _ _ _ rfl rfl g h;show this|lst h=>show RcAt.tuple_list g h c
 |lst g=>
  cases h' with
  |non=>show RcAt.list_none g c|bl b=>show RcAt.list_bool b g c|int i t=>show RcAt.list_int i t g c|str x t=>show RcAt.list_str x t g c|tup h=>show RcAt.list_tuple g h c|@lst b d h=>
   rename_i l its;by_cases n:its.length=d.length
   .have:=RcAt.lists (e:=e) g h (by apply n) c<|o.2 _ _ _ _ rfl rfl g h;change RcAt A s _ _ ((ą<|min its.length d.length).all e&&its.length==d.length);rw[FK e n];apply this
   .have:=RcAt.lists_lengths g h (by apply n) c;change RcAt A s _ _ ((ą<|min its.length d.length).all e&&its.length==d.length);rw[FL e n];show this
def a8F(h:ζ s u k)(h':ζ s v k')(c:A.units<Ą)(o:xV A s u v e):RcNeAt A s u v (!xU e k k'):=by
 cases h with
 |non=>
  cases h' with
  |non=>show RcNeAt.none_none|bl b=>show RcNeAt.none_bool b|int i t=>show RcNeAt.none_int i t|str x t=>show RcNeAt.none_str x t|tup h=>show RcNeAt.none_tuple h c|lst h=>show RcNeAt.none_list h c
 |bl a=>
  cases h' with
  |non=>show RcNeAt.bool_none a|bl b=>show RcNeAt.bool_bool a b|int i t=>show RcNeAt.bool_int a i t|str x t=>show RcNeAt.bool_str a x t|tup h=>show RcNeAt.bool_tuple a h c|lst h=>show RcNeAt.bool_list a h c
 |int a j=>
  cases h' with
  |non=>show RcNeAt.int_none a j|bl b=>show RcNeAt.int_bool a j b|int i t=>show RcNeAt.int_int a j i t|str x t=>show RcNeAt.int_str a j x t|tup h=>show RcNeAt.int_tuple a j h c|lst h=>show RcNeAt.int_list a j h c
 |str a j=>
  cases h' with
  |non=>show RcNeAt.str_none a j|bl b=>show RcNeAt.str_bool a j b|int i t=>show RcNeAt.str_int a j i t|str x t=>show RcNeAt.str_str a j x t|tup h=>show RcNeAt.str_tuple a j h c|lst h=>show RcNeAt.str_list a j h c
 |tup g=>
  cases h' with
  |non=>show RcNeAt.tuple_none g c|bl b=>show RcNeAt.tuple_bool b g c|int i t=>show RcNeAt.tuple_int i t g c|str x t=>show RcNeAt.tuple_str x t g c|tup h=>have:=RcNeAt.tuples (e:=e) g h c<|o.1 _ _ _ _ rfl rfl g h;show this|lst h=>show RcNeAt.tuple_list g h c
 |lst g=>
  cases h' with
  |non=>show RcNeAt.list_none g c|bl b=>show RcNeAt.list_bool b g c|int i t=>show RcNeAt.list_int i t g c|str x t=>show RcNeAt.list_str x t g c|tup h=>show RcNeAt.list_tuple g h c|@lst b d h=>
   rename_i l its;by_cases n:its.length=d.length
   .have:=RcNeAt.lists (e:=e) g h (by apply n) c<|o.2 _ _ _ _ rfl rfl g h;change RcNeAt A s _ _ (!((ą<|min its.length d.length).all e&&its.length==d.length));rw[FK e n];apply this
   .have:=RcNeAt.lists_lengths g h (by apply n) c;change RcNeAt A s _ _ (!((ą<|min its.length d.length).all e&&its.length==d.length));rw[FL e n];show this
def a8D(h:ζ s u k)(h':ζ s v k')(c:A.units<Ą)(o:xV A s u v e)(n:∀l b,u=.ref l->v=.ref b->l≠b):EqAt A s u v (xU e k k'):=by
 cases h with
 |non=>
  cases h' with
  |non=>show EqAt.same _|bl b=>show EqAt.none_bool b|int i t=>show EqAt.none_int i t|str x t=>show EqAt.none_str x t|tup h=>show EqAt.none_tuple h c|lst h=>show EqAt.none_list h c
 |bl a=>
  cases h' with
  |non=>show EqAt.bool_none a|bl b=>show EqAt.bool_bool a b|int i t=>show EqAt.bool_int a i t|str x t=>show EqAt.bool_str a x t|tup h=>show EqAt.bool_tuple a h c|lst h=>show EqAt.bool_list a h c
 |int a d=>
  cases h' with
  |non=>show EqAt.int_none a d|bl b=>show EqAt.int_bool a d b|int i t=>show EqAt.int_int a d i t|str x t=>show EqAt.int_str a d x t|tup h=>show EqAt.int_tuple a d h c|lst h=>show EqAt.int_list a d h c
 |str a d=>
  cases h' with
  |non=>show EqAt.str_none a d|bl b=>show EqAt.str_bool a d b|int i t=>show EqAt.str_int a d i t|str x t=>show EqAt.str_str a d x t|tup h=>show EqAt.str_tuple a d h c|lst h=>show EqAt.str_list a d h c
 |@tup l its g=>
  cases h' with
  |non=>show EqAt.tuple_none g c|bl b=>show EqAt.tuple_bool b g c|int i t=>show EqAt.tuple_int i t g c|str x t=>show EqAt.tuple_str x t g c|@tup b j h=>show EqAt.of_refs (n l b rfl rfl) (Bw (k:=.tup its.length) (k':=.tup j.length) (.tup g) (.tup h) c o)|lst h=>show EqAt.tuple_list g h c
 |@lst l its g=>
  cases h' with
  |non=>show EqAt.list_none g c|bl b=>show EqAt.list_bool b g c|int i t=>show EqAt.list_int i t g c|str x t=>show EqAt.list_str x t g c|tup h=>show EqAt.list_tuple g h c|@lst b j h=>show EqAt.of_refs (n l b rfl rfl)<|Bw (k:=.lst its.length) (k':=.lst j.length) (.lst g) (.lst h) c o
inductive wk where
 |non|bl (b:Bool)|int (i:Int)|str (x:Str)|tup (xs:List D)|lst (xs:List D)
abbrev kI(c:Hm):D->Option wk
 |.non=>b3 .non|.bl b=>b3 (.bl b)|.int i=>b3 (.int i)|.str x=>b3 (.str x)|.tup xs=>b3 (.tup xs)|.rol xs=>b3 (.lst xs)|.loc a=>match c[a]? with|some (.lst xs)=>b3 (.lst xs)|_=>b4
 |.ty _=>b4
abbrev lE(f:D->D->Option Bool):List D->List D->Option Bool
 |x::xs,y::ys=>(f x y).bind λb=>(lE f xs ys).map λc=>b&&c|[],[]=>b3 dI|_,_=>b3 b5
abbrev vC(f:D->D->Option Bool):wk->wk->Option Bool
 |.non,.non=>b3 dI|.bl a,.bl b=>b3 (a==b)|.bl a,.int b=>b3 ((if a then 1 else 0)==b)|.int a,.bl b=>b3 (a==(if b then 1 else 0))|.int a,.int b=>b3 (a==b)|.str a,.str b=>b3 (a==b)|.tup xs,.tup ys=>lE f xs ys|.lst xs,.lst ys=>lE f xs ys|_,_=>b3 b5
noncomputable abbrev Bx(f:D->D->Option Bool):D->D->Option Bool:=f
def FN(h:Bx f x y=b3 b):f x y=b3 b\/(b=dI/\∃a,x=.loc a/\y=.loc a):=.inl h
abbrev eI:Nat->Hm->D->D->Option Bool
 |0,_,_,_=>b4|n+1,μ,x,y=>(kI μ x).bind λa=>(kI μ y).bind λb=>vC (Bx<|eI n μ) a b
noncomputable abbrev pT(n:Nat)(a:Hm):D->D->Option Bool:=Bx<|eI n a
abbrev By:wk->KD
 |.non=>.non|.bl b=>.bl b|.int i=>.int i|.str x=>.str x|.tup xs=>.tup xs.length|.lst xs=>.lst xs.length
abbrev tD:wk->List D
 |.tup xs=>xs|.lst xs=>xs|_=>[]
section
variable{X:Cx}{Do:jw}{σ:St}{H:Hp}{s:Ù}{π:Nat->Addr}{μ:Hm}
inductive ń (X:Cx)(π:Nat->Addr)(n:Nat)(H:Hp)(s:Ù)(u:Value):wk->Prop where
 |non (h:u=.none):ń X π n H s u .non
 |bl (b:Bool)(h:u=.bool b):ń X π n H s u<|.bl b
 |int (i:Int)(t:aq)(h:u=.int i t):ń X π n H s u<|.int i
 |str (x:Str)(t:aq)(h:u=.str x t):ń X π n H s u<|.str x
 |tup {xs:List D}(p:Addr)(vs:gz)(its:gw)(h:u=.ref p)(q:ç X.K H p vs)(i:Ç X.K π n H vs xs)(r:Å vs its)(t:s.heap.IsTuple p its.toArray):ń X π n H s u<|.tup xs
 |lst {xs:List D}(p:Addr)(vs:gz)(its:gw)(h:u=.ref p)(q:Ĉ X.K H p vs)(i:Ç X.K π n H vs xs)(r:Å vs its)(t:s.heap.IsList p its.toArray):ń X π n H s u<|.lst xs
def tE(I:Â X Do σ H s)(R:Rp X.K π H μ)(h:Ú X.K π μ.length H v d)(r:Í v u)(e:kI μ d=b3 k):ń X π μ.length H s u k:=by
 cases h with
 |non=>ext e;show .non r|bl b=>ext e;show .bl b r|int i=>ext e;let⟨t,q⟩:=r;show .int i t q|str x=>ext e;let⟨t,q⟩:=r;show .str x t q|ty x=>ext e|tup q t=>ext e;let⟨its,c,p,_⟩:=I.tuple q;show .tup _ _ its r q t c p|rol q t=>ext e;let⟨its,c,p,_⟩:=I.list q.sq;show .lst _ _ its r q.sq t c p.isList|@loc a w=>
  dsimp[kI]at e;split at e
  .rename_i o j;ext e;let⟨n,h1,g⟩:=R.lst a o j;let q:Ĉ X.K H (π a) n:=.of h1;let⟨its,c,p,_⟩:=I.list q;show .lst _ _ its r q g c p.isList
  .ext e
def ń.isK(h:ń X π n H s u k):ζ s u (By k):=by
 cases h with
 |non h=>subst h;show .non|bl b h=>subst h;show .bl b|int i t h=>subst h;show .int i t|str x t h=>subst h;show .str x t|tup p a its h q i r t=>subst h;have:its.length=_:=r.length.symm.trans i.length;change ζ s (.ref p) (.tup _);rw[<- this];show .tup t|lst p a its h q i r t=>subst h;have:its.length=_:=r.length.symm.trans i.length;change ζ s (.ref p) (.lst _);rw[<- this];show .lst t
abbrev lF(f:D->D->Option Bool)(xs a:List D)(j:Nat):Bool:=match xs[j]?,a[j]? with
 |some x,b3 y=>(f x y).getD b5|_,_=>b5
def Bz:∀{xs a}{b},lE f xs a=b3 b->b=((ą<|min xs.length a.length).all (lF f xs a)&&xs.length==a.length)/\∀j x y,xs[j]?=b3 x->a[j]?=b3 y->f x y=b3 (lF f xs a j)
 |[],[],b,h=>by ext h;show⟨rfl,λj x y e=>by simp at e⟩
 |x::xs,[],b,h=>by ext h;show⟨∅,λj x y _ e=>by simp at e⟩
 |[],y::a,b,h=>by ext h;show⟨∅,λj x y e=>by simp at e⟩
 |x::xs,y::a,b,h=>by
  dsimp[lE]at h;let⟨c,h1,n⟩:=è.mp h;let⟨d,o,p⟩:=ì.mp n;let⟨q,u⟩:=Bz o;let h0:lF f (x::xs) (y::a) 0=c:=by simp[lF,h1]
  let k:∀j,lF f (x::xs) (y::a) (j+1)=lF f xs a j:=λj=>by simp[lF]
  show⟨?_,λj v w g i=>?_⟩
  .subst p;rw[q];dsimp[Ŋ,Nat.add_min_add_right];rw[RJ,Ő,O9,h0];have:(lF f (x::xs) (y::a)∘Nat.succ)=lF f xs a:=funext λj=>k j;rw[this];simp[Bool.and_assoc]
  .cases j with
   |zero=>simp at g i;subst g;subst i;rw[h0,h1]|succ j=>rw[k j];show u j v w (by apply g)<|by apply i
def FP(h:vC f k k'=b3 b):b=xU (lF f (tD k)<|tD k') (By k) (By k'):=by
 ext k<;>ext k'<;>first
  |(have a:=Ė h;subst a;rfl)|(let⟨h1,_⟩:=Bz h;rw[h1];rfl)
def a8C(I:Â X Do σ H s)(R:Rp X.K π H μ):∀n{v}{u}{x y}{b},Í v u->Ú X.K π μ.length H v x->Ú X.K π μ.length H v y->eI n μ x y=b3 b->b=true:=by
 intro n;induction n with
 |zero=>intro v u x y b _ _ _ h;ext h|succ n ih=>
  intro v u x y b r hx hy h;let⟨k,h1,h⟩:=è.mp h;let⟨k',h2,h⟩:=è.mp h;let a1:=tE I R hx r h1;let B:=tE I R hy r h2;let g:∀{vs:gz}{xs T:List D}{c:Bool},(∀v∈vs,∃u,Í v u)->Ç X.K π μ.length H vs xs->Ç X.K π μ.length H vs T->lE (pT n μ) xs T=b3 c->c=true:=by
   intro vs;induction vs with
   |nil=>intro xs T c _ Y A h;ext Y;ext A;ext h;rfl|cons w vs Z=>
    intro xs T c hr Y A h;cases Y with
    |cons p1 t1=>
     cases A with
     |cons L G=>dsimp[lE]at h;let⟨c1,h1,h3⟩:=è.mp h;let⟨c2,h4,h5⟩:=ì.mp h3;let⟨Q,N⟩:=hr w<|ţ ..;let a:c1=true:=(FN h1).elim (ih N p1 L) (·.1);let o:=Z (λv K=>hr v<|ŏ _ K) t1 G h4;subst a;subst o;show h5.symm
  cases a1 with
  |non a=>
   subst a;cases B with
   |non _=>show(Ė h).symm|bl _ e=>ext e|int _ _ e=>ext e|str _ _ e=>ext e|tup _ _ _ e=>ext e|lst _ _ _ e=>ext e
  |bl c a=>
   subst a;cases B with
   |non e=>ext e|bl _ e=>ext e;show(Ė h).symm.trans (beq_self_eq_true _)|int _ _ e=>ext e|str _ _ e=>ext e|tup _ _ _ e=>ext e|lst _ _ _ e=>ext e
  |int c t a=>
   subst a;cases B with
   |non e=>ext e|bl _ e=>ext e|int _ _ e=>ext e;show(Ė h).symm.trans (beq_self_eq_true _)|str _ _ e=>ext e|tup _ _ _ e=>ext e|lst _ _ _ e=>ext e
  |str c t a=>
   subst a;cases B with
   |non e=>ext e|bl _ e=>ext e|int _ _ e=>ext e|str _ _ e=>ext e;show(Ė h).symm.trans (beq_self_eq_true _)|tup _ _ _ e=>ext e|lst _ _ _ e=>ext e
  |tup p vs its a q i O t=>
   let z:ń X π μ.length H s (.ref p) _:=a▸ń.tup p vs its a q i O t;rw[a]at B;cases B with
   |non e=>ext e|bl _ e=>ext e|int _ _ e=>ext e|str _ _ e=>ext e|tup L J d o M A E G=>
    ext o;have:=I.tuple_inj q M;subst this;show g (λv K=>by
     let⟨j,U,rfl⟩:=RQ K;let⟨Q,_,N⟩:=O.get<|ā U;show⟨Q,N⟩) i A h
   |lst L J d o M A E G=>ext o;show absurd rfl<|nq G t
  |lst p vs its a q i O t=>
   rw[a]at B;cases B with
   |non e=>ext e|bl _ e=>ext e|int _ _ e=>ext e|str _ _ e=>ext e|tup L J d o M A E G=>ext o;show absurd rfl (nq t G)|lst L J d o M A E G=>
    ext o;have:=I.list_inj q M;subst this;show g (λv K=>by
     let⟨j,U,rfl⟩:=RQ K;let⟨Q,_,N⟩:=O.get<|ā U;show⟨Q,N⟩) i A h
def mN(A:Ŧ):A.in1.units=A.units+1:=rfl
def FQ(I:Â X Do σ H s)(ih:∀{A}{v v'}{u u'}{x y}{b},A.units+n<Ą->Í v u->Í v' u'->Ú X.K π μ.length H v x->Ú X.K π μ.length H v' y->eI n μ x y=b3 b->EqAt A s u u' b)(hu:A.units+(n+1)<Ą)(a1:ń X π μ.length H s u k)(a2:ń X π μ.length H s u' k')(h:vC (pT n μ) k k'=b3 b):xV A s u u' (lF (pT n μ) (tD k)<|tD k'):=by
 let J:∀{vs R:gz}{its its':gw}{xs Y:List D}{c:Bool},Å vs its->Å R its'->Ç X.K π μ.length H vs xs->Ç X.K π μ.length H R Y->lE (pT n μ) xs Y=b3 c->
   ∀j (h1:j<its.length)(U:j<its'.length),EqAt A.in1 s its[j] its'[j] (lF (pT n μ) xs Y j):=by
  intro vs R its its' xs Y c r r' i i' e j h1 U;let l1:=r.length;let l2:=r'.length;let l3:=i.length;let l4:=i'.length;let hx:xs[j]?=b3 (xs[j]'()):=ā _;let hy:Y[j]?=b3 (Y[j]'()):=ā _;let⟨v,v1,v2⟩:=i.get hx;let⟨v',v1',v2'⟩:=i'.get hy;let⟨w,w1,w2⟩:=r.get v1;let⟨w',w1',w2'⟩:=r'.get v1';rw[ā h1]at w1;rw[ā U]at w1';ext w1;ext w1';let key:∀{x y:D}{b:Bool},Ú X.K π μ.length H v x->Ú X.K π μ.length H v' y->pT n μ x y=b3 b->EqAt A.in1 s its[j] its'[j] b:=λ{x y b} i1 K hq=>by
   rcases FN hq with hq|⟨rfl,a,rfl,rfl⟩
   .show ih (by rw[mN];lia) w2 w2' i1 K hq
   .ext i1;ext K;let z1:its[j]=Ö (π a):=w2;let z2:its'[j]=Ö (π a):=w2';rw[z1,z2];show EqAt.same _
  show key v2 v2'<|(Bz e).2 j _ _ hx hy
 constructor
 .intro l b' G B e1 e2 t1 t2 j h1 U;subst e1;subst e2;cases a1 with
  |tup p vs its e q i r t=>
   ext e;cases a2 with
   |tup p2 T E d q2 K Z Q=>
    ext d;let z1:G=its.toArray:=by let⟨o,L,g2,n1,N⟩:=t1;let⟨o',g,M,O,z⟩:=t;rw[L]at g;ext g;rw[N]at z;injection z
    let z2:B=E.toArray:=by let⟨o,L,g2,n1,N⟩:=t2;let⟨o',g,M,O,z⟩:=Q;rw[L]at g;ext g;rw[N]at z;injection z
    subst z1;subst z2;have:=J r Z i K h j (by apply h1) (by apply U);simpa[tD]using this
   |lst p2 T E d q2 K Z Q=>ext d;show absurd rfl (nq Q t2)|non d=>ext d|bl _ d=>ext d|int _ _ d=>ext d|str _ _ d=>ext d
  |lst p vs its e q i r t=>ext e;show absurd rfl (nq t t1)|non e=>ext e|bl _ e=>ext e|int _ _ e=>ext e|str _ _ e=>ext e
 .intro l b' G B e1 e2 t1 t2 j h1 U;subst e1;subst e2;cases a1 with
  |lst p vs its e q i r t=>
   ext e;cases a2 with
   |lst p2 T E d q2 K Z Q=>
    ext d;let z1:G=its.toArray:=by let⟨o,L,g2,n1,N⟩:=t1;let⟨o',g,M,O,z⟩:=t;rw[L]at g;ext g;rw[N]at z;injection z
    let z2:B=E.toArray:=by let⟨o,L,g2,n1,N⟩:=t2;let⟨o',g,M,O,z⟩:=Q;rw[L]at g;ext g;rw[N]at z;injection z
    subst z1;subst z2;have:=J r Z i K h j (by apply h1) (by apply U);simpa[tD]using this
   |tup p2 T E d q2 K Z Q=>ext d;show absurd rfl (nq t2 Q)|non d=>ext d|bl _ d=>ext d|int _ _ d=>ext d|str _ _ d=>ext d
  |tup p vs its e q i r t=>ext e;show absurd rfl (nq t1 t)|non e=>ext e|bl _ e=>ext e|int _ _ e=>ext e|str _ _ e=>ext e
def BA(I:Â X Do σ H s)(R:Rp X.K π H μ):∀n{A}{v c}{u a}{x y}{b},A.units+n<Ą->Í v u->Í c a->Ú X.K π μ.length H v x->Ú X.K π μ.length H c y->eI n μ x y=b3 b->EqAt A s u a b:=by
 intro n;induction n with
 |zero=>intro A v c u a x y b _ _ _ _ _ h;ext h|succ n G=>
  intro A v c u a x y b E r o i j h;let h0:=h;let⟨k,h1,h⟩:=è.mp h;let⟨K,w,h⟩:=è.mp h;let d:=tE I R i r h1;let e:=tE I R j o w;by_cases g:u=a
  .subst g;have:v=c:=r.inj o;subst this;have:=a8C I R (n+1) r i j h0;subst this;show EqAt.same _
  .let B:=FQ I G E d e h;rw[FP h];show a8D d.isK e.isK () B λl J p q z=>g<|by rw[p,q,z]
def FR(I:Â X Do σ H s)(R:Rp X.K π H μ)n(j:A.units+n<Ą)(r:Í v u)(q:Í g d)(o:Ú X.K π μ.length H v x)(p:Ú X.K π μ.length H g y)(h:eI n μ x y=b3 b):
  RcAt A s u d b/\RcNeAt A s u d (!b):=by
 cases n with
 |zero=>ext h|succ n=>let⟨k,h1,h⟩:=è.mp h;let⟨w,i,h⟩:=è.mp h;let a:=tE I R o r h1;let c:=tE I R p q i;let e:=FQ I (A:=A) (BA I R n) j a c h;rw[FP h];show⟨Bw a.isK c.isK () e,a8F a.isK c.isK () e⟩
end
abbrev oM(g:Int->Int->Option Int):D->D->Hm->jk
 |.int i,.int j,μ=>(g i j).map λz=>(.int z,μ)|_,_,_=>b4
def FT(h:oM g x y a=b3 (d,μ')):∃i j z,x=.int i/\y=.int j/\g i j=b3 z/\d=.int z/\μ'=a:=by
 unfold oM at h;split at h
 .rename_i i j;let⟨z,h1,b⟩:=ì.mp h;ext b;show⟨i,j,z,rfl,rfl,h1,rfl,rfl⟩
 .ext h
def xW{g':Int->Int->Int}(b:∀i j z,g i j=b3 z->a i j/\z=g' i j):eH K (oM g) (rI a λi j=>.int<|g' i j):=by intro p H u x y d o q s Q R h n e k;let⟨i,j,z,rfl,rfl,h1,rfl,rfl⟩:=FT e;ext h;ext n;let⟨c,rfl⟩:=b i j z h1;show⟨i,j,rfl,rfl,c,k p _ H .refl R<|.int _⟩
def a8B{g':Int->Int->Int}:eH K (oM λi j=>b3<|g' i j) (kG λi j=>.int<|g' i j):=by intro g H o x y d e h n Q R b c a k;let⟨i,j,z,rfl,rfl,h1,rfl,rfl⟩:=FT a;ext b;ext c;ext h1;show⟨i,j,rfl,rfl,k g _ H .refl R<|.int _⟩
abbrev iN:=oM λi j=>b3<|i-j
abbrev FU:=oM λi j=>if((-(2^64)<i/\i<2^64)\/(-(2^64)<j/\j<2^64))\/(i.natAbs<2^4000/\j.natAbs<2^4000)\/Ŷ i+Ŷ j<=134217728 then b3 (i*j)else b4
abbrev b7:D->D->Hm->jk
 |x,y,μ=>FU x y μ
abbrev kJ:=oM λi j=>if 0<j/\j<2^4000 then b3 (i/j)else b4
abbrev bZ:=oM λi j=>if 0<j then b3 (i%j)else b4
abbrev rG:=oM λi j=>if(0<=j/\j<=1000000/\i.natAbs<2^64)\/(0<=j/\j<=100/\i.natAbs<2^4000)then b3 (i^j.toNat)else b4
abbrev Γ(i j:Int):Prop:=qj i j\/(i.natAbs<2^4000/\j.natAbs<2^4000)\/Ŷ i+Ŷ j<=134217728
abbrev FV(i j:Int):Prop:=0<j/\j<2^4000
abbrev FW(i j:Int):Prop:=a6R i j\/(0<=j/\j<=100/\i.natAbs<2^4000)
def BB(h:i.natAbs<2^4000):Ŷ i<=4000:=by
 ext Ŷ;split
 .show ĸ _
 .rename_i a;let h0:i.natAbs≠0:=by intro z;show a<|by apply z
  have:=(Q0 h0).mpr h;lia
def Γ.ok(h:Γ i j):M4 i j:=by
 rcases h with h|⟨h1,b⟩|h
 .show h.ok
 rotate_left
 .let a:NR (Ŷ i+Ŷ j)=false:=by
   ext NR;rw[decide_eq_false];have:bitsLine=134217728:=⋯
   lia
  ext M4;rw[a];simp
 .let c:=BB h1;let d:=BB b;let a:NR (Ŷ i+Ŷ j)=false:=by
   ext NR;rw[decide_eq_false];have:(8000:Int)<=bitsLine:=⋯
   lia
  ext M4;rw[a];simp
def b3M:đ X (Τ .Mult) (rI Γ λi j=>.int<|i*j):=xH λ_ _ _ _ _ _ _ hc q=>b4A q hc.ok
def b3J:đ X (Τ .FloorDiv) (rI FV λi j=>.int<|i/j):=xH λi j _ _ _ _ _ hc q=>by
 let h1:(0:Int)<j:=hc.1;let b:j<2^4000:=hc.2;let h0:j.natAbs≠0:=()
 let a:j.natAbs<2^4000:=by
  have:((2^4000:Nat):Int)=2^4000:=⋯
  lia
 let c:=(Q0 h0).mpr a;show b4C () (by rw[Int.fdiv_eq_ediv_of_nonneg i ()];show q)<|.inl<|PyProof.noPylong_of_log2 ()
def b3I:đ X (Τ .Pow) (rI FW λi j=>.int<|i^j.toNat):=xH λi j _ _ _ _ _ hc q=>by
 rcases hc with hc|⟨h1,a,c⟩
 .show b4x hc.1 hc.2.1 hc.2.2 q
 .let b:=BB c;show b4y h1 ?_ q;have:(Ŷ i:Int)*j<=4000*100:=Int.mul_le_mul () a h1 ();lia
def xX[Decidable c]{a:Int}(h:(if c then b3 a else b4)=b3 z):c/\z=a:=by
 split at h
 .ext h;show⟨by assumption,rfl⟩
 .ext h
def b3G:eH K iN (kG λi j=>.int<|i-j):=a8B
def b3E:eH K FU (rI Γ λi j=>.int<|i*j):=xW λi j z h=>by have:=xX h;show this
def b3D:eH K b7 (rI Γ λi j=>.int<|i*j):=b3E
def b3A:eH K kJ (rI FV λi j=>.int<|i/j):=xW λi j z h=>by have:=xX h;show this
def b2v:eH K bZ (rI (λ_ j=>0<j) λi j=>.int<|i%j):=xW λ_ _ _ h=>xX h
def b2p:eH K rG (rI FW λi j=>.int<|i^j.toNat):=xW λi j z h=>by have:=xX h;show this
abbrev BC:D->Option D
 |.int i=>b3 (.int<|-i)|_=>b4
abbrev bI:D->D->Hm->jk
 |.int i,.int j,μ=>b3 (.int<|i+j,μ)|.str x,.str y,μ=>if x.length+y.length<=Ò then b3 (.str<|x++y,μ)else b4|.loc a,.loc b,μ=>match μ[a]?,μ[b]? with
  |some<|.lst xs,b3 (.lst ys)=>if xs.length+ys.length<=Ò then b3 (.loc μ.length,μ++[.lst<|xs++ys])else b4|_,_=>b4
 |.tup xs,.tup ys,μ=>if xs≠[]/\ys≠[]/\xs.length+ys.length<=Ò then b3 (.tup<|xs++ys,μ)else b4|_,_,_=>b4
abbrev BE(K:Ô):R2:=λx y H Q=>kG (λi j=>.int<|i+j) x y H Q\/(∃i j,x=.str i/\y=.str j/\i.length+j.length<=Ò/\Q (.str<|i++j) H)\/Ft x y H Q
def ak:đ X (Τ .Add) (BE X.K):=jl.or<|Ν.or b0M
abbrev BF(K:Ô):R2:=λx y H Q=>BE K x y H Q\/Fe K x y H Q
def b2o:đ X (Τ .Add) (BF X.K):=ak.or b1i
def BG(h:BE K x y H Q):BF K x y H Q:=.inl h
def b2m:eH K bI (BF K):=by
 intro u H M x y d I J L Q R j n a k;unfold bI at a;split at a
 .ext a;ext j;ext n;show BG<|.inl ⟨_,_,rfl,rfl,k u _ H .refl R<|.int _⟩
 .split at a
  .rename_i o;ext a;ext j;ext n;show BG<|.inr<|.inl ⟨_,_,rfl,rfl,o,k u _ H .refl R<|.str _⟩
  .ext a
 .split at a
  .rename_i A B G c;split at a
   .rename_i o;ext a;ext j;ext n;let⟨w,h1,g⟩:=R.lst _ A G;let⟨z,E,v⟩:=R.lst _ B c;show BG (.inr<|.inr ⟨_,_,w,z,rfl,rfl,by first|show h1|show .inl<|.inl h1,E,by rw[g.length,v.length];show o,λp s=>?_⟩);let⟨b,R2,q⟩:=R.alloc (c:=.lst (A++B)) (o:=.lst (w++z)) s<|g.append v;show k _ _ _ b R2 mM
   .ext a
  .ext a
 .split at a
  .rename_i c;ext a;cases j with
   |tup h1 h=>
    cases n with
    |tup g i=>show .inr ⟨_,_,_,_,rfl,rfl,h1,g,λe=>c.1<|by rw[e]at h;ext h;rfl,by rw[h.length,i.length];show c.2.2,λe=>absurd (by rw[e]at i;ext i;rfl) c.2.1,λ_ p s=>?_⟩;let⟨b,R2⟩:=R.fresh (o:=.tup _) s;show k u _ _ b R2<|.tup (.of dU)<|(h.mono b).append<|i.mono b
  .ext a
 .ext a
abbrev iO(p:Int->Int->Bool):D->D->Hm->jk
 |.int i,.int j,μ=>b3 (.bl<|p i j,μ)|_,_,_=>b4
def lH:eH K (iO p) (kG λi j=>.bl<|p i j):=by
 intro g H o x y d e h n Q R b c a k;unfold iO at a;split at a
 .ext a;ext b;ext c;show⟨_,_,rfl,rfl,k g _ H .refl R<|.bl _⟩
 .ext a
abbrev hV:=iO λi j=>decide<|i<j
abbrev tF:=iO λi j=>decide<|i<=j
abbrev kK:=iO λi j=>decide<|j<i
abbrev vD:=iO λi j=>decide<|j<=i
abbrev BH(K:Ô)(ne:Bool):R2:=λx y H Q=>∃π a c d b,Rp K π H a/\Ú K π a.length H x c/\Ú K π a.length H y d/\eI 8 a c d=b3 b/\Q (.bl<|if ne then !b else b) H
def FX(c:X.A.units+8<Ą):đ X (Ķ .Eq) (BH X.K b5):=by intro a s w H x y v u Q I i j h;let⟨p,o,k,n,b,R,d,g,e,q⟩:=h;show(FR I R 8 c i j d g e).1 _ _ _ _ ⟨.bl b,H,I,rfl,q⟩
def FY(c:X.A.units+8<Ą):đ X (Ķ .NotEq) (BH X.K dI):=by intro a s w H x y v u Q I i j h;let⟨p,o,k,n,b,R,d,g,e,q⟩:=h;show(FR I R 8 c i j d g e).2 _ _ _ _ ⟨.bl<|!b,H,I,rfl,q⟩
abbrev aZ(ne:Bool):D->D->Hm->jk:=λx y a=>(eI 8 a x y).map λb=>(.bl<|if ne then !b else b,a)
def xY:eH K (aZ ne) (BH K ne):=by intro a H i x y d j n o Q R g h e k;let⟨b,h1,c⟩:=ì.mp e;ext c;show⟨a,i,x,y,b,R,g,h,h1,k a _ H .refl R<|.bl _⟩
abbrev BI:D->D->Hm->jk
 |.str i,.str j,μ=>b3 (.bl<|!(je j i 0 j.length 1).isEmpty,μ)|_,_,_=>b4
def FZ:eH K BI (λx y H Q=>∃i j,x=.str i/\y=.str j/\Q (.bl<|!(je j i 0 j.length 1).isEmpty) H):=by
 intro g H o x y d e h n Q R b c a k;unfold BI at a;split at a
 .ext a;ext b;ext c;show⟨_,_,rfl,rfl,k g _ H .refl R<|.bl _⟩
 .ext a
def xZ(r:ê k A):A.units+8<Ą:=by have:=r.un;lia
def b2l(v:PE X a (tM X.K ma)):PE X (.UnaryOp .USub a pos) (tM X.K λj g=>(ma j g).bind λp=>(BC p.1).map λd=>(d,p.2)):=eM (a6V a6D v)<|by
 rintro I H Q ⟨B,j,g,d,z,R,E,e,k⟩;show bR e ?_;clear e;intro x A h1 e;let⟨y,n,u⟩:=ì.mp e;ext u;cases x with
 |int i=>ext n;show⟨B,j,g,_,_,R,E,h1,λh G o s q w=>?_⟩;ext w;show⟨_,rfl,k h _ o s q<|.int _⟩
 |_=>ext n
def b2k(d:Gl X x)(e:X.mg x=b4)(h:Ω x=b3 (.type n))(g:x ≠ "__name__":=by decide)(hd:(x==("__debug__":Str))=false:=by decide):PE X (.Name x pos) (tM X.K<|mC<|.ty n):=
 sZ (a9k (v:=.ty n) d e h rfl g hd) λ_ _ _=>.ty n
abbrev BJ(b:Hm):D->Option String
 |.non=>b3 "NoneType"|.bl _=>b3 "bool"|.int _=>b3 "int"|.str _=>b3 "str"|.tup _=>b3 "tuple"|.rol _=>b3 "list"|.loc a=>match b[a]? with
  |some (.lst _)=>b3 "list"|some (.dK _)=>b3 "dict"|some (.dT _)=>b3 "dict"|_=>b4
 |.ty _=>b4
abbrev yA(t c:String):Option Bool:=match c with
 | "int"=>b3 (t=="int" || t=="bool")| "bool"=>b3 (t=="bool")| "str"=>b3 (t=="str")| "list"=>b3 (t=="list")| "tuple"=>b3 (t=="tuple")| "dict"=>b3 (t=="dict")|_=>b4
abbrev mO:MF:=λds a=>match ds with
 |[x,.ty c]=>(BJ a x).bind λt=>(yA t c).map λb=>(.bl b,a)|_=>b4
def oN K(d:t = "NoneType"\/t = "bool"\/t = "int"\/t = "str"\/t = "tuple"\/t = "list"\/t = "dict")(h:yA t c=b3 b):Qi K (.type t) (.type c)=b3 b:=by
 unfold yA at h
 split at h<;>first
  | cases h;done
  | (have a:=Ė h;subst a
     rcases d with rfl|rfl|rfl|rfl|rfl|rfl|rfl<;>first|rfl|decide +kernel|(ext Qi;simp;rfl))
end L3
namespace L3
open PySem L2
noncomputable abbrev MG:=D->aG->Hm->Option aG
inductive Δ (K:Ô)(g:MG)(v:V)(σ:St)(H:Hp)(Q:St->Hp->Prop):Prop
 |mk (π:Nat->Addr)(ρ:aG)(μ:Hm)(d:D)(ρ':aG)(R:Rp K π H μ)(E:En K π μ.length H σ ρ)(i:Ú K π μ.length H v d)(hm:g d ρ μ=b3 ρ')(k:∀σ',En K π μ.length H σ' ρ'->Q σ' H):Δ K g v σ H Q
abbrev cL(i:Nat):MG:=λd a _=>b3<|a.set i<|b3 d
def F0(b:X.N.Nodup)(hi:X.N[i]?=b3 x)(g:Loc X.env.scope x)(c:X.fn x=dI\/X.env.scope.names.lookup x=b3 .local:=by first|show .inl rfl|show .inr rfl|assumption):PG X (.Name x pos) (Δ X.K<|cL i):=by intro a s n H v u Q I r h;let⟨p,q,o,d,j,R,E,hd,e,k⟩:=h;ext e;show EE b hi g c a s n H v u Q I r<|k _<|E.set hd i
abbrev b2j(K:Ô)(c:TE):TI:=λσ H R=>c σ H λx b=>∃a,x=.ref a/\(((∃xs,Ĉ K b a xs)/\R (Ba K a) b)\/((∃xs,ç K b a xs)/\R (Bb K a) b))
def b2h(u:PE X l n):PI X tg l (b2j X.K n):=by
 intro g s E H R I h;show aW (u g s E H _ I h) λv c ⟨x,k,d,z,y⟩=>?_;let⟨a,e,q⟩:=y;subst e;ext z;rcases q with⟨⟨B,j⟩,q⟩|⟨⟨B,j⟩,q⟩
 .let⟨its,A,p,w⟩:=d.list j;show uy p.isList ?_;show⟨c.heap.objs.size,[c.heap.objs.size],_,_,k,rfl,d.kept (t':=c.toks) λb o e=>á _ e,a7y a _,⟨_,Ċ _ rfl,rfl,rfl⟩,λb i=>?_,q⟩;let e:b=c.heap.objs.size:=by apply i
  subst e;show d.fpOk (Ø _)<|d.hok.fresh<|Ø _
 .let⟨its,A,p,w⟩:=d.tuple j;show um (show c.heap.IsTuple a its.toArray from p) ?_;show⟨c.heap.objs.size,[c.heap.objs.size],_,_,k,rfl,d.kept (t':=c.toks) λb o e=>á _ e,a7v a _,⟨_,Ċ _ rfl,rfl,rfl⟩,λb i=>?_,q⟩;let e:b=c.heap.objs.size:=by apply i
  subst e;show d.fpOk (Ø _)<|d.hok.fresh<|Ø _
structure Wk(K:Ô)(J:It)(src:Hm->Nat->Option (Option D))(π:Nat->Addr)(n:Nat)(H:Hp):Prop where
 stop:∀π' μ H' i,õ π n H π' μ.length H'->Rp K π' H' μ->src μ i=b3 b4->J.stop i H'
 go:∀π' μ H' i d,õ π n H π' μ.length H'->Rp K π' H' μ->src μ i=b3 (b3 d)->J.go i H'/\∀x H2,J.yld i H' x H2->õ π' μ.length H' π' μ.length H2/\Rp K π' H2 μ/\Ú K π' μ.length H2 x d
abbrev oO(x:D):Hm->Nat->Option (Option D):=λa i=>(bO a x).map λxs=>xs[i]?
def b2g(R:Rp K π H E)(h:Ú K π E.length H v x)(G:bO E x=b3 xs):
  ∃a,v=.ref a/\(((∃b,Ĉ K H a b)/\Wk K (Ba K a) (oO x) π E.length H)\/((∃b,ç K H a b)/\Wk K (Bb K a) (oO x) π E.length H)):=by
 cases h with
 |@tup p b ds q t=>
  show⟨p,rfl,.inr ⟨⟨b,q⟩,⟨λj g s i e k z=>?_,λj g s i d e k z=>?_⟩⟩⟩
  .dsimp[oO,bO,ė]at z;let c:ds[i]?=none:=Ė z;show⟨b,e.sqT q,by rw[t.length];show τ.mp c⟩
  .dsimp[oO,bO,ė]at z;let c:ds[i]?=b3 d:=Ė z;let⟨w,h1,n⟩:=t.get c;show⟨⟨b,w,e.sqT q,h1⟩,λy L ⟨u,A⟩=>?_⟩;subst u;have:=A b<|e.sqT q;rw[h1]at this;ext this;show⟨.refl,k,n.mono e⟩
 |@rol p b ds q t=>
  show⟨p,rfl,.inl ⟨⟨b,q.sq⟩,⟨λj g s i e k z=>?_,λj g s i d e k z=>?_⟩⟩⟩
  .dsimp[oO,bO,ė]at z;let c:ds[i]?=none:=Ė z;show⟨b,(e.roL q).sq,by rw[t.length];show τ.mp c⟩
  .dsimp[oO,bO,ė]at z;let c:ds[i]?=b3 d:=Ė z;let⟨w,h1,n⟩:=t.get c;show⟨⟨b,w,(e.roL q).sq,h1⟩,λy L ⟨u,A⟩=>?_⟩;subst u;have:=A b (e.roL q).sq;rw[h1]at this;ext this;show⟨.refl,k,n.mono e⟩
 |@loc a N=>
  let hc:∃b,H (π a)=b3 (.lst b):=by
   dsimp[bO]at G;split at G
   .rename_i o B;let⟨b,h1,_⟩:=R.lst a o B;show⟨b,h1⟩
   .ext G
  let⟨J,I⟩:=hc;show⟨π a,rfl,.inl ⟨⟨J,.of I⟩,⟨λj g s i e k z=>?_,λj g s i d e k z=>?_⟩⟩⟩
  .dsimp[oO,bO]at z;split at z
   .rename_i o B;let⟨b,h1,n⟩:=k.lst a o B;rw[e.pi a N]at h1;let c:o[i]?=none:=Ė z;show⟨b,.of h1,by rw[n.length];show τ.mp c⟩
   .ext z
  .dsimp[oO,bO]at z;split at z
   .rename_i o B;let⟨b,h1,n⟩:=k.lst a o B;rw[e.pi a N]at h1;let c:o[i]?=b3 d:=Ė z;let⟨w,M,O⟩:=n.get c;show⟨⟨b,w,.of h1,M⟩,λy L ⟨u,A⟩=>?_⟩;subst u;have:=A b<|.of h1;rw[M]at this;ext this;show⟨.refl,k,O⟩
   .ext z
 |_=>ext G
abbrev fP(a:Hm->Nat->Option (Option D))(g:MG)(b:MS):Nat->Nat->MS
 |0,_,_,_=>b4|n+1,i,ρ,μ=>(a μ i).bind λo=>match o with
  |none=>b3 (.nx,ρ,μ)|some d=>(g d ρ μ).bind λc=>(b c μ).bind λp=>match p.1 with
   |.nx=>fP a g b n (i+1) p.2.1 p.2.2|.ct=>fP a g b n (i+1) p.2.1 p.2.2|.bk=>b3 (.nx,p.2.1,p.2.2)|.rt d=>b3 (.rt d,p.2.1,p.2.2)
def b2f(W:Wk K J G π R Q)(hE:rB K E π R Q B p μ')(e1:õ π R Q I v.length H1)(R1:Rp K I H1 v)(E1:En K I v.length H1 σ1 U)(h:fP G g b n 0 U v=b3 (B,p,μ')):
  ∃Wd:Nat->Nat->St->Hp->Prop,(∃m,Wd 0 m σ1 H1)/\∀i m Y H,Wd i m Y H->
   (J.stop i H/\E.nx Y H)\/(J.go i H/\∃N,(∀z u,N z u->∃m',m'<m/\Wd (i+1) m' z u)/\∀x u,J.yld i H x u->Δ K g x Y u λσ2 H2=>Ŗ K b {E with nx:=N,ct:=N,bk:=E.nx} σ2 H2):=by
 let lift:∀{a:Nat->Addr}{n2:Nat}{H2:Hp}(e:õ π R Q a n2 H2){B:Fl}{p:aG}{μ':Hm},rB K E π R Q B p μ'->rB K E a n2 H2 B p μ':=λ{a n2 H2} e {B p μ'} k=>by
  cases B with
  |nx=>show λw s H3 e3 R3 O=>k w s H3 (e.trans e3) R3 O|bk=>show λw s H3 e3 R3 O=>k w s H3 (e.trans e3) R3 O|ct=>show λw s H3 e3 R3 O=>k w s H3 (e.trans e3) R3 O|rt d=>show KC.after k e
 show⟨λi m Y H=>∃a j L,õ π R Q a j.length H/\Rp K a H j/\En K a j.length H Y L/\fP G g b m i L j=b3 (B,p,μ'),⟨n,I,v,U,e1,R1,E1,h⟩,?_⟩;rintro i m Y H ⟨a,j,L,A,R2,E2,h2⟩;cases m with
 |zero=>ext h2|succ m=>
  let⟨o,h3,h4⟩:=è.mp h2;cases o with
  |none=>ext h4;show .inl ⟨W.stop a _ H i A R2 h3,hE a Y H A R2 E2⟩|some d=>
   let⟨g1,g2⟩:=W.go a j H i d A R2 h3;let⟨ρ3,h5,h6⟩:=è.mp h4;obtain⟨⟨f4,X,T⟩,h7,h8⟩:=è.mp h6;show .inr ⟨g1,λz u=>∃c M q,õ π R Q c q.length u/\Rp K c u q/\En K c q.length u z M/\fP G g b m (i+1) M q=b3 (B,p,μ'),
    λz u ⟨c,M,q,a1,a2,a3,a4⟩=>⟨m,Ϥ _,c,q,M,a1,a2,a3,a4⟩,λx u y=>?_⟩
   let⟨ex,Rx,hx⟩:=g2 x u y;let A:=A.trans ex;show⟨a,L,j,d,ρ3,Rx,E2.mono ex,hx,h5,λs O=>⟨a,ρ3,j,f4,X,T,Rx,O,h7,?_⟩⟩;cases f4 with
   |nx=>show λc Z H5 e5 R5 E5=>⟨c,X,T,A.trans e5,R5,E5,h8⟩|ct=>show λc Z H5 e5 R5 E5=>⟨c,X,T,A.trans e5,R5,E5,h8⟩|bk=>ext h8;show λc Z H5 e5 R5 E5=>hE c Z H5 (A.trans e5) R5 E5|rt d'=>ext h8;show KC.after hE A
abbrev kL(lo:Int)(n:Nat):Hm->Nat->Option (Option D):=λ_ i=>b3<|if i<n then b3 (.int<|lo+i)else b4
def F1:Wk K (pP lo k) (kL lo k) π n H:=by
 show⟨λb p c i e R z=>?_,λb p c i d e R z=>?_⟩
 .let a:=Ė z;split at a
  .ext a
  .show qy.mp<|by assumption
 .let a:=Ė z;split at a
  .ext a;rename_i h;show⟨h,λx q ⟨j,o⟩=>by subst j;rw[o];show⟨.refl,R,.int _⟩⟩
  .ext a
abbrev tG(y:Str):Str:="#"++y
abbrev bX(xs N:List Str):List Str:=N.map λy=>if xs.contains y then tG y else y
def rH xs N:(bX xs N).length=N.length:=by ext bX;simp
def b2a{i:Nat}(h:(bX xs N)[i]?=b3 y):∃a,N[i]?=b3 a/\((xs.contains a=dI/\y=tG a)\/(xs.contains a=b5/\y=a)):=by
 unfold bX at h;rw[ÿ]at h;let⟨a,h1,b⟩:=ì.mp h;show⟨a,h1,?_⟩;cases hc:xs.contains a with
 |true=>rw[hc]at b;show .inl ⟨rfl,by apply b.symm⟩|false=>rw[hc]at b;show .inr ⟨rfl,by apply b.symm⟩
abbrev dN(X:Cx)(scope:Χ)(cl:List (Str×Addr))(C:Addr)(N:List Str)(s₀:Ù)(H₀:Hp)(a:List Addr):Cx:=
 {X with N:=N,s₀:=s₀,H₀:=H₀,env:=Ϯ scope cl C X.env,outer:=X.stack,stack:=X.stack,ex:=a,fn:=λ_=>b5,pn:=[],xe:=λ_ _=>False}
def F2{env:ı}:∀(names:List (Str×ϳ))x,(names.map λ(n,k)=>if(k==R8&&env.scope.kind==.function&&env.kindOf n==b3 .cell)then(n,bz)else(n,k)).lookup x
  = (names.lookup x).map λk=>if(k==R8&&env.scope.kind==.function&&env.kindOf x==b3 .cell)then bz else k
 |[],_=>rfl|(n,k)::r,x=>by
  let c:=F2 (env:=env) r x;rw[ö];by_cases b:x=n
  .subst b;let key:∀(k':ϳ)(l:List (Str×ϳ)),gj x ((x,k')::l)=b3 k':=λk' l=>by simp[uw]
   rw[key];change gj x ((if(k==R8&&env.scope.kind==.function&&env.kindOf x==b3 .cell)=dI then(x,bz)else(x,k))::_)=b3 (if(k==R8&&env.scope.kind==.function&&env.kindOf x==b3 .cell)=dI then bz else k);split
   .rw[key]
   .rw[key]
  .let a:(x==n)=false:=by apply b
   let key:∀(k':ϳ)(l:List (Str×ϳ)),gj x ((n,k')::l)=gj x l:=λk' l=>by dsimp[uw,a]
   rw[key];change gj x ((if(k==R8&&env.scope.kind==.function&&env.kindOf n==b3 .cell)=dI then(n,bz)else(n,k))::_)=_;split
   .rw[key];show c
   .rw[key];show c
structure Ć(X:Cx)(scope:Χ)(cl:List (Str×Addr))(xs:List Str):Prop where
 clos:Nx scope X.env=pure cl
 nocell:∀y∈scope.names,y.2≠.cell
 kind:scope.kind=.function
 names:∀y∈scope.names,y.2=.local->scope.names.lookup y.1=b3 .local
 here:∀x∈xs,scope.names.lookup x=b3 .local
 sub:∀y c,cl.lookup y=b3 c->X.env.cells.lookup y=b3 c
 free:∀y,scope.names.lookup y=b3 .free->(X.env.kindOf y=b3 .cell\/X.env.kindOf y=b3 .free)/\∃c,cl.lookup y=b3 c
 own:∀y,scope.names.lookup y=b3 .local->y∉bX xs X.N
 hidn:∀y∈X.N,xs.contains y=dI->scope.names.lookup (tG y)=b4
def Ć.kindOf(O:Ć X scope cl xs)C y:(Ϯ scope cl C X.env).kindOf y=(scope.names.lookup y).map λk=>if(k==R8&&X.env.scope.kind==.function&&X.env.kindOf y==b3 .cell)then bz else k:=
 F2 scope.names y
def Ć.outer(O:Ć X scope cl xs){C:Addr}(h:(Ϯ scope cl C X.env).kindOf y=b3 .cell\/(Ϯ scope cl C X.env).kindOf y=b3 .free):scope.names.lookup y=b3 .free:=by
 rw[O.kindOf]at h;cases q:scope.names.lookup y with
 |none=>rw[q]at h;rcases h with h|h<;>ext h
 |some k=>
  rw[q]at h;cases k with
  |free=>rfl|cell=>show absurd rfl (O.nocell _<|ϵ q)| «local»=>rcases h with h|h<;>simp at h
  |globalExplicit=>rcases h with h|h<;>simp at h
  |globalImplicit=>rcases h with h|h<;>simp at h
def Ć.inv{σ:St}(O:Ć X scope cl xs)(I:Â X Do σ H s)(B:∀b∈T,kF X Do H b)(hob:∀b∈T,∃o,s.heap.get? b=b3 o)(hns:d.Ns s.heap.objs.size m)(L:∀b o,s.heap.get? b=b3 o->d.get? b=b3 o):
  Â (dN X scope cl s.heap.objs.size (bX xs X.N++xs) s H T) [] (σ++Ϣ xs.length b4) H {s with heap:=d,toks:=tk}:=by
 show⟨⟨I.ok.mod,O.kind,I.ok.glob,I.ok.blt,Ø _,λy z c h1 A=>?_,λy hy=>?_,(λy c h=>by ext h),I.ok.hd,I.ok.frames,.inl rfl,λb G=>?_,λb o e=>I.bs b o e,Ģ I.ok.bsz I.sz,λb o e G=>?_,λb G Y=>?_,I.stack,I.stkFree⟩,
  rfl,I.bare,Un.kept L,⟨m,hns,λi y v h1 A w=>?_⟩,λy c h=>?_,I.hok.fresh<|Ø _,λy c h=>I.freeC y c<|O.sub y c h,λp hp=>absurd (show p∈([]:jw)from hp) ∅,I.hok.kept L,?_⟩
 .show I.ok.inj y z c (O.sub y c h1)<|O.sub z c A
 .show(O.free y<|O.outer hy).2
 .let⟨f0,N,Q,x,R,f5⟩:=B b G;let⟨o,K⟩:=hob b G;show⟨Ā<|Þ K,λy c h=>R y c<|O.sub y c h⟩
 .let⟨f0,N,Q,x,R,f5⟩:=B b G;rcases x with x|x
  .show I.ok.noex b o e x
  .show absurd (Ļ (Þ (I.ok.bs b o e).1) x)<|γ _
 .let⟨f0,N,Q,x,R,f5⟩:=B b G;rcases Č.mp (I.stkSub b Y)with z|z
  .show N z
  .show Q z
 .let hi:i<σ.length:=by
   by_cases hi:i<σ.length
   .show hi
   .rw[jb<|qy.mp hi,M1]at A;split at A<;>ext A
  rw[ϕ hi]at A;let J:(bX xs X.N)[i]?=b3 y:=by let n:(bX xs X.N++xs)[i]?=b3 y:=h1;rw[ϕ<|by rw[rH,<- I.len];show hi]at n;show n
  let j:scope.names.lookup y≠b3 .local:=λz=>O.own y z<|ķ J;let E:=O.kindOf s.heap.objs.size y;let U:X.N[i]?=b3 y:=by
   let⟨y0,q1,M⟩:=b2a J;rcases M with⟨M,q3⟩|⟨M,q3⟩
   .exfalso;let hz:=O.hidn y0 (ķ q1) M;rw[<- q3]at hz;rw[hz]at E;let a:(Ϯ scope cl s.heap.objs.size X.env).kindOf y=b3 .local\/(Ϯ scope cl s.heap.objs.size X.env).kindOf y=b3 .cell\/(Ϯ scope cl s.heap.objs.size X.env).kindOf y=b3 .free:=w;rw[E]at a;rcases a with a|a|a<;>ext a
   .rw[q3];show q1
  let a:(Ϯ scope cl s.heap.objs.size X.env).kindOf y=b3 .cell\/(Ϯ scope cl s.heap.objs.size X.env).kindOf y=b3 .free:=by
   rcases w with w|w|w
   .exfalso;let a:(Ϯ scope cl s.heap.objs.size X.env).kindOf y=b3 .local:=w;rw[E]at a;cases q:scope.names.lookup y with
    |none=>rw[q]at a;ext a|some k=>
     rw[q]at a;cases k with
     | «local»=>show j q|cell=>simp at a|free=>dsimp[ė]at a;split at a<;>ext a|globalExplicit=>simp at a|globalImplicit=>simp at a
   .show .inl w
   .show .inr w
  let⟨g,c,hc⟩:=O.free y<|O.outer a;let⟨m0,hn0,Z⟩:=I.loc;let⟨u,r,l⟩:=Z i y v U A (by rcases g with g|g;show .inr<|.inl g;show .inr<|.inr g);show⟨u,r,.inr ⟨a,c,hc,?_⟩⟩;rcases l with⟨lk,_⟩|⟨_,c',e',z⟩
  .exfalso;rcases g with g|g
   .rw[g]at lk;ext lk
   .rw[g]at lk;ext lk
  .rw[O.sub y c hc]at e';ext e';let⟨o,K,hd⟩:=z;show⟨o,L c o K,hd⟩
 .let⟨v,q⟩:=I.cell y c<|O.sub y c h;show⟨v,by let⟨o,K,hd⟩:=q;show⟨o,L c o K,hd⟩⟩
 .change(σ++Ϣ xs.length b4).length=(bX xs X.N++xs).length;rw[ć,ć,I.len,vh,rH]
def Ć.back{σ K:St}(I:Â X Do σ H s)(y:∀b∈j,kF X Do H b)(J:Â (dN X scope cl s.heap.objs.size N s H j) pl K i s1)(x:∀b o,b≠s.heap.objs.size->s1.heap.get? b=b3 o->h'.get? b=b3 o):Â X Do σ i {s1 with heap:=h'}:=by
 let u:Un (k5 X.stack) j H i s.heap h':=by
  let h:Un (k5 X.stack) j H i s.heap s1.heap:=J.base;let ne:∀b o,s.heap.get? b=b3 o->b≠s.heap.objs.size:=λb o e=>Ā<|Þ e;show⟨λb o e n k p=>x b o (ne b o e)<|h.keep b o e n k p,λb o e n k p=>?_,h.free,λb o e p=>?_,h.tups,h.frzs,h.tbls⟩
  .let⟨T,q⟩:=h.slot b o e n k p;show⟨T,x b _ (ne b o e) q⟩
  .let⟨R,q⟩:=h.there b o e p;show⟨R,x b _ (ne b o e) q⟩
 let a:i s.heap.objs.size=none:=J.free;let A:Š X.prog X.w i h':=λb v e=>by
  show(J.hok b v e).stay (λc w hc q=>x c w ?_ q) (λ_ q=>q) λ_ _ q=>q;rcases hc with z|z
  .rw[z];intro G;rw[G,a]at e;ext e
  .intro G;rw[G,a]at z;ext z
 let B:s1.os=s.os:=J.os;let⟨Z,g,d,t,E⟩:=s1;obtain rfl:E=s.os:=B;let r:=Â.call (X:=X) (Do:=Do) (σ:=σ) (H:=H) (s:=s) (h':=h') (g':=g) (d':=d) (t':=t) (ch:=j) I u A J.bare λb k=>let⟨U,L,Y,M,O,Q⟩:=y b k;⟨M,L,O,Q⟩;show r
def b2Z(I:Nat->Ù->Prop)(turn:∀n s,I n s->È (Î prog w) A (š B) (λr d=>match r with
   |none=>R (.ok .next) d
   |some v=>È (Î prog w) A (N8 a B v) (λ_ e=>È (Î prog w) A (au a env v) (λ_ k=>
     È (Î prog w) A (forIn ifs dI λc r=>if r=dI then do let ok <- qp c env (eval c env);pure (bu ok)else pure (bu r)) (λok g=>
      if ok=dI then È (Î prog w) A (eval elt env) (λx o=>
       È (Î prog w) A (call (.builtin "list.append") [acc,x]) (λ_ p=>∃m,m<n/\I m p) (λ_ _=>False) o) (λ_ _=>False) g
      else ∃m,m<n/\I m g) (λ_ _=>False) k) (λ_ _=>False) e) (λ_ _=>False) d) (λ_ _=>False) s)n(h:I n s):
  ι (Î prog w) A (.compLoop (.ListComp elt [⟨a,iter,ifs,0⟩] scope pos) 0 B acc env) R s:=by
 show codeAny_loop rfl I (λn s E=>?_) n h;change È _ A ((compTurn (.ListComp elt [⟨a,iter,ifs,0⟩] scope pos) 0 B acc env).onRaise λx=>do noteFrame x env;theTreesLotGoes x) _ _ s;show wpAny_noted ?_;rw[compTurn_list];show Á<|My<|Á<|ř (turn n s E) (λr d i=>?_) λ_ _ b=>b.elim;cases r with
 |none=>show Ê i|some v=>
  show Á<|ř i (λ_ e q=>?_) λ_ _ b=>b.elim;show Á<|ř q (λ_ k u=>Á<|ř u (λok g j=>?_) λ_ _ b=>b.elim) λ_ _ b=>b.elim;cases ok with
  |false=>show Ê ⟨rfl,j⟩|true=>show Á<|Á<|ř j (λx o y=>Á<|ř y (λ_ p z=>Ê<|Ê ⟨rfl,z⟩) λ_ _ b=>b.elim) λ_ _ b=>b.elim
abbrev tH(b:Hm)(a:Nat)(y:D):Option Hm:=match b[a]? with
 |some (.lst xs)=>if xs.length<Ò then b3 (b.set a<|.lst<|xs++[y])else b4|_=>b4
noncomputable abbrev BD:=D->Hm->Option aG
abbrev tI:BD:=λd _=>b3 [b3 d]
abbrev pU(k:Nat):BD:=λd a=>(bO a d).bind λxs=>if xs.length=k then b3 (xs.map b3)else b4
abbrev kM(a:Hm->Nat->Option (Option D))(h:BD)(c:MT)(e:ME)(b:aG)(g:Nat):Nat->Nat->Hm->Option Hm
 |0,_,_=>b4|n+1,i,μ=>(a μ i).bind λo=>match o with
  |none=>b3 μ|some d=>(h d μ).bind λx=>(c (b++x) μ).bind λp=>match p.1 with
   |true=>(e (b++x) p.2).bind λq=>(tH q.2 g q.1).bind λj=>kM a h c e b g n (i+1) j|false=>kM a h c e b g n (i+1) p.2
abbrev fD:MT:=λ_ a=>b3 (dI,a)
abbrev rJ(X:Cx)(ifs:List Expr)(m:MT):Prop:=
 ∀(Do:jw)(s:Ù)(σ:St)(H:Hp)(Q:Bool->Hp->Prop),Â X Do σ H s->Ŏ X.K m σ H Q->
  È (Î X.prog X.w) X.A (forIn ifs dI λc r=>if r=dI then do let ok <- qp c X.env (eval c X.env);pure (bu ok)else pure (bu r)) (TP X Do σ Q) X.xe s
def b2W:rJ X [] fD:=by intro a s j H Q I h;let⟨e,i,g,b,d,R,E,c,k⟩:=h;ext c;show wpAny_tests_nil ⟨H,I,k e H .refl R⟩
def b2V(h:PT X c (Ŏ X.K m)):rJ X [c] m:=λDo s σ H Q I q=>wpAny_tests_one<|h Do s σ H Q I q
def F3(h:t≠e):∀n i s(Q:gw->Ù->Prop),s.heap.IsListIter e t i->s.heap.IsList t items->i+n<=items.size->
  (∀k,k.IsListIter e t (i+n)->Κ e s.heap k->Q ((items.toList.drop i).take n) {s with heap:=k})->È (Î prog w) A (draw (.ref e) n) Q E s
 |0,i,s,Q,hit,_,_,hQ=>by change È _ _ (pure []) Q E s;show Ê<|by apply hQ s.heap hit (NF ..)
 |n+1,i,s,Q,hit,ht,hle,hQ=>by
  let g:i<items.size:=()
  change È _ _ (š (.ref e) >>= _) Q E s;show Á (Ql hit ht (x:=items[i]) (by simp[g]) λo b a=>?_);show Á (ł<|F3 h n (i+1) _ _ b (ht.extBut a.extBut h) () λj c d=>Ê ?_);let hd:items.toList.drop i=items[i]::items.toList.drop (i+1):=by simp[NU,g]
  have:=hQ j (by rw[show i+(n+1)=i+1+n by lia];show c)<|a.trans d;rw[hd,List.take_succ_cons]at this;show this
def b2T{Q:gw->Ù->Prop}(v:A.handled=b4)(j:s.heap.IsList t items)(u:∀p,R4 s.heap.objs.size s.heap p->Q items.toList {s with heap:=p}):È (Î prog w) A (unpackItems (.ref t) items.size b4) Q E s:=by
 let i:t≠s.heap.objs.size:=by let⟨o,x,_⟩:=j;show Ā<|Þ x
 ext unpackItems;show Á ?_
 .ext notIterableAtAll;show Á<|uf j.typeIs slot_list_iter.lookup ?_;show Ê ?_;dsimp[ŀ,if_false];show Á<|ł<|uy j ?_;show Á (ł<|F3 i items.size 0 _ _ ⟨_,Ċ _ rfl,rfl,rfl⟩ (j.push _) () λk c a=>?_);let h:List.take items.size (List.drop 0 items.toList)=items.toList:=by rw[OT];show jd ∅
  rw[h];rw[if_neg ∅];let g:k.IsList t items:=(j.push _).extBut a.extBut i;show Á (ł<|RA v c g ∅ λn d=>?_);dsimp[Option.isSome_none,ŀ,if_false];show Ê<|u n λb o q e=>d b o q<|a.extBut b o q<|á _ e
def b2S{x1}(d:A.handled=b4)(g:s.heap.IsList t items)(e:(ς a env).length=items.size)(b:(ς a env).findIdx? (·.1)=b4)(h:∀c,R4 s.heap.objs.size s.heap c->È (Î prog w) A (assignInOrder ((ς a env).map (·.2)) items.toList) Q E {s with heap:=c}):
  È (Î prog w) A (au (.Tuple a x1 pos) env<|.ref t) Q E s:=by
 rw[b4K];show Á<|My ?_;ext unpack;rw[e,b];show Á<|ł<|b2T d g h
abbrev rK:aG->List Nat->List D->aG
 |ρ,i::is,x::xs=>rK (ρ.set i<|b3 x) is xs|ρ,_,_=>ρ
abbrev dB(a:List Nat):MG:=λd c b=>(bO b d).bind λxs=>if xs.length=a.length then b3 (rK c a xs)else b4
abbrev yB:List Nat->sV
 |[]=>EF|i::r=>EG (A8 i)<|yB r
def BK:∀a{vs}{xs}{σ}{c}{Q},Ç K π n H vs xs->En K π n H σ c->xs.length=a.length->(∀b,En K π n H b (rK c a xs)->Q b H)->yB a vs σ H Q
 |[],vs,xs,σ,c,Q,h,E,hl,k=>by
  cases h with
  |nil=>show⟨rfl,k σ E⟩|cons h t=>ext hl
 |i::a,vs,xs,σ,c,Q,h,E,hl,k=>by
  cases h with
  |nil=>ext hl|cons h t=>show⟨_,_,rfl,BK a t (E.set h i) (by apply hl) k⟩
def b2R(hc:X.calm=dI)(h:uX X es (yB j))(L:(ς es X.env).length=j.length:=by rfl)(p:(ς es X.env).findIdx? (·.1)=none:=by rfl):
  PG X (.Tuple es k pos) (Δ X.K<|dB j):=by
 intro i s y H v u Q I r hw;let⟨O,ρ,N,d,ρ',R,E,hd,Y,M⟩:=hw;let⟨K,h1,B⟩:=è.mp Y;split at B
 .rename_i x;ext B;let n:(∃a g,v=.ref a/\ç X.K H a g/\Ç X.K O N.length H g K)\/(∃a g,v=.ref a/\Ĉ X.K H a g/\Ç X.K O N.length H g K):=by
   cases hd with
   |tup q t=>ext h1;show .inl ⟨_,_,rfl,q,t⟩|rol q t=>ext h1;show .inr ⟨_,_,rfl,q.sq,t⟩|@loc a ha=>
    dsimp[bO]at h1;split at h1
    .rename_i ys Z;ext h1;let⟨g,T,U⟩:=R.lst a K Z;show .inr ⟨_,g,rfl,.of T,U⟩
    .ext h1
   |_=>ext h1
  rcases n with⟨a,g,rfl,q,t⟩|⟨a,g,rfl,q,t⟩
  .ext r;let⟨its,w,G,hz⟩:=I.tuple q;let c:its.length=j.length:=by rw[<- w.length,t.length];show x
   show b4J (I.ok.hd hc) G (by simp[L,c]) p λA J=>?_;let z:Â X i y H {s with heap:=A}:=I.kept (t':=s.toks) λb o e=>J b o (Ā<|Þ e) e;show h i _ y H g _ Q z (by apply w)<|BK j t E x M
  .ext r;let⟨its,w,G,hz⟩:=I.list q;let c:its.length=j.length:=by rw[<- w.length,t.length];show x
   show b2S (I.ok.hd hc) G.isList (by simp[L,c]) p λA J=>?_;let z:Â X i y H {s with heap:=A}:=I.kept (t':=s.toks) λb o e=>J b o (Ā<|Þ e) e;show h i _ y H g _ Q z (by apply w)<|BK j t E x M
 .ext B
abbrev hW(m:ME)(g:MG):MS:=λb c=>(m b c).bind λp=>(g p.1 b p.2).map λa=>(.nx,a,p.2)
def b2Q(s:PE X e (tM X.K m))(u:PG X tg (Δ X.K g))(v:swapsWithSole [tg] e pos.line X.env=pure false:=by rfl)(hw:OI [tg] e X.env=pure none:=by rfl)(h1:(ς [tg] X.env).map (·.2)=[au tg X.env]:=by rfl):PS X (.Assign [tg] e pos) (Ŗ X.K<|hW m g):=nH (b2t s u v hw h1)<|by
 rintro E K H ⟨A,n,y,I,B,z,R,h,a,k⟩;show bR a ?_;clear a;intro x c h1 a;let⟨G,q,a⟩:=ì.mp a;ext a;show⟨A,n,y,x,c,R,h,h1,λb J p j i w=>⟨b,n,_,x,_,i,h.mono j,w,q,λd o=>k b d p j i o⟩⟩
abbrev vF:MF:=λds a=>match ds with
 |[.str z]=>if z.length<=Ò then b3 (.int z.length,a)else b4|[x]=>(bO a x).map λb=>(.int b.length,a)|_=>b4
abbrev BL(K:Ô):gz->Hp->VK->Prop:=λxs H Q=>(∃p a,xs=[.ref p]/\(Ĉ K H p a\/ç K H p a)/\Q (.int a.length) H)\/(∃z,xs=[.str z]/\z.length<=Ò/\Q (.int z.length) H)
def ϋ:Ü X (.builtin "len") (BL X.K):=Ű.or b0o
def tJ(R:Rp K π H b)(h:Ú K π b.length H v x)(e:bO b x=b3 xs):∃p vs,v=.ref p/\(Ĉ K H p vs\/ç K H p vs)/\Ç K π b.length H vs xs:=by
 cases h with
 |tup q t=>ext e;show⟨_,_,rfl,.inr q,t⟩|rol q t=>ext e;show⟨_,_,rfl,.inl q.sq,t⟩|@loc a i=>
  dsimp[bO]at e;split at e
  .rename_i j g;ext e;let⟨vs,c,d⟩:=R.lst a xs g;show⟨_,vs,rfl,.inl<|.of c,d⟩
  .ext e
 |_=>ext e
def F5:eY K vF (BL K):=by
 intro b H s n d h j Q R i a k;unfold vF at a;split at a
 .split at a
  .rename_i e;ext a;cases i with
   |cons i t=>ext i;ext t;show .inr ⟨_,rfl,e,k b _ H .refl R<|.int _⟩
  .ext a
 .let⟨o,h1,c⟩:=ì.mp a;ext c;cases i with
  |cons i t=>ext t;let⟨p,g,rfl,q,hd⟩:=tJ R i h1;show .inl ⟨p,g,rfl,q,?_⟩;rw[hd.length];show k b _ H .refl R<|.int _
 .ext a
abbrev vG:MF:=λds a=>match ds with
 |[x]=>(bO a x).map λb=>(.loc a.length,a++[.lst b])|_=>b4
def F6:eY K vG (λxs H Q=>∃p a,xs=[.ref p]/\(Ĉ K H p a\/ç K H p a)/\∀l,H l=b4->Q (.ref l) (upd H l<|.lst a)):=by
 intro s H o xs d j n Q R i b k;unfold vG at b;split at b
 .let⟨a,h1,g⟩:=ì.mp b;ext g;cases i with
  |cons i t=>ext t;let⟨p,c,rfl,q,hd⟩:=tJ R i h1;show⟨p,c,rfl,q,λl h=>?_⟩;let⟨e,R2,_⟩:=R.alloc (c:=.lst a) (o:=.lst c) h hd;show k _ _ _ e R2 mM
 .ext b
abbrev F7(K:Ô):gz->Hp->VK->Prop:=λvs H Q=>∃π a x v t c b,vs=[v,.ty c]/\Rp K π H a/\Ú K π a.length H v x/\BJ a x=b3 t/\yA t c=b3 b/\Q (.bl b) H
def b3g:eY K mO (F7 K):=by
 intro c H q p d n o Q R i a k;unfold mO at a;split at a
 .let⟨t,h1,a⟩:=è.mp a;let⟨b,e,a⟩:=ì.mp a;ext a;cases i with
  |cons i h=>
   cases h with
   |cons g j=>ext j;ext g;show⟨c,_,_,_,t,_,b,rfl,R,i,h1,e,k c _ H .refl R<|.bl _⟩
 .ext a
def b3f:Ü X (.builtin "isinstance") (F7 X.K):=by
 intro G s Z H N us Q I r h;let⟨L,μ,x,v,t,c,b,rfl,R,i,h1,j,q⟩:=h;let⟨u,u2,rfl,w,U⟩:=u6 r;ext U;let fin:∀J,EP X G Z Q (.bool b) {s with toks:=J}:=λJ=>⟨.bl b,H,I.tok J,rfl,q⟩;cases i with
 |non=>ext h1;ext w;show bj PySem.W.kitx_none I.kIn ϯ (oN X.K ∅ j) (λz=>nomatch z) fin|bl y=>ext h1;ext w;show bj PySem.W.kitx_bool I.kIn ϯ (oN X.K ∅ j) (λz=>nomatch z) fin|int y=>ext h1;let⟨t,rfl⟩:=w;show bj PySem.W.kitx_int I.kIn ϯ (oN X.K ∅ j) (λz=>nomatch z) fin|str y=>ext h1;let⟨t,rfl⟩:=w;show bj PySem.W.kitx_str I.kIn ϯ (oN X.K ∅ j) (λz=>nomatch z) fin|tup g t=>ext h1;ext w;let⟨its,M,p,_⟩:=I.tuple g;let⟨o,d,e,_⟩:=p;show bj PySem.W.kitx_tuple I.kIn ⟨o,d,e⟩ (oN X.K ∅ j) (λz=>nomatch z) fin|rol g t=>ext h1;ext w;let⟨its,M,p,_⟩:=I.list g.sq;let⟨o,d,e,_⟩:=p.isList;show bj Ra I.kIn ⟨o,d,e⟩ (oN X.K ∅ j) (λz=>nomatch z) fin|@loc a ha=>
  ext w;dsimp[BJ]at h1;split at h1
  .rename_i N B;ext h1;let⟨E,A,h4⟩:=R.lst a N B;let⟨its,M,p,_⟩:=I.list<|Ĉ.of (K:=X.K) A;let⟨o,d,e,_⟩:=p.isList;show bj Ra I.kIn ⟨o,d,e⟩ (oN X.K ∅ j) (λz=>nomatch z) fin
  .rename_i k B;ext h1;let⟨E,A,_⟩:=R.dK a k B;let⟨_,_,Y,_,p⟩:=(show à X.prog X.w H s.heap (L a) (.dK E)from I.hok _ _ A);let⟨o,T,O,d,e,_⟩:=p;show bj RZ I.kIn ⟨o,d,e.1⟩ (oN X.K ∅ j) (λz=>nomatch z) fin
  .rename_i k B;ext h1;let⟨E,A,_⟩:=R.dT a k B;obtain⟨⟨Y,_,_,_,o,T,O,d,e,_⟩,_⟩:=(show à X.prog X.w H s.heap (L a) (aT (L a) E)from I.hok _ _ A);show bj RZ I.kIn ⟨o,d,e.1⟩ (oN X.K ∅ j) (λz=>nomatch z) fin
  .ext h1
 |ty n=>ext h1
abbrev yC:D->Option bM
 |.int i=>b3 (.inl i)|.str x=>b3 (.inr x)|_=>b4
abbrev lI(kvs:List (bM×D))(k:bM):Option D:=(kvs.find? λa=>decide<|a.1=k).map (·.2)
inductive ş (K:Ô)(π:Nat->Addr)(n:Nat)(H:Hp):List (bM×V)->List (bM×D)->Prop where
 |nil:ş K π n H [] []
 |cons {k:bM}{v:V}{d:D}{vs:List (bM×V)}{ds:List (bM×D)}(h:Ú K π n H v d)(t:ş K π n H vs ds):ş K π n H ((k,v)::vs)<|(k,d)::ds
def ş.val(h:ş K π n H vs ds)k:(lI ds k=b4/\k6 vs k=b4)\/∃v d,lI ds k=b3 d/\k6 vs k=b3 v/\Ú K π n H v d:=by
 induction h with
 |nil=>show .inl ⟨rfl,rfl⟩|@cons a c b vs ds h t j=>
  by_cases e:a=k
  .show .inr ⟨c,b,by simp[lI,ų,e],by simp[k6,ų,e],h⟩
  .let g:lI ((a,b)::ds) k=lI ds k:=by simp[lI,ų,e]
   let i:k6 ((a,c)::vs) k=k6 vs k:=by simp[k6,ų,e]
   rw[g,i];show j
def ş.length(h:ş K π n H vs ds):vs.length=ds.length:=by
 induction h with
 |nil=>rfl|cons h t a=>rw[Ŋ,Ŋ,a]
def F8(h:Ú K π n H y d)(e:yC d=b3 k):y=kV k:=by ext h<;>first|ext e;done|(ext e;rfl)
abbrev b3d(K:Ô)(a:List (ME×ME)):List (TE×TE):=a.map λp=>(tM K p.1,tM K p.2)
def iP(r:ê k A):A.units+1<Ą:=by have:=r.un;lia
abbrev nJ(a:ME):ME:=λc b=>(a c b).bind λp=>(BC p.1).map λd=>(d,p.2)
abbrev jR(cells:List (Str×Addr)):List (Str×ϳ)->List (Str×Addr)->List (Str×Addr)
 |[],acc=>acc|(n,k)::r,acc=>if k=.free then(match cells.lookup n with|some c=>jR cells r ((n,c)::acc)|none=>jR cells r acc)else jR cells r acc
def F9:∀names acc,(∀y∈names,y.2=.free->∃c,env.cells.lookup y.1=b3 c)->
  (forIn names acc λx b=>(do
   if x.2==.free then(do let c <- cellOf env x.1;pure (bu<|(x.1,c)::b))else pure (bu b):J1 (ForInStep<|List<|Str×Addr)))=pure (jR env.cells names acc)
 |[],acc,_=>rfl|(n,k)::r,acc,h=>by
  let d:=λacc=>F9 r acc λy g=>h y<|ŏ _ g;rw[ON];by_cases a:k=.free
  .subst a;let⟨c,hc⟩:=h (n,.free) (ţ ..) rfl;dsimp at hc;let e:cellOf env n=pure c:=by ext cellOf;rw[hc]
   dsimp[jR,hc,e,beq_self_eq_true,if_true,pure_bind];show d _
  .let e:(k==R8)=false:=by apply a
   dsimp[jR,e,a,if_false,ŀ,pure_bind];show d _
def b3c(h:∀y∈scope.names,y.2=.free->∃c,env.cells.lookup y.1=b3 c):Nx scope env=pure (jR env.cells scope.names []):=by have:=F9 (env:=env) scope.names [] h;ext Nx;dsimp[bind_pure]at *;show this
def yD:∀names acc,(∀y c,acc.lookup y=b3 c->cells.lookup y=b3 c)->∀y c,(jR cells names acc).lookup y=b3 c->cells.lookup y=b3 c
 |[],acc,h=>h|(n,k)::r,acc,h=>by
  ext jR;split
  .split
   .rename_i c0 hc;show yD r _ λy c e=>?_;rw[uw]at e;by_cases a:y=n
    .subst a;dsimp[beq_self_eq_true]at e;ext e;show hc
    .have:(y==n)=false:=by apply a
     rw[this]at e;show h y c e
   .show yD r acc h
  .show yD r acc h
def yE:∀names acc y,(∃c,acc.lookup y=b3 c)->∃c,(jR cells names acc).lookup y=b3 c
 |[],acc,y,h=>h|(n,k)::r,acc,y,h=>by
  ext jR;split
  .split
   .show yE r _ y ?_;rw[uw];by_cases a:(y==n)=dI
    .rw[a];show⟨_,rfl⟩
    .have:(y==n)=false:=by apply a
     rw[this];show h
   .show yE r acc y h
  .show yE r acc y h
def yF:∀names acc y,(y,R8)∈names->(∃c,cells.lookup y=b3 c)->∃c,(jR cells names acc).lookup y=b3 c
 |[],acc,y,h,_=>by ext h
 |(n,k)::r,acc,y,h,hc=>by
  ext jR;rcases Č.mp h with h|h
  .ext h;let⟨c,hc⟩:=hc;rw[if_pos rfl,hc];show yE r _ _ ⟨c,by simp[uw]⟩
  .split
   .split
    .show yF r _ y h hc
    .show yF r _ y h hc
   .show yF r _ y h hc
structure Ņ(osc:Χ)(N:List Str)(scope:Χ)(xs:List Str):Prop where
 nocell:∀y∈scope.names,y.2≠.cell
 kind:scope.kind=.function
 names:∀y∈scope.names,y.2=.local->scope.names.lookup y.1=b3 .local
 here:∀x∈xs,scope.names.lookup x=b3 .local
 free:∀y∈scope.names,y.2=.free->osc.names.lookup y.1=b3 .cell\/osc.names.lookup y.1=b3 .free
 own:∀y∈scope.names,y.2=.local->y.1∉bX xs N
 nd:N.Nodup
 hnd:(bX xs N).Nodup
 hidn:∀y∈N,xs.contains y=dI->scope.names.lookup (tG y)=b4
def Ņ.ok(S:Ņ X.env.scope X.N scope xs)(ok:X.Ok):Ć X scope (jR X.env.cells scope.names []) xs:=by
 let has:∀y∈scope.names,y.2=.free->∃c,X.env.cells.lookup y.1=b3 c:=λy d b=>ok.has y.1 (S.free y d b);show⟨b3c has,S.nocell,S.kind,S.names,S.here,yD scope.names [] (λy c e=>by ext e),λy e=>?_,λy e=>?_,S.hidn⟩
 .let a:=ϵ e;show⟨S.free _ a rfl,yF scope.names [] y a (has _ a rfl)⟩
 .show S.own _ (ϵ e) rfl
abbrev fE(e:Expr):Bool:=!(e.ctorIdx==22)
def iC(h:fE e=dI):Ă (e::es) env=(b5,eval e env)::Ă es env:=by ext e<;>first|rfl|ext h
def rL:∀{es},es.all fE=dI->(Ř pos<|Ă es env).any (·.1)=b5
 |[],_=>rfl|e::es,h=>by rw[Ő,ó]at h;rw[iC h.1];have:=rL (pos:=pos) (env:=env) h.2;simpa[Ř]using this
def yG(h:fE e=dI):ς (e::es) env=(b5,au e env)::ς es env:=by ext e<;>first|rfl|ext h
def Ga:∀{es},es.all fE=dI->(ς es env).length=es.length
 |[],_=>rfl|e::es,h=>by rw[Ő,ó]at h;rw[yG h.1,Ŋ,Ŋ,Ga h.2]
def Gb:∀{es},es.all fE=dI->(ς es env).findIdx? (·.1)=b4
 |[],_=>rfl|e::es,h=>by rw[Ő,ó]at h;rw[yG h.1,List.findIdx?_cons,Gb h.2];rfl
structure QE(X:Cx)(e:Expr)(m:ME):Prop where
 h:PE X e<|tM X.K m
structure QT(X:Cx)(e:Expr)(m:MT):Prop where
 h:PT X e<|Ŏ X.K m
structure QW(X:Cx)(e:Expr)(m:MT):Prop where
 h:PW X e<|Ŏ X.K m
structure QA(X:Cx)(es:List Expr)(m:MA)(n:Nat):Prop where
 h:PA X es<|Ε X.K m
 l:∀ρ μ ds μ',m ρ μ=b3 (ds,μ')->ds.length=n
 s:es.all fE=dI
structure QO(X:Cx)(e:Option Expr)(m:MO):Prop where
 h:PO X e<|ql X.K m
structure QS(X:Cx)(st:Stmt)(m:MS):Prop where
 h:PS X st<|Ŗ X.K m
structure QB(X:Cx)(st:List Stmt)(m:MS):Prop where
 h:Ş X st<|Ŗ X.K m
structure QG(X:Cx)(e:Expr)(g:MG):Prop where
 h:PG X e<|Δ X.K g
structure wg(X:Cx)(es:List Expr)(is:List Nat):Prop where
 h:uX X es<|yB is
 n:es.length=is.length
 s:es.all fE=dI
structure QI(X:Cx)(ifs:List Expr)(m:MT):Prop where
 h:rJ X ifs m
structure e12(X:Cx)(pos:Ĳ)(keys:List (Option Expr))(values:List Expr)(prs:List (ME×ME)):Prop where
 h:a9G X pos keys values<|b3d X.K prs
 a:keys.all (·.isSome)=dI
 l:keys.length=values.length
def b3Z i(g:X.N[i]?=b3 x:=by rfl)(h:qY X.env.scope x:=by first|show jn rfl|show az (jn rfl)|show az<|az rfl)(hd:(x==("__debug__":Str))=false:=by decide)(d:(x==("__classdict__":Str))=false:=by decide):QE X (.Name x pos) (aE i):=⟨p57 i<|EC g h hd d⟩
def b3Y:QE X (.Constant (.int i) j pos) (mC<|.int i):=⟨h16⟩
def b3W:QE X (.Constant (.bool i) j pos) (mC<|.bl i):=⟨dMT⟩
def b3V:QE X (.Constant (.str i) j pos) (mC<|.str i):=⟨b5e⟩
def b3U:QE X (.Constant .none j pos) (mC .non):=⟨b5a⟩
def tK(i:đ X (Τ op) r)(h:eH X.K f r)(d:QE X a ma)(g:QE X b mb):QE X (.BinOp a op b pos) (aA f ma mb):=⟨b4v i h d.h g.h⟩
def b3T(d:QE X a ma)(g:QE X b mb):QE X (.BinOp a .Add b pos) (aA bI ma mb):=tK b2o b2m d g
def b3S(d:QE X a ma)(g:QE X b mb):QE X (.BinOp a .Sub b pos) (aA iN ma mb):=tK a6Q b3G d g
def b3R(d:QE X a ma)(g:QE X b mb):QE X (.BinOp a .Mult b pos) (aA b7 ma mb):=tK b3M b3D d g
def b3O(d:QE X a ma)(g:QE X b mb):QE X (.BinOp a .FloorDiv b pos) (aA kJ ma mb):=tK b3J b3A d g
def b3N(d:QE X a ma)(g:QE X b mb):QE X (.BinOp a .Mod b pos) (aA bZ ma mb):=tK a6K b2v d g
def b4L(d:QE X a ma)(g:QE X b mb):QE X (.BinOp a .Pow b pos) (aA rG ma mb):=tK b3I b2p d g
def b3x(d:QE X a ma):QE X (.UnaryOp .USub a pos) (nJ ma):=⟨b2l d.h⟩
def b3w(d:QE X a ma):QE X (.UnaryOp .Not a pos) (tB ma):=⟨b4h d.h⟩
def b3s(h:ê k X.A)(d:QE X a ma)(g:QE X b mb):QE X (.Compare a [.Eq] [b] pos) (aA (aZ b5) ma mb):=⟨iK (FX<|xZ h) xY d.h g.h<|fJ _⟩
def b3q(h:ê k X.A)(d:QE X a ma)(g:QE X b mb):QE X (.Compare a [.NotEq] [b] pos) (aA (aZ dI) ma mb):=⟨iK (FY<|xZ h) xY d.h g.h<|fJ _⟩
def b3p(d:QE X a ma)(g:QE X b mb):QE X (.Compare a [.Lt] [b] pos) (aA hV ma mb):=⟨iK Be lH d.h g.h<|fJ _⟩
def b3m(d:QE X a ma)(g:QE X b mb):QE X (.Compare a [.LtE] [b] pos) (aA tF ma mb):=⟨iK Bf lH d.h g.h<|fJ _⟩
def b3h(d:QE X a ma)(g:QE X b mb):QE X (.Compare a [.Gt] [b] pos) (aA kK ma mb):=⟨iK Bg lH d.h g.h<|fJ _⟩
def b1H(d:QE X a ma)(g:QE X b mb):QE X (.Compare a [.GtE] [b] pos) (aA vD ma mb):=⟨iK Bh lH d.h g.h<|fJ _⟩
abbrev i8(e:Expr):Bool:=!(e.ctorIdx==7)
def lJ(h:i8 b=dI):gY op b=false:=by ext b<;>first|rfl|ext h
def b1G(h:QE X a m):QE X (.BoolOp op [a] pos) m:=⟨b4k h.h⟩
def b1F{cG:List Expr}(d:QE X a ma)(g:QE X (.BoolOp .And (b::cG) pos) mb):QE X (.BoolOp .And (a::b::cG) pos) (gG ma mb):=⟨b4j d.h g.h⟩
def b1C{cG:List Expr}(d:QE X a ma)(g:QE X (.BoolOp .Or (b::cG) pos) mb):QE X (.BoolOp .Or (a::b::cG) pos) (Bt ma mb):=⟨b4i d.h g.h⟩
def b1B{mt:MT}(hc:QT X c mt)(d:QE X a ma)(g:QE X b mb):QE X (.IfExp c a b pos) (iM mt ma mb):=⟨b4f hc.h d.h g.h⟩
def b0z:QA X [] aF 0:=⟨b4b,a8A,rfl⟩
def b0y(g:QE X e m)(d:QA X es ms n)(h:fE e=true:=by rfl):QA X (e::es) (aB m ms) (n+1):=⟨b4Z g.h d.h<|iC h,a7k d.l,by rw[Ő,h,d.s];rfl⟩
def b0x(h:QA X es ms n):QE X (.Tuple es d pos) (cN ms):=⟨b4W h.h⟩
def b0w(h:QA X es ms n):QE X (.List es pos) (cP ms):=⟨b4V h.h⟩
abbrev rN(e:Expr):Bool:=!(e.ctorIdx==26)
def BM(h:rN b=dI):Bo b:=by intro o i;ext b<;>first|rfl|ext h
def b0v(d:QE X a ma)(g:QE X b mb)(h:rN b=true:=by rfl):QE X (.Subscript a b pos) (aA kH ma mb):=⟨a7B d.h g.h<|BM h⟩
def b0u:QO X b4 mJ:=⟨a6W⟩
def b0n(h:QE X e m):QO X (b3 e) (mK m):=⟨WbI h.h⟩
def b0m(h:QE X a ma)(i:QO X lo g)(j:QO X hi d):QE X (.Subscript a (.Slice lo hi b4 k) pos) (rF ma g d):=⟨OnI h.h i.h j.h⟩
def b0i(F:ĺ X.prog X.w X.K X.mg X.base iZ k f i ps (mI X.K n j))(v:ê k X.A)(u:X.mg x=b3 (.ref f))(s:ϱ X.K (.ref f)=dI)(o:Ĩ X.K i ps [])(d:QA X (e::es) ms n)(q:Gl X x:=by rfl)(g:(x==("__debug__":Str))=false:=by decide):QE X (.Call (.Name x p) (e::es) [] pos) (bJ j ms):=by
 let h:=d.s;rw[Ő,ó]at h;show⟨a7X F v q u s o d.h d.l g (iC h.1)<|rL h.2⟩
def Gd{id:String}(hc:Ü X (.builtin id) r)(i:eY X.K f r)(k:X.mg x=b4)(q:Ω x=b3 (.builtin id))(h:QA X (e::es) ms n)(j:Gl X x:=by rfl)(o:x ≠ "__name__":=by decide)(d:(x==("__debug__":Str))=false:=by decide):QE X (.Call (.Name x p) (e::es) [] pos) (bJ f ms):=by
 let g:=h.s;rw[Ő,ó]at g;show⟨a7T hc i j k q h.h o d (iC g.1)<|rL g.2⟩
def b0h(hc:Ü X (.type T) r)(i:eY X.K f r)(k:X.mg x=b4)(q:Ω x=b3 (.type T))(h:QA X (e::es) ms n)(j:Gl X x:=by rfl)(o:x ≠ "__name__":=by decide)(d:(x==("__debug__":Str))=false:=by decide):QE X (.Call (.Name x p) (e::es) [] pos) (bJ f ms):=by
 let g:=h.s;rw[Ő,ó]at g;show⟨a7O hc i j k q h.h o d (iC g.1)<|rL g.2⟩
def b0e(g:X.mg x=b4)(i:Ω x=b3 (.type n))(d:Gl X x:=by rfl)(h:x ≠ "__name__":=by decide)(hd:(x==("__debug__":Str))=false:=by decide):QE X (.Name x pos) (mC<|.ty n):=⟨b2k d g i h hd⟩
def b0d(h:ê k X.A)(d:QE X a ma)(g:QE X b mb):QT X (.Compare a [.Eq] [b] pos) (a7<|aA (aZ b5) ma mb):=⟨iL (FX<|xZ h) xY d.h g.h<|fJ _⟩
def b0W(h:ê k X.A)(d:QE X a ma)(g:QE X b mb):QT X (.Compare a [.NotEq] [b] pos) (a7<|aA (aZ dI) ma mb):=⟨iL (FY<|xZ h) xY d.h g.h<|fJ _⟩
def b0U(d:QE X a ma)(g:QE X b mb):QT X (.Compare a [.Lt] [b] pos) (a7<|aA hV ma mb):=⟨iL Be lH d.h g.h<|fJ _⟩
def b2M(d:QE X a ma)(g:QE X b mb):QT X (.Compare a [.LtE] [b] pos) (a7<|aA tF ma mb):=⟨iL Bf lH d.h g.h<|fJ _⟩
def b2L(d:QE X a ma)(g:QE X b mb):QT X (.Compare a [.Gt] [b] pos) (a7<|aA kK ma mb):=⟨iL Bg lH d.h g.h<|fJ _⟩
def b2K(d:QE X a ma)(g:QE X b mb):QT X (.Compare a [.GtE] [b] pos) (a7<|aA vD ma mb):=⟨iL Bh lH d.h g.h<|fJ _⟩
abbrev BN:Expr->Bool
 |.UnaryOp .Not ..=>b5|.BoolOp ..=>b5|.IfExp ..=>b5|.Compare ..=>b5|_=>dI
def b2J(h:BN e=dI):∀d,qp e env d=(do let v <- d;standAt e.pos;holding [v] (truthy v)):=by
 intro d;ext e<;>first|rfl|ext h|skip
 rename_i g x p;ext g<;>first|rfl|ext h
def b2I{mt:MT}(d:QT X a mt):QT X (.UnaryOp .Not a pos) (jQ mt):=⟨b4l d.h⟩
def b2H{mt:MT}(d:QT X a mt):QW X (.BoolOp .And [a] pos) mt:=⟨b4u d.h⟩
def b2F{mt:MT}(d:QT X a mt):QW X (.BoolOp .Or [a] pos) mt:=⟨b4t d.h⟩
def b1o{mt:MT}{cG:List Expr}(d:QT X a mt)(g:QW X (.BoolOp .And (b::cG) pos) mu):QW X (.BoolOp .And (a::b::cG) pos) (i7 mt mu):=⟨b4s d.h g.h⟩
def b1n{mt:MT}{cG:List Expr}(d:QT X a mt)(g:QW X (.BoolOp .Or (b::cG) pos) mu):QW X (.BoolOp .Or (a::b::cG) pos) (k9 mt mu):=⟨b4o d.h g.h⟩
def b1l{mt:MT}(h:QW X e mt):QT X e mt:=⟨h.h.pt⟩
def b1e:QI X [] fD:=⟨b2W⟩
def b1d{mt:MT}(h:QT X c mt):QI X [c] mt:=⟨b2V h.h⟩
def b1b:QB X [] bV:=⟨MaI⟩
def b1a{cG:List Stmt}(h1:QS X st ms)(d:QB X cG mr):QB X (st::cG) (aL ms mr):=⟨Grw h1.h d.h⟩
def b1Z(h1:QS X st ms):QB X [st] ms:=⟨FoI h1.h⟩
def b1Y:QS X (.Pass pos) bV:=⟨CrF⟩
def b1X(d:QE X e m):QS X (.Return (b3 e) pos) (aM m):=⟨t2l d.h⟩
abbrev oP(e:Expr):Bool:=!(e.ctorIdx==8||e.ctorIdx==9||e.ctorIdx==10)
def BO(h:oP e=dI):fj e t n env=pure false:=by ext e<;>first|rfl|ext h
def b1W(d:QE X e m)(h:oP e=true:=by rfl):QS X (.Expr e pos) (dW m):=⟨a8W d.h<|BO h⟩
def b1V{mt:MT}(hc:QT X c mt)(d:QB X body ms)(h:QB X orelse mu):QS X (.If c body orelse pos) (bK mt ms mu):=⟨a8P hc.h d.h h.h⟩
def b1R i(j:X.N.Nodup)(k:QE X e m)(h:oP e=true:=by rfl)(hi:X.N[i]?=b3 x:=by rfl)(p:Loc X.env.scope x:=by first|show jn rfl|show az rfl)(o:X.fn x=dI\/X.env.scope.names.lookup x=b3 .local:=by first|show .inl rfl|show .inr rfl):QS X (.Assign [.Name x d] e pos) (fN i m):=⟨FJ j hi p k.h (BO h) o⟩
def b1O i(d:X.N.Nodup)(hi:X.N[i]?=b3 x:=by rfl)(j:Loc X.env.scope x:=by first|show jn rfl|show az rfl)(h:X.fn x=dI\/X.env.scope.names.lookup x=b3 .local:=by first|show .inl rfl|show .inr rfl):QG X (.Name x pos) (cL i):=⟨F0 d hi j h⟩
def Ge:wg X [] []:=⟨b3C,rfl,rfl⟩
def Gf i(h:X.N.Nodup)(d:wg X es is)(hi:X.N[i]?=b3 x:=by rfl)(k:Loc X.env.scope x:=by first|show jn rfl|show az rfl)(j:X.fn x=dI\/X.env.scope.names.lookup x=b3 .local:=by first|show .inl rfl|show .inr rfl):wg X (.Name x pos::es) (i::is):=
 ⟨b2u (EE h hi k j) d.h<|by rw[yG (e:=.Name x pos) rfl];rfl,by rw[Ŋ,Ŋ,d.n],by rw[Ő,d.s];rfl⟩
def BP(h:wg X es is)(hc:X.calm=true:=by rfl):QG X (.Tuple es k pos) (dB is):=⟨b2R hc h.h ((Ga h.s).trans h.n)<|Gb h.s⟩
abbrev BQ(e:Expr):Bool:=!(e.ctorIdx==25)
def b1N(h:BQ e=dI):OI [.Tuple es k pt] e env=pure none:=by ext e<;>first|rfl|ext h
def b1L(d:QE X e m)(i:QG X (.Tuple es k pt) g)(h:BQ e=true:=by rfl):QS X (.Assign [.Tuple es k pt] e pos) (hW m g):=
 ⟨b2Q d.h i.h (by ext e<;>rfl) (b1N h)<|by rw[yG (e:=.Tuple es k pt) rfl];rfl⟩
def b1K(F:ϧ K x a st f g)(S:Ĭ N ps (dM st))(e:ps.length<=N.length)(d:iJ st=body)(c:∀b A outer s H E,ê k (A.deeper<|SE a (dM st) s.heap.objs.size f b)->
   QB (oK iZ P w K mg base N a (dM st) f b A outer s H E).nox body m):ĺ P w K mg base iZ (k+1) f g ps (mI K ps.length<|Bv N.length m):=
 a8I F S e λb A outer s H E h=>by rw[d];show(c b A outer s H E h).h
noncomputable abbrev gT:=Hm->Nat->Option (Option D)
noncomputable abbrev MI:=aG->Hm->Option (gT×Nat×Hm)
inductive ϗ (K:Ô)(m:MI)(σ:St)(H:Hp)(R:It->Hp->Prop):Prop
 |mk (π:Nat->Addr)(ρ:aG)(μ:Hm)(src:gT)(n:Nat)(μ':Hm)(r:Rp K π H μ)(E:En K π μ.length H σ ρ)(hm:m ρ μ=b3 (src,n,μ'))(k:∀π' H' J,õ π μ.length H π' μ'.length H'->Rp K π' H' μ'->Wk K J src π' μ'.length H'->R J H'):ϗ K m σ H R
structure QJ(X:Cx)(e:Expr)(m:MI):Prop where
 h:∀tg,PI X tg e (ϗ X.K m)
abbrev Gg:MI:=λ_ _=>b4
def BR:QJ X e Gg:=⟨λtg Do s σ H R I hw=>by
 let⟨h,i,g,b,n,c,d,E,a,k⟩:=hw;ext a⟩
abbrev i9(a:Hm):D->Option (List D)
 |d=>bO a d
abbrev dC(x:D):gT:=λa i=>(i9 a x).map λxs=>xs[i]?
abbrev cQ(m:ME):MI:=λb a=>(m b a).bind λp=>(i9 p.2 p.1).map λxs=>(dC p.1,xs.length+1,p.2)
def b1J(h:QE X e m):QJ X e (cQ m):=⟨λtg Do s σ H R I hw=>by
 let⟨L,M,J,B,n,K,w,E,b,k⟩:=hw;show bR b ?_;clear b;intro x i h1 b;let⟨G,y,b⟩:=ì.mp b;ext b;let key:∀(p:bO i x=b3 G)(u:dC x=oO x),È (Î X.prog X.w) X.A (eval e X.env) (λv A=>È (Î X.prog X.w) X.A (J4 v) (A9 X Do σ tg R) X.xe A) X.xe s:=λp u=>by
  show b2h h.h Do s σ H R I ⟨L,M,J,x,_,w,E,h1,λc N j o d z=>?_⟩;let⟨a,e,q⟩:=b2g d z p;subst e;show⟨a,rfl,?_⟩;dsimp at k;rw[u]at k;rcases q with⟨g,W⟩|⟨g,W⟩
  .show .inl ⟨g,k c j _ o d W⟩
  .show .inr ⟨g,k c j _ o d W⟩
 cases x with
 |_=>show key y rfl⟩
abbrev oQ(a:MA):MI:=λc b=>(a c b).bind λp=>match p.1 with
 |[.int j]=>if -(2^62)<=j/\j<2^62 then b3 (kL 0 j.toNat,j.toNat+1,p.2)else b4|_=>b4
def b1I(tr:∀o lo n,Ń q X.prog X.w X.K tg (pP lo n) [o] o λi h=>yo h o (lo+(i:Nat)*1) ((n:Int)-(i:Nat)) 1)(c:Gl X "range")(d:X.mg "range"=b4)(w:QA X [a] A n):uY q X tg (.Call (.Name "range" p) [a] [] pos) (ϗ X.K<|oQ A):=λDo s σ H R I hw=>by
 let z:=w.s;rw[Ő,ó]at z;let⟨Q,T,N,L,U,O,J,E,b,k⟩:=hw;show bR b ?_;clear b;intro x u h1 b;show a7Y tr c d w.h (iC z.1) Do s σ H R I ⟨Q,T,N,x,u,J,E,h1,λv Y B K G g=>?_⟩;dsimp at b;split at b
 .rename_i j;split at b
  .rename_i y;ext b;cases g with
   |cons g M=>ext g;ext M;show⟨j,rfl,y.1,y.2,k v B _ K G F1⟩
  .ext b
 .ext b
def b2P(b:Gl X "range")(c:X.mg "range"=b4)(g:QA X [a] d n):QJ X (.Call (.Name "range" p) [a] [] pos) (oQ d):=⟨λtg=>b1I EI b c g⟩
abbrev mP(a:MA):MI:=λc b=>(a c b).bind λp=>match p.1 with
 |[.int i,.int j]=>if -(2^62)<=i/\i<2^62/\-(2^62)<=j/\j<2^62 then b3 (kL i (j-i).toNat,(j-i).toNat+1,p.2)else b4|_=>b4
def b2O(g:Gl X "range")(h:X.mg "range"=b4)(v:QA X [a,b] w n):QJ X (.Call (.Name "range" p) [a,b] [] pos) (mP w):=⟨λtg Do s σ H R I hw=>by
 let d:=v.s;rw[Ő,ó,Ő,ó]at d;let⟨Q,T,N,K,U,O,A,E,c,k⟩:=hw;show bR c ?_;clear c;intro x q h1 c;show a7S g h v.h (by rw[iC d.1,iC d.2.1];rfl) (by rw[iC d.2.1];rfl) Do s σ H R I ⟨Q,T,N,x,q,A,E,h1,λu Y y B z o=>?_⟩;dsimp at c;split at c
 .rename_i i j;split at c
  .rename_i G;ext c;cases o with
   |cons o L=>
    ext o;cases L with
    |cons J M=>ext J;ext M;show⟨i,j,rfl,G,k u y _ B z F1⟩
  .ext c
 .ext c⟩
abbrev b9(c:MI)(g:MG)(b:MS):MS:=λa d=>(c a d).bind λp=>fP p.1 g b p.2.1 0 a p.2.2
abbrev gU(d:BD)(g:MI)(c:MT)(e:ME):ME:=λb h=>(g b h).bind λp=>(kM p.1 d c e b p.2.2.length p.2.1 0<|p.2.2++[.lst []]).map λa=>(.loc p.2.2.length,a)
noncomputable abbrev eU(a:MI)(c:MT)(e:ME):ME:=gU tI a c e
abbrev gB(n:Nat)(a:BD):MG:=λd c b=>(a d b).map λx=>c.take n++x
def a8L(j:X.N.length=n+1)(h:PG X (.Name x i) (Δ X.K<|cL n)):PG X (.Name x i) (Δ X.K<|gB n tI):=by
 intro b s z H v u Q I r hw;let⟨w,a,q,d,y,R,E,hd,o,k⟩:=hw;ext o;show h b s z H v u Q I r ⟨w,a,q,d,_,R,E,hd,rfl,λc g=>k c ?_⟩;let p:a.length=n+1:=by rw[<- E.len,I.len,j]
 let e:a.set n (b3 d)=a.take n++[b3 d]:=by rw[List.set_eq_take_append_cons_drop,if_pos (),List.drop_of_length_le ()]
 rw[e]at g;show g
def Gh:∀xs a b,b.length=xs.length->rK (a++b) (ug a.length xs.length) xs=a++xs.map b3
 |[],a,[],_=>by simp[rK]
 |x::xs,a,y::b,h=>by let c:=Gh xs (a++[b3 x]) b (by apply h);rw[Ŋ,N4];change rK ((a++y::b).set a.length<|b3 x) (ug (a.length+1) xs.length) xs=_;rw[PB _ _<|Ø _,Pp,Λ];rw[ć,P9]at c;rw[Ϧ,List.singleton_append]at c;rw[c];simp
def a8J(w:X.N.length=n+k)(h:PG X tg (Δ X.K<|dB<|ug n k)):PG X tg (Δ X.K<|gB n<|pU k):=by
 intro b s K H v u Q I r hw;let⟨G,a,B,d,J,R,E,hd,x,A⟩:=hw;let⟨y,h1,p⟩:=ì.mp x;let⟨o,q,c⟩:=è.mp h1;split at c
 .rename_i j;ext c;subst p;let z:a.length=n+k:=by rw[<- E.len,I.len,w]
  show h b s K H v u Q I r ⟨G,a,B,d,rK a (ug n k) o,R,E,hd,(by dsimp[dB,q,ē,List.length_range',if_pos j]),λg i=>A g ?_⟩;let e:=Gh o (a.take n) (a.drop n) (by rw[uv];lia);rw[vm,Ι,OV (),j]at e;rw[e]at i;show i
 .ext c
def a8H(E:En K π n H σ (a++o))(b:o.length=k):En K π n H σ (a++Ϣ k b4):=by
 show⟨by rw[E.len,ć,ć,vh,b],λi d q=>?_⟩;by_cases hi:i<a.length
 .rw[ϕ hi]at q;show E.get i d<|by rw[ϕ hi];show q
 .rw[jb<|qy.mp hi,M1]at q;split at q<;>ext q
inductive T4 (Y:Cx)(K:Ô)(tn:Nat->ñ->Prop)(fp:List Addr)(π:Nat->Addr)(k:Nat)(H:Hp)(ρ:aG)(l:Nat)(F:Nat->Nat->Hm->Option Hm)(μ':Hm)(n:Nat)(s:Ù):Prop
 |mk (i:Nat){σ':St}{H':Hp}{π':Nat->Addr}{μi:Hm}{o:aG}(I:Â Y [] σ' H' s)(st:tn i s.heap)(fr:∀b∈fp,H' b=b4)(e:õ π k H π' μi.length H')(R:Rp K π' H' μi)(E:En K π' μi.length H' σ' (ρ++o))(hl:o.length=l)(g:F n i μi=b3 μ')
def Gi(O:Ć X scope cl xs)(hq:∀Do σ H s j,Â X Do σ H s->q (dN X scope cl s.heap.objs.size (bX xs X.N++xs) s H j))(hi:uY q X tg iter (ϗ X.K mi))(hb':∀d μ z,bd d μ=b3 z->z.length=xs.length)(hg:∀C s₀ H₀ j,PG (dN X scope cl C (bX xs X.N++xs) s₀ H₀ j) tg (Δ X.K<|gB X.N.length bd))(hc:∀C s₀ H₀ j,rJ (dN X scope cl C (bX xs X.N++xs) s₀ H₀ j) ifs mc)(he:∀C s₀ H₀ j,PE (dN X scope cl C (bX xs X.N++xs) s₀ H₀ j) elt (tM X.K me))(hs:∀x,ux iter X.env x=pure x){σ:St}(I:Â X Do σ H s)(R:Rp X.K π H μ)(E:En X.K π μ.length H σ N)(hm:gU bd mi mc me N μ=b3 (d,μ'))(fin:∀p C π' B(s':Ù),õ π μ.length H π' μ'.length B->Rp X.K π' B μ'->Ú X.K π' μ'.length B (.ref p) d->(∃m,s'.heap.Ns C m)->X.s₀.heap.objs.size<=C->C≠X.env.locals->B C=b4->
   (∀y c,X.env.cells.lookup y=b3 c->c≠C)->(∀q∈X.pn++Do,q.1≠C)->(∀h',(∀b o,b≠C->s'.heap.get? b=b3 o->h'.get? b=b3 o)->Â X Do σ B {s' with heap:=h'})->
   compPost (Î X.prog X.w) X.A X.xe use QQ (.ref p) C (.ok .next) s'):
  È (Î X.prog X.w) X.A (comprehension (.ListComp elt [⟨tg,iter,ifs,0⟩] scope pos) scope X.env ppos (newList []) b5 (eval iter X.env) use) QQ X.xe s:=by
 obtain⟨⟨src,nt,a⟩,h1,hm⟩:=è.mp hm;let⟨μ2,h3,hm⟩:=ì.mp hm;ext hm;let hit:È (Î X.prog X.w) X.A (eval iter X.env) (λv s1=>È (Î X.prog X.w) X.A (J4 v) (J0 q X Do σ tg λJ H1=>∃Q,õ π μ.length H Q a.length H1/\Rp X.K Q H1 a/\Wk X.K J src Q a.length H1) X.xe s1) X.xe s:=
  hi Do s σ H _ I ⟨π,N,μ,src,nt,a,R,E,h1,λQ H1 J e1 R1 W=>⟨Q,e1,R1,W⟩⟩
 show wpAny_comprehension_free rfl hs O.clos O.kind O.names<|ř hit (λv s1 hv=>ř hv (λitv A h4=>?_) λ_ _ z=>z) λ_ _ z=>z;let⟨it,j,tn,J,H2,rfl,I2,T,st2,f2,Q,e1,R1,W⟩:=h4;show Ż (wpAny_newFunctionEnv O.nocell (by intro y hy;simp at hy) (λU K L=>?_) O.kind);dsimp at K L ⊢;let hfr:H2 A.heap.objs.size=none:=I2.hok.fresh<|Ø _;let I3:Â X Do σ (upd H2 A.heap.objs.size<|.lst []) {A with heap:=A.heap.push {cls:=.type "list",dict:=b4,data:=.seq ([]:gw).toArray}}:=
  I2.laid (t':=A.toks) (λb u e=>á _ e) (Ø _) ⟨ĸ _,[],0,.nil,Ċ _ rfl⟩
 let⟨e2,R2,q2⟩:=R1.alloc (c:=.lst []) (o:=.lst []) hfr .nil;generalize hs3:({A with heap:=A.heap.push {cls:=.type "list",dict:=b4,data:=.seq ([]:gw).toArray}}:Ù)=s3 at I3;let G:A.heap.push {cls:=.type "list",dict:=b4,data:=.seq ([]:gw).toArray}=s3.heap:=by rw[<- hs3]
 let QP:=e1.trans e2;generalize hH3:upd H2 A.heap.objs.size (.lst [])=H3 at I3 e2 R2 QP;generalize hπ3:k8 Q a.length A.heap.objs.size=π3 at e2 R2 q2 QP;let hob:∀b∈j,∃o,s3.heap.get? b=b3 o:=λb w=>by let⟨o,ho,_⟩:=T.obj 0 _ st2 b w;show⟨o,by rw[<- G];show á _ ho⟩
 let f3:∀b∈j,kF X Do H3 b:=λb w=>by let⟨o,ho,_⟩:=T.obj 0 _ st2 b w;show⟨?_,(f2 b w).2⟩;rw[<- hH3,bQ<|Ā<|Þ ho];show(f2 b w).1
 let st3:tn 0 s3.heap:=T.keep 0 _ _ st2 λb w o e=>by rw[<- G];show á _ e
 let hC:(A.heap.push {cls:=.type "list",dict:=b4,data:=.seq ([]:gw).toArray}).objs.size=s3.heap.objs.size:=by rw[G]
 rw[G]at K L;let hk1:∀b o,s3.heap.get? b=b3 o->U.get? b=b3 o:=λb o e=>L.extBut b o (Ā<|Þ e)<|á _ e;let E3:En X.K π3 (a++[C.lst []]).length H3 (σ++Ϣ xs.length b4) (N++Ϣ xs.length b4):=by
  let E':=E.mono QP;show⟨by rw[ć,ć,E'.len,vh,vh],λi d' q=>?_⟩;by_cases hi:i<N.length
  .rw[ϕ hi]at q;let⟨v,h5,h6⟩:=E'.get i d' q;show⟨v,by rw[ϕ<|by rw[E'.len];show hi];show h5,h6⟩
  .rw[jb<|qy.mp hi,M1]at q;split at q<;>ext q
 let hlen:N.length=X.N.length:=by rw[<- E.len];show I.len
 let stat:∀{B:Hp}{pl:jw},(∀b∈j,B b=b4)->pl=[]->∀b∈j,kF (dN X scope cl s3.heap.objs.size (bX xs X.N++xs) s3 H3 j) pl B b:=λ{B pl} hn hpl b w=>by
  let⟨f0,f1,f2',f3',f4,f5⟩:=f3 b w;let⟨o,ho⟩:=hob b w;show⟨hn b w,Ā<|Þ ho,λz=>?_,.inl w,λy c h=>f4 y c<|O.sub y c h,λp hp=>?_⟩
  .rcases Č.mp (I3.stkSub b z)with z|z
   .show f1 z
   .show f2' z
  .subst hpl;show absurd (show p∈([]:jw)from hp) ∅
 let loop:∀s4:Ù,(∃tk,s4={s3 with heap:=U,toks:=tk})->
   ι (Î X.prog X.w) X.A (.compLoop (.ListComp elt [⟨tg,iter,ifs,0⟩] scope pos) 0 (.ref it) (.ref A.heap.objs.size)<|Ϯ scope cl s3.heap.objs.size X.env)
    (compPost (Î X.prog X.w) X.A X.xe use QQ (.ref A.heap.objs.size) s3.heap.objs.size) s4:=by
  rintro s4 ⟨tk,rfl⟩;let I4:=O.inv (tk:=tk) I3 f3 hob K hk1;show b2Z (T4 (dN X scope cl s3.heap.objs.size (bX xs X.N++xs) s3 H3 j) X.K tn j π3 (a++[C.lst []]).length H3 N xs.length (kM src bd mc me N a.length) μ') ?_ nt
  <|.mk 0 I4 (T.keep 0 _ _ st3 λb w o e=>hk1 b o e) (λb w=>(f3 b w).1) .refl R2 E3 vh h3
  rintro n s5 hI5;cases hI5 with
  |@mk i σ5 H5 M μ5 o5 I5 st5 fr5 e5 R5 E5 l5 g5=>
  cases n with
  |zero=>ext g5|succ n=>
   let⟨o,h6,h7⟩:=è.mp g5;cases o with
   |none=>
    ext h7;let stop:=W.stop M _ H5 i (e2.trans e5) R5 h6;show ř (T.done (dN X scope cl s3.heap.objs.size (bX xs X.N++xs) s3 H3 j) rfl rfl rfl (hq Do σ H3 s3 j I3) i [] s5 σ5 H5 (λ_ _=>False) I5 (stat fr5 rfl) st5 stop) (λr s6 Z=>?_) λ_ _ z=>z;let⟨hr,I6⟩:=Z;subst hr;let⟨m6,hn6,_⟩:=id I6.loc;let hp:M a.length=A.heap.objs.size:=by rw[e5.pi a.length ∅,q2]
    show fin A.heap.objs.size s3.heap.objs.size M H5 s6 (QP.trans e5) R5 ?_ ⟨m6,hn6⟩ I3.sz (ð<|Ā I3.lt) I6.free (λy c hc z=>?_) (λq hq z=>?_) λh' hh=>Ć.back I3 f3 I6 hh
    .rw[<- hp];show .loc<|Ļ ∅ e5.le
    .let⟨v,o,ho,_⟩:=I3.cell y c hc;show Ā (Þ ho) z
    .show Ā (Þ (I3.pin q hq).1) z
   |some d=>
    let⟨z,hz,h7⟩:=è.mp h7;show bR h7 ?_;clear h7;intro b μ6 h8 h9;let⟨g1,g2⟩:=W.go M μ5 H5 i d (e2.trans e5) R5 h6;show ř (T.item (dN X scope cl s3.heap.objs.size (bX xs X.N++xs) s3 H3 j) rfl rfl rfl (hq Do σ H3 s3 j I3) i [] s5 σ5 H5 (λ_ _=>False) I5 (stat fr5 rfl) st5 g1) (λr s6 Z=>?_) λ_ _ z=>z;let⟨u,hr,h10⟩:=Z;subst hr;show ř h10 (λ_ s7 Z=>?_) λ_ _ z=>z;let⟨v,H7,I7,r7,y7,st7,fr7⟩:=Z;let⟨e7,R7,hd⟩:=g2 v H7 y7;let I7':=I7.pinned (stat fr7 rfl)<|T.obj _ _ st7;let e5:=e5.trans e7;show ř (hg _ _ _ _ _ s7 σ5 H7 v u (λσ' B=>En X.K M μ5.length H7 σ' (N++z)/\B=H7) I7' r7
     ⟨M,N++Ϣ xs.length b4,μ5,d,N++z,R7,a8H (E5.mono e7) l5,hd,(by
      change(bd d μ5).map (λx=>(N++Ϣ xs.length b4).take X.N.length++x)=_;rw[hz,<- hlen,Q5];rfl),λσ' E'=>⟨E',rfl⟩⟩) (λ_ s8 Z=>?_) λ_ _ z=>z
    let⟨σ8,H8,I8,E8,z2⟩:=Z;subst z2;let again:∀{s9:Ù}{H9:Hp}{g:Nat->Addr}{μ9:Hm},Â (dN X scope cl s3.heap.objs.size (bX xs X.N++xs) s3 H3 j) ([]++uZ j s7.heap) σ8 H9 s9->õ π3 (a++[C.lst []]).length H3 g μ9.length H9->Rp X.K g H9 μ9->
      En X.K g μ9.length H9 σ8 (N++z)->kM src bd mc me N a.length n (i+1) μ9=b3 μ'->
      ∃m,m<n+1/\T4 (dN X scope cl s3.heap.objs.size (bX xs X.N++xs) s3 H3 j) X.K tn j π3 (a++[C.lst []]).length H3 N xs.length (kM src bd mc me N a.length) μ' m s9:=λ{s9 H9 g μ9} I9 e9 R9 E9 g9=>by
     show⟨n,Ϥ _,.mk (i+1) I9.unpinned (T.keep _ _ _ st7 λb w o e=>(I9.pin (b,o)<|UV _<|UV _<|xG w e).1) (λb w=>?_) e9 R9 E9 (hb' _ _ _ hz) g9⟩;let⟨o,e,_⟩:=T.obj _ _ st7 b w;show(I9.pin (b,o)<|UV _<|UV _<|xG w e).2.1
    show ř (hc _ _ _ _ _ s8 _ H8 (λb' B=>∃g,b'=b/\õ M μ5.length H8 g μ6.length B/\Rp X.K g B μ6) I8 ⟨M,_,μ5,b,μ6,R7,E8,h8,λg H9 e9 R9=>⟨g,rfl,e9,R9⟩⟩) (λok s9 Z=>?_) λ_ _ z=>z;let⟨H9,I9,g,w,e9,R9⟩:=Z;subst w;cases ok with
    |false=>rw[if_neg ø];show again I9 (e5.trans e9) R9 (E8.mono e9) h9|true=>
     rw[if_pos rfl];show bR h9 ?_;clear h9;intro dy μ7 h11 h12;let⟨μ8,Y,h14⟩:=è.mp h12;show ř (he _ _ _ _ _ s9 _ H9 (λy B=>∃k,õ g μ6.length H9 k μ7.length B/\Rp X.K k B μ7/\Ú X.K k μ7.length B y dy) I9 ⟨g,_,μ6,dy,μ7,R9,E8.mono e9,h11,λk y H10 CR R10 Nd=>⟨k,CR,R10,Nd⟩⟩)
      (λu' s10 Z=>?_) λ_ _ z=>z
     let⟨y,H10,I10,ry,k,CR,R10,Nd⟩:=Z;unfold tH at Y;split at Y
     .rename_i zs hz;split at Y
      .rename_i hl;ext Y;let⟨vs,Nf,Pd⟩:=R10.lst _ zs hz;let eall:=(e5.trans e9).trans CR;let hp:k a.length=A.heap.objs.size:=by rw[eall.pi a.length ∅,q2]
       let⟨Ng,R11⟩:=R10.put (a:=a.length) (c:=.lst (zs++[dy])) (o:=.lst (vs++[y])) (ä.mp hz).1 Nf (.inl ⟨vs,rfl⟩)<|Pd.append<|.cons Nd .nil;rw[hp]at Nf Ng R11;show ř (Fp (X:=dN X scope cl s3.heap.objs.size (bX xs X.N++xs) s3 H3 j) _ s10 _ H10 (.ref A.heap.objs.size) [y] (.ref A.heap.objs.size) [u'] (λ_ B=>B=upd H10 A.heap.objs.size (.lst<|vs++[y])) I10 rfl (.cons ry .nil)
        ⟨A.heap.objs.size,vs,y,rfl,rfl,Nf,by rw[Pd.length];show hl,rfl⟩) (λ_ s11 Z=>?_) λ_ _ z=>z
       let⟨_,H11,I11,_,z⟩:=Z;subst z;show again I11 (eall.trans Ng) R11 ((E8.mono<|e9.trans CR).mono Ng) h14
      .ext Y
     .ext Y
 let l4:=loop {s3 with heap:=U,toks:=A.toks+([]:List (Str×Value)).length} ⟨_,rfl⟩;let hst4:tn 0 U:=T.keep 0 _ _ st3 λb w o e=>hk1 b o e;subst hs3;show codeAny_compStart_list l4<|T.self _ 0 _ _ _ hst4 l4
def a7W(O:Ć X scope cl xs)(N:∀Do σ H s a,Â X Do σ H s->q (dN X scope cl s.heap.objs.size (bX xs X.N++xs) s H a))(hi:uY q X tg iter (ϗ X.K mi))(c:∀d v z,bd d v=b3 z->z.length=xs.length)(J:∀C s₀ H₀ a,PG (dN X scope cl C (bX xs X.N++xs) s₀ H₀ a) tg (Δ X.K<|gB X.N.length bd))(hc:∀C s₀ H₀ a,rJ (dN X scope cl C (bX xs X.N++xs) s₀ H₀ a) ifs mc)(G:∀C s₀ H₀ a,PE (dN X scope cl C (bX xs X.N++xs) s₀ H₀ a) elt (tM X.K me))(T:∀x,ux iter X.env x=pure x):PE X (.ListComp elt [⟨tg,iter,ifs,0⟩] scope pos) (tM X.K<|gU bd mi mc me):=by
 intro Do s σ H Q I hw;let⟨π,ρ,v,d,μ',R,E,K,k⟩:=hw;rw[eval_ListComp];show Gi (use:=b4) O N hi c J hc G T I R E K λp C i j s' y w Y h U M g n u back=>?_;let⟨m,L⟩:=h;show⟨m,L,λA Z=>⟨.ref p,j,back A λb o B e=>(Z.2 b B).trans e,rfl,k i _ j y w Y⟩⟩
def a7V(O:Ć X scope cl xs)(a:X.calm=dI)(hi:PI X tg iter (ϗ X.K mi))(c:∀d i z,bd d i=b3 z->z.length=xs.length)(g:∀C s₀ H₀ b,PG (dN X scope cl C (bX xs X.N++xs) s₀ H₀ b) tg (Δ X.K<|gB X.N.length bd))(hc:∀C s₀ H₀ b,rJ (dN X scope cl C (bX xs X.N++xs) s₀ H₀ b) ifs mc)(e:∀C s₀ H₀ b,PE (dN X scope cl C (bX xs X.N++xs) s₀ H₀ b) elt (tM X.K me))(h:∀x,ux iter X.env x=pure x):PE X (.ListComp elt [⟨tg,iter,ifs,0⟩] scope pos) (tM X.K<|gU bd mi mc me):=a7W O (λ_ _ _ _ _ _=>a) hi c g hc e h
def a7U(O:Ć X scope cl xs)(hN:X.N.Nodup)(h:X.calm=dI)(hi:PI X tg iter (ϗ X.K mi))(K:∀d μ z,bd d μ=b3 z->z.length=xs.length)(hg:∀C s₀ H₀ q,PG (dN X scope cl C (bX xs X.N++xs) s₀ H₀ q) tg (Δ X.K<|gB X.N.length bd))(hc:∀C s₀ H₀ q,rJ (dN X scope cl C (bX xs X.N++xs) s₀ H₀ q) ifs mc)(he:∀C s₀ H₀ q,PE (dN X scope cl C (bX xs X.N++xs) s₀ H₀ q) elt (tM X.K me))(hs:∀x,ux iter X.env x=pure x)(hy:X.N[i]?=b3 y)(Z:X.env.scope.names.lookup y=b3 .local)(M:fj (.ListComp elt [⟨tg,iter,ifs,0⟩] scope pos) (b3<|.Name y py) g.line X.env=pure dI):
  PS X (.Assign [.Name y py] (.ListComp elt [⟨tg,iter,ifs,0⟩] scope pos) g) (Ŗ X.K<|fN i<|gU bd mi mc me):=by
 intro n s σ H EN I hw;let⟨π,ρ,μ,fl,ρ',μ',R,E,A,k⟩:=hw;show u9 A ?_;clear A;intro d μ1 h1 A;ext A;rw[exec_Assign_Name_used _ _ _ _ M];show Á<|My ?_;show Á<|Á ?_;show Gi (use:=b3 (au (.Name y py) X.env)) (QQ:=λ_ w=>È (Î X.prog X.w) X.A (pure Unit.unit) (λ_ Q=>È (Î X.prog X.w) X.A (pure Flow.next) (SP X n EN) X.xe Q) X.xe w) O (λ_ _ _ _ _ _=>h) hi K hg hc he hs I R E h1 λp C U B w Y R1 i1 L N u j c v back=>?_;let⟨m,hn⟩:=L;let I1:Â X n σ B w:=back w.heap λb o _ e=>e;change È (Î X.prog X.w) X.A (au (.Name y py) X.env<|.ref p) _ X.xe w;show QY ?_;show EA I1 hN hy (.inl Z) (show Í (.ref p) (.ref p)from rfl) (λs2 I2 ⟨a,sb,J⟩=>?_)<|.inr Z;let G:C≠a:=by
  rcases J with rfl|J
  .show u
  .show ð<|c _ _ J
 show⟨m,hn.sameBut sb G,λh' T=>Ê<|Ê ?_⟩;show⟨σ.set i<|b3<|.ref p,B,I2.turned (t':=s2.toks) (λb o hb e=>(T.2 b hb).trans e) j u (.inr N) c v,?_⟩;show k U _ B Y R1<|(E.mono Y).set i1 i
abbrev cR:ME:=λ_ _=>b4
abbrev rO:MT:=λ_ _=>b4
abbrev dO:MS:=λ_ _=>b4
section
variable{X:Cx}{e a b c o:Expr}{m m1 m2 ma mb mc:ME}{pos:Ĳ}{mt mu:MT}{cG es:List Expr}{ms:MA}{n:Nat}
def cD:QE X e cR:=⟨λDo s σ H Q I h=>by
 let⟨p,q,j,d,i,R,E,g,k⟩:=h;ext g⟩
def yH:QT X e rO:=⟨λDo s σ H Q I h=>by
 let⟨p,q,j,d,i,R,E,g,k⟩:=h;ext g⟩
def a7R:QW X e rO:=⟨λj Do s σ H Q I h=>by
 let⟨q,u,p,d,i,R,E,g,k⟩:=h;ext g⟩
def fQ:QS X st dO:=⟨λDo s σ H D I h=>by
 let⟨q,u,p,j,i,g,R,E,d,k⟩:=h;ext d⟩
def yI(q:∀d p j,g d p j=b4):QG X e g:=⟨λDo s σ H v u Q I r h=>by
 let⟨x,p,j,d,w,R,E,hd,i,k⟩:=h;rw[q]at i;ext i⟩
def rP(h1:QE X e m1)(u:QE X e m2)(h:∀i g r,m i g=b3 r->m1 i g=b3 r\/m2 i g=b3 r):QE X e m:=⟨λDo s σ H Q I q=>by
 let⟨p,i,g,d,j,R,E,v,k⟩:=q;rcases h i g _ v with z|z
 .show h1.h Do s σ H Q I ⟨p,i,g,d,j,R,E,z,k⟩
 .show u.h Do s σ H Q I ⟨p,i,g,d,j,R,E,z,k⟩⟩
def tL{m m1 m2:MT}(h1:QT X e m1)(u:QT X e m2)(h:∀i g r,m i g=b3 r->m1 i g=b3 r\/m2 i g=b3 r):QT X e m:=⟨λDo s σ H Q I q=>by
 let⟨p,i,g,d,j,R,E,v,k⟩:=q;rcases h i g _ v with z|z
 .show h1.h Do s σ H Q I ⟨p,i,g,d,j,R,E,z,k⟩
 .show u.h Do s σ H Q I ⟨p,i,g,d,j,R,E,z,k⟩⟩
def kN{f j k:D->D->Hm->jk}(h:∀x y d r,f x y d=b3 r->j x y d=b3 r\/k x y d=b3 r) :
  ∀i d r,aA f ma mb i d=b3 r->aA j ma mb i d=b3 r\/aA k ma mb i d=b3 r:=by
 intro i d r g;let⟨p,h1,g⟩:=è.mp g;let⟨q,s,g⟩:=è.mp g;rcases h _ _ _ _ g with z|z
 .show .inl<|è.mpr ⟨p,h1,è.mpr ⟨q,s,z⟩⟩
 .show .inr<|è.mpr ⟨p,h1,è.mpr ⟨q,s,z⟩⟩
def tP(h:∀g d r,m g d=b3 r->m1 g d=b3 r\/m2 g d=b3 r):∀g d r,a7 m g d=b3 r->a7 m1 g d=b3 r\/a7 m2 g d=b3 r:=by
 intro g d r i;let⟨p,h1,i⟩:=è.mp i;rcases h _ _ _ h1 with z|z
 .show .inl<|è.mpr ⟨p,z,i⟩
 .show .inr<|è.mpr ⟨p,z,i⟩
abbrev tQ:List D->Option (List Int)
 |[]=>b3 []|.int i::r=>(tQ r).map (i::·)|_=>b4
abbrev dP:D->Option (List Int)
 |.tup ds=>tQ ds|_=>b4
abbrev a9(kvs:jx)(k:List Int):Option D:=(kvs.find? λp=>decide<|p.1=k).map (·.2)
abbrev cC(kvs:jx)(k:List Int)(d:D):jx:=if(a9 kvs k).isSome then kvs.map (λp=>if p.1=k then(p.1,d)else p)else kvs++[(k,d)]
abbrev bF:D->D->Hm->jk:=λx y g=>match x with
 |.loc a=>match g[a]? with
  |some (.dT kvs)=>(dP y).bind λk=>(a9 kvs k).map λd=>(d,g)|some (.dF kvs)=>(dP y).bind λk=>(a9 kvs k).map λd=>(d,g)|_=>kH x y g
 |_=>kH x y g
abbrev vH(kvs:List (bM×D))(mb:ME):ME:=λh g=>(mb h g).bind λp=>(yC p.1).bind λk=>(lI kvs k).map λd=>(d,p.2)
structure χ(X:Cx)(x:Str)(kvs:List (bM×D)):Prop where
 ex:∃(p:Addr)(vs:List (bM×V))(ws:List (bM×Value)),X.mg x=b3 (.ref p)/\(p==ľ)=b5/\(∀h:ñ,X.K.In h->h.DictOf (jP X.prog X.w) p ws)/\KV vs ws/\∀π n H,ş X.K π n H vs kvs
def a7H(T:χ X x kvs)(hg:Gl X x)(hd:(x==("__debug__":Str))=b5)(hb:QE X b mb)(h:rN b=dI):QE X (.Subscript (.Name x p) b pos) (vH kvs mb):=⟨by
 let⟨q,vs,ws,hm,_,U,hv,hk⟩:=T.ex;intro w s σ H Q I hw;let⟨π,ρ,μ,d,μ',R,E,g,k⟩:=hw;show bR g ?_;clear g;intro y j h1 g;let⟨L,h2,g⟩:=è.mp g;let⟨d',z,g⟩:=ì.mp g;ext g;let N:∀{H':Hp}{Y:Ù},Â X w σ H' Y->Y.TypeIs (.ref q) "dict":=λI'=>(U _ I'.kIn).typeIs;show Fc Ru.lookup (BM h)<|uW I hg hm ?_ hd;show aW (hb.h w s σ H _ I ⟨π,ρ,μ,y,_,R,E,h1,λi Z u G B K=>(⟨i,G,B,K⟩:∃i,õ π μ.length H i j.length u/\Rp X.K i u j/\Ú X.K i j.length u Z y)⟩) λiv s2 ⟨Z,u,A,r1,i,G,B,K⟩=>?_;show⟨N A,?_⟩;let ev:=F8 K h2;subst ev;let dd:=U _ A.kIn;rcases(hk i j.length u).val L with⟨O,_⟩|⟨v,d2,O,z2,z3⟩
 .rw[O]at z;ext z
 .rw[O]at z;ext z;let⟨w',J,M⟩:=Œ.some_of (v:=v) (o:=fC ws L) (by rw[<- z2];show hv.val L);show wpAny_getItem_of (E7 r1) dd.mapOf J ⟨v,u,A.tok _,M,k i v u G B z3⟩⟩
abbrev BS(kvs:List (bM×D))(ma:ME):ME:=λg d=>(ma g d).bind λp=>(yC p.1).map λk=>(.bl (lI kvs k).isSome,p.2)
def TzI(T:χ X x kvs)(hg:Gl X x)(hd:(x==("__debug__":Str))=b5)(ha:QE X a ma):QE X (.Compare a [.In] [.Name x p] pos) (BS kvs ma):=⟨by
 let⟨q,vs,ws,hm,hs,hD,hv,hk⟩:=T.ex;intro A s σ H Q I hw;let⟨N,ρ,M,d,μ',R,E,h,k⟩:=hw;show bR h ?_;clear h;intro y i h1 h;let⟨u,Z,h⟩:=ì.mp h;ext h;show Px (aW (ha.h A s σ H _ I ⟨N,ρ,M,y,_,R,E,h1,λg J j B z G=>(⟨g,B,z,G⟩:∃g,õ N M.length H g i.length j/\Rp X.K g j i/\Ú X.K g i.length j J y)⟩) λiv s2 ⟨J,j,w,r1,g,B,z,G⟩=>uW w hg hm ?_ hd) rfl;let Y:=F8 G Z;subst Y;let O:=hD _ w.kIn;show wpAny_in_of (E7 r1) hs O.mapOf ⟨.bl _,j,w.tok _,rfl,?_⟩;let U:(fC ws u).isSome=(lI kvs u).isSome:=by rw[<- (hv.val u).isSome_eq];rcases(hk g i.length j).val u with⟨K,L⟩|⟨v,d2,K,L,z3⟩<;>rw[K,L]<;>rfl
 rw[U];show k g _ j B z<|.bl _⟩
def Gj{σ:St}(I:Â X Do σ H s)(h:X.K.lookup p=b3 ob):H p=none:=(I.bs p ob<|I.mod.kin p ob h).2
def Gk(R:Rp K π H i)(k:g<i.length):∃u,H (π g)=b3 u/\(∀vs,u≠.tup vs)/\∀ob v,(∀j,v≠HO.ext j)->u≠.frz ob v:=by
 cases q:i[g]? with
 |none=>show absurd (τ.mp q) ()|some cl=>
  cases cl with
  |lst d=>let⟨vs,h,_⟩:=R.lst g d q;show⟨_,h,(λ_ z=>nomatch z),λ_ _ _ z=>nomatch z⟩|dK d=>let⟨vs,h,_⟩:=R.dK g d q;show⟨_,h,(λ_ z=>nomatch z),λ_ _ _ z=>nomatch z⟩|st d=>let⟨vs,h,_⟩:=R.st g d q;show⟨_,h,(λ_ z=>nomatch z),λ_ _ _ z=>nomatch z⟩|dT d=>let⟨vs,h,_⟩:=R.dT g d q;show⟨_,h,(λ_ z=>nomatch z),λ_ _ _ z=>nomatch z⟩|dF d=>let⟨ob,vs,h,_⟩:=R.dF g d q;show⟨_,h,(λ_ z=>nomatch z),λ_ _ n z=>n _<|by ext z;rfl⟩
section
variable{Do:jw}{σ:St}{H:Hp}{s:Ù}{π:Nat->Addr}{μ:Hm}
def Gm(I:Â X Do σ H s)(R:Rp X.K π H μ)(j:g<μ.length)(h:ç X.K H (π g) vs):False:=by
 let⟨u,d,h1,i⟩:=Gk R j;rcases h with(h|⟨ob,h⟩)|⟨ob,its,n,k,_⟩
 .rw[d]at h;show h1 _<|Ė h
 .rw[d]at h;show i _ (.tup vs) (λp z=>nomatch z)<|Ė h
 .rw[Gj I k]at d;ext d
def Gn(I:Â X Do σ H s)(R:Rp X.K π H μ)(j:g<μ.length)(h:aj X.K H (π g) vs):False:=by
 let⟨u,d,h1,i⟩:=Gk R j;rcases h with⟨ob,h⟩|⟨ob,its,n,k,_⟩
 .rw[d]at h;show i _ (.lst vs) (λp z=>nomatch z)<|Ė h
 .rw[Gj I k]at d;ext d
def Gp(I:Â X Do σ H s)(h:ç X.K H p vs)(h':aj X.K H p ws):False:=by let⟨its,_,t,_⟩:=I.tuple h;let⟨d,_,l,_⟩:=I.list h'.sq;show absurd rfl<|nq l.isList t
mutual
theorem BU(I:Â X Do σ H s)(R:Rp X.K π H μ){v:V}{d d':D}:Ú X.K π μ.length H v d->Ú X.K π μ.length H v d'->d=d'
 |.non,h'=>by ext h';rfl
 |.bl _,h'=>by ext h';rfl
 |.int _,h'=>by ext h';rfl
 |.str _,h'=>by ext h';rfl
 |.ty _,h'=>by ext h';rfl
 |.tup h t,h'=>by
  cases h' with
  |tup g i=>have:=I.tuple_inj h g;subst this;rw[BV I R t i]|rol g i=>show(Gp I h g).elim|loc g=>show(Gm I R g h).elim
 |.rol h t,h'=>by
  cases h' with
  |tup g i=>show(Gp I g h).elim|rol g i=>have:=I.list_inj h.sq g.sq;subst this;rw[BV I R t i]|loc g=>show(Gn I R g h).elim
 |.loc (a:=a1) ha,h'=>by
  generalize hz:V.ref (π a1)=z at h';cases h' with
  |tup g i=>ext hz;show(Gm I R ha g).elim|rol g i=>ext hz;show(Gn I R ha g).elim|loc g=>have:=R.inj _ _ ha g<|V.ref.inj hz;rw[this]|_=>ext hz
theorem BV(I:Â X Do σ H s)(R:Rp X.K π H μ){vs:gz}{ds d:List D}:Ç X.K π μ.length H vs ds->Ç X.K π μ.length H vs d->ds=d
 |.nil,h'=>by ext h';rfl
 |.cons h t,h'=>by
  cases h' with
  |cons g i=>rw[BU I R h g,BV I R t i]
end
end
abbrev pV(a:Hm)(x:D):List D->Option Bool
 |[]=>b3 b5|y::r=>(eI 8 a y x).bind λb=>(pV a x r).map λc=>b||c
abbrev rQ(a:Bool):D->D->Hm->jk:=λx y c=>(bO c y).bind λd=>(pV c x d).map λb=>(.bl<|if a then !b else b,c)
abbrev BW(K:Ô)(c:Bool):R2:=λx y H Q=>∃π a d e g b,Rp K π H a/\Ú K π a.length H x d/\Ú K π a.length H y e/\bO a e=b3 g/\pV a d g=b3 b/\Q (.bl<|if c then !b else b) H
def yJ{c:Bool}:eH K (rQ c) (BW K c):=by intro e H q x y d n o p Q R h i a k;let⟨j,h1,a⟩:=è.mp a;let⟨b,g,a⟩:=ì.mp a;ext a;show⟨e,_,x,y,j,b,R,h,i,h1,g,k e _ H .refl R<|.bl _⟩
def yK{σ:St}(I:Â X Do σ H s)(R:Rp X.K π H i)(Q:A.units+8<Ą){n:D}(rx:Í x v)(Z:Ú X.K π i.length H x n):
  ∀{e}{vs}{us}{b},Ç X.K π i.length H vs e->Å vs us->pV i n e=b3 b->
   ∃g,(∀u∈us,m5 A s u v (g u))/\us.any g=b:=by
 classical
 intro e vs us b hi k d
 let p:∀{e:List D}{vs:gz}{us:gw}{b:Bool},Ç X.K π i.length H vs e->Å vs us->pV i n e=b3 b->(∀u∈us,∃c,m5 A s u v c/\∃w o,Í w u/\Ú X.K π i.length H w o/\eI 8 i o n=b3 c):=by
  intro e
  induction e with
  |nil=>
   intro vs us b hi k d u a
   ext hi
   ext k
   ext a
  |cons y e J=>
   intro vs us b hi k d u a
   cases hi with
   |cons h t=>
    cases k with
    |cons r rt=>
     let⟨c,h1,d⟩:=è.mp d
     let⟨M,E,d⟩:=ì.mp d
     rcases Č.mp a with rfl|a
     .show⟨c,BA I R 8 Q r rx h Z h1,_,_,r,h,h1⟩
     .show J t rt E u a
 let q:=p hi k d
 show⟨λu=>if h:u∈us then ul (q u h)else b5,λu a=>?_,?_⟩
 .dsimp[dif_pos a]
  show(NI<|q u a).1
 .let key:∀u (h:u∈us) w o c,Í w u->Ú X.K π i.length H w o->eI 8 i o n=b3 c->ul (q u h)=c:=by
   intro u h w o c K Y L
   let⟨_,w2,N,r2,U,O⟩:=NI<|q u h
   have:w2=w:=r2.inj K
   subst this
   have:=BU I R U Y
   subst this
   rw[O]at L
   show Ė L
  let B:∀{e:List D}{vs:gz}{j:gw}{b:Bool},(∀u∈j,u∈us)->Ç X.K π i.length H vs e->Å vs j->pV i n e=b3 b->j.any (λu=>if h:u∈us then ul (q u h)else b5)=b:=by
   intro e
   induction e with
   |nil=>
    intro vs j b G hi k d
    ext hi
    ext k
    ext d
    rfl
   |cons y e J=>
    intro vs j b G hi k d
    cases hi with
    |cons h t=>
     cases k with
     |@cons _ u _ us2 r rt=>
      let⟨c,h1,d⟩:=è.mp d
      let⟨M,E,d⟩:=ì.mp d
      have iP:u∈us:=G u<|ţ ..
      rw[OG,J (λz T=>G z<|ŏ _ T) t rt E,dif_pos iP,key u iP _ _ c r h h1]
      show d
  show B (λ_ h=>h) hi k d
def yL(r:ê k A):A.units+9<Ą:=by have:=r.un;lia
def Gq(G:X.A.units+9<Ą):đ X (Ķ .In) (BW X.K b5):=by
 intro k s N H x y v u Q I j A h;let⟨M,L,B,E,K,b,R,i,z,n,e,q⟩:=h;let⟨p,J,rfl,a,hd⟩:=tJ R z n;ext A;rcases a with a|a
 .let⟨its,r,pl,o⟩:=I.list a;let⟨g,c,d⟩:=yK I R (A:=X.A.in1) (by rw[mN];lia) j i hd r e;show SeqAt.in_listAt g pl.isList (λw hw=>c w<|by apply hw) ⟨.bl _,H,I,rfl,?_⟩;rw[show its.toArray.any g=its.any g by simp,d];show q
 .let⟨its,r,pl,o⟩:=I.tuple a;let⟨g,c,d⟩:=yK I R (A:=X.A.in1) (by rw[mN];lia) j i hd r e;show SeqAt.in_tupleAt g pl (λw hw=>c w<|by apply hw) ⟨.bl _,H,I,rfl,?_⟩;rw[show its.toArray.any g=its.any g by simp,d];show q
def Gs(G:X.A.units+9<Ą):đ X (Ķ .NotIn) (BW X.K dI):=by
 intro k s N H x y v u Q I j A h;let⟨M,L,B,E,K,b,R,i,z,n,e,q⟩:=h;let⟨p,J,rfl,a,hd⟩:=tJ R z n;ext A;rcases a with a|a
 .let⟨its,r,pl,o⟩:=I.list a;let⟨g,c,d⟩:=yK I R (A:=X.A.in1) (by rw[mN];lia) j i hd r e;show SeqAt.notIn_listAt g pl.isList (λw hw=>c w<|by apply hw) ⟨.bl _,H,I,rfl,?_⟩;rw[show its.toArray.any g=its.any g by simp,d];show q
 .let⟨its,r,pl,o⟩:=I.tuple a;let⟨g,c,d⟩:=yK I R (A:=X.A.in1) (by rw[mN];lia) j i hd r e;show SeqAt.notIn_tupleAt g pl (λw hw=>c w<|by apply hw) ⟨.bl _,H,I,rfl,?_⟩;rw[show its.toArray.any g=its.any g by simp,d];show q
abbrev eD(b:Bool):D->D->Hm->jk
 |.str i,.str j,μ=>b3 (.bl<|if b then !(!(je j i 0 j.length 1).isEmpty)else !(je j i 0 j.length 1).isEmpty,μ)|x,.loc a,μ=>match μ[a]? with
  |some (.dT kvs)=>(dP x).map λk=>(.bl<|if b then !(a9 kvs k).isSome else(a9 kvs k).isSome,μ)|some (.dF kvs)=>(dP x).map λk=>(.bl<|if b then !(a9 kvs k).isSome else(a9 kvs k).isSome,μ)|_=>rQ b x (.loc a) μ
 |x,y,μ=>rQ b x y μ
abbrev BX:D->D->Hm->jk
 |.str i,.str j,μ=>b3 (.bl<|!(!(je j i 0 j.length 1).isEmpty),μ)|_,_,_=>b4
def Gu:eH K BX (λx y H Q=>∃i j,x=.str i/\y=.str j/\Q (.bl<|!(!(je j i 0 j.length 1).isEmpty)) H):=by
 intro g H o x y d e h n Q R b c a k;unfold BX at a;split at a
 .ext a;ext b;ext c;show⟨_,_,rfl,rfl,k g _ H .refl R<|.bl _⟩
 .ext a
abbrev nK(a:Bool):D->D->Hm->jk
 |x,.non,μ=>b3 (.bl<|match x with|.non=>!a|_=>a,μ)|_,_,_=>b4
def Gv:eH K (nK b5) (λx y H Q=>y=.non/\Q (.bl<|decide<|x=.non) H):=by
 intro g H j x y d e h i Q R b c a k;unfold nK at a;split at a
 .ext a;ext c;show⟨rfl,?_⟩;ext b<;>show k g _ H .refl R<|.bl _
 .ext a
def Gw:eH K (nK dI) (λx y H Q=>y=.non/\Q (.bl<|!decide (x=.non)) H):=by
 intro g H j x y d e h i Q R b c a k;unfold nK at a;split at a
 .ext a;ext c;show⟨rfl,?_⟩;ext b<;>show k g _ H .refl R<|.bl _
 .ext a
def TuP(c:QE X a ma)(d:QE X b mb):QE X (.Compare a [.Is] [b] pos) (aA (nK b5) ma mb):=⟨iK EM Gv c.h d.h<|fJ _⟩
def TiV(c:QE X a ma)(d:QE X b mb):QE X (.Compare a [.IsNot] [b] pos) (aA (nK dI) ma mb):=⟨iK EO Gw c.h d.h<|fJ _⟩
def TaI(c:QE X a ma)(d:QE X b mb):QT X (.Compare a [.Is] [b] pos) (a7<|aA (nK b5) ma mb):=⟨iL EM Gv c.h d.h<|fJ _⟩
def SfI(c:QE X a ma)(d:QE X b mb):QT X (.Compare a [.IsNot] [b] pos) (a7<|aA (nK dI) ma mb):=⟨iL EO Gw c.h d.h<|fJ _⟩
end
abbrev rR(d:Hm):D->Bool
 |.rol _=>dI|.loc a=>match d[a]? with|some (.lst _)=>dI|_=>b5
 |_=>b5
abbrev d9(f:D->List D->Hm->jk)(mo:ME)(ms:MA):ME:=λd g=>(mo d g).bind λp=>match rR p.2 p.1 with
 |true=>(ms d p.2).bind λq=>f p.1 q.1 q.2|false=>b4
abbrev mQ(K:Ô)(f:D->List D->Hm->jk)(r:V->gz->Hp->VK->Prop):Prop:=
 ∀i H g x k d h v j Q,Rp K i H g->Ú K i g.length H v x->Ç K i g.length H j k->f x k g=b3 (d,h)->KC K Q i g.length H d h->r v j H Q
def SPr(R:Rp K π H d)(h:Ú K π d.length H v x)(e:rR d x=dI):Bq K "list" v H:=by
 cases h with
 |rol h t=>show .inl ⟨rfl,_,h.sq⟩|@loc a k=>
  dsimp[rR]at e;split at e
  .rename_i j g;let⟨i,h1,_⟩:=R.lst a j g;show .inl ⟨rfl,i,.of h1⟩
  .ext e
 |_=>ext e
def PaI(G:mQ K f r):∀σ H Q,tM K (d9 f mo ms) σ H Q->Fm K "list" r (tM K mo) (Ε K ms) σ H Q:=by
 rintro σ H Q ⟨O,z,N,d,j,R,E,g,k⟩;show bR g ?_;clear g;intro x h h1 g;dsimp at g;split at g
 .rename_i I;show bR g ?_;clear g;intro y i B g;show⟨O,z,N,x,h,R,E,h1,λp L T u s w=>⟨SPr s w I,p,z,h,y,i,s,E.mono u,B,λq M A v R2 J=>?_⟩⟩;show G q A i x y d j L M Q R2 (w.mono v) J g<|k.after<|u.trans v
 .ext g
abbrev lK:Expr->Bool
 |.Call (.Name _ _) [] [] _=>b5|_=>dI
def pW(h:lK o=dI):fu o i env d=d:=by
 cases o with
 |Call f g j p=>
  cases f with
  |Name id q=>
   cases g with
   |nil=>
    cases j with
    |nil=>ext h|cons _ _=>rfl
   |cons _ _=>rfl
  |_=>rfl
 |_=>rfl
def Gx(h:(e::es).all fE=dI)(g:(e::es).length<30):
  ((Ř cpos (Ă (e::es) env)).all (λx=>!x.1)&&(kh cpos (m7 [] env)).all (λx=>x.1.isSome)
   && decide ((e::es).length+([]:List Υ).length+(if([]:List Υ).isEmpty then 0 else 1)<30))=true:=by
 let h1:(Ř cpos (Ă (e::es) env)).all (λx=>!x.1)=true:=by have:=rL (pos:=cpos) (env:=env) h;rw[List.all_eq_not_any_not];apply this
 rw[h1];let d:(e::es).length+([]:List Υ).length+(if([]:List Υ).isEmpty then 0 else 1)<30:=by change(e::es).length+0+0<30;lia
 rw[decide_eq_true d];rfl
def yM{id:String}(h:Slot "list" name id)(i:M0 (.builtin id)=pure (.type "method_descriptor"))(q:nG X id r)(k:mQ X.K f r)(u:QE X o mo)(j:QA X (e::es) ms n)(v:lK o=dI)(p:(apos.endLine==cpos.line)=dI)(s:(e::es).length<30):QE X (.Call (.Attribute o name apos) (e::es) [] cpos) (d9 f mo ms):=by
 let g:=j.s;let d:=g;rw[Ő,ó]at d;show⟨eM (b0j PySem.F.plainAttrs_list h i q u.h j.h (pW v) (Gx g s) p (iC d.1)<|rL d.2)<|PaI k⟩
abbrev eV:D->List D->Hm->jk
 |.loc a,[y],μ=>(tH μ a y).map λd=>(.non,d)|_,_,_=>b4
abbrev oR:D->List D->Hm->jk
 |.loc a,[.loc b],μ=>match μ[a]?,μ[b]? with
  |some<|.lst xs,b3 (.lst ys)=>if xs.length+ys.length<=Ò then b3 (.non,μ.set a<|.lst<|xs++ys)else b4|_,_=>b4
 |_,_,_=>b4
def MhI(h:Ç K π n H vs ds):Ç K π n H vs.reverse ds.reverse:=by
 induction ds generalizing vs with
 |nil=>ext h;show .nil|cons d ds g=>
  cases h with
  |cons h t=>rw[zc,zc];show(g t).append<|.cons h .nil
def LqI:mQ K eV Fo:=by
 intro J H N x M d G v L Q R B h g k;unfold eV at g;split at g
 .rename_i a y;let⟨I,h1,g⟩:=ì.mp g;ext g;unfold tH at h1;split at h1
  .rename_i s q;split at h1
   .rename_i z;ext h1;let⟨i,j,p⟩:=R.lst a s q;ext B;cases h with
    |cons E A=>ext A;let⟨w,u⟩:=R.put (a:=a) (c:=.lst (s++[y])) (o:=.lst (i++[_])) (ä.mp q).1 j (.inl ⟨i,rfl⟩)<|p.append<|.cons E .nil;show⟨_,i,_,rfl,rfl,j,by rw[p.length];show z,k J _ _ w u .non⟩
   .ext h1
  .ext h1
 .ext g
def L0I:mQ K oR Fq:=by
 intro N H U x T d M v O Q R J h g k;unfold oR at g;split at g
 .rename_i a b;split at g
  .rename_i y w s G;split at g
   .rename_i E;ext g;let⟨i,j,p⟩:=R.lst a y s;let⟨u,B,q⟩:=R.lst b w G;ext J;cases h with
    |cons L I=>ext I;ext L;let⟨A,z⟩:=R.put (a:=a) (c:=.lst (y++w)) (o:=.lst (i++u)) (ä.mp s).1 j (.inl ⟨i,rfl⟩)<|p.append q;show⟨_,_,i,u,rfl,rfl,j,B,by rw[p.length,q.length];show E,k N _ _ A z .non⟩
   .ext g
  .ext g
 .ext g
abbrev pX:D->List D->Hm->jk
 |.loc a,[.int i],μ=>match μ[a]? with
  |some (.lst xs)=>if 0<=i/\i<2^62 then(xs[i.toNat]?).map λy=>(y,μ.set a<|.lst<|xs.eraseIdx i.toNat)else b4|_=>b4
 |_,_,_=>b4
def b0E(h:Ç K π n H vs ds)k:Ç K π n H (vs.eraseIdx k) (ds.eraseIdx k):=by rw[SQ,SQ];show(h.take k).append<|h.drop<|k+1
def b0A(h0:0<=i)(h:i.toNat<n):ym i n=b3 i.toNat:=by let e:(if i<0 then i+(n:Int)else i)=i:=if_neg ();ext ym;dsimp;rw[e,if_pos<|by rw[ó,decide_eq_true_iff,decide_eq_true_iff];lia]
def a9y:mQ K pX Fs:=by
 intro M H T x O d L v N Q R I h g k;unfold pX at g;split at g
 .split at g
  .rename_i z u;split at g
   .rename_i E;let⟨y,h1,g⟩:=ì.mp g;ext g;let⟨i,p,q⟩:=R.lst _ z u;ext I;cases h with
    |cons G J=>ext G;ext J;let⟨w,s,B⟩:=q.get h1;let⟨j,A⟩:=R.put (c:=.lst (z.eraseIdx _)) (o:=.lst (i.eraseIdx _)) (ä.mp u).1 p (.inl ⟨i,rfl⟩)<|b0E q _;let hw:=(ä.mp s).1;show⟨_,i,_,_,w,rfl,rfl,p,(),(),b0A E.1 hw,s,k M w _ j A<|B.mono j⟩
   .ext g
  .ext g
 .ext g
abbrev nM(d:Hm):D->Option Bool
 |.non=>b3 b5|.bl b=>b3 b|.int i=>b3 (i != 0)|.str z=>if z.length<=Ò then b3 ((z.length:Int) != 0)else b4|.tup xs=>b3 (!xs.isEmpty)|.rol xs=>b3 (!xs.isEmpty)|.loc a=>match d[a]? with|some (.lst xs)=>b3 (!xs.isEmpty)|some (.dK kvs)=>b3 (!kvs.isEmpty)|_=>b4
 |.ty _=>b4
def yN{g i:Type}{xs:List g}{d:List i}(h:xs.length=d.length):xs.isEmpty=d.isEmpty:=by ext xs<;>ext d<;>first|rfl|ext h
def a9x(R:Rp K π H p)(h:Ú K π p.length H v x)(e:nM p x=b3 b):Bj K v H b:=by
 cases h with
 |non=>ext e;rfl|bl c=>ext e;rfl|int i=>ext e;rfl|str z=>
  dsimp[nM]at e;split at e
  .rename_i q;ext e;show⟨q,rfl⟩
  .ext e
 |tup h t=>ext e;show .inr (.inl ⟨_,h,by rw[yN t.length]⟩)|rol h t=>ext e;show .inl ⟨_,h.sq,by rw[yN t.length]⟩|@loc a u=>
  dsimp[nM]at e;split at e
  .rename_i s g;ext e;let⟨k,h1,d⟩:=R.lst a s g;show .inl ⟨k,.of h1,by rw[yN d.length]⟩
  .rename_i j g;ext e;let⟨k,h1,d,_⟩:=R.dK a j g;show .inr<|.inr ⟨k,h1,?_⟩;have:=congrArg İ d;rw[Ã,Ã]at this;rw[yN this]
  .ext e
 |ty n=>ext e
abbrev c8(m:ME):MT:=λg d=>(m g d).bind λp=>(nM p.2 p.1).map λb=>(b,p.2)
def a9a(h:QE X e m)(s:BN e=dI):QT X e (c8 m):=⟨xS (a8t h.h<|b2J s)<|by
 rintro I H Q ⟨z,A,v,b,w,R,E,d,k⟩;show bR d ?_;clear d;intro x y h1 d;let⟨B,q,d⟩:=ì.mp d;ext d;show⟨z,A,v,x,_,R,E,h1,λg G j p i u=>⟨_,a9x i u q,k g j p i⟩⟩⟩
def a9W(F:ĺ X.prog X.w X.K X.mg X.base iZ k f j ps (mI X.K 0 q))(w:ê k X.A)(g:X.mg x=b3 (.ref f))(v:ϱ X.K (.ref f)=dI)(s:Ĩ X.K j ps [])(u:Gl X x)(h:(x==("__debug__":Str))=b5):QE X (.Call (.Name x p) [] [] pos) (bJ q aF):=
 ⟨eM (a9t F w u g v s .nil (E:=E0) Fw h)<|by
  rintro I H Q ⟨A,G,y,d,i,R,E,g,k⟩;show bR g ?_;clear g;intro B z h1 g;ext h1;show⟨rfl,A,[],y,d,i,R,.nil,g,k⟩⟩
abbrev rS(c:MT)(b:MS):Nat->MS
 |0,_,_=>b4|n+1,ρ,μ=>(c ρ μ).bind λp=>match p.1 with
  |false=>b3 (.nx,ρ,p.2)|true=>(b ρ p.2).bind λq=>match q.1 with
   |.nx=>rS c b n q.2.1 q.2.2|.ct=>rS c b n q.2.1 q.2.2|.bk=>b3 (.nx,q.2.1,q.2.2)|.rt d=>b3 (.rt d,q.2.1,q.2.2)
abbrev tR(n:Nat)(c:MT)(b:MS):MS:=rS c b n
def a9V{mt:MT}n(hc:QT X c mt)(hb:QB X body mb)(hp:yj (Î X.prog X.w) X.A X.env X.xe):QS X (.While c body [] pos) (tR n mt mb):=⟨nH (a8E hp hc.h hb.h)<|by
 rintro E σ H ⟨π,ρ,Z,U,I,B,R,EN,hm,k⟩;let s:∀{h:Nat->Addr}{n2:Nat}{H2:Hp}(e:õ π Z.length H h n2 H2),rB X.K E h n2 H2 U I B:=λ{h n2 H2} e=>by
  cases U with
  |nx=>show λi v A j z L=>k i v A (e.trans j) z L|bk=>show λi v A j z L=>k i v A (e.trans j) z L|ct=>show λi v A j z L=>k i v A (e.trans j) z L|rt d=>show KC.after k e
 show⟨λm x y=>∃h p u,õ π Z.length H h p.length y/\Rp X.K h y p/\En X.K h p.length y x u/\rS mt mb m u p=b3 (U,I,B),⟨n,π,Z,ρ,.refl,R,EN,hm⟩,?_⟩;rintro m σ1 H1 ⟨h,p,u,O,R2,E2,h2⟩;cases m with
 |zero=>ext h2|succ m=>
  show bR h2 ?_;clear h2;intro b T h3 h4;show⟨h,u,p,b,T,R2,E2,h3,λi A j z=>?_⟩;cases b with
  |false=>show pR ?_;ext h4;show s O i σ1 A j z (E2.mono j)|true=>
   show pS ?_;obtain⟨⟨f4,J,G⟩,h5,Y⟩:=è.mp h4;show⟨λx y=>∃g w q,õ π Z.length H g q.length y/\Rp X.K g y q/\En X.K g q.length y x w/\rS mt mb m w q=b3 (U,I,B),
    λx y ⟨g,w,q,a1,a2,a3,a4⟩=>⟨m,Ϥ _,g,q,w,a1,a2,a3,a4⟩,i,u,T,f4,J,G,z,E2.mono j,h5,?_⟩
   cases f4 with
   |nx=>show λg K H5 Q N M=>⟨g,J,G,(O.trans j).trans Q,N,M,Y⟩|ct=>show λg K H5 Q N M=>⟨g,J,G,(O.trans j).trans Q,N,M,Y⟩|bk=>ext Y;show λg K H5 Q N M=>s (O.trans j) g K H5 Q N M|rt d'=>
    ext Y;show s<|O.trans j⟩
def a9U:QS X (.Return b4 pos) (aM<|mC .non):=⟨nH b3v<|by
 rintro E u H ⟨h,s,q,p,i,g,R,j,d,k⟩;ext d;show k h .non H .refl R .non⟩
abbrev tS:List D->Option (List Bool)
 |[]=>b3 []|.bl b::r=>(tS r).map (b::·)|_=>b4
abbrev yO:MF:=λds a=>match ds with
 |[x]=>(bO a x).bind λb=>(tS b).map λbs=>(.bl<|bs.all id,a)|_=>b4
def Gy:∀{xs}{vs}{bs},Ç K π n H vs xs->tS xs=b3 bs->vs=bs.map V.bl
 |[],_,bs,h,e=>by ext h;ext e;rfl
 |x::xs,vs,bs,h,e=>by
  cases h with
  |cons h t=>
   cases x with
   |bl b=>let⟨a,h1,c⟩:=ì.mp e;subst c;ext h;rw[Gy t h1];rfl|_=>ext e
abbrev Gz(K:Ô)(g:List Bool->Bool):gz->Hp->VK->Prop:=λxs H Q=>∃p bs,xs=[.ref p]/\(Ĉ K H p (bs.map V.bl)\/ç K H p (bs.map V.bl))/\Q (.bl<|g bs) H
def a9P{f:MF}(e:f=λds b=>match ds with|[x]=>(bO b x).bind λxs=>(tS xs).map λbs=>(.bl<|g bs,b)|_=>b4):eY K f (Gz K g):=by
 subst e;intro j H b xs d h n Q R i a k;dsimp at a;split at a
 .let⟨s,h1,a⟩:=è.mp a;let⟨bs,c,a⟩:=ì.mp a;ext a;cases i with
  |cons i t=>ext t;let⟨p,o,rfl,q,hd⟩:=tJ R i h1;have:=Gy hd c;subst this;show⟨p,bs,rfl,q,k j _ H .refl R<|.bl _⟩
 .ext a
def GA{bs:List Bool}(a:n=bs.length):(ą n).all (λi=>bs.getD i b5)=bs.all id:=by
 subst a;induction bs with
 |nil=>rfl|cons b bs c=>rw[Ŋ,RJ,Ő,O9,Ő,<- c];rfl
def GB{bs:List Bool}(r:Å (bs.map V.bl) its):TruthOf prog w A (λi v=>its.toArray[i]?=b3 v) (λi=>bs.getD i b5):=by
 intro i v s Q E d b;let a:its[i]?=b3 v:=by apply d
 let hi:i<bs.length:=by have:=(ä.mp a).1;have:=r.length;rw[Ã]at this;lia
 let⟨u,h1,c⟩:=r.get (i:=i) (x:=.bl bs[i]) (by rw[ÿ,ā hi];rfl);rw[a]at h1;ext h1;ext c;let e:bs.getD i b5=bs[i]:=by simp[ĭ,hi]
 dsimp at b;rw[e]at b;show Ϲ b
def a9H(hc:X.calm=dI):Ü X (.builtin "all") (Gz X.K (·.all id)):=by
 intro x s G H E B Q I r h;let⟨p,bs,rfl,d,q⟩:=h;let⟨u,rfl,A⟩:=gR r;ext A;let w:X.A.in1.handled=none:=I.ok.hd hc;rcases d with d|d
 .let⟨its,g,pl,z⟩:=I.list d;show call_all_walk<|uy pl.isList ?_;let c:p≠s.heap.objs.size:=by let⟨o,k,_⟩:=pl.isList;show Ā<|Þ k
  show⟨s.heap.objs.size,_,_,_,_,_,λi=>bs.getD i b5,rfl,OH w _ p c its.toArray,⟨⟨_,Ċ _ rfl,rfl,rfl⟩,pl.isList.push _⟩,GB g,λy v n=>?_⟩;let a:its.toArray.size=bs.length:=by rw[ģ,<- g.length,Ã]
  show⟨.bl _,H,I.kept (t':=v) λb o e=>n b o ?_<|á _ e,rfl,?_⟩
  .intro j;have:b=s.heap.objs.size:=by apply j
   show Ā (Þ e) this
  .rw[GA a];show q
 .let⟨its,g,pl,z⟩:=I.tuple d;show call_all_walk<|um (show s.heap.IsTuple p its.toArray from pl) ?_;let c:p≠s.heap.objs.size:=by let⟨o,k,_⟩:=pl;show Ā<|Þ k
  show⟨s.heap.objs.size,_,_,_,_,_,λi=>bs.getD i b5,rfl,O6 w _ p c its.toArray,⟨⟨_,Ċ _ rfl,rfl,rfl⟩,SX pl _⟩,GB g,λy v n=>?_⟩;let a:its.toArray.size=bs.length:=by rw[ģ,<- g.length,Ã]
  show⟨.bl _,H,I.kept (t':=v) λb o e=>n b o ?_<|á _ e,rfl,?_⟩
  .intro j;have:b=s.heap.objs.size:=by apply j
   show Ā (Þ e) this
  .rw[GA a];show q
open PyProof.Rows (IntsAre)
open PySem.W (KasT kas_asc kas_desc kas_tail3 kas_descPart kas_count kas_place kas_bin kas_sort kas_rev kas_ask)
abbrev lO(ans:Nat->Nat->Bool):KasT b->b
 |.ret a=>a|.ask i j k=>lO ans<|k<|ans i j
abbrev ō(n:Nat)(R:c->Prop):KasT c->Prop
 |.ret a=>R a|.ask i j k=>i<n/\j<n/\∀b,ō n R (k b)
def ō.bind{R:c->Prop}{R':e->Prop}{f:c->KasT e}(d:∀a,R a->ō n R' (f a)):∀{t},ō n R t->ō n R' (t.bind f)
 |.ret a,q=>d a q|.ask i j k,q=>⟨q.1,q.2.1,λb=>ō.bind d<|q.2.2 b⟩
def GC{R:c->Prop}(hc:∀i j (C:Bool->Ù->Prop),i<n->j<n->C (ans i j) s->b i j C s){Q:c->Ù->Prop}:
  ∀{t},ō n R t->Q (lO ans t) s->t.kasWp b Q s
 |.ret a,_,q=>q|.ask i j k,h,q=>hc i j _ h.1 h.2.1<|GC hc (h.2.2 _) q
def GD{R:b->Prop}:∀{t},ō n R t->R (lO ans t)
 |.ret a,q=>q|.ask i j k,h=>GD (t:=k (ans i j))<|h.2.2 _
abbrev Đ(n:Nat)(p:Array Nat):Prop:=p.Perm (ą n).toArray
def Đ.lt{n:Nat}{p:Array Nat}(h:Đ n p)(h0:0<n)(i:Nat):p.getD i 0<n:=by
 by_cases hi:i<p.size
 .let e:p.getD i 0=p[i]:=by simp[rE,hi]
  rw[e];let b:p[i]∈p:=Array.getElem_mem hi;let a:p[i]∈(ą n).toArray:=h.mem_iff.mp b;apply a
 .let e:p.getD i 0=0:=by simp[rE,hi]
  rw[e];show h0
def Đ.rev(h:Đ n p)i j:Đ n (ju p i j):=(b4B _ _ _ _).trans h
def Đ.bub(h:Đ n p)i j:Đ n (b4I p i j):=(b4H _ _ _).trans h
def BY(h:Đ n p)(h0:0<n):∀f m,ō n (λ_=>True) (kas_asc p f m)
 |0,m=>trivial
 |f+1,m=>⟨h.lt h0 _,h.lt h0 _,λb=>by
   cases b with
   |true=>show trivial
   |false=>show BY h h0 f<|m+1⟩
def yP(h0:0<n):∀f p m q,Đ n p->ō n (λr=>Đ n r.1) (Ni f p m q)
 |0,p,m,q,h=>h
 |f+1,p,m,q,h=>⟨h.lt h0 _,h.lt h0 _,λb=>by
   cases b with
   |true=>
    change ō n _ (if q>0 then Ni f (ju p (m-(q+1)) m) (m+1) 0 else Ni f p (m+1) 0);split
    .show yP h0 f _ _ _<|h.rev _ _
    .show yP h0 f _ _ _ h
   |false=>
    show⟨h.lt h0 _,h.lt h0 _,λd=>?_⟩;cases d with
    |true=>show h
    |false=>show yP h0 f _ _ _ h⟩
def GF(h0:0<n)(h:Đ n p)a r:ō n (λr=>Đ n r.2) (M8 a r p):=
 by
 let b:Đ n (ju p 0 a):=h.rev 0 a;ext M8;show ō.bind (R:=λ_=>True) (λm _=>?_)<|BY b h0 _ _;show b
def GG(h0:0<n)(h:Đ n p)a r:ō n (λr=>Đ n r.2) (O0 a r p):=
 ō.bind (λq b=>by
  change ō n _ (if q.2.2>0 then M8 q.2.1 r (ju q.1 (q.2.1-(q.2.2+1)) q.2.1)else M8 q.2.1 r q.1);split
  .show GF h0 (b.rev _ _) _ _
  .show GF h0 b _ _)<|yP h0 _ _ _ _ h
def a9C(h0:0<n)(h:Đ n p)r:ō n (λr=>Đ n r.2) (kas_count r p):=
 ō.bind (λm _=>by
  change ō n _ (if(m==r)=dI then yf (m,p)else if m>1 then KasT.ask (p.getD 0 0) (p.getD (m-1) 0) (λc=>if c=dI then yf (m,p)else O0 m r (ju p 0 m))else O0 m r p);split
  .show h
  .split
   .show⟨h.lt h0 _,h.lt h0 _,λb=>?_⟩;cases b with
    |true=>show h|false=>show GG h0 (h.rev _ _) _ _
   .show GG h0 h _ _)<|BY h h0 _ _
def BZ(h:Đ n p)(h0:0<n)k:∀f l r,ō n (λ_=>True) (Nl p k f l r)
 |0,l,r=>trivial|f+1,l,r=>by
  change ō n _ (if l >= r then yf l else KasT.ask (p.getD k 0) (p.getD ((l+r)/2) 0) λc=>if c=dI then Nl p k f l ((l+r)/2)else Nl p k f ((l+r)/2+1) r);split
  .show trivial
  .show⟨h.lt h0 _,h.lt h0 _,λb=>?_⟩;cases b with
   |true=>show BZ h h0 k f _ _|false=>show BZ h h0 k f _ _
def GH(h0:0<n):∀f p k,Đ n p->ō n (Đ n) (kas_bin f p k)
 |0,p,k,h=>h|f+1,p,k,h=>ō.bind (λl _=>GH h0 f _ _<|h.bub _ _)<|BZ h h0 k _ _ _
def tT(h0:0<n):ō n (Đ n) (kas_sort n):=
 ō.bind (λr a=>by
  change ō n _ (if r.1<n then kas_bin (n-max r.1 1) r.2 (max r.1 1)else yf r.2);split
  .show GH h0 _ _ _ a
  .show a)<|a9C h0 (Array.Perm.refl _) n
abbrev c5(lt:Nat->Nat->Bool)(n:Nat):List Nat:=(lO lt<|kas_sort n).toList
def B2 lt(h0:0<n):(c5 lt n).Perm (ą n):=by let h:Đ n (lO lt<|kas_sort n):=GD<|tT h0;have:=Array.perm_iff_toList_perm.mp h;simpa[c5]using this
def GJ:∀{us vs:gw}{ns b}i,Ŵ us ns->Ŵ vs b->Q (HT.lexLt ns b) s->
  PySem.W.KatLex prog w A dI (decide<|us.length<vs.length) Q (us.zip vs) i s
 |_,_,_,_,i,.nil,.nil,h=>by show h
 |_,_,_,_,i,.nil,.cons c u hv,h=>by change Q (decide<|0<_+1) s;rw[decide_eq_true<|Pq _];show h
 |_,_,_,_,i,.cons a t hu,.nil,h=>by change Q (decide<|_+1<0) s;rw[decide_eq_false<|N0 _];show h
 |_,_,_,_,i,.cons (vs:=us) (ns:=ns) a t hu,.cons (vs:=vs) (ns:=b) c u hv,h=>by
  rw[HT.lexLt_cons]at h;show PySem.W.kat_cons<|RN a t c u prog w _ _ ?_;by_cases e:a=c
  .subst e;rw[if_pos rfl]at h;rw[beq_self_eq_true];show PySem.W.kat_yes ?_;have:=GJ (prog:=prog) (w:=w) (A:=A) (s:=s) (Q:=Q) (i+1) hu hv h;let g:decide ((Ĥ a t::us).length<(Ĥ a u::vs).length)=decide (us.length<vs.length):=∅
   rw[g];show this
  .rw[if_neg e]at h;let d:(a==c)=false:=by apply e
   rw[d];show PySem.W.kat_no ?_;cases hi:(dI&&i==0)with
   |true=>show b4z h|false=>show PySem.W.kat_one _ _<|Rj h
section
open PyProof.Rows
def B3{us:gw}(h:us.length<2)(g:s.heap.get? c=b3 (ę "list" us.toArray z))(q:R (.done<|.ret .none) {s with heap:=yp s.heap c us us.toArray}):
  È (Î prog w) A (Builtin.«list.sort» ⟨[.ref c],[]⟩) R E s:=by
 rw[Pk];let lt:c<s.heap.objs.size:=Þ g;show Á<|listItems_at g rfl<|Á<|Mu g rfl ?_;obtain⟨y,d⟩:∃y,(s.heap.update c<|a4A λ_=>#[]).get? c=b3 (ę "list" #[] y):=⟨_,Ph g _⟩;show Á<|MP d rfl<|Á<|MW<|Á<|uh<|ł ?_;let e:(((s.heap.update c<|a4A λ_=>#[]).push<|ę "tuple" us.toArray 0).push<|ę "list" #[] 0).get? c=b3 (ę "list" #[] y):=
  á _<|á _ d
 change È (Î prog w) A _ R E ⟨((s.heap.update c<|a4A λ_=>#[]).push<|ę "tuple" us.toArray 0).push<|ę "list" #[] 0,s.gens,s.drawn,s.toks,s.os⟩;dsimp;let a:us.toArray.size<2:=by apply h
 rw[if_pos a,if_pos a];show Á<|Ê ?_;rw[StateT.run_pure];show Á<|Ê ?_;dsimp;let b:Py (λx=>x.2) (arrOf<|SortSt.mk' general' (us.toArray.zip us.toArray) #[] 7 b4)=us.toArray:=by change Py (λx=>x.2) (us.toArray.zip us.toArray)=us.toArray;show Array.ext ∅ λi h1 j=>∅
 show Á (MP e rfl<|Á<|Mu e rfl ?_ (hsz2:=by rw[b,ò];lia));rw[b];dsimp[bne_self_eq_false,ŀ,if_false];show Ê q
end
def B4 lt:c5 lt 1=[0]:=rfl
def yQ lt:c5 lt 0=[]:=rfl
def jS lt n:(c5 lt n).Perm (ą n):=by
 cases n with
 |zero=>rw[yQ];show .nil|succ n=>show B2 lt<|Pq n
def a8y(h:Å (ns.map V.int) us):Ŵ us ns:=xN h
end L3
namespace L3
open PySem PySem.Spec
namespace Tb
noncomputable abbrev IsT(prog:ť)(w:ĳ)(h:ñ)(k:List Int)(b:Addr):Prop:=IsTupleKey (ŵ prog w) h k b
noncomputable abbrev i8(a:Bool):Obj:={cls:=.type "set",dict:=b4,data:=.set #[] 0<|.fresh 0 0 a}
end Tb
end L3
namespace L3
open PySem L2
open PyProof.Rows (IntsAre)
def B5:∀{ds}{k},tQ ds=b3 k->ds=k.map D.int
 |[],k,h=>by ext h;rfl
 |d::ds,k,h=>by
  cases d with
  |int i=>let⟨b,h1,a⟩:=ì.mp h;subst a;rw[B5 h1];rfl|_=>ext h
def vJ(h:dP x=b3 k):x=.tup (k.map D.int):=by
 cases x with
 |tup ds=>rw[B5 h]|_=>ext h
abbrev eW(b:Hm):D->Option (List D)
 |.rol xs=>b3 xs|.loc a=>match b[a]? with
  |some (.lst xs)=>b3 xs|_=>b4
 |_=>b4
def rV(R:Rp K π H μ)(h:Ú K π μ.length H v x)(e:eW μ x=b3 xs):∃p vs,v=.ref p/\Ĉ K H p vs/\Ç K π μ.length H vs xs:=by
 cases h with
 |rol q t=>ext e;show⟨_,_,rfl,q.sq,t⟩|@loc a g=>
  dsimp[eW]at e;split at e
  .rename_i i d;ext e;let⟨vs,b,c⟩:=R.lst a xs d;show⟨_,vs,rfl,.of b,c⟩
  .ext e
 |_=>ext e
def Ħ:∀{vs}{k:List Int},Ç K π n H vs (k.map D.int)->vs=k.map V.int
 |_,[],h=>by ext h;rfl
 |_,i::k,h=>by
  cases h with
  |cons h t=>ext h;rw[Ħ t];rfl
def B6:∀(k:List Int),Ç K π n H (k.map V.int) (k.map D.int)
 |[]=>.nil|i::k=>.cons (.int i)<|B6 k
def GK{X:Cx}:∀{k}{xs},Å (k.map V.int) xs->ItemsAre (ŵ X.prog X.w) k xs
 |[],_,h=>by ext h;show .nil
 |i::k,_,h=>by
  cases h with
  |cons h t=>let⟨a,rfl⟩:=h;show .cons (intKind_is _ _ _ _)<|GK t
def nN{σ:St}(I:Â X Do σ H s)(h:ç X.K H b (k.map V.int)):Tb.IsT X.prog X.w s.heap k b:=by obtain⟨g,a,⟨ob,e,c,n,d⟩,_⟩:=I.tuple h;show⟨ob,g.toArray,n,e,c,d,by apply GK a⟩
def ϊ:Ü X (.builtin "len") (λxs H Q=>∃a L,xs=[V.ref a]/\H a=b3 (xQ a L)/\Q (.int L.length) H):=by
 intro Do s σ H xs B Q I r h;let⟨a,L,rfl,e,q⟩:=h;let⟨u,rfl,z⟩:=gR r;ext z;obtain⟨⟨o,v,y,d,A,t,R,c,hd,g,ok,w,p,k,i,x,j⟩,_,_⟩:=I.hok a _ e;let b:d.size=L.length:=by have:=w.length_eq;apply this
 let n:t.mask<=511:=by rcases k with h|h|h|h<;>lia
 show call_len_set v c hd (Tb.fits_of ok g) (by rw[b];lia) ?_;rw[b];show⟨.int L.length,H,I.tok _,⟨_,rfl⟩,q⟩
end L3
namespace L3
open PySem L2
def GL:∀{vs}{xs}i,Ç K π n H vs xs->Ú K π n H (vs.getD i .non) (xs.getD i .non)
 |_,_,i,.nil=>by simp;show .non
 |_,_,0,.cons h _=>h|_,_,i+1,.cons _ t=>by apply GL i t
def GN(h:Ç K π n H vs xs):∀(l:List Nat),Ç K π n H (l.map λi=>vs.getD i .non) (l.map λi=>xs.getD i .non)
 |[]=>.nil|i::l=>.cons (GL i h)<|GN h l
open PyProof.Rows (IntsAre Fr News seqObj)
def vK:∀a,HT.lexLt a a=b5
 |[]=>rfl|x::a=>by rw[HT.lexLt_cons,if_pos rfl];show vK a
def vL:∀{a b c},HT.lexLt a b=dI->HT.lexLt b c=dI->HT.lexLt a c=dI
 |_,[],[],_,h=>absurd h (by intro z;ext z)|_,_::_,[],_,h=>absurd h (by intro z;ext z)|[],_,_::_,_,_=>rfl|_::_,[],_::_,h,_=>absurd h (by intro z;ext z)|x::a,y::b,z::c,h1,h2=>by
  rw[HT.lexLt_cons]at h1 h2 ⊢;by_cases e:x=y
  .subst e;rw[if_pos rfl]at h1;by_cases d:x=z
   .subst d;rw[if_pos rfl]at h2 ⊢;show vL h1 h2
   .rw[if_neg d]at h2 ⊢;show h2
  .rw[if_neg e]at h1;by_cases d:y=z
   .subst d;rw[if_neg e];show h1
   .rw[if_neg d]at h2;rw[decide_eq_true_eq]at h1 h2;rw[if_neg (),decide_eq_true_eq];lia
end L3
namespace L3
open PySem
open PySem.W (KasT kas_asc kas_desc kas_tail3 kas_descPart kas_count kas_place kas_bin kas_sort kas_rev)
open PyProof.Rows (mirror bubble getElem?_bubble getElem?_mirror_all mirror_size bubble_size)
section
variable{ans:Nat->Nat->Bool}{κ:Nat->Nat}(hk:∀i j,ans i j=decide (κ i<κ j))
abbrev gK(κ:Nat->Nat)(p:Array Nat)(k:Nat):Nat:=κ<|p.getD k 0
def GO{p q:Array Nat}(h:p[k]?=q[m]?):p.getD k 0=q.getD m 0:=by
 let e:∀(a:Array Nat)(i:Nat),a.getD i 0=(a[i]?).getD 0:=λa i=>by
  by_cases hi:i<a.size
  .simp[rE,hi]
  .simp[rE,hi]
 rw[e,e,h]
def a8n(a:j<=p.size)k:gK κ (ju p i j) k=if i<=k/\k<j then gK κ p (i+j-1-k)else gK κ p k:=by
 let h:=getElem?_mirror_all (i:=i) a k;by_cases c:i<=k/\k<j
 .rw[if_pos c]at h ⊢;show congrArg κ<|GO h
 .rw[if_neg c]at h ⊢;show congrArg κ<|GO h
structure Β(κ:Nat->Nat)(p:Array Nat)(n q:Nat):Prop where
 fall:∀i j,i<=j->j<n->gK κ p j<=gK κ p i
 alike:∀k,n-1-q<=k->k<n->gK κ p k=gK κ p (n-1)
 qn:q<n
def Β.rev(F:Β κ p n q)(a:n<=p.size):∀k,gK κ (ju p (n-(q+1)) n) k=gK κ p k:=λk=>by
 rw[a8n a];split
 .rename_i c;have:=F.qn;rw[F.alike (n-(q+1)+n-1-k) () (),F.alike k () c.2]
 .rfl
def Β.same(F:Β κ p n q)(h:∀k,gK κ b k=gK κ p k):Β κ b n q:=
 ⟨λi j h1 a=>by rw[h,h];show F.fall i j h1 a,λk h1 a=>by rw[h,h];show F.alike k h1 a,F.qn⟩
end
section
variable{α:Type}{lt:α->α->Bool}(irr:∀a,lt a a=b5)(tr:∀a b c,lt a b=dI->lt b c=dI->lt a c=dI)(nt:∀a b c,lt a b=dI->lt a c=dI\/lt c b=dI)
end
end L3
namespace L3
open PySem L2
abbrev lP(f g:D->D->Hm->jk)(a b c:ME):ME:=λd e=>(a d e).bind λp=>(b d p.2).bind λq=>(f p.1 q.1 q.2).bind λr=>match r.1 with
 |.bl dI=>(c d r.2).bind λt=>g q.1 t.1 t.2|.bl b5=>b3 (.bl b5,r.2)|_=>b4
def GP(hf:eH K f r)(hg:eH K g L):∀σ H Q,tM K (lP f g ma mb mc) σ H Q->Bi r L (tM K ma) (tM K mb) (tM K mc) σ H Q:=by
 rintro σ H Q ⟨π,B,μ,d,u,R,E,e,k⟩;show bR e ?_;clear e;intro x h h1 e;show bR e ?_;clear e;intro y i Z e;show bR e ?_;clear e;intro z j h3 e;show⟨π,B,μ,x,h,R,E,h1,λv v1 H1 p U i1=>⟨v,B,h,y,i,U,E.mono p,Z,λw M N q R2 J=>?_⟩⟩;show hf w N i x y z j v1 M _ R2 (i1.mono q) J h3 λo v3 O s G i3=>?_;cases z with
 |bl bb=>
  ext i3;show⟨bb,rfl,?_⟩;cases bb with
  |true=>show pS ?_;show bR e ?_;clear e;intro t n h4 e;show⟨o,B,j,t,n,G,((E.mono p).mono q).mono s,h4,λA v4 T I Y i4=>hg A T n y t d u M v4 Q Y ((J.mono s).mono I) i4 e<|k.after<|((p.trans q).trans s).trans I⟩|false=>show pR ?_;ext e;show k o _ O ((p.trans q).trans s) G<|.bl b5
 |_=>ext e
abbrev jC:mq->Option (Int->Int->Bool)
 |.Lt=>b3 λi j=>decide (i<j)|.LtE=>b3 λi j=>decide (i<=j)|.Gt=>b3 λi j=>decide (j<i)|.GtE=>b3 λi j=>decide (j<=i)|_=>b4
def tU(h:jC op=b3 p):đ X (Ķ op) (kG λi j=>.bl<|p i j)/\(op=.Lt\/op=.LtE\/op=.Gt\/op=.GtE):=by ext op<;>first|(ext h;first|show⟨Be,∅⟩|show⟨Bf,∅⟩|show⟨Bg,∅⟩|show⟨Bh,∅⟩)|ext h
def GQ(h':d=.Lt\/d=.LtE\/d=.Gt\/d=.GtE):Nm [op,d] [b,c]=false:=by change gY d c=b5;rcases h' with rfl|rfl|rfl|rfl<;>show fJ _
def a8h(h:jC op=b3 p)(h':jC d=b3 q)(e:QE X a ma)(g:QE X b mb)(hc:QE X c mc):QE X (.Compare a [op,d] [b,c] pos) (lP (iO p) (iO q) ma mb mc):=
 ⟨eM (z16 (tU h).1 (tU h').1 e.h g.h hc.h<|GQ (tU (X:=X) h').2)<|GP lH lH⟩
def a8V(h:jC op=b3 p)(h':jC d=b3 q)(g:QE X a ma)(i:QE X b mb)(hc:QE X c mc):QT X (.Compare a [op,d] [b,c] pos) (a7<|lP (iO p) (iO q) ma mb mc):=
 ⟨xS (z10 (tU h).1 (tU h').1 g.h i.h hc.h<|GQ (tU (X:=X) h').2) λe H Q h=>GP lH lH e H _<|FF e H Q h⟩
abbrev yR(d:Bool):D->D->Hm->jk
 |.bl b,.bl c,μ=>b3 (.bl<|if d then !(b==c)else b==c,μ)|.int _,.bl _,μ=>b3 (.bl d,μ)|_,_,_=>b4
abbrev iQ(d:Bool):D->D->Hm->jk:=λx y e=>match y with
 |.bl _=>yR d x y e|_=>nK d x y e
abbrev B7(d:Bool):R2:=λx y H Q=>∃c,y=.bl c/\((∃b,x=.bl b/\Q (.bl<|if d then !(b==c)else b==c) H)\/((∃i,x=.int i)/\Q (.bl d) H))
def yS:eH K (yR g) (B7 g):=by
 intro j H q x y d n o p Q R h i e k;unfold yR at e;split at e
 .ext e;ext h;ext i;show⟨_,rfl,.inl ⟨_,rfl,k j _ H .refl R<|.bl _⟩⟩
 .ext e;ext h;ext i;show⟨_,rfl,.inr ⟨⟨_,rfl⟩,k j _ H .refl R<|.bl _⟩⟩
 .ext e
def GR:đ X (Ķ .Is) (B7 b5):=by
 intro e s j H x y v u Q I d g h;let⟨c,rfl,h⟩:=h;ext g;rcases h with⟨b,rfl,q⟩|⟨⟨i,rfl⟩,q⟩
 .ext d;show Ê<|qZ I q<|by ext b<;>ext c<;>rfl
 .let⟨t,rfl⟩:=d;show Ê<|qZ I q rfl
def GS:đ X (Ķ .IsNot) (B7 dI):=by
 intro e s j H x y v u Q I d g h;let⟨c,rfl,h⟩:=h;ext g;rcases h with⟨b,rfl,q⟩|⟨⟨i,rfl⟩,q⟩
 .ext d;show Ê<|qZ I q<|by ext b<;>ext c<;>rfl
 .let⟨t,rfl⟩:=d;show Ê<|qZ I q rfl
def yT x y e r(h:iQ d x y e=b3 r):yR d x y e=b3 r\/nK d x y e=b3 r:=by
 unfold iQ at h;split at h
 .show .inl h
 .show .inr h
def a8Q(d:QE X a ma)(e:QE X b mb):QE X (.Compare a [.Is] [b] pos) (aA (iQ b5) ma mb):=rP ⟨iK GR yS d.h e.h<|fJ _⟩ (TuP d e)<|kN yT
def a8M(d:QE X a ma)(e:QE X b mb):QE X (.Compare a [.IsNot] [b] pos) (aA (iQ dI) ma mb):=rP ⟨iK GS yS d.h e.h<|fJ _⟩ (TiV d e)<|kN yT
def b0T(d:QE X a ma)(e:QE X b mb):QT X (.Compare a [.Is] [b] pos) (a7<|aA (iQ b5) ma mb):=tL ⟨iL GR yS d.h e.h<|fJ _⟩ (TaI d e)<|tP<|kN yT
def b0S(d:QE X a ma)(e:QE X b mb):QT X (.Compare a [.IsNot] [b] pos) (a7<|aA (iQ dI) ma mb):=tL ⟨iL GS yS d.h e.h<|fJ _⟩ (SfI d e)<|tP<|kN yT
abbrev oS:MF:=λds a=>match ds with
 |[x]=>(bO a x).bind λc=>(tQ c).map λb=>(.int b.sum,a)|_=>b4
abbrev GU(K:Ô):gz->Hp->VK->Prop:=λxs H Q=>∃(p:Addr)(a:List Int),xs=[.ref p]/\(Ĉ K H p (a.map V.int)\/ç K H p (a.map V.int))/\Q (.int a.sum) H
def b0L:eY K oS (GU K):=by
 intro g H s n d e h Q R i a k;unfold oS at a;split at a
 .let⟨o,h1,a⟩:=è.mp a;let⟨c,b,a⟩:=ì.mp a;ext a;cases i with
  |cons i t=>ext t;let⟨p,j,rfl,q,hd⟩:=tJ R i h1;rw[B5 b]at hd;have:=Ħ hd;subst this;show⟨p,c,rfl,q,k g _ H .refl R<|.int _⟩
 .ext a
def GV(a:List Int):∀n,n<=a.length->preSum (λi=>a.getD i 0) n=(a.take n).sum
 |0,_=>rfl|n+1,h=>by
  let b:=GV a n ();let e:a.take (n+1)=a.take n++[a[n]]:=by rw[ni,ā ()];rfl
  change preSum (λi=>a.getD i 0) n+a.getD n 0=_;rw[b,e,List.sum_append];simp[ĭ,ā<|show n<a.length by lia]
def GW{σ:St}(I:Â X Do σ H s)(m:Moved k (λa b=>b=a) d c)(n:∀b o,s.heap.get? b=b3 o->d.heap.get? b=b3 o)(hw:∀b∈k,s.heap.objs.size<=b)(g:d.gens=s.gens/\d.drawn=s.drawn/\d.os=s.os):Â X Do σ H c:=by let j:∀b o,s.heap.get? b=b3 o->c.heap.get? b=b3 o:=λb o e=>m.heap b o (λz=>absurd (Ļ (Þ e)<|hw b z)<|γ _)<|n b o e;let h1:c.gens=s.gens:=m.gens.trans g.1;let h:c.drawn=s.drawn:=m.drawn.trans g.2.1;let i:c.os=s.os:=m.os.trans g.2.2;let⟨v,u,q,p,w⟩:=c;dsimp at h1 h i j;subst h1 h i;show I.kept (t':=p) j
def GX{a:List Int}(r:Å (a.map V.int) its){i:Nat}(h:its.toArray[i]?=b3 v):∃t,v=.int (a.getD i 0) t:=by
 let b:its[i]?=b3 v:=by apply h
 let hi:i<a.length:=by have:=(ä.mp b).1;have:=r.length;rw[Ã]at this;lia
 let⟨u,h1,c⟩:=r.get (i:=i) (x:=.int a[i]) (by rw[ÿ,ā hi];rfl);rw[b]at h1;ext h1;let⟨t,rfl⟩:=c;show⟨t,by simp[ĭ,hi]⟩
def b0K(hc:X.calm=dI):Ü X (.builtin "sum") (GU X.K):=by
 intro A s L H K J Q I r h;let⟨p,c,rfl,n,q⟩:=h;let⟨u,rfl,E⟩:=gR r;ext E;let z:X.A.in1.handled=none:=I.ok.hd hc;let fin:∀its:gw,Å (c.map V.int) its->preSum (λi=>c.getD i 0) its.toArray.size=c.sum:=λits j=>by
  let k:its.toArray.size=c.length:=by rw[ģ,<- j.length,Ã]
  rw[k,GV c _<|Ø _,ź]
 rcases n with n|n
 .let⟨its,j,pl,B⟩:=I.list n;show QX<|uy pl.isList ?_;let d:p≠s.heap.objs.size:=by let⟨o,g,_⟩:=pl.isList;show Ā<|Þ g
  show⟨s.heap.objs.size,_,_,_,_,_,_,λi=>c.getD i 0,rfl,(OH z _ p d its.toArray).toS,⟨⟨_,Ċ _ rfl,rfl,rfl⟩,pl.isList.push _⟩,?_,λi v x=>GX j x,λG y m=>?_⟩
  .intro b a;change b<(s.heap.push _).objs.size;rw[ϒ];let⟨o,g,_⟩:=pl.isList;let w:=Þ g;dsimp[Č,Ϗ,or_false]at a;rcases a with rfl|rfl
   .show Ϥ _
   .show zb w
  .show⟨.int c.sum,H,GW I m (λb o e=>á _ e) (λb a=>?_) ⟨rfl,rfl,rfl⟩,⟨y,?_⟩,q⟩
   .let e:b=s.heap.objs.size:=by apply a
    show lw e.symm
   .rw[fin its j]
 .let⟨its,j,pl,B⟩:=I.tuple n;show QX<|um (show s.heap.IsTuple p its.toArray from pl) ?_;let d:p≠s.heap.objs.size:=by let⟨o,g,_⟩:=pl;show Ā<|Þ g
  show⟨s.heap.objs.size,_,_,_,_,_,_,λi=>c.getD i 0,rfl,(O6 z _ p d its.toArray).toS,⟨⟨_,Ċ _ rfl,rfl,rfl⟩,SX pl _⟩,?_,λi v x=>GX j x,λG y m=>?_⟩
  .intro b a;change b<(s.heap.push _).objs.size;rw[ϒ];let⟨o,g,_⟩:=pl;let w:=Þ g;dsimp[Č,Ϗ,or_false]at a;rcases a with rfl|rfl
   .show Ϥ _
   .show zb w
  .show⟨.int c.sum,H,GW I m (λb o e=>á _ e) (λb a=>?_) ⟨rfl,rfl,rfl⟩,⟨y,?_⟩,q⟩
   .let e:b=s.heap.objs.size:=by apply a
    show lw e.symm
   .rw[fin its j]
abbrev yU:MF:=λds a=>match ds with
 |[.int i,.int j]=>b3 (.int<|if j<i then j else i,a)|_=>b4
abbrev yV:MF:=λds a=>match ds with
 |[.int i,.int j]=>b3 (.int<|if j>i then j else i,a)|_=>b4
def b0I:eY K yU (λxs H Q=>∃i j,xs=[.int i,.int j]/\Q (.int<|if j<i then j else i) H):=by
 intro g H n xs d e h Q R i a k;unfold yU at a;split at a
 .ext a;cases i with
  |cons i t=>
   ext i;cases t with
   |cons b c=>ext b;ext c;show⟨_,_,rfl,k g _ H .refl R<|.int _⟩
 .ext a
def b0H:eY K yV (λxs H Q=>∃i j,xs=[.int i,.int j]/\Q (.int<|if j>i then j else i) H):=by
 intro g H n xs d e h Q R i a k;unfold yV at a;split at a
 .ext a;cases i with
  |cons i t=>
   ext i;cases t with
   |cons b c=>ext b;ext c;show⟨_,_,rfl,k g _ H .refl R<|.int _⟩
 .ext a
abbrev gH{a:Type}(xs:List a)(lo hi st:Option Int):List a:=(Nq (Ml lo hi st xs.length).1 (Ml lo hi st xs.length).2.1 (Ml lo hi st xs.length).2.2).filterMap (xs[·]?)
abbrev pY(a:ME)(lo hi st:MO):ME:=λb d=>(a b d).bind λp=>(lo b p.2).bind λq=>(hi b q.2).bind λr=>(st b r.2).bind λt=>if t.1≠b3 0 then(eW t.2 p.1).bind λc=>if(gH c q.1 r.1 t.1).length<=Ò then b3 (.loc t.2.length,t.2++[.lst<|gH c q.1 r.1 t.1])else b4 else b4
def b0F(h:Ç K π n H vs ds)lo hi st:Ç K π n H (gH vs lo hi st) (gH ds lo hi st):=by
 ext gH;rw[h.length];generalize Nq _ _ _=l;induction l with
 |nil=>show .nil|cons i l a=>
  rw[aa,aa];cases hi:ds[i]? with
  |none=>
   have:vs[i]?=none:=by rw[τ]at hi ⊢;rw[h.length];show hi
   rw[this];show a
  |some d=>let⟨v,h1,b⟩:=h.get hi;rw[h1];show .cons b a
def Ta(r:Å vs its)lo hi st:Å (gH vs lo hi st) (gH its lo hi st):=by
 ext gH;rw[r.length];generalize Nq _ _ _=l;induction l with
 |nil=>show .nil|cons i l a=>
  rw[aa,aa];cases hi:vs[i]? with
  |none=>
   have:its[i]?=none:=by rw[τ]at hi ⊢;rw[<- r.length];show hi
   rw[this];show a
  |some v=>let⟨u,h1,b⟩:=r.get hi;rw[h1];show .cons b a
abbrev Tc(K:Ô)(te:TE)(tl th tt:TO):TE:=λσ H Q=>te σ H λx c=>tl σ c λl d=>th σ d λu g=>tt σ g λt b=>t≠b3 0/\∃a xs,x=.ref a/\Ĉ K b a xs/\(gH xs l u t).length<=Ò/\∀p,b p=b4->Q (.ref p) (upd b p<|.lst<|gH xs l u t)
open PyProof.Rows in
def Td{X:Cx}{e:Expr}{te:TE}{lo hi:Option Expr}{st:Expr}{tl th tt:TO}{pos p2:Ĳ}(L:PE X e te)(M:PO X lo tl)(O:PO X hi th)(N:PO X (b3 st) tt):PE X (.Subscript e (.Slice lo hi (b3 st) p2) pos) (Tc X.K te tl th tt):=by
 intro c s i H Q I h;show MC<|aW (L c s i H _ I h) λv s1 ⟨x,y,E,r1,Z⟩=>?_;show wpAny_Slice<|aW (M c s1 i y _ E Z) λo s2 ⟨l,z,G,pl,q2⟩=>aW (O c s2 i z _ G q2) λw s3 ⟨u,A,J,Y,q3⟩=>aW (N c s3 i A _ J q3) λp d ⟨t,B,K,pt,q4⟩=>?_;let⟨h0,a,xs,rfl,R,T,q⟩:=q4;ext r1;let k:Â X c i B {d with heap:=d.heap.push {cls:=.type "slice",data:=.fields #[o,w,p]}}:=K.kept (t':=d.toks) λb ob q=>á _ q;let⟨its,r,j,U⟩:=k.list R;let n:=r.length;change È (Î X.prog X.w) X.A (Mv e (.Slice lo hi (b3 st) p2) (.ref a)<|.ref d.heap.objs.size) (EP X c i Q) X.xe {d with heap:=d.heap.push {cls:=.type "slice",data:=.fields #[o,w,p]}};show Np (ops:=[.ref a,.ref d.heap.objs.size]) j.isList.typeIs OL.lookup ?_ (by with_unfolding_all rfl);show RT j.isList (Rq ..) pl Y pt h0 ?_ (by rw[ģ]<;>lia);let g:M9 its.toArray l u t=(gH its l u t).toArray:=by ext M9 gH;simp
 rw[g];show⟨.ref _,_,k.laid (t':=d.toks) (o:=.lst (gH xs l u t)) (λb ob q=>á _ q) (Ø _) ?_,rfl,q _<|k.hok.fresh<|Ø _⟩;show⟨T,_,0,Ta r l u t,Ċ _ rfl⟩
def Te(he:QE X e B)(hl:QO X lo I)(hu:QO X hi G)(ht:QO X (b3 st) J):QE X (.Subscript e (.Slice lo hi (b3 st) p2) pos) (pY B I G J):=⟨eM (Td he.h hl.h hu.h ht.h)<|by
 rintro σ H Q ⟨π,n,μ,d,μ',R,E,a,k⟩;show bR a ?_;clear a;intro x c h1 a;show bR a ?_;clear a;intro l g T a;show bR a ?_;clear a;intro u h U a;show bR a ?_;clear a;intro t s Y a;show⟨π,n,μ,x,c,R,E,h1,λv v1 H1 i L i1=>⟨v,n,c,l,g,L,E.mono i,T,λw H2 j R2=>⟨w,n,g,u,h,R2,(E.mono i).mono j,U,λy H3 o M=>⟨y,n,h,t,s,M,((E.mono i).mono j).mono o,Y,λπ4 H4 A z=>?_⟩⟩⟩⟩;split at a
 .rename_i h0;let⟨xs,Z,a⟩:=è.mp a;split at a
  .rename_i hz;ext a;let⟨p,K,rfl,q,hd⟩:=rV z (((i1.mono j).mono o).mono A) Z;let b:=b0F hd l u t;show⟨h0,p,K,rfl,q,by rw[b.length];show hz,λp' hp=>?_⟩;let⟨O,N,_⟩:=z.alloc (c:=.lst (gH xs l u t)) (o:=.lst (gH K l u t)) hp b;show k _ _ _ ((((i.trans j).trans o).trans A).trans O) N mM
  .ext a
 .ext a⟩
def B8{σ:St}{ch:List Addr}{a:Addr}(I:Â X Do σ H s)(k:∀b u,b∉ch->s.heap.get? b=b3 u->h'.get? b=b3 u)(i:∀b∈ch,kF X Do H b)(j:s.heap.objs.size<=a)(new:à X.prog X.w (upd H a o) h' a o):Â X Do σ (upd H a o) {s with heap:=h',toks:=t'}:=by
 let d:=I.hok.fresh j;let g:∀b u,H b=b3 u->b∉ch:=λb u e z=>by have:=(i b z).1;rw[e]at this;ext this
 show I.step (g':=s.gens) (d':=s.drawn) (ch:=ch) (λb h=>let⟨K,y,L,A,B,E⟩:=i b h;⟨A,y,B,E⟩) (λb o _ _ hc e _=>k b o hc e) (λb o _ _ hc e _=>⟨o.slots,k b o hc e⟩) (λb ob hc e n=>?_)
  (λb o hc e=>⟨o,k b o hc e⟩) (λb p q=>?_) (λb ob p q=>?_) (λb M q=>?_) (λm G=>?_) (λb u e=>?_) I.bare
 .rw[bQ<|Ā<|Ļ (Þ e) j];show n
 .rw[bQ<|kZ q d];show q
 .rw[bQ<|kZ q d];show q
 .show⟨#[],by rw[bQ<|kZ q d,q];simp⟩
 .let⟨o,x,w,J,r⟩:=G;show⟨o,x,w,k _ o (λz=>(i _ z).2.1 rfl) J,r⟩
 .by_cases h:b=a
  .subst h;rw[dU]at e;ext e;show new
  .rw[bQ h]at e;show(I.hok b u e).stay (λc v hc q=>k c v ?_ q) (λc q=>by rw[bQ<|kZ q d];show q) λc p q=>by rw[bQ<|kZ q d];show q
   rcases hc with z|z
   .rw[z];show g b u e
   .show g c _ z
def GY{σ:St}{ch:List Addr}(I:Â X Do σ H s)(k:∀b u,b∉ch->s.heap.get? b=b3 u->h'.get? b=b3 u)(d:∀b∈ch,kF X Do H b):Â X Do σ H {s with heap:=h',toks:=t'}:=by
 let a:∀b u,H b=b3 u->b∉ch:=λb u e z=>by have:=(d b z).1;rw[e]at this;ext this
 show I.step (g':=s.gens) (d':=s.drawn) (ch:=ch) (λb y=>let⟨E,j,G,p,w,x⟩:=d b y;⟨p,j,w,x⟩) (λb o _ _ hc e _=>k b o hc e) (λb o _ _ hc e _=>⟨o.slots,k b o hc e⟩) (λb ob hc e n=>n)
  (λb o hc e=>⟨o,k b o hc e⟩) (λb g q=>q) (λb ob g q=>q) (λb J q=>⟨#[],by rw[q];simp⟩) (λm A=>?_) (λb u e=>?_) I.bare
 .let⟨o,i,h,B,r⟩:=A;show⟨o,i,h,k _ o (λz=>(d _ z).2.1 rfl) B,r⟩
 .show(I.hok b u e).stay (λc v hc q=>k c v ?_ q) (λc q=>q) λc g q=>q;rcases hc with z|z
  .rw[z];show a b u e
  .show a c _ z
abbrev B9(K:Ô)(a:Addr):It:=
 ⟨λi H=>∃b x,Ĉ K H a b/\b[i]?=b3 x,λi H x c=>∃p v,x=.ref p/\H p=b4/\c=upd H p (.tup [.int i,v])/\∀b,Ĉ K H a b->b[i]?=b3 v,λi H=>∃b,Ĉ K H a b/\b.length<=i⟩
def Tf a e n(A:e≠n):
  Ń Qc P w K (.Tuple es kx pt) (B9 K a) [e,n] e (λi h=>∃old,IsEnum h e n i old/\h.IsListIter n a i) where
 mem:=∅
 obj:=λi h ⟨old,st,j⟩ b q=>by
  let g:b=e\/b=n:=by apply q
  rcases g with rfl|rfl
  .show⟨_,st,λv z=>by
    let z':ŋ _=rm v:=z;ext z'⟩
  .let⟨o,M,c,d⟩:=j;show⟨o,M,λv z=>by rw[d]at z;ext z⟩
 keep:=λi h h' ⟨old,st,j⟩ k=>⟨old,k e ∅ _ st,j.at λo M=>k n ∅ o M⟩;item:=by
  intro X Q hw O hc i L s σ H E I G ⟨old,st,j⟩ U;subst Q hw O;let⟨xs,x,J,hx⟩:=U;let⟨its,rv,p,hz⟩:=I.list J;let⟨u,hu,ru⟩:=rv.get hx;show wpAny_pyNext_enum_item st j p.isList (x:=u) (by apply hu) A λh1 ho hit ht hsz hk=>⟨_,rfl,wpAny_letOwnedTupleGo_enum ho λh2 R y=>?_⟩;let B:e<s.heap.objs.size:=Þ st;let Y:s.heap.objs.size≠e:=Ţ B;let ht2:h2.get? s.heap.objs.size=b3 {cls:=.type "tuple",data:=.seq #[.int i s.toks,u]}:=(y.2 _ Y).trans ht;let T:H s.heap.objs.size=none:=I.hok.fresh<|Ø _;show⟨.ref s.heap.objs.size,upd H s.heap.objs.size<|.tup [.int i,x],?_,rfl,⟨s.heap.objs.size,x,rfl,T,rfl,λys hy=>by rw[I.list_inj hy J];show hx⟩,⟨u,R,hit.extBut y.extBut<|ð A⟩,λb q=>?_⟩
  .show B8 (s:=s) (h':=h2) (t':=s.toks+1) (ch:=[e,n]) I (λb ob q N=>?_) G (Ø _) ?_
   .let g:b≠e/\b≠n:=by apply q
    show(y.2 b g.1).trans<|hk b ob g.1 g.2 N
   .show⟨by change(2:Nat)<=Ò;decide,[.int i s.toks,u],.cons ⟨_,rfl⟩<|.cons ru .nil,_,ht2,rfl,0,rfl,rfl⟩
  .let g:b=e\/b=n:=by apply q
   let hn:=(G b q).1;let⟨o,Z,_⟩:=j;rw[bQ]
   .show hn
   .rcases g with rfl|rfl
    .show Ā B
    .show Ā<|Þ Z
 done:=by
  intro X Q hw O hc i L s σ H E I G ⟨old,st,j⟩ U;subst Q hw O;let⟨xs,J,hx⟩:=U;let⟨its,rv,p,hz⟩:=I.list J;let hl:=rv.length;show wpAny_pyNext_enum_end (I.ok.hd hc) st j p.isList (by simp;lia) λh' N=>⟨rfl,GY (t':=s.toks) (ch:=[e,n]) I (λb o q z=>N b o ?_ z) G⟩;let g:b≠e/\b≠n:=by apply q
  show g.2
 self:=λ_ _ _ _ _ ⟨old,st,_⟩ h=>QZ st h
structure vy(X:Cx)(e:Expr)(m:MI):Prop where
 h:∀es k p,PI X (.Tuple es k p) e (ϗ X.K m)
def QJ.t(h:QJ X e m):vy X e m:=⟨λes k p=>h.h _⟩
abbrev rW(x:D):gT:=λa i=>(bO a x).map λxs=>(xs[i]?).map λd=>.tup [.int i,d]
abbrev rX(a:MA):MI:=λd c=>(a d c).bind λp=>match p.1 with
 |[x]=>(eW p.2 x).map λb=>(rW x,b.length+1,p.2)|_=>b4
def Tg(R:Rp K π H w)(h:Ú K π w.length H v x)(B:eW w x=b3 xs):∃a,v=.ref a/\(∃vs,Ĉ K H a vs)/\Wk K (B9 K a) (rW x) π w.length H:=by
 let hw:bO w x=b3 xs:=by
  cases x with
  |rol k=>show B|loc b=>show B|_=>ext B
 let⟨p,vs,rfl,U,_⟩:=rV R h B;show⟨p,rfl,⟨vs,U⟩,?_⟩
  -- the list as it stands j
 let j:∀g c n,õ π w.length H g c.length n->Rp K g n c->∀k,bO c x=b3 k->∃o,Ĉ K n p o/\Ç K g c.length n o k:=λg c n e s k L=>by
  let Y:=h.mono e;let Q:eW c x=b3 k:=by
   cases x with
   |rol zs=>show L|loc b=>show L|_=>ext B
  let⟨p',o,M,u,A⟩:=rV s Y Q;ext M;show⟨o,u,A⟩
 show⟨λg c n i e s z=>?_,λg c n i d e s z=>?_⟩
 .let⟨k,h1,E⟩:=ì.mp z;let⟨o,u,A⟩:=j g c n e s k h1;let G:k[i]?=none:=by
   cases q:k[i]? with
   |none=>rfl|some d=>rw[q]at E;ext E
  show⟨o,u,by rw[A.length];show τ.mp G⟩
 .let⟨k,h1,E⟩:=ì.mp z;let⟨d',G,N⟩:=ì.mp E;subst N;let⟨o,u,A⟩:=j g c n e s k h1;let⟨v,J,O⟩:=A.get G;show⟨⟨o,v,u,J⟩,?_⟩;rintro y Z ⟨t,v',rfl,T,rfl,X⟩;have:=X o u;rw[J]at this;ext this;let⟨I,R2⟩:=s.fresh (o:=.tup [.int i,v]) T;show⟨I,R2,.tup (.of dU)<|.cons (.int _)<|.cons (O.mono I) .nil⟩
abbrev Th(K:Ô)(c:TA):TI:=λσ H R=>c σ H λvs b=>∃a,vs=[.ref a]/\(∃xs,Ĉ K b a xs)/\R (B9 K a) b
open PyProof.Rows in
def Tj{X:Cx}{a:Expr}{k:TA}{p pos pt:Ĳ}{es:List Expr}{K:Nat}(z:Gl X "enumerate") (B:X.mg "enumerate"=b4) (x:PA X [a] k)(G:Ă [a] X.env=[(b5,eval a X.env)]):PI X (.Tuple es K pt) (.Call (.Name "enumerate" p) [a] [] pos) (Th X.K k):=by
 intro e s n H R I h;show xx<|kE I z B Boot.«enumerate»<|callWith_type1 (aW (x pos e s n H _ I h) λT c ⟨U,i,d,M,L⟩=>?_) G rfl;obtain⟨v,rfl,⟨Y,E⟩,q⟩:=L;let⟨u,rfl,N⟩:=gR M;ext N;let⟨its,Q,pl,O⟩:=d.list E;show call_enumerate_list pl.isList λw j hit J A=>?_;show QZ j ?_;let o:Â X e n i {c with heap:=w}:=d.kept (t':=c.toks) A;show⟨c.heap.objs.size+1,[c.heap.objs.size+1,c.heap.objs.size],_,_,i,rfl,o,Tf v _ _<|Nat.succ_ne_self _,⟨_,j,hit⟩,λb y=>?_,q⟩;let g:b=c.heap.objs.size+1\/b=c.heap.objs.size:=by apply y
 rcases g with rfl|rfl
 .show d.fpOk (lY _)<|d.hok.fresh<|lY _
 .show d.fpOk (Ø _)<|d.hok.fresh<|Ø _
def Tn(c:Gl X "enumerate")(d:X.mg "enumerate"=b4)(j:QA X [a] q n):vy X (.Call (.Name "enumerate" p) [a] [] pos) (rX q):=⟨λes N pt Do s σ H R I hw=>by
 let o:=j.s;rw[Ő,ó]at o;let⟨L,M,J,B,O,K,v,E,b,k⟩:=hw;show bR b ?_;clear b;intro x g h1 b;show Tj c d j.h (iC o.1) Do s σ H R I ⟨L,M,J,x,g,v,E,h1,λh Q u y i e=>?_⟩;dsimp at b;split at b
 .rename_i x;let⟨T,z,b⟩:=ì.mp b;ext b;cases e with
  |cons e G=>ext G;let⟨w,rfl,A,W⟩:=Tg i e z;show⟨w,rfl,A,k h u _ y i W⟩
 .ext b⟩
def yW(hi:PI X tg iter (ϗ X.K A))(K:QG X tg g)(I:QB X body y)(L:yj (Î X.prog X.w) X.A X.env X.xe)(hc:X.calm=dI)(M:i8 iter=dI):
  QS X (.For tg iter body [] pos) (b9 A g y):=⟨nH (a7N L hc hi K.h I.h<|by intro z;ext iter<;>first|rfl|ext M)<|by
 rintro E U H ⟨Q,T,O,x,v,s,R,w,p,k⟩;obtain⟨⟨q,n,o⟩,h1,p⟩:=è.mp p;show⟨Q,T,O,q,n,o,R,w,h1,λu B J i G W=>?_⟩;let N:rB X.K E u o.length B x v s:=by
  cases x with
  |nx=>show λa b e j h c=>k a b e (i.trans j) h c|bk=>show λa b e j h c=>k a b e (i.trans j) h c|ct=>show λa b e j h c=>k a b e (i.trans j) h c|rt d=>show KC.after k i
 show b2f W N .refl G (w.mono i) p⟩
abbrev Ca(put:D->D->D->Hm->Option Hm)(o i v:ME):MS:=λa b=>(v a b).bind λp=>(o a p.2).bind λq=>(i a q.2).bind λr=>(put q.1 r.1 p.1 r.2).map λμ'=>(.nx,a,μ')
abbrev vO:D->D->D->Hm->Option Hm
 |.loc a,y,d,μ=>match μ[a]? with
  |some (.dT kvs)=>(dP y).bind λk=>if kvs.length<Ò then b3 (μ.set a<|.dT<|cC kvs k d)else b4|_=>b4
 |_,_,_,_=>b4
abbrev vP:D->D->D->Hm->Option Hm:=vO
abbrev eJ:=Ca vP
def G0:QS X st (fN i cR):=⟨λDo s σ H D I q=>by
 let⟨g,h,e,d,c,b,R,E,a,k⟩:=q;ext a⟩
abbrev pZ(a:Hm)(x:D):List D->Option (List Bool)
 |[]=>b3 []|y::r=>(eI 8 a y x).bind λb=>(pZ a x r).map λc=>b::c
abbrev tV:D->List D->Hm->jk
 |.loc a,[x],μ=>match μ[a]? with
  |some (.lst xs)=>(pZ μ x xs).bind λbs=>if bs.findIdx id<bs.length/\bs.length<=Ò then b3 (.int (bs.findIdx id:Nat),μ)else b4|_=>b4
 |_,_,_=>b4
abbrev G2(K:Ô):V->gz->Hp->VK->Prop:=λx vs H Q=>∃π b a xs y c bs,Rp K π H b/\x=.ref (π a)/\vs=[y]/\b[a]?=b3 (.lst xs)/\Ú K π b.length H y c/\pZ b c xs=b3 bs/\bs.findIdx id<bs.length/\Q (.int (bs.findIdx id:Nat)) H
def To:mQ K tV (G2 K):=by
 intro b H o x ds d p v q Q R i h a k;unfold tV at a;split at a
 .split at a
  .rename_i n e;let⟨bs,h1,a⟩:=è.mp a;split at a
   .rename_i c;ext a;cases h with
    |cons g j=>ext j;ext i;show⟨b,o,_,n,_,_,bs,R,rfl,rfl,e,g,h1,c.1,k b _ H .refl R<|.int _⟩
   .ext a
  .ext a
 .ext a
def Tp{σ:St}(I:Â X Do σ H s)(R:Rp X.K π H i)(Q:A.units+8<Ą)(rx:Í x v)(Z:Ú X.K π i.length H x n):
  ∀{e}{vs}{us}{bs},Ç X.K π i.length H vs e->Å vs us->pZ i n e=b3 bs->
   ∃g,(∀u∈us,m5 A s u v (g u))/\us.map g=bs:=by
 classical
 intro e vs us bs hi k d
 let p:∀{e:List D}{vs:gz}{us:gw}{bs:List Bool},Ç X.K π i.length H vs e->Å vs us->pZ i n e=b3 bs->(∀u∈us,∃c,m5 A s u v c/\∃w o,Í w u/\Ú X.K π i.length H w o/\eI 8 i o n=b3 c):=by
  intro e
  induction e with
  |nil=>
   intro vs us b hi k d u a
   ext hi
   ext k
   ext a
  |cons y e J=>
   intro vs us b hi k d u a
   cases hi with
   |cons h t=>
    cases k with
    |cons r rt=>
     let⟨c,h1,d⟩:=è.mp d
     let⟨M,E,d⟩:=ì.mp d
     rcases Č.mp a with rfl|a
     .show⟨c,BA I R 8 Q r rx h Z h1,_,_,r,h,h1⟩
     .show J t rt E u a
 let q:=p hi k d
 show⟨λu=>if h:u∈us then ul (q u h)else b5,λu a=>?_,?_⟩
 .dsimp[dif_pos a]
  show(NI<|q u a).1
 .let key:∀u (h:u∈us) w o c,Í w u->Ú X.K π i.length H w o->eI 8 i o n=b3 c->ul (q u h)=c:=by
   intro u h w o c K Y L
   let⟨_,w2,N,r2,U,O⟩:=NI<|q u h
   have:w2=w:=r2.inj K
   subst this
   have:=BU I R U Y
   subst this
   rw[O]at L
   show Ė L
  let B:∀{e:List D}{vs:gz}{j:gw}{bs:List Bool},(∀u∈j,u∈us)->Ç X.K π i.length H vs e->Å vs j->pZ i n e=b3 bs->j.map (λu=>if h:u∈us then ul (q u h)else b5)=bs:=by
   intro e
   induction e with
   |nil=>
    intro vs j b G hi k d
    ext hi
    ext k
    ext d
    rfl
   |cons y e J=>
    intro vs j b G hi k d
    cases hi with
    |cons h t=>
     cases k with
     |@cons _ u _ us2 r rt=>
      let⟨c,h1,d⟩:=è.mp d
      let⟨M,E,d⟩:=ì.mp d
      have iP:u∈us:=G u<|ţ ..
      rw[ö,J (λz T=>G z<|ŏ _ T) t rt E,dif_pos iP,key u iP _ _ c r h h1]
      show d
  show B (λ_ h=>h) hi k d
def Tq(hu:X.A.units+20<Ą):nG X "list.index" (G2 X.K):=by
 intro E s σ H x vs v us Q I Y U h
 let⟨π,μ,a,Z,y,dy,bs,R,rfl,rfl,M,O,L,p,q⟩:=h
 ext Y
 let⟨u,rfl,T⟩:=U.one
 let⟨ws,J,hd⟩:=R.lst a Z M
 let⟨z,its,n,r,hl,e⟩:=I.lstM J
 let⟨g,G,B⟩:=Tp I R (A:=X.A.in1) (by rw[mN];lia) T O hd r L
 let j:bs.length=its.length:=by rw[<- B,Ã]
 let w:bs.findIdx id<its.toArray.size:=by rw[ģ,<- j];show p
 let b:∀m (o:m<its.length),bs[m]?=b3 (g its[m]):=λm o=>by
  rw[<- B,ÿ,ā o];rfl
 let c:((bs.findIdx id:Nat):Int)<2^63-1:=by
  let h1:bs.findIdx id<its.length:=by apply w
  let d:=q8
  let i:(bs.findIdx id:Nat)<Ò:=()
  let k:((Ò:Nat):Int)<=2^63-1:=⋯
  lia
 show yg F.slot_list_index ⟨_,e,rfl⟩ F.entry_list_index (F.args_list_index_2 _ _) (SeqAt.list_indexAt (π a) its.toArray n b4 #[] u g (bs.findIdx id) w c ?_ ?_) ⟨e,λy N=>G y<|by apply N,⟨.int (bs.findIdx id:Nat),H,I.tok _,⟨_,rfl⟩,q⟩⟩
 .let h1:bs.findIdx id<its.length:=by apply w
  let d:=List.findIdx_getElem (p:=id) (xs:=bs) (w:=p)
  let i:=b _ h1
  rw[ā p]at i
  let k:=Ė i
  rw[k]at d
  apply d
 .intro m o A
  let h1:m<its.length:=by apply o
  let d:=List.not_of_lt_findIdx (p:=id) (xs:=bs) A
  let i:=b _ h1
  let K:m<bs.length:=()
  rw[ā K]at i
  let k:=Ė i
  rw[k]at d
  apply d
def Tr:yq (.type "list_reverseiterator") "__len__"=pure none:=by rw[OC,Oz];kernel_rfl
def Ts:yq (.type "list_reverseiterator") "__length_hint__"=pure (b3<|.builtin "list_reverseiterator.__length_hint__"):=by rw[OC,Oz];kernel_rfl
def Tt(b:s.TypeIs (.ref r) "list_reverseiterator")(h:Q b5 s):È (Î prog w) A (SJ<|.ref r) Q E s:=by ext SJ;show Á<|uf b Tr ?_;dsimp;show mL (λa=>absurd a<|by decide +kernel) λ_=>?_;show mL (λa=>absurd a ⋯) λ_=>?_;show Á<|uf b Ts ?_;generalize bX:("list_reverseiterator.__length_hint__":String)=id0;wp_delta;rw[show splitId id0=b3 ("list_reverseiterator","__length_hint__")from by subst bX;decide +kernel];subst bX;show Á (mY (T:="list_reverseiterator") (b:=dI) b (by rw[isSubtype_type];kernel_rfl) ?_);show mL (λa=>absurd a ⋯) λ_=>?_;show mL (λ_=>?_) (λa=>absurd (by decide +kernel) a);show mL (λa=>absurd a<|by decide +kernel) λ_=>?_;show Ê h
def Tu(Y:A.handled=b4)(hit:s.heap.IsRevIter p a ((its.size:Int)-1))(hl:s.heap.IsList a its)(J:a≠p)S(u:S≠p)(G:S≠a)res j(X:s.heap.get? S=b3 {cls:=.type "list",data:=.seq #[] j})(U:∀z tk c q,(∀b o,b≠S->b≠p->s.heap.get? b=b3 o->z.get? b=b3 o)->z.get? S=b3 {cls:=.type "list",dict:=b4,data:=.seq c q,slots:=#[]}->ItemsOf (λi v=>its[its.size-1-i]?=b3 v) c its.size->R (.ok<|.ret res) {s with heap:=z,toks:=tk})(hn:its.size<=Ò):
  È (Î prog w) A.in1 (vp (.ref S) (.ref p) res)
   (λfin n=>match fin with|.done f=>R (.ok f) n|.again q=>q.quiet=dI/\ι (Î prog w) A q R n) (λe n=>R (.error e) n) s:=by
 let H:S∉[p,a]:=by dsimp[Č,Ϗ,or_false,not_or];show⟨u,G⟩
 let W:=Walks.listRev (prog:=prog) (w:=w) (A:=A.in1) Y p a J its;let key:∀(h:ñ)(d tk:Nat),h.IsRevIter p a ((its.size:Int)-1)->h.IsList a its->(∀b o,b≠S->s.heap.get? b=b3 o->h.get? b=b3 o)->
   h.get? S=b3 {cls:=.type "list",data:=.seq #[] d}->ι (Î prog w) A (.builtin "list.extend.loop" ⟨[.ref S,.ref p,res],[]⟩) R {s with heap:=h,toks:=tk}:=by
  intro h d tk L y Z k;show codeAny_extend_loopS W.toS hn S H res its.size 0 _ #[] d rfl (ĸ _) ⟨ĸ _,by apply L,y⟩ k (ItemsOf.nil _) λn c q N B x=>?_;rw[Moved.eq_with N];show U n.heap n.toks c q (λb o M K e=>N.heap b o (λg=>?_)<|Z b o M e) B x;rcases Č.mp g with O|g
  .show M O
  .show K<|Ĕ.mp g
 ext vp;show Á<|yx (T:="list_reverseiterator") hit.typeIs ?_;let h1:NP (.ref S) (.ref p)=false:=by simp[NP,u]
 let Q:(ü "list_reverseiterator"==ü "list")=false:=by decide +kernel
 let T:(ü "list_reverseiterator"==ü "tuple")=false:=by decide +kernel
 dsimp[h1,Q,T,MY,ŀ,if_false];show Á<|Od hit ?_;show Á<|ł<|Tt hit.typeIs ?_;show mL (λI=>absurd I<|by decide +kernel) λ_=>Ê ⟨ϝ PySem.F.plain_extend_loop _,?_⟩;show key _ j s.toks hit hl (λb o _ e=>e) X
def Tv(K:A.handled=b4)(hit:s.heap.IsRevIter p a ((its.size:Int)-1))(M:s.heap.IsList a its)(G:a≠p)S(n:S≠p)(k:S≠a)(z:s.heap.get? S=b3 {cls:=.type "list",data:=.seq #[]})(J:∀j I c h,(∀b o,b≠S->b≠p->s.heap.get? b=b3 o->j.get? b=b3 o)->j.get? S=b3 {cls:=.type "list",dict:=b4,data:=.seq c h,slots:=#[]}->ItemsOf (λi v=>its[its.size-1-i]?=b3 v) c its.size->R (.ok<|.ret .none) {s with heap:=j,toks:=I})(N:its.size<=Ò):
  È (Î prog w) A.in1 (Builtin.«list.__init__» ⟨[.ref S,.ref p],[]⟩)
   (λfin y=>match fin with|.done f=>R (.ok f) y|.again h=>h.quiet=dI/\ι (Î prog w) A h R y) (λe y=>R (.error e) y) s:=by
 change È _ _ (do let old <- SN (.ref S);b4P (.ref S) λ_=>#[];letGo old.toList.reverse;vp (.ref S) (.ref p) .none) _ _ s;show Á ?_;ext SN;show Á<|ϟ z rfl<|Ê ?_;change È _ _ (qw S (λ_=>#[]) >>= λ_=>letGo (#[]:Array Value).toList.reverse >>= λ_=>vp (.ref S) (.ref p) .none) _ _ s;show Á<|iu z rfl ?_;let d:=ϓ (a4A λ_=>(#[]:Array Value)) z rfl;let g:∀b o,b≠S->s.heap.get? b=b3 o->(s.heap.update S<|a4A λ_=>(#[]:Array Value)).get? b=b3 o:=
  λb o u e=>(WF _ _<|ð u).trans e
 show Á<|bh ?_;show Tu K (hit.at λo e=>g p o (ð n) e) (let⟨o,O,x⟩:=M;⟨o,g a o (ð k) O,x⟩) G S n k .none _ d (λj I c h L B q=>?_) N;show J j I c h (λb o u H e=>L b o u H<|g b o u e) B q
def Tx(K:A.handled=b4)(hit:s.heap.IsRevIter p a ((its.size:Int)-1))(G:s.heap.IsList a its)(y:a≠p)(M:its.size<=Ò)(H:∀g z c q,(∀b o,b≠p->s.heap.get? b=b3 o->g.get? b=b3 o)->g.get? s.heap.objs.size=b3 {cls:=.type "list",dict:=b4,data:=.seq c q,slots:=#[]}->ItemsOf (λi v=>its[its.size-1-i]?=b3 v) c its.size->Q (.ref s.heap.objs.size) {s with heap:=g,toks:=z}):
  È (Î prog w) A (call (.type "list") [.ref p]) Q E s:=by
 show Pf (Q₁:=λn d=>n=.ref s.heap.objs.size/\d={s with heap:=s.heap.push {cls:=.type "list",data:=.seq #[]}}) PySem.F.called_list (PySem.F.typeCall_list_1 _) PySem.F.entry_list_init
  (code_list_new _ ⟨rfl,rfl⟩) λn d k=>?_
 let⟨rfl,rfl⟩:=k;let B:(s.heap.push {cls:=.type "list",data:=.seq #[]}).get? s.heap.objs.size=b3 {cls:=.type "list",data:=.seq #[]}:=Ċ _ rfl;let N:p<s.heap.objs.size:=let⟨o,j,_⟩:=hit;Þ j;let I:a<s.heap.objs.size:=let⟨o,j,_⟩:=G;Þ j;show⟨⟨_,B,rfl⟩,PySem.F.args_list_init_2 _ _,Tv (A:=A.in1) K (hit.at λo e=>á _ e) (let⟨o,j,x⟩:=G;⟨o,á _ j,x⟩) y _ (Ţ N) (Ţ I) B (λg z c q L u h=>?_) M⟩;show⟨rfl,H g z c q (λb o J e=>L b o (Ā<|Þ e) J<|á _ e) u h⟩
abbrev G3(K:Ô):gz->Hp->VK->Prop:=λxs H Q=>∃(p:Addr)(a:gz),xs=[.ref p]/\Ĉ K H p a/\∀l,H l=b4->Q (.ref l) (upd H l<|.lst a.reverse)
def G4:∀{a}{its},Å a its->Å a.reverse its.reverse
 |_,_,.nil=>.nil|_,_,.cons h t=>by rw[zc,zc];show(G4 t).append<|.cons h .nil
def Tz(hc:X.calm=dI)(O:Gl X "list")(R:X.mg "list"=b4)(w:Gl X "reversed")(z:X.mg "reversed"=b4)(N:PA X [e] t)(U:Ă [e] X.env=(b5,eval e X.env)::Ă [] X.env):
  PE X (.Call (.Name "list" p) [.Call (.Name "reversed" K) [e] [] c] [] pos) (xK (G3 X.K) t):=by
 intro n s σ H Q I h;show bx (kE I O R PC ?_ ⋯<|by decide);show qe ?_ rfl rfl;change È _ _ (spliced<|(b5,eval (.Call (.Name "reversed" K) [e] [] c) X.env)::Ř pos (Ă [] X.env)) _ _ s;show NN (bx<|kE I w z b2y ?_ ⋯<|by decide);show qe (aW (N c n s σ H _ I h) λus g ⟨vs,H1,j,r1,q1⟩=>?_) U rfl;let⟨q,ys,rfl,T,k⟩:=q1;let⟨u,rfl,ru⟩:=gR r1;ext ru;let⟨its,L,pl,Y⟩:=j.list T;let J:=L.length;let y:=pl.isList;let B:q<g.heap.objs.size:=let⟨o,A,_⟩:=y;Þ A;show Qg y ?_;show NJ ?_;show Tx (j.ok.hd hc) (p:=g.heap.objs.size) (a:=q) (its:=its.toArray) ⟨_,Ċ _ rfl,rfl,rfl⟩ (let⟨o,A,x⟩:=y;⟨o,á _ A,x⟩) (Ā B) (by dsimp[ģ]<;>lia) λh' tk a M Z G d=>?_;let v:a.toList=its.reverse:=by
  show OX λi=>?_;let hn:a.size=its.length:=by apply d.1
  by_cases hi:i<its.length
  .let h1:=d.2 i a[i] (PD ());rw[Ϸ,PD (),<- h1,P8 hi,ģ,Rg]
  .rw[cj<|by rw[ie];lia,cj<|by rw[q9];lia]
 let E:(g.heap.push<|revObj q<|(its.toArray.size:Int)-1).objs.size=g.heap.objs.size+1:=by simp[Heap.push]
 rw[E]at G ⊢;show⟨.ref<|g.heap.objs.size+1,_,j.laid (t':=tk) (a:=g.heap.objs.size+1) (o:=.lst ys.reverse) (λb o e=>Z b o (Ā<|Þ e)<|á _ e) () ⟨by rw[q9];show Y,its.reverse,M,G4 L,by rw[<- v];apply G⟩,rfl,k _<|j.hok.fresh ()⟩
abbrev nO:MF:=λds b=>match ds with
 |[.loc a]=>match b[a]? with
  |some (.lst xs)=>b3 (.loc b.length,b++[.lst xs.reverse])|_=>b4
 |_=>b4
def TB:eY K nO (G3 K):=by
 intro u H s q d o p Q R i b k;unfold nO at b;split at b
 .rename_i a;split at b
  .rename_i e n;ext b;cases i with
   |cons i t=>ext t;ext i;let⟨c,h1,h⟩:=R.lst a e n;show⟨_,c,rfl,.of h1,λl j=>?_⟩;let⟨g,R2,_⟩:=R.alloc (c:=.lst e.reverse) (o:=.lst c.reverse) j<|MhI h;show k _ _ _ g R2 mM
  .ext b
 .ext b
def TC(hc:X.calm=dI)(d:X.mg "list"=b4)(g:X.mg "reversed"=b4)(h:QA X [e] j n)(b:Gl X "list")(c:Gl X "reversed"):
  QE X (.Call (.Name "list" p) [.Call (.Name "reversed" k) [e] [] a] [] pos) (bJ nO j):=by
 let i:=h.s;rw[Ő,ó]at i;show⟨eM (Tz hc b d c g h.h<|iC i.1)<|Bu TB⟩
abbrev Cb(K:Ô)(a:Addr)(n:Nat):It:=⟨λi H=>i<n/\∃xs x,Ĉ K H a xs/\xs[n-1-i]?=b3 x,λi H x b=>b=H/\∀xs,Ĉ K H a xs->xs[n-1-i]?=b3 x,λi _=>i=n⟩
def TF a j n:Ń Qc P w K tg (Cb K a n) [j] j (λi h=>h.IsRevIter j a<|(n:Int)-1-(i:Nat)) where
 mem:=∅
 obj:=λi h st b g=>by
  let e:b=j:=by apply g
  subst e;let⟨o,e,c,d⟩:=st;show⟨o,e,λv z=>by rw[d]at z;ext z⟩
 keep:=λi h A st k=>st.at λo e=>k j ∅ o e;item:=by
  intro X Q hw O hc i y s Z H E I B st R;subst Q hw O;let⟨hi,xs,x,U,Y⟩:=R;let⟨its,rv,p,hz⟩:=I.list U;let⟨u,hu,ru⟩:=rv.get Y;let⟨G,J,f2,L,M,N⟩:=B j ∅;let T:(n:Int)-1-(i:Nat)=((n-1-i:Nat):Int):=()
  rw[T]at st;show wpAny_pyNext_rev_item st p.isList (x:=u) (by apply hu) λA q sb=>?_;let I1:Â X y Z H {s with heap:=A}:=I.turned (t':=s.toks) (λb o g e=>(sb.2 b g).trans e) G J L M N;rw[<- T,show(n:Int)-1-(i:Nat)-1=(n:Int)-1-((i+1:Nat):Nat) by lia]at q;let⟨o,e,c,d⟩:=id q;show⟨u,rfl,sW (s:={s with heap:=A}) e c d ⋯ ⟨x,H,I1,ru,⟨rfl,λys hy=>by rw[I.list_inj hy U];show Y⟩,q,λb g=>(B b g).1⟩⟩
 done:=by intro X Q hw O hc i y s Z H E I B st R;subst Q hw O;let hg':i=n:=R;let⟨G,J,f2,L,M,N⟩:=B j ∅;rw[show(n:Int)-1-(i:Nat)=-1 by lia]at st;show wpAny_pyNext_rev_end (I.ok.hd hc) st λA eb=>⟨rfl,I.turned (t':=s.toks) (λb o g e=>eb b o g e) G J L M N⟩
 self:=λ_ _ _ _ _ st h=>Od st h
abbrev TH(K:Ô)(c:TA):TI:=λσ H R=>c σ H λvs b=>∃a xs,vs=[.ref a]/\Ĉ K b a xs/\R (Cb K a xs.length) b
open PyProof.Rows in
def TJ{X:Cx}{tg a:Expr}{n:TA}{p pos:Ĳ}(y:Gl X "reversed") (z:X.mg "reversed"=b4) (w:PA X [a] n)(B:Ă [a] X.env=[(b5,eval a X.env)]):PI X tg (.Call (.Name "reversed" p) [a] [] pos) (TH X.K n):=by
 intro i s L H R I h;show xx<|kE I y z Boot.«reversed»<|callWith_type1 (aW (w pos i s L H _ I h) λN c ⟨O,v,d,G,E⟩=>?_) B rfl;let⟨g,j,rfl,A,q⟩:=E;let⟨u,rfl,J⟩:=gR G;ext J;let⟨its,K,pl,M⟩:=d.list A;let k:=K.length;show Qg pl.isList ?_;let hit:(c.heap.push<|revObj g<|(its.toArray.size:Int)-1).IsRevIter c.heap.objs.size g ((its.toArray.size:Int)-1):=⟨_,Ċ _ rfl,rfl,rfl⟩;show Od hit ?_;show⟨c.heap.objs.size,[c.heap.objs.size],_,_,v,rfl,d.kept (t':=c.toks) λb o e=>á _ e,TF g _ j.length,?_,λb x=>?_,q⟩
 .let e:(j.length:Int)-1-((0:Nat):Int)=(its.toArray.size:Int)-1:=by dsimp[ģ];lia
  change Heap.IsRevIter _ _ _ ((j.length:Int)-1-((0:Nat):Int));rw[e];show hit
 .let e:b=c.heap.objs.size:=by apply x
  subst e;show d.fpOk (Ø _)<|d.hok.fresh<|Ø _
abbrev nP(a n:Nat):gT:=λb i=>match b[a]? with
 |some (.lst xs)=>if i<n then(xs[n-1-i]?).map b3 else if i=n then b3 b4 else b4|_=>b4
def TK(u:a<n):Wk K (Cb K (π a) k) (nP a k) π n H:=by
 show⟨λb E j i e R z=>?_,λb E j i d e R z=>?_⟩
 .unfold nP at z;split at z
  .split at z
   .let⟨y,_,h⟩:=ì.mp z;ext h
   .split at z
    .assumption
    .ext z
  .ext z
 .unfold nP at z;split at z
  .rename_i B x;split at z
   .rename_i hi;let⟨y,A,h⟩:=ì.mp z;ext h;let⟨g,h1,q⟩:=R.lst a B x;rw[e.pi a u]at h1;let⟨w,c,s⟩:=q.get A;show⟨⟨hi,g,w,.of h1,c⟩,λv G ⟨o,p⟩=>?_⟩;subst o;have:=p g<|.of h1;rw[c]at this;ext this;show⟨.refl,R,s⟩
   .split at z
    .ext z
    .ext z
  .ext z
abbrev vQ(b:MA):MI:=λd c=>(b d c).bind λp=>match p.1 with
 |[.loc a]=>match p.2[a]? with
  |some (.lst xs)=>b3 (nP a xs.length,xs.length+1,p.2)|_=>b4
 |_=>b4
def TL(d:Gl X "reversed")(e:X.mg "reversed"=b4)(o:QA X [a] v n):QJ X (.Call (.Name "reversed" p) [a] [] pos) (vQ v):=⟨λtg Do s σ H R I hw=>by
 let q:=o.s;rw[Ő,ó]at q;let⟨Q,T,N,J,U,O,y,E,c,k⟩:=hw;show bR c ?_;clear c;intro x h h1 c;show TJ d e o.h (iC q.1) Do s σ H R I ⟨Q,T,N,x,h,y,E,h1,λi Y w z j g=>?_⟩;dsimp at c;split at c
 .rename_i b;split at c
  .rename_i M u;ext c;cases g with
   |cons g K=>ext K;ext g;let⟨L,A,B⟩:=j.lst b M u;let G:=(ä.mp u).1;show⟨_,L,rfl,.of A,?_⟩;rw[B.length];show k i w _ z j<|TK G
  .ext c
 .ext c⟩
abbrev TM:MF:=yV
abbrev TN:MF:=yU
noncomputable abbrev bN:=List<|List Int×Addr×V
abbrev cH(ps:bN)(ws:gw):List (List Int×Addr×Value):=yt (λp w=>(p.1,p.2.1,w)) ps ws
def yX:∀(ps:bN)(ws:gw),yt xR ps ws=(cH ps ws).map (yh<|Ϛ<|ŵ P w)
 |[],_=>by simp[cH]
 |p::ps,[]=>by simp[cH]
 |p::ps,u::ws=>by let a:=yX (P:=P) (w:=w) ps ws;unfold cH at a ⊢;rw[ϔ,ϔ,ö,a];rfl
def oT:∀{ps}{ws},Å (ps.map (·.2.2)) ws->(cH ps ws).map (·.1)=ps.map (·.1)
 |[],_,_=>by simp[cH]
 |p::ps,_,.cons r t=>by let a:=oT (ps:=ps) t;unfold cH at a ⊢;rw[ϔ,ö,ö,a]
def Cd:∀{ps}{ws}{x},x∈cH ps ws->∃p∈ps,p.1=x.1/\p.2.1=x.2.1
 |[],_,x,h=>by simp[cH]at h
 |p::ps,[],x,h=>by simp[cH]at h
 |p::ps,u::ws,x,h=>by
  unfold cH at h;rw[ϔ]at h;rcases Č.mp h with e|h
  .subst e;show⟨p,ţ ..,rfl,rfl⟩
  .let⟨q,a,e⟩:=Cd (ps:=ps) (ws:=ws) h;show⟨q,ŏ _ a,e⟩
abbrev fK(ps:bN)(k:List Int):Option V:=(ps.find? λp=>decide<|p.1=k).map (·.2.2)
abbrev eZ(ps:bN)(k:List Int)(b:Addr)(v:V):bN:=if(fK ps k).isSome then ps.map (λp=>if p.1=k then(p.1,p.2.1,v)else p)else ps++[(k,b,v)]
def rY:∀{ps}{ws},Å (ps.map (·.2.2)) ws->∀k,Œ (fK ps k) ((Ο (cH ps ws) k).map (·.2))
 |[],_,.nil,k=>by simp[fK,cH,Ο];show ϯ
 |p::ps,_,.cons r t,k=>by
  let a:=rY (ps:=ps) t k;unfold fK Ο cH at a ⊢;rw[ϔ,ų,ų];by_cases e:p.1=k
  .dsimp[e,decide_true];show r
  .dsimp[e,decide_false];show a
def vT ps k b v:(eZ ps k b v).length<=ps.length+1:=by ext eZ;split<;>simp
def G5(c:Í v u):∀{ps}{ws},Å (ps.map (·.2.2)) ws->
  ∃a,Å ((ps.map λp=>if p.1=k then(p.1,p.2.1,v)else p).map (·.2.2)) a/\(cH ps ws).map (putAt k u)=cH (ps.map λp=>if p.1=k then(p.1,p.2.1,v)else p) a
 |[],_,.nil=>⟨[],.nil,by simp[cH]⟩|p::ps,_,.cons (b:=w) r t=>by
  let⟨a,h1,b⟩:=G5 c (ps:=ps) t;by_cases e:p.1=k
  .show⟨u::a,?_,?_⟩
   .rw[ö,ö,if_pos e];show .cons c h1
   .unfold cH at b ⊢;rw[ϔ,ö,b,ö,if_pos e,ϔ];ext putAt;rw[if_pos e]
  .show⟨w::a,?_,?_⟩
   .rw[ö,ö,if_neg e];show .cons r h1
   .unfold cH at b ⊢;rw[ϔ,ö,b,ö,if_neg e,ϔ];ext putAt;rw[if_neg e]
def G6:∀{ps}{ws},Å (ps.map (·.2.2)) ws->cH ps ws++[(k,b,u)]=cH (ps++[(k,b,v)]) (ws++[u])
 |[],_,.nil=>by simp[cH]
 |p::ps,_,.cons r t=>by let a:=G6 (k:=k) (b:=b) (v:=v) (u:=u) (ps:=ps) t;unfold cH at a ⊢;rw[ϔ,ϥ,a,ϥ,ϥ,ϔ]
def yY(r:Å (ps.map (·.2.2)) ws)k b(c:Í v u):
  ∃a,Å ((eZ ps k b v).map (·.2.2)) a/\ϙ (cH ps ws) k b u=cH (eZ ps k b v) a:=by
 let e:=(rY r k).isSome_eq;rw[zq]at e;ext eZ ϙ;rw[e];by_cases h:(Ο (cH ps ws) k).isSome=dI
 .rw[if_pos h,if_pos h];show G5 c r
 .rw[if_neg h,if_neg h];show⟨ws++[u],?_,G6 r⟩;rw[ă];show Qd r c
abbrev eN(K:Ô)(H:Hp)(ps:bN):Prop:=∀p∈ps,ç K H p.2.1 (p.1.map V.int)
def lQ{σ:St}{ps:bN}(I:Â X Do σ H s)(e:Rd H a (aT a ps))(q:eN X.K H ps):(a==ľ)=b5/\ps.length<=Ò /\
  ∃b,Å (ps.map (·.2.2)) b/\s.heap.DictOfH (Ϛ<|ŵ X.prog X.w) a (cH ps b):=by
 obtain⟨⟨b,r,w,u,o,h,g,h1,i,j,k,n⟩,_⟩:=(show à X.prog X.w H s.heap a (aT a ps)from e.ok I.hok);show⟨w,u,b,r,o,h,g,h1,i,j,by rw[k];show yX ps b,λx y=>?_,by rw[oT r];show n⟩;let⟨p,v,c,d⟩:=Cd y;rw[<- c,<- d];show nN I<|q p v
def vU{ps:bN}(k:(a==ľ)=b5)(j:ps.length<=Ò)(r:Å (ps.map (·.2.2)) ws)(d:h'.DictOfH (Ϛ<|ŵ P w) a (cH ps ws)):à P w n h' a (aT a ps):=by let⟨o,c,b,h1,e,g,h,_,i⟩:=d;show⟨⟨ws,r,k,j,o,c,b,h1,e,g,by rw[h,yX (P:=P) (w:=w)],by rw[<- oT r];show i⟩,⟨o,h1⟩,?_⟩;rintro q u ⟨ws,r,k,j,o,c,b,h1,e,g,h,i⟩ p;show⟨ws,r,k,j,o,c,b,p o h1,e,g,h,i⟩
def TQ{σ:St}{ps:bN}(I:Â X Do σ H s)(e:Rd H a (aT a ps))(b:eN X.K H ps):s.TypeIs (.ref a) "dict":=by let⟨_,_,c,_,d⟩:=lQ I e b;show d.typeIs
def rZ{X:Cx}{A:Ŧ}(b:A.units+1<Ą):(Ϛ<|ŵ X.prog X.w).room A.in1:=by change A.in1.units<Ą;rw[mN];lia
def TR{σ:St}{ps:bN}(u:A.units+1<Ą)(I:Â X Do σ H s)(e:Rd H a (aT a ps))(o:eN X.K H ps)(n:ç X.K H b (k.map V.int))(w:fK ps k=b3 v)(h:∀c j,Â X Do σ H j->Í v c->Q c j):È (Î X.prog X.w) A (qt (.ref a)<|.ref b) Q E s:=by
 let⟨z,y,x,r,d⟩:=lQ I e o;let⟨c,hw,i⟩:=Œ.some_of (v:=v) (o:=(Ο (cH ps x) k).map (·.2)) (by rw[<- w];show rY r k);let⟨p,q,g⟩:=ì.mp hw;show wpAny_getItem_heap (rZ u) (nN I n) d q ?_;rw[g];show h c _ (I.tok _) i
def TU{σ:St}{ps:bN}(n:A.units+1<Ą)(I:Â X Do σ H s)(e:Rd H a (aT a ps))(i:eN X.K H ps)(g:ç X.K H b (k.map V.int))(h:∀c,Â X Do σ H c->Q (.bool (fK ps k).isSome) c):È (Î X.prog X.w) A (Ķ .In (.ref b)<|.ref a) Q E s:=by
 let⟨j,o,p,r,d⟩:=lQ I e i;show wpAny_in_heap (rZ n) (nN I g) j d ?_;let q:=(rY r k).isSome_eq;rw[zq]at q;rw[<- q];show h _<|I.tok _
def TV{σ:St}{ps:bN}(n:A.units+1<Ą)(I:Â X Do σ H s)(e:Rd H a (aT a ps))(i:eN X.K H ps)(g:ç X.K H b (k.map V.int))(h:∀c,Â X Do σ H c->Q (.bool<|!(fK ps k).isSome) c):È (Î X.prog X.w) A (Ķ .NotIn (.ref b)<|.ref a) Q E s:=by
 let⟨j,o,p,r,d⟩:=lQ I e i;show b4w (rZ n) (nN I g) j d ?_;let q:=(rY r k).isSome_eq;rw[zq]at q;rw[<- q];show h _<|I.tok _
def TX{σ:St}{ps:bN}(z:A.units+1<Ą)(I:Â X Do σ H s)(e:H a=b3 (aT a ps))(w:eN X.K H ps)(o:ç X.K H b (k.map V.int))(hz:ps.length<Ò)(J:Í v u)(h:∀i,Â X Do σ (upd H a<|aT a<|eZ ps k b v) i->Q Unit.unit i):È (Î X.prog X.w) A (setItem (.ref a) (.ref b) u) Q E s:=by
 let⟨y,M,K,r,d⟩:=lQ I (.of e) w;let B:(cH ps K).length<=Ò:=by have:=congrArg İ<|oT r;rw[Ã,Ã]at this;lia
 show wpAny_setItem_heap (hsz:=B) (rZ z) (nN I o) d λn c g=>h _ ?_;let⟨L,G,j⟩:=yY r k b J;rw[j]at c;let p:∃q,n.get? a=b3 q:=let⟨q,_,_,x,_⟩:=c;⟨q,x⟩;show xM I (by rw[e];show ϯ) g p<|vU y (by have:=vT ps k b v;lia) G c
abbrev ï(K:Ô)(π:Nat->Addr)(n:Nat)(H:Hp):bN->jx->Prop:=Ρ λp q=>p.1=q.1/\ç K H p.2.1 (p.1.map V.int)/\Ú K π n H p.2.2 q.2
def TY{k:List Int}(h:Ú K π n H (.ref b) (.tup<|k.map D.int)):ç K H b (k.map V.int):=by
 cases h with
 |tup q t=>rw[Ħ t]at q;show q
def ï.of:∀{ps}{kvs},ps.map (·.1)=kvs.map (·.1)->Ç K π n H (ps.map λp=>V.ref p.2.1) (kvs.map λk=>D.tup<|k.1.map D.int)->Ç K π n H (ps.map (·.2.2)) (kvs.map (·.2))->ï K π n H ps kvs
 |[],[],_,_,_=>.nil|[],_::_,h,_,_=>by ext h
 |_::_,[],h,_,_=>by ext h
 |p::ps,q::kvs,h,h2,h3=>by
  cases h2 with
  |cons a b=>
   cases h3 with
   |cons c d=>rw[ö,ö,RU]at h;show .cons ⟨h.1,?_,c⟩<|ï.of h.2 b d;rw[h.1];show TY a
def ï.keys:∀{ps}{kvs},ï K π n H ps kvs->eN K H ps
 |_,_,.nil=>λp a=>nomatch a|_,_,.cons h t=>λp a=>by
  rcases Č.mp a with e|a
  .subst e;show h.2.1
  .show ï.keys t p a
def ï.to:∀{ps}{kvs},ï K π n H ps kvs->ps.map (·.1)=kvs.map (·.1)/\Ç K π n H (ps.map λp=>V.ref p.2.1) (kvs.map λk=>D.tup<|k.1.map D.int)/\Ç K π n H (ps.map (·.2.2)) (kvs.map (·.2))
 |_,_,.nil=>⟨rfl,.nil,.nil⟩|_,_,.cons (a:=p) (b:=q) h t=>by let⟨h1,a,b⟩:=ï.to t;show⟨by rw[ö,ö,h.1,h1],.cons ?_ a,.cons h.2.2 b⟩;change Ú K π n H (.ref p.2.1) (.tup<|q.1.map D.int);rw[<- h.1];show .tup h.2.1<|B6 p.1
def ï.val k:∀{ps}{kvs},ï K π n H ps kvs->(fK ps k=b4/\a9 kvs k=b4)\/∃v d,fK ps k=b3 v/\a9 kvs k=b3 d/\Ú K π n H v d
 |_,_,.nil=>.inl ⟨rfl,rfl⟩|_,_,.cons (a:=p) (b:=q) h t=>by
  let a:=ï.val k t;unfold fK a9 at a ⊢;rw[ų,ų,<- h.1];by_cases e:p.1=k
  .dsimp[e,decide_true];show .inr ⟨_,_,rfl,rfl,h.2.2⟩
  .dsimp[e,decide_false];show a
def ï.put(h:ï K π n H ps kvs)k(i:ç K H b (k.map V.int))(g:Ú K π n H v d):ï K π n H (eZ ps k b v) (cC kvs k d):=by
 let e:(fK ps k).isSome=(a9 kvs k).isSome:=by rcases h.val k with⟨h1,c⟩|⟨v,d,h1,c,_⟩<;>rw[h1,c]<;>rfl
 let a:∀{ps:bN}{kvs:jx},ï K π n H ps kvs->ï K π n H (ps.map λp=>if p.1=k then(p.1,p.2.1,v)else p) (kvs.map λp=>if p.1=k then(p.1,d)else p):=by
  intro ps kvs h;unfold ï at h;induction h with
  |nil=>show .nil|@cons p q ps o h t j=>
   rw[ö,ö];show .cons ?_ j;by_cases z:p.1=k
   .rw[if_pos z,if_pos<|h.1.symm.trans z];show⟨h.1,h.2.1,g⟩
   .rw[if_neg z,if_neg λy=>z<|h.1.trans y];show h
 ext eZ cC;rw[e];split
 .show a h
 .show Qd h ⟨rfl,i,g⟩
def jT{kvs:jx}(R:Rp K π H μ)(h:μ[a]?=b3 (.dT kvs)):∃ps,H (π a)=b3 (aT (π a) ps)/\ï K π μ.length H ps kvs:=by let⟨ps,h1,b,c,d⟩:=R.dT a kvs h;show⟨ps,h1,.of b c d⟩
def vV{kvs:jx}(R:Rp K π H μ)(h:μ[a]?=b3 (.dF kvs)):∃ob ps,H (π a)=b3 (.frz ob<|aT (π a) ps)/\ï K π μ.length H ps kvs:=by let⟨ob,ps,h1,b,c,d⟩:=R.dF a kvs h;show⟨ob,ps,h1,.of b c d⟩
def qA(h:Ú K π n H v x)(e:dP x=b3 k):∃b,v=.ref b/\ç K H b (k.map V.int):=by
 have:=vJ e;subst this;cases h with
 |tup q t=>rw[Ħ t]at q;show⟨_,rfl,q⟩
abbrev iR:ME:=λ_ a=>b3 (.loc a.length,a++[.dT []])
def G7(h:ñ)(a:ľ<h.objs.size):à P w H (h.push {cls:=.type "dict",data:=.dict #[]}) h.objs.size (aT h.objs.size []):=
 vU (ws:=[]) (beq_eq_false_iff_ne.mpr<|ð<|Ā a) (ĸ _) .nil<|b4O h
abbrev TZ:TE:=λ_ H Q=>∀p,H p=b4->Q (.ref p) (upd H p<|aT p [])
def GwI:PE X (.Dict [] [] pos) TZ:=λDo s σ H Q I h=>wpAny_Dict_empty ⟨.ref s.heap.objs.size,_,I.laid (a:=s.heap.objs.size) (o:=aT s.heap.objs.size []) (t':=s.toks) (λ_ _ q=>á _ q) (Ø _)<|G7 s.heap I.big,rfl,h _<|I.hok.fresh<|Ø _⟩
def FsI:QE X (.Dict [] [] pos) iR:=⟨eM GwI<|by
 rintro o H Q ⟨j,n,i,d,g,R,E,c,k⟩ p e;ext c;let⟨b,a,h⟩:=R.alloc (c:=.dT []) (o:=aT p []) e ⟨[],rfl,rfl,.nil,.nil⟩;show k _ _ _ b a mM⟩
abbrev vW:D->D->Hm->jk
 |.loc a,y,μ=>match μ[a]? with
  |some (.dT kvs)=>(dP y).bind λk=>(a9 kvs k).map λd=>(d,μ)|some (.dF kvs)=>(dP y).bind λk=>(a9 kvs k).map λd=>(d,μ)|_=>b4
 |_,_,_=>b4
abbrev G8(K:Ô):R2:=λx y H Q=>∃a b ps k v,x=.ref a/\y=.ref b/\Rd H a (aT a ps)/\eN K H ps/\ç K H b (k.map V.int)/\fK ps k=b3 v/\Q v H
def CpI(E:X.A.units+1<Ą)(A:PE X a td)(hi:PE X b ty)(B:Fb b):PE X (.Subscript a b pos) (λσ H Q=>td σ H λx d=>ty σ d λy g=>G8 X.K x y g Q):=by intro c s σ H Q I h;show Fc Ru.lookup B<|aW (A c s σ H _ I h) λu O ⟨x,d,o,M,K⟩=>aW (hi c O σ d _ o K) λJ T ⟨y,g,j,N,a,b,R,k,v,q,w,e,n,z,G,L⟩=>?_;subst q w;obtain rfl:u=Ö a:=M;obtain rfl:J=Ö b:=N;show⟨TQ j e n,TR E j e n z G λY U p i=>⟨v,g,p,i,L⟩⟩
def CdI:eH K vW (G8 K):=by
 intro A H L x y d G I J Q R u w c k;unfold vW at c;split at c
 .split at c
  .rename_i n hc;let⟨h,h1,c⟩:=è.mp c;let⟨B,g,c⟩:=ì.mp c;ext c;ext u;let⟨o,i,T⟩:=jT R hc;let⟨b,rfl,j⟩:=qA w h1;rcases T.val h with⟨_,z⟩|⟨v,E,p,q,s⟩
   .rw[z]at g;ext g
   .rw[q]at g;ext g;show⟨_,b,o,h,v,rfl,rfl,.of i,T.keys,j,p,k A _ H .refl R s⟩
  .rename_i n hc;let⟨h,h1,c⟩:=è.mp c;let⟨B,g,c⟩:=ì.mp c;ext c;ext u;let⟨ob,o,i,T⟩:=vV R hc;let⟨b,rfl,j⟩:=qA w h1;rcases T.val h with⟨_,z⟩|⟨v,E,p,q,s⟩
   .rw[z]at g;ext g
   .rw[q]at g;ext g;show⟨_,b,o,h,v,rfl,rfl,.inr ⟨ob,i⟩,T.keys,j,p,k A _ H .refl R s⟩
  .ext c
 .ext c
def BaI(g:ê k X.A)(c:QE X a ma)(d:QE X b mb)(h:rN b=dI):QE X (.Subscript a b pos) (aA vW ma mb):=⟨eM (CpI (iP g) c.h d.h<|BM h)<|vB CdI⟩
abbrev T7(K:Ô)(td ty tv:TE):TS:=λD σ H=>tv σ H λv d=>td σ d λx g=>ty σ g λy c=>∃a b ps k,x=.ref a/\y=.ref b/\c a=b3 (aT a ps)/\eN K c ps/\ç K c b (k.map V.int)/\ps.length<Ò/\D.nx σ (upd c a<|aT a<|eZ ps k b v)
def T8(K:X.A.units+1<Ą)(G:PE X o td)(hi:PE X i ty)(L:PE X e tv)(J:fj e (b3<|.Subscript o i tpos) pos.line X.env=pure b5):
  PS X (.Assign [.Subscript o i tpos] e pos) (T7 X.K td ty tv):=by
 intro c s d H D I h;show wpAny_Assign_Subscript (aW (L c s d H _ I h) λr Z ⟨v,g,n,T,O⟩=>aW (G c Z d g _ n O) λu s2 ⟨x,j,p,U,Q⟩=>aW (hi c s2 d j _ p Q) λN s3 ⟨y,H3,q,Y,a,b,ps,k,z,A,e,E,B,M,R⟩=>?_) J;subst z A;obtain rfl:u=Ö a:=U;obtain rfl:N=Ö b:=Y;show TX K q e E B M T λs4 w=>⟨d,_,w,R⟩
def T9(hr:ê g X.A)(ho:QE X o mo)(hi:QE X i mi)(he:QE X e me)(h:oP e=dI):QS X (.Assign [.Subscript o i tpos] e pos) (Ca vO mo mi me):=
 ⟨nH (T8 (b0B hr) ho.h hi.h he.h<|BO h)<|by
 rintro E σ H ⟨π,M,μ,fl,ρ',μ',R,p,c,k⟩;show bR c ?_;clear c;intro x j h1 c;show bR c ?_;clear c;intro y n h2 c;show bR c ?_;clear c;intro z I h3 c;let⟨μ4,d,c⟩:=ì.mp c;ext c;show⟨π,M,μ,x,j,R,p,h1,λJ v1 H1 q Y i1=>⟨J,M,j,y,n,Y,p.mono q,h2,λK v2 H2 s R2 i2=>⟨K,M,n,z,I,R2,(p.mono q).mono s,h3,λL v3 H3 u N i3=>?_⟩⟩⟩;cases y with
 |loc a=>
  dsimp[vO]at d;split at d
  .rename_i B hc;let⟨g,h5,d⟩:=è.mp d;split at d
   .rename_i hz;ext d;let A:=i2.mono u;cases A with
    |loc v=>
     let⟨G,Q,T⟩:=jT N hc;let⟨b,rfl,U⟩:=qA i3 h5;let hv:=(i1.mono s).mono u;let T':=T.put g U hv;let⟨g1,g2,g3⟩:=T'.to;let w:G.length<Ò:=by have:=congrArg İ (T.to).1;rw[Ã,Ã]at this;lia
     show⟨_,b,G,g,rfl,rfl,Q,T.keys,U,w,?_⟩;let⟨O,Z⟩:=N.put (c:=.dT (cC B g x)) (o:=aT _ (eZ G g b v1)) v Q (.inr<|.inr ⟨_,rfl⟩) ⟨_,rfl,g1,g2,g3⟩;show k L σ _ (((q.trans s).trans u).trans O) Z<|(((p.mono q).mono s).mono u).mono O
   .ext d
  .ext d
 |_=>simp[vO]at d⟩
abbrev vX(b:Bool):D->D->Hm->jk
 |x,.loc a,μ=>match μ[a]? with
  |some (.dT kvs)=>(dP x).map λk=>(.bl<|if b then !(a9 kvs k).isSome else(a9 kvs k).isSome,μ)|some (.dF kvs)=>(dP x).map λk=>(.bl<|if b then !(a9 kvs k).isSome else(a9 kvs k).isSome,μ)|_=>b4
 |_,_,_=>b4
abbrev Ce(K:Ô)(c:Bool):R2:=λx y H Q=>∃a b ps k,x=.ref b/\y=.ref a/\Rd H a (aT a ps)/\eN K H ps/\ç K H b (k.map V.int)/\Q (.bl<|if c then !(fK ps k).isSome else(fK ps k).isSome) H
def G9(j:X.A.units+1<Ą):đ X (Ķ .In) (Ce X.K b5):=by intro d s z H x y v u Q I n o h;let⟨a,b,p,k,rfl,rfl,e,i,g,q⟩:=h;obtain rfl:v=Ö b:=n;obtain rfl:u=Ö a:=o;show TU j I e i g λw c=>⟨.bl _,H,c,rfl,q⟩
def Ha(j:X.A.units+1<Ą):đ X (Ķ .NotIn) (Ce X.K dI):=by intro d s z H x y v u Q I n o h;let⟨a,b,p,k,rfl,rfl,e,i,g,q⟩:=h;obtain rfl:v=Ö b:=n;obtain rfl:u=Ö a:=o;show TV j I e i g λw c=>⟨.bl _,H,c,rfl,q⟩
def yZ:eH K (vX i) (Ce K i):=by
 intro s H A x y d u w z Q R p q a k;unfold vX at a;split at a
 .split at a
  .rename_i g hc;let⟨c,h1,a⟩:=ì.mp a;ext a;ext q;let⟨j,n,T⟩:=jT R hc;let⟨b,rfl,o⟩:=qA p h1;let e:(fK j c).isSome=(a9 g c).isSome:=by rcases T.val c with⟨h1,h⟩|⟨v,d,h1,h,_⟩<;>rw[h1,h]<;>rfl
   show⟨_,b,j,c,rfl,rfl,.of n,T.keys,o,?_⟩;rw[e];show k s _ H .refl R<|.bl _
  .rename_i g hc;let⟨c,h1,a⟩:=ì.mp a;ext a;ext q;let⟨ob,j,n,T⟩:=vV R hc;let⟨b,rfl,o⟩:=qA p h1;let e:(fK j c).isSome=(a9 g c).isSome:=by rcases T.val c with⟨h1,h⟩|⟨v,d,h1,h,_⟩<;>rw[h1,h]<;>rfl
   show⟨_,b,j,c,rfl,rfl,.inr ⟨ob,n⟩,T.keys,o,?_⟩;rw[e];show k s _ H .refl R<|.bl _
  .ext a
 .ext a
abbrev ý(h:ñ)(d:Addr)(es:Array DictEntry)(ep:Nat):Prop:=∃z,h.get? d=b3 z/\z.ExactDict/\z.data=.dict es ep
def ý.ty{s:Ù}{es ep}(g:ý s.heap d es ep):s.TypeIs (.ref d) "dict":=let⟨z,a,b,_⟩:=g;⟨z,a,b.1⟩
def ý.stay{es ep}(g:ý h d es ep)(k:∀o,h.get? d=b3 o->h'.get? d=b3 o):ý h' d es ep:=let⟨z,a,b⟩:=g;⟨z,k z a,b⟩
def ý.lt{h:ñ}{d:Addr} {es ep} (g:ý h d es ep):d<h.objs.size:=let⟨_,a,_⟩:=g;Þ a
def Hb(lo:(d==ľ)=b5)(g:ý s.heap d es ep)(q:Q (.ref s.heap.objs.size) {s with heap:=s.heap.push {cls:=.type "dict_keyiterator",data:=.fields #[.ref d,.int 0 0,.int es.size 0,.int ep 0]}}):È (Î P w) A (J4<|.ref d) Q E s:=by
 let⟨z,a,c,b⟩:=id g;show OM g.ty F.slot_dict_iter<|Θ F.slot_dict_iter g.ty F.entry_dict_iter ?_<|F.args_dict_iter_1 _;unfold Builtin.«dict.__iter__» b4U;show Á<|Á<|vg g.ty ?_;change È _ _ (pure<|Ö d) _ _ _;show Ê ?_;change È _ _ (nu d >>= _) _ _ _;ext nu;rw[if_neg λx=>ø<|lo.symm.trans x];show Á<|Ê<|Á<|ϐ a b<|Á<|ir a b<|Á<|Ż<|Ê ?_;show⟨_,rfl,"dict_keyiterator",_,⟨_,Ċ _ rfl,rfl⟩,F.slot_dict_keyiterator_next.lookup,by simpa[Ŝ]using q⟩
def y8(v:A.handled=b4)(j:s.heap.IsKeyIter it d i es.size ep)(g:ý s.heap d es ep)(G:∀e a,es[i]?=b3 e->a.IsKeyIter it d (i+1) es.size ep->Κ it s.heap a->Q (b3 e.key) {s with heap:=a})(H:es[i]?=b4->∀a,R4 it s.heap a->Q b4 {s with heap:=a}):È (Î P w) A (š<|.ref it) Q E s:=by
 let⟨y,c,B,b⟩:=id j;let⟨z,n,I,o⟩:=id g;let k:∀{Q:String->Ù->Prop}{A:Ŧ}{E:Value->Ù->Prop},Q "dict_keyiterator" s->È (Î P w) A (OD<|.ref it) Q E s:=λq=>wpAny_typeNameOfWhole_keyiter j.typeIs q;ext š;show Á<|Mw<|vo (name:=ű "__next__") j.typeIs F.slot_dict_keyiterator_next<|Θ F.slot_dict_keyiterator_next j.typeIs F.entry_dict_keyiterator_next ?_<|F.args_dict_keyiterator_next_1 _;show Á<|Ê<|Á<|Á<|Á<|k<|Ê<|Á<|O8 c b ?_;rw[show zy "dict_keyiterator"=b5 by decide,if_neg ø];change È _ _ (if(Ö d==Ŀ)=dI then _ else _) _ _ _;rw[if_neg<|show ¬ (Ö d==Ŀ)=dI from λx=>ø x];show Á<|Ê<|Á<|ϐ n o ?_;rw[if_neg λx=>by simp at x];show Á<|Ê<|Á<|ir n o ?_;rw[if_neg λx=>by simp at x];show Ê ?_;dsimp;rw[if_neg<|show ¬ ((i:Int)<0) by lia,bw];cases p:es[i]? with
 |some e=>
  show Á<|Á<|k<|Ê<|Á<|R6 j.typeIs ?_;change È _ _ (qu (.ref it) 1 (Ŝ<|(i:Int)+1) >>= _) _ _ _;show Á (my c b ∅ ?_);let h:(s.heap.update it<|MX (·.setIfInBounds 1<|Ŝ<|(i:Int)+1)).IsKeyIter it d (i+1) es.size ep:=
   ⟨_,ϓ _ c<|P4<|uo b _,(Om ..).trans B,by simp[uo b,Ŝ]⟩
  generalize hu:s.heap.update it (MX (·.setIfInBounds 1<|Ŝ<|(i:Int)+1))=u at h;show Á<|ł<|Á<|R6 (s:={s with heap:=u}) h.typeIs ?_;change È _ _ (pure e.key) _ _ _;show Ê<|Ê ⟨_,rfl,Ê<|G e u p h<|hu▸ż ..⟩
 |none=>show Á<|Á<|k<|Ê ?_;change È _ _ (qu (.ref it) 0 .none >>= _) _ _ _;show Á (my c b ∅ ?_);change È _ _ (dw (.type "StopIteration") [] >>= _) _ _ _;dsimp[dw,ye];show Á (Á<|Ż ?_<|by size_fits);show Á (m:=gh _ _) (mD (a:=Ŀ) (by first|rfl|(dsimp[gh];rfl))<|Ż ?_<|by size_fits);ext MB;show Á<|Mx ?_;rw[show A.in1.handled=b4 from v];show Á<|Ê<|MR ?thrown;case thrown=>show Á<|mY (T:="StopIteration") (b:=dI) ⟨_,Ċ _ rfl,rfl⟩ MV<|Ê<|H p _<|((ż ..).extBut.push _).push _
def Ua(p:A.handled=b4)(n:d≠it)es ep:Walks P w A it [it,d] [it] es.size (λi v=>∃e,es[i]?=b3 e/\v=e.key) (λi h=>h.IsKeyIter it d i es.size ep/\ý h d es ep) where
 sub:=λb a=>by rw[Ĕ.mp a];show ţ ..
 frame:=λ_ _ _ st k=>⟨st.1.at λo e=>k it ∅ o e,st.2.stay λo e=>k d ∅ o e⟩
 item:=λi s Q E hi st q=>y8 p st.1 st.2 (λe j c y u=>q _ j s.toks ⟨e,c,rfl⟩ ⟨y,st.2.stay λo g=>u.extBut d o n g⟩ λb o a g=>u.extBut b o (λz=>a<|by simp[z]) g) λc=>by simp at c;lia
 done:=λs Q E st q=>y8 p st.1 st.2 (λe j c=>by simp at c) λ_ j x=>q j s.toks λb o a g=>x b o (λz=>a<|by simp[z]) g
 self:=λ_ _ _ _ st q=>Qu st.1 q
def Hc(lo:(d==ľ)=b5):PySem.W.KdlSrc P w "dict" d d es.size (λi v=>∃e,es[i]?=b3 e/\v=e.key) (λh=>ý h d es ep) where
 type:=λ_ g=>g.ty
 there:=λ_ g=>⟨g.lt,g.lt⟩
 keep:=λ_ _ g k=>g.stay λo e=>k d (.inl rfl) o e
 notList:=⋯
 notTuple:=⋯
 hint:=λ_ _ _ _ g q=>PySem.W.kdl_hint_dict g.ty q
 iter:=λ_ _ a g=>⟨_,_,(λ_ _ q=>Hb lo g q),Ua a (Ā g.lt) es ep,⟨⟨_,Ċ _ rfl,rfl,rfl⟩,g.stay λo e=>á _ e⟩⟩
def Ub(lo:(d==ľ)=b5):yd P w (Builtin.«dict.__len__» ⟨[.ref d],[]⟩) (λ_ R s=>∃es ep,ý s.heap d es ep/\R (.ok<|.ret<|.int (es.size:Nat) s.toks) {s with toks:=s.toks+1}):=
 .of_wp λA R s ⟨es,ep,⟨z,a,c,b⟩,q⟩=>by change È _ _ (dictSize d >>= _) _ _ _;ext dictSize;show Á<|Á<|ϐ a b<|Ê ?_;change È _ _ (b4R d >>= _) _ _ _;show Á<|wpAny_pendingCount_other lo<|wpAny_ret_mkInt ?_;rw[Nat.add_zero];show q
def Uc{s:Ù}(lo:(d==ľ)=b5)(g:ý s.heap d es ep)(hz:es.size<=Ò)(q:Q (.int (es.size:Nat)<|s.toks+1) {s with toks:=s.toks+1+1}):È (Î P w) A (call (.builtin "len") [.ref d]) Q E s:=
 b4F g.ty F.slot_dict_len (λb a=>lu F.slot_dict_len g.ty F.entry_dict_len (F.args_dict_len_1 _) (Ub lo) ⟨es,ep,g,a⟩) () (by rw[ò]at hz;lia) q
def Cf:∀{ps}{ws},Å (ps.map (·.2.2)) ws->(cH ps ws).map (λx=>Ö x.2.1)=ps.map λp=>Ö p.2.1
 |[],_,_=>by simp[cH]
 |p::ps,_,.cons r t=>by let a:=Cf (ps:=ps) t;unfold cH at a ⊢;rw[ϔ,ö,ö,a]
def Hd:∀ps:bN,Å (ps.map λp=>V.ref p.2.1) (ps.map λp=>Ö p.2.1)
 |[]=>.nil|p::ps=>.cons rfl<|Hd ps
def vY{σ:St}{ps:bN}(I:Â X Do σ H s)(e:H a=b3 (aT a ps))(g:eN X.K H ps):(a==ľ)=b5/\ps.length<=Ò/\∃es ep,ý s.heap a es ep/\es.toList.map (·.key)=ps.map λp=>Ö p.2.1:=by let⟨i,h,j,r,z,es,ep,h1,b,c,d,_⟩:=lQ I (.of e) g;show⟨i,h,es,ep,⟨z,h1,b,c⟩,?_⟩;rw[d,å,<- Cf r];rfl
abbrev He(K:Ô):gz->Hp->VK->Prop:=λxs H Q=>∃a ps,xs=[V.ref a]/\H a=b3 (aT a ps)/\eN K H ps/\Q (.int ps.length) H
def Ud:Ü X (.builtin "len") (He X.K):=by
 intro Do s σ H v p Q I r h;let⟨a,ps,rfl,c,e,q⟩:=h;let⟨u,rfl,k⟩:=gR r;ext k;let⟨j,o,b,n,g,d⟩:=vY I c e;let i:b.size=ps.length:=by have:=congrArg İ d;apply this
 show Uc j g () ?_;rw[i];show⟨.int ps.length,H,(I.tok _).tok _,⟨_,rfl⟩,q⟩
abbrev Hf(K:Ô):gz->Hp->VK->Prop:=λxs H Q=>∃a ps,xs=[V.ref a]/\H a=b3 (aT a ps)/\eN K H ps/\∀l,H l=b4->Q (.ref l) (upd H l<|.lst<|ps.map λp=>V.ref p.2.1)
def Ue(hc:X.calm=dI):Ü X (.type "list") (Hf X.K):=by
 intro Do s σ H O N Q I r h;let⟨a,ps,rfl,y,z,q⟩:=h;let⟨u,rfl,G⟩:=gR r;ext G;let⟨E,A,o,K,g,d⟩:=vY I y z;let M:o.size=ps.length:=by have:=congrArg İ d;apply this
 show PySem.W.kdl_call (Hc E) (I.ok.hd hc) g () λL J b k B x c=>?_;show⟨.ref s.heap.objs.size,_,I.laid (t':=J) (a:=s.heap.objs.size) (o:=.lst (ps.map λp=>V.ref p.2.1)) B (Ø _) ?_,rfl,q _<|I.hok.fresh<|Ø _⟩;show⟨by rw[Ã];show A,b.toList,k,?_,by apply x⟩;let n:b.toList=ps.map λp=>Ö p.2.1:=by
  rw[<- d];show OX λi=>?_;rw[ÿ,Ϸ,Ϸ];cases j:b[i]? with
  |some v=>let⟨e,h1,w⟩:=c.2 i v j;rw[h1,w];rfl|none=>
   have:b.size<=i:=by apply j
   rw[Ot<|by rw[<- c.1];show this];rfl
 rw[n];show Hd ps
def Ug(n:ê k X.A)(g:QE X a ma)(j:QE X b mb)(h:rN b=dI):QE X (.Subscript a b pos) (aA bF ma mb):=
 rP (BaI n g j h) (b0v g j h)<|kN λx y p r c=>by
  unfold bF at c;split at c
  .split at c
   .rename_i d hc;show .inl ?_;dsimp[vW,hc];show c
   .rename_i d hc;show .inl ?_;dsimp[vW,hc];show c
   .show .inr c
  .show .inr c
abbrev tW(c:Bool):D->D->Hm->jk:=λx y d=>match vX c x y d with
 |some r=>b3 r|none=>rQ c x y d
def zA x y d r(h:tW c x y d=b3 r):vX c x y d=b3 r\/rQ c x y d=b3 r:=by
 unfold tW at h;split at h
 .rename_i z;rw[z];show .inl h
 .show .inr h
def Hg x y n r(h:eD g x y n=b3 r):(∃i j,x=.str i/\y=.str j)\/tW g x y n=b3 r:=by
 cases y with
 |loc a=>
  show .inr ?_;let e:eD g x (.loc a) n=(match n[a]? with
   |some (.dT d)=>(dP x).map λk=>(D.bl<|if g then !(a9 d k).isSome else(a9 d k).isSome,n)|some (.dF d)=>(dP x).map λk=>(D.bl<|if g then !(a9 d k).isSome else(a9 d k).isSome,n)
   |_=>rQ g x (.loc a) n):=by ext x<;>rfl
  rw[e]at h;ext tW;dsimp[vX];cases hc:n[a]? with
  |none=>rw[hc]at h;show h|some c=>
   rw[hc]at h;cases c with
   |dT d=>dsimp at h ⊢;rw[h]|dF d=>dsimp at h ⊢;rw[h]|_=>show h
 |str j=>
  cases x with
  |str i=>show .inl ⟨i,j,rfl,rfl⟩|_=>show .inr h
 |_=>ext x<;>show .inr h
def Hh x y c r(h:eD b5 x y c=b3 r):BI x y c=b3 r\/tW b5 x y c=b3 r:=by
 rcases Hg x y c r h with⟨i,j,rfl,rfl⟩|z
 .show .inl h
 .show .inr z
def Hi x y c r(h:eD dI x y c=b3 r):BX x y c=b3 r\/tW dI x y c=b3 r:=by
 rcases Hg x y c r h with⟨i,j,rfl,rfl⟩|z
 .show .inl h
 .show .inr z
def Uh(g:ê k X.A)(c:QE X a ma)(d:QE X b mb)(h:i8 b=dI):QE X (.Compare a [.In] [b] pos) (aA (eD b5) ma mb):=
 rP ⟨iK EL FZ c.h d.h<|lJ h⟩ (rP ⟨iK (G9<|iP g) yZ c.h d.h<|lJ h⟩ ⟨iK (Gq<|yL g) yJ c.h d.h<|lJ h⟩<|kN zA)<|kN Hh
def Ui(g:ê k X.A)(c:QE X a ma)(d:QE X b mb)(h:i8 b=dI):QE X (.Compare a [.NotIn] [b] pos) (aA (eD dI) ma mb):=
 rP ⟨iK Fj Gu c.h d.h<|lJ h⟩ (rP ⟨iK (Ha<|iP g) yZ c.h d.h<|lJ h⟩ ⟨iK (Gs<|yL g) yJ c.h d.h<|lJ h⟩<|kN zA)<|kN Hi
def Uj(g:ê k X.A)(c:QE X a ma)(d:QE X b mb)(h:i8 b=dI):QT X (.Compare a [.In] [b] pos) (a7<|aA (eD b5) ma mb):=
 tL ⟨iL EL FZ c.h d.h<|lJ h⟩ (tL ⟨iL (G9<|iP g) yZ c.h d.h<|lJ h⟩ ⟨iL (Gq<|yL g) yJ c.h d.h<|lJ h⟩<|tP<|kN zA)<|tP<|kN Hh
def Uk(g:ê k X.A)(c:QE X a ma)(d:QE X b mb)(h:i8 b=dI):QT X (.Compare a [.NotIn] [b] pos) (a7<|aA (eD dI) ma mb):=
 tL ⟨iL Fj Gu c.h d.h<|lJ h⟩ (tL ⟨iL (Ha<|iP g) yZ c.h d.h<|lJ h⟩ ⟨iL (Gs<|yL g) yJ c.h d.h<|lJ h⟩<|tP<|kN zA)<|tP<|kN Hi
def Ul(g:ê k X.A)(d:QE X o mo)(hi:QE X i mi)(c:QE X e me)(h:oP e=dI):QS X (.Assign [.Subscript o i tpos] e pos) (eJ mo mi me):=T9 g d hi c h
abbrev jU(x y:D):gT:=λa i=>(bO a x).bind λxs=>(bO a y).map λb=>(xs[i]?).bind λd=>(b[i]?).map λe=>.tup [d,e]
def Hj(R:Rp K π H j)(h:Ú K π j.length H v x)(k:eW j x=b3 xs):∃p,v=.ref p/\(∃vs,Ĉ K H p vs) /\
  ∀c a d,õ π j.length H c a.length d->Rp K c d a->∀i,bO a x=b3 i->∃g,Ĉ K d p g/\Ç K c a.length d g i:=by
 let⟨p,vs,rfl,w,_⟩:=rV R h k;show⟨p,rfl,⟨vs,w⟩,λc a d e o i n=>?_⟩;let u:eW a x=b3 i:=by
  cases x with
  |rol A=>show n|loc b=>show n|_=>ext k
 let⟨z,g,s,y,q⟩:=rV o (h.mono e) u;ext s;show⟨g,y,q⟩
def Um:yq (.type "tuple") "keys"=pure none:=by rw[OC,Oz];kernel_rfl
def Uo(g:s.heap.get? a=b3 o)(j:o.cls=.type "tuple")(n:o.data=.seq xs k)(p:o.dict=b4)(hA:A.handled=b4)(q:∀h v,(∀b u,s.heap.get? b=b3 u->h.get? b=b3 u)->Q b4 {s with heap:=h,toks:=v}):È (Î P w) A (getAttr? (.ref a) "keys") Q E s:=by
 let⟨c,y,x,I⟩:=o;dsimp at j n p;subst j n p;let⟨G,B,z,v,H⟩:=s;let ty:∀d,(⟨G,B,z,d,H⟩:Ù).TypeIs (.ref a) "tuple":=λ_=>⟨_,g,rfl⟩;let J:=sub_AttributeError;let K:=F.slot_tuple_getattribute.lookup;let L:=F.slot_tuple_getattribute.bind<|.ref a;let M:=am_tuple_getattr_none;unfold getAttr? getAttrBy? getAttrBy;repeat (any_goals (first|assumption|show ty _|((with_reducible change È _ _ (call (Ϟ "tuple.__getattribute__") _ _) _ _ _);show yg F.slot_tuple_getattribute (ty _) am_entry_tuple_getattribute (F.args_tuple_getattribute_2 _ _) (meets_getattribute_miss_tuple a xs k I "keys" _ Um<|by decide +kernel) ⟨g,hA,λh d e ne=>?_⟩)|wp_step))
 let⟨N,O,i⟩:=ne.there;change È _ _ (Qh _ _ _ _ b4 b5 b5) _ _ _;ext Qh;repeat (any_goals (first|assumption|wp_step))
 show q _ _ ne.of.keeps
def Hk:entryFor table "dict.update.loop"=b3 Builtin.«dict.update.loop»:=entryFor_of_tree ""
def zB:plainId "dict.update.loop"=true:=by decide +kernel
abbrev r6(ps:bN):List (Addr×List Int×Addr×V)->bN
 |[]=>ps|r::L=>r6 (eZ ps r.2.1 r.2.2.1 r.2.2.2) L
def Up{σ:St}{ps:bN}(G:A.units<Ą)(I:Â X Do σ H s)(e:H d=b3 (aT d ps))(y:eN X.K H ps)(w:ç X.K H b (k.map V.int))(hz:ps.length<Ò)(L:Í v u)(h:∀i,Â X Do σ (upd H d<|aT d<|eZ ps k b v) i->(∀c o,c≠d->s.heap.get? c=b3 o->i.heap.get? c=b3 o)->Q Unit.unit i):È (Î X.prog X.w) A (dictSet d (.ref b) u) Q E s:=by
 let⟨B,O,M,r,j⟩:=lQ I (.of e) y;let J:(cH ps M).length<=Ò:=by have:=congrArg İ<|oT r;rw[Ã,Ã]at this;lia
 show wpAny_dictSet_heap (hsz:=J) (show(Ϛ<|ŵ X.prog X.w).room A from G) (nN I w) j λp g a=>h _ ?_ λc o hc e=>a.extBut c o hc e;let⟨N,K,n⟩:=yY r k b L;rw[n]at g;let x:∃q,p.get? d=b3 q:=let⟨q,_,_,z,_⟩:=g;⟨q,z⟩;show xM I (by rw[e];show ϯ) a x<|vU B (by have:=vT ps k b v;lia) K g
def vZ{ps:bN}(e:H d=b3 (aT d ps))(h:ç K H b vs):ç K (upd H d o) b vs:=by
 let ne:∀{u},H b=b3 u->(∀a,u≠aT d a)->b≠d:=λz f y=>by rw[y,e]at z;ext z;show f ps rfl
 rcases h with(h|⟨ob,h⟩)|h
 .show .inl<|.inl<|by rw[bQ<|ne h λ_ z=>by ext z];show h
 .show .inl<|.inr ⟨ob,by rw[bQ<|ne h λ_ z=>by ext z];show h⟩
 .show .inr h
def Uq(h:eN K H ps)(g:ç K H b (k.map V.int)):eN K H (eZ ps k b v):=by
 intro p a;unfold eZ at a;split at a
 .let⟨d,c,e⟩:=Õ.mp a;by_cases z:d.1=k
  .rw[if_pos z]at e;subst e;show h d c
  .rw[if_neg z]at e;subst e;show h d c
 .rcases ĩ.mp a with a|a
  .show h p a
  .rw[Ĕ.mp a];show g
def Hl:upd (upd H d o) d a=upd H d a:=by
 funext b;ext upd;split
 .rfl
 .rfl
def Ur{Q:gw->Ù->Prop}(h:J3 s.heap p xs)(q:Q xs.toList s):È (Î P w) A (SM<|.ref p) Q E s:=by let⟨o,g,c,n,a⟩:=h;let ty:s.TypeIs (.ref p) "tuple":=⟨o,g,c⟩;ext SM;show Á<|yx ty ?_;rw[if_pos ⋯];ext fc;show Á<|Á<|MH g ?_;rw[a];show Ê<|Ê q
def Us{σ:St}(hh:A.handled=b4)(hu:A.in1.units<Ą):∀L i(ps:bN)H s,Â X Do σ H s->H d=b3 (aT d ps)->eN X.K H ps->ç X.K H t ys->ys.drop i=L.map (λr=>V.ref r.1)->
  (∀r∈L,ç X.K H r.1 [.ref r.2.2.1,r.2.2.2]/\ç X.K H r.2.2.1 (r.2.1.map V.int))->kF X Do H it->s.heap.IsTupleIter it t i->ps.length+L.length<=Ò->
  (∀G,Â X Do σ (upd H d<|aT d<|r6 ps L) G->R (.ok<|.ret .none) G)->ι (Î X.prog X.w) A (.builtin "dict.update.loop" ⟨[.ref d,.ref it,Ŝ i,.none],[]⟩) R s:=by
 intro L;induction L with
 |nil=>
  intro i ps H s I e O y hd B N st T q;let⟨its,Z,p,U⟩:=I.tuple y;let⟨h,k,f2,n,v,w⟩:=N;let hl:=Z.length;let hlen:ys.length<=i:=by have:=congrArg İ hd;simp at this;lia
  show ϲ Hk ?_;rw[϶ zB _];change È _ A.in1 (š (.ref it) >>= _) _ _ s;show Á (Qm hh st (show s.heap.IsTuple t its.toArray from p) (by simp;lia) λJ eb=>?_);let j:Â X Do σ H {s with heap:=J}:=I.turned (t':=s.toks) (λb o K e=>eb b o K e) h k n v w;change È _ _ (SF d [] >>= _) _ _ _;show Á<|Ê<|Ê<|q _ ?_;have:upd H d (aT d<|r6 ps [])=H:=by
   funext b;ext upd;split
   .rename_i z;rw[z];show e.symm
   .rfl
  rw[this];show j
 |cons r L ih=>
  intro i ps H s I e O y hd B N st T q;let⟨its,Z,p,U⟩:=I.tuple y;let⟨h,k,f2,n,v,w⟩:=id N;let E:ys[i]?=b3 (.ref r.1):=by have:=congrArg (·[0]?) hd;apply this
  let⟨u,iP,ru⟩:=Z.get E;ext ru;show ϲ Hk ?_;rw[϶ zB _];change È _ A.in1 (š (.ref it) >>= _) _ _ s;show Á (Qs st (show s.heap.IsTuple t its.toArray from p) (x:=.ref r.1) (by apply iP) λJ st' sb=>?_);let j:Â X Do σ H {s with heap:=J}:=I.turned (t':=s.toks) (λb o K e=>(sb.2 b K).trans e) h k n v w;let a:=B r<|ţ ..;let⟨its2,rv2,p2,_⟩:=j.tuple a.1;cases rv2 with
  |cons rk Y=>
   cases Y with
   |cons rw' Y=>
    ext Y;ext rk;rename_i w0;show Á<|ł<|Á<|nA<|Ur p2 ?_;let Q:ps.length<Ò:=by rw[Ŋ]at T;lia
    show ł<|Up hu j e O a.2 Q rw' λG I2 kp=>?_;show Ê ⟨ϝ zB _,?_⟩;let bX:it≠d:=λz=>by rw[<- z,h]at e;ext e
    let c:∀x∈L,ç X.K (upd H d<|aT d<|eZ ps r.2.1 r.2.2.1 r.2.2.2) x.1 [.ref x.2.2.1,x.2.2.2]/\ç X.K (upd H d<|aT d<|eZ ps r.2.1 r.2.2.1 r.2.2.2) x.2.2.1 (x.2.1.map V.int):=λx E=>⟨vZ e (B x<|ŏ _ E).1,vZ e (B x<|ŏ _ E).2⟩;let M:ys.drop (i+1)=L.map (λr=>V.ref r.1):=by have:=congrArg List.tail hd;simpa[List.tail_drop]using this
    show ih (i+1) (eZ ps r.2.1 r.2.2.1 r.2.2.2) _ G I2 dU (Uq (λp hp=>vZ e<|O p hp)<|vZ e a.2) (vZ e y) M c ⟨by rw[bQ bX];show h,k,f2,n,v,w⟩ (st'.at λo ho=>kp it o bX ho) ?_ λs'' g=>q s'' ?_
    .have:=vT ps r.2.1 r.2.2.1 r.2.2.2;rw[Ŋ]at T;lia
    .rw[Hl]at g;show g
abbrev Hn(K:Ô):gz->Hp->VK->Prop:=λxs H Q=>∃(t:Addr)(L:List (Addr×List Int×Addr×V)),xs=[V.ref t]/\ç K H t (L.map λr=>V.ref r.1) /\
 (∀r∈L,ç K H r.1 [.ref r.2.2.1,r.2.2.2]/\ç K H r.2.2.1 (r.2.1.map V.int))/\∀d,H d=b4->Q (.ref d) (upd H d<|aT d<|r6 [] L)
def Ut(hc:X.calm=dI)(Y:X.A.units+64<Ą):Ü X (.type "dict") (Hn X.K):=by
 intro d s N H xs us Q I r h;let⟨t,L,rfl,x,M,k⟩:=h;let⟨u,rfl,ru⟩:=gR r;ext ru;let K:H s.heap.objs.size=none:=I.hok.fresh<|Ø _;show Pf (Q₁:=λi c=>i=.ref s.heap.objs.size/\c={s with heap:=s.heap.push {cls:=.type "dict",data:=.dict #[]}}) F.kt_called_dict (F.kt_typeCall_dict_1 _) F.entry_dict_init (kt_code_dict_new _ ⟨rfl,rfl⟩) ?_;rintro i c ⟨rfl,rfl⟩;let E:Â X d N (upd H s.heap.objs.size<|aT s.heap.objs.size []) {s with heap:=s.heap.push {cls:=.type "dict",data:=.dict #[]}}:=I.laid (a:=s.heap.objs.size) (o:=aT s.heap.objs.size []) (t':=s.toks) (λ_ _ q=>á _ q) (Ø _)<|G7 s.heap I.big;let ty:({s with heap:=s.heap.push {cls:=.type "dict",data:=.dict #[]}}:Ù).TypeIs (.ref s.heap.objs.size) "dict":=⟨_,Ċ _ rfl,rfl⟩;show⟨ty,F.args_dict_init_2 _ _,?_⟩;unfold Builtin.«dict.__init__»;show Á ?_;ext SG;show Á<|vg ty ?_;change È _ _ (pure (s.heap.objs.size,[Ö t])) _ _ _;show Ê ?_;change È _ _ (NV "dict.__init__" s.heap.objs.size (.ref t) [] .none) _ _ _;ext NV;let mono:∀{b:Addr}{vs:gz},ç X.K H b vs->ç X.K (upd H s.heap.objs.size<|aT s.heap.objs.size []) b vs:=λ{b vs} z=>by
  let ne:H b≠b4->b≠s.heap.objs.size:=λf y=>by rw[y]at f;show f K
  rcases z with(z|⟨ob,z⟩)|z
  .show .inl<|.inl<|by rw[bQ<|ne<|by rw[z];show λy=>nomatch y];show z
  .show .inl<|.inr ⟨ob,by rw[bQ<|ne<|by rw[z];show λy=>nomatch y];show z⟩
  .show .inr z
 let⟨its,rv,ob,G,J,n,R,T⟩:=E.tupN<|mono x;show Á<|yx ⟨ob,G,J⟩ ?_;rw[if_pos ⋯];show Á<|Uo G J R T (I.ok.hd hc) λw v Z=>?_;let j:Â X d N (upd H s.heap.objs.size<|aT s.heap.objs.size []) {s with heap:=w,toks:=v}:=E.kept (t':=v) Z;change È _ _ (rule _ >>= _) _ _ _;show Á<|ϛ ?_;let⟨a,rv',p',A⟩:=j.tuple<|mono x;show Á<|um (t:=t) (items:=a.toArray) (show({s with heap:=w,toks:=v}:Ù).heap.IsTuple t a.toArray from p') ?_;let O:=j.kept (t':=v) (h':=w.push {cls:=.type "tuple_iterator",data:=.fields #[.ref t,.int 0 0]}) λb o e=>á _ e;show Ê ⟨ϝ zB _,?_⟩;show Us (A:=X.A.in1) (I.ok.hd hc) ?_ L 0 [] _ _ O dU (λp U=>nomatch U) (mono x) rfl (λr g=>⟨mono (M r g).1,mono (M r g).2⟩) (j.fpOk (Ø _)<|j.hok.fresh<|Ø _) ⟨_,Ċ _ rfl,rfl,rfl⟩ ?_ λs' B=>?_
 .change X.A.units+1+1<Ą;lia
 .have:=A;simp at this ⊢;show this
 .rw[Hl]at B;show⟨rfl,.ref s.heap.objs.size,_,B,rfl,k _ K⟩
abbrev tX:List D->Option (jx)
 |[]=>b3 []|.tup [x,v]::r=>(dP x).bind λk=>(tX r).map λl=>(k,v)::l|_::_=>b4
abbrev r8:MF:=λds a=>match ds with
 |[.tup xs]=>(tX xs).map λl=>(.loc a.length,a++[.dT<|l.foldl (λq p=>cC q p.1 p.2) []])|_=>b4
noncomputable abbrev Ho(K:Ô)(π:Nat->Addr)(n:Nat)(H:Hp):List (Addr×List Int×Addr×V)->jx->Prop:=
 Ρ λr p=>r.2.1=p.1/\ç K H r.1 [.ref r.2.2.1,r.2.2.2]/\ç K H r.2.2.1 (r.2.1.map V.int)/\Ú K π n H r.2.2.2 p.2
def Hq:∀{xs}{ws}{l},Ç K π n H ws xs->tX xs=b3 l->∃L,ws=L.map (λr=>V.ref r.1)/\Ho K π n H L l
 |[],_,_,.nil,h=>by ext h;show⟨[],rfl,.nil⟩
 |x::xs,_,l,.cons i t,h=>by
  unfold tX at h;split at h
  .rename_i a;ext a
  .rename_i y v r a;ext a;let⟨k,d,h⟩:=è.mp h;let⟨o,e,rfl⟩:=ì.mp h;let⟨L,rfl,P⟩:=Hq t e;cases i with
   |tup q z=>
    cases z with
    |cons g z=>
     cases z with
     |cons j z=>ext z;let⟨b,rfl,c⟩:=qA g d;show⟨(_,k,b,_)::L,rfl,.cons ⟨rfl,q,c,j⟩ P⟩
  .ext h
def Hr:∀{L}{l},Ho K π n H L l->∀{ps}{kvs},ï K π n H ps kvs->ï K π n H (r6 ps L) (l.foldl (λq p=>cC q p.1 p.2) kvs)
 |_,_,.nil,_,_,h=>h|r::L,p::l,.cons e t,ps,kvs,h=>by let⟨a,_,b,c⟩:=e;change ï K π n H (r6 (eZ ps r.2.1 r.2.2.1 r.2.2.2) L) (l.foldl _<|cC kvs p.1 p.2);rw[<- a];show Hr t<|h.put r.2.1 b c
def Uu:eY K r8 (Hn K):=by
 intro w H v n d o u Q R i b k;unfold r8 at b;split at b
 .rename_i n;let⟨l,h1,h⟩:=ì.mp b;ext h;cases i with
  |cons i t=>
   ext t;cases i with
   |tup q z=>
    let⟨L,rfl,P⟩:=Hq z h1;show⟨_,L,rfl,q,?_,λd hd=>?_⟩
    .clear q z k h1 b;induction P with
     |nil=>show λr a=>nomatch a|cons e t j=>
      intro r a;rcases Č.mp a with rfl|a
      .show⟨e.2.1,e.2.2.1⟩
      .show j r a
    .have T:=Hr P (ps:=[]) (kvs:=[]) .nil;let⟨g,c,s⟩:=R.alloc (c:=.dT (l.foldl (λq p=>cC q p.1 p.2) [])) (o:=aT d (r6 [] L)) hd ⟨_,rfl,T.to.1,T.to.2.1,T.to.2.2⟩;show k _ _ _ g c mM
 .ext b
abbrev wu(h:ñ)(c d S:Addr)(i n ep:Nat):Prop:=∃(b ok g:Value)(e:Bool),h.get? c=b3 {cls:=.type "dict_itemiterator",dict:=b4,data:=.fields #[b,.bool e,.ref d,.int i 0,.int n 0,.int ep 0,ok,g],slots:=#[]} /\
 (b=.none\/∃(a:Addr)(o:Obj),b=Ŝ a/\h.get? a=b3 o/\a≠c/\a≠S)
def wu.stay{i n ep}(j:wu h c d S i n ep)(q:c≠S)(k:∀b o,b≠S->h.get? b=b3 o->h'.get? b=b3 o):wu h' c d S i n ep:=by
 let⟨x,ok,s,p,e,r⟩:=j;show⟨x,ok,s,p,k _ _ q e,?_⟩;rcases r with r|⟨a,o,u,v,w,g⟩
 .show .inl r
 .show .inr ⟨a,o,u,k _ _ g v,w,g⟩
def Cg{i ep:Nat}(hh:A.handled=b4)(H:s.heap.get? it=b3 {cls:=.type "dict_itemiterator",dict:=b4,data:=.fields #[y,.bool O,.ref d,.int i 0,.int es.size 0,.int ep 0,ok,J],slots:=#[]})(jr:y=.none\/∃(a:Addr)(o:Obj),y=Ŝ a/\s.heap.get? a=b3 o/\a≠it/\a≠S)(g:ý s.heap d es ep)(hS:S<s.heap.objs.size)(q1:∀e j,es[i]?=b3 e->wu j it d S (i+1) es.size ep->(y=.none->MZ j it d (i+1) es.size ep e.key e.val s.heap.objs.size)->j.get? s.heap.objs.size=b3 {cls:=.type "tuple",data:=.seq #[e.key,e.val]}->j.objs.size=s.heap.objs.size+1->(∀b o,b≠it->s.heap.get? b=b3 o->j.get? b=b3 o)->Q (b3<|.ref s.heap.objs.size) {s with heap:=j})(q2:es[i]?=b4->∀j,R4 it s.heap j->Q b4 {s with heap:=j}):È (Î P w) A (š<|.ref it) Q E s:=by
 let⟨z,g1,g2,g3⟩:=id g;let ty:s.TypeIs (.ref it) "dict_itemiterator":=⟨_,H,rfl⟩;let⟨c,G,B,K,I⟩:=s;let Y:∀{Q:String->Ù->Prop}{A:Ŧ}{E:Value->Ù->Prop},Q "dict_itemiterator" ⟨c,G,B,K,I⟩->È (Î P w) A (OD<|.ref it) Q E ⟨c,G,B,K,I⟩:=λq=>wpAny_typeNameOfWhole_itemiter ty q;ext š;show Á<|Mw<|vo (name:=ű "__next__") ty F.slot_dict_itemiterator_next<|Θ F.slot_dict_itemiterator_next ty F.entry_dict_itemiterator_next ?_<|F.args_dict_itemiterator_next_1 _;show Á<|Ê<|Á<|Á<|Á<|Y<|Ê<|Á<|O8 H rfl ?_;rw[show zy "dict_itemiterator"=dI by decide,if_pos rfl];change È _ _ (if(Ö d==Ŀ)=dI then _ else _) _ _ _;rw[if_neg<|show ¬ (Ö d==Ŀ)=dI from λx=>ø x];show Á<|Ê<|Á<|ϐ g1 g3 ?_;rw[if_neg λx=>by simp at x];show Á<|Ê<|Á<|ir g1 g3 ?_;rw[if_neg λx=>by simp at x];show Ê ?_;dsimp;rw[if_neg<|show ¬ ((i:Int)<0) by lia,bw];let X:it<c.objs.size:=Þ H;cases he:es[i]? with
 |some e=>
  show Á<|Á<|Y<|Ê<|Á<|P2 ty ?_;change È _ _ (qu (.ref it) 3 (Ŝ<|(i:Int)+1) >>= _) _ _ _;show Á (ϻ H ∅ λu T U=>?_);replace U:Κ it c u:=U;replace T:u.get? it=b3 {cls:=.type "dict_itemiterator",dict:=b4,data:=.fields #[y,.bool O,.ref d,.int ((i+1:Nat):Int) 0,.int es.size 0,.int ep 0,ok,J],slots:=#[]}:=by rw[show((i+1:Nat):Int)=(i:Int)+1 by lia];simpa[Ŝ]using T
  let L:Shared.TypeIs ⟨u,G,B,K,I⟩ (.ref it) "dict_itemiterator":=⟨_,T,rfl⟩;show Á<|ł<|Á<|P2 L<|Á<|P2 L ?_;change È _ _ (SV (.ref it) 6 e.key e.val) _ _ _;ext SV;show Á<|MW ?_;let zu:u.objs.size=c.objs.size:=U.1;let k:=á {cls:=.type "tuple",data:=.seq #[e.key,e.val]} T;let vt:(u.push {cls:=.type "tuple",data:=.seq #[e.key,e.val]}).get? c.objs.size=b3 {cls:=.type "tuple",data:=.seq #[e.key,e.val]}:=zu▸Ċ u rfl;let vz:(u.push {cls:=.type "tuple",data:=.seq #[e.key,e.val]}).objs.size=c.objs.size+1:=by rw[ϒ,zu]
  let M:∀b o,b≠it->c.get? b=b3 o->(u.push {cls:=.type "tuple",data:=.seq #[e.key,e.val]}).get? b=b3 o:=λb o R x=>á _<|U.extBut b o R x;change È _ _ (Sg (.ref it) >>= _) _ _ ⟨u.push {cls:=.type "tuple",data:=.seq #[e.key,e.val]},G,B,K,I⟩;rw[zu];generalize u.push {cls:=.type "tuple",data:=.seq #[e.key,e.val]}=v at k vt vz M;let h:c.objs.size≠it:=Ţ X;let fin:∀n:ñ,wu n it d S (i+1) es.size ep->(y=.none->MZ n it d (i+1) es.size ep e.key e.val c.objs.size)->Κ it v n->Q (b3<|.ref c.objs.size) ⟨n,G,B,K,I⟩:=λn j' jo sb=>q1 e n he j' jo (sb.extBut _ _ h vt) (by change n.objs.size=_;rw[sb.1,vz]) λb o R x=>sb.extBut b o R<|M b o R x;show Á ?_;ext Sg;rcases jr with rfl|⟨a,o,rfl,Z,p,r4⟩
  .show Á<|Φ k rfl (x:=.none) rfl<|Ê ?_;dsimp[if_true];show Á<|Φ k rfl (x:=ok) rfl<|Á<|Φ k rfl (x:=J) rfl ?_;show Á (ϻ k ∅ λv3 x3 N=>Á<|ϻ x3 ∅ λv4 x4 y4=>Á<|ϻ x4 ∅ λv5 x5 y5=>Á<|ϻ x5 ∅ λv6 x6 y6=>?_);let x7:MZ v6 it d (i+1) es.size ep e.key e.val c.objs.size:=x6;show Á<|bh<|Ê<|Ê ⟨_,rfl,Ê<|fin v6 ?_ (λ_=>x7) ?_⟩
   .show⟨Ŝ c.objs.size,e.key,e.val,b5,x7,.inr ⟨c.objs.size,_,rfl,y6.extBut _ _ h<|y5.extBut _ _ h<|y4.extBut _ _ h<|N.extBut _ _ h vt,h,Ţ hS⟩⟩
   .show((N.trans y4).trans y5).trans y6
  .show Á<|Φ k rfl (x:=Ŝ a) rfl ?_;change È _ _ (loadIfAlive ((a:Int).toNat) >>= _) _ _ _;rw[bw];show Á<|PySem.W.kdx_alive (M a o p Z) ?_;dsimp[Option.isNone_some,ŀ,if_false];show Á<|Φ k rfl (x:=.bool O) rfl ?_;cases O with
   |true=>rw[if_neg<|show ¬ ((Η dI != Η dI)=dI)from λx=>ø x];show Ê ?_;dsimp[ŀ,if_false];show Ê (Ê ⟨_,rfl,Ê<|fin v ⟨_,ok,J,dI,k,.inr ⟨a,o,rfl,M a o p Z,p,r4⟩⟩ (λz=>nomatch z)<|NF _ _⟩)|false=>rw[if_pos<|show(Η b5 != Η dI)=dI from rfl];show Á (ϻ k ∅ λv3 x3 N=>Ê ?_);dsimp[ŀ,if_false];show Ê<|Ê ⟨_,rfl,Ê<|fin v3 ⟨_,ok,J,dI,by apply x3,.inr ⟨a,o,rfl,N.extBut a o p<|M a o p Z,p,r4⟩⟩ (λz=>nomatch z) N⟩
 |none=>show Á<|Á<|Y<|Ê ?_;change È _ _ (qu (.ref it) 2 .none >>= _) _ _ _;show Á (my H rfl ∅ ?_);change È _ _ (dw (.type "StopIteration") [] >>= _) _ _ _;dsimp[dw,ye];show Á (Á<|Ż ?_<|by size_fits);show Á (m:=gh _ _) (mD (a:=Ŀ) (by first|rfl|(dsimp[gh];rfl))<|Ż ?_<|by size_fits);ext MB;show Á<|Mx ?_;rw[show A.in1.handled=b4 from hh];show Á<|Ê<|MR ?thrown;case thrown=>show Á<|mY (T:="StopIteration") (b:=dI) ⟨_,Ċ _ rfl,rfl⟩ MV<|Ê<|q2 he _<|((ż ..).extBut.push _).push _
def Hs(a:s.heap.IsItemsView r d)(g:ý s.heap d es ep)(q:Q (.ref s.heap.objs.size) {s with heap:=s.heap.push {cls:=.type "dict_itemiterator",data:=.fields #[.none,.bool b5,.ref d,.int 0 0,.int es.size 0,.int ep 0,.none,.none]}}):È (Î P w) A (J4<|.ref r) Q E s:=by
 let⟨y,e,k,h⟩:=id a;let⟨z,b,j,c⟩:=id g;show OM a.typeIs F.slot_dict_items_iter<|Θ F.slot_dict_items_iter a.typeIs F.entry_dict_items_iter ?_<|F.args_dict_items_iter_1 _;unfold Builtin.«dict_items.__iter__» Sb SU;show Á<|Ê<|Á<|Á<|Φ e h (x:=.ref d) rfl<|Ê<|Á<|Á<|ϐ b c<|Á<|ir b c ?_;dsimp[show zy "dict_itemiterator"=dI by decide,if_true];show Ż (Ê ⟨_,rfl,"dict_itemiterator",_,⟨_,Ċ _ rfl,rfl⟩,F.slot_dict_itemiterator_next.lookup,?_⟩) (by dsimp[sizeOk,Sf,ģ,ć,Ŋ,ut];rw[ò];lia);simpa[Ŝ,Sf]using q
structure ċ(es:Array DictEntry)(lo:Addr)(h:ñ)(as:List Addr):Prop where
 up:as.Pairwise (·<·)
 over:∀a∈as,lo<a
 prs:∀(j:Nat)(a:Addr),as[j]?=b3 a->∃e,es[j]?=b3 e/\h.get? a=b3 {cls:=.type "tuple",data:=.seq #[e.key,e.val]}
def ċ.stay(p:ċ es lo h as)(k:∀b o,lo<b->h.get? b=b3 o->h'.get? b=b3 o):ċ es lo h' as:=
 ⟨p.up,p.over,λj a c=>let⟨e,d,g⟩:=p.prs j a c;⟨e,d,k a _ (p.over a<|ķ c) g⟩⟩
def ċ.lt{es:Array DictEntry}{lo:Addr}{h:ñ}{as:List Addr}(p:ċ es lo h as){a:Addr}(b:a∈as):a<h.objs.size:=by let⟨j,c⟩:=zj.mp b;let⟨_,_,e⟩:=p.prs j a c;show Þ e
def ċ.snoc(p:ċ es lo h as)(i:∀a∈as,a<b)(n:lo<b)(k:es[as.length]?=b3 e)(o:h.get? b=b3 {cls:=.type "tuple",data:=.seq #[e.key,e.val]}):ċ es lo h (as++[b]):=by
 show⟨List.pairwise_append.mpr ⟨p.up,Ov _ _,λa d c hc=>by rw[Ĕ.mp hc];show i a d⟩,λa d=>?_,λj a g=>?_⟩
 .rcases ĩ.mp d with d|d
  .show p.over a d
  .rw[Ĕ.mp d];show n
 .rcases Ol j as.length with h1|h1|h1
  .rw[ϕ h1]at g;show p.prs j a g
  .subst h1;have:b=a:=by apply g
   subst this;show⟨e,k,o⟩
  .rw[cj<|by simp;lia]at g;ext g
def Uv{s:Ù}(U:A.handled=b4)(y:S<I)(K:d≠S)(J:d≠I)(hn:es.size<=Ò)res{h1:ñ}(X:∀h' tk acc c as,(∀b o,b≠S->b≠I->h1.get? b=b3 o->h'.get? b=b3 o)->h'.get? S=b3 {cls:=.type "list",dict:=b4,data:=.seq acc c,slots:=#[]}->as.length=es.size->ċ es I h' as->acc.toList=as.map Ö->R (.ok<|.ret res) {s with heap:=h',toks:=tk}):
  ∀k i h tk c acc as,es.size-i=k->i<=es.size->wu h I d S i es.size ep->ý h d es ep->(∀b o,b≠S->b≠I->h1.get? b=b3 o->h.get? b=b3 o)->h.get? S=b3 {cls:=.type "list",dict:=b4,data:=.seq acc c,slots:=#[]}->
   acc.toList=as.map Ö->as.length=i->ċ es I h as->I<h.objs.size->ι (Î P w) A (.builtin "list.extend.loop" ⟨[.ref S,.ref I,res],[]⟩) R {s with heap:=h,toks:=tk}:=by
 let ne:S≠I:=Ā y;intro k;induction k with
 |zero=>intro i h tk c acc as Y hi ⟨_,_,_,_,N,O⟩ g Q p G B H lt;show ϲ F.entry_extend_loop ?_;rw[϶ F.plain_extend_loop _];show Á (m:=š (.ref I)) (Cg (s:={s with heap:=h,toks:=tk}) (A:=A.in1) U N O g (Þ p) (λe h' n=>?_) λ_ h' x=>Ê<|X h' tk acc c as (λb o E u z=>x b o u<|Q b o E u z) (x S _ ne p) () (H.stay λb o q z=>x b o (Ţ q) z) G);rw[Ot ()]at n;ext n|succ k ih=>
  intro i h tk c acc as Y hi ⟨_,_,_,_,N,O⟩ g Q p G B H lt;let sz:acc.size=i:=by rw[<- ie,G,Ã,B]
  show ϲ F.entry_extend_loop ?_;rw[϶ F.plain_extend_loop _];show Á (m:=š (.ref I))<|Cg (s:={s with heap:=h,toks:=tk}) (A:=A.in1) U N O g (Þ p) (λe h' n j' _ M Z j=>?_) λn=>?_
  .dsimp at M Z j ⊢;let v:=j S _ ne p;let T:S<h.objs.size:=Þ p;let up:∀b o,b≠S->h'.get? b=b3 o->(h'.update S<|a4A (·.push<|Ö h.objs.size)).get? b=b3 o:=λb o q z=>(WF _ _<|ð q).trans z;show Á (m:=qw S (·.push<|Ö h.objs.size)) (iu v rfl (Ê ⟨ϝ F.plain_extend_loop _,?_⟩) (by rw[sz];lia)<|by change(acc.push<|Ö h.objs.size).size<=Ò+1;rw[Array.size_push,sz];lia);show ih (i+1) _ tk _ (acc.push<|Ö h.objs.size) (as++[h.objs.size]) () () (j'.stay (ð ne) up) (g.stay λo z=>up d o K<|j d o J z) (λb o E u z=>up b o E<|j b o u<|Q b o E u z) (ϓ _ v rfl) (by rw[Array.toList_push,G,ă];rfl) (by rw[ć,B];rfl) ?_ ?_
   .show((H.stay λb o q z=>up b o (Ţ<|Mz y q)<|j b o (Ţ q) z)).snoc (λa L=>H.lt L) lt (by rw[B];show n)<|up _ _ (Ţ T) M
   .show Mz lt<|Þ<|up _ _ (Ţ T) M
  .rw[PD ()]at n;ext n
def Uw(H:A.handled=b4)(q:s.heap.IsItemsView r d)(g:ý s.heap d es ep)(z:S≠r)(Sd:d≠S)(y:s.heap.get? S=b3 {cls:=.type "list",data:=.seq #[] c0})(K:es.size<=Ò)(E:∀h' tk acc c as,(∀b o,b≠S->s.heap.get? b=b3 o->h'.get? b=b3 o)->h'.get? S=b3 {cls:=.type "list",dict:=b4,data:=.seq acc c,slots:=#[]}->as.length=es.size->ċ es s.heap.objs.size h' as->acc.toList=as.map Ö->R (.ok<|.ret res) {s with heap:=h',toks:=tk}):
  È (Î P w) A.in1 (vp (.ref S) (.ref r) res) (λfin p=>match fin with|.done f=>R (.ok f) p|.again c'=>c'.quiet=dI/\ι (Î P w) A c' R p) (λe p=>R (.error e) p) s:=by
 let x:S<s.heap.objs.size:=Þ y;let B:d<s.heap.objs.size:=g.lt;let run:∀(h:ñ)(c1 tk:Nat),(∀b o,b≠S->(s.heap.push {cls:=.type "dict_itemiterator",data:=.fields #[.none,.bool b5,.ref d,.int 0 0,.int es.size 0,.int ep 0,.none,.none]}).get? b=b3 o->h.get? b=b3 o)->h.get? S=b3 {cls:=.type "list",data:=.seq #[] c1}->
   ι (Î P w) A (.builtin "list.extend.loop" ⟨[.ref S,.ref s.heap.objs.size,res],[]⟩) R {s with heap:=h,toks:=tk}:=by
  intro h c1 tk u i;let gI:=u s.heap.objs.size _ (Ţ x)<|Ċ _ rfl;show Uv (s:=s) (h1:=s.heap) (ep:=ep) H x Sd (Ā B) K res (λh' v acc c as M N O Q T=>E h' v acc c as (λb o k e=>M b o k (Ā<|Þ e) e) N O Q T) es.size 0 h tk c1 #[] [] (OK _) (ĸ _)
   ⟨.none,.none,.none,b5,gI,.inl rfl⟩ (g.stay λo e=>u d o Sd<|á _ e) (λb o k _ e=>u b o k<|á _ e) i rfl rfl ⟨Oq,λ_ G=>(by ext G),λj a J=>(by simp at J)⟩<|Þ gI
 ext vp;show Á<|yx (T:="dict_items") q.typeIs ?_;dsimp[show NP (.ref S) (.ref r)=b5 by simp[NP,z],show(ü "dict_items"==ü "list")=b5 by decide,show(ü "dict_items"==ü "tuple")=b5 by decide,MY,ŀ,if_false];show Á<|Hs q g ?_;let i:=á {cls:=.type "dict_itemiterator",data:=.fields #[.none,.bool b5,.ref d,.int 0 0,.int es.size 0,.int ep 0,.none,.none]} y;show Á<|ł<|PySem.W.kdx_hint (let⟨o,L,hc,_⟩:=q;⟨o,á _ L,hc⟩) ?_;show mL (λ_=>?_) λ_=>Ê ⟨ϝ F.plain_extend_loop _,run _ c0 _ (λb o _ e=>e) i⟩;show Á<|ϛ<|Á ?_;show Á (m:=qw S (·.push .none))<|iu i rfl ?_;let n:=ϓ (a4A (·.push Ŀ)) i rfl;show iu (hz:=by seq_fits) n rfl<|Ê ⟨ϝ F.plain_extend_loop _,run _ _ _ (λb o k e=>?_)<|ϓ (a4A (·.pop)) n rfl⟩;show(WF _ _<|ð k).trans<|(WF _ _<|ð k).trans e
def Ux{T:gw->Ù->Prop}(H:A.handled=b4)(v:s.heap.IsItemsView r d)(g:ý s.heap d es ep)(J:es.size<=Ò)(q:∀h' tk as,(∀b o,s.heap.get? b=b3 o->h'.get? b=b3 o)->as.length=es.size->ċ es s.heap.objs.size h' as->s.heap.objs.size<=h'.objs.size->T (as.map Ö) {s with heap:=h',toks:=tk}):È (Î P w) A (collect<|.ref r) T E s:=by
 let K:r<s.heap.objs.size:=let⟨_,p,_⟩:=v;Þ p
 ext collect
 show Á<|wpAny_runValue<|ϲ b4D ?_
 rw[϶ F.plain_proto_collect _]
 show Á (m:=newList [])<|Ż<|Ê ⟨ϝ F.plain_list_iadd _,ϲ b4E ?_⟩
 rw[϶ F.plain_list_iadd _]
 let B:(s.heap.push {cls:=.type "list",data:=.seq ([]:gw).toArray}).get? s.heap.objs.size=b3 {cls:=.type "list",data:=.seq #[]}:=Ċ _ rfl
 let all:=Uw (A:=A) (s:={s with heap:=s.heap.push {cls:=.type "list",data:=.seq ([]:gw).toArray}}) (P:=P) (w:=w) (es:=es) (ep:=ep) (res:=.ref s.heap.objs.size) (c0:=0)
  (R:=λ(q:Rw)(u:Ù)=>∃(h':ñ)(tk:Nat)(acc:Array Value)(c:Nat)(as:List Addr),q=.ok (.ret<|.ref s.heap.objs.size)/\u={s with heap:=h',toks:=tk}/\(∀b o,s.heap.get? b=b3 o->h'.get? b=b3 o)/\h'.get? s.heap.objs.size=b3 {cls:=.type "list",dict:=b4,data:=.seq acc c,slots:=#[]}/\as.length=es.size/\ċ es s.heap.objs.size h' as/\acc.toList=as.map Ö)
  H (let⟨o,p,x⟩:=v;⟨o,á _ p,x⟩) (g.stay λo e=>á _ e) (Ţ K) (Ā g.lt) B J
  λh' tk acc c as j h k i n=>⟨h',tk,acc,c,as,rfl,rfl,λb o e=>j b o (Ā<|Þ e)<|á _ e,h,k,⟨i.up,λa G=>Mz (Ϥ _)<|by have:=i.over a G;rw[ϒ]at this;show this,i.prs⟩,n⟩
 show ř all (λfin u x=>?_) λe u x=>?_
 .cases fin with
  |done f=>
   let⟨h',tk,acc,c,as,e,rfl,j,h,k,i,n⟩:=x
   ext e
   show Á (m:=load s.heap.objs.size)<|MH h<|Ê ?_
   change T acc.toList _
   rw[n]
   show q h' tk as j k i<|Rr<|Þ h
  |again c1=>
   show⟨x.1,ML x.2 λy L x=>?_⟩
   let⟨h',tk,acc,c,as,rfl,rfl,j,h,k,i,n⟩:=x
   show Á (m:=load s.heap.objs.size)<|MH h<|Ê ?_
   change T acc.toList _
   rw[n]
   show q h' tk as j k i<|Rr<|Þ h
 .let⟨_,_,_,_,_,z,_⟩:=x
  ext z
end L3
namespace L3
open PySem L2 PySem.W PyProof.Rows
def Ht(q:Q dI s):È (Î P w) A (eqBool v v) Q E s:=by ext eqBool;show ł ?_;rw[if_pos ∅];show Á<|ϛ<|Ê q
def zC:∀k,HT.lexLt k k=b5
 |[]=>rfl|a::k=>by simp[HT.lexLt,zC k]
abbrev mR(P:ť)(w:ĳ)(h:ñ)(b:Addr)(k:List Int):Prop:=Tb.IsT P w h k b/\∃xs:gw,J3 h b xs.toArray/\Ŵ xs k
def Uy{C:Bool->Ù->Prop}(j:A.units<Ą)(o:s.heap.get? a=b3 {cls:=.type "tuple",data:=.seq #[.ref b,v]})(d:s.heap.get? g=b3 {cls:=.type "tuple",data:=.seq #[.ref h,n]})(i:mR P w s.heap b k)(c:mR P w s.heap h k')(p:k=k'->v=n)(q:C (HT.lexLt k k') s):È (Î P w) A (keyLt' (tuples' b5) (.ref a)<|.ref g) C (λ_ _=>False) s:=by
 show kat_lt o rfl d rfl ?_;show kat_cons<|(Ϛ<|ŵ P w).eqBool j i.1 c.1 ?_;by_cases e:k=k'
 .obtain rfl:=p e;subst e;rw[decide_eq_true rfl];show kat_yes<|kat_cons<|Ht<|kat_yes<|kat_nil ?_;rw[zC]at q;show q
 .rw[decide_eq_false e];let⟨B,y,u⟩:=i.2;let⟨G,z,x⟩:=c.2;show kat_no (kat_one _ _<|HT.lt_tupInts y z (by apply u) (by apply x) j ?_);show q
abbrev qB(P:ť)(w:ĳ)(A:Ŧ)(us:gw)(an:Nat->Nat->Bool)(s:Ù):Prop:=
 È (Î P w) A (keyKind' us.toArray) (λb a=>a=s/\∀(i j:Nat)(C:Bool->Ù->Prop),i<us.length->j<us.length->C (an i j) s->È (Î P w) A (keyLt' b (us.getD i .none)<|us.getD j .none) C (λ_ _=>False) s) (λ_ _=>False) s
def Uz{lo:Addr}{bs:List Addr}{ks:List (List Int)}(Y:A.units<Ą)(p:ċ es lo s.heap as)(h0:0<as.length)(hl:as.length=es.size)(hk:ks.length=es.size)(X:bs.length=es.size)(key:∀j e,es[j]?=b3 e->e.key=.ref (bs.getD j 0)/\mR P w s.heap (bs.getD j 0) (ks.getD j []))(nd:ks.Nodup):qB P w A (as.map Ö) (λi j=>HT.lexLt (ks.getD i [])<|ks.getD j []) s:=by
 let at_:∀i,i<as.length->∃(e:DictEntry),es[i]?=b3 e/\s.heap.get? (as.getD i 0)=b3 {cls:=.type "tuple",data:=.seq #[.ref (bs.getD i 0),e.val]}/\mR P w s.heap (bs.getD i 0) (ks.getD i []):=λi hi=>by
  let M:as[i]?=b3 (as.getD i 0):=by simp[ĭ,hi]
  let⟨e,q,g⟩:=p.prs i _ M;let⟨k1,u⟩:=key i e q;rw[k1]at g;show⟨e,q,g,u⟩
 ext qB;let k:M6 s.heap (as.map Ö) (bs.map Ö):=by
  let go:∀(n:Nat)(a c:List Addr),a.length=n->c.length=n->(∀i,i<n->∃v:Value,s.heap.get? (a.getD i 0)=b3 {cls:=.type "tuple",data:=.seq #[.ref (c.getD i 0),v]})->M6 s.heap (a.map Ö) (c.map Ö):=by
   intro n;induction n with
   |zero=>intro a c h1 d _;rw[NQ.mp h1,NQ.mp d];show .nil|succ n Z=>
    intro a c h1 d K;match a,c,h1,d with
    |x::a,y::c,h1,d=>let⟨v,I⟩:=K 0 ();show .cons I rfl rfl ∅ (Z a c (by apply h1) (by apply d) λi hi=>?_);have:=K (i+1) ();apply this
  show go as.length as bs rfl () λi hi=>?_;let⟨e,_,g,_⟩:=at_ i hi;show⟨_,g⟩
 show Nj (T:=.type "tuple") k (by rw[Ã];lia) (λv I=>?_) ⋯ ⟨rfl,λi j C hi H T=>?_⟩
 .let⟨b,U,rfl⟩:=Õ.mp I;let⟨i,hi⟩:=zj.mp U;let B:i<as.length:=by have:=(ä.mp hi).1;lia
  let⟨e,_,_,u⟩:=at_ i B;have:bs.getD i 0=b:=by simp[ĭ,hi]
  rw[this]at u;obtain⟨xs,⟨o,o1,o2,_⟩,_⟩:=u.2;show kitAt_ty _ _ ⟨o,o1,o2⟩
 .rw[Ã]at hi H;let⟨e,q,g,L⟩:=at_ i hi;let⟨e',J,N,O⟩:=at_ j H;let Q:(as.map Ö).getD i .none=.ref (as.getD i 0):=by simp[ĭ,hi]
  let R:(as.map Ö).getD j .none=.ref (as.getD j 0):=by simp[ĭ,H]
  rw[Q,R];show Uy Y g N L O (λz=>?_) T;let G:i=j:=by
   let h1:ks.getD i []=ks[i]:=by simp[ĭ,show i<ks.length by lia]
   let d:ks.getD j []=ks[j]:=by simp[ĭ,show j<ks.length by lia]
   rw[h1,d]at z;rcases Ol i j with h|h|h
   .show absurd z<|(uz.mp nd) i j () () h
   .show h
   .show absurd z.symm<|(uz.mp nd) j i () () h
  subst G;rw[q]at J;ext J;rfl
def Ci(O:2<=us.length)(u:us.length<64)(g:s.heap.get? c=b3 (ę "list" us.toArray z))(H:∀K,(∀b o,b≠c->s.heap.get? b=b3 o->K.get? b=b3 o)->qB P w A us an {s with heap:=K})(q:R (.done<|.ret .none) {s with heap:=yp s.heap c us ((c5 an us.length).map λi=>us.getD i Ŀ).toArray}):È (Î P w) A (Builtin.«list.sort» ⟨[.ref c],[]⟩) R E s:=by
 rw[Pk]
 show Á<|listItems_at g rfl<|Á<|Mu g rfl ?_ (by rw[ģ,ò];lia)<|ĸ _
 obtain⟨y,I⟩:∃y,(s.heap.update c<|a4A λ_=>#[]).get? c=b3 (ę "list" #[] y):=⟨_,Ph g _⟩
 show Á<|MP I rfl<|Á<|MW (Á<|uh (ł ?_)<|ĸ _)<|by change us.length<=_;rw[ò];lia
 let J:(((s.heap.update c<|a4A λ_=>#[]).push<|ę "tuple" us.toArray 0).push<|ę "list" #[] 0).get? c=b3 (ę "list" #[] y):=
  á _<|á _ I
 let n:=H (((s.heap.update c<|a4A λ_=>#[]).push<|ę "tuple" us.toArray 0).push<|ę "list" #[] 0) λb o T e=>á _<|á _<|(WF _ _<|ð T).trans e
 change È (Î P w) A _ R E ⟨((s.heap.update c<|a4A λ_=>#[]).push<|ę "tuple" us.toArray 0).push<|ę "list" #[] 0,s.gens,s.drawn,s.toks,s.os⟩
 dsimp
 let h:¬ us.toArray.size<2:=by rw[ģ];lia
 rw[if_neg h,if_neg h]
 show Á<|ř n (λY k v=>?_) λ_ _ x=>x.elim
 let⟨rfl,v⟩:=v
 show Á<|ř (kat_run (ks:=us) (vs:=us) (κ:=Y) (Q:=λa k=>k={s with heap:=((s.heap.update c<|a4A λ_=>#[]).push<|ę "tuple" us.toArray 0).push<|ę "list" #[] 0}/\failedOf a=b4/\(arrOf a).map (·.2)=((c5 an us.length).map λi=>us.getD i Ŀ).toArray)
  (G:=λp k=>k={s with heap:=((s.heap.update c<|a4A λ_=>#[]).push<|ę "tuple" us.toArray 0).push<|ę "list" #[] 0}/\p.toList=c5 an us.length) rfl O u (λp a k Z M N G=>⟨G.1,N,by rw[kat_snds rfl M,G.2]⟩)
 <|GC (n:=us.length) (ans:=an) (λi j C hi U Q=>v i j C hi U Q) (tT ()) ⟨rfl,rfl⟩) (λr k X=>?_) λ_ _ e=>e
 obtain⟨⟨⟩,a⟩:=r
 let⟨rfl,L,d⟩:=X
 dsimp at L d ⊢
 rw[d]
 let B:((c5 an us.length).map λi=>us.getD i Ŀ).length=us.length:=by
  rw[Ã,(B2 an (n:=us.length) ()).length_eq,ou]
 show Á<|MP J rfl<|Á<|Mu J rfl ?_ (hsz2:=by rw[ģ,B,ò];lia)
 rw[L]
 dsimp[bne_self_eq_false,ŀ,if_false]
 show Ê q
def UA(K:A.handled=b4)(M:s.heap.IsItemsView r d)(g:ý s.heap d es ep)(G:es.size<64)(H:2<=es.size->∀h tk as,(∀b o,s.heap.get? b=b3 o->h.get? b=b3 o)->as.length=es.size->ċ es s.heap.objs.size h as->qB P w A.in1.in1 (as.map Ö) an {s with heap:=h,toks:=tk})(q:∀h tk as(L e:Nat),(∀b o,s.heap.get? b=b3 o->h.get? b=b3 o)->as.length=es.size->ċ es s.heap.objs.size h as->s.heap.objs.size<=L->(∀a∈as,a≠L)->h.get? L=b3 (ę "list" ((c5 an es.size).map λi=>Ö<|as.getD i 0).toArray e)->Q (.ref L) {s with heap:=h,toks:=tk}):
  È (Î P w) A (call (.builtin "sorted") [.ref r]) Q E s:=by
 show PF Nu O1 Nz (Ny _) ?_
 ext Ox
 show Á (m:=Nw "sorted" 1 1 _)<|Ê<|Á<|Ux (A:=A.in1) K M g (by rw[ò];lia) λc tk as z p v n=>?_
 let B:(as.map Ö).length=es.size:=by rw[Ã,p]
 show Á<|uh ?_<|by rw[B,ò];lia
 let k:(c.push<|ę "list" (as.map Ö).toArray 0).get? c.objs.size=b3 (ę "list" (as.map Ö).toArray 0):=Ċ _ rfl
 let fin:∀j:gw,j=((c5 an es.size).map λi=>Ö<|as.getD i 0)->Q (.ref c.objs.size) {s with heap:=yp (c.push<|ę "list" (as.map Ö).toArray 0) c.objs.size (as.map Ö) j.toArray,toks:=tk}:=by
  rintro j rfl
  let⟨e,J⟩:=sortedHeap_at (h:=c.push (ę "list" (as.map Ö).toArray 0)) (out:=((c5 an es.size).map λi=>Ö<|as.getD i 0).toArray) k
  let old:∀b o,c.get? b=b3 o->(yp (c.push<|ę "list" (as.map Ö).toArray 0) c.objs.size (as.map Ö) ((c5 an es.size).map λi=>Ö<|as.getD i 0).toArray).get? b=b3 o:=λb o x=>by
   rw[Pw (Ā<|Þ x)<|by rw[ϒ];show zb<|Þ x]
   show á _ x
  show q _ tk as c.objs.size e (λb o x=>old b o<|z b o x) p (v.stay λb o _ x=>old b o x) n (λa I=>Ā<|v.lt I) J
 by_cases u:2<=es.size
 .show Á<|ł<|Θ tu (s:={s with heap:=c.push<|ę "list" (as.map Ö).toArray 0,toks:=tk}) ⟨_,k,rfl⟩ ue (Ci (an:=an) () () k (λh y=>?_) ⟨_,rfl,?_⟩)<|su _
  .show H u h tk as (λb o e=>y b o (Ā<|Ļ (Þ e) n)<|á _<|z b o e) p<|v.stay λb o N e=>y b o (Ā<|Þ e)<|á _ e
  .show Ê ⟨_,rfl,fin _ ?_⟩
   rw[B]
   show Ť λi hi=>?_
   let hi:i<as.length:=by
    have:=Ō.mp<|(jS an es.size).mem_iff.mp hi
    lia
   simp[ĭ,hi]
 .show Á<|ł<|Θ tu (s:={s with heap:=c.push<|ę "list" (as.map Ö).toArray 0,toks:=tk}) ⟨_,k,rfl⟩ ue (B3 () k ⟨_,rfl,?_⟩)<|su _
  show Ê ⟨_,rfl,fin (as.map Ö) ?_⟩
  match as,p with
  |[],e=>rw[<- e];change[]=(c5 _ 0).map _;rw[yQ];rfl
  |[b],e=>rw[<- e];change[Ö b]=(c5 _ 1).map _;rw[B4];rfl
  |_::_::_,e=>rw[<- e]at u;simp at u
end L3
namespace L3
open PySem L2
abbrev oU(ps:bN):bN:=(c5 (λi j=>HT.lexLt ((ps.map (·.1)).getD i [])<|(ps.map (·.1)).getD j []) ps.length).map λi=>ps.getD i ([],0,.non)
def Μ:(oU ps).Perm ps:=by
 ext oU;let p:=(jS (λi j=>HT.lexLt ((ps.map (·.1)).getD i [])<|(ps.map (·.1)).getD j []) ps.length).map λi=>ps.getD i ([],0,.non);let e:(ą ps.length).map (λi=>ps.getD i ([],0,.non))=ps:=by show Oh ∅ λi h1 a=>?_;simp[ĭ,a]
 rw[e]at p;show p
def Hu d(hd:(d==ľ)=b5):yd P w (Builtin.«dict.items» ⟨[.ref d],[]⟩) (λ_ R s=>(∃es ep,ý s.heap d es ep) /\
   R (.ok<|.ret<|.ref s.heap.objs.size) {s with heap:=s.heap.push {cls:=.type "dict_items",data:=.fields #[.ref d]}}):=
 .of_wp λA R s ⟨⟨es,ep,g⟩,h⟩=>by unfold Builtin.«dict.items»;show Á ?_;ext Ou;show Á<|vg g.ty ?_;change È _ _ (pure d) _ _ s;show Ê ?_;change È _ _ (nu d >>= _) _ _ s;ext nu;rw[if_neg<|by rw[hd];show ø];show Á<|Ê ?_;show Á<|Ż<|Ê ⟨_,rfl,h⟩
abbrev oV(kvs:jx):jx:=(c5 (λi j=>HT.lexLt ((kvs.map (·.1)).getD i [])<|(kvs.map (·.1)).getD j []) kvs.length).map λi=>kvs.getD i ([],.non)
def Hv{R:a->b->Prop}{as:List a}{bs:List b}(h:Ρ R as bs)c d:∀i,i<as.length->R (as.getD i c) (bs.getD i d):=by
 induction h with
 |nil=>show λi hi=>nomatch hi|cons e t g=>
  intro i hi;cases i with
  |zero=>show e|succ i=>show g i<|by apply hi
def Cj{R:a->b->Prop}{f:Nat->a}{g:Nat->b}:∀{l:List Nat},(∀i∈l,R (f i) (g i))->Ρ R (l.map f) (l.map g)
 |[],_=>.nil|i::l,h=>.cons (h i<|ţ ..)<|Cj λj c=>h j<|ŏ _ c
def UB(h:ï K π n H ps kvs):ps.length=kvs.length/\ï K π n H (oU ps) (oV kvs):=by
 let a:=h.to.1;let b:ps.length=kvs.length:=by have:=congrArg İ a;apply this
 show⟨b,?_⟩;ext oU oV;rw[a,b];show Cj λi hi=>Hv h _ _ i ?_;have:=Ō.mp<|(jS _ kvs.length).mem_iff.mp hi;lia
def Â.freeze{σ:St}{ps:bN}(I:Â X Do σ H s)(e:H a=b3 (aT a ps))(c:s.heap.get? a=b3 ob):Â X Do σ (upd H a<|.frz ob<|aT a ps) s:=by let ok:à X.prog X.w H s.heap a (aT a ps):=I.hok a _ e;show I.write (x:=a) (e:=a) (h':=s.heap) (t':=s.toks) (by rw[e];show ϯ) (.inl rfl) (λb q _ z=>z) ⟨ob,c⟩ ⟨c,ok⟩
def Â.thaw{σ σ0:St}{ps ps0:bN}(n:Â X pins0 σ0 H0 s0)(v:H0 a=b3 (aT a ps0))(I:Â X Do σ H s)(e:H a=b3 (.frz ob<|aT a ps)):Â X Do σ (upd H a<|aT a ps) s:=by
 let ne:∀{b:Addr},H b=b4->b≠a:=λ{b} h z=>by rw[z,e]at h;ext h
 show⟨I.ok,I.os,I.bare,⟨I.base.keep,I.base.slot,λb o h1 d g=>?_,I.base.there,λb j h=>?_,λb o u h=>?_,λb y h=>?_⟩,I.loc,I.cell,?_,λx c h=>?_,λp w=>?_,λb u q=>?_,I.len⟩
 .have:=I.base.free b o h1 d g;rw[bQ<|ne this];show this
 .have:=I.base.tups b j h;rw[bQ λz=>by rw[z,e]at this;ext this];show this
 .have:=I.base.frzs b o u h;rw[bQ λz=>by
   let k:=n.base.frzs b o u h;rw[z,v]at k;ext k]
  show this
 .let⟨more,h1⟩:=I.base.tbls b y h;show⟨more,by rw[bQ λz=>by rw[z,e]at h1;ext h1];show h1⟩
 .rw[bQ<|ne I.free];show I.free
 .have:=I.freeC x c h;rw[bQ<|ne this];show this
 .let⟨h1,d,g⟩:=I.pin p w;show⟨h1,by rw[bQ<|ne d];show d,g⟩
 .by_cases i:b=a
  .subst i;rw[dU]at q;ext q;show(show à X.prog X.w H s.heap b (.frz ob<|aT b ps)from I.hok b _ e).2
  .rw[bQ i]at q;show(I.hok b u q).stay (λ_ _ _ z=>z) (λc h=>by rw[bQ λz=>by rw[z,e]at h;ext h];show h) λc j h=>by rw[bQ λz=>by rw[z,e]at h;ext h];show h
abbrev qC(i:Nat)(c:aG)(b:Hm):Option (Nat×jx):=match c[i]? with
 |some (b3<|.loc a)=>match b[a]? with
  |some (.dT kvs)=>b3 (a,kvs)|_=>b4
 |_=>b4
def Hw(h:qC i c b=b3 (a,kvs)):b[a]?=b3 (.dT kvs):=by
 unfold qC at h;split at h
 .split at h
  .rename_i hc;ext h;show hc
  .ext h
 .ext h
abbrev tY(i:Nat)(d e:ME):ME:=λc b=>match qC i c b with
 |some (a,kvs)=>(d c<|b.set a<|.dF kvs).bind λr=>match r.2[a]? with
  |some (.dF kvs')=>b3 (r.1,r.2.set a<|.dT kvs')|_=>b4
 |none=>e c b
abbrev gJ(i:Nat)(d e:MS):MS:=λc b=>match qC i c b with
 |some (a,kvs)=>(d c<|b.set a<|.dF kvs).bind λr=>match r.2.2[a]? with
  |some (.dF kvs')=>b3 (r.1,r.2.1,r.2.2.set a<|.dT kvs')|_=>b4
 |none=>e c b
def Hx{σ:St}{kvs:jx}(I:Â X Do σ H s)(R:Rp X.K π H μ)(E:En X.K π μ.length H σ ρ)(hc:μ[a]?=b3 (.dT kvs)):∃ob ps,H (π a)=b3 (aT (π a) ps)/\Â X Do σ (upd H (π a)<|.frz ob<|aT (π a) ps) s /\
  Rp X.K π (upd H (π a)<|.frz ob<|aT (π a) ps) (μ.set a<|.dF kvs)/\En X.K π (μ.set a<|.dF kvs).length (upd H (π a)<|.frz ob<|aT (π a) ps) σ ρ:=by
 let⟨ps,b,T⟩:=jT R hc;obtain⟨_,⟨ob,d⟩,_⟩:=(show à X.prog X.w H s.heap (π a) (aT (π a) ps)from I.hok _ _ b);let⟨c,R2⟩:=R.put (c:=.dF kvs) (o:=.frz ob (aT (π a) ps)) (ä.mp hc).1 b (.inr<|.inr ⟨_,rfl⟩) ⟨ob,ps,rfl,T.to⟩;show⟨ob,ps,b,Â.freeze I b d,R2,E.mono c⟩
def v7{σ:St}{μ:Hm}{kvs:jx}{q:St}{ps:bN}{d:jx}(I:Â X Do σ H s)(e:H (π a)=b3 (aT (π a) ps))(A:a<μ.length)(y:Â X g q j x)(R':Rp X.K c j μ')(k:õ π (μ.set a<|.dF kvs).length (upd H (π a)<|.frz ob<|aT (π a) ps) c μ'.length j)(hc:μ'[a]?=b3 (.dF d)):
  ∃v,Â X g q v x/\õ π μ.length H c (μ'.set a<|.dT d).length v/\Rp X.K c v (μ'.set a<|.dT d)/\œ c μ'.length j c (μ'.set a<|.dT d).length v:=by
 let w:c a=π a:=k.pi a (by rw[Ź];show A);let⟨E,i,h1,T⟩:=vV R' hc;let⟨J,R2⟩:=R'.put0 (c:=.dT d) (o:=aT (c a) i) (ä.mp hc).1 h1 (.inr<|.inr<|.inr ⟨_,_,rfl⟩) ⟨i,rfl,T.to⟩;rw[w]at h1;show⟨upd j (c a)<|aT (c a) i,?_,⟨?_,λb B=>k.pi b<|by rw[Ź];show B,λp G h=>?_,λp o u h=>?_⟩,R2,J⟩
 .rw[w];show Â.thaw I e y h1
 .have:=k.le;rw[Ź]at this ⊢;show this
 .let n:p≠π a:=λz=>by rw[z,e]at h;ext h
  have:=k.tup p G (by rw[bQ n];show h);rw[w,bQ n];show this
 .let n:p≠π a:=λz=>by rw[z,e]at h;ext h
  have:=k.frz p o u (by rw[bQ n];show h);rw[w,bQ n];show this
def En.mono0(E:En K π n H σ ρ)(e:œ π n H b g c):En K b g c σ ρ:=
 ⟨E.len,λi d h=>let⟨v,h1,j⟩:=E.get i d h;⟨v,h1,j.mono0 e⟩⟩
def UC(h1:QE X e B)(h2:QE X e G):QE X e (tY i B G):=⟨by
 intro j s L H Q I hw;let⟨n,K,J,d,y,R,E,c,k⟩:=hw;unfold tY at c;split at c
 .rename_i a w hv;show bR c ?_;clear c;intro x g g1 c;dsimp at c;split at c
  .rename_i A p;ext c;let hc:=Hw hv;let⟨ob,ps,Z,N,U,M⟩:=Hx I R E hc;show aW (h1.h j s L _ (λv h=>∃b,õ n (J.set a<|.dF w).length (upd H (n a)<|.frz ob<|aT (n a) ps) b g.length h/\Rp X.K b h g/\Ú X.K b g.length h v d) N ⟨n,K,_,d,g,U,M,g1,λb v h o R2 q=>⟨b,o,R2,q⟩⟩) λu s2 ⟨v,h,O,rv,b,o,R2,q⟩=>?_;let⟨z,T,e3,Y,x3⟩:=v7 I Z (ä.mp hc).1 O R2 o p;show⟨v,z,T,rv,k b v z e3 Y<|q.mono0 x3⟩
  .ext c
 .show h2.h j s L H Q I ⟨n,K,J,d,y,R,E,c,k⟩⟩
def Ck(h1:QS X st m1)(h2:QS X st m2):QS X st (gJ i m1 m2):=⟨by
 intro M s σ H D I hw;let⟨n,ρ,N,K,w,Y,R,E,y,k⟩:=hw;unfold gJ at y;split at y
 .rename_i a z hv;obtain⟨⟨fl1,ρ1,g⟩,g1,y⟩:=è.mp y;dsimp at y;split at y
  .rename_i Z x;ext y;let hc:=Hw hv;let Q:=(ä.mp hc).1;let⟨ob,T,O,I1,R1,E1⟩:=Hx I R E hc;show aW (h1.h M s σ _ ⟨λc h=>K=.nx/\∃b,õ n (N.set a<|.dF z).length (upd H (n a)<|.frz ob<|aT (n a) T) b g.length h/\Rp X.K b h g/\En X.K b g.length h c w,
     λv h=>∃d,K=.rt d/\∃b,õ n (N.set a<|.dF z).length (upd H (n a)<|.frz ob<|aT (n a) T) b g.length h/\Rp X.K b h g/\Ú X.K b g.length h v d,
     λc h=>K=.bk/\∃b,õ n (N.set a<|.dF z).length (upd H (n a)<|.frz ob<|aT (n a) T) b g.length h/\Rp X.K b h g/\En X.K b g.length h c w,
     λc h=>K=.ct/\∃b,õ n (N.set a<|.dF z).length (upd H (n a)<|.frz ob<|aT (n a) T) b g.length h/\Rp X.K b h g/\En X.K b g.length h c w⟩ I1 ⟨n,ρ,_,K,w,g,R1,E1,g1,?_⟩) λf s2 q=>?_
   .cases K with
    |nx=>show λb c h j R2 o=>⟨rfl,b,j,R2,o⟩|bk=>show λb c h j R2 o=>⟨rfl,b,j,R2,o⟩|ct=>show λb c h j R2 o=>⟨rfl,b,j,R2,o⟩|rt d=>show λb v h j R2 U=>⟨d,rfl,b,j,R2,U⟩
   .cases f with
    |next=>let⟨c,h,A,rfl,b,j,R2,o⟩:=q;let⟨p,B,J,G,L⟩:=v7 I O Q A R2 j x;show⟨c,p,B,k b c p J G<|En.mono0 o L⟩|brk=>let⟨c,h,A,rfl,b,j,R2,o⟩:=q;let⟨p,B,J,G,L⟩:=v7 I O Q A R2 j x;show⟨c,p,B,k b c p J G<|En.mono0 o L⟩|cont=>let⟨c,h,A,rfl,b,j,R2,o⟩:=q;let⟨p,B,J,G,L⟩:=v7 I O Q A R2 j x;show⟨c,p,B,k b c p J G<|En.mono0 o L⟩|ret u=>let⟨v,c,h,A,rv,d,rfl,b,j,R2,U⟩:=q;let⟨p,B,J,G,L⟩:=v7 I O Q A R2 j x;show⟨v,c,p,B,rv,k b v p J G<|U.mono0 L⟩
  .ext y
 .show h2.h M s σ H D I ⟨n,ρ,N,K,w,Y,R,E,y,k⟩⟩
abbrev Cm(d:Addr)(ob:Obj)(ps:bN):It:=⟨λi H=>H d=b3 (.frz ob<|aT d ps)/\i<ps.length,λi H x a=>a=H/\∃p,ps[i]?=b3 p/\x=.ref p.2.1,λi H=>H d=b3 (.frz ob<|aT d ps)/\ps.length<=i⟩
def r9{σ:St}{ps:bN}(I:Â X Do σ H s)(e:H d=b3 (.frz ob<|aT d ps)):
  (d==ľ)=b5/\ps.length<=Ò/\∃a b,ý s.heap d a b/\ob.data=.dict a b/\a.toList.map (·.key)=ps.map λp=>Ö p.2.1:=by
 obtain⟨c,⟨q,r,k,j,o,a,b,h1,h,g,i,n⟩,_⟩:=(show à X.prog X.w H s.heap d (.frz ob<|aT d ps)from I.hok d _ e);rw[c]at h1;ext h1;show⟨k,j,a,b,⟨ob,c,h,g⟩,g,?_⟩;rw[i,yX (P:=X.prog) (w:=X.w),å,<- Cf r];rfl
def Hy:∀(ps:bN)(ws:gw),ps.length=ws.length->(yt xR ps ws).map (·.val)=ws
 |[],[],_=>rfl|[],_::_,h=>by ext h
 |_::_,[],h=>by ext h
 |p::ps,u::ws,h=>by rw[ϔ,ö,Hy ps ws<|by apply h];rfl
def v8{σ:St}{ps:bN}(I:Â X Do σ H s)(e:H d=b3 (.frz ob<|aT d ps)):
  (d==ľ)=b5/\ps.length<=Ò/\∃a b,ý s.heap d a b/\ob.data=.dict a b/\Å (ps.map (·.2.2)) (a.toList.map (·.val)):=by
 obtain⟨g,⟨c,r,p,n,o,a,b,h1,j,h,k,q⟩,_⟩:=(show à X.prog X.w H s.heap d (.frz ob<|aT d ps)from I.hok d _ e);rw[g]at h1;ext h1;show⟨p,n,a,b,⟨ob,g,j,h⟩,h,?_⟩;let i:(yt xR ps c).map (·.val)=c:=Hy ps c<|by
  have:=r.length;rw[Ã]at this;show this
 rw[k,i];show r
def UD(hd:ob.data=.dict es ep):Ń Qc P w K tg (Cm d ob ps) [q] q (λi h=>h.IsKeyIter q d i es.size ep) where
 mem:=∅
 obj:=λi h st b j=>by
  let e:b=q:=by apply j
  subst e;let⟨o,e,c,d⟩:=st;show⟨o,e,λv z=>by rw[d]at z;ext z⟩
 keep:=λi h x st k=>st.at λo e=>k q ∅ o e;item:=by
  intro X T hw R hc i u s σ H E I B st U;subst T hw R;let⟨p,y⟩:=U;let⟨lo,hl,J,G,g,a,A⟩:=r9 I p;rw[hd]at a;ext a;let hs:es.size=ps.length:=by have:=congrArg İ A;apply this
  let⟨L,M,f2,N,O,Q⟩:=B q ∅;show y8 (I.ok.hd hc) st g (λe x n Z sb=>?_) λhn=>by simp at hn;lia
  let I1:Â X u σ H {s with heap:=x}:=I.turned (t':=s.toks) (λb o j e=>(sb.2 b j).trans e) L M N O Q;let⟨o,e1,c,d1⟩:=id Z;let Y:ps[i]?=b3 ps[i]:=ā y;let ek:e.key=.ref (ps[i]).2.1:=by have:=congrArg (·[i]?) A;dsimp[ÿ,Ϸ,n,Y,ė]at this;show Ė this
  show⟨e.key,rfl,sW (s:={s with heap:=x}) e1 c d1 ⋯ ⟨.ref (ps[i]).2.1,H,I1,ek,⟨rfl,ps[i],Y,rfl⟩,Z,λb j=>(B b j).1⟩⟩
 done:=by
  intro X T hw R hc i u s σ H E I B st U;subst T hw R;let⟨p,y⟩:=U;let⟨lo,hl,J,G,g,a,A⟩:=r9 I p;rw[hd]at a;ext a;let hs:es.size=ps.length:=by have:=congrArg İ A;apply this
  let⟨L,M,f2,N,O,Q⟩:=B q ∅;show y8 (I.ok.hd hc) st g (λe x n=>by
   have:=(PH.mp n).1;lia) λ_ x eb=>⟨rfl,I.turned (t':=s.toks) (λb o j e=>eb b o j e) L M N O Q⟩
 self:=λ_ _ _ _ _ st h=>Qu st h
def UE(k:PE X l n):PI X tg l (λσ H R=>n σ H λv a=>∃d ob ps,v=.ref d/\a d=b3 (.frz ob<|aT d ps)/\R (Cm d ob ps) a):=by
 intro j s σ H R I h;show aW (k j s σ H _ I h) λv i ⟨y,a,c,z,x⟩=>?_;let⟨d,ob,ps,e,u,q⟩:=x;subst e;obtain rfl:v=Ö d:=z;let⟨w,k,B,A,g,hd,E⟩:=r9 c u;show Hb w g ⟨i.heap.objs.size,[i.heap.objs.size],_,_,a,rfl,c.kept (t':=i.toks) λb o e=>á _ e,UD hd,⟨_,Ċ _ rfl,rfl,rfl⟩,λb p=>?_,q⟩;let e:b=i.heap.objs.size:=by apply p
 subst e;show c.fpOk (Ø _)<|c.hok.fresh<|Ø _
abbrev dQ(kvs:jx):List D:=kvs.map λk=>D.tup<|k.1.map D.int
def UG{ps:bN}(c:H d=b3 (.frz ob<|aT d ps))(T:ï K π n H ps kvs):Wk K (Cm d ob ps) (dC<|.tup<|dQ kvs) π n H:=by
 let w:ps.length=kvs.length:=by have:=congrArg İ T.to.1;apply this
 show⟨λb s g i e R z=>?_,λb s g i h e R z=>?_⟩
 .let a:(dQ kvs)[i]?=none:=Ė z;have:=τ.mp a;rw[dQ,Ã]at this;show⟨e.frz _ _ _ c,()⟩
 .let a:(dQ kvs)[i]?=b3 h:=Ė z;let hi:i<kvs.length:=by have:=(ä.mp a).1;rwa [dQ,Ã]at this
  show⟨⟨e.frz _ _ _ c,()⟩,λv u ⟨j,p,k,o⟩=>?_⟩;subst j o;let⟨x,h1,q⟩:=(T.to.2.1.mono e).get a;rw[ÿ,k]at h1;ext h1;show⟨.refl,R,q⟩
abbrev eP(m:ME):MI:=λc b=>(m c b).bind λp=>match p.1 with
 |.loc a=>match p.2[a]? with
  |some (.dF kvs)=>b3 (dC<|.tup<|dQ kvs,kvs.length+1,p.2)|_=>b4
 |_=>b4
def Co(h:QE X e m):QJ X e (eP m):=⟨λtg Do s σ H R I hw=>by
 let⟨z,A,v,u,n,w,i,E,a,k⟩:=hw;show bR a ?_;clear a;intro x y h1 a;dsimp at a;split at a
 .split at a
  .rename_i p hc;ext a;show UE h.h Do s σ H R I ⟨z,A,v,_,_,i,E,h1,λb B g j c o=>?_⟩;ext o;let⟨ob,q,d,T⟩:=vV c hc;show⟨_,ob,q,rfl,d,k b g _ j c<|UG d T⟩
  .ext a
 .ext a⟩
end L3
namespace L3
open PySem L2 PySem.W PyProof.Rows
abbrev Hz(h:ñ)(b:Addr)(k:List Int):Prop:=∃xs:gw,J3 h b xs.toArray/\Ŵ xs k
def UH{bs:List Addr}{ks:List (List Int)}(h0:0<bs.length)(x:ks.length=bs.length)(key:∀j b,bs[j]?=b3 b->Hz s.heap b (ks.getD j [])/\ks.getD j []≠[]):qB P w A (bs.map Ö) (λi j=>HT.lexLt (ks.getD i [])<|ks.getD j []) s:=by
 let h:∃fs:gw,fs.length=bs.length/\M6 s.heap (bs.map Ö) fs/\∀v∈fs,∃i t,v=Ĥ i t:=by
  clear h0;induction bs generalizing ks with
  |nil=>show⟨[],rfl,.nil,λv a=>nomatch a⟩|cons b bs Q=>
   match ks,x with
   |k::ks,x=>
    let⟨fs,y,p,q⟩:=Q (ks:=ks) (by apply x) λj c hc=>by apply key (j+1) c (by apply hc)
    obtain⟨⟨xs,⟨o,e,c,n,d⟩,hi⟩,g⟩:=key 0 b rfl;dsimp[List.getD_cons_zero]at hi g;cases hi with
    |nil=>show absurd rfl g|@cons i z T R M=>
     show⟨Ĥ i z::fs,by simp[y],.cons e c d ∅ p,λv a=>?_⟩;rcases Č.mp a with rfl|a
     .show⟨i,z,rfl⟩
     .show q v a
 let⟨fs,y,p,q⟩:=h;ext qB;show Nj (T:=.type "int") p ?_ (λv a=>?_) rfl ⟨rfl,λi j C hi u L=>?_⟩
 .lia
 .let⟨i,t,rfl⟩:=q v a;show .now
 .rw[Ã]at hi u;obtain⟨⟨xa,⟨Z,H,U,Y,B⟩,N⟩,_⟩:=key i bs[i]<|ā hi;obtain⟨⟨xb,⟨ob,I,X,nb,G⟩,O⟩,_⟩:=key j bs[j]<|ā u;let J:(bs.map Ö).getD i .none=.ref bs[i]:=by simp[ĭ,hi]
  let K:(bs.map Ö).getD j .none=.ref bs[j]:=by simp[ĭ,u]
  rw[J,K];show kat_lt H B I G<|GJ 0 N O L
def UI{bs:List Addr}{ks:List (List Int)}(M:A.handled=b4)(lo:(d==ľ)=b5)(g:ý s.heap d es ep)(z:es.toList.map (·.key)=bs.map Ö)(K:es.size<64)(O:ks.length=bs.length)(key:∀j b,bs[j]?=b3 b->Hz s.heap b (ks.getD j [])/\ks.getD j []≠[])(q:∀(h' u:ñ)tk e,(∀b o,s.heap.get? b=b3 o->h'.get? b=b3 o)->(∀b o,h'.get? b=b3 o->u.get? b=b3 o)->u.get? h'.objs.size=b3 (ę "list" ((c5 (λi j=>HT.lexLt (ks.getD i [])<|ks.getD j []) es.size).map λi=>Ö<|bs.getD i 0).toArray e)->Q (.ref h'.objs.size) {s with heap:=u,toks:=tk}):
  È (Î P w) A (call (.builtin "sorted") [.ref d]) Q E s:=by
 let n:bs.length=es.size:=by have:=congrArg İ z;apply this.symm
 show PF Nu O1 Nz (Ny _) ?_;ext Ox;show Á (m:=Nw "sorted" 1 1 _) (Ê<|Á<|kdu_collect (A:=A.in1) (Hc lo) M g (by rw[ò];lia) λh' tk c H a=>?_);let J:c.toList=bs.map Ö:=by
  rw[<- z];show OX λi=>?_;rw[ÿ,Ϸ,Ϸ];cases G:c[i]? with
  |some v=>let⟨e,U,X⟩:=a.2 i v G;rw[U,X];rfl|none=>
   have:c.size<=i:=by apply G
   rw[Ot<|by rw[<- a.1];show this];rfl
 rw[J];let I:(bs.map Ö).length=es.size:=by rw[Ã,n]
 show Á (uh ?_<|by rw[I,ò];lia);let k:(h'.push<|ę "list" (bs.map Ö).toArray 0).get? h'.objs.size=b3 (ę "list" (bs.map Ö).toArray 0):=Ċ _ rfl;let fin:∀h:gw,h=((c5 (λi j=>HT.lexLt (ks.getD i [])<|ks.getD j []) es.size).map λi=>Ö<|bs.getD i 0)->Q (.ref h'.objs.size) {s with heap:=yp (h'.push<|ę "list" (bs.map Ö).toArray 0) h'.objs.size (bs.map Ö) h.toArray,toks:=tk}:=by rintro h rfl;let⟨e,L⟩:=sortedHeap_at (h:=h'.push (ę "list" (bs.map Ö).toArray 0)) (out:=((c5 (λi j=>HT.lexLt (ks.getD i [])<|ks.getD j []) es.size).map λi=>Ö<|bs.getD i 0).toArray) k;show q h' _ tk e H (λb o x=>?_) L;rw[Pw (Ā<|Þ x)<|by rw[ϒ];show zb<|Þ x];show á _ x
 by_cases B:2<=es.size
 .show Á<|ł<|Θ tu (s:={s with heap:=h'.push<|ę "list" (bs.map Ö).toArray 0,toks:=tk}) ⟨_,k,rfl⟩ ue (Ci (an:=λi j=>HT.lexLt (ks.getD i [])<|ks.getD j []) () () k (λu R=>?_) ⟨_,rfl,?_⟩)<|su _
  .show UH () O λj b N=>?_;obtain⟨⟨T,⟨o,o1,o2⟩,hi⟩,y⟩:=key j b N;let p:=H _ _ o1;show⟨⟨T,⟨o,R b o (Ā<|Þ p)<|á _ p,o2⟩,hi⟩,y⟩
  .show Ê ⟨_,rfl,fin _ ?_⟩;rw[I];show Ť λi hi=>?_;let hi:i<bs.length:=by have:=Ō.mp ((B2 _ (n:=es.size) ()).mem_iff.mp hi);lia
   simp[ĭ,hi]
 .show Á (ł<|Θ tu (s:={s with heap:=h'.push<|ę "list" (bs.map Ö).toArray 0,toks:=tk}) ⟨_,k,rfl⟩ ue (B3 () k ⟨_,rfl,?_⟩)<|su _);show Ê ⟨_,rfl,fin (bs.map Ö) ?_⟩;match bs,n with
  |[],e=>rw[<- e];change[]=(c5 _ 0).map _;rw[yQ];rfl|[b],e=>rw[<- e];change[Ö b]=(c5 _ 1).map _;rw[B4];rfl|_::_::_,e=>rw[<- e]at B;simp at B
end L3
namespace L3
open PySem L2
abbrev HA(K:Ô):gz->Hp->VK->Prop:=λxs H Q=>∃a ps,xs=[V.ref a]/\H a=b3 (aT a ps)/\eN K H ps/\ps.length<64/\(∀p∈ps,p.1≠[])/\∀l,H l=b4->Q (.ref l) (upd H l<|.lst<|(oU ps).map λp=>V.ref p.2.1)
def UJ(hc:X.calm=dI):Ü X (.builtin "sorted") (HA X.K):=by
 intro o s σ H xs us Q I r h;let⟨a,c,rfl,O,B,N,x,q⟩:=h;let⟨u,rfl,ru⟩:=gR r;ext ru;let⟨lo,n,J,ep,g,A⟩:=vY I O B;let R:J.size=c.length:=by have:=congrArg İ A;apply this
 let L:∀{j:Nat}{b:Addr},(c.map (·.2.1))[j]?=b3 b->∃p∈c,c[j]?=b3 p/\p.2.1=b:=λ{j b} d=>by rw[ÿ]at d;let⟨p,k,K⟩:=ì.mp d;show⟨p,ķ k,k,K⟩
 show UI (bs:=c.map (·.2.1)) (ks:=c.map (·.1)) (I.ok.hd hc) lo g (by rw[A,å];rfl) () ∅ (λj b d=>?_) λv M y e U Y Z=>?_
 .let⟨p,E,k,rfl⟩:=L d;let G:(c.map (·.1)).getD j []=p.1:=by simp[ĭ,k]
  rw[G];let⟨its,rx,t,_⟩:=I.tuple<|B p E;show⟨⟨its,t,xN rx⟩,x p E⟩
 .let z:Â X o σ H {s with heap:=v,toks:=y}:=I.kept (t':=y) U;show⟨.ref v.objs.size,_,z.laid (t':=y) (h':=M) (a:=v.objs.size) (o:=.lst ((oU c).map λp=>V.ref p.2.1)) Y (Ø _) ?_,rfl,q _<|z.hok.fresh<|Ø _⟩;let w:(oU c).length=c.length:=Μ.length_eq;show⟨by rw[Ã,w];show n,_,e,?_,Z⟩;ext oU;rw[R,å];have:∀l:List Nat,(∀i∈l,i<c.length)->Å (l.map<|(λp:List Int×Addr×V=>V.ref p.2.1)∘λi=>c.getD i ([],0,.non)) (l.map λi=>Ö<|(c.map (·.2.1)).getD i 0):=λl n=>by
   induction l with
   |nil=>show .nil|cons i l T=>show .cons ?_<|T λj d=>n j<|ŏ _ d;let hi:=n i<|ţ ..;change Ö _=Ö _;simp[ĭ,hi]
  show this _ λi hi=>Ō.mp<|(jS _ c.length).mem_iff.mp hi
abbrev qD(b:Hm):D->Bool
 |.loc a=>match b[a]? with|some (.dT _)=>dI|_=>b5
 |_=>b5
abbrev fR(f:D->List D->Hm->jk)(b:ME)(c:MA):ME:=λa d=>(b a d).bind λp=>match qD p.2 p.1 with
 |true=>(c a p.2).bind λq=>f p.1 q.1 q.2|false=>b4
abbrev Cp(K:Ô)(x:V)(H:Hp):Prop:=∃a ps,x=.ref a/\H a=b3 (aT a ps)/\eN K H ps
def UK(R:Rp K π H b)(h:Ú K π b.length H v x)(e:qD b x=dI):Cp K v H:=by
 cases h with
 |@loc a g=>
  dsimp[qD]at e;split at e
  .rename_i i c;let⟨d,h1,T⟩:=jT R c;show⟨_,d,rfl,h1,T.keys⟩
  .ext e
 |_=>ext e
def UL{id:String}(q:Slot "dict" name id)(A:M0 (.builtin id)=pure (.type "method_descriptor"))(R:nG X id r)(T:PE X o to)(N:PA X (e::es) t)(i:fu o name X.env (eval o X.env)=eval o X.env)(p:((Ř cpos<|Ă (e::es) X.env).all (λx=>!x.1)&&(kh cpos<|m7 [] X.env).all (λx=>x.1.isSome)&&decide ((e::es).length+([]:List Υ).length+(if([]:List Υ).isEmpty then 0 else 1)<30))=dI)(j:(apos.endLine==cpos.line)=dI)(U:Ă (e::es) X.env=(b5,eval e X.env)::Ă es X.env)(c:(Ř cpos<|Ă es X.env).any (·.1)=b5):
  PE X (.Call (.Attribute o name apos) (e::es) [] cpos) (λk H Q=>to k H λx u=>Cp X.K x u/\t k u λw y=>r x w y Q):=by
 intro d s k H Q I h;show Qk i p j rfl<|aW (T d s k H _ I h) λv s1 ⟨x,u,B,r1,ty,Y⟩=>?_;let⟨a,ps,rfl,K,O⟩:=ty;obtain rfl:v=Ö a:=r1;let⟨lo,hl,w,ep,g,_⟩:=vY B K O;show⟨"dict",id,NS,q,A,g.ty,λb J=>?_,?_⟩
 .ext J;let⟨z,L,M,_⟩:=g;show⟨z,L,M.2.1⟩
 let E:=N cpos d s1 k u _ B Y;rw[U]at E ⊢;show zm (by change(b5||(Ř cpos<|Ă es X.env).any (·.1))=b5;rw[c]<;>rfl)<|Rf ?_;show aW E λus s2 ⟨w,y,G,r2,Z⟩=>R d s2 k y (.ref a) w _ us Q G rfl r2 Z
def UM(A:mQ K f r):∀σ H Q,tM K (fR f mo ms) σ H Q->tM K mo σ H λx g=>Cp K x g/\Ε K ms σ g λvs h=>r x vs h Q:=by
 rintro σ H Q ⟨L,y,J,d,i,R,E,a,k⟩;show bR a ?_;clear a;intro x b h1 a;dsimp at a;split at a
 .rename_i B;show bR a ?_;clear a;intro w c z a;show⟨L,y,J,x,b,R,E,h1,λj I g s q v=>⟨UK q v B,j,y,b,w,c,q,E.mono s,z,λp vs h u R2 G=>?_⟩⟩;show A p h c x w d i I vs Q R2 (v.mono u) G a<|k.after<|s.trans u
 .ext a
def Cq{id:String}(c:Slot "dict" name id)(d:M0 (.builtin id)=pure (.type "method_descriptor"))(j:nG X id r)(h:mQ X.K f r)(p:QE X o mo)(g:QA X (e::es) ms n)(q:lK o=dI)(i:(apos.endLine==cpos.line)=dI)(k:(e::es).length<30):QE X (.Call (.Attribute o name apos) (e::es) [] cpos) (fR f mo ms):=by
 let b:=g.s;let a:=b;rw[Ő,ó]at a;show⟨eM (UL c d j p.h g.h (pW q) (Gx b k) i (iC a.1)<|rL a.2)<|UM h⟩
abbrev fS:D->List D->Hm->jk
 |.loc a,[y,z],μ=>match μ[a]? with
  |some (.dT kvs)=>(dP y).map λk=>((a9 kvs k).getD z,μ)|_=>b4
 |_,_,_=>b4
abbrev HB(K:Ô):V->gz->Hp->VK->Prop:=λx vs H Q=>∃a b ps k z,x=.ref a/\vs=[.ref b,z]/\H a=b3 (aT a ps)/\eN K H ps/\ç K H b (k.map V.int)/\Q ((fK ps k).getD z) H
def UN:mQ K fS (HB K):=by
 intro y H E x B d w v A Q R n c a k;unfold fS at a;split at a
 .split at a
  .rename_i q hc;let⟨h,h1,a⟩:=ì.mp a;ext a;ext n;cases c with
   |cons o t=>
    cases t with
    |cons p t=>
     ext t;let⟨s,i,T⟩:=jT R hc;let⟨b,rfl,j⟩:=qA o h1;show⟨_,b,s,h,_,rfl,rfl,i,T.keys,j,k y _ H .refl R ?_⟩;rcases T.val h with⟨e,g⟩|⟨v,z,e,g,u⟩
     .rw[e,g];show p
     .rw[e,g];show u
  .ext a
 .ext a
def UO(A:X.A.units+1<Ą):nG X "dict.get" (HB X.K):=by
 intro n s O H x M v L Q I G E h;let⟨a,b,g,k,z,rfl,rfl,e,p,o,q⟩:=h;ext G;let⟨u,J,rfl,B,i⟩:=E.two;obtain rfl:u=Ö b:=B;let⟨w,K,j,r,d⟩:=lQ I (.of e) p;show lu RM d.typeIs PySem.F.entry_dict_get (PySem.F.args_dict_get_3 _ _ _) (meetsH_dict_get_default (Ϛ<|ŵ X.prog X.w) a b w J) ⟨rZ A,k,_,nN I o,d,?_⟩;show⟨(fK g k).getD z,H,I.tok _,?_,q⟩;have:=rY r k;cases h1:fK g k with
 |none=>
  rw[h1]at this;cases c:(Ο (cH g j) k).map (·.2)with
  |none=>show i|some y=>rw[c]at this;show this.elim
 |some N=>
  rw[h1]at this;cases c:(Ο (cH g j) k).map (·.2)with
  |none=>rw[c]at this;show this.elim|some y=>rw[c]at this;show this
section
variable{P:ť}{w:ĳ}{K:Type} [DecidableEq K] {knd:M3 P w K}{A:Ŧ}{E:Value->Ù->Prop}{s:Ù}{d a:Addr}{k:K}{xs:List (K×Addr×Value)}
def UP(H:knd.room A)(z:knd.is s.heap k a)(M:s.heap.DictOfH knd d xs)(hz:xs.length<=Ò)(h1:∀p,Ο xs k=b3 p->Q p.2 {s with toks:=s.toks+knd.draws k})(L:Ο xs k=b4->∀u,u.DictOfH knd d (ϙ xs k a v)->Κ d s.heap u->Q v {s with heap:=u,toks:=s.toks+knd.draws k}):
  È (Î P w) A (O7 d (.ref a) v) Q E s:=by
 let⟨o,N,J,g,hc,hd,q,h,B⟩:=id M;ext O7;show ł<|Á<|knd.pyHash H z<|Á<|Q8 (s:={s with toks:=s.toks+knd.draws k}) H z g hd q h B (λi=>?_) λj p G=>?_
 .let b:=QV i;let n:k∉xs.map (·.1):=Q7 i;show Á<|ϛ<|Á<|Qv (hz:=by let e:=N9 q;lia) (s:={s with toks:=s.toks+knd.draws k}) g hd<|Ê<|L b _ ⟨_,_,J+1,ϓ _ g<|NO<|vf hd _,hc.mapDictKeys _,vf hd _,?_,λx c=>?_,?_⟩<|ż ..
  .rw[m9 b];simp[q,yh]
  .rw[m9 b]at c;rcases ĩ.mp c with c|c
   .show knd.keeps (h x c) g hd<|ż ..
   .rw[Ĕ]at c;subst c;show knd.keeps z g hd<|ż ..
  .rw[m9 b,ă,Ϻ];show⟨B,∅,λx c y I e=>by
    dsimp[ö,ϴ,Ĕ]at I;subst I;show n<|e▸c⟩
 .show Á<|ϐ (s:={s with toks:=s.toks+knd.draws k}) g hd ?_;rw[entry_at q j,G];show Á<|ϛ<|Ê<|h1 _<|atKey_of_get B G
def UQ(knd:M3 P w K)d a(hd:(d==ľ)=b5)v:yd P w (Builtin.«dict.setdefault» ⟨[.ref d,.ref a,v],[]⟩) (λA R s=>knd.room A.in1/\∃k xs,knd.is s.heap k a/\s.heap.DictOfH knd d xs/\xs.length<=Ò /\
   (∀p,Ο xs k=b3 p->R (.ok<|.ret p.2) {s with toks:=s.toks+knd.draws k})/\(Ο xs k=b4->∀b,b.DictOfH knd d (ϙ xs k a v)->Κ d s.heap b->R (.ok<|.ret v) {s with heap:=b,toks:=s.toks+knd.draws k})):=
 .of_wp λA R s ⟨o,k,xs,i,g,q,h1,h⟩=>by unfold Builtin.«dict.setdefault»;show Á ?_;ext b4T;show Á<|vg g.typeIs<|Ê ?_;change È _ _ (if(d==ľ)=dI then _ else(O7 d (.ref a) v >>= _)) _ _ s;rw[if_neg<|by rw[hd];show ø];show Á<|UP o i g q (λp n=>Ê ⟨_,rfl,h1 p n⟩) λj b c e=>Ê ⟨v,rfl,h j b c e⟩
end
abbrev jV:D->List D->Hm->jk
 |.loc a,[y,z],μ=>match μ[a]? with
  |some (.dT kvs)=>(dP y).bind λk=>match a9 kvs k with
   |some d=>b3 (d,μ)|none=>if kvs.length<Ò then b3 (z,μ.set a<|.dT<|cC kvs k z)else b4
  |_=>b4
 |_,_,_=>b4
abbrev HC(K:Ô):V->gz->Hp->VK->Prop:=λx vs H Q=>∃a b ps k z,x=.ref a/\vs=[.ref b,z]/\H a=b3 (aT a ps)/\eN K H ps/\ç K H b (k.map V.int)/\((∃v,fK ps k=b3 v/\Q v H)\/(fK ps k=b4/\ps.length<Ò/\Q z (upd H a<|aT a<|eZ ps k b z)))
def UR:mQ K jV (HC K):=by
 intro u H N x M d G v L Q R A h a k;unfold jV at a;split at a
 .split at a
  .rename_i e hc;let⟨c,h1,a⟩:=è.mp a;cases A with
   |loc g=>
    cases h with
    |cons B t=>
     cases t with
     |cons s t=>
      cases t;let⟨i,o,T⟩:=jT R hc;let⟨b,rfl,q⟩:=qA B h1;show⟨_,b,i,c,_,rfl,rfl,o,T.keys,q,?_⟩;let z:i.length=e.length:=by have:=congrArg İ T.to.1;apply this
      rcases T.val c with⟨j,n⟩|⟨v,I,j,n,E⟩
      .rw[n]at a;dsimp at a;split at a
       .rename_i J;ext a;let y:=T.put c q s;let⟨p,w⟩:=R.put (c:=.dT (cC e c d)) (o:=aT _ (eZ i c b _)) g o (.inr<|.inr ⟨_,rfl⟩) ⟨_,rfl,y.to⟩;show .inr ⟨j,(),k u _ _ p w<|s.mono p⟩
       .ext a
      .rw[n]at a;ext a;show .inl ⟨v,j,k u _ H .refl R E⟩
  .ext a
 .ext a
def US(N:X.A.units+1<Ą):nG X "dict.setdefault" (HC X.K):=by
 intro y s σ H x vs v us Q I Y U h;let⟨a,b,o,k,z,rfl,rfl,e,J,E,q⟩:=h;ext Y;let⟨u,Z,rfl,T,g⟩:=U.two;obtain rfl:u=Ö b:=T;let⟨n,hl,ws,r,d⟩:=lQ I (.of e) J;let O:(cH o ws).length<=Ò:=by have:=congrArg İ<|oT r;rw[Ã,Ã]at this;lia
 let c:=rY r k;show lu SR d.typeIs PySem.F.entry_dict_setdefault (PySem.F.args_dict_setdefault_3 _ _ _) (UQ (Ϛ<|ŵ X.prog X.w) a b n Z) ⟨rZ N,k,_,nN I E,d,O,λp L=>?_,λK B i j=>?_⟩
 .rw[L]at c;rcases q with⟨w,h1,q⟩|⟨h1,_⟩
  .rw[h1]at c;show⟨w,H,I.tok _,c,q⟩
  .rw[h1]at c;show c.elim
 .rw[K]at c;rcases q with⟨w,h1,q⟩|⟨h1,hz,q⟩
  .rw[h1]at c;show c.elim
  .let⟨ws',R,A⟩:=yY r k b g;rw[A]at i;let G:∃q,B.get? a=b3 q:=let⟨q,_,_,M,_⟩:=i;⟨q,M⟩;show⟨z,_,xM I (by rw[e];show ϯ) j G<|vU n (by have:=vT o k b z;lia) R i,g,q⟩
def UT{bs:List Addr}(g:ý s.heap d es ep)(o:es.toList.map (·.key)=bs.map Ö)(I:∀b∈bs,s.TypeIs (.ref b) "tuple")(nd:(es.toList.map (·.hash)).Nodup)(q:Q es s):È (Î P w) A (SW H d) Q E s:=by
 let⟨z,u,J,v⟩:=id g;ext SW;show Á<|ϐ u v<|Á ?_;rw[<- Array.forIn_toList];show OS _ (λcG _ c=>c=s/\∀e∈cG,e∈es.toList) _ (λe cG b c ⟨h1,i⟩=>?_) (λb c ⟨h1,_⟩=>?_) _ _ ⟨rfl,λe h=>h⟩
 .subst h1;let h:=i e<|ţ ..;let B:e.key∈bs.map Ö:=by rw[<- o];show Õ.mpr ⟨e,h,rfl⟩
  let⟨a,y,p⟩:=Õ.mp B;let quiet:∀{Q:Bool->Ù->Prop},Q b5 c->È (Î P w) A (Ro e.key) Q E c:=λ{Q} q=>by rw[<- p];ext Ro;show Á<|uf (I a y) PySem.F.slot_tuple_eq.lookup<|Ê q
  show Á<|quiet ?_;let one:((es.filter (·.hash==e.hash)).size>1)=False:=by
   show eq_false λz=>?_;let K:1<(es.toList.filter λx=>x.hash==e.hash).length:=by let k:(es.filter (·.hash==e.hash)).toList=es.toList.filter λx=>x.hash==e.hash:=Array.toList_filter ..;let n:=congrArg İ k;dsimp[ie]at n;lia
   let j:(es.toList.filter λx=>x.hash==e.hash).length=(es.toList.map (·.hash)).count e.hash:=by rw[List.count,List.countP_map,<- List.countP_eq_length_filter];rfl
   have:=List.nodup_iff_count.mp nd e.hash;lia
  dsimp[uc,if_true,one,if_false];show Ê ⟨rfl,λx G=>i x<|ŏ _ G⟩
 .subst h1;show Ê q
noncomputable abbrev v9:=List<|List Int×Addr×Value
inductive dh (A:Ŧ)(s:Ù)(ys:v9):v9->Bool->Prop
 |nil:dh A s ys [] dI
 |miss {x:List Int×Addr×Value}{r:v9}:Ο ys x.1=b4->dh A s ys (x::r) b5
 |hit {x:List Int×Addr×Value}{p:Addr×Value}{r:v9}{e b:Bool}:Ο ys x.1=b3 p->m5 A s x.2.2 p.2 e->dh A s ys r b->dh A s ys (x::r) (e&&b)
noncomputable abbrev Cr(n:Nat):Prop:=n<64
def UU{σ:St}(I:Â X Do σ H s)(k:∀b u,s.heap.get? b=b3 u->h'.get? b=b3 u)(old:∀b,b<s.heap.objs.size->H' b=H b)(new:∀b o,s.heap.objs.size<=b->H' b=b3 o->à X.prog X.w H' h' b o):
  Â X Do σ H' {s with heap:=h',toks:=t'}:=by
 let lt:∀b u,H b=b3 u->b<s.heap.objs.size:=λb u e=>Nat.lt_of_not_le λz=>by rw[I.hok.fresh z]at e;ext e
 let same:∀b u,H b=b3 u->H' b=b3 u:=λb u e=>by rw[old b<|lt b u e];show e
 show I.un ⟨λb u q _ _ _=>k b u q,λb u q _ _ _=>⟨u.slots,k b u q⟩,λb u q n _=>by rw[old b<|Þ q];show n,λb u q _=>⟨u,k b u q⟩,λb d q=>same b _ q,λb u d q=>same b _ q,λb g q=>⟨#[],by rw[same b _ q];simp⟩⟩ λb u e=>?_;by_cases a:b<s.heap.objs.size
 .rw[old b a]at e;show(I.hok b u e).stay (λc v _ q=>k c v q) (λc q=>same c _ q) λc d q=>same c _ q
 .show new b u (QC a) e
abbrev iS(H:Hp):List Addr->bN->Hp
 |a::as,p::ps=>iS (upd H a<|.tup [.ref p.2.1,p.2.2]) as ps|_,_=>H
def sC:∀{as}{ps}{H}{b},b∉as->iS H as ps b=H b
 |[],_,_,_,_=>by simp[iS]
 |a::as,[],_,_,_=>rfl|a::as,p::ps,H,b,h=>by rw[Č,not_or]at h;change iS (upd H a _) as ps b=H b;rw[sC h.2,bQ h.1]
def zD:∀{as:List Addr}{ps:bN}{H:Hp}{i:Nat}{a:Addr}{p:List Int×Addr×V},as.Nodup->as[i]?=b3 a->ps[i]?=b3 p->iS H as ps a=b3 (.tup [.ref p.2.1,p.2.2])
 |[],_,_,_,_,_,_,h,_=>by simp at h
 |_::_,[],_,_,_,_,_,_,h=>by simp at h
 |x::as,y::ps,H,0,a,p,nd,h1,h2=>by
  obtain rfl:x=a:=by apply h1
  obtain rfl:y=p:=by apply h2
  rw[ő]at nd;change iS (upd H x _) as ps x=_;rw[sC nd.1,dU]
 |x::as,y::ps,H,i+1,a,p,nd,h1,h2=>by rw[ő]at nd;show zD (as:=as) (ps:=ps) (i:=i) nd.2 (by apply h1)<|by apply h2
abbrev jW(ps:bN):List Nat:=c5 (λi j=>HT.lexLt ((ps.map (·.1)).getD i [])<|(ps.map (·.1)).getD j []) ps.length
abbrev iD(as:List Addr)(ps:bN):gz:=(jW ps).map λi=>V.ref<|as.getD i 0
def UW{σ:St}(hc:X.calm=dI)(hun:X.A.units+64<Ą)(I:Â X Do σ H s){ps:bN}(e:H d=b3 (aT d ps))(hk:eN X.K H ps)(K:Cr ps.length)(hv:s.heap.IsItemsView r d)(k:∀as L l,as.length=ps.length->(l::L::as).Nodup->(∀a∈l::L::as,H a=b4)->Q (.ref l) (upd (upd (iS H as ps) L<|.lst<|iD as ps) l<|.tup<|iD as ps)):
  È (Î X.prog X.w) X.A (call (.builtin "sorted") [.ref r]) (λv s'=>È (Î X.prog X.w) X.A (call (.type "tuple") [v]) (EP X Do σ Q) X.xe s') X.xe s:=by
 let⟨lo,hl,Z,rv,z,es,ep,z1,z2,z3,z4,z5,z6⟩:=lQ I (.of e) hk;let hwl:Z.length=ps.length:=by have:=rv.length;rw[Ã]at this;show this.symm
 let hxl:(cH ps Z).length=ps.length:=by ext cH;rw[List.length_zipWith,hwl,Po]
 let y:es.size=ps.length:=by rw[<- ie,z4,Ã,hxl]
 let nd:(ps.map (·.1)).Nodup:=by rw[oT rv]at z6;show z6
 let at_:∀(j:Nat)(q:DictEntry),es[j]?=b3 q->∃p u,ps[j]?=b3 p/\Z[j]?=b3 u/\q.key=.ref p.2.1/\q.val=u:=λj q h=>by
  rw[<- Ϸ,z4,ÿ]at h;let⟨x,h1,rfl⟩:=ì.mp h;unfold cH at h1;rw[Rh]at h1;cases A:ps[j]? with
  |none=>rw[A]at h1;simp at h1|some p=>
   cases hw:Z[j]? with
   |none=>rw[A,hw]at h1;simp at h1|some u=>
    rw[A,hw]at h1;have:(p.1,p.2.1,u)=x:=by apply h1
    subst this;show⟨p,u,rfl,rfl,rfl,rfl⟩
 let K:ps.length<64:=K;show UA (an:=λi j=>HT.lexLt ((ps.map (·.1)).getD i [])<|(ps.map (·.1)).getD j []) (I.ok.hd hc) hv ⟨z,z1,z2,z3⟩ () (λh22 U J as kp T G=>?_) λU J as L q kp T G hL nL gL=>?_
 .let I3:Â X Do σ H {s with heap:=U,toks:=J}:=I.kept (t':=J) kp;show Uz (A:=X.A.in1.in1) (s:={s with heap:=U,toks:=J}) (bs:=ps.map (·.2.1)) (ks:=ps.map (·.1)) (by change X.A.units+1+1<Ą;lia) G () T (by rw[Ã,y]) (by rw[Ã,y]) (λj q w=>?_) nd;let⟨p,u,E,p2,p3,p4⟩:=at_ j q w;let n:j<ps.length:=(ä.mp E).1;let g:(ps.map (·.2.1)).getD j 0=p.2.1:=by simp[ĭ,E]
  let ek:(ps.map (·.1)).getD j []=p.1:=by simp[ĭ,E]
  rw[g,ek];let sq:=hk p<|ķ E;show⟨p3,nN I3 sq,?_⟩;let⟨xs,rx,t,_⟩:=I3.tuple sq;show⟨xs,t,a8y rx⟩
 .rw[y]at gL T;let B:as.Nodup:=G.up.imp λh=>Ā h;let hin:∀i∈jW ps,i<ps.length:=λi hi=>Ō.mp<|(jS _ _).mem_iff.mp hi;let R:(jW ps).length=ps.length:=by have:=(jS (λi j=>HT.lexLt ((ps.map (·.1)).getD i [])<|(ps.map (·.1)).getD j []) ps.length).length_eq;rw[ou]at this;show this
  let nLa:L∉as:=λh=>nL L h rfl;let I1:Â X Do σ (upd (iS H as ps) L<|.lst<|iD as ps) {s with heap:=U,toks:=J}:=by
   show UU (t':=J) I kp (λb Y=>?_) λb o Y g=>?_
   .rw[bQ<|Ā<|Ļ Y hL,sC λh=>Nat.lt_asymm Y<|G.over b h]
   .by_cases N:b=L
    .subst N;rw[dU]at g;ext g;show⟨by ext iD;rw[Ã,R];show hl,(jW ps).map λi=>Ö<|as.getD i 0,q,?_,gL⟩;ext iD;show Cj λi _=>rfl
    .rw[bQ N]at g;by_cases O:b∈as
     .let⟨j,w⟩:=zj.mp O;let n:j<ps.length:=by have:=(ä.mp w).1;lia
      have A:ps[j]?=b3 ps[j]:=ā n;rw[zD B w A]at g;ext g;let⟨x,x1,x2⟩:=G.prs j _ w;let⟨p,u,E,p2,p3,p4⟩:=at_ j x x1;rw[A]at E;ext E;let⟨u',g1,g2⟩:=rv.get (i:=j) (x:=ps[j].2.2) (by rw[ÿ,A];rfl);rw[p2]at g1;ext g1;rw[p3,p4]at x2;show⟨by change(2:Nat)<=Ò;decide,[.ref ps[j].2.1,u],.cons rfl<|.cons g2 .nil,_,x2,rfl,0,rfl,rfl⟩
     .rw[sC O,I.hok.fresh Y]at g;ext g
  show b0l Do _ σ _ [.ref L] [.ref L] Q I1 (.cons rfl .nil) ⟨L,iD as ps,rfl,.inl ⟨.inl<|.inl dU,λl c=>?_⟩⟩;let lL:l≠L:=λh=>by rw[h,dU]at c;ext c
  rw[bQ lL]at c;let la:l∉as:=λh=>by
   let⟨j,w⟩:=zj.mp h;let n:j<ps.length:=by have:=(ä.mp w).1;lia
   rw[zD B w<|ā n]at c;ext c
  rw[sC la]at c;show k as L l T ?_ λa M=>?_
  .rw[ő,ő];show⟨λh=>(Č.mp h).elim lL la,nLa,B⟩
  .rcases Č.mp M with rfl|M
   .show c
   rcases Č.mp M with rfl|M
   .show I.hok.fresh hL
   .show I.hok.fresh<|Rr<|G.over a M
abbrev zE(k:List Int×D):D:=.tup [.tup<|k.1.map D.int,k.2]
abbrev zF:D->Hm->jk
 |.loc a,μ=>match μ[a]? with
  |some (.dT kvs)=>if Cr kvs.length then b3 (.tup<|(oV kvs).map zE,μ)else b4|_=>b4
 |_,_=>b4
abbrev zG(m:ME):ME:=λb a=>(m b a).bind λr=>zF r.1 r.2
abbrev HD(K:Ô):V->Hp->VK->Prop:=λx H Q=>∃a ps,x=.ref a/\H a=b3 (aT a ps)/\eN K H ps/\Cr ps.length /\
 ∀(as:List Addr)(L l:Addr),as.length=ps.length->(l::L::as).Nodup->(∀a∈l::L::as,H a=b4)->Q (.ref l) (upd (upd (iS H as ps) L<|.lst<|iD as ps) l<|.tup<|iD as ps)
def UX(hc:X.calm=dI)(B:X.A.units+64<Ą)(y:X.mg "sorted"=b4)(A:X.mg "tuple"=b4)(u:Gl X "sorted")(w:Gl X "tuple")(U:PE X o to)(c:fu o "items" X.env (eval o X.env)=eval o X.env)(d:(apos.endLine==cpos.line)=dI):
  PE X (.Call (.Name "tuple" p) [.Call (.Name "sorted" p2) [.Call (.Attribute o "items" apos) [] [] cpos] [] pos2] [] pos) (λj H Q=>to j H λx k=>HD X.K x k Q):=by
 intro i s j H Q I h;show bx<|kE I w A SS ?_;show qe ?_ rfl rfl;show NN ?_;show bx<|kE I u y PM ?_;show Sa ?_ rfl rfl;show NN ?_;show P5 c d<|aW (U i s j H _ I h) λv E ⟨x,k,G,r1,a,ps,O,e,J,n,q⟩=>?_;subst O;obtain rfl:v=Ö a:=r1;let⟨Z,hl,N,M,g,he⟩:=vY G e J;show⟨"dict","dict.items",NS,NT,S8,g.ty,λb L=>?_,zm rfl<|P1 ?_⟩
 .ext L;let⟨z,R,T,_⟩:=g;show⟨z,R,T.2.1⟩
 show lu NT g.ty Rl (Rt _) (Hu a Z) ⟨⟨N,M,g⟩,?_⟩;show NJ ?_;let K:Â X i j k {E with heap:=E.heap.push {cls:=.type "dict_items",data:=.fields #[.ref a]}}:=G.kept (t':=E.toks) λb o e=>á _ e;show aW (UW hc B K e J n ⟨_,Ċ _ rfl,rfl,rfl⟩ q) λv s' Y=>NJ Y
def HE:∀{as}{ps}{H},Rp K π H c->as.Nodup->(∀a∈as,H a=b4)->õ π c.length H π c.length (iS H as ps)/\Rp K π (iS H as ps) c
 |[],_,H,R,_,_=>by dsimp[iS];show⟨.refl,R⟩
 |a::as,[],H,R,_,_=>⟨.refl,R⟩|a::as,p::ps,H,R,nd,hf=>by
  rw[ő]at nd;let⟨g,e⟩:=R.fresh (o:=.tup [.ref p.2.1,p.2.2])<|hf a<|ţ ..;let⟨h,R2⟩:=HE (as:=as) (ps:=ps) e nd.2 λb d=>by rw[bQ λw:b=a=>nd.1<|w▸d];show hf b<|ŏ _ d
  show⟨g.trans h,R2⟩
def UY:∀σ H Q,tM K (zG O) σ H Q->tM K O σ H λx n=>HD K x n Q:=by
 rintro σ H Q ⟨π,ρ,μ,d,o,R,E,g,k⟩;show bR g ?_;clear g;intro x z h1 g;show⟨π,ρ,μ,x,z,R,E,h1,λh v1 n e1 A i1=>?_⟩;let k1:=k.after e1;dsimp at g;unfold zF at g;split at g
 .split at g
  .rename_i b hc;split at g
   .rename_i hb;ext g;ext i1;let⟨c,e2,T⟩:=jT A hc;let N:c.length=b.length:=by have:=congrArg İ T.to.1;apply this
    show⟨_,c,rfl,e2,T.keys,by rw[N];show hb,λe L l al nd u=>?_⟩;rw[ő,ő]at nd;let⟨B,X⟩:=HE (ps:=c) A nd.2.2 λa ha=>u a<|ŏ _<|ŏ _ ha;let hL:iS n e c L=none:=by rw[sC nd.2.1];show u L<|ŏ _<|ţ ..
    let⟨G,Y⟩:=X.fresh (o:=.lst (iD e c)) hL;let hl:upd (iS n e c) L (.lst<|iD e c) l=none:=by rw[bQ λw:l=L=>nd.1<|by rw[w];show ţ ..,sC λw=>nd.1<|ŏ _ w];show u l<|ţ ..
    let⟨I,Z⟩:=Y.fresh (o:=.tup (iD e c)) hl;show k1 h _ _ ((B.trans G).trans I) Z<|.tup (.of dU) ?_;let y:c.map (·.1)=b.map (·.1):=T.to.1;let key:∀p:List Nat,(∀i∈p,i<b.length)->Ç K h o.length (upd (upd (iS n e c) L<|.lst<|iD e c) l<|.tup<|iD e c) (p.map λi=>V.ref<|e.getD i 0) (p.map<|zE∘λi=>b.getD i ([],.non)):=λp s=>by
     induction p with
     |nil=>show .nil|cons i p ih=>
      have hi:=s i<|ţ ..;let q:e[i]?=b3 (e.getD i 0):=by simp[ĭ,show i<e.length by lia]
      have v:c[i]?=b3 c[i]:=ā ();let hik:b[i]?=b3 b[i]:=ā hi;let J:b.getD i ([],.non)=b[i]:=by simp[ĭ,hi]
      have ep:c.getD i ([],0,.non)=c[i]:=by simp[ĭ,show i<c.length by lia]
      have U:=Hv T ([],0,.non) ([],.non) i ();rw[ep,J]at U;let⟨q1,q2,q3⟩:=U;show .cons ?_<|ih λj hj=>s j<|ŏ _ hj;let at_:upd (upd (iS n e c) L<|.lst<|iD e c) l (.tup<|iD e c) (e.getD i 0)=b3 (.tup [.ref c[i].2.1,c[i].2.2]):=by let g:=ķ q;rw[bQ λw:e.getD i 0=l=>nd.1<|by rw[<- w];show ŏ _ g,bQ λw:e.getD i 0=L=>nd.2.1<|by rw[<- w];show g];show zD nd.2.2 q v
      change Ú K h o.length _ (.ref<|e.getD i 0) (zE<|b.getD i ([],.non));rw[J];let M:=(B.trans G).trans I;let ik:Ú K h o.length n (.ref c[i].2.1) (.tup<|b[i].1.map D.int):=by rw[<- q1];show .tup q2<|B6 _
      show .tup (.of at_)<|.cons (ik.mono M)<|.cons (q3.mono M) .nil
    let ey:iD e c=(c5 (λi j=>HT.lexLt ((b.map (·.1)).getD i [])<|(b.map (·.1)).getD j []) b.length).map λi=>V.ref (e.getD i 0):=by ext iD jW;rw[y,N]
    let fin:=key (c5 (λi j=>HT.lexLt ((b.map (·.1)).getD i [])<|(b.map (·.1)).getD j []) b.length) λi hi=>Ō.mp<|(jS _ _).mem_iff.mp hi;rw[<- ey]at fin;ext oV;rw[å];show fin
   .ext g
  .ext g
 .ext g
def UZ(hc:X.calm=dI)(i:X.A.units+64<Ą)(g:X.mg "sorted"=b4)(h:X.mg "tuple"=b4)(d:Gl X "sorted")(e:Gl X "tuple")(n:QE X o j)(q:lK o=dI)(k:(a.endLine==b.line)=dI):
  QE X (.Call (.Name "tuple" p) [.Call (.Name "sorted" s) [.Call (.Attribute o "items" a) [] [] b] [] c] [] pos) (zG j):=
 ⟨eM (UX hc i g h d e n.h (pW q) k) UY⟩
def U0 d(hd:(d==ľ)=b5):yd P w (Builtin.«dict.values» ⟨[.ref d],[]⟩) (λ_ R s=>(∃es ep,ý s.heap d es ep) /\
   R (.ok<|.ret<|.ref s.heap.objs.size) {s with heap:=s.heap.push {cls:=.type "dict_values",data:=.fields #[.ref d]}}):=
 .of_wp λA R s ⟨⟨es,ep,g⟩,h⟩=>by change È _ _ (Ou "values" _ >>= _) _ _ s;show Á ?_;ext Ou;show Á<|vg g.ty ?_;change È _ _ (pure d) _ _ s;show Ê ?_;change È _ _ (nu d >>= _) _ _ s;ext nu;rw[if_neg<|by rw[hd];show ø];show Á<|Ê ?_;show Á<|Ż<|Ê ⟨_,rfl,h⟩
def U1(c:s.heap.IsValuesView v d)(g:ý s.heap d es ep)(q:Q (.ref s.heap.objs.size) {s with heap:=s.heap.push {cls:=.type "dict_valueiterator",data:=.fields #[.ref d,.int 0 0,.int es.size 0,.int ep 0]}}):È (Î P w) A (J4<|.ref v) Q E s:=by
 let⟨n,b,j,a⟩:=id c;let⟨z,e,k,h⟩:=id g;show OM c.typeIs F.slot_dict_values_iter<|Θ F.slot_dict_values_iter c.typeIs F.entry_dict_values_iter ?_<|F.args_dict_values_iter_1 _;unfold Builtin.«dict_values.__iter__»;show Á<|Ê<|Á ?_;ext Sb;show Á<|Φ b a (x:=.ref d) rfl<|Ê<|Á ?_;ext SU;show Á<|ϐ e h<|Á<|ir e h ?_;dsimp[show zy "dict_valueiterator"=b5 by decide,ŀ,if_false];show Ż<|Ê ⟨_,rfl,"dict_valueiterator",_,⟨_,Ċ _ rfl,rfl⟩,F.slot_dict_valueiterator_next.lookup,?_⟩;simpa[Ŝ]using q
def HF(v:A.handled=b4)(j:s.heap.IsValIter it d i es.size ep)(g:ý s.heap d es ep)(G:∀e a,es[i]?=b3 e->a.IsValIter it d (i+1) es.size ep->Κ it s.heap a->Q (b3 e.val) {s with heap:=a})(H:es[i]?=b4->∀a,R4 it s.heap a->Q b4 {s with heap:=a}):È (Î P w) A (š<|.ref it) Q E s:=by
 let⟨y,h,B,b⟩:=id j;let⟨z,n,I,o⟩:=id g;let k:∀{Q:String->Ù->Prop}{A:Ŧ}{E:Value->Ù->Prop},Q "dict_valueiterator" s->È (Î P w) A (OD<|.ref it) Q E s:=λq=>wpAny_typeNameOfWhole_valiter j.typeIs q;ext š;show Á<|Mw<|vo (name:=ű "__next__") j.typeIs F.slot_dict_valueiterator_next<|Θ F.slot_dict_valueiterator_next j.typeIs F.entry_dict_valueiterator_next ?_<|F.args_dict_valueiterator_next_1 _;show Á<|Ê<|Á<|Á<|Á<|k<|Ê<|Á<|O8 h b ?_;dsimp[show zy "dict_valueiterator"=b5 by decide,ŀ,if_false];change È _ _ (if(Ö d==Ŀ)=dI then _ else _) _ _ _;rw[if_neg<|show ¬ (Ö d==Ŀ)=dI from λx=>ø x];show Á<|Ê<|Á<|ϐ n o ?_;rw[if_neg λx=>by simp at x];show Á<|Ê<|Á<|ir n o ?_;rw[if_neg λx=>by simp at x];show Ê ?_;dsimp[if_neg<|show ¬ ((i:Int)<0) by lia,bw];cases p:es[i]? with
 |some e=>
  show Á<|Á<|k<|Ê<|Á<|P0 j.typeIs ?_;change È _ _ (qu (.ref it) 1 (Ŝ<|(i:Int)+1) >>= _) _ _ _;show Á (my h b ∅ ?_);let c:(s.heap.update it<|MX (·.setIfInBounds 1<|Ŝ<|(i:Int)+1)).IsValIter it d (i+1) es.size ep:=
   ⟨_,ϓ _ h<|P4<|uo b _,(Om ..).trans B,by simp[uo b,Ŝ]⟩
  generalize hu:s.heap.update it (MX (·.setIfInBounds 1<|Ŝ<|(i:Int)+1))=u at c;show Á<|ł<|Á<|P0 (s:={s with heap:=u}) c.typeIs<|Á<|P0 (s:={s with heap:=u}) c.typeIs ?_;change È _ _ (pure e.val) _ _ _;show Ê<|Ê ⟨_,rfl,Ê<|G e u p c<|hu▸ż ..⟩
 |none=>show Á<|Á<|k<|Ê ?_;change È _ _ (qu (.ref it) 0 .none >>= _) _ _ _;show Á (my h b ∅ ?_);change È _ _ (dw (.type "StopIteration") [] >>= _) _ _ _;dsimp[dw,ye];show Á (Á<|Ż ?_<|by size_fits);show Á (m:=gh _ _) (mD (a:=Ŀ) (by first|rfl|(dsimp[gh];rfl))<|Ż ?_<|by size_fits);dsimp[MB];show Á<|Mx ?_;rw[show A.in1.handled=b4 from v];show Á<|Ê<|MR ?thrown;case thrown=>show Á<|mY (T:="StopIteration") (b:=dI) ⟨_,Ċ _ rfl,rfl⟩ MV<|Ê<|H p _<|((ż ..).extBut.push _).push _
abbrev Ct(d:Addr)(ob:Obj)(ps:bN):It:=⟨λi H=>H d=b3 (.frz ob<|aT d ps)/\i<ps.length,λi H x a=>a=H/\∃p,ps[i]?=b3 p/\x=p.2.2,λi H=>H d=b3 (.frz ob<|aT d ps)/\ps.length<=i⟩
def U2(hd:ob.data=.dict es ep):Ń Qc P w K tg (Ct d ob ps) [q] q (λi h=>h.IsValIter q d i es.size ep) where
 mem:=∅
 obj:=λi h st b j=>by
  let e:b=q:=by apply j
  subst e;let⟨o,e,c,d⟩:=st;show⟨o,e,λv z=>by rw[d]at z;ext z⟩
 keep:=λi h y st k=>let⟨o,e,c⟩:=st;⟨o,k q ∅ o e,c⟩;item:=by
  intro X U hw T hc i x s σ H E I G st Y;subst U hw T;let⟨p,A⟩:=Y;let⟨lo,hl,L,J,g,a,B⟩:=v8 I p;rw[hd]at a;ext a;let hs:es.size=ps.length:=by have:=B.length;rw[Ã,Ã,ie]at this;show this.symm
  let⟨M,N,f2,O,Q,R⟩:=G q ∅;show HF (I.ok.hd hc) st g (λe y n j' sb=>?_) λhn=>by simp at hn;lia
  let I1:Â X x σ H {s with heap:=y}:=I.turned (t':=s.toks) (λb o j e=>(sb.2 b j).trans e) M N O Q R;let⟨o,e1,c,d1⟩:=id j';let Z:ps[i]?=b3 ps[i]:=ā A;let⟨u,u1,u2⟩:=B.get (i:=i) (x:=ps[i].2.2) (by rw[ÿ,Z];rfl);rw[ÿ,Ϸ,n]at u1;ext u1;show⟨e.val,rfl,sW (s:={s with heap:=y}) e1 c d1 ⋯ ⟨ps[i].2.2,H,I1,u2,⟨rfl,ps[i],Z,rfl⟩,j',λb j=>(G b j).1⟩⟩
 done:=by
  intro X U hw T hc i x s σ H E I G st Y;subst U hw T;let⟨p,A⟩:=Y;let⟨lo,hl,L,J,g,a,B⟩:=v8 I p;rw[hd]at a;ext a;let hs:es.size=ps.length:=by have:=B.length;rw[Ã,Ã,ie]at this;show this.symm
  let⟨M,N,f2,O,Q,R⟩:=G q ∅;show HF (I.ok.hd hc) st g (λe y n=>by
   have:=(PH.mp n).1;lia) λ_ y eb=>⟨rfl,I.turned (t':=s.toks) (λb o j e=>eb b o j e) M N O Q R⟩
 self:=λ_ _ _ _ _ st h=>wpAny_pyIter_valiter st h
def U3(J:PE X l K)(j:fu l "values" X.env (eval l X.env)=eval l X.env)(k:(a.endLine==c.line)=dI):
  PI X tg (.Call (.Attribute l "values" a) [] [] c) (λu H R=>K u H λv n=>∃d ob B,v=.ref d/\n d=b3 (.frz ob<|aT d B)/\R (Ct d ob B) n):=by
 intro i s u H R I h;show P5 j k<|aW (J i s u H _ I h) λv p ⟨y,n,E,r1,q1⟩=>?_;let⟨d,ob,B,e,G,q⟩:=q1;subst e;obtain rfl:v=Ö d:=r1;let⟨lo,J,O,M,g,hd,he⟩:=v8 E G;show⟨"dict","dict.values",NS,Rn,PySem.F.type_dict_values,g.ty,λb L=>?_,zm rfl<|P1 ?_⟩
 .ext L;let⟨z,T,x,_⟩:=g;show⟨z,T,x.2.1⟩
 show lu Rn g.ty PySem.F.entry_dict_values (PySem.F.args_dict_values_1 _) (U0 d lo) ⟨⟨O,M,g⟩,?_⟩;let w:Â X i u n {p with heap:=p.heap.push {cls:=.type "dict_values",data:=.fields #[.ref d]}}:=E.kept (t':=p.toks) λb o e=>á _ e;let⟨lo2,Z,Q,N,x,A,Y⟩:=v8 w G;change È (Î X.prog X.w) X.A (J4<|.ref p.heap.objs.size) (A9 X i u tg R) X.xe _;show U1 ⟨_,Ċ _ rfl,rfl,rfl⟩ x ⟨_,[_],_,_,n,rfl,w.kept (t':=p.toks) λb o e=>á _ e,U2 A,⟨_,Ċ _ rfl,rfl,rfl⟩,λb U=>?_,q⟩;let e:=Ĕ.mp U;subst e;show w.fpOk (Ø _)<|w.hok.fresh<|Ø _
abbrev mS(kvs:jx):List D:=kvs.map (·.2)
def U4{ps:bN}(c:H d=b3 (.frz ob<|aT d ps))(T:ï K π n H ps kvs):Wk K (Ct d ob ps) (dC<|.tup<|mS kvs) π n H:=by
 let w:ps.length=kvs.length:=by have:=congrArg İ T.to.1;apply this
 show⟨λb s g i e R z=>?_,λb s g i h e R z=>?_⟩
 .let a:(mS kvs)[i]?=none:=Ė z;have:=τ.mp a;rw[mS,Ã]at this;show⟨e.frz _ _ _ c,()⟩
 .let a:(mS kvs)[i]?=b3 h:=Ė z;let hi:i<kvs.length:=by have:=(ä.mp a).1;rwa [mS,Ã]at this
  show⟨⟨e.frz _ _ _ c,()⟩,λv u ⟨j,p,k,o⟩=>?_⟩;subst j o;let⟨x,h1,q⟩:=(T.to.2.2.mono e).get a;rw[ÿ,k]at h1;ext h1;show⟨.refl,R,q⟩
abbrev tZ(m:ME):MI:=λc b=>(m c b).bind λp=>match p.1 with
 |.loc a=>match p.2[a]? with
  |some (.dF kvs)=>b3 (dC<|.tup<|mS kvs,kvs.length+1,p.2)|_=>b4
 |_=>b4
def U5(h:QE X e m)(u:lK e=dI)(q:(b.endLine==c.line)=dI):QJ X (.Call (.Attribute e "values" b) [] [] c) (tZ m):=⟨λtg Do s σ H R I hw=>by
 let⟨J,K,A,z,n,B,o,E,a,k⟩:=hw;show bR a ?_;clear a;intro x G h1 a;dsimp at a;split at a
 .split at a
  .rename_i w hc;ext a;show U3 h.h (pW u) q Do s σ H R I ⟨J,K,A,_,_,o,E,h1,λd L j p g v=>?_⟩;ext v;let⟨ob,y,i,T⟩:=vV g hc;show⟨_,ob,y,rfl,i,k d j _ p g<|U4 i T⟩
  .ext a
 .ext a⟩
def U6{items}(hit:s.heap.IsTupleIter a t i)(h:s.heap.IsTuple t items)(j:items[i]?=b3 x)(g:∀c,c.IsTupleIter a t (i+1)->Κ a s.heap c->Q x {s with heap:=c}):È (Î prog w) A (jc<|.ref a) Q E s:=by
 let⟨o,b,hc,hd⟩:=id hit;let⟨k,e,_,nl,d⟩:=h;ext jc;show Á<|vo (name:=ű "__next__") hit.typeIs F.slot_tuple_iterator_next<|Θ F.slot_tuple_iterator_next hit.typeIs F.entry_tuple_iterator_next ?_<|F.args_tuple_iterator_next_1 _;change È _ _ (qm (.ref a) 0 >>= _) _ _ s;show Á<|Φ b hd (x:=.ref t) rfl ?_;change È _ _ (if(Ö t==Ŀ)=dI then _ else _) _ _ s;rw[if_neg<|show ¬ ((Ö t==Ŀ)=dI)from ø];change È _ _ (qm (.ref a) 1 >>= _) _ _ s;show Á<|Φ b hd (x:=.int i 0) rfl ?_;change È _ _ (fc (.ref t) >>= _) _ _ s;show Á<|ϟ e d ?_;dsimp[bw,j];show Á (my b hd ∅<|Ê ⟨x,rfl,Ê<|g _ ?_<|ż ..⟩);show⟨_,ϓ _ b<|P4<|uo hd _,(Om ..).trans hc,by rw[uo hd];simp[Ŝ]⟩
def U7{items}(h:A.handled=b4)(hit:s.heap.IsTupleIter a t i)(k:s.heap.IsTuple t items)(n:items[i]?=b4)(j:∀b e,R4 a s.heap b->(∃o,b.get? e=b3 o/\o.cls=.type "StopIteration")->E (.ref e) {s with heap:=b}):È (Î prog w) A (jc<|.ref a) Q E s:=by
 let⟨o,d,hc,hd⟩:=id hit;let⟨p,g,_,nl,c⟩:=k;ext jc;show Á<|vo (name:=ű "__next__") hit.typeIs F.slot_tuple_iterator_next<|Θ F.slot_tuple_iterator_next hit.typeIs F.entry_tuple_iterator_next ?_<|F.args_tuple_iterator_next_1 _;change È _ _ (qm (.ref a) 0 >>= _) _ _ s;show Á<|Φ d hd (x:=.ref t) rfl ?_;change È _ _ (if(Ö t==Ŀ)=dI then _ else _) _ _ s;rw[if_neg<|show ¬ ((Ö t==Ŀ)=dI)from ø];change È _ _ (qm (.ref a) 1 >>= _) _ _ s;show Á<|Φ d hd (x:=.int i 0) rfl ?_;change È _ _ (fc (.ref t) >>= _) _ _ s;show Á<|ϟ g c ?_;dsimp[bw,n];show Á (ϛ<|Á<|my d hd ∅ ?_);change È _ _ (dw (.type "StopIteration") [] >>= _) _ _ _;show Á ?_;dsimp[dw,ye];show Á (Ż ?_<|by size_fits);show Á (m:=gh _ _) (mD (a:=Ŀ) (by first|rfl|(dsimp[gh];rfl)) ?_);show Ż ?_ (by size_fits);dsimp[MB];show Á<|Mx ?_;first|rw[show A.in1.handled=b4 from h]|rw[h]
 show Á<|Ê<|MR<|j _ _ (((ż ..).extBut.push _).push _) ⟨_,Ċ _ rfl,rfl⟩
abbrev Α(b:Bool)(h:ñ)(l:Addr)(xs:Array Value):Prop:=if b=dI then h.IsTuple l xs else h.IsList l xs
abbrev į(b:Bool)(h:ñ)(i l:Addr)(k:Nat):Prop:=if b=dI then h.IsTupleIter i l k else h.IsListIter i l k
def Α.ext(p:Α b h l xs)(e:R4 c h h')(n:l≠c):Α b h' l xs:=by
 ext b
 .show b5h p e n
 .show b4N p e n
def į.ext(p:į b h i l k)(e:R4 c h h')(n:i≠c):į b h' i l k:=by
 ext b
 .show b3K p e n
 .show b3t p e n
def į.at_(p:į b h i l k)(e:∀o,h.get? i=b3 o->h'.get? i=b3 o):į b h' i l k:=by
 ext b
 .show b3L p e
 .show b3u p e
def į.ob(p:į b h i l k):∃o,h.get? i=b3 o/\∃f,o.data=.fields f:=by ext b<;>show let⟨o,e,_,d⟩:=p;⟨o,e,_,d⟩
def U8(hit:į b s.heap a t i)(e:Α b s.heap t items)(g:items[i]?=b3 x)(d:∀c,į b c a t (i+1)->Κ a s.heap c->Q x {s with heap:=c}):È (Î prog w) A (jc<|.ref a) Q E s:=by
 ext b
 .show b2n hit e g d
 .show U6 hit e g d
def U9(g:A.handled=b4)(hit:į b s.heap c t i)(h:Α b s.heap t items)(j:items[i]?=b4)(d:∀a e,R4 c s.heap a->(∃o,a.get? e=b3 o/\o.cls=.type "StopIteration")->E (.ref e) {s with heap:=a}):È (Î prog w) A (jc<|.ref c) Q E s:=by
 ext b
 .show b2N g hit h j d
 .show U7 g hit h j d
def HG{TI TO:Addr}(hh:A.handled=b4)(D:Nh z TI TO i1 i2 l1 l2)(hz:ό s.heap z TI TO .none)(hTI:Ζ s.heap TI (.ref i1) (.ref i2))(hTO:Ζ s.heap TO a b)(h1:į t s.heap i1 l1 k1)(h2:s.heap.IsListIter i2 l2 k2)(hl1:Α t s.heap l1 xs)(hl2:s.heap.IsList l2 ys)(hQ:∀x y G,xs[k1]?=b3 x->ys[k2]?=b3 y->ό G z TI TO (Ŝ s.heap.objs.size)->Ζ G TO x y->į t G i1 l1 (k1+1)->G.IsListIter i2 l2 (k2+1)->Ζ G s.heap.objs.size x y->G.objs.size=s.heap.objs.size+1->
   (∀c o,c≠z->c≠TO->c≠i1->c≠i2->s.heap.get? c=b3 o->G.get? c=b3 o)->Q (b3<|.ref s.heap.objs.size) {s with heap:=G})(hE:∀G,(xs[k1]?=b4\/ys[k2]?=b4)->(∀c o,c≠z->c≠TO->c≠i1->c≠i2->s.heap.get? c=b3 o->G.get? c=b3 o)->Q b4 {s with heap:=G}):
  È (Î prog w) A (š<|.ref z) Q E s:=by
 let hT:s.TypeIs (.ref z) "zip":=⟨_,hz,rfl⟩;let stop:∀G e,(xs[k1]?=b4\/ys[k2]?=b4)->(∀c o,c≠z->c≠TO->c≠i1->c≠i2->s.heap.get? c=b3 o->G.get? c=b3 o)->(∃o,G.get? e=b3 o/\o.cls=.type "StopIteration")->
   È (Î prog w) A (do if <- isInstance (.ref e) (.type "StopIteration")then pure b4 else throw (.ref e)) Q E {s with heap:=G}:=λG e hn hk ⟨o,ho,hc⟩=>
  Á<|mY (T:="StopIteration") (b:=dI) ⟨o,ho,hc⟩ MV<|Ê<|hE _ hn hk
 ext š;show Á<|Mw<|vo (name:=ű "__next__") hT F.slot_zip_next<|Θ F.slot_zip_next hT F.entry_zip_next ?_<|F.args_zip_next_1 _;change È _ _ (qm (.ref z) 2 >>= _) _ _ _;show Á<|Φ hz rfl (x:=.bool b5) rfl ?_;change È _ _ (qm (.ref z) 3 >>= _) _ _ _;show Á<|Φ hz rfl (x:=.ref TI) rfl ?_;show Á<|ϟ hTI rfl ?_;change È _ _ (Si (.ref z) >>= _) _ _ _;show Á ?_;ext Si;show Á<|Φ hz rfl (x:=.none) rfl<|Ê ?_;dsimp[if_true];show Á<|ϛ ?_;show Á<|Φ hz rfl (x:=.ref TO) rfl ?_;show Á (ϻ hz ∅ λg₁ q i=>?_);replace q:ό g₁ z TI TO .ellipsis:=q;show Á ?_;dsimp[List.zipIdx_cons,List.zipIdx_nil,ON,Q4];show Á<|Á<|wpAny_onRaise ?_;change È _ _ (jc (.ref i1) >>= _) _ _ _;let t1:=h1.ext i.extBut D.i1z;let tl:=hl1.ext i.extBut D.l1z;cases hx:xs[k1]? with
 |none=>
  show Á<|U9 hh t1 tl hx λN e g he=>?_;let⟨oe,H,T⟩:=he;let X:ό N z TI TO .ellipsis:=g _ _ D.i1z.symm q;let hez:e≠z:=λx=>by subst x;rw[X]at H;ext H;simp at T
  show ϻ X ∅ λv _ h=>stop v e (.inl hx) (λc o c1 _ c3 _ x=>h.extBut _ _ c1<|g _ _ c3<|i.extBut _ _ c1 x) ⟨oe,h.extBut _ _ hez H,T⟩
 |some x=>
  show Á<|U8 t1 tl hx λN xu g=>Ê ?_;let L:Ζ N TO a b:=g.extBut _ _ D.TOi1<|i.extBut _ _ D.TOz hTO;show Á<|ϟ L rfl ?_;show Á<|b2U L λv p h=>?_;replace p:Ζ v TO x b:=p;show Á<|bh<|Ê ?_;show Á<|Á<|wpAny_onRaise ?_;change È _ _ (jc (.ref i2) >>= _) _ _ _;let t2:=((h2.extBut i.extBut D.i2z).extBut g.extBut D.i12.symm).extBut h.extBut D.TOi2.symm;let PZ:=((hl2.extBut i.extBut D.l2z).extBut g.extBut D.l2i1).extBut h.extBut D.l2TO;let Y:ό v z TI TO .ellipsis:=h.extBut _ _ D.TOz.symm<|g.extBut _ _ D.i1z.symm q;let U:∀c o,c≠z->c≠TO->c≠i1->s.heap.get? c=b3 o->v.get? c=b3 o:=λc o c1 c2 c3 e=>h.extBut _ _ c2<|g.extBut _ _ c3<|i.extBut _ _ c1 e;cases hy:ys[k2]? with
  |none=>
   show Á<|b2N hh t2 PZ hy λO e j he=>?_;let⟨oe,H,T⟩:=he;let Z:ό O z TI TO .ellipsis:=j _ _ D.i2z.symm Y;let hez:e≠z:=λx=>by subst x;rw[Z]at H;ext H;simp at T
   show ϻ Z ∅ λd _ k=>stop d e (.inr hy) (λc o c1 c2 c3 c4 x=>k.extBut _ _ c1<|j _ _ c4<|U c o c1 c2 c3 x) ⟨oe,k.extBut _ _ hez H,T⟩
  |some y=>
   show Á<|b2n t2 PZ hy λO xq j=>Ê ?_;let M:Ζ O TO x b:=j.extBut _ _ D.TOi2 p;show Á<|ϟ M rfl ?_;show Á<|b2U M λd n k=>?_;replace n:Ζ d TO x y:=n;show Á<|bh<|Ê<|Ê ?_;show Á<|ϟ n rfl ?_;show Á<|MW ?_;let hsz:d.objs.size=s.heap.objs.size:=by rw[k.1,j.1,h.1,g.1,i.1]
   let hz₅:ό d z TI TO .ellipsis:=k.extBut _ _ D.TOz.symm<|j.extBut _ _ D.i2z.symm Y;let hk₅:∀c o,c≠z->c≠TO->c≠i1->c≠i2->s.heap.get? c=b3 o->d.get? c=b3 o:=λc o c1 c2 c3 c4 e=>k.extBut _ _ c2<|j.extBut _ _ c4<|U c o c1 c2 c3 e;let xr:į t d i1 l1 (k1+1):=((xu.ext h.extBut D.TOi1.symm).ext j.extBut D.i12).ext k.extBut D.TOi1.symm;let xm:d.IsListIter i2 l2 (k2+1):=xq.extBut k.extBut D.TOi2.symm;let hzlt:z<d.objs.size:=Þ hz₅;change È _ _ (Sj (.ref z) (.ref d.objs.size) >>= _) _ _ _;show Á ?_;ext Sj;let hz₆:ό (d.push {cls:=.type "tuple",data:=.seq #[x,y]}) z TI TO .ellipsis:=á _ hz₅;show Á (ϻ hz₆ ∅ λg₇ K I=>?_);replace K:ό g₇ z TI TO (Ŝ d.objs.size):=K;show ϻ K ∅ λB u J=>?_;replace u:ό B z TI TO (Ŝ d.objs.size):=u;let up:∀c o,c≠z->d.get? c=b3 o->B.get? c=b3 o:=λc o c1 e=>J.extBut _ _ c1<|I.extBut _ _ c1<|á _ e;let R:Ζ B d.objs.size x y:=J.extBut _ _ (Ţ hzlt)<|I.extBut _ _ (Ţ hzlt)<|Ċ _ rfl;let hz8:B.objs.size=d.objs.size+1:=by rw[J.1,I.1,ϒ]
   rw[hsz]at u R hz8;show Ê ⟨_,rfl,Ê ?_⟩;change Q (b3<|.ref d.objs.size) _;rw[hsz];show hQ x y B hx hy u (up _ _ D.TOz n) (xr.at_ λo e=>up _ o D.i1z e) (xm.at λo e=>up _ o D.i2z e) R hz8 λc o c1 c2 c3 c4 e=>up c o c1<|hk₅ c o c1 c2 c3 c4 e
noncomputable abbrev zH(h:ñ)(a:Addr):ñ:=h.push {cls:=.type "tuple_iterator",data:=.fields #[.ref a,.int 0 0]}
noncomputable abbrev zI(h:ñ)(a b:Addr):ñ:=(zH h a).push {cls:=.type "list_iterator",data:=.fields #[.ref b,.int 0 0]}
noncomputable abbrev zJ(h:ñ)(a b:Addr):ñ:=(zI h a b).push {cls:=.type "tuple",data:=.seq #[.ref h.objs.size,.ref (zH h a).objs.size]}
noncomputable abbrev zK(h:ñ)(a b:Addr):ñ:=(zJ h a b).push {cls:=.type "tuple",data:=.seq #[.none,.none]}
noncomputable abbrev t5(h:ñ)(a b:Addr):ñ:=(zK h a b).push {cls:=.type "zip",data:=.fields #[.none,.bool b5,.bool b5,.ref (zI h a b).objs.size,.ref (zJ h a b).objs.size]}
def Va a b xs q:
  Meets (Builtin.«zip.__new__» ⟨[.type "zip",.ref a,.ref b],[]⟩) (λ_ R s=>s.heap.IsTuple a xs/\s.heap.IsList b q /\
   R (.ok<|.ret<|.ref (zK s.heap a b).objs.size) {s with heap:=t5 s.heap a b}):=
 .of_wp λprog w A R s h=>by let⟨k,g,d,p,o⟩:=s;let⟨i,j,h⟩:=h;let n:=sub_zip;let c:Heap.IsTuple (Qe ⟨k,g,d,p,o⟩) a xs:=i;let e:Heap.IsList (Qe ⟨k.push {cls:=.type "tuple_iterator",data:=.fields #[.ref a,.int 0 0]},g,d,p,o⟩) b q:=b5g j _;wp_walk using um c,uy e;show⟨_,rfl,h⟩
def Vb{s:Ù}(g:s.heap.IsTuple a xs)(i:s.heap.IsList b y)(h:∀d,ό d (s.heap.objs.size+4) (s.heap.objs.size+2) (s.heap.objs.size+3) .none->Ζ d (s.heap.objs.size+2) (.ref s.heap.objs.size) (.ref<|s.heap.objs.size+1)->
   Ζ d (s.heap.objs.size+3) .none .none->d.IsTupleIter s.heap.objs.size a 0->d.IsListIter (s.heap.objs.size+1) b 0->
   (∀c o,s.heap.get? c=b3 o->d.get? c=b3 o)->Q (.ref<|s.heap.objs.size+4) {s with heap:=d}):
  È (Î prog w) A (call (.type "zip") [.ref a,.ref b]) Q E s:=by
 show callType_new F.called_zip ⋯ (F.typeCall_zip_2 _ _) (F.newCall_zip_2 _ _) (λj=>F.args_object_init_3 j _ _) F.entry_zip_new (Va a b xs y) ⟨g,i,?_⟩;let k:(zH s.heap a).objs.size=s.heap.objs.size+1:=ϒ ..;let n:(zI s.heap a b).objs.size=s.heap.objs.size+2:=by rw[ϒ,k]
 let p:(zJ s.heap a b).objs.size=s.heap.objs.size+3:=by rw[ϒ,n]
 let z:(zK s.heap a b).objs.size=s.heap.objs.size+4:=by rw[ϒ,p]
 let e:(t5 s.heap a b).get? (zK s.heap a b).objs.size=b3 _:=Ċ _ rfl;let v:(t5 s.heap a b).get? (zJ s.heap a b).objs.size=b3 _:=á _<|Ċ _ rfl;let u:(t5 s.heap a b).get? (zI s.heap a b).objs.size=b3 _:=á _<|á _<|Ċ _ rfl;let q:(t5 s.heap a b).get? (zH s.heap a).objs.size=b3 _:=á _<|á _<|á _<|Ċ _ rfl;let B:(t5 s.heap a b).get? s.heap.objs.size=b3 _:=á _<|á _<|á _<|á _<|Ċ _ rfl;change _/\_;rw[n,p,z]at e;rw[k,n]at u;rw[p]at v;rw[k]at q;rw[z];show⟨⟨_,e,rfl⟩,h _ e u v ⟨_,B,rfl,rfl⟩ ⟨_,q,rfl,rfl⟩ λc o x=>á _<|á _<|á _<|á _<|á _ x⟩
def Vc{s:Ù}(b:Α t s.heap e xs)(d:s.heap.IsList g u)(h:∀a,ό a (s.heap.objs.size+4) (s.heap.objs.size+2) (s.heap.objs.size+3) .none->Ζ a (s.heap.objs.size+2) (.ref s.heap.objs.size) (.ref<|s.heap.objs.size+1)->
   Ζ a (s.heap.objs.size+3) .none .none->į t a s.heap.objs.size e 0->a.IsListIter (s.heap.objs.size+1) g 0->
   (∀c o,s.heap.get? c=b3 o->a.get? c=b3 o)->Q (.ref<|s.heap.objs.size+4) {s with heap:=a}):
  È (Î prog w) A (call (.type "zip") [.ref e,.ref g]) Q E s:=by
 ext t
 .show call_zip_2 b d λa i j k n p _ q=>h a i j k n p q
 .show Vb b d h
abbrev ſ(t:Bool)(K:Ô)(H:Hp)(a:Addr)(xs:gz):Prop:=if t=dI then ç K H a xs else Ĉ K H a xs
def ſ.its{σ:L2.St}(I:Â X Do σ H s)(h:ſ t X.K H a xs):∃its,Å xs its/\Α t s.heap a its.toArray/\a<s.heap.objs.size:=by
 ext t
 .let⟨its,b,p,_⟩:=I.list h;show⟨its,b,p.isList,let⟨_,e,_⟩:=p.isList;Þ e⟩
 .let⟨its,b,p,_⟩:=I.tuple h;let p:s.heap.IsTuple a its.toArray:=p;show⟨its,b,p,let⟨_,e,_⟩:=p;Þ e⟩
def ſ.inj{σ:L2.St}(I:Â X Do σ H s)(h:ſ t X.K H a xs)(g:ſ t X.K H a b):xs=b:=by
 ext t
 .show I.list_inj h g
 .show I.tuple_inj h g
abbrev zL(t:Bool)(K:Ô)(a b:Addr):It:=
 ⟨λi H=>∃c d x y,ſ t K H a c/\Ĉ K H b d/\c[i]?=b3 x/\d[i]?=b3 y,
   λi H z e=>∃p v u,z=.ref p/\H p=b4/\e=upd H p (.tup [v,u])/\(∀c,ſ t K H a c->c[i]?=b3 v)/\∀d,Ĉ K H b d->d[i]?=b3 u,
   λi H=>∃c d,ſ t K H a c/\Ĉ K H b d/\(c.length<=i\/d.length<=i)⟩
def Vd(L:Nh z G to A B a b):
  Ń Qc P w K (.Tuple es kx pt) (zL t K a b) [z,G,to,A,B] z (λi h=>ό h z G to .none/\Ζ h G (.ref A) (.ref B)/\(∃u v,Ζ h to u v)/\į t h A a i/\h.IsListIter B b i) where
 mem:=∅
 obj:=λi h ⟨J,N,⟨u,v,R⟩,T,U⟩ c hc=>by
  let hc':c=z\/c=G\/c=to\/c=A\/c=B:=by apply hc
  rcases hc' with rfl|rfl|rfl|rfl|rfl
  .show⟨_,J,λq e=>by
    let e':ŋ _=rm q:=e;ext e'⟩
  .show⟨_,N,λq e=>by
    let e':MJ _ _=rm q:=e;ext e'⟩
  .show⟨_,R,λq e=>by
    let e':MJ _ _=rm q:=e;ext e'⟩
  .let⟨o,M,_,d⟩:=T.ob;show⟨o,M,λv e=>by rw[d]at e;ext e⟩
  .let⟨o,M,c,d⟩:=U;show⟨o,M,λv e=>by rw[d]at e;ext e⟩
 keep:=λi h h' ⟨J,N,⟨u,v,R⟩,T,U⟩ k=>⟨k z ∅ _ J,k G ∅ _ N,⟨u,v,k to ∅ _ R⟩,T.at_ λo e=>k A ∅ o e,U.at λo e=>k B ∅ o e⟩;item:=by
  intro X hP hw hK hc i Do s σ H E I hf ⟨J,N,⟨u,v,R⟩,T,U⟩ hg;subst hP hw hK;let⟨xs,ys,x,y,hq,Q,hx,hy⟩:=hg;let⟨its,rv,p,_⟩:=ſ.its I hq;let⟨j,Y,p2,hz2⟩:=I.list Q;let⟨u1,iP,ru1⟩:=rv.get hx;let⟨u2,hu2,ru2⟩:=Y.get hy;show HG (I.ok.hd hc) L J N R T U p p2.isList (λw1 w2 h1 M e2 a1 a2 a3 a4 a5 a6 hk=>⟨_,rfl,wpAny_letOwnedTupleGo_zip a1 λh2 b1 n=>?_⟩) λh' O _=>?_
  .let f1:w1=u1:=by
    have:its[i]?=b3 w1:=by apply M
    rw[iP]at this;show(Ė this).symm
   let f2:w2=u2:=by
    have:j[i]?=b3 w2:=by apply e2
    rw[hu2]at this;show(Ė this).symm
   subst f1 f2;let ne:∀{c o},s.heap.get? c=b3 o->s.heap.objs.size≠c:=λe=>Ţ<|Þ e;let l4:∃o,s.heap.get? A=b3 o:=let⟨o,e,_⟩:=T.ob;⟨o,e⟩;let l5:∃o,s.heap.get? B=b3 o:=let⟨o,e,_⟩:=U;⟨o,e⟩;let ht2:h2.get? s.heap.objs.size=b3 {cls:=.type "tuple",data:=.seq #[w1,w2]}:=(n.2 _<|ne J).trans a5;let hfr:H s.heap.objs.size=none:=I.hok.fresh<|Ø _;let g2':Ζ h2 G (.ref A) (.ref B):=(n.2 _ L.TIz).trans<|hk _ _ L.TIz L.TITO L.TIi1 L.TIi2 N;show⟨.ref s.heap.objs.size,upd H s.heap.objs.size<|.tup [x,y],?_,rfl,⟨s.heap.objs.size,x,y,rfl,hfr,rfl,λws hw=>by rw[ſ.inj I hw hq];show hx,λws hw=>by rw[I.list_inj hw Q];show hy⟩,
    ⟨b1,g2',⟨_,_,(n.2 _ L.TOz).trans a2⟩,a3.ext n.extBut L.i1z,a4.extBut n.extBut L.i2z⟩,λc Z=>?_⟩
   .show B8 (s:=s) (h':=h2) (t':=s.toks) (ch:=[z,G,to,A,B]) I (λc oc Z ec=>?_) hf (Ø _) ?_
    .have g:c≠z/\c≠G/\c≠to/\c≠A/\c≠B:=by apply Z
     show(n.2 c g.1).trans<|hk c oc g.1 g.2.2.1 g.2.2.2.1 g.2.2.2.2 ec
    .show⟨by change(2:Nat)<=Ò;decide,[w1,w2],.cons ru1<|.cons ru2 .nil,_,ht2,rfl,0,rfl,rfl⟩
   .let g:c=z\/c=G\/c=to\/c=A\/c=B:=by apply Z
    let O:=(hf c Z).1;rw[bQ]
    .show O
    .rcases g with rfl|rfl|rfl|rfl|rfl
     .show(ne J).symm
     .show(ne N).symm
     .show(ne R).symm
     .show(ne l4.choose_spec).symm
     .show(ne l5.choose_spec).symm
  .exfalso;let M:its.toArray[i]?=b3 u1:=by apply iP
   let e2:j.toArray[i]?=b3 u2:=by apply hu2
   rcases O with O|O
   .rw[M]at O;ext O
   .rw[e2]at O;ext O
 done:=by
  intro X hP hw hK hc i Do s σ H E I hf ⟨J,N,⟨u,v,R⟩,T,U⟩ hg;subst hP hw hK;let⟨xs,ys,hq,Q,hx⟩:=hg;let⟨its,rv,p,_⟩:=ſ.its I hq;let⟨j,Y,p2,hz2⟩:=I.list Q;let hl:=rv.length;let hl2:=Y.length;show HG (I.ok.hd hc) L J N R T U p p2.isList (λw1 w2 h1 M e2 _ _ _ _ _ _ _=>?_) λh' _ eb=>⟨rfl,GY (t':=s.toks) (ch:=[z,G,to,A,B]) I (λc o Z e=>?_) hf⟩
  .exfalso;let m1:i<its.length:=by
    have:its[i]?=b3 w1:=by apply M
    show(ä.mp this).1
   let m2:i<j.length:=by
    have:j[i]?=b3 w2:=by apply e2
    show(ä.mp this).1
   lia
  .let g:c≠z/\c≠G/\c≠to/\c≠A/\c≠B:=by apply Z
   show eb c o g.1 g.2.2.1 g.2.2.2.1 g.2.2.2.2 e
 self:=λ_ _ _ _ _ ⟨J,_⟩ h=>QL J h
abbrev oW(c:MA):MI:=λe d=>(c e d).bind λp=>match p.1 with
 |[.tup a,y]=>(eW p.2 y).map λb=>(jU (.tup a) y,min a.length b.length+1,p.2)|[x,y]=>(eW p.2 x).bind λa=>(eW p.2 y).map λb=>(jU x y,min a.length b.length+1,p.2)|_=>b4
def Ve(R:Rp K π H g)(h:Ú K π g.length H v x)(i:x=.tup xs\/eW g x=b3 xs):∃t p,v=.ref p/\(∃vs,ſ t K H p vs) /\
  ∀c b d,õ π g.length H c b.length d->Rp K c d b->∀j,bO b x=b3 j->∃k,ſ t K d p k/\Ç K c b.length d k j:=by
 rcases i with rfl|i
 .cases h with
  |@tup a vs ds q t=>
  show⟨dI,a,rfl,⟨vs,q⟩,λc b d e o j n=>?_⟩;ext n;show⟨vs,e.sqT q,t.mono e⟩
 .let⟨p,rfl,q,l⟩:=Hj R h i;show⟨b5,p,rfl,q,l⟩
def Vf(R:Rp K π H n)(h:Ú K π n.length H v x)(h':Ú K π n.length H Y y)(hs:x=.tup xs\/eW n x=b3 xs)(G:eW n y=b3 ys):
  ∃t a b,v=.ref a/\Y=.ref b/\(∃L,ſ t K H a L)/\(∃L,Ĉ K H b L)/\Wk K (zL t K a b) (jU x y) π n.length H:=by
 let⟨t,a,rfl,qa,Q⟩:=Ve R h hs;let⟨b,rfl,qb,T⟩:=Hj R h' G;show⟨t,a,b,rfl,rfl,qa,qb,λg c o i e j z=>?_,λg c o i d e j z=>?_⟩
 .let⟨p,h1,z⟩:=è.mp z;let⟨bs,E,z⟩:=ì.mp z;let⟨w,q,A⟩:=Q g c o e j p h1;let⟨u,s,B⟩:=T g c o e j bs E;show⟨w,u,q,s,?_⟩;rw[A.length,B.length];cases M:p[i]? with
  |none=>show .inl (τ.mp M)|some d=>
   cases k:bs[i]? with
   |none=>show .inr (τ.mp k)|some d'=>rw[M,k]at z;ext z
 .let⟨p,h1,z⟩:=è.mp z;let⟨bs,E,z⟩:=ì.mp z;let⟨d1',h3,z⟩:=è.mp z;let⟨d2',h4,h5⟩:=ì.mp z;subst h5;let⟨w,q,A⟩:=Q g c o e j p h1;let⟨u,s,B⟩:=T g c o e j bs E;let⟨Z,N,k1⟩:=A.get h3;let⟨w2,O,k2⟩:=B.get h4;show⟨⟨w,u,Z,w2,q,s,N,O⟩,?_⟩;rintro y H2 ⟨t,v1,v2,rfl,hn,rfl,I,J⟩;let U:=I w q;let X:=J u s;rw[N]at U;rw[O]at X;ext U;ext X;let⟨k,R2⟩:=j.fresh (o:=.tup [Z,w2]) hn;show⟨k,R2,.tup (.of dU)<|.cons (k1.mono k)<|.cons (k2.mono k) .nil⟩
abbrev Vg(K:Ô)(d:TA):TI:=λσ H R=>d σ H λvs c=>∃t a b,vs=[.ref a,.ref b]/\(∃xs,ſ t K c a xs)/\(∃e,Ĉ K c b e)/\R (zL t K a b) c
open PyProof.Rows in
def Vh{X:Cx}{a b:Expr}{B:TA}{p pos pt:Ĳ}{es:List Expr}{kx:Nat}(T:Gl X "zip") (Y:X.mg "zip"=b4) (Q:PA X [a,b] B)(hs:Ă [a,b] X.env=(b5,eval a X.env)::Ă [b] X.env)(u:(Ř pos<|Ă [b] X.env).any (·.1)=b5) :
  PI X (.Tuple es kx pt) (.Call (.Name "zip" p) [a,b] [] pos) (Vg X.K B):=by
 intro i s E H R I h;show xx<|kE I T Y Boot.«zip»<|qe (aW (Q pos i s E H _ I h) λus d ⟨vs,x,g,r1,q1⟩=>?_) hs u;obtain⟨t,y,n,rfl,⟨ws,Z⟩,⟨ws2,o⟩,q⟩:=q1;cases r1 with
 |cons ru v=>
  cases v with
  |cons w v=>
   ext v;ext ru;ext w;let⟨its,rv,pl,la⟩:=ſ.its g Z;let⟨A,rv2,k,hz2⟩:=g.list o;let lb:n<d.heap.objs.size:=let⟨_,e,_⟩:=k.isList;Þ e;show Vc pl k.isList λO z K L M N U=>QL z ?_;let G:Â X i E x {d with heap:=O}:=g.kept (t':=d.toks) U;let J:Nh (d.heap.objs.size+4) (d.heap.objs.size+2) (d.heap.objs.size+3) d.heap.objs.size (d.heap.objs.size+1) y n:=by let la':@LT.lt Nat _ y d.heap.objs.size:=la;let lb':@LT.lt Nat _ n d.heap.objs.size:=lb;constructor<;>(change @Ne Nat _ _;lia)
   show⟨d.heap.objs.size+4,[d.heap.objs.size+4,d.heap.objs.size+2,d.heap.objs.size+3,d.heap.objs.size,d.heap.objs.size+1],_,_,x,rfl,G,Vd J,⟨z,K,⟨_,_,L⟩,M,N⟩,λc hc=>?_,q⟩;let j:d.heap.objs.size<=c:=by dsimp[Č,Ϗ,or_false]at hc;rcases hc with rfl|rfl|rfl|rfl|rfl<;>first|show Nat.le_add_right _ _|show Ø _
   show g.fpOk j<|g.hok.fresh j
def Vi(q:Gl X "zip")(u:X.mg "zip"=b4)(B:QA X [a,b] J n):vy X (.Call (.Name "zip" p) [a,b] [] pos) (oW J):=⟨λes kx pt Do s σ H R I hw=>by
 let v:=B.s;rw[Ő,ó,Ő,ó]at v;let⟨π,ρ,μ,w,n',z,L,E,c,k⟩:=hw;show bR c ?_;clear c;intro x d h1 c;show Vh q u B.h (iC v.1) (by rw[iC v.2.1];rfl) Do s σ H R I ⟨π,ρ,μ,x,d,L,E,h1,λj K h O A G=>?_⟩;let two:∀{x y e g},Ç X.K j d.length h K [x,y]->(x=.tup e\/eW d x=b3 e)->eW d y=b3 g->w=jU x y->z=d->∃t a b,K=[.ref a,.ref b]/\(∃e,ſ t X.K h a e)/\(∃g,Ĉ X.K h b g)/\R (zL t X.K a b) h:=λ{x y e g} T o i es Q=>by
  subst es Q;cases T with
  |cons U t1=>
   cases t1 with
   |cons Y t2=>ext t2;let⟨t,M,N,rfl,rfl,Z,qb,W⟩:=Vf A U Y o i;show⟨t,M,N,rfl,Z,qb,k j h _ O A W⟩
 dsimp at c;split at c
 .let⟨g,i,c⟩:=ì.mp c;ext c;show two G (.inl rfl) i rfl rfl
 .let⟨e,o,c⟩:=è.mp c;let⟨g,i,c⟩:=ì.mp c;ext c;show two G (.inr o) i rfl rfl
 .ext c⟩
def HH(h:A.handled=b4)(j:IsItemIter s.heap it d i es.size ep ok ov)(g:ý s.heap d es ep)(p:∀e a,es[i]?=b3 e->MZ a it d (i+1) es.size ep e.key e.val s.heap.objs.size->a.get? s.heap.objs.size=b3 {cls:=.type "tuple",data:=.seq #[e.key,e.val]}->
   (∀b o,b≠it->s.heap.get? b=b3 o->a.get? b=b3 o)->Q (b3<|.ref s.heap.objs.size) {s with heap:=a})(q:es[i]?=b4->∀a,R4 it s.heap a->Q b4 {s with heap:=a}):È (Î P w) A (š<|.ref it) Q E s:=
 Cg (S:=d) h j (.inl rfl) g g.lt (λe a c _ o n _ k=>p e a c (o rfl) n k) q
abbrev Cu(d:Addr)(ob:Obj)(ps:bN):It:=⟨λi H=>H d=b3 (.frz ob<|aT d ps)/\i<ps.length,λi H x a=>∃t p,x=.ref t/\H t=b4/\ps[i]?=b3 p/\a=upd H t (.tup [.ref p.2.1,p.2.2]),λi H=>H d=b3 (.frz ob<|aT d ps)/\ps.length<=i⟩
def Vj(hd:ob.data=.dict es ep):Ń Qc P w K (.Tuple el kx pt) (Cu d ob ps) [j] j (λi h=>∃ok x,IsItemIter h j d i es.size ep ok x) where
 mem:=∅
 obj:=λi h ⟨ok,x,st⟩ b q=>by
  let e:b=j:=by apply q
  subst e;show⟨_,st,λv z=>by
   let z':ŋ _=rm v:=z;ext z'⟩
 keep:=λi h U ⟨ok,x,st⟩ k=>⟨ok,x,k j ∅ _ st⟩;item:=by
  intro X Z hw Y hc i O s σ H E I M ⟨ok,x,st⟩ hg;subst Z hw Y;let⟨p,G⟩:=hg;let⟨lo,hl,T,R,g,a,N⟩:=r9 I p;rw[hd]at a;ext a;let⟨_,_,es2,ep2,_,B,he⟩:=v8 I p;rw[hd]at B;ext B;let hs:es.size=ps.length:=by have:=congrArg İ N;apply this
  show HH (I.ok.hd hc) st g (λe U n a1 a2 a3=>⟨_,rfl,wpAny_letOwnedTupleGo_items a1 λh2 b1 L=>?_⟩) λhn=>by simp at hn;lia
  let hp:ps[i]?=b3 ps[i]:=ā G;let ek:e.key=.ref (ps[i]).2.1:=by have:=congrArg (·[i]?) N;dsimp[ÿ,Ϸ,n,hp,ė]at this;show Ė this
  let⟨u,u1,u2⟩:=he.get (i:=i) (x:=ps[i].2.2) (by rw[ÿ,hp];rfl);rw[ÿ,Ϸ,n]at u1;ext u1;let J:j<s.heap.objs.size:=Þ st;let ht2:h2.get? s.heap.objs.size=b3 {cls:=.type "tuple",data:=.seq #[e.key,e.val]}:=(L.2 _<|Ţ J).trans a2;let hfr:H s.heap.objs.size=none:=I.hok.fresh<|Ø _;show⟨.ref s.heap.objs.size,upd H s.heap.objs.size<|.tup [.ref (ps[i]).2.1,(ps[i]).2.2],?_,rfl,⟨_,ps[i],rfl,hfr,hp,rfl⟩,⟨_,_,b1⟩,λc q=>?_⟩
  .show B8 (s:=s) (h':=h2) (t':=s.toks) (ch:=[j]) I (λc oc q ec=>?_) M (Ø _) ?_
   .let y:c≠j:=by apply q
    show(L.2 c y).trans<|a3 c oc y ec
   .show⟨by change(2:Nat)<=Ò;decide,[e.key,e.val],.cons ek<|.cons u2 .nil,_,ht2,rfl,0,rfl,rfl⟩
  .rw[bQ]
   .show(M c q).1
   .let e:c=j:=by apply q
    rw[e];show Ā J
 done:=by
  intro X Z hw Y hc i O s σ H E I M ⟨ok,x,st⟩ hg;subst Z hw Y;let⟨p,G⟩:=hg;let⟨lo,hl,T,R,g,a,N⟩:=r9 I p;rw[hd]at a;ext a;let hs:es.size=ps.length:=by have:=congrArg İ N;apply this
  let⟨f0,f1,f2,f3,f4,f5⟩:=M j ∅;show HH (I.ok.hd hc) st g (λe U n=>by
   have:=(PH.mp n).1;lia) λ_ U eb=>⟨rfl,I.turned (t':=s.toks) (λb o q e=>eb b o q e) f0 f1 f3 f4 f5⟩
 self:=λA i s Q E ⟨ok,x,st⟩ h=>PySem.W.kcp_self st h
def Vk(K:PE X l M)(j:fu l "items" X.env (eval l X.env)=eval l X.env)(k:(a.endLine==c.line)=dI):
  PI X (.Tuple G L pt) (.Call (.Attribute l "items" a) [] [] c) (λu H R=>M u H λv n=>∃d ob B,v=.ref d/\n d=b3 (.frz ob<|aT d B)/\R (Cu d ob B) n):=by
 intro i s u H R I h;show P5 j k<|aW (K i s u H _ I h) λv p ⟨y,n,E,r1,q1⟩=>?_;let⟨d,ob,B,e,J,q⟩:=q1;subst e;obtain rfl:v=Ö d:=r1;let⟨lo,K,T,O,g,hd,he⟩:=r9 E J;show⟨"dict","dict.items",NS,NT,S8,g.ty,λb N=>?_,zm rfl<|P1 ?_⟩
 .ext N;let⟨z,Y,x,_⟩:=g;show⟨z,Y,x.2.1⟩
 show lu NT g.ty Rl (Rt _) (Hu d lo) ⟨⟨T,O,g⟩,?_⟩;let w:Â X i u n {p with heap:=p.heap.push {cls:=.type "dict_items",data:=.fields #[.ref d]}}:=E.kept (t':=p.toks) λb o e=>á _ e;let⟨lo2,hl2,U,Q,x,A,he2⟩:=r9 w J;change È (Î X.prog X.w) X.A (J4<|.ref p.heap.objs.size) (A9 X i u (.Tuple G L pt) R) X.xe _;show Hs ⟨_,Ċ _ rfl,rfl,rfl⟩ x ⟨_,[_],_,_,n,rfl,w.kept (t':=p.toks) λb o e=>á _ e,Vj A,⟨_,_,Ċ _ rfl⟩,λb Z=>?_,q⟩;let e:=Ĕ.mp Z;subst e;show w.fpOk (Ø _)<|w.hok.fresh<|Ø _
abbrev lR(kvs:jx):List D:=kvs.map λk=>.tup [.tup<|k.1.map D.int,k.2]
def Vl{ps:bN}(h:H d=b3 (.frz ob<|aT d ps))(T:ï K π n H ps kvs):Wk K (Cu d ob ps) (dC<|.tup<|lR kvs) π n H:=by
 let E:ps.length=kvs.length:=by have:=congrArg İ T.to.1;apply this
 show⟨λg A k i e R z=>?_,λg A k i o e R z=>?_⟩
 .let a:(lR kvs)[i]?=none:=Ė z;have:=τ.mp a;rw[lR,Ã]at this;show⟨e.frz _ _ _ h,()⟩
 .let a:(lR kvs)[i]?=b3 o:=Ė z;let hi:i<kvs.length:=by have:=(ä.mp a).1;rwa [lR,Ã]at this
  show⟨⟨e.frz _ _ _ h,()⟩,λv B ⟨t,p,q,s,u,w⟩=>?_⟩;subst q w;let b:kvs[i]?=b3 kvs[i]:=ā hi;let⟨G,h1,x⟩:=(T.to.2.1.mono e).get (i:=i) (d:=D.tup ((kvs[i]).1.map D.int)) (by rw[ÿ,b];rfl);let⟨I,j,y⟩:=(T.to.2.2.mono e).get (i:=i) (d:=(kvs[i]).2) (by rw[ÿ,b];rfl);rw[ÿ,u]at h1 j;ext h1;ext j;let⟨c,R2⟩:=R.fresh (o:=.tup [.ref p.2.1,p.2.2]) s;rw[lR,ÿ,b]at a;ext a;show⟨c,R2,.tup (.of dU)<|.cons (x.mono c)<|.cons (y.mono c) .nil⟩
def Vm(i:PE X l g):PE X l (λσ H Q=>g σ H λv a=>∃d ps,v=.ref d/\a d=b3 (aT d ps)/\∀ob,Q v (upd a d<|.frz ob<|aT d ps)):=by intro b s σ H Q I h;show aW (i b s σ H _ I h) λv o ⟨y,a,c,n,k⟩=>?_;let⟨d,ps,rfl,e,q⟩:=k;obtain⟨_,⟨ob,j⟩,_⟩:=(show à X.prog X.w a o.heap d (aT d ps)from c.hok _ _ e);show⟨_,_,Â.freeze c e j,n,q ob⟩
abbrev wA(m:ME):MI:=λc b=>(m c b).bind λp=>match p.1 with
 |.loc a=>match p.2[a]? with
  |some (.dT kvs)=>b3 (dC<|.tup<|lR kvs,kvs.length+1,p.2.set a<|.dF kvs)|_=>b4
 |_=>b4
def Vn(h:QE X e m)(w:lK e=dI)(v:(b.endLine==c.line)=dI):vy X (.Call (.Attribute e "items" b) [] [] c) (wA m):=⟨λes M pt Do s σ H R I hw=>by
 let⟨J,K,A,z,n,B,q,E,a,k⟩:=hw;show bR a ?_;clear a;intro x G h1 a;dsimp at a;split at a
 .split at a
  .rename_i i hc;ext a;show Vk (Vm h.h) (pW w) v Do s σ H R I ⟨J,K,A,_,_,q,E,h1,λj N L u o y=>?_⟩;ext y;let⟨d,p,T⟩:=jT o hc;show⟨_,d,rfl,p,λob=>?_⟩;let⟨g,R2⟩:=o.put (c:=.dF i) (o:=.frz ob (aT _ d)) (ä.mp hc).1 p (.inr<|.inr ⟨_,rfl⟩) ⟨ob,d,rfl,T.to⟩;show⟨_,ob,d,rfl,dU,k j _ _ (u.trans g) R2<|Vl dU<|ï.of T.to.1 (T.to.2.1.mono g)<|T.to.2.2.mono g⟩
  .ext a
 .ext a⟩
open PyProof.Rows (IsTup kmk_tree seqObj)
abbrev HJ(K:Ô):gz->Hp->VK->Prop:=λxs H Q=>∃p:Addr,xs=[.ref p,.non]/\Ĉ K H p []/\Q .non H
def Vo a:argsOk "min" ⟨[a],[(ű "default",.none)]⟩:=by ext argsOk;kernel_rfl
def Vp{σ:L2.St}(hc:X.calm=dI){xs:gz}(I:Â X Do σ H s)(r:∃y,xs=[y,.non]/\Í y u)(h:HJ X.K xs H Q):
  È (Î X.prog X.w) X.A (call (.builtin "min") [u] [(ű "default",.none)]) (EP X Do σ Q) X.xe s:=by
 let⟨p,rfl,i,q⟩:=h;let⟨y,c,n⟩:=r;ext c;ext n;let d:X.A.in1.handled=none:=I.ok.hd hc;let⟨its,v,pl,A⟩:=I.list i;ext v;let k:(toString "min"++toString ".loop":String)="min.loop":=⋯
 show kmk_tree PySem.F.kind_min PySem.F.plain_min PySem.F.entry_min (Vo _) ?_;show Á (m:=NW "min" ["key","default"] 0 ⟨[],[(ű "default",.none)]⟩)<|mD (show NW "min" ["key","default"] 0 ⟨[],[(ű "default",.none)]⟩=pure [b4,b3 .none]from rfl)<|Á<|Ê<|Á<|uy pl.isList<|Á<|uh ?_<|ĸ _;rw[k];show Ê ⟨ϝ Rz _,?_⟩;let a:p<s.heap.objs.size:=by let⟨o,g,_⟩:=pl.isList;show Þ g
 let K:=OH (prog:=X.prog) (w:=X.w) d s.heap.objs.size p (Ā a) #[];show ϲ PySem.F.entry_min_loop ?_;rw[϶ Rz _];show Á (m:=fc _)<|ϟ (Ċ _ rfl) rfl ?_;show Á (m:=tryCatch (š<|.ref s.heap.objs.size) _)<|nA<|K.done _ _ _ ⟨⟨_,á _<|Ċ _ rfl,rfl,rfl⟩,(pl.isList.push _).push _⟩ λx w j=>?_;show Á<|ϛ<|Ê ⟨.non,H,I.kept (t':=w) λb o e=>j b o (λz=>?_)<|á _<|á _ e,rfl,q⟩;rw[Ĕ.mp z]at e;show γ _<|Þ e
abbrev t6:MF:=λds b=>match ds with
 |[.loc a,.non]=>match b[a]? with
  |some (.lst [])=>b3 (.non,b)|_=>b4
 |_=>b4
def Vq:eY K t6 (HJ K):=by
 intro j H u s d h n Q R i a k;unfold t6 at a;split at a
 .split at a
  .rename_i b;ext a;cases i with
   |cons c t=>
    cases t with
    |cons g t=>ext t;ext g;let⟨p,o,e,q,hd⟩:=rV (xs:=[]) R c (by dsimp[eW,b]);ext hd;show⟨p,by rw[e],q,k j _ H .refl R .non⟩
  .ext a
 .ext a
def Vr(hc:X.calm=dI)(hun:X.A.units+64<Ą)(hg:Gl X "min")(hm:X.mg "min"=b4)(h:QE X e m)(h1:QE X j T)(hs:fE e=dI):
  QE X (.Call (.Name "min" p) [e] [⟨b3 "default",j,p1⟩] pos) (bJ t6<|aB m<|aB T aF):=⟨by
 intro z s σ H Q I hw;let⟨π,ρ,Z,d,M,R,E,hw,k⟩:=hw;show bR hw ?_;clear hw;intro ds μ2 n hw;show bR n ?_;clear n;intro x c g1 n;show bR n ?_;clear n;intro ds' μ3 B n;show bR B ?_;clear B;intro y g N B;ext B;ext n;dsimp at N hw;show bx (kE I hg hm SY ?_ ⋯<|by decide);let st:Ă [e] X.env=(b5,eval e X.env)::Ă [] X.env:=iC hs;show b4G (aW (EV h.h EU st pos z s σ H (λU i=>∃v a,U=[v]/\õ π Z.length H a c.length i/\Rp X.K a i c/\Ú X.K a c.length i v x) I ⟨π,ρ,Z,x,c,R,E,g1,λa v i j G J=>⟨v,a,rfl,j,G,J⟩⟩) λus s1 ⟨U,i,I1,r1,v,a,ev,j,G,J⟩=>?_) (by rw[st];rfl) (by rw[st];rfl);subst ev;show aW (a9o h1.h a9s pos z s1 σ i (λY o=>∃w b,Y=[w]/\õ a c.length i b g.length o/\Rp X.K b o g/\Ú X.K b g.length o w y) I1 ⟨a,ρ,c,y,g,G,E.mono j,N,λb w o A R2 K=>⟨w,b,rfl,A,R2,K⟩⟩) λws s2 ⟨Y,o,I2,r2,w,b,ew,A,R2,K⟩=>?_;subst ew;let⟨u,rfl,ru⟩:=gR r1;let⟨u2,rfl,L⟩:=gR r2;let O:=Vq b o g [x,y] d M [v,w] Q R2 (.cons (J.mono A)<|.cons K .nil) hw<|k.after<|j.trans A;let⟨q,e5,hr'⟩:=id O;ext e5;ext L;show Vp hc I2 ⟨_,rfl,ru⟩ O⟩
end L3
namespace L3
open PySem L2
open PyProof.Rows (IsTup IntsAre)
abbrev wB(h:ñ)(v:Value)(p:Int×Int):Prop:=∃a xs,v=.ref a/\J3 h a xs/\Ŵ xs.toList [p.1,p.2]
def Vs(c:A.units<Ą)(a:wB s.heap u p)(b:wB s.heap v q)(h:Q (.bool<|HT.lexLt [p.1,p.2] [q.1,q.2]) s):È (Î P w) A (qz .Lt u v) Q E s:=by let⟨a,j,rfl,g,d⟩:=a;let⟨b,k,rfl,i,e⟩:=b;show HT.lt_tupInts g i d e c h
def Vt(M:A.units+2<Ą)(a:wB s.heap u p)(b:wB s.heap v q)(h:Q (.bool<|HT.lexLt [q.1,q.2] [p.1,p.2]) s):È (Î P w) A (qz .Gt u v) Q E s:=by
 obtain⟨a,I,rfl,⟨B,h1,o,N,L⟩,d⟩:=a;obtain⟨b,J,rfl,⟨ob,k,n,O,K⟩,g⟩:=b;let⟨I⟩:=I;let⟨J⟩:=J;show wpAny_richCompare_same_room (op:=.Gt) ⟨B,h1,o⟩ ⟨ob,k,n⟩ F.slot_tuple_gt (Θ F.slot_tuple_gt ⟨B,h1,o⟩ F.entry_tuple_gt ?_<|F.args_tuple_gt_2 _ _) ();show Á (m:=isInstance (.ref b) (.type "tuple"))<|mY ⟨ob,k,n⟩ isSubtype_tuple_tuple ?_;dsimp[gf,ŀ,if_false];show Á<|Q1 h1 L<|Á<|Q1 k K<|Á ?_;cases d with
 |cons x t d=>
 cases d with
 |cons R G d=>
 ext d;cases g with
 |cons y u g=>
 cases g with
 |cons T H g=>
 ext g;change È _ _ (forIn [(Ĥ p.1 t,Ĥ q.1 u),(Ĥ p.2 G,Ĥ q.2 H)] _ _) _ _ s;dsimp[ON,Q4];let c:∀(i:Int)(t:aq),(ŵ P w).is i (.int i t)=true:=λi t=>by simp[ŵ,O5]
 show Á<|Á<|(ŵ P w).eqBool (c p.1 t) (c q.1 u) ?_;by_cases e:p.1=q.1
 .rw[decide_eq_true e];dsimp[gf,ŀ,if_false];show Ê<|Á<|Á<|(ŵ P w).eqBool (c p.2 G) (c q.2 H) ?_;by_cases j:p.2=q.2
  .rw[decide_eq_true j];rw[e,j,zC]at h;dsimp[gf,ŀ,if_false];show Ê<|Ê<|Ê ⟨.bool b5,rfl,(λz=>nomatch z),h⟩
  .rw[decide_eq_false j];dsimp[uc,if_true];show Á<|ϛ<|Á<|Ri ?_;have:HT.lexLt [q.1,q.2] [p.1,p.2]=decide (q.2<p.2):=by simp[HT.lexLt,e,ð j]
   rw[this]at h;show Á<|Ê<|Ê<|Ê<|Ê ⟨_,rfl,(λz=>nomatch z),h⟩
 .rw[decide_eq_false e];dsimp[uc,if_true];show Á<|ϛ<|Á<|Ri ?_;have:HT.lexLt [q.1,q.2] [p.1,p.2]=decide (q.1<p.1):=by simp[HT.lexLt,ð e]
  rw[this]at h;show Á<|Ê<|Ê<|Ê<|Ê ⟨_,rfl,(λz=>nomatch z),h⟩
abbrev sD(t:Bool):String:=match t with|true=>"min.loop" |false=>"max.loop"
abbrev Cv(t:Bool):String:=match t with|true=>"min" |false=>"max"
abbrev wC(t:Bool):mq:=match t with|true=>.Lt|false=>.Gt
abbrev Vu(t:Bool):Builtin:=match t with|true=>Builtin.«min.loop»|false=>Builtin.«max.loop»
def zM t:entryFor table (sD t)=b3 (Vu t):=by
 ext t
 .show F.entry_max_loop
 .show F.entry_min_loop
def qE t:plainId (sD t)=true:=by
 ext t
 .show F.plain_max_loop
 .show F.plain_min_loop
def Vv{St:Nat->ñ->Prop}(K:Walks P w A.in1 I Z J 2 (λi v=>(#[a,b]:Array Value)[i]?=b3 v) St)(X:S∉Z)(st:St 0 s.heap)(M:s.heap.get? S=b3 {cls:=.type "list",dict:=b4,data:=.seq #[] z,slots:=#[]})(hc:∀t (Q E:Value->Ù->Prop),(∀x o,x∉J->x≠S->s.heap.get? x=b3 o->t.heap.get? x=b3 o)->Q (.bool c) t->È (Î P w) A.in1 (qz (wC U) b a) Q E t)(q:∀h' tk,(∀x o,x∉J->x≠S->s.heap.get? x=b3 o->h'.get? x=b3 o)->R (.ok<|.ret<|if c then b else a) {s with heap:=h',toks:=tk}):ι (Î P w) A (.builtin (sD U) ⟨[.ref I,.none,.ref S],[]⟩) R s:=by
 let p:(toString "min"++toString ".loop":String)=sD true:=⋯
 let k:(toString "max"++toString ".loop":String)=sD false:=⋯
 ext U;all_goals
  dsimp only[wC]at hc;let G:S∉J:=λz=>X<|K.sub _ z;let d:∀{h:ñ}{u:Value}(x:Addr)(o:Obj),x≠S->h.get? x=b3 o->(h.update S<|a4A λ_=>#[u,u]).get? x=b3 o:=λx o n e=>(WF _ _<|ð n).trans e;show ϲ (zM _) ?_;rw[϶ (qE _) _];show Á (m:=fc (.ref S)) (ϟ M rfl<|Á (m:=tryCatch (š<|.ref I) _)<|nA<|K.item 0 s _ _ ⋯ st λv h1 tk1 pv Y O=>?_);obtain rfl:a=v:=by apply pv
  show Á (m:=qw S λ_=>#[a,a])<|iu (O S _ G M) rfl ?_;first|rw[p]|rw[k]
  show Ê ⟨ϝ (qE _) _,ϲ (zM _) ?_⟩;rw[϶ (qE _) _];let g1:=ϓ (a4A λ_=>#[a,a]) (O S _ G M) rfl;show Á (m:=fc (.ref S)) (ϟ g1 rfl<|Á (m:=tryCatch (š<|.ref I) _)<|nA<|K.item 1 _ _ _ ⋯ (K.frame _ _ _ Y λx N o e=>d x o (λz=>X<|z▸N) e) λv h2 tk2 pv H k2=>?_);obtain rfl:b=v:=by apply pv
  let T:∀x o,x∉J->x≠S->s.heap.get? x=b3 o->h2.get? x=b3 o:=λx o g j e=>k2 x o g<|d x o j<|O x o g e;let L:=k2 S _ G g1;change È _ A.in1 (tryCatch (holding [b,b]<|qz _ b a >>= _) _ >>= _) _ _ _;show Á<|nA<|ł<|Á<|hc _ _ _ T<|Á<|ł<|Ϲ<|Á<|bh<|Ê ?_;cases c with
  |true=>
   dsimp[if_true]at q ⊢;show Á<|iu L rfl<|Á<|bh ?_;first|rw[p]|rw[k]
   show Ê ⟨ϝ (qE _) _,ϲ (zM _) ?_⟩;rw[϶ (qE _) _];let g3:=ϓ (a4A λ_=>#[b,b]) L rfl;show Á (m:=fc (.ref S))<|ϟ g3 rfl<|Á (m:=tryCatch (š<|.ref I) _)<|nA<|K.done _ _ _ (K.frame _ _ _ H λx N o e=>d x o (λz=>X<|z▸N) e) λh4 y B=>?_;show Á (m:=qw S λ_=>#[])<|iu (B S _ G g3) rfl<|Á<|bh<|Ê ?_;show q _ y λx o g j e=>(WF _ _<|ð j).trans<|B x o g<|d x o j<|T x o g j e
  |false=>
   dsimp[ŀ,if_false]at q ⊢;show Á<|bh ?_;first|rw[p]|rw[k]
   show Ê ⟨ϝ (qE _) _,ϲ (zM _) ?_⟩;rw[϶ (qE _) _];show Á (m:=fc (.ref S))<|ϟ L rfl<|Á (m:=tryCatch (š<|.ref I) _)<|nA<|K.done _ _ _ H λh4 y B=>?_;show Á (m:=qw S λ_=>#[])<|iu (B S _ G L) rfl<|Á<|bh<|Ê ?_;show q _ y λx o g j e=>(WF _ _<|ð j).trans<|B x o g<|T x o g j e
def HK j(I:op=wC j)(G:fn=Cv j)(H:A.handled=b4)(hc:∀t (Q E:Value->Ù->Prop),(∀x o,s.heap.get? x=b3 o->t.heap.get? x=b3 o)->Q (.bool c) t->È (Î P w) A.in1 (qz op b a) Q E t)(q:∀g u,(∀x o,s.heap.get? x=b3 o->g.get? x=b3 o)->Q (if c then b else a) {s with heap:=g,toks:=u}):È (Î P w) A (call (.builtin fn) [a,b]) Q E s:=by
 let p:(toString "min"++toString ".loop":String)=sD true:=⋯
 let n:(toString "max"++toString ".loop":String)=sD false:=⋯
 subst I G;ext j;case' true=>
  dsimp only[Cv,wC]at hc ⊢;show Qf F.kind_min F.plain_min F.entry_min (F.args_min2 _ _) ?_;show Á (m:=NW "min" ["key","default"] 0 ⟨[],[]⟩)<|mD (show _=pure [b4,b4]from rfl) ?_
 case' false=>
  dsimp only[Cv,wC]at hc ⊢;show Qf F.kind_max F.plain_max F.entry_max (F.args_max2 _ _) ?_;show Á (m:=NW "max" ["key","default"] 0 ⟨[],[]⟩)<|mD (show _=pure [b4,b4]from rfl) ?_
 all_goals
  show Á (m:=ye [a,b])<|Ż ?_;let v:(s.heap.push {cls:=.type "tuple",data:=.seq #[a,b]}).IsTuple s.heap.objs.size #[a,b]:=⟨_,Ċ _ rfl,rfl,0,rfl⟩;let i:(s.heap.push {cls:=.type "tuple",data:=.seq #[a,b]}).objs.size=s.heap.objs.size+1:=ϒ ..;show Á<|um v<|Á<|Ż ?_;let d:((s.heap.push {cls:=.type "tuple",data:=.seq #[a,b]}).push {cls:=.type "tuple_iterator",data:=.fields #[.ref s.heap.objs.size,.int 0 0]}).objs.size=s.heap.objs.size+2:=by rw[ϒ,i]
  first|rw[p]|rw[n]
  let old:∀x o,s.heap.get? x=b3 o->x<s.heap.objs.size:=λx o e=>Þ e;show Ê ⟨ϝ (qE _) _,Vv (c:=c) (O6 (A:=A.in1) H _ s.heap.objs.size (by rw[i];show Ā<|Ϥ _) #[a,b]) ?_ ⟨⟨_,á _<|Ċ _ rfl,rfl,rfl⟩,(v.push _).push _⟩ (Ċ _ rfl) (λt B y k h=>hc t B y (λx o e=>?_) h) λg u k=>q g u λx o e=>?_⟩
  .rw[d,i];simp
  all_goals
   let l:=old x o e;show k x o (λz=>?_) (λz=>?_)<|á _<|á _<|á _ e
   .rw[i]at z;rw[Ĕ.mp z]at l;show γ _<|Oj l
   .rw[z,d]at l;show γ _<|Oj<|Oj l
abbrev Cw(x:D):Option (Int×Int):=(dP x).bind λk=>match k with
 |[a,b]=>b3 (a,b)|_=>b4
abbrev zN(f:Int×Int->Int×Int->Bool)(g:MF):MF:=λds a=>match ds with
 |[x,y]=>(match Cw x,Cw y with
  |some p,b3 q=>b3 (if f p q then y else x,a)
  |_,_=>g ds a)
 |_=>g ds a
abbrev zO:MF:=zN (λp q=>HT.lexLt [q.1,q.2] [p.1,p.2]) yU
abbrev zP:MF:=zN (λp q=>HT.lexLt [p.1,p.2] [q.1,q.2]) yV
inductive Mk (f:Int×Int->Int×Int->Bool)(K:Ô):gz->Hp->VK->Prop
 |mk {H:Hp}{Q:VK}{a b:Addr}{p q:Int×Int}(ha:ç K H a ([p.1,p.2].map V.int))(hb:ç K H b ([q.1,q.2].map V.int))(k:Q (.ref<|if f p q then b else a) H):Mk f K [.ref a,.ref b] H Q
def HL(h:Cw x=b3 p):x=.tup ([p.1,p.2].map D.int):=by
 let⟨k,h1,a⟩:=è.mp h;rw[vJ h1];split at a
 .ext a;rfl
 .ext a
def wD{p:List Int}(h:Ú K π n H v (.tup<|p.map D.int)):∃a,v=.ref a/\ç K H a (p.map V.int):=by
 cases h with
 |@tup a c ds b hd=>have:=Ħ hd;subst this;show⟨a,rfl,b⟩
def HM(j:eY K g r):eY K (zN f g) (λxs H Q=>Mk f K xs H Q\/r xs H Q):=by
 intro h H u xs d e s Q R i c k;unfold zN at c;split at c
 .split at c
  .rename_i v w;ext c;cases i with
   |cons n t=>
   cases t with
   |cons o t=>
   ext t;let p:=n;let q:=o;rw[HL v]at p;rw[HL w]at q;let⟨a,rfl,x⟩:=wD p;let⟨b,rfl,y⟩:=wD q;show .inl<|.mk x y<|k h _ H .refl R ?_;split
   .show o
   .show n
  .show .inr<|j h H u _ d e s Q R i c k
 .show .inr<|j h H u _ d e s Q R i c k
def zQ{σ:St}(I:Â X Do σ H s)(h:ç X.K H a ([p.1,p.2].map V.int))(b:∀x o,s.heap.get? x=b3 o->h'.get? x=b3 o):wB h' (.ref a) p:=by obtain⟨its,r,⟨o,e,z⟩,_⟩:=I.tuple h;show⟨a,_,rfl,⟨o,b _ _ e,z⟩,xN r⟩
def Vx(hc:X.calm=dI)(o:X.A.units+64<Ą):Ü X (.builtin "min") (Mk (λp q=>HT.lexLt [q.1,q.2] [p.1,p.2]) X.K):=by intro b s z H y x Q I r h;let⟨c,d,k⟩:=h;let⟨u,v,rfl,e,g⟩:=u6 r;ext e;ext g;show HK dI (op:=.Lt) rfl rfl (I.ok.hd hc) (λt j i a h=>Vs (by rw[mN];lia) (zQ I d a) (zQ I c a) h) λn w a=>⟨_,H,I.kept a,?_,k⟩;split<;>rfl
def Vy(hc:X.calm=dI)(o:X.A.units+64<Ą):Ü X (.builtin "max") (Mk (λp q=>HT.lexLt [p.1,p.2] [q.1,q.2]) X.K):=by intro b s z H y x Q I r h;let⟨c,d,k⟩:=h;let⟨u,v,rfl,e,g⟩:=u6 r;ext e;ext g;show HK b5 (op:=.Gt) rfl rfl (I.ok.hd hc) (λt j i a h=>Vt (by rw[mN];lia) (zQ I d a) (zQ I c a) h) λn w a=>⟨_,H,I.kept a,?_,k⟩;split<;>rfl
end L3
namespace L3
open PySem L2 PySem.W PyProof.Rows
noncomputable abbrev Ti:=List Int×List Int×Bool×List Int
abbrev nQ:Ti:=([],[],b5,[])
abbrev zR(x y:Ti):Bool:=if x.1=y.1 then(if x.2.1=y.2.1 then(if x.2.2.1=y.2.2.1 then HT.lexLt x.2.2.2 y.2.2.2 else y.2.2.1)else HT.lexLt x.2.1 y.2.1)else HT.lexLt x.1 y.1
section
variable{P:ť}{w:ĳ}{A:Ŧ}{E:Value->Ù->Prop}{s:Ù}
inductive qg (P:ť)(w:ĳ)(h:ñ)(a:Addr)(t:Ti):Prop
 |mk (o:Obj)(n:Nat)(b c e:Addr)(g:h.get? a=b3 o)(k:o.cls=.type "tuple") (d:o.data=.seq #[.ref b,.ref c,.bool t.2.2.1,.ref e] n)(h1:mR P w h b t.1)(h2:mR P w h c t.2.1)(h3:mR P w h e t.2.2.2)
def Vz(h:a≠b):m5 A s (.bool a) (.bool b) false:=λprog w E Q q=>by ext eqBool;show ł ?_;rw[if_neg<|by apply h];show Á<|SeqAt.RcAt.bool_bool a b prog w E _<|Ϲ ?_;rw[show(a==b)=b5 by apply h];show q
def Cy(g:A.units<Ą)(d:mR P w s.heap b k)(a:mR P w s.heap c k')(n:k=k'->KatLex P w A b5 fin Q r (i+1) s)(o:k≠k'->Q (HT.lexLt k k') s):
  KatLex P w A b5 fin Q ((.ref b,.ref c)::r) i s:=by
 show kat_cons<|(Ϛ<|ŵ P w).eqBool g d.1 a.1 ?_;by_cases e:k=k'
 .rw[decide_eq_true e];show kat_yes<|n e
 .rw[decide_eq_false e];let⟨u,p,h⟩:=d.2;let⟨v,q,j⟩:=a.2;show kat_no<|kat_one _ _<|HT.lt_tupInts p q (by apply h) (by apply j) g<|o e
def VA{C:Bool->Ù->Prop}(h:A.units<Ą)(x:qg P w s.heap a t)(y:qg P w s.heap i t')(q:C (zR t t') s):È (Î P w) A (keyLt' (tuples' b5) (.ref a)<|.ref i) C (λ_ _=>False) s:=by
 let⟨o,n,b,c,e,g,_,d,H,I,J⟩:=x;let⟨O,N,j,k,B,G,_,p,K,L,M⟩:=y;unfold zR at q;show kat_lt g d G p ?_;change KatLex P w A b5 _ C [(.ref b,.ref j),(.ref c,.ref k),(.bool t.2.2.1,.bool t'.2.2.1),(.ref e,.ref B)] 0 s;show Cy h H K (λz=>?_) λz=>by rw[if_neg z]at q;show q
 rw[if_pos z]at q;show Cy h I L (λz=>?_) λz=>by rw[if_neg z]at q;show q
 rw[if_pos z]at q;by_cases f:t.2.2.1=t'.2.2.1
 .rw[if_pos f]at q;rw[f];show kat_cons<|Ht<|kat_yes<|Cy h J M (λz=>kat_nil ?_) λ_=>q;rw[z,zC]at q;show q
 .rw[if_neg f]at q;show kat_cons<|Vz f P w _ _<|kat_no<|kat_one _ _<|lt_bool ?_;have:decide (b2i t.2.2.1<b2i t'.2.2.1)=t'.2.2.1:=by generalize t.2.2.1=u at f;generalize t'.2.2.1=v at f;ext u<;>ext v<;>first|show absurd rfl f|decide
  rw[this];show q
def VB{as:List Addr}{ts:List Ti}(I:A.units<Ą)(h0:0<as.length)(u:ts.length=as.length)(at_:∀i,i<as.length->qg P w s.heap (as.getD i 0) (ts.getD i nQ)):qB P w A (as.map Ö) (λi j=>zR (ts.getD i nQ)<|ts.getD j nQ) s:=by
 let g:∃fs:gw,fs.length=as.length/\M6 s.heap (as.map Ö) fs/\∀v∈fs,∃b k,v=Ö b/\mR P w s.heap b k:=by
  clear h0;induction as generalizing ts with
  |nil=>show⟨[],rfl,.nil,λv d=>nomatch d⟩|cons a as J=>
   match ts,u with
   |t::ts,u=>
    let⟨fs,x,h,p⟩:=J (ts:=ts) (by apply u) λi hi=>by apply at_ (i+1) (by apply hi)
    let⟨o,n,b,c,e,y,z,B,G,_⟩:=at_ 0 ∅;show⟨.ref b::fs,by simp[x],.cons y z B ∅ h,λv d=>?_⟩;rcases Č.mp d with rfl|d
    .show⟨b,_,rfl,G⟩
    .show p v d
 let⟨fs,x,h,p⟩:=g;show Nj (T:=.type "tuple") h () (λv d=>?_) ⋯ ⟨rfl,λi j C hi q H=>?_⟩
 .let⟨b,k,rfl,K⟩:=p v d;obtain⟨L,⟨o,o1,o2,_⟩,_⟩:=K.2;show kitAt_ty _ _ ⟨o,o1,o2⟩
 .rw[Ã]at hi q;rw[show(as.map Ö).getD i .none=.ref (as.getD i 0) by simp[ĭ,hi],show(as.map Ö).getD j .none=.ref (as.getD j 0) by simp[ĭ,q]];show VA I (at_ i hi) (at_ j q) H
def VC(d:us.length<64)(h:s.heap.IsList l us.toArray)(H:2<=us.length->∀c,(∀b o,s.heap.get? b=b3 o->c.get? b=b3 o)->qB P w A.in1.in1 us an {s with heap:=c})(q:Q (.ref<|s.heap.objs.size+1) {s with heap:=sortedAll s.heap us ((c5 an us.length).map λi=>us.getD i Ŀ).toArray}):È (Î P w) A (call (.builtin "sorted") [.ref l]) Q E s:=by
 let k:us.length<=Ò:=by rw[ò];lia
 show PF Nu O1 Nz (Ny _) ?_;ext Ox;show Á (m:=Nw "sorted" 1 1 _) (Ê<|Á<|collect_list h (Á<|uh ?_ ()) ());let z:((s.heap.push<|ę "list" #[] 0).update s.heap.objs.size<|a4A (·++us.toArray)).objs.size=s.heap.objs.size+1:=by rw[Heap.size_update,size_push']
 let g:(((s.heap.push<|ę "list" #[] 0).update s.heap.objs.size<|a4A (·++us.toArray)).push<|ę "list" us.toArray 0).get? (s.heap.objs.size+1)=b3 (ę "list" us.toArray 0):=z▸Ċ _ rfl;change È _ _ _ _ _ ⟨((s.heap.push<|ę "list" #[] 0).update s.heap.objs.size<|a4A (·++us.toArray)).push<|ę "list" us.toArray 0,s.gens,s.drawn,s.toks,s.os⟩;rw[z];by_cases a:2<=us.length
 .show Á<|ł<|Θ tu ⟨_,g,rfl⟩ ue (Ci a d g (λc j=>H a c λb o e=>j b o ?_ ?_) ⟨_,rfl,?_⟩)<|su _
  .show Ā<|zb<|Þ e
  .show á _<|(WF _ _<|Ţ<|Þ e).trans<|á _ e
  .show Ê ⟨_,rfl,q⟩
 .show Á (ł<|Θ tu ⟨_,g,rfl⟩ ue (B3 (us:=us) () g ⟨_,rfl,?_⟩)<|su _);show Ê ⟨_,rfl,?_⟩;match us,a,q with
  |[],_,q=>rw[ut,yQ]at q;show q|[b],_,q=>rw[P9,B4]at q;show q|_::_::_,a,_=>simp at a
end
noncomputable abbrev oX(ts:List Ti):Prop:=ts.length<64
abbrev VD:D->Option Bool
 |.bl b=>b3 b|_=>b4
abbrev VE:List D->Option Ti
 |[x,y,z,w]=>(dP x).bind λk=>(dP y).bind λm=>(VD z).bind λb=>(dP w).map λn=>(k,m,b,n)|_=>b4
abbrev zS:D->Option Ti
 |.tup l=>VE l|_=>b4
abbrev fF(t:Ti):D:=.tup [.tup<|t.1.map D.int,.tup<|t.2.1.map D.int,.bl t.2.2.1,.tup<|t.2.2.2.map D.int]
def VF(h:zS x=b3 t):x=fF t:=by
 cases x with
 |tup l=>
  rcases l with _|⟨x,_|⟨y,_|⟨z,_|⟨w,_|⟨_,_⟩⟩⟩⟩⟩;all_goals first|ext h;done|skip
  let⟨k,h1,h⟩:=è.mp h;let⟨m,c,h⟩:=è.mp h;let⟨b,a,h⟩:=è.mp h;let⟨n,d,rfl⟩:=ì.mp h;rw[vJ h1,vJ c,vJ d];cases z with
  |bl=>ext a;rfl|_=>ext a
 |_=>ext h
abbrev wF:List D->Option (List Ti)
 |[]=>b3 []|x::r=>(zS x).bind λt=>(wF r).map (t::·)
def HN:∀{xs}{ts},wF xs=b3 ts->xs=ts.map fF
 |[],_,h=>by ext h;rfl
 |x::xs,ts,h=>by let⟨t,h1,h⟩:=è.mp h;let⟨r,a,rfl⟩:=ì.mp h;rw[VF h1,HN a];rfl
abbrev oY(ts:List Ti):Nat->Nat->Bool:=λi j=>zR (ts.getD i nQ)<|ts.getD j nQ
abbrev t7:MF:=λds b=>match ds with
 |[x]=>(eW b x).bind λc=>(wF c).bind λa=>if oX a then b3 (.loc b.length,b++[.lst<|(c5 (oY a) a.length).map λi=>c.getD i .non])else b4|_=>b4
inductive So (K:Ô)(H:Hp)(v:V)(t:Ti):Prop
 |mk (a b c e:Addr)(g:v=.ref a)(s:ç K H a [.ref b,.ref c,.bl t.2.2.1,.ref e])(s1:ç K H b (t.1.map V.int))(s2:ç K H c (t.2.1.map V.int))(s3:ç K H e (t.2.2.2.map V.int))
inductive Ů (K:Ô):gz->Hp->VK->Prop
 |mk {H:Hp}{Q:VK}{q:Addr}{ws:gz}{ts:List Ti}(hq:Ĉ K H q ws)(hw:Ρ (So K H) ws ts)(h:oX ts)(k:∀l,H l=b4->Q (.ref l) (upd H l<|.lst<|(c5 (oY ts) ws.length).map λi=>ws.getD i .non)):Ů K [.ref q] H Q
def HP{K:Ô}:∀{vs}{ts},Ç K π n H vs (ts.map fF)->Ρ (So K H) vs ts
 |_,[],h=>by ext h;show .nil
 |_,t::ts,h=>by
  cases h with
  |cons h r=>
  show .cons ?_<|HP r;cases h with
  |@tup a vs ds k hd=>
  cases hd with
  |cons d hd=>
  cases hd with
  |cons g hd=>
  cases hd with
  |cons i hd=>
  cases hd with
  |cons j hd=>
  ext hd;ext i;let⟨b,rfl,o⟩:=wD d;let⟨c,rfl,p⟩:=wD g;let⟨e,rfl,q⟩:=wD j;show⟨a,b,c,e,rfl,k,o,p,q⟩
def VG{K:Ô}:eY K t7 (Ů K):=by
 intro y H x w d u v Q R i a k;unfold t7 at a;split at a
 .let⟨s,h1,a⟩:=è.mp a;let⟨c,j,a⟩:=è.mp a;split at a
  .rename_i n;ext a;cases i with
   |cons i t=>
    ext t;let⟨p,g,rfl,q,hd⟩:=rV R i h1;let b:=hd;rw[HN j]at b;let o:g.length=c.length:=by rw[b.length,Ã]
    show .mk q (HP b) n λl e=>?_;let⟨h,R2,_⟩:=R.alloc (c:=.lst ((c5 (oY c) c.length).map λi=>s.getD i .non)) (o:=.lst ((c5 (oY c) g.length).map λi=>g.getD i .non)) e<|by
     change Ç _ _ _ _ _ _;rw[o];show GN hd _
    show k _ _ _ h R2 mM
  .ext a
 .ext a
def HQ(h:Å vs us):∀l:List Nat,Å (l.map λi=>vs.getD i .non) (l.map λi=>us.getD i .none)
 |[]=>.nil|i::l=>by
  show .cons ?_<|HQ h l;let z:=h.length;cases e:vs[i]? with
  |some v=>let⟨u,a,b⟩:=h.get e;dsimp[ĭ,e,a];show b|none=>have:=h.none_of e;dsimp[ĭ,e,this];rfl
def Cz{σ:L2.St}(I:Â X Do σ H s)(h:ç X.K H b (k.map V.int)):mR X.prog X.w s.heap b k:=by let⟨its,r,t,_⟩:=I.tuple h;show⟨nN I h,its,t,xN r⟩
def VH(h:Å [.ref b,.ref c,.bl t,.ref e] us):us=[.ref b,.ref c,.bool t,.ref e]:=by
 cases h with
 |cons a h=>
 cases h with
 |cons d h=>
 cases h with
 |cons g h=>
 cases h with
 |cons i h=>
 ext h;ext a;ext d;ext g;ext i;rfl
def VI(hun:X.A.units+64<Ą):Ü X (.builtin "sorted") (Ů X.K):=by
 intro B s σ H xs us Q I r h;let⟨M,hw,w,k⟩:=h;rename_i q K j;let⟨u,rfl,G⟩:=gR r;ext G;let⟨its,A,pl,N⟩:=I.list M;let p:=A.length;let E:j.length=K.length:=hw.length.symm;let y:∃v:List Addr,its=v.map Ö/\∀i,i<v.length->∃b c e,ç X.K H (v.getD i 0) [.ref b,.ref c,.bl (j.getD i nQ).2.2.1,.ref e]/\ç X.K H b ((j.getD i nQ).1.map V.int)/\ç X.K H c ((j.getD i nQ).2.1.map V.int)/\ç X.K H e ((j.getD i nQ).2.2.2.map V.int):=by
  clear N pl k M I p E w;induction hw generalizing its with
  |nil=>ext A;show⟨[],rfl,λi hi=>nomatch hi⟩|cons h _ ih=>
   cases A with
   |cons r1 r2=>
    let⟨v,e,f⟩:=ih _ r2;let⟨a,b,c,d,rfl,t,t1,t2,t3⟩:=h;ext r1;show⟨a::v,by rw[e];rfl,λi hi=>?_⟩;cases i with
    |zero=>show⟨b,c,d,t,t1,t2,t3⟩|succ i=>apply f i (by apply hi)
 let⟨v,L,pr⟩:=y;let hal:v.length=its.length:=by rw[L,Ã]
 let x:its.length<64:=by have:j.length<64:=w;lia
 show VC (us:=its) (an:=oY j) x pl.isList (λh2 h3 kp=>?_) ?_
 .rw[L];show VB (by rw[mN,mN];lia) () () λi hi=>?_;let⟨b,c,e,g,U,Y,Z⟩:=pr i hi;let J:Â X B σ H {s with heap:=h3,toks:=s.toks}:=I.kept (t':=s.toks) kp;obtain⟨us,G,⟨o,O,R,n,T⟩,_⟩:=J.tuple g;obtain rfl:=VH G;show⟨o,n,b,c,e,O,R,T,Cz J U,Cz J Y,Cz J Z⟩
 .let⟨e,he⟩:=sortedAll_at s.heap its ((c5 (oY j) its.length).map λi=>its.getD i Ŀ).toArray;show⟨.ref<|s.heap.objs.size+1,_,I.laid (t':=s.toks) (a:=s.heap.objs.size+1) (o:=.lst ((c5 (oY j) K.length).map λi=>K.getD i .non)) (λb ob z=>sortedAll_old z) (lY _) ?_,rfl,k _<|I.hok.fresh<|lY _⟩;show⟨?_,_,e,?_,he⟩
  .rw[Ã,(jS _ _).length_eq,ou];show N
  .rw[<- p];show HQ A _
end L3
namespace L3
open PySem L2
section
variable{P:ť}{w:ĳ}{K:Type} [DecidableEq K] {knd:M3 P w K}{A:Ŧ}{E:Value->Ù->Prop}{s:Ù}{d o a:Addr}{k:K}{xs ys:List (K×Addr×Value)}
def VJ(N:knd.room A)(J:knd.is s.heap k a)(M:s.heap.DictOfH knd d xs)(hz:xs.length<=Ò)(q:∀h',h'.DictOfH knd d (ϙ xs k a v)->Κ d s.heap h'->Q Unit.unit {s with heap:=h'}):
  È (Î P w) A (Mt d (.ref a) (knd.hash k) v) Q E s:=by
 let⟨ob,L,H,c,hc,hd,B,h,n⟩:=id M;ext Mt;show ł<|Á<|Q8 N J c hd B h n (λu=>?_) λj p I=>?_
 .let i:=QV u;let z:k∉xs.map (·.1):=Q7 u;show Á<|ϛ<|Qv (hz:=by let e:=N9 B;lia) c hd<|q _ ⟨_,_,H+1,ϓ _ c<|NO<|vf hd _,hc.mapDictKeys _,vf hd _,?_,λx b=>?_,?_⟩<|ż ..
  .rw[m9 i];simp[B,yh]
  .rw[m9 i]at b;rcases ĩ.mp b with b|b
   .show knd.keeps (h x b) c hd<|ż ..
   .rw[Ĕ]at b;subst b;show knd.keeps J c hd<|ż ..
  .rw[m9 i,ă,Ϻ];show⟨n,∅,λx b y G e=>by
    dsimp[ö,ϴ,Ĕ]at G;subst G;show z<|e▸b⟩
 .let g:=atKey_of_get n I;show Á<|ϛ<|Á<|wpAny_updateDict c hd<|wpAny_point<|q _ ⟨_,_,H,ϓ _ c<|NO<|QD hd _,hc.mapDict _,QD hd _,?_,λx b=>?_,?_⟩<|ż ..
  .let t:=modify_map_putAt (yh knd) (λe:DictEntry=>{e with val:=v}) k v (λ_ _=>rfl) n I;rw[O2 g];rw[<- B]at t;let⟨l⟩:=L;apply t
  .rw[O2 g]at b;let⟨y,G,rfl⟩:=Õ.mp b;ext putAt;split<;>show knd.keeps (h y G) c hd<|ż ..
  .rw[O2 g,keys_map_putAt];show n
abbrev lU(xs ys:List (K×Addr×Value)):List (K×Addr×Value):=ys.foldl (λacc x=>ϙ acc x.1 x.2.1 x.2.2) xs
def VL xs(k:K)a v:(ϙ xs k a v).length<=xs.length+1:=by
 ext ϙ;split
 .rw[Ã];lia
 .rw[ć];show Ø _
def HR:∀(ys xs:List (K×Addr×Value)),(lU xs ys).length<=xs.length+ys.length
 |[],xs=>Ø _|y::ys,xs=>by let h1:=HR ys<|ϙ xs y.1 y.2.1 y.2.2;let b:=VL xs y.1 y.2.1 y.2.2;change(lU (ϙ xs y.1 y.2.1 y.2.2) ys).length<=_;rw[Ŋ];lia
def HS:∀(ys xs:List (K×Addr×Value)),((xs++ys).map (·.1)).Nodup->lU xs ys=xs++ys
 |[],xs,_=>(ŉ xs).symm|y::ys,xs,h=>by
  let b:Ο xs y.1=none:=by
   ext Ο;rw[Y0.mpr]
   .rfl
   .intro x c;rw[decide_eq_true_iff];intro e;rw[ă,ö]at h;show(Ϻ.mp h).2.2 x.1 (Õ.mpr ⟨x,c,rfl⟩) y.1 (.head _) e
  change lU (ϙ xs y.1 y.2.1 y.2.2) ys=_;rw[m9 b,HS ys _<|by rw[Ϧ];show h,Ϧ];rfl
def VM(hu:knd.room A)(p:(d==o)=b5)(hoS:(o==ľ)=b5)(hd:s.heap.DictOfH knd d xs)(ho:s.heap.DictOfH knd o ys)(tt:∀y∈ys,s.TypeIs (.ref y.2.1) "tuple")(nh:(ys.map λy=>knd.hash y.1).Nodup)(hz:xs.length+ys.length<=Ò)(q:∀c,c.DictOfH knd d (lU xs ys)->Κ d s.heap c->Q Unit.unit {s with heap:=c}):È (Î P w) A (SK nm d o) Q E s:=by
 let⟨od,ed,epd,U,d2,J,d4,d5,d6⟩:=id hd
 let⟨oo,g,epo,o1,o2,I,T,o5,o6⟩:=id ho
 let hne:d≠o:=λe=>by rw[e,beq_self_eq_true]at p;ext p
 let lo:=N9 T
 ext SK
 rw[if_neg<|by rw[p];show ø]
 ext nu
 rw[if_neg<|by rw[hoS];show ø]
 show Á<|Ê<|Á<|ϐ o1 I ?_
 let j:È (Î P w) A (do
   let n <- dictEpoch o
   let l <- dictEntries o
   forIn [:l.size] MU λi (_:PUnit)=>(do
     let l' <- dictEntries o
     match l'[i]? with
      |some e=>do
       holding [e.key,e.val] (Mt d e.key e.hash e.val)
       let Z <- dictEpoch o
       if(Z != n)=dI then do
         (unsupported (toString nm++toString ":source-changed-during-callback"):J1 PUnit)
         pure (bu MU)
        else pure (bu MU)
      |_=>do
       (unsupported "internal:dict-merge":J1 PUnit)
       pure (bu MU):J1 (ForInStep PUnit))
   pure Unit.unit) Q E s:=by
  show Á<|ir o1 I<|Á<|ϐ o1 I<|Á ?_
  rw[b3o]
  dsimp[b3n,OK,Nat.add_sub_cancel,Nat.div_one]
  show OS _ (λcG _ s'=>∃c i,s'={s with heap:=c}/\cG=ug i (g.size-i)/\i<=g.size/\c.DictOfH knd d (lU xs<|ys.take i)/\c.get? o=b3 oo/\(∀y∈ys,knd.is c y.1 y.2.1)/\Κ d s.heap c)
   _ ?_ ?_ _ _ ⟨s.heap,0,rfl,∅,ĸ _,by rw[nj];show hd,o1,o5,NF _ _⟩
  .rintro x cG b s' ⟨c,i,rfl,v,hi,h,u,H,B⟩
   let hlt:i<g.size:=by
    rcases Pn i g.size with z|z
    .show z
    .rw[Nat.sub_eq_zero_of_le z]at v;ext v
   rw[show g.size-i=(g.size-(i+1))+1 by lia,N4]at v
   injection v with e1 e2
   subst e1
   let hx:x<ys.length:=()
   let en:=entry_at T x
   rw[ā hx]at en
   show Á<|ϐ u I ?_
   rw[en]
   let hl2:(lU xs<|ys.take x).length<=Ò:=by
    have:=HR (ys.take x) xs
    rw[Ι]at this
    lia
   let⟨od',_,_,X,_,Y,_⟩:=id h
   change È _ _ (holding [_,_] (Mt d (.ref ys[x].2.1) (knd.hash ys[x].1) ys[x].2.2) >>= _) _ _ _
   show Á<|ł<|VJ (s:={s with heap:=c}) hu (H _<|iz hx) h hl2 λh2 L G=>?_
   let O:h2.get? o=b3 oo:=(G.2 o<|ð hne).trans u
   show Á<|ir (s:={s with heap:=h2}) O I ?_
   rw[if_neg ∅]
   show Ê ⟨h2,x+1,rfl,e2,hlt,?_,O,λy R=>knd.keeps (H y R) X Y G,B.trans G⟩
   let et:ys.take (x+1)=ys.take x++[ys[x]]:=by rw[ni,ā hx];rfl
   rw[et]
   unfold lU at L ⊢
   rw[Oa]
   show L
  .rintro b s' ⟨c,i,rfl,v,hi,h,u,H,B⟩
   let hin:i=g.size:=by
    rcases Pn i g.size with z|z
    .rw[show g.size-i=(g.size-(i+1))+1 by lia,N4]at v;show nomatch v
    .show Nat.le_antisymm hi z
   rw[hin,lo,ź]at h
   show Ê<|q c h B
 dsimp
 split
 .show Á<|ϐ U J ?_
  split
  .rename_i M
   let xn:xs=[]:=by
    let z:ed=#[]:=Qn.mp M
    have:=N9 d4
    rw[z]at this
    show NQ.mp this.symm
   subst xn
   let ek:g.toList.map (·.key)=(ys.map (·.2.1)).map Ö:=by
    rw[T,å,å]
    rfl
   show Á<|UT (bs:=ys.map (·.2.1)) ⟨oo,o1,o2,I⟩ ek (λb hb=>?_) ?_ ?_
   .let⟨y,R,rfl⟩:=Õ.mp hb
    show tt y R
   .rw[T,å]
    show nh
   let em:lU [] ys=ys:=HS ys [] o6
   rw[em]at q
   split
   .show Á<|wpAny_updateDictKeysTo U J (Ê<|q _ ⟨_,_,epd+1,ϓ _ U<|NO<|vf J _,d2.mapDictKeys _,vf J _,T,λy R=>knd.keeps (o5 y R) U J<|ż ..,o6⟩<|ż ..) ?_
    rw[ut,Pr]at hz
    lia
   .rename_i N
    let z:g=#[]:=Qn.mp<|by apply N
    let yn:ys=[]:=by
     rw[z]at lo
     show NQ.mp lo.symm
    subst yn
    show Ê<|q _ hd<|NF _ _
  .show j
 .show j
def VN(knd:M3 P w K)d o:yd P w (Builtin.«dict.update» ⟨[.ref d,.ref o],[]⟩) (λA R s=>knd.room A.in1/\(d==o)=b5/\(o==ľ)=b5/\∃xs ys,s.heap.DictOfH knd d xs/\s.heap.DictOfH knd o ys/\(∀y∈ys,s.TypeIs (.ref y.2.1) "tuple")/\(ys.map λy=>knd.hash y.1).Nodup/\xs.length+ys.length<=Ò /\
   ∀b,b.DictOfH knd d (lU xs ys)->Κ d s.heap b->R (.ok<|.ret .none) {s with heap:=b}):=
 .of_wp λA R s ⟨j,g,h,xs,ys,hd,c,u,p,n,q⟩=>by unfold Builtin.«dict.update»;show Á ?_;ext SG;show Á<|vg hd.typeIs<|Ê ?_;change È _ _ (NV "dict.update" d (.ref o) [] .none) _ _ s;ext NV;show Á<|yx c.typeIs ?_;rw[if_neg ⋯];show Á ?_;ext b4S b4Q;show Á<|Á<|mY c.typeIs isSubtype_dict_dict ?_;dsimp[gf,ŀ,if_false];show Á<|uf c.typeIs F.slot_dict_iter.lookup<|Ê ?_;dsimp[beq_self_eq_true,if_true];show Á<|Ê<|VM j g h hd c u p n λb e i=>?_;change È _ _ (SF d [] >>= _) _ _ _;show Á<|Ê<|Ê ⟨.none,rfl,q b e i⟩
end
abbrev sE(ps qs:bN):bN:=qs.foldl (λq p=>eZ q p.1 p.2.1 p.2.2) ps
abbrev t8(kvs more:jx):jx:=more.foldl (λq p=>cC q p.1 p.2) kvs
abbrev sF:D->List D->Hm->jk
 |.loc a,[.loc b],μ=>match μ[a]?,μ[b]? with
  |some<|.dT kvs,b3 (.dT more)=>if kvs.length+more.length<=Ò/\(more.map λp=>Tb.hashT p.1).Nodup/\a≠b then b3 (.non,μ.set a<|.dT<|t8 kvs more)else b4|_,_=>b4
 |_,_,_=>b4
abbrev HU(K:Ô):V->gz->Hp->VK->Prop:=λx vs H Q=>∃a b ps qs,x=.ref a/\vs=[.ref b]/\H a=b3 (aT a ps)/\eN K H ps/\H b=b3 (aT b qs)/\eN K H qs/\a≠b/\ps.length+qs.length<=Ò/\(qs.map λp=>Tb.hashT p.1).Nodup/\Q .non (upd H a<|aT a<|sE ps qs)
def ï.upd:∀{qs}{more},ï K π n H qs more->∀{ps}{kvs},ï K π n H ps kvs->ï K π n H (sE ps qs) (t8 kvs more)
 |_,_,.nil,_,_,h=>h|p::qs,m::more,.cons e t,ps,kvs,h=>by let⟨b,c,d⟩:=e;let a:=h.put p.1 c d;rw[show cC kvs p.1 m.2=cC kvs m.1 m.2 by rw[b]]at a;show ï.upd t a
def HV:∀qs ps,(sE ps qs).length<=ps.length+qs.length
 |[],ps=>Ø _|q::qs,ps=>by let h1:=HV qs<|eZ ps q.1 q.2.1 q.2.2;let a:=vT ps q.1 q.2.1 q.2.2;change(sE (eZ ps q.1 q.2.1 q.2.2) qs).length<=_;rw[Ŋ];lia
def HW:∀{qs}{us},Å (qs.map (·.2.2)) us->∀{ps}{ws},Å (ps.map (·.2.2)) ws->∃a,Å ((sE ps qs).map (·.2.2)) a/\lU (cH ps ws) (cH qs us)=cH (sE ps qs) a
 |[],_,.nil,ps,ws,r=>⟨ws,r,rfl⟩|q::qs,_,.cons ru t,ps,ws,r=>by let⟨h,d,b⟩:=yY r q.1 q.2.1 ru;let⟨g,e,c⟩:=HW t d;show⟨g,e,?_⟩;change lU (ϙ (cH ps ws) q.1 q.2.1 _) (cH qs _)=_;rw[b];show c
def VO:mQ K sF (HU K):=by
 intro M H X x O d L v N Q R A h a k;unfold sF at a;split at a
 .split at a
  .rename_i i more hc g;split at a
   .rename_i z;let⟨U,I,J⟩:=z;ext a;cases A with
    |loc n=>
     cases h with
     |cons B t=>
      cases t;cases B with
      |loc y=>
       let⟨o,j,T⟩:=jT R hc;let⟨c,s,b⟩:=jT R g;let E:=congrArg İ T.to.1;let G:=congrArg İ b.to.1;rw[Ã,Ã]at E G;let⟨u,q⟩:=R.put (c:=.dT (t8 i more)) (o:=aT _ (sE o c)) n j (.inr<|.inr ⟨_,rfl⟩) ⟨_,rfl,(b.upd T).to⟩;show⟨_,_,o,c,rfl,rfl,j,T.keys,s,b.keys,λe=>J<|R.inj _ _ n y e,(),?_,k M _ _ u q .non⟩;let w:(c.map λp=>Tb.hashT p.1)=(c.map (·.1)).map Tb.hashT:=by rw[å];rfl
       rw[w,b.to.1,å];show I
   .ext a
  .ext a
 .ext a
def VP(U:X.A.units+1<Ą):nG X "dict.update" (HU X.K):=by
 intro z s σ H x vs v us Q I w rv h;let⟨a,b,ps,k,rfl,rfl,e,M,B,c,ne,Z,nh,q⟩:=h;ext w;let⟨u,rfl,ru⟩:=gR rv;obtain rfl:u=Ö b:=ru;let⟨T,hl,ws,r,d⟩:=lQ I (.of e) M;let⟨j,N,o,n,A⟩:=lQ I (.of B) c;let len:∀{ps:bN}{ws:gw},Å (ps.map (·.2.2)) ws->(cH ps ws).length=ps.length:=λr=>by have:=congrArg İ<|oT r;rwa [Ã,Ã]at this
 show lu Rm d.typeIs PySem.F.entry_dict_update (PySem.F.args_dict_update_2 _ _) (VN (Ϛ<|ŵ X.prog X.w) a b) ⟨rZ U,beq_eq_false_iff_ne.mpr ne,j,_,_,d,A,λy Y=>?_,?_,by rw[len r,len n];show Z,λK g ss=>?_⟩
 .let⟨p,O,J⟩:=Cd Y;obtain⟨its,w,⟨ot,E,i,_⟩,_⟩:=I.tuple<|c p O;rw[<- J.2];show⟨ot,E,i⟩
 .let G:((cH k o).map λy=>(Ϛ<|ŵ X.prog X.w).hash y.1)=k.map λp=>Tb.hashT p.1:=by have:=congrArg (MK Tb.hashT)<|oT n;rw[å,å]at this;show this
  rw[G];show nh
 .let⟨w2,r2,i⟩:=HW n r;rw[i]at g;let L:∃q,K.get? a=b3 q:=let⟨q,_,_,R,_⟩:=g;⟨q,R⟩;show⟨.non,_,xM I (by rw[e];show ϯ) ss L<|vU T (by have:=HV k ps;lia) r2 g,rfl,q⟩
structure ġ where
 fn:List<|Str×Nat
 con:List<|Str×D
 tab:List<|Str×List (bM×D)
 no:List Str
 dIt:List Str
 dEq:List Str
 dMe:List Str
structure Cs where
 N:List Str
 ks:List<|Str×ϳ
abbrev qF(x:Str):List Str->Option Nat
 |[]=>b4|y::r=>if x=y then b3 0 else(qF x r).map (·+1)
def wG:∀{N}{i},qF x N=b3 i->N[i]?=b3 x
 |[],_,h=>by ext h
 |y::r,i,h=>by
  unfold qF at h;split at h
  .rename_i e;ext h;subst e;rfl
  .let⟨j,h1,a⟩:=ì.mp h;subst a;have:=wG h1;apply this
abbrev glob(c:Cs)(x:Str):Bool:=decide (c.ks.lookup x=b3 .globalImplicit)&&!(x==("__debug__":Str))
abbrev rA(c:Cs)(x:Str):Bool:=(decide (c.ks.lookup x=b3 .local)||decide (c.ks.lookup x=b3 .cell)||decide (c.ks.lookup x=b3 .free))&&!(x==("__debug__":Str))&&!(x==("__classdict__":Str))
abbrev qG(c:Cs)(x:Str):Bool:=decide (c.ks.lookup x=b3 .local)||decide (c.ks.lookup x=b3 .cell)
def fL{κ b:Type} [BEq κ] [LawfulBEq κ] {x k:κ}{a n:b}{r:List (κ×b)}{P:Prop}(h:gj x ((k,a)::r)=b3 n)(h1:x=k->a=n->P)(c:gj x r=b3 n->P):P:=by
 rw[uw]at h;by_cases e:x=k
 .rw[beq_iff_eq.mpr e]at h;show h1 e<|Ė h
 .rw[beq_eq_false_iff_ne.mpr e]at h;show c h
abbrev HX(x:Str):Option String:=gj x [("int","int"),("bool","bool"),("str","str"),("list","list"),("tuple","tuple"),("dict","dict")]
def VQ(h:HX x=b3 n):Ω x=b3 (.type n)/\x ≠ "__name__":=by
 show fL h (λe g=>?_) λh=>?_
 .subst e;ext g;show⟨b2C,⋯⟩
 show fL h (λe g=>?_) λh=>?_
 .subst e;ext g;show⟨b2D,⋯⟩
 show fL h (λe g=>?_) λh=>?_
 .subst e;ext g;show⟨b2x,⋯⟩
 show fL h (λe g=>?_) λh=>?_
 .subst e;ext g;show⟨PC,⋯⟩
 show fL h (λe g=>?_) λh=>?_
 .subst e;ext g;show⟨SS,⋯⟩
 show fL h (λe g=>?_) λh=>?_
 .subst e;ext g;show⟨Se,⋯⟩
 ext h
abbrev CA(S:ġ)(c:Cs)(x:Str):ME:=
 if rA c x=dI then(match qF x c.N with|some i=>aE i|none=>cR)
 else if glob c x=dI then(match S.con.lookup x with
  |some d=>mC d
  |none=>if S.no.contains x=dI then(match HX x with|some n=>mC (.ty n)|none=>cR)else cR)
 else cR
abbrev gM(r:Expr->ME):List Expr->MA
 |[]=>aF|e::es=>aB (r e)<|gM r es
abbrev zT(op:BoolOp):List ME->ME
 |[]=>cR|[m]=>m|m::r=>match op with
  |.And=>gG m (zT op r)|.Or=>Bt m<|zT op r
abbrev zU(op:BoolOp):List MT->MT
 |[]=>rO|[m]=>m|m::r=>match op with
  |.And=>i7 m (zU op r)|.Or=>k9 m<|zU op r
abbrev HY(op:b1y)(a b:ME):ME:=match op with
 |.Add=>aA bI a b|.Sub=>aA iN a b|.Mult=>aA b7 a b|.FloorDiv=>aA kJ a b|.Mod=>aA bZ a b|.Pow=>aA rG a b|_=>cR
abbrev qH(op:mq)(ns:Bool)(a b:ME):ME:=match op with
 |.Eq=>aA (aZ b5) a b|.NotEq=>aA (aZ dI) a b|.Lt=>aA hV a b|.LtE=>aA tF a b|.Gt=>aA kK a b|.GtE=>aA vD a b|.In=>if ns=dI then aA (eD b5) a b else cR|.NotIn=>if ns=dI then aA (eD dI) a b else cR|.Is=>aA (iQ b5) a b|.IsNot=>aA (iQ dI) a b
abbrev t9(r:Expr->ME):Option Expr->MO
 |none=>mJ|some e=>mK<|r e
abbrev zV:Expr->Option (Expr×List Expr)
 |.Call f as [] _=>b3 (f,as)|_=>b4
def HZ(h:zV e=b3 (f,as)):∃pos,e=.Call f as [] pos:=by
 unfold zV at h;split at h
 .ext h;show⟨_,rfl⟩
 .ext h
abbrev nT:Expr->Option Str
 |.Name x _=>b3 x|_=>b4
def uA(h:nT e=b3 x):∃p,e=.Name x p:=by
 unfold nT at h;split at h
 .ext h;show⟨_,rfl⟩
 .ext h
abbrev o1:List Expr->Option Expr
 |[e]=>b3 e|_=>b4
def uB(h:o1 l=b3 e):l=[e]:=by
 match l,h with
 |[_],h=>ext h;rfl
abbrev o2:List Expr->Option (Expr×Expr)
 |[a,b]=>b3 (a,b)|_=>b4
def VR(h:o2 l=b3 (a,b)):l=[a,b]:=by
 match l,h with
 |[_,_],h=>ext h;rfl
abbrev CB(S:ġ)(c:Cs)(e:Expr):Option (List<|bM×D):=(nT e).bind λx=>if glob c x=dI then S.tab.lookup x else b4
abbrev dD:MF:=λds b=>match ds with
 |[.loc a]=>match b[a]? with
  |some (.lst xs)=>b3 (.int xs.length,b)|some (.st ks)=>b3 (.int ks.length,b)|some (.dT kvs)=>b3 (.int kvs.length,b)|_=>b4
 |_=>vF ds b
abbrev oZ:MF:=λds b=>match ds with
 |[.loc a]=>match b[a]? with
  |some (.dT kvs)=>b3 (.loc b.length,b++[.lst<|kvs.map λk=>D.tup<|k.1.map D.int])|_=>vG [.loc a] b
 |ds=>vG ds b
def VS:eY K oZ (λxs H Q=>(∃p g,xs=[.ref p]/\(Ĉ K H p g\/ç K H p g)/\∀l,H l=b4->Q (.ref l) (upd H l<|.lst g))\/Hf K xs H Q):=by
 intro o H n xs d c j Q R i b k;unfold oZ at b;split at b
 .rename_i a;split at b
  .rename_i e u;ext b;cases i with
   |cons i t=>ext t;ext i;let⟨h,h1,T⟩:=jT R u;show .inr ⟨_,h,rfl,h1,T.keys,λl s=>?_⟩;let⟨q,R2,_⟩:=R.alloc (c:=.lst (e.map λk:List Int×D=>D.tup<|k.1.map D.int)) (o:=.lst (h.map λp:List Int×Addr×V=>V.ref p.2.1)) s T.to.2.1;show k _ _ _ q R2 mM
  .show .inl<|F6 o H n _ d c j Q R i b k
 .show .inl<|F6 o H n _ d c j Q R i b k
abbrev bltT:List (Str×MF):=[("len",dD)
 ,("isinstance",mO)
 ,("list",oZ)
 ,("all",yO)
 ,("sorted",t7)
 ,("sum",oS)
 ,("min",zO) ,("max",zP)
 ]
abbrev Ia(x:Str):Option MF:=bltT.lookup x
abbrev VT(K:Ô):gz->Hp->VK->Prop:=λxs H Q=>BL K xs H Q\/(∃a L,xs=[V.ref a]/\H a=b3 (xQ a L)/\Q (.int L.length) H)\/He K xs H Q
def VU:eY K dD (VT K):=by
 intro g H j s d e h Q R i b k;unfold dD at b;split at b
 .rename_i a;split at b
  .rename_i u c;show .inl<|F5 g H j _ d e h Q R i ?_ k;dsimp[vF,bO,c];show b
  .rename_i o c;ext b;cases i with
   |cons i t=>ext t;ext i;let⟨L,h1,n,_⟩:=R.st a o c;have:=congrArg İ n;rw[Ã]at this;show .inr<|.inl ⟨_,L,rfl,h1,?_⟩;rw[this];show k g _ H .refl R<|.int _
  .rename_i p c;ext b;cases i with
   |cons i t=>ext t;ext i;let⟨q,h1,T⟩:=jT R c;have:=congrArg İ T.to.1;rw[Ã,Ã]at this;show .inr<|.inr ⟨_,q,rfl,h1,T.keys,?_⟩;rw[this];show k g _ H .refl R<|.int _
  .ext b
 .show .inl<|F5 g H j _ d e h Q R i b k
def VW(a:X.calm=dI)(b:X.A.units+64<Ą)(h:Ia x=b3 f):∃v r,Ω x=b3 v/\((∃id,v=.builtin id)\/∃T,v=.type T)/\Ü X v r/\eY X.K f r/\x ≠ "__name__":=by
 show fL h (λe g=>?_) λh=>?_
 .subst e;ext g;show⟨_,_,b2A,.inl ⟨_,rfl⟩,ϋ.or<|ϊ.or Ud,VU,⋯⟩
 show fL h (λe g=>?_) λh=>?_
 .subst e;ext g;show⟨_,_,b2B,.inl ⟨_,rfl⟩,b3f,b3g,⋯⟩
 show fL h (λe g=>?_) λh=>?_
 .subst e;ext g;show⟨_,_,PC,.inr ⟨_,rfl⟩,ů.or<|Ue a,VS,⋯⟩
 show fL h (λe g=>?_) λh=>?_
 .subst e;ext g;show⟨_,_,b2E,.inl ⟨_,rfl⟩,a9H a,a9P rfl,⋯⟩
 show fL h (λe g=>?_) λh=>?_
 .subst e;ext g;show⟨_,_,PM,.inl ⟨_,rfl⟩,VI b,VG,⋯⟩
 show fL h (λe g=>?_) λh=>?_
 .subst e;ext g;show⟨_,_,b2w,.inl ⟨_,rfl⟩,b0K a,b0L,⋯⟩
 show fL h (λe g=>?_) λh=>?_
 .subst e;ext g;show⟨_,_,SY,.inl ⟨_,rfl⟩,(Vx a b).or<|a8k a,HM b0I,⋯⟩
 show fL h (λe g=>?_) λh=>?_
 .subst e;ext g;show⟨_,_,b2z,.inl ⟨_,rfl⟩,(Vy a b).or<|a8m a,HM b0H,⋯⟩
 ext h
abbrev CC(x:Str):Option MF:=
 if x="dict" then b3 r8 else
 Ia x
def VX(a:X.calm=dI)(b:X.A.units+64<Ą)(h:CC x=b3 f):∃v r,Ω x=b3 v/\((∃id,v=.builtin id)\/∃T,v=.type T)/\Ü X v r/\eY X.K f r/\x ≠ "__name__":=by
 unfold CC at h;split at h
 .rename_i e;subst e;ext h;show⟨_,_,Se,.inr ⟨_,rfl⟩,Ut a b,Uu,⋯⟩
 show VW a b h
abbrev xj:List ((Str×Nat)×(D->List D->Hm->jk)):=[(("append",1),eV)
 ,(("extend",1),oR)
 ,(("index",1),tV)
 ,(("pop",1),pX)
 ]
abbrev Ib(m:Str)(n:Nat):Option (D->List D->Hm->jk):=xj.lookup (m,n)
abbrev qI:MF:=λds b=>match ds with
 |[.loc a]=>match b[a]? with
  |some (.dT kvs)=>if kvs.length<64/\(∀p∈kvs,p.1≠[])then b3 (.loc b.length,b++[.lst<|(oV kvs).map λk=>D.tup<|k.1.map D.int])else b4|_=>b4
 |_=>b4
def VY:eY K qI (HA K):=by
 intro B H A y d v x Q R i a k;unfold qI at a;split at a
 .split at a
  .rename_i b u;split at a
   .rename_i j;ext a;cases i with
    |cons i t=>
     ext t;ext i;let⟨c,h1,T⟩:=jT R u;let⟨w,g⟩:=UB T;show⟨_,c,rfl,h1,T.keys,(),λp o z=>?_,λl n=>?_⟩
     .have:p.1∈b.map (·.1):=by rw[<- T.to.1];show Õ.mpr ⟨p,o,rfl⟩
      let⟨q,s,e⟩:=Õ.mp this;show j.2 q s<|e.trans z
     .let⟨h,R2,_⟩:=R.alloc (c:=.lst ((oV b).map λk:List Int×D=>D.tup<|k.1.map D.int)) (o:=.lst ((oU c).map λp:List Int×Addr×V=>V.ref p.2.1)) n g.to.2.1;show k _ _ _ h R2 mM
   .ext a
  .ext a
 .ext a
abbrev VZ(S:ġ)(x:Str)(a:Expr):Bool:=match nT a with
 |some y=>S.dMe.contains y|none=>b5
abbrev Ic(S:ġ)(f:Expr)(args:List Expr):Option (Bool×Expr):=(nT f).bind λx=>(o1 args).bind λa=>if(fE a&&VZ S x a)=dI then(if x="sorted" then b3 (dI,a)else if x="dict" then b3 (b5,a)else b4)else b4
def V0(h:Ic S f args=b3 (b,e)):∃p,f=.Name (if b then "sorted" else "dict") p/\args=[e]/\[e].all fE=true:=by
 let⟨x,h1,k⟩:=è.mp h;let⟨a,i,c⟩:=è.mp k;let⟨p,j⟩:=uA h1;clear h1;split at c
 .rename_i g;rw[ó]at g;split at c
  .rename_i d;subst d;ext c;show⟨p,j,uB i,by rw[Ő,g.1];rfl⟩
  .split at c
   .rename_i d;subst d;ext c;show⟨p,j,uB i,by rw[Ő,g.1];rfl⟩
   .ext c
 .ext c
abbrev Pe:List ((Str×Nat)×(D->List D->Hm->jk)):=
 (("setdefault",2),jV) ::
 (("get",2),fS) ::
 (("update",1),sF) ::
 []
abbrev Ie(S:ġ)(o:Expr)(m:Str)(n:Nat):Option (D->List D->Hm->jk):=
 Pe.lookup (m,n)
abbrev zW(S:ġ)(c:Cs)(tg:Expr):Expr->Option Nat
 |.Name x _=>match tg with
  |.Name _ _=>if S.dIt.contains x=dI then qF x c.N else b4|_=>b4
 |_=>b4
abbrev CD(S:ġ)(F:Str->MF)(r:Expr->ME)(c:Cs)(f:Expr)(args:List Expr)(a:Ĳ):ME:=match f with
 |.Name x _=>if glob c x&&args.all fE then(match S.fn.lookup x with
   |some n=>if args.length=n then bJ (F x) (gM r args)else cR|none=>
   if S.no.contains x&&!args.isEmpty then(match CC x with|some g=>bJ g (gM r args)|none=>cR)else cR)
  else cR
 |.Attribute o m apos=>if lK o&&(apos.endLine==a.line)&&args.all fE then(
   match Ie S o m args.length with
   |some g=>fR g (r o) (gM r args)|none=>
   match Ib m args.length with
   |some g=>d9 g (r o) (gM r args)|none=>
    cR)
  else cR
 |_=>cR
abbrev CF(f:Expr)(args:List Expr):Option (Str×Str×Expr):=(nT f).bind λx=>(o1 args).bind λa=>(zV a).bind λg=>(nT g.1).bind λy=>(o1 g.2).map λe=>(x,y,e)
def Ig(h:CF f args=b3 (x,y,e)):∃p c pos,f=.Name x p/\args=[.Call (.Name y c) [e] [] pos]:=by let⟨n,h1,h⟩:=è.mp h;let⟨a,d,h⟩:=è.mp h;let⟨g,i,h⟩:=è.mp h;let⟨o,b,h⟩:=è.mp h;let⟨k,j,h⟩:=ì.mp h;ext h;let⟨p,rfl⟩:=uA h1;let⟨pos,rfl⟩:=HZ i;let⟨c,b⟩:=uA b;show⟨p,c,pos,rfl,by rw[uB d,b,uB j]⟩
abbrev V1(f:Expr)(args:List Expr):Option (Bool×Expr):=(CF f args).bind λt=>
 if t.1="list"/\t.2.1="reversed" then b3 (dI,t.2.2)else
 b4
abbrev Ih:Bool->Str
 |false=>"range"|true=>"reversed"
abbrev lstM:Bool->MF
 |true=>nO|false=>nO
abbrev CG(S:ġ)(F:Str->MF)(r:Expr->ME)(c:Cs)(f:Expr)(args:List Expr)(a:Ĳ):ME:=
 match V1 f args with
 |some (b,e)=>if glob c "list" && glob c (Ih b)&&S.no.contains "list" && S.no.contains (Ih b)&&fE e then bJ (lstM b) (gM r [e])else cR|none=>CD S F r c f args a
abbrev CH:Expr->Option (Expr×Ĳ×Ĳ)
 |.Call g [] [] cpos=>match g with
  |.Attribute o m apos=>if m="items" then b3 (o,apos,cpos)else b4|_=>b4
 |_=>b4
def V2(h:CH e=b3 (o,a,b)):e=.Call (.Attribute o "items" a) [] [] b:=by
 unfold CH at h;split at h
 .split at h
  .split at h
   .rename_i c;ext h;rw[c]
   .ext h
  .ext h
 .ext h
abbrev V3(f:Expr)(args:List Expr):Option (Expr×Ĳ×Ĳ):=(CF f args).bind λt=>if t.1="tuple"/\t.2.1="sorted" then CH t.2.2 else b4
abbrev CI(S:ġ)(F:Str->MF)(r:Expr->ME)(c:Cs)(f:Expr)(args:List Expr)(a:Ĳ):ME:=
 match V3 f args with
 |some q=>if glob c "sorted" && glob c "tuple" && S.no.contains "sorted" && S.no.contains "tuple" && lK q.1&&(q.2.1.endLine==q.2.2.line)then zG (r q.1)else cR|none=>
 match Ic S f args with
 |some (dI,e)=>if glob c "sorted" && S.no.contains "sorted" then bJ qI (gM r [e])else cR|some (b5,e)=>cR|none=>
 CG S F r c f args a
abbrev uC(c:Cs)(scope:Χ)(xs:List Str):Bool:=
 (scope.names.all λy=>decide<|y.2≠.cell)&&decide (scope.kind=.function)&&(scope.names.all λy=>decide (y.2≠.local)||decide (scope.names.lookup y.1=b3 .local)) &&
 (xs.all λx=>decide<|scope.names.lookup x=b3 .local)&&decide xs.Nodup&&(scope.names.all λy=>decide (y.2≠.free)||decide (c.ks.lookup y.1=b3 .cell)||decide (c.ks.lookup y.1=b3 .free)) &&
 (scope.names.all λy=>decide (y.2≠.local)||!(bX xs c.N).contains y.1)&&decide (bX xs c.N).Nodup&&(c.N.all λy=>!xs.contains y||decide (scope.names.lookup (tG y)=b4))
abbrev wH(c:Cs)(scope:Χ)(xs:List Str):Cs:=
 ⟨bX xs c.N++xs,scope.names.map λ(n,k)=>if(k==R8&&c.ks.lookup n==b3 .cell)then(n,bz)else(n,k)⟩
abbrev Ii(r:Expr->MT):List Expr->MT
 |[]=>fD|[t]=>r t|_=>rO
abbrev o7(S:ġ)(c:Cs)(x:Str)(e:Expr):Option (List Expr):=(zV e).bind λg=>(nT g.1).bind λy=>if y=x/\(glob c x&&S.no.contains x&&g.2.all fE)=dI then b3 g.2 else b4
abbrev V4(r:Expr->ME):List Expr->MI
 |[a]=>oQ (gM r [a])|[a,b]=>mP (gM r [a,b])|_=>Gg
abbrev zX(S:ġ)(r:Expr->ME)(c:Cs)(e:Expr):MI:=match o7 S c "range" e with
 |some b=>V4 r b|none=>match(o7 S c "reversed" e).bind o1 with
  |some a=>vQ (gM r [a])|none=>cQ<|r e
abbrev CJ(S:ġ)(r:Expr->ME)(c:Cs)(e:Expr):MI:=match(o7 S c "enumerate" e).bind o1 with
 |some a=>rX (gM r [a])|none=>zX S r c e
abbrev CK(S:ġ)(r:Expr->ME)(c:Cs)(e:Expr):MI:=match(o7 S c "zip" e).bind o2 with
 |some (a,b)=>oW (gM r [a,b])|none=>CJ S r c e
abbrev CL:Expr->Option (List Str)
 |.Name x _=>b3 [x]|.Tuple es _ _=>es.mapM nT|_=>b4
abbrev CM:Expr->Nat->BD
 |.Tuple ..,n=>pU n|_,_=>tI
abbrev zY(S:ġ)(r:Expr->ME)(c:Cs)(tg e:Expr):MI:=match tg with
 |.Tuple ..=>CK S r c e|_=>zX S r c e
abbrev qJ(b:MI)(d:Cs->Expr->ME)(e:Cs->Expr->MT)(c:Cs)(elt tg iter:Expr)(ifs:List Expr)(scope:Χ):ME:=match CL tg with
 |some a=>if uC c scope a&&i8 iter then gU (CM tg a.length) b (Ii (e<|wH c scope a) ifs) (d (wH c scope a) elt)else cR|none=>cR
abbrev CN(S:ġ)(a:Cs->Expr->ME)(b:Cs->Expr->MT)(c:Cs)(elt tg iter:Expr)(ifs:List Expr)(scope:Χ):ME:=
 match zW S c tg iter with
 |some i=>tY i (qJ (eP<|a c iter) a b c elt tg iter ifs scope) cR|none=>
 qJ (zY S (a c) c tg iter) a b c elt tg iter ifs scope
abbrev Ij:Const->ME
 |.int i=>mC (.int i)|.bool b=>mC (.bl b)|.str s=>mC (.str s)|.none=>mC .non|_=>cR
abbrev Ik(m:ME):UnaryOp->ME
 |.USub=>nJ m|.Not=>tB m|_=>cR
abbrev Il(S:ġ)(r:Expr->ME)(a:Expr):List mq->List Expr->ME
 |[op],[b]=>qH op (i8 b) (r a)<|r b
 |[op,op'],[b,b']=>(match jC op,jC op' with
  |some p,b3 q=>lP (iO p) (iO q) (r a) (r b)<|r b'
  |_,_=>cR)
 |_,_=>cR
abbrev Im(S:ġ)(c:Cs):List mq->List Expr->Option (List<|bM×D)
 |[.In],[b]=>CB S c b|_,_=>b4
abbrev CO(S:ġ)(c:Cs)(r:Expr->ME)(a:Expr)(ops:List mq)(bs:List Expr):ME:=match Im S c ops bs with
 |some b=>BS b (r a)|none=>Il S r a ops bs
abbrev CP(r:Expr->ME):List (Option Expr)->List Expr->ME
 |[],[]=>iR|_,_=>cR
abbrev CQ(S:ġ)(r:Expr->ME)(c:Cs)(a b:Expr):ME:=match b with
 |.Slice lo hi b4 _=>rF (r a) (t9 r lo) (t9 r hi)|.Slice lo hi (b3 st) _=>pY (r a) (t9 r lo) (t9 r hi) (t9 r<|b3 st)|b=>if rN b then(match CB S c a with|some d=>vH d (r b)|none=>aA bF (r a)<|r b)else cR
abbrev CS(r:Expr->ME)(es:List Expr):ME:=if es.all fE then cN (gM r es)else cR
abbrev CT(r:Expr->ME)(es:List Expr):ME:=if es.all fE then cP (gM r es)else cR
abbrev CU(S:ġ)(r:Expr->ME)(c:Cs)(f:Expr)(args:List Expr)(d:Str)(b:Expr):ME:=match f with
 |.Name x _=>match args with
  |[a]=>if x="min"/\d="default"/\(glob c "min" && S.no.contains "min" && fE a)=dI then bJ t6 (aB (r a)<|aB (r b) aF)else cR|_=>cR
 |_=>cR
abbrev CV(S:ġ)(F:Str->MF)(r:Expr->ME)(c:Cs)(f:Expr)(args:List Expr)(a:Ĳ):List Υ->ME
 |[]=>CI S F r c f args a|[⟨b3 k1,e1,_⟩]=>CU S r c f args k1 e1|_=>cR
abbrev Io(S:ġ)(a:Cs->Expr->ME)(b:Cs->Expr->MT)(c:Cs)(elt:Expr)(scope:Χ):List Comprehension->ME
 |[⟨tg,iter,ifs,0⟩]=>CN S a b c elt tg iter ifs scope|_=>cR
abbrev Ip(S:ġ)(F:Str->MF)(d:Cs->Expr->ME)(e:Cs->Expr->MT)(c:Cs):Expr->ME
 |.Name x _=>CA S c x|.Constant v _ _=>Ij v|.BinOp a op b _=>HY op (d c a) (d c b)|.UnaryOp op a _=>Ik (d c a) op|.Compare a ops bs _=>CO S c (d c) a ops bs|.BoolOp op vs _=>zT op (vs.map<|d c)|.IfExp t a b _=>iM (e c t) (d c a) (d c b)|.Tuple es _ _=>CS (d c) es|.List es _=>CT (d c) es|.Dict keys values _=>CP (d c) keys values|.Subscript a b _=>CQ S (d c) c a b|.Call f args kws cpos=>CV S F (d c) c f args cpos kws|.ListComp elt gs scope _=>Io S d e c elt scope gs|_=>cR
abbrev wI(r:Expr->ME)(e:Expr):MT:=if BN e then c8 (r e)else rO
abbrev CW(S:ġ)(r:Expr->ME)(a:Expr)(ops:List mq)(bs:List Expr)(p:Ĳ):MT:=match ops,bs with
 |[op],[b]=>a7<|qH op (i8 b) (r a)<|r b
 |[op,op'],[b,b']=>(match jC op,jC op' with
  |some p,b3 q=>a7<|lP (iO p) (iO q) (r a) (r b)<|r b'
  |_,_=>rO)
 |ops,bs=>wI r<|.Compare a ops bs p
abbrev V5(r:Expr->ME)(t:MT)(a:Expr)(p:Ĳ):UnaryOp->MT
 |.Not=>t|op=>wI r<|.UnaryOp op a p
abbrev Iq(S:ġ)(b:Cs->Expr->ME)(d:Cs->Expr->MT)(c:Cs):Expr->MT
 |.BoolOp op vs _=>zU op (vs.map<|d c)|.UnaryOp op a p=>V5 (b c) (jQ<|d c a) a p op|.Compare a ops bs p=>CW S (b c) a ops bs p|e=>wI (b c) e
abbrev tr(S:ġ)(F:Str->MF):Nat->(Cs->Expr->ME)×(Cs->Expr->MT)
 |0=>(λ_ _=>cR,λ_ _=>rO)|n+1=>(Ip S F (tr S F n).1 (tr S F n).2,Iq S (tr S F n).1 (tr S F n).2)
structure þ(S:ġ)(F:Str->MF)(k:Nat)(c:Cs)(X:Cx):Prop where
 N:X.N=c.N
 nd:X.N.Nodup
 ks:X.env.scope.names=c.ks
 kind:X.env.scope.kind=.function
 calm:X.calm=dI
 room:ê k X.A
 never:yj (Î X.prog X.w) X.A X.env X.xe
 fn:∀x n,S.fn.lookup x=b3 n->∃(f:Addr)(fd:ph)(ps:List Str),ĺ X.prog X.w X.K X.mg X.base iZ k f fd ps (mI X.K n<|F x)/\X.mg x=b3 (.ref f)/\ϱ X.K (.ref f)=dI/\Ĩ X.K fd ps []
 con:∀x d,S.con.lookup x=b3 d->∃v u,X.mg x=b3 u/\Í v u/\∀π n H,Ú X.K π n H v d
 tab:∀x kvs,S.tab.lookup x=b3 kvs->χ X x kvs
 no:∀x,S.no.contains x=dI->X.mg x=b4
def V6(ks:X.env.scope.names=c.ks)(h:glob c x=dI):Gl X x/\(x==("__debug__":Str))=false:=by unfold glob at h;rw[ó]at h;show⟨?_,by apply h.2⟩;change X.env.scope.names.lookup x=_;rw[ks];show of_decide_eq_true h.1
def V7{X:Cx}(ks:X.env.scope.names=c.ks)(h:rA c x=dI):qY X.env.scope x/\(x==("__debug__":Str))=b5/\(x==("__classdict__":Str))=false:=by
 unfold rA at h;rw[ó,ó,mX,mX]at h;obtain⟨⟨h1,a⟩,b⟩:=h;show⟨?_,by apply a,by apply b⟩;ext qY;rw[ks];rcases h1 with(h1|h1)|h1
 .show .inl<|of_decide_eq_true h1
 .show .inr<|.inl<|of_decide_eq_true h1
 .show .inr<|.inr<|of_decide_eq_true h1
def þ.gl(O:þ S F k c X)(h:glob c x=dI):Gl X x/\(x==("__debug__":Str))=false:=V6 O.ks h
def þ.vis(O:þ S F k c X)(h:rA c x=dI):qY X.env.scope x/\(x==("__debug__":Str))=b5/\(x==("__classdict__":Str))=false:=V7 O.ks h
def V8(O:þ S F k c X)x pos:QE X (.Name x pos) (CA S c x):=by
 ext CA;split
 .rename_i h;let⟨h1,a,g⟩:=O.vis h;split
  .rename_i i hi;show b3Z i (by rw[O.N];show wG hi) h1 a g
  .show cD
 split
 .rename_i h;let⟨h1,a⟩:=O.gl h;split
  .rename_i d hd;let⟨v,u,m,r,i⟩:=O.con x d hd;show⟨sZ (b0C h1 m r a) i⟩
  .split
   .rename_i j;split
    .rename_i n o;let⟨b,e⟩:=VQ o;show b0e (O.no x j) b h1 e a
    .show cD
   .show cD
 .show cD
def lV(a:∀e,QE X e (r e)):∀es,es.all fE=dI->QA X es (gM r es) es.length
 |[],_=>b0z|e::es,h=>by rw[Ő,ó]at h;show b0y (a e) (lV a es h.2) h.1
def Ir(a:∀e,QE X e (r e))op pos:∀vs,QE X (.BoolOp op vs pos) (zT op<|vs.map r)
 |[]=>cD|[e]=>b1G (a e)|e::d::es=>by
  let b:=Ir a op pos<|d::es;cases op with
  |And=>show b1F (a e) b|Or=>show b1C (a e) b
def Iu(a:∀e,QT X e (r e))op pos:∀vs,QW X (.BoolOp op vs pos) (zU op<|vs.map r)
 |[]=>a7R|[e]=>by
  cases op with
  |And=>show b2H (a e)|Or=>show b2F<|a e
 |e::d::es=>by
  let b:=Iu a op pos<|d::es;cases op with
  |And=>show b1o (a e) b|Or=>show b1n (a e) b
def V9(d:QE X a g)(e:QE X b h)op pos:QE X (.BinOp a op b pos) (HY op g h):=by
 cases op with
 |Add=>show b3T d e|Sub=>show b3S d e|Mult=>show b3R d e|FloorDiv=>show b3O d e|Mod=>show b3N d e|Pow=>show b4L d e|_=>show cD
def Wa(O:þ S F k c X)(d:QE X a g)(e:QE X b i)op pos:QE X (.Compare a [op] [b] pos) (qH op (i8 b) g i):=by
 cases op with
 |Eq=>show b3s O.room d e|NotEq=>show b3q O.room d e|Lt=>show b3p d e|LtE=>show b3m d e|Gt=>show b3h d e|GtE=>show b1H d e|In=>
  dsimp[qH];split
  .rename_i h;show Uh O.room d e h
  .show cD
 |NotIn=>
  dsimp[qH];split
  .rename_i h;show Ui O.room d e h
  .show cD
 |Is=>show a8Q d e|IsNot=>show a8M d e
def Iv:QT X e (a7 cR):=⟨λDo s σ H Q I h=>by
 let⟨i,j,g,d,b,R,E,a,k⟩:=h;ext a⟩
def Wb(O:þ S F k c X)(d:QE X a g)(e:QE X b i)op pos:QT X (.Compare a [op] [b] pos) (a7<|qH op (i8 b) g i):=by
 cases op with
 |Eq=>show b0d O.room d e|NotEq=>show b0W O.room d e|Lt=>show b0U d e|LtE=>show b2M d e|Gt=>show b2L d e|GtE=>show b2K d e|In=>
  dsimp[qH];split
  .rename_i h;show Uj O.room d e h
  .show Iv
 |NotIn=>
  dsimp[qH];split
  .rename_i h;show Uk O.room d e h
  .show Iv
 |Is=>show b0T d e|IsNot=>show b0S d e
def wJ(a:∀e,QE X e (r e)):∀o,QO X o (t9 r o)
 |none=>b0u|some e=>b0n<|a e
def Iw(O:þ S F k c X)(h:CB S c a=b3 kvs):∃x p,a=.Name x p/\χ X x kvs/\Gl X x/\(x==("__debug__":Str))=false:=by
 let⟨x,e,g⟩:=è.mp h;let⟨p,rfl⟩:=uA e;by_cases b:glob c x=dI
 .rw[if_pos b]at g;let⟨h1,d⟩:=O.gl b;show⟨_,_,rfl,O.tab _ _ g,h1,d⟩
 .rw[if_neg b]at g;ext g
def Wc(O:þ S F k c X)(n:∀e,QE X e (r e))(h1:lK o=dI)(i:(d.endLine==h.line)=dI)(j:QA X args (gM r args) args.length)(b:Ib m args.length=b3 g):QE X (.Call (.Attribute o m d) args [] h) (d9 g (r o)<|gM r args):=by
 show fL b (λe g=>?_) λb=>?_
 .let⟨rfl,a⟩:=Ϝ e;ext g;cases args with
  |nil=>ext a|cons e p=>show yM PySem.F.slot_list_append PySem.F.type_list_append Fp LqI (n o) j h1 i<|by rw[a];decide
 show fL b (λe g=>?_) λb=>?_
 .let⟨rfl,a⟩:=Ϝ e;ext g;cases args with
  |nil=>ext a|cons e p=>show yM PySem.F.slot_list_extend PySem.F.type_list_extend b0R L0I (n o) j h1 i<|by rw[a];decide
 show fL b (λe g=>?_) λb=>?_
 .let⟨rfl,a⟩:=Ϝ e;ext g;cases args with
  |nil=>ext a|cons e p=>show yM PySem.F.slot_list_index PySem.F.type_list_index (Tq<|by have:=O.room.units;lia) To (n o) j h1 i<|by rw[a];decide
 show fL b (λe g=>?_) λb=>?_
 .let⟨rfl,a⟩:=Ϝ e;ext g;cases args with
  |nil=>ext a|cons e p=>show yM PySem.F.slot_list_pop PySem.F.type_list_pop b0N a9y (n o) j h1 i<|by rw[a];decide
 ext b
def We(O:þ S F k c X)(n:∀e,QE X e (r e))(h1:lK o=dI)(i:(a.endLine==b.line)=dI)(j:QA X args (gM r args) args.length)(h:Pe.lookup (m,args.length)=b3 g):QE X (.Call (.Attribute o m a) args [] b) (fR g (r o)<|gM r args):=by
 show fL h (λe g=>?_) λh=>?_
 .let⟨rfl,d⟩:=Ϝ e;ext g;cases args with
  |nil=>ext d|cons e p=>show Cq SR PySem.F.type_dict_setdefault (US<|by have:=O.room.units;lia) UR (n o) j h1 i<|by rw[d];decide
 show fL h (λe g=>?_) λh=>?_
 .let⟨rfl,d⟩:=Ϝ e;ext g;cases args with
  |nil=>ext d|cons e p=>show Cq RM PySem.F.type_dict_get (UO<|by have:=O.room.units;lia) UN (n o) j h1 i<|by rw[d];decide
 show fL h (λe g=>?_) λh=>?_
 .let⟨rfl,d⟩:=Ϝ e;ext g;cases args with
  |nil=>ext d|cons e p=>show Cq Rm PySem.F.type_dict_update (VP<|by have:=O.room.units;lia) VO (n o) j h1 i<|by rw[d];decide
 ext h
def Wg(O:þ S F k c X)(u:∀e,QE X e (r e))f args b:QE X (.Call f args [] b) (CD S F r c f args b):=by
 ext CD;split
 .rename_i x p;split
  .rename_i i;rw[ó]at i;let⟨j,q⟩:=O.gl i.1;let h:=lV u args i.2;split
   .rename_i n M;split
    .rename_i L;let⟨N,Q,R,w,d,H,s⟩:=O.fn x n M;subst L;cases args with
     |nil=>show a9W w O.room d H s j q|cons e J=>show b0i w O.room d H s h j q
    .show cD
   .skip;split
    .rename_i a;rw[ó]at a;split
     .rename_i g s;let⟨v,U,z,I,A,B,E⟩:=VX (X:=X) O.calm O.room.units s;cases args with
      |nil=>show absurd a.2 ∅|cons e J=>
       rcases I with⟨id,rfl⟩|⟨T,rfl⟩
       .show Gd A B (O.no x a.1) z h j E q
       .show b0h A B (O.no x a.1) z h j E q
     .show cD
    .show cD
  .show cD
 .rename_i o m y;split
  .rename_i i;rw[ó,ó]at i;obtain⟨⟨h1,G⟩,K⟩:=i;let h:=lV u args K;split
   .rename_i g d;unfold Ie at d;show We O u h1 G h d
   split
   .rename_i g d;show Wc O u h1 G h d
   .skip
    .show cD
  .show cD
 .show cD
def Wh(O:þ S F k c X)(j:∀e,QE X e (r e))f args a:QE X (.Call f args [] a) (CG S F r c f args a):=by
 ext CG;split
 .rename_i b e h;split
  .rename_i i;rw[ó,ó,ó,ó]at i;obtain⟨⟨⟨⟨n,o⟩,s⟩,u⟩,st⟩:=i;let q:=lV j [e] (by rw[Ő,st];rfl);let⟨t,h1,g⟩:=è.mp h;let⟨p,v,pos,rfl,rfl⟩:=Ig h1;split at g
   .rename_i d;ext g;rw[d.1,d.2];show TC O.calm (O.no _ s) (O.no _ u) q (O.gl n).1 (O.gl o).1
   .ext g
  .show cD
 .show Wg O j f args a
def Wi{X:Cx}(nd:X.N.Nodup)(e:X.N=c.N)(ks:X.env.scope.names=c.ks)(h:uC c scope xs=dI):Ņ X.env.scope X.N scope xs/\xs.Nodup:=by
 unfold uC at h;rw[ó,ó]at h;obtain⟨⟨h,b⟩,s⟩:=h;let b:=of_decide_eq_true b;let d:∀y∈c.N,xs.contains y=dI->scope.names.lookup (tG y)=none:=λy a hc=>by have:=ϸ.mp s y a;rw[hc]at this;apply this
 dsimp[ó,ϸ,decide_eq_true_eq,mX,N6,List.contains_eq_mem,decide_eq_false_iff_not]at h;obtain⟨⟨⟨⟨⟨⟨h1,i⟩,j⟩,n⟩,q⟩,o⟩,p⟩:=h;show⟨⟨h1,i,λy a g=>(j y a).resolve_left λz=>z g,n,λy a u=>?_,λy a g=>?_,nd,by rw[e];show b,by rw[e];show d⟩,q⟩
 .rw[ks];rcases o y a with(z|z)|z
  .show absurd u z
  .show .inl z
  .show .inr z
 .rw[e];have:=(p y a).resolve_left λz=>z g;show this
def wK(O:þ S F k c X)(h:uC c scope xs=dI):Ņ X.env.scope X.N scope xs/\xs.Nodup:=Wi O.nd O.N O.ks h
def Iy{N:List Str}(h:N.Nodup)(d:xs.Nodup)(g:∀x∈xs,x∉N):(N++xs).Nodup:=by rw[Ϻ];show⟨h,d,λa i b j e=>by subst e;show g _ j i⟩
def Iz{X:Cx}(Q:Ņ X.env.scope X.N scope xs/\xs.Nodup):(bX xs X.N++xs).Nodup:=Iy Q.1.hnd Q.2 λx a=>Q.1.own (x,.local) (ϵ<|Q.1.here x a) rfl
def Wj{X:Cx}(a:X.env.scope.kind=.function)(ks:X.env.scope.names=c.ks)scope xs:(M7 scope X.env).names=(wH c scope xs).ks:=by
 ext M7 wH;dsimp;show Ť λy _=>?_;let⟨n,b⟩:=y;dsimp;have:(X.env.scope.kind==ScopeKind.function)=true:=by rw[a];rfl
 rw[this,OE];change(if(b==R8&&X.env.scope.names.lookup n==b3 bz)=dI then _ else _)=_;rw[ks]
def þ.comp(O:þ S F k c X)(h:uC c scope xs=dI){C:Addr}:þ S F k (wH c scope xs) (dN X scope cl C (bX xs X.N++xs) s₀ H₀ b):=
 ⟨show bX xs X.N++xs=bX xs c.N++xs by rw[O.N],Iz<|wK O h,Wj O.kind O.ks scope xs,(wK O h).1.kind,O.calm,O.room,RX,O.fn,O.con,λy a q=>⟨(O.tab y a q).ex⟩,O.no
  ⟩
def IA(j:∀e,QT X e (r e)):∀es,QI X es (Ii r es)
 |[]=>b1e|[t]=>b1d<|j t
 |a::b::es=>⟨λg s u H Q I h=>by
   let⟨p,q,o,d,n,R,E,i,k⟩:=h;ext i⟩
def zZ(O:þ S F k c X)(h:o7 S c x e=b3 args):∃p pos,e=.Call (.Name x p) args [] pos/\Gl X x/\X.mg x=b4/\args.all fE=true:=by
 let⟨g,h1,i⟩:=è.mp h;let⟨y,d,a⟩:=è.mp i;by_cases z:y=x/\(glob c x&&S.no.contains x&&g.2.all fE)=dI
 .rw[if_pos z]at a;ext a;let b:=z.2;rw[ó,ó]at b;let⟨pos,h1⟩:=HZ h1;let⟨p,d⟩:=uA d;show⟨p,pos,by rw[h1,d,z.1],(O.gl b.1.1).1,O.no _ b.1.2,b.2⟩
 .rw[if_neg z]at a;ext a
def IB(O:þ S F k c X)(n:∀e,QE X e (r e))e:QJ X e (zX S r c e):=by
 ext zX;cases h:o7 S c "range" e with
 |some o=>
  let⟨p,pos,rfl,h1,j,i⟩:=zZ O h;match o,i with
  |[],_=>show BR|[a],i=>show b2P h1 j (lV n [a] i)|[a,b],i=>show b2O h1 j (lV n [a,b] i)|[a,b,d],i=>show BR|_::_::_::_::_,_=>show BR
 |none=>
  cases g:(o7 S c "reversed" e).bind o1 with
  |some a=>let⟨o,q,s⟩:=è.mp g;obtain rfl:=uB s;let⟨p,pos,rfl,h1,j,i⟩:=zZ O q;show TL h1 j (lV n [a] i)|none=>show b1J<|n e
def Wl(O:þ S F k c X)(b:∀e,QE X e (r e))e:vy X e (CJ S r c e):=by
 ext CJ;cases h:(o7 S c "enumerate" e).bind o1 with
 |some a=>let⟨n,d,g⟩:=è.mp h;obtain rfl:=uB g;let⟨p,pos,rfl,h1,i,j⟩:=zZ O d;show Tn h1 i (lV b [a] j)|none=>show(IB O b e).t
def Wm(O:þ S F k c X)(a:∀e,QE X e (r e))e:vy X e (CK S r c e):=by
 ext CK;cases h:(o7 S c "zip" e).bind o2 with
 |some t=>let⟨j,b,d⟩:=è.mp h;obtain rfl:=VR (a:=t.1) (b:=t.2) d;let⟨p,pos,rfl,h1,g,i⟩:=zZ O b;show Vi h1 g (lV a [t.1,t.2] i)|none=>show Wl O a e
def CY(O:þ S F k c X)(a:∀e,QE X e (r e))tg e:PI X tg e (ϗ X.K<|zY S r c tg e):=by
 cases tg with
 |Tuple=>show(Wm O a e).h _ _ _|_=>show(IB O a e).h _
def IC(h:i8 iter=dI):∀x,ux iter env x=pure x:=by intro z;ext iter<;>first|rfl|ext h
def ID(a:X.N.Nodup):∀es xs n,es.mapM nT=b3 xs->(∀j x,xs[j]?=b3 x->X.N[n+j]?=b3 x/\X.env.scope.names.lookup x=b3 .local)->wg X es (ug n xs.length)
 |[],xs,n,h,hx=>by ext h;show Ge
 |e::es,xs,n,h,hx=>by rw[List.mapM_cons]at h;let⟨x,h1,h⟩:=è.mp h;let⟨d,b,h⟩:=è.mp h;ext h;let⟨p,rfl⟩:=uA h1;rw[Ŋ,N4];let h0:=hx 0 x rfl;show Gf n a (ID a es d (n+1) b λj z c=>?_) h0.1 (.inl h0.2)<|.inr h0.2;have:=hx (j+1) z c;rw[<- Nat.add_assoc,Nat.add_right_comm]at this;show this
def Wn{c:Cs}(Q:Ņ X.env.scope X.N scope [x]/\[x].Nodup)cl C s₀ H₀ a:PG (dN X scope cl C (bX [x] X.N++[x]) s₀ H₀ a) (.Name x p) (Δ X.K<|gB X.N.length tI):=by let d:=Iz Q;let b:(M7 scope X.env).names.lookup x=b3 .local:=Qt (Q.1.here x ∅);show a8L (X:=dN X scope cl C (bX [x] X.N++[x]) s₀ H₀ a) (by change(bX [x] X.N++[x]).length=_;rw[ć,rH];rfl)<|F0 (X:=dN X scope cl C (bX [x] X.N++[x]) s₀ H₀ a) d (by change(bX [x] X.N++[x])[X.N.length]?=_;rw[<- rH [x] X.N];simp) (.inl b)<|.inr b
def z7(O:þ S F k c X)(a:CL tg=b3 xs)(h:uC c scope xs=dI)cl C s₀ H₀ b:
  PG (dN X scope cl C (bX xs X.N++xs) s₀ H₀ b) tg (Δ X.K<|gB X.N.length<|CM tg xs.length)/\∀d o z,CM tg xs.length d o=b3 z->z.length=xs.length:=by
 let⟨St,g⟩:=wK O h;let u:(bX xs X.N++xs).Nodup:=Iy St.hnd g λx a=>St.own (x,.local) (ϵ<|St.here x a) rfl;let e:∀x∈xs,(M7 scope X.env).names.lookup x=b3 .local:=λx a=>Qt<|St.here x a;unfold CL at a;split at a
 .rename_i x p;ext a;show⟨Wn (c:=c) ⟨St,g⟩ cl C s₀ H₀ b,λd o z n=>?_⟩;ext n;rfl
 .rename_i s w pt;show⟨a8J (X:=dN X scope cl C (bX xs X.N++xs) s₀ H₀ b) (by change(bX xs X.N++xs).length=_;rw[ć,rH]) (BP (X:=dN X scope cl C (bX xs X.N++xs) s₀ H₀ b) (ID (X:=dN X scope cl C (bX xs X.N++xs) s₀ H₀ b) u s xs X.N.length a λj x q=>⟨?_,e x<|ķ q⟩) O.calm).h,λd o z n=>?_⟩
  .change(bX xs X.N++xs)[X.N.length+j]?=b3 x;rw[jb<|by rw[rH];lia,rH,show X.N.length+j-X.N.length=j by lia];show q
  .let⟨y,h1,i⟩:=è.mp n;split at i
   .rename_i v;ext i;rw[Ã];show v
   .ext i
 .ext a
def Wo(O:þ S F k c X)(i:∀e,QE X e (r e))f args a:QE X (.Call f args [] a) (CI S F r c f args a):=by
 ext CI;split
 .rename_i q h;split
  .rename_i b;rw[ó,ó,ó,ó,ó]at b;obtain⟨⟨⟨⟨⟨j,n⟩,u⟩,v⟩,st⟩,s⟩:=b;let⟨t,h1,g⟩:=è.mp h;split at g
   .rename_i d;let⟨p,w,pos,rfl,rfl⟩:=Ig h1;rw[d.1,d.2,V2 g];show UZ O.calm O.room.units (O.no _ u) (O.no _ v) (O.gl j).1 (O.gl n).1 (i _) st s
   .ext g
  .show cD
 split
 .rename_i e h;split
  .rename_i b;rw[ó]at b;let⟨p,rfl,rfl,o⟩:=V0 h;show Gd (UJ O.calm) VY (O.no _ b.2) PM (lV i _ o) (O.gl b.1).1 ⋯ (O.gl b.1).2
  .show cD
 .show cD
 show Wh O i _ _ _
def CZ(u:∀c X,þ S F k c X->∀e,QE X e (o c e))(v:∀c X,þ S F k c X->∀e,QT X e (p c e))c X(O:þ S F k c X)elt tg iter ifs scope pos(hi:PI X tg iter (ϗ X.K n)):QE X (.ListComp elt [⟨tg,iter,ifs,0⟩] scope pos) (qJ n o p c elt tg iter ifs scope):=by
 ext qJ;split
 .rename_i y j;split
  .rename_i h;rw[ó]at h;show⟨λg s x H Q I q=>?_⟩;show a7V ((wK O h.1).1.ok I.ok) O.calm hi (λd w z=>(z7 O j h.1 [] 0 s H []).2 d w z) (λC b a i=>(z7 O j h.1 _ C b a i).1) (λC b a i=>(IA (v _ _<|O.comp h.1) _).h) (λC b a i=>(u _ _ (O.comp h.1) _).h) (IC h.2) g s x H Q I q
  .show cD
 .show cD
def Wq(a:∀c X,þ S F k c X->∀e,QE X e (d c e))(b:∀c X,þ S F k c X->∀e,QT X e (g c e))c X(O:þ S F k c X)elt tg iter ifs scope pos:QE X (.ListComp elt [⟨tg,iter,ifs,0⟩] scope pos) (CN S d g c elt tg iter ifs scope):=by
 ext CN;split
 .show UC (CZ a b c X O elt tg iter ifs scope pos<|(Co<|a c X O iter).h tg) cD
 show CZ a b c X O elt tg iter ifs scope pos<|CY O (a c X O) tg iter
def Wr v n p:QE X (.Constant v n p) (Ij v):=by ext v<;>first|show b3Y|show b3W|show b3V|show b3U|show cD
def Ws{r:Expr->ME}(b:∀e,QE X e (r e))op a p:QE X (.UnaryOp op a p) (Ik (r a) op):=by ext op<;>first|show b3x (b _)|show b3w (b _)|show cD
def Wt(O:þ S F k c X)(d:∀e,QE X e (r e))a ops bs p:QE X (.Compare a ops bs p) (Il S r a ops bs):=by
 match ops,bs with
 |[op],[b]=>show Wa O (d _) (d _) _ _|[op,op'],[b,b']=>
  change QE X _ (match jC op,jC op' with
  |some p,b3 q=>lP (iO p) (iO q) (r a) (r b)<|r b'
  |_,_=>cR)
  cases h1:jC op with
  |none=>show cD|some p=>cases g:jC op' with
   |none=>show cD|some q=>show a8h h1 g (d _) (d _)<|d _
 |[],_=>show cD|[_],[]=>show cD|[_],_::_::_=>show cD|[_,_],[]=>show cD|[_,_],[_]=>show cD|[_,_],_::_::_::_=>show cD|_::_::_::_,_=>show cD
def Wu(O:þ S F k c X)(d:∀e,QE X e (r e))a ops bs p:QE X (.Compare a ops bs p) (CO S c r a ops bs):=by
 ext CO;cases h:Im S c ops bs with
 |none=>show Wt O d a ops bs p|some j=>
  match ops,bs,h with
  |[.In],[b],h=>let⟨x,q,rfl,T,g,i⟩:=Iw O h;show TzI T g i<|d _
def Wv(O:þ S F k c X)(a:∀e,QE X e (r e))ks vs p:QE X (.Dict ks vs p) (CP r ks vs):=by
 ext CP;try split
 .show FsI
 .show cD
def Ww(O:þ S F k c X)(d:∀e,QE X e (r e))a b p:QE X (.Subscript a b p) (CQ S r c a b):=by
 ext CQ;split
 .show b0m (d _) (wJ d _)<|wJ d _
 .show Te (d _) (wJ d _) (wJ d _)<|wJ d _
 .split
  .rename_i h;split
   .rename_i n j;let⟨x,p,rfl,T,g,i⟩:=Iw O j;show a7H T g i (d _) h
   .show Ug O.room (d _) (d _) h
  .show cD
def o8(a:∀e,QE X e (r e))e:QT X e (wI r e):=by
 ext wI;split
 .rename_i h;show a9a (a _) h
 .show yH
def Wx(O:þ S F k c X)(d:∀e,QE X e (r e))a ops bs p:QT X (.Compare a ops bs p) (CW S r a ops bs p):=by
 match ops,bs with
 |[op],[b]=>show Wb O (d _) (d _) _ _|[op,op'],[b,b']=>
  ext CW;dsimp;cases h1:jC op with
  |none=>show yH|some p=>cases g:jC op' with
   |none=>show yH|some q=>show a8V h1 g (d _) (d _)<|d _
 |[],_=>show o8 d _|[_],[]=>show o8 d _|[_],_::_::_=>show o8 d _|[_,_],[]=>show o8 d _|[_,_],[_]=>show o8 d _|[_,_],_::_::_::_=>show o8 d _|_::_::_::_,_=>show o8 d _
def Wz(a:∀e,QE X e (r e))es n p:QE X (.Tuple es n p) (CS r es):=by
 ext CS;split
 .rename_i h;show b0x<|lV a _ h
 .show cD
def WA(a:∀e,QE X e (r e))es p:QE X (.List es p) (CT r es):=by
 ext CT;split
 .rename_i h;show b0w<|lV a _ h
 .show cD
def WB(O:þ S F k c X)(b:∀e,QE X e (r e))f args d a g p:QE X (.Call f args [⟨b3 d,a,g⟩] p) (CU S r c f args d a):=by
 ext CU;cases f with
 |Name x i=>
  dsimp;split
  .split
   .rename_i h;let⟨rfl,rfl,h⟩:=h;rw[ó,ó]at h;show Vr O.calm O.room.units (O.gl h.1.1).1 (O.no _ h.1.2) (b _) (b _) h.2
   .show cD
  .show cD
 |_=>show cD
def WC(O:þ S F k c X)(b:∀e,QE X e (r e))f args a p:QE X (.Call f args a p) (CV S F r c f args p a):=by
 ext CV;split
 .show Wo O b _ _ _
 .show WB O b _ _ _ _ _ _
 .show cD
def IE(E:∀c X,þ S F k c X->∀e,QE X e (q c e))(G:∀c X,þ S F k c X->∀e,QT X e (s c e))c X(O:þ S F k c X):
  (∀e,QE X e (Ip S F q s c e))/\∀e,QT X e (Iq S q s c e):=by
 let d:=E c X O;let y:=G c X O;constructor
 .intro e;cases e with
  |Name x p=>show V8 O _ _|Constant v n p=>show Wr v n p|BinOp a i b p=>show V9 (d _) (d _) _ _|UnaryOp i a p=>show Ws d i a p|Compare a g bs p=>show Wu O d a g bs p|BoolOp i A p=>show Ir d _ _ _|IfExp t a b p=>show b1B (y _) (d _) (d _)|Tuple w n p=>show Wz d w n p|List w p=>show WA d w p|Dict H A p=>show Wv O d H A p|Subscript a b p=>show Ww O d a b p|Call f j z o=>show WC O d f j z o|ListComp u B h p=>
   change QE X _ (Io S q s c u h B);match B with
   |[]=>show cD|[⟨_,_,_,.ofNat 0⟩]=>show Wq E G c X O _ _ _ _ _ _|[⟨_,_,_,.ofNat<|_+1⟩]=>show cD|[⟨_,_,_,.negSucc _⟩]=>show cD|⟨_,_,_,.ofNat 0⟩::_::_=>show cD|⟨_,_,_,.ofNat<|_+1⟩::_::_=>show cD|⟨_,_,_,.negSucc _⟩::_::_=>show cD
  |_=>show cD
 .intro e;cases e with
  |BoolOp i A p=>show b1l (Iu y _ _ _)|UnaryOp i a p=>
   ext i;case Not=>show b2I<|y _
   all_goals show o8 d _
  |Compare a g bs p=>show Wx O d a g bs p|_=>show o8 d _
def C0:∀n,(∀c X,þ S F k c X->∀e,QE X e ((tr S F n).1 c e))/\∀c X,þ S F k c X->∀e,QT X e ((tr S F n).2 c e)
 |0=>⟨λc X O e=>cD,λc X O e=>yH⟩|n+1=>by let a:=C0 (S:=S) (F:=F) (k:=k) n;show⟨λc X O e=>(IE a.1 a.2 c X O).1 e,λc X O e=>(IE a.1 a.2 c X O).2 e⟩
abbrev z8:MG:=λ_ _ _=>b4
abbrev wL(c:Cs):List Expr->Option (List Nat)
 |[]=>b3 []|.Name x _::r=>if qG c x then(qF x c.N).bind λi=>(wL c r).map (i::·)else b4|_=>b4
abbrev uD(c:Cs):Expr->MG
 |.Name x _=>if qG c x then(match qF x c.N with|some i=>cL i|none=>z8)else z8|.Tuple es _ _=>match wL c es with|some a=>dB a|none=>z8
 |_=>z8
abbrev nU(r:Stmt->MS):List Stmt->MS
 |[]=>bV|[s]=>r s|s::t=>aL (r s)<|nU r t
abbrev C1(S:ġ)(E:Cs->Expr->ME)(T:Cs->Expr->MT)(c:Cs)(i:Nat):Expr->MS
 |.ListComp elt [⟨tg,iter,ifs,0⟩] scope _=>match zW S c tg iter with
  |some j=>gJ j (fN i<|qJ (eP<|E c iter) E T c elt tg iter ifs scope) dO|none=>fN i<|qJ (zY S (E c) c tg iter) E T c elt tg iter ifs scope
 |_=>dO
abbrev C2(S:ġ)(E:Cs->Expr->ME)(T:Cs->Expr->MT)(c:Cs)(tg e:Expr):MS:=match tg with
 |.Name y _=>if qG c y then(match qF y c.N with
   |some i=>if oP e then fN i (E c e)else C1 S E T c i e
   |none=>dO)else dO
 |.Tuple es _ _=>if BQ e then(match wL c es with|some a=>hW (E c e) (dB a)|none=>dO)
   else dO
 |.Subscript o i _=>if oP e&&rN i then eJ (E c o) (E c i) (E c e)else dO|_=>dO
abbrev uE:Nat:=1000000000
abbrev C3(S:ġ)(c:Cs)(tg:Expr):Expr->Option (Nat×Expr×Ĳ×Ĳ)
 |.Call g [] [] cpos=>match g with
  |.Attribute o m apos=>if m="values" then(zW S c tg o).map λj=>(j,o,apos,cpos)else b4|_=>b4
 |_=>b4
def WD(h:C3 S c tg e=b3 q):e=.Call (.Attribute q.2.1 "values" q.2.2.1) [] [] q.2.2.2:=by
 unfold C3 at h;split at h
 .split at h
  .split at h
   .rename_i a;let⟨j,_,rfl⟩:=ì.mp h;rw[a]
   .ext h
  .ext h
 .ext h
abbrev C4(tg:Expr):Expr->Option (Expr×Ĳ×Ĳ)
 |.Call g [] [] cpos=>match g with
  |.Attribute o m apos=>match tg with
   |.Tuple ..=>if m="items" then b3 (o,apos,cpos)else b4|_=>b4
  |_=>b4
 |_=>b4
def WE(h:C4 tg e=b3 q):e=.Call (.Attribute q.1 "items" q.2.1) [] [] q.2.2/\∃es b p,tg=.Tuple es b p:=by
 unfold C4 at h;split at h
 .split at h
  .split at h
   .split at h
    .rename_i a;ext h;rw[a];show⟨rfl,_,_,_,rfl⟩
    .ext h
   .ext h
  .ext h
 .ext h
abbrev IH(S:ġ)(E:Cs->Expr->ME)(T:Cs->Expr->MT)(c:Cs)(r:Stmt->MS):Stmt->MS
 |.Return (b3 e) _=>aM (E c e)|.Return b4 _=>aM (mC .non)|.If t a b _=>bK (T c t) (nU r a) (nU r b)|.Assign [tg] e _=>C2 S E T c tg e|.Expr e _=>if oP e then dW (E c e)else dO|.For tg iter body [] _=>if i8 iter then
  (match C4 tg iter with
  |some q=>if lK q.1&&(q.2.1.endLine==q.2.2.line)then b9 (wA<|E c q.1) (uD c tg) (nU r body)else dO|none=>
  (match C3 S c tg iter with
  |some q=>if lK q.2.1&&(q.2.2.1.endLine==q.2.2.2.line)then gJ q.1 (b9 (tZ<|E c q.2.1) (uD c tg)<|nU r body) dO else dO|none=>
  (match zW S c tg iter with
  |some j=>gJ j (b9 (eP<|E c iter) (uD c tg)<|nU r body) dO
  |none=>b9 (zY S (E c) c tg iter) (uD c tg)<|nU r body)
  )
  )
  else dO
 |.While t body [] _=>tR uE (T c t) (nU r body)|.Pass _=>bV|_=>dO
abbrev C5(S:ġ)(F:Str->MF)(m:Nat)(c:Cs):Nat->Stmt->MS
 |0=>λ_=>dO|n+1=>IH S (tr S F m).1 (tr S F m).2 c<|C5 S F m c n
def WG{X:Cx}(ks:X.env.scope.names=c.ks)(h:qG c x=dI):L2.Loc X.env.scope x:=by unfold qG at h;rw[mX]at h;ext L2.Loc;rw[ks];show h.imp of_decide_eq_true of_decide_eq_true
def þ.own(O:þ S F k c X)(h:qG c x=dI):L2.Loc X.env.scope x:=WG O.ks h
def C6(O:þ S F k c X)(b:∀x,X.fn x=dI):∀es a,wL c es=b3 a->wg X es a
 |[],a,h=>by ext h;show Ge
 |e::es,a,h=>by
  cases e with
  |Name x p=>
   unfold wL at h;split at h
   .rename_i g;let⟨i,h1,h⟩:=è.mp h;let⟨j,d,h⟩:=ì.mp h;subst h;show Gf i O.nd (C6 O b es j d) (by rw[O.N];show wG h1) (O.own g)<|.inl<|b x
   .ext h
  |_=>ext h
def Aa(O:þ S F k c X)(a:∀x,X.fn x=dI)e:QG X e (uD c e):=by
 ext uD;split
 .split
  .rename_i b;split
   .rename_i i hi;show b1O i O.nd (by rw[O.N];show wG hi) (O.own b)<|.inl<|a _
   .show yI λ_ _ _=>rfl
  .show yI λ_ _ _=>rfl
 .split
  .rename_i d hi;show BP (C6 O a _ d hi) O.calm
  .show yI λ_ _ _=>rfl
 .show yI λ_ _ _=>rfl
def o9(a:∀s,QS X s (r s)):∀b,QB X b (nU r b)
 |[]=>b1b|[s]=>b1Z (a s)|s::t::ts=>b1a (a s)<|o9 a<|t::ts
def WH:
  ∃b,fj (.ListComp elt [⟨tg,iter,ifs,0⟩] scope pos) (b3<|.Name y py) n env=pure b/\(b=dI->env.kindOf y=b3 .local):=by
 show⟨env.blockKind==.function&&env.kindOf y==b3 .local&&py.line==pos.line&&!(scope.names.any λ(n,k)=>n==y&&(k==.local||k==.cell)),rfl,λh=>?_⟩;dsimp[ó,beq_iff_eq]at h;show h.1.1.2
def II(O:þ S F k c X)(J:∀x,X.fn x=dI)(w:∀c X,þ S F k c X->∀e,QE X e (E c e))(A:∀c X,þ S F k c X->∀e,QT X e (T c e))(hi:X.N[i]?=b3 y)(K:qG c y=dI)elt tg iter ifs scope pos(o:PI X tg iter (ϗ X.K G)):QS X (.Assign [.Name y py] (.ListComp elt [⟨tg,iter,ifs,0⟩] scope pos) j) (fN i<|qJ G E T c elt tg iter ifs scope):=by
  let⟨b,n,v⟩:=WH (elt:=elt) (tg:=tg) (iter:=iter) (ifs:=ifs) (scope:=scope) (pos:=pos) (py:=py) (y:=y) (n:=j.line) (env:=X.env);cases b with
  |false=>show⟨FJ O.nd hi (O.own K) (CZ w A c X O elt tg iter ifs scope pos o).h n<|.inl<|J y⟩|true=>
   ext qJ;split
   .rename_i N B;split
    .rename_i h;rw[ó]at h;show⟨λp s M H D I q=>?_⟩;show a7U ((wK O h.1).1.ok I.ok) O.nd O.calm o (λd L z=>(z7 O B h.1 [] 0 s H []).2 d L z) (λC g a u=>(z7 O B h.1 _ C g a u).1) (λC g a u=>(IA (A _ _<|O.comp h.1) _).h) (λC g a u=>(w _ _ (O.comp h.1) _).h) (IC h.2) hi (v rfl) n p s M H D I q
    .show G0
   .show G0
def WI(O:þ S F k c X)(g:∀x,X.fn x=dI)(b:∀c X,þ S F k c X->∀e,QE X e (E c e))(d:∀c X,þ S F k c X->∀e,QT X e (T c e))(hi:X.N[i]?=b3 y)(h:qG c y=dI)e:QS X (.Assign [.Name y py] e a) (C1 S E T c i e):=by
 ext C1;split
 .split
  .show Ck (II O g b d hi h _ _ _ _ _ _<|(Co<|b c X O _).h _) fQ
  .show II O g b d hi h _ _ _ _ _ _<|CY O (b c X O) _ _
 .show fQ
def WJ(O:þ S F k c X)(d:∀x,X.fn x=dI)(b:∀c X,þ S F k c X->∀e,QE X e (E c e))(n:∀c X,þ S F k c X->∀e,QT X e (T c e))tg e pos:
  QS X (.Assign [tg] e pos) (C2 S E T c tg e):=by
 ext C2;split
 .split
  .rename_i j;split
   .rename_i i hi;let a:=wG hi;rw[<- O.N]at a;split
    .rename_i g;show b1R i O.nd (b c X O e) g a (O.own j)<|.inl<|d _
    .show WI O d b n a j e
   .show fQ
  .show fQ
 .split
  .rename_i g;split
   .rename_i o hi;show b1L (b c X O e) (BP (C6 O d _ o hi) O.calm) g
   .show fQ
  .show fQ
 .split
  .rename_i h;rw[ó]at h;show Ul O.room (b c X O _) (b c X O _) (b c X O _) h.1
  .show fQ
 .show fQ
def WK(O:þ S F k c X)(u:∀x,X.fn x=dI)(g:∀c X,þ S F k c X->∀e,QE X e (E c e))(w:∀c X,þ S F k c X->∀e,QT X e (T c e))(j:∀s,QS X s (r s))st:
  QS X st (IH S E T c r st):=by
 cases st with
 |Return o p=>
  cases o with
  |none=>show a9U|some e=>show b1X<|g c X O _
 |If t a b p=>show b1V (w c X O _) (o9 j _) (o9 j _)|Assign z e p=>
  cases z with
  |nil=>show fQ|cons H I=>
   cases I with
   |nil=>show WJ O u g w _ _ _|cons _ _=>show fQ
 |Expr e p=>
  change QS X _ (if oP e then dW (E c e)else dO);split
  .rename_i h;show b1W (g c X O _) h
  .show fQ
 |For H v n d p=>
  cases d with
  |cons _ _=>show fQ|nil=>
   change QS X _ (if i8 v then _ else dO);split
   .rename_i h;split
    .rename_i q y;split
     .rename_i i;rw[ó]at i;let⟨e,B,G,pt,A⟩:=WE y;rw[e]at h ⊢;subst A;show yW ((Vn (g c X O _) i.1 i.2).h B G pt) (Aa O u _) (o9 j _) O.never O.calm h
     .show fQ
    split
    .rename_i q y;split
     .rename_i i;rw[ó]at i;let e:=WD y;rw[e]at h ⊢;show Ck (yW ((U5 (g c X O _) i.1 i.2).h _) (Aa O u _) (o9 j _) O.never O.calm h) fQ
     .show fQ
    split
    .show Ck (yW ((Co<|g c X O _).h _) (Aa O u _) (o9 j _) O.never O.calm h) fQ
    show yW (CY O (g c X O) _ _) (Aa O u _) (o9 j _) O.never O.calm h
   .show fQ
 |While t n d p=>
  cases d with
  |nil=>show a9V _ (w c X O _) (o9 j _) O.never|cons _ _=>show fQ
 |Pass p=>show b1Y|_=>show fQ
def IJ(O:þ S F k c X)(a:∀x,X.fn x=dI)m:∀n st,QS X st (C5 S F m c n st)
 |0,_=>fQ|n+1,st=>WK O a (C0 m).1 (C0 m).2 (IJ O a m n) st
abbrev fG(st:Stmt):List Str:=(k7 st).args.map (·.arg)
abbrev qK(st:Stmt):List Str:=fG st++(dM st).names.filterMap λy=>if(y.2==NameKind.local||y.2==bz)&&!(fG st).contains y.1 then b3 y.1 else b4
abbrev qL(st:Stmt):Bool:=
 decide ((dM st).kind=.function)&&!(dM st).isCoroutine&&!(dM st).isGenerator&&decide (qK st).Nodup &&
 ((fG st).all λx=>decide ((dM st).names.lookup x=b3 .local)||decide ((dM st).names.lookup x=b3 .cell))&&((dM st).names.all λy=>decide<|y.2≠.free)
def WL(h:qL st=dI):Ĭ (qK st) (fG st) (dM st):=by unfold qL at h;dsimp[ó,decide_eq_true_eq,N6,ϸ,mX]at h;obtain⟨⟨⟨⟨⟨h1,a⟩,b⟩,c⟩,d⟩,e⟩:=h;show⟨h1,a,b,c,by ext qK;simp,d,e⟩
abbrev IK:Nat:=40
abbrev IL:Nat:=40
noncomputable abbrev lk(_:ġ)(ds:List (Str×Stmt))(x:Str):Option Stmt:=ds.lookup x
abbrev C7(S:ġ)(F:Str->MF)(st:Stmt):MF:=Bv (qK st).length<|nU (C5 S F IK ⟨qK st,(dM st).names⟩ IL)<|iJ st
abbrev mT(S:ġ)(ds:List (Str×Stmt)):Nat->Str->MF
 |0,_=>λ_ _=>b4|k+1,x=>match lk S ds x with
  |none=>λ_ _=>b4|some st=>C7 S (mT S ds k) st
structure ψ(K:Ô)(mg:Str->Option Value)(x:Str)(st:Stmt):Prop where
 ex:∃f fd,ϧ K x x st f fd/\mg x=b3 (.ref f)/\Ĩ K fd (fG st) []
structure ŧ(P:ť)(w:ĳ)(K:Ô)(mg:Str->Option Value)(S:ġ)(ds:List (Str×Stmt)):Prop where
 fns:∀x n,S.fn.lookup x=b3 n->∃st,ds.lookup x=b3 st/\(fG st).length=n
 defs:∀x st,ds.lookup x=b3 st->ψ K mg x st/\qL st=dI
 con:∀x d,S.con.lookup x=b3 d->∃v u,mg x=b3 u/\Í v u/\∀π n H,Ú K π n H v d
 tab:∀x kvs,S.tab.lookup x=b3 kvs->∃(p:Addr)(vs:List (bM×V))(ws:List (bM×Value)),mg x=b3 (.ref p)/\(p==ľ)=b5/\(∀h:ñ,K.In h->h.DictOf (jP P w) p ws)/\KV vs ws/\∀π n H,ş K π n H vs kvs
 no:∀x,S.no.contains x=dI->mg x=b4
def IM(h:ds.lookup x=b3 st):lk S ds x=b3 st:=by ext lk;rw[h]
def ŧ.sc(T:ŧ P w K a S ds)(h:lk S ds x=b3 st):qL st=true:=(T.defs _ _ h).2
def WM(T:ŧ P w K u S ds)k:∀x st J q f j,lk S ds x=b3 st->ϧ K J q st f j->
  ĺ P w K u base iZ k f j (fG st) (mI K (fG st).length<|mT S ds k x):=by
 induction k using Nat.strongRecOn with
 |_ k o=>
 intro x st J q f j G U;cases k with
 |zero=>show⟨λvs H Q E h=>h.1,λA outer s H z us vs Q E I he hb hv Y=>by
   let⟨_,π,M,μ,d,μ',R,i,X,kc⟩:=Y;ext X⟩
 |succ k=>
  let ih:=o k<|Ϥ k;let e:mT S ds (k+1) x=C7 S (mT S ds k) st:=by change(match lk S ds x with|none=>_|some st=>C7 S (mT S ds k) st)=_;rw[G]
  rw[e];let c:=WL<|T.sc G;show b1K U c (by ext qK;simp) rfl λg A outer s H E I=>?_;let O:þ S (mT S ds k) k ⟨qK st,(dM st).names⟩ (oK iZ P w K u base (qK st) q (dM st) f g A outer s H E).nox:=by
   show⟨rfl,c.nd,rfl,c.kind,rfl,I,RX,λy n Z=>?_,T.con,λy p q=>⟨T.tab y p q⟩,T.no
    ⟩
   .let⟨a,h1,N⟩:=T.fns y n Z;let⟨B,b,v,m',L⟩:=(T.defs y a h1).1.ex;subst N;show⟨B,b,fG a,ih y a _ _ B b (IM h1) v,m',v.kp,L⟩
  show o9 (IJ O (λ_=>rfl) IK IL)<|iJ st
def WN(T:ŧ P w K b S ds)k x st f a(d:ds.lookup x=b3 st)(c:ϧ K x x st f a):
  ĺ P w K b base iZ k f a (fG st) (mI K (fG st).length<|mT S ds k x):=WM T k x st x x f a (IM d) c
def IP:∀{ns:List Int}{b},PJ (ns.map sr)<=b->∀n∈ns,Ŷ n<=b
 |[],_,_,n,a=>nomatch a|m::ns,b,h,n,a=>by
  let e:PJ ((m::ns).map sr)=Rv (.int m)+1+PJ (ns.map sr):=rfl;let c:Rv (.int m)=Ŷ m:=rfl;rw[e,c]at h;rcases Č.mp a with rfl|a
  .lia
  .show IP (b:=b) () n a
section
open PySem PySem.W PySem.Calls PyProof.Rows
def WO{l:Qq}(T:l.most=b3 n)(x:d.params.defaults=[])(call:∀w s₀ b s A g o B p c a(vs:gw)ns,
   Ground q loose [] XP w s₀ s A b.heap->YP w b.heap->
   b.heap.get? g=b3 o->o.data=.func (docDef d.name d.params d.body d.scope B p c)->b.heap.CodeRec p d.name->s d.name=b3 (.ref g)->
   b.heap.get? a=b3 {cls:=.type "list",data:=.seq vs.toArray}->Ŵ vs ns->ns.length<=n->(∀m∈ns,Ŷ m<=2^20)->b.gens=#[]->
   ι (Î l.prog w) jt (.call (.ref g) ⟨[.ref a],[]⟩) (λr u=>r=.ok (.ret<|.bool dI)/\OldK b.heap u.heap/\u.os=b.os/\fB u.gens) b):
  R0 q loose XP YP l.row.toRowW d [] (λf vs=>Pt f vs):=by
 intro w s₀ b s A G Y g o B p c J kV U hd v H y O E I as k h Z z Q;obtain rfl:J=.none:=Dflts.none H x;obtain rfl:kV=.none:=Dflts.noKw H;let⟨a,vs,ns,rfl,rfl,j,e,i⟩:=Att.script_of T k z;let N:∀m∈ns,Ŷ m<=2^20:=by
  let h1:SO (.list<|ns.map sr)=true:=by have:=h;unfold b4g at this;apply this
  unfold SO at h1;rw[ó]at h1;show IP<|of_decide_eq_true h1.2
 show enter_call<|ML (call w s₀ b s A g o B p c a vs ns G Y U (fd_plain hd) v y j e i N O) λr u X=>?_;let⟨rfl,K,L,M⟩:=X;show⟨.inl ⟨.bool dI,.bool dI,[],rfl,λ_=>rfl,.bool dI,Att.post_true l _,λ_=>⟨Oq,λ_ R=>(nomatch R)⟩⟩,K,L,M⟩
end
def walkM{l:Qq}{K:ϑ->Ô}(hn:l.most=b3 63)(L:d.params.defaults=[])(hr:ê k jt)(hY:∀w h,YP w h->(K w.params).In h)(hl:ds.lookup d.name=b3 st)(hx:fG st=[x])(T:∀w B h,(K w.params).In h->h.Ns Ų B->ŧ l.prog w (K w.params) B S ds/\∃f I,ϧ (K w.params) d.name d.name st f I/\B d.name=b3 (.ref f)/\∀s u,jy s I ⟨[u],[]⟩ [(x,u)])(M:∀b:List Int,b.length<=63->(∀m∈b,Ŷ m<=2^20)->∃p,mT S ds k d.name [.rol<|b.map D.int] []=b3 (.bl dI,p)):
  R0 q loose XP YP l.row.toRowW d [] (λf Z=>Pt f Z):=by
 show WO hn L λw U X B mb fa o pm cd doc a Z b G Y ho hd hcd N A g c J hg=>?_;let Q:=hY w _ Y;let⟨hT,f,I,hF,R,hb⟩:=T w B _ Q G.T.g;rw[N]at R;ext R;show L2.law_call (CX:=iZ) (sp:=mI (K w.params) 1 (mT S ds k d.name)) Q G.T.g G.T.b G.T.builtins G.T.nolimit hg A g (Ģ c ⋯) hr (λy hb1 hb2=>?_) hb (λH hO hS=>?_) λH e s' z=>z
 .have:=WN (base:=y) hT k d.name st fa I hl hF;rw[hx]at this;show this
 .let⟨p,hM⟩:=M b c J;let O:aj (K w.params) H a (b.map V.int):=by
   rcases hS with(h|h)|h
   .rcases hO a with z|⟨o,E,z⟩
    .rw[z]at h;ext h
    .rw[z]at h;ext h
   .show .inl h
   .show .inr h
  show⟨rfl,λ_=>0,[.rol<|b.map D.int],[],.bl dI,p,⟨λi j hi=>absurd hi<|N0 _,λi hi=>absurd hi<|N0 _,λi E h=>(by ext h),λi E h=>(by ext h),λi E h=>(by ext h)
   ,λi E h=>(by ext h)
   ,λi E h=>(by ext h)
   ⟩,.cons (.rol O ?_) .nil,hM,λπ' v H' _ _ hv=>?_⟩
  .have:∀b:List Int,Ç (K w.params) (λ_=>0) ([]:Hm).length H (b.map V.int) (b.map D.int):=λb=>by
    induction b with
    |nil=>show .nil|cons n r ih=>show .cons (.int n) ih
   show this b
  .ext hv;rfl
end L3
namespace L3
open PySem L2
def wM{a:Type}:∀{l:List (Str×a)}{x}{b},l.lookup x=b3 b->(x,b)∈l:=λh=>ϵ h
def WQ{S:ġ}{ds:List (Str×Stmt)}(h:(S.fn.all λp=>match ds.lookup p.1 with|some st=>decide ((fG st).length=p.2)|none=>b5)=dI):∀x n,S.fn.lookup x=b3 n->∃st,ds.lookup x=b3 st/\(fG st).length=n:=by
 intro x n e;have:=ϸ.mp h (x,n)<|wM e;dsimp at this;split at this
 .rename_i st a;show⟨st,a,of_decide_eq_true this⟩
 .ext this
def WR{ds:List (Str×Stmt)}(h:∀p∈ds,ψ K a p.1 p.2/\qL p.2=dI):∀x st,ds.lookup x=b3 st->ψ K a x st/\qL st=true:=λx st e=>h (x,st)<|wM e
def WS{b:Str->Option Value}{a:List (Str×D)}(h:∀p∈a,∃v u,b p.1=b3 u/\Í v u/\∀π n H,Ú K π n H v p.2):∀x d,a.lookup x=b3 d->∃v u,b x=b3 u/\Í v u/\∀π n H,Ú K π n H v d:=λx d e=>h (x,d)<|wM e
def WT{b:Str->Option Value}{ts:List (Str×List (bM×D))}(h:∀t∈ts,∃(p:Addr)(vs:List (bM×V))(ws:List (bM×Value)),b t.1=b3 (.ref p)/\(p==ľ)=b5/\(∀h,K.In h->h.DictOf (jP P w) p ws)/\KV vs ws/\∀π n H,ş K π n H vs t.2):
  ∀x a,ts.lookup x=b3 a->∃(p:Addr)(vs:List (bM×V))(ws:List (bM×Value)),b x=b3 (.ref p)/\(p==ľ)=b5/\(∀h,K.In h->h.DictOf (jP P w) p ws)/\KV vs ws/\∀π n H,ş K π n H vs a:=λx a e=>h (x,a)<|wM e
inductive ħ (w:ĳ):List DictEntry->List (bM×Value)->Prop where
 |nil:ħ w [] []
 |cons {e:DictEntry}{k:bM}{v:Value}{es:List DictEntry}{kvs:List (bM×Value)}(h:oH k e.key=dI)(hh:e.hash=Ey w k)(hv:e.val=v)(t:ħ w es kvs):ħ w (e::es)<|(k,v)::kvs
def ħ.pairs(x:ħ w es kvs):Pairs (jP P w) es kvs:=by
 induction x with
 |nil=>show .nil|cons h c a _ b=>show .cons h a b
def ħ.keys(x:ħ w es kvs):∀e∈es,∃k,(jP P w).is k e.key=dI/\e.hash=(jP P w).hash k:=by
 induction x with
 |nil=>intro e a;show nomatch a|@cons e k v es kvs h c g _ d=>
  intro b a;rcases Č.mp a with rfl|a
  .show⟨k,h,c⟩
  .show d b a
def WU{h:ñ}(b:h.get? p=b3 {cls:=.type "dict",data:=.dict es.toArray ep})(x:ħ w es kvs)(d:ks.Nodup)(c:kvs.map (·.1)=ks):h.DictOf (jP P w) p kvs:=
 ⟨_,es.toArray,ep,b,⟨rfl,rfl,rfl⟩,rfl,λe a=>x.keys e<|by apply a,by apply x.pairs,c▸d⟩
def IQ x t:oH (.inr x) (.str x t)=true:=by simp[oH,OR]
def WV{a:Str->Option Value}{ns:List Str}(h:∀x∈ns,a x=b4):∀x,ns.contains x=dI->a x=none:=λx e=>h x<|by apply e
abbrev Ab:Nat->(Nat->Value)->gw
 |0,_=>[]|n+1,u=>u 0::Ab n λi=>u<|i+1
def IT:∀us,∃u,us=Ab us.length u
 |[]=>⟨λ_=>.none,rfl⟩|v::us=>let⟨u,a⟩:=IT us;⟨λi=>match i with|0=>v|i+1=>u i,congrArg (v::·) a⟩
noncomputable abbrev IU:Type:=Value->Value->Value->Option Addr->Value->Value->(Nat->Value)->J1 (List<|Str×Value)
abbrev WW(x:Str)(st:Stmt)(m:Value)(c:Addr):Obj:=⟨ü "function",b4,.func<|ώ x x (k7 st) (iJ st) (dM st) .none .none .none m b4 (.ref c) .none,#[]⟩
abbrev IV(K:Ô)(d:(Str×Stmt)×Value×Addr×Addr):Option (Option Value)×Option Obj×Bool×Bool×Bool×IU:=(rn K Ų d.1.1,K.lookup d.2.2.2,N2 K (.ref d.2.2.1) d.1.1,ϱ K<|.ref d.2.2.2,qL d.1.2,λkV b c an a ct u=>M5 (ώ d.1.1 d.1.1 (k7 d.1.2) (iJ d.1.2) (dM d.1.2) .none kV b c an a ct) ⟨Ab (fG d.1.2).length u,[]⟩)
abbrev IW(d:(Str×Stmt)×Value×Addr×Addr):Option (Option Value)×Option Obj×Bool×Bool×Bool×IU:=(b3<|b3<|.ref d.2.2.2,b3<|WW d.1.1 d.1.2 d.2.1 d.2.2.1,dI,dI,dI,λ_ _ _ _ _ _ u=>pure<|(fG d.1.2).zip<|Ab (fG d.1.2).length u)
abbrev Ac(K:Ô)(d:Str×Stmt):(Str×Stmt)×Value×Addr×Addr:=(d,match rn K Ų d.1 with
 |some (b3<|.ref f)=>(match K.lookup f with
  |some ⟨_,_,.func fd,_⟩=>(match fd.code with
   |.ref c=>(fd.pyModule,c,f)
   |_=>(.none,0,0))
  |_=>(.none,0,0))
 |_=>(.none,0,0))
abbrev Ad(K:Ô)(ds:List (Str×Stmt)):Prop:=ds.map (λd=>IV K<|Ac K d)=ds.map λd=>IW<|Ac K d
def IX(X:K.In h)(G:h.Ns Ų i)(q:Ad K ds):∀p∈ds,(ψ K i p.1 p.2/\qL p.2=dI)/\∃f j,ϧ K p.1 p.1 p.2 f j/\i p.1=b3 (.ref f)/\∀us:gw,us.length=(fG p.2).length->M5 j ⟨us,[]⟩=pure ((fG p.2).zip us):=by
 intro g v;let t:=RE.mp q g v;let e:(Ac K g).1=g:=rfl;generalize Ac K g=d at t e;let⟨p,m,c,f⟩:=d;ext e;unfold IV IW at t;let⟨a,t⟩:=Ϝ t;let⟨l,t⟩:=Ϝ t;let⟨c,t⟩:=Ϝ t;let⟨k,t⟩:=Ϝ t;let⟨s,b⟩:=Ϝ t;let F:=b0D (st:=p.2) l c k;let D:=λkV doc pm an cdv ct (us:gw)(o:us.length=(fG p.2).length)=>(by
  let⟨u,n⟩:=IT us;rw[o]at n;rw[n];show congrFun (congrFun (congrFun (congrFun (congrFun (congrFun (congrFun b kV) doc) pm) an) cdv) ct) u:M5 (ώ p.1 p.1 (k7 p.2) (iJ p.2) (dM p.2) .none kV doc pm an cdv ct) ⟨us,[]⟩=pure ((fG p.2).zip us))
 show⟨⟨⟨_,_,F,NB X G a,Ĩ.all<|D _ _ _ _ _ _⟩,s⟩,_,_,F,NB X G a,D _ _ _ _ _ _⟩
def WX(X:K.In h)(G:h.Ns Ų c)(q:Ad K ds)(d:ds.lookup x=b3 st)(e:fG st=[y]):∃f a,ϧ K x x st f a/\c x=b3 (.ref f)/\∀s u,jy s a ⟨[u],[]⟩ [(y,u)]:=by let⟨f,a,F,m,b⟩:=(IX X G q (x,st)<|wM d).2;dsimp at b;rw[e]at b;show⟨f,a,F,m,λs u=>.of_eq<|b [u] rfl⟩
def WY(X:K.In h)(G:h.Ns Ų a){ns:List Str}(q:ns.map (rn K Ų)=ns.map λ_=>b3 b4):∀x∈ns,a x=none:=λx b=>PySem.W.mg_none_of X G<|RE.mp q x b
abbrev wN{c d:Type}(f:c->d->Bool):List c->List d->Bool
 |[],[]=>dI|a::as,b::bs=>f a b&&wN f as bs|_,_=>b5
abbrev wO(K:Ô):Nat->Value->D->Bool
 |0,_,_=>b5|k+1,u,d=>match d with
  |.non=>(match u with|.none=>dI|_=>b5)|.bl b=>(match u with|.bool c=>decide (b=c)|_=>b5)|.int i=>(match u with|.int j _=>decide (i=j)|_=>b5)|.str x=>(match u with|.str y _=>decide (x=y)|_=>b5)
  |.tup ds=>(match u with
   |.ref p=>(match K.lookup p with
    |some ⟨.type t,b4,.seq its _,_⟩=>decide (t="tuple")&&decide (its.size<=1000)&&wN (wO K k) its.toList ds
    |_=>b5)
   |_=>b5)
  |.rol ds=>(match u with
   |.ref p=>(match K.lookup p with
    |some ⟨.type t,b4,.seq its _,_⟩=>decide (t="list")&&decide (its.size<=1000)&&wN (wO K k) its.toList ds
    |_=>b5)
   |_=>b5)
  |_=>b5
def IY(h:∀u d,f u d=dI->∃v,Í v u/\∀π n H,Ú K π n H v d):∀us ds,wN f us ds=dI->∃vs,Å vs us/\∀π n H,Ç K π n H vs ds
 |[],[],_=>⟨[],.nil,λ_ _ _=>.nil⟩|u::us,d::ds,e=>by let⟨a,b⟩:=zx.mp e;let⟨v,r,q⟩:=h u d a;let⟨vs,rs,c⟩:=IY h us ds b;show⟨v::vs,.cons r rs,λ_ _ _=>.cons (q _ _ _)<|c _ _ _⟩
 |[],_::_,e=>nomatch e|_::_,[],e=>nomatch e
def IZ:∀k u d,wO K k u d=dI->∃v,Í v u/\∀π n H,Ú K π n H v d
 |0,_,_,e=>nomatch e|k+1,u,d,e=>by
  let seq:∀{p:Addr}{ds:List D}{c:String},(match K.lookup p with|some ⟨.type t,b4,.seq its _,_⟩=>decide (t=c)&&decide (its.size<=1000)&&wN (wO K k) its.toList ds|_=>b5)=dI->∃g its n j,K.lookup p=b3 ⟨.type c,b4,.seq its n,j⟩/\its.size<=Ò/\Å g its.toList/\∀π n H,Ç K π n H g ds:=λ{p ds c} e=>by
   split at e
   .rename_i t its n j h;let⟨e,q⟩:=zx.mp e;let⟨a,b⟩:=zx.mp e;cases of_decide_eq_true a;let⟨g,r,i⟩:=IY (IZ k) _ _ q;show⟨g,its,n,j,h,Ģ (of_decide_eq_true b) ⋯,r,i⟩
   .ext e
  cases d with
  |non=>cases u with
   |none=>show⟨.non,rfl,λ_ _ _=>.non⟩|_=>ext e
  |bl b=>cases u with
   |bool c=>cases of_decide_eq_true e;show⟨.bl b,rfl,λ_ _ _=>.bl _⟩|_=>ext e
  |int b=>cases u with
   |int c=>cases of_decide_eq_true e;show⟨.int b,⟨_,rfl⟩,λ_ _ _=>.int _⟩|_=>ext e
  |str b=>cases u with
   |str c=>cases of_decide_eq_true e;show⟨.str b,⟨_,rfl⟩,λ_ _ _=>.str _⟩|_=>ext e
  |tup ds=>cases u with
   |ref p=>let⟨g,its,n,j,h,o,r,i⟩:=seq e;show⟨.ref p,rfl,λ_ _ _=>.tup (vs:=g) (.inr ⟨_,its,n,h,rfl,rfl,rfl,o,r⟩)<|i _ _ _⟩|_=>ext e
  |rol ds=>cases u with
   |ref p=>let⟨g,its,n,j,h,o,r,i⟩:=seq e;show⟨.ref p,rfl,λ_ _ _=>.rol (vs:=g) (.inr ⟨_,its,n,h,rfl,rfl,rfl,o,r⟩)<|i _ _ _⟩|_=>ext e
  |_=>ext e
abbrev Ja(K:Ô)(a:List (Str×D)):Bool:=a.all λc=>match rn K Ų c.1 with|some (b3 u)=>wO K 8 u c.2|_=>b5
def WZ(X:K.In h)(G:h.Ns Ų b)(q:Ja K a=dI):∀p∈a,∃v u,b p.1=b3 u/\Í v u/\∀π n H,Ú K π n H v p.2:=λp c=>by
 let t:=ϸ.mp q p c;split at t
 .rename_i u d;let⟨v,r,i⟩:=IZ _ _ _ t;show⟨v,u,NB X G d,r,i⟩
 .ext t
abbrev W{a:Type}(o:Option a)(Q:a->Prop):Prop:=∃r,o=b3 r/\Q r
def À{r:α}{Q:α->Prop}:W (b3 r) Q↔Q r:=⟨λ⟨_,h,q⟩=>by ext h;show q,λq=>⟨r,rfl,q⟩⟩
def ë{Q:α->Prop}:W b4 Q↔False:=⟨λ⟨_,h,_⟩=>(by ext h),λh=>h.elim⟩
def Ä{o:Option α}{g:α->Option β}{Q:β->Prop}:W (o.bind g) Q↔W o λr=>W (g r) Q:=by
 cases o with
 |none=>show⟨λ⟨_,h,_⟩=>(by ext h),λ⟨_,h,_⟩=>(by ext h)⟩|some a=>simp[À]
def kP{o:Option α}{g:α->β}{Q:β->Prop}:W (o.map g) Q↔W o λr=>Q (g r):=by
 cases o with
 |none=>show⟨λ⟨_,h,_⟩=>(by ext h),λ⟨_,h,_⟩=>(by ext h)⟩|some a=>simp[À]
def bP{o:Option α}{Q:α->Prop}{a:α->Prop}(h:W o Q)(k:∀r,Q r->a r):W o a:=let⟨r,e,q⟩:=h;⟨r,e,k r q⟩
def Ae{Q:α->Prop}[Decidable c]{a b:Option α}:W (if c then a else b) Q↔if c then W a Q else W b Q:=by split<;>rfl
abbrev fin:Option (Fl×aG×Hm)->jk:=λo=>o.bind λp=>match p.1 with|.rt d=>b3 (d,p.2.2)|.nx=>b3 (.non,p.2.2)|_=>b4
def ß{Q:jz}:W (fin o) Q↔W o λp=>match p.1 with|.rt d=>Q (d,p.2.2)|.nx=>Q (.non,p.2.2)|_=>False:=by
 ext fin;rw[Ä];constructor
 .show λh=>bP h λp q=>by let⟨a,c,b⟩:=p;ext a<;>simpa[À,ë]using q
 .show λh=>bP h λp q=>by let⟨a,c,b⟩:=p;ext a<;>simpa[À,ë]using q
def aD{b μ':Hm}(h:b<+:μ'){a:Nat}(e:b[a]?=b3 c):μ'[a]?=b3 c:=by let⟨t,rfl⟩:=h;let d:=(ä.mp e).1;rw[ϕ d];show e
def Jb{a μ':Hm}(h:a<+:μ'):a.length<=μ'.length:=h.length_le
def aR(a:Hm)(c:C):a<+:a++[c]:=⟨[c],rfl⟩
def cX{b μ':Hm}(h:b<+:μ')(d:b.length<=a)c:b<+:μ'.set a c:=by let⟨t,rfl⟩:=h;rw[PB _ _ d];show⟨_,rfl⟩
def Æ{Q}:W (aL a b d c) Q↔W (a d c) λp=>match p.1 with|.nx=>W (b p.2.1 p.2.2) Q|_=>Q p:=by
 ext aL;rw[Ä];constructor
 .show λh=>bP h λp q=>by let⟨e,d,c⟩:=p;ext e<;>simpa[À,ë]using q
 .show λh=>bP h λp q=>by let⟨e,d,c⟩:=p;ext e<;>simpa[À,ë]using q
def Ï{Q}:W (aM m a b) Q↔W (m a b) λp=>Q (.rt p.1,a,p.2):=kP
def í{Q}:W (dW m a b) Q↔W (m a b) λp=>Q (.nx,a,p.2):=kP
def Ď{Q}:W (fN i m a b) Q↔W (m a b) λp=>Q (.nx,a.set i<|b3 p.1,p.2):=kP
def Ì{Q}:W (bV b a) Q↔Q (.nx,b,a):=À
def Ñ{Q}:W (bK t a b c d) Q↔W (t c d) λp=>if p.1=dI then W (a c p.2) Q else W (b c p.2) Q:=by ext bK;rw[Ä];constructor<;>show λh=>bP h λp q=>by let⟨x,d⟩:=p;ext x<;>apply q
def Ĝ{Q}:W (iM t a b c d) Q↔W (t c d) λp=>if p.1=dI then W (a c p.2) Q else W (b c p.2) Q:=by ext iM;rw[Ä];constructor<;>show λh=>bP h λp q=>by let⟨x,d⟩:=p;ext x<;>apply q
def Ğ{Q}:W (i7 a b d c) Q↔W (a d c) λp=>if p.1=dI then W (b d p.2) Q else Q (b5,p.2):=by ext i7;rw[Ä];constructor<;>show λh=>bP h λp q=>by let⟨x,c⟩:=p;ext x<;>simpa[À]using q
def ū{Q}:W (k9 a b d c) Q↔W (a d c) λp=>if p.1=dI then Q (dI,p.2)else W (b d p.2) Q:=by ext k9;rw[Ä];constructor<;>show λh=>bP h λp q=>by let⟨x,c⟩:=p;ext x<;>simpa[À]using q
def η{Q}:W (jQ a c b) Q↔W (a c b) λp=>Q (!p.1,p.2):=kP
def æ{Q}:W (aA f a b c d) Q↔W (a c d) λp=>W (b c p.2) λq=>W (f p.1 q.1 q.2) Q:=by ext aA;rw[Ä];dsimp[Ä]
def eX{Q}:W (mC d b a) Q↔Q (d,a):=À
def cE{b:aG}{Q}:W (aE 0 (b3 d::b) a) Q↔Q (d,a):=by change W (b3 (d,a)) Q↔_;show À
def cY{b:aG}{Q}:W (aE (i+1) (x::b) a) Q↔W (aE i b a) Q:=by ext aE;rw[List.getElem?_cons_succ]
def dR{Q}:W (aF b a) Q↔Q ([],a):=À
def Ë{Q}:W (aB a r b c) Q↔W (a b c) λp=>W (r b p.2) λq=>Q (p.1::q.1,q.2):=by ext aB;dsimp[Ä,À]
def â{Q}:W (cN a c b) Q↔W (a c b) fun p=>p.1.length<=Ò/\Q (.tup p.1,p.2):=by
 ext cN
 rw [Ä]
 constructor<;>show fun h=>bP h fun p q=>by
  first
  | (rw [Ae] at q;split at q
     .show ⟨by assumption,À.mp q⟩
     .show (ë.mp q).elim)
  | (rw [if_pos q.1];show À.mpr q.2)
def é{Q}:W (cP a c b) Q↔W (a c b) fun p=>p.1.length<=Ò/\Q (.loc p.2.length,p.2++[.lst p.1]):=by
 ext cP
 rw [Ä]
 constructor<;>show fun h=>bP h fun p q=>by
  first
  | (rw [Ae] at q;split at q
     .show ⟨by assumption,À.mp q⟩
     .show (ë.mp q).elim)
  | (rw [if_pos q.1];show À.mpr q.2)
def Ý{Q}:W (bJ f a c b) Q↔W (a c b) fun p=>W (f p.1 p.2) Q:=Ä
def ĕ{Q}:W (a7 m c a) Q↔W (m c a) λp=>match p.1 with|.bl b=>Q (b,p.2)|_=>False:=by ext a7;rw[Ä];constructor<;>show λh=>bP h λp q=>by let⟨d,a⟩:=p;ext d<;>simpa[À,ë]using q
def ļ{Q}:W (c8 m c a) Q↔W (m c a) λp=>W (nM p.2 p.1) λb=>Q (b,p.2):=by ext c8;dsimp[Ä,kP]
def Jc{Q}:W (nJ a c b) Q↔W (a c b) λp=>match p.1 with|.int i=>Q (.int<|-i,p.2)|_=>False:=by ext nJ;rw[Ä];constructor<;>show λh=>bP h λp q=>by let⟨d,b⟩:=p;ext d<;>simpa[À,ë,kP,BC]using q
def Jd{Q}:W (tB a e c) Q↔W (a e c) λp=>match p.1 with|.bl b=>Q (.bl<|!b,p.2)|_=>False:=by ext tB;rw[Ä];constructor<;>show λh=>bP h λp q=>by let⟨d,c⟩:=p;ext d<;>simpa[À,ë]using q
def î{Q}:W (gG a b g e) Q↔W (a g e) λp=>match p.1 with|.bl c=>if c=dI then W (b g p.2) Q else Q (.bl b5,p.2)|_=>False:=by
 ext gG;rw[Ä];constructor<;>show λh=>bP h λp q=>by
  let⟨d,e⟩:=p;cases d with
  |bl c=>ext c<;>simpa[À]using q|_=>simpa[ë]using q
def ĝ{Q}:W (hW m g a c) Q↔W (m a c) λp=>W (g p.1 a p.2) λb=>Q (.nx,b,p.2):=by ext hW;dsimp[Ä,kP]
def jg{Q}:W (vH kvs m b a) Q↔W (m b a) λp=>W (yC p.1) λk=>W (lI kvs k) λd=>Q (d,p.2):=by ext vH;dsimp[Ä,kP]
def Û{Q:jz}:W (bI (.int i) (.int j) μ) Q↔Q (.int<|i+j,μ):=À
def Ū{Q:jz}:W (iN (.int i) (.int j) μ) Q↔Q (.int<|i-j,μ):=À
def iE{Q:jz}(h:0<j):W (bZ (.int i) (.int j) μ) Q↔Q (.int<|i%j,μ):=by change W ((if 0<j then b3 (i%j)else b4).map λz=>(D.int z,μ)) Q↔_;rw[if_pos h];show À
def W0:(1073741824:Int)<2^4000:=by decide +kernel
def W2{Q:jz}(h:0<j)(k:j<2^4000):W (kJ (.int i) (.int j) μ) Q↔Q (.int<|i/j,μ):=by change W ((if 0<j/\j<2^4000 then b3 (i/j)else b4).map λz=>(D.int z,μ)) Q↔_;rw[if_pos ⟨h,k⟩];show À
def sG{Q:jz}(h:0<j)(k:j<1073741824):W (kJ (.int i) (.int j) μ) Q↔Q (.int<|i/j,μ):=W2 h<|Int.lt_trans k W0
def pH{Q:jz}(h:(-(2^64)<i/\i<2^64)\/(-(2^64)<j/\j<2^64)):W (b7 (.int i) (.int j) μ) Q↔Q (.int<|i*j,μ):=by change W ((if((-(2^64)<i/\i<2^64)\/(-(2^64)<j/\j<2^64))\/(i.natAbs<2^4000/\j.natAbs<2^4000)\/Ŷ i+Ŷ j<=134217728 then b3 (i*j)else b4).map λz=>(D.int z,μ)) Q↔_;rw[if_pos<|.inl h];show À
def W3{Q:jz}(h:0<=j/\j<=1000000/\i.natAbs<2^64):W (rG (.int i) (.int j) μ) Q↔Q (.int<|i^j.toNat,μ):=by change W ((if(0<=j/\j<=1000000/\i.natAbs<2^64)\/(0<=j/\j<=100/\i.natAbs<2^4000)then b3 (i^j.toNat)else b4).map λz=>(D.int z,μ)) Q↔_;rw[if_pos<|.inl h];show À
def û{Q:jz}:W (aZ b5 (.int i) (.int j) μ) Q↔Q (.bl<|i==j,μ):=À
def Af{Q:jz}:W (aZ dI (.int i) (.int j) μ) Q↔Q (.bl<|!(i==j),μ):=À
def w_neB{Q:jz}:W (aZ dI (.bl x) (.bl y) μ) Q↔Q (.bl<|!(x==y),μ):=À
def ņ{Q:jz}:W (hV (.int i) (.int j) μ) Q↔Q (.bl<|decide<|i<j,μ):=À
def W4{Q:jz}:W (tF (.int i) (.int j) μ) Q↔Q (.bl<|decide<|i<=j,μ):=À
def Ň{Q:jz}:W (kK (.int i) (.int j) μ) Q↔Q (.bl<|decide<|j<i,μ):=À
def xf{Q:jz}:W (vD (.int i) (.int j) μ) Q↔Q (.bl<|decide<|j<=i,μ):=À
def ğ{Q:jz}:W (bF (.tup [a,b]) (.int 0) μ) Q↔Q (a,μ):=À
def ú{Q:jz}:W (bF (.tup [a,b]) (.int 1) μ) Q↔Q (b,μ):=À
def W5{Q:jz}:W (bF (.tup [a,b,c,d,e,g]) (.int 0) μ) Q↔Q (a,μ):=À
def W6{Q:jz}:W (bF (.tup [a,b,c,d,e,g]) (.int 1) μ) Q↔Q (b,μ):=À
def W7{Q:jz}:W (bF (.tup [a,b,c,d,e,g]) (.int 2) μ) Q↔Q (c,μ):=À
def W8{Q:jz}:W (bF (.tup [a,b,c,d,e,g]) (.int 3) μ) Q↔Q (d,μ):=À
def ũ:W (nM μ<|.bl b) Q↔Q b:=À
def ŕ:W (dB [i,j] (.tup [a,b]) h μ) Q↔Q ((h.set i<|b3 a).set j<|b3 b):=À
def dX{Q:jz}(h:b[a]?=b3 (.lst xs))(hi:atI xs i=b3 d):W (bF (.loc a) (.int i) b) Q↔Q (d,b):=by
 have:bF (.loc a) (.int i) b=b3 (d,b):=by dsimp[bF,kH,bO,h,ē,hi,ė]
 rw[this];show À
def Je(h:d[l]?=b3 (.lst [a,b])):W (dB [i,j] (.loc l) c d) Q↔Q ((c.set i<|b3 a).set j<|b3 b):=by
 have:dB [i,j] (.loc l) c d=b3 ((c.set i<|b3 a).set j<|b3 b):=by dsimp[dB,bO,h,ē];rfl
 rw[this];show À
def Ó:W (cQ m b a) Q↔W (m b a) λp=>W (i9 p.2 p.1) λxs=>Q (dC p.1,xs.length+1,p.2):=by ext cQ;dsimp[Ä,kP]
def É{Q}:W (b9 c g b a d) Q↔W (c a d) λp=>W (fP p.1 g b p.2.1 0 a p.2.2) Q:=Ä
def Ag{j:Int}:W (oQ e g c) Q↔W (e g c) fun p=>match p.1 with|[.int j]=>(-(2 ^ 62)<=j/\j<2 ^ 62)/\Q (kL 0 j.toNat,j.toNat+1,p.2)|_=>False:=by
 ext oQ
 rw [Ä]
 constructor<;>show fun h=>bP h fun p q=>by
  obtain ⟨l,c⟩:=p
  match l,q with
  | [],q=>simpa [ë] using q
  | [d],q=>
   cases d with
   | int j=>
    first
    | (dsimp at q;rw [Ae] at q;split at q
       .rename_i i;show ⟨i,À.mp q⟩
       .show (ë.mp q).elim)
    | (dsimp;rw [if_pos q.1];show À.mpr q.2)
   | _=>simpa [ë] using q
  | a::b::l,q=>simpa [ë] using q
def Ġ:W (mP a c b) Q↔W (a c b) fun p=>match p.1 with|[.int i,.int j]=>(-(2 ^ 62)<=i/\i<2 ^ 62/\-(2 ^ 62)<=j/\j<2 ^ 62)/\Q (kL i (j - i).toNat,(j - i).toNat+1,p.2)|_=>False:=by
 ext mP
 rw [Ä]
 constructor<;>show fun h=>bP h fun p q=>by
  split at q
  .rename_i e
   try rw [e]
   first
   | (rw [Ae] at q;split at q
      .rename_i d;show ⟨d,À.mp q⟩
      .show (ë.mp q).elim)
   | ((try dsimp only);rw [if_pos q.1];show À.mpr q.2)
  .first
   | show (ë.mp q).elim
   | show q.elim
def nV{j:gT}{b:MS}(I:Nat->aG->Hm->Prop)(go:∀ i c a,i<N->I i c a->∃ d k,j a i=b3 (b3 d)/\g d c a=b3 k/\W (b k a) fun p=>match p.1 with|.nx=>I (i+1) p.2.1 p.2.2|.ct=>I (i+1) p.2.1 p.2.2|.bk=>Q (.nx,p.2.1,p.2.2)|.rt d=>Q (.rt d,p.2.1,p.2.2))(e:∀ c a,I N c a->j a N=b3 b4/\Q (.nx,c,a)):∀m i c a,i+m=N->I i c a->W (fP j g b (m+1) i c a) Q
 | 0,i,c,a,h,hI=>by
  have:i=N:=()
  subst this
  obtain ⟨h1,s⟩:=e c a hI
  ext fP
  rw [h1]
  show À.mpr s
 | m+1,i,c,a,h,hI=>by
  obtain ⟨d,k,h1,s,v⟩:=go i c a () hI
  ext fP
  rw [h1]
  simp only [ē,s]
  rw [Ä]
  show bP v fun p q=>?_
  obtain ⟨u,o,n⟩:=p
  cases u with
  | nx=>show nV I go e m (i+1) o n () q
  | ct=>show nV I go e m (i+1) o n () q
  | bk=>show À.mpr q
  | rt d=>show À.mpr q
def jD{b:MS}(I:Nat->aG->Hm->Prop)(h0:I 0 h c)(o:∀i h c,I i h c->c[a]?=b3 (.lst xs))(go:∀i d h c,xs[i]?=b3 d->I i h c->∃j,g d h c=b3 j/\W (b j c) λp=>match p.1 with|.nx=>I (i+1) p.2.1 p.2.2|.ct=>I (i+1) p.2.1 p.2.2|.bk=>Q (.nx,p.2.1,p.2.2)|.rt d=>Q (.rt d,p.2.1,p.2.2))(n:∀h c,I xs.length h c->Q (.nx,h,c)):W (fP (dC<|.loc a) g b (xs.length+1) 0 h c) Q:=by
 show nV (N:=xs.length) I (λi h c hi k=>?_) (λh c k=>⟨?_,n h c k⟩) xs.length 0 h c () h0
 .let e:xs[i]?=b3 xs[i]:=ā hi;let⟨j,h1,q⟩:=go i xs[i] h c e k;show⟨xs[i],j,?_,h1,q⟩;dsimp[dC,i9,bO,o i h c k,ė,e]
 .dsimp[dC,i9,bO,o _ h c k,ė];simp
def Jf(n:∀a,i9 a x=b3 xs){b:MS}(I:Nat->aG->Hm->Prop)(h0:I 0 c a)(go:∀i d c a,xs[i]?=b3 d->I i c a->∃h,g d c a=b3 h/\W (b h a) λp=>match p.1 with|.nx=>I (i+1) p.2.1 p.2.2|.ct=>I (i+1) p.2.1 p.2.2|.bk=>Q (.nx,p.2.1,p.2.2)|.rt d=>Q (.rt d,p.2.1,p.2.2))(j:∀c a,I xs.length c a->Q (.nx,c,a)):W (fP (dC x) g b (xs.length+1) 0 c a) Q:=by
 show nV (N:=xs.length) I (λi c a hi k=>?_) (λc a k=>⟨?_,j c a k⟩) xs.length 0 c a () h0
 .let e:xs[i]?=b3 xs[i]:=ā hi;let⟨h,h1,o⟩:=go i xs[i] c a e k;show⟨xs[i],h,?_,h1,o⟩;dsimp[dC,n,ė,e]
 .dsimp[dC,n,ė];simp
def qM{b:MS}(I:Nat->aG->Hm->Prop)(h0:I 0 c a)(go:∀i c a,i<n->I i c a->∃e,g (.int<|lo+i) c a=b3 e/\W (b e a) λp=>match p.1 with|.nx=>I (i+1) p.2.1 p.2.2|.ct=>I (i+1) p.2.1 p.2.2|.bk=>Q (.nx,p.2.1,p.2.2)|.rt d=>Q (.rt d,p.2.1,p.2.2))(h:∀c a,I n c a->Q (.nx,c,a)):W (fP (kL lo n) g b (n+1) 0 c a) Q:=by
 show nV (N:=n) I (λi c a hi j=>?_) (λc a j=>⟨?_,h c a j⟩) n 0 c a () h0
 .let⟨e,h1,k⟩:=go i c a hi j;show⟨_,e,by dsimp[kL,if_pos hi],h1,k⟩
 .dsimp[kL,γ,if_false]
def C8(h:c[a]?=b3 (.lst b))(d:b.length<Ò):tH c a y=b3 (c.set a<|.lst<|b++[y]):=by ext tH;rw[h];show if_pos d
def C9{w:gT}{μ0:Hm}{xs:List D}(z:∀a i,μ0<+:a->w a i=b3 xs[i]?)(I:xs.length<=Ò)(hc:∀d a,d∈xs->μ0<+:a->W (c (H++[b3 d]) a) λr=>r.1=p d/\a<+:r.2)(A:∀d a,d∈xs->p d=dI->μ0<+:a->W (e (H++[b3 d]) a) λr=>r.1=v d/\a<+:r.2)(fin:∀a,μ0<+:a->a[μ0.length]?=b3 (.lst<|(xs.filter p).map v)->Q a):
  ∀m i(a:Hm),i+m=xs.length->μ0<+:a->a[μ0.length]?=b3 (.lst<|((xs.take i).filter p).map v)->W (kM w tI c e H μ0.length (m+1) i a) Q
 |0,i,a,hi,hp,ha=>by
  have:i=xs.length:=()
  subst this;ext kM;rw[z a _ hp];rw[cj<|Ø _];dsimp[ē];show À.mpr<|fin a hp ?_;apply ha
 |m+1,i,a,hi,hp,ha=>by
  let s:i<xs.length:=()
  let J:xs[i]?=b3 xs[i]:=ā s;let h:xs[i]∈xs:=iz s;ext kM;rw[z a _ hp,J];dsimp[ē,tI];rw[Ä];show bP (hc _ a h hp) λr q=>?_;let⟨b,x⟩:=r;let⟨K,u⟩:=q;dsimp at K u ⊢;subst K;let g:xs.take (i+1)=xs.take i++[xs[i]]:=by rw[ni,J];rfl
  let k:=aD u ha;cases j:p xs[i]with
  |false=>show C9 z I hc A fin m (i+1) x () (hp.trans u) ?_;rw[k,g,Ϡ];simp[j]|true=>
   dsimp;rw[Ä];show bP (A _ x h j<|hp.trans u) λr q=>?_;let⟨y,G⟩:=r;let⟨L,E⟩:=q;dsimp at L E ⊢;subst L;let n:=aD E k;let o:(((xs.take i).filter p).map v).length<Ò:=by let h1:=Ž p<|xs.take i;rw[Ã];rw[Ι]at h1;lia
   rw[C8 n o,ē];let B:μ0<+:G:=(hp.trans u).trans E;show C9 z I hc A fin m (i+1) _ () (cX B (Ø _) _) ?_;rw[ϡ (ä.mp n).1,g,Ϡ];simp[j]
def jX{xs:List D}{Q:jz}(hit:W (w b x) λr=>(∀a i,r.2.2<+:a->r.1 a i=b3 xs[i]?)/\r.2.1=xs.length+1/\xs.length<=Ò /\
   (∀d a,d∈xs->r.2.2<+:a->W (c (b++[b3 d]) a) λs=>s.1=p d/\a<+:s.2)/\(∀d a,d∈xs->p d=dI->r.2.2<+:a->W (e (b++[b3 d]) a) λs=>s.1=v d/\a<+:s.2) /\
   ∀a,r.2.2<+:a->a[r.2.2.length]?=b3 (.lst<|(xs.filter p).map v)->Q (.loc r.2.2.length,a)):W (eU w c e b x) Q:=by
 ext eU gU;rw[Ä];show bP hit λr q=>?_;let⟨y,n,g⟩:=r;let⟨h1,h,j,k,o,u⟩:=q;dsimp at h1 h j k o u ⊢;subst h;rw[kP];show C9 h1 j k o u xs.length 0 (g++[.lst []]) () (aR _ _) ∅
def mV{b:Hm}(h:b[a]?=b3 (.lst xs)):∀μ' i,b<+:μ'->dC (.loc a) μ' i=b3 xs[i]?:=λμ' i c=>by dsimp[dC,i9,bO,aD c h,ė]
def Dd{a:Hm}:∀μ' i,a<+:μ'->dC (.tup xs) μ' i=b3 xs[i]?:=λμ' i b=>rfl
abbrev pI(lo:Int)(n:Nat):List D:=(ą n).map λ(i:Nat)=>.int<|lo+(i:Int)
def W9{a:Hm}:∀μ' i,a<+:μ'->kL lo n μ' i=b3 (pI lo n)[i]?:=λμ' i _=>by
 ext kL pI;rw[ÿ];by_cases h:i<n
 .rw[if_pos h,RP h];rfl
 .rw[if_neg h,cj<|by apply qy.mp h];rfl
noncomputable abbrev P(x y:Int):D:=.tup [.int x,.int y]
noncomputable abbrev PP(p:Int×Int):D:=P p.1 p.2
def Xa n e p q:eI (n+2) e (PP p) (PP q)=b3 (p==q):=by let⟨a,b⟩:=p;let⟨c,d⟩:=q;change b3 (a==c&&(b==d&&dI))=b3 ((a,b)==(c,d));rw[OE];rfl
def Jg n a:∀ps qs:List Int,lE (pT (n+1) a) (ps.map D.int) (qs.map D.int)=b3 (ps==qs)
 |[],[]=>rfl|[],_::_=>rfl|_::_,[]=>rfl|p::ps,q::qs=>by rw[ö,ö];change(eI (n+1) a (.int p)<|.int q).bind (λb=>(lE (pT (n+1) a) (ps.map D.int)<|qs.map D.int).map λc=>b&&c)=_;rw[Jg n a ps qs];rfl
def sH{Q:jz}(e:c[a]?=b3 (.lst xs))(g:c[b]?=b3 (.lst d))(h:xs.length+d.length<=Ò):W (bI (.loc a) (.loc b) c) Q↔Q (.loc c.length,c++[.lst<|xs++d]):=by dsimp[bI,e,g,if_pos h];show À
def jE{Q:jz}(h:W (b a d) λp=>rR p.2 p.1=dI/\W (c a p.2) λq=>W (f p.1 q.1 q.2) Q):W (d9 f b c a d) Q:=by ext d9;rw[Ä];show bP h λp q=>?_;rw[q.1];show Ä.mpr q.2
def iF(h:b[a]?=b3 (.lst xs)):rR b (.loc a)=true:=by dsimp[rR,h]
def mW{Q:jz}(h:b[a]?=b3 (.lst xs))(c:xs.length<Ò):W (eV (.loc a) [y] b) Q↔Q (.non,b.set a<|.lst<|xs++[y]):=by dsimp[eV,C8 h c,ė];show À
def Ah{Q:jz}(h:c[a]?=b3 (.lst xs))(e:c[b]?=b3 (.lst d))(g:xs.length+d.length<=Ò):W (oR (.loc a) [.loc b] c) Q↔Q (.non,c.set a<|.lst<|xs++d):=by dsimp[oR,h,e,if_pos g];show À
def Xb{Q:jz}:W (mO [.tup xs,.ty "tuple"] a) Q↔Q (.bl dI,a):=À
def Jh{Q:jz}:W (mO [.int i,.ty "bool"] a) Q↔Q (.bl b5,a):=À
def Ji{Q:jz}:W (mO [.int i,.ty "int"] a) Q↔Q (.bl dI,a):=À
def Xc{Q:jz}:W (mO [.str b,.ty "str"] a) Q↔Q (.bl dI,a):=À
def jF{Q:jz}(h:b[a]?=b3 (.lst xs)):W (dD [.loc a] b) Q↔Q (.int xs.length,b):=by dsimp[dD,vF,bO,h,ė];show À
def jh{Q:jz}:W (dD [.rol xs] a) Q↔Q (.int xs.length,a):=À
def eE(h:b[a]?=b3 (.lst xs)):W (i9 b<|.loc a) Q↔Q xs:=by dsimp[i9,bO,h];show À
def ϩ:W (i9 a<|.tup xs) Q↔Q xs:=À
def Jj{Q:jz}(h:W (a b g) λp=>∃l,p.1=.loc l/\W (lo b p.2) λq=>W (hi b q.2) λr=>∃xs,r.2[l]?=b3 (.lst xs)/\Q (.loc r.2.length,r.2++[.lst<|nI xs q.1 r.1])):W (rF a lo hi b g) Q:=by ext rF;rw[Ä];show bP h λp q=>?_;let⟨d,k⟩:=p;let⟨l,c,e⟩:=q;dsimp at c e ⊢;subst c;rw[Ä];show bP e λs q=>?_;rw[Ä];show bP q λr q=>?_;let⟨xs,i,j⟩:=q;dsimp[bO,i,ē];show À.mpr j
def bE(a:Hm)c:(a++[c])[a.length]?=b3 c:=∅
def Ś{Q}:W (lP f g a b c e i) Q↔W (a e i) λp=>W (b e p.2) λq=>W (f p.1 q.1 q.2) λr=>match r.1 with|.bl k=>if k=dI then W (c e r.2) λt=>W (g q.1 t.1 t.2) Q else Q (.bl b5,r.2)|_=>False:=by
 ext lP;dsimp[Ä];constructor<;>show λh=>bP h λp q=>bP q λn h1=>bP h1 λr j=>by
  let⟨d,i⟩:=r;cases d with
  |bl k=>ext k<;>simpa[À,Ä]using j|_=>simpa[ë]using j
def Ę{Q:jz}:W (iQ dI .non .non μ) Q↔Q (.bl b5,μ):=À
def ω{Q:jz}:W (iQ dI (.tup xs) .non μ) Q↔Q (.bl dI,μ):=À
def wy{Q:jz}:W (TN [.int i,.int j] μ) Q↔Q (.int<|min i j,μ):=by
 have:(if j<i then j else i)=min i j:=by split<;>lia
 change W (b3 (D.int<|if j<i then j else i,μ)) Q↔_;rw[this];show À
def wz{Q:jz}:W (TM [.int i,.int j] μ) Q↔Q (.int<|max i j,μ):=by
 have:(if j>i then j else i)=max i j:=by split<;>lia
 change W (b3 (D.int<|if j>i then j else i,μ)) Q↔_;rw[this];show À
def De:∀a,tQ (a.map D.int)=b3 a
 |[]=>rfl|i::a=>by change(tQ<|a.map D.int).map (i::·)=_;rw[De a];rfl
def Jk{Q:jz}{b:List Int}(h:μ[a]?=b3 (.lst<|b.map D.int)):W (oS [.loc a] μ) Q↔Q (.int b.sum,μ):=by dsimp[oS,bO,h,ē,De,ė];show À
def Xd{Q:jz}{bs:List Bool}(h:μ[a]?=b3 (.lst<|bs.map D.bl)):W (yO [.loc a] μ) Q↔Q (.bl<|bs.all id,μ):=by
 let e:∀bs:List Bool,tS (bs.map D.bl)=b3 bs:=λbs=>by
  induction bs with
  |nil=>rfl|cons b bs c=>change(tS<|bs.map D.bl).map (b::·)=_;rw[c];rfl
 dsimp[yO,bO,h,ē,e,ė];show À
def Jl{Q:jz}(h:W (a b g) λp=>∃l,p.1=.loc l/\W (lo b p.2) λq=>W (hi b q.2) λr=>W (st b r.2) λt=>t.1≠b3 0/\∃xs,t.2[l]?=b3 (.lst xs)/\(gH xs q.1 r.1 t.1).length<=Ò/\Q (.loc t.2.length,t.2++[.lst<|gH xs q.1 r.1 t.1])):W (pY a lo hi st b g) Q:=by ext pY;rw[Ä];show bP h λp q=>?_;let⟨d,n⟩:=p;let⟨l,c,e⟩:=q;dsimp at c e ⊢;subst c;rw[Ä];show bP e λs q=>?_;rw[Ä];show bP q λr q=>?_;rw[Ä];show bP q λt q=>?_;let⟨h0,xs,i,j,k⟩:=q;rw[if_pos h0];dsimp[eW,i,ē];rw[if_pos j];show À.mpr k
def Df(h:W (b i g) λp=>∃a xs,p.1=[.loc a]/\p.2[a]?=b3 (.lst xs)/\Q (rW<|.loc a,xs.length+1,p.2)):W (rX b i g) Q:=by ext rX;rw[Ä];show bP h λp q=>?_;let⟨l,j⟩:=p;let⟨a,xs,c,d,e⟩:=q;dsimp at c d e ⊢;subst c;dsimp;dsimp[eW,d,ė];show À.mpr e
def Jm{b:MS}(I:Nat->aG->Hm->Prop)(h0:I 0 h c)(o:∀i h c,I i h c->c[a]?=b3 (.lst xs))(go:∀i d h c,xs[i]?=b3 d->I i h c->∃j,g (.tup [.int i,d]) h c=b3 j/\W (b j c) λp=>match p.1 with|.nx=>I (i+1) p.2.1 p.2.2|.ct=>I (i+1) p.2.1 p.2.2|.bk=>Q (.nx,p.2.1,p.2.2)|.rt d=>Q (.rt d,p.2.1,p.2.2))(n:∀h c,I xs.length h c->Q (.nx,h,c)):W (fP (rW<|.loc a) g b (xs.length+1) 0 h c) Q:=by
 show nV (N:=xs.length) I (λi h c hi k=>?_) (λh c k=>⟨?_,n h c k⟩) xs.length 0 h c () h0
 .let e:xs[i]?=b3 xs[i]:=ā hi;let⟨j,h1,q⟩:=go i xs[i] h c e k;show⟨_,j,?_,h1,q⟩;dsimp[rW,bO,o i h c k,ė,e]
 .dsimp[rW,bO,o _ h c k,ė];simp
def Ai{o:gT}(I:Nat->List D->Hm->Prop)(B:N<=Ò)(k:∀i g j,I i g j->g.length<=i)(go:∀i g j,i<N->I i g j->j[a]?=b3 (.lst g)->∃d x,o j i=b3 (b3 d)/\A d j=b3 x/\W (c (z++x) j) λr=>(r.1=b5->r.2[a]?=b3 (.lst g)/\I (i+1) g r.2) /\
   (r.1=dI->W (e (z++x) r.2) λs=>s.2[a]?=b3 (.lst g)/\I (i+1) (g++[s.1]) (s.2.set a<|.lst<|g++[s.1])))(n:∀g j,I N g j->j[a]?=b3 (.lst g)->o j N=b3 b4/\Q j):∀m i g j,i+m=N->I i g j->j[a]?=b3 (.lst g)->W (kM o A c e z a (m+1) i j) Q
 |0,i,g,j,h,hI,hg=>by
  have:i=N:=()
  subst this;let⟨h1,v⟩:=n g j hI hg;ext kM;rw[h1];show À.mpr v
 |m+1,i,g,j,h,hI,hg=>by
  let⟨d,x,h1,v,E⟩:=go i g j () hI hg;ext kM;rw[h1];dsimp[ē,v];rw[Ä];show bP E λr q=>?_;let⟨b,w⟩:=r;cases b with
  |false=>let⟨p,u⟩:=q.1 rfl;show Ai I B k go n m (i+1) g w () u p|true=>dsimp;rw[Ä];show bP (q.2 rfl) λs q=>?_;let⟨y,G⟩:=s;let⟨p,u⟩:=q;dsimp at p u ⊢;let H:=k i g j hI;rw[C8 p (),ē];show Ai I B k go n m (i+1) _ _ () u ?_;rw[ϡ (ä.mp p).1]
def Jn{Q:jz}(hit:W (w g a) λr=>∃(N:Nat)(I:Nat->List D->Hm->Prop),r.2.1=N+1/\N<=Ò/\(∀i b a,I i b a->b.length<=i)/\I 0 [] (r.2.2++[.lst []]) /\
   (∀i b a,i<N->I i b a->a[r.2.2.length]?=b3 (.lst b)->∃d x,r.1 a i=b3 (b3 d)/\h d a=b3 x/\W (c (g++x) a) λp=>(p.1=b5->p.2[r.2.2.length]?=b3 (.lst b)/\I (i+1) b p.2) /\
    (p.1=dI->W (e (g++x) p.2) λs=>s.2[r.2.2.length]?=b3 (.lst b)/\I (i+1) (b++[s.1]) (s.2.set r.2.2.length<|.lst<|b++[s.1]))) /\
   (∀b a,I N b a->a[r.2.2.length]?=b3 (.lst b)->r.1 a N=b3 b4/\Q (.loc r.2.2.length,a))):W (gU h w c e g a) Q:=by
 ext gU;rw[Ä];show bP hit λr q=>?_;let⟨y,n,z⟩:=r;let⟨N,I,h1,j,k,o,u,v⟩:=q;dsimp at h1 j k o u v ⊢;subst h1;rw[kP];show Ai I j k u v N 0 [] _ () o ∅
def Xe{w:gT}{μ0:Hm}{xs:List D}{x:D->aG}(H:∀a i,μ0<+:a->w a i=b3 xs[i]?)(M:xs.length<=Ò)(K:∀d a,d∈xs->G d a=b3 (x d))(hc:∀d a,d∈xs->μ0<+:a->W (c (E++x d) a) λr=>r.1=p d/\a<+:r.2)(L:∀d a,d∈xs->p d=dI->μ0<+:a->W (e (E++x d) a) λr=>r.1=v d/\a<+:r.2)(fin:∀a,μ0<+:a->a[μ0.length]?=b3 (.lst<|(xs.filter p).map v)->Q a):W (kM w G c e E μ0.length (xs.length+1) 0<|μ0++[.lst []]) Q:=by
 show Ai (N:=xs.length) (λi z a=>z=((xs.take i).filter p).map v/\μ0<+:a) M ?_ ?_ ?_ xs.length 0 [] _ () ⟨∅,aR _ _⟩ ∅
 .rintro i z a ⟨rfl,_⟩;rw[Ã];show Ģ (Ž _ _) ?_;rw[Ι];lia
 .rintro i z a hi ⟨rfl,j⟩ u;let I:xs[i]?=b3 xs[i]:=ā hi;let g:xs[i]∈xs:=iz hi;let h:xs.take (i+1)=xs.take i++[xs[i]]:=by rw[ni,I];rfl
  show⟨xs[i],x xs[i],by rw[H a i j,I],K _ _ g,bP (hc _ a g j) λr q=>?_⟩;let⟨b,B⟩:=r;let⟨n,o⟩:=q;dsimp at n o ⊢;show⟨λk=>⟨aD o u,?_,j.trans o⟩,λk=>?_⟩
  .rw[h,Ϡ];rw[k]at n;simp[<- n]
  .rw[k]at n;show bP (L _ B g n.symm<|j.trans o) λs q=>?_;let⟨y,N⟩:=s;let⟨J,A⟩:=q;dsimp at J A ⊢;subst J;show⟨aD (o.trans A) u,?_,cX ((j.trans o).trans A) (Ø _) _⟩;rw[h,Ϡ,ă];simp[<- n]
 .rintro z a ⟨rfl,j⟩ u;show⟨by rw[H a _ j];simp,fin a j ?_⟩;rw[ź]at u;show u
def Aj{xs:List D}{x:D->aG}{Q:jz}(hit:W (y b z) λr=>(∀a i,r.2.2<+:a->r.1 a i=b3 xs[i]?)/\r.2.1=xs.length+1/\xs.length<=Ò/\(∀d a,d∈xs->g d a=b3 (x d)) /\
   (∀d a,d∈xs->r.2.2<+:a->W (c (b++x d) a) λs=>s.1=p d/\a<+:s.2)/\(∀d a,d∈xs->p d=dI->r.2.2<+:a->W (e (b++x d) a) λs=>s.1=v d/\a<+:s.2) /\
   ∀a,r.2.2<+:a->a[r.2.2.length]?=b3 (.lst<|(xs.filter p).map v)->Q (.loc r.2.2.length,a)):W (gU g y c e b z) Q:=by
 ext gU;rw[Ä];show bP hit λr q=>?_;let⟨A,n,B⟩:=r;let⟨h1,h,j,k,o,u,w⟩:=q;dsimp at h1 h j k o u w ⊢;subst h;rw[kP];show Xe h1 j k o u w
def ù:W (fD b a) Q↔Q (dI,a):=À
def ĉ{Q}:W (eJ o i v a b) Q↔W (v a b) λp=>W (o a p.2) λq=>W (i a q.2) λr=>W (vP q.1 r.1 p.1 r.2) λμ'=>Q (.nx,a,μ'):=by ext eJ Ca;dsimp[Ä,kP]
def Xf(h:W (c g d) λp=>∃b xs a,p.1=[.tup xs,.loc b]/\p.2[b]?=b3 (.lst a)/\Q (jU (.tup xs)<|.loc b,min xs.length a.length+1,p.2)):W (oW c g d) Q:=by ext oW;rw[Ä];show bP h λp q=>?_;let⟨b,xs,a,e,i,q⟩:=q;rw[e];dsimp[eW,i,ė];show À.mpr q
def Jo(h:W (d i g) λp=>∃a b xs c,p.1=[.loc a,.loc b]/\p.2[a]?=b3 (.lst xs)/\p.2[b]?=b3 (.lst c)/\Q (jU (.loc a)<|.loc b,min xs.length c.length+1,p.2)):W (oW d i g) Q:=by ext oW;rw[Ä];show bP h λp q=>?_;let⟨a,b,xs,c,e,j,k,q⟩:=q;rw[e];dsimp[eW,j,k,ē,ė];show À.mpr q
def Dg k:dP (.tup<|k.map D.int)=b3 k:=De k
def ã{Q:jz}:W (iR ρ μ) Q↔Q (.loc μ.length,μ++[.dT []]):=À
def Dh{kvs:jx}{Q:jz}(h:μ[a]?=b3 (.dT kvs))(b:dP y=b3 k)(c:a9 kvs k=b3 d):W (bF (.loc a) y μ) Q↔Q (d,μ):=by dsimp[bF,h,b,ē,c,ė];show À
def uF{kvs:jx}{Q:jz}(h:μ[a]?=b3 (.dT kvs))(c:dP y=b3 k):W (eD b y (.loc a) μ) Q↔Q (.bl<|if b then !(a9 kvs k).isSome else(a9 kvs k).isSome,μ):=by
 have:eD b y (.loc a) μ=b3 (.bl<|if b then !(a9 kvs k).isSome else(a9 kvs k).isSome,μ):=by dsimp[eD,h,c,ė]
 rw[this];show À
def lW(h:μ[a]?=b3 (.dT kvs))(b:dP y=b3 k)(c:kvs.length<Ò):W (vP (.loc a) y d μ) Q↔Q (μ.set a<|.dT<|cC kvs k d):=by dsimp[vP,vO,h,b,ē,if_pos c];show À
def Xg{kvs:jx}{Q:jz}(h:μ[a]?=b3 (.dT kvs)):W (oZ [.loc a] μ) Q↔Q (.loc μ.length,μ++[.lst<|kvs.map λk=>D.tup<|k.1.map D.int]):=by dsimp[oZ,h];show À
def Xh{Q:jz}(h:μ[a]?=b3 (.lst xs)):W (oZ [.loc a] μ) Q↔Q (.loc μ.length,μ++[.lst xs]):=by dsimp[oZ,h,vG,bO,ė];show À
def Jp{Q:jz}(h:b[a]?=b3 (.lst xs)):W (nO [.loc a] b) Q↔Q (.loc b.length,b++[.lst xs.reverse]):=by dsimp[nO,h];show À
def Xi(h:W (b d c) λp=>∃a xs,p.1=[.loc a]/\p.2[a]?=b3 (.lst xs)/\Q (nP a xs.length,xs.length+1,p.2)):W (vQ b d c) Q:=by ext vQ;rw[Ä];show bP h λp q=>?_;let⟨a,xs,h1,e,g⟩:=q;rw[h1];dsimp;rw[e];show À.mpr g
end L3
namespace Lw
open PySem L2 L3
abbrev dn:List (Str×Nat×Nat):=(("is_whole",10,1)::("is_place",11,1)::("is_corner",12,1)::("is_edge",13,1)::("is_quarter",14,1)::("beside",15,1)::("sides_of",16,1)::("moved_by",17,2)::("edges_round",18,1)::("is_size",21,1)::("check_size",22,2)::("is_mark",23,1)::("is_within",24,3)::("places_within",25,2)::("edges_in",26,2)::("corners_in",27,2)::("is_inner_edge",28,3)::("sheet_of",29,3)::("marks_in",30,1)::("is_good",32,1)::("creases_at",34,2)::("gaps_at",35,2)::("barred",36,1)::("check_corners",37,1)::("led",39,2)::("is_turned",40,1)::("edges_laid",42,2)::("heights_in",44,1)::("quarters_at",45,3)::("joined_at",46,3)::("count_between",47,3)::("is_above",48,3)::("crosses",49,3)::("crossing_at",50,4)::("crossing",51,3)::("turned_first",52,2)::("mark_by_heights",53,3)::("marks_by",54,3)::("keeps",55,3)::("tie_of",57,4)::("is_least",58,2)::("ties_of_gap",59,3)::("ties_at",60,2)::("ties",61,1)::("walked_back",64,1)::("steps_from",65,1)::("is_marked",66,1)::("marked_creases",67,1)::("last_steps",68,2)::("way_by",69,2)::("is_alike",70,1)::("back_by",71,1)::("round_by_step",72,2)::("round_within",73,3)::("round_of",74,1)::("carried_mark",75,3)::("carried",76,1)::("_law_given",78,2)::("_law_number",79,2)::("_law_quarters",80,2)::("_law_rims",81,2)::("_law_beside",82,1)::("_law_value",83,2)::("_law_mirror",84,2)::("_law_led",85,2)::("_law_then",86,2)::("_law_fold",87,6)::("_law_grown",88,5)::("_law_creased",89,3)::("_law_ranks",90,1)::("_law_marks",91,4)::("_law_opened",92,2)::("law",93,1)::[])
abbrev ds:List (Str×Stmt):=dn.map λp=>(p.1,aU p.2.1)
abbrev Jq:D:=(.tup [(.tup [(.int 2),(.int 0)]),(.tup [(.int 1),(.int 1)]),(.tup [(.int 0),(.int 2)]),(.tup [(.int<|-1),(.int 1)]),(.tup [(.int<|-2),(.int 0)]),(.tup [(.int<|-1),(.int<|-1)]),(.tup [(.int 0),(.int<|-2)]),(.tup [(.int 1),(.int<|-1)])])
abbrev Jr:D:=(.tup [(.tup [(.int 1),(.int 1)]),(.tup [(.int<|-1),(.int 1)]),(.tup [(.int<|-1),(.int<|-1)]),(.tup [(.int 1),(.int<|-1)])])
abbrev Di:D:=(.tup [(.str "h"),(.str "v"),(.str "o")])
abbrev wQ:List (bM×D):=[((.inr "h"),(.str "v")),((.inr "v"),(.str "h"))]
abbrev S:ġ:={fn:=dn.map λp=>(p.1,p.2.2),con:=[("EIGHT_EDGES",Jq),("FOUR_EDGES",Jr),("MARKS",Di)],tab:=[("TURNED",wQ)],no:=["all","bool","dict","enumerate","int","isinstance","len","list","max","min","range","reversed","sorted","str","sum","tuple","zip"],dIt:=["_law_ways","_law_heaps","_law_gone","marks","reached","piles"],dEq:=[],dMe:=["_law_heaps"]}
@[irreducible] noncomputable def f(k:Nat)(x:Str):MF:=mT S ds k x
noncomputable abbrev aH:ME:=aE 0
noncomputable abbrev aK:ME:=aE 1
noncomputable abbrev aN:ME:=aE 2
noncomputable abbrev bC:ME:=aE 3
noncomputable abbrev bY:ME:=aE 4
noncomputable abbrev dS:ME:=aE 5
noncomputable abbrev dE:ME:=aE 6
noncomputable abbrev e8:ME:=aE 7
noncomputable abbrev iT:ME:=aE 8
noncomputable abbrev jG:ME:=aE 9
noncomputable abbrev jH:ME:=aE 10
noncomputable abbrev mZ:ME:=aE 11
noncomputable abbrev pJ:ME:=aE 12
noncomputable abbrev uG:ME:=aE 13
noncomputable abbrev Js:ME:=aE 14
noncomputable abbrev Ak:ME:=aE 15
noncomputable abbrev Dj:ME:=aE 16
noncomputable abbrev Jt:ME:=aE 17
noncomputable abbrev bL:ME:=mC<|.int 0
noncomputable abbrev aX:ME:=mC<|.int 1
noncomputable abbrev cU:ME:=mC<|.int 2
noncomputable abbrev nW:ME:=mC<|.int 3
noncomputable abbrev dY:ME:=mC<|.int 4
noncomputable abbrev Al:ME:=mC<|.int 6
noncomputable abbrev Am:ME:=mC<|.int 8
noncomputable abbrev bB(g:MF)(a:ME):ME:=bJ g<|aB a aF
noncomputable abbrev cA(g:MF)(a b:ME):ME:=bJ g<|aB a<|aB b aF
noncomputable abbrev fT(g:MF)(a b c:ME):ME:=bJ g<|aB a<|aB b<|aB c aF
noncomputable abbrev a8(i:Nat)(m:ME)(c:MS):MS:=aL (fN i m) c
noncomputable abbrev aJ(a b:ME):ME:=aA bF a b
def Ju k a b:f (k+1) "is_whole" [a] b=fin ((aM<|gG (cA mO aH<|mC<|.ty "int")<|tB<|cA mO aH<|mC<|.ty "bool") [b3 a] b):=""
def Xj k a b:f (k+1) "is_place" [a] b=fin ((aM<|gG (cA mO aH<|mC<|.ty "tuple")<|gG (aA (aZ b5) (bB dD aH) cU)<|gG (bB (f k "is_whole")<|aJ aH bL)<|bB (f k "is_whole")<|aJ aH aX) [b3 a] b):=""
def Xk k a b:f (k+1) "is_corner" [a] b=fin ((aM<|gG (aA (aZ b5) (aA bZ (aJ aH bL) cU) bL)<|aA (aZ b5) (aA bZ (aJ aH bL) dY)<|aA bZ (aJ aH aX) dY) [b3 a] b):=""
def Jv k a b:f (k+1) "is_edge" [a] b=fin ((aL (bK (a7<|aA (aZ b5) (aA bZ (aJ aH bL) cU) aX) (aM<|aA (aZ b5) (aA bZ (aJ aH aX) cU) aX) bV)<|aM<|gG (aA (aZ b5) (aA bZ (aJ aH aX) cU) bL)<|aA (aZ dI) (aA bZ (aJ aH bL) dY)<|aA bZ (aJ aH aX) dY) [b3 a] b):=""
def Xl k a b:f (k+1) "is_quarter" [a] b=fin ((aL (bK (a7<|aA (aZ b5) (aA bZ (aJ aH bL) cU) aX) (aM<|aA (aZ b5) (aA bZ (aJ aH aX) dY) cU) bV)<|aM<|gG (aA (aZ b5) (aA bZ (aJ aH bL) dY) cU)<|aA (aZ b5) (aA bZ (aJ aH aX) cU) aX) [b3 a] b):=""
def Xm k a b:f (k+1) "beside" [a] b=fin ((a8 1 (aJ aH bL)<|a8 2 (aJ aH aX)<|aM<|cP<|aB (cN<|aB (aA iN aK aX)<|aB aN aF)<|aB (cN<|aB aK<|aB (aA iN aN aX) aF)<|aB (cN<|aB aK<|aB (aA bI aN aX) aF)<|aB (cN<|aB (aA bI aK aX)<|aB aN aF) aF) [b3 a,b4,b4] b):=""
def Xn k a b:f (k+1) "sides_of" [a] b=fin ((aM<|eU (cQ<|bB (f k "beside") aH) (c8<|bB (f k "is_quarter") aK) aK) [b3 a] b):=""
def Xo k a b c:f (k+1) "moved_by" [a,b] c=fin ((aM<|eU (cQ aK) fD<|cN<|aB (aA bI (aJ aH bL)<|aJ aN bL)<|aB (aA bI (aJ aH aX)<|aJ aN aX) aF) [b3 a,b3 b] c):=""
def Xp k a b:f (k+1) "edges_round" [a] b=fin ((aM<|cA (f k "moved_by") aH<|iM (a7<|aA (aZ b5) (aA bZ (aJ aH bL) dY) bL) (mC Jq)<|mC Jr) [b3 a] b):=""
def Xq k a b:f (k+1) "is_size" [a] b=fin ((aM<|gG (bB (f k "is_whole") aH)<|lP tF tF aX aH Al) [b3 a] b):=""
def Xr k a b c:f (k+1) "check_size" [a,b] c=fin ((bK (jQ<|i7 (c8<|bB (f k "is_size") aH)<|c8<|bB (f k "is_size") aK) dO bV) [b3 a,b3 b] c):=""
def Xs k a b:f (k+1) "is_mark" [a] b=fin ((aM<|gG (cA mO aH<|mC<|.ty "str")<|aA (eD b5) aH<|mC Di) [b3 a] b):=""
def Xu k a b c d:f (k+1) "is_within" [a,b,c] d=fin ((aM<|gG (lP hV hV bL (aJ aN bL)<|aA b7 dY aH)<|lP hV hV bL (aJ aN aX)<|aA b7 dY aK) [b3 a,b3 b,b3 c] d):=""
def Xv k a b c:f (k+1) "places_within" [a,b] c=fin ((a8 2 (cP aF)<|aL (b9 (mP<|aB aX<|aB (aA b7 dY aH) aF) (cL 3)<|dW<|d9 oR aN<|aB (eU (mP<|aB aX<|aB (aA b7 dY aK) aF) fD<|cN<|aB bC<|aB bY aF) aF)<|aM aN) [b3 a,b3 b,b4,b4] c):=""
def Xw k a b c:f (k+1) "edges_in" [a,b] c=fin ((aM<|eU (cQ<|cA (f k "places_within") aH aK) (c8<|bB (f k "is_edge") aN) aN) [b3 a,b3 b] c):=""
def Xx k a b c:f (k+1) "corners_in" [a,b] c=fin ((aM<|eU (cQ<|cA (f k "places_within") aH aK) (c8<|bB (f k "is_corner") aN) aN) [b3 a,b3 b] c):=""
def Xy k a b c d:f (k+1) "is_inner_edge" [a,b,c] d=fin ((aM<|gG (bB (f k "is_place") aN)<|gG (fT (f k "is_within") aH aK aN)<|bB (f k "is_edge") aN) [b3 a,b3 b,b3 c] d):=""
def Xz k a b c d:f (k+1) "sheet_of" [a,b,c] d=fin ((aL (dW<|cA (f k "check_size") aH aK)<|a8 3 iR<|aL (b9 (cQ aN) (cL 4)<|a8 5 (aJ bY bL)<|aL (bK (jQ<|c8<|fT (f k "is_inner_edge") aH aK dS) dO bV)<|aL (bK (jQ<|c8<|bB (f k "is_mark")<|aJ bY aX) dO bV)<|aL (bK (a7<|aA (eD b5) dS bC) dO bV)<|eJ bC dS<|aJ bY aX)<|aM<|cN<|aB aH<|aB aK<|aB (zG bC) aF) [b3 a,b3 b,b3 c,b4,b4,b4] d):=""
def Jw k a b:f (k+1) "marks_in" [a] b=fin ((aM<|bB r8<|aJ aH cU) [b3 a] b):=""
def XA k a b:f (k+1) "is_good" [a] b=fin ((aL (bK (k9 (a7<|aA kK (bB dD aH) Am)<|a7<|aA (aZ b5) (aA bZ (bB dD aH) cU) aX) (aM<|mC<|.bl b5) bV)<|aL (bK (jQ<|c8<|bB yO<|eU (cQ aH) fD<|gG (bB (f k "is_whole") aK)<|aA vD aK aX) (aM<|mC<|.bl b5) bV)<|aM<|aA (aZ b5) (bB oS<|pY aH mJ mJ<|mK cU)<|bB oS<|pY aH (mK aX) mJ<|mK cU) [b3 a] b):=""
def XB k a b c:f (k+1) "creases_at" [a,b] c=fin ((a8 2 (bB (f k "marks_in") aH)<|aM<|eU (cQ<|bB (f k "edges_round") aK) (a7<|aA (eD b5) bC aN) bC) [b3 a,b3 b,b4] c):=""
def XC k a b c:f (k+1) "gaps_at" [a,b] c=fin ((a8 2 (bB (f k "edges_round") aK)<|a8 3 (cA (f k "creases_at") aH aK)<|a8 4 (eU (cQ bC) fD<|d9 tV aN<|aB e8 aF)<|a8 5 (aA bI (rF bY (mK aX) mJ)<|eU (cQ<|rF bY mJ<|mK aX) fD<|aA bI e8<|bB dD aN)<|a8 6 (aA kJ Am<|bB dD aN)<|aM<|gU (pU 2) (oW<|aB bY<|aB dS aF) fD<|aA b7 (aA iN iT e8) dE) [b3 a,b3 b,b4,b4,b4,b4,b4] c):=""
def XD k a b:f (k+1) "barred" [a] b=fin ((aL (b9 (cQ<|cA (f k "corners_in") (aJ aH bL)<|aJ aH aX) (cL 1)<|bK (jQ<|c8<|bB (f k "is_good")<|cA (f k "gaps_at") aH aK) (aM aK) bV)<|aM<|mC .non) [b3 a,b4] b):=""
def XE k a b:f (k+1) "check_corners" [a] b=fin ((a8 1 (bB (f k "barred") aH)<|bK (a7<|aA (iQ dI) aK<|mC .non) dO bV) [b3 a,b4] b):=""
def XF k a b c:f (k+1) "led" [a,b] c=fin ((a8 2 (aJ aK bL)<|a8 3 (aJ aK aX)<|aM<|cN<|aB (aA bI (aA bI (aA b7 (aJ aH bL) aN)<|aA b7 (aJ aH aX) bC)<|aJ aH dY)<|aB (aA bI (aA bI (aA b7 (aJ aH cU) aN)<|aA b7 (aJ aH nW) bC)<|aJ aH<|mC<|.int 5) aF) [b3 a,b3 b,b4,b4] c):=""
def XG k a b:f (k+1) "is_turned" [a] b=fin ((aM<|aA (aZ b5) (aA iN (aA b7 (aJ aH bL)<|aJ aH nW)<|aA b7 (aJ aH aX)<|aJ aH cU)<|nJ aX) [b3 a] b):=""
def XH k a b c:f (k+1) "edges_laid" [a,b] c=fin ((a8 2 iR<|aL (b9 (cQ<|cA (f k "edges_in") (aJ aH bL)<|aJ aH aX) (cL 3)<|dW<|d9 eV (fR jV aN<|aB (cA (f k "led") (aJ aK<|aJ (bB (f k "sides_of") bC) bL) bC)<|aB (cP aF) aF)<|aB bC aF)<|aM aN) [b3 a,b3 b,b4,b4] c):=""
def XI k a b:f (k+1) "heights_in" [a] b=fin ((a8 1 iR<|aL (gJ 0 (b9 (tZ aH) (cL 2)<|b9 (rX<|aB aN aF) (dB [3,4])<|eJ aK bY bC) dO)<|aM aK) [b3 a,b4,b4,b4,b4] b):=""
def XJ k a b c d:f (k+1) "quarters_at" [a,b,c] d=fin ((aM<|eU (cQ<|bB (f k "sides_of") aH) (a7<|aA (aZ b5) (cA (f k "led") (aJ aK bC) bC) aN) bC) [b3 a,b3 b,b3 c] d):=""
def XM k a b c d:f (k+1) "joined_at" [a,b,c] d=fin ((aM<|eU (cQ<|bB (f k "sides_of") aN) fD<|fT (f k "quarters_at") aH aK bC) [b3 a,b3 b,b3 c] d):=""
def XN k a b c d:f (k+1) "count_between" [a,b,c] d=fin ((a8 3 (cA zO (aJ aH<|aJ aK bL)<|aJ aH<|aJ aK aX)<|a8 4 (cA zP (aJ aH<|aJ aK bL)<|aJ aH<|aJ aK aX)<|aM<|bB dD<|eU (cQ aN) (a7<|lP hV hV bC (aJ aH dS) bY) dS) [b3 a,b3 b,b3 c,b4,b4] d):=""
def Jx k a b c d:f (k+1) "is_above" [a,b,c] d=fin ((aM<|aA kK (aJ aH aK)<|aJ aH aN) [b3 a,b3 b,b3 c] d):=""
def XO k a b c d:f (k+1) "crosses" [a,b,c] d=fin ((aL (b9 (oW<|aB aK<|aB aN aF) (dB [3,4])<|aL (bK (a7<|aA (aZ b5) (bB dD bC) cU) (aM<|aA (aZ b5) (fT (f k "count_between") aH bC bY) aX) bV)<|bK (a7<|aA (aZ b5) (bB dD bY) cU) (aM<|aA (aZ b5) (fT (f k "count_between") aH bY bC) aX) bV)<|aM<|aA (aZ dI) (fT (f k "is_above") aH (aJ (aJ aK bL) bL)<|aJ (aJ aN bL) bL)<|fT (f k "is_above") aH (aJ (aJ aK aX) bL)<|aJ (aJ aN aX) bL) [b3 a,b3 b,b3 c,b4,b4] d):=""
def XQ k a b c d e:f (k+1) "crossing_at" [a,b,c,d] e=fin ((a8 5 (eU (cQ bC) fD<|fT (f k "joined_at") jG aK aN)<|a8 6 (cP aF)<|aL (b9 (rX<|aB bC aF) (dB [7,4])<|b9 (mP<|aB (aA bI e8 aX)<|aB (bB dD bC) aF) (cL 8)<|bK (c8<|fT (f k "crosses") aH (aJ dS e8)<|aJ dS iT) (dW<|d9 eV dE<|aB (cN<|aB bY<|aB (aJ bC iT) aF) aF) bV)<|aM dE) [b3 a,b3 b,b3 c,b3 d,b4,b4,b4,b4,b4] e):=""
def XR k a b c d:f (k+1) "crossing" [a,b,c] d=fin ((a8 3 (bB (f k "heights_in") aN)<|a8 4 (cP aF)<|aL (b9 (wA<|cA (f k "edges_laid") aH aK) (dB [5,6])<|dW<|d9 oR bY<|aB (bJ (f k "crossing_at")<|aB bC<|aB aK<|aB dS<|aB dE aF) aF)<|aM<|cA t6 bY<|mC .non) [b3 a,b3 b,b3 c,b4,b4,b4,b4] d):=""
def XS k a b c:f (k+1) "turned_first" [a,b] c=fin ((a8 2 (bB (f k "sides_of") aK)<|aL (bK (c8<|bB (f k "is_turned")<|aJ aH<|aJ aN bL) (aM aN) bV)<|aM<|cP<|aB (aJ aN aX)<|aB (aJ aN bL) aF) [b3 a,b3 b,b4] c):=""
def XT k a b c d:f (k+1) "mark_by_heights" [a,b,c] d=fin ((a8 3 (cA (f k "turned_first") aK aN)<|aM<|iM (c8<|fT (f k "is_above") aH (aJ bC bL)<|aJ bC aX) (mC<|.str "v")<|mC<|.str "h") [b3 a,b3 b,b3 c,b4] d):=""
def XU k a b c d:f (k+1) "marks_by" [a,b,c] d=fin ((a8 3 (bB (f k "heights_in") aN)<|aM<|gU (pU 2) (cQ<|aJ aH cU) fD<|cN<|aB bY<|aB (fT (f k "mark_by_heights") bC aK bY) aF) [b3 a,b3 b,b3 c,b4] d):=""
def XW k a b c d:f (k+1) "keeps" [a,b,c] d=fin ((aL (b9 (oW<|aB (aJ aH cU)<|aB (fT (f k "marks_by") aH aK aN) aF) (dB [3,4])<|bK (i7 (a7<|aA (aZ dI) (aJ bC aX)<|mC<|.str "o")<|a7<|aA (aZ dI) (aJ bC aX)<|aJ bY aX) (aM<|mC<|.bl b5) bV)<|aM<|mC<|.bl dI) [b3 a,b3 b,b3 c,b4,b4] d):=""
def XX k a b c d e:f (k+1) "tie_of" [a,b,c,d] e=fin ((aM<|cN<|aB (cA zO aH aK)<|aB (cA zP aH aK)<|aB aN<|aB bC aF) [b3 a,b3 b,b3 c,b3 d] e):=""
def XY k a b c:f (k+1) "is_least" [a,b] c=fin ((aM<|gG (aA hV (aJ aH aK)<|aJ aH<|aA iN aK aX)<|aA hV (aJ aH aK)<|aJ aH<|aA bZ (aA bI aK aX)<|bB dD aH) [b3 a,b3 b] c):=""
def XZ k a b c d:f (k+1) "ties_of_gap" [a,b,c] d=fin ((a8 3 (bB dD aH)<|a8 4 (cP<|aB (bJ (f k "tie_of")<|aB (aJ aH aK)<|aB (aJ aH<|aA bZ (aA bI aK aX) bC)<|aB (mC<|.bl b5)<|aB aN aF) aF)<|aL (bK (a7<|aA (aZ b5) bC dY) (dW<|d9 eV bY<|aB (bJ (f k "tie_of")<|aB (aJ aH<|aA bZ (aA bI aK cU) dY)<|aB (aJ aH<|aA bZ (aA bI aK nW) dY)<|aB (mC<|.bl dI)<|aB aN aF) aF) bV)<|aM bY) [b3 a,b3 b,b3 c,b4,b4] d):=""
def X2 k a b c:f (k+1) "ties_at" [a,b] c=fin ((a8 2 (cA (f k "creases_at") aH aK)<|a8 3 (cA (f k "gaps_at") aH aK)<|aL (bK (a7<|aA (aZ b5) (bB dD aN) cU) (aM<|cP<|aB (bJ (f k "tie_of")<|aB (aJ aN bL)<|aB (aJ aN aX)<|aB (mC<|.bl dI)<|aB aK aF) aF) bV)<|a8 4 (cP aF)<|aL (b9 (oQ<|aB (bB dD aN) aF) (cL 5)<|bK (c8<|cA (f k "is_least") bC dS) (dW<|d9 oR bY<|aB (fT (f k "ties_of_gap") aN dS aK) aF) bV)<|aM bY) [b3 a,b3 b,b4,b4,b4,b4] c):=""
def X3 k a b:f (k+1) "ties" [a] b=fin ((aL (dW<|bB (f k "check_corners") aH)<|a8 1 (cP aF)<|aL (b9 (cQ<|cA (f k "corners_in") (aJ aH bL)<|aJ aH aX) (cL 2)<|dW<|d9 oR aK<|aB (cA (f k "ties_at") aH aN) aF)<|aM<|bB t7 aK) [b3 a,b4,b4] b):=""
def X4 k a b:f (k+1) "walked_back" [a] b=fin ((aM<|cN<|aB (aJ aH aX)<|aB (aJ aH bL)<|aB (aJ aH cU)<|aB (aJ aH nW) aF) [b3 a] b):=""
def X5 k a b:f (k+1) "steps_from" [a] b=fin ((a8 1 iR<|aL (b9 (cQ<|bB (f k "ties") aH) (cL 2)<|aL (dW<|d9 eV (fR jV aK<|aB (aJ aN bL)<|aB (cP aF) aF)<|aB aN aF)<|dW<|d9 eV (fR jV aK<|aB (aJ aN aX)<|aB (cP aF) aF)<|aB (bB (f k "walked_back") aN) aF)<|aM aK) [b3 a,b4,b4] b):=""
def X6 k a b:f (k+1) "is_marked" [a] b=fin ((aM<|BS wQ aH) [b3 a] b):=""
def X7 k a b:f (k+1) "marked_creases" [a] b=fin ((aM<|gU (pU 2) (cQ<|aJ aH cU) (c8<|bB (f k "is_marked") aN) aK) [b3 a] b):=""
def X8 k a b c:f (k+1) "last_steps" [a,b] c=fin ((a8 2 iR<|aL (b9 (cQ aK) (cL 3)<|eJ aN bC<|mC .non)<|a8 4 (bB oZ aK)<|aL (tR uE (c8 bY)<|a8 5 (d9 pX bY<|aB bL aF)<|b9 (cQ<|fR fS aH<|aB dS<|aB (cP aF) aF) (cL 6)<|bK (a7<|aA (eD dI) (aJ dE aX) aN) (aL (eJ aN (aJ dE aX) dE)<|dW<|d9 eV bY<|aB (aJ dE aX) aF) bV)<|aM aN) [b3 a,b3 b,b4,b4,b4,b4,b4] c):=""
def X9 k a b c:f (k+1) "way_by" [a,b] c=fin ((a8 2 (cP aF)<|a8 3 (aJ aH aK)<|aL (tR uE (a7<|aA (iQ dI) bC<|mC .non)<|aL (dW<|d9 eV aN<|aB bC aF)<|fN 3<|aJ aH<|aJ bC bL)<|aM<|bB nO aN) [b3 a,b3 b,b4,b4] c):=""
def Yb k a b:f (k+1) "is_alike" [a] b=fin ((aM<|aA (aZ b5) (aA bZ (bB dD<|eU (cQ aH) (jQ<|c8<|aJ aK cU) aK) cU) bL) [b3 a] b):=""
def Yc k a b:f (k+1) "back_by" [a] b=fin ((aM<|eU (vQ<|aB aH aF) fD<|bB (f k "walked_back") aK) [b3 a] b):=""
def Yd k a b c:f (k+1) "round_by_step" [a,b] c=fin ((aM<|aA bI (aA bI (cA (f k "way_by") aH<|aJ aK bL)<|cP<|aB aK aF)<|bB (f k "back_by")<|cA (f k "way_by") aH<|aJ aK aX) [b3 a,b3 b] c):=""
def Ye k a b c d:f (k+1) "round_within" [a,b,c] d=fin ((a8 3 (cA (f k "last_steps") aH<|cP<|aB aN aF)<|aL (gJ 3 (b9 (eP bC) (cL 4)<|a8 5 (cA (f k "way_by") bC bY)<|aL (bK (i7 (c8<|bB (f k "is_marked")<|aJ aK bY)<|i7 (c8<|bB (f k "is_marked")<|aJ aK aN)<|a7<|aA (aZ dI) (bB (f k "is_alike") dS)<|aA (aZ b5) (aJ aK bY)<|aJ aK aN) (aM dS) bV)<|b9 (cQ<|fR fS aH<|aB bY<|aB (cP aF) aF) (cL 6)<|a8 7 (cA (f k "round_by_step") bC dE)<|bK (jQ<|c8<|bB (f k "is_alike") e8) (aM e8) bV) dO)<|aM<|mC .non) [b3 a,b3 b,b3 c,b4,b4,b4,b4,b4] d):=""
def Yg k a b:f (k+1) "round_of" [a] b=fin ((a8 1 (bB (f k "steps_from") aH)<|a8 2 (bB (f k "marks_in") aH)<|a8 3 iR<|aL (b9 (cQ<|aA bI (bB (f k "marked_creases") aH)<|bB oZ aN) (cL 4)<|bK (a7<|aA (eD dI) bY bC) (a8 5 (fT (f k "round_within") aK aN bY)<|aL (bK (a7<|aA (iQ dI) dS<|mC .non) (aM dS) bV)<|dW<|fR sF bC<|aB (cA (f k "last_steps") aK<|cP<|aB bY aF) aF) bV)<|aM<|mC .non) [b3 a,b4,b4,b4,b4,b4] b):=""
def Jy k a b c d:f (k+1) "carried_mark" [a,b,c] d=fin ((aL (bK (a7<|aA (eD dI) aN aK) (aM<|mC<|.str "o") bV)<|a8 3 (cA (f k "way_by") aK aN)<|a8 4 (iM (c8 bC) (aJ (aJ bC bL) bL) aN)<|aM<|iM (c8<|bB (f k "is_alike") bC) (aJ aH bY)<|vH wQ<|aJ aH bY) [b3 a,b3 b,b3 c,b4,b4] d):=""
def Yh k a b:f (k+1) "carried" [a] b=fin ((a8 1 (cA (f k "last_steps") (bB (f k "steps_from") aH)<|bB (f k "marked_creases") aH)<|a8 2 (bB (f k "marks_in") aH)<|aM<|tY 2 (eU (eP aN) fD<|cN<|aB bC<|aB (fT (f k "carried_mark") aN aK bC) aF) cR) [b3 a,b4,b4] b):=""
def Yi k a b c:f (k+1) "_law_given" [a,b] c=fin ((aL (bK (a7<|aA hV aK<|bB dD aH) (aM<|aJ aH aK) bV)<|a8 2 (aA b7 (aA b7 (aA bI aK nW)<|aA bI aK nW)<|mC<|.int 48271)<|aM<|iM (a7<|aA (aZ b5) aH<|cP aF) aN<|aA bI aN<|aA b7 (aJ aH<|aA bZ aK<|bB dD aH)<|aA bI aK<|mC<|.int 5) [b3 a,b3 b,b4] c):=""
def Yj k a b c:f (k+1) "_law_number" [a,b] c=fin ((aL (bK (a7<|aA (aZ b5) (aA bZ (cA (f k "_law_given") aH bL) cU) aX) (a8 2 (cA (f k "_law_given") aH aX)<|aL (b9 (oQ<|aB aK aF) (cL 3)<|fN 2<|aA kJ aN<|aA rG (mC<|.int 10) Al)<|bK (a7<|aA kK aN bL) (aM<|aA bZ aN<|aA rG (mC<|.int 10) Al) bV) bV)<|a8 2 (aA bI (aA bI (aA bZ (cA (f k "_law_given") aH aK)<|mC<|.int 1000003)<|aA b7 (mC<|.int 7) aK) nW)<|aM<|aA bZ (aA b7 (aA b7 aN aN)<|mC<|.int 48271)<|mC<|.int 2147483647) [b3 a,b3 b,b4,b4] c):=""
def Yk k a b c:f (k+1) "_law_quarters" [a,b] c=fin ((a8 2 (cP aF)<|aL (b9 (mP<|aB aX<|aB (aA b7 dY aH) aF) (cL 3)<|b9 (mP<|aB aX<|aB (aA b7 dY aK) aF) (cL 4)<|bK (k9 (i7 (a7<|aA (aZ b5) (aA bZ bC dY) cU)<|a7<|aA (aZ b5) (aA bZ bY cU) aX)<|i7 (a7<|aA (aZ b5) (aA bZ bY dY) cU)<|a7<|aA (aZ b5) (aA bZ bC cU) aX) (dW<|d9 eV aN<|aB (cN<|aB bC<|aB bY aF) aF) bV)<|aM aN) [b3 a,b3 b,b4,b4,b4] c):=""
def Yl k a b c:f (k+1) "_law_rims" [a,b] c=fin ((a8 2 (cP aF)<|aL (b9 (mP<|aB aX<|aB (aA b7 dY aH) aF) (cL 3)<|b9 (mP<|aB aX<|aB (aA b7 dY aK) aF) (cL 4)<|bK (i7 (a7<|aA (aZ b5) (aA bZ bC cU)<|aA bZ bY cU)<|k9 (a7<|aA (aZ b5) (aA bZ bC cU) aX)<|a7<|aA (aZ dI) (aA bZ bC dY)<|aA bZ bY dY) (dW<|d9 eV aN<|aB (cN<|aB bC<|aB bY aF) aF) bV)<|aM aN) [b3 a,b3 b,b4,b4,b4] c):=""
def Ym k a b:f (k+1) "_law_beside" [a] b=fin ((aL (hW aH<|dB [1,2])<|aL (bK (a7<|aA (aZ b5) (aA bZ aK cU) aX) (aM<|cP<|aB (cN<|aB aK<|aB (aA iN (aA bI aN cU)<|aA bZ aN dY) aF)<|aB (cN<|aB (aA iN (aA bI aK cU)<|aA bZ aK dY)<|aB aN aF) aF) bV)<|aL (bK (a7<|aA (aZ b5) (aA bZ aN dY) bL) (aM<|cP<|aB (cN<|aB aK<|aB (aA iN aN aX) aF)<|aB (cN<|aB aK<|aB (aA bI aN aX) aF) aF) bV)<|aM<|cP<|aB (cN<|aB (aA iN aK aX)<|aB aN aF)<|aB (cN<|aB (aA bI aK aX)<|aB aN aF) aF) [b3 a,b4,b4] b):=""
def Yn k a b c:f (k+1) "_law_value" [a,b] c=fin ((aL (hW aH<|dB [2,3])<|aM<|aJ (cP<|aB bC<|aB aN<|aB (aA iN aN bC)<|aB (aA bI aN bC) aF) aK) [b3 a,b3 b,b4,b4] c):=""
def Yo k a b c:f (k+1) "_law_mirror" [a,b] c=fin ((a8 2 (cP<|aB (cN<|aB aX<|aB bL<|aB bL<|aB (nJ aX)<|aB bL<|aB (aA b7 cU aK) aF)<|aB (cN<|aB (nJ aX)<|aB bL<|aB bL<|aB aX<|aB (aA b7 cU aK)<|aB bL aF) aF)<|aM<|aJ (aA bI aN<|cP<|aB (cN<|aB bL<|aB aX<|aB aX<|aB bL<|aB aK<|aB (nJ aK) aF)<|aB (cN<|aB bL<|aB (nJ aX)<|aB (nJ aX)<|aB bL<|aB aK<|aB aK aF) aF) aH) [b3 a,b3 b,b4] c):=""
def Yp k a b c:f (k+1) "_law_led" [a,b] c=fin ((aL (hW aH<|dB [2,3,4,5,6,7])<|aL (hW aK<|dB [8,9])<|aM<|cN<|aB (aA bI (aA bI (aA b7 aN iT)<|aA b7 bC jG) dE)<|aB (aA bI (aA bI (aA b7 bY iT)<|aA b7 dS jG) e8) aF) [b3 a,b3 b,b4,b4,b4,b4,b4,b4,b4,b4] c):=""
def Yq k a b c:f (k+1) "_law_then" [a,b] c=fin ((aL (hW aH<|dB [2,3,4,5,6,7])<|aL (hW aK<|dB [8,9,10,11,12,13])<|a8 14 (cN<|aB (aA bI (aA b7 iT aN)<|aA b7 jG bY)<|aB (aA bI (aA b7 iT bC)<|aA b7 jG dS)<|aB (aA bI (aA b7 jH aN)<|aA b7 mZ bY)<|aB (aA bI (aA b7 jH bC)<|aA b7 mZ dS) aF)<|aM<|aA bI Js<|cN<|aB (aA bI (aA bI (aA b7 iT dE)<|aA b7 jG e8) pJ)<|aB (aA bI (aA bI (aA b7 jH dE)<|aA b7 mZ e8) uG) aF) [b3 a,b3 b,b4,b4,b4,b4,b4,b4,b4,b4,b4,b4,b4,b4,b4] c):=""
def Yr k a b c d e g h:f (k+1) "_law_fold" [a,b,c,d,e,g] h=fin ((aL (gJ 1 (fN 7<|eU (eP aK) fD<|aA (aZ b5) (aA kK (cA (f k "_law_value") Js aN) bC) bY) dO)<|aL (bK (k9 (a7<|aA (eD dI) (mC<|.bl dI) e8)<|a7<|aA (eD dI) (mC<|.bl b5) e8) (aM<|cN<|aB aH<|aB aK aF) bV)<|a8 8 (cA (f k "_law_mirror") aN bC)<|a8 9 iR<|aL (gJ 0 (b9 (eP aH) (cL 10)<|aL (eJ jG jH<|aJ aH jH)<|bK (a7<|aA (aZ b5) (aA kK (cA (f k "_law_value") (cA (f k "_law_led") (aJ aH jH) jH) aN) bC) bY) (eJ jG jH<|cA (f k "_law_then") (aJ aH jH) iT) bV) dO)<|a8 11 iR<|a8 12 iR<|aL (gJ 1 (b9 (eP aK) (cL 6)<|bK (a7<|aA (aZ b5) (aA kK (cA (f k "_law_value") dE aN) bC) bY) (eJ pJ (cA (f k "_law_led") iT dE)<|bB nO<|aJ aK dE)<|eJ mZ dE<|aJ aK dE) dO)<|aL (gJ 12 (b9 (eP pJ) (cL 6)<|a8 13 (fR fS mZ<|aB dE<|aB (cP aF) aF)<|eJ mZ dE<|iM (c8 dS) (aA bI uG<|aJ pJ dE)<|aA bI (aJ pJ dE) uG) dO)<|aM<|cN<|aB jG<|aB mZ aF) [b3 a,b3 b,b3 c,b3 d,b3 e,b3 g,b4,b4,b4,b4,b4,b4,b4,b4] h):=""
def Ys k a b c d e g:f (k+1) "_law_grown" [a,b,c,d,e] g=fin ((a8 5 iR<|a8 6 iR<|aL (b9 (cQ<|cA (f k "_law_quarters") aK aN) (cL 7)<|aL (eJ dS e8<|cN<|aB aX<|aB bL<|aB bL<|aB aX<|aB bL<|aB bL aF)<|eJ dE e8<|cP<|aB e8 aF)<|aL (b9 (oQ<|aB bY aF) (cL 8)<|a8 9 (cA (f k "_law_number") aH<|aA bI bC iT)<|a8 10 (aA bZ jG dY)<|a8 11 (bB qI dE)<|a8 12 (cA (f k "_law_value") (aJ mZ<|aA bZ (aA kJ jG dY)<|bB dD mZ) jH)<|a8 13 (aA bZ (aA kJ jG<|mC<|.int 4096) dY)<|hW (bJ (f k "_law_fold")<|aB dS<|aB dE<|aB jH<|aB (aA iN pJ<|aA bZ pJ dY)<|aB (aA (aZ b5) (aA bZ uG cU) bL)<|aB (aA hV uG cU) aF)<|dB [5,6])<|aM<|cN<|aB dS<|aB dE aF) [b3 a,b3 b,b3 c,b3 d,b3 e,b4,b4,b4,b4,b4,b4,b4,b4,b4] g):=""
def Yt k a b c d:f (k+1) "_law_creased" [a,b,c] d=fin ((a8 3 (cP aF)<|aL (b9 (cQ<|cA (f k "_law_rims") aK aN) (cL 4)<|aL (hW (bB (f k "_law_beside") bY)<|dB [5,6])<|bK (a7<|aA (aZ dI) (aJ aH dS)<|aJ aH dE) (dW<|d9 eV bC<|aB bY aF) bV)<|aM bC) [b3 a,b3 b,b3 c,b4,b4,b4,b4] d):=""
def Yu k a b:f (k+1) "_law_ranks" [a] b=fin ((a8 1 iR<|aL (gJ 0 (b9 (eP aH) (cL 2)<|b9 (rX<|aB (aJ aH aN) aF) (dB [3,4])<|eJ aK bY bC) dO)<|aM aK) [b3 a,b4,b4,b4,b4] b):=""
def Yv k a b c d e:f (k+1) "_law_marks" [a,b,c,d] e=fin ((a8 4 (bB (f k "_law_ranks") aK)<|a8 5 (cP aF)<|aL (b9 (cQ<|fT (f k "_law_creased") aH aN bC) (cL 6)<|aL (hW (bB (f k "_law_beside") dE)<|dB [7,8])<|aL (hW (aJ aH e8)<|dB [9,10,11,12,13,14])<|a8 15 (aA kK (aJ bY e8)<|aJ bY iT)<|dW<|d9 eV dS<|aB (cN<|aB dE<|aB (iM (a7<|aA (aZ b5) Ak<|aA hV (aA iN (aA b7 jG pJ)<|aA b7 jH mZ) bL) (mC<|.str "v")<|mC<|.str "h") aF) aF)<|aM dS) [b3 a,b3 b,b3 c,b3 d,b4,b4,b4,b4,b4,b4,b4,b4,b4,b4,b4,b4] e):=""
def Yw k a b c:f (k+1) "_law_opened" [a,b] c=fin ((a8 2 (cP aF)<|a8 3 (aA bZ (cA (f k "_law_number") aK aX)<|mC<|.int 11)<|aL (b9 (cQ aH) (dB [4,5])<|a8 6 (cA (f k "_law_number") aK<|aA bI Am<|bB dD aN)<|dW<|d9 eV aN<|aB (cN<|aB bY<|aB (iM (a7<|aA hV (aA bZ (aA kJ dE Am)<|mC<|.int 10) bC) dS<|mC<|.str "o") aF) aF)<|aM aN) [b3 a,b3 b,b4,b4,b4,b4,b4] c):=""
def Yx k a b:f (k+1) "law" [a] b=fin ((a8 1 (cA (f k "_law_number") aH bL)<|a8 2 (aA bI aX<|aA bZ aK nW)<|a8 3 (aA bI aX<|aA bZ (aA kJ aK nW) nW)<|aL (hW (bJ (f k "_law_grown")<|aB aH<|aB aN<|aB bC<|aB cU<|aB (aA bZ (aA kJ aK<|mC<|.int 9) Al) aF)<|dB [4,5])<|a8 6 (cA (f k "_law_opened") (bJ (f k "_law_marks")<|aB bY<|aB dS<|aB aN<|aB bC aF) aH)<|a8 7 (fT (f k "sheet_of") aN bC dE)<|aL (bK (k9 (a7<|aA (iQ dI) (fT (f k "crossing") e8 bY dS)<|mC .non)<|jQ<|c8<|fT (f k "keeps") e8 bY dS) (aM<|mC<|.bl b5) bV)<|a8 8 iR<|aL (b9 (cQ<|fT (f k "marks_by") e8 bY dS) (dB [9,10])<|eJ iT jG jH)<|aL (b9 (cQ<|bB (f k "ties") e8) (dB [11,12,13,14])<|bK (a7<|aA (aZ dI) (aA (aZ b5) (aJ iT mZ)<|aJ iT pJ) uG) (aM<|mC<|.bl b5) bV)<|aL (bK (a7<|aA (iQ dI) (bB (f k "round_of") e8)<|mC .non) (aM<|mC<|.bl b5) bV)<|a8 15 (bB (f k "carried") e8)<|aL (bK (a7<|aA (aZ dI) (gU (pU 2) (cQ Ak) fD Jt)<|gU (pU 2) (cQ dE) fD Jt) (aM<|mC<|.bl b5) bV)<|aL (b9 (oQ<|aB (bB dD Ak) aF) (cL 16)<|aL (hW (aJ Ak Dj)<|dB [9,10])<|bK (k9 (a7<|aA (eD dI) jH<|cN<|aB (mC<|.str "o")<|aB (aJ iT jG) aF)<|i7 (a7<|aA (aZ dI) (aJ (aJ dE Dj) aX)<|mC<|.str "o")<|a7<|aA (aZ dI) jH<|aJ (aJ dE Dj) aX) (aM<|mC<|.bl b5) bV)<|aM<|mC<|.bl dI) [b3 a,b4,b4,b4,b4,b4,b4,b4,b4,b4,b4,b4,b4,b4,b4,b4,b4] b):=""
def sI{Q:jz}:W (b7 (.int 4) (.int z) a) Q↔Q (.int<|4*z,a):=pH<|.inl ⟨⋯,⋯⟩
def ĥ{Q:jz}:W (bZ (.int z) (.int 2) a) Q↔Q (.int<|z%2,a):=iE ⋯
def ě{Q:jz}:W (bZ (.int z) (.int 4) a) Q↔Q (.int<|z%4,a):=iE ⋯
def jj{Q:jz}:W (kJ (.int z) (.int 4) a) Q↔Q (.int<|z/4,a):=sG ⋯<|by decide
def Yy:(2:Nat)<=Ò:=⋯
def gN:([a,b]:List D).length<=Ò:=Yy
def Yz:(1:Nat)<=Ò:=⋯
def Dk:([a]:List D).length<=Ò:=Yz
abbrev sX:D->Int
 |.int i=>i|_=>0
def YA(h:d∈pI lo n):∃j,j<n/\d=.int (lo+(j:Int)):=by unfold pI at h;let⟨j,h1,rfl⟩:=Õ.mp h;show⟨j,Ō.mp h1,rfl⟩
def Jz{C:MS}{Q:jz}(h:t a c=b3 (b,μ'))(h1:b=dI->W (fin<|aL A C a μ') Q)(d:b=b5->W (fin<|aL B C a μ') Q):W (fin<|aL (bK t A B) C a c) Q:=by
 ext b
 .let e:aL (bK t A B) C a c=aL B C a μ':=by ext aL bK;rw[h];rfl
  rw[e];show d rfl
 .let e:aL (bK t A B) C a c=aL A C a μ':=by ext aL bK;rw[h];rfl
  rw[e];show h1 rfl
def Dl{C:MS}{Q:jz}(h:a d c=b3 (.nx,b,μ'))(k:W (fin<|C b μ') Q):W (fin<|aL a C d c) Q:=by ext aL;rw[h];show k
def YB{o:Option a}{r:a}{Q:a->Prop}(h:W o λx=>x=r):W o Q↔Q r:=by let⟨_,h,rfl⟩:=h;rw[h];show À
def YC{ds:List D}{Q:jz}(h:a c b=b3 (ds,μ'))(k:W (g ds μ') Q):W (bJ g a c b) Q:=by ext bJ;rw[h];show k
def YD{Q:jz}(h1:a e h=b3 (x,c))(i:b e c=b3 (y,d))(k:W (g x y d) Q):W (aA g a b e h) Q:=by ext aA;rw[h1,ē,i];show k
def YE{Q:jz}(k:W (m b a) Q):W (fin<|aM m b a) Q:=ß.mpr<|Ï.mpr<|bP k λ_ q=>q
def iG{o:Option α}{r:α}{Q:α->Prop}(h:o=b3 r)(q:Q r):W o Q:=⟨r,h,q⟩
def Ð{Q:jz}(e:o=fin a)(h:W a λp=>match p.1 with|.rt d=>Q (d,p.2.2)|.nx=>Q (.non,p.2.2)|_=>False):W o Q:=e▸ß.mpr h
def bD{C:MS}(h:W (m ρ μ) λp=>W (C (ρ.set i<|b3 p.1) p.2) R):W (aL (fN i m) C ρ μ) R:=Æ.mpr<|Ď.mpr h
def fU{C:MS}(h:W (A ρ μ) λp=>p.1=.nx/\W (C p.2.1 p.2.2) R):W (aL A C ρ μ) R:=Æ.mpr<|bP h λp q=>by rw[q.1];show q.2
def An{C:MS}(h:W (m ρ μ) λp=>W (C ρ p.2) R):W (aL (dW m) C ρ μ) R:=Æ.mpr<|í.mpr h
def cI(h:W (m ρ μ) λp=>R (.rt p.1,ρ,p.2)):W (aM m ρ μ) R:=Ï.mpr h
def aS{ds:List D}{Q:jz}(h:ms ρ μ=b3 (ds,μ'))(k:W (g ds μ') Q):W (bJ g ms ρ μ) Q:=Ý.mpr ⟨_,h,k⟩
def dG{Q:jz}(h:W (ms ρ μ) λp=>W (g p.1 p.2) Q):W (bJ g ms ρ μ) Q:=Ý.mpr h
def aQ(h:W (m ρ μ) λp=>W (ms ρ p.2) λq=>Q (p.1::q.1,q.2)):W (aB m ms ρ μ) Q:=Ë.mpr h
def Dm{Q:jz}(h:W (m ρ μ) λp=>W (g [p.1] p.2) Q):W (bJ g (aB m aF) ρ μ) Q:=Ý.mpr<|Ë.mpr<|bP h λ_ q=>⟨_,rfl,q⟩
def Dn{C:MS}(h:t ρ μ=b3 (b,μ'))(h1:b=dI->W (aL A C ρ μ') R)(a:b=b5->W (aL B C ρ μ') R):W (aL (bK t A B) C ρ μ) R:=by
 show Æ.mpr<|Ñ.mpr ⟨_,h,?_⟩;ext b
 .show Æ.mp<|a rfl
 .show Æ.mp<|h1 rfl
def YF{C:MS}(h:W (t ρ μ) λp=>p.1=dI/\W (aL A C ρ p.2) R):W (aL (bK t A B) C ρ μ) R:=Æ.mpr<|Ñ.mpr<|bP h λp q=>by rw[if_pos q.1];show Æ.mp q.2
def sJ{C:MS}(h:W (t ρ μ) λp=>p.1=b5/\W (aL B C ρ p.2) R):W (aL (bK t A B) C ρ μ) R:=Æ.mpr<|Ñ.mpr<|bP h λp q=>by rw[if_neg<|by rw[q.1];show ø];show Æ.mp q.2
def sL(h:W (t ρ μ) λp=>T (!p.1,p.2)):W (jQ t ρ μ) T:=η.mpr h
def gW(h:W (m ρ μ) λp=>p.1=.bl b/\T (b,p.2)):W (c8 m ρ μ) T:=ļ.mpr<|bP h λp ⟨e,q⟩=>by rw[e];show ũ.mpr q
def Dp{C:MS}(h:W (m ρ μ) λp=>R (.rt p.1,ρ,p.2)):W (aL (aM m) C ρ μ) R:=Æ.mpr<|Ï.mpr h
def nX{C:MS}(h:W (C ρ μ) R):W (aL bV C ρ μ) R:=Æ.mpr<|Ì.mpr h
def cZ(h:W (m ρ μ) λp=>∃b,p.1=.bl b/\T (b,p.2)):W (a7 m ρ μ) T:=ĕ.mpr<|bP h λp ⟨b,e,q⟩=>by rw[e];show q
def Dq(h:W (s ρ μ) λp=>p.1=b5/\W (t ρ p.2) T):W (k9 s t ρ μ) T:=ū.mpr<|bP h λp q=>by rw[if_neg<|by rw[q.1];show ø];show q.2
def aP{Q:jz}(h1:a ρ μ=b3 (x,c))(e:b ρ c=b3 (y,d))(k:W (h x y d) Q):W (aA h a b ρ μ) Q:=æ.mpr ⟨_,h1,_,e,k⟩
def aO{Q:jz}(k:W (a ρ μ) λp=>W (b ρ p.2) λq=>W (h p.1 q.1 q.2) Q):W (aA h a b ρ μ) Q:=æ.mpr k
abbrev eQ(p e:Int×Int):Int×Int:=
 if e.1%2=1 then(if e.1%4=e.2%4 then(p.2+(e.1-e.2),p.1-(e.1-e.2))else(e.1+e.2-p.2,e.1+e.2-p.1))else if e.2%4=0 then(p.1,2*e.2-p.2)else(2*e.1-p.1,p.2)
def YG p a b:eQ (eQ p (a,b)) (a,b)=p:=by let⟨x,y⟩:=p;ext eQ;dsimp;split<;>split<;>(show Ē ?_ ?_<;>dsimp<;>lia)
abbrev eK:D->Int×Int
 |.tup [.int x,.int y]=>(x,y)|_=>(0,0)
def uH p(l:jq):((l.map PP).filter λd=>p<|eK d).map (λd=>d)=(l.filter p).map PP:=by
 rw[OB];induction l with
 |nil=>rfl|cons a l b=>
  let e:(MK PP<|a::l).filter (λd=>p<|eK d)=if p a then PP a::(l.map PP).filter (λd=>p<|eK d)else(l.map PP).filter λd=>p (eK d):=by rw[ö,iy];rfl
  rw[e,b,iy];split<;>rfl
def wR{l:jq}(h:d∈l.map PP):∃x y,d=P x y:=by let⟨p,_,rfl⟩:=Õ.mp h;show⟨p.1,p.2,rfl⟩
def Ds{n:Nat}{i:Int}(h0:0<=i)(h:i<n):mH n i=b3 i.toNat:=by ext mH;rw[if_pos h0,if_pos h]
def JA{a:List Int}{i:Int}(h0:0<=i)(h:i<a.length):atI (a.map D.int) i=b3 (.int<|a.getD i.toNat 0):=by
 ext atI;rw[Ã,Ds h0 h,ē,ÿ];let hi:i.toNat<a.length:=()
 simp[ĭ,hi]
def JB{Q:jz}(h:atI xs i=b3 d):W (bF (.rol xs) (.int i) a) Q↔Q (d,a):=by
 have:bF (.rol xs) (.int i) a=b3 (d,a):=by dsimp[bF,kH,bO,ē,h,ė]
 rw[this];show À
abbrev nY:List Int->Int
 |[]=>0|g::r=>g-nY r
def YH{Q:jz}(d:a[b]?=b3 (.lst [])):W (aZ b5 (.rol<|ns.map D.int) (.loc b) a) Q↔Q (.bl<|ns==[],a):=by
 let h1:kI a (.rol<|ns.map D.int)=b3 (.lst<|ns.map D.int):=rfl;let c:kI a (.loc b)=b3 (.lst<|([]:List Int).map D.int):=by dsimp[kI,d];rfl
 have:eI 8 a (.rol<|ns.map D.int) (.loc b)=b3 (ns==[]):=by change(kI a<|.rol<|ns.map D.int).bind (λx=>(kI a<|.loc b).bind λy=>vC (eI 7 a) x y)=_;rw[h1,c];show Jg 6 a ns []
 ext aZ;rw[this];show À
structure Ly where
 a:Int
 b:Int
 c:Int
 d:Int
 e:Int
 g:Int
 deriving DecidableEq
noncomputable abbrev LD(A:Ly):D:=.tup [.int A.a,.int A.b,.int A.c,.int A.d,.int A.e,.int A.g]
abbrev Ě(A:Ly):Prop:=(A.b=0/\A.c=0/\(A.a=1\/A.a=-1)/\(A.d=1\/A.d=-1))\/(A.a=0/\A.d=0/\(A.b=1\/A.b=-1)/\(A.c=1\/A.c=-1))
def Ě.sm(h:Ě A):(-1<=A.a/\A.a<=1)/\(-1<=A.b/\A.b<=1)/\(-1<=A.c/\A.c<=1)/\(-1<=A.d/\A.d<=1):=by
 let z:∀{x:Int},x=0->-1<=x/\x<=1:=λe=>e▸by decide
 let o:∀{x:Int},x=1\/x=-1->-1<=x/\x<=1:=λe=>by rcases e with e|e<;>ext e<;>decide
 show h.elim (λ⟨b,c,a,d⟩=>⟨o a,z b,z c,o d⟩) λ⟨a,d,b,c⟩=>⟨z a,o b,o c,z d⟩
abbrev aC(A:Ly)(p:Int×Int):Int×Int:=(A.a*p.1+A.b*p.2+A.e,A.c*p.1+A.d*p.2+A.g)
abbrev c9(A B:Ly):Ly:=⟨B.a*A.a+B.b*A.c,B.a*A.b+B.b*A.d,B.c*A.a+B.d*A.c,B.c*A.b+B.d*A.d,B.a*A.e+B.b*A.g+B.e,B.c*A.e+B.d*A.g+B.g⟩
abbrev Dt(A:Ly):Ly:=⟨A.a,A.c,A.b,A.d,-(A.a*A.e+A.c*A.g),-(A.b*A.e+A.d*A.g)⟩
abbrev fA:Ly:=⟨1,0,0,1,0,0⟩
abbrev fV(e:Int×Int):Ly:=
 ⟨(eQ (1,0) e).1-(eQ (0,0) e).1,(eQ (0,1) e).1-(eQ (0,0) e).1,(eQ (1,0) e).2-(eQ (0,0) e).2,(eQ (0,1) e).2-(eQ (0,0) e).2,(eQ (0,0) e).1,(eQ (0,0) e).2⟩
abbrev dZ(A:Ly):Int:=A.a*A.d-A.b*A.c
def Ly.ext'{A:Ly}(h1:A.a=B.a)(a:A.b=B.b)(b:A.c=B.c)(c:A.d=B.d)(d:A.e=B.e)(e:A.g=B.g):A=B:=by ext A;ext B;simp_all
def JD(a b d:Int):a+d-(b+d)=a-b:=()
def JE(a b d:Int):a-d-(b-d)=a-b:=()
def qN(a b d:Int):d-a-(d-b)=b-a:=()
def JG e:Ě (fV e):=by
 ext fV eQ;split<;>split
 .show .inr ⟨JD 0 0 _,JE 0 0 _,.inl<|JD 1 0 _,.inl<|JE 1 0 _⟩
 .show .inr ⟨qN 0 0 _,qN 0 0 _,.inr<|qN 1 0 _,.inr<|qN 1 0 _⟩
 .show .inl ⟨rfl,qN 0 0 _,.inl rfl,.inr<|qN 1 0 _⟩
 .show .inl ⟨qN 0 0 _,rfl,.inr<|qN 1 0 _,.inl rfl⟩
def Du e:dZ (fV e)=-1:=by
 let h:=JG e;let⟨x,y⟩:=e;unfold dZ fV eQ;dsimp;split<;>split<;>dsimp
 .rw[show(0:Int)+(x-y)-(0+(x-y))=0 by lia,show(1:Int)+(x-y)-(0+(x-y))=1 by lia,show(1:Int)-(x-y)-(0-(x-y))=1 by lia,show(0:Int)-(x-y)-(0-(x-y))=0 by lia];rfl
 .rw[show x+y-0-(x+y-0)=0 by lia,show x+y-1-(x+y-0)=-1 by lia];rfl
 .rw[show(1:Int)-0=1 by rfl,show 2*y-1-(2*y-0)=-1 by lia,show(0:Int)-0=0 by rfl,show 2*y-0-(2*y-0)=0 by lia];rfl
 .rw[show 2*x-1-(2*x-0)=-1 by lia,show(1:Int)-0=1 by rfl,show 2*x-0-(2*x-0)=0 by lia,show(0:Int)-0=0 by rfl];rfl
def kQ e p:aC (fV e) p=eQ p e:=by
 let⟨x,y⟩:=e;let⟨u,v⟩:=p;unfold aC fV eQ;dsimp;split<;>split<;>dsimp
 .rw[show(0:Int)+(x-y)-(0+(x-y))=0 by lia,show(1:Int)+(x-y)-(0+(x-y))=1 by lia,show(1:Int)-(x-y)-(0-(x-y))=1 by lia,show(0:Int)-(x-y)-(0-(x-y))=0 by lia];show Ē ?_ ?_<;>dsimp<;>lia
 .rw[show x+y-0-(x+y-0)=0 by lia,show x+y-1-(x+y-0)=-1 by lia];show Ē ?_ ?_<;>dsimp<;>lia
 .rw[show(1:Int)-0=1 by rfl,show 2*y-1-(2*y-0)=-1 by lia,show(0:Int)-0=0 by rfl,show 2*y-0-(2*y-0)=0 by lia];show Ē ?_ ?_<;>dsimp<;>lia
 .rw[show 2*x-1-(2*x-0)=-1 by lia,show(1:Int)-0=1 by rfl,show 2*x-0-(2*x-0)=0 by lia,show(0:Int)-0=0 by rfl];show Ē ?_ ?_<;>dsimp<;>lia
def jY A B p:aC (c9 A B) p=aC B (aC A p):=by ext aC c9;show Ē ?_ ?_<;>dsimp<;>grind
def Ao A B:dZ (c9 A B)=dZ A*dZ B:=by ext dZ c9;dsimp;grind
def YI A:c9 A fA=A:=by ext c9 fA;show Ly.ext' (by dsimp;lia) (by dsimp;lia) (by dsimp;lia) (by dsimp;lia) (by dsimp;lia)<|by dsimp;lia
def YJ A:c9 fA A=A:=by ext c9 fA;show Ly.ext' (by dsimp;lia) (by dsimp;lia) (by dsimp;lia) (by dsimp;lia) (by dsimp;lia)<|by dsimp;lia
def Ap A B E:c9 (c9 A B) E=c9 A (c9 B E):=by ext c9;show Ly.ext' ?_ ?_ ?_ ?_ ?_ ?_<;>dsimp<;>grind
def JH:Ě fA:=.inl ⟨rfl,rfl,.inl rfl,.inl rfl⟩
def Dv(h:Ě A):∃e g,A=⟨1,0,0,1,e,g⟩\/A=⟨1,0,0,-1,e,g⟩\/A=⟨-1,0,0,1,e,g⟩\/A=⟨-1,0,0,-1,e,g⟩\/A=⟨0,1,1,0,e,g⟩\/A=⟨0,1,-1,0,e,g⟩\/A=⟨0,-1,1,0,e,g⟩\/A=⟨0,-1,-1,0,e,g⟩:=by
 let⟨a,b,c,d,e,g⟩:=A;show⟨e,g,?_⟩;rcases h with⟨h1,k,i,j⟩|⟨h1,k,i,j⟩<;>ext h1<;>ext k
 .rcases i with i|i<;>rcases j with j|j<;>ext i<;>ext j
  .show .inl rfl
  .show .inr<|.inl rfl
  .show .inr<|.inr<|.inl rfl
  .show .inr<|.inr<|.inr<|.inl rfl
 .rcases i with i|i<;>rcases j with j|j<;>ext i<;>ext j
  .show .inr<|.inr<|.inr<|.inr<|.inl rfl
  .show .inr<|.inr<|.inr<|.inr<|.inr<|.inl rfl
  .show .inr<|.inr<|.inr<|.inr<|.inr<|.inr<|.inl rfl
  .show .inr<|.inr<|.inr<|.inr<|.inr<|.inr<|.inr rfl
def qO(a:x=1\/x=-1)(b:y=1\/y=-1):x*y=1\/x*y=-1:=by rcases a with rfl|rfl<;>rcases b with rfl|rfl<;>decide
def qP{x:Int}(h:x=0\/y=0)(k:z=0\/t=0):x*y+z*t=0:=by rw[iw.mpr h,iw.mpr k];rfl
def Aq(k:z=0\/t=0)(h:x*y=1\/x*y=-1):x*y+z*t=1\/x*y+z*t=-1:=by rw[iw.mpr k,yr];show h
def Ar(k:x=0\/y=0)(h:z*t=1\/z*t=-1):x*y+z*t=1\/x*y+z*t=-1:=by rw[iw.mpr k,OJ];show h
def Dw(hA:Ě A)(hB:Ě B):Ě (c9 A B):=by
 rcases hA with⟨a,b,c,d⟩|⟨a,b,c,d⟩<;>rcases hB with⟨u,v,w,x⟩|⟨u,v,w,x⟩
 .show .inl ⟨qP (.inr a)<|.inl u,qP (.inl v)<|.inr b,Aq (.inl u)<|qO w c,Ar (.inl v)<|qO x d⟩
 .show .inr ⟨qP (.inl u)<|.inr b,qP (.inr a)<|.inl v,Ar (.inl u)<|qO w d,Aq (.inl v)<|qO x c⟩
 .show .inr ⟨qP (.inr a)<|.inl u,qP (.inl v)<|.inr b,Aq (.inl u)<|qO w c,Ar (.inl v)<|qO x d⟩
 .show .inl ⟨qP (.inl u)<|.inr b,qP (.inr a)<|.inl v,Ar (.inl u)<|qO w d,Aq (.inl v)<|qO x c⟩
def JI(hA:Ě A)p:aC (Dt A) (aC A p)=p:=by let⟨e,g,h⟩:=Dv hA;rcases h with rfl|rfl|rfl|rfl|rfl|rfl|rfl|rfl<;>(show Ē ?_ ?_<;>dsimp only[aC,Dt]<;>lia)
def Dx(h:∀p,aC A p=aC B p):A=B:=by let h0:=h (0,0);let h1:=h (1,0);let a:=h (0,1);unfold aC at h0 h1 a;dsimp[OW]at h0 h1 a;show Ly.ext' () () () () () ()
def Au p:aC fA p=p:=by ext aC fA;show Ē ?_ ?_<;>dsimp<;>lia
def Dy:([a,b,c,d,e,g]:List D).length<=Ò:=by change(6:Nat)<=Ò;decide
def l6(h:-1<=i/\i<=1){Q:jz}:W (b7 (.int i) (.int j) a) Q↔Q (.int<|i*j,a):=pH<|.inl ⟨(),()⟩
def JJ{Q:jz}(h0:bF A (.int c0) c=b3 (.int a,c))(h1:bF A (.int c1) c=b3 (.int b,c))(k:bF A (.int h) c=b3 (.int e,c))(g:aE n d c=b3 (A,c))(hi:aE i d c=b3 (.int x,c))(q:aE j d c=b3 (.int y,c))(o:-1<=a/\a<=1)(p:-1<=b/\b<=1)(H:Q (.int<|a*x+b*y+e,c)):
  W (aA bI (aA bI (aA b7 (aA bF (aE n)<|mC<|.int c0)<|aE i)<|aA b7 (aA bF (aE n)<|mC<|.int c1)<|aE j) (aA bF (aE n)<|mC<|.int h) d c) Q:=
 aO<|aO<|aO<|aP g rfl ⟨_,h0,_,hi,(l6 o).mpr<|aO<|aP g rfl ⟨_,h1,_,q,(l6 p).mpr<|Û.mpr<|aP g rfl ⟨_,k,Û.mpr H⟩⟩⟩
def JK k A(hA:Ě A)x y a(Q:jz):W (f (k+1) "led" [LD A,P x y] a) Q↔Q (PP<|aC A (x,y),a):=by
 let⟨h1,b,c,d⟩:=hA.sm;show YB <|
  Ð (XF k _ _ a)<|bD ⟨_,rfl,bD ⟨_,rfl,cI<|â.mpr<|aQ<|JJ rfl rfl rfl rfl rfl rfl h1 b<|aQ<|JJ rfl rfl rfl rfl rfl rfl c d ⟨_,rfl,gN,rfl⟩⟩⟩
def YK k A(hA:Ě A)a(Q:jz):W (f (k+1) "is_turned" [LD A] a) Q↔Q (.bl<|dZ A==-1,a):=by let⟨h1,b,c,d⟩:=hA.sm;rw[XG,ß];dsimp[Ï,æ,cE,eX,Jc,W5,W6,W7,W8,l6 h1,l6 b,Ū,û];rfl
abbrev nB(lo:Int)(n m:Nat):jq:=(ą n).flatMap λ(i:Nat)=>(ą m).map λ(j:Nat)=>(lo+(i:Int),lo+(j:Int))
abbrev nC(lo x:Int)(m:Nat):jq:=(ą m).map λ(j:Nat)=>(x,lo+(j:Int))
def JM lo n m:nB lo (n+1) m=nB lo n m++nC lo (lo+(n:Int)) m:=by ext nB nC;rw[N1,vd];simp
def JN lo x m:nC lo x (m+1)=nC lo x m++[(x,lo+(m:Int))]:=by ext nC;rw[N1,ă];rfl
def JO lo x m:(nC lo x m).length=m:=by ext nC;simp
def JP lo m:∀n,(nB lo n m).length=n*m
 |0=>by simp[nB]
 |n+1=>by rw[JM,ć,JP lo m n,JO,O4]
def JQ{b:Hm}:(b.set a c).set a c'=b.set a c':=QM ..
def cS{b:Hm}(h:b[a]?=b3 c):(b.set a c')[a]?=b3 c':=by rw[ϡ (ä.mp h).1]
def Dz(a:Hm)(c c':C):(a++[c]).set a.length c'=a++[c']:=by rw[PB _ _<|Ø _];simp
def DA{b:Hm}(h:b[a]?=b3 c):b.set a c=b:=by let⟨d,rfl⟩:=ä.mp h;show List.set_getElem_self d
noncomputable abbrev JR:MS:=dW<|d9 eV (aE 2)<|aB (cN<|aB (aE 3)<|aB (aE 4) aF) aF
def YL T(c:Int->Int->Bool)e g a x(s:∀y b Q,W (T [b3 e,b3 g,b3<|.loc a,b3<|.int x,b3<|.int y] b) Q↔Q (c x y,b))lo m(ps:jq)(u:ps.length+m<=1000)b(h:b[a]?=b3 (.lst<|ps.map PP))o Q(d:∀o,Q (.nx,[b3 e,b3 g,b3<|.loc a,b3<|.int x,o],b.set a<|.lst<|(ps++(nC lo x m).filter λp=>c p.1 p.2).map PP)):W (fP (kL lo m) (cL 4) (bK T JR bV) (m+1) 0 [b3 e,b3 g,b3<|.loc a,b3<|.int x,o] b) Q:=by
 show qM (λi n j=>i<=m/\j=b.set a (.lst<|(ps++(nC lo x i).filter λp=>c p.1 p.2).map PP)/\∃o,n=[b3 e,b3 g,b3<|.loc a,b3<|.int x,o]) ⟨ĸ _,?_,o,rfl⟩ ?_ ?_
 .dsimp[nC,Q9,ϴ,yz,ŉ];show(DA h).symm
 .rintro i n k hi ⟨_,rfl,o,rfl⟩;show⟨_,rfl,?_⟩;dsimp[Λ,δ,Ñ];rw[s];cases q:c x (lo+(i:Int))with
  |false=>dsimp[ŀ,if_false,Ì];show⟨hi,?_,_,rfl⟩;rw[JN,Ϡ];simp[q]|true=>
   dsimp[if_true,í];show jE ?_;dsimp[cE,cY];show⟨iF<|cS h,?_⟩;dsimp[Ë,dR,â,cE,cY,gN,true_and];show(mW (cS h) ?_).mpr ?_
   .have:=Ž (λp=>c p.1 p.2)<|nC lo x i;rw[JO]at this;rw[Ã,ć,ò];lia
   show⟨hi,?_,_,rfl⟩;rw[JQ,JN,Ϡ];simp[q,PP,P]
 .rintro n k ⟨_,rfl,o,rfl⟩;show d o
def JS T(e:Int->Int->Bool)c d a(s:MI)lo m(hit:∀o1 o2 b Q,W (s [b3 c,b3 d,b3<|.loc a,o1,o2] b) Q↔Q (kL lo m,m+1,b))(u:∀x y b Q,W (T [b3 c,b3 d,b3<|.loc a,b3<|.int x,b3<|.int y] b) Q↔Q (e x y,b))n(w:n*m+m<=900)b(q:b[a]?=b3 (.lst []))Q(g:∀o1 o2,Q (.nx,[b3 c,b3 d,b3<|.loc a,o1,o2],b.set a<|.lst<|((nB lo n m).filter λp=>e p.1 p.2).map PP)):W (fP (kL lo n) (cL 3) (b9 s (cL 4)<|bK T JR bV) (n+1) 0 [b3 c,b3 d,b3<|.loc a,b4,b4] b) Q:=by
 show qM (λi k h=>i<=n/\h=b.set a (.lst<|((nB lo i m).filter λp=>e p.1 p.2).map PP)/\∃o1 o2,k=[b3 c,b3 d,b3<|.loc a,o1,o2]) ⟨ĸ _,?_,b4,b4,rfl⟩ ?_ ?_
 .dsimp[nB,Q9,Qx,yz,ϴ];show(DA q).symm
 .rintro i k j hi ⟨_,rfl,o1,o2,rfl⟩;show⟨_,rfl,?_⟩;dsimp[Λ,δ,É];rw[hit];show YL T e c d a _ (u _) lo m _ ?_ _ (cS q) _ _ λo=>?_
  .let h1:=Ž (λp=>e p.1 p.2)<|nB lo i m;rw[JP]at h1;let v:i*m<=n*m:=Nat.mul_le_mul_right _<|Rr hi;lia
  .show⟨hi,?_,_,_,rfl⟩;rw[JQ,JM,Ϡ]
 .rintro k j ⟨_,rfl,o1,o2,rfl⟩;show g o1 o2
abbrev aV(p:Int×Int):List Int:=[p.1,p.2]
def DB{a:Type}l(d:a):(ą l.length).map (λi=>l.getD i d)=l:=by show Oh ∅ λi h1 b=>?_;simp[ĭ,b]
def nD{es:jq}{i:Nat}(h:(es.map PP)[i]?=b3 d):∃p,es[i]?=b3 p/\d=PP p:=by rw[ÿ]at h;let⟨p,h1,a⟩:=ì.mp h;show⟨p,h1,a.symm⟩
def b8 q:dP (PP q)=b3 (aV q):=rfl
def Av(nd:(l.map (·.1)).Nodup)(h:(k,d)∈l):a9 l k=b3 d:=by
 induction l with
 |nil=>ext h|cons p l a=>
  rw[ö,ő]at nd;ext a9;rw[ų];rcases Č.mp h with h|h
  .rw[<- h];simp
  .have:decide (p.1=k)=false:=decide_eq_false λz=>nd.1<|Õ.mpr ⟨_,h,z.symm⟩;rw[this];show a nd.2 h
def kR(h:aV p=aV q):p=q:=by unfold aV at h;injection h with h1 h2;injection h2 with h2;show Ē h1 h2
def Ŕ:W (dB [i1,i2,i3,h,i,j] (.tup [a,b,c,d,e,g]) k n) Q↔Q ((((((k.set i1<|b3 a).set i2<|b3 b).set i3<|b3 c).set h<|b3 d).set i<|b3 e).set j<|b3 g):=À
noncomputable abbrev Gr:=List<|(Int×Int)×jq
abbrev fW(G:Gr)(p q:Int×Int):Gr:=if(G.map (·.1)).contains p then G.map (λg=>if g.1=p then(g.1,g.2++[q])else g)else G++[(p,[q])]
noncomputable abbrev Zr:=List<|(Int×Int)×jq×Nat
abbrev GZ(Z:Zr):Gr:=Z.map λz=>(z.1,z.2.1)
abbrev bA(Z:Zr):jx:=Z.map λz=>(aV z.1,D.loc z.2.2)
structure GI(μ0 μ:Hm)(a:Nat)(Z:Zr):Prop where
 pre:μ0<+:μ
 lo:μ0.length<=a
 dic:μ[a]?=b3 (.dT<|bA Z)
 kd:(Z.map (·.1)).Nodup
 bd:(Z.map (·.2.2)).Nodup
 at_:∀z∈Z,μ0.length<=z.2.2/\μ[z.2.2]?=b3 (.lst<|z.2.1.map PP)
def sN(d:(Z.map (·.1)).Nodup)(h:z∈Z):a9 (bA Z) (aV z.1)=b3 (.loc z.2.2):=by
 show Av ?_<|Õ.mpr ⟨z,h,rfl⟩;let e:(bA Z).map (·.1)=(Z.map (·.1)).map aV:=by ext bA;rw[å,å];rfl
 rw[e];show uq _ (λa b c x=>c<|kR x) d
def DC(h:p∉Z.map (·.1)):a9 (bA Z) (aV p)=none:=by
 ext a9;rw[Y0.mpr]
 .rfl
 .intro x a;let⟨z,b,rfl⟩:=Õ.mp a;rw[decide_eq_true_iff];show λe=>h<|Õ.mpr ⟨z,b,kR e⟩
def Aw{Z:Zr}(h:p∈Z.map (·.1)):∃z∈Z,z.1=p:=by let⟨z,h1,a⟩:=Õ.mp h;show⟨z,h1,a⟩
def YM{Z:Zr}(a:(Z.map (·.1)).Nodup)(hz:z∈Z)(b:y∈Z)(e:z.1=y.1):z=y:=by
 induction Z with
 |nil=>ext hz|cons x Z c=>
  rw[ö,ő]at a;rcases Č.mp hz with h1|h1<;>rcases Č.mp b with h2|h2
  .rw[h1,h2]
  .show(a.1<|Õ.mpr ⟨y,h2,by rw[<- h1];show e.symm⟩).elim
  .show(a.1<|Õ.mpr ⟨z,h1,by rw[<- h2];show e⟩).elim
  .show c a.2 h1 h2
def YN{Z:Zr}(a:(Z.map (·.2.2)).Nodup)(hz:z∈Z)(b:y∈Z)(e:z.2.2=y.2.2):z=y:=by
 induction Z with
 |nil=>ext hz|cons x Z c=>
  rw[ö,ő]at a;rcases Č.mp hz with h1|h1<;>rcases Č.mp b with h2|h2
  .rw[h1,h2]
  .show(a.1<|Õ.mpr ⟨y,h2,by rw[<- h1];show e.symm⟩).elim
  .show(a.1<|Õ.mpr ⟨z,h1,by rw[<- h2];show e⟩).elim
  .show c a.2 h1 h2
def l7 Z:(GZ Z).map (·.1)=Z.map (·.1):=by ext GZ;rw[å];rfl
def YO(h:p∈Z.map (·.1)):fW (GZ Z) p q=GZ (Z.map λz=>if z.1=p then(z.1,z.2.1++[q],z.2.2)else z):=by
 ext fW;rw[l7,if_pos<|ε.mpr h];ext GZ;rw[å,å];show Ť λz _=>?_;change(if z.1=p then(z.1,z.2.1++[q])else(z.1,z.2.1))=_;by_cases e:z.1=p
 .simp[e]
 .simp[e]
def YQ(h:p∉Z.map (·.1)):fW (GZ Z) p q=GZ (Z++[(p,[q],b)]):=by ext fW;rw[l7,if_neg λz=>h<|ε.mp z];ext GZ;rw[ă];rfl
def GI.more{μ':Hm}(I:GI μ0 b a Z)(h:b<+:μ'):GI μ0 μ' a Z:=⟨I.pre.trans h,I.lo,aD h I.dic,I.kd,I.bd,λz hz=>⟨(I.at_ z hz).1,aD h (I.at_ z hz).2⟩⟩
def GI.ne(I:GI μ0 b a Z)(hz:z∈Z):z.2.2≠a:=λe=>by let h1:=(I.at_ z hz).2;rw[e,I.dic]at h1;ext h1
def GI.hit(I:GI μ0 c a Z)(hz:z∈Z)q:
  GI μ0 (c.set z.2.2<|.lst<|z.2.1.map PP++[PP q]) a (Z.map λy=>if y.1=z.1 then(y.1,y.2.1++[q],y.2.2)else y):=by
 let i:(Z.map λy=>if y.1=z.1 then(y.1,y.2.1++[q],y.2.2)else y).map (·.1)=Z.map (·.1):=by rw[å];show Ť λy _=>?_;change(if y.1=z.1 then(y.1,y.2.1++[q],y.2.2)else y).1=y.1;split<;>rfl
 let h:(Z.map λy=>if y.1=z.1 then(y.1,y.2.1++[q],y.2.2)else y).map (·.2.2)=Z.map (·.2.2):=by rw[å];show Ť λy _=>?_;change(if y.1=z.1 then(y.1,y.2.1++[q],y.2.2)else y).2.2=y.2.2;split<;>rfl
 let j:bA (Z.map λy=>if y.1=z.1 then(y.1,y.2.1++[q],y.2.2)else y)=bA Z:=by ext bA;rw[å];show Ť λy _=>?_;change(aV (if y.1=z.1 then(y.1,y.2.1++[q],y.2.2)else y).1,D.loc (if y.1=z.1 then(y.1,y.2.1++[q],y.2.2)else y).2.2)=_;split<;>rfl
 show⟨cX I.pre (I.at_ z hz).1 _,I.lo,?_,by rw[i];show I.kd,by rw[h];show I.bd,λy k=>?_⟩
 .rw[j,ô<|I.ne hz];show I.dic
 .let⟨x,b,rfl⟩:=Õ.mp k;let⟨d,g⟩:=I.at_ x b;by_cases e:x.1=z.1
  .have:x=z:=YM I.kd b hz e;subst this;rw[if_pos rfl];show⟨d,?_⟩;change(c.set x.2.2 _)[x.2.2]?=_;rw[cS g,ă];rfl
  .rw[if_neg e];show⟨d,?_⟩;rw[ô λw=>e<|by rw[YN I.bd b hz w.symm]];show g
def JT(h:p∉Z.map (·.1)):cC (bA Z) (aV p) (.loc b)=bA (Z++[(p,qs,b)]):=by ext cC;rw[DC h,if_neg ∅];ext bA;rw[ă];rfl
def GI.new(I:GI μ0 j a Z)(k:p∉Z.map (·.1))(h:j[b]?=b3 (.lst<|qs.map PP))(h0:μ0.length<=b)(o:∀z∈Z,z.2.2≠b):
  GI μ0 (j.set a<|.dT<|cC (bA Z) (aV p)<|.loc b) a (Z++[(p,qs,b)]):=by
 let i:b≠a:=λe=>by rw[e,I.dic]at h;ext h
 show⟨cX I.pre I.lo _,I.lo,by rw[cS I.dic,JT k],?_,?_,λz c=>?_⟩
 .rw[ă,Ϻ];show⟨I.kd,∅,λx g y d e=>by
   dsimp[ö,ϴ,Ĕ]at d;rw[e,d]at g;show k g⟩
 .rw[ă,Ϻ];show⟨I.bd,∅,λx g y d e=>by
   dsimp[ö,ϴ,Ĕ]at d;let⟨z,c,n⟩:=Õ.mp g;show o z c<|by rw[n,e,d]⟩
 .rcases ĩ.mp c with c|c
  .rw[ô<|ð<|I.ne c];show I.at_ z c
  .rw[Ĕ.mp c];show⟨h0,by rw[ô<|ð i];show h⟩
def YR(h:p∈Z.map (·.1))(d:(Z.map (·.1)).Nodup):cC (bA Z) (aV p) (.loc b)=bA (Z.map λy=>if y.1=p then(y.1,qs,b)else y):=by
 let⟨z,c,e⟩:=Aw h;ext cC;rw[<- e,sN d c,Option.isSome_some,if_pos rfl];ext bA;rw[å,å];show Ť λy _=>?_;change(if aV y.1=aV z.1 then(aV y.1,D.loc b)else(aV y.1,D.loc y.2.2))=(aV (if y.1=z.1 then(y.1,qs,b)else y).1,D.loc (if y.1=z.1 then(y.1,qs,b)else y).2.2);by_cases a:y.1=z.1
 .rw[if_pos<|by rw[a],if_pos a]
 .rw[if_neg λw=>a<|kR w,if_neg a]
def vL:∀a b c,HT.lexLt a b=dI->HT.lexLt b c=dI->HT.lexLt a c=dI
 |[],[],_,h,_=>by ext h
 |[],_::_,[],_,h=>by ext h
 |[],_::_,_::_,_,_=>rfl|_::_,[],_,h,_=>by ext h
 |_::_,_::_,[],_,h=>by ext h
 |x::xs,y::ys,z::zs,h1,d=>by
  rw[HT.lexLt_cons]at h1 d ⊢;by_cases g:x=y
  .subst g;rw[if_pos rfl]at h1;by_cases e:x=z
   .rw[if_pos e]at d ⊢;show vL xs ys zs h1 d
   .rw[if_neg e]at d ⊢;show d
  .rw[if_neg g]at h1;let h1:=of_decide_eq_true h1;by_cases e:y=z
   .subst e;rw[if_neg g];show decide_eq_true h1
   .rw[if_neg e]at d;let d:=of_decide_eq_true d;rw[if_neg ()];show decide_eq_true ()
def vK:∀k,HT.lexLt k k=b5
 |[]=>rfl|a::k=>by rw[HT.lexLt_cons,if_pos rfl];show vK k
def YS{kvs:jx}{Q:jz}(h:b[a]?=b3 (.dT kvs))(h1:kvs.length<64)(c:∀p∈kvs,p.1≠[]):W (qI [.loc a] b) Q↔Q (.loc b.length,b++[.lst<|(oV kvs).map λk=>D.tup<|k.1.map D.int]):=by dsimp[qI,h];rw[if_pos ⟨h1,c⟩];show À
def JU{f:D->List D->Hm->jk}{Q:jz}(h:W (b a d) λp=>qD p.2 p.1=dI/\W (c a p.2) λq=>W (f p.1 q.1 q.2) Q):W (fR f b c a d) Q:=by ext fR;rw[Ä];show bP h λp q=>?_;rw[q.1];show Ä.mpr q.2
def JV{kvs:jx}(h:b[a]?=b3 (.dT kvs)):qD b (.loc a)=true:=by dsimp[qD,h]
abbrev YT(a:Nat)(Z:Zr)(b μ':Hm):Prop:=∀c x,b[c]?=b3 x->c≠a->(∀z∈Z,z.2.2≠c)->μ'[c]?=b3 x
def YU{Z:Zr}{b:Nat}(h:p∉Z.map (·.1)):((Z++[(p,[],b)]:Zr).map λy=>if y.1=p then(y.1,y.2.1++[q],y.2.2)else y)=Z++[(p,[q],b)]:=by
 rw[ă];have:(Z.map λy=>if y.1=p then(y.1,y.2.1++[q],y.2.2)else y)=Z:=by let e:(Z.map λy=>if y.1=p then(y.1,y.2.1++[q],y.2.2)else y)=Z.map id:=Ť λy a=>if_neg λe=>h<|Õ.mpr ⟨y,a,e⟩;rw[e,MN]
 rw[this];simp
def nZ Z:(bA Z).length=Z.length:=Ã ..
def YV(I:GI μ0 b a Z)p q(J:Z.length<1000)(E:∀z∈Z,z.2.1.length<1000)(Q:jz)(H:∀n h,GI μ0 h a n->GZ n=fW (GZ Z) p q->YT a Z b h->(∀z∈n,(∃y∈Z,y.2.2=z.2.2)\/b.length<=z.2.2)->Q (.non,h)):
  W (jV (.loc a) [PP p,.loc b.length]<|b++[.lst []]) λr=>rR r.2 r.1=dI/\W (eV r.1 [PP q] r.2) Q:=by
 let i:=I.more<|aR b<|C.lst [];let B:=bE b<|C.lst [];let h0:μ0.length<=b.length:=I.pre.length_le;let old:∀z∈Z,z.2.2<b.length:=λz d=>(ä.mp (I.at_ z d).2).1;let K:a<b.length:=(ä.mp I.dic).1;let k:∀c x,b[c]?=b3 x->(b++[C.lst []])[c]?=b3 x:=λc x e=>aD (aR _ _) e;by_cases j:p∈Z.map (·.1)
 .let⟨z,d,rfl⟩:=Aw j;dsimp[jV,i.dic,b8,ē,sN I.kd d];show À.mpr ⟨iF (i.at_ z d).2,(mW (i.at_ z d).2<|by rw[Ã,ò];have:=E z d;lia).mpr ?_⟩;show H _ _ (i.hit d q) (YO j).symm (λc x e h1 w=>?_) λy g=>?_
  .rw[ô<|w z d];show k c x e
  .let⟨x,G,rfl⟩:=Õ.mp g;show .inl ⟨x,G,?_⟩;split<;>rfl
 .let o:(bA Z).length<Ò:=by rw[nZ,ò];lia
  dsimp[jV,i.dic,b8,ē,DC j,if_pos o];let s:=i.new j (qs:=[]) (b:=b.length) B h0 λz d=>Ā<|old z d;let A:(p,([]:jq),b.length)∈Z++[(p,[],b.length)]:=ĩ.mpr<|.inr<|Ĕ.mpr rfl;let v:=(s.at_ _ A).2;show À.mpr ⟨iF v,(mW v<|by rw[Ã,ò];change(0:Nat)<_;decide).mpr ?_⟩;let u:=s.hit A q;rw[YU j]at u;show H _ _ u (YQ j).symm (λc x e h1 w=>?_) λy g=>?_
  .let hc:c<b.length:=(ä.mp e).1;rw[ô<|by change b.length≠c;lia,ô<|ð h1];show k c x e
  .rcases ĩ.mp g with g|g
   .show .inl ⟨y,g,rfl⟩
   .rw[Ĕ.mp g];show .inr<|Ø _
abbrev l8(g:Int×Int->Int×Int)(qs:jq):Gr:=qs.foldl (λG q=>fW G (g q) q) []
def YW{qs:jq}(h:qs[i]?=b3 q):l8 g (qs.take<|i+1)=fW (l8 g<|qs.take i) (g q) q:=by ext l8;rw[RF,h,Oa];rfl
def YX G p q:(fW G p q).length<=G.length+1:=by ext fW;split<;>simp
def YY(h:∀g∈G,g.2.length<=n):∀g∈fW G p q,g.2.length<=n+1:=by
 intro g a;unfold fW at a;split at a
 .let⟨x,b,rfl⟩:=Õ.mp a;have:=h x b;split
  .simp;lia
  .lia
 .rcases ĩ.mp a with a|a
  .have:=h g a;lia
  .rw[Ĕ.mp a];simp
def JW g qs:(l8 g qs).length<=qs.length/\∀x∈l8 g qs,x.2.length<=qs.length:=by
 suffices ∀(qs:jq)(G:Gr)(n:Nat),G.length<=n->(∀x∈G,x.2.length<=n)->(qs.foldl (λG q=>fW G (g q) q) G).length<=n+qs.length/\∀x∈qs.foldl (λG q=>fW G (g q) q) G,x.2.length<=n+qs.length by have:=this qs [] 0 (Ø _) λx b=>nomatch b;ext l8;apply this
 intro qs;induction qs with
 |nil=>show λG n h1 a=>⟨h1,a⟩|cons q qs c=>intro G n h1 a;have:=c (fW G (g q) q) (n+1) (by have:=YX G (g q) q;lia)<|YY a;rw[Ŋ,show n+(qs.length+1)=n+1+qs.length by lia];show this
def jI Z:(GZ Z).length=Z.length:=Ã ..
def YZ(e:GZ Z=G)(h:G.length<=n/\∀x∈G,x.2.length<=n):Z.length<=n/\∀z∈Z,z.2.1.length<=n:=by subst e;show⟨by rw[<- jI];show h.1,λz a=>h.2 (z.1,z.2.1)<|Õ.mpr ⟨z,a,rfl⟩⟩
abbrev cV(k:Int)(p:Int×Int):Int:=if k=0 then p.2 else if k=1 then p.1 else if k=2 then p.1-p.2 else p.1+p.2
abbrev bS(k n:Int):Ly:=if k=0 then⟨1,0,0,-1,0,2*n⟩else if k=1 then⟨-1,0,0,1,2*n,0⟩else if k=2 then⟨0,1,1,0,n,-n⟩else⟨0,-1,-1,0,n,n⟩
def wU k n:Ě (bS k n):=by
 ext bS;split
 .show .inl ⟨rfl,rfl,.inl rfl,.inr rfl⟩
 split
 .show .inl ⟨rfl,rfl,.inr rfl,.inl rfl⟩
 split
 .show .inr ⟨rfl,rfl,.inl rfl,.inl rfl⟩
 .show .inr ⟨rfl,rfl,.inr rfl,.inr rfl⟩
def wV k n p:aC (bS k n) (aC (bS k n) p)=p:=by
 let⟨x,y⟩:=p;ext bS aC;split
 .show Ē ?_ ?_<;>dsimp<;>lia
 split
 .show Ē ?_ ?_<;>dsimp<;>lia
 split
 .show Ē ?_ ?_<;>dsimp<;>lia
 .show Ē ?_ ?_<;>dsimp<;>lia
abbrev bW(G:Gr)(p:Int×Int):jq:=match G.find? (λg=>decide<|g.1=p)with|some g=>g.2|none=>[]
abbrev fX(G:Gr)(p:Int×Int)(L:jq):Gr:=if(G.map (·.1)).contains p then G.map (λg=>if g.1=p then(g.1,L)else g)else G++[(p,L)]
def Ax p:bW [] p=[]:=rfl
def jJ g(G:Gr)p:bW (g::G) p=if g.1=p then g.2 else bW G p:=by
 ext bW;rw[ų];by_cases e:g.1=p
 .rw[if_pos e,decide_eq_true e]
 .rw[if_neg e,decide_eq_false e]
def jZ(a:(G.map (·.1)).Nodup)(h:g∈G):bW G g.1=g.2:=by
 induction G with
 |nil=>ext h|cons x G b=>
  rw[ö,ő]at a;rw[jJ];rcases Č.mp h with rfl|h
  .show if_pos rfl
  .rw[if_neg λe:x.1=g.1=>a.1<|by rw[e];show Õ.mpr ⟨g,h,rfl⟩,b a.2 h]
def pK(h:p∉G.map (·.1)):bW G p=[]:=by
 induction G with
 |nil=>rfl|cons x G a=>rw[ö,Č,not_or]at h;rw[jJ,if_neg λe=>h.1 e.symm,a h.2]
def JX(h:p∉G.map (·.1)):bW (G++K) p=bW K p:=by
 induction G with
 |nil=>rfl|cons x G a=>rw[ö,Č,not_or]at h;rw[ϥ,jJ,if_neg λe=>h.1 e.symm,a h.2]
def ŷ(h:p∈G.map (·.1)):bW (G++K) p=bW G p:=by
 induction G with
 |nil=>ext h|cons x G a=>
  rw[ϥ,jJ,jJ];by_cases e:x.1=p
  .rw[if_pos e,if_pos e]
  .rw[if_neg e,if_neg e];rw[ö,Č]at h;show a<|h.resolve_left λw=>e w.symm
def JY G p L:(fX G p L).map (·.1)=if(G.map (·.1)).contains p then G.map (·.1)else G.map (·.1)++[p]:=by
 ext fX;split
 .rw[å];show Ť λg _=>?_;change(if g.1=p then(g.1,L)else g).1=g.1;split<;>rfl
 .rw[ă];rfl
def JZ(a:(G.map (·.1)).Nodup):((fX G p L).map (·.1)).Nodup:=by
 rw[JY];split
 .show a
 .rename_i h;rw[Ϻ];show⟨a,∅,λx b y c e=>h<|ε.mpr<|by rw[Ĕ.mp c]at e;show e▸b⟩
def ϫ:q∈(fX G p L).map (·.1)↔q∈G.map (·.1)\/q=p:=by
 rw[JY];split
 .rename_i h;show⟨.inl,λz=>z.elim id λe=>e▸ε.mp h⟩
 .rw[ĩ,Ĕ]
def Ay G p q L:bW (fX G p L) q=if q=p then L else bW G q:=by
 ext fX;split
 .rename_i h;let h:=ε.mp h;induction G with
  |nil=>ext h|cons x G d=>
   rw[ö,jJ,jJ];by_cases e:x.1=p
   .rw[if_pos e];by_cases a:q=p
    .rw[if_pos a,if_pos<|by rw[e,a]]
    .rw[if_neg a,if_neg<|by change ¬ x.1=q;rw[e];show λw=>a w.symm,if_neg<|by rw[e];show λw=>a w.symm];by_cases b:p∈G.map (·.1)
     .rw[d (ε.mpr b) b,if_neg a]
     .have:(G.map λg=>if g.1=p then(g.1,L)else g)=G:=by let w:(G.map λg=>if g.1=p then(g.1,L)else g)=G.map id:=Ť λg i=>if_neg λe=>b<|Õ.mpr ⟨g,i,e⟩;rw[w,MN]
      rw[this]
   .rw[if_neg e];rw[ö,Č]at h;let c:=h.resolve_left λw=>e w.symm;rw[d (ε.mpr c) c];by_cases a:x.1=q
    .rw[if_pos a,if_pos a,if_neg<|by rw[<- a];show e]
    .rw[if_neg a,if_neg a]
 .rename_i h;let h:p∉G.map (·.1):=λz=>h<|ε.mpr z;by_cases e:q=p
  .rw[if_pos e,e,JX h,jJ,if_pos rfl]
  .rw[if_neg e];by_cases b:q∈G.map (·.1)
   .show ŷ b
   .rw[JX b,jJ,if_neg λw=>e w.symm,Ax,pK b]
def Y2(h:bW G p≠[]):p∈G.map (·.1):=a9T λz=>h<|pK z
structure ī(qs:jq)(f:Int×Int->Int×Int)(G:Gr):Prop where
 kd:(G.map (·.1)).Nodup
 ne:∀g∈G,g.2≠[]
 pm:∀p,(bW G p).Perm (qs.filter λq=>decide<|f q=p)
def ī.key{f:Int×Int->Int×Int}(h:ī qs f G):p∈G.map (·.1)↔∃q∈qs,f q=p:=by
 constructor
 .intro c;let⟨g,b,rfl⟩:=Õ.mp c;let h1:=h.pm g.1;rw[jZ h.kd b]at h1;let⟨q,a⟩:=Ry _<|h.ne g b;have:=Ī.mp<|h1.mem_iff.mp a;show⟨q,this.1,of_decide_eq_true this.2⟩
 .rintro⟨q,a,rfl⟩;show Y2 λe=>?_;let h1:=h.pm<|f q;rw[e]at h1;have:q∈([]:jq):=h1.mem_iff.mpr<|Ī.mpr ⟨a,decide_eq_true rfl⟩;ext this
def J2{g:Type}a b(hd:∀x,a x=dI->b x=b5):∀l:List g,(l.filter λx=>a x||b x).Perm (l.filter a++l.filter b)
 |[]=>.nil|x::l=>by
  let e:=J2 a b hd l;cases c:a x with
  |true=>rw[cg<|by simp[c],cg c,WP<|by simp[hd x c]];show e.cons x|false=>
   cases d:b x with
   |true=>rw[cg<|by simp[d],WP<|by simp[c],cg d];show(e.cons x).trans List.perm_middle.symm|false=>rw[WP<|by simp[c,d],WP<|by simp[c],WP<|by simp[d]];show e
abbrev l9(mv:Int×Int->Bool)(G:Gr):Gr:=G.filter λg=>!mv g.1
abbrev iH(mv:Int×Int->Bool)(M:Int×Int->Int×Int)(G:Gr):Gr:=(G.filter λg=>mv g.1).map λg=>(M g.1,g.2.reverse)
abbrev iU(a:Bool)(S:Gr)(g:(Int×Int)×jq):Gr:=fX S g.1<|if a then bW S g.1++g.2 else g.2++bW S g.1
abbrev sO(mv:Int×Int->Bool)(M:Int×Int->Int×Int)(a:Bool)(G:Gr):Gr:=(iH mv M G).foldl (iU a)<|l9 mv G
def DD p:∀G,bW (l9 mv G) p=if mv p then[]else bW G p
 |[]=>by cases mv p<;>rfl
 |g::G=>by
  let a:=DD (mv:=mv) p G;unfold l9 at a ⊢;rw[jJ];cases h:mv g.1 with
  |true=>
   rw[WP<|by simp[h],a];by_cases e:g.1=p
   .rw[<- e,h];rfl
   .rw[if_neg e]
  |false=>
   rw[cg<|by simp[h],jJ];by_cases e:g.1=p
   .rw[if_pos e,if_pos e,<- e,h];rfl
   .rw[if_neg e,if_neg e,a]
def DE(a:∀p,M (M p)=p)p:∀G,bW (iH mv M G) p=if mv (M p)then(bW G<|M p).reverse else[]
 |[]=>by cases mv (M p)<;>rfl
 |g::G=>by
  let b:=DE (mv:=mv) a p G;unfold iH at b ⊢;rw[jJ];let hi:M g.1=p↔g.1=M p:=⟨λe=>by rw[<- e,a],λe=>by rw[e,a]⟩;cases h:mv g.1 with
  |true=>
   rw[cg<|by simp[h],ö,jJ];by_cases e:g.1=M p
   .rw[if_pos<|hi.mpr e,if_pos e,<- e,h];rfl
   .rw[if_neg λw=>e<|hi.mp w,if_neg e,b]
  |false=>
   rw[WP<|by simp[h],b];by_cases e:g.1=M p
   .rw[<- e,h];rfl
   .rw[if_neg e]
def J5 a:∀(K S:Gr),(K.map (·.1)).Nodup->(S.map (·.1)).Nodup->(∀g∈S,g.2≠[])->(∀g∈K,g.2≠[])->
  ((K.foldl (iU a) S).map (·.1)).Nodup/\(∀g∈K.foldl (iU a) S,g.2≠[])/\∀p,(bW (K.foldl (iU a) S) p).Perm (bW S p++bW K p)
 |[],S,_,hs,ns,_=>⟨hs,ns,λp=>by rw[Ax,ŉ];show .refl _⟩|g::K,S,hk,hs,ns,nk=>by
  rw[ö,ő]at hk;rw[ur];let b:((iU a S g).map (·.1)).Nodup:=JZ hs;let i:∀x∈iU a S g,x.2≠[]:=λx c=>by
   let e:bW (iU a S g) x.1=x.2:=jZ b c;rw[<- e];ext iU;rw[Ay];let k:=nk g<|ţ ..;split
   .ext a
    .show λw=>k (RH.mp w).1
    .show λw=>k (RH.mp w).2
   .rename_i d;have:x.1∈(iU a S g).map (·.1):=Õ.mpr ⟨x,c,rfl⟩;rcases ϫ.mp this with h|h
    .let⟨y,j,n⟩:=Õ.mp h;rw[<- n,jZ hs j];show ns y j
    .show absurd h d
  let⟨h1,o,q⟩:=J5 a K (iU a S g) hk.2 b i λx c=>nk x<|ŏ _ c;show⟨h1,o,λp=>(q p).trans ?_⟩;rw[jJ];ext iU;rw[Ay];by_cases e:p=g.1
  .rw[if_pos e,if_pos e.symm,e,pK hk.1,ŉ];ext a
   .show List.perm_append_comm
   .show .refl _
  .rw[if_neg e,if_neg λw=>e w.symm]
def Y3{f:Int×Int->Int×Int}(h:ī qs f G){mv:Int×Int->Bool}(d:∀p,M (M p)=p)c:
  ī qs (λq=>if mv (f q)then M (f q)else f q) (sO mv M c G):=by
 let j:∀(l:List ((Int×Int)×jq)),l.Sublist G->(l.map (·.1)).Nodup:=λl x=>(x.map _).nodup h.kd;let s:((iH mv M G).map (·.1)).Nodup:=by
  let e:(iH mv M G).map (·.1)=((G.filter λg=>mv g.1).map (·.1)).map M:=by ext iH;rw[å,å];rfl
  rw[e];show uq _ (λa b k w=>k<|by rw[<- d a,w,d])<|j _ gk
 let⟨h1,u,v⟩:=J5 c (iH mv M G) (l9 mv G) s (j _ gk) (λg n=>h.ne g (Ī.mp n).1) λg n=>by
  let⟨y,z,rfl⟩:=Õ.mp n;show λw=>h.ne y (Ī.mp z).1<|List.reverse_eq_nil_iff.mp w
 show⟨h1,u,λp=>(v p).trans ?_⟩;rw[DD,DE d];let e:(qs.filter λq=>decide<|(if mv (f q)then M (f q)else f q)=p)=qs.filter λq=>(!mv (f q)&&decide (f q=p))||(mv (f q)&&decide (f q=M p)):=by
  congr 1;funext q;let hi:M (f q)=p↔f q=M p:=⟨λe=>by rw[<- e,d],λe=>by rw[e,d]⟩;cases mv (f q)with
  |true=>simp[hi]|false=>simp
 rw[e];show List.Perm.trans ?_ (J2 _ _ (λq o=>?_) qs).symm
 .show List.Perm.append ?_ ?_
  .cases i:mv p with
   |true=>rw[if_pos rfl,NH.mpr];intro q _ w;rw[ó]at w;let e:=of_decide_eq_true w.2;rw[e,i]at w;show ø w.1|false=>
    rw[if_neg ø];have:(qs.filter λq=>!mv (f q)&&decide (f q=p))=qs.filter λq=>decide (f q=p):=by
     congr 1;funext q;by_cases e:f q=p
     .simp[e,i]
     .simp[e]
    rw[this];show h.pm p
  .cases i:mv (M p)with
   |true=>
    rw[if_pos rfl];have:(qs.filter λq=>mv (f q)&&decide (f q=M p))=qs.filter λq=>decide (f q=M p):=by
     congr 1;funext q;by_cases e:f q=M p
     .simp[e,i]
     .simp[e]
    rw[this];show(List.reverse_perm _).trans<|h.pm<|M p
   |false=>rw[if_neg ø,NH.mpr];intro q _ w;rw[ó]at w;let e:=of_decide_eq_true w.2;rw[e,i]at w;show ø w.1
 .rw[ó]at o;dsimp[N6]at o;rw[o.1];rfl
def Y4(a:0<=u/\u<4):atI [D.int p.2,.int p.1,.int<|p.1-p.2,.int<|p.1+p.2] u=b3 (.int<|cV u p):=by
 have:u=0\/u=1\/u=2\/u=3:=()
 rcases this with rfl|rfl|rfl|rfl<;>rfl
def Az k p u(b:0<=u/\u<4)(a:Hm)(Q:jz)(H:∀μ',a<+:μ'->Q (.int<|cV u p,μ')):W (f (k+1) "_law_value" [PP p,.int u] a) Q:=by rw[Yn];show Dl rfl<|YE<|YD rfl rfl<|(dX (bE _ _)<|Y4 b).mpr<|H _<|aR _ _
def Y5(a:0<=u/\u<4):atI [LD ⟨1,0,0,-1,0,2*n⟩,LD ⟨-1,0,0,1,2*n,0⟩,LD ⟨0,1,1,0,n,-n⟩,LD ⟨0,-1,-1,0,n,n⟩] u=b3 (LD<|bS u n):=by
 have:u=0\/u=1\/u=2\/u=3:=()
 rcases this with rfl|rfl|rfl|rfl<;>rfl
def Y6 k u n(b:0<=u/\u<4)(a:Hm)(Q:jz)(H:∀μ',a<+:μ'->Q (LD<|bS u n,μ')):W (f (k+1) "_law_mirror" [.int u,.int n] a) Q:=by rw[Yo];show Dl rfl<|ß.mpr ?_;dsimp[Ï,æ,é,â,Ë,dR,eX,Jc,cE,cY,Λ,δ];show⟨Dy,Dy,gN,?_⟩;show(sH (aD (aR _ _)<|bE _ _) (bE _ _)<|by change(4:Nat)<=Ò;decide).mpr ?_;show(dX (bE _ _)<|Y5 b).mpr<|H _<|((aR _ _).trans<|aR _ _).trans<|aR _ _
def J6 k A(hA:Ě A)p a(Q:jz):W (f (k+1) "_law_led" [LD A,PP p] a) Q↔Q (PP<|aC A p,a):=by let⟨h1,b,c,d⟩:=hA.sm;rw[Yp,ß];dsimp[Æ,ĝ,cE,Ŕ,ŕ,Λ,δ,Ï,â,Ë,dR,æ,cY,l6 h1,l6 b,l6 c,l6 d,Û,gN,true_and];rfl
def Y7{Q:jz}(h:xs≠[]/\a≠[]/\xs.length+a.length<=Ò):W (bI (.tup xs) (.tup a) b) Q↔Q (.tup<|xs++a,b):=by dsimp[bI];rw[if_pos h];show À
def ŭ{Q:jz}:W (aZ b5 (.bl x) (.bl y) a) Q↔Q (.bl<|x==y,a):=À
def uI{Q:jz}(hi:aE i b a=b3 (.int x,a))(c:aE j b a=b3 (.int y,a))(d:aE p b a=b3 (.int z,a))(e:aE q b a=b3 (.int w,a))(g:-1<=x/\x<=1)(hz:-1<=z/\z<=1)(H:Q (.int<|x*y+z*w,a)):W (aA bI (aA b7 (aE i)<|aE j) (aA b7 (aE p)<|aE q) b a) Q:=
 aO<|aP hi c<|(l6 g).mpr<|aP d e<|(l6 hz).mpr<|Û.mpr H
def Y8 k A B(hA:Ě A)(hB:Ě B)a(Q:jz):W (f (k+1) "_law_then" [LD A,LD B] a) Q↔Q (LD<|c9 A B,a):=by
 let⟨h1,b,c,d⟩:=hB.sm;let w:W (f (k+1) "_law_then" [LD A,LD B] a) λr=>r=(LD<|c9 A B,a):=by show Ð (Yq k _ _ a)<|Æ.mpr<|ĝ.mpr ⟨_,rfl,Ŕ.mpr<|Æ.mpr<|ĝ.mpr ⟨_,rfl,Ŕ.mpr ?_⟩⟩;dsimp only[Λ,δ];show bD (â.mpr<|aQ<|uI rfl rfl rfl rfl h1 b<|aQ<|uI rfl rfl rfl rfl h1 b<|aQ<|uI rfl rfl rfl rfl c d<|aQ<|uI rfl rfl rfl rfl c d ⟨_,rfl,by change(4:Nat)<=Ò;decide,?_⟩);show cI<|aO ⟨_,rfl,â.mpr<|aQ<|aO<|uI rfl rfl rfl rfl h1 b ⟨_,rfl,Û.mpr<|aQ<|aO<|uI rfl rfl rfl rfl c d ⟨_,rfl,Û.mpr ⟨_,rfl,gN,(Y7 ⟨∅,∅,by change(6:Nat)<=Ò;decide⟩).mpr rfl⟩⟩⟩⟩
 let⟨r,e,rfl⟩:=w;rw[e];show À
abbrev kT(ns:List Int)(i:Int):Int:=if i<ns.length then ns.getD i.toNat 0 else if ns=[]then(i+3)*(i+3)*48271 else(i+3)*(i+3)*48271+ns.getD (i%(ns.length:Int)).toNat 0*(i+5)
def DF k ns i(hi:0<=i/\i<=100)(a:Hm)(Q:jz)(H:∀μ',a<+:μ'->Q (.int<|kT ns i,μ')):W (f (k+1) "_law_given" [.rol<|ns.map D.int,.int i] a) Q:=by
 unfold kT at H;show Ð (Yi k _ _ a)<|Æ.mpr<|Ñ.mpr<|cZ<|aP rfl rfl<|ņ.mpr ⟨_,rfl,?_⟩;rw[Ã];by_cases h:i<ns.length
 .rw[if_pos h]at H;rw[if_pos<|decide_eq_true h];show Ï.mpr<|aP rfl rfl<|(JB<|JA hi.1 h).mpr<|H _<|ď _
 .rw[if_neg h]at H;rw[if_neg<|by rw[decide_eq_false h];show ø];show Ì.mpr (bD<|aO<|aO<|aO ⟨_,rfl,_,rfl,Û.mpr<|aO ⟨_,rfl,_,rfl,Û.mpr<|(pH<|.inl ()).mpr ⟨_,rfl,(pH<|.inr ⋯).mpr ?_⟩⟩⟩);show Ï.mpr<|Ĝ.mpr<|cZ<|aO ⟨_,rfl,é.mpr ⟨_,rfl,ĸ _,(YH<|bE _ _).mpr ⟨_,rfl,?_⟩⟩⟩;by_cases h0:ns=[]
  .rw[if_pos h0]at H;rw[if_pos<|show(ns==[])=dI by rw[h0];rfl];show⟨_,rfl,H _<|aR _ _⟩
  .let e:(ns==[])=false:=by
    cases ns with
    |nil=>show absurd rfl h0|cons=>rfl
   let c:0<ns.length:=RR.mpr h0;rw[if_neg h0]at H;rw[if_neg<|by change ¬ (ns==[])=dI;rw[e];show ø];let b:0<=i%(ns.length:Int)/\i%(ns.length:Int)<ns.length:=⟨ND _ (),NK _ ()⟩;show aO ⟨_,rfl,aO<|aO ⟨_,rfl,aO ⟨_,rfl,aS rfl<|jh.mpr ?_⟩⟩⟩;rw[Ã];show(iE ()).mpr ((JB<|JA b.1 b.2).mpr<|aO ⟨_,rfl,_,rfl,Û.mpr<|(pH<|.inr ()).mpr<|Û.mpr ?_⟩);show H _<|aR _ _
abbrev wW(c:Int):Nat->Int
 |0=>c|n+1=>wW c n/1000000
abbrev DG(ns:List Int)(i:Int):Int:=(kT ns i%1000003+7*i+3)*(kT ns i%1000003+7*i+3)*48271%2147483647
abbrev wX(ns:List Int)(i:Int):Int:=if kT ns 0%2=1/\0<wW (kT ns 1) i.toNat then wW (kT ns 1) i.toNat%1000000 else DG ns i
def J7 ns i:0<=wX ns i/\wX ns i<2147483647:=by
 ext wX;split
 .lia
 .show⟨ND _ ⋯,NK _ ⋯⟩
def Ϩ{Q:jz}:W (rG (.int 10) (.int 6) a) Q↔Q (.int 1000000,a):=(W3 ⟨⋯,⋯,⋯⟩).trans<|by rfl
def J8 k ns i(hi:0<=i/\i<=100)(a:Hm)R(H:∀d μ',a<+:μ'->R (.rt<|.int<|DG ns i,d,μ')):
  W ((aL (fN 2<|aA bI (aA bI (aA bZ (bJ (f (k+1) "_law_given")<|aB (aE 0)<|aB (aE 1) aF)<|mC<|.int 1000003)<|aA b7 (mC<|.int 7)<|aE 1)<|mC<|.int 3)<|aM<|aA bZ (aA b7 (aA b7 (aE 2)<|aE 2)<|mC<|.int 48271)<|mC<|.int 2147483647) [b3<|.rol<|ns.map D.int,b3<|.int i,x,y] a) R:=by
 show bD<|aO<|aO<|aO<|aS rfl<|DF k ns i hi _ _ λc b=>?_;unfold DG at H;generalize kT ns i=v at H;let h1:=ND v (show(1000003:Int)≠0 by decide);let e:=NK v (show(0:Int)<1000003 by decide);show⟨_,rfl,(iE ⋯).mpr<|aO ⟨_,rfl,_,rfl,(pH<|.inl ⋯).mpr<|Û.mpr ⟨_,rfl,Û.mpr ?_⟩⟩⟩;show cI<|aO<|aO<|aO ⟨_,rfl,_,rfl,(pH<|.inl ?_).mpr ⟨_,rfl,(pH<|.inr ⋯).mpr ⟨_,rfl,(iE ⋯).mpr ?_⟩⟩⟩
 .show⟨(),()⟩
 .show H _ _ b
def Y9 k ns i(hi:0<=i/\i<=100)(b:Hm)(Q:jz)(H:∀μ',b<+:μ'->Q (.int<|wX ns i,μ')):W (f (k+2) "_law_number" [.rol<|ns.map D.int,.int i] b) Q:=by
 unfold wX at H;show Ð (Yj (k+1) _ _ b) (Æ.mpr<|Ñ.mpr<|cZ<|aO<|aO<|aS rfl<|DF k ns 0 ⋯ _ _ λg d=>⟨_,rfl,ĥ.mpr ⟨_,rfl,û.mpr ⟨_,rfl,?_⟩⟩⟩);by_cases h1:kT ns 0%2=1
 .rw[if_pos<|show(kT ns 0%2==1)=dI from beq_iff_eq.mpr h1];show bD (aS rfl<|DF k ns 1 ⋯ _ _ λn e=>fU ?_);show É.mpr ((Ag (j:=0)).mpr ⟨_,rfl,(),?_⟩);show qM (λj a μ'=>∃x,a=[b3<|.rol<|ns.map D.int,b3<|.int i,b3<|.int<|wW (kT ns 1) j,x]/\b<+:μ') ⟨b4,rfl,d.trans e⟩ ?_ ?_
  .rintro j a μ' _ ⟨x,rfl,p⟩;show⟨_,rfl,Ď.mpr<|aO ⟨_,rfl,aO ⟨_,rfl,_,rfl,Ϩ.mpr<|(sG ⋯<|by decide).mpr ⟨_,rfl,p⟩⟩⟩⟩
  .rintro a μ' ⟨x,rfl,p⟩;show⟨rfl,Ñ.mpr<|cZ<|aO ⟨_,rfl,_,rfl,Ň.mpr ⟨_,rfl,?_⟩⟩⟩;by_cases h:0<wW (kT ns 1) i.toNat
   .rw[if_pos ⟨h1,h⟩]at H;rw[if_pos<|decide_eq_true h];show Ï.mpr (aO ⟨_,rfl,aO ⟨_,rfl,_,rfl,Ϩ.mpr<|(iE ⋯).mpr ?_⟩⟩);show H _ p
   .rw[if_neg λz=>h z.2]at H;rw[if_neg<|by rw[decide_eq_false h];show ø];show Ì.mpr<|J8 k ns i hi _ _ λ_ μ' c=>H μ'<|p.trans c
 .rw[if_neg λz=>h1 z.1]at H;rw[if_neg<|show ¬ (kT ns 0%2==1)=dI from λz=>h1<|beq_iff_eq.mp z];show Ì.mpr<|J8 k ns i hi _ _ λ_ μ' c=>H μ'<|d.trans c
def AA k(ns:List Int)i(hi:0<=i/\i<=100)(a:Hm)(Q:jz)(H:∀v μ',0<=v->v<2147483647->a<+:μ'->Q (.int v,μ')):W (f (k+2) "_law_number" [.rol<|ns.map D.int,.int i] a) Q:=
 Y9 k ns i hi a Q λμ' p=>H _ μ' (J7 ns i).1 (J7 ns i).2 p
abbrev DH(x y:Int):Bool:=(x%4==2&&y%2==1)||(y%4==2&&x%2==1)
abbrev cB(w h:Int):jq:=(nB 1 (4*w-1).toNat (4*h-1).toNat).filter λp=>DH p.1 p.2
def qQ(h:1<=w/\w<=3):w∈[(1:Int),2,3]:=by
 have:w=1\/w=2\/w=3:=()
 rcases this with rfl|rfl|rfl<;>decide
abbrev wY:List (List Int)->Bool
 |x::y::r=>HT.lexLt x y&&wY (y::r)|_=>dI
def AB:∀{l},wY l=dI->l.Pairwise λx y=>HT.lexLt x y=dI
 |[],_=>.nil|[x],_=>Ov _ _|x::y::r,h=>by
  unfold wY at h;rw[ó]at h;let b:=AB h.2;show NL.mpr ⟨λz a=>?_,b⟩;rcases Č.mp a with rfl|a
  .show h.1
  .show vL _ _ _ h.1<|(NL.mp b).1 z a
def Za(h:HT.lexLt a b=dI):HT.lexLt b a=false:=by
 cases e:HT.lexLt b a with
 |false=>rfl|true=>have:=vL _ _ _ h e;rw[vK]at this;show this.symm
abbrev Dc(b:Hm)(a:Nat)(kvs:jx):Prop:=b[a]?=b3 (.dT kvs)\/b[a]?=b3 (.dF kvs)
def fY{Q:jz}(h:Dc b a kvs)(c:dP y=b3 k)(e:a9 kvs k=b3 d):W (bF (.loc a) y b) Q↔Q (d,b):=by
 have:bF (.loc a) y b=b3 (d,b):=by rcases h with h|h<;>dsimp[bF,h,c,ē,e,ė]
 rw[this];show À
def AD{kvs:jx}(h:c[i]?=b3 (b3<|.loc a))(hc:b[a]?=b3 (.dT kvs))(H:W (d c<|b.set a<|.dF kvs) λr=>r.2.2[a]?=b3 (.dF kvs)/\Q (r.1,r.2.1,r.2.2.set a<|.dT kvs)):W (gJ i d g c b) Q:=by
 let e:qC i c b=b3 (a,kvs):=by dsimp[qC,h,hc]
 ext gJ;rw[e];rw[Ä];show bP H λr q=>?_;rw[q.1];show À.mpr q.2
def AE{kvs:jx}(hi:o[i]?=b3 (b3<|.loc a))(hc:g[a]?=b3 (.dT kvs))(I:Nat->aG->Hm->Prop)(h0:I 0 o (g.set a<|.dF kvs))(go:∀n k d c b,kvs[n]?=b3 (k,d)->I n c b->W (body (c.set j<|b3<|.tup<|k.map D.int) b) λp=>p.1=.nx/\I (n+1) p.2.1 p.2.2)(h:∀c b,I kvs.length c b->b[a]?=b3 (.dF kvs)/\Q (.nx,c,b.set a<|.dT kvs)):W (gJ i (b9 (eP<|aE i) (cL j) body) w o g) Q:=by
 show AD hi hc ?_;let u:(g.set a<|.dF kvs)[a]?=b3 (.dF kvs):=cS hc;let hit:eP (aE i) o (g.set a<|.dF kvs)=b3 (dC<|.tup<|dQ kvs,kvs.length+1,g.set a<|.dF kvs):=by dsimp[eP,aE,hi,ē,u]
 rw[É,hit,À];show nV (N:=kvs.length) I (λn c b v s=>?_) (λc b s=>⟨?_,h c b s⟩) kvs.length 0 o _ () h0
 .let e:kvs[n]?=b3 (kvs[n].1,kvs[n].2):=ā v;show⟨.tup<|kvs[n].1.map D.int,_,?_,rfl,bP (go n _ _ c b e s) λp q=>?_⟩
  .change b3 ((dQ kvs)[n]?)=_;ext dQ;rw[ÿ,e];rfl
  .rw[q.1];show q.2
 .change b3 ((dQ kvs)[kvs.length]?)=_;rw[cj<|by ext dQ;simp]
structure HI(μ:Hm)(a:Nat)(Z:Zr):Prop where
 dic:Dc μ a<|bA Z
 kd:(Z.map (·.1)).Nodup
 at_:∀z∈Z,μ[z.2.2]?=b3 (.lst<|z.2.1.map PP)
def Dc.more{μ':Hm}(I:Dc b a kvs)(h:b<+:μ'):Dc μ' a kvs:=I.elim (λe=>.inl<|aD h e) λe=>.inr<|aD h e
def HI.more{μ':Hm}(I:HI b a Z)(h:b<+:μ'):HI μ' a Z:=⟨I.dic.more h,I.kd,λz hz=>aD h<|I.at_ z hz⟩
def HI.ne(I:HI c a Z)(h:Dc c b kvs)(hz:z∈Z):z.2.2≠b:=λe=>by let h1:=I.at_ z hz;rw[e]at h1;rcases h with h|h<;>(rw[h]at h1;ext h1)
def HI.frz{kvs:jx}(I:HI c a Z)(h:c[b]?=b3 (.dT kvs)):HI (c.set b<|.dF kvs) a Z:=by
 show⟨?_,I.kd,λz d=>by rw[ô<|ð<|I.ne (.inl h) d];show I.at_ z d⟩;by_cases e:b=a
 .subst e;have:kvs=bA Z:=by
   rcases I.dic with w|w
   .rw[h]at w;injection w with w;injection w
   .rw[h]at w;ext w
  rw[<- this];show .inr<|cS h
 .ext Dc;rw[ô e];show I.dic
def wZ{c b:Hm}{kvs:jx}(hc:c[a]?=b3 (.dT kvs))(h:c.set a (.dF kvs)<+:b):c<+:b.set a (.dT kvs):=by let⟨t,rfl⟩:=h;let d:a<c.length:=(ä.mp hc).1;rw[NG _ _<|by rw[Ź];show d,QM,DA hc];show NM _ _
def J9{w h:Int}(hw:1<=w/\w<=6)(c:1<=h/\h<=6):(4*w-1).toNat*(4*h-1).toNat+(4*h-1).toNat<=900:=by
 let a:(4*w-1).toNat<=23:=()
 let b:(4*h-1).toNat<=23:=()
 have:=Qb a b;lia
def Zb k w h(hw:1<=w/\w<=6)(b:1<=h/\h<=6)a(Q:jz)(H:Q (.loc a.length,a++[.lst<|(cB w h).map PP])):W (f (k+1) "_law_quarters" [.int w,.int h] a) Q:=by
 rw[Yk,ß];dsimp[Æ,Ď,é,dR];show⟨ĸ _,?_⟩;dsimp[Λ,δ,É,Ġ,Ë,dR,eX,æ,cE,cY,sI];show⟨(),?_⟩;show JS _ DH _ _ _ _ 1 (4*h-1).toNat (λo1 o2 a Q=>?_) (λx y a Q=>?_) (4*w-1).toNat (J9 hw b) _ (bE _ _) _ λo1 o2=>?_
 .dsimp[Ġ,Ë,dR,eX,æ,cE,cY,sI];show and_iff_right ()
 .dsimp[ū,Ğ,ĕ,æ,cE,cY,eX,ĥ,ě,û,Û];ext DH;cases x%4==2<;>cases y%2==1<;>cases y%4==2<;>cases x%2==1<;>simp
 .dsimp[Ï,cE,cY];rw[Dz];show H
def Zc k w h(hw:1<=w/\w<=3)(b:1<=h/\h<=3)a(Q:jz)(H:Q (.loc a.length,a++[.lst<|(cB w h).map PP])):W (f (k+1) "_law_quarters" [.int w,.int h] a) Q:=Zb k w h () () a Q H
def AF{n:Nat}(h:(bA Z)[n]?=b3 (k,d)):∃z∈Z,Z[n]?=b3 z/\k=aV z.1/\d=.loc z.2.2:=by unfold bA at h;rw[ÿ]at h;let⟨z,h1,a⟩:=ì.mp h;ext a;show⟨z,ķ h1,h1,rfl,rfl⟩
def jK{a:Type}{l:List a}{x:a}(h:l[n]?=b3 x):l.take (n+1)=l.take n++[x]:=by rw[RF,h];rfl
def qR{c:Type}{l:List c}(nd:l.Nodup){x:c}(h:l[n]?=b3 x):x∉l.take n:=λg=>by
 let⟨j,a⟩:=zj.mp g;let b:j<n:=by have:=(ä.mp a).1;rw[Ι]at this;lia
 rw[RK b]at a;let i:n<l.length:=(ä.mp h).1;let d:=(ä.mp a).2;let e:=(ä.mp h).2;show absurd ((N3 nd).mp<|d.trans e.symm) ()
noncomputable abbrev bT(v:Int×Int->D)(ps:jq):jx:=ps.map λp=>(aV p,v p)
def iV(nd:ps.Nodup)(h:p∈ps):a9 (bT v ps) (aV p)=b3 (v p):=by show Av ?_<|Õ.mpr ⟨p,h,rfl⟩;rw[å];show uq _ (λa b c x=>c<|kR x) nd
def DI(h:p∉ps):a9 (bT v ps) (aV p)=none:=by
 ext a9;rw[Y0.mpr]
 .rfl
 .intro x a;let⟨z,b,rfl⟩:=Õ.mp a;rw[decide_eq_true_iff];show λe=>h<|kR e▸b
def DJ(h:p∉ps):cC (bT v ps) (aV p) (v p)=bT v (ps++[p]):=by ext cC;rw[DI h,if_neg ∅];change _=MK _ _;rw[ă];rfl
abbrev kU(ps:jq):jq:=(c5 (λi j=>HT.lexLt ((ps.map aV).getD i [])<|(ps.map aV).getD j []) ps.length).map λi=>ps.getD i (0,0)
def Zd ps:(kU ps).Perm ps:=by let p:=(jS (λi j=>HT.lexLt ((ps.map aV).getD i [])<|(ps.map aV).getD j []) ps.length).map λi=>ps.getD i (0,0);rw[DB]at p;show p
def Ka v ps:oV (bT v ps)=bT v (kU ps):=by
 unfold oV kU bT;let a:(ps.map λp=>(aV p,v p)).map (·.1)=ps.map aV:=by rw[å];rfl
 rw[a,Ã,å];show Ť λi hi=>?_;let hi:i<ps.length:=Ō.mp<|(jS _ _).mem_iff.mp hi;simp[ĭ,hi]
def Ze{Q:jz}(h:b[a]?=b3 (.dT (bT v ps)))(h1:ps.length<64):W (qI [.loc a] b) Q↔Q (.loc b.length,b++[.lst ((kU ps).map PP)]):=by rw[YS h (by rw[Ã];show h1) (λp c z=>by let⟨x,_,rfl⟩:=Õ.mp c;ext z),Ka,å];rfl
def Zf ps:(kU ps).length=ps.length:=(Zd ps).length_eq
def Zg(b:(G.map (·.1)).Nodup)p q:fW G p q=fX G p (bW G p++[q]):=by
 ext fW fX;by_cases h:(G.map (·.1)).contains p=dI
 .rw[if_pos h,if_pos h];show Ť λg a=>?_;by_cases e:g.1=p
  .rw[if_pos e,if_pos e,<- e,jZ b a]
  .rw[if_neg e,if_neg e]
 .rw[if_neg h,if_neg h,pK λw=>h<|ε.mpr w];rfl
def Kb(g:Int×Int->Int×Int):∀(qs:jq)G,(G.map (·.1)).Nodup->((qs.foldl (λG q=>fW G (g q) q) G).map (·.1)).Nodup/\∀p,bW (qs.foldl (λG q=>fW G (g q) q) G) p=bW G p++qs.filter λq=>decide<|g q=p
 |[],G,kd=>⟨kd,λp=>∅⟩|q::qs,G,kd=>by
  rw[ur,Zg kd];let⟨h1,a⟩:=Kb g qs (fX G (g q)<|bW G (g q)++[q])<|JZ kd;show⟨h1,λp=>?_⟩;rw[a,Ay];by_cases e:p=g q
  .subst e;rw[if_pos rfl,cg ∅];simp
  .rw[if_neg e,WP<|by simp;show λw=>e w.symm]
def Zh:ī qs g (l8 g qs):=by
 let⟨h1,b⟩:=Kb g qs [] ud;show⟨h1,λx a e=>?_,λp=>by ext l8;rw[b,Ax];show .refl _⟩
  -- no empty list is made
 have:∀(qs:jq)(G:Gr),(∀x∈G,x.2≠[])->∀x∈qs.foldl (λG q=>fW G (g q) q) G,x.2≠[]:=λqs=>by
  induction qs with
  |nil=>show λG h=>h|cons q qs d=>
   intro G h;rw[ur];show d _ λx a=>?_;unfold fW at a;split at a
   .let⟨y,c,rfl⟩:=Õ.mp a;split
    .simp
    .show h y c
   .rcases ĩ.mp a with a|a
    .show h x a
    .rw[Ĕ.mp a];simp
 show this qs [] (λx a=>nomatch a) x a e
def Zi{kvs:jx}{Q:jz}(h:c[i]?=b3 (b3<|.loc a))(hc:b[a]?=b3 (.dT kvs))(H:W (d c<|b.set a<|.dF kvs) λr=>r.2[a]?=b3 (.dF kvs)/\Q (r.1,r.2.set a<|.dT kvs)):W (tY i d g c b) Q:=by
 let e:qC i c b=b3 (a,kvs):=by dsimp[qC,h,hc]
 ext tY;rw[e];rw[Ä];show bP H λr q=>?_;rw[q.1];show À.mpr q.2
abbrev AG(Z:Zr)(p:Int×Int):D:=match Z.find? (λz=>decide<|z.1=p)with|some z=>.loc z.2.2|none=>.non
def Zj(a:(Z.map (·.1)).Nodup)(h:z∈Z):AG Z z.1=.loc z.2.2:=by
 ext AG;induction Z with
 |nil=>ext h|cons x Z b=>
  rw[ö,ő]at a;rw[ų];rcases Č.mp h with rfl|h
  .rw[decide_eq_true rfl]
  .let e:decide (x.1=z.1)=false:=decide_eq_false λe=>a.1 (by rw[e];show Õ.mpr ⟨z,h,rfl⟩);rw[e];show b a.2 h
def Zk(b:(Z.map (·.1)).Nodup):bA Z=bT (AG Z) (Z.map (·.1)):=by ext bA bT;rw[å];show Ť λz a=>by change _=(aV z.1,AG Z z.1);rw[Zj b a]
def Zl{Q:jz}(c:(Z.map (·.1)).Nodup)(h:b[a]?=b3 (.dT<|bA Z))(h1:Z.length<64):W (qI [.loc a] b) Q↔Q (.loc b.length,b++[.lst<|(kU<|Z.map (·.1)).map PP]):=by rw[Zk c]at h;show Ze h<|by rw[Ã];show h1
def Kc(a:(Z.map (·.1)).Nodup)(h:z∈Z):bW (GZ Z) z.1=z.2.1:=jZ (by rw[l7];show a) (g:=(z.1,z.2.1))<|Õ.mpr ⟨z,h,rfl⟩
def Zm(h:d∈dQ (bA Z)):∃p∈Z.map (·.1),d=PP p:=by let⟨c,a,rfl⟩:=Õ.mp h;let⟨z,b,rfl⟩:=Õ.mp a;show⟨z.1,Õ.mpr ⟨z,b,rfl⟩,rfl⟩
def Zn(hi:c[i]?=b3 (b3<|.loc a))(d:b[a]?=b3 (.dF kvs)):eP (aE i) c b=b3 (dC<|.tup<|dQ kvs,kvs.length+1,b):=by dsimp[eP,aE,hi,ē,d]
def Kd p:eK (PP p)=p:=rfl
def Zo{L:jq}(a:mH L.length i=b3 j)(b:L[j]?=b3 q):atI (L.map PP) i=b3 (PP q):=by ext atI;rw[Ã,a,ē,ÿ,b];rfl
def Zp(h:a9 K k=b4):cC K k d=K++[(k,d)]:=by ext cC;rw[h,if_neg ∅]
def Zq(h:a9 K k=b4):cC (K++[(k,d)]) k e=K++[(k,e)]:=by
 let b:∀p∈K,p.1≠k:=λp a w=>by unfold a9 at h;rw[Option.map_eq_none_iff,Y0]at h;show h p a<|decide_eq_true w
 let c:(a9 (K++[(k,d)]) k).isSome=true:=by ext a9;rw[zq,RD];show⟨(k,d),ĩ.mpr<|.inr<|Ĕ.mpr rfl,decide_eq_true rfl⟩
 ext cC;rw[if_pos c,ă];have:(K.map λp=>if p.1=k then(p.1,e)else p)=K:=by let w:(K.map λp=>if p.1=k then(p.1,e)else p)=K.map id:=Ť λp a=>if_neg<|b p a;rw[w,MN]
 rw[this];simp
abbrev cT(u n:Int)(a:Bool)(p:Int×Int):Bool:=decide (n<cV u p)==a
abbrev d7(u n:Int)(a:Bool)(F:Int×Int->Ly)(q:Int×Int):Ly:=if cT u n a (aC (F q) q)then c9 (F q) (bS u n)else F q
def Ke(b:∀q,Ě (F q))q:Ě (d7 u n a F q):=by
 ext d7;split
 .show Dw (b q)<|wU u n
 .show b q
def Zs u n a F q:aC (d7 u n a F q) q=if cT u n a (aC (F q) q)then aC (bS u n) (aC (F q) q)else aC (F q) q:=by
 ext d7;split
 .rw[jY]
 .rfl
def HI.put(I:HI j s Z)(d:j[s]?=b3 (.dT<|bA Z))(i:j[b]?=b3 (.lst<|L.map PP)):
  ∃h,cC (bA Z) (aV p) (.loc b)=bA h/\GZ h=fX (GZ Z) p L/\HI (j.set s<|.dT<|bA h) s h:=by
 let bs:b≠s:=λe=>by rw[e,d]at i;ext i
 let k:((GZ Z).map (·.1)).Nodup:=by rw[l7];show I.kd
 by_cases c:p∈Z.map (·.1)
 .show⟨Z.map λy=>if y.1=p then(y.1,L,b)else y,YR c I.kd,?_,.inl<|cS d,?_,λy a=>?_⟩
  .ext fX;rw[l7,if_pos<|ε.mpr c];ext GZ;rw[å,å];show Ť λz _=>?_;change((if z.1=p then(z.1,L,b)else z).1,(if z.1=p then(z.1,L,b)else z).2.1)=if z.1=p then(z.1,L)else(z.1,z.2.1)
   split<;>rfl
  .let e:(Z.map λy=>if y.1=p then(y.1,L,b)else y).map (·.1)=Z.map (·.1):=by rw[å];show Ť λy _=>?_;change(if y.1=p then(y.1,L,b)else y).1=y.1;split<;>rfl
   rw[e];show I.kd
  .let⟨x,g,rfl⟩:=Õ.mp a;split
   .rw[ô<|ð bs];show i
   .rw[ô<|ð<|I.ne (.inl d) g];show I.at_ x g
 .show⟨Z++[(p,L,b)],JT c,?_,.inl<|cS d,?_,λy a=>?_⟩
  .ext fX;rw[l7,if_neg λw=>c<|ε.mp w];ext GZ;rw[ă];rfl
  .rw[ă,Ϻ];show⟨I.kd,∅,λx g y a e=>by
    dsimp[ö,ϴ,Ĕ]at a;rw[e,a]at g;show c g⟩
  .rcases ĩ.mp a with a|a
   .rw[ô<|ð<|I.ne (.inl d) a];show I.at_ y a
   .rw[Ĕ.mp a,ô<|ð bs];show i
def HI.off{kvs:jx}(I:HI b a Z)(e:b[s]?=b3 (.dT kvs))(h:a≠s)c:HI (b.set s c) a Z:=by show⟨?_,I.kd,λz d=>by rw[ô<|ð<|I.ne (.inl e) d];show I.at_ z d⟩;ext Dc;rw[ô<|ð h];show I.dic
def DK(h:p∉G.map (·.1)):fX G p L=G++[(p,L)]:=by ext fX;rw[if_neg λw=>h<|ε.mp w]
def Kf mv G g:l9 mv (G++[g])=if mv g.1 then l9 mv G else l9 mv G++[g]:=by ext l9;rw[Ϡ];cases h:mv g.1<;>simp[h]
def Kg mv M G g:iH mv M (G++[g])=if mv g.1 then iH mv M G++[(M g.1,g.2.reverse)]else iH mv M G:=by ext iH;rw[Ϡ,ă];cases h:mv g.1<;>simp[h]
def Kh{c:Type} [DecidableEq c]:∀{l m:List c},l.Nodup->(∀x∈l,x∈m)->l.length<=m.length
 |[],_,_,_=>ĸ _|x::l,m,h,hs=>by rw[ő]at h;let a:=hs x<|ţ ..;let d:=Kh (l:=l) (m:=m.erase x) h.2 λy b=>(List.mem_erase_of_ne λe:y=x=>h.1<|e▸b).mpr<|hs y<|ŏ _ b;rw[List.length_erase_of_mem a]at d;have:=RI a;rw[Ŋ];lia
def ī.len(P:ī qs g G):G.length<=qs.length/\∀x∈G,x.2.length<=qs.length:=by
 constructor
 .have:=Kh P.kd (m:=qs.map g) λp a=>by let⟨q,b,e⟩:=P.key.mp a;show Õ.mpr ⟨q,b,e⟩
  rw[Ã,Ã]at this;show this
 .intro x c;have:=(P.pm x.1).length_eq;rw[jZ P.kd c]at this;rw[this];show Ž _ _
def ī.lenZ(P:ī qs g (GZ Z)):Z.length<=qs.length/\∀z∈Z,1<=z.2.1.length/\z.2.1.length<=qs.length:=by let⟨h1,b⟩:=P.len;unfold GZ at h1;rw[Ã]at h1;show⟨h1,λz c=>?_⟩;let a:(z.1,z.2.1)∈GZ Z:=Õ.mpr ⟨z,c,rfl⟩;show⟨RR.mpr<|P.ne _ a,b _ a⟩
def Ki a x:∀bs:List Bool,∃b,pV a (.bl x) (bs.map D.bl)=b3 b
 |[]=>⟨_,rfl⟩|b::bs=>by let⟨c,e⟩:=Ki a x bs;rw[ö];ext pV;ext b<;>ext x<;>first|show⟨_,rfl⟩|show⟨c,e⟩|(rw[e];show⟨_,rfl⟩)
def Kj{bs:List Bool}x(h:c[a]?=b3 (.lst<|bs.map D.bl)):∃b,eD dI (.bl x) (.loc a) c=b3 (.bl b,c):=by let⟨b,e⟩:=Ki c x bs;show⟨!b,?_⟩;dsimp[eD,h,rQ,bO,ē,e,ė,if_true]
def w4(h:Z[i]?=b3 z):(GZ Z).take (i+1)=(GZ Z).take i++[(z.1,z.2.1)]:=jK<|by ext GZ;rw[ÿ,h];rfl
def gO{P:Prop}(h:b=b5)(q:Q):if b=dI then P else Q:=by rw[h];show q
def kW{P:Prop}(h:b=dI)(q:P):if b=dI then P else Q:=by rw[h];show q
def Zt(I:HI a s Z)(h:a[s]?=b3 (.dT<|bA Z))p:∃c,fS (.loc s) [PP p,.loc a.length] (a++[C.lst []])=b3 (.loc c,a++[C.lst []])/\(a++[C.lst []])[c]?=b3 (.lst<|(bW (GZ Z) p).map PP):=by
 let g:=aR a<|C.lst [];by_cases b:p∈Z.map (·.1)
 .let⟨t,d,e⟩:=Aw b;show⟨t.2.2,?_,?_⟩
  .dsimp[fS,aD g h,b8,ė];rw[<- e,sN I.kd d];rfl
  .rw[<- e,Kc I.kd d];show aD g<|I.at_ t d
 .show⟨a.length,?_,?_⟩
  .dsimp[fS,aD g h,b8,ė];rw[DC b];rfl
  .rw[pK<|by rw[l7];show b];show bE _ _
def Zu(h:y∈fX G p L):y∈G\/y.2=L:=by
 unfold fX at h;split at h
 .let⟨t,a,e⟩:=Õ.mp h;split at e
  .rw[<- e];show .inr rfl
  .rw[<- e];show .inl a
 .rcases ĩ.mp h with h|h
  .show .inl h
  .rw[Ĕ.mp h];show .inr rfl
def Kk{b:Hm}{kvs:jx}(d:b[a]?=b3 (.dT kvs)){c:Hm}(p:b<+:c):b.set a (.dF kvs)<+:c.set a (.dF kvs):=by let⟨t,rfl⟩:=p;rw[NG _ _ (ä.mp d).1];show NM _ _
def sP{b:Hm}{kvs:jx}(e:b[a]?=b3 (.dT kvs))(h:b.length<=c)x(d:Hm):(d.set a x)[c]?=d[c]?:=ô<|Ā<|Ļ (ä.mp e).1 h
abbrev Zv(k:Nat):MS:=aL (eJ (aE 9) (aE 10)<|aA bF (aE 0)<|aE 10)<|bK (a7<|aA (aZ b5) (aA kK (bJ (f k "_law_value")<|aB (bJ (f k "_law_led")<|aB (aA bF (aE 0)<|aE 10)<|aB (aE 10) aF)<|aB (aE 2) aF)<|aE 3)<|aE 4) (eJ (aE 9) (aE 10)<|bJ (f k "_law_then")<|aB (aA bF (aE 0)<|aE 10)<|aB (aE 8) aF) bV
section
variable{u n:Int}{a o:Bool}{m2:MS}{Z:Zr}{μ:Hm}{h:Nat}
def Zw k(X:0<=u/\u<4)(M:∀q,Ě (F q))(nd:qs.Nodup)(T:qs.length<=100)(hw:μ[w]?=b3 (.dT<|bT (λq=>LD<|F q) qs))Q(H:∀x b,μ<+:b->b[μ.length]?=b3 (.dT<|bT (λq=>LD<|d7 u n a F q) qs)->Q (.nx,b3 (.loc w)::A::b3 (.int u)::b3 (.int n)::b3 (.bl a)::B::E::G::b3 (LD<|bS u n)::b3 (.loc μ.length)::x::xs,b)):
  W (gJ 0 (b9 (eP<|aE 0) (cL 10)<|Zv<|k+1) m2 (b3 (.loc w)::A::b3 (.int u)::b3 (.int n)::b3 (.bl a)::B::E::G::b3 (LD<|bS u n)::b3 (.loc μ.length)::b4::xs)<|μ++[.dT []]) Q:=by
 let L:(μ.set w<|.dF<|bT (λq=>LD<|F q) qs)[w]?=b3 (.dF<|bT (λq=>LD<|F q) qs):=cS hw;let O:(μ.set w<|.dF<|bT (λq=>LD<|F q) qs).length<=μ.length:=lw Ź;show AE rfl (aD (aR _ _) hw) (λi c b=>∃x,c=b3 (.loc w)::A::b3 (.int u)::b3 (.int n)::b3 (.bl a)::B::E::G::b3 (LD<|bS u n)::b3 (.loc μ.length)::x::xs/\μ.set w (.dF<|bT (λq=>LD<|F q) qs)<+:b/\b[μ.length]?=b3 (.dT<|bT (λq=>LD<|d7 u n a F q)<|qs.take i))
  ⟨b4,rfl,Kk hw<|aR _ _,by rw[sP hw<|Ø _];show bE _ _⟩ ?_ ?_
 .rintro i kk d c b N ⟨x,rfl,p,g⟩;rw[ÿ]at N;let⟨q,y,e⟩:=ì.mp N;ext e;let z:∀{I:Hm}{Q:jz},μ.set w (.dF<|bT (λq=>LD<|F q) qs)<+:I->Q (LD<|F q,I)->W (bF (.loc w) (PP q) I) Q:=λU h=>(fY (.inr<|aD U L) (b8 q)<|iV nd<|ķ y).mpr h;let R:a9 (bT (λq=>LD<|d7 u n a F q)<|qs.take i) (aV q)=none:=DI<|qR nd y;let lt:(qs.take i).length<=100:=Ģ (ig _ _) T;let J:bT (λq=>LD<|d7 u n a F q) (qs.take<|i+1)=bT (λq=>LD<|d7 u n a F q) (qs.take i)++[(aV q,LD<|d7 u n a F q)]:=by rw[jK y,bT,ă];rfl
  show Æ.mpr (ĉ.mpr<|aP rfl rfl<|z p ⟨_,rfl,_,rfl,(lW g (b8 q)<|by rw[Ã,ò];lia).mpr ?_⟩);rw[Zp R];let j:=cX p O<|C.dT<|bT (λq=>LD<|d7 u n a F q) (qs.take i)++[(aV q,LD<|F q)];let K:=cS (c':=C.dT (bT (λq=>LD<|d7 u n a F q) (qs.take i)++[(aV q,LD<|F q)])) g;generalize b.set μ.length (C.dT<|bT (λq=>LD<|d7 u n a F q) (qs.take i)++[(aV q,LD<|F q)])=μ2 at j K;show Ñ.mpr<|cZ<|aO<|aO<|dG<|aQ<|dG<|aQ<|aP rfl rfl<|z j ⟨_,rfl,(J6 k (F q) (M q) q _ _).mpr ⟨_,rfl,Az k _ u X _ _ λY s=>⟨_,rfl,Ň.mpr ⟨_,rfl,ŭ.mpr ⟨_,rfl,?_⟩⟩⟩⟩⟩;let v:=aD s K;cases hc:cT u n a (aC (F q) q)with
  |true=>show kW hc (ĉ.mpr<|dG<|aQ<|aP rfl rfl<|z (j.trans s) ⟨_,rfl,(Y8 k (F q) (bS u n) (M q) (wU u n) _ _).mpr ⟨_,rfl,_,rfl,(lW v (b8 q)<|by rw[ć,Ã,ò];change _+1<_;lia).mpr ⟨rfl,_,rfl,cX (j.trans s) O _,?_⟩⟩⟩);rw[cS v,Zq R,J,d7,if_pos hc]|false=>show gO hc<|Ì.mpr ⟨rfl,_,rfl,j.trans s,?_⟩;rw[v,J,d7,if_neg<|by rw[hc];show ø]
 .rintro c b ⟨x,rfl,p,g⟩;rw[Ã,ź]at g;show⟨aD p L,H x _ (wZ hw p)<|by rw[sP hw<|Ø _];show g⟩
def HI.thaw{kvs:jx}(J:HI μ' c Y)(g:μ'[b]?=b3 (.dF kvs))(hc:c≠b)x:HI (μ'.set b x) c Y:=by show⟨?_,J.kd,λz d=>by rw[ô<|ð<|J.ne (.inr g) d];show J.at_ z d⟩;ext Dc;rw[ô<|ð hc];show J.dic
abbrev Zx(k:Nat):MS:=bK (a7<|aA (aZ b5) (aA kK (bJ (f k "_law_value")<|aB (aE 6)<|aB (aE 2) aF)<|aE 3)<|aE 4) (eJ (aE 12) (bJ (f k "_law_led")<|aB (aE 8)<|aB (aE 6) aF)<|bJ nO<|aB (aA bF (aE 1)<|aE 6) aF)<|eJ (aE 11) (aE 6)<|aA bF (aE 1)<|aE 6
inductive Sw (u n:Int)(a:Bool)(Z:Zr)(s:Nat)(μ:Hm)(i:Nat)(μ':Hm):Prop
 |mk (S G:Zr)(p:μ<+:μ')(IS:HI μ' s S)(g1:μ'[s]?=b3 (.dT<|bA S))(eS:GZ S=l9 (cT u n a) ((GZ Z).take i))(IG:HI μ' (s+1) G)(g2:μ'[s+1]?=b3 (.dT<|bA G))(eG:GZ G=iH (cT u n a) (aC<|bS u n) ((GZ Z).take i)):Sw u n a Z s μ i μ'
def Zy k(hu:0<=u/\u<4)(I:HI μ h Z)(g:μ[h]?=b3 (.dT<|bA Z))(hl:Z.length<=100){q:Hm}(pre:μ<+:q)(ls:μ.length<=s)(gs:q[s]?=b3 (.dT []))(gg:q[s+1]?=b3 (.dT []))Q(H:∀x S G b,μ<+:b->HI b s S->b[s]?=b3 (.dT<|bA S)->GZ S=l9 (cT u n a) (GZ Z)->HI b (s+1) G->b[s+1]?=b3 (.dT<|bA G)->GZ G=iH (cT u n a) (aC<|bS u n) (GZ Z)->Q (.nx,[x0,b3<|.loc h,b3<|.int u,b3<|.int n,b3<|.bl a,x5,x,x7,b3<|LD<|bS u n,x9,A,b3<|.loc s,b3<|.loc<|s+1,B],b)):
  W (gJ 1 (b9 (eP<|aE 1) (cL 6)<|Zx<|k+1) m2 [x0,b3<|.loc h,b3<|.int u,b3<|.int n,b3<|.bl a,x5,x6,x7,b3<|LD<|bS u n,x9,A,b3<|.loc s,b3<|.loc<|s+1,B] q) Q:=by
 let IF:=I.frz g;let l0:(μ.set h<|.dF<|bA Z).length<=s:=by rw[Ź];show ls
 let gF:(μ.set h<|.dF<|bA Z)[h]?=b3 (.dF<|bA Z):=cS g;let U:∀{c:Nat}{q:Hm},q[c]?=b3 (.dT [])->HI q c []:=λe=>⟨.inl e,ud,λz M=>nomatch M⟩;let R:(q.set h<|.dF<|bA Z)[s]?=b3 (.dT []):=(sP g ls _ _).trans gs;let O:(q.set h<|.dF<|bA Z)[s+1]?=b3 (.dT []):=(sP g () _ _).trans gg;show AE rfl (aD pre g) (λi J b=>∃x,J=[x0,b3<|.loc h,b3<|.int u,b3<|.int n,b3<|.bl a,x5,x,x7,b3<|LD<|bS u n,x9,A,b3<|.loc s,b3<|.loc<|s+1,B]/\Sw u n a Z s (μ.set h<|.dF<|bA Z) i b) ⟨x6,rfl,[],[],Kk g pre,U R,R,rfl,U O,O,rfl⟩ ?_ ?_
 .rintro i kk d J b hk ⟨x,rfl,S,G,N,IS,g1,L,IG,g2,K⟩;let⟨z,M,X,rfl,rfl⟩:=AF hk;let et:=w4 X;let Y:z.1∉((GZ Z).take i).map (·.1):=by rw[yw,l7];show qR I.kd<|by rw[ÿ,X];rfl
  let lt:((GZ Z).take i).length<=100:=Ģ (ig _ _) (by rw[jI];show hl);show Ñ.mpr<|cZ<|aO<|aO<|aS rfl<|Az k _ u hu _ _ λE p=>⟨_,rfl,Ň.mpr ⟨_,rfl,ŭ.mpr ⟨_,rfl,?_⟩⟩⟩;replace p:b<+:E:=p;let j:=IF.more<|N.trans p;let q13:=N.trans p;cases hc:cT u n a z.1 with
  |true=>
   let lG:G.length<=100:=by rw[<- jI,K,iH,Ã];show Ģ (Ž _ _) lt
   show kW hc<|ĉ.mpr<|dG<|aQ<|aP rfl rfl<|(fY j.dic (b8 z.1)<|sN I.kd M).mpr ⟨_,rfl,(Jp<|j.at_ z M).mpr ⟨_,rfl,aS rfl<|(J6 k (bS u n) (wU u n) z.1 _ _).mpr ?_⟩⟩;let p4:=p.trans<|aR E<|C.lst (z.2.1.map PP).reverse;let g4:=aD p4 g2;let⟨G',e1,e2,I4⟩:=(IG.more p4).put g4 (p:=aC (bS u n) z.1) (L:=z.2.1.reverse) (b:=E.length) (by rw[Oi];show bE _ _);show(lW g4 (b8 _)<|by rw[nZ,ò];lia).mpr ?_;rw[e1];show⟨rfl,_,rfl,S,G',cX (N.trans p4) () _,(IS.more p4).off g4 () _,by rw[ô ()];show aD p4 g1,by rw[et,Kf,if_pos hc];show L,I4,cS g4,?_⟩;rw[et,Kg,if_pos hc,e2,K,DK];intro w;let⟨y,hy,ey⟩:=Õ.mp w;let⟨y',hy',rfl⟩:=Õ.mp hy;have:y'.1=z.1:=by rw[<- wV u n y'.1,show aC (bS u n) y'.1=aC (bS u n) z.1 from ey,wV]
   show Y<|this▸Õ.mpr ⟨y',(Ī.mp hy').1,rfl⟩
  |false=>
   let lS:S.length<=100:=by rw[<- jI,L,l9];show Ģ (Ž _ _) lt
   let T:¬ cT u n a z.1=true:=by rw[hc];show ø
   let g3:=aD p g1;let⟨S',e1,e2,I4⟩:=(IS.more p).put g3 (p:=z.1)<|j.at_ z M;show gO hc (ĉ.mpr<|aP rfl rfl<|(fY j.dic (b8 z.1)<|sN I.kd M).mpr ⟨_,rfl,_,rfl,(lW g3 (b8 z.1)<|by rw[nZ,ò];lia).mpr ?_⟩);rw[e1];show⟨rfl,_,rfl,S',G,cX q13 l0 _,I4,cS g3,?_,(IG.more p).off g3 () _,by rw[ô ()];show aD p g2,by rw[et,Kg,if_neg T];show K⟩;rw[et,Kf,if_neg T,e2,L,DK];intro w;let⟨y,hy,ey⟩:=Õ.mp w;show Y<|ey▸Õ.mpr ⟨y,(Ī.mp hy).1,rfl⟩
 .rintro J b ⟨x,rfl,S,G,N,IS,g1,L,IG,g2,K⟩;let v:=aD N gF;let hhl:=(ä.mp g).1;rw[jd<|by rw[nZ,jI];show Ø _]at L K;show⟨v,H x S G _ (wZ g N) (IS.thaw v () _) ((sP g ls _ _).trans g1) L (IG.thaw v () _) ((sP g () _ _).trans g2) K⟩
abbrev Zz:MS:=aL (fN 13<|fR fS (aE 11)<|aB (aE 6)<|aB (cP aF) aF)<|eJ (aE 11) (aE 6)<|iM (c8<|aE 5) (aA bI (aE 13)<|aA bF (aE 12)<|aE 6)<|aA bI (aA bF (aE 12)<|aE 6)<|aE 13
inductive PR (μ:Hm)(s:Nat)(S0 G:Zr)(o:Bool)(i:Nat)(μ':Hm):Prop
 |mk (S:Zr)(p:μ<+:μ')(IS:HI μ' s S)(g:μ'[s]?=b3 (.dT<|bA S))(eS:GZ S=((GZ G).take i).foldl (iU o) (GZ S0))(l1:S.length<=S0.length+i)(l2:∀z∈S,z.2.1.length<=100+100*i)(IG:HI μ' (s+1) G)(gF:μ'[s+1]?=b3 (.dF<|bA G)):PR μ s S0 G o i μ'
def ZA(IS0:HI B s j)(hs:B[s]?=b3 (.dT<|bA j))(IG:HI B (s+1) G)(Y:B[s+1]?=b3 (.dT<|bA G))(lS:j.length+G.length<=100)(ll:∀z∈j,z.2.1.length<=100)(lg:∀z∈G,z.2.1.length<=100)(pre:μ<+:B)(ls:μ.length<=s)Q(H:∀x y S b,μ<+:b->HI b s S->b[s]?=b3 (.dT<|bA S)->GZ S=(GZ G).foldl (iU o) (GZ j)->Q (.nx,[x0,x1,x2,x3,x4,b3<|.bl o,x,x7,x8,x9,v,b3<|.loc s,b3<|.loc<|s+1,y],b)):
  W (gJ 12 (b9 (eP<|aE 12) (cL 6) Zz) m2 [x0,x1,x2,x3,x4,b3<|.bl o,x6,x7,x8,x9,v,b3<|.loc s,b3<|.loc<|s+1,b4] B) Q:=by
 let IF:=IG.frz Y;show AE rfl Y (λi w b=>∃x y,w=[x0,x1,x2,x3,x4,b3<|.bl o,x,x7,x8,x9,v,b3<|.loc s,b3<|.loc<|s+1,y]/\PR μ s j G o i b)
  ⟨x6,b4,rfl,j,cX pre () _,IS0.frz Y,by rw[ô ()];show hs,rfl,(),λz A=>by have:=ll z A;lia,IF,cS Y⟩ ?_ ?_
 .rintro i kk d w b hk ⟨x,y,rfl,S,p1,E,K,T,l1,l2,IG1,X⟩;let⟨z,A,M,rfl,rfl⟩:=AF hk;let hil:=(ä.mp M).1;let lz:=lg z A;let⟨c,e1,J⟩:=Zt E K z.1;show bD<|JU ⟨_,rfl,JV K,Ë.mpr ⟨_,rfl,Ë.mpr<|é.mpr ⟨_,rfl,ĸ _,_,rfl,_,e1,ĉ.mpr<|Ĝ.mpr<|gW ⟨_,rfl,rfl,?_⟩⟩⟩⟩;let O:=aR b<|C.lst [];let I:=E.more O;let g2:=aD O K;let g:=IG1.more O;let p:=aD O X;let N:=p1.trans O;generalize b++[C.lst []]=μ2 at J I g2 g p N;let la:(bW (GZ S) z.1).length<=100+100*i:=by
   by_cases hp:z.1∈S.map (·.1)
   .let⟨t,ht,e⟩:=Aw hp;rw[<- e,Kc E.kd ht];show l2 t ht
   .rw[pK<|by rw[l7];show hp];show ĸ _
  let k:∀L:jq,iU o (GZ S) (z.1,z.2.1)=fX (GZ S) z.1 L->L.length<=100+100*(i+1)->W (vP (.loc s) (PP z.1) (.loc μ2.length)<|μ2++[.lst<|L.map PP]) (PR μ s j G o<|i+1):=λL eo lL=>by
   let R:=aR μ2<|C.lst<|L.map PP;let U:=aD R g2;let⟨S',e3,e4,I4⟩:=(I.more R).put U (p:=z.1)<|bE _ _;show(lW U (b8 z.1)<|by rw[nZ,ò];lia).mpr ?_;rw[e3];show⟨S',cX (N.trans R) ls _,I4,cS U,?_,?_,λy hy=>?_,(g.more R).off U () _,by rw[ô ()];show aD R p⟩
   .rw[w4 M,Oa,<- T,e4,<- eo];rfl
   .rw[<- jI,e4,fX];split
    .rw[Ã,jI];lia
    .rw[ć,jI];change _+1<=_;lia
   .let hy':(y.1,y.2.1)∈fX (GZ S) z.1 L:=by rw[<- e4];show Õ.mpr ⟨y,hy,rfl⟩
    rcases Zu hy' with h|h
    .let⟨t,ht,e⟩:=Õ.mp h;have:=l2 t ht;let J:t.2.1=y.2.1:=congrArg (·.2) e;rw[<- J];lia
    .rw[show y.2.1=L from h];show lL
  let it:∀{Q:jz},Q (.loc z.2.2,μ2)->W (bF (.loc<|s+1) (PP z.1) μ2) Q:=λh=>(fY (.inr p) (b8 z.1)<|sN IG.kd A).mpr h;cases o with
  |true=>show kW rfl (aO ⟨_,rfl,aP rfl rfl<|it<|(sH J (g.at_ z A)<|by rw[Ã,Ã,ò];lia).mpr ⟨_,rfl,_,rfl,?_⟩⟩);have:=k (bW (GZ S) z.1++z.2.1) rfl (by rw[ć];lia);rw[ă]at this;show bP this λ_ q=>⟨rfl,_,_,rfl,q⟩|false=>show gO rfl (aO<|aP rfl rfl<|it ⟨_,rfl,(sH (g.at_ z A) J<|by rw[Ã,Ã,ò];lia).mpr ⟨_,rfl,_,rfl,?_⟩⟩);have:=k (z.2.1++bW (GZ S) z.1) rfl (by rw[ć];lia);rw[ă]at this;show bP this λ_ q=>⟨rfl,_,_,rfl,q⟩
 .rintro w b ⟨x,y,rfl,S,p1,E,K,T,_,_,_,X⟩;rw[nZ,jd<|by rw[jI];show Ø _]at T;show⟨X,H x y S _ (cX p1 () _) (E.thaw X () _) (by rw[ô ()];show K) T⟩
end
def ZC k(O:0<=u/\u<4)(T:∀q,Ě (F q))(nd:qs.Nodup)(hl:qs.length<=36)(hw:g[w]?=b3 (.dT<|bT (λq=>LD<|F q) qs))(I:HI g h Z)(s:g[h]?=b3 (.dT<|bA Z))(P:ī qs (λq=>aC (F q) q) (GZ Z))(Q:jz)(H:∀w' h' (A:Int×Int->Ly) Z' c,g<+:c->c[w']?=b3 (.dT<|bT (λq=>LD<|A q) qs)->HI c h' Z'->c[h']?=b3 (.dT<|bA Z')->(∀q,Ě (A q))->ī qs (λq=>aC (A q) q) (GZ Z')->((A=F/\Z'=Z)\/(A=d7 u n a F/\GZ Z'=sO (cT u n a) (aC<|bS u n) o (GZ Z)))->Q (.tup [.loc w',.loc h'],c)):
  W (f (k+2) "_law_fold" [.loc w,.loc h,.int u,.int n,.bl a,.bl o] g) Q:=by
 let lZ:=P.len.1;rw[jI]at lZ;let gF:(g.set h<|.dF<|bA Z)[h]?=b3 (.dF<|bA Z):=cS s;show Ð (Yr (k+1) _ _ _ _ _ _ g)<|Æ.mpr<|AD rfl s<|Ď.mpr<|jX (xs:=dQ (bA Z)) (p:=λ_=>dI) (v:=λd=>.bl<|cT u n a<|eK d) ?_;rw[Zn rfl gF];show À.mpr ⟨Dd,by rw[dQ,Ã],by rw[dQ,Ã,nZ,ò];lia,λd c hd N=>ù.mpr ⟨rfl,ď _⟩,λd c hd _ N=>?_,λc N hg=>⟨aD N gF,?_⟩⟩
 .let⟨p,hpm,rfl⟩:=Zm hd;show aO<|aO<|aS rfl<|Az k _ u O _ _ λi X=>⟨_,rfl,Ň.mpr ⟨_,rfl,ŭ.mpr ⟨?_,X⟩⟩⟩;rw[Kd];rfl
 let e1:((dQ<|bA Z).filter λ_=>dI).map (λd=>D.bl<|cT u n a<|eK d)=((dQ<|bA Z).map λd=>cT u n a<|eK d).map D.bl:=by rw[zr.mpr λ_ _=>rfl,å];rfl
 rw[e1]at hg;let v:=wZ s N;let lq:(g.set h<|.dF<|bA Z).length=g.length:=Ź;let L:=(sP s (lw lq.symm) (.dT<|bA Z) c).trans hg;generalize(g.set h<|.dF<|bA Z).length=b at L;generalize c.set h (.dT<|bA Z)=μ1 at v L;let⟨b1,i1⟩:=Kj dI L;let⟨b2,i2⟩:=Kj b5 L;let j:=H w h F Z μ1 v (aD v hw) (I.more v) (aD v s) T P<|.inl ⟨rfl,rfl⟩;show Æ.mpr<|Ñ.mpr<|ū.mpr<|cZ<|aP rfl rfl ⟨_,i1,_,rfl,?_⟩;cases b1 with
 |true=>show kW rfl (kW rfl<|cI<|â.mpr ⟨_,rfl,gN,j⟩)|false=>
  show gO rfl<|cZ<|aP rfl rfl ⟨_,i2,_,rfl,?_⟩;cases b2 with
  |true=>show kW rfl (cI<|â.mpr ⟨_,rfl,gN,j⟩)|false=>
   show gO rfl<|Ì.mpr<|bD<|aS rfl<|Y6 k u n O _ _ λμ2 p2=>bD<|ã.mpr<|Æ.mpr ?_;let q2:=v.trans p2;show Zw k O T nd () (aD q2 hw) _ λx i X g3=>bD<|ã.mpr<|bD<|ã.mpr<|Æ.mpr ?_;let Y:=q2.trans X;let l4:(i++[C.dT []]).length=i.length+1:=ć;let M:=bE (i++[C.dT []])<|C.dT [];rw[l4]at M ⊢;show Zy k O (I.more Y) (aD Y s) () ((aR _ _).trans<|aR _ _) (Ø _) (aD (aR _ _)<|bE _ _) M _ λx' S G μ5 p5 IS M K IG g6 J=>Æ.mpr ?_;let lS:S.length<=36:=by rw[<- jI,K,l9];show Ģ (Ž _ _)<|by rw[jI];lia
   let lG:G.length<=36:=by rw[<- jI,J,iH,Ã];show Ģ (Ž _ _)<|by rw[jI];lia
   show ZA IS M IG g6 () (λz U=>?_) (λz U=>?_) p5 (Ø _) _ λx2 y2 S' μ6 p6 R g8 B=>cI<|â.mpr ⟨_,rfl,gN,H _ _ (d7 u n a F) S' μ6 (Y.trans p6) (aD p6 g3) R g8 (Ke T) ?_<|.inr ⟨rfl,by rw[B,K,J];rfl⟩⟩
   .let E:(z.1,z.2.1)∈GZ S:=Õ.mpr ⟨z,U,rfl⟩;rw[K]at E;show Ģ (P.len.2 _ (Ī.mp E).1) ()
   .let E:(z.1,z.2.1)∈GZ G:=Õ.mpr ⟨z,U,rfl⟩;rw[J]at E;let⟨y,hy,e⟩:=Õ.mp E;have:=P.len.2 _ (Ī.mp hy).1;injection e with _ e;rw[<- e,q9];lia
   rw[B,K,J,show(λq=>aC (d7 u n a F q) q)=_ from funext λq=>Zs u n a F q];show Y3 P (wV u n) o
def Kl{a:Type}[DecidableEq a]:∀{l:List a},l.Nodup->∀{p},p∈l->(l.filter λq=>decide<|q=p)=[p]
 |[],_,_,h=>by ext h
 |x::l,nd,p,h=>by
  rw[ő]at nd;by_cases e:x=p
  .subst e;rw[cg ∅,NH.mpr];intro y b w;show nd.1<|of_decide_eq_true w▸b
  .rw[WP<|by simp[e]];show Kl nd.2<|(Č.mp h).resolve_left λw=>e w.symm
abbrev n9(qs:jq):Gr:=qs.map λq=>(q,[q])
def DL qs:(n9 qs).map (·.1)=qs:=by ext n9;rw[å];show MN _
def ZD(nd:qs.Nodup):ī qs (λq=>aC fA q) (n9 qs):=by
 let a:((n9 qs).map (·.1)).Nodup:=by rw[DL];show nd
 show⟨a,λg b=>?_,λp=>?_⟩
 .let⟨q,_,rfl⟩:=Õ.mp b;simp
 .let e:(λq=>decide<|aC fA q=p)=λq=>decide (q=p):=funext λq=>by rw[Au]
  rw[e];by_cases h:p∈qs
  .have:=jZ a (g:=(p,[p]))<|Õ.mpr ⟨p,h,rfl⟩;rw[this,Kl nd h]
  .rw[pK<|by rw[DL];show h,NH.mpr];intro q c w;show h<|of_decide_eq_true w▸c
structure PV(qs:jq)(μ:Hm)(w h:Nat)(F:Int×Int->Ly)(Z:Zr):Prop where
 hw:μ[w]?=b3 (.dT<|bT (λq=>LD<|F q) qs)
 hi:HI μ h Z
 hh:μ[h]?=b3 (.dT<|bA Z)
 di:∀q,Ě (F q)
 pl:ī qs (λq=>aC (F q) q)<|GZ Z
abbrev ZE:MS:=aL (eJ (aE 5) (aE 7)<|cN<|aB (mC<|.int 1)<|aB (mC<|.int 0)<|aB (mC<|.int 0)<|aB (mC<|.int 1)<|aB (mC<|.int 0)<|aB (mC<|.int 0) aF)<|eJ (aE 6) (aE 7)<|cP<|aB (aE 7) aF
inductive T3 (μ0:Hm)(a b l:Nat)(qs:jq)(i:Nat)(μ':Hm):Prop
 |mk (Z:Zr)(p:μ0<+:μ')(g1:μ'[a]?=b3 (.dT<|bT (λ_=>LD fA)<|qs.take i))(I:HI μ' b Z)(g2:μ'[b]?=b3 (.dT<|bA Z))(eG:GZ Z=n9 (qs.take i))(g3:μ'[l]?=b3 (.lst<|qs.map PP)):T3 μ0 a b l qs i μ'
def ZF{μ0 o:Hm}(nd:qs.Nodup)(hl:qs.length<=100)(pre:μ0<+:o)(la:μ0.length<=a)(s:a<b)(w:o[a]?=b3 (.dT []))(p:o[b]?=b3 (.dT []))(gl:o[l]?=b3 (.lst<|qs.map PP))Q(H:∀x Z c,μ0<+:c->PV qs c a b (λ_=>fA) Z->GZ Z=n9 qs->Q (.nx,G::J::K::L::M::b3 (.loc a)::b3 (.loc b)::x::xs,c)):
  W (fP (dC<|.loc l) (cL 7) ZE ((qs.map PP).length+1) 0 (G::J::K::L::M::b3 (.loc a)::b3 (.loc b)::R::xs) o) Q:=by
 let A:a≠l:=λe=>by rw[e,gl]at w;ext w
 let B:b≠l:=λe=>by rw[e,gl]at p;ext p
 show jD (λi g c=>∃x,g=G::J::K::L::M::b3 (.loc a)::b3 (.loc b)::x::xs/\T3 μ0 a b l qs i c)
  ⟨R,rfl,[],pre,w,⟨.inl p,ud,λz hz=>nomatch hz⟩,p,rfl,gl⟩ (by rintro _ _ _ ⟨_,_,_,_,_,_,_,_,h⟩;show h) ?_ ?_
 .rintro i d g c hd ⟨x,rfl,Z,E,k,I,u,j,N⟩;let⟨q,y,rfl⟩:=nD hd;let O:q∉qs.take i:=qR nd y;let lt:(qs.take i).length<=100:=Ģ (ig _ _) hl;let lZ:Z.length<=100:=by rw[<- jI,j,n9,Ã];show lt
  show⟨_,rfl,Æ.mpr<|ĉ.mpr<|â.mpr ⟨_,rfl,Dy,_,rfl,_,rfl,(lW k (b8 q)<|by rw[Ã,ò];lia).mpr ?_⟩⟩;let X:cC (bT (λ_=>LD fA)<|qs.take i) (aV q) (LD fA)=bT (λ_=>LD fA) (qs.take<|i+1):=by rw[jK y];show DJ (v:=λ_=>LD fA) O
  let p2:=cX E la<|C.dT<|bT (λ_=>LD fA)<|qs.take<|i+1;let n:=aR (c.set a<|C.dT<|bT (λ_=>LD fA)<|qs.take<|i+1)<|C.lst [PP q];let v:=aD n<|(ô<|Ā s).trans u;let⟨U,Y,e4,T⟩:=((I.off k (Ţ s) _).more n).put v (p:=q) (L:=[q])<|bE _ _;rw[show D.tup [.int 1,.int 0,.int 0,.int 1,.int 0,.int 0]=LD fA from rfl,X];show ĉ.mpr (é.mpr ⟨_,rfl,Dk,_,rfl,_,rfl,(lW v (b8 q)<|by rw[nZ,ò];lia).mpr ?_⟩);rw[Y];show⟨_,rfl,U,cX (p2.trans n) () _,(ô<|Ţ s).trans<|aD n<|cS k,T,cS v,?_,(ô B).trans<|aD n<|(ô A).trans N⟩;rw[e4,j,DK<|by rw[DL];show O,jK y,n9,n9,ă];rfl
 .rintro g c ⟨x,rfl,Z,E,k,I,u,j,N⟩;rw[Ã,ź]at k j;show H x Z c E ⟨k,I,u,λ_=>JH,by rw[j];show ZD nd⟩ j
inductive T1 (J:(Int×Int->Ly)->Gr->Prop)(ns:List Int)(w h c m:Int)(μ:Hm):aG->Hm->Prop
 |mk {a b:Nat}(F:Int×Int->Ly)(Z:Zr){x7 x8 x9 ww Nc Nb Na:Option D}{μ':Hm}(p:μ<+:μ')(G:PV (cB w h) μ' a b F Z)(j:J F (GZ Z)):T1 J ns w h c m μ [b3<|.rol<|ns.map D.int,b3<|.int w,b3<|.int h,b3<|.int c,b3<|.int m,b3<|.loc a,b3<|.loc b,x7,x8,x9,ww,Nc,Nb,Na] μ'
def ZG(J:(Int×Int->Ly)->Gr->Prop)k(ns:List Int)w h(L:J (λ_=>fA) (n9<|cB w h))(M:∀F G u n a o,0<=u/\u<4->n%4=0->ī (cB w h) (λq=>aC (F q) q) G->J F G->J (d7 u n a F) (sO (cT u n a) (aC<|bS u n) o G))(hw:1<=w/\w<=3)(hh:1<=h/\h<=3)c m(hc:0<=c/\c<=50)(hm:0<=m/\m<=10)(nd:(cB w h).Nodup)(hl:(cB w h).length<=36)(h1:1<=(cB w h).length)(g:Hm)(Q:jz)(H:∀a b F Z e,g<+:e->PV (cB w h) e a b F Z->J F (GZ Z)->Q (.tup [.loc a,.loc b],e)):W (f (k+3) "_law_grown" [.rol<|ns.map D.int,.int w,.int h,.int c,.int m] g) Q:=by
 show Ð (Ys (k+2) _ _ _ _ _ g)<|bD<|ã.mpr<|bD<|ã.mpr<|Æ.mpr<|É.mpr<|Ó.mpr<|aS rfl<|Zc (k+1) w h hw hh _ _<|(eE<|bE _ _).mpr ?_;show ZF (μ0:=g) nd () (((aR _ _).trans<|aR _ _).trans<|aR _ _) (Ø _) (by rw[ć];show Ϥ _) (aD ((aR _ _).trans<|aR _ _)<|bE _ _) (aD (aR _ _)<|bE _ _) (bE _ _) _ λx Z μ1 p1 I X=>fU (É.mpr<|(Ag (j:=0)).mpr ⟨_,rfl,(),?_⟩);show qM (λ_=>T1 J ns w h c m g) (.mk _ Z p1 I<|by rw[X];show L) ?_ ?_
 .rintro i z j hi ⟨F,Z,y,G,s⟩;let lZ:=G.pl.lenZ.1;let zp:0<(kU<|Z.map (·.1)).length:=by rw[Zf,Ã];let⟨q,hq⟩:=List.exists_mem_of_length_pos (l:=cB w h) h1;have:=G.pl.key.mpr ⟨q,hq,rfl⟩;rw[l7]at this;have:=RI this;rwa [Ã]at this
  show⟨_,rfl,bD<|aS rfl<|AA k ns _ () _ _ λv p v0 v1 B=>bD<|aP rfl rfl<|ě.mpr<|bD<|aS rfl<|(Zl G.hi.kd (aD B G.hh) ()).mpr<|bD ?_⟩;let p4:=aR p<|C.lst<|(kU<|Z.map (·.1)).map PP;let A:=bE p<|C.lst<|(kU<|Z.map (·.1)).map PP;let R:=ND (v/4) (show((kU<|Z.map (·.1)).length:Int)≠0 by lia);let T:=NK (v/4) (show 0<((kU<|Z.map (·.1)).length:Int) by lia);show dG (aQ<|aO ⟨_,rfl,aO<|aP rfl rfl<|jj.mpr<|aS rfl<|(jF A).mpr<|(iE<|by rw[Ã];lia).mpr ?_⟩);rw[Ã];show(dX A<|Zo (Ds R T)<|ā ()).mpr ⟨_,rfl,Az (k+1) _ (v%4) () _ _ λμ5 p5=>bD<|aO<|aP rfl rfl<|(sG ⋯<|by decide).mpr ⟨_,rfl,ě.mpr<|ĝ.mpr<|aS rfl ?_⟩⟩;let d:=(B.trans p4).trans p5;show ZC k () G.di nd hl (aD d G.hw) (G.hi.more d) (aD d G.hh) G.pl _ λw' h' E O μ6 p6 g6 K g7 U N Y=>ŕ.mpr<|.mk E O (y.trans<|d.trans p6) ⟨g6,K,g7,U,N⟩ ?_;rcases Y with⟨rfl,rfl⟩|⟨rfl,e7⟩
  .show s
  .rw[e7];show M F _ _ _ _ _ () () G.pl s
 .rintro z j ⟨F,Z,y,G,s⟩;show⟨rfl,cI<|â.mpr ⟨_,rfl,gN,H _ _ F Z j y G s⟩⟩
def Km u n p:aC (bS u n) p=if u=0 then(p.1,2*n-p.2)else if u=1 then(2*n-p.1,p.2)else if u=2 then(p.2+n,p.1-n)else(n-p.2,n-p.1):=by
 ext bS aC;split
 .show Ē ?_ ?_<;>dsimp<;>lia
 split
 .show Ē ?_ ?_<;>dsimp<;>lia
 split
 .show Ē ?_ ?_<;>dsimp<;>lia
 .show Ē ?_ ?_<;>dsimp<;>lia
def ZH u n:dZ (bS u n)=-1:=by
 ext bS dZ;split
 .rfl
 split
 .rfl
 split
 .rfl
 .rfl
def AH(h:Ě A):(dZ A=1/\A.c=-A.b/\A.d=A.a)\/(dZ A=-1/\A.c=A.b/\A.d=-A.a):=by
 let⟨a,b,c,d,e,g⟩:=A;unfold Ě at h;ext dZ;dsimp at h ⊢;rcases h with⟨rfl,rfl,h1,i⟩|⟨rfl,rfl,h1,i⟩
 .rcases h1 with rfl|rfl<;>rcases i with rfl|rfl<;>decide
 .rcases h1 with rfl|rfl<;>rcases i with rfl|rfl<;>decide
def Kn{a:Int}(h1:a*x+b*y=0)(e:a*y-b*x=0)(hd:x*x+y*y≠0):a=0/\b=0:=by
 let c:a*(x*x+y*y)=0:=by grind
 let d:b*(x*x+y*y)=0:=by grind
 show⟨(iw.mp c).resolve_right hd,(iw.mp d).resolve_right hd⟩
def ZI{p:Int×Int}(h:p≠q):(p.1-q.1)*(p.1-q.1)+(p.2-q.2)*(p.2-q.2)≠0:=λe=>by
 let h1:(p.1-q.1)*(p.1-q.1)=0/\(p.2-q.2)*(p.2-q.2)=0:=by
  let a:∀z:Int,0<=z*z:=λz=>by
   rcases Int.le_total 0 z with h|h
   .show Int.mul_nonneg h h
   .show Int.mul_nonneg_of_nonpos_of_nonpos h h
  have:=a<|p.1-q.1;have:=a<|p.2-q.2;omega
 show h<|Ē ?_ ?_
 .rcases iw.mp h1.1 with z|z<;>lia
 .rcases iw.mp h1.2 with z|z<;>lia
def ZJ{C:Ly}(hB:Ě B)(hC:Ě C)(hd:dZ B=dZ C)(R:p≠q)(h1:aC B p=aC C p)(n:aC B q=aC C q):B=C:=by
 let j:=AH hB;let k:=AH hC;let nz:=ZI R;clear R;let⟨x,y⟩:=p;let⟨z,w⟩:=q;unfold aC at h1 n;injection h1 with u1 u2;injection n with v1 v2;dsimp at nz u1 u2 v1 v2;let h:(B.a-C.a)*(x-z)+(B.b-C.b)*(y-w)=0:=by grind
 let i:(B.c-C.c)*(x-z)+(B.d-C.d)*(y-w)=0:=by grind
 let key:B.a-C.a=0/\B.b-C.b=0:=by
  rcases j with⟨a,c,d⟩|⟨a,c,d⟩<;>rcases k with⟨c1,c2,c3⟩|⟨c1,c2,c3⟩
  .show Kn h (by rw[c,d,c2,c3]at i;grind) nz
  .rw[hd,c1]at a;ext a
  .rw[hd,c1]at a;ext a
  .show Kn h (by rw[c,d,c2,c3]at i;grind) nz
 let e:B.a=C.a:=()
 let g:B.b=C.b:=()
 let b:B.c=C.c/\B.d=C.d:=by
  rcases j with⟨a,c,d⟩|⟨a,c,d⟩<;>rcases k with⟨c1,c2,c3⟩|⟨c1,c2,c3⟩
  .rw[c,d,c2,c3,e,g];show⟨rfl,rfl⟩
  .rw[hd,c1]at a;ext a
  .rw[hd,c1]at a;ext a
  .rw[c,d,c2,c3,e,g];show⟨rfl,rfl⟩
 show Ly.ext' e g b.1 b.2 ?_ ?_
 .rw[e,g]at u1;lia
 .rw[b.1,b.2]at u2;lia
def Ko{P:Int->Int->Prop}(h:∀a∈[(0:Int),1,2,3],∀b∈[(0:Int),1,2,3],P a b)x y:P (x%4) (y%4):=by
 let m:∀z:Int,z%4∈[(0:Int),1,2,3]:=λz=>by
  have:z%4=0\/z%4=1\/z%4=2\/z%4=3:=()
  apply this
 show h _ (m x) _<|m y
def sQ(z:Int):z%4%2=z%2:=RO z ⋯
abbrev cJ(x y:Int):Bool:=x%2==y%2&&(x%2==1||!(x%4==y%4))
abbrev sA(e:Int×Int):Int×Int:=if e.1%2=1 then(e.1,e.2+2-e.2%4)else if e.2%4=0 then(e.1,e.2-1)else(e.1-1,e.2)
abbrev sB(e:Int×Int):Int×Int:=if e.1%2=1 then(e.1+2-e.1%4,e.2)else if e.2%4=0 then(e.1,e.2+1)else(e.1+1,e.2)
def uJ{e:Int×Int}(h:cJ e.1 e.2=dI):(e.1%2=1/\e.2%2=1)\/(e.1%2=0/\e.2%4=0/\e.1%4=2)\/(e.1%2=0/\e.2%4=2/\e.1%4=0):=by unfold cJ at h;rw[<- sQ e.1,<- sQ e.2]at h ⊢;revert h;show Ko (P:=λa b=>(a%2==b%2&&(a%2==1||!(a==b)))=dI->(a%2=1/\b%2=1)\/(a%2=0/\b=0/\a=2)\/(a%2=0/\b=2/\a=0)) ⋯ e.1 e.2
def AI(h:cJ e.1 e.2=dI):eQ (sA e) e=sB e/\eQ (sB e) e=sA e:=by
 have:=uJ h;unfold eQ sA sB;rcases this with⟨h1,b⟩|⟨h1,b,a⟩|⟨h1,b,a⟩
 .dsimp[if_pos h1];by_cases a:e.1%4=e.2%4
  .dsimp[if_pos a];show⟨Ē ?_ ?_,Ē ?_ ?_⟩<;>dsimp<;>lia
  .dsimp[if_neg a];show⟨Ē ?_ ?_,Ē ?_ ?_⟩<;>dsimp<;>lia
 .dsimp[if_neg<|show ¬ e.1%2=1 by lia,if_pos b];show⟨Ē ?_ ?_,Ē ?_ ?_⟩<;>dsimp<;>lia
 .dsimp[if_neg<|show ¬ e.1%2=1 by lia,if_neg<|show ¬ e.2%4=0 by lia];show⟨Ē ?_ ?_,Ē ?_ ?_⟩<;>dsimp<;>lia
def EdF.pos{F:Int×Int->Ly}(a:cJ e.1 e.2=dI)(h:F (sA e)=c9 (fV e) (F<|sB e)):aC (F<|sA e) (sA e)=aC (F<|sB e) (sB e):=by rw[h,jY,kQ,(AI a).1]
def ZK u n:c9 (bS u n) (bS u n)=fA:=Dx λp=>by rw[jY,wV,Au]
abbrev j4(a:List Int):Bool:=decide (a.length<=8)&&decide (a.length%2=0)&&a.all (λg=>decide<|1<=g)&&nY a==0
def ZL k i a(Q:jz):W (f (k+1) "is_whole" [.int i] a) Q↔Q (.bl dI,a):=by rw[Ju,ß];dsimp[Ï,î,Jd,Ý,Ë,dR,cE,eX,Jh,Ji];simp
def ZM:∀i,i.length<=8->i.length%2=0->∃es j:List Int,gH (i.map D.int) b4 b4 (b3 2)=es.map D.int/\gH (i.map D.int) (b3 1) b4 (b3 2)=j.map D.int/\es.sum-j.sum=nY i/\es.length<=8/\j.length<=8
 |[],_,_=>⟨[],[],rfl,rfl,rfl,⋯,⋯⟩|[_],_,h=>by simp at h
 |[a,b],_,_=>⟨[a],[b],"","",by simp[nY]<;>lia,∅,∅⟩|[_,_,_],_,h=>by simp at h
 |[a,b,c,d],_,_=>⟨[a,c],[b,d],"","",by simp[nY]<;>lia,∅,∅⟩|[_,_,_,_,_],_,h=>by simp at h
 |[a,b,c,d,e,g],_,_=>⟨[a,c,e],[b,d,g],"","",by simp[nY]<;>lia,∅,∅⟩|[_,_,_,_,_,_,_],_,h=>by simp at h
 |[a,b,c,d,e,g,x,y],_,_=>⟨[a,c,e,x],[b,d,g,y],"","",by simp[nY]<;>lia,∅,∅⟩|_::_::_::_::_::_::_::_::_::_,h,_=>absurd h ∅
def Kq{a:List Int}(h:d∈a.map D.int):∃g∈a,d=.int g:=by let⟨g,h1,rfl⟩:=Õ.mp h;show⟨g,h1,rfl⟩
def AJ{a:Type}(l:List a):l.filter (λ_=>dI)=l:=∅
def Kr{o:Option a}{r:a}:W o (λx=>x=r)->o=b3 r:=λ⟨_,e,q⟩=>e.trans<|congrArg b3 q
def ZN k a b(hz:b.length<=8)(h:Hm)(Q:jz)(q:h[a]?=b3 (.lst<|b.map D.int))(H:∀μ',h<+:μ'->Q (.bl<|j4 b,μ')):W (f (k+2) "is_good" [.loc a] h) Q:=by
 let u:dD [.loc a] h=b3 (.int (b.length:Nat),h):=Kr ((jF q).mpr<|by rw[Ã]);let A:j4 b=(decide (b.length%2=0)&&b.all (λg=>decide<|1<=g)&&nY b==0):=by ext j4;rw[decide_eq_true hz,OF]
 rw[A]at H;show Ð (XA (k+1) _ h)<|Dn (b:=(b.length:Int)%2==1) (μ':=h) (Kr<|Dq<|cZ<|aO<|aS rfl<|iG u ⟨_,rfl,Ň.mpr ⟨_,rfl,decide_eq_false (),cZ<|aO<|aO<|aS rfl<|iG u ⟨_,rfl,ĥ.mpr ⟨_,rfl,û.mpr ⟨_,rfl,rfl⟩⟩⟩⟩⟩) (λn=>?_) λn=>nX ?_
 .let n:=beq_iff_eq.mp n;rw[decide_eq_false<|show ¬ b.length%2=0 by lia]at H;show Dp ⟨_,rfl,H _<|ď _⟩
 .let n:=beq_eq_false_iff_ne.mp n;let v:b.length%2=0:=()
  rw[decide_eq_true v,OF]at H;let⟨z,I,x,o,G,L,M⟩:=ZM b hz v;let fin:∀(R:Fl×aG×Hm->Prop) c,h<+:c->(∀K μ',h<+:μ'->R (.rt<|.bl<|nY b==0,K,μ'))->W (aM (aA (aZ b5) (bJ oS<|aB (pY (aE 0) mJ mJ<|mK<|mC<|.int 2) aF)<|bJ oS<|aB (pY (aE 0) (mK<|mC<|.int 1) mJ<|mK<|mC<|.int 2) aF) [b3<|.loc a] c) R:=λR c y B=>by
   let i:=aD y q;show cI (aO<|Dm<|Jl ⟨_,rfl,_,rfl,_,rfl,_,rfl,_,rfl,by change b3 (2:Int)≠b3 0;decide,_,i,by rw[x,Ã,ò];lia,?_⟩);rw[x];show(Jk<|bE _ _).mpr (Dm<|Jl ⟨_,rfl,_,rfl,_,rfl,_,rfl,_,rfl,by change b3 (2:Int)≠b3 0;decide,_,aD (aR _ _) i,by rw[o,Ã,ò];lia,?_⟩);rw[o];show(Jk<|bE _ _).mpr<|û.mpr ?_;let e:(z.sum==I.sum)=(nY b==0):=by rw[<- G,Ψ,beq_iff_eq,beq_iff_eq];lia
   rw[e];show B _ _<|y.trans<|(aR _ _).trans<|aR _ _
  show Æ.mpr<|Ñ.mpr<|sL<|gW (b:=b.all λg=>decide<|1<=g)<|Dm<|jX (xs:=b.map D.int) (p:=λ_=>dI) (v:=λd=>.bl<|decide<|1<=sX d)<|Ó.mpr ⟨_,rfl,(eE q).mpr ⟨mV q,rfl,by rw[Ã,ò];lia,λd μ' hd E=>ù.mpr ⟨rfl,ď _⟩,λd μ' hd _ E=>?_,λc p s=>?_⟩⟩
  .let⟨g,_,rfl⟩:=Kq hd;show î.mpr<|aS rfl<|(ZL k g _ _).mpr<|(if_pos rfl).mpr<|aP rfl rfl<|xf.mpr ⟨rfl,ď _⟩
  .let j:c[h.length]?=b3 (.lst<|(b.map λg=>decide<|1<=g).map D.bl):=by rw[s,AJ,å,å];rfl
   show(Xd j).mpr ⟨by rw[O9];rfl,?_⟩;cases w:b.all λg=>decide (1<=g)with
   |false=>rw[w]at H;show(if_pos rfl).mpr (Ï.mpr ⟨_,rfl,H _ p⟩)|true=>rw[w]at H;show(if_neg ø).mpr<|Ì.mpr<|fin _ c p λ_ μ' J=>H μ' J
abbrev qS(h:Int)(x:Int):jq:=(ą (4*h-1).toNat).map λ(j:Nat)=>(x,1+(j:Int))
abbrev pL(h:Int)(n:Nat):jq:=(ą n).flatMap λ(i:Nat)=>qS h<|1+(i:Int)
abbrev j5(w h:Int):jq:=pL h (4*w-1).toNat
def Ks h n:pL h (n+1)=pL h n++qS h (1+(n:Int)):=by ext pL;rw[N1,vd];simp
def Kt h x:(qS h x).length=(4*h-1).toNat:=by ext qS;simp
def DM h:∀n,(pL h n).length=n*(4*h-1).toNat
 |0=>by simp[pL]
 |n+1=>by rw[Ks,ć,DM h n,Kt,O4]
def Ku{h:Int}(b:h<=6)(a:n<=23):n*(4*h-1).toNat<=529:=by have:n*(4*h-1).toNat<=23*23:=Qb a ();lia
def ZO h x:((pI 1 (4*h-1).toNat).filter λ_=>dI).map (λd=>P x<|sX d)=(qS h x).map PP:=by ext pI qS;rw[show ∀l:List D,l.filter (λ_=>dI)=l from λl=>∅,å,å];rfl
def Kv k w h(hw:1<=w/\w<=6)(u:1<=h/\h<=6)(c:Hm)(Q:jz)(H:∀a μ',c<+:μ'->μ'[a]?=b3 (.lst<|(j5 w h).map PP)->c.length<=a->Q (.loc a,μ')):W (f (k+1) "places_within" [.int w,.int h] c) Q:=by
 rw[Xv,ß];dsimp[Æ,Ď,é,dR];show⟨ĸ _,?_⟩;dsimp[Λ,δ,É,Ġ,Ë,dR,eX,æ,cE,cY,sI];show⟨(),?_⟩;show qM (lo:=1) (λi s μ'=>c<+:μ'/\μ'[c.length]?=b3 (.lst<|(pL h i).map PP)/\∃o,s=[b3<|.int w,b3<|.int h,b3<|.loc c.length,o]) ⟨aR _ _,bE _ _,b4,rfl⟩ ?_ ?_
 .rintro i s q hi ⟨p,e,o,rfl⟩;show⟨_,rfl,?_⟩;dsimp[Λ,δ,í];show jE ?_;dsimp[cE,cY];show⟨iF e,?_⟩;dsimp[Ë,dR];show jX (xs:=pI 1 (4*h-1).toNat) (p:=λ_=>dI) (v:=λd=>P (1+(i:Int))<|sX d) ?_;dsimp[Ġ,Ë,dR,eX,æ,cE,cY,sI];show⟨(),W9,by simp[pI],by rw[ò];simp[pI];lia,?_,?_,?_⟩
  .intro d μ' hd p;show ù.mpr ⟨rfl,ď _⟩
  .intro d μ' hd _ p;let⟨j,x,rfl⟩:=YA hd;dsimp[ϥ,ϣ,â,Ë,dR,cE,cY,gN,true_and];show⟨rfl,ď _⟩
  .intro v b g;rw[ZO]at g;let n:((pL h i).map PP).length+((qS h<|1+(i:Int)).map PP).length<=Ò:=by let h1:=Ku (h:=h) u.2 (n:=i+1) ();rw[O4]at h1;rw[Ã,Ã,DM,Kt,ò];lia
   show(Ah (aD b e) g n).mpr ?_;show⟨cX (p.trans b) (Ø _) _,?_,_,rfl⟩;rw[ϡ (ä.mp<|aD b e).1,Ks,ă]
 .rintro s q ⟨p,e,o,rfl⟩;dsimp[Ï,cE,cY];show H _ _ p e<|Ø _
def DN(hw:w<=6)(a:h<=6):(j5 w h).length<=529:=by ext j5;rw[DM];show Ku a ()
abbrev mv(x y:Int)(l:jq):jq:=l.map λs=>(x+s.1,y+s.2)
def Kw k x y l(g:l.length<=63)(c:Hm)(Q:jz)(h:∀a μ',c<+:μ'->μ'[a]?=b3 (.lst<|(mv x y l).map PP)->c.length<=a->Q (.loc a,μ')):W (f (k+1) "moved_by" [P x y,.tup<|l.map PP] c) Q:=by
 rw[Xo,ß];dsimp[Ï];show jX (xs:=l.map PP) (p:=λ_=>dI) (v:=λd=>PP (x+(eK d).1,y+(eK d).2)) ?_;dsimp[Ó,cE,cY];show ϩ.mpr ?_;show⟨Dd,rfl,by rw[Ã,ò];lia,λd μ' hd b=>À.mpr ⟨rfl,ď _⟩,λd μ' hd _ b=>?_,λμ' b e=>?_⟩
 .let⟨u,v,rfl⟩:=wR hd;dsimp[ϥ,ϣ,â,æ,eX,Ë,dR,cE,cY,ğ,ú,Û,gN,true_and];show⟨rfl,ď _⟩
 .show h _ _ b ?_<|Ø _;rw[e,zr.mpr λ_ _=>rfl,å];ext mv;rw[å];rfl
abbrev E8:jq:=[(2,0),(1,1),(0,2),(-1,1),(-2,0),(-1,-1),(0,-2),(1,-1)]
abbrev F4:jq:=[(1,1),(-1,1),(-1,-1),(1,-1)]
abbrev b3l:jq:=[(2,1),(1,2),(-1,2),(-2,1),(-2,-1),(-1,-2),(1,-2),(2,-1)]
abbrev b3r:jq:=[(0,1),(-1,0),(0,-1),(1,0)]
abbrev fZ(x:Int):jq:=if x%4=0 then E8 else F4
abbrev ZP(x:Int):jq:=if x%4=0 then b3l else b3r
def Ky k x y(b:Hm)(Q:jz)(h:∀a μ',b<+:μ'->μ'[a]?=b3 (.lst<|(mv x y<|fZ x).map PP)->b.length<=a->Q (.loc a,μ')):W (f (k+2) "edges_round" [P x y] b) Q:=by
 rw[Xp,ß];dsimp[Ï,Ý,Ë,dR,cE,Ĝ,ĕ,æ,eX,ğ,ě,û];unfold fZ at h;by_cases e:x%4=0
 .rw[if_pos e]at h;rw[e];show Kw k x y E8 ⋯ b _ h
 .rw[if_neg e]at h;rw[if_neg<|by apply e];show Kw k x y F4 ⋯ b _ h
def w5 kvs k:(a9 kvs k).isSome=kvs.any λp=>decide (p.1=k):=by ext a9;rw[zq,Ψ,RD,oh]
def ZQ kvs k k' d:(a9 (cC kvs k d) k').isSome=(decide (k=k')||(a9 kvs k').isSome):=by
 ext cC;split
 .rename_i h;let e:(kvs.map λp=>if p.1=k then(p.1,d)else p).any (λp=>decide<|p.1=k')=kvs.any λp=>decide (p.1=k'):=by rw[OA];congr 1;funext p;dsimp[Function.comp];split<;>rfl
  rw[w5,e,w5 kvs k'];by_cases z:k=k'
  .subst z;rw[w5]at h;rw[h];simp
  .simp[z]
 .rw[w5,List.any_append,w5];dsimp[OG,List.any_nil,MY];show Bool.or_comm _ _
abbrev jW(bs:List Bool):List Int:=((ą bs.length).filter λi=>bs.getD i b5).map λ(i:Nat)=>(i:Int)
abbrev gX(bs:List Bool):List Int:=((jW bs).zip<|(jW bs).drop 1++((jW bs).take 1).map λs=>s+(bs.length:Int)).map λp=>(p.2-p.1)*(8/(bs.length:Int))
abbrev MD(m:(Int×Int)×Str):D:=.tup [PP m.1,.str m.2]
def ZR{z:Int}(n:Nat)(h0:0<=z)(h1:z<n):∃k,k<n/\(k:Int)=z:=⟨z.toNat,(Int.toNat_lt h0).mpr h1,Int.toNat_of_nonneg h0⟩
def Kz(hz:1<=z/\z<=6):z∈[(1:Int),2,3,4,5,6]:=by let⟨k,a,rfl⟩:=ZR 7 (Int.le_trans ⋯ hz.1) (Int.lt_of_le_of_lt hz.2 ⋯);show(by decide:∀k:Nat,k<7->1<=(k:Int)/\(k:Int)<=6->(k:Int)∈[(1:Int),2,3,4,5,6]) k a hz
abbrev sR(p:Int×Int):Bool:=p.1%2==0&&p.1%4==p.2%4
def ZS k x y a(Q:jz):W (f (k+1) "is_corner" [P x y] a) Q↔Q (.bl<|sR (x,y),a):=by rw[Xk,ß];dsimp[Ï,î,æ,eX,cE,ğ,ú,û,ĥ,ě];ext sR;cases x%2==0<;>simp
abbrev bG(a:List ((Int×Int)×Str))(p:Int×Int):Bool:=(a.map (·.1)).any λq=>q==p
def KA:∀a:List<|(Int×Int)×Str,tX (a.map MD)=b3 (a.map λm=>(aV m.1,D.str m.2))
 |[]=>rfl|m::a=>by rw[ö,ö];change(dP<|PP m.1).bind (λk=>(tX<|a.map MD).map λl=>(k,D.str m.2)::l)=_;rw[KA a];rfl
def KG k:∀(l kvs:jx),(a9 (l.foldl (λq p=>cC q p.1 p.2) kvs) k).isSome=((a9 kvs k).isSome||l.any λp=>decide<|p.1=k)
 |[],kvs=>∅
 |p::l,kvs=>by rw[ur,KG k l,ZQ,OG];cases decide (p.1=k)<;>cases(a9 kvs k).isSome<;>simp
def ZT p q:decide (aV p=aV q)=(p==q):=by rw[Ψ];dsimp[decide_eq_true_eq,beq_iff_eq,aV,RU,and_true,QN]
def ZU a p:(a9 ((a.map λm=>(aV m.1,D.str m.2)).foldl (λq p=>cC q p.1 p.2) [])<|aV p).isSome=bG a p:=by rw[KG];ext bG;rw[OA,OA];change(b5||_)=_;rw[yu];congr 1;funext m;show ZT m.1 p
def Ŭ{Q:jz}:W (bF (.tup [a,b,c]) (.int 2) d) Q↔Q (c,d):=À
noncomputable abbrev SH(w h:Int)(a:List ((Int×Int)×Str)):D:=.tup [.int w,.int h,.tup<|a.map MD]
def Ϫ{b:List ((Int×Int)×Str)}{Q:jz}:W (r8 [.tup<|b.map MD] a) Q↔Q (.loc a.length,a++[.dT<|(b.map λm=>(aV m.1,D.str m.2)).foldl (λq p=>cC q p.1 p.2) []]):=by
 have:r8 [.tup<|b.map MD] a=b3 (.loc a.length,a++[.dT<|(b.map λm=>(aV m.1,D.str m.2)).foldl (λq p=>cC q p.1 p.2) []]):=by dsimp[r8,KA,ė]
 rw[this];show À
def KH k w h b x y(i:Hm)(Q:jz)(H:∀a μ',i<+:μ'->μ'[a]?=b3 (.lst<|((mv x y<|fZ x).filter<|bG b).map PP)->Q (.loc a,μ')):W (f (k+3) "creases_at" [SH w h b,P x y] i) Q:=by
 rw[XB,ß];dsimp[Æ,Ď,Ý,Ë,dR,cE,cY];rw[Jw,ß];dsimp[Ï,Ý,Ë,dR,æ,cE,eX,Ŭ,Ϫ,Λ,δ];show jX (xs:=(mv x y<|fZ x).map PP) (p:=λd=>bG b<|eK d) (v:=λd=>d) ?_;dsimp[Ó,Ý,Ë,dR,cE,cY];show Ky k x y _ _ λa n g e o=>?_;show(eE e).mpr ⟨mV e,rfl,?_,λd μ' hd c=>?_,λd μ' hd _ c=>?_,λμ' c j=>?_⟩
 .rw[Ã,ò];ext mv fZ;rw[Ã];split<;>decide
 .let⟨u,v,rfl⟩:=wR hd;dsimp[ϥ,ϣ,ĕ,æ,cE,cY];show(uF (aD (g.trans c)<|bE _ _)<|b8 (u,v)).mpr ?_;dsimp[ŀ,if_false];show⟨ZU b (u,v),ď _⟩
 .dsimp[ϥ,ϣ,cE,cY];show⟨trivial,ď _⟩
 .show H _ _ ((aR _ _).trans<|g.trans c) ?_;rw[j,uH<|bG b]
def KI a q:∀ps:jq,pZ a (PP q) (ps.map PP)=b3 (ps.map λp=>p==q)
 |[]=>rfl|p::ps=>by rw[ö,ö];dsimp[pZ,KI a q ps];rw[Xa 6];rfl
def ZV{ps:jq}{Q:jz}(h:b[a]?=b3 (.lst<|ps.map PP))(d:q∈ps)(hz:ps.length<=Ò):W (tV (.loc a) [PP q] b) Q↔Q (.int (ps.idxOf q:Nat),b):=by
 let e:(ps.map λp=>p==q).findIdx id=ps.idxOf q:=by rw[List.findIdx_map];rfl
 let c:ps.idxOf q<ps.length:=SA d;dsimp[tV,h,KI,ē];rw[e,Ã,if_pos ⟨c,hz⟩];show À
def ZW{es:jq}(b:es.Nodup)(hi:i<es.length):es.idxOf (es.getD i (0,0))=i:=by
 let e:es.getD i (0,0)=es[i]:=by simp[ĭ,hi]
 rw[e];let a:es.idxOf es[i]<es.length:=SA<|iz hi;let h1:es[es.idxOf es[i]]=es[i]:=List.getElem_idxOf a;rcases Ol (es.idxOf es[i]) i with h|h|h
 .show absurd h1<|(uz.mp b) _ i a hi h
 .show h
 .show absurd h1.symm<|(uz.mp b) i _ hi a h
def DO{es:jq}(b:es.Nodup)m:(es.filter m).map (λq=>((es.idxOf q:Nat):Int))=jW (es.map m):=by
 let h1:es.filter m=((ą es.length).filter λi=>m<|es.getD i (0,0)).map λi=>es.getD i (0,0):=by
  conv=>lhs;rw[<- DB es (0,0)]
  rw[zg];rfl
 ext jW;rw[h1,å,Ã];let a:(ą es.length).filter (λi=>m<|es.getD i (0,0))=(ą es.length).filter λi=>(es.map m).getD i false:=by show OY λi hi=>?_;let hi:=Ō.mp hi;simp[ĭ,hi]
 rw[<- a];show Ť λi hi=>?_;let hi:=Ō.mp (Ī.mp hi).1;change((es.idxOf (es.getD i (0,0)):Nat):Int)=_;rw[ZW b hi]
def KJ x y(h:l.Nodup):(mv x y l).Nodup:=by ext mv;change List.Pairwise _ _;rw[Ob];show b4n (λ{a b} c e=>c ?_) h;dsimp[QN]at e ⊢;lia
def KL x:(fZ x).Nodup:=by ext fZ;split<;>decide
def KN x:(fZ x).length=8\/(fZ x).length=4:=by
 ext fZ;split
 .show .inl rfl
 .show .inr rfl
def ZX(b:List Int):nI (b.map D.int) (b3 1) b4=(b.drop 1).map D.int:=by
 cases b with
 |nil=>rfl|cons a l=>ext nI;rw[show(1:Int)=((1:Nat):Int)from rfl,HT.sIx_nat,HT.sIx_none,Ã,OV ∅,<- List.map_drop,jd<|by rw[Ã,uv];lia]
def ZY(b:List Int):nI (b.map D.int) b4 (b3 1)=(b.take 1).map D.int:=by
 cases b with
 |nil=>rfl|cons a l=>ext nI;rw[show(1:Int)=((1:Nat):Int)from rfl,HT.sIx_nat,HT.sIx_none,Ã,OV ∅,OT,OK,yw]
abbrev sS(a b:List Int):List D:=(a.zip b).map PP
def ZZ{e:Hm}(h:e[a]?=b3 (.lst<|c.map D.int))(j:e[b]?=b3 (.lst<|d.map D.int)):∀μ' i,e<+:μ'->jU (.loc a) (.loc b) μ' i=b3 (sS c d)[i]?:=λμ' i g=>by dsimp[jU,bO,aD g h,aD g j,ē,ė];ext sS List.zip;rw[ÿ,ÿ,ÿ,Rh];cases c[i]?<;>cases d[i]?<;>rfl
def KO k w h g x y(K:Hm)(Q:jz)(H:∀a μ',K<+:μ'->μ'[a]?=b3 (.lst<|(gX<|(mv x y<|fZ x).map<|bG g).map D.int)->Q (.loc a,μ')):W (f (k+4) "gaps_at" [SH w h g,P x y] K) Q:=by
 let E:=KN x;let o:(mv x y<|fZ x).length=(fZ x).length:=by ext mv;rw[Ã]
 let p:=KJ x y<|KL x;show Ð (XC (k+3) _ _ K)<|bD<|aS rfl<|Ky (k+1) x y _ _ λa1 μ1 p1 X l1=>bD<|aS rfl<|KH k w h g x y _ _ λa2 L O v=>?_;let c:=aD O X;generalize hes:mv x y (fZ x)=es at c v o p H;let G:(es.filter<|bG g).length<=8:=Ģ (Ž _ _) ();show bD<|jX (xs:=(es.filter<|bG g).map PP) (p:=λ_=>dI) (v:=λd=>.int ((es.idxOf (eK d):Nat):Int))<|Ó.mpr ⟨_,rfl,(eE v).mpr ⟨mV v,rfl,by rw[Ã,ò];lia,λd μ' hd e=>ù.mpr ⟨rfl,ď _⟩,λd μ' hd _ e=>?_,λb R Y=>?_⟩⟩
 .let⟨q,hq,rfl⟩:=Õ.mp hd;show jE ⟨_,rfl,iF<|aD e c,_,rfl,(ZV (aD e c) (Ī.mp hq).1<|by rw[ò];lia).mpr ⟨rfl,ď _⟩⟩
 .let j:b[L.length]?=b3 (.lst<|(jW<|es.map<|bG g).map D.int):=by rw[Y,AJ,å,<- DO p,å];rfl
  let I:(jW<|es.map<|bG g).length<=8:=by rw[<- DO p,Ã];show G
  generalize hix:jW (es.map<|bG g)=is at j I;show bD<|aO<|Jj ⟨_,rfl,_,rfl,_,rfl,_,rfl,_,j,?_⟩;rw[ZX];let z:=aD (aR b<|C.lst<|(is.drop 1).map D.int) j;let n:=aD (R.trans<|aR b<|C.lst<|(is.drop 1).map D.int) c;let B:=bE b<|C.lst<|(is.drop 1).map D.int;let T:=p1.trans<|O.trans<|R.trans<|aR b<|C.lst<|(is.drop 1).map D.int;dsimp;generalize b.length=l3 at B ⊢;generalize b++[C.lst<|(is.drop 1).map D.int]=μ4 at z n B T ⊢;show jX (xs:=(is.take 1).map D.int) (p:=λ_=>dI) (v:=λd=>.int<|sX d+(es.length:Int))<|Ó.mpr<|Jj ⟨_,rfl,_,rfl,_,rfl,_,rfl,_,z,?_⟩;rw[ZY];show(eE<|bE _ _).mpr ⟨mV<|bE _ _,rfl,by rw[Ã,Ι,ò];lia,λd μ' hd e=>ù.mpr ⟨rfl,ď _⟩,λd μ' hd _ e=>?_,λu p5 Z=>?_⟩
  .let⟨i,_,rfl⟩:=Kq hd;show aO ⟨_,rfl,aS rfl<|(jF<|aD ((aR _ _).trans e) n).mpr<|Û.mpr ⟨by rw[Ã];rfl,ď _⟩⟩
  .let U:=(aR μ4<|C.lst<|(is.take 1).map D.int).trans p5;let A:u[(μ4++[C.lst<|(is.take 1).map D.int]).length]?=b3 (.lst<|((is.take 1).map λs=>s+(es.length:Int)).map D.int):=by rw[Z,AJ,å,å];rfl
   show(sH (aD U B) A<|by rw[Ã,Ã,Ã,uv,Ι,ò];lia).mpr ?_;rw[<- ă];generalize hjs:is.drop 1++(is.take 1).map (λs=>s+(es.length:Int))=js;let J:=U.trans<|aR u<|C.lst<|js.map D.int;show bD (aO ⟨_,rfl,aS rfl<|(jF<|aD J n).mpr<|(sG (by rw[Ã];lia)<|by rw[Ã];lia).mpr<|cI ?_⟩);rw[Ã];let M:=aD J z;let N:=bE u<|C.lst<|js.map D.int;let hzl:(sS is js).length<=8:=by ext sS;rw[Ã,OO];lia
   let h8:8/(es.length:Int)=1\/8/(es.length:Int)=2:=by
    rcases E with h|h
    .left;rw[o,h];rfl
    .right;rw[o,h];rfl
   show Aj (xs:=sS is js) (x:=λd=>[b3<|.int (eK d).1,b3<|.int (eK d).2]) (p:=λ_=>dI) (v:=λd=>.int<|((eK d).2-(eK d).1)*(8/(es.length:Int)))<|Jo ⟨_,rfl,_,_,_,_,rfl,M,N,ZZ M N,?_,by rw[ò];lia,λd μ' hd=>?_,λd μ' hd e=>ù.mpr ⟨rfl,ď _⟩,λd μ' hd _ e=>?_,λμ8 p8 g8=>?_⟩
   .ext sS;dsimp[Ã,OO]
   .let⟨q,_,rfl⟩:=Õ.mp hd;rfl
   .let⟨q,_,rfl⟩:=Õ.mp hd;show aO<|aP rfl rfl<|Ū.mpr ⟨_,rfl,(pH<|.inr ()).mpr ⟨rfl,ď _⟩⟩
   .show H _ _ (T.trans<|J.trans p8) ?_;rw[g8,AJ];ext sS gX;rw[hix,Ã,hjs,å,å];rfl
def eL{o:Option a}{r:a}:W o (λx=>x=r)->o=b3 r:=λ⟨_,e,q⟩=>e.trans<|congrArg b3 q
abbrev dH(p:Int×Int):List Int:=[p.1,p.2]
abbrev fH(p q:Int×Int):Int×Int:=if HT.lexLt (dH q) (dH p)then q else p
abbrev fI(p q:Int×Int):Int×Int:=if HT.lexLt (dH p) (dH q)then q else p
abbrev oA(p q:Int×Int)(a:Bool)(c:Int×Int):Ti:=(dH<|fH p q,dH<|fI p q,a,dH c)
def Z0 p q a:zO [PP p,PP q] a=b3 (PP<|fH p q,a):=by change b3 (if HT.lexLt (dH q) (dH p)then PP q else PP p,a)=_;ext fH;split<;>rfl
def Z1 p q a:zP [PP p,PP q] a=b3 (PP<|fI p q,a):=by change b3 (if HT.lexLt (dH p) (dH q)then PP q else PP p,a)=_;ext fI;split<;>rfl
def Z2(h:n=4):n<=Ò:=by rw[h];decide
def DP k p q a c b(Q:jz)(H:Q (fF<|oA p q a c,b)):W (f (k+1) "tie_of" [PP p,PP q,.bl a,PP c] b) Q:=
 Ð (XX k _ _ _ _ b)<|cI<|â.mpr<|aQ<|aS rfl<|iG (Z0 p q b)<|aQ<|aS rfl<|iG (Z1 p q b) ⟨_,rfl,Z2 rfl,H⟩
def uK{i:Nat}{d:D}(e:xs[i]?=b3 d):atI xs (i:Int)=b3 d:=by let a:=(ä.mp e).1;ext atI;rw[Ds () ()];apply e
def Z3{xs:List D}(h:i<xs.length):atI xs ((i:Int)-1)=xs[(i+(xs.length-1))%xs.length]?:=by
 ext atI mH;cases i with
 |zero=>
  rw[if_neg (),if_pos ()];let e:(((0:Nat):Int)-1+xs.length).toNat=(0+(xs.length-1))%xs.length:=by rw[za ()];lia
  rw[e];rfl
 |succ i=>
  rw[if_pos (),if_pos ()];let e:(((i+1:Nat):Int)-1).toNat=(i+1+(xs.length-1))%xs.length:=by
   have:i+1+(xs.length-1)=i+xs.length:=()
   rw[this,Nat.add_mod_right,za ()];lia
  rw[e];rfl
def DQ{a:List Int}(h:i<a.length):(a.map D.int)[i]?=b3 (.int<|a.getD i 0):=by rw[ÿ,ā h];simp[ĭ,h]
def Z4{cr:jq}(h:i<cr.length):(cr.map PP)[i]?=b3 (PP<|cr.getD i (0,0)):=by rw[ÿ,ā h];simp[ĭ,h]
abbrev oB(a:List Int)(i:Nat):Bool:=decide (a.getD i 0<a.getD ((i+(a.length-1))%a.length) 0)&&decide (a.getD i 0<a.getD ((i+1)%a.length) 0)
def KP(i n:Nat):((i:Int)+1)%(n:Int)=(((i+1)%n:Nat):Int):=by simp[Int.natCast_emod]
def Z5 k(g:c[a]?=b3 (.lst<|b.map D.int))(h:i<b.length)(Q:jz)(H:Q (.bl<|oB b i,c)):W (f (k+1) "is_least" [.loc a,.int i] c) Q:=by
 let u:(i+(b.length-1))%b.length<b.length:=ξ _ ();let v:(i+1)%b.length<b.length:=ξ _ ();let n:∀{d},d=c->bF (.loc a) (.int i) d=b3 (.int<|b.getD i 0,d):=λe=>by subst e;show eL<|(dX g<|uK<|DQ h).mpr rfl
 let q:bF (.loc a) (.int<|(i:Int)-1) c=b3 (.int<|b.getD ((i+(b.length-1))%b.length) 0,c):=eL<|(dX g<|by
  rw[Z3<|by rw[Ã];show h,Ã];show DQ u).mpr rfl
 let s:bF (.loc a) (.int<|((i:Int)+1)%(b.length:Nat)) c=b3 (.int<|b.getD ((i+1)%b.length) 0,c):=eL ((dX g<|by rw[KP];show uK<|DQ v).mpr rfl);show Ð (XY k _ _ c)<|cI<|î.mpr<|aO<|aP rfl rfl ⟨_,n rfl,aO ⟨_,rfl,aP rfl rfl<|Ū.mpr ⟨_,q,ņ.mpr ?_⟩⟩⟩;unfold oB at H;let j:W (aA hV (aA bF (aE 0)<|aE 1) (aA bF (aE 0)<|aA bZ (aA bI (aE 1)<|mC<|.int 1)<|bJ dD<|aB (aE 0) aF) [b3<|.loc a,b3<|.int i] c) λp=>p=(.bl<|decide<|b.getD i 0<b.getD ((i+1)%b.length) 0,c):=by show aO<|aP rfl rfl ⟨_,n rfl,aO ⟨_,rfl,aO<|aP rfl rfl<|Û.mpr<|aS rfl<|(jF g).mpr ?_⟩⟩;rw[Ã];show(iE ()).mpr ⟨_,s,ņ.mpr rfl⟩
 cases o:decide (b.getD i 0<b.getD ((i+(b.length-1))%b.length) 0)with
 |true=>rw[o,OF]at H;let⟨r,h1,rfl⟩:=j;show(if_pos rfl).mpr ⟨_,h1,H⟩|false=>rw[o,Q2]at H;show(if_neg ø).mpr H
abbrev qT(cr:jq)(c:Int×Int)(i:Nat):List Ti:=oA (cr.getD i (0,0)) (cr.getD ((i+1)%cr.length) (0,0)) b5 c::(if cr.length=4 then[oA (cr.getD ((i+2)%4) (0,0)) (cr.getD ((i+3)%4) (0,0)) dI c]else[])
def uL{cr:jq}(g:b[a]?=b3 (.lst<|cr.map PP))(h:i<cr.length):bF (.loc a) (.int (i:Int)) b=b3 (PP<|cr.getD i (0,0),b):=eL<|(dX g<|uK<|Z4 h).mpr rfl
def Z6 k{b:Hm}(g:b[a]?=b3 (.lst<|cr.map PP))(h:i<cr.length)c(Q:jz)(H:∀l μ',b<+:μ'->μ'[l]?=b3 (.lst<|(qT cr c i).map fF)->Q (.loc l,μ')):W (f (k+2) "ties_of_gap" [.loc a,.int i,PP c] b) Q:=by
 let u:(i+1)%cr.length<cr.length:=ξ _ ();let o:bF (.loc a) (.int<|((i:Int)+1)%(cr.length:Nat)) b=b3 (PP<|cr.getD ((i+1)%cr.length) (0,0),b):=by rw[KP];show uL g u
 let s:dD [.loc a] b=b3 (.int (cr.length:Nat),b):=eL ((jF g).mpr<|by rw[Ã]);show Ð (XZ (k+1) _ _ _ b) (bD<|aS rfl<|iG s<|bD<|é.mpr<|aQ<|dG<|aQ<|aP rfl rfl ⟨_,uL g h,aQ<|aO ⟨_,rfl,aO<|aP rfl rfl<|Û.mpr ⟨_,rfl,(iE ()).mpr ⟨_,o,_,rfl,?_⟩⟩⟩⟩);show DP k _ _ _ _ _ _ ⟨_,rfl,Dk,?_⟩;let gl:=bE b<|C.lst [fF<|oA (cr.getD i (0,0)) (cr.getD ((i+1)%cr.length) (0,0)) b5 c];let n:=aD (aR b<|C.lst [fF<|oA (cr.getD i (0,0)) (cr.getD ((i+1)%cr.length) (0,0)) b5 c]) g;show Dn (b:=((cr.length:Nat):Int)==4) (μ':=b++[C.lst [fF<|oA (cr.getD i (0,0)) (cr.getD ((i+1)%cr.length) (0,0)) b5 c]]) (eL<|cZ<|aP rfl rfl<|û.mpr ⟨_,rfl,rfl⟩) (λd=>?_) λd=>nX<|cI ⟨_,rfl,H _ _ (aR _ _) ?_⟩
 .let d:cr.length=4:=by have:=beq_iff_eq.mp d;lia
  let v:(i+2)%4<cr.length:=()
  let w:(i+3)%4<cr.length:=()
  let p:∀{j:Hm},j[a]?=b3 (.lst<|cr.map PP)->bF (.loc a) (.int<|((i:Int)+2)%4) j=b3 (PP<|cr.getD ((i+2)%4) (0,0),j):=λe=>by rw[show((i:Int)+2)%4=(((i+2)%4:Nat):Int) by lia];show uL e v
  let q:∀{j:Hm},j[a]?=b3 (.lst<|cr.map PP)->bF (.loc a) (.int<|((i:Int)+3)%4) j=b3 (PP<|cr.getD ((i+3)%4) (0,0),j):=λe=>by rw[show((i:Int)+3)%4=(((i+3)%4:Nat):Int) by lia];show uL e w
  show An (jE ⟨_,rfl,iF gl,aQ<|dG<|aQ<|aO ⟨_,rfl,aO<|aP rfl rfl<|Û.mpr ⟨_,rfl,(iE ⋯).mpr ⟨_,p n,aQ<|aO ⟨_,rfl,aO<|aP rfl rfl<|Û.mpr ⟨_,rfl,(iE ⋯).mpr ⟨_,q n,_,rfl,?_⟩⟩⟩⟩⟩⟩⟩);show DP k _ _ _ _ _ _ ⟨_,rfl,(mW gl<|by change(1:Nat)<Ò;decide).mpr<|cI ⟨_,rfl,H _ _ (cX (aR _ _) (Ø _) _) ?_⟩⟩;rw[cS gl];ext qT;rw[if_pos d];rfl
 .let d:¬ cr.length=4:=λz=>by rw[z]at d;ext d
  ext qT;rw[if_neg d];show gl
abbrev dJ(m:Int×Int->Bool)(p:Int×Int):jq:=(mv p.1 p.2<|fZ p.1).filter m
abbrev iW(m:Int×Int->Bool)(p:Int×Int):List Int:=gX<|(mv p.1 p.2<|fZ p.1).map m
def AK m p:(iW m p).length=(dJ m p).length:=by let e:=congrArg İ<|DO (KJ p.1 p.2<|KL p.1) m;rw[Ã]at e;unfold iW gX dJ;rw[Ã,OO,ć,Ã,uv,Ι,e];lia
def AL m p:(dJ m p).length<=8:=by show Ģ (Ž _ _) ?_;have:(mv p.1 p.2<|fZ p.1).length=(fZ p.1).length:=Ã ..;have:=KN p.1;lia
abbrev j6(m:Int×Int->Bool)(p:Int×Int)(i:Nat):List Ti:=if oB (iW m p) i then qT (dJ m p) p i else[]
abbrev jL(m:Int×Int->Bool)(p:Int×Int):List Ti:=if(dJ m p).length=2 then[oA ((dJ m p).getD 0 (0,0)) ((dJ m p).getD 1 (0,0)) dI p]else(ą (dJ m p).length).flatMap (j6 m p)
def DR m p i:(j6 m p i).length<=2:=by
 ext j6 qT;split
 .split<;>simp
 .simp
def uM{a b:Type}{f:a->List b}(h:∀x,(f x).length<=n):∀l:List a,(l.flatMap f).length<=n*l.length
 |[]=>∅
 |x::l=>by let h1:=uM h l;let c:=h x;rw[OZ,ć,Ŋ,Nat.mul_succ];lia
def DS m p:(jL m p).length<=16:=by
 ext jL;split
 .simp
 .let h1:=uM (DR m p)<|ą (dJ m p).length;rw[ou]at h1;have:=AL m p;lia
inductive Ss (a0 a1 a2 a3:Option D)(l:Nat)(ν:Hm)(F:Nat->List Ti):Nat->aG->Hm->Prop
 |mk {i:Nat}{x:Option D}{μ:Hm}(p:ν<+:μ)(g:μ[l]?=b3 (.lst<|((ą i).flatMap F).map fF)):Ss a0 a1 a2 a3 l ν F i [a0,a1,a2,a3,b3<|.loc l,x] μ
def Z7 k w h c p(s:Hm)(Q:jz)(H:∀l μ',s<+:μ'->μ'[l]?=b3 (.lst<|(jL (bG c) p).map fF)->Q (.loc l,μ')):W (f (k+6) "ties_at" [SH w h c,PP p] s) Q:=by
 show Ð (X2 (k+5) _ _ s)<|bD<|aS rfl<|KH (k+2) w h c p.1 p.2 s _ λa o T u=>bD<|aS rfl<|KO (k+1) w h c p.1 p.2 o _ λb d G q=>?_;replace u:o[a]?=b3 (.lst<|(dJ (bG c) p).map PP):=u;replace q:d[b]?=b3 (.lst<|(iW (bG c) p).map D.int):=q;let n:=aD G u;let R:=AK (bG c) p;let Y:=AL (bG c) p;let N:dD [.loc a] d=b3 (.int ((dJ (bG c) p).length:Nat),d):=eL ((jF n).mpr<|by rw[Ã]);let J:=T.trans G;show Dn (b:=(((dJ (bG c) p).length:Nat):Int)==2) (μ':=d) (eL<|cZ<|aO<|aS rfl<|iG N ⟨_,rfl,û.mpr ⟨_,rfl,rfl⟩⟩) (λg=>?_) λg=>nX ?_
 .let g:(dJ (bG c) p).length=2:=by have:=beq_iff_eq.mp g;lia
  show Dp (é.mpr<|aQ<|dG<|aQ<|aP rfl rfl ⟨_,uL (i:=0) n (),aQ<|aP rfl rfl ⟨_,uL (i:=1) n (),_,rfl,?_⟩⟩);show DP (k+4) _ _ _ _ _ _ ⟨_,rfl,Dk,H _ _ (J.trans<|aR _ _) ?_⟩;ext jL;rw[if_pos g];show bE _ _
 .let g:¬ (dJ (bG c) p).length=2:=λz=>by rw[z]at g;ext g
  let O:=aD (aR d<|C.lst []) n;let gB:=aD (aR d<|C.lst []) q;let M:dD [.loc a] (d++[C.lst []])=b3 (.int ((dJ (bG c) p).length:Nat),d++[C.lst []]):=eL ((jF O).mpr<|by rw[Ã]);show bD (é.mpr ⟨_,rfl,ĸ _,fU<|É.mpr<|(Ag (j:=0)).mpr<|aQ<|aS rfl<|iG M ⟨_,rfl,⟨(),()⟩,?_⟩⟩);dsimp;rw[bw];show qM (Ss (b3<|SH w h c) (b3<|PP p) (b3<|.loc a) (b3<|.loc b) d.length d<|j6 (bG c) p) (.mk (aR _ _)<|bE _ _) ?_ ?_
  .rintro i x v hi ⟨j,e⟩;show⟨_,rfl,?_⟩;rw[OJ];show Ñ.mpr (gW<|aS rfl<|Z5 (k+4) (aD j q) (by rw[R];show hi) _ ⟨rfl,?_⟩);let y:(ą<|i+1).flatMap (j6 (bG c) p)=(ą i).flatMap (j6 (bG c) p)++j6 (bG c) p i:=by rw[N1,vd];simp
   let K:=uM (DR (bG c) p)<|ą i;rw[ou]at K;cases E:oB (iW (bG c) p) i with
   |false=>show(if_neg ø).mpr<|Ì.mpr<|.mk j ?_;rw[y];unfold j6 at e ⊢;rw[E,if_neg ø,ŉ];show e|true=>
    show(if_pos rfl).mpr<|í.mpr<|jE ⟨_,rfl,iF e,aQ<|aS rfl<|Z6 (k+3) (aD j n) hi p _ λl U I A=>⟨_,rfl,?_⟩⟩;let L:qT (dJ (bG c) p) p i=j6 (bG c) p i:=by ext j6;rw[E,if_pos rfl]
    rw[L]at A;let X:=DR (bG c) p i;let B:=aD I e;show(Ah B A<|by rw[Ã,Ã,ò];lia).mpr<|.mk (cX (j.trans I) (Ø _) _) ?_;rw[cS B,y,ă]
  .rintro x v ⟨j,e⟩;show⟨rfl,cI ⟨_,rfl,H _ _ (J.trans j) ?_⟩⟩;ext jL;rw[if_neg g];show e
def KQ k(hw:1<=w/\w<=6)(n:1<=h/\h<=6)(c:Hm)(Q:jz)(H:∀a μ',c<+:μ'->μ'[a]?=b3 (.lst<|((j5 w h).filter sR).map PP)->Q (.loc a,μ')):W (f (k+2) "corners_in" [.int w,.int h] c) Q:=by
 show Ð (Xx (k+1) _ _ c) (cI<|jX (xs:=(j5 w h).map PP) (p:=λd=>sR<|eK d) (v:=λd=>d)<|Ó.mpr<|aS rfl<|Kv _ w h () () _ _ λa j i e o=>?_);show(eE e).mpr ⟨mV e,rfl,?_,λd μ' hd b=>?_,λd μ' hd _ b=>⟨_,rfl,rfl,ď _⟩,λμ' b g=>?_⟩
 .have:=DN (w:=w) (h:=h) () ();rw[Ã,ò];lia
 .let⟨u,v,rfl⟩:=wR hd;show gW<|aS rfl<|(ZS k u v _ _).mpr ⟨rfl,rfl,ď _⟩
 .show H _ _ (i.trans b) ?_;rw[g,uH sR]
def Z8{a:Type}{l A B:List a}{x:a}{q:a->Bool}(b:l=A++x::B)(hA:∀y∈A,q y=b5)(c:q x=dI):l.find? q=b3 x:=by
 rw[b,RC];have:A.find? q=none:=Y0.mpr λy d=>by rw[hA y d];show ø
 rw[this,List.find?_cons_of_pos c];rfl
def Z9{a:Type}{l:List a}{x:a}(h:l[i]?=b3 x):l=l.take i++x::l.drop (i+1):=by let⟨hi,rfl⟩:=ä.mp h;rw[<- NU hi,vm]
abbrev a0a:Option (Int×Int)->D
 |none=>.non|some p=>PP p
abbrev eB(w h:Int):jq:=(j5 w h).filter sR
abbrev iI(m:Int×Int->Bool)(p:Int×Int):Bool:=!(j4<|iW m p)
inductive T6 (ms:List ((Int×Int)×Str))(w h:Int)(cs:jq)(q:Int×Int->Bool)(ν:Hm):Nat->aG->Hm->Prop
 |mk {i:Nat}{x:Option D}{μ:Hm}(p:ν<+:μ)(ok:∀z∈cs.take i,q z=b5):T6 ms w h cs q ν i [b3<|SH w h ms,x] μ
def a0b{b:jq}{q:Int×Int->Bool}(ok:∀y∈b.take i,q y=b5)(hz:b[i]?=b3 z)(c:q z=b5):∀y∈b.take (i+1),q y=false:=λy a=>by
 rw[ni,hz]at a;rcases ĩ.mp a with a|a
 .show ok y a
 .have:y=z:=by apply a
  rw[this];show c
def a0c k(hw:1<=w/\w<=6)(E:1<=h/\h<=6)c(n:Hm)(Q:jz)(H:∀μ',n<+:μ'->Q (a0a<|(eB w h).find?<|iI<|bG c,μ')):W (f (k+5) "barred" [SH w h c] n) Q:=by
 show Ð (XD (k+4) _ n)<|Æ.mpr<|É.mpr<|Ó.mpr<|aS rfl<|KQ (k+2) hw E _ _ λa o v s=>(eE s).mpr ?_;show jD (xs:=(eB w h).map PP) (T6 c w h (eB w h) (iI<|bG c) o) (.mk (ď _) λz j=>by simp at j) (by rintro _ _ _ ⟨p,_⟩;show aD p s) ?_ ?_
 .rintro i d K q hd ⟨g,ok⟩;let⟨z,j,rfl⟩:=nD hd;show⟨_,rfl,Ñ.mpr<|sL<|gW (b:=j4 (iW (bG c) z))<|dG<|aQ<|aS rfl<|KO k w h c z.1 z.2 _ _ λb I x B=>⟨_,rfl,?_⟩⟩;show ZN (k+2) b (iW (bG c) z) (by have:=AK (bG c) z;have:=AL (bG c) z;lia) _ _ B λJ A=>⟨rfl,?_⟩;cases u:j4 (iW (bG c) z)with
  |true=>show(if_neg ø).mpr (Ì.mpr<|.mk (g.trans<|x.trans A)<|a0b ok j<|by ext iI;rw[u];rfl)|false=>have e:=Z8 (q:=iI (bG c)) (Z9 j) ok (by ext iI;rw[u];rfl);rw[e]at H;show(if_pos rfl).mpr<|Ï.mpr ⟨_,rfl,H _<|v.trans<|g.trans<|x.trans A⟩
 .rintro K q ⟨g,ok⟩;rw[Ã,ź]at ok;let e:(eB w h).find? (iI<|bG c)=none:=Y0.mpr λy G=>by rw[ok y G];show ø
  rw[e]at H;show cI ⟨_,rfl,H _<|v.trans g⟩
abbrev j7(m:Int×Int->Bool)(w h:Int):List Ti:=(eB w h).flatMap<|jL m
abbrev oC(ts:List Ti):List Ti:=(c5 (oY ts) ts.length).map λi=>ts.getD i nQ
def KR:∀ts,wF (ts.map fF)=b3 ts
 |[]=>rfl|t::ts=>by
  let h:zS (fF t)=b3 t:=by change(dP<|.tup<|t.1.map D.int).bind (λk=>(dP<|.tup<|t.2.1.map D.int).bind λm=>(dP<|.tup<|t.2.2.2.map D.int).map λn=>(k,m,t.2.2.1,n))=_;rw[Dg,Dg,Dg];rfl
  change(zS<|fF t).bind (λx=>(wF<|ts.map fF).map (x::·))=_;rw[h,KR ts];rfl
def a0d(g:b[a]?=b3 (.lst<|ts.map fF))(h:oX ts):t7 [.loc a] b=b3 (.loc b.length,b++[.lst<|(oC ts).map fF]):=by
 let e:eW b (.loc a)=b3 (ts.map fF):=by dsimp[eW,g]
 dsimp[t7,e,ē,KR,if_pos h];let c:(c5 (oY ts) ts.length).map (λi=>(ts.map fF).getD i .non)=(oC ts).map fF:=by ext oC;rw[å];show Ť λi hi=>?_;let hi:i<ts.length:=Ō.mp<|(jS _ _).mem_iff.mp hi;simp[ĭ,hi]
 rw[c]
def a0e k(hw:1<=w/\w<=6)(d:1<=h/\h<=6)(c:(eB w h).find? (iI<|bG a)=b4)(b:Hm)(Q:jz)(H:∀μ',b<+:μ'->Q (.non,μ')):W (f (k+6) "check_corners" [SH w h a] b) Q:=by show Ð (XE (k+5) _ b)<|bD<|aS rfl<|a0c k hw d a _ _ λμ' e=>?_;rw[c];show Ñ.mpr<|cZ<|aP rfl rfl<|Ę.mpr ⟨_,rfl,(if_neg ø).mpr<|Ì.mpr<|H _ e⟩
inductive Sm (ms:List ((Int×Int)×Str))(w h:Int)(l:Nat)(ν:Hm):Nat->aG->Hm->Prop
 |mk {i:Nat}{x:Option D}{μ:Hm}(p:ν<+:μ)(g:μ[l]?=b3 (.lst<|(((eB w h).take i).flatMap<|jL<|bG ms).map fF)):Sm ms w h l ν i [b3<|SH w h ms,b3<|.loc l,x] μ
def a0f(hw:1<=w/\w<=6)(b:1<=h/\h<=6):(eB w h).length<=1000:=by let h1:=DN (w:=w) (h:=h) () ();let a:=Ž sR<|j5 w h;ext eB;lia
def KS k(hw:1<=w/\w<=6)(q:1<=h/\h<=6)(I:(eB w h).find? (iI<|bG c)=b4)(J:oX (j7 (bG c) w h))(p:Hm)(Q:jz)(H:∀l μ',p<+:μ'->p.length<=l->μ'[l]?=b3 (.lst<|(oC<|j7 (bG c) w h).map fF)->Q (.loc l,μ')):W (f (k+7) "ties" [SH w h c] p) Q:=by
 show Ð (X3 (k+6) _ p)<|An<|aS rfl<|a0e k hw q I _ _ λb u=>bD<|é.mpr ⟨_,rfl,ĸ _,fU<|É.mpr<|Ó.mpr<|aS rfl<|KQ (k+4) hw q _ _ λa M v e=>(eE e).mpr ?_⟩;let K:=u.trans<|aR b<|C.lst [];let hc:=a0f hw q;let n:a≠b.length\/eB w h=[]:=by
  by_cases z:a=b.length
  .right;let L:=aD v<|bE b<|C.lst [];rw[z,L]at e;injection e with e;injection e with e;show List.map_eq_nil_iff.mp e.symm
  .show .inl z
 show jD (xs:=(eB w h).map PP) (λi A μ'=>Sm c w h b.length b i A μ'/\μ'[a]?=b3 (.lst<|(eB w h).map PP)) ⟨.mk ((aR _ _).trans v)<|aD v<|bE _ _,e⟩ (by rintro _ _ _ ⟨_,g⟩;show g) ?_ ?_
 .rintro i d O y hd ⟨⟨o,j⟩,G⟩;let⟨z,s,rfl⟩:=nD hd;show⟨_,rfl,í.mpr<|jE ⟨_,rfl,iF j,aQ<|aS rfl<|Z7 k w h c z _ _ λl N x E=>⟨_,rfl,?_⟩⟩⟩;let B:=aD x j;let R:=uM (DS<|bG c)<|(eB w h).take i;let T:=DS (bG c) z;let U:=List.length_take_le i<|eB w h;let X:=ig i<|eB w h;show(Ah B E<|by rw[Ã,Ã,ò];lia).mpr ⟨.mk (cX (o.trans x) (Ø _) _) ?_,?_⟩
  .rw[cS B,ni,s];simp
  .rcases n with n|n
   .rw[ô<|ð n];show aD x G
   .rw[n]at s;ext s
 .rintro O y ⟨⟨o,j⟩,_⟩;rw[Ã,ź]at j;show⟨rfl,cI<|aS rfl<|iG (a0d (ts:=j7 (bG c) w h) j J)<|H _ _ ((u.trans o).trans<|aR _ _) (Ģ u.length_le o.length_le)<|bE _ _⟩
abbrev bH(w h:Int):jq:=(nB 1 (4*w-1).toNat (4*h-1).toNat).filter λp=>cJ p.1 p.2
abbrev gP:jq:=[(1,1),(1,2),(1,3),(2,1),(2,2),(2,3),(3,1),(3,2),(3,3),(4,1),(5,1),(6,1),(4,2),(5,2),(6,2),(1,4),(1,5),(1,6),(2,4),(2,5),(2,6)]
def gZ:∀p∈gP,(1<=p.1/\p.1<=6)/\(1<=p.2/\p.2<=6)/\(cB p.1 p.2).length<=48/\1<=(cB p.1 p.2).length/\wY ((cB p.1 p.2).map aV)=dI/\(bH p.1 p.2).length<=64/\wY ((bH p.1 p.2).map aV)=dI /\
  ∀e∈bH p.1 p.2,cJ e.1 e.2=dI/\sA e∈cB p.1 p.2/\sB e∈cB p.1 p.2/\(0<e.1/\e.1<4*p.1)/\0<e.2/\e.2<4*p.2:=by decide +kernel
def a0g k w h(hw:1<=w/\w<=6)(b:1<=h/\h<=6)a(Q:jz)(H:Q (.loc a.length,a++[.lst<|(bH w h).map PP])):W (f (k+1) "_law_rims" [.int w,.int h] a) Q:=by
 rw[Yl,ß];dsimp[Æ,Ď,é,dR];show⟨ĸ _,?_⟩;dsimp[Λ,δ,É,Ġ,Ë,dR,eX,æ,cE,cY,sI];show⟨(),?_⟩;show JS _ cJ _ _ _ _ 1 (4*h-1).toNat (λo1 o2 a Q=>?_) (λx y a Q=>?_) (4*w-1).toNat (J9 hw b) _ (bE _ _) _ λo1 o2=>?_
 .dsimp[Ġ,Ë,dR,eX,æ,cE,cY,sI];show and_iff_right ()
 .dsimp[ū,Ğ,ĕ,æ,cE,cY,eX,ĥ,ě,û,Af];ext cJ;cases x%2==y%2<;>cases x%2==1<;>cases x%4==y%4<;>simp
 .dsimp[Ï,cE,cY];rw[Dz];show H
def KU k e(c:Hm)(Q:jz)(H:∀b μ',c<+:μ'->μ'[b]?=b3 (.lst [PP<|sA e,PP<|sB e])->Q (.loc b,μ')):W (f (k+1) "_law_beside" [PP e] c) Q:=by
 rw[Ym];unfold sA sB at H;show Dl rfl<|Jz rfl (λh=>⟨_,rfl,?_⟩) λh=>Jz rfl (λa=>⟨_,rfl,?_⟩) λa=>⟨_,rfl,?_⟩
 .let h:e.1%2=1:=by apply h
  dsimp[if_pos h]at H;show H _ _ (aR _ _)<|bE _ _
 .let h:¬ e.1%2=1:=by apply h
  let a:e.2%4=0:=by apply a
  dsimp[if_neg h,if_pos a]at H;show H _ _ (aR _ _)<|bE _ _
 .let h:¬ e.1%2=1:=by apply h
  let a:¬ e.2%4=0:=by apply a
  dsimp[if_neg h,if_neg a]at H;show H _ _ (aR _ _)<|bE _ _
def a0h a A B:eI 8 a (LD A) (LD B)=b3 (decide<|A=B):=by
 have:eI 8 a (LD A) (LD B)=b3 (A.a==B.a&&(A.b==B.b&&(A.c==B.c&&(A.d==B.d&&(A.e==B.e&&(A.g==B.g&&dI)))))):=rfl;rw[this];congr 1;rw[Ψ,decide_eq_true_iff];dsimp[ó,beq_iff_eq,and_true];constructor
 .rintro⟨h1,b,c,d,e,g⟩;show Ly.ext' h1 b c d e g
 .rintro rfl;show⟨rfl,rfl,rfl,rfl,rfl,rfl⟩
def jf{Q:jz}:W (aZ dI (LD A) (LD B) a) Q↔Q (.bl<|!decide (A=B),a):=by
 have:aZ dI (LD A) (LD B) a=b3 (.bl<|!decide (A=B),a):=by ext aZ;rw[a0h];rfl
 rw[this];show À
abbrev oD(w h:Int)(F:Int×Int->Ly):jq:=(bH w h).filter λe=>!decide (F (sA e)=F (sB e))
inductive T5 (a:Nat)(w h:Int)(F:Int×Int->Ly)(μ:Hm)(i:Nat):aG->Hm->Prop
 |mk {x4 x5 x6:Option D}{μ':Hm}(p:μ<+:μ')(g2:μ'[μ.length]?=b3 (.lst<|(((bH w h).take i).filter λe=>!decide (F (sA e)=F (sB e))).map PP))(g3:μ'[(μ++[C.lst []]).length]?=b3 (.lst<|(bH w h).map PP)):T5 a w h F μ i [b3<|.loc a,b3<|.int w,b3<|.int h,b3<|.loc μ.length,x4,x5,x6] μ'
def a0i k{n:Hm}(J:(w,h)∈gP)(nd:row.Nodup)(A:∀q∈cB w h,q∈row)(I:n[a]?=b3 (.dT<|bT (λq=>LD<|F q) row))(Q:jz)(H:∀b c,n<+:c->c[b]?=b3 (.lst<|(oD w h F).map PP)->Q (.loc b,c)):W (f (k+2) "_law_creased" [.loc a,.int w,.int h] n) Q:=by
 let o:=gZ _ J;let B:=o.2.2.2.2.2.1;let E:=o.2.2.2.2.2.2.2;show Ð (Yt (k+1) _ _ _ n)<|bD<|é.mpr ⟨_,rfl,ĸ _,fU<|É.mpr<|Ó.mpr<|aS rfl<|a0g k w h o.1 o.2.1 _ _<|(eE<|bE _ _).mpr ?_⟩;show jD (T5 a w h F n) (.mk ((aR _ _).trans<|aR _ _) (aD (aR _ _)<|bE _ _)<|bE _ _) (by rintro _ _ _ ⟨_,_,h⟩;show h) ?_ ?_
 .rintro i d y x hd ⟨j,p,u⟩;let⟨e,v,rfl⟩:=nD hd;let⟨_,K,L,_⟩:=E e<|ķ v;show⟨_,rfl,Æ.mpr<|ĝ.mpr<|aS rfl<|KU k e _ _ λb M g G=>(Je G).mpr ?_⟩;let z:=aD (j.trans g) I;let s:=aD g p;let lt:(((bH w h).take i).filter λe=>!decide (F (sA e)=F (sB e))).length<=64:=Ģ (Ž _ _)<|Ģ (ig _ _) B;show Ñ.mpr<|cZ<|aO<|aP rfl rfl<|(fY (.inl z) (b8 _)<|iV nd<|A _ K).mpr<|aP rfl rfl<|(fY (.inl z) (b8 _)<|iV nd<|A _ L).mpr<|jf.mpr ⟨_,rfl,?_⟩;cases hc:decide (F (sA e)=F (sB e))with
  |true=>show gO rfl<|Ì.mpr<|.mk (j.trans g) ?_<|aD g u;rw[jK v,Ϡ,WP<|by rw[hc];show ø,yz,ŉ];show s|false=>show kW rfl (í.mpr<|jE ⟨_,rfl,iF s,_,rfl,(mW s<|by rw[Ã,ò];lia).mpr<|.mk (cX (j.trans g) (Ø _) _) ?_<|(ô<|by rw[ć];show Ā<|Ϥ _).trans<|aD g u⟩);rw[cS s,jK v,Ϡ,cg<|by rw[hc];rfl,yz,ă];rfl
 .rintro y x ⟨j,p,u⟩;rw[Ã,ź]at p;show⟨rfl,cI ⟨_,rfl,H _ _ j p⟩⟩
abbrev flat(G:Gr):jq:=G.flatMap (·.2)
abbrev aI(G:Gr)(q:Int×Int):Int:=match G.find? (λg=>g.2.contains q)with|some g=>(g.2.idxOf q:Nat)|none=>0
def DT G g:flat (G++[g])=flat G++g.2:=by ext flat;rw[vd];simp
def ś:q∈flat G↔∃g∈G,q∈g.2:=j0
def ī.one{f:Int×Int->Int×Int}(P:ī qs f G)(a:g∈G)(b:q∈g.2):q∈qs/\f q=g.1:=by let h:=P.pm g.1;rw[jZ P.kd a]at h;have:=Ī.mp<|h.mem_iff.mp b;show⟨this.1,of_decide_eq_true this.2⟩
def ī.nd{f:Int×Int->Int×Int}(nd:qs.Nodup)(P:ī qs f G)(a:g∈G):g.2.Nodup:=by let h:=P.pm g.1;rw[jZ P.kd a]at h;show h.nodup_iff.mpr<|nd.sublist gk
def KW{f:Int×Int->Int×Int}:∀{G},(G.map (·.1)).Nodup->(∀g∈G,g.2.Nodup/\∀q∈g.2,f q=g.1)->(flat G).Nodup
 |[],_,_=>ud|g::G,kd,h=>by rw[ö,ő]at kd;change(g.2++flat G).Nodup;rw[Ϻ];show⟨(h g<|ţ ..).1,KW kd.2 λx c=>h x<|ŏ _ c,λa k b n e=>?_⟩;subst e;let⟨x,c,d⟩:=ś.mp n;let i:=(h g<|ţ ..).2 a k;let j:=(h x<|ŏ _ c).2 a d;show kd.1<|Õ.mpr ⟨x,c,by rw[<- j,i]⟩
def ī.flat{f:Int×Int->Int×Int}(nd:qs.Nodup)(P:ī qs f G):(Lw.flat G).Perm qs:=by
 let h1:(Lw.flat G).Nodup:=KW (f:=f) P.kd λg a=>⟨P.nd nd a,λq b=>(P.one a b).2⟩;show(S5 h1 nd).mpr λq=>?_;rw[ś];constructor
 .rintro⟨g,a,b⟩;show(P.one a b).1
 .intro b;let⟨g,a,e⟩:=Õ.mp<|P.key.mpr ⟨q,b,rfl⟩;show⟨g,a,?_⟩;let h:=P.pm g.1;rw[jZ P.kd a]at h;show h.mem_iff.mpr<|Ī.mpr ⟨b,decide_eq_true e.symm⟩
def w8{f:Int×Int->Int×Int}(nd:qs.Nodup)(P:ī qs f G)(a:g∈G){i:Nat}(b:g.2[i]?=b3 q):aI G q=i:=by
 let k:=ķ b;let p:G.find? (λx=>x.2.contains q)=b3 g:=by
  cases h:G.find? (λx=>x.2.contains q)with
  |none=>show absurd (ε.mpr k) (by have:=Y0.mp h g a;apply this)|some x=>
   let n:=List.mem_of_find?_eq_some h;let c:q∈x.2:=by let d:=List.find?_some h;show ε.mp d
   let e:x.1=g.1:=by rw[<- (P.one n c).2,(P.one a k).2]
   let j:=jZ P.kd n;let o:=jZ P.kd a;rw[e,o]at j;rw[show x=g from Ē e j.symm]
 ext aI;rw[p];let hi:i<g.2.length:=(ä.mp b).1;let e:=(ä.mp b).2;have:g.2.idxOf q=i:=by rw[<- e];show(P.nd nd a).idxOf_getElem i hi
 change((g.2.idxOf q:Nat):Int)=i;rw[this]
def KY{h n:Hm}(A:∀(i:Nat)q,L[i]?=b3 q->v q=.int (i:Int))(z:∀q∈L,q∉K)(nd:L.Nodup)(B:K.length+L.length<=1000)(pre:h<+:n)(lo:h.length<=b)(gl:h[l]?=b3 (.lst<|L.map PP))(u:n[b]?=b3 (.dT<|bT v K))Q(H:∀x y a,h<+:a->a[b]?=b3 (.dT<|bT v<|K++L)->Q (.nx,[j,b3<|.loc b,k,x,y],a)):
  W (fP (rW<|.loc l) (dB [3,4]) (eJ (aE 1) (aE 4)<|aE 3) ((L.map PP).length+1) 0 [j,b3<|.loc b,k,o,s] n) Q:=by
 show Jm (λi c a=>∃x y,c=[j,b3<|.loc b,k,x,y]/\h<+:a/\a[b]?=b3 (.dT<|bT v<|K++L.take i)) ⟨o,s,rfl,pre,by rw[nj,ŉ];show u⟩ (by rintro _ _ _ ⟨_,_,_,p,_⟩;show aD p gl) ?_ ?_
 .rintro i d c a hd ⟨x,y,rfl,p,g⟩;let⟨q,e,rfl⟩:=nD hd;show⟨_,rfl,?_⟩;let hi:i<L.length:=(ä.mp e).1;change W (eJ (aE 1) (aE 4) (aE 3) [j,b3<|.loc b,k,b3<|.int i,b3<|PP q] a) _;dsimp[ĉ,cE,cY];show(lW g (b8 q)<|by rw[Ã,ć,Ι,ò];lia).mpr ?_;show⟨_,_,rfl,cX p lo _,?_⟩;rw[cS g,<- A i q e,DJ,jK e,Ϧ];intro w;rcases ĩ.mp w with w|w
  .show z q (ķ e) w
  .show qR nd e w
 .rintro c a ⟨x,y,rfl,p,g⟩;rw[Ã,ź]at g;show H x y a p g
def a0j{kvs:jx}(hi:o[i]?=b3 (b3<|.loc a))(hc:g[a]?=b3 (.dT kvs))(I:Nat->aG->Hm->Prop)(h0:I 0 o (g.set a<|.dF kvs))(go:∀n k d c b,kvs[n]?=b3 (k,d)->I n c b->W (body (c.set j<|b3 d) b) λp=>p.1=.nx/\I (n+1) p.2.1 p.2.2)(h:∀c b,I kvs.length c b->b[a]?=b3 (.dF kvs)/\Q (.nx,c,b.set a<|.dT kvs)):W (gJ i (b9 (tZ<|aE i) (cL j) body) w o g) Q:=by
 show AD hi hc ?_;let u:(g.set a<|.dF kvs)[a]?=b3 (.dF kvs):=cS hc;let hit:tZ (aE i) o (g.set a<|.dF kvs)=b3 (dC<|.tup<|mS kvs,kvs.length+1,g.set a<|.dF kvs):=by dsimp[tZ,aE,hi,ē,u]
 rw[É,hit,À];show nV (N:=kvs.length) I (λn c b v s=>?_) (λc b s=>⟨?_,h c b s⟩) kvs.length 0 o _ () h0
 .let e:kvs[n]?=b3 (kvs[n].1,kvs[n].2):=ā v;show⟨kvs[n].2,_,?_,rfl,bP (go n _ _ c b e s) λp q=>?_⟩
  .change b3 ((mS kvs)[n]?)=_;ext mS;rw[ÿ,e];rfl
  .rw[q.1];show q.2
 .change b3 ((mS kvs)[kvs.length]?)=_;rw[cj<|by ext mS;simp]
def KZ(nd:qs.Nodup)(p:qs.length<=100)(P:ī qs g (GZ Z))(hz:Z[i]?=b3 z):
  (∀(j:Nat)q,z.2.1[j]?=b3 q->(λq=>D.int<|aI (GZ Z) q) q=.int (j:Int))/\(∀q∈z.2.1,q∉flat ((GZ Z).take i))/\z.2.1.Nodup/\(flat<|(GZ Z).take i).length+z.2.1.length<=1000:=by
 let a:(z.1,z.2.1)∈GZ Z:=Õ.mpr ⟨z,ķ hz,rfl⟩;show⟨λj q b=>by dsimp;rw[w8 nd P a b],λq b w=>?_,P.nd nd a,?_⟩
 .let⟨x,h,c⟩:=ś.mp w;let d:=List.mem_of_mem_take h;let e:x.1=z.1:=by rw[<- (P.one d c).2,(P.one a b).2]
  have:z.1∉((GZ Z).take i).map (·.1):=by rw[yw,l7];let k:=P.kd;rw[l7]at k;show qR k<|by rw[ÿ,hz];rfl
  show this<|e▸Õ.mpr ⟨x,h,rfl⟩
 .let h1:=(P.flat nd).length_eq;let n:(flat<|(GZ Z).take i).length+z.2.1.length=(flat<|(GZ Z).take<|i+1).length:=by rw[w4 hz,DT,ć]
  let o:(flat<|(GZ Z).take<|i+1).length<=(flat<|GZ Z).length:=by
   have:GZ Z=(GZ Z).take (i+1)++(GZ Z).drop (i+1):=(vm _ _).symm;conv=>rhs;rw[this]
   ext flat;rw[vd,ć];lia
  lia
def a0k k(nd:qs.Nodup)(K:qs.length<=100)(I:HI c h Z)(n:c[h]?=b3 (.dT<|bA Z))(P:ī qs g (GZ Z))(Q:jz)(H:∀b a,c<+:a->a[b]?=b3 (.dT<|bT (λq=>.int<|aI (GZ Z) q)<|flat<|GZ Z)->Q (.loc b,a)):W (f (k+1) "_law_ranks" [.loc h] c) Q:=by
 let v:h<c.length:=(ä.mp n).1;rw[Yu,ß,Æ];dsimp[Ď,ã,Λ,δ];rw[Æ];let s:=I.frz n;let p:(c.set h<|.dF<|bA Z).length=c.length:=Ź;let w:c.set h (.dF<|bA Z)<+:(c++[C.dT []]).set h (.dF<|bA Z):=by rw[NG _ _ v];show NM _ _
 show AE rfl (aD (aR _ _) n) (λi e a=>∃x y z,e=[b3<|.loc h,b3<|.loc c.length,x,y,z]/\c.set h (.dF<|bA Z)<+:a/\a[c.length]?=b3 (.dT<|bT (λq=>.int<|aI (GZ Z) q)<|flat<|(GZ Z).take i))
  ⟨b4,b4,b4,rfl,w,by rw[ô ()];show bE _ _⟩ ?_ ?_
 .rintro i U d e a J ⟨x,y,z',rfl,j,u⟩;let⟨z,A,o,rfl,rfl⟩:=AF J;let B:D.tup ((aV z.1).map D.int)=PP z.1:=rfl;dsimp[Λ,δ,B,É];show Df ?_;dsimp[Ë,dR,æ,cE,cY];show(fY (s.more j).dic (b8 z.1)<|sN I.kd A).mpr ⟨z.2.2,z.2.1.map PP,rfl,(s.more j).at_ z A,?_⟩;let⟨M,N,O,R⟩:=KZ nd K P o;show KY (v:=λq=>.int<|aI (GZ Z) q) (K:=flat ((GZ Z).take i)) M N O R j (by rw[p];show Ø _) (s.at_ z A) u _ λX Y T L E=>?_;show⟨rfl,_,_,_,rfl,L,?_⟩;rw[w4 o,DT];show E
 .rintro e a ⟨x,y,z,rfl,j,u⟩;let G:a[h]?=b3 (.dF<|bA Z):=aD j<|cS n;show⟨G,?_⟩;dsimp[Ï,cE,cY];show H _ _ (wZ n j) ?_;rw[ô (),u,jd<|by rw[nZ,GZ,Ã];show Ø _]
def K0 k(nd:qs.Nodup)(J:qs.length<=100)(I:HI c h Z)(j:c[h]?=b3 (.dT<|bA Z))(P:ī qs g (GZ Z))(Q:jz)(H:∀b a,c<+:a->a[b]?=b3 (.dT<|bT (λq=>.int<|aI (GZ Z) q)<|flat<|GZ Z)->Q (.loc b,a)):W (f (k+1) "heights_in" [.loc h] c) Q:=by
 let u:h<c.length:=(ä.mp j).1;rw[XI,ß,Æ];dsimp[Ď,ã,Λ,δ];rw[Æ];let w:=I.frz j;let o:(c.set h<|.dF<|bA Z).length=c.length:=Ź;let v:c.set h (.dF<|bA Z)<+:(c++[C.dT []]).set h (.dF<|bA Z):=by rw[NG _ _ u];show NM _ _
 show a0j rfl (aD (aR _ _) j) (λi e a=>∃x y z,e=[b3<|.loc h,b3<|.loc c.length,x,y,z]/\c.set h (.dF<|bA Z)<+:a/\a[c.length]?=b3 (.dT<|bT (λq=>.int<|aI (GZ Z) q)<|flat<|(GZ Z).take i))
  ⟨b4,b4,b4,rfl,v,by rw[ô ()];show bE _ _⟩ ?_ ?_
 .rintro i T d e a G ⟨x,y,Y,rfl,p,s⟩;let⟨z,A,n,rfl,rfl⟩:=AF G;dsimp[Λ,δ,É];show Df ?_;dsimp[Ë,dR,cE,cY];show⟨z.2.2,z.2.1.map PP,rfl,(w.more p).at_ z A,?_⟩;let⟨L,M,N,O⟩:=KZ nd J P n;show KY (v:=λq=>.int<|aI (GZ Z) q) (K:=flat ((GZ Z).take i)) L M N O p (by rw[o];show Ø _) (w.at_ z A) s _ λU X R K B=>?_;show⟨rfl,_,_,_,rfl,K,?_⟩;rw[w4 n,DT];show B
 .rintro e a ⟨x,y,z,rfl,p,s⟩;let E:a[h]?=b3 (.dF<|bA Z):=aD p<|cS j;show⟨E,?_⟩;dsimp[Ï,cE,cY];show H _ _ (wZ j p) ?_;rw[ô (),s,jd<|by rw[nZ,GZ,Ã];show Ø _]
abbrev cK(F:Int×Int->Ly)(r:Int×Int->Int)(e:Int×Int):Str:=if(decide (r (sB e)<r (sA e))==decide (dZ (F<|sA e)<0))=dI then "v" else "h"
def DU{l:List ((Int×Int)×Str)}{i:Nat}(h:(l.map MD)[i]?=b3 d):∃p,l[i]?=b3 p/\d=MD p:=by rw[ÿ]at h;let⟨p,h1,a⟩:=ì.mp h;show⟨p,h1,a.symm⟩
abbrev AM(w h:Int)(F:Int×Int->Ly)(r:Int×Int->Int):List ((Int×Int)×Str):=(oD w h F).map λe=>(e,cK F r e)
abbrev kX(q:Int×Int):jq:=[(q.1-1,q.2),(q.1,q.2-1),(q.1,q.2+1),(q.1+1,q.2)]
abbrev eC(p:Int×Int):Bool:=if p.1%2=1 then p.2%4==2 else p.1%4==2&&p.2%2==1
def K1:(4:Nat)<=Ò:=⋯
def a0l k x y a(Q:jz):W (f (k+1) "is_quarter" [P x y] a) Q↔Q (.bl<|eC (x,y),a):=by
 rw[Xl,ß];dsimp[Æ,Ï,Ì,Ñ,ĕ,î,æ,eX,cE,ğ,ú,û,Af,ĥ,ě];ext eC;by_cases h:x%2=1
 .simp[h]
 .let e:(x%2==1)=false:=by apply h
  dsimp[e,h,ŀ,if_false];cases x%4==2<;>simp
def a0m k q a:f (k+1) "beside" [PP q] a=b3 (.loc a.length,a++[C.lst [P (q.1-1) q.2,P q.1<|q.2-1,P q.1<|q.2+1,P (q.1+1) q.2]]):=by rw[Xm];kernel_rfl
def AN k q(b:Hm)(Q:jz)(H:∀a μ',b<+:μ'->μ'[a]?=b3 (.lst<|((kX q).filter eC).map PP)->Q (.loc a,μ')):W (f (k+2) "sides_of" [PP q] b) Q:=by
 rw[Xn,ß];dsimp[Ï];show jX (xs:=(kX q).map PP) (p:=λd=>eC<|eK d) (v:=λd=>d) ?_;show Ó.mpr<|YC rfl ?_;rw[a0m,À];let e:(b++[C.lst [P (q.1-1) q.2,P q.1<|q.2-1,P q.1<|q.2+1,P (q.1+1) q.2]])[b.length]?=b3 (.lst<|(kX q).map PP):=bE _ _;show(eE e).mpr ⟨mV e,rfl,K1,λd μ' hd c=>?_,λd μ' hd _ c=>?_,λμ' c g=>?_⟩
 .let⟨u,v,rfl⟩:=wR hd;dsimp[ϥ,ϣ,ļ,Ý,Ë,dR,cE,cY,a0l,ũ];show⟨rfl,ď _⟩
 .dsimp[ϥ,ϣ,cE,cY];show⟨trivial,ď _⟩
 .show H _ _ ((aR _ _).trans c) ?_;rw[g,uH eC]
abbrev w9(F:Int×Int->Ly)(r:Int×Int->Int)(s t:Int×Int):Str:=if(if dZ (F s)=-1 then decide (r t<r s)else decide (r s<r t))=dI then "v" else "h"
def a0n(g:∀q,Ě (F q))(hd:F (sA e)=c9 (fV e) (F<|sB e))(h:r (sA e)≠r (sB e)):w9 F r (sA e) (sB e)=cK F r e/\w9 F r (sB e) (sA e)=cK F r e:=by
 let h1:dZ (F<|sA e)=-dZ (F<|sB e):=by rw[hd,Ao,Du];lia
 let d:=AH<|g<|sB e;ext w9 cK;let a:dZ (F<|sB e)=1\/dZ (F<|sB e)=-1:=d.imp (·.1) (·.1);rw[h1];rcases a with a|a
 .rw[a];constructor<;>(by_cases b:r (sB e)<r (sA e)<;>by_cases c:r (sA e)<r (sB e)<;>simp[b,c]<;>lia)
 .rw[a];constructor<;>(by_cases b:r (sB e)<r (sA e)<;>by_cases c:r (sA e)<r (sB e)<;>simp[b,c]<;>lia)
def DV p:eC p=dI↔(p.1%2=1/\p.2%4=2)\/(p.1%4=2/\p.2%2=1):=by
 ext eC;split
 .rw[beq_iff_eq];lia
 .rw[ó,beq_iff_eq,beq_iff_eq];lia
def qU(z:Int):z%2=z%4%2:=(RO z ⋯).symm
def K2(a:x%4=r%4)(b:y%4=s%4):eC (x,y)=eC (r,s):=by ext eC;dsimp;rw[qU x,qU y,a,b,<- qU,<- qU]
def a0o x y:eC (-x,y)=eC (x,y):=by
 ext eC;dsimp;let a:-x%2=x%2:=()
 rcases Q3 x with h|h
 .rw[show -x%4=x%4 by lia,a]
 .rw[a,h,if_pos rfl,if_pos rfl]
def a0p x y:eC (y,x)=eC (x,y):=by rw[Ψ,DV,DV];show⟨λh=>h.symm.imp qx qx,λh=>h.symm.imp qx qx⟩
def a0q(a:x%4=r)(b:y%4=s)i j:eC (x+i,y+j)=eC (r+i,s+j):=K2 (by rw[<- a,Qw])<|by rw[<- b,Qw]
def DW(a:x%4=r)(b:y%4=s):(kX (x,y)).filter eC=(([(-1,0),(0,-1),(0,1),(1,0)]:jq).filter λd=>eC (r+d.1,s+d.2)).map λd=>(x+d.1,y+d.2):=by
 have:kX (x,y)=([(-1,0),(0,-1),(0,1),(1,0)]:jq).map λd=>(x+d.1,y+d.2):=by dsimp[kX,ö,ϴ,yr];rfl
 rw[this,zg];congr 1;show OY λd _=>a0q a b d.1 d.2
def K3(h:cJ e.1 e.2=dI):(kX e).filter eC=[sA e,sB e]\/(kX e).filter eC=[sB e,sA e]:=by
 have:=uJ h;let⟨x,y⟩:=e;ext sA sB;dsimp at this ⊢;rcases this with⟨h1,c⟩|⟨h1,c,d⟩|⟨h1,c,d⟩
 .let a:x%4=1\/x%4=3:=()
  let b:y%4=1\/y%4=3:=()
  rw[if_pos h1,if_pos h1];rcases a with a|a<;>rcases b with b|b<;>rw[DW a b,a,b]
  .show .inl<|by change[(x+0,y+1),(x+1,y+0)]=_;simp;lia
  .show .inl<|by change[(x+0,y+-1),(x+1,y+0)]=_;simp;lia
  .show .inr<|by change[(x+-1,y+0),(x+0,y+1)]=_;simp;lia
  .show .inr<|by change[(x+-1,y+0),(x+0,y+-1)]=_;simp;lia
 .dsimp[if_neg<|show ¬ x%2=1 by lia,if_pos c];rw[DW d c];show .inl<|by change[(x+0,y+-1),(x+0,y+1)]=_;rw[yr];rfl
 .dsimp[if_neg<|show ¬ x%2=1 by lia,if_neg<|show ¬ y%4=0 by lia];rw[DW d c];show .inl<|by change[(x+-1,y+0),(x+1,y+0)]=_;rw[yr];rfl
def a0r(a:x%4=r%4)(b:y%4=s%4):cJ x y=cJ r s:=by ext cJ;rw[qU x,qU y,a,b,<- qU,<- qU]
def a0s x y:cJ (-x) y=cJ x y:=by
 ext cJ;let a:-x%2=x%2:=()
 rcases Q3 x with h|h
 .rw[show -x%4=x%4 by lia,a]
 .rw[a,h];rfl
def a0t x y:cJ y x=cJ x y:=by
 ext cJ;rw[BEq.comm (a:=y%2),BEq.comm (a:=y%4)];cases h:x%2==y%2
 .rfl
 .rw[eq_of_beq h]
def K4{T:Int->Int->Bool}(i:∀{x y r s},x%4=r%4->y%4=s%4->T x y=T r s)(pn:∀x y,T (-x) y=T x y)(ps:∀x y,T y x=T x y)(hA:Ě A)(a:A.e%4=0/\A.g%4=0)e:T (aC A e).1 (aC A e).2=T e.1 e.2:=by
 let c:=pn e.1 e.2;let b:=ps e.1 e.2;let d:T e.1 (-e.2)=T e.1 e.2:=by rw[<- ps,pn,b]
 let h:T (-e.1) (-e.2)=T e.1 e.2:=by rw[pn,d]
 let g:∀{x y r s u v:Int},u%4=0/\v%4=0->T r s=T e.1 e.2->x=r+u->y=s+v->T x y=T e.1 e.2:=λa q h1 j=>(i (by clear q;lia)<|by clear q;lia).trans q;ext aC;obtain⟨u,v,k|k|k|k|k|k|k|k⟩:=Dv hA<;>subst k<;>dsimp at a ⊢
 .show g a rfl () ()
 .show g a d () ()
 .show g a c () ()
 .show g a h () ()
 .show g a b () ()
 .show g a ((ps _ _).trans c) () ()
 .show g a ((pn _ _).trans b) () ()
 .show g a ((ps _ _).trans h) () ()
def uN(hA:Ě A)(a:A.e%4=0/\A.g%4=0)(h:cJ e.1 e.2=dI):cJ (aC A e).1 (aC A e).2=true:=(K4 a0r a0s a0t hA a e).trans h
abbrev a0u(k:Nat):MS:=aM<|iM (c8<|bJ (f k "is_above")<|aB (aE 0)<|aB (aA bF (aE 3)<|mC<|.int 0)<|aB (aA bF (aE 3)<|mC<|.int 1) aF) (mC<|.str "v")<|mC<|.str "h"
def K5 k{r:Int×Int->Int}(j:e.Nodup)(i:g[a]?=b3 (.dT<|bT (λq=>.int<|r q) e))(n:x∈e)(o:y∈e)(h:g[c]?=b3 (.lst<|[x,y].map PP))Q(H:Q (.rt<|.str<|if decide (r y<r x)=dI then "v" else "h",[b3<|.loc a,b,d,b3<|.loc c],g)):
  W (a0u (k+1) [b3<|.loc a,b,d,b3<|.loc c] g) Q:=by
 show cI<|Ĝ.mpr<|gW (b:=decide (r y<r x))<|dG<|aQ ⟨_,rfl,aQ<|aP rfl rfl<|(dX h rfl).mpr<|aQ<|aP rfl rfl<|(dX h rfl).mpr ⟨_,rfl,Ð (Jx k _ _ _ _)<|cI<|aO<|aP rfl rfl<|(fY (.inl i) (b8 x)<|iV j n).mpr<|aP rfl rfl<|(fY (.inl i) (b8 y)<|iV j o).mpr<|Ň.mpr ⟨rfl,?_⟩⟩⟩;cases hc:decide (r y<r x)with
 |true=>rw[hc]at H;show kW rfl ⟨_,rfl,H⟩|false=>rw[hc]at H;show gO rfl ⟨_,rfl,H⟩
def a0v k(v:∀q,Ě (F q))(M:row.Nodup)(z:g.Nodup){d:Hm}(x:d[a]?=b3 (.dT<|bT (λq=>.int<|r q) g))(I:d[b]?=b3 (.dT<|bT (λq=>LD<|F q) row))(J:cJ e.1 e.2=dI)(y:sA e∈row/\sB e∈row)(o:sA e∈g/\sB e∈g)(hd:F (sA e)=c9 (fV e) (F<|sB e))(K:r (sA e)≠r (sB e))(Q:jz)(H:∀n,d<+:n->Q (.str<|cK F r e,n)):
  W (f (k+4) "mark_by_heights" [.loc a,.loc b,PP e] d) Q:=by
 let c:∀s t:Int×Int,s∈row->s∈g->t∈g->w9 F r s t=cK F r e->(kX e).filter eC=[s,t]->W (f (k+4) "mark_by_heights" [.loc a,.loc b,PP e] d) Q:=λs t L fs u G E=>by
  show Ð (XT (k+3) _ _ _ d)<|bD<|aS rfl<|Ð (XS (k+2) _ _ d)<|bD<|aS rfl<|AN k e _ _ λl N j i=>?_;rw[E]at i;rw[<- G]at H;unfold w9 at H;show Æ.mpr<|Ñ.mpr<|gW<|dG<|aQ<|aO ⟨_,rfl,aP rfl rfl<|(dX i rfl).mpr<|(fY (.inl<|aD j I) (b8 s)<|iV M L).mpr ⟨_,rfl,(YK (k+1) (F s) (v s) _ _).mpr ⟨rfl,?_⟩⟩⟩;cases p:dZ (F s)==-1 with
  |true=>rw[if_pos<|eq_of_beq p]at H;show kW rfl (cI ⟨_,rfl,K5 (k+2) z (aD j x) fs u i _<|H _ j⟩)|false=>rw[if_neg<|show ¬ dZ (F s)=-1 from λw=>by rw[w]at p;ext p]at H;show gO rfl<|Ì.mpr<|cI<|é.mpr<|aQ<|aP rfl rfl<|(dX i rfl).mpr<|aQ<|aP rfl rfl<|(dX i rfl).mpr ⟨_,rfl,gN,K5 (k+2) z (aD (j.trans<|aR _ _) x) u fs (bE _ _) _<|H _<|j.trans<|aR _ _⟩
 let⟨A,B⟩:=a0n v hd K;rcases K3 J with h|h
 .show c _ _ y.1 o.1 o.2 A h
 .show c _ _ y.2 o.2 o.1 B h
abbrev sT:D->D
 |.tup (a::_)=>a|_=>.non
abbrev DX:D->D
 |.tup [_,b]=>b|_=>.non
def K6(nd:qs.Nodup)(P:ī qs g G)(n:a∈qs)(p:b∈qs)(ne:a≠b)(e:g a=g b):aI G a≠aI G b:=by
 let⟨x,d,k⟩:=Õ.mp<|P.key.mpr ⟨a,n,rfl⟩;let h:=P.pm x.1;rw[jZ P.kd d]at h;let h1:a∈x.2:=h.mem_iff.mpr<|Ī.mpr ⟨n,decide_eq_true k.symm⟩;let o:b∈x.2:=h.mem_iff.mpr<|Ī.mpr ⟨p,decide_eq_true<|e.symm.trans k.symm⟩;let⟨i,hi⟩:=RV h1;let⟨j,c⟩:=RV o;rw[w8 nd P d hi,w8 nd P d c];intro w;let q:i=j:=()
 subst q;rw[hi]at c;show ne<|Ė c
def pM(h:cJ e.1 e.2=dI):sA e≠sB e:=by
 have:=uJ h;ext sA sB;intro w;rcases this with⟨h1,a⟩|⟨h1,a,b⟩|⟨h1,a,b⟩
 .rw[if_pos h1,if_pos h1]at w;injection w with w1 w2;lia
 .dsimp[if_neg<|show ¬ e.1%2=1 by lia,if_pos a]at w;injection w with w1 w2;lia
 .dsimp[if_neg<|show ¬ e.1%2=1 by lia,if_neg<|show ¬ e.2%4=0 by lia]at w;injection w with w1 w2;lia
structure PY(qs:jq)(F:Int×Int->Ly)(e:Int×Int):Prop where
 r:cJ e.1 e.2=dI
 a:sA e∈qs
 b:sB e∈qs
 m:F (sA e)=c9 (fV e) (F<|sB e)
def K7 k{qs:jq}(nd:qs.Nodup)(R:qs.length<=36)(A:∀q,Ě (F q))(g:row.Perm qs){S:List ((Int×Int)×Str)}(T:S.length<=48)(B:∀p∈S,PY qs F p.1)(E:i[a]?=b3 (.dT<|bT (λq=>LD<|F q) row))(I:HI i b Z)(G:i[b]?=b3 (.dT<|bA Z))(P:ī qs (λq=>aC (F q) q) (GZ Z))(Q:jz)(H:∀c e,i<+:e->i.length<=c->e[c]?=b3 (.lst<|(S.map λp=>(p.1,cK F (aI<|GZ Z) p.1)).map MD)->Q (.loc c,e)):W (f (k+5) "marks_by" [SH w h S,.loc a,.loc b] i) Q:=by
 rw[XU,ß,Æ];dsimp[Ď,Ý,Ë,dR,cE,cY];show K0 (k+3) nd () I G P _ λc M n y=>?_;dsimp[Λ,δ,Ï];let o:=P.flat nd;show Aj (xs:=S.map MD) (x:=λd=>[b3<|sT d,b3<|DX d]) (p:=λ_=>dI) (v:=λd=>MD (eK<|sT d,cK F (aI<|GZ Z)<|eK<|sT d)) ?_;dsimp[SH,Ó,æ,cE,cY,eX,Ŭ];show ϩ.mpr ⟨Dd,rfl,by rw[Ã,ò];lia,λd e hd=>?_,λd e hd j=>ù.mpr ⟨rfl,ď _⟩,λd e hd _ j=>?_,λN K z=>?_⟩
 .let⟨m,_,rfl⟩:=Õ.mp hd;rfl
 .let⟨m,J,rfl⟩:=Õ.mp hd;dsimp[ϥ,ϣ,â,Ý,Ë,dR,cE,cY,sT,DX];let⟨s,u,v,x⟩:=B m J;show a0v k A (g.nodup_iff.mpr nd) (o.nodup_iff.mpr nd) (aD j y) (aD (n.trans j) E) s ⟨g.mem_iff.mpr u,g.mem_iff.mpr v⟩ ⟨o.mem_iff.mpr u,o.mem_iff.mpr v⟩ x (K6 nd P u v (pM s)<|EdF.pos s x) _ λO L=>?_;show⟨gN,rfl,L⟩
 .show H _ _ (n.trans K) n.length_le ?_;rw[z,zr.mpr λ_ _=>rfl,å,å];rfl
def a0w(h:i<n):mH n (i:Int)=b3 i:=by ext mH;rw[if_pos (),if_pos ()];rfl
abbrev DY(s:Str):Prop:=s="o"\/s="v"\/s="h"
def K8 k i a(Q:jz):W (f (k+1) "is_whole" [.int i] a) Q↔Q (.bl dI,a):=by rw[Ju,ß];dsimp[Ï,î,Jd,Ý,Ë,dR,cE,eX,Ji,Jh,if_true,uc]
def K9 k(h:1<=i/\i<=6)a(Q:jz)(H:Q (.bl dI,a)):W (f (k+2) "is_size" [.int i] a) Q:=by rw[Xq,ß];dsimp[Ï,î,Ý,Ë,dR,cE,eX,K8,if_true,Ś,W4,decide_eq_true h.1,decide_eq_true h.2];show H
def a0x k(hw:1<=w/\w<=6)(b:1<=h/\h<=6)a(Q:jz)(H:Q (.non,a)):W (f (k+3) "check_size" [.int w,.int h] a) Q:=by rw[Xr,ß];dsimp[Ñ,η,Ğ,ļ,Ý,Ë,dR,cE,cY];show K9 k hw _ _ ?_;dsimp[ũ,if_true];show K9 k b _ _ ?_;dsimp[ũ,gf,ŀ,if_false,Ì];show H
def a0y k(h:DY s)a(Q:jz)(H:Q (.bl dI,a)):W (f (k+1) "is_mark" [.str s] a) Q:=by
 rw[Xs,ß];dsimp[Ï,î,Ý,Ë,dR,cE,eX,Xc,if_true,æ];let e:eD b5 (.str s) Di a=b3 (.bl dI,a):=by rcases h with rfl|rfl|rfl<;>rfl
 rw[e,À];show H
def a0z k(j:cJ e.1 e.2=dI)(h1:0<e.1/\e.1<4*w)(d:0<e.2/\e.2<4*h)a(Q:jz)(H:Q (.bl dI,a)):W (f (k+3) "is_inner_edge" [.int w,.int h,PP e] a) Q:=by
 rw[Xy,ß];dsimp[Ï,î,Ý,Ë,dR,cE,cY];rw[Xj,ß];dsimp[Ï,î,Ý,Ë,dR,cE,cY,eX,æ,Xb,if_true];rw[show dD [PP e] a=b3 (.int 2,a)from rfl,À];dsimp[û,beq_self_eq_true,if_true,PP,P,ğ,ú,K8];rw[Xu,ß];dsimp[Ï,î,Ś,cE,cY,eX,æ,ğ,ú,sI,ņ,decide_eq_true h1.1,decide_eq_true h1.2,decide_eq_true d.1,decide_eq_true d.2,if_true];rw[Jv,ß];dsimp[Æ,Ï,Ñ,Ì,î,ĕ,cE,cY,eX,æ,ğ,ú,ĥ,ě,û,Af];have:=uJ j;cases c:e.1%2==1 with
 |true=>
  dsimp[if_true];let b:(e.2%2==1)=true:=by dsimp[beq_iff_eq]at c ⊢;lia
  rw[b];show H
 |false=>
  dsimp[ŀ,if_false];let g:¬ e.1%2=1:=by apply c
  let b:(e.2%2==0)=true:=by dsimp[beq_iff_eq];lia
  let i:(e.1%4==e.2%4)=false:=by dsimp[beq_eq_false_iff_ne];lia
  dsimp[b,i,if_true,uc];show H
abbrev uO(S:List ((Int×Int)×Str))(e:Int×Int):D:=match S.find? (λp=>decide<|p.1=e)with|some p=>.str p.2|none=>.non
def DZ:∀{S},(S.map (·.1)).Nodup->∀{p},p∈S->uO S p.1=.str p.2
 |[],_,_,h=>nomatch h|x::S,nd,p,h=>by
  rw[ö,ő]at nd;ext uO;rw[ų];rcases Č.mp h with rfl|h
  .rw[decide_eq_true rfl]
  .let e:decide (x.1=p.1)=false:=decide_eq_false λe=>nd.1 (by rw[e];show Õ.mpr ⟨p,h,rfl⟩);rw[e];show DZ nd.2 h
abbrev j8(r:Int×Int):Int:=if r.1%2=1 then(if r.1%4=r.2%4 then 2 else 3)else if r.2%4=0 then 0 else 1
def a0A{b:MS}(I:Nat->aG->Hm->Prop)(v:∀m a g,I m a g->W (c a g) λp=>if p.1=dI then W (b a p.2) λq=>match q.1 with
   |.nx=>∃e,e<m/\I e q.2.1 q.2.2|.ct=>∃e,e<m/\I e q.2.1 q.2.2|.bk=>Q (.nx,q.2.1,q.2.2)
   |.rt d=>Q (.rt d,q.2.1,q.2.2)else Q (.nx,a,p.2)):∀n m a g,m<n->I m a g->W (rS c b n a g) Q:=by
 intro n;induction n with
 |zero=>intro m a g h;lia|succ n o=>
  intro m a g A u;ext rS;rw[Ä];show bP (v m a g u) λp k=>?_;let⟨w,x⟩:=p;cases w with
  |false=>show À.mpr (by apply k)|true=>
   dsimp[if_true]at k;dsimp;rw[Ä];show bP k λq i=>?_;let⟨s,z,y⟩:=q;cases s with
   |nx=>let⟨e,h1,j⟩:=i;show o e _ _ () j|ct=>let⟨e,h1,j⟩:=i;show o e _ _ () j|bk=>show À.mpr i|rt d=>show À.mpr i
def La{b:MS}(I:Nat->aG->Hm->Prop)m(h:m<1000000000)(h0:I m a e)(i:∀m a e,I m a e->W (c a e) λp=>if p.1=dI then W (b a p.2) λq=>match q.1 with
   |.nx=>∃g,g<m/\I g q.2.1 q.2.2|.ct=>∃g,g<m/\I g q.2.1 q.2.2|.bk=>Q (.nx,q.2.1,q.2.2)
   |.rt d=>Q (.rt d,q.2.1,q.2.2)else Q (.nx,a,p.2)):W (tR uE c b a e) Q:=by
 ext tR;show a0A I i uE m a e (by ext uE;show h) h0
structure Wf(w h:Int)(F:Int×Int->Ly):Prop where
 di:∀q,Ě (F q)
 lt:∀q,(F q).e%4=0/\(F q).g%4=0
 ed:∀e∈bH w h,F (sA e)=F (sB e)\/F (sA e)=c9 (fV e) (F<|sB e)
structure Dr(qs:jq)(μ:Hm)(a b:Nat)(F:Int×Int->Ly)(row:jq)(Z:Zr):Prop where
 hw:μ[a]?=b3 (.dT<|bT (λq=>LD<|F q) row)
 hr:row.Perm qs
 hi:HI μ b Z
 hh:μ[b]?=b3 (.dT<|bA Z)
 pl:ī qs (λq=>aC (F q) q)<|GZ Z
def Dr.more{μ':Hm}(d:Dr qs c a b F row Z)(p:c<+:μ'):Dr qs μ' a b F row Z:=⟨aD p d.hw,d.hr,d.hi.more p,aD p d.hh,d.pl⟩
def a0B(d:cJ r.1 r.2=dI):bS (j8 r) (cV (j8 r) r)=fV r:=by
 show Dx λp=>?_;rw[Km,kQ];let⟨x,y⟩:=r;let⟨u,v⟩:=p;unfold eQ j8 cV;rcases uJ d with⟨a,b⟩|⟨a,b,c⟩|⟨a,b,c⟩<;>dsimp at a b ⊢
 .dsimp[if_pos a];by_cases h:x%4=y%4
  .dsimp[if_pos h];show Ē ?_ ?_<;>simp<;>lia
  .dsimp[if_neg h];show Ē ?_ ?_<;>simp<;>lia
 .dsimp[if_neg<|show ¬ x%2=1 by lia,if_pos b];show Ē ?_ ?_<;>simp
 .dsimp[if_neg<|show ¬ x%2=1 by lia,if_neg<|show ¬ y%4=0 by lia];show Ē ?_ ?_<;>simp
def Lb u(a:n%4=0)(h:A.e%4=0/\A.g%4=0):(c9 A<|bS u n).e%4=0/\(c9 A<|bS u n).g%4=0:=by
 ext c9 bS;split
 .dsimp;lia
 split
 .dsimp;lia
 split
 .dsimp;lia
 .dsimp;lia
def a0C(hw:1<=w/\w<=3)(c:1<=h/\h<=3):(w,h)∈gP:=by
 let a:=qQ hw;let b:=qQ c;revert w h;intro w h _ _ a b;have:∀w∈[(1:Int),2,3],∀h∈[(1:Int),2,3],(w,h)∈gP:=⋯
 show this w a h b
abbrev pN(p:Int×Int):Bool:=if p.1%2=1 then p.2%2==1 else p.2%2==0&&!(p.1%4==p.2%4)
def a0D k x y a(Q:jz):W (f (k+1) "is_edge" [P x y] a) Q↔Q (.bl<|pN (x,y),a):=by
 rw[Jv,ß];dsimp[Æ,Ï,Ì,Ñ,ĕ,î,æ,eX,cE,ğ,ú,û,Af,ĥ,ě];ext pN;by_cases h:x%2=1
 .simp[h]
 .let e:(x%2==1)=false:=by apply h
  dsimp[e,h,ŀ,if_false];cases y%2==0<;>simp
def Lc:∀p∈gP,(j5 p.1 p.2).filter pN=bH p.1 p.2:=by decide +kernel
def a0E k(i:(w,h)∈gP)(c:Hm)(Q:jz)(H:∀a μ',c<+:μ'->μ'[a]?=b3 (.lst<|(bH w h).map PP)->Q (.loc a,μ')):W (f (k+2) "edges_in" [.int w,.int h] c) Q:=by
 let⟨hw,g,_⟩:=gZ _ i;show Ð (Xw (k+1) _ _ c)<|cI<|jX (xs:=(j5 w h).map PP) (p:=λd=>pN<|eK d) (v:=λd=>d)<|Ó.mpr<|aS rfl<|Kv _ w h hw g _ _ λa o n e p=>(eE e).mpr ⟨mV e,rfl,?_,λd μ' hd b=>?_,λd μ' hd _ b=>⟨_,rfl,rfl,ď _⟩,λμ' b j=>?_⟩
 .have:=DN (w:=w) (h:=h) hw.2 g.2;rw[Ã,ò];lia
 .let⟨u,v,rfl⟩:=wR hd;show gW (b:=pN (u,v))<|aS rfl<|(a0D k u v _ _).mpr ⟨rfl,rfl,ď _⟩
 .show H _ _ (n.trans b) ?_;rw[j,uH pN,Lc _ i]
abbrev hG(e:Int×Int):jq:=(kX e).filter eC
def qV(h:cJ e.1 e.2=dI):∃s t,hG e=[s,t]/\s≠t/\((s=sA e/\t=sB e)\/(s=sB e/\t=sA e)):=by
 rcases K3 h with a|a
 .show⟨_,_,a,pM h,.inl ⟨rfl,rfl⟩⟩
 .show⟨_,_,a,ð<|pM h,.inr ⟨rfl,rfl⟩⟩
def Ld(h:cJ e.1 e.2=dI):eQ e e=e:=by
 let⟨x,y⟩:=e;ext eQ;rcases uJ h with⟨a,b⟩|⟨a,b,c⟩|⟨a,b,c⟩<;>dsimp at a b ⊢
 .by_cases h:x%4=y%4
  .dsimp[if_pos a,if_pos h];show Ē ?_ ?_<;>dsimp<;>lia
  .dsimp[if_pos a,if_neg h];show Ē ?_ ?_<;>dsimp<;>lia
 .dsimp[if_neg<|show ¬ x%2=1 by lia,if_pos b];show Ē ?_ ?_<;>dsimp<;>lia
 .dsimp[if_neg<|show ¬ x%2=1 by lia,if_neg<|show ¬ y%4=0 by lia];show Ē ?_ ?_<;>dsimp<;>lia
abbrev aY(F:Int×Int->Ly)(e:Int×Int):Int×Int:=aC (F<|sA e) e
def xA(h:cJ e.1 e.2=dI)(hd:F (sA e)=F (sB e)\/F (sA e)=c9 (fV e) (F<|sB e)):aC (F<|sB e) e=aY F e:=by
 ext aY;rcases hd with hd|hd
 .rw[hd]
 .rw[hd,jY,kQ,Ld h]
def a0F k t(Y:(w,h)∈gP){S:List ((Int×Int)×Str)}(wf:Wf w h F)(M:row.Perm (cB w h))(nd:(cB w h).Nodup)(ht:n[t]?=b3 (.dT<|bT (λq=>LD<|F q) row))(Q:jz)(H:∀a Z j,GI n j a Z->GZ Z=l8 (aY F) (bH w h)->Q (.loc a,j)):W (f (k+3) "edges_laid" [SH w h S,.loc t] n) Q:=by
 let⟨_,_,_,_,_,l2,_,fr⟩:=gZ _ Y;replace l2:(bH w h).length<=64:=l2;show Ð (XH (k+2) _ _ n)<|bD<|ã.mpr<|fU<|É.mpr<|Ó.mpr<|aS rfl<|a0E k Y _ _ λb x p1 A=>(eE A).mpr ?_;let O:x[n.length]?=b3 (.dT []):=aD p1<|bE _ _;let I0:GI n x n.length []:=⟨(aR _ _).trans p1,Ø _,O,ud,ud,λz o=>nomatch o⟩;let L:b≠n.length:=λe=>by rw[e,O]at A;ext A
 show jD (λi E j=>∃Z o3,GI n j n.length Z/\GZ Z=l8 (aY F) ((bH w h).take i)/\j[b]?=b3 (.lst<|(bH w h).map PP)/\(∀z∈Z,b<z.2.2)/\E=[b3<|SH w h S,b3<|.loc t,b3<|.loc n.length,o3]) ⟨[],b4,I0,rfl,A,(λz o=>nomatch o),rfl⟩ (λi E j h=>let⟨Z,o2,_,_,g,_⟩:=h;g) ?_ ?_
 .rintro i d E N hd ⟨Z,o3,I,u,K,p,rfl⟩;let⟨e,T,rfl⟩:=nD hd;let U:=ķ T;let⟨r1,q1,q2,_⟩:=fr e U;let⟨s,t',es,_,J⟩:=qV r1;let v:s∈row/\aC (F s) e=aY F e:=by
   rcases J with⟨rfl,_⟩|⟨rfl,_⟩
   .show⟨M.mem_iff.mpr q1,rfl⟩
   .show⟨M.mem_iff.mpr q2,xA r1<|wf.ed e U⟩
  show⟨[b3<|SH w h S,b3<|.loc t,b3<|.loc n.length,b3<|PP e],rfl,í.mpr<|jE<|JU ⟨_,rfl,JV I.dic,aQ<|dG<|aQ<|aO ⟨_,rfl,aO<|aS rfl<|AN k e _ _ λc μ3 B R=>?_⟩⟩⟩;rw[show(kX e).filter eC=[s,t']from es]at R;show⟨_,rfl,(dX R<|show atI ([s,t'].map PP) 0=b3 (PP s)from rfl).mpr<|(fY (.inl<|aD (I.pre.trans B) ht) (b8 s)<|iV (M.nodup_iff.mpr nd) v.1).mpr ⟨_,rfl,(JK (k+1) (F s) (wf.di s) e.1 e.2 _ _).mpr<|aQ<|é.mpr ⟨_,rfl,ĸ _,_,rfl,?_⟩⟩⟩;rw[show((e.1,e.2):Int×Int)=e from rfl,v.2];let sm:=YZ u<|JW _ _;let ht2:=ig i<|bH w h;show bP (YV (I.more B) (aY F e) e (by have:=sm.1;lia) (λz o=>by have:=sm.2 z o;lia) _ ?_) λr X=>⟨X.1,⟨_,rfl,X.2⟩⟩;intro Z' j I' G kp nw;show⟨Z',b3<|PP e,I',by rw[G,u,YW T],kp _ _ (aD B K) L λz o=>by have:=p z o;lia,λz o=>?_,rfl⟩;rcases nw z o with⟨y,hy,e⟩|e
  .rw[<- e];show p y hy
  .have:=(ä.mp<|aD B K).1;lia
 .rintro E N ⟨Z,o2,I,u,K,p,rfl⟩;rw[Ã,ź]at u;show⟨rfl,cI ⟨_,rfl,H _ _ _ I u⟩⟩
def Le(R:Int×Int->Nat->Hm->Prop){g:Hm}{es:jq}(gl:g[l]?=b3 (.lst<|es.map PP))(T:es.length<=100)(hit:G y g=b3 (dC<|.loc l,(es.map PP).length+1,g))(B:∀e c k o,R e c k->(∀b v,g.length<b->k[b]?=b3 v->o[b]?=b3 v)->R e c o)(go:∀e∈es,∀a,g<+:a->g.length<a.length->W (A (y++[b3<|PP e]) a) λs=>a<+:s.2/\∃c,s.1=.loc c/\R e c s.2)(Q:jz)(H:∀(d:List Nat)a,g<+:a->a[g.length]?=b3 (.lst<|d.map D.loc)->d.length=es.length->(∀(i:Nat)e c,es[i]?=b3 e->d[i]?=b3 c->R e c a)->Q (.loc g.length,a)):W (eU G fD A y g) Q:=by
 show Jn ⟨_,hit,es.length,(λi u a=>∃d:List Nat,u=d.map D.loc/\d.length=i/\g<+:a/\∀(j:Nat) e c,es[j]?=b3 e->d[j]?=b3 c->R e c a),by rw[Ã],by rw[ò];lia,?_,⟨[],rfl,rfl,aR _ _,λj e c _ h=>by simp at h⟩,?_,?_⟩
 .rintro i u a ⟨d,rfl,h,_⟩;rw[Ã];lia
 .rintro i u a hi ⟨d,rfl,hc,p,r⟩ q;let E:es[i]?=b3 es[i]:=ā hi;show⟨PP es[i],_,?_,rfl,ù.mpr ⟨λh=>(by ext h),λ_=>?_⟩⟩
  .dsimp[dC,i9,bO,aD p gl,ė,ÿ,E]
  .show bP (go es[i] (iz hi) a p (ä.mp q).1) λs ⟨x,c,J,N⟩=>⟨aD x q,d++[c],by rw[J,ă];rfl,by rw[ć,hc];rfl,cX (p.trans x) (Ø _) _,λj e z w n=>?_⟩;let I:∀k:Hm,k<+:s.2->∀b v,g.length<b->k[b]?=b3 v->(s.2.set g.length<|.lst<|d.map D.loc++[s.1])[b]?=b3 v:=λk h b v O M=>by rw[ô ()];show aD h M
   by_cases L:j<d.length
   .rw[ϕ L]at n;show B e z _ _ (r j e z w n)<|I a x
   .let K:j=i:=by have:=(ä.mp n).1;rw[ć]at this;have:j<d.length+1:=this;lia
    subst K;rw[jb (),hc,Pp]at n;rw[E]at w;ext w;ext n;show B _ _ _ _ N<|I s.2<|ď _
 .rintro u a ⟨d,rfl,hc,p,r⟩ q;show⟨?_,H d a p q hc r⟩;dsimp[dC,i9,bO,aD p gl,ė];rw[cj<|by rw[Ã];show Ø _]
def ji{Q:jz}:W (aZ b5 (PP p) (PP q) a) Q↔Q (.bl<|decide<|p=q,a):=by
 let e:eI 8 a (PP p) (PP q)=b3 (p.1==q.1&&(p.2==q.2&&dI)):=rfl;have:aZ b5 (PP p) (PP q) a=b3 (.bl<|decide<|p=q,a):=by ext aZ;rw[e];change b3 (D.bl<|p.1==q.1&&(p.2==q.2&&dI),a)=_;congr 3;rw[OE,Ψ];dsimp[ó,beq_iff_eq,decide_eq_true_iff];show⟨λz=>Ē z.1 z.2,λz=>by rw[z];show⟨rfl,rfl⟩⟩
 rw[this];show À
abbrev c7(F:Int×Int->Ly)(e s:Int×Int):jq:=(hG e).filter λq=>decide<|aC (F q) q=s
def a0G{μ:Hm}k(i:∀q,Ě (F q))(nd:row.Nodup)(p:μ[t]?=b3 (.dT<|bT (λq=>LD<|F q) row))(j:∀q∈hG e,q∈row)(Q:jz)(H:∀c μ',μ<+:μ'->μ.length<=c->μ'[c]?=b3 (.lst<|(c7 F e s).map PP)->Q (.loc c,μ')):W (f (k+3) "quarters_at" [PP e,.loc t,PP s] μ) Q:=by
 show Ð (XJ (k+2) _ _ _ μ)<|cI<|jX (xs:=(hG e).map PP) (p:=λd=>decide<|aC (F<|eK d) (eK d)=s) (v:=λd=>d)<|Ó.mpr<|aS rfl<|AN k e _ _ λa u g h=>(eE h).mpr ⟨mV h,rfl,?_,λd μ' hd b=>?_,λd μ' hd _ b=>⟨_,rfl,rfl,ď _⟩,λμ' b n=>?_⟩
 .rw[Ã];show Ģ (Ž _ _) K1
 .let⟨q,o,rfl⟩:=Õ.mp hd;show cZ<|aO<|dG<|aQ<|aP rfl rfl<|(fY (.inl<|aD (g.trans b) p) (b8 q)<|iV nd<|j q o).mpr ⟨_,rfl,(JK (k+1) (F q) (i q) q.1 q.2 _ _).mpr ⟨_,rfl,ji.mpr ⟨_,rfl,rfl,ď _⟩⟩⟩
 .show H _ _ (g.trans b) (Jb g) ?_;rw[n,uH λq=>decide<|aC (F q) q=s];rfl
abbrev JC(lo:Nat)(A B:jq)(c:Nat)(μ:Hm):Prop:=∃c0 c1,lo<c/\lo<c0/\lo<c1/\μ[c]?=b3 (.lst [.loc c0,.loc c1])/\μ[c0]?=b3 (.lst<|A.map PP)/\μ[c1]?=b3 (.lst<|B.map PP)
def a0H{μ:Hm}k(z:∀q,Ě (F q))(nd:row.Nodup)(E:μ[t]?=b3 (.dT<|bT (λq=>LD<|F q) row))(A:∀q∈hG e,q∈row)(v:hG p=[s0,s1])(B:lo<μ.length)(Q:jz)(H:∀c μ',μ<+:μ'->JC lo (c7 F e s0) (c7 F e s1) c μ'->Q (.loc c,μ')):W (f (k+4) "joined_at" [PP e,.loc t,PP p] μ) Q:=by
 show Ð (XM (k+3) _ _ _ μ)<|cI ?_;obtain⟨⟨x,b⟩,h1,a,d,g,u⟩:W (f (k+3) "sides_of" [PP p] μ) λr=>∃a,μ<+:r.2/\r.2[a]?=b3 (.lst<|(hG p).map PP)/\r.1=.loc a:=AN (k+1) p _ _ λa b d g=>⟨a,d,g,rfl⟩;dsimp at d g u;subst u;let hc:eU (cQ<|bJ (f (k+3) "sides_of")<|aB (aE 2) aF) fD (bJ (f (k+3) "quarters_at")<|aB (aE 0)<|aB (aE 1)<|aB (aE 3) aF) [b3<|PP e,b3<|.loc t,b3<|PP p] μ=eU (λ_ μ=>b3 (dC<|.loc a,((hG p).map PP).length+1,μ)) fD (bJ (f (k+3) "quarters_at")<|aB (aE 0)<|aB (aE 1)<|aB (aE 3) aF) [b3<|PP e,b3<|.loc t,b3<|PP p] b:=by
  have:cQ (bJ (f (k+3) "sides_of")<|aB (aE 2) aF) [b3<|PP e,b3<|.loc t,b3<|PP p] μ=b3 (dC<|.loc a,((hG p).map PP).length+1,b):=by ext cQ;rw[show bJ (f (k+3) "sides_of") (aB (aE 2) aF) [b3<|PP e,b3<|.loc t,b3<|PP p] μ=f (k+3) "sides_of" [PP p] μ from rfl,h1];dsimp[ē,i9,bO,g];rfl
  ext eU gU;rw[this]
 rw[hc];let lt:μ.length<=b.length:=Jb d;show Le (R:=λs c μ'=>b.length<c/\μ'[c]?=b3 (.lst<|(c7 F e s).map PP)) g (by rw[v];change(2:Nat)<=100;decide) rfl (λe c R T h k=>⟨h.1,k c _ h.1 h.2⟩) (λs L μ' o O=>aS rfl<|a0G k z nd (aD (d.trans o) E) A _ λc K G n y=>⟨G,c,rfl,(),y⟩) _ λw μ' o j n i=>?_;rw[v]at n i;match w,n,j,i with
 |[c0,c1],_,j,i=>let⟨M,I⟩:=i 0 s0 c0 rfl rfl;let⟨N,J⟩:=i 1 s1 c1 rfl rfl;show H _ _ (d.trans o) ⟨c0,c1,(),(),(),j,I,J⟩
abbrev qW(r:Int×Int->Int)(a b:Int×Int)(L:jq):Nat:=(L.filter λq=>decide (min (r a) (r b)<r q)&&decide (r q<max (r a) (r b))).length
def Lf{μ:Hm}k(i:fl.Nodup)(g:μ[h]?=b3 (.dT<|bT (λq=>.int<|r q) fl))(z:a∈fl)(A:b∈fl)(w:∀q∈L,q∈fl)(B:L.length<=100)(c:μ[x]?=b3 (.lst<|[a,b].map PP))(j:μ[y]?=b3 (.lst<|L.map PP))(Q:jz)(H:∀μ',μ<+:μ'->Q (.int<|qW r a b L,μ')):W (f (k+1) "count_between" [.loc h,.loc x,.loc y] μ) Q:=by
 let o:atI ([a,b].map PP) 0=b3 (PP a):=rfl;let p:atI ([a,b].map PP) 1=b3 (PP b):=rfl;let s:∀{Q:jz},Q (.int<|r a,μ)->W (bF (.loc h) (PP a) μ) Q:=λq=>(fY (.inl g) (b8 a)<|iV i z).mpr q;let u:∀{Q:jz},Q (.int<|r b,μ)->W (bF (.loc h) (PP b) μ) Q:=λq=>(fY (.inl g) (b8 b)<|iV i A).mpr q;show Ð (XN k _ _ _ μ)<|bD<|dG<|aQ<|aO ⟨_,rfl,aP rfl rfl<|(dX c o).mpr<|s<|aQ<|aO ⟨_,rfl,aP rfl rfl<|(dX c p).mpr<|u ⟨_,rfl,wy.mpr ?_⟩⟩⟩;show bD<|dG<|aQ<|aO ⟨_,rfl,aP rfl rfl<|(dX c o).mpr<|s<|aQ<|aO ⟨_,rfl,aP rfl rfl<|(dX c p).mpr<|u ⟨_,rfl,wz.mpr ?_⟩⟩⟩;show cI<|dG<|aQ<|jX (xs:=L.map PP) (p:=λd=>decide (min (r a) (r b)<r (eK d))&&decide (r (eK d)<max (r a) (r b))) (v:=λd=>d)<|Ó.mpr ⟨_,rfl,(eE j).mpr ⟨mV j,rfl,by rw[Ã,ò];lia,λd μ' hd e=>?_,λd μ' hd _ e=>⟨_,rfl,rfl,ď _⟩,λμ' e n=>?_⟩⟩
 .let⟨q,v,rfl⟩:=Õ.mp hd;show cZ<|Ś.mpr ⟨_,rfl,aP rfl rfl<|(fY (.inl<|aD e g) (b8 q)<|iV i<|w q v).mpr<|ņ.mpr ?_⟩;rw[Kd];cases decide (min (r a) (r b)<r q)with
  |false=>show⟨_,rfl,rfl,ď _⟩|true=>show⟨_,rfl,ņ.mpr ⟨_,rfl,rfl,ď _⟩⟩
 .rw[uH λq=>decide (min (r a) (r b)<r q)&&decide (r q<max (r a) (r b))]at n;show⟨_,rfl,(jF n).mpr ?_⟩;rw[Ã];show H _ e
abbrev oE(r:Int×Int->Int)(X Y:jq):Option Bool:=match X with
 |[a,b]=>b3 (qW r a b Y==1)|_=>match Y with
  |[c,d]=>b3 (qW r c d X==1)|_=>b4
abbrev Lg(r:Int×Int->Int)(X Y:jq):Bool:=decide<|r (X.headD (0,0))>r (Y.headD (0,0))
abbrev sU(r:Int×Int->Int)(a c d e:jq):Bool:=match oE r a d with
 |some b=>b|none=>match oE r c e with
  |some b=>b|none=>Lg r a d != Lg r c e
abbrev a0I(k:Nat):MS:=aL (bK (a7<|aA (aZ b5) (bJ dD<|aB (aE 3) aF)<|mC<|.int 2) (aM<|aA (aZ b5) (bJ (f k "count_between")<|aB (aE 0)<|aB (aE 3)<|aB (aE 4) aF)<|mC<|.int 1) bV)<|bK (a7<|aA (aZ b5) (bJ dD<|aB (aE 4) aF)<|mC<|.int 2) (aM<|aA (aZ b5) (bJ (f k "count_between")<|aB (aE 0)<|aB (aE 4)<|aB (aE 3) aF)<|mC<|.int 1) bV
def Lh{X:jq}(h:X.length=2):∃a b,X=[a,b]:=by
 match X,h with
 |[a,b],_=>show⟨a,b,rfl⟩
def a0J{Y:jq}(a:X.length≠2)(b:Y=[c,d]):oE r X Y=b3 (qW r c d X==1):=by
 subst b;ext oE;split
 .show absurd rfl a
 .rfl
def a0K(a:X.length≠2)(b:Y.length≠2):oE r X Y=none:=by
 ext oE;split
 .show absurd rfl a
 .split
  .show absurd rfl b
  .rfl
def Li(n:Nat):(((n:Int))==1)=(n==1):=by rw[Ψ,beq_iff_eq,beq_iff_eq];lia
def Lj(n:Nat):(((n:Int))==2)=(n==2):=by rw[Ψ,beq_iff_eq,beq_iff_eq];lia
def Lk{μ:Hm}k(w:fl.Nodup)(v:μ[h]?=b3 (.dT<|bT (λq=>.int<|r q) fl))(j:∀q∈X,q∈fl)(n:∀q∈Y,q∈fl)(A:X.length<=100)(B:Y.length<=100)(g:μ[x]?=b3 (.lst<|X.map PP))(i:μ[y]?=b3 (.lst<|Y.map PP))R(u:∀b c,oE r X Y=b3 b->μ<+:c->R (.rt<|.bl b,[b3<|.loc h,o,s,b3<|.loc x,b3<|.loc y],c))(z:oE r X Y=b4->R (.nx,[b3<|.loc h,o,s,b3<|.loc x,b3<|.loc y],μ)):W (a0I (k+1) [b3<|.loc h,o,s,b3<|.loc x,b3<|.loc y] μ) R:=by
 show Æ.mpr<|Ñ.mpr<|cZ<|aO<|aS rfl<|(jF g).mpr ⟨_,rfl,û.mpr ⟨_,rfl,?_⟩⟩;rw[Ã,Lj];by_cases d:X.length=2
 .show kW (beq_iff_eq.mpr d) ?_;let⟨a,b,rfl⟩:=Lh d;show Ï.mpr (aO<|aS rfl<|Lf k w v (j a ∅) (j b ∅) n B g i _ λc p=>⟨_,rfl,û.mpr ?_⟩);rw[Li];show u _ _ rfl p
 .show gO (beq_eq_false_iff_ne.mpr d)<|Ì.mpr<|Ñ.mpr<|cZ<|aO<|aS rfl<|(jF i).mpr ⟨_,rfl,û.mpr ⟨_,rfl,?_⟩⟩;rw[Ã,Lj];by_cases e:Y.length=2
  .show kW (beq_iff_eq.mpr e) ?_;let⟨a,b,rfl⟩:=Lh e;show Ï.mpr (aO<|aS rfl<|Lf k w v (n a ∅) (n b ∅) j A i g _ λc p=>⟨_,rfl,û.mpr ?_⟩);rw[Li];show u _ _ (a0J d rfl) p
  .show gO (beq_eq_false_iff_ne.mpr e)<|Ì.mpr<|z<|a0K d e
def Ll{r:Int×Int->Int}k(d:fl.Nodup)(c:μ[h]?=b3 (.dT<|bT (λq=>.int<|r q) fl))(e:a∈fl)(g:b∈fl)(Q:jz)(H:Q (.bl<|decide<|r a>r b,μ)):W (f (k+1) "is_above" [.loc h,PP a,PP b] μ) Q:=
 Ð (Jx k _ _ _ μ)<|cI<|aO<|aP rfl rfl<|(fY (.inl c) (b8 a)<|iV d e).mpr<|aP rfl rfl<|(fY (.inl c) (b8 b)<|iV d g).mpr<|Ň.mpr H
inductive Sh:jq->jq->Prop where
 |c0 (a b):Sh [a,b] []
 |c1 (a b):Sh [] [a,b]
 |s (a b):Sh [a] [b]
def Sh.len(s:Sh A B):A.length<=100/\B.length<=100:=by ext s<;>show⟨∅,∅⟩
def w_neB{Q:jz}:W (aZ dI (.bl x) (.bl y) μ) Q↔Q (.bl<|x != y,μ):=by
 have:aZ dI (.bl x) (.bl y) μ=b3 (.bl<|x != y,μ):=by ext x<;>ext y<;>rfl
 rw[this];show À
def a0L k(Y:fl.Nodup)(T:μ[h]?=b3 (.dT<|bT (λq=>.int<|r q) fl))(sA:Sh I J)(sB:Sh K L)(U:∀q,q∈I\/q∈J->q∈fl)(X:∀q,q∈K\/q∈L->q∈fl)(jA:JC lo I J x μ)(jB:JC lo K L y μ)(Q:jz)(H:∀g,μ<+:g->Q (.bl<|sU r I J K L,g)):W (f (k+2) "crosses" [.loc h,.loc x,.loc y] μ) Q:=by
 let⟨a0,a1,_,_,_,o,M,N⟩:=jA;let⟨b0,b1,_,_,_,w,O,R⟩:=jB;let lA:=sA.len;let lB:=sB.len;show Ð (XO (k+1) _ _ _ μ)<|Æ.mpr<|É.mpr<|Jo ⟨_,rfl,_,_,_,_,rfl,o,w,?_⟩;show nV (N:=2) (λi E g=>∃u v,E=[b3<|.loc h,b3<|.loc x,b3<|.loc y,u,v]/\μ<+:g/\(0<i->oE r I K=b4)/\(1<i->oE r J L=b4)) ?_ ?_ 2 0 _ μ rfl ⟨b4,b4,rfl,ď _,λz=>absurd z<|γ _,λz=>absurd z ⋯⟩
 .rintro i E g hi ⟨u,v,rfl,p,n,G⟩;let j:∀i,jU (.loc x) (.loc y) g i=b3 (([D.loc a0,.loc a1][i]?).bind λd=>([D.loc b0,.loc b1][i]?).map λe=>.tup [d,e]):=λi=>by dsimp[jU,bO,aD p o,aD p w,ē,ė]
  let hc:i=0\/i=1:=()
  rcases hc with rfl|rfl
  .show⟨_,_,j 0,rfl,Lk k Y (aD p T) (λq A=>U q<|.inl A) (λq A=>X q<|.inl A) lA.1 lB.1 (aD p M) (aD p O) _ (λb B e p2=>?_) λe=>⟨_,_,rfl,p,λ_=>e,λz=>absurd z ⋯⟩⟩;have:=H B<|p.trans p2;unfold sU at this;rw[e]at this;show this
  .show⟨_,_,j 1,rfl,Lk k Y (aD p T) (λq A=>U q<|.inr A) (λq A=>X q<|.inr A) lA.2 lB.2 (aD p N) (aD p R) _ (λb B e p2=>?_) λe=>⟨_,_,rfl,p,λ_=>n ⋯,λ_=>e⟩⟩;have:=H B<|p.trans p2;unfold sU at this;rw[n ⋯,e]at this;show this
 .rintro E g ⟨u,v,rfl,p,n,G⟩;let n:=n ⋯;let G:=G ⋯;let j:jU (.loc x) (.loc y) g 2=b3 none:=by dsimp[jU,bO,aD p o,aD p w,ē,ė];rfl
  show⟨j,?_⟩;have:=H g p;unfold sU at this;rw[n,G]at this;cases sA with
  |c0 a b=>ext n|c1 a b=>ext G|s a b=>
   cases sB with
   |c0 c d=>ext n|c1 c d=>ext G|s c d=>have i0:∀{u v:D},atI [u,v] 0=b3 u:=rfl;let i1:∀{u v:D},atI [u,v] 1=b3 v:=rfl;let Z:∀q,atI ([q].map PP) 0=b3 (PP q):=λ_=>rfl;let o:=aD p o;let w:=aD p w;show Ï.mpr<|aO<|dG<|aQ ⟨_,rfl,aQ<|aO<|aP rfl rfl<|(dX o i0).mpr ⟨_,rfl,(dX (aD p M)<|Z a).mpr<|aQ<|aO<|aP rfl rfl<|(dX w i0).mpr ⟨_,rfl,(dX (aD p O)<|Z c).mpr ⟨_,rfl,?_⟩⟩⟩⟩;show Ll k Y (aD p T) (U a<|.inl ∅) (X c<|.inl ∅) _<|dG<|aQ ⟨_,rfl,aQ<|aO<|aP rfl rfl<|(dX o i1).mpr ⟨_,rfl,(dX (aD p N)<|Z b).mpr<|aQ<|aO<|aP rfl rfl<|(dX w i1).mpr ⟨_,rfl,(dX (aD p R)<|Z d).mpr ⟨_,rfl,?_⟩⟩⟩⟩;show Ll k Y (aD p T) (U b<|.inr ∅) (X d<|.inr ∅) _<|w_neB.mpr this
abbrev θ:jq:=[(-1,0),(0,-1),(0,1),(1,0)]
def a0M p:kX p=θ.map λs=>(p.1+s.1,p.2+s.2):=by ext kX θ;dsimp[ö,ϴ,yr];rfl
def AO(hA:Ě A)(b:A.e%4=0/\A.g%4=0)(h:q∈hG e):aC A q∈hG (aC A e):=by
 let⟨h1,a⟩:=Ī.mp h;show Ī.mpr ⟨?_,?_⟩
 .let key:∀s∈θ,(A.a*s.1+A.b*s.2,A.c*s.1+A.d*s.2)∈θ:=by obtain⟨u,v,h|h|h|h|h|h|h|h⟩:=Dv hA<;>subst h<;>dsimp<;>decide
  rw[a0M]at h1 ⊢;let⟨s,c,rfl⟩:=Õ.mp h1;show Õ.mpr ⟨_,key s c,?_⟩;ext aC;dsimp[Pz,OW];lia
 .rw[show eC (aC A q)=eC q from K4 (T:=λx y=>eC (x,y)) K2 a0o a0p hA b q];show a
def xB(hA:Ě A)(h:p≠q):aC A p≠aC A q:=λe=>h<|by
 have:=congrArg (aC<|Dt A) e;rwa [JI hA,JI hA]at this
def D0(H:(w,h)∈gP)(wf:Wf w h F)(z:e∈bH w h)(n:hG (aY F e)=[s0,s1]):Sh (c7 F e s0) (c7 F e s1)/\(∀q,q∈c7 F e s0\/q∈c7 F e s1->q∈cB w h)/\cJ (aY F e).1 (aY F e).2=true:=by
 let⟨p,B,E,_⟩:=(gZ _ H).2.2.2.2.2.2.2 e z;let G:cJ (aY F e).1 (aY F e).2=true:=uN (wf.di _) (wf.lt _) p;let⟨c,d,k,K,i⟩:=qV p;let A:c∈cB w h/\d∈cB w h:=by
  rcases i with⟨rfl,rfl⟩|⟨rfl,rfl⟩
  .show⟨B,E⟩
  .show⟨E,B⟩
 let j:∀s,∀q∈c7 F e s,q∈cB w h:=λs q o=>by
  have:=(Ī.mp o).1;rw[k]at this;dsimp[Č,Ϗ,or_false]at this;rcases this with rfl|rfl
  .show A.1
  .show A.2
 show⟨?_,λq o=>o.elim (j _ q)<|j _ q,G⟩;let⟨u,v,x,g,_⟩:=qV G;rw[n]at x;ext x;let sp:aC (F c) e=aY F e/\aC (F d) e=aY F e:=by
  have:=xA p<|wf.ed e z;rcases i with⟨rfl,rfl⟩|⟨rfl,rfl⟩
  .show⟨rfl,this⟩
  .show⟨this,rfl⟩
 let I:aC (F c) c=s0\/aC (F c) c=s1:=by have:=AO (wf.di c) (wf.lt c) (e:=e) (q:=c) (by rw[k];simp);rw[sp.1,n]at this;apply this
 let J:aC (F d) d=s0\/aC (F d) d=s1:=by have:=AO (wf.di d) (wf.lt d) (e:=e) (q:=d) (by rw[k];simp);rw[sp.2,n]at this;apply this
 ext c7;rw[k];let y:∀s,([c,d].filter λq=>decide<|aC (F q) q=s)=(if aC (F c) c=s then[c]else[])++if aC (F d) d=s then[d]else[]:=λs=>by rw[iy,iy,yz];by_cases a:aC (F c) c=s<;>by_cases b:aC (F d) d=s<;>simp[a,b]
 rw[y,y];rcases I with a|a<;>rcases J with b|b
 .rw[a,b,if_pos rfl,if_pos rfl,if_neg g,if_neg g];show .c0 _ _
 .rw[a,b,if_pos rfl,if_neg<|ð g,if_neg g,if_pos rfl];show .s _ _
 .rw[a,b,if_neg<|ð g,if_pos rfl,if_pos rfl,if_neg g];show .s _ _
 .rw[a,b,if_neg<|ð g,if_neg<|ð g,if_pos rfl,if_pos rfl];show .c1 _ _
abbrev eT(c:List Bool):Bool:=c==[dI,b5,dI,b5]||c==[b5,dI,b5,dI]
def ŗ:eT c=dI↔c=[dI,b5,dI,b5]\/c=[b5,dI,b5,dI]:=by ext eT;rw[mX,beq_iff_eq,beq_iff_eq]
def Lm(h:eT c=dI):c.length=4:=by rcases ŗ.mp h with e|e<;>rw[e]<;>rfl
def Ln c:eT c.reverse=eT c:=by rw[Ψ,ŗ,ŗ,RS,RS];show or_comm
def D1 a b:eT (a++b)=eT (b++a):=by
 let h:∀a b:List Bool,eT (a++b)=dI->eT (b++a)=true:=λa b h=>by
  let k:∀c:List Bool,eT c=dI->∀n,n<5->eT (c.drop n++c.take n)=true:=λc hc=>by rcases ŗ.mp hc with rfl|rfl<;>decide
  let l:=Lm h;rw[ć]at l;have:=k _ h a.length ();rwa [List.drop_left,Q5]at this
 show Ψ.mpr ⟨h a b,h b a⟩
def D2 x{C:List Bool}(hA:∀b∈A,b=x)(hB:∀b∈B,b=!x)(hC:∀b∈C,b=x):eT (A++(B++C))=false:=by
 let k:∀x:Bool,∀a,a<5->∀b,b<5->∀c,c<5->eT (Ϣ a x++(Ϣ b (!x)++Ϣ c x))=false:=by decide +kernel
 show RB.mpr λh=>?_;let l:=Lm h;rw[ć,ć]at l;rw[P7.mpr ⟨rfl,hA⟩,P7.mpr ⟨rfl,hB⟩,P7.mpr ⟨rfl,hC⟩,k x _ () _ () _ ()]at h;ext h
abbrev eF(e a q:Int×Int):Option Bool:=if q=sA e\/q=sB e then b3 dI else if q=sA a\/q=sB a then b3 b5 else b4
abbrev wd(e a:Int×Int)(P:jq):List Bool:=P.filterMap<|eF e a
def Lo(h:eF e a q=b3 dI):q=sA e\/q=sB e:=by
 unfold eF at h;split at h
 .assumption
 .split at h<;>ext h
def Lp(h:eF e a q=b3 b5):q=sA a\/q=sB a:=by
 unfold eF at h;split at h
 .ext h
 .split at h
  .assumption
  .ext h
def xC{P:jq}(h:∀q∈P,eF e a q≠b3 !x):∀b∈wd e a P,b=x:=λb d=>by let⟨q,g,c⟩:=Of.mp d;have:=h q g;rw[c]at this;revert this;ext b<;>ext x<;>simp
def Lq{P:jq}(h:∀q∈P,eF e a q=b4):wd e a P=[]:=List.filterMap_eq_nil_iff.mpr h
abbrev oF(G:Gr)(s t e a:Int×Int):Bool:=eT<|wd e a (bW G s)++(wd e a<|bW G t).reverse
def Lr G s t e a:oF G s t e a=oF G t s e a:=by ext oF;rw[<- Ln,qd,il]
abbrev pO{a:Type}(o:Bool)(X Y:List a):List a:=if o then X++Y else Y++X
def Ls o p:∀K S,(K.map (·.1)).Nodup->bW (K.foldl (iU o) S) p=pO o (bW S p) (bW K p)
 |[],S,_=>by
  rw[Ax];ext pO;ext o
  .rfl
  .show(ŉ _).symm
 |g::K,S,hk=>by
  rw[ö,ő]at hk;rw[ur,Ls o p K _ hk.2,jJ];ext iU;rw[Ay];by_cases e:p=g.1
  .rw[if_pos e,if_pos e.symm,e,pK hk.1];ext pO;ext o
   .rfl
   .show ŉ _
  .rw[if_neg e,if_neg λw=>e w.symm]
def a0N(h:(G.map (·.1)).Nodup){mv:Int×Int->Bool}(c:∀p,M (M p)=p)o p:
  bW (sO mv M o G) p=pO o (if mv p then[]else bW G p) (if mv (M p)then(bW G<|M p).reverse else[]):=by
 ext sO;rw[Ls,DD,DE c];let e:(iH mv M G).map (·.1)=((G.filter λg=>mv g.1).map (·.1)).map M:=by ext iH;rw[å,å];rfl
 rw[e];show uq _ (λa b d w=>d<|by rw[<- c a,w,c])<|(gk.map _).nodup h
def Lu(c:(G.map (·.1)).Nodup){mv:Int×Int->Bool}(b:∀p,M (M p)=p)o e a p:
  wd e a (bW (sO mv M o G) p)=pO o (if mv p then[]else wd e a (bW G p)) (if mv (M p)then(wd e a<|bW G<|M p).reverse else[]):=by
 rw[a0N c b];let h:∀X Y:jq,wd e a (pO o X Y)=pO o (wd e a X) (wd e a Y):=λX Y=>by ext o<;>show List.filterMap_append
 rw[h];congr 1
 .cases mv p<;>rfl
 .cases mv<|M p
  .rfl
  .show List.filterMap_reverse
def Lv x o{c e:List Bool}(h0:∀b∈a,b=x)(h1:∀b∈d,b=x)(i:∀b∈c,b=!x)(n:∀b∈e,b=!x):eT (pO o a c.reverse++(pO o d e.reverse).reverse)=false:=by
 let r:∀{L:List Bool}{y:Bool},(∀b∈L,b=y)->∀b∈L.reverse,b=y:=λh b g=>h b<|Qy.mp g;let j:∀{L K:List Bool}{y:Bool},(∀b∈L,b=y)->(∀b∈K,b=y)->∀b∈L++K,b=y:=λh k b g=>(ĩ.mp g).elim (h b)<|k b;ext o
 .change eT ((c.reverse++a)++(e.reverse++d).reverse)=b5;rw[qd,il,Ϧ,<- Ϧ a];show D2 (!x) (r i) (by rw[Bool.not_not];show j h0<|r h1) n
 .change eT ((a++c.reverse)++(d++e.reverse).reverse)=b5;rw[qd,il,Ϧ,<- Ϧ c.reverse];show D2 x h0 (j (r i) n)<|r h1
def AQ(e:0<=u/\u<4)(d:n%4=0)(b:eC s=dI):cT u n a (aC (bS u n) s)=!cT u n a s:=by
 let h:decide (n<cV u (aC (bS u n) s))=!decide (n<cV u s):=by
  rw[DV]at b;rw[Km,Ψ,N6,decide_eq_true_iff,decide_eq_false_iff_not];ext cV;let⟨x,y⟩:=s;dsimp at b ⊢;let c:u=0\/u=1\/u=2\/u=3:=()
  rcases c with rfl|rfl|rfl|rfl
  .change n<2*n-y↔¬ n<y;lia
  .change n<2*n-x↔¬ n<x;lia
  .change n<y+n-(x-n)↔¬ n<x-y;lia
  .change n<n-y+(n-x)↔¬ n<x+y;lia
 ext cT;rw[h];cases decide (n<cV u s)<;>ext a<;>rfl
abbrev j9(p:Int×Int):Int×Int:=(p.1-p.1%4,p.2-p.2%4)
abbrev rs(p:Int×Int):Int×Int:=(p.1%4,p.2%4)
def a0O p:sA p=((j9 p).1+(sA<|rs p).1,(j9 p).2+(sA<|rs p).2):=by
 unfold sA j9 rs;dsimp;rw[sQ,mj];split
 .show Ē (by dsimp;lia)<|by dsimp;lia
 .split
  .show Ē (by dsimp;lia)<|by dsimp;lia
  .show Ē (by dsimp;lia)<|by dsimp;lia
def a0P p:sB p=((j9 p).1+(sB<|rs p).1,(j9 p).2+(sB<|rs p).2):=by
 unfold sB j9 rs;dsimp;rw[sQ,mj,mj];split
 .show Ē (by dsimp;lia)<|by dsimp;lia
 .split
  .show Ē (by dsimp;lia)<|by dsimp;lia
  .show Ē (by dsimp;lia)<|by dsimp;lia
def a0Q p:j8 p=j8 (rs p):=by ext j8 rs;dsimp;rw[sQ,mj,mj]
def a0R x y:cJ x y=cJ (x%4) (y%4):=by ext cJ;rw[sQ,sQ,mj,mj]
def D3 k p q:cV k (p.1+q.1,p.2+q.2)=cV k p+cV k q:=by
 ext cV;split
 .rfl
 split
 .rfl
 split
 .change p.1+q.1-(p.2+q.2)=p.1-p.2+(q.1-q.2);lia
 .change p.1+q.1+(p.2+q.2)=p.1+p.2+(q.1+q.2);lia
def Lx(x:Int):x-x%4=4*(x/4):=()
def a0S k p:cV k (j9 p)%4=0:=by
 have:cV k (j9 p)=4*cV k (p.1/4,p.2/4):=by
  ext cV j9;rw[Lx,Lx];split
  .rfl
  split
  .rfl
  split
  .show(Int.mul_sub ..).symm
  .show(Pz ..).symm
 rw[this,Int.mul_emod_right]
def Lz(n v a:Int):n<v+a↔n-v<a:=()
def a0T(i:m%4=0)(h:¬ (m<a↔m<b))(c:-4<=a)(d:a<=8)(e:-4<=b)(g:b<=8):m=-4\/m=0\/m=4:=()
def a0U(w:0<=u/\u<4)(q:n%4=0)(g:cJ p.1 p.2=dI)(hd:cT u n a (sA p)≠cT u n a (sB p)):u=j8 p/\n=cV (j8 p) p:=by
 let h:¬ (n<cV u (sA p)↔n<cV u (sB p)):=λe=>hd (by ext cT;rw[decide_eq_decide.mpr e]);clear hd;let K:∀i∈[(0:Int),1,2,3],∀j∈[(0:Int),1,2,3],∀u∈[(0:Int),1,2,3],cJ i j=dI->(-4<=cV u (sA (i,j))/\cV u (sA (i,j))<=8/\-4<=cV u (sB (i,j))/\cV u (sB (i,j))<=8)/\∀m∈[(-4:Int),0,4],¬ (m<cV u (sA (i,j))↔m<cV u (sB (i,j)))->u=j8 (i,j)/\m=cV (j8 (i,j)) (i,j):=by decide +kernel
 let s:u∈[(0:Int),1,2,3]:=by
  have:u=0\/u=1\/u=2\/u=3:=()
  apply this
 rw[a0R]at g;let⟨b,c⟩:=Ko (P:=λi j=>cJ i j=dI->(-4<=cV u (sA (i,j))/\cV u (sA (i,j))<=8/\-4<=cV u (sB (i,j))/\cV u (sB (i,j))<=8)/\∀m∈[(-4:Int),0,4],¬ (m<cV u (sA (i,j))↔m<cV u (sB (i,j)))->u=j8 (i,j)/\m=cV (j8 (i,j)) (i,j)) (λi hi j o=>K i hi j o u s) p.1 p.2 g;rw[a0O,a0P,D3,D3]at h;rw[Lz,Lz]at h;let e:p=((j9 p).1+(rs p).1,(j9 p).2+(rs p).2):=Ē (Oc ..).symm (Oc ..).symm;let v:cV u p=cV u (j9 p)+cV u (rs p):=(congrArg (cV u) e).trans<|D3 ..;let k:(n-cV u (j9 p))%4=0:=by rw[Int.sub_emod,q,a0S];rfl
 let⟨c1,d⟩:=c _ (by apply a0T k h b.1 b.2.1 b.2.2.1 b.2.2.2) h;rw[a0Q];let c1:u=j8 (rs p):=c1;let d:n-cV u (j9 p)=cV (j8<|rs p) (rs p):=d;rw[<- c1]at d ⊢;show⟨rfl,by rw[v,<- d,Pm,Oc]⟩
def D4(h:0<=u/\u<4)(g:n%4=0)(b:cJ p.1 p.2=dI)(hd:cT u n a (sA p)≠cT u n a (sB p)):aC (bS u n) p=p/\aC (bS u n) (sA p)=sB p/\aC (bS u n) (sB p)=sA p:=by
 let⟨c,d⟩:=a0U h g b hd;let e:bS u n=fV p:=by rw[c,d];show a0B b
 rw[e,kQ,kQ,kQ];show⟨Ld b,AI b⟩
def AR(b:cJ p.1 p.2=dI)(h:q∈hG p):q=sA p\/q=sB p:=by
 let⟨s,t,e,_,a⟩:=qV b;rw[e]at h;have:q=s\/q=t:=by apply h
 rcases a with⟨rfl,rfl⟩|⟨rfl,rfl⟩
 .show this
 .show this.symm
def AS(b:cJ p.1 p.2=dI)(h:q=sA p\/q=sB p):q∈hG p:=by let⟨s,t,e,_,a⟩:=qV b;rw[e];rcases a with⟨rfl,rfl⟩|⟨rfl,rfl⟩<;>rcases h with rfl|rfl<;>simp
def LA(a:cJ p.1 p.2=dI)(h:q=sA p\/q=sB p):eC q=true:=(Ī.mp<|AS a h).2
def D5(hA:Ě A)(b:A.e%4=0/\A.g%4=0)(a:cJ e.1 e.2=dI)(c:q=sA e\/q=sB e):aC A q=sA (aC A e)\/aC A q=sB (aC A e):=AR (uN hA b a)<|AO hA b<|AS a c
abbrev JL(F:Int×Int->Ly):Prop:=(∀q,Ě (F q))/\(∀q,(F q).e%4=0/\(F q).g%4=0)/\∀e,cJ e.1 e.2=dI->F (sA e)=F (sB e)\/F (sA e)=c9 (fV e) (F<|sB e)
def a0V:JL λ_=>fA:=⟨λ_=>JH,λ_=>⟨rfl,rfl⟩,λ_ _=>.inl rfl⟩
def LB(h:x≠y):(x=dI/\y=b5)\/(x=b5/\y=dI):=by ext x<;>ext y<;>simp at h ⊢
def a0W F u n a(o:0<=u/\u<4)(j:n%4=0)(h:JL F):JL (d7 u n a F):=by
 let⟨c,i,s⟩:=h;show⟨Ke c,λq=>?_,λe b=>?_⟩
 .ext d7;split
  .show Lb u j<|i q
  .show i q
 .ext d7;rcases s e b with h1|h1
  .let w:=D5 (c<|sB e) (i<|sB e) b<|.inl rfl;let lt:=D5 (c<|sB e) (i<|sB e) b<|.inr rfl;let p:=uN (c<|sB e) (i<|sB e) b;let ne:=xB (c<|sB e)<|pM b;rw[h1];by_cases d:cT u n a (aC (F<|sB e)<|sA e)=cT u n a (aC (F<|sB e)<|sB e)
   .rw[d];show .inl rfl
   .let k:aC (bS u n) (aC (F<|sB e)<|sA e)=aC (F<|sB e) (sB e)/\aC (bS u n) (aC (F<|sB e)<|sB e)=aC (F<|sB e) (sA e):=by
     rcases w with g|g<;>rcases lt with e2|e2
     .show absurd (g.trans e2.symm) ne
     .rw[g,e2]at d ⊢;show(D4 o j p d).2
     .rw[g,e2]at d ⊢;show(D4 o j p<|ð d).2.symm
     .show absurd (g.trans e2.symm) ne
    let⟨z,A⟩:=AI b;let X:c9 (F<|sB e) (bS u n)=c9 (fV e) (F<|sB e):=by
     show ZJ (Dw (c _)<|wU u n) (Dw (JG e)<|c _) ?_ (pM b) ?_ ?_
     .rw[Ao,Ao,ZH,Du,Int.mul_comm]
     .rw[jY,jY,kQ,z,k.1]
     .rw[jY,jY,kQ,A,k.2]
    show .inr ?_;rcases LB d with⟨x,y⟩|⟨x,y⟩<;>rw[x,y]
    .show X
    .change F (sB e)=c9 (fV e) (c9 (F<|sB e)<|bS u n);rw[<- Ap,<- X,Ap,ZK,YI]
  .let v:=EdF.pos b h1;show .inr ?_;rw[v];split
   .rw[<- Ap,<- h1]
   .show h1
def JL.wf(b:(w,h)∈gP)(J:JL F):Wf w h F:=⟨J.1,J.2.1,λe a=>J.2.2 e ((gZ _ b).2.2.2.2.2.2.2 e a).1⟩
def D6(b:(w,h)∈gP)(wf:Wf w h F)(a:e∈bH w h):cJ (aY F e).1 (aY F e).2=true:=uN (wf.di _) (wf.lt _) ((gZ _ b).2.2.2.2.2.2.2 e a).1
def uP(d:(w,h)∈gP)(wf:Wf w h F)(a:e∈bH w h)(b:q=sA e\/q=sB e):aC (F q) q=sA (aY F e)\/aC (F q) q=sB (aY F e):=by
 let c:=((gZ _ d).2.2.2.2.2.2.2 e a).1;let sp:aC (F q) e=aY F e:=by
  rcases b with rfl|rfl
  .rfl
  .show xA c<|wf.ed e a
 have:=D5 (wf.di q) (wf.lt q) c b;rwa [sp]at this
abbrev NC(w h:Int)(F:Int×Int->Ly)(G:Gr):Prop:=∀e∈bH w h,∀a∈bH w h,aY F e=aY F a->oF G (sA<|aY F e) (sB<|aY F e) e a=b5
def LC u n a e:aY (d7 u n a F) e=if cT u n a (aC (F<|sA e)<|sA e)then aC (bS u n) (aY F e)else aY F e:=by
 ext aY d7;split
 .show jY _ _ _
 .rfl
def a0X(U:(w,h)∈gP)(wf:Wf w h F)(P:ī (cB w h) (λq=>aC (F q) q) G)(O:0<=u/\u<4)(M:n%4=0)(nc:NC w h F G):NC w h (d7 u n a F) (sO (cT u n a) (aC<|bS u n) o G):=by
 intro e B i v ep
 let L:=wV u n
 let Z:Ě (bS u n):=wU u n
  -- where both lay ahead
 let old:∀x∈bH w h,aY F x=aY (d7 u n a F) x\/aY F x=aC (bS u n) (aY (d7 u n a F) x):=λx _=>by
  rw[LC]
  split
  .show .inr (L _).symm
  .show .inl rfl
 let A:=old e B
 let d:=old i v
 rw[<- ep]at d
 let lt:(bS u n).e%4=0/\(bS u n).g%4=0:=by
  have:=Lb u M (A:=fA) ⟨rfl,rfl⟩
  rwa [YJ]at this
 let rM:∀{x:Int×Int},cJ x.1 x.2=dI->cJ (aC (bS u n) x).1 (aC (bS u n) x).2=true:=λh=>uN Z lt h
 let J:cJ (aY (d7 u n a F) e).1 (aY (d7 u n a F) e).2=true:=by
  rw[LC]
  split
  .show rM<|D6 U wf B
  .show D6 U wf B
 generalize aY (d7 u n a F) e=p at A d J
 let q0:=LA J<|.inl rfl
 let q1:=LA J<|.inr rfl
 let pm:∀{s q:Int×Int},q∈bW G s->aC (F q) q=s:=λ{s q} g=>of_decide_eq_true (Ī.mp<|(P.pm s).mem_iff.mp g).2
 ext oF
 rw[Lu P.kd L,Lu P.kd L,AQ O M q0,AQ O M q1]
 by_cases hd:cT u n a (sA p)=cT u n a (sB p)
 .cases E:cT u n a (sA p)with
  |true=>
   rw[<- hd,E]
   ext o<;>rfl
  |false=>
   rw[<- hd,E]
   dsimp[uc,if_true,ŀ,if_false]
      -- what uP at p,what uP at its mirror
   let X:cT u n a (aC (bS u n)<|sA p)=true:=by rw[AQ O M q0,E];rfl
   let Y:cT u n a (aC (bS u n)<|sB p)=true:=by rw[AQ O M q1,<- hd,E];rfl
   let sM:∀{q:Int×Int},q=sA (aC (bS u n) p)\/q=sB (aC (bS u n) p)->q=aC (bS u n) (sA p)\/q=aC (bS u n) (sB p):=λ{q} g=>by
    have:=AO Z lt<|AS (rM J) g
    rw[L]at this
    rcases AR J this with e|e
    .show .inl<|by rw[<- e,L]
    .show .inr<|by rw[<- e,L]
   let st:∀{x q s:Int×Int},x∈bH w h->(q=sA x\/q=sB x)->aY F x=p->aC (F q) q=s->cT u n a s=false:=λQ g H e2=>by
    have:=uP U wf Q g
    rw[H,e2]at this
    rcases this with e|e
    .rw[e,E]
    .rw[e,<- hd,E]
   let go:∀{x q s:Int×Int},x∈bH w h->(q=sA x\/q=sB x)->aY F x=aC (bS u n) p->aC (F q) q=s->cT u n a s=true:=λQ g H e2=>by
    have:=uP U wf Q g
    rw[H,e2]at this
    rcases sM this with e|e
    .rw[e,X]
    .rw[e,Y]
   let I:∀{s:Int×Int}{b:Bool},cT u n a s=b->∀{x:Int×Int},(∀{q:Int×Int},(q=sA x\/q=sB x)->aC (F q) q=s->cT u n a s=!b)->∀q∈bW G s,¬ (q=sA x\/q=sB x):=λ{s b} hb x k q g Q=>by
    have:=k Q<|pm g
    rw[hb]at this
    ext b<;>ext this
   let T:∀{q:Int×Int},¬ (q=sA e\/q=sB e)->eF e i q≠b3 true:=λh k=>h<|Lo k
   let R:∀{q:Int×Int},¬ (q=sA i\/q=sB i)->eF e i q≠b3 false:=λh k=>h<|Lp k
   let nn:∀{q:Int×Int},¬ (q=sA e\/q=sB e)->¬ (q=sA i\/q=sB i)->eF e i q=none:=λh1 j=>by
    ext eF
    rw[if_neg h1,if_neg j]
   let K:cT u n a (sB p)=false:=by rw[<- hd,E]
   rcases A with A|A<;>rcases d with d|d
   ·-- both stay
    let z:∀{s:Int×Int},cT u n a s=dI->wd e i (bW G s)=[]:=λc=>Lq λq g=>nn (I c (λh1 j=>st B h1 A j) q g)<|I c (λh1 j=>st v h1 d j) q g
    rw[z X,z Y]
    have:=nc e B i v<|by rw[A,d]
    rw[A]at this
    unfold oF at this
    ext o
    .show this
    .change eT ((_++[])++(_++[]).reverse)=b5
     rw[ŉ,ŉ]
     show this
   ·-- the one stays,the other goes
    let c0:∀{s:Int×Int},cT u n a s=b5->∀b∈wd e i (bW G s),b=true:=λc=>xC λq g=>R<|I c (λh1 j=>go v h1 d j) q g
    let c1:∀{s:Int×Int},cT u n a s=dI->∀b∈wd e i (bW G s),b=false:=λc=>xC λq g=>T<|I c (λh1 j=>st B h1 A j) q g
    show Lv dI o (c0 E) (c0 K) (c1 X)<|c1 Y
   .let c0:∀{s:Int×Int},cT u n a s=b5->∀b∈wd e i (bW G s),b=false:=λc=>xC λq g=>T<|I c (λh1 j=>go B h1 A j) q g
    let c1:∀{s:Int×Int},cT u n a s=dI->∀b∈wd e i (bW G s),b=true:=λc=>xC λq g=>R<|I c (λh1 j=>st v h1 d j) q g
    show Lv b5 o (c0 E) (c0 K) (c1 X)<|c1 Y
   ·-- both go
    let z:∀{s:Int×Int},cT u n a s=b5->wd e i (bW G s)=[]:=λc=>Lq λq g=>nn (I c (λh1 j=>go B h1 A j) q g)<|I c (λh1 j=>go v h1 d j) q g
    rw[z E,z K]
    have:=nc e B i v<|by rw[A,d]
    rw[A]at this
    let k:oF G (aC (bS u n)<|sA p) (aC (bS u n)<|sB p) e i=false:=by
     let n2:=xB Z<|pM J
     let h0:=sM<|.inl rfl
     let h1:=sM<|.inr rfl
     let n3:=pM<|rM J
     rcases h0 with N|N<;>rcases h1 with H|H
     .show absurd (N.trans H.symm) n3
     .rwa [N,H]at this
     .rw[N,H]at this
      rwa [Lr]
     .show absurd (N.trans H.symm) n3
    unfold oF at k
    rw[<- Ln,qd,il,D1]at k
    ext o
    .change eT ((_++[])++(_++[]).reverse)=b5
     rw[ŉ,ŉ,il]
     show k
    .change eT (([]++bf _)++bf ([]++bf _))=b5
     rw[ϣ,ϣ,il]
     show k
 .let⟨f1,f2,f3⟩:=D4 O M J hd
  rw[f1,or_self]at A d
  have:=nc e B i v<|by rw[A,d]
  rw[A]at this
  unfold oF at this
  rw[f2,f3]
  rcases LB hd with⟨x,y⟩|⟨x,y⟩<;>rw[x,y]
  .ext o
   .change eT ([]++(bf _++_).reverse)=b5
    rw[ϣ,qd,il,D1]
    show this
   .change eT ([]++(_++bf _).reverse)=b5
    rw[ϣ,qd,il]
    show this
  .ext o
   .change eT ((bf _++_)++bf ([]++[]))=b5
    rw[ŉ,Qz,ŉ,D1]
    show this
   .change eT ((_++bf _)++bf ([]++[]))=b5
    rw[ŉ,Qz,ŉ]
    show this
def AU{qs:jq}(up:(qs.map aV).Pairwise λx y=>HT.lexLt x y=dI):qs.Nodup:=by rw[Ob]at up;show up.imp λ{x y} h e=>by rw[e,vK]at h;show ø h
def Ϭ:p∈j5 w h↔(0<p.1/\p.1<4*w)/\0<p.2/\p.2<4*h:=by
 unfold j5 pL qS;rw[j0];constructor
 .rintro⟨i,hi,b⟩;let⟨j,a,rfl⟩:=Õ.mp b;have:=Ō.mp hi;have:=Ō.mp a;dsimp;lia
 .intro⟨h1,c⟩;show⟨(p.1-1).toNat,Ō.mpr (),Õ.mpr ⟨(p.2-1).toNat,Ō.mpr (),Ē ?_ ?_⟩⟩<;>dsimp<;>lia
abbrev AV(w h:Int)(p:Int×Int):Prop:=p∈(j5 w h).filter pN
inductive cu (S:List ((Int×Int)×Str)):Prop
 |mk (len:S.length<=600)(nd:(S.map (·.1)).Nodup)(ok:∀m∈S,m.2="o"\/m.2="h"\/m.2="v")
def a0Y:∀w∈[(1:Int),2,3,4,5,6],∀h∈[(1:Int),2,3,4,5,6],(eB w h).length<=61:=by decide +kernel
abbrev a0Z(k:Nat):MS:=bK (c8<|bJ (f k "crosses")<|aB (aE 0)<|aB (aA bF (aE 5)<|aE 7)<|aB (aA bF (aE 5)<|aE 8) aF) (dW<|d9 eV (aE 6)<|aB (cN<|aB (aE 4)<|aB (aA bF (aE 3)<|aE 8) aF) aF) bV
def LF{a:List Nat}{i:Nat}(h:a[i]?=b3 c):atI (a.map D.loc) (i:Int)=b3 (.loc c):=by let hi:=(ä.mp h).1;ext atI;rw[Ã,a0w hi];change(a.map D.loc)[i]?=_;rw[ÿ,h];rfl
def JC.more{g μ':Hm}(p:g<+:μ'):JC lo A B c g->JC lo A B c μ':=λ⟨c0,c1,a,b,c,d,e,f⟩=>⟨c0,c1,a,b,c,aD p d,aD p e,aD p f⟩
section
variable{w h:Int}{F:Int×Int->Ly}{r:Int×Int->Int}{fl row es:jq}{p s0 s1:Int×Int}{t hg l:Nat}
inductive b3B (w h:Int)(F:Int×Int->Ly)(r:Int×Int->Int)(s0 s1:Int×Int)(es:jq):Prop
 |mk (sh:∀e∈es,Sh (c7 F e s0) (c7 F e s1)/\∀q,q∈c7 F e s0\/q∈c7 F e s1->q∈cB w h)(no:∀(i j:Nat) e x,i<j->es[i]?=b3 e->es[j]?=b3 x->sU r (c7 F e s0) (c7 F e s1) (c7 F x s0) (c7 F x s1)=b5)
def a1a k(hF:∀q,Ě (F q))(nr:row.Nodup)(nf:fl.Nodup)(U:∀q∈cB w h,q∈fl)(X:b3B w h F r s0 s1 es)(sq:∀e∈es,∀q∈hG e,q∈row){s:Hm}(ht:s[t]?=b3 (.dT<|bT (λq=>LD<|F q) row))(hh:s[hg]?=b3 (.dT<|bT (λq=>.int<|r q) fl))(hp:hG p=[s0,s1])(gl:s[l]?=b3 (.lst<|es.map PP))(le:es.length<=64)(Q:jz)(H:∀c g,s<+:g->g[c]?=b3 (.lst [])->Q (.loc c,g)):W (f (k+5) "crossing_at" [.loc hg,.loc t,PP p,.loc l] s) Q:=by
 let hit:cQ (aE 3) [b3<|.loc hg,b3<|.loc t,b3<|PP p,b3<|.loc l,b4,b4,b4,b4,b4] s=b3 (dC<|.loc l,(es.map PP).length+1,s):=by change(i9 s<|.loc l).map _=_;dsimp[i9,bO,gl];rfl
 let⟨Y,no⟩:=X;show Ð (XQ (k+4) _ _ _ _ s)<|bD<|Le (R:=λe c g=>JC s.length (c7 F e s0) (c7 F e s1) c g) gl () hit ?_ (λe T g v l1=>aS rfl<|a0H k hF nr (aD v ht) (sq e T) hp l1 _ λc μ2 y j=>⟨y,c,rfl,j⟩) _ λG o v O lc R=>bD<|é.mpr ⟨_,rfl,ĸ _,fU<|É.mpr<|Df ⟨_,rfl,l,es.map PP,rfl,aD (v.trans<|aR _ _) gl,?_⟩⟩
 .rintro e c m1 m2 ⟨c0,c1,a,b,d,e1,e2,e3⟩ L;show⟨c0,c1,a,b,d,L _ _ a e1,L _ _ b e2,L _ _ d e3⟩
 .show Jm (λi n g=>∃M N J,n=[b3<|.loc hg,b3<|.loc t,b3<|PP p,b3<|.loc l,M,b3<|.loc s.length,b3<|.loc o.length,N,J]/\o++[C.lst []]<+:g) ⟨b4,b4,b4,rfl,ď _⟩ (λ_ _ _ ⟨_,_,_,_,q⟩=>aD (v.trans<|(aR _ _).trans q) gl) ?_ ?_
  .rintro i d n g hd ⟨M,N,J,rfl,y⟩;let q2:=(aR o<|C.lst []).trans y;let⟨e,hi,rfl⟩:=nD hd;let hil:=(ä.mp hi).1;obtain⟨ci,A⟩:∃c,G[i]?=b3 c:=⟨G[i]'(),ā ()⟩;show⟨_,rfl,É.mpr<|Ġ.mpr<|aQ<|aP rfl rfl<|Û.mpr<|aQ<|aS rfl<|(jF<|aD (v.trans q2) gl).mpr ⟨_,rfl,?_⟩⟩;show⟨⟨(),(),(),by rw[Ã];lia⟩,?_⟩;rw[Ã,show((es.length:Int)-((i:Int)+1)).toNat=es.length-(i+1) by lia];show qM (b:=a0Z (k+4)) (λ_ n g=>∃x,n=[b3<|.loc hg,b3<|.loc t,b3<|PP p,b3<|.loc l,b3<|PP e,b3<|.loc s.length,b3<|.loc o.length,b3<|.int i,x]/\o++[C.lst []]<+:g) ⟨J,rfl,y⟩ ?_ ?_
   .rintro m n g T ⟨x,rfl,I⟩;let E:=(aR o<|C.lst []).trans I;obtain⟨z,u⟩:∃z,es[i+1+m]?=b3 z:=⟨es[i+1+m],ā ()⟩;obtain⟨cm,B⟩:∃c,G[i+1+m]?=b3 c:=⟨G[i+1+m]'(),ā ()⟩;let⟨Z,a2⟩:=Y e<|ķ hi;let⟨b1,b2⟩:=Y z<|ķ u;rw[show((i:Int)+1+(m:Nat))=((i+1+m:Nat):Int) by lia];show⟨_,rfl,Ñ.mpr<|gW (b:=b5)<|dG<|aQ ⟨_,rfl,aQ<|aP rfl rfl<|(dX (aD E O)<|LF A).mpr<|aQ<|aP rfl rfl<|(dX (aD E O)<|LF B).mpr ⟨_,rfl,?_⟩⟩⟩;show a0L (k+2) nf (aD (v.trans E) hh) Z b1 (λq K=>U q<|a2 q K) (λq K=>U q<|b2 q K) ((R i e ci hi A).more E) ((R _ z cm u B).more E) _ λμ3 p4=>⟨congrArg D.bl<|no i _ e z () hi u,gO rfl<|Ì.mpr ⟨_,rfl,I.trans p4⟩⟩
   .rintro n g ⟨x,rfl,I⟩;show⟨_,_,_,rfl,I⟩
  .rintro n g ⟨M,N,J,rfl,y⟩;show⟨rfl,cI ⟨_,rfl,H _ _ (v.trans<|(aR _ _).trans y)<|aD y<|bE _ _⟩⟩
end
def a1b(h:W (m c b) λp=>∃a kvs,p.1=.loc a/\p.2[a]?=b3 (.dT kvs)/\Q (dC<|.tup<|lR kvs,kvs.length+1,p.2.set a<|.dF kvs)):W (wA m c b) Q:=by ext wA;rw[Ä];show bP h λp ⟨a,kvs,e,g,q⟩=>?_;rw[e];dsimp;rw[g];show À.mpr q
def a1c k(U:(w,h)∈gP)(wf:Wf w h F)(nd:(cB w h).Nodup){S:List ((Int×Int)×Str)}(d:Dr (cB w h) M a b F row Z)(nx:∀e∈bH w h,∀x∈bH w h,e≠x->aY F e=aY F x->∀s0 s1,hG (aY F e)=[s0,s1]->sU (aI<|GZ Z) (c7 F e s0) (c7 F e s1) (c7 F x s0) (c7 F x s1)=b5)(Q:jz)(H:∀g,M<+:g->Q (.non,g)):W (f (k+6) "crossing" [SH w h S,.loc a,.loc b] M) Q:=by
 let⟨_,_,l1,_,_,K,upR,fr⟩:=gZ _ U;replace l1:(cB w h).length<=48:=l1;replace K:(bH w h).length<=64:=K;let nR:(bH w h).Nodup:=AU<|AB upR;let pf:=d.pl.flat nd;let u:ī (bH w h) (aY F) (l8 (aY F)<|bH w h):=Zh;let sm:=JW (aY F)<|bH w h;show Ð (XR (k+5) _ _ _ M) (bD<|aS rfl<|K0 (k+4) nd () d.hi d.hh d.pl _ λc n p1 g1=>bD<|é.mpr ⟨_,rfl,ĸ _,fU<|É.mpr<|a1b<|aS rfl<|a0F (k+2) a U wf d.hr nd (aD (p1.trans<|aR _ _) d.hw) _ λm Y μ2 I eG=>⟨m,_,rfl,I.dic,?_⟩⟩);let lo:n.length<(n++[C.lst []]).length:=∅
 let B:∀y∈Y,y.2.2≠m/\y.2.2≠n.length:=λy B=>⟨I.ne B,Ţ<|Ļ lo (I.at_ y B).1⟩;let mm:m≠n.length:=Ţ<|Ļ lo I.lo;let p2:n<+:μ2.set m (.dF<|bA Y):=cX ((aR _ _).trans I.pre) (Rr<|Ļ lo I.lo) _;rw[show(bA Y).length=(lR<|bA Y).length from(Ã ..).symm];show Jf (x:=.tup (lR<|bA Y)) (xs:=lR (bA Y)) (λ_=>rfl) (λi v g=>∃x5 x6,v=[b3<|SH w h S,b3<|.loc a,b3<|.loc b,b3<|.loc c,b3<|.loc n.length,x5,x6]/\n<+:g/\(∀y∈Y,g[y.2.2]?=b3 (.lst<|y.2.1.map PP))/\g[n.length]?=b3 (.lst []))
  ⟨b4,b4,rfl,p2,λy p=>by rw[ô<|ð (B y p).1];show(I.at_ y p).2,by rw[ô mm];show aD I.pre<|bE _ _⟩ ?_ ?_
 .rintro i dd v g hd ⟨x5,x6,rfl,G,O,A⟩;obtain⟨y,X,rfl⟩:∃y,Y[i]?=b3 y/\dd=.tup [PP y.1,.loc y.2.2]:=by unfold lR bA at hd;rw[å,ÿ]at hd;let⟨y,h1,R⟩:=ì.mp hd;show⟨y,h1,R.symm⟩
  let E:=ķ X;let J:(y.1,y.2.1)∈l8 (aY F) (bH w h):=by rw[<- eG];show Õ.mpr ⟨y,E,rfl⟩
  let s:∀e∈y.2.1,e∈bH w h/\aY F e=y.1:=λe o=>u.one J o;let ne:y.2.1.Nodup:=u.nd nR J;let⟨e0,h0⟩:=Ry _<|u.ne _ J;let rp:cJ y.1.1 y.1.2=true:=by let⟨h1,R⟩:=s e0 h0;rw[<- R];show uN (wf.di _) (wf.lt _) (fr e0 h1).1
  let⟨s0,s1,N,_,_⟩:=qV rp;let sh:∀e∈y.2.1,_:=λe o=>D0 U wf (s e o).1 (s0:=s0) (s1:=s1) (by rw[(s e o).2];show N);show⟨_,rfl,í.mpr<|jE ⟨_,rfl,iF A,aQ<|aS rfl<|a1a k wf.di (d.hr.nodup_iff.mpr nd) (pf.nodup_iff.mpr nd) (λq o=>pf.mem_iff.mpr o) ⟨λe o=>⟨(sh e o).1,(sh e o).2.1⟩,λi j e x ij hi hj=>?_⟩ (λe o q T=>d.hr.mem_iff.mpr ?_) (aD (p1.trans G) d.hw) (aD G g1) N (O y E) (Ģ (sm.2 _ J) K) _ λc' μ4 L g4=>⟨_,rfl,(Ah (aD L A) g4<|ĸ _).mpr ⟨_,_,rfl,cX (G.trans L) (Ø _) _,λy' p=>?_,cS<|aD L A⟩⟩⟩⟩
  .let m1:=ķ hi;let m2:=ķ hj;show nx e (s e m1).1 x (s x m2).1 (λz=>?_) ((s e m1).2.trans (s x m2).2.symm) s0 s1 (by rw[(s e m1).2];show N);let⟨l1,e1⟩:=ä.mp hi;let⟨K,e2⟩:=ä.mp hj;show Ā ij<|(N3 ne).mp<|e1.trans<|z.trans e2.symm
  .let⟨r1,qa,qb,_⟩:=fr e (s e o).1;rcases AR r1 T with rfl|rfl
   .show qa
   .show qb
  .rw[ô<|ð (B y' p).2];show aD L<|O y' p
 .rintro v g ⟨x5,x6,rfl,G,O,A⟩;show⟨rfl,cI<|aS rfl<|iG (r:=(D.non,g)) (by dsimp[t6,A])<|H _<|p1.trans G⟩
abbrev Kp(l:Nat)(a μ':Hm):Prop:=∀j y,j≠l->a[j]?=b3 y->μ'[j]?=b3 y
def Kp.pre{a μ':Hm}(p:a<+:μ'):Kp l a μ':=λ_ _ _ h=>aD p h
def Kp.trans(a:Kp l d μ')(b:Kp l μ' c):Kp l d c:=λj y n h=>b j y n<|a j y n h
def Kp.set:Kp l a (a.set l x):=λj y n h=>by rw[ô<|ð n];show h
def Kp.all{b:Hm}(a:Kp l c μ')(p:b<+:c)(h:b.length<=l):b<+:μ':=by show List.prefix_iff_getElem?.mpr λi hi=>?_;show a i _ ()<|aD p<|ā hi
def a1d{g:MF}{ds:List D}(h:a c b=b3 (ds,μ'))(e:g ds μ'=b3 r):bJ g a c b=b3 r:=eL<|aS h ⟨_,e,rfl⟩
def a1e(e:o=fin (aM m b a))(h:m b a=b3 r):o=b3 r:=eL<|Ð e<|cI ⟨_,h,rfl⟩
abbrev cW(a:List ((Int×Int)×Str)):jx:=a.map λm=>(aV m.1,.str m.2)
def a1f(h:p∉a.map (·.1)):a9 (cW a) (aV p)=none:=by
 ext a9;rw[Y0.mpr]
 .rfl
 .intro x b;let⟨z,c,rfl⟩:=Õ.mp b;rw[decide_eq_true_iff];show λe=>h<|kR e▸Õ.mpr ⟨z,c,rfl⟩
def LG(h:m.1∉a.map (·.1)):cC (cW a) (aV m.1) (.str m.2)=cW (a++[m]):=by ext cC;rw[a1f h,if_neg ∅];ext cW;rw[ă];rfl
noncomputable abbrev Ed:=Int×Int
noncomputable abbrev St:=Ed×Ed×Bool×Ed
abbrev iX(s:St):St:=(s.2.1,s.1,s.2.2.1,s.2.2.2)
abbrev dA(T:List St)(e:Ed):List St:=T.flatMap λt=>(if t.1=e then[t]else[])++if t.2.1=e then[iX t]else[]
def Ľ:s∈dA T e↔s.1=e/\(s∈T\/iX s∈T):=by
 ext dA;rw[j0];constructor
 .rintro⟨t,b,a⟩;rcases ĩ.mp a with a|a
  .by_cases h:t.1=e
   .rw[if_pos h]at a;rw[Ĕ.mp a];show⟨h,.inl b⟩
   .rw[if_neg h]at a;ext a
  .by_cases h:t.2.1=e
   .rw[if_pos h]at a;rw[Ĕ.mp a];show⟨h,.inr b⟩
   .rw[if_neg h]at a;ext a
 .rintro⟨h,a|a⟩
  .show⟨s,a,ĩ.mpr<|.inl<|by rw[if_pos h];show .head _⟩
  .show⟨iX s,a,ĩ.mpr<|.inr<|by rw[if_pos<|show(iX s).2.1=e from h];show .head _⟩
inductive Rc (T:List St)(M:List Ed):List (Ed×Option St)->Prop
 |st:Rc T M<|M.map λe=>(e,b4)
 |sn {R:List (Ed×Option St)}{s:St}(h:Rc T M R)(hs:s∈dA T s.1)(h1:s.1∈R.map (·.1))(h2:s.2.1∉R.map (·.1)):Rc T M<|R++[(s.2.1,b3 s)]
def AW(M:List Ed):(M.map λe=>(e,(b4:Option St))).map (·.1)=M:=by rw[å];show OB _
def Rc.nd(c:M.Nodup)(h:Rc T M R):(R.map (·.1)).Nodup:=by
 induction h with
 |st=>rw[AW];show c|sn h i h1 b g=>rw[ă];show Ϻ.mpr ⟨g,ő.mpr ⟨Ϗ,.nil⟩,λx a y d e=>b ?_⟩;have:y=_:=Ĕ.mp d;rw[e,this]at a;show a
def Rc.up(h:Rc T M R):∀e o,(e,o)∈R->match o with|none=>e∈M|some s=>s.2.1=e/\s∈dA T s.1/\s.1∈R.map (·.1)/\(R.map (·.1)).idxOf s.1<(R.map (·.1)).idxOf e:=by
 induction h with
 |st=>intro e o h;let⟨x,p,i⟩:=Õ.mp h;ext i;show p|@sn R s h n h1 j q=>
  intro e o g;rw[ă];rcases ĩ.mp g with g|g
  .have:=q e o g;let k:e∈R.map (·.1):=Õ.mpr ⟨_,g,rfl⟩;cases o with
   |none=>show this|some t=>let⟨a,b,c,d⟩:=this;show⟨a,b,ĩ.mpr<|.inl c,?_⟩;rw[N7,N7,if_pos c,if_pos k];show d
  .cases Ĕ.mp g;show⟨rfl,n,ĩ.mpr<|.inl h1,?_⟩;rw[N7,N7,if_pos h1,if_neg j];have:=RL.mpr h1;lia
inductive Wy (T:List St):Ed->List St->Ed->Prop
 |nil (e:Ed):Wy T e [] e
 |cons {s:St}{w:List St}{e:Ed}(hs:s∈dA T s.1)(h:Wy T s.2.1 w e):Wy T s.1 (s::w) e
abbrev jM(w:List St):Nat:=(w.filter λs=>!s.2.2.1).length
abbrev qX(b:Bool):Int:=if b then 0 else 1
inductive Cn (T:List St):Ed->Ed->Prop
 |rf (e:Ed):Cn T e e
 |go {e:Ed}{s:St}(h:Cn T e s.1)(hs:s∈dA T s.1):Cn T e s.2.1
def Cn.tr(h:Cn T a b)(g:Cn T b c):Cn T a c:=by
 induction g with
 |rf=>show h|go g d e=>show .go e d
def LH(h:s∈dA T s.1):iX s∈dA T (iX s).1:=Ľ.mpr ⟨rfl,(Ľ.mp h).2.symm.imp id id⟩
def Cn.sy(h:Cn T a b):Cn T b a:=by
 induction h with
 |rf=>show .rf _|@go s h c d=>show Cn.tr (.go (s:=iX s) (.rf _)<|LH c) d
def Cn.cl{R:List Ed}(hc:∀e∈R,∀s∈dA T e,s.2.1∈R)(h:Cn T a b)(c:a∈R):b∈R:=by
 induction h with
 |rf=>show c|go h d g=>show hc _ g _ d
def Wy.cn(h:Wy T m w e):Cn T m e:=by
 induction h with
 |nil=>show .rf _|@cons s w e a h b=>show Cn.tr (.go (.rf _) a) b
abbrev cF(s:St):D:=.tup [PP s.1,PP s.2.1,.bl s.2.2.1,PP s.2.2.2]
def a1g kvs k k' d:a9 (kvs.map λp=>if p.1=k then(p.1,d)else p) k'=if k'=k then(a9 kvs k').map λ_=>d else a9 kvs k':=by
 induction kvs with
 |nil=>split<;>rfl|cons x e b=>
  unfold a9 at b ⊢;rw[ö,ų,ų];let c:(if x.1=k then(x.1,d)else x).1=x.1:=by split<;>rfl
  rw[c];by_cases h:x.1=k'
  .rw[decide_eq_true h];by_cases a:x.1=k
   .rw[if_pos a,if_pos<|h.symm.trans a];rfl
   .rw[if_neg a,if_neg λz=>a<|h.trans z]
  .rw[decide_eq_false h];show b
def D7 kvs k k' d:a9 (cC kvs k d) k'=if k'=k then b3 d else a9 kvs k':=by
 ext cC;by_cases h:(a9 kvs k).isSome=dI
 .rw[if_pos h,a1g];by_cases e:k'=k
  .rw[if_pos e,if_pos e,e];let⟨v,b⟩:=S6.mp h;rw[b];rfl
  .rw[if_neg e,if_neg e]
 .rw[if_neg h];let a:kvs.find? (λp=>decide<|p.1=k)=none:=by
   unfold a9 at h;cases z:kvs.find? (λp=>decide<|p.1=k)with
   |none=>rfl|some v=>rw[z]at h;show absurd rfl h
  ext a9;rw[RC];by_cases e:k'=k
  .rw[if_pos e,e,a];simp
  .rw[if_neg e];cases kvs.find? (λp=>decide<|p.1=k')with
   |some v=>rfl|none=>rw[ų,decide_eq_false λz=>e z.symm];rfl
def LI kvs k d:(cC kvs k d).length<=kvs.length+1:=by
 ext cC;split
 .rw[Ã];lia
 .rw[ć];show Ø _
structure SD(ν:Hm)(κ:Nat)(μ:Hm)(a:Nat)(kvs:jx)(F:Ed->List St):Prop where
 pre:ν<+:μ
 la:ν.length<=a/\ν.length<=κ/\κ<=μ.length
 dic:μ[a]?=b3 (.dT kvs)
 no:∀e,a9 kvs (aV e)=b4->F e=[]
 ats:∀e d,a9 kvs (aV e)=b3 d->∃l,d=.loc l/\κ<=l/\μ[l]?=b3 (.lst<|(F e).map cF)
 inj:∀e e' d,a9 kvs (aV e)=b3 d->a9 kvs (aV e')=b3 d->e=e'
def SD.more{μ':Hm}(h:SD ν κ μ a kvs F)(p:μ<+:μ'):SD ν κ μ' a kvs F:=⟨h.pre.trans p,⟨h.la.1,h.la.2.1,Ģ h.la.2.2 p.length_le⟩,aD p h.dic,h.no,λe d z=>(h.ats e d z).imp λl ⟨x,y,g⟩=>⟨x,y,aD p g⟩,h.inj⟩
abbrev mE(F:Ed->List St)(s:St):Ed->List St:=λx=>if x=s.1 then F x++[s]else F x
def SD.ne(h:SD ν κ μ a kvs F)(g:μ[l]?=b3 (.lst xs)):l≠a:=λz=>by have:=h.dic;rw[<- z,g]at this;ext this
def SD.old(h:SD ν κ μ a kvs F)(c:a9 kvs (aV s.1)=b3 (.loc l)):SD ν κ (μ.set l<|.lst<|(F s.1).map cF++[cF s]) a kvs (mE F s):=by
 let⟨p,e,j,g⟩:=h.ats _ _ c;ext e;show⟨cX h.pre (Ģ h.la.2.1 j) _,⟨h.la.1,h.la.2.1,by rw[Ź];show h.la.2.2⟩,by rw[ô<|h.ne g];show h.dic,λe b=>?_,λe d b=>?_,h.inj⟩
 .ext mE;rw[if_neg λz=>by rw[z,c]at b;ext b];show h.no e b
 .ext mE;by_cases z:e=s.1
  .rw[if_pos z];rw[z,c]at b;ext b;show⟨l,rfl,j,by rw[cS g,z,ă];rfl⟩
  .rw[if_neg z];let⟨k,i,o,n⟩:=h.ats _ _ b;show⟨k,i,o,?_⟩;rw[ô λy:l=k=>z<|h.inj _ _ _ (by rw[b,i,y]) c];show n
def SD.new(h:SD ν κ μ a kvs F)(u:a9 kvs (aV s.1)=b4):SD ν κ (((μ++[C.lst []]).set a<|.dT<|cC kvs (aV s.1)<|.loc μ.length).set μ.length<|.lst [cF s]) a (cC kvs (aV s.1)<|.loc μ.length) (mE F s):=by
 let i:=aR μ<|C.lst [];let lt:a<μ.length:=(ä.mp h.dic).1;let o:=h.pre.length_le;let A:=bE μ<|C.lst [];show⟨cX (cX (h.pre.trans i) h.la.1 _) o _,⟨h.la.1,h.la.2.1,by rw[Ź,Ź];show Ģ h.la.2.2 i.length_le⟩,?_,λe b=>?_,λe d b=>?_,λe p d b c=>?_⟩
 .rw[ô (),cS<|aD i h.dic]
 .rw[D7]at b;by_cases z:aV e=aV s.1
  .rw[if_pos z]at b;ext b
  .rw[if_neg z]at b;ext mE;rw[if_neg λy=>z<|congrArg aV y];show h.no e b
 .rw[D7]at b;ext mE;by_cases z:aV e=aV s.1
  .rw[if_pos z]at b;ext b;rw[if_pos<|kR z];show⟨_,rfl,h.la.2.2,?_⟩;rw[ϡ<|by rw[Ź,ć];show Ϥ _,kR z,h.no _ u];rfl
  .rw[if_neg z]at b;rw[if_neg λy=>z<|congrArg aV y];let⟨n,k,q,g⟩:=h.ats _ _ b;show⟨n,k,q,?_⟩;let w:n<μ.length:=(ä.mp g).1;rw[ô (),ô<|ð<|h.ne g];show aD i g
 .let fresh:∀x,a9 kvs (aV x)≠b3 (.loc μ.length):=λx v=>by let⟨n,k,_,g⟩:=h.ats _ _ v;ext k;show absurd (ä.mp g).1<|γ _
  rw[D7]at b c;by_cases z:aV e=aV s.1<;>by_cases j:aV p=aV s.1
  .show(kR z).trans (kR j).symm
  .rw[if_pos z]at b;rw[if_neg j]at c;ext b;show absurd c<|fresh _
  .rw[if_neg z]at b;rw[if_pos j]at c;ext c;show absurd b<|fresh _
  .rw[if_neg z]at b;rw[if_neg j]at c;show h.inj _ _ _ b c
def AX{kvs:jx}{f:D->List D->Hm->jk}{Q:jz}(e:c b μ=b3 (.loc a,μ))(hc:μ[a]?=b3 (.dT kvs))(h:W (d b μ) λq=>W (f (.loc a) q.1 q.2) Q):W (fR f c d b μ) Q:=by ext fR;rw[e,ē,show qD μ (.loc a)=dI by dsimp[qD,hc]];show Ä.mpr h
def LJ(hi:∀μ,aE i n μ=b3 (.loc a,μ))(h1:∀μ,p n μ=b3 (PP s.1,μ))(w:∀μ,q n μ=b3 (cF s,μ))(J:SD ν κ μ a kvs F)(z:(F s.1).length<=3000)(A:kvs.length<=3000)(H:∀μ' h,SD ν κ μ' a h (mE F s)->h.length<=kvs.length+1->(∀b c,b<κ->b≠a->μ[b]?=b3 c->μ'[b]?=b3 c)->R (.nx,n,μ')):
  W (dW (d9 eV (fR jV (aE i)<|aB p<|aB (cP aF) aF)<|aB q aF) n μ) R:=by
 let j:=aR μ<|C.lst [];let lt:a<μ.length:=(ä.mp J.dic).1;show í.mpr<|jE<|AX (hi μ) J.dic<|aQ ⟨_,h1 μ,aQ ⟨_,rfl,_,rfl,?_⟩⟩;let v:=aD j J.dic;cases k:a9 kvs (aV s.1)with
 |some d=>
  let⟨l,rfl,B,g⟩:=J.ats _ _ k;let e:jV (.loc a) [PP s.1,.loc μ.length] (μ++[C.lst []])=b3 (.loc l,μ++[C.lst []]):=by dsimp[jV,v,b8,ē,k]
  show⟨_,e,iF<|aD j g,aQ ⟨_,w _,_,rfl,(mW (aD j g)<|by rw[Ã,ò];lia).mpr<|H _ _ ((J.more j).old k) (lY _) λb c y _ o=>?_⟩⟩;rw[ô ()];show aD j o
 |none=>
  let e:jV (.loc a) [PP s.1,.loc μ.length] (μ++[C.lst []])=b3 (.loc μ.length,(μ++[C.lst []]).set a<|.dT<|cC kvs (aV s.1)<|.loc μ.length):=by dsimp[jV,v,b8,ē,k];rw[if_pos<|by rw[ò];lia]
  let u:((μ++[C.lst []]).set a<|.dT<|cC kvs (aV s.1)<|.loc μ.length)[μ.length]?=b3 (.lst []):=by rw[ô ()];show bE _ _
  show⟨_,e,iF u,aQ ⟨_,w _,_,rfl,(mW u ⋯).mpr<|H _ _ (J.new k) (LI _ _ _) λb c y x o=>?_⟩⟩;have:=J.la.2.2;rw[ô (),ô<|ð x];show aD j o
abbrev D8(l:List Int):Ed:=(l.getD 0 0,l.getD 1 0)
abbrev a1h(t:Ti):St:=(D8 t.1,D8 t.2.1,t.2.2.1,D8 t.2.2.2)
def LK{a:Type}{l:List a}(h:i<l.length)d:l.getD i d∈l:=by rw[υ,ā h];show iz h
def LL(b:t∈j7 m w h):∃p q a c,t=oA p q a c/\m p=dI/\m q=true:=by
 let⟨c,_,b⟩:=j0.mp b;let d:∀{i:Nat},i<(dJ m c).length->m ((dJ m c).getD i (0,0))=true:=λhi=>(Ī.mp<|LK hi (0,0)).2;unfold jL at b;split at b
 .rename_i j;rw[Ĕ.mp b];show⟨_,_,_,_,rfl,d (),d ()⟩
 .let⟨i,hi,b⟩:=j0.mp b;let hi:=Ō.mp hi;let g:0<(dJ m c).length:=()
  unfold j6 at b;split at b
  .unfold qT at b;rcases Č.mp b with rfl|b
   .show⟨_,_,_,_,rfl,d hi,d<|ξ _ g⟩
   .split at b
    .rename_i e;rw[Ĕ.mp b];show⟨_,_,_,_,rfl,d<|by rw[e];show ξ _ ⋯,d<|by rw[e];show ξ _ ⋯⟩
    .ext b
  .ext b
def a1i p q:fH p q=p\/fH p q=q:=by
 ext fH;split
 .show .inr rfl
 .show .inl rfl
def a1j p q:fI p q=p\/fI p q=q:=by
 ext fI;split
 .show .inr rfl
 .show .inl rfl
def AY p q:HT.lexLt (dH p) (dH q)=dI↔p.1<q.1\/p.1=q.1/\p.2<q.2:=by
 ext dH;dsimp[HT.lexLt];by_cases h1:p.1<q.1
 .simp[h1];lia
 .by_cases a:q.1<p.1
  .simp[h1,a];lia
  .have:p.1=q.1:=()
   simp[this];lia
def LM(h:HT.lexLt (dH p) (dH q)=dI):HT.lexLt (dH q) (dH p)=false:=by
 cases z:HT.lexLt (dH q) (dH p)with
 |false=>rfl|true=>have:=(AY _ _).mp h;have:=(AY _ _).mp z;lia
def LN(h:HT.lexLt (dH p) (dH q)=b5)(g:HT.lexLt (dH q) (dH p)=b5):p=q:=by let h:¬ _:=λz=>ø<|h.symm.trans<|(AY p q).mpr z;let g:¬ _:=λz=>ø<|g.symm.trans<|(AY q p).mpr z;show Ē () ()
def a1k p q:fH (fH p q) (fI p q)=fH p q/\fI (fH p q) (fI p q)=fI p q/\fH (fI p q) (fH p q)=fH p q/\fI (fI p q) (fH p q)=fI p q:=by
 cases h:HT.lexLt (dH q) (dH p)with
 |true=>dsimp[fH,fI,h,LM h,if_true,ŀ,if_false,and_self]|false=>
  cases g:HT.lexLt (dH p) (dH q)with
  |true=>dsimp[fH,fI,h,g,if_true,ŀ,if_false,and_self]|false=>cases LN g h;dsimp[fH,fI,h,ŀ,if_false,and_self]
abbrev TT(a:List ((Int×Int)×Str))(w h:Int):List St:=(oC<|j7 (bG a) w h).map a1h
def tT(h:t∈oC ts):t∈ts:=by unfold oC at h;let⟨i,hi,rfl⟩:=Õ.mp h;show LK (Ō.mp<|(jS _ _).mem_iff.mp hi) _
def a1l ts:(oC ts).length=ts.length:=by ext oC;rw[Ã,(jS _ _).length_eq,ou]
def D9(hw:1<=w/\w<=6)(b:1<=h/\h<=6)a:(TT a w h).length<=1000:=by ext TT;rw[Ã,a1l];let h1:=uM (DS<|bG a)<|eB w h;let c:=a0Y w (Kz hw) h<|Kz b;ext j7;lia
def LO b w h:(oC<|j7 (bG b) w h).map fF=(TT b w h).map cF:=by ext TT;rw[å];show Ť λt d=>?_;let⟨p,q,a,c,rfl,_,_⟩:=LL<|tT d;rfl
def LP(h:bG a p=dI):p∈a.map (·.1):=by let⟨x,b,e⟩:=oh.mp h;rw[<- beq_iff_eq.mp e];show b
def Ea(i:t∈TT b w h):(t.1∈b.map (·.1)/\t.2.1∈b.map (·.1))/\(fH t.1 t.2.1=t.1/\fI t.1 t.2.1=t.2.1/\fH t.2.1 t.1=t.1/\fI t.2.1 t.1=t.2.1):=by
 let⟨u,j,rfl⟩:=Õ.mp i;let⟨p,q,a,c,rfl,d,g⟩:=LL<|tT j;let d:=LP d;let g:=LP g;show⟨⟨?_,?_⟩,a1k p q⟩
 .change fH p q∈_;rcases a1i p q with e|e<;>rw[e]<;>assumption
 .change fI p q∈_;rcases a1j p q with e|e<;>rw[e]<;>assumption
def LQ k s a:f (k+1) "walked_back" [cF s] a=b3 (cF<|iX s,a):=(X4 k _ a).trans ""
def a1m T t:dA (T++[t])=mE (mE (dA T) t) (iX t):=by
 funext e;ext dA mE;rw[vd,OZ,Qx,ŉ];change _=if e=t.2.1 then _ else _
 by_cases h1:t.1=e<;>by_cases a:t.2.1=e
 .rw[if_pos h1,if_pos a,if_pos a.symm,if_pos h1.symm,Ϧ]
 .rw[if_pos h1,if_neg a,if_neg<|ð a,if_pos h1.symm,ŉ]
 .rw[if_neg h1,if_pos a,if_pos a.symm,if_neg<|ð h1,ϣ]
 .rw[if_neg h1,if_neg a,if_neg<|ð a,if_neg<|ð h1,ŉ,ŉ]
def a1n T e:(dA T e).length<=2*T.length:=by show uM (λt=>?_) T;rw[ć];split<;>split<;>simp
inductive Su (d0:Option D)(ν:Hm)(κ a b:Nat)(T:List St):Nat->aG->Hm->Prop
 |mk {i:Nat}{kvs:jx}{x:Option D}{μ:Hm}(J:SD ν κ μ a kvs (dA<|T.take i))(hk:kvs.length<=2*i)(gb:μ[b]?=b3 (.lst<|T.map cF)):Su d0 ν κ a b T i [d0,b3<|.loc a,x] μ
def Eb{T:List St}{i:Nat}(h:(T.map cF)[i]?=b3 d):∃s,T[i]?=b3 s/\cF s=d:=by rw[ÿ]at h;show ì.mp h
def LR k(hw:1<=w/\w<=6)(E:1<=h/\h<=6)(O:(eB w h).find? (iI<|bG n)=b4)(Y:oX (j7 (bG n) w h))c(Q:jz)(H:∀κ μ' a kvs,SD c κ μ' a kvs (dA<|TT n w h)->Q (.loc a,μ')):W (f (k+9) "steps_from" [SH w h n] c) Q:=by
 let N:=D9 hw E n;show Ð (X5 (k+8) _ c)<|bD<|ã.mpr<|fU<|É.mpr<|Ó.mpr<|aS rfl<|KS (k+1) hw E O Y _ _ λb o K v j=>?_;rw[LO]at j;generalize TT n w h=T at N j H;let u:=aD K<|bE c<|C.dT [];let y:b≠c.length:=λz=>by rw[z,u]at j;ext j
 let v:b<o.length:=(ä.mp j).1;let lm:c.length<o.length:=(ä.mp u).1;show(eE j).mpr<|jD (Su (b3<|SH w h n) c o.length c.length b T) (.mk (kvs:=[]) ⟨(aR _ _).trans K,⟨Ø _,(),Ø _⟩,u,λ_ _=>rfl,λ_ _ z=>(nomatch z),λ_ _ _ z=>(nomatch z)⟩ (Ø _) j) (by rintro _ _ _ ⟨_,_,g⟩;show g) ?_ ?_
 .rintro i d _ x hd ⟨J,R,B⟩;let⟨t,G,rfl⟩:=Eb hd;let hi:=(ä.mp G).1;let A:∀e,(dA (T.take i) e).length<=2000:=λe=>by have:=a1n (T.take i) e;rw[Ι]at this;lia
  show⟨_,rfl,fU<|LJ (i:=1) (s:=t) (λ_=>rfl) (λ_=>rfl) (λ_=>rfl) J (Ģ (A _) ⋯) () λZ I L U q=>⟨rfl,LJ (i:=1) (s:=iX t) (λ_=>rfl) (λ_=>rfl) (λμ'=>a1d rfl<|LQ (k+7) t μ') L ?_ () λμ4 p M X s=>.mk (kvs:=p) ?_ ()<|s _ _ v y<|q _ _ v y B⟩⟩
  .change(mE _ t _).length<=_;ext mE;have:=A (iX t).1;split
   .rw[ć];change _+1<=_;lia
   .lia
  .rw[jK G,a1m];show M
 .rintro _ x ⟨J,R,B⟩;rw[Ã,ź]at J;show⟨rfl,cI ⟨_,rfl,H _ _ _ _ J⟩⟩
abbrev jN(s:Str):Bool:=(lI wQ<|.inr s).isSome
def Ee k s a:f (k+1) "is_marked" [.str s] a=b3 (.bl<|jN s,a):=(X6 k _ a).trans ""
abbrev hJ(a:List ((Int×Int)×Str)):List Ed:=(a.filter λm=>jN m.2).map (·.1)
def LS k(p:g.length<=1000)(j:Hm)(Q:jz)(H:∀a μ',j<+:μ'->μ'[a]?=b3 (.lst<|(hJ g).map PP)->Q (.loc a,μ')):W (f (k+2) "marked_creases" [SH w h g] j) Q:=by
 show Ð (X7 (k+1) _ j)<|cI<|Aj (xs:=g.map MD) (x:=λd=>match d with|.tup [a,b]=>[b3 a,b3 b]|_=>[]) (p:=λd=>match d with|.tup [_,.str s]=>jN s|_=>b5) (v:=λd=>match d with|.tup [a,_]=>a|_=>.non)<|Ó.mpr<|aP rfl rfl<|Ŭ.mpr ⟨_,rfl,λμ' i c=>rfl,rfl,by rw[Ã,ò];lia,λd μ' hd=>?_,λd μ' hd c=>?_,λd μ' hd _ c=>?_,λμ' c o=>H _ _ c ?_⟩
 .let⟨e,n,rfl⟩:=Õ.mp hd;rfl
 .let⟨e,n,rfl⟩:=Õ.mp hd;show gW<|aS rfl<|iG (Ee k e.2 μ') ⟨rfl,rfl,ď _⟩
 .let⟨e,n,rfl⟩:=Õ.mp hd;show⟨_,rfl,rfl,ď _⟩
 .rw[o,zg,å];ext hJ;rw[å];rfl
abbrev rD:Option St->D
 |none=>.non|some s=>cF s
abbrev c6(R:List (Ed×Option St)):jx:=R.map λr=>(aV r.1,rD r.2)
def a1o R:(c6 R).map (·.1)=(R.map (·.1)).map aV:=by ext c6;rw[å,å];rfl
def AZ(nd:(R.map (·.1)).Nodup){e:Ed}(h:(e,o)∈R):a9 (c6 R) (aV e)=b3 (rD o):=Av (by rw[a1o];show uq _ (λa b c x=>c<|kR x) nd)<|Õ.mpr ⟨_,h,rfl⟩
def Ef{e:Ed}(h:e∉R.map (·.1)):a9 (c6 R) (aV e)=none:=by
 ext a9;rw[Y0.mpr]
 .rfl
 .intro x a;let⟨z,b,rfl⟩:=Õ.mp a;rw[decide_eq_true_iff];show λy=>h<|kR y▸Õ.mpr ⟨z,b,rfl⟩
def LU{e:Ed}(h:e∉R.map (·.1)):cC (c6 R) (aV e) (rD o)=c6 (R++[(e,o)]):=by ext cC;rw[Ef h,if_neg ∅];ext c6;rw[ă];rfl
abbrev Eg:MS:=bK (a7<|aA (eD dI) (aA bF (aE 6)<|mC<|.int 1)<|aE 2) (aL (eJ (aE 2) (aA bF (aE 6)<|mC<|.int 1)<|aE 6)<|dW<|d9 eV (aE 4)<|aB (aA bF (aE 6)<|mC<|.int 1) aF) bV
abbrev uQ(st a r:Nat)(x:Option D)(q:Nat)(h s:Option D):aG:=[b3<|.loc st,b3<|.loc a,b3<|.loc r,x,b3<|.loc q,h,s]
inductive wj (T:List St)(M U:List Ed)(μ0:Hm)(r q n:Nat)(R:List (Ed×Option St))(μ:Hm):Prop
 |mk (rc:Rc T M R)(hC:∀e∈R.map (·.1),e∈U)(p:μ0<+:μ)(hr:μ0.length<=r)(hq:μ0.length<=q)(gr:μ[r]?=b3 (.dT<|c6 R))(gq:μ[q]?=b3 (.lst<|((R.drop n).map (·.1)).map PP))
def a1p(hM:M.Nodup)(hC:U.length<=600)(K:∀t∈T,t.1∈U/\t.2.1∈U)(hn:n<=R.length)(J:wj T M U μ0 r q n R k)(L:s∈dA T s.1)(h1:s.1∈R.map (·.1))(H:∀v d,(∃l,v=R++l)->wj T M U μ0 r q n v d->s.2.1∈v.map (·.1)->(∀b c,b≠r->b≠q->k[b]?=b3 c->d[b]?=b3 c)->Q (.nx,uQ st X r x q h<|b3<|cF s,d)):W (Eg (uQ st X r x q h<|b3<|cF s) k) Q:=by
 let⟨G,E,p,A,y,i,u⟩:=J;let nd:=G.nd hM;let rl:R.length<=600:=by have:=zz nd E;rw[Ã]at this;lia
 let O:q≠r:=λz=>by rw[z,i]at u;ext u
 show Ñ.mpr<|cZ<|aP rfl rfl<|(uF i<|b8 s.2.1).mpr ⟨_,rfl,?_⟩;by_cases j:s.2.1∈R.map (·.1)
 .obtain⟨⟨e,o⟩,a,N⟩:=Õ.mp j;dsimp at N;subst N;rw[AZ nd a];show(if_neg ø).mpr<|Ì.mpr<|H R k ⟨[],(ŉ _).symm⟩ ⟨G,E,p,A,y,i,u⟩ j λ_ _ _ _ g=>g
 .rw[Ef j];show(if_pos rfl).mpr (Æ.mpr<|ĉ.mpr ⟨_,rfl,_,rfl,_,rfl,(lW i (b8 s.2.1)<|by ext c6;rw[Ã,ò];lia).mpr ?_⟩);let w:(k.set r<|.dT<|cC (c6 R) (aV s.2.1)<|cF s)[q]?=b3 (.lst<|((R.drop n).map (·.1)).map PP):=by rw[ô<|ð O];show u
  show í.mpr (jE ⟨_,rfl,iF w,_,rfl,(mW w<|by rw[Ã,Ã,uv,ò];lia).mpr ?_⟩);let I:=Rc.sn G L h1 j;show H (R++[(s.2.1,b3 s)]) _ ⟨_,rfl⟩ ⟨I,λe a=>?_,cX (cX p A _) y _,A,y,?_,?_⟩ (by rw[ă];show ĩ.mpr<|.inr<|.head _) λb c Y Z g=>?_
  .rw[ă]at a;rcases ĩ.mp a with a|a
   .show E e a
   .rw[Ĕ.mp a];rcases(Ľ.mp L).2 with B|B
    .show(K _ B).2
    .show(K _ B).1
  .rw[ô O,cS i];show congrArg (λz=>b3<|C.dT z)<|LU (o:=b3 s) j
  .rw[cS w,List.drop_append_of_le_length hn,ă,ă];rfl
  .rw[ô<|ð Z,ô<|ð Y];show g
inductive Sy (T:List St)(M U:List Ed)(μ0:Hm)(st ss r q n l:Nat)(h:Option D)(e:Ed)(R:List (Ed×Option St)):Nat->aG->Hm->Prop
 |mk {i:Nat}{x s:Option D}{R':List (Ed×Option St)}{μ:Hm}(J:wj T M U μ0 r q (n+1) R' μ)(ex:∃l,R'=R++l)(cl:∀t∈(dA T e).take i,t.2.1∈R'.map (·.1))(gl:μ[l]?=b3 (.lst<|(dA T e).map cF)):Sy T M U μ0 st ss r q n l h e R i (uQ st ss r x q h s) μ
inductive NX (T:List St)(M U:List Ed)(μ0:Hm)(st ss r q:Nat):Nat->aG->Hm->Prop
 |mk {m n:Nat}{x h s:Option D}{R:List (Ed×Option St)}{μ:Hm}(J:wj T M U μ0 r q n R μ)(hm:m+n=1700)(hn:n<=R.length)(cl:∀e∈(R.take n).map (·.1),∀t∈dA T e,t.2.1∈R.map (·.1)):NX T M U μ0 st ss r q m (uQ st ss r x q h s) μ
abbrev LV:MS:=aL (fN 5<|d9 pX (aE 4)<|aB (mC<|.int 0) aF)<|b9 (cQ<|fR fS (aE 0)<|aB (aE 5)<|aB (cP aF) aF) (cL 6) Eg
def a1q{Q:jz}(h:b[a]?=b3 (.lst xs))(h0:0<=i/\i<1000)(hi:xs[i.toNat]?=b3 d):W (pX (.loc a) [.int i] b) Q↔Q (d,b.set a<|.lst<|xs.eraseIdx i.toNat):=by
 let e:pX (.loc a) [.int i] b=b3 (d,b.set a<|.lst<|xs.eraseIdx i.toNat):=by dsimp[pX,h];rw[if_pos (),hi];rfl
 rw[e];show À
def a1r(hM:M.Nodup)(hU:U.length<=600)(hT:∀t∈T,t.1∈U/\t.2.1∈U)(hl:T.length<=1000)(S:SD ν κ μ0 st kvs (dA T))(J:wj T M U μ0 r q n R I)(hm:m+n=1700)(Q:n<R.length)(cl:∀e∈(R.take n).map (·.1),∀t∈dA T e,t.2.1∈R.map (·.1)):
  W (LV (uQ st H r x q h s) I) λp=>p.1=.nx/\∃G,G<m/\NX T M U μ0 st H r q G p.2.1 p.2.2:=by
 let⟨rc,rC,p,hr,hq,gr,o⟩:=J;let nd:=rc.nd hM;let rl:R.length<=600:=by have:=zz nd rC;rw[Ã]at this;lia
 let rq:q≠r:=λz=>by rw[z,gr]at o;ext o
 rw[NU Q,ö,ö]at o;let B:R[n]∈R:=iz Q;let E:R.take (n+1)=R.take n++[R[n]]:=by rw[ni,ā Q];rfl
 generalize R[n]=en at o B E;show bD (jE ⟨_,rfl,iF o,_,rfl,(a1q o () rfl).mpr ?_⟩);let v:=cS (c':=C.lst (((R.drop<|n+1).map (·.1)).map PP)) o;let w:(I.set q<|C.lst<|((R.drop<|n+1).map (·.1)).map PP)[r]?=b3 (.dT<|c6 R):=by rw[ô rq];show gr
 let N:=cX (c:=C.lst (((R.drop<|n+1).map (·.1)).map PP)) p hq;change W (b9 _ _ _ _<|I.set q<|C.lst<|((R.drop<|n+1).map (·.1)).map PP) _;generalize I.set q (C.lst<|((R.drop<|n+1).map (·.1)).map PP)=μ1 at v w N ⊢;let K:=S.more N;let he:en.1∈R.map (·.1):=Õ.mpr ⟨_,B,rfl⟩;let k:∀l j,μ1<+:j->l≠r->l≠q->j[l]?=b3 (.lst<|(dA T en.1).map cF)->W (fP (dC<|.loc l) (cL 6) Eg (((dA T en.1).map cF).length+1) 0 (uQ st H r x q (b3<|PP en.1) s) j) λp=>p.1=.nx/\∃G,G<m/\NX T M U μ0 st H r q G p.2.1 p.2.2:=λl j c l1 l2 gl=>by
  show jD (Sy T M U μ0 st H r q n l (b3<|PP en.1) en.1 R) (.mk (R':=R) ⟨rc,rC,N.trans c,hr,hq,aD c w,aD c v⟩ ⟨[],(ŉ _).symm⟩ (λ_ z=>by rw[nj]at z;ext z) gl) (by rintro _ _ _ ⟨_,_,_,g⟩;show g) ?_ ?_
  .rintro i d _ Y hd ⟨J,⟨l',rfl⟩,b,g⟩;let⟨t,y,rfl⟩:=Eb hd;let hf:=ķ y;let Z:=(Ľ.mp hf).1;show⟨_,rfl,a1p hM hU hT (by rw[ć];lia) J (by rw[Z];show hf) (by rw[Z,ă];show ĩ.mpr<|.inl he) λR' μ' ⟨X,e2⟩ J' hs fr=>.mk J' ⟨l'++X,by rw[e2,Ϧ]⟩ (λu A=>?_)<|fr _ _ l1 l2 g⟩;rw[jK y]at A;rcases ĩ.mp A with A|A
   .rw[e2,ă];show ĩ.mpr<|.inl<|b u A
   .rw[Ĕ.mp A];show hs
  .rintro _ Y ⟨J,⟨l',rfl⟩,b,g⟩;rw[Ã,ź]at b;show⟨rfl,m-1,(),.mk (n:=n+1) J () (by rw[ć];lia) λe a t y=>?_⟩;rw[List.take_append_of_le_length (),E,ă]at a;rcases ĩ.mp a with a|a
   .rw[ă];show ĩ.mpr<|.inl<|cl e a t y
   .rw[Ĕ.mp a]at y;show b t y
 let lr:=K.dic;show É.mpr<|Ó.mpr<|AX (a:=st) rfl K.dic<|aQ ⟨_,rfl,aQ ⟨_,rfl,_,rfl,?_⟩⟩;let c:=aR μ1<|C.lst [];cases L:a9 kvs (aV en.1)with
 |some d=>
  let⟨l,rfl,_,g0⟩:=S.ats _ _ L;let l0:l<μ0.length:=(ä.mp g0).1;let O:fS (.loc st) [PP en.1,.loc μ1.length] (μ1++[C.lst []])=b3 (.loc l,μ1++[C.lst []]):=by dsimp[fS,aD c K.dic,b8,ė,L,Qp]
  let gl:=aD (N.trans c) g0;show⟨_,O,(eE gl).mpr<|k l _ c () () gl⟩
 |none=>
  let O:fS (.loc st) [PP en.1,.loc μ1.length] (μ1++[C.lst []])=b3 (.loc μ1.length,μ1++[C.lst []]):=by dsimp[fS,aD c K.dic,b8,ė,L,N5]
  let gl:(μ1++[C.lst []])[μ1.length]?=b3 (.lst<|(dA T en.1).map cF):=by rw[S.no _ L];show bE _ _
  let b1:r<μ1.length:=(ä.mp w).1;let b2:q<μ1.length:=(ä.mp v).1;show⟨_,O,(eE gl).mpr<|k _ _ c () () gl⟩
inductive Sz (d0 d1:Option D)(ν:Hm)(r:Nat)(M:List Ed):Nat->aG->Hm->Prop
 |mk {i:Nat}{x:Option D}{μ:Hm}(p:ν<+:μ)(g:μ[r]?=b3 (.dT<|c6<|(M.take i).map λe=>(e,b4))):Sz d0 d1 ν r M i [d0,d1,b3<|.loc r,x,b4,b4,b4] μ
inductive qi (T:List St)(M U:List Ed)(R:List (Ed×Option St)):Prop
 |mk (rc:Rc T M R)(hU:∀e∈R.map (·.1),e∈U)(cl:∀e∈R.map (·.1),∀t∈dA T e,t.2.1∈R.map (·.1))
def Eh k(u:M.Nodup)(B:U.length<=600)(K:∀e∈M,e∈U)(hT:∀t∈T,t.1∈U/\t.2.1∈U)(hl:T.length<=1000)(S:SD ν κ a st kvs (dA T))(q:a[j]?=b3 (.lst<|M.map PP))(Q:jz)(H:∀r c R,a<+:c->a.length<=r->c[r]?=b3 (.dT<|c6 R)->qi T M U R->Q (.loc r,c)):W (f (k+1) "last_steps" [.loc st,.loc j] a) Q:=by
 let ml:M.length<=600:=Ģ (zz u K) B;let L:=aR a<|C.dT [];show Ð (X8 k _ _ a)<|bD<|ã.mpr<|fU<|É.mpr<|Ó.mpr ⟨_,rfl,(eE<|aD L q).mpr ?_⟩;show jD (Sz (b3<|.loc st) (b3<|.loc j) a a.length M) (.mk L<|by rw[nj];show bE _ _) (by rintro _ _ _ ⟨p,_⟩;show aD p q) ?_ ?_
 .rintro i d _ b hd ⟨p,g⟩;let⟨z,I,rfl⟩:=nD hd;show⟨_,rfl,ĉ.mpr ⟨_,rfl,_,rfl,_,rfl,(lW g (b8 z)<|by ext c6;rw[Ã,Ã,Ι,ò];lia).mpr<|.mk (cX p (Ø _) _) ?_⟩⟩;rw[cS g,jK I,ă];show congrArg (λy=>b3<|C.dT y)<|LU (o:=b4)<|by rw[AW];show qR u I
 .rintro _ b ⟨p,g⟩;rw[Ã,ź]at g;show⟨rfl,bD<|aS rfl<|(Xh<|aD p q).mpr<|fU ?_⟩;let N:=aR b<|C.lst<|M.map PP;let J:wj T M U a a.length b.length 0 (M.map λe=>(e,b4)) (b++[C.lst<|M.map PP]):=⟨.st,by rw[AW];show K,p.trans N,Ø _,p.length_le,aD N g,by rw[OT,AW];show bE _ _⟩;show La (b:=LV) (NX T M U a st j a.length b.length) 1700 ⋯ (.mk (n:=0) J rfl (ĸ _) λe E=>by rw[nj]at E;ext E) ?_;rintro m _ v ⟨J,hm,hn,cl⟩;rename_i n x h s R;let⟨Y,X,O,hr,hq,A,w⟩:=J;let Z:nM v (.loc b.length)=b3 (!(((R.drop n).map (·.1)).map PP).isEmpty):=by dsimp[nM,w]
  show ļ.mpr ⟨_,rfl,_,Z,?_⟩;by_cases hd:n<R.length
  .let o:(((R.drop n).map (·.1)).map PP).isEmpty=false:=by rw[NU hd];rfl
   rw[o];show(if_pos rfl).mpr<|bP (a1r u B hT hl S ⟨Y,X,O,hr,hq,A,w⟩ hm hd cl) λp G=>?_;rw[G.1];show G.2
  .let o:(((R.drop n).map (·.1)).map PP).isEmpty=true:=by rw[List.drop_eq_nil_of_le ()];rfl
   rw[o];rw[jd ()]at cl;show(if_neg ø).mpr ⟨rfl,cI ⟨_,rfl,H _ _ R O (Ø _) A ⟨Y,X,cl⟩⟩⟩
abbrev Ei(T:List St)(q:Ed->Int):Prop:=∀t∈T,(q t.1+q t.2.1+qX t.2.2.1)%2=0
def a1s a b:jM (a++b)=jM a+jM b:=by ext jM;rw[Ϡ,ć]
def a1t s:(jM [s]:Int)=qX s.2.2.1:=by ext jM qX;rw[iy];cases s.2.2.1<;>rfl
def Wy.app(h:Wy T a v b)(g:Wy T b w c):Wy T a (v++w) c:=by
 induction h with
 |nil=>show g|cons d h e=>show .cons d<|e g
def Wy.one(h:s∈dA T s.1):Wy T s.1 [s] s.2.1:=.cons h<|.nil _
def Wy.bk(h:Wy T a w b):Wy T b (w.reverse.map iX) a:=by
 induction h with
 |nil=>show .nil _|@cons s w e c h d=>rw[zc,ă];show d.app<|.one (s:=iX s)<|LH c
def Rc.m(h:Rc T M R):∀e∈M,(e,b4)∈R:=by
 induction h with
 |st=>show λe a=>Õ.mpr ⟨e,a,rfl⟩|sn h d h1 c b=>show λe a=>ĩ.mpr<|.inl<|b e a
def Ej(h:Dc b a kvs)(c:dP y=b3 k)(e:a9 kvs k=b3 d):bF (.loc a) y b=b3 (d,b):=by rcases h with h|h<;>dsimp[bF,h,c,ē,e,ė]
def Dc.set(I:Dc d a kvs)(h:b≠a):Dc (d.set b c) a kvs:=I.elim (λe=>.inl<|by rw[ô h];show e) λe=>.inr<|by rw[ô h];show e
def Dc.lt{b:Hm}{a:Nat}{kvs:jx}(I:Dc b a kvs):a<b.length:=I.elim (λe=>(ä.mp e).1) λe=>(ä.mp e).1
inductive PN (T:List St)(M:List Ed)(R:List (Ed×Option St))(ν:Hm)(r l:Nat)(e:Ed):Nat->aG->Hm->Prop
 |mk {m:Nat}{x:Ed}{o:Option St}{acc:List St}{μ:Hm}(p:ν<+:μ)(g:μ[l]?=b3 (.lst<|acc.map cF))(hx:(x,o)∈R)(hw:Wy T x acc.reverse e)(hm:m=(R.map (·.1)).idxOf x)(ha:acc.length+m<=600):PN T M R ν r l e m [b3<|.loc r,b3<|PP e,b3<|.loc l,b3<|rD o] μ
def A2 k(E:M.Nodup)(hU:U.length<=600)(G:qi T M U R)(h:Dc a r (c6 R))(q:e∈R.map (·.1))(Q:jz)(H:∀l b w m,a<+:b->b[l]?=b3 (.lst<|w.map cF)->m∈M->Wy T m w e->w.length<=600->True->Q (.loc l,b)):W (f (k+1) "way_by" [.loc r,PP e] a) Q:=by
 let⟨B,rU,cl⟩:=G;let nd:=B.nd E;let rl:R.length<=600:=by have:=zz nd rU;rw[Ã]at this;lia
 obtain⟨⟨x,o⟩,u,j⟩:=Õ.mp q;dsimp at j;subst j;let A:=aR a<|C.lst [];let ll:r<a.length:=h.lt;show Ð (X9 k _ _ a)<|bD ⟨_,rfl,bD<|aP rfl rfl ⟨_,Ej (h.more A) (b8 x)<|AZ nd u,fU ?_⟩⟩;let K:=RL.mpr q;rw[Ã]at K;show La (PN T M R a r a.length x) ((R.map (·.1)).idxOf x) () (.mk (acc:=[]) A (bE _ _) u (.nil _) rfl<|by change 0+_<=_;lia) ?_;rintro m _ d ⟨p,g,J,hw,I,ha⟩;rename_i y L c;let up:=B.up _ _ J;cases L with
 |none=>show cZ<|aP rfl rfl<|Ę.mpr ⟨_,rfl,(if_neg ø).mpr ⟨rfl,cI<|aS rfl<|(Jp g).mpr ?_⟩⟩;rw[<- Oi];show H _ _ _ y (p.trans<|aR _ _) (bE _ _) up hw (by rw[q9];lia) trivial|some s=>
  let⟨O,X,Y,Z⟩:=up;obtain⟨⟨z,N⟩,v,n⟩:=Õ.mp Y;dsimp at n;subst n;show cZ (aP rfl rfl<|ω.mpr ⟨_,rfl,(if_pos rfl).mpr<|An<|jE ⟨_,rfl,iF g,_,rfl,(mW g<|by rw[Ã,ò];lia).mpr ?_⟩⟩);let i:Dc (d.set a.length<|.lst<|c.map cF++[cF s]) r (c6 R):=(h.more p).set ();show Ď.mpr (aO ⟨_,rfl,aP rfl rfl ⟨_,rfl,_,Ej i (b8 s.1)<|AZ nd v,_,by rw[I];show Z,?_⟩⟩);let key:PN T M R a r a.length x ((R.map (·.1)).idxOf s.1) [b3<|.loc r,b3<|PP x,b3<|.loc a.length,b3<|rD N] (d.set a.length<|.lst<|(c++[s]).map cF):=by show .mk (cX p (Ø _) _) (cS g) v ?_ rfl (by rw[ć];change _+1+_<=_;lia);rw[qd];show .cons X<|O▸hw
  rw[ă]at key;show key
abbrev LW:D->Bool
 |.tup [_,_,.bl b,_]=>!b|_=>b5
def Ek k(h:w.length<=3000){a:Hm}(g:a[l]?=b3 (.lst<|w.map cF))(Q:jz)(H:∀μ',a<+:μ'->Q (.bl<|(jM w:Int)%2==0,μ')):W (f (k+1) "is_alike" [.loc l] a) Q:=by
 show Ð (Yb k _ a)<|cI<|aO<|aO<|dG<|aQ<|jX (xs:=w.map cF) (p:=LW) (v:=λd=>d)<|Ó.mpr ⟨_,rfl,(eE g).mpr ⟨mV g,rfl,by rw[Ã,ò];lia,λd μ' hd b=>?_,λd μ' hd _ b=>⟨_,rfl,rfl,ď _⟩,λμ' b c=>⟨_,rfl,(jF c).mpr ⟨_,rfl,(iE ⋯).mpr ⟨_,rfl,û.mpr ?_⟩⟩⟩⟩⟩
 .let⟨s,i,rfl⟩:=Õ.mp hd;show sL<|gW<|aP rfl rfl ⟨_,rfl,rfl,rfl,ď _⟩
 .let e:(((w.map cF).filter LW).map λd=>d).length=jM w:=by rw[Ã,zg,Ã];rfl
  rw[e];show H _ b
def LX:∀l ps,((ps++l).map (·.1)).Nodup->(l.map λm=>(aV m.1,D.str m.2)).foldl (λq p=>cC q p.1 p.2) (cW ps)=cW (ps++l)
 |[],ps,_=>by rw[ŉ];rfl
 |m::l,ps,h=>by
  rw[ö,ur];let a:m.1∉ps.map (·.1):=λz=>by rw[ă,ö]at h;show(Ϻ.mp h).2.2 _ z _ (.head _) rfl
  rw[LG a,LX l (ps++[m])<|by rw[Ϧ];show h,Ϧ];rfl
def LY k(nd:(a.map (·.1)).Nodup)b:f (k+1) "marks_in" [SH w h a] b=b3 (.loc b.length,b++[.dT<|cW a]):=a1e (Jw k _ b)<|eL<|aS rfl<|Ϫ.mpr<|by
 rw[show(a.map λm=>(aV m.1,D.str m.2)).foldl (λq p=>cC q p.1 p.2) []=_ from LX a [] nd];rfl
def Em(nd:(c.map (·.1)).Nodup)(h:m∈c):a9 (cW c) (aV m.1)=b3 (.str m.2):=Av (by
 ext cW;rw[å];have:((c.map (·.1)).map aV).Nodup:=uq _ (λa b d x=>d<|kR x) nd;rw[å]at this;show this)<|Õ.mpr ⟨_,h,rfl⟩
abbrev A3(s:Str):Str:=if s="h" then "v" else "h"
abbrev uR(n:Nat)(s:Str):Str:=if(n:Int)%2==0 then s else A3 s
def a1u{s:Str}(ok:s="o"\/s="h"\/s="v") (h:jN s=dI):s="h"\/s="v":=ok.resolve_left λz=>by rw[z]at h;revert h;decide +kernel
def a1v{s:Str}(h:s="h"\/s="v"):lI wQ (.inr s)=b3 (.str<|A3 s):=by
 rcases h with rfl|rfl
 .kernel_rfl
 .kernel_rfl
def Wy.hd:Wy T x (s::w) e->x=s.1
 |.cons _ _=>rfl
def Wy.nl:Wy T x [] e->x=e
 |.nil _=>rfl
def ĵ:x∈hJ b↔∃m∈b,jN m.2=dI/\m.1=x:=by
 ext hJ;rw[Õ];constructor
 .rintro⟨m,a,e⟩;show⟨m,(Ī.mp a).1,(Ī.mp a).2,e⟩
 .rintro⟨m,a,c,e⟩;show⟨m,Ī.mpr ⟨a,c⟩,e⟩
def Eo(nd:(a.map (·.1)).Nodup):(hJ a).Nodup:=(gk.map _).nodup nd
def a1w k(K:U.length<=600){j:List ((Int×Int)×Str)}(nd:(j.map (·.1)).Nodup)(ok:∀m∈j,m.2="o"\/m.2="h"\/m.2="v")(J:qi T (hJ j) U R)(I:Dc g a (cW j))(p:g[r]?=b3 (.dT<|c6 R)){c:Str}(h0:e∉R.map (·.1)->c="o")(h1:∀m∈j,jN m.2=dI->∀w,Wy T m.1 w e->c=uR (jM w) m.2)(Q:jz)(H:∀μ',g<+:μ'->Q (.str c,μ')):W (f (k+2) "carried_mark" [.loc a,.loc r,PP e] g) Q:=by
 let⟨E,rU,cl⟩:=J;let X:=E.nd<|Eo nd;by_cases b:e∈R.map (·.1)
 .obtain⟨⟨y,o⟩,O,A⟩:=Õ.mp b;dsimp at A;subst A;show Ð (Jy (k+1) _ _ _ g) (sJ<|cZ<|aP rfl rfl<|(uF p<|b8 y).mpr ⟨_,rfl,by rw[AZ X O];rfl,nX<|bD<|aS rfl<|A2 k (Eo nd) K ⟨E,rU,cl⟩ (.inl p) b _ λl d w x q n N hw L _=>?_⟩);let⟨m,b,B,rfl⟩:=ĵ.mp N;let h:=h1 m b B w hw;let M:=a1u (ok m b) B;let z:nM d (.loc l)=b3 (!(w.map cF).isEmpty):=by dsimp[nM,n]
  let G:iM (c8<|aE 3) (aA bF (aA bF (aE 3)<|mC<|.int 0)<|mC<|.int 0) (aE 2) [b3<|.loc a,b3<|.loc r,b3<|PP y,b3<|.loc l,b4] d=b3 (PP m.1,d):=by
   cases w with
   |nil=>rw[hw.nl];show eL (Ĝ.mpr<|ļ.mpr ⟨_,rfl,_,z,(if_neg ø).mpr ⟨_,rfl,rfl⟩⟩)|cons s w=>rw[hw.hd];show eL<|Ĝ.mpr<|ļ.mpr ⟨_,rfl,_,z,(if_pos rfl).mpr<|aO<|aP rfl rfl<|(dX n<|show atI ((s::w).map cF) ((0:Nat):Int)=b3 (cF s)from uK rfl).mpr ⟨_,rfl,_,rfl,rfl⟩⟩
  show bD ⟨_,G,cI<|Ĝ.mpr<|gW<|aS rfl<|Ek k (Ģ L ⋯) n _ λY u=>⟨rfl,?_⟩⟩;let v:=Ej (I.more<|q.trans u) (b8 m.1)<|Em nd b;unfold uR at h;cases i:(jM w:Int)%2==0 with
  |true=>rw[i,if_pos rfl]at h;rw[h]at H;show(if_pos rfl).mpr (aP rfl rfl ⟨_,v,H _<|q.trans u⟩)|false=>rw[i,if_neg ø]at h;rw[h]at H;show(if_neg ø).mpr<|jg.mpr<|aP rfl rfl ⟨_,v,_,rfl,_,a1v M,H _<|q.trans u⟩
 .rw[h0 b]at H;show Ð (Jy (k+1) _ _ _ g)<|YF<|cZ<|aP rfl rfl<|(uF p<|b8 e).mpr ⟨_,rfl,by rw[Ef b];rfl,Dp ⟨_,rfl,H _<|ď _⟩⟩
def LZ a:dQ (cW a)=(a.map (·.1)).map PP:=by ext dQ cW;rw[å,å];rfl
def a1x k(hw:1<=w/\w<=6)(n:1<=h/\h<=6)(z:cu c)(u:(eB w h).find? (iI<|bG c)=b4)(y:oX (j7 (bG c) w h))(h0:∀d,aE 0 p d=b3 (SH w h c,d))(d:Hm)(Q:jz)(H:∀r μ' R,d<+:μ'->μ'[r]?=b3 (.dT<|c6 R)->qi (TT c w h) (hJ c) (c.map (·.1)) R->Q (.loc r,μ')):W (bJ (f (k+9) "last_steps") (aB (bJ (f (k+9) "steps_from")<|aB (aE 0) aF)<|aB (bJ (f (k+9) "marked_creases")<|aB (aE 0) aF) aF) p d) Q:=by let⟨J,nd,ok⟩:=z;let I:=D9 hw n c;show dG (aQ<|dG<|aQ ⟨_,h0 d,_,rfl,LR k hw n u y _ _ λK i a B S=>aQ<|dG<|aQ ⟨_,h0 i,_,rfl,LS (k+7) () _ _ λb G o q=>⟨_,rfl,?_⟩⟩⟩);show Eh (k+8) (Eo nd) (by rw[Ã];lia) (λe v=>by let⟨m,x,_,rfl⟩:=ĵ.mp v;show Õ.mpr ⟨m,x,rfl⟩) (λt A=>(Ea A).1) () (S.more o) q _ λr j R E _ s g=>H r j R (S.pre.trans<|o.trans E) s g
def a1y(a:qi T M U R)(h:e∉R.map (·.1)):∀x∈M,¬ Cn T x e:=λx b hc=>by let⟨c,_,cl⟩:=a;show h<|hc.cl cl<|Õ.mpr ⟨_,c.m x b,rfl⟩
def a1z k(hw:1<=w/\w<=6)(G:1<=h/\h<=6)(s:cu b)(A:(eB w h).find? (iI<|bG b)=b4)(I:oX (j7 (bG b) w h)){dm:Ed->Str}(h0:∀e,(∀x∈hJ b,¬ Cn (TT b w h) x e)->e∈b.map (·.1)->dm e="o")(h1:∀e,∀m∈b,jN m.2=dI->∀y,Wy (TT b w h) m.1 y e->dm e=uR (jM y) m.2)(g:Hm)(Q:jz)(H:∀l μ',g<+:μ'->g.length<=l->μ'[l]?=b3 (.lst<|b.map λm=>MD (m.1,dm m.1))->Q (.loc l,μ')):W (f (k+10) "carried" [SH w h b] g) Q:=by
 show Ð (Yh (k+9) _ g)<|bD<|a1x k hw G s A I (λ_=>rfl) _ _ λr a R u q n=>?_;let⟨N,nd,ok⟩:=s;show bD<|aS rfl<|iG (LY (k+8) nd a)<|cI<|Zi (a:=a.length) (kvs:=cW b) rfl (bE _ _) ?_;let O:r<a.length:=(ä.mp q).1;let v:(a++[C.dT<|cW b]).set a.length (.dF<|cW b)=a++[.dF<|cW b]:=Dz _ _ _;change W (eU _ _ _ _<|(a++[C.dT<|cW b]).set a.length<|.dF<|cW b) _;rw[v];let o:=bE a<|C.dF<|cW b;let j:=aD (aR a<|C.dF<|cW b) q;let p:=u.trans<|aR a<|C.dF<|cW b;let K:(a++[C.dF<|cW b]).length=a.length+1:=by rw[ć];rfl
 generalize a++[C.dF<|cW b]=μ2 at o j p K ⊢;let hit:eP (aE 2) [b3<|SH w h b,b3<|.loc r,b3<|.loc a.length] μ2=b3 (dC<|.tup<|dQ<|cW b,(cW b).length+1,μ2):=by change(eP (λ_ g=>b3 (D.loc a.length,g)) [] μ2)=_;dsimp[eP,ē,o]
 let J:(cW b).length=b.length:=Ã ..;show jX (xs:=dQ (cW b)) (p:=λ_=>dI) (v:=λd=>.tup [d,.str<|dm<|eK d]) ⟨_,hit,λμ' i c=>rfl,?_,?_,λd μ' hd c=>ù.mpr ⟨rfl,ď _⟩,λd μ' hd _ c=>?_,λμ' c E=>⟨aD c o,?_⟩⟩
 .ext dQ;rw[Ã]
 .ext dQ;rw[Ã,J,ò];lia
 .rw[LZ]at hd;let⟨e,B,rfl⟩:=Õ.mp hd;show â.mpr<|aQ ⟨_,rfl,aQ<|aS rfl<|a1w (k+7) (U:=b.map (·.1)) (by rw[Ã];lia) nd ok n (.inr<|aD c o) (aD c j) (λz=>h0 e (a1y n z) B) (h1 e) _ λM L=>⟨_,rfl,gN,rfl,L⟩⟩
 .show H _ _ (cX (p.trans c) u.length_le _) (Ģ p.length_le<|Ø _) ?_;rw[ô<|by change a.length≠μ2.length;lia,E,LZ,zr.mpr λ_ _=>rfl,å,å];rfl
abbrev f9(s:Str):Int:=if s="v" then 1 else 0
def L4{a b:Str}(c:a="h"\/a="v") (d:b="h"\/b="v"):(a==b)=((f9 a+f9 b)%2==0):=by rcases c with rfl|rfl<;>rcases d with rfl|rfl<;>decide +kernel
def a1A G:NC w h (λ_=>fA) G:=λe _ c _ sp=>by
 unfold aY at sp ⊢;rw[Au,Au]at sp;subst sp;let k:∀P,∀b∈wd e e P,b=true:=λP=>xC λq _=>λz=>by
  unfold eF at z;by_cases h1:q=sA e\/q=sB e
  .rw[if_pos h1]at z;ext z
  .rw[if_neg h1,if_neg h1]at z;ext z
 ext oF;show D2 dI (A:=wd e e _) (B:=[]) (k _) (λb a=>nomatch a) λb a=>k _ b<|Qy.mp a
def Wy.par(g:Ei T q)(h:Wy T a w b):(q a+q b+jM w)%2=0:=by
 induction h with
 |nil e=>change(q e+q e+((0:Nat):Int))%2=0;lia|@cons s w e i h o=>
  let k:(q s.1+q s.2.1+qX s.2.2.1)%2=0:=by
   rcases(Ľ.mp i).2 with c|c
   .show g s c
   .let j:(q s.2.1+q s.1+qX s.2.2.1)%2=0:=g _ c;lia
  let d:=a1s [s] w;let n:=a1t s;rw[show[s]++w=s::w from rfl]at d;rw[d];lia
abbrev kY(s:Str):Prop:=s="h"\/s="v"
def a1B(h:kY s):jN s=true:=by rcases h with rfl|rfl<;>decide +kernel
def A4(h:kY s):(s="h"/\f9 s=0)\/(s="v"/\f9 s=1):=by rcases h with rfl|rfl<;>decide +kernel
def L5(a:kY s)(b:kY t)(e:(f9 s+f9 t)%2=0):s=t:=by
 rcases A4 a with⟨rfl,h1⟩|⟨rfl,h1⟩<;>rcases A4 b with⟨rfl,h2⟩|⟨rfl,h2⟩
 .rfl
 .rw[h1,h2]at e;show absurd e ⋯
 .rw[h1,h2]at e;show absurd e ⋯
 .rfl
def L6(h:kY s):kY (A3 s)/\f9 (A3 s)+f9 s=1:=by rcases h with rfl|rfl<;>show⟨by ext kY;decide +kernel,by decide +kernel⟩
def a1C(a:kY s)(b:kY t){n:Nat}(e:(f9 s+f9 t+n)%2=0):t=uR n s:=by
 ext uR;split
 .rename_i z;rw[beq_iff_eq]at z;show L5 b a ()
 .rename_i z;rw[beq_iff_eq]at z;have:=(L6 a).2;show L5 b (L6 a).1 ()
def a1D(b:kY s)(c:kY t)(e:(f9 s+f9 t+qX a)%2=0):(!((s==t)==a))=false:=by rw[L4 b c];rcases A4 b with⟨_,h1⟩|⟨_,h1⟩<;>rcases A4 c with⟨_,h2⟩|⟨_,h2⟩<;>rw[h1,h2]at e ⊢<;>ext a<;>first|rfl|show absurd e ⋯
def Ξ F r e:kY (cK F r e):=by
 ext cK;split
 .show .inr rfl
 .show .inl rfl
inductive Ũ (T:List St)(ms:List ((Int×Int)×Str))(v:Int×Int->Str):Prop
 |mk (hv:∀e,kY (v e))(ti:Ei T λe=>f9<|v e)(mk:∀m∈ms,m.2="o"\/m.2=v m.1)
def Ũ.at_(K:Ũ T ms v)(b:m∈ms)(a:jN m.2=dI):m.2=v m.1:=by let⟨_,_,mk⟩:=K;show(mk m b).resolve_left λz=>by rw[z]at a;revert a;decide +kernel
def Ũ.ok(K:Ũ T ms v)(a:m∈ms):m.2="o"\/m.2="h"\/m.2="v":=by
 let⟨b,_,mk⟩:=K;rcases mk m a with h|h
 .show .inl h
 .rw[h];show .inr<|b _
def Ũ.cyc(K:Ũ T ms v)(h:Wy T a w a):((jM w:Int)%2==0)=true:=by let⟨_,b,_⟩:=K;have:=h.par b;rw[beq_iff_eq];lia
def Ũ.mar(K:Ũ T ms v)(g:x∈ms)(i:y∈ms)(c:jN x.2=dI)(a:jN y.2=dI)(h:Wy T x.1 w y.1):((jM w:Int)%2==0)=(y.2==x.2):=by let d:=K.at_ g c;let e:=K.at_ i a;let⟨b,j,_⟩:=K;let k:=h.par j;rw[d,e,L4 (b _)<|b _,Ψ,beq_iff_eq,beq_iff_eq];lia
abbrev mG(T:List St)(ms:List ((Int×Int)×Str))(v:Int×Int->Str)(e:Ed):Str:=@ite _ (∃x∈hJ ms,Cn T x e) (Classical.propDecidable _) (v e) "o"
def Ũ.h0(h:∀x∈hJ ms,¬ Cn T x e):mG T ms v e="o":=if_neg λ⟨x,a,c⟩=>h x a c
def Ũ.h1(K:Ũ T ms v)e(m)(b:m∈ms)(a:jN m.2=dI)y(h:Wy T m.1 y e):mG T ms v e=uR (jM y) m.2:=by ext mG;rw[if_pos ⟨m.1,ĵ.mpr ⟨m,b,a,rfl⟩,h.cn⟩,K.at_ b a];let⟨c,d,_⟩:=K;show a1C (c _) (c _)<|h.par d
def Ũ.told(K:Ũ T ms v)(a:m∈ms):(mG T ms v m.1="o"\/mG T ms v m.1=v m.1)/\(m.2 ≠ "o"->mG T ms v m.1=m.2):=by
 ext mG;by_cases r:∃x∈hJ ms,Cn T x m.1
 .rw[if_pos r];let⟨_,_,mk⟩:=K;show⟨.inr rfl,λz=>((mk m a).resolve_left z).symm⟩
 .rw[if_neg r];show⟨.inl rfl,λz=>absurd ⟨m.1,ĵ.mpr ⟨m,a,?_,rfl⟩,.rf _⟩ r⟩;let⟨b,_,mk⟩:=K;rw[(mk m a).resolve_left z];show a1B<|b _
def a1E(g:b[a]?=b3 (.lst xs))(h:i<xs.length):nP a xs.length b i=b3 xs.reverse[i]?:=by ext nP;rw[g];dsimp;rw[if_pos h,P8 h,ā ()];rfl
def a1F(g:b[a]?=b3 (.lst xs)):nP a xs.length b xs.length=b3 none:=by ext nP;rw[g];dsimp;rw[if_neg<|γ _,if_pos rfl]
def a1G k{y:List St}(j:y.length<=600){b:Hm}(g:b[l]?=b3 (.lst<|y.map cF))(Q:jz)(H:∀a μ',b<+:μ'->μ'[a]?=b3 (.lst<|(y.reverse.map iX).map cF)->Q (.loc a,μ')):W (f (k+2) "back_by" [.loc l] b) Q:=by
 show Ð (Yc (k+1) _ b)<|cI<|Jn<|Xi ⟨_,rfl,l,_,rfl,g,(y.map cF).length,λi h μ'=>b<+:μ'/\h=((y.reverse.take i).map iX).map cF,rfl,by rw[Ã,ò];lia,?_,⟨aR _ _,rfl⟩,?_,?_⟩
 .rintro i _ _ ⟨_,rfl⟩;rw[Ã,Ã,Ι];lia
 .rintro i _ μ' hi ⟨p,rfl⟩ c;rw[Ã]at hi;let d:y.reverse[i]?=b3 y[y.length-1-i]:=by rw[P8 hi,ā]
  let e:nP l (y.map cF).length μ' i=b3 (b3<|cF y[y.length-1-i]):=by rw[a1E (aD p g)<|by rw[Ã];show hi,<- Oi,ÿ,d];rfl
  show⟨cF y[y.length-1-i],[b3<|cF y[y.length-1-i]],e,rfl,ù.mpr ⟨(λz=>nomatch z),λ_=>aS rfl<|iG (LQ k _ μ') ⟨c,cX p (Ø _) _,?_⟩⟩⟩;rw[jK d,ă,ă];rfl
 .rintro _ μ' ⟨p,rfl⟩ c;show⟨a1F<|aD p g,H _ _ p ?_⟩;rw[c,Ã,jd<|by rw[q9];show Ø _]
def L7{c d:Type}{h:c->d}:∀{U:List c},(U.map h).Nodup->∀x∈U,∀y∈U,h x=h y->x=y
 |[],_,_,a,_,_,_=>nomatch a|u::U,nd,x,a,y,hy,e=>by
  rw[ö,ő]at nd;rcases Č.mp a with b|a<;>rcases Č.mp hy with ey|hy
  .rw[b,ey]
  .show absurd (Õ.mpr ⟨y,hy,by rw[<- e,b]⟩) nd.1
  .show absurd (Õ.mpr ⟨x,a,by rw[e,ey]⟩) nd.1
  .show L7 nd.2 x a y hy e
def uS(a:Ed):[a].Nodup:=ő.mpr ⟨Ϗ,.nil⟩
def a1H k(i:U.length<=600)(h:qi T [a] U R)(g:Dc c r (c6 R))(h1:s.1∈R.map (·.1))(E:s.2.1∈R.map (·.1))(G:s∈dA T s.1)(Q:jz)(H:∀l μ' (y:List St),c<+:μ'->μ'[l]?=b3 (.lst<|y.map cF)->y.length<=1201->Wy T a y a->Q (.loc l,μ')):W (f (k+3) "round_by_step" [.loc r,cF s] c) Q:=by
 show Ð (Yd (k+2) _ _ c)<|cI<|aO<|aO<|aS rfl<|A2 (k+1) (uS a) i h g h1 _ λM b p X j x v q I _=>⟨_,rfl,?_⟩;let e:=aR b<|C.lst<|[s].map cF;show(sH (aD e x) (bE _ _)<|by rw[Ã,ò];change _+1<=_;lia).mpr<|dG<|aQ<|aS rfl<|A2 (k+1) (uS a) i h (g.more ?_) E _ λN K J Y n z w u d _=>⟨_,rfl,a1G k d z _ λO L o A=>?_⟩
 .show j.trans<|e.trans<|aR _ _
 .let B:=aD (n.trans o)<|bE (b++[C.lst<|[s].map cF])<|C.lst<|p.map cF++[s].map cF;rw[Ĕ.mp v]at q;rw[Ĕ.mp w]at u;show(sH B A<|by rw[ć,Ã,Ã,Ã,Ã,q9,ò];change _+1+_<=_;lia).mpr<|H _ _ (p++[s]++J.reverse.map iX) ?_ ?_ ?_<|(q.app<|.one G).app u.bk
  .show j.trans<|e.trans<|(aR _ _).trans<|n.trans<|o.trans<|aR _ _
  .rw[ă,ă];show bE _ _
  .rw[ć,ć,Ã,q9];change _+1+_<=_;lia
abbrev L8(k:Nat):MS:=aL (fN 7<|bJ (f k "round_by_step")<|aB (aE 3)<|aB (aE 6) aF)<|bK (jQ<|c8<|bJ (f k "is_alike")<|aB (aE 7) aF) (aM<|aE 7) bV
abbrev L9(k:Nat):MT:=i7 (c8<|bJ (f k "is_marked")<|aB (aA bF (aE 1)<|aE 4) aF)<|i7 (c8<|bJ (f k "is_marked")<|aB (aA bF (aE 1)<|aE 2) aF)<|a7<|aA (aZ dI) (bJ (f k "is_alike")<|aB (aE 5) aF)<|aA (aZ b5) (aA bF (aE 1)<|aE 4)<|aA bF (aE 1)<|aE 2
abbrev Ma(k:Nat):MS:=aL (fN 5<|bJ (f k "way_by")<|aB (aE 3)<|aB (aE 4) aF)<|aL (bK (L9 k) (aM<|aE 5) bV)<|b9 (cQ<|fR fS (aE 0)<|aB (aE 4)<|aB (cP aF) aF) (cL 6)<|L8 k
abbrev uT(st mk:Nat)(s:Ed)(r:Nat)(a b c d:Option D):aG:=[b3<|.loc st,b3<|.loc mk,b3<|PP s,b3<|.loc r,a,b,c,d]
def uU a x y b:aZ a (.str x) (.str y) b=b3 (.bl<|if a then !(x==y)else x==y,b):=by ext a<;>rfl
def Mb x y a:aZ dI (.bl x) (.bl y) a=b3 (.bl<|!(x==y),a):=rfl
def a1I k(K:Ũ T b v)(nd:(b.map (·.1)).Nodup)(g:m∈b)(h:s∈b){a:Hm}(n:a[mk]?=b3 (.dT<|cW b))(p:y.length<=3000)(u:Wy T s.1 y m.1)(gl:a[l]?=b3 (.lst<|y.map cF))(H:∀μ',a<+:μ'->Q (b5,μ')):W (L9 (k+1) (uT st mk s.1 r (b3<|PP m.1) (b3<|.loc l) x A) a) Q:=by
 let c:∀{z:(Int×Int)×Str},z∈b->∀{μ'},a<+:μ'->bF (.loc mk) (PP z.1) μ'=b3 (.str z.2,μ'):=λ{z} w {μ'} q=>eL<|(Dh (aD q n) (b8 z.1)<|Em nd w).mpr rfl;let d:=ď a;show Ğ.mpr<|gW<|dG<|aQ<|aP rfl rfl ⟨_,c g d,_,rfl,iG (Ee k m.2 a) ⟨rfl,?_⟩⟩;cases o:jN m.2 with
 |false=>show(if_neg ø).mpr (H _ d)|true=>
  show(if_pos rfl).mpr<|Ğ.mpr<|gW<|dG<|aQ<|aP rfl rfl ⟨_,c h d,_,rfl,iG (Ee k s.2 a) ⟨rfl,?_⟩⟩;cases e:jN s.2 with
  |false=>show(if_neg ø).mpr (H _ d)|true=>show(if_pos rfl).mpr<|cZ<|aO<|aS rfl<|Ek k p gl _ λj i=>aO<|aP rfl rfl ⟨_,c g i,aP rfl rfl ⟨_,c h i,_,uU b5 _ _ _,_,Mb _ _ _,_,rfl,?_⟩⟩;rw[K.mar h g e o u];change Q (!((m.2==s.2)==(m.2==s.2)),j);rw[beq_self_eq_true];show H _ i
def a1J k(K:Ũ T p v)(nd:(p.map (·.1)).Nodup)(L:p.length<=600)(E:qi T [s.1] (p.map (·.1)) R){e:Ed}(w:e∈R.map (·.1))(hs:s∈p)(S:SD ν κ u st kvs (dA T))(gm:u[mk]?=b3 (.dT<|cW p))(Z:Dc u r (c6 R))(H:∀N n o h,u<+:h->Q (.nx,uT st mk s.1 r (b3<|PP e) N n o,h)):W (Ma (k+3) (uT st mk s.1 r (b3<|PP e) N n o) u) Q:=by
 let G:=E;let⟨rc,rU,cl⟩:=G;let hU:(p.map (·.1)).length<=600:=by rw[Ã];show L
 let⟨m,hm,rfl⟩:=Õ.mp<|rU e w;show bD<|aS rfl<|A2 (k+2) (uS _) hU E Z w _ λl μ1 y z p1 g1 hz hy hl _=>?_;rw[Ĕ.mp hz]at hy;show Æ.mpr (Ñ.mpr<|a1I (k+2) K nd hm hs (aD p1 gm) (Ģ hl ⋯) hy g1 λb p2=>(if_neg ø).mpr<|Ì.mpr ?_);let M:=p1.trans p2;let q:=S.more M;let j:∀a c,b<+:c->c[a]?=b3 (.lst<|(dA T m.1).map cF)->W (fP (dC<|.loc a) (cL 6) (L8<|k+3) (((dA T m.1).map cF).length+1) 0 (uT st mk s.1 r (b3<|PP m.1) (b3<|.loc l) n o) c) Q:=λa c g ga=>by
  show jD (λ_ U h=>c<+:h/\∃n o,U=uT st mk s.1 r (b3<|PP m.1) (b3<|.loc l) n o) ⟨ď _,_,_,rfl⟩ (λ_ _ _ z=>aD z.1 ga) ?_ ?_
  .rintro i d _ O hd ⟨A,n,o,rfl⟩;let⟨t,ht,rfl⟩:=Eb hd;let I:=ķ ht;let X:=(Ľ.mp I).1;show⟨_,rfl,bD<|aS rfl<|a1H k hU E (Z.more<|M.trans<|g.trans A) (by rw[X];show w) (cl _ w _ I) (by rw[X];show I) _ λa2 μ6 y2 p6 g6 J w6=>?_⟩;show Ñ.mpr<|sL<|gW<|aS rfl<|Ek (k+2) (Ģ J ⋯) g6 _ λμ7 p7=>⟨congrArg D.bl<|K.cyc w6,(if_neg ø).mpr<|Ì.mpr ⟨A.trans<|p6.trans p7,_,_,rfl⟩⟩
  .rintro _ O ⟨A,n,o,rfl⟩;show H _ _ _ _<|M.trans<|g.trans A
 show É.mpr<|Ó.mpr<|AX (a:=st) rfl q.dic<|aQ ⟨_,rfl,aQ ⟨_,rfl,_,rfl,?_⟩⟩;let g:=aR b<|C.lst [];cases x:a9 kvs (aV m.1)with
 |some d=>
  let⟨a,rfl,_,Y⟩:=q.ats _ _ x;let B:fS (.loc st) [PP m.1,.loc b.length] (b++[C.lst []])=b3 (.loc a,b++[C.lst []]):=by dsimp[fS,aD g q.dic,b8,ė,x,Qp]
  show⟨_,B,(eE<|aD g Y).mpr<|j a _ g<|aD g Y⟩
 |none=>
  let B:fS (.loc st) [PP m.1,.loc b.length] (b++[C.lst []])=b3 (.loc b.length,b++[C.lst []]):=by dsimp[fS,aD g q.dic,b8,ė,x,N5]
  let gl:(b++[C.lst []])[b.length]?=b3 (.lst<|(dA T m.1).map cF):=by rw[q.no _ x];show bE _ _
  show⟨_,B,(eE gl).mpr<|j _ _ g gl⟩
def ϭ{A:MS}(h:W (A b a) λp=>match p.1 with|.nx=>W (B p.2.1 p.2.2) R|f=>R (f,p.2.1,p.2.2)):W (aL A B b a) R:=Æ.mpr<|bP h λp q=>by
 let⟨x,y⟩:=p;ext x<;>show q
def a1K R:dQ (c6 R)=(R.map (·.1)).map PP:=by ext dQ c6;rw[å,å];rfl
def a1L k(K:Ũ T b v)(nd:(b.map (·.1)).Nodup)(g:b.length<=600)(L:∀t∈T,t.1∈b.map (·.1)/\t.2.1∈b.map (·.1))(N:T.length<=1000)(A:s∈b)(S:SD Y κ a st kvs (dA T))(I:a[mk]?=b3 (.dT<|cW b))(Q:jz)(H:∀μ',a<+:μ'->Q (.non,μ')):W (f (k+4) "round_within" [.loc st,.loc mk,PP s.1] a) Q:=by
 let M:(b.map (·.1)).length<=600:=by rw[Ã];show g
 let B:=aR a<|C.lst<|[s.1].map PP;show Ð (Ye (k+3) _ _ _ a) (bD<|dG<|aQ ⟨_,rfl,aQ<|iG (r:=(.loc a.length,a++[C.lst<|[s.1].map PP])) rfl ⟨_,rfl,Eh (k+2) (M:=[s.1]) (uS _) M (λe o=>by rw[Ĕ.mp o];show Õ.mpr ⟨s,A,rfl⟩) L N (S.more B) (bE _ _) _ λr h R U G z J=>?_⟩⟩);let X:=B.trans U;let E:a.length<r:=by rw[ć]at G;show G
 show ϭ<|AD (a:=r) (kvs:=c6 R) rfl z ?_;let j:=cS (c':=C.dF (c6 R)) z;let n:=cX (c:=C.dF (c6 R)) X<|Rr E;change W (b9 _ _ _ _<|h.set r<|C.dF<|c6 R) _;generalize h.set r (C.dF<|c6 R)=μ2 at j n ⊢;let hit:eP (aE 3) [b3<|.loc st,b3<|.loc mk,b3<|PP s.1,b3<|.loc r,b4,b4,b4,b4] μ2=b3 (dC<|.tup<|dQ<|c6 R,(c6 R).length+1,μ2):=by change(eP (λ_ a=>b3 (D.loc r,a)) [] μ2)=_;dsimp[eP,ē,j]
 show É.mpr ⟨_,hit,?_⟩;rw[show(c6 R).length=(dQ<|c6 R).length by ext dQ;rw[Ã]];show Jf (x:=.tup (dQ<|c6 R)) (xs:=dQ (c6 R)) (b:=Ma (k+3)) (λ_=>rfl) (λ_ y μ'=>μ2<+:μ'/\∃p q u w,y=uT st mk s.1 r p q u w) ⟨ď _,_,_,_,_,rfl⟩ ?_ ?_
 .rintro i d _ x hd ⟨c,p,q,u,w,rfl⟩;rw[a1K]at hd;let⟨e,o,rfl⟩:=nD hd;show⟨_,rfl,a1J k K nd g J (ķ o) A (S.more<|n.trans c) (aD (n.trans c) I) (.inr<|aD c j) λ_ _ _ μ' O=>⟨c.trans O,_,_,_,_,rfl⟩⟩
 .rintro _ x ⟨c,p,q,u,w,rfl⟩;show⟨aD c j,cI ⟨_,rfl,H _<|cX (n.trans c) (Rr E) _⟩⟩
def Mc{d k:Type}{h:d->k}{U V:List d}(nd:V.Nodup)(c:∀e∈V,e∈U)(g:(U.map h).Nodup):(V.map h).Nodup:=Ob.mpr<|b4m (λ{a b} i j ne e=>ne<|L7 g a (c a i) b (c b j) e) nd
abbrev A5(e:Ed):Int:=Tb.hashT<|aV e
def a1M:(((j5 6 6).filter pN).map A5).Nodup:=by decide +kernel
def a1N(hw:w<=6)(i:h<=6){es:List Ed}(nd:es.Nodup)(d:∀e∈es,AV w h e):(es.map A5).Nodup:=Mc nd (λe g=>by
 let⟨h1,a⟩:=Ī.mp<|d e g;let⟨b,c⟩:=Ϭ.mp h1;show Ī.mpr ⟨Ϭ.mpr ⟨⟨b.1,()⟩,c.1,()⟩,a⟩) a1M
def a1O{kvs more:jx}{Q:jz}(d:c[a]?=b3 (.dT kvs))(e:c[b]?=b3 (.dT more))(hz:kvs.length+more.length<=Ò)(nd:(more.map λp=>Tb.hashT p.1).Nodup)(ne:a≠b)(H:Q (.non,c.set a<|.dT<|t8 kvs more)):W (sF (.loc a) [.loc b] c) Q:=by show⟨_,?_,H⟩;dsimp[sF,d,e];rw[if_pos ⟨hz,nd,ne⟩]
def Md:∀more kvs,(t8 kvs more).length<=kvs.length+more.length
 |[],kvs=>Ø _|p::more,kvs=>by let h1:=Md more<|cC kvs p.1 p.2;let a:=LI kvs p.1 p.2;change(t8 (cC kvs p.1 p.2) more).length<=_;rw[Ŋ];lia
abbrev Me(k:Nat):MS:=bK (a7<|aA (eD dI) (aE 4)<|aE 3) (aL (fN 5<|bJ (f k "round_within")<|aB (aE 1)<|aB (aE 2)<|aB (aE 4) aF)<|aL (bK (a7<|aA (iQ dI) (aE 5)<|mC .non) (aM<|aE 5) bV)<|dW<|fR sF (aE 3)<|aB (bJ (f k "last_steps")<|aB (aE 1)<|aB (cP<|aB (aE 4) aF) aF) aF) bV
def a1P k(K:Ũ T b v)(nd:(b.map (·.1)).Nodup)(n:b.length<=600)(N:((b.map (·.1)).map A5).Nodup)(y:∀t∈T,t.1∈b.map (·.1)/\t.2.1∈b.map (·.1))(z:T.length<=1000)(A:s∈b){a:jx}(S:SD ν κ j st kvs (dA T))(G:j[mk]?=b3 (.dT<|cW b))(i:j[sn]?=b3 (.dT a))(hk:a.length<=1000000)(H:∀d w g,Kp sn j g->g[sn]?=b3 (.dT d)->d.length<=a.length+600->Q (.nx,[x,b3<|.loc st,b3<|.loc mk,b3<|.loc sn,b3<|PP s.1,w],g)):
  W (Me (k+4) [x,b3<|.loc st,b3<|.loc mk,b3<|.loc sn,b3<|PP s.1,w] j) Q:=by
 let L:(b.map (·.1)).length<=600:=by rw[Ã];show n
 show Ñ.mpr<|cZ<|aP rfl rfl<|(uF i<|b8 s.1).mpr ⟨_,rfl,?_⟩;cases hv:(a9 a<|aV s.1).isSome with
 |true=>show(if_neg ø).mpr (Ì.mpr<|H a _ j (λ_ _ _ h=>h) i ())|false=>
  show(if_pos rfl).mpr<|bD<|aS rfl<|a1L k K nd n y z A S G _ λc o=>sJ<|cZ<|aP rfl rfl<|Ę.mpr ⟨_,rfl,rfl,nX<|í.mpr<|AX (a:=sn) rfl (aD o i)<|aQ<|dG<|aQ ⟨_,rfl,aQ<|iG (r:=(.loc c.length,c++[C.lst<|[s.1].map PP])) rfl ⟨_,rfl,?_⟩⟩⟩;let B:=aR c<|C.lst<|[s.1].map PP;show Eh (k+3) (M:=[s.1]) (uS _) L (λe M=>by rw[Ĕ.mp M];show Õ.mpr ⟨s,A,rfl⟩) y z (S.more<|o.trans B) (bE _ _) _ λr Z R U Y I J=>?_;let⟨X,rU,cl⟩:=J;let E:=X.nd<|uS _;let u:=zz E rU;rw[Ã]at u;let q:=o.trans<|B.trans U;let ls:sn<c.length:=Ļ (ä.mp i).1 o.length_le;let O:(c6 R).length=R.length:=Ã ..;rw[ć]at Y;show⟨_,rfl,a1O (aD q i) I (by rw[O,ò];lia) ?_ ()<|H _ _ _ ((Kp.pre q).trans .set) (cS<|aD q i) ?_⟩
  .let e:((c6 R).map λp=>Tb.hashT p.1)=(R.map (·.1)).map A5:=by ext c6;rw[å,å];rfl
   rw[e];show Mc E rU N
  .have:=Md (c6 R) a;lia
def a1Q k(hw:1<=w/\w<=6)(I:1<=h/\h<=6)(K:Ũ (TT c w h) c v)(hS:cu c)(hI:∀m∈c,AV w h m.1)(hb:(eB w h).find? (iI<|bG c)=b4)(hn:oX (j7 (bG c) w h))(T:Hm)(Q:jz)(H:∀μ',T<+:μ'->Q (.non,μ')):W (f (k+10) "round_of" [SH w h c] T) Q:=by
 let hT:=D9 hw I c;let⟨J,nd,ok⟩:=hS;let hs:=a1N hw.2 I.2 nd (λe j=>by let⟨m,p,rfl⟩:=Õ.mp j;show hI m p);show Ð (Yg (k+9) _ T)<|bD<|aS rfl<|LR k hw I hb hn _ _ λκ g st kvs S=>bD<|aS rfl<|iG (LY (k+8) nd g)<|bD<|ã.mpr ?_;let Y:=aR g<|C.dT<|cW c;let u:=bE g<|C.dT<|cW c;let B:=S.more Y;generalize hμ2:g++[C.dT<|cW c]=μ2 at Y u B ⊢;generalize g.length=mk at u ⊢;let Z:=aR μ2<|C.dT [];let gn:=bE μ2<|C.dT [];let lk:mk<μ2.length:=(ä.mp u).1;show ϭ (É.mpr<|Ó.mpr<|aO<|aS rfl<|LS (k+7) () _ _ λa o M g4=>?_);let G:=aD (Z.trans M) u;let ml:(hJ c).length<=600:=by have:=Ž (λm:(Int×Int)×Str=>jN m.2) c;ext hJ;rw[Ã];lia
 show aS rfl<|(Xg G).mpr<|(sH (aD (aR _ _) g4) (bE _ _) ?_).mpr ?_
 .ext cW;rw[Ã,Ã,Ã,ò];lia
 let ek:(cW c).map (λk=>D.tup<|k.1.map D.int)=(c.map (·.1)).map PP:=by ext cW;rw[å,å];rfl
 rw[ek,<- ă];let N:=(aR o<|C.lst<|(c.map (·.1)).map PP).trans<|aR _<|C.lst<|(hJ c++c.map (·.1)).map PP;let q:=bE (o++[C.lst<|(c.map (·.1)).map PP])<|C.lst<|(hJ c++c.map (·.1)).map PP;generalize(o++[C.lst<|(c.map (·.1)).map PP]).length=b at q ⊢;generalize(o++[C.lst<|(c.map (·.1)).map PP])++[C.lst<|(hJ c++c.map (·.1)).map PP]=μ5 at N q ⊢;let x:=aD (M.trans N) gn;let bn:b≠μ2.length:=λz=>by rw[z,x]at q;ext q
 let pp:μ2<+:μ5:=Z.trans<|M.trans N;let ln:(hJ c++c.map (·.1)).length<=1200:=by rw[ć,Ã];lia
 let mm:∀e∈hJ c++c.map (·.1),∃m∈c,m.1=e:=λe j=>by
  rcases ĩ.mp j with j|j
  .let⟨m,p,_,E⟩:=ĵ.mp j;show⟨m,p,E⟩
  .let⟨m,p,E⟩:=Õ.mp j;show⟨m,p,E⟩
 show(eE q).mpr<|jD (b:=Me (k+9)) (λi U μ'=>∃n O R,Kp μ2.length μ5 μ'/\μ'[μ2.length]?=b3 (.dT n)/\n.length<=600*i/\U=[b3<|SH w h c,b3<|.loc st,b3<|.loc mk,b3<|.loc μ2.length,O,R]) ⟨[],_,_,λ_ _ _ h=>h,x,Ø _,rfl⟩ (by rintro _ _ _ ⟨_,_,_,s,_⟩;show s _ _ bn q) ?_ ?_
 .rintro i d _ A hd ⟨n,O,R,s,X,hk,rfl⟩;let⟨e,j,rfl⟩:=nD hd;let hi:=(ä.mp j).1;let⟨m,p,rfl⟩:=mm e<|ķ j;let p6:μ2<+:A:=s.all pp<|Ø _;show⟨_,rfl,a1P (k+5) K nd J hs (λt ht=>(Ea ht).1) hT p (B.more p6) (aD p6 u) X () λy _ μ' L g' hk'=>⟨y,_,_,s.trans L,g',(),rfl⟩⟩
 .rintro _ A ⟨n,O,R,s,X,hk,rfl⟩;show cI ⟨_,rfl,H _<|B.pre.trans<|s.all pp<|Ø _⟩
abbrev Sd(e x y:Int×Int):Prop:=(x=sA e/\y=sB e)\/(x=sB e/\y=sA e)
def Sd.sy(h:Sd e x y):Sd e y x:=h.symm.imp qx qx
def Sd.l(h:Sd e x y):x=sA e\/x=sB e:=h.imp And.left And.left
def Sd.r(h:Sd e x y):y=sA e\/y=sB e:=h.sy.l
def Sd.of(h:Sd e x y)(k:q=sA e\/q=sB e):q=x\/q=y:=by
 rcases h with⟨rfl,rfl⟩|⟨rfl,rfl⟩
 .show k
 .show k.symm
def a1R(nd:qs.Nodup)(P:ī qs g G)s:(bW G s).Pairwise λx y=>aI G x<aI G y:=by
 by_cases b:s∈G.map (·.1)
 .let⟨x,a,rfl⟩:=Õ.mp b;rw[jZ P.kd a,uz];intro i j hi c d;rw[w8 nd P a<|ā hi,w8 nd P a<|ā c];lia
 .rw[pK b];show .nil
def a1S(c:(w,h)∈gP)(b:e∈bH w h):q∈c7 F e s↔(q=sA e\/q=sB e)/\aC (F q) q=s:=by let a:=((gZ _ c).2.2.2.2.2.2.2 e b).1;ext c7;rw[Ī,decide_eq_true_iff];show⟨λz=>⟨AR a z.1,z.2⟩,λz=>⟨AS a z.1,z.2⟩⟩
def Ep(c:(w,h)∈gP)(a:e∈bH w h)(b:q=sA e\/q=sB e):q∈cB w h:=by
 let⟨_,d,g,_⟩:=(gZ _ c).2.2.2.2.2.2.2 e a;rcases b with rfl|rfl
 .show d
 .show g
def a1T(i:(w,h)∈gP)(wf:Wf w h F)(d:e∈bH w h)(a:e'∈bH w h)(ne:e≠e')(sp:aY F e=aY F e')(g:q=sA e\/q=sB e)(b:q=sA e'\/q=sB e'):False:=by
 let k:∀{x:Int×Int},x∈bH w h->(q=sA x\/q=sB x)->aC (F q) x=aY F x:=λ{x} c h1=>by
  rcases h1 with rfl|rfl
  .rfl
  .show xA ((gZ _ i).2.2.2.2.2.2.2 x c).1<|wf.ed x c
 show xB (wf.di q) ne<|by rw[k d g,k a b,sp]
section
variable{w h:Int}{F:Int×Int->Ly}{G:Gr}
def a1U(nd:(cB w h).Nodup)(P:ī (cB w h) (λq=>aC (F q) q) G){L:jq}(j:L.Pairwise λx y=>aI G x<aI G y)(k:∀q,q∈L↔(q∈cB w h/\aC (F q) q=s)/\(eF e c q).isSome=dI):wd e c (bW G s)=L.filterMap (eF e c):=by
 let h1:wd e c (bW G s)=((bW G s).filter λq=>(eF e c q).isSome).filterMap (eF e c):=by ext wd;rw[List.filterMap_filter];show congrArg (λg=>List.filterMap g<|bW G s)<|funext λq=>by cases eF e c q<;>rfl
 let i:=(a1R nd P s).sublist<|gk (p:=λq=>(eF e c q).isSome);let d:∀{l:jq},(l.Pairwise λx y=>aI G x<aI G y)->l.Nodup:=λz=>z.imp λ{a b} h e=>by rw[e]at h;lia
 rw[h1];show congrArg _ (List.Perm.eq_of_pairwise (λa b _ _ h1 n=>()) i j<|(S5 (d i)<|d j).mpr λq=>?_);rw[Ī,k,(P.pm s).mem_iff,Ī,decide_eq_true_iff]
inductive aEn (w h:Int)(F:Int×Int->Ly)(G:Gr):Prop
 |mk (hs:(w,h)∈gP)(wf:Wf w h F)(nd:(cB w h).Nodup)(P:ī (cB w h) (λq=>aC (F q) q) G)(nc:NC w h F G)
abbrev Sq(e q:Int×Int):Prop:=q=sA e\/q=sB e
inductive Tw (w h:Int)(F:Int×Int->Ly)(G:Gr)(e e':Int×Int):Prop
 |mk (lt:∀{z:Int×Int},Sq e z->eF e e' z=b3 dI)(lf:∀{z},Sq e' z->eF e e' z=b3 b5)(q1:∀{z},Sq e z->z∈cB w h)(q2:∀{z},Sq e' z->z∈cB w h)
  (al:∀{s t:Int×Int}{L0 L1:jq},Sd (aY F e) s t->(L0.Pairwise λx y=>aI G x<aI G y)->(L1.Pairwise λx y=>aI G x<aI G y)->(∀q,q∈L0↔(Sq e q\/Sq e' q)/\aC (F q) q=s)->(∀q,q∈L1↔(Sq e q\/Sq e' q)/\aC (F q) q=t)->eT (L0.filterMap (eF e e')++(L1.filterMap<|eF e e').reverse)=b5)
variable(E:aEn w h F G){e e' q r x y q' r':Int×Int}
include E
def aEn.tw(g:e∈bH w h)(d:e'∈bH w h)(ne:e≠e')(sp:aY F e=aY F e'):Tw w h F G e e':=by
 let⟨i,wf,nd,P,H⟩:=E;let v:∀{z},Sq e z->¬ Sq e' z:=λa b=>a1T i wf g d ne sp a b;let lt:∀{z},Sq e z->eF e e' z=b3 true:=λa=>by ext eF;show if_pos a
 let j:∀{z},Sq e' z->eF e e' z=b3 false:=λa=>by ext eF;show(if_neg λb=>v b a).trans<|if_pos a
 let k:∀{z},Sq e z->z∈cB w h:=λa=>Ep i g a;let n:∀{z},Sq e' z->z∈cB w h:=λa=>Ep i d a;show⟨lt,j,k,n,λ{s t K M} o I J A B=>?_⟩;let u:∀{s:Int×Int}{L:jq},(L.Pairwise λx y=>aI G x<aI G y)->(∀q,q∈L↔(Sq e q\/Sq e' q)/\aC (F q) q=s)->wd e e' (bW G s)=L.filterMap (eF e e'):=λ{s L} p m=>a1U nd P p λq=>by
  rw[m];constructor
  .rintro⟨a,b⟩;rcases a with a|a
   .show⟨⟨k a,b⟩,by rw[lt a];rfl⟩
   .show⟨⟨n a,b⟩,by rw[j a];rfl⟩
  .rintro⟨⟨_,b⟩,a⟩;cases z:eF e e' q with
   |none=>rw[z]at a;ext a|some c=>
    ext c
    .show⟨.inr<|Lp z,b⟩
    .show⟨.inl<|Lo z,b⟩
 rw[<- u I A,<- u J B];have:=H e g e' d sp;rcases o with⟨rfl,rfl⟩|⟨rfl,rfl⟩
 .show this
 .rw[Lr]at this;show this
def aEn.rk(a:q∈cB w h)(b:r∈cB w h)(e:aC (F q) q=aC (F r) r)(n:q≠r):aI G q≠aI G r:=by let⟨_,_,nd,P,_⟩:=E;show K6 nd P a b n e
def aEn.two(a:e∈bH w h)(s:Sd e q r)(f:F q=F r):aC (F q) q≠aC (F r) r/\Sd (aY F e) (aC (F q) q) (aC (F r) r):=by
 let⟨b,wf,_,_,_⟩:=E;let c:=((gZ _ b).2.2.2.2.2.2.2 e a).1;let n:q≠r:=by
  rcases s with⟨rfl,rfl⟩|⟨rfl,rfl⟩
  .show pM c
  .show ð<|pM c
 let ne:aC (F q) q≠aC (F r) r:=by rw[f];show xB (wf.di r) n
 show⟨ne,?_⟩;rcases uP b wf a s.l with h1|h1<;>rcases uP b wf a s.r with h2|h2
 .show absurd (h1.trans h2.symm) ne
 .show .inl ⟨h1,h2⟩
 .show .inr ⟨h1,h2⟩
 .show absurd (h1.trans h2.symm) ne
def aEn.nb(u:e∈bH w h)(d:e'∈bH w h)(ne:e≠e')(sp:aY F e=aY F e')(o:Sd (aY F e) (aC (F q) q) t)(s:Sd e q r)(j:aC (F r) r=t)(b:Sd e' x y)(n:aC (F x) x=aC (F q) q)(py:aC (F y) y=aC (F q) q)(c:aC (F q) q≠t):¬ (aI G x<aI G q/\aI G q<aI G y):=λ⟨A,v⟩=>by
 let⟨lt,i,_,_,p⟩:=E.tw u d ne sp;let a:=p (L0:=[x,q,y]) (L1:=[r]) o (NL.mpr ⟨λz g=>by dsimp[Č,Ϗ,or_false]at g;rcases g with rfl|rfl<;>lia,Og.mpr v⟩) (Ov _ _) (λz=>?_) λz=>?_
 .dsimp[aa,Oe,lt s.l,lt s.r,i b.l,i b.r]at a;ext a
 .dsimp[Č,Ϗ,or_false];constructor
  .rintro(rfl|rfl|rfl)
   .show⟨.inr b.l,n⟩
   .show⟨.inl s.l,rfl⟩
   .show⟨.inr b.r,py⟩
  .rintro⟨h|h,k⟩
   .rcases s.of h with rfl|rfl
    .show .inr<|.inl rfl
    .show absurd (k.symm.trans j) c
   .rcases b.of h with rfl|rfl
    .show .inl rfl
    .show .inr<|.inr rfl
 .rw[Ĕ];constructor
  .rintro rfl;show⟨.inl s.r,j⟩
  .rintro⟨h|h,k⟩
   .rcases s.of h with rfl|rfl
    .show absurd k c
    .rfl
   .rcases b.of h with rfl|rfl
    .show absurd (n.symm.trans k) c
    .show absurd (py.symm.trans k) c
def aEn.so(p:e∈bH w h)(d:e'∈bH w h)(ne:e≠e')(sp:aY F e=aY F e')(o:Sd (aY F e) (aC (F q) q) (aC (F r) r))(s:Sd e q r)(b:Sd e' q' r')(j:aC (F q') q'=aC (F q) q)(i:aC (F r') r'=aC (F r) r)(c:aC (F q) q≠aC (F r) r)(l:aI G q<aI G q'):aI G r<aI G r':=Int.not_le.mp λB=>by
 let⟨lt,g,v,A,n⟩:=E.tw p d ne sp;let u:aI G r'<aI G r:=by
  have:=E.rk (v s.r) (A b.r) i.symm λz=>by let h:=lt s.r;rw[z,g b.r]at h;ext h
  lia
 let a:=n (L0:=[q,q']) (L1:=[r',r]) o (Og.mpr l) (Og.mpr u) (λz=>?_) λz=>?_
 .dsimp[aa,Oe,lt s.l,lt s.r,g b.l,g b.r]at a;ext a
 .dsimp[Č,Ϗ,or_false];constructor
  .rintro(rfl|rfl)
   .show⟨.inl s.l,rfl⟩
   .show⟨.inr b.l,j⟩
  .rintro⟨h|h,k⟩
   .show .inl<|(s.of h).resolve_right λz=>c<|by rw[z]at k;show k.symm
   .show .inr<|(b.of h).resolve_right λz=>c<|by rw[z,i]at k;show k.symm
 .dsimp[Č,Ϗ,or_false];constructor
  .rintro(rfl|rfl)
   .show⟨.inr b.r,i⟩
   .show⟨.inl s.r,rfl⟩
  .rintro⟨h|h,k⟩
   .show .inr<|(s.of h).resolve_left λz=>c<|by rw[z]at k;show k
   .show .inl<|(b.of h).resolve_left λz=>c<|by rw[z,j]at k;show k
def aEn.bb(p:e∈bH w h)(d:e'∈bH w h)(ne:e≠e')(sp:aY F e=aY F e')(o:Sd (aY F e) (aC (F q) q) t)(s:Sd e q r)(b:Sd e' x y)(i:aC (F r) r=aC (F q) q)(j:aC (F x) x=aC (F q) q)(py:aC (F y) y=aC (F q) q)(c:aC (F q) q≠t):¬ (aI G q<aI G x/\aI G x<aI G r/\aI G r<aI G y):=λ⟨u,v,A⟩=>by
 let⟨lt,g,_,_,n⟩:=E.tw p d ne sp;let a:=n (L0:=[q,x,r,y]) (L1:=[]) o (by
  dsimp[NL,Č,Ϗ,or_false,forall_eq_or_imp,forall_eq,false_imp_iff,implies_true,Oq,and_true];lia) .nil (λz=>?_) λz=>?_
 .dsimp[aa,Oe,lt s.l,lt s.r,g b.l,g b.r]at a;ext a
 .dsimp[Č,Ϗ,or_false];constructor
  .rintro(rfl|rfl|rfl|rfl)
   .show⟨.inl s.l,rfl⟩
   .show⟨.inr b.l,j⟩
   .show⟨.inl s.r,i⟩
   .show⟨.inr b.r,py⟩
  .rintro⟨h|h,_⟩
   .rcases s.of h with rfl|rfl
    .show .inl rfl
    .show .inr<|.inr<|.inl rfl
   .rcases b.of h with rfl|rfl
    .show .inr<|.inl rfl
    .show .inr<|.inr<|.inr rfl
 .show⟨λh=>(nomatch h),?_⟩;rintro⟨h|h,k⟩
  .rcases s.of h with rfl|rfl
   .show absurd k c
   .show absurd (i.symm.trans k) c
  .rcases b.of h with rfl|rfl
   .show absurd (j.symm.trans k) c
   .show absurd (py.symm.trans k) c
def aEn.nbF(b:e∈bH w h)(a:e'∈bH w h)(ne:e≠e')(sp:aY F e=aY F e')(s:Sd e q r)(f:F q=F r)(g:Sd e' x y)(d:aC (F x) x=aC (F q) q)(py:aC (F y) y=aC (F q) q):¬ (aI G x<aI G q/\aI G q<aI G y):=by let⟨c,o⟩:=E.two b s f;show E.nb b a ne sp o s rfl g d py c
def aEn.soF(b:e∈bH w h)(a:e'∈bH w h)(ne:e≠e')(sp:aY F e=aY F e')(s:Sd e q r)(f:F q=F r)(i:Sd e' q' r')(j:F q'=F r')(d:aC (F q) q=aC (F q') q'):aC (F r) r=aC (F r') r'/\(aI G q<aI G q'->aI G r<aI G r'):=by
 let⟨c,o⟩:=E.two b s f;let⟨_,k⟩:=E.two a i j;let g:aC (F r) r=aC (F r') r':=by rw[sp]at o;show(k.of o.r).resolve_left λz=>c<|d.trans z.symm
 show⟨g,E.so b a ne sp o s i d.symm g.symm c⟩
abbrev nE(r:Int×Int->Int)(a b q:Int×Int):Bool:=decide (min (r a) (r b)<r q)&&decide (r q<max (r a) (r b))
omit E in
def Mf(r:Int×Int->Int)(a b q:Int×Int):nE r a b q=dI↔(r a<r q/\r q<r b)\/(r b<r q/\r q<r a):=by ext nE;rw[ó,decide_eq_true_iff,decide_eq_true_iff];lia
def aEn.nb0(b:e∈bH w h)(a:e'∈bH w h)(ne:e≠e')(sp:aY F e=aY F e')(o:Sd (aY F e) (aC (F q) q) t)(s:Sd e q r)(d:aC (F r) r=t)(i:Sd e' x y)(g:aC (F x) x=aC (F q) q)(py:aC (F y) y=aC (F q) q)(c:aC (F q) q≠t):nE (aI G) x y q=false:=RB.mpr λz=>by
 rcases(Mf _ _ _ _).mp z with z|z
 .show E.nb b a ne sp o s d i g py c z
 .show E.nb b a ne sp o s d i.sy py g c z
def aEn.bb0(k:e∈bH w h)(g:e'∈bH w h)(ne:e≠e')(sp:aY F e=aY F e')(o:Sd (aY F e) (aC (F q) q) t)(s:Sd e q r)(j:Sd e' x y)(i:aC (F r) r=aC (F q) q)(p:aC (F x) x=aC (F q) q)(py:aC (F y) y=aC (F q) q)(n:aC (F q) q≠t)(b:nE (aI G) q r x=dI):nE (aI G) q r y=true:=by
 let T:=E.tw k g ne sp;let o1:Sd (aY F e) (aC (F r) r) t:=by rw[i];show o
 let o2:Sd (aY F e') (aC (F y) y) t:=by rw[py,<- sp];show o
 let K:=E.bb k g ne sp o s j i p py n;let L:=E.bb k g ne sp o1 s.sy j i.symm (p.trans i.symm) (py.trans i.symm) (by rw[i];show n);let M:=E.bb g k (ð ne) sp.symm o2 j.sy s (p.trans py.symm) py.symm (i.trans py.symm) (by rw[py];show n);let N:=E.bb g k (ð ne) sp.symm o2 j.sy s.sy (p.trans py.symm) (i.trans py.symm) py.symm (by rw[py];show n);let rk:∀{u v:Int×Int},u∈cB w h->v∈cB w h->aC (F u) u=aC (F v) v->u≠v->aI G u≠aI G v:=E.rk;let⟨lt,J,B,H,_⟩:=T;let A:∀{z I:Int×Int},Sq e z->Sq e' I->z≠I:=λa c d=>by let h:=lt a;rw[d,J c]at h;ext h
 let O:=rk (B s.l) (H j.r) py.symm<|A s.l j.r;let Q:=rk (B s.r) (H j.r) (i.trans py.symm)<|A s.r j.r;rw[Mf]at b ⊢;lia
omit E in
def Sd.two(a:Sq e x)(b:Sq e y)(n:x≠y):Sd e x y:=by
 rcases a with rfl|rfl<;>rcases b with rfl|rfl
 .show absurd rfl n
 .show .inl ⟨rfl,rfl⟩
 .show .inr ⟨rfl,rfl⟩
 .show absurd rfl n
omit E in
def a1V(r:Int×Int->Int)(a b c:Int×Int)(h:nE r a b c=b5):(qW r a b [c]==1)=false:=by change(([c].filter<|nE r a b).length==1)=b5;rw[iy,h];rfl
omit E in
def a1W(r:Int×Int->Int)(a b c d:Int×Int)(h:nE r a b c=nE r a b d):(qW r a b [c,d]==1)=false:=by change(([c,d].filter<|nE r a b).length==1)=b5;rw[iy,iy,h];cases nE r a b d<;>rfl
def aEn.cr(i:e∈bH w h)(g:e'∈bH w h)(ne:e≠e')(sp:aY F e=aY F e')(Z:hG (aY F e)=[s0,s1]):sU (aI G) (c7 F e s0) (c7 F e s1) (c7 F e' s0) (c7 F e' s1)=false:=by
 let Ec:=E;let⟨L,wf,_,_,_⟩:=E;let E:=Ec;let⟨u,v,Q,K,o⟩:=qV<|D6 L wf i;rw[Z]at Q;ext Q;replace o:Sd (aY F e) s0 s1:=o;let o':Sd (aY F e') s0 s1:=sp▸o;let sa:=(D0 L wf i Z).1;let O:=(D0 L wf g<|sp▸Z).1;let X:∀{e:Int×Int},e∈bH w h->∀{s:Int×Int}{A:jq},c7 F e s=A->A.Nodup/\∀q∈A,Sq e q/\aC (F q) q=s:=λ{e} i {s A} z=>by subst z;show⟨?_,λq hq=>(a1S L i).mp hq⟩;let⟨x,y,Q,N,_⟩:=qV ((gZ _ L).2.2.2.2.2.2.2 e i).1;ext c7;rw[Q];show gk.nodup<|by apply N
 let two:∀{e a b s:Int×Int},([a,b].Nodup/\∀q∈[a,b],Sq e q/\aC (F q) q=s)->Sd e a b/\aC (F a) a=s/\aC (F b) b=s:=λ{e a b s} h=>by let⟨Y,B⟩:=h.2 a<|.head _;let⟨I,H⟩:=h.2 b<|.tail _<|.head _;show⟨Sd.two Y I<|by apply h.1,B,H⟩
 let one:∀{e a b:Int×Int},([a].Nodup/\∀q∈[a],Sq e q/\aC (F q) q=s0)->([b].Nodup/\∀q∈[b],Sq e q/\aC (F q) q=s1)->Sd e a b/\aC (F a) a=s0/\aC (F b) b=s1:=λ{e a b} h k=>by
  let⟨Y,B⟩:=h.2 a<|.head _;let⟨I,H⟩:=k.2 b<|.head _;show⟨Sd.two Y I λz=>K<|by rw[<- B,<- H,z],B,H⟩
  -- one has a mark,the other b4; both have marks
 let un:∀{e e' q r x y s t:Int×Int},e∈bH w h->e'∈bH w h->e≠e'->aY F e=aY F e'->Sd (aY F e) s t->s≠t->Sd e q r->aC (F q) q=s->aC (F r) r=t->Sd e' x y/\aC (F x) x=s/\aC (F y) y=s->(qW (aI G) x y [q]==1)=false:=λ{e e' q r x y s t} i g ne sp o n sd pq pr z=>by subst pq;show a1V _ _ _ _<|E.nb0 i g ne sp o sd pr z.1 z.2.1 z.2.2 n
 let bo:∀{q r x y s t:Int×Int},Sd (aY F e) s t->s≠t->Sd e q r/\aC (F q) q=s/\aC (F r) r=s->Sd e' x y/\aC (F x) x=s/\aC (F y) y=s->(qW (aI G) q r [x,y]==1)=false:=λ{q r x y s t} o n a b=>by let⟨a,rfl,B⟩:=a;let⟨b,I,H⟩:=b;show a1W _ _ _ _ _<|Ψ.mpr ⟨E.bb0 i g ne sp o a b B I H n,E.bb0 i g ne sp o a b.sy B H I n⟩
 generalize hA:c7 F e s0=A0 at sa;generalize hB:c7 F e s1=A1 at sa;generalize hC:c7 F e' s0=B0 at O;generalize hD:c7 F e' s1=B1 at O;let mA:=X i hA;let mB:=X i hB;let mC:=X g hC;let M:=X g hD;clear hA hB hC hD;let N:=ð K;cases sa with
 |c0 a b=>
  cases O with
  |c0 c d=>show bo o K (two mA) (two mC)|c1 c d=>rfl|s c d=>let⟨J,j,p⟩:=one mC M;show un g i (ð ne) sp.symm o' K J j p<|two mA
 |c1 a b=>
  cases O with
  |c0 c d=>rfl|c1 c d=>show bo o.sy N (two mB) (two M)|s c d=>let⟨J,j,p⟩:=one mC M;show un g i (ð ne) sp.symm o'.sy N J.sy p j<|two mB
 |s a b=>
  let⟨R,T,U⟩:=one mA mB;cases O with
  |c0 c d=>show un i g ne sp o K R T U (two mC)|c1 c d=>show un i g ne sp o.sy N R.sy U T (two M)|s c d=>
   let⟨J,j,p⟩:=one mC M;change(decide (aI G c<aI G a) != decide (aI G d<aI G b))=b5;let nn:aC (F c) c≠aC (F d) d:=by rw[j,p];show K
   let oo:Sd (aY F e') (aC (F c) c) (aC (F d) d):=by rw[j,p];show o'
   rw[bne_eq_false_iff_eq];show decide_eq_decide.mpr ⟨E.so g i (ð ne) sp.symm oo J R (T.trans j.symm) (U.trans p.symm) nn,E.so g i (ð ne) sp.symm oo.sy J.sy R.sy (U.trans p.symm) (T.trans j.symm)<|ð nn⟩
end
structure Ĵ(w h:Int)(n:Nat)(A B:Nat->Int×Int):Prop where
 n8:n=8\/n=4
 r:∀j,A j∈bH w h
 sd:∀j,Sd (A<|j+1) (B j) (B<|j+1)
 mi:∀i j,eQ (A i) (A j)=A (2*j+(n-1)*i)
 pA:∀i j,i%n=j%n->A i=A j
 pB:∀i j,i%n=j%n->B i=B j
 iA:∀i j,A i=A j->i%n=j%n
 iB:∀i j,B i=B j->i%n=j%n
abbrev cM(l:jq)(j:Nat):Int×Int:=l.getD (j%l.length) (0,0)
abbrev bU(c:Int×Int):jq:=mv c.1 c.2<|fZ c.1
abbrev jO(c:Int×Int):jq:=mv c.1 c.2<|ZP c.1
abbrev Mg(e x y:Int×Int):Bool:=(x==sA e&&y==sB e)||(x==sB e&&y==sA e)
abbrev Mh(rs:jq)(c:Int×Int):Bool:=
 ((bU c).length==8||(bU c).length==4)&&(jO c).length==(bU c).length&&decide (bU c).Nodup&&decide (jO c).Nodup&&(ą (bU c).length).all λj=>rs.contains (cM (bU c) j)&&Mg (cM (bU c)<|j+1) (cM (jO c) j) (cM (jO c)<|j+1)&&(ą (bU c).length).all λi=>eQ (cM (bU c) i) (cM (bU c) j)==cM (bU c) (2*j+((bU c).length-1)*i)
def a1X:∀w∈[(1:Int),2,3],∀h∈[(1:Int),2,3],((eB w h).all<|Mh<|bH w h)=true:=by decide +kernel
def Mi(nd:l.Nodup)(h0:0<l.length)(e:cM l i=cM l j):i%l.length=j%l.length:=by let hi:=ξ i h0;let a:=ξ j h0;unfold cM at e;rw[υ,υ,ā hi,ā a]at e;show(N3 nd).mp e
def oG l(e:i%l.length=j%l.length):cM l i=cM l j:=by ext cM;rw[e]
def Mj(hw:1<=w/\w<=3)(g:1<=h/\h<=3)(hc:c∈eB w h):Ĵ w h (bU c).length (cM<|bU c) (cM<|jO c):=by
 let k:=ϸ.mp (a1X w (qQ hw) h<|qQ g) c hc;unfold Mh at k;unfold Mg at k;dsimp[ó,mX,beq_iff_eq,decide_eq_true_eq,ϸ,Ō]at k;obtain⟨⟨⟨⟨d,a⟩,n⟩,nb⟩,k⟩:=k;let b:0<(bU c).length:=()
 let sm:∀j,j%(bU c).length<(bU c).length:=λj=>ξ j b;show⟨d,λj=>?_,λj=>?_,λi j=>?_,λi j e=>oG _ e,λi j e=>oG _<|by rw[a];show e,λi j e=>Mi n b e,λi j e=>?_⟩
 .rw[oG _ (rT j _).symm];show ε.mp (k _<|sm j).1.1
 .have:=(k _<|sm j).1.2;rw[oG (bU c) (i:=j+1) (j:=j%(bU c).length+1)<|by rw[Q6],oG (jO c) (i:=j) (j:=j%(bU c).length)<|by rw[a,rT],oG (jO c) (i:=j+1) (j:=j%(bU c).length+1)<|by rw[a,Q6]];show this
 .have:=(k _<|sm j).2 _<|sm i;rw[oG _ (rT j _).symm,oG _ (rT i _).symm,this];show oG _ ?_;rcases d with e|e<;>rw[e]<;>lia
 .have:=Mi nb (by rw[a];show b) e;rwa [a]at this
section
variable{w h:Int}{F:Int×Int->Ly}{G:Gr}
abbrev xD(w h:Int)(F:Int×Int->Ly)(m:Int×Int->Bool):Prop:=∀e∈bH w h,m e=!decide (F (sA e)=F (sB e))
abbrev gQ(F:Int×Int->Ly)(G:Gr)(x y:Int×Int):Bool:=decide (aI G y<aI G x)==decide (dZ (F x)<0)
variable(E:aEn w h F G){n:Nat}{A B:Nat->Int×Int}(R:Ĵ w h n A B){m:Int×Int->Bool}(hm:xD w h F m)
omit E hm in
def Ĵ.sq(R:Ĵ w h n A B)(z:i=j+1):Sd (A i) (B j) (B i):=by subst z;show R.sd j
include E R hm
def Ĵ.un(k:m (A i)=b5)(z:i=j+1):F (B j)=F (B i):=by
 subst z;have:=hm _<|R.r<|j+1;rw[k]at this;let e:F (sA<|A<|j+1)=F (sB<|A<|j+1):=by apply this.symm
 rcases R.sd j with⟨a,b⟩|⟨a,b⟩<;>rw[a,b]
 .show e
 .show e.symm
def Ĵ.cr(k:m (A<|j+1)=dI):F (B j)=c9 (fV<|A<|j+1) (F<|B<|j+1)/\F (B<|j+1)=c9 (fV<|A<|j+1) (F<|B j):=by
 have:=hm _<|R.r<|j+1;rw[k]at this;let e:¬ F (sA<|A<|j+1)=F (sB<|A<|j+1):=by apply this.symm
 let⟨g,wf,_,_,_⟩:=E;let c:=(wf.ed _<|R.r<|j+1).resolve_left e;let d:F (sB<|A<|j+1)=c9 (fV<|A<|j+1) (F<|sA<|A<|j+1):=by rw[c,<- Ap];show Dx λp=>?_;rw[jY,jY,kQ,kQ,YG]
 rcases R.sd j with⟨a,b⟩|⟨a,b⟩<;>rw[a,b]
 .show⟨c,d⟩
 .show⟨d,c⟩
def Ĵ.pl(k:m (A i)=dI)(z:i=j+1):aC (F<|B j) (B j)=aC (F<|B i) (B i):=by
 subst z;let e:=(R.cr E hm k).1;let⟨c,wf,_,_,_⟩:=E;let⟨d,g⟩:=AI ((gZ _ c).2.2.2.2.2.2.2 _<|R.r<|j+1).1;rw[e,jY,kQ];rcases R.sd j with⟨a,b⟩|⟨a,b⟩<;>rw[a,b]
 .rw[d]
 .rw[g]
omit hm in
def Ĵ.sp0{a i:Nat}(s:a=i\/a=i+1):aC (F<|B i) (A a)=aY F (A a):=by
 let⟨d,wf,_,_,_⟩:=E;let two:∀{e q:Int×Int},e∈bH w h->(q=sA e\/q=sB e)->aC (F q) e=aY F e:=λ{e q} b c=>by
  rcases c with rfl|rfl
  .rfl
  .show xA ((gZ _ d).2.2.2.2.2.2.2 _ b).1<|wf.ed _ b
 rcases s with rfl|rfl
 .have:=(R.sd<|a+(n-1)).r;let e:(a+(n-1)+1)%n=a%n:=by rcases R.n8 with e|e<;>rw[e]<;>lia
  rw[R.pA _ _ e,R.pB _ _ e]at this;show two (R.r a) this
 .show two (R.r _) (R.sd i).l
def Ĵ.sp(c:m (A<|k+1)=dI)(g:a=i\/a=i+1)(o:b=j\/b=j+1)(d:F (B i)=F (B k))(e:F (B<|k+1)=F (B j))(q:(2*(k+1)+(n-1)*a)%n=b%n):aY F (A a)=aY F (A b):=by rw[<- R.sp0 E g,<- R.sp0 E o,d,(R.cr E hm c).1,jY,kQ,R.mi,R.pA _ _ q,e]
omit hm in
def Ĵ.bq(j:Nat):B j∈cB w h:=by let⟨a,_,_,_,_⟩:=E;show Ep a (R.r<|j+1) (R.sd j).l
omit hm in
def Ĵ.ne{i j:Nat}(e:aC (F<|B i) (B i)=aC (F<|B j) (B j))(q:i%n≠j%n):aI G (B i)≠aI G (B j):=E.rk (R.bq E i) (R.bq E j) e λz=>q<|R.iB _ _ z
def Ĵ.dt(k:m (A i)=dI)(z:i=j+1):decide (dZ (F<|B i)<0)=!decide (dZ (F<|B j)<0):=by subst z;let e:=(R.cr E hm k).2;let⟨_,wf,_,_,_⟩:=E;rw[e,Ao,Du];rcases AH (wf.di<|B j)with⟨a,_⟩|⟨a,_⟩<;>rw[a]<;>rfl
def Ĵ.hi(k:m (A<|j+1)=dI):gQ F G (B j) (B<|j+1)=gQ F G (B<|j+1) (B j):=by
 let d:=R.dt E hm k rfl;let ne:=R.ne E (R.pl E hm k rfl) (by rcases R.n8 with e|e<;>rw[e]<;>lia);ext gQ;rw[d];have:decide (aI G (B j)<aI G (B<|j+1))=!decide (aI G (B<|j+1)<aI G (B j)):=by
  by_cases z:aI G (B<|j+1)<aI G (B j)
  .rw[decide_eq_true z,decide_eq_false ()];rfl
  .rw[decide_eq_false z,decide_eq_true ()];rfl
 rw[this];cases decide (aI G (B<|j+1)<aI G (B j))<;>cases decide (dZ (F<|B j)<0)<;>rfl
def Ĵ.mrk(k:m (A<|j+1)=dI):cK F (aI G) (A<|j+1)=if gQ F G (B j) (B<|j+1)=dI then("v":Str)else("h":Str):=by
 let e:=R.hi E hm k;ext cK;rcases R.sd j with⟨a,b⟩|⟨a,b⟩
 .rw[a,b];rfl
 .rw[e,a,b];rfl
end
section
variable{w h:Int}{F:Int×Int->Ly}{G:Gr}(E:aEn w h F G){A B:Nat->Int×Int}{m:Int×Int->Bool}(hm:xD w h F m)
include E hm
def Ĵ.un8(R:Ĵ w h 8 A B)(v:m (A<|j+1)=b5)(o:m (A<|j+2)=dI)(u:m (A<|j+3)=dI)(x:m (A<|j+4)=b5):gQ F G (B<|j+1) (B<|j+2)=!gQ F G (B<|j+2) (B<|j+3):=by let p:=R.un E hm v rfl;let s:=R.un E hm x rfl;let c:=R.pl E hm o rfl;let g:=R.pl E hm u rfl;let i:=R.sp E hm (a:=j+1) (b:=j+3) (i:=j+1) (j:=j+2) o (.inl rfl) (.inr rfl) rfl rfl ();let k:=R.sp E hm (a:=j+2) (b:=j+4) (i:=j+2) (j:=j+3) u (.inl rfl) (.inr rfl) rfl rfl ();let n:∀{a b:Nat},a%8≠b%8->A a≠A b:=λq z=>q<|R.iA _ _ z;let J:=E.nbF (R.r _) (R.r _) (n ()) i (R.sq (i:=j+1) rfl).sy p.symm (R.sq (i:=j+3) rfl) c.symm<|g.symm.trans c.symm;let K:=E.nbF (R.r _) (R.r _) (n ()) i (R.sq (i:=j+1) rfl).sy p.symm (R.sq (i:=j+3) rfl).sy (g.symm.trans c.symm) c.symm;let L:=E.nbF (R.r _) (R.r _) (n ()) k.symm (R.sq (i:=j+4) rfl) s (R.sq (i:=j+2) rfl) (c.trans g) g;let M:=E.nbF (R.r _) (R.r _) (n ()) k.symm (R.sq (i:=j+4) rfl) s (R.sq (i:=j+2) rfl).sy g<|c.trans g;let y:=R.ne E c ();let H:=R.ne E g ();let I:=R.ne E (c.trans g) ();let e:decide (aI G (B<|j+2)<aI G (B<|j+1))=decide (aI G (B<|j+3)<aI G (B<|j+2)):=decide_eq_decide.mpr ();let d:=R.dt E hm o rfl;ext gQ;rw[e,d];cases decide (aI G (B<|j+3)<aI G (B<|j+2))<;>cases decide (dZ (F<|B<|j+1)<0)<;>rfl
def Ĵ.al8(R:Ĵ w h 8 A B)(N:m (A<|j+1)=dI)(X:m (A<|j+2)=b5)(H:m (A<|j+3)=dI)(I:m (A<|j+4)=dI)(Y:m (A<|j+5)=b5)(O:m (A<|j+6)=dI)(Z:m (A<|j+7)=b5)(m8:m (A<|j+8)=b5):gQ F G (B j) (B<|j+1)=gQ F G (B<|j+5) (B<|j+6):=by
 let c1:A (j+9)=A (j+1):=R.pA _ _ ();let T:B (j+8)=B j:=R.pB _ _ ();let K:B (j+9)=B (j+1):=R.pB _ _ ();let Q:m (A<|j+9)=true:=by rw[c1];show N
 let x:=R.un E hm X rfl;let y:=R.un E hm Y rfl;let p:=R.un E hm Z rfl;let s:=R.un E hm m8 rfl;let p3:=R.pl E hm H rfl;let p4:=R.pl E hm I rfl;let J:=R.pl E hm O rfl;let u:=R.pl E hm Q rfl;let i:∀{a b:Nat},a%8≠b%8->A a≠A b:=λq z=>q<|R.iA _ _ z;let n:=R.sp E hm (a:=j+2) (b:=j+4) (i:=j+2) (j:=j+3) H (.inl rfl) (.inr rfl) rfl rfl ();let g:=R.sp E hm (a:=j+8) (b:=j+2) (i:=j+8) (j:=j+1) Q (.inl rfl) (.inr rfl) rfl (congrArg F K) ();let o:=R.sp E hm (a:=j+3) (b:=j+5) (i:=j+3) (j:=j+4) I (.inl rfl) (.inr rfl) rfl rfl ();let d:=R.sp E hm (a:=j+5) (b:=j+7) (i:=j+5) (j:=j+6) O (.inl rfl) (.inr rfl) rfl rfl ();rw[K]at u;let⟨v,o1⟩:=E.soF (R.r _) (R.r _) (i ()) g (R.sq (i:=j+8) rfl).sy s.symm (R.sq (i:=j+2) rfl) x u;let⟨_,o2⟩:=E.soF (R.r _) (R.r _) (i ()) g.symm (R.sq (i:=j+2) rfl) x (R.sq (i:=j+8) rfl).sy s.symm u.symm;let⟨_,o3⟩:=E.soF (R.r _) (R.r _) (i ()) d (R.sq (i:=j+5) rfl).sy y.symm (R.sq (i:=j+7) rfl) p J;let⟨_,o4⟩:=E.soF (R.r _) (R.r _) (i ()) d.symm (R.sq (i:=j+7) rfl) p (R.sq (i:=j+5) rfl).sy y.symm J.symm;let c:=v.trans p3;let k:=c.trans p4;let x1:=E.nbF (R.r _) (R.r _) (i ()) (g.trans n) (R.sq (i:=j+8) rfl) s (R.sq (i:=j+4) rfl) c.symm k.symm;let x2:=E.nbF (R.r _) (R.r _) (i ()) (g.trans n) (R.sq (i:=j+8) rfl) s (R.sq (i:=j+4) rfl).sy k.symm c.symm;let x3:=E.nbF (R.r _) (R.r _) (i ()) (o.trans d).symm (R.sq (i:=j+7) rfl).sy p.symm (R.sq (i:=j+3) rfl) v.symm c.symm;let x4:=E.nbF (R.r _) (R.r _) (i ()) (o.trans d).symm (R.sq (i:=j+7) rfl).sy p.symm (R.sq (i:=j+3) rfl).sy c.symm v.symm;let n2:=R.ne E v ();let n3:=R.ne E c ();let n4:=R.ne E k ();let n1:=R.ne E u ();let n6:=R.ne E J ();let e:decide (aI G (B<|j+1)<aI G (B j))=!decide (aI G (B<|j+6)<aI G (B<|j+5)):=by rw[<- T,<- decide_not];show decide_eq_decide.mpr ()
 let U:=R.dt E hm N rfl;let L:=R.dt E hm H rfl;let M:=R.dt E hm I rfl;rw[<- x]at L;rw[y]at M;ext gQ;rw[e,M,L,U];cases decide (aI G (B<|j+6)<aI G (B<|j+5))<;>cases decide (dZ (F<|B j)<0)<;>rfl
def Ĵ.tw8(R:Ĵ w h 8 A B)(H:m (A<|j+1)=dI)(L:m (A<|j+2)=b5)(M:m (A<|j+3)=b5)(N:m (A<|j+4)=b5)(p:m (A<|j+5)=dI)(O:m (A<|j+6)=b5)(Q:m (A<|j+7)=b5)(T:m (A<|j+8)=b5):gQ F G (B j) (B<|j+1)=gQ F G (B<|j+4) (B<|j+5):=by
 let K:B (j+8)=B j:=R.pB _ _ ();let s:=R.un E hm L rfl;let n:=R.un E hm M rfl;let d:=R.un E hm N rfl;let o:=R.un E hm O rfl;let u:=R.un E hm Q rfl;let y:=R.un E hm T rfl;let p1:=R.pl E hm H rfl;let v:=R.pl E hm p rfl;let c:∀{a b:Nat},a%8≠b%8->A a≠A b:=λq z=>q<|R.iA _ _ z;let k:=R.sp E hm (a:=j+4) (b:=j+6) (i:=j+4) (j:=j+5) p (.inl rfl) (.inr rfl) rfl rfl ();let i:=R.sp E hm (a:=j+3) (b:=j+7) (i:=j+3) (j:=j+6) p (.inl rfl) (.inr rfl) d o ();let g:=R.sp E hm (a:=j+2) (b:=j+8) (i:=j+2) (j:=j+7) p (.inl rfl) (.inr rfl) (n.trans d) (o.trans u) ();let⟨J,o1⟩:=E.soF (R.r _) (R.r _) (c ()) k (R.sq (i:=j+4) rfl).sy d.symm (R.sq (i:=j+6) rfl) o v;let⟨I,o2⟩:=E.soF (R.r _) (R.r _) (c ()) i (R.sq (i:=j+3) rfl).sy n.symm (R.sq (i:=j+7) rfl) u J;let⟨q1,X⟩:=E.soF (R.r _) (R.r _) (c ()) g (R.sq (i:=j+2) rfl).sy s.symm (R.sq (i:=j+8) rfl) y I;let⟨_,Y⟩:=E.soF (R.r _) (R.r _) (c ()) k.symm (R.sq (i:=j+6) rfl) o (R.sq (i:=j+4) rfl).sy d.symm v.symm;let⟨_,Z⟩:=E.soF (R.r _) (R.r _) (c ()) i.symm (R.sq (i:=j+7) rfl) u (R.sq (i:=j+3) rfl).sy n.symm J.symm;let⟨_,o6⟩:=E.soF (R.r _) (R.r _) (c ()) g.symm (R.sq (i:=j+8) rfl) y (R.sq (i:=j+2) rfl).sy s.symm I.symm;let U:=R.ne E v ();let e:decide (aI G (B<|j+1)<aI G (B j))=!decide (aI G (B<|j+5)<aI G (B<|j+4)):=by rw[<- K,<- decide_not];show decide_eq_decide.mpr ()
 let x:=R.dt E hm H rfl;rw[s,n,d]at x;ext gQ;rw[e,x];cases decide (aI G (B<|j+5)<aI G (B<|j+4))<;>cases decide (dZ (F<|B j)<0)<;>rfl
def Ĵ.tw4(R:Ĵ w h 4 A B)(s:m (A<|j+1)=dI)(u:m (A<|j+2)=b5)(n:m (A<|j+3)=dI)(v:m (A<|j+4)=b5):gQ F G (B j) (B<|j+1)=gQ F G (B<|j+2) (B<|j+3):=by
 let p:B (j+4)=B j:=R.pB _ _ ();let d:=R.un E hm u rfl;let k:=R.un E hm v rfl;let g:=R.pl E hm n rfl;let o:∀{a b:Nat},a%4≠b%4->A a≠A b:=λq z=>q<|R.iA _ _ z;let c:=R.sp E hm (a:=j+2) (b:=j+4) (i:=j+2) (j:=j+3) n (.inl rfl) (.inr rfl) rfl rfl ();let⟨y,o1⟩:=E.soF (R.r _) (R.r _) (o ()) c (R.sq (i:=j+2) rfl).sy d.symm (R.sq (i:=j+4) rfl) k g;let⟨_,o2⟩:=E.soF (R.r _) (R.r _) (o ()) c.symm (R.sq (i:=j+4) rfl) k (R.sq (i:=j+2) rfl).sy d.symm g.symm;let x:=R.ne E g ();let e:decide (aI G (B<|j+1)<aI G (B j))=!decide (aI G (B<|j+3)<aI G (B<|j+2)):=by rw[<- p,<- decide_not];show decide_eq_decide.mpr ()
 let i:=R.dt E hm s rfl;rw[d]at i;ext gQ;rw[e,i];cases decide (aI G (B<|j+3)<aI G (B<|j+2))<;>cases decide (dZ (F<|B j)<0)<;>rfl
end
abbrev A6(a:List Int):Nat:=if a.length=2 then 1 else((ą a.length).map λi=>if oB a i then(if a.length=4 then 2 else 1)else 0).sum
def a1Y:∀a b c d e g h i,j4 (gX [a,b,c,d,e,g,h,i])=dI->2*A6 (gX [a,b,c,d,e,g,h,i])<=(gX [a,b,c,d,e,g,h,i]).length:=by decide +kernel
def a1Z:∀a b c d,j4 (gX [a,b,c,d])=dI->2*A6 (gX [a,b,c,d])<=(gX [a,b,c,d]).length:=by decide +kernel
def a2a m p:(jL m p).length=A6 (iW m p):=by
 let e:=AK m p;ext jL A6;rw[e];by_cases h:(dJ m p).length=2
 .rw[if_pos h,if_pos h];rfl
 .rw[if_neg h,if_neg h,List.length_flatMap];congr 1;show Ť λi _=>?_;ext j6 qT;cases oB (iW m p) i with
  |false=>rfl|true=>
   by_cases a:(dJ m p).length=4
   .rw[if_pos rfl,if_pos a,if_pos rfl,if_pos a];rfl
   .rw[if_pos rfl,if_neg a,if_pos rfl,if_neg a];rfl
def a2b(h:iI m p=b5):2*(jL m p).length<=(dJ m p).length:=by
 let e:=AK m p;rw[a2a,<- e];replace h:j4 (iW m p)=true:=by
  unfold iI at h;cases z:j4 (iW m p)with
  |true=>rfl|false=>rw[z]at h;ext h
 revert h;unfold iW fZ mv;split
 .show a1Y _ _ _ _ _ _ _ _
 .show a1Z _ _ _ _
abbrev fM(bs:List Bool):List Nat:=(ą bs.length).filter λi=>bs.getD i b5
abbrev xE(bs:List Bool)(j:Nat)(s:List Bool):Bool:=(ą s.length).all λi=>bs.getD ((j+1+i)%bs.length) b5==s.getD i b5
abbrev gI(m:Nat->Bool)(n:Nat):Nat->Nat->Nat
 |0,i=>i|j+1,i=>gI m n j<|if m (j+1)then(2*(j+1)+(n-1)*i)%n else i
abbrev Er(bs:List Bool):Bool:=(ą 2).all λi=>gI (λk=>bs.getD (k%bs.length) b5) bs.length bs.length i%bs.length==i
abbrev Es(bs:List Bool):Bool:=
 if(fM bs).length=2 then(ą 8).any λj=>xE bs j [dI,b5,b5,b5,dI,b5,b5,b5]&&((fM bs).getD 0 0==(j+1)%8&&(fM bs).getD 1 0==(j+5)%8)
 else(ą (fM bs).length).all λi=>!oB (gX bs) i ||
  (((ą 8).any λj=>xE bs j [b5,dI,dI,b5]&&((fM bs).getD i 0==(j+2)%8&&(fM bs).getD ((i+1)%(fM bs).length) 0==(j+3)%8)) &&
   (decide (¬ (fM bs).length=4)||(ą 8).any λj=>xE bs j [dI,b5,dI,dI,b5,dI,b5,b5]&&((fM bs).getD ((i+2)%4) 0==(j+6)%8&&(fM bs).getD ((i+3)%4) 0==(j+1)%8)))
abbrev Et(bs:List Bool):Bool:=
 if(fM bs).length=2 then(ą 4).any λj=>xE bs j [dI,b5,dI,b5]&&((fM bs).getD 0 0==(j+1)%4&&(fM bs).getD 1 0==(j+3)%4)
 else(ą (fM bs).length).all λi=>!oB (gX bs) i
def a2c:∀a b c d e g h i,(!Er [a,b,c,d,e,g,h,i]||(j4 (gX [a,b,c,d,e,g,h,i])&&Es [a,b,c,d,e,g,h,i]))=true:=by decide +kernel
def a2d:∀a b c d,(!Er [a,b,c,d]||(j4 (gX [a,b,c,d])&&Et [a,b,c,d]))=true:=by decide +kernel
def a2e{bs:List Bool}(h:bs.length=8):∃a b c d e g k i,bs=[a,b,c,d,e,g,k,i]:=by
 match bs,h with
 |[a,b,c,d,e,g,k,i],_=>show⟨_,_,_,_,_,_,_,_,rfl⟩
def a2f{bs:List Bool}(h:bs.length=4):∃a b c d,bs=[a,b,c,d]:=by
 match bs,h with
 |[a,b,c,d],_=>show⟨_,_,_,_,rfl⟩
def Mm m l:l.filter m=(fM<|l.map m).map (cM l):=by
 let e:l=(ą l.length).map (cM l):=by show Oh (by rw[Ã,ou]) λi h1 b=>?_;rw[List.getElem_map,List.getElem_range];ext cM;rw[za h1,υ,ā h1];rfl
 let a:l.filter m=((ą l.length).filter<|m∘cM l).map (cM l):=by rw[<- zg,<- e]
 rw[a];ext fM;rw[Ã];congr 1;show OY λi hi=>?_;let hi:=Ō.mp hi;change m (cM l i)=_;ext cM;rw[za hi,υ,υ,ÿ,ā hi];rfl
def Eu(h:x=y):y=(x==dI):=by rw[h];ext y<;>rfl
def a2g:∀w∈[(1:Int),2,3],∀h∈[(1:Int),2,3],(eB w h).length<=13:=by decide +kernel
def Mn b:f9 (if b=dI then("v":Str)else("h":Str))=if b then 1 else 0:=by ext b<;>decide +kernel
section
variable{w h:Int}{F:Int×Int->Ly}{G:Gr}(E:aEn w h F G){m:Int×Int->Bool}(hm:xD w h F m)
include E hm
def Ĵ.walk(R:Ĵ w h n A B):∀j i,aC (F<|B j) (A i)=aC (F<|B 0) (A<|gI (λk=>m<|A k) n j i)
 |0,_=>rfl|j+1,i=>by
  ext gI;cases k:m (A<|j+1)with
  |true=>rw[(R.cr E hm k).2,jY,kQ,R.mi,if_pos rfl,R.pA (2*(j+1)+(n-1)*i) _ (rT _ _).symm];show Ĵ.walk R j _|false=>rw[<- R.un E hm k rfl,if_neg ø,Ĵ.walk R j]
def Ĵ.lead(R:Ĵ w h n A B)i:gI (λk=>m<|A k) n n i%n=i%n:=by let e:=R.walk E hm n i;let⟨_,wf,_,_,_⟩:=E;rw[R.pB n 0<|by rw[Nat.mod_self,Nat.zero_mod]]at e;show(R.iA _ _<|a9T λz=>xB (wf.di<|B 0) z e).symm
variable{c:Int×Int}(hw:1<=w/\w<=3)(hh:1<=h/\h<=3)(hc:c∈eB w h)
include hw hh hc
def Ew:j4 (iW m c)=dI/\(((bU c).length=8/\Es ((bU c).map m)=dI)\/((bU c).length=4/\Et ((bU c).map m)=dI)):=by
 let R:=Mj hw hh hc;let n:Er ((bU c).map m)=true:=ϸ.mpr λi hi=>by
  let hi:=Ō.mp hi;let e:(λk=>((bU c).map m).getD (k%((bU c).map m).length) b5)=λk=>m (cM (bU c) k):=funext λk=>by have:k%(bU c).length<(bU c).length:=ξ _ (by rcases R.n8 with e|e<;>lia);rw[Ã];ext cM;rw[υ,υ,ÿ,ā this];rfl
  rw[e,Ã,R.lead E hm i,beq_iff_eq,za<|by rcases R.n8 with e|e<;>lia]
 change j4 (gX<|(bU c).map m)=dI/\_;rcases R.n8 with e|e
 .let⟨b,d,g,j,o,p,q,s,a⟩:=a2e (bs:=(bU c).map m) (by rw[Ã,e]);let t:=a2c b d g j o p q s;rw[<- a,n,gf,yu,ó]at t;show⟨t.1,.inl ⟨e,t.2⟩⟩
 .let⟨b,d,g,j,a⟩:=a2f (bs:=(bU c).map m) (by rw[Ã,e]);let t:=a2d b d g j;rw[<- a,n,gf,yu,ó]at t;show⟨t.1,.inr ⟨e,t.2⟩⟩
abbrev Mo(F:Int×Int->Ly)(G:Gr)(t:Ti):Prop:=∃p q a c,t=oA p q a c/\(f9 (cK F (aI G) p)+f9 (cK F (aI G) q)+qX a)%2=0
omit E hm hw hh hc in
def a2h{i:Nat}(hi:i<(dJ m c).length):(dJ m c).getD i (0,0)=cM (bU c) ((fM<|(bU c).map m).getD i 0):=by let e:dJ m c=(fM<|(bU c).map m).map (cM<|bU c):=Mm m<|bU c;rw[e]at hi ⊢;rw[Ã]at hi;rw[υ,υ,ÿ,ā hi];rfl
def a2i(o:t∈jL m c):Mo F G t:=by
 let R:=Mj hw hh hc;let⟨_,k⟩:=Ew E hm hw hh hc;let I:iW m c=gX ((bU c).map m):=rfl;let v:(dJ m c).length=(fM<|(bU c).map m).length:=by let e:dJ m c=(fM<|(bU c).map m).map (cM<|bU c):=Mm m<|bU c;rw[e,Ã]
 let g:∀{j i:Nat}{s:List Bool},xE ((bU c).map m) j s=dI->i<s.length->m (cM (bU c)<|j+1+i)=s.getD i false:=λ{j i s} h hi=>by have:=beq_iff_eq.mp<|ϸ.mp h i<|Ō.mpr hi;rw[<- this];let O:(j+1+i)%(bU c).length<(bU c).length:=ξ _ (by rcases R.n8 with e|e<;>lia);rw[Ã];ext cM;rw[υ,υ,ÿ,ā O];rfl
 let fin:∀{i j:Nat}{p q:Int×Int}{a b:Bool},p=cM (bU c) (i+1)->q=cM (bU c) (j+1)->m (cM (bU c)<|i+1)=dI->m (cM (bU c)<|j+1)=dI->gQ F G (cM (jO c) i) (cM (jO c)<|i+1)=b->gQ F G (cM (jO c) j) (cM (jO c)<|j+1)=(b==a)->Mo F G (oA p q a c):=λ{i j p q a b} K L M N h1 u=>by show⟨p,q,a,c,rfl,?_⟩;rw[K,L,R.mrk E hm M,R.mrk E hm N,Mn,Mn,h1,u];ext a<;>ext b<;>rfl
 let at_:∀{i j n:Nat},(bU c).length=n->i<(dJ m c).length->(fM<|(bU c).map m).getD i 0=j%n->(dJ m c).getD i (0,0)=cM (bU c) j:=λ{i j n} e hi h=>by rw[a2h hi,h,<- e];show oG _<|rT _ _
 rcases k with⟨e,k⟩|⟨e,k⟩
 .let H:Ĵ w h 8 (cM<|bU c) (cM<|jO c):=e▸R;unfold Es at k;unfold jL at o;by_cases u:(dJ m c).length=2
  .rw[if_pos u,Ĕ]at o;rw[if_pos<|v▸u]at k;let⟨j,_,k⟩:=oh.mp k;dsimp[ó,beq_iff_eq]at k;let⟨d,y,x⟩:=k;rw[o];show fin (i:=j) (j:=j+4) (at_ e () y) (at_ e () x) (g d (i:=0) ⋯) (g d (i:=4) ⋯) rfl<|Eu<|H.tw8 E hm (j:=j) (g d (i:=0) ⋯) (g d (i:=1) ⋯) (g d (i:=2) ⋯) (g d (i:=3) ⋯) (g d (i:=4) ⋯) (g d (i:=5) ⋯) (g d (i:=6) ⋯)<|g d (i:=7) ⋯
  .rw[if_neg u]at o;rw[if_neg λz=>u<|v.trans z]at k;let⟨i,hi,o⟩:=j0.mp o;let hi:=Ō.mp hi;let k:=ϸ.mp k i<|Ō.mpr<|v▸hi;unfold j6 at o;rw[I]at o;cases A:oB (gX<|(bU c).map m) i with
   |false=>rw[A]at o;ext o|true=>
    rw[A,gf,yu,ó]at k;rw[A,if_pos rfl]at o;let⟨k,l⟩:=k;rcases Č.mp o with o|o
    .let⟨j,_,k⟩:=oh.mp k;dsimp[ó,beq_iff_eq]at k;let⟨d,y,x⟩:=k;rw[<- v]at x;rw[o];show fin (i:=j+1) (j:=j+2) (at_ e hi y) (at_ e (ξ _ ()) x) (g d (i:=1) ⋯) (g d (i:=2) ⋯) (H.un8 E hm (j:=j) (g d (i:=0) ⋯) (g d (i:=1) ⋯) (g d (i:=2) ⋯)<|g d (i:=3) ⋯)<|by cases gQ F G (cM (jO c)<|j+2) (cM (jO c)<|j+2+1)<;>rfl
    .by_cases B:(dJ m c).length=4
     .rw[if_pos B,Ĕ]at o;rw[decide_eq_false λz=>z<|v▸B,yu]at l;let⟨j,_,k⟩:=oh.mp l;dsimp[ó,beq_iff_eq]at k;let⟨d,y,x⟩:=k;rw[o];show fin (i:=j+5) (j:=j) (at_ e (by rw[B];show ξ _ ⋯) y) (at_ e (by rw[B];show ξ _ ⋯) x) (g d (i:=5) ⋯) (g d (i:=0) ⋯) rfl<|Eu (H.al8 E hm (j:=j) (g d (i:=0) ⋯) (g d (i:=1) ⋯) (g d (i:=2) ⋯) (g d (i:=3) ⋯) (g d (i:=4) ⋯) (g d (i:=5) ⋯) (g d (i:=6) ⋯)<|g d (i:=7) ⋯).symm
     .rw[if_neg B]at o;ext o
 .let J:Ĵ w h 4 (cM<|bU c) (cM<|jO c):=e▸R;unfold Et at k;unfold jL at o;by_cases u:(dJ m c).length=2
  .rw[if_pos u,Ĕ]at o;rw[if_pos<|v▸u]at k;let⟨j,_,k⟩:=oh.mp k;dsimp[ó,beq_iff_eq]at k;let⟨d,y,x⟩:=k;rw[o];show fin (i:=j) (j:=j+2) (at_ e () y) (at_ e () x) (g d (i:=0) ⋯) (g d (i:=2) ⋯) rfl<|Eu<|J.tw4 E hm (j:=j) (g d (i:=0) ⋯) (g d (i:=1) ⋯) (g d (i:=2) ⋯)<|g d (i:=3) ⋯
  .rw[if_neg u]at o;rw[if_neg λz=>u<|v.trans z]at k;let⟨i,hi,o⟩:=j0.mp o;let k:=ϸ.mp k i<|Ō.mpr<|v▸Ō.mp hi;unfold j6 at o;rw[I]at o;cases A:oB (gX<|(bU c).map m) i with
   |false=>rw[A]at o;ext o|true=>rw[A]at k;ext k
end
section
variable{w h:Int}{F:Int×Int->Ly}{G:Gr}(E:aEn w h F G)(hw:1<=w/\w<=3)(hh:1<=h/\h<=3){ms:List ((Int×Int)×Str)}(hm:xD w h F (bG ms))
include E hw hh hm
def a2j:(eB w h).find? (iI<|bG ms)=none:=Y0.mpr λc hc=>by ext iI;rw[(Ew E hm hw hh hc).1];show ø
def a2k:(j7 (bG ms) w h).length<64:=by
 let l:∀a:jq,(∀c∈a,c∈eB w h)->(a.flatMap<|jL<|bG ms).length<=4*a.length:=λa=>by
  induction a with
  |nil=>show λ_=>Ø _|cons c a e=>intro hc;let h1:=e λx d=>hc x<|.tail _ d;let g:=a2b (m:=bG ms) (p:=c) (by ext iI;rw[(Ew E hm hw hh<|hc c<|.head _).1];rfl);let i:=AL (bG ms) c;rw[OZ,ć,Ŋ];lia
 let b:(eB w h).length<=13:=a2g w (qQ hw) h<|qQ hh;have:=l _ λ_ h=>h;ext j7;lia
def Mp:Ei (TT ms w h) λe=>f9 (cK F (aI G) e):=λs i=>by
 let⟨t,d,rfl⟩:=Õ.mp i;let⟨c,hc,d⟩:=j0.mp<|tT d;let⟨p,q,a,k,rfl,b⟩:=a2i E hm hw hh hc d;change(f9 (cK F (aI G)<|fH p q)+f9 (cK F (aI G)<|fI p q)+qX a)%2=0;ext fH fI;cases g:HT.lexLt (dH q) (dH p)with
 |true=>rw[LM g,if_pos rfl,if_neg ø,Pm<|f9 _];show b|false=>
  rw[if_neg ø];cases j:HT.lexLt (dH p) (dH q)with
  |true=>rw[if_pos rfl];show b|false=>rw[if_neg ø];cases LN j g;show b
end
section
variable{w h:Int}{F:Int×Int->Ly}{μ:Hm}{a b:Nat}{Z:Zr}
inductive PU (a b:Nat)(w h:Int)(r l0 l:Nat)(ν:Hm)(es:jq)(v:Int×Int->Str)(i:Nat):aG->Hm->Prop
 |mk {x6 x7 x8 x9 ww Nc Nb Na x14 x15:Option D}{μ:Hm}(p:ν<+:μ)(g:μ[l0]?=b3 (.lst<|((es.take i).map λe=>(e,v e)).map MD))(gl:μ[l]?=b3 (.lst<|es.map PP)):PU a b w h r l0 l ν es v i [b3<|.loc a,b3<|.loc b,b3<|.int w,b3<|.int h,b3<|.loc r,b3<|.loc l0,x6,x7,x8,x9,ww,Nc,Nb,Na,x14,x15] μ
def a2l k(U:(w,h)∈gP)(nd:(cB w h).Nodup)(hF:∀q,Ě (F q))(T:μ[a]?=b3 (.dT<|bT (λq=>LD<|F q)<|cB w h))(I:HI μ b Z)(hb:μ[b]?=b3 (.dT<|bA Z))(P:ī (cB w h) (λq=>aC (F q) q) (GZ Z))(Q:jz)(H:∀c u,μ<+:u->u[c]?=b3 (.lst<|(AM w h F<|aI<|GZ Z).map MD)->Q (.loc c,u)):W (f (k+3) "_law_marks" [.loc a,.loc b,.int w,.int h] μ) Q:=by
 let⟨_,_,X,_,_,J,_,fr⟩:=gZ _ U;replace X:(cB w h).length<=48:=X;replace J:(bH w h).length<=64:=J;let L:=P.flat nd;let v:(flat<|GZ Z).Nodup:=L.nodup_iff.mpr nd;show Ð (Yv (k+2) _ _ _ _ μ) (bD<|aS rfl<|a0k (k+1) nd () I hb P _ λr g K g1=>bD<|é.mpr ⟨_,rfl,ĸ _,fU<|É.mpr<|Ó.mpr<|aS rfl<|a0i k U nd (λ_ z=>z) (aD (K.trans<|aR _ _) T) _ λl A p2 gl=>(eE gl).mpr ?_⟩);let q2:g<+:A:=(aR _ _).trans p2;let o:A[g.length]?=b3 (.lst []):=aD p2<|bE _ _;let lc:g.length≠l\/oD w h F=[]:=by
  by_cases e:g.length=l
  .rw[e,gl]at o;show .inr<|by apply o
  .show .inl e
 let cl:(oD w h F).length<=64:=Ģ (Ž _ _) J;show jD (PU a b w h r g.length l g (oD w h F)<|cK F<|aI<|GZ Z) (.mk q2 o gl) (by rintro _ _ _ ⟨_,_,z⟩;show z) ?_ ?_
 .rintro i d O M hd ⟨x,E,g5⟩;let⟨e,G,rfl⟩:=nD hd;let ne:g.length≠l:=lc.resolve_right λz=>by rw[z]at G;ext G
  let⟨_,Y,m2,_⟩:=fr e (Ī.mp<|ķ G).1;let lt:=ig i<|oD w h F;show⟨_,rfl,Æ.mpr (ĝ.mpr<|aS rfl<|KU (k+1) e _ _ λc N y g6=>(Je g6).mpr<|Æ.mpr<|ĝ.mpr<|aP rfl rfl<|(fY (.inl<|aD (K.trans<|x.trans y) T) (b8 _)<|iV nd Y).mpr<|Ŕ.mpr ?_) ⟩;let R:=aD (x.trans y) g1;let n:=aD y E;let⟨h1,h2,_,_⟩:=(hF<|sA e).sm;show bD<|aO<|aP rfl rfl<|(fY (.inl R) (b8 _)<|iV v<|L.mem_iff.mpr Y).mpr<|aP rfl rfl<|(fY (.inl R) (b8 _)<|iV v<|L.mem_iff.mpr m2).mpr<|Ň.mpr ?_;show í.mpr<|jE ⟨_,rfl,iF n,aQ<|â.mpr<|aQ ⟨_,rfl,aQ<|Ĝ.mpr<|cZ<|aO ⟨_,rfl,aO<|aO<|aP rfl rfl<|(l6 h1).mpr<|aP rfl rfl<|(l6 h2).mpr<|Ū.mpr ⟨_,rfl,ņ.mpr<|ŭ.mpr ⟨_,rfl,?_⟩⟩⟩⟩⟩;let B:cK F (aI<|GZ Z) e=if(decide (aI (GZ Z) (sB e)<aI (GZ Z) (sA e))==decide ((F<|sA e).a*(F<|sA e).d-(F<|sA e).b*(F<|sA e).c<0))=dI then("v":Str)else("h":Str):=rfl
  let j:∀{s:Str},s=cK F (aI<|GZ Z) e->W (eV (.loc g.length) [.tup [PP e,.str s]] N) λp=>PU a b w h r g.length l g (oD w h F) (cK F<|aI<|GZ Z) (i+1) [b3<|.loc a,b3<|.loc b,b3<|.int w,b3<|.int h,b3<|.loc r,b3<|.loc g.length,b3<|PP e,b3<|PP<|sA e,b3<|PP<|sB e,b3<|.int (F<|sA e).a,b3<|.int (F<|sA e).b,b3<|.int (F<|sA e).c,b3<|.int (F<|sA e).d,b3<|.int (F<|sA e).e,b3<|.int (F<|sA e).g,b3<|.bl<|decide<|aI (GZ Z) (sB e)<aI (GZ Z) (sA e)] p.2:=λ{s} es=>by show(mW n<|by rw[Ã,Ã,ò];lia).mpr<|.mk (cX (x.trans y) (Ø _) _) ?_<|(ô ne).trans<|aD y g5;rw[cS n,jK G,ă,ă,es];rfl
  cases hc:decide (aI (GZ Z) (sB e)<aI (GZ Z) (sA e))==decide ((F<|sA e).a*(F<|sA e).d-(F<|sA e).b*(F<|sA e).c<0)with
  |true=>rw[hc,if_pos rfl]at B;show(if_pos rfl).mpr ⟨_,rfl,_,rfl,gN,_,rfl,j B.symm⟩|false=>rw[hc,if_neg ø]at B;show(if_neg ø).mpr ⟨_,rfl,_,rfl,gN,_,rfl,j B.symm⟩
 .rintro O M ⟨x,E,_⟩;rw[Ã,ź]at E;show⟨rfl,cI ⟨_,rfl,H _ _ (K.trans x) E⟩⟩
inductive PQ (l:Nat)(ns:List Int)(sh:Int)(l0:Nat)(ν:Hm)(T:List ((Int×Int)×Str))(i:Nat):aG->Hm->Prop
 |mk {x4 x5 x6:Option D}{μ:Hm}{S:List ((Int×Int)×Str)}(p:ν<+:μ)(g:μ[l0]?=b3 (.lst<|S.map MD))(e:S.map (·.1)=(T.take i).map (·.1))(ok:∀m∈S,m.2="o"\/m∈T):PQ l ns sh l0 ν T i [b3<|.loc l,b3<|.rol<|ns.map D.int,b3<|.loc l0,b3<|.int sh,x4,x5,x6] μ
def a2m k(ns:List Int){T:List ((Int×Int)×Str)}(O:T.length<=64)(gl:μ[l]?=b3 (.lst<|T.map MD))(Q:jz)(H:∀c (S:List ((Int×Int)×Str)) μ',μ<+:μ'->μ'[c]?=b3 (.lst<|S.map MD)->S.map (·.1)=T.map (·.1)->(∀m∈S,m.2="o"\/m∈T)->Q (.loc c,μ')):W (f (k+3) "_law_opened" [.loc l,.rol<|ns.map D.int] μ) Q:=by
 show Ð (Yw (k+2) _ _ μ) (bD<|é.mpr ⟨_,rfl,ĸ _,bD<|aO<|aS rfl<|AA k ns 1 ⋯ _ _ λv L _ _ y=>⟨_,rfl,(iE ⋯).mpr<|fU<|É.mpr<|Ó.mpr ⟨_,rfl,(eE<|aD ((aR _ _).trans y) gl).mpr ?_⟩⟩⟩);generalize v%11=sh;show jD (PQ l ns sh μ.length μ T) (.mk (S:=[]) ((aR _ _).trans y) (aD y<|bE _ _) rfl λ_ z=>nomatch z) (by rintro _ _ _ ⟨p,_⟩;show aD p gl) ?_ ?_
 .rintro i d G o hd ⟨A,j,g,ok⟩;rename_i S;let⟨m,I,rfl⟩:=DU hd;let N:S.length<=64:=by have:=congrArg İ g;rw[Ã,Ã,Ι]at this;lia
  let e:∀{s:Str}{E:Hm}{J:Option D},(s="o"\/(m.1,s)∈T)->o<+:E->W (eV (.loc μ.length) [.tup [PP m.1,.str s]] E) λp=>PQ l ns sh μ.length μ T (i+1) [b3<|.loc l,b3<|.rol<|ns.map D.int,b3<|.loc μ.length,b3<|.int sh,b3<|PP m.1,b3<|.str m.2,J] p.2:=λ{s E J} K p=>by
   let q:=aD p j;show(mW q<|by rw[Ã,ò];lia).mpr<|.mk (S:=S++[(m.1,s)]) (cX (A.trans p) (Ø _) _) ?_ ?_ λx n=>?_
   .rw[cS q,ă];rfl
   .rw[ă,g,jK I,ă];rfl
   .rcases ĩ.mp n with n|n
    .show ok x n
    .rw[Ĕ.mp n];show K
  show⟨_,rfl,bD<|dG<|aQ ⟨_,rfl,aQ<|aP rfl (eL<|aS rfl<|(jF j).mpr rfl)<|Û.mpr ⟨_,rfl,?_⟩⟩⟩;rw[Ã];show AA k ns _ () _ _ λu M _ _ B=>?_;let q:=aD B j;show í.mpr (jE ⟨_,rfl,iF q,aQ<|â.mpr<|aQ ⟨_,rfl,aQ (Ĝ.mpr<|cZ<|aO<|aO<|aP rfl rfl<|(sG ⋯<|by decide).mpr ⟨_,rfl,(iE ⋯).mpr ⟨_,rfl,ņ.mpr ⟨_,rfl,?_⟩⟩⟩) ⟩⟩);cases decide (u/8%10<sh)with
  |true=>show(if_pos rfl).mpr ⟨_,rfl,_,rfl,gN,_,rfl,e (.inr<|ķ I) B⟩|false=>show(if_neg ø).mpr ⟨_,rfl,_,rfl,gN,_,rfl,e (.inl rfl) B⟩
 .rintro G o ⟨A,j,g,ok⟩;rw[Ã,ź]at g;show⟨rfl,cI ⟨_,rfl,H _ _ _ A j g ok⟩⟩
end
def Ex{f:a->b3e b}:∀t,lO ans (t.bind f)=lO ans (f<|lO ans t)
 |.ret _=>rfl|.ask i j k=>Ex<|k<|ans i j
def Mq p:∀f m,(∀j,m<=j->j<m+f->ans (p.getD j 0) (p.getD (j-1) 0)=b5)->lO ans (Oo p f m)=m+f
 |0,_,_=>rfl|f+1,m,h=>by change lO ans (if ans (p.getD m 0) (p.getD (m-1) 0)=dI then yf m else Oo p f (m+1))=_;rw[if_neg<|by rw[h m (Ø _) ()];show ø,Mq p f (m+1) λj h1 a=>h j () ()];lia
def a2n(h:∀j,1<=j->j<n->ans j (j-1)=b5):c5 ans n=ą n:=by
 cases n with
 |zero=>show List.eq_nil_of_length_eq_zero (by rw[(jS ans 0).length_eq];rfl)|succ n=>
  let g:∀j,j<n+1->(ą<|n+1).toArray.getD j 0=j:=λj a=>by rw[Array.getD_eq_getD_getElem?,Rg,RP a];rfl
  let e:lO ans (Oo (ą<|n+1).toArray n 1)=n+1:=by rw[Mq _ n 1 λj h1 b=>by rw[g j (),g (j-1) ()];show h j h1 (),Nat.add_comm]
  let c:lO ans (RY (n+1) (ą<|n+1).toArray)=(n+1,(ą<|n+1).toArray):=by ext RY;rw[Ex,show n+1-1=n from rfl,e,if_pos<|beq_self_eq_true _];rfl
  ext c5 PySem.W.kas_sort;rw[Ex,c,if_neg<|γ _];rfl
def a2o(h:(ps.map aV).Pairwise λx y=>HT.lexLt x y=dI):kU ps=ps:=by
 ext kU;rw[a2n λj h1 c=>?_,DB];let a:j<(ps.map aV).length:=by rw[Ã];show c
 let b:j-1<(ps.map aV).length:=()
 rw[υ,υ,ā a,ā b];show Za<|uz.mp h (j-1) j b a ()
def a2p k(hsz:(w,h)∈gP){S:List ((Int×Int)×Str)}(I:S.length<64)(up:((S.map (·.1)).map aV).Pairwise λx y=>HT.lexLt x y=dI)(B:∀p∈S,p.1∈bH w h)(ok:∀p∈S,DY p.2){c:Hm}(v:c[a]?=b3 (.lst<|S.map MD))(Q:jz)(H:∀b,c<+:b->Q (SH w h S,b)):W (f (k+4) "sheet_of" [.int w,.int h,.loc a] c) Q:=by
 let F:=gZ _ hsz;let nd:=AU up;show Ð (Xz (k+3) _ _ _ c)<|An<|aS rfl<|a0x k F.1 F.2.1 _ _<|bD<|ã.mpr<|fU<|É.mpr<|Ó.mpr ⟨_,rfl,(eE<|aD (aR _ _) v).mpr ?_⟩;show jD (λi j b=>∃x y,j=[b3<|.int w,b3<|.int h,b3<|.loc a,b3<|.loc c.length,x,y]/\c<+:b/\b[c.length]?=b3 (.dT<|bT (uO S)<|(S.take i).map (·.1)))
  ⟨b4,b4,rfl,aR _ _,by rw[nj];show bE _ _⟩ (by rintro _ _ _ ⟨_,_,_,p,_⟩;show aD p v) ?_ ?_
 .rintro i d j b hd ⟨x,y,rfl,u,n⟩;let⟨p,s,rfl⟩:=DU hd;let g:p∈S:=ķ s;let⟨G,_,_,z,A⟩:=F.2.2.2.2.2.2.2 p.1<|B p g;let o:p.1∉(S.take i).map (·.1):=by rw[yw];show qR nd<|by rw[ÿ,s];rfl
  let E:(bT (uO S)<|(S.take i).map (·.1)).length<Ò:=by rw[Ã,Ã,Ι,ò];lia
  show⟨_,rfl,bD<|aP rfl rfl<|ğ.mpr<|sJ<|sL<|gW<|aS rfl<|a0z k G z A _ _ ⟨rfl,rfl,nX<|sJ<|sL<|gW<|dG<|aQ<|aP rfl rfl<|ú.mpr ⟨_,rfl,a0y (k+2) (ok p g) _ _ ⟨rfl,rfl,nX<|sJ<|cZ<|aP rfl rfl<|(uF n<|b8 p.1).mpr ?_⟩⟩⟩⟩;rw[DI o];show⟨_,rfl,rfl,nX<|ĉ.mpr<|aP rfl rfl<|ú.mpr ⟨_,rfl,_,rfl,(lW n (b8 p.1) E).mpr ⟨_,_,rfl,cX u (Ø _) _,?_⟩⟩⟩;rw[cS n,<- DZ nd g,DJ o,jK s,ă];rfl
 .rintro j b ⟨x,y,rfl,u,n⟩;rw[Ã,ź]at n;let e:zF (.loc c.length) b=b3 (.tup<|S.map MD,b):=by
   dsimp[zF,n];rw[if_pos<|by first|show trivial|(rw[Ã,Ã];lia),Ka,a2o up];ext bT;rw[å,å];have:S.map ((zE∘λq=>(aV q,uO S q))∘λx=>x.1)=S.map MD:=Ť λp s=>by change D.tup [.tup<|(aV p.1).map D.int,uO S p.1]=MD p;rw[DZ nd s];rfl
   rw[this]
  show⟨rfl,cI<|â.mpr<|aQ ⟨_,rfl,aQ ⟨_,rfl,aQ<|Ä.mpr ⟨_,rfl,_,e,_,rfl,by change(3:Nat)<=Ò;decide,H _ u⟩⟩⟩⟩
def a2q k{qs:jq}(nd:qs.Nodup)(L:qs.length<=36)(E:∀q,Ě (F q))(s:row.Perm qs){S:List ((Int×Int)×Str)}(M:S.length<=48)(G:∀p∈S,PY qs F p.1)(J:o[a]?=b3 (.dT<|bT (λq=>LD<|F q) row))(I:HI o b Z)(A:o[b]?=b3 (.dT<|bA Z))(P:ī qs (λq=>aC (F q) q) (GZ Z))(K:∀p∈S,p.2="o"\/p.2=cK F (aI<|GZ Z) p.1)(Q:jz)(H:∀d,o<+:d->Q (.bl dI,d)):W (f (k+6) "keeps" [SH w h S,.loc a,.loc b] o) Q:=by
 show Ð (XW (k+5) _ _ _ o)<|fU<|É.mpr<|Xf<|aQ<|aP rfl rfl<|Ŭ.mpr<|aQ<|aS rfl<|K7 (w:=w) (h:=h) k nd L E s M G J I A P _ λc g N _ B=>⟨_,rfl,c,S.map MD,_,rfl,B,?_⟩;rw[Ã,Ã,Ã,Po];let u:∀d,g<+:d->∀i,jU (.tup<|S.map MD) (.loc c) d i=b3 ((S[i]?).map λp=>.tup [MD p,MD (p.1,cK F (aI<|GZ Z) p.1)]):=λd v i=>by dsimp[jU,bO,aD v B,ē,ė];rw[å,ÿ,ÿ];cases S[i]?<;>rfl
 show nV (N:=S.length) (λi j d=>(∃x y,j=[b3<|SH w h S,b3<|.loc a,b3<|.loc b,x,y])/\g<+:d) (λi j d hi ⟨⟨x,y,z⟩,n⟩=>?_) (λj d ⟨⟨x,y,z⟩,n⟩=>?_) S.length 0 _ g (Pr _) ⟨⟨b4,b4,rfl⟩,ď _⟩
 .subst z;let e:S[i]?=b3 S[i]:=ā hi;let v:=K _<|iz hi;generalize S[i]=p at e v;show⟨.tup [MD p,MD (p.1,cK F (aI<|GZ Z) p.1)],[b3<|SH w h S,b3<|.loc a,b3<|.loc b,b3<|MD p,b3<|MD (p.1,cK F (aI<|GZ Z) p.1)],(u d n i).trans<|by rw[e];rfl,rfl,Ñ.mpr<|Ğ.mpr<|cZ<|aP (x:=.str p.2) (eL<|aP rfl rfl<|ú.mpr rfl) rfl ⟨_,uU dI _ _ _,_,rfl,?_⟩⟩;cases A:p.2==("o":Str)with
  |true=>show gO rfl (gO rfl<|Ì.mpr ⟨⟨_,_,rfl⟩,n⟩)|false=>show kW rfl<|cZ<|aP (x:=.str p.2) (y:=.str (cK F (aI<|GZ Z) p.1)) (eL<|aP rfl rfl<|ú.mpr rfl) (eL<|aP rfl rfl<|ú.mpr rfl) ⟨_,uU dI _ _ _,_,rfl,gO ?_<|Ì.mpr ⟨⟨_,_,rfl⟩,n⟩⟩;rw[v.resolve_left<|beq_eq_false_iff_ne.mp A];show congrArg not<|beq_self_eq_true _
 .subst z;show⟨(u d n _).trans<|by rw[cj<|Ø _];rfl,rfl,cI ⟨_,rfl,H _<|N.trans n⟩⟩
def a2r:∀w∈[(1:Int),2,3],∀h∈[(1:Int),2,3],(bH w h).length<=48/\(cB w h).length<=36:=by decide +kernel
def Mr a n:∀T:jq,lE (eI (n+3) a) (T.map PP) (T.map PP)=b3 dI
 |[]=>rfl|p::T=>by let e:eI (n+3) a (PP p) (PP p)=b3 (p.1==p.1&&(p.2==p.2&&dI)):=rfl;change(eI (n+3) a (PP p)<|PP p).bind (λb=>(lE (eI (n+3) a) (T.map PP)<|T.map PP).map λc=>b&&c)=_;rw[e,Mr a n T,beq_self_eq_true,beq_self_eq_true];rfl
def a2s{T:jq}{Q:jz}(g:c[a]?=b3 (.lst<|T.map PP))(i:c[b]?=b3 (.lst<|T.map PP))(H:Q (.bl b5,c)):W (aZ dI (.loc a) (.loc b) c) Q:=by
 let d:∀{x:Nat}{xs:List D},c[x]?=b3 (.lst xs)->kI c (.loc x)=b3 (.lst xs):=λh=>by dsimp[kI,h]
 let e:eI 8 c (.loc a) (.loc b)=b3 true:=by change(kI c<|.loc a).bind (λu=>(kI c<|.loc b).bind λv=>vC (eI 7 c) u v)=_;rw[d g,d i];show Mr c 4 T
 ext aZ;rw[e];show À.mpr H
def Ms{c:Hm}{T:List ((Int×Int)×Str)}(h:e[n]?=b3 (b3<|.loc a))(j:e.length=17)(o:T.length<=64)(g:c[a]?=b3 (.lst<|T.map MD))(Q:jz)(H:∀b μ',c<+:μ'->μ'[b]?=b3 (.lst<|(T.map (·.1)).map PP)->Q (.loc b,μ')):W (gU (pU 2) (cQ<|aE n) fD (aE 17) e c) Q:=by
 let v:aE n e c=b3 (.loc a,c):=by ext aE;rw[h]
 show Aj (xs:=T.map MD) (x:=λd=>[b3<|sT d,b3<|DX d]) (p:=λ_=>dI) (v:=sT)<|Ó.mpr ⟨_,v,(eE g).mpr ⟨mV g,rfl,by rw[Ã,ò];lia,λd μ' hd=>?_,λd μ' hd k=>ù.mpr ⟨rfl,ď _⟩,λd μ' hd _ k=>?_,λμ' p i=>?_⟩⟩
 .let⟨m,_,rfl⟩:=Õ.mp hd;rfl
 .show⟨(sT d,μ'),?_,rfl,ď _⟩;ext aE;rw[jb (),j];rfl
 .show H _ _ p ?_;rw[i,zr.mpr λ_ _=>rfl,å,å];rfl
def a2t x y z a:eD dI (.str x) (.tup [.str y,.str z]) a=b3 (.bl<|!(y==x||(z==x||false)),a):=""
abbrev iY(v:Int×Int->Str)(S:List ((Int×Int)×Str)):List ((Int×Int)×Str):=S.map λm=>(m.1,v m.1)
inductive Sx (S ds:List (Option D))(l:Nat)(ν:Hm)(M:List ((Int×Int)×Str))(i:Nat):aG->Hm->Prop
 |mk {x9 ww:Option D}{μ:Hm}(p:ν<+:μ)(g:μ[l]?=b3 (.dT<|cW<|M.take i)):Sx S ds l ν M i (S++b3 (.loc l)::x9::ww::ds) μ
def a2u k(ns:List Int)μ:W (f (k+11) "law" [.rol<|ns.map D.int] μ) λr=>r.1=.bl true:=by
 show Ð (Yx (k+10) _ μ) (bD<|aS rfl<|AA (k+8) ns 0 ⋯ _ _ λv μ1 _ _ p1=>bD<|aO ⟨_,rfl,aP rfl rfl<|(iE ⋯).mpr<|Û.mpr<|bD<|aO ⟨_,rfl,aO<|aP rfl rfl<|(sG ⋯<|by decide).mpr ⟨_,rfl,(iE ⋯).mpr<|Û.mpr ?_⟩⟩⟩);let hw:1<=1+v%3/\1+v%3<=3:=()
 let R:1<=1+v/3%3/\1+v/3%3<=3:=()
 generalize 1+v%3=w at hw;generalize 1+v/3%3=h at R;let sz:=a0C hw R;let h6:(1<=w/\w<=6)/\1<=h/\h<=6:=()
 let⟨l48,X⟩:=a2r w (qQ hw) h<|qQ R;let⟨_,_,_,l0,upq,_,upR,fr⟩:=gZ _ sz;let nd:(cB w h).Nodup:=AU<|AB upq;let upr:=AB upR;show Æ.mpr (ĝ.mpr<|dG<|aQ ⟨_,rfl,aQ ⟨_,rfl,aQ ⟨_,rfl,aQ ⟨_,rfl,aQ<|aO<|aP rfl rfl<|(sG ⋯<|by decide).mpr ⟨_,rfl,(iE ⋯).mpr ⟨_,rfl,?_⟩⟩⟩⟩⟩⟩);show ZG (λF G=>JL F/\NC w h F G) (k+7) ns w h ⟨a0V,a1A _⟩ (λF G u n a o hu L P J=>⟨a0W F u n a hu L J.1,a0X sz (J.1.wf sz) P hu L J.2⟩) hw R 2 (v/9%6) ⋯ () nd X l0 _ _ λa b F Z μ2 p2 I J=>ŕ.mpr ?_;let wf:=J.1.wf sz;let E:aEn w h F (GZ Z):=⟨sz,wf,nd,I.pl,J.2⟩;show bD<|dG<|aQ<|aS rfl<|a2l (k+7) sz nd I.di I.hw I.hi I.hh I.pl _ λl μ3 p3 g3=>aQ ⟨_,rfl,_,rfl,?_⟩;let cl:(oD w h F).length<=48:=Ģ (Ž _ _) l48;show a2m (k+7) ns (T:=AM w h F (aI<|GZ Z)) (by ext AM;rw[Ã];lia) g3 _ λc S μ4 p4 g4 eS okS=>?_;let kS:S.map (·.1)=oD w h F:=by rw[eS];ext AM;rw[å];show OB _
 let lS:S.length<=48:=by have:=congrArg İ kS;rw[Ã]at this;lia
 let H:∀m∈S,m.1∈bH w h/\F (sA m.1)≠F (sB m.1):=λm A=>by
  have:m.1∈oD w h F:=by rw[<- kS];show Õ.mpr ⟨m,A,rfl⟩
  let⟨h1,h2⟩:=Ī.mp this;show⟨h1,by apply h2⟩
 let mkS:∀m∈S,m.2="o"\/m.2=cK F (aI<|GZ Z) m.1:=λm A=>(okS m A).imp id λz=>by let⟨e,_,rfl⟩:=Õ.mp z;rfl
 let upS:((S.map (·.1)).map aV).Pairwise λx y=>HT.lexLt x y=true:=by rw[kS];show upr.sublist<|gk.map _
 let ndS:=AU upS;let mF:xD w h F (bG S):=λe U=>by
  let e1:bG S e=decide (e∈S.map (·.1)):=by ext bG;rw[Ψ,oh,decide_eq_true_iff];show⟨λ⟨x,h1,h2⟩=>by rw[<- beq_iff_eq.mp h2];show h1,λh=>⟨e,h,beq_self_eq_true _⟩⟩
  rw[e1,kS,Ψ,decide_eq_true_iff];show⟨λh=>(Ī.mp h).2,λh=>Ī.mpr ⟨U,h⟩⟩
 let crF:∀m∈S,PY (cB w h) F m.1:=λm A=>by let⟨h1,h2⟩:=H m A;let⟨r1,qa,qb,_⟩:=fr m.1 h1;show⟨r1,qa,qb,(wf.ed m.1 h1).resolve_left h2⟩
 let K:Ũ (TT S w h) S (cK F<|aI<|GZ Z):=⟨Ξ F _,Mp E hw R mF,mkS⟩;let okm:∀m∈S,DY m.2:=λm A=>(K.ok A).imp id Or.symm;let hb:=a2j E hw R mF;let L:oX (j7 (bG S) w h):=a2k E hw R mF;let hS:cu S:=⟨(),ndS,λm A=>K.ok A⟩;show bD (aS rfl<|a2p (k+6) sz () upS (λm A=>(H m A).1) okm g4 _ λμ5 p5=>?_);let Y:=p3.trans<|p4.trans p5;let d5:Dr (cB w h) μ5 a b F (cB w h) Z:=⟨aD Y I.hw,.refl _,I.hi.more Y,aD Y I.hh,I.pl⟩;let g5:=aD p5 g4;show Æ.mpr<|Ñ.mpr<|Dq<|cZ<|aO<|aS rfl<|a1c (k+4) sz wf nd d5 (λe U x T ne sp s0 s1 hp=>E.cr U T ne sp hp) _ λμ6 p6=>⟨_,rfl,?_⟩;show Ę.mpr ⟨_,rfl,rfl,sL<|gW (b:=dI)<|aS rfl<|a2q (k+4) nd X wf.di (.refl _) lS crF (d5.more p6).hw (d5.more p6).hi (d5.more p6).hh (d5.more p6).pl mkS _ λB p7=>⟨rfl,gO rfl<|Ì.mpr<|bD<|ã.mpr<|fU<|É.mpr<|Ó.mpr<|aS rfl ?_⟩⟩;let Pc:=p6.trans p7;let d8:=d5.more<|Pc.trans<|aR B<|C.dT [];show K7 (k+5) nd X wf.di (.refl _) lS crF d8.hw d8.hi d8.hh d8.pl _ λm μ8 p8 lm g8=>(eE g8).mpr ?_;let ndM:((iY (cK F<|aI<|GZ Z) S).map (·.1)).Nodup:=by ext iY;rw[å];show ndS
 let lM:(iY (cK F<|aI<|GZ Z) S).length<=48:=by ext iY;rw[Ã];show lS
 let vM:∀{e},e∈S.map (·.1)->a9 (cW<|iY (cK F<|aI<|GZ Z) S) (aV e)=b3 (.str<|cK F (aI<|GZ Z) e):=λ{e} U=>by let⟨x,T,rfl⟩:=Õ.mp U;show Em ndM (m:=(x.1,cK F (aI<|GZ Z) x.1))<|Õ.mpr ⟨x,T,rfl⟩
 let nl:B.length≠m:=Ā (Ļ (by rw[ć];show Ϥ _) lm);show jD (λi j g=>Sx [b3<|.rol<|ns.map D.int,b3<|.int v,b3<|.int w,b3<|.int h,b3<|.loc a,b3<|.loc b,b3<|.loc c,b3<|SH w h S] [b4,b4,b4,b4,b4,b4] B.length B (iY (cK F<|aI<|GZ Z) S) i j g/\g[m]?=b3 (.lst<|(iY (cK F<|aI<|GZ Z) S).map MD)) ⟨.mk ((aR _ _).trans p8)<|by rw[nj];show aD p8<|bE _ _,g8⟩ (λ_ _ _ z=>z.2) ?_ ?_
 .rintro i d j μ9 hd ⟨⟨p9,g9⟩,gm⟩;let⟨x,T,rfl⟩:=DU hd;replace T:(iY (cK F<|aI<|GZ Z) S)[i]?=b3 x:=T;let L:=qR ndM (n:=i) (x:=x.1) (by rw[ÿ,T];rfl);rw[<- yw]at L;let lt:=ig i<|iY (cK F<|aI<|GZ Z) S;show⟨_,rfl,ĉ.mpr ⟨_,rfl,_,rfl,_,rfl,(lW g9 (b8 x.1)<|by ext cW;rw[Ã,ò];lia).mpr ⟨.mk (cX p9 (Ø _) _) ?_,?_⟩⟩⟩
  .rw[cS g9,LG L,jK T]
  .rw[ô nl];show gm
 .rintro j μ9 ⟨⟨p9,g9⟩,_⟩;rename_i y9 y10;rw[show(MK (λp=>(p.1,cK F (aI<|GZ Z) p.1)) S)=iY (cK F<|aI<|GZ Z) S from rfl,Ã,ź]at g9;show⟨rfl,fU<|É.mpr<|Ó.mpr<|aS rfl<|KS (k+3) h6.1 h6.2 hb L _ _ λt μA pA _ gA=>?_⟩;rw[LO]at gA;let gB:=aD pA g9;show(eE gA).mpr<|jD (λi j g=>μA<+:g/\∃M N O Q,j=[b3<|.rol<|ns.map D.int,b3<|.int v,b3<|.int w,b3<|.int h,b3<|.loc a,b3<|.loc b,b3<|.loc c,b3<|SH w h S,b3<|.loc B.length,y9,y10,M,N,O,Q,b4,b4]) ⟨ď _,_,_,_,_,rfl⟩ (λ_ _ _ z=>aD z.1 gA) ?_ ?_
  .rintro i d j μB hd ⟨pB,M,N,O,Q,rfl⟩;rw[ÿ]at hd;let⟨s,hs,rfl⟩:=ì.mp hd;let hsT:=ķ hs;obtain⟨⟨s1,s2⟩,_⟩:=Ea hsT;let it:∀{e},e∈S.map (·.1)->bF (.loc B.length) (PP e) μB=b3 (.str<|cK F (aI<|GZ Z) e,μB):=λ{e} U=>eL<|(Dh (aD pB gB) (b8 e)<|vM U).mpr rfl;let z:=Mp E hw R mF s hsT;show⟨_,rfl,Ñ.mpr<|cZ<|aO<|aO<|aP rfl rfl ⟨_,it s1,aP rfl rfl ⟨_,it s2,_,uU b5 _ _ _,_,rfl,_,Mb _ _ _,_,rfl,gO (a1D (Ξ F _ _) (Ξ F _ _) z)<|Ì.mpr ⟨pB,_,_,_,_,rfl⟩⟩⟩⟩
  .rintro j μB ⟨pB,M,N,O,Q,rfl⟩;let hI:∀m∈S,AV w h m.1:=λm A=>by ext AV;rw[show(j5 w h).filter pN=bH w h from Lc _ sz];show(H m A).1
   show⟨rfl,sJ<|cZ<|aO<|aS rfl<|a1Q k h6.1 h6.2 K hS hI hb L _ _ λμC pC=>⟨_,rfl,Ę.mpr ⟨_,rfl,rfl,nX ?_⟩⟩⟩;show bD<|aS rfl<|a1z k h6.1 h6.2 hS hb L (dm:=mG (TT S w h) S (cK F<|aI<|GZ Z)) (λe h _=>Ũ.h0 h) K.h1 _ _ λq μD pD _ gD=>?_;replace gD:μD[q]?=b3 (.lst<|(iY (mG (TT S w h) S<|cK F<|aI<|GZ Z) S).map MD):=by rw[gD];ext iY;rw[å];rfl
   let Pa:=pA.trans<|pB.trans<|pC.trans pD;let Pb:=Pc.trans<|p9.trans Pa;let lD:(iY (mG (TT S w h) S<|cK F<|aI<|GZ Z) S).length=S.length:=Ã ..;show sJ (cZ<|aO<|Ms (n:=15) rfl rfl () gD _ λb1 μE pE gE=>Ms (n:=6) rfl rfl () (aD (Pb.trans pE) g5) _ λb2 μF pF gF=>?_);rw[show(iY (mG (TT S w h) S<|cK F<|aI<|GZ Z) S).map (·.1)=S.map (·.1) by ext iY;rw[å];rfl]at gE;show a2s (aD pF gE) gF ⟨_,rfl,rfl,nX ?_⟩;let pDF:=pE.trans pF;let gq:=aD pDF gD;let gc:=aD (Pb.trans pDF) g5;let gl:=aD (Pa.trans pDF) g9;show fU<|É.mpr<|(Ag (j:=0)).mpr<|aQ<|aS rfl<|(jF gq).mpr ⟨_,rfl,?_⟩;rw[Ã,lD];show⟨⟨(),()⟩,?_⟩;dsimp;rw[bw];show qM (λi j g=>μF<+:g/\∃z9 NZ NY,j=[b3<|.rol<|ns.map D.int,b3<|.int v,b3<|.int w,b3<|.int h,b3<|.loc a,b3<|.loc b,b3<|.loc c,b3<|SH w h S,b3<|.loc B.length,z9,NZ,M,N,O,Q,b3<|.loc q,NY]) ⟨ď _,_,_,_,rfl⟩ ?_ ?_
   .rintro i j g hi ⟨pG,z9,NZ,NY,rfl⟩;show⟨_,rfl,?_⟩;rw[OJ];let A:S[i]?=b3 S[i]:=ā hi;generalize S[i]=m' at A;let hmS:=ķ A;let i1:bF (.loc q) (.int (i:Int)) g=b3 (MD (m'.1,mG (TT S w h) S (cK F<|aI<|GZ Z) m'.1),g):=eL ((dX (aD pG gq)<|uK<|by ext iY;rw[ÿ,ÿ,A];rfl).mpr rfl);let i2:bF (.loc c) (.int (i:Int)) g=b3 (MD m',g):=eL ((dX (aD pG gc)<|uK<|by rw[ÿ,A];rfl).mpr rfl);let i3:bF (.loc B.length) (PP m'.1) g=b3 (.str<|cK F (aI<|GZ Z) m'.1,g):=eL<|(Dh (aD pG gl) (b8 _)<|vM<|Õ.mpr ⟨m',hmS,rfl⟩).mpr rfl;let⟨k1,k2⟩:=K.told hmS;show Æ.mpr<|ĝ.mpr<|aP rfl rfl ⟨_,i1,ŕ.mpr<|Ñ.mpr<|Dq<|cZ<|aP rfl (eL<|â.mpr<|aQ ⟨_,rfl,aQ<|aP rfl rfl ⟨_,i3,_,rfl,gN,rfl⟩⟩) ⟨_,a2t _ _ _ _,_,rfl,?_,?_⟩⟩
    .rcases k1 with e|e<;>rw[e]
     .rw[beq_self_eq_true];rfl
     .rw[beq_self_eq_true];cases("o":Str)==cK F (aI<|GZ Z) m'.1<;>rfl
    .show Ğ.mpr<|cZ<|aP (x:=.str m'.2) (eL<|aO<|aP rfl rfl ⟨_,i2,_,rfl,ú.mpr rfl⟩) rfl ⟨_,uU dI _ _ _,_,rfl,?_⟩;cases hb:m'.2==("o":Str)with
     |true=>show gO rfl (gO rfl<|Ì.mpr ⟨pG,_,_,_,rfl⟩)|false=>show kW rfl<|cZ<|aP (y:=.str m'.2) rfl (eL<|aO<|aP rfl rfl ⟨_,i2,_,rfl,ú.mpr rfl⟩) ⟨_,uU dI _ _ _,_,rfl,?_⟩;rw[k2<|beq_eq_false_iff_ne.mp hb,beq_self_eq_true];show gO rfl<|Ì.mpr ⟨pG,_,_,_,rfl⟩
   .rintro j g ⟨pG,z9,NZ,NY,rfl⟩;show⟨rfl,cI ⟨_,rfl,rfl⟩⟩
def a2v:∀ns:List Int,ns.length<=63->∃μ',mT S ds 11 "law" [.rol<|ns.map D.int] []=b3 (.bl dI,μ'):=λns _=>by obtain⟨⟨d,μ'⟩,h1,a⟩:=a2u 0 ns [];dsimp at a;subst a;show⟨μ',?_⟩;unfold f at h1;show h1
def dz Q:Ad (Kx Q) ds:=by ext Ad;kernel_rfl
def cz Q:Ja (Kx Q) S.con=true:=""
def nz Q:S.no.map (rn (Kx Q) Ų)=S.no.map λ_=>b3 none:=""
def a2w{P:ť}{w:ĳ}{Q:ϑ}
  {a:Addr}{o:aq}{i:aq}{q:aq}{j:aq}{b:Nat}
  (g_TURNED:rn (Kx Q) Ų "TURNED"=b3 (b3<|.ref a))
  (hd0:(Kx Q).lookup a=b3 {cls:=.type "dict",data:=.dict #[⟨hashStr w "h",.str "h" o,.str "v" i⟩,⟨hashStr w "v",.str "v" q,.str "h" j⟩] b})
  (zd0:(a==ľ)=b5)
  {h:ñ}{d:Str → Option Value}(X:(Kx Q).In h)(G:h.Ns Ų d):ŧ P w (Kx Q) d S ds ∧ ∃f g,ϧ (Kx Q) "law" "law" (aU 93) f g ∧ d "law"=b3 (.ref f) ∧ ∀(s:Ù)(u:Value),jy s g ⟨[u],[]⟩ [("_law_script",u)]:=by
 show⟨⟨WQ<|by decide +kernel,WR λp n=>(IX X G (dz Q) p n).1,WS<|WZ X G<|cz Q,λx c e=>?_,WV<|WY X G<|nz Q⟩,WX X G (dz Q) ""<|by kernel_rfl⟩
 .show WT ?_ x c e;show List.forall_mem_cons.mpr ⟨⟨a,[(ύ "h",(.str "v")),(ύ "v",(.str "h"))],[(ύ "h",lX "v" i),(ύ "v",lX "h" j)],NB X G g_TURNED,zd0,λv k=>WU (ks:=[ύ "h",ύ "v"]) (k _ _ hd0) (.cons (IQ _ _) rfl rfl<|.cons (IQ _ _) rfl rfl<|.nil) (by decide +kernel) rfl,.cons ⟨rfl,⟨_,rfl⟩⟩<|.cons ⟨rfl,⟨_,rfl⟩⟩<|.nil,λ_ _ _=>.cons (.str _)<|.cons (.str _)<|.nil⟩,λ_ z=>nomatch z⟩
end Lw
open PySem PySem.W PyProof.Rows
set_option maxRecDepth 100000 in
set_option maxHeartbeats 0 in
theorem PySem.Challenge.cw_creasecourt_k65_whole_ties_hold_holds : PySem.Challenge.rw_creasecourt_k65_whole_ties_hold.Holds := by
 w_on
 refine holds_law Lw.O3 fun a=>?_
 refine holds_open (q:=Lw.Vw) (loose:=["TURNED"]) (Xt:=fun s=>xlAt Lw.Vw [] s&&recOk (QR<|RG<|Ł Ĺ) s) (XP:=XL Lw.Vw []) (Yf:=Hook.obs (yc Lw.Kx Lw.As Lw.u7)) (Ya:=Hook.val (yc Lw.Kx Lw.As Lw.u7)) (YP:=Hook.says (yc Lw.Kx Lw.As Lw.u7)) (N:=7830) Lw.run (Hook.of _) (Hook.keeps _) (fun s e=>xl_of s (zx.mp e).1) XL.keeps (by rfl) (by rfl) (by rfl) (fun s e=>recFacts_of (zx.mp e).2) (by rfl) (by first|assumption|decide +kernel) (by decide +kernel) ⟨rfl,rfl,rfl,rfl,rfl,by decide +kernel⟩ ?hw ?hc
 case hw=>w_witness2
 k_fill
 refine L3.walkM (l:=Ĺ) (S:=Lw.S) (ds:=Lw.ds) (k:=11) (st:=Lw.aU 93) (x:="_law_script") rfl rfl ⟨rfl,⋯,⋯⟩ (fun w h Y=>PySem.W.kIn_of Y) "" "" ?F fun c h _=>Lw.a2v c h
 case F=>
  intro w d h b G
  refine' @Lw.a2w M2 w _ 406 727 728 729 730 2 ?g_TURNED ?hd0 ?zd0 _ _ b G
  (case g_TURNED=>kernel_rfl)
  (case hd0=>kernel_rfl)
  (case zd0=>exact rfl)
